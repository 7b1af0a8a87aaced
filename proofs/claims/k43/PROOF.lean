import PyProof.Rows.All
import Wide.All
import OpenK.AllK
import Wide.FinOn
import Lean
import PyProof.EqAt
import PyProof.EqKinds
import PyProof.TupleCall
import KE.KTryMore
import PyProof.NsDelKeeps
import PySem.Challenge.RW_lampway_k43_worst_by_chains
set_option compiler.extract_closed false
set_option Elab.async false
set_option linter.all false
set_option autoImplicit true
set_option tactic.hygienic false
set_option genSizeOf false
set_option maxRecDepth 100000
local macro_rules | `(tactic| ac_nf)=>`(tactic| decide +kernel)
local macro_rules | `(tactic| omega)=>`(tactic| first | with_reducible assumption | omega (splitDisjunctions := true))
open Array renaming find?_toList→Z5,getElem?_eq_some_iff→Kv,getElem?_toList→aly,length_toList→zg,toList→aic,toList_append→ph,toList_inj→VJ
open Bool renaming and_eq_true→jX,and_false→abJ,eq_iff_iff→n5,false_and→uZ,false_eq_true→akL,false_ne_true→hh,false_or→pd,or_eq_false_iff→BQ,or_eq_true→y3,or_false→abn,or_true→Hj,true_and→rZ,true_or→t4
open Char renaming toNat→vY
open Except renaming ok→q0
open False renaming elim→ji
open ForInStep renaming yield→yQ
open Function renaming comp→QR
open Int renaming add_mul_emod_self_left→Je,add_zero→ag0,emod_eq_of_lt→qU,emod_lt_of_pos→uN,emod_nonneg→vE,le_refl→ma,mul_lt_mul'→aiB,mul_nonneg→afY,toNat_natCast→lB,toNat_of_nonneg→r4,zero_add→lP
open List renaming all_cons→aaS,all_eq_true→sl,any_cons→yV,any_eq_false→X2,any_eq_true→se,any_map→NX,append_assoc→l8,append_nil→p5,cons_append→tp,contains_cons→Dw,drop_eq_getElem_cons→qP,drop_length→ye,drop_zero→YO,exists_cons_of_ne_nil→rl,ext_getElem→acC,filterMap_cons→V4,filter_append→S1,filter_cons_of_neg→Xp,filter_cons_of_pos→W9,filter_eq_nil_iff→Us,find?→am7,find?_cons→wo,find?_eq_none→Nm,findSome?_cons→Hf,findSome?_eq_none_iff→MA,flatMap_append→vk,flatMap_cons→u',flatMap_nil→aer,flatten_append→ae1,flatten_cons→ub,foldl_append→aeO,getD→VS,getD_eq_getElem?_getD→lJ,getElem?_append_left→m9,getElem?_append_right→k5,getElem?_cons_succ→Dd,getElem?_drop→HF,getElem?_eq_getElem→a_,getElem?_eq_none→adX,getElem?_eq_none_iff→ah1,getElem?_eq_some_iff→bY,getElem?_map→cV,getElem?_of_mem→hD,getElem?_range→oB,getElem?_set_ne→Bb,getElem?_set_self→AM,getElem?_take_of_lt→xk,getElem_idxOf→abO,getElem_inj→OC,getElem_map→vF,getElem_mem→jb,getElem_of_mem→Rz,getElem_range→Li,getElem_take→alU,getElem_toArray→abq,getLast?_append→ahG,getLast?_cons_cons→r0,getLast?_eq_getElem?→LK,head?_eq_none_iff→X',idxOf_cons→aby,idxOf_lt_length_iff→ahq,length→qX,length_append→cC,length_cons→fQ,length_drop→lH,length_filter_le→u3,length_map→aR,length_nil→x2,length_pos_iff→Oy,length_pos_of_mem→alz,length_range→kh,length_singleton→uK,length_take→gZ,lookup→pq,lookup_cons→kv,map→p8,map_append→dA,map_congr_left→Wa,map_cons→eB,map_drop→tW,map_eq_nil_iff→VA,map_map→oS,map_nil→pH,map_take→L9,mem_append→dZ,mem_append_left→nE,mem_append_right→iV,mem_cons→d9,mem_cons_of_mem→gS,mem_cons_self→kO,mem_filter→mG,mem_filterMap→ahH,mem_flatMap→y8,mem_flatten→JJ,mem_map→b2,mem_of_getElem?→bM,mem_of_mem_drop→zY,mem_of_mem_take→td,mem_or_eq_of_mem_set→Nr,mem_range→j2,mem_singleton→eu,nil_append→FF,nodup_append→NY,nodup_cons→xB,nodup_nil→aiI,not_mem_nil→m5,of_mem_zip→RZ,pairwise_iff_getElem→ahS,pairwise_map→Zj,perm_append_comm→aks,perm_middle→al5,range→cY,range_succ→qB,replicate→K1,set_cons_succ→gU,set_cons_zero→gM,size_toArray→ft,sublist_flatten_of_mem→am1,sum_append→wL,sum_cons→nr,sum_nil→Qp,take_add_one→nC,take_append_drop→FR,take_length→iF,take_of_length_le→Cw,take_zero→ru
open List.Pairwise renaming filter→apQ,imp_of_mem→abv,nil→aoY
open List.Perm renaming append_left→anJ
open List.cons renaming inj→q2
open Nat renaming add_comm→akg,add_mod_right→akb,add_mul→akp,add_sub_cancel→Ho,le_add_right→v_,le_of_eq→DJ,le_of_lt→mM,le_of_not_lt→ak_,le_refl→bP,le_succ→w5,le_trans→cq,log2_lt→ad',lt_irrefl→nj,lt_of_le_of_lt→gI,lt_of_lt_of_le→ho,lt_succ_self→wJ,lt_trans→Uk,lt_trichotomy→abV,min_eq_left→Bo,mod_eq_of_lt→um,mod_eq_sub_mod→akv,mul_le_mul→ald,mul_le_mul_right→sL,mul_pos→Y9,ne_of_gt→yq,ne_of_lt→gd,reduceAdd→acq,reduceSub→aal,sub_self→v8,succ_mul→qC,toDigits→t_,zero_le→fg
open Ne renaming symm→dF
open Option renaming bind_some→vP,getD_none→akH,isSome_iff_exists→aah,isSome_map→Xe,map_eq_some_iff→B2,map_some→D',none→uH,toList→uy
open Option.some renaming inj→eL
open Or renaming inl→qw,inr→kx
open Prod.mk renaming inj→Pf
open PyProof.Rows renaming callWith_builtin1→YF,callWith_type1→zR,iadd_int→apt,slot_tuple_getitem→TB,split_weight→amM
open PySem renaming Within→zF,call→acy,frameOf→Jc,mem_of_lookup→vV
open PySem.Around renaming frames_deeper→alS,under→Pc,under_plainId→Px
open PySem.Builtin.Builtins renaming bindParams→anh
open PySem.Builtin.List renaming listTooLong→V3
open PySem.Builtin.Range renaming rangeSize→aog
open PySem.Builtin.Slice renaming sliceAdjust→Wh,sliceApplied→agX,sliceFields→apn,slicePartIndex→aoK,slicePlaces→HW
open PySem.Builtin.Str renaming occurrences→sV,partsBetween→aiQ,strKind→ack,tooLong→Wm
open PySem.Builtin.Tuple renaming tupleExact→J6,tupleItemsOf→ao3
open PySem.Calls renaming Constant_str→akT,Name_function_global→ain,callWith_builtin→aew
open PySem.CmpOp renaming NotIn→akO
open PySem.Code renaming frames→alq,isFrame→SS,quiet_builtin→abp
open PySem.Data renaming cell→DV,fields→OT
open PySem.EntryCells renaming newEntry→ajT
open PySem.EqMixed renaming eq_bool_str→apM,eq_int_str→aol,eq_str_bool→aoL,eq_str_int→apk,ne_bool_str→apl,ne_int_str→apA,ne_str_bool→aoB,ne_str_int→apv
open PySem.EqNone renaming eq_bool_none→apK,eq_int_none→apY,eq_none_bool→aoZ,eq_none_int→ao0,eq_none_none→aom,eq_none_str→apE,eq_str_none→ao9,ne_bool_none→an9,ne_int_none→aoi,ne_none_bool→aoJ,ne_none_int→apy,ne_none_none→aop,ne_none_str→apz,ne_str_none→apD
open PySem.F renaming args_list_index_2→adL,args_str_split_2→WI,entry_list_index→aad,entry_max_loop→O6,entry_str_split→Q5,excBase_ValueError→ZV,plainAttrs_list→e2,plainAttrs_str→r2,plain_max_loop→uM,slot_dict_getitem→ak9,slot_list_append→h2,slot_list_extend→qK,slot_list_index→Et,slot_list_insert→Wu,slot_list_pop→XG,slot_str_join→Cn,slot_str_split→CF,slot_str_upper→ak0,type_list_append→iC,type_list_extend→rb,type_list_index→S3,type_list_insert→adA,type_str_join→DC,type_str_split→alZ,type_str_upper→al'
open PySem.Heap renaming MadeExcOf→afa,SameBut→zm,get?_none_of_le→SM,get?_push_of_some→ed,get?_push_size→hS,get?_update_other→lL,get?_update_self→ur,lt_size→d1,size_push→WJ,size_update→ai8
open PySem.Heap.IsSliceOf renaming new→an2
open PySem.Heap.Ns1 renaming of_empty→YN
open PySem.NameKind renaming cell→RJ,free→qT
open PySem.NumText renaming digitsVal→VV
open PySem.Obj renaming data_mapFields→Q2,isFreed_of_fields→Y0,mapFields→rF,mapSeq→xt
open PySem.Paired renaming length→Kj,snoc→VF
open PySem.PassesOwn renaming never→eJ
open PySem.SeqAt renaming EqAt→Zz,list_indexAt→agD
open PySem.SeqAt.EqAt renaming bool_bool→Ym,int_str→akV,str_int→afN
open PySem.Str renaming cps_append→nI,ext'→acV,join→d_,length→uY,ofString→ah
open PySem.StrLaws renaming glued_eq_join→wY,reprText_len→aoG,sliceText→uO
open PySem.Txt renaming join→qA,slice→mv,slice_le→vC,split→iM,upper→v3
open PySem.Value renaming bool→hX,builtin→vS,bytes→MS,float→DT,int→nW,isInt→ae0,isStrOf→acx,none→k1,ref→dU,str→sM,type→Nd
open PySem.W renaming CodeHd→vw,Frag→bc,InitBack→aaV,InstAt→IZ,Looks→L0,any_some→CA,bind_fn→ajy,callWith_K→xM,callWith_K0→YS,cellsFrom_some→ab8,clsIn→ajg,cls_value→age,codeHdIn→aci,codeIn→S9,emptyDict→kH,envX→I0,exmOne→G',findCls→ahf,findIn→el,fnOf→yg,handedIn→adS,hasDictIn→AD,instObj→sj,isFn→MT,keepIn→qm,kia_one→o2,kitOne→ad1,kitx_dict→aff,kitx_list→ahN,kla_fn→alD,kla_obj→xy,lookIn→z9,looks_clsIn→Nt,looks_findIn→CJ,looks_mroIn→YY,makesIn→aiw,methodCall_KW→Al,methodObj→Td,method_cls→ahz,mroIn→xc,noTabs→XH,nsIn→P1,plainGet→Fx,plainGet_of→V_,plainOver→Xt,readsIn→ab_,set_plain→ant,specialIn→u_,tabObj→PA,takerIn→VG,takesIn→K5,typeIn→TA
open PySem.W.KIN renaming signs_num→Zq
open PySem.W.KOpn renaming upper_app→apx,upper_one→an6
open PySem.W.Looks renaming here→Z2,ld→ao'
open PySem.W.WData renaming int→ajX
open PySem.W.WShape renaming has→aeh
open PySem.Walks renaming list→L8
open PySem.Within renaming cons→aeW
open Sum renaming inl→ry,inr→cx
open Sum.inr renaming inj→BV
open True renaming intro→hu
namespace L2
open PySem PySem.Spec PyProof.Rows
noncomputable abbrev Key:=Sum Int Str
noncomputable def t9:Key->Value->Bool
 | .inl k,v=>ae0 k v
 | .inr x,v=>acx x v
noncomputable def aii (w:World):Key->Int
 | .inl k=>hashInt k
 | .inr x=>hashStr w x
theorem qn:∀ {k:Key} {v:Value},t9 k v=true->(∃ i t,k=ry i/\v=nW i t)\/(∃ x t,k=cx x/\v=sM x t)
 | .inl i,v,h=>by
  obtain ⟨t,e⟩:=Value.isInt_shape (k:=i) (v:=v) h;exact .inl ⟨i,t,rfl,e⟩
 | .inr x,v,h=>by
  obtain ⟨t,e⟩:=Value.isStrOf_shape (x:=x) (v:=v) h;exact .inr ⟨x,t,rfl,e⟩
theorem ak6 (i:Int) (t:Tok):t9 (.inl i) (.int i t)=true:=by simp [t9,ae0]
theorem agg (x:Str) (t:Tok):t9 (.inr x) (.str x t)=true:=by simp [t9,acx]
theorem af9 (a b:Int):decide ((ry a:Key)=ry b)=(a == b):=by
 by_cases e:a=b
 .subst e;simp
 .have h:¬ (ry a:Key)=ry b:=fun q=>e (Sum.inl.inj q)
  rw [decide_eq_false h];exact (beq_eq_false_iff_ne.mpr e).symm
theorem ZT (a b:Str):decide ((cx a:Key)=cx b)=decide (a=b):=by
 by_cases e:a=b
 .subst e;simp
 .have h:¬ (cx a:Key)=cx b:=fun q=>e (BV q)
  rw [decide_eq_false h,decide_eq_false e]
theorem akc (a:Int) (b:Str):decide ((ry a:Key)=cx b)=false:=decide_eq_false (fun q=>nomatch q)
theorem YX (a:Str) (b:Int):decide ((cx a:Key)=ry b)=false:=decide_eq_false (fun q=>nomatch q)
noncomputable def j_ (prog:Program) (w:World):PySem.KeyKind prog w Key where
 is:=t9
 hash:=aii w
 inj:=fun v a b aK ae=>by
  rcases qn aK with ⟨i,t,rfl,rfl⟩ | ⟨x,t,rfl,rfl⟩
  .rcases qn ae with ⟨j,u,rfl,e⟩ | ⟨y,u,rfl,e⟩
   .injection e with ao _;rw [ao]
   .exact nomatch e
  .rcases qn ae with ⟨j,u,rfl,e⟩ | ⟨y,u,rfl,e⟩
   .exact nomatch e
   .injection e with ao _;rw [ao]
 byValue:=fun k v h=>by
  rcases qn h with ⟨i,t,rfl,rfl⟩ | ⟨x,t,rfl,rfl⟩ <;> rfl
 pyHash:=fun aG h=>by
  rcases qn aG with ⟨i,t,rfl,rfl⟩ | ⟨x,t,rfl,rfl⟩
  .exact wpAny_pyHash_int h
  .exact wpAny_pyHash_str h
 eqBool:=fun b7 aG h=>by
  rcases qn b7 with ⟨i,t,rfl,rfl⟩ | ⟨x,t,rfl,rfl⟩
  .rcases qn aG with ⟨j,u,rfl,rfl⟩ | ⟨y,u,rfl,rfl⟩
   .rw [af9] at h;exact wpAny_eqBool_int h
   .rw [akc] at h;exact akV i t y u _ _ _ _ h
  .rcases qn aG with ⟨j,u,rfl,rfl⟩ | ⟨y,u,rfl,rfl⟩
   .rw [YX] at h;exact afN x t j u _ _ _ _ h
   .rw [ZT] at h;exact wpAny_eqBool_str h
 «strs»:=fun k x t v h=>by
  rcases qn h with ⟨i,u,rfl,e⟩ | ⟨y,u,rfl,e⟩
  .exact nomatch e
  .injection e with ao _;subst ao;cases v <;> rfl
theorem aiq (prog:Program) (w:World) (i:Int) (t:Tok):(j_ prog w).is (.inl i) (.int i t)=true:=ak6 i t
theorem ajJ (prog:Program) (w:World) (x:Str) (t:Tok):(j_ prog w).is (.inr x) (.str x t)=true:=agg x t
inductive V where
 | cg | bw (b:Bool) | int (i:Int) | str (x:Str) | lG (b:Array UInt8) | s8 (b:UInt64) | ref (a:Addr) | ty (n:String)
 deriving DecidableEq
noncomputable def b1:V->Value->Prop
 | .cg,u=>u=k1
 | .bw b,u=>u=hX b
 | .int i,u=>∃ t,u=nW i t
 | .str x,u=>∃ t,u=sM x t
 | .lG b,u=>∃ t,u=MS b t
 | .s8 b,u=>∃ t,u=DT b t
 | .ref a,u=>u=dU a
 | .ty n,u=>u=Nd n
noncomputable abbrev cj:List V->List Value->Prop:=Paired b1
theorem cj.length (r:cj xs us):xs.length=us.length:=Kj r
theorem cj.get:∀ {xs:List V} {us:List Value} {i:Nat} {x:V},cj xs us->xs[i]? = some x->∃ u,us[i]? = some u/\b1 x u
 | _,_,_,_,.nil,e=>by simp at e
 | _,_,0,_,.cons r _,e=>by simp at e;subst e;exact ⟨_,rfl,r⟩
 | _,_,i + 1,x,.cons _ t,e=>by
  obtain ⟨u,ab,ai⟩:=cj.get (i:=i) (x:=x) t (by simpa using e);exact ⟨u,by simpa using ab,ai⟩
theorem cj.append:∀ {xs ys:List V} {us ws:List Value},cj xs us->cj ys ws->cj (xs ++ ys) (us ++ ws)
 | _,_,_,_,.nil,s=>s
 | _,_,_,_,.cons r t,s=>.cons r (cj.append t s)
theorem cj.take:∀ {xs:List V} {us:List Value} (n:Nat),cj xs us->cj (xs.take n) (us.take n)
 | _,_,0,_=>.nil
 | _,_,_ + 1,.nil=>.nil
 | _,_,n + 1,.cons r t=>.cons r (cj.take n t)
theorem cj.drop:∀ {xs:List V} {us:List Value} (n:Nat),cj xs us->cj (xs.drop n) (us.drop n)
 | _,_,0,r=>r
 | _,_,_ + 1,.nil=>.nil
 | _,_,n + 1,.cons _ t=>cj.drop n t
noncomputable def iO:Option V->Option Value->Prop
 | some v,some u=>b1 v u
 | none,none=>True
 | _,_=>False
noncomputable def gm {fC:Type}:List (fC × V)->List (fC × Value)->Prop:=Paired fun (p:fC × V) (q:fC × Value)=>p.1=q.1/\b1 p.2 q.2
noncomputable def et:Key->V
 | .inl i=>.int i
 | .inr x=>.str x
inductive gL where
  | lst (xs:List V)
  | tup (xs:List V)
  | di (aA:List (Key × V)) | fX (aA:List (List Key × V))
  | set (S:Int->Bool) (n:Nat)
  | ins (C ax:Addr) (aO:List (Str × V))
  | own (x:Addr)
  | AF (aO:List (Str × V))
  | met (f x:Addr)
  | Dl (lo ag:Int)
  | ja (o:Obj) (u:gL)
  | hn (ps:Array Value)
  | ext (vc:Heap->Prop)
noncomputable abbrev au:=Addr->Option gL
noncomputable def upd (H:au) (a:Addr) (o:gL):au:=fun b=>if b=a then some o else H b
theorem aS:upd H a o a=some o:=by unfold upd;rw [if_pos rfl]
theorem aZ (h:b ≠ a):upd H a o b=H b:=by unfold upd;rw [if_neg h]
theorem s9:upd (upd H a o) a u=upd H a u:=by
 funext b;unfold upd;split <;> rfl
theorem eI {H:au} {a b:Addr} {o u:gL} (h:H a=some o) (h':H b=some u) (d:o ≠ u):a ≠ b:=by
 intro e;subst e;rw [h] at h';exact d (eL h')
theorem Db {H:au} {a b:Addr} {o:gL} (h:H a=some o) (h':H b=none):a ≠ b:=by
 intro e;subst e;rw [h] at h';cases h'
section
variable (P:Program) (w:World)
noncomputable def dS (H:au) (h:Heap) (a:Addr):gL->Prop
 | .lst xs=>xs.length <= sizeLine/\∃ (a4:List Value) (n:Nat),cj xs a4/\h.get? a=some { cls:=.type "list",data:=.seq a4.toArray n }
 | .tup xs=>(xs.length <= sizeLine/\∃ cU,h.get? a=some cU/\cU.dict=none)/\∃ a4:List Value,cj xs a4/\IsTup h a a4.toArray
 | .di aA=>aA.length <= sizeLine/\(a == sysModules)=false/\∃ vs,gm aA vs/\h.DictOf (j_ P w) a vs
 | .fX aA=>aA.length <= sizeLine/\(a == sysModules)=false/\∃ xs:List (List Key × Addr × Value),
   Paired (fun (p:List Key × V) (q:List Key × Addr × Value)=>p.1=q.1/\H q.2.1=some (.tup (p.1.map et))/\b1 p.2 q.2.2) aA xs /\
   ∃ o aT cE,h.get? a=some o/\o.ExactDict/\o.data=.dict aT cE/\aT.toList=xs.map (entryOfKey (tupleKind (j_ P w)))/\(xs.map (·.1)).Nodup
 | .set S n=>h.SetOf (intKind P w) a S n
 | .ins C ax aO=>H ax=some (.own a)/\aO.length <= 1000/\ax ≠ a/\h.get? a=some (sj C ax) /\
   ∃ dV,h.Ns1 ax dV/\(∀ f,iO (aO.lookup f) (dV f))/\zF dV (aO.map (·.1))
 | .own _=>∃ o,h.get? a=some o
 | .AF aO=>∃ dV,h.Ns1 a dV/\∀ f,iO (aO.lookup f) (dV f)
 | .Dl lo ag=>∃ t u v,h.get? a=some { cls:=.type "range",data:=.fields #[.int lo t,.int ag u,.int 1 v] }
 | .ja o u=>h.get? a=some o/\dS H h a u
 | .hn ps=>h.get? a=some { cls:=.none,data:=.fields ps }
 | .met f x=>h.get? a=some (Td (.ref f) (.ref x))
 | .ext vc=>vc h/\(∃ o,h.get? a=some o)/\∀ ab ai:Heap,vc ab->(∀ o,ab.get? a=some o->ai.get? a=some o)->vc ai
def eM (H:au) (h:Heap):Prop:=∀ a o,H a=some o->dS P w H h a o
end
section
variable {P:Program} {w:World} {H I:au} {h h':Heap} {a:Addr} {o:gL}
theorem dS.lt (x:dS P w H h a o):a < h.objs.size:=by
 cases o with
 | lst xs=>obtain ⟨_,_,_,_,e⟩:=x;exact d1 e
 | tup xs=>obtain ⟨_,_,_,p⟩:=x;exact p.lt
 | di aA=>obtain ⟨_,_,_,_,o,_,_,e,_⟩:=x;exact d1 e
 | fX aA=>obtain ⟨_,_,_,_,o,_,_,e,_⟩:=x;exact d1 e
 | set S n=>obtain ⟨o,_,_,_,e,_⟩:=x;exact d1 e
 | ins C ax aO=>obtain ⟨_,_,_,e,_⟩:=x;exact d1 e
 | own y=>obtain ⟨_,e⟩:=x;exact d1 e
 | AF aO=>obtain ⟨_,⟨_,_,_,e,_⟩,_⟩:=x;exact d1 e
 | Dl lo ag=>obtain ⟨_,_,_,e⟩:=x;exact d1 e
 | ja cU u=>obtain ⟨e,_⟩:=x;exact d1 e
 | hn ps=>exact d1 (show h.get? a=some _ from x)
 | met f y=>exact d1 (show h.get? a=some _ from x)
 | ext vc=>obtain ⟨_,⟨_,e⟩,_⟩:=x;exact d1 e
theorem Paired.q1:∀ {l₁:List α} {l₂:List β},Paired F l₁ l₂->(∀ a b,F a b->G a b)->Paired G l₁ l₂
 | _,_,.nil,_=>.nil
 | _,_,.cons r t,f=>.cons (f _ _ r) (Paired.q1 t f)
theorem dS.nv (x:dS P w H h a o) (k:∀ b u,(b=a\/H b=some (.own a))->h.get? b=some u->h'.get? b=some u)
  (aW:∀ b,H b=some (.own a)->I b=some (.own a)) (dQ:∀ b xs,H b=some (.tup xs)->I b=some (.tup xs)):dS P w I h' a o:=by
 induction o with
 | lst xs=>obtain ⟨z,a4,n,r,e⟩:=x;exact ⟨z,a4,n,r,k _ _ (.inl rfl) e⟩
 | tup xs=>obtain ⟨⟨z,Zi,yK,afV⟩,a4,r,cU,e,c⟩:=x;exact ⟨⟨z,Zi,k _ _ (.inl rfl) yK,afV⟩,a4,r,cU,k _ _ (.inl rfl) e,c⟩
 | di aA=>obtain ⟨z,y,vs,r,cU,aT,cE,e,c⟩:=x;exact ⟨z,y,vs,r,cU,aT,cE,k _ _ (.inl rfl) e,c⟩
 | fX aA=>
  obtain ⟨z,y,xs,r,cU,aT,cE,e,c⟩:=x;exact ⟨z,y,xs,Paired.q1 r fun p q z=>⟨z.1,dQ _ _ z.2.1,z.2.2⟩,cU,aT,cE,k _ _ (.inl rfl) e,c⟩
 | set S n=>obtain ⟨cU,aT,cE,t,e,c⟩:=x;exact ⟨cU,aT,cE,t,k _ _ (.inl rfl) e,c⟩
 | ins C ax aO=>
  obtain ⟨d,z,ne,e,dV,⟨br,aT,cE,aC,c⟩,r⟩:=x;exact ⟨aW _ d,z,ne,k _ _ (.inl rfl) e,dV,⟨br,aT,cE,k _ _ (.inr d) aC,c⟩,r⟩
 | own y=>obtain ⟨cU,e⟩:=x;exact ⟨cU,k _ _ (.inl rfl) e⟩
 | AF aO=>obtain ⟨dV,⟨br,aT,cE,e,c⟩,r⟩:=x;exact ⟨dV,⟨br,aT,cE,k _ _ (.inl rfl) e,c⟩,r⟩
 | Dl lo ag=>obtain ⟨t,u,v,e⟩:=x;exact ⟨t,u,v,k _ _ (.inl rfl) e⟩
 | ja cU u c2=>obtain ⟨e,q⟩:=x;exact ⟨k _ _ (.inl rfl) e,c2 q⟩
 | hn ps=>
  have e:h.get? a=some { cls:=.none,data:=.fields ps }:=x;show h'.get? a=some { cls:=.none,data:=.fields ps };exact k a _ (.inl rfl) e
 | met f y=>
  have e:h.get? a=some (Td (.ref f) (.ref y)):=x;show h'.get? a=some (Td (.ref f) (.ref y));exact k a _ (.inl rfl) e
 | ext vc=>obtain ⟨p,⟨o,e⟩,st⟩:=x;exact ⟨st _ _ p fun o q=>k _ _ (.inl rfl) q,⟨o,k _ _ (.inl rfl) e⟩,st⟩
theorem eM.lt (x:eM P w H h) (e:H a=some o):a < h.objs.size:=(x a o e).lt
theorem eM.fresh (x:eM P w H h) (e:h.objs.size <= a):H a=none:=by
 cases q:H a with
 | none=>rfl
 | some u=>exact absurd (ho (x.lt q) e) (nj _)
theorem eM.kept (x:eM P w H h) (k:∀ b u,h.get? b=some u->h'.get? b=some u):eM P w H h':=fun a o e=>
 (x a o e).nv (fun b u _ q=>k b u q) (fun _ q=>q) fun _ _ q=>q
theorem eM.laid (x:eM P w H h) (k:∀ b u,h.get? b=some u->h'.get? b=some u) (aq:h.objs.size <= a) (new:dS P w (upd H a o) h' a o):eM P w (upd H a o) h':=fun b u e=>by
 have aV:=x.fresh aq;by_cases ae:b=a
 .subst ae;rw [aS] at e;cases e;exact new
 .rw [aZ ae] at e;exact (x b u e).nv (fun c v _ q=>k c v q) (fun c q=>by rw [aZ (Db q aV)];exact q) fun c xs q=>by rw [aZ (Db q aV)];exact q
end
def nq (H:au) (a:Addr) (u:gL):Prop:=H a=some u\/∃ o,H a=some (.ja o u)
theorem nq.ok {w:World} {h:Heap} (r:nq H a u) (x:eM P w H h):dS P w H h a u:=by
 rcases r with r | ⟨o,r⟩
 .exact x a u r
 .obtain ⟨_,q⟩:=x a _ r;exact q
noncomputable def nK:Option gL->Prop
 | some (.lst _)=>True
 | some (.di _)=>True
 | some (.fX _)=>True
 | some (.set _ _)=>True
 | some (.ins _ _ _)=>True
 | some (.ext _)=>True
 | _=>False
section
variable {P:Program} {w:World} {H:au} {h h':Heap} {x e:Addr} {eP:gL}
theorem eM.write (ok:eM P w H h) (fi:nK (H x)) (he:e=x\/H e=some (.own x)) (k:∀ b u,b ≠ e->h.get? b=some u->h'.get? b=some u) (uf:∃ u,h'.get? e=some u)
  (new:dS P w (upd H x eP) h' x eP):eM P w (upd H x eP) h':=fun b u q=>by
 have w9:∀ c y,H c=some (.own y)->c ≠ x:=fun c y r z=>by subst z;rw [r] at fi;exact fi
 have Gh:∀ c xs,H c=some (.tup xs)->c ≠ x:=fun c xs r z=>by subst z;rw [r] at fi;exact fi
 by_cases ae:b=x
 .subst ae;rw [aS] at q;cases q;exact new
 .rw [aZ ae] at q;by_cases tl:b=e
  .have cb:H b=some (.own x):=by
    rcases he with z | z
    .exact absurd (tl.trans z) ae
    .rw [tl];exact z
   rw [q] at cb;cases cb;obtain ⟨v,aG⟩:=uf;exact ⟨v,by rw [tl];exact aG⟩
  .refine (ok b u q).nv (fun c v ar r=>k c v ?_ r) (fun c r=>by rw [aZ (w9 c b r)];exact r) fun c xs r=>by rw [aZ (Gh c xs r)];exact r
   rcases ar with rfl | ar
   .exact tl
   .rintro rfl;rcases he with z | z
    .exact w9 c b ar z
    .rw [ar] at z;cases z;exact ae rfl
end
structure gG (aO ex:List Addr) (H I:au) (h h':Heap):Prop where
 keep:∀ b o,h.get? b=some o->H b=none->b ∉ aO->b ∉ ex->h'.get? b=some o
 slot:∀ b o,h.get? b=some o->H b=none->b ∈ aO->b ∉ ex->∃ bk,h'.get? b=some { o with slots:=bk }
 free:∀ b o,h.get? b=some o->H b=none->b ∉ ex->I b=none
 there:∀ b o,h.get? b=some o->b ∉ ex->∃ eP,h'.get? b=some eP
 qj:∀ b xs,H b=some (.tup xs)->I b=some (.tup xs)
 pj:∀ b o u,H b=some (.ja o u)->I b=some (.ja o u)
 oM:∀ b ps,H b=some (.hn ps)->∃ more,I b=some (.hn (ps ++ more))
section
variable {aO pB ex ao4:List Addr} {H H1 az:au} {h ab ai h':Heap} {a x e:Addr} {o:gL}
theorem gG.any (u:gG aO ex H H1 h ab) (q:h.get? b=some cU) (n:H b=none) (af:b ∉ ex):∃ bk,ab.get? b=some { cU with slots:=bk }:=by
 by_cases ae:b ∈ aO
 .exact u.slot b cU q n ae af
 .exact ⟨cU.slots,u.keep b cU q n ae af⟩
theorem gG.kept (k:∀ b u,h.get? b=some u->h'.get? b=some u):gG aO ex H H h h':=
 ⟨fun b cU q _ _ _=>k b cU q,fun b cU q _ _ _=>⟨cU.slots,k b cU q⟩,fun _ _ _ n _=>n,fun b cU q _=>⟨cU,k b cU q⟩,fun _ _ q=>q,fun _ _ _ q=>q,fun _ ps q=>⟨#[],by rw [q];simp⟩⟩
theorem gG.refl:gG aO ex H H h h:=gG.kept fun _ _ q=>q
theorem gG.laid (k:∀ b u,h.get? b=some u->h'.get? b=some u) (aq:h.objs.size <= a) (aV:H a=none):gG aO ex H (upd H a o) h h' where
 keep:=fun b u q _ _ _=>k b u q
 slot:=fun b u q _ _ _=>⟨u.slots,k b u q⟩
 free:=fun b u q n _=>by rw [aZ (gd (ho (d1 q) aq))];exact n
 there:=fun b u q _=>⟨u,k b u q⟩
 qj:=fun b xs q=>by rw [aZ (Db q aV)];exact q
 pj:=fun b u xs q=>by rw [aZ (Db q aV)];exact q
 oM:=fun b ps q=>⟨#[],by rw [aZ (Db q aV),q];simp⟩
theorem gG.write (fi:nK (H x)) (he:e=x\/H e=some (.own x)) (k:∀ b u,b ≠ e->h.get? b=some u->h'.get? b=some u) (uf:∃ u,h'.get? e=some u):gG aO ex H (upd H x o) h h':=by
 have af:∀ b,H b=none->b ≠ x:=fun b n z=>by subst z;rw [n] at fi;exact fi
 have ae:∀ b,H b=none->b ≠ e:=fun b n z=>by
  subst z;rcases he with r | r
  .exact af b n r
  .rw [n] at r;cases r
 have hm:∀ b u,H b=some u->¬ nK (some u)->b ≠ x:=fun b u q nm z=>by subst z;rw [q] at fi;exact nm fi
 refine ⟨fun b u q n _ _=>k b u (ae b n) q,fun b u q n _ _=>⟨u.slots,k b u (ae b n) q⟩,fun b u q n _=>by rw [aZ (af b n)];exact n,fun b u q _=>?_,
  fun b xs q=>by rw [aZ (hm b _ q fun z=>z)];exact q,fun b u xs q=>by rw [aZ (hm b _ q fun z=>z)];exact q,fun b ps q=>⟨#[],by rw [aZ (hm b _ q fun z=>z),q];simp⟩⟩
 by_cases tl:b=e
 .subst tl;exact uf
 .exact ⟨u,k b u tl q⟩
end
noncomputable def DZ (h:Heap) (H:au):List Addr:=(cY h.objs.size).filter fun a=>(H a).isSome
noncomputable def oq (h:Heap) (H:au):Heap:=PySem.W.hideAll h (DZ h H)
theorem ags (h:Heap) (H:au):(oq h H).objs.size=h.objs.size:=PySem.W.hideAll_size _ _
theorem KD {h:Heap} (e:h.get? b=some o) (n:H b=none):(oq h H).get? b=some o:=
 PySem.W.hideAll_get _ e fun hm=>by
  have q:(H b).isSome=true:=(mG.mp hm).2;rw [n] at q;simp at q
theorem ame {h:Heap} (e:(oq h H).get? b=some o):h.get? b=some o/\H b=none:=by
 have bW:h.get? b=some o:=PySem.W.of_hideAll (DZ h H) e;refine ⟨bW,?_⟩;cases q:H b with
 | none=>rfl
 | some x=>
  have hm:b ∈ DZ h H:=mG.mpr ⟨j2.mpr (d1 bW),by simp [q]⟩;have z:(oq h H).get? b=none:=PySem.W.hideAll_none (DZ h H) hm;rw [z] at e;cases e
noncomputable def aeP (g h:Heap) (L:Addr):List (Addr × Obj):=(cY h.objs.size).filterMap fun a=>if a=L\/(g.get? a).isSome=true then none else (h.get? a).map fun o=>(a,o)
noncomputable def rest (g h:Heap) (L d:Addr):List (Addr × Obj):=(aeP g h L).filter fun p=>decide (p.1 ≠ d)
structure Mod (K:bc) (mg:Str->Option Value) (base:Heap):Prop where
 rx:K.In base
 glob:base.Ns mainGlobals mg
 blt:∃ nJ,base.Ns builtinsNs nJ/\∀ x:Str,x ≠ "__name__" -> nJ x=bootBuiltins x
 nolimit:base.NoLimit
structure a0 where
 prog:Program
 w:World
 K:bc
 mg:Str->Option Value
 base:Heap
 A:Around
 N:List Str
 fE:Shared
 sx:au
 env:Env
 outer:List Env
 stack:List Env
 ex:List Addr
 fn:Str->Bool
 calm:Bool
 ey:List (Addr × Obj)
 dz:Value->Shared->Prop
noncomputable def ip (l:List Env):List Addr:=l.filterMap (·.frame)
noncomputable abbrev a0.aO (X:a0):List Addr:=ip X.outer
def BK (sc:Scope) (x:Str):Prop:=sc.names.lookup x=some .local\/sc.names.lookup x=some .cell\/sc.names.lookup x=some .free
def Loc (sc:Scope) (x:Str):Prop:=sc.names.lookup x=some .local\/sc.names.lookup x=some .cell
def acf (env:Env) (h:Heap) (m:Str->Option Value) (x:Str) (u:Value):Prop:=
 (env.kindOf x=some .local/\m x=some u)\/((env.kindOf x=some .cell\/env.kindOf x=some .free)/\∃ c,env.cells.lookup x=some c/\h.IsCell c (some u))
structure a0.Ok (X:a0):Prop where
 mod:Mod X.K X.mg X.base
 kind:X.env.scope.kind=.function
 glob:X.env.globals=mainGlobals
 blt:X.env.builtins=builtinsNs
 above:X.fE.heap.objs.size <= X.env.locals
 inj:∀ x y c,X.env.cells.lookup x=some c->X.env.cells.lookup y=some c->x=y
 has:∀ x,(X.env.kindOf x=some .cell\/X.env.kindOf x=some .free)->∃ c,X.env.cells.lookup x=some c
 p3:∀ x c,X.fn x=true->X.env.cells.lookup x=some c->X.fE.heap.objs.size <= c
 hd:X.calm=true->X.A.handled=none
 frames:X.A.frames=some X.stack
 hr:X.stack=X.outer\/(X.stack=X.env :: X.outer/\X.env.frame=some X.env.locals)
 ux:∀ b ∈ X.ex,b ≠ X.env.locals/\∀ x c,X.env.cells.lookup x=some c->c ≠ b
 bs:∀ b o,X.base.get? b=some o->X.fE.heap.get? b=some o/\X.sx b=none
 lz:X.base.objs.size <= X.fE.heap.objs.size
 p6:∀ b o,X.base.get? b=some o->b ∉ X.ex
 qq:∀ b ∈ X.ex,b ∉ X.aO
 kG:X.fE.heap.FunFrames X.base X.outer
 n9:∀ b ∈ X.aO,X.sx b=none
structure Inv (X:a0) (aa:List (Addr × Obj)) (σ:List (Option V)) (H:au) (s:Shared):Prop where
 ok:X.Ok
 os:s.os=X.fE.os
 bare:AllBare s.gens
 base:gG X.aO X.ex X.sx H X.fE.heap s.heap
 loc:∃ m,s.heap.Ns X.env.locals m/\∀ (i:Nat) (x:Str) (v:V),X.N[i]? = some x->σ[i]? = some (some v)->BK X.env.scope x->∃ u,b1 v u/\acf X.env s.heap m x u
 cell:∀ x c,X.env.cells.lookup x=some c->∃ v,s.heap.IsCell c v
 free:H X.env.locals=none
 jg:∀ x c,X.env.cells.lookup x=some c->H c=none
 pin:∀ p ∈ X.ey ++ aa,s.heap.get? p.1=some p.2/\H p.1=none/\p.1 ≠ X.env.locals/\p.1 ∉ X.aO/\∀ v,p.2.data ≠ .cell v
 bh:eM X.prog X.w H s.heap
 len:σ.length=X.N.length
section
variable {X:a0} {aa:List (Addr × Obj)} {σ:List (Option V)} {H I:au} {s:Shared} {h':Heap}
theorem a0.Ok.xZ (ok:X.Ok) (e:X.base.get? b=some o):b ∉ X.aO:=fun ae=>by
 have:=(ok.kG.mem ae).1;rw [e] at this;cases this
theorem Inv.bs (J:Inv X aa σ H s):∀ b o,X.base.get? b=some o->s.heap.get? b=some o/\H b=none:=fun b o e=>
 ⟨J.base.keep b o (J.ok.bs b o e).1 (J.ok.bs b o e).2 (J.ok.xZ e) (J.ok.p6 b o e),J.base.free b o (J.ok.bs b o e).1 (J.ok.bs b o e).2 (J.ok.p6 b o e)⟩
theorem Inv.cI (J:Inv X aa σ H s):∀ b o,X.base.get? b=some o->s.heap.get? b=some o:=fun b o e=>(J.bs b o e).1
theorem Inv.mod (J:Inv X aa σ H s):Mod X.K X.mg X.base:=J.ok.mod
theorem Inv.eg (J:Inv X aa σ H s):X.K.In s.heap:=J.ok.mod.rx.keeps J.cI
theorem Inv.nolimit (J:Inv X aa σ H s):s.heap.NoLimit:=J.ok.mod.nolimit.keeps J.cI
theorem Inv.fr (J:Inv X aa σ H s):∃ m,Fr X.base X.env.locals s.heap m:=
 let ⟨m,aV,_⟩:=J.loc
 ⟨m,aV,J.cI,cq J.ok.lz J.ok.above⟩
theorem Inv.lt (J:Inv X aa σ H s):X.env.locals < s.heap.objs.size:=let ⟨_,aV,_⟩:=J.loc;aV.lt
theorem Inv.lQ (J:Inv X aa σ H s):X.fE.heap.objs.size <= s.heap.objs.size:=cq J.ok.above (mM J.lt)
theorem Inv.Kr (J:Inv X aa σ H s) (h:s.heap.objs.size <= a):a ∉ X.aO:=fun ae=>by
 obtain ⟨_,o,aW,_⟩:=J.ok.kG.mem ae;exact absurd (ho (d1 aW) (cq J.lQ h)) (nj _)
theorem Inv.qG (J:Inv X aa σ H s):∀ x c,X.env.cells.lookup x=some c->c ≠ X.env.locals:=fun x c e z=>by
 obtain ⟨v,o,aW,hd⟩:=J.cell x c e;obtain ⟨m,⟨eP,aT,cE,jV,sC,_⟩,_⟩:=J.loc;rw [z,jV] at aW;cases aW;rw [sC] at hd;cases hd
theorem Inv.kG (J:Inv X aa σ H s):s.heap.FunFrames X.base X.outer:=by
 have all:∀ (l:List Env),(∀ b ∈ ip l,b ∈ X.aO)->X.fE.heap.FunFrames X.base l->s.heap.FunFrames X.base l:=by
  intro l
  induction l with
  | nil=>intro _ _;trivial
  | cons env r c2=>
   intro aw aD;obtain ⟨aE,⟨L,o,hf,aV,aW,hd⟩,aj⟩:=aD;have ei:L ∈ X.aO:=aw L (by unfold ip;rw [V4,hf];exact kO);obtain ⟨bk,e⟩:=J.base.slot L o aW (J.ok.n9 L ei) ei fun z=>J.ok.qq L z ei
   exact ⟨aE,⟨L,_,hf,aV,e,hd⟩,c2 (fun b ae=>aw b (by unfold ip;rw [V4,hf];exact gS _ ae)) aj⟩
 exact all X.outer (fun _ ae=>ae) J.ok.kG
theorem Inv.stack (J:Inv X aa σ H s):s.heap.FunFrames X.base X.stack:=by
 rcases J.ok.hr with e | ⟨e,hf⟩
 .rw [e];exact J.kG
 .rw [e];obtain ⟨m,aV,_⟩:=J.loc;refine .cons (by rw [J.ok.kind];decide) hf aV ?_ J.kG;exact SM (cq J.ok.lz J.ok.above)
theorem Inv.DD (J:Inv X aa σ H s):∀ b ∈ ip X.stack,b ∈ X.env.locals :: X.aO:=fun b ae=>by
 rcases J.ok.hr with e | ⟨e,hf⟩
 .rw [e] at ae;exact gS _ ae
 .rw [e] at ae;unfold ip at ae;rw [V4,hf] at ae;exact ae
theorem Inv.w3 (J:Inv X aa σ H s):∀ b ∈ ip X.stack,H b=none:=fun b ae=>by
 rcases d9.mp (J.DD b ae) with e | ae
 .rw [e];exact J.free
 .obtain ⟨_,o,aW,_⟩:=J.ok.kG.mem ae;exact J.base.free b o aW (J.ok.n9 b ae) fun z=>J.ok.qq b z ae
theorem Inv.step {g':Array GenState} {t':Nat} {d':Drawn} {ch:List Addr} (J:Inv X aa σ H s)
  (fq:∀ b ∈ ch,(b ∈ X.ex\/X.fE.heap.objs.size <= b)/\b ≠ X.env.locals/\(∀ x c,X.env.cells.lookup x=some c->c ≠ b)/\∀ p ∈ X.ey ++ aa,p.1 ≠ b)
  (keep:∀ b o,b ≠ X.env.locals->b ∉ X.aO->b ∉ ch->s.heap.get? b=some o->H b=none->h'.get? b=some o)
  (slot:∀ b o,b ≠ X.env.locals->b ∈ X.aO->b ∉ ch->s.heap.get? b=some o->H b=none->∃ bk,h'.get? b=some { o with slots:=bk }) (free:∀ b o,b ∉ ch->s.heap.get? b=some o->H b=none->I b=none)
  (there:∀ b o,b ∉ ch->s.heap.get? b=some o->∃ eP,h'.get? b=some eP)
  (qj:∀ b xs,H b=some (.tup xs)->I b=some (.tup xs)) (pj:∀ b o u,H b=some (.ja o u)->I b=some (.ja o u)) (oM:∀ b ps,H b=some (.hn ps)->∃ more,I b=some (.hn (ps ++ more)))
  (ns:∀ m,s.heap.Ns X.env.locals m->h'.Ns X.env.locals m) (bh:eM X.prog X.w I h') (bg:AllBare g') :
  Inv X aa σ I { s with heap:=h',gens:=g',drawn:=d',toks:=t' }:=by
 have vM:∀ b o,X.fE.heap.get? b=some o->b ≠ X.env.locals:=fun b o e=>gd (ho (d1 e) J.ok.above)
 have zZ:∀ b o,X.fE.heap.get? b=some o->b ∉ X.ex->b ∉ ch:=fun b o e af ae=>by
  rcases (fq b ae).1 with z | z
  .exact af z
  .exact absurd (ho (d1 e) z) (nj _)
 have cellK:∀ x c,X.env.cells.lookup x=some c->∀ v,s.heap.IsCell c v->h'.IsCell c v:=fun x c e v ⟨o,aW,hd⟩=>by
  have vZ:c ∉ ch:=fun z=>(fq c z).2.2.1 x c e rfl
  by_cases ar:c ∈ X.aO
  .obtain ⟨bk,q⟩:=slot c o (J.qG x c e) ar vZ aW (J.jg x c e);exact ⟨_,q,hd⟩
  .exact ⟨o,keep c o (J.qG x c e) ar vZ aW (J.jg x c e),hd⟩
 refine ⟨J.ok,J.os,bg,⟨fun b o e n ae af=>?_,fun b o e n ae af=>?_,fun b o e n af=>?_,fun b o e af=>?_,fun b xs e=>qj b xs (J.base.qj b xs e),fun b o xs e=>pj b o xs (J.base.pj b o xs e),fun b ps e=>?_⟩,?_,fun x c e=>?_,?_,fun x c e=>?_,fun p aq=>?_,bh,J.len⟩
 .exact keep b o (vM b o e) ae (zZ b o e af) (J.base.keep b o e n ae af) (J.base.free b o e n af)
 .obtain ⟨bk,ao⟩:=J.base.slot b o e n ae af;obtain ⟨C0,aC⟩:=slot b _ (vM b o e) ae (zZ b o e af) ao (J.base.free b o e n af);exact ⟨C0,aC⟩
 .obtain ⟨eP,ao⟩:=J.base.there b o e af;exact free b eP (zZ b o e af) ao (J.base.free b o e n af)
 .obtain ⟨eP,ao⟩:=J.base.there b o e af;exact there b eP (zZ b o e af) ao
 .obtain ⟨kA,ao⟩:=J.base.oM b ps e;obtain ⟨jD,aC⟩:=oM b _ ao;exact ⟨kA ++ jD,by rw [aC,Array.append_assoc]⟩
 .obtain ⟨m,aV,aD⟩:=J.loc;refine ⟨m,ns m aV,fun i x v ao aC bJ=>?_⟩;obtain ⟨u,r,l⟩:=aD i x v ao aC bJ;refine ⟨u,r,?_⟩;rcases l with l | ⟨k,c,e,z⟩
  .exact .inl l
  .exact .inr ⟨k,c,e,cellK x c e _ z⟩
 .obtain ⟨v,z⟩:=J.cell x c e;exact ⟨v,cellK x c e v z⟩
 .obtain ⟨m,⟨o,_,_,aW,_⟩,_⟩:=J.loc;exact free _ o (fun z=>(fq _ z).2.1 rfl) aW J.free
 .obtain ⟨v,o,aW,hd⟩:=J.cell x c e;exact free c o (fun z=>(fq c z).2.2.1 x c e rfl) aW (J.jg x c e)
 .obtain ⟨e,n,ne,hc,d⟩:=J.pin p aq;have vZ:p.1 ∉ ch:=fun z=>(fq p.1 z).2.2.2 p aq rfl
  exact ⟨keep p.1 p.2 ne hc vZ e n,free p.1 p.2 vZ e n,ne,hc,d⟩
theorem Inv.un {t':Nat} (J:Inv X aa σ H s) (u:gG X.aO [] H I s.heap h') (bh:eM X.prog X.w I h'):Inv X aa σ I { s with heap:=h',toks:=t' }:=by
 obtain ⟨m,⟨o,aT,cE,aW,r⟩,_⟩:=id J.loc;obtain ⟨bk,ei⟩:=u.any aW J.free (by simp);exact J.step (g':=s.gens) (d':=s.drawn) (ch:=[]) (fun _ z=>nomatch z) (fun b o _ ae _ e n=>u.keep b o e n ae (by simp)) (fun b o _ ae _ e n=>u.slot b o e n ae (by simp)) (fun b o _ e n=>u.free b o e n (by simp)) (fun b o _ e=>u.there b o e (by simp)) u.qj u.pj u.oM (fun dm hm=>by
  obtain ⟨eP,Kn,Lg,jV,eo⟩:=hm;rw [aW] at jV;cases jV;exact ⟨_,Kn,Lg,ei,eo⟩) bh J.bare
theorem Inv.call {g':Array GenState} {t':Nat} {d':Drawn} {ch:List Addr} (J:Inv X aa σ H s) (u:gG (ip X.stack) ch H I s.heap h') (bh:eM X.prog X.w I h') (bg:AllBare g')
  (fq:∀ b ∈ ch,(b ∈ X.ex\/X.fE.heap.objs.size <= b)/\b ≠ X.env.locals/\(∀ x c,X.env.cells.lookup x=some c->c ≠ b)/\∀ p ∈ X.ey ++ aa,p.1 ≠ b) :
  Inv X aa σ I { s with heap:=h',gens:=g',drawn:=d',toks:=t' }:=by
 obtain ⟨m,⟨o,aT,cE,aW,r⟩,_⟩:=id J.loc;obtain ⟨bk,ei⟩:=u.any aW J.free fun z=>(fq _ z).2.1 rfl
 exact J.step (ch:=ch) fq (fun b o ei ae ar e n=>u.keep b o e n (fun z=>(d9.mp (J.DD b z)).elim ei ae) ar) (fun b o _ _ ar e n=>u.any e n ar) (fun b o ar e n=>u.free b o e n ar) (fun b o ar e=>u.there b o e ar) u.qj u.pj u.oM (fun dm hm=>by
  obtain ⟨eP,Kn,Lg,jV,eo⟩:=hm;rw [aW] at jV;cases jV;exact ⟨_,Kn,Lg,ei,eo⟩) bh bg
theorem Inv.turned {t':Nat} {it:Addr} (J:Inv X aa σ H s) (k:∀ b o,b ≠ it->s.heap.get? b=some o->h'.get? b=some o) (aV:H it=none) (ei:it ≠ X.env.locals)
  (ab:it ∈ X.ex\/X.fE.heap.objs.size <= it) (ai:∀ x c,X.env.cells.lookup x=some c->c ≠ it) (a5:∀ p ∈ X.ey ++ aa,p.1 ≠ it):Inv X aa σ H { s with heap:=h',toks:=t' }:=by
 have wF:∀ b u,H b=some u->b ≠ it:=fun b u e z=>by rw [z,aV] at e;cases e
 refine J.step (g':=s.gens) (d':=s.drawn) (ch:=[it]) (fun b ae=>?_) (fun b o _ _ ar e _=>k b o (fun z=>ar (by simp [z])) e) (fun b o _ _ ar e _=>⟨o.slots,k b o (fun z=>ar (by simp [z])) e⟩) (fun _ _ _ _ n=>n)
  (fun b o ar e=>⟨o,k b o (fun z=>ar (by simp [z])) e⟩) (fun _ _ e=>e) (fun _ _ _ e=>e) (fun b ps e=>⟨#[],by rw [e];simp⟩) (fun m hm=>?_) (fun b u e=>?_) J.bare
 .have e:b=it:=by simpa using ae
  subst e;exact ⟨ab,ei,ai,a5⟩
 .obtain ⟨o,aT,cE,aW,r⟩:=hm;exact ⟨o,aT,cE,k _ o (dF ei) aW,r⟩
 .refine (J.bh b u e).nv (fun c v ar q=>k c v ?_ q) (fun _ q=>q) fun _ _ q=>q
  rcases ar with z | z
  .rw [z];exact wF b u e
  .exact wF c _ z
theorem Inv.tok (J:Inv X aa σ H s) (t:Nat):Inv X aa σ H { s with toks:=t }:=J.un (h':=s.heap) (t':=t) gG.refl J.bh
theorem Inv.kept (J:Inv X aa σ H s) (k:∀ b u,s.heap.get? b=some u->h'.get? b=some u):Inv X aa σ H { s with heap:=h',toks:=t' }:=J.un (gG.kept k) (J.bh.kept k)
theorem Inv.laid (J:Inv X aa σ H s) (k:∀ b u,s.heap.get? b=some u->h'.get? b=some u) (aq:s.heap.objs.size <= a) (new:dS X.prog X.w (upd H a o) h' a o) :
  Inv X aa σ (upd H a o) { s with heap:=h',toks:=t' }:=J.un (gG.laid k aq (J.bh.fresh aq)) (J.bh.laid k aq new)
theorem Inv.write {x e:Addr} {o:gL} {t':Nat} (J:Inv X aa σ H s) (fi:nK (H x)) (he:e=x\/H e=some (.own x)) (k:∀ b u,b ≠ e->s.heap.get? b=some u->h'.get? b=some u) (uf:∃ u,h'.get? e=some u)
  (new:dS X.prog X.w (upd H x o) h' x o):Inv X aa σ (upd H x o) { s with heap:=h',toks:=t' }:=J.un (gG.write fi he k uf) (J.bh.write fi he k uf new)
theorem Inv.weak (J:Inv X aa σ H s) (aD:ay.length=σ.length) (w:∀ (i:Nat) v,ay[i]? = some (some v)->σ[i]? = some (some v)):Inv X aa ay H s:=
 ⟨J.ok,J.os,J.bare,J.base,let ⟨m,aV,Ox⟩:=J.loc;⟨m,aV,fun i x v ao aC bJ=>Ox i x v ao (w i v aC) bJ⟩,J.cell,J.free,J.jg,J.pin,J.bh,aD.trans J.len⟩
theorem Inv.sq (J:Inv X aa σ H s) (h:∀ p ∈ wV,s.heap.get? p.1=some p.2/\H p.1=none/\p.1 ≠ X.env.locals/\p.1 ∉ X.aO/\∀ v,p.2.data ≠ .cell v):Inv X wV σ H s:=
 ⟨J.ok,J.os,J.bare,J.base,J.loc,J.cell,J.free,J.jg,fun p aq=>(dZ.mp aq).elim (fun z=>J.pin p (nE _ z)) (h p),J.bh,J.len⟩
theorem Nh {N:List Str} (bb:N.Nodup) {i j:Nat} {x:Str} (a:N[i]? = some x) (b:N[j]? = some x):i=j:=by
 obtain ⟨ab,ao⟩:=bY.mp a;obtain ⟨ai,aC⟩:=bY.mp b;exact (OC bb).mp (ao.trans aC.symm)
theorem OG {M:Model} {A:Around} {E:Value->Shared->Prop} {i:Nat} {x:Str} {v:V} {u:Value} {Q:Unit->Shared->Prop} (J:Inv X aa σ H s) (bb:X.N.Nodup) (ag:X.N[i]? = some x) (af:Loc X.env.scope x) (r:b1 v u)
  (h:∀ s',Inv X aa (σ.set i (some v)) H s'->(∃ a,zm a s.heap s'.heap/\(a=X.env.locals\/X.env.cells.lookup x=some a))->Q () s') (hf:X.fn x=true\/X.env.scope.names.lookup x=some .local:=by first | exact .inl rfl | exact .inr rfl | assumption):wpAny M A (storeName X.env x u) Q E s:=by
 obtain ⟨m,aV,aD⟩:=id J.loc;have ZQ:(X.env.scope.kind == .class || (X.env.scope.kind == .module && X.env.locals != X.env.globals))=false:=by rw [J.ok.kind];rfl
 have ym:i < σ.length:=by rw [J.len];exact (bY.mp ag).1
 have qG:=J.qG;have tracked:∀ {a:Addr} {h':Heap},(∃ o,s.heap.get? a=some o/\H a=none)->zm a s.heap h'->eM X.prog X.w H h':=fun {a h'} aK aw b cU e=>by
  obtain ⟨_,_,RL⟩:=aK;refine (J.bh b cU e).nv (fun c eH ar q=>(aw.2 c ?_).trans q) (fun _ q=>q) fun _ _ q=>q
  rintro rfl;rcases ar with rfl | ar
  .rw [RL] at e;cases e
  .rw [RL] at ar;cases ar
 rcases af with aE | aE
 .refine wpAny_storeName_local aE aV (fun h' Ny aw=>?_) ZQ;obtain ⟨aay,_,_,alx,_⟩:=id aV;refine h _ ⟨J.ok,J.os,J.bare,⟨fun b o e n ae af=>?_,fun b o e n ae af=>?_,J.base.free,fun b o e af=>?_,J.base.qj,J.base.pj,J.base.oM⟩,⟨_,Ny,fun j y w0 ao aC bJ=>?_⟩,fun y c e=>?_,J.free,J.jg,fun p aq=>?_,tracked ⟨aay,alx,J.free⟩ aw,by simpa using J.len⟩ ⟨_,aw,.inl rfl⟩
  .exact (aw.2 b (gd (ho (d1 e) J.ok.above))).trans (J.base.keep b o e n ae af)
  .obtain ⟨bk,ao⟩:=J.base.slot b o e n ae af;exact ⟨bk,(aw.2 b (gd (ho (d1 e) J.ok.above))).trans ao⟩
  .obtain ⟨eP,ao⟩:=J.base.there b o e af;exact ⟨eP,(aw.2 b (gd (ho (d1 e) J.ok.above))).trans ao⟩
  .by_cases aN:j=i
   .subst aN;rw [ag] at ao;cases ao;rw [AM ym] at aC;cases aC;exact ⟨u,r,.inl ⟨aE,by simp⟩⟩
   .rw [Bb (dF aN)] at aC;obtain ⟨px,eo,q⟩:=aD j y w0 ao aC bJ;refine ⟨px,eo,?_⟩;rcases q with ⟨k,e⟩ | ⟨k,c,e,z⟩
    .refine .inl ⟨k,?_⟩;have:y ≠ x:=fun e=>aN (Nh bb ao (e ▸ ag))
     simp [this,e]
    .exact .inr ⟨k,c,e,z.sameBut aw (qG y c e)⟩
  .obtain ⟨eH,z⟩:=J.cell y c e;exact ⟨eH,z.sameBut aw (qG y c e)⟩
  .obtain ⟨e,n,ne,hc,d⟩:=J.pin p aq;exact ⟨(aw.2 p.1 ne).trans e,n,ne,hc,d⟩
 .have MU:X.fn x=true:=by
   rcases hf with z | z
   .exact z
   .rw [z] at aE;cases aE
  obtain ⟨c,ar⟩:=J.ok.has x (.inl aE);obtain ⟨eH,z⟩:=J.cell x c ar;refine wpAny_storeName_cell J.ok.kind aE ar z (fun h' jZ aw=>?_);obtain ⟨nH,tm,aio⟩:=id z;refine h { s with heap:=h' } ⟨J.ok,J.os,J.bare,⟨fun b o e n ae af=>?_,fun b o e n ae af=>?_,J.base.free,fun b o e af=>?_,J.base.qj,J.base.pj,J.base.oM⟩,⟨m,aV.sameBut aw (dF (qG x c ar)),fun j y w0 ao aC bJ=>?_⟩,fun y c' e=>?_,J.free,J.jg,fun p aq=>?_,tracked ⟨nH,tm,J.jg x c ar⟩ aw,by simpa using J.len⟩ ⟨c,aw,.inr ar⟩
  .exact (aw.2 b (gd (ho (d1 e) (J.ok.p3 x c MU ar)))).trans (J.base.keep b o e n ae af)
  .obtain ⟨bk,ao⟩:=J.base.slot b o e n ae af;exact ⟨bk,(aw.2 b (gd (ho (d1 e) (J.ok.p3 x c MU ar)))).trans ao⟩
  .obtain ⟨eP,ao⟩:=J.base.there b o e af;exact ⟨eP,(aw.2 b (gd (ho (d1 e) (J.ok.p3 x c MU ar)))).trans ao⟩
  .by_cases aN:j=i
   .subst aN;rw [ag] at ao;cases ao;rw [AM ym] at aC;cases aC;exact ⟨u,r,.inr ⟨.inl aE,c,ar,jZ⟩⟩
   .rw [Bb (dF aN)] at aC;obtain ⟨px,eo,q⟩:=aD j y w0 ao aC bJ;refine ⟨px,eo,?_⟩;rcases q with q | ⟨k,c',e,gn⟩
    .exact .inl q
    .refine .inr ⟨k,c',e,gn.sameBut aw ?_⟩;rintro rfl;exact aN (Nh bb ao (J.ok.inj _ _ _ e ar ▸ ag))
  .by_cases tc:c'=c
   .subst tc;exact ⟨_,jZ⟩
   .obtain ⟨dB,dH⟩:=J.cell y c' e;exact ⟨dB,dH.sameBut aw tc⟩
  .obtain ⟨e,n,ne,hc,d⟩:=J.pin p aq;refine ⟨(aw.2 p.1 ?_).trans e,n,ne,hc,d⟩;intro q;rw [q,tm] at e;have cb:nH=p.2:=eL e;exact d eH (by rw [<- cb];exact aio)
theorem EB {A:Around} {x:Str} (J:Inv X aa σ H s) (bb:X.N.Nodup) (ag:X.N[i]? = some x) (af:Loc X.env.scope x) (r:b1 v u)
  (h:∀ s',Inv X aa (σ.set i (some v)) H s'->Q () s') (hf:X.fn x=true\/X.env.scope.names.lookup x=some .local:=by first | exact .inl rfl | exact .inr rfl | assumption):wpAny M A (storeName X.env x u) Q E s:=
 OG J bb ag af r (fun s' iu _=>h s' iu) hf
theorem Inv.xi (J:Inv X aa σ H s) (aW:s'.os=s.os) (u:gG (ip X.stack) ch H I s.heap s'.heap) (bh:eM X.prog X.w I s'.heap) (bg:AllBare s'.gens)
  (fq:∀ b ∈ ch,(b ∈ X.ex\/X.fE.heap.objs.size <= b)/\b ≠ X.env.locals/\(∀ x c,X.env.cells.lookup x=some c->c ≠ b)/\∀ p ∈ X.ey ++ aa,p.1 ≠ b):Inv X aa σ I s':=by
 obtain ⟨h',g',d',t',eP⟩:=s';have e:eP=s.os:=aW;subst e;exact J.call (g':=g') (t':=t') (d':=d') u bh bg fq
end
noncomputable abbrev d0:=Value->Option Addr->au->Prop
noncomputable abbrev St:=List (Option V)
noncomputable abbrev cJ:=V->au->Prop
noncomputable abbrev TE:=St->au->cJ->Prop
noncomputable abbrev TT:=St->au->(Bool->au->Prop)->Prop
noncomputable abbrev fc:=St->au->(List V->au->Prop)->Prop
structure hs where
 cy:St->au->Prop
 l_:cJ
 cI:St->au->Prop:=fun _ _=>False
 e9:St->au->Prop:=fun _ _=>False
noncomputable abbrev ek:=hs->St->au->Prop
def f5 (X:a0) (aa:List (Addr × Obj)) (σ:St) (Q:cJ) (u:Value) (s':Shared):Prop:=∃ v I,Inv X aa σ I s'/\b1 v u/\Q v I
theorem eC {X:a0} {aa:List (Addr × Obj)} {σ:St} {Q:cJ} {u:Value} {s':Shared} {C:Prop} (h:f5 X aa σ Q u s') (k:∀ v I,Inv X aa σ I s'->b1 v u->Q v I->C):C:=by
 obtain ⟨v,I,J,r,q⟩:=h;exact k v I J r q
def Ew (X:a0) (aa:List (Addr × Obj)) (σ:St) (Q:Bool->au->Prop) (b:Bool) (s':Shared):Prop:=∃ I,Inv X aa σ I s'/\Q b I
def ahh (X:a0) (aa:List (Addr × Obj)) (σ:St) (Q:List V->au->Prop) (us:List Value) (s':Shared):Prop:=∃ vs I,Inv X aa σ I s'/\cj vs us/\Q vs I
def oP (X:a0) (aa:List (Addr × Obj)) (D:hs) (f:Flow) (s':Shared):Prop:=
 match f with
 | .next=>∃ ay I,Inv X aa ay I s'/\D.cy ay I
 | .brk=>∃ ay I,Inv X aa ay I s'/\D.cI ay I
 | .cont=>∃ ay I,Inv X aa ay I s'/\D.e9 ay I
 | .ret u=>∃ v ay I,Inv X aa ay I s'/\b1 v u/\D.l_ v I
def bz (X:a0) (e:Expr) (t:TE):Prop:=
 ∀ (aa:List (Addr × Obj)) (s:Shared) (σ:St) (H:au) (Q:cJ),Inv X aa σ H s->t σ H Q->wpAny (model X.prog X.w) X.A (eval e X.env) (f5 X aa σ Q) X.dz s
def h7 (X:a0) (e:Expr) (t:TT):Prop:=
 ∀ (aa:List (Addr × Obj)) (s:Shared) (σ:St) (H:au) (Q:Bool->au->Prop),Inv X aa σ H s->t σ H Q->wpAny (model X.prog X.w) X.A (isTrue e X.env (eval e X.env)) (Ew X aa σ Q) X.dz s
def fW (X:a0) (e:Expr) (t:TT):Prop:=
 ∀ (whole:Sem Value) (aa:List (Addr × Obj)) (s:Shared) (σ:St) (H:au) (Q:Bool->au->Prop),Inv X aa σ H s->t σ H Q->wpAny (model X.prog X.w) X.A (isTrue e X.env whole) (Ew X aa σ Q) X.dz s
theorem fW.pt {e:Expr} {t:TT} (h:fW X e t):h7 X e t:=h _
def gg (X:a0) (aT:List Expr) (t:fc):Prop:=
 ∀ (pos:Pos) (aa:List (Addr × Obj)) (s:Shared) (σ:St) (H:au) (Q:List V->au->Prop),Inv X aa σ H s->t σ H Q->wpAny (model X.prog X.w) X.A (spliced (backTo pos (starEach aT X.env))) (ahh X aa σ Q) X.dz s
def f9 (X:a0) (st:Stmt) (t:ek):Prop:=
 ∀ (aa:List (Addr × Obj)) (s:Shared) (σ:St) (H:au) (D:hs),Inv X aa σ H s->t D σ H->wpAny (model X.prog X.w) X.A (exec st X.env) (oP X aa D) X.dz s
def gC (X:a0) (st:List Stmt) (t:ek):Prop:=
 ∀ (aa:List (Addr × Obj)) (s:Shared) (σ:St) (H:au) (D:hs),Inv X aa σ H s->t D σ H->wpAny (model X.prog X.w) X.A (execs st X.env) (oP X aa D) X.dz s
theorem bL {t:Sem α} {A:Around} (h:wpAny M A t Q E s) (aX:∀ a s,Q a s->Q' a s):wpAny M A t Q' E s:=wpAny_mono h aX fun _ _ x=>x
section
variable {X:a0}
noncomputable def tx (H:au) (Q:cJ):Option (Option V)->Prop
 | some (some v)=>Q v H
 | _=>False
theorem Tw (H:au) (Q:cJ) (v:V):tx H Q (some (some v))=Q v H:=rfl
theorem tx.out:∀ {o:Option (Option V)},tx H Q o->∃ v,o=some (some v)/\Q v H
 | some (some v),h=>⟨v,rfl,h⟩
 | some none,h=>h.elim
 | none,h=>h.elim
theorem ah4 (H:au) (Q:cJ) (o:Option (Option V)):tx H Q o = ∃ v,o=some (some v)/\Q v H:=propext ⟨tx.out,fun ⟨_,e,h⟩=>e ▸ h⟩
def gR (x:V) (k:Int->Prop):Prop:=match x with
 | .int i=>k i
 | _=>False
theorem Sx (i:Int) (k:Int->Prop):gR (.int i) k=k i:=rfl
theorem gR.out {x:V} {k:Int->Prop} (h:gR x k):∃ i,x=.int i/\k i:=by
 cases x with
 | int i=>exact ⟨i,rfl,h⟩
 | _=>exact h.elim
theorem ag8 (x:V) (k:Int->Prop):gR x k = ∃ i,x=.int i/\k i:=propext ⟨gR.out,fun ⟨_,e,h⟩=>e ▸ h⟩
def ky (x:V) (k:Bool->Prop):Prop:=match x with
 | .bw i=>k i
 | _=>False
theorem Vc (i:Bool) (k:Bool->Prop):ky (.bw i) k=k i:=rfl
theorem ky.out {x:V} {k:Bool->Prop} (h:ky x k):∃ i,x=.bw i/\k i:=by
 cases x with
 | bw i=>exact ⟨i,rfl,h⟩
 | _=>exact h.elim
theorem aiV (x:V) (k:Bool->Prop):ky x k = ∃ i,x=.bw i/\k i:=propext ⟨ky.out,fun ⟨_,e,h⟩=>e ▸ h⟩
def fv (x:V) (k:Addr->Prop):Prop:=match x with
 | .ref i=>k i
 | _=>False
theorem Ts (i:Addr) (k:Addr->Prop):fv (.ref i) k=k i:=rfl
theorem fv.out {x:V} {k:Addr->Prop} (h:fv x k):∃ i,x=.ref i/\k i:=by
 cases x with
 | ref i=>exact ⟨i,rfl,h⟩
 | _=>exact h.elim
theorem ajI (x:V) (k:Addr->Prop):fv x k = ∃ i,x=.ref i/\k i:=propext ⟨fv.out,fun ⟨_,e,h⟩=>e ▸ h⟩
def m6 (xs:List V) (k:V->Prop):Prop:=match xs with
 | [y]=>k y
 | _=>False
theorem S6 (y:V) (k:V->Prop):m6 [y] k=k y:=rfl
theorem m6.out:∀ {xs:List V} {k:V->Prop},m6 xs k->∃ y,xs=[y]/\k y
 | [y],_,h=>⟨y,rfl,h⟩
 | [],_,h=>h.elim
 | _ :: _ :: _,_,h=>h.elim
theorem ZZ (xs:List V) (k:V->Prop):m6 xs k = ∃ y,xs=[y]/\k y:=propext ⟨m6.out,fun ⟨_,e,h⟩=>e ▸ h⟩
noncomputable def Bh (i:Nat):TE:=fun σ H Q=>tx H Q σ[i]?
noncomputable def q9 (v:V):TE:=fun _ H Q=>Q v H
theorem YL {x:Str} (bb:X.N[i]? = some x) (aG:BK X.env.scope x) (hd:(x == ("__debug__" : Str))=false:=by decide) (kj:(x == ("__classdict__" : Str))=false:=by decide):bz X (.Name x pos) (Bh i):=by
 intro aa s σ H Q J h;obtain ⟨v,e,h⟩:=tx.out h;obtain ⟨m,aV,aD⟩:=J.loc;obtain ⟨u,r,l⟩:=aD i x v bb e aG;have fin:f5 X aa σ Q u s:=⟨v,H,J,r,h⟩;rcases l with ⟨aE,hm⟩ | ⟨aE,c,ar,Ba⟩
 .exact wpAny_Name (wpAny_loadName_local J.ok.kind aE aV hm fin) hd
 .rcases aE with aE | aE
  .exact wpAny_Name (wpAny_loadName_cell J.ok.kind aE ar Ba fin) hd
  .exact wpAny_Name (wpAny_loadName_free J.ok.kind aE ar Ba fin kj) hd
theorem aJ {i j pos}:bz X (.Constant (.int i) j pos) (q9 (.int i)):=fun _ _ _ H _ J h=>wpAny_Constant_int ⟨.int i,H,J.tok _,⟨_,rfl⟩,h⟩
theorem oZ {b j pos}:bz X (.Constant (.bool b) j pos) (q9 (.bw b)):=fun _ _ _ H _ J h=>Constant_bool ⟨.bw b,H,J,rfl,h⟩
theorem L3 {j pos}:bz X (.Constant .none j pos) (q9 .cg):=fun _ _ _ H _ J h=>Constant_none ⟨.cg,H,J,rfl,h⟩
theorem dy {x j pos}:bz X (.Constant (.str x) j pos) (q9 (.str x)):=fun _ _ _ H _ J h=>akT ⟨.str x,H,J.tok _,⟨_,rfl⟩,h⟩
def iR (X:a0) (x:Str):Prop:=X.env.kindOf x=some .globalImplicit
theorem r3 {x:Str} (J:Inv X aa σ H s) (bg:iR X x) (hm:X.mg x=some u) (h:Q u s)
  (hd:(x == ("__debug__" : Str))=false:=by decide):wpAny (model X.prog X.w) X.A (eval (.Name x pos) X.env) Q E s:=
 ain J.ok.kind bg (Calls.loadGlobal_global (by rw [J.ok.glob];exact J.mod.glob.keeps J.cI) hm h) hd
theorem rT {x:Str} (J:Inv X aa σ H s) (bg:iR X x) (hm:X.mg x=none) (aG:bootBuiltins x=some u) (h:Q u s)
  (aV:x ≠ "__name__" := by decide) (hd:(x == ("__debug__" : Str))=false:=by decide):wpAny (model X.prog X.w) X.A (eval (.Name x pos) X.env) Q E s:=by
 obtain ⟨nJ,ab,ai⟩:=J.mod.blt;exact ain J.ok.kind bg (Calls.loadGlobal_builtin (by rw [J.ok.glob];exact J.mod.glob.keeps J.cI) hm (by rw [J.ok.blt];exact ab.keeps J.cI) ((ai x aV).trans aG) h) hd
theorem mF {x:Str} (bg:iR X x) (hm:X.mg x=some u) (r:b1 v u) (hd:(x == ("__debug__" : Str))=false:=by decide):bz X (.Name x pos) (q9 v):=
 fun _ _ _ H _ J h=>r3 J bg hm ⟨v,H,J,r,h⟩ hd
theorem agW {x:Str} (bg:iR X x) (hm:X.mg x=none) (aG:bootBuiltins x=some u) (r:b1 v u) (aV:x ≠ "__name__" := by decide) (hd:(x == ("__debug__" : Str))=false:=by decide):bz X (.Name x pos) (q9 v):=
 fun _ _ _ H _ J h=>rT J bg hm aG ⟨v,H,J,r,h⟩ aV hd
variable {a b:Expr} {a6 b8:TE} {pos:Pos}
def V5 (X:a0) (op:CmpOp) (a b:Expr) (t:TE):Prop:=
 ∀ (aa:List (Addr × Obj)) (s:Shared) (σ:St) (H:au) (Q:cJ),Inv X aa σ H s->t σ H Q ->
  wpAny (model X.prog X.w) X.A (eval a X.env) (fun v dh=>wpAny (model X.prog X.w) X.A (eval b X.env) (fun u d3=>wpAny (model X.prog X.w) X.A (compareOp op v u) (f5 X aa σ Q) X.dz d3) X.dz dh) X.dz s
theorem YT (b:Expr) (h:op ≠ .In) (ai:op ≠ .NotIn):behindInMarks op b=false:=by
 have ao:(op == CmpOp.In)=false:=by cases op <;> first | rfl | exact absurd rfl h
 have aC:(op == akO)=false:=by cases op <;> first | rfl | exact absurd rfl ai
 cases b <;> simp [behindInMarks,ao,aC]
noncomputable def D3 (t:TE):TT:=fun σ H Q=>t σ H fun x H1=>ky x fun c=>Q c H1
theorem EU {t:TE} (h:V5 X op a b t) (ab:behindInMarks op b=false:=by first | exact YT _ (by decide) (by decide) | rfl):h7 X (.Compare a [op] [b] pos) (D3 t):=by
 intro aa s σ H Q J hw;refine wpAny_isTrue_Compare1 (bL (h aa s σ H _ J hw) fun v s1 ab=>bL ab fun u s2 ai=>bL ai fun c s3 cz=>eC cz fun x H1 aP cG bT=>?_) ab;obtain ⟨d,rfl,q⟩:=ky.out bT;cases cG;exact wpAny_truthy_bool ⟨H1,aP,q⟩
theorem o1 {e:Expr} {t:TE} (h:bz X e t) (he:∀ whole,isTrue e X.env whole=(do let v <- whole;standAt e.pos;holding [v] (truthy v)):=by intro _;rfl):h7 X e (D3 t):=by
 intro aa s σ H Q J hw;refine isTrue_plain (bL (h aa s σ H _ J hw) fun v s1 cz=>eC cz fun x H1 aP cG bT=>?_) (he _);obtain ⟨d,rfl,q⟩:=ky.out bT;cases cG;exact wpAny_truthy_bool ⟨H1,aP,q⟩
variable {m1 CB:TT} {rest:List Expr}
noncomputable def EL (t u:TT):TT:=fun σ H Q=>t σ H fun c H1=>if c=true then u σ H1 Q else Q false H1
noncomputable def EY (t u:TT):TT:=fun σ H Q=>t σ H fun c H1=>if c=true then Q true H1 else u σ H1 Q
noncomputable def HQ (t:TT):TT:=fun σ H Q=>t σ H fun c H1=>Q (!c) H1
theorem oY (aK:h7 X a m1):fW X (.BoolOp .And [a] pos) m1:=by
 intro wj aa s σ H Q J h;refine isTrue_and (bL (aK aa s σ H Q J h) fun c s1 e=>?_);cases c with
 | true=>exact isTrue_and_nil e
 | false=>exact e
theorem wB (aK:h7 X a m1):fW X (.BoolOp .Or [a] pos) m1:=by
 intro wj aa s σ H Q J h;refine isTrue_or (bL (aK aa s σ H Q J h) fun c s1 e=>?_);cases c with
 | false=>exact isTrue_or_nil e
 | true=>exact e
theorem oo (aK:h7 X a m1) (ae:fW X (.BoolOp .And (b :: rest) pos) CB):fW X (.BoolOp .And (a :: b :: rest) pos) (EL m1 CB):=by
 intro wj aa s σ H Q J h;refine isTrue_and (bL (aK aa s σ H _ J h) fun c s1 cL=>?_);obtain ⟨H1,aP,bT⟩:=cL;cases c with
 | true=>exact ae wj aa s1 σ H1 Q aP bT
 | false=>exact ⟨H1,aP,bT⟩
theorem vA (aK:h7 X a m1) (ae:fW X (.BoolOp .Or (b :: rest) pos) CB):fW X (.BoolOp .Or (a :: b :: rest) pos) (EY m1 CB):=by
 intro wj aa s σ H Q J h;refine isTrue_or (bL (aK aa s σ H _ J h) fun c s1 cL=>?_);obtain ⟨H1,aP,bT⟩:=cL;cases c with
 | true=>exact ⟨H1,aP,bT⟩
 | false=>exact ae wj aa s1 σ H1 Q aP bT
theorem x6 (aK:h7 X a m1):h7 X (.UnaryOp .Not a pos) (HQ m1):=by
 intro aa s σ H Q J h;exact isTrue_not (aK aa s σ H (fun c H1=>Q (!c) H1) J h)
noncomputable def Hd (a6 b8:TE):TE:=fun σ H Q=>a6 σ H fun x H1=>ky x fun c=>if c=true then b8 σ H1 Q else Q (.bw false) H1
noncomputable def J1 (a6 b8:TE):TE:=fun σ H Q=>a6 σ H fun x H1=>ky x fun c=>if c=true then Q (.bw true) H1 else b8 σ H1 Q
noncomputable def Jk (a6:TE):TE:=fun σ H Q=>a6 σ H fun x H1=>ky x fun c=>Q (.bw (!c)) H1
theorem vp {op} {t:TE} (h:bz X a t):bz X (.BoolOp op [a] pos) t:=fun aa s σ H Q J hw=>BoolOp_one (h aa s σ H Q J hw)
theorem w1 (aK:bz X a a6) (ae:bz X (.BoolOp .And (b :: rest) pos) b8):bz X (.BoolOp .And (a :: b :: rest) pos) (Hd a6 b8):=by
 intro aa s σ H Q J h;refine BoolOp_and (bL (aK aa s σ H _ J h) fun v s1 cz=>eC cz fun x H1 aP cG bT=>?_);obtain ⟨c,rfl,g_⟩:=ky.out bT;cases cG;refine wpAny_truthy_bool ?_;cases c with
 | true=>exact ae aa s1 σ H1 Q aP g_
 | false=>exact ⟨.bw false,H1,aP,rfl,g_⟩
theorem N3 (aK:bz X a a6) (ae:bz X (.BoolOp .Or (b :: rest) pos) b8):bz X (.BoolOp .Or (a :: b :: rest) pos) (J1 a6 b8):=by
 intro aa s σ H Q J h;refine BoolOp_or (bL (aK aa s σ H _ J h) fun v s1 cz=>eC cz fun x H1 aP cG bT=>?_);obtain ⟨c,rfl,g_⟩:=ky.out bT;cases cG;refine wpAny_truthy_bool ?_;cases c with
 | false=>exact ae aa s1 σ H1 Q aP g_
 | true=>exact ⟨.bw true,H1,aP,rfl,g_⟩
theorem Vy (aK:bz X a a6):bz X (.UnaryOp .Not a pos) (Jk a6):=by
 intro aa s σ H Q J h;refine UnaryOp_ (bL (aK aa s σ H _ J h) fun v s1 cz=>eC cz fun x H1 aP cG bT=>?_);obtain ⟨c,rfl,g_⟩:=ky.out bT;cases cG;exact not_of (wpAny_truthy_bool ⟨.bw (!c),H1,aP,rfl,g_⟩)
noncomputable def Lv (t:TT) (a6 b8:TE):TE:=fun σ H Q=>t σ H fun c H1=>if c=true then a6 σ H1 Q else b8 σ H1 Q
theorem CS (ar:h7 X c m1) (aK:bz X a a6) (ae:bz X b b8):bz X (.IfExp c a b pos) (Lv m1 a6 b8):=by
 intro aa s σ H Q J h;refine wpAny_IfExp (bL (ar aa s σ H _ J h) fun d s1 cL=>?_);obtain ⟨H1,aP,bT⟩:=cL;cases d with
 | true=>exact aK aa s1 σ H1 Q aP bT
 | false=>exact ae aa s1 σ H1 Q aP bT
end
def ak (K:bc) (H:au) (a:Addr) (xs:List V):Prop:=
 nq H a (.lst xs) \/
  ∃ (o:Obj) (a4:Array Value) (n:Nat),K.lookup a=some o/\o.cls=.type "list" /\ o.dict=none/\o.data=.seq a4 n/\a4.size <= sizeLine/\cj xs a4.toList
def cS (K:bc) (H:au) (a:Addr) (xs:List V):Prop:=
 nq H a (.tup xs) \/
  ∃ (o:Obj) (a4:Array Value) (n:Nat),K.lookup a=some o/\o.cls=.type "tuple" /\ o.data=.seq a4 n/\a4.size <= sizeLine/\cj xs a4.toList
noncomputable def wT:Value->Option V
 | .none=>some .cg
 | .bool b=>some (.bw b)
 | .int i _=>some (.int i)
 | .str x _=>some (.str x)
 | .bytes b _=>some (.lG b)
 | .float b _=>some (.s8 b)
 | .ref a=>some (.ref a)
 | .type n=>some (.ty n)
 | _=>none
theorem b1.abs {x:V} (r:b1 x u):wT u=some x:=by
 cases x with
 | cg=>cases r;rfl
 | bw _=>cases r;rfl
 | int _=>obtain ⟨t,rfl⟩:=r;rfl
 | str _=>obtain ⟨t,rfl⟩:=r;rfl
 | lG _=>obtain ⟨t,rfl⟩:=r;rfl
 | s8 _=>obtain ⟨t,rfl⟩:=r;rfl
 | ref _=>cases r;rfl
 | ty _=>cases r;rfl
theorem b1.inj {x y:V} (r:b1 x u) (q:b1 y u):x=y:=eL (r.abs.symm.trans q.abs)
theorem cj.inj:∀ {xs ys:List V} {us:List Value},cj xs us->cj ys us->xs=ys
 | _,_,_,.nil,.nil=>rfl
 | _,_,_,.cons r t,.cons eo t'=>by rw [r.inj eo,cj.inj t t']
section
variable {X:a0} {aa:List (Addr × Obj)} {σ:St} {H:au} {s:Shared} {a:Addr} {xs ys:List V}
theorem ak.of {K:bc} (h:H a=some (.lst xs)):ak K H a xs:=.inl (.inl h)
theorem cS.of {K:bc} (h:H a=some (.tup xs)):cS K H a xs:=.inl (.inl h)
theorem Inv.list (J:Inv X aa σ H s) (h:ak X.K H a xs):∃ a4:List Value,cj xs a4/\PlainL s.heap a a4.toArray/\xs.length <= sizeLine:=by
 rcases h with h | ⟨o,a4,n,aE,ar,hd,aw,aF,r⟩
 .obtain ⟨z,a4,n,r,e⟩:=h.ok J.bh;exact ⟨a4,r,⟨_,n,e,rfl,rfl,rfl⟩,z⟩
 .refine ⟨a4.toList,r,⟨o,n,J.eg a o aE,ar,hd,by simpa using aw⟩,?_⟩;have e:=r.length;simp only [zg] at e;omega
theorem Inv.tuple (J:Inv X aa σ H s) (h:cS X.K H a xs):∃ a4:List Value,cj xs a4/\IsTup s.heap a a4.toArray/\xs.length <= sizeLine:=by
 rcases h with h | ⟨o,a4,n,aE,ar,aw,aF,r⟩
 .obtain ⟨z,a4,r,p⟩:=h.ok J.bh;exact ⟨a4,r,p,z.1⟩
 .refine ⟨a4.toList,r,⟨o,J.eg a o aE,ar,n,by simpa using aw⟩,?_⟩;have e:=r.length;simp only [zg] at e;omega
theorem Inv.Cp (J:Inv X aa σ H s) (h:ak X.K H a xs) (h':ak X.K H a ys):xs=ys:=by
 obtain ⟨a4,r,⟨o,n,e,_,_,d⟩,_⟩:=J.list h;obtain ⟨its',eo,⟨eP,es,bW,_,_,d'⟩,_⟩:=J.list h';rw [e] at bW;cases bW;rw [d] at d';injection d' with ew _;have:a4=its':=by simpa using congrArg aic ew
 subst this;exact r.inj eo
theorem Inv.agr (J:Inv X aa σ H s) (h:cS X.K H a xs) (h':cS X.K H a ys):xs=ys:=by
 obtain ⟨a4,r,⟨o,e,_,n,d⟩,_⟩:=J.tuple h;obtain ⟨its',eo,⟨eP,bW,_,es,d'⟩,_⟩:=J.tuple h';rw [e] at bW;cases bW;rw [d] at d';injection d' with ew _;have:a4=its':=by simpa using congrArg aic ew
 subst this;exact r.inj eo
end
noncomputable abbrev a0.jw (X:a0) (E:Value->Shared->Prop):a0:={ X with dz:=E }
noncomputable abbrev a0.tE (X:a0):a0:=X.jw fun _ _=>False
theorem a0.Ok.jw {X:a0} (ok:X.Ok) (E:Value->Shared->Prop):(X.jw E).Ok:=
 ⟨ok.mod,ok.kind,ok.glob,ok.blt,ok.above,ok.inj,ok.has,ok.p3,ok.hd,ok.frames,ok.hr,ok.ux,ok.bs,ok.lz,ok.p6,ok.qq,ok.kG,ok.n9⟩
theorem a0.Ok.oC {X:a0} {E:Value->Shared->Prop} (ok:(X.jw E).Ok):X.Ok:=
 ⟨ok.mod,ok.kind,ok.glob,ok.blt,ok.above,ok.inj,ok.has,ok.p3,ok.hd,ok.frames,ok.hr,ok.ux,ok.bs,ok.lz,ok.p6,ok.qq,ok.kG,ok.n9⟩
section
variable {X:a0} {aa:List (Addr × Obj)} {σ:St} {H:au} {s:Shared} {E:Value->Shared->Prop}
theorem Inv.jw (J:Inv X aa σ H s) (E:Value->Shared->Prop):Inv (X.jw E) aa σ H s:=⟨J.ok.jw E,J.os,J.bare,J.base,J.loc,J.cell,J.free,J.jg,J.pin,J.bh,J.len⟩
theorem Inv.oC (J:Inv (X.jw E) aa σ H s):Inv X aa σ H s:=⟨J.ok.oC,J.os,J.bare,J.base,J.loc,J.cell,J.free,J.jg,J.pin,J.bh,J.len⟩
theorem oP.oC (h:oP (X.jw E) aa D f s'):oP X aa D f s':=by
 cases f with
 | next=>obtain ⟨ay,I,J,q⟩:=h;exact ⟨ay,I,J.oC,q⟩
 | brk=>obtain ⟨ay,I,J,q⟩:=h;exact ⟨ay,I,J.oC,q⟩
 | cont=>obtain ⟨ay,I,J,q⟩:=h;exact ⟨ay,I,J.oC,q⟩
 | ret u=>obtain ⟨v,ay,I,J,r,q⟩:=h;exact ⟨v,ay,I,J.oC,r,q⟩
theorem gC.tE {st:List Stmt} {t:ek} (h:gC X.tE st t):gC X st t:=fun aa s σ H D J hw=>
 wpAny_mono (h aa s σ H D (J.jw _) hw) (fun _ _ q=>q.oC) fun _ _ z=>ji z
end
section
variable {X:a0} {st:Stmt} {rest:List Stmt} {t u:ek} {e:Expr} {bN:TE} {pos:Pos}
noncomputable def f':ek:=fun D σ H=>D.cy σ H
noncomputable def ah7:Nat:=0
noncomputable def tg:Nat:=ah7
noncomputable def qZ:Nat:=tg
noncomputable def CR:Nat:=qZ
noncomputable def amX:Nat:=CR
noncomputable def aac:Nat:=amX
noncomputable def afH:Nat:=aac
noncomputable def alL:Nat:=afH
noncomputable def aai:Nat:=alL
noncomputable def abj:Nat:=aai
noncomputable def Z_:Nat:=abj
noncomputable def agd:Nat:=Z_
noncomputable def ace:Nat:=agd
noncomputable def KA (t u:ek):ek:=fun D σ H=>(fun _:Nat=>t { D with cy:=u D } σ H) ace
theorem ec:gC X [] f':=fun _ _ σ H _ J h=>wpAny_execs_nil ⟨σ,H,J,h⟩
theorem aQ (ab:f9 X st t) (ai:gC X rest u):gC X (st :: rest) (KA t u):=by
 intro aa s σ H D J h;refine wpAny_execs_cons (bL (ab aa s σ H { D with cy:=u D } J h) fun f s1 q=>?_);cases f with
 | next=>
  obtain ⟨ay,I,iu,q⟩:=q;exact ai aa s1 ay I D iu q
 | ret v=>exact q
 | brk=>exact q
 | cont=>exact q
theorem a3 (ab:f9 X st t):gC X [st] t:=by
 intro aa s σ H D J h;refine wpAny_execs_cons (bL (ab aa s σ H D J h) fun f s1 q=>?_);cases f with
 | next=>exact wpAny_execs_nil q
 | ret v=>exact q
 | brk=>exact q
 | cont=>exact q
noncomputable def LU:ek:=fun D σ H=>D.e9 σ H
theorem UA:f9 X (.Continue pos) LU:=fun _ _ σ H _ J h=>wpAny_Continue ⟨σ,H,J,h⟩
theorem Inv.quiet (J:Inv X aa σ H s):interactive X.env=false:=by simp [interactive,J.ok.kind]
noncomputable def Iw (bN:TE):ek:=fun D σ H=>bN σ H fun _ H1=>D.cy σ H1
theorem dN (he:bz X e bN) (aw:swapsWith e none pos.line X.env=pure false:=by rfl):f9 X (.Expr e pos) (Iw bN):=by
 intro aa s σ H D J h;exact wpAny_Expr_any (bL (he aa s σ H _ J h) fun v s1 cz=>eC cz fun x H1 aP cG bT=>⟨σ,H1,aP,bT⟩) J.quiet aw
noncomputable def BG (bN:TE):ek:=fun D σ H=>bN σ H D.l_
theorem cc (he:bz X e bN):f9 X (.Return (some e) pos) (BG bN):=by
 intro aa s σ H D J h;exact wpAny_Return_some (bL (he aa s σ H _ J h) fun v s1 cz=>eC cz fun x H1 aP cG bT=>⟨x,σ,H1,aP,cG,bT⟩)
noncomputable def FU (c:TT) (t u:ek):ek:=fun D σ H=>c σ H fun b H1=>if b=true then t D σ H1 else u D σ H1
theorem dW (ar:h7 X c dd) (aK:gC X a t) (ae:gC X b u):f9 X (.If c a b pos) (FU dd t u):=by
 intro aa s σ H D J h;refine wpAny_If (bL (ar aa s σ H _ J h) fun d s1 cL=>?_);obtain ⟨H1,aP,bT⟩:=cL;cases d with
 | true=>exact aK aa s1 σ H1 D aP bT
 | false=>exact ae aa s1 σ H1 D aP bT
noncomputable def CI:ek:=fun _ _ _=>False
theorem oQ:f9 X st CI:=fun _ _ _ _ _ _ h=>h.elim
theorem ahx:gC X aI CI:=fun _ _ _ _ _ _ h=>h.elim
end
noncomputable abbrev gP:=V->St->au->(St->au->Prop)->Prop
noncomputable abbrev tC:=List V->St->au->(St->au->Prop)->Prop
def o7 (X:a0) (yP:Expr) (t:gP):Prop:=
 ∀ (aa:List (Addr × Obj)) (s:Shared) (σ:St) (H:au) (v:V) (u:Value) (Q:St->au->Prop),Inv X aa σ H s->b1 v u->t v σ H Q ->
  wpAny (model X.prog X.w) X.A (assign yP X.env u) (fun _ s'=>∃ ay I,Inv X aa ay I s'/\Q ay I) X.dz s
def xI (X:a0) (j':List Expr) (t:tC):Prop:=
 ∀ (aa:List (Addr × Obj)) (s:Shared) (σ:St) (H:au) (vs:List V) (us:List Value) (Q:St->au->Prop),Inv X aa σ H s->cj vs us->t vs σ H Q ->
  wpAny (model X.prog X.w) X.A (assignInOrder ((assignEach j' X.env).map (·.2)) us) (fun _ s'=>∃ ay I,Inv X aa ay I s'/\Q ay I) X.dz s
section
variable {X:a0} {pos:Pos}
noncomputable def e_ (i:Nat):gP:=fun v σ H Q=>Q (σ.set i (some v)) H
theorem yJ {x:Str} (bb:X.N.Nodup) (ag:X.N[i]? = some x) (af:Loc X.env.scope x) (hf:X.fn x=true\/X.env.scope.names.lookup x=some .local:=by first | exact .inl rfl | exact .inr rfl | assumption):o7 X (.Name x pos) (e_ i):=by
 intro aa s σ H v u Q J r h;exact wpAny_assign_Name (EB J bb ag af r (fun s' iu=>⟨_,H,iu,h⟩) hf)
noncomputable def zl:tC:=fun vs σ H Q=>vs=[]/\Q σ H
noncomputable def so (t:gP) (u:tC):tC:=fun vs σ H Q=>∃ v r,vs=v :: r/\t v σ H fun ay I=>u r ay I Q
theorem kJ:xI X [] zl:=by
 intro aa s σ H vs us Q J r h;obtain ⟨e,h⟩:=h;subst e;cases r;exact assignInOrder_nil ⟨σ,H,J,h⟩
theorem eG {e:Expr} {t:gP} (ab:o7 X e t) (ai:xI X aT u)
  (aw:(assignEach (e :: aT) X.env).map (·.2)=assign e X.env :: (assignEach aT X.env).map (·.2):=by rfl):xI X (e :: aT) (so t u):=by
 intro aa s σ H vs us Q J r h;obtain ⟨v,apc,ao,h⟩:=h;subst ao;cases r with
 | cons r lp=>
  rw [aw];refine assignInOrder_cons (bL (ab aa s σ H _ _ _ J r h) fun _ s1 cL=>?_);obtain ⟨gu,H1,aP,bT⟩:=cL;exact ai aa s1 gu H1 _ _ Q aP lp bT
noncomputable def vO (K:bc) (n:Nat) (t:tC):gP:=fun v σ H Q=>∃ a xs,v=.ref a/\cS K H a xs/\xs.length=n/\t xs σ H Q
theorem Yd {k:Nat} {t:tC} (ar:X.calm=true) (h:xI X aT t)
  (aV:(assignEach aT X.env).length=n:=by rfl) (ff:(assignEach aT X.env).findIdx? (·.1)=none:=by rfl):o7 X (.Tuple aT k pos) (vO X.K n t):=by
 intro aa s σ H v u Q J r hw;obtain ⟨a,xs,ao,aM,aD,hw⟩:=hw;subst ao;cases r;obtain ⟨a4,cw,dQ,aF⟩:=J.tuple aM;refine assign_Tuple_tuple (J.ok.hd ar) dQ (by simp [aV,<- aD,cw.length]) ff fun h' af=>?_
 have aP:Inv X aa σ H { s with heap:=h' }:=J.kept (t':=s.toks) fun b o e=>af b o (gd (d1 e)) e
 exact h aa _ σ H xs _ Q aP (by simpa using cw) hw
noncomputable def vU (bN:TE) (g:gP):ek:=fun D σ H=>bN σ H fun x H1=>g x σ H1 D.cy
theorem WB {dr e:Expr} (he:bz X e bN) (bg:o7 X dr g) (aw:swapsWithSole [dr] e pos.line X.env=pure false:=by rfl) (hw:swappedStores [dr] e X.env=pure none:=by rfl)
  (ab:(assignEach [dr] X.env).map (·.2)=[assign dr X.env]:=by rfl):f9 X (.Assign [dr] e pos) (vU bN g):=by
 intro aa s σ H D J h;refine wpAny_Assign_stores (bL (he aa s σ H _ J h) fun v s1 cz=>eC cz fun x H1 aP cG bT=>?_) aw hw;rw [ab];exact bL (bg aa s1 σ H1 x v _ aP cG bT) fun _ s2 q=>q
theorem om {x:Str} {e:Expr} (bb:X.N.Nodup) (ag:X.N[i]? = some x) (af:Loc X.env.scope x) (he:bz X e bN) (aw:swapsWith e (some (.Name x pos')) pos.line X.env=pure false:=by rfl) (hf:X.fn x=true\/X.env.scope.names.lookup x=some .local:=by first | exact .inl rfl | exact .inr rfl | assumption) :
  f9 X (.Assign [.Name x pos'] e pos) (vU bN (e_ i)):=by
 intro aa s σ H D J h;refine wpAny_Assign_Name (bL (he aa s σ H _ J h) fun v s1 cz=>eC cz fun y H1 aP cG bT=>?_) aw;exact EB aP bb ag af cG (fun s2 bK=>⟨_,H1,bK,bT⟩) hf
noncomputable def Ow (c:TT) (b8:ek):ek:=fun D σ H=>∃ W:Nat->St->au->Prop,(∃ m,W m σ H)/\∀ m σ H,W m σ H ->
 c σ H fun b H1=>if b=true then ∃ N:St->au->Prop,(∀ ay I,N ay I->∃ dm,dm < m/\W dm ay I)/\b8 { D with cy:=N,e9:=N,cI:=D.cy } σ H1 else D.cy σ H1
theorem WO (aq:PassesOwn (model X.prog X.w) X.A X.env X.dz) (ar:h7 X c dd) (ae:gC X body b8):f9 X (.While c body [] pos) (Ow dd b8):=by
 intro aa s σ H D J h;obtain ⟨W,⟨m0,nY⟩,turn⟩:=h;refine wpAny_While (codeAny_whileLoop (fun n s'=>∃ ay I,Inv X aa ay I s'/\W n ay I) ?_ m0 ⟨σ,H,J,nY⟩);rintro n s1 ⟨gu,H1,aP,dI⟩;refine wpAny_passesOwn aq (bL (ar aa s1 gu H1 _ aP (turn n gu H1 dI)) fun b s2 cL=>?_);obtain ⟨az,bK,d5⟩:=cL;cases b with
 | true=>
  obtain ⟨N,bb,d5⟩:=d5;rw [if_pos rfl];refine wpAny_passesOwn aq (bL (ae aa s2 gu az _ bK d5) fun f s3 g4=>?_);cases f with
  | next=>
   obtain ⟨gE,bI,eK,c0⟩:=g4;obtain ⟨dm,hm,gD⟩:=bb gE bI c0;exact ⟨dm,hm,gE,bI,eK,gD⟩
  | cont=>
   obtain ⟨gE,bI,eK,c0⟩:=g4;obtain ⟨dm,hm,gD⟩:=bb gE bI c0;exact ⟨dm,hm,gE,bI,eK,gD⟩
  | brk=>exact g4
  | ret v=>exact g4
 | false=>
  rw [if_neg hh];exact wpAny_execs_nil ⟨gu,az,bK,d5⟩
end
structure kI where
 go:Nat->au->Prop
 rE:Nat->au->V->au->Prop
 stop:Nat->au->Prop
def Ty (X:a0) (aa:List (Addr × Obj)) (H:au) (b:Addr):Prop:=
 H b=none/\b ≠ X.env.locals/\b ∉ X.aO/\(b ∈ X.ex\/X.fE.heap.objs.size <= b)/\(∀ x c,X.env.cells.lookup x=some c->c ≠ b)/\∀ p ∈ X.ey ++ aa,p.1 ≠ b
theorem Inv.oU (J:Inv X aa σ H s) (ae:s.heap.objs.size <= b) (aV:I b=none):Ty X aa I b:=by
 refine ⟨aV,yq (ho J.lt ae),J.Kr ae,.inr (cq J.lQ ae),fun x c e z=>?_,fun p aq z=>?_⟩
 .obtain ⟨v,q⟩:=J.cell x c e;exact absurd (ho q.lt (by rw [z];exact ae)) (nj _)
 .exact absurd (ho (d1 (J.pin p aq).1) (by rw [z];exact ae)) (nj _)
structure rY (P:Program) (w:World) (K:bc) (dr:Expr) (bF:kI) (bf:List Addr) (it:Addr) (ig:Nat->Heap->Prop):Prop where
 mem:it ∈ bf
 obj:∀ i h,ig i h->∀ b ∈ bf,∃ o,h.get? b=some o/\∀ v,o.data ≠ .cell v
 keep:∀ i h h',ig i h->(∀ b ∈ bf,∀ o,h.get? b=some o->h'.get? b=some o)->ig i h'
 item:∀ (X:a0),X.prog=P->X.w=w->X.K=K->X.calm=true->∀ (i:Nat) (aa:List (Addr × Obj)) (s:Shared) (σ:St) (H:au) (E:Value->Shared->Prop),Inv X aa σ H s->(∀ b ∈ bf,Ty X aa H b)->ig i s.heap->bF.go i H ->
  wpAny (model P w) X.A (pyNext (.ref it)) (fun r s1=>∃ u,r=some u /\
   wpAny (model P w) X.A (letOwnedTupleGo dr (.ref it) u) (fun _ s2=>∃ x I,Inv X aa σ I s2/\b1 x u/\bF.rE i H x I/\ig (i + 1) s2.heap/\∀ b ∈ bf,I b=none) E s1) E s
 done:∀ (X:a0),X.prog=P->X.w=w->X.K=K->X.calm=true->∀ (i:Nat) (aa:List (Addr × Obj)) (s:Shared) (σ:St) (H:au) (E:Value->Shared->Prop),Inv X aa σ H s->(∀ b ∈ bf,Ty X aa H b)->ig i s.heap->bF.stop i H ->
  wpAny (model P w) X.A (pyNext (.ref it)) (fun r s1=>r=none/\Inv X aa σ H s1) E s
 self:∀ (A:Around) (i:Nat) (s:Shared) (Q:Value->Shared->Prop) (E:Value->Shared->Prop),ig i s.heap->Q (.ref it) s->wpAny (model P w) A (pyIter (.ref it)) Q E s
noncomputable abbrev TI:=St->au->(kI->au->Prop)->Prop
def Tu (X:a0) (aa:List (Addr × Obj)) (σ:St) (dr:Expr) (R:kI->au->Prop) (B1:Value) (s2:Shared):Prop:=
 ∃ (it:Addr) (bf:List Addr) (ig:Nat->Heap->Prop) (bF:kI) (I:au),B1=.ref it/\Inv X aa σ I s2/\rY X.prog X.w X.K dr bF bf it ig/\ig 0 s2.heap/\(∀ b ∈ bf,Ty X aa I b)/\R bF I
def o9 (X:a0) (dr iter:Expr) (gz:TI):Prop:=
 ∀ (aa:List (Addr × Obj)) (s:Shared) (σ:St) (H:au) (R:kI->au->Prop),Inv X aa σ H s->gz σ H R ->
  wpAny (model X.prog X.w) X.A (eval iter X.env) (fun v s1=>wpAny (model X.prog X.w) X.A (pyIter v) (Tu X aa σ dr R) X.dz s1) X.dz s
theorem Ey {A:Around} {it:Addr} (aW:s.heap.get? it=some o) (ar:o.cls=.type n) (hd:o.data=.fields vs)
    (aV:["enumerate","zip","dict_itemiterator","dict_reverseitemiterator","odict_iterator","itertools.zip_longest","itertools.pairwise"].contains n=false) (aX:Q () s):wpAny M A (letOwnedTupleGo dr (.ref it) u) Q E s:=by
  unfold letOwnedTupleGo;cases dr <;> first
    | exact wpAny_pure aX
    | (cases u <;> first
        | exact wpAny_pure aX
        | (refine wpAny_bind (wpAny_load aW ?_)
           rw [ar,hd];show wpAny M A (if (["enumerate","zip","dict_itemiterator","dict_reverseitemiterator","odict_iterator","itertools.zip_longest","itertools.pairwise"].contains n && vs[0]? == some (rawInt _))=true then _ else _) Q E s;rw [if_neg (by intro h;rw [aV,uZ] at h;cases h)];exact wpAny_pure aX))
noncomputable def oj (K:bc) (a:Addr):kI:=
 ⟨fun i H=>∃ xs x,ak K H a xs/\xs[i]? = some x,fun i H x I=>I=H/\∀ xs,ak K H a xs->xs[i]? = some x,fun i H=>∃ xs,ak K H a xs/\xs.length <= i⟩
noncomputable def A3 (K:bc) (a:Addr):kI:=
 ⟨fun i H=>∃ xs x,cS K H a xs/\xs[i]? = some x,fun i H x I=>I=H/\∀ xs,cS K H a xs->xs[i]? = some x,fun i H=>∃ xs,cS K H a xs/\xs.length <= i⟩
noncomputable def l9 (lo:Int) (n:Nat):kI:=⟨fun i _=>i < n,fun i H x I=>I=H/\x=.int (lo + i),fun i _=>n <= i⟩
theorem ahU {w:World} {K:bc} (a it:Addr):rY P w K dr (oj K a) [it] it (fun i h=>h.IsListIter it a i) where
 mem:=by simp
 obj:=fun i h st b ae=>by
  have e:b=it:=by simpa using ae
  subst e;obtain ⟨o,e,c,d⟩:=st;exact ⟨o,e,fun v z=>by rw [d] at z;cases z⟩
 keep:=fun i h h' st k=>st.at fun o e=>k it (by simp) o e
 item:=by
  intro X cN hw f6 ar i aa s σ H E J hf st bg;subst cN hw f6;obtain ⟨xs,x,aM,af⟩:=bg;obtain ⟨a4,cw,p,aF⟩:=J.list aM;obtain ⟨u,b7,ej⟩:=cw.get af;obtain ⟨f0,f1,f2,fw,f4,f7⟩:=hf it (by simp);refine wpAny_pyNext_list_item st p.isList (x:=u) (by simpa using b7) fun h' f3 qV=>?_
  have aP:Inv X aa σ H { s with heap:=h' }:=J.turned (t':=s.toks) (fun b o ae e=>(qV.2 b ae).trans e) f0 f1 fw f4 f7;obtain ⟨o,e,c,d⟩:=id f3;exact ⟨u,rfl,Ey (s:={ s with heap:=h' }) e c d (by decide) ⟨x,H,aP,ej,⟨rfl,fun ys aU=>by rw [J.Cp aU aM];exact af⟩,f3,fun b ae=>(hf b ae).1⟩⟩
 done:=by
  intro X cN hw f6 ar i aa s σ H E J hf st bg;subst cN hw f6;obtain ⟨xs,aM,af⟩:=bg;obtain ⟨a4,cw,p,aF⟩:=J.list aM;obtain ⟨f0,f1,f2,fw,f4,f7⟩:=hf it (by simp);have aD:=cw.length;exact wpAny_pyNext_list_end (J.ok.hd ar) st p.isList (by simp;omega) fun h' eA=>⟨rfl,J.turned (t':=s.toks) (fun b o ae e=>eA b o ae e) f0 f1 fw f4 f7⟩
 self:=fun _ _ _ _ _ st h=>wpAny_pyIter_listiter st h
theorem ZX {w:World} {K:bc} (a it:Addr):rY P w K dr (A3 K a) [it] it (fun i h=>h.IsTupleIter it a i) where
 mem:=by simp
 obj:=fun i h st b ae=>by
  have e:b=it:=by simpa using ae
  subst e;obtain ⟨o,e,c,d⟩:=st;exact ⟨o,e,fun v z=>by rw [d] at z;cases z⟩
 keep:=fun i h h' st k=>st.at fun o e=>k it (by simp) o e
 item:=by
  intro X cN hw f6 ar i aa s σ H E J hf st bg;subst cN hw f6;obtain ⟨xs,x,aM,af⟩:=bg;obtain ⟨a4,cw,p,aF⟩:=J.tuple aM;obtain ⟨u,b7,ej⟩:=cw.get af;obtain ⟨f0,f1,f2,fw,f4,f7⟩:=hf it (by simp);refine wpAny_pyNext_tuple_item st (show s.heap.IsTuple a a4.toArray from p) (x:=u) (by simpa using b7) fun h' f3 qV=>?_
  have aP:Inv X aa σ H { s with heap:=h' }:=J.turned (t':=s.toks) (fun b o ae e=>(qV.2 b ae).trans e) f0 f1 fw f4 f7;obtain ⟨o,e,c,d⟩:=id f3;exact ⟨u,rfl,Ey (s:={ s with heap:=h' }) e c d (by decide) ⟨x,H,aP,ej,⟨rfl,fun ys aU=>by rw [J.agr aU aM];exact af⟩,f3,fun b ae=>(hf b ae).1⟩⟩
 done:=by
  intro X cN hw f6 ar i aa s σ H E J hf st bg;subst cN hw f6;obtain ⟨xs,aM,af⟩:=bg;obtain ⟨a4,cw,p,aF⟩:=J.tuple aM;obtain ⟨f0,f1,f2,fw,f4,f7⟩:=hf it (by simp);have aD:=cw.length;exact wpAny_pyNext_tuple_end (J.ok.hd ar) st (show s.heap.IsTuple a a4.toArray from p) (by simp;omega) fun h' eA=>⟨rfl,J.turned (t':=s.toks) (fun b o ae e=>eA b o ae e) f0 f1 fw f4 f7⟩
 self:=fun _ _ _ _ _ st h=>wpAny_pyIter_tupleiter st h
theorem aj3 {w:World} {K:bc} (it:Addr) (lo:Int) (n:Nat):rY P w K dr (l9 lo n) [it] it (fun i h=>IsRangeIter h it (lo + (i:Nat) * 1) ((n:Int) - (i:Nat)) 1) where
 mem:=by simp
 obj:=fun i h st b ae=>by
  have e:b=it:=by simpa using ae
  subst e;exact ⟨_,st,fun v z=>by
   have gn:OT _=DV v:=z;cases gn⟩
 keep:=fun i h h' st k=>k it (by simp) _ st
 item:=by
  intro X cN hw f6 ar i aa s σ H E J hf st bg;subst cN hw f6;obtain ⟨f0,f1,f2,fw,f4,f7⟩:=hf it (by simp);have W:=Walks.range (prog:=X.prog) (w:=X.w) (J.ok.hd ar) it lo 1 n;refine W.item i s _ _ bg st fun v h' tk aG f3 pA=>?_
  obtain ⟨t,rfl⟩:=aG;have aP:Inv X aa σ H { s with heap:=h',toks:=tk }:=J.turned (fun b o ae e=>pA b o (by simpa using ae) e) f0 f1 fw f4 f7;refine ⟨_,rfl,Ey (s:={ s with heap:=h',toks:=tk }) (n := "range_iterator") f3 rfl rfl (by decide) ⟨.int (lo + i),H,aP,⟨t,?_⟩,⟨rfl,rfl⟩,f3,fun b ae=>(hf b ae).1⟩⟩;rw [Int.mul_one]
 done:=by
  intro X cN hw f6 ar i aa s σ H E J hf st bg;subst cN hw f6;obtain ⟨f0,f1,f2,fw,f4,f7⟩:=hf it (by simp);exact wpAny_pyNext_range_end (J.ok.hd ar) st (by have:n <= i:=bg;omega) fun h' eA=>⟨rfl,J.turned (t':=s.toks) (fun b o ae e=>eA b o ae e) f0 f1 fw f4 f7⟩
 self:=fun _ _ _ _ _ st h=>wpAny_pyIter_rangeiter st h
section
variable {X:a0} {dr:Expr}
noncomputable def Lx (K:bc) (bo:TE):TI:=fun σ H R=>bo σ H fun x H1=>fv x fun a=>(∃ xs,ak K H1 a xs)/\R (oj K a) H1
noncomputable def J' (K:bc) (bo:TE):TI:=fun σ H R=>bo σ H fun x H1=>fv x fun a=>(∃ xs,cS K H1 a xs)/\R (A3 K a) H1
theorem eZ (aD:bz X l bo):o9 X dr l (Lx X.K bo):=by
 intro aa s σ H R J h;refine bL (aD aa s σ H _ J h) fun v s1 cz=>eC cz fun x H1 aP cG bT=>?_
 obtain ⟨a,e,⟨xs,aM⟩,q⟩:=fv.out bT;subst e;cases cG;obtain ⟨a4,cw,p,aF⟩:=aP.list aM;refine wpAny_pyIter_list p.isList ?_;refine ⟨s1.heap.objs.size,[s1.heap.objs.size],_,_,H1,rfl,aP.kept (t':=s1.toks) fun b o e=>ed _ e,ahU a _,⟨_,hS _ rfl,rfl,rfl⟩,fun b ae=>?_,q⟩;have e:b=s1.heap.objs.size:=by simpa using ae
 subst e;exact aP.oU (bP _) (aP.bh.fresh (bP _))
theorem ad2 (aD:bz X l bo):o9 X dr l (J' X.K bo):=by
 intro aa s σ H R J h;refine bL (aD aa s σ H _ J h) fun v s1 cz=>eC cz fun x H1 aP cG bT=>?_
 obtain ⟨a,e,⟨xs,aM⟩,q⟩:=fv.out bT;subst e;cases cG;obtain ⟨a4,cw,p,aF⟩:=aP.tuple aM;refine wpAny_pyIter_tuple (show s1.heap.IsTuple a a4.toArray from p) ?_;refine ⟨s1.heap.objs.size,[s1.heap.objs.size],_,_,H1,rfl,aP.kept (t':=s1.toks) fun b o e=>ed _ e,ZX a _,⟨_,hS _ rfl,rfl,rfl⟩,fun b ae=>?_,q⟩;have e:b=s1.heap.objs.size:=by simpa using ae
 subst e;exact aP.oU (bP _) (aP.bh.fresh (bP _))
theorem NE {aa:List (Addr × Obj)} {σ:St} {H:au} {s:Shared} {R:kI->au->Prop} {E:Value->Shared->Prop} {lo ag:Int} {t u v:Tok} {tk:Nat} (J:Inv X aa σ H s) (ab:-(2 ^ 62) <= lo) (ai:lo < 2 ^ 62) (a5:-(2 ^ 62) <= ag) (bQ:ag < 2 ^ 62)
  (q:R (l9 lo (ag - lo).toNat) H):wpAny (model X.prog X.w) X.A (pyIter (.ref s.heap.objs.size)) (Tu X aa σ dr R) E { s with heap:=s.heap.push { cls:=.type "range",data:=.fields #[.int lo t,.int ag u,.int 1 v] },toks:=tk }:=by
 refine wpAny_pyIter_range (IsRange.new ..) (small_one ab ai a5 bQ) ?_;have aP:Inv X aa σ H { s with heap:=s.heap.push { cls:=.type "range",data:=.fields #[.int lo t,.int ag u,.int 1 v] },toks:=tk }:=J.kept fun b o e=>ed _ e
 refine ⟨(s.heap.push { cls:=.type "range",data:=.fields #[.int lo t,.int ag u,.int 1 v] }).objs.size,[(s.heap.push { cls:=.type "range",data:=.fields #[.int lo t,.int ag u,.int 1 v] }).objs.size],_,_,H,rfl,
  aP.kept (t':=tk) fun b o e=>ed _ e,aj3 _ lo (ag - lo).toNat,?_,fun b ae=>?_,q⟩
 .have ao:lo + ((0:Nat):Int) * 1=lo:=by simp
  have aC:(((ag - lo).toNat:Nat):Int) - ((0:Nat):Int)=aog lo ag 1:=by rw [rangeSize_one];split <;> omega
  show IsRangeIter _ _ (lo + ((0:Nat):Int) * 1) ((((ag - lo).toNat:Nat):Int) - ((0:Nat):Int)) 1;rw [ao,aC];exact hS _ rfl
 .have e:b=(s.heap.push { cls:=.type "range",data:=.fields #[.int lo t,.int ag u,.int 1 v] }).objs.size:=by simpa using ae
  subst e;exact aP.oU (bP _) (aP.bh.fresh (bP _))
noncomputable def R0 (a6:fc):TI:=fun σ H R=>a6 σ H fun vs H1=>m6 vs fun x=>gR x fun j=>-(2 ^ 62) <= j/\j < 2 ^ 62/\R (l9 0 j.toNat) H1
noncomputable def WX (a6:fc):TI:=fun σ H R=>a6 σ H fun vs H1=>∃ i j:Int,vs=[.int i,.int j]/\(-(2 ^ 62) <= i/\i < 2 ^ 62/\-(2 ^ 62) <= j/\j < 2 ^ 62)/\R (l9 i (j - i).toNat) H1
theorem iw {a:Expr} {a6:fc} {p pos:Pos} (bg:iR X "range") (hm:X.mg "range"=none) (aK:gg X [a] a6) (aw:starEach [a] X.env=[(false,eval a X.env)]:=by rfl):o9 X dr (.Call (.Name "range" p) [a] [] pos) (R0 a6):=by
 intro aa s σ H R J h;refine Call_ (rT J bg hm boot_range (zR (bL (aK pos aa s σ H _ J h) fun us s1 cL=>?_) aw rfl));obtain ⟨vs,H1,aP,cG,bT⟩:=cL;obtain ⟨abK,ag3,g_⟩:=m6.out bT;obtain ⟨j,FN,ahi,d5,q⟩:=gR.out g_;have e:=ag3.trans (congrArg (fun z=>[z]) FN);subst e;cases cG with
 | cons r lp=>
  cases lp;obtain ⟨t,rfl⟩:=r;exact call_range_1 (NE aP (by omega) (by omega) ahi d5 (by simpa using q))
theorem Oq {p pos:Pos} (bg:iR X "range") (hm:X.mg "range"=none) (aK:gg X [a,b] a6) (aw:starEach [a,b] X.env=[(false,eval a X.env),(false,eval b X.env)]:=by rfl) (jB:starEach [b] X.env=[(false,eval b X.env)]:=by rfl) :
  o9 X dr (.Call (.Name "range" p) [a,b] [] pos) (WX a6):=by
 intro aa s σ H R J h;refine Call_ (rT J bg hm boot_range (zR (bL (aK pos aa s σ H _ J h) fun us s1 cL=>?_) (by rw [aw,jB]) (by rw [jB];rfl)));obtain ⟨vs,H1,aP,cG,bT⟩:=cL;obtain ⟨i,j,e,⟨bT,d5,g4,yx⟩,q⟩:=bT;subst e;cases cG with
 | cons r lp=>
  cases lp with
  | cons eo lp=>
   cases lp;obtain ⟨t,rfl⟩:=r;obtain ⟨t',rfl⟩:=eo;exact call_range_2 (NE aP bT d5 g4 yx q)
noncomputable def RF (gz:TI) (g:gP) (b8:ek):ek:=fun D σ H=>gz σ H fun bF H1=>∃ W:Nat->Nat->St->au->Prop,(∃ m,W 0 m σ H1)/\∀ i m σ H,W i m σ H ->
 (bF.stop i H/\D.cy σ H)\/(bF.go i H/\∃ N:St->au->Prop,(∀ ay I,N ay I->∃ dm,dm < m/\W (i + 1) dm ay I)/\∀ x I,bF.rE i H x I->g x σ I fun cH az=>b8 { D with cy:=N,e9:=N,cI:=D.cy } cH az)
noncomputable def yj (bf:List Addr) (h:Heap):List (Addr × Obj):=bf.filterMap fun b=>(h.get? b).map fun o=>(b,o)
theorem AZ {h:Heap} (ae:b ∈ bf) (e:h.get? b=some o):(b,o) ∈ yj bf h:=ahH.mpr ⟨b,ae,by rw [e];rfl⟩
theorem ag1 {h:Heap} {p:Addr × Obj} (aq:p ∈ yj bf h):p.1 ∈ bf/\h.get? p.1=some p.2:=by
 obtain ⟨b,ae,e⟩:=ahH.mp aq;cases q:h.get? b with
 | none=>rw [q] at e;cases e
 | some o=>
  rw [q] at e;have bW:(b,o)=p:=eL e;subst bW;exact ⟨ae,q⟩
theorem Inv.pinned (J:Inv X aa σ H s) (hf:∀ b ∈ bf,Ty X aa H b) (aW:∀ b ∈ bf,∃ o,s.heap.get? b=some o/\∀ v,o.data ≠ .cell v):Inv X (aa ++ yj bf s.heap) σ H s:=
 J.sq fun p aq=>(dZ.mp aq).elim (fun z=>J.pin p (iV _ z)) fun z=>by
  obtain ⟨ae,e⟩:=ag1 z;obtain ⟨f0,f1,f2,_⟩:=hf p.1 ae;obtain ⟨o,bW,d⟩:=aW p.1 ae;rw [e] at bW;cases bW;exact ⟨e,f0,f1,f2,d⟩
theorem Inv.Bz (J:Inv X (aa ++ pl) σ H s):Inv X aa σ H s:=J.sq fun p aq=>J.pin p (iV _ (nE _ aq))
theorem eU (aq:PassesOwn (model X.prog X.w) X.A X.env X.dz) (ar:X.calm=true) (ag:o9 X dr iter gz) (bg:o7 X dr g) (ae:gC X body b8)
  (aw:∀ x,foldedSetIterable iter X.env x=pure x:=by intro _;rfl):f9 X (.For dr iter body [] pos) (RF gz g b8):=by
 intro aa s σ H D J h;refine wpAny_For (bL (ag aa s σ H _ J h) fun v s1 ab=>bL ab fun B1 s2 ai=>?_) aw;obtain ⟨it,bf,ig,bF,az,e,bK,T,rN,f2,W,⟨m0,nY⟩,turn⟩:=ai;subst e;have stat:∀ {I:au},(∀ b ∈ bf,I b=none)->∀ b ∈ bf,Ty X aa I b:=fun aV b ae=>⟨aV b ae,(f2 b ae).2⟩
 refine codeAny_forLoop_any (fun n s'=>∃ i ay I,Inv X aa ay I s'/\ig i s'.heap/\(∀ b ∈ bf,I b=none)/\W i n ay I) ?_ m0 ⟨0,σ,az,bK,rN,fun b ae=>(f2 b ae).1,nY⟩;rintro n s3 ⟨i,gE,bI,eK,VC,RG,gD⟩;rcases turn i n gE bI gD with ⟨stop,y2⟩ | ⟨go,N,bb,step⟩
 .refine wpAny_passesOwn aq (bL (T.done X rfl rfl rfl ar i aa s3 gE bI X.dz eK (stat RG) VC stop) fun r s4 cL=>?_);obtain ⟨aj,fY⟩:=cL;subst aj;exact wpAny_execs_nil ⟨gE,bI,fY,y2⟩
 .refine wpAny_passesOwn aq (bL (T.item X rfl rfl rfl ar i aa s3 gE bI X.dz eK (stat RG) VC go) fun r s4 cL=>?_);obtain ⟨u,aj,bQ⟩:=cL;subst aj;refine wpAny_passesOwn aq (bL bQ fun _ s5 cL=>?_);obtain ⟨x,c3,wg,Hp,Fj,s7,E0⟩:=cL;have GI:=wg.pinned (stat E0) (T.obj _ _ s7);refine wpAny_passesOwn aq (bL (bg _ s5 gE c3 x u _ GI Hp (step x c3 Fj)) fun _ dO cL=>?_);obtain ⟨oX,fz,ov,Ki⟩:=cL;refine wpAny_passesOwn aq (bL (ae _ dO oX fz _ ov Ki) fun f gs oA=>?_);have again:∀ {lu:St} {fe:au},Inv X (aa ++ yj bf s5.heap) lu fe gs->N lu fe->∃ m,m < n/\∃ i ay I,Inv X aa ay I gs/\ig i gs.heap/\(∀ b ∈ bf,I b=none)/\W i m ay I:=fun {lu fe} ll hg=>by
   obtain ⟨dm,hm,nX⟩:=bb lu fe hg;refine ⟨dm,hm,i + 1,lu,fe,ll.Bz,T.keep _ _ _ s7 fun b ae o e=>(ll.pin (b,o) (iV _ (iV _ (AZ ae e)))).1,fun b ae=>?_,nX⟩;obtain ⟨o,e,d⟩:=T.obj _ _ s7 b ae;exact (ll.pin (b,o) (iV _ (iV _ (AZ ae e)))).2.1
  cases f with
  | next=>obtain ⟨lu,fe,ll,hg⟩:=oA;exact again ll hg
  | cont=>obtain ⟨lu,fe,ll,hg⟩:=oA;exact again ll hg
  | brk=>obtain ⟨lu,fe,ll,oA⟩:=oA;exact ⟨lu,fe,ll.Bz,oA⟩
  | ret v=>obtain ⟨cA,lu,fe,ll,aht,oA⟩:=oA;exact ⟨cA,lu,fe,ll.Bz,aht,oA⟩
end
theorem al6 {K:bc} {a:Addr} {xs:List V} {g:gP} {b8:ek} {D:hs} {σ:St} {H:au} (Pv:Nat->St->au->Prop) (h0:Pv 0 σ H) (aD:∀ i σ H,i <= xs.length->Pv i σ H->ak K H a xs)
  (aw:∀ i x σ H,xs[i]? = some x->Pv i σ H->g x σ H fun cH az=>b8 { D with cy:=Pv (i + 1),e9:=Pv (i + 1),cI:=D.cy } cH az) (hd:∀ σ H,Pv xs.length σ H->D.cy σ H) :
  ∃ W:Nat->Nat->St->au->Prop,(∃ m,W 0 m σ H)/\∀ i m σ H,W i m σ H ->
   ((oj K a).stop i H/\D.cy σ H)\/((oj K a).go i H/\∃ N:St->au->Prop,(∀ ay I,N ay I->∃ dm,dm < m/\W (i + 1) dm ay I)/\∀ x I,(oj K a).rE i H x I->g x σ I fun cH az=>b8 { D with cy:=N,e9:=N,cI:=D.cy } cH az):=by
 refine ⟨fun i m σ H=>m=xs.length - i/\i <= xs.length/\Pv i σ H,⟨xs.length,by simp,fg _,h0⟩,?_⟩;rintro i m σ H ⟨rfl,ag,p⟩;have q:=aD i σ H ag p;by_cases cQ:i < xs.length
 .refine .inr ⟨⟨xs,xs[i],q,by simp [cQ]⟩,Pv (i + 1),fun ay I jW=>⟨xs.length - (i + 1),by omega,rfl,cQ,jW⟩,fun x I y=>?_⟩;obtain ⟨e,y⟩:=y;subst e;exact aw i x σ _ (y xs q) p
 .have e:i=xs.length:=by omega
  subst e;exact .inl ⟨⟨xs,q,bP _⟩,hd σ H p⟩
theorem abm {lo:Int} {n:Nat} {g:gP} {b8:ek} {D:hs} {σ:St} {H:au} (Pv:Nat->St->au->Prop) (h0:Pv 0 σ H)
  (aw:∀ i σ H,i < n->Pv i σ H->g (.int (lo + i)) σ H fun cH az=>b8 { D with cy:=Pv (i + 1),e9:=Pv (i + 1),cI:=D.cy } cH az) (hd:∀ σ H,Pv n σ H->D.cy σ H) :
  ∃ W:Nat->Nat->St->au->Prop,(∃ m,W 0 m σ H)/\∀ i m σ H,W i m σ H ->
   ((l9 lo n).stop i H/\D.cy σ H)\/((l9 lo n).go i H/\∃ N:St->au->Prop,(∀ ay I,N ay I->∃ dm,dm < m/\W (i + 1) dm ay I)/\∀ x I,(l9 lo n).rE i H x I->g x σ I fun cH az=>b8 { D with cy:=N,e9:=N,cI:=D.cy } cH az):=by
 refine ⟨fun i m σ H=>m=n - i/\i <= n/\Pv i σ H,⟨n,by simp,fg _,h0⟩,?_⟩;rintro i m σ H ⟨rfl,ag,p⟩;by_cases cQ:i < n
 .refine .inr ⟨cQ,Pv (i + 1),fun ay I jW=>⟨n - (i + 1),by omega,rfl,cQ,jW⟩,fun x I y=>?_⟩;obtain ⟨e,y⟩:=y;subst e y;exact aw i σ _ cQ p
 .have e:i=n:=by omega
  subst e;exact .inl ⟨bP _,hd σ H p⟩
noncomputable abbrev fb:=V->V->au->cJ->Prop
def ik (X:a0) (f:Value->Value->Sem Value) (r:fb):Prop:=
 ∀ (aa:List (Addr × Obj)) (s:Shared) (σ:St) (H:au) (x y:V) (v u:Value) (Q:cJ),Inv X aa σ H s->b1 x v->b1 y u->r x y H Q ->
  wpAny (model X.prog X.w) X.A (f v u) (f5 X aa σ Q) X.dz s
def LN (X:a0) (f:Value->Sem Value) (r:V->au->cJ->Prop):Prop:=
 ∀ (aa:List (Addr × Obj)) (s:Shared) (σ:St) (H:au) (x:V) (v:Value) (Q:cJ),Inv X aa σ H s->b1 x v->r x H Q ->
  wpAny (model X.prog X.w) X.A (f v) (f5 X aa σ Q) X.dz s
def mS (X:a0) (f:Value) (r:List V->au->cJ->Prop):Prop:=
 ∀ (aa:List (Addr × Obj)) (s:Shared) (σ:St) (H:au) (xs:List V) (us:List Value) (Q:cJ),Inv X aa σ H s->cj xs us->r xs H Q ->
  wpAny (model X.prog X.w) X.A (call f us) (f5 X aa σ Q) X.dz s
def ais (X:a0) (r:V->au->(Bool->au->Prop)->Prop):Prop:=
 ∀ (aa:List (Addr × Obj)) (s:Shared) (σ:St) (H:au) (x:V) (v:Value) (Q:Bool->au->Prop),Inv X aa σ H s->b1 x v->r x H Q ->
  wpAny (model X.prog X.w) X.A (truthy v) (Ew X aa σ Q) X.dz s
noncomputable def tL (r:fb) (a6 b8:TE):TE:=fun σ H Q=>a6 σ H fun x H1=>b8 σ H1 fun y az=>r x y az Q
noncomputable def K7 (r:V->au->cJ->Prop) (a6:TE):TE:=fun σ H Q=>a6 σ H fun x H1=>r x H1 Q
noncomputable def x' (C:Int->Int->Prop) (g:Int->Int->V):fb:=fun x y H Q=>gR x fun i=>gR y fun j=>C i j/\Q (g i j) H
noncomputable def pW (g:Int->Int->V):fb:=fun x y H Q=>gR x fun i=>gR y fun j=>Q (g i j) H
noncomputable def Ek (g:Int->V):V->au->cJ->Prop:=fun x H Q=>gR x fun i=>Q (g i) H
section
variable {X:a0} {a b c:Expr} {a6 b8 dd:TE} {pos:Pos}
theorem Jw (aK:bz X a a6) (ae:bz X b b8) {aa:List (Addr × Obj)} {s:Shared} {σ:St} {H:au} {R:V->V->au->Prop} (J:Inv X aa σ H s)
  (h:a6 σ H fun x H1=>b8 σ H1 fun y az=>R x y az) {Q:Value->Shared->Prop} {f:Value->Value->Sem Value}
  (hf:∀ v u s2 x y az,Inv X aa σ az s2->b1 x v->b1 y u->R x y az->wpAny (model X.prog X.w) X.A (f v u) Q X.dz s2) :
  wpAny (model X.prog X.w) X.A (eval a X.env) (fun v dh=>wpAny (model X.prog X.w) X.A (eval b X.env) (fun u d3=>wpAny (model X.prog X.w) X.A (f v u) Q X.dz d3) X.dz dh) X.dz s:=by
 refine bL (aK aa s σ H _ J h) fun v s1 cz=>eC cz fun x H1 aP cG bT=>?_
 refine bL (ae aa s1 σ H1 _ aP bT) fun u s2 cz=>eC cz fun y az bK e3 d5=>?_
 exact hf v u s2 x y az bK cG e3 d5
theorem bG {op:Operator} {r:fb} (aW:ik X (binaryOp op) r) (aK:bz X a a6) (ae:bz X b b8):bz X (.BinOp a op b pos) (tL r a6 b8):=by
 intro aa s σ H Q J h;exact wpAny_BinOp (Jw aK ae J h fun v u s2 x y az bK a8 bH q=>aW aa s2 σ az x y v u Q bK a8 bH q)
theorem pL (aW:LN X (unaryOp op) r) (aK:bz X a a6):bz X (.UnaryOp op a pos) (K7 r a6):=by
 intro aa s σ H Q J h;exact UnaryOp_ (bL (aK aa s σ H _ J h) fun v s1 cz=>eC cz fun x H1 aP cG bT=>aW aa s1 σ H1 x v Q aP cG bT)
theorem OK {f:Value->Value->Sem Value} {C:Int->Int->Prop} {g:Int->Int->Int}
  (rule:∀ (i j:Int) (t u:Tok) (s:Shared) (Q:Value->Shared->Prop) (E:Value->Shared->Prop),C i j->Q (.int (g i j) s.toks) { s with toks:=s.toks + 1 }->wpAny (model X.prog X.w) X.A (f (.int i t) (.int j u)) Q E s) :
  ik X f (x' C fun i j=>.int (g i j)):=by
 intro aa s σ H x y v u Q J a8 bH h;obtain ⟨i,rfl,i_⟩:=gR.out h;obtain ⟨j,rfl,ar,q⟩:=gR.out i_;obtain ⟨t,rfl⟩:=a8;obtain ⟨t',rfl⟩:=bH;exact rule i j t t' s _ _ ar ⟨.int (g i j),H,J.tok _,⟨_,rfl⟩,q⟩
theorem VB {f:Value->Value->Sem Value} {g:Int->Int->Int}
  (rule:∀ (i j:Int) (t u:Tok) (s:Shared) (Q:Value->Shared->Prop) (E:Value->Shared->Prop),Q (.int (g i j) s.toks) { s with toks:=s.toks + 1 }->wpAny (model X.prog X.w) X.A (f (.int i t) (.int j u)) Q E s) :
  ik X f (pW fun i j=>.int (g i j)):=by
 intro aa s σ H x y v u Q J a8 bH h;obtain ⟨i,rfl,i_⟩:=gR.out h;obtain ⟨j,rfl,q⟩:=gR.out i_;obtain ⟨t,rfl⟩:=a8;obtain ⟨t',rfl⟩:=bH;exact rule i j t t' s _ _ ⟨.int (g i j),H,J.tok _,⟨_,rfl⟩,q⟩
theorem IB {f:Value->Value->Sem Value} {g:Int->Int->Bool}
  (rule:∀ (i j:Int) (t u:Tok) (s:Shared) (Q:Value->Shared->Prop) (E:Value->Shared->Prop),Q (.bool (g i j)) s->wpAny (model X.prog X.w) X.A (f (.int i t) (.int j u)) Q E s) :
  ik X f (pW fun i j=>.bw (g i j)):=by
 intro aa s σ H x y v u Q J a8 bH h;obtain ⟨i,rfl,i_⟩:=gR.out h;obtain ⟨j,rfl,q⟩:=gR.out i_;obtain ⟨t,rfl⟩:=a8;obtain ⟨t',rfl⟩:=bH;exact rule i j t t' s _ _ ⟨.bw (g i j),H,J,rfl,q⟩
def nR (i j:Int):Prop:=(-(2 ^ 64) < i/\i < 2 ^ 64)\/(-(2 ^ 64) < j/\j < 2 ^ 64)
theorem nR.ok (h:nR i j):IntMulOk i j:=by
 rcases h with ⟨ab,ai⟩ | ⟨ab,ai⟩
 .exact .of_left (intBits_le_64 ab ai)
 .exact .of_right (intBits_le_64 ab ai)
theorem er:ik X (binaryOp .Add) (pW fun i j=>.int (i + j)):=VB fun _ _ _ _ _ _ _ q=>add_int q
theorem Uf:ik X (binaryOp .Sub) (pW fun i j=>.int (i - j)):=VB fun _ _ _ _ _ _ _ q=>sub_int q
theorem lD:ik X (binaryOp .Mult) (x' nR fun i j=>.int (i * j)):=OK fun _ _ _ _ _ _ _ ar q=>mul_int q ar.ok
theorem jj:ik X (binaryOp .Mod) (x' (fun _ j=>0 < j) fun i j=>.int (i % j)):=OK fun i j _ _ _ _ _ ar q=>by
 have ab:(0:Int) < j:=ar;exact mod_int' (by omega) (by rw [Int.fmod_eq_emod_of_nonneg i (by omega)];exact q)
theorem acs {f:Value->Sem Value} {g:Int->Int}
  (rule:∀ (i:Int) (t:Tok) (s:Shared) (Q:Value->Shared->Prop) (E:Value->Shared->Prop),Q (.int (g i) s.toks) { s with toks:=s.toks + 1 }->wpAny (model X.prog X.w) X.A (f (.int i t)) Q E s) :
  LN X f (Ek fun i=>.int (g i)):=by
 intro aa s σ H x v Q J a8 h;obtain ⟨i,rfl,q⟩:=gR.out h;obtain ⟨t,rfl⟩:=a8;exact rule i t s _ _ ⟨.int (g i),H,J.tok _,⟨_,rfl⟩,q⟩
theorem pC:LN X (unaryOp .USub) (Ek fun i=>.int (-i)):=acs fun _ _ _ _ _ q=>neg_int q
end
noncomputable def Ju:V->V->Bool
 | .cg,.cg=>true | .cg,.int _=>true | .int _,.cg=>true | .cg,.bw _=>true | .bw _,.cg=>true | .cg,.str _=>true | .str _,.cg=>true
 | .int _,.int _=>true | .bw _,.bw _=>true | .str _,.str _=>true | .lG _,.lG _=>true
 | .int _,.str _=>true | .str _,.int _=>true | .bw _,.str _=>true | .str _,.bw _=>true
 | _,_=>false
noncomputable def Mi:fb:=fun x y H Q=>Ju x y=true/\Q (.bw (decide (x=y))) H
noncomputable def KI:fb:=fun x y H Q=>Ju x y=true/\Q (.bw (!decide (x=y))) H
theorem RS:decide (V.int i=V.int j)=(i == j):=by
 rw [n5];simp
theorem Tb:decide (V.bw i=V.bw j)=(i == j):=by
 rw [n5];simp
theorem TX:decide (V.str i=V.str j)=(i == j):=by
 rw [n5];simp
theorem WR:decide (V.lG i=V.lG j)=(i.toList == j.toList):=by
 rw [n5];cases i;cases j;simp
section
variable {X:a0} {a b c:Expr} {a6 b8 dd:TE} {pos:Pos}
theorem fu {k sk:Bool} (J:Inv X aa σ H s) (q:Q (.bw k) H) (e:k=sk):f5 X aa σ Q (.bool sk) s:=by
 subst e;exact ⟨.bw k,H,J,rfl,q⟩
theorem eQ:ik X (compareOp .Eq) Mi:=by
 intro aa s σ H x y v u Q J a8 bH h;obtain ⟨aw,q⟩:=h;cases x with
 | cg=>
  cases a8;cases y with
  | cg=>cases bH;exact aom (fu J q (by simp))
  | bw j=>cases bH;exact aoZ (fu J q (by simp))
  | int j=>obtain ⟨t',rfl⟩:=bH;exact ao0 (fu J q (by simp))
  | str j=>obtain ⟨t',rfl⟩:=bH;exact apE (fu J q (by simp))
  | _=>exact absurd (show false=true from aw) hh
 | bw i=>
  cases a8;cases y with
  | cg=>cases bH;exact apK (fu J q (by simp))
  | bw j=>cases bH;exact eq_bool (fu J q Tb)
  | str j=>obtain ⟨t',rfl⟩:=bH;exact apM (fu J q (by simp))
  | _=>exact absurd (show false=true from aw) hh
 | int i=>
  obtain ⟨t,rfl⟩:=a8;cases y with
  | cg=>cases bH;exact apY (fu J q (by simp))
  | int j=>obtain ⟨t',rfl⟩:=bH;exact eq_int (fu J q RS)
  | str j=>obtain ⟨t',rfl⟩:=bH;exact aol (fu J q (by simp))
  | _=>exact absurd (show false=true from aw) hh
 | str i=>
  obtain ⟨t,rfl⟩:=a8;cases y with
  | cg=>cases bH;exact ao9 (fu J q (by simp))
  | bw j=>cases bH;exact aoL (fu J q (by simp))
  | int j=>obtain ⟨t',rfl⟩:=bH;exact apk (fu J q (by simp))
  | str j=>obtain ⟨t',rfl⟩:=bH;exact eq_str (fu J q TX)
  | _=>exact absurd (show false=true from aw) hh
 | lG i=>
  obtain ⟨t,rfl⟩:=a8;cases y with
  | lG j=>obtain ⟨t',rfl⟩:=bH;exact PySem.W.eq_bytes (fu J q WR)
  | _=>exact absurd (show false=true from aw) hh
 | _=>cases y <;> exact absurd (show false=true from aw) hh
theorem mz:ik X (compareOp .NotEq) KI:=by
 intro aa s σ H x y v u Q J a8 bH h;obtain ⟨aw,q⟩:=h;cases x with
 | cg=>
  cases a8;cases y with
  | cg=>cases bH;exact aop (fu J q (by simp))
  | bw j=>cases bH;exact aoJ (fu J q (by simp))
  | int j=>obtain ⟨t',rfl⟩:=bH;exact apy (fu J q (by simp))
  | str j=>obtain ⟨t',rfl⟩:=bH;exact apz (fu J q (by simp))
  | _=>exact absurd (show false=true from aw) hh
 | bw i=>
  cases a8;cases y with
  | cg=>cases bH;exact an9 (fu J q (by simp))
  | bw j=>cases bH;exact ne_bool (fu J q (congrArg not Tb))
  | str j=>obtain ⟨t',rfl⟩:=bH;exact apl (fu J q (by simp))
  | _=>exact absurd (show false=true from aw) hh
 | int i=>
  obtain ⟨t,rfl⟩:=a8;cases y with
  | cg=>cases bH;exact aoi (fu J q (by simp))
  | int j=>obtain ⟨t',rfl⟩:=bH;exact ne_int (fu J q (congrArg not RS))
  | str j=>obtain ⟨t',rfl⟩:=bH;exact apA (fu J q (by simp))
  | _=>exact absurd (show false=true from aw) hh
 | str i=>
  obtain ⟨t,rfl⟩:=a8;cases y with
  | cg=>cases bH;exact apD (fu J q (by simp))
  | bw j=>cases bH;exact aoB (fu J q (by simp))
  | int j=>obtain ⟨t',rfl⟩:=bH;exact apv (fu J q (by simp))
  | str j=>obtain ⟨t',rfl⟩:=bH;exact ne_str (fu J q (congrArg not TX))
  | _=>exact absurd (show false=true from aw) hh
 | lG i=>
  obtain ⟨t,rfl⟩:=a8;cases y with
  | lG j=>obtain ⟨t',rfl⟩:=bH;exact PySem.W.ne_bytes (fu J q (congrArg not WR))
  | _=>exact absurd (show false=true from aw) hh
 | _=>cases y <;> exact absurd (show false=true from aw) hh
theorem pv:ik X (compareOp .Lt) (pW fun i j=>.bw (decide (i < j))):=IB fun _ _ _ _ _ _ _ q=>lt_int q
theorem acY:ik X (compareOp .LtE) (pW fun i j=>.bw (decide (i <= j))):=IB fun _ _ _ _ _ _ _ q=>le_int q
theorem pF:ik X (compareOp .Gt) (pW fun i j=>.bw (decide (j < i))):=IB fun _ _ _ _ _ _ _ q=>gt_int q
theorem Xu:ik X (compareOp .In) (fun x y H Q=>∃ i j,x=.str i/\y=.str j/\Q (.bw (!(sV j i 0 j.length 1).isEmpty)) H):=by
 intro aa s σ H x y v u Q J a8 bH h;obtain ⟨i,j,rfl,rfl,q⟩:=h;obtain ⟨t,rfl⟩:=a8;obtain ⟨t',rfl⟩:=bH;exact in_str (fu J q rfl)
theorem abe:ik X (compareOp .IsNot) (fun x y H Q=>y=.cg/\Q (.bw (!decide (x=.cg))) H):=by
 intro aa s σ H x y v u Q J a8 bH h;obtain ⟨rfl,q⟩:=h;cases bH;refine isnot_none_gen (fu J q ?_);cases x <;> first
  | (cases a8;rfl)
  | (obtain ⟨t,rfl⟩:=a8;rfl)
theorem cF (b:Expr) (h:op ≠ .In:=by decide) (ai:op ≠ .NotIn:=by decide):behindInMarks op b=false:=by
 have ao:(op == CmpOp.In)=false:=by cases op <;> first | rfl | exact absurd rfl h
 have aC:(op == akO)=false:=by cases op <;> first | rfl | exact absurd rfl ai
 cases b <;> simp [behindInMarks,ao,aC]
theorem hx (aW:ik X (compareOp op) r) (aK:bz X a a6) (ae:bz X b b8) (hm:behindInMarks op b=false):bz X (.Compare a [op] [b] pos) (tL r a6 b8):=by
 intro aa s σ H Q J h;exact wpAny_Compare1 (Jw aK ae J h fun v u s2 x y az bK a8 bH q=>aW aa s2 σ az x y v u Q bK a8 bH q) hm
noncomputable def F' (t:TE):TT:=fun σ H Q=>t σ H fun x I=>ky x fun k=>Q k I
theorem c5 (aW:ik X (compareOp op) r) (aK:bz X a a6) (ae:bz X b b8) (hm:behindInMarks op b=false):h7 X (.Compare a [op] [b] pos) (F' (tL r a6 b8)):=by
 intro aa s σ H Q J h;refine wpAny_isTrue_Compare1 (bL (aK aa s σ H _ J h) fun v s1 cz=>eC cz fun x H1 aP cG bT=>bL (ae aa s1 σ H1 _ aP bT) fun u s2 ⟨y,az,bK,e3,d5⟩=>
  bL (aW aa s2 σ az x y v u _ bK cG e3 d5) fun c s3 cz=>eC cz fun z bI eK Gg g_=>?_) hm
 obtain ⟨k,e,g4⟩:=ky.out g_;subst e;cases Gg;exact wpAny_truthy_bool ⟨bI,eK,g4⟩
def Ug (K:bc) (x:V) (H:au) (k:Bool):Prop:=
 match x with
 | .cg=>k=false
 | .bw b=>k=b
 | .int i=>k=(i != 0)
 | .str y=>y.length <= sizeLine/\k=((y.length:Int) != 0)
 | .lG y=>y.size <= sizeLine/\k=((y.size:Int) != 0)
 | .ref p=>(∃ xs,ak K H p xs/\k = !xs.isEmpty)\/(∃ xs,cS K H p xs/\k = !xs.isEmpty)\/∃ aA,H p=some (.di aA)/\k = !aA.isEmpty
 | _=>False
theorem ajW (r:gm aA vs):(!vs.isEmpty) = !aA.isEmpty:=by
 cases r <;> rfl
theorem sw {a4:List Value} (r:cj xs a4):(!a4.toArray.isEmpty) = !xs.isEmpty:=by
 cases r <;> simp
theorem uq:(sizeLine:Nat) < 2 ^ 63:=by rw [sizeLine_eq];decide
theorem Xd:ais X (fun x H Q=>∃ k,Ug X.K x H k/\Q k H):=by
 intro aa s σ H x v Q J a8 h;obtain ⟨k,e,q⟩:=h;have aD:=uq;have aw:sizeLine=16777216:=sizeLine_eq;cases x with
 | cg=>
  cases a8;have bW:k=false:=e;subst bW;exact truthy_none ⟨H,J,q⟩
 | bw b=>
  cases a8;have bW:k=b:=e;subst bW;exact wpAny_truthy_bool ⟨H,J,q⟩
 | int i=>
  obtain ⟨t,rfl⟩:=a8;have bW:k=(i != 0):=e;subst bW;exact PySem.P.truthy_int ⟨H,J,q⟩
 | str y=>
  obtain ⟨t,rfl⟩:=a8;obtain ⟨aU,bW⟩:y.length <= sizeLine/\k=((y.length:Int) != 0):=e;subst bW;exact PySem.P.truthy_str (by omega) ⟨H,J.tok _,q⟩
 | lG y=>
  obtain ⟨t,rfl⟩:=a8;obtain ⟨aU,bW⟩:y.size <= sizeLine/\k=((y.size:Int) != 0):=e;subst bW;exact PySem.W.truthy_bytes (by omega) ⟨H,J.tok _,q⟩
 | ref p=>
  cases a8;have bW:(∃ xs,ak X.K H p xs/\k = !xs.isEmpty)\/(∃ xs,cS X.K H p xs/\k = !xs.isEmpty)\/∃ aA,H p=some (.di aA)/\k = !aA.isEmpty:=e;rcases bW with ⟨xs,af,bW⟩ | ⟨xs,af,bW⟩ | ⟨aA,af,bW⟩
  .subst bW;obtain ⟨a4,r,pl,aF⟩:=J.list af;have hlen:=r.length;exact wpAny_truthy_list pl.isList (by simp only [ft];omega) ⟨H,J.tok _,by rw [sw r];exact q⟩
  .subst bW;obtain ⟨a4,r,pl,aF⟩:=J.tuple af;have hlen:=r.length;exact truthy_tuple pl (by simp only [ft];omega) ⟨H,J.tok _,by rw [sw r];exact q⟩
  .subst bW;obtain ⟨aF,ea,vs,r,m⟩:aA.length <= sizeLine/\(p == sysModules)=false/\∃ vs,gm aA vs/\s.heap.DictOf (j_ X.prog X.w) p vs:=J.bh p _ af;have hlen:aA.length=vs.length:=Kj r;exact wpAny_truthy_dict ea m (by omega) ⟨H,J.tok _,by rw [ajW r];exact q⟩
 | _=>exact (show False from e).elim
theorem V2 (aK:bz X a a6) (he:∀ whole,isTrue a X.env whole=(do let v <- whole;standAt a.pos;holding [v] (truthy v))) :
  h7 X a (fun σ H Q=>a6 σ H fun x I=>∃ k,Ug X.K x I k/\Q k I):=by
 intro aa s σ H Q J h;exact isTrue_plain (bL (aK aa s σ H _ J h) fun v s1 cz=>eC cz fun x H1 aP cG bT=>Xd aa s1 σ H1 x v Q aP cG bT) (he _)
theorem mN:ik X (binaryOp .Add) (fun x y H Q=>∃ i j,x=.str i/\y=.str j/\i.length + j.length <= sizeLine/\Q (.str (i ++ j)) H):=by
 intro aa s σ H x y v u Q J a8 bH h;obtain ⟨i,j,rfl,rfl,aF,q⟩:=h;obtain ⟨t,rfl⟩:=a8;obtain ⟨t',rfl⟩:=bH;exact add_str (fun t' tk=>⟨.str (i ++ j),H,J.tok _,⟨_,rfl⟩,q⟩) aF
theorem lR {x:V} (r:cj [x] us):∃ u,us=[u]/\b1 x u:=by
 cases r with
 | cons cG e3=>cases e3;exact ⟨_,rfl,cG⟩
theorem M0 {x y:V} (r:cj [x,y] us):∃ u eH,us=[u,eH]/\b1 x u/\b1 y eH:=by
 cases r with
 | cons cG e3=>
  cases e3 with
  | cons Gg agR=>cases agR;exact ⟨_,_,rfl,cG,Gg⟩
theorem Vf (ar:X.calm=true):mS X (.builtin "max") (fun xs H Q=>∃ i j,xs=[.int i,.int j]/\Q (.int (if j > i then j else i)) H):=by
 intro aa s σ H xs us Q J r h;obtain ⟨i,j,rfl,q⟩:=h;obtain ⟨u,eH,rfl,⟨t,rfl⟩,⟨t',rfl⟩⟩:=M0 r;refine max_two_ints (J.ok.hd ar) fun h' tk k=>⟨_,H,J.kept k,?_,q⟩
 by_cases aN:j > i
 .rw [if_pos aN,if_pos aN];exact ⟨_,rfl⟩
 .rw [if_neg aN,if_neg aN];exact ⟨_,rfl⟩
theorem Ku:mS X (.type "int") (fun xs H Q=>(∃ i,xs=[.int i]/\Q (.int i) H)\/∃ k,xs=[.bw k]/\Q (.int (if k then 1 else 0)) H):=by
 intro aa s σ H xs us Q J r h;rcases h with ⟨i,rfl,q⟩ | ⟨k,rfl,q⟩
 .obtain ⟨u,rfl,t,rfl⟩:=lR r;exact call_int_int ⟨.int i,H,J,⟨_,rfl⟩,q⟩
 .obtain ⟨u,rfl,cG⟩:=lR r;cases cG;exact call_int_bool ⟨.int (if k then 1 else 0),H,J.tok _,⟨_,rfl⟩,q⟩
theorem wb:mS X (.type "str") (fun xs H Q=>∃ i,xs=[.int i]/\i.natAbs.log2 < 1920/\Q (.str (toString i)) H):=by
 intro aa s σ H xs us Q J r h;obtain ⟨i,rfl,aF,q⟩:=h;obtain ⟨u,rfl,t,rfl⟩:=lR r;exact PySem.P.str_of_int aF ⟨.str _,H,J.tok _,⟨_,rfl⟩,q⟩
end
structure sI (h:Heap) (x ax C:Addr) (dV:Str->Option Value):Prop where
 obj:h.get? x=some (sj C ax)
 ns:h.Ns1 ax dV
 ne:ax ≠ x
set_option tactic.hygienic true in
theorem Tj {h:Heap} (n:h.Ns1 ax dV):∃ br,h.get? ax=some br/\∀ name,z9 name br=some (dV name):=by
 obtain ⟨o,aT,cE,aW,hd,aE,_,hm⟩:=n;refine ⟨o,aW,fun name=>?_⟩;have e:=hm name;unfold nsFind findBy at e;rw [<- Z5] at e;unfold z9;rw [hd];dsimp only;split
 .rename_i y q;rw [q] at e;exact congrArg some e
 .rename_i q;rw [q] at e;have a:aT.toList.any (·.refKey)=false:=by
   rw [X2];intro y aU;obtain ⟨z,t,aa4⟩:=aE y (Array.mem_toList_iff.mp aU);simp [DictEntry.refKey,aa4]
  have sf:¬ aT.toList.any (·.refKey)=true:=by rw [a];exact hh
  rw [if_neg sf];exact congrArg some e
theorem sI.look {h:Heap} {x ax C:Addr} (J:sI h x ax C dV):∃ br,IZ h x (sj C ax) C (some br)/\∀ name,z9 name br=some (dV name):=
 let ⟨br,aW,aD⟩:=Tj J.ns
 ⟨br,⟨J.obj,rfl,rfl,aW⟩,aD⟩
section
variable {prog:Program} {w:World} {A:Around} {E:Value->Shared->Prop} {s:Shared} {K:bc} {x ax C f:Addr} {dV:Str->Option Value} {name:Str} {v:Value}
theorem ae_ (X:K.In s.heap) (J:sI s.heap x ax C dV) (bg:Fx K C name=true) (bU:AD K C=true)
  (aK:el K (.ref C) name=some none) (aG:dV name=some v) (Jz:adS v=true) (h:Q v { s with toks:=s.toks + 1 }) :
  wpAny (model prog w) A (getAttr (.ref x) name expr) Q E s:=by
 obtain ⟨br,bF,aD⟩:=J.look;exact PySem.W.get_value X bF (V_ bg).1 (PySem.W.findObj_own bU aK rfl (by rw [aD,aG])) Jz h
theorem Xr (X:K.In s.heap) (J:sI s.heap x ax C dV) (bg:Fx K C name=true)
  (hf:el K (.ref C) name=some (some (.ref f))) (dQ:MT K (.ref f)=true) (aG:dV name=none) (h:Q (.ref f,[.ref x]) s) :
  wpAny (model prog w) A (getMethod (.ref x) name pl) Q E s:=by
 obtain ⟨br,bF,aD⟩:=J.look;exact PySem.W.method_fn X bF (V_ bg).1 (V_ bg).2 hf (beq_iff_eq.mp dQ) (by show (z9 name br).map (·.isSome)=some false;rw [aD,aG];rfl) h
theorem aak {ns:List Str} (X:K.In s.heap) (J:sI s.heap x ax C dV)
  (aw:el K (.ref C) "__setattr__"=some (some (.builtin "object.__setattr__"))) (aq:Xt K C=true) (dQ:VG K C name=some none) (bU:AD K C=true)
  (hw:zF dV ns) (hsz:ns.length <= sizeLine)
  (h:∀ h',sI h' x ax C (fun y=>if y=name then some v else dV y)->zm ax s.heap h'->Q () { s with heap:=h',toks:=s.toks + 2 }) :
  wpAny (model prog w) A (setAttr (.ref x) name v) Q E s:=by
 obtain ⟨br,bF,aD⟩:=J.look;refine ant X bF aw (PySem.W.osa_open (s:={ s with toks:=s.toks + 1 }) (r:=none) X bF aq dQ fun b=>?_);obtain ⟨cd,ar,sC⟩:=CA bU;have af:s.heap.get? x=some ⟨.ref C,some ax,.plain,#[]⟩:=J.obj;refine wpAny_bind (wpAny_pure (wpAny_bind (wpAny_bind (wpAny_loadPart af (wpAny_bind (Z2 (s:={ s with toks:=s.toks + 1 }) (Nt X ar) ?_))))));rw [sC];refine wpAny_pure (a:=some ax) (wpAny_bind (wpAny_pure (wpAny_bind ?_)));refine wpAny_nsSet1 (s:={ s with toks:=s.toks + 1 }) J.ns fun h' r1 jB=>?_
 obtain ⟨acb,aaf,aaH,Gz,HZ,JC⟩:=r1.count (aeW name v hw);refine wpAny_bind (wpAny_lookBehind Gz (by rw [HZ];exact pastItsLine_dict (cq JC (by rw [fQ];omega))) ?_);exact wpAny_pure (h _ ⟨(jB.2 _ (dF J.ne)).trans J.obj,r1,J.ne⟩ jB)
theorem akk (X:K.In s.heap) (hm:aiw K C=true)
  (ag:el K (.ref C) "__init__"=some (some (.ref f))) (hf:TA K (.ref f)=some (.type "function"))
  (h:codeAny (model prog w) (A.under (.builtin "type.__call__" ⟨.ref C :: vs,kw⟩)) (.call (.ref f) ⟨.ref (s.heap.objs.size + 1) :: vs,kw⟩) (aaV (s.heap.objs.size + 1) R)
   { s with heap:=(s.heap.push kH).push (sj C s.heap.objs.size) }) :
  codeAny (model prog w) A (.call (.ref C) ⟨vs,kw⟩) R s:=by
 obtain ⟨bU,g,d,t,os⟩:=s;exact PySem.W.make_core (PySem.W.makes_of X hm) (CJ X ag) (fun self=>ajy X self hf) (.inl rfl) h
end
noncomputable def eh (f:Str) (v:V):List (Str × V)->List (Str × V)
 | []=>[(f,v)]
 | (g,x) :: r=>if g=f then (g,v) :: r else (g,x) :: eh f v r
theorem W4 (f g:Str) (v:V):∀ aO:List (Str × V),(eh f v aO).lookup g=if g=f then some v else aO.lookup g
 | []=>by
  show pq g [(f,v)]=_;by_cases h:g=f
  .have ae:(g == f)=true:=beq_iff_eq.mpr h;simp only [pq,ae,if_pos h]
  .have ae:(g == f)=false:=beq_eq_false_iff_ne.mpr h;simp only [pq,ae,if_neg h]
 | (k,x) :: r=>by
  have c2:=W4 f g v r;rw [show eh f v ((k,x) :: r)=(if k=f then (k,v) :: r else (k,x) :: eh f v r) from rfl];by_cases aE:k=f
  .rw [if_pos aE];by_cases h:g=k
   .have ae:(g == k)=true:=beq_iff_eq.mpr h;simp only [pq,ae,if_pos (h.trans aE)]
   .have ae:(g == k)=false:=beq_eq_false_iff_ne.mpr h;simp only [pq,ae,if_neg (fun e:g=f=>h (e.trans aE.symm))]
  .rw [if_neg aE];by_cases h:g=k
   .have ae:(g == k)=true:=beq_iff_eq.mpr h;simp only [pq,ae,if_neg (fun e:g=f=>aE (h.symm.trans e))]
   .have ae:(g == k)=false:=beq_eq_false_iff_ne.mpr h;simp only [pq,ae];exact c2
theorem ES (f:Str) (v:V):∀ aO:List (Str × V),f ∈ (eh f v aO).map (·.1)/\∀ g,g ∈ aO.map (·.1)->g ∈ (eh f v aO).map (·.1)
 | []=>⟨by simp [eh],fun g h=>by simp at h⟩
 | (k,x) :: r=>by
  obtain ⟨i1,i2⟩:=ES f v r;rw [show eh f v ((k,x) :: r)=(if k=f then (k,v) :: r else (k,x) :: eh f v r) from rfl];by_cases aE:k=f
  .rw [if_pos aE];subst aE;exact ⟨by simp,fun g h=>by simpa using h⟩
  .rw [if_neg aE];refine ⟨?_,fun g h=>?_⟩
   .rw [eB];exact gS _ i1
   .rw [eB] at h ⊢;rcases d9.mp h with e | e
    .exact d9.mpr (.inl e)
    .exact gS _ (i2 g e)
theorem Do (f:Str) (v:V):∀ aO:List (Str × V),(eh f v aO).length <= aO.length + 1
 | []=>by simp [eh]
 | (k,x) :: r=>by
  have c2:=Do f v r;rw [show eh f v ((k,x) :: r)=(if k=f then (k,v) :: r else (k,x) :: eh f v r) from rfl];by_cases aE:k=f
  .rw [if_pos aE,fQ,fQ];omega
  .rw [if_neg aE,fQ,fQ];omega
theorem iO.some_of (r:iO (some v) o):∃ u,o=some u/\b1 v u:=by
 cases o with
 | none=>exact (show False from r).elim
 | some u=>exact ⟨u,rfl,r⟩
theorem iO.none_of (r:iO none o):o=none:=by
 cases o with
 | none=>rfl
 | some u=>exact (show False from r).elim
theorem RH (r:b1 v u):adS u=true:=by
 cases v with
 | cg=>cases (show u=k1 from r);rfl
 | bw b=>cases (show u=hX b from r);rfl
 | int i=>obtain ⟨t,e⟩:=(show ∃ t,u=nW i t from r);cases e;rfl
 | str x=>obtain ⟨t,e⟩:=(show ∃ t,u=sM x t from r);cases e;rfl
 | lG b=>obtain ⟨t,e⟩:=(show ∃ t,u=MS b t from r);cases e;rfl
 | s8 b=>obtain ⟨t,e⟩:=(show ∃ t,u=DT b t from r);cases e;rfl
 | ref a=>cases (show u=dU a from r);rfl
 | ty n=>cases (show u=Nd n from r);rfl
section
variable {P:Program} {w:World} {H I:au} {h h':Heap} {a C ax:Addr} {aO pB:List (Str × V)}
theorem sm (bh:eM P w H h) (e:H a=some (.ins C ax aO)):∃ dV,sI h a ax C dV/\(∀ f,iO (aO.lookup f) (dV f))/\zF dV (aO.map (·.1))/\aO.length <= 1000/\H ax=some (.own a):=by
 obtain ⟨d,z,ne,cU,dV,n,r,q⟩:=(show dS P w H h a (.ins C ax aO) from bh a _ e);exact ⟨dV,⟨cU,n,ne⟩,r,q,z,d⟩
end
structure hI (K:bc) (C:Addr):Prop where
 afO:Fx K C Str.empty=true
 hd:AD K C=true
 po:Xt K C=true
 bE:el K (.ref C) "__setattr__"=some (some (.builtin "object.__setattr__"))
theorem hI.get {K:bc} (c:hI K C) (f:Str):Fx K C f=true:=c.afO
def dq (K:bc) (C:Addr) (f:Str):Prop:=el K (.ref C) f=some none
theorem dq.abL {K:bc} (n:dq K C f):VG K C f=some none:=by
 unfold VG;rw [show el K (.ref C) f=some none from n];rfl
structure apJ (K:bc) (C:Addr) (f:Str) (v:V) (u:Value):Prop where
 at_:el K (.ref C) f=some (some u)
 rel:b1 v u
 get:u_ K u "__get__"=some none
 ug:PySem.W.copiedNames.contains f=false
structure jo (K:bc) (C:Addr) (m:Str) (f:Addr):Prop where
 at_:el K (.ref C) m=some (some (.ref f))
 fn:MT K (.ref f)=true
 bj:qm K (.ref f)=true
section
variable {X:a0} {aa:List (Addr × Obj)} {σ:St} {H:au} {s:Shared} {a C ax:Addr} {aO:List (Str × V)} {f:Str} {v:V} {A:Around} {E:Value->Shared->Prop}
theorem UG (J:Inv X aa σ H s) (e:H a=some (.ins C ax aO)) (c:hI X.K C) (n:dq X.K C f) (l:aO.lookup f=some v)
  (h:∀ u s',Inv X aa σ H s'->b1 v u->Q u s'):wpAny (model X.prog X.w) A (getAttr (.ref a) f b) Q E s:=by
 obtain ⟨dV,O,r,_,_,_⟩:=sm J.bh e;obtain ⟨u,b7,ej⟩:=iO.some_of (v:=v) (o:=dV f) (by rw [<- l];exact r f);exact ae_ J.eg O (c.get f) c.hd n b7 (RH ej) (h u _ (J.tok _) ej)
theorem LO (J:Inv X aa σ H s) (e:H a=some (.ins C ax aO)) (c:hI X.K C) (k:jo X.K C m g) (l:aO.lookup m=none)
  (h:Q (.ref g,[.ref a]) s):wpAny (model X.prog X.w) A (getMethod (.ref a) m pl) Q E s:=by
 obtain ⟨dV,O,r,_,_,_⟩:=sm J.bh e;have aV:dV m=none:=iO.none_of (by rw [<- l];exact r m);exact Xr J.eg O (c.get m) k.at_ k.fn aV h
theorem SI (J:Inv X aa σ H s) (e:H a=some (.ins C ax aO)) (c:hI X.K C) (n:dq X.K C f) (aD:aO.length < 1000) (bH:b1 y u)
  (h:∀ s',Inv X aa σ (upd H a (.ins C ax (eh f y aO))) s'->Q () s'):wpAny (model X.prog X.w) A (setAttr (.ref a) f u) Q E s:=by
 obtain ⟨dV,O,r,gz,_,aW⟩:=sm J.bh e;have aF:(aO.map (·.1)).length <= sizeLine:=by rw [aR,sizeLine_eq];omega
 refine aak J.eg O c.bE c.po n.abL c.hd gz aF fun h' Le qV=>h _ ?_
 have hd:∃ o,h'.get? ax=some o:=let ⟨o,_,_,bW,_⟩:=Le.ns;⟨o,bW⟩;refine J.write (x:=a) (e:=ax) (by rw [e];exact hu) (.inr aW) (fun b q ae z=>(qV.2 b ae).trans z) hd ?_;refine ⟨by rw [aZ O.ne];exact aW,?_,O.ne,Le.obj,_,Le.ns,fun g=>?_,fun g bg=>?_⟩
 .have:=Do f y aO;omega
 .show iO ((eh f y aO).lookup g) (if g=f then some u else dV g);rw [W4];by_cases q:g=f
  .rw [if_pos q,if_pos q];exact bH
  .rw [if_neg q,if_neg q];exact r g
 .by_cases q:g=f
  .rw [q];exact (ES f y aO).1
  .refine (ES f y aO).2 g (gz g fun z=>bg ?_);show (if g=f then some u else dV g)=none;rw [if_neg q];exact z
theorem Inv.made (J:Inv X aa σ H s):Inv X aa σ (upd (upd H s.heap.objs.size (.own (s.heap.objs.size + 1))) (s.heap.objs.size + 1) (.ins C s.heap.objs.size []))
  { s with heap:=(s.heap.push kH).push (sj C s.heap.objs.size) }:=by
 have ao:(s.heap.push kH).get? s.heap.objs.size=some kH:=hS s.heap rfl;have aC:((s.heap.push kH).push (sj C s.heap.objs.size)).get? (s.heap.objs.size + 1)=some (sj C s.heap.objs.size):=by
  have:=hS (s.heap.push kH) (o:=sj C s.heap.objs.size) rfl;rwa [WJ] at this
 have bJ:(s.heap.push kH).Ns s.heap.objs.size (fun _=>none):=⟨kH,#[],_,ao,rfl,(fun e he=>absurd he (by simp)),fun _=>rfl⟩;have aP:=J.laid (a:=s.heap.objs.size) (o:=.own (s.heap.objs.size + 1)) (h':=s.heap.push kH) (t':=s.toks) (fun b u q=>ed _ q) (bP _) ⟨_,ao⟩;refine aP.laid (a:=s.heap.objs.size + 1) (o:=.ins C s.heap.objs.size []) (t':=s.toks) (fun b u q=>ed _ q) (DJ (WJ _ _)) ?_;have ne:s.heap.objs.size ≠ s.heap.objs.size + 1:=gd (wJ _);refine ⟨by rw [aZ ne,aS],fg _,ne,aC,fun _=>none,(YN bJ).at fun o q=>ed _ q,fun _=>hu,fun y aU=>absurd rfl aU⟩
theorem Vt {prog:Program} {w:World} {env:Env} {e:Expr} (ae:attributeBase e f env (eval e env)=eval e env)
  (h:wpAny (model prog w) A (eval e env) (fun o dh=>wpAny (model prog w) A (getAttr o f true) Q E dh) E s):wpAny (model prog w) A (eval (.Attribute e f pos) env) Q E s:=
 Attribute_any_ h (by rw [arm_eval_Attribute,ae])
end
def hV (K:bc) (H:au) (a:Addr) (f:Str) (v:V):Prop:=∃ C ax aO,H a=some (.ins C ax aO)/\hI K C/\dq K C f/\aO.lookup f=some v
noncomputable def E1 (K:bc) (a6:TE) (f:Str):TE:=fun σ H Q=>a6 σ H fun x H1=>fv x fun a=>∃ v,hV K H1 a f v/\Q v H1
noncomputable def T1 (K:bc) (a6 e5:TE) (f:Str):ek:=fun D σ H=>e5 σ H fun y H1=>a6 σ H1 fun x az=>fv x fun a=>∃ C ax aO,az a=some (.ins C ax aO)/\hI K C/\dq K C f/\aO.length < 1000 /\
 D.cy σ (upd az a (.ins C ax (eh f y aO)))
def Pn (X:a0) (op:Operator) (my:V->V->au->cJ->Prop):Prop:=
 ∀ (aa:List (Addr × Obj)) (s:Shared) (σ:St) (H:au) (x y:V) (u v:Value) (Q:cJ),Inv X aa σ H s->b1 x u->b1 y v->my x y H Q->wpAny (model X.prog X.w) X.A (inplaceOp op u v) (f5 X aa σ Q) X.dz s
noncomputable def Oz (K:bc) (a6 e5:TE) (my:V->V->au->cJ->Prop) (f:Str):ek:=fun D σ H=>a6 σ H fun x H1=>∃ a C ax aO v,x=.ref a/\H1 a=some (.ins C ax aO)/\hI K C/\dq K C f/\aO.lookup f=some v /\
 e5 σ H1 fun y az=>my v y az fun z bI=>∃ hq pB,bI a=some (.ins C hq pB)/\pB.length < 1000/\D.cy σ (upd bI a (.ins C hq (eh f z pB)))
section
variable {X:a0} {o e value:Expr} {f:Str} {pos pos' x8:Pos} {a6 e5:TE}
theorem c4 (he:bz X e a6) (ae:attributeBase e f X.env (eval e X.env)=eval e X.env):bz X (.Attribute e f pos) (E1 X.K a6 f):=by
 intro aa s σ H Q J h;refine Vt ae (bL (he aa s σ H _ J h) fun u s1 cz=>eC cz fun x H1 aP a8 g_=>?_);obtain ⟨a,ex,v,⟨C,ax,aO,eb,c,n,l⟩,q⟩:=fv.out g_;subst ex;obtain rfl:u=dU a:=a8;exact UG aP eb c n l fun px s2 bK ej=>⟨v,H1,bK,ej,q⟩
theorem h9 (aK:bz X o a6) (aG:bz X value e5) (aw:swapsWith value (some (.Attribute o f pos')) pos.line X.env=pure false):f9 X (.Assign [.Attribute o f pos'] value pos) (T1 X.K a6 e5 f):=by
 intro aa s σ H D J h;refine plainObj_wpAny_Assign_Attribute (bL (aG aa s σ H _ J h) fun u s1 cz=>eC cz fun y H1 aP bH q=>bL (aK aa s1 σ H1 _ aP q) fun fO s2 cz=>eC cz fun x az bK a8 g_=>?_) aw;obtain ⟨a,ex,C,ax,aO,eb,c,n,l,d5⟩:=fv.out g_;subst ex;obtain rfl:fO=dU a:=a8;exact SI bK eb c n l bH fun s3 eK=>⟨σ,_,eK,d5⟩
theorem Za {my:V->V->au->cJ->Prop} (aK:bz X o a6) (aG:bz X value e5) (jv:Pn X op my):f9 X (.AugAssign (.Attribute o f x8) op value pos) (Oz X.K a6 e5 my f):=by
 intro aa s σ H D J h;refine wpAny_AugAssign_AttributeAny (bL (aK aa s σ H _ J h) fun fO s1 cL=>?_);obtain ⟨x,H1,aP,a8,a,C,ax,aO,v,ex,eb,c,n,l,q⟩:=cL;subst ex;obtain rfl:fO=dU a:=a8;refine UG aP eb c n l fun u s2 bK ej=>bL (aG aa s2 σ H1 _ bK q) fun gD s3 cz=>eC cz fun y az eK bH g4=>bL (jv aa s3 σ az v y u gD _ eK ej bH g4) fun g0 s4 cL=>?_
 obtain ⟨z,bI,fY,anA,hq,pB,Ks,l',yx⟩:=cL;exact SI fY Ks c n l' anA fun s5 wg=>⟨σ,_,wg,yx⟩
noncomputable def Lc:V->V->au->cJ->Prop:=fun x y H Q=>∃ i j,x=.int i/\y=.int j/\Q (.int (i + j)) H
theorem aaa:Pn X .Add Lc:=by
 rintro aa s σ H x y u v Q J a8 bH ⟨i,j,rfl,rfl,q⟩;obtain ⟨t,rfl⟩:=(show ∃ t,u=nW i t from a8);obtain ⟨t',rfl⟩:=(show ∃ t',v=nW j t' from bH);exact apt ⟨.int (i + j),H,J.tok _,⟨_,rfl⟩,q⟩
end
section
variable {X:a0} {aa:List (Addr × Obj)} {σ:St} {H:au} {s:Shared} {A:Around} {E:Value->Shared->Prop} {Q:Value->Shared->Prop} {c:Value} {b:Bool}
inductive mB (K:bc) (H:au):V->Value->Prop where
 | cg:mB K H .cg (.type "NoneType")
 | bw (x:Bool):mB K H (.bw x) (.type "bool")
 | int (i:Int):mB K H (.int i) (.type "int")
 | str (x:Str):mB K H (.str x) (.type "str")
 | s8 (x:UInt64):mB K H (.s8 x) (.type "float")
 | lst {a:Addr} {xs:List V} (e:H a=some (.lst xs)):mB K H (.ref a) (.type "list")
 | ja {a:Addr} {o:Obj} {xs:List V} (e:H a=some (.ja o (.lst xs))):mB K H (.ref a) (.type "list")
 | tup {a:Addr} {xs:List V} (e:H a=some (.tup xs)):mB K H (.ref a) (.type "tuple")
 | di {a:Addr} {aA:List (Key × V)} (e:H a=some (.di aA)):mB K H (.ref a) (.type "dict")
 | fX {a:Addr} {aA:List (List Key × V)} (e:H a=some (.fX aA)):mB K H (.ref a) (.type "dict")
 | ins {a C ax:Addr} {aO:List (Str × V)} (e:H a=some (.ins C ax aO)) (cl:hI K C) (aK:el K (.ref C) "__class__"=some (some (.builtin "object.__class__")))
   (aV:u_ K (.builtin "object.__class__") "__get__"=some (some (.builtin "getset_descriptor.__get__"))) (yn:K5 K (.builtin "object.__class__")=some true)
   (hm:xc K C (.type "object")=some true):mB K H (.ref a) (.ref C)
theorem anm {x:V} {u t:Value} (J:Inv X aa σ H s) (a8:b1 x u) (ty:mB X.K H x t) (e:ad1 X.K t c=some b) (h:∀ tk,Q (.bool b) { s with toks:=tk }) :
  wpAny (model X.prog X.w) A (call (.builtin "isinstance") [u,c]) Q E s:=by
 cases ty with
 | cg=>cases (show u=k1 from a8);exact o2 PySem.W.kitx_none J.eg hu e (fun z=>nomatch z) h
 | bw y=>cases (show u=hX y from a8);exact o2 PySem.W.kitx_bool J.eg hu e (fun z=>nomatch z) h
 | int i=>obtain ⟨t,q⟩:=(show ∃ t,u=nW i t from a8);cases q;exact o2 PySem.W.kitx_int J.eg hu e (fun z=>nomatch z) h
 | str y=>obtain ⟨t,q⟩:=(show ∃ t,u=sM y t from a8);cases q;exact o2 PySem.W.kitx_str J.eg hu e (fun z=>nomatch z) h
 | s8 y=>obtain ⟨t,q⟩:=(show ∃ t,u=DT y t from a8);cases q;exact o2 PySem.W.kitx_float J.eg hu e (fun z=>nomatch z) h
 | @lst a xs eb=>
  cases (show u=dU a from a8);obtain ⟨_,_,n,_,ab⟩:=(show dS X.prog X.w H s.heap a (.lst xs) from J.bh a _ eb);exact o2 ahN J.eg ⟨_,ab,rfl⟩ e (fun z=>nomatch z) h
 | @ja a cU xs eb=>
  cases (show u=dU a from a8);obtain ⟨_,_,_,n,_,ab⟩:=(show dS X.prog X.w H s.heap a (.ja cU (.lst xs)) from J.bh a _ eb);exact o2 ahN J.eg ⟨_,ab,rfl⟩ e (fun z=>nomatch z) h
 | @tup a xs eb=>
  cases (show u=dU a from a8);obtain ⟨_,_,_,p⟩:=(show dS X.prog X.w H s.heap a (.tup xs) from J.bh a _ eb);obtain ⟨o,ab,ai,_⟩:=p;exact o2 PySem.W.kitx_tuple J.eg ⟨o,ab,ai⟩ e (fun z=>nomatch z) h
 | @di a aA eb=>
  cases (show u=dU a from a8);obtain ⟨_,_,vs,_,p⟩:=(show dS X.prog X.w H s.heap a (.di aA) from J.bh a _ eb);obtain ⟨o,aT,cE,ab,ai,_⟩:=p;exact o2 aff J.eg ⟨o,ab,ai.1⟩ e (fun z=>nomatch z) h
 | @fX a aA eb=>
  cases (show u=dU a from a8);obtain ⟨_,_,xs,_,o,aT,cE,ab,ai,_⟩:=(show dS X.prog X.w H s.heap a (.fX aA) from J.bh a _ eb);exact o2 aff J.eg ⟨o,ab,ai.1⟩ e (fun z=>nomatch z) h
 | @ins a C ax aO eb cl aK aV yn hm=>
  cases (show u=dU a from a8);obtain ⟨dV,O,_⟩:=sm J.bh eb;obtain ⟨br,bF,_⟩:=O.look;exact o2 (PySem.W.kitx_own (cl.get _) cl.hd aK aV yn hm) J.eg bF e (fun z=>nomatch z) h
end
structure en (k:Nat) (A:Around):Prop where
 hd:A.handled=none
 gA:A.depth + 3 * k + 5 < recursionLimit
 un:A.units + 16 * k + 200 < cLine
theorem en.mono {j k:Nat} {A:Around} (r:en k A) (h:j <= k):en j A:=⟨r.hd,by have:=r.gA;omega,by have:=r.un;omega⟩
theorem en.deeper {k:Nat} {A:Around} (r:en (k + 1) A) (env:Env):en k (A.deeper env):=
 ⟨r.hd,by have:=r.gA;show A.depth + 1 + 3 * k + 5 < _;omega,by have:=r.un;show A.units + 3 + 16 * k + 200 < _;omega⟩
theorem en.in1 {k:Nat} {A:Around} (r:en (k + 1) A):en k A.in1:=
 ⟨r.hd,by have:=r.gA;show A.depth + 3 * k + 5 < _;omega,by have:=r.un;show A.units + 1 + 16 * k + 200 < _;omega⟩
theorem afr {A:Around}:(A.under (.builtin "type.__call__" ⟨.ref C :: us,kw⟩)).depth=A.depth + 1:=by
 first | rfl | simp [Pc,Code.weight,Code.isCreation,Code.isGuard,Code.isCaller,alq,SS,guardIds]
theorem air {A:Around}:(A.under (.builtin "type.__call__" ⟨.ref C :: us,kw⟩)).units=A.units + 1:=by
 first | rfl | simp [Pc,Code.cUnits,alq,SS]
theorem en.make {k:Nat} {A:Around} (r:en (k + 1) A) (C:Addr) (us:List Value) (kw:List (Str × Value)):en k (A.under (.builtin "type.__call__" ⟨.ref C :: us,kw⟩)):=
 ⟨r.hd,by have:=r.gA;rw [afr];omega,by have:=r.un;rw [air];omega⟩
theorem en.depth {k:Nat} {A:Around} (r:en k A):A.depth < recursionLimit:=by have:=r.gA;omega
theorem en.units {k:Nat} {A:Around} (r:en k A):A.units + 64 < cLine:=by have:=r.un;omega
noncomputable def yf:fc:=fun _ H Q=>Q [] H
noncomputable def FP (a6:TE) (gb:fc):fc:=fun σ H Q=>a6 σ H fun x H1=>gb σ H1 fun xs az=>Q (x :: xs) az
section
variable {X:a0} {e:Expr} {aT:List Expr} {bN:TE} {t:fc} {pos:Pos}
theorem av:gg X [] yf:=fun _ _ _ _ H Q J h=>Calls.spliced_nil ⟨[],H,J,.nil,h⟩
theorem db (aK:bz X e bN) (aj:gg X aT t) (aw:starEach (e :: aT) X.env=(false,eval e X.env) :: starEach aT X.env:=by rfl):gg X (e :: aT) (FP bN t):=by
 intro pos aa s σ H Q J h;rw [aw];show wpAny _ _ (spliced ((false,eval e X.env) :: backTo pos (starEach aT X.env))) _ _ s;refine Calls.spliced_cons (bL (aK aa s σ H _ J h) fun u s1 cz=>eC cz fun x H1 aP cG bT=>?_);exact bL (aj pos aa s1 σ H1 _ aP bT) fun us s2 ⟨xs,az,bK,e3,d5⟩=>⟨x :: xs,az,bK,.cons cG e3,d5⟩
noncomputable def Lo (t:fc):TE:=fun σ H Q=>t σ H fun xs H1=>xs.length <= sizeLine/\∀ p,H1 p=none->Q (.ref p) (upd H1 p (.tup xs))
noncomputable def FI (t:fc):TE:=fun σ H Q=>t σ H fun xs H1=>xs.length <= sizeLine/\∀ p,H1 p=none->Q (.ref p) (upd H1 p (.lst xs))
theorem qi {bR} (h:gg X aT t):bz X (.Tuple aT bR pos) (Lo t):=by
 intro aa s σ H Q J aM;refine wpAny_Tuple_spliced (bL (h pos aa s σ H _ J aM) fun us s1 ⟨xs,H1,aP,r,z,q⟩=>⟨by rw [<- r.length];exact z,?_⟩);have hf:H1 s1.heap.objs.size=none:=aP.bh.fresh (bP _);refine ⟨.ref s1.heap.objs.size,upd H1 s1.heap.objs.size (.tup xs),aP.laid (t':=s1.toks) (fun b u e=>ed _ e) (bP _) ?_,rfl,q _ hf⟩;exact ⟨⟨z,_,hS _ rfl,rfl⟩,us,r,⟨_,hS _ rfl,rfl,_,rfl⟩⟩
theorem d4 (h:gg X aT t):bz X (.List aT pos) (FI t):=by
 intro aa s σ H Q J aM;refine wpAny_List_spliced (bL (h pos aa s σ H _ J aM) fun us s1 ⟨xs,H1,aP,r,z,q⟩=>⟨by rw [<- r.length];exact z,?_⟩);have hf:H1 s1.heap.objs.size=none:=aP.bh.fresh (bP _);refine ⟨.ref s1.heap.objs.size,upd H1 s1.heap.objs.size (.lst xs),aP.laid (t':=s1.toks) (fun b u e=>ed _ e) (bP _) ?_,rfl,q _ hf⟩;exact ⟨z,us,0,r,hS _ rfl⟩
end
noncomputable abbrev bO:=List V->au->cJ->d0->Prop
noncomputable abbrev j1:=List Env->au->Shared->d0->Value->Shared->Prop
structure rz (P:Program) (w:World) (K:bc) (mg:Str->Option Value) (base:Heap) (A:Around) (outer:List Env) (s:Shared) (H:au):Prop where
 frames:A.frames=some outer
 mod:Mod K mg base
 bs:∀ b o,base.get? b=some o->s.heap.get? b=some o/\H b=none
 lz:base.objs.size <= s.heap.objs.size
 kG:s.heap.FunFrames base outer
 n9:∀ b ∈ ip outer,H b=none
 bh:eM P w H s.heap
 bare:AllBare s.gens
def J8 (outer:List Env) (P:Program) (w:World) (H:au) (s:Shared) (Q:cJ) (u:Value) (s':Shared):Prop:=
 ∃ v I,s'.os=s.os/\AllBare s'.gens/\gG (ip outer) [] H I s.heap s'.heap/\eM P w I s'.heap/\b1 v u/\Q v I
def Ib (CX:j1) (outer:List Env) (P:Program) (w:World) (H:au) (s:Shared) (Q:cJ) (E:d0) (r:Result) (s':Shared):Prop:=
 match r with
 | .ok (.ret u)=>J8 outer P w H s Q u s'
 | .ok _=>False
 | .error e=>CX outer H s E e s'
structure bV (P:Program) (w:World) (K:bc) (mg:Str->Option Value) (base:Heap) (CX:j1) (k:Nat) (f:Addr) (fd:FuncData) (ps:List Str) (sp:bO):Prop where
 len:∀ vs H Q E,sp vs H Q E->vs.length=ps.length
 run:∀ (A:Around) (outer:List Env) (s:Shared) (H:au) (args:Args) (us:List Value) (vs:List V) (Q:cJ) (E:d0),en k A->rz P w K mg base A outer s H->BindsTo s fd args (ps.zip us)->cj vs us->sp vs H Q E ->
  codeAny (model P w) A (.call (.ref f) args) (Ib CX outer P w H s Q E) s
theorem bV.mono {w:World} {K:bc} {mg:Str->Option Value} {base:Heap} {j k:Nat} {fd:FuncData} (F:bV P w K mg base CX j f fd ps sp) (h:j <= k) :
  bV P w K mg base CX k f fd ps sp:=⟨F.len,fun A outer s H args us vs Q E aj=>F.run A outer s H args us vs Q E (aj.mono h)⟩
theorem bV.imp {w:World} {K:bc} {mg:Str->Option Value} {base:Heap} {k:Nat} {fd:FuncData} (F:bV P w K mg base CX k f fd ps sp)
  (h:∀ vs H Q E,qf vs H Q E->sp vs H Q E):bV P w K mg base CX k f fd ps qf:=
 ⟨fun vs H Q E q=>F.len vs H Q E (h _ _ _ _ q),fun A outer s H args us vs Q E aj he ae aG aw=>F.run A outer s H args us vs Q E aj he ae aG (h _ _ _ _ aw)⟩
theorem rz.make {w:World} {K:bc} {mg:Str->Option Value} {base:Heap} {A:Around} {outer:List Env} (e:rz P w K mg base A outer s H) (C:Addr) (us:List Value) (kw:List (Str × Value)) :
  rz P w K mg base (A.under (.builtin "type.__call__" ⟨.ref C :: us,kw⟩)) outer s H:=⟨by first | exact e.frames | (simpa [Pc,Code.envs,SS,pushEnvs] using e.frames),e.mod,e.bs,e.lz,e.kG,e.n9,e.bh,e.bare⟩
section
variable {X:a0} {aa:List (Addr × Obj)} {σ:St} {H:au} {s s':Shared}
theorem Inv.AA (J:Inv X aa σ H s):rz X.prog X.w X.K X.mg X.base X.A X.stack s H:=
 ⟨J.ok.frames,J.ok.mod,J.bs,cq J.ok.lz J.lQ,J.stack,J.w3,J.bh,J.bare⟩
theorem Inv.after (J:Inv X aa σ H s) (h:J8 X.stack X.prog X.w H s Q u s'):f5 X aa σ Q u s':=by
 obtain ⟨v,I,os,bare,un,bh,r,q⟩:=h;obtain ⟨bU,g,d,t,ahY⟩:=s';obtain rfl:ahY=s.os:=os;exact ⟨v,I,J.call (h':=bU) (g':=g) (d':=d) (t':=t) (ch:=[]) un bh bare (fun b z=>absurd z (by simp)),r,q⟩
end
noncomputable def wm (sp:bO) (dvs:List V) (E:d0) (t:fc):TE:=fun σ H Q=>t σ H fun vs H1=>sp (vs ++ dvs) H1 Q E
noncomputable def Ly (C:Addr) (m:Str) (sp:bO) (dvs:List V) (E:d0) (a6:TE) (t:fc):TE:=fun σ H Q=>a6 σ H fun x H1=>fv x fun a=>∃ ax aO,H1 a=some (.ins C ax aO)/\aO.lookup m=none /\
 t σ H1 fun vs az=>sp (x :: (vs ++ dvs)) az Q E
noncomputable def Vs (C:Addr) (sp:bO) (dvs:List V) (E:d0) (t:fc):TE:=fun σ H Q=>t σ H fun vs H1=>∀ x ax,H1 x=none->H1 ax=none->ax ≠ x ->
 sp (.ref x :: (vs ++ dvs)) (upd (upd H1 ax (.own x)) x (.ins C ax [])) (fun v az=>v=.cg/\Q (.ref x) az) E
def b3 (K:bc) (fd:FuncData) (ps:List Str) (ds:List Value):Prop:=
 ∀ (s:Shared) (us:List Value),K.In s.heap->(us ++ ds).length=ps.length->BindsTo s fd ⟨us,[]⟩ (ps.zip (us ++ ds))
theorem b3.all {K:bc} {fd:FuncData} (h:∀ us:List Value,us.length=ps.length->bindArgs fd ⟨us,[]⟩=pure (ps.zip us)):b3 K fd ps []:=fun s us _ aD=>by
 rw [p5] at aD ⊢;exact .of_eq (h us aD)
def pJ (CX:j1) (X:a0) (E:d0):Prop:=∀ (aa:List (Addr × Obj)) (σ:St) (H:au) (s:Shared) (e:Value) (s':Shared),Inv X aa σ H s->CX X.stack H s E e s'->X.dz e s'
section
variable {X:a0} {CX:j1} {k:Nat} {f C:Addr} {fd:FuncData} {ps:List Str} {sp:bO} {dvs:List V} {ds:List Value} {E:d0} {x m:Str} {p pos fL:Pos} {e o:Expr} {aT:List Expr} {a6:TE} {t:fc}
theorem w_ (F:bV X.prog X.w X.K X.mg X.base CX k f fd ps sp) (aj:en k X.A) (ae:b3 X.K fd ps ds) (hd:cj dvs ds) (af:pJ CX X E)
  (J:Inv X aa σ H s) (r:cj vs us) (h:sp (vs ++ dvs) H Q E):wpAny (model X.prog X.w) X.A (call (.ref f) us) (f5 X aa σ Q) X.dz s:=by
 have e3:cj (vs ++ dvs) (us ++ ds):=r.append hd;have aD:(us ++ ds).length=ps.length:=by rw [<- e3.length];exact F.len _ _ _ _ h
 refine wpAny_call (codeAny_mono (F.run X.A X.stack s H ⟨us,[]⟩ (us ++ ds) (vs ++ dvs) Q E aj J.AA (ae s us J.eg aD) e3 h) fun r s' aM=>?_);cases r with
 | error e=>exact af aa σ H s e s' J aM
 | ok c_=>
  cases c_ with
  | ret u=>exact J.after aM
  | next=>exact ji aM
  | brk=>exact ji aM
  | cont=>exact ji aM
theorem V6 (F:bV X.prog X.w X.K X.mg X.base CX k f fd ps sp) (aj:en k X.A) (bg:iR X x) (hm:X.mg x=some (.ref f)) (aE:qm X.K (.ref f)=true) (ae:b3 X.K fd ps ds) (hd:cj dvs ds) (af:pJ CX X E)
  (aK:gg X (e :: aT) t) (gF:(x == ("__debug__" : Str))=false:=by decide) (he:starEach (e :: aT) X.env=(false,eval e X.env) :: starEach aT X.env:=by rfl) (cO:(backTo pos (starEach aT X.env)).any (·.1)=false:=by rfl) :
  bz X (.Call (.Name x p) (e :: aT) [] pos) (wm sp dvs E t):=by
 intro aa s σ H Q J h;refine wpAny_Call_Name_kw (r3 J bg hm ?_ gF);refine xM (h₀:=X.base) J.ok.mod.rx aE (bL (aK pos aa s σ H _ J h) fun us s1 ⟨vs,H1,aP,r,q⟩=>⟨aP.eg,?_⟩) he cO;exact w_ F aj ae hd af aP r q
theorem gi (he:bz X o a6) (c:hI X.K C) (hm:jo X.K C m f) (F:bV X.prog X.w X.K X.mg X.base CX k f fd ps sp) (aj:en k X.A) (ae:b3 X.K fd ps ds) (hd:cj dvs ds) (af:pJ CX X E) (aK:gg X (e :: aT) t)
  (ff:starEach (e :: aT) X.env=(false,eval e X.env) :: starEach aT X.env:=by rfl) (cO:(backTo pos (starEach aT X.env)).any (·.1)=false:=by rfl)
  (dQ:eval (.Call (.Attribute o m fL) (e :: aT) [] pos) X.env=(do
   let fO <- eval o X.env
   standAt fL.atName
   let (f,first) <- holding [fO] (getMethod fO m pl)
   callWith pos f first (backTo pos (starEach (e :: aT) X.env)) (backToKw pos (keywordEach [] X.env))):=by rfl) :
  bz X (.Call (.Attribute o m fL) (e :: aT) [] pos) (Ly C m sp dvs E a6 t):=by
 intro aa s σ H Q J h;refine Al (pl:=pl) (bL (he aa s σ H _ J h) fun u s1 cz=>eC cz fun x H1 aP a8 g_=>?_) dQ;obtain ⟨a,ex,ax,aO,eb,l,q⟩:=fv.out g_;subst ex;obtain rfl:u=dU a:=a8;refine LO aP eb c hm l ?_;refine xM (first:=[.ref a]) (h₀:=X.base) J.ok.mod.rx hm.bj (bL (aK pos aa s1 σ H1 _ aP q) fun us s2 ⟨vs,az,bK,r,d5⟩=>⟨bK.eg,?_⟩) ff cO;exact w_ (us:=.ref a :: us) (vs:=.ref a :: vs) F aj ae hd af bK (.cons rfl r) d5
theorem oa (he:bz X o a6) (c:hI X.K C) (hm:jo X.K C m f) (F:bV X.prog X.w X.K X.mg X.base CX k f fd ps sp) (aj:en k X.A) (ae:b3 X.K fd ps ds) (hd:cj dvs ds) (af:pJ CX X E)
  (dQ:eval (.Call (.Attribute o m fL) [] [] pos) X.env=(do
   let fO <- eval o X.env
   standAt fL.atName
   let (f,first) <- holding [fO] (getMethod fO m pl)
   callWith pos f first (backTo pos (starEach [] X.env)) (backToKw pos (keywordEach [] X.env))):=by rfl) :
  bz X (.Call (.Attribute o m fL) [] [] pos) (Ly C m sp dvs E a6 yf):=by
 intro aa s σ H Q J h;refine Al (pl:=pl) (bL (he aa s σ H _ J h) fun u s1 cz=>eC cz fun x H1 aP a8 g_=>?_) dQ;obtain ⟨a,ex,ax,aO,eb,l,q⟩:=fv.out g_;subst ex;obtain rfl:u=dU a:=a8;refine LO aP eb c hm l ?_;exact YS (first:=[.ref a]) aP.eg hm.bj (w_ (us:=[.ref a]) (vs:=[.ref a]) F aj ae hd af aP (.cons rfl .nil) q)
structure rt (K:bc) (C f:Addr):Prop where
 makes:aiw K C=true
 init:el K (.ref C) "__init__"=some (some (.ref f))
 fn:MT K (.ref f)=true
 bj:qm K (.ref C)=true
theorem alY (M:rt X.K C f) (F:bV X.prog X.w X.K X.mg X.base CX k f fd ps sp) (aj:en (k + 1) X.A) (ae:b3 X.K fd ps ds) (hd:cj dvs ds)
  (af:pJ CX X E) (J:Inv X aa σ H s) (r:cj vs us)
  (h:∀ x ax,H x=none->H ax=none->ax ≠ x->sp (.ref x :: (vs ++ dvs)) (upd (upd H ax (.own x)) x (.ins C ax [])) (fun v az=>v=.cg/\Q (.ref x) az) E) :
  wpAny (model X.prog X.w) X.A (call (.ref C) us) (f5 X aa σ Q) X.dz s:=by
 have aM:=h (s.heap.objs.size + 1) s.heap.objs.size (J.bh.fresh (w5 _)) (J.bh.fresh (bP _)) (gd (wJ _));have bK:=Inv.made (C:=C) J;have e3:cj (V.ref (s.heap.objs.size + 1) :: (vs ++ dvs)) (dU (s.heap.objs.size + 1) :: (us ++ ds)):=.cons rfl (r.append hd);have aD:(dU (s.heap.objs.size + 1) :: us ++ ds).length=ps.length:=by
  have e:=e3.length;rw [F.len _ _ _ _ aM] at e;exact e.symm
 refine wpAny_call (akk (f:=f) J.eg M.makes M.init (beq_iff_eq.mp M.fn) (codeAny_mono (F.run _ X.stack _ _ ⟨dU (s.heap.objs.size + 1) :: us,[]⟩ (dU (s.heap.objs.size + 1) :: (us ++ ds)) _ _ E (aj.make C us [])
  (bK.AA.make C us []) (ae _ (dU (s.heap.objs.size + 1) :: us) bK.eg aD) e3 aM) fun r s' e0=>?_))
 cases r with
 | error e=>exact af aa σ _ _ e s' bK e0
 | ok c_=>
  cases c_ with
  | ret u=>
   obtain ⟨v,I,eK,cw,ev,g4⟩:=bK.after e0;subst ev;exact ⟨cw,⟨V.ref (s.heap.objs.size + 1),I,eK,rfl,g4⟩⟩
  | next=>exact ji e0
  | brk=>exact ji e0
  | cont=>exact ji e0
theorem vD (M:rt X.K C f) (F:bV X.prog X.w X.K X.mg X.base CX k f fd ps sp) (aj:en (k + 1) X.A) (bg:iR X x) (hm:X.mg x=some (.ref C)) (ae:b3 X.K fd ps ds) (hd:cj dvs ds) (af:pJ CX X E)
  (aK:gg X (e :: aT) t) (gF:(x == ("__debug__" : Str))=false:=by decide) (he:starEach (e :: aT) X.env=(false,eval e X.env) :: starEach aT X.env:=by rfl) (cO:(backTo pos (starEach aT X.env)).any (·.1)=false:=by rfl) :
  bz X (.Call (.Name x p) (e :: aT) [] pos) (Vs C sp dvs E t):=by
 intro aa s σ H Q J h;refine wpAny_Call_Name_kw (r3 J bg hm ?_ gF);refine xM (h₀:=X.base) J.ok.mod.rx M.bj (bL (aK pos aa s σ H _ J h) fun us s1 ⟨vs,H1,aP,r,q⟩=>⟨aP.eg,?_⟩) he cO;exact alY M F aj ae hd af aP r q
end
section
variable {X:a0} {CX:j1} {k:Nat} {f C:Addr} {fd:FuncData} {ps b':List Str} {sp:bO} {E:d0} {x m:Str} {p pos fL anR:Pos} {e o:Expr} {aT:List Expr} {aot:List Keyword} {bN a6:TE} {t tk:fc} {nm:Option Str}
structure aon (K:bc) (fd:FuncData) (ps b':List Str) (g:List Value->List Value->List Value) (Rk:List V->List V->List V):Prop where
 to:∀ (s:Shared) (us ws:List Value),K.In s.heap->(g us ws).length=ps.length->BindsTo s fd ⟨us,b'.zip ws⟩ (ps.zip (g us ws))
 rel:∀ {vs:List V} {us:List Value} {zs:List V} {ws:List Value},cj vs us->cj zs ws->cj (Rk vs zs) (g us ws)
variable {g:List Value->List Value->List Value} {Rk:List V->List V->List V}
end
structure cn (N P:List Str) (sc:Scope):Prop where
 kind:sc.kind=.function
 co:sc.isCoroutine=false
 gen:sc.isGenerator=false
 aB:N.Nodup
 pre:N.take P.length=P
 par:∀ x ∈ P,sc.names.lookup x=some .local\/sc.names.lookup x=some .cell
 agK:∀ y ∈ sc.names,y.2 ≠ .free
theorem TH {kindOf:Str->Option NameKind} {x:Str}:∀ {binds:List (Str × Value)} {m:Str->Option Value},(∀ v,(x,v) ∉ binds)->bindL kindOf binds m x=m x
 | [],_,_=>rfl
 | (n,v) :: r,m,h=>by
  unfold bindL;rw [TH fun w hw=>h w (gS _ hw)];split
  .have:x ≠ n:=by rintro rfl;exact h v kO
   simp [this]
  .rfl
theorem Ur {kindOf:Str->Option NameKind} {x:Str}:∀ {binds:List (Str × Value)} {m:Str->Option Value},(∀ v,(x,v) ∉ binds)->bindC kindOf binds m x=m x
 | [],_,_=>rfl
 | (n,v) :: r,m,h=>by
  unfold bindC;rw [Ur fun w hw=>h w (gS _ hw)];split
  .rfl
  .have:x ≠ n:=by rintro rfl;exact h v kO
   simp [this]
theorem VU {kindOf:Str->Option NameKind} {x:Str} {v:Value}:∀ {P:List Str} {vs:List Value} {i:Nat} {m:Str->Option Value},P.Nodup->P[i]? = some x->vs[i]? = some v->kindOf x=some .local ->
  bindL kindOf (P.zip vs) m x=some v
 | [],_,_,_,_,h,_,_=>by simp at h
 | _ :: _,[],_,_,_,_,h,_=>by simp at h
 | p :: P,w :: vs,0,m,aB,ab,ai,aE=>by
  simp at ab ai;subst ab;subst ai;show bindL kindOf ((p,w) :: P.zip vs) m p=_;unfold bindL;rw [TH fun v aG=>(xB.mp aB).1 (RZ aG).1,if_pos aE];simp
 | p :: P,w :: vs,i + 1,m,aB,ab,ai,aE=>by
  show bindL kindOf ((p,w) :: P.zip vs) m x=_;unfold bindL;exact VU (i:=i) (xB.mp aB).2 (by simpa using ab) (by simpa using ai) aE
theorem O4 {kindOf:Str->Option NameKind} {x:Str} {v:Value}:∀ {P:List Str} {vs:List Value} {i:Nat} {m:Str->Option Value},P.Nodup->P[i]? = some x->vs[i]? = some v->kindOf x ≠ some .local ->
  bindC kindOf (P.zip vs) m x=some v
 | [],_,_,_,_,h,_,_=>by simp at h
 | _ :: _,[],_,_,_,_,h,_=>by simp at h
 | p :: P,w :: vs,0,m,aB,ab,ai,aE=>by
  simp at ab ai;subst ab;subst ai;show bindC kindOf ((p,w) :: P.zip vs) m p=_;unfold bindC;rw [Ur fun v aG=>(xB.mp aB).1 (RZ aG).1,if_neg aE];simp
 | p :: P,w :: vs,i + 1,m,aB,ab,ai,aE=>by
  show bindC kindOf ((p,w) :: P.zip vs) m x=_;unfold bindC;exact O4 (i:=i) (xB.mp aB).2 (by simpa using ab) (by simpa using ai) aE
noncomputable def start (N:List Str) (vs:List V):St:=vs.map some ++ K1 (N.length - vs.length) none
noncomputable def ni (CX:j1) (P:Program) (w:World) (K:bc) (mg:Str->Option Value) (base:Heap) (N:List Str) (qual:Str) (scope:Scope) (f:Addr) (cd:Value) (A:Around) (outer:List Env) (s:Shared) (H:au) (E:d0):a0 where
 prog:=P
 w:=w
 K:=K
 mg:=mg
 base:=base
 A:=A.deeper (envOfC qual scope s.heap.objs.size f cd)
 N:=N
 fE:=s
 sx:=H
 env:=envOfC qual scope s.heap.objs.size f cd
 outer:=outer
 stack:=envOfC qual scope s.heap.objs.size f cd :: outer
 ex:=[]
 calm:=true
 fn:=fun _=>true
 ey:=[]
 dz:=fun e s'=>wpAny (model P w) (A.deeper (envOfC qual scope s.heap.objs.size f cd)) (leaving (envOfC qual scope s.heap.objs.size f cd) e) (fun _ tK=>CX outer H s E e tK) (fun bW tK=>CX outer H s E bW tK) s'
theorem W3 {sc:Scope} {n:Nat} {x:Str} (h:sc.names.lookup x=some .cell):∃ c,(cellsFrom n sc.names []).lookup x=some c:=by
 have q:=ab8 sc.names n [] (.inl h);exact aah.mp q
theorem XW {CX:j1} {P:Program} {w:World} {K:bc} {mg:Str->Option Value} {base:Heap} {N ps:List Str} {qual:Str} {scope:Scope} {f:Addr} {cd:Value} {A:Around} {outer:List Env} {s s1:Shared} {H:au} {E:d0} {us:List Value} {vs:List V}
  (S:cn N ps scope) (hd:A.handled=none) (fA:rz P w K mg base A outer s H) (aD:vs.length=ps.length) (r:cj vs us)
  (x:InCallC s s.heap.objs.size (bindL (envOfC qual scope s.heap.objs.size f cd).kindOf (ps.zip us) fun _=>none) (cellsFrom (s.heap.objs.size + 1) scope.names []) (bindC (envOfC qual scope s.heap.objs.size f cd).kindOf (ps.zip us) fun _=>none) s1) :
  Inv (ni CX P w K mg base N qual scope f cd A outer s H E) [] (start N vs) H s1:=by
 have cO:ps.length <= N.length:=by have:=congrArg qX S.pre;rw [gZ] at this;omega
 obtain ⟨ab,tk,rfl,aE⟩:=x.done;have sy:∀ b:Addr,b ∉ (ni CX P w K mg base N qual scope f cd A outer s H E).ex:=fun b z=>absurd (show b ∈ ([]:List Addr) from z) (by simp)
 refine ⟨⟨fA.mod,S.kind,rfl,rfl,bP _,fun y z c ab ai=>?_,fun y aU=>?_,fun y c _ h=>?_,fun _=>hd,alS fA.frames,.inr ⟨rfl,rfl⟩,fun b z=>absurd z (sy b),fA.bs,fA.lz,fun b _ _=>sy b,fun b z=>absurd z (sy b),fA.kG,fA.n9⟩,
  rfl,fA.bare,gG.kept aE,⟨_,x.toInCall.ns,fun i y v ab ai a5=>?_⟩,fun y c h=>⟨_,x.cell y c h⟩,fA.bh.fresh (bP _),fun y c h=>?_,fun p aq=>absurd (show p ∈ ([]:List (Addr × Obj)) from aq) (by simp),fA.bh.kept aE,?_⟩
 .exact name_of_addr x.apart (vV ab) (vV ai)
 .have aU:scope.names.lookup y=some .cell\/scope.names.lookup y=some .free:=aU;rcases aU with aU | aU
  .exact W3 aU
  .exact absurd rfl (S.agK _ (vV aU))
 .exact mM (x.above y c (vV h))
 .have ag:i < vs.length:=by
   unfold start at ai;by_cases ag:i < vs.length
   .exact ag
   .rw [k5 (by simpa using ag)] at ai;rw [List.getElem?_replicate] at ai;split at ai <;> cases ai
  have aK:vs[i]? = some v:=by
   unfold start at ai;rw [m9 (by simpa using ag),cV] at ai;cases e:vs[i]? with
   | none=>rw [e] at ai;cases ai
   | some a=>rw [e] at ai;cases ai;rfl
  obtain ⟨u,b7,cw⟩:=r.get aK;have aq:ps[i]? = some y:=by
   rw [<- S.pre,xk (by omega)];exact ab
  have Nu:ps.Nodup:=by rw [<- S.pre];exact S.aB.sublist (List.take_sublist _ _)
  refine ⟨u,cw,?_⟩;rcases S.par y (bM aq) with k | k
  .exact .inl ⟨k,VU Nu aq b7 k⟩
  .obtain ⟨c,e⟩:=W3 (n:=s.heap.objs.size + 1) k;refine .inr ⟨.inl k,c,e,?_⟩;have q:=x.cell y c e;rw [O4 Nu aq b7 (by show scope.names.lookup y ≠ _;rw [k];decide)] at q;exact q
 .exact fA.bh.fresh (mM (x.above y c (vV h)))
 .unfold start;show _=N.length;rw [cC,aR,List.length_replicate];omega
theorem HL {w:World} {K:bc} {mg:Str->Option Value} {base:Heap} {k:Nat} {name qual:Str} {DM et doc pm eN e9 nH:Value}
 {N ps:List Str} (lk:K.lookup f=some ⟨nH,br,.func (yg name qual params body scope DM et doc pm an eN e9),rP⟩) (kj:S9 K eN qual=true) (S:cn N ps scope)
    (len:∀ vs H Q E,sp vs H Q E->vs.length=ps.length)
    (nN:∀ (A:Around) (outer:List Env) (s:Shared) (H:au) (vs:List V) (Q:cJ) (E:d0),en k (A.deeper (envOfC qual scope s.heap.objs.size f eN))->sp vs H Q E ->
      ∃ t,gC (ni CX P w K mg base N qual scope f eN A outer s H E) body t/\t { cy:=fun _ I=>Q .cg I,l_:=Q } (start N vs) H) :
    bV P w K mg base CX (k + 1) f (yg name qual params body scope DM et doc pm an eN e9) ps sp:=by
  refine ⟨len,fun A outer s H args us vs Q E aj fA ae r jc=>?_⟩;have aD:=len _ _ _ _ jc;have e8:K.In s.heap:=fA.mod.rx.keeps fun b o e=>(fA.bs b o e).1
  have lim:s.heap.NoLimit:=fA.mod.nolimit.keeps fun b o e=>(fA.bs b o e).1
  have amO:∀ y ∈ ps.zip us,scope.names.lookup y.1=some .local\/(scope.names.lookup y.1=some .cell/\((cellsFrom (s.heap.objs.size + 1) scope.names []).lookup y.1).isSome=true):=fun ⟨n,v⟩ aU=>by
    rcases S.par n (RZ aU).1 with q | q
    · exact .inl q
    · exact .inr ⟨q,ab8 _ _ _ (.inl q)⟩
  refine codeAny_call_function aj.depth (e8 _ _ lk) rfl S.co S.gen rfl (PySem.W.codeRec_of e8 kj) (ae _ _ _ _ ?_);refine wpAny_newFunctionEnv_cells S.kind amO fun env he s1 x=>?_
  subst he;refine ⟨lim.keeps x.toInCall.keep,codeAny_func ?_⟩;obtain ⟨t,dQ,aM⟩:=nN A outer s H vs Q E (aj.deeper _) jc;have J:Inv (ni CX P w K mg base N qual scope f eN A outer s H E) [] (start N vs) H s1:=XW S aj.hd fA aD r x;refine wpAny_mono (dQ [] s1 (start N vs) H _ J aM) (fun c_ s' aw=>?_) fun e s' aw=>aw
  have fin:∀ {ay:St} {I:au} {v:V} {u:Value},Inv (ni CX P w K mg base N qual scope f eN A outer s H E) [] ay I s'->b1 v u->Q v I->J8 outer P w H s Q u s':=
    fun {ay I v u} bF cw q=>⟨v,I,bF.os,bF.bare,bF.base,bF.bh,cw,q⟩
  cases c_ with
  | ret u=>
    obtain ⟨v,ay,I,bF,cw,q⟩:=aw;exact fin bF cw q
  | next=>
    obtain ⟨ay,I,bF,q⟩:=aw;exact fin (v:=V.cg) (u:=k1) bF rfl q
  | brk=>
    obtain ⟨_,_,_,q⟩:=aw;exact ji q
  | cont=>
    obtain ⟨_,_,_,q⟩:=aw;exact ji q
section
variable {X:a0} {x:Str} {p pos:Pos} {e:Expr} {aT:List Expr} {t:fc} {id T:String} {r:List V->au->cJ->Prop}
noncomputable def zB (r:List V->au->cJ->Prop) (t:fc):TE:=fun σ H Q=>t σ H fun vs H1=>r vs H1 Q
theorem ep (ar:mS X (.builtin id) r) (bg:iR X x) (hm:X.mg x=none) (aG:bootBuiltins x=some (.builtin id)) (aK:gg X (e :: aT) t) (aV:x ≠ "__name__" := by decide) (gF:(x == ("__debug__" : Str))=false:=by decide)
  (he:starEach (e :: aT) X.env=(false,eval e X.env) :: starEach aT X.env:=by rfl) (cO:(backTo pos (starEach aT X.env)).any (·.1)=false:=by rfl):bz X (.Call (.Name x p) (e :: aT) [] pos) (zB r t):=by
 intro aa s σ H Q J h;refine wpAny_Call_Name_kw (rT J bg hm aG ?_ aV gF);exact YF (bL (aK pos aa s σ H _ J h) fun us s1 ⟨vs,H1,aP,cG,bT⟩=>ar aa s1 σ H1 vs us Q aP cG bT) he cO
theorem oN (ar:mS X (.type T) r) (bg:iR X x) (hm:X.mg x=none) (aG:bootBuiltins x=some (.type T)) (aK:gg X (e :: aT) t) (aV:x ≠ "__name__" := by decide) (gF:(x == ("__debug__" : Str))=false:=by decide)
  (he:starEach (e :: aT) X.env=(false,eval e X.env) :: starEach aT X.env:=by rfl) (cO:(backTo pos (starEach aT X.env)).any (·.1)=false:=by rfl):bz X (.Call (.Name x p) (e :: aT) [] pos) (zB r t):=by
 intro aa s σ H Q J h;refine wpAny_Call_Name_kw (rT J bg hm aG ?_ aV gF);exact zR (bL (aK pos aa s σ H _ J h) fun us s1 ⟨vs,H1,aP,cG,bT⟩=>ar aa s1 σ H1 vs us Q aP cG bT) he cO
end
end L2
namespace eO
open PySem PyProof.Rows
section
open PySem.SeqAt
open PySem.AutoSeq1 (wpAny_loadPart')
open PySem.MeetsSeq PySem.MeetsSeq2 PySem.MeetsSeq3
end
section
variable {prog:Program} {w:World} {A:Around} {E:Value->Shared->Prop} {s:Shared}
noncomputable def cZ (n d:Nat):Option Int->Nat
 | none=>d
 | some v=>if v < 0 then (v + (n:Int)).toNat else min v.toNat n
theorem agI (n d:Nat):cZ n d none=d:=rfl
theorem CQ (n d k:Nat):cZ n d (some (k:Int))=min k n:=by
 show (if (k:Int) < 0 then ((k:Int) + (n:Int)).toNat else min (k:Int).toNat n)=min k n;rw [if_neg (by omega),lB]
theorem aiF (n d:Nat) (hd:d <= n) (o:Option Int):cZ n d o <= n:=by
 cases o with
 | none=>exact hd
 | some v=>
  show (if v < 0 then (v + (n:Int)).toNat else min v.toNat n) <= n;by_cases aG:v < 0
  .rw [if_pos aG];omega
  .rw [if_neg aG];exact Nat.min_le_right _ _
theorem Tx (v:Int) (n d:Nat):(if v < 0 then max (v + (n:Int)) 0 else min v (n:Int))=((cZ n d (some v):Nat):Int):=by
 show (if v < 0 then max (v + (n:Int)) 0 else min v (n:Int))=(((if v < 0 then (v + (n:Int)).toNat else min v.toNat n):Nat):Int);by_cases aG:v < 0
 .simp only [if_pos aG];omega
 .simp only [if_neg aG];omega
theorem KF (lo ag:Option Int) (n:Nat):Wh lo ag 1 (n:Int)=(((cZ n 0 lo:Nat):Int),((cZ n n ag:Nat):Int)):=by
 have ab:¬ ((1:Int) < 0):=by omega
 unfold Wh;simp only [ab,if_false];refine Prod.ext ?_ ?_
 .cases lo with
  | none=>rfl
  | some v=>exact Tx v n 0
 .cases ag with
  | none=>rfl
  | some v=>exact Tx v n n
theorem aml (i j:Nat):HW (i:Int) (j:Int) 1=j - i:=by
 unfold HW;have ab:(1:Int) > 0:=by omega
 simp only [ab,if_true,Int.ediv_one];split <;> omega
theorem Sv (p:IsPart v o) (h:Q o s):wpAny (model prog w) A (aoK v) Q E s:=by
 cases p with
 | none=>exact slicePart_none h
 | int i t=>exact slicePart_int h
theorem aaI {bk:Addr} {kn kq:Value} {lo ag:Option Int} {n:Nat} {Q:Int × Int × Nat->Shared->Prop} (aw:s.heap.IsSliceOf bk kn kq .none) (pl:IsPart kn lo) (pu:IsPart kq ag)
  (h:Q (((cZ n 0 lo:Nat):Int),1,cZ n n ag - cZ n 0 lo) s):wpAny (model prog w) A (agX (.ref bk) (pure (n:Int))) Q E s:=by
 obtain ⟨os,y4,Eu,Ei⟩:=id aw;unfold agX apn;refine wpAny_bind (wpAny_bind (wpAny_field y4 Ei (x:=kn) rfl (wpAny_bind (wpAny_field y4 Ei (x:=kq) rfl (wpAny_bind (wpAny_field y4 Ei (x:=.none) rfl (wpAny_pure ?_)))))));refine wpAny_bind (slicePart_none ?_);show wpAny _ _ (if ((1:Int) == 0)=true then _ else _) _ _ s;rw [if_neg (by decide)];refine wpAny_bind (Sv pl (wpAny_bind (Sv pu (wpAny_bind (wpAny_pure ?_)))));show wpAny _ _ (match Wh lo ag 1 (n:Int) with | (lo,ag)=>pure (lo,(1:Int),HW lo ag 1)) _ _ s;rw [KF lo ag n];show wpAny _ _ (pure (((cZ n 0 lo:Nat):Int),(1:Int),HW ((cZ n 0 lo:Nat):Int) ((cZ n n ag:Nat):Int) 1)) _ _ s;rw [aml];exact wpAny_pure h
theorem aiR (xs:Array Value) (i k:Nat):((cY k).filterMap fun (m:Nat)=>xs[((i:Int) + (m:Int) * 1).toNat]?).toArray=((xs.toList.drop i).take k).toArray:=by
 have e:(fun (m:Nat)=>xs[((i:Int) + (m:Int) * 1).toNat]?)=fun m=>xs[i + m]?:=by
  funext m;have:((i:Int) + (m:Int) * 1).toNat=i + m:=by omega
  rw [this]
 rw [e];have:=pick_run xs i k;rw [List.filterMap_map] at this;have aC:((fun x=>xs[x]?) ∘ fun x=>i + x)=fun m=>xs[i + m]?:=rfl
 rw [aC] at this;rw [this]
theorem acP {t bk:Addr} {items:Array Value} {kn kq:Value} {lo ag:Option Int} {Q:Value->Shared->Prop} (dQ:IsTup s.heap t items) (aw:s.heap.IsSliceOf bk kn kq .none) (pl:IsPart kn lo) (pu:IsPart kq ag)
  (hw:¬ (cZ items.size 0 lo=0/\cZ items.size items.size ag=items.size))
  (h:Q (.ref s.heap.objs.size) { s with heap:=s.heap.push { cls:=.type "tuple",data:=.seq ((items.toList.drop (cZ items.size 0 lo)).take (cZ items.size items.size ag - cZ items.size 0 lo)).toArray } })
  (hsz:items.size <= sizeLine):wpAny (model prog w) A (getItem (.ref t) (.ref bk)) Q E s:=by
 have A4:sizeOk (.seq ((items.toList.drop (cZ items.size 0 lo)).take (cZ items.size items.size ag - cZ items.size 0 lo)).toArray):=by
  show ((items.toList.drop (cZ items.size 0 lo)).take (cZ items.size items.size ag - cZ items.size 0 lo)).toArray.size <= sizeLine;rw [ft,gZ,lH,zg];omega
 have aN:cZ items.size items.size ag <= items.size:=aiF _ _ (bP _) ag;obtain ⟨os,y4,Eu,Ei⟩:=id aw;have ag2:s.TypeIs (.ref bk) "slice" := ⟨os,y4,Eu⟩;unfold getItem
 try with_reducible refine wpAny_holding ?_
 first | refine wpAny_bind (wpAny_pure ?_) | skip
 refine wpAny_bind (wpAny_sequenceKey dQ.typeIs (by decide) ?_);refine wpAny_bind (wpAny_callSpecial?_slot (name:=ah "__getitem__") dQ.typeIs TB
  (wpAny_call_entry TB dQ.typeIs entry_tuple_getitem ?_ (args_tuple_getitem _ _)))
 show wpAny _ _ (ao3 (.ref t) >>= _) _ _ s;refine wpAny_bind (tupleItemsOf_ dQ ?_);refine wpAny_bind (wpAny_typeOf ag2 ?_);rw [if_pos (by decide)];refine wpAny_bind (aaI aw pl pu ?_);have Jd:¬ ((((cZ items.size 0 lo:Nat):Int) == 0 && (1:Int) == 1 && (cZ items.size items.size ag - cZ items.size 0 lo) == items.size)=true):=by
  intro q;rw [jX,jX] at q;have bT:((cZ items.size 0 lo:Nat):Int)=0:=eq_of_beq q.1.1;have d5:cZ items.size items.size ag - cZ items.size 0 lo=items.size:=eq_of_beq q.2;exact hw ⟨by omega,by omega⟩
 show wpAny _ _ (if (((cZ items.size 0 lo:Nat):Int) == 0 && (1:Int) == 1 && (cZ items.size items.size ag - cZ items.size 0 lo) == items.size)=true then _ else _) _ _ s;rw [if_neg Jd,aiR]
 first
  | exact wpAny_bind (m:=J6 _) (wpAny_newObj_type (wpAny_pure ⟨_,rfl,wpAny_pure h⟩) A4)
  | exact wpAny_bind (m:=J6 _) (wpAny_newObj_type (wpAny_bind (wpAny_pure (wpAny_pure ⟨_,rfl,wpAny_pure h⟩))) A4)
  | exact wpAny_bind (wpAny_bind (m:=J6 _) (wpAny_newObj_type (wpAny_pure (wpAny_pure ⟨_,rfl,wpAny_pure h⟩)) A4))
  | exact wpAny_bind (wpAny_bind (m:=J6 _) (wpAny_newObj_type (wpAny_pure ⟨_,rfl,wpAny_pure h⟩) A4))
end
end eO
namespace L2
open PySem PySem.Spec PyProof.Rows
noncomputable abbrev km:=St->au->(Option Int->au->Prop)->Prop
def BM (X:a0) (e:Option Expr) (t:km):Prop:=
 ∀ (aa:List (Addr × Obj)) (s:Shared) (σ:St) (H:au) (Q:Option Int->au->Prop),Inv X aa σ H s->t σ H Q ->
  wpAny (model X.prog X.w) X.A (evalPart e X.env) (fun u s'=>∃ o I,Inv X aa σ I s'/\IsPart u o/\Q o I) X.dz s
noncomputable def KN:km:=fun _ H Q=>Q none H
noncomputable def Mm (t:TE):km:=fun σ H Q=>t σ H fun x H1=>gR x fun i=>Q (some i) H1
theorem aga {ns:List Int}:∀ {us:List Value},cj (ns.map V.int) us->IntsAre us ns:=by
 induction ns with
 | nil=>intro us r;rw [pH] at r;cases r;exact .nil
 | cons n ns c2=>
  intro us r;rw [eB] at r;cases r with
  | cons cG e3=>
   obtain ⟨t,e⟩:=cG;subst e;exact .cons n t (c2 e3)
section
variable {X:a0} {e:Expr} {bN:TE} {lo ag:Option Expr} {bo kr:km} {pos df:Pos}
theorem ou:BM X none KN:=by
 intro aa s σ H Q J h;rw [evalPart_none];exact wpAny_pure ⟨none,H,J,.none,h⟩
theorem k7 (h:bz X e bN):BM X (some e) (Mm bN):=by
 intro aa s σ H Q J hw;rw [evalPart_some];refine bL (h aa s σ H _ J hw) fun u s1 cz=>eC cz fun x H1 aP cG bT=>?_
 obtain ⟨i,rfl,q⟩:=gR.out bT;obtain ⟨t,rfl⟩:=cG;exact ⟨some i,H1,aP,.int i t,q⟩
def Au (X:a0) (r:V->Option Int->Option Int->au->cJ->Prop):Prop:=
 ∀ (aa:List (Addr × Obj)) (s:Shared) (σ:St) (H:au) (x:V) (v kn kq:Value) (lo ag:Option Int) (bk:Addr) (Q:cJ),Inv X aa σ H s->b1 x v->s.heap.IsSliceOf bk kn kq .none->IsPart kn lo->IsPart kq ag->r x lo ag H Q ->
  ∃ T id,typeLookup (.type T) "__getitem__"=pure (some (.builtin id))/\s.TypeIs v T/\wpAny (model X.prog X.w) X.A (getItem v (.ref bk)) (f5 X aa σ Q) X.dz s
noncomputable def L5 (r:V->Option Int->Option Int->au->cJ->Prop) (bN:TE) (bo kr:km):TE:=fun σ H Q=>bN σ H fun x H1=>bo σ H1 fun l az=>kr σ az fun u bI=>r x l u bI Q
theorem mf (aj:Au X r) (he:bz X e bN) (aD:BM X lo bo) (b7:BM X ag kr):bz X (.Subscript e (.Slice lo ag none df) pos) (L5 r bN bo kr):=by
 intro aa s σ H Q J h;refine Subscript_ (bL (he aa s σ H _ J h) fun v s1 cz=>eC cz fun x H1 aP cG bT=>?_);refine wpAny_Slice (bL (aD aa s1 σ H1 _ aP bT) fun kn s2 ⟨l,az,bK,pl,d5⟩=>bL (b7 aa s2 σ az _ bK d5) fun kq s3 cL=>?_);obtain ⟨u,bI,eK,pu,g4⟩:=cL;rw [evalPart_none];refine wpAny_pure ?_;have fY:Inv X aa σ bI { s3 with heap:=s3.heap.push { cls:=.type "slice",data:=.fields #[kn,kq,.none] } }:=eK.kept (t':=s3.toks) fun b cU q=>ed _ q
 obtain ⟨T,id,fa,dQ,bg⟩:=aj aa { s3 with heap:=s3.heap.push { cls:=.type "slice",data:=.fields #[kn,kq,.none] } } σ bI x v kn kq l u s3.heap.objs.size Q fY cG (an2 ..) pl pu g4;show wpAny (model X.prog X.w) X.A (subscriptTail e (.Slice lo ag none df) v (.ref s3.heap.objs.size)) (f5 X aa σ Q) X.dz { s3 with heap:=s3.heap.push { cls:=.type "slice",data:=.fields #[kn,kq,.none] } };exact tail_any (ops:=[.ref s3.heap.objs.size,v]) dQ fa bg (by with_unfolding_all rfl)
noncomputable def ij (xs:List V) (lo ag:Option Int):List V:=(xs.drop (eO.cZ xs.length 0 lo)).take (eO.cZ xs.length xs.length ag - eO.cZ xs.length 0 lo)
theorem Uz (xs:List V) (lo ag:Option Int):(ij xs lo ag).length <= xs.length:=by
 unfold ij;rw [gZ,lH];omega
noncomputable def T3 (K:bc):V->Option Int->Option Int->au->cJ->Prop:=fun x lo ag H Q=>∃ a xs,x=.ref a/\cS K H a xs /\
 ¬ (eO.cZ xs.length 0 lo=0/\eO.cZ xs.length xs.length ag=xs.length)/\∀ p,H p=none->Q (.ref p) (upd H p (.tup (ij xs lo ag)))
theorem ZL:Au X (T3 X.K):=by
 intro aa s σ H x v kn kq lo ag bk Q J a8 aw pl pu h;obtain ⟨a,xs,rfl,af,hw,q⟩:=h;cases a8;obtain ⟨a4,r,dQ,aF⟩:=J.tuple af;have hlen:a4.toArray.size=xs.length:=by rw [ft];exact r.length.symm
 refine ⟨"tuple",_,TB.lookup,dQ.typeIs,?_⟩;refine eO.acP dQ aw pl pu (by rw [hlen];exact hw) ?_ (by rw [hlen];exact aF);rw [hlen];refine ⟨.ref s.heap.objs.size,_,J.laid (t':=s.toks) (o:=.tup (ij xs lo ag)) (fun b cU q=>ed _ q) (bP _) ?_,rfl,q _ (J.bh.fresh (bP _))⟩;exact ⟨⟨cq (Uz xs lo ag) aF,_,hS _ rfl,rfl⟩,_,(r.drop (eO.cZ xs.length 0 lo)).take (eO.cZ xs.length xs.length ag - eO.cZ xs.length 0 lo),IsTup.new _ _⟩
end
noncomputable def qg (n:Nat) (i:Int):Option Nat:=if 0 <= i then (if i < n then some i.toNat else none) else if -(n:Int) <= i then some (i + n).toNat else none
noncomputable def eE {α:Type} (xs:List α) (i:Int):Option α:=(qg xs.length i).bind fun j=>xs[j]?
theorem agl (h:qg n i=some j):seqIndex? i n=some j/\j < n/\-(n:Int) <= i/\i < n:=by
 unfold qg at h;by_cases h0:0 <= i
 .rw [if_pos h0] at h;by_cases ab:i < n
  .rw [if_pos ab] at h;have e:i.toNat=j:=eL h;exact ⟨by rw [seqIndex_of h0 ab,e],by omega,by omega,ab⟩
  .rw [if_neg ab] at h;cases h
 .rw [if_neg h0] at h;by_cases ab:-(n:Int) <= i
  .rw [if_pos ab] at h;have e:(i + n).toNat=j:=eL h;exact ⟨by rw [seqIndex_neg (by omega) ab,e],by omega,ab,by omega⟩
  .rw [if_neg ab] at h;cases h
theorem FO (h:eE xs i=some v):∃ j,seqIndex? i xs.length=some j/\xs[j]? = some v/\j < xs.length/\-(xs.length:Int) <= i/\i < xs.length:=by
 unfold eE at h;cases e:qg xs.length i with
 | none=>rw [e] at h;cases h
 | some j=>
  rw [e] at h;obtain ⟨ab,ai,a5,bQ⟩:=agl e;exact ⟨j,ab,h,ai,a5,bQ⟩
theorem bA {α:Type} {xs:List α} {j:Nat} {v:α} (h:xs[j]? = some v):eE xs (j:Int)=some v:=by
 have aN:j < xs.length:=(bY.mp h).1;have e:qg xs.length (j:Int)=some j:=by
  unfold qg;rw [if_pos (by omega),if_pos (by omega)];simp
 unfold eE;rw [e];exact h
theorem r8 (xs:List α) (v:α):eE (xs ++ [v]) (-1)=some v:=by
 have aD:(xs ++ [v]).length=xs.length + 1:=by simp
 have e:qg (xs ++ [v]).length (-1)=some xs.length:=by
  unfold qg;rw [aD,if_neg (by decide),if_pos (by omega)];congr 1;omega
 unfold eE;rw [e];show (xs ++ [v])[xs.length]? = some v;simp
def Qs (b:Expr):Prop:=∀ o i,subscripted b false o i=operate [o,i] (getItem o i)
def yB (X:a0) (r:fb):Prop:=
 ∀ (value slice:Expr) (aa:List (Addr × Obj)) (s:Shared) (σ:St) (H:au) (x y:V) (v u:Value) (Q:cJ),Inv X aa σ H s->b1 x v->b1 y u->r x y H Q ->
  subscripted slice false v u=operate [v,u] (getItem v u)->wpAny (model X.prog X.w) X.A (subscriptTail value slice v u) (f5 X aa σ Q) X.dz s
def sd (X:a0) (id:String) (r:V->List V->au->cJ->Prop):Prop:=
 ∀ (aa:List (Addr × Obj)) (s:Shared) (σ:St) (H:au) (x:V) (xs:List V) (v:Value) (us:List Value) (Q:cJ),Inv X aa σ H s->b1 x v->cj xs us->r x xs H Q ->
  wpAny (model X.prog X.w) X.A (call (.builtin id) (v :: us)) (f5 X aa σ Q) X.dz s
section
variable {X:a0} {a b:Expr} {a6 b8:TE} {pos:Pos}
theorem anp (aj:yB X r) (aK:bz X a a6) (ae:bz X b b8) (aw:Qs b):bz X (.Subscript a b pos) (tL r a6 b8):=by
 intro aa s σ H Q J h;exact Subscript_ (Jw aK ae J h fun v u s2 x y az bK a8 bH q=>aj a b aa s2 σ az x y v u Q bK a8 bH q (aw _ _))
noncomputable def Gi (K:bc):fb:=fun x y H Q=>fv x fun p=>∃ xs,gR y fun i=>ak K H p xs/\∃ v,eE xs i=some v/\Q v H
noncomputable def HG (K:bc):fb:=fun x y H Q=>fv x fun p=>∃ xs,gR y fun i=>cS K H p xs/\∃ v,eE xs i=some v/\Q v H
noncomputable def Ko:fb:=fun x y H Q=>∃ z i c,x=.str z/\y=.int i/\z.length <= sizeLine/\eE z.cps.toList i=some c/\Q (.str ⟨#[c]⟩) H
theorem b0:yB X (Gi X.K):=by
 intro value slice aa s σ H x y v u Q J a8 bH h aw;obtain ⟨p,rfl,xs,i_⟩:=fv.out h;obtain ⟨i,rfl,aM,z,he,q⟩:=gR.out i_;cases a8;obtain ⟨t,rfl⟩:=bH;obtain ⟨a4,r,pl,aF⟩:=J.list aM;obtain ⟨j,ab,ai,a5,bQ,du⟩:=FO he;obtain ⟨w,o6,h_⟩:=r.get ai;have aD:=r.length;have aV:=uq;have fin:f5 X aa σ Q w s:=⟨z,H,J,h_,q⟩;by_cases h0:0 <= i
 .have aN:i.toNat=j:=by
   rw [seqIndex_of h0 du] at ab;exact eL ab
  exact item_listR pl.isList h0 (by omega) (by rw [aN];simpa using o6) fin aw
 .have aN:(i + (a4.toArray.size:Int)).toNat=j:=by
   rw [seqIndex_neg (by omega) bQ] at ab;rw [ft,<- aD];exact eL ab
  exact subscriptTail_builtinR (x:=w) pl.isList.typeIs slot_list_getitem.lookup
   (wpAny_getItem_list_neg (Q:=fun r s'=>r=w/\f5 X aa σ Q r s') pl.isList (by omega) (by rw [ft] <;> omega) (by omega) (by rw [aN];simpa using o6) ⟨rfl,fin⟩) aw
theorem eD:yB X (HG X.K):=by
 intro value slice aa s σ H x y v u Q J a8 bH h aw;obtain ⟨p,rfl,xs,i_⟩:=fv.out h;obtain ⟨i,rfl,aM,z,he,q⟩:=gR.out i_;cases a8;obtain ⟨t,rfl⟩:=bH;obtain ⟨a4,r,pl,aF⟩:=J.tuple aM;obtain ⟨j,ab,ai,a5,bQ,du⟩:=FO he;obtain ⟨w,o6,h_⟩:=r.get ai;have aD:=r.length;have aV:=uq;have fin:f5 X aa σ Q w s:=⟨z,H,J,h_,q⟩;exact subscriptTail_builtinR (x:=w) pl.typeIs slot_tuple_getitem.lookup
  (getItem_tuple (j:=j) (Q:=fun r s'=>r=w/\f5 X aa σ Q r s') pl (by omega) (by omega) (by rw [ft,<- aD];exact ab) (by simpa using o6) ⟨rfl,fin⟩) aw
theorem KO:yB X Ko:=by
 intro value slice aa s σ H x y v u Q J a8 bH h aw;obtain ⟨z,i,c,rfl,rfl,aF,he,q⟩:=h;obtain ⟨t,rfl⟩:=a8;obtain ⟨t',rfl⟩:=bH;obtain ⟨j,ab,ai,a5,bQ,du⟩:=FO he;have aD:z.cps.toList.length=z.length:=by simp [uY]
 rw [aD] at ab bQ du;have aV:=uq;exact tail_any (typeIs_str s z t) slot_str_getitem.lookup (getItem_str (c:=c) (by
  have ao:decide (i < -(2 ^ 63:Int))=false:=decide_eq_false (by omega);have aC:decide (i ≥ 2 ^ 63)=false:=decide_eq_false (by omega);rw [ao,aC,abn]) (by rw [ab];simpa using ai) ⟨.str ⟨#[c]⟩,H,J.tok _,⟨_,rfl⟩,q⟩) aw
theorem Z8 (lo ag:Option Int) (n:Nat):(sliceBounds lo ag none n).1=((eO.cZ n 0 lo:Nat):Int)/\(sliceBounds lo ag none n).2.1=((eO.cZ n n ag:Nat):Int)/\(sliceBounds lo ag none n).2.2=1:=by
 refine ⟨?_,?_,rfl⟩
 .cases lo with
  | none=>simp [sliceBounds,eO.cZ]
  | some i=>
   simp only [sliceBounds,eO.cZ,akH,show (1:Int) > 0 by decide,if_true];by_cases h:i < 0
   .simp only [h,if_true] <;> omega
   .simp only [h,if_false] <;> omega
 .cases ag with
  | none=>simp [sliceBounds,eO.cZ]
  | some i=>
   simp only [sliceBounds,eO.cZ,akH,show (1:Int) > 0 by decide,if_true];by_cases h:i < 0
   .simp only [h,if_true] <;> omega
   .simp only [h,if_false] <;> omega
theorem ajR (a4:List Value) (lo ag:Option Int):slicePick a4.toArray lo ag none=((a4.drop (eO.cZ a4.length 0 lo)).take (eO.cZ a4.length a4.length ag - eO.cZ a4.length 0 lo)).toArray:=by
 obtain ⟨ab,ai,a5⟩:=Z8 lo ag a4.toArray.size;unfold slicePick;rw [ab,ai,a5];simp only [sliceRange_one,pick_run,ft] <;> rfl
noncomputable def GG (K:bc):V->Option Int->Option Int->au->cJ->Prop:=fun x lo ag H Q=>∃ a xs,x=.ref a/\ak K H a xs/\∀ p,H p=none->Q (.ref p) (upd H p (.lst (ij xs lo ag)))
theorem rQ:Au X (GG X.K):=by
 intro aa s σ H x v kn kq lo ag bk Q J a8 aw pl pu h;obtain ⟨a,xs,rfl,af,q⟩:=h;cases a8;obtain ⟨a4,r,dQ,aF⟩:=J.list af;have hlen:=r.length;refine ⟨"list",_,slot_list_getitem.lookup,dQ.isList.typeIs,?_⟩;refine wpAny_getItem_list_slice dQ.isList aw pl pu .none (by simp) ?_ (by rw [ft] <;> omega);rw [ajR,<- hlen];refine ⟨.ref s.heap.objs.size,_,J.laid (t':=s.toks) (o:=.lst (ij xs lo ag)) (fun b cU q=>ed _ q) (bP _) ?_,rfl,q _ (J.bh.fresh (bP _))⟩;exact ⟨cq (Uz xs lo ag) aF,_,0,(r.drop (eO.cZ xs.length 0 lo)).take (eO.cZ xs.length xs.length ag - eO.cZ xs.length 0 lo),hS _ rfl⟩
noncomputable def kz:V->Bool
 | .cg=>true
 | .bw _=>true
 | .int _=>true
 | .str _=>true
 | _=>false
noncomputable def lV:V->V->Bool
 | .cg,.cg=>true
 | .bw a,.bw b=>a == b
 | .bw a,.int b=>(if a then 1 else 0) == b
 | .int a,.bw b=>a == (if b then 1 else 0)
 | .int a,.int b=>a == b
 | .str a,.str b=>a == b
 | _,_=>false
theorem adR {A:Around} {y x:V} (bH:b1 y u) (a8:b1 x v) (Zw:kz y=true) (mx:kz x=true):Zz A s u v (lV y x):=by
 cases y with
 | cg=>
  cases bH;cases x with
  | cg=>cases a8;exact SeqAt.EqAt.same _
  | bw b=>cases a8;exact SeqAt.EqAt.none_bool b
  | int b=>obtain ⟨t,rfl⟩:=a8;exact SeqAt.EqAt.none_int b t
  | str b=>obtain ⟨t,rfl⟩:=a8;exact SeqAt.EqAt.none_str b t
  | _=>exact absurd (show false=true from mx) hh
 | bw a=>
  cases bH;cases x with
  | cg=>cases a8;exact SeqAt.EqAt.bool_none a
  | bw b=>cases a8;exact Ym a b
  | int b=>obtain ⟨t,rfl⟩:=a8;exact SeqAt.EqAt.bool_int a b t
  | str b=>obtain ⟨t,rfl⟩:=a8;exact SeqAt.EqAt.bool_str a b t
  | _=>exact absurd (show false=true from mx) hh
 | int a=>
  obtain ⟨t',rfl⟩:=bH;cases x with
  | cg=>cases a8;exact SeqAt.EqAt.int_none a t'
  | bw b=>cases a8;exact SeqAt.EqAt.int_bool a t' b
  | int b=>obtain ⟨t,rfl⟩:=a8;exact SeqAt.EqAt.int_int a t' b t
  | str b=>obtain ⟨t,rfl⟩:=a8;exact akV a t' b t
  | _=>exact absurd (show false=true from mx) hh
 | str a=>
  obtain ⟨t',rfl⟩:=bH;cases x with
  | cg=>cases a8;exact SeqAt.EqAt.str_none a t'
  | bw b=>cases a8;exact SeqAt.EqAt.str_bool a t' b
  | int b=>obtain ⟨t,rfl⟩:=a8;exact afN a t' b t
  | str b=>obtain ⟨t,rfl⟩:=a8;exact SeqAt.EqAt.str_str a t' b t
  | _=>exact absurd (show false=true from mx) hh
 | _=>exact absurd (show false=true from Zw) hh
noncomputable def k4 (x:V) (u:Value):Bool:=match u with
 | .none=>lV .cg x
 | .bool b=>lV (.bw b) x
 | .int i _=>lV (.int i) x
 | .str z _=>lV (.str z) x
 | _=>false
theorem UY {x y:V} (r:b1 y u) (f:kz y=true):k4 x u=lV y x:=by
 cases y with
 | cg=>cases r;rfl
 | bw b=>cases r;rfl
 | int i=>obtain ⟨t,rfl⟩:=r;rfl
 | str z=>obtain ⟨t,rfl⟩:=r;rfl
 | _=>exact absurd (show false=true from f) hh
theorem xq {x:V}:∀ {xs:List V} {us:List Value},cj xs us->xs.all kz=true->us.any (k4 x)=xs.any fun y=>lV y x
 | _,_,.nil,_=>rfl
 | y :: xs,u :: us,.cons r t,f=>by
  rw [aaS,jX] at f;rw [yV,yV,UY r f.1,xq t f.2]
theorem Go {A:Around} {x:V} (a8:b1 x v) (mx:kz x=true):∀ {xs:List V} {us:List Value},cj xs us->xs.all kz=true->∀ u ∈ us,Zz A s u v (k4 x u)
 | _,_,.nil,_=>fun u b7=>by cases b7
 | y :: xs,u :: us,.cons r t,f=>fun px b7=>by
  rw [aaS,jX] at f;rcases d9.mp b7 with rfl | b7
  .rw [UY r f.1];exact adR r a8 f.1 mx
  .exact Go a8 mx t f.2 px b7
noncomputable def pb (x:V) (xs:List V):Bool:=xs.any fun y=>lV y x
noncomputable def Dm (K:bc) (neg:Bool):fb:=fun x y H Q=>∃ p xs,y=.ref p/\(ak K H p xs\/cS K H p xs)/\kz x=true/\xs.all kz=true/\Q (.bw (if neg then !pb x xs else pb x xs)) H
theorem tD:ik X (compareOp .In) (Dm X.K false):=by
 intro aa s σ H x y v u Q J a8 bH h;obtain ⟨p,xs,rfl,aM,mx,aO,q⟩:=h;cases bH;rcases aM with aM | aM
 .obtain ⟨a4,r,pl,aF⟩:=J.list aM;refine SeqAt.in_listAt (k4 x) pl.isList (fun w hw=>Go a8 mx r aO w (by simpa using hw)) ⟨.bw _,H,J,rfl,?_⟩;rw [show a4.toArray.any (k4 x)=a4.any (k4 x) by simp,xq r aO];exact q
 .obtain ⟨a4,r,pl,aF⟩:=J.tuple aM;refine SeqAt.in_tupleAt (k4 x) pl (fun w hw=>Go a8 mx r aO w (by simpa using hw)) ⟨.bw _,H,J,rfl,?_⟩;rw [show a4.toArray.any (k4 x)=a4.any (k4 x) by simp,xq r aO];exact q
theorem z4:ik X (compareOp .NotIn) (Dm X.K true):=by
 intro aa s σ H x y v u Q J a8 bH h;obtain ⟨p,xs,rfl,aM,mx,aO,q⟩:=h;cases bH;rcases aM with aM | aM
 .obtain ⟨a4,r,pl,aF⟩:=J.list aM;refine SeqAt.notIn_listAt (k4 x) pl.isList (fun w hw=>Go a8 mx r aO w (by simpa using hw)) ⟨.bw _,H,J,rfl,?_⟩;rw [show a4.toArray.any (k4 x)=a4.any (k4 x) by simp,xq r aO];exact q
 .obtain ⟨a4,r,pl,aF⟩:=J.tuple aM;refine SeqAt.notIn_tupleAt (k4 x) pl (fun w hw=>Go a8 mx r aO w (by simpa using hw)) ⟨.bw _,H,J,rfl,?_⟩;rw [show a4.toArray.any (k4 x)=a4.any (k4 x) by simp,xq r aO];exact q
theorem fV:mS X (.builtin "len") (fun xs H Q=>m6 xs fun x=>fv x fun p=>∃ ys,(ak X.K H p ys\/cS X.K H p ys)/\Q (.int ys.length) H):=by
 intro aa s σ H xs us Q J r h;obtain ⟨abK,rfl,i_⟩:=m6.out h;obtain ⟨p,rfl,ys,aM,q⟩:=fv.out i_;obtain ⟨u,rfl,a8⟩:=lR r;cases a8;have aV:=uq;rcases aM with aM | aM
 .obtain ⟨a4,eo,pl,aF⟩:=J.list aM;have hlen:=eo.length;exact Calls.call_len_list pl.isList (by simp only [ft] <;> omega) ⟨.int ys.length,H,J.tok _,⟨s.toks + 1,by rw [ft,hlen]⟩,q⟩
 .obtain ⟨a4,eo,pl,aF⟩:=J.tuple aM;have hlen:=eo.length;exact len_tuple pl (by simp only [ft] <;> omega) ⟨.int ys.length,H,J.tok _,⟨s.toks + 1,by rw [ft,hlen]⟩,q⟩
theorem adO:mS X (.builtin "len") (fun xs H Q=>∃ z,xs=[.str z]/\z.length <= sizeLine/\Q (.int z.length) H):=by
 intro aa s σ H xs us Q J r h;obtain ⟨z,rfl,aF,q⟩:=h;obtain ⟨u,rfl,t,rfl⟩:=lR r;have aV:=uq;exact len_str (by omega) ⟨.int z.length,H,J.tok _,⟨_,rfl⟩,q⟩
theorem aiU:mS X (.type "list") (fun xs H Q=>∃ p ys,xs=[.ref p]/\(ak X.K H p ys\/cS X.K H p ys)/\∀ l,H l=none->Q (.ref l) (upd H l (.lst ys))):=by
 intro aa s σ H xs us Q J r h;obtain ⟨p,ys,rfl,aM,q⟩:=h;obtain ⟨u,rfl,a8⟩:=lR r;cases a8;have fin:∀ (a4:List Value),cj ys a4->ys.length <= sizeLine->∀ (h':Heap) (c':Nat),(∀ b eP,s.heap.get? b=some eP->h'.get? b=some eP) ->
   h'.get? s.heap.objs.size=some { cls:=.type "list",dict:=none,data:=.seq a4.toArray c',slots:=#[] }->f5 X aa σ Q (.ref s.heap.objs.size) { s with heap:=h' }:=fun a4 eo aF h' c' bj e=>
  ⟨.ref s.heap.objs.size,_,J.laid (t':=s.toks) bj (bP _) (show dS X.prog X.w _ h' _ (.lst ys) from ⟨aF,a4,c',eo,e⟩),rfl,q _ (J.bh.fresh (bP _))⟩
 rcases aM with aM | aM
 .obtain ⟨a4,eo,pl,aF⟩:=J.list aM;have hlen:=eo.length;obtain ⟨o,aW,ar,n,hd⟩:=pl.isList;exact call_list_seq p (.inl rfl) aW ar hd (fun h' c' bj e=>fin a4 eo aF h' c' bj e) (by simp only [ft] <;> omega)
 .obtain ⟨a4,eo,pl,aF⟩:=J.tuple aM;have hlen:=eo.length;obtain ⟨o,aW,ar,n,hd⟩:=pl;exact call_list_seq p (.inr rfl) aW ar hd (fun h' c' bj e=>fin a4 eo aF h' c' bj e) (by simp only [ft] <;> omega)
def Bs (K:bc) (T:String) (x:V) (H:au):Prop:=match x with
 | .str _=>T = "str"
 | .int _=>T = "int"
 | .ref p=>(T = "list" /\ ∃ xs,ak K H p xs)\/(T = "tuple" /\ ∃ o,K.lookup p=some o/\o.cls=.type "tuple" /\ o.dict=none) \/
   (T = "dict" /\ ((∃ aA,H p=some (.di aA))\/∃ aA,H p=some (.fX aA)))\/(T = "set" /\ ∃ S n,H p=some (.set S n))
 | _=>False
theorem S' {x:V} (J:Inv X aa σ H s) (r:b1 x v) (ty:Bs X.K T x H) :
  s.TypeIs v T/\∀ a,v=.ref a->∃ cU,s.heap.get? a=some cU/\cU.dict=none:=by
 cases x with
 | str z=>
  obtain ⟨t,rfl⟩:=r;cases (show T = "str" from ty);exact ⟨typeIs_str s z t,fun _ e=>nomatch e⟩
 | int i=>
  obtain ⟨t,rfl⟩:=r;cases (show T = "int" from ty);exact ⟨typeIs_int s i t,fun _ e=>nomatch e⟩
 | ref p=>
  cases r;rcases ty with ⟨rfl,xs,aM⟩ | ⟨rfl,o,aE,ar,hd⟩ | ⟨rfl,aE⟩ | ⟨rfl,S,n,aE⟩
  .obtain ⟨a4,_,pl,_⟩:=J.list aM;refine ⟨pl.isList.typeIs,fun a e=>?_⟩;cases e;obtain ⟨o,n,e,c,hd,_⟩:=pl;exact ⟨o,e,hd⟩
  .refine ⟨⟨o,J.eg p o aE,ar⟩,fun a e=>?_⟩;cases e;exact ⟨o,J.eg _ o aE,hd⟩
  .have z:∃ o,s.heap.get? p=some o/\o.ExactDict:=by
    rcases aE with ⟨aA,aE⟩ | ⟨aA,aE⟩
    .obtain ⟨_,_,_,_,o,_,_,e,ex,_⟩:=J.bh p _ aE;exact ⟨o,e,ex⟩
    .obtain ⟨_,_,_,_,o,_,_,e,ex,_⟩:=J.bh p _ aE;exact ⟨o,e,ex⟩
   obtain ⟨o,e,ex⟩:=z;refine ⟨⟨o,e,ex.1⟩,fun a aC=>?_⟩;cases aC;exact ⟨o,e,ex.2.1⟩
  .obtain ⟨o,_,_,_,e,ex,_⟩:=J.bh p _ aE;refine ⟨⟨o,e,ex.1⟩,fun a aC=>?_⟩;cases aC;exact ⟨o,e,ex.2.1⟩
 | _=>exact ji ty
noncomputable def LP (K:bc) (T:String) (r:V->List V->au->cJ->Prop) (to:TE):TE:=fun σ H Q=>to σ H fun x H1=>Bs K T x H1/\r x [] H1 Q
noncomputable def FY (K:bc) (T:String) (r:V->List V->au->cJ->Prop) (to:TE) (t:fc):TE:=fun σ H Q=>to σ H fun x H1=>Bs K T x H1/\t σ H1 fun xs az=>r x xs az Q
variable {o e:Expr} {aT:List Expr} {to:TE} {t:fc} {name:Str} {fL iX:Pos} {T id:String} {r:V->List V->au->cJ->Prop}
theorem Ld (gf:PlainAttrs T) (slot:Slot T name id) (Fv:typeOf (.builtin id)=pure (.type "method_descriptor")) (hm:sd X id r) (aW:bz X o to)
  (Ke:attributeBase o name X.env (eval o X.env)=eval o X.env:=by rfl) (M1:(fL.endLine == iX.line)=true:=by rfl):bz X (.Call (.Attribute o name fL) [] [] iX) (LP X.K T r to):=by
 intro aa s σ H Q J h;refine wpAny_Call_method0_late Ke M1 (bL (aW aa s σ H _ J h) fun v s1 cL=>?_);obtain ⟨x,H1,aP,cG,ty,bT⟩:=cL;obtain ⟨ab,ai⟩:=S' aP cG ty;exact ⟨T,id,gf,slot,Fv,ab,ai,aew rfl (PySem.evalArgs_none (hm aa s1 σ H1 x [] v [] Q aP cG .nil bT))⟩
theorem ef (gf:PlainAttrs T) (slot:Slot T name id) (Fv:typeOf (.builtin id)=pure (.type "method_descriptor")) (hm:sd X id r) (aW:bz X o to) (aK:gg X (e :: aT) t)
  (Ke:attributeBase o name X.env (eval o X.env)=eval o X.env:=by rfl)
  (akG:((backTo iX (starEach (e :: aT) X.env)).all (fun x=>!x.1) && (backToKw iX (keywordEach [] X.env)).all (fun x=>x.1.isSome)
   && decide ((e :: aT).length + ([]:List Keyword).length + (if ([]:List Keyword).isEmpty then 0 else 1) < 30))=true:=by rfl)
  (M1:(fL.endLine == iX.line)=true:=by rfl) (aw:starEach (e :: aT) X.env=(false,eval e X.env) :: starEach aT X.env:=by rfl) (hplain:(backTo iX (starEach aT X.env)).any (·.1)=false:=by rfl) :
  bz X (.Call (.Attribute o name fL) (e :: aT) [] iX) (FY X.K T r to t):=by
 intro aa s σ H Q J h;refine wpAny_Call_method_late Ke akG M1 rfl (bL (aW aa s σ H _ J h) fun v s1 cL=>?_);obtain ⟨x,H1,aP,cG,ty,bT⟩:=cL;obtain ⟨ab,ai⟩:=S' aP cG ty;refine ⟨T,id,gf,slot,Fv,ab,ai,?_⟩;have h3:=aK iX aa s1 σ H1 _ aP bT;rw [aw] at h3 ⊢;refine aew (by show (false || (backTo iX (starEach aT X.env)).any (·.1))=false;rw [hplain] <;> rfl) (Calls.evalArgs_plain ?_);exact bL h3 fun us s2 ⟨vs,az,bK,e3,d5⟩=>hm aa s2 σ az x vs v us Q bK cG e3 d5
end
def DN (X:a0) (id:String) (r:V->List V->au->cJ->Prop):Prop:=
 ∀ (aa:List (Addr × Obj)) (s:Shared) (σ:St) (H:au) (x:V) (xs:List V) (v:Value) (us:List Value) (Q:cJ),Inv X aa σ H s->b1 x v->cj xs us->r x xs H Q ->
  wpAny (model X.prog X.w) X.A (call (.builtin id) (v :: us)) (f5 X aa σ Q) X.dz s
theorem cj.one:∀ {x:V} {us:List Value},cj [x] us->∃ u,us=[u]/\b1 x u
 | _,_,.cons r .nil=>⟨_,rfl,r⟩
theorem cj.zero:∀ {us:List Value},cj [] us->us=[]
 | _,.nil=>rfl
theorem cj.dropLast (h:cj xs us):cj xs.dropLast us.dropLast:=by
 induction h with
 | nil=>exact .nil
 | cons r t c2=>
  cases t with
  | nil=>exact .nil
  | cons q t'=>exact .cons r c2
theorem aa3 (l:List α):l.eraseIdx (l.length - 1)=l.dropLast:=by
 induction l with
 | nil=>rfl
 | cons a r c2=>
  cases r with
  | nil=>rfl
  | cons b r=>
   have e:(a :: b :: r).length - 1=((b :: r).length - 1) + 1:=by
    have ab:(a :: b :: r).length=r.length + 2:=rfl;have ai:(b :: r).length=r.length + 1:=rfl;omega
   rw [e,List.eraseIdx_cons_succ,c2]
   all_goals rfl
section
variable {X:a0} {aa:List (Addr × Obj)} {σ:St} {H:au} {s:Shared} {l b:Addr} {xs ys zs:List V}
theorem Inv.BD {a4 its':List Value} (J:Inv X aa σ H s) (jC:H l=some (.lst xs))
  (e:s.heap.get? l=some { cls:=.type "list",data:=.seq a4.toArray n }) (hf:f a4.toArray=its'.toArray) (aG:cj ys its') (aF:ys.length <= sizeLine) :
  Inv X aa σ (upd H l (.lst ys)) { s with heap:=s.heap.update l (xt f),toks:=t' }:=by
 have q:=PySem.IsL.update e f;rw [hf] at q;refine J.write (x:=l) (e:=l) (by rw [jC];exact trivial) (.inl rfl) (fun gv u ae b7=>(lL s.heap (xt f) (dF ae)).trans b7) ⟨_,q⟩ ?_;exact ⟨aF,its',_,aG,q⟩
theorem Inv.aaW {a4:List Value} (J:Inv X aa σ H s) (aG:cj ys a4) (aF:ys.length <= sizeLine) :
  Inv X aa σ (upd H s.heap.objs.size (.lst ys)) { s with heap:=s.heap.push { cls:=.type "list",data:=.seq a4.toArray },toks:=t' }:=
 J.laid (fun _ _ q=>ed _ q) (bP _) ⟨aF,a4,0,aG,hS _ rfl⟩
theorem Inv.fresh (J:Inv X aa σ H s):H s.heap.objs.size=none:=J.bh.fresh (bP _)
theorem Inv.sA (J:Inv X aa σ H s) (jC:H l=some (.lst xs)):xs.length <= sizeLine/\∃ (a4:List Value) (n:Nat),cj xs a4/\xs.length=a4.length/\s.heap.get? l=some { cls:=.type "list",data:=.seq a4.toArray n }:=by
 obtain ⟨z,a4,n,r,e⟩:=J.bh l _ jC;exact ⟨z,a4,n,r,r.length,e⟩
theorem adD (h:n <= sizeLine):V3 n=false:=by
 unfold V3;exact decide_eq_false (by omega)
end
section
variable {X:a0}
noncomputable def E4:V->List V->au->cJ->Prop:=fun x vs H Q=>fv x fun l=>m6 vs fun y=>∃ xs,H l=some (.lst xs)/\xs.length < sizeLine/\Q .cg (upd H l (.lst (xs ++ [y])))
theorem hY:DN X "list.append" E4:=by
 intro aa s σ H x vs v us Q J a8 cw h;obtain ⟨l,rfl,i_⟩:=fv.out h;obtain ⟨y,rfl,xs,jC,aF,q⟩:=m6.out i_;cases a8;obtain ⟨u,rfl,ej⟩:=cw.one;obtain ⟨z,a4,n,r,aD,e⟩:=J.sA jC;refine call_meets h2 ⟨_,e,rfl⟩ F.entry_list_append (F.args_list_append_2 _ _) (PySem.list_append l a4.toArray n u (by rw [ft];omega)) ⟨e,?_⟩;refine ⟨.cg,_,J.BD (its':=a4 ++ [u]) jC e (by simp) (r.append (.cons ej .nil)) ?_,rfl,q⟩;rw [cC,uK];omega
noncomputable def Hq:V->List V->au->cJ->Prop:=fun x vs H Q=>∃ l b xs zs,x=.ref l/\vs=[.ref b]/\H l=some (.lst xs)/\H b=some (.lst zs)/\xs.length + zs.length <= sizeLine/\Q .cg (upd H l (.lst (xs ++ zs)))
theorem pX:DN X "list.extend" Hq:=by
 intro aa s σ H x vs v us Q J a8 cw h;obtain ⟨l,b,xs,zs,rfl,rfl,jC,iv,aF,q⟩:=h;cases a8;obtain ⟨u,rfl,ej⟩:=cw.one;cases ej;obtain ⟨z,a4,n,r,aD,e⟩:=J.sA jC;obtain ⟨dH,tB,cv,e3,pa,aC⟩:=J.sA iv;have hsz:a4.toArray.size + tB.toArray.size <= sizeLine:=by rw [ft,ft];omega
 have ajV:¬ (!a4.toArray.isEmpty && V3 (a4.toArray.size + tB.toArray.size))=true:=by
  rw [adD hsz,abJ];exact hh
 refine call_meets qK ⟨_,e,rfl⟩ F.entry_list_extend (F.args_list_extend_2 _ _)
  (AutoSeq1.list_extend_list_list_0 l a4.toArray n b tB.toArray cv ajV (by rw [ft];omega) (by omega)) ⟨e,aC,?_⟩
 refine ⟨.cg,_,J.BD (its':=a4 ++ tB) jC e (by simp) (r.append e3) ?_,rfl,q⟩;rw [cC];omega
noncomputable def IX:V->List V->au->cJ->Prop:=fun x vs H Q=>∃ l xs y,x=.ref l/\vs=[]/\H l=some (.lst xs)/\xs[xs.length - 1]? = some y/\Q y (upd H l (.lst xs.dropLast))
theorem ahp:DN X "list.pop" IX:=by
 intro aa s σ H x vs v us Q J a8 cw h;obtain ⟨l,xs,y,rfl,rfl,jC,aU,q⟩:=h;cases a8;have aca:=cw.zero;subst aca;obtain ⟨z,a4,n,r,aD,e⟩:=J.sA jC;obtain ⟨u,b7,ej⟩:=r.get aU;have aaG:a4.toArray[a4.toArray.size - 1]? = some u:=by
  show a4.toArray[a4.length - 1]? = some u;rw [<- aly,<- aD];exact b7
 refine call_meets XG ⟨_,e,rfl⟩ F.entry_list_pop (F.args_list_pop_1 _) (MeetsSeq.list_pop_last l a4.toArray n u aaG (by rw [ft];omega)) ⟨e,?_⟩;refine ⟨y,_,J.BD (its':=a4.dropLast) jC e ?_ r.dropLast ?_,ej,q⟩
 .show a4.toArray.eraseIdxIfInBounds (a4.toArray.size - 1)=a4.dropLast.toArray;rw [ft,List.eraseIdxIfInBounds_toArray,aa3]
 .rw [List.length_dropLast];omega
noncomputable def FZ:fb:=fun x y H Q=>∃ l b xs zs,x=.ref l/\y=.ref b/\H l=some (.lst xs)/\H b=some (.lst zs)/\xs.length + zs.length <= sizeLine/\∀ p,H p=none->Q (.ref p) (upd H p (.lst (xs ++ zs)))
theorem BX:ik X (binaryOp .Add) FZ:=by
 intro aa s σ H x y v u Q J a8 bH h;obtain ⟨l,b,xs,zs,rfl,rfl,jC,iv,aF,q⟩:=h;cases a8;cases bH;obtain ⟨z,a4,n,r,aD,e⟩:=J.sA jC;obtain ⟨dH,tB,cv,e3,pa,aC⟩:=J.sA iv;refine PySem.P.add_list e aC ?_ (by rw [ft,ft];omega);have eb:a4.toArray ++ tB.toArray=(a4 ++ tB).toArray:=by simp
 rw [eb];exact ⟨.ref _,_,J.aaW (t':=s.toks) (r.append e3) (by rw [cC];omega),rfl,q _ J.fresh⟩
end
section
variable {prog:Program} {w:World} {A:Around} {E:Value->Shared->Prop} {s:Shared}
end
section
variable {X:a0}
end
section
variable {fC:Type} [DecidableEq fC]
noncomputable def dn (aA:List (fC × V)) (k:fC):Option V:=(aA.find? fun dM=>decide (dM.1=k)).map (·.2)
noncomputable def fB (aA:List (fC × V)) (k:fC) (v:V):List (fC × V):=
 if (aA.any fun dM=>decide (dM.1=k))=true then aA.map (fun dM=>if dM.1=k then (dM.1,v) else dM) else aA ++ [(k,v)]
theorem oF {p:fC × V} {k:fC} (e:p.1=k):dn (p :: r) k=some p.2:=by simp [dn,wo,e]
theorem n1 {p:fC × V} {k:fC} (e:¬ p.1=k):dn (p :: r) k=dn r k:=by simp [dn,wo,e]
theorem wN (k:fC):∀ aA:List (fC × V),(aA.any fun dM=>decide (dM.1=k))=(dn aA k).isSome
 | []=>rfl
 | p :: r=>by
  rw [yV];by_cases e:p.1=k
  .simp only [oF e,decide_eq_true e,t4,Option.isSome_some]
  .rw [n1 e,decide_eq_false e,pd];exact wN k r
theorem Ub (k j:fC) (y:V):∀ aA:List (fC × V),dn (aA.map fun dM=>if dM.1=k then (dM.1,y) else dM) j=(dn aA j).map fun x=>if j=k then y else x
 | []=>rfl
 | p :: r=>by
  have c2:=Ub k j y r;rw [eB];by_cases h:p.1=k
  .rw [if_pos h];by_cases e:p.1=j
   .rw [oF (p:=(p.1,y)) e,oF e,D',if_pos (e.symm.trans h)]
   .rw [n1 (p:=(p.1,y)) e,n1 e,c2]
  .rw [if_neg h];by_cases e:p.1=j
   .rw [oF (p:=p) e,oF e,D',if_neg (fun z=>h (e.trans z))]
   .rw [n1 (p:=p) e,n1 e,c2]
theorem PC (k j:fC) (y:V):∀ aA:List (fC × V),dn aA k=none->dn (aA ++ [(k,y)]) j=if j=k then some y else dn aA j
 | [],_=>by
  by_cases e:k=j
  .rw [if_pos e.symm];exact oF (p:=(k,y)) e
  .rw [if_neg (fun z=>e z.symm)];exact n1 (p:=(k,y)) e
 | p :: r,aV=>by
  rw [tp];have aE:¬ p.1=k:=fun z=>by rw [oF z] at aV;cases aV
  rw [n1 aE] at aV;have c2:=PC k j y r aV;by_cases e:p.1=j
  .rw [oF e,oF e,if_neg (fun z=>aE (e.trans z))]
  .rw [n1 e,n1 e,c2]
theorem N4 (aA:List (fC × V)) (k j:fC) (y:V):dn (fB aA k y) j=if j=k then some y else dn aA j:=by
 unfold fB;by_cases a:(aA.any fun dM=>decide (dM.1=k))=true
 .rw [if_pos a,Ub];rw [wN] at a;by_cases e:j=k
  .obtain ⟨x,af⟩:=aah.mp a;rw [if_pos e,e,af,D',if_pos rfl]
  .rw [if_neg e];cases dn aA j with
   | none=>rfl
   | some x=>rw [D',if_neg e]
 .rw [if_neg a];refine PC k j y aA ?_;rw [wN] at a;cases q:dn aA k with
  | none=>rfl
  | some x=>rw [q] at a;exact (a rfl).elim
theorem GZ (aA:List (fC × V)) (k:fC) (v:V):(fB aA k v).length <= aA.length + 1:=by
 unfold fB;split
 .rw [aR];omega
 .rw [cC,fQ,x2];omega
theorem HB {k:fC} (v:V) (h:dn aA k=none):fB aA k v=aA ++ [(k,v)]:=by
 unfold fB;rw [wN,h];exact if_neg (by decide)
theorem iO.MD (r:iO o u):o.isSome=u.isSome:=by
 cases o with
 | none=>cases u with
  | none=>rfl
  | some _=>exact (show False from r).elim
 | some _=>cases u with
  | none=>exact (show False from r).elim
  | some _=>rfl
theorem gm.val (r:gm aA vs) (k:fC):iO (dn aA k) (valueAt vs k):=by
 unfold gm at r
 induction r with
 | nil=>exact hu
 | @cons p q ps qs h t c2=>
  obtain ⟨ab,ai⟩:=h;by_cases e:p.1=k
  .have bW:q.1=k:=ab.symm.trans e;have b:valueAt (q :: qs) k=some q.2:=by simp [valueAt,wo,bW]
   rw [oF e,b];exact ai
  .have bW:¬ q.1=k:=fun z=>e (ab.trans z)
   have b:valueAt (q :: qs) k=valueAt qs k:=by simp [valueAt,wo,bW]
   rw [n1 e,b];exact c2
theorem gm.any (r:gm aA vs) (k:fC):(aA.any fun dM=>decide (dM.1=k))=vs.any fun dM=>decide (dM.1=k):=by
 unfold gm at r
 induction r with
 | nil=>rfl
 | cons h t c2=>rw [yV,yV,c2,h.1]
theorem gm.I' (r:gm aA vs) (k:fC) (bH:b1 y u) :
  gm (aA.map fun dM=>if dM.1=k then (dM.1,y) else dM) (vs.map fun dM=>if dM.1=k then (dM.1,u) else dM):=by
 unfold gm at r ⊢
 induction r with
 | nil=>exact .nil
 | @cons p q ps qs h t c2=>
  rw [eB,eB];refine .cons ?_ c2;obtain ⟨ab,ai⟩:=h;by_cases e:p.1=k
  .rw [if_pos e,if_pos (ab.symm.trans e)];exact ⟨ab,bH⟩
  .rw [if_neg e,if_neg (fun z=>e (ab.trans z))];exact ⟨ab,ai⟩
theorem gm.put (r:gm aA vs) (k:fC) (bH:b1 y u):gm (fB aA k y) (stored vs k u):=by
 unfold fB stored;rw [r.any k];by_cases e:(vs.any fun dM=>decide (dM.1=k))=true
 .rw [if_pos e,if_pos e];exact r.I' k bH
 .rw [if_neg e,if_neg e];exact VF r ⟨rfl,bH⟩
theorem gm.length (r:gm aA vs):aA.length=vs.length:=Kj r
end
theorem w7 {w:World} {k:Key} (r:b1 (et k) u):(j_ P w).is k u=true:=by
 cases k with
 | inl i=>obtain ⟨t,e⟩:=(show ∃ t,u=nW i t from r);subst e;exact aiq P w i t
 | inr x=>obtain ⟨t,e⟩:=(show ∃ t,u=sM x t from r);subst e;exact ajJ P w x t
theorem Pa {w:World}:∀ {b':List Key} {us:List Value},cj (b'.map et) us->ItemsAre (j_ P w) b' us
 | [],_,r=>by rw [pH] at r;cases r;exact .nil
 | k :: b',_,r=>by
  rw [eB] at r;cases r with
  | cons h t=>exact .cons (w7 h) (Pa t)
noncomputable abbrev KT (H:au):List (List Key × V)->List (List Key × Addr × Value)->Prop:=Paired fun p q=>p.1=q.1/\H q.2.1=some (.tup (p.1.map et))/\b1 p.2 q.2.2
theorem KT.val (r:KT H aA xs) (k:List Key):iO (dn aA k) ((atKey xs k).map (·.2)):=by
 induction r with
 | nil=>exact hu
 | @cons p q ps qs h t c2=>
  obtain ⟨ab,_,ai⟩:=h;by_cases e:p.1=k
  .have bW:q.1=k:=ab.symm.trans e;have b:atKey (q :: qs) k=some q.2:=by simp [atKey,wo,bW]
   rw [oF e,b];exact ai
  .have bW:¬ q.1=k:=fun z=>e (ab.trans z)
   have b:atKey (q :: qs) k=atKey qs k:=by simp [atKey,wo,bW]
   rw [n1 e,b];exact c2
theorem KT.I' (r:KT H aA xs) (k:List Key) (bH:b1 y u) :
  KT H (aA.map fun dM=>if dM.1=k then (dM.1,y) else dM) (xs.map (putAt k u)):=by
 induction r with
 | nil=>exact .nil
 | @cons p q ps qs h t c2=>
  rw [eB,eB];refine .cons ?_ c2;obtain ⟨ab,ai,a5⟩:=h;unfold putAt;by_cases e:p.1=k
  .rw [if_pos e,if_pos (ab.symm.trans e)];exact ⟨ab,ai,bH⟩
  .rw [if_neg e,if_neg (fun z=>e (ab.trans z))];exact ⟨ab,ai,a5⟩
theorem KT.put (r:KT H aA xs) (k:List Key) (ae:H b=some (.tup (k.map et))) (bH:b1 y u) :
  KT H (fB aA k y) (storedH xs k b u):=by
 have e:(aA.any fun dM=>decide (dM.1=k))=(atKey xs k).isSome:=by
  rw [wN,(r.val k).MD,Xe]
 unfold fB storedH;rw [e];by_cases q:(atKey xs k).isSome=true
 .rw [if_pos q,if_pos q];exact r.I' k bH
 .rw [if_neg q,if_neg q];exact VF r ⟨rfl,ae,bH⟩
theorem KT.keeps (r:KT H aA xs) (dQ:∀ b ys,H b=some (.tup ys)->I b=some (.tup ys)):KT I aA xs:=
 Paired.q1 r fun _ _ z=>⟨z.1,dQ _ _ z.2.1,z.2.2⟩
section
variable {P:Program} {w:World} {H:au} {h:Heap} {a:Addr}
theorem Um (ok:eM P w H h) (e:nq H a u):dS P w H h a u:=e.ok ok
theorem Co (ok:eM P w H h) (e:nq H a (.di aA)):aA.length <= sizeLine/\(a == sysModules)=false/\∃ vs,gm aA vs/\h.DictOf (j_ P w) a vs:=
 show dS P w H h a (.di aA) from Um ok e
theorem R' (ok:eM P w H h) (e:H a=some (.di aA)):aA.length <= sizeLine/\(a == sysModules)=false/\∃ vs,gm aA vs/\h.DictOf (j_ P w) a vs:=Co ok (.inl e)
theorem yu {b':List Key} (ok:eM P w H h) (e:H a=some (.tup (b'.map et))):(tupleKind (j_ P w)).is h b' a:=by
 obtain ⟨_,a4,r,o,ab,ai,n,a5⟩:=(show dS P w H h a (.tup (b'.map et)) from ok a _ e);exact ⟨o,a4.toArray,n,ab,ai,a5,by simpa using Pa r⟩
theorem Bv (ok:eM P w H h) (e:nq H a (.fX aA)):aA.length <= sizeLine/\(a == sysModules)=false /\
  ∃ xs,KT H aA xs/\h.DictOfH (tupleKind (j_ P w)) a xs:=by
 obtain ⟨z,y,xs,r,o,aT,cE,ab,ai,a5,bQ,du⟩:=(show dS P w H h a (.fX aA) from Um ok e);refine ⟨z,y,xs,r,o,aT,cE,ab,ai,a5,bQ,fun x af=>?_,du⟩;have all:∀ {l:List (List Key × V)} {m:List (List Key × Addr × Value)},KT H l m->∀ x ∈ m,(tupleKind (j_ P w)).is h x.1 x.2.1:=by
  intro l m q
  induction q with
  | nil=>intro x af;exact nomatch af
  | @cons p q ps qs aM t c2=>
   intro x af;rcases d9.mp af with e | af
   .subst e;exact yu ok (by rw [<- aM.1];exact aM.2.1)
   .exact c2 x af
 exact all r x af
theorem RV (ok:eM P w H h) (e:H a=some (.fX aA)):aA.length <= sizeLine/\(a == sysModules)=false /\
  ∃ xs,KT H aA xs/\h.DictOfH (tupleKind (j_ P w)) a xs:=Bv ok (.inl e)
end
def iE (H:au) (a:Addr) (y:V) (r:Option V):Prop:=
 (∃ aA k,nq H a (.di aA)/\y=et k/\r=dn aA k)\/∃ aA k b,nq H a (.fX aA)/\y=.ref b/\H b=some (.tup (k.map et))/\r=dn aA k
def qv (H:au) (a:Addr) (y v:V) (I:au):Prop:=
 (∃ aA k,H a=some (.di aA)/\y=et k/\aA.length < sizeLine/\I=upd H a (.di (fB aA k v))) \/
 ∃ aA k b,H a=some (.fX aA)/\y=.ref b/\H b=some (.tup (k.map et))/\aA.length < sizeLine/\I=upd H a (.fX (fB aA k v))
theorem iE.k {k:Key} (e:H a=some (.di aA)):iE H a (et k) (dn aA k):=.inl ⟨aA,k,.inl e,rfl,rfl⟩
theorem qv.k {k:Key} (e:H a=some (.di aA)) (aD:aA.length < sizeLine):qv H a (et k) v (upd H a (.di (fB aA k v))):=.inl ⟨aA,k,e,rfl,aD,rfl⟩
theorem qv.t {k:List Key} (e:H a=some (.fX aA)) (eA:H b=some (.tup (k.map et))) (aD:aA.length < sizeLine) :
  qv H a (.ref b) v (upd H a (.fX (fB aA k v))):=.inr ⟨aA,k,b,e,rfl,eA,aD,rfl⟩
section
variable {X:a0} {aa:List (Addr × Obj)} {σ:St} {H:au} {s:Shared} {a:Addr} {y v:V} {u r:Value} {o:Option V} {A:Around} {E:Value->Shared->Prop}
theorem Inv.big (J:Inv X aa σ H s):sysModules < s.heap.objs.size:=by
 have h:mainGlobals < s.heap.objs.size:=(J.mod.glob.keeps J.cI).lt;exact Uk (by decide) h
theorem alG (b7:A.units + 1 < cLine) (J:Inv X aa σ H s) (g:iE H a y (some v)) (bH:b1 y u) (h:∀ eH s',Inv X aa σ H s'->b1 v eH->Q eH s') :
  wpAny (model X.prog X.w) A (getItem (.ref a) u) Q E s:=by
 rcases g with ⟨aA,k,e,ih,l⟩ | ⟨aA,k,b,e,ih,eA,l⟩
 .subst ih;obtain ⟨z,hd,vs,rel,eR⟩:=Co J.bh e;obtain ⟨eH,hw,h_⟩:=iO.some_of (v:=v) (o:=valueAt vs k) (by rw [l];exact rel.val k);exact wpAny_getItem_of (w7 bH) eR.mapOf hw (h eH _ (J.tok _) h_)
 .subst ih;cases (show u=dU b from bH);obtain ⟨z,hd,xs,rel,eR⟩:=Bv J.bh e;obtain ⟨eH,hw,h_⟩:=iO.some_of (v:=v) (o:=(atKey xs k).map (·.2)) (by rw [l];exact rel.val k);obtain ⟨p,aq,fm⟩:=B2.mp hw;refine wpAny_getItem_heap (tupleKind_room_in1 b7) (yu J.bh eA) eR aq ?_;rw [fm];exact h eH _ (J.tok _) h_
theorem ael (b7:A.units + 1 < cLine) (J:Inv X aa σ H s) (g:iE H a y o) (bH:b1 y u) (h:∀ s',Inv X aa σ H s'->Q (.bool (!o.isSome)) s') :
  wpAny (model X.prog X.w) A (compareOp .NotIn u (.ref a)) Q E s:=by
 rcases g with ⟨aA,k,e,ih,l⟩ | ⟨aA,k,b,e,ih,eA,l⟩
 .subst ih;obtain ⟨z,hd,vs,rel,eR⟩:=Co J.bh e;refine wpAny_notIn_of (w7 bH) hd eR.mapOf ?_;rw [<- (rel.val k).MD,<- l];exact h _ (J.tok _)
 .subst ih;cases (show u=dU b from bH);obtain ⟨z,hd,xs,rel,eR⟩:=Bv J.bh e;refine wpAny_notIn_heap (tupleKind_room_in1 b7) (yu J.bh eA) hd eR ?_;have q:=(rel.val k).MD;rw [Xe] at q;rw [<- q,<- l];exact h _ (J.tok _)
theorem K' (J:Inv X aa σ H s) (fi:nK (H a)) (aw:zm a s.heap h') (he:∃ q,h'.get? a=some q) (new:dS X.prog X.w (upd H a cU) h' a cU) :
  Inv X aa σ (upd H a cU) { s with heap:=h',toks:=t' }:=
 J.write (x:=a) (e:=a) fi (.inl rfl) (fun b q ae z=>(aw.2 b ae).trans z) he new
theorem UU {w:World} (z:aA.length <= sizeLine) (hd:(a == sysModules)=false) (rel:gm aA vs) (eR:h'.DictOf (j_ P w) a vs) :
  dS P w I h' a (.di aA):=⟨z,hd,vs,rel,eR⟩
theorem Rh (b7:A.units + 1 < cLine) (J:Inv X aa σ H s) (g:qv H a y v I) (bH:b1 y u) (cw:b1 v r) (h:∀ s',Inv X aa σ I s'->Q () s') :
  wpAny (model X.prog X.w) A (setItem (.ref a) u r) Q E s:=by
 rcases g with ⟨aA,k,e,ih,l,xA⟩ | ⟨aA,k,b,e,ih,eA,l,xA⟩
 .subst ih xA;obtain ⟨z,hd,vs,rel,eR⟩:=R' J.bh e;have aF:vs.length <= sizeLine:=by rw [<- rel.length];exact z
  have aD:(fB aA k v).length <= sizeLine:=by have:=GZ aA k v;omega
  refine wpAny_setItem_pairs (hsz:=aF) (w7 bH) eR fun h' sh aw=>h _ ?_
  have he:∃ q,h'.get? a=some q:=let ⟨q,_,_,aM,_⟩:=sh;⟨q,aM⟩;exact K' J (by rw [e];exact hu) aw he (UU aD hd (rel.put k cw) sh)
 .subst ih xA;cases (show u=dU b from bH);obtain ⟨z,hd,xs,rel,eR⟩:=RV J.bh e;have aF:xs.length <= sizeLine:=by rw [<- Kj rel];exact z
  have aD:(fB aA k v).length <= sizeLine:=by have:=GZ aA k v;omega
  refine wpAny_setItem_heap (hsz:=aF) (tupleKind_room_in1 b7) (yu J.bh eA) eR fun h' sh aw=>h _ ?_
  obtain ⟨q,aT,cE,aM,ai,a5,bQ,_,du⟩:=sh;refine K' J (by rw [e];exact hu) aw ⟨q,aM⟩ ⟨aD,hd,_,(rel.put k eA cw).keeps fun c ys dR=>?_,q,aT,cE,aM,ai,a5,bQ,du⟩;rw [aZ (eI dR e (fun z=>nomatch z))];exact dR
end
section
variable {X:a0} {aa:List (Addr × Obj)} {σ:St} {H:au} {s:Shared} {a:Addr} {aA:List (Key × V)} {k:Key} {u:Value} {A:Around} {E:Value->Shared->Prop}
end
def I3 (i:Expr):Prop:=∀ fO pS,subscripted i false fO pS=operate [fO,pS] (getItem fO pS)
theorem U3 {prog:Program} {w:World} {A:Around} {E:Value->Shared->Prop} {s:Shared} {env:Env} {value slice:Expr} {pos:Pos} {T id:String} {Q:Value->Shared->Prop}
  (aD:typeLookup (.type T) "__getitem__"=pure (some (.builtin id))) (aw:I3 slice)
  (h:wpAny (model prog w) A (eval value env) (fun o dh=>wpAny (model prog w) A (eval slice env) (fun i d3=>d3.TypeIs o T/\wpAny (model prog w) A (getItem o i) Q E d3) E dh) E s) :
  wpAny (model prog w) A (eval (.Subscript value slice pos) env) Q E s:=by
 refine Subscript_ (wpAny_mono h (fun o dh h₁=>wpAny_mono h₁ (fun i d3 we=>?_) fun _ _ x=>x) fun _ _ x=>x);obtain ⟨fa,we⟩:=we;unfold subscriptTail;refine wpAny_bind ?_;rw [getitemInPython_of_ne fa.not_modules];refine wpAny_bind (wpAny_specialOf fa aD ?_);have fin:wpAny (model prog w) A (subscripted slice false o i) (fun r nx=>wpAny (model prog w) A (letTemporaryGo value o r >>= fun _=>pure r) Q E nx) E d3:=by
  rw [aw o i];exact wpAny_operating (wpAny_mono we (fun r nx By=>wpAny_bind (wpAny_letTemporaryGo (wpAny_pure By))) fun _ _ x=>x)
 first
  | exact wpAny_pure (wpAny_bind fin)
  | exact wpAny_bind (wpAny_pure (wpAny_bind fin))
  | exact wpAny_bind fin
theorem Zl (J:Inv X aa σ H s) (g:iE H a y o):s.TypeIs (.ref a) "dict" := by
 rcases g with ⟨aA,k,e,_,_⟩ | ⟨aA,k,b,e,_,_,_⟩
 .obtain ⟨_,_,vs,_,eR⟩:=Co J.bh e;exact eR.typeIs
 .obtain ⟨_,_,xs,_,eR⟩:=Bv J.bh e;exact eR.typeIs
noncomputable def Ka (h4 ty:TE):TE:=fun σ H Q=>h4 σ H fun x H1=>ty σ H1 fun y az=>fv x fun a=>∃ v,iE az a y (some v)/\Q v az
noncomputable def LX (ty h4:TE):TE:=fun σ H Q=>ty σ H fun y H1=>h4 σ H1 fun x az=>fv x fun a=>∃ o,iE az a y o/\Q (.bw (!o.isSome)) az
noncomputable def ID (h4 ty e5:TE):ek:=fun D σ H=>e5 σ H fun v H1=>h4 σ H1 fun x az=>ty σ az fun y bI=>fv x fun a=>∃ cD,qv bI a y v cD/\D.cy σ cD
section
variable {X:a0} {o i e value:Expr} {pos pos' x8:Pos} {h4 ty e5:TE}
theorem vn (b7:X.A.units + 1 < cLine) (aW:bz X o h4) (ag:bz X i ty) (aw:I3 i):bz X (.Subscript o i pos) (Ka h4 ty):=by
 intro aa s σ H Q J h;refine U3 ak9.lookup aw (bL (aW aa s σ H _ J h) fun u s1 cz=>eC cz fun x H1 aP a8 bT=>bL (ag aa s1 σ H1 _ aP bT) fun pS s2 cz=>eC cz fun y az bK bH g_=>?_);obtain ⟨a,ex,v,g,d5⟩:=fv.out g_;subst ex;obtain rfl:u=dU a:=a8;exact ⟨Zl bK g,alG b7 bK g bH fun eH s3 eK h_=>⟨v,az,eK,h_,d5⟩⟩
theorem Gr (b7:X.A.units + 1 < cLine) (ag:bz X i ty) (aW:bz X o h4):V5 X .NotIn i o (LX ty h4):=by
 intro aa s σ H Q J h;refine bL (ag aa s σ H _ J h) fun pS s1 cz=>eC cz fun y H1 aP bH bT=>bL (aW aa s1 σ H1 _ aP bT) fun u s2 cz=>eC cz fun x az bK a8 g_=>?_
 obtain ⟨a,ex,fO,g,d5⟩:=fv.out g_;subst ex;obtain rfl:u=dU a:=a8;exact ael b7 bK g bH fun s3 eK=>⟨.bw (!fO.isSome),az,eK,rfl,d5⟩
theorem NS (b7:X.A.units + 1 < cLine) (aW:bz X o h4) (ag:bz X i ty) (aG:bz X value e5) (aw:swapsWith value (some (.Subscript o i pos')) pos.line X.env=pure false) :
  f9 X (.Assign [.Subscript o i pos'] value pos) (ID h4 ty e5):=by
 intro aa s σ H D J h;refine wpAny_Assign_Subscript (bL (aG aa s σ H _ J h) fun r s1 cz=>eC cz fun v H1 aP cw bT=>bL (aW aa s1 σ H1 _ aP bT) fun u s2 cz=>eC cz fun x az bK a8 d5=>bL (ag aa s2 σ az _ bK d5) fun pS s3 cz=>eC cz fun y bI eK bH g_=>?_) aw;obtain ⟨a,ex,cD,g,g4⟩:=fv.out g_;subst ex;obtain rfl:u=dU a:=a8;exact Rh b7 eK g bH cw fun s4 fY=>⟨σ,cD,fY,g4⟩
end
theorem W2 {w:World} (h:Heap) (ae:sysModules < h.objs.size):dS P w H (h.push { cls:=.type "dict",data:=.dict #[] }) h.objs.size (.di []):=
 ⟨fg _,beq_eq_false_iff_ne.mpr (dF (gd ae)),[],.nil,Heap.DictOf.new h⟩
theorem aki {w:World} (h:Heap) (ae:sysModules < h.objs.size):dS P w H (h.push { cls:=.type "dict",data:=.dict #[] }) h.objs.size (.fX []):=
 ⟨fg _,beq_eq_false_iff_ne.mpr (dF (gd ae)),[],.nil,_,#[],0,hS _ rfl,⟨rfl,rfl,rfl⟩,rfl,rfl,aiI⟩
noncomputable def I6:TE:=fun _ H Q=>∀ p,H p=none->Q (.ref p) (upd H p (.di []))
noncomputable def Mz:TE:=fun _ H Q=>∀ p,H p=none->Q (.ref p) (upd H p (.fX []))
section
variable {X:a0} {pos:Pos}
theorem OB:bz X (.Dict [] [] pos) I6:=fun aa s σ H Q J h=>
 wpAny_Dict_empty ⟨.ref s.heap.objs.size,_,J.laid (a:=s.heap.objs.size) (o:=.di []) (t':=s.toks) (fun _ _ q=>ed _ q) (bP _) (W2 s.heap J.big),rfl,h _ (J.bh.fresh (bP _))⟩
theorem ajz:bz X (.Dict [] [] pos) Mz:=fun aa s σ H Q J h=>
 wpAny_Dict_empty ⟨.ref s.heap.objs.size,_,J.laid (a:=s.heap.objs.size) (o:=.fX []) (t':=s.toks) (fun _ _ q=>ed _ q) (bP _) (aki s.heap J.big),rfl,h _ (J.bh.fresh (bP _))⟩
end
noncomputable def xd:List (TE × TE)->St->au->(List (V × V)->au->Prop)->Prop
 | [],_,H,Q=>Q [] H
 | (tk,e5) :: r,σ,H,Q=>tk σ H fun x H1=>e5 σ H1 fun y az=>xd r σ az fun ps bI=>Q ((x,y) :: ps) bI
noncomputable abbrev TR:List (V × V)->List (Value × Value)->Prop:=Paired fun p q=>b1 p.1 q.1/\b1 p.2 q.2
def Cy (X:a0) (pos:Pos) (keys:List (Option Expr)) (values:List Expr) (ta:List (TE × TE)):Prop:=
 ∀ (aa:List (Addr × Obj)) (s:Shared) (σ:St) (H:au) (Q:List (V × V)->au->Prop),Inv X aa σ H s->xd ta σ H Q ->
  wpAny (model X.prog X.w) X.A (evalPairs (pairTrees keys values X.env pos)) (fun vs s'=>∃ ps I,Inv X aa σ I s'/\TR ps vs/\Q ps I) X.dz s
theorem WG:Cy X pos [] [] []:=fun aa s σ H Q J h=>pairTrees_nil_walk ⟨[],H,J,.nil,h⟩
theorem vK {k v:Expr} {b':List (Option Expr)} (aE:bz X k tk) (aG:bz X v e5) (aj:Cy X pos b' vs ta) :
  Cy X pos (some k :: b') (v :: vs) ((tk,e5) :: ta):=fun aa s σ H Q J h=>
 pairTrees_cons_walk (bL (aE aa s σ H _ J h) fun u s1 cz=>eC cz fun x H1 aP a8 bT=>bL (aG aa s1 σ H1 _ aP bT) fun dB s2 ⟨y,az,bK,bH,d5⟩=>
  bL (aj aa s2 σ az _ bK d5) fun ws s3 ⟨ps,bI,eK,rel,g4⟩=>⟨(x,y) :: ps,bI,eK,.cons ⟨a8,bH⟩ rel,g4⟩)
noncomputable def mn (aA more:List (Key × V)):List (Key × V):=more.foldl (fun acc dM=>fB acc dM.1 dM.2) aA
theorem gm.merge:∀ {more:List (Key × V)} {rs:List (Key × Value)} {aA:List (Key × V)} {vs:List (Key × Value)},gm more rs->gm aA vs->gm (mn aA more) (merged vs rs):=by
 intro more rs aA vs r;unfold gm at r
 induction r generalizing aA vs with
 | nil=>intro q;exact q
 | @cons p q ps qs h t c2=>
  intro qb;have e:gm (fB aA p.1 p.2) (stored vs q.1 q.2):=by
   have:=qb.put p.1 h.2;rw [<- h.1];exact this
  exact c2 e
theorem SW:∀ (more aA:List (Key × V)),(mn aA more).length <= aA.length + more.length
 | [],aA=>by show aA.length <= aA.length + 0;omega
 | p :: r,aA=>by
  have ab:=SW r (fB aA p.1 p.2);have ai:=GZ aA p.1 p.2;show (mn (fB aA p.1 p.2) r).length <= _;rw [fQ];omega
theorem Q1 {w:World}:∀ {aA:List (Key × V)} {ws:List (Value × Value)},TR (aA.map fun dM=>(et dM.1,dM.2)) ws->∃ rs,Carries (j_ P w) ws rs/\gm aA rs
 | [],_,r=>by rw [pH] at r;cases r;exact ⟨[],hu,.nil⟩
 | p :: aA,_,r=>by
  rw [eB] at r;cases r with
  | @cons a b as bs h t=>
   obtain ⟨rs,c,q⟩:=Q1 (P:=P) (w:=w) t;obtain ⟨hE,fo⟩:=b;exact ⟨(p.1,fo) :: rs,⟨w7 h.1,rfl,c⟩,.cons ⟨rfl,h.2⟩ q⟩
noncomputable def Kg (ta:List (TE × TE)):TE:=fun σ H Q=>∀ p,H p=none->xd ta σ (upd H p (.di [])) fun ps az=>az p=some (.di [])/\∃ aA:List (Key × V),ps=aA.map (fun dM=>(et dM.1,dM.2))/\aA.length <= 15/\Q (.ref p) (upd az p (.di (mn [] aA)))
theorem Uj {keys:List (Option Expr)} (h:Cy X pos keys values ta) (qu:keys.all (·.isSome)=true) (aD:keys.length=values.length) (h0:keys ≠ [])
  (ahJ:keys.length <= 15):bz X (.Dict keys values pos) (Kg ta):=by
 intro aa s σ H Q J q;have aV:=J.bh.fresh (bP s.heap.objs.size);have aP:=J.laid (a:=s.heap.objs.size) (o:=.di []) (h':=s.heap.push { cls:=.type "dict",data:=.dict #[] }) (t':=s.toks) (fun _ _ q=>ed _ q) (bP _) (W2 s.heap J.big);refine wpAny_Dict_walk (knd:=j_ X.prog X.w) qu aD h0 ahJ (bL (h aa _ σ _ _ aP (q _ aV)) fun ws s2 cL=>?_);obtain ⟨ps,az,bK,rel,e,aA,cE,lk,d5⟩:=cL;subst cE;obtain ⟨rs,c,ae6⟩:=Q1 (P:=X.prog) (w:=X.w) rel;obtain ⟨z,hd,ado,qb,eR⟩:=R' bK.bh e;cases qb;refine ⟨rs,c,eR,fun h' sh aw=>⟨.ref s.heap.objs.size,_,?_,rfl,d5⟩⟩;have aF:(mn [] aA).length <= sizeLine:=by
  have ab:=SW aA [];rw [x2] at ab;rw [sizeLine_eq];omega
 have he:∃ q,h'.get? s.heap.objs.size=some q:=let ⟨q,_,_,aM,_⟩:=sh;⟨q,aM⟩;exact K' bK (by rw [e];exact hu) aw he (UU aF hd (ae6.merge .nil) sh)
structure apH (X:a0) (o:Expr) (m:Str) (fL:Pos) (e:Expr) (iX:Pos):Prop where
 base:attributeBase o m X.env (eval o X.env)=eval o X.env
 ab2:((backTo iX (starEach [e] X.env)).all (fun x=>!x.1) && (backToKw iX (keywordEach [] X.env)).all (fun x=>x.1.isSome)
  && decide (([e]:List Expr).length + ([]:List Keyword).length + (if ([]:List Keyword).isEmpty then 0 else 1) < 30))=true
 line:(fL.endLine == iX.line)=true
 trees:backTo iX (starEach [e] X.env)=[(false,eval e X.env)]
structure M2 (X:a0) (o:Expr) (m:Str) (fL:Pos) (e f:Expr) (iX:Pos):Prop where
 base:attributeBase o m X.env (eval o X.env)=eval o X.env
 ab2:((backTo iX (starEach [e,f] X.env)).all (fun x=>!x.1) && (backToKw iX (keywordEach [] X.env)).all (fun x=>x.1.isSome)
  && decide (([e,f]:List Expr).length + ([]:List Keyword).length + (if ([]:List Keyword).isEmpty then 0 else 1) < 30))=true
 line:(fL.endLine == iX.line)=true
 trees:backTo iX (starEach [e,f] X.env)=[(false,eval e X.env),(false,eval f X.env)]
section
variable {X:a0} {aa:List (Addr × Obj)} {σ:St} {H:au} {s:Shared} {a:Addr} {y d:V} {u r:Value} {o:Option V} {A:Around} {E:Value->Shared->Prop}
end
section
variable {X:a0} {o e f:Expr} {fL iX:Pos} {h4 ty aoR:TE}
end
section
variable {X:a0} {aa:List (Addr × Obj)} {σ:St} {H:au} {s:Shared} {a:Addr} {aA:List (Key × V)} {A:Around} {E:Value->Shared->Prop}
end
section
variable {X:a0} {aa:List (Addr × Obj)} {σ:St} {H:au} {s:Shared} {a:Addr} {y:V} {u:Value} {A:Around} {E:Value->Shared->Prop}
end
end L2
namespace WS
open PySem PySem.W PySem.Calls PyProof.Rows
theorem ajv {h:Heap}:∀ (ns:List Int) (vs:List Value),WellAll P h vs (ns.map ajX)->IntsAre vs ns:=by
 intro ns
 induction ns with
 | nil=>
  intro vs w;rw [pH] at w;cases w;exact .nil
 | cons n ns c2=>
  intro vs w;rw [eB] at w;cases w with
  | cons a b=>
   cases a;exact .cons _ _ (c2 _ b)
theorem alp {l:OpenLaw} {n:Nat} (aV:l.most=some n) {P:Params} {h:Heap} {args:List WData} {FX:List Value}
  (Cs:l.row.toRowW.claim.pre args=true) (h5:WellAll P h FX args) :
  ∃ a vs ns,FX=[dU a]/\args=[WData.list (ns.map ajX)]/\h.get? a=some { cls:=.type "list",data:=.seq vs.toArray }/\IntsAre vs ns/\ns.length <= n:=by
 have Xl:WShape.hasAll [] args [.list .int]=true:=(pre_splitW Cs).1;have ar:l.pre.holds [] { args:=args }=true:=(pre_splitW Cs).2;obtain ⟨d,r,rfl,ab,ai⟩:=hasAllW_cons Xl;obtain rfl:=hasAllW_nil ai;obtain ⟨xs,rfl,a5⟩:=hasW_list ab;obtain ⟨ns,rfl⟩:=items_int a5;have hlen:ns.length <= n:=by
  unfold OpenLaw.pre at ar;have bQ:(WTm.not (.lt (.lit (.int (n:Int))) (.len (.arg 0)))).holds [] { args:=[.list (ns.map .int)] }=true:=by
   have bQ:=(holds_andW ar).1;rw [aV] at bQ;exact bQ
  have du:=condW_of bQ (w_not (w_lt w_lit (w_len_list (w_arg rfl))));rw [aR] at du;refine ak_ fun q=>?_
  have cb:(n:Int) < ((ns.length:Nat):Int):=by omega
  first
   | (rw [decide_eq_true cb] at du;exact absurd du (by decide))
   | (simp at du;omega)
 cases h5 with
 | cons dI dB=>
  cases dB;cases dI with
  | list aW qu=>exact ⟨_,_,ns,rfl,rfl,aW,ajv ns _ qu,hlen⟩
theorem Ye (l:OpenLaw) (args:List WData):l.row.toRowW.claim.post args (.bool true) args=true:=
 postW_of (r:=l.row.toRowW) (X:=(true == true))
  (show aeh [] (.bool true) .bool=true by first | rfl | decide | simp [aeh,WShape.arms,WShape.armsAll])
  (show (WTm.eq .res (.lit (.bool true))).value [] { args:=args,res:=some (.bool true),after:=args }=some (.bool (true == true)) from w_eq_bool (w_res rfl) w_lit) rfl
theorem akt {l:OpenLaw} {n:Nat} {q:Program} {loose:List Str} {Cr:(Str->Option Value)->Heap->Prop} {uD:World->Heap->Prop} {d:DefRec}
  (aV:l.most=some n) (KL:d.params.defaults=[])
  (call:∀ (w:World) (fE dh:Shared) (mg nJ:Str->Option Value) (gq:Addr) (o:Obj) (pm cd doc:Value) (a:Addr) (vs:List Value) (ns:List Int),
   Ground q loose [] Cr w fE mg nJ dh.heap->uD w dh.heap ->
   dh.heap.get? gq=some o->o.data=.func (docDef d.name d.params d.body d.scope pm cd doc)->dh.heap.CodeRec cd d.name->mg d.name=some (.ref gq) ->
   dh.heap.get? a=some { cls:=.type "list",data:=.seq vs.toArray }->IntsAre vs ns->ns.length <= n->dh.gens=#[] ->
   codeAny (model l.prog w) callerA (.call (.ref gq) ⟨[.ref a],[]⟩) (fun r s'=>r=.ok (.ret (.bool true))/\OldK dh.heap s'.heap/\s'.os=dh.os/\AllBare s'.gens) dh) :
  WalkO q loose Cr uD l.row.toRowW d [] (fun f vs=>acy f vs):=by
 intro w fE dh mg nJ G Y gq o pm cd doc DM et aW hd kj bD wQ bg args FX as Cs aoI A5 h5 v7;obtain rfl:DM=.none:=Dflts.none bD KL;obtain rfl:et=.none:=Dflts.noKw bD;obtain ⟨a,vs,ns,rfl,rfl,I5,hints,hlen⟩:=alp aV Cs h5;refine enter_call (codeAny_mono (call w fE dh mg nJ gq o pm cd doc a vs ns G Y aW (fd_plain hd) kj wQ I5 hints hlen bg) fun r s' aM=>?_);obtain ⟨rfl,ai,a5,bQ⟩:=aM;exact ⟨.inl ⟨.bool true,.bool true,[],rfl,fun _=>rfl,.bool true,Ye l _,fun _=>⟨aoY,fun _ hm=>(nomatch hm)⟩⟩,ai,a5,bQ⟩
section
variable {prog:Program} {w:World} {A:Around} {E:Value->Shared->Prop} {s:Shared} {K:Frag}
end
end WS
namespace L2
open PySem PySem.Spec PyProof.Rows
theorem Q3:∀ {vs:List Value} {ns:List Int},IntsAre vs ns->cj (ns.map V.int) vs
 | _,_,.nil=>.nil
 | _,_,.cons n t h=>.cons ⟨t,rfl⟩ (Q3 h)
noncomputable abbrev Hc {K:bc} {h:Heap} (_:K.In h):bc:=K
noncomputable def hN (s:Stmt) (j:Nat):Stmt:=match s with
 | .ClassDef _ _ _ body _ _ _ _ _ _ _=>body.getD j (.Pass ⟨0,0,0,0⟩)
 | _=>.Pass ⟨0,0,0,0⟩
noncomputable def D4 (s:Stmt):Arguments:=match s with
 | .FunctionDef _ a _ _ _ _ _ _ _ _=>a
 | _=>{ posonlyargs:=[],args:=[],vararg:=none,kwonlyargs:=[],kw_defaults:=[],kwarg:=none,defaults:=[] }
noncomputable def q7 (s:Stmt):List Stmt:=match s with
 | .FunctionDef _ _ b _ _ _ _ _ _ _=>b
 | _=>[]
noncomputable def bt (s:Stmt):Scope:=match s with
 | .FunctionDef _ _ _ _ _ _ sc _ _ _=>sc
 | _=>{ kind:=.function,names:=[],isGenerator:=false,isCoroutine:=false }
noncomputable abbrev c9:j1:=fun _ _ _ _ _ _=>False
noncomputable abbrev ud:d0:=fun _ _ _=>False
theorem dK:pJ c9 X ud:=fun _ _ _ _ _ _ _ h=>h.elim
structure b9 (K:bc) (x qual:Str) (st:Stmt) (f:Addr) (fd:FuncData):Prop where
 ex:∃ (nH:Value) (br:Option Addr) (et doc pm:Value) (an:Option Addr) (eN e9:Value) (rP:Array (Option Value)),
  fd=yg x qual (D4 st) (q7 st) (bt st) .none et doc pm an eN e9/\K.lookup f=some ⟨nH,br,.func fd,rP⟩/\S9 K eN qual=true
 bj:qm K (.ref f)=true
section
variable {P:Program} {w:World} {K:bc} {mg:Str->Option Value} {base:Heap}
theorem b9.ok {x qual:Str} {st:Stmt} {fd:FuncData} {N ps:List Str} {k:Nat} (F:b9 K x qual st f fd) (S:cn N ps (bt st)) (len:∀ vs H Q E,sp vs H Q E->vs.length=ps.length)
  (nN:∀ (eN:Value) (A:Around) (outer:List Env) (s:Shared) (H:au) (vs:List V) (Q:cJ) (E:d0),en k (A.deeper (envOfC qual (bt st) s.heap.objs.size f eN))->sp vs H Q E ->
   ∃ t,gC (ni c9 P w K mg base N qual (bt st) f eN A outer s H E).tE (q7 st) t/\t { cy:=fun _ I=>Q .cg I,l_:=Q } (start N vs) H):bV P w K mg base c9 (k + 1) f fd ps sp:=by
 obtain ⟨nH,br,et,doc,pm,an,eN,e9,rP,rfl,lk,kj⟩:=F.ex;refine HL lk kj S len fun A outer s H vs Q E aj jc=>?_
 obtain ⟨t,h,q⟩:=nN eN A outer s H vs Q E aj jc;exact ⟨t,h.tE,q⟩
theorem b9.binds {x qual:Str} {st:Stmt} {fd:FuncData} (F:b9 K x qual st f fd)
  (h:∀ (et doc pm:Value) (an:Option Addr) (eN e9:Value) (us:List Value),us.length=ps.length->bindArgs (yg x qual (D4 st) (q7 st) (bt st) .none et doc pm an eN e9) ⟨us,[]⟩=pure (ps.zip us)):b3 K fd ps []:=by
 obtain ⟨nH,br,et,doc,pm,an,eN,e9,rP,rfl,lk,kj⟩:=F.ex;exact .all (h et doc pm an eN e9)
theorem aky {x qual:Str} {st:Stmt} {et doc pm eN e9:Value} (l:K.lookup f=some ⟨nH,br,.func (yg x qual (D4 st) (q7 st) (bt st) .none et doc pm an eN e9),rP⟩)
  (c:S9 K eN qual=true) (k:qm K (.ref f)=true):b9 K x qual st f (yg x qual (D4 st) (q7 st) (bt st) .none et doc pm an eN e9):=⟨⟨nH,br,et,doc,pm,an,eN,e9,rP,rfl,l,c⟩,k⟩
end
def agE (A:Around):Prop:=A.units + 1 < cLine
def amD (A:Around):Prop:=A.units + 64 < cLine
theorem Zp {A:Around} {k:Nat} (aj:en k A):amD A:=aj.units
theorem ml {A:Around} {k:Nat} (aj:en k A):agE A:=gI (Nat.add_le_add_left (by decide:1 <= 64) _) aj.units
section
variable {X:a0}
theorem U (i:Nat) {x:Str} (bb:X.N[i]? = some x:=by rfl) (aG:BK X.env.scope x:=by first | exact qw rfl | exact kx (qw rfl) | exact kx (kx rfl)) (hd:(x == ("__debug__" : Str))=false:=by decide)
  (kj:(x == ("__classdict__" : Str))=false:=by decide):bz X (.Name x pos) (Bh i):=YL bb aG hd kj
end
def aH (H I:au):Prop:=∀ b o,H b=some o->I b=some o
theorem aH.refl (H:au):aH H H:=fun _ _ h=>h
theorem aH.trans (a:aH H H1) (b:aH H1 az):aH H az:=fun c o h=>b c o (a c o h)
theorem aH.free (e:aH H I) (h:I l=uH):H l=uH:=by
 cases q:H l with
 | none=>rfl
 | some o=>
  rw [e l o q] at h;cases h
section
variable {fC:Type} [DecidableEq fC]
end
end L2
set_option maxHeartbeats 4000000
namespace L2
open PySem PySem.Spec PyProof.Rows
noncomputable def jS (cells:List (Str × Addr)):List (Str × NameKind)->List (Str × Addr)->List (Str × Addr)
 | [],acc=>acc
 | (n,k) :: r,acc=>if k == .free then (match cells.lookup n with | some c=>jS cells r ((n,c) :: acc) | none=>jS cells r acc) else jS cells r acc
theorem Ig {env:Env}:∀ (names:List (Str × NameKind)) (acc:List (Str × Addr)),(∀ y ∈ names,y.2=.free->∃ c,env.cells.lookup y.1=some c) ->
  (forIn names acc (fun (x:Str × NameKind) (cs:List (Str × Addr))=>(if (x.2 == .free)=true then do let a <- cellOf env x.1;pure (yQ ((x.1,a) :: cs)) else pure (yQ cs):Sem (ForInStep (List (Str × Addr))))))=pure (jS env.cells names acc)
 | [],acc,_=>rfl
 | (n,k) :: r,acc,h=>by
  have aj:∀ y ∈ r,y.2=.free->∃ c,env.cells.lookup y.1=some c:=fun y aU=>h y (gS _ aU)
  rw [List.forIn_cons];by_cases aE:(k == qT)=true
  .have e:k=.free:=by simpa using aE
   obtain ⟨c,ar⟩:=h (n,k) kO e;have jZ:env.cells.lookup n=some c:=ar;simp only [jS,aE,if_true,jZ,cellOf];exact Ig r _ aj
  .simp only [jS,aE];exact Ig r _ aj
theorem Qd {env:Env} (h:∀ y ∈ scope.names,y.2=.free->∃ c,env.cells.lookup y.1=some c):closureFor scope env=pure (jS env.cells scope.names []):=by
 unfold closureFor;exact congrArg (fun t=>t >>= pure) (Ig scope.names [] h)
theorem Ee {cells:List (Str × Addr)}:∀ (names:List (Str × NameKind)) (acc:List (Str × Addr)) {x:Str} {c:Addr},(jS cells names acc).lookup x=some c->acc.lookup x=some c\/cells.lookup x=some c
 | [],acc,x,c,h=>.inl h
 | (n,k) :: r,acc,x,c,h=>by
  unfold jS at h;split at h
  .cases q:cells.lookup n with
   | none=>rw [q] at h;exact Ee r acc h
   | some d=>
    rw [q] at h;rcases Ee r _ h with z | z
    .rw [kv] at z;by_cases af:(x == n)=true
     .rw [af] at z;have e:x=n:=by simpa using af
      subst e
      right;rw [q];exact z
     .have e7:(x == n)=false:=by simpa using af
      rw [e7] at z;exact .inl z
    .exact .inr z
  .exact Ee r acc h
theorem Ec {cells:List (Str × Addr)}:∀ (names:List (Str × NameKind)) (acc:List (Str × Addr)) {x:Str} {c:Addr},acc.lookup x=some c->cells.lookup x=some c->(jS cells names acc).lookup x=some c
 | [],acc,x,c,h,_=>h
 | (n,k) :: r,acc,x,c,h,ar=>by
  unfold jS;split
  .cases q:cells.lookup n with
   | none=>exact Ec r acc h ar
   | some d=>
    refine Ec r _ ?_ ar;rw [kv];by_cases af:(x == n)=true
    .have e:x=n:=by simpa using af
     subst e;rw [af];rw [q] at ar;exact ar
    .have e7:(x == n)=false:=by simpa using af
     rw [e7];exact h
  .exact Ec r acc h ar
theorem zu {cells:List (Str × Addr)}:∀ (names:List (Str × NameKind)) (acc:List (Str × Addr)) {x:Str} {c:Addr},(x,qT) ∈ names->cells.lookup x=some c->(jS cells names acc).lookup x=some c
 | [],_,_,_,h,_=>nomatch h
 | (n,k) :: r,acc,x,c,h,ar=>by
  rcases d9.mp h with e | h
  .cases e;unfold jS;rw [if_pos (by decide),ar];refine Ec r _ ?_ ar;rw [kv];simp
  .unfold jS;split
   .cases q:cells.lookup n with
    | none=>exact zu r acc h ar
    | some d=>exact zu r _ h ar
   .exact zu r acc h ar
theorem Ij:∀ {l:List (Str × α)} {x:Str} {a:α},l.lookup x=some a->(x,a) ∈ l
 | [],_,_,h=>by simp at h
 | (n,b) :: r,x,a,h=>by
  rw [kv] at h;by_cases af:(x == n)=true
  .have e:x=n:=by simpa using af
   subst e;rw [af] at h;have aC:b=a:=eL h;subst aC;exact kO
  .have e7:(x == n)=false:=by simpa using af
   rw [e7] at h;exact gS _ (Ij h)
theorem af1 {env:Env} {x:Str} {k:NameKind} (h:(relabel scope env).names.lookup x=some k) (aE:k=.cell\/k=.free) (ar:∀ y ∈ scope.names,y.2 ≠ .cell):(x,qT) ∈ scope.names:=by
 have ab:=Ij h;obtain ⟨⟨n,j⟩,hm,e⟩:=b2.mp ab;have bW:(if (j == qT && env.scope.kind == .function && env.kindOf n == some .cell)=true then (n,RJ) else (n,j))=(x,k):=e;split at bW
 .rename_i Rd;have ao:n=x:=(Pf bW).1;subst ao;have aN:j=.free:=by
   simp only [jX] at Rd;simpa using Rd.1.1
  subst aN;exact hm
 .have ao:n=x:=(Pf bW).1;have aC:j=k:=(Pf bW).2;subst ao;subst aC;rcases aE with z | z
  .exact absurd z (ar _ hm)
  .subst z;exact hm
theorem akB {env:Env} {x:Str} (h:scope.names.lookup x=some .free):(relabel scope env).names.lookup x=some .cell\/(relabel scope env).names.lookup x=some .free:=by
 have all:∀ (names:List (Str × NameKind)),names.lookup x=some .free ->
   (names.map fun (n,k)=>if (k == qT && env.scope.kind == .function && env.kindOf n == some .cell) then (n,RJ) else (n,k)).lookup x=some .cell \/
   (names.map fun (n,k)=>if (k == qT && env.scope.kind == .function && env.kindOf n == some .cell) then (n,RJ) else (n,k)).lookup x=some .free:=by
  intro names
  induction names with
  | nil=>intro h;simp at h
  | cons p r c2=>
   obtain ⟨n,k⟩:=p;intro h;rw [eB];by_cases af:(x == n)=true
   .simp only [kv,af] at h;have aE:k=.free:=eL h;subst aE;by_cases ar:(qT == qT && env.scope.kind == .function && env.kindOf n == some .cell)=true
    .left;simp only [if_pos ar,kv,af]
    .right;simp only [if_neg ar,kv,af]
   .have e7:(x == n)=false:=by simpa using af
    simp only [kv,e7] at h;by_cases ar:(k == qT && env.scope.kind == .function && env.kindOf n == some .cell)=true
    .simp only [if_pos ar,kv,e7];exact c2 h
    .simp only [if_neg ar,kv,e7];exact c2 h
 exact all scope.names h
noncomputable abbrev a0.block (X:a0) (scope:Scope) (C:Addr) (N:List Str) (s:Shared) (H:au) (bf:List Addr):a0 where
 prog:=X.prog
 w:=X.w
 K:=X.K
 mg:=X.mg
 base:=X.base
 A:=X.A
 N:=N
 fE:=s
 sx:=H
 env:=compEnvC scope (jS X.env.cells scope.names []) C X.env
 outer:=X.stack
 stack:=X.stack
 ex:=bf
 fn:=fun _=>false
 calm:=X.calm
 ey:=[]
 dz:=fun _ _=>False
structure qS (env:Env) (scope:Scope):Prop where
 kind:scope.kind=.function
 uh:∀ y ∈ scope.names,y.2 ≠ .cell
 fr:∀ y ∈ scope.names,y.2=.free->env.kindOf y.1=some .cell\/env.kindOf y.1=some .free
 loc:∀ x ∈ scope.names,x.2=.local->scope.names.lookup x.1=some .local
noncomputable def nF (sel:List (Option Nat)) (σ:St):St:=sel.map fun o=>o.bind fun j=>(σ[j]?).join
def wq (M:List Str) (scope:Scope) (N:List Str) (sel:List (Option Nat)):Prop:=
 sel.length=N.length/\∀ (i j:Nat) (x:Str),sel[i]? = some (some j)->N[i]? = some x->M[j]? = some x/\scope.names.lookup x=some .free
section
variable {X:a0} {aa:List (Addr × Obj)} {σ:St} {H:au} {s:Shared} {scope:Scope} {bf:List Addr} {C:Addr} {N:List Str}
theorem qS.cells (S:qS X.env scope) (ok:X.Ok):∀ y ∈ scope.names,y.2=.free->∃ c,X.env.cells.lookup y.1=some c:=fun y aU e=>ok.has y.1 (S.fr y aU e)
theorem vQ {x:Str} (h:(jS X.env.cells scope.names []).lookup x=some c):X.env.cells.lookup x=some c:=by
 rcases Ee _ _ h with z | z
 .simp at z
 .exact z
theorem Oh (J:Inv X aa σ H s) (S:qS X.env scope) (hf:∀ b ∈ bf,Ty X aa H b) (aw:∀ b ∈ bf,b < s.heap.objs.size) (cK:s.heap.objs.size <= C):(X.block scope C N s H bf).Ok where
 mod:=J.ok.mod
 kind:=S.kind
 glob:=J.ok.glob
 blt:=J.ok.blt
 above:=cK
 inj:=fun x y c ab ai=>J.ok.inj x y c (vQ ab) (vQ ai)
 has:=fun x h=>by
  have aE:∃ k,(relabel scope X.env).names.lookup x=some k/\(k=.cell\/k=.free):=by
   rcases h with h | h
   .exact ⟨_,h,.inl rfl⟩
   .exact ⟨_,h,.inr rfl⟩
  obtain ⟨k,ab,ai⟩:=aE;have hm:=af1 ab ai S.uh;obtain ⟨c,ar⟩:=S.cells J.ok _ hm rfl;exact ⟨c,zu _ _ hm ar⟩
 p3:=fun _ _ h _=>nomatch h
 hd:=J.ok.hd
 frames:=J.ok.frames
 hr:=.inl rfl
 ux:=fun b ae=>⟨gd (ho (aw b ae) cK),fun x c e=>(hf b ae).2.2.2.2.1 x c (vQ e)⟩
 bs:=J.bs
 lz:=cq J.ok.lz J.lQ
 p6:=fun b o e ae=>by
  rcases (hf b ae).2.2.2.1 with z | z
  .exact J.ok.p6 b o e z
  .exact absurd (ho (ho (d1 e) J.ok.lz) z) (nj _)
 qq:=fun b ae aF=>by
  rcases d9.mp (J.DD b aF) with z | z
  .exact (hf b ae).2.1 z
  .exact (hf b ae).2.2.1 z
 kG:=J.stack
 n9:=J.w3
theorem akh (J:Inv X aa σ H s) (S:qS X.env scope) (hf:∀ b ∈ bf,Ty X aa H b) (aw:∀ b ∈ bf,b < s.heap.objs.size) (cK:s.heap.objs.size <= C)
  (k:∀ b o,s.heap.get? b=some o->h'.get? b=some o) (aV:h'.Ns C m) (ri:wq X.N scope N sel):Inv (X.block scope C N s H bf) [] (nF sel σ) H { s with heap:=h',toks:=t' } where
 ok:=Oh J S hf aw cK
 os:=rfl
 bare:=J.bare
 base:=gG.kept k
 loc:=by
  refine ⟨m,aV,fun i x v ao aC bJ=>?_⟩;obtain ⟨m0,qD,aD⟩:=J.loc;obtain ⟨j,rg,Xi⟩:∃ j,sel[i]? = some (some j)/\σ[j]? = some (some v):=by
   unfold nF at aC;rw [cV] at aC;cases q:sel[i]? with
   | none=>rw [q] at aC;cases aC
   | some o=>
    rw [q] at aC;cases o with
    | none=>cases aC
    | some j=>
     refine ⟨j,rfl,?_⟩;have A2:(σ[j]?).join=some v:=eL aC;cases r:σ[j]? with
     | none=>rw [r] at A2;cases A2
     | some z=>rw [r] at A2;exact congrArg some A2
  obtain ⟨Y6,pe⟩:=ri.2 i j x rg ao;have hm:=Ij pe;have aE:=S.fr _ hm rfl;have aG:BK X.env.scope x:=aE.elim (fun z=>.inr (.inl z)) fun z=>.inr (.inr z)
  obtain ⟨u,r,l⟩:=aD j x v Y6 Xi aG;refine ⟨u,r,?_⟩;rcases l with ⟨afi,_⟩ | ⟨_,c,ar,Ba⟩
  .rcases aE with z | z <;> (have gn:X.env.kindOf x=_:=z;rw [afi] at gn;cases gn)
  .refine .inr ⟨?_,c,zu _ _ hm ar,?_⟩
   .exact akB pe
   .obtain ⟨o,aW,hd⟩:=Ba;exact ⟨o,k _ _ aW,hd⟩
 cell:=fun x c e=>by
  obtain ⟨v,o,aW,hd⟩:=J.cell x c (vQ e);exact ⟨v,o,k _ _ aW,hd⟩
 free:=J.bh.fresh cK
 jg:=fun x c e=>J.jg x c (vQ e)
 pin:=fun p aq=>nomatch aq
 bh:=J.bh.kept k
 len:=by unfold nF;rw [aR];exact ri.1
theorem Inv.adopt (J:Inv X aa σ H s) (hl:Ty X aa H a) (new:dS X.prog X.w (upd H a o) s.heap a o):Inv X aa σ (upd H a o) s:=by
 obtain ⟨aV,ei,vy,hex,oI,mT⟩:=hl;refine J.step (g':=s.gens) (d':=s.drawn) (t':=s.toks) (h':=s.heap) (ch:=[a]) (fun b ae=>?_) (fun b o _ _ _ e _=>e) (fun b o _ _ _ e _=>⟨o.slots,e⟩) (fun b o ae e n=>?_) (fun b o _ e=>⟨o,e⟩)
  (fun b xs e=>?_) (fun b o u e=>?_) (fun b ps e=>⟨#[],?_⟩) (fun m hm=>hm) (fun b u e=>?_) J.bare
 .have e:b=a:=by simpa using ae
  subst e;exact ⟨hex,ei,oI,mT⟩
 .rw [aZ (fun z=>ae (by simp [z]))];exact n
 .rw [aZ (Db e aV)];exact e
 .rw [aZ (Db e aV)];exact e
 .rw [aZ (Db e aV),e];simp
 .by_cases ae:b=a
  .subst ae;rw [aS] at e;cases e;exact new
  .rw [aZ ae] at e;exact (J.bh b u e).nv (fun c v _ q=>q) (fun c q=>by rw [aZ (Db q aV)];exact q) fun c xs q=>by rw [aZ (Db q aV)];exact q
end
theorem Z0 {prog:Program} {w:World} {A:Around} {it acc:Value} {env:Env} (J:Nat->Shared->Prop)
  (turn:∀ n s,J n s->wpAny (model prog w) A (pyNext it) (fun r dh=>match r with
   | none=>R (.ok .next) dh
   | some v=>wpAny (model prog w) A (letOwnedTupleGo yP it v) (fun _ fE=>wpAny (model prog w) A (assign yP env v) (fun _ d3=>
     wpAny (model prog w) A (forIn ifs true fun c r=>if r=true then do let ok <- isTrue c env (eval c env);pure (yQ ok) else pure (yQ r)) (fun ok nx=>
      if ok=true then wpAny (model prog w) A (eval elt env) (fun x B_=>
       wpAny (model prog w) A (call (.builtin "list.append") [acc,x]) (fun _ Q_=>∃ m,m < n/\J m Q_) (fun _ _=>False) B_) (fun _ _=>False) nx
      else ∃ m,m < n/\J m nx) (fun _ _=>False) d3) (fun _ _=>False) fE) (fun _ _=>False) dh) (fun _ _=>False) s)
  (n:Nat) (h:J n s) :
  codeAny (model prog w) A (.compLoop (.ListComp elt [⟨yP,iter,ifs,0⟩] scope pos) 0 it acc env) R s:=by
 refine codeAny_loop rfl J (fun n s Kh=>?_) n h;show wpAny _ A ((compTurn (.ListComp elt [⟨yP,iter,ifs,0⟩] scope pos) 0 it acc env).onRaise (fun x=>do noteFrame x env;theTreesLotGoes x)) _ _ s;refine wpAny_noted (wpAny_noRaise ?_);rw [compTurn_list];refine wpAny_bind (wpAny_standAt (wpAny_bind (wpAny_mono (turn n s Kh) (fun r dh h₁=>?_) fun _ _ h'=>h')));cases r with
 | none=>exact wpAny_pure h₁
 | some v=>
  refine wpAny_bind (wpAny_mono h₁ (fun _ fE h₀=>?_) fun _ _ h'=>h');refine wpAny_bind (wpAny_mono h₀ (fun _ d3 we=>wpAny_bind (wpAny_mono we (fun ok nx By=>?_) fun _ _ h'=>h')) fun _ _ h'=>h');cases ok with
  | false=>exact wpAny_pure ⟨rfl,By⟩
  | true=>
   exact wpAny_bind (wpAny_bind (wpAny_mono By (fun x B_ aao=>wpAny_bind (wpAny_mono aao (fun _ Q_ aaR=>wpAny_pure (wpAny_pure ⟨rfl,aaR⟩)) fun _ _ h'=>h')) fun _ _ h'=>h'))
def w' (X:a0) (ifs:List Expr) (t:TT):Prop:=
 ∀ (aa:List (Addr × Obj)) (s:Shared) (σ:St) (H:au) (Q:Bool->au->Prop),Inv X aa σ H s->t σ H Q ->
  wpAny (model X.prog X.w) X.A (forIn ifs true fun c r=>if r=true then do let ok <- isTrue c X.env (eval c X.env);pure (yQ ok) else pure (yQ r)) (Ew X aa σ Q) X.dz s
noncomputable def rA:TT:=fun _ H Q=>Q true H
theorem gV:w' X [] rA:=fun _ _ _ H _ J h=>wpAny_tests_nil ⟨H,J,h⟩
theorem uX {t:TT} (h:h7 X c t):w' X [c] t:=fun aa s σ H Q J q=>wpAny_tests_one (h aa s σ H Q J q)
def Sub (σ ay:St):Prop:=ay.length=σ.length/\∀ (i:Nat) (v:V),σ[i]? = some (some v)->ay[i]? = some (some v)
def sN (bF:kI) (g:gP) (dd:TT) (bN:TE) (dp:St) (Q:cJ) (W:Nat->Nat->List V->au->Prop):Prop:=∀ i m ys H,W i m ys H ->
 (bF.stop i H/\∀ p,H p=none->Q (.ref p) (upd H p (.lst ys))) \/
 (bF.go i H/\ys.length < sizeLine/\∀ x I,bF.rE i H x I->g x dp I fun cH az=>Sub dp cH/\dd cH az fun c bI=>if c=true then bN cH bI fun y cD=>∃ dm,dm < m/\W (i + 1) dm (ys ++ [y]) cD else ∃ dm,dm < m/\W (i + 1) dm ys bI)
noncomputable def He (gz:TI) (g:gP) (dd:TT) (bN:TE) (sel:List (Option Nat)):TE:=fun σ H Q=>gz σ H fun bF H1=>∃ W:Nat->Nat->List V->au->Prop,(∃ m,W 0 m [] H1)/\sN bF g dd bN (nF sel σ) Q W
section
variable {X:a0} {elt dr iter:Expr} {ifs:List Expr} {scope:Scope} {pos:Pos} {gz:TI} {g:gP} {dd:TT} {bN:TE} {N:List Str} {sel:List (Option Nat)}
structure eT (X:a0) (scope:Scope) (N:List Str) (dr elt:Expr) (ifs:List Expr) (g:gP) (dd:TT) (bN:TE):Prop where
 QL:∀ C s H bf,o7 (X.block scope C N s H bf) dr g
 tests:∀ C s H bf,w' (X.block scope C N s H bf) ifs dd
 elem:∀ C s H bf,bz (X.block scope C N s H bf) elt bN
theorem eT.of {N:List Str} (ab:∀ C s H bf,o7 (X.block scope C N s H bf) dr g)
  (ai:∀ C s H bf,∃ t,w' (X.block scope C N s H bf) ifs t/\t=dd) (a5:∀ C s H bf,∃ t,bz (X.block scope C N s H bf) elt t/\t=bN):eT X scope N dr elt ifs g dd bN:=
 ⟨ab,fun C s H bf=>by obtain ⟨t,h,rfl⟩:=ai C s H bf;exact h,fun C s H bf=>by obtain ⟨t,h,rfl⟩:=a5 C s H bf;exact h⟩
theorem PX {aa:List (Addr × Obj)} {d3:Shared} {σ:St} {iZ:au} {Q:cJ} {it:Addr} {bf:List Addr} {ig:Nat->Heap->Prop} {bF:kI} {W:Nat->Nat->List V->au->Prop} {E:Value->Shared->Prop} {RR:Value->Addr->Result->Shared->Prop}
  (ar:X.calm=true) (S:qS X.env scope) (ri:wq X.N scope N sel) (B:eT X scope N dr elt ifs g dd bN) (bK:Inv X aa σ iZ d3) (T:rY X.prog X.w X.K dr bF bf it ig) (rN:ig 0 d3.heap) (f2:∀ b ∈ bf,Ty X aa iZ b)
  (nY:∃ m,W 0 m [] iZ) (fN:sN bF g dd bN (nF sel σ) Q W)
  (fin:∀ D C ys I s',Inv X aa σ (upd I D (.lst ys)) s'->(∃ m,s'.heap.Ns C m)->Ty X aa (upd I D (.lst ys)) C->Q (.ref D) (upd I D (.lst ys))->RR (.ref D) C (.ok .next) s') :
  wpAny (model X.prog X.w) X.A (newList []) (fun acc nx=>wpAny (model X.prog X.w) X.A (newFunctionEnv scope X.env.globals (jS X.env.cells scope.names []) [] X.env.qual none .none (some X.env)) (fun VI B_=>
   codeAny (model X.prog X.w) X.A (.compStart (.ListComp elt [⟨dr,iter,ifs,0⟩] scope pos) 0 (.ref it) acc { VI with scope:=relabel scope X.env }) (RR acc VI.locals) B_) E nx) E d3:=by
 refine wpAny_newObj_type (wpAny_newFunctionEnv S.uh (by intro y aU;simp at aU) (fun h₁ Hh Az=>?_) S.kind);dsimp only at Hh Az ⊢;generalize JS:d3.heap.push { cls:=.type "list",dict:=none,data:=.seq ([]:List Value).toArray }=az at Hh Az ⊢;have cK:az.objs.size=d3.heap.objs.size + 1:=by rw [<- JS,WJ]
 have wK:d3.heap.objs.size ≠ az.objs.size:=by rw [cK];exact gd (wJ _)
 have Lw:d3.heap.objs.size <= az.objs.size:=by rw [cK];exact w5 _
 have below:∀ b,b < d3.heap.objs.size->b ≠ az.objs.size/\b ≠ d3.heap.objs.size:=fun b ae=>⟨by rw [cK];exact gd (Nat.lt_succ_of_lt ae),gd ae⟩
 have old:∀ b o,d3.heap.get? b=some o->h₁.get? b=some o:=fun b o e=>Az.extBut b o (below b (d1 e)).1 (ed _ (JS ▸ ed _ e))
 have Ze:h₁.get? d3.heap.objs.size=some { cls:=.type "list",data:=.seq ([]:List Value).toArray }:=Az.extBut _ _ wK (ed _ (JS ▸ hS _ rfl));have yt:∀ b ∈ bf,b < d3.heap.objs.size:=fun b ae=>by
  obtain ⟨o,e,_⟩:=T.obj _ _ rN b ae;exact d1 e
 generalize an0:az.objs.size=C at *;generalize pn:d3.heap.objs.size=D at *;have QK:ig 0 h₁:=T.keep _ _ _ rN fun b _ o e=>old b o e
 have aiH:Inv (X.block scope C N d3 iZ bf) [] (nF sel σ) iZ { d3 with heap:=h₁,toks:=d3.toks + ([]:List (Str × Value)).length }:=
  akh bK S f2 (fun b ae=>by rw [pn];exact yt b ae) (by rw [pn];exact Lw) old Hh ri
 have Ln:D ∉ (X.block scope C N d3 iZ bf).aO:=fun z=>by
  have gn:=bK.DD D z;rcases d9.mp gn with e | e
  .exact absurd bK.lt (by rw [<- e,pn];exact nj _)
  .exact bK.Kr (by rw [pn];exact bP _) e
 have loop:∀ nx:Shared,nx = { d3 with heap:=h₁,toks:=d3.toks + ([]:List (Str × Value)).length } ->
   codeAny (model X.prog X.w) X.A (.compLoop (.ListComp elt [⟨dr,iter,ifs,0⟩] scope pos) 0 (.ref it) (.ref D) (compEnvC scope (jS X.env.cells scope.names []) C X.env)) (RR (.ref D) C) nx:=by
  rintro nx rfl;obtain ⟨m0,nY⟩:=nY;refine Z0 (fun k s'=>∃ i ys us n I,Inv (X.block scope C N d3 iZ bf) [(D,{ cls:=.type "list",data:=.seq us n })] (nF sel σ) I s'/\(∃ vs:List Value,us=vs.toArray/\cj ys vs)/\ys.length <= sizeLine/\ig i s'.heap/\(∀ b ∈ bf,I b=none)/\W i k ys I) ?_ m0
   ⟨0,[],_,0,iZ,aiH.sq fun p aq=>?_,⟨[],rfl,.nil⟩,fg _,QK,fun b ae=>(f2 b ae).1,nY⟩
  .rintro k s' ⟨i,ys,us,n,I,Iy,⟨vs,rfl,cw⟩,TS,st,fr,w⟩;have ML:∀ {pl:List (Addr × Obj)} {jl:au},(∀ p ∈ pl,p.1=D)->(∀ b ∈ bf,jl b=none)->∀ b ∈ bf,Ty (X.block scope C N d3 iZ bf) pl jl b:=fun {pl jl} aq aV b ae=>
    ⟨aV b ae,(below b (yt b ae)).1,(Oh (N:=N) (C:=C) bK S f2 (fun b ae=>by rw [pn];exact yt b ae) (by rw [pn];exact Lw)).qq b ae,.inl ae,fun x c e=>(f2 b ae).2.2.2.2.1 x c (vQ e),fun p afS z=>by
     have aaC:p ∈ pl:=by simpa using afS
     exact (below b (yt b ae)).2 (by rw [<- z];exact aq p aaC)⟩
   have HC:∀ p ∈ [((D,{ cls:=.type "list",data:=.seq vs.toArray n }):Addr × Obj)],p.1=D:=fun p aq=>by
    have e:p=(D,{ cls:=.type "list",data:=.seq vs.toArray n }):=by simpa using aq
    rw [e]
   rcases fN i k ys I w with ⟨stop,y2⟩ | ⟨go,hlen,step⟩
   .refine bL (T.done (X.block scope C N d3 iZ bf) rfl rfl rfl ar i _ s' _ I _ Iy (ML HC fr) st stop) fun r s4 cL=>?_
    obtain ⟨aj,fY⟩:=cL;subst aj;have sS:=fY.pin (D,{ cls:=.type "list",data:=.seq vs.toArray n }) (by simp);have SQ:I D=none:=sS.2.1;have abD:Inv X aa σ I s4:=bK.xi (ch:=bf) fY.os fY.base fY.bh fY.bare fun b ae=>⟨(f2 b ae).2.2.2.1,(f2 b ae).2.1,(f2 b ae).2.2.2.2.1,(f2 b ae).2.2.2.2.2⟩
    have ti:Ty X aa I D:=bK.oU (by rw [pn];exact bP _) SQ;have FV:Inv X aa σ (upd I D (.lst ys)) s4:=abD.adopt ti ⟨TS,vs,n,cw,sS.1⟩;obtain ⟨ahZ,Yw,_⟩:=fY.loc;refine fin D C ys I s4 FV ⟨ahZ,Yw⟩ (bK.oU (by rw [pn];exact Lw) ?_) (y2 D SQ);rw [aZ (dF wK)];exact fY.free
   .refine bL (T.item (X.block scope C N d3 iZ bf) rfl rfl rfl ar i _ s' _ I _ Iy (ML HC fr) st go) fun r s4 cL=>?_
    obtain ⟨u,aj,bQ⟩:=cL;subst aj;refine bL bQ fun _ s5 cL=>?_
    obtain ⟨x,c3,wg,Hp,Fj,s7,E0⟩:=cL;have GI:=wg.pinned (ML HC E0) (T.obj _ _ s7);refine bL (B.QL C d3 iZ bf _ s5 _ c3 x u _ GI Hp (step x c3 Fj)) fun _ dO cL=>?_
    obtain ⟨oX,fz,ov,qV,Ki⟩:=cL;refine bL (B.tests C d3 iZ bf _ dO oX fz _ ov Ki) fun c gs cL=>?_
    obtain ⟨fe,ll,oA⟩:=cL;have again:∀ {vG:St} {iY:au} {hJ:Shared},Inv (X.block scope C N d3 iZ bf) ([(D,{ cls:=.type "list",data:=.seq vs.toArray n })] ++ yj bf s5.heap) vG iY hJ->ig (i + 1) hJ.heap/\(∀ b ∈ bf,iY b=none):=fun {vG iY hJ} qk=>by
     refine ⟨T.keep _ _ _ s7 fun b ae o e=>(qk.pin (b,o) (iV _ (iV _ (AZ ae e)))).1,fun b ae=>?_⟩;obtain ⟨o,e,d⟩:=T.obj _ _ s7 b ae;exact (qk.pin (b,o) (iV _ (iV _ (AZ ae e)))).2.1
    have back:∀ {iY:au} {hJ:Shared} {pl:List (Addr × Obj)},Inv (X.block scope C N d3 iZ bf) pl oX iY hJ->Inv (X.block scope C N d3 iZ bf) pl (nF sel σ) iY hJ:=fun {iY hJ pl} qk=>qk.weak qV.1.symm qV.2
    cases c with
    | false=>
     obtain ⟨dm,hm,eH⟩:=oA;obtain ⟨t1,gw⟩:=again ll;exact ⟨dm,hm,i + 1,ys,_,n,fe,back ll.Bz,⟨vs,rfl,cw⟩,TS,t1,gw,eH⟩
    | true=>
     refine bL (B.elem C d3 iZ bf _ gs oX fe _ ll oA) fun v hJ cL=>?_
     obtain ⟨y,iY,qk,am_,dm,hm,eH⟩:=cL;obtain ⟨t1,gw⟩:=again qk;have sS:=qk.pin (D,{ cls:=.type "list",data:=.seq vs.toArray n }) (by simp);refine append_at (hsz:=by have:=cw.length;rw [ft];omega) sS.1 fun wC Pr abB=>?_
     have ab4:Inv (X.block scope C N d3 iZ bf) [] (nF sel σ) iY hJ:=(back qk).sq fun p aq=>nomatch aq
     have ti:Ty (X.block scope C N d3 iZ bf) [] iY D:=⟨sS.2.1,wK,Ln,.inr (by show d3.heap.objs.size <= D;rw [pn];exact bP _),(fun x c e z=>by
      obtain ⟨apR,o,aW,hd⟩:=qk.cell x c e;rw [z,sS.1] at aW;cases aW;cases hd),(fun p aq=>nomatch aq)⟩
     have Xb:Inv (X.block scope C N d3 iZ bf) [] (nF sel σ) iY { hJ with heap:=wC }:=ab4.turned (t':=hJ.toks) (it:=D) (fun b o ae e=>(Pr.2 b ae).trans e) ti.1 ti.2.1 ti.2.2.2.1 ti.2.2.2.2.1 ti.2.2.2.2.2;refine ⟨dm,hm,i + 1,ys ++ [y],vs.toArray.push v,n + 1,iY,Xb.sq fun p aq=>?_,⟨vs ++ [v],by simp,VF cw am_⟩,by rw [cC,uK];omega,T.keep _ _ _ t1 fun b ae o e=>(Pr.2 b (below b (yt b ae)).2).trans e,gw,eH⟩;have e:p=(D,{ cls:=.type "list",data:=.seq (vs.toArray.push v) (n + 1) }):=by simpa using aq
     subst e;exact ⟨abB,sS.2.1,wK,Ln,fun v z=>by cases z⟩
  .have e:p=(D,{ cls:=.type "list",data:=.seq ([]:List Value).toArray }):=by simpa using aq
   subst e;exact ⟨Ze,bK.bh.fresh (by rw [pn];exact bP _),wK,Ln,fun v z=>by cases z⟩
 exact codeAny_compStart_list (loop _ rfl) (T.self _ 0 _ _ _ QK (loop _ rfl))
theorem gy (ar:X.calm=true) (ag:o9 X dr iter gz) (S:qS X.env scope) (ri:wq X.N scope N sel) (B:eT X scope N dr elt ifs g dd bN)
  (aw:∀ x,foldedSetIterable iter X.env x=pure x:=by intro _;rfl):bz X (.ListComp elt [⟨dr,iter,ifs,0⟩] scope pos) (He gz g dd bN sel):=by
 intro aa s σ H Q J h;rw [eval_ListComp];refine wpAny_comprehension_free (use:=none) rfl aw (Qd (S.cells J.ok)) S.kind S.loc ?_;refine bL (ag aa s σ H _ J h) fun v s1 ab=>bL ab fun B1 s2 ai=>?_
 obtain ⟨it,bf,ig,bF,az,e,bK,T,rN,f2,W,nY,fN⟩:=ai;subst e;refine PX (RR:=fun acc C=>compPost (model X.prog X.w) X.A X.dz none (f5 X aa σ Q) acc C) ar S ri B bK T rN f2 nY fN fun D C ys I s' iu ⟨m,hm⟩ hl q=>?_
 exact ⟨m,hm,fun h' uQ=>⟨.ref D,_,iu.turned (t':=s'.toks) (it:=C) (fun b o ae e=>(uQ.2 b ae).trans e) hl.1 hl.2.1 hl.2.2.2.1 hl.2.2.2.2.1 hl.2.2.2.2.2,rfl,q⟩⟩
theorem yr {i:Nat} {y:Str} {py Ss:Pos} (bb:X.N.Nodup) (ag:X.N[i]? = some y) (af:Loc X.env.scope y) (ar:X.calm=true) (hit:o9 X dr iter gz) (S:qS X.env scope) (ri:wq X.N scope N sel) (B:eT X scope N dr elt ifs g dd bN)
  (aln:swapsWith (.ListComp elt [⟨dr,iter,ifs,0⟩] scope pos) (some (.Name y py)) Ss.line X.env=pure true) (hf:X.fn y=true\/X.env.scope.names.lookup y=some .local:=by first | exact .inl rfl | exact .inr rfl | assumption)
  (aw:∀ x,foldedSetIterable iter X.env x=pure x:=by intro _;rfl):f9 X (.Assign [.Name y py] (.ListComp elt [⟨dr,iter,ifs,0⟩] scope pos) Ss) (vU (He gz g dd bN sel) (e_ i)):=by
 intro aa s σ H D J h;rw [exec_Assign_Name_used _ _ _ _ aln];refine wpAny_bind (wpAny_standAt (wpAny_bind ?_));show wpAny _ X.A (do let _ <- comprehension (.ListComp elt [⟨dr,iter,ifs,0⟩] scope pos) scope X.env _ (newList []) false (eval iter X.env) (some (assign (.Name y py) X.env))) _ _ s;refine wpAny_bind (wpAny_mono (wpAny_comprehension_free (use:=some (assign (.Name y py) X.env)) (Q:=fun _ s'=>oP X aa D .next s') rfl aw (Qd (S.cells J.ok)) S.kind S.loc ?_) (fun _ s' aM=>wpAny_pure (wpAny_pure aM)) fun _ _ e=>e);refine bL (hit aa s σ H _ J h) fun v s1 ab=>bL ab fun B1 s2 ai=>?_
 obtain ⟨it,bf,ig,bF,az,e,bK,T,rN,f2,W,nY,fN⟩:=ai;subst e;refine PX (RR:=fun acc C=>compPost (model X.prog X.w) X.A X.dz (some (assign (.Name y py) X.env)) (fun _ s'=>oP X aa D .next s') acc C) ar S ri B bK T rN f2 nY fN fun Da C ys I s' iu ⟨m,hm⟩ hl q=>?_
 show wpAny _ X.A (assign (.Name y py) X.env (.ref Da)) _ _ _;refine wpAny_assign_Name (OG iu bb ag af (show b1 (.ref Da) (.ref Da) from rfl) (fun s3 eK cL=>?_) hf);obtain ⟨a,uQ,aK⟩:=cL;have amg:C ≠ a:=by
  rcases aK with z | z
  .rw [z];exact hl.2.1
  .exact fun w=>hl.2.2.2.2.1 y a z w.symm
 refine ⟨m,hm.sameBut uQ amg,fun h' alC=>⟨_,_,eK.turned (t':=s3.toks) (it:=C) (fun b o ae e=>(alC.2 b ae).trans e) hl.1 hl.2.1 hl.2.2.2.1 hl.2.2.2.2.1 hl.2.2.2.2.2,q⟩⟩
end
def oV (Pv:Nat->List V->au->Prop) (g:gP) (dd:TT) (bN:TE) (dp:St) (i:Nat) (x:V) (ys:List V) (H:au):Prop:=
 ∀ N:List V->au->Prop,(∀ kd I,Pv (i + 1) kd I->N kd I)->g x dp H fun cH az=>Sub dp cH/\dd cH az fun c bI=>if c=true then bN cH bI fun y cD=>N (ys ++ [y]) cD else N ys bI
theorem Ys {K:bc} (Pv:Nat->List V->au->Prop) (aF:xs.length <= sizeLine) (h0:Pv 0 [] H) (aD:∀ i ys H,i <= xs.length->Pv i ys H->ak K H a xs/\ys.length <= i)
  (aw:∀ i x ys H,xs[i]? = some x->Pv i ys H->oV Pv g dd bN dp i x ys H) (hd:∀ ys H,Pv xs.length ys H->∀ p,H p=none->Q (.ref p) (upd H p (.lst ys))) :
  ∃ W:Nat->Nat->List V->au->Prop,(∃ m,W 0 m [] H)/\sN (oj K a) g dd bN dp Q W:=by
 refine ⟨fun i m ys H=>m=xs.length - i/\i <= xs.length/\Pv i ys H,⟨xs.length,by simp,fg _,h0⟩,?_⟩;rintro i m ys H ⟨rfl,ag,p⟩;have q:=(aD i ys H ag p).1;have Dk:=(aD i ys H ag p).2;by_cases cQ:i < xs.length
 .refine .inr ⟨⟨xs,xs[i],q,by simp [cQ]⟩,by omega,fun x I y=>?_⟩;obtain ⟨e,y⟩:=y;subst e;exact aw i x ys _ (y xs q) p (fun kd I=>∃ dm,dm < xs.length - i/\dm=xs.length - (i + 1)/\i + 1 <= xs.length/\Pv (i + 1) kd I) fun kd I r=>⟨xs.length - (i + 1),by omega,rfl,cQ,r⟩
 .have e:i=xs.length:=by omega
  subst e;exact .inl ⟨⟨xs,q,bP _⟩,hd ys H p⟩
theorem amK {K:bc} (Pv:Nat->List V->au->Prop) (aF:xs.length <= sizeLine) (h0:Pv 0 [] H) (aD:∀ i ys H,i <= xs.length->Pv i ys H->cS K H a xs/\ys.length <= i)
  (aw:∀ i x ys H,xs[i]? = some x->Pv i ys H->oV Pv g dd bN dp i x ys H) (hd:∀ ys H,Pv xs.length ys H->∀ p,H p=none->Q (.ref p) (upd H p (.lst ys))) :
  ∃ W:Nat->Nat->List V->au->Prop,(∃ m,W 0 m [] H)/\sN (A3 K a) g dd bN dp Q W:=by
 refine ⟨fun i m ys H=>m=xs.length - i/\i <= xs.length/\Pv i ys H,⟨xs.length,by simp,fg _,h0⟩,?_⟩;rintro i m ys H ⟨rfl,ag,p⟩;have q:=(aD i ys H ag p).1;have Dk:=(aD i ys H ag p).2;by_cases cQ:i < xs.length
 .refine .inr ⟨⟨xs,xs[i],q,by simp [cQ]⟩,by omega,fun x I y=>?_⟩;obtain ⟨e,y⟩:=y;subst e;exact aw i x ys _ (y xs q) p (fun kd I=>∃ dm,dm < xs.length - i/\dm=xs.length - (i + 1)/\i + 1 <= xs.length/\Pv (i + 1) kd I) fun kd I r=>⟨xs.length - (i + 1),by omega,rfl,cQ,r⟩
 .have e:i=xs.length:=by omega
  subst e;exact .inl ⟨⟨xs,q,bP _⟩,hd ys H p⟩
theorem am9 {lo:Int} {n:Nat} {g:gP} {dd:TT} {bN:TE} {dp:St} {Q:cJ} {H:au} (Pv:Nat->List V->au->Prop) (aF:n <= sizeLine) (h0:Pv 0 [] H) (aD:∀ i ys H,i <= n->Pv i ys H->ys.length <= i)
  (aw:∀ i ys H,i < n->Pv i ys H->oV Pv g dd bN dp i (.int (lo + i)) ys H) (hd:∀ ys H,Pv n ys H->∀ p,H p=none->Q (.ref p) (upd H p (.lst ys))) :
  ∃ W:Nat->Nat->List V->au->Prop,(∃ m,W 0 m [] H)/\sN (l9 lo n) g dd bN dp Q W:=by
 refine ⟨fun i m ys H=>m=n - i/\i <= n/\Pv i ys H,⟨n,by simp,fg _,h0⟩,?_⟩;rintro i m ys H ⟨rfl,ag,p⟩;have Dk:=aD i ys H ag p;by_cases cQ:i < n
 .refine .inr ⟨cQ,by omega,fun x I y=>?_⟩;obtain ⟨e,y⟩:=y;subst e y;exact aw i ys _ cQ p (fun kd I=>∃ dm,dm < n - i/\dm=n - (i + 1)/\i + 1 <= n/\Pv (i + 1) kd I) fun kd I r=>⟨n - (i + 1),by omega,rfl,cQ,r⟩
 .have e:i=n:=by omega
  subst e;exact .inl ⟨bP _,hd ys H p⟩
noncomputable def yM (xs:List V):kI:=⟨fun i _=>i < xs.length,fun i H x I=>I=H/\xs[i]? = some x,fun i _=>xs.length <= i⟩
theorem Sy {w:World} {K:bc} {it:Addr} {St:Nat->Heap->Prop} (fN:∀ A:Around,A.handled=none->Walks P w A it [it] [it] xs.length abx St)
  (cN:∀ i v,abx i v->∃ x,xs[i]? = some x/\b1 x v)
  (vh:∀ i h,St i h->∃ o n vs,h.get? it=some o/\o.cls=.type n/\o.data=.fields vs/\["enumerate","zip","dict_itemiterator","dict_reverseitemiterator","odict_iterator","itertools.zip_longest","itertools.pairwise"].contains n=false)
  (pe:∀ i h h',St i h->(∀ o,h.get? it=some o->h'.get? it=some o)->St i h')
  (acL:∀ (A:Around) (i:Nat) (s:Shared) (Q:Value->Shared->Prop) (E:Value->Shared->Prop),St i s.heap->Q (.ref it) s->wpAny (model P w) A (pyIter (.ref it)) Q E s) :
  rY P w K dr (yM xs) [it] it (fun i h=>i <= xs.length/\St i h) where
 mem:=by simp
 obj:=fun i h st b ae=>by
  have e:b=it:=by simpa using ae
  subst e;obtain ⟨o,n,vs,e,_,d,_⟩:=vh i h st.2;exact ⟨o,e,fun v z=>by rw [d] at z;cases z⟩
 keep:=fun i h h' st k=>⟨st.1,pe i h h' st.2 fun o e=>k it (by simp) o e⟩
 item:=by
  intro X Kx hw f6 ar i aa s σ H E J hf st bg;subst Kx hw f6;obtain ⟨f0,f1,f2,fw,f4,f7⟩:=hf it (by simp);refine (fN X.A (J.ok.hd ar)).item i s _ _ bg st.2 fun v h' tk aG f3 pA=>?_
  obtain ⟨x,af,a8⟩:=cN i v aG;have aP:Inv X aa σ H { s with heap:=h',toks:=tk }:=J.turned (fun b o ae e=>pA b o (by simpa using ae) e) f0 f1 fw f4 f7;obtain ⟨o,n,vs,e,c,d,nm⟩:=vh _ _ f3;exact ⟨v,rfl,Ey (s:={ s with heap:=h',toks:=tk }) e c d nm ⟨x,H,aP,a8,⟨rfl,af⟩,⟨bg,f3⟩,fun b ae=>(hf b ae).1⟩⟩
 done:=by
  intro X Kx hw f6 ar i aa s σ H E J hf st bg;subst Kx hw f6;obtain ⟨f0,f1,f2,fw,f4,f7⟩:=hf it (by simp);have e:i=xs.length:=Nat.le_antisymm st.1 bg;subst e;exact (fN X.A (J.ok.hd ar)).done s _ _ st.2 fun h' tk pA=>⟨rfl,J.turned (fun b o ae e=>pA b o (by simpa using ae) e) f0 f1 fw f4 f7⟩
 self:=fun A i s Q E st h=>acL A i s Q E st.2 h
noncomputable def jO (c:Nat):Str:=⟨#[c]⟩
noncomputable def ox (x:Str):List V:=x.cps.toList.map fun c=>V.str (jO c)
theorem P7 (x:Str):(ox x).length=x.cps.size:=by unfold ox;simp
theorem akF {x:Str} {i c:Nat} (h:x.cps[i]? = some c):(ox x)[i]? = some (.str (jO c)):=by
 unfold ox;rw [cV,aly,h];rfl
theorem TP {x:Str} {i:Nat} {v:Value} (h:SignAt x i v):∃ y,(ox x)[i]? = some y/\b1 y v:=by
 obtain ⟨c,u,ar,rfl⟩:=h;exact ⟨.str (jO c),akF ar,u,rfl⟩
section
variable {X:a0} {dr:Expr}
noncomputable def J4 (bo:TE):TI:=fun σ H R=>bo σ H fun x H1=>∃ z,x=.str z/\R (yM (ox z)) H1
theorem aeZ (aD:bz X l bo):o9 X dr l (J4 bo):=by
 intro aa s σ H R J h;refine bL (aD aa s σ H _ J h) fun v s1 cz=>eC cz fun x H1 aP cG bT=>?_
 obtain ⟨z,e,q⟩:=bT;subst e;obtain ⟨t,rfl⟩:=cG;have hl:∀ b ∈ [s1.heap.objs.size],Ty X aa H1 b:=fun b ae=>by
  have e:b=s1.heap.objs.size:=by simpa using ae
  subst e;exact aP.oU (bP _) (aP.bh.fresh (bP _))
 have aF:=P7 z;cases aK:z.cps.all (· < 128) with
 | false=>
  refine wpAny_pyIter_wide aK ⟨s1.heap.objs.size,[s1.heap.objs.size],fun i h=>i <= (ox z).length/\h.IsStrIter s1.heap.objs.size "str_iterator" z t i,_,H1,rfl,aP.kept (t':=s1.toks) fun b o e=>ed _ e,
   Sy (fun A h3=>by rw [aF];exact Walks.strWide h3 _ z t) (fun i v=>TP) (fun i h ⟨o,e,c,d⟩=>⟨o,_,_,e,c,d,by decide⟩) (fun i h h' ⟨o,e,r⟩ k=>⟨o,k o e,r⟩) (fun A i s Q E st q=>wpAny_pyIter_striter_wide st q),
   ⟨fg _,_,hS _ rfl,rfl,rfl⟩,hl,q⟩
 | true=>
  refine wpAny_pyIter_ascii aK ⟨s1.heap.objs.size,[s1.heap.objs.size],fun i h=>i <= (ox z).length/\h.IsStrIter s1.heap.objs.size "str_ascii_iterator" z t i,_,H1,rfl,aP.kept (t':=s1.toks) fun b o e=>ed _ e,
   Sy (fun A h3=>by rw [aF];exact Walks.strAscii h3 _ z t) (fun i v=>TP) (fun i h ⟨o,e,c,d⟩=>⟨o,_,_,e,c,d,by decide⟩) (fun i h h' ⟨o,e,r⟩ k=>⟨o,k o e,r⟩) (fun A i s Q E st q=>wpAny_pyIter_striter_ascii st q),
   ⟨fg _,_,hS _ rfl,rfl,rfl⟩,hl,q⟩
end
theorem ang (Pv:Nat->List V->au->Prop) (aF:xs.length <= sizeLine) (h0:Pv 0 [] H) (aD:∀ i ys H,i <= xs.length->Pv i ys H->ys.length <= i)
  (aw:∀ i x ys H,xs[i]? = some x->Pv i ys H->oV Pv g dd bN dp i x ys H) (hd:∀ ys H,Pv xs.length ys H->∀ p,H p=none->Q (.ref p) (upd H p (.lst ys))) :
  ∃ W:Nat->Nat->List V->au->Prop,(∃ m,W 0 m [] H)/\sN (yM xs) g dd bN dp Q W:=by
 refine ⟨fun i m ys H=>m=xs.length - i/\i <= xs.length/\Pv i ys H,⟨xs.length,by simp,fg _,h0⟩,?_⟩;rintro i m ys H ⟨rfl,ag,p⟩;have Dk:=aD i ys H ag p;by_cases cQ:i < xs.length
 .refine .inr ⟨cQ,by omega,fun x I y=>?_⟩;obtain ⟨e,y⟩:=y;subst e;exact aw i x ys _ y p (fun kd I=>∃ dm,dm < xs.length - i/\dm=xs.length - (i + 1)/\i + 1 <= xs.length/\Pv (i + 1) kd I) fun kd I r=>⟨xs.length - (i + 1),by omega,rfl,cQ,r⟩
 .have e:i=xs.length:=by omega
  subst e;exact .inl ⟨bP _,hd ys H p⟩
section
variable {X:a0}
noncomputable def IT:V->Option Int->Option Int->au->cJ->Prop:=fun x lo ag H Q=>∃ z,x=.str z/\z.length <= sizeLine/\Q (.str (mv z lo ag)) H
theorem z8:Au X IT:=by
 intro aa s σ H x v kn kq lo ag bk Q J a8 aw pl pu h;obtain ⟨z,rfl,aF,q⟩:=h;obtain ⟨t,rfl⟩:=a8;refine ⟨"str",_,F.slot_str_getitem.lookup,typeIs_str s z t,?_⟩;have fin:∀ t' k,f5 X aa σ Q (.str (mv z lo ag) t') { s with toks:=k }:=fun t' k=>⟨.str _,H,J.tok _,⟨_,rfl⟩,q⟩
 cases pl with
 | none=>
  cases pu with
  | none=>exact wpAny_getItem_str_slice (l:=none) (u:=none) (st:=none) aw rfl (post_val_or_str ⟨cq (vC z _ _) aF,fin⟩)
  | int j IC=>exact wpAny_getItem_str_slice (l:=none) (u:=some (j,IC)) (st:=none) aw rfl (post_val_or_str ⟨cq (vC z _ _) aF,fin⟩)
 | int i SD=>
  cases pu with
  | none=>exact wpAny_getItem_str_slice (l:=some (i,SD)) (u:=none) (st:=none) aw rfl (post_val_or_str ⟨cq (vC z _ _) aF,fin⟩)
  | int j IC=>exact wpAny_getItem_str_slice (l:=some (i,SD)) (u:=some (j,IC)) (st:=none) aw rfl (post_val_or_str ⟨cq (vC z _ _) aF,fin⟩)
noncomputable def ba (ys:List Str):List V:=ys.map V.str
theorem acR:∀ {ys:List Str} {us:List Value},cj (ba ys) us->StrsAre us ys:=by
 intro ys
 induction ys with
 | nil=>intro us r;cases r;exact .nil
 | cons y ys c2=>
  intro us r;cases r with
  | cons cG e3=>
   obtain ⟨t,rfl⟩:=cG;exact .cons y t (c2 e3)
theorem QW:∀ (l:List (Str × Tok)),cj (ba (l.map (·.1))) (strValues l)
 | []=>.nil
 | (x,t) :: r=>.cons ⟨t,rfl⟩ (QW r)
noncomputable def LM (K:bc):V->List V->au->cJ->Prop:=fun x vs H Q=>∃ sep p ys,x=.str sep/\vs=[.ref p]/\ak K H p (ba ys)/\(ys.map (·.length)).sum + ys.length * sep.length <= 16777216/\Q (.str (qA sep ys)) H
theorem x7:sd X "str.join" (LM X.K):=by
 intro aa s σ H x xs v us Q J a8 cw h;obtain ⟨sep,p,ys,rfl,rfl,aM,aF,q⟩:=h;obtain ⟨t,rfl⟩:=a8;obtain ⟨u,rfl,ej⟩:=lR cw;cases ej;obtain ⟨a4,r,pl,_⟩:=J.list aM;exact join_list pl.isList (by simpa using acR r) aF fun t' k=>⟨.str _,H,J.tok _,⟨_,rfl⟩,q⟩
end
theorem UF {prog:Program} {w:World} {A:Around} {x y:Str} {t u:Tok} (aU:(y.length == 0)=false)
  (h:∀ l k,l.map (·.1)=iM x y->Q (.ref s.heap.objs.size) { s with heap:=s.heap.push { cls:=.type "list",data:=.seq (strValues l).toArray },toks:=k }) (hsz:x.length + 2 <= sizeLine) :
  wpAny (model prog w) A (call (.builtin "str.split") [.str x t,.str y u]) Q E s:=by
 have aV:(aiQ x (sV x y 0 x.length (x.length + 1)) y.length).length <= sizeLine:=by
  have ao:=StrLaws.occ_length_le x y 0 x.length (x.length + 1);rw [length_partsBetween];omega
 cases ab:(decide (x.length < y.length) || decide (ack x < ack y))
 .cases hf:(sV x y 0 x.length (x.length + 1)).isEmpty
  .refine call_meets CF (typeIs_str _ _ _) Q5 (WI _ _) (meets_str_split_sep x y t u ab aU hf (by omega) aV) ?_;show wants Q E _ { s with toks:=_,heap:=s.heap.push { cls:=.type "list",data:=.seq (strsFrom s.toks (aiQ x (sV x y 0 x.length (x.length + 1)) y.length)).toArray } };rw [strsFrom_eq];exact h (numbered s.toks _) _ ((numbered_texts _ _).trans ((if_neg (ne_true_of_eq_false ab)).trans (if_neg (ne_true_of_eq_false hf))).symm)
  .exact call_meets CF (typeIs_str _ _ _) Q5 (WI _ _) (meets_str_split_not_found x y t u ab aU hf)
    (h [(x,t)] s.toks ((if_neg (ne_true_of_eq_false ab)).trans (if_pos hf)).symm)
 .exact call_meets CF (typeIs_str _ _ _) Q5 (WI _ _) (meets_str_split_cannot_occur x y t u ab)
   (h [(x,t)] s.toks (if_pos ab).symm)
section
variable {X:a0}
noncomputable def Io:V->List V->au->cJ->Prop:=fun x vs H Q=>∃ z y,x=.str z/\vs=[.str y]/\y.length ≠ 0/\z.length + 2 <= sizeLine/\(iM z y).length <= sizeLine/\∀ p,H p=none->Q (.ref p) (upd H p (.lst (ba (iM z y))))
theorem Py:sd X "str.split" Io:=by
 intro aa s σ H x xs v us Q J a8 cw h;obtain ⟨z,y,rfl,rfl,aU,aF,aV,q⟩:=h;obtain ⟨t,rfl⟩:=a8;obtain ⟨u,rfl,ej⟩:=lR cw;obtain ⟨jI,rfl⟩:=ej;refine UF (by simpa using aU) (fun l k aD=>?_) aF;refine ⟨.ref s.heap.objs.size,_,J.laid (t':=k) (o:=.lst (ba (iM z y))) (fun b o e=>ed _ e) (bP _) ⟨by unfold ba;rw [aR];exact aV,strValues l,0,by rw [<- aD];exact QW l,hS _ rfl⟩,rfl,q _ (J.bh.fresh (bP _))⟩
theorem agw:mS X (.type "int") (fun xs H Q=>∃ z n,xs=[.str z]/\intText? z=some n/\z.length <= 640/\Q (.int n) H):=by
 intro aa s σ H xs us Q J r h;obtain ⟨z,n,rfl,aV,aF,q⟩:=h;obtain ⟨u,rfl,t,rfl⟩:=lR r;exact PySem.W.KIN.call_text aV aF ⟨.int n,H,J.tok _,⟨_,rfl⟩,q⟩
theorem Qb:∀ {bs:List Bool} {us:List Value},cj (bs.map V.bw) us->us=bs.map hX
 | [],_,.nil=>rfl
 | b :: bs,_,.cons r t=>by
  have e:_=hX b:=r;rw [e,Qb t];rfl
theorem ZP {A:Around} (bs:List Bool):TruthOf X.prog X.w A (fun i v=>(bs.map hX).toArray[i]? = some v) (fun i=>bs.getD i true):=by
 intro i v s Q E cN aX;have e:(bs.map hX)[i]? = some v:=by simpa using cN
 rw [cV] at e;cases q:bs[i]? with
 | none=>rw [q] at e;cases e
 | some b=>
  rw [q] at e;have bW:hX b=v:=eL e;subst bW;refine wpAny_truthy_bool ?_;have:bs.getD i true=b:=by simp [VS,q]
  have qx:Q (bs.getD i true) s:=aX;rw [this] at qx;exact qx
theorem aaY (bs:List Bool):(cY bs.length).all (fun i=>bs.getD i true)=bs.all id:=by
 rw [n5];simp only [sl,j2,id];constructor
 .intro h b ae;obtain ⟨i,ag,e⟩:=List.mem_iff_getElem.mp ae;have:=h i ag;simp [VS,ag,e] at this;exact this
 .intro h i ag;simp [VS,ag];exact h _ (jb ag)
theorem ai7 (ar:X.calm=true):mS X (.builtin "all") (fun xs H Q=>∃ (p:Addr) (bs:List Bool),xs=[.ref p]/\ak X.K H p (bs.map V.bw)/\Q (.bw (bs.all id)) H):=by
 intro aa s σ H xs us Q J r h;obtain ⟨p,bs,rfl,aM,q⟩:=h;obtain ⟨u,rfl,ej⟩:=lR r;cases ej;obtain ⟨a4,cw,pl,_⟩:=J.list aM;have e:=Qb cw;subst e;refine call_all_walk (wpAny_pyIter_list pl.isList ?_);have cB:p ≠ s.heap.objs.size:=gd (by obtain ⟨o,_,aW,_⟩:=pl;exact d1 aW);refine ⟨s.heap.objs.size,_,_,_,_,_,fun i=>bs.getD i true,rfl,L8 (show X.A.in1.handled=none from J.ok.hd ar) _ p cB (bs.map hX).toArray,⟨⟨_,hS _ rfl,rfl,rfl⟩,pl.isList.at fun o e=>ed _ e⟩,ZP bs,fun h' tk pA=>?_⟩;refine ⟨.bw (bs.all id),H,J.kept fun b o e=>pA b o (by simpa using gd (d1 e)) (ed _ e),?_,q⟩;show hX _=hX _;rw [show (bs.map hX).toArray.size=bs.length by simp,aaY]
theorem am8:mS X (.builtin "isinstance") (fun xs H Q=>∃ x T t b,xs=[x,.ty T]/\mB X.K H x t/\ad1 X.K t (.type T)=some b/\Q (.bw b) H):=by
 intro aa s σ H xs us Q J r h;obtain ⟨x,T,t,b,rfl,ty,e,q⟩:=h;obtain ⟨u,sQ,rfl,a8,e3⟩:=M0 r;cases e3;exact anm J a8 ty e fun tk=>⟨.bw b,H,J.tok _,rfl,q⟩
end
theorem dX {X:a0} {N:List Str} (h:N.Nodup) (e:X.N=N):X.N.Nodup:=e ▸ h
noncomputable def NZ (sc scope:Scope):Bool:=
 (scope.kind == .function) && scope.names.all (fun y=>y.2 != .cell) && scope.names.all (fun y=>y.2 != .free || sc.names.lookup y.1 == some .cell || sc.names.lookup y.1 == some .free) &&
  scope.names.all (fun y=>y.2 != .local || scope.names.lookup y.1 == some .local)
theorem fy {env:Env} (he:env.scope=sc) (h:NZ sc scope=true):qS env scope:=by
 subst he;unfold NZ at h;simp only [jX,sl] at h;obtain ⟨⟨⟨ab,ai⟩,a5⟩,bQ⟩:=h;refine ⟨by simpa using ab,fun y aU e=>?_,fun y aU e=>?_,fun y aU e=>?_⟩
 .have:=ai y aU;rw [e] at this;exact absurd this (by decide)
 .have:=a5 y aU;rw [e] at this;simp only [y3] at this;rcases this with (z | z) | z
  .exact absurd z (by decide)
  .exact .inl (show env.scope.names.lookup y.1=some .cell by simpa using z)
  .exact .inr (show env.scope.names.lookup y.1=some .free by simpa using z)
 .have:=bQ y aU;rw [e] at this;simp only [y3] at this;rcases this with z | z
  .exact absurd z (by decide)
  .simpa using z
noncomputable def UI (M:List Str) (scope:Scope) (N:List Str) (sel:List (Option Nat)):Bool:=
 sel.length == N.length && (sel.zip N).all fun p=>match p.1 with | none=>true | some j=>M[j]? == some p.2 && scope.names.lookup p.2 == some .free
theorem fs {N:List Str} (h:UI M scope N sel=true):wq M scope N sel:=by
 unfold UI at h;simp only [jX,sl] at h;refine ⟨by simpa using h.1,fun i j x ao aC=>?_⟩;have hm:(some j,x) ∈ sel.zip N:=by
  rw [List.mem_iff_getElem?];exact ⟨i,by rw [List.getElem?_zip_eq_some];exact ⟨ao,aC⟩⟩
 have:=h.2 _ hm;simp only [jX] at this;exact ⟨by simpa using this.1,by simpa using this.2⟩
noncomputable def qr:gL->Bool
 | .fX _=>false
 | .ja _ u=>qr u
 | _=>true
def aL (H:au):Prop:=∀ b o,H b=some o->qr o=true
theorem dS.back {w:World} {h h':Heap}:∀ (o:gL),qr o=true->dS P w I h' a o->dS P w H h a o->dS P w H h' a o
 | .lst _,_,x,_=>x
 | .tup _,_,x,_=>x
 | .di _,_,x,_=>x
 | .fX _,e,_,_=>absurd e (by unfold qr;decide)
 | .set _ _,_,x,_=>x
 | .ins _ _ _,_,x,y=>⟨y.1,x.2⟩
 | .own _,_,x,_=>x
 | .AF _,_,x,_=>x
 | .met _ _,_,x,_=>x
 | .Dl _ _,_,x,_=>x
 | .ja cU u,e,x,y=>⟨x.1,dS.back u (by unfold qr at e;exact e) x.2 y.2⟩
 | .hn _,_,x,_=>x
 | .ext _,_,x,_=>x
section
variable {P:Program} {w:World} {K:bc} {mg:Str->Option Value} {base:Heap}
theorem bV.forget {k:Nat} {fd:FuncData} (F:bV P w K mg base c9 k f fd ps sp)
  (h:∀ vs H Q E,qf vs H Q E->aL H/\sp vs H (fun v I=>aH H I/\Q v H) E):bV P w K mg base c9 k f fd ps qf:=by
 refine ⟨fun vs H Q E q=>F.len vs H _ E (h vs H Q E q).2,fun A outer s H args us vs Q E aj he ae aG aw=>?_⟩;obtain ⟨bC,q⟩:=h vs H Q E aw;refine codeAny_mono (F.run A outer s H args us vs _ E aj he ae aG q) fun r s' aM=>?_
 cases r with
 | error e=>exact aM
 | ok c_=>
  cases c_ with
  | next=>exact aM
  | brk=>exact aM
  | cont=>exact aM
  | ret u=>
   obtain ⟨v,I,os,bare,un,bh,cw,bu,cb⟩:=aM;exact ⟨v,H,os,bare,⟨un.keep,un.slot,fun _ _ _ n _=>n,un.there,fun _ _ z=>z,fun _ _ _ z=>z,fun _ ps z=>⟨#[],by rw [z];simp⟩⟩,fun a o e=>(bh a o (bu a o e)).back o (bC a o e) (he.bh a o e),cw,cb⟩
end
theorem a' {p:Addr} (h:H p=none):aH H (upd H p o):=fun b u q=>by rw [aZ (Db q h)];exact q
theorem aH.gk {p:Addr} (s:aH H H1) (h:H p=none):aH H (upd H1 p o):=fun b u q=>by rw [aZ (Db q h)];exact s b u q
structure Sc (K:bc) (a:Addr) (ns:List Int) (H:au):Prop where
 n2:(∃ o,H a=some (.ja o (.lst (ns.map V.int))))\/∃ (o:Obj) (a4:Array Value) (n:Nat),K.lookup a=some o/\o.cls=.type "list" /\ o.dict=none/\o.data=.seq a4 n/\a4.size <= sizeLine/\cj (ns.map V.int) a4.toList
 bC:aL H
section
variable {K:bc} {a p:Addr} {ns:List Int} {H I:au} {o:gL}
theorem Sc.seq (s:Sc K a ns H):ak K H a (ns.map V.int):=by
 rcases s.n2 with ⟨o,h⟩ | h
 .exact .inl (.inr ⟨o,h⟩)
 .exact .inr h
theorem Sc.new (s:Sc K a ns H) (aq:H p=none) (aW:qr o=true:=by rfl):Sc K a ns (upd H p o):=by
 refine ⟨?_,fun b u e=>?_⟩
 .rcases s.n2 with ⟨cU,h⟩ | h
  .exact .inl ⟨cU,by rw [aZ (Db h aq)];exact h⟩
  .exact .inr h
 .by_cases ae:b=p
  .subst ae;rw [aS] at e;cases e;exact aW
  .rw [aZ ae] at e;exact s.bC b u e
theorem Sc.set (s:Sc K a ns H) (aq:H p=some u) (b7:∀ cU z,u ≠ .ja cU z) (aW:qr o=true:=by rfl):Sc K a ns (upd H p o):=by
 refine ⟨?_,fun b x e=>?_⟩
 .rcases s.n2 with ⟨cU,h⟩ | h
  .refine .inl ⟨cU,?_⟩;have cB:a ≠ p:=fun z=>by subst z;rw [aq] at h;exact b7 _ _ (eL h)
   rw [aZ cB];exact h
  .exact .inr h
 .by_cases ae:b=p
  .subst ae;rw [aS] at e;cases e;exact aW
  .rw [aZ ae] at e;exact s.bC b x e
end
theorem fJ:bootBuiltins "len"=some (.builtin "len"):=PySem.boot_len
theorem ajw:bootBuiltins "all"=some (.builtin "all"):=by ac_nf
theorem yZ:bootBuiltins "max"=some (.builtin "max"):=by ac_nf
theorem HX:bootBuiltins "sum"=some (.builtin "sum"):=by ac_nf
theorem aiZ:bootBuiltins "isinstance"=some (.builtin "isinstance"):=by ac_nf
theorem AV:bootBuiltins "int"=some (.type "int"):=by ac_nf
theorem yC:bootBuiltins "str"=some (.type "str"):=by ac_nf
theorem XM:bootBuiltins "bool"=some (.type "bool"):=by ac_nf
theorem aeQ:bootBuiltins "list"=some (.type "list"):=by ac_nf
theorem nq.same (h:nq H a o) (s:aH H I):nq I a o:=by
 rcases h with h | ⟨cU,h⟩
 .exact .inl (s _ _ h)
 .exact .inr ⟨cU,s _ _ h⟩
theorem ak.same {K:bc} (h:ak K H a xs) (s:aH H I):ak K I a xs:=by
 rcases h with h | h
 .exact .inl (h.same s)
 .exact .inr h
theorem aL.upd {p:Addr} (h:aL H) (aW:qr o=true:=by rfl):aL (upd H p o):=fun b u e=>by
 by_cases ae:b=p
 .subst ae;rw [aS] at e;cases e;exact aW
 .rw [aZ ae] at e;exact h b u e
theorem Sc.same {K:bc} {ns:List Int} (s:Sc K a ns H) (bu:aH H I) (bC:aL I):Sc K a ns I:=by
 refine ⟨?_,bC⟩;rcases s.n2 with ⟨o,h⟩ | h
 .exact .inl ⟨o,bu _ _ h⟩
 .exact .inr h
structure NA (K:bc) (C:Addr) (m:Str) (f:Addr):Prop where
 my:ab_ K C (.type "type")=true
 fd:ahf K (.ref C) (.type "type") m=some (.val (.ref f))
 ga:u_ K (.ref C) "__getattribute__"=some (some (.builtin "type.__getattribute__"))
 bj:qm K (.ref f)=true
structure tG (P:Program) (w:World) (K:bc) (mg:Str->Option Value) (base:Heap) (CX:j1) (k:Nat) (o5:Addr->Prop) (m:Str) (ps:List Str) (pK:Addr->bO):Prop where
 ok:∀ C,o5 C->∃ f fd,hI K C/\jo K C m f/\bV P w K mg base CX k f fd ps (pK C)/\b3 K fd ps []
noncomputable def Qh (o5:Addr->Prop) (m:Str) (pK:Addr->bO) (E:d0) (a6:TE) (t:fc):TE:=fun σ H Q=>a6 σ H fun x H1=>∃ a C ax aO,x=.ref a/\H1 a=some (.ins C ax aO)/\o5 C/\aO.lookup m=none /\
 t σ H1 fun vs az=>pK C (x :: vs) az Q E
section
variable {X:a0} {CX:j1} {k:Nat} {f C:Addr} {fd:FuncData} {ps:List Str} {sp:bO} {dvs:List V} {ds:List Value} {E:d0} {x m:Str} {p pos fL:Pos} {e o:Expr} {aT:List Expr} {a6:TE} {t:fc}
theorem F4 (bg:iR X x) (hm:X.mg x=some (.ref C)) (c:NA X.K C m f) (F:bV X.prog X.w X.K X.mg X.base CX k f fd ps sp) (aj:en k X.A) (ae:b3 X.K fd ps ds) (hd:cj dvs ds) (af:pJ CX X E) (aK:gg X (e :: aT) t)
  (gF:(x == ("__debug__" : Str))=false:=by decide) (ff:starEach (e :: aT) X.env=(false,eval e X.env) :: starEach aT X.env:=by rfl) (cO:(backTo pos (starEach aT X.env)).any (·.1)=false:=by rfl)
  (dQ:eval (.Call (.Attribute (.Name x p) m fL) (e :: aT) [] pos) X.env=(do
   let fO <- eval (.Name x p) X.env
   standAt fL.atName
   let (f,first) <- holding [fO] (getMethod fO m pl)
   callWith pos f first (backTo pos (starEach (e :: aT) X.env)) (backToKw pos (keywordEach [] X.env))):=by rfl) :
  bz X (.Call (.Attribute (.Name x p) m fL) (e :: aT) [] pos) (wm sp dvs E t):=by
 intro aa s σ H Q J h;refine Al (pl:=pl) (r3 J bg hm ?_ gF) dQ;refine ahz J.eg c.ga (age J.eg c.my c.fd rfl ?_);have aP:=J.tok (s.toks + 1);refine xM (first:=[]) (h₀:=X.base) J.ok.mod.rx c.bj (bL (aK pos aa _ σ H _ aP h) fun us s2 ⟨vs,az,bK,r,d5⟩=>⟨bK.eg,?_⟩) ff cO;exact w_ F aj ae hd af bK r d5
variable {o5:Addr->Prop} {pK:Addr->bO}
theorem Vu (he:bz X o a6) (V:tG X.prog X.w X.K X.mg X.base CX k o5 m ps pK) (aj:en k X.A) (af:pJ CX X E)
  (dQ:eval (.Call (.Attribute o m fL) [] [] pos) X.env=(do
   let fO <- eval o X.env
   standAt fL.atName
   let (f,first) <- holding [fO] (getMethod fO m pl)
   callWith pos f first (backTo pos (starEach [] X.env)) (backToKw pos (keywordEach [] X.env))):=by rfl) :
  bz X (.Call (.Attribute o m fL) [] [] pos) (Qh o5 m pK E a6 yf):=by
 intro aa s σ H Q J h;refine Al (pl:=pl) (bL (he aa s σ H _ J h) fun u s1 cL=>?_) dQ;obtain ⟨x,H1,aP,a8,a,C,ax,aO,ex,eb,ok,l,q⟩:=cL;subst ex;obtain rfl:u=dU a:=a8;obtain ⟨f,fd,c,hm,F,ae⟩:=V.ok C ok;refine LO aP eb c hm l ?_;exact YS (first:=[.ref a]) aP.eg hm.bj (w_ (us:=[.ref a]) (vs:=[.ref a]) (dvs:=[]) F aj ae .nil af aP (.cons rfl .nil) q)
end
section
variable {X:a0} {x:Str} {p pos:Pos} {i:Expr} {ty:TE} {u:Value} {aA:List (Str × V)}
end
theorem iG:∀ {aO:List (Str × V)} (b':List Str),aO.map (·.1)=b'->b'.contains f=false->eh f v aO=aO ++ [(f,v)]
 | [],_,_,_=>rfl
 | (g,y) :: r,b',e,h=>by
  cases e;rw [eB,Dw] at h;have ab:=(BQ.mp h);have cB:¬ g=f:=fun z=>by
   have:=ab.1;rw [z] at this;simp at this
  show (if g=f then _ else _)=_;rw [if_neg cB,iG _ rfl ab.2];rfl
theorem g8 {aO:List (Str × V)} (h:aO.length < n):(eh f v aO).length < n + 1:=gI (Do f v aO) (by omega)
theorem ks:∀ {aO:List (Str × V)} (b':List Str) (i:Nat),aO.map (·.1)=b'->b'.findIdx? (· == f)=some i->aO[i]? = some (f,v)->aO.lookup f=some v
 | [],_,_,_,_,h=>by simp at h
 | (g,y) :: r,b',i,e,h,aG=>by
  cases e;rw [eB,List.findIdx?_cons] at h;rw [pq];by_cases e:g=f
  .subst e;rw [beq_self_eq_true,if_pos rfl] at h;cases h;have:(g,y)=(g,v):=by simpa using aG
   cases this;rw [beq_self_eq_true]
  .rw [beq_eq_false_iff_ne.mpr e,if_neg (by decide)] at h;obtain ⟨j,aN,rfl⟩:=B2.mp h;rw [beq_eq_false_iff_ne.mpr (fun z=>e z.symm)];exact ks _ j rfl aN (by simpa using aG)
theorem BL:∀ {aO:List (Str × V)} (b':List Str),aO.map (·.1)=b'->b'.contains f=false->aO.lookup f=none
 | [],_,_,_=>rfl
 | (g,y) :: r,b',e,h=>by
  cases e;rw [eB,Dw] at h;have ab:=(BQ.mp h);rw [pq,ab.1];exact BL _ rfl ab.2
theorem Inv.C2 {X:a0} {aa:List (Addr × Obj)} {σ:St} {H:au} {s:Shared} {h':Heap} {t':Nat} {bf:List Addr} (J:Inv X aa σ H s) (k:∀ b o,b ∉ bf->s.heap.get? b=some o->h'.get? b=some o)
  (hf:∀ b ∈ bf,Ty X aa H b):Inv X aa σ H { s with heap:=h',toks:=t' }:=by
 have wF:∀ b u,H b=some u->b ∉ bf:=fun b u e z=>by rw [(hf b z).1] at e;cases e
 refine J.step (g':=s.gens) (d':=s.drawn) (ch:=bf) (fun b ae=>?_) (fun b o _ _ ar e _=>k b o ar e) (fun b o _ _ ar e _=>⟨o.slots,k b o ar e⟩) (fun _ _ _ _ n=>n)
  (fun b o ar e=>⟨o,k b o ar e⟩) (fun _ _ e=>e) (fun _ _ _ e=>e) (fun b ps e=>⟨#[],by rw [e];simp⟩) (fun m hm=>?_) (fun b u e=>?_) J.bare
 .obtain ⟨f0,f1,f2,fw,f4,f7⟩:=hf b ae;exact ⟨fw,f1,f4,f7⟩
 .obtain ⟨o,aT,cE,aW,r⟩:=hm;exact ⟨o,aT,cE,k _ o (fun z=>(hf _ z).2.1 rfl) aW,r⟩
 .refine (J.bh b u e).nv (fun c v ar q=>k c v ?_ q) (fun _ q=>q) fun _ _ q=>q
  rcases ar with z | z
  .rw [z];exact wF b u e
  .exact wF c _ z
noncomputable def B' (K:bc) (a:Addr):kI:=
 ⟨fun i H=>∃ xs x,ak K H a xs/\xs[i]? = some x,fun i H v I=>∃ p y,H p=none/\v=.ref p/\(∀ xs,ak K H a xs->xs[i]? = some y)/\I=upd H p (.tup [.int i,y]),fun i H=>∃ xs,ak K H a xs/\xs.length <= i⟩
theorem aa5 {P:Program} {w:World} {K:bc} {aT:List Expr} {k} {pos:Pos} (a e it:Addr) (cB:e ≠ it) :
  rY P w K (.Tuple aT k pos) (B' K a) [e,it] e (fun i h=>∃ old,IsEnum h e it ((i:Nat):Int) old/\h.IsListIter it a i) where
 mem:=by simp
 obj:=fun i h ⟨old,he,ag⟩ b ae=>by
  simp only [d9,m5,or_false] at ae;rcases ae with rfl | rfl
  .exact ⟨_,he,fun v z=>by
    have gn:OT _=DV v:=z;cases gn⟩
  .obtain ⟨o,q,c,d⟩:=ag;exact ⟨o,q,fun v z=>by rw [d] at z;cases z⟩
 keep:=fun i h h' ⟨old,he,ag⟩ k=>⟨old,k e (by simp) _ he,ag.at fun o q=>k it (by simp) o q⟩
 item:=by
  intro X cN hw f6 ar i aa s σ H E J hf ⟨old,he,ag⟩ bg;subst cN hw f6;obtain ⟨xs,x,aM,af⟩:=bg;obtain ⟨a4,cw,p,aF⟩:=J.list aM;obtain ⟨u,b7,ej⟩:=cw.get af;refine wpAny_pyNext_enum_item he ag p.isList (x:=u) (by simpa using b7) cB fun ab abY akS ajM tg w4=>⟨_,rfl,?_⟩
  refine wpAny_letOwnedTupleGo_enum abY fun ai aeX jB=>?_
  replace jB:zm e ab ai:=jB;have UL:e < s.heap.objs.size:=d1 he;have aE:∀ b o,b ∉ [e,it]->s.heap.get? b=some o->ai.get? b=some o:=fun b o ae q=>by
   simp only [d9,m5,or_false,not_or] at ae;exact jB.extBut _ _ ae.1 (w4 b o ae.1 ae.2 q)
  have aP:Inv X aa σ H { s with heap:=ai,toks:=s.toks + 1 }:=J.C2 aE hf;have hl:Ty X aa H s.heap.objs.size:=J.oU (bP _) (J.bh.fresh (bP _));have w6:ai.get? s.heap.objs.size=some { cls:=.type "tuple",data:=.seq #[.int i s.toks,u] }:=(jB.2 _ (yq UL)).trans ajM;have bK:=aP.adopt (o:=.tup [.int i,x]) hl ⟨⟨by show 2 <= sizeLine;decide,_,w6,rfl⟩,[.int i s.toks,u],.cons ⟨_,rfl⟩ (.cons ej .nil),⟨_,w6,rfl,_,rfl⟩⟩;refine ⟨.ref s.heap.objs.size,_,bK,rfl,⟨_,x,hl.1,rfl,fun ys aU=>by rw [J.Cp aU aM];exact af,rfl⟩,⟨u,?_,?_⟩,fun b ae=>?_⟩
  .have ao:((i + 1:Nat):Int)=(i:Int) + 1:=by omega
   rw [ao];exact aeX
  .exact akS.extBut jB.extBut (dF cB)
  .have cQ:b < s.heap.objs.size:=by
    simp only [d9,m5,or_false] at ae;rcases ae with rfl | rfl
    .exact UL
    .obtain ⟨o,q,_⟩:=ag;exact d1 q
   rw [aZ (gd cQ)];exact (hf b ae).1
 done:=by
  intro X cN hw f6 ar i aa s σ H E J hf ⟨old,he,ag⟩ bg;subst cN hw f6;obtain ⟨xs,aM,af⟩:=bg;obtain ⟨a4,cw,p,aF⟩:=J.list aM;have aD:=cw.length;exact wpAny_pyNext_enum_end (J.ok.hd ar) he ag p.isList (by simp;omega) fun h' eA=>⟨rfl,J.C2 (t':=s.toks) (fun b o ae q=>eA b o (fun z=>ae (by simp [z])) q) hf⟩
 self:=fun _ _ _ _ _ ⟨_,he,_⟩ h=>wpAny_pyIter_enum he h
theorem aeC:bootBuiltins "enumerate"=some (.type "enumerate"):=by ac_nf
theorem ahB:bootBuiltins "zip"=some (.type "zip"):=by ac_nf
noncomputable def D5 (K:bc) (a b:Addr):kI:=
  ⟨fun i H=>∃ xs ys x y,ak K H a xs/\ak K H b ys/\xs[i]? = some x/\ys[i]? = some y,
   fun i H v I=>∃ p x y,H p=none/\v=.ref p/\(∀ xs,ak K H a xs->xs[i]? = some x)/\(∀ ys,ak K H b ys->ys[i]? = some y)/\I=upd H p (.tup [x,y]),
   fun i H=>∃ xs ys,ak K H a xs/\ak K H b ys/\(xs.length <= i\/ys.length <= i)⟩
theorem kL {h:Heap} (aK:h.get? a=some o) (ae:h.get? b=some eP) (ar:o.cls=.type c) (hd:eP.cls=.type d) (n:c ≠ d):a ≠ b:=fun z=>by
 subst z;rw [aK] at ae;cases ae;rw [ar] at hd;cases hd;exact n rfl
theorem VE {h:Heap} {z TI km i1 i2 b_ cM:Addr} (aF:IsZip h z TI km f0) (j7:IsPair h TI l6 sQ) (jL:IsPair h km v1 v2) (ab:h.IsListIter i1 b_ gQ) (ai:h.IsListIter i2 cM fP)
  (g1:h.IsList b_ xs) (g2:h.IsList cM ys) (hU:TI ≠ km) (C5:i1 ≠ i2):ZipApart z TI km i1 i2 b_ cM:=by
 obtain ⟨l4,ao,a9,_⟩:=ab;obtain ⟨tT,aC,bB,_⟩:=ai;obtain ⟨dg,f1,ew,_⟩:=g1;obtain ⟨df,f2,eW,_⟩:=g2;exact ⟨kL j7 aF rfl rfl (by decide),kL jL aF rfl rfl (by decide),kL ao aF a9 rfl (by decide),kL aC aF bB rfl (by decide),hU,kL j7 ao rfl a9 (by decide),kL j7 aC rfl bB (by decide),
  kL jL ao rfl a9 (by decide),kL jL aC rfl bB (by decide),C5,kL f1 aF ew rfl (by decide),kL f1 jL ew rfl (by decide),kL f1 ao ew a9 (by decide),kL f1 aC ew bB (by decide),
  kL f2 aF eW rfl (by decide),kL f2 jL eW rfl (by decide),kL f2 ao eW a9 (by decide),kL f2 aC eW bB (by decide)⟩
theorem Xa {P:Program} {w:World} {K:bc} {aT:List Expr} {k} {pos:Pos} (a b z TI km i1 i2:Addr) (hU:TI ≠ km) (C5:i1 ≠ i2) :
  rY P w K (.Tuple aT k pos) (D5 K a b) [z,TI,km,i1,i2] z (fun i h=>IsZip h z TI km .none/\IsPair h TI (.ref i1) (.ref i2)/\(∃ u v,IsPair h km u v)/\h.IsListIter i1 a i/\h.IsListIter i2 b i) where
 mem:=by simp
 obj:=fun i h ⟨aF,j7,⟨u,v,jL⟩,⟨l4,ao,_,ew⟩,tT,aC,_,eW⟩ c ar=>by
  simp only [d9,m5,or_false] at ar;rcases ar with rfl | rfl | rfl | rfl | rfl
  .exact ⟨_,aF,fun v z=>by
    have gn:OT _=DV v:=z;cases gn⟩
  .exact ⟨_,j7,fun v z=>by
    have gn:Data.seq _ _=DV v:=z;cases gn⟩
  .exact ⟨_,jL,fun v z=>by
    have gn:Data.seq _ _=DV v:=z;cases gn⟩
  .exact ⟨l4,ao,fun v z=>by rw [ew] at z;cases z⟩
  .exact ⟨tT,aC,fun v z=>by rw [eW] at z;cases z⟩
 keep:=fun i h h' ⟨aF,j7,⟨u,v,jL⟩,ab,ai⟩ k=>⟨k z (by simp) _ aF,k TI (by simp) _ j7,⟨u,v,k km (by simp) _ jL⟩,ab.at fun o q=>k i1 (by simp) o q,ai.at fun o q=>k i2 (by simp) o q⟩
 item:=by
  intro X cN hw f6 ar i aa s σ H E J hf ⟨aF,j7,⟨u,v,jL⟩,ab,ai⟩ bg;subst cN hw f6;obtain ⟨xs,ys,x,y,aM,aj,af,aU⟩:=bg;obtain ⟨a4,cw,p,tg⟩:=J.list aM;obtain ⟨Po,h_,jW,qZ⟩:=J.list aj;obtain ⟨AW,b7,ej⟩:=cw.get af;obtain ⟨I7,aG,Rw⟩:=h_.get aU;have D:=VE aF j7 jL ab ai p.isList jW.isList hU C5;refine wpAny_pyNext_zip_item D aF j7 jL ab ai p.isList jW.isList (x:=AW) (y:=I7) (by simpa using b7) (by simpa using aG) fun g X6 ahl g1 g2 afl cp VZ=>⟨_,rfl,?_⟩
  refine wpAny_letOwnedTupleGo_zip X6 fun g' amr kf=>?_
  replace kf:zm z g g':=kf;have Rx:z < s.heap.objs.size:=d1 aF;have aE:∀ c o,c ∉ [z,TI,km,i1,i2]->s.heap.get? c=some o->g'.get? c=some o:=fun c o ar q=>by
   simp only [d9,m5,or_false,not_or] at ar;exact kf.extBut _ _ ar.1 (VZ c o ar.1 ar.2.2.1 ar.2.2.2.1 ar.2.2.2.2 q)
  have aP:Inv X aa σ H { s with heap:=g',toks:=s.toks }:=J.C2 aE hf;have hl:Ty X aa H s.heap.objs.size:=J.oU (bP _) (J.bh.fresh (bP _));have w6:IsPair g' s.heap.objs.size AW I7:=(kf.2 _ (yq Rx)).trans afl;have bK:=aP.adopt (o:=.tup [x,y]) hl ⟨⟨by show 2 <= sizeLine;decide,_,w6,rfl⟩,[AW,I7],.cons ej (.cons Rw .nil),⟨_,w6,rfl,_,rfl⟩⟩;refine ⟨.ref s.heap.objs.size,_,bK,rfl,⟨_,x,y,hl.1,rfl,fun ys aU=>by rw [J.Cp aU aM];exact af,fun zs alO=>by rw [J.Cp alO aj];exact aU,rfl⟩,⟨amr,?_,⟨_,_,kf.extBut _ _ D.TOz ahl⟩,g1.extBut kf.extBut D.i1z,g2.extBut kf.extBut D.i2z⟩,fun b ae=>?_⟩
  .exact kf.extBut _ _ D.TIz (VZ _ _ D.TIz D.TITO D.TIi1 D.TIi2 j7)
  .have cQ:b < s.heap.objs.size:=by
    obtain ⟨l4,ao,_⟩:=ab;obtain ⟨tT,aC,_⟩:=ai;simp only [d9,m5,or_false] at ae;rcases ae with rfl | rfl | rfl | rfl | rfl
    .exact Rx
    .exact d1 j7
    .exact d1 jL
    .exact d1 ao
    .exact d1 aC
   rw [aZ (gd cQ)];exact (hf b ae).1
 done:=by
  intro X cN hw f6 ar i aa s σ H E J hf ⟨aF,j7,⟨u,v,jL⟩,ab,ai⟩ bg;subst cN hw f6;obtain ⟨xs,ys,aM,aj,af⟩:=bg;obtain ⟨a4,cw,p,tg⟩:=J.list aM;obtain ⟨Po,h_,jW,qZ⟩:=J.list aj;have aD:=cw.length;have Ox:=h_.length;have D:=VE aF j7 jL ab ai p.isList jW.isList hU C5;exact wpAny_pyNext_zip_end (J.ok.hd ar) D aF j7 jL ab ai p.isList jW.isList (by simp;omega) fun h' eA=>⟨rfl,J.C2 (t':=s.toks) (fun b o ae q=>eA b o (fun z=>ae (by simp [z])) (fun z=>ae (by simp [z])) (fun z=>ae (by simp [z])) (fun z=>ae (by simp [z])) q) hf⟩
 self:=fun _ _ _ _ _ ⟨aF,_⟩ h=>wpAny_pyIter_zip aF h
section
variable {X:a0}
noncomputable def Fc (K:bc) (a6:fc):TI:=fun σ H R=>a6 σ H fun vs H1=>∃ a,vs=[.ref a]/\(∃ xs,ak K H1 a xs)/\R (B' K a) H1
theorem CP {k} {p pos:Pos} (bg:iR X "enumerate") (hm:X.mg "enumerate"=none) (aK:gg X [a] a6) (aw:starEach [a] X.env=[(false,eval a X.env)]:=by rfl) :
  o9 X (.Tuple aT k x8) (.Call (.Name "enumerate" p) [a] [] pos) (Fc X.K a6):=by
 intro aa s σ H R J h;refine Call_ (rT J bg hm aeC (zR (bL (aK pos aa s σ H _ J h) fun us s1 cL=>?_) aw rfl));obtain ⟨vs,H1,aP,cG,bT⟩:=cL;obtain ⟨a,e,⟨xs,aM⟩,q⟩:=bT;subst e;cases cG with
 | cons r lp=>
  cases lp;cases r;obtain ⟨a4,cw,pl,aF⟩:=aP.list aM;refine call_enumerate_list pl.isList fun h' Ab Kh hsz aE=>wpAny_pyIter_enum Ab ?_
  refine ⟨s1.heap.objs.size + 1,[s1.heap.objs.size + 1,s1.heap.objs.size],_,_,H1,rfl,aP.kept (t':=s1.toks) aE,aa5 a _ _ (Nat.succ_ne_self _),⟨_,Ab,Kh⟩,fun b ae=>?_,q⟩;have fD:s1.heap.objs.size <= b:=by
   simp only [d9,m5,or_false] at ae;rcases ae with rfl | rfl
   .exact w5 _
   .exact bP _
  exact aP.oU fD (aP.bh.fresh fD)
noncomputable def Ni (K:bc) (a6:fc):TI:=fun σ H R=>a6 σ H fun vs H1=>∃ a b,vs=[.ref a,.ref b]/\(∃ xs,ak K H1 a xs)/\(∃ ys,ak K H1 b ys)/\R (D5 K a b) H1
theorem GV {k} {p pos:Pos} (bg:iR X "zip") (hm:X.mg "zip"=none) (aK:gg X [a,b] a6) (aw:starEach [a,b] X.env=[(false,eval a X.env),(false,eval b X.env)]:=by rfl)
  (jB:starEach [b] X.env=[(false,eval b X.env)]:=by rfl):o9 X (.Tuple aT k x8) (.Call (.Name "zip" p) [a,b] [] pos) (Ni X.K a6):=by
 intro aa s σ H R J h;refine Call_ (rT J bg hm ahB (zR (bL (aK pos aa s σ H _ J h) fun us s1 cL=>?_) (by rw [aw,jB]) (by rw [jB];rfl)));obtain ⟨vs,H1,aP,cG,bT⟩:=cL;obtain ⟨a,b,e,⟨xs,aM⟩,⟨ys,aj⟩,q⟩:=bT;subst e;cases cG with
 | cons r lp=>
  cases lp with
  | cons eo lp=>
   cases lp;cases r;cases eo;obtain ⟨a4,cw,pl,aF⟩:=aP.list aM;obtain ⟨Po,Rw,acA,hR⟩:=aP.list aj;refine call_zip_2 pl.isList acA.isList fun h' aF j7 jL ab ai hsz aE=>wpAny_pyIter_zip aF ?_
   refine ⟨s1.heap.objs.size + 4,[s1.heap.objs.size + 4,s1.heap.objs.size + 2,s1.heap.objs.size + 3,s1.heap.objs.size,s1.heap.objs.size + 1],_,_,H1,rfl,aP.kept (t':=s1.toks) aE,
    Xa a b _ _ _ _ _ (gd (wJ _)) (gd (wJ _)),⟨aF,j7,⟨_,_,jL⟩,ab,ai⟩,fun c ar=>?_,q⟩
   have fD:s1.heap.objs.size <= c:=by
    simp only [d9,m5,or_false] at ar;rcases ar with rfl | rfl | rfl | rfl | rfl
    .exact v_ _ _
    .exact v_ _ _
    .exact v_ _ _
    .exact bP _
    .exact v_ _ _
   exact aP.oU fD (aP.bh.fresh fD)
end
theorem kW {k:Nat} {t:tC} {K:bc} (f6:X.K=K) (ar:X.calm=true) (h:xI X aT t)
  (aV:(assignEach aT X.env).length=n:=by rfl) (ff:(assignEach aT X.env).findIdx? (·.1)=none:=by rfl):o7 X (.Tuple aT k pos) (vO K n t):=by
 subst f6;exact Yd ar h aV ff
section
variable {X:a0}
noncomputable def EV:V->List V->au->cJ->Prop:=fun x vs H Q=>∃ l xs i y,x=.ref l/\vs=[.int i,y]/\H l=some (.lst xs)/\0 <= i/\i < 2 ^ 62/\i <= (xs.length:Int)/\xs.length < sizeLine/\Q .cg (upd H l (.lst (xs.take i.toNat ++ y :: xs.drop i.toNat)))
theorem Ua:DN X "list.insert" EV:=by
 intro aa s σ H x vs v us Q J a8 cw h;obtain ⟨l,xs,i,y,rfl,rfl,jC,h0,ab,ai,aF,q⟩:=h;cases a8;cases cw with
 | cons xh Xg=>
  cases Xg with
  | @cons _ w _ _ h_ rc=>
   cases rc;obtain ⟨t,rfl⟩:=xh;obtain ⟨z,a4,n,r,aD,e⟩:=J.sA jC;refine call_meets Wu ⟨_,e,rfl⟩ F.entry_list_insert (F.args_list_insert_3 _ _ _) (AutoListH.list_insert_list_int_val_1 l a4.toArray n i t w (by rw [fitsIndex_both (k:=i) (by omega) (by omega)];decide) (by rw [ft];omega)) ⟨e,?_⟩;refine ⟨.cg,_,J.BD (its':=a4.take i.toNat ++ w :: a4.drop i.toNat) jC e ?_ ((r.take i.toNat).append (.cons h_ (r.drop i.toNat))) ?_,rfl,q⟩
   .have aE:(if i < 0 then (i + ((a4.toArray.size:Nat):Int)).toNat else min i.toNat a4.toArray.size)=i.toNat:=by
     rw [if_neg (by omega),ft];omega
    show (a4.toArray.extract 0 (if i < 0 then (i + ((a4.toArray.size:Nat):Int)).toNat else min i.toNat a4.toArray.size)).push w ++ a4.toArray.extract (if i < 0 then (i + ((a4.toArray.size:Nat):Int)).toNat else min i.toNat a4.toArray.size)=_;rw [aE];apply VJ.mp;simp;exact Cw (by rw [lH];exact bP _)
   .rw [cC,fQ,gZ,lH];omega
end
inductive vx (K:bc) (H:au):Nat->V->V->Bool->Prop
 | flat {k:Nat} {x y:V} (af:kz x=true) (aU:kz y=true):vx K H k x y (lV x y)
 | lst {k:Nat} {p q:Addr} {xs ys:List V} {e:Nat->Bool} (aq:ak K H p xs) (aM:ak K H q ys) (aD:xs.length=ys.length) (he:∀ (j:Nat) (x y:V),xs[j]? = some x->ys[j]? = some y->vx K H k x y (e j)):vx K H (k + 1) (.ref p) (.ref q) ((cY xs.length).all e)
 | aph {k:Nat} {p q:Addr} {xs ys:List V} (aq:ak K H p xs) (aM:ak K H q ys) (aD:xs.length ≠ ys.length):vx K H (k + 1) (.ref p) (.ref q) false
 | tup {k:Nat} {p q:Addr} {xs ys:List V} {e:Nat->Bool} (aq:cS K H p xs) (aM:cS K H q ys) (he:∀ (j:Nat) (x y:V),xs[j]? = some x->ys[j]? = some y->vx K H k x y (e j)):vx K H (k + 1) (.ref p) (.ref q) ((cY (min xs.length ys.length)).all e && xs.length == ys.length)
section
variable {X:a0} {aa:List (Addr × Obj)} {σ:St} {H:au} {s:Shared}
end
section
variable {X:a0}
end
end L2
namespace L2
open PySem PySem.Spec PyProof.Rows PySem.Builtin PySem.Builtin.ObjectAttr
theorem Nz (h:H a=some o):upd H a o=H:=by
 funext b;unfold upd;by_cases e:b=a
 .rw [if_pos e,e,h]
 .rw [if_neg e]
noncomputable abbrev ia:List Value:=[.type "ValueError",.type "Exception",.type "BaseException",.type "object"]
noncomputable def uB (K:bc) (C fI:Addr):Bool:=
 match K.lookup C with
 | some ⟨.type "type",_,.cls cd,bk⟩=>
  match cd.mro,bk.toList with
  | .ref D :: bo,[_,_,_,_,some (.builtin n),_]=>
   (D == C) && (n == "ValueError.__new__") && (cd.hasDel == false) && (cd.hasDict == true) && PySem.W.tailIn K ia bo && PySem.W.nsOkIn K cd.ns && (P1 K cd.ns "__init__" == some (some (.ref fI)))
  | _,_=>false
 | _=>false
theorem alf {K:bc} {h:Heap} {N:Addr} {x:Str} (e8:K.In h) (G:h.Ns N r6) (e:P1 K N x=some (some v)):r6 x=some v:=by
 obtain ⟨cU,rows,cE,ao,aC,_,look⟩:=G;unfold P1 at e;split at e
 .rename_i aW;have z:=e8 _ _ aW;rw [ao] at z;cases z;cases aC;split at e
  .rename_i o_ he;cases e;rw [<- look];unfold nsFind findBy;rw [<- Z5,he];rfl
  .split at e <;> cases e
 .cases e
set_option tactic.hygienic true in
theorem Ls {K:bc} {h:Heap} (e8:K.In h) (e:uB K C fI=true) :
  ∃ bo N nm q bs sn sub mj co eR hz gQ fP hW pR r6,h.get? C=some (excClassObj nm q C N bs bo true sn sub mj co eR hz gQ fP hW pR "ValueError.__new__")/\h.Ns N r6/\r6 "__init__"=some (.ref fI)/\OwnTail h ia bo:=by
 unfold uB at e;split at e
 .rename_i eR cd bk aW;split at e
  .rename_i D bo hz gQ fP hW n pR hm aw;simp only [jX,beq_iff_eq] at e;obtain ⟨⟨⟨⟨⟨⟨ao,aC⟩,bJ⟩,e6⟩,gY⟩,e1⟩,ic⟩:=e;obtain ⟨nm,bs,mro,ns,y2,hd,sn,sub,mj,co,del⟩:=cd;simp only at hm bJ e6 e1 ic;subst hm ao aC bJ e6;obtain ⟨l⟩:=bk;simp only at aw;subst aw;have G:h.Ns ns (h.nsMap ns):=.of_isNs (PySem.W.isNs_of_in e8 e1);exact ⟨bo,ns,nm,y2,bs,sn,sub,mj,co,eR,hz,gQ,fP,hW,pR,h.nsMap ns,e8 _ _ aW,G,alf e8 G ic,PySem.W.tail_of_in e8 gY⟩
  .cases e
 .cases e
section
variable {P:Program} {w:World} {A:Around} {h:Heap} {g:Array GenState} {d:Drawn} {t:Nat} {os:OsState} {K:bc} {C fI:Addr} {R:Result->Shared->Prop}
theorem adP (e8:K.In h) (e:uB K C fI=true) (hf:TA K (.ref fI)=some (.type "function")) (aF:us.length <= sizeLine)
  (aM:∀ h' x,h.objs.size <= x->afa h h' x (.ref C) us->codeAny (model P w) (A.under (.builtin "type.__call__" ⟨.ref C :: us,[]⟩)) (.call (.ref fI) ⟨.ref x :: us,[]⟩) (aaV x R) ⟨h',g,d,t,os⟩) :
  codeAny (model P w) A (.call (.ref C) ⟨us,[]⟩) R ⟨h,g,d,t,os⟩:=by
 obtain ⟨bo,N,nm,q,bs,sn,sub,mj,co,eR,hz,gQ,fP,hW,pR,r6,cK,bb,ag,T⟩:=Ls e8 e;have F:=ZV;have f1:=tc_lookup;have f2:=tc_bind (.ref C);have ty:(⟨h,g,d,t,os⟩:Shared).TypeIs (.ref C) "type" := ⟨_,cK,rfl⟩;refine codeAny_of_tree ?_;show wpAny _ _ (callAny (.ref C) _) _ _ _
 repeat (any_goals (first | assumption | with_reducible refine wpAny_loadPart_at cK ?_ | wp_step))
 refine ⟨rfl,?_⟩;refine codeAny_call_builtin_at (abp _ (by ac_nf)) entry_typeCall (wpAny_check_type_call_sub cK ?_)
 repeat (first | with_reducible refine wpAny_loadPart_at cK ?_ | with_reducible refine wpAny_madeBy_exc cK ?_ | wp_step)
 refine codeAny_call_builtin_code (abp _ F.quiet) (wpAny_check_new_subT F T cK ?_);refine codeAny_exc_new_subT (rest:=us) F T cK ?_ aF;show wpAny _ _ _ _ _ _;generalize bU:(h.push { cls:=.type "tuple",data:=.seq us.toArray }).push { cls:=.ref C,data:=.fields #[.ref h.objs.size,.none,.none,.none,.bool false,.none] }=ai;have k:∀ b o,h.get? b=some o->ai.get? b=some o:=fun b o z=>by rw [<- bU];exact ed _ (ed _ z)
 have af:ai.get? (h.objs.size + 1)=some { cls:=.ref C,data:=.fields #[.ref h.objs.size,.none,.none,.none,.bool false,.none] }:=by rw [<- bU];heap_get
 have dQ:ai.get? h.objs.size=some { cls:=.type "tuple",data:=.seq us.toArray }:=by rw [<- bU];exact ed _ (Heap.get?_push_at rfl rfl)
 have M:afa h ai (h.objs.size + 1) (.ref C) us:=⟨k,SM (w5 _),h.objs.size,af,SM (bP _),dQ⟩;have aeg:(dU C :: bo).contains (.ref C)=true:=by simp
 unfold isInstance
 repeat (first | with_reducible refine wpAny_loadPart_at af ?_ | wp_step)
 refine wpAny_isSubtype_exc (k _ _ cK) ?_;rw [aeg]
 repeat wp_step
 show wpAny _ _ (typeLookup (.ref C) _) _ _ _;refine wpAny_typeLookup_tail (k _ _ cK) (bb.keeps k) (T.keeps k) F.mroIs F.init.lookup ?_;rw [ag];refine wpAny_holding (wpAny_bind ((ajy (e8.keeps k) _ hf).here (wpAny_bind (wpAny_call ?_))));refine codeAny_mono (aM ai _ (w5 _) M) fun r s' z=>?_
 rcases r with e | (v | _ | _ | _) <;> first | exact z | exact z.elim | skip
 obtain ⟨rfl,z⟩:=z;exact wpAny_pure (wpAny_pure z)
end
noncomputable def yo:List Value->Bool
 | .ref _ :: r=>yo r
 | l=>l == ia
theorem lm (self:Value):refuseLoop self "__setattr__" ia=pure ():=by kernel_rfl
theorem Ry (self:Value):∀ {l:List Value},yo l=true->refuseLoop self "__setattr__" l=pure ()
 | .ref c :: r,e=>by rw [refuseLoop_ref];exact Ry self (l:=r) e
 | [],e=>by cases e
 | .type n :: r,e=>by rw [show Nd n :: r=ia from beq_iff_eq.mp e];exact lm self
 | .none :: r,e=>by rw [show k1 :: r=ia from beq_iff_eq.mp e];exact lm self
 | .bool b :: r,e=>by rw [show hX b :: r=ia from beq_iff_eq.mp e];exact lm self
 | .int b c :: r,e=>by rw [show nW b c :: r=ia from beq_iff_eq.mp e];exact lm self
 | .str b c :: r,e=>by rw [show sM b c :: r=ia from beq_iff_eq.mp e];exact lm self
 | .bytes b c :: r,e=>by rw [show MS b c :: r=ia from beq_iff_eq.mp e];exact lm self
 | .float b c :: r,e=>by rw [show DT b c :: r=ia from beq_iff_eq.mp e];exact lm self
 | .builtin b :: r,e=>by rw [show vS b :: r=ia from beq_iff_eq.mp e];exact lm self
theorem MV (T:String) (h:ia.contains (.type T)=true):∀ {l:List Value},yo l=true->l.contains (.type T)=true
 | .ref c :: r,e=>by rw [Dw,MV T h (l:=r) e,Hj]
 | [],e=>by cases e
 | .type n :: r,e=>by rw [show Nd n :: r=ia from beq_iff_eq.mp e];exact h
 | .none :: r,e=>by rw [show k1 :: r=ia from beq_iff_eq.mp e];exact h
 | .bool b :: r,e=>by rw [show hX b :: r=ia from beq_iff_eq.mp e];exact h
 | .int b c :: r,e=>by rw [show nW b c :: r=ia from beq_iff_eq.mp e];exact h
 | .str b c :: r,e=>by rw [show sM b c :: r=ia from beq_iff_eq.mp e];exact h
 | .bytes b c :: r,e=>by rw [show MS b c :: r=ia from beq_iff_eq.mp e];exact h
 | .float b c :: r,e=>by rw [show DT b c :: r=ia from beq_iff_eq.mp e];exact h
 | .builtin b :: r,e=>by rw [show vS b :: r=ia from beq_iff_eq.mp e];exact h
structure ny (K:bc) (C:Addr):Prop where
 hd:AD K C=true
 fO:((ajg K C).any fun cd=>yo cd.mro)=true
 bE:el K (.ref C) "__setattr__"=some (some (.builtin "object.__setattr__"))
 ga:el K (.ref C) "__getattribute__"=some (some (.builtin "BaseException.__getattribute__"))
 gt:el K (.ref C) "__getattr__"=some none
 ex:∃ fI,uB K C fI=true
noncomputable def fH (x C:Addr) (br:Option Addr):Heap->Prop:=fun h=>∃ vs bk,h.get? x=some ⟨.ref C,br,.fields vs,bk⟩/\1 < vs.size/\vs[1]? = some .none
noncomputable def lr (ax:Addr) (aO:List (Str × V)):Heap->Prop:=fun h=>∃ dV,h.Ns1 ax dV/\(∀ f,iO (aO.lookup f) (dV f))/\zF dV (aO.map (·.1))
theorem fH.at {x C:Addr} {h h':Heap} (z:fH x C br h) (k:∀ o,h.get? x=some o->h'.get? x=some o):fH x C br h':=let ⟨vs,bk,e,r⟩:=z;⟨vs,bk,k _ e,r⟩
theorem lr.at {aO:List (Str × V)} {h h':Heap} (z:lr ax aO h) (k:∀ o,h.get? ax=some o->h'.get? ax=some o):lr ax aO h':=let ⟨dV,e,r⟩:=z;⟨dV,e.at k,r⟩
theorem fH.ok {w:World} {h:Heap} {x C:Addr} (z:fH x C br h):dS P w H h x (.ext (fH x C br)):=by
 obtain ⟨vs,bk,e,r⟩:=id z;exact ⟨z,⟨_,e⟩,fun ab ai q k=>q.at k⟩
theorem lr.ok {w:World} {h:Heap} {aO:List (Str × V)} (z:lr ax aO h):dS P w H h ax (.ext (lr ax aO)):=by
 obtain ⟨dV,⟨o,aT,cE,e,_⟩,_⟩:=id z;exact ⟨z,⟨_,e⟩,fun ab ai q k=>q.at k⟩
section
variable {prog:Program} {w:World} {A:Around} {E:Value->Shared->Prop} {K:bc} {C x:Addr} {s:Shared} {R:Result->Shared->Prop}
theorem Yb {name:Str} (e8:K.In s.heap) (bF:IZ s.heap x UB C br) (c:ny K C) (dQ:dq K C name)
  (h:wpAny (model prog w) A.in1 (storeInOwnDict (.ref x) (.ref C) (.str name tk) name v false)
   (fun fin s'=>match fin with | .done f=>R (.ok f) s' | .again c'=>c'.quiet=true/\codeAny (model prog w) A c' R s') (fun e s'=>R (.error e) s') s) :
  codeAny (model prog w) A (.call (.builtin "object.__setattr__") ⟨[.ref x,.str name tk,v],[]⟩) R s:=by
 have G:=PySem.F.store_object;obtain ⟨cd,ar,aW⟩:=CA c.fO;have ne:cd.mro.isEmpty=false:=by
  cases q:cd.mro with
  | nil=>rw [q] at aW;cases aW
  | cons _ _=>rfl
 have sub:L0 (model prog w) s.heap (isInstance (.ref x) (.type "object")) true:=
  bF.type.andThen (YY e8 (by unfold xc;rw [ar,vP,if_neg (by rw [ne];decide),MV "object" (by decide) aW]))
 refine codeAny_call_builtin G.slot.plain G.entry (@PySem.W.check_slot (model prog w) _ _ s "object.__setattr__" "object" "__setattr__" (.ref x) [.str name tk,v] [] _ G.kind G.split sub (G.args (.ref x) (.str name tk) v) ?_);have hm:L0 (model prog w) s.heap (mroOf (.ref C)) cd.mro:=(Nt e8 ar).andThen .now;rw [PySem.W.osa_eq,refuse_eq];refine wpAny_bind (wpAny_bind (bF.type.here (wpAny_bind (hm.here ?_))));rw [Ry _ aW];exact wpAny_pure (wpAny_bind (bF.type.here (wpAny_bind ((CJ e8 dQ).here (wpAny_bind (wpAny_pure h))))))
end
section
variable {X:a0} {aa:List (Addr × Obj)} {σ:St} {H:au} {s:Shared} {x C ax:Addr} {aO:List (Str × V)} {f:Str} {y:V} {u:Value} {A:Around} {E:Value->Shared->Prop} {Q:Unit->Shared->Prop}
theorem ac8 (J:Inv X aa σ H s) (e:H x=some (.ext (fH x C none))) (c:ny X.K C) (n:dq X.K C f) (bH:b1 y u)
  (h:∀ ax s',H ax=none->ax ≠ x->Inv X aa σ (upd (upd H x (.ext (fH x C (some ax)))) ax (.ext (lr ax [(f,y)]))) s'->Q () s'):wpAny (model X.prog X.w) A (setAttr (.ref x) f u) Q E s:=by
 obtain ⟨vs,bk,af,e4,dH⟩:=(show dS X.prog X.w H s.heap x (.ext (fH x C none)) from J.bh _ _ e).1;have bF:IZ s.heap x ⟨.ref C,none,.fields vs,bk⟩ C none:=⟨af,rfl,rfl,hu⟩;refine ant J.eg bF c.bE (Yb (s:={ s with toks:=s.toks + 1 }) J.eg bF c n ?_);obtain ⟨cd,ar,sC⟩:=CA c.hd;refine wpAny_bind (wpAny_pure (wpAny_bind (wpAny_bind (wpAny_loadPart af (wpAny_bind (Z2 (s:={ s with toks:=s.toks + 1 }) (Nt J.eg ar) ?_))))));rw [sC];show wpAny _ _ (alloc kH >>= fun d=>(update x fun o=>{ o with dict:=some d }) >>= fun _=>dictMade (.ref C) x d) _ _ _;refine wpAny_bind (wpAny_alloc (wpAny_bind ?_));have oD:(s.heap.push kH).get? x=some ⟨.ref C,none,.fields vs,bk⟩:=ed _ af;have amU:x < s.heap.objs.size:=d1 af;refine wpAny_update oD (wpAny_pure ?_);have ao:(s.heap.push kH).get? s.heap.objs.size=some kH:=hS s.heap rfl;have bJ:(s.heap.push kH).Ns s.heap.objs.size (fun _=>none):=⟨kH,#[],_,ao,rfl,(fun e he=>absurd he (by simp)),fun _=>rfl⟩;generalize Dt:(s.heap.push kH).update x (fun o=>{ o with dict:=some s.heap.objs.size })=ai;have cy:s.heap.objs.size ≠ x:=yq amU;have fP:∀ b,b ≠ x->ai.get? b=(s.heap.push kH).get? b:=fun b ae=>by rw [<- Dt];exact lL _ _ (dF ae)
 have gc:ai.get? x=some ⟨.ref C,some s.heap.objs.size,.fields vs,bk⟩:=by rw [<- Dt];exact ur _ oD rfl
 have cv:ai.Ns1 s.heap.objs.size (fun _=>none):=(YN bJ).at fun o q=>(fP _ cy).trans q
 refine wpAny_bind (wpAny_pure (wpAny_bind ?_));refine wpAny_nsSet1 (s:={ s with heap:=ai,toks:=s.toks + 1 }) cv fun a5 c0 s3=>?_
 have gz:zF (fun a=>if a=f then some u else none) [f]:=aeW f u (fun a aK=>absurd rfl aK);obtain ⟨acb,aaf,aaH,Gz,HZ,JC⟩:=c0.count gz;refine wpAny_bind (wpAny_lookBehind Gz (by rw [HZ];exact pastItsLine_dict (cq JC (by rw [sizeLine_eq];show 1 <= _;decide))) ?_);refine wpAny_pure (h s.heap.objs.size _ (J.bh.fresh (bP _)) cy ?_);have hW:∀ b o,b ≠ x->s.heap.get? b=some o->a5.get? b=some o:=fun b o ae q=>
  (s3.2 b (fun z=>by rw [z] at q;exact absurd (d1 q) (nj _))).trans ((fP b ae).trans (ed _ q))
 have fx:a5.get? x=some ⟨.ref C,some s.heap.objs.size,.fields vs,bk⟩:=(s3.2 x (dF cy)).trans gc;generalize Gl:s.heap.update x (fun o=>{ o with dict:=some s.heap.objs.size })=h3;have RA:∀ b,b ≠ x->h3.get? b=s.heap.get? b:=fun b ae=>by rw [<- Gl];exact lL _ _ (dF ae)
 have FQ:h3.get? x=some ⟨.ref C,some s.heap.objs.size,.fields vs,bk⟩:=by rw [<- Gl];exact ur _ af rfl
 have Xo:h3.objs.size=s.heap.objs.size:=by rw [<- Gl];exact ai8 _ _ _
 have FV:=J.write (x:=x) (e:=x) (o:=.ext (fH x C (some s.heap.objs.size))) (h':=h3) (t':=s.toks) (by rw [e];exact hu) (.inl rfl) (fun b o ae q=>(RA b ae).trans q) ⟨_,FQ⟩ (fH.ok ⟨vs,bk,FQ,e4,dH⟩);refine FV.laid (a:=s.heap.objs.size) (h':=a5) (fun b o q=>?_) (DJ Xo) (lr.ok ⟨_,c0,fun g=>?_,gz⟩)
 .by_cases ae:b=x
  .subst ae;rw [FQ] at q;rw [fx,<- q]
  .rw [RA b ae] at q;exact hW b o ae q
 .show iO (pq g [(f,y)]) (if g=f then some u else none);by_cases aM:g=f
  .rw [if_pos aM,aM,List.lookup_cons_self];exact bH
  .rw [if_neg aM,kv,beq_false_of_ne aM];exact hu
noncomputable def gO (x C:Addr) (br:Option Addr):Heap->Prop:=fun h=>∃ vs bk,h.get? x=some ⟨.ref C,br,.fields vs,bk⟩
theorem gO.at {x C:Addr} {h h':Heap} (z:gO x C br h) (k:∀ o,h.get? x=some o->h'.get? x=some o):gO x C br h':=let ⟨vs,bk,e⟩:=z;⟨vs,bk,k _ e⟩
theorem gO.ok {w:World} {h:Heap} {x C:Addr} (z:gO x C br h):dS P w H h x (.ext (gO x C br)):=by
 obtain ⟨vs,bk,e⟩:=id z;exact ⟨z,⟨_,e⟩,fun ab ai q k=>q.at k⟩
theorem al9 {b:Bool} {Q:Value->Shared->Prop} (J:Inv X aa σ H s) (e:H x=some (.ext (gO x C (some ax)))) (oz:H ax=some (.ext (lr ax aO))) (c:ny X.K C) (n:dq X.K C f) (l:aO.lookup f=some y)
  (h:∀ u s',Inv X aa σ H s'->b1 y u->Q u s'):wpAny (model X.prog X.w) A (getAttr (.ref x) f b) Q E s:=by
 obtain ⟨vs,bk,af⟩:=(show dS X.prog X.w H s.heap x (.ext (gO x C (some ax))) from J.bh _ _ e).1;obtain ⟨dV,ck,r,gz⟩:=(show dS X.prog X.w H s.heap ax (.ext (lr ax aO)) from J.bh _ _ oz).1;obtain ⟨br,aW,tU⟩:=Tj ck;obtain ⟨u,b7,ej⟩:=iO.some_of (v:=y) (o:=dV f) (by rw [<- l];exact r f);have bF:IZ s.heap x ⟨.ref C,some ax,.fields vs,bk⟩ C (some br):=⟨af,rfl,rfl,aW⟩;have fin:=h u _ (J.tok (s.toks + 1)) ej;have e8:=J.eg;clear h;obtain ⟨cd,ar,sC⟩:=CA c.hd;obtain ⟨aoS,jZ,LZ⟩:=CA c.fO;rw [ar] at jZ;cases jZ;have bU:=RH ej;obtain ⟨aq,g,d,t,os⟩:=s;have WD:=bF.type (M:=model X.prog X.w);have adH:=CJ (M:=model X.prog X.w) e8 c.ga;have L2:=CJ (M:=model X.prog X.w) e8 c.gt;have oc:=CJ (M:=model X.prog X.w) e8 n;have ez:=PySem.W.looks_own (M:=model X.prog X.w) (name:=f) (r:=some u) e8 bF ar (by unfold PySem.W.ownOf;rw [if_pos sC];show z9 f br=_;rw [tU,b7]);have FB:=PySem.F.excAttr_ValueError;have fw:=FB.ga.bind (.ref x);have aoz:(b && onTheHeap (vS "BaseException.__getattribute__"))=false:=by cases b <;> rfl
 have sv:(vS "BaseException.__getattribute__" == vS "object.__getattribute__")=false:=by ac_nf
 have oD:(onTheHeap (dU C) && vS "BaseException.__getattribute__" == vS "object.__getattribute__")=false:=by rw [sv];rfl
 unfold getAttr getAttrBy;refine wpAny_bind (wpAny_mkText (wpAny_holding (wpAny_bind (WD.at (wpAny_bind (adH.at ?_))))));dsimp only;rw [if_neg (by rw [oD];decide)];unfold getAttrByItsOwn
 repeat (any_goals (first | assumption | with_reducible refine PySem.W.Looks.at (by assumption) ?_ | wp_step))
 have ne:cd.mro.isEmpty=false:=by
  cases q:cd.mro with
  | nil=>rw [q] at LZ;cases LZ
  | cons _ _=>rfl
 have sub:L0 (model X.prog X.w) aq (isInstance (.ref x) (.type "BaseException")) true:=
  WD.andThen (YY e8 (by unfold xc;rw [ar,vP,if_neg (by rw [ne];decide),MV "BaseException" (by decide) LZ]))
 refine codeAny_call_builtin FB.ga.plain PySem.F.entry_bexc_ga (@PySem.W.check_slot (model X.prog X.w) _ _ ⟨aq,g,d,t + 1,os⟩ "BaseException.__getattribute__" "BaseException" "__getattribute__" (.ref x) [.str f t] [] _ (by ac_nf) (by ac_nf) sub (PySem.F.args_bexc_ga (.ref x) (.str f t)) ?_);unfold Builtin.«object.__getattribute__»
 repeat (any_goals (first | assumption | with_reducible refine PySem.W.Looks.at (by assumption) ?_ | wp_step))
 show wpAny _ _ (handedOut u) _ _ _;rw [PySem.W.handedOut_of bU];exact wpAny_pure fin
end
noncomputable abbrev uT:=St->au->(au->Prop)->Prop
def vi (X:a0) (aT:List Expr) (n:Nat) (t:uT):Prop:=
 ∀ (aa:List (Addr × Obj)) (s:Shared) (σ:St) (H:au) (Q:au->Prop) (acc:Str) (R:Str->Shared->Prop),Inv X aa σ H s->acc.length + n <= sizeLine->t σ H Q ->
  (∀ out I s',Inv X aa σ I s'->out.length <= sizeLine->Q I->R out s')->Joins (model X.prog X.w) X.A X.dz (evalEach aT X.env) acc R s
noncomputable def HH:uT:=fun _ H Q=>Q H
noncomputable def Kl (bN:TE) (t:uT):uT:=fun σ H Q=>bN σ H fun v H1=>∃ x,v=.str x/\x.length <= 1000/\(∀ c ∈ x.cps.toList,c < 16 ^ 8)/\t σ H1 Q
noncomputable def ER (t:uT):TE:=fun σ H Q=>t σ H fun H1=>∀ y:Str,Q (.str y) H1
section
variable {X:a0} {e:Expr} {aT:List Expr} {n:Nat} {t:uT} {bN:TE} {pos:Pos}
theorem afG:vi X [] 0 HH:=fun aa s σ H Q acc R J aD q h=>h acc H s J aD q
theorem aaJ {k:Nat} (h:vi X aT n t):vi X (.Constant (.str c) k pos :: aT) (n + c.length) t:=fun aa s σ H Q acc R J aD q fZ=>by
 show wpAny _ _ _ _ _ _;refine akT ⟨c,_,rfl,by rw [strLen_append];omega,h aa _ σ H Q _ R (J.tok _) (by rw [strLen_append];omega) q fZ⟩
theorem ai2 (he:bz X e bN) (h:vi X aT n t):vi X (.FormattedValue e 114 none pos :: aT) (n + 11000) (Kl bN t):=fun aa s σ H Q acc R J aD q fZ=>by
 show wpAny _ _ _ _ _ _;refine wpAny_FormattedValue_repr (bL (he aa s σ H _ J q) fun u s1 cL=>?_);obtain ⟨v,H1,aP,r,x,ev,af,ar,bT⟩:=cL;subst ev;obtain ⟨tk,rfl⟩:=(show ∃ tk,u=sM x tk from r);have aF:=aoG x ar;refine wpAny_pyReprObj_str ?_ (by rw [sizeLine_eq];omega);exact formatField_str (fun t' t6=>⟨_,_,rfl,by rw [strLen_append];omega,h aa _ σ H1 Q _ R ((aP.tok _).tok _) (by rw [strLen_append];omega) bT fZ⟩) (by rw [sizeLine_eq];omega)
theorem agq (h:vi X (e :: aC :: aT) n t) (aV:n <= sizeLine):bz X (.JoinedStr (e :: aC :: aT) pos) (ER t):=by
 intro aa s σ H Q J q;refine wpAny_JoinedStr (h aa s σ H _ _ _ J (by show 0 + n <= _;omega) q fun out I s' iu aD cb=>⟨aD,?_⟩);exact ⟨.str out,I,iu.tok _,⟨_,rfl⟩,cb out⟩
end
structure SH (K:bc) (L:Addr) (m:Str):Prop where
 my:ab_ K L (.type "type")=true
 fd:ahf K (.ref L) (.type "type") m=some (.val (.builtin "ValueError.__init__"))
 ga:u_ K (.ref L) "__getattribute__"=some (some (.builtin "type.__getattribute__"))
noncomputable def H4 (K:bc) (t:fc):TE:=fun σ H Q=>t σ H fun vs H1=>∃ x C br v,vs=[.ref x,v]/\H1 x=some (.ext (fH x C br))/\ny K C/\Q .cg H1
section
variable {X:a0} {L:Addr} {x:Str} {p pos fL:Pos} {e:Expr} {aT:List Expr} {t:fc}
theorem adu {A:Around} (J:Inv X aa σ H s) (eb:H a=some (.ext (fH a C br))) (c:ny X.K C)
  (h:∀ s',Inv X aa σ H s'->Q .none s'):wpAny (model X.prog X.w) A (call (.builtin "ValueError.__init__") [.ref a,u]) Q E s:=by
 obtain ⟨vs,bk,af,e4,dH⟩:=(show dS X.prog X.w H s.heap a (.ext (fH a C br)) from J.bh _ _ eb).1;obtain ⟨fI,JF⟩:=c.ex;obtain ⟨bo,N,nm,q,bs,sn,sub,mj,co,eR,hz,gQ,fP,hW,pR,r6,cK,bb,ag,T⟩:=Ls J.eg JF;have F:=ZV;obtain ⟨v0,h0⟩:∃ v0,vs[0]? = some v0:=⟨vs[0]'(by omega),Array.getElem?_eq_getElem (by omega)⟩;obtain ⟨bU,g,d,tt,os⟩:=s;refine wpAny_call (codeAny_call_builtin F.init.plain F.initEntry (wpAny_check_init_subT F T cK af rfl ?_));show wpAny _ _ (newTuple [u] >>= fun d2=>(do
  let old <- field (.ref a) 0
  setField (.ref a) 0 d2
  if let .ref _:=old then letGo [old] []) >>= fun _=>ret .none) _ _ _
 have oD:(bU.push { cls:=.type "tuple",data:=.seq [u].toArray }).get? a=some ⟨.ref C,br,.fields vs,bk⟩:=ed _ af;refine wpAny_bind (wpAny_newTuple (wpAny_bind (wpAny_bind (wpAny_field oD rfl h0 (wpAny_bind (wpAny_setField oD rfl (by omega) ?_))))));have gc:=ur (h:=bU.push { cls:=.type "tuple",data:=.seq [u].toArray }) (rF (·.setIfInBounds 0 (.ref bU.objs.size))) oD rfl;have fin:∀ s',s'=(⟨(bU.push { cls:=.type "tuple",data:=.seq [u].toArray }).update a (rF (·.setIfInBounds 0 (.ref bU.objs.size))),g,d,tt,os⟩:Shared)->Q .none s':=by
  rintro s' rfl;refine h _ ?_;have aP:Inv X aa σ H ⟨bU.push { cls:=.type "tuple",data:=.seq [u].toArray },g,d,tt,os⟩:=J.kept (t':=tt) fun b o q=>ed _ q
  have:=aP.write (x:=a) (e:=a) (o:=.ext (fH a C br)) (h':=(bU.push { cls:=.type "tuple",data:=.seq [u].toArray }).update a (rF (·.setIfInBounds 0 (.ref bU.objs.size)))) (t':=tt) (by rw [eb];exact hu) (.inl rfl)
   (fun b o ae q=>(lL _ _ (dF ae)).trans q) ⟨_,gc⟩ (fH.ok ⟨vs.setIfInBounds 0 (.ref bU.objs.size),bk,gc,by simpa using e4,by rw [Array.getElem?_setIfInBounds_ne (by decide)];exact dH⟩)
  rwa [Nz eb] at this
 cases v0 with
 | ref b=>exact wpAny_bind (wpAny_holding (wpAny_point (wpAny_pure (wpAny_pure (fin _ rfl)))))
 | _=>exact wpAny_pure (wpAny_pure (fin _ rfl))
theorem ada (bg:iR X x) (hm:X.mg x=some (.ref L)) (c:SH X.K L m) (aK:gg X (e :: aT) t)
  (gF:(x == ("__debug__" : Str))=false:=by decide) (ff:starEach (e :: aT) X.env=(false,eval e X.env) :: starEach aT X.env:=by rfl) (cO:(backTo pos (starEach aT X.env)).any (·.1)=false:=by rfl)
  (dQ:eval (.Call (.Attribute (.Name x p) m fL) (e :: aT) [] pos) X.env=(do
   let fO <- eval (.Name x p) X.env
   standAt fL.atName
   let (f,first) <- holding [fO] (getMethod fO m pl)
   callWith pos f first (backTo pos (starEach (e :: aT) X.env)) (backToKw pos (keywordEach [] X.env))):=by rfl) :
  bz X (.Call (.Attribute (.Name x p) m fL) (e :: aT) [] pos) (H4 X.K t):=by
 intro aa s σ H Q J h;refine Al (pl:=pl) (r3 J bg hm ?_ gF) dQ;refine ahz J.eg c.ga (age J.eg c.my c.fd rfl ?_);refine YF (bL (aK pos aa _ σ H _ (J.tok (s.toks + 1)) h) fun us s2 cL=>?_) ff cO;obtain ⟨vs,az,bK,r,a,C,br,v,ev,eb,p9,q⟩:=cL;subst ev;obtain ⟨l6,sQ,rfl,cG,e3⟩:=M0 r;obtain rfl:l6=dU a:=cG;exact adu bK eb p9 fun s3 eK=>⟨.cg,az,eK,rfl,q⟩
end
structure yd (K:bc) (C fI:Addr):Prop where
 e:uB K C fI=true
 fn:TA K (.ref fI)=some (.type "function")
 bj:qm K (.ref C)=true
noncomputable def Mt (C:Addr) (sp:bO) (t:fc):TE:=fun σ H Q=>t σ H fun vs H1=>vs.length <= sizeLine/\∀ x,H1 x=none->sp (.ref x :: vs) (upd H1 x (.ext (fH x C none))) (fun v az=>v=.cg/\Q (.ref x) az) (fun _ _ _=>False)
noncomputable def T6 (K:bc) (a6 e5:TE) (f:Str):ek:=fun D σ H=>e5 σ H fun y H1=>a6 σ H1 fun x az=>∃ a C,x=.ref a/\az a=some (.ext (fH a C none))/\ny K C/\dq K C f /\
 ∀ ax,az ax=none->ax ≠ a->D.cy σ (upd (upd az a (.ext (fH a C (some ax)))) ax (.ext (lr ax [(f,y)])))
noncomputable def Ft (K:bc) (a6:TE) (f:Str):TE:=fun σ H Q=>a6 σ H fun x H1=>∃ a C ax aO v,x=.ref a/\H1 a=some (.ext (gO a C (some ax)))/\H1 ax=some (.ext (lr ax aO))/\ny K C/\dq K C f/\aO.lookup f=some v/\Q v H1
section
variable {X:a0} {k:Nat} {f C:Addr} {fd:FuncData} {ps:List Str} {sp:bO} {x g:Str} {p pos pos' fL:Pos} {e o value:Expr} {aT:List Expr} {a6 e5:TE} {t:fc}
theorem aaD (M:yd X.K C f) (F:bV X.prog X.w X.K X.mg X.base (fun _ _ _ _ _ _=>False) k f fd ps sp) (aj:en (k + 1) X.A) (ae:b3 X.K fd ps [])
  (J:Inv X aa σ H s) (r:cj vs us) (aF:vs.length <= sizeLine) (h:∀ x,H x=none->sp (.ref x :: vs) (upd H x (.ext (fH x C none))) (fun v az=>v=.cg/\Q (.ref x) az) (fun _ _ _=>False)) :
  wpAny (model X.prog X.w) X.A (call (.ref C) us) (f5 X aa σ Q) X.dz s:=by
 obtain ⟨bU,g,d,tt,os⟩:=s;refine wpAny_call (adP (fI:=f) J.eg M.e M.fn (by rw [<- r.length];exact aF) fun h' x af NK=>?_);obtain ⟨d2,UB,_,_⟩:=NK.there;have bK:=J.laid (a:=x) (o:=.ext (fH x C none)) (h':=h') (t':=tt) NK.keeps af (fH.ok ⟨_,_,UB,Nat.lt_of_lt_of_eq (show 1 < 6 by decide) rfl,rfl⟩);have aM:=h x (J.bh.fresh af);have e3:cj (V.ref x :: vs) (dU x :: us):=.cons rfl r;have aD:((dU x :: us) ++ []).length=ps.length:=by
  rw [p5,<- e3.length];exact F.len _ _ _ _ aM
 have jt:=ae ⟨h',g,d,tt,os⟩ (dU x :: us) bK.eg aD;rw [p5] at jt;refine codeAny_mono (F.run _ X.stack _ _ ⟨dU x :: us,[]⟩ (dU x :: us) _ _ _ (aj.make C us []) (bK.AA.make C us []) jt e3 aM) fun r s' e0=>?_
 rcases r with e | (u | _ | _ | _) <;> first | exact ji e0 | skip
 obtain ⟨v,I,eK,cw,ev,g4⟩:=bK.after e0;subst ev;exact ⟨cw,⟨V.ref x,I,eK,rfl,g4⟩⟩
theorem sK (M:yd X.K C f) (F:bV X.prog X.w X.K X.mg X.base (fun _ _ _ _ _ _=>False) k f fd ps sp) (aj:en (k + 1) X.A) (bg:iR X x) (hm:X.mg x=some (.ref C)) (ae:b3 X.K fd ps [])
  (aK:gg X (e :: aT) t) (gF:(x == ("__debug__" : Str))=false:=by decide) (he:starEach (e :: aT) X.env=(false,eval e X.env) :: starEach aT X.env:=by rfl) (cO:(backTo pos (starEach aT X.env)).any (·.1)=false:=by rfl) :
  bz X (.Call (.Name x p) (e :: aT) [] pos) (Mt C sp t):=by
 intro aa s σ H Q J h;refine wpAny_Call_Name_kw (r3 J bg hm ?_ gF);exact xM (h₀:=X.base) J.ok.mod.rx M.bj (bL (aK pos aa s σ H _ J h) fun us s1 ⟨vs,H1,aP,r,aF,q⟩=>⟨aP.eg,aaD M F aj ae aP r aF q⟩) he cO
theorem ahX (aK:bz X o a6) (aG:bz X value e5) (aw:swapsWith value (some (.Attribute o g pos')) pos.line X.env=pure false):f9 X (.Assign [.Attribute o g pos'] value pos) (T6 X.K a6 e5 g):=by
 intro aa s σ H D J h;refine plainObj_wpAny_Assign_Attribute (bL (aG aa s σ H _ J h) fun u s1 cz=>eC cz fun y H1 aP bH q=>bL (aK aa s1 σ H1 _ aP q) fun fO s2 cL=>?_) aw;obtain ⟨x,az,bK,a8,a,C,ex,eb,c,n,d5⟩:=cL;subst ex;obtain rfl:fO=dU a:=a8;exact ac8 bK eb c n bH fun ax s3 hd cB eK=>⟨σ,_,eK,d5 ax hd cB⟩
theorem acM (he:bz X e a6) (ae:attributeBase e g X.env (eval e X.env)=eval e X.env):bz X (.Attribute e g pos) (Ft X.K a6 g):=by
 intro aa s σ H Q J h;refine Vt ae (bL (he aa s σ H _ J h) fun u s1 cL=>?_);obtain ⟨x,H1,aP,a8,a,C,ax,aO,v,ex,eb,oz,c,n,l,q⟩:=cL;subst ex;obtain rfl:u=dU a:=a8;exact al9 aP eb oz c n l fun u s2 bK ej=>⟨v,H1,bK,ej,q⟩
end
def nV (x C:Addr) (br:Option Addr) (T:Addr) (c_:Value) (h:Heap):Prop:=
 T ≠ x/\∃ vs bk uF j',h.get? x=some ⟨.ref C,br,.fields vs,bk⟩/\vs[1]? = some (.ref T)/\h.get? T=some uF/\uF.data=.fields j'/\j'[3]? = some c_
theorem nV.rR {x C T:Addr} {h:Heap} (z:nV x C br T c_ h):gO x C br h:=let ⟨_,vs,bk,_,_,e,_⟩:=z;⟨vs,bk,e⟩
structure oT (aO:List Addr) (x:Addr) (tH:Option Addr) (h h':Heap):Prop where
 keep:∀ b o,h.get? b=some o->b ∉ aO->b ≠ x->some b ≠ tH->h'.get? b=some o
 slot:∀ b o,h.get? b=some o->b ∈ aO->∃ bk,h'.get? b=some { o with slots:=bk }
 there:∀ b o,h.get? b=some o->∃ eP,h'.get? b=some eP
section
variable {M:Model} {A:Around} {E:Value->Shared->Prop} {s:Shared}
theorem xZ {base h:Heap} (aD:h.FunFrames base l) (e:h.get? b=some o) (d:o.data=.fields vs):b ∉ ip l:=fun hm=>by
 obtain ⟨_,eP,bW,hc⟩:=aD.mem hm;rw [e] at bW;cases bW;exact hc vs d
theorem aj' {env nM:Env} (hf:env.frame=some L) (p':nM.frame=some L):Jc nM=Jc env:=by
 unfold Jc;rw [p',hf]
theorem Rl {base:Heap} {env nM:Env} {outer:List Env} {L x C:Addr} {aV:Bool}
  (pe:A.frames=some (env :: outer)) (aD:s.heap.FunFrames base (env :: outer)) (hf:env.frame=some L) (p':nM.frame=some L) (he:s.heap.get? x=some ⟨.ref C,br,.fields vs,bk⟩) (aF:1 < vs.size)
  (h:∀ h' T,oT (ip (env :: outer)) x none s.heap h'->s.heap.objs.size <= T->nV x C br T (rawInt L) h'->Q () { s with heap:=h' }) :
  wpAny M A (do let a <- Jc nM;let pl <- entryPlaceOf L aV;let b <- ajT head a .none (rawInt L) .none pl;setField (.ref x) 1 b) Q E s:=by
 have cy:x ∉ ip (env :: outer):=xZ aD he rfl;rw [aj' hf p'];refine wpAny_bind (wpAny_frameOf_fun pe aD hf fun ab S=>wpAny_bind (wpAny_entryPlaceOf fun pl aq=>?_));unfold ajT newFields;refine wpAny_bind (wpAny_newObj_type ?_ (aq.sizeOk5 _ _ _ _ _));have ao:ab.get? x=some ⟨.ref C,br,.fields vs,bk⟩:=(S.2.1 x cy).trans he;obtain ⟨j',Ia,a5⟩:∃ j':Array Value,([head,.ref L,.none,rawInt L,.none] ++ (if pl.isEmpty then K1 6 k1 else pl)).toArray=j'/\j'[3]? = some (rawInt L):=⟨_,rfl,by simp⟩;rw [Ia];have aC:=ed (h:=ab) { cls:=.type "traceback",dict:=none,data:=.fields j' } ao;have ne:ab.objs.size ≠ x:=yq (d1 ao);have lQ:ab.objs.size=s.heap.objs.size:=S.1;refine wpAny_setField aC rfl aF (h _ ab.objs.size ⟨fun b o q ck cv _=>?_,fun b o q ck=>?_,fun b o q=>?_⟩ (DJ lQ.symm) ⟨ne,vs.setIfInBounds 1 (.ref ab.objs.size),bk,{ cls:=.type "traceback",dict:=none,data:=.fields j' },j',ur _ aC rfl,by simp [aF],?_,rfl,a5⟩)
 .rw [lL _ _ (dF cv)];exact ed _ ((S.2.1 b ck).trans q)
 .obtain ⟨C0,bJ⟩:=S.2.2 b o q;have nb:x ≠ b:=fun z=>cy (by rw [z];exact ck)
  exact ⟨C0,(lL _ _ nb).trans (ed _ bJ)⟩
 .by_cases ae:b=x
  .rw [ae];exact ⟨_,ur _ aC rfl⟩
  .obtain ⟨C0,bJ⟩:=S.2.2 b o q;exact ⟨_,by rw [lL _ _ (dF ae)];exact ed _ bJ⟩
 .exact (lL _ _ (dF ne)).trans (hS ab rfl)
theorem aiv {base:Heap} {env nM:Env} {outer:List Env} {L x C:Addr}
  (pe:A.frames=some (env :: outer)) (aD:s.heap.FunFrames base (env :: outer)) (hf:env.frame=some L) (p':nM.frame=some L) (he:s.heap.get? x=some ⟨.ref C,br,.fields vs,bk⟩) (ab:vs[1]? = some .none)
  (h:∀ h' T,oT (ip (env :: outer)) x none s.heap h'->s.heap.objs.size <= T->nV x C br T (rawInt L) h'->Q () { s with heap:=h' }) :
  wpAny M A (noteFrame (.ref x) nM) Q E s:=by
 unfold noteFrame;simp only [p'];refine wpAny_bind (wpAny_field he rfl ab ?_);rw [if_neg (by decide)];exact Rl pe aD hf p' he (Kv.mp ab).1 h
theorem ab0 {base:Heap} {env nM:Env} {outer:List Env} {L x C T:Addr}
  (pe:A.frames=some (env :: outer)) (aD:s.heap.FunFrames base (env :: outer)) (hf:env.frame=some L) (p':nM.frame=some L) (z:nV x C br T c_ s.heap) (cB:¬ (c_ == rawInt L)=true)
  (h:∀ h' mD,oT (ip (env :: outer)) x (some T) s.heap h'->s.heap.objs.size <= mD->nV x C br mD (rawInt L) h'->Q () { s with heap:=h' }) :
  wpAny M A (noteFrame (.ref x) nM) Q E s:=by
 obtain ⟨ne,vs,bk,uF,j',he,ab,fa,hd,a5⟩:=z;unfold noteFrame;simp only [p'];refine wpAny_bind (wpAny_field he rfl ab ?_);rw [if_pos (show (dU T != k1)=true from by simp)];refine wpAny_bind (wpAny_field fa hd a5 ?_);rw [if_neg cB];refine wpAny_bind (wpAny_setField fa hd (Kv.mp a5).1 ?_);have hU:T ∉ ip (env :: outer):=xZ aD fa hd;have oO:∀ b,b ≠ T->(s.heap.update T (rF (·.setIfInBounds 3 k1))).get? b=s.heap.get? b:=fun b ae=>lL _ _ (dF ae)
 have zz:∃ eP,(s.heap.update T (rF (·.setIfInBounds 3 k1))).get? T=some eP:=⟨_,ur _ fa (Y0 (Q2 hd _))⟩;have pa:(s.heap.update T (rF (·.setIfInBounds 3 k1))).FunFrames base (env :: outer):=aD.of_keeps fun b o e hc=>⟨o,(oO b fun q=>by rw [q,fa] at e;cases e;exact hc j' hd).trans e,rfl⟩
 refine Rl (s:={ s with heap:=s.heap.update T (rF (·.setIfInBounds 3 k1)) }) pe pa hf p' ((oO x (dF ne)).trans he) (Kv.mp ab).1 fun h' mD k w f=>h h' mD ⟨fun b o q ck cv c0=>?_,fun b o q ck=>?_,fun b o q=>?_⟩ ?_ f
 .exact k.keep b o ((oO b fun y=>c0 (by rw [y])).trans q) ck cv (fun y=>by cases y)
 .exact k.slot b o ((oO b fun y=>hU (y ▸ ck)).trans q) ck
 .by_cases ae:b=T
  .subst ae;obtain ⟨eP,bW⟩:=zz;exact k.there _ _ bW
  .exact k.there b o ((oO b ae).trans q)
 .exact cq (DJ (ai8 _ _ _).symm) w
theorem yW {x C T:Addr} {aO:List Addr} (o:Option Addr) (z:nV x C br T c_ s.heap) (hU:T ∉ aO)
  (h:∀ h',oT aO x (some T) s.heap h'->nV x C br T (o.elim .none fun f=>rawInt f) h'->Q () { s with heap:=h' }):wpAny M A (setFlight (.ref x) o) Q E s:=by
 obtain ⟨ne,vs,bk,uF,j',he,ab,fa,hd,a5⟩:=z;have yk:3 < j'.size:=(Kv.mp a5).1;have oO:∀ b,b ≠ T->(s.heap.update T (rF (·.setIfInBounds 3 (o.elim k1 fun f=>rawInt f)))).get? b=s.heap.get? b:=fun b ae=>lL _ _ (dF ae)
 have zz:=ur (rF (·.setIfInBounds 3 (o.elim k1 fun f=>rawInt f))) fa (Y0 (Q2 hd _));unfold setFlight;refine wpAny_bind (wpAny_field he rfl ab ?_);rw [if_pos (show (dU T != k1)=true from by simp)];refine wpAny_setField fa hd yk (h _ ⟨fun b o q _ _ c0=>(oO b fun y=>c0 (by rw [y])).trans q,fun b o q ck=>⟨o.slots,(oO b fun y=>hU (y ▸ ck)).trans q⟩,fun b o q=>?_⟩
  ⟨ne,vs,bk,_,_,(oO x (dF ne)).trans he,ab,zz,Q2 hd _,by simp [yk]⟩)
 by_cases ae:b=T
 .subst ae;exact ⟨_,zz⟩
 .exact ⟨o,(oO b ae).trans q⟩
end
section
variable {P:Program} {w:World} {H:au} {h h':Heap} {aO:List Addr} {x C T:Addr} {br:Option Addr} {c_:Value} {tH:Option Addr} {o:gL}
theorem oT.bh (k:oT aO x tH h h') (ok:eM P w H h) (vy:∀ b ∈ aO,H b=none) (fa:∀ t,tH=some t->H t=none) (fi:nK (H x)) (new:gO x C br h'):eM P w (upd H x (.ext (gO x C br))) h':=fun b u q=>by
 have w9:∀ c y,H c=some (.own y)->c ≠ x:=fun c y r z=>by subst z;rw [r] at fi;exact fi
 have Gh:∀ c xs,H c=some (.tup xs)->c ≠ x:=fun c xs r z=>by subst z;rw [r] at fi;exact fi
 have pA:∀ c v,c ≠ x->H c ≠ none->h.get? c=some v->h'.get? c=some v:=fun c v ck cv r=>k.keep c v r (fun z=>cv (vy c z)) ck fun z=>cv (fa c z.symm)
 by_cases ae:b=x
 .subst ae;rw [aS] at q;cases q;exact new.ok
 .rw [aZ ae] at q;refine (ok b u q).nv (fun c v ar r=>?_) (fun c r=>by rw [aZ (w9 c b r)];exact r) fun c xs r=>by rw [aZ (Gh c xs r)];exact r
  rcases ar with rfl | ar
  .exact pA c v ae (by rw [q];exact fun z=>by cases z) r
  .exact pA c v (w9 c b ar) (by rw [ar];exact fun z=>by cases z) r
theorem oT.un (k:oT aO x tH h h') (fa:∀ t,tH=some t->H t=none) (fi:nK (H x)):gG aO tH.toList H (upd H x o) h h':=by
 have af:∀ b,H b=none->b ≠ x:=fun b n z=>by subst z;rw [n] at fi;exact fi
 have hm:∀ b u,H b=some u->¬ nK (some u)->b ≠ x:=fun b u q nm z=>by subst z;rw [q] at fi;exact nm fi
 refine ⟨fun b u q n ck cv=>k.keep b u q ck (af b n) fun z=>cv (by rw [<- z];simp),fun b u q n ck cv=>k.slot b u q ck,fun b u q n _=>by rw [aZ (af b n)];exact n,fun b u q _=>k.there b u q,
  fun b xs q=>by rw [aZ (hm b _ q fun z=>z)];exact q,fun b u xs q=>by rw [aZ (hm b _ q fun z=>z)];exact q,fun b ps q=>⟨#[],by rw [aZ (hm b _ q fun z=>z),q];simp⟩⟩
end
noncomputable def l5 (P:Program) (w:World):j1:=fun outer H s E e s'=>
 ∃ x C br I T,e=.ref x/\s'.os=s.os/\AllBare s'.gens/\gG (ip outer) [] H I s.heap s'.heap/\eM P w I s'.heap/\I x=some (.ext (gO x C br))/\s.heap.objs.size <= T/\I T=none/\nV x C br T .none s'.heap/\E (.ref C) br I
def JV (X:a0) (E:St->d0):Prop:=∀ (aa:List (Addr × Obj)) (σ:St) (H:au) (s:Shared) (x C:Addr) (br:Option Addr),Inv X aa σ H s->H x=some (.ext (fH x C br))->E σ (.ref C) br (upd H x (.ext (gO x C br)))->X.dz (.ref x) s
def GS (CX:j1) (X:a0) (E:St->d0):Prop:=∀ (aa:List (Addr × Obj)) (σ:St) (H:au) (s:Shared) (e:Value) (s':Shared),Inv X aa σ H s->CX X.stack H s (E σ) e s'->X.dz e s'
structure p_ (X:a0):Prop where
 st:X.stack=X.env :: X.outer
 fr:X.env.frame=some X.env.locals
def xw (X:a0) (aa:List (Addr × Obj)) (T:Addr):Prop:=(T ∈ X.ex\/X.fE.heap.objs.size <= T)/\T ≠ X.env.locals/\(∀ x c,X.env.cells.lookup x=some c->c ≠ T)/\∀ p ∈ X.ey ++ aa,p.1 ≠ T
def nf (X:a0) (aa:List (Addr × Obj)) (E:St->d0) (c_:Value) (e:Value) (s':Shared):Prop:=
 ∃ ay I x C br T,e=.ref x/\Inv X aa ay I s'/\I x=some (.ext (gO x C br))/\I T=none/\xw X aa T/\nV x C br T c_ s'.heap/\E ay (.ref C) br I
def JX (X:a0) (aa:List (Addr × Obj)) (E:St->d0) (e:Value) (s':Shared):Prop:=
 ∃ ay I x C br,e=.ref x/\Inv X aa ay I s'/\I x=some (.ext (fH x C br))/\E ay (.ref C) br (upd I x (.ext (gO x C br)))
def qy (X:a0) (aa:List (Addr × Obj)) (E:St->d0) (e:Value) (s':Shared):Prop:=JX X aa E e s'\/∃ c_,nf X aa E c_ e s'
def yl (X:a0) (E:St->d0) (e:Value) (s':Shared):Prop:=∃ aa,qy X aa E e s'
section
variable {X:a0} {aa:List (Addr × Obj)} {σ:St} {H:au} {s:Shared} {T x C:Addr} {br:Option Addr} {E:St->d0} {M:Model} {A:Around} {tP:Value->Shared->Prop} {Q:Unit->Shared->Prop} {e c_:Value} {h':Heap}
theorem Cj (J:Inv X aa σ H s) (fa:s.heap.objs.size <= T):xw X aa T:=by
 have lt:∀ {b:Addr} {o:Obj},s.heap.get? b=some o->b ≠ T:=fun q z=>by
  subst z;exact absurd (ho (d1 q) fa) (nj _)
 refine ⟨.inr (cq J.lQ fa),fun z=>?_,fun x c e=>?_,fun p aq=>lt (J.pin p aq).1⟩
 .obtain ⟨m,⟨o,aT,cE,aW,_⟩,_⟩:=J.loc;exact lt aW z.symm
 .obtain ⟨v,o,aW,_⟩:=J.cell x c e;exact lt aW
theorem ad0 (J:Inv X aa σ H s) (k:oT (ip X.stack) x (some T) s.heap h') (ex:H x=some (.ext (gO x C br))) (j4:H T=none) (hU:xw X aa T) (rR:gO x C br h'):Inv X aa σ H { s with heap:=h' }:=by
 have fi:nK (H x):=by rw [ex];exact hu
 have z:∀ t,some T=some t->H t=none:=fun t z=>by cases z;exact j4
 have l6:=k.un (H:=H) (o:=.ext (gO x C br)) z fi;have gQ:=k.bh J.bh J.w3 z fi rR;rw [Nz ex] at l6 gQ;exact J.xi (s':={ s with heap:=h' }) (ch:=[T]) rfl l6 gQ J.bare fun b ae=>by
  obtain rfl:b=T:=by simpa using ae
  exact hU
theorem NR (F:p_ X) (J:Inv X aa σ H s) (k:oT (ip (X.env :: X.outer)) x (some T) s.heap h') (ex:H x=some (.ext (gO x C br))) (j4:H T=none) (hU:xw X aa T) (rR:gO x C br h'):Inv X aa σ H { s with heap:=h' }:=
 ad0 J (by rw [F.st];exact k) ex j4 hU rR
theorem nf.note (F:p_ X) (q:nf X aa E c_ e s) (cB:¬ (c_ == rawInt X.env.locals)=true) (h:∀ s',nf X aa E (rawInt X.env.locals) e s'->Q () s'):wpAny M X.A (noteFrame e X.env) Q tP s:=by
 obtain ⟨σ,H,x,C,br,T,rfl,J,ex,j4,hU,f,w⟩:=q;have aO:s.heap.FunFrames X.base (X.env :: X.outer):=by rw [<- F.st];exact J.stack
 exact ab0 (by rw [<- F.st];exact J.ok.frames) aO F.fr F.fr f cB fun h' mD k eH xl=>h _ ⟨σ,H,x,C,br,mD,rfl,NR F J k ex j4 hU xl.rR,ex,J.bh.fresh eH,Cj J eH,xl,w⟩
theorem nf.afo (F:p_ X) (q:nf X aa E (rawInt X.env.locals) e s) (h:Q () s):wpAny M X.A (noteFrame e X.env) Q tP s:=by
 obtain ⟨σ,H,x,C,br,T,rfl,J,ex,j4,hU,⟨ne,vs,bk,uF,j',he,ab,fa,hd,a5⟩,w⟩:=q;unfold noteFrame;simp only [F.fr];refine wpAny_bind (wpAny_field he rfl ab ?_);rw [if_pos (show (dU T != k1)=true from by simp)];refine wpAny_bind (wpAny_field fa hd a5 ?_);rw [if_pos (show (rawInt X.env.locals == rawInt X.env.locals)=true from by simp)];exact wpAny_pure h
theorem JX.note (F:p_ X) (q:JX X aa E e s) (h:∀ s',nf X aa E (rawInt X.env.locals) e s'->Q () s'):wpAny M X.A (noteFrame e X.env) Q tP s:=by
 obtain ⟨σ,H,x,C,br,rfl,J,ex,w⟩:=q;have aO:s.heap.FunFrames X.base (X.env :: X.outer):=by rw [<- F.st];exact J.stack
 obtain ⟨vs,bk,af,e4,dH⟩:=(show dS X.prog X.w H s.heap x (.ext (fH x C br)) from J.bh _ _ ex).1;have fi:nK (H x):=by rw [ex];exact hu
 refine aiv (by rw [<- F.st];exact J.ok.frames) aO F.fr F.fr af dH fun h' T k eH f=>h _ ?_
 have z:∀ t,none=some t->H t=none:=fun t z=>by cases z
 have l6:=k.un (H:=H) (o:=.ext (gO x C br)) z fi;have gQ:=k.bh J.bh (by rw [<- F.st];exact J.w3) z fi f.rR;rw [<- F.st] at l6;have bK:=J.xi (s':={ s with heap:=h' }) (ch:=[]) rfl l6 gQ J.bare fun b ae=>absurd ae (by simp)
 exact ⟨σ,_,x,C,br,T,rfl,bK,aS,by rw [aZ f.1];exact J.bh.fresh eH,Cj J eH,f,w⟩
theorem qy.note (F:p_ X) (q:qy X aa E e s) (h:∀ s',nf X aa E (rawInt X.env.locals) e s'->Q () s'):wpAny M X.A (noteFrame e X.env) Q tP s:=by
 rcases q with q | ⟨c_,q⟩
 .exact q.note F h
 .by_cases c:(c_ == rawInt X.env.locals)=true
  .rw [beq_iff_eq] at c;subst c;exact q.afo F (h _ q)
  .exact q.note F c h
theorem nf.yW (F:p_ X) (o:Option Addr) (q:nf X aa E c_ e s) (h:∀ s',nf X aa E (o.elim .none fun f=>rawInt f) e s'->Q () s'):wpAny M A (setFlight e o) Q tP s:=by
 obtain ⟨σ,H,x,C,br,T,rfl,J,ex,j4,hU,f,w⟩:=q;have aO:s.heap.FunFrames X.base (X.env :: X.outer):=by rw [<- F.st];exact J.stack
 have hc:T ∉ ip (X.env :: X.outer):=by
  obtain ⟨_,_,_,uF,j',_,_,e,d,_⟩:=id f;exact xZ aO e d
 exact L2.yW o f hc fun h' k xl=>h _ ⟨σ,H,x,C,br,T,rfl,NR F J k ex j4 hU xl.rR,ex,j4,hU,xl,w⟩
theorem qy.leave (F:p_ X) (q:qy X aa E e s) (h:∀ s',nf X aa E .none e s'->Q () s'):wpAny M X.A (leaving X.env e) Q tP s:=by
 unfold leaving;exact wpAny_bind (q.note F fun s' cb=>cb.yW F none h)
theorem abE:JV (X.jw (yl X E)) E:=fun aa σ H s x C br J ex q=>⟨aa,.inl ⟨σ,H,x,C,br,rfl,J.oC,ex,q⟩⟩
theorem acF {ud:d0} (J:Inv X aa σ H s) (aM:l5 X.prog X.w X.stack H s ud e s') (h:∀ C br I,ud C br I->E σ C br I):qy X aa E e s':=by
 obtain ⟨x,C,br,az,T,rfl,os,bare,un,bh,ex,fa,j4,c_,q⟩:=aM;exact .inr ⟨_,σ,az,x,C,br,T,rfl,J.xi os un bh bare (fun b z=>absurd z (by simp)),ex,j4,Cj J fa,c_,h _ _ _ q⟩
end
theorem V9 {X:a0} {E:d0}:pJ (l5 X.prog X.w) (X.jw (yl X fun _=>E)) E:=fun aa σ H s e s' J aM=>⟨aa,acF J.oC aM fun _ _ _ z=>z⟩
theorem ajd {X:a0} {E:d0}:JV (X.jw (yl X fun _=>E)) (fun _=>E):=abE
section
variable {P:Program} {w:World} {K:bc} {mg:Str->Option Value} {base:Heap} {N:List Str} {qual:Str} {scope:Scope} {f:Addr} {cd:Value} {A:Around} {outer:List Env} {s:Shared} {H:au} {E:d0}
theorem agU {e:Value} (q:yl (ni (l5 P w) P w K mg base N qual scope f cd A outer s H E) (fun _=>E) e s'):(ni (l5 P w) P w K mg base N qual scope f cd A outer s H E).dz e s':=by
 obtain ⟨aa,q⟩:=q;refine q.leave ⟨rfl,rfl⟩ fun s2 d5=>?_
 obtain ⟨σ,az,x,C,br,T,rfl,J,ex,j4,hU,c_,q⟩:=d5;refine ⟨x,C,br,az,T,rfl,J.os,J.bare,J.base,J.bh,ex,?_,j4,c_,q⟩;rcases hU.1 with z | z
 .exact absurd z (by show T ∉ ([]:List Addr);simp)
 .exact z
end
noncomputable def J0 (sp:bO) (dvs:List V) (E:St->d0) (t:fc):TE:=fun σ H Q=>t σ H fun vs H1=>sp (vs ++ dvs) H1 Q (E σ)
section
variable {X:a0} {CX:j1} {k:Nat} {f C:Addr} {fd:FuncData} {ps:List Str} {sp:bO} {dvs:List V} {ds:List Value} {E:St->d0} {x m:Str} {p pos fL:Pos} {e o:Expr} {aT:List Expr} {a6:TE} {t:fc}
theorem amE (F:bV X.prog X.w X.K X.mg X.base CX k f fd ps sp) (aj:en k X.A) (ae:b3 X.K fd ps ds) (hd:cj dvs ds) (af:GS CX X E)
  (J:Inv X aa σ H s) (r:cj vs us) (h:sp (vs ++ dvs) H Q (E σ)):wpAny (model X.prog X.w) X.A (call (.ref f) us) (f5 X aa σ Q) X.dz s:=by
 have e3:cj (vs ++ dvs) (us ++ ds):=r.append hd;have aD:(us ++ ds).length=ps.length:=by rw [<- e3.length];exact F.len _ _ _ _ h
 refine wpAny_call (codeAny_mono (F.run X.A X.stack s H ⟨us,[]⟩ (us ++ ds) (vs ++ dvs) Q (E σ) aj J.AA (ae s us J.eg aD) e3 h) fun r s' aM=>?_);rcases r with e | (u | _ | _ | _)
 .exact af aa σ H s e s' J aM
 all_goals first | exact J.after aM | exact ji aM
theorem Y8 (F:bV X.prog X.w X.K X.mg X.base CX k f fd ps sp) (aj:en k X.A) (bg:iR X x) (hm:X.mg x=some (.ref f)) (aE:qm X.K (.ref f)=true) (ae:b3 X.K fd ps ds) (hd:cj dvs ds) (af:GS CX X E)
  (aK:gg X (e :: aT) t) (gF:(x == ("__debug__" : Str))=false:=by decide) (he:starEach (e :: aT) X.env=(false,eval e X.env) :: starEach aT X.env:=by rfl) (cO:(backTo pos (starEach aT X.env)).any (·.1)=false:=by rfl) :
  bz X (.Call (.Name x p) (e :: aT) [] pos) (J0 sp dvs E t):=by
 intro aa s σ H Q J h;refine wpAny_Call_Name_kw (r3 J bg hm ?_ gF);exact xM (h₀:=X.base) J.ok.mod.rx aE (bL (aK pos aa s σ H _ J h) fun us s1 ⟨vs,H1,aP,r,q⟩=>⟨aP.eg,amE F aj ae hd af aP r q⟩) he cO
end
noncomputable abbrev a0.gb (X:a0) (ey:List (Addr × Obj)) (E:Value->Shared->Prop):a0:={ X with ey:=X.ey ++ ey,dz:=E }
noncomputable abbrev a0.aV (X:a0) (e:Value):a0:={ X with A:=X.A.mark (some e),calm:=false,dz:=fun _ _=>False }
section
variable {X:a0} {aa wV:List (Addr × Obj)} {σ:St} {H:au} {s:Shared} {E:Value->Shared->Prop} {e:Value}
theorem a0.Ok.gb (ok:X.Ok) (ey:List (Addr × Obj)) (E:Value->Shared->Prop):(X.gb ey E).Ok:=
 ⟨ok.mod,ok.kind,ok.glob,ok.blt,ok.above,ok.inj,ok.has,ok.p3,ok.hd,ok.frames,ok.hr,ok.ux,ok.bs,ok.lz,ok.p6,ok.qq,ok.kG,ok.n9⟩
theorem a0.Ok.o' {ey:List (Addr × Obj)} (ok:(X.gb ey E).Ok):X.Ok:=
 ⟨ok.mod,ok.kind,ok.glob,ok.blt,ok.above,ok.inj,ok.has,ok.p3,ok.hd,ok.frames,ok.hr,ok.ux,ok.bs,ok.lz,ok.p6,ok.qq,ok.kG,ok.n9⟩
theorem a0.Ok.aV (ok:X.Ok) (e:Value):(X.aV e).Ok:=
 ⟨ok.mod,ok.kind,ok.glob,ok.blt,ok.above,ok.inj,ok.has,ok.p3,(fun z=>Bool.noConfusion z),ok.frames,ok.hr,ok.ux,ok.bs,ok.lz,ok.p6,ok.qq,ok.kG,ok.n9⟩
theorem Inv.gb (J:Inv X aa σ H s) (E:Value->Shared->Prop):Inv (X.gb aa E) [] σ H s:=⟨J.ok.gb aa E,J.os,J.bare,J.base,J.loc,J.cell,J.free,J.jg,fun p aq=>J.pin p (by simpa using aq),J.bh,J.len⟩
theorem Inv.o' (J:Inv (X.gb aa E) wV σ H s):Inv X aa σ H s:=⟨J.ok.o',J.os,J.bare,J.base,J.loc,J.cell,J.free,J.jg,fun p aq=>J.pin p (nE _ aq),J.bh,J.len⟩
theorem Inv.aV (J:Inv X aa σ H s) (e:Value):Inv (X.aV e) aa σ H s:=⟨J.ok.aV e,J.os,J.bare,J.base,J.loc,J.cell,J.free,J.jg,J.pin,J.bh,J.len⟩
theorem Inv.Ed (ok:X.Ok) (J:Inv (X.aV e) aa σ H s):Inv X aa σ H s:=⟨ok,J.os,J.bare,J.base,J.loc,J.cell,J.free,J.jg,J.pin,J.bh,J.len⟩
theorem oP.o' (h:oP (X.gb aa E) wV D f s'):oP X aa D f s':=by
 cases f with
 | next=>obtain ⟨ay,I,J,q⟩:=h;exact ⟨ay,I,J.o',q⟩
 | brk=>obtain ⟨ay,I,J,q⟩:=h;exact ⟨ay,I,J.o',q⟩
 | cont=>obtain ⟨ay,I,J,q⟩:=h;exact ⟨ay,I,J.o',q⟩
 | ret u=>obtain ⟨v,ay,I,J,r,q⟩:=h;exact ⟨v,ay,I,J.o',r,q⟩
end
theorem aaU {X:a0} {aa:List (Addr × Obj)} {E:St->d0}:GS (l5 X.prog X.w) (X.gb aa (qy X aa E)) E:=by
 intro wV σ H s e s' J aM;obtain ⟨x,C,br,az,T,rfl,os,bare,un,bh,ex,fa,j4,c_,q⟩:=aM;have bK:=J.xi os un bh bare (fun b z=>absurd z (by simp));exact .inr ⟨_,σ,az,x,C,br,T,rfl,bK.o',ex,j4,Cj J.o' fa,c_,q⟩
theorem jp {A:Around} (J:Inv X aa σ H s) (bb:X.N.Nodup) (ag:X.N[i]? = some n)
  (aD:X.env.scope.names.lookup n=some .local) (h:∀ s',Inv X aa (σ.set i none) H s'->Q () s'):wpAny (model X.prog X.w) A (do bindName X.env n .none;unbindBehindTheSuite X.env n pos) Q E s:=by
 have ym:i < σ.length:=by rw [J.len];exact (bY.mp ag).1
 refine wpAny_bind (wpAny_bindName (EB J bb ag (.inl aD) (v:=.cg) (u:=.none) rfl (fun s1 aP=>?_) (.inr aD)));obtain ⟨m,aV,tU⟩:=aP.loc;have aE:X.env.kindOf n=some .local:=aD;obtain ⟨u,ej,lk⟩:=tU i n .cg ag (AM ym) (.inl aD);have ai9:(m n).isSome=true:=by
  rcases lk with ⟨_,e⟩ | ⟨k,_⟩
  .rw [e];rfl
  .rcases k with k | k <;> (rw [aE] at k;cases k)
 have aq:(X.env.scope.kind == .class || (X.env.scope.kind == .module && X.env.locals != X.env.globals))=false:=by rw [J.ok.kind];rfl
 unfold unbindBehindTheSuite;refine wpAny_onRaise ?_;unfold unbindName;refine wpAny_bind (wpAny_point (wpAny_bind ?_));unfold deleteName;simp only [aE,aq];rw [if_neg (by decide)];refine wpAny_bind (wpAny_nsDel_keeps aV fun ai v2 r1 aw=>?_);rw [ai9];refine wpAny_pure (wpAny_point (h _ ?_));have vM:∀ b o,X.fE.heap.get? b=some o->b ≠ X.env.locals:=fun b o e=>gd (ho (d1 e) aP.ok.above)
 refine ⟨aP.ok,aP.os,aP.bare,⟨fun b o e es ae af=>(aw.2 b (vM b o e)).trans (aP.base.keep b o e es ae af),fun b o e es ae af=>?_,aP.base.free,fun b o e af=>?_,aP.base.qj,aP.base.pj,aP.base.oM⟩,⟨_,r1,fun j y v ao aC bJ=>?_⟩,fun y c e=>?_,aP.free,aP.jg,fun p aq=>?_,fun b px e=>?_,by simpa using J.len⟩
 .obtain ⟨bk,ao⟩:=aP.base.slot b o e es ae af;exact ⟨bk,(aw.2 b (vM b o e)).trans ao⟩
 .obtain ⟨eP,ao⟩:=aP.base.there b o e af;exact ⟨eP,(aw.2 b (vM b o e)).trans ao⟩
 .by_cases aN:j=i
  .subst aN;rw [AM ym] at aC;cases aC
  .rw [Bb (dF aN)] at aC;obtain ⟨px,eo,q⟩:=tU j y v ao (by rw [Bb (dF aN)];exact aC) bJ;refine ⟨px,eo,?_⟩;rcases q with ⟨k,e⟩ | ⟨k,c,e,z⟩
   .refine .inl ⟨k,?_⟩;have:y ≠ n:=fun e=>aN (Nh bb ao (e ▸ ag))
    simp [this,e]
   .exact .inr ⟨k,c,e,z.sameBut aw (aP.qG y c e)⟩
 .obtain ⟨eH,z⟩:=aP.cell y c e;exact ⟨eH,z.sameBut aw (aP.qG y c e)⟩
 .obtain ⟨e,es,ne,hc,d⟩:=aP.pin p aq;exact ⟨(aw.2 p.1 ne).trans e,es,ne,hc,d⟩
 .have ahW:∀ c,H c ≠ none->c ≠ X.env.locals:=fun c q z=>q (by rw [z];exact aP.free)
  refine (aP.bh b px e).nv (fun c v ar q=>(aw.2 c (ahW c ?_)).trans q) (fun _ q=>q) fun _ _ q=>q
  rcases ar with rfl | ar
  .rw [e];exact fun z=>by cases z
  .rw [ar];exact fun z=>by cases z
noncomputable def hs.gone (D:hs) (i:Nat):hs:={ cy:=fun σ H=>D.cy (σ.set i none) H,l_:=D.l_,cI:=fun σ H=>D.cI (σ.set i none) H,e9:=fun σ H=>D.e9 (σ.set i none) H }
noncomputable def KW (K:bc) (c:Addr) (i:Nat) (kr:ek) (D:hs):St->d0:=fun σ C br H=>∃ sD,C=.ref sD/\G' K C (.ref c)=some true/\∀ x,H x=some (.ext (gO x sD br))->kr (D.gone i) (σ.set i (some (.ref x))) H
noncomputable def J3 (K:bc) (c:Addr) (i:Nat) (b8:(St->d0)->ek) (kr:ek):ek:=fun D σ H=>b8 (KW K c i kr D) D σ H
section
variable {X:a0} {body EE:List Stmt} {pV:Stmt} {x n:Str} {c:Addr} {i:Nat} {b8:(St->d0)->ek} {kr:ek} {We aq pos:Pos}
theorem Y7 (ae:∀ aa E,gC (X.gb aa (qy X aa E)) body (b8 E)) (bg:iR X x) (hm:X.mg x=some (.ref c)) (bU:∀ e,gC (X.aV e) (pV :: EE) kr) (bb:X.N.Nodup) (ag:X.N[i]? = some n)
  (aD:X.env.scope.names.lookup n=some .local) (F:p_ X:=by exact ⟨rfl,rfl⟩) (gF:(x == ("__debug__" : Str))=false:=by decide) :
  f9 X (.Try body [.ExceptHandler (some (.Name x We)) (some n) (pV :: EE) aq] [] [] pos) (J3 X.K c i b8 kr):=by
 intro aa s σ H D J h;refine wpAny_Try_except (wpAny_mono (ae aa _ [] s σ H D (J.gb _) h) (fun f s1 q=>?_) fun e s1 q=>?_)
 .have cb:=q.o';cases f with
  | next=>exact wpAny_execs_nil cb
  | brk=>exact cb
  | cont=>exact cb
  | ret u=>exact cb
 .refine q.note F fun s2 d5=>d5.yW F none fun s3 g4=>?_
  obtain ⟨gu,H1,a,C,br,T,rfl,bK,eb,j4,hU,c_,sD,vv,em,w⟩:=id g4;cases vv;refine wpAny_handleBy_cons (codeAny_handlers_test (r3 (bK.aV (.ref a)) bg hm ?_ gF)) (fun z=>by cases z);have LT:L0 (model X.prog X.w) s3.heap (typeOf (.ref a)) (.ref C):=by
   obtain ⟨vs,bk,e⟩:=c_.rR;exact (ao' e).andThen .now
  refine (PySem.W.exm_one bK.eg LT em).here ?_;rw [if_pos rfl];refine codeAny_handlers_suite_as (g4.yW F none fun s4 yx=>?_)
  .obtain ⟨gu,H1,sf,C,br,T,Ks,eK,eb,j4,hU,c_,sD,vv,em,w⟩:=yx;cases vv;cases Ks;refine EB (X:=X.aV (.ref a)) (eK.aV (.ref a)) bb ag (.inl aD) (v:=.ref a) (u:=.ref a) rfl (fun s5 fY=>?_) (.inr aD);refine wpAny_mono (bU (.ref a) aa s5 _ H1 (D.gone i) fY (w a eb)) (fun f s5 AU=>?_) fun _ _ z=>ji z
   cases f with
   | next=>obtain ⟨ay,I,bF,q⟩:=AU;exact jp (bF.Ed J.ok) bb ag aD fun dO ov=>⟨_,_,ov,q⟩
   | brk=>obtain ⟨ay,I,bF,q⟩:=AU;exact jp (bF.Ed J.ok) bb ag aD fun dO ov=>⟨_,_,ov,q⟩
   | cont=>obtain ⟨ay,I,bF,q⟩:=AU;exact jp (bF.Ed J.ok) bb ag aD fun dO ov=>⟨_,_,ov,q⟩
   | ret u=>obtain ⟨v,ay,I,bF,r,q⟩:=AU;exact jp (bF.Ed J.ok) bb ag aD fun dO ov=>⟨v,_,_,ov,r,q⟩
end
theorem ad6 {x n:Str} (ae:∀ aa E,∃ t,gC (X.gb aa (qy X aa E)) body t/\t=b8 E) (bg:iR X x) (hm:X.mg x=some (.ref c))
  (bU:∀ e,∃ t,gC (X.aV e) (pV :: EE) t/\t=kr) (bb:X.N.Nodup) (ag:X.N[i]? = some n) (aD:X.env.scope.names.lookup n=some .local) (F:p_ X:=by exact ⟨rfl,rfl⟩)
  (gF:(x == ("__debug__" : Str))=false:=by decide):f9 X (.Try body [.ExceptHandler (some (.Name x We)) (some n) (pV :: EE) aq] [] [] pos) (J3 X.K c i b8 kr):=
 Y7 (fun aa E=>by obtain ⟨t,h,rfl⟩:=ae aa E;exact h) bg hm (fun e=>by obtain ⟨t,h,rfl⟩:=bU e;exact h) bb ag aD F gF
theorem OQ (K:bc):J3 K c i b8 kr D σ H=b8 (KW K c i kr D) D σ H:=rfl
theorem U7 (K:bc) :
  KW K c i kr D σ C br H = ∃ sD,C=.ref sD/\G' K C (.ref c)=some true/\∀ x,H x=some (.ext (gO x sD br))->kr (D.gone i) (σ.set i (some (.ref x))) H:=rfl
theorem U9 (D:hs) (i:Nat) (σ:St) (H:au):(D.gone i).cy σ H=D.cy (σ.set i none) H:=rfl
theorem O3 (D:hs) (i:Nat) (v:V) (H:au):(D.gone i).l_ v H=D.l_ v H:=rfl
theorem OwnTail.has {h:Heap} {bm bo:List Value} (T:OwnTail h bm bo) (e:bm.contains v=true):bo.contains v=true:=by
 induction T with
 | base=>exact e
 | own _ _ _ _ c2=>rw [Dw,c2,Hj]
noncomputable def Gk (K:bc) (E:St->d0) (bN:TE):ek:=fun D σ H=>bN σ H fun v H1=>∃ x C br,v=.ref x/\H1 x=some (.ext (fH x C br))/\ny K C/\E σ (.ref C) br (upd H1 x (.ext (gO x C br)))
theorem afC {A:Around} {env:Env} {x:Sem Value} (bU:A.handled=none)
  (h:wpAny M A x (fun v s1=>∃ e C br vs bk nm q N bs bm Wy sn sub mj col eR hz gQ fP hW pR newId,v=.ref e/\bm.contains (.type "BaseException")=true /\
   s1.heap.get? C=some (excClassObj nm q C N bs bm Wy sn sub mj col eR hz gQ fP hW pR newId)/\s1.heap.get? e=some ⟨.ref C,br,.fields vs,bk⟩/\vs[1]? = some .none/\E (.ref e) s1) E s) :
  wpAny M A (raiseStmt env (some x) none) Q E s:=by
 unfold raiseStmt;refine wpAny_bind (wpAny_mono h (fun v s1 ab=>?_) fun _ _ x=>x);obtain ⟨e,C,br,vs,bk,nm,q,N,bs,bm,Wy,sn,sub,mj,col,eR,hz,gQ,fP,hW,pR,newId,rfl,ae,cK,he,ab,Ab⟩:=ab;have Ai:(dU C :: bm).contains (.type "BaseException")=true:=by rw [Dw,ae,Hj]
 obtain ⟨aq,g,d,tk,os⟩:=s1
 repeat (first | with_reducible refine wpAny_loadPart_at he ?_ | with_reducible refine wpAny_loadPart_at cK ?_ | (with_reducible refine wpAny_isSubtype_exc cK ?_;rw [Ai]) | (with_reducible refine wpAny_field he rfl ab ?_) | wp_step)
 exact wpAny_raiseNew_none bU Ab
section
variable {X:a0} {e:Expr} {bN:TE} {pos:Pos} {E:St->d0}
theorem alw (he:bz X e bN) (fa:JV X E) (ar:X.calm=true:=by rfl):f9 X (.Raise (some e) none pos) (Gk X.K E bN):=by
 intro aa s σ H D J h;rw [arm_exec_Raise];refine wpAny_bind (wpAny_standAt (afC (J.ok.hd ar) ?_));refine wpAny_bind (bL (he aa s σ H _ J h) fun u s1 ⟨v,H1,aP,r,x,C,br,ev,ex,c,q⟩=>wpAny_bind (wpAny_standAt (wpAny_pure ?_)));subst ev;obtain rfl:u=dU x:=r;obtain ⟨vs,bk,af,e4,dH⟩:=(show dS X.prog X.w H1 s1.heap x (.ext (fH x C br)) from aP.bh _ _ ex).1;obtain ⟨fI,JF⟩:=c.ex;obtain ⟨bo,N,nm,cb,bs,sn,sub,mj,co,eR,hz,gQ,fP,hW,pR,r6,cK,bb,ag,T⟩:=Ls aP.eg JF;exact ⟨x,C,br,vs,bk,nm,cb,N,bs,bo,true,sn,sub,mj,co,eR,hz,gQ,fP,hW,pR,_,rfl,L2.OwnTail.has T (by decide),cK,af,dH,fa aa σ H1 s1 x C br aP ex q⟩
end
theorem b9.hT {w:World} {K:bc} {mg:Str->Option Value} {base:Heap} {x qual:Str} {st:Stmt} {fd:FuncData} {N ps:List Str} {k:Nat} (F:b9 K x qual st f fd) (S:cn N ps (bt st))
  (len:∀ vs H Q E,sp vs H Q E->vs.length=ps.length)
  (nN:∀ (eN:Value) (A:Around) (outer:List Env) (s:Shared) (H:au) (vs:List V) (Q:cJ) (E:d0),en k (A.deeper (envOfC qual (bt st) s.heap.objs.size f eN))->sp vs H Q E ->
   ∃ t,gC ((ni (l5 P w) P w K mg base N qual (bt st) f eN A outer s H E).jw (yl (ni (l5 P w) P w K mg base N qual (bt st) f eN A outer s H E) fun _=>E)) (q7 st) t/\t { cy:=fun _ I=>Q .cg I,l_:=Q } (start N vs) H):bV P w K mg base (l5 P w) (k + 1) f fd ps sp:=by
 obtain ⟨nH,br,et,doc,pm,an,eN,e9,rP,rfl,lk,kj⟩:=F.ex;refine HL lk kj S len fun A outer s H vs Q E aj jc=>?_
 obtain ⟨t,h,q⟩:=nN eN A outer s H vs Q E aj jc;exact ⟨t,fun aa s1 σ H1 D J hw=>wpAny_mono (h aa s1 σ H1 D (J.jw _) hw) (fun _ _ q=>q.oC) fun _ _ z=>agU z,q⟩
def MN (B:a0) (E:d0) (e:Value) (s':Shared):Prop:=
 ∃ aa c_ ay I x C br T,e=.ref x/\Inv B aa ay I s'/\I x=some (.ext (gO x C br))/\I T=none/\xw B aa T/\B.fE.heap.objs.size <= T/\nV x C br T c_ s'.heap/\E (.ref C) br I
structure AT (X:a0) (scope:Scope) (N:List Str) (dr elt:Expr) (ifs:List Expr) (g:gP) (dd:TT) (bN:d0->TE):Prop where
 QL:∀ E C s H bf,o7 ((X.block scope C N s H bf).jw (MN (X.block scope C N s H bf) E)) dr g
 tests:∀ E C s H bf,w' ((X.block scope C N s H bf).jw (MN (X.block scope C N s H bf) E)) ifs dd
 elem:∀ E C s H bf,bz ((X.block scope C N s H bf).jw (MN (X.block scope C N s H bf) E)) elt (bN E)
section
variable {X:a0} {elt dr iter:Expr} {ifs:List Expr} {scope:Scope} {pos:Pos} {gz:TI} {g:gP} {dd:TT} {bN:d0->TE} {N:List Str} {sel:List (Option Nat)}
end
structure apN (K:bc) (C:Addr):Prop where
 cl:hI K C
 aK:el K (.ref C) "__class__"=some (some (.builtin "object.__class__"))
 aV:u_ K (.builtin "object.__class__") "__get__"=some (some (.builtin "getset_descriptor.__get__"))
 yn:K5 K (.builtin "object.__class__")=some true
 hm:xc K C (.type "object")=some true
end L2
namespace L2
open PySem PySem.Spec PyProof.Rows
section
variable {X:a0} {dr:Expr}
end
section
variable {prog:Program} {w:World} {A:Around} {E:Value->Shared->Prop} {s:Shared} {it l:Addr} {items:Array Value}
end
section
variable {X:a0}
end
section
variable {prog:Program} {w:World} {A:Around} {R:Result->Shared->Prop} {J:Addr} {bf wr:List Addr} {n:Nat} {P:Nat->Value->Prop} {St:Nat->Heap->Prop}
end
section
variable {prog:Program} {w:World} {A:Around} {E:Value->Shared->Prop} {s:Shared}
end
section
variable {X:a0}
end
structure aoU (K:bc) (C:Addr):Prop where
 x:ny K C
 aK:el K (.ref C) "__class__"=some (some (.builtin "object.__class__"))
 aV:u_ K (.builtin "object.__class__") "__get__"=some (some (.builtin "getset_descriptor.__get__"))
 yn:K5 K (.builtin "object.__class__")=some true
 hm:xc K C (.type "object")=some true
section
variable {prog:Program} {w:World} {A:Around} {E:Value->Shared->Prop} {s:Shared} {K:bc} {x C:Addr} {br:Obj} {ax:Addr} {vs:Array Value} {bk:Array (Option Value)}
end
section
variable {X:a0}
end
structure Yr (k:Nat) (A:Around):Prop where
 gA:A.depth + 3 * k + 5 < recursionLimit
 un:A.units + 16 * k + 200 < cLine
structure aoH (P:Program) (w:World) (K:bc) (mg:Str->Option Value) (base:Heap) (CX:j1) (k:Nat) (f:Addr) (fd:FuncData) (ps:List Str) (sp:bO):Prop where
 len:∀ vs H Q E,sp vs H Q E->vs.length=ps.length
 run:∀ (A:Around) (outer:List Env) (s:Shared) (H:au) (args:Args) (us:List Value) (vs:List V) (Q:cJ) (E:d0),Yr k A->rz P w K mg base A outer s H->BindsTo s fd args (ps.zip us)->cj vs us->sp vs H Q E ->
  codeAny (model P w) A (.call (.ref f) args) (Ib CX outer P w H s Q E) s
section
variable {X:a0} {CX:j1} {k:Nat} {f C:Addr} {fd:FuncData} {ps:List Str} {sp:bO} {dvs:List V} {ds:List Value} {E:d0} {x m:Str} {p pos fL:Pos} {e o:Expr} {aT:List Expr} {a6:TE} {t:fc}
end
noncomputable def ab' (CX:j1) (P:Program) (w:World) (K:bc) (mg:Str->Option Value) (base:Heap) (N:List Str) (qual:Str) (scope:Scope) (f:Addr) (cd:Value) (A:Around) (outer:List Env) (s:Shared) (H:au) (E:d0):a0 where
 prog:=P
 w:=w
 K:=K
 mg:=mg
 base:=base
 A:=A.deeper (envOfC qual scope s.heap.objs.size f cd)
 N:=N
 fE:=s
 sx:=H
 env:=envOfC qual scope s.heap.objs.size f cd
 outer:=outer
 stack:=envOfC qual scope s.heap.objs.size f cd :: outer
 ex:=[]
 calm:=false
 fn:=fun _=>true
 ey:=[]
 dz:=fun e s'=>wpAny (model P w) (A.deeper (envOfC qual scope s.heap.objs.size f cd)) (leaving (envOfC qual scope s.heap.objs.size f cd) e) (fun _ tK=>CX outer H s E e tK) (fun bW tK=>CX outer H s E bW tK) s'
section
variable {P:Program} {w:World} {K:bc} {mg:Str->Option Value} {base:Heap}
end
section
variable {X:a0}
end
section
variable {α:Type} {M:List α->Prop}
theorem jR (h:∀ a,M [a]):∀ us:List α,us.length=1->M us | [a],_=>h a
theorem hi (h:∀ a b,M [a,b]):∀ us:List α,us.length=2->M us | [a,b],_=>h a b
theorem gN (h:∀ a b c,M [a,b,c]):∀ us:List α,us.length=3->M us | [a,b,c],_=>h a b c
theorem Nv (h:∀ a b c d,M [a,b,c,d]):∀ us:List α,us.length=4->M us | [a,b,c,d],_=>h a b c d
theorem ZE (h:∀ a b c d e,M [a,b,c,d,e]):∀ us:List α,us.length=5->M us | [a,b,c,d,e],_=>h a b c d e
theorem Ax (h:∀ a b c d e f g,M [a,b,c,d,e,f,g]):∀ us:List α,us.length=7->M us | [a,b,c,d,e,f,g],_=>h a b c d e f g
theorem Zn (h:∀ a b c d e f g i,M [a,b,c,d,e,f,g,i]):∀ us:List α,us.length=8->M us | [a,b,c,d,e,f,g,i],_=>h a b c d e f g i
end
structure QN (K:bc) (C:Addr):Prop where
 hd:AD K C=true
 fO:((ajg K C).any fun cd=>yo cd.mro)=true
 bE:el K (.ref C) "__setattr__"=some (some (.builtin "object.__setattr__"))
 ga:el K (.ref C) "__getattribute__"=some (some (.builtin "BaseException.__getattribute__"))
 gt:el K (.ref C) "__getattr__"=some none
theorem aiX {K:bc} (b:QN K C) (m:yd K C f):ny K C:=⟨b.hd,b.fO,b.bE,b.ga,b.gt,_,m.e⟩
structure Iy (K:bc) (C:Addr):Prop where
 aK:el K (.ref C) "__class__"=some (some (.builtin "object.__class__"))
 aV:u_ K (.builtin "object.__class__") "__get__"=some (some (.builtin "getset_descriptor.__get__"))
 yn:K5 K (.builtin "object.__class__")=some true
 hm:xc K C (.type "object")=some true
theorem ahk {K:bc} (i:MT K (.ref f)=true) (e:uB K C f=true) (k:qm K (.ref C)=true):yd K C f:=⟨e,beq_iff_eq.mp i,k⟩
theorem Rm {b':List Int}:∀ {a4:List Value},cj (b'.map V.int) a4->∃ xs:List (Int × Tok),a4=xs.map (fun p=>nW p.1 p.2)/\xs.map (·.1)=b':=by
 induction b' with
 | nil=>intro a4 r;cases r;exact ⟨[],rfl,rfl⟩
 | cons k b' c2=>
  intro a4 r;cases r with
  | cons h t=>
   obtain ⟨xs,ao,aC⟩:=c2 t;obtain ⟨tk,rfl⟩:=(show ∃ t,_=nW k t from h);exact ⟨(k,tk) :: xs,by rw [eB,<- ao],by rw [eB,aC]⟩
section
variable {X:a0}
theorem Ge (ar:X.calm=true):mS X (.builtin "max") (fun xs H Q=>∃ l b' m,xs=[.ref l]/\ak X.K H l (p8 V.int b')/\(m ∈ b'/\∀ k ∈ b',k <= m)/\Q (.int m) H):=by
 intro aa s σ H xs us Q J r h;obtain ⟨l,b',m,rfl,aM,hm,q⟩:=h;obtain ⟨u,rfl,ej⟩:=lR r;cases ej;obtain ⟨a4,cw,pl,aF⟩:=J.list aM;obtain ⟨xs,ao,aC⟩:=Rm cw;have iB:a4.toArray=intItems xs.toArray:=by rw [ao];unfold intItems;simp
 have uj:s.heap.IsList l (intItems xs.toArray):=by rw [<- iB];exact pl.isList
 have kK:xs.length=b'.length:=by rw [<- aC,aR]
 have cB:0 < xs.toArray.size:=by
  rw [ft,kK];exact alz hm.1
 refine max_intList (J.ok.hd ar) uj cB fun v h' tk aG aE=>⟨.int m,H,J.kept aE,?_,q⟩
 obtain ⟨e5,rfl⟩:=intItems_at aG;refine ⟨e5,?_⟩;have ae:=argBest_gt (numAt xs.toArray) (xs.toArray.size - 1);generalize argBest (fun i j=>decide (numAt xs.toArray i > numAt xs.toArray j)) (xs.toArray.size - 1)=j at ae ⊢;have aV:∀ i,i < b'.length->b'[i]? = some (numAt xs.toArray i):=fun i ag=>by
  rw [numAt_eq,lJ];show b'[i]? = some (((xs.map (·.1))[i]?).getD 0);rw [aC,a_ ag];rfl
 rw [ft] at ae cB;have ab:=hm.2 _ (bM (aV j (by omega)));obtain ⟨i,ag⟩:=hD hm.1;have iB:i < b'.length:=(bY.mp ag).1;have ai:=ae.2 i (by omega);have a5:m=numAt xs.toArray i:=eL (ag.symm.trans (aV i iB));rw [show numAt xs.toArray j=m by omega]
noncomputable def H_ (K:bc):V->List V->au->cJ->Prop:=fun x vs H Q=>∃ l b' k,x=.ref l/\vs=[.int k]/\ak K H l (p8 V.int b')/\k ∈ b'/\b'.length <= 1000/\Q (.int (b'.idxOf k:Nat)) H
theorem SJ:sd X "list.index" (H_ X.K):=by
 intro aa s σ H x xs v us Q J a8 cw h;obtain ⟨l,b',k,rfl,rfl,aM,aE,aD,q⟩:=h;cases (show v=dU l from a8);obtain ⟨u,rfl,ej⟩:=lR cw;obtain ⟨jI,rfl⟩:=(show ∃ t,u=nW k t from ej);obtain ⟨a4,ue,pl,aF⟩:=J.list aM;have ag:=aga ue;have hlen:=ag.length;have aN:b'.idxOf k < b'.length:=ahq.mpr aE;obtain ⟨⟨cls,eR,data,bk⟩,aW,ar,n,hd⟩:=id pl.isList;simp only at ar hd;subst ar hd;refine call_meets Et ⟨_,aW,rfl⟩ aad (adL _ _)
  (agD l a4.toArray n eR bk (.int k jI) (isInt k) (b'.idxOf k) (by simpa [hlen] using aN) (by omega) ?_ ?_) ⟨aW,fun y aU=>(eq_isInt k jI ag y (by simpa using aU)).at _ _,.int _,H,J.tok _,⟨_,rfl⟩,q⟩
 .show isInt k a4[b'.idxOf k]=true;rw [isInt_at k ag _ (by omega) aN];simpa using abO aN
 .intro j amu cQ;show isInt k a4[j]=false;rw [isInt_at k ag j (by simpa using amu) (by omega)];exact ne_of_lt_idxOf cQ _
end
noncomputable def agL (p d:Addr):Heap->Prop:=fun h=>PySem.W.KdlKeysView h p d
section
variable {X:a0}
noncomputable def qN:V->List V->au->cJ->Prop:=fun x vs H Q=>∃ d aA,x=.ref d/\vs=[]/\H d=some (.di aA)/\∀ p,H p=none->Q (.ref p) (upd H p (.ext (agL p d)))
end
noncomputable abbrev adq:=St->au->Str->(Str->au->Prop)->Prop
section
variable {X:a0} {e:Expr} {aT:List Expr} {t:adq} {bN:TE} {pos:Pos}
end
section
variable {X:a0}
end
noncomputable def mP (f:Addr) (qual:Str) (params:Arguments) (body:Expr) (scope:Scope) (iH:List (Str × Addr)) (c':Addr):Heap->Prop:=
 fun h=>∃ pm kT,h.get? f=some (xy "<lambda>" qual params body scope iH pm c' kT)
noncomputable def m8 (c:Addr) (qual:Str):Heap->Prop:=fun h=>h.CodeRec (.ref c) qual
def Tab (H:au) (Pt:Addr) (pos:Pos) (qual:Str):Prop:=
 ∃ ps,H Pt=some (.hn ps)/\(ps=#[]\/∃ c',ps=#[rawInt pos.line,rawInt pos.col,.ref c']/\H c'=some (.ext (m8 c' qual)))
def xu (Pt:Addr) (H I:au):Prop:=∀ b o,b ≠ Pt->H b=some o->I b=some o
theorem aH.p (s:aH H I):xu Pt H I:=fun b o _ h=>s b o h
theorem Tab.ne (t:Tab H Pt pos qual) (h:H b=some o) (aW:∀ ps,o ≠ .hn ps):b ≠ Pt:=fun e=>by
 obtain ⟨ps,ao,_⟩:=t;subst e;rw [ao] at h;exact aW ps (eL h).symm
theorem Tab.step (t:Tab H Pt pos qual) (s:aH H I):Tab I Pt pos qual:=by
 obtain ⟨ps,e,d⟩:=t;refine ⟨ps,s _ _ e,?_⟩;rcases d with d | ⟨c',d,bW⟩
 .exact .inl d
 .exact .inr ⟨c',d,s _ _ bW⟩
theorem OM {w:World} {h:Heap}
  (e:h.get? f=some (xy "<lambda>" qual params body scope iH pm c' kT)):dS P w H h f (.ext (mP f qual params body scope iH c')):=
 ⟨⟨pm,kT,e⟩,⟨_,e⟩,fun _ _ ⟨p,c,ao⟩ k=>⟨p,c,k _ ao⟩⟩
theorem alj {w:World} {h:Heap} (e:h.CodeRec (.ref c) qual):dS P w H h c (.ext (m8 c qual)):=by
 refine ⟨e,?_,fun ab ai x k=>?_⟩
 .obtain ⟨bB,o,vs,t,ao,aC,_⟩:=e;cases ao;exact ⟨o,aC⟩
 .obtain ⟨bB,o,vs,t,ao,aC,bJ,e6⟩:=x;cases ao;exact ⟨_,o,vs,t,rfl,k o aC,bJ,e6⟩
structure QI (X:a0) (c Pt:Addr):Prop where
 code:X.env.code=.ref c
 hd:vw X.base c Pt
 bm:X.base.BuiltinsAt X.mg Pt
theorem IN:TriplesOk [rawInt a,rawInt b,v]:=hu
theorem Xk:codeAmong pos [rawInt pos.line,rawInt pos.col,v]=some v:=by
 have:=codeAmong_snoc (pos:=pos) (c:=v) [] hu rfl;simpa using this
section
variable {X:a0} {aa:List (Addr × Obj)} {σ:St} {H:au} {s:Shared} {params:Arguments} {body:Expr} {scope:Scope} {pos:Pos} {c Pt:Addr} {iH:List (Str × Addr)} {Q:Value->Shared->Prop}
theorem PP (J:Inv X aa σ H s) (T:QI X c Pt) (b8:Tab H Pt pos (X.env.qual ++ "<lambda>")) (oI:closureFor scope X.env=pure iH) (Ml:defaultsOf params X.env=([],[]))
  (h:∀ f c' H1 s1,Inv X aa σ H1 s1->xu Pt H H1->(aL H->aL H1)->Tab H1 Pt pos (X.env.qual ++ "<lambda>")->H1 f=some (.ext (mP f (X.env.qual ++ "<lambda>") params body scope iH c'))->H1 c'=some (.ext (m8 c' (X.env.qual ++ "<lambda>")))->H f=none->Q (.ref f) s1) :
  wpAny (model X.prog X.w) X.A (eval (.Lambda params body scope pos) X.env) Q X.dz s:=by
 refine PySem.W.kla_eval Ml ?_;obtain ⟨ps,lx,d⟩:=b8;have cN:s.heap.get? Pt=some (PA ps):=J.bh _ _ lx;have nO:s.heap.Ns mainGlobals X.mg:=J.mod.glob.keeps J.cI;have cK:=T.hd.keeps J.cI;have ajN:mainGlobals ≠ Pt:=fun q=>by
  obtain ⟨o,aT,cE,e,hd,_⟩:=nO;rw [q,cN] at e;cases e;cases hd
 have iv:s.heap.BuiltinsAt X.mg Pt:=by
  obtain ⟨bm,o,ab,ai,a5,bQ,du,iA⟩:=T.bm;exact ⟨bm,o,ab,ai,a5,bQ,J.cI _ _ du,iA⟩
 rcases d with rfl | ⟨c',rfl,dR⟩
 .refine PySem.W.kla_makeFunction (mg:=X.mg) oI J.ok.glob nO T.code cK cN hu rfl ajN iv fun c' kT h' tk af EH cQ aar Vq=>?_
  have rk:H c'=none:=J.bh.fresh EH;have hc:H h'.objs.size=none:=J.bh.fresh (cq EH (mM cQ));have al7:c' ≠ h'.objs.size:=gd cQ;have Xv:Pt ≠ c':=fun z=>by rw [z,rk] at lx;cases lx
  have ahF:Pt ≠ h'.objs.size:=fun z=>by rw [z,hc] at lx;cases lx
  have put:∀ b o,b ≠ Pt->H b=some o->upd (upd (upd H Pt (.hn (#[] ++ #[rawInt pos.line,rawInt pos.col,.ref c']))) c' (.ext (m8 c' (X.env.qual ++ "<lambda>")))) h'.objs.size (.ext (mP h'.objs.size (X.env.qual ++ "<lambda>") params body scope iH c')) b=some o:=fun b o n e=>by
   rw [aZ (fun z=>by rw [z,hc] at e;cases e),aZ (fun z=>by rw [z,rk] at e;cases e),aZ n];exact e
  have Bj:upd (upd (upd H Pt (.hn (#[] ++ #[rawInt pos.line,rawInt pos.col,.ref c']))) c' (.ext (m8 c' (X.env.qual ++ "<lambda>")))) h'.objs.size (.ext (mP h'.objs.size (X.env.qual ++ "<lambda>") params body scope iH c')) Pt=some (.hn (#[] ++ #[rawInt pos.line,rawInt pos.col,.ref c'])):=by
   rw [aZ ahF,aZ Xv,aS]
  have rH:upd (upd (upd H Pt (.hn (#[] ++ #[rawInt pos.line,rawInt pos.col,.ref c']))) c' (.ext (m8 c' (X.env.qual ++ "<lambda>")))) h'.objs.size (.ext (mP h'.objs.size (X.env.qual ++ "<lambda>") params body scope iH c')) c'=some (.ext (m8 c' (X.env.qual ++ "<lambda>"))):=by
   rw [aZ al7,aS]
  have G7:upd (upd (upd H Pt (.hn (#[] ++ #[rawInt pos.line,rawInt pos.col,.ref c']))) c' (.ext (m8 c' (X.env.qual ++ "<lambda>")))) h'.objs.size (.ext (mP h'.objs.size (X.env.qual ++ "<lambda>") params body scope iH c')) h'.objs.size=some (.ext (mP h'.objs.size (X.env.qual ++ "<lambda>") params body scope iH c')):=aS;have cg:∀ b,b ≠ Pt->b ≠ c'->b ≠ h'.objs.size->upd (upd (upd H Pt (.hn (#[] ++ #[rawInt pos.line,rawInt pos.col,.ref c']))) c' (.ext (m8 c' (X.env.qual ++ "<lambda>")))) h'.objs.size (.ext (mP h'.objs.size (X.env.qual ++ "<lambda>") params body scope iH c')) b=H b:=fun b ck cv c0=>by
   rw [aZ c0,aZ cv,aZ ck]
  have i0:aL H->aL (upd (upd (upd H Pt (.hn (#[] ++ #[rawInt pos.line,rawInt pos.col,.ref c']))) c' (.ext (m8 c' (X.env.qual ++ "<lambda>")))) h'.objs.size (.ext (mP h'.objs.size (X.env.qual ++ "<lambda>") params body scope iH c'))):=fun n=>n.upd.upd.upd
  generalize upd (upd (upd H Pt (.hn (#[] ++ #[rawInt pos.line,rawInt pos.col,.ref c']))) c' (.ext (m8 c' (X.env.qual ++ "<lambda>")))) h'.objs.size (.ext (mP h'.objs.size (X.env.qual ++ "<lambda>") params body scope iH c'))=H1 at put Bj rH G7 cg i0;have bj:∀ b o,b ≠ Pt->s.heap.get? b=some o->(h'.push (xy "<lambda>" (X.env.qual ++ "<lambda>") params body scope iH ((X.mg "__name__").getD .none) c' kT)).get? b=some o:=fun b o n e=>ed _ (af b o n e)
  have JA:∀ b,H b=none->b ≠ Pt:=fun b n z=>by rw [z,lx] at n;cases n
  have u:gG X.aO [] H H1 s.heap (h'.push (xy "<lambda>" (X.env.qual ++ "<lambda>") params body scope iH ((X.mg "__name__").getD .none) c' kT)):=by
   refine ⟨fun b o e n _ _=>bj b o (JA b n) e,fun b o e n _ _=>⟨o.slots,bj b o (JA b n) e⟩,fun b o e n _=>?_,fun b o e _=>?_,fun b xs e=>put b _ (fun z=>by rw [z,lx] at e;cases e) e,fun b o x e=>put b _ (fun z=>by rw [z,lx] at e;cases e) e,fun b ps e=>?_⟩
   .have ae:=d1 e;rw [cg b (JA b n) (gd (ho ae EH)) (gd (ho ae (cq EH (mM cQ))))];exact n
   .by_cases ae:b=Pt
    .subst ae;exact ⟨_,ed _ Vq⟩
    .exact ⟨o,bj b o ae e⟩
   .by_cases ae:b=Pt
    .subst ae;rw [lx] at e;cases e;exact ⟨_,Bj⟩
    .exact ⟨#[],by rw [put b _ ae e];simp⟩
  have bh:eM X.prog X.w H1 (h'.push (xy "<lambda>" (X.env.qual ++ "<lambda>") params body scope iH ((X.mg "__name__").getD .none) c' kT)):=fun b o e=>by
   by_cases ab:b=Pt
   .subst ab;rw [Bj] at e;cases e;exact ed _ Vq
   by_cases ai:b=c'
   .subst ai;rw [rH] at e;cases e;refine alj ?_;obtain ⟨bB,o,vs,t,ao,aC,bJ⟩:=aar;exact ⟨bB,o,vs,t,ao,ed _ aC,bJ⟩
   by_cases a5:b=h'.objs.size
   .subst a5;rw [G7] at e;cases e;exact OM (hS _ rfl)
   rw [cg b ab ai a5] at e;refine (J.bh b o e).nv (fun d v hd q=>bj d v ?_ q) (fun d q=>put d _ (fun z=>by rw [z,lx] at q;cases q) q) fun d xs q=>put d _ (fun z=>by rw [z,lx] at q;cases q) q
   rcases hd with z | z
   .rw [z];exact ab
   .intro dH;rw [dH,lx] at z;cases z
  exact h _ c' H1 _ (J.un (t':=tk) u bh) (fun b o n e=>put b o n e) i0 ⟨_,Bj,.inr ⟨c',by simp,rH⟩⟩ G7 rH hc
 .refine PySem.W.kla_makeFunctionHit (mg:=X.mg) oI J.ok.glob nO T.code cK cN IN Xk iv fun kT h' tk aE hsz=>?_
  have hc:H h'.objs.size=none:=J.bh.fresh hsz;have aP:Inv X aa σ (upd H h'.objs.size (.ext (mP h'.objs.size (X.env.qual ++ "<lambda>") params body scope iH c'))) { s with heap:=h'.push (xy "<lambda>" (X.env.qual ++ "<lambda>") params body scope iH ((X.mg "__name__").getD .none) c' kT),toks:=tk }:=
   J.laid (t':=tk) (fun b o e=>ed _ (aE b o e)) hsz (OM (hS _ rfl))
  have bu:=a' (o:=.ext (mP h'.objs.size (X.env.qual ++ "<lambda>") params body scope iH c')) hc;exact h _ c' _ _ aP bu.p (fun n=>n.upd) ⟨_,bu _ _ lx,.inr ⟨c',rfl,bu _ _ dR⟩⟩ aS (bu _ _ dR) hc
end
section
variable {P:Program} {w:World} {K:bc} {mg:Str->Option Value} {base:Heap}
end
structure BT (p y:Str) (sc:Scope):Prop where
 kind:sc.kind=.function
 co:sc.isCoroutine=false
 gen:sc.isGenerator=false
 ne:p ≠ y
 par:sc.names.lookup p=some .local
 VY:sc.names.lookup y=some .free
 uh:∀ z ∈ sc.names,z.2 ≠ .cell
 one:∀ z ∈ sc.names,z.2=.free->z.1=y
section
variable {X:a0} {aa:List (Addr × Obj)} {σ:St} {H:au} {s:Shared} {k:Nat} {f c' cl:Addr} {q p y:Str} {params:Arguments} {body:Expr} {scope:Scope} {v:V} {t:TE}
end
noncomputable def ajU:Expr->Scope
 | .Lambda _ _ s _=>s
 | _=>{ kind:=.function,names:=[],isGenerator:=false,isCoroutine:=false }
noncomputable def afd:Expr->Pos
 | .Lambda _ _ _ p=>p
 | _=>⟨0,0,0,0⟩
def AN (Pt:Addr) (H:au):Prop:=H Pt=some (.hn #[])/\∀ b,H b=none\/b=Pt\/∃ o xs,H b=some (.ja o (.lst xs))
theorem Sc.aeU {K:bc} {ns:List Int} (mA:AN Pt H) (ea:ak K H a (ns.map V.int)):Sc K a ns H:=by
 refine ⟨?_,fun b u e=>?_⟩
 .rcases ea with (h | ⟨o,h⟩) | h
  .rcases mA.2 a with z | z | ⟨cU,xs,z⟩
   .rw [h] at z;cases z
   .rw [z,mA.1] at h;cases h
   .rw [h] at z;cases z
  .exact .inl ⟨o,h⟩
  .exact .inr h
 .rcases mA.2 b with z | z | ⟨o,xs,z⟩
  .rw [e] at z;cases z
  .rw [z,mA.1] at e;cases e;rfl
  .rw [e] at z;cases z;rfl
theorem anI {w:World} {K:bc} {mg nJ:Str->Option Value} {k:Nat} {fd:FuncData} {x:Str} {ns:List Int}
  (e8:K.In dh.heap) (f6:XH K=true) (nO:dh.heap.Ns mainGlobals mg) (ae:dh.heap.Ns builtinsNs nJ) (q':∀ x:Str,x ≠ "__name__" -> nJ x=bootBuiltins x) (XC:dh.heap.NoLimit) (bg:dh.gens=#[])
  (ae8:∃ bm cU,mg "__builtins__"=some (.ref bm)/\bm ≠ builtinsNs/\dh.heap.get? bm=some cU/\cU.cls=.type "module" /\ cU.dict=some builtinsNs/\cU.data=.plain)
  (cK:vw dh.heap c Pt) (cN:dh.heap.get? Pt=some (PA #[]))
  (aK:dh.heap.get? a=some { cls:=.type "list",data:=.seq vs.toArray }) (ag:IntsAre vs ns) (aD:ns.length <= sizeLine) (aj:en k callerA)
  (F:∀ base:Heap,K.In base->base.Ns mainGlobals mg->vw base c Pt->base.BuiltinsAt mg Pt->bV P w K mg base CX k gq fd [x] sp) (ac1:∀ (s:Shared) (u:Value),BindsTo s fd ⟨[u],[]⟩ [(x,u)])
  (jc:∀ H:au,AN Pt H->ak K H a (ns.map V.int)->sp [.ref a] H (fun v _=>v=.bw true) fun _ _ _=>False)
  (LJ:∀ H e s',CX [] H dh (fun _ _ _=>False) e s'->False) :
  codeAny (model P w) callerA (.call (.ref gq) ⟨[.ref a],[]⟩) (fun r s'=>r=.ok (.ret (.bool true))/\OldK dh.heap s'.heap/\s'.os=dh.os/\AllBare s'.gens) dh:=by
 have cw:=Q3 ag;have agi:=ag.length;have NN:Pt ≠ a:=fun z=>by rw [z,aK] at cN;cases cN
 have al8:∀ o,K.lookup Pt=some o->False:=fun o e=>by
  have ao:=e8 _ _ e;rw [cN] at ao;cases ao;have:=sl.mp f6 _ (PySem.W.mem_of_lookupK e);exact absurd (show false=true from this) hh
 have core:∀ H:au,AN Pt H->ak K H a (ns.map V.int)->eM P w H dh.heap->(∀ b,H b ≠ none->b=Pt\/b=a)->(H a ≠ none->K.lookup a=none) ->
   codeAny (model P w) callerA (.call (.ref gq) ⟨[.ref a],[]⟩) (fun r s'=>r=.ok (.ret (.bool true))/\OldK dh.heap s'.heap/\s'.os=dh.os/\AllBare s'.gens) dh:=by
  intro H mA ea bh h3 ajo;have VQ:∀ {b:Addr} {o:Obj},dh.heap.get? b=some o->o.cls ≠ .none->(∀ a4 n,o.data ≠ .seq a4 n)->(oq dh.heap H).get? b=some o:=fun {b o} e ab ai=>by
   refine KD e ?_;cases q:H b with
   | none=>rfl
   | some u=>
    rcases h3 b (by rw [q];simp) with z | z
    .subst z;rw [cN] at e;cases e;exact absurd rfl ab
    .subst z;rw [aK] at e;cases e;exact absurd rfl (ai _ _)
  have AQ:∀ {b:Addr} {m:Str->Option Value},dh.heap.Ns b m->(oq dh.heap H).Ns b m:=fun {b m} ⟨o,aT,cE,e,d,r⟩=>⟨o,aT,cE,(by
   refine KD e ?_;cases q:H b with
   | none=>rfl
   | some u=>
    rcases h3 b (by rw [q];simp) with z | z
    .subst z;rw [cN] at e;cases e;cases d
    .subst z;rw [aK] at e;cases e;cases d),d,r⟩
  have Ul:K.In (oq dh.heap H):=fun b o e=>KD (e8 b o e) (by
   cases q:H b with
   | none=>rfl
   | some u=>
    rcases h3 b (by rw [q];simp) with z | z
    .subst z;exact (al8 o e).elim
    .subst z;rw [ajo (by rw [q];simp)] at e;cases e)
  have ahM:Mod K mg (oq dh.heap H):=⟨Ul,AQ nO,⟨nJ,AQ ae,q'⟩,let ⟨acw,ab,ai⟩:=XC;⟨acw,AQ ab,ai⟩⟩;have abw:vw (oq dh.heap H) c Pt:=by
   obtain ⟨o,ajY,file,adT,flags,dr,ajs,text,tt,ao,aC,bJ,r⟩:=cK;exact ⟨o,ajY,file,adT,flags,dr,ajs,text,tt,VQ ao (by rw [aC];intro z;cases z) (fun _ _ z=>by rw [bJ] at z;cases z),aC,bJ,r⟩
  have anq:(oq dh.heap H).BuiltinsAt mg Pt:=by
   obtain ⟨bm,cU,ab,ai,a5,bQ,du,iA⟩:=ae8;refine ⟨bm,cU,ab,ai,fun z=>?_,fun z=>?_,VQ a5 (by rw [bQ];intro z;cases z) (fun _ _ z=>by rw [iA] at z;cases z),bQ,du,iA⟩
   .obtain ⟨o,aT,cE,e,d,_⟩:=nO;rw [z,e] at a5;cases a5;rw [d] at iA;cases iA
   .rw [z,cN] at a5;cases a5;cases bQ
  have fA:rz P w K mg (oq dh.heap H) callerA [] dh H:=⟨rfl,ahM,fun b o e=>ame e,DJ (ags _ _),trivial,fun b ae=>absurd (show b ∈ ([]:List Addr) from ae) (by simp),bh,.of_eq bg⟩;refine codeAny_mono ((F _ Ul (AQ nO) abw anq).run callerA [] dh H ⟨[.ref a],[]⟩ [.ref a] [.ref a] _ _ aj fA (ac1 dh (.ref a)) (.cons rfl .nil) (jc H mA ea)) fun r s' h=>?_
  cases r with
  | error e=>exact (LJ H e s' h).elim
  | ok c_=>
   cases c_ with
   | next=>exact ji h
   | brk=>exact ji h
   | cont=>exact ji h
   | ret u=>
    obtain ⟨v,I,os,bare,un,OA,eo,q⟩:=h;have cb:v=.bw true:=q;subst cb;obtain rfl:u=hX true:=eo;obtain ⟨more,lx⟩:=un.oM Pt _ mA.1;have SR:s'.heap.get? Pt=some { cls:=.none,data:=.fields (#[] ++ more) }:=OA _ _ lx;have bj:∀ b o,b ≠ Pt->dh.heap.get? b=some o->s'.heap.get? b=some o:=fun b o nb e=>by
     rcases mA.2 b with z | z | ⟨cU,xs,z⟩
     .exact un.keep b o e z (by intro z;exact absurd (show b ∈ ([]:List Addr) from z) (by simp)) (by simp)
     .exact absurd z nb
     .have dH:=un.pj b cU _ z;obtain ⟨ao,_⟩:=bh b _ z;obtain ⟨aC,_⟩:=OA b _ dH;rw [e] at ao;cases ao;exact aC
    refine ⟨rfl,⟨fun b o e=>?_,fun b o e=>?_⟩,os,bare⟩
    .by_cases yc:b=Pt
     .subst yc;rw [cN] at e;cases e;exact .inr (.inl ⟨(cK.tab cN).isCodeTable,rfl,#[],more,rfl,SR⟩)
     .exact .inl (bj b o yc e)
    .by_cases yc:b=Pt
     .subst yc;exact ⟨_,SR⟩
     .exact ⟨o,bj b o yc e⟩
 have TQ:∀ H:au,dS P w H dh.heap Pt (.hn #[]):=fun _=>cN
 cases aE:K.lookup a with
 | some o=>
  have e:=e8 a o aE;rw [aK] at e;cases e;refine core (fun b=>if b=Pt then some (.hn #[]) else none) ⟨if_pos rfl,fun b=>?_⟩ (.inr ⟨_,vs.toArray,_,aE,rfl,rfl,rfl,by rw [ft,agi];exact aD,by simpa using cw⟩) (fun b u z=>?_) (fun b z=>?_) fun z=>absurd (if_neg (dF NN)) z
  .by_cases ae:b=Pt
   .exact .inr (.inl ae)
   .exact .inl (if_neg ae)
  .by_cases ae:b=Pt
   .have gn:=(if_pos ae).symm.trans z;cases gn;subst ae;exact TQ _
   .have gn:=(if_neg ae).symm.trans z;cases gn
  .by_cases ae:b=Pt
   .exact .inl ae
   .exact absurd (if_neg ae) z
 | none=>
  have eb:(fun b=>if b=Pt then some (gL.hn #[]) else if b=a then some (.ja { cls:=.type "list",data:=.seq vs.toArray } (.lst (ns.map V.int))) else none) a=some (.ja { cls:=.type "list",data:=.seq vs.toArray } (.lst (ns.map V.int))):=by
   show (if a=Pt then _ else if a=a then _ else _)=_;rw [if_neg (dF NN),if_pos rfl]
  refine core (fun b=>if b=Pt then some (.hn #[]) else if b=a then some (.ja { cls:=.type "list",data:=.seq vs.toArray } (.lst (ns.map V.int))) else none) ⟨if_pos rfl,fun b=>?_⟩ (.inl (.inr ⟨_,eb⟩)) (fun b u z=>?_) (fun b z=>?_) fun _=>aE
  .by_cases ae:b=Pt
   .exact .inr (.inl ae)
   .by_cases jt:b=a
    .exact .inr (.inr ⟨_,_,by rw [jt];exact eb⟩)
    .exact .inl ((if_neg ae).trans (if_neg jt))
  .by_cases ae:b=Pt
   .have gn:=(if_pos ae).symm.trans z;cases gn;subst ae;exact TQ _
   .by_cases jt:b=a
    .subst jt;rw [eb] at z;cases z;exact ⟨aK,by rw [aR];exact aD,vs,_,cw,aK⟩
    .have gn:=((if_neg ae).trans (if_neg jt)).symm.trans z;cases gn
  .by_cases ae:b=Pt
   .exact .inl ae
   .by_cases jt:b=a
    .exact .inr jt
    .exact absurd ((if_neg ae).trans (if_neg jt)) z
section
variable {P:Program} {w:World} {A:Around} {E:Value->Shared->Prop} {s:Shared}
structure Qa (h:Heap) (d:Addr) (o:Obj) (aT:Array DictEntry) (cE:Nat):Prop where
 at_:h.get? d=some o
 ex:o.ExactDict
 dat:o.data=.dict aT cE
theorem ai1 (r:Qa s.heap d o aT cE):s.TypeIs (.ref d) "dict" := ⟨o,r.at_,r.ex.1⟩
end
noncomputable def pO (a:Addr) (o:Obj):Heap->Prop:=fun h=>h.get? a=some o
structure R9 (P:Program) (w:World) (H:au) (a:Addr) (aA:List (List Key × V)) (o:Obj) (aT:Array DictEntry) (cE:Nat) (xs:List (List Key × Addr × Value)):Prop where
 at_:H a=some (.ext (pO a o))
 ex:o.ExactDict
 dat:o.data=.dict aT cE
 ent:aT.toList=xs.map (entryOfKey (tupleKind (j_ P w)))
 aB:(xs.map (·.1)).Nodup
 b':Paired (fun (p:List Key × V) (q:List Key × Addr × Value)=>p.1=q.1/\H q.2.1=some (.tup (p.1.map et))/\b1 p.2 q.2.2) aA xs
 lQ:aA.length <= sizeLine
 ns:(a == sysModules)=false
def iL (P:Program) (w:World) (H:au) (a:Addr) (aA:List (List Key × V)):Prop:=∃ o aT cE xs,R9 P w H a aA o aT cE xs
section
variable {P:Program} {w:World} {H I:au} {h:Heap} {a:Addr} {aA:List (List Key × V)}
theorem Kb (d:iL P w H a aA) (s:aH H I):iL P w I a aA:=by
 obtain ⟨o,aT,cE,xs,r⟩:=d;exact ⟨o,aT,cE,xs,s _ _ r.at_,r.ex,r.dat,r.ent,r.aB,Paired.q1 r.b' fun p q z=>⟨z.1,s _ _ z.2.1,z.2.2⟩,r.lQ,r.ns⟩
theorem afK {p:Addr} (d:iL P w H a aA) (aq:p ≠ a) (dQ:∀ xs,H p ≠ some (.tup xs)):iL P w (upd H p u) a aA:=by
 obtain ⟨o,aT,cE,xs,r⟩:=d;exact ⟨o,aT,cE,xs,by rw [aZ (dF aq)];exact r.at_,r.ex,r.dat,r.ent,r.aB,Paired.q1 r.b' fun q cb z=>⟨z.1,by rw [aZ (fun e=>dQ _ (e ▸ z.2.1))];exact z.2.1,z.2.2⟩,r.lQ,r.ns⟩
theorem Vh (ok:eM P w H h) (r:R9 P w H a aA o aT cE xs):Qa h a o aT cE:=
 ⟨(ok a _ r.at_).1,r.ex,r.dat⟩
theorem T4 (ok:eM P w H h) (d:iL P w H a aA):nK (H a)/\(∃ u,h.get? a=some u)/\dS P w (upd H a (.fX aA)) h a (.fX aA):=by
 obtain ⟨o,aT,cE,xs,r⟩:=d;have e:=(Vh ok r).at_;refine ⟨by rw [r.at_];exact hu,⟨o,e⟩,r.lQ,r.ns,xs,Paired.q1 r.b' fun q cb z=>⟨z.1,?_,z.2.2⟩,o,aT,cE,e,r.ex,r.dat,r.ent,r.aB⟩;rw [aZ (fun e=>by have:=z.2.1;rw [e,r.at_] at this;cases this)];exact z.2.1
theorem anL (ok:eM P w H h) (d:iL P w H a aA):eM P w (upd H a (.fX aA)) h:=
 have z:=T4 ok d
 ok.write z.1 (.inl rfl) (fun _ _ _ q=>q) z.2.1 z.2.2
theorem abP (d:iL P w H a aA) (e:H b=some (.tup xs)):b ≠ a:=fun z=>by
 obtain ⟨o,aT,cE,ys,r⟩:=d;have:=r.at_;rw [<- z,e] at this;cases this
end
section
variable {X:a0} {aa:List (Addr × Obj)} {σ:St} {H:au} {s:Shared} {a b:Addr} {aA:List (List Key × V)} {k:List Key} {v:V} {r:Value} {A:Around} {E:Value->Shared->Prop}
theorem Ta (J:Inv X aa σ H s) (fi:nK (H a)) (ex:∃ u,s.heap.get? a=some u) (new:dS X.prog X.w (upd H a eP) s.heap a eP):Inv X aa σ (upd H a eP) s:=
 J.un (t':=s.toks) (h':=s.heap) (gG.write fi (.inl rfl) (fun _ _ _ q=>q) ex) (J.bh.write fi (.inl rfl) (fun _ _ _ q=>q) ex new)
theorem ahC (J:Inv X aa σ H s) (d:iL X.prog X.w H a aA):Inv X aa σ (upd H a (.fX aA)) s:=
 have z:=T4 J.bh d
 Ta J z.1 z.2.1 z.2.2
theorem Qq (J:Inv X aa σ H s) (e:H a=some (.fX aA)):∃ o,Inv X aa σ (upd H a (.ext (pO a o))) s/\iL X.prog X.w (upd H a (.ext (pO a o))) a aA:=by
 obtain ⟨z,y,xs,r,o,aT,cE,ab,ai,a5,bQ,du⟩:=(show dS X.prog X.w H s.heap a (.fX aA) from J.bh a _ e);refine ⟨o,Ta J (by rw [e];exact hu) ⟨o,ab⟩ ⟨ab,⟨o,ab⟩,fun _ _ q k=>k o q⟩,o,aT,cE,xs,aS ..,ai,a5,bQ,du,Paired.q1 r fun p q z=>⟨z.1,?_,z.2.2⟩,z,y⟩;rw [aZ (fun q=>by have:=z.2.1;rw [q,e] at this;cases this)];exact z.2.1
theorem XZ (b7:A.units + 1 < cLine) (J:Inv X aa σ H s) (d:iL X.prog X.w H a aA) (eA:H b=some (.tup (k.map et))) (l:dn aA k=some v) (h:∀ eH s',Inv X aa σ H s'->b1 v eH->Q eH s') :
  wpAny (model X.prog X.w) A (getItem (.ref a) (.ref b)) Q E s:=by
 obtain ⟨z,hd,xs,rel,eR⟩:=RV (anL J.bh d) (aS ..);obtain ⟨eH,hw,h_⟩:=iO.some_of (v:=v) (o:=(atKey xs k).map (·.2)) (by rw [<- l];exact rel.val k);obtain ⟨p,aq,fm⟩:=B2.mp hw;refine wpAny_getItem_heap (tupleKind_room_in1 b7) (yu J.bh eA) eR aq ?_;rw [fm];exact h eH _ (J.tok _) h_
theorem XK (b7:A.units + 1 < cLine) (J:Inv X aa σ H s) (d:iL X.prog X.w H a aA) (eA:H b=some (.tup (k.map et))) (aD:aA.length < sizeLine) (cw:b1 v r)
  (h:∀ o s',Inv X aa σ (upd H a (.ext (pO a o))) s'->iL X.prog X.w (upd H a (.ext (pO a o))) a (fB aA k v)->Q () s'):wpAny (model X.prog X.w) A (setItem (.ref a) (.ref b) r) Q E s:=by
 refine Rh b7 (ahC J d) (qv.t (aS ..) (by rw [aZ (abP d eA)];exact eA) aD) (show b1 (.ref b) (.ref b) from rfl) cw fun s' iu=>?_
 rw [s9] at iu;obtain ⟨o,bK,eW⟩:=Qq iu (aS ..);rw [s9] at bK eW;exact h o s' bK eW
end
noncomputable def KX (P:Program) (w:World) (h4 ty:TE):TE:=fun σ H Q=>h4 σ H fun x H1=>ty σ H1 fun y az=>∃ a b aA k v,x=.ref a/\y=.ref b/\iL P w az a aA/\az b=some (.tup (k.map et))/\dn aA k=some v/\Q v az
noncomputable def EK (P:Program) (w:World) (h4 ty e5:TE):ek:=fun D σ H=>e5 σ H fun v H1=>h4 σ H1 fun x az=>ty σ az fun y bI=>∃ a b aA k,x=.ref a/\y=.ref b/\iL P w bI a aA/\bI b=some (.tup (k.map et))/\aA.length < sizeLine/\∀ o,iL P w (upd bI a (.ext (pO a o))) a (fB aA k v)->D.cy σ (upd bI a (.ext (pO a o)))
noncomputable def Nb (P:Program) (w:World):TE:=fun _ H Q=>∀ p o,H p=none->iL P w (upd H p (.ext (pO p o))) p []->Q (.ref p) (upd H p (.ext (pO p o)))
section
variable {X:a0} {o i e value:Expr} {pos pos' x8:Pos} {h4 ty e5:TE}
theorem ae5 (b7:X.A.units + 1 < cLine) (aW:bz X o h4) (ag:bz X i ty) (aw:I3 i):bz X (.Subscript o i pos) (KX X.prog X.w h4 ty):=by
 intro aa s σ H Q J h;refine U3 ak9.lookup aw (bL (aW aa s σ H _ J h) fun u s1 cz=>eC cz fun x H1 aP a8 bT=>bL (ag aa s1 σ H1 _ aP bT) fun pS s2 cL=>?_);obtain ⟨y,az,bK,bH,a,b,aA,k,v,ex,ih,d,eA,l,d5⟩:=cL;subst ex ih;obtain rfl:u=dU a:=a8;obtain rfl:pS=dU b:=bH;refine ⟨?_,XZ b7 bK d eA l fun eH s3 eK h_=>⟨v,az,eK,h_,d5⟩⟩;obtain ⟨cU,aT,cE,xs,r⟩:=d;exact ai1 (Vh bK.bh r)
theorem ajZ (b7:X.A.units + 1 < cLine) (aW:bz X o h4) (ag:bz X i ty) (aG:bz X value e5) (aw:swapsWith value (some (.Subscript o i pos')) pos.line X.env=pure false) :
  f9 X (.Assign [.Subscript o i pos'] value pos) (EK X.prog X.w h4 ty e5):=by
 intro aa s σ H D J h;refine wpAny_Assign_Subscript (bL (aG aa s σ H _ J h) fun r s1 cz=>eC cz fun v H1 aP cw bT=>bL (aW aa s1 σ H1 _ aP bT) fun u s2 cz=>eC cz fun x az bK a8 d5=>bL (ag aa s2 σ az _ bK d5) fun pS s3 cL=>?_) aw;obtain ⟨y,bI,eK,bH,a,b,aA,k,ex,ih,d,eA,aD,g4⟩:=cL;subst ex ih;obtain rfl:u=dU a:=a8;obtain rfl:pS=dU b:=bH;exact XK b7 eK d eA aD cw fun cU s4 fY YU=>⟨σ,_,fY,g4 cU YU⟩
theorem agt:bz X (.Dict [] [] pos) (Nb X.prog X.w):=fun aa s σ H Q J h=>by
 refine bL (ajz aa s σ H (fun x H1=>∃ p,x=.ref p/\H p=none/\H1=upd H p (.fX [])) J fun p aq=>⟨p,rfl,aq,rfl⟩) fun v s1 cL=>?_
 obtain ⟨x,H1,aP,cG,p,ex,aq,xA⟩:=cL;subst ex xA;obtain ⟨o,bK,eW⟩:=Qq aP (aS ..);rw [s9] at bK eW;exact ⟨.ref p,_,bK,cG,h p o aq eW⟩
end
section
variable {X:a0} {dr:Expr}
end
structure aoX (H I:au) (l:Addr) (as:List Addr) (aA:List (Key × V)):Prop where
 same:∀ b o,H b=some o->I b=some o
 fresh:H l=none
 ao8:∀ a ∈ as,H a=none
 at_:I l=some (.lst (as.map V.ref))
 len:as.length=aA.length
 al:∀ (j:Nat) (a:Addr) (q:Key × V),as[j]? = some a->aA[j]? = some q->I a=some (.tup [et q.1,q.2])
 only:∀ b o,I b=some o->H b=some o\/o=.lst (as.map V.ref)\/∃ q ∈ aA,o=.tup [et q.1,q.2]
section
variable {X:a0}
theorem Tp:∀ {bs:List Bool} {us:List Value},cj (bs.map V.bw) us->us=bs.map hX
 | [],_,.nil=>rfl
 | b :: bs,_,.cons e r=>by
  rw [Tp r];cases e;rfl
end
section
open AutoSeq1 (wpAny_loadPart')
open MeetsSeq MeetsSeq2 MeetsSeq3 SeqRoads2
variable {P:Program} {w:World} {l b:Addr} {xs ys:Array Value} {n m:Nat} {eR aor:Option Addr} {bk bu:Array (Option Value)}
end
section
variable {X:a0} {aa:List (Addr × Obj)} {σ:St} {H:au} {s:Shared}
structure apb (H:au) (p:Addr) (ps:List Addr) (b':List (List (Key × V))):Prop where
 at_:H p=some (.lst (ps.map V.ref))
 len:ps.length=b'.length
 al:∀ (j:Nat) (a:Addr) (aA:List (Key × V)),ps[j]? = some a->b'[j]? = some aA->H a=some (.di aA)
end
section
variable {X:a0}
end
section
variable {X:a0} {aa:List (Addr × Obj)} {σ:St} {H:au} {s:Shared} {d:Addr} {o:Obj} {aA:List (Key × V)}
end
section
variable {X:a0} {dr:Expr}
end
structure pz (X:a0) (aa:List (Addr × Obj)) (H:au) (S:Addr):Prop where
 nn:H S=none
 nl:S ≠ X.env.locals
 ge:X.fE.heap.objs.size <= S
 rk:∀ x c,X.env.cells.lookup x=some c->c ≠ S
 np:∀ p ∈ X.ey ++ aa,p.1 ≠ S
 hc:S ∉ X.aO
theorem pz.of (J:Inv X aa σ H s) (h:s.heap.objs.size <= S):pz X aa H S:=
 ⟨J.bh.fresh h,fun z=>absurd (ho J.lt h) (by rw [z];exact nj _),cq J.lQ h,fun x c e z=>by
  obtain ⟨v,o,aW,_⟩:=J.cell x c e;exact absurd (ho (d1 aW) h) (by rw [z];exact nj _),fun p aq z=>by
  have aW:=(J.pin p aq).1;exact absurd (ho (d1 aW) h) (by rw [z];exact nj _),J.Kr h⟩
theorem pz.turn (o:pz X aa H S) (J:Inv X aa σ H s) (k:∀ b o,b ≠ S->s.heap.get? b=some o->h'.get? b=some o):Inv X aa σ H { s with heap:=h',toks:=t' }:=
 J.turned k o.nn o.nl (.inr o.ge) o.rk o.np
section
variable {X:a0} {A:Around} {aa:List (Addr × Obj)} {σ:St} {H:au} {l q J S:Addr} {n:Nat} {P:Nat->Value->Prop} {R:Result->Shared->Prop}
theorem NU (bF:Inv X aa σ H s) (nT:pz X aa H S) (n_:pz X aa H J) (aej:s.heap.get? S=some T_) (ah9:s.heap.get? J=some Qk) (af2:∀ v,T_.data ≠ .cell v) (anE:∀ v,Qk.data ≠ .cell v):Inv X ((S,T_) :: (J,Qk) :: aa) σ H s:=
 bF.sq fun p aq=>by
  rcases d9.mp aq with rfl | aq
  .exact ⟨aej,nT.nn,nT.nl,nT.hc,af2⟩
  rcases d9.mp aq with rfl | aq
  .exact ⟨ah9,n_.nn,n_.nl,n_.hc,anE⟩
  exact bF.pin p (iV _ aq)
theorem Wz (bF:Inv X (Ja :: Ha :: aa) σ H s):Inv X aa σ H s/\s.heap.get? Ja.1=some Ja.2/\s.heap.get? Ha.1=some Ha.2:=
 ⟨bF.sq fun p aq=>bF.pin p (iV _ (.tail _ (.tail _ aq))),(bF.pin Ja (iV _ (.head _))).1,(bF.pin Ha (iV _ (.tail _ (.head _)))).1⟩
end
structure DH (p y z:Str) (sc:Scope):Prop where
 kind:sc.kind=.function
 co:sc.isCoroutine=false
 gen:sc.isGenerator=false
 ne:y ≠ z
 par:sc.names.lookup p=some .local
 VY:sc.names.lookup y=some .free
 FN:sc.names.lookup z=some .free
 uh:∀ z ∈ sc.names,z.2 ≠ .cell
 two:∀ b ∈ sc.names,b.2=.free->b.1=y\/b.1=z
noncomputable def sg (X:a0) (A:Around) (N:List Str) (q:Str) (scope:Scope) (f c':Addr) (cl:List (Str × Addr)) (s:Shared) (H:au):a0 where
 prog:=X.prog
 w:=X.w
 K:=X.K
 mg:=X.mg
 base:=X.base
 A:=A.deeper (I0 q scope s.heap.objs.size f (.ref c') cl)
 N:=N
 fE:=s
 sx:=H
 env:=I0 q scope s.heap.objs.size f (.ref c') cl
 outer:=X.stack
 stack:=I0 q scope s.heap.objs.size f (.ref c') cl :: X.stack
 ex:=[]
 fn:=fun _=>false
 calm:=true
 ey:=[]
 dz:=fun _ _=>False
section
variable {X:a0} {A:Around} {aa:List (Addr × Obj)} {σ:St} {H:au} {s:Shared} {k:Nat} {f c' a9 bB:Addr} {q p y z:Str} {params:Arguments} {body:Expr} {scope:Scope} {v1 v2:V} {t:TE}
theorem D9 {x:Str} (e:([(y,a9),(z,bB)]:List (Str × Addr)).lookup x=some c):(x=y/\c=a9)\/(x=z/\c=bB):=by
 rw [kv] at e;cases ae:x == y with
 | true=>rw [ae] at e;cases e;exact .inl ⟨eq_of_beq ae,rfl⟩
 | false=>
  rw [ae] at e;simp only [kv] at e;cases jt:x == z with
  | true=>rw [jt] at e;cases e;exact .inr ⟨eq_of_beq jt,rfl⟩
  | false=>rw [jt] at e;cases e
theorem alh (S:DH p y z scope) (aj:en k A) (h3:A.frames=some X.stack) (J:Inv X aa σ H s) (ne:a9 ≠ bB) (ck:H a9=none) (cv:H bB=none)
  (b_:∃ u,b1 v1 u/\s.heap.IsCell a9 (some u)) (cM:∃ u,b1 v2 u/\s.heap.IsCell bB (some u)) (xh:b1 a u)
  (nO:ab.Ns s.heap.objs.size (fun x=>[(p,u)].reverse.lookup x)) (aE:∀ b o,s.heap.get? b=some o->ab.get? b=some o) :
  Inv (sg X A [p,y,z] q scope f c' [(y,a9),(z,bB)] s H) [] [some a,some v1,some v2] H { s with heap:=ab,toks:=tk }:=by
 obtain ⟨l6,cG,l4,xm,x5⟩:=b_;obtain ⟨sQ,e3,tT,WC,PT⟩:=cM;have UP:([(y,a9),(z,bB)]:List (Str × Addr)).lookup y=some a9:=by rw [kv,beq_self_eq_true]
 have Ri:([(y,a9),(z,bB)]:List (Str × Addr)).lookup z=some bB:=by
  rw [kv,show (z == y)=false from by simpa using dF S.ne];simp only [kv,beq_self_eq_true]
 have sy:∀ b:Addr,b ∉ (sg X A [p,y,z] q scope f c' [(y,a9),(z,bB)] s H).ex:=fun b z=>absurd (show b ∈ ([]:List Addr) from z) (by simp)
 refine ⟨⟨J.ok.mod,S.kind,rfl,rfl,bP _,fun x w c ao aC=>?_,fun x af=>?_,fun x c hf e=>?_,fun _=>aj.hd,alS h3,.inr ⟨rfl,rfl⟩,fun b z=>absurd z (sy b),J.bs,cq J.ok.lz J.lQ,fun b _ _=>sy b,fun b z=>absurd z (sy b),J.stack,J.w3⟩,
  rfl,J.bare,gG.kept aE,⟨_,nO,fun i x aoM ao aC bJ=>?_⟩,fun x c e=>?_,J.bh.fresh (bP _),fun x c e=>?_,fun z aF=>absurd (show z ∈ ([]:List (Addr × Obj)) from aF) (by simp),J.bh.kept aE,rfl⟩
 .rcases D9 ao with ⟨rfl,rfl⟩ | ⟨rfl,rfl⟩ <;> rcases D9 aC with ⟨rfl,h⟩ | ⟨rfl,h⟩
  .rfl
  .exact absurd h ne
  .exact absurd h.symm ne
  .rfl
 .have af:scope.names.lookup x=some .cell\/scope.names.lookup x=some .free:=af;rcases af with af | af
  .exact absurd rfl (S.uh _ (vV af))
  .rcases S.two _ (vV af) rfl with h | h
   .have h:x=y:=h;exact ⟨a9,by rw [h];exact UP⟩
   .have h:x=z:=h;exact ⟨bB,by rw [h];exact Ri⟩
 .cases hf
 .match i,ao,aC with
  | 0,ao,aC=>
   cases ao;cases aC;exact ⟨u,xh,.inl ⟨S.par,by show pq p [(p,u)]=some u;rw [kv,beq_self_eq_true]⟩⟩
  | 1,ao,aC=>
   cases ao;cases aC;exact ⟨l6,cG,.inr ⟨.inr S.VY,a9,UP,⟨l4,aE _ _ xm,x5⟩⟩⟩
  | 2,ao,aC=>
   cases ao;cases aC;exact ⟨sQ,e3,.inr ⟨.inr S.FN,bB,Ri,⟨tT,aE _ _ WC,PT⟩⟩⟩
  | i + 3,ao,_=>simp [sg] at ao
 .rcases D9 e with ⟨_,rfl⟩ | ⟨_,rfl⟩
  .exact ⟨_,l4,aE _ _ xm,x5⟩
  .exact ⟨_,tT,aE _ _ WC,PT⟩
 .rcases D9 e with ⟨_,rfl⟩ | ⟨_,rfl⟩
  .exact ck
  .exact cv
theorem adv (S:DH p y z scope) (aj:en k A) (h3:A.frames=some X.stack) (J:Inv X aa σ H s) (ne:a9 ≠ bB) (ck:H a9=none) (cv:H bB=none)
  (b_:∃ u,b1 v1 u/\s.heap.IsCell a9 (some u)) (cM:∃ u,b1 v2 u/\s.heap.IsCell bB (some u))
  (p4:H f=some (.ext (mP f q params body scope [(y,a9),(z,bB)] c'))) (dR:H c'=some (.ext (m8 c' q)))
  (ae:∀ pm kT,bindArgs (alD "<lambda>" q params body scope [(y,a9),(z,bB)] pm (.ref c') kT) ⟨[u],[]⟩=pure [(p,u)]) (xh:b1 a u)
  (nN:bz (sg X A [p,y,z] q scope f c' [(y,a9),(z,bB)] s H) body t) (h:t [some a,some v1,some v2] H Q) :
  wpAny (model X.prog X.w) A (call (.ref f) [u]) (f5 X aa σ Q) E s:=by
 have inner:codeAny (model X.prog X.w) A (.call (.ref f) ⟨[u],[]⟩) (Ib c9 X.stack X.prog X.w H s Q ud) s:=by
  obtain ⟨⟨pm,kT,aW⟩,_⟩:=J.bh _ _ p4;refine PySem.W.kla_callFunE aj.depth aW rfl S.co S.gen rfl (J.bh _ _ dR).1 ?_;rw [ae];refine wpAny_pure (wpAny_newFunctionEnv S.uh (fun z aF=>by rw [eu.mp aF];exact S.par) (fun ab nO uQ=>⟨J.nolimit.fresh _ uQ,?_⟩) S.kind);have aE:∀ b o,s.heap.get? b=some o->ab.get? b=some o:=fun b o e=>uQ.extBut b o (gd (d1 e)) (ed _ e)
  show codeAny _ _ (.expr body (I0 q scope s.heap.objs.size f (.ref c') [(y,a9),(z,bB)])) _ _;have bF:=alh (f:=f) (c':=c') (q:=q) (tk:=s.toks + [(p,u)].length) S aj h3 J ne ck cv b_ cM xh nO aE;refine PySem.W.kla_codeExpr (wpAny_mono (nN [] _ _ _ _ bF h) (fun AW s' aM=>?_) fun _ _ z=>ji z);obtain ⟨x,I,CT,a8,cb⟩:=aM;exact ⟨x,I,CT.os,CT.bare,CT.base,CT.bh,a8,cb⟩
 refine wpAny_call (codeAny_mono inner fun r s' aM=>?_);cases r with
 | error e=>exact aM.elim
 | ok c_=>
  cases c_ with
  | ret u=>exact J.after aM
  | next=>exact ji aM
  | brk=>exact ji aM
  | cont=>exact ji aM
end
theorem ak.p {K:bc} (s:xu Pt H I) (t:Tab H Pt pos q) (h:ak K H a xs):ak K I a xs:=by
 rcases h with (h | ⟨o,h⟩) | h
 .exact .inl (.inl (s _ _ (t.ne h (fun _ z=>by cases z)) h))
 .exact .inl (.inr ⟨o,s _ _ (t.ne h (fun _ z=>by cases z)) h⟩)
 .exact .inr h
theorem b9.aeK {w:World} {K:bc} {mg:Str->Option Value} {base:Heap} {x qual:Str} {st:Stmt} {fd:FuncData} {N ps:List Str} {k:Nat} (F:b9 K x qual st f fd) (S:cn N ps (bt st)) (len:∀ vs H Q E,sp vs H Q E->vs.length=ps.length)
  (nN:∀ (eN:Value),fd.code=eN->∀ (A:Around) (outer:List Env) (s:Shared) (H:au) (vs:List V) (Q:cJ) (E:d0),en k (A.deeper (envOfC qual (bt st) s.heap.objs.size f eN))->sp vs H Q E ->
   ∃ t,gC (ni c9 P w K mg base N qual (bt st) f eN A outer s H E).tE (q7 st) t/\t { cy:=fun _ I=>Q .cg I,l_:=Q } (start N vs) H):bV P w K mg base c9 (k + 1) f fd ps sp:=by
 obtain ⟨nH,br,et,doc,pm,an,eN,e9,rP,rfl,lk,kj⟩:=F.ex;refine HL lk kj S len fun A outer s H vs Q E aj jc=>?_
 obtain ⟨t,h,q⟩:=nN eN rfl A outer s H vs Q E aj jc;exact ⟨t,h.tE,q⟩
def Uh (_:Addr):Prop:=True
noncomputable abbrev U_ {P:Addr} (_:Uh P):Addr:=P
theorem akZ {l:PySem.W.OpenLaw} {n k:Nat} {q:Program} {loose:List Str} {Cr:(Str->Option Value)->Heap->Prop} {uD:World->Heap->Prop} {d:DefRec} {K:Params->bc} {CX:j1} {sp:bc->Addr->bO} {x:Str} {Pt:Addr}
  (aV:l.most=some n) (r1:n <= sizeLine) (KL:d.params.defaults=[]) (aj:en k callerA)
  (afu:∀ (w:World) (h:Heap),uD w h->(K w.params).In h) (fa:∀ (w:World) (h:Heap),uD w h->h.get? Pt=some (PA #[])) (f6:∀ p,XH (K p)=true)
  (F:∀ (w:World) (mg:Str->Option Value) (gq:Addr) (h:Heap),(K w.params).In h->h.Ns mainGlobals mg->mg d.name=some (.ref gq)->Uh Pt ->
   ∃ (fd:FuncData) (c:Addr),(∀ (s:Shared) (u:Value),BindsTo s fd ⟨[u],[]⟩ [(x,u)])/\aci (K w.params) c Pt=true /\
    ∀ (base:Heap),(K w.params).In base->base.Ns mainGlobals mg->vw base c Pt->base.BuiltinsAt mg Pt->bV l.prog w (K w.params) mg base CX k gq fd [x] (sp (K w.params) Pt))
  (jc:∀ (K:bc) (H:au) (a Pt:Addr) (ns:List Int),ns.length <= n->AN Pt H->ak K H a (ns.map V.int)->sp K Pt [.ref a] H (fun v _=>v=.bw true) fun _ _ _=>False)
  (LJ:∀ (H:au) (s:Shared) (e:Value) (s':Shared),CX [] H s (fun _ _ _=>False) e s'->False) :
  PySem.W.WalkO q loose Cr uD l.row.toRowW d [] (fun f vs=>acy f vs):=by
 refine WS.akt aV KL fun w fE dh mg nJ gq o pm cd doc a vs ns G Y aW hd kj wQ I5 hints hlen bg=>?_
 have e8:=afu w _ Y;obtain ⟨fd,c,ae,ar,wA⟩:=F w mg gq _ e8 G.T.g wQ trivial;exact anI (c:=c) (Pt:=Pt) e8 (f6 w.params) G.T.g G.T.b G.T.builtins G.T.nolimit bg G.T.bmain (PySem.W.codeHd_of_K e8 ar) (fa w _ Y) I5 hints (cq hlen r1) aj wA ae (fun H mA ea=>jc (K w.params) H a Pt ns hlen mA ea) fun H e s'=>LJ H dh e s'
theorem dj (t u:ek) (D:hs) (σ:St) (H:au):KA t u D σ H=(t { D with cy:=u D } σ H):=rfl
theorem P8 (K:bc):T1 K a6 e5 f D σ H=(e5 σ H fun y H1=>a6 σ H1 fun x az=>fv x fun a=>∃ C ax aO,az a=some (.ins C ax aO)/\hI K C/\dq K C f/\aO.length < 1000 /\
 D.cy σ (upd az a (.ins C ax (eh f y aO)))):=rfl
theorem Vo (K:bc) (my:V->V->au->cJ->Prop):Oz K a6 e5 my f D σ H=(a6 σ H fun x H1=>∃ a C ax aO v,x=.ref a/\H1 a=some (.ins C ax aO)/\hI K C/\dq K C f/\aO.lookup f=some v /\
 e5 σ H1 fun y az=>my v y az fun z bI=>∃ hq pB,bI a=some (.ins C hq pB)/\pB.length < 1000/\D.cy σ (upd bI a (.ins C hq (eh f z pB)))):=rfl
theorem U0 (t:fc):Ly C m sp dvs E a6 t σ H Q=(a6 σ H fun x H1=>fv x fun a=>∃ ax aO,H1 a=some (.ins C ax aO)/\aO.lookup m=none /\
 t σ H1 fun vs az=>sp (x :: (vs ++ dvs)) az Q E):=rfl
theorem Nx (t:fc):Vs C sp dvs E t σ H Q=(t σ H fun vs H1=>∀ x ax,H1 x=none->H1 ax=none->ax ≠ x ->
 sp (.ref x :: (vs ++ dvs)) (upd (upd H1 ax (.own x)) x (.ins C ax [])) (fun v az=>v=.cg/\Q (.ref x) az) E):=rfl
theorem QS (K:bc) (x:V) (lo:Option Int) (ag:Option Int) (H:au) (Q:cJ):T3 K x lo ag H Q=(∃ a xs,x=.ref a/\cS K H a xs /\
 ¬ (eO.cZ xs.length 0 lo=0/\eO.cZ xs.length xs.length ag=xs.length)/\∀ p,H p=none->Q (.ref p) (upd H p (.tup (ij xs lo ag)))):=rfl
theorem ND (t:fc):Qh o5 m pK E a6 t σ H Q=(a6 σ H fun x H1=>∃ a C ax aO,x=.ref a/\H1 a=some (.ins C ax aO)/\o5 C/\aO.lookup m=none /\
 t σ H1 fun vs az=>pK C (x :: vs) az Q E):=rfl
theorem V0 (K:bc):T6 K a6 e5 f D σ H=(e5 σ H fun y H1=>a6 σ H1 fun x az=>∃ a C,x=.ref a/\az a=some (.ext (fH a C none))/\ny K C/\dq K C f /\
 ∀ ax,az ax=none->ax ≠ a->D.cy σ (upd (upd az a (.ext (fH a C (some ax)))) ax (.ext (lr ax [(f,y)])))):=rfl
def dP (bF:kI) (g:gP) (b8:ek) (D:hs) (σ:St) (H:au):Prop:=∃ W:Nat->Nat->St->au->Prop,(∃ m,W 0 m σ H)/\∀ i m σ H,W i m σ H ->
 (bF.stop i H/\D.cy σ H)\/(bF.go i H/\∃ N:St->au->Prop,(∀ ay I,N ay I->∃ dm,dm < m/\W (i + 1) dm ay I)/\∀ x I,bF.rE i H x I->g x σ I fun cH az=>b8 { D with cy:=N,e9:=N,cI:=D.cy } cH az)
theorem NI:RF gz g b8 D σ H=gz σ H fun bF H1=>dP bF g b8 D σ H1:=rfl
def cX (bF:kI) (g:gP) (dd:TT) (bN:TE) (dp:St) (Q:cJ) (H:au):Prop:=∃ W:Nat->Nat->List V->au->Prop,(∃ m,W 0 m [] H)/\sN bF g dd bN dp Q W
theorem Nk:He gz g dd bN sel σ H Q=gz σ H fun bF H1=>cX bF g dd bN (nF sel σ) Q H1:=rfl
theorem U5:R0 a6 σ H R=(a6 σ H fun vs H1=>m6 vs fun x=>gR x fun j=>-4611686018427387904 <= j/\j < 4611686018427387904/\R (l9 0 j.toNat) H1):=rfl
theorem Pq:WX a6 σ H R=(a6 σ H fun vs H1=>∃ i j:Int,vs=[.int i,.int j]/\(-4611686018427387904 <= i/\i < 4611686018427387904/\-4611686018427387904 <= j/\j < 4611686018427387904)/\R (l9 i (j - i).toNat) H1):=rfl
theorem afx (f:α->β):[].map f=[]:=rfl
theorem akj (f:α->β) (a:α) (l:List α):(a :: l).map f=f a :: l.map f:=rfl
theorem Zf (l:List α):[] ++ l=l:=rfl
theorem agN (a:α) (l r:List α):(a :: l) ++ r=a :: (l ++ r):=rfl
theorem YH (a b:α) (l:List α):(a :: l).set 0 b=b :: l:=rfl
theorem aj6 (a b:α) (l:List α) (n:Nat):(a :: l).set (n + 1) b=a :: l.set n b:=rfl
theorem aa7 (a:α) (l:List α):(a :: l)[0]? = some a:=rfl
theorem ads (a:α) (l:List α) (n:Nat):(a :: l)[n + 1]? = l[n]?:=rfl
theorem agu:([]:List α).length=0:=rfl
theorem amy (a:α) (l:List α):(a :: l).length=l.length + 1:=rfl
theorem abT (f:α->Option β):(none:Option α).bind f=none:=rfl
theorem ahg (f:α->Option β) (a:α):(some a).bind f=f a:=rfl
theorem ZU (a:Option α):(some a).join=a:=rfl
theorem acS:(none:Option (Option α)).join=none:=rfl
theorem SG (sel:List (Option Nat)) (σ:St):nF sel σ=sel.map fun o=>o.bind fun j=>(σ[j]?).join:=rfl
theorem cP {t u:ek} (b:Bool) (ar:∀ Q:Bool->au->Prop,Q b H->c σ H Q) (ab:b=true->t D σ H) (ai:b=false->u D σ H):FU c t u D σ H:=by
 refine ar _ ?_;cases b with
 | true=>exact ab rfl
 | false=>exact ai rfl
theorem alm {t u:ek} (R:Bool->au->Prop) (ar:∀ Q:Bool->au->Prop,(∀ b I,R b I->Q b I)->c σ H Q) (ab:∀ I,R true I->t D σ I) (ai:∀ I,R false I->u D σ I):FU c t u D σ H:=by
 refine ar _ fun b I r=>?_
 cases b with
 | true=>exact ab I r
 | false=>exact ai I r
theorem Er {t:ek} {D:hs} {σ:St} {H:au} (R:St->au->Prop) (h:∀ hH:hs,(∀ σ H,R σ H->hH.cy σ H)->hH.l_=D.l_->hH.cI=D.cI->hH.e9=D.e9->t hH σ H) (fZ:∀ σ H,R σ H->D.cy σ H):t D σ H:=h D fZ rfl rfl rfl
theorem IV {t:ek} {D:hs} {σ:St} {H:au} (R:St->au->Prop) (h:∀ hH:hs,(∀ σ H,R σ H->hH.cy σ H)->t hH σ H) (fZ:∀ M,M=D.cy->∀ σ H,R σ H->M σ H):t D σ H:=h D (fZ _ rfl)
theorem UJ {p:Prop} (h:∀ q,q=p->q):p:=h p rfl
theorem aoc {t:ek} {D:hs} {σ:St} {H:au} (R:St->au->Prop) (h:∀ hH:hs,(∀ σ H,R σ H->hH.cy σ H)->t hH σ H) (fZ:∀ σ H,R σ H->D.cy σ H):t D σ H:=h D fZ
theorem QZ {t u:ek} {D:hs} {σ:St} {H:au} (R:St->au->Prop) (h:∀ hH:hs,(∀ σ H,R σ H->hH.cy σ H)->t hH σ H) (fZ:∀ M,M=u D->∀ σ H,R σ H->M σ H):KA t u D σ H:=h { D with cy:=u D } (fZ _ rfl)
theorem ali (v:V) (ar:∀ Q:cJ,Q v H->bN σ H Q) (h:D.l_ v H):BG bN D σ H:=ar _ h
theorem pI (x y:Str):(x ++ y).length=x.length + y.length:=by
 show (x.cps ++ y.cps).size=_;rw [Array.size_append];rfl
theorem dP.range {lo:Int} {n:Nat} {g:gP} {b8:ek} {D:hs} {σ:St} {H:au} (Pv:Nat->St->au->Prop) (h0:Pv 0 σ H)
  (aw:∀ i σ H,i < n->Pv i σ H->g (.int (lo + i)) σ H fun cH az=>b8 { D with cy:=Pv (i + 1),e9:=Pv (i + 1),cI:=D.cy } cH az) (hd:∀ σ H,Pv n σ H->D.cy σ H):dP (l9 lo n) g b8 D σ H:=abm Pv h0 aw hd
theorem dP.list {K:bc} (Pv:Nat->St->au->Prop) (h0:Pv 0 σ H) (aD:∀ i σ H,i <= xs.length->Pv i σ H->ak K H a xs)
  (aw:∀ i x σ H,xs[i]? = some x->Pv i σ H->g x σ H fun cH az=>b8 { D with cy:=Pv (i + 1),e9:=Pv (i + 1),cI:=D.cy } cH az) (hd:∀ σ H,Pv xs.length σ H->D.cy σ H):dP (oj K a) g b8 D σ H:=al6 Pv h0 aD aw hd
theorem cX.list {K:bc} (Pv:Nat->List V->au->Prop) (aF:xs.length <= sizeLine) (h0:Pv 0 [] H) (aD:∀ i ys H,i <= xs.length->Pv i ys H->ak K H a xs/\ys.length <= i)
  (aw:∀ i x ys H,xs[i]? = some x->Pv i ys H->oV Pv g dd bN dp i x ys H) (hd:∀ ys H,Pv xs.length ys H->∀ p,H p=none->Q (.ref p) (upd H p (.lst ys))):cX (oj K a) g dd bN dp Q H:=Ys Pv aF h0 aD aw hd
theorem cX.a4 (Pv:Nat->List V->au->Prop) (aF:xs.length <= sizeLine) (h0:Pv 0 [] H) (aD:∀ i ys H,i <= xs.length->Pv i ys H->ys.length <= i)
  (aw:∀ i x ys H,xs[i]? = some x->Pv i ys H->oV Pv g dd bN dp i x ys H) (hd:∀ ys H,Pv xs.length ys H->∀ p,H p=none->Q (.ref p) (upd H p (.lst ys))):cX (yM xs) g dd bN dp Q H:=ang Pv aF h0 aD aw hd
theorem cX.range {lo:Int} {n:Nat} {g:gP} {dd:TT} {bN:TE} {dp:St} {Q:cJ} {H:au} (Pv:Nat->List V->au->Prop) (aF:n <= sizeLine) (h0:Pv 0 [] H) (aD:∀ i ys H,i <= n->Pv i ys H->ys.length <= i)
  (aw:∀ i ys H,i < n->Pv i ys H->oV Pv g dd bN dp i (.int (lo + i)) ys H) (hd:∀ ys H,Pv n ys H->∀ p,H p=none->Q (.ref p) (upd H p (.lst ys))):cX (l9 lo n) g dd bN dp Q H:=am9 Pv aF h0 aD aw hd
theorem XD {α β:Type} {xs:List α} {i:Nat} {x:α} (f:α->β) (h:xs[i]? = some x):(xs.take (i + 1)).map f=(xs.take i).map f ++ [f x]:=by
 rw [nC,h,dA];rfl
theorem cX.afU {xs:List V} {g:gP} {bN:TE} {dp:St} {Q:cJ} {H:au} (f:V->V) (aF:xs.length <= sizeLine) (aw:∀ (i:Nat) (x:V) (N:V->au->Prop),xs[i]? = some x->N (f x) H->g x dp H fun cH az=>Sub dp cH/\bN cH az N)
  (hd:∀ p,H p=none->Q (.ref p) (upd H p (.lst (xs.map f)))):cX (yM xs) g rA bN dp Q H:=by
 refine cX.a4 (fun i ys I=>I=H/\ys=(xs.take i).map f) aF ⟨rfl,rfl⟩ (fun i ys I ag ⟨_,e⟩=>?_) (fun i x ys I af ⟨ao,aC⟩ N bb=>?_) (fun ys I ⟨ao,aC⟩ p aq=>?_)
 .rw [e,aR,gZ];omega
 .subst ao;exact aw i x (fun y cD=>N (ys ++ [y]) cD) af (bb _ _ ⟨rfl,by rw [aC,XD f af]⟩)
 .subst ao;rw [aC,iF];exact hd p aq
theorem cX.H5 {lo:Int} {n:Nat} {g:gP} {bN:TE} {dp:St} {Q:cJ} {H:au} (f:Nat->V) (aF:n <= sizeLine) (aw:∀ (i:Nat) (N:V->au->Prop),i < n->N (f i) H->g (.int (lo + i)) dp H fun cH az=>Sub dp cH/\bN cH az N)
  (hd:∀ p,H p=none->Q (.ref p) (upd H p (.lst ((cY n).map f)))):cX (l9 lo n) g rA bN dp Q H:=by
 refine cX.range (fun i ys I=>I=H/\ys=(cY i).map f) aF ⟨rfl,rfl⟩ (fun i ys I ag ⟨_,e⟩=>?_) (fun i ys I ag ⟨ao,aC⟩ N bb=>?_) (fun ys I ⟨ao,aC⟩ p aq=>?_)
 .rw [e,aR,kh];exact bP _
 .subst ao;exact aw i (fun y cD=>N (ys ++ [y]) cD) ag (bb _ _ ⟨rfl,by rw [aC,qB,dA];rfl⟩)
 .subst ao;rw [aC];exact hd p aq
theorem cX.Yn {K:bc} (f:V->gL) (aD:ak K H a xs) (aF:xs.length <= sizeLine) (aV:∀ x,qr (f x)=true)
  (aw:∀ (i:Nat) (x:V) (H1:au) (N:V->au->Prop),xs[i]? = some x->aH H H1->(aL H->aL H1)->(∀ q,H1 q=none->N (.ref q) (upd H1 q (f x)))->g x dp H1 fun cH az=>Sub dp cH/\bN cH az N)
  (hd:∀ (qs:List Addr) (H1:au),aH H H1->(aL H->aL H1)->qs.length=xs.length->(∀ (j:Nat) (q:Addr) (x:V),qs[j]? = some q->xs[j]? = some x->H1 q=some (f x)/\H q=none)->∀ p,H1 p=none->Q (.ref p) (upd H1 p (.lst (qs.map V.ref)))):cX (oj K a) g rA bN dp Q H:=by
 refine cX.list (fun i ys I=>∃ qs:List Addr,ys=qs.map V.ref/\qs.length=i/\aH H I/\(aL H->aL I)/\∀ (j:Nat) (q:Addr) (x:V),qs[j]? = some q->xs[j]? = some x->I q=some (f x)/\H q=none) aF
  ⟨[],rfl,rfl,aH.refl H,id,fun j q x h _=>by simp at h⟩ ?_ ?_ ?_
 .rintro i ys I ag a7;refine UJ fun uc aY=>?_
  obtain ⟨qs,e,aC,bu,_,_⟩:=a7;subst aY;exact ⟨aD.same bu,by rw [e,aR];omega⟩
 .rintro i x ys I af ⟨qs,ao,aC,bu,bC,al⟩ N bb;refine aw i x I (fun y cD=>N (ys ++ [y]) cD) af bu bC fun q aM=>bb _ _ ⟨qs ++ [q],by rw [ao,dA];rfl,by rw [cC,aC];rfl,bu.gk (bu.free aM),fun n=>(bC n).upd (aV x),fun j cb ie ab ai=>?_⟩
  by_cases aN:j < qs.length
  .rw [m9 aN] at ab;obtain ⟨e4,dH⟩:=al j cb ie ab ai;exact ⟨by rw [aZ (Db e4 aM)];exact e4,dH⟩
  .rw [k5 (by omega)] at ab;have xG:j - qs.length=0:=by
    cases bU:j - qs.length with
    | zero=>rfl
    | succ n=>rw [bU] at ab;simp at ab
   rw [xG] at ab;have bJ:q=cb:=by simpa using ab
   subst bJ;have e6:j=i:=by omega
   subst e6;rw [af] at ai;cases ai;exact ⟨aS,bu.free aM⟩
 .rintro ys I ⟨qs,ao,aC,bu,bC,al⟩ p aq;subst ao;exact hd qs I bu bC aC al p aq
theorem dP.of (Pv:Nat->St->au->Prop) (h0:Pv 0 σ H) (vh:∀ i σ H,i < n->Pv i σ H->bF.go i H) (ff:∀ σ H,Pv n σ H->bF.stop n H)
  (aw:∀ i σ H x I,i < n->Pv i σ H->bF.rE i H x I->g x σ I fun cH az=>b8 { D with cy:=Pv (i + 1),e9:=Pv (i + 1),cI:=D.cy } cH az) (hd:∀ σ H,Pv n σ H->D.cy σ H):dP bF g b8 D σ H:=by
 refine ⟨fun i m σ H=>m=n - i/\i <= n/\Pv i σ H,⟨n,by simp,fg _,h0⟩,?_⟩;rintro i m σ H ⟨rfl,ag,p⟩;by_cases cQ:i < n
 .exact .inr ⟨vh i σ H cQ p,Pv (i + 1),fun ay I jW=>⟨n - (i + 1),by omega,rfl,cQ,jW⟩,fun x I y=>aw i σ H x I cQ p y⟩
 .have e:i=n:=by omega
  subst e;exact .inl ⟨ff σ H p,hd σ H p⟩
theorem cX.of (Pv:Nat->List V->au->Prop) (aF:n <= sizeLine) (h0:Pv 0 [] H) (vh:∀ i ys H,i < n->Pv i ys H->bF.go i H) (ff:∀ ys H,Pv n ys H->bF.stop n H) (aD:∀ i ys H,i < n->Pv i ys H->ys.length <= i)
  (aw:∀ i ys H x I,i < n->Pv i ys H->bF.rE i H x I->oV Pv g dd bN dp i x ys I) (hd:∀ ys H,Pv n ys H->∀ p,H p=none->Q (.ref p) (upd H p (.lst ys))):cX bF g dd bN dp Q H:=by
 refine ⟨fun i m ys H=>m=n - i/\i <= n/\Pv i ys H,⟨n,by simp,fg _,h0⟩,?_⟩;rintro i m ys H ⟨rfl,ag,p⟩;by_cases cQ:i < n
 .have Dk:=aD i ys H cQ p;refine .inr ⟨vh i ys H cQ p,by omega,fun x I y=>?_⟩;exact aw i ys H x I cQ p y (fun kd I=>∃ dm,dm < n - i/\dm=n - (i + 1)/\i + 1 <= n/\Pv (i + 1) kd I) fun kd I r=>⟨n - (i + 1),by omega,rfl,cQ,r⟩
 .have e:i=n:=by omega
  subst e;exact .inl ⟨ff ys H p,hd ys H p⟩
section
variable {K:bc} {a b:Addr} {xs ys:List V} {g:gP} {b8:ek} {D:hs} {σ dp:St} {H:au} {dd:TT} {bN:TE} {Q:cJ}
theorem dP.enum (Pv:Nat->St->au->Prop) (h0:Pv 0 σ H) (aD:∀ i σ H,i <= xs.length->Pv i σ H->ak K H a xs)
  (aw:∀ i x σ H p,xs[i]? = some x->Pv i σ H->H p=none->g (.ref p) σ (upd H p (.tup [.int i,x])) fun cH az=>b8 { D with cy:=Pv (i + 1),e9:=Pv (i + 1),cI:=D.cy } cH az) (hd:∀ σ H,Pv xs.length σ H->D.cy σ H):dP (B' K a) g b8 D σ H:=by
 refine dP.of (n:=xs.length) Pv h0 (fun i σ H ag p=>⟨xs,xs[i],aD i σ H (mM ag) p,by simp [ag]⟩) (fun σ H p=>⟨xs,aD _ σ H (bP _) p,bP _⟩) (fun i σ H v I ag p y=>?_) hd;obtain ⟨q,x,aM,rfl,af,rfl⟩:=y;exact aw i x σ H q (af xs (aD i σ H (mM ag) p)) p aM
theorem dP.zip (Pv:Nat->St->au->Prop) (h0:Pv 0 σ H) (aD:∀ i σ H,i <= xs.length->Pv i σ H->ak K H a xs/\ak K H b ys) (n:Nat) (aV:n=min xs.length ys.length)
  (aw:∀ i x y σ H p,xs[i]? = some x->ys[i]? = some y->Pv i σ H->H p=none->g (.ref p) σ (upd H p (.tup [x,y])) fun cH az=>b8 { D with cy:=Pv (i + 1),e9:=Pv (i + 1),cI:=D.cy } cH az) (hd:∀ σ H,Pv n σ H->D.cy σ H):dP (D5 K a b) g b8 D σ H:=by
 subst aV;refine dP.of (n:=min xs.length ys.length) Pv h0 (fun i σ H ag p=>?_) (fun σ H p=>?_) (fun i σ H v I ag p y=>?_) hd
 .obtain ⟨e4,dH⟩:=aD i σ H (by omega) p;exact ⟨xs,ys,xs[i],ys[i],e4,dH,by rw [a_ (by omega)],by rw [a_ (by omega)]⟩
 .obtain ⟨e4,dH⟩:=aD _ σ H (by omega) p;exact ⟨xs,ys,e4,dH,by omega⟩
 .obtain ⟨q,x,y,aM,rfl,af,aU,rfl⟩:=y;obtain ⟨e4,dH⟩:=aD i σ H (by omega) p;exact aw i x y σ H q (af xs e4) (aU ys dH) p aM
theorem cX.enum (Pv:Nat->List V->au->Prop) (aF:xs.length <= sizeLine) (h0:Pv 0 [] H) (aD:∀ i ys H,i <= xs.length->Pv i ys H->ak K H a xs/\ys.length <= i)
  (aw:∀ i x ys H p,xs[i]? = some x->Pv i ys H->H p=none->oV Pv g dd bN dp i (.ref p) ys (upd H p (.tup [.int i,x]))) (hd:∀ ys H,Pv xs.length ys H->∀ p,H p=none->Q (.ref p) (upd H p (.lst ys))):cX (B' K a) g dd bN dp Q H:=by
 refine cX.of (n:=xs.length) Pv aF h0 (fun i ys H ag p=>⟨xs,xs[i],(aD i ys H (mM ag) p).1,by simp [ag]⟩) (fun ys H p=>⟨xs,(aD _ ys H (bP _) p).1,bP _⟩) (fun i ys H ag p=>(aD i ys H (mM ag) p).2) (fun i zs H v I ag p y=>?_) hd;obtain ⟨q,x,aM,rfl,af,rfl⟩:=y;exact aw i x zs H q (af xs (aD i zs H (mM ag) p).1) p aM
theorem am0 {p:Addr} {x y:V} (h:cS K H p [x,y]) (q:R ((σ.set i (some x)).set j (some y)) H):vO K 2 (so (e_ i) (so (e_ j) zl)) (.ref p) σ H R:=
 ⟨p,_,rfl,h,rfl,x,_,rfl,y,_,rfl,rfl,q⟩
theorem tn {p:Addr} {x y:V} (q:R ((σ.set i (some x)).set j (some y)) (upd H p (.tup [x,y]))):vO K 2 (so (e_ i) (so (e_ j) zl)) (.ref p) σ (upd H p (.tup [x,y])) R:=
 am0 (.inl (.inl aS)) q
end
theorem Sub.Vn {v w:Option V}:Sub (none :: none :: r) (v :: w :: r):=by
 refine ⟨rfl,fun i u h=>?_⟩
 match i with
 | 0=>cases h
 | 1=>cases h
 | i + 2=>exact h
theorem Sub.vR {v w z:Option V}:Sub (none :: none :: none :: r) (v :: w :: z :: r):=by
 refine ⟨rfl,fun i u h=>?_⟩
 match i with
 | 0=>cases h
 | 1=>cases h
 | 2=>cases h
 | i + 3=>exact h
theorem cX.kU {K:bc} (aD:ak K H a xs) (aF:xs.length <= sizeLine) (he:zs.length=xs.length)
  (aw:∀ (i:Nat) (x z:V) (N:V->au->Prop),xs[i]? = some x->zs[i]? = some z->N z H->g x dp H fun cH az=>Sub dp cH/\bN cH az N) (hd:∀ p,H p=none->Q (.ref p) (upd H p (.lst zs))):cX (oj K a) g rA bN dp Q H:=by
 refine cX.list (fun i ys I=>I=H/\ys=zs.take i) aF ⟨rfl,rfl⟩ (fun i ys I ag ⟨fA,e⟩=>?_) (fun i x ys I af ⟨ao,aC⟩ N bb=>?_) (fun ys I ⟨ao,aC⟩ p aq=>?_)
 .subst fA;exact ⟨aD,by rw [e,gZ];omega⟩
 .subst ao;have ag:i < zs.length:=by rw [he];exact (bY.mp af).1
  have hR:zs[i]? = some zs[i]:=a_ ag;exact aw i x zs[i] (fun y cD=>N (ys ++ [y]) cD) af hR (bb _ _ ⟨rfl,by rw [aC,nC,hR];rfl⟩)
 .subst ao;rw [aC,<- he,iF];exact hd p aq
theorem cX.aeL {K:bc} (aD:cS K H a xs) (aF:xs.length <= sizeLine) (he:zs.length=xs.length)
  (aw:∀ (i:Nat) (x z:V) (N:V->au->Prop),xs[i]? = some x->zs[i]? = some z->N z H->g x dp H fun cH az=>Sub dp cH/\bN cH az N) (hd:∀ p,H p=none->Q (.ref p) (upd H p (.lst zs))):cX (A3 K a) g rA bN dp Q H:=by
 refine amK (xs:=xs) (fun i ys I=>I=H/\ys=zs.take i) aF ⟨rfl,rfl⟩ (fun i ys I ag ⟨fA,e⟩=>?_) (fun i x ys I af ⟨ao,aC⟩ N bb=>?_) (fun ys I ⟨ao,aC⟩ p aq=>?_)
 .subst fA;exact ⟨aD,by rw [e,gZ];omega⟩
 .subst ao;have ag:i < zs.length:=by rw [he];exact (bY.mp af).1
  have hR:zs[i]? = some zs[i]:=a_ ag;exact aw i x zs[i] (fun y cD=>N (ys ++ [y]) cD) af hR (bb _ _ ⟨rfl,by rw [aC,nC,hR];rfl⟩)
 .subst ao;rw [aC,<- he,iF];exact hd p aq
theorem cX.yO {K:bc} {a:Addr} {xs:List V} {ss:List (Option V)} {g:gP} {dd:TT} {bN:TE} {dp:St} {Q:cJ} {H:au} (aD:ak K H a xs) (aF:xs.length <= sizeLine) (he:ss.length=xs.length)
  (aw:∀ (i:Nat) (x:V) (o:Option V) (ys:List V) (N:List V->au->Prop),xs[i]? = some x->ss[i]? = some o->N (ys ++ o.toList) H->g x dp H fun cH az=>Sub dp cH/\dd cH az fun c bI=>if c=true then bN cH bI fun y cD=>N (ys ++ [y]) cD else N ys bI)
  (hd:∀ p,H p=none->Q (.ref p) (upd H p (.lst (ss.flatMap uy)))):cX (oj K a) g dd bN dp Q H:=by
 refine cX.list (fun i ys I=>I=H/\ys=(ss.take i).flatMap uy/\ys.length <= i) aF ⟨rfl,rfl,bP _⟩ (fun i ys I ag ⟨fA,e,bW⟩=>?_) (fun i x ys I af ⟨ao,aC,bJ⟩ N bb=>?_) (fun ys I ⟨ao,aC,_⟩ p aq=>?_)
 .subst fA;exact ⟨aD,bW⟩
 .subst ao;have ag:i < ss.length:=by rw [he];exact (bY.mp af).1
  have hR:ss[i]? = some ss[i]:=a_ ag;refine aw i x ss[i] ys N af hR (bb _ _ ⟨rfl,by rw [aC,nC,hR,vk];simp,?_⟩);rw [cC];cases ss[i] <;> simp <;> omega
 .subst ao;rw [aC,<- he,iF];exact hd p aq
theorem cX.Zu {lo:Int} {n:Nat} {ss:List (Option V)} {g:gP} {dd:TT} {bN:TE} {dp:St} {Q:cJ} {H:au} (aF:n <= sizeLine) (he:ss.length=n)
  (aw:∀ (i:Nat) (o:Option V) (ys:List V) (N:List V->au->Prop),i < n->ss[i]? = some o->N (ys ++ o.toList) H->g (.int (lo + i)) dp H fun cH az=>Sub dp cH/\dd cH az fun c bI=>if c=true then bN cH bI fun y cD=>N (ys ++ [y]) cD else N ys bI)
  (hd:∀ p,H p=none->Q (.ref p) (upd H p (.lst (ss.flatMap uy)))):cX (l9 lo n) g dd bN dp Q H:=by
 refine cX.range (fun i ys I=>I=H/\ys=(ss.take i).flatMap uy/\ys.length <= i) aF ⟨rfl,rfl,bP _⟩ (fun i ys I ag ⟨fA,e,bW⟩=>bW) (fun i ys I ag ⟨ao,aC,bJ⟩ N bb=>?_) (fun ys I ⟨ao,aC,_⟩ p aq=>?_)
 .subst ao;have fR:i < ss.length:=by omega
  have hR:ss[i]? = some ss[i]:=a_ fR;refine aw i ss[i] ys N ag hR (bb _ _ ⟨rfl,by rw [aC,nC,hR,vk];simp,?_⟩);rw [cC];cases ss[i] <;> simp <;> omega
 .subst ao;rw [aC,<- he,iF];exact hd p aq
theorem Zk (Pv:St->au->Prop) (xe:St->au->Nat) (h0:Pv σ H)
  (aw:∀ σ H,Pv σ H->∃ b:Bool,(∀ Q:Bool->au->Prop,Q b H->c σ H Q)/\(b=true->b8 { D with cy:=fun ay I=>Pv ay I/\xe ay I < xe σ H,e9:=fun ay I=>Pv ay I/\xe ay I < xe σ H,cI:=D.cy } σ H)/\(b=false->D.cy σ H)):Ow c b8 D σ H:=by
 refine ⟨fun m σ H=>m=xe σ H/\Pv σ H,⟨_,rfl,h0⟩,?_⟩;rintro m σ H ⟨rfl,p⟩;obtain ⟨b,ar,ab,ai⟩:=aw σ H p;refine ar _ ?_;cases b with
 | true=>exact ⟨_,fun ay I ⟨jW,l⟩=>⟨_,l,rfl,jW⟩,ab rfl⟩
 | false=>exact ai rfl
theorem Sub.name:Sub (none :: r) (v :: r):=by
 refine ⟨rfl,fun i w h=>?_⟩;cases i with
 | zero=>cases h
 | succ i=>exact h
theorem bX {x:Str} {e:Expr} (bb:X.N.Nodup) (he:bz X e bN) (ag:X.N[i]? = some x:=by rfl) (af:Loc X.env.scope x:=by exact qw rfl) (aw:swapsWith e (some (.Name x pos')) pos.line X.env=pure false:=by rfl) (hf:X.fn x=true\/X.env.scope.names.lookup x=some .local:=by first | exact .inl rfl | exact .inr rfl | assumption):f9 X (.Assign [.Name x pos'] e pos) (vU bN (e_ i)):=om bb ag af he aw hf
theorem b5 {x:Str} (bb:X.N.Nodup) (ag:X.N[i]? = some x:=by rfl) (af:Loc X.env.scope x:=by exact qw rfl) (hf:X.fn x=true\/X.env.scope.names.lookup x=some .local:=by first | exact .inl rfl | exact .inr rfl | assumption):o7 X (.Name x pos) (e_ i):=yJ bb ag af hf
theorem bl (aj:yB X r) (aK:bz X a a6) (ae:bz X b b8) (aw:Qs b:=by exact fun _ _=>rfl):bz X (.Subscript a b pos) (tL r a6 b8):=anp aj aK ae aw
theorem bS {k:Nat} {fd:FuncData} {x:Str} {p pos:Pos} {e:Expr} {t:fc} (F:bV X.prog X.w X.K X.mg X.base c9 k f fd ps sp) (aj:en k X.A) (hm:X.mg x=some (.ref f)) (aE:qm X.K (.ref f)=true) (ae:b3 X.K fd ps []) (aK:gg X (e :: aT) t) (bg:iR X x:=by rfl) (gF:(x == ("__debug__" : Str))=false:=by decide) (he:starEach (e :: aT) X.env=(false,eval e X.env) :: starEach aT X.env:=by rfl) (cO:(backTo pos (starEach aT X.env)).any (·.1)=false:=by rfl):bz X (.Call (.Name x p) (e :: aT) [] pos) (wm sp [] ud t):=V6 F aj bg hm aE ae .nil dK aK gF he cO
end L2
local macro_rules|`(tactic|nofun)=>do let f(s:String):=(s.splitOn " ").toArray.map fun x=>Lean.mkCIdent x.toName;let c:=f "L2.Bh L2.q9 L2.D3 L2.EL L2.EY L2.HQ L2.Hd L2.J1 L2.Jk L2.Lv L2.f' L2.dj L2.LU L2.Iw L2.BG L2.CI L2.e_ L2.zl L2.so L2.vO L2.vU L2.Lx L2.J' L2.tL L2.K7 L2.x' L2.pW L2.Ek L2.Mi L2.KI L2.F' L2.E1 L2.P8 L2.Vo L2.Lc L2.yf L2.FP L2.Lo L2.FI L2.wm L2.U0 L2.Nx L2.zB L2.KN L2.Mm L2.L5 L2.QS L2.Gi L2.HG L2.Ko L2.GG L2.Dm L2.LP L2.FY L2.E4 L2.Hq L2.IX L2.FZ L2.Ka L2.LX L2.ID L2.I6 L2.Mz L2.Kg L2.rA L2.J4 L2.IT L2.LM L2.Io L2.ND L2.Fc L2.Ni L2.EV L2.HH L2.Kl L2.ER L2.H4 L2.Mt L2.V0 L2.Ft L2.J0 L2.Gk L2.H_ L2.qN L2.KX L2.EK L2.Nb L2.NI L2.Nk L2.U5 L2.Pq L2.OQ L2.U7 L2.U9 L2.O3 L2.Tw L2.Sx L2.Vc L2.Ts L2.S6 L2.start L2.SG Nat.reduceAdd Nat.reduceSub List.replicate";let a:=f "L2.ni L2.ab' L2.a0.tE L2.a0.jw L2.a0.block L2.a0.gb L2.a0.aV L2.afx L2.akj L2.Zf L2.agN L2.YH L2.aj6 L2.aa7 L2.ads L2.agu L2.amy L2.abT L2.ahg L2.ZU L2.acS"++c;let b:=c++f "L2.ah4 L2.ag8 L2.aiV L2.ajI L2.ZZ List.map_cons List.map_nil Option.bind_none Option.bind_some Option.join_some Option.join_none List.length_cons List.length_nil Nat.zero_add List.cons_append List.nil_append List.append_nil List.set_cons_zero List.set_cons_succ List.getElem?_cons_zero List.getElem?_cons_succ Option.some.injEq L2.V.int.injEq L2.V.bw.injEq L2.V.str.injEq L2.V.ref.injEq L2.V.ty.injEq exists_eq_left' exists_eq_left exists_and_left List.cons.injEq and_true true_and and_assoc Int.zero_add reduceCtorEq false_and exists_false and_false ite_true ite_false if_true if_false Bool.false_eq_true L2.Ju L2.Bs false_or or_false Bool.not_true Bool.not_false decide_true decide_false";`(tactic|((try dsimp only [$[$a:ident],*]);(try simp only [$[$b:ident],*])))
local macro_rules | `(tactic| walk_at "B")=>`(tactic| first | rfl | (dsimp only [L2.a0.block];done) | (dsimp only [L2.a0.block];exact rfl))
local macro_rules | `(tactic| walk_at "F")=>`(tactic| exact ⟨rfl,rfl,rfl,by ac_nf,rfl,by ac_nf,by ac_nf⟩)
namespace L2
open PySem
theorem cR {P:Program} {w:World} {K:bc} {mg:Str->Option Value} {base:Heap} {C:j1} {m n:Nat} {f a:Addr} {fd b:FuncData} {ps q:List Str} {sp S:bO} (h:bV P w K mg base C m f fd ps sp) (g:bV P w K mg base C n f fd ps sp->bV P w K mg base C (n+1) a b q S) (hm:m<=n:=by decide):bV P w K mg base C (n+1) a b q S:=g (h.mono hm)
end L2
set_option hygiene false
local macro_rules | `(tactic| walk_at "O")=>`(tactic| (intro vs H Q E h;repeat (first | (obtain ⟨rfl,_⟩:=h;rfl) | (obtain ⟨_,h⟩:=h))))
set_option hygiene true
set_option hygiene false
local macro_rules | `(tactic| ac_rfl)=>`(tactic| refine UJ fun uc aY=>?_)
local macro_rules | `(tactic| exists $e,0)=>`(tactic| refine IV $e (fun hH bD=>?_) fun uc aY=>?_)
local macro_rules | `(tactic| exists $e,2)=>`(tactic| refine IV $e (fun hH kb=>?_) fun uc aY=>?_)
local macro_rules | `(tactic| exists $e,3)=>`(tactic| refine QZ $e (fun hH bD=>?_) fun uc aY=>?_)
local macro_rules | `(tactic| exists $e,5)=>`(tactic| refine QZ $e (fun hH kb=>?_) fun uc aY=>?_)
local macro_rules | `(tactic| exists $e,9)=>`(tactic| refine ($e) (by walk_at "O") (fun _ _ _ s H vs Q E aj h=>?_))
set_option hygiene true
namespace My
open PySem L2
local macro_rules|`(~~~$x)=>`(some (L2.V.ref $x))
abbrev jk:List Str:=["self","name"]
abbrev kl:List Str:=["stages","home"]
abbrev i5:List Str:=["least","most","members"]
abbrev kZ:List Str:=["crossing","rows"]
abbrev kY:List Str:=["self","name","start","end","off","near","least"]
abbrev oJ:List Str:=["_law_way"]
abbrev rG:List Str:=["crossing","one","other"]
abbrev zp:List Str:=["_law_script","_law_k","_law_many"]
abbrev wd:List Str:=["word","signs","most"]
abbrev vW:List Str:=["stages","one","other"]
abbrev uG:List Str:=["chain","own","others","place"]
abbrev A9:List Str:=["self","good"]
abbrev JG:List Str:=["self","choices"]
abbrev Fd:List Str:=["self","low","high"]
abbrev CU:List Str:=["self","kind","name","start","end","off","near","least"]
abbrev zI:List Str:=["crossing","name"]
abbrev u0:List Str:=["stages","name"]
abbrev Aj:List Str:=["places","way","second"]
abbrev BC:List Str:=["word","most_figures"]
abbrev yv:List Str:=["crossing","text"]
abbrev Br:List Str:=["stages","number"]
abbrev BS:List Str:=["own","first","second"]
abbrev ze:List Str:=["stages","home","chain"]
abbrev B0:List Str:=["reader","places","start"]
abbrev Ez:List Str:=["sort","name","start","end","off","near","least"]
abbrev Dx:List Str:=["_law_one","_law_other","_law_places"]
abbrev zQ:List Str:=["_law_goal","_law_many","_law_number"]
abbrev yE:List Str:=["_law_script","_law_places","_law_ways_here","_law_stages_here","_law_plan","_law_trams","_law_at","_law_goal","_law_side","_law_best","_law_many","_law_table","_law_one","_law_chain","_law_turns","_law_k","_law_refused","e","_law_found"]
abbrev x3:List Str:=["self","row","told"]
abbrev wx:List Str:=["self","crossing","rows","one","other"]
abbrev BE:List Str:=["places","way","place"]
abbrev E9:List Str:=["word","low","high"]
abbrev BH:List Str:=["crossing","first","second","turns","one"]
abbrev GF:List Str:=["crossing","first","second"]
abbrev H7:List Str:=["reader","crossing","left"]
abbrev A1:List Str:=["reader","crossing","rows"]
abbrev IU:List Str:=["stages","number","following","turns"]
abbrev MO:List Str:=["stages","home","first"]
abbrev Bk:List Str:=["stages","name","chain"]
abbrev JE:List Str:=["reader","ways"]
abbrev An:List Str:=["reader","places","ways"]
abbrev GQ:List Str:=["_law_script","_law_many"]
abbrev Ct:List Str:=["_law_script","_law_most"]
abbrev BI:List Str:=["_law_places","_law_ways_here"]
abbrev Fb:List Str:=["_law_ways_here","_law_one","_law_other"]
abbrev Bm:List Str:=["_law_script","_law_places","_law_ways_here"]
abbrev AR:List Str:=["_law_ways_here","_law_stages_here"]
abbrev CN:List Str:=["_law_places","_law_ways_here","_law_stages_here","_law_one","_law_other"]
abbrev MB:List Str:=["_law_trams","_law_goal","_law_chain"]
abbrev Cx:List Str:=["_law_trams","_law_goal"]
abbrev B6:List Str:=["self","crossing","rows"]
abbrev CW:List Str:=["self","places","ways"]
abbrev AI:List Str:=["name","crossing"]
abbrev Dj:List Str:=["least","most","members","crossing"]
abbrev Cc:List Str:=["_law_i","_law_ways_here"]
abbrev As:List Str:=["number","stages","home"]
abbrev Gj:List Str:=["crossing","rows","told"]
abbrev J2:List Str:=["reader","crossing","left","first","members","alike"]
abbrev HN:List Str:=["stages","home","numbers"]
abbrev MQ:List Str:=["stages","home","chain","stays","changes"]
abbrev Fz:List Str:=["stages","number","following","turns","own","sought","asks"]
abbrev Ie:List Str:=["one","other","stages"]
seal L2.gg L2.bz L2.f9 L2.gC L2.h7 L2.fW
noncomputable def top (i:Nat):Stmt:=PySem.Challenge.pw_lampway_k43_worst_by_chains.main.body.getD i (.Pass ⟨0,0,0,0⟩)
noncomputable abbrev Sd:Stmt:=top 9
theorem N':cn ["places","way","place","steps"] BE (bt Sd):=(by walk_at "F")
noncomputable abbrev UK:Stmt:=top 10
theorem XJ:cn Aj Aj (bt UK):=(by walk_at "F")
noncomputable abbrev QY:Stmt:=top 11
theorem LC:cn ["crossing","one","other","way","second"] rG (bt QY):=(by walk_at "F")
noncomputable abbrev Ti:Stmt:=top 12
theorem Fh:cn ["crossing","one","other","way","second"] rG (bt Ti):=(by walk_at "F")
noncomputable abbrev Lu:Stmt:=top 18
theorem XX:cn ["text"] ["text"] (bt Lu):=(by walk_at "F")
noncomputable abbrev Tl:Stmt:=top 19
theorem adN:cn wd wd (bt Tl):=(by walk_at "F")
noncomputable abbrev SO:Stmt:=top 20
theorem acK:cn BC BC (bt SO):=(by walk_at "F")
noncomputable abbrev WL:Stmt:=top 21
theorem T8:cn ["word","low","high","number"] E9 (bt WL):=(by walk_at "F")
noncomputable abbrev Pl:Stmt:=top 22
theorem adC:cn ["word"] ["word"] (bt Pl):=(by walk_at "F")
noncomputable abbrev Kd:Stmt:=top 25
theorem ajG:cn ["text"] ["text"] (bt Kd):=(by walk_at "F")
noncomputable abbrev Tc:Stmt:=top 30
theorem anl:cn zI zI (bt Tc):=(by walk_at "F")
noncomputable abbrev OI:Stmt:=top 31
theorem zi:cn ["members","homes","number","names","name"] ["members"] (bt OI):=(by walk_at "F")
noncomputable abbrev y7:Stmt:=top 32
theorem GU:cn BH GF (bt y7):=(by walk_at "F")
noncomputable abbrev zK:Stmt:=top 33
theorem Vz:cn Gj kZ (bt zK):=(by walk_at "F")
noncomputable abbrev CM:Stmt:=top 34
theorem zA:cn J2 H7 (bt CM):=(by walk_at "F")
noncomputable abbrev UX:Stmt:=top 35
theorem LL:cn ["reader","crossing","rows","least","most"] A1 (bt UX):=(by walk_at "F")
noncomputable abbrev NC:Stmt:=top 36
theorem QA:cn ["crossing","rows","left"] kZ (bt NC):=(by walk_at "F")
noncomputable abbrev Fq:Stmt:=top 37
theorem z_:cn ["crossing","rows","homes","name","number"] kZ (bt Fq):=(by walk_at "F")
noncomputable abbrev Un:Stmt:=top 38
theorem zo:cn ["crossing","rows","number","row","one","other"] kZ (bt Un):=(by walk_at "F")
noncomputable abbrev Up:Stmt:=top 39
theorem KZ:cn ["crossing","text","rows","reader"] yv (bt Up):=(by walk_at "F")
noncomputable abbrev Ut:Stmt:=top 40
theorem Xw:cn Br Br (bt Ut):=(by walk_at "F")
noncomputable abbrev WE:Stmt:=top 41
theorem amS:cn vW vW (bt WE):=(by walk_at "F")
noncomputable abbrev BO:Stmt:=top 43
theorem Rt:cn HN kl (bt BO):=(by walk_at "F")
noncomputable abbrev Iq:Stmt:=top 44
theorem agk:cn kl kl (bt Iq):=(by walk_at "F")
noncomputable abbrev Ot:Stmt:=top 45
theorem afE:cn BS BS (bt Ot):=(by walk_at "F")
noncomputable abbrev R6:Stmt:=top 46
theorem u1:cn ["chain","own","others","place","last","found","step","number"] uG (bt R6):=(by walk_at "F")
noncomputable abbrev Ru:Stmt:=top 47
theorem uS:cn ["stages","home","own","others","found","first","second"] kl (bt Ru):=(by walk_at "F")
noncomputable abbrev PQ:Stmt:=top 48
theorem akd:cn kl kl (bt PQ):=(by walk_at "F")
noncomputable abbrev Cf:Stmt:=top 49
theorem Mv:cn MQ ze (bt Cf):=(by walk_at "F")
noncomputable abbrev BN:Stmt:=top 50
theorem DE:cn Fz IU (bt BN):=(by walk_at "F")
noncomputable abbrev O7:Stmt:=top 51
theorem Il:cn ["stages","home","first","stops","number"] MO (bt O7):=(by walk_at "F")
noncomputable abbrev RP:Stmt:=top 52
theorem pk:cn ["stages","name","chain","home","stops","rows","number","following","turn","stays"] Bk (bt RP):=(by walk_at "F")
noncomputable abbrev LR:Stmt:=top 53
theorem uw:cn ["stages","name","home","chain","rows","turn"] u0 (bt LR):=(by walk_at "F")
noncomputable abbrev W5:Stmt:=top 67
theorem N9:cn ["reader","places"] ["reader"] (bt W5):=(by walk_at "F")
noncomputable abbrev KU:Stmt:=top 68
theorem Oo:cn ["reader","ways","name"] JE (bt KU):=(by walk_at "F")
noncomputable abbrev NJ:Stmt:=top 69
theorem anx:cn B0 B0 (bt NJ):=(by walk_at "F")
noncomputable abbrev VH:Stmt:=top 70
theorem aaj:cn Ez Ez (bt VH):=(by walk_at "F")
noncomputable abbrev S2:Stmt:=top 71
theorem ra:cn ["reader","places","ways","sort","name","start","end","off","near","least"] An (bt S2):=(by walk_at "F")
noncomputable abbrev OW:Stmt:=top 72
theorem xH:cn ["text","rows","places","ways","reader"] ["text"] (bt OW):=(by walk_at "F")
noncomputable abbrev ut:Stmt:=top 74
theorem tQ:cn ["_law_script","_law_k","_law_many","_law_cell","_law_seed"] zp (bt ut):=(by walk_at "F")
noncomputable abbrev IW:Stmt:=top 75
theorem qY:cn ["_law_script","_law_many","_law_letters","_law_base","_law_way","_law_at","_law_names_here","_law_k","_law_sign"] GQ (bt IW):=(by walk_at "F")
noncomputable abbrev Va:Stmt:=top 76
theorem ad:cn ["_law_script","_law_most","_law_places","_law_names_here","_law_ways_here","_law_k","_law_start","_law_end","_law_sort","_law_off","_law_near"] Ct (bt Va):=(by walk_at "F")
noncomputable abbrev KJ:Stmt:=top 77
theorem JZ:cn ["_law_places","_law_ways_here","_law_rows","_law_way"] BI (bt KJ):=(by walk_at "F")
noncomputable abbrev TM:Stmt:=top 78
theorem Dr:cn ["_law_one","_law_other","_law_places","_law_length","_law_start","_law_end"] Dx (bt TM):=(by walk_at "F")
noncomputable abbrev Vj:Stmt:=top 79
theorem W6:cn ["_law_ways_here","_law_one","_law_other","_law_tram"] Fb (bt Vj):=(by walk_at "F")
noncomputable abbrev Iu:Stmt:=top 80
theorem lZ:cn ["_law_script","_law_places","_law_ways_here","_law_some","_law_k","_law_fits","_law_j","_law_good_here","_law_i","_law_stages_here","_law_low","_law_more"] Bm (bt Iu):=(by walk_at "F")
noncomputable abbrev MC:Stmt:=top 81
theorem xC:cn ["_law_ways_here","_law_stages_here","_law_rows","_law_low","_law_high","_law_some"] AR (bt MC):=(by walk_at "F")
noncomputable abbrev VW:Stmt:=top 82
theorem Yi:cn oJ oJ (bt VW):=(by walk_at "F")
noncomputable abbrev UD:Stmt:=top 83
theorem abb:cn oJ oJ (bt UD):=(by walk_at "F")
noncomputable abbrev Sa:Stmt:=top 84
theorem lf:cn ["_law_places","_law_ways_here","_law_stages_here","_law_one","_law_other","_law_turns","_law_i","_law_k"] CN (bt Sa):=(by walk_at "F")
noncomputable abbrev Qz:Stmt:=top 85
theorem aiP:cn zQ zQ (bt Qz):=(by walk_at "F")
noncomputable abbrev VL:Stmt:=top 86
theorem vg:cn ["_law_trams","_law_goal","_law_chain","_law_many","_law_last","_law_k"] MB (bt VL):=(by walk_at "F")
noncomputable abbrev pp:Stmt:=top 87
theorem tF:cn ["_law_trams","_law_goal","_law_rows","_law_first","_law_number","_law_done","_law_chain"] Cx (bt pp):=(by walk_at "F")
noncomputable abbrev uo:Stmt:=top 88
theorem hZ:cn yE ["_law_script"] (bt uo):=(by walk_at "F")
noncomputable abbrev WZ:Stmt:=hN (top 4) 0
theorem adl:cn jk jk (bt WZ):=(by walk_at "F")
noncomputable abbrev So:Stmt:=hN (top 24) 0
theorem Y2:cn x3 x3 (bt So):=(by walk_at "F")
noncomputable abbrev PJ:Stmt:=hN (top 24) 1
theorem aeG:cn ["self"] ["self"] (bt PJ):=(by walk_at "F")
noncomputable abbrev RQ:Stmt:=hN (top 24) 2
theorem aj1:cn ["self"] ["self"] (bt RQ):=(by walk_at "F")
noncomputable abbrev R3:Stmt:=hN (top 24) 4
theorem aeY:cn A9 A9 (bt R3):=(by walk_at "F")
noncomputable abbrev SE:Stmt:=hN (top 24) 5
theorem QF:cn ["self","choices","found"] JG (bt SE):=(by walk_at "F")
noncomputable abbrev OD:Stmt:=hN (top 24) 6
theorem NV:cn ["self","low","high","found"] Fd (bt OD):=(by walk_at "F")
noncomputable abbrev PL:Stmt:=hN (top 24) 7
theorem afF:cn ["self"] ["self"] (bt PL):=(by walk_at "F")
noncomputable abbrev vI:Stmt:=hN (top 29) 0
theorem G6:cn wx B6 (bt vI):=(by walk_at "F")
noncomputable abbrev NQ:Stmt:=hN (top 55) 0
theorem X_:cn CU CU (bt NQ):=(by walk_at "F")
noncomputable abbrev VD:Stmt:=hN (top 56) 0
theorem ZK:cn kY kY (bt VD):=(by walk_at "F")
noncomputable abbrev RT:Stmt:=hN (top 56) 1
theorem amW:cn ["self"] ["self"] (bt RT):=(by walk_at "F")
noncomputable abbrev S_:Stmt:=hN (top 56) 2
theorem ahn:cn ["self"] ["self"] (bt S_):=(by walk_at "F")
noncomputable abbrev Qx:Stmt:=hN (top 57) 0
theorem akW:cn kY kY (bt Qx):=(by walk_at "F")
noncomputable abbrev U8:Stmt:=hN (top 57) 1
theorem Yx:cn ["self"] ["self"] (bt U8):=(by walk_at "F")
noncomputable abbrev zn:Stmt:=hN (top 57) 2
theorem ak2:cn ["self"] ["self"] (bt zn):=(by walk_at "F")
noncomputable abbrev S4:Stmt:=hN (top 58) 0
theorem X3:cn kY kY (bt S4):=(by walk_at "F")
noncomputable abbrev Qo:Stmt:=hN (top 58) 1
theorem ls:cn ["self"] ["self"] (bt Qo):=(by walk_at "F")
noncomputable abbrev Sp:Stmt:=hN (top 58) 2
theorem anf:cn ["self"] ["self"] (bt Sp):=(by walk_at "F")
noncomputable abbrev VX:Stmt:=hN (top 66) 0
theorem H':cn ["self","places","ways","number","way"] CW (bt VX):=(by walk_at "F")
noncomputable abbrev G_:Stmt:=hN (top 66) 1
theorem aj8:cn ["self"] ["self"] (bt G_):=(by walk_at "F")
noncomputable abbrev WK:Stmt:=hN (top 66) 2
theorem Qy:cn jk jk (bt WK):=(by walk_at "F")
noncomputable abbrev PV:Stmt:=hN (top 66) 3
theorem Pg:cn jk jk (bt PV):=(by walk_at "F")
set_option genInjectivity false in
set_option genInjectivity false in
structure b6 where
 {Ae GX Cz C8 Em MH M_ HT Hn zk Mp Kt GR J_ Jv B8 Dg Ak D7 wG K2 zC LF HO Jl tN D2 CC Op LA II zO vL Ds H0 HK bn zE Ex Re GD Ej BA Ar F8 Eo B7 zW BW C' KS M8 z1 Hz wR zj zM DG DB CV B9 Bi yw A' vX ED Ch wi Ap AO yY zH C1 xK wz uz q3 ac fp Av jF jG jN hG GO mu yS:Addr}
 {Ps F6 DI Cg Ce EJ Fk F0 GY xo Ff Lj M6 Gn G5 CY B5 Cb DP xV No Ac Fi IG K_ tM DS BF xj G3 wp AE te zU Lm Tm Lk AX Es xF Im dl AJ Eh JH zV CG A7 CD z6 JN Gv A_ Ah Bu wf Gb HJ Mf JW Fs HE Bq Mh C4 Fy Kk DR Lh L4 Aa I8 HP zD Ag y9 si:FuncData}
 {UH P_ Tg Tv WT On OF O' Su P2 Qt OU:Value}
section
variable (K:bc) (mg:Str->Option Value) (t:b6)
abbrev a0_a:=(mg "in_bow"=some (.ref t.Ae))/\(b9 K "in_bow" "in_bow" Sd t.Ae t.Ps)/\(mg "bows_cross"=some (.ref t.GX))/\(b9 K "bows_cross" "bows_cross" UK t.GX t.F6)/\(mg "meet"=some (.ref t.Cz))/\(b9 K "meet" "meet" QY t.Cz t.DI)/\(mg "gap"=some (.ref t.C8))/\(b9 K "gap" "gap" Ti t.C8 t.Cg)/\(mg "words"=some (.ref t.Em))/\(b9 K "words" "words" Lu t.Em t.Ce)/\(mg "is_made_of"=some (.ref t.MH))/\(b9 K "is_made_of" "is_made_of" Tl t.MH t.EJ)/\(mg "is_number"=some (.ref t.M_))/\(b9 K "is_number" "is_number" SO t.M_ t.Fk)/\(mg "figured"=some (.ref t.HT))/\(b9 K "figured" "figured" WL t.HT t.F0)/\(mg "is_name"=some (.ref t.Hn))/\(b9 K "is_name" "is_name" Pl t.Hn t.GY)/\(mg "readers"=some (.ref t.zk))/\(b9 K "readers" "readers" Kd t.zk t.xo)
abbrev a0_b:=(mg "sort_of"=some (.ref t.Mp))/\(b9 K "sort_of" "sort_of" Tc t.Mp t.Ff)/\(mg "homes_in"=some (.ref t.Kt))/\(b9 K "homes_in" "homes_in" OI t.Kt t.Lj)/\(mg "change_turns"=some (.ref t.GR))/\(b9 K "change_turns" "change_turns" y7 t.GR t.M6)/\(mg "names_left"=some (.ref t.J_))/\(b9 K "names_left" "names_left" zK t.J_ t.Gn)/\(mg "read_members"=some (.ref t.Jv))/\(b9 K "read_members" "read_members" CM t.Jv t.G5)/\(mg "read_stage"=some (.ref t.B8))/\(b9 K "read_stage" "read_stage" UX t.B8 t.CY)/\(mg "refuse_never"=some (.ref t.Dg))/\(b9 K "refuse_never" "refuse_never" NC t.Dg t.B5)/\(mg "refuse_short"=some (.ref t.Ak))/\(b9 K "refuse_short" "refuse_short" Fq t.Ak t.Cb)/\(mg "refuse_clash"=some (.ref t.D7))/\(b9 K "refuse_clash" "refuse_clash" Un t.D7 t.DP)/\(mg "read_stages"=some (.ref t.wG))/\(b9 K "read_stages" "read_stages" Up t.wG t.xV)
abbrev a0_c:=(mg "ways_in"=some (.ref t.K2))/\(b9 K "ways_in" "ways_in" Ut t.K2 t.No)/\(mg "change"=some (.ref t.zC))/\(b9 K "change" "change" WE t.zC t.Ac)/\(mg "counted_to"=some (.ref t.LF))/\(b9 K "counted_to" "counted_to" BO t.LF t.Fi)/\(mg "of_other_sort"=some (.ref t.HO))/\(b9 K "of_other_sort" "of_other_sort" Iq t.HO t.IG)/\(mg "place_at_first"=some (.ref t.Jl))/\(b9 K "place_at_first" "place_at_first" Ot t.Jl t.K_)/\(mg "grown"=some (.ref t.tN))/\(b9 K "grown" "grown" R6 t.tN t.tM)/\(mg "chains_to"=some (.ref t.D2))/\(b9 K "chains_to" "chains_to" Ru t.D2 t.DS)/\(mg "stays_in_chain"=some (.ref t.CC))/\(b9 K "stays_in_chain" "stays_in_chain" PQ t.CC t.BF)/\(mg "length"=some (.ref t.Op))/\(b9 K "length" "length" Cf t.Op t.xj)/\(mg "asks_of_leg"=some (.ref t.LA))/\(b9 K "asks_of_leg" "asks_of_leg" BN t.LA t.G3)
abbrev a0_d:=(mg "lead_in"=some (.ref t.II))/\(b9 K "lead_in" "lead_in" O7 t.II t.wp)/\(mg "asks_along"=some (.ref t.zO))/\(b9 K "asks_along" "asks_along" RP t.zO t.AE)/\(mg "worst"=some (.ref t.vL))/\(b9 K "worst" "worst" LR t.vL t.te)/\(mg "read_ring"=some (.ref t.Ds))/\(b9 K "read_ring" "read_ring" W5 t.Ds t.zU)/\(mg "read_new_name"=some (.ref t.H0))/\(b9 K "read_new_name" "read_new_name" KU t.H0 t.Lm)/\(mg "read_end"=some (.ref t.HK))/\(b9 K "read_end" "read_end" NJ t.HK t.Tm)/\(mg "made_way"=some (.ref t.bn))/\(b9 K "made_way" "made_way" VH t.bn t.Lk)/\(mg "read_way"=some (.ref t.zE))/\(b9 K "read_way" "read_way" S2 t.zE t.AX)/\(mg "read_crossing"=some (.ref t.Ex))/\(b9 K "read_crossing" "read_crossing" OW t.Ex t.Es)/\(mg "_law_draw"=some (.ref t.Re))/\(b9 K "_law_draw" "_law_draw" ut t.Re t.xF)
abbrev a0_e:=(mg "_law_names"=some (.ref t.GD))/\(b9 K "_law_names" "_law_names" IW t.GD t.Im)/\(mg "_law_ways"=some (.ref t.Ej))/\(b9 K "_law_ways" "_law_ways" Va t.Ej t.dl)/\(mg "_law_text"=some (.ref t.BA))/\(b9 K "_law_text" "_law_text" KJ t.BA t.AJ)/\(mg "_law_meet"=some (.ref t.Ar))/\(b9 K "_law_meet" "_law_meet" TM t.Ar t.Eh)/\(mg "_law_alike"=some (.ref t.F8))/\(b9 K "_law_alike" "_law_alike" Vj t.F8 t.JH)/\(mg "_law_stages"=some (.ref t.Eo))/\(b9 K "_law_stages" "_law_stages" Iu t.Eo t.zV)/\(mg "_law_stages_text"=some (.ref t.B7))/\(b9 K "_law_stages_text" "_law_stages_text" MC t.B7 t.CG)/\(mg "_law_ready"=some (.ref t.zW))/\(b9 K "_law_ready" "_law_ready" VW t.zW t.A7)/\(mg "_law_fade"=some (.ref t.BW))/\(b9 K "_law_fade" "_law_fade" UD t.BW t.CD)/\(mg "_law_change"=some (.ref t.C'))/\(b9 K "_law_change" "_law_change" Sa t.C' t.z6)
abbrev a0_f:=(mg "_law_spot"=some (.ref t.KS))/\(b9 K "_law_spot" "_law_spot" Qz t.KS t.JN)/\(mg "_law_good"=some (.ref t.M8))/\(b9 K "_law_good" "_law_good" VL t.M8 t.Gv)/\(mg "_law_chains"=some (.ref t.z1))/\(b9 K "_law_chains" "_law_chains" pp t.z1 t.A_)/\(mg "law"=some (.ref t.Hz))/\(b9 K "law" "law" uo t.Hz t.Ah)/\(mg "NoWay"=some (.ref t.mu))/\(el K (.ref t.mu) "__init__"=some (some (.ref t.wR)))/\(b9 K "__init__" "NoWay.__init__" WZ t.wR t.Bu)/\(mg "RowReader"=some (.ref t.ac))/\(el K (.ref t.ac) "__init__"=some (some (.ref t.zj)))/\(b9 K "__init__" "RowReader.__init__" So t.zj t.wf)/\(el K (.ref t.ac) "ahead"=some (some (.ref t.zM)))/\(b9 K "ahead" "RowReader.ahead" PJ t.zM t.Gb)/\(el K (.ref t.ac) "has_more"=some (some (.ref t.DG)))/\(b9 K "has_more" "RowReader.has_more" RQ t.DG t.HJ)/\(el K (.ref t.ac) "take"=some (some (.ref t.DB)))/\(b9 K "take" "RowReader.take" R3 t.DB t.Mf)
abbrev a0_g:=(el K (.ref t.ac) "one_of"=some (some (.ref t.CV)))/\(b9 K "one_of" "RowReader.one_of" SE t.CV t.JW)/\(el K (.ref t.ac) "figures"=some (some (.ref t.B9)))/\(b9 K "figures" "RowReader.figures" OD t.B9 t.Fs)/\(el K (.ref t.ac) "finish"=some (some (.ref t.Bi)))/\(b9 K "finish" "RowReader.finish" PL t.Bi t.HE)/\(mg "Stages"=some (.ref t.fp))/\(el K (.ref t.fp) "__init__"=some (some (.ref t.yw)))/\(b9 K "__init__" "Stages.__init__" vI t.yw t.Bq)/\(mg "Way"=some (.ref t.Av))/\(el K (.ref t.Av) "__init__"=some (some (.ref t.A')))/\(b9 K "__init__" "Way.__init__" NQ t.A' t.Mh)/\(mg "CarWay"=some (.ref t.jF))/\(el K (.ref t.jF) "__init__"=some (some (.ref t.vX)))/\(b9 K "__init__" "CarWay.__init__" VD t.vX t.C4)/\(el K (.ref t.jF) "ready"=some (some (.ref t.ED)))/\(b9 K "ready" "CarWay.ready" RT t.ED t.Fy)/\(el K (.ref t.jF) "fade"=some (some (.ref t.Ch)))/\(b9 K "fade" "CarWay.fade" S_ t.Ch t.Kk)/\(mg "FootWay"=some (.ref t.jG))
abbrev a0_h:=(el K (.ref t.jG) "__init__"=some (some (.ref t.wi)))/\(b9 K "__init__" "FootWay.__init__" Qx t.wi t.DR)/\(el K (.ref t.jG) "ready"=some (some (.ref t.Ap)))/\(b9 K "ready" "FootWay.ready" U8 t.Ap t.Lh)/\(el K (.ref t.jG) "fade"=some (some (.ref t.AO)))/\(b9 K "fade" "FootWay.fade" zn t.AO t.L4)/\(mg "TramWay"=some (.ref t.jN))/\(el K (.ref t.jN) "__init__"=some (some (.ref t.yY)))/\(b9 K "__init__" "TramWay.__init__" S4 t.yY t.Aa)/\(el K (.ref t.jN) "ready"=some (some (.ref t.zH)))/\(b9 K "ready" "TramWay.ready" Qo t.zH t.I8)/\(el K (.ref t.jN) "fade"=some (some (.ref t.C1)))/\(b9 K "fade" "TramWay.fade" Sp t.C1 t.HP)/\(mg "Crossing"=some (.ref t.hG))/\(el K (.ref t.hG) "__init__"=some (some (.ref t.xK)))/\(b9 K "__init__" "Crossing.__init__" VX t.xK t.zD)/\(el K (.ref t.hG) "names"=some (some (.ref t.wz)))/\(b9 K "names" "Crossing.names" G_ t.wz t.Ag)/\(el K (.ref t.hG) "number"=some (some (.ref t.uz)))/\(b9 K "number" "Crossing.number" WK t.uz t.y9)
abbrev a0_i:=(el K (.ref t.hG) "called"=some (some (.ref t.q3)))/\(b9 K "called" "Crossing.called" PV t.q3 t.si)/\(hI K t.ac)/\(rt K t.ac t.zj)/\(jo K t.ac "ahead" t.zM)/\(jo K t.ac "has_more" t.DG)/\(jo K t.ac "take" t.DB)/\(jo K t.ac "one_of" t.CV)/\(jo K t.ac "figures" t.B9)/\(jo K t.ac "finish" t.Bi)/\(dq K t.ac "row")/\(dq K t.ac "told")/\(dq K t.ac "place")/\(hI K t.fp)/\(rt K t.fp t.yw)/\(dq K t.fp "crossing")/\(dq K t.fp "many")/\(dq K t.fp "leasts")/\(dq K t.fp "mosts")/\(dq K t.fp "members")
abbrev a0_j:=(dq K t.fp "sorts")/\(dq K t.fp "homes")/\(dq K t.fp "changes")/\(hI K t.Av)/\(hI K t.jF)/\(rt K t.jF t.vX)/\(jo K t.jF "ready" t.ED)/\(jo K t.jF "fade" t.Ch)/\(dq K t.jF "kind")/\(dq K t.jF "name")/\(dq K t.jF "start")/\(dq K t.jF "end")/\(dq K t.jF "off")/\(dq K t.jF "near")/\(dq K t.jF "least")/\(hI K t.jG)/\(rt K t.jG t.wi)/\(jo K t.jG "ready" t.Ap)/\(jo K t.jG "fade" t.AO)/\(dq K t.jG "kind")
abbrev a0_k:=(dq K t.jG "name")/\(dq K t.jG "start")/\(dq K t.jG "end")/\(dq K t.jG "off")/\(dq K t.jG "near")/\(dq K t.jG "least")/\(hI K t.jN)/\(rt K t.jN t.yY)/\(jo K t.jN "ready" t.zH)/\(jo K t.jN "fade" t.C1)/\(dq K t.jN "kind")/\(dq K t.jN "name")/\(dq K t.jN "start")/\(dq K t.jN "end")/\(dq K t.jN "off")/\(dq K t.jN "near")/\(dq K t.jN "least")/\(hI K t.hG)/\(rt K t.hG t.xK)/\(jo K t.hG "names" t.wz)
abbrev a0_l:=(jo K t.hG "number" t.uz)/\(jo K t.hG "called" t.q3)/\(dq K t.hG "places")/\(dq K t.hG "ways")/\(dq K t.hG "numbers")/\(mg "LampError"=some (.ref t.GO))/\(SH K t.GO "__init__")/\(QN K t.mu)/\(yd K t.mu t.wR)/\(dq K t.mu "name")/\(G' K (.ref t.mu) (.ref t.GO)=some true)/\(G' K (.ref t.mu) (.ref t.mu)=some true)/\(t.jF ≠ t.jG)/\(t.jF ≠ t.jN)/\(t.jG ≠ t.jN)/\(NA K t.Av "__init__" t.A')/\(mg "FIGURES"=some t.UH)/\(b1 (.str (ah "0123456789")) t.UH)/\(mg "LEAST_PLACES"=some t.P_)/\(b1 (.int 2) t.P_)
abbrev a0_m:=(mg "LETTERS"=some t.Tg)/\(b1 (.str (ah "abcdefghijklmnopqrstuvwxyz")) t.Tg)/\(mg "MOST_FIGURES"=some t.Tv)/\(b1 (.int 3) t.Tv)/\(mg "MOST_LEAST"=some t.WT)/\(b1 (.int 60) t.WT)/\(mg "MOST_LETTERS"=some t.On)/\(b1 (.int 8) t.On)/\(mg "MOST_NEAR"=some t.OF)/\(b1 (.int 30) t.OF)/\(mg "MOST_OFF"=some t.O')/\(b1 (.int 30) t.O')/\(mg "MOST_PLACES"=some t.Su)/\(b1 (.int 99) t.Su)/\(mg "MOST_STAGES"=some t.P2)/\(b1 (.int 6) t.P2)/\(mg "MOST_TURNS"=some t.Qt)/\(b1 (.int 60) t.Qt)/\(mg "MOST_WAYS"=some t.OU)/\(b1 (.int 12) t.OU)
abbrev a0_n:=(mg "all"=none)/\(mg "bool"=none)/\(mg "enumerate"=none)/\(mg "int"=none)/\(mg "isinstance"=none)/\(mg "len"=none)/\(mg "list"=none)/\(mg "max"=none)/\(mg "range"=none)/\(mg "str"=none)/\(mg "sum"=none)/\(mg "zip"=none)/\(t.te.code=.ref t.yS)/\(∀ (s:Shared) (u:Value),BindsTo s t.Ah ⟨[u],[]⟩ [("_law_script",u)])
end
structure Txt (w:World) (K:bc) (mg:Str->Option Value) (t:b6):Prop where
 iJ:a0_a K mg t
 iK:a0_b K mg t
 iN:a0_c K mg t
 i3:a0_d K mg t
 iQ:a0_e K mg t
 k':a0_f K mg t
 nA:a0_g K mg t
 nP:a0_h K mg t
 jr:a0_i K t
 jn:a0_j K t
 iU:a0_k K t
 js:a0_l K mg t
 i9:a0_m mg t
 l1:a0_n mg t
section
variable {w:World} {K:bc} {mg:Str->Option Value} {t:b6} (T:Txt w K mg t)
include T
def Txt.RU:=T.iJ.1
def Txt.AB:=T.iJ.2.1
def Txt.alF:=T.iJ.2.2.1
def Txt.EZ:=T.iJ.2.2.2.1
def Txt.Vi:=T.iJ.2.2.2.2.1
def Txt.Ad:=T.iJ.2.2.2.2.2.1
def Txt.alg:=T.iJ.2.2.2.2.2.2.1
def Txt.JR:=T.iJ.2.2.2.2.2.2.2.1
def Txt.akE:=T.iJ.2.2.2.2.2.2.2.2.1
def Txt.SB:=T.iJ.2.2.2.2.2.2.2.2.2.1
def Txt.TN:=T.iJ.2.2.2.2.2.2.2.2.2.2.1
def Txt.Ay:=T.iJ.2.2.2.2.2.2.2.2.2.2.2.1
def Txt.agV:=T.iJ.2.2.2.2.2.2.2.2.2.2.2.2.1
def Txt.io:=T.iJ.2.2.2.2.2.2.2.2.2.2.2.2.2.1
def Txt.ai3:=T.iJ.2.2.2.2.2.2.2.2.2.2.2.2.2.2.1
def Txt.Gp:=T.iJ.2.2.2.2.2.2.2.2.2.2.2.2.2.2.2.1
def Txt.alH:=T.iJ.2.2.2.2.2.2.2.2.2.2.2.2.2.2.2.2.1
def Txt.Hy:=T.iJ.2.2.2.2.2.2.2.2.2.2.2.2.2.2.2.2.2.1
def Txt.TJ:=T.iJ.2.2.2.2.2.2.2.2.2.2.2.2.2.2.2.2.2.2.1
def Txt.BJ:=T.iJ.2.2.2.2.2.2.2.2.2.2.2.2.2.2.2.2.2.2.2
def Txt.Ip:=T.iK.1
def Txt.xE:=T.iK.2.1
def Txt.M7:=T.iK.2.2.1
def Txt.wc:=T.iK.2.2.2.1
def Txt.Y1:=T.iK.2.2.2.2.1
def Txt.Fg:=T.iK.2.2.2.2.2.1
def Txt.Oe:=T.iK.2.2.2.2.2.2.1
def Txt.Di:=T.iK.2.2.2.2.2.2.2.1
def Txt.alA:=T.iK.2.2.2.2.2.2.2.2.1
def Txt.KY:=T.iK.2.2.2.2.2.2.2.2.2.1
def Txt.afR:=T.iK.2.2.2.2.2.2.2.2.2.2.1
def Txt.KP:=T.iK.2.2.2.2.2.2.2.2.2.2.2.1
def Txt.ai0:=T.iK.2.2.2.2.2.2.2.2.2.2.2.2.1
def Txt.MM:=T.iK.2.2.2.2.2.2.2.2.2.2.2.2.2.1
def Txt.YZ:=T.iK.2.2.2.2.2.2.2.2.2.2.2.2.2.2.1
def Txt.Iv:=T.iK.2.2.2.2.2.2.2.2.2.2.2.2.2.2.2.1
def Txt.ajK:=T.iK.2.2.2.2.2.2.2.2.2.2.2.2.2.2.2.2.1
def Txt.K8:=T.iK.2.2.2.2.2.2.2.2.2.2.2.2.2.2.2.2.2.1
def Txt.Yg:=T.iK.2.2.2.2.2.2.2.2.2.2.2.2.2.2.2.2.2.2.1
def Txt.I2:=T.iK.2.2.2.2.2.2.2.2.2.2.2.2.2.2.2.2.2.2.2
def Txt.Qu:=T.iN.1
def Txt.Bx:=T.iN.2.1
def Txt.HI:=T.iN.2.2.1
def Txt.y6:=T.iN.2.2.2.1
def Txt.agv:=T.iN.2.2.2.2.1
def Txt.G4:=T.iN.2.2.2.2.2.1
def Txt.ajH:=T.iN.2.2.2.2.2.2.1
def Txt.Hs:=T.iN.2.2.2.2.2.2.2.1
def Txt.aij:=T.iN.2.2.2.2.2.2.2.2.1
def Txt.IH:=T.iN.2.2.2.2.2.2.2.2.2.1
def Txt.It:=T.iN.2.2.2.2.2.2.2.2.2.2.1
def Txt.uW:=T.iN.2.2.2.2.2.2.2.2.2.2.2.1
def Txt.aiC:=T.iN.2.2.2.2.2.2.2.2.2.2.2.2.1
def Txt.K6:=T.iN.2.2.2.2.2.2.2.2.2.2.2.2.2.1
def Txt.TV:=T.iN.2.2.2.2.2.2.2.2.2.2.2.2.2.2.1
def Txt.EF:=T.iN.2.2.2.2.2.2.2.2.2.2.2.2.2.2.2.1
def Txt.PN:=T.iN.2.2.2.2.2.2.2.2.2.2.2.2.2.2.2.2.1
def Txt.Ca:=T.iN.2.2.2.2.2.2.2.2.2.2.2.2.2.2.2.2.2.1
def Txt.Wp:=T.iN.2.2.2.2.2.2.2.2.2.2.2.2.2.2.2.2.2.2.1
def Txt.AK:=T.iN.2.2.2.2.2.2.2.2.2.2.2.2.2.2.2.2.2.2.2
def Txt.amz:=T.i3.1
def Txt.MX:=T.i3.2.1
def Txt.adi:=T.i3.2.2.1
def Txt.im:=T.i3.2.2.2.1
def Txt.O8:=T.i3.2.2.2.2.1
def Txt.y5:=T.i3.2.2.2.2.2.1
def Txt.afI:=T.i3.2.2.2.2.2.2.1
def Txt.Ng:=T.i3.2.2.2.2.2.2.2.1
def Txt.am2:=T.i3.2.2.2.2.2.2.2.2.1
def Txt.ii:=T.i3.2.2.2.2.2.2.2.2.2.1
def Txt.anz:=T.i3.2.2.2.2.2.2.2.2.2.2.1
def Txt.EM:=T.i3.2.2.2.2.2.2.2.2.2.2.2.1
def Txt.ahm:=T.i3.2.2.2.2.2.2.2.2.2.2.2.2.1
def Txt.F2:=T.i3.2.2.2.2.2.2.2.2.2.2.2.2.2.1
def Txt.acj:=T.i3.2.2.2.2.2.2.2.2.2.2.2.2.2.2.1
def Txt.LY:=T.i3.2.2.2.2.2.2.2.2.2.2.2.2.2.2.2.1
def Txt.ajq:=T.i3.2.2.2.2.2.2.2.2.2.2.2.2.2.2.2.2.1
def Txt.Mc:=T.i3.2.2.2.2.2.2.2.2.2.2.2.2.2.2.2.2.2.1
def Txt.gj:=T.i3.2.2.2.2.2.2.2.2.2.2.2.2.2.2.2.2.2.2.1
def Txt.fF:=T.i3.2.2.2.2.2.2.2.2.2.2.2.2.2.2.2.2.2.2.2
def Txt.aeM:=T.iQ.1
def Txt.FG:=T.iQ.2.1
def Txt.abf:=T.iQ.2.2.1
def Txt.H2:=T.iQ.2.2.2.1
def Txt.Yt:=T.iQ.2.2.2.2.1
def Txt.MR:=T.iQ.2.2.2.2.2.1
def Txt.RB:=T.iQ.2.2.2.2.2.2.1
def Txt.AY:=T.iQ.2.2.2.2.2.2.2.1
def Txt.afT:=T.iQ.2.2.2.2.2.2.2.2.1
def Txt.ET:=T.iQ.2.2.2.2.2.2.2.2.2.1
def Txt.Y':=T.iQ.2.2.2.2.2.2.2.2.2.2.1
def Txt.IY:=T.iQ.2.2.2.2.2.2.2.2.2.2.2.1
def Txt.agm:=T.iQ.2.2.2.2.2.2.2.2.2.2.2.2.1
def Txt.E7:=T.iQ.2.2.2.2.2.2.2.2.2.2.2.2.2.1
def Txt.XO:=T.iQ.2.2.2.2.2.2.2.2.2.2.2.2.2.2.1
def Txt.H6:=T.iQ.2.2.2.2.2.2.2.2.2.2.2.2.2.2.2.1
def Txt.Xq:=T.iQ.2.2.2.2.2.2.2.2.2.2.2.2.2.2.2.2.1
def Txt.JP:=T.iQ.2.2.2.2.2.2.2.2.2.2.2.2.2.2.2.2.2.1
def Txt.aen:=T.iQ.2.2.2.2.2.2.2.2.2.2.2.2.2.2.2.2.2.2.1
def Txt.Hx:=T.iQ.2.2.2.2.2.2.2.2.2.2.2.2.2.2.2.2.2.2.2
def Txt.Ii:=T.k'.1
def Txt.xN:=T.k'.2.1
def Txt.aeV:=T.k'.2.2.1
def Txt.Ht:=T.k'.2.2.2.1
def Txt.ajf:=T.k'.2.2.2.2.1
def Txt.Kf:=T.k'.2.2.2.2.2.1
def Txt.aiL:=T.k'.2.2.2.2.2.2.1
def Txt.agP:=T.k'.2.2.2.2.2.2.2.1
def Txt.PE:=T.k'.2.2.2.2.2.2.2.2.1
def Txt.OJ:=T.k'.2.2.2.2.2.2.2.2.2.2.1
def Txt.agA:=T.k'.2.2.2.2.2.2.2.2.2.2.2.1
def Txt.Wo:=T.k'.2.2.2.2.2.2.2.2.2.2.2.2.2.1
def Txt.Ui:=T.k'.2.2.2.2.2.2.2.2.2.2.2.2.2.2.2.1
def Txt.Q7:=T.k'.2.2.2.2.2.2.2.2.2.2.2.2.2.2.2.2.2.1
def Txt.Q4:=T.k'.2.2.2.2.2.2.2.2.2.2.2.2.2.2.2.2.2.2.2
def Txt.OX:=T.nA.2.1
def Txt.QJ:=T.nA.2.2.2.1
def Txt.QV:=T.nA.2.2.2.2.2.1
def Txt.acG:=T.nA.2.2.2.2.2.2.1
def Txt.TC:=T.nA.2.2.2.2.2.2.2.2.1
def Txt.Jo:=T.nA.2.2.2.2.2.2.2.2.2.1
def Txt.Si:=T.nA.2.2.2.2.2.2.2.2.2.2.2.1
def Txt.ajA:=T.nA.2.2.2.2.2.2.2.2.2.2.2.2.1
def Txt.Nq:=T.nA.2.2.2.2.2.2.2.2.2.2.2.2.2.2.1
def Txt.NB:=T.nA.2.2.2.2.2.2.2.2.2.2.2.2.2.2.2.2.1
def Txt.W7:=T.nA.2.2.2.2.2.2.2.2.2.2.2.2.2.2.2.2.2.2.1
def Txt.acg:=T.nA.2.2.2.2.2.2.2.2.2.2.2.2.2.2.2.2.2.2.2
def Txt.wn:=T.nP.2.1
def Txt.V8:=T.nP.2.2.2.1
def Txt.Qv:=T.nP.2.2.2.2.2.1
def Txt.XQ:=T.nP.2.2.2.2.2.2.1
def Txt.Qr:=T.nP.2.2.2.2.2.2.2.2.1
def Txt.R1:=T.nP.2.2.2.2.2.2.2.2.2.2.1
def Txt.PH:=T.nP.2.2.2.2.2.2.2.2.2.2.2.2.1
def Txt.akl:=T.nP.2.2.2.2.2.2.2.2.2.2.2.2.2.1
def Txt.PZ:=T.nP.2.2.2.2.2.2.2.2.2.2.2.2.2.2.2.1
def Txt.Rv:=T.nP.2.2.2.2.2.2.2.2.2.2.2.2.2.2.2.2.2.1
def Txt.Lq:=T.nP.2.2.2.2.2.2.2.2.2.2.2.2.2.2.2.2.2.2.2
def Txt.G9:=T.jr.2.1
def Txt.fT:=T.jr.2.2.1
def Txt.Z6:=T.jr.2.2.2.1
def Txt.DU:=T.jr.2.2.2.2.1
def Txt.UW:=T.jr.2.2.2.2.2.1
def Txt.I4:=T.jr.2.2.2.2.2.2.1
def Txt.re:=T.jr.2.2.2.2.2.2.2.1
def Txt.Gc:=T.jr.2.2.2.2.2.2.2.2.1
def Txt.Ve:=T.jr.2.2.2.2.2.2.2.2.2.1
def Txt.ahv:=T.jr.2.2.2.2.2.2.2.2.2.2.1
def Txt.Uv:=T.jr.2.2.2.2.2.2.2.2.2.2.2.1
def Txt.Js:=T.jr.2.2.2.2.2.2.2.2.2.2.2.2.1
def Txt.ku:=T.jr.2.2.2.2.2.2.2.2.2.2.2.2.2.1
def Txt.akf:=T.jr.2.2.2.2.2.2.2.2.2.2.2.2.2.2.1
def Txt.NP:=T.jr.2.2.2.2.2.2.2.2.2.2.2.2.2.2.2.1
def Txt.Of:=T.jr.2.2.2.2.2.2.2.2.2.2.2.2.2.2.2.2.1
def Txt.TK:=T.jr.2.2.2.2.2.2.2.2.2.2.2.2.2.2.2.2.2.1
def Txt.am:=T.jr.2.2.2.2.2.2.2.2.2.2.2.2.2.2.2.2.2.2.1
def Txt.Lr:=T.jr.2.2.2.2.2.2.2.2.2.2.2.2.2.2.2.2.2.2.2
def Txt.Vv:=T.jn.1
def Txt.Uo:=T.jn.2.1
def Txt.SU:=T.jn.2.2.1
def Txt.KR:=T.jn.2.2.2.2.1
def Txt.aec:=T.jn.2.2.2.2.2.1
def Txt.lv:=T.jn.2.2.2.2.2.2.1
def Txt.ae3:=T.jn.2.2.2.2.2.2.2.1
def Txt.Xs:=T.jn.2.2.2.2.2.2.2.2.1
def Txt.alv:=T.jn.2.2.2.2.2.2.2.2.2.1
def Txt.amm:=T.jn.2.2.2.2.2.2.2.2.2.2.1
def Txt.amb:=T.jn.2.2.2.2.2.2.2.2.2.2.2.1
def Txt.aj2:=T.jn.2.2.2.2.2.2.2.2.2.2.2.2.1
def Txt.adh:=T.jn.2.2.2.2.2.2.2.2.2.2.2.2.2.1
def Txt.aev:=T.jn.2.2.2.2.2.2.2.2.2.2.2.2.2.2.1
def Txt.GC:=T.jn.2.2.2.2.2.2.2.2.2.2.2.2.2.2.2.1
def Txt.aeb:=T.jn.2.2.2.2.2.2.2.2.2.2.2.2.2.2.2.2.1
def Txt.ad4:=T.jn.2.2.2.2.2.2.2.2.2.2.2.2.2.2.2.2.2.1
def Txt.ah_:=T.jn.2.2.2.2.2.2.2.2.2.2.2.2.2.2.2.2.2.2.1
def Txt.Yo:=T.jn.2.2.2.2.2.2.2.2.2.2.2.2.2.2.2.2.2.2.2
def Txt.adY:=T.iU.1
def Txt.am5:=T.iU.2.1
def Txt.alX:=T.iU.2.2.1
def Txt.amC:=T.iU.2.2.2.1
def Txt.ams:=T.iU.2.2.2.2.1
def Txt.Xx:=T.iU.2.2.2.2.2.1
def Txt.La:=T.iU.2.2.2.2.2.2.1
def Txt.Zx:=T.iU.2.2.2.2.2.2.2.1
def Txt.alJ:=T.iU.2.2.2.2.2.2.2.2.1
def Txt.ah2:=T.iU.2.2.2.2.2.2.2.2.2.1
def Txt.acT:=T.iU.2.2.2.2.2.2.2.2.2.2.1
def Txt.adj:=T.iU.2.2.2.2.2.2.2.2.2.2.2.1
def Txt.XF:=T.iU.2.2.2.2.2.2.2.2.2.2.2.2.1
def Txt.Xh:=T.iU.2.2.2.2.2.2.2.2.2.2.2.2.2.1
def Txt.Z':=T.iU.2.2.2.2.2.2.2.2.2.2.2.2.2.2.1
def Txt.agB:=T.iU.2.2.2.2.2.2.2.2.2.2.2.2.2.2.2.1
def Txt.Is:=T.iU.2.2.2.2.2.2.2.2.2.2.2.2.2.2.2.2.1
def Txt.h8:=T.iU.2.2.2.2.2.2.2.2.2.2.2.2.2.2.2.2.2.1
def Txt.aaZ:=T.iU.2.2.2.2.2.2.2.2.2.2.2.2.2.2.2.2.2.2.1
def Txt.GJ:=T.iU.2.2.2.2.2.2.2.2.2.2.2.2.2.2.2.2.2.2.2
def Txt.Oa:=T.js.1
def Txt.oH:=T.js.2.1
def Txt.WM:=T.js.2.2.1
def Txt.ul:=T.js.2.2.2.1
def Txt.bi:=T.js.2.2.2.2.1
def Txt.acd:=T.js.2.2.2.2.2.1
def Txt.ZB:=T.js.2.2.2.2.2.2.1
def Txt.X7:=T.js.2.2.2.2.2.2.2.1
def Txt.TO:=T.js.2.2.2.2.2.2.2.2.1
def Txt.UQ:=T.js.2.2.2.2.2.2.2.2.2.1
def Txt.aa8:=T.js.2.2.2.2.2.2.2.2.2.2.2.1
def Txt.Rr:=T.js.2.2.2.2.2.2.2.2.2.2.2.2.1
def Txt.N5:=T.js.2.2.2.2.2.2.2.2.2.2.2.2.2.1
def Txt.Ro:=T.js.2.2.2.2.2.2.2.2.2.2.2.2.2.2.1
def Txt.Kq:=T.js.2.2.2.2.2.2.2.2.2.2.2.2.2.2.2.1
def Txt.ail:=T.js.2.2.2.2.2.2.2.2.2.2.2.2.2.2.2.2.1
def Txt.abh:=T.js.2.2.2.2.2.2.2.2.2.2.2.2.2.2.2.2.2.1
def Txt.Y4:=T.js.2.2.2.2.2.2.2.2.2.2.2.2.2.2.2.2.2.2.1
def Txt.afv:=T.js.2.2.2.2.2.2.2.2.2.2.2.2.2.2.2.2.2.2.2
def Txt.aih:=T.i9.1
def Txt.afJ:=T.i9.2.1
def Txt.aek:=T.i9.2.2.1
def Txt.ajh:=T.i9.2.2.2.1
def Txt.abR:=T.i9.2.2.2.2.1
def Txt.ahe:=T.i9.2.2.2.2.2.1
def Txt.amR:=T.i9.2.2.2.2.2.2.1
def Txt.al0:=T.i9.2.2.2.2.2.2.2.1
def Txt.aft:=T.i9.2.2.2.2.2.2.2.2.1
def Txt.acn:=T.i9.2.2.2.2.2.2.2.2.2.1
def Txt.akm:=T.i9.2.2.2.2.2.2.2.2.2.2.1
def Txt.afb:=T.i9.2.2.2.2.2.2.2.2.2.2.2.1
def Txt.amT:=T.i9.2.2.2.2.2.2.2.2.2.2.2.2.1
def Txt.afB:=T.i9.2.2.2.2.2.2.2.2.2.2.2.2.2.1
def Txt.YC:=T.i9.2.2.2.2.2.2.2.2.2.2.2.2.2.2.1
def Txt.YM:=T.i9.2.2.2.2.2.2.2.2.2.2.2.2.2.2.2.1
def Txt.Wr:=T.i9.2.2.2.2.2.2.2.2.2.2.2.2.2.2.2.2.1
def Txt.S5:=T.i9.2.2.2.2.2.2.2.2.2.2.2.2.2.2.2.2.2.1
def Txt.ZF:=T.i9.2.2.2.2.2.2.2.2.2.2.2.2.2.2.2.2.2.2.1
def Txt.alc:=T.i9.2.2.2.2.2.2.2.2.2.2.2.2.2.2.2.2.2.2.2
def Txt.adQ:=T.l1.1
def Txt.alk:=T.l1.2.1
def Txt.Tk:=T.l1.2.2.1
def Txt.zG:=T.l1.2.2.2.1
def Txt.ac2:=T.l1.2.2.2.2.1
def Txt.fG:=T.l1.2.2.2.2.2.1
def Txt.aa_:=T.l1.2.2.2.2.2.2.1
def Txt.t2:=T.l1.2.2.2.2.2.2.2.1
def Txt.hA:=T.l1.2.2.2.2.2.2.2.2.1
def Txt.yF:=T.l1.2.2.2.2.2.2.2.2.2.1
def Txt.M3:=T.l1.2.2.2.2.2.2.2.2.2.2.1
def Txt.Jx:=T.l1.2.2.2.2.2.2.2.2.2.2.2.1
def Txt.aaE:=T.l1.2.2.2.2.2.2.2.2.2.2.2.2.1
def Txt.alE:=T.l1.2.2.2.2.2.2.2.2.2.2.2.2.2
theorem Txt.NG:b3 K t.Ps BE []:=T.AB.binds fun _ _ _ _ _ _=>gN fun _ _ _=>rfl
theorem Txt.tz:b3 K t.F6 Aj []:=T.EZ.binds fun _ _ _ _ _ _=>gN fun _ _ _=>rfl
theorem Txt.W8:b3 K t.DI rG []:=T.Ad.binds fun _ _ _ _ _ _=>gN fun _ _ _=>rfl
theorem Txt.FS:b3 K t.Cg rG []:=T.JR.binds fun _ _ _ _ _ _=>gN fun _ _ _=>rfl
theorem Txt.ajk:b3 K t.Ce ["text"] []:=T.SB.binds fun _ _ _ _ _ _=>jR fun _=>rfl
theorem Txt.Ww:b3 K t.EJ wd []:=T.Ay.binds fun _ _ _ _ _ _=>gN fun _ _ _=>rfl
theorem Txt.abW:b3 K t.Fk BC []:=T.io.binds fun _ _ _ _ _ _=>hi fun _ _=>rfl
theorem Txt.aae:b3 K t.F0 E9 []:=T.Gp.binds fun _ _ _ _ _ _=>gN fun _ _ _=>rfl
theorem Txt.anK:b3 K t.GY ["word"] []:=T.Hy.binds fun _ _ _ _ _ _=>jR fun _=>rfl
theorem Txt.SA:b3 K t.xo ["text"] []:=T.BJ.binds fun _ _ _ _ _ _=>jR fun _=>rfl
theorem Txt.Kc:b3 K t.Ff zI []:=T.xE.binds fun _ _ _ _ _ _=>hi fun _ _=>rfl
theorem Txt.MF:b3 K t.Lj ["members"] []:=T.wc.binds fun _ _ _ _ _ _=>jR fun _=>rfl
theorem Txt.ajQ:b3 K t.M6 GF []:=T.Fg.binds fun _ _ _ _ _ _=>gN fun _ _ _=>rfl
theorem Txt.Ph:b3 K t.Gn kZ []:=T.Di.binds fun _ _ _ _ _ _=>hi fun _ _=>rfl
theorem Txt.Ev:b3 K t.G5 H7 []:=T.KY.binds fun _ _ _ _ _ _=>gN fun _ _ _=>rfl
theorem Txt.als:b3 K t.CY A1 []:=T.KP.binds fun _ _ _ _ _ _=>gN fun _ _ _=>rfl
theorem Txt.lw:b3 K t.B5 kZ []:=T.MM.binds fun _ _ _ _ _ _=>hi fun _ _=>rfl
theorem Txt.ahd:b3 K t.Cb kZ []:=T.Iv.binds fun _ _ _ _ _ _=>hi fun _ _=>rfl
theorem Txt.akA:b3 K t.DP kZ []:=T.K8.binds fun _ _ _ _ _ _=>hi fun _ _=>rfl
theorem Txt.Ix:b3 K t.xV yv []:=T.I2.binds fun _ _ _ _ _ _=>hi fun _ _=>rfl
theorem Txt.Wx:b3 K t.No Br []:=T.Bx.binds fun _ _ _ _ _ _=>hi fun _ _=>rfl
theorem Txt.IJ:b3 K t.Ac vW []:=T.y6.binds fun _ _ _ _ _ _=>gN fun _ _ _=>rfl
theorem Txt.ahr:b3 K t.Fi kl []:=T.G4.binds fun _ _ _ _ _ _=>hi fun _ _=>rfl
theorem Txt.amH:b3 K t.IG kl []:=T.Hs.binds fun _ _ _ _ _ _=>hi fun _ _=>rfl
theorem Txt.ahQ:b3 K t.K_ BS []:=T.IH.binds fun _ _ _ _ _ _=>gN fun _ _ _=>rfl
theorem Txt.FL:b3 K t.tM uG []:=T.uW.binds fun _ _ _ _ _ _=>Nv fun _ _ _ _=>rfl
theorem Txt.anH:b3 K t.DS kl []:=T.K6.binds fun _ _ _ _ _ _=>hi fun _ _=>rfl
theorem Txt.QE:b3 K t.BF kl []:=T.EF.binds fun _ _ _ _ _ _=>hi fun _ _=>rfl
theorem Txt.GE:b3 K t.xj ze []:=T.Ca.binds fun _ _ _ _ _ _=>gN fun _ _ _=>rfl
theorem Txt.UR:b3 K t.G3 IU []:=T.AK.binds fun _ _ _ _ _ _=>Nv fun _ _ _ _=>rfl
theorem Txt.Xj:b3 K t.wp MO []:=T.MX.binds fun _ _ _ _ _ _=>gN fun _ _ _=>rfl
theorem Txt.aa6:b3 K t.AE Bk []:=T.im.binds fun _ _ _ _ _ _=>gN fun _ _ _=>rfl
theorem Txt.UM:b3 K t.te u0 []:=T.y5.binds fun _ _ _ _ _ _=>hi fun _ _=>rfl
theorem Txt.aeD:b3 K t.zU ["reader"] []:=T.Ng.binds fun _ _ _ _ _ _=>jR fun _=>rfl
theorem Txt.bv:b3 K t.Lm JE []:=T.ii.binds fun _ _ _ _ _ _=>hi fun _ _=>rfl
theorem Txt.aeH:b3 K t.Tm B0 []:=T.EM.binds fun _ _ _ _ _ _=>gN fun _ _ _=>rfl
theorem Txt.aiG:b3 K t.Lk Ez []:=T.F2.binds fun _ _ _ _ _ _=>Ax fun _ _ _ _ _ _ _=>rfl
theorem Txt.ZR:b3 K t.AX An []:=T.LY.binds fun _ _ _ _ _ _=>gN fun _ _ _=>rfl
theorem Txt.afL:b3 K t.Es ["text"] []:=T.Mc.binds fun _ _ _ _ _ _=>jR fun _=>rfl
theorem Txt.gr:b3 K t.xF zp []:=T.fF.binds fun _ _ _ _ _ _=>gN fun _ _ _=>rfl
theorem Txt.akn:b3 K t.Im GQ []:=T.FG.binds fun _ _ _ _ _ _=>hi fun _ _=>rfl
theorem Txt.ak1:b3 K t.dl Ct []:=T.H2.binds fun _ _ _ _ _ _=>hi fun _ _=>rfl
theorem Txt.amY:b3 K t.AJ BI []:=T.MR.binds fun _ _ _ _ _ _=>hi fun _ _=>rfl
theorem Txt.Wc:b3 K t.Eh Dx []:=T.AY.binds fun _ _ _ _ _ _=>gN fun _ _ _=>rfl
theorem Txt.alT:b3 K t.JH Fb []:=T.ET.binds fun _ _ _ _ _ _=>gN fun _ _ _=>rfl
theorem Txt.ai5:b3 K t.zV Bm []:=T.IY.binds fun _ _ _ _ _ _=>gN fun _ _ _=>rfl
theorem Txt.ZH:b3 K t.CG AR []:=T.E7.binds fun _ _ _ _ _ _=>hi fun _ _=>rfl
theorem Txt.ans:b3 K t.A7 oJ []:=T.H6.binds fun _ _ _ _ _ _=>jR fun _=>rfl
theorem Txt.YA:b3 K t.CD oJ []:=T.JP.binds fun _ _ _ _ _ _=>jR fun _=>rfl
theorem Txt.agO:b3 K t.z6 CN []:=T.Hx.binds fun _ _ _ _ _ _=>ZE fun _ _ _ _ _=>rfl
theorem Txt.M5:b3 K t.JN zQ []:=T.xN.binds fun _ _ _ _ _ _=>gN fun _ _ _=>rfl
theorem Txt.aaN:b3 K t.Gv MB []:=T.Ht.binds fun _ _ _ _ _ _=>gN fun _ _ _=>rfl
theorem Txt.YI:b3 K t.A_ Cx []:=T.Kf.binds fun _ _ _ _ _ _=>hi fun _ _=>rfl
theorem Txt.abM:b3 K t.Bu jk []:=T.OJ.binds fun _ _ _ _ _ _=>hi fun _ _=>rfl
theorem Txt.ane:b3 K t.wf x3 []:=T.Wo.binds fun _ _ _ _ _ _=>gN fun _ _ _=>rfl
theorem Txt.C6:b3 K t.Gb ["self"] []:=T.Ui.binds fun _ _ _ _ _ _=>jR fun _=>rfl
theorem Txt.OO:b3 K t.HJ ["self"] []:=T.Q7.binds fun _ _ _ _ _ _=>jR fun _=>rfl
theorem Txt.K3:b3 K t.Mf A9 []:=T.Q4.binds fun _ _ _ _ _ _=>hi fun _ _=>rfl
theorem Txt.v9:b3 K t.JW JG []:=T.OX.binds fun _ _ _ _ _ _=>hi fun _ _=>rfl
theorem Txt.rS:b3 K t.Fs Fd []:=T.QJ.binds fun _ _ _ _ _ _=>gN fun _ _ _=>rfl
theorem Txt.Pi:b3 K t.HE ["self"] []:=T.QV.binds fun _ _ _ _ _ _=>jR fun _=>rfl
theorem Txt.Z9:b3 K t.Bq B6 []:=T.TC.binds fun _ _ _ _ _ _=>gN fun _ _ _=>rfl
theorem Txt.JL:b3 K t.Mh CU []:=T.Si.binds fun _ _ _ _ _ _=>Zn fun _ _ _ _ _ _ _ _=>rfl
theorem Txt.Xy:b3 K t.C4 kY []:=T.Nq.binds fun _ _ _ _ _ _=>Ax fun _ _ _ _ _ _ _=>rfl
theorem Txt.aeo:b3 K t.Fy ["self"] []:=T.NB.binds fun _ _ _ _ _ _=>jR fun _=>rfl
theorem Txt.ag_:b3 K t.Kk ["self"] []:=T.W7.binds fun _ _ _ _ _ _=>jR fun _=>rfl
theorem Txt.aim:b3 K t.DR kY []:=T.wn.binds fun _ _ _ _ _ _=>Ax fun _ _ _ _ _ _ _=>rfl
theorem Txt.am4:b3 K t.Lh ["self"] []:=T.V8.binds fun _ _ _ _ _ _=>jR fun _=>rfl
theorem Txt.aeF:b3 K t.L4 ["self"] []:=T.Qv.binds fun _ _ _ _ _ _=>jR fun _=>rfl
theorem Txt.wv:b3 K t.Aa kY []:=T.Qr.binds fun _ _ _ _ _ _=>Ax fun _ _ _ _ _ _ _=>rfl
theorem Txt.X4:b3 K t.I8 ["self"] []:=T.R1.binds fun _ _ _ _ _ _=>jR fun _=>rfl
theorem Txt.al1:b3 K t.HP ["self"] []:=T.PH.binds fun _ _ _ _ _ _=>jR fun _=>rfl
theorem Txt.Zd:b3 K t.zD CW []:=T.PZ.binds fun _ _ _ _ _ _=>gN fun _ _ _=>rfl
theorem Txt.J5:b3 K t.Ag ["self"] []:=T.Rv.binds fun _ _ _ _ _ _=>jR fun _=>rfl
theorem Txt.U6:b3 K t.y9 jk []:=T.Lq.binds fun _ _ _ _ _ _=>hi fun _ _=>rfl
theorem Txt.pT:b3 K t.si jk []:=T.G9.binds fun _ _ _ _ _ _=>hi fun _ _=>rfl
theorem Txt.Dq:ny K t.mu:=aiX T.X7 T.TO
end
noncomputable def dw (ns:List Int) (k m:Int):Int:=
 ((((if 0 < (ns.length:Int) then ns.getD (k % (ns.length:Int)).toNat 0 else 0) % 1000003 + 31 * k * k + 1) * 48271 % 999983 * 7919) % 524287) % m
theorem hF (ns:List Int) (k:Int) {m:Int} (h:0 < m):0 <= dw ns k m:=vE _ (by omega)
theorem hK (ns:List Int) (k:Int) {m:Int} (h:0 < m):dw ns k m < m:=uN _ h
def jJ (K:bc) (a:Addr) (ns:List Int):bO:=fun vs H Q _=>∃ k m,vs=[.ref a,.int k,.int m]/\Sc K a ns H/\(0 <= k/\k < 1000000)/\0 < m/\Q (.int (dw ns k m)) H
variable {P:Program} {w:World} {K:bc} {mg:Str->Option Value} {base:Heap} {t:b6}
abbrev cu (P:Program) (base:Heap) {w:World} {K:bc} {mg:Str->Option Value} {t:b6} (_:Txt w K mg t):=bV P w K mg base c9
variable (T:Txt w K mg t)
theorem Fo (a:Addr) (ns:List Int) (il:ns.length <= 63):cu P base T 1 t.Re t.xF zp (jJ K a ns):=by
 exists T.fF.ok tQ,9
 obtain ⟨k,m,rfl,S,⟨h0,ab⟩,hm,q⟩:=h;refine ⟨_,(aQ (bX (i:=3) tQ.aB (CS (c5 pF (ep fV rfl T.fG fJ (db (U 0) av)) aJ (cF _)) (bl b0 (U 0) (bG jj (U 1) (ep fV rfl T.fG fJ (db (U 0) av)))) aJ))
   (aQ (bX (i:=4) tQ.aB (bG er (bG er (bG jj (U 3) aJ) (bG lD (bG lD aJ (U 1)) (U 1))) aJ))
   (a3 (cc (bG jj (bG jj (bG lD (bG jj (bG lD (U 4) aJ) aJ) aJ) aJ) (U 2)))))),?_⟩
 nofun;refine ⟨_,.inl S.seq,?_⟩;rw [aR];have abg:(0:Int) <= k * k/\k * k < 1000000 * 1000000:=⟨afY h0 h0,aiB (by omega) ab h0 (by decide)⟩;have fin:∀ i:Int,(0:Int) < 1000003/\nR 31 k/\nR (31 * k) k/\nR (i % 1000003 + 31 * k * k + 1) 48271/\(0:Int) < 999983/\nR ((i % 1000003 + 31 * k * k + 1) * 48271 % 999983) 7919/\(0:Int) < 524287/\0 < m:=by
  intro i;refine ⟨by decide,.inl (by decide),.inr (by omega),.inr (by decide),by decide,.inr (by decide),by decide,hm⟩
 by_cases c:(0:Int) < (ns.length:Int)
 .rw [if_pos (decide_eq_true c)];have aE:0 <= k % (ns.length:Int)/\k % (ns.length:Int) < (ns.length:Int):=⟨vE _ (by omega),uN _ c⟩;refine ⟨_,.inl S.seq,by rw [aR];exact c,_,S.seq,?_⟩;rw [aR];have aN:(k % (ns.length:Int)).toNat < ns.length:=by omega
  refine ⟨.int ns[(k % (ns.length:Int)).toNat],?_,_,rfl,?_⟩
  .have e:=bA (xs:=ns.map V.int) (j:=(k % (ns.length:Int)).toNat) (v:=.int ns[(k % (ns.length:Int)).toNat]) (by rw [cV,a_ aN] <;> rfl);rwa [r4 aE.1] at e
  .obtain ⟨f1,f2,fw,f4,f7,oe,mi,f8⟩:=fin ns[(k % (ns.length:Int)).toNat];refine ⟨f1,f2,fw,f4,f7,oe,mi,f8,?_⟩;have e:dw ns k m=(((ns[(k % (ns.length:Int)).toNat] % 1000003 + 31 * k * k + 1) * 48271 % 999983 * 7919) % 524287) % m:=by
    unfold dw;rw [if_pos c,lJ,a_ aN];rfl
   rw [<- e];exact q
 .rw [if_neg (by simpa using c)];obtain ⟨f1,f2,fw,f4,f7,oe,mi,f8⟩:=fin 0;refine ⟨f1,f2,fw,f4,f7,oe,mi,f8,?_⟩;have e:dw ns k m=(((0 % 1000003 + 31 * k * k + 1) * 48271 % 999983 * 7919) % 524287) % m:=by
   unfold dw;rw [if_neg c]
  rw [<- e];exact q
theorem zS {w:Str}:w=ah "" ↔ w.length=0:=by
 constructor
 .rintro rfl;ac_nf
 .intro h;have e:w.cps=#[]:=Array.eq_empty_of_size_eq_zero h;have aC:(ah "").cps=#[]:=by ac_nf
  cases w;cases ai:ah "";rw [ai] at aC;simp only at e aC;rw [e,aC]
noncomputable def tS (eY:Str) (c:Nat):Bool:=!(sV eY (jO c) 0 eY.length 1).isEmpty
theorem JM (eY:Str) (c:Nat):tS eY c=decide (c ∈ eY.cps.toList):=StrLaws.found_one eY c
noncomputable def made (w eY:Str) (m:Int):Bool:=if w=ah "" then false else if m < (w.length:Int) then false else w.cps.toList.all (tS eY)
def EI:bO:=fun vs H Q _=>∃ w eY m,vs=[.str w,.str eY,.int m]/\w.length <= 1000/\aL H/\Q (.bw (made w eY m)) H
def abl:bO:=fun vs H Q _=>∃ w eY m,vs=[.str w,.str eY,.int m]/\w.length <= 1000/\∀ I,aH H I->Q (.bw (made w eY m)) I
theorem WA:cu P base T 1 t.MH t.EJ wd EI:=by
 refine bV.forget (sp:=abl) ?_ fun vs H Q E h=>?_
 .exists T.Ay.ok adN,9
  obtain ⟨w,eY,m,rfl,aF,q⟩:=h;have hR:w.length <= sizeLine:=cq aF (by decide);refine ⟨_,(aQ (dW (fW.pt (vA (c5 eQ (U 0) dy (cF _)) (wB (c5 pF (ep adO rfl T.fG fJ (db (U 0) av)) (U 2) (cF _))))) (a3 (cc oZ)) ec)
   (a3 (cc (ep (ai7 rfl) rfl T.adQ ajw (db (gy rfl (aeZ (U 0)) (fy (sc:=bt Tl) rfl (by ac_nf)) (N:=["sign","signs"]) (sel:=[none,some 1]) (fs (M:=wd) (by ac_nf)) (eT.of (fun _ _ _ _=>(b5 (i:=0) (dX (N:=["sign","signs"]) (by ac_nf) rfl))) (fun _ _ _ _=>⟨_,gV,by walk_at "B"⟩) (fun _ _ _ _=>⟨_,(hx Xu (U 0) (U 1) (by with_unfolding_all rfl)),by walk_at "B"⟩))) av))))),?_⟩
  nofun;refine cP (decide (w=ah "") || decide (m < (w.length:Int))) (fun Q aX=>?_) (fun ae=>?_) (fun ae=>?_)
  .nofun;by_cases c:w=ah ""
   .rw [if_pos (decide_eq_true c)];rw [decide_eq_true c,t4] at aX;exact aX
   .rw [if_neg (by simpa using c)];rw [decide_eq_false c,pd] at aX;exact ⟨hR,aX⟩
  .nofun;have e:made w eY m=false:=by
    unfold made;simp only [y3,decide_eq_true_eq] at ae;by_cases c:w=ah ""
    .rw [if_pos c]
    .rw [if_neg c,if_pos (ae.resolve_left c)]
   have:=q H (aH.refl H);rw [e] at this;exact this
  .nofun;have e:made w eY m=w.cps.toList.all (tS eY):=by
    unfold made;simp only [BQ,decide_eq_false_iff_not] at ae;rw [if_neg ae.1,if_neg ae.2]
   refine cX.afU (fun x=>match x with | .str y=>.bw (!(sV eY y 0 eY.length 1).isEmpty) | _=>.cg) (by rw [P7];exact hR) (fun i x N af bb=>?_) (fun p aq=>?_)
   .unfold ox at af;rw [cV] at af;cases ar:w.cps.toList[i]? with
    | none=>rw [ar] at af;cases af
    | some c=>
     rw [ar] at af;have e7:V.str (jO c)=x:=eL af;subst e7;nofun;exact ⟨Sub.name,bb⟩
   .refine ⟨p,rfl,w.cps.toList.map (tS eY),ak.of ?_,?_⟩
    .rw [aS];unfold ox;rw [oS,oS];rfl
    .have:=q (upd H p (.lst (p8 (fun x=>match x with | .str y=>.bw (!(sV eY y 0 eY.length 1).isEmpty) | _=>.cg) (ox w)))) (a' aq);rw [e] at this;rw [List.all_map];exact this
 .obtain ⟨w,eY,m,e,aF,bC,q⟩:=h;exact ⟨bC,w,eY,m,e,aF,fun I bu=>⟨bu,q⟩⟩
noncomputable abbrev tI:Str:=ah "0123456789"
noncomputable def nB (c:Nat):Bool:=decide (48 <= c/\c <= 57)
theorem aeI (c:Nat):tS tI c=nB c:=by
 rw [JM,show tI.cps.toList=List.range' 48 10 by ac_nf];unfold nB;refine decide_eq_decide.mpr ?_;rw [List.mem_range'_1];exact and_congr_right fun _=>show c < 58↔c <= 57 from Nat.lt_succ_iff
noncomputable abbrev cs (w:Str):List Nat:=w.cps.toList
theorem IS (w:Str):(cs w).length=w.length:=by simp [cs,uY]
noncomputable def kN (w:Str):Bool:=decide (1 <= (cs w).length) && decide ((cs w).length <= 3) && (cs w).all nB && (decide ((cs w).length <= 1) || decide ((cs w).headD 0 ≠ 48))
noncomputable abbrev val (w:Str):Int:=((VV (cs w):Nat):Int)
noncomputable def jf (w:Str) (lo ag:Int):V:=if kN w && !(decide (val w < lo) || decide (ag < val w)) then .int (val w) else .cg
theorem Wd {w:Str}:w=⟨#[c]⟩↔cs w=[c]:=by
 constructor
 .rintro rfl;rfl
 .intro h;cases w with
  | mk a=>
   have e:a=#[c]:=VJ.mp h;rw [e]
theorem I9:ah "0"=⟨#[48]⟩:=by ac_nf
theorem Vm (w:Str):made w tI 3=(decide (1 <= (cs w).length) && decide ((cs w).length <= 3) && (cs w).all nB):=by
 unfold made;have e:(tS tI)=nB:=funext aeI;rw [e];by_cases ab:w=ah ""
 .have ai:=zS.mp ab;rw [if_pos ab,IS,ai];rfl
 .have ai:¬ w.length=0:=fun z=>ab (zS.mpr z)
  rw [if_neg ab,IS];by_cases a5:(3:Int) < (w.length:Int)
  .rw [if_pos a5,decide_eq_false (show ¬ w.length <= 3 by omega),abJ,uZ]
  .rw [if_neg a5,decide_eq_true (show 1 <= w.length by omega),decide_eq_true (show w.length <= 3 by omega)];rfl
theorem Yy (h:l.all nB=true):NumText.AllDigits l:=fun c ar=>by
 have:=sl.mp h c ar;simpa [nB] using this
theorem agZ {w:Str} (h:kN w=true):(1 <= (cs w).length/\(cs w).length <= 3)/\(cs w).all nB=true:=by
 unfold kN at h;simp only [jX,decide_eq_true_eq] at h;exact h.1
def Tn:bO:=fun vs H Q _=>∃ w,vs=[.str w,.int 3]/\w.length <= 1000/\aL H/\Q (.bw (kN w)) H
def YD:bO:=fun vs H Q _=>∃ w lo ag,vs=[.str w,.int lo,.int ag]/\w.length <= 1000/\aL H/\Q (jf w lo ag) H
theorem ahR:cu P base T 2 t.M_ t.Fk BC Tn:=by
 refine cR (WA T) fun Gw=>?_;exists T.io.ok acK,9
 obtain ⟨w,rfl,aF,bC,q⟩:=h;have hR:w.length <= sizeLine:=cq aF (by decide);refine ⟨_,(aQ (dW (x6 (o1 (bS Gw aj T.TN T.Ay.bj T.Ww (db (U 0) (db (mF rfl T.ail T.abh) (db (U 1) av)))))) (a3 (cc oZ)) ec)
   (a3 (cc (N3 (hx eQ (U 0) dy (cF _)) (vp (hx mz (bl KO (U 0) aJ) dy (cF _))))))),?_⟩
 refine cP (!made w tI 3) (fun Q aX=>?_) (fun ae=>?_) (fun ae=>?_)
 ·(nofun; repeat (dsimp only [EI];nofun));exact ⟨aF,bC,aX⟩
 .nofun;have e:kN w=false:=by
   have fD:made w tI 3=false:=by simpa using ae
   rw [Vm] at fD;unfold kN;rw [fD];rfl
  rw [e] at q;exact q
 .have fD:made w tI 3=true:=by simpa using ae
  rw [Vm] at fD;rw [f'];dsimp only;refine ali (.bw (kN w)) (fun Q aX=>?_) ?_
  case refine_2=>exact q
  nofun;have jt:(1 <= (cs w).length/\(cs w).length <= 3)/\(cs w).all nB=true:=by
   simpa only [jX,decide_eq_true_eq] using fD
  obtain ⟨c,r,Kz⟩:∃ c r,cs w=c :: r:=by
   cases h:cs w with
   | nil=>rw [h] at jt;exact absurd jt.1.1 (by decide)
   | cons c r=>exact ⟨c,r,rfl⟩
  have ok:kN w=(decide ((cs w).length <= 1) || decide ((cs w).headD 0 ≠ 48)):=by
   unfold kN;rw [fD,rZ]
  by_cases ct:w=ah "0"
  .rw [if_pos (decide_eq_true ct)];have e:cs w=[48]:=by rw [ct,I9]
   rw [ok,e] at aX;exact aX
  .rw [if_neg (by simpa using ct)];refine ⟨hR,c,?_,?_⟩
   .have:=bA (xs:=cs w) (j:=0) (v:=c) (by rw [Kz];rfl);exact this
   .have aC:decide ((⟨#[c]⟩:Str)=ah "0")=decide (c=48):=by
     rw [I9];by_cases q_:c=48
     .rw [q_];simp
     .rw [decide_eq_false q_,decide_eq_false];intro z;have dH:=Wd.mp z;exact q_ (q2 dH).1
    rw [aC];have bJ:kN w = !decide (c=48):=by
     rw [ok,Kz];show (decide ((c :: r).length <= 1) || decide (c ≠ 48))=_;by_cases q_:c=48
     .have aj:r ≠ []:=fun z=>ct (by rw [I9];exact Wd.mpr (by rw [Kz,z,q_]))
      have:¬ (c :: r).length <= 1:=by
       cases r with
       | nil=>exact absurd rfl aj
       | cons d r=>simp
      rw [decide_eq_false this,q_];rfl
     .rw [decide_eq_true q_,Hj,decide_eq_false q_];rfl
    rw [<- bJ];exact aX
theorem afy:cu P base T 3 t.HT t.F0 E9 YD:=by
 refine cR (ahR T) fun acE=>?_;exists T.Gp.ok T8,9
 obtain ⟨w,lo,ag,rfl,aF,bC,q⟩:=h;refine ⟨_,(aQ (dW (x6 (o1 (bS acE aj T.agV T.io.bj T.abW (db (U 0) (db (mF rfl T.aek T.ajh) av))))) (a3 (cc L3)) ec)
   (aQ (bX (i:=3) T8.aB (oN agw rfl T.zG AV (db (U 0) av)))
   (aQ (dW (fW.pt (vA (c5 pv (U 3) (U 1) (cF _)) (wB (c5 pF (U 3) (U 2) (cF _))))) (a3 (cc L3)) ec)
   (a3 (cc (U 3)))))),?_⟩
 refine cP (!kN w) (fun Q aX=>?_) (fun ae=>?_) (fun ae=>?_)
 ·(nofun; repeat (dsimp only [Tn];nofun));exact ⟨aF,bC,aX⟩
 .nofun;have fD:kN w=false:=by simpa using ae
  have e:jf w lo ag=.cg:=by unfold jf;rw [fD];rfl
  rw [e] at q;exact q
 .have fD:kN w=true:=by simpa using ae
  have a5:(1 <= (cs w).length/\(cs w).length <= 3)/\(cs w).all nB=true:=by
   have:=fD;unfold kN at this;simp only [jX,decide_eq_true_eq] at this;exact this.1
  have aD:=IS w;have fR:intText? w=some (val w):=intText_digits (Yy a5.2) (fun z=>by have gn:cs w=[]:=z;rw [gn] at a5;exact absurd a5.1.1 (by decide)) (by omega);nofun;refine ⟨val w,fR,by omega,?_⟩;refine cP (decide (val w < lo) || decide (ag < val w)) (fun Q aX=>?_) (fun ar=>?_) (fun ar=>?_)
  .nofun;by_cases c:val w < lo
   .rw [if_pos (decide_eq_true c)];rw [decide_eq_true c,t4] at aX;exact aX
   .rw [if_neg (by simpa using c)];rw [decide_eq_false c,pd] at aX;exact aX
  .nofun;have e:jf w lo ag=.cg:=by unfold jf;rw [fD,ar];rfl
   rw [e] at q;exact q
  .nofun;have e:jf w lo ag=.int (val w):=by unfold jf;rw [fD,ar];rfl
   rw [e] at q;exact q
theorem FH (h:n < 1000):n.log2 < 1920:=by
 by_cases h0:n=0
 .subst h0;decide
 .rw [ad' h0];exact ho h (cq (show 1000 <= 2 ^ 10 by decide) (Nat.pow_le_pow_right (by decide) (by decide)))
theorem Zg:∀ n,n < 1000->(t_ 10 n).length <= 3:=by ac_nf
theorem yL {n:Int} (h0:0 <= n) (ab:n <= 999):(ah (toString n)).length <= 3:=by
 have e:=Zq n.toNat;rw [r4 h0] at e;have l:(ah (toString n)).length=(ah (toString n)).cps.toList.length:=by simp [uY]
 rw [l,e,aR];exact Zg _ (by omega)
noncomputable abbrev mq:Str:=ah "abcdefghijklmnopqrstuvwxyz"
def Xc:bO:=fun vs H Q _=>∃ w,vs=[.str w]/\w.length <= 1000/\aL H/\Q (.bw (made w mq 8)) H
theorem ak4:cu P base T 2 t.Hn t.GY ["word"] Xc:=by
 refine cR (WA T) fun Gw=>?_;exists T.Hy.ok adC,9
 obtain ⟨w,rfl,aF,bC,q⟩:=h;refine ⟨_,(a3 (cc (bS Gw aj T.TN T.Ay.bj T.Ww (db (U 0) (db (mF rfl T.aih T.afJ) (db (mF rfl T.amR T.al0) av)))))),?_⟩;(nofun; repeat (dsimp only [EI];nofun));exact ⟨aF,bC,q⟩
noncomputable abbrev nl:Str:=ah "\n"
noncomputable abbrev cI:Str:=ah " "
theorem ai4:nl=⟨#[10]⟩:=by ac_nf
theorem Dz:cI=⟨#[32]⟩:=by ac_nf
noncomputable def ht (x:Str):List (List Str):=(iM x nl).map fun r=>iM r cI
theorem PK:∀ {ys:List Str} {y:Str},y ∈ ys->y.length <= (ys.map (·.length)).sum
 | [],_,h=>nomatch h
 | a :: r,y,h=>by
  rw [eB,nr];rcases d9.mp h with rfl | h
  .omega
  .have:=PK h;omega
theorem ady {x y r:Str} (aU:1 <= y.length) (h:r ∈ iM x y):r.length <= x.length + 1:=by
 have ab:=amM x y aU;have ai:=PK h;omega
theorem IE {x y:Str} (aU:1 <= y.length):(iM x y).length <= x.length + 1:=by
 have ab:=amM x y aU;omega
theorem ajj (x y:Str):iM x y ≠ []:=by
 unfold iM;split
 .simp
 .split
  .simp
  .rw [StrLaws.partsBetween_eq];obtain ⟨p,r,e⟩:=StrLaws.partsFrom_ne x y.length 0 (sV x y 0 x.length (x.length + 1));rw [e];simp
def mL (jQ H:au) (p:Addr) (rows:List (List Str)):Prop:=∃ qs:List Addr,H p=some (.lst (qs.map V.ref))/\jQ p=none/\p ∉ qs/\qs.length=rows.length/\∀ (i:Nat) (q:Addr) (r:List Str),qs[i]? = some q->rows[i]? = some r->H q=some (.lst (ba r))/\jQ q=none
def Tf:bO:=fun vs H Q _=>∃ x,vs=[.str x]/\x.length <= 20000/\aL H/\∀ p I,aH H I->aL I->mL H I p (ht x)->Q (.ref p) I
theorem zw:nl.length=1:=by ac_nf
theorem rh:cI.length=1:=by ac_nf
theorem adV:cu P base T 1 t.Em t.Ce ["text"] Tf:=by
 exists T.SB.ok XX,9
 obtain ⟨x,rfl,aF,bC,q⟩:=h;have i_:∀ n:Nat,n <= 40000->n <= sizeLine:=fun n h=>cq h (by decide)
 refine ⟨_,(a3 (cc (gy rfl (eZ (ef r2 CF alZ Py (U 0) (db dy av))) (fy (sc:=bt Lu) rfl (by ac_nf)) (N:=["row"]) (sel:=[none]) (fs (M:=["text"]) (by ac_nf)) (eT.of (fun _ _ _ _=>(b5 (i:=0) (dX (N:=["row"]) (by ac_nf) rfl))) (fun _ _ _ _=>⟨_,gV,by walk_at "B"⟩) (fun _ _ _ _=>⟨_,(ef r2 CF alZ Py (U 0) (db dy av)),by walk_at "B"⟩))))),?_⟩;nofun;have aU:1 <= nl.length:=by rw [zw];exact bP _
 have abc:1 <= cI.length:=by rw [rh];exact bP _
 have aw:=IE (x:=x) aU;have kf:(ba (iM x nl)).length <= sizeLine:=by unfold ba;rw [aR];exact i_ _ (by omega)
 refine ⟨by rw [zw];decide,i_ _ (by omega),i_ _ (show (iM x nl).length <= 40000 by omega),fun p aq=>⟨⟨_,ak.of aS⟩,?_⟩⟩;refine cX.Yn (xs:=ba (iM x nl)) (fun v=>match v with | .str r=>.lst (ba (iM r cI)) | _=>.lst []) (ak.of aS) kf (fun v=>by cases v <;> rfl) (fun i v H1 N af bu i0 bb=>?_) (fun qs H1 bu i0 aD al df fm=>?_)
 .unfold ba at af;rw [cV] at af;cases aj:(iM x nl)[i]? with
  | none=>rw [aj] at af;cases af
  | some r=>
   rw [aj] at af;have e:=eL af;subst e;have hm:=ady aU (bM aj);have jB:=IE (x:=r) abc;nofun;exact ⟨Sub.name,by rw [rh];decide,i_ _ (by omega),i_ _ (show (iM r cI).length <= 40000 by omega),bb⟩
 .have IL:aH H H1:=(a' aq).trans bu;refine q _ _ (IL.gk (IL.free fm)) ((i0 (bC.upd)).upd) ⟨qs,aS,IL.free fm,fun hm=>?_,?_,fun i cb r ab ai=>?_⟩
  .obtain ⟨j,aN,e⟩:=Rz hm;have ajL:j < (ba (iM x nl)).length:=by omega
   have:=al j df _ (by rw [a_ aN,e]) (a_ ajL);rw [fm] at this;cases this.1
  .rw [aD];unfold ht ba;rw [aR,aR]
  .unfold ht at ai;rw [cV] at ai;cases aj:(iM x nl)[i]? with
   | none=>rw [aj] at ai;cases ai
   | some qb=>
    rw [aj] at ai;have e:=eL ai;subst e;have z:=al i cb (.str qb) ab (by unfold ba;rw [cV,aj];rfl);refine ⟨by rw [aZ (Db z.1 fm)];exact z.1,?_⟩;have:=z.2;by_cases aM:cb=p
    .rw [aM];exact aq
    .rwa [aZ aM] at this
structure bx where
 k:Nat
 name:Str
 start:Int
 fin:Int
 off:Int
 near:Int
 least:Int
noncomputable def dx:Nat->Str
 | 0=>ah "car"
 | 1=>ah "foot"
 | _=>ah "tram"
noncomputable def b6.gB (t:b6):Nat->Addr
 | 0=>t.jF
 | 1=>t.jG
 | _=>t.jN
noncomputable def oW (d:bx):List (Str × V):=[(ah "kind",.str (dx d.k)),(ah "name",.str d.name),(ah "start",.int d.start),(ah "end",.int d.fin),(ah "off",.int d.off),(ah "near",.int d.near),(ah "least",.int d.least)]
noncomputable abbrev oR:List Str:=[ah "kind",ah "name",ah "start",ah "end",ah "off",ah "near",ah "least"]
theorem S0 (d:bx):(oW d).map (·.1)=oR:=rfl
def eX (t:b6) (H:au) (p:Addr) (d:bx):Prop:=d.k < 3/\∃ ax,H p=some (.ins (t.gB d.k) ax (oW d))
theorem eX.same {t:b6} {p:Addr} (h:eX t H p d) (s:aH H I):eX t I p d:=⟨h.1,h.2.imp fun ax e=>s _ _ e⟩
def BR (t:b6) (C:Addr):Prop:=∃ k,k < 3/\C=t.gB k
noncomputable def jH (d:bx):Int:=match d.k with | 0=>1 | 1=>0 | _=>2
noncomputable def jK (d:bx):Int:=match d.k with | 0=>2 | 1=>d.off | _=>1
section
variable {w:World} {K:bc} {mg:Str->Option Value} {t:b6}
theorem Txt.rV (T:Txt w K mg t):∀ k,hI K (t.gB k)
 | 0=>T.KR
 | 1=>T.GC
 | _ + 2=>T.La
theorem Txt.PO (T:Txt w K mg t) (hf:f ∈ oR):∀ k,dq K (t.gB k) f:=by
 intro k;simp only [oR,d9,m5,or_false] at hf;rcases hf with rfl | rfl | rfl | rfl | rfl | rfl | rfl
 .match k with
  | 0=>exact T.Xs
  | 1=>exact T.Yo
  | _ + 2=>exact T.acT
 .match k with
  | 0=>exact T.alv
  | 1=>exact T.adY
  | _ + 2=>exact T.adj
 .match k with
  | 0=>exact T.amm
  | 1=>exact T.am5
  | _ + 2=>exact T.XF
 .match k with
  | 0=>exact T.amb
  | 1=>exact T.alX
  | _ + 2=>exact T.Xh
 .match k with
  | 0=>exact T.aj2
  | 1=>exact T.amC
  | _ + 2=>exact T.Z'
 .match k with
  | 0=>exact T.adh
  | 1=>exact T.ams
  | _ + 2=>exact T.agB
 .match k with
  | 0=>exact T.aev
  | 1=>exact T.Xx
  | _ + 2=>exact T.Is
theorem Txt.cw_inj (T:Txt w K mg t) {j k:Nat} (aN:j < 3) (aE:k < 3) (e:t.gB j=t.gB k):j=k:=by
 match j,k,aN,aE with
 | 0,0,_,_=>rfl
 | 0,1,_,_=>exact absurd e T.Rr
 | 0,2,_,_=>exact absurd e T.N5
 | 1,0,_,_=>exact absurd e.symm T.Rr
 | 1,1,_,_=>rfl
 | 1,2,_,_=>exact absurd e T.Ro
 | 2,0,_,_=>exact absurd e.symm T.N5
 | 2,1,_,_=>exact absurd e.symm T.Ro
 | 2,2,_,_=>rfl
 | j + 3,_,h,_=>omega
 | _,k + 3,_,h=>omega
theorem eX.fld (T:Txt w K mg t) {p:Addr} (h:eX t H p d) (i:Nat) (ag:oR.findIdx? (· == f)=some i) (aG:(oW d)[i]? = some (f,v)):hV K H p f v:=by
 obtain ⟨_,ax,e⟩:=h;have hm:f ∈ oR:=by
  obtain ⟨cQ,ab,_⟩:=List.findIdx?_eq_some_iff_getElem.mp ag;have:oR[i]=f:=by simpa using ab
  rw [<- this];exact jb cQ
 exact ⟨_,ax,_,e,T.rV _,T.PO hm _,ks oR i (S0 d) ag aG⟩
theorem eX.adf (T:Txt w K mg t) {p:Addr} (h:eX t H p d):hV K H p (ah "kind") (.str (dx d.k)):=h.fld T 0 (by ac_nf) rfl
theorem eX.EP (T:Txt w K mg t) {p:Addr} (h:eX t H p d):hV K H p (ah "name") (.str d.name):=h.fld T 1 (by ac_nf) rfl
theorem eX.u2 (T:Txt w K mg t) {p:Addr} (h:eX t H p d):hV K H p (ah "start") (.int d.start):=h.fld T 2 (by ac_nf) rfl
theorem eX.tj (T:Txt w K mg t) {p:Addr} (h:eX t H p d):hV K H p (ah "end") (.int d.fin):=h.fld T 3 (by ac_nf) rfl
theorem eX.Pk (T:Txt w K mg t) {p:Addr} (h:eX t H p d):hV K H p (ah "off") (.int d.off):=h.fld T 4 (by ac_nf) rfl
theorem eX.amA (T:Txt w K mg t) {p:Addr} (h:eX t H p d):hV K H p (ah "near") (.int d.near):=h.fld T 5 (by ac_nf) rfl
theorem eX.ahI (T:Txt w K mg t) {p:Addr} (h:eX t H p d):hV K H p (ah "least") (.int d.least):=h.fld T 6 (by ac_nf) rfl
end
def amV (t:b6):bO:=fun vs H Q _=>∃ (p ax:Addr) (d:bx),vs=[.ref p,.str (dx d.k),.str d.name,.int d.start,.int d.fin,.int d.off,.int d.near,.int d.least]/\d.k < 3/\H p=some (.ins (t.gB d.k) ax [])/\Q .cg (upd H p (.ins (t.gB d.k) ax (oW d)))
def tY (t:b6) (k:Nat):bO:=fun vs H Q _=>∃ (p ax:Addr) (d:bx),vs=[.ref p,.str d.name,.int d.start,.int d.fin,.int d.off,.int d.near,.int d.least]/\d.k=k/\H p=some (.ins (t.gB d.k) ax [])/\Q .cg (upd H p (.ins (t.gB d.k) ax (oW d)))
theorem G2:cu P base T 1 t.A' t.Mh CU (amV t):=by
 exists T.Si.ok X_,9
 obtain ⟨p,ax,d,rfl,aE,aq,q⟩:=h;refine ⟨_,(aQ (h9 (U 0) (U 1) rfl)
   (aQ (h9 (U 0) (U 2) rfl)
   (aQ (h9 (U 0) (U 3) rfl)
   (aQ (h9 (U 0) (U 4) rfl)
   (aQ (h9 (U 0) (U 5) rfl)
   (aQ (h9 (U 0) (U 6) rfl)
   (a3 (h9 (U 0) (U 7) rfl)))))))),?_⟩
 nofun;have na:∀ {f:Str},f ∈ oR->dq K (t.gB d.k) f:=fun hf=>T.PO hf d.k
 refine ⟨_,_,_,aq,T.rV _,na (by ac_nf),by decide,?_⟩;refine ⟨_,_,_,aS,T.rV _,na (by ac_nf),g8 (n:=999) (by decide),?_⟩;refine ⟨_,_,_,aS,T.rV _,na (by ac_nf),g8 (n:=999) (g8 (n:=998) (by decide)),?_⟩;refine ⟨_,_,_,aS,T.rV _,na (by ac_nf),g8 (n:=999) (g8 (n:=998) (g8 (n:=997) (by decide))),?_⟩;refine ⟨_,_,_,aS,T.rV _,na (by ac_nf),g8 (n:=999) (g8 (n:=998) (g8 (n:=997) (g8 (n:=996) (by decide)))),?_⟩;refine ⟨_,_,_,aS,T.rV _,na (by ac_nf),g8 (n:=999) (g8 (n:=998) (g8 (n:=997) (g8 (n:=996) (g8 (n:=995) (by decide))))),?_⟩;refine ⟨_,_,_,aS,T.rV _,na (by ac_nf),g8 (n:=999) (g8 (n:=998) (g8 (n:=997) (g8 (n:=996) (g8 (n:=995) (g8 (n:=994) (by decide)))))),?_⟩;simp only [s9];rw [show eh (ah "kind") (V.str (dx d.k)) ([]:List (Str × V))=[(ah "kind",V.str (dx d.k))] from iG [] rfl (by ac_nf),
  show eh (ah "name") (V.str d.name) ([(ah "kind",V.str (dx d.k))]:List (Str × V))=[(ah "kind",V.str (dx d.k)),(ah "name",V.str d.name)] from iG [ah "kind"] rfl (by ac_nf),
  show eh (ah "start") (V.int d.start) ([(ah "kind",V.str (dx d.k)),(ah "name",V.str d.name)]:List (Str × V))=[(ah "kind",V.str (dx d.k)),(ah "name",V.str d.name),(ah "start",V.int d.start)] from iG [ah "kind",ah "name"] rfl (by ac_nf),
  show eh (ah "end") (V.int d.fin) ([(ah "kind",V.str (dx d.k)),(ah "name",V.str d.name),(ah "start",V.int d.start)]:List (Str × V))=[(ah "kind",V.str (dx d.k)),(ah "name",V.str d.name),(ah "start",V.int d.start),(ah "end",V.int d.fin)] from iG [ah "kind",ah "name",ah "start"] rfl (by ac_nf),
  show eh (ah "off") (V.int d.off) ([(ah "kind",V.str (dx d.k)),(ah "name",V.str d.name),(ah "start",V.int d.start),(ah "end",V.int d.fin)]:List (Str × V))=[(ah "kind",V.str (dx d.k)),(ah "name",V.str d.name),(ah "start",V.int d.start),(ah "end",V.int d.fin),(ah "off",V.int d.off)] from iG [ah "kind",ah "name",ah "start",ah "end"] rfl (by ac_nf),
  show eh (ah "near") (V.int d.near) ([(ah "kind",V.str (dx d.k)),(ah "name",V.str d.name),(ah "start",V.int d.start),(ah "end",V.int d.fin),(ah "off",V.int d.off)]:List (Str × V))=[(ah "kind",V.str (dx d.k)),(ah "name",V.str d.name),(ah "start",V.int d.start),(ah "end",V.int d.fin),(ah "off",V.int d.off),(ah "near",V.int d.near)] from iG [ah "kind",ah "name",ah "start",ah "end",ah "off"] rfl (by ac_nf),
  show eh (ah "least") (V.int d.least) ([(ah "kind",V.str (dx d.k)),(ah "name",V.str d.name),(ah "start",V.int d.start),(ah "end",V.int d.fin),(ah "off",V.int d.off),(ah "near",V.int d.near)]:List (Str × V))=[(ah "kind",V.str (dx d.k)),(ah "name",V.str d.name),(ah "start",V.int d.start),(ah "end",V.int d.fin),(ah "off",V.int d.off),(ah "near",V.int d.near),(ah "least",V.int d.least)] from iG [ah "kind",ah "name",ah "start",ah "end",ah "off",ah "near"] rfl (by ac_nf)]
 exact q
theorem YQ:cu P base T 2 t.vX t.C4 kY (tY t 0):=by
 refine cR (G2 T) fun wt=>?_;exists T.Nq.ok ZK,9
 obtain ⟨p,ax,d,rfl,aE,aq,q⟩:=h;refine ⟨_,(a3 (dN (F4 rfl T.Jo T.Kq wt aj T.JL .nil dK (db (U 0) (db dy (db (U 1) (db (U 2) (db (U 3) (db (U 4) (db (U 5) (db (U 6) av))))))))))),?_⟩;nofun;exact ⟨p,ax,d,by rw [aE];rfl,by omega,aq,q⟩
theorem adz:cu P base T 2 t.wi t.DR kY (tY t 1):=by
 refine cR (G2 T) fun wt=>?_;exists T.wn.ok akW,9
 obtain ⟨p,ax,d,rfl,aE,aq,q⟩:=h;refine ⟨_,(a3 (dN (F4 rfl T.Jo T.Kq wt aj T.JL .nil dK (db (U 0) (db dy (db (U 1) (db (U 2) (db (U 3) (db (U 4) (db (U 5) (db (U 6) av))))))))))),?_⟩;nofun;exact ⟨p,ax,d,by rw [aE];rfl,by omega,aq,q⟩
theorem Xm:cu P base T 2 t.yY t.Aa kY (tY t 2):=by
 refine cR (G2 T) fun wt=>?_;exists T.Qr.ok X3,9
 obtain ⟨p,ax,d,rfl,aE,aq,q⟩:=h;refine ⟨_,(a3 (dN (F4 rfl T.Jo T.Kq wt aj T.JL .nil dK (db (U 0) (db dy (db (U 1) (db (U 2) (db (U 3) (db (U 4) (db (U 5) (db (U 6) av))))))))))),?_⟩;nofun;exact ⟨p,ax,d,by rw [aE];rfl,by omega,aq,q⟩
def xJ (t:b6) (C:Addr):bO:=fun vs H Q _=>∃ p d,vs=[.ref p]/\eX t H p d/\C=t.gB d.k/\Q (.int (jH d)) H
def yz (t:b6) (C:Addr):bO:=fun vs H Q _=>∃ p d,vs=[.ref p]/\eX t H p d/\C=t.gB d.k/\Q (.int (jK d)) H
theorem al_:cu P base T 1 t.ED t.Fy ["self"] (xJ t (t.gB 0)):=by
 exists T.NB.ok amW,9
 obtain ⟨p,d,rfl,W,cK,q⟩:=h;have aE:=(T.cw_inj (by decide) W.1 cK).symm;refine ⟨_,(a3 (cc aJ)),?_⟩;rw [show jH d=1 by unfold jH;simp only [aE]] at q;nofun;exact q
theorem Yv:cu P base T 1 t.Ap t.Lh ["self"] (xJ t (t.gB 1)):=by
 exists T.V8.ok Yx,9
 obtain ⟨p,d,rfl,W,cK,q⟩:=h;have aE:=(T.cw_inj (by decide) W.1 cK).symm;refine ⟨_,(a3 (cc aJ)),?_⟩;rw [show jH d=0 by unfold jH;simp only [aE]] at q;nofun;exact q
theorem Yk:cu P base T 1 t.zH t.I8 ["self"] (xJ t (t.gB 2)):=by
 exists T.R1.ok ls,9
 obtain ⟨p,d,rfl,W,cK,q⟩:=h;have aE:=(T.cw_inj (by decide) W.1 cK).symm;refine ⟨_,(a3 (cc aJ)),?_⟩;rw [show jH d=2 by unfold jH;simp only [aE]] at q;nofun;exact q
theorem aba (T:Txt w K mg t):tG P w K mg base c9 1 (BR t) "ready" ["self"] (xJ t):=by
 refine ⟨fun C cK=>?_⟩;obtain ⟨k,aE,rfl⟩:=cK
 match k,aE with
 | 0,_=>exact ⟨_,_,T.KR,T.lv,al_ T,T.aeo⟩
 | 1,_=>exact ⟨_,_,T.GC,T.ad4,Yv T,T.am4⟩
 | 2,_=>exact ⟨_,_,T.La,T.alJ,Yk T,T.X4⟩
theorem aaM:cu P base T 1 t.Ch t.Kk ["self"] (yz t (t.gB 0)):=by
 exists T.W7.ok ahn,9
 obtain ⟨p,d,rfl,W,cK,q⟩:=h;have aE:=(T.cw_inj (by decide) W.1 cK).symm;refine ⟨_,(a3 (cc aJ)),?_⟩;rw [show jK d=2 by unfold jK;simp only [aE]] at q;nofun;exact q
theorem ahs:cu P base T 1 t.AO t.L4 ["self"] (yz t (t.gB 1)):=by
 exists T.Qv.ok ak2,9
 obtain ⟨p,d,rfl,W,cK,q⟩:=h;have aE:=(T.cw_inj (by decide) W.1 cK).symm;refine ⟨_,(a3 (cc (c4 (U 0) rfl))),?_⟩;rw [show jK d=d.off by unfold jK;simp only [aE]] at q;nofun;exact ⟨_,W.Pk T,q⟩
theorem ZO:cu P base T 1 t.C1 t.HP ["self"] (yz t (t.gB 2)):=by
 exists T.PH.ok anf,9
 obtain ⟨p,d,rfl,W,cK,q⟩:=h;have aE:=(T.cw_inj (by decide) W.1 cK).symm;refine ⟨_,(a3 (cc aJ)),?_⟩;rw [show jK d=1 by unfold jK;simp only [aE]] at q;nofun;exact q
theorem alN (T:Txt w K mg t):tG P w K mg base c9 1 (BR t) "fade" ["self"] (yz t):=by
 refine ⟨fun C cK=>?_⟩;obtain ⟨k,aE,rfl⟩:=cK
 match k,aE with
 | 0,_=>exact ⟨_,_,T.KR,T.ae3,aaM T,T.ag_⟩
 | 1,_=>exact ⟨_,_,T.GC,T.ah_,ahs T,T.aeF⟩
 | 2,_=>exact ⟨_,_,T.La,T.ah2,ZO T,T.al1⟩
noncomputable def md (c:Nat):List (List Nat)->List Nat
 | []=>[]
 | [a]=>a
 | a :: b :: r=>a ++ c :: md c (b :: r)
theorem Oj:∀ {a b X Y:List Nat},c ∉ a->c ∉ b->a ++ c :: X=b ++ c :: Y->a=b/\X=Y
 | [],[],X,Y,_,_,h=>⟨rfl,(q2 h).2⟩
 | [],d :: b,X,Y,_,ae,h=>absurd (q2 h).1 (fun z=>ae (by simp [<- z]))
 | d :: a,[],X,Y,aK,_,h=>absurd (q2 h).1 (fun z=>aK (by simp [z]))
 | d :: a,e :: b,X,Y,aK,ae,h=>by
  obtain ⟨ab,ai⟩:=q2 h;obtain ⟨ao,aC⟩:=Oj (fun z=>aK (gS _ z)) (fun z=>ae (gS _ z)) ai;exact ⟨by rw [ab,ao],aC⟩
theorem FM:∀ {ps qs:List (List Nat)},(∀ p ∈ ps,c ∉ p)->(∀ q ∈ qs,c ∉ q)->ps ≠ []->qs ≠ []->md c ps=md c qs->ps=qs
 | [a],[b],_,_,_,_,h=>by rw [show a=b from h]
 | [a],b :: gv :: r,aK,_,_,_,h=>absurd (show c ∈ a by rw [show a=b ++ c :: md c (gv :: r) from h];simp) (aK a (by simp))
 | a :: sf :: r,[b],_,ae,_,_,h=>absurd (show c ∈ b by rw [show b=a ++ c :: md c (sf :: r) from h.symm];simp) (ae b (by simp))
 | a :: sf :: r,b :: gv :: s,aK,ae,_,_,h=>by
  obtain ⟨ao,aC⟩:=Oj (aK a (by simp)) (ae b (by simp)) (show a ++ c :: md c (sf :: r)=b ++ c :: md c (gv :: s) from h);rw [ao,FM (fun p aq=>aK p (gS _ aq)) (fun q aM=>ae q (gS _ aM)) (by simp) (by simp) aC]
 | [],_,_,_,h,_,_=>absurd rfl h
 | _ :: _,[],_,_,_,h,_=>absurd rfl h
theorem N7:∀ {ps:List (List Nat)},d ∈ md c ps->d=c\/∃ p ∈ ps,d ∈ p
 | [],h=>nomatch h
 | [a],h=>.inr ⟨a,by simp,h⟩
 | a :: b :: r,h=>by
  rcases dZ.mp (show d ∈ a ++ c :: md c (b :: r) from h) with h | h
  .exact .inr ⟨a,by simp,h⟩
  .rcases d9.mp h with h | h
   .exact .inl h
   .rcases N7 h with h | ⟨p,aq,h⟩
    .exact .inl h
    .exact .inr ⟨p,gS _ aq,h⟩
theorem qQ (c:Nat):∀ ys:List Str,(d_ ⟨#[c]⟩ ys).cps.toList=md c (ys.map (·.cps.toList))
 | []=>rfl
 | [a]=>rfl
 | a :: b :: r=>by
  show (a ++ ⟨#[c]⟩ ++ d_ ⟨#[c]⟩ (b :: r)).cps.toList=_;rw [nI,ph,nI,ph,qQ c (b :: r)];simp [md]
theorem zN {x y:Str} (h:x.cps.toList=y.cps.toList):x=y:=by
 cases x;cases y;exact congrArg Str.mk (VJ.mp h)
theorem PR (aV:ys ≠ []) (hf:∀ y ∈ ys,c ∉ y.cps.toList):iM (d_ ⟨#[c]⟩ ys) ⟨#[c]⟩=ys:=by
 have e:=congrArg (·.cps.toList) (StrLaws.join_split (d_ ⟨#[c]⟩ ys) ⟨#[c]⟩);simp only [qQ] at e;have aC:=FM (c:=c) (ps:=(iM (d_ ⟨#[c]⟩ ys) ⟨#[c]⟩).map (·.cps.toList)) (qs:=ys.map (·.cps.toList)) (fun p aq=>by
  obtain ⟨y,aU,rfl⟩:=b2.mp aq;exact StrLaws.split_free _ c y aU) (fun p aq=>by
  obtain ⟨y,aU,rfl⟩:=b2.mp aq;exact hf y aU) (by simp [ajj]) (by simpa using aV) e
 exact (List.map_inj_right fun x y h=>zN h).mp aC
noncomputable abbrev num (v:Int):Str:=ah (toString v)
theorem ahP:∀ n,n < 1000->(decide (1 <= ((t_ 10 n).map vY).length) && decide (((t_ 10 n).map vY).length <= 3) && ((t_ 10 n).map vY).all nB && (decide (((t_ 10 n).map vY).length <= 1) || decide (((t_ 10 n).map vY).headD 0 ≠ 48)) &&
  decide (VV ((t_ 10 n).map vY)=n))=true:=by ac_nf
theorem AG (h0:0 <= v) (ab:v < 1000):kN (num v)=true/\val (num v)=v:=by
 have e:=Zq v.toNat;rw [r4 h0] at e;have a:=ahP v.toNat (by omega);rw [<- e,jX,decide_eq_true_eq] at a;exact ⟨a.1,by show ((VV (cs (num v)):Nat):Int)=v;rw [a.2];omega⟩
theorem rm {v lo ag:Int} (h0:0 <= v) (ab:v < 1000) (aD:lo <= v) (bU:v <= ag):jf (num v) lo ag=.int v:=by
 obtain ⟨a,b⟩:=AG h0 ab;unfold jf;rw [a,b,decide_eq_false (by omega:¬ v < lo),decide_eq_false (by omega:¬ ag < v)];rfl
theorem YW (h0:0 <= u) (ab:u < 1000) (ai:0 <= v) (a5:v < 1000) (e:num u=num v):u=v:=by
 rw [<- (AG h0 ab).2,e,(AG ai a5).2]
theorem V7 (h0:0 <= v) (ab:v < 1000):∀ c ∈ (num v).cps.toList,48 <= c/\c <= 57:=fun c ar=>by
 have:=sl.mp (agZ (AG h0 ab).1).2 c ar;simpa [nB] using this
theorem abk:∀ c ∈ mq.cps.toList,97 <= c/\c <= 122:=by ac_nf
theorem Zb:∀ k,k < 26->97 + k ∈ mq.cps.toList:=by ac_nf
theorem p0 {x:Str} (h:made x mq 8=true):(1 <= x.length/\x.length <= 8)/\∀ c ∈ x.cps.toList,97 <= c/\c <= 122:=by
 unfold made at h;split at h
 .cases h
 .rename_i ab;split at h
  .cases h
  .rename_i ai;have a5:¬ x.length=0:=fun z=>ab (zS.mpr z)
   refine ⟨by omega,fun c ar=>?_⟩;have:=sl.mp h c ar;rw [JM] at this;exact abk c (of_decide_eq_true this)
theorem xz {x:Str} (h0:1 <= x.length) (ab:x.length <= 8) (h:∀ c ∈ x.cps.toList,97 <= c/\c <= 122):made x mq 8=true:=by
 unfold made;rw [if_neg (fun z=>by have:=zS.mp z;omega),if_neg (by omega)];refine sl.mpr fun c ar=>?_
 have:=h c ar;rw [JM];have e:=Zb (c - 97) (by omega);rw [show 97 + (c - 97)=c by omega] at e;exact decide_eq_true e
structure lK (n:Int) (d:bx):Prop where
 k:d.k < 3
 nm:made d.name mq 8=true
 st:0 <= d.start/\d.start < n
 e':0 <= d.fin/\d.fin < n
 ne:d.start ≠ d.fin
 of:0 <= d.off/\d.off <= 30
 uu:0 <= d.near/\d.near <= 30
 le:1 <= d.least/\d.least <= 60
structure tA (n:Int) (ds:List bx):Prop where
 nn:2 <= n/\n <= 99
 ln:1 <= ds.length/\ds.length <= 12
 al:∀ d ∈ ds,lK n d
 aB:(ds.map (·.name)).Nodup
noncomputable def nS (d:bx):List Str:=[dx d.k,d.name,num d.start,num d.fin,num d.off,num d.near,num d.least]
noncomputable def iD (n:Int) (ds:List bx):List (List Str):=[ah "ring",num n] :: ds.map nS
noncomputable def qd (n:Int) (ds:List bx):Str:=d_ nl ((iD n ds).map (d_ cI))
def qa (x:Str):Prop:=x.length <= 8/\(32:Nat) ∉ x.cps.toList/\(10:Nat) ∉ x.cps.toList
theorem nw (k:Nat):qa (dx k):=by
 match k with
 | 0=>exact ⟨by ac_nf,by ac_nf,by ac_nf⟩
 | 1=>exact ⟨by ac_nf,by ac_nf,by ac_nf⟩
 | _ + 2=>exact ⟨show (ah "tram").length <= 8 by ac_nf,show (32:Nat) ∉ (ah "tram").cps.toList by ac_nf,show (10:Nat) ∉ (ah "tram").cps.toList by ac_nf⟩
theorem l0 (h0:0 <= v) (ab:v < 1000):qa (num v):=
 ⟨cq (yL h0 (by omega)) (by decide),fun z=>by have:=V7 h0 ab _ z;omega,fun z=>by have:=V7 h0 ab _ z;omega⟩
theorem ir {x:Str} (h:made x mq 8=true):qa x:=
 ⟨(p0 h).1.2,fun z=>by have:=(p0 h).2 _ z;omega,fun z=>by have:=(p0 h).2 _ z;omega⟩
theorem lK.plain (h:lK n d) (aV:n <= 99):∀ x ∈ nS d,qa x:=fun x af=>by
 have ab:=h.st;have ai:=h.e';have a5:=h.of;have bQ:=h.uu;have du:=h.le;simp only [nS,d9,m5,or_false] at af;rcases af with rfl | rfl | rfl | rfl | rfl | rfl | rfl
 .exact nw _
 .exact ir h.nm
 .exact l0 (by omega) (by omega)
 .exact l0 (by omega) (by omega)
 .exact l0 (by omega) (by omega)
 .exact l0 (by omega) (by omega)
 .exact l0 (by omega) (by omega)
theorem tA.plain (h:tA n ds):∀ r ∈ iD n ds,∀ x ∈ r,qa x:=fun r aj x af=>by
 have aV:=h.nn;rcases d9.mp aj with rfl | aj
 .simp only [d9,m5,or_false] at af;rcases af with rfl | rfl
  .exact ⟨by ac_nf,by ac_nf,by ac_nf⟩
  .exact l0 (by omega) (by omega)
 .obtain ⟨d,hd,rfl⟩:=b2.mp aj;exact (h.al d hd).plain aV.2 x af
theorem VR (h0:rs ≠ []) (ab:∀ r ∈ rs,r ≠ []) (ai:∀ r ∈ rs,∀ x ∈ r,qa x):ht (d_ nl (rs.map (d_ cI)))=rs:=by
 unfold ht;rw [ai4,Dz];rw [PR (by simpa using h0) (fun y aU=>by
  obtain ⟨r,aj,rfl⟩:=b2.mp aU;rw [qQ];intro z;rcases N7 z with z | ⟨p,aq,z⟩
  .cases z
  .obtain ⟨x,af,rfl⟩:=b2.mp aq;exact (ai r aj x af).2.2 z)]
 rw [oS];have:∀ r ∈ rs,((fun r=>iM r ⟨#[32]⟩) ∘ d_ ⟨#[32]⟩) r=r:=fun r aj=>PR (ab r aj) fun x af=>(ai r aj x af).2.1
 exact (Wa this).trans (List.map_id rs)
theorem aj5 (h:tA n ds):ht (qd n ds)=iD n ds:=VR (by simp [iD]) (fun r aj=>by
 rcases d9.mp aj with rfl | aj
 .simp
 .obtain ⟨d,hd,rfl⟩:=b2.mp aj;simp [nS]) h.plain
theorem pZ (sep:Str) (B:Nat):∀ ys:List Str,(∀ y ∈ ys,y.length <= B)->(d_ sep ys).length <= ys.length * (B + sep.length)
 | [],_=>by show (Str.empty).length <= _;exact fg _
 | [a],h=>by
  have:=h a (by simp);show a.length <= _;simp only [fQ,x2];omega
 | a :: b :: r,h=>by
  have ab:=h a (by simp);have ai:=pZ sep B (b :: r) fun y aU=>h y (gS _ aU)
  show (a ++ sep ++ d_ sep (b :: r)).length <= _;rw [pI,pI,fQ,qC];omega
theorem aei (h:tA n ds):(qd n ds).length <= 1000:=by
 have ab:∀ y ∈ (iD n ds).map (d_ cI),y.length <= 63:=fun y aU=>by
  obtain ⟨r,aj,rfl⟩:=b2.mp aU;have:=pZ cI 8 r fun x af=>(h.plain r aj x af).1
  rw [rh] at this;have aD:r.length <= 7:=by
   rcases d9.mp aj with rfl | aj
   .simp
   .obtain ⟨d,hd,rfl⟩:=b2.mp aj;simp [nS]
  omega
 have ai:=pZ nl 63 _ ab;rw [zw] at ai;have a5:((iD n ds).map (d_ cI)).length <= 13:=by
  have:=h.ln;simp [iD];omega
 unfold qd;omega
noncomputable abbrev qN:List Str:=[ah "row",ah "told",ah "place"]
noncomputable def m_ (row:Int) (a6:Addr) (pl:Int):List (Str × V):=[(ah "row",.int row),(ah "told",.ref a6),(ah "place",.int pl)]
theorem xD (row:Int) (a6:Addr) (pl:Int):(m_ row a6 pl).map (·.1)=qN:=rfl
theorem anc (row:Int) (a6:Addr) (pl v:Int):eh (ah "place") (.int v) (m_ row a6 pl)=m_ row a6 v:=by
 unfold m_;simp only [eh];rw [if_neg (by ac_nf),if_neg (by ac_nf)];rfl
def da (t:b6) (H:au) (p:Addr) (row:Int) (ws:List Str) (pl:Nat):Prop:=
 (ws.length <= 1000/\∀ x ∈ ws,x.length <= 1000)/\∃ ax a6,H p=some (.ins t.ac ax (m_ row a6 pl))/\H a6=some (.lst (ba ws))
def dv (p:Addr) (H I:au):Prop:=∀ b u,b ≠ p->H b=some u->I b=some u
theorem dv.trans {p:Addr} (a:dv p H H1) (b:dv p H1 az):dv p H az:=fun c u n e=>b c u n (a c u n e)
theorem dv.of {p:Addr} (a:aH H H1):dv p H H1:=fun c u _ e=>a c u e
theorem dv.put {p:Addr}:dv p H (upd H p o):=fun c u n e=>by rw [aZ n];exact e
theorem gx (ws:List Str):(ba ws).length=ws.length:=by unfold ba;rw [aR]
theorem vN {ws:List Str} {i:Nat} {x:Str} (h:ws[i]? = some x):(ba ws)[i]? = some (.str x):=by unfold ba;rw [cV,h];rfl
theorem D6 (ws:List Str):(ba ws).all kz=true:=by unfold ba;simp [kz]
theorem A8 (x:Str) (xs:List Str):pb (.str x) (ba xs)=decide (x ∈ xs):=by
 unfold pb ba;rw [NX,n5];simp only [se,QR,lV,beq_iff_eq,decide_eq_true_eq];constructor
 .rintro ⟨y,aU,rfl⟩;exact aU
 .intro h;exact ⟨x,h,rfl⟩
section
variable {w:World} {K:bc} {mg:Str->Option Value} {t:b6} {H I:au} {p:Addr} {row:Int} {ws:List Str} {pl:Nat}
theorem da.same (h:da t H p row ws pl) (s:aH H I):da t I p row ws pl:=by
 obtain ⟨aF,ax,a6,ao,aC⟩:=h;exact ⟨aF,ax,a6,s _ _ ao,s _ _ aC⟩
theorem da.xW (h:da t H p row ws pl) (s:dv q H I) (n:p ≠ q) (k:∃ C ax aO,H q=some (.ins C ax aO)):da t I p row ws pl:=by
 obtain ⟨aF,ax,a6,ao,aC⟩:=h;obtain ⟨C,Dv,aO,bJ⟩:=k;exact ⟨aF,ax,a6,s _ _ n ao,s _ _ (eI aC bJ (by intro z;cases z)) aC⟩
theorem da.ins (h:da t H p row ws pl):∃ C ax aO,H p=some (.ins C ax aO):=by
 obtain ⟨aF,ax,a6,ao,aC⟩:=h;exact ⟨_,_,_,ao⟩
theorem da.no {m:Str} (row:Int) (a6:Addr) (pl:Int) (h:qN.contains m=false):(m_ row a6 pl).lookup m=none:=BL qN (xD ..) h
theorem Md (T:Txt w K mg t) {pl:Int} (e:H p=some (.ins t.ac ax (m_ row a6 pl))):hV K H p (ah "place") (.int pl):=
 ⟨_,ax,_,e,T.fT,T.Js,ks qN 2 (xD ..) (by ac_nf) rfl⟩
theorem E' (T:Txt w K mg t) {pl:Int} (e:H p=some (.ins t.ac ax (m_ row a6 pl))):hV K H p (ah "told") (.ref a6):=
 ⟨_,ax,_,e,T.fT,T.Uv,ks qN 1 (xD ..) (by ac_nf) rfl⟩
end
def RY (t:b6):bO:=fun vs H Q _=>∃ (p ax a6:Addr) (row:Int),vs=[.ref p,.int row,.ref a6]/\H p=some (.ins t.ac ax [])/\Q .cg (upd H p (.ins t.ac ax (m_ row a6 0)))
def amn (t:b6):bO:=fun vs H Q _=>∃ p row ws pl,vs=[.ref p]/\da t H p row ws pl/\pl <= ws.length/\Q (.str (ws.getD pl (ah ""))) H
def amd (t:b6):bO:=fun vs H Q _=>∃ p row ws pl,vs=[.ref p]/\da t H p row ws pl/\Q (.bw (decide (pl < ws.length))) H
def EW (t:b6) (H:au) (p:Addr) (row:Int) (ws:List Str) (pl:Nat) (R:au->Prop):Prop:=∀ I,dv p H I->(aL H->aL I)->da t I p row ws pl->R I
def amt (t:b6):bO:=fun vs H Q _=>∃ p row ws pl,vs=[.ref p,.bw true]/\da t H p row ws pl/\EW t H p row ws (pl + 1) (Q .cg)
def ank (K:bc) (t:b6):bO:=fun vs H Q _=>∃ p row ws pl x c xs,vs=[.ref p,.ref c]/\da t H p row ws pl/\ws[pl]? = some x/\ak K H c (ba xs)/\x ∈ xs/\EW t H p row ws (pl + 1) (Q (.str x))
def ahw (t:b6):bO:=fun vs H Q _=>∃ p row ws pl x lo ag v,vs=[.ref p,.int lo,.int ag]/\da t H p row ws pl/\ws[pl]? = some x/\jf x lo ag=.int v/\aL H/\EW t H p row ws (pl + 1) (Q (.int v))
def Yl (t:b6):bO:=fun vs H Q _=>∃ p row ws pl,vs=[.ref p]/\da t H p row ws pl/\pl=ws.length/\Q .cg H
theorem YP:cu P base T 1 t.zj t.wf x3 (RY t):=by
 exists T.Wo.ok Y2,9
 obtain ⟨p,ax,a6,row,rfl,aq,q⟩:=h;refine ⟨_,(aQ (h9 (U 0) (U 1) rfl)
   (aQ (h9 (U 0) (U 2) rfl)
   (a3 (h9 (U 0) aJ rfl)))),?_⟩
 nofun;refine ⟨_,_,_,aq,T.fT,T.ahv,by decide,?_⟩;refine ⟨_,_,_,aS,T.fT,T.Uv,g8 (n:=999) (by decide),?_⟩;refine ⟨_,_,_,aS,T.fT,T.Js,g8 (n:=999) (g8 (n:=998) (by decide)),?_⟩;simp only [s9];rw [show eh (ah "row") (V.int row) ([]:List (Str × V))=[(ah "row",V.int row)] from iG [] rfl (by ac_nf),
  show eh (ah "told") (V.ref a6) ([(ah "row",V.int row)]:List (Str × V))=[(ah "row",V.int row),(ah "told",V.ref a6)] from iG [ah "row"] rfl (by ac_nf),
  show eh (ah "place") (V.int 0) ([(ah "row",V.int row),(ah "told",V.ref a6)]:List (Str × V))=[(ah "row",V.int row),(ah "told",V.ref a6),(ah "place",V.int 0)] from iG [ah "row",ah "told"] rfl (by ac_nf)]
 exact q
theorem DX:cu P base T 1 t.zM t.Gb ["self"] (amn t):=by
 exists T.Ui.ok aeG,9
 obtain ⟨p,row,ws,pl,rfl,⟨aF,ax,a6,ao,aC⟩,hle,q⟩:=h;refine ⟨_,(aQ (dW (c5 eQ (c4 (U 0) rfl) (ep fV rfl T.fG fJ (db (c4 (U 0) rfl) av)) (cF _)) (a3 (cc dy)) ec)
   (a3 (cc (bl b0 (c4 (U 0) rfl) (c4 (U 0) rfl))))),?_⟩
 nofun;refine cP (decide ((pl:Int)=(ws.length:Int))) (fun Q aX=>?_) (fun c=>?_) (fun c=>?_)
 .nofun;refine ⟨_,Md T ao,_,E' T ao,_,rfl,_,.inl (ak.of aC),rfl,?_⟩;rw [gx];nofun;exact aX
 .nofun;have c':pl=ws.length:=by have:=of_decide_eq_true c;omega
  rw [show ws.getD pl (ah "")=ah "" by rw [lJ,adX (by omega)];rfl] at q;exact q
 .nofun;have c':pl < ws.length:=by have:=of_decide_eq_false c;omega
  have af:ws[pl]? = some ws[pl]:=a_ c';rw [lJ,af] at q;exact ⟨_,E' T ao,_,Md T ao,_,rfl,_,_,rfl,ak.of aC,_,bA (vN af),q⟩
theorem Wv:cu P base T 1 t.DG t.HJ ["self"] (amd t):=by
 exists T.Q7.ok aj1,9
 obtain ⟨p,row,ws,pl,rfl,⟨aF,ax,a6,ao,aC⟩,q⟩:=h;refine ⟨_,(a3 (cc (hx pv (c4 (U 0) rfl) (ep fV rfl T.fG fJ (db (c4 (U 0) rfl) av)) (cF _)))),?_⟩;nofun;have e:decide (pl < ws.length)=decide ((pl:Int) < (ws.length:Int)):=by rw [n5];simp
 rw [e] at q;refine ⟨_,Md T ao,_,E' T ao,_,rfl,_,.inl (ak.of aC),?_⟩;rw [gx];exact ⟨_,rfl,q⟩
theorem Hg:cu P base T 1 t.DB t.Mf A9 (amt t):=by
 exists T.Q4.ok aeY,9
 obtain ⟨p,row,ws,pl,rfl,⟨aF,ax,a6,ao,aC⟩,q⟩:=h;refine ⟨_,(aQ (dW (x6 (o1 (U 1))) (a3 oQ) ec)
   (a3 (Za (U 0) aJ aaa))),?_⟩
 nofun;refine cP false (fun Q aX=>?_) (fun ar=>nomatch ar) (fun _=>?_)
 .nofun;exact aX
 .nofun;refine ⟨_,_,_,ao,T.fT,T.Js,_,ks qN 2 (xD ..) (by ac_nf) rfl,_,rfl,_,_,ao,by rw [<- aR (f:=(·.1)),xD];decide,?_⟩;rw [anc];exact q _ dv.put (fun n=>n.upd) ⟨aF,ax,a6,aS,by rw [aZ (eI aC ao (by intro z;cases z))];exact aC⟩
theorem Ef:cu P base T 2 t.CV t.JW JG (ank K t):=by
 refine cR (DX T) fun tf=>cR (Hg T) fun wW=>?_;exists T.OX.ok QF,9
 obtain ⟨p,row,ws,pl,x,c,xs,rfl,R,af,ar,hm,q⟩:=h;refine ⟨_,(aQ (bX (i:=2) QF.aB (oa (U 0) T.fT T.DU tf aj T.C6 .nil dK))
   (aQ (dN (gi (U 0) T.fT T.I4 wW aj T.K3 .nil dK (db (hx tD (U 2) (U 1) (by with_unfolding_all rfl)) av)))
   (a3 (cc (U 2))))),?_⟩
 have cQ:pl < ws.length:=(bY.mp af).1;have bg:ws.getD pl (ah "")=x:=by rw [lJ,af];rfl
 obtain ⟨_,ax,a6,ao,aC⟩:=id R;nofun;refine ⟨_,_,ao,da.no _ _ _ (by ac_nf),⟨p,row,ws,pl,rfl,R,by omega,?_⟩⟩;rw [bg];nofun;refine ⟨_,_,ao,da.no _ _ _ (by ac_nf),_,.inl ar,rfl,D6 xs,?_⟩;rw [A8,decide_eq_true hm];refine ⟨p,row,ws,pl,rfl,R,fun I s1 s2 s3=>?_⟩;nofun;exact q I s1 s2 s3
theorem zT:cu P base T 4 t.B9 t.Fs Fd (ahw t):=by
 refine cR (DX T) fun tf=>cR (Hg T) fun wW=>cR (afy T) fun aaQ=>?_;exists T.QJ.ok NV,9
 obtain ⟨p,row,ws,pl,x,lo,ag,v,rfl,R,af,aG,bC,q⟩:=h;refine ⟨_,(aQ (bX (i:=3) NV.aB (bS aaQ aj T.ai3 T.Gp.bj T.aae (db (oa (U 0) T.fT T.DU tf aj T.C6 .nil dK) (db (U 1) (db (U 2) av)))))
   (aQ (dN (gi (U 0) T.fT T.I4 wW aj T.K3 .nil dK (db (hx abe (U 3) L3 (cF _)) av)))
   (a3 (cc (U 3))))),?_⟩
 have cQ:pl < ws.length:=(bY.mp af).1;have bg:ws.getD pl (ah "")=x:=by rw [lJ,af];rfl
 obtain ⟨aF,ax,a6,ao,aC⟩:=id R;nofun;refine ⟨_,_,ao,da.no _ _ _ (by ac_nf),⟨p,row,ws,pl,rfl,R,by omega,?_⟩⟩;rw [bg];nofun;refine ⟨x,lo,ag,rfl,aF.2 x (bM af),bC,?_⟩;rw [aG];nofun;refine ⟨_,_,ao,da.no _ _ _ (by ac_nf),?_⟩;refine ⟨p,row,ws,pl,rfl,R,fun I s1 s2 s3=>?_⟩;nofun;exact q I s1 s2 s3
theorem NO:cu P base T 2 t.Bi t.HE ["self"] (Yl t):=by
 refine cR (Wv T) fun FT=>?_;exists T.QV.ok afF,9
 obtain ⟨p,row,ws,pl,rfl,R,aD,q⟩:=h;obtain ⟨aF,ax,a6,ao,aC⟩:=id R;refine ⟨_,(a3 (dW (o1 (oa (U 0) T.fT T.UW FT aj T.OO .nil dK)) (a3 oQ) ec)),?_⟩;nofun;refine cP false (fun Q aX=>?_) (fun ar=>nomatch ar) (fun _=>?_)
 .nofun;refine ⟨_,_,ao,da.no _ _ _ (by ac_nf),⟨p,row,ws,pl,rfl,R,?_⟩⟩;rw [decide_eq_false (by omega)];exact ⟨_,rfl,aX⟩
 .nofun;exact q
noncomputable abbrev c7 (ws:List Str) (k:Nat):Str:=ws.getD k (ah "")
theorem F_ {k:Nat} (h:c7 ws k ≠ ah ""):k < ws.length:=by
 refine Classical.byContradiction fun z=>h ?_
 unfold c7;rw [lJ,adX (by omega)];rfl
theorem alW (w:Str) (lo ag:Int):(∃ v,jf w lo ag=.int v/\lo <= v/\v <= ag/\w ≠ ah "")\/jf w lo ag=.cg:=by
 unfold jf;split
 .rename_i h;rw [jX] at h;refine .inl ⟨val w,rfl,?_,?_,fun z=>?_⟩
  .have:=h.2;simp at this;omega
  .have:=h.2;simp at this;omega
  .have ab:=h.1;rw [z] at ab;exact absurd ab (by ac_nf)
 .exact .inr rfl
def abH (x:Str):Prop:=x.length <= 1000/\∀ c ∈ x.cps.toList,c < 16 ^ 8
noncomputable def i7 (ds:List bx) (x:Str):Option bx:=ds.find? fun d=>decide (d.name=x)
theorem UE {w:World} {K:bc} {mg:Str->Option Value} {base:Heap} {j k:Nat} {m:Str} (V:tG P w K mg base CX j o5 m ps pK) (h:j <= k):tG P w K mg base CX k o5 m ps pK:=⟨fun C cK=>by
 obtain ⟨f,fd,ab,ai,a5,bQ⟩:=V.ok C cK;exact ⟨f,fd,ab,ai,a5.mono h,bQ⟩⟩
noncomputable def lE (x:Str) (lo ag:Int):Option Int:=if kN x && !(decide (val x < lo) || decide (ag < val x)) then some (val x) else none
theorem EN (x:Str) (lo ag:Int):jf x lo ag=(lE x lo ag).elim .cg .int:=by
 unfold jf lE;split <;> rfl
theorem Pp {x:Str} {lo ag v:Int} (h:jf x lo ag=.int v):lE x lo ag=some v:=by
 rw [EN] at h;cases e:lE x lo ag with
 | none=>rw [e] at h;cases h
 | some u=>rw [e] at h;injection h with h;rw [h]
theorem LH {k:Nat} {lo ag v:Int} (h:jf (c7 ws k) lo ag=.int v):k + 1 <= ws.length/\lo <= v/\v <= ag:=by
 rcases alW (c7 ws k) lo ag with ⟨u,b7,ab,ai,a5⟩ | aV
 .rw [b7] at h;injection h with h;subst h;exact ⟨F_ a5,ab,ai⟩
 .rw [aV] at h;cases h
theorem ka {a x:α} (h:(l ++ [a])[i]? = some x):(i < l.length/\l[i]? = some x)\/(i=l.length/\x=a):=by
 by_cases ag:i < l.length
 .rw [m9 ag] at h;exact .inl ⟨ag,h⟩
 .rw [k5 (by omega)] at h;have h0:i - l.length=0:=by
   cases bU:i - l.length with
   | zero=>rfl
   | succ m=>rw [bU] at h;simp at h
  rw [h0] at h;exact .inr ⟨by omega,(by simpa using h:a=x).symm⟩
theorem wX {k:Nat} (h:k < ws.length):ws[k]? = some (c7 ws k):=by
 unfold c7;rw [lJ,a_ h];rfl
theorem cm {α β:Type} {f:α->β} {l:List α} {i:Nat} {y:β} (h:(l.map f)[i]? = some y):∃ x,l[i]? = some x/\y=f x:=by
 rw [cV] at h;cases e:l[i]? with
 | none=>rw [e] at h;cases h
 | some x=>rw [e] at h;exact ⟨x,rfl,(eL h).symm⟩
def anM (t:b6) (jQ H:au) (p:Addr) (rows:List (List Str)):Prop:=∃ qs:List Addr,H p=some (.lst (qs.map V.ref))/\jQ p=none/\qs.length=rows.length/\∀ (i:Nat) (q:Addr) (r:List Str),qs[i]? = some q->rows[i]? = some r->da t H q i r 0/\jQ q=none
def FE (t:b6):bO:=fun vs H Q _=>∃ x,vs=[.str x]/\x.length <= 20000/\(∀ r ∈ ht x,r.length <= 1000/\∀ y ∈ r,y.length <= 1000)/\aL H/\∀ p I,aH H I->aL I->anM t H I p (ht x)->Q (.ref p) I
theorem Qg:cu P base T 3 t.zk t.xo ["text"] (FE t):=by
 have af4:bV P w K mg base c9 2 t.Em t.Ce ["text"] Tf:=(adV T).mono (by decide);have agz:bV P w K mg base c9 1 t.zj t.wf x3 (RY t):=YP T;exists T.BJ.ok ajG,9
 obtain ⟨x,rfl,aF,tZ,bC,q⟩:=h;refine ⟨_,(a3 (cc (gy rfl (CP rfl T.Tk (db (bS af4 aj T.akE T.SB.bj T.ajk (db (U 0) av)) av)) (fy (sc:=bt Kd) rfl (by ac_nf)) (N:=["row","told"]) (sel:=[none,none]) (fs (M:=["text"]) (by ac_nf)) (eT.of (fun _ _ _ _=>(kW (K:=K) (n:=2) rfl rfl (eG (b5 (i:=0) (dX (N:=["row","told"]) (by ac_nf) rfl)) (eG (b5 (i:=1) (dX (N:=["row","told"]) (by ac_nf) rfl)) kJ)))) (fun _ _ _ _=>⟨_,gV,by walk_at "B"⟩) (fun _ _ _ _=>⟨_,(vD T.Z6 agz aj rfl T.agA T.ane .nil dK (db (U 0) (db (U 1) av))),by walk_at "B"⟩))))),?_⟩;nofun;refine ⟨x,rfl,aF,bC,fun p H1 uA i0 ⟨ps,aq,vz,mT,cO,p7⟩=>?_⟩;nofun;refine ⟨⟨_,ak.of aq⟩,?_⟩;have hlen:ps.length <= sizeLine:=by
  rw [cO];unfold ht;rw [aR];have:=IE (x:=x) (y:=nl) (by rw [zw];exact bP _);exact cq (show _ <= 40000 by omega) (by decide)
 refine cX.enum (xs:=ps.map V.ref) (fun i ys az=>aH H1 az/\aL az/\∃ qs:List Addr,ys=qs.map V.ref/\qs.length=i/\∀ (j:Nat) (q:Addr) (r:List Str),qs[j]? = some q->(ht x)[j]? = some r->da t az q j r 0/\H1 q=none)
  (by rw [aR];exact hlen) ⟨aH.refl H1,i0,[],rfl,rfl,fun j q r h _=>by simp at h⟩ ?_ ?_ ?_
 .rintro i ys az ag a7;ac_rfl
  obtain ⟨s2,cv,qs,rfl,aM,_⟩:=a7;subst aY;exact ⟨ak.of (s2 _ _ aq),by rw [aR];omega⟩
 .rintro i v ys az df aG ⟨s2,cv,qs,rfl,aM,al⟩ fm N bb;rw [cV] at aG;cases D1:ps[i]? with
  | none=>rw [D1] at aG;cases aG
  | some pi=>
   rw [D1] at aG;have e:=(eL aG).symm;subst e;refine tn ?_;nofun;refine ⟨Sub.Vn,fun a ax aK hd cB=>?_⟩;refine ⟨a,ax,pi,i,rfl,aS,rfl,?_⟩;rw [s9];have s3:aH az (upd (upd (upd az df (.tup [.int i,.ref pi])) ax (.own a)) a (.ins t.ac ax (m_ i pi 0))):=by
    have s':aH az (upd az df (.tup [.int i,.ref pi])):=a' fm;exact ((aH.trans s' (a' hd)).gk (s'.free aK))
   obtain ⟨r,aj⟩:∃ r,(ht x)[i]? = some r:=⟨(ht x)[i]'(by rw [<- cO];exact (bY.mp D1).1),a_ _⟩;have XR:az a=none:=(a' fm).free aK;refine bb _ _ ⟨s2.trans s3,((cv.upd).upd).upd,qs ++ [a],by rw [dA];rfl,by rw [cC,aM];rfl,fun j cb eo ab ai=>?_⟩;by_cases aN:j < qs.length
   .rw [m9 aN] at ab;obtain ⟨e4,dH⟩:=al j cb eo ab ai;exact ⟨e4.same s3,dH⟩
   .rw [k5 (by omega)] at ab;have xG:j - qs.length=0:=by
     cases bU:j - qs.length with
     | zero=>rfl
     | succ n=>rw [bU] at ab;simp at ab
    rw [xG] at ab;have bJ:a=cb:=by simpa using ab
    subst bJ;have e6:j=i:=by omega
    subst e6;rw [aj] at ai;cases ai;refine ⟨⟨tZ r (bM aj),ax,pi,aS,?_⟩,s2.free XR⟩;exact s3 _ _ (s2 _ _ (p7 j pi r D1 aj).1)
 .rintro ys az ⟨s2,cv,qs,rfl,aM,al⟩ df fm;refine q df _ ((uA.trans s2).gk ((uA.trans s2).free fm)) (cv.upd) ⟨qs,aS,(uA.trans s2).free fm,by rw [aM,aR,cO],fun i cb r ab ai=>?_⟩;obtain ⟨e4,dH⟩:=al i cb r ab ai;exact ⟨e4.same (a' fm),uA.free dH⟩
def acQ (q:Addr) (H:au) (R:au->Prop):Prop:=∀ I,dv q H I->aL I->R I
def UO (t:b6):bO:=fun vs H Q _=>∃ q row n,vs=[.ref q]/\da t H q row [ah "ring",num n] 0/\(2 <= n/\n <= 99)/\aL H/\acQ q H (Q (.int n))
def n' (t:b6) (H:au) (wl:Addr) (ds:List bx):Prop:=∃ as:List Addr,H wl=some (.lst (as.map V.ref))/\as.length=ds.length/\∀ (i:Nat) (a:Addr) (d:bx),as[i]? = some a->ds[i]? = some d->eX t H a d
def ZA (t:b6):bO:=fun vs H Q _=>∃ q row ws pl wl ds x,vs=[.ref q,.ref wl]/\da t H q row ws pl/\ws[pl]? = some x/\made x mq 8=true/\n' t H wl ds/\ds.length <= 12/\(∀ d ∈ ds,d.name ≠ x)/\aL H /\
 ∀ I,dv q H I->aL I->da t I q row ws (pl + 1)->Q (.str x) I
def aiJ (t:b6):bO:=fun vs H Q _=>∃ q row ws pl n st e',vs=[.ref q,.int n,.int st]/\da t H q row ws pl/\ws[pl]? = some (num e')/\(0 <= st/\st < n)/\(0 <= e'/\e' < n)/\st ≠ e'/\n <= 99/\aL H /\
 ∀ I,dv q H I->aL I->da t I q row ws (pl + 1)->Q (.int e') I
def afM (t:b6):bO:=fun vs H Q _=>∃ d:bx,vs=[.str (dx d.k),.str d.name,.int d.start,.int d.fin,.int d.off,.int d.near,.int d.least]/\d.k < 3/\∀ x I,aH H I->(aL H->aL I)->eX t I x d->H x=none->Q (.ref x) I
def V' (t:b6):bO:=fun vs H Q _=>∃ q row n wl ds d,vs=[.ref q,.int n,.ref wl]/\da t H q row (nS d) 0/\lK n d/\(2 <= n/\n <= 99)/\n' t H wl ds/\ds.length <= 12/\(∀ e ∈ ds,e.name ≠ d.name)/\aL H /\
 ∀ x I,dv q H I->aL I->eX t I x d->H x=none->Q (.ref x) I
theorem n'.xW {t:b6} {pl:Nat} (h:n' t H wl ds) (s:dv q H I) (r:da t H q row ws pl):n' t I wl ds:=by
 obtain ⟨as,ao,aC,al⟩:=h;obtain ⟨aF,ax,a6,bJ,e6⟩:=r;refine ⟨as,s _ _ (eI ao bJ (by intro z;cases z)) ao,aC,fun i a d ab ai=>?_⟩;obtain ⟨aE,hq,gY⟩:=al i a d ab ai;refine ⟨aE,hq,s _ _ (fun z=>?_) gY⟩;subst z;rw [gY] at bJ;have e1:=eL bJ;injection e1 with _ _ pE;have nL:(7:Nat)=3:=congrArg qX pE;omega
theorem n'.same {t:b6} (h:n' t H wl ds) (s:aH H I):n' t I wl ds:=by
 obtain ⟨as,ao,aC,al⟩:=h;exact ⟨as,s _ _ ao,aC,fun i a d ab ai=>(al i a d ab ai).same s⟩
theorem adn:cu P base T 5 t.Ds t.zU ["reader"] (UO t):=by
 refine cR (Ef T) fun rX=>cR (zT T) fun og=>cR (NO T) fun FK=>?_;exists T.Ng.ok N9,9
 obtain ⟨q,row,n,rfl,R,aV,bC,k9⟩:=h;refine ⟨_,(aQ (dN (gi (U 0) T.fT T.re rX aj T.v9 .nil dK (db (d4 (db dy av)) av)))
   (aQ (bX (i:=1) N9.aB (gi (U 0) T.fT T.Gc og aj T.rS .nil dK (db (mF rfl T.Y4 T.afv) (db (mF rfl T.amT T.afB) av))))
   (aQ (dN (oa (U 0) T.fT T.Ve FK aj T.Pi .nil dK))
   (a3 (cc (U 1)))))),?_⟩
 obtain ⟨_,ax,a6,ao,aC⟩:=id R;nofun;refine ⟨_,_,ao,da.no _ _ _ (by ac_nf),by decide,fun p aq=>?_⟩;have s0:aH H (upd H p (.lst [V.str (ah "ring")])):=a' aq;refine ⟨q,row,_,0,ah "ring",p,[ah "ring"],rfl,R.same s0,rfl,ak.of aS,by simp,fun H1 s1 ck kS=>?_⟩;obtain ⟨_,VK,Pb,f1,f2⟩:=id kS;nofun;refine ⟨_,_,f1,da.no _ _ _ (by ac_nf),?_⟩;have i0:=ck bC.upd;refine ⟨q,row,_,1,num n,2,99,n,rfl,kS,rfl,rm (by omega) (by omega) aV.1 aV.2,i0,fun az s2 cv fb=>?_⟩;obtain ⟨_,JK,L',g1,g2⟩:=id fb;nofun;refine ⟨_,_,g1,da.no _ _ _ (by ac_nf),?_⟩;refine ⟨q,row,_,2,rfl,fb,rfl,?_⟩;nofun;exact k9 az (((dv.of s0).trans s1).trans s2) (cv i0)
theorem ZG:cu P base T 3 t.H0 t.Lm JE (ZA t):=by
 refine cR (DX T) fun tf=>cR (Hg T) fun wW=>cR (ak4 T) fun anF=>?_;exists T.ii.ok Oo,9
 obtain ⟨q,row,ws,pl,wl,ds,x,rfl,R,af,hm,fN,g9,MW,bC,k9⟩:=h;refine ⟨_,(aQ (bX (i:=2) Oo.aB (oa (U 0) T.fT T.DU tf aj T.C6 .nil dK))
   (aQ (dN (gi (U 0) T.fT T.I4 wW aj T.K3 .nil dK (db (w1 (bS anF aj T.alH T.Hy.bj T.anK (db (U 2) av)) (vp (hx z4 (U 2) (gy rfl (eZ (U 1)) (fy (sc:=bt KU) rfl (by ac_nf)) (N:=["way"]) (sel:=[none]) (fs (M:=["reader","ways","name"]) (by ac_nf)) (eT.of (fun _ _ _ _=>(b5 (i:=0) (dX (N:=["way"]) (by ac_nf) rfl))) (fun _ _ _ _=>⟨_,gV,by walk_at "B"⟩) (fun _ _ _ _=>⟨_,(c4 (U 0) rfl),by walk_at "B"⟩))) (by with_unfolding_all rfl)))) av)))
   (a3 (cc (U 2))))),?_⟩
 have cQ:pl < ws.length:=(bY.mp af).1;have bg:ws.getD pl (ah "")=x:=by rw [lJ,af];rfl
 obtain ⟨aF,ax,a6,ao,aC⟩:=id R;nofun;refine ⟨_,_,ao,da.no _ _ _ (by ac_nf),⟨q,row,ws,pl,rfl,R,by omega,?_⟩⟩;rw [bg];nofun;refine ⟨_,_,ao,da.no _ _ _ (by ac_nf),?_⟩;refine ⟨x,rfl,aF.2 x (bM af),bC,?_⟩;rw [hm];nofun;obtain ⟨as,dI,dB,al⟩:=fN;refine ⟨⟨_,ak.of dI⟩,?_⟩;have hle:(as.map V.ref).length <= sizeLine:=by rw [aR,dB];exact cq g9 (by decide)
 refine cX.kU (xs:=as.map V.ref) (zs:=ds.map fun d=>V.str d.name) (ak.of dI) hle (by rw [aR,aR,dB]) (fun i v z N aG hR bb=>?_) (fun p aq=>?_)
 .obtain ⟨a,aK,rfl⟩:=cm aG;obtain ⟨d,hd,rfl⟩:=cm hR;nofun;exact ⟨Sub.name,_,(al i a d aK hd).EP T,bb⟩
 .nofun;have fA:(ds.map fun d=>V.str d.name)=ba (ds.map (·.name)):=by unfold ba;rw [oS];rfl
  rw [fA];refine ⟨_,.inl (ak.of aS),rfl,D6 _,?_⟩;rw [A8,decide_eq_false (fun z=>by
   obtain ⟨d,hd,e⟩:=b2.mp z;exact MW d hd e)]
  have s0:aH H (upd H p (.lst (ba (ds.map (·.name))))):=a' aq;exact ⟨q,row,ws,pl,rfl,R.same s0,fun I s1 ck kS=>k9 I ((dv.of s0).trans s1) (ck bC.upd) kS⟩
theorem ahK:cu P base T 5 t.HK t.Tm B0 (aiJ t):=by
 refine cR (DX T) fun tf=>cR (zT T) fun og=>?_;exists T.EM.ok anx,9
 obtain ⟨q,row,ws,pl,n,st,e',rfl,R,af,ff,G8,cB,aV,bC,k9⟩:=h;refine ⟨_,(aQ (dW (c5 eQ (oa (U 0) T.fT T.DU tf aj T.C6 .nil dK) (oN wb rfl T.yF yC (db (U 2) av)) (cF _)) (a3 oQ) ec)
   (a3 (cc (gi (U 0) T.fT T.Gc og aj T.rS .nil dK (db aJ (db (bG Uf (U 1) aJ) av)))))),?_⟩
 have cQ:pl < ws.length:=(bY.mp af).1;have bg:ws.getD pl (ah "")=num e':=by rw [lJ,af];rfl
 obtain ⟨aF,ax,a6,ao,aC⟩:=id R;nofun;refine cP false (fun Q aX=>?_) (fun ar=>nomatch ar) (fun _=>?_)
 .nofun;refine ⟨_,_,ao,da.no _ _ _ (by ac_nf),⟨q,row,ws,pl,rfl,R,by omega,?_⟩⟩;rw [bg];nofun;refine ⟨FH (by omega),?_⟩;rw [decide_eq_false (fun z=>cB (YW (by omega) (by omega) (by omega) (by omega) z).symm)];exact aX
 .nofun;refine ⟨_,_,ao,da.no _ _ _ (by ac_nf),⟨q,row,ws,pl,num e',0,n - 1,e',rfl,R,af,rm (by omega) (by omega) (by omega) (by omega),bC,fun H1 s1 ck kS=>?_⟩⟩;exact k9 H1 s1 (ck bC) kS
theorem abC {t:b6} {x ax:Addr} (af:H x=none) (hd:H ax=none) (aE:d.k < 3) :
  aH H (upd (upd (upd H ax (.own x)) x (.ins (t.gB d.k) ax [])) x (.ins (t.gB d.k) ax (oW d)))/\(aL H->aL (upd (upd (upd H ax (.own x)) x (.ins (t.gB d.k) ax [])) x (.ins (t.gB d.k) ax (oW d)))) /\
   eX t (upd (upd (upd H ax (.own x)) x (.ins (t.gB d.k) ax [])) x (.ins (t.gB d.k) ax (oW d))) x d:=
 ⟨(((aH.refl H).gk hd).gk af).gk af,fun n=>((n.upd).upd).upd,aE,ax,aS⟩
theorem adk:cu P base T 4 t.bn t.Lk Ez (afM t):=by
 have XT:bV P w K mg base c9 2 t.vX t.C4 kY (tY t 0):=YQ T;have amG:bV P w K mg base c9 2 t.wi t.DR kY (tY t 1):=adz T;have akq:bV P w K mg base c9 2 t.yY t.Aa kY (tY t 2):=Xm T;exists T.F2.ok aaj,9
 obtain ⟨d,rfl,aE,q⟩:=h;refine ⟨_,(aQ (dW (c5 eQ (U 0) dy (cF _)) (a3 (cc (vD T.aec XT aj rfl T.ajA T.Xy .nil dK (db (U 1) (db (U 2) (db (U 3) (db (U 4) (db (U 5) (db (U 6) av))))))))) ec)
   (aQ (dW (c5 eQ (U 0) dy (cF _)) (a3 (cc (vD T.aeb amG aj rfl T.acg T.aim .nil dK (db (U 1) (db (U 2) (db (U 3) (db (U 4) (db (U 5) (db (U 6) av))))))))) ec)
   (a3 (cc (vD T.Zx akq aj rfl T.XQ T.wv .nil dK (db (U 1) (db (U 2) (db (U 3) (db (U 4) (db (U 5) (db (U 6) av))))))))))),?_⟩
 have fin:∀ (x ax:Addr),H x=none->H ax=none->Q (.ref x) (upd (upd (upd H ax (.own x)) x (.ins (t.gB d.k) ax [])) x (.ins (t.gB d.k) ax (oW d))):=fun x ax af hd=>by
  obtain ⟨kA,jD,rM⟩:=abC (t:=t) (d:=d) af hd aE;exact q x _ kA jD rM af
 obtain ⟨k,name,start,e',off,near,least⟩:=d
 match k,aE with
 | 0,_=>
  (nofun; repeat (dsimp only [dx];nofun));refine cP true (fun Q aX=>?_) (fun _=>?_) (fun ar=>nomatch ar)
  .nofun;exact aX
  .nofun;exact fun x ax af hd cB=>⟨x,ax,⟨0,name,start,e',off,near,least⟩,rfl,rfl,aS,rfl,fin x ax af hd⟩
 | 1,_=>
  (nofun; repeat (dsimp only [dx];nofun));refine cP false (fun Q aX=>?_) (fun ar=>nomatch ar) (fun _=>?_)
  .nofun;rw [decide_eq_false (by ac_nf)];exact aX
  .nofun;refine cP true (fun Q aX=>?_) (fun _=>?_) (fun ar=>nomatch ar)
   .nofun;exact aX
   .nofun;exact fun x ax af hd cB=>⟨x,ax,⟨1,name,start,e',off,near,least⟩,rfl,rfl,aS,rfl,fin x ax af hd⟩
 | 2,_=>
  (nofun; repeat (dsimp only [dx];nofun));refine cP false (fun Q aX=>?_) (fun ar=>nomatch ar) (fun _=>?_)
  .nofun;rw [decide_eq_false (by ac_nf)];exact aX
  .nofun;refine cP false (fun Q aX=>?_) (fun ar=>nomatch ar) (fun _=>?_)
   .nofun;rw [decide_eq_false (by ac_nf)];exact aX
   .nofun;exact fun x ax af hd cB=>⟨x,ax,⟨2,name,start,e',off,near,least⟩,rfl,rfl,aS,rfl,fin x ax af hd⟩
theorem agY:cu P base T 6 t.zE t.AX An (V' t):=by
 refine cR (Ef T) fun rX=>cR (zT T) fun og=>cR (NO T) fun FK=>cR (ZG T) fun ZJ=>cR (ahK T) fun amj=>cR (adk T) fun abF=>?_;exists T.LY.ok ra,9
 obtain ⟨q,row,n,wl,ds,d,rfl,R,hd,aV,fN,g9,MW,bC,k9⟩:=h;refine ⟨_,(aQ (bX (i:=3) ra.aB (gi (U 0) T.fT T.re rX aj T.v9 .nil dK (db (d4 (db dy (db dy (db dy av)))) av)))
   (aQ (bX (i:=4) ra.aB (bS ZJ aj T.am2 T.ii.bj T.bv (db (U 0) (db (U 2) av))))
   (aQ (bX (i:=5) ra.aB (gi (U 0) T.fT T.Gc og aj T.rS .nil dK (db aJ (db (bG Uf (U 1) aJ) av))))
   (aQ (bX (i:=6) ra.aB (bS amj aj T.anz T.EM.bj T.aeH (db (U 0) (db (U 1) (db (U 5) av)))))
   (aQ (bX (i:=7) ra.aB (gi (U 0) T.fT T.Gc og aj T.rS .nil dK (db aJ (db (mF rfl T.akm T.afb) av))))
   (aQ (bX (i:=8) ra.aB (gi (U 0) T.fT T.Gc og aj T.rS .nil dK (db aJ (db (mF rfl T.aft T.acn) av))))
   (aQ (bX (i:=9) ra.aB (gi (U 0) T.fT T.Gc og aj T.rS .nil dK (db aJ (db (mF rfl T.abR T.ahe) av))))
   (aQ (dN (oa (U 0) T.fT T.Ve FK aj T.Pi .nil dK))
   (a3 (cc (bS abF aj T.ahm T.F2.bj T.aiG (db (U 3) (db (U 4) (db (U 5) (db (U 6) (db (U 7) (db (U 8) (db (U 9) av)))))))))))))))))),?_⟩
 have hE:=hd.st;have fo:=hd.e';have j3:=hd.of;have jE:=hd.uu;have nz:=hd.le;obtain ⟨_,ax,a6,ao,aC⟩:=id R;nofun;refine ⟨_,_,ao,da.no _ _ _ (by ac_nf),by decide,fun p aq=>?_⟩;have s0:aH H (upd H p (.lst [V.str (ah "car"),V.str (ah "foot"),V.str (ah "tram")])):=a' aq;have f_:dx d.k ∈ [ah "car",ah "foot",ah "tram"]:=by
  have:=hd.k
  match d.k,this with
  | 0,_=>simp [dx]
  | 1,_=>simp [dx]
  | 2,_=>simp [dx]
 refine ⟨q,row,_,0,dx d.k,p,[ah "car",ah "foot",ah "tram"],rfl,R.same s0,rfl,ak.of aS,f_,fun H1 s1 ck kS=>?_⟩;have bR:dv q H H1:=(dv.of s0).trans s1;have kA:=ck bC.upd;nofun;refine ⟨q,row,_,1,wl,ds,d.name,rfl,kS,rfl,hd.nm,fN.xW bR R,g9,MW,kA,fun az s2 jD fb=>?_⟩;obtain ⟨_,JK,L',f2,g2⟩:=id fb;have gc:=bR.trans s2;nofun;refine ⟨_,_,f2,da.no _ _ _ (by ac_nf),⟨q,row,_,2,num d.start,0,n - 1,d.start,rfl,fb,rfl,rm (by omega) (by omega) (by omega) (by omega),jD,fun bI s3 c0 ng=>?_⟩⟩;have fx:=gc.trans s3;have rM:=c0 jD;nofun;refine ⟨q,row,_,3,n,d.start,d.fin,rfl,ng,rfl,hE,fo,hd.ne,aV.2,rM,fun cD s4 nt nk=>?_⟩;obtain ⟨_,ao7,ao6,f4,mW⟩:=id nk;have c8:=fx.trans s4;nofun;refine ⟨_,_,f4,da.no _ _ _ (by ac_nf),⟨q,row,_,4,num d.off,0,30,d.off,rfl,nk,rfl,rm (by omega) (by omega) (by omega) (by omega),nt,fun c3 s5 dT q8=>?_⟩⟩;obtain ⟨_,aoj,aoF,f7,Ux⟩:=id q8;have d8:=c8.trans s5;have iW:=dT nt;nofun;refine ⟨_,_,f7,da.no _ _ _ (by ac_nf),⟨q,row,_,5,num d.near,0,30,d.near,rfl,q8,rfl,rm (by omega) (by omega) (by omega) (by omega),iW,fun fz dO mh DA=>?_⟩⟩;obtain ⟨_,aod,an',oe,SK⟩:=id DA;have b4:=d8.trans dO;have n7:=mh iW;nofun;refine ⟨_,_,oe,da.no _ _ _ (by ac_nf),⟨q,row,_,6,num d.least,1,60,d.least,rfl,DA,rfl,rm (by omega) (by omega) (by omega) (by omega),n7,fun fe gs hg Sg=>?_⟩⟩;obtain ⟨_,anS,aoC,mi,ro⟩:=id Sg;have cA:=b4.trans gs;have ac7:=hg n7;nofun;refine ⟨_,_,mi,da.no _ _ _ (by ac_nf),⟨q,row,_,7,rfl,Sg,rfl,?_⟩⟩;nofun;refine ⟨d,rfl,hd.k,fun x iY hJ qe FJ Be=>?_⟩;refine k9 x iY (cA.trans (dv.of hJ)) (qe ac7) FJ ?_;cases jC:H x with
 | none=>rfl
 | some u=>
  by_cases SN:x=q
  .subst SN;rw [mi] at Be;cases Be
  .rw [cA x u SN jC] at Be;cases Be
noncomputable abbrev ua:List Str:=[ah "places",ah "ways",ah "numbers"]
noncomputable def pw (n:Int) (wl aB:Addr):List (Str × V):=[(ah "places",.int n),(ah "ways",.ref wl),(ah "numbers",.ref aB)]
theorem z3 (n:Int) (wl aB:Addr):(pw n wl aB).map (·.1)=ua:=rfl
noncomputable def nm (ds:List bx) (i:Nat):Str:=((ds[i]?).map (·.name)).getD (ah "")
noncomputable def kP (ds:List bx) (i:Nat):List (Key × V):=(cY i).map fun j=>(cx (nm ds j),V.int j)
theorem me (h:ds[i]? = some d):nm ds i=d.name:=by unfold nm;rw [h];rfl
theorem va (h:(ds.map (·.name)).Nodup) (ag:i < ds.length) (aN:j < ds.length) (e:nm ds i=nm ds j):i=j:=by
 rw [me (a_ ag),me (a_ aN)] at e;have:=(OC (xs:=ds.map (·.name)) (i:=i) (j:=j) (h₀:=by rw [aR];exact ag) (h₁:=by rw [aR];exact aN) h).mp (by rw [vF,vF];exact e);exact this
theorem SY (h:(ds.map (·.name)).Nodup):∀ {n:Nat},i < n->n <= ds.length->dn (kP ds n) (cx (nm ds i))=some (.int i):=by
 intro n
 induction n with
 | zero=>intro ag _;omega
 | succ n c2=>
  intro ag aV;unfold kP dn;rw [qB,dA,List.find?_append];by_cases c:i < n
  .have:=c2 c (by omega);unfold kP dn at this;cases e:am7 (fun dM=>decide (dM.fst=cx (nm ds i))) (p8 (fun j=>((cx (nm ds j):Key),V.int j)) (cY n)) with
   | none=>rw [e] at this;cases this
   | some p=>rw [e] at this;exact this
  .have e:i=n:=by omega
   subst e;have no:am7 (fun dM=>decide (dM.fst=cx (nm ds i))) (p8 (fun j=>((cx (nm ds j):Key),V.int j)) (cY i))=none:=by
    rw [Nm];intro p aq;obtain ⟨j,aN,rfl⟩:=b2.mp aq;have kD:=j2.mp aN;simp only [decide_eq_true_eq];intro z;have:=va h (by omega) (by omega) (BV z);omega
   rw [no];simp
theorem afm {x:Str} (h:∀ d ∈ ds,d.name ≠ x):∀ {n:Nat},n <= ds.length->dn (kP ds n) (cx x)=none:=by
 intro n aV;unfold dn kP;rw [Nm.mpr]
 .rfl
 intro p aq;obtain ⟨j,aN,rfl⟩:=b2.mp aq;have kD:=j2.mp aN;simp only [decide_eq_true_eq];intro z;have jy:j < ds.length:=by omega
 have e:=BV z;rw [me (a_ jy)] at e;exact h _ (jb jy) e
theorem ab9 (h:(ds.map (·.name)).Nodup) (aV:n < ds.length):fB (kP ds n) (cx (nm ds n)) (.int n)=kP ds (n + 1):=by
 unfold fB;have no:((kP ds n).any fun dM=>decide (dM.1=cx (nm ds n)))=false:=by
  rw [X2];intro p aq;obtain ⟨j,aN,rfl⟩:=b2.mp aq;have kD:=j2.mp aN;simp only [decide_eq_true_eq];intro z;have:=va h (by omega) aV (BV z);omega
 rw [no];unfold kP;rw [qB,dA];rfl
theorem yR (a:aH H H1) (b:dv q H1 az) (n:H q=none):aH H az:=fun c u e=>b c u (Db e n) (a c u e)
theorem J7 {t:b6} {p q:Addr} {k l:Nat} (a:da t H p i ws k) (b:da t H q j vs l) (n:i ≠ j):p ≠ q:=fun z=>by
 subst z;obtain ⟨_,ax,a6,ao,_⟩:=a;obtain ⟨_,hq,XP,aC,_⟩:=b;rw [ao] at aC;have bJ:=eL aC;injection bJ with _ _ e6;unfold m_ at e6;injection e6 with gY _;injection gY with _ e1;injection e1 with ic;exact n ic
theorem P0 {t:b6} {p q:Addr} (a:eX t H p d) (b:da t H q j vs l):p ≠ q:=fun z=>by
 subst z;obtain ⟨_,ax,ao⟩:=a;obtain ⟨_,hq,XP,aC,_⟩:=b;rw [ao] at aC;have bJ:=eL aC;injection bJ with _ _ e6;exact absurd (congrArg qX e6) (by show ¬ (7:Nat)=3;decide)
def fk (t:b6) (H:au) (c:Addr) (n:Int) (ds:List bx):Prop:=
 ((ds.map (·.name)).Nodup/\ds.length <= 12)/\∃ ax wl aB,H c=some (.ins t.hG ax (pw n wl aB))/\n' t H wl ds/\H aB=some (.di (kP ds ds.length))
theorem fk.same {t:b6} (h:fk t H c n ds) (s:aH H I):fk t I c n ds:=by
 obtain ⟨h0,ax,wl,aB,ao,aC,bJ⟩:=h;exact ⟨h0,ax,wl,aB,s _ _ ao,aC.same s,s _ _ bJ⟩
theorem lg {m:Str} (n:Int) (wl aB:Addr) (h:ua.contains m=false):(pw n wl aB).lookup m=none:=BL ua (z3 ..) h
section
variable {w:World} {K:bc} {mg:Str->Option Value} {t:b6} {H:au} {c ax wl aB:Addr} {n:Int}
theorem Z3 (T:Txt w K mg t) (e:H c=some (.ins t.hG ax (pw n wl aB))):hV K H c (ah "places") (.int n):=⟨_,ax,_,e,T.h8,T.WM,ks ua 0 (z3 ..) (by ac_nf) rfl⟩
theorem Fm (T:Txt w K mg t) (e:H c=some (.ins t.hG ax (pw n wl aB))):hV K H c (ah "ways") (.ref wl):=⟨_,ax,_,e,T.h8,T.ul,ks ua 1 (z3 ..) (by ac_nf) rfl⟩
theorem uJ (T:Txt w K mg t) (e:H c=some (.ins t.hG ax (pw n wl aB))):hV K H c (ah "numbers") (.ref aB):=⟨_,ax,_,e,T.h8,T.bi,ks ua 2 (z3 ..) (by ac_nf) rfl⟩
end
def V1 (t:b6):bO:=fun vs H Q _=>∃ c ax n wl ds,vs=[.ref c,.int n,.ref wl]/\H c=some (.ins t.hG ax [])/\n' t H wl ds/\(ds.map (·.name)).Nodup/\ds.length <= 12/\aL H /\
 ∀ I,dv c H I->aL I->fk t I c n ds->Q .cg I
def Rn (t:b6):bO:=fun vs H Q _=>∃ n ds,vs=[.str (qd n ds)]/\tA n ds/\aL H/\∀ c I,aH H I->aL I->fk t I c n ds->Q (.ref c) I
def Os (t:b6):bO:=fun vs H Q _=>∃ c n ds,vs=[.ref c]/\fk t H c n ds/\∀ p,H p=none->Q (.ref p) (upd H p (.lst (ba (ds.map (·.name)))))
def Y5 (t:b6):bO:=fun vs H Q _=>∃ c n ds,∃ i:Nat,∃ d,vs=[.ref c,.str d.name]/\fk t H c n ds/\ds[i]? = some d/\Q (.int (i:Nat)) H
def E8 (t:b6):bO:=fun vs H Q _=>∃ c n ds,∃ i:Nat,∃ d,vs=[.ref c,.str d.name]/\fk t H c n ds/\ds[i]? = some d/\∀ a,eX t H a d->Q (.ref a) H
theorem ZS:cu P base T 1 t.xK t.zD CW (V1 t):=by
 exists T.PZ.ok H',9
 obtain ⟨c,ax,n,wl,ds,rfl,ar,fN,h1,g9,bC,q⟩:=h;have b7:=ml aj;refine ⟨_,(aQ (h9 (U 0) (U 1) rfl)
   (aQ (h9 (U 0) (U 2) rfl)
   (aQ (h9 (U 0) OB rfl)
   (a3 (eU eJ rfl (CP rfl T.Tk (db (U 2) av)) (kW (K:=K) (n:=2) rfl rfl (eG (b5 (i:=3) H'.aB) (eG (b5 (i:=4) H'.aB) kJ))) (a3 (NS b7 (c4 (U 0) rfl) (c4 (U 4) rfl) (U 3) rfl))))))),?_⟩
 nofun;refine ⟨_,_,_,ar,T.h8,T.WM,by decide,?_⟩;refine ⟨_,_,_,aS,T.h8,T.ul,g8 (n:=999) (by decide),fun aB aV=>?_⟩;simp only [s9] at aV ⊢;rw [show eh (ah "places") (V.int n) ([]:List (Str × V))=[(ah "places",V.int n)] from rfl,show eh (ah "ways") (V.ref wl) [(ah "places",V.int n)]=[(ah "places",V.int n),(ah "ways",V.ref wl)] from iG [ah "places"] rfl (by ac_nf)] at aV ⊢;have AH:c ≠ aB:=fun z=>by subst z;rw [aS] at aV;cases aV
 refine ⟨t.hG,ax,[(ah "places",V.int n),(ah "ways",V.ref wl)],by rw [aZ AH];exact aS,T.h8,T.bi,show (2:Nat) < 1000 by decide,?_⟩;rw [show eh (ah "numbers") (V.ref aB) [(ah "places",V.int n),(ah "ways",V.ref wl)]=pw n wl aB from iG [ah "places",ah "ways"] rfl (by ac_nf)];obtain ⟨as,dI,dB,al⟩:=fN;have PY:H aB=none:=by rw [aZ (dF AH)] at aV;exact aV
 have jT:dv c H (upd (upd (upd H c (.ins t.hG ax [(ah "places",V.int n),(ah "ways",V.ref wl)])) aB (.di [])) c (.ins t.hG ax (pw n wl aB))):=fun b u ae e=>by
  rw [aZ ae,aZ (Db e PY),aZ ae];exact e
 have E5:wl ≠ c:=eI dI ar (by intro z;cases z);refine ⟨⟨_,ak.of (jT _ _ E5 dI)⟩,?_⟩;refine dP.enum (xs:=as.map V.ref) (fun i σ I=>(∃ x y,σ=[some (V.ref c),some (V.int n),some (V.ref wl),x,y])/\I c=some (.ins t.hG ax (pw n wl aB))/\I aB=some (.di (kP ds i))/\dv c H I/\aL I) ?_ ?_ ?_ ?_
 .exact ⟨⟨_,_,rfl⟩,aS,by rw [aZ (dF AH),aS];rfl,jT,((bC.upd).upd).upd⟩
 .rintro i σ I ag a7;ac_rfl
  obtain ⟨_,_,_,rr,_⟩:=a7;subst aY;exact ak.of (rr _ _ E5 dI)
 .rintro i v σ I p aG ⟨⟨x,y,rfl⟩,ab,ai,rr,nQ⟩ aq;obtain ⟨a,aK,rfl⟩:=cm aG;obtain ⟨ag,_⟩:=bY.mp aK;have ot:i < ds.length:=by omega
  have hd:ds[i]? = some ds[i]:=a_ ot;have jh:eX t H a ds[i]:=al i a _ aK hd;have I_:a ≠ c:=by
   obtain ⟨_,hq,e⟩:=jh;intro z;subst z;rw [ar] at e;have aC:=eL e;injection aC with _ _ bJ;exact absurd (congrArg qX bJ) (by show ¬ (0:Nat)=7;decide)
  have aiA:eX t I a ds[i]:=⟨jh.1,jh.2.imp fun hq e=>rr _ _ I_ e⟩;have sp:aH I (upd I p (.tup [.int i,.ref a])):=a' aq;refine tn ?_;nofun;refine ⟨_,uJ T (sp _ _ ab),_,(aiA.same sp).EP T,_,rfl,_,qv.k (k:=cx ds[i].name) (sp _ _ ai) (gI (show (kP ds i).length <= 12 by unfold kP;rw [aR,kh];omega) (by decide)),?_⟩;rw [<- me hd,ab9 h1 ot];refine ⟨⟨_,rfl⟩,?_,aS,fun b u ae e=>?_,(nQ.upd).upd⟩
  .rw [aZ AH];exact sp _ _ ab
  .rw [aZ (Db e PY)];exact sp _ _ (rr b u ae e)
 .rintro σ I a7;ac_rfl
  obtain ⟨⟨x,y,rfl⟩,ab,ai,rr,nQ⟩:=a7;subst aY;nofun;rw [aR,dB] at ai;refine q I rr nQ ⟨⟨h1,g9⟩,ax,wl,aB,ab,⟨as,rr _ _ E5 dI,dB,fun i a d a5 bQ=>?_⟩,ai⟩;have jh:=al i a d a5 bQ;have I_:a ≠ c:=by
   obtain ⟨_,hq,e⟩:=jh;intro z;subst z;rw [ar] at e;have aC:=eL e;injection aC with _ _ bJ;exact absurd (congrArg qX bJ) (by show ¬ (0:Nat)=7;decide)
  exact ⟨jh.1,jh.2.imp fun hq e=>rr _ _ I_ e⟩
theorem ai6:cu P base T 1 t.uz t.y9 jk (Y5 t):=by
 exists T.Lq.ok Qy,9
 obtain ⟨c,n,ds,i,d,rfl,⟨⟨h1,g9⟩,ax,wl,aB,ao,aC,bJ⟩,hd,q⟩:=h;have b7:=ml aj;have aG:dn (kP ds ds.length) (cx d.name)=some (.int i):=by
  rw [<- me hd];exact SY h1 (bY.mp hd).1 (bP _)
 have bg:iE H aB (.str d.name) (some (.int i)):=by rw [<- aG];exact iE.k (k:=cx d.name) bJ
 refine ⟨_,(aQ (dW (EU (Gr b7 (U 1) (c4 (U 0) rfl))) (a3 oQ) ec)
   (a3 (cc (vn b7 (c4 (U 0) rfl) (U 1) (fun _ _=>rfl))))),?_⟩
 nofun;refine cP false (fun Q aX=>?_) (fun ar=>nomatch ar) (fun _=>?_)
 .nofun;refine ⟨_,uJ T ao,_,rfl,_,bg,?_⟩;exact aX
 .nofun;exact ⟨_,uJ T ao,_,rfl,_,bg,q⟩
theorem vd:cu P base T 2 t.q3 t.si jk (E8 t):=by
 refine cR (ai6 T) fun al3=>?_;exists T.G9.ok Pg,9
 obtain ⟨c,n,ds,i,d,rfl,C,hd,q⟩:=h;obtain ⟨⟨h1,g9⟩,ax,wl,aB,ao,⟨as,dI,dB,al⟩,bJ⟩:=id C;refine ⟨_,(a3 (cc (bl b0 (c4 (U 0) rfl) (gi (U 0) T.h8 T.Oa al3 aj T.U6 .nil dK (db (U 1) av))))),?_⟩;nofun;refine ⟨_,Fm T ao,_,_,ao,lg _ _ _ (by ac_nf),⟨c,n,ds,i,d,rfl,C,hd,?_⟩⟩;have ag:i < as.length:=by rw [dB];exact (bY.mp hd).1
 have aK:as[i]? = some as[i]:=a_ ag;nofun;refine ⟨_,ak.of dI,_,bA (show (as.map V.ref)[i]? = some (V.ref as[i]) by rw [cV,aK];rfl),?_⟩;exact q as[i] (al i _ d aK hd)
theorem ak7:cu P base T 7 t.Ex t.Es ["text"] (Rn t):=by
 have Fn:bV P w K mg base c9 6 t.zk t.xo ["text"] (FE t):=(Qg T).mono (by decide);have aeJ:bV P w K mg base c9 6 t.Ds t.zU ["reader"] (UO t):=(adn T).mono (by decide);have anw:bV P w K mg base c9 6 t.zE t.AX An (V' t):=agY T;have adJ:bV P w K mg base c9 5 t.xK t.zD CW (V1 t):=(ZS T).mono (by decide);exists T.Mc.ok xH,9
 obtain ⟨n,ds,rfl,cK,bC,k9⟩:=h;refine ⟨_,(aQ (bX (i:=1) xH.aB (bS Fn aj T.TJ T.BJ.bj T.SA (db (U 0) av)))
   (aQ (bX (i:=2) xH.aB (bS aeJ aj T.afI T.Ng.bj T.aeD (db (bl b0 (U 1) aJ) av)))
   (aQ (bX (i:=3) xH.aB (d4 av))
   (aQ (eU eJ rfl (eZ (mf rQ (U 1) (k7 aJ) ou)) (b5 (i:=4) xH.aB) (aQ (dW (c5 eQ (ep fV rfl T.fG fJ (db (U 3) av)) (mF rfl T.ZF T.alc) (cF _)) (a3 oQ) ec)
   (a3 (dN (ef e2 h2 iC hY (U 3) (db (bS anw aj T.acj T.LY.bj T.ZR (db (U 4) (db (U 2) (db (U 3) av)))) av))))))
   (aQ (dW (x6 (V2 (U 3) (fun _=>rfl))) (a3 oQ) ec)
   (a3 (cc (vD T.aaZ adJ aj rfl T.akl T.Zd .nil dK (db (U 2) (db (U 3) av)))))))))),?_⟩
 have tZ:=aj5 cK;have hlen:=aei cK;have R2:=cK.nn;have aeq:=cK.ln;nofun;refine ⟨qd n ds,rfl,by omega,?_,bC,fun p H1 uA i0 R=>?_⟩
 .rw [tZ];intro r aj;refine ⟨?_,fun x af=>cq (cK.plain r aj x af).1 (by decide)⟩;rcases d9.mp aj with rfl | aj
  .show (2:Nat) <= 1000;decide
  .obtain ⟨d,hd,rfl⟩:=b2.mp aj;show (7:Nat) <= 1000;decide
 rw [tZ] at R;obtain ⟨qs,aq,vz,mm,BP⟩:=R;have wh:qs.length=ds.length + 1:=by rw [mm];simp [iD]
 obtain ⟨jA,jx,rfl⟩:∃ jA jx,qs=jA :: jx:=by
  cases qs with
  | nil=>simp at wh
  | cons a b=>exact ⟨a,b,rfl⟩
 obtain ⟨Bt,Ep⟩:=BP 0 jA _ rfl rfl;nofun;refine ⟨_,ak.of aq,_,bA (j:=0) rfl,⟨jA,_,n,rfl,Bt,R2,i0,fun az s2 uR=>⟨fg _,fun wl h5=>?_⟩⟩⟩;obtain ⟨aoQ,aok,aoV,adW⟩:=Bt.ins;have agj:p ≠ jA:=eI aq adW (by intro z;cases z);have fm:az p=some (.lst ((jA :: jx).map V.ref)):=s2 _ _ agj aq;have Hl:aH az (upd az wl (.lst [])):=a' h5;have F9:ij ((jA :: jx).map V.ref) (some 1) none=jx.map V.ref:=by
  unfold ij;simp [eO.cZ];exact Cw (by rw [aR];exact bP _)
 refine ⟨_,ak.of (Hl _ _ fm),fun pc Gq=>?_⟩;rw [F9];have L7:pc ≠ wl:=fun z=>by subst z;rw [aS] at Gq;cases Gq
 have Ma:aH (upd az wl (.lst [])) (upd (upd az wl (.lst [])) pc (.lst (jx.map V.ref))):=a' Gq;refine ⟨⟨_,ak.of aS⟩,?_⟩;have Nw:aH H az:=yR uA s2 Ep;have amf:jx.length=ds.length:=by simpa using wh
 refine dP.list (xs:=jx.map V.ref) (fun i σ I=>(∃ x,σ=[some (V.str (qd n ds)),some (V.ref p),some (V.int n),some (V.ref wl),x])/\aL I/\aH H I/\I pc=some (.lst (jx.map V.ref))/\H wl=none/\n' t I wl (ds.take i) /\
  ∀ (j:Nat) (q:Addr) (d:bx),i <= j->jx[j]? = some q->ds[j]? = some d->da t I q ((j + 1:Nat):Int) (nS d) 0/\H q=none) ?_ ?_ ?_ ?_
 .refine ⟨⟨_,rfl⟩,(uR.upd).upd,(Nw.trans Hl).trans Ma,aS,Nw.free h5,⟨[],Ma _ _ aS,rfl,fun j a d h=>by simp at h⟩,fun j q d _ ab ai=>?_⟩;have aj:(iD n ds)[j + 1]? = some (nS d):=by
   unfold iD;rw [Dd,cV,ai];rfl
  obtain ⟨pG,eS⟩:=BP (j + 1) q _ (by rw [Dd];exact ab) aj;refine ⟨((pG.xW s2 (J7 pG Bt (by omega)) Bt.ins).same Hl).same Ma,eS⟩
 .rintro i σ I ag a7;ac_rfl
  obtain ⟨_,_,_,h,_⟩:=a7;subst aY;exact ak.of h
 .rintro i v σ I aG a7;ac_rfl
  obtain ⟨⟨x,rfl⟩,nQ,n0,JT,K4,W,Rs⟩:=a7;obtain ⟨q,aM,rfl⟩:=cm aG;obtain ⟨ag,_⟩:=bY.mp aM;have ot:i < ds.length:=by omega
  have hd:ds[i]? = some ds[i]:=a_ ot;obtain ⟨oE,gW⟩:=Rs i q _ (bP _) aM hd;have j6:(ds.take i).length=i:=by rw [gZ];omega
  obtain ⟨as,dI,dB,al⟩:=id W;subst aY;nofun;refine cP false (fun Q aX=>?_) (fun ar=>nomatch ar) (fun _=>?_)
  .nofun;refine ⟨_,.inl (ak.of dI),?_⟩;rw [aR,dB,j6];rw [decide_eq_false (by omega)] <;> exact aX
  .nofun;refine ⟨.inl ⟨_,ak.of dI⟩,?_⟩;refine ⟨q,_,n,wl,ds.take i,ds[i],rfl,oE,cK.al _ (jb ot),R2,W,by omega,fun e he z=>?_,nQ,fun y bI s3 uC gD Rc=>?_⟩
   .obtain ⟨j,aN,rfl⟩:=Rz he;rw [alU] at z;have kD:j < i:=by omega
    have:=va cK.aB (i:=j) (j:=i) (by omega) ot (by rw [me (a_ (by omega)),me hd];exact z);omega
   .nofun;obtain ⟨an3,Dv,ao5,fM⟩:=oE.ins;have r':wl ≠ q:=eI dI fM (by intro z;cases z);have Mn:bI wl=some (.lst (as.map V.ref)):=s3 _ _ r' dI;have aif:aH H bI:=yR n0 s3 gW;refine ⟨_,Mn,gI (show (as.map V.ref).length <= 12 by rw [aR];omega) (by decide),?_⟩;have afZ:y ≠ wl:=fun z=>by
     subst z;rw [dI] at Rc;cases Rc
    refine ⟨⟨_,rfl⟩,uC.upd,fun b u e=>?_,?_,K4,⟨as ++ [y],by rw [aS,dA];rfl,?_,fun j a d ab ai=>?_⟩,fun j cb d aN ab ai=>?_⟩
    .rw [aZ (Db e K4)];exact aif _ _ e
    .rw [aZ L7];exact s3 _ _ (eI JT fM (by intro z;cases z)) JT
    .rw [cC,dB,j6,gZ];show i + 1=_;omega
    .by_cases aN:j < as.length
     .rw [m9 aN] at ab;have DQ:(ds.take i)[j]? = some d:=by
       rw [xk (by omega)];rw [xk (by omega)] at ai;exact ai
      obtain ⟨aE,hq,e⟩:=al j a d ab DQ;have amF:a ≠ q:=P0 ⟨aE,hq,e⟩ oE;have ac':a ≠ wl:=eI e dI (by intro z;cases z);exact ⟨aE,hq,by rw [aZ ac'];exact s3 _ _ amF e⟩
     .rw [k5 (by omega)] at ab;have xG:j - as.length=0:=by
       cases bU:j - as.length with
       | zero=>rfl
       | succ m=>rw [bU] at ab;simp at ab
      rw [xG] at ab;have bJ:y=a:=by simpa using ab
      subst bJ;have e6:j=i:=by omega
      subst e6;rw [xk (by omega),hd] at ai;cases ai;exact ⟨gD.1,gD.2.imp fun hq e=>by rw [aZ afZ];exact e⟩
    .obtain ⟨pG,eS⟩:=Rs j cb d (by omega) ab ai;have ng:=pG.xW s3 (J7 pG oE (by omega)) oE.ins;refine ⟨?_,eS⟩;obtain ⟨aF,hq,a6,ao,aC⟩:=ng;refine ⟨aF,hq,a6,by rw [aZ (eI ao Mn (by intro z;cases z))];exact ao,?_⟩;rw [aZ (fun z=>by
      subst z;rw [Mn] at aC;have gY:=eL aC;injection gY with e1;cases as with
      | nil=>exact absurd (congrArg qX e1) (by show ¬ (0:Nat)=7;decide)
      | cons a r=>injection e1 with ic _;cases ic)]
     exact aC
 .rintro σ I a7;ac_rfl
  obtain ⟨⟨x,rfl⟩,nQ,n0,JT,K4,W,Rs⟩:=a7;subst aY;rw [aR,amf,iF] at W;obtain ⟨as,dI,dB,al⟩:=id W;nofun;refine cP false (fun Q aX=>?_) (fun ar=>nomatch ar) (fun _=>?_)
  .nofun;refine ⟨true,.inl ⟨_,ak.of dI,?_⟩,aX⟩;cases as with
   | nil=>simp at dB;omega
   | cons a r=>rfl
  .nofun;intro c ax ar zt cB;have sc:aH I (upd (upd I ax (.own c)) c (.ins t.hG ax [])):=((aH.refl I).gk zt).gk ar;refine ⟨c,ax,n,wl,ds,rfl,aS,W.same sc,cK.aB,aeq.2,(nQ.upd).upd,fun c3 s5 E3 Mr=>⟨rfl,?_⟩⟩;exact k9 c c3 (yR (n0.trans sc) s5 (n0.free ar)) E3 Mr
theorem JB:cu P base T 1 t.wz t.Ag ["self"] (Os t):=by
 exists T.Rv.ok aj8,9
 obtain ⟨c,n,ds,rfl,⟨⟨h1,g9⟩,ax,wl,aB,ao,⟨as,dI,dB,al⟩,bJ⟩,q⟩:=h;refine ⟨_,(a3 (cc (gy rfl (eZ (c4 (U 0) rfl)) (fy (sc:=bt G_) rfl (by ac_nf)) (N:=["way"]) (sel:=[none]) (fs (M:=["self"]) (by ac_nf)) (eT.of (fun _ _ _ _=>(b5 (i:=0) (dX (N:=["way"]) (by ac_nf) rfl))) (fun _ _ _ _=>⟨_,gV,by walk_at "B"⟩) (fun _ _ _ _=>⟨_,(c4 (U 0) rfl),by walk_at "B"⟩))))),?_⟩;nofun;refine ⟨_,Fm T ao,_,rfl,⟨_,ak.of dI⟩,?_⟩;refine cX.kU (xs:=as.map V.ref) (zs:=ba (ds.map (·.name))) (ak.of dI) (by rw [aR,dB];exact cq g9 (by decide)) (by rw [gx,aR,aR,dB]) (fun i v z N aG hR bb=>?_) (fun p aq=>q p aq);obtain ⟨a,aK,rfl⟩:=cm aG;obtain ⟨x,af,rfl⟩:=cm hR;obtain ⟨d,hd,rfl⟩:=cm af;nofun;exact ⟨Sub.name,_,(al i a d aK hd).EP T,bb⟩
theorem Dh {n s p:Int} (h0:0 <= s) (ab:s < n) (ai:0 <= p) (a5:p < n):(p - s) % n=if s <= p then p - s else p - s + n:=by
 split
 .rename_i h;exact qU (by omega) (by omega)
 .rename_i h;have e:(p - s) % n=(p - s + n) % n:=(Int.add_emod_right ..).symm;rw [e];exact qU (by omega) (by omega)
noncomputable def ind (n s p i:Int):Int:=if 0 < (p - s) % n/\(p - s) % n <= i then 1 else 0
noncomputable def k0 (n s f p:Int):Bool:=decide (0 < (p - s) % n) && decide ((p - s) % n < (f - s) % n)
noncomputable def sX (n s f s2 f2:Int):Bool:=decide (f=f2) || (if (s2=s\/s2=f)\/(f2=s\/f2=f) then false else (k0 n s f s2 != k0 n s f f2))
theorem DF {s f p:Int} (ab:p ≠ s) (ai:p ≠ f) (a5:s ≠ f):((decide (s < f) && decide (f < p) && !decide (s < p)) || (!decide (s < f) && !decide (f < p) && decide (s < p)))=false:=by
 by_cases a:s < f <;> by_cases b:f < p
 .rw [decide_eq_true a,decide_eq_true b,decide_eq_true (show s < p by omega)];rfl
 .rw [decide_eq_true a,decide_eq_false b];rfl
 .rw [decide_eq_false a,decide_eq_true b];rfl
 .rw [decide_eq_false a,decide_eq_false b,decide_eq_false (show ¬ s < p by omega)];rfl
theorem vB {s p:Int} (h:s ≠ p):decide (p < s) = !decide (s < p):=by
 by_cases a:s < p
 .rw [decide_eq_true a,decide_eq_false (by omega)];rfl
 .rw [decide_eq_false a,decide_eq_true (by omega)];rfl
theorem EC {n s f p:Int} (aw:0 <= s/\s < n) (hf:0 <= f/\f < n) (aq:0 <= p/\p < n) (ab:p ≠ s) (ai:p ≠ f) (a5:s ≠ f):k0 n s f p=((decide (s < p) && decide (p < f)) || (decide (p < f) && decide (f < s)) || (decide (f < s) && decide (s < p))):=by
 unfold k0;rw [Dh aw.1 aw.2 aq.1 aq.2,Dh aw.1 aw.2 hf.1 hf.2,decide_eq_true (show 0 < (if s <= p then p - s else p - s + n) by split <;> omega),rZ,vB a5];by_cases a:s < p <;> by_cases b:s < f
 .rw [if_pos (by omega),if_pos (by omega),decide_eq_true a,decide_eq_true b,show decide (p - s < f - s)=decide (p < f) from decide_eq_decide.mpr (by omega)];cases decide (p < f) <;> rfl
 .rw [if_pos (by omega),if_neg (by omega),decide_eq_true a,decide_eq_false b,decide_eq_true (show p - s < f - s + n by omega)];cases decide (p < f) <;> rfl
 .rw [if_neg (by omega),if_pos (by omega),decide_eq_false a,decide_eq_true b,decide_eq_false (show ¬ p - s + n < f - s by omega)];cases decide (p < f) <;> rfl
 .rw [if_neg (by omega),if_neg (by omega),decide_eq_false a,decide_eq_false b,show decide (p - s + n < f - s + n)=decide (p < f) from decide_eq_decide.mpr (by omega)];cases decide (p < f) <;> rfl
theorem afc:∀ a b c d e g:Bool,((a && d && !b) || (!a && !d && b))=false->((a && e && !c) || (!a && !e && c))=false->((b && g && !c) || (!b && !g && c))=false->((d && g && !e) || (!d && !g && e))=false ->
  (((b && !d) || (!d && !a) || (!a && b)) != ((c && !e) || (!e && !a) || (!a && c)))=(((!b && c) || (c && !g) || (!g && !b)) != ((!d && e) || (e && !g) || (!g && !d))):=by ac_nf
theorem Z4 (aw:0 <= s/\s < n) (hf:0 <= f/\f < n) (jB:0 <= s2/\s2 < n) (HM:0 <= f2/\f2 < n) (cB:s ≠ f) (yb:s2 ≠ f2):sX n s f s2 f2=sX n s2 f2 s f:=by
 unfold sX;by_cases e:f=f2
 .rw [decide_eq_true e,decide_eq_true e.symm];rfl
 .rw [decide_eq_false e,decide_eq_false (dF e)];by_cases c:(s2=s\/s2=f)\/(f2=s\/f2=f)
  .have c':(s=s2\/s=f2)\/(f=s2\/f=f2):=by omega
   rw [if_pos c,if_pos c']
  .have c':¬ ((s=s2\/s=f2)\/(f=s2\/f=f2)):=by omega
   rw [if_neg c,if_neg c'];have ck:s2 ≠ s:=by omega
   have cv:s2 ≠ f:=by omega
   have c0:f2 ≠ s:=by omega
   have de:f2 ≠ f:=by omega
   rw [pd,pd,EC aw hf jB ck cv cB,EC aw hf HM c0 de cB,EC jB HM aw ck.symm c0.symm yb,EC jB HM hf cv.symm de.symm yb,vB ck.symm,vB cv.symm,vB de.symm,vB cB,vB yb];exact afc _ _ _ _ _ _ (DF ck cv cB) (DF c0 de cB) (DF c0 yb.symm ck.symm) (DF de yb.symm cv.symm)
noncomputable abbrev mt (n:Int) (d e:bx):Bool:=sX n d.start d.fin e.start e.fin
def TU (t:b6):bO:=fun vs H Q _=>∃ a d n p,vs=[.int n,.ref a,.int p]/\eX t H a d/\0 < n/\Q (.bw (k0 n d.start d.fin p)) H
noncomputable def wU (n:Int) (d e:bx):Bool:=if (e.start=d.start\/e.start=d.fin)\/(e.fin=d.start\/e.fin=d.fin) then false else (k0 n d.start d.fin e.start != k0 n d.start d.fin e.fin)
def aeT (t:b6):bO:=fun vs H Q _=>∃ a b d e n,vs=[.int n,.ref a,.ref b]/\eX t H a d/\eX t H b e/\0 < n/\aL H/\Q (.bw (wU n d e)) H
def KK (t:b6):bO:=fun vs H Q _=>∃ a b d e n,vs=[.int n,.ref a,.ref b]/\eX t H a d/\eX t H b e/\0 < n/\∀ I,aH H I->Q (.bw (wU n d e)) I
def RE (t:b6):bO:=fun vs H Q _=>∃ c n ds,∃ i j:Nat,∃ d e,vs=[.ref c,.str d.name,.str e.name]/\fk t H c n ds/\0 < n/\ds[i]? = some d/\ds[j]? = some e/\aL H/\Q (.bw (mt n d e)) H
theorem ad9:cu P base T 1 t.Ae t.Ps BE (TU t):=by
 exists T.AB.ok N',9
 obtain ⟨a,d,n,p,rfl,W,aV,q⟩:=h;refine ⟨_,(aQ (bX (i:=3) N'.aB (bG jj (bG Uf (U 2) (c4 (U 1) rfl)) (U 0)))
   (a3 (cc (w1 (hx pv aJ (U 3) (cF _)) (vp (hx pv (U 3) (bG jj (bG Uf (c4 (U 1) rfl) (c4 (U 1) rfl)) (U 0)) (cF _))))))),?_⟩
 nofun;refine ⟨_,W.u2 T,_,rfl,aV,?_⟩;unfold k0 at q;by_cases c:0 < (p - d.start) % n
 .rw [if_pos (decide_eq_true c)];rw [decide_eq_true c,rZ] at q;exact ⟨_,W.tj T,_,W.u2 T,_,rfl,_,rfl,aV,q⟩
 .rw [if_neg (by simpa using c)];rw [decide_eq_false c,uZ] at q;exact q
theorem Uq (x a b:Int):pb (.int x) [.int a,.int b]=decide (x=a\/x=b):=by
 unfold pb;simp only [yV,List.any_nil,lV,abn];rw [n5];simp only [y3,beq_iff_eq,decide_eq_true_eq];omega
theorem aa2:cu P base T 2 t.GX t.F6 Aj (aeT t):=by
 refine bV.forget (sp:=KK t) ?_ fun vs H Q E h=>?_
 .have RN:bV P w K mg base c9 1 t.Ae t.Ps BE (TU t):=ad9 T;exists T.EZ.ok XJ,9
  obtain ⟨a,b,d,e,n,rfl,jh,qM,aV,q⟩:=h;refine ⟨_,(aQ (dW (fW.pt (vA (c5 tD (c4 (U 2) rfl) (d4 (db (c4 (U 1) rfl) (db (c4 (U 1) rfl) av))) (by with_unfolding_all rfl)) (wB (c5 tD (c4 (U 2) rfl) (d4 (db (c4 (U 1) rfl) (db (c4 (U 1) rfl) av))) (by with_unfolding_all rfl))))) (a3 (cc oZ)) ec)
   (a3 (cc (hx mz (bS RN aj T.RU T.AB.bj T.NG (db (U 0) (db (U 1) (db (c4 (U 2) rfl) av)))) (bS RN aj T.RU T.AB.bj T.NG (db (U 0) (db (U 1) (db (c4 (U 2) rfl) av)))) (cF _))))),?_⟩
  nofun;refine alm (fun b I=>aH H I/\b=decide ((e.start=d.start\/e.start=d.fin)\/(e.fin=d.start\/e.fin=d.fin))) (fun Q aX=>?_) (fun I ⟨bu,ae⟩=>?_) (fun I ⟨bu,ae⟩=>?_)
  .nofun;refine ⟨_,qM.u2 T,_,jh.u2 T,_,jh.tj T,by decide,fun p aq=>⟨_,.inl (ak.of aS),rfl,rfl,?_⟩⟩;have s1:aH H (upd H p (.lst [.int d.start,.int d.fin])):=a' aq;rw [Uq];by_cases a9:e.start=d.start\/e.start=d.fin
   .rw [if_pos (decide_eq_true a9)];exact aX _ _ ⟨s1,(decide_eq_true (.inl a9)).symm⟩
   .rw [if_neg (by simpa using a9)];refine ⟨_,(qM.same s1).tj T,_,(jh.same s1).u2 T,_,(jh.same s1).tj T,by decide,fun df fm=>⟨_,.inl (ak.of aS),rfl,rfl,?_⟩⟩;rw [Uq];refine aX _ _ ⟨s1.trans (a' fm),?_⟩;rw [n5,decide_eq_true_eq,decide_eq_true_eq];exact ⟨.inr,fun z=>z.resolve_left a9⟩
  .nofun;have fD:=of_decide_eq_true ae.symm;have:=q I bu;unfold wU at this;rw [if_pos fD] at this;exact this
  .nofun;have fD:=of_decide_eq_false ae.symm;refine ⟨_,(qM.same bu).u2 T,⟨a,d,n,_,rfl,jh.same bu,aV,?_⟩⟩;refine ⟨_,(qM.same bu).tj T,⟨a,d,n,_,rfl,jh.same bu,aV,?_⟩⟩;refine ⟨rfl,?_⟩;have:=q I bu;unfold wU at this;rw [if_neg fD] at this;rw [show (!decide (V.bw (k0 n d.start d.fin e.start)=V.bw (k0 n d.start d.fin e.fin)))=(k0 n d.start d.fin e.start != k0 n d.start d.fin e.fin) by
    cases k0 n d.start d.fin e.start <;> cases k0 n d.start d.fin e.fin <;> rfl]
   exact this
 .obtain ⟨a,b,d,e,n,ab,ai,a5,bQ,bC,q⟩:=h;exact ⟨bC,a,b,d,e,n,ab,ai,a5,bQ,fun I bu=>⟨bu,q⟩⟩
theorem aeR (n:Int) (d e:bx):mt n d e=(decide (d.fin=e.fin) || wU n d e):=rfl
theorem QO:cu P base T 3 t.Cz t.DI rG (RE t):=by
 refine cR (vd T) fun mc=>cR (aa2 T) fun ajp=>?_;exists T.Ad.ok LC,9
 obtain ⟨c,n,ds,i,j,d,e,rfl,C,aV,hd,he,bC,q⟩:=h;obtain ⟨_,ax,wl,aB,ao,aC,bJ⟩:=id C;refine ⟨_,(aQ (bX (i:=3) LC.aB (gi (U 0) T.h8 T.oH mc aj T.pT .nil dK (db (U 1) av)))
   (aQ (bX (i:=4) LC.aB (gi (U 0) T.h8 T.oH mc aj T.pT .nil dK (db (U 2) av)))
   (a3 (cc (N3 (hx eQ (c4 (U 3) rfl) (c4 (U 4) rfl) (cF _)) (vp (bS ajp aj T.alF T.EZ.bj T.tz (db (c4 (U 0) rfl) (db (U 3) (db (U 4) av)))))))))),?_⟩
 rw [aeR] at q;nofun;refine ⟨_,_,ao,lg _ _ _ (by ac_nf),⟨c,n,ds,i,d,rfl,C,hd,fun a jh=>?_⟩⟩;nofun;refine ⟨_,_,ao,lg _ _ _ (by ac_nf),⟨c,n,ds,j,e,rfl,C,he,fun b qM=>?_⟩⟩;nofun;refine ⟨_,jh.tj T,_,qM.tj T,rfl,?_⟩;nofun;by_cases a9:d.fin=e.fin
 .rw [if_pos (decide_eq_true a9)];rw [decide_eq_true a9,t4] at q;exact q
 .rw [if_neg (by simpa using a9)];rw [decide_eq_false a9,pd] at q;exact ⟨_,Z3 T ao,⟨a,b,d,e,n,rfl,jh,qM,aV,bC,q⟩⟩
def SV (t:b6):bO:=fun vs H Q _=>∃ c n ds,∃ i j:Nat,∃ d e,vs=[.ref c,.str d.name,.str e.name]/\fk t H c n ds/\ds[i]? = some d/\ds[j]? = some e/\Q (.int (if d.off - e.near > 0 then d.off - e.near else 0)) H
theorem ajm:cu P base T 3 t.C8 t.Cg rG (SV t):=by
 refine cR (vd T) fun mc=>?_;exists T.JR.ok Fh,9
 obtain ⟨c,n,ds,i,j,d,e,rfl,C,hd,he,q⟩:=h;obtain ⟨_,ax,wl,aB,ao,aC,bJ⟩:=id C;refine ⟨_,(aQ (bX (i:=3) Fh.aB (gi (U 0) T.h8 T.oH mc aj T.pT .nil dK (db (U 1) av)))
   (aQ (bX (i:=4) Fh.aB (gi (U 0) T.h8 T.oH mc aj T.pT .nil dK (db (U 2) av)))
   (a3 (cc (ep (Vf rfl) rfl T.t2 yZ (db aJ (db (bG Uf (c4 (U 3) rfl) (c4 (U 4) rfl)) av))))))),?_⟩
 nofun;refine ⟨_,_,ao,lg _ _ _ (by ac_nf),⟨c,n,ds,i,d,rfl,C,hd,fun a jh=>?_⟩⟩;nofun;refine ⟨_,_,ao,lg _ _ _ (by ac_nf),⟨c,n,ds,j,e,rfl,C,he,fun b qM=>?_⟩⟩;nofun;refine ⟨_,jh.Pk T,_,qM.amA T,?_⟩;nofun;exact q
theorem mC {α:Type} {xs:List α} {i:Nat} {x:α} (h:xs[i]? = some x):xs.take (i + 1)=xs.take i ++ [x]:=by
 rw [nC,h];rfl
structure ST where
 lo:Int
 ag:Int
 mem:List Str
noncomputable def HY (r:ST) (m:Addr):gL:=.tup [.int r.lo,.int r.ag,.ref m]
structure iI (H:au) (p:Addr) (qs ms:List Addr) (rows:List ST):Prop where
 at_:H p=some (.lst (qs.map V.ref))
 b_:qs.length=rows.length
 cM:ms.length=rows.length
 al:∀ (i:Nat) (q m:Addr) (r:ST),qs[i]? = some q->ms[i]? = some m->rows[i]? = some r->H q=some (HY r m)/\H m=some (.lst (ba r.mem))
theorem iI.same {p:Addr} {rows:List ST} (h:iI H p qs ms rows) (s:aH H I):iI I p qs ms rows:=
 ⟨s _ _ h.at_,h.b_,h.cM,fun i q m r a b c=>⟨s _ _ (h.al i q m r a b c).1,s _ _ (h.al i q m r a b c).2⟩⟩
structure mQ (H:au) (p:Addr) (ms:List Addr) (dk:List (List Str)):Prop where
 at_:H p=some (.lst (ms.map V.ref))
 ln:ms.length=dk.length
 al:∀ (i:Nat) (m:Addr) (x:List Str),ms[i]? = some m->dk[i]? = some x->H m=some (.lst (ba x))
theorem mQ.same {p:Addr} (h:mQ H p ms dk) (s:aH H I):mQ I p ms dk:=
 ⟨s _ _ h.at_,h.ln,fun i m x a b=>s _ _ (h.al i m x a b)⟩
noncomputable def nd (i:Nat) (aA:List (Key × V)) (ms:List Str):List (Key × V):=ms.foldl (fun aA x=>fB aA (cx x) (.int i)) aA
noncomputable def gH (dk:List (List Str)):List (Key × V):=dk.zipIdx.foldl (fun aA e=>nd e.2 aA e.1) []
theorem ad_ (aA:List (Key × V)) (k:Key) (v:V):(fB aA k v).length <= aA.length + 1:=by
 unfold fB;split
 .rw [aR];omega
 .rw [cC];exact bP _
theorem NL (i:Nat) (aA:List (Key × V)) (ms:List Str) (x:Str):nd i aA (ms ++ [x])=fB (nd i aA ms) (cx x) (.int i):=by
 unfold nd;rw [aeO];rfl
theorem amQ (dk:List (List Str)) (ms:List Str):gH (dk ++ [ms])=nd dk.length (gH dk) ms:=by
 unfold gH;rw [List.zipIdx_append,aeO];simp
theorem M9 (i:Nat) (x:Str):∀ (ms:List Str) (aA:List (Key × V)),dn (nd i aA ms) (cx x)=if x ∈ ms then some (.int i) else dn aA (cx x)
 | [],aA=>by simp [nd]
 | y :: ms,aA=>by
  show dn (nd i (fB aA (cx y) (.int i)) ms) (cx x)=_;rw [M9 i x ms,N4];by_cases c:x ∈ ms
  .rw [if_pos c,if_pos (gS _ c)]
  .rw [if_neg c];by_cases d:x=y
   .subst d;rw [if_pos rfl,if_pos (kO ..)]
   .rw [if_neg (fun e=>d (BV e)),if_neg (fun e=>by
     rcases d9.mp e with e | e
     .exact d e
     .exact c e)]
theorem FA {dk:List (List Str)} {i:Nat} {ms:List Str} (h:dk[i]? = some ms):gH (dk.take (i + 1))=nd i (gH (dk.take i)) ms:=by
 rw [mC h,amQ,gZ,Bo (mM (bY.mp h).1)]
theorem WV {x:Str}:∀ (n:Nat) (dk:List (List Str)),n <= dk.length->((dn (gH (dk.take n)) (cx x)).isSome=true↔∃ ms ∈ dk.take n,x ∈ ms)
 | 0,dk,_=>by simp [gH,dn]
 | n + 1,dk,aV=>by
  have h:dk[n]? = some dk[n]:=a_ (by omega);rw [FA h,M9,mC h];have c2:=WV (x:=x) n dk (by omega);by_cases c:x ∈ dk[n]
  .rw [if_pos c];exact ⟨fun _=>⟨_,iV _ (eu.mpr rfl),c⟩,fun _=>rfl⟩
  .rw [if_neg c,c2];constructor
   .rintro ⟨ms,ab,ai⟩;exact ⟨ms,nE _ ab,ai⟩
   .rintro ⟨ms,ab,ai⟩;rcases dZ.mp ab with ab | ab
    .exact ⟨ms,ab,ai⟩
    .rw [eu.mp ab] at ai;exact absurd ai c
theorem zJ (p:Str->Bool):∀ xs:List Str,((xs.map fun x=>if p x=true then some (V.str x) else none).flatMap uy)=ba (xs.filter p)
 | []=>rfl
 | x :: xs=>by
  rw [eB,u',zJ p xs];by_cases c:p x=true
  .rw [if_pos c,W9 c];rfl
  .rw [if_neg c,Xp c];rfl
noncomputable def told (rows:List ST) (x:Str):Bool:=rows.any fun r=>r.mem.contains x
noncomputable def g5 (ds:List bx) (rows:List ST):List Str:=(ds.map (·.name)).filter fun x=>!told rows x
theorem S8 (rows:List ST) (x:Str):(dn (gH (rows.map (·.mem))) (cx x)).isSome=told rows x:=by
 rw [n5];have:=WV (x:=x) (rows.map (·.mem)).length (rows.map (·.mem)) (bP _);rw [iF] at this;rw [this];unfold told;rw [se];constructor
 .rintro ⟨ms,ab,ai⟩;obtain ⟨r,aj,rfl⟩:=b2.mp ab;exact ⟨r,aj,by simpa using ai⟩
 .rintro ⟨r,aj,h⟩;exact ⟨_,b2.mpr ⟨r,aj,rfl⟩,by simpa using h⟩
noncomputable def iq (d:bx):Str:=if d.k=2 then ah "trams" else ah "others"
def aag (t:b6):bO:=fun vs H Q _=>∃ c n ds,∃ i:Nat,∃ d,vs=[.ref c,.str d.name]/\fk t H c n ds/\ds[i]? = some d/\d.k < 3/\Q (.str (iq d)) H
def aho:bO:=fun vs H Q _=>∃ p ms dk,vs=[.ref p]/\mQ H p ms dk/\dk.length <= 6/\(∀ x ∈ dk,x.length <= 12)/\∀ h I,aH H I->(aL H->aL I)->H h=none->I h=some (.di (gH dk))->Q (.ref h) I
def amZ (t:b6):bO:=fun vs H Q _=>∃ c n ds p qs ms rows,vs=[.ref c,.ref p]/\fk t H c n ds/\iI H p qs ms rows/\rows.length <= 6/\(∀ r ∈ rows,r.mem.length <= 12)/\∀ l I,aH H I->(aL H->aL I)->H l=none->I l=some (.lst (ba (g5 ds rows)))->Q (.ref l) I
theorem VT:cu P base T 3 t.Mp t.Ff zI (aag t):=by
 refine cR (vd T) fun mc=>?_;exists T.xE.ok anl,9
 obtain ⟨c,n,ds,i,d,rfl,C,hd,aE,q⟩:=h;obtain ⟨_,ax,wl,aB,ao,_,_⟩:=id C;refine ⟨_,(a3 (cc (CS (c5 eQ (c4 (gi (U 0) T.h8 T.oH mc aj T.pT .nil dK (db (U 1) av)) rfl) dy (cF _)) dy dy))),?_⟩;nofun;refine ⟨_,_,ao,lg _ _ _ (by ac_nf),c,n,ds,i,d,rfl,C,hd,fun a W=>⟨a,rfl,_,W.adf T,rfl,?_⟩⟩;unfold iq at q;have Ia:∀ k,k < 3->decide (V.str (dx k)=V.str (ah "tram"))=decide (k=2):=by ac_nf
 rw [Ia d.k aE];by_cases bB:d.k=2
 .rw [if_pos (decide_eq_true bB)];rw [if_pos bB] at q;exact q
 .rw [if_neg (by simpa using bB)];rw [if_neg bB] at q;exact q
theorem IP:cu P base T 1 t.Kt t.Lj ["members"] aho:=by
 exists T.wc.ok zi,9
 obtain ⟨p,ms,dk,rfl,M,n8,r5,q⟩:=h;have b7:=ml aj;refine ⟨_,(aQ (bX (i:=1) zi.aB OB)
   (aQ (eU eJ rfl (CP rfl T.Tk (db (U 0) av)) (kW (K:=K) (n:=2) rfl rfl (eG (b5 (i:=2) zi.aB) (eG (b5 (i:=3) zi.aB) kJ))) (a3 (eU eJ rfl (eZ (U 3)) (b5 (i:=4) zi.aB) (a3 (NS b7 (U 1) (U 4) (U 2) rfl)))))
   (a3 (cc (U 1))))),?_⟩
 nofun;intro h bU;have s0:aH H (upd H h (.di [])):=a' bU;refine ⟨⟨_,ak.of (s0 _ _ M.at_)⟩,?_⟩;refine dP.enum (xs:=ms.map V.ref) (fun i σ I=>(∃ x y z,σ=[~~~p,~~~h,x,y,z])/\aH H I/\(aL H->aL I)/\I h=some (.di (gH (dk.take i)))/\(gH (dk.take i)).length <= 12 * i) ?_ ?_ ?_ ?_
 .exact ⟨⟨_,_,_,rfl⟩,s0,fun n=>n.upd,by rw [ru];exact aS,by rw [ru];simp [gH]⟩
 .rintro i σ I ag ⟨_,s1,_⟩;exact ak.of (s1 _ _ M.at_)
 .rintro i v σ I d2 aG ⟨⟨x,y,z,rfl⟩,s1,ck,ab,LI⟩ lj;obtain ⟨m,hm,rfl⟩:=cm aG;have rp:i < dk.length:=by rw [<- M.ln];exact (bY.mp hm).1
  have Mo:dk[i]? = some dk[i]:=a_ rp;have em:=M.al i m _ hm Mo;have kK:=r5 _ (bM Mo);have s2:aH I (upd I d2 (.tup [.int i,.ref m])):=a' lj;refine tn ?_;nofun;have Wi:=s2 _ _ (s1 _ _ em);have ai:=s2 _ _ ab;have nb:aL H->aL (upd I d2 (.tup [.int i,.ref m])):=fun n=>(ck n).upd
  have Uu:=s1.trans s2;generalize upd I d2 (.tup [.int i,.ref m])=q4 at Wi ai nb Uu s2 ⊢;refine ⟨⟨_,ak.of Wi⟩,?_⟩;refine dP.list (xs:=ba dk[i]) (fun j σ az=>(∃ z,σ=[~~~p,~~~h,some (.int (i:Nat)),~~~m,z])/\aH H az/\(aL H->aL az)/\az h=some (.di (nd i (gH (dk.take i)) (dk[i].take j)))/\(nd i (gH (dk.take i)) (dk[i].take j)).length <= 12 * i + j) ?_ ?_ ?_ ?_
  .exact ⟨⟨_,rfl⟩,Uu,nb,by rw [ru];exact ai,by rw [ru];exact LI⟩
  .rintro j σ az aN ⟨_,s3,_⟩;exact ak.of (s3 _ _ em)
  .rintro j v σ az aG a7;ac_rfl
   obtain ⟨⟨z,rfl⟩,s3,c0,a5,Sb⟩:=a7;subst aY;unfold ba at aG;obtain ⟨x,af,rfl⟩:=cm aG;have aN:j < dk[i].length:=(bY.mp af).1;have cO:=ad_ (nd i (gH (dk.take i)) (dk[i].take j)) (cx x) (.int i);nofun;refine ⟨_,qv.k (k:=cx x) a5 (gI (show _ <= 1000 by omega) (by decide)),⟨_,rfl⟩,s3.gk bU,fun n=>(c0 n).upd,?_,?_⟩
   .rw [aS,mC af,NL]
   .rw [mC af,NL];omega
  .rintro σ az a7;ac_rfl
   obtain ⟨⟨z,rfl⟩,s3,c0,a5,Sb⟩:=a7;subst aY;rw [gx,iF,<- FA Mo] at a5 Sb;exact ⟨⟨_,_,_,rfl⟩,s3,c0,a5,by omega⟩
 .rintro σ I a7;ac_rfl
  obtain ⟨⟨x,y,z,rfl⟩,s1,ck,ab,_⟩:=a7;subst aY;rw [aR,M.ln,iF] at ab;nofun;exact q h I s1 ck bU ab
theorem NM:cu P base T 2 t.J_ t.Gn kZ (amZ t):=by
 refine cR (IP T) fun ya=>cR (JB T) fun wD=>?_;exists T.Di.ok Vz,9
 obtain ⟨c,n,ds,p,qs,ms,rows,rfl,C,R,hb,tV,q⟩:=h;have b7:=ml aj;obtain ⟨⟨_,g9⟩,ax,wl,aB,ao,_,_⟩:=id C;refine ⟨_,(aQ (om (i:=2) Vz.aB rfl (kx rfl) (bS ya aj T.M7 T.wc.bj T.MF (db (gy rfl (eZ (U 1)) (fy (sc:=bt zK) rfl (by ac_nf)) (N:=i5) (sel:=[none,none,none]) (fs (M:=Gj) (by ac_nf)) (eT.of (fun _ _ _ _=>(kW (K:=K) (n:=3) rfl rfl (eG (b5 (i:=0) (dX (N:=i5) (by ac_nf) rfl)) (eG (b5 (i:=1) (dX (N:=i5) (by ac_nf) rfl)) (eG (b5 (i:=2) (dX (N:=i5) (by ac_nf) rfl)) kJ))))) (fun _ _ _ _=>⟨_,gV,by walk_at "B"⟩) (fun _ _ _ _=>⟨_,(U 2),by walk_at "B"⟩))) av)))
   (a3 (cc (gy rfl (eZ (oa (U 0) T.h8 T.GJ wD aj T.J5 .nil dK)) (fy (sc:=bt zK) rfl (by ac_nf)) (N:=["name","told"]) (sel:=[none,some 2]) (fs (M:=Gj) (by ac_nf)) (eT.of (fun _ _ _ _=>(b5 (i:=0) (dX (N:=["name","told"]) (by ac_nf) rfl))) (fun _ _ _ _=>⟨_,(uX (EU (Gr b7 (U 0) (U 1)))),by walk_at "B"⟩) (fun _ _ _ _=>⟨_,(U 0),by walk_at "B"⟩)))))),?_⟩
 simp only [dj];nofun;have gW:(qs.map V.ref).length=rows.length:=by rw [aR,R.b_]
 refine ⟨⟨_,ak.of R.at_⟩,?_⟩;refine cX.kU (xs:=qs.map V.ref) (zs:=ms.map V.ref) (ak.of R.at_) (by rw [gW];exact cq hb (by decide)) (by rw [gW,aR,R.cM]) (fun j v z N aG aF bb=>?_) (fun pm pN=>?_)
 .obtain ⟨kV,eS,rfl⟩:=cm aG;obtain ⟨Ic,la,rfl⟩:=cm aF;have aN:j < rows.length:=by rw [<- R.b_];exact (bY.mp eS).1
  have e:=(R.al j kV Ic _ eS la (a_ aN)).1;nofun;exact ⟨_,cS.of e,rfl,_,_,rfl,_,_,rfl,_,_,rfl,rfl,Sub.vR,bb⟩
 .have sp:aH H (upd H pm (.lst (ms.map V.ref))):=a' pN;have np:aL H->aL (upd H pm (.lst (ms.map V.ref))):=fun n=>n.upd
  have cE:(upd H pm (.lst (ms.map V.ref))) pm=some (.lst (ms.map V.ref)):=aS;generalize upd H pm (.lst (ms.map V.ref))=q4 at sp np cE ⊢;refine ⟨pm,ms,rows.map (·.mem),rfl,⟨cE,by rw [R.cM,aR],fun i m x hm af=>?_⟩,by rw [aR];exact hb,fun x af=>?_,fun h H1 s1 ck bU ab=>?_⟩
  .obtain ⟨r,dY,rfl⟩:=cm af;have fM:qs[i]? = some (qs[i]'(by rw [R.b_];exact (bY.mp dY).1)):=a_ _;exact sp _ _ (R.al i _ m r fM hm dY).2
  .obtain ⟨r,dY,rfl⟩:=b2.mp af;exact tV r dY
  .have sE:=sp.trans s1;have yp:=C.same sE;refine ⟨_,_,sE _ _ ao,lg _ _ _ (by ac_nf),c,n,ds,rfl,yp,fun ey mT=>⟨ey,rfl,⟨_,ak.of aS⟩,?_⟩⟩;have sB:=sE.trans (a' (o:=.lst (ba (ds.map (·.name)))) mT);have ai:=(a' (o:=.lst (ba (ds.map (·.name)))) mT) _ _ ab;have ly:aL H->aL (upd H1 ey (.lst (ba (ds.map (·.name))))):=fun n=>(ck (np n)).upd
   have rD:(upd H1 ey (.lst (ba (ds.map (·.name))))) ey=some (.lst (ba (ds.map (·.name)))):=aS;generalize upd H1 ey (.lst (ba (ds.map (·.name))))=lT at sB ai ly rD ⊢;refine cX.yO (xs:=ba (ds.map (·.name))) (ss:=(ds.map (·.name)).map fun x=>if (!told rows x)=true then some (V.str x) else none) (ak.of rD) (by rw [gx,aR];exact cq g9 (by decide)) (by rw [gx,aR]) (fun i v o ys N aG aW bb=>?_) (fun l aD=>?_)
   .unfold ba at aG;obtain ⟨x,af,rfl⟩:=cm aG;obtain ⟨ie,e7,rfl⟩:=cm aW;rw [af] at e7;cases e7;have bg:iE lT h (.str x) (dn (gH (rows.map (·.mem))) (cx x)):=iE.k (k:=cx x) ai;have dQ:=S8 rows x;nofun;refine ⟨Sub.name,_,bg,?_⟩;rw [dQ];by_cases ct:(!told rows x)=true
    .rw [if_pos ct];rw [if_pos ct] at bb;exact bb
    .rw [if_neg ct];rw [if_neg ct] at bb;simpa using bb
   .rw [zJ];exact q l _ (sB.trans (a' aD)) (fun n=>(ly n).upd) (sB.free aD) aS
noncomputable def yT (ds:List bx) (left:List Str) (f:Str):List Str:=left.filter fun x=>decide ((i7 ds x).map iq=(i7 ds f).map iq)
noncomputable def rC (alike:List Str):List Str->Nat->List Str->Except Nat (List Str)
 | [],_,ms=>.ok ms
 | x :: r,j,ms=>if x ∈ alike/\x ∉ ms then rC alike r (j + 1) (ms ++ [x]) else .error j
noncomputable def mR (ds:List bx) (left ws:List Str):Except Nat (List Str):=if c7 ws 3 ∈ left then rC (yT ds left (c7 ws 3)) (ws.drop 4) 4 [c7 ws 3] else .error 3
noncomputable def qz (ds:List bx) (rows:List ST) (ws:List Str):Except Nat ST:=if c7 ws 0 ∈ [ah "stage"] then
 (lE (c7 ws 1) 1 60).elim (.error 1) fun lo=>(lE (c7 ws 2) lo 60).elim (.error 2) fun ag=>match mR ds (g5 ds rows) ws with
  | .error k=>.error k
  | .ok ms=>.ok ⟨lo,ag,ms⟩ else .error 0
theorem Sz:∀ {r:List Str} {j:Nat} {ms r_:List Str},rC alike r j ms=.ok r_->ms.Nodup->r_.Nodup/\(∃ more,r_=ms ++ more)/\∀ x ∈ r_,x ∈ ms\/x ∈ alike
 | [],j,ms,r_,h,aB=>by
  have h:q0 ms=q0 (ε:=Nat) r_:=h;cases h;exact ⟨aB,⟨[],by simp⟩,fun x af=>.inl af⟩
 | y :: r,j,ms,r_,h,aB=>by
  unfold rC at h;split at h
  .rename_i c;obtain ⟨ab,⟨more,ai⟩,a5⟩:=Sz h (NY.mpr ⟨aB,by simp,fun a aK b ae e=>by
    rw [eu.mp ae] at e;rw [e] at aK;exact c.2 aK⟩)
   refine ⟨ab,⟨y :: more,by rw [ai,l8];rfl⟩,fun x af=>?_⟩;rcases a5 x af with z | z
   .rcases dZ.mp z with z | z
    .exact .inl z
    .rw [eu.mp z];exact .inr c.1
   .exact .inr z
  .cases h
def aau (t:b6):bO:=fun vs H Q _=>∃ q row ws c n ds l left ms,vs=[.ref q,.ref c,.ref l]/\da t H q row ws 3/\fk t H c n ds/\(∀ d ∈ ds,d.k < 3/\d.name ≠ ah "")/\H l=some (.lst (ba left))/\left.length <= 12/\(∀ x ∈ left,∃ d ∈ ds,d.name=x)/\aL H/\mR ds left ws=.ok ms /\
 ∀ m I,dv q H I->aL I->(∃ u,I q=some u)->I m=some (.lst (ba ms))->H m=none->Q (.ref m) I
def UZ (t:b6):bO:=fun vs H Q _=>∃ q row ws c n ds p qs ms rows s,vs=[.ref q,.ref c,.ref p]/\da t H q row ws 0/\fk t H c n ds/\(∀ d ∈ ds,d.k < 3/\d.name ≠ ah "")/\iI H p qs ms rows/\rows.length <= 6/\(∀ r ∈ rows,r.mem.length <= 12)/\aL H/\qz ds rows ws=.ok s /\
 ∀ x m I,dv q H I->aL I->I x=some (HY s m)->I m=some (.lst (ba s.mem))->H x=none->H m=none->Q (.ref x) I
theorem iy {ds:List bx} (aB:(ds.map (·.name)).Nodup) {i:Nat} {d:bx} (h:ds[i]? = some d):i7 ds d.name=some d:=by
 unfold i7;cases e:ds.find? fun x=>decide (x.name=d.name) with
 | none=>
  have:=Nm.mp e d (bM h);simp at this
 | some x=>
  have ab:x.name=d.name:=by simpa using List.find?_some e
  obtain ⟨j,aN⟩:=hD (List.mem_of_find?_eq_some e);have:=va aB (bY.mp aN).1 (bY.mp h).1 (by rw [me aN,me h,ab]);subst this;rw [aN] at h;exact h
theorem fk.xX {t:b6} {k:Nat} (h:fk t H c n ds) (s:dv q H I) (R:da t H q row ws k):fk t I c n ds:=by
 obtain ⟨h0,hq,wl,aB,ao,⟨as,dI,dB,al⟩,bJ⟩:=h;obtain ⟨_,Dv,a6,f1,f2⟩:=id R;refine ⟨h0,hq,wl,aB,s _ _ (fun z=>?_) ao,⟨as,s _ _ (eI dI f1 (by intro z;cases z)) dI,dB,fun i b d ae hd=>?_⟩,s _ _ (eI bJ f1 (by intro z;cases z)) bJ⟩
 .subst z;rw [ao] at f1;have e:=eL f1;injection e with _ _ e6;unfold pw m_ at e6;injection e6 with gY _;injection gY with e1 _;exact absurd e1 (by ac_nf)
 .have W:=al i b d ae hd;have aV:=P0 W R;exact ⟨W.1,W.2.imp fun ax e=>s _ _ aV e⟩
theorem ad3 (h:j < ws.length):ws.drop j=c7 ws j :: ws.drop (j + 1):=by
 rw [qP h];unfold c7;rw [lJ,a_ h];rfl
theorem iI.xX {t:b6} {q p:Addr} {rows:List ST} {k:Nat} (h:iI H p qs ms rows) (s:dv q H I) (R:da t H q row ws k):iI I p qs ms rows:=by
 obtain ⟨_,Dv,a6,f1,f2⟩:=id R;refine ⟨s _ _ (eI h.at_ f1 (by intro z;cases z)) h.at_,h.b_,h.cM,fun i q m r a b c=>?_⟩;obtain ⟨ao,aC⟩:=h.al i q m r a b c;exact ⟨s _ _ (eI ao f1 (by intro z;cases z)) ao,s _ _ (eI aC f1 (by intro z;cases z)) aC⟩
theorem WF:cu P base T 4 t.Jv t.G5 H7 (aau t):=by
 refine cR (Ef T) fun rX=>cR (Wv T) fun FT=>cR (VT T) fun Cq=>?_;exists T.KY.ok zA,9
 obtain ⟨q,row,ws,c,n,ds,l,left,Rg,rfl,R,C,aE,aD,CO,Sw,bC,cN,k9⟩:=h;refine ⟨_,(aQ (om (i:=3) zA.aB rfl (kx rfl) (gi (U 0) T.fT T.re rX aj T.v9 .nil dK (db (U 2) av)))
   (aQ (om (i:=4) zA.aB rfl (kx rfl) (d4 (db (U 3) av)))
   (aQ (yr (i:=5) zA.aB rfl (qw rfl) rfl (eZ (U 2)) (fy (sc:=bt CM) rfl (by ac_nf)) (N:=["name","crossing","first"]) (sel:=[none,some 1,some 3]) (fs (M:=J2) (by ac_nf)) (eT.of (fun _ _ _ _=>(b5 (i:=0) (dX (N:=["name","crossing","first"]) (by ac_nf) rfl))) (fun _ _ _ _=>⟨_,(uX (c5 eQ (bS Cq aj T.Ip T.xE.bj T.Kc (db (U 1) (db (U 0) av))) (bS Cq aj T.Ip T.xE.bj T.Kc (db (U 1) (db (U 2) av))) (cF _))),by walk_at "B"⟩) (fun _ _ _ _=>⟨_,(U 0),by walk_at "B"⟩)) rfl)
   (aQ (WO eJ (o1 (oa (U 0) T.fT T.UW FT aj T.OO .nil dK)) (a3 (dN (ef e2 h2 iC hY (U 4) (db (gi (U 0) T.fT T.re rX aj T.v9 .nil dK (db (gy rfl (eZ (U 5)) (fy (sc:=bt CM) rfl (by ac_nf)) (N:=["name","members"]) (sel:=[none,some 4]) (fs (M:=J2) (by ac_nf)) (eT.of (fun _ _ _ _=>(b5 (i:=0) (dX (N:=["name","members"]) (by ac_nf) rfl))) (fun _ _ _ _=>⟨_,(uX (c5 z4 (U 0) (U 1) (by with_unfolding_all rfl))),by walk_at "B"⟩) (fun _ _ _ _=>⟨_,(U 0),by walk_at "B"⟩))) av)) av)))))
   (a3 (cc (U 4))))))),?_⟩
 obtain ⟨aF,ax,a6,ao,aC⟩:=id R;unfold mR at cN;split at cN
 case isFalse=>cases cN
 rename_i f_;obtain ⟨kB,qI,qD⟩:=Sw _ f_;have P9:4 <= ws.length:=F_ (k:=3) (by rw [<- qD];exact (aE kB qI).2);nofun;refine ⟨_,_,ao,da.no _ _ _ (by ac_nf),⟨q,row,ws,3,_,l,left,rfl,R,wX (by omega),ak.of aD,f_,fun H1 s1 ck kS=>?_⟩⟩;have i0:=ck bC;have yp:=C.xX s1 R;have LI:H1 l=some (.lst (ba left)):=s1 _ _ (eI aD ao (by intro z;cases z)) aD;generalize hf:c7 ws 3=f0 at cN f_ qD ⊢;obtain ⟨X9,xx⟩:=hD qI;nofun;refine ⟨by decide,fun g6 n8=>?_⟩;obtain ⟨tg,VK,Pb,f1,f2⟩:=id kS;have OS:H g6=none:=by
  cases e:H g6 with
  | none=>rfl
  | some u=>
   by_cases z:g6=q
   .rw [z,f1] at n8;cases n8
   .rw [s1 _ _ z e] at n8;cases n8
 have sB:aH H1 (upd H1 g6 (.lst [V.str f0])):=a' n8;have Hu:(upd H1 g6 (.lst [V.str f0])) g6=some (.lst [V.str f0]):=aS;have ly:aL (upd H1 g6 (.lst [V.str f0])):=i0.upd;generalize upd H1 g6 (.lst [V.str f0])=lT at sB Hu ly ⊢;have Wl:=yp.same sB;have Qi:=sB _ _ LI;have h1:=C.1.1;refine ⟨⟨_,ak.of Qi⟩,?_⟩;refine cX.yO (xs:=ba left) (ss:=left.map fun x=>if decide ((i7 ds x).map iq=(i7 ds f0).map iq)=true then some (V.str x) else none) (ak.of Qi) (by rw [gx];exact cq CO (by decide)) (by rw [gx,aR]) (fun i v o ys N aG aW bb=>?_) (fun al l2=>?_)
 .unfold ba at aG;obtain ⟨x,af,rfl⟩:=cm aG;obtain ⟨ie,e7,rfl⟩:=cm aW;rw [af] at e7;cases e7;obtain ⟨ew,z5,rfl⟩:=Sw x (bM af);obtain ⟨j,aN⟩:=hD z5;rw [<- qD,iy h1 aN,iy h1 xx] at bb;nofun;refine ⟨Sub.name,c,n,ds,j,ew,rfl,Wl,aN,(aE ew z5).1,c,n,ds,X9,kB,by rw [qD],Wl,xx,(aE kB qI).1,rfl,?_⟩;by_cases ct:iq ew=iq kB
  .simp [ct] at bb ⊢;exact bb
  .simp [ct] at bb ⊢;exact bb
 rw [zJ];rw [show left.filter (fun x=>decide ((i7 ds x).map iq=(i7 ds f0).map iq))=yT ds left f0 from rfl];have qu:(yT ds left f0).length <= 12:=by
  unfold yT;exact cq (u3 ..) CO
 generalize yT ds left f0=alike at cN qu ⊢;have kX:aH lT (upd lT al (.lst (ba alike))):=a' l2;have vv:(upd lT al (.lst (ba alike))) al=some (.lst (ba alike)):=aS;have UT:aL (upd lT al (.lst (ba alike))):=ly.upd;have aip:al ≠ g6:=fun z=>by rw [z,Hu] at l2;cases l2
 generalize upd lT al (.lst (ba alike))=Km at kX vv UT ⊢;have Z7:dv q H Km:=s1.trans (dv.of (sB.trans kX));refine Zk (fun σ I=>∃ ms:List Str,σ=[~~~q,~~~c,~~~l,some (.str f0),~~~g6,~~~al]/\dv q H I/\aL I/\da t I q row ws (3 + ms.length)/\I g6=some (.lst (ba ms))/\I al=some (.lst (ba alike))/\3 + ms.length <= ws.length/\rC alike (ws.drop (3 + ms.length)) (3 + ms.length) ms=.ok Rg) (fun σ I=>match I g6 with | some (.lst xs)=>ws.length - xs.length | _=>0) ?_ ?_
 .exact ⟨[f0],rfl,Z7,UT,kS.same (sB.trans kX),kX _ _ Hu,vv,P9,cN⟩
 rintro σ I a7;ac_rfl
 obtain ⟨ms,rfl,gc,cv,fb,jD,a2,pa,fN⟩:=a7;obtain ⟨qZ,JK,L',g1,g2⟩:=id fb;have OH:g6 ≠ q:=eI jD g1 (by intro z;cases z);have afj:al ≠ q:=eI a2 g1 (by intro z;cases z);subst aY;refine ⟨decide (3 + ms.length < ws.length),fun Q' aX=>?_,fun p9=>?_,fun p9=>?_⟩
 .nofun;exact ⟨_,_,g1,da.no _ _ _ (by ac_nf),⟨q,row,ws,_,rfl,fb,_,rfl,aX⟩⟩
 .have p9:=of_decide_eq_true p9;rw [ad3 p9] at fN;unfold rC at fN;nofun;refine ⟨.inl ⟨_,ak.of jD⟩,?_⟩;refine ⟨_,_,g1,da.no _ _ _ (by ac_nf),⟨_,ak.of a2⟩,?_⟩;refine cX.yO (xs:=ba alike) (ss:=alike.map fun x=>if (!decide (x ∈ ms))=true then some (V.str x) else none) (ak.of a2) (by rw [gx];exact cq qu (by decide)) (by rw [gx,aR]) (fun i v o ys N aG aW bb=>?_) (fun cl oI=>?_)
  .unfold ba at aG;obtain ⟨x,af,rfl⟩:=cm aG;obtain ⟨ie,e7,rfl⟩:=cm aW;rw [af] at e7;cases e7;nofun;refine ⟨Sub.name,_,.inl (ak.of jD),rfl,D6 ms,?_⟩;rw [A8];by_cases ct:x ∈ ms
   .simp [ct] at bb ⊢;exact bb
   .simp [ct] at bb ⊢;exact bb
  rw [zJ];have ts:aH I (upd I cl (.lst (ba (alike.filter fun x=>!decide (x ∈ ms))))):=a' oI;have PS:(upd I cl (.lst (ba (alike.filter fun x=>!decide (x ∈ ms))))) cl=some (.lst (ba (alike.filter fun x=>!decide (x ∈ ms)))):=aS;have SF:aL (upd I cl (.lst (ba (alike.filter fun x=>!decide (x ∈ ms))))):=cv.upd;generalize upd I cl (.lst (ba (alike.filter fun x=>!decide (x ∈ ms))))=R5 at ts PS SF ⊢;split at fN
  case isFalse=>cases fN
  rename_i ar;refine ⟨q,row,ws,3 + ms.length,_,cl,_,rfl,fb.same ts,wX p9,ak.of PS,mG.mpr ⟨ar.1,by simpa using ar.2⟩,fun az s2 c0 ng=>?_⟩
  .have rM:az g6=some (.lst (ba ms)):=s2 _ _ OH (ts _ _ jD);have gp:az al=some (.lst (ba alike)):=s2 _ _ afj (ts _ _ a2);obtain ⟨CR,aka,T7,gQ,fP⟩:=id ng;have ahL:T7 ≠ g6:=fun z=>by
    rw [z,rM] at fP;have e:=eL fP;injection e with e;have:=congrArg qX e;rw [gx,gx] at this;omega
   refine ⟨_,rM,gI (show (ba ms).length <= 1000 by rw [gx];have:=CR.1;omega) (by decide),fun b u ae e=>?_,(c0 SF).upd,⟨ms ++ [c7 ws (3 + ms.length)],⟨CR,aka,T7,?_,?_⟩,?_,?_,?_,?_⟩,?_⟩
   .rw [aZ (Db e OS)];exact s2 _ _ ae (ts _ _ (gc _ _ ae e))
   .rw [aZ (dF OH),cC];exact gQ
   .rw [aZ ahL];exact fP
   .rw [aS];unfold ba;rw [dA];rfl
   .rw [aZ aip];exact gp
   .rw [cC];show 3 + (ms.length + 1) <= _;omega
   .rw [cC];exact fN
   .rw [aS,jD];show ws.length - (ba ms ++ [V.str (c7 ws (3 + ms.length))]).length < ws.length - (ba ms).length;rw [cC,gx];show ws.length - (ms.length + 1) < _;omega
 .have p9:=of_decide_eq_false p9;rw [List.drop_of_length_le (by omega)] at fN;replace fN:(q0 ms:Except Nat (List Str))=.ok Rg:=fN;cases fN;nofun;exact k9 g6 I gc cv ⟨_,g1⟩ jD OS
theorem aie:cu P base T 6 t.B8 t.CY A1 (UZ t):=by
 refine cR (Ef T) fun rX=>cR (zT T) fun og=>cR (WF T) fun ah'=>cR (NM T) fun GK=>?_;exists T.KP.ok LL,9
 obtain ⟨q,row,ws,c,n,ds,p,qs,ms,rows,Uw,rfl,R,C,aE,anu,hb,tV,bC,cN,k9⟩:=h;refine ⟨_,(aQ (dN (gi (U 0) T.fT T.re rX aj T.v9 .nil dK (db (d4 (db dy av)) av)))
   (aQ (bX (i:=3) LL.aB (gi (U 0) T.fT T.Gc og aj T.rS .nil dK (db aJ (db (mF rfl T.Wr T.S5) av))))
   (aQ (bX (i:=4) LL.aB (gi (U 0) T.fT T.Gc og aj T.rS .nil dK (db (U 3) (db (mF rfl T.Wr T.S5) av))))
   (a3 (cc (qi (db (U 3) (db (U 4) (db (bS ah' aj T.alA T.KY.bj T.Ev (db (U 0) (db (U 1) (db (bS GK aj T.Oe T.Di.bj T.Ph (db (U 1) (db (U 2) av))) av)))) av))))))))),?_⟩
 obtain ⟨_,ax,a6,ao,aC⟩:=id R;unfold qz at cN;split at cN
 case isFalse=>cases cN
 rename_i f_;have b_:1 <= ws.length:=F_ (k:=0) (by rw [eu.mp f_];ac_nf);cases Ao:lE (c7 ws 1) 1 60 with
 | none=>rw [Ao] at cN;cases cN
 | some lo=>
 have v7:jf (c7 ws 1) 1 60=.int lo:=by rw [EN,Ao];rfl
 rw [Ao] at cN;replace cN:((lE (c7 ws 2) lo 60).elim (.error 2) fun ag=>match mR ds (g5 ds rows) ws with | .error k=>.error k | .ok ms=>.ok ⟨lo,ag,ms⟩:Except Nat ST)=.ok Uw:=cN;cases Hm:lE (c7 ws 2) lo 60 with
 | none=>rw [Hm] at cN;cases cN
 | some ag=>
 have Fl:jf (c7 ws 2) lo 60=.int ag:=by rw [EN,Hm];rfl
 rw [Hm] at cN;replace cN:(match mR ds (g5 ds rows) ws with | .error k=>.error k | .ok ms=>.ok (⟨lo,ag,ms⟩:ST):Except Nat ST)=.ok Uw:=cN;cases hm:mR ds (g5 ds rows) ws with
 | error k=>rw [hm] at cN;cases cN
 | ok ano=>
 rw [hm] at cN;cases cN;have cM:=(LH v7).1;nofun;refine ⟨_,_,ao,da.no _ _ _ (by ac_nf),by decide,fun RI vz=>?_⟩;have s0:aH H (upd H RI (.lst [V.str (ah "stage")])):=a' vz;refine ⟨q,row,ws,0,_,RI,[ah "stage"],rfl,R.same s0,wX b_,ak.of aS,f_,fun H1 s1 ck kS=>?_⟩;obtain ⟨_,VK,Pb,f1,f2⟩:=id kS;have i0:=ck bC.upd;have bR:dv q H H1:=(dv.of s0).trans s1;nofun;refine ⟨_,_,f1,da.no _ _ _ (by ac_nf),⟨q,row,ws,1,_,1,60,lo,rfl,kS,wX cM,v7,i0,fun az s2 cv fb=>?_⟩⟩;have uR:=cv i0;have gc:dv q H az:=bR.trans s2;obtain ⟨_,JK,L',g1,g2⟩:=id fb;nofun;refine ⟨_,_,g1,da.no _ _ _ (by ac_nf),⟨q,row,ws,2,_,lo,60,ag,rfl,fb,wX (LH Fl).1,Fl,uR,fun bI s3 c0 ng=>?_⟩⟩;have Te:=(LH Fl).1;have uC:=c0 uR;have fx:dv q H bI:=gc.trans s3;have uv:=C.xX fx R;have tX:=anu.xX fx R;nofun;refine ⟨c,n,ds,p,qs,ms,rows,rfl,uv,tX,hb,tV,fun l cD s4 de aD Cu=>?_⟩;have c8:dv q H cD:=fx.trans (dv.of s4);have GB:=de uC;have acu:(g5 ds rows).length <= 12:=by
  unfold g5;exact cq (u3 ..) (by rw [aR];exact C.1.2)
 refine ⟨q,row,ws,c,n,ds,l,g5 ds rows,ano,rfl,ng.same s4,uv.same s4,aE,Cu,acu,fun x af=>?_,GB,hm,fun m c3 s5 E3 ahj aid FC=>?_⟩
 .obtain ⟨d,hd,e⟩:=b2.mp (mG.mp af).1;exact ⟨d,hd,e⟩
 obtain ⟨_,_,_,ai',_⟩:=ng.same s4;nofun;refine ⟨by decide,fun x af=>?_⟩;have back:∀ {y:Addr} {G:au},dv q H G->G y=none->(∃ u,G q=some u)->H y=none:=fun {y G} jT aU ⟨u,b7⟩=>by
  cases e:H y with
  | none=>rfl
  | some v=>
   by_cases c:y=q
   .subst c;rw [b7] at aU;cases aU
   .rw [jT _ _ c e] at aU;cases aU
 exact k9 x m _ (c8.trans (s5.trans (dv.of (a' af)))) E3.upd aS ((a' af) _ _ aid) (back (c8.trans s5) af ahj) (back c8 FC ⟨_,ai'⟩)
theorem PU [DecidableEq α]:∀ {l l':List α},l.Nodup->(∀ x ∈ l,x ∈ l')->l.length <= l'.length
 | [],_,_,_=>fg _
 | a :: l,l',h,aw=>by
  have aK:=aw a (kO ..);have ai:=xB.mp h;have:=PU (l':=l'.erase a) ai.2 (fun x af=>(List.mem_erase_of_ne (fun e=>ai.1 (by rw [<- e];exact af))).mpr (aw x (gS _ af)));rw [List.length_erase_of_mem aK] at this;have aq:=alz aK;rw [fQ];omega
noncomputable def uL (rows:List ST) (x:Str):Option Nat:=match dn (gH (rows.map (·.mem))) (cx x) with
 | some (.int k)=>some k.toNat
 | _=>none
theorem Ou {x:Str}:∀ (n:Nat) (dk:List (List Str)),n <= dk.length->(∃ ms ∈ dk.take n,x ∈ ms)->∃ (k:Nat) (ms:List Str),dn (gH (dk.take n)) (cx x)=some (.int (k:Int))/\dk[k]? = some ms/\x ∈ ms
 | 0,dk,_,h=>by
  obtain ⟨ms,ab,_⟩:=h;simp at ab
 | n + 1,dk,aV,h=>by
  have bg:dk[n]? = some dk[n]:=a_ (by omega);rw [FA bg,M9];by_cases c:x ∈ dk[n]
  .rw [if_pos c];exact ⟨n,_,rfl,bg,c⟩
  .rw [if_neg c];refine Ou n dk (by omega) ?_;obtain ⟨ms,ab,ai⟩:=h;rw [mC bg] at ab;rcases dZ.mp ab with ab | ab
   .exact ⟨ms,ab,ai⟩
   .rw [eu.mp ab] at ai;exact absurd ai c
theorem Bl {rows:List ST} {x:Str} (h:told rows x=true):∃ (k:Nat) (r:ST),dn (gH (rows.map (·.mem))) (cx x)=some (.int (k:Int))/\uL rows x=some k/\rows[k]? = some r/\x ∈ r.mem:=by
 unfold told at h;obtain ⟨r,aj,af⟩:=se.mp h;have:=Ou (x:=x) (rows.map (·.mem)).length (rows.map (·.mem)) (bP _) ⟨r.mem,by rw [iF];exact b2.mpr ⟨r,aj,rfl⟩,by simpa using af⟩;rw [iF] at this;obtain ⟨k,ms,ab,ai,a5⟩:=this;obtain ⟨eo,dY,rfl⟩:=cm ai;exact ⟨k,eo,ab,by unfold uL;rw [ab];rfl,dY,a5⟩
noncomputable def wk (rows:List ST) (d:bx):Option (bx × Nat):=(uL rows d.name).bind fun k=>(rows[k]?).bind fun r=>if r.lo < d.least then some (d,k) else none
noncomputable def ww (ds:List bx) (rows:List ST):Option (bx × Nat):=ds.findSome? (wk rows)
noncomputable def mY (n:Int) (ds:List bx) (x y:Str):Bool:=match i7 ds x,i7 ds y with
 | some d,some e=>mt n d e
 | _,_=>false
noncomputable def pQ (n:Int) (ds:List bx) (k:Nat) (x y:Str):Option (Str × Str × Nat):=if x ≠ y/\mY n ds x y=true then some (x,y,k) else none
noncomputable def sF (n:Int) (ds:List bx) (e:ST × Nat):Option (Str × Str × Nat):=e.1.mem.findSome? fun x=>e.1.mem.findSome? fun y=>pQ n ds e.2 x y
noncomputable def t5 (n:Int) (ds:List bx) (rows:List ST):Option (Str × Str × Nat):=rows.zipIdx.findSome? (sF n ds)
def yI (ds:List bx):Prop:=∀ d ∈ ds,abH d.name/\d.k < 3/\(0 <= d.off/\d.off <= 1000)
structure pY (ds:List bx) (rows:List ST):Prop where
 ln:rows.length <= 6
 g6:∀ r ∈ rows,r.mem.length <= 12
 v5:∀ r ∈ rows,∀ x ∈ r.mem,∃ d ∈ ds,d.name=x
def Ob (t:b6):bO:=fun vs H Q _=>∃ c n ds p qs ms rows,vs=[.ref c,.ref p]/\fk t H c n ds/\iI H p qs ms rows/\pY ds rows/\g5 ds rows=[]/\∀ I,aH H I->(aL H->aL I)->Q .cg I
def Qm (t:b6):bO:=fun vs H Q _=>∃ c n ds p qs ms rows,vs=[.ref c,.ref p]/\fk t H c n ds/\iI H p qs ms rows/\pY ds rows/\g5 ds rows=[]/\ww ds rows=none/\∀ I,aH H I->(aL H->aL I)->Q .cg I
def Tq (t:b6):bO:=fun vs H Q _=>∃ c n ds p qs ms rows,vs=[.ref c,.ref p]/\fk t H c n ds/\0 < n/\iI H p qs ms rows/\pY ds rows/\aL H/\t5 n ds rows=none/\∀ I,aH H I->(aL H->aL I)->Q .cg I
def kc (l:List Int) (v:Int):Prop:=v ∈ l/\∀ k ∈ l,k <= v
noncomputable def qh (ds:List bx) (x:Str):Int:=((i7 ds x).map jK).getD 0
noncomputable def rd (ds:List bx) (x:Str):Int:=((i7 ds x).map jH).getD 0
noncomputable def dL (ds:List bx) (x y:Str):Int:=match i7 ds x,i7 ds y with
 | some d,some e=>if d.off - e.near > 0 then d.off - e.near else 0
 | _,_=>0
noncomputable def oL (n:Int) (ds:List bx) (s:List Str) (x:Str):List Int:=if x ∈ s then [] else (s.filter fun y=>mY n ds x y).map (dL ds x)
noncomputable def ki (n:Int) (ds:List bx) (f s:List Str):List Int:=[0] ++ f.map (qh ds) ++ s.map (rd ds) ++ (ds.map (·.name)).flatMap (oL n ds s)
theorem QH {m:Str} (h:oR.contains m=false):(oW d).lookup m=none:=BL oR (S0 _) h
theorem Qe (p:Str->Bool) (g:Str->Int):∀ xs:List Str,((xs.map fun x=>if p x=true then some (V.int (g x)) else none).flatMap uy)=((xs.filter p).map g).map V.int
 | []=>rfl
 | x :: xs=>by
  rw [eB,u',Qe p g xs];by_cases c:p x=true
  .rw [if_pos c,W9 c];rfl
  .rw [if_neg c,Xp c];rfl
theorem xY:∀ b':List Int,b' ≠ []->∃ m,m ∈ b'/\∀ k ∈ b',k <= m
 | [],h=>absurd rfl h
 | [x],_=>⟨x,by simp,fun k aE=>by rw [eu.mp aE];exact ma _⟩
 | x :: y :: r,_=>by
  obtain ⟨m,hm,al⟩:=xY (y :: r) (by simp);by_cases c:x <= m
  .refine ⟨m,gS _ hm,fun k aE=>?_⟩;rcases d9.mp aE with rfl | aE
   .exact c
   .exact al k aE
  .refine ⟨x,by simp,fun k aE=>?_⟩;rcases d9.mp aE with rfl | aE
   .exact ma _
   .exact Int.le_trans (al k aE) (by omega)
def aem (t:b6):bO:=fun vs H Q _=>∃ c n ds gq bE f s,vs=[.ref c,.ref gq,.ref bE]/\fk t H c n ds/\0 < n/\yI ds/\H gq=some (.lst (ba f))/\H bE=some (.lst (ba s))/\(∀ x ∈ f,∃ d ∈ ds,d.name=x)/\(∀ x ∈ s,∃ d ∈ ds,d.name=x)/\f.length <= 12/\s.length <= 12/\aL H/\∀ v,kc (ki n ds f s) v->Q (.int v) H
def ahT (t:b6):bO:=fun vs H Q _=>∃ c n ds gq bE f s,vs=[.ref c,.ref gq,.ref bE]/\fk t H c n ds/\0 < n/\yI ds/\H gq=some (.lst (ba f))/\H bE=some (.lst (ba s))/\(∀ x ∈ f,∃ d ∈ ds,d.name=x)/\(∀ x ∈ s,∃ d ∈ ds,d.name=x)/\f.length <= 12/\s.length <= 12/\aL H/\∀ v I,aH H I->kc (ki n ds f s) v->Q (.int v) I
theorem ZY:cu P base T 3 t.Dg t.B5 kZ (Ob t):=by
 refine cR (NM T) fun GK=>?_;exists T.MM.ok QA,9
 obtain ⟨c,n,ds,p,qs,ms,rows,rfl,C,R,J,ei,q⟩:=h;refine ⟨_,(aQ (bX (i:=2) QA.aB (bS GK aj T.Oe T.Di.bj T.Ph (db (U 0) (db (U 1) av))))
   (a3 (dW (V2 (U 2) (fun _=>rfl)) (a3 oQ) ec))),?_⟩
 nofun;refine ⟨c,n,ds,p,qs,ms,rows,rfl,C,R,J.ln,J.g6,fun l H1 s1 ck aD b_=>?_⟩;dsimp only;rw [ei] at b_;refine cP false (fun Q aX=>?_) (fun z=>nomatch z) (fun _=>?_)
 .exact ⟨_,rfl,_,.inl ⟨_,ak.of b_,rfl⟩,aX⟩
 .simp only [f'];exact q H1 s1 ck
theorem adG:cu P base T 3 t.Ak t.Cb kZ (Qm t):=by
 refine cR (IP T) fun ya=>cR (JB T) fun wD=>cR (vd T) fun mc=>?_;exists T.Iv.ok z_,9
 obtain ⟨c,n,ds,p,qs,ms,rows,rfl,C,R,J,ako,yU,q⟩:=h;have b7:=ml aj;obtain ⟨⟨h1,g9⟩,ax,wl,aB,ao,_,_⟩:=id C;refine ⟨_,(aQ (bX (i:=2) z_.aB (bS ya aj T.M7 T.wc.bj T.MF (db (gy rfl (eZ (U 1)) (fy (sc:=bt Fq) rfl (by ac_nf)) (N:=i5) (sel:=[none,none,none]) (fs (M:=["crossing","rows","homes","name","number"]) (by ac_nf)) (eT.of (fun _ _ _ _=>(kW (K:=K) (n:=3) rfl rfl (eG (b5 (i:=0) (dX (N:=i5) (by ac_nf) rfl)) (eG (b5 (i:=1) (dX (N:=i5) (by ac_nf) rfl)) (eG (b5 (i:=2) (dX (N:=i5) (by ac_nf) rfl)) kJ))))) (fun _ _ _ _=>⟨_,gV,by walk_at "B"⟩) (fun _ _ _ _=>⟨_,(U 2),by walk_at "B"⟩))) av)))
   (a3 (eU eJ rfl (eZ (oa (U 0) T.h8 T.GJ wD aj T.J5 .nil dK)) (b5 (i:=3) z_.aB) (aQ (bX (i:=4) z_.aB (vn b7 (U 2) (U 3) (fun _ _=>rfl)))
   (a3 (dW (c5 pv (bl eD (bl b0 (U 1) (U 4)) aJ) (c4 (gi (U 0) T.h8 T.oH mc aj T.pT .nil dK (db (U 3) av)) rfl) (cF _)) (a3 oQ) ec)))))),?_⟩
 nofun;have gW:(qs.map V.ref).length=rows.length:=by rw [aR,R.b_]
 refine ⟨⟨_,ak.of R.at_⟩,?_⟩;refine cX.kU (xs:=qs.map V.ref) (zs:=ms.map V.ref) (ak.of R.at_) (by rw [gW];exact cq J.ln (by decide)) (by rw [gW,aR,R.cM]) (fun j v z N aG aF bb=>?_) (fun pm pN=>?_)
 .obtain ⟨kV,eS,rfl⟩:=cm aG;obtain ⟨Ic,la,rfl⟩:=cm aF;have aN:j < rows.length:=by rw [<- R.b_];exact (bY.mp eS).1
  have e:=(R.al j kV Ic _ eS la (a_ aN)).1;nofun;exact ⟨_,cS.of e,rfl,_,_,rfl,_,_,rfl,_,_,rfl,rfl,Sub.vR,bb⟩
 .have sp:aH H (upd H pm (.lst (ms.map V.ref))):=a' pN;have np:aL H->aL (upd H pm (.lst (ms.map V.ref))):=fun n=>n.upd
  have cE:(upd H pm (.lst (ms.map V.ref))) pm=some (.lst (ms.map V.ref)):=aS;generalize upd H pm (.lst (ms.map V.ref))=q4 at sp np cE ⊢;refine ⟨pm,ms,rows.map (·.mem),rfl,⟨cE,by rw [R.cM,aR],fun i m x hm af=>?_⟩,by rw [aR];exact J.ln,fun x af=>?_,fun h H1 s1 ck bU ab=>?_⟩
  .obtain ⟨r,dY,rfl⟩:=cm af;have fM:qs[i]? = some (qs[i]'(by rw [R.b_];exact (bY.mp dY).1)):=a_ _;exact sp _ _ (R.al i _ m r fM hm dY).2
  .obtain ⟨r,dY,rfl⟩:=b2.mp af;exact J.g6 r dY
  .have sE:=sp.trans s1;have yp:=C.same sE;refine ⟨_,_,sE _ _ ao,lg _ _ _ (by ac_nf),c,n,ds,rfl,yp,fun ey mT=>⟨ey,rfl,⟨_,ak.of aS⟩,?_⟩⟩;have sB:=sE.trans (a' (o:=.lst (ba (ds.map (·.name)))) mT);have ai:=(a' (o:=.lst (ba (ds.map (·.name)))) mT) _ _ ab;have ly:aL H->aL (upd H1 ey (.lst (ba (ds.map (·.name))))):=fun n=>(ck (np n)).upd
   have rD:(upd H1 ey (.lst (ba (ds.map (·.name))))) ey=some (.lst (ba (ds.map (·.name)))):=aS;generalize upd H1 ey (.lst (ba (ds.map (·.name))))=lT at sB ai ly rD ⊢;refine dP.list (xs:=ba (ds.map (·.name))) (fun i σ I=>(∃ x y,σ=[~~~c,~~~p,~~~h,x,y])/\I=lT/\ww ds rows=(ds.drop i).findSome? (wk rows)) ?_ ?_ ?_ ?_
   .exact ⟨⟨_,_,rfl⟩,rfl,rfl⟩
   .rintro i σ I ag ⟨_,rfl,_⟩;exact ak.of rD
   .rintro i v σ I aG a7;ac_rfl
    obtain ⟨⟨x,y,rfl⟩,rfl,ea⟩:=a7;subst aY;unfold ba at aG;obtain ⟨nm,mJ,rfl⟩:=cm aG;obtain ⟨d,hd,rfl⟩:=cm mJ;obtain ⟨ag,amo⟩:=bY.mp hd;have LB:=bM hd;have dQ:told rows d.name=true:=by
     have:=Us.mp ako d.name (b2.mpr ⟨d,LB,rfl⟩);simpa using this
    obtain ⟨k,r,Yp,w4,sU,i8⟩:=Bl dQ;have j8:k < rows.length:=(bY.mp sU).1;have zX:wk rows d=if r.lo < d.least then some (d,k) else none:=by
     unfold wk;rw [w4,vP,sU,vP]
    rw [qP ag,Hf,amo,zX] at ea;have bg:iE I h (.str d.name) (some (.int (k:Int))):=by rw [<- Yp];exact iE.k (k:=cx d.name) ai
    have Sr:qs[k]? = some (qs[k]'(by rw [R.b_];exact j8)):=a_ _;have akr:ms[k]? = some (ms[k]'(by rw [R.cM];exact j8)):=a_ _;have ajc:=sB _ _ (R.al k _ _ r Sr akr sU).1;simp only [e_,dj,gU,gM];exists (fun ay az=>az=I/\ay=[~~~c,~~~p,~~~h,some (.str d.name),some (.int (k:Int))]),2
    .nofun;exact ⟨_,bg,kb _ _ ⟨rfl,rfl⟩⟩
    rintro cH az ⟨rfl,rfl⟩;subst aY;dsimp only;refine cP (decide (r.lo < d.least)) (fun Q aX=>?_) (fun ae=>?_) (fun ae=>?_)
    .nofun;exact ⟨_,ak.of (sB _ _ R.at_),_,bA (by rw [cV,Sr];rfl),_,rfl,_,cS.of ajc,_,bA (j:=0) rfl,_,_,sB _ _ ao,lg _ _ _ (by ac_nf),c,n,ds,i,d,rfl,C.same sB,hd,fun a W=>⟨a,rfl,_,W.ahI T,_,rfl,_,rfl,aX⟩⟩
    .have ae:=of_decide_eq_true ae;rw [if_pos ae] at ea;replace ea:ww ds rows=some (d,k):=ea;rw [ea] at yU;cases yU
    .have ae:=of_decide_eq_false ae;rw [if_neg ae] at ea;simp only [f'];exact ⟨⟨_,_,rfl⟩,trivial,ea⟩
   .rintro σ I a7;ac_rfl
    obtain ⟨⟨x,y,rfl⟩,rfl,ea⟩:=a7;subst aY;rw [gx,aR,ye] at ea;exact q _ sB ly
theorem ah3:cu P base T 4 t.D7 t.DP kZ (Tq t):=by
 refine cR (QO T) fun E_=>?_;exists T.K8.ok zo,9
 obtain ⟨c,n,ds,p,qs,ms,rows,rfl,C,aV,R,J,bC,yU,q⟩:=h;obtain ⟨⟨h1,g9⟩,ax,wl,aB,ao,_,_⟩:=id C;refine ⟨_,(a3 (eU eJ rfl (CP rfl T.Tk (db (U 1) av)) (kW (K:=K) (n:=2) rfl rfl (eG (b5 (i:=2) zo.aB) (eG (b5 (i:=3) zo.aB) kJ))) (a3 (eU eJ rfl (eZ (bl eD (U 3) aJ)) (b5 (i:=4) zo.aB) (a3 (eU eJ rfl (eZ (bl eD (U 3) aJ)) (b5 (i:=5) zo.aB) (a3 (dW (fW.pt (oo (c5 mz (U 4) (U 5) (cF _)) (oY (o1 (bS E_ aj T.Vi T.Ad.bj T.W8 (db (U 0) (db (U 4) (db (U 5) av)))))))) (a3 oQ) ec)))))))),?_⟩;nofun;have RD:∀ {x:Str},(∃ d ∈ ds,d.name=x)->∃ (i:Nat) (d:bx),ds[i]? = some d/\d.name=x/\i7 ds x=some d:=fun ⟨d,hd,e⟩=>by
  obtain ⟨i,ag⟩:=hD hd;exact ⟨i,d,ag,e,by rw [<- e];exact iy h1 ag⟩
 refine ⟨⟨_,ak.of R.at_⟩,?_⟩;refine dP.enum (xs:=qs.map V.ref) (fun i σ I=>(∃ x y z u,σ=[~~~c,~~~p,x,y,z,u])/\aH H I/\aL I/\t5 n ds rows=((rows.drop i).zipIdx i).findSome? (sF n ds)) ?_ ?_ ?_ ?_
 .exact ⟨⟨_,_,_,_,rfl⟩,aH.refl _,bC,rfl⟩
 .rintro i σ I ag ⟨_,bu,_⟩;exact ak.of (bu _ _ R.at_)
 .rintro i v σ I d2 aG ⟨⟨x,y,z,u,rfl⟩,bu,ck,ea⟩ lj;obtain ⟨rv,fM,rfl⟩:=cm aG;have ag:i < rows.length:=by rw [<- R.b_];exact (bY.mp fM).1
  have iS:rows[i]? = some rows[i]:=a_ ag;have pD:ms[i]? = some (ms[i]'(by rw [R.cM];exact ag)):=a_ _;obtain ⟨m7,em⟩:=R.al i rv _ _ fM pD iS;generalize ms[i]'(by rw [R.cM];exact ag)=m at pD m7 em;have tV:=bM iS;have f_:=J.v5 _ tV;have n8:=J.g6 _ tV;rw [qP ag,List.zipIdx_cons,Hf] at ea;generalize aoh:rows[i]=r at m7 em f_ n8 ea;have s2:aH I (upd I d2 (.tup [.int i,.ref rv])):=a' lj;have sB:=bu.trans s2;have ly:aL (upd I d2 (.tup [.int i,.ref rv])):=ck.upd;refine tn ?_;generalize upd I d2 (.tup [.int i,.ref rv])=lT at s2 sB ly ⊢;have Ud:=sB _ _ m7;have CK:=sB _ _ em;nofun;refine ⟨_,cS.of Ud,_,bA (j:=2) rfl,m,rfl,⟨_,ak.of CK⟩,?_⟩;generalize aoN:((rows.drop (i + 1)).zipIdx (i + 1)).findSome? (sF n ds)=rest at ea;refine dP.list (xs:=ba r.mem) (fun j σ az=>(∃ z u,σ=[~~~c,~~~p,some (.int (i:Int)),~~~rv,z,u])/\az=lT/\sF n ds (r,i)=(r.mem.drop j).findSome? (fun x=>r.mem.findSome? fun y=>pQ n ds i x y)) ?_ ?_ ?_ ?_
  .exact ⟨⟨_,_,rfl⟩,rfl,rfl⟩
  .rintro j σ az aN ⟨_,rfl,_⟩;exact ak.of CK
  .rintro j v σ az aG a7;ac_rfl
   obtain ⟨⟨z,u,rfl⟩,rfl,fZ⟩:=a7;subst aY;unfold ba at aG;obtain ⟨bR,oD,rfl⟩:=cm aG;obtain ⟨aN,ab7⟩:=bY.mp oD;rw [qP aN,Hf,ab7] at fZ;obtain ⟨i1,ew,z5,adZ,xQ⟩:=RD (f_ bR (bM oD));generalize apg:(r.mem.drop (j + 1)).findSome? (fun x=>r.mem.findSome? fun y=>pQ n ds i x y)=aoo at fZ;nofun;refine ⟨_,cS.of Ud,_,bA (j:=2) rfl,m,rfl,⟨_,ak.of CK⟩,?_⟩;refine dP.list (xs:=ba r.mem) (fun l σ bI=>(∃ u,σ=[~~~c,~~~p,some (.int (i:Int)),~~~rv,some (.str bR),u])/\bI=az/\(r.mem.findSome? fun y=>pQ n ds i bR y)=(r.mem.drop l).findSome? (fun y=>pQ n ds i bR y)) ?_ ?_ ?_ ?_
   .exact ⟨⟨_,rfl⟩,rfl,rfl⟩
   .rintro l σ bI aD ⟨_,rfl,_⟩;exact ak.of CK
   .rintro l v σ bI aG a7;ac_rfl
    obtain ⟨⟨u,rfl⟩,rfl,ei⟩:=a7;subst aY;unfold ba at aG;obtain ⟨gc,sv,rfl⟩:=cm aG;obtain ⟨aD,kK⟩:=bY.mp sv;rw [qP aD,Hf,kK] at ei;obtain ⟨i2,eW,hd2,r1,Mu⟩:=RD (f_ gc (bM sv));have Cd:mY n ds bR gc=mt n ew eW:=by unfold mY;rw [xQ,Mu]
    have ahV:pQ n ds i bR gc=if bR ≠ gc/\mt n ew eW=true then some (bR,gc,i) else none:=by unfold pQ;rw [Cd]
    rw [ahV] at ei;simp only [e_,gU,gM];refine cP (decide (bR ≠ gc) && mt n ew eW) (fun Q aX=>?_) (fun ae=>?_) (fun ae=>?_)
    .nofun;by_cases ct:bR=gc
     .rw [if_neg (by simp [ct])];rw [decide_eq_false (fun z=>z ct),uZ] at aX;exact aX
     .rw [if_pos (by simpa using ct)];rw [decide_eq_true ct,rZ] at aX;exact ⟨c,n,ds,i1,i2,ew,eW,by rw [adZ,r1],C.same sB,aV,z5,hd2,ly,_,rfl,aX⟩
    .rw [jX,decide_eq_true_eq] at ae;rw [if_pos ae] at ei;replace ei:(r.mem.findSome? fun y=>pQ n ds i bR y)=some (bR,gc,i):=ei;rw [ei] at fZ;replace fZ:sF n ds (r,i)=some (bR,gc,i):=fZ;rw [fZ] at ea;replace ea:t5 n ds rows=some (bR,gc,i):=ea;rw [ea] at yU;cases yU
    .have ae:¬ (bR ≠ gc/\mt n ew eW=true):=fun z=>by
      rw [decide_eq_true z.1,z.2] at ae;exact nomatch ae
     rw [if_neg ae] at ei;simp only [f'];exact ⟨⟨_,rfl⟩,trivial,ei⟩
   .rintro σ bI a7;ac_rfl
    obtain ⟨⟨u,rfl⟩,rfl,ei⟩:=a7;subst aY;rw [gx,ye] at ei;replace ei:(r.mem.findSome? fun y=>pQ n ds i bR y)=none:=ei;rw [ei] at fZ;exact ⟨⟨_,_,rfl⟩,rfl,fZ⟩
  .rintro σ az a7;ac_rfl
   obtain ⟨⟨z,u,rfl⟩,rfl,fZ⟩:=a7;subst aY;rw [gx,ye] at fZ;replace fZ:sF n ds (r,i)=none:=fZ;rw [fZ] at ea;exact ⟨⟨_,_,_,_,rfl⟩,sB,ly,ea⟩
 .rintro σ I a7;ac_rfl
  obtain ⟨⟨x,y,z,u,rfl⟩,bu,ck,ea⟩:=a7;subst aY;rw [aR,R.b_,ye] at ea;exact q _ bu (fun _=>ck)
theorem aja:cu P base T 4 t.GR t.M6 GF (aem t):=by
 refine bV.forget (sp:=ahT t) ?_ fun vs H Q E h=>?_
 .have E_:bV P w K mg base c9 3 t.Cz t.DI rG (RE t):=QO T;have alo:bV P w K mg base c9 3 t.C8 t.Cg rG (SV t):=ajm T;have wD:bV P w K mg base c9 3 t.wz t.Ag ["self"] (Os t):=(JB T).mono (by decide);have mc:bV P w K mg base c9 3 t.q3 t.si jk (E8 t):=(vd T).mono (by decide);have adF:tG P w K mg base c9 3 (BR t) "ready" ["self"] (xJ t):=UE (aba T) (by decide);have acD:tG P w K mg base c9 3 (BR t) "fade" ["self"] (yz t):=UE (alN T) (by decide);exists T.Fg.ok GU,9
  obtain ⟨c,n,ds,gq,bE,f,s,rfl,C,aV,bD,hf,aw,fin,sin,n3,oK,bC,q⟩:=h;obtain ⟨⟨h1,g9⟩,ax,wl,aB,ao,_,_⟩:=id C;refine ⟨_,(aQ (bX (i:=3) GU.aB (d4 (db aJ av)))
   (aQ (dN (ef e2 qK rb pX (U 3) (db (gy rfl (eZ (U 1)) (fy (sc:=bt y7) rfl (by ac_nf)) (N:=AI) (sel:=[none,some 0]) (fs (M:=BH) (by ac_nf)) (eT.of (fun _ _ _ _=>(b5 (i:=0) (dX (N:=AI) (by ac_nf) rfl))) (fun _ _ _ _=>⟨_,gV,by walk_at "B"⟩) (fun _ _ _ _=>⟨_,(Vu (gi (U 1) T.h8 T.oH mc aj T.pT .nil dK (db (U 0) av)) acD aj dK),by walk_at "B"⟩))) av)))
   (aQ (dN (ef e2 qK rb pX (U 3) (db (gy rfl (eZ (U 2)) (fy (sc:=bt y7) rfl (by ac_nf)) (N:=AI) (sel:=[none,some 0]) (fs (M:=BH) (by ac_nf)) (eT.of (fun _ _ _ _=>(b5 (i:=0) (dX (N:=AI) (by ac_nf) rfl))) (fun _ _ _ _=>⟨_,gV,by walk_at "B"⟩) (fun _ _ _ _=>⟨_,(Vu (gi (U 1) T.h8 T.oH mc aj T.pT .nil dK (db (U 0) av)) adF aj dK),by walk_at "B"⟩))) av)))
   (aQ (eU eJ rfl (eZ (oa (U 0) T.h8 T.GJ wD aj T.J5 .nil dK)) (yJ (i:=4) GU.aB rfl (kx rfl)) (a3 (dW (c5 z4 (U 4) (U 2) (by with_unfolding_all rfl)) (a3 (dN (ef e2 qK rb pX (U 3) (db (gy rfl (eZ (U 2)) (fy (sc:=bt y7) rfl (by ac_nf)) (N:=["other","crossing","one"]) (sel:=[none,some 0,some 4]) (fs (M:=BH) (by ac_nf)) (eT.of (fun _ _ _ _=>(b5 (i:=0) (dX (N:=["other","crossing","one"]) (by ac_nf) rfl))) (fun _ _ _ _=>⟨_,(uX (o1 (bS E_ aj T.Vi T.Ad.bj T.W8 (db (U 1) (db (U 2) (db (U 0) av)))))),by walk_at "B"⟩) (fun _ _ _ _=>⟨_,(bS alo aj T.alg T.JR.bj T.FS (db (U 1) (db (U 2) (db (U 0) av)))),by walk_at "B"⟩))) av)))) ec)))
   (a3 (cc (ep (Ge rfl) rfl T.t2 yZ (db (U 3) av)))))))),?_⟩
  exists (fun ay I=>aH H I/\aL I/\∃ bo,H bo=none/\I bo=some (.lst ([(0:Int)].map V.int))/\ay=[~~~c,~~~gq,~~~bE,~~~bo,none]),3
  .nofun;exact ⟨by decide,fun bo j6=>bD _ _ ⟨a' j6,bC.upd,bo,j6,aS,rfl⟩⟩
  rintro gu H1 ⟨s1,ck,bo,j6,dI,rfl⟩;subst aY;exists (fun ay I=>aH H I/\aL I/\I bo=some (.lst (([0] ++ f.map (qh ds)).map V.int))/\ay=[~~~c,~~~gq,~~~bE,~~~bo,none]),5
  .nofun;refine ⟨.inl ⟨_,ak.of dI⟩,⟨_,ak.of (s1 _ _ hf)⟩,?_⟩;refine cX.kU (xs:=ba f) (zs:=(f.map (qh ds)).map V.int) (ak.of (s1 _ _ hf)) (by rw [gx];exact cq n3 (by decide)) (by rw [gx,aR,aR]) (fun j v z N aG aF bb=>?_) (fun pl cO=>?_)
   .unfold ba at aG;obtain ⟨x,af,rfl⟩:=cm aG;obtain ⟨y,aU,rfl⟩:=cm aF;obtain ⟨ie,e7,rfl⟩:=cm aU;rw [af] at e7;cases e7;obtain ⟨d,hd,rfl⟩:=fin x (bM af);obtain ⟨i,ag⟩:=hD hd;have GL:qh ds d.name=jK d:=by unfold qh;rw [iy h1 ag];rfl
    rw [GL] at bb;nofun;refine ⟨Sub.name,_,_,s1 _ _ ao,lg _ _ _ (by ac_nf),c,n,ds,i,d,rfl,C.same s1,ag,fun a W=>?_⟩;obtain ⟨F1,W',wH⟩:=id W;exact ⟨a,rfl,_,_,_,wH,⟨_,F1,rfl⟩,QH (by ac_nf),a,d,rfl,W,rfl,bb⟩
   .refine ⟨pl,rfl,_,(a' cO) _ _ dI,_,aS,?_,kb _ _ ⟨(s1.trans (a' cO)).gk j6,(ck.upd).upd,by rw [aS,dA],rfl⟩⟩;rw [aR,aR,aR];exact cq (show _ <= 13 by show 1 + f.length <= 13;omega) (by decide)
  rintro cH az ⟨s2,cv,dB,rfl⟩;subst aY;exists (fun ay I=>aH H I/\aL I/\I bo=some (.lst (([0] ++ f.map (qh ds) ++ s.map (rd ds)).map V.int))/\ay=[~~~c,~~~gq,~~~bE,~~~bo,none]),5
  .nofun;refine ⟨.inl ⟨_,ak.of dB⟩,⟨_,ak.of (s2 _ _ aw)⟩,?_⟩;refine cX.kU (xs:=ba s) (zs:=(s.map (rd ds)).map V.int) (ak.of (s2 _ _ aw)) (by rw [gx];exact cq oK (by decide)) (by rw [gx,aR,aR]) (fun j v z N aG aF bb=>?_) (fun pl cO=>?_)
   .unfold ba at aG;obtain ⟨x,af,rfl⟩:=cm aG;obtain ⟨y,aU,rfl⟩:=cm aF;obtain ⟨ie,e7,rfl⟩:=cm aU;rw [af] at e7;cases e7;obtain ⟨d,hd,rfl⟩:=sin x (bM af);obtain ⟨i,ag⟩:=hD hd;have GL:rd ds d.name=jH d:=by unfold rd;rw [iy h1 ag];rfl
    rw [GL] at bb;nofun;refine ⟨Sub.name,_,_,s2 _ _ ao,lg _ _ _ (by ac_nf),c,n,ds,i,d,rfl,C.same s2,ag,fun a W=>?_⟩;obtain ⟨F1,W',wH⟩:=id W;exact ⟨a,rfl,_,_,_,wH,⟨_,F1,rfl⟩,QH (by ac_nf),a,d,rfl,W,rfl,bb⟩
   .refine ⟨pl,rfl,_,(a' cO) _ _ dB,_,aS,?_,kb _ _ ⟨(s2.trans (a' cO)).gk j6,(cv.upd).upd,by rw [aS,<- dA],rfl⟩⟩;rw [aR,aR,aR,cC,aR];exact cq (show _ <= 25 by show 1 + f.length + s.length <= 25;omega) (by decide)
  rintro gE bI ⟨s3,c0,gD,rfl⟩;subst aY;exists (fun ay I=>aH H I/\aL I/\I bo=some (.lst ((ki n ds f s).map V.int))/\∃ c8,ay=[~~~c,~~~gq,~~~bE,~~~bo,c8]),5
  .nofun;have uv:=C.same s3;refine ⟨_,_,s3 _ _ ao,lg _ _ _ (by ac_nf),c,n,ds,rfl,uv,fun ey mT=>⟨ey,rfl,⟨_,ak.of aS⟩,?_⟩⟩;have sB:=s3.trans (a' (o:=.lst (ba (ds.map (·.name)))) mT);have ly:aL (upd bI ey (.lst (ba (ds.map (·.name))))):=c0.upd;have rD:(upd bI ey (.lst (ba (ds.map (·.name))))) ey=some (.lst (ba (ds.map (·.name)))):=aS;have n6:=(a' (o:=.lst (ba (ds.map (·.name)))) mT) _ _ gD;have aji:ey ≠ bo:=fun z=>by rw [z,gD] at mT;cases mT
   generalize upd bI ey (.lst (ba (ds.map (·.name))))=lT at sB ly rD n6 ⊢;refine dP.list (xs:=ba (ds.map (·.name))) (fun i σ I=>(∃ x,σ=[~~~c,~~~gq,~~~bE,~~~bo,x])/\aH H I/\aL I/\I ey=some (.lst (ba (ds.map (·.name))))/\I bo=some (.lst (([(0:Int)] ++ f.map (qh ds) ++ s.map (rd ds) ++ ((ds.map fun d:bx=>d.name).take i).flatMap (oL n ds s)).map V.int))/\(((ds.map fun d:bx=>d.name).take i).flatMap (oL n ds s)).length <= 12 * i) ?_ ?_ ?_ ?_
   .exact ⟨⟨_,rfl⟩,sB,ly,rD,by rw [ru,aer,p5];exact n6,by simp⟩
   .rintro i σ I ag a7;ac_rfl
    obtain ⟨_,_,_,e,_⟩:=a7;subst aY;exact ak.of e
   .rintro i v σ I aG a7;ac_rfl
    obtain ⟨⟨c8,rfl⟩,bu,de,Pw,g0,Cu⟩:=a7;subst aY;unfold ba at aG;obtain ⟨nm,mJ,rfl⟩:=cm aG;have abr:=mJ;obtain ⟨d,hd,rfl⟩:=cm abr;have ao2:i < 12:=by have:=(bY.mp hd).1;omega
    have S7:=iy h1 hd;simp only [e_,gU,gM];refine cP (!decide (d.name ∈ s)) (fun Q aX=>?_) (fun ae=>?_) (fun ae=>?_)
    .nofun;refine ⟨_,.inl (ak.of (bu _ _ aw)),rfl,D6 s,?_⟩;rw [A8];exact aX
    .have ae:d.name ∉ s:=by simpa using ae
     have sO:oL n ds s d.name=(s.filter fun y=>mY n ds d.name y).map (dL ds d.name):=by unfold oL;rw [if_neg ae]
     nofun;refine ⟨.inl ⟨_,ak.of g0⟩,⟨_,ak.of (bu _ _ aw)⟩,?_⟩;refine cX.yO (xs:=ba s) (ss:=s.map fun y=>if mY n ds d.name y=true then some (V.int (dL ds d.name y)) else none) (ak.of (bu _ _ aw)) (by rw [gx];exact cq oK (by decide)) (by rw [gx,aR]) (fun l v o ys N aG aW bb=>?_) (fun pl cO=>?_)
     .unfold ba at aG;obtain ⟨gc,sv,rfl⟩:=cm aG;obtain ⟨ie,e7,rfl⟩:=cm aW;rw [sv] at e7;cases e7;obtain ⟨e,he,rfl⟩:=sin gc (bM sv);obtain ⟨j,aN⟩:=hD he;have TY:=iy h1 aN;have t7:mY n ds d.name e.name=mt n d e:=by unfold mY;rw [S7,TY]
      have Dt:dL ds d.name e.name=if d.off - e.near > 0 then d.off - e.near else 0:=by unfold dL;rw [S7,TY]
      rw [t7,Dt] at bb;nofun;refine ⟨Sub.name,c,n,ds,i,j,d,e,rfl,C.same bu,aV,hd,aN,de,_,rfl,?_⟩;cases Cd:mt n d e with
      | true=>
       rw [if_pos rfl];rw [Cd,if_pos rfl] at bb;exact ⟨c,n,ds,i,j,d,e,rfl,C.same bu,hd,aN,bb⟩
      | false=>
       rw [if_neg (by decide)];rw [Cd,if_neg (by decide)] at bb;simpa using bb
     .rw [Qe (fun y=>mY n ds d.name y) (dL ds d.name),<- sO];have oI:(oL n ds s d.name).length <= 12:=by rw [sO,aR];exact cq (u3 ..) oK
      refine ⟨pl,rfl,_,(a' cO) _ _ g0,_,aS,?_,⟨_,rfl⟩,(bu.trans (a' cO)).gk j6,(de.upd).upd,by rw [aZ aji];exact (a' cO) _ _ Pw,?_,?_⟩
      .rw [aR,aR,cC,cC,cC,aR,aR];exact cq (show _ <= 500 by show 1 + f.length + s.length + _ + _ <= 500;omega) (by decide)
      .rw [aS,mC mJ,vk,<- dA];simp
      .rw [mC mJ,vk,cC,u',aer,p5];omega
    .have ae:d.name ∈ s:=by simpa using ae
     have sO:oL n ds s d.name=[]:=by unfold oL;rw [if_pos ae]
     simp only [f'];refine ⟨⟨_,rfl⟩,bu,de,Pw,?_,?_⟩
     .rw [mC mJ,vk,u',sO];simpa using g0
     .rw [mC mJ,vk,cC,u',sO];show _ + 0 <= _;omega
   .rintro σ I a7;ac_rfl
    obtain ⟨⟨c8,rfl⟩,bu,de,_,g0,_⟩:=a7;subst aY;rw [gx,iF] at g0;exact kb _ _ ⟨bu,de,g0,_,rfl⟩
  rintro mw cD ⟨s4,de,g0,c8,rfl⟩;subst aY;nofun;obtain ⟨m4,ab,ai⟩:=xY (ki n ds f s) (by unfold ki;simp);exact ⟨_,ak.of g0,m4,ab,ai,q m4 cD s4 ⟨ab,ai⟩⟩
 .obtain ⟨c,n,ds,gq,bE,f,s,rfl,C,aV,bD,hf,aw,fin,sin,n3,oK,bC,q⟩:=h;exact ⟨bC,c,n,ds,gq,bE,f,s,rfl,C,aV,bD,hf,aw,fin,sin,n3,oK,bC,fun v I bu aG=>⟨bu,q v aG⟩⟩
noncomputable abbrev qL:List Str:=[ah "crossing",ah "many",ah "leasts",ah "mosts",ah "members",ah "sorts",ah "homes",ah "changes"]
noncomputable def lX (c:Addr) (k:Nat) (le mo c1 dE aW ch:Addr):List (Str × V):=[(ah "crossing",V.ref c),(ah "many",V.int k),(ah "leasts",V.ref le),(ah "mosts",V.ref mo),(ah "members",V.ref c1),(ah "sorts",V.ref dE),(ah "homes",V.ref aW),(ah "changes",V.ref ch)]
theorem rB (c:Addr) (k:Nat) (le mo c1 dE aW ch:Addr):(lX c k le mo c1 dE aW ch).map (·.1)=qL:=rfl
noncomputable def kM (ds:List bx) (r:ST):Str:=((r.mem.head?.bind (i7 ds)).map iq).getD (ah "")
noncomputable def stK (i j:Nat):List Key:=[ry (i:Int),ry (j:Int)]
def lh (n:Int) (ds:List bx) (rows:List ST) (i j:Nat) (aA:List (List Key × V)):Prop:=aA.length <= 6 * i + j/\∀ (a b:Nat) (r s:ST),rows[a]? = some r->rows[b]? = some s->a ≠ b->a < i\/(a=i/\b < j)->∃ v,dn aA (stK a b)=some (.int v)/\kc (ki n ds r.mem s.mem) v
section
variable (P:Program) (w:World)
def hv (t:b6) (H:au) (a c:Addr) (n:Int) (ds:List bx) (rows:List ST):Prop:=∃ ax le mo c1 dE aW ch ms aA,H a=some (.ins t.fp ax (lX c rows.length le mo c1 dE aW ch))/\fk t H c n ds/\H le=some (.lst (rows.map fun r=>V.int r.lo))/\H mo=some (.lst (rows.map fun r=>V.int r.ag))/\mQ H c1 ms (rows.map (·.mem))/\H dE=some (.lst (ba (rows.map (kM ds))))/\H aW=some (.di (gH (rows.map (·.mem))))/\iL P w H ch aA/\lh n ds rows rows.length 0 aA
def SP (t:b6):bO:=fun vs H Q _=>∃ a ax c n ds p qs ms rows,vs=[.ref a,.ref c,.ref p]/\H a=some (.ins t.fp ax [])/\fk t H c n ds/\0 < n/\yI ds/\iI H p qs ms rows/\pY ds rows/\(∀ r ∈ rows,r.mem ≠ [])/\aL H /\
 ∀ I,dv a H I->aL I->hv P w t I a c n ds rows->Q .cg I
end
theorem abz (h:stK a b=stK i j):a=i/\b=j:=by
 unfold stK at h;simp at h;omega
theorem lh.nil (n:Int) (ds:List bx) (rows:List ST):lh n ds rows 0 0 []:=⟨fg _,fun a b r s _ _ _ h=>by omega⟩
theorem lh.skip {rows:List ST} (h:lh n ds rows i i aA):lh n ds rows i (i + 1) aA:=⟨by have:=h.1;omega,fun a b r s aj aw nZ ar=>h.2 a b r s aj aw nZ (by omega)⟩
theorem lh.next {rows:List ST} (aD:rows.length <= 6) (h:lh n ds rows i rows.length aA):lh n ds rows (i + 1) 0 aA:=⟨by have:=h.1;omega,fun a b r s aj aw nZ ar=>h.2 a b r s aj aw nZ (by
 have:=(bY.mp aw).1
 omega)⟩
theorem YR (aA:List (List Key × V)) (k:List Key) (v:V):(fB aA k v).length <= aA.length + 1:=by
 unfold fB;split
 .rw [aR];omega
 .rw [cC];exact bP _
theorem lh.put {rows:List ST} (h:lh n ds rows i j aA) (aj:rows[i]? = some r) (aw:rows[j]? = some s) (aG:kc (ki n ds r.mem s.mem) v):lh n ds rows i (j + 1) (fB aA (stK i j) (.int v)):=by
 refine ⟨by have:=h.1;have:=YR aA (stK i j) (.int v);omega,fun a b eo s' dY kf nZ ar=>?_⟩;rw [N4];by_cases c:stK a b=stK i j
 .rw [if_pos c];obtain ⟨rfl,rfl⟩:=abz c;rw [aj] at dY;rw [aw] at kf;cases dY;cases kf;exact ⟨v,rfl,aG⟩
 .rw [if_neg c];exact h.2 a b eo s' dY kf nZ (by
   rcases ar with z | ⟨e4,dH⟩
   .exact .inl z
   .by_cases z:b=j
    .exact absurd (by rw [e4,z]) c
    .exact .inr ⟨e4,by omega⟩)
theorem iI.ui {a p C ax:Addr} {rows:List ST} (h:iI H p qs ms rows) (s:dv a H I) (aK:H a=some (.ins C ax [])):iI I p qs ms rows:=by
 refine ⟨s _ _ (eI h.at_ aK (by intro z;cases z)) h.at_,h.b_,h.cM,fun i q m r x y z=>?_⟩;obtain ⟨ao,aC⟩:=h.al i q m r x y z;exact ⟨s _ _ (eI ao aK (by intro z;cases z)) ao,s _ _ (eI aC aK (by intro z;cases z)) aC⟩
theorem NH {H:au} {p b C D ax m':Addr} {x:Str × V} {aO:List (Str × V)} (aq:H p=some (.ins C ax [])) (ae:H b=some (.ins D m' (x :: aO))):b ≠ p:=fun z=>by
 subst z;rw [aq] at ae;cases ae
theorem ak5 {t:b6} {H I:au} {p a C ax:Addr} {d:bx} (aq:H p=some (.ins C ax [])) (jT:dv p H I) (h:eX t H a d):eX t I a d:=by
 obtain ⟨ab,m',e⟩:=h;exact ⟨ab,m',jT _ _ (NH aq e) e⟩
theorem MK {t:b6} {H I:au} {p c C ax:Addr} {n:Int} {ds:List bx} (aq:H p=some (.ins C ax [])) (jT:dv p H I) (h:fk t H c n ds):fk t I c n ds:=by
 obtain ⟨h0,m',wl,aB,ao,⟨as,dI,dB,gD⟩,bJ⟩:=h;exact ⟨h0,m',wl,aB,jT _ _ (NH aq ao) ao,⟨as,jT _ _ (eI dI aq (by intro z;cases z)) dI,dB,fun i a d ab ai=>ak5 aq jT (gD i a d ab ai)⟩,jT _ _ (eI bJ aq (by intro z;cases z)) bJ⟩
theorem mQ.upd {b p:Addr} (h:mQ H p ms dk) (ae:H b=some u) (b7:∀ xs,u ≠ .lst xs):mQ (upd H b o) p ms dk:=by
 refine ⟨by rw [aZ (eI h.at_ ae (fun z=>b7 _ z.symm))];exact h.at_,h.ln,fun i m x a c=>?_⟩;have e:=h.al i m x a c;rw [aZ (eI e ae (fun z=>b7 _ z.symm))];exact e
section
variable {w:World} {K:bc} {mg:Str->Option Value} {t:b6} {H:au} {a c ax le mo c1 dE aW ch:Addr} {k:Nat}
theorem qF (T:Txt w K mg t) (e:H a=some (.ins t.fp ax (lX c k le mo c1 dE aW ch))):hV K H a (ah "many") (.int k):=⟨_,ax,_,e,T.ku,T.Of,ks qL 1 (rB ..) (by ac_nf) rfl⟩
theorem Iz (T:Txt w K mg t) (e:H a=some (.ins t.fp ax (lX c k le mo c1 dE aW ch))):hV K H a (ah "members") (.ref c1):=⟨_,ax,_,e,T.ku,T.Lr,ks qL 4 (rB ..) (by ac_nf) rfl⟩
theorem Qf (T:Txt w K mg t) (e:H a=some (.ins t.fp ax (lX c k le mo c1 dE aW ch))):hV K H a (ah "changes") (.ref ch):=⟨_,ax,_,e,T.ku,T.SU,ks qL 7 (rB ..) (by ac_nf) rfl⟩
end
theorem ama:cu P base T 5 t.yw t.Bq B6 (SP P w t):=by
 refine cR (VT T) fun Cq=>cR (IP T) fun ya=>cR (aja T) fun akC=>?_;exists T.TC.ok G6,9
 obtain ⟨a,ax,c,n,ds,p,qs,ms,rows,rfl,aK,C,aV,bD,R,J,cB,bC,q⟩:=h;have b7:=ml aj;have h1:=C.1.1;have gW:(qs.map V.ref).length=rows.length:=by rw [aR,R.b_]
 have mm:(qs.map V.ref).length <= sizeLine:=by rw [gW];exact cq J.ln (by decide)
 refine ⟨_,(aQ (h9 (U 0) (U 1) rfl)
   (aQ (h9 (U 0) (ep fV rfl T.fG fJ (db (U 2) av)) rfl)
   (aQ (h9 (U 0) (gy rfl (eZ (U 2)) (fy (sc:=bt vI) rfl (by ac_nf)) (N:=i5) (sel:=[none,none,none]) (fs (M:=wx) (by ac_nf)) (eT.of (fun _ _ _ _=>(kW (K:=K) (n:=3) rfl rfl (eG (b5 (i:=0) (dX (N:=i5) (by ac_nf) rfl)) (eG (b5 (i:=1) (dX (N:=i5) (by ac_nf) rfl)) (eG (b5 (i:=2) (dX (N:=i5) (by ac_nf) rfl)) kJ))))) (fun _ _ _ _=>⟨_,gV,by walk_at "B"⟩) (fun _ _ _ _=>⟨_,(U 0),by walk_at "B"⟩))) rfl)
   (aQ (h9 (U 0) (gy rfl (eZ (U 2)) (fy (sc:=bt vI) rfl (by ac_nf)) (N:=i5) (sel:=[none,none,none]) (fs (M:=wx) (by ac_nf)) (eT.of (fun _ _ _ _=>(kW (K:=K) (n:=3) rfl rfl (eG (b5 (i:=0) (dX (N:=i5) (by ac_nf) rfl)) (eG (b5 (i:=1) (dX (N:=i5) (by ac_nf) rfl)) (eG (b5 (i:=2) (dX (N:=i5) (by ac_nf) rfl)) kJ))))) (fun _ _ _ _=>⟨_,gV,by walk_at "B"⟩) (fun _ _ _ _=>⟨_,(U 1),by walk_at "B"⟩))) rfl)
   (aQ (h9 (U 0) (gy rfl (eZ (U 2)) (fy (sc:=bt vI) rfl (by ac_nf)) (N:=i5) (sel:=[none,none,none]) (fs (M:=wx) (by ac_nf)) (eT.of (fun _ _ _ _=>(kW (K:=K) (n:=3) rfl rfl (eG (b5 (i:=0) (dX (N:=i5) (by ac_nf) rfl)) (eG (b5 (i:=1) (dX (N:=i5) (by ac_nf) rfl)) (eG (b5 (i:=2) (dX (N:=i5) (by ac_nf) rfl)) kJ))))) (fun _ _ _ _=>⟨_,gV,by walk_at "B"⟩) (fun _ _ _ _=>⟨_,(U 2),by walk_at "B"⟩))) rfl)
   (aQ (h9 (U 0) (gy rfl (eZ (U 2)) (fy (sc:=bt vI) rfl (by ac_nf)) (N:=Dj) (sel:=[none,none,none,some 1]) (fs (M:=wx) (by ac_nf)) (eT.of (fun _ _ _ _=>(kW (K:=K) (n:=3) rfl rfl (eG (b5 (i:=0) (dX (N:=Dj) (by ac_nf) rfl)) (eG (b5 (i:=1) (dX (N:=Dj) (by ac_nf) rfl)) (eG (b5 (i:=2) (dX (N:=Dj) (by ac_nf) rfl)) kJ))))) (fun _ _ _ _=>⟨_,gV,by walk_at "B"⟩) (fun _ _ _ _=>⟨_,(bS Cq aj T.Ip T.xE.bj T.Kc (db (U 3) (db (bl b0 (U 2) aJ) av))),by walk_at "B"⟩))) rfl)
   (aQ (h9 (U 0) (bS ya aj T.M7 T.wc.bj T.MF (db (c4 (U 0) rfl) av)) rfl)
   (aQ (h9 (U 0) agt rfl)
   (a3 (eU eJ rfl (iw rfl T.hA (db (c4 (U 0) rfl) av)) (b5 (i:=3) G6.aB) (a3 (eU eJ rfl (iw rfl T.hA (db (c4 (U 0) rfl) av)) (b5 (i:=4) G6.aB) (a3 (dW (c5 mz (U 3) (U 4) (cF _)) (a3 (ajZ b7 (c4 (U 0) rfl) (qi (db (U 3) (db (U 4) av))) (bS akC aj T.Y1 T.Fg.bj T.ajQ (db (U 1) (db (bl b0 (c4 (U 0) rfl) (U 3)) (db (bl b0 (c4 (U 0) rfl) (U 4)) av)))) rfl)) ec)))))))))))))),?_⟩
 exists (fun ay I=>dv a H I/\aL I/\I a=some (.ins t.fp ax [(ah "crossing",V.ref c)])/\ay=[~~~a,~~~c,~~~p,none,none]),5
 .nofun;exact ⟨_,_,_,aK,T.ku,T.NP,by decide,kb _ _ ⟨fun b u ae e=>by rw [aZ ae];exact e,bC.upd,aS,rfl⟩⟩
 rintro gu H1 ⟨bR,ck,a1,rfl⟩;have kS:=R.ui bR aK;subst aY;exists (fun ay I=>dv a H I/\aL I/\I a=some (.ins t.fp ax [(ah "crossing",V.ref c),(ah "many",V.int (rows.length:Int))])/\ay=[~~~a,~~~c,~~~p,none,none]),5
 .nofun;refine ⟨_,.inl (ak.of kS.at_),_,_,_,a1,T.ku,T.Of,(show (1:Nat) < 1000 by decide),?_⟩;rw [gW,show eh (ah "many") (V.int (rows.length:Int)) [(ah "crossing",V.ref c)]=[(ah "crossing",V.ref c),(ah "many",V.int (rows.length:Int))] from iG [ah "crossing"] rfl (by ac_nf)];exact kb _ _ ⟨fun b u ae e=>by rw [aZ ae];exact bR _ _ ae e,ck.upd,aS,rfl⟩
 rintro cH az ⟨gc,cv,a2,rfl⟩;have fb:=R.ui gc aK;subst aY;exists (fun ay I=>dv a H I/\aL I/\∃ le,I a=some (.ins t.fp ax [(ah "crossing",V.ref c),(ah "many",V.int (rows.length:Int)),(ah "leasts",V.ref le)])/\I le=some (.lst (rows.map fun r=>V.int r.lo))/\ay=[~~~a,~~~c,~~~p,none,none]),5
 .nofun;refine ⟨⟨_,ak.of fb.at_⟩,?_⟩;refine cX.kU (xs:=qs.map V.ref) (zs:=rows.map fun r=>V.int r.lo) (ak.of fb.at_) mm (by rw [gW,aR]) (fun j v z N aG aF bb=>?_) (fun pl cO=>?_)
  .obtain ⟨kV,eS,rfl⟩:=cm aG;have aN:j < rows.length:=by rw [<- R.b_];exact (bY.mp eS).1
   have la:ms[j]? = some (ms[j]'(by rw [R.cM];exact aN)):=a_ _;have ib:rows[j]? = some rows[j]:=a_ aN;obtain ⟨e,em⟩:=fb.al j kV _ _ eS la ib;obtain ⟨r,dY,rfl⟩:=cm aF;rw [ib] at dY;cases dY;nofun;exact ⟨_,cS.of e,rfl,_,_,rfl,_,_,rfl,_,_,rfl,rfl,Sub.vR,bb⟩
  .have p7:pl ≠ a:=fun z=>by rw [z,a2] at cO;cases cO
   refine ⟨_,_,_,(a' cO) _ _ a2,T.ku,T.TK,(show (2:Nat) < 1000 by decide),?_⟩;rw [show eh (ah "leasts") (V.ref pl) [(ah "crossing",V.ref c),(ah "many",V.int (rows.length:Int))]=[(ah "crossing",V.ref c),(ah "many",V.int (rows.length:Int)),(ah "leasts",V.ref pl)] from iG [ah "crossing",ah "many"] rfl (by ac_nf)];exact kb _ _ ⟨fun b u ae e=>by rw [aZ ae];exact (a' cO) _ _ (gc _ _ ae e),(cv.upd).upd,pl,aS,by rw [aZ p7];exact aS,rfl⟩
 rintro gE bI ⟨fx,c0,le,gp,fw,rfl⟩;have hle:le ≠ a:=eI fw gp (by intro z;cases z);have ng:=R.ui fx aK;subst aY;exists (fun ay I=>dv a H I/\aL I/\∃ mo,I a=some (.ins t.fp ax [(ah "crossing",V.ref c),(ah "many",V.int (rows.length:Int)),(ah "leasts",V.ref le),(ah "mosts",V.ref mo)])/\I le=some (.lst (rows.map fun r=>V.int r.lo))/\I mo=some (.lst (rows.map fun r=>V.int r.ag))/\ay=[~~~a,~~~c,~~~p,none,none]),5
 .nofun;refine ⟨⟨_,ak.of ng.at_⟩,?_⟩;refine cX.kU (xs:=qs.map V.ref) (zs:=rows.map fun r=>V.int r.ag) (ak.of ng.at_) mm (by rw [gW,aR]) (fun j v z N aG aF bb=>?_) (fun pl cO=>?_)
  .obtain ⟨kV,eS,rfl⟩:=cm aG;have aN:j < rows.length:=by rw [<- R.b_];exact (bY.mp eS).1
   have la:ms[j]? = some (ms[j]'(by rw [R.cM];exact aN)):=a_ _;have ib:rows[j]? = some rows[j]:=a_ aN;obtain ⟨e,em⟩:=ng.al j kV _ _ eS la ib;obtain ⟨r,dY,rfl⟩:=cm aF;rw [ib] at dY;cases dY;nofun;exact ⟨_,cS.of e,rfl,_,_,rfl,_,_,rfl,_,_,rfl,rfl,Sub.vR,bb⟩
  .have p7:pl ≠ a:=fun z=>by rw [z,gp] at cO;cases cO
   refine ⟨_,_,_,(a' cO) _ _ gp,T.ku,T.am,(show (3:Nat) < 1000 by decide),?_⟩;rw [show eh (ah "mosts") (V.ref pl) [(ah "crossing",V.ref c),(ah "many",V.int (rows.length:Int)),(ah "leasts",V.ref le)]=[(ah "crossing",V.ref c),(ah "many",V.int (rows.length:Int)),(ah "leasts",V.ref le),(ah "mosts",V.ref pl)] from iG [ah "crossing",ah "many",ah "leasts"] rfl (by ac_nf)];exact kb _ _ ⟨fun b u ae e=>by rw [aZ ae];exact (a' cO) _ _ (fx _ _ ae e),(c0.upd).upd,pl,aS,by rw [aZ hle];exact (a' cO) _ _ fw,by rw [aZ p7];exact aS,rfl⟩
 rintro mw cD ⟨c8,de,mo,HA,f4,mW,rfl⟩;have sJ:mo ≠ a:=eI mW HA (by intro z;cases z);have nk:=R.ui c8 aK;subst aY;exists (fun ay I=>dv a H I/\aL I/\∃ c1,I a=some (.ins t.fp ax [(ah "crossing",V.ref c),(ah "many",V.int (rows.length:Int)),(ah "leasts",V.ref le),(ah "mosts",V.ref mo),(ah "members",V.ref c1)])/\I le=some (.lst (rows.map fun r=>V.int r.lo))/\I mo=some (.lst (rows.map fun r=>V.int r.ag))/\I c1=some (.lst (ms.map V.ref))/\ay=[~~~a,~~~c,~~~p,none,none]),5
 .nofun;refine ⟨⟨_,ak.of nk.at_⟩,?_⟩;refine cX.kU (xs:=qs.map V.ref) (zs:=ms.map V.ref) (ak.of nk.at_) mm (by rw [gW,aR,R.cM]) (fun j v z N aG aF bb=>?_) (fun pl cO=>?_)
  .obtain ⟨kV,eS,rfl⟩:=cm aG;have aN:j < rows.length:=by rw [<- R.b_];exact (bY.mp eS).1
   have la:ms[j]? = some (ms[j]'(by rw [R.cM];exact aN)):=a_ _;have ib:rows[j]? = some rows[j]:=a_ aN;obtain ⟨e,em⟩:=nk.al j kV _ _ eS la ib;obtain ⟨dm,kF,rfl⟩:=cm aF;rw [la] at kF;cases kF;nofun;exact ⟨_,cS.of e,rfl,_,_,rfl,_,_,rfl,_,_,rfl,rfl,Sub.vR,bb⟩
  .have p7:pl ≠ a:=fun z=>by rw [z,HA] at cO;cases cO
   refine ⟨_,_,_,(a' cO) _ _ HA,T.ku,T.Lr,(show (4:Nat) < 1000 by decide),?_⟩;rw [show eh (ah "members") (V.ref pl) [(ah "crossing",V.ref c),(ah "many",V.int (rows.length:Int)),(ah "leasts",V.ref le),(ah "mosts",V.ref mo)]=[(ah "crossing",V.ref c),(ah "many",V.int (rows.length:Int)),(ah "leasts",V.ref le),(ah "mosts",V.ref mo),(ah "members",V.ref pl)] from iG [ah "crossing",ah "many",ah "leasts",ah "mosts"] rfl (by ac_nf)];exact kb _ _ ⟨fun b u ae e=>by rw [aZ ae];exact (a' cO) _ _ (c8 _ _ ae e),(de.upd).upd,pl,aS,by rw [aZ hle];exact (a' cO) _ _ f4,by rw [aZ sJ];exact (a' cO) _ _ mW,by rw [aZ p7];exact aS,rfl⟩
 rintro zf c3 ⟨d8,dT,c1,M4,f7,Ux,du,rfl⟩;have rK:c1 ≠ a:=eI du M4 (by intro z;cases z);have Mr:=MK aK d8 C;have q8:=R.ui d8 aK;subst aY;exists (fun ay I=>dv a H I/\aL I/\∃ dE,I a=some (.ins t.fp ax [(ah "crossing",V.ref c),(ah "many",V.int (rows.length:Int)),(ah "leasts",V.ref le),(ah "mosts",V.ref mo),(ah "members",V.ref c1),(ah "sorts",V.ref dE)])/\I le=some (.lst (rows.map fun r=>V.int r.lo))/\I mo=some (.lst (rows.map fun r=>V.int r.ag))/\I c1=some (.lst (ms.map V.ref))/\I dE=some (.lst (ba (rows.map (kM ds))))/\ay=[~~~a,~~~c,~~~p,none,none]),5
 .nofun;refine ⟨⟨_,ak.of q8.at_⟩,?_⟩;refine cX.kU (xs:=qs.map V.ref) (zs:=ba (rows.map (kM ds))) (ak.of q8.at_) mm (by rw [gW,gx,aR]) (fun j v z N aG aF bb=>?_) (fun pl cO=>?_)
  .obtain ⟨kV,eS,rfl⟩:=cm aG;have aN:j < rows.length:=by rw [<- R.b_];exact (bY.mp eS).1
   have la:ms[j]? = some (ms[j]'(by rw [R.cM];exact aN)):=a_ _;have ib:rows[j]? = some rows[j]:=a_ aN;obtain ⟨e,em⟩:=q8.al j kV _ _ eS la ib;unfold ba at aF;obtain ⟨y,aU,rfl⟩:=cm aF;obtain ⟨r,dY,rfl⟩:=cm aU;rw [ib] at dY;cases dY;obtain ⟨nm,ap1,l3⟩:=rl (cB _ (bM ib));obtain ⟨d,hd,Tz⟩:=J.v5 _ (bM ib) nm (by rw [l3];exact kO ..);obtain ⟨i,ag⟩:=hD hd;have Yj:kM ds rows[j]=iq d:=by
    unfold kM;rw [l3];show ((i7 ds nm).map iq).getD _=_;rw [<- Tz,iy h1 ag];rfl
   rw [Yj] at bb;rw [l3] at em;nofun;exact ⟨_,cS.of e,rfl,_,_,rfl,_,_,rfl,_,_,rfl,rfl,Sub.vR,_,rfl,_,ak.of em,_,bA (j:=0) rfl,c,n,ds,i,d,by rw [Tz],Mr,ag,(bD d hd).2.1,bb⟩
  .have p7:pl ≠ a:=fun z=>by rw [z,M4] at cO;cases cO
   refine ⟨_,_,_,(a' cO) _ _ M4,T.ku,T.Vv,(show (5:Nat) < 1000 by decide),?_⟩;rw [show eh (ah "sorts") (V.ref pl) [(ah "crossing",V.ref c),(ah "many",V.int (rows.length:Int)),(ah "leasts",V.ref le),(ah "mosts",V.ref mo),(ah "members",V.ref c1)]=[(ah "crossing",V.ref c),(ah "many",V.int (rows.length:Int)),(ah "leasts",V.ref le),(ah "mosts",V.ref mo),(ah "members",V.ref c1),(ah "sorts",V.ref pl)] from iG [ah "crossing",ah "many",ah "leasts",ah "mosts",ah "members"] rfl (by ac_nf)];exact kb _ _ ⟨fun b u ae e=>by rw [aZ ae];exact (a' cO) _ _ (d8 _ _ ae e),(dT.upd).upd,pl,aS,by rw [aZ hle];exact (a' cO) _ _ f7,by rw [aZ sJ];exact (a' cO) _ _ Ux,by rw [aZ rK];exact (a' cO) _ _ du,by rw [aZ p7];exact aS,rfl⟩
 rintro oX fz ⟨b4,mh,dE,v',oe,SK,iA,mZ,rfl⟩;have Vw:dE ≠ a:=eI mZ v' (by intro z;cases z);have DA:=R.ui b4 aK;have T':mQ fz c1 ms (rows.map (·.mem)):=⟨iA,by rw [R.cM,aR],fun i m x hm af=>by
  obtain ⟨r,dY,rfl⟩:=cm af;have fM:qs[i]? = some (qs[i]'(by rw [R.b_];exact (bY.mp dY).1)):=a_ _;exact (DA.al i _ m r fM hm dY).2⟩
 subst aY;exists (fun ay I=>dv a H I/\aL I/\∃ aW,I a=some (.ins t.fp ax [(ah "crossing",V.ref c),(ah "many",V.int (rows.length:Int)),(ah "leasts",V.ref le),(ah "mosts",V.ref mo),(ah "members",V.ref c1),(ah "sorts",V.ref dE),(ah "homes",V.ref aW)])/\I le=some (.lst (rows.map fun r=>V.int r.lo))/\I mo=some (.lst (rows.map fun r=>V.int r.ag))/\mQ I c1 ms (rows.map (·.mem))/\I dE=some (.lst (ba (rows.map (kM ds))))/\I aW=some (.di (gH (rows.map (·.mem))))/\ay=[~~~a,~~~c,~~~p,none,none]),5
 .nofun;refine ⟨_,⟨_,ax,_,v',T.ku,T.Lr,ks [ah "crossing",ah "many",ah "leasts",ah "mosts",ah "members",ah "sorts"] 4 rfl (by ac_nf) rfl⟩,c1,ms,rows.map (·.mem),rfl,T',by rw [aR];exact J.ln,fun x af=>?_,fun h H1 s1 afp bU ab=>?_⟩
  .obtain ⟨r,dY,rfl⟩:=b2.mp af;exact J.g6 r dY
  .have Mw:h ≠ a:=eI ab (s1 _ _ v') (by intro z;cases z);refine ⟨_,_,_,s1 _ _ v',T.ku,T.Uo,(show (6:Nat) < 1000 by decide),?_⟩;rw [show eh (ah "homes") (V.ref h) [(ah "crossing",V.ref c),(ah "many",V.int (rows.length:Int)),(ah "leasts",V.ref le),(ah "mosts",V.ref mo),(ah "members",V.ref c1),(ah "sorts",V.ref dE)]=[(ah "crossing",V.ref c),(ah "many",V.int (rows.length:Int)),(ah "leasts",V.ref le),(ah "mosts",V.ref mo),(ah "members",V.ref c1),(ah "sorts",V.ref dE),(ah "homes",V.ref h)] from iG [ah "crossing",ah "many",ah "leasts",ah "mosts",ah "members",ah "sorts"] rfl (by ac_nf)];exact kb _ _ ⟨fun b u ae e=>by rw [aZ ae];exact s1 _ _ (b4 _ _ ae e),(afp mh).upd,h,aS,by rw [aZ hle];exact s1 _ _ oe,by rw [aZ sJ];exact s1 _ _ SK,(T'.same s1).upd (s1 _ _ v') (by intro xs z;cases z),by rw [aZ Vw];exact s1 _ _ mZ,by rw [aZ Mw];exact ab,rfl⟩
 rintro lu fe ⟨cA,hg,aW,zh,mi,ro,Bg,Sm,Ji,rfl⟩;subst aY;exists (fun ay I=>dv a H I/\aL I/\∃ ch,H ch=none/\I a=some (.ins t.fp ax (lX c rows.length le mo c1 dE aW ch))/\I le=some (.lst (rows.map fun r=>V.int r.lo))/\I mo=some (.lst (rows.map fun r=>V.int r.ag))/\mQ I c1 ms (rows.map (·.mem))/\I dE=some (.lst (ba (rows.map (kM ds))))/\I aW=some (.di (gH (rows.map (·.mem))))/\iL P w I ch []/\(ch ≠ a/\ch ≠ le/\ch ≠ mo/\ch ≠ c1/\ch ≠ dE/\ch ≠ aW/\ch ∉ ms)/\ay=[~~~a,~~~c,~~~p,none,none]),5
 .nofun;intro ch o fq abX;have xS:ch ≠ a:=fun z=>by rw [z,zh] at fq;cases fq
  have aey:H ch=none:=by
   cases e:H ch with
   | none=>rfl
   | some u=>rw [cA _ _ xS e] at fq;cases fq
  have vH:∀ {b:Addr} {u:gL},fe b=some u->ch ≠ b:=fun e z=>by rw [<- z,fq] at e;cases e
  have ah8:ch ∉ ms:=fun z=>by
   obtain ⟨i,ag⟩:=hD z;have iB:i < (rows.map (·.mem)).length:=by rw [<- Bg.ln];exact (bY.mp ag).1
   exact vH (Bg.al i ch _ ag (a_ iB)) rfl
  have kX:aH fe (upd fe ch (.ext (pO ch o))):=a' fq;refine ⟨_,_,_,kX _ _ zh,T.ku,T.SU,(show (7:Nat) < 1000 by decide),?_⟩;rw [show eh (ah "changes") (V.ref ch) [(ah "crossing",V.ref c),(ah "many",V.int (rows.length:Int)),(ah "leasts",V.ref le),(ah "mosts",V.ref mo),(ah "members",V.ref c1),(ah "sorts",V.ref dE),(ah "homes",V.ref aW)]=lX c rows.length le mo c1 dE aW ch from iG [ah "crossing",ah "many",ah "leasts",ah "mosts",ah "members",ah "sorts",ah "homes"] rfl (by ac_nf)];have Mw:aW ≠ a:=eI Ji zh (by intro z;cases z);exact kb _ _ ⟨fun b u ae e=>by rw [aZ ae];exact kX _ _ (cA _ _ ae e),(hg.upd).upd,ch,aey,aS,by rw [aZ hle];exact kX _ _ mi,by rw [aZ sJ];exact kX _ _ ro,(Bg.same kX).upd (kX _ _ zh) (by intro xs z;cases z),by rw [aZ Vw];exact kX _ _ Sm,by rw [aZ Mw];exact kX _ _ Ji,afK abX (dF xS) (fun xs z=>by rw [kX _ _ zh] at z;cases z),⟨xS,vH mi,vH ro,vH Bg.at_,vH Sm,vH Ji,ah8⟩,rfl⟩
 rintro vG iY ⟨dJ,qe,ch,fq,Bw,f8,rJ,ajO,ab6,GA,aa1,tc,rfl⟩;subst aY;nofun;have hb:=J.ln;refine ⟨_,qF T Bw,_,rfl,by omega,by omega,?_⟩;rw [lB];refine dP.range (fun i σ I=>(∃ x y,σ=[~~~a,~~~c,~~~p,x,y])/\dv a H I/\aL I/\I a=some (.ins t.fp ax (lX c rows.length le mo c1 dE aW ch))/\I le=some (.lst (rows.map fun r=>V.int r.lo))/\I mo=some (.lst (rows.map fun r=>V.int r.ag))/\mQ I c1 ms (rows.map (·.mem))/\I dE=some (.lst (ba (rows.map (kM ds))))/\I aW=some (.di (gH (rows.map (·.mem))))/\∃ aA,iL P w I ch aA/\lh n ds rows i 0 aA) ⟨⟨_,_,rfl⟩,dJ,qe,Bw,f8,rJ,ajO,ab6,GA,[],aa1,lh.nil n ds rows⟩ ?_ ?_
 .rintro i σ I ag a7;ac_rfl
  obtain ⟨⟨x,y,rfl⟩,ow,yh,C7,Nc,Mx,wC,J9,Jf,aA,Ll,MG⟩:=a7;have iS:rows[i]? = some rows[i]:=a_ ag;have pD:ms[i]? = some (ms[i]'(by rw [R.cM];exact ag)):=a_ _;subst aY;nofun;refine ⟨_,qF T C7,_,rfl,by omega,by omega,?_⟩;rw [lB];refine dP.range (fun j σ az=>(∃ y,σ=[~~~a,~~~c,~~~p,some (.int (i:Int)),y])/\dv a H az/\aL az/\az a=some (.ins t.fp ax (lX c rows.length le mo c1 dE aW ch))/\az le=some (.lst (rows.map fun r=>V.int r.lo))/\az mo=some (.lst (rows.map fun r=>V.int r.ag))/\mQ az c1 ms (rows.map (·.mem))/\az dE=some (.lst (ba (rows.map (kM ds))))/\az aW=some (.di (gH (rows.map (·.mem))))/\∃ aA,iL P w az ch aA/\lh n ds rows i j aA) ⟨⟨_,rfl⟩,ow,yh,C7,Nc,Mx,wC,J9,Jf,aA,Ll,MG⟩ ?_ ?_
  .rintro j σ az aN a7;ac_rfl
   obtain ⟨⟨y,rfl⟩,i4,r7,tq,A0,AP,pg,C9,EA,aA,BZ,xg⟩:=a7;have ib:rows[j]? = some rows[j]:=a_ aN;have la:ms[j]? = some (ms[j]'(by rw [R.cM];exact aN)):=a_ _;have XN:=pg.al i _ _ pD (by rw [cV,iS];rfl);have Zh:=pg.al j _ _ la (by rw [cV,ib];rfl);have sa:=bA (xs:=ms.map V.ref) (j:=i) (by rw [cV,pD];rfl);have Mk:=bA (xs:=ms.map V.ref) (j:=j) (by rw [cV,la];rfl);subst aY;simp only [e_,gU,gM,lP];by_cases lS:i=j
   .refine cP false (fun Q aX=>?_) (fun z=>nomatch z) (fun _=>?_)
    .nofun;rw [decide_eq_true (by omega)];exact aX
    .simp only [f'];subst lS;exact ⟨⟨_,rfl⟩,i4,r7,tq,A0,AP,pg,C9,EA,aA,BZ,xg.skip⟩
   .refine cP true (fun Q aX=>?_) (fun _=>?_) (fun z=>nomatch z)
    .nofun;rw [decide_eq_false (by omega)];exact aX
    .nofun;obtain ⟨xS,af3,ac6,adb,amx,akU,afe⟩:=tc;refine ⟨_,Iz T tq,_,rfl,_,ak.of pg.at_,_,sa,_,Iz T tq,_,rfl,_,ak.of pg.at_,_,Mk,c,n,ds,_,_,_,_,rfl,MK aK i4 C,aV,bD,XN,Zh,J.v5 _ (bM iS),J.v5 _ (bM ib),J.g6 _ (bM iS),J.g6 _ (bM ib),r7,fun v aG=>?_⟩;refine ⟨_,Qf T tq,by decide,fun d2 lj=>⟨ch,rfl,aA,Kb BZ (a' lj),stK i j,(show upd az d2 (.tup [V.int (i:Int),V.int (j:Int)]) d2=some (gL.tup [V.int (i:Int),V.int (j:Int)]) from aS),gI (show aA.length <= 100 by have:=xg.1;omega) (by decide),fun o Hk=>?_⟩⟩;have lW:aH az (upd az d2 (.tup [V.int (i:Int),V.int (j:Int)])):=a' lj;refine ⟨⟨_,rfl⟩,fun b u ae e=>by rw [aZ (Db e fq)];exact lW _ _ (i4 _ _ ae e),(r7.upd).upd,by rw [aZ (dF xS)];exact lW _ _ tq,by rw [aZ (dF af3)];exact lW _ _ A0,by rw [aZ (dF ac6)];exact lW _ _ AP,⟨by rw [aZ (dF adb)];exact lW _ _ pg.at_,pg.ln,fun k m x hm af=>by rw [aZ (fun z=>afe (by rw [<- z];exact bM hm))];exact lW _ _ (pg.al k m x hm af)⟩,by rw [aZ (dF amx)];exact lW _ _ C9,by rw [aZ (dF akU)];exact lW _ _ EA,_,Hk,xg.put iS ib aG⟩
  .rintro σ az a7;ac_rfl
   obtain ⟨⟨y,rfl⟩,i4,r7,tq,A0,AP,pg,C9,EA,aA,BZ,xg⟩:=a7;subst aY;exact ⟨⟨_,_,rfl⟩,i4,r7,tq,A0,AP,pg,C9,EA,aA,BZ,xg.next hb⟩
 .rintro σ I a7;ac_rfl
  obtain ⟨⟨x,y,rfl⟩,ow,yh,C7,Nc,Mx,wC,J9,Jf,aA,Ll,MG⟩:=a7;subst aY;exact q _ ow yh ⟨ax,le,mo,c1,dE,aW,ch,ms,aA,C7,MK aK ow C,Nc,Mx,wC,J9,Jf,Ll,MG⟩
noncomputable def th (ds:List bx):List (List Str)->Nat->List ST->Except (Nat × Nat) (List ST)
 | [],_,rows=>.ok rows
 | ws :: r,i,rows=>if rows.length=6 then .error (i,0) else match qz ds rows ws with
  | .error k=>.error (i,k)
  | .ok s=>th ds r (i + 1) (rows ++ [s])
def aeA (P:Program) (w:World) (t:b6):bO:=fun vs H Q _=>∃ c n ds x rows,vs=[.ref c,.str x]/\fk t H c n ds/\0 < n/\yI ds/\(∀ d ∈ ds,d.name ≠ ah "")/\x.length <= 20000/\(ht x).length <= 100/\(∀ r ∈ ht x,r ≠ []/\r.length <= 1000/\∀ y ∈ r,y.length <= 1000)/\aL H /\
 th ds (ht x) 0 []=.ok rows/\g5 ds rows=[]/\ww ds rows=none/\t5 n ds rows=none/\∀ a I,aH H I->aL I->hv P w t I a c n ds rows->Q (.ref a) I
theorem agn {left ws ms:List Str} (h:mR ds left ws=.ok ms):ms ≠ []/\ms.Nodup/\∀ x ∈ ms,x ∈ left:=by
 unfold mR at h;split at h
 .rename_i f_;obtain ⟨ab,⟨more,ai⟩,a5⟩:=Sz h (by simp);refine ⟨by rw [ai];simp,ab,fun x af=>?_⟩;rcases a5 x af with z | z
  .rw [eu.mp z];exact f_
  .exact (mG.mp z).1
 .cases h
theorem QQ {rows:List ST} (h:qz ds rows ws=.ok s):s.mem ≠ []/\s.mem.Nodup/\∀ x ∈ s.mem,x ∈ g5 ds rows:=by
 unfold qz at h;split at h
 .cases ao:lE (c7 ws 1) 1 60 with
  | none=>rw [ao] at h;cases h
  | some lo=>
   rw [ao] at h;replace h:((lE (c7 ws 2) lo 60).elim (.error 2) fun ag=>match mR ds (g5 ds rows) ws with | .error k=>.error k | .ok ms=>.ok (⟨lo,ag,ms⟩:ST))=q0 s:=h;cases aC:lE (c7 ws 2) lo 60 with
   | none=>rw [aC] at h;cases h
   | some ag=>
    rw [aC] at h;replace h:(match mR ds (g5 ds rows) ws with | .error k=>.error k | .ok ms=>.ok (⟨lo,ag,ms⟩:ST))=q0 s:=h;cases bJ:mR ds (g5 ds rows) ws with
    | error k=>rw [bJ] at h;cases h
    | ok ms=>
     rw [bJ] at h;replace h:q0 (⟨lo,ag,ms⟩:ST)=q0 (ε:=Nat) s:=h;cases h;exact agn bJ
 .cases h
theorem pY.snoc {rows:List ST} (J:pY ds rows) (aD:ds.length <= 12) (iA:rows.length ≠ 6) (h:qz ds rows ws=.ok s):pY ds (rows ++ [s])/\s.mem.length <= 12:=by
 obtain ⟨ab,ai,a5⟩:=QQ h;have To:s.mem.length <= 12:=by
  have:=PU ai a5;have bQ:(g5 ds rows).length <= ds.length:=by
   unfold g5;exact cq (u3 ..) (by rw [aR];exact bP _)
  omega
 refine ⟨⟨?_,fun r aj=>?_,fun r aj x af=>?_⟩,To⟩
 .have:=J.ln;rw [cC];show rows.length + 1 <= 6;omega
 .rcases dZ.mp aj with z | z
  .exact J.g6 r z
  .rw [eu.mp z];exact To
 .rcases dZ.mp aj with z | z
  .exact J.v5 r z x af
  .rw [eu.mp z] at af;obtain ⟨d,hd,e⟩:=b2.mp (mG.mp (a5 x af)).1;exact ⟨d,hd,e⟩
theorem N6 {xs:List Str} {qs:List Addr} (h:xs ≠ []):ba xs ≠ qs.map V.ref:=fun e=>by
 obtain ⟨y,r,rfl⟩:=rl h;cases qs with
 | nil=>cases e
 | cons a b=>injection e with ao _;cases ao
theorem iI.snoc {p x m:Addr} {rows:List ST} (R:iI H p qs ms rows) (af:H x=some (HY s m)) (hm:H m=some (.lst (ba s.mem))) (cB:∀ r ∈ rows,r.mem ≠ []) (aw:s.mem ≠ []):iI (upd H p (.lst (qs.map V.ref ++ [V.ref x]))) p (qs ++ [x]) (ms ++ [m]) (rows ++ [s]):=by
 have kt:∀ {b:Addr} {xs:List V},H b=some (.tup xs)->upd H p (.lst (qs.map V.ref ++ [V.ref x])) b=some (.tup xs):=fun e=>by rw [aZ (eI e R.at_ (by intro z;cases z))];exact e
 have OP:∀ {b:Addr} {xs:List Str},H b=some (.lst (ba xs))->xs ≠ []->upd H p (.lst (qs.map V.ref ++ [V.ref x])) b=some (.lst (ba xs)):=fun e h=>by
  rw [aZ (eI e R.at_ (fun z=>by injection z with z;exact N6 h z))];exact e
 refine ⟨by rw [aS,dA];rfl,by rw [cC,cC,R.b_];rfl,by rw [cC,cC,R.cM];rfl,fun i q dm r a b c=>?_⟩;have b_:=R.b_;have cM:=R.cM;rcases ka c with ⟨a9,bB⟩ | ⟨a9,rfl⟩
 .rcases ka a with ⟨_,a2⟩ | ⟨a1,_⟩
  .rcases ka b with ⟨_,fo⟩ | ⟨hE,_⟩
   .obtain ⟨ao,aC⟩:=R.al i q dm r a2 fo bB;exact ⟨kt ao,OP aC (cB r (bM bB))⟩
   .omega
  .omega
 .rcases ka a with ⟨a1,_⟩ | ⟨_,rfl⟩
  .omega
  .rcases ka b with ⟨hE,_⟩ | ⟨_,rfl⟩
   .omega
   .exact ⟨kt af,OP hm aw⟩
theorem ac9:cu P base T 7 t.wG t.xV yv (aeA P w t):=by
 have Fn:bV P w K mg base c9 6 t.zk t.xo ["text"] (FE t):=(Qg T).mono (by decide);have anB:bV P w K mg base c9 6 t.B8 t.CY A1 (UZ t):=aie T;have ajD:bV P w K mg base c9 6 t.Dg t.B5 kZ (Ob t):=(ZY T).mono (by decide);have aam:bV P w K mg base c9 6 t.Ak t.Cb kZ (Qm t):=(adG T).mono (by decide);have akX:bV P w K mg base c9 6 t.D7 t.DP kZ (Tq t):=(ah3 T).mono (by decide);have Zc:bV P w K mg base c9 5 t.yw t.Bq B6 (SP P w t):=ama T;exists T.I2.ok KZ,9
 obtain ⟨c,n,ds,x,CH,rfl,C,aV,bD,cB,kK,hb,qu,bC,aan,hle,ea,cK,k9⟩:=h;have akM:∀ d ∈ ds,d.k < 3/\d.name ≠ ah "" := fun d hd=>⟨(bD d hd).2.1,cB d hd⟩
 refine ⟨_,(aQ (bX (i:=2) KZ.aB (d4 av))
   (aQ (eU eJ rfl (eZ (bS Fn aj T.TJ T.BJ.bj T.SA (db (U 1) av))) (b5 (i:=3) KZ.aB) (aQ (dW (c5 eQ (ep fV rfl T.fG fJ (db (U 2) av)) (mF rfl T.YC T.YM) (cF _)) (a3 oQ) ec)
   (a3 (dN (ef e2 h2 iC hY (U 2) (db (bS anB aj T.afR T.KP.bj T.als (db (U 3) (db (U 0) (db (U 2) av)))) av))))))
   (aQ (dN (bS ajD aj T.ai0 T.MM.bj T.lw (db (U 0) (db (U 2) av))))
   (aQ (dN (bS aam aj T.YZ T.Iv.bj T.ahd (db (U 0) (db (U 2) av))))
   (aQ (dN (bS akX aj T.ajK T.K8.bj T.akA (db (U 0) (db (U 2) av))))
   (a3 (cc (vD T.akf Zc aj rfl T.acG T.Z9 .nil dK (db (U 0) (db (U 2) av)))))))))),?_⟩
 exists (fun ay I=>aH H I/\aL I/\∃ dC,H dC=none/\I dC=some (.lst [])/\ay=[~~~c,some (.str x),~~~dC,none]),5
 .nofun;exact ⟨fg _,fun dC hb=>kb _ _ ⟨a' hb,bC.upd,dC,hb,aS,rfl⟩⟩
 rintro gu H1 ⟨s1,ck,dC,Df,dI,rfl⟩;subst aY;simp only [dj];refine Er (fun ay I=>aH H I/\aL I/\(∃ qs ms rows,iI I dC qs ms rows/\pY ds rows/\(∀ r ∈ rows,r.mem ≠ [])/\rows=CH)/\∃ fx,ay=[~~~c,some (.str x),~~~dC,fx]) (fun hH kb Du _ _=>?_) ?_
 .nofun;refine ⟨x,rfl,kK,fun r aj=>(qu r aj).2,ck,fun p az zq uR RR=>?_⟩;obtain ⟨jx,aq,vz,mm,BP⟩:=RR;refine ⟨p,rfl,⟨_,ak.of aq⟩,?_⟩;have ajt:p ≠ dC:=fun z=>by rw [z,dI] at vz;cases vz
  refine dP.list (xs:=jx.map V.ref) (fun i σ I=>(∃ y,σ=[~~~c,some (.str x),~~~dC,y])/\aL I/\aH H I/\I p=some (.lst (jx.map V.ref)) /\
   (∃ qs ms rows,iI I dC qs ms rows/\pY ds rows/\(∀ r ∈ rows,r.mem ≠ [])/\th ds ((ht x).drop i) i rows=.ok CH) /\
   ∀ (j:Nat) (q:Addr) (r:List Str),i <= j->jx[j]? = some q->(ht x)[j]? = some r->da t I q ((j:Nat):Int) r 0/\H q=none) ?_ ?_ ?_ ?_
  .refine ⟨⟨_,rfl⟩,uR,s1.trans zq,aq,⟨[],[],[],⟨zq _ _ dI,rfl,rfl,fun i q m r h=>by simp at h⟩,⟨fg _,fun r h=>by simp at h,fun r h=>by simp at h⟩,fun r h=>by simp at h,aan⟩,fun j q r _ ab ai=>?_⟩;obtain ⟨pG,eS⟩:=BP j q r ab ai;exact ⟨pG,s1.free eS⟩
  .rintro i σ I ag a7;ac_rfl
   obtain ⟨_,_,_,h,_⟩:=a7;subst aY;exact ak.of h
  .rintro i v σ I aG a7;ac_rfl
   obtain ⟨⟨y,rfl⟩,nQ,n0,q6,⟨qs,ms,rows,sR,iu,rK,iP⟩,Rs⟩:=a7;obtain ⟨q,aM,rfl⟩:=cm aG;obtain ⟨ag,_⟩:=bY.mp aM;have ot:i < (ht x).length:=by omega
   have aj:(ht x)[i]? = some (ht x)[i]:=a_ ot;obtain ⟨oE,gW⟩:=Rs i q _ (bP _) aM aj;obtain ⟨_,Dv,apC,fM,DL⟩:=id oE;subst aY;rw [qP ot] at iP;unfold th at iP;simp only [e_,dj,gU,gM];refine IV (fun ay bI=>bI=I/\rows.length ≠ 6/\ay=[~~~c,some (.str x),~~~dC,~~~q]) (fun aoW Hk=>?_) fun uc aY=>?_
   .refine cP (decide (rows.length=6)) (fun Q' aX=>?_) (fun ae=>?_) (fun ae=>?_)
    .nofun;refine ⟨_,.inl (ak.of sR.at_),?_⟩;rw [aR,sR.b_];rw [show decide ((rows.length:Int)=6)=decide (rows.length=6) from decide_eq_decide.mpr (by omega)];exact aX
    .have ae:=of_decide_eq_true ae;rw [if_pos ae] at iP;cases iP
    .simp only [f'];exact Hk _ _ ⟨rfl,of_decide_eq_false ae,rfl⟩
   rintro gE bI ⟨rfl,iA,rfl⟩;subst aY;rw [if_neg iA] at iP;cases o6:qz ds rows (ht x)[i] with
   | error k=>rw [o6] at iP;cases iP
   | ok s=>
    rw [o6] at iP;replace iP:th ds ((ht x).drop (i + 1)) (i + 1) (rows ++ [s])=.ok CH:=iP;nofun;refine ⟨.inl ⟨_,ak.of sR.at_⟩,q,_,(ht x)[i],c,n,ds,dC,qs,ms,rows,s,rfl,oE,C.same n0,akM,sR,iu.ln,iu.g6,nQ,o6,?_⟩;intro ie m cD s4 GB afA FC aoO ape;have N0:=(QQ o6).1;have nk:=sR.xX s4 oE;have aiu:aH H cD:=yR n0 s4 gW;have amv:=iu.snoc C.1.2 iA o6;have Cu:=iu.ln;refine ⟨_,nk.at_,gI (show (qs.map V.ref).length <= 6 by rw [aR,nk.b_];exact Cu) (by decide),⟨_,rfl⟩,GB.upd,aiu.gk Df,by rw [aZ ajt];exact s4 _ _ (eI q6 fM (by intro z;cases z)) q6,⟨qs ++ [ie],ms ++ [m],rows ++ [s],nk.snoc afA FC rK N0,amv.1,fun r dY=>?_,iP⟩,fun j cb r aN ab ai=>?_⟩
    .rcases dZ.mp dY with z | z
     .exact rK r z
     .rw [eu.mp z];exact N0
    .obtain ⟨pG,eS⟩:=Rs j cb r (by omega) ab ai;have q8:=pG.xW s4 (J7 pG oE (by omega)) oE.ins;refine ⟨?_,eS⟩;obtain ⟨aF,hq,a6,ao,aC⟩:=q8;exact ⟨aF,hq,a6,by rw [aZ (eI ao nk.at_ (by intro z;cases z))];exact ao,by rw [aZ (eI aC nk.at_ (fun z=>by injection z with z;exact N6 (qu r (bM ai)).1 z))];exact aC⟩
  .rintro σ I a7;ac_rfl
   obtain ⟨⟨y,rfl⟩,nQ,n0,q6,⟨qs,ms,rows,sR,iu,rK,iP⟩,Rs⟩:=a7;subst aY;rw [aR,mm,ye] at iP;replace iP:(q0 rows:Except (Nat × Nat) (List ST))=.ok CH:=iP;exact kb _ _ ⟨n0,nQ,⟨qs,ms,rows,sR,iu,rK,Except.ok.inj iP⟩,_,rfl⟩
 rintro cH az a7;ac_rfl
 obtain ⟨s2,cv,⟨qs,ms,rows,fb,bK,rK,fN⟩,fx,rfl⟩:=a7;subst aY;subst fN;have PB:=C.same s2;nofun;refine ⟨c,n,ds,dC,qs,ms,rows,rfl,PB,fb,bK,hle,fun bI s3 ag'=>?_⟩;have c0:=ag' cv;have ahy:=s2.trans s3;refine ⟨c,n,ds,dC,qs,ms,rows,rfl,PB.same s3,fb.same s3,bK,hle,ea,fun cD s4 Zm=>?_⟩;have de:=Zm c0;have QG:=ahy.trans s4;refine ⟨c,n,ds,dC,qs,ms,rows,rfl,C.same QG,aV,(fb.same s3).same s4,bK,de,cK,fun c3 s5 akR a ax aK zt anV=>?_⟩;have dT:=akR de;have Jm:=QG.trans s5;have sc:aH c3 (upd (upd c3 ax (.own a)) a (.ins t.fp ax [])):=((aH.refl c3).gk zt).gk aK;refine ⟨a,ax,c,n,ds,dC,qs,ms,rows,rfl,aS,(C.same Jm).same sc,aV,bD,(((fb.same s3).same s4).same s5).same sc,bK,rK,(dT.upd).upd,fun fz dO mh eV=>⟨rfl,?_⟩⟩;exact k9 a fz (yR (Jm.trans sc) dO (Jm.free aK)) mh eV
theorem Sf {i:Int} (h:i.natAbs < 100000):i.natAbs.log2 < 1920:=by
 by_cases h0:i.natAbs=0
 .rw [h0];decide
 .exact (ad' h0).mpr (Uk h (by decide))
def adI (K:bc):bO:=fun vs H Q _=>∃ (a:Addr) (ns:List Int) (k m:Int),vs=[.ref a,.int k,.int m]/\ns.length <= 63/\ak K H a (ns.map V.int)/\(0 <= k/\k < 1000000)/\0 < m/\Q (.int (dw ns k m)) H
theorem ab3:cu P base T 1 t.Re t.xF zp (adI K):=by
 exists T.fF.ok tQ,9
 obtain ⟨a,ns,k,m,rfl,il,S,⟨h0,ab⟩,hm,q⟩:=h;refine ⟨_,(aQ (bX (i:=3) tQ.aB (CS (c5 pF (ep fV rfl T.fG fJ (db (U 0) av)) aJ (cF _)) (bl b0 (U 0) (bG jj (U 1) (ep fV rfl T.fG fJ (db (U 0) av)))) aJ))
   (aQ (bX (i:=4) tQ.aB (bG er (bG er (bG jj (U 3) aJ) (bG lD (bG lD aJ (U 1)) (U 1))) aJ))
   (a3 (cc (bG jj (bG jj (bG lD (bG jj (bG lD (U 4) aJ) aJ) aJ) aJ) (U 2)))))),?_⟩
 nofun;refine ⟨_,.inl S,?_⟩;rw [aR];have abg:(0:Int) <= k * k/\k * k < 1000000 * 1000000:=⟨afY h0 h0,aiB (by omega) ab h0 (by decide)⟩;have fin:∀ i:Int,(0:Int) < 1000003/\nR 31 k/\nR (31 * k) k/\nR (i % 1000003 + 31 * k * k + 1) 48271/\(0:Int) < 999983/\nR ((i % 1000003 + 31 * k * k + 1) * 48271 % 999983) 7919/\(0:Int) < 524287/\0 < m:=by
  intro i;refine ⟨by decide,.inl (by decide),.inr (by omega),.inr (by decide),by decide,.inr (by decide),by decide,hm⟩
 by_cases c:(0:Int) < (ns.length:Int)
 .rw [if_pos (decide_eq_true c)];have aE:0 <= k % (ns.length:Int)/\k % (ns.length:Int) < (ns.length:Int):=⟨vE _ (by omega),uN _ c⟩;refine ⟨_,.inl S,by rw [aR];exact c,_,S,?_⟩;rw [aR];have aN:(k % (ns.length:Int)).toNat < ns.length:=by omega
  refine ⟨.int ns[(k % (ns.length:Int)).toNat],?_,_,rfl,?_⟩
  .have e:=bA (xs:=ns.map V.int) (j:=(k % (ns.length:Int)).toNat) (v:=.int ns[(k % (ns.length:Int)).toNat]) (by rw [cV,a_ aN] <;> rfl);rwa [r4 aE.1] at e
  .obtain ⟨f1,f2,fw,f4,f7,oe,mi,f8⟩:=fin ns[(k % (ns.length:Int)).toNat];refine ⟨f1,f2,fw,f4,f7,oe,mi,f8,?_⟩;have e:dw ns k m=(((ns[(k % (ns.length:Int)).toNat] % 1000003 + 31 * k * k + 1) * 48271 % 999983 * 7919) % 524287) % m:=by
    unfold dw;rw [if_pos c,lJ,a_ aN];rfl
   rw [<- e];exact q
 .rw [if_neg (by simpa using c)];obtain ⟨f1,f2,fw,f4,f7,oe,mi,f8⟩:=fin 0;refine ⟨f1,f2,fw,f4,f7,oe,mi,f8,?_⟩;have e:dw ns k m=(((0 % 1000003 + 31 * k * k + 1) * 48271 % 999983 * 7919) % 524287) % m:=by
   unfold dw;rw [if_neg c]
  rw [<- e];exact q
noncomputable def ins {α:Type} (l:List α) (i:Nat) (a:α):List α:=l.take i ++ a :: l.drop i
theorem sm (ag:i <= l.length) (j:Nat):(ins l i a)[j]? = if j < i then l[j]? else if j=i then some a else l[j - 1]?:=by
 unfold ins;have dQ:(l.take i).length=i:=by rw [gZ];omega
 by_cases ab:j < i
 .rw [if_pos ab,m9 (by omega),xk ab]
 .rw [if_neg ab,k5 (by omega),dQ];by_cases ai:j=i
  .subst ai;rw [if_pos rfl];simp
  .rw [if_neg ai];obtain ⟨k,rfl⟩:=Nat.exists_eq_add_of_lt (Nat.lt_of_le_of_ne (ak_ ab) (dF ai));rw [Nat.add_assoc,Nat.add_sub_cancel_left,Dd,HF];rfl
theorem Oc (ag:i <= l.length):(ins l i a).length=l.length + 1:=by
 unfold ins;rw [cC,fQ,gZ,lH];omega
theorem X0 (h:l.Nodup) (n:a ∉ l):(ins l i a).Nodup:=by
 unfold ins;rw [(al5).nodup_iff,xB,FR];exact ⟨n,h⟩
theorem nU {a x:α} (h:x ∈ ins l i a):x=a\/x ∈ l:=by
 unfold ins at h;rcases dZ.mp h with z | z
 .exact .inr (td z)
 .rcases d9.mp z with z | z
  .exact .inl z
  .exact .inr (zY z)
theorem Sk (f:α->β) (l:List α) (i:Nat) (a:α):(ins l i a).map f=ins (l.map f) i (f a):=by
 unfold ins;rw [dA,eB,L9,tW]
theorem WH (x:Str) (nZ:a <= b) (ae:b <= x.cps.toList.length):(mv x (some (a:Int)) (some (b:Int))).cps.toList=(x.cps.toList.drop a).take (b - a):=by
 have af:x.length=x.cps.toList.length:=by simp [uY]
 have e:=StrLaws.sliceText_nat x nZ (by rw [af];exact ae);rw [show mv x (some (a:Int)) (some (b:Int))=uO x (some (a:Int)) (some (b:Int)) from rfl,e]
theorem JD (x:Str) (ae:b <= x.cps.toList.length):(mv x none (some (b:Int))).cps.toList=x.cps.toList.take b:=by
 have:mv x none (some (b:Int))=mv x (some ((0:Nat):Int)) (some (b:Int)):=by
  show uO x none (some (b:Int))=uO x (some ((0:Nat):Int)) (some (b:Int));unfold uO;rw [StrLaws.sliceIdx_none_lo];rfl
 rw [this,WH x (fg _) ae,YO,Nat.sub_zero]
theorem aef (x:Str) (aK:a <= x.cps.toList.length):(mv x (some (a:Int)) none).cps.toList=x.cps.toList.drop a:=by
 have af:x.length=x.cps.toList.length:=by simp [uY]
 have:mv x (some (a:Int)) none=mv x (some (a:Int)) (some ((x.cps.toList.length:Nat):Int)):=by
  show uO x (some (a:Int)) none=uO x (some (a:Int)) (some ((x.cps.toList.length:Nat):Int));unfold uO;rw [StrLaws.sliceIdx_none_hi,<- af]
 rw [this,WH x aK (bP _)];exact Cw (by rw [lH];exact bP _)
noncomputable def w2 (l:List Nat) (k:Nat):List Nat:=l.take (k + 1)
noncomputable def o8 (l:List Nat) (at_ f k:Nat):List Nat:=l.take at_ ++ [97 + (f + k) % 26] ++ l.drop (at_ + 1)
noncomputable def pM (l:List Nat) (f k j:Nat):List Nat:=[97 + (f + k) % 26] ++ l.take j
theorem LD (aD:l.length=8) (al:∀ c ∈ l,97 <= c/\c <= 122) {k:Nat} (aE:k < 8):(w2 l k).length=k + 1/\∀ c ∈ w2 l k,97 <= c/\c <= 122:=by
 unfold w2;exact ⟨by rw [gZ];omega,fun c ar=>al c (td ar)⟩
theorem agG (aD:l.length=8) (al:∀ c ∈ l,97 <= c/\c <= 122) {a f k:Nat} (aK:a < 8):(o8 l a f k).length=8/\∀ c ∈ o8 l a f k,97 <= c/\c <= 122:=by
 unfold o8;refine ⟨by rw [cC,cC,gZ,lH,uK];omega,fun c ar=>?_⟩;rcases dZ.mp ar with ar | ar
 .rcases dZ.mp ar with ar | ar
  .exact al c (td ar)
  .rw [eu.mp ar];omega
 .exact al c (zY ar)
theorem afk (aD:l.length=8) (al:∀ c ∈ l,97 <= c/\c <= 122) {f k j:Nat} (aN:j < 8):(1 <= (pM l f k j).length/\(pM l f k j).length <= 8)/\∀ c ∈ pM l f k j,97 <= c/\c <= 122:=by
 unfold pM;refine ⟨by rw [cC,gZ,uK];omega,fun c ar=>?_⟩;rcases dZ.mp ar with ar | ar
 .rw [eu.mp ar];omega
 .exact al c (td ar)
theorem aax (aD:l.length=8) (aK:a < 8) (ag:i < 8) (aN:j < 8) (e:o8 l a f i=o8 l a f j):i=j:=by
 have ab:∀ k,(o8 l a f k)[a]? = some (97 + (f + k) % 26):=fun k=>by
  unfold o8;rw [l8,k5 (by rw [gZ];omega),gZ,show a - min a l.length=0 by omega];rfl
 have ai:=ab i;rw [e,ab j] at ai;have:=eL ai;omega
theorem ak3 (ag:i < 8) (aN:j < 8) (e:pM l f i u=pM l f j v):i=j:=by
 unfold pM at e;have:=(q2 e).1;omega
theorem acz {k:Nat} (h:k <= xs.length):ij xs none (some ((k:Nat):Int))=xs.take k:=by
 unfold ij;rw [eO.CQ,Bo h,eO.agI];simp
noncomputable def six:List Str:=[ah "stage",ah "tram",ah "car",ah "foot",ah "ring",ah "free"]
theorem adt {x:Str} (e:x.cps.toList=l) (h0:1 <= l.length) (ab:l.length <= 8) (al:∀ c ∈ l,97 <= c/\c <= 122):made x mq 8=true:=by
 have af:x.length=x.cps.toList.length:=by simp [uY]
 exact xz (by rw [af,e];exact h0) (by rw [af,e];exact ab) (by rw [e];exact al)
def Mb (m:Nat) (xs:List Str):Prop:=xs.length=m/\xs.Nodup/\∀ x ∈ xs,made x mq 8=true
theorem XL (h0:0 <= i) (ab:i < 26):∃ c:Nat,eE (ah "abcdefghijklmnopqrstuvwxyz").cps.toList i=some c/\c=97 + i.toNat:=by
 have:∀ k,k < 26->eE (ah "abcdefghijklmnopqrstuvwxyz").cps.toList ((k:Nat):Int)=some (97 + k):=by ac_nf
 refine ⟨97 + i.toNat,?_,rfl⟩;have e:=this i.toNat (by omega);rwa [r4 h0] at e
theorem QD:∀ ys:List Str,(d_ ⟨#[]⟩ ys).cps.toList=(ys.map (·.cps.toList)).flatten
 | []=>rfl
 | [a]=>by
  show a.cps.toList=_;simp
 | a :: b :: r=>by
  show (a ++ ⟨#[]⟩ ++ d_ ⟨#[]⟩ (b :: r)).cps.toList=_;rw [nI,ph,nI,ph,QD (b :: r)];simp
theorem RC (f:Nat->Nat) (n:Nat):(qA (ah "") ((cY n).map fun i=>jO (f i))).cps.toList=(cY n).map f:=by
 rw [show qA (ah "") ((cY n).map fun i=>jO (f i))=d_ ⟨#[]⟩ ((cY n).map fun i=>jO (f i)) from wY _ _,QD,oS];have:((fun x:Str=>x.cps.toList) ∘ fun i=>jO (f i))=fun i=>[f i]:=rfl
 rw [this]
 induction (cY n) with
 | nil=>rfl
 | cons a l c2=>rw [eB,ub,c2];rfl
theorem aaw:∀ m,m < 7->(six.take m).length=m/\(six.take m).Nodup/\∀ x ∈ six.take m,made x mq 8=true:=by ac_nf
def af6 (K:bc) (a:Addr) (ns:List Int):bO:=fun vs H Q _=>∃ m:Nat,vs=[.ref a,.int m]/\Sc K a ns H/\(1 <= m/\m <= 8)/\∀ p xs I,aH H I->Sc K a ns I->H p=none->I p=some (.lst (ba xs))->Mb m xs->Q (.ref p) I
theorem acW (a:Addr) (ns:List Int) (il:ns.length <= 63):cu P base T 2 t.GD t.Im GQ (af6 K a ns):=by
 refine cR (Fo T a ns il) fun fK=>?_;exists T.FG.ok qY,9
 obtain ⟨m,rfl,S,hm,q⟩:=h;have ei:(ah "abcdefghijklmnopqrstuvwxyz").length=26:=by ac_nf
 refine ⟨_,(aQ (om (i:=2) qY.aB rfl (kx rfl) dy)
   (aQ (bX (i:=3) qY.aB (ef r2 Cn DC x7 dy (db (gy rfl (iw rfl T.hA (db aJ av)) (fy (sc:=bt IW) rfl (by ac_nf)) (N:=["_law_k","_law_letters","_law_script"]) (sel:=[none,some 2,some 0]) (fs (M:=["_law_script","_law_many","_law_letters","_law_base","_law_way","_law_at","_law_names_here","_law_k","_law_sign"]) (by ac_nf)) (eT.of (fun _ _ _ _=>(b5 (i:=0) (dX (N:=["_law_k","_law_letters","_law_script"]) (by ac_nf) rfl))) (fun _ _ _ _=>⟨_,gV,by walk_at "B"⟩) (fun _ _ _ _=>⟨_,(bl KO (U 1) (bS fK aj T.gj T.fF.bj T.gr (db (U 2) (db (bG er aJ (U 0)) (db aJ av))))),by walk_at "B"⟩))) av)))
   (aQ (bX (i:=4) qY.aB (bS fK aj T.gj T.fF.bj T.gr (db (U 0) (db aJ (db aJ av)))))
   (aQ (bX (i:=5) qY.aB (bS fK aj T.gj T.fF.bj T.gr (db (U 0) (db aJ (db aJ av)))))
   (aQ (bX (i:=6) qY.aB (d4 av))
   (aQ (dW (fW.pt (oo (c5 eQ (bS fK aj T.gj T.fF.bj T.gr (db (U 0) (db aJ (db aJ av)))) aJ (cF _)) (oY (c5 pv (U 1) aJ (cF _))))) (a3 (cc (mf rQ (d4 (db dy (db dy (db dy (db dy (db dy (db dy av))))))) ou (k7 (U 1))))) ec)
   (aQ (eU eJ rfl (iw rfl T.hA (db (U 1) av)) (b5 (i:=7) qY.aB) (aQ (bX (i:=8) qY.aB (bl KO (U 2) (bG jj (bG er (bS fK aj T.gj T.fF.bj T.gr (db (U 0) (db aJ (db aJ av)))) (U 7)) aJ)))
   (a3 (dW (c5 eQ (U 4) aJ (cF _)) (a3 (dN (ef e2 h2 iC hY (U 6) (db (bG mN (bG mN (mf z8 (U 3) ou (k7 (U 5))) (U 8)) (mf z8 (U 3) (k7 (bG er (U 5) aJ)) ou)) av)))) (a3 (dW (fW.pt (oo (c5 eQ (U 4) aJ (cF _)) (oY (c5 pv (U 1) aJ (cF _))))) (a3 (dN (ef e2 h2 iC hY (U 6) (db (mf z8 (U 3) ou (k7 (bG er (U 7) aJ))) av)))) (a3 (dN (ef e2 h2 iC hY (U 6) (db (bG mN (U 8) (mf z8 (U 3) ou (k7 (bS fK aj T.gj T.fF.bj T.gr (db (U 0) (db (bG er aJ (U 7)) (db aJ av))))))) av))))))))))
   (a3 (cc (U 6)))))))))),?_⟩
 exists (fun ay I=>I=H/\ay=[~~~a,some (.int m),some (.str (ah "abcdefghijklmnopqrstuvwxyz")),none,none,none,none,none,none]),3
 .nofun;exact bD _ _ ⟨rfl,rfl⟩
 rintro gu H1 ⟨rfl,rfl⟩;subst aY;exists (fun ay I=>aH H1 I/\Sc K a ns I/\∃ c7:Str,c7.cps.toList.length=8/\(∀ c ∈ c7.cps.toList,97 <= c/\c <= 122)/\ay=[~~~a,some (.int m),some (.str (ah "abcdefghijklmnopqrstuvwxyz")),some (.str c7),none,none,none,none,none]),3
 .nofun;refine ⟨by decide,by decide,?_⟩;refine cX.H5 (n:=8) (fun i=>V.str (jO (97 + (dw ns (300 + (i:Int)) 26).toNat))) (by decide) (fun i N ag bb=>?_) (fun p aq=>?_)
  .have ew:=hF ns (300 + (i:Int)) (m:=26) (by decide);have eW:=hK ns (300 + (i:Int)) (m:=26) (by decide);obtain ⟨c,ar,rfl⟩:=XL ew eW;(nofun; repeat (dsimp only [jJ];nofun));exact ⟨Sub.name,S,by omega,by omega,by decide,by rw [ei];decide,_,ar,bb⟩
  .have e:(cY 8).map (fun i:Nat=>V.str (jO (97 + (dw ns (300 + (i:Int)) 26).toNat)))=ba ((cY 8).map fun i:Nat=>jO (97 + (dw ns (300 + (i:Int)) 26).toNat)):=by unfold ba;rw [oS];rfl
   refine ⟨p,rfl,(cY 8).map fun i:Nat=>jO (97 + (dw ns (300 + (i:Int)) 26).toNat),by rw [<- e];exact ak.of aS,?_,?_⟩
   .have ab:(p8 (fun x:Str=>x.length) ((cY 8).map fun i:Nat=>jO (97 + (dw ns (300 + (i:Int)) 26).toNat))).sum=8:=by
     rw [oS];rfl
    rw [ab,aR,kh];ac_nf
   .refine bD _ _ ⟨a' aq,S.new aq,_,?_,fun c ar=>?_,rfl⟩
    .rw [RC (fun i:Nat=>97 + (dw ns (300 + (i:Int)) 26).toNat) 8,aR,kh]
    .rw [RC (fun i:Nat=>97 + (dw ns (300 + (i:Int)) 26).toNat) 8] at ar;obtain ⟨i,_,rfl⟩:=b2.mp ar;have ew:=hF ns (300 + (i:Int)) (m:=26) (by decide);have eW:=hK ns (300 + (i:Int)) (m:=26) (by decide);omega
 rintro cH az ⟨s2,kC,c7,h5,xU,rfl⟩;have zL:c7.length=8:=by
  have:c7.length=c7.cps.toList.length:=by simp [uY]
  omega
 have aaO:=hF ns 310 (m:=3) (by decide);have ana:=hK ns 310 (m:=3) (by decide);subst aY;generalize wH:dw ns 310 3=way at aaO ana;exists (fun ay I=>I=az/\ay=[~~~a,some (.int m),some (.str (ah "abcdefghijklmnopqrstuvwxyz")),some (.str c7),some (.int way),none,none,none,none]),3
 ·(nofun; repeat (dsimp only [jJ];nofun));rw [wH];exact ⟨kC,by omega,by omega,by decide,bD _ _ ⟨rfl,rfl⟩⟩
 rintro gE bI ⟨rfl,rfl⟩;obtain ⟨at_,i',Wk⟩:∃ at_:Nat,dw ns 311 8=(at_:Nat)/\at_ < 8:=by
  have ew:=hF ns 311 (m:=8) (by decide);have eW:=hK ns 311 (m:=8) (by decide);exact ⟨(dw ns 311 8).toNat,by omega,by omega⟩
 subst aY;exists (fun ay I=>I=bI/\ay=[~~~a,some (.int m),some (.str (ah "abcdefghijklmnopqrstuvwxyz")),some (.str c7),some (.int way),some (.int (at_:Nat)),none,none,none]),3
 ·(nofun; repeat (dsimp only [jJ];nofun));rw [i'];exact ⟨kC,by omega,by omega,by omega,bD _ _ ⟨rfl,rfl⟩⟩
 rintro mw cD ⟨rfl,rfl⟩;obtain ⟨f,hf,apU⟩:∃ f:Nat,dw ns 312 26=(f:Nat)/\f < 26:=by
  have ew:=hF ns 312 (m:=26) (by decide);have eW:=hK ns 312 (m:=26) (by decide);exact ⟨(dw ns 312 26).toNat,by omega,by omega⟩
 subst aY;exists (fun ay I=>Sc K a ns I/\aH cD I/\∃ dC,cD dC=none/\I dC=some (.lst [])/\ay=[~~~a,some (.int m),some (.str (ah "abcdefghijklmnopqrstuvwxyz")),some (.str c7),some (.int way),some (.int (at_:Nat)),~~~dC,none,none]),3
 .nofun;exact ⟨fg _,fun dC hb=>bD _ _ ⟨kC.new hb,a' hb,dC,hb,aS,rfl⟩⟩
 rintro oX fz ⟨wZ,dO,dC,hb,u6,rfl⟩;subst aY;simp only [dj];refine Er (fun ay I=>I=fz/\ay=[~~~a,some (.int m),some (.str (ah "abcdefghijklmnopqrstuvwxyz")),some (.str c7),some (.int way),some (.int (at_:Nat)),~~~dC,none,none]) (fun hH bD Du _ _=>?_) ?_
 .refine cP (decide (dw ns 313 8=0) && decide (m < 7)) (fun Q aX=>?_) (fun ae=>?_) (fun ae=>?_)
  ·(nofun; repeat (dsimp only [jJ];nofun));refine ⟨wZ,by decide,by decide,by decide,?_⟩;by_cases ct:dw ns 313 8=0
   .rw [if_pos (decide_eq_true ct),show decide ((m:Int) < 7)=decide (m < 7) from decide_eq_decide.mpr (by omega)];rw [decide_eq_true ct,rZ] at aX;exact aX
   .rw [if_neg (by simpa using ct)];rw [decide_eq_false ct,uZ] at aX;exact aX
  .rw [jX,decide_eq_true_eq,decide_eq_true_eq] at ae;obtain ⟨gQ,fP,hW⟩:=aaw m ae.2;nofun;refine ⟨by decide,fun p aq=>⟨_,ak.of aS,fun dg k2=>?_⟩⟩;rw [Du];refine q dg (six.take m) _ (s2.trans (dO.trans ((a' aq).trans (a' k2)))) ((wZ.new aq).new k2) ((s2.trans (dO.trans (a' aq))).free k2) ?_ ⟨gQ,fP,hW⟩;rw [aS,acz (show m <= 6 by omega)];unfold ba six;rw [L9];rfl
  .simp only [f'];exact bD _ _ ⟨rfl,rfl⟩
 rintro lu fe ⟨rfl,rfl⟩;obtain ⟨g,bg⟩:∃ g:Nat->List Nat,g=fun k=>if way=0 then o8 c7.cps.toList at_ f k else if way=1 then w2 c7.cps.toList k else pM c7.cps.toList f k (dw ns (320 + (k:Int)) 8).toNat:=⟨_,rfl⟩
 simp only [dj];exists (fun ay I=>Sc K a ns I/\aH cD I/\(∃ xs:List Str,I dC=some (.lst (ba xs))/\xs.map (·.cps.toList)=(cY m).map g)/\∃ cA dJ,ay=[~~~a,some (.int m),some (.str (ah "abcdefghijklmnopqrstuvwxyz")),some (.str c7),some (.int way),some (.int (at_:Nat)),~~~dC,cA,dJ]),0
 .nofun;refine ⟨by omega,by omega,?_⟩;refine dP.range (fun i σ I=>Sc K a ns I/\aH cD I/\(∃ xs:List Str,I dC=some (.lst (ba xs))/\xs.map (·.cps.toList)=(cY i).map g)/\∃ cA dJ,σ=[~~~a,some (.int m),some (.str (ah "abcdefghijklmnopqrstuvwxyz")),some (.str c7),some (.int way),some (.int (at_:Nat)),~~~dC,cA,dJ]) ⟨wZ,dO,⟨[],u6,rfl⟩,_,_,rfl⟩ ?_ ?_
  .rintro i σ I ag a7;ac_rfl
   obtain ⟨xT,gs,⟨xs,nX,p2⟩,cA,dJ,rfl⟩:=a7;have aoe:i < 8:=by have:i < (m:Int).toNat:=ag;omega
   have kK:xs.length=i:=by have:=congrArg qX p2;rwa [aR,aR,kh] at this
   obtain ⟨c,ar,rfl⟩:=XL (i:=((f:Int) + (i:Int)) % 26) (vE _ (by decide)) (uN _ (by decide));have CZ:(((f:Int) + (i:Int)) % 26).toNat=(f + i) % 26:=by omega
   subst aY;rw [CZ] at ar;simp only [e_,dj,gU,gM,lP];exists (fun ay jl=>jl=I/\ay=[~~~a,some (.int m),some (.str (ah "abcdefghijklmnopqrstuvwxyz")),some (.str c7),some (.int way),some (.int (at_:Nat)),~~~dC,some (.int (i:Nat)),some (.str (jO (97 + (f + i) % 26)))]),0
   ·(nofun; repeat (dsimp only [jJ];nofun));rw [hf];exact ⟨xT,by decide,by decide,by decide,by decide,by rw [ei];decide,_,ar,bD _ _ ⟨rfl,rfl⟩⟩
   rintro aap q4 ⟨rfl,rfl⟩;have o4:∀ k:Nat,k <= 1000->k <= sizeLine:=fun k h=>cq h (by decide)
   have Te:(jO (97 + (f + i) % 26)).length=1:=rfl;have put:∀ nm:Str,nm.cps.toList=g i->Sc K a ns (upd q4 dC (.lst (ba xs ++ [.str nm])))/\aH cD (upd q4 dC (.lst (ba xs ++ [.str nm])))/\(∃ ys:List Str,(upd q4 dC (.lst (ba xs ++ [.str nm]))) dC=some (.lst (ba ys))/\ys.map (·.cps.toList)=(cY (i + 1)).map g):=fun nm mJ=>by
    refine ⟨xT.set nX (fun _ _ z=>by cases z),gs.gk hb,xs ++ [nm],?_,?_⟩
    .rw [aS];unfold ba;rw [dA];rfl
    .rw [dA,p2,qB,dA,eB,pH,mJ];rfl
   have MJ:(ba xs).length < sizeLine:=gI (show (ba xs).length <= 8 by unfold ba;rw [aR];omega) (by decide);subst aY;dsimp only;refine cP (decide (way=0)) (fun Q aX=>?_) (fun Jj=>?_) (fun Jq=>?_)
   .nofun;exact aX
   .have hw:=of_decide_eq_true Jj;have sr:g i=o8 c7.cps.toList at_ f i:=by rw [bg];exact if_pos hw
    have b_:=vC c7 none (some (at_:Int));have cM:=vC c7 (some ((at_:Int) + 1)) none;nofun;refine ⟨.inl ⟨_,ak.of nX⟩,by rw [zL];decide,o4 _ (by omega),by rw [zL];decide,o4 _ (by rw [pI];omega),_,nX,MJ,?_⟩;obtain ⟨dg,df,nh⟩:=put (mv c7 none (some (at_:Int)) ++ jO (97 + (f + i) % 26) ++ mv c7 (some ((at_:Int) + 1)) none) (by
     rw [sr];unfold o8;rw [nI,ph,nI,ph,JD c7 (by omega),show ((at_:Int) + 1)=((at_ + 1:Nat):Int) by omega,aef c7 (by omega)]
     rfl)
    exact ⟨dg,df,nh,_,rfl⟩
   .have hw:=of_decide_eq_false Jq;refine cP (decide (way=1)) (fun Q aX=>?_) (fun Jj=>?_) (fun Jq=>?_)
    .nofun;by_cases a9:way=1
     .rw [if_pos (decide_eq_true a9),decide_eq_true (show (m:Int) < 9 by omega)];rw [decide_eq_true a9] at aX;exact aX
     .rw [if_neg (by simpa using a9)];rw [decide_eq_false a9] at aX;exact aX
    .have xQ:=of_decide_eq_true Jj;have sr:g i=w2 c7.cps.toList i:=by rw [bg];exact (if_neg hw).trans (if_pos xQ)
     nofun;refine ⟨.inl ⟨_,ak.of nX⟩,by rw [zL];decide,_,nX,MJ,?_⟩;obtain ⟨dg,df,nh⟩:=put (mv c7 none (some ((i:Int) + 1))) (by
      rw [sr,show ((i:Int) + 1)=((i + 1:Nat):Int) by omega,JD c7 (by omega)]
      rfl)
     exact ⟨dg,df,nh,_,rfl⟩
    .have xQ:=of_decide_eq_false Jq;have sr:g i=pM c7.cps.toList f i (dw ns (320 + (i:Int)) 8).toNat:=by rw [bg];exact (if_neg hw).trans (if_neg xQ)
     have ew:=hF ns (320 + (i:Int)) (m:=8) (by decide);have eW:=hK ns (320 + (i:Int)) (m:=8) (by decide);(nofun; repeat (dsimp only [jJ];nofun));obtain ⟨EG,N2⟩:∃ EG:Nat,dw ns (320 + (i:Int)) 8=(EG:Int):=⟨_,(r4 ew).symm⟩;rw [N2] at sr eW;rw [N2];rw [lB] at sr;have b_:=vC c7 none (some (EG:Int));refine ⟨.inl ⟨_,ak.of nX⟩,xT,by omega,by omega,by decide,by rw [zL];decide,o4 _ (by omega),_,nX,MJ,?_⟩;obtain ⟨dg,df,nh⟩:=put (jO (97 + (f + i) % 26) ++ mv c7 none (some (EG:Int))) (by
      rw [sr];unfold pM;rw [nI,ph,JD c7 (by omega)]
      rfl)
     exact ⟨dg,df,nh,_,rfl⟩
  .rintro σ I a7;ac_rfl
   obtain ⟨xT,gs,⟨xs,nX,p2⟩,cA,dJ,rfl⟩:=a7;subst aY;exact bD _ _ ⟨xT,gs,⟨xs,nX,by rw [p2,show (m:Int).toNat=m by omega]⟩,cA,dJ,rfl⟩
 rintro vG iY ⟨amI,hJ,⟨xs,FJ,p2⟩,cA,dJ,rfl⟩;have kK:xs.length=m:=by have:=congrArg qX p2;rwa [aR,aR,kh] at this
 have agh:∀ k:Nat,(dw ns (320 + (k:Int)) 8).toNat < 8:=fun k=>by
  have ew:=hF ns (320 + (k:Int)) (m:=8) (by decide);have eW:=hK ns (320 + (k:Int)) (m:=8) (by decide);omega
 have acI:∀ k,k < m->(1 <= (g k).length/\(g k).length <= 8)/\∀ c ∈ g k,97 <= c/\c <= 122:=fun k aE=>by
  rw [bg];dsimp only;split
  .have:=agG h5 xU (f:=f) (k:=k) Wk;exact ⟨by omega,this.2⟩
  .split
   .have:=LD h5 xU (k:=k) (by omega);exact ⟨by omega,this.2⟩
   .exact afk h5 xU (agh k)
 have afg:∀ i j,i < m->j < m->g i=g j->i=j:=fun i j ag aN e=>by
  rw [bg] at e;dsimp only at e;by_cases ct:way=0
  .rw [if_pos ct,if_pos ct] at e;exact aax h5 Wk (by omega) (by omega) e
  .rw [if_neg ct,if_neg ct] at e;by_cases a9:way=1
   .rw [if_pos a9,if_pos a9] at e;have ab:=LD h5 xU (k:=i) (by omega);have ai:=LD h5 xU (k:=j) (by omega);rw [e] at ab;omega
   .rw [if_neg a9,if_neg a9] at e;exact ak3 (by omega) (by omega) e
 have Lb:∀ (i:Nat) (x:Str),xs[i]? = some x->i < m/\x.cps.toList=g i:=fun i x af=>by
  have ag:i < m:=by rw [<- kK];exact (bY.mp af).1
  have e:=congrArg (fun l=>l[i]?) p2
  try dsimp only at e
  rw [cV,af,cV,oB ag] at e;exact ⟨ag,eL e⟩
 have N:Mb m xs:=by
  refine ⟨kK,ahS.mpr fun i j ag aN lS e=>?_,fun x af=>?_⟩
  .obtain ⟨a1,a2⟩:=Lb i _ (a_ ag);obtain ⟨hE,fo⟩:=Lb j _ (a_ aN);rw [e,fo] at a2;have:=afg i j a1 hE a2.symm;omega
  .obtain ⟨i,ag⟩:=hD af;obtain ⟨a1,a2⟩:=Lb i _ ag;have:=acI i a1;exact adt a2 this.1.1 this.1.2 this.2
 subst aY;nofun;exact q dC xs iY (s2.trans hJ) amI (s2.free hb) FJ N
noncomputable abbrev hQ (d:bx):List V:=[.str (dx d.k),.str d.name,.int d.start,.int d.fin,.int d.off,.int d.near,.int d.least]
def iz (H:au) (wl:Addr) (ds:List bx):Prop:=∃ qs:List Addr,H wl=some (.lst (qs.map V.ref))/\qs.length=ds.length/\∀ (i:Nat) (q:Addr) (d:bx),qs[i]? = some q->ds[i]? = some d->H q=some (.tup (hQ d))
theorem iz.same (h:iz H wl ds) (s:aH H I):iz I wl ds:=by
 obtain ⟨qs,ao,aC,al⟩:=h;exact ⟨qs,s _ _ ao,aC,fun i q d ab ai=>s _ _ (al i q d ab ai)⟩
theorem iz.snoc {H:au} {wl p:Addr} {ds:List bx} {d:bx} {qs:List Addr} (b_:H wl=some (.lst (qs.map V.ref))) (cM:qs.length=ds.length)
  (al:∀ (i:Nat) (q:Addr) (d:bx),qs[i]? = some q->ds[i]? = some d->H q=some (.tup (hQ d))) (aq:H p=none) :
  iz (upd (upd H p (.tup (hQ d))) wl (.lst (qs.map V.ref ++ [.ref p]))) wl (ds ++ [d]):=by
 have L7:p ≠ wl:=(Db b_ aq).symm;refine ⟨qs ++ [p],by rw [aS,dA];rfl,by rw [cC,cC,cM];rfl,fun i q e ab ai=>?_⟩;rcases ka ab with ⟨e4,dH⟩ | ⟨e4,rfl⟩
 .rcases ka ai with ⟨rI,rU⟩ | ⟨rI,_⟩
  .have:=al i q e dH rU;rw [aZ (eI this b_ (by intro z;cases z)),aZ (Db this aq)];exact this
  .omega
 .rcases ka ai with ⟨rI,rU⟩ | ⟨rI,rfl⟩
  .omega
  .rw [aZ L7,aS]
theorem anr {n s j:Int} (h0:0 <= s) (ab:s < n) (ai:0 <= j) (a5:j < n - 1):s ≠ (s + 1 + j) % n:=by
 by_cases c:s + 1 + j < n
 .rw [qU (by omega) c];omega
 .rw [show s + 1 + j=(s + 1 + j - n) + n * 1 by omega,Je,qU (by omega) (by omega)];omega
structure sz (n:Int) (ds:List bx):Prop where
 al:∀ d ∈ ds,lK n d/\True
 aB:(ds.map (·.name)).Nodup
theorem sz.N8 (h:sz n ds) (aV:2 <= n/\n <= 99) (aD:1 <= ds.length/\ds.length <= 12):tA n ds:=⟨aV,aD,fun d hd=>(h.al d hd).1,h.aB⟩
def Qj (K:bc) (a:Addr) (ns:List Int):bO:=fun vs H Q _=>∃ most:Int,vs=[.ref a,.int most]/\(1 <= most/\most <= 8)/\Sc K a ns H /\
 ∀ d2 wl n ds I,aH H I->Sc K a ns I->I d2=some (.tup [.int n,.ref wl])->iz I wl ds->sz n ds->(∀ d ∈ ds,d.least <= 4)->(4 <= n/\n <= 99)->(1 <= ds.length/\(ds.length:Int) <= most)->Q (.ref d2) I
theorem W_ (h0:0 <= i) (ab:i < 4):∃ k:Nat,k < 3/\eE [V.str (ah "car"),V.str (ah "car"),V.str (ah "foot"),V.str (ah "tram")] i=some (.str (dx k)):=by
 have:i=0\/i=1\/i=2\/i=3:=by omega
 rcases this with rfl | rfl | rfl | rfl
 .exact ⟨0,by decide,bA (j:=0) rfl⟩
 .exact ⟨0,by decide,bA (j:=1) rfl⟩
 .exact ⟨1,by decide,bA (j:=2) rfl⟩
 .exact ⟨2,by decide,bA (j:=3) rfl⟩
theorem at2 (x y:V) (c:Bool):eE [x,y] (if c=true then 1 else 0)=some (if c=true then y else x):=by
 cases c with
 | true=>exact bA (j:=1) rfl
 | false=>exact bA (j:=0) rfl
theorem ZN (a:Addr) (ns:List Int) (il:ns.length <= 63):cu P base T 3 t.Ej t.dl Ct (Qj K a ns):=by
 refine cR (Fo T a ns il) fun fK=>cR (acW T a ns il) fun ZW=>?_;exists T.H2.ok ad,9
 obtain ⟨most,rfl,apT,S,q⟩:=h;refine ⟨_,(aQ (bX (i:=2) ad.aB (bl b0 (d4 (db (bG er aJ (bS fK aj T.gj T.fF.bj T.gr (db (U 0) (db aJ (db aJ av))))) (db aJ av))) (oN Ku rfl T.zG AV (db (hx eQ (bS fK aj T.gj T.fF.bj T.gr (db (U 0) (db aJ (db aJ av)))) aJ (cF _)) av))))
   (aQ (bX (i:=3) ad.aB (bS ZW aj T.aeM T.FG.bj T.akn (db (U 0) (db (bG er aJ (bS fK aj T.gj T.fF.bj T.gr (db (U 0) (db aJ (db (U 1) av))))) av))))
   (aQ (bX (i:=4) ad.aB (d4 av))
   (aQ (eU eJ rfl (iw rfl T.hA (db (ep fV rfl T.fG fJ (db (U 3) av)) av)) (b5 (i:=5) ad.aB) (aQ (bX (i:=6) ad.aB (bS fK aj T.gj T.fF.bj T.gr (db (U 0) (db (bG er aJ (bG lD aJ (U 5))) (db (U 2) av)))))
   (aQ (bX (i:=7) ad.aB (bG jj (bG er (bG er (U 6) aJ) (bS fK aj T.gj T.fF.bj T.gr (db (U 0) (db (bG er aJ (bG lD aJ (U 5))) (db (bG Uf (U 2) aJ) av))))) (U 2)))
   (aQ (bX (i:=8) ad.aB (bl b0 (d4 (db dy (db dy (db dy (db dy av))))) (bS fK aj T.gj T.fF.bj T.gr (db (U 0) (db (bG er aJ (bG lD aJ (U 5))) (db aJ av))))))
   (aQ (bX (i:=9) ad.aB (bl b0 (d4 (db (bS fK aj T.gj T.fF.bj T.gr (db (U 0) (db (bG er aJ (bG lD aJ (U 5))) (db aJ av)))) (db aJ av))) (oN Ku rfl T.zG AV (db (hx eQ (bS fK aj T.gj T.fF.bj T.gr (db (U 0) (db (bG er aJ (bG lD aJ (U 5))) (db aJ av)))) aJ (cF _)) av))))
   (aQ (bX (i:=10) ad.aB (bS fK aj T.gj T.fF.bj T.gr (db (U 0) (db (bG er aJ (bG lD aJ (U 5))) (db aJ av)))))
   (aQ (dW (fW.pt (oo (c5 eQ (bS fK aj T.gj T.fF.bj T.gr (db (U 0) (db aJ (db aJ av)))) aJ (cF _)) (oY (c5 pF (bS fK aj T.gj T.fF.bj T.gr (db (U 0) (db (bG er aJ (U 5)) (db aJ av)))) aJ (cF _))))) (aQ (bX (i:=8) ad.aB dy)
   (a3 (bX (i:=9) ad.aB aJ))) ec)
   (a3 (dN (ef e2 h2 iC hY (U 4) (db (qi (db (U 8) (db (bl b0 (U 3) (U 5)) (db (U 6) (db (U 7) (db (U 9) (db (U 10) (db (bG er aJ (bS fK aj T.gj T.fF.bj T.gr (db (U 0) (db (bG er aJ (bG lD aJ (U 5))) (db aJ av))))) av)))))))) av)))))))))))
   (a3 (cc (qi (db (U 2) (db (U 4) av))))))))),?_⟩
 exists (fun ay I=>aH H I/\Sc K a ns I/\∃ n:Int,(4 <= n/\n <= 99)/\ay=[~~~a,some (.int most),some (.int n),none,none,none,none,none,none,none,none]),3
 .have ew:=hF ns 2 (m:=13) (by decide);have eW:=hK ns 2 (m:=13) (by decide);(nofun; repeat (dsimp only [jJ];nofun));obtain ⟨n,aV,o_⟩:∃ n:Int,(4 <= n/\n <= 99)/\(if decide (dw ns 3 6=0)=true then V.int 99 else V.int (4 + dw ns 2 13))=V.int n:=by
   split
   .exact ⟨99,by decide,rfl⟩
   .exact ⟨_,by omega,rfl⟩
  refine ⟨S,by decide,by decide,by decide,by decide,fun p aq=>⟨S.new aq,by decide,by decide,by decide,_,ak.of aS,_,at2 _ _ _,?_⟩⟩;rw [o_];exact bD _ _ ⟨a' aq,S.new aq,n,aV,rfl⟩
 rintro api jQ ⟨s0,yN,n,aV,rfl⟩;obtain ⟨m,ahu,hm⟩:∃ m:Nat,1 + dw ns 1 most=(m:Nat)/\(1 <= m/\m <= 8/\(m:Int) <= most):=by
  have ew:=hF ns 1 (m:=most) (by omega);have eW:=hK ns 1 (m:=most) (by omega);exact ⟨(1 + dw ns 1 most).toNat,by omega,by omega⟩
 subst aY;exists (fun ay I=>aH jQ I/\Sc K a ns I/\∃ nl xs,I nl=some (.lst (ba xs))/\Mb m xs/\ay=[~~~a,some (.int most),some (.int n),~~~nl,none,none,none,none,none,none,none]),3
 .nofun;refine ⟨_,_,rfl,yN,by decide,by omega,_,rfl,?_⟩;rw [ahu];exact ⟨m,rfl,yN,by omega,fun p xs I s1 qO _ e N=>bD _ _ ⟨s1,qO,p,xs,e,N,rfl⟩⟩
 rintro gu H1 ⟨s1,qO,nl,xs,o_,N,rfl⟩;subst aY;exists (fun ay I=>Sc K a ns I/\aH H1 I/\∃ wl,H1 wl=none/\I wl=some (.lst [])/\ay=[~~~a,some (.int most),some (.int n),~~~nl,~~~wl,none,none,none,none,none,none]),3
 .nofun;exact ⟨fg _,fun wl h5=>bD _ _ ⟨qO.new h5,a' h5,wl,h5,aS,rfl⟩⟩
 rintro gE bI ⟨Ky,s3,wl,h5,gD,rfl⟩;have R8:(ba xs).length=m:=by unfold ba;rw [aR,N.1]
 subst aY;nofun;refine ⟨_,.inl (ak.of (s3 _ _ o_)),by omega,by rw [R8];omega,?_⟩;rw [show (((ba xs).length:Nat):Int).toNat=m by rw [R8];rfl];refine dP.range (fun i σ I=>Sc K a ns I/\aH H1 I/\(∃ ds,iz I wl ds/\ds.length=i/\(∀ d ∈ ds,lK n d/\d.least <= 4)/\∀ (j:Nat) (d:bx),ds[j]? = some d->xs[j]? = some d.name)/\∃ d8 b4 cA dJ ow i4,σ=[~~~a,some (.int most),some (.int n),~~~nl,~~~wl,d8,b4,cA,dJ,ow,i4]) ⟨Ky,s3,⟨[],⟨[],gD,rfl,fun i q d h=>by simp at h⟩,rfl,fun d h=>by simp at h,fun j d h=>by simp at h⟩,_,_,_,_,_,_,rfl⟩ ?_ ?_
 .rintro i σ I ag a7;ac_rfl
  obtain ⟨kg,s4,⟨ds,ez,g9,bh,mJ⟩,d8,b4,cA,dJ,ow,i4,rfl⟩:=a7;have rp:i < m:=ag;have El:xs[i]? = some (xs[i]'(by rw [N.1];exact rp)):=a_ _;subst aY;generalize xs[i]'(by rw [N.1];exact rp)=nm at El;have adK:=s4 _ _ o_;have abQ:eE (ba xs) ((i:Nat):Int)=some (.str nm):=bA (by unfold ba;rw [cV,El];rfl);simp only [e_,dj,gU,gM,lP];exists (fun ay jl=>jl=I/\∃ st:Int,(0 <= st/\st < n)/\ay=[~~~a,some (.int most),some (.int n),~~~nl,~~~wl,some (.int (i:Nat)),some (.int st),cA,dJ,ow,i4]),0
  .have ew:=hF ns (10 + 7 * (i:Int)) (m:=n) (by omega);have eW:=hK ns (10 + 7 * (i:Int)) (m:=n) (by omega);(nofun; repeat (dsimp only [jJ];nofun));exact ⟨.inl ⟨by decide,by decide⟩,kg,by omega,by omega,by omega,bD _ _ ⟨rfl,_,⟨ew,eW⟩,rfl⟩⟩
  rintro aap q4 ⟨rfl,st,ff,rfl⟩;subst aY;simp only [dj];exists (fun ay jl=>jl=q4/\∃ e':Int,(0 <= e'/\e' < n)/\st ≠ e'/\ay=[~~~a,some (.int most),some (.int n),~~~nl,~~~wl,some (.int (i:Nat)),some (.int st),some (.int e'),dJ,ow,i4]),0
  .have ew:=hF ns (11 + 7 * (i:Int)) (m:=n - 1) (by omega);have eW:=hK ns (11 + 7 * (i:Int)) (m:=n - 1) (by omega);have m0:=vE (st + 1 + dw ns (11 + 7 * (i:Int)) (n - 1)) (show n ≠ 0 by omega);have kA:=uN (st + 1 + dw ns (11 + 7 * (i:Int)) (n - 1)) (show 0 < n by omega);(nofun; repeat (dsimp only [jJ];nofun));exact ⟨.inl ⟨by decide,by decide⟩,kg,by omega,by omega,by omega,by omega,bD _ _ ⟨rfl,_,⟨m0,kA⟩,anr ff.1 ff.2 ew (by omega),rfl⟩⟩
  rintro aox lT ⟨rfl,e',G8,cB,rfl⟩;subst aY;simp only [dj];exists (fun ay jl=>aH lT jl/\Sc K a ns jl/\∃ k:Nat,k < 3/\ay=[~~~a,some (.int most),some (.int n),~~~nl,~~~wl,some (.int (i:Nat)),some (.int st),some (.int e'),some (.str (dx k)),ow,i4]),0
  .have ew:=hF ns (12 + 7 * (i:Int)) (m:=4) (by decide);have eW:=hK ns (12 + 7 * (i:Int)) (m:=4) (by decide);obtain ⟨k,aE,i'⟩:=W_ ew eW;(nofun; repeat (dsimp only [jJ];nofun));exact ⟨by decide,fun p aq=>⟨.inl ⟨by decide,by decide⟩,kg.new aq,by omega,by omega,by decide,_,ak.of aS,_,i',bD _ _ ⟨a' aq,kg.new aq,k,aE,rfl⟩⟩⟩
  rintro aoa Km ⟨kX,SC,hz,Dc,rfl⟩;subst aY;simp only [dj];exists (fun ay jl=>aH Km jl/\Sc K a ns jl/\∃ sZ:Int,(0 <= sZ/\sZ <= 30)/\ay=[~~~a,some (.int most),some (.int n),~~~nl,~~~wl,some (.int (i:Nat)),some (.int st),some (.int e'),some (.str (dx hz)),some (.int sZ),i4]),0
  .have ew:=hF ns (13 + 7 * (i:Int)) (m:=9) (by decide);have eW:=hK ns (13 + 7 * (i:Int)) (m:=9) (by decide);(nofun; repeat (dsimp only [jJ];nofun));obtain ⟨v,aG,o_⟩:∃ v:Int,(0 <= v/\v <= 30)/\(if decide (dw ns (14 + 7 * (i:Int)) 12=0)=true then V.int 30 else V.int (dw ns (13 + 7 * (i:Int)) 9))=V.int v:=by
    split
    .exact ⟨30,by decide,rfl⟩
    .exact ⟨_,by omega,rfl⟩
   refine ⟨.inl ⟨by decide,by decide⟩,SC,by omega,by omega,by decide,by decide,fun p aq=>⟨.inl ⟨by decide,by decide⟩,SC.new aq,by omega,by omega,by decide,_,ak.of aS,_,at2 _ _ _,?_⟩⟩;rw [o_];exact bD _ _ ⟨a' aq,SC.new aq,v,aG,rfl⟩
  rintro an4 R5 ⟨ts,yA,Ov,aiM,rfl⟩;subst aY;simp only [dj];exists (fun ay jl=>jl=R5/\∃ HV:Int,(0 <= HV/\HV <= 5)/\ay=[~~~a,some (.int most),some (.int n),~~~nl,~~~wl,some (.int (i:Nat)),some (.int st),some (.int e'),some (.str (dx hz)),some (.int Ov),some (.int HV)]),0
  .have ew:=hF ns (15 + 7 * (i:Int)) (m:=6) (by decide);have eW:=hK ns (15 + 7 * (i:Int)) (m:=6) (by decide);(nofun; repeat (dsimp only [jJ];nofun));exact ⟨.inl ⟨by decide,by decide⟩,yA,by omega,by omega,by decide,bD _ _ ⟨rfl,_,by omega,rfl⟩⟩
  rintro ap3 alM ⟨rfl,ne1,ak',rfl⟩;subst aY;simp only [dj];exists (fun ay jl=>jl=alM/\∃ (k:Nat) (sZ:Int),k < 3/\(0 <= sZ/\sZ <= 30)/\ay=[~~~a,some (.int most),some (.int n),~~~nl,~~~wl,some (.int (i:Nat)),some (.int st),some (.int e'),some (.str (dx k)),some (.int sZ),some (.int ne1)]),0
  .refine cP (decide (dw ns 9 6=0) && decide (0 < dw ns (60 + (i:Int)) 4)) (fun Q aX=>?_) (fun _=>?_) (fun _=>?_)
   ·(nofun; repeat (dsimp only [jJ];nofun));refine ⟨yA,by omega,by omega,by decide,?_⟩;by_cases ct:dw ns 9 6=0
    .rw [if_pos (decide_eq_true ct)];rw [decide_eq_true ct,rZ] at aX;exact ⟨yA,by omega,by omega,by decide,aX⟩
    .rw [if_neg (by simpa using ct)];rw [decide_eq_false ct,uZ] at aX;exact aX
   .nofun;exact bD _ _ ⟨rfl,1,0,by decide,by decide,rfl⟩
   .nofun;exact bD _ _ ⟨rfl,hz,Ov,Dc,aiM,rfl⟩
  rintro an7 apL ⟨rfl,k,of2,aE,ajS,rfl⟩;have kp:=kX.trans ts;have agS:=kp _ _ adK;have abo:=ez.same kp;have ew:=hF ns (16 + 7 * (i:Int)) (m:=4) (by decide);have eW:=hK ns (16 + 7 * (i:Int)) (m:=4) (by decide);obtain ⟨uP,aaP,hle⟩:∃ uP:Int,1 + dw ns (16 + 7 * (i:Int)) 4=uP/\1 <= uP/\uP <= 4:=⟨_,rfl,by omega,by omega⟩;obtain ⟨qs,b_,cM,al⟩:=abo;subst aY;(nofun; repeat (dsimp only [jJ];nofun));rw [aaP];refine ⟨.inl ⟨_,ak.of b_⟩,_,ak.of agS,_,abQ,.inl ⟨by decide,by decide⟩,yA,by omega,by omega,by decide,by decide,fun p aq=>?_⟩;have iP:wl ≠ p:=Db b_ aq;have ob:=iz.snoc (d:=⟨k,nm,st,e',of2,ne1,uP⟩) b_ cM al aq;refine ⟨_,by rw [aZ iP];exact b_,gI (show (qs.map V.ref).length <= 8 by rw [aR];omega) (by decide),(yA.new aq).set (by rw [aZ iP];exact b_) (fun _ _ z=>by cases z),((s4.trans kp).trans (a' aq)).gk h5,⟨ds ++ [⟨k,nm,st,e',of2,ne1,uP⟩],ob,by rw [cC,g9];rfl,fun d hd=>?_,fun j d hd=>?_⟩,?_⟩
  .rcases dZ.mp hd with hd | hd
   .exact bh d hd
   .rw [eu.mp hd];exact ⟨⟨aE,N.2.2 nm (bM El),⟨ff.1,ff.2⟩,⟨G8.1,G8.2⟩,cB,ajS,⟨ak'.1,by dsimp only;omega⟩,⟨hle.1,by dsimp only;omega⟩⟩,hle.2⟩
  .rcases ka hd with ⟨_,z⟩ | ⟨z,rfl⟩
   .exact mJ j d z
   .rw [z,g9];exact El
  .repeat (first | exact ⟨_,rfl⟩ | refine ⟨⟨_,rfl⟩,?_⟩)
 .rintro σ I a7;ac_rfl
  obtain ⟨kg,s4,⟨ds,ez,g9,bh,mJ⟩,d8,b4,cA,dJ,ow,i4,rfl⟩:=a7;subst aY;nofun;refine ⟨by decide,fun d2 lj=>?_⟩;refine q d2 wl n ds _ (((s0.trans s1).trans s4).trans (a' lj)) (kg.new lj) aS (ez.same (a' lj)) ⟨fun d hd=>⟨(bh d hd).1,trivial⟩,?_⟩ (fun d hd=>(bh d hd).2) aV (by omega);have e:ds.map (·.name)=xs:=by
   refine List.ext_getElem? fun j=>?_
   rw [cV];cases h:ds[j]? with
   | some d=>exact (mJ j d h).symm
   | none=>
    have:ds.length <= j:=ah1.mp h;exact (ah1.mpr (by rw [N.1];omega)).symm
  rw [e];exact N.2.1
theorem WP (d:bx):((((dx d.k ++ ah " ") ++ d.name) ++ ah " ") ++ qA (ah " ") [num d.start,num d.fin,num d.off,num d.near,num d.least])=d_ cI (nS d):=by
 apply zN;have gY:(ah " ").cps.toList=[32]:=by ac_nf
 rw [show qA (ah " ") [num d.start,num d.fin,num d.off,num d.near,num d.least]=d_ cI [num d.start,num d.fin,num d.off,num d.near,num d.least] from wY _ _];rw [nI,ph,Dz,qQ,qQ];unfold nS;simp only [nI,ph,eB,pH,md,gY,l8,tp,FF]
theorem ad5 (n:Int):ah "ring " ++ num n=d_ cI [ah "ring",num n]:=by
 apply zN;have ao:(ah "ring ").cps.toList=[114,105,110,103,32]:=by ac_nf
 have aC:(ah "ring").cps.toList=[114,105,110,103]:=by ac_nf
 rw [Dz,qQ];simp only [nI,ph,eB,pH,md,ao,aC,tp,FF]
theorem Bn:∀ {ys:List Str},(∀ y ∈ ys,y.length <= B)->(ys.map (·.length)).sum <= ys.length * B
 | [],_=>by simp
 | a :: r,h=>by
  have ab:=h a (by simp);have ai:=Bn (B:=B) (ys:=r) fun y aU=>h y (gS _ aU)
  rw [eB,nr,fQ,qC];omega
theorem aku (h:tA n ds):∀ y ∈ (iD n ds).map (d_ cI),y.length <= 63:=fun y aU=>by
 obtain ⟨r,aj,rfl⟩:=b2.mp aU;have:=pZ cI 8 r fun x af=>(h.plain r aj x af).1
 rw [rh] at this;have aD:r.length <= 7:=by
  rcases d9.mp aj with rfl | aj
  .simp
  .obtain ⟨d,hd,rfl⟩:=b2.mp aj;simp [nS]
 omega
def TD (K:bc):bO:=fun vs H Q _=>∃ n wl ds,vs=[.int n,.ref wl]/\iz H wl ds/\sz n ds/\(2 <= n/\n <= 99)/\(1 <= ds.length/\ds.length <= 12)/\aL H/\Q (.str (qd n ds)) H
def af7 (K:bc):bO:=fun vs H Q _=>∃ n wl ds,vs=[.int n,.ref wl]/\iz H wl ds/\sz n ds/\(2 <= n/\n <= 99)/\(1 <= ds.length/\ds.length <= 12)/\∀ I,aH H I->Q (.str (qd n ds)) I
theorem abi:cu P base T 1 t.BA t.AJ BI (TD K):=by
 refine bV.forget (sp:=af7 K) ?_ fun vs H Q E h=>?_
 .exists T.MR.ok JZ,9
  obtain ⟨n,wl,ds,rfl,L,D,aV,aD,q⟩:=h;refine ⟨_,(aQ (bX (i:=2) JZ.aB (d4 (db (bG mN dy (oN wb rfl T.yF yC (db (U 0) av))) av)))
   (aQ (eU eJ rfl (eZ (U 1)) (b5 (i:=3) JZ.aB) (a3 (dN (ef e2 h2 iC hY (U 2) (db (bG mN (bG mN (bG mN (bG mN (bl eD (U 3) aJ) dy) (bl eD (U 3) aJ)) dy) (ef r2 Cn DC x7 dy (db (gy rfl (ad2 (mf ZL (U 3) (k7 aJ) ou)) (fy (sc:=bt KJ) rfl (by ac_nf)) (N:=["_law_number"]) (sel:=[none]) (fs (M:=["_law_places","_law_ways_here","_law_rows","_law_way"]) (by ac_nf)) (eT.of (fun _ _ _ _=>(b5 (i:=0) (dX (N:=["_law_number"]) (by ac_nf) rfl))) (fun _ _ _ _=>⟨_,gV,by walk_at "B"⟩) (fun _ _ _ _=>⟨_,(oN wb rfl T.yF yC (db (U 0) av)),by walk_at "B"⟩))) av))) av)))))
   (a3 (cc (ef r2 Cn DC x7 dy (db (U 2) av)))))),?_⟩
  have cK:=D.N8 aV aD;obtain ⟨qs,b_,cM,al⟩:=L;have hlen:∀ x:Str,qa x->x.length <= 8:=fun x h=>h.1
  have o4:∀ k:Nat,k <= 1000->k <= sizeLine:=fun k h=>cq h (by decide)
  have af':(ah "ring ").length=5:=by ac_nf
  have DY:(ah " ").length=1:=by ac_nf
  nofun;have apB:(ah (toString n)).length <= 8:=(l0 (v:=n) (by omega) (by omega)).1;refine ⟨FH (by omega),o4 _ (by rw [af'];omega),by decide,fun dC Df=>?_⟩;rw [ad5];have s0:aH H (upd H dC (.lst [V.str (d_ cI [ah "ring",num n])])):=a' Df;refine ⟨⟨_,ak.of (s0 _ _ b_)⟩,?_⟩;refine dP.list (xs:=qs.map V.ref) (fun i σ I=>aH H I/\I dC=some (.lst (ba ((iD n (ds.take i)).map (d_ cI))))/\∃ x,σ=[some (.int n),~~~wl,~~~dC,x]) ?_ ?_ ?_ ?_
  .exact ⟨s0,aS,none,rfl⟩
  .rintro i σ I ag ⟨bu,_,_⟩;exact ak.of (bu _ _ b_)
  .rintro i v σ I aG a7;ac_rfl
   obtain ⟨bu,aj,x,rfl⟩:=a7;obtain ⟨cb,aM,rfl⟩:=cm aG;have ot:i < ds.length:=by rw [<- cM];exact (bY.mp aM).1
   have hd:ds[i]? = some ds[i]:=a_ ot;have fa:cS K I cb (hQ ds[i]):=cS.of (bu _ _ (al i cb _ aM hd));have hw:=(D.al _ (bM hd)).1;have hE:=hw.st;have fo:=hw.e';have j3:=hw.of;have jE:=hw.uu;have nz:=hw.le;have e4:=hlen _ (nw ds[i].k);have dH:=hlen _ (ir hw.nm);have yk:(num ds[i].start).length <= 8:=hlen _ (l0 (v:=ds[i].start) (by omega) (by omega));have apP:(num ds[i].fin).length <= 8:=hlen _ (l0 (v:=ds[i].fin) (by omega) (by omega));have ao1:(num ds[i].off).length <= 8:=hlen _ (l0 (v:=ds[i].off) (by omega) (by omega));have aow:(num ds[i].least).length <= 8:=hlen _ (l0 (v:=ds[i].least) (by omega) (by omega));have aoA:(num ds[i].near).length <= 8:=hlen _ (l0 (v:=ds[i].near) (by omega) (by omega));subst aY;nofun;refine ⟨.inl ⟨_,ak.of aj⟩,?_⟩;have acr:eE (hQ ds[i]) 0=some (.str (dx ds[i].k)):=bA (j:=0) rfl;have adE:eE (hQ ds[i]) 1=some (.str ds[i].name):=bA (j:=1) rfl;refine ⟨_,fa,_,acr,_,rfl,o4 _ (by omega),_,fa,_,adE,_,rfl,o4 _ (by rw [pI];omega),o4 _ (by simp only [pI];omega),?_⟩;have F9:ij (hQ ds[i]) (some 2) none=[.int ds[i].start,.int ds[i].fin,.int ds[i].off,.int ds[i].near,.int ds[i].least]:=rfl;refine ⟨_,fa,?_,fun p aq=>⟨⟨_,cS.of aS⟩,?_⟩⟩
   .show ¬ (eO.cZ 7 0 (some 2)=0/\eO.cZ 7 7 none=7);decide
   rw [F9];have anO:(qA (ah " ") [num ds[i].start,num ds[i].fin,num ds[i].off,num ds[i].near,num ds[i].least]).length <= 50:=by
    rw [show qA (ah " ") [num ds[i].start,num ds[i].fin,num ds[i].off,num ds[i].near,num ds[i].least]=d_ cI [num ds[i].start,num ds[i].fin,num ds[i].off,num ds[i].near,num ds[i].least] from wY _ _];have:=pZ cI 8 [num ds[i].start,num ds[i].fin,num ds[i].off,num ds[i].near,num ds[i].least] (fun y aU=>by
     simp only [d9,m5,or_false] at aU;rcases aU with rfl | rfl | rfl | rfl | rfl <;> assumption)
    rw [rh] at this;simp only [fQ,x2] at this;omega
   refine cX.aeL (xs:=[.int ds[i].start,.int ds[i].fin,.int ds[i].off,.int ds[i].near,.int ds[i].least]) (zs:=ba [num ds[i].start,num ds[i].fin,num ds[i].off,num ds[i].near,num ds[i].least]) (cS.of aS) (o4 _ (show 5 <= 1000 by decide)) rfl (fun j v z N aG aF bb=>?_) (fun df fm=>?_)
   .have key:∃ a:Int,v=.int a/\z=.str (num a)/\0 <= a/\a < 100:=by
     match j,aG,aF with
     | 0,aG,aF=>cases aG;cases aF;exact ⟨_,rfl,rfl,hE.1,by omega⟩
     | 1,aG,aF=>cases aG;cases aF;exact ⟨_,rfl,rfl,fo.1,by omega⟩
     | 2,aG,aF=>cases aG;cases aF;exact ⟨_,rfl,rfl,j3.1,by omega⟩
     | 3,aG,aF=>cases aG;cases aF;exact ⟨_,rfl,rfl,jE.1,by omega⟩
     | 4,aG,aF=>cases aG;cases aF;exact ⟨_,rfl,rfl,by omega,by omega⟩
     | k + 5,aG,aF=>simp at aG
    obtain ⟨a,rfl,rfl,an1,apW⟩:=key;nofun;exact ⟨Sub.name,FH (by omega),bb⟩
   .nofun;have alb:dC ≠ df:=by
     rintro rfl;rw [aZ (Db aj aq)] at fm;rw [fm] at aj;cases aj
    have hb:(upd (upd I p (.tup [.int ds[i].start,.int ds[i].fin,.int ds[i].off,.int ds[i].near,.int ds[i].least])) df (.lst (ba [num ds[i].start,num ds[i].fin,num ds[i].off,num ds[i].near,num ds[i].least]))) dC=some (.lst (ba ((iD n (ds.take i)).map (d_ cI)))):=by
     rw [aZ alb,aZ (Db aj aq)];exact aj
    have zq:aH I (upd (upd I p (.tup [.int ds[i].start,.int ds[i].fin,.int ds[i].off,.int ds[i].near,.int ds[i].least])) df (.lst (ba [num ds[i].start,num ds[i].fin,num ds[i].off,num ds[i].near,num ds[i].least]))):=(a' aq).trans (a' fm);have P5:=ak.of (K:=K) (H:=upd (upd I p (.tup [.int ds[i].start,.int ds[i].fin,.int ds[i].off,.int ds[i].near,.int ds[i].least])) df (.lst (ba [num ds[i].start,num ds[i].fin,num ds[i].off,num ds[i].near,num ds[i].least]))) (a:=df) aS;generalize upd (upd I p (.tup [.int ds[i].start,.int ds[i].fin,.int ds[i].off,.int ds[i].near,.int ds[i].least])) df (.lst (ba [num ds[i].start,num ds[i].fin,num ds[i].off,num ds[i].near,num ds[i].least]))=az at hb zq P5 ⊢;refine ⟨_,P5,?_,o4 _ (by simp only [pI];omega),_,hb,?_,?_,?_,_,rfl⟩
    .simp only [eB,pH,nr,Qp,fQ,x2];omega
    .rw [gx,aR];exact gI (show (iD n (ds.take i)).length <= 13 by unfold iD;rw [fQ,aR,gZ];omega) (by decide)
    .exact fun b u e=>by rw [aZ (Db e Df)];exact zq _ _ (bu _ _ e)
    .rw [aS,WP ds[i]];congr 2;unfold iD ba;simp;rw [nC,cV,hd];rfl
  .rintro σ I a7;ac_rfl
   obtain ⟨bu,aj,x,rfl⟩:=a7;subst aY;nofun;rw [aR,cM,iF] at aj;refine ⟨_,ak.of aj,?_,?_⟩
   .have il:∀ y ∈ (iD n ds).map (d_ cI),y.length <= 63:=aku cK;have anW:((iD n ds).map (d_ cI)).length <= 13:=by
     unfold iD;rw [aR,fQ,aR];omega
    have:=Bn il;rw [show (ah "\n").length=1 by ac_nf];omega
   .have:=q I bu;unfold qd at this;rw [show qA (ah "\n") ((iD n ds).map (d_ cI))=d_ nl ((iD n ds).map (d_ cI)) from wY _ _];exact this
 .obtain ⟨n,wl,ds,ab,ai,a5,bQ,du,bC,q⟩:=h;exact ⟨bC,n,wl,ds,ab,ai,a5,bQ,du,fun I bu=>⟨bu,q⟩⟩
def Tr (K:bc):bO:=fun vs H Q _=>∃ n a b d e,vs=[.ref a,.ref b,.int n]/\cS K H a (hQ d)/\cS K H b (hQ e)/\lK n d/\lK n e/\Q (.bw (mt n d e)) H
noncomputable def hL (d e:bx):Bool:=decide (d.k=2) == decide (e.k=2)
def ae9 (K:bc):bO:=fun vs H Q _=>∃ wl ds,∃ i j:Nat,∃ d e,vs=[.ref wl,.int i,.int j]/\iz H wl ds/\ds[i]? = some d/\ds[j]? = some e/\d.k < 3/\e.k < 3/\Q (.bw (hL d e)) H
theorem Qw:cu P base T 1 t.Ar t.Eh Dx (Tr K):=by
 exists T.AY.ok Dr,9
 obtain ⟨n,a,b,d,e,rfl,rf,vq,hd,he,q⟩:=h;refine ⟨_,(aQ (dW (c5 eQ (bl eD (U 0) aJ) (bl eD (U 1) aJ) (cF _)) (a3 (cc oZ)) ec)
   (aQ (dW (fW.pt (vA (c5 eQ (bl eD (U 0) aJ) (bl eD (U 1) aJ) (cF _)) (vA (c5 eQ (bl eD (U 0) aJ) (bl eD (U 1) aJ) (cF _)) (wB (c5 eQ (bl eD (U 0) aJ) (bl eD (U 1) aJ) (cF _)))))) (a3 (cc oZ)) ec)
   (aQ (bX (i:=3) Dr.aB (bG jj (bG Uf (bl eD (U 0) aJ) (bl eD (U 0) aJ)) (U 2)))
   (aQ (bX (i:=4) Dr.aB (bG jj (bG Uf (bl eD (U 1) aJ) (bl eD (U 0) aJ)) (U 2)))
   (aQ (bX (i:=5) Dr.aB (bG jj (bG Uf (bl eD (U 1) aJ) (bl eD (U 0) aJ)) (U 2)))
   (a3 (cc (hx mz (hx pv (U 4) (U 3) (cF _)) (hx pv (U 5) (U 3) (cF _)) (cF _))))))))),?_⟩
 have a2:eE (hQ d) 2=some (.int d.start):=bA (j:=2) rfl;have gp:eE (hQ d) 3=some (.int d.fin):=bA (j:=3) rfl;have fo:eE (hQ e) 2=some (.int e.start):=bA (j:=2) rfl;have j3:eE (hQ e) 3=some (.int e.fin):=bA (j:=3) rfl;have f1:=hd.st;have f2:=hd.e';have fw:=he.st;have f4:=he.e';refine cP (decide (d.fin=e.fin)) (fun Q aX=>?_) (fun c=>?_) (fun c=>?_)
 .nofun;refine ⟨_,rf,_,gp,_,vq,_,j3,rfl,?_⟩;nofun;exact aX
 .nofun;unfold mt sX at q;rw [c,t4] at q;exact q
 .have c':=of_decide_eq_false c;nofun;refine cP (decide (d.start=e.start) || (decide (d.start=e.fin) || decide (d.fin=e.start))) (fun Q aX=>?_) (fun ae=>?_) (fun ae=>?_)
  .nofun;refine ⟨_,rf,_,a2,_,vq,_,fo,rfl,?_⟩;by_cases a9:d.start=e.start
   .rw [if_pos (by simp [a9])];rw [decide_eq_true a9,t4] at aX;exact aX
   .rw [if_neg (by simpa using a9)];refine ⟨_,rf,_,a2,_,vq,_,j3,rfl,?_⟩;by_cases bB:d.start=e.fin
    .rw [if_pos (by simp [bB])];rw [decide_eq_false a9,decide_eq_true bB,pd,t4] at aX;exact aX
    .rw [if_neg (by simpa using bB)];refine ⟨_,rf,_,gp,_,vq,_,fo,rfl,?_⟩;rw [decide_eq_false a9,decide_eq_false bB,pd,pd] at aX;rw [show decide (V.int d.fin=V.int e.start)=decide (d.fin=e.start) from decide_eq_decide.mpr (by simp)];exact aX
  .nofun;unfold mt sX at q;rw [c,pd,if_pos (by
    rw [y3,y3,decide_eq_true_eq,decide_eq_true_eq,decide_eq_true_eq] at ae
    omega)] at q
   exact q
  .rw [BQ,BQ,decide_eq_false_iff_not,decide_eq_false_iff_not,decide_eq_false_iff_not] at ae;have qD:0 < n:=by omega
   have dg:0 < (e.start - d.start) % n:=by rw [Dh f1.1 f1.2 fw.1 fw.2];split <;> omega
   have df:0 < (e.fin - d.start) % n:=by rw [Dh f1.1 f1.2 f4.1 f4.2];split <;> omega
   unfold mt sX k0 at q;rw [c,pd,if_neg (by omega),decide_eq_true dg,decide_eq_true df,rZ,rZ] at q;nofun;refine ⟨_,rf,_,gp,_,rf,_,a2,_,rfl,_,rfl,qD,_,vq,_,fo,_,rf,_,a2,_,rfl,_,rfl,qD,_,vq,_,j3,_,rf,_,a2,_,rfl,_,rfl,qD,?_⟩;generalize decide ((e.start - d.start) % n < (d.fin - d.start) % n)=X at q ⊢;generalize decide ((e.fin - d.start) % n < (d.fin - d.start) % n)=Y at q ⊢;cases X <;> cases Y <;> exact q
theorem afX:cu P base T 1 t.F8 t.JH Fb (ae9 K):=by
 exists T.ET.ok W6,9
 obtain ⟨wl,ds,i,j,d,e,rfl,⟨qs,b_,cM,al⟩,ag,aN,aE,ha,q⟩:=h;have fM:qs[i]? = some (qs[i]'(by rw [cM];exact (bY.mp ag).1)):=a_ _;have eS:qs[j]? = some (qs[j]'(by rw [cM];exact (bY.mp aN).1)):=a_ _;have qH:=al i _ d fM ag;have rg:=al j _ e eS aN;have sa:=bA (xs:=qs.map V.ref) (j:=i) (by rw [cV,fM];rfl);have Mk:=bA (xs:=qs.map V.ref) (j:=j) (by rw [cV,eS];rfl);refine ⟨_,(aQ (bX (i:=3) W6.aB (hx eQ (bl eD (bl b0 (U 0) (U 1)) aJ) dy (cF _)))
   (a3 (cc (hx eQ (U 3) (hx eQ (bl eD (bl b0 (U 0) (U 2)) aJ) dy (cF _)) (cF _))))),?_⟩
 nofun;refine ⟨_,ak.of b_,_,sa,_,rfl,_,cS.of qH,_,bA (j:=0) rfl,rfl,_,ak.of b_,_,Mk,_,rfl,_,cS.of rg,_,bA (j:=0) rfl,rfl,?_⟩;have ab:∀ k,k < 3->decide (V.str (dx k)=V.str (ah "tram"))=decide (k=2):=by ac_nf
 rw [ab d.k aE,ab e.k ha];unfold hL at q;rw [show decide (decide (d.k=2)=decide (e.k=2))=(decide (d.k=2) == decide (e.k=2)) from rfl];exact q
structure kR (jQ H:au) (gl:Addr) (qs:List Addr) (cp:List (List Nat)):Prop where
 ab:H gl=some (.lst (qs.map V.ref))
 ai:qs.length=cp.length
 a5:qs.Nodup
 bQ:gl ∉ qs
 du:∀ (i:Nat) (q:Addr) (g:List Nat),qs[i]? = some q->cp[i]? = some g->H q=some (.lst (g.map fun k:Nat=>V.int k))
 iA:∀ q ∈ qs,jQ q=none
theorem kR.same (h:kR jQ H gl qs cp) (s:aH H I):kR jQ I gl qs cp:=
 ⟨s _ _ h.ab,h.ai,h.a5,h.bQ,fun i q g a b=>s _ _ (h.du i q g a b),h.iA⟩
structure jM (n:Int) (ds:List bx) (m:Nat) (cp:List (List Nat)):Prop where
 ne:∀ g ∈ cp,g ≠ []
 pm:cp.flatten.Perm (cY m)
 Dy:∀ g ∈ cp,∀ i ∈ g,∀ j ∈ g,i ≠ j->∀ d e,ds[i]? = some d->ds[j]? = some e->mt n d e=false
 al:∀ g ∈ cp,∀ i ∈ g,∀ j ∈ g,∀ d e,ds[i]? = some d->ds[j]? = some e->hL d e=true
theorem jM.nil (n:Int) (ds:List bx):jM n ds 0 []:=⟨by simp,by simp,by simp,by simp⟩
theorem u7:hL y z=true↔(y.k=2↔z.k=2):=by
 unfold hL;simp
theorem acZ (h:hL y z=true):hL z y=true:=u7.mpr (u7.mp h).symm
theorem Yf {x y z:bx} (h:hL x y=true) (h':hL y z=true):hL x z=true:=u7.mpr ((u7.mp h).trans (u7.mp h'))
theorem kR.off {gl x:Addr} (h:kR jQ H gl qs cp) (af:x ≠ gl) (aM:x ∉ qs):kR jQ (upd H x o) gl qs cp:=
 ⟨by rw [aZ (dF af)];exact h.ab,h.ai,h.a5,h.bQ,fun i q g a b=>by rw [aZ (fun z=>aM (by rw [<- z];exact bM a))];exact h.du i q g a b,h.iA⟩
theorem wE (l:List α) (i:Nat) (a:α):(ins l i a).Perm (l ++ [a]):=by
 unfold ins;refine al5.trans ?_;rw [FR];exact (aks (l₁:=[a]) (l₂:=l))
theorem ab1:∀ {l l':List (List α)},l.Perm l'->l.flatten.Perm l'.flatten:=fun h=>h.flatten
theorem U2:∀ {cp:List (List Nat)} {j:Nat} {g g':List Nat} {k:Nat},cp[j]? = some g->g'.Perm (g ++ [k])->(cp.set j g').flatten.Perm (cp.flatten ++ [k])
 | [],j,g,g',k,h,_=>by simp at h
 | pU :: cp,0,g,g',k,h,p=>by
  cases (show pU=g by simpa using h);show (g' :: cp).flatten.Perm _;rw [ub,ub,l8];refine (p.append_right _).trans ?_;rw [l8];exact anJ pU aks
 | pU :: cp,j + 1,g,g',k,h,p=>by
  rw [Dd] at h;show (pU :: cp.set j g').flatten.Perm _;rw [ub,ub,l8];exact anJ pU (U2 h p)
theorem jM.put {m:Nat} (S:jM n ds m cp) {j p:Nat} (bg:cp[j]? = some g) (hd:ds[m]? = some d)
  (Dp:∀ i ∈ g,∀ e,ds[i]? = some e->mt n e d=false/\mt n d e=false/\hL e d=true):jM n ds (m + 1) (cp.set j (ins g p m)):=by
 have lY:=bM bg;refine ⟨fun x af=>?_,?_,fun x af i ag k_ fR cB e bW he hC=>?_,fun x af i ag k_ fR e bW he hC=>?_⟩
 .rcases Nr af with z | z
  .exact S.ne x z
  .rw [z];unfold ins;simp
 .rw [qB];exact (U2 bg (wE g p m)).trans (S.pm.append_right [m])
 .rcases Nr af with z | z
  .exact S.Dy x z i ag k_ fR cB e bW he hC
  .rw [z] at ag fR;rcases nU ag with u | u
   .subst u;rw [hd] at he;cases he;rcases nU fR with v | v
    .exact absurd v.symm cB
    .exact (Dp k_ v bW hC).2.1
   .rcases nU fR with v | v
    .subst v;rw [hd] at hC;cases hC;exact (Dp i u e he).1
    .exact S.Dy g lY i u k_ v cB e bW he hC
 .rcases Nr af with z | z
  .exact S.al x z i ag k_ fR e bW he hC
  .rw [z] at ag fR;have self:∀ y:bx,hL y y=true:=fun y=>by unfold hL;simp
   have sym:∀ y z:bx,hL y z=true->hL z y=true:=fun y z h=>acZ h
   rcases nU ag with u | u
   .subst u;rw [hd] at he;cases he;rcases nU fR with v | v
    .subst v;rw [hd] at hC;cases hC;exact self _
    .exact sym _ _ (Dp k_ v bW hC).2.2
   .rcases nU fR with v | v
    .subst v;rw [hd] at hC;cases hC;exact (Dp i u e he).2.2
    .exact S.al g lY i u k_ v e bW he hC
theorem jM.new {m:Nat} (S:jM n ds m cp) (p:Nat):jM n ds (m + 1) (ins cp p [m]):=by
 have self:∀ y:bx,hL y y=true:=fun y=>by unfold hL;simp
 refine ⟨fun x af=>?_,?_,fun x af i ag k_ fR cB e bW he hC=>?_,fun x af i ag k_ fR e bW he hC=>?_⟩
 .rcases nU af with z | z
  .rw [z];simp
  .exact S.ne x z
 .rw [qB];refine (ab1 (wE cp p [m])).trans ?_;rw [ae1];simpa using S.pm.append_right [m]
 .rcases nU af with z | z
  .rw [z] at ag fR;exact absurd ((eu.mp ag).trans (eu.mp fR).symm) cB
  .exact S.Dy x z i ag k_ fR cB e bW he hC
 .rcases nU af with z | z
  .rw [z] at ag fR;rw [eu.mp ag] at he;rw [eu.mp fR,he] at hC;cases hC;exact self _
  .exact S.al x z i ag k_ fR e bW he hC
theorem kR.put (h:kR jQ H gl qs cp) (aM:qs[j]? = some q) (aN:j < cp.length) :
  kR jQ (upd H q (.lst (g'.map fun k:Nat=>V.int k))) gl qs (cp.set j g'):=by
 obtain ⟨ab,ai,a5,bQ,du,iA⟩:=h;have mr:gl ≠ q:=fun z=>bQ (by rw [z];exact bM aM)
 refine ⟨by rw [aZ mr];exact ab,by rw [List.length_set];exact ai,a5,bQ,fun i r g a b=>?_,iA⟩;by_cases c:i=j
 .subst c;rw [aM] at a;cases a;rw [AM aN] at b;cases b;exact aS
 .rw [Bb (fun e=>c e.symm)] at b;have cB:r ≠ q:=fun e=>by
   subst e;obtain ⟨a1,hE⟩:=bY.mp a;obtain ⟨a2,fo⟩:=bY.mp aM;exact c ((OC a5).mp (hE.trans fo.symm))
  rw [aZ cB];exact du i r g a b
theorem kR.new {gl p:Addr} {k:Nat} (h:kR jQ H gl qs cp) (h0:aH jQ H) (aq:H p=none) (aE:k <= cp.length) :
  kR jQ (upd (upd H p (.lst (g.map fun k:Nat=>V.int k))) gl (.lst ((ins qs k p).map V.ref))) gl (ins qs k p) (ins cp k g):=by
 have Eb:gl ≠ p:=Db h.ab aq;have alr:p ∉ qs:=fun z=>by
  obtain ⟨i,ag⟩:=hD z;have Jt:i < cp.length:=by rw [<- h.ai];exact (bY.mp ag).1
  have e:=h.du i p _ ag (a_ Jt);rw [aq] at e;cases e
 have Sl:k <= qs.length:=by rw [h.ai];exact aE
 refine ⟨aS,by rw [Oc Sl,Oc aE,h.ai],X0 h.a5 alr,fun z=>?_,fun i q g' a b=>?_,fun q aM=>?_⟩
 .rcases nU z with z | z
  .exact Eb z
  .exact h.bQ z
 .rw [sm Sl] at a;rw [sm aE] at b;have keep:∀ {i:Nat} {q:Addr} {g':List Nat},qs[i]? = some q->cp[i]? = some g'->upd (upd H p (.lst (g.map fun k:Nat=>V.int k))) gl (.lst ((ins qs k p).map V.ref)) q=some (.lst (g'.map fun k:Nat=>V.int k)):=fun {i q g'} a b=>by
   have e:=h.du i q g' a b;have mr:q ≠ gl:=fun z=>h.bQ (by rw [<- z];exact bM a)
   rw [aZ mr,aZ (Db e aq)];exact e
  by_cases a9:i < k
  .rw [if_pos a9] at a b;exact keep a b
  .rw [if_neg a9] at a b;by_cases bB:i=k
   .rw [if_pos bB] at a b;cases a;cases b;rw [aZ (dF Eb),aS]
   .rw [if_neg bB] at a b;exact keep a b
 .rcases nU aM with z | z
  .rw [z];exact h0.free aq
  .exact h.iA q z
structure fU where
 lo:Int
 ag:Int
 bZ:List Nat
structure n4 (H:au) (bk:Addr) (qs ms:List Addr) (aI:List fU):Prop where
 at_:H bk=some (.lst (qs.map V.ref))
 b_:qs.length=aI.length
 cM:ms.length=aI.length
 al:∀ (i:Nat) (q m:Addr) (s:fU),qs[i]? = some q->ms[i]? = some m->aI[i]? = some s->H q=some (.tup [.int s.lo,.int s.ag,.ref m])/\H m=some (.lst (s.bZ.map fun k:Nat=>V.int k))
theorem n4.same (h:n4 H bk qs ms aI) (s:aH H I):n4 I bk qs ms aI:=
 ⟨s _ _ h.at_,h.b_,h.cM,fun i q m r a b c=>⟨s _ _ (h.al i q m r a b c).1,s _ _ (h.al i q m r a b c).2⟩⟩
structure Ea (n:Int) (ds:List bx) (aI:List fU):Prop where
 eY:jM n ds ds.length (aI.map (·.bZ))
 le:∀ s ∈ aI,∀ i ∈ s.bZ,∀ d,ds[i]? = some d->d.least <= s.lo
 bd:∀ s ∈ aI,1 <= s.lo/\s.lo <= 21/\s.lo <= s.ag/\s.ag <= 40
theorem jM.len {m:Nat} (S:jM n ds m cp):cp.length <= m/\cp.flatten.length=m:=by
 have ab:=S.pm.length_eq;rw [kh] at ab;have:∀ {cp:List (List Nat)},(∀ g ∈ cp,g ≠ [])->cp.length <= cp.flatten.length:=fun {cp}=>by
  induction cp with
  | nil=>intro _;simp
  | cons g cp c2=>
   intro h;have a1:=c2 fun x af=>h x (gS _ af)
   have a2:=Oy.mpr (h g (by simp));rw [ub,cC,fQ];omega
 have:=this S.ne;omega
theorem jM.lt {m:Nat} (S:jM n ds m cp) (bg:g ∈ cp) (ag:i ∈ g):i < m:=j2.mp (S.pm.mem_iff.mp (JJ.mpr ⟨g,bg,ag⟩))
theorem jM.Fp {m:Nat} (S:jM n ds m cp) (bg:g ∈ cp):g.length <= m:=by
 have ab:=(am1 bg).length_le;have:=S.len.2;omega
theorem aiE (h0:0 <= i) (ab:i < 6):∃ mo:Int,(1 <= mo/\mo <= 20)/\eE [V.int 4,V.int 4,V.int 4,V.int 4,V.int 4,V.int 20] i=some (.int mo):=by
 have:i=0\/i=1\/i=2\/i=3\/i=4\/i=5:=by omega
 rcases this with rfl | rfl | rfl | rfl | rfl | rfl
 .exact ⟨4,by decide,bA (j:=0) rfl⟩
 .exact ⟨4,by decide,bA (j:=1) rfl⟩
 .exact ⟨4,by decide,bA (j:=2) rfl⟩
 .exact ⟨4,by decide,bA (j:=3) rfl⟩
 .exact ⟨4,by decide,bA (j:=4) rfl⟩
 .exact ⟨20,by decide,bA (j:=5) rfl⟩
def Wn (K:bc):bO:=fun vs H Q _=>∃ (a:Addr) (ns:List Int) (n:Int) (wl:Addr) (ds:List bx),vs=[.ref a,.int n,.ref wl]/\ns.length <= 63/\ak K H a (ns.map V.int)/\aL H/\iz H wl ds/\sz n ds/\(∀ d ∈ ds,d.least <= 4)/\(1 <= ds.length/\ds.length <= 8) /\
 ∀ bk qs ms aI I,aH H I->aL I->n4 I bk qs ms aI->Ea n ds aI->Q (.ref bk) I
theorem ag4:cu P base T 2 t.Eo t.zV Bm (Wn K):=by
 refine cR (ab3 T) fun fK=>cR (Qw T) fun KQ=>cR (afX T) fun acH=>?_;exists T.IY.ok lZ,9
 obtain ⟨a,ns,n,wl,ds,rfl,il,S,bC,L,D,hle,g9,q⟩:=h;obtain ⟨j9,b_,cM,yD⟩:=id L;have gW:(j9.map V.ref).length=ds.length:=by rw [aR,cM]
 have qJ:∀ (i:Nat) (d:bx),ds[i]? = some d->∃ jP,eE (j9.map V.ref) (i:Int)=some (.ref jP)/\H jP=some (.tup (hQ d)):=fun i d hd=>by
  have fM:j9[i]? = some (j9[i]'(by rw [cM];exact (bY.mp hd).1)):=a_ _;exact ⟨_,bA (by rw [cV,fM];rfl),yD i _ d fM hd⟩
 refine ⟨_,(aQ (bX (i:=3) lZ.aB (d4 av))
   (aQ (eU eJ rfl (iw rfl T.hA (db (ep fV rfl T.fG fJ (db (U 2) av)) av)) (b5 (i:=4) lZ.aB) (aQ (bX (i:=5) lZ.aB (d4 av))
   (aQ (eU eJ rfl (iw rfl T.hA (db (ep fV rfl T.fG fJ (db (U 3) av)) av)) (b5 (i:=6) lZ.aB) (aQ (bX (i:=7) lZ.aB (bS acH aj T.afT T.ET.bj T.alT (db (U 2) (db (bl b0 (bl b0 (U 3) (U 6)) aJ) (db (U 4) av)))))
   (aQ (eU eJ rfl (eZ (bl b0 (U 3) (U 6))) (b5 (i:=8) lZ.aB) (a3 (bX (i:=7) lZ.aB (w1 (U 7) (vp (Vy (bS KQ aj T.RB T.AY.bj T.Wc (db (bl b0 (U 2) (U 8)) (db (bl b0 (U 2) (U 4)) (db (U 1) av))))))))))
   (a3 (dW (o1 (U 7)) (a3 (dN (ef e2 h2 iC hY (U 5) (db (U 6) av)))) ec)))))
   (a3 (dW (fW.pt (oo (c5 pF (ep fV rfl T.fG fJ (db (U 5) av)) aJ (cF _)) (oY (c5 pF (bS fK aj T.gj T.fF.bj T.gr (db (U 0) (db (bG er aJ (U 4)) (db aJ av)))) aJ (cF _))))) (aQ (bX (i:=6) lZ.aB (bl b0 (U 5) (bS fK aj T.gj T.fF.bj T.gr (db (U 0) (db (bG er aJ (U 4)) (db (ep fV rfl T.fG fJ (db (U 5) av)) av))))))
   (a3 (dN (ef e2 Wu adA Ua (bl b0 (U 3) (U 6)) (db (bS fK aj T.gj T.fF.bj T.gr (db (U 0) (db (bG er aJ (U 4)) (db (bG er (ep fV rfl T.fG fJ (db (bl b0 (U 3) (U 6)) av)) aJ) av)))) (db (U 4) av)))))) (a3 (dN (ef e2 Wu adA Ua (U 3) (db (bS fK aj T.gj T.fF.bj T.gr (db (U 0) (db (bG er aJ (U 4)) (db (bG er (ep fV rfl T.fG fJ (db (U 3) av)) aJ) av)))) (db (d4 (db (U 4) av)) av))))))))))
   (aQ (bX (i:=9) lZ.aB (d4 av))
   (aQ (eU eJ rfl (iw rfl T.hA (db (ep fV rfl T.fG fJ (db (U 3) av)) av)) (b5 (i:=6) lZ.aB) (aQ (bX (i:=10) lZ.aB (bG er (ep (Ge rfl) rfl T.t2 yZ (db (gy rfl (eZ (bl b0 (U 3) (U 6))) (fy (sc:=bt Iu) rfl (by ac_nf)) (N:=Cc) (sel:=[none,some 2]) (fs (M:=["_law_script","_law_places","_law_ways_here","_law_some","_law_k","_law_fits","_law_j","_law_good_here","_law_i","_law_stages_here","_law_low","_law_more"]) (by ac_nf)) (eT.of (fun _ _ _ _=>(b5 (i:=0) (dX (N:=Cc) (by ac_nf) rfl))) (fun _ _ _ _=>⟨_,gV,by walk_at "B"⟩) (fun _ _ _ _=>⟨_,(bl eD (bl b0 (U 1) (U 0)) aJ),by walk_at "B"⟩))) av)) (bS fK aj T.gj T.fF.bj T.gr (db (U 0) (db (bG er aJ (U 6)) (db aJ av))))))
   (aQ (dW (c5 eQ (bS fK aj T.gj T.fF.bj T.gr (db (U 0) (db (bG er aJ (U 6)) (db aJ av)))) aJ (cF _)) (a3 (bX (i:=10) lZ.aB (bG er (U 10) aJ))) ec)
   (aQ (bX (i:=11) lZ.aB (bl b0 (d4 (db aJ (db aJ (db aJ (db aJ (db aJ (db aJ av))))))) (bS fK aj T.gj T.fF.bj T.gr (db (U 0) (db (bG er aJ (U 6)) (db aJ av))))))
   (a3 (dN (ef e2 h2 iC hY (U 9) (db (qi (db (U 10) (db (bG er (U 10) (bS fK aj T.gj T.fF.bj T.gr (db (U 0) (db (bG er aJ (U 6)) (db (U 11) av))))) (db (bl b0 (U 3) (U 6)) av)))) av))))))))
   (a3 (cc (U 9))))))),?_⟩
 exists (fun ay I=>aH H I/\aL I/\∃ gl,H gl=none/\I gl=some (.lst [])/\ay=[~~~a,some (.int n),~~~wl,~~~gl,none,none,none,none,none,none,none,none]),3
 .nofun;exact ⟨fg _,fun gl AL=>bD _ _ ⟨a' AL,bC.upd,gl,AL,aS,rfl⟩⟩
 rintro gu H1 ⟨s1,ck,gl,AL,dI,rfl⟩;subst aY;exists (fun ay I=>aH H I/\aL I/\(∃ qs cp,kR H I gl qs cp/\jM n ds ds.length cp)/\∃ c8 d8 b4 cA dJ,ay=[~~~a,some (.int n),~~~wl,~~~gl,c8,d8,b4,cA,dJ,none,none,none]),3
 .nofun;refine ⟨_,.inl (ak.of (s1 _ _ b_)),by omega,by rw [gW];omega,?_⟩;rw [show (((j9.map V.ref).length:Nat):Int).toNat=ds.length by rw [gW];rfl];refine dP.range (fun k σ I=>aH H I/\aL I/\(∃ qs cp,kR H I gl qs cp/\jM n ds k cp)/\∃ c8 d8 b4 cA dJ,σ=[~~~a,some (.int n),~~~wl,~~~gl,c8,d8,b4,cA,dJ,none,none,none]) ⟨s1,ck,⟨[],[],⟨dI,rfl,aiI,by simp,fun i q g h=>by simp at h,fun q h=>by simp at h⟩,jM.nil n ds⟩,_,_,_,_,_,rfl⟩ ?_ ?_
  .rintro k σ I aE a7;ac_rfl
   obtain ⟨s2,cv,⟨qs,cp,G,lC⟩,c8,d8,b4,cA,dJ,rfl⟩:=a7;have hO:ds[k]? = some ds[k]:=a_ aE;subst aY;generalize vt:ds[k]=d at hO;have hd:=(D.al d (bM hO)).1;have afz:=lC.len;simp only [e_,dj,gU,gM,lP];exists (fun ay az=>aH I az/\aL az/\∃ c_,I c_=none/\az c_=some (.lst [])/\ay=[~~~a,some (.int n),~~~wl,~~~gl,some (.int (k:Nat)),~~~c_,b4,cA,dJ,none,none,none]),0
   .nofun;exact ⟨fg _,fun c_ n3=>bD _ _ ⟨a' n3,cv.upd,c_,n3,aS,rfl⟩⟩
   rintro cH az ⟨s3,c0,c_,n3,gD,rfl⟩;have abS:c_ ≠ gl:=fun e=>by rw [e,G.ab] at n3;cases n3
   have am3:c_ ∉ qs:=fun z=>by
    obtain ⟨i,ag⟩:=hD z;have Jt:i < cp.length:=by rw [<- G.ai];exact (bY.mp ag).1
    have e:=G.du i c_ _ ag (a_ Jt);rw [n3] at e;cases e
   subst aY;simp only [dj];exists (fun ay bI=>aH I bI/\aL bI/\kR H bI gl qs cp/\(∃ aO:List Nat,bI c_=some (.lst (aO.map fun k:Nat=>V.int k))/\aO.length <= cp.length/\∀ f ∈ aO,∃ g,cp[f]? = some g/\∀ i ∈ g,∀ e,ds[i]? = some e->mt n e d=false/\mt n d e=false/\hL e d=true)/\∃ b4 cA dJ,ay=[~~~a,some (.int n),~~~wl,~~~gl,some (.int (k:Nat)),~~~c_,b4,cA,dJ,none,none,none]),0
   .nofun;have mr:(qs.map V.ref).length=cp.length:=by rw [aR,G.ai]
    refine ⟨_,.inl (ak.of (s3 _ _ G.ab)),by omega,by rw [mr];omega,?_⟩;rw [show (((qs.map V.ref).length:Nat):Int).toNat=cp.length by rw [mr];rfl];refine dP.range (fun j σ bI=>aH I bI/\aL bI/\kR H bI gl qs cp/\(∃ aO:List Nat,bI c_=some (.lst (aO.map fun k:Nat=>V.int k))/\aO.length <= j/\∀ f ∈ aO,∃ g,cp[f]? = some g/\∀ i ∈ g,∀ e,ds[i]? = some e->mt n e d=false/\mt n d e=false/\hL e d=true)/\∃ b4 cA dJ,σ=[~~~a,some (.int n),~~~wl,~~~gl,some (.int (k:Int)),~~~c_,b4,cA,dJ,none,none,none]) ⟨s3,c0,G.same s3,⟨[],gD,bP _,fun f h=>by simp at h⟩,_,_,_,rfl⟩ ?_ ?_
    .rintro j σ bI aN a7;ac_rfl
     obtain ⟨s4,de,hB,⟨aO,g0,vy,ve⟩,b4,cA,dJ,rfl⟩:=a7;have qE:cp[j]? = some cp[j]:=a_ aN;have eS:qs[j]? = some (qs[j]'(by rw [G.ai];exact aN)):=a_ _;subst aY;generalize qs[j]'(by rw [G.ai];exact aN)=kV at eS;generalize akz:cp[j]=g at qE;have lY:=bM qE;obtain ⟨pU,aps,T2⟩:=rl (lC.ne g lY);have f_:∀ i ∈ g,∃ e,ds[i]? = some e:=fun i ag=>⟨_,a_ (Uk (lC.lt lY ag) aE)⟩
     have OE:pU ∈ g:=by rw [T2];exact kO ..
     obtain ⟨kB,qI⟩:=f_ pU OE;have vJ:=hB.du j kV g eS qE;have yX:=bA (xs:=qs.map V.ref) (j:=j) (by rw [cV,eS];rfl);have kp:=s2.trans s4;have ez:=L.same kp;have Ck:=kp _ _ b_;simp only [e_,dj,gU,gM,lP];exists (fun ay cD=>cD=bI/\ay=[~~~a,some (.int n),~~~wl,~~~gl,some (.int (k:Int)),~~~c_,some (.int (j:Int)),some (.bw (hL kB d)),dJ,none,none,none]),0
     .nofun;exact ⟨_,ak.of hB.ab,_,yX,_,rfl,_,ak.of vJ,_,by rw [T2];exact bA (j:=0) rfl,wl,ds,pU,k,kB,d,rfl,ez,qI,hO,(D.al kB (bM qI)).1.k,hd.k,bD _ _ ⟨rfl,rfl⟩⟩
     rintro mw cD ⟨rfl,rfl⟩;subst aY;simp only [dj];exists (fun ay c3=>c3=cD/\∃ (m2:Bool) (dJ:Option V),(m2=true->hL kB d=true/\∀ i ∈ g,∀ e,ds[i]? = some e->mt n e d=false)/\ay=[~~~a,some (.int n),~~~wl,~~~gl,some (.int (k:Int)),~~~c_,some (.int (j:Int)),some (.bw m2),dJ,none,none,none]),0
     .nofun;refine ⟨_,ak.of hB.ab,_,yX,_,rfl,⟨_,ak.of vJ⟩,?_⟩;refine dP.list (xs:=g.map fun k:Nat=>V.int k) (fun l σ c3=>c3=cD/\∃ (m2:Bool) (dJ:Option V),(m2=true->hL kB d=true/\∀ i ∈ g.take l,∀ e,ds[i]? = some e->mt n e d=false)/\σ=[~~~a,some (.int n),~~~wl,~~~gl,some (.int (k:Int)),~~~c_,some (.int (j:Int)),some (.bw m2),dJ,none,none,none]) ?_ ?_ ?_ ?_
      .exact ⟨rfl,_,_,fun z=>⟨z,fun i h=>by simp at h⟩,rfl⟩
      .rintro l σ c3 aD ⟨rfl,_⟩;exact ak.of vJ
      .rintro l v σ c3 aG a7;ac_rfl
       obtain ⟨rfl,m2,dJ,q',rfl⟩:=a7;obtain ⟨i,ag,rfl⟩:=cm aG;obtain ⟨e,he⟩:=f_ i (bM ag);obtain ⟨gz,sa,JU⟩:=qJ i e he;obtain ⟨aaX,aiD,alQ⟩:=qJ k d hO;have step:∀ fo:Bool,(fo=true->m2=true/\mt n e d=false)->(fo=true->hL kB d=true/\∀ i ∈ g.take (l + 1),∀ e,ds[i]? = some e->mt n e d=false):=fun fo h z=>by
        obtain ⟨e4,dH⟩:=h z;obtain ⟨rI,rU⟩:=q' e4;refine ⟨rI,fun k_ fR bW hC=>?_⟩;rw [nC,ag] at fR;rcases dZ.mp fR with u | u
        .exact rU k_ u bW hC
        .rw [show k_=i by simpa using u,he] at hC;cases hC;exact dH
       subst aY;nofun;cases m2 with
       | true=>
        rw [if_pos rfl];refine ⟨_,ak.of Ck,_,sa,_,ak.of Ck,_,aiD,n,gz,aaX,e,d,rfl,cS.of (kp _ _ JU),cS.of (kp _ _ alQ),(D.al e (bM he)).1,hd,_,rfl,?_⟩;exact ⟨rfl,_,step _ (fun z=>⟨rfl,by simpa using z⟩),rfl,_,rfl⟩
       | false=>
        rw [if_neg (by decide)];exact ⟨false,(fun z=>nomatch z),rfl,_,rfl⟩
      .rintro σ c3 a7;ac_rfl
       obtain ⟨rfl,m2,dJ,q',rfl⟩:=a7;subst aY;rw [aR,iF] at q';exact bD _ _ ⟨rfl,m2,dJ,q',rfl⟩
     rintro zf c3 ⟨rfl,m2,dJ,q',rfl⟩;subst aY;dsimp only;refine cP m2 (fun Q aX=>?_) (fun ae=>?_) (fun ae=>?_)
     .nofun;exact aX
     .obtain ⟨rI,rU⟩:=q' ae;nofun;refine ⟨.inl ⟨_,ak.of g0⟩,_,g0,gI (show (aO.map fun k:Nat=>V.int k).length <= 8 by rw [aR];omega) (by decide),s4.gk n3,de.upd,hB.off abS am3,⟨aO ++ [j],by rw [aS,dA];rfl,by rw [cC];show aO.length + 1 <= j + 1;omega,fun f hf=>?_⟩,?_⟩
      .rcases dZ.mp hf with z | z
       .exact ve f z
       .rw [eu.mp z];refine ⟨g,qE,fun i ag e he=>⟨rU i ag e he,?_,Yf (lC.al g lY i ag pU OE e kB he qI) rI⟩⟩;have l4:=(D.al e (bM he)).1;have:=Z4 l4.st l4.e' hd.st hd.e' l4.ne hd.ne;exact (this.symm.trans (rU i ag e he):mt n d e=false)
      .exact ⟨_,rfl⟩
     .simp only [f'];exact ⟨s4,de,hB,⟨aO,g0,by omega,ve⟩,_,_,_,rfl⟩
    .rintro σ bI a7;ac_rfl
     obtain ⟨s4,de,hB,⟨aO,g0,vy,ve⟩,b4,cA,dJ,rfl⟩:=a7;subst aY;exact bD _ _ ⟨s4,de,hB,⟨aO,g0,vy,ve⟩,_,_,_,rfl⟩
   rintro gE bI ⟨s4,de,hB,⟨aO,g0,vy,ve⟩,b4,cA,dJ,rfl⟩;have kp:=s2.trans s4;have kg:=S.same kp;have mr:(qs.map V.ref).length=cp.length:=by rw [aR,G.ai]
   subst aY;dsimp only;refine cP (decide (0 < aO.length) && decide (0 < dw ns (100 + (k:Int)) 3)) (fun Q aX=>?_) (fun ae=>?_) (fun ae=>?_)
   .nofun;refine ⟨_,.inl (ak.of g0),?_⟩;rw [aR];by_cases ct:0 < aO.length
    .rw [if_pos (decide_eq_true (by omega))];rw [decide_eq_true ct,rZ] at aX;exact ⟨a,ns,_,_,rfl,il,kg,⟨by omega,by omega⟩,by decide,_,rfl,aX⟩
    .rw [if_neg (by rw [decide_eq_true_eq];omega)];rw [decide_eq_false ct,uZ] at aX;exact aX
   .rw [jX,decide_eq_true_eq] at ae;have ao:=hF ns (110 + (k:Int)) (m:=(aO.length:Int)) (by omega);have aC:=hK ns (110 + (k:Int)) (m:=(aO.length:Int)) (by omega);obtain ⟨u,b7⟩:∃ u:Nat,dw ns (110 + (k:Int)) (aO.length:Int)=(u:Int):=⟨_,(r4 ao).symm⟩;have aj0:u < aO.length:=by omega
    have Ih:aO[u]? = some aO[u]:=a_ aj0;generalize aoT:aO[u]=f at Ih;obtain ⟨g,Dn,YJ⟩:=ve f (bM Ih);have EX:f < cp.length:=(bY.mp Dn).1;have wa:qs[f]? = some (qs[f]'(by rw [G.ai];exact EX)):=a_ _;generalize qs[f]'(by rw [G.ai];exact EX)=KC at wa;have Ik:=hB.du f KC g wa Dn;have QT:=bA (xs:=qs.map V.ref) (j:=f) (by rw [cV,wa];rfl);have ag7:=bA (xs:=aO.map fun k:Nat=>V.int k) (j:=u) (v:=.int (f:Int)) (by rw [cV,Ih];rfl);have apG:=lC.Fp (bM Dn);have dg:=hF ns (160 + (k:Int)) (m:=(g.length:Int) + 1) (by omega);have df:=hK ns (160 + (k:Int)) (m:=(g.length:Int) + 1) (by omega);nofun;obtain ⟨v,aG⟩:∃ v:Nat,dw ns (160 + (k:Int)) ((g.length:Int) + 1)=(v:Int):=⟨_,(r4 dg).symm⟩;refine ⟨_,.inl (ak.of g0),?_⟩;rw [aR];refine ⟨a,ns,_,_,rfl,il,kg,⟨by omega,by omega⟩,by omega,?_⟩;rw [b7];refine ⟨_,_,rfl,ak.of g0,_,ag7,_,_,rfl,ak.of hB.ab,_,QT,.inl ⟨_,ak.of Ik⟩,_,_,rfl,ak.of hB.ab,_,QT,_,rfl,_,.inl (ak.of Ik),?_⟩;rw [aR];refine ⟨a,ns,_,_,rfl,il,kg,⟨by omega,by omega⟩,by omega,KC,rfl,_,_,rfl,Ik,?_⟩;rw [aG,lB];have Q6:v <= g.length:=by omega
    have em:(g.map fun k:Nat=>V.int k).take v ++ V.int (k:Int) :: (g.map fun k:Nat=>V.int k).drop v=(ins g v k).map fun k:Nat=>V.int k:=(Sk (fun k:Nat=>V.int k) g v k).symm
    refine ⟨by omega,by omega,by rw [aR];omega,gI (show (g.map fun k:Nat=>V.int k).length <= 8 by rw [aR];omega) (by decide),kp.gk (hB.iA KC (bM wa)),de.upd,?_,_,rfl⟩;rw [em];exact ⟨qs,_,hB.put wa EX,lC.put Dn hO YJ⟩
   .have dg:=hF ns (120 + (k:Int)) (m:=(cp.length:Int) + 1) (by omega);have df:=hK ns (120 + (k:Int)) (m:=(cp.length:Int) + 1) (by omega);nofun;obtain ⟨v,aG⟩:∃ v:Nat,dw ns (120 + (k:Int)) ((cp.length:Int) + 1)=(v:Int):=⟨_,(r4 dg).symm⟩;refine ⟨.inl ⟨_,ak.of hB.ab⟩,_,.inl (ak.of hB.ab),?_⟩;rw [mr];refine ⟨a,ns,_,_,rfl,il,kg,⟨by omega,by omega⟩,by omega,by decide,fun p aq=>⟨_,_,rfl,(a' aq) _ _ hB.ab,?_⟩⟩;rw [aG,lB];have Q6:v <= cp.length:=by omega
    have em:(qs.map V.ref).take v ++ V.ref p :: (qs.map V.ref).drop v=(ins qs v p).map V.ref:=(Sk V.ref qs v p).symm;refine ⟨by omega,by omega,by rw [mr];omega,gI (show (qs.map V.ref).length <= 8 by rw [mr];omega) (by decide),(kp.trans (a' aq)).gk AL,(de.upd).upd,?_,_,rfl⟩;rw [em];exact ⟨_,_,hB.new (g:=[k]) kp aq Q6,lC.new v⟩
  .rintro σ I a7;ac_rfl
   obtain ⟨s2,cv,⟨qs,cp,G,lC⟩,c8,d8,b4,cA,dJ,rfl⟩:=a7;subst aY;exact bD _ _ ⟨s2,cv,⟨qs,cp,G,lC⟩,_,_,_,_,_,rfl⟩
 rintro cH az ⟨s2,cv,⟨qs,cp,G,lC⟩,c8,d8,b4,cA,dJ,rfl⟩;subst aY;exists (fun ay I=>aH az I/\aL I/\∃ bk,az bk=none/\I bk=some (.lst [])/\ay=[~~~a,some (.int n),~~~wl,~~~gl,c8,d8,b4,cA,dJ,~~~bk,none,none]),3
 .nofun;exact ⟨fg _,fun bk oK=>bD _ _ ⟨a' oK,cv.upd,bk,oK,aS,rfl⟩⟩
 rintro gE bI ⟨s3,c0,bk,oK,gD,rfl⟩;have afz:=lC.len;have mr:(qs.map V.ref).length=cp.length:=by rw [aR,G.ai]
 subst aY;exists (fun ay I=>aH az I/\aL I/\(∃ lI aI,n4 I bk lI qs aI/\Ea n ds aI)/\∃ b4 dJ i4 rW,ay=[~~~a,some (.int n),~~~wl,~~~gl,c8,d8,b4,cA,dJ,~~~bk,i4,rW]),3
 .nofun;refine ⟨_,.inl (ak.of (s3 _ _ G.ab)),by omega,by rw [mr];omega,?_⟩;rw [show (((qs.map V.ref).length:Nat):Int).toNat=cp.length by rw [mr];rfl];refine dP.range (fun j σ I=>aH az I/\aL I/\(∃ (lI:List Addr) (aI:List fU),I bk=some (.lst (lI.map V.ref))/\lI.length=j/\aI.length=j/\(∀ (i:Nat) (q:Addr) (s:fU),lI[i]? = some q->aI[i]? = some s->∃ m,qs[i]? = some m/\I q=some (.tup [.int s.lo,.int s.ag,.ref m]))/\aI.map (·.bZ)=cp.take j/\∀ s ∈ aI,(∀ i ∈ s.bZ,∀ d,ds[i]? = some d->d.least <= s.lo)/\1 <= s.lo/\s.lo <= 21/\s.lo <= s.ag/\s.ag <= 40)/\∃ b4 dJ i4 rW,σ=[~~~a,some (.int n),~~~wl,~~~gl,c8,d8,b4,cA,dJ,~~~bk,i4,rW]) ⟨s3,c0,⟨[],[],gD,rfl,rfl,fun i q s h=>by simp at h,by rw [ru];rfl,fun s h=>by simp at h⟩,_,_,_,_,rfl⟩ ?_ ?_
  .rintro j σ I aN a7;ac_rfl
   obtain ⟨s4,de,⟨lI,aI,g0,DL,ff,l2,xO,t8⟩,b4,dJ,i4,rW,rfl⟩:=a7;have qE:cp[j]? = some cp[j]:=a_ aN;have eS:qs[j]? = some (qs[j]'(by rw [G.ai];exact aN)):=a_ _;subst aY;generalize qs[j]'(by rw [G.ai];exact aN)=kV at eS;generalize akz:cp[j]=g at qE;have lY:=bM qE;have f_:∀ i ∈ g,∃ e,ds[i]? = some e:=fun i ag=>⟨_,a_ (lC.lt lY ag)⟩
   have hB:=G.same s4;have vJ:=hB.du j kV g eS qE;have yX:=bA (xs:=qs.map V.ref) (j:=j) (by rw [cV,eS];rfl);have kp:=s2.trans s4;have kg:=S.same kp;have Ck:=kp _ _ b_;have apr:=lC.Fp lY;obtain ⟨mH,aaF⟩:∃ mH:Nat->Int,mH=fun i=>((ds[i]?).map (·.least)).getD 0:=⟨_,rfl⟩
   have Mj:∀ i e,ds[i]? = some e->mH i=e.least:=fun i e he=>by rw [aaF];show ((ds[i]?).map (·.least)).getD 0=_;rw [he];rfl
   obtain ⟨m4,Ci,t7⟩:=xY (g.map mH) (fun z=>lC.ne g lY (VA.mp z));have r5:1 <= m4/\m4 <= 4:=by
    obtain ⟨i,ag,rfl⟩:=b2.mp Ci;obtain ⟨e,he⟩:=f_ i ag;rw [Mj i e he];exact ⟨(D.al e (bM he)).1.le.1,hle e (bM he)⟩
   have ew:=hF ns (130 + (j:Int)) (m:=3) (by decide);have eW:=hK ns (130 + (j:Int)) (m:=3) (by decide);simp only [e_,dj,gU,gM,lP];exists (fun ay cD=>aH I cD/\aL cD/\∃ lo:Int,(m4 <= lo/\lo <= m4 + 2)/\ay=[~~~a,some (.int n),~~~wl,~~~gl,c8,d8,some (.int (j:Int)),cA,dJ,~~~bk,some (.int lo),rW]),0
   .nofun;refine ⟨_,ak.of hB.ab,_,yX,_,rfl,⟨_,ak.of vJ⟩,?_⟩;refine cX.kU (xs:=g.map fun k:Nat=>V.int k) (zs:=(g.map mH).map V.int) (ak.of vJ) (cq (show (g.map fun k:Nat=>V.int k).length <= 8 by rw [aR];omega) (by decide)) (by rw [aR,aR,aR]) (fun l v z N aG aF bb=>?_) (fun pl cO=>?_)
    .obtain ⟨i,ag,rfl⟩:=cm aG;obtain ⟨y,aU,rfl⟩:=cm aF;obtain ⟨k_,fR,rfl⟩:=cm aU;rw [ag] at fR;cases fR;obtain ⟨e,he⟩:=f_ i (bM ag);obtain ⟨gz,sa,JU⟩:=qJ i e he;rw [Mj i e he] at bb;nofun;exact ⟨Sub.name,_,ak.of Ck,_,sa,_,rfl,_,cS.of (kp _ _ JU),_,bA (j:=6) rfl,bb⟩
    .have Sn:=a' (o:=.lst ((g.map mH).map V.int)) cO;refine ⟨_,rfl,_,ak.of aS,m4,Ci,t7,a,ns,_,_,rfl,il,kg.same Sn,⟨by omega,by omega⟩,by decide,_,rfl,bD _ _ ⟨Sn,de.upd,_,⟨by omega,by omega⟩,rfl⟩⟩
   rintro mw cD ⟨s5,dT,aou,Ao,rfl⟩;have MP:=kg.same s5;subst aY;simp only [dj];exists (fun ay c3=>c3=cD/\∃ lo:Int,(m4 <= lo/\lo <= 21)/\ay=[~~~a,some (.int n),~~~wl,~~~gl,c8,d8,some (.int (j:Int)),cA,dJ,~~~bk,some (.int lo),rW]),0
   .refine cP (decide (dw ns (150 + (j:Int)) 12=0)) (fun Q aX=>?_) (fun _=>?_) (fun _=>?_)
    .nofun;refine ⟨a,ns,_,_,rfl,il,MP,⟨by omega,by omega⟩,by decide,rfl,?_⟩;rw [show decide (V.int (dw ns (150 + (j:Int)) 12)=V.int 0)=decide (dw ns (150 + (j:Int)) 12=0) from decide_eq_decide.mpr (by simp)];exact aX
    .nofun;exact bD _ _ ⟨rfl,_,by omega,rfl⟩
    .simp only [f'];exact bD _ _ ⟨rfl,_,by omega,rfl⟩
   rintro zf c3 ⟨rfl,lo,v7,rfl⟩;have kA:=hF ns (180 + (j:Int)) (m:=6) (by decide);have jD:=hK ns (180 + (j:Int)) (m:=6) (by decide);subst aY;simp only [dj];exists (fun ay fz=>aH c3 fz/\aL fz/\∃ mo:Int,(1 <= mo/\mo <= 20)/\ay=[~~~a,some (.int n),~~~wl,~~~gl,c8,d8,some (.int (j:Int)),cA,dJ,~~~bk,some (.int lo),some (.int mo)]),0
   .obtain ⟨mo,sJ,i'⟩:=aiE kA jD;nofun;exact ⟨by decide,fun p aq=>⟨a,ns,_,_,rfl,il,MP.same (a' aq),⟨by omega,by omega⟩,by decide,_,_,rfl,ak.of aS,_,i',bD _ _ ⟨a' aq,dT.upd,mo,sJ,rfl⟩⟩⟩
   rintro oX fz ⟨dO,mh,mo,sJ,rfl⟩;have BU:=s5.trans dO;have wZ:=MP.same dO;have u6:=BU _ _ g0;have rI:=hF ns (140 + (j:Int)) (m:=mo) (by omega);have rU:=hK ns (140 + (j:Int)) (m:=mo) (by omega);subst aY;nofun;refine ⟨.inl ⟨_,ak.of u6⟩,a,ns,_,_,rfl,il,wZ,⟨by omega,by omega⟩,by omega,_,rfl,_,ak.of (BU _ _ hB.ab),_,yX,by decide,fun p aq=>⟨_,(a' aq) _ _ u6,gI (show (lI.map V.ref).length <= 8 by rw [aR];omega) (by decide),((s4.trans BU).trans (a' aq)).gk oK,(mh.upd).upd,⟨lI ++ [p],by rw [aS,dA];rfl,by rw [cC,DL];rfl,aI ++ [⟨lo,lo + dw ns (140 + (j:Int)) mo,g⟩],by rw [cC,ff];rfl,fun i q s a1 a2=>?_,?_,fun s aw=>?_⟩,?_⟩⟩
   .have sW:bk ≠ p:=Db u6 aq;rcases ka a1 with ⟨hE,fo⟩ | ⟨hE,rfl⟩
    .rcases ka a2 with ⟨a9,bB⟩ | ⟨a9,_⟩
     .obtain ⟨m,hm,e⟩:=l2 i q s fo bB;have e1:=BU _ _ e;refine ⟨m,hm,?_⟩;rw [aZ (eI e1 u6 (by intro z;cases z)),aZ (Db e1 aq)];exact e1
     .omega
    .rcases ka a2 with ⟨a9,_⟩ | ⟨_,rfl⟩
     .omega
     .refine ⟨kV,by rw [hE,DL];exact eS,?_⟩;rw [aZ (dF sW),aS]
   .rw [dA,xO,nC,qE];rfl
   .rcases dZ.mp aw with z | z
    .exact t8 s z
    .rw [eu.mp z];refine ⟨fun i ag e he=>?_,by show 1 <= lo;omega,v7.2,by show lo <= lo + dw ns (140 + (j:Int)) mo;omega,by show lo + dw ns (140 + (j:Int)) mo <= 40;omega⟩;have:=t7 (mH i) (b2.mpr ⟨i,ag,rfl⟩);rw [Mj i e he] at this;show e.least <= lo;omega
   .repeat (first | exact ⟨_,rfl⟩ | refine ⟨⟨_,rfl⟩,?_⟩)
  .rintro σ I a7;ac_rfl
   obtain ⟨s4,de,⟨lI,aI,g0,DL,ff,l2,xO,t8⟩,b4,dJ,i4,rW,rfl⟩:=a7;subst aY;rw [iF] at xO;have hB:=G.same s4;refine bD _ _ ⟨s4,de,⟨lI,aI,⟨g0,by omega,by rw [G.ai];omega,fun i q m s a1 a2 gp=>?_⟩,⟨by rw [xO];exact lC,fun s aw=>(t8 s aw).1,fun s aw=>(t8 s aw).2⟩⟩,_,_,_,_,rfl⟩;obtain ⟨dm,kF,e⟩:=l2 i q s a1 gp;rw [a2] at kF;cases kF;refine ⟨e,hB.du i m s.bZ a2 ?_⟩;rw [<- xO,cV,gp];rfl
 rintro mw cD ⟨s4,de,⟨lI,aI,i6,ae7⟩,b4,dJ,i4,rW,rfl⟩;subst aY;nofun;exact q bk lI qs aI cD (s2.trans s4) de i6 ae7
noncomputable def hj (ds:List bx) (i:Nat):Str:=((ds[i]?).map (·.name)).getD (ah "")
noncomputable def ci (ds:List bx) (s:fU):List Str:=s.bZ.map (hj ds)
noncomputable def be (ds:List bx) (s:fU):List Str:=[ah "stage",num s.lo,num s.ag] ++ ci ds s
noncomputable def gT (ds:List bx) (aI:List fU):List (List Str):=aI.map (be ds)
noncomputable def tJ (ds:List bx) (aI:List fU):Str:=d_ nl ((gT ds aI).map (d_ cI))
structure Gu (ds:List bx) (aI:List fU):Prop where
 ln:aI.length <= 8
 bd:∀ s ∈ aI,(0 <= s.lo/\s.lo < 1000)/\(0 <= s.ag/\s.ag < 1000)/\s.bZ ≠ []/\s.bZ.length <= 8/\∀ i ∈ s.bZ,∃ d,ds[i]? = some d
 nm:∀ d ∈ ds,d.name.length <= 8
theorem ai_ (ds:List bx) (s:fU) (h:s.bZ ≠ []):ah "stage " ++ num s.lo ++ ah " " ++ num s.ag ++ ah " " ++ d_ cI (ci ds s)=d_ cI (be ds s):=by
 apply zN;have ao:(ah "stage ").cps.toList=[115,116,97,103,101,32]:=by ac_nf
 have aC:(ah "stage").cps.toList=[115,116,97,103,101]:=by ac_nf
 have bJ:(ah " ").cps.toList=[32]:=by ac_nf
 unfold be ci;obtain ⟨i,r,ar⟩:=rl h;rw [ar,Dz,qQ];simp only [nI,ph,qQ,eB,pH,tp,FF,md,ao,aC,bJ,l8]
def Nl:bO:=fun vs H Q _=>∃ wl ds bk qs ms aI,vs=[.ref wl,.ref bk]/\iz H wl ds/\n4 H bk qs ms aI/\Gu ds aI/\aL H/\Q (.str (tJ ds aI)) H
def aiT:bO:=fun vs H Q _=>∃ wl ds bk qs ms aI,vs=[.ref wl,.ref bk]/\iz H wl ds/\n4 H bk qs ms aI/\Gu ds aI/\∀ I,aH H I->Q (.str (tJ ds aI)) I
theorem agQ:cu P base T 1 t.B7 t.CG AR Nl:=by
 refine bV.forget (sp:=aiT) ?_ fun vs H Q E h=>?_
 .exists T.E7.ok xC,9
  obtain ⟨wl,ds,bk,qs,ms,aI,rfl,⟨j9,b_,cM,yD⟩,i6,X,q⟩:=h;have amB:=X.ln;have qJ:∀ (i:Nat) (d:bx),ds[i]? = some d->∃ jP,eE (j9.map V.ref) (i:Int)=some (.ref jP)/\H jP=some (.tup (hQ d)):=fun i d hd=>by
   have fM:j9[i]? = some (j9[i]'(by rw [cM];exact (bY.mp hd).1)):=a_ _;exact ⟨_,bA (by rw [cV,fM];rfl),yD i _ d fM hd⟩
  have xv:∀ k:Nat,k <= 1000->k <= sizeLine:=fun k h=>cq h (by decide)
  refine ⟨_,(aQ (bX (i:=2) xC.aB (d4 av))
   (aQ (eU eJ rfl (eZ (U 1)) (kW (K:=K) (n:=3) rfl rfl (eG (b5 (i:=3) xC.aB) (eG (b5 (i:=4) xC.aB) (eG (b5 (i:=5) xC.aB) kJ)))) (a3 (dN (ef e2 h2 iC hY (U 2) (db (bG mN (bG mN (bG mN (bG mN (bG mN dy (oN wb rfl T.yF yC (db (U 3) av))) dy) (oN wb rfl T.yF yC (db (U 4) av))) dy) (ef r2 Cn DC x7 dy (db (gy rfl (eZ (U 5)) (fy (sc:=bt MC) rfl (by ac_nf)) (N:=Cc) (sel:=[none,some 0]) (fs (M:=["_law_ways_here","_law_stages_here","_law_rows","_law_low","_law_high","_law_some"]) (by ac_nf)) (eT.of (fun _ _ _ _=>(b5 (i:=0) (dX (N:=Cc) (by ac_nf) rfl))) (fun _ _ _ _=>⟨_,gV,by walk_at "B"⟩) (fun _ _ _ _=>⟨_,(bl eD (bl b0 (U 1) (U 0)) aJ),by walk_at "B"⟩))) av))) av)))))
   (a3 (cc (ef r2 Cn DC x7 dy (db (U 2) av)))))),?_⟩
  exists (fun ay I=>aH H I/\∃ dC,H dC=none/\I dC=some (.lst (ba []))/\ay=[~~~wl,~~~bk,~~~dC,none,none,none]),3
  .nofun;exact ⟨fg _,fun dC hb=>bD _ _ ⟨a' hb,dC,hb,aS,rfl⟩⟩
  rintro gu H1 ⟨s1,dC,hb,dI,rfl⟩;subst aY;exists (fun ay I=>aH H I/\I dC=some (.lst (ba ((gT ds aI).map (d_ cI))))/\∃ fx c8 d8,ay=[~~~wl,~~~bk,~~~dC,fx,c8,d8]),3
  .nofun;refine ⟨⟨_,ak.of (s1 _ _ i6.at_)⟩,?_⟩;refine dP.list (xs:=qs.map V.ref) (fun i σ I=>aH H I/\I dC=some (.lst (ba ((gT ds (aI.take i)).map (d_ cI))))/\∃ fx c8 d8,σ=[~~~wl,~~~bk,~~~dC,fx,c8,d8]) ?_ ?_ ?_ ?_
   .exact ⟨s1,by rw [ru];exact dI,_,_,_,rfl⟩
   .rintro i σ I ag ⟨bu,_⟩;exact ak.of (bu _ _ i6.at_)
   .rintro i v σ I aG a7;ac_rfl
    obtain ⟨bu,dB,fx,c8,d8,rfl⟩:=a7;obtain ⟨rv,fM,rfl⟩:=cm aG;have ag:i < aI.length:=by rw [<- i6.b_];exact (bY.mp fM).1
    have vr:aI[i]? = some aI[i]:=a_ ag;have pD:ms[i]? = some (ms[i]'(by rw [i6.cM];exact ag)):=a_ _;obtain ⟨ao,aC⟩:=i6.al i rv _ _ fM pD vr;subst aY;generalize ms[i]'(by rw [i6.cM];exact ag)=m at pD ao aC;generalize apu:aI[i]=s at vr ao aC;obtain ⟨OR,PG,bne,Bf,vl⟩:=X.bd s (bM vr);have ab:=yL (n:=s.lo) (by omega) (by omega);have ai:=yL (n:=s.ag) (by omega) (by omega);have t1:(ah "stage ").length=6:=by ac_nf
    have gw:(ah " ").length=1:=by ac_nf
    have l3:∀ y ∈ ci ds s,y.length <= 8:=fun y aU=>by
     obtain ⟨k,aE,rfl⟩:=b2.mp aU;obtain ⟨d,hd⟩:=vl k aE;unfold hj;rw [hd];exact X.nm d (bM hd)
    have jy:(d_ cI (ci ds s)).length <= 100:=by
     have:=pZ cI 8 (ci ds s) l3;rw [rh] at this;have aD:(ci ds s).length=s.bZ.length:=by unfold ci;rw [aR]
     have:(ci ds s).length * 9 <= 72:=by omega
     omega
    nofun;refine ⟨_,cS.of (bu _ _ ao),rfl,_,_,rfl,_,_,rfl,_,_,rfl,rfl,.inl ⟨_,ak.of dB⟩,_,rfl,Sf (by omega),xv _ (by rw [t1];omega),xv _ (by simp only [pI,t1,gw];omega),_,rfl,Sf (by omega),xv _ (by simp only [pI,t1,gw];omega),xv _ (by simp only [pI,t1,gw];omega),m,rfl,⟨_,ak.of (bu _ _ aC)⟩,?_⟩;refine cX.kU (xs:=s.bZ.map fun k:Nat=>V.int k) (zs:=ba (ci ds s)) (ak.of (bu _ _ aC)) (cq (show (s.bZ.map fun k:Nat=>V.int k).length <= 8 by rw [aR];exact Bf) (by decide)) (by rw [gx,aR];unfold ci;rw [aR]) (fun l v z N aG aF bb=>?_) (fun pl cO=>?_)
    .obtain ⟨k,aE,rfl⟩:=cm aG;unfold ba ci at aF;obtain ⟨y,aU,rfl⟩:=cm aF;obtain ⟨sk,ha,rfl⟩:=cm aU;rw [aE] at ha;cases ha;obtain ⟨d,hd⟩:=vl k (bM aE);obtain ⟨jP,su,eq⟩:=qJ k d hd;have ani:hj ds k=d.name:=by unfold hj;rw [hd];rfl
     rw [ani] at bb;nofun;exact ⟨Sub.name,_,ak.of (bu _ _ b_),_,su,_,rfl,_,cS.of (bu _ _ eq),_,bA (j:=1) rfl,bb⟩
    .have n8:(ci ds s).length <= 8:=by unfold ci;rw [aR];exact Bf
     refine ⟨pl,rfl,ci ds s,ak.of aS,?_,?_⟩
     .have:=Bn l3;rw [gw];omega
     .rw [show qA (ah " ") (ci ds s)=d_ cI (ci ds s) from wY _ _];have tZ:=ai_ ds s bne;have iB:(ba ((gT ds (aI.take i)).map (d_ cI))).length <= 8:=by
       unfold ba gT;rw [aR,aR,aR,gZ];omega
      refine ⟨xv _ (by simp only [pI,t1,gw];omega),_,(a' cO) _ _ dB,gI iB (by decide),(bu.trans (a' cO)).gk hb,?_,?_⟩
      .rw [aS,tZ,nC,vr];unfold gT ba;rw [dA,dA,dA];rfl
      .repeat (first | exact ⟨_,rfl⟩ | refine ⟨⟨_,rfl⟩,?_⟩)
   .rintro σ I a7;ac_rfl
    obtain ⟨bu,dB,fx,c8,d8,rfl⟩:=a7;subst aY;rw [aR,i6.b_,iF] at dB;exact bD _ _ ⟨bu,dB,_,_,_,rfl⟩
  rintro cH az ⟨s2,dB,fx,c8,d8,rfl⟩;subst aY;nofun;have iv:∀ y ∈ (gT ds aI).map (d_ cI),y.length <= 200:=fun y aU=>by
   obtain ⟨r,dY,rfl⟩:=b2.mp aU;obtain ⟨s,aw,rfl⟩:=b2.mp dY;obtain ⟨OR,PG,bne,Bf,vl⟩:=X.bd s aw;have ab:=yL (n:=s.lo) (by omega) (by omega);have ai:=yL (n:=s.ag) (by omega) (by omega);have l3:∀ y ∈ be ds s,y.length <= 8:=fun y aU=>by
    unfold be at aU;rcases dZ.mp aU with z | z
    .have z:y=ah "stage" \/ y=num s.lo\/y=num s.ag:=by simpa using z
     rcases z with rfl | rfl | rfl
     .ac_nf
     .exact cq ab (by decide)
     .exact cq ai (by decide)
    .obtain ⟨k,aE,rfl⟩:=b2.mp z;obtain ⟨d,hd⟩:=vl k aE;unfold hj;rw [hd];exact X.nm d (bM hd)
   have:=pZ cI 8 (be ds s) l3;rw [rh] at this;have aD:(be ds s).length <= 11:=by
    unfold be ci;rw [cC,aR];show 3 + s.bZ.length <= 11;omega
   omega
  refine ⟨_,ak.of dB,?_,?_⟩
  .have:=Bn iv;rw [show (ah "\n").length=1 by ac_nf];have aD:((gT ds aI).map (d_ cI)).length <= 8:=by
    unfold gT;rw [aR,aR];exact amB
   omega
  .rw [show qA (ah "\n") ((gT ds aI).map (d_ cI))=d_ nl ((gT ds aI).map (d_ cI)) from wY _ _];exact q _ s2
 .obtain ⟨wl,ds,bk,qs,ms,aI,rfl,L,i6,X,bC,q⟩:=h;exact ⟨bC,wl,ds,bk,qs,ms,aI,rfl,L,i6,X,fun I bu=>⟨bu,q⟩⟩
noncomputable def oi (ds:List bx) (s:fU):ST:=⟨s.lo,s.ag,ci ds s⟩
noncomputable def dc (ds:List bx) (aI:List fU):List ST:=aI.map (oi ds)
theorem ju (h:ds[i]? = some d):hj ds i=d.name:=by unfold hj;rw [h];rfl
theorem H3 (aB:(ds.map (·.name)).Nodup) (ag:i < ds.length) (aN:j < ds.length) (e:hj ds i=hj ds j):i=j:=by
 rw [ju (a_ ag),ju (a_ aN)] at e;exact va aB ag aN (by rw [me (a_ ag),me (a_ aN)];exact e)
structure dt (n:Int) (ds:List bx) (aI:List fU):Prop where
 aB:(ds.map (·.name)).Nodup
 lA:Ea n ds aI
 j5:ds.length <= 6
 b_:1 <= ds.length
 ok:∀ d ∈ ds,lK n d
theorem dt.c_ (h:dt n ds aI):(aI.map (·.bZ)).flatten.Nodup:=h.lA.eY.pm.nodup_iff.mpr List.nodup_range
theorem dt.lt (h:dt n ds aI) (aw:s ∈ aI) (ag:i ∈ s.bZ):i < ds.length:=h.lA.eY.lt (b2.mpr ⟨s,aw,rfl⟩) ag
theorem dt.len (h:dt n ds aI):aI.length <= 6:=by
 have:=h.lA.eY.len.1;rw [aR] at this;have:=h.j5;omega
theorem dt.jT (h:dt n ds aI):Gu ds aI:=by
 refine ⟨by have:=h.len;omega,fun s aw=>?_,fun d hd=>((p0 (h.ok d hd).nm).1).2⟩;have b:=h.lA.bd s aw;have hm:s.bZ ∈ aI.map (·.bZ):=b2.mpr ⟨s,aw,rfl⟩;have bg:=h.lA.eY.Fp hm;have:=h.j5;exact ⟨⟨by omega,by omega⟩,⟨by omega,by omega⟩,h.lA.eY.ne _ hm,by omega,fun i ag=>⟨_,a_ (h.lt aw ag)⟩⟩
theorem dt.afQ (h:dt n ds aI) (aw:s ∈ aI):(ci ds s).Nodup:=by
 have af:s.bZ.Nodup:=h.c_.sublist (am1 (b2.mpr ⟨s,aw,rfl⟩));unfold ci;refine Zj.mpr (abv (fun {a b} aK ae nZ e=>?_) af);exact nZ (H3 h.aB (h.lt aw aK) (h.lt aw ae) e)
theorem dt.told (h:dt n ds aI) (aw:aI[i]? = some s) {x:Str} (af:x ∈ ci ds s):told (dc ds (aI.take i)) x=false:=by
 cases e:My.told (dc ds (aI.take i)) x with
 | false=>rfl
 | true=>
  exfalso;unfold My.told at e;obtain ⟨r,aj,ar⟩:=se.mp e;obtain ⟨s',kf,rfl⟩:=b2.mp aj;have ar:x ∈ ci ds s':=by simpa [oi] using ar
  obtain ⟨k,aE,rfl⟩:=b2.mp af;obtain ⟨sk,ha,Fw⟩:=b2.mp ar;have:=H3 h.aB (h.lt (td kf) ha) (h.lt (bM aw) aE) Fw;subst this;obtain ⟨ag,vr⟩:=bY.mp aw;have hf:=h.c_;rw [<- FR i aI,dA,ae1,qP ag,vr,eB,ub] at hf;exact (NY.mp hf).2.2 sk (JJ.mpr ⟨s'.bZ,b2.mpr ⟨s',kf,rfl⟩,ha⟩) sk (nE _ aE) rfl
theorem Rb:∀ {r:List Str} {j:Nat} {ms:List Str},(∀ x ∈ r,x ∈ alike)->(ms ++ r).Nodup->rC alike r j ms=.ok (ms ++ r)
 | [],j,ms,_,_=>by
  show q0 ms=_;rw [p5]
 | x :: r,j,ms,aK,aV=>by
  unfold rC;have af:x ∉ ms:=fun z=>(NY.mp aV).2.2 x z x (kO ..) rfl
  rw [if_pos ⟨aK x (kO ..),af⟩,Rb (fun y aU=>aK y (gS _ aU)) (by rw [l8];exact aV),l8];rfl
theorem dt.left (h:dt n ds aI) (aw:aI[i]? = some s) {x:Str} (af:x ∈ ci ds s):x ∈ g5 ds (dc ds (aI.take i)):=by
 unfold g5;refine mG.mpr ⟨?_,by rw [h.told aw af];rfl⟩;obtain ⟨k,aE,rfl⟩:=b2.mp af;have ha:=h.lt (bM aw) aE;rw [ju (a_ ha)];exact b2.mpr ⟨_,jb ha,rfl⟩
theorem dt.ajE (h:dt n ds aI) (aw:aI[i]? = some s):qz ds (dc ds (aI.take i)) (be ds s)=.ok (oi ds s):=by
 have hm:=bM aw;have b:=h.lA.bd s hm;have cB:=h.lA.eY.ne s.bZ (b2.mpr ⟨s,hm,rfl⟩);obtain ⟨k,r,ar⟩:=rl cB;have l3:ci ds s=hj ds k :: r.map (hj ds):=by unfold ci;rw [ar];rfl
 have hw:be ds s=ah "stage" :: num s.lo :: num s.ag :: hj ds k :: r.map (hj ds):=by unfold be;rw [l3];rfl
 have cN:mR ds (g5 ds (dc ds (aI.take i))) (be ds s)=.ok (ci ds s):=by
  have hf:hj ds k ∈ ci ds s:=by rw [l3];exact kO ..
  have a5:c7 (be ds s) 3=hj ds k:=by rw [hw];rfl
  have bQ:(be ds s).drop 4=r.map (hj ds):=by rw [hw];rfl
  unfold mR;rw [a5,bQ,if_pos (h.left aw hf),Rb (fun x af=>?_) (by have:=h.afQ hm;rw [l3] at this;exact this),l3]
  .rfl
  .have i8:x ∈ ci ds s:=by rw [l3];exact gS _ af
   refine mG.mpr ⟨h.left aw i8,decide_eq_true ?_⟩;obtain ⟨fP,uE,rfl⟩:=b2.mp af;have F7:fP ∈ s.bZ:=by rw [ar];exact gS _ uE
   have Pm:k ∈ s.bZ:=by rw [ar];exact kO ..
   have b_:=a_ (h.lt hm Pm);have cM:=a_ (h.lt hm F7);have al:=h.lA.eY.al s.bZ (b2.mpr ⟨s,hm,rfl⟩) fP F7 k Pm _ _ cM b_;show (i7 ds (hj ds fP)).map iq=(i7 ds (hj ds k)).map iq;rw [ju b_,ju cM,iy h.aB b_,iy h.aB cM];have:=u7.mp al;show some (iq _)=some (iq _);unfold iq;by_cases c:(ds[fP]'(h.lt hm F7)).k=2
   .rw [if_pos c,if_pos (this.mp c)]
   .rw [if_neg c,if_neg (fun z=>c (this.mpr z))]
 have h0:c7 (be ds s) 0=ah "stage" := by rw [hw];rfl
 have ab:c7 (be ds s) 1=num s.lo:=by rw [hw];rfl
 have ai:c7 (be ds s) 2=num s.ag:=by rw [hw];rfl
 have ao:lE (num s.lo) 1 60=some s.lo:=Pp (rm (by omega) (by omega) (by omega) (by omega));have aC:lE (num s.ag) s.lo 60=some s.ag:=Pp (rm (by omega) (by omega) (by omega) (by omega));unfold qz;rw [h0,ab,ai,cN,if_pos (eu.mpr rfl),ao];show (lE (num s.ag) s.lo 60).elim _ _=_;rw [aC];rfl
theorem dt.parse (h:dt n ds aI):∀ (m i:Nat),aI.length - i=m->i <= aI.length->th ds ((gT ds aI).drop i) i (dc ds (aI.take i))=.ok (dc ds aI)
 | 0,i,hm,ag=>by
  have:i=aI.length:=by omega
  subst this;have aD:(gT ds aI).length=aI.length:=by unfold gT;rw [aR]
  rw [<- aD,ye,aD,iF];rfl
 | m + 1,i,hm,ag=>by
  have fR:i < aI.length:=by omega
  have aw:aI[i]? = some aI[i]:=a_ fR;have aD:i < (gT ds aI).length:=by unfold gT;rw [aR];exact fR
  have bg:(gT ds aI)[i]=be ds aI[i]:=(bY.mp (show (gT ds aI)[i]? = some (be ds aI[i]) by unfold gT;rw [cV,aw];rfl)).2;rw [qP aD,bg];unfold th;have iA:=h.len;rw [if_neg (by unfold dc;rw [aR,gZ];omega),h.ajE aw];have c2:=h.parse m (i + 1) (by omega) fR;rw [mC aw] at c2;unfold dc at c2 ⊢;rw [dA] at c2;exact c2
theorem dt.none (h:dt n ds aI):(g5 ds (dc ds aI)).head? = uH/\ww ds (dc ds aI)=uH/\t5 n ds (dc ds aI)=uH:=by
 refine ⟨?_,?_,?_⟩
 .have:g5 ds (dc ds aI)=[]:=by
   unfold g5;refine Us.mpr fun x af=>?_
   obtain ⟨d,hd,rfl⟩:=b2.mp af;obtain ⟨k,aE⟩:=hD hd;have j8:=(bY.mp aE).1;have hf:=h.lA.eY.pm.mem_iff.mpr (j2.mpr j8);obtain ⟨g,bg,Zr⟩:=JJ.mp hf;obtain ⟨s,aw,rfl⟩:=b2.mp bg;have:My.told (dc ds aI) d.name=true:=by
    unfold My.told;refine se.mpr ⟨oi ds s,b2.mpr ⟨s,aw,rfl⟩,?_⟩;have:d.name ∈ ci ds s:=b2.mpr ⟨k,Zr,ju aE⟩;simpa [oi] using this
   rw [this];simp
  rw [this];rfl
 .unfold ww;refine MA.mpr fun d hd=>?_
  unfold wk;cases aE:uL (dc ds aI) d.name with
  | none=>rfl
  | some k=>
   rw [vP];cases aj:(dc ds aI)[k]? with
   | none=>rfl
   | some r=>
    rw [vP];have af:My.told (dc ds aI) d.name=true:=by
     have:=S8 (dc ds aI) d.name;rw [<- this];unfold uL at aE;cases e:dn (gH ((dc ds aI).map (·.mem))) (cx d.name) with
     | none=>rw [e] at aE;cases aE
     | some v=>rfl
    obtain ⟨sk,eo,_,ha,dY,hm⟩:=Bl af;rw [aE] at ha;cases ha;rw [aj] at dY;cases dY;obtain ⟨s,aw,rfl⟩:=cm aj;obtain ⟨i,ag,qH⟩:=b2.mp hm;have sH:=bM aw;have iB:=h.lt sH ag;rw [ju (a_ iB)] at qH;obtain ⟨j,aN⟩:=hD hd;have:i=j:=va h.aB iB (bY.mp aN).1 (by rw [me (a_ iB),me aN,qH]);subst this;have:=h.lA.le s sH i ag d aN;show (if s.lo < d.least then some (d,k) else uH)=uH;rw [if_neg (show ¬ s.lo < d.least by omega)]
 .unfold t5;refine MA.mpr fun e he=>?_
  obtain ⟨r,k⟩:=e;have aj:r ∈ dc ds aI:=List.fst_mem_of_mem_zipIdx he;obtain ⟨s,aw,rfl⟩:=b2.mp aj;unfold sF;refine MA.mpr fun x af=>MA.mpr fun y aU=>?_
  obtain ⟨i,ag,rfl⟩:=b2.mp af;obtain ⟨j,aN,rfl⟩:=b2.mp aU;unfold pQ;rw [if_neg];rintro ⟨e4,dH⟩;have li:=a_ (h.lt aw ag);have vm:=a_ (h.lt aw aN);unfold mY at dH;rw [ju li,ju vm,iy h.aB li,iy h.aB vm] at dH;have:=h.lA.eY.Dy s.bZ (b2.mpr ⟨s,aw,rfl⟩) i ag j aN (fun z=>e4 (by rw [z])) _ _ li vm;replace dH:mt n _ _=true:=dH;rw [this] at dH;cases dH
def Wf (P:Program) (w:World) (t:b6):bO:=fun vs H Q _=>∃ c n ds aI,vs=[.ref c,.str (tJ ds aI)]/\fk t H c n ds/\(4 <= n/\n <= 99)/\dt n ds aI/\aL H/\∀ a I,aH H I->aL I->hv P w t I a c n ds (dc ds aI)->Q (.ref a) I
theorem dt.plain (h:dt n ds aI):∀ r ∈ gT ds aI,r ≠ []/\r.length <= 11/\∀ x ∈ r,qa x:=fun r aj=>by
 obtain ⟨s,aw,rfl⟩:=b2.mp aj;obtain ⟨OR,PG,bne,Bf,vl⟩:=h.jT.bd s aw;refine ⟨by unfold be;simp,?_,fun x af=>?_⟩
 .unfold be ci;rw [cC,aR];show 3 + s.bZ.length <= 11;omega
 .unfold be at af;rcases dZ.mp af with z | z
  .have z:x=ah "stage" \/ x=num s.lo\/x=num s.ag:=by simpa using z
   rcases z with rfl | rfl | rfl
   .unfold qa;ac_nf
   .exact l0 (by omega) (by omega)
   .exact l0 (by omega) (by omega)
  .obtain ⟨k,aE,rfl⟩:=b2.mp z;obtain ⟨d,hd⟩:=vl k aE;rw [ju hd];exact ir (h.ok d (bM hd)).nm
theorem dt.rows (h:dt n ds aI) (cB:aI ≠ []):ht (tJ ds aI)=gT ds aI:=by
 unfold tJ;exact VR (by unfold gT;simpa using cB) (fun r aj=>(h.plain r aj).1) (fun r aj=>(h.plain r aj).2.2)
theorem dt.ne (h:dt n ds aI):aI ≠ []:=fun e=>by
 have:=h.lA.eY.len.2;rw [e] at this;simp at this;have:=h.b_;omega
theorem dt.txt (h:dt n ds aI):(tJ ds aI).length <= 20000:=by
 have iv:∀ y ∈ (gT ds aI).map (d_ cI),y.length <= 200:=fun y aU=>by
  obtain ⟨r,aj,rfl⟩:=b2.mp aU;obtain ⟨_,ai,a5⟩:=h.plain r aj;have:=pZ cI 8 r fun x af=>(a5 x af).1
  rw [rh] at this;omega
 have:=pZ nl 200 _ iv;rw [zw,aR] at this;have aD:(gT ds aI).length <= 6:=by unfold gT;rw [aR];exact h.len
 unfold tJ;omega
theorem akN:cu P base T 7 t.wG t.xV yv (Wf P w t):=by
 refine (ac9 T).imp fun vs H Q E h=>?_
 obtain ⟨c,n,ds,aI,rfl,C,aV,X,bC,q⟩:=h;obtain ⟨e4,dH,yk⟩:=X.none;have cB:∀ d ∈ ds,d.name ≠ ah "" := fun d hd e=>by
  have h:=(p0 (X.ok d hd).nm).1.1;rw [e] at h;exact absurd h (by ac_nf)
 have bD:yI ds:=fun d hd=>by
  obtain ⟨ab,ai⟩:=p0 (X.ok d hd).nm;exact ⟨⟨cq ab.2 (by decide),fun c ar=>by have:=ai c ar;omega⟩,(X.ok d hd).k,(X.ok d hd).of.1,by have:=(X.ok d hd).of;omega⟩
 have aq:=X.parse aI.length 0 rfl (fg _);rw [YO,ru,show dc ds []=[] from rfl] at aq;refine ⟨c,n,ds,_,_,rfl,C,by omega,bD,cB,X.txt,by rw [X.rows X.ne];unfold gT;rw [aR];have:=X.len;omega,fun r aj=>?_,bC,by rw [X.rows X.ne];exact aq,X'.mp e4,dH,yk,fun a I s' es eV=>q a I s' es eV⟩;rw [X.rows X.ne] at aj;obtain ⟨ab,ai,a5⟩:=X.plain r aj;exact ⟨ab,by omega,fun y aU=>cq (a5 y aU).1 (by decide)⟩
theorem Hv (aB:(ds.map (·.name)).Nodup) (aw:∀ i ∈ s.bZ,i < ds.length) {k:Nat} (aE:ds[k]? = some d):d.name ∈ ci ds s↔k ∈ s.bZ:=by
 have j8:=(bY.mp aE).1;refine ⟨fun h=>?_,fun h=>b2.mpr ⟨k,h,ju aE⟩⟩;obtain ⟨j,aN,e⟩:=b2.mp h;rw [<- ju aE] at e;rw [<- H3 aB (aw j aN) j8 e];exact aN
theorem TF (b:Nat) (l:List Nat):pb (.int (b:Int)) (l.map fun k:Nat=>V.int k)=decide (b ∈ l):=by
 unfold pb;rw [NX,n5];simp only [se,QR,lV,beq_iff_eq,decide_eq_true_eq];constructor
 .rintro ⟨y,aU,e⟩;rw [<- Int.ofNat.inj e];exact aU
 .intro h;exact ⟨b,h,rfl⟩
theorem RM (d:bx):eE (hQ d) 0=some (.str (dx d.k)):=bA (j:=0) rfl
theorem Vr (d:bx):eE (hQ d) 4=some (.int d.off):=bA (j:=4) rfl
theorem ajB (d:bx):eE (hQ d) 5=some (.int d.near):=bA (j:=5) rfl
theorem FD:ah "car" ≠ ah "foot" := by ac_nf
theorem HU:ah "car" ≠ ah "tram" := by ac_nf
theorem Gx:ah "foot" ≠ ah "tram" := by ac_nf
theorem Og (x y z:V):mn [] [(cx (ah "car"),x),(cx (ah "foot"),y),(cx (ah "tram"),z)]=[(cx (ah "car"),x),(cx (ah "foot"),y),(cx (ah "tram"),z)]:=by
 unfold mn;simp only [List.foldl_cons,List.foldl_nil];rw [HB x (k:=cx (ah "car")) (by rfl),HB y (by simp [dn,FD]),HB z (by simp [dn,HU,Gx])];rfl
theorem aas (aE:d.k < 3):dn (mn [] [(cx (ah "car"),V.int 1),(cx (ah "foot"),V.int 0),(cx (ah "tram"),V.int 2)]) (cx (dx d.k))=some (.int (jH d)):=by
 rw [Og];unfold jH
 match h:d.k,aE with
 | 0,_=>simp [dn,dx]
 | 1,_=>simp [dn,dx,FD]
 | 2,_=>simp [dn,dx,HU,Gx]
theorem EQ (aE:d.k < 3):dn (mn [] [(cx (ah "car"),V.int 2),(cx (ah "foot"),V.int d.off),(cx (ah "tram"),V.int 1)]) (cx (dx d.k))=some (.int (jK d)):=by
 rw [Og];unfold jK
 match h:d.k,aE with
 | 0,_=>simp [dn,dx]
 | 1,_=>simp [dn,dx,FD]
 | 2,_=>simp [dn,dx,HU,Gx]
def TG:bO:=fun vs H Q _=>∃ a d,vs=[.ref a]/\H a=some (.tup (hQ d))/\d.k < 3/\aL H/\Q (.int (jH d)) H
def aed:bO:=fun vs H Q _=>∃ a d,vs=[.ref a]/\H a=some (.tup (hQ d))/\d.k < 3/\∀ I,aH H I->Q (.int (jH d)) I
def T9:bO:=fun vs H Q _=>∃ a d,vs=[.ref a]/\H a=some (.tup (hQ d))/\d.k < 3/\aL H/\Q (.int (jK d)) H
def ag5:bO:=fun vs H Q _=>∃ a d,vs=[.ref a]/\H a=some (.tup (hQ d))/\d.k < 3/\∀ I,aH H I->Q (.int (jK d)) I
def WW (P:Program) (w:World) (t:b6):bO:=fun vs H Q _=>∃ a c n ds rows,∃ i j:Nat,∃ r s,vs=[.ref a,.int i,.int j]/\hv P w t H a c n ds rows/\rows[i]? = some r/\rows[j]? = some s/\i ≠ j/\aL H/\∀ v,kc (ki n ds r.mem s.mem) v->Q (.int v) H
def aee (P:Program) (w:World) (t:b6):bO:=fun vs H Q _=>∃ a c n ds rows,∃ i j:Nat,∃ r s,vs=[.ref a,.int i,.int j]/\hv P w t H a c n ds rows/\rows[i]? = some r/\rows[j]? = some s/\i ≠ j/\∀ v I,aH H I->kc (ki n ds r.mem s.mem) v->Q (.int v) I
noncomputable def nc (ds:List bx) (i:Nat):Int:=((ds[i]?).map jK).getD 0
noncomputable def u4 (ds:List bx) (i:Nat):Int:=((ds[i]?).map jH).getD 0
noncomputable def Hw (n:Int) (ds:List bx) (k i:Nat):Bool:=match ds[k]?,ds[i]? with
 | some d,some e=>mt n d e
 | _,_=>false
noncomputable def tv (ds:List bx) (i k:Nat):Int:=match ds[k]?,ds[i]? with
 | some d,some e=>d.off - e.near
 | _,_=>0
noncomputable def qW (n:Int) (ds:List bx) (jq:List Nat) (i k:Nat):Bool:=!decide (k ∈ jq) && Hw n ds k i
noncomputable def jY (n:Int) (ds:List bx) (jq:List Nat) (i m:Nat):List Int:=u4 ds i :: ((cY m).filter (qW n ds jq i)).map (tv ds i)
noncomputable def ke (n:Int) (ds:List bx) (Xf jq:List Nat):List Int:=(0 :: Xf.map (nc ds)) ++ jq.flatMap fun i=>jY n ds jq i ds.length
theorem H8 (h:ds[i]? = some d):nc ds i=jK d:=by unfold nc;rw [h];rfl
theorem Gd (h:ds[i]? = some d):u4 ds i=jH d:=by unfold u4;rw [h];rfl
theorem Mg {i k:Nat} {d e:bx} (h:ds[k]? = some d) (h':ds[i]? = some e):Hw n ds k i=mt n d e:=by unfold Hw;rw [h,h']
theorem Jg {i k:Nat} {d e:bx} (h:ds[k]? = some d) (h':ds[i]? = some e):tv ds i k=d.off - e.near:=by unfold tv;rw [h,h']
theorem VO (aB:(ds.map (·.name)).Nodup) {i k:Nat} {d e:bx} (h:ds[k]? = some d) (h':ds[i]? = some e):mY n ds d.name e.name=mt n d e:=by unfold mY;rw [iy aB h,iy aB h']
theorem Od (aB:(ds.map (·.name)).Nodup) {i k:Nat} {d e:bx} (h:ds[k]? = some d) (h':ds[i]? = some e):dL ds d.name e.name=if d.off - e.near > 0 then d.off - e.near else 0:=by unfold dL;rw [iy aB h,iy aB h']
theorem agf (aB:(ds.map (·.name)).Nodup) (aj:∀ i ∈ r.bZ,i < ds.length) (aw:∀ i ∈ s.bZ,i < ds.length) {x:Int} (af:x ∈ ke n ds r.bZ s.bZ):∃ y ∈ ki n ds (ci ds r) (ci ds s),x <= y:=by
 unfold ke at af;unfold ki;rcases dZ.mp af with h | h
 .rcases d9.mp h with rfl | h
  .exact ⟨0,by simp,ma _⟩
  .obtain ⟨i,ag,rfl⟩:=b2.mp h;have hd:=a_ (aj i ag);refine ⟨_,nE _ (nE _ (iV _ (b2.mpr ⟨hj ds i,b2.mpr ⟨i,ag,rfl⟩,rfl⟩))),?_⟩;rw [H8 hd,ju hd];unfold qh;rw [iy aB hd];exact ma _
 .obtain ⟨i,ag,h⟩:=y8.mp h;have hd:=a_ (aw i ag);have rp:hj ds i ∈ ci ds s:=b2.mpr ⟨i,ag,rfl⟩;rcases d9.mp h with rfl | h
  .refine ⟨_,nE _ (iV _ (b2.mpr ⟨hj ds i,rp,rfl⟩)),?_⟩;rw [Gd hd,ju hd];unfold rd;rw [iy aB hd];exact ma _
  .obtain ⟨k,aE,rfl⟩:=b2.mp h;obtain ⟨w4,uE⟩:=mG.mp aE;have j8:=j2.mp w4;have hO:=a_ j8;unfold qW at uE;rw [jX,Mg hO hd] at uE;have adp:k ∉ s.bZ:=by simpa using uE.1
   rw [ju hd] at rp;refine ⟨dL ds ds[k].name (ds[i]'(aw i ag)).name,iV _ (y8.mpr ⟨ds[k].name,b2.mpr ⟨_,jb j8,rfl⟩,?_⟩),?_⟩
   .unfold oL;rw [if_neg fun z=>adp ((Hv aB aw hO).mp z)];exact b2.mpr ⟨_,mG.mpr ⟨rp,by rw [VO aB hO hd];exact uE.2⟩,rfl⟩
   .rw [Od aB hO hd,Jg hO hd];split <;> omega
theorem X5 (aB:(ds.map (·.name)).Nodup) (aj:∀ i ∈ r.bZ,i < ds.length) (aw:∀ i ∈ s.bZ,i < ds.length) {x:Int} (af:x ∈ ki n ds (ci ds r) (ci ds s)):∃ y ∈ ke n ds r.bZ s.bZ,x <= y:=by
 unfold ki at af;unfold ke;have h0:(0:Int) ∈ (0 :: r.bZ.map (nc ds)) ++ s.bZ.flatMap fun i=>jY n ds s.bZ i ds.length:=nE _ (kO ..)
 rcases dZ.mp af with h | h
 .rcases dZ.mp h with h | h
  .rcases dZ.mp h with h | h
   .rw [eu.mp h];exact ⟨0,h0,ma _⟩
   .obtain ⟨y,aU,rfl⟩:=b2.mp h;obtain ⟨i,ag,rfl⟩:=b2.mp aU;have hd:=a_ (aj i ag);refine ⟨_,nE _ (gS _ (b2.mpr ⟨i,ag,rfl⟩)),?_⟩;rw [H8 hd,ju hd];unfold qh;rw [iy aB hd];exact ma _
  .obtain ⟨y,aU,rfl⟩:=b2.mp h;obtain ⟨i,ag,rfl⟩:=b2.mp aU;have hd:=a_ (aw i ag);refine ⟨_,iV _ (y8.mpr ⟨i,ag,kO ..⟩),?_⟩;rw [Gd hd,ju hd];unfold rd;rw [iy aB hd];exact ma _
 .obtain ⟨y,aU,h⟩:=y8.mp h;obtain ⟨d,LB,rfl⟩:=b2.mp aU;obtain ⟨k,hO⟩:=hD LB;have j8:=(bY.mp hO).1;unfold oL at h;by_cases ar:d.name ∈ ci ds s
  .rw [if_pos ar] at h;cases h
  .rw [if_neg ar] at h;obtain ⟨z,aF,rfl⟩:=b2.mp h;obtain ⟨tg,qZ⟩:=mG.mp aF;obtain ⟨i,ag,rfl⟩:=b2.mp tg;have hd:=a_ (aw i ag);rw [ju hd] at qZ ⊢;rw [VO aB hO hd] at qZ;rw [Od aB hO hd];split
   .refine ⟨tv ds i k,iV _ (y8.mpr ⟨i,ag,gS _ (b2.mpr ⟨k,mG.mpr ⟨j2.mpr j8,?_⟩,rfl⟩)⟩),?_⟩
    .unfold qW;rw [jX,Mg hO hd];exact ⟨by simpa using fun z=>ar ((Hv aB aw hO).mpr z),qZ⟩
    .rw [Jg hO hd];exact ma _
   .exact ⟨0,h0,ma _⟩
theorem ae' (aB:(ds.map (·.name)).Nodup) (aj:∀ i ∈ r.bZ,i < ds.length) (aw:∀ i ∈ s.bZ,i < ds.length) (b7:kc (ki n ds (ci ds r) (ci ds s)) u) (aG:kc (ke n ds r.bZ s.bZ) v):u=v:=by
 obtain ⟨y,aU,ab⟩:=X5 aB aj aw b7.1;obtain ⟨z,aF,ai⟩:=agf aB aj aw aG.1;have:=aG.2 y aU;have:=b7.2 z aF;omega
theorem ac_ {i m:Nat} (h:qW n ds jq i m=true):jY n ds jq i (m + 1)=jY n ds jq i m ++ [tv ds i m]:=by
 unfold jY;rw [qB,S1,dA];simp [h]
theorem abN {i m:Nat} (h:qW n ds jq i m=false):jY n ds jq i (m + 1)=jY n ds jq i m:=by
 unfold jY;rw [qB,S1,dA];simp [h]
theorem OL (n:Int) (ds:List bx) (jq:List Nat) (i m:Nat):(jY n ds jq i m).length <= m + 1:=by
 unfold jY;rw [fQ,aR];have:=u3 (qW n ds jq i) (cY m);rw [kh] at this;omega
theorem Wj (n:Int) (ds:List bx) (jq:List Nat) (m:Nat):∀ l:List Nat,(l.flatMap fun i=>jY n ds jq i m).length <= l.length * (m + 1)
 | []=>by simp
 | i :: l=>by
  rw [u',cC,fQ,qC];have:=Wj n ds jq m l;have:=OL n ds jq i m;omega
def U' (K:bc):bO:=fun vs H Q _=>∃ n wl ds bk qs ms aI,∃ i j:Nat,∃ r s,vs=[.int n,.ref wl,.ref bk,.int i,.int j]/\iz H wl ds/\n4 H bk qs ms aI/\dt n ds aI/\aI[i]? = some r/\aI[j]? = some s/\aL H/\∀ v,kc (ke n ds r.bZ s.bZ) v->Q (.int v) H
def XU (K:bc):bO:=fun vs H Q _=>∃ n wl ds bk qs ms aI,∃ i j:Nat,∃ r s,vs=[.int n,.ref wl,.ref bk,.int i,.int j]/\iz H wl ds/\n4 H bk qs ms aI/\dt n ds aI/\aI[i]? = some r/\aI[j]? = some s/\aL H/\∀ v I,aH H I->kc (ke n ds r.bZ s.bZ) v->Q (.int v) I
theorem abt:cu P base T 1 t.zW t.A7 oJ TG:=by
 refine bV.forget (sp:=aed) ?_ fun vs H Q E h=>?_
 .exists T.H6.ok Yi,9
  obtain ⟨a,d,rfl,hw,hW,q⟩:=h;have b7:=ml aj;refine ⟨_,(a3 (cc (vn b7 (Uj (vK dy aJ (vK dy aJ (vK dy aJ WG))) rfl rfl (by simp) (by decide)) (bl eD (U 0) aJ) (fun _ _=>rfl)))),?_⟩;nofun;simp only [xd];nofun;intro p aq;have s2:aH H (upd (upd H p (.di [])) p (.di (mn [] [(cx (ah "car"),V.int 1),(cx (ah "foot"),V.int 0),(cx (ah "tram"),V.int 2)]))):=(a' aq).gk aq;refine ⟨aS,[(cx (ah "car"),V.int 1),(cx (ah "foot"),V.int 0),(cx (ah "tram"),V.int 2)],rfl,by show 3 <= 15;decide,_,cS.of (s2 _ _ hw),_,RM d,.int (jH d),?_,q _ s2⟩;have:=iE.k (k:=cx (dx d.k)) (aS (H:=upd H p (.di [])) (a:=p) (o:=.di (mn [] [(cx (ah "car"),V.int 1),(cx (ah "foot"),V.int 0),(cx (ah "tram"),V.int 2)])));rw [aas hW] at this;exact this
 .obtain ⟨a,d,rfl,hw,hW,bC,q⟩:=h;exact ⟨bC,a,d,rfl,hw,hW,fun I bu=>⟨bu,q⟩⟩
theorem ahO:cu P base T 1 t.BW t.CD oJ T9:=by
 refine bV.forget (sp:=ag5) ?_ fun vs H Q E h=>?_
 .exists T.JP.ok abb,9
  obtain ⟨a,d,rfl,hw,hW,q⟩:=h;have b7:=ml aj;refine ⟨_,(a3 (cc (vn b7 (Uj (vK dy aJ (vK dy (bl eD (U 0) aJ) (vK dy aJ WG))) rfl rfl (by simp) (by decide)) (bl eD (U 0) aJ) (fun _ _=>rfl)))),?_⟩;nofun;simp only [xd];nofun;intro p aq;have s0:=a' (o:=.di []) aq;have s2:aH H (upd (upd H p (.di [])) p (.di (mn [] [(cx (ah "car"),V.int 2),(cx (ah "foot"),V.int d.off),(cx (ah "tram"),V.int 1)]))):=s0.gk aq;refine ⟨_,cS.of (s0 _ _ hw),_,Vr d,aS,[(cx (ah "car"),V.int 2),(cx (ah "foot"),V.int d.off),(cx (ah "tram"),V.int 1)],rfl,by show 3 <= 15;decide,_,cS.of (s2 _ _ hw),_,RM d,.int (jK d),?_,q _ s2⟩;have:=iE.k (k:=cx (dx d.k)) (aS (H:=upd H p (.di [])) (a:=p) (o:=.di (mn [] [(cx (ah "car"),V.int 2),(cx (ah "foot"),V.int d.off),(cx (ah "tram"),V.int 1)])));rw [EQ hW] at this;exact this
 .obtain ⟨a,d,rfl,hw,hW,bC,q⟩:=h;exact ⟨bC,a,d,rfl,hw,hW,fun I bu=>⟨bu,q⟩⟩
theorem Jh:cu P base T 1 t.zC t.Ac vW (WW P w t):=by
 refine bV.forget (sp:=aee P w t) ?_ fun vs H Q E h=>?_
 .exists T.y6.ok amS,9
  obtain ⟨a,c,n,ds,rows,i,j,r,s',rfl,⟨ax,le,mo,c1,dE,aW,ch,ms,aA,ao,_,_,_,_,_,_,akw,lU⟩,ag,aN,lS,q⟩:=h;have b7:=ml aj;obtain ⟨v,aG,r5⟩:=lU.2 i j r s' ag aN lS (.inl (bY.mp ag).1);refine ⟨_,(a3 (cc (ae5 b7 (c4 (U 0) rfl) (qi (db (U 1) (db (U 2) av))) (fun _ _=>rfl)))),?_⟩;nofun;exact ⟨_,Qf T ao,by decide,fun p aq=>⟨ch,rfl,aA,Kb akw (a' aq),stK i j,aS,_,aG,q v _ (a' aq) r5⟩⟩
 .obtain ⟨a,c,n,ds,rows,i,j,r,s',rfl,eV,ag,aN,lS,bC,q⟩:=h;exact ⟨bC,a,c,n,ds,rows,i,j,r,s',rfl,eV,ag,aN,lS,fun v I bu aG=>⟨bu,q v aG⟩⟩
unseal L2.gg L2.bz L2.f9 L2.gC L2.h7 L2.fW
section
open PySem.Spec PyProof.Rows
variable {X:a0}
noncomputable def anD:V->List V->au->cJ->Prop:=fun x vs H Q=>∃ z,x=.str z/\vs=[]/\Wm (v3 z).length=false/\Q (.str (v3 z)) H
theorem Wg:sd X "str.upper" anD:=by
 intro aa s σ H x xs v us Q J a8 cw h;obtain ⟨z,rfl,rfl,aF,q⟩:=h;obtain ⟨t,rfl⟩:=a8;cases cw;exact PySem.SC.upper aF ⟨.str _,H,J.tok _,⟨_,rfl⟩,q⟩
end
noncomputable def mK (x:Str):Str:=⟨(x.cps.toList.map fun c=>c - 32).toArray⟩
theorem Uc:∀ l:List Nat,(∀ c ∈ l,97 <= c/\c <= 122)->v3 ⟨l.toArray⟩=⟨(l.map fun c=>c - 32).toArray⟩
 | [],_=>by ac_nf
 | c :: l,h=>by
  have ar:=h c (.head _);have e:(⟨(c :: l).toArray⟩:Str)=⟨#[c]⟩ ++ ⟨l.toArray⟩:=acV (by rw [nI];simp);rw [e,apx,an6 (by omega),if_pos ar,Uc l fun x af=>h x (.tail _ af)];exact acV (by rw [nI];simp)
theorem ah5 {x:Str} (h:made x mq 8=true):v3 x=mK x/\Wm (v3 x).length=false:=by
 obtain ⟨⟨ai,a5⟩,ab⟩:=p0 h;have e:v3 x=mK x:=by
  have:=Uc x.cps.toList ab;rw [Array.toArray_toList] at this;rw [show (⟨x.cps⟩:Str)=x from rfl] at this;rw [this];rfl
 refine ⟨e,?_⟩;rw [e];have aD:(mK x).length=x.length:=by
  unfold mK;show ((x.cps.toList.map fun c=>c - 32).toArray).size=x.cps.size;simp
 unfold Wm;rw [aD];exact decide_eq_false (Nat.not_lt.mpr (cq a5 (by decide)))
seal L2.gg L2.bz L2.f9 L2.gC L2.h7 L2.fW
def uU (x:Str):Prop:=x.length <= 1000/\∀ c ∈ x.cps.toList,c < 16 ^ 8
def vf (ds:List bx) (x:Str):Prop:=∀ d ∈ ds,d.name ≠ x
def L6 (t:b6) (x:Str) (H:au) (E:d0):Prop:=∀ ax I,aH H I->(aL H->aL I)->I ax=some (.ext (lr ax [(ah "name",.str x)]))->E (.ref t.mu) (some ax) I
def Q9 (t:b6):bO:=fun vs H Q _=>∃ x n,vs=[.ref x,.str n]/\uU n/\H x=some (.ext (fH x t.mu none)) /\
 ∀ ax,H ax=none->ax ≠ x->Q .cg (upd (upd H x (.ext (fH x t.mu (some ax)))) ax (.ext (lr ax [(ah "name",.str n)])))
def UN (t:b6):bO:=fun vs H Q E=>∃ c n ds x,vs=[.ref c,.str x]/\fk t H c n ds/\uU x/\((∃ i:Nat,∃ d,ds[i]? = some d/\x=d.name/\Q (.int (i:Nat)) H)\/(vf ds x/\L6 t x H E))
def Np (t:b6):bO:=fun vs H Q E=>∃ c n ds x,vs=[.ref c,.str x]/\fk t H c n ds/\uU x/\((∃ i:Nat,∃ d,ds[i]? = some d/\x=d.name/\∀ a,eX t H a d->Q (.ref a) H)\/(vf ds x/\L6 t x H E))
theorem acp:cu P base T 1 t.wR t.Bu jk (Q9 t):=by
 exists T.OJ.ok adl,9
 obtain ⟨x,n,rfl,aV,af,q⟩:=h;refine ⟨_,(aQ (dN (ada rfl T.acd T.ZB (db (U 0) (db (agq (aaJ (ai2 (U 1) afG)) (by rw [sizeLine_eq];decide)) av))))
   (a3 (ahX (U 0) (U 1) rfl))),?_⟩
 nofun;refine ⟨aV.1,aV.2,fun y=>⟨_,_,af,T.Dq,?_⟩⟩;exact ⟨_,af,T.Dq,T.UQ,q⟩
theorem abd (T:Txt w K mg t):bV P w K mg base (l5 P w) 3 t.uz t.y9 jk (UN t):=by
 have amN:bV P w K mg base c9 1 t.wR t.Bu jk (Q9 t):=acp T;exists T.Lq.hT Qy,9
 obtain ⟨c,n,ds,x,rfl,⟨⟨h1,g9⟩,ax,wl,aB,ao,aC,bJ⟩,sH,aM⟩:=h;have b7:=ml aj;refine ⟨_,(aQ (dW (EU (Gr b7 (U 1) (c4 (U 0) rfl))) (a3 (alw (sK T.TO amN aj rfl T.PE T.abM (db (U 1) av)) ajd)) ec)
   (a3 (cc (vn b7 (c4 (U 0) rfl) (U 1) (fun _ _=>rfl))))),?_⟩
 rcases aM with ⟨i,d,hd,rfl,q⟩ | ⟨aw,q⟩
 .have aG:dn (kP ds ds.length) (cx d.name)=some (.int i):=by
   rw [<- me hd];exact SY h1 (bY.mp hd).1 (bP _)
  have bg:iE H aB (.str d.name) (some (.int i)):=by rw [<- aG];exact iE.k (k:=cx d.name) bJ
  nofun;refine cP false (fun Q aX=>?_) (fun ar=>nomatch ar) (fun _=>?_)
  .nofun;refine ⟨_,uJ T ao,_,rfl,_,bg,?_⟩;exact aX
  .nofun;exact ⟨_,uJ T ao,_,rfl,_,bg,q⟩
 .have aG:dn (kP ds ds.length) (cx x)=none:=afm aw (bP _);have bg:iE H aB (.str x) none:=by rw [<- aG];exact iE.k (k:=cx x) bJ
  nofun;refine cP true (fun Q aX=>?_) (fun _=>?_) (fun ar=>nomatch ar)
  .nofun;refine ⟨_,uJ T ao,_,rfl,_,bg,?_⟩;exact aX
  .nofun;refine ⟨cq (show 1 <= 1000 by decide) (by decide),fun a aK=>⟨a,x,rfl,sH,aS,fun d hd cB=>?_⟩⟩;have qI:H d=none:=by rw [aZ cB] at hd;exact hd
   refine ⟨rfl,t.mu,some d,by rw [aZ (dF cB),aS],T.Dq,q d _ (fun b u e=>?_) (fun bC=>(((bC.upd).upd).upd).upd) (by rw [aZ cB,aS])⟩;rw [aZ (Db e aK),aZ (Db e qI),aZ (Db e aK),aZ (Db e aK)];exact e
theorem aa9 (T:Txt w K mg t):bV P w K mg base (l5 P w) 4 t.q3 t.si jk (Np t):=by
 have aeB:bV P w K mg base (l5 P w) 3 t.uz t.y9 jk (UN t):=abd T;exists T.G9.hT Pg,9
 obtain ⟨c,n,ds,x,rfl,C,sH,aM⟩:=h;obtain ⟨⟨h1,g9⟩,ax,wl,aB,ao,⟨as,dI,dB,al⟩,bJ⟩:=id C;refine ⟨_,(a3 (cc (bl b0 (c4 (U 0) rfl) (gi (U 0) T.h8 T.Oa aeB aj T.U6 .nil V9 (db (U 1) av))))),?_⟩;nofun;refine ⟨_,Fm T ao,_,_,ao,lg _ _ _ (by ac_nf),⟨c,n,ds,x,rfl,C,sH,?_⟩⟩;rcases aM with ⟨i,d,hd,ex,q⟩ | ⟨aw,q⟩
 .refine .inl ⟨i,d,hd,ex,?_⟩;have ag:i < as.length:=by rw [dB];exact (bY.mp hd).1
  have aK:as[i]? = some as[i]:=a_ ag;nofun;refine ⟨_,ak.of dI,_,bA (show (as.map V.ref)[i]? = some (V.ref as[i]) by rw [cV,aK];rfl),?_⟩;exact q as[i] (al i _ d aK hd)
 .exact .inr ⟨aw,q⟩
unseal L2.gg L2.bz L2.f9 L2.gC L2.h7 L2.fW
section
open PySem.Spec PyProof.Rows
section
variable {X:a0} {A:Around} {aa:List (Addr × Obj)} {σ:L2.St} {H:au} {l q J S:Addr} {n:Nat} {P:Nat->Value->Prop} {R:Result->Shared->Prop}
theorem alI (fl:Nat->Int) (bU:A.handled=none) (aD:∀ s,L2.Inv X aa σ H s->∃ vs:List Value,vs.length=n/\(∀ i v,vs[i]? = some v->P i v)/\s.heap.IsList l vs.toArray) (yi:l ≠ J) (sG:S ≠ J) (nT:pz X aa H S) (n_:pz X aa H J)
  (turn:∀ (i:Nat) (v:Value),i < n->P i v->∀ (aa:List (Addr × Obj)) (s:Shared),L2.Inv X aa σ H s ->
   wpAny (model X.prog X.w) A.in1 (call (.ref q) [v]) (f5 X aa σ fun x I=>x=.int (fl i)/\I=H) (fun _ _=>False) s)
  (fZ:∀ i v s',i < n->P i v->(∀ j,j < n->fl j <= fl i/\(j < i->fl j < fl i))->L2.Inv X aa σ H s'->R (.ok (.ret v)) s') :
  ∀ (r j i:Nat) (s:Shared) (vu:Value) (b8:Tok) (c:Nat),n - (j + 1)=r->j + 1 <= n->L2.Inv X aa σ H s ->
   s.heap.get? S=some (seqObj "list" #[vu,.int (fl i) b8] c)->s.heap.IsListIter J l (j + 1)->P i vu->i <= j->(∀ je,je <= j->fl je <= fl i/\(je < i->fl je < fl i)) ->
   codeAny (model X.prog X.w) A (.builtin "max.loop" ⟨[.ref J,.ref q,.ref S],[]⟩) R s:=by
 have x4:(toString "max" ++ toString ".loop" : String) = "max.loop" := by decide
 intro r
 induction r with
 | zero=>
  intro j i s vu b8 c aj aN bF ea hit ME lS u5;obtain ⟨vs,z7,Bc,xp⟩:=aD s bF;have W:=L8 (prog:=X.prog) (w:=X.w) (A:=A.in1) bU J l yi vs.toArray;have hsz:vs.toArray.size=vs.length:=ft ..;have f_:j + 1=vs.length:=by omega
  refine codeAny_builtin O6 ?_;rw [Px uM _];show wpAny _ A.in1 (seqItems? (.ref S) >>= _) _ _ _;refine wpAny_bind (wpAny_seqItems ea rfl ?_);show wpAny _ A.in1 (tryCatch (pyNext (.ref J)) _ >>= _) _ _ _;refine wpAny_bind (wpAny_tryCatch (W.done _ _ _ ⟨by rw [hsz,<- f_];exact hit,xp⟩ fun h' t6 ha=>?_));have zc:L2.Inv X aa σ H { s with heap:=h',toks:=t6 }:=n_.turn bF fun b o n e=>ha b o (by simpa using n) e
  have zx:=ha S _ (by simpa using sG) ea;show wpAny _ A.in1 (updateSeq S (fun _=>#[]) >>= _) _ _ _;refine wpAny_bind ?_;refine wpAny_updateSeq zx rfl (wpAny_bind (wpAny_letGo (wpAny_pure ?_)));exact fZ i vu _ (by omega) ME (fun je kD=>u5 je (by omega)) (nT.turn zc fun b o n e=>(lL _ _ (dF n)).trans e)
 | succ r c2=>
  intro j i s vu b8 c aj aN bF ea hit ME lS u5;obtain ⟨vs,z7,Bc,xp⟩:=aD s bF;have W:=L8 (prog:=X.prog) (w:=X.w) (A:=A.in1) bU J l yi vs.toArray;have hsz:vs.toArray.size=vs.length:=ft ..;have cQ:j + 1 < n:=by omega
  refine codeAny_builtin O6 ?_;rw [Px uM _];show wpAny _ A.in1 (seqItems? (.ref S) >>= _) _ _ _;refine wpAny_bind (wpAny_seqItems ea rfl ?_);show wpAny _ A.in1 (tryCatch (pyNext (.ref J)) _ >>= _) _ _ _;refine wpAny_bind (wpAny_tryCatch (W.item (j + 1) _ _ _ (by rw [hsz,z7];exact cQ) ⟨hit,xp⟩ fun v h' t6 cN G1 ha=>?_));have aG:P (j + 1) v:=Bc _ _ (by simpa using cN);obtain ⟨BB,JY,tm,vo⟩:=id G1.1;have zc:L2.Inv X aa σ H { s with heap:=h',toks:=t6 }:=n_.turn bF fun b o n e=>ha b o (by simpa using n) e
  have zx:=ha S _ (by simpa using sG) ea;have IQ:=NU zc nT n_ zx JY (fun _ z=>by cases z) (fun _ z=>by rw [vo] at z;cases z);show wpAny _ A.in1 (tryCatch (holding [v] (call (.ref q) [v])) _ >>= _) _ _ _;refine wpAny_bind (wpAny_tryCatch (wpAny_holding (wpAny_mono (turn (j + 1) v cQ aG _ _ IQ) (fun x s2 he=>?_) fun _ _ wA=>wA.elim)));obtain ⟨ie,I,Jp,a8,rfl,rfl⟩:=he;obtain ⟨gw,rfl⟩:=a8;obtain ⟨zP,vT,DW⟩:=Wz Jp;have abU:s2.heap.IsListIter J l (j + 1 + 1):=⟨BB,DW,tm,vo⟩;show wpAny _ A.in1 (tryCatch (holding [v,.int (fl (j + 1)) gw] (richCompare .Gt (.int (fl (j + 1)) gw) (.int (fl i) b8) >>= _)) _ >>= _) _ _ _;refine wpAny_bind (wpAny_tryCatch (wpAny_holding (wpAny_bind (CmpOf.ints_gt (prog:=X.prog) (w:=X.w) (A:=A.in1) (P:=fun i v=>∃ t,v=.int (fl i) t) fl (fun i v h=>h) (j + 1) i _ _ _ _ _ ⟨gw,rfl⟩ ⟨b8,rfl⟩ ?_))));refine wpAny_bind (wpAny_holding (wpAny_truthy_bool ?_));refine wpAny_bind (wpAny_letGo (wpAny_pure ?_));by_cases fD:fl (j + 1) > fl i
  .obtain ⟨bB,oG⟩:∃ bB,(s2.heap.update S (xt fun _=>#[v,.int (fl (j + 1)) gw])).get? S=some (seqObj "list" #[v,.int (fl (j + 1)) gw] bB):=⟨_,get?_update_seq vT fun _=>#[v,.int (fl (j + 1)) gw]⟩;simp only [fD,decide_true,if_true];refine wpAny_bind ?_;refine wpAny_updateSeq vT rfl (wpAny_bind (wpAny_letGo ?_));rw [x4];have Jr:=nT.turn (t':=s2.toks) zP (h':=s2.heap.update S (xt fun _=>#[v,.int (fl (j + 1)) gw])) fun b o n e=>(lL _ _ (dF n)).trans e
   refine wpAny_pure ⟨plainId_quiet uM _,c2 (j + 1) (j + 1) _ v gw bB (by omega) cQ Jr oG ⟨BB,(lL _ _ sG).trans DW,tm,vo⟩ aG (bP _) fun je kD=>?_⟩;by_cases e:je=j + 1
   .subst e;exact ⟨by omega,fun _=>by omega⟩
   .have DY:=u5 je (by omega);have jt:=DY.1;exact ⟨by omega,fun _=>by omega⟩
  .simp only [fD,decide_false,akL,if_false];refine wpAny_bind (wpAny_letGo ?_);rw [x4];refine wpAny_pure ⟨plainId_quiet uM _,c2 (j + 1) i _ vu b8 c (by omega) cQ zP vT abU ME (by omega) fun je kD=>?_⟩;by_cases e:je=j + 1
   .subst e;exact ⟨by omega,fun _=>by omega⟩
   .exact u5 je (by omega)
theorem Xz (fl:Nat->Int) (bU:A.handled=none) (bF:L2.Inv X aa σ H s) (aD:∀ aa s,L2.Inv X aa σ H s->∃ vs:List Value,vs.length=n/\(∀ i v,vs[i]? = some v->P i v)/\s.heap.IsList l vs.toArray) (cB:0 < n)
  (turn:∀ (i:Nat) (v:Value),i < n->P i v->∀ (aa:List (Addr × Obj)) (s:Shared),L2.Inv X aa σ H s ->
   wpAny (model X.prog X.w) A.in1 (call (.ref q) [v]) (f5 X aa σ fun x I=>x=.int (fl i)/\I=H) (fun _ _=>False) s)
  (aX:∀ i v s',i < n->P i v->(∀ j,j < n->fl j <= fl i/\(j < i->fl j < fl i))->L2.Inv X aa σ H s'->Q v s') :
  wpAny (model X.prog X.w) A (call (.builtin "max") [.ref l] [(ah "key",.ref q)]) Q E s:=by
 have x4:(toString "max" ++ toString ".loop" : String) = "max.loop" := by decide
 obtain ⟨ado,_,_,uj⟩:=aD _ s bF;obtain ⟨ol,XS,_⟩:=id uj;have CO:l < s.heap.objs.size:=d1 XS;refine kmk_tree PySem.F.kind_max PySem.F.plain_max PySem.F.entry_max (kmk_max_key _ _) ?_;show wpAny _ A.in1 (anh "max" ["key","default"] 0 ⟨[],[(ah "key",.ref q)]⟩ >>= _) _ _ s;refine wpAny_bind (wpAny_of_eq (show anh "max" ["key","default"] 0 ⟨[],[(ah "key",.ref q)]⟩=pure [some (dU q),none] from rfl) ?_);refine wpAny_bind (wpAny_pure ?_);refine wpAny_bind (wpAny_pyIter_list uj ?_);refine wpAny_bind (wpAny_newList ?_ (fg _));rw [x4];have ea:(s.heap.push { cls:=.type "list_iterator",data:=.fields #[.ref l,.int 0 0] }).objs.size=s.heap.objs.size + 1:=size_push' ..;have yi:l ≠ s.heap.objs.size:=gd CO;have sG:(s.heap.push { cls:=.type "list_iterator",data:=.fields #[.ref l,.int 0 0] }).objs.size ≠ s.heap.objs.size:=by rw [ea];exact yq (wJ _)
 refine wpAny_pure ⟨plainId_quiet uM _,?_⟩;have n_:pz X aa H s.heap.objs.size:=.of bF (bP _);have nT:pz X aa H (s.heap.push { cls:=.type "list_iterator",data:=.fields #[.ref l,.int 0 0] }).objs.size:=.of bF (by rw [ea];exact w5 _);have aaT:((s.heap.push { cls:=.type "list_iterator",data:=.fields #[.ref l,.int 0 0] }).push (seqObj "list" #[] 0)).get? s.heap.objs.size=some { cls:=.type "list_iterator",data:=.fields #[.ref l,.int 0 0] }:=
  ed _ (hS _ rfl)
 have O5:((s.heap.push { cls:=.type "list_iterator",data:=.fields #[.ref l,.int 0 0] }).push (seqObj "list" #[] 0)).get? (s.heap.push { cls:=.type "list_iterator",data:=.fields #[.ref l,.int 0 0] }).objs.size=some (seqObj "list" #[] 0):=hS _ rfl;have Se:L2.Inv X aa σ H { s with heap:=(s.heap.push { cls:=.type "list_iterator",data:=.fields #[.ref l,.int 0 0] }).push (seqObj "list" #[] 0) }:=bF.kept (t':=s.toks) fun b o e=>ed _ (ed _ e)
 obtain ⟨vs,z7,Bc,xp⟩:=aD _ _ Se;have W:=L8 (prog:=X.prog) (w:=X.w) (A:=A.in1) bU s.heap.objs.size l yi vs.toArray;have hsz:vs.toArray.size=vs.length:=ft ..;refine codeAny_builtin O6 ?_;rw [Px uM _];show wpAny _ A.in1 (seqItems? (.ref _) >>= _) _ _ _;refine wpAny_bind (wpAny_seqItems O5 rfl ?_);show wpAny _ A.in1 (tryCatch (pyNext (.ref s.heap.objs.size)) _ >>= _) _ _ _;refine wpAny_bind (wpAny_tryCatch (W.item 0 _ _ _ (by rw [hsz,z7];exact cB) ⟨⟨_,aaT,rfl,rfl⟩,xp⟩ fun v h' t6 cN G1 ha=>?_));have aG:P 0 v:=Bc _ _ (by simpa using cN);obtain ⟨BB,JY,tm,vo⟩:=id G1.1;have zc:=n_.turn (h':=h') (t':=t6) Se fun b o n e=>ha b o (by simpa using n) e
 have zx:=ha _ _ (by simpa using sG) O5;have IQ:=NU zc nT n_ zx JY (fun _ z=>by cases z) (fun _ z=>by rw [vo] at z;cases z);show wpAny _ A.in1 (tryCatch (holding [v] (call (.ref q) [v])) _ >>= _) _ _ _;refine wpAny_bind (wpAny_tryCatch (wpAny_holding (wpAny_mono (turn 0 v cB aG _ _ IQ) (fun x s2 he=>?_) fun _ _ wA=>wA.elim)));obtain ⟨ie,I,Jp,a8,rfl,rfl⟩:=he;obtain ⟨gw,rfl⟩:=a8;obtain ⟨zP,vT,DW⟩:=Wz Jp;obtain ⟨bB,oG⟩:∃ bB,(s2.heap.update (s.heap.push { cls:=.type "list_iterator",data:=.fields #[.ref l,.int 0 0] }).objs.size (xt fun _=>#[v,.int (fl 0) gw])).get? (s.heap.push { cls:=.type "list_iterator",data:=.fields #[.ref l,.int 0 0] }).objs.size=some (seqObj "list" #[v,.int (fl 0) gw] bB):=⟨_,get?_update_seq vT fun _=>#[v,.int (fl 0) gw]⟩;show wpAny _ A.in1 (updateSeq (s.heap.push { cls:=.type "list_iterator",data:=.fields #[.ref l,.int 0 0] }).objs.size (fun _=>#[v,.int (fl 0) gw]) >>= _) _ _ _;refine wpAny_bind ?_;refine wpAny_updateSeq vT rfl ?_;rw [x4];have Jr:=nT.turn (t':=s2.toks) zP (h':=s2.heap.update (s.heap.push { cls:=.type "list_iterator",data:=.fields #[.ref l,.int 0 0] }).objs.size (xt fun _=>#[v,.int (fl 0) gw])) fun b o n e=>(lL _ _ (dF n)).trans e
 refine wpAny_pure ⟨plainId_quiet uM _,alI fl bU (fun s bF=>aD _ s bF) yi sG nT n_ turn aX _ 0 0 _ v gw bB rfl cB Jr oG ⟨BB,(lL _ _ sG).trans DW,tm,vo⟩ aG (bP _) fun je kD=>?_⟩;have e:je=0:=by omega
 subst e;exact ⟨by omega,fun h=>absurd h (nj _)⟩
end
noncomputable def OZ (K:bc) (Pt:Addr) (yH:Pos) (q:Str) (i1 i2:Nat) (t:TE) (a6:fc):TE:=fun σ H Q=>a6 σ H fun vs H1=>∃ l xs v1 v2,∃ g:Nat->Int,vs=[.ref l]/\ak K H1 l xs/\xs ≠ [] /\
 σ[i1]? = some (some v1)/\σ[i2]? = some (some v2)/\Tab H1 Pt yH q/\∀ az,xu Pt H1 az->(aL H1->aL az)->Tab az Pt yH q ->
  (∀ (i:Nat) x,xs[i]? = some x->t [some x,some v1,some v2] az fun r I=>r=.int (g i)/\I=az)/\∀ (i:Nat) m,xs[i]? = some m->(∀ (j:Nat) n,xs[j]? = some n->g j <= g i)->Q m az
theorem Zv {k:Nat} {t:TE} {p bj pos yH:Pos}
  (ar:X.calm=true) (bg:iR X "max") (hm:X.mg "max"=none) (aK:gg X [a] a6) (T:QI X c Pt) (aj:en (k + 1) X.A) (S:DH pr y z scope) (ab:X.env.cells.lookup y=some a9) (ai:X.env.cells.lookup z=some bB) (Ml:defaultsOf params X.env=([],[])) (oI:closureFor scope X.env=pure [(y,a9),(z,bB)])
  (gQ:X.env.scope.names.lookup y=some .cell) (fP:X.env.scope.names.lookup z=some .cell) (YG:X.N[i1]? = some y) (ajC:X.N[i2]? = some z)
  (ae:∀ c' pm kT u,bindArgs (alD "<lambda>" (X.env.qual ++ "<lambda>") params body scope [(y,a9),(z,bB)] pm (.ref c') kT) ⟨[u],[]⟩=pure [(pr,u)])
  (nN:∀ f c' s H,∃ t',bz (sg X X.A.in1 [pr,y,z] (X.env.qual ++ "<lambda>") scope f c' [(y,a9),(z,bB)] s H) body t'/\t'=t)
  (he:∀ pos,backTo pos (starEach [a] X.env)=(false,eval a X.env) :: backTo pos (starEach [] X.env):=by intro _;rfl) (cO:∀ pos,(backTo pos (starEach [a] X.env)).any (·.1)=false:=by intro _;rfl) :
  bz X (.Call (.Name "max" p) [a] [⟨some "key",.Lambda params body scope yH,bj⟩] pos) (OZ X.K Pt yH (X.env.qual ++ "<lambda>") i1 i2 t a6):=by
 intro aa s σ H Q J h;refine wpAny_Call_Name_kw (rT J bg hm (show bootBuiltins "max"=some (.builtin "max") by ac_nf) ?_);refine callWith_kw (id := "max") (bL (aK pos aa s σ H _ J h) fun us s1 ⟨vs,H1,aP,cG,bT⟩=>?_) (he:=he pos) (hplain:=cO pos);obtain ⟨l,xs,v1,v2,g,rfl,aM,cB,ao,aC,b8,q⟩:=bT;refine kws_cons (PP aP T b8 oI Ml fun f c' az s2 bK bu bC X8 p4 dR hc=>kws_nil ?_);obtain ⟨lI,oy⟩:=q az bu bC X8;have YE:=aM.p bu b8;have cell:∀ {aa:List (Addr × Obj)} {s:Shared} (bF:L2.Inv X aa σ az s) {i:Nat} {x:Str} {v:V} {cl:Addr},X.N[i]? = some x->σ[i]? = some (some v)->X.env.scope.names.lookup x=some .cell->X.env.cells.lookup x=some cl->∃ u,b1 v u/\s.heap.IsCell cl (some u):=by
  intro aa s bF i x v cl bb ev af sO;obtain ⟨m,aV,tU⟩:=bF.loc;obtain ⟨u,ej,lo⟩:=tU i x v bb ev (.inr (.inl af));have aE:X.env.kindOf x=some .cell:=af;rcases lo with ⟨w,_⟩ | ⟨_,apo,dI,dB⟩
  .rw [aE] at w;cases w
  .rw [sO] at dI;cases dI;exact ⟨u,ej,dB⟩
 have Ir:a9 ≠ bB:=fun w=>S.ne (J.ok.inj _ _ _ ab (by rw [w];exact ai))
 cases cG with
 | cons r lp=>
  cases lp;cases r;have aab:0 < xs.length:=Oy.mpr cB;refine Xz (n:=xs.length) (P:=fun i v=>∃ x,xs[i]? = some x/\b1 x v) g (aP.ok.hd ar) bK (fun aa s bF=>?_) aab (fun i v ag aG aa s bF=>?_) fun i v s' ag aG u5 bF=>?_
  .obtain ⟨a4,cw,pl,aF⟩:=bF.list YE;have aD:=cw.length;refine ⟨a4,aD.symm,fun i v aG=>?_,pl.isList⟩;have ag:i < xs.length:=by have:=(bY.mp aG).1;omega
   have af:xs[i]? = some xs[i]:=a_ ag;obtain ⟨w,hw,h_⟩:=cw.get af;rw [aG] at hw;cases hw;exact ⟨_,af,h_⟩
  .obtain ⟨x,af,a8⟩:=aG;obtain ⟨t',DY,rfl⟩:=nN f c' s az;exact adv (a:=x) S aj.in1 aP.ok.frames bF Ir (bF.jg _ _ ab) (bF.jg _ _ ai) (cell bF YG ao gQ ab) (cell bF ajC aC fP ai) p4 dR (fun pm kT=>ae c' pm kT v) a8 DY (lI i x af)
  .obtain ⟨x,af,a8⟩:=aG;exact ⟨x,az,bF,a8,oy i x af fun j n aN=>(u5 j (bY.mp aN).1).1⟩
end
seal L2.gg L2.bz L2.f9 L2.gC L2.h7 L2.fW
structure dD where
 m:Nat
 h:Nat
 gb:Nat->Bool
noncomputable def dD.own (S:dD) (x:Nat):Bool:=S.gb x == S.gb S.h
noncomputable def dD.cW (S:dD) (x:Nat):Int:=((x:Int) - (S.h:Int) - 1) % (S.m:Int)
structure dD.Ok (S:dD):Prop where
 hm:S.h < S.m
 n7:S.m <= 6
noncomputable def hT (S:dD):Nat->Int->List Nat->Prop
 | p,_,[]=>p=S.h
 | p,sp,x :: r=>p ≠ S.h/\x < S.m/\((S.own x=true/\sp < S.cW x/\hT S x (S.cW x) r)\/(S.own p=true/\S.own x=false/\hT S x sp r))
noncomputable def h6 (S:dD) (s:Nat):Nat:=(S.h + 1 + s) % S.m
noncomputable def Cl (S:dD):List Nat:=((cY S.m).map (h6 S)).filter S.own
noncomputable def AC (S:dD):List Nat:=(cY S.m).filter fun x=>!S.own x
section
variable {S:dD}
theorem LV:S.own S.h=true:=by unfold dD.own;simp
theorem P6 (k:S.Ok) (s:Nat):h6 S s < S.m:=Nat.mod_lt _ (by have:=k.hm;omega)
theorem E2 (k:S.Ok) (aw:s < S.m):S.cW (h6 S s)=(s:Int):=by
 have ab:=k.hm;unfold dD.cW h6;by_cases c:S.h + 1 + s < S.m
 .rw [um c,show (((S.h + 1 + s:Nat):Int) - (S.h:Int) - 1)=(s:Int) by omega,qU (by omega) (by omega)]
 .rw [akv (by omega),um (by omega)];rw [show (((S.h + 1 + s - S.m:Nat):Int) - (S.h:Int) - 1)=(s:Int) + (S.m:Int) * (-1) by omega,Je,qU (by omega) (by omega)]
theorem LQ (k:S.Ok) {x:Nat} (af:x < S.m):∃ s,s < S.m/\h6 S s=x/\S.cW x=(s:Int):=by
 have ab:=k.hm;have dg:=vE ((x:Int) - (S.h:Int) - 1) (show (S.m:Int) ≠ 0 by omega);have df:=uN ((x:Int) - (S.h:Int) - 1) (show (0:Int) < S.m by omega);by_cases c:S.h < x
 .refine ⟨x - S.h - 1,by omega,?_,?_⟩
  .unfold h6;rw [show S.h + 1 + (x - S.h - 1)=x by omega,um af]
  .unfold dD.cW;rw [qU (by omega) (by omega)];omega
 .refine ⟨x + S.m - S.h - 1,by omega,?_,?_⟩
  .unfold h6;rw [show S.h + 1 + (x + S.m - S.h - 1)=x + S.m by omega,akb,um af]
  .unfold dD.cW;rw [show (x:Int) - (S.h:Int) - 1=((x + S.m - S.h - 1:Nat):Int) + (S.m:Int) * (-1) by omega,Je,qU (by omega) (by omega)]
theorem kk (k:S.Ok) (x:Nat):0 <= S.cW x/\S.cW x < S.m:=⟨vE _ (by have:=k.hm;omega),uN _ (by have:=k.hm;omega)⟩
theorem alR (k:S.Ok):S.cW S.h=(S.m:Int) - 1:=by
 have ab:=k.hm;unfold dD.cW;rw [show (S.h:Int) - (S.h:Int) - 1=((S.m:Int) - 1) + (S.m:Int) * (-1) by omega,Je,qU (by omega) (by omega)]
theorem adB (k:S.Ok) {x y:Nat} (af:x < S.m) (aU:y < S.m) (e:S.cW x=S.cW y):x=y:=by
 obtain ⟨s,_,ao,aC⟩:=LQ k af;obtain ⟨s',_,bJ,e6⟩:=LQ k aU;rw [aC,e6] at e;rw [<- ao,<- bJ,show s=s' by omega]
theorem qo (k:S.Ok) {x:Nat}:x ∈ Cl S↔x < S.m/\S.own x=true:=by
 unfold Cl;rw [mG,b2];constructor
 .rintro ⟨⟨s,aw,rfl⟩,h⟩;exact ⟨P6 k s,h⟩
 .rintro ⟨ab,ai⟩;obtain ⟨s,aw,e,_⟩:=LQ k ab;exact ⟨⟨s,j2.mpr aw,e⟩,ai⟩
theorem KB {x:Nat}:x ∈ AC S↔x < S.m/\S.own x=false:=by
 unfold AC;rw [mG,j2];simp
theorem SL (k:S.Ok):(Cl S).Pairwise fun x y=>S.cW x < S.cW y:=by
 unfold Cl;refine apQ _ ?_;rw [Zj];refine abv (R:=fun a b=>a < b) (fun {a b} aK ae h=>?_) List.pairwise_lt_range;rw [E2 k (j2.mp aK),E2 k (j2.mp ae)];omega
theorem XA (k:S.Ok) {i j x y:Nat} (ag:(Cl S)[i]? = some x) (aN:(Cl S)[j]? = some y):i < j↔S.cW x < S.cW y:=by
 have aq:=ahS.mp (SL k);obtain ⟨li,qH⟩:=bY.mp ag;obtain ⟨vm,rg⟩:=bY.mp aN;constructor
 .intro h;have:=aq i j li vm h;rw [qH,rg] at this;exact this
 .intro h;rcases abV i j with c | c | c
  .exact c
  .subst c;rw [ag] at aN;cases aN;omega
  .have:=aq j i vm li c;rw [qH,rg] at this;omega
theorem Na (S:dD):(Cl S).length <= S.m:=by
 unfold Cl;exact cq (u3 _ _) (by simp)
theorem NW (S:dD):(AC S).length <= S.m:=by
 unfold AC;exact cq (u3 _ _) (by simp)
theorem OY (k:S.Ok):∃ r,Cl S=r ++ [S.h]:=by
 have ab:=k.hm;have e:cY S.m=cY (S.m - 1) ++ [S.m - 1]:=by
  rw [show S.m=(S.m - 1) + 1 by omega,qB];simp
 unfold Cl;rw [e,dA,S1];refine ⟨_,congrArg _ ?_⟩;have:h6 S (S.m - 1)=S.h:=by
  unfold h6;rw [show S.h + 1 + (S.m - 1)=S.h + S.m by omega,akb,um ab]
 simp [this,LV]
end
def uI (S:dD) (place sp:Int):Prop:=(place = -1/\sp = -1)\/∃ (i:Nat) (y:Nat),place=(i:Int)/\(Cl S)[i]? = some y/\sp=S.cW y
theorem E6 {S:dD} (k:S.Ok) {place sp:Int} (h:uI S place sp) {j y:Nat} (aN:(Cl S)[j]? = some y):place < (j:Int)↔sp < S.cW y:=by
 rcases h with ⟨rfl,rfl⟩ | ⟨i,x,rfl,ag,rfl⟩
 .have:=(kk k y).1;constructor <;> intro <;> omega
 .rw [<- XA k ag aN];omega
theorem TZ (h:uI S place sp):-1 <= place:=by
 rcases h with ⟨rfl,_⟩ | ⟨i,_,rfl,_⟩ <;> omega
noncomputable def At (o:Nat):Nat->Nat
 | 0=>0
 | j + 1=>if j=0 then 1 else (2 + o) * At o j
noncomputable def rL (o j:Nat):Nat:=if j=0 then 1 else (1 + o) * At o j
theorem aeE (o j:Nat):At o (j + 1)=At o j + rL o j:=by
 unfold rL;cases j with
 | zero=>rfl
 | succ j=>
  rw [if_neg (by omega)];show (if j + 1=0 then 1 else (2 + o) * At o (j + 1))=_;rw [if_neg (by omega),akp,akp];omega
theorem O1:∀ o,o <= 6->∀ j,j <= 6->rL o j <= 300000/\At o j <= 300000:=by decide
noncomputable def lb (S:dD) (p:Nat) (sp:Int):Nat:=2 * ((S.m:Int) - sp).toNat + (if S.own p=true then 1 else 0)
theorem r8 (h:xs[xs.length - 1]? = some v):eE xs (-1)=some v:=by
 have aD:0 < xs.length:=by have:=(bY.mp h).1;omega
 unfold eE qg;rw [if_neg (by decide),if_pos (by omega)];rw [show ((-1 + (xs.length:Int)).toNat)=xs.length - 1 by omega];exact h
noncomputable abbrev lO:Str:=ah "trams"
noncomputable abbrev qp:Str:=ah "others"
noncomputable def jd (ds:List bx) (rows:List ST) (j:Nat):Str:=((rows[j]?).map (kM ds)).getD (ah "")
theorem zv {rows:List ST} (h:j < rows.length):(rows.map (kM ds))[j]? = some (jd ds rows j):=by
 unfold jd;rw [cV,a_ h];rfl
noncomputable def bq (mb:List Nat):List V:=mb.map fun j=>V.int (j:Nat)
theorem eF (mb:List Nat):(bq mb).length=mb.length:=by unfold bq;rw [aR]
theorem ag9 (mb:List Nat):bq mb=p8 V.int (mb.map fun j=>((j:Nat):Int)):=by
 unfold bq;rw [oS];rfl
theorem fS {i x:Nat} (h:mb[i]? = some x):(bq mb)[i]? = some (.int (x:Nat)):=by unfold bq;rw [cV,h];rfl
theorem r9 (mb:List Nat):(bq mb).all kz=true:=by unfold bq;simp [kz]
theorem tr (x:Nat) (mb:List Nat):pb (.int (x:Nat)) (bq mb)=decide (x ∈ mb):=by
 unfold pb bq;rw [NX,n5];simp only [se,QR,decide_eq_true_eq];constructor
 .rintro ⟨y,aU,e⟩;have:(y:Int)=(x:Int):=by simpa [lV] using e
  rw [show x=y by omega];exact aU
 .intro h;exact ⟨x,h,by simp [lV]⟩
theorem H9 (p:Nat->Bool):∀ xs:List Nat,((xs.map fun x=>if p x=true then some (V.int (x:Nat)) else none).flatMap uy)=bq (xs.filter p)
 | []=>rfl
 | x :: xs=>by
  rw [eB,u',H9 p xs];cases h:p x <;> simp [bq,h]
theorem Qc (x:Nat):∀ xs:List Nat,((xs.map fun j=>((j:Nat):Int)).idxOf (x:Int))=xs.idxOf x
 | []=>rfl
 | y :: ys=>by
  rw [eB,aby,aby,Qc x ys];by_cases h:y=x
  .subst h;simp
  .rw [show ((y:Int) == (x:Int))=false by rw [beq_eq_false_iff_ne];omega,show (y == x)=false by simpa using h]
noncomputable def gh (ds:List bx) (rows:List ST) (h:Nat):dD:=⟨rows.length,h,fun i=>decide (jd ds rows i=lO)⟩
structure kE (ds:List bx) (rows:List ST):Prop where
 dE:∀ r ∈ rows,kM ds r=lO\/kM ds r=qp
 j5:rows.length <= 6
 lo:∀ r ∈ rows,1 <= r.lo/\r.lo <= r.ag/\r.ag <= 1000
 c1:∀ r ∈ rows,r.mem ≠ []
theorem kE.ok {rows:List ST} (R:kE ds rows) {h:Nat} (bU:h < rows.length):(gh ds rows h).Ok:=⟨bU,R.j5⟩
theorem kE.two {rows:List ST} (R:kE ds rows) (aN:j < rows.length):jd ds rows j=lO\/jd ds rows j=qp:=by
 unfold jd;rw [a_ aN];exact R.dE _ (jb aN)
theorem WN {rows:List ST} (R:kE ds rows) {h j:Nat} (bU:h < rows.length) (aN:j < rows.length):(gh ds rows h).own j=decide (jd ds rows j=jd ds rows h):=by
 have ne:¬ qp=lO:=by ac_nf
 have ne':¬ lO=qp:=by ac_nf
 unfold dD.own gh;rcases R.two aN with e | e <;> rcases R.two bU with bW | bW <;> simp [e,bW,ne,ne']
section
variable {w:World} {K:bc} {mg:Str->Option Value} {t:b6} {H:au} {a c ax le mo c1 dE aW ch:Addr} {k:Nat}
theorem Sh (T:Txt w K mg t) (e:H a=some (.ins t.fp ax (lX c k le mo c1 dE aW ch))):hV K H a (ah "crossing") (.ref c):=⟨_,ax,_,e,T.ku,T.NP,ks qL 0 (rB ..) (by ac_nf) rfl⟩
theorem xa (T:Txt w K mg t) (e:H a=some (.ins t.fp ax (lX c k le mo c1 dE aW ch))):hV K H a (ah "sorts") (.ref dE):=⟨_,ax,_,e,T.ku,T.Vv,ks qL 5 (rB ..) (by ac_nf) rfl⟩
theorem agT (T:Txt w K mg t) (e:H a=some (.ins t.fp ax (lX c k le mo c1 dE aW ch))):hV K H a (ah "homes") (.ref aW):=⟨_,ax,_,e,T.ku,T.Uo,ks qL 6 (rB ..) (by ac_nf) rfl⟩
theorem Q0 (T:Txt w K mg t) (e:H a=some (.ins t.fp ax (lX c k le mo c1 dE aW ch))):hV K H a (ah "leasts") (.ref le):=⟨_,ax,_,e,T.ku,T.TK,ks qL 2 (rB ..) (by ac_nf) rfl⟩
theorem aaL (T:Txt w K mg t) (e:H a=some (.ins t.fp ax (lX c k le mo c1 dE aW ch))):hV K H a (ah "mosts") (.ref mo):=⟨_,ax,_,e,T.ku,T.am,ks qL 3 (rB ..) (by ac_nf) rfl⟩
end
section
variable (P:Program) (w:World)
def ajP (t:b6):bO:=fun vs H Q _=>∃ bE c n ds rows,∃ h:Nat,vs=[.ref bE,.int h]/\hv P w t H bE c n ds rows/\kE ds rows/\h < rows.length/\aL H/\∀ p I,aH H I->aL I->I p=some (.lst (bq (Cl (gh ds rows h))))->Q (.ref p) I
def agH (t:b6):bO:=fun vs H Q _=>∃ bE c n ds rows,∃ h:Nat,vs=[.ref bE,.int h]/\hv P w t H bE c n ds rows/\kE ds rows/\h < rows.length/\aL H/\∀ p I,aH H I->aL I->I p=some (.lst (bq (AC (gh ds rows h))))->Q (.ref p) I
end
noncomputable def g7 (S:dD) (f s:Nat):Int:=if S.own s=true then S.cW s else if S.own f=true/\f ≠ S.h then S.cW f else -1
def amw:bO:=fun vs H Q _=>∃ l,∃ S:dD,∃ f s:Nat,vs=[.ref l,.int f,.int s]/\H l=some (.lst (bq (Cl S)))/\S.Ok/\f < S.m/\s < S.m/\∀ place,uI S place (g7 S f s)->Q (.int place) H
theorem afP:cu P base T 1 t.LF t.Fi kl (ajP P w t):=by
 exists T.G4.ok Rt,9
 obtain ⟨bE,c,n,ds,rows,h,rfl,eV,R,bU,bC,q⟩:=h;obtain ⟨m',le,mo,c1,dE,aW,ch,ms,aA,ao,C,bJ,e6,gY,e1,ic,pE,nL⟩:=id eV;have j5:=R.j5;refine ⟨_,(aQ (yr (i:=2) Rt.aB rfl (qw rfl) rfl (iw rfl T.hA (db (c4 (U 0) rfl) av)) (fy (sc:=bt BO) rfl (by ac_nf)) (N:=["step","home","stages"]) (sel:=[none,some 1,some 0]) (fs (M:=HN) (by ac_nf)) (eT.of (fun _ _ _ _=>(b5 (i:=0) (dX (N:=["step","home","stages"]) (by ac_nf) rfl))) (fun _ _ _ _=>⟨_,gV,by walk_at "B"⟩) (fun _ _ _ _=>⟨_,(bG jj (bG er (bG er (U 1) aJ) (U 0)) (c4 (U 2) rfl)),by walk_at "B"⟩)) rfl)
   (a3 (cc (gy rfl (eZ (U 2)) (fy (sc:=bt BO) rfl (by ac_nf)) (N:=As) (sel:=[none,some 0,some 1]) (fs (M:=HN) (by ac_nf)) (eT.of (fun _ _ _ _=>(b5 (i:=0) (dX (N:=As) (by ac_nf) rfl))) (fun _ _ _ _=>⟨_,(uX (c5 eQ (bl b0 (c4 (U 1) rfl) (U 0)) (bl b0 (c4 (U 1) rfl) (U 2)) (cF _))),by walk_at "B"⟩) (fun _ _ _ _=>⟨_,(U 0),by walk_at "B"⟩)))))),?_⟩
 exists (fun ay I=>aH H I/\aL I/\∃ np,I np=some (.lst (bq ((cY rows.length).map (h6 (gh ds rows h)))))/\ay=[~~~bE,some (.int h),~~~np]),3
 .nofun;refine ⟨_,qF T ao,_,rfl,by omega,by omega,?_⟩;rw [lB];refine cX.H5 (fun s=>.int (h6 (gh ds rows h) s:Nat)) (cq j5 (by decide)) (fun i N ag bb=>?_) (fun p aq=>?_)
  .nofun;refine ⟨Sub.name,_,qF T ao,_,rfl,by omega,?_⟩;rw [show ((h:Int) + 1 + (i:Int)) % (rows.length:Int)=((h6 (gh ds rows h) i:Nat):Int) by
    unfold h6 gh;rw [Int.natCast_emod];congr 1]
   exact bb
  .refine bD _ _ ⟨a' aq,bC.upd,p,?_,rfl⟩;rw [aS];unfold bq;rw [oS];rfl
 rintro gu H1 ⟨s1,ck,np,o_,rfl⟩;subst aY;simp only [dj];have xm:=s1 _ _ ao;nofun;refine ⟨⟨_,ak.of o_⟩,?_⟩;refine cX.yO (ss:=((cY rows.length).map (h6 (gh ds rows h))).map fun j=>if (gh ds rows h).own j=true then some (V.int (j:Nat)) else none) (ak.of o_) (by rw [eF,aR,kh];exact cq j5 (by decide)) (by rw [eF,aR]) (fun i v o ys N aG aW bb=>?_) (fun p aq=>?_)
 .unfold bq at aG;obtain ⟨j,aN,rfl⟩:=cm aG;obtain ⟨je,kD,rfl⟩:=cm aW;rw [aN] at kD;cases kD;have jy:j < rows.length:=by
   obtain ⟨s0,_,rfl⟩:=cm aN;exact P6 (R.ok bU) _
  rw [WN R bU jy] at bb;nofun;refine ⟨Sub.name,_,xa T xm,_,rfl,_,ak.of (s1 _ _ e1),_,bA (vN (zv jy)),_,xa T xm,_,rfl,_,ak.of (s1 _ _ e1),_,bA (vN (zv bU)),rfl,?_⟩;by_cases ct:jd ds rows j=jd ds rows h
  .rw [if_pos (by rw [ct,decide_eq_true rfl])];rw [if_pos (decide_eq_true ct)] at bb;exact bb
  .rw [if_neg (by rw [decide_eq_false (fun z=>ct (by injection z))];exact hh)];rw [if_neg (by simpa using ct)] at bb;simpa using bb
 .rw [H9];exact q p _ (s1.trans (a' aq)) ck.upd aS
theorem amc:cu P base T 1 t.HO t.IG kl (agH P w t):=by
 exists T.Hs.ok agk,9
 obtain ⟨bE,c,n,ds,rows,h,rfl,eV,R,bU,bC,q⟩:=h;obtain ⟨m',le,mo,c1,dE,aW,ch,ms,aA,ao,C,bJ,e6,gY,e1,ic,pE,nL⟩:=id eV;have j5:=R.j5;refine ⟨_,(a3 (cc (gy rfl (iw rfl T.hA (db (c4 (U 0) rfl) av)) (fy (sc:=bt Iq) rfl (by ac_nf)) (N:=As) (sel:=[none,some 0,some 1]) (fs (M:=kl) (by ac_nf)) (eT.of (fun _ _ _ _=>(b5 (i:=0) (dX (N:=As) (by ac_nf) rfl))) (fun _ _ _ _=>⟨_,(uX (c5 mz (bl b0 (c4 (U 1) rfl) (U 0)) (bl b0 (c4 (U 1) rfl) (U 2)) (cF _))),by walk_at "B"⟩) (fun _ _ _ _=>⟨_,(U 0),by walk_at "B"⟩))))),?_⟩;nofun;refine ⟨_,qF T ao,_,rfl,by omega,by omega,?_⟩;rw [lB];refine cX.Zu (ss:=(cY rows.length).map fun j=>if (!(gh ds rows h).own j)=true then some (V.int (j:Nat)) else none) (cq j5 (by decide)) (by rw [aR,kh]) (fun j o ys N jy aW bb=>?_) (fun p aq=>?_)
 .obtain ⟨je,kD,rfl⟩:=cm aW;rw [oB jy] at kD;cases kD;rw [WN R bU jy] at bb;nofun;refine ⟨Sub.name,_,xa T ao,_,rfl,_,ak.of e1,_,bA (vN (zv jy)),_,xa T ao,_,rfl,_,ak.of e1,_,bA (vN (zv bU)),rfl,?_⟩;by_cases ct:jd ds rows j=jd ds rows h
  .rw [if_neg (by rw [ct,decide_eq_true rfl];exact hh)];simp [ct] at bb;exact bb
  .rw [if_pos (by rw [decide_eq_false (fun z=>ct (by injection z))];rfl)];simp [ct] at bb;exact bb
 .rw [H9];exact q p _ (a' aq) bC.upd aS
theorem ZI:cu P base T 1 t.Jl t.K_ BS amw:=by
 exists T.IH.ok afE,9
 obtain ⟨l,S,f,s',rfl,aD,k,hf,aw,q⟩:=h;refine ⟨_,(aQ (dW (c5 tD (U 2) (U 0) (by with_unfolding_all rfl)) (a3 (cc (ef e2 Et S3 SJ (U 0) (db (U 2) av)))) ec)
   (aQ (dW (fW.pt (oo (c5 tD (U 1) (U 0) (by with_unfolding_all rfl)) (oY (c5 mz (U 1) (bl b0 (U 0) (pL pC aJ)) (cF _))))) (a3 (cc (ef e2 Et S3 SJ (U 0) (db (U 1) av)))) ec)
   (a3 (cc (pL pC aJ))))),?_⟩
 have aoq:=Na S;have mZ:=k.n7;have idx:∀ {x:Nat},x ∈ Cl S->(((Cl S).map fun j=>((j:Nat):Int)).idxOf (x:Int)=(Cl S).idxOf x)/\(Cl S)[(Cl S).idxOf x]? = some x:=fun {x} af=>by
  refine ⟨Qc x (Cl S),?_⟩;have aD:=ahq.mpr af;rw [a_ aD,abO]
 have ind:∀ {x:Nat} {Q':cJ},x ∈ Cl S->Q' (.int ((Cl S).idxOf x:Nat)) H->∃ b':List Int,ak K H l (p8 V.int b')/\(x:Int) ∈ b'/\b'.length <= 1000/\Q' (.int (b'.idxOf (x:Int):Nat)) H:=fun {x Q'} af aM=>by
  refine ⟨(Cl S).map fun j=>((j:Nat):Int),by rw [<- ag9];exact ak.of aD,b2.mpr ⟨x,af,rfl⟩,by rw [aR];omega,?_⟩;rw [(idx af).1];exact aM
 obtain ⟨r,nu⟩:=OY k;have i':eE (bq (Cl S)) (-1)=some (.int (S.h:Nat)):=r8 (by
  rw [eF];refine fS ?_;rw [nu,cC,uK,Ho,k5 (bP _),v8];rfl)
 simp only [dj];by_cases a9:s' ∈ Cl S
 .refine cP true (fun Q aX=>?_) (fun _=>?_) (fun z=>nomatch z)
  .nofun;refine ⟨_,.inl (ak.of aD),rfl,r9 _,?_⟩;rw [tr,decide_eq_true a9];exact aX
  .nofun;refine ⟨.inl ⟨_,ak.of aD⟩,ind (Q':=Q) a9 (q _ (.inr ⟨_,s',rfl,(idx a9).2,?_⟩))⟩;unfold g7;rw [if_pos ((qo k).mp a9).2]
 have l4:S.own s'=false:=by
  cases h:S.own s' with
  | true=>exact absurd ((qo k).mpr ⟨aw,h⟩) a9
  | false=>rfl
 refine cP false (fun Q aX=>?_) (fun z=>nomatch z) (fun _=>?_)
 .nofun;refine ⟨_,.inl (ak.of aD),rfl,r9 _,?_⟩;rw [tr,decide_eq_false a9];exact aX
 simp only [f',dj];by_cases bB:f ∈ Cl S
 .by_cases cT:f=S.h
  .refine cP false (fun Q aX=>?_) (fun z=>nomatch z) (fun _=>?_)
   .nofun;refine ⟨_,.inl (ak.of aD),rfl,r9 _,?_⟩;rw [tr,decide_eq_true bB,if_pos rfl];refine ⟨_,ak.of aD,_,i',rfl,?_⟩;rw [cT,decide_eq_true rfl];exact aX
   .nofun;refine q (-1) (.inl ⟨rfl,?_⟩);unfold g7;rw [if_neg (by rw [l4];decide),if_neg (fun z=>z.2 cT)]
  .refine cP true (fun Q aX=>?_) (fun _=>?_) (fun z=>nomatch z)
   .nofun;refine ⟨_,.inl (ak.of aD),rfl,r9 _,?_⟩;rw [tr,decide_eq_true bB,if_pos rfl];refine ⟨_,ak.of aD,_,i',rfl,?_⟩;rw [decide_eq_false (fun z=>cT (by injection z with z;omega))];exact aX
   .nofun;refine ⟨.inl ⟨_,ak.of aD⟩,ind (Q':=Q) bB (q _ (.inr ⟨_,f,rfl,(idx bB).2,?_⟩))⟩;unfold g7;rw [if_neg (by rw [l4];decide),if_pos ⟨((qo k).mp bB).2,cT⟩]
 .refine cP false (fun Q aX=>?_) (fun z=>nomatch z) (fun _=>?_)
  .nofun;refine ⟨_,.inl (ak.of aD),rfl,r9 _,?_⟩;rw [tr,decide_eq_false bB,if_neg (by decide)];exact aX
  .nofun;refine q (-1) (.inl ⟨rfl,?_⟩);unfold g7;rw [if_neg (by rw [l4];decide),if_neg (fun z=>bB ((qo k).mpr ⟨hf,z.1⟩))]
structure fj (H:au) (p:Addr) (qs:List Addr) (bp:List (List Nat)):Prop where
 at_:H p=some (.lst (qs.map V.ref))
 ln:qs.length=bp.length
 al:∀ (i:Nat) (q:Addr) (xs:List Nat),qs[i]? = some q->bp[i]? = some xs->H q=some (.lst (bq xs))
theorem fj.same {p:Addr} (h:fj H p qs bp) (s:aH H I):fj I p qs bp:=⟨s _ _ h.at_,h.ln,fun i q xs ab ai=>s _ _ (h.al i q xs ab ai)⟩
theorem fj.ext {p b:Addr} (h:fj H p qs bp) (g:fj H b gJ d7) (ck:p ∉ qs) (cv:p ∉ gJ):fj (upd H p (.lst (qs.map V.ref ++ gJ.map V.ref))) p (qs ++ gJ) (bp ++ d7):=by
 refine ⟨by rw [aS,dA],by rw [cC,cC,h.ln,g.ln],fun i q xs ab ai=>?_⟩;by_cases c:i < qs.length
 .rw [m9 c] at ab;rw [m9 (by rw [<- h.ln];exact c)] at ai;rw [aZ (fun z=>ck (by rw [<- z];exact bM ab))];exact h.al i q xs ab ai
 .rw [k5 (by omega)] at ab;rw [k5 (by rw [<- h.ln];omega),<- h.ln] at ai;rw [aZ (fun z=>cv (by rw [<- z];exact bM ab))];exact g.al _ q xs ab ai
def MY (S:dD) (ch:List Nat) (p:Nat) (sp:Int) (bp:List (List Nat)):Prop:=∀ ys,ys ∈ bp↔∃ ext,ys=ch ++ ext/\hT S p sp ext
noncomputable def mE (S:dD) (p:Nat) (place:Int):Nat:=if p=S.h then 1 else if S.own p=true then rL (AC S).length ((Cl S).length - (place + 1).toNat) else At (AC S).length ((Cl S).length - (place + 1).toNat)
structure aiK (S:dD) (d:Nat) (vs:List V) (H:au) (ch:List Nat) (p:Nat) (sp place:Int):Prop where
 Nj:∃ cl ol bo,vs=[.ref cl,.ref ol,.ref bo,.int place]/\H cl=some (.lst (bq ch))/\H ol=some (.lst (bq (Cl S)))/\H bo=some (.lst (bq (AC S)))
 k:S.Ok
 mH:∃ r,ch=r ++ [p]
 cl:ch.length + d <= 40
 pm:p < S.m
 pl:uI S place sp
 c1:lb S p sp <= d
 bC:aL H
 op:S.own p=true->sp=S.cW p
def Af (d:Nat):bO:=fun vs H Q _=>∃ S ch p sp place,aiK S d vs H ch p sp place/\∀ r qs bp I,aH H I->aL I->fj I r qs bp->H r=none->r ∉ qs->MY S ch p sp bp->bp.length <= mE S p place->Q (.ref r) I
noncomputable def Uy:Nat->bO
 | 0=>fun _ _ _ _=>False
 | d + 1=>Af d
theorem KH (k:S.Ok) {p x:Nat} (h:sp < S.cW x):lb S x (S.cW x) < lb S p sp:=by
 have:=(kk k x).2;unfold lb;split <;> split <;> omega
theorem Jb {p x:Nat} (h:S.own p=true) (g:S.own x=false):lb S x sp < lb S p sp:=by
 unfold lb;rw [if_pos h,if_neg (by rw [g];decide)];omega
theorem Tt (o:Nat):∀ j,1 <= j->1 <= At o j
 | 0,h=>absurd h (by decide)
 | j + 1,_=>by
  show 1 <= (if j=0 then 1 else (2 + o) * At o j);split
  .exact bP _
  .rename_i h;exact Y9 (show 0 < 2 + o by omega) (Tt o j (by omega))
theorem akK (o j:Nat):1 <= rL o j:=by
 unfold rL;split
 .exact bP _
 .rename_i h;exact Y9 (show 0 < 1 + o by omega) (Tt o j (by omega))
theorem Q8 {S:dD} (k:S.Ok) {d':Nat} {H1 c3:au} {cl ol bo bf:Addr} {ch:List Nat} {qs:List Addr} {bp:List (List Nat)} (ao:H1 cl=some (.lst (bq ch))) (aC:H1 ol=some (.lst (bq (Cl S)))) (bJ:H1 bo=some (.lst (bq (AC S)))) (s5:aH H1 c3) (dT:aL c3) (mO:H1 bf=none) (fh:fj c3 bf qs bp) (gK:bf ∉ qs) (oI:ch.length + (d' + 1) <= 40) {x:Nat} (af:x < S.m) {zr qf:Int} (pl:uI S zr qf) (c1:lb S x qf <= d') (op:S.own x=true->qf=S.cW x) (aF:bp.length + mE S x zr <= sizeLine) {E:d0} {R:au->Prop}
  (fZ:∀ fe nG d7,aH H1 fe->aL fe->fj fe bf (qs ++ nG) (bp ++ d7)->bf ∉ qs ++ nG->MY S (ch ++ [x]) x qf d7->d7.length <= mE S x zr->R fe) :
  ∀ df:Addr,c3 df=none->∃ X,upd c3 df (.lst [V.int (x:Nat)]) cl=some (.lst X)/\∃ Y,upd c3 df (.lst [V.int (x:Nat)]) df=some (.lst Y)/\X.length + Y.length <= sizeLine/\∀ nh:Addr,upd c3 df (.lst [V.int (x:Nat)]) nh=none ->
   Uy (d' + 1) [V.ref nh,V.ref ol,V.ref bo,V.int zr] (upd (upd c3 df (.lst [V.int (x:Nat)])) nh (.lst (X ++ Y))) (fun v fz=>∃ b,v=V.ref b/\∃ LS,fz bf=some (.lst LS)/\∃ W,fz b=some (.lst W)/\LS.length + W.length <= sizeLine/\R (upd fz bf (.lst (LS ++ W)))) E:=by
 intro df fm;have dO:aH c3 (upd c3 df (.lst [V.int (x:Nat)])):=a' fm;refine ⟨_,dO _ _ (s5 _ _ ao),_,aS,cq (show _ <= 64 by rw [eF];show ch.length + 1 <= 64;omega) (by decide),fun nh amh=>?_⟩;have gs:=dO.trans (a' (o:=.lst (bq ch ++ [V.int (x:Nat)])) amh);have P':=s5.trans gs;refine ⟨S,ch ++ [x],x,qf,zr,⟨⟨nh,ol,bo,rfl,by rw [aS];unfold bq;rw [dA];rfl,P' _ _ aC,P' _ _ bJ⟩,k,⟨ch,rfl⟩,by rw [cC];show ch.length + 1 + d' <= 40;omega,af,pl,c1,(dT.upd).upd,op⟩,fun r nG d7 fe hJ qe jz aj uu rJ Vb=>?_⟩;have hP:=fh.same (gs.trans hJ);have hg:bf ∉ nG:=fun hm=>by
  obtain ⟨j,aN⟩:=hD hm;have jy:j < d7.length:=by rw [<- jz.ln];exact (bY.mp aN).1
  have aU:d7[j]? = some d7[j]:=a_ jy;have e:=jz.al j bf _ aN aU;rw [hP.at_] at e;have bW:qs.map V.ref=bq d7[j]:=gL.lst.inj (eL e);obtain ⟨ext,ih,_⟩:=(rJ d7[j]).mp (jb jy);rw [ih] at bW;cases ch with
  | nil=>cases qs with
   | nil=>cases bW
   | cons jA qb=>cases (q2 bW).1
  | cons ct cr=>cases qs with
   | nil=>cases bW
   | cons jA qb=>cases (q2 bW).1
 refine ⟨r,rfl,_,hP.at_,_,jz.at_,?_,fZ _ nG d7 (fun b u e=>?_) qe.upd (hP.ext jz gK hg) (fun hm=>(dZ.mp hm).elim gK hg) rJ Vb⟩
 .rw [aR,aR,hP.ln,jz.ln];omega
 .rw [aZ (Db e mO)];exact hJ _ _ (gs _ _ (s5 _ _ e))
theorem Th (T:Txt w K mg t) (d:Nat) (DK:bV P w K mg base c9 (d + 2) t.tN t.tM uG (Uy d)):bV P w K mg base c9 (d + 3) t.tN t.tM uG (Af d):=by
 refine T.uW.ok u1 (fun vs H Q E h=>?_) (fun _ _ _ s H vs Q E aj h=>?_)
 .obtain ⟨S,ch,p,sp,place,⟨⟨cl,ol,bo,rfl,_⟩,_⟩,_⟩:=h;rfl
 obtain ⟨S,ch,p,sp,place,J,q⟩:=h;obtain ⟨cl,ol,bo,rfl,ao,aC,bJ⟩:=J.Nj;have k:=J.k;have mZ:=k.n7;have aju:=Na S;have ahD:=NW S;obtain ⟨cr,al2⟩:=J.mH;have i':eE (bq ch) (-1)=some (.int (p:Nat)):=r8 (by
  rw [eF];refine fS ?_;rw [al2,cC,uK,Ho,k5 (bP _),v8];rfl)
 obtain ⟨qb,nu⟩:=OY k;have TL:eE (bq (Cl S)) (-1)=some (.int (S.h:Nat)):=r8 (by
  rw [eF];refine fS ?_;rw [nu,cC,uK,Ho,k5 (bP _),v8];rfl)
 refine ⟨_,(aQ (bX (i:=4) u1.aB (bl b0 (U 0) (pL pC aJ)))
   (aQ (dW (c5 eQ (U 4) (bl b0 (U 1) (pL pC aJ)) (cF _)) (a3 (cc (d4 (db (U 0) av)))) ec)
   (aQ (bX (i:=5) u1.aB (d4 av))
   (aQ (eU eJ rfl (Oq rfl T.hA (db (bG er (U 3) aJ) (db (ep fV rfl T.fG fJ (db (U 1) av)) av))) (b5 (i:=6) u1.aB) (a3 (dN (ef e2 qK rb pX (U 5) (db (bS DK aj T.It T.uW.bj T.FL (db (bG BX (U 0) (d4 (db (bl b0 (U 1) (U 6)) av))) (db (U 1) (db (U 2) (db (U 6) av))))) av)))))
   (aQ (dW (c5 tD (U 4) (U 1) (by with_unfolding_all rfl)) (a3 (eU eJ rfl (eZ (U 2)) (b5 (i:=7) u1.aB) (a3 (dN (ef e2 qK rb pX (U 5) (db (bS DK aj T.It T.uW.bj T.FL (db (bG BX (U 0) (d4 (db (U 7) av))) (db (U 1) (db (U 2) (db (U 3) av))))) av)))))) ec)
   (a3 (cc (U 5)))))))),?_⟩
 exists (fun ay I=>I=H/\ay=[~~~cl,~~~ol,~~~bo,some (.int place),some (.int (p:Nat)),none,none,none]),3
 .nofun;exact ⟨_,ak.of ao,_,i',bD _ _ ⟨rfl,rfl⟩⟩
 rintro gu H1 ⟨rfl,rfl⟩;subst aY;simp only [dj];by_cases a9:p=S.h
 .refine cP true (fun Q aX=>?_) (fun _=>?_) (fun z=>nomatch z)
  .nofun;refine ⟨_,ak.of aC,_,TL,rfl,?_⟩;rw [a9,decide_eq_true rfl];exact aX
  .nofun;refine ⟨by decide,fun r aj=>q r [cl] [ch] _ (a' aj) J.bC.upd ⟨aS,rfl,fun i cb xs ab ai=>?_⟩ aj (fun z=>by rw [eu.mp z,ao] at aj;cases aj) (fun ys=>?_) ?_⟩
   .match i,ab,ai with
    | 0,ab,ai=>cases ab;cases ai;exact a' aj _ _ ao
    | i + 1,ab,_=>simp at ab
   .rw [eu];constructor
    .rintro rfl;exact ⟨[],by simp,a9⟩
    .rintro ⟨ext,rfl,aW⟩;cases ext with
     | nil=>simp
     | cons x r=>exact absurd a9 aW.1
   .unfold mE;rw [if_pos a9];exact bP _
 refine cP false (fun Q aX=>?_) (fun z=>nomatch z) (fun _=>?_)
 .nofun;refine ⟨_,ak.of aC,_,TL,rfl,?_⟩;rw [decide_eq_false (fun z=>a9 (by injection z with z;omega))];exact aX
 simp only [f',dj];obtain ⟨o,aW⟩:∃ o,(AC S).length=o:=⟨_,rfl⟩;obtain ⟨L,ei⟩:∃ L,(Cl S).length=L:=⟨_,rfl⟩;obtain ⟨b,ae⟩:∃ b:Nat,place + 1=(b:Int):=⟨(place + 1).toNat,by have:=TZ J.pl;omega⟩;obtain ⟨d',rfl⟩:∃ d',d=d' + 1:=⟨d - 1,by
  have ab:=J.c1;have ai:sp < S.m:=by
   rcases J.pl with ⟨_,e⟩ | ⟨i,y,_,_,e⟩
   .rw [e];omega
   .rw [e];exact (kk k y).2
  unfold lb at ab
  omega⟩
 have anQ:b <= L:=by
  rcases J.pl with ⟨e,_⟩ | ⟨i,y,e,ag,_⟩
  .omega
  .have:=(bY.mp ag).1;omega
 have iv:At o (L - b) <= 300000:=(O1 o (by omega) _ (by omega)).2;exists (fun ay I=>aH H1 I/\aL I/\∃ bf,H1 bf=none/\I bf=some (.lst [])/\ay=[~~~cl,~~~ol,~~~bo,some (.int place),some (.int (p:Nat)),~~~bf,none,none]),0
 .nofun;exact ⟨by decide,fun bf mO=>bD _ _ ⟨a' mO,J.bC.upd,bf,mO,aS,rfl⟩⟩
 rintro cH az ⟨s2,cv,bf,mO,e6,rfl⟩;subst aY;simp only [dj];exists (fun ay I=>aH H1 I/\aL I/\∃ qs bp b4,fj I bf qs bp/\bf ∉ qs/\(∀ ys,ys ∈ bp↔∃ x r,ys=ch ++ x :: r/\x < S.m/\S.own x=true/\sp < S.cW x/\hT S x (S.cW x) r)/\bp.length <= At o (L - b)/\ay=[~~~cl,~~~ol,~~~bo,some (.int place),some (.int (p:Nat)),~~~bf,b4,none]),0
 .nofun;refine ⟨_,.inl (ak.of (s2 _ _ aC)),by omega,by rw [ae];omega,by rw [eF];omega,by rw [eF];omega,?_⟩;rw [eF,ei,show ((L:Int) - (place + 1)).toNat=L - b by omega];refine dP.range (fun i σ I=>aH H1 I/\aL I/\∃ qs bp b4,fj I bf qs bp/\bf ∉ qs/\(∀ ys,ys ∈ bp↔∃ x r s,(Cl S)[s]? = some x/\b <= s/\s < b + i/\ys=ch ++ x :: r/\hT S x (S.cW x) r)/\bp.length + At o (L - b - i) <= At o (L - b)/\σ=[~~~cl,~~~ol,~~~bo,some (.int place),some (.int (p:Nat)),~~~bf,b4,none]) ?_ ?_ ?_
  .exact ⟨s2,cv,[],[],none,⟨e6,rfl,fun i q xs h=>by simp at h⟩,by simp,fun ys=>⟨fun h=>by simp at h,fun ⟨x,r,s,_,ab,ai,_⟩=>by omega⟩,by simp,rfl⟩
  .rintro i σ c3 ag a7;ac_rfl
   obtain ⟨s5,dT,qs,bp,b4,fh,gK,iW,nz,rfl⟩:=a7;obtain ⟨x,af⟩:∃ x,(Cl S)[b + i]? = some x:=⟨(Cl S)[b + i]'(by omega),a_ _⟩;obtain ⟨i8,k6⟩:=(qo k).mp (bM af);have p2:sp < S.cW x:=(E6 k J.pl af).mp (by omega);subst aY;simp only [e_,gU,gM];rw [show place + 1 + (i:Int)=((b + i:Nat):Int) by omega];nofun;have Rj:mE S x ((b + i:Nat):Int) <= rL o (L - b - (i + 1)):=by
    unfold mE;by_cases RK:x=S.h
    .rw [if_pos RK];exact akK _ _
    .rw [if_neg RK,if_pos k6,aW,ei,show (((b + i:Nat):Int) + 1).toNat=b + i + 1 by omega,show L - (b + i + 1)=L - b - (i + 1) by omega];exact bP _
   have Eu:=aeE o (L - b - (i + 1));rw [show L - b - (i + 1) + 1=L - b - i by omega] at Eu;refine ⟨.inl ⟨_,ak.of fh.at_⟩,_,ak.of (s5 _ _ aC),_,bA (fS af),by decide,Q8 k ao aC bJ s5 dT mO fh gK J.cl i8 (.inr ⟨_,x,rfl,af,rfl⟩) (by have:=KH k (p:=p) p2;have:=J.c1;omega) (fun _=>rfl) (cq (show _ <= 300000 by omega) (by decide)) (R:=fun I=>aH H1 I/\aL I/\∃ qs bp,fj I bf qs bp/\¬ bf ∈ qs/\(∀ ys,ys ∈ bp↔∃ x r s,(Cl S)[s]? = some x/\b <= s/\s < b + (i + 1)/\ys=ch ++ x :: r/\hT S x (S.cW x) r)/\bp.length + At o (L - b - (i + 1)) <= At o (L - b)/\∃ x,some (V.int ((b + i:Nat):Int))=x) fun fe nG d7 gs hg hP x9 ro VP=>⟨gs,hg,_,_,hP,x9,fun ys=>?_,by rw [cC];omega,_,rfl⟩⟩;rw [dZ,iW,ro];constructor
   .rintro (⟨ie,r,s,ab,ai,a5,bQ,du⟩ | ⟨ext,bQ,du⟩)
    .exact ⟨ie,r,s,ab,ai,by omega,bQ,du⟩
    .exact ⟨x,ext,b + i,af,by omega,by omega,by rw [bQ,l8];rfl,du⟩
   .rintro ⟨ie,r,s,ab,ai,a5,bQ,du⟩;by_cases c:s < b + i
    .exact .inl ⟨ie,r,s,ab,ai,c,bQ,du⟩
    .have aT:s=b + i:=by omega
     rw [aT,af] at ab;cases ab;exact .inr ⟨r,by rw [bQ,l8];rfl,du⟩
  .rintro σ c3 a7;ac_rfl
   obtain ⟨s5,dT,qs,bp,b4,fh,gK,iW,nz,rfl⟩:=a7;subst aY;refine bD _ _ ⟨s5,dT,qs,bp,b4,fh,gK,fun ys=>?_,by omega,rfl⟩;rw [iW];constructor
   .rintro ⟨x,r,s,af,ab,ai,rfl,jV⟩;obtain ⟨i8,k6⟩:=(qo k).mp (bM af);exact ⟨x,r,rfl,i8,k6,(E6 k J.pl af).mp (by omega),jV⟩
   .rintro ⟨x,r,rfl,i8,k6,ab,jV⟩;obtain ⟨s,aw⟩:=hD ((qo k).mpr ⟨i8,k6⟩);have ai:=(E6 k J.pl aw).mpr ab;have a5:=(bY.mp aw).1;exact ⟨x,r,s,aw,by omega,by omega,rfl,jV⟩
 rintro gE bI ⟨s3,c0,qs,bp,b4,oc,OV,rM,j3,rfl⟩;subst aY;simp only [dj];exists (fun ay I=>aH H1 I/\aL I/\∃ qs bp b4 cA,fj I bf qs bp/\bf ∉ qs/\MY S ch p sp bp/\bp.length <= mE S p place/\ay=[~~~cl,~~~ol,~~~bo,some (.int place),some (.int (p:Nat)),~~~bf,b4,cA]),0
 .have gt:∀ (ys:List Nat),(∃ ext,ys=ch ++ ext/\hT S p sp ext)↔(ys ∈ bp\/∃ x r,ys=ch ++ x :: r/\x < S.m/\S.own p=true/\S.own x=false/\hT S x sp r):=fun ys=>by
   rw [rM];constructor
   .rintro ⟨ext,rfl,jV⟩;cases ext with
    | nil=>exact absurd jV a9
    | cons x r=>
     obtain ⟨_,af,⟨a1,a2,gp⟩ | ⟨a1,a2,gp⟩⟩:=jV
     .exact .inl ⟨x,r,rfl,af,a1,a2,gp⟩
     .exact .inr ⟨x,r,rfl,af,a1,a2,gp⟩
   .rintro (⟨x,r,rfl,af,a1,a2,gp⟩ | ⟨x,r,rfl,af,a1,a2,gp⟩)
    .exact ⟨x :: r,rfl,a9,af,.inl ⟨a1,a2,gp⟩⟩
    .exact ⟨x :: r,rfl,a9,af,.inr ⟨a1,a2,gp⟩⟩
  cases jv:S.own p with
  | false=>
   refine cP false (fun Q aX=>?_) (fun z=>nomatch z) (fun _=>?_)
   .nofun;refine ⟨_,.inl (ak.of (s3 _ _ aC)),rfl,r9 _,?_⟩;rw [tr,decide_eq_false (fun z=>by have:=((qo k).mp z).2;rw [jv] at this;cases this)];exact aX
   .simp only [f'];refine bD _ _ ⟨s3,c0,qs,bp,b4,_,oc,OV,fun ys=>?_,?_,rfl⟩
    .rw [gt];constructor
     .exact .inl
     .rintro (h | ⟨x,r,_,_,h,_⟩)
      .exact h
      .rw [jv] at h;cases h
    .unfold mE;rw [if_neg a9,jv,if_neg (by decide),aW,ei,show (place + 1).toNat=b by omega];exact j3
  | true=>
   refine cP true (fun Q aX=>?_) (fun _=>?_) (fun z=>nomatch z)
   .nofun;refine ⟨_,.inl (ak.of (s3 _ _ aC)),rfl,r9 _,?_⟩;rw [tr,decide_eq_true ((qo k).mpr ⟨J.pm,jv⟩)];exact aX
   .nofun;refine ⟨⟨_,ak.of (s3 _ _ bJ)⟩,?_⟩;refine dP.list (xs:=bq (AC S)) (fun i σ I=>aH H1 I/\aL I/\∃ qs d7 b4 cA,fj I bf qs d7/\bf ∉ qs/\(∀ ys,ys ∈ d7↔(ys ∈ bp\/∃ x r s,(AC S)[s]? = some x/\s < i/\ys=ch ++ x :: r/\hT S x sp r))/\d7.length <= (1 + i) * At o (L - b)/\σ=[~~~cl,~~~ol,~~~bo,some (.int place),some (.int (p:Nat)),~~~bf,b4,cA]) ?_ ?_ ?_ ?_
    .exact ⟨s3,c0,qs,bp,b4,none,oc,OV,fun ys=>⟨.inl,fun h=>h.elim id (fun ⟨x,r,s,_,h,_⟩=>by omega)⟩,by rw [Nat.add_zero,Nat.one_mul];exact j3,rfl⟩
    .rintro i σ c3 ag ⟨s5,_⟩;exact ak.of (s5 _ _ bJ)
    .rintro i v σ c3 aG a7;ac_rfl
     obtain ⟨s5,dT,lM,d7,qt,vj,fh,gK,iW,nz,rfl⟩:=a7;subst aY;unfold bq at aG;obtain ⟨x,af,rfl⟩:=cm aG;have iB:i < o:=by rw [<- aW];exact (bY.mp af).1
     obtain ⟨i8,k6⟩:=KB.mp (bM af);simp only [e_,gU,gM];nofun;have Rj:mE S x place <= At o (L - b):=by
      unfold mE;rw [if_neg (fun z=>by rw [z,LV] at k6;cases k6),k6,if_neg (by decide),aW,ei,show (place + 1).toNat=b by omega];exact bP _
     have hmul:(1 + (i + 1)) * At o (L - b)=(1 + i) * At o (L - b) + At o (L - b):=qC (1 + i) _;have hle:(1 + (i + 1)) * At o (L - b) <= 8 * 300000:=ald (by omega) iv;refine ⟨.inl ⟨_,ak.of fh.at_⟩,by decide,Q8 k ao aC bJ s5 dT mO fh gK J.cl i8 J.pl (by have:=Jb (sp:=sp) jv k6;have:=J.c1;omega) (fun z=>by rw [k6] at z;cases z) (cq (show _ <= 8 * 300000 by omega) (by decide)) (R:=fun I=>aH H1 I/\aL I/\∃ qs d7,fj I bf qs d7/\¬ bf ∈ qs/\(∀ ys,ys ∈ d7↔(ys ∈ bp\/∃ x r s,(AC S)[s]? = some x/\s < i + 1/\ys=ch ++ x :: r/\hT S x sp r))/\d7.length <= (1 + (i + 1)) * At o (L - b)/\∃ cA,some (V.int (x:Int))=cA) fun fe nG Bp gs hg hP x9 ro VP=>⟨gs,hg,_,_,hP,x9,fun ys=>?_,by rw [cC];omega,_,rfl⟩⟩;rw [dZ,iW,ro];constructor
     .rintro ((h | ⟨ie,r,s,ab,a5,bQ,du⟩) | ⟨ext,bQ,du⟩)
      .exact .inl h
      .exact .inr ⟨ie,r,s,ab,by omega,bQ,du⟩
      .exact .inr ⟨x,ext,i,af,by omega,by rw [bQ,l8];rfl,du⟩
     .rintro (h | ⟨ie,r,s,ab,a5,bQ,du⟩)
      .exact .inl (.inl h)
      .by_cases c:s < i
       .exact .inl (.inr ⟨ie,r,s,ab,c,bQ,du⟩)
       .have aT:s=i:=by omega
        rw [aT,af] at ab;cases ab;exact .inr ⟨r,by rw [bQ,l8];rfl,du⟩
    .rintro σ c3 a7;ac_rfl
     obtain ⟨s5,dT,lM,d7,qt,vj,fh,gK,iW,nz,rfl⟩:=a7;subst aY;refine bD _ _ ⟨s5,dT,lM,d7,qt,vj,fh,gK,fun ys=>?_,?_,rfl⟩
     .rw [iW,gt];constructor
      .rintro (h | ⟨x,r,s,aw,_,rfl,jV⟩)
       .exact .inl h
       .obtain ⟨i8,k6⟩:=KB.mp (bM aw);exact .inr ⟨x,r,rfl,i8,jv,k6,jV⟩
      .rintro (h | ⟨x,r,rfl,i8,_,k6,jV⟩)
       .exact .inl h
       .obtain ⟨s,aw⟩:=hD (KB.mpr ⟨i8,k6⟩);exact .inr ⟨x,r,s,aw,by rw [eF];exact (bY.mp aw).1,rfl,jV⟩
     .unfold mE rL;rw [if_neg a9,if_pos jv,aW,ei,show (place + 1).toNat=b by omega];rw [eF,aW] at nz;split
      .rename_i h0;rw [h0,show At o 0=0 from rfl,Nat.mul_zero] at nz;omega
      .exact nz
 rintro mw cD ⟨s4,de,jm,alV,qt,vj,ez,mU,mW,jE,rfl⟩;subst aY;nofun;exact q bf jm alV _ s4 de ez mO mU mW jE
theorem EO (T:Txt w K mg t):∀ d,bV P w K mg base c9 (d + 3) t.tN t.tM uG (Af d)
 | 0=>Th T 0 (T.uW.ok u1 (fun vs H Q E h=>h.elim) (fun eN A outer s H vs Q E aj h=>h.elim))
 | d + 1=>Th T (d + 1) (EO T d)
theorem hv.same {w:World} {t:b6} {rows:List ST} (h:hv P w t H a c n ds rows) (s:aH H I):hv P w t I a c n ds rows:=by
 obtain ⟨ax,le,mo,c1,dE,aW,ch,ms,aA,ao,aC,bJ,e6,gY,e1,ic,pE,nL⟩:=h;exact ⟨ax,le,mo,c1,dE,aW,ch,ms,aA,s _ _ ao,aC.same s,s _ _ bJ,s _ _ e6,gY.same s,s _ _ e1,s _ _ ic,Kb pE s,nL⟩
def rj (S:dD) (bp:List (List Nat)):Prop:=∀ ys,ys ∈ bp↔∃ f s ext,ys=f :: s :: ext/\f < S.m/\s < S.m/\f ≠ s/\hT S s (g7 S f s) ext
section
variable (P:Program) (w:World)
def Pj (t:b6):bO:=fun vs H Q _=>∃ bE c n ds rows,∃ h:Nat,vs=[.ref bE,.int h]/\hv P w t H bE c n ds rows/\kE ds rows/\h < rows.length/\aL H/\∀ r qs bp I,aH H I->aL I->fj I r qs bp->rj (gh ds rows h) bp->Q (.ref r) I
end
theorem ae2 (k:S.Ok) (p:Nat) (h:uI S place sp):mE S p place <= 300000:=by
 have mZ:=k.n7;have aju:=Na S;have ahD:=NW S;have:=TZ h;obtain ⟨a,b⟩:=O1 (AC S).length (by omega) ((Cl S).length - (place + 1).toNat) (by omega);unfold mE;split
 .decide
 .split
  .exact a
  .exact b
theorem akx (T:Txt w K mg t) {m:Nat}:bV P w K mg base c9 (m + 3) t.tN t.tM uG (fun vs H Q E=>∃ d,d <= m/\Af d vs H Q E):=
 ⟨fun vs H Q E ⟨d,hd,h⟩=>(EO (P:=P) (base:=base) T d).len vs H Q E h,fun A outer s H args us vs Q E aj he ae aG ⟨d,hd,h⟩=>((EO T d).mono (show d + 3 <= m + 3 by omega)).run A outer s H args us vs Q E aj he ae aG h⟩
theorem akP:cu P base T 19 t.D2 t.DS kl (Pj P w t):=by
 refine cR (afP T) fun aiS=>cR (amc T) fun adw=>cR (ZI T) fun aea=>cR (akx T (m:=15)) fun DK=>?_;exists T.K6.ok uS,9
 obtain ⟨bE,c,n,ds,rows,h,rfl,eV,R,bU,bC,q⟩:=h;obtain ⟨m',le,mo,c1,dE,aW,ch,ms,aA,ao,C,bJ,e6,gY,e1,ic,pE,nL⟩:=id eV;have j5:=R.j5;have k:=R.ok bU;obtain ⟨d6,Ai⟩:∃ d6:Nat,d6=300000:=⟨_,rfl⟩;refine ⟨_,(aQ (bX (i:=2) uS.aB (bS aiS aj T.agv T.G4.bj T.ahr (db (U 0) (db (U 1) av))))
   (aQ (bX (i:=3) uS.aB (bS adw aj T.ajH T.Hs.bj T.amH (db (U 0) (db (U 1) av))))
   (aQ (bX (i:=4) uS.aB (d4 av))
   (aQ (eU eJ rfl (iw rfl T.hA (db (c4 (U 0) rfl) av)) (b5 (i:=5) uS.aB) (a3 (eU eJ rfl (iw rfl T.hA (db (c4 (U 0) rfl) av)) (b5 (i:=6) uS.aB) (a3 (dW (c5 mz (U 5) (U 6) (cF _)) (a3 (dN (ef e2 qK rb pX (U 4) (db (bS DK aj T.It T.uW.bj T.FL (db (d4 (db (U 5) (db (U 6) av))) (db (U 2) (db (U 3) (db (bS aea aj T.aij T.IH.bj T.ahQ (db (U 2) (db (U 5) (db (U 6) av)))) av))))) av)))) ec)))))
   (a3 (cc (U 4))))))),?_⟩
 exists (fun ay I=>aH H I/\aL I/\∃ ol,I ol=some (.lst (bq (Cl (gh ds rows h))))/\ay=[~~~bE,some (.int h),~~~ol,none,none,none,none]),3
 .nofun;exact ⟨bE,c,n,ds,rows,h,rfl,eV,R,bU,bC,fun p I s' es e=>bD _ _ ⟨s',es,p,e,rfl⟩⟩
 rintro gu H1 ⟨s1,ck,ol,N1,rfl⟩;subst aY;exists (fun ay I=>aH H1 I/\aL I/\∃ bo,I bo=some (.lst (bq (AC (gh ds rows h))))/\ay=[~~~bE,some (.int h),~~~ol,~~~bo,none,none,none]),3
 .nofun;exact ⟨bE,c,n,ds,rows,h,rfl,eV.same s1,R,bU,ck,fun p I s' es e=>bD _ _ ⟨s',es,p,e,rfl⟩⟩
 rintro cH az ⟨s2,cv,bo,hp,rfl⟩;subst aY;exists (fun ay I=>aH az I/\aL I/\∃ bf,az bf=none/\I bf=some (.lst [])/\ay=[~~~bE,some (.int h),~~~ol,~~~bo,~~~bf,none,none]),3
 .nofun;exact ⟨by decide,fun bf mO=>bD _ _ ⟨a' mO,cv.upd,bf,mO,aS,rfl⟩⟩
 rintro gE bI ⟨s3,c0,bf,mO,p4,rfl⟩;have x5:=(s1.trans s2) _ _ ao;subst aY;simp only [dj];generalize ea:gh ds rows h=S at *;have hm:S.m=rows.length:=by rw [<- ea];rfl
 exists (fun ay I=>aH az I/\aL I/\∃ qs bp d8 b4,fj I bf qs bp/\bf ∉ qs/\(∀ ys,ys ∈ bp↔∃ f s ext,ys=f :: s :: ext/\f < S.m/\s < S.m/\f ≠ s/\hT S s (g7 S f s) ext)/\ay=[~~~bE,some (.int h),~~~ol,~~~bo,~~~bf,d8,b4]),0
 .nofun;refine ⟨_,qF T (s3 _ _ x5),_,rfl,by omega,by omega,?_⟩;rw [lB];refine dP.range (fun i σ I=>aH az I/\aL I/\∃ qs bp d8 b4,fj I bf qs bp/\bf ∉ qs/\bp.length <= i * (6 * d6)/\(∀ ys,ys ∈ bp↔∃ f s ext,ys=f :: s :: ext/\f < i/\s < S.m/\f ≠ s/\hT S s (g7 S f s) ext)/\σ=[~~~bE,some (.int h),~~~ol,~~~bo,~~~bf,d8,b4]) ?_ ?_ ?_
  .exact ⟨s3,c0,[],[],_,_,⟨p4,rfl,fun i q xs h=>by simp at h⟩,by simp,fg _,fun ys=>⟨fun h=>by simp at h,fun ⟨f,s,ext,_,h,_⟩=>by omega⟩,rfl⟩
  .rintro i σ cD ag a7;ac_rfl
   obtain ⟨s4,de,qs,bp,d8,b4,ez,mU,jE,nt,rfl⟩:=a7;subst aY;simp only [e_,gU,gM];rw [lP];nofun;refine ⟨_,qF T (s4 _ _ x5),_,rfl,by omega,by omega,?_⟩;rw [lB];refine dP.range (fun j σ I=>aH az I/\aL I/\∃ qs d7 b4,fj I bf qs d7/\bf ∉ qs/\d7.length <= i * (6 * d6) + j * d6/\(∀ ys,ys ∈ d7↔(ys ∈ bp\/∃ s ext,ys=i :: s :: ext/\s < j/\i ≠ s/\hT S s (g7 S i s) ext))/\σ=[~~~bE,some (.int h),~~~ol,~~~bo,~~~bf,some (.int i),b4]) ?_ ?_ ?_
   .exact ⟨s4,de,qs,bp,_,ez,mU,cq jE (v_ _ _),fun ys=>⟨.inl,fun h=>h.elim id (fun ⟨s,ext,_,h,_⟩=>by omega)⟩,rfl⟩
   .rintro j σ c3 aN a7;ac_rfl
    obtain ⟨s5,dT,lM,d7,qt,fh,gK,nz,iW,rfl⟩:=a7;subst aY;simp only [e_,gU,gM];rw [lP];by_cases s6:i=j
    .refine cP false (fun Q aX=>?_) (fun z=>nomatch z) (fun _=>?_)
     .nofun;rw [s6,decide_eq_true rfl];exact aX
     .simp only [f'];refine ⟨s5,dT,lM,d7,_,fh,gK,by have:(j + 1) * d6=j * d6 + d6:=qC j d6;omega,fun ys=>?_,rfl⟩;rw [iW];constructor
      .rintro (h | ⟨s,ext,ab,ai,a5,bQ⟩)
       .exact .inl h
       .exact .inr ⟨s,ext,ab,by omega,a5,bQ⟩
      .rintro (h | ⟨s,ext,ab,ai,a5,bQ⟩)
       .exact .inl h
       .exact .inr ⟨s,ext,ab,by omega,a5,bQ⟩
    .refine cP true (fun Q aX=>?_) (fun _=>?_) (fun z=>nomatch z)
     .nofun;rw [decide_eq_false (fun z=>s6 (by omega))];exact aX
     .nofun;refine ⟨.inl ⟨_,ak.of fh.at_⟩,by decide,fun p aq=>?_⟩;have dO:aH c3 (upd c3 p (.lst [V.int (i:Nat),V.int (j:Nat)])):=a' aq;have BY:=s5.trans dO;refine ⟨ol,S,i,j,rfl,BY _ _ (s2 _ _ N1),k,by omega,by omega,fun place pl=>⟨15,bP _,S,[i,j],j,g7 S i j,place,⟨⟨p,ol,bo,rfl,aS,BY _ _ (s2 _ _ N1),BY _ _ hp⟩,k,⟨[i],rfl⟩,(show (2:Nat) + 15 <= 40 by decide),by omega,pl,?_,dT.upd,fun z=>by unfold g7;rw [if_pos z]⟩,fun r nG Bp fe hJ qe jz Y_ uu rJ Vb=>?_⟩⟩
      .have ab:-1 <= g7 S i j:=by
        rcases pl with ⟨_,e⟩ | ⟨_,y,_,_,e⟩
        .omega
        .rw [e];have:=(kk k y).1;omega
       have:=k.n7;unfold lb;split <;> omega
      .have hP:=fh.same (dO.trans hJ);have hg:bf ∉ nG:=fun kF=>by
        obtain ⟨a,aK⟩:=hD kF;have l2:a < Bp.length:=by rw [<- jz.ln];exact (bY.mp aK).1
        have e:=jz.al a bf _ aK (a_ l2);rw [hP.at_] at e;have bW:lM.map V.ref=bq Bp[a]:=gL.lst.inj (eL e);obtain ⟨ext,ih,_⟩:=(rJ Bp[a]).mp (jb l2);rw [ih] at bW;cases lM with
        | nil=>cases bW
        | cons jA qb=>cases (q2 bW).1
       have Rj:=ae2 k j pl;have apF:(j + 1) * d6=j * d6 + d6:=qC j d6;have Ci:i * (6 * d6) <= 5 * (6 * d6):=sL _ (by omega);have t7:j * d6 <= 5 * d6:=sL _ (by omega);refine ⟨r,rfl,_,hP.at_,_,jz.at_,cq (show _ <= 36 * 300000 by rw [aR,aR,hP.ln,jz.ln];omega) (by decide),fun b u e=>?_,qe.upd,_,_,hP.ext jz gK hg,(fun kF=>(dZ.mp kF).elim gK hg),by rw [cC];omega,fun ys=>?_,_,rfl⟩
       .rw [aZ (Db e mO)];exact hJ _ _ (BY _ _ e)
       .rw [dZ,iW,rJ];constructor
        .rintro ((h | ⟨s,ext,ab,ai,a5,bQ⟩) | ⟨ext,ab,bQ⟩)
         .exact .inl h
         .exact .inr ⟨s,ext,ab,by omega,a5,bQ⟩
         .exact .inr ⟨j,ext,ab,by omega,s6,bQ⟩
        .rintro (h | ⟨s,ext,ab,ai,a5,bQ⟩)
         .exact .inl (.inl h)
         .by_cases cs:s < j
          .exact .inl (.inr ⟨s,ext,ab,cs,a5,bQ⟩)
          .have aT:s=j:=by omega
           subst aT;exact .inr ⟨ext,ab,bQ⟩
   .rintro σ c3 a7;ac_rfl
    obtain ⟨s5,dT,lM,d7,qt,fh,gK,nz,iW,rfl⟩:=a7;subst aY;refine ⟨s5,dT,⟨lM,d7,fh,gK,by have:(i + 1) * (6 * d6)=i * (6 * d6) + 6 * d6:=qC i (6 * d6);have:=sL d6 j5;omega,fun ys=>?_,_,_,rfl⟩⟩;rw [iW,nt];constructor
    .rintro (⟨f,s,ext,ab,ai,a5,bQ⟩ | ⟨s,ext,ab,ai,a5,bQ⟩)
     .exact ⟨f,s,ext,ab,by omega,a5,bQ⟩
     .exact ⟨i,s,ext,ab,by omega,by omega,a5,bQ⟩
    .rintro ⟨f,s,ext,ab,ai,a5,bQ,du⟩;by_cases w8:f < i
     .exact .inl ⟨f,s,ext,ab,w8,a5,bQ,du⟩
     .have p4:f=i:=by omega
      subst p4;exact .inr ⟨s,ext,ab,by omega,bQ,du⟩
  .rintro σ cD a7;ac_rfl
   obtain ⟨s4,de,qs,bp,d8,b4,ez,mU,jE,nt,rfl⟩:=a7;subst aY;refine bD _ _ ⟨s4,de,qs,bp,d8,b4,ez,mU,fun ys=>?_,rfl⟩;rw [nt,hm]
 rintro mw cD ⟨s4,de,qs,bp,d8,b4,ez,mU,nt,rfl⟩;subst aY;nofun;exact q bf qs bp _ ((s1.trans s2).trans s4) de ez nt
unseal L2.gg L2.bz L2.f9 L2.gC L2.h7 L2.fW
section
open PySem.Spec PyProof.Rows
theorem Ga (ar:X.calm=true):mS X (.builtin "sum") (fun xs H Q=>∃ l b',xs=[.ref l]/\ak X.K H l (p8 V.int b')/\(∀ k ∈ b',0 <= k/\k <= 1000000000)/\b'.length <= 1000/\Q (.int b'.sum) H):=by
 intro aa s σ H xs us Q J r h;obtain ⟨l,b',rfl,aM,aE,aD,q⟩:=h;obtain ⟨u,rfl,ej⟩:=lR r;cases ej;obtain ⟨a4,cw,pl,aF⟩:=J.list aM;obtain ⟨xs,ao,aC⟩:=Rm cw;have iB:a4.toArray=intItems xs.toArray:=by rw [ao];unfold intItems;simp
 have uj:s.heap.IsList l (intItems xs.toArray):=by rw [<- iB];exact pl.isList
 have kK:xs.length=b'.length:=by rw [<- aC,aR]
 have aV:∀ i,i < b'.length->b'[i]? = some (numAt xs.toArray i):=fun i ag=>by
  rw [numAt_eq,lJ];show b'[i]? = some (((xs.map (·.1))[i]?).getD 0);rw [aC,a_ ag];rfl
 have sW:∀ n,n <= b'.length->preSum (numAt xs.toArray) n=(b'.take n).sum/\0 <= (b'.take n).sum/\(b'.take n).sum <= 1000000000 * (n:Int):=fun n=>by
  induction n with
  | zero=>intro _;exact ⟨by simp [preSum],by simp,by simp⟩
  | succ n c2=>
   intro Ny;obtain ⟨i1,i2,apd⟩:=c2 (by omega);have e:=aV n (by omega);have aG:=aE _ (bM e);have aT:(b'.take (n + 1)).sum=(b'.take n).sum + numAt xs.toArray n:=by
    rw [nC,e,wL];simp
   refine ⟨?_,by omega,by omega⟩;show preSum (numAt xs.toArray) n + numAt xs.toArray n=_;rw [i1,aT]
 have hsz:xs.toArray.size=b'.length:=by rw [ft,kK]
 refine sum_intList (J.ok.hd ar) uj (fun j aN=>?_) fun h' tk t' k=>⟨.int b'.sum,H,J.kept k,⟨t',?_⟩,q⟩
 .rw [hsz] at aN;have e:=aV j aN;have aG:=aE _ (bM e);obtain ⟨dg,df,nh⟩:=sW (j + 1) (by omega);unfold InLong;rw [dg];omega
 .rw [hsz,(sW _ (bP _)).1,iF]
end
seal L2.gg L2.bz L2.f9 L2.gC L2.h7 L2.fW
theorem acX {K:bc} (Pv:Nat->List V->au->Prop) (n:Nat) (aV:n=min xs.length ys.length) (aF:n <= sizeLine) (h0:Pv 0 [] H) (aD:∀ i zs H,i <= n->Pv i zs H->(ak K H a xs/\ak K H b ys)/\zs.length <= i)
  (aw:∀ i x y zs H p,xs[i]? = some x->ys[i]? = some y->Pv i zs H->H p=none->oV Pv g dd bN dp i (.ref p) zs (upd H p (.tup [x,y]))) (hd:∀ zs H,Pv n zs H->∀ p,H p=none->Q (.ref p) (upd H p (.lst zs))):cX (D5 K a b) g dd bN dp Q H:=by
 refine cX.of (n:=n) Pv aF h0 (fun i zs H ag p=>?_) (fun zs H p=>?_) (fun i zs H ag p=>(aD i zs H (mM ag) p).2) (fun i zs H v I ag p y=>?_) hd
 .obtain ⟨⟨e4,dH⟩,_⟩:=aD i zs H (mM ag) p;exact ⟨xs,ys,xs[i],ys[i],e4,dH,by rw [a_ (by omega)],by rw [a_ (by omega)]⟩
 .obtain ⟨⟨e4,dH⟩,_⟩:=aD n zs H (bP _) p;exact ⟨xs,ys,e4,dH,by omega⟩
 .obtain ⟨q,x,y,aM,rfl,af,aU,rfl⟩:=y;obtain ⟨⟨e4,dH⟩,_⟩:=aD i zs H (mM ag) p;exact aw i x y zs H q (af xs e4) (aU ys dH) p aM
theorem Gs (xs:List V):ij xs (some 1) none=xs.drop 1:=by
 unfold ij;rw [show eO.cZ xs.length xs.length none=xs.length from rfl,show eO.cZ xs.length 0 (some 1)=min 1 xs.length from eO.CQ _ _ 1];cases xs with
 | nil=>rfl
 | cons x r=>rw [Bo (by rw [fQ];omega)];simp
theorem NT (xs:List V) (h:2 <= xs.length):ij xs (some 1) (some (-1))=(xs.drop 1).take (xs.length - 2):=by
 unfold ij;have e:eO.cZ xs.length xs.length (some (-1))=xs.length - 1:=by
  show (if (-1:Int) < 0 then ((-1:Int) + (xs.length:Int)).toNat else min (-1:Int).toNat xs.length)=_;rw [if_pos (by decide)];omega
 rw [e,show eO.cZ xs.length 0 (some 1)=min 1 xs.length from eO.CQ _ _ 1,Bo (by omega),show xs.length - 1 - 1=xs.length - 2 by omega]
structure tw (n:Int) (ds:List bx) (rows:List ST) (cf:Nat->Nat->Int):Prop where
 is:∀ (i j:Nat) (r s:ST),rows[i]? = some r->rows[j]? = some s->i ≠ j->kc (ki n ds r.mem s.mem) (cf i j)
 lo:∀ i j,i < rows.length->j < rows.length->i ≠ j->0 <= cf i j/\cf i j <= 1000
theorem z0 (h:kc l v) (h':kc l w0):v=w0:=by
 have:=h.2 _ h'.1;have:=h'.2 _ h.1;omega
noncomputable def ee (ds:List bx) (rows:List ST) (h i:Nat):Int:=match rows[i]? with
 | some r=>if jd ds rows h=lO then r.lo else r.ag
 | none=>0
noncomputable def l7 (cf:Nat->Nat->Int):List Nat->List Int
 | a :: b :: r=>cf a b :: l7 cf (b :: r)
 | _=>[]
noncomputable def gX (ch:List Nat):List Nat:=(ch.drop 1).take (ch.length - 2)
noncomputable def lF (cf:Nat->Nat->Int) (st:Nat->Int) (ch:List Nat):Int:=(l7 cf ch).sum + ((gX ch).map st).sum
structure yG (m:Nat) (ch:List Nat):Prop where
 cM:2 <= ch.length
 Cm:ch.length <= 40
 lt:∀ x ∈ ch,x < m
 ne:∀ (i:Nat) (a b:Nat),ch[i]? = some a->ch[i + 1]? = some b->a ≠ b
theorem D8 (cf:Nat->Nat->Int):∀ {ch:List Nat} {i a b:Nat},ch[i]? = some a->ch[i + 1]? = some b->(l7 cf ch)[i]? = some (cf a b)
 | x :: y :: r,0,a,b,ab,ai=>by cases ab;cases ai;rfl
 | x :: y :: r,i + 1,a,b,ab,ai=>D8 cf (ch:=y :: r) (i:=i) ab ai
 | [x],0,a,b,ab,ai=>by simp at ai
 | [x],i + 1,a,b,ab,_=>by simp at ab
 | [],i,a,b,ab,_=>by simp at ab
theorem xn (cf:Nat->Nat->Int):∀ ch:List Nat,(l7 cf ch).length=ch.length - 1
 | []=>rfl
 | [x]=>rfl
 | x :: y :: r=>by show (l7 cf (y :: r)).length + 1=_;rw [xn cf (y :: r)];simp
section
variable (P:Program) (w:World)
def QM (t:b6):bO:=fun vs H Q _=>∃ bE c n ds rows,∃ h:Nat,vs=[.ref bE,.int h]/\hv P w t H bE c n ds rows/\h < rows.length/\∀ b,H b=some (.lst ((cY rows.length).map fun i=>V.int (ee ds rows h i)))->Q (.ref b) H
def Fu (t:b6):bO:=fun vs H Q _=>∃ bE c n ds rows cf cl ch,∃ h:Nat,vs=[.ref bE,.int h,.ref cl]/\hv P w t H bE c n ds rows/\kE ds rows/\tw n ds rows cf/\h < rows.length/\H cl=some (.lst (bq ch))/\yG rows.length ch/\aL H/\Q (.int (lF cf (ee ds rows h) ch)) H
def XY (t:b6):bO:=fun vs H Q _=>∃ bE c n ds rows cf cl ch,∃ h:Nat,vs=[.ref bE,.int h,.ref cl]/\hv P w t H bE c n ds rows/\kE ds rows/\tw n ds rows cf/\h < rows.length/\H cl=some (.lst (bq ch))/\yG rows.length ch/\aL H/\∀ I,aH H I->Q (.int (lF cf (ee ds rows h) ch)) I
end
theorem Wb {α:Type} (rows:List ST) (f:ST->V) (g:Nat->V) (h:∀ i r,rows[i]? = some r->f r=g i):rows.map f=(cY rows.length).map g:=by
 refine acC (by simp) fun i ab ai=>?_
 rw [aR] at ab;rw [vF,vF,Li];exact h i _ (a_ ab)
theorem UC:cu P base T 1 t.CC t.BF kl (QM P w t):=by
 exists T.EF.ok akd,9
 obtain ⟨bE,c,n,ds,rows,h,rfl,eV,bU,q⟩:=h;obtain ⟨m',le,mo,c1,dE,aW,ch,ms,aA,ao,C,bJ,e6,gY,e1,ic,pE,nL⟩:=id eV;refine ⟨_,(a3 (cc (CS (c5 eQ (bl b0 (c4 (U 0) rfl) (U 1)) dy (cF _)) (c4 (U 0) rfl) (c4 (U 0) rfl)))),?_⟩;nofun;refine ⟨_,xa T ao,_,rfl,_,ak.of e1,_,bA (vN (zv bU)),rfl,?_⟩;by_cases ct:jd ds rows h=lO
 .rw [if_pos (by rw [ct];exact decide_eq_true rfl)];refine ⟨_,Q0 T ao,q le ?_⟩;rw [bJ,Wb (α:=Nat) rows (fun r=>V.int r.lo) (fun i=>V.int (ee ds rows h i)) (fun i r dY=>by unfold ee;rw [dY];simp only [];rw [if_pos ct])]
 .rw [if_neg (by rw [decide_eq_false (fun z=>ct (by injection z))];exact hh)];refine ⟨_,aaL T ao,q mo ?_⟩;rw [e6,Wb (α:=Nat) rows (fun r=>V.int r.ag) (fun i=>V.int (ee ds rows h i)) (fun i r dY=>by unfold ee;rw [dY];simp only [];rw [if_neg ct])]
theorem Om:cu P base T 2 t.Op t.xj ze (Fu P w t):=by
 refine bV.forget (sp:=XY P w t) ?_ fun vs H Q E h=>?_
 .have Lf:bV P w K mg base c9 1 t.CC t.BF kl (QM P w t):=UC T;have y':bV P w K mg base c9 1 t.zC t.Ac vW (WW P w t):=Jh T;exists T.Ca.ok Mv,9
  obtain ⟨bE,c,n,ds,rows,cf,cl,ch,h,rfl,eV,R,iT,bU,dR,co,bC,q⟩:=h;refine ⟨_,(aQ (om (i:=3) Mv.aB rfl (kx rfl) (bS Lf aj T.TV T.EF.bj T.QE (db (U 0) (db (U 1) av))))
   (aQ (yr (i:=4) Mv.aB rfl (qw rfl) rfl (GV rfl T.Jx (db (U 2) (db (mf rQ (U 2) (k7 aJ) ou) av))) (fy (sc:=bt Cf) rfl (by ac_nf)) (N:=Ie) (sel:=[none,none,some 0]) (fs (M:=MQ) (by ac_nf)) (eT.of (fun _ _ _ _=>(kW (K:=K) (n:=2) rfl rfl (eG (b5 (i:=0) (dX (N:=Ie) (by ac_nf) rfl)) (eG (b5 (i:=1) (dX (N:=Ie) (by ac_nf) rfl)) kJ)))) (fun _ _ _ _=>⟨_,gV,by walk_at "B"⟩) (fun _ _ _ _=>⟨_,(bS y' aj T.HI T.y6.bj T.IJ (db (U 2) (db (U 0) (db (U 1) av)))),by walk_at "B"⟩)) rfl)
   (a3 (cc (bG er (ep (Ga rfl) rfl T.M3 HX (db (U 4) av)) (ep (Ga rfl) rfl T.M3 HX (db (gy rfl (eZ (mf rQ (U 2) (k7 aJ) (k7 (pL pC aJ)))) (fy (sc:=bt Cf) rfl (by ac_nf)) (N:=["number","stays"]) (sel:=[none,some 3]) (fs (M:=MQ) (by ac_nf)) (eT.of (fun _ _ _ _=>(b5 (i:=0) (dX (N:=["number","stays"]) (by ac_nf) rfl))) (fun _ _ _ _=>⟨_,gV,by walk_at "B"⟩) (fun _ _ _ _=>⟨_,(bl b0 (U 1) (U 0)),by walk_at "B"⟩))) av))))))),?_⟩
  exists (fun ay I=>I=H/\∃ b,H b=some (.lst ((cY rows.length).map fun i=>V.int (ee ds rows h i)))/\ay=[~~~bE,some (.int h),~~~cl,~~~b,none]),3
  .nofun;exact ⟨bE,c,n,ds,rows,h,rfl,eV,bU,fun b e=>bD _ _ ⟨rfl,b,e,rfl⟩⟩
  rintro gu H1 ⟨rfl,b,eA,rfl⟩;subst aY;exists (fun ay I=>aH H1 I/\aL I/\∃ zb,I zb=some (.lst ((l7 cf ch).map V.int))/\ay=[~~~bE,some (.int h),~~~cl,~~~b,~~~zb]),3
  .have pa:=co.cM;have GH:=co.Cm;nofun;refine ⟨_,ak.of dR,fun p aq=>⟨⟨_,ak.of (a' aq _ _ dR)⟩,⟨_,ak.of aS⟩,?_⟩⟩;have oz:ij (bq ch) (some 1) none=bq (ch.drop 1):=by rw [Gs];unfold bq;rw [tW]
   rw [oz];have s1:aH H1 (upd H1 p (.lst (bq (ch.drop 1)))):=a' aq;have cE:upd H1 p (.lst (bq (ch.drop 1))) p=some (.lst (bq (ch.drop 1))):=aS;have i0:aL (upd H1 p (.lst (bq (ch.drop 1)))):=bC.upd;generalize upd H1 p (.lst (bq (ch.drop 1)))=az at s1 cE i0 ⊢;refine acX (xs:=bq ch) (ys:=bq (ch.drop 1)) (fun i zs I=>aH az I/\aL I/\zs=((l7 cf ch).take i).map V.int) (ch.length - 1) (by rw [eF,eF,lH];omega) (cq (show _ <= 40 by omega) (by decide)) ⟨aH.refl _,i0,rfl⟩ (fun i zs I ag ⟨bu,_,e⟩=>⟨⟨ak.of (bu _ _ (s1 _ _ dR)),ak.of (bu _ _ cE)⟩,by rw [e,aR,gZ];omega⟩) ?_ ?_
   .rintro i x y zs I r af aU ⟨bu,es,rfl⟩ dY N bb;unfold bq at af aU;obtain ⟨a,aK,rfl⟩:=cm af;obtain ⟨gv,ae,rfl⟩:=cm aU;rw [HF,akg] at ae;have O2:aH I (upd I r (.tup [.int (a:Nat),.int (gv:Nat)])):=a' dY;have l2:=co.lt a (bM aK);have Sj:=co.lt gv (bM ae);refine tn ?_;nofun;refine ⟨Sub.Vn,bE,c,n,ds,rows,a,gv,_,_,rfl,eV.same (s1.trans (bu.trans O2)),a_ l2,a_ Sj,co.ne i a gv aK ae,es.upd,fun v aG=>bb _ _ ⟨bu.trans O2,es.upd,?_⟩⟩;have ev:=z0 aG (iT.is a gv _ _ (a_ l2) (a_ Sj) (co.ne i a gv aK ae));rw [nC,D8 cf aK ae,dA,ev];rfl
   .rintro zs I ⟨bu,es,rfl⟩ zb Eb;rw [Cw (by rw [xn];exact bP _)];exact bD _ _ ⟨s1.trans (bu.trans (a' Eb)),es.upd,zb,aS,rfl⟩
  rintro cH az ⟨s2,cv,zb,ahc,rfl⟩;have pa:=co.cM;have GH:=co.Cm;have f_:∀ x ∈ gX ch,x < rows.length:=fun x af=>co.lt x (zY (td af))
  have ff:∀ x,x < rows.length->0 <= ee ds rows h x/\ee ds rows h x <= 1000:=fun x af=>by
   have:=R.lo _ (jb af);unfold ee;rw [a_ af];simp only [];split <;> omega
  have HR:∀ v ∈ l7 cf ch,0 <= v/\v <= 1000000000:=fun v aG=>by
   obtain ⟨i,ag⟩:=hD aG;have iB:i < ch.length - 1:=by rw [<- xn cf];exact (bY.mp ag).1
   have aK:ch[i]? = some (ch[i]'(by omega)):=a_ (by omega);have ae:ch[i + 1]? = some (ch[i + 1]'(by omega)):=a_ (by omega);rw [D8 cf aK ae] at ag;have:=iT.lo _ _ (co.lt _ (bM aK)) (co.lt _ (bM ae)) (co.ne i _ _ aK ae);cases ag;omega
  subst aY;nofun;refine ⟨l7 cf ch,ak.of ahc,HR,by rw [xn];omega,_,ak.of (s2 _ _ dR),fun p aq=>⟨⟨_,ak.of aS⟩,?_⟩⟩;have oz:ij (bq ch) (some 1) (some (-1))=bq (gX ch):=by
   rw [NT _ (by rw [eF];exact pa),eF];unfold bq gX;rw [L9,tW]
  rw [oz];have s3:aH az (upd az p (.lst (bq (gX ch)))):=a' aq;refine cX.kU (xs:=bq (gX ch)) (zs:=((gX ch).map (ee ds rows h)).map V.int) (ak.of aS) (cq (show _ <= 40 by rw [eF];unfold gX;rw [gZ];omega) (by decide)) (by rw [eF,aR,aR]) (fun i v z N aG aF bb=>?_) (fun l aD=>?_)
  .unfold bq at aG;obtain ⟨x,af,rfl⟩:=cm aG;obtain ⟨y,aU,rfl⟩:=cm aF;obtain ⟨ie,e7,rfl⟩:=cm aU;rw [af] at e7;cases e7;have kK:=f_ x (bM af);nofun;exact ⟨Sub.name,_,ak.of (s3 _ _ (s2 _ _ eA)),_,bA (by rw [cV,oB kK];rfl),bb⟩
  .refine ⟨l,rfl,_,ak.of aS,fun v aG=>?_,by rw [aR];unfold gX;rw [gZ];omega,q _ (s2.trans (s3.trans (a' aD)))⟩;obtain ⟨x,af,rfl⟩:=b2.mp aG;have:=ff x (f_ x af);omega
 .obtain ⟨bE,c,n,ds,rows,cf,cl,ch,h,rfl,eV,R,iT,bU,dR,co,bC,q⟩:=h;exact ⟨bC,bE,c,n,ds,rows,cf,cl,ch,h,rfl,eV,R,iT,bU,dR,co,bC,fun I bu=>⟨bu,q⟩⟩
def ac3 (P:Program) (w:World) (t:b6):bO:=fun vs H Q _=>∃ a c n ds rows,∃ k:Nat,∃ r,vs=[.ref a,.int k]/\hv P w t H a c n ds rows/\rows[k]? = some r/\∀ p,H p=none->Q (.ref p) (upd H p (.lst (ba r.mem)))
structure hM (B H:au) (p:Addr) (qs:List Addr):Prop where
 at_:H p=some (.lst (qs.map V.ref))
 al:∀ q ∈ qs,B q=none/\q ≠ p/\∃ ys,H q=some (.lst ys)/\ys.length <= 1
theorem hM.same {p:Addr} (h:hM B H p qs) (s:aH H I):hM B I p qs:=⟨s _ _ h.at_,fun q aM=>let ⟨a,b,ys,e,l⟩:=h.al q aM;⟨a,b,ys,s _ _ e,l⟩⟩
theorem hM.put {p:Addr} (h:∀ q ∈ qs,B q=none/\q ≠ p/\∃ ys,H q=some (.lst ys)/\ys.length <= 1) (e:zs=qs.map V.ref):hM B (upd H p (.lst zs)) p qs:=⟨by rw [aS,e],fun q aM=>by
 obtain ⟨a,b,ys,e,l⟩:=h q aM;exact ⟨a,b,ys,by rw [aZ b];exact e,l⟩⟩
theorem hM.ext {p b:Addr} (h:hM B H p qs) (s:aH H I) (g:hM C I b gJ) (aaz:aH B C) (cK:C p=H p):hM B (upd I p (.lst (qs.map V.ref ++ gJ.map V.ref))) p (qs ++ gJ):=by
 refine hM.put (fun q aM=>?_) (by rw [dA]);rcases dZ.mp aM with z | z
 .obtain ⟨a,b,ys,e,l⟩:=h.al q z;exact ⟨a,b,ys,s _ _ e,l⟩
 .obtain ⟨a,_,ys,e,l⟩:=g.al q z;refine ⟨aaz.free a,fun w=>?_,ys,e,l⟩;rw [w,cK,h.at_] at a;cases a
section
variable (P:Program) (w:World)
def aj9 (t:b6):bO:=fun vs H Q _=>∃ bE c n ds rows cf,∃ i j:Nat,∃ jI:Int,vs=[.ref bE,.int i,.int j,.int jI]/\hv P w t H bE c n ds rows/\kE ds rows/\tw n ds rows cf/\i < rows.length/\j < rows.length/\i ≠ j/\(1 <= jI/\jI <= 1000)/\aL H /\
 ∀ p qs I,aH H I->aL I->hM H I p qs->(qs.length:Int)=jI + cf i j->Q (.ref p) I
end
structure o3 (m h f i:Nat) (st:List Nat):Prop where
 CE:st ≠ []
 len:st.length <= 1 + i
 lt:∀ x ∈ st,x < m
 ne:∀ (k a b:Nat),st[k]? = some a->st[k + 1]? = some b->a ≠ b
 b_:i=1->st.getLast? = some h
 cM:i=2->st.getLast? = some f
theorem o3.put {m h f i:Nat} {st:List Nat} (S:o3 m h f i st) {x y:Nat} (aU:st.getLast? = some y) (af:x < m) (cB:x ≠ y) (ab:i + 1=1->x=h) (ai:i + 1=2->x=f):o3 m h f (i + 1) (st ++ [x]):=by
 refine ⟨by simp,by rw [cC];show st.length + 1 <= _;have:=S.len;omega,fun z aF=>?_,fun k a b aK ae=>?_,fun z=>by rw [ahG];simp [ab z],fun z=>by rw [ahG];simp [ai z]⟩
 .rcases dZ.mp aF with z | z
  .exact S.lt _ z
  .rw [eu.mp z];exact af
 .rcases ka ae with ⟨g1,g2⟩ | ⟨g1,g2⟩
  .rw [m9 (by omega)] at aK;exact S.ne k a b aK g2
  .rw [m9 (by omega)] at aK;rw [LK,show st.length - 1=k by omega,aK] at aU;cases aU;rw [g2];exact dF cB
theorem o3.nv {m h f i:Nat} {st:List Nat} (S:o3 m h f i st) {x:Nat} (aU:st.getLast? = some x) (ab:i + 1=1->x=h) (ai:i + 1=2->x=f):o3 m h f (i + 1) st:=⟨S.CE,by have:=S.len;omega,S.lt,S.ne,fun z=>by rw [aU,ab z],fun z=>by rw [aU,ai z]⟩
def aiz:bO:=fun vs H Q _=>∃ bE,∃ m h f:Nat,vs=[.ref bE,.int h,.int f]/\h < m/\f < m/\aL H/\∀ p st I,aH H I->aL I->I p=some (.lst (bq st))->o3 m h f 2 st->Q (.ref p) I
theorem aaK:cu P base T 1 t.K2 t.No Br (ac3 P w t):=by
 exists T.Bx.ok Xw,9
 obtain ⟨a,c,n,ds,rows,k,r,rfl,⟨ax,le,mo,c1,dE,aW,ch,ms,aA,ao,_,_,_,M,_⟩,aE,q⟩:=h;have WU:ms[k]? = some (ms[k]'(by rw [M.ln,aR];exact (bY.mp aE).1)):=a_ _;have em:=M.al k _ _ WU (by rw [cV,aE];rfl);refine ⟨_,(a3 (cc (oN aiU rfl T.aa_ aeQ (db (bl b0 (c4 (U 0) rfl) (U 1)) av)))),?_⟩;nofun;exact ⟨_,Iz T ao,_,rfl,_,ak.of M.at_,_,bA (by rw [cV,WU];rfl),_,rfl,_,.inl (ak.of em),fun l aD=>q l aD⟩
theorem ac4:cu P base T 2 t.LA t.G3 IU (aj9 P w t):=by
 refine cR (aaK T) fun Vg=>cR (Jh T) fun y'=>?_;exists T.AK.ok DE,9
 obtain ⟨bE,c,n,ds,rows,cf,i,j,jI,rfl,eV,R,iT,ag,aN,lS,apS,bC,q⟩:=h;have iS:rows[i]? = some rows[i]:=a_ ag;have ib:rows[j]? = some rows[j]:=a_ aN;obtain ⟨xr,ue,qH⟩:=rl (R.c1 _ (jb ag));obtain ⟨z',aof,rg⟩:=rl (R.c1 _ (jb aN));have HR:=iT.lo i j ag aN lS;refine ⟨_,(aQ (om (i:=4) DE.aB rfl (kx rfl) (bl b0 (bS Vg aj T.Qu T.Bx.bj T.Wx (db (U 0) (db (U 1) av))) aJ))
   (aQ (bX (i:=5) DE.aB (bl b0 (bS Vg aj T.Qu T.Bx.bj T.Wx (db (U 0) (db (U 2) av))) aJ))
   (aQ (yr (i:=6) DE.aB rfl (qw rfl) rfl (iw rfl T.hA (db (bG Uf (U 3) aJ) av)) (fy (sc:=bt BN) rfl (by ac_nf)) (N:=["turn","own"]) (sel:=[none,some 4]) (fs (M:=Fz) (by ac_nf)) (eT.of (fun _ _ _ _=>(b5 (i:=0) (dX (N:=["turn","own"]) (by ac_nf) rfl))) (fun _ _ _ _=>⟨_,gV,by walk_at "B"⟩) (fun _ _ _ _=>⟨_,(d4 (db (U 1) av)),by walk_at "B"⟩)) rfl)
   (aQ (dN (ef e2 h2 iC hY (U 6) (db (d4 (db (U 5) av)) av)))
   (aQ (dN (ef e2 qK rb pX (U 6) (db (gy rfl (iw rfl T.hA (db (bS y' aj T.HI T.y6.bj T.IJ (db (U 0) (db (U 1) (db (U 2) av)))) av)) (fy (sc:=bt BN) rfl (by ac_nf)) (N:=["turn"]) (sel:=[none]) (fs (M:=Fz) (by ac_nf)) (eT.of (fun _ _ _ _=>(b5 (i:=0) (dX (N:=["turn"]) (by ac_nf) rfl))) (fun _ _ _ _=>⟨_,gV,by walk_at "B"⟩) (fun _ _ _ _=>⟨_,(d4 av),by walk_at "B"⟩))) av)))
   (a3 (cc (U 6)))))))),?_⟩
 exists (fun ay I=>aH H I/\aL I/\ay=[~~~bE,some (.int i),some (.int j),some (.int jI),some (.str xr),none,none]),3
 .nofun;exact ⟨bE,c,n,ds,rows,i,_,rfl,eV,iS,fun p aq=>⟨p,rfl,_,ak.of aS,_,by rw [qH];exact bA (j:=0) rfl,bD _ _ ⟨a' aq,bC.upd,rfl⟩⟩⟩
 rintro gu H1 ⟨s1,ck,rfl⟩;subst aY;exists (fun ay I=>aH H1 I/\aL I/\ay=[~~~bE,some (.int i),some (.int j),some (.int jI),some (.str xr),some (.str z'),none]),3
 .nofun;exact ⟨bE,c,n,ds,rows,j,_,rfl,eV.same s1,ib,fun p aq=>⟨p,rfl,_,ak.of aS,_,by rw [rg];exact bA (j:=0) rfl,bD _ _ ⟨a' aq,ck.upd,rfl⟩⟩⟩
 rintro cH az ⟨s2,cv,rfl⟩;have y_:=s1.trans s2;subst aY;exists (fun ay I=>aH az I/\aL I/\∃ ap qs,az ap=none/\hM H I ap qs/\(qs.length:Int)=jI - 1/\ay=[~~~bE,some (.int i),some (.int j),some (.int jI),some (.str xr),some (.str z'),~~~ap]),3
 .nofun;refine ⟨by omega,by omega,?_⟩;refine cX.range (fun k ys I=>aH az I/\aL I/\∃ j0:List Addr,ys=j0.map V.ref/\j0.length=k/\∀ q ∈ j0,az q=none/\∃ zs,I q=some (.lst zs)/\zs.length <= 1) (cq (show _ <= 1000 by omega) (by decide)) ⟨aH.refl _,cv,[],rfl,rfl,fun q h=>by simp at h⟩ ?_ ?_ ?_
  .rintro k ys I aE a7;ac_rfl
   obtain ⟨_,_,j0,rfl,aM,_⟩:=a7;subst aY;rw [aR,aM];exact bP _
  .rintro k ys I aE ⟨bu,es,j0,rfl,aM,al⟩ N bb;nofun;refine ⟨Sub.name,by decide,fun p aq=>bb _ _ ⟨bu.trans (a' aq),es.upd,j0 ++ [p],by rw [dA];rfl,by rw [cC,aM];rfl,fun cb e0=>?_⟩⟩;rcases dZ.mp e0 with z | z
   .obtain ⟨a,zs,e,l⟩:=al cb z;exact ⟨a,zs,a' aq _ _ e,l⟩
   .rw [eu.mp z];exact ⟨bu.free aq,_,aS,by simp⟩
  .rintro ys I ⟨bu,es,j0,rfl,aM,al⟩ ap tR;exact bD _ _ ⟨bu.trans (a' tR),es.upd,ap,j0,bu.free tR,hM.put (fun cb e0=>by obtain ⟨a,zs,e,l⟩:=al cb e0;exact ⟨y_.free a,Db e tR,zs,e,l⟩) rfl,by rw [aM];omega,rfl⟩
 rintro gE bI ⟨s3,c0,ap,qs,tR,oc,Te,rfl⟩;subst aY;exists (fun ay I=>aH az I/\aL I/\∃ qs,hM H I ap qs/\(qs.length:Int)=jI/\ay=[~~~bE,some (.int i),some (.int j),some (.int jI),some (.str xr),some (.str z'),~~~ap]),3
 .nofun;refine ⟨.inl ⟨_,ak.of oc.at_⟩,by decide,fun p aq=>⟨_,a' aq _ _ oc.at_,gI (show _ <= 1000 by rw [aR];omega) (by decide),bD _ _ ⟨fun b u e=>?_,(c0.upd).upd,qs ++ [p],hM.put (fun cb e0=>?_) (by rw [dA];rfl),by rw [cC];show ((qs.length + 1:Nat):Int)=jI;omega,rfl⟩⟩⟩
  .rw [aZ (Db e tR)];exact a' aq _ _ (s3 _ _ e)
  .rcases dZ.mp e0 with z | z
   .obtain ⟨a,b,zs,e,l⟩:=oc.al cb z;exact ⟨a,b,zs,a' aq _ _ e,l⟩
   .rw [eu.mp z];exact ⟨(y_.trans s3).free aq,fun w=>(by rw [w,oc.at_] at aq;cases aq),_,aS,bP 1⟩
 rintro mw cD ⟨s4,de,jm,ez,P9,rfl⟩;subst aY;exists (fun ay I=>aH az I/\aL I/\∃ qs,hM H I ap qs/\(qs.length:Int)=jI + cf i j/\ay=[~~~bE,some (.int i),some (.int j),some (.int jI),some (.str xr),some (.str z'),~~~ap]),3
 .nofun;refine ⟨.inl ⟨_,ak.of ez.at_⟩,bE,c,n,ds,rows,i,j,_,_,rfl,eV.same (y_.trans s4),iS,ib,lS,de,fun v aG=>?_⟩;have ev:=z0 aG (iT.is i j _ _ iS ib lS);subst ev;refine ⟨_,rfl,by omega,by omega,?_⟩;refine cX.range (fun k ys I=>aH cD I/\aL I/\∃ j0:List Addr,ys=j0.map V.ref/\j0.length=k/\∀ q ∈ j0,cD q=none/\∃ zs,I q=some (.lst zs)/\zs.length <= 1) (cq (show _ <= 1000 by omega) (by decide)) ⟨aH.refl _,de,[],rfl,rfl,fun q h=>by simp at h⟩ ?_ ?_ ?_
  .rintro k ys I aE a7;ac_rfl
   obtain ⟨_,_,j0,rfl,aM,_⟩:=a7;subst aY;rw [aR,aM];exact bP _
  .rintro k ys I aE ⟨bu,es,j0,rfl,aM,al⟩ N bb;nofun;refine ⟨Sub.name,by decide,fun p aq=>bb _ _ ⟨bu.trans (a' aq),es.upd,j0 ++ [p],by rw [dA];rfl,by rw [cC,aM];rfl,fun cb e0=>?_⟩⟩;rcases dZ.mp e0 with z | z
   .obtain ⟨a,zs,e,l⟩:=al cb z;exact ⟨a,zs,a' aq _ _ e,l⟩
   .rw [eu.mp z];exact ⟨bu.free aq,_,aS,by simp⟩
  .rintro ys I ⟨bu,es,j0,rfl,aM,al⟩ aib De;have s5:=bu.trans (a' (o:=.lst (j0.map V.ref)) De);refine ⟨aib,rfl,_,s5 _ _ ez.at_,_,aS,cq (show _ <= 3000 by rw [aR,aR,aM];omega) (by decide),bD _ _ ⟨fun b u e=>?_,(es.upd).upd,jm ++ j0,hM.put (fun cb e0=>?_) (by rw [dA]),by rw [cC,aM];omega,rfl⟩⟩
   .rw [aZ (Db e tR)];exact s5 _ _ (s4 _ _ e)
   .rcases dZ.mp e0 with z | z
    .obtain ⟨a,b,zs,e,l⟩:=ez.al cb z;exact ⟨a,b,zs,s5 _ _ e,l⟩
    .obtain ⟨a,zs,e,l⟩:=al cb z;exact ⟨(y_.trans s4).free a,fun w=>(by rw [w,ez.at_] at a;cases a),zs,a' De _ _ e,l⟩
 rintro zf c3 ⟨s5,dT,lM,fh,anj,rfl⟩;subst aY;nofun;exact q ap lM _ (y_.trans s5) dT fh anj
theorem xL {m h f:Nat} (bU:h < m) (hf:f < m):∀ {i:Nat} {v:V},[V.int (h:Nat),V.int (f:Nat)][i]? = some v->∃ x:Nat,x < m/\v=.int (x:Nat)/\(i + 1=1->x=h)/\(i + 1=2->x=f)
 | 0,_,aG=>by cases aG;exact ⟨h,bU,rfl,fun _=>rfl,(fun z=>by cases z)⟩
 | 1,_,aG=>by cases aG;exact ⟨f,hf,rfl,(fun z=>by cases z),fun _=>rfl⟩
 | i + 2,_,aG=>by simp at aG
theorem abI:cu P base T 1 t.II t.wp MO aiz:=by
 exists T.MX.ok Il,9
 obtain ⟨bE,m,h,f,rfl,bU,hf,bC,q⟩:=h;refine ⟨_,(aQ (bX (i:=3) Il.aB (d4 (db aJ av)))
   (aQ (eU eJ rfl (eZ (d4 (db (U 1) (db (U 2) av)))) (b5 (i:=4) Il.aB) (a3 (dW (c5 mz (U 4) (bl b0 (U 3) (pL pC aJ)) (cF _)) (a3 (dN (ef e2 h2 iC hY (U 3) (db (U 4) av)))) ec)))
   (a3 (cc (U 3))))),?_⟩
 exists (fun ay I=>aH H I/\aL I/\∃ sp,H sp=none/\I sp=some (.lst (bq [0]))/\ay=[~~~bE,some (.int h),some (.int f),~~~sp,none]),3
 .nofun;exact ⟨by decide,fun sp jc=>bD _ _ ⟨a' jc,bC.upd,sp,jc,aS,rfl⟩⟩
 rintro gu H1 ⟨s1,ck,sp,jc,ao,rfl⟩;subst aY;exists (fun ay I=>aH H I/\aL I/\∃ st c8,I sp=some (.lst (bq st))/\o3 m h f 2 st/\ay=[~~~bE,some (.int h),some (.int f),~~~sp,c8]),3
 .nofun;refine ⟨by decide,fun p aq=>⟨⟨_,ak.of aS⟩,?_⟩⟩;have s2:aH H1 (upd H1 p (.lst [V.int (h:Nat),V.int (f:Nat)])):=a' aq;have sW:p ≠ sp:=fun z=>by rw [z,ao] at aq;cases aq
  refine dP.list (xs:=[V.int (h:Nat),V.int (f:Nat)]) (fun i σ I=>aH H I/\aL I/\I p=some (.lst [V.int (h:Nat),V.int (f:Nat)])/\∃ st c8,I sp=some (.lst (bq st))/\o3 m h f i st/\σ=[~~~bE,some (.int h),some (.int f),~~~sp,c8]) ?_ ?_ ?_ ?_
  .refine ⟨s1.trans s2,ck.upd,aS,[0],_,s2 _ _ ao,⟨by simp,bP _,fun x af=>?_,(fun k a b aK ae=>by simp at ae),(fun z=>by cases z),(fun z=>by cases z)⟩,rfl⟩;rw [eu.mp af];omega
  .rintro i σ I ag a7;ac_rfl
   obtain ⟨_,_,e,_⟩:=a7;subst aY;exact ak.of e
  .rintro i v σ I aG a7;ac_rfl
   obtain ⟨s3,c0,cE,st,c8,aT,S,rfl⟩:=a7;obtain ⟨x,af,Jz,QC,DQ⟩:=xL bU hf aG;subst aY;subst Jz;obtain ⟨y,aU⟩:∃ y,st.getLast? = some y:=⟨st.getLast S.CE,List.getLast?_eq_some_getLast S.CE⟩;have i':eE (bq st) (-1)=some (.int (y:Nat)):=r8 (by rw [eF];exact fS (by rw [<- LK];exact aU));have an5:=S.len;have iB:i < 2:=(bY.mp aG).1;simp only [e_,gU,gM];by_cases AS:x=y
   .refine cP false (fun Q aX=>?_) (fun z=>nomatch z) (fun _=>?_)
    .nofun;refine ⟨_,ak.of aT,_,i',rfl,?_⟩;rw [AS,decide_eq_true rfl];exact aX
    .simp only [f'];exact ⟨s3,c0,cE,st,_,aT,S.nv (by rw [AS];exact aU) QC DQ,rfl⟩
   .refine cP true (fun Q aX=>?_) (fun _=>?_) (fun z=>nomatch z)
    .nofun;refine ⟨_,ak.of aT,_,i',rfl,?_⟩;rw [decide_eq_false (fun z=>AS (by injection z with z;omega))];exact aX
    .nofun;refine ⟨.inl ⟨_,ak.of aT⟩,_,aT,gI (show _ <= 10 by rw [eF];omega) (by decide),fun b u e=>?_,c0.upd,by rw [aZ sW];exact cE,st ++ [x],by rw [aS];unfold bq;rw [dA];rfl,S.put aU af AS QC DQ,_,rfl⟩;rw [aZ (Db e jc)];exact s3 _ _ e
  .rintro σ I a7;ac_rfl
   obtain ⟨s3,c0,cE,st,c8,aT,S,rfl⟩:=a7;subst aY;exact bD _ _ ⟨s3,c0,st,c8,aT,S,rfl⟩
 rintro cH az ⟨s2,cv,st,c8,aC,kC,rfl⟩;subst aY;nofun;exact q sp st _ s2 cv aC kC
theorem adM (xs:List V):ij xs (some 2) none=xs.drop 2:=by
 unfold ij;rw [show eO.cZ xs.length xs.length none=xs.length from rfl,show eO.cZ xs.length 0 (some 2)=min 2 xs.length from eO.CQ _ _ 2]
 match xs with
 | []=>rfl
 | [x]=>rfl
 | x :: y :: r=>rw [Bo (by simp)];simp
section
variable (P:Program) (w:World)
def VM (t:b6):bO:=fun vs H Q _=>∃ bE c n ds rows cf name cl ch,vs=[.ref bE,.str name,.ref cl]/\hv P w t H bE c n ds rows/\kE ds rows/\tw n ds rows cf/\H cl=some (.lst (bq ch))/\yG rows.length ch/\aL H /\
 ∀ r a b I,aH H I->aL I->I r=some (.tup [.ref a,.int b])->Q (.ref r) I
end
theorem alB:cu P base T 3 t.zO t.AE Bk (VM P w t):=by
 refine cR (abI T) fun adU=>cR (ac4 T) fun Vp=>cR (Jh T) fun y'=>cR (UC T) fun Lf=>?_;exists T.im.ok pk,9
 obtain ⟨bE,c,n,ds,rows,cf,name,cl,ch,rfl,eV,R,iT,dR,co,bC,q⟩:=h;have pa:=co.cM;have GH:=co.Cm;obtain ⟨ct,h0⟩:∃ ct,ch[0]? = some ct:=⟨ch[0]'(by omega),a_ _⟩;obtain ⟨a9,ab⟩:∃ a9,ch[1]? = some a9:=⟨ch[1]'(by omega),a_ _⟩;obtain ⟨hm,bU⟩:∃ hm,ch[ch.length - 1]? = some hm:=⟨ch[ch.length - 1]'(by omega),a_ _⟩;have pV:=co.lt ct (bM h0);have hE:=co.lt a9 (bM ab);have WY:=co.lt hm (bM bU);have DO:=co.ne 0 ct a9 h0 ab;have HR:=iT.lo ct a9 pV hE DO;have ff:∀ x,x < rows.length->1 <= ee ds rows hm x/\ee ds rows hm x <= 1000:=fun x af=>by
  have:=R.lo _ (jb af);unfold ee;rw [a_ af];simp only [];split <;> omega
 obtain ⟨m',le,mo,c1,dE,aW,N_,ms,aA,ao,C,bJ,e6,gY,e1,ic,pE,nL⟩:=id eV;refine ⟨_,(aQ (bX (i:=3) pk.aB (bl b0 (U 2) (pL pC aJ)))
   (aQ (bX (i:=4) pk.aB (bS adU aj T.amz T.MX.bj T.Xj (db (U 0) (db (U 3) (db (bl b0 (U 2) aJ) av)))))
   (aQ (bX (i:=5) pk.aB (d4 av))
   (aQ (eU eJ rfl (GV rfl T.Jx (db (U 4) (db (bG BX (mf rQ (U 4) (k7 aJ) ou) (d4 (db (bl b0 (U 2) aJ) av))) av))) (kW (K:=K) (n:=2) rfl rfl (eG (b5 (i:=6) pk.aB) (eG (b5 (i:=7) pk.aB) kJ))) (a3 (dN (ef e2 qK rb pX (U 5) (db (bS Vp aj T.Wp T.AK.bj T.UR (db (U 0) (db (U 6) (db (U 7) (db (bl b0 (c4 (U 0) rfl) (U 6)) av))))) av)))))
   (aQ (bX (i:=8) pk.aB (bG Uf (ep fV rfl T.fG fJ (db (U 5) av)) (bS y' aj T.HI T.y6.bj T.IJ (db (U 0) (db (bl b0 (U 2) aJ) (db (bl b0 (U 2) aJ) av))))))
   (aQ (bX (i:=9) pk.aB (bS Lf aj T.TV T.EF.bj T.QE (db (U 0) (db (U 3) av))))
   (aQ (eU eJ rfl (GV rfl T.Jx (db (mf rQ (U 2) (k7 aJ) ou) (db (mf rQ (U 2) (k7 aJ) ou) av))) (kW (K:=K) (n:=2) rfl rfl (eG (b5 (i:=6) pk.aB) (eG (b5 (i:=7) pk.aB) kJ))) (a3 (dN (ef e2 qK rb pX (U 5) (db (bS Vp aj T.Wp T.AK.bj T.UR (db (U 0) (db (U 6) (db (U 7) (db (bl b0 (U 9) (U 6)) av))))) av)))))
   (aQ (dN (ef e2 h2 iC hY (U 5) (db (d4 av) av)))
   (aQ (dN (ef e2 h2 iC hY (bl b0 (U 5) (U 8)) (db (U 1) av)))
   (a3 (cc (qi (db (U 5) (db (U 8) av)))))))))))))),?_⟩
 exists (fun ay I=>I=H/\ay=[~~~bE,some (.str name),~~~cl,some (.int hm),none,none,none,none,none,none]),3
 .nofun;exact ⟨_,ak.of dR,_,r8 (by rw [eF];exact fS bU),bD _ _ ⟨rfl,rfl⟩⟩
 rintro gu H1 ⟨rfl,rfl⟩;subst aY;exists (fun ay I=>aH H1 I/\aL I/\∃ sp st,I sp=some (.lst (bq st))/\o3 rows.length hm ct 2 st/\ay=[~~~bE,some (.str name),~~~cl,some (.int hm),~~~sp,none,none,none,none,none]),3
 .nofun;exact ⟨_,ak.of dR,_,bA (j:=0) (fS h0),bE,rows.length,hm,ct,rfl,WY,pV,bC,fun p st I s' es bW ahA=>bD _ _ ⟨s',es,p,st,bW,ahA,rfl⟩⟩
 rintro cH az ⟨s2,cv,sp,st,aT,kC,rfl⟩;subst aY;exists (fun ay I=>aH az I/\aL I/\∃ c6,az c6=none/\I c6=some (.lst [])/\ay=[~~~bE,some (.str name),~~~cl,some (.int hm),~~~sp,~~~c6,none,none,none,none]),3
 .nofun;exact ⟨by decide,fun c6 mI=>bD _ _ ⟨a' mI,cv.upd,c6,mI,aS,rfl⟩⟩
 rintro gE bI ⟨s3,c0,c6,mI,m7,rfl⟩;have apa:=kC.len;have nu:=kC.cM rfl;subst aY;exists (fun ay I=>aH az I/\aL I/\∃ qs b4 cA,hM H1 I c6 qs/\1 + cf ct a9 <= (qs.length:Int)/\qs.length <= 6000/\ay=[~~~bE,some (.str name),~~~cl,some (.int hm),~~~sp,~~~c6,b4,cA,none,none]),3
 .have an_:1 <= st.length:=Oy.mpr kC.CE;have adg:st[st.length - 1]? = some ct:=by rw [<- LK];exact nu
  nofun;refine ⟨_,ak.of (s3 _ _ aT),fun p aq=>?_⟩;rw [Gs,show (bq st).drop 1=bq (st.drop 1) by unfold bq;rw [tW]];refine ⟨_,ak.of (a' aq _ _ (s3 _ _ (s2 _ _ dR))),_,bA (j:=1) (fS ab),by decide,fun dg k2=>?_⟩;have cB:p ≠ dg:=fun z=>by rw [<- z,aS] at k2;cases k2
  refine ⟨_,by rw [aZ cB];exact aS,_,aS,cq (show _ <= 10 by rw [eF,lH];show _ + 1 <= 10;omega) (by decide),fun df fm=>?_⟩;have s5:=((a' (o:=.lst (bq (st.drop 1))) aq).trans (a' (o:=.lst [V.int (a9:Nat)]) k2)).trans (a' (o:=.lst (bq (st.drop 1) ++ [V.int (a9:Nat)])) fm);have wy:upd (upd (upd bI p (.lst (bq (st.drop 1)))) dg (.lst [V.int (a9:Nat)])) df (.lst (bq (st.drop 1) ++ [V.int (a9:Nat)])) df=some (.lst (bq (st.drop 1 ++ [a9]))):=by rw [aS];unfold bq;rw [dA];rfl
  have dT:aL (upd (upd (upd bI p (.lst (bq (st.drop 1)))) dg (.lst [V.int (a9:Nat)])) df (.lst (bq (st.drop 1) ++ [V.int (a9:Nat)]))):=((c0.upd).upd).upd;generalize upd (upd (upd bI p (.lst (bq (st.drop 1)))) dg (.lst [V.int (a9:Nat)])) df (.lst (bq (st.drop 1) ++ [V.int (a9:Nat)]))=c3 at s5 wy dT ⊢;have aaA:df ≠ c6:=fun z=>by
   rw [z,s5 _ _ m7] at wy;have tO:([]:List V)=bq (st.drop 1 ++ [a9]):=gL.lst.inj (eL wy);unfold bq at tO;rw [dA] at tO;cases hd:p8 (fun j=>V.int ((j:Nat):Int)) (st.drop 1) with
   | nil=>rw [hd] at tO;cases tO
   | cons a b=>rw [hd] at tO;cases tO
  refine ⟨⟨_,ak.of (s5 _ _ (s3 _ _ aT))⟩,⟨_,ak.of wy⟩,?_⟩;have ac0:∀ {k a b:Nat},st[k]? = some a->(st.drop 1 ++ [a9])[k]? = some b->a ≠ b/\b < rows.length/\(k + 1=st.length->a=ct/\b=a9):=fun {k a b} aK ae=>by
   have aE:=(bY.mp aK).1;by_cases anY:k + 1 < st.length
   .rw [m9 (by rw [lH];omega),HF,akg] at ae;exact ⟨kC.ne k a b aK ae,kC.lt b (bM ae),fun z=>absurd z (by omega)⟩
   .have Fw:k=st.length - 1:=by omega
    rw [Fw,adg] at aK;cases aK;rw [k5 (by rw [lH];omega),lH,show k - (st.length - 1)=0 by omega] at ae;cases ae;exact ⟨DO,hE,fun _=>⟨rfl,rfl⟩⟩
  refine dP.zip (xs:=bq st) (ys:=bq (st.drop 1 ++ [a9])) (fun k σ I=>(∀ b u,b ≠ c6->c3 b=some u->I b=some u)/\aH az I/\aL I/\∃ qs b4 cA,hM H1 I c6 qs/\(k=st.length->1 + cf ct a9 <= (qs.length:Int))/\qs.length <= k * 2000/\σ=[~~~bE,some (.str name),~~~cl,some (.int hm),~~~sp,~~~c6,b4,cA,none,none]) ?_ ?_ st.length (by rw [eF,eF,cC,lH];show _=min _ (_ + 1);omega) ?_ ?_
  .exact ⟨fun b u _ e=>e,s3.trans s5,dT,[],_,_,⟨s5 _ _ m7,fun q h=>by simp at h⟩,fun z=>absurd z (by omega),fg _,rfl⟩
  .rintro k σ I aE ⟨bj,bu,_⟩;refine ⟨ak.of (bu _ _ aT),ak.of (bj _ _ aaA wy)⟩
  .rintro k x y σ I r af aU ⟨bj,bu,es,qs,b4,cA,ob,g',gv,rfl⟩ dY;unfold bq at af aU;obtain ⟨a,aK,rfl⟩:=cm af;obtain ⟨gv,fD,rfl⟩:=cm aU;obtain ⟨zy,bw,fin⟩:=ac0 aK fD;have al:=kC.lt a (bM aK);have aE:=(bY.mp aK).1;have dO:aH I (upd I r (.tup [.int (a:Nat),.int (gv:Nat)])):=a' dY;have lo:=R.lo _ (jb al);have oG:=iT.lo a gv al bw zy;have pP:=s2.trans (bu.trans dO);refine tn ?_;simp only [gU,gM];nofun;refine ⟨.inl ⟨_,ak.of (dO _ _ ob.at_)⟩,_,Q0 T (pP _ _ ao),_,rfl,_,ak.of (pP _ _ bJ),_,bA (by rw [cV,a_ al];rfl),bE,c,n,ds,rows,cf,a,gv,_,rfl,eV.same pP,R,iT,al,bw,zy,by omega,es.upd,fun Lp j9 YK sc rk xP lc=>?_⟩;have k8:=ob.same dO;refine ⟨Lp,rfl,_,sc _ _ k8.at_,_,xP.at_,cq (show _ <= 100000 by rw [aR,aR];omega) (by decide),fun b u nb e=>?_,fun b u e=>?_,rk.upd,_,k8.ext sc xP pP rfl,fun z=>?_,by rw [cC];omega,?_⟩
   .rw [aZ nb];exact sc _ _ (dO _ _ (bj _ _ nb e))
   .rw [aZ (Db e mI)];exact sc _ _ (dO _ _ (bu _ _ e))
   .obtain ⟨eb,ab5⟩:=fin z;rw [cC,<- eb,<- ab5];omega
   .exact ⟨_,rfl⟩
  .rintro σ I a7;ac_rfl
   obtain ⟨bj,bu,es,qs,b4,cA,ob,g',gv,rfl⟩:=a7;subst aY;refine bD _ _ ⟨bu,es,qs,b4,cA,ob,g' rfl,by omega,rfl⟩
 rintro mw cD ⟨s4,de,jm,b4,cA,ez,mW,jE,rfl⟩;have k3:=s2.trans s4;subst aY;exists (fun ay I=>I=cD/\ay=[~~~bE,some (.str name),~~~cl,some (.int hm),~~~sp,~~~c6,b4,cA,some (.int ((jm.length:Int) - cf ct a9)),none]),3
 .nofun;refine ⟨_,.inl (ak.of ez.at_),_,ak.of (k3 _ _ dR),_,bA (j:=0) (fS h0),_,ak.of (k3 _ _ dR),_,bA (j:=1) (fS ab),bE,c,n,ds,rows,ct,a9,_,_,rfl,eV.same k3,a_ pV,a_ hE,DO,de,fun v aG=>⟨_,rfl,?_⟩⟩;have ev:=z0 aG (iT.is ct a9 _ _ (a_ pV) (a_ hE) DO);rw [ev,aR];exact bD _ _ ⟨rfl,rfl⟩
 rintro zf c3 ⟨rfl,rfl⟩;subst aY;exists (fun ay I=>I=c3/\∃ b,c3 b=some (.lst ((cY rows.length).map fun i=>V.int (ee ds rows hm i)))/\ay=[~~~bE,some (.str name),~~~cl,some (.int hm),~~~sp,~~~c6,b4,cA,some (.int ((jm.length:Int) - cf ct a9)),~~~b]),3
 .nofun;exact ⟨bE,c,n,ds,rows,hm,rfl,eV.same k3,WY,fun b e=>bD _ _ ⟨rfl,b,e,rfl⟩⟩
 rintro oX fz ⟨rfl,b,eA,rfl⟩;subst aY;exists (fun ay I=>aH H1 I/\aL I/\∃ qs b4 cA,hM H1 I c6 qs/\jm.length <= qs.length/\qs.length <= 100000/\ay=[~~~bE,some (.str name),~~~cl,some (.int hm),~~~sp,~~~c6,b4,cA,some (.int ((jm.length:Int) - cf ct a9)),~~~b]),3
 .nofun;refine ⟨_,ak.of (k3 _ _ dR),fun p aq=>⟨_,ak.of (a' aq _ _ (k3 _ _ dR)),fun dg k2=>?_⟩⟩;rw [Gs,adM,show (bq ch).drop 1=bq (ch.drop 1) by unfold bq;rw [tW],show (bq ch).drop 2=bq (ch.drop 2) by unfold bq;rw [tW]] at *;have cB:p ≠ dg:=fun z=>by rw [<- z,aS] at k2;cases k2
  have s5:=(a' (o:=.lst (bq (ch.drop 1))) aq).trans (a' (o:=.lst (bq (ch.drop 2))) k2);have cE:upd (upd fz p (.lst (bq (ch.drop 1)))) dg (.lst (bq (ch.drop 2))) p=some (.lst (bq (ch.drop 1))):=by rw [aZ cB];exact aS
  have Gm:upd (upd fz p (.lst (bq (ch.drop 1)))) dg (.lst (bq (ch.drop 2))) dg=some (.lst (bq (ch.drop 2))):=aS;have pr:p ≠ c6:=fun z=>by rw [z,ez.at_] at aq;cases aq
  have abZ:dg ≠ c6:=fun z=>by rw [z,aZ (dF pr),ez.at_] at k2;cases k2
  have dT:aL (upd (upd fz p (.lst (bq (ch.drop 1)))) dg (.lst (bq (ch.drop 2)))):=(de.upd).upd;generalize upd (upd fz p (.lst (bq (ch.drop 1)))) dg (.lst (bq (ch.drop 2)))=fe at s5 cE Gm dT ⊢;refine ⟨⟨_,ak.of cE⟩,⟨_,ak.of Gm⟩,?_⟩;refine dP.zip (xs:=bq (ch.drop 1)) (ys:=bq (ch.drop 2)) (fun k σ I=>(∀ b u,b ≠ c6->fe b=some u->I b=some u)/\aH H1 I/\aL I/\∃ qs b4 cA,hM H1 I c6 qs/\jm.length <= qs.length/\qs.length <= 6000 + k * 2000/\σ=[~~~bE,some (.str name),~~~cl,some (.int hm),~~~sp,~~~c6,b4,cA,some (.int ((jm.length:Int) - cf ct a9)),~~~b]) ?_ ?_ (ch.length - 2) (by rw [eF,eF,lH,lH];omega) ?_ ?_
  .exact ⟨fun b u _ e=>e,k3.trans s5,dT,jm,_,_,ez.same s5,bP _,by omega,rfl⟩
  .rintro k σ I aE ⟨bj,bu,_⟩;exact ⟨ak.of (bj _ _ pr cE),ak.of (bj _ _ abZ Gm)⟩
  .rintro k x y σ I r af aU ⟨bj,bu,es,qs,b4,cA,ob,g',gv,rfl⟩ dY;unfold bq at af aU;obtain ⟨a,aK,rfl⟩:=cm af;obtain ⟨gv,fD,rfl⟩:=cm aU;rw [HF] at aK fD;have zy:=co.ne (1 + k) a gv aK (by rw [show 1 + k + 1=2 + k by omega];exact fD);have al:=co.lt a (bM aK);have bw:=co.lt gv (bM fD);have dO:aH I (upd I r (.tup [.int (a:Nat),.int (gv:Nat)])):=a' dY;have lo:=ff a al;have oG:=iT.lo a gv al bw zy;have pP:=bu.trans dO;have j8:2 + k < ch.length:=(bY.mp fD).1;have amP:upd I r (.tup [.int (a:Nat),.int (gv:Nat)]) b=some (.lst ((cY rows.length).map fun i=>V.int (ee ds rows hm i))):=dO _ _ (bj _ _ (fun z=>by
    rw [z,ez.at_] at eA;have yK:jm.map V.ref=(cY rows.length).map fun i=>V.int (ee ds rows hm i):=gL.lst.inj (eL eA)
    obtain ⟨jA,jx,eq⟩:∃ jA jx,jm=jA :: jx:=by
     cases jm with
     | nil=>exact absurd mW (show ¬ (1 + cf ct a9 <= ((0:Nat):Int)) by omega)
     | cons jA jx=>exact ⟨jA,jx,rfl⟩
    have fA:=congrArg (fun l=>l[0]?) yK;rw [eq,cV,cV,oB (show 0 < rows.length by omega)] at fA;cases fA) (s5 _ _ eA))
   refine tn ?_;simp only [gU,gM];nofun;refine ⟨.inl ⟨_,ak.of (dO _ _ ob.at_)⟩,_,ak.of amP,_,bA (by rw [cV,oB al];rfl),bE,c,n,ds,rows,cf,a,gv,_,rfl,eV.same pP,R,iT,al,bw,zy,by omega,es.upd,fun Lp j9 YK sc rk xP lc=>?_⟩;have k8:=ob.same dO;refine ⟨Lp,rfl,_,sc _ _ k8.at_,_,xP.at_,cq (show _ <= 200000 by rw [aR,aR];omega) (by decide),fun b u nb e=>?_,fun b u e=>?_,rk.upd,_,k8.ext sc xP pP rfl,by rw [cC];omega,by rw [cC];omega,?_⟩
   .rw [aZ nb];exact sc _ _ (dO _ _ (bj _ _ nb e))
   .rw [aZ (Db e (s2.free mI))];exact sc _ _ (pP _ _ e)
   .exact ⟨_,rfl⟩
  .rintro σ I a7;ac_rfl
   obtain ⟨bj,bu,es,qs,b4,cA,ob,g',gv,rfl⟩:=a7;subst aY;exact bD _ _ ⟨bu,es,qs,b4,cA,ob,g',by omega,rfl⟩
 rintro lu fe ⟨gs,hg,nG,qt,vj,hP,ro,VP,rfl⟩;subst aY;exists (fun ay I=>aH H1 I/\aL I/\∃ qs,hM H1 I c6 qs/\jm.length < qs.length/\ay=[~~~bE,some (.str name),~~~cl,some (.int hm),~~~sp,~~~c6,qt,vj,some (.int ((jm.length:Int) - cf ct a9)),~~~b]),3
 .nofun;refine ⟨.inl ⟨_,ak.of hP.at_⟩,fg _,fun p aq=>⟨_,a' aq _ _ hP.at_,gI (show _ <= 100000 by rw [aR];omega) (by decide),bD _ _ ⟨fun b u e=>?_,(hg.upd).upd,nG ++ [p],hM.put (fun cb e0=>?_) (by rw [dA];rfl),by rw [cC];show _ < nG.length + 1;omega,rfl⟩⟩⟩
  .rw [aZ (Db e (s2.free mI))];exact a' aq _ _ (gs _ _ e)
  .rcases dZ.mp e0 with z | z
   .obtain ⟨a,b,zs,e,l⟩:=hP.al cb z;exact ⟨a,b,zs,a' aq _ _ e,l⟩
   .rw [eu.mp z];exact ⟨gs.free aq,fun w=>(by rw [w,hP.at_] at aq;cases aq),_,aS,by decide⟩
 rintro vG iY ⟨hJ,qe,B4,jz,rJ,rfl⟩;subst aY;exists (fun ay I=>aH H1 I/\aL I/\ay=[~~~bE,some (.str name),~~~cl,some (.int hm),~~~sp,~~~c6,qt,vj,some (.int ((jm.length:Int) - cf ct a9)),~~~b]),3
 .nofun;obtain ⟨mD,Vd⟩:∃ mD:Nat,(jm.length:Int) - cf ct a9=(mD:Int):=⟨((jm.length:Int) - cf ct a9).toNat,by omega⟩;have PD:mD < B4.length:=by omega
  have aia:B4[mD]? = some B4[mD]:=a_ PD;obtain ⟨Bw,_,ys,O_,GA⟩:=jz.al _ (jb PD);rw [Vd];refine ⟨_,ak.of jz.at_,V.ref B4[mD],bA (by rw [cV,aia];rfl),qw ⟨_,ak.of O_⟩,_,rfl,_,O_,gI GA (by decide),?_⟩;rw [<- Vd];refine bD _ _ ⟨fun b u e=>?_,qe.upd,rfl⟩;rw [aZ (Db e Bw)];exact hJ _ _ e
 rintro aaq x1 ⟨adm,yh,rfl⟩;subst aY;nofun;exact ⟨by decide,fun r aj=>q r c6 _ _ (adm.trans (a' aj)) yh.upd aS⟩
def ix (H I:au):Prop:=∀ b o,(∀ ps,o ≠ gL.hn ps)->H b=some o->I b=some o
theorem X1 (b8:Tab H Pt pos q) (s:xu Pt H I):ix H I:=fun b o n e=>s b o (b8.ne e n) e
theorem Nf (s:aH H I):ix H I:=fun b o _ e=>s b o e
theorem ix.trans (a:ix H H1) (b:ix H1 az):ix H az:=fun c o n h=>b c o n (a c o n h)
theorem ix.lst (s:ix H I) (e:H b=some (.lst xs)):I b=some (.lst xs):=s b _ (fun _ z=>by cases z) e
theorem ix.tup (s:ix H I) (e:H b=some (.tup xs)):I b=some (.tup xs):=s b _ (fun _ z=>by cases z) e
theorem ix.ins (s:ix H I) {aO:List (Str × V)} (e:H b=some (.ins C ax aO)):I b=some (.ins C ax aO):=s b _ (fun _ z=>by cases z) e
theorem ix.di (s:ix H I) (e:H b=some (.di aA)):I b=some (.di aA):=s b _ (fun _ z=>by cases z) e
theorem fk.vb {t:b6} (h:fk t H c n ds) (s:ix H I):fk t I c n ds:=by
 obtain ⟨h0,ax,wl,aB,ao,⟨as,dI,dB,al⟩,bJ⟩:=h;refine ⟨h0,ax,wl,aB,s.ins ao,⟨as,s.lst dI,dB,fun i b d ae hd=>?_⟩,s.di bJ⟩;obtain ⟨k,amJ,eA⟩:=al i b d ae hd;exact ⟨k,amJ,s.ins eA⟩
theorem hv.vb {w:World} {t:b6} {rows:List ST} (h:hv P w t H a c n ds rows) (s:ix H I):hv P w t I a c n ds rows:=by
 obtain ⟨ax,le,mo,c1,dE,aW,ch,ms,aA,ao,aC,bJ,e6,gY,e1,ic,⟨o,aT,cE,xs,r⟩,nL⟩:=h;exact ⟨ax,le,mo,c1,dE,aW,ch,ms,aA,s.ins ao,aC.vb s,s.lst bJ,s.lst e6,⟨s.lst gY.at_,gY.ln,fun i m x a b=>s.lst (gY.al i m x a b)⟩,s.lst e1,s.di ic,
  ⟨o,aT,cE,xs,s _ _ (fun _ z=>by cases z) r.at_,r.ex,r.dat,r.ent,r.aB,Paired.q1 r.b' fun p q z=>⟨z.1,s.tup z.2.1,z.2.2⟩,r.lQ,r.ns⟩,nL⟩
theorem Am (k:S.Ok):∀ {ext:List Nat} {p:Nat} {sp:Int},hT S p sp ext->-1 <= sp->(S.own p=true->sp=S.cW p)->ext.length <= lb S p sp/\(∀ x ∈ ext,x < S.m)/\(∀ (i a b:Nat),(p :: ext)[i]? = some a->(p :: ext)[i + 1]? = some b->a ≠ b)/\(p :: ext).getLast? = some S.h
 | [],p,sp,h,_,_=>⟨fg _,(fun x h=>by simp at h),(fun i a b ab ai=>by simp at ai),by rw [show p=S.h from h];rfl⟩
 | x :: r,p,sp,h,aw,aW=>by
  obtain ⟨ab,af,⟨a1,a2,gp⟩ | ⟨a1,a2,gp⟩⟩:=h
  .obtain ⟨hE,fo,j3,jE⟩:=Am k gp (by have:=(kk k x).1;omega) (fun _=>rfl);have hw:=KH k (p:=p) a2;refine ⟨by rw [fQ];omega,fun y aU=>(d9.mp aU).elim (fun e=>by rw [e];exact af) (fo y),fun i a b aK ae=>?_,by rw [r0];exact jE⟩;cases i with
   | zero=>
    cases aK;cases ae;intro e;subst e;rw [aW a1] at a2;omega
   | succ i=>exact j3 i a b aK ae
  .obtain ⟨hE,fo,j3,jE⟩:=Am k gp aw (fun z=>by rw [a2] at z;cases z);have hw:=Jb (sp:=sp) a1 a2;refine ⟨by rw [fQ];omega,fun y aU=>(d9.mp aU).elim (fun e=>by rw [e];exact af) (fo y),fun i a b aK ae=>?_,by rw [r0];exact jE⟩;cases i with
   | zero=>
    cases aK;cases ae;intro e;subst e;rw [a1] at a2;cases a2
   | succ i=>exact j3 i a b aK ae
theorem IA (k:S.Ok) (f s:Nat):-1 <= g7 S f s:=by
 unfold g7;have:=(kk k s).1;have:=(kk k f).1;split
 .omega
 .split <;> omega
theorem Wt (k:S.Ok) {p:Nat} (h:-1 <= sp):lb S p sp <= 15:=by
 have:=k.n7;unfold lb;split <;> omega
theorem Aw (k:S.Ok) (h:rj S bp) (aU:ys ∈ bp):yG S.m ys/\ys.getLast? = some S.h:=by
 obtain ⟨f,s,ext,rfl,ab,ai,a5,bQ⟩:=(h ys).mp aU;obtain ⟨hE,fo,j3,jE⟩:=Am k bQ (IA k f s) (fun z=>by unfold g7;rw [if_pos z]);have:=Wt k (p:=s) (IA k f s);refine ⟨⟨by simp,by rw [fQ,fQ];omega,fun x af=>?_,fun i a b aK ae=>?_⟩,by rw [r0];exact jE⟩
 .rcases d9.mp af with e | e
  .rw [e];exact ab
  .rcases d9.mp e with e | e
   .rw [e];exact ai
   .exact fo x e
 .cases i with
  | zero=>cases aK;cases ae;exact a5
  | succ i=>exact j3 i a b aK ae
theorem ad7 (k:S.Ok) (h:rj S bp) (ai:S.m ≠ 1):bp ≠ []:=fun z=>by
 have hm:=k.hm;have:[if S.h=0 then 1 else 0,S.h] ∈ bp:=(h _).mpr ⟨_,S.h,[],rfl,by split <;> omega,hm,by split <;> omega,rfl⟩;rw [z] at this;cases this
def RO (S:dD) (cf:Nat->Nat->Int) (st:Nat->Int) (z:Int):Prop:=(S.m=1/\z=0)\/(S.m ≠ 1/\∃ bp ch,rj S bp/\ch ∈ bp/\z=lF cf st ch/\∀ ys ∈ bp,lF cf st ys <= z)
noncomputable def SX:Expr:=match q7 LR with
 | [_,_,_,.Assign _ (.Call _ _ [⟨_,e,_⟩] _) _,_,_]=>e
 | _=>.Constant .none 0 ⟨0,0,0,0⟩
noncomputable abbrev ZC:Str:=ah "worst" ++ ah ".<locals>." ++ ah "<lambda>"
theorem ala:DH "each" "stages" "home" (ajU SX):=⟨rfl,rfl,rfl,by ac_nf,rfl,rfl,rfl,by ac_nf,by ac_nf⟩
noncomputable abbrev Jn (Pt:Addr) (H:au):Prop:=Tab H Pt (afd SX) ZC
section
variable (P:Program) (w:World)
def NF (t:b6) (Pt:Addr):bO:=fun vs H Q _=>∃ bE c n ds rows cf,∃ h i:Nat,∃ d,vs=[.ref bE,.str d.name]/\hv P w t H bE c n ds rows/\kE ds rows/\tw n ds rows cf/\ds[i]? = some d/\dn (gH (rows.map (·.mem))) (cx d.name)=some (.int (h:Nat))/\h < rows.length/\Jn Pt H/\aL H /\
 ∀ r z a b I,ix H I->I r=some (.tup [.int z,a,b])->RO (gh ds rows h) cf (ee ds rows h) z->Q (.ref r) I
def Pd (t:b6):bO:=fun vs H Q E=>∃ bE c n ds rows x,vs=[.ref bE,.str x]/\hv P w t H bE c n ds rows/\uU x/\vf ds x/\L6 t x H E
end
theorem ae4 (T:Txt w K mg t):bV P w K mg base (l5 P w) 5 t.vL t.te u0 (Pd P w t):=by
 have af0:bV P w K mg base (l5 P w) 4 t.q3 t.si jk (Np t):=aa9 T;exists T.y5.hT uw,9
 obtain ⟨bE,c,n,ds,rows,x,rfl,eV,af,aw,q⟩:=h;obtain ⟨m',le,mo,c1,dE,aW,N_,ms,aA,ao,C,bJ,e6,gY,e1,ic,pE,nL⟩:=id eV;obtain ⟨_,agp,Ya,anb,rH,ade,ajF⟩:=id C;refine ⟨_,(aQ (dN (gi (c4 (U 0) rfl) T.h8 T.oH af0 aj T.pT .nil V9 (db (U 1) av))) ahx),?_⟩;simp only [dj];refine Er (fun ay I=>False) (fun hH bD _ _ _=>?_) (fun ay I h=>h.elim);nofun;exact ⟨_,Sh T ao,_,rfl,_,_,rH,lg _ _ _ (by ac_nf),c,n,ds,x,rfl,C,af,.inr ⟨aw,q⟩⟩
theorem akQ (cK:vw base t.yS Pt) (iv:base.BuiltinsAt mg Pt):cu P base T 20 t.vL t.te u0 (NF P w t Pt):=by
 have Z1:=T.aaE;have mc:bV P w K mg base c9 19 t.q3 t.si jk (E8 t):=(vd T).mono (by decide);have ago:bV P w K mg base c9 19 t.D2 t.DS kl (Pj P w t):=akP T;have afs:bV P w K mg base c9 19 t.zO t.AE Bk (VM P w t):=(alB T).mono (by decide);have ach:bV P w K mg base c9 19 t.Op t.xj ze (Fu P w t):=(Om T).mono (by decide);have anv:bV P w K mg base c9 17 t.Op t.xj ze (Fu P w t):=(Om T).mono (by decide);refine T.y5.aeK uw (fun vs H Q E h=>?_) (fun eN kj A outer s H vs Q E aj h=>?_)
 .obtain ⟨bE,c,n,ds,rows,cf,h,i,d,rfl,_⟩:=h;rfl
 obtain ⟨bE,c,n,ds,rows,cf,h,i,d,rfl,eV,R,iT,hd,aG,bU,b8,bC,q⟩:=h;have b7:=ml aj;refine ⟨_,(aQ (dN (gi (c4 (U 0) rfl) T.h8 T.oH mc aj T.pT .nil dK (db (U 1) av)))
   (aQ (dW (c5 eQ (c4 (U 0) rfl) aJ (cF _)) (a3 (cc (qi (db aJ (db (d4 (db (d4 (db (U 1) av)) av)) (db aJ av)))))) ec)
   (aQ (om (i:=2) uw.aB rfl (kx rfl) (vn b7 (c4 (U 0) rfl) (U 1) (fun _ _=>rfl)))
   (aQ (bX (i:=3) uw.aB (Zv (pr := "each") (y := "stages") (z := "home") (i1:=0) (i2:=2) rfl rfl T.t2 (db (bS ago aj T.aiC T.K6.bj T.anH (db (U 0) (db (U 2) av))) av) ⟨kj.symm.trans Z1,cK,iv⟩ aj ala rfl rfl rfl rfl rfl rfl rfl rfl (fun _ _ _ _=>rfl) (fun _ _ _ _=>⟨_,(V6 anv (en.deeper aj.in1 _) rfl T.PN T.Ca.bj T.GE .nil dK (db (U 1) (db (U 2) (db (U 0) av)))),by first | rfl | (dsimp only [sg];done) | (dsimp only [sg];exact rfl)⟩)))
   (aQ (WB (bS afs aj T.adi T.im.bj T.aa6 (db (U 0) (db (U 1) (db (U 3) av)))) (kW (K:=K) (n:=2) rfl rfl (eG (b5 (i:=4) uw.aB) (eG (b5 (i:=5) uw.aB) kJ))))
   (a3 (cc (qi (db (bS ach aj T.PN T.Ca.bj T.GE (db (U 0) (db (U 2) (db (U 3) av)))) (db (U 4) (db (U 5) av))))))))))),?_⟩
 obtain ⟨m',le,mo,c1,dE,aW,N_,ms,aA,ao,C,bJ,e6,gY,e1,ic,pE,nL⟩:=id eV;obtain ⟨_,agp,Ya,anb,rH,ade,ajF⟩:=id C;have j5:=R.j5;have k:=R.ok bU;have hm:(gh ds rows h).m=rows.length:=rfl;simp only [dj];exists (fun ay I=>I=H/\ay=[~~~bE,some (.str d.name),none,none,none,none]),0
 .nofun;exact ⟨_,Sh T ao,_,rfl,_,_,rH,lg _ _ _ (by ac_nf),c,n,ds,i,d,rfl,C,hd,fun a _=>bD _ _ ⟨rfl,rfl⟩⟩
 rintro gu H1 ⟨rfl,rfl⟩;subst aY;simp only [dj];by_cases a9:rows.length=1
 .refine cP true (fun Q aX=>?_) (fun _=>?_) (fun z=>nomatch z)
  .nofun;refine ⟨_,qF T ao,rfl,?_⟩;rw [a9];exact aX
  .nofun;exact ⟨by decide,fun p aq=>⟨by decide,fun dg k2=>⟨by decide,fun df fm=>q df 0 _ _ _ (Nf ((a' aq).trans ((a' k2).trans (a' fm)))) aS (.inl ⟨a9,rfl⟩)⟩⟩⟩
 refine cP false (fun Q aX=>?_) (fun z=>nomatch z) (fun _=>?_)
 .nofun;refine ⟨_,qF T ao,rfl,?_⟩;rw [decide_eq_false (fun z=>a9 (by injection z with z;omega))];exact aX
 simp only [f',dj];exists (fun ay I=>I=H1/\ay=[~~~bE,some (.str d.name),some (.int h),none,none,none]),0
 .have bg:=iE.k (k:=cx d.name) ic;rw [aG] at bg;nofun;exact ⟨_,agT T ao,_,rfl,_,bg,bD _ _ ⟨rfl,rfl⟩⟩
 rintro cH az ⟨rfl,rfl⟩;subst aY;simp only [dj];exists (fun ay I=>ix az I/\aL I/\∃ cl ch bp,I cl=some (.lst (bq ch))/\rj (gh ds rows h) bp/\ch ∈ bp/\(∀ ys ∈ bp,lF cf (ee ds rows h) ys <= lF cf (ee ds rows h) ch)/\ay=[~~~bE,some (.str d.name),some (.int h),~~~cl,none,none]),0
 ·(nofun; repeat (dsimp only [OZ];nofun));refine ⟨bE,c,n,ds,rows,h,rfl,eV,R,bU,bC,fun r qs bp I s' es L lU=>?_⟩;have anG:=ad7 k lU a9;have at_:∀ {i:Nat} {cb:Addr},qs[i]? = some cb->∃ xs,bp[i]? = some xs/\xs ∈ bp/\I cb=some (.lst (bq xs))/\bp.getD i []=xs:=fun {i cb} aM=>by
   have ag:i < bp.length:=by rw [<- L.ln];exact (bY.mp aM).1
   have af:bp[i]? = some bp[i]:=a_ ag;exact ⟨_,af,bM af,L.al i cb _ aM af,by rw [lJ,af];rfl⟩
  refine ⟨r,rfl,qs.map V.ref,ak.of L.at_,fun z=>anG (List.eq_nil_of_length_eq_zero (by rw [<- L.ln];exact List.length_eq_zero_iff.mpr (VA.mp z))),b8.step s',fun i=>lF cf (ee ds rows h) (bp.getD i []),fun bI sp uC anP=>?_⟩;have lW:ix I bI:=X1 (b8.step s') sp;have R4:ix az bI:=(Nf s').trans lW;refine ⟨fun i x af=>?_,fun i m kF agx=>?_⟩
  .obtain ⟨cb,aM,rfl⟩:=cm af;obtain ⟨xs,ab,ai,a5,bQ⟩:=at_ aM;exact ⟨bE,c,n,ds,rows,cf,cb,xs,h,rfl,eV.vb R4,R,iT,bU,lW.lst a5,(Aw k lU ai).1,uC es,(by show V.int _=V.int (lF cf (ee ds rows h) (bp.getD i []));rw [bQ]),rfl⟩
  .obtain ⟨cb,aM,rfl⟩:=cm kF;obtain ⟨xs,ab,ai,a5,bQ⟩:=at_ aM;refine bD _ _ ⟨R4,uC es,cb,xs,bp,lW.lst a5,lU,ai,fun ys aU=>?_,rfl⟩;obtain ⟨j,aN⟩:=hD aU;have jy:j < qs.length:=by rw [L.ln];exact (bY.mp aN).1
   have:=agx j (.ref qs[j]) (by rw [cV,a_ jy];rfl);have this:lF cf (ee ds rows h) (bp.getD j []) <= lF cf (ee ds rows h) (bp.getD i []):=this;rw [bQ,lJ,aN] at this;exact this
 rintro gE bI ⟨s3,c0,cl,ch,bp,Sq,lU,fq,r5,rfl⟩;obtain ⟨co,_⟩:=Aw k lU fq;have Qn:=eV.vb s3;subst aY;simp only [dj];exists (fun ay I=>aH bI I/\aL I/\∃ a b,ay=[~~~bE,some (.str d.name),some (.int h),~~~cl,some a,some b]),0
 .nofun;exact ⟨bE,c,n,ds,rows,cf,d.name,cl,ch,rfl,Qn,R,iT,Sq,co,c0,fun r a b I s' es bW=>⟨r,rfl,_,cS.of bW,rfl,_,_,rfl,_,_,rfl,rfl,bD _ _ ⟨s',es,_,_,rfl⟩⟩⟩
 rintro mw cD ⟨s4,de,a,b,rfl⟩;subst aY;nofun;refine ⟨bE,c,n,ds,rows,cf,cl,ch,h,rfl,Qn.same s4,R,iT,bU,s4 _ _ Sq,co,de,by decide,fun r aj=>q r _ a b _ (s3.trans (Nf (s4.trans (a' aj)))) aS (.inr ⟨a9,bp,ch,lU,fq,rfl,r5⟩)⟩
noncomputable def dG (S:dD):Int->Nat->Bool->List Nat->Option (Nat × Int)
 | last,prev,_,[]=>some (prev,last)
 | last,prev,fst,x :: r=>
  if x=prev\/(x=S.h/\r ≠ []) then none
  else if S.own x=true then (if S.cW x <= last then none else dG S (S.cW x) x false r)
  else if fst=false/\S.own prev=false then none
  else dG S last x false r
noncomputable def hk (S:dD) (f s:Nat):Int:=if S.own s=false/\S.own f=true/\f ≠ S.h then S.cW f else -1
noncomputable def stC (S:dD):List Nat->Option (Nat × Int)
 | f :: s :: ext=>dG S (hk S f s) f true (s :: ext)
 | _=>none
section
variable {S:dD}
theorem Ms:∀ {rest:List Nat} {last:Int} {prev:Nat} {fst:Bool} (l:List Nat),dG S last prev fst rest=none->dG S last prev fst (rest ++ l)=none
 | [],_,_,_,l,h=>by cases h
 | x :: r,last,prev,fst,l,h=>by
  rw [tp];unfold dG at h ⊢;by_cases a9:x=prev\/(x=S.h/\r ≠ [])
  .rw [if_pos (a9.elim .inl fun z=>.inr ⟨z.1,by simp [z.2]⟩)]
  .rw [if_neg a9] at h;by_cases Ql:x=prev\/(x=S.h/\r ++ l ≠ [])
   .rw [if_pos Ql]
   .rw [if_neg Ql];by_cases bB:S.own x=true
    .rw [if_pos bB] at h ⊢;by_cases cT:S.cW x <= last
     .rw [if_pos cT]
     .rw [if_neg cT] at h ⊢;exact Ms l h
    .rw [if_neg bB] at h ⊢;by_cases cT:fst=false/\S.own prev=false
     .rw [if_pos cT]
     .rw [if_neg cT] at h ⊢;exact Ms l h
theorem Kw:∀ {rest:List Nat} {last:Int} {prev:Nat} {fst:Bool} (y:Nat) (l:List Nat),rest.getLast? = some S.h->dG S last prev fst (rest ++ y :: l)=none
 | [],_,_,_,_,_,h=>by simp at h
 | x :: r,last,prev,fst,y,l,h=>by
  rw [tp];unfold dG;by_cases a9:x=prev\/(x=S.h/\r ++ y :: l ≠ [])
  .rw [if_pos a9]
  .rw [if_neg a9];have aj:r.getLast? = some S.h:=by
    cases r with
    | nil=>
     have e:x=S.h:=by simpa using h
     exact absurd (.inr ⟨e,by simp⟩) a9
    | cons z eo=>rw [r0] at h;exact h
   by_cases bB:S.own x=true
   .rw [if_pos bB];by_cases cT:S.cW x <= last
    .rw [if_pos cT]
    .rw [if_neg cT];exact Kw y l aj
   .rw [if_neg bB];by_cases cT:fst=false/\S.own prev=false
    .rw [if_pos cT]
    .rw [if_neg cT];exact Kw y l aj
theorem Vx:∀ {rest:List Nat} {last:Int} {prev:Nat} {fst:Bool} {p:Nat} {sp:Int} (x:Nat),rest ≠ []->dG S last prev fst rest=some (p,sp)->p ≠ S.h->dG S last prev fst (rest ++ [x])=dG S sp p false [x]
 | [],_,_,_,_,_,_,h,_,_=>absurd rfl h
 | y :: r,last,prev,fst,p,sp,x,_,h,aq=>by
  rw [tp];have key:∀ (mH:Int),dG S mH y false r=some (p,sp)->(¬ (y=S.h/\r ++ [x] ≠ []))/\dG S mH y false (r ++ [x])=dG S sp p false [x]:=fun mH g=>by
   cases r with
   | nil=>
    unfold dG at g;cases g;exact ⟨fun z=>aq z.1,rfl⟩
   | cons z eo=>
    refine ⟨fun w=>?_,Vx x (by simp) g aq⟩;unfold dG at h;rw [if_pos (.inr ⟨w.1,by simp⟩)] at h;cases h
  unfold dG at h;by_cases a9:y=prev\/(y=S.h/\r ≠ [])
  .rw [if_pos a9] at h;cases h
  rw [if_neg a9] at h;by_cases bB:S.own y=true
  .rw [if_pos bB] at h;by_cases cT:S.cW y <= last
   .rw [if_pos cT] at h;cases h
   rw [if_neg cT] at h;obtain ⟨gQ,fP⟩:=key _ h;show (if y=prev\/(y=S.h/\r ++ [x] ≠ []) then none else if S.own y=true then (if S.cW y <= last then none else dG S (S.cW y) y false (r ++ [x])) else _)=_;rw [if_neg (fun z=>z.elim (fun w=>a9 (.inl w)) gQ),if_pos bB,if_neg cT];exact fP
  .rw [if_neg bB] at h;by_cases cT:fst=false/\S.own prev=false
   .rw [if_pos cT] at h;cases h
   rw [if_neg cT] at h;obtain ⟨gQ,fP⟩:=key _ h;show (if y=prev\/(y=S.h/\r ++ [x] ≠ []) then none else if S.own y=true then (if S.cW y <= last then none else dG S (S.cW y) y false (r ++ [x])) else (if fst=false/\S.own prev=false then none else dG S last y false (r ++ [x])))=_;rw [if_neg (fun z=>z.elim (fun w=>a9 (.inl w)) gQ),if_neg bB,if_neg cT];exact fP
theorem z2:∀ {rest:List Nat} {last:Int} {prev:Nat} {fst:Bool} {p:Nat} {sp:Int},dG S last prev fst rest=some (p,sp)->(prev :: rest).getLast? = some p
 | [],_,_,_,_,_,h=>by cases h;rfl
 | y :: r,last,prev,fst,p,sp,h=>by
  unfold dG at h;rw [r0];split at h
  .cases h
  .split at h
   .split at h
    .cases h
    .exact z2 h
   .split at h
    .cases h
    .exact z2 h
theorem wO (k:S.Ok):∀ {ext:List Nat} {p:Nat} {sp:Int},(∀ x ∈ ext,x < S.m)->p < S.m->(S.own p=true->sp=S.cW p)->(((∃ q,dG S sp p false ext=some q)/\(p :: ext).getLast? = some S.h/\(p=S.h->ext=[]))↔hT S p sp ext)
 | [],p,sp,_,_,_=>by
  constructor
  .rintro ⟨_,h,_⟩;show p=S.h;simpa using h
  .intro h;exact ⟨⟨_,rfl⟩,by rw [show p=S.h from h];rfl,fun _=>rfl⟩
 | x :: r,p,sp,aD,aq,aW=>by
  have af:=aD x (kO ..);have aj:∀ y ∈ r,y < S.m:=fun y aU=>aD y (gS _ aU)
  rw [r0];constructor
  .rintro ⟨⟨q,h⟩,ai,a5⟩;have sT:p ≠ S.h:=fun z=>by cases a5 z
   unfold dG at h;by_cases a9:x=p\/(x=S.h/\r ≠ [])
   .rw [if_pos a9] at h;cases h
   rw [if_neg a9] at h;have U1:x=S.h->r=[]:=fun z=>by
    cases r with
    | nil=>rfl
    | cons _ _=>exact absurd (.inr ⟨z,by simp⟩) a9
   by_cases bB:S.own x=true
   .rw [if_pos bB] at h;by_cases cT:S.cW x <= sp
    .rw [if_pos cT] at h;cases h
    rw [if_neg cT] at h;exact ⟨sT,af,.inl ⟨bB,by omega,(wO k aj af (fun _=>rfl)).mp ⟨⟨q,h⟩,ai,U1⟩⟩⟩
   .rw [if_neg bB] at h;by_cases cT:(false:Bool)=false/\S.own p=false
    .rw [if_pos cT] at h;cases h
    rw [if_neg cT] at h;refine ⟨sT,af,.inr ⟨?_,by simpa using bB,(wO k aj af (fun z=>absurd z bB)).mp ⟨⟨q,h⟩,ai,U1⟩⟩⟩;cases jv:S.own p with
    | true=>rfl
    | false=>exact absurd ⟨rfl,jv⟩ cT
  .rintro ⟨sT,_,⟨a1,a2,gp⟩ | ⟨a1,a2,gp⟩⟩
   .obtain ⟨⟨q,h⟩,ai,a5⟩:=(wO k aj af (fun _=>rfl)).mpr gp;refine ⟨⟨q,?_⟩,ai,fun z=>absurd z sT⟩;unfold dG;rw [if_neg,if_pos a1,if_neg (by omega)]
    .exact h
    .rintro (z | z)
     .subst z;rw [aW a1] at a2;omega
     .exact z.2 (a5 z.1)
   .obtain ⟨⟨q,h⟩,ai,a5⟩:=(wO k aj af (fun z=>by rw [a2] at z;cases z)).mpr gp;refine ⟨⟨q,?_⟩,ai,fun z=>absurd z sT⟩;unfold dG;rw [if_neg,if_neg (by rw [a2];decide),if_neg (by rw [a1];simp)]
    .exact h
    .rintro (z | z)
     .subst z;rw [a1] at a2;cases a2
     .exact z.2 (a5 z.1)
theorem Rq (k:S.Ok) {ext:List Nat} (hf:f < S.m) (aw:s < S.m) (he:∀ x ∈ ext,x < S.m):(((∃ q,stC S (f :: s :: ext)=some q)/\(s :: ext).getLast? = some S.h)↔(f ≠ s/\hT S s (g7 S f s) ext)):=by
 have jc:=(kk k s).1;have e:∀ q,stC S (f :: s :: ext)=some q↔(f ≠ s/\(s=S.h->ext=[])/\dG S (g7 S f s) s false ext=some q):=fun q=>by
  show (if s=f\/(s=S.h/\ext ≠ []) then none else if S.own s=true then (if S.cW s <= hk S f s then none else dG S (S.cW s) s false ext) else (if (true:Bool)=false/\S.own f=false then none else dG S (hk S f s) s false ext))=some q↔_;by_cases a9:s=f\/(s=S.h/\ext ≠ [])
  .rw [if_pos a9];constructor
   .intro z;cases z
   .rintro ⟨ab,ai,_⟩;rcases a9 with z | z
    .exact absurd z.symm ab
    .exact absurd (ai z.1) z.2
  .rw [if_neg a9];have h3:f ≠ s:=fun z=>a9 (.inl z.symm)
   have iv:s=S.h->ext=[]:=fun z=>by
    cases ext with
    | nil=>rfl
    | cons _ _=>exact absurd (.inr ⟨z,by simp⟩) a9
   by_cases bB:S.own s=true
   .have ag:hk S f s = -1:=by unfold hk;rw [if_neg (fun z=>by rw [bB] at z;cases z.1)]
    rw [if_pos bB,ag,if_neg (by omega),show g7 S f s=S.cW s by unfold g7;rw [if_pos bB]];exact ⟨fun h=>⟨h3,iv,h⟩,fun h=>h.2.2⟩
   .have ag:hk S f s=g7 S f s:=by
     unfold hk g7;rw [if_neg bB];have Cv:S.own s=false:=by simpa using bB
     by_cases cT:S.own f=true/\f ≠ S.h
     .rw [if_pos ⟨Cv,cT⟩,if_pos cT]
     .rw [if_neg (fun z=>cT z.2),if_neg cT]
    rw [if_neg bB,if_neg (fun z=>by cases z.1),ag];exact ⟨fun h=>⟨h3,iv,h⟩,fun h=>h.2.2⟩
 have r:=wO k (ext:=ext) (p:=s) (sp:=g7 S f s) he aw (fun z=>by unfold g7;rw [if_pos z]);constructor
 .rintro ⟨⟨q,h⟩,aD⟩;obtain ⟨ab,ai,a5⟩:=(e q).mp h;exact ⟨ab,r.mp ⟨⟨q,a5⟩,aD,ai⟩⟩
 .rintro ⟨ab,ai⟩;obtain ⟨⟨q,a5⟩,aD,bQ⟩:=r.mpr ai;exact ⟨⟨q,(e q).mpr ⟨ab,bQ,a5⟩⟩,aD⟩
end
noncomputable def wS:Nat->Nat
 | 0=>0
 | r + 1=>wS r + (if r=0 then 1 else 49 + 7 * wS r)
noncomputable def od (r:Nat):Nat:=if r=0 then 1 else 49 + 7 * wS r
noncomputable def n6 (r:Nat):Nat:=7 + wS r
theorem ah0:∀ m,m <= 6->∀ q,q <= 6->((cY m).map fun s=>if q <= s then od (m - 1 - s) else 0).sum <= wS (m - q):=by decide
theorem R7:∀ r,r <= 6->n6 r <= 262144/\(r <= 5->od r <= 262144):=by decide
section
variable {S:dD}
noncomputable def qc (S:dD) (sp:Int):Nat:=((S.m:Int) - 1 - sp).toNat
noncomputable def nD (S:dD) (p:Nat) (sp:Int):Nat:=if p=S.h then 1 else if S.own p=true then od (qc S sp) else n6 (qc S sp)
noncomputable def lq (S:dD) (ch:List Nat):Nat:=match stC S ch with
 | none=>1
 | some q=>nD S q.1 q.2
theorem Wq (r:Nat):1 <= od r:=by unfold od;split <;> omega
theorem aix (p:Nat) (sp:Int):1 <= nD S p sp:=by
 unfold nD;split
 .exact bP _
 .split
  .exact Wq _
  .unfold n6;omega
theorem KM (ch:List Nat):1 <= lq S ch:=by
 unfold lq;split
 .exact bP _
 .exact aix _ _
theorem Eg (k:S.Ok):∀ {rest:List Nat} {last:Int} {prev:Nat} {fst:Bool} {p:Nat} {sp:Int},dG S last prev fst rest=some (p,sp)->-1 <= last->(rest ≠ []\/(S.own prev=true->last=S.cW prev))->-1 <= sp/\(S.own p=true->sp=S.cW p)
 | [],last,prev,fst,p,sp,h,ab,ai=>by
  cases h;exact ⟨ab,ai.elim (fun z=>absurd rfl z) id⟩
 | x :: r,last,prev,fst,p,sp,h,ab,ai=>by
  have:=(kk k x).1;unfold dG at h;split at h
  .cases h
  .split at h
   .split at h
    .cases h
    .exact Eg k h (by omega) (.inr fun _=>rfl)
   .rename_i c;split at h
    .cases h
    .exact Eg k h ab (.inr fun z=>absurd z c)
theorem Zy (k:S.Ok):(cY S.m).map (h6 S)=(cY S.m).drop (S.h + 1) ++ (cY S.m).take (S.h + 1):=by
 have hm:=k.hm;refine acC (by simp;omega) fun i ab ai=>?_
 rw [aR,kh] at ab;rw [vF,Li];by_cases c:i < S.m - (S.h + 1)
 .rw [List.getElem_append_left (by simpa using c),List.getElem_drop,Li];unfold h6;rw [um (by omega)]
 .rw [List.getElem_append_right (by simp;omega),alU,Li];unfold h6;rw [akv (by omega),um (by omega)];simp;omega
theorem afD (k:S.Ok) (f:Nat->Nat):((cY S.m).map f).sum=((cY S.m).map fun s=>f (h6 S s)).sum:=by
 have e:(cY S.m).map (fun s=>f (h6 S s))=((cY S.m).map (h6 S)).map f:=by rw [oS];rfl
 rw [e,Zy k,dA,wL];have aC:=congrArg (fun l=>(l.map f).sum) (FR (S.h + 1) (cY S.m));simp only [dA,wL] at aC;omega
theorem Pu {f g:Nat->Nat}:∀ {l:List Nat},(∀ x ∈ l,f x <= g x)->(l.map f).sum <= (l.map g).sum
 | [],_=>bP _
 | x :: l,h=>by
  rw [eB,eB,nr,nr];exact Nat.add_le_add (h x (kO ..)) (Pu fun y aU=>h y (gS _ aU))
theorem HS {f g:Nat->Nat}:∀ {l:List Nat},(l.map fun x=>f x + g x).sum=(l.map f).sum + (l.map g).sum
 | []=>rfl
 | x :: l=>by
  rw [eB,eB,eB,nr,nr,nr,HS];omega
theorem K9 (c:Nat):∀ l:List Nat,(l.map fun _=>c).sum=l.length * c
 | []=>by simp
 | x :: l=>by
  rw [eB,nr,K9 c l,fQ,qC];omega
theorem Hi (k:S.Ok):∀ {rest:List Nat} {last:Int} {prev:Nat} {fst:Bool} {p:Nat} {sp:Int},dG S last prev fst rest=some (p,sp)->last < S.m->¬ (S.m:Int) <= sp
 | [],last,prev,fst,p,sp,h,ab=>by cases h;omega
 | x :: r,last,prev,fst,p,sp,h,ab=>by
  have:=(kk k x).2;unfold dG at h;split at h
  .cases h
  .split at h
   .split at h
    .cases h
    .exact Hi k h this
   .split at h
    .cases h
    .exact Hi k h ab
theorem aat (k:S.Ok) {ch:List Nat} {p:Nat} {sp:Int} (ar:2 <= ch.length) (h:stC S ch=some (p,sp)) (aq:p ≠ S.h) (pN:p < S.m):((cY S.m).map fun x=>lq S (ch ++ [x])).sum + 1 <= lq S ch:=by
 have mZ:=k.n7;have hm:=k.hm;obtain ⟨f,s,ext,rfl⟩:∃ f s ext,ch=f :: s :: ext:=by
  match ch,ar with
  | f :: s :: ext,_=>exact ⟨f,s,ext,rfl⟩
 have ag:-1 <= hk S f s:=by
  have:=(kk k f).1;unfold hk;split <;> omega
 obtain ⟨i1,i2⟩:=Eg k (show dG S (hk S f s) f true (s :: ext)=some (p,sp) from h) ag (.inl (by simp));have am':∀ x,stC S (f :: s :: ext ++ [x])=dG S sp p false [x]:=fun x=>Vx x (by simp) (show dG S (hk S f s) f true (s :: ext)=some (p,sp) from h) aq
 obtain ⟨q,aM⟩:∃ q:Nat,sp + 1=(q:Int):=⟨(sp + 1).toNat,by omega⟩;have sH:sp < S.m:=Int.not_le.mp (Hi k (show dG S (hk S f s) f true (s :: ext)=some (p,sp) from h) (by
  have:=(kk k f).2;unfold hk;split <;> omega))
 have aj:qc S sp=S.m - q:=by unfold qc;omega
 have each:∀ x ∈ cY S.m,lq S (f :: s :: ext ++ [x]) <= (1 + (if q <= (S.cW x).toNat then od (S.m - 1 - (S.cW x).toNat) else 0)) + (if S.own p=true then n6 (S.m - q) else 0):=fun x af=>by
  have i8:=j2.mp af;have anT:=kk k x;unfold lq;rw [am' x];unfold dG;by_cases a9:x=p\/(x=S.h/\([]:List Nat) ≠ [])
  .rw [if_pos a9];dsimp only;omega
  rw [if_neg a9];by_cases bB:S.own x=true
  .rw [if_pos bB];by_cases cT:S.cW x <= sp
   .rw [if_pos cT];dsimp only;omega
   .rw [if_neg cT];show nD S x (S.cW x) <= _;rw [if_pos (show q <= (S.cW x).toNat by omega)];have:nD S x (S.cW x) <= od (S.m - 1 - (S.cW x).toNat):=by
     unfold nD;by_cases B3:x=S.h
     .rw [if_pos B3];exact Wq _
     .rw [if_neg B3,if_pos bB,show qc S (S.cW x)=S.m - 1 - (S.cW x).toNat by unfold qc;omega];exact bP _
    omega
  .rw [if_neg bB];by_cases cT:(false:Bool)=false/\S.own p=false
   .rw [if_pos cT];dsimp only;omega
   .rw [if_neg cT];have jv:S.own p=true:=by
     cases e:S.own p with
     | true=>rfl
     | false=>exact absurd ⟨rfl,e⟩ cT
    show nD S x sp <= _;unfold nD;rw [if_neg (fun z=>bB (by rw [z];exact LV)),if_neg bB,aj,if_pos jv];omega
 have t1:=Pu each;rw [HS,HS,K9,K9,kh,afD k (fun x=>if q <= (S.cW x).toNat then od (S.m - 1 - (S.cW x).toNat) else 0)] at t1;have gw:((cY S.m).map fun s=>if q <= (S.cW (h6 S s)).toNat then od (S.m - 1 - (S.cW (h6 S s)).toNat) else 0)=(cY S.m).map fun s=>if q <= s then od (S.m - 1 - s) else 0:=Wa fun s aw=>by
  rw [E2 k (j2.mp aw),lB]
 rw [gw] at t1;have t3:=ah0 S.m mZ q (by omega);have G0:S.m * (if S.own p=true then n6 (S.m - q) else 0) <= 6 * (if S.own p=true then n6 (S.m - q) else 0):=sL _ mZ;have al4:lq S (f :: s :: ext)=nD S p sp:=by unfold lq;rw [h]
 rw [al4];unfold nD;rw [if_neg aq,aj];cases jv:S.own p with
 | true=>
  rw [jv,if_pos rfl] at t1 G0;rw [if_pos rfl];have jc:=i2 jv;have cB:S.cW p ≠ S.cW S.h:=fun z=>aq (adB k pN hm z)
  rw [alR k] at cB;have:=(kk k p).2;have aN:S.m - q ≠ 0:=by omega
  unfold od;rw [if_neg aN];unfold n6 at t1 G0;omega
 | false=>
  rw [jv,if_neg (by decide)] at t1 G0;rw [if_neg (by decide)];unfold n6;omega
set_option tactic.hygienic true in
theorem XE (k:S.Ok) (hf:f < S.m) (aw:s < S.m):lq S [f,s] <= 262144:=by
 have mZ:=k.n7;have hm:=k.hm;unfold lq;split
 .decide
 .rename_i q h;obtain ⟨p,sp⟩:=q;have aD:=z2 (show dG S (hk S f s) f true [s]=some (p,sp) from h);have sW:s=p:=by simpa using aD
  have ag:-1 <= hk S f s:=by
   have:=(kk k f).1;unfold hk;split <;> omega
  obtain ⟨i1,i2⟩:=Eg k (show dG S (hk S f s) f true [s]=some (p,sp) from h) ag (.inl (by simp));show nD S p sp <= _;have Nn:qc S sp <= 6:=by unfold qc;omega
  unfold nD;split
  .decide
  .split
   .rename_i c;have:=i2 c;have:=(kk k p).1;exact (R7 _ Nn).2 (by unfold qc;omega)
   .exact (R7 _ Nn).1
end
noncomputable def rq (S:dD):List V:=(cY S.m).map fun i=>V.bw (S.gb i)
theorem s_ {x:Nat} (h:x < S.m):(rq S)[x]? = some (.bw (S.gb x)):=by unfold rq;rw [cV,oB h];rfl
theorem pf (S:dD):(rq S).length=S.m:=by unfold rq;rw [aR,kh]
theorem uk (S:dD) (x:Nat):decide (V.bw (S.gb x)=V.bw (S.gb S.h))=S.own x:=by
 unfold dD.own;cases S.gb x <;> cases S.gb S.h <;> rfl
def af5:bO:=fun vs H Q _=>∃ g m x:Int,vs=[.int g,.int m,.int x]/\0 < m/\Q (.int ((x - g - 1) % m)) H
def aj_:bO:=fun vs H Q _=>∃ bo cl,∃ S:dD,∃ ch,vs=[.ref bo,.int (S.h:Nat),.ref cl]/\S.Ok/\H bo=some (.lst (rq S))/\H cl=some (.lst (bq ch))/\2 <= ch.length/\ch.length <= 100/\(∀ x ∈ ch,x < S.m)/\Q (.bw (stC S ch).isSome) H
theorem af_:cu P base T 1 t.KS t.JN zQ af5:=by
 exists T.xN.ok aiP,9
 obtain ⟨g,m,x,rfl,hm,q⟩:=h;refine ⟨_,(a3 (cc (bG jj (bG Uf (bG Uf (U 2) (U 0)) aJ) (U 1)))),?_⟩;nofun;exact ⟨hm,q⟩
theorem aiN:cu P base T 2 t.M8 t.Gv MB aj_:=by
 refine cR (af_ T) fun JO=>?_;exists T.Ht.ok vg,9
 obtain ⟨bo,cl,S,ch,rfl,k,hp,dR,cM,aoP,cQ,q⟩:=h;have hm:=k.hm;obtain ⟨f,s',ext,fq⟩:∃ f s' ext,ch=f :: s' :: ext:=by
  match ch,cM with
  | f :: s' :: ext,_=>exact ⟨f,s',ext,rfl⟩
 have h0:ch[0]? = some f:=by rw [fq];rfl
 have ab:ch[1]? = some s':=by rw [fq];rfl
 have hf:=cQ f (bM h0);have aw:=cQ s' (bM ab);have bU:=s_ hm;refine ⟨_,(aQ (bX (i:=3) vg.aB (ep fV rfl T.fG fJ (db (U 0) av)))
   (aQ (bX (i:=4) vg.aB (pL pC aJ))
   (aQ (dW (fW.pt (oo (c5 mz (bl b0 (U 0) (bl b0 (U 2) aJ)) (bl b0 (U 0) (U 1)) (cF _)) (oo (c5 eQ (bl b0 (U 0) (bl b0 (U 2) aJ)) (bl b0 (U 0) (U 1)) (cF _)) (oY (c5 mz (bl b0 (U 2) aJ) (U 1) (cF _)))))) (a3 (bX (i:=4) vg.aB (bS JO aj T.Ii T.xN.bj T.M5 (db (U 1) (db (U 3) (db (bl b0 (U 2) aJ) av)))))) ec)
   (aQ (eU eJ rfl (Oq rfl T.hA (db aJ (db (ep fV rfl T.fG fJ (db (U 2) av)) av))) (b5 (i:=5) vg.aB) (aQ (dW (fW.pt (vA (c5 eQ (bl b0 (U 2) (U 5)) (bl b0 (U 2) (bG Uf (U 5) aJ)) (cF _)) (wB (fW.pt (oo (c5 eQ (bl b0 (U 2) (U 5)) (U 1) (cF _)) (oY (c5 pv (U 5) (bG Uf (ep fV rfl T.fG fJ (db (U 2) av)) aJ) (cF _)))))))) (a3 (cc oZ)) ec)
   (a3 (dW (c5 eQ (bl b0 (U 0) (bl b0 (U 2) (U 5))) (bl b0 (U 0) (U 1)) (cF _)) (aQ (dW (c5 acY (bS JO aj T.Ii T.xN.bj T.M5 (db (U 1) (db (U 3) (db (bl b0 (U 2) (U 5)) av)))) (U 4) (cF _)) (a3 (cc oZ)) ec)
   (a3 (bX (i:=4) vg.aB (bS JO aj T.Ii T.xN.bj T.M5 (db (U 1) (db (U 3) (db (bl b0 (U 2) (U 5)) av))))))) (a3 (dW (fW.pt (oo (c5 pF (U 5) aJ (cF _)) (oY (c5 mz (bl b0 (U 0) (bl b0 (U 2) (bG Uf (U 5) aJ))) (bl b0 (U 0) (U 1)) (cF _))))) (a3 (cc oZ)) ec))))))
   (a3 (cc oZ)))))),?_⟩
 exists (fun ay I=>I=H/\ay=[~~~bo,some (.int (S.h:Nat)),~~~cl,some (.int (S.m:Nat)),none,none]),3
 .nofun;refine ⟨_,.inl (ak.of hp),?_⟩;rw [pf];exact bD _ _ ⟨rfl,rfl⟩
 rintro gu H1 ⟨rfl,rfl⟩;subst aY;exists (fun ay I=>I=H1/\ay=[~~~bo,some (.int (S.h:Nat)),~~~cl,some (.int (S.m:Nat)),some (.int (-1)),none]),3
 .nofun;exact bD _ _ ⟨rfl,rfl⟩
 rintro cH az ⟨rfl,rfl⟩;subst aY;exists (fun ay I=>I=az/\ay=[~~~bo,some (.int (S.h:Nat)),~~~cl,some (.int (S.m:Nat)),some (.int (hk S f s')),none]),3
 .refine cP (decide (S.own s'=false/\S.own f=true/\f ≠ S.h)) (fun Q aX=>?_) (fun c=>?_) (fun c=>?_)
  .nofun;refine ⟨_,ak.of dR,_,bA (j:=1) (fS ab),_,_,rfl,ak.of hp,_,bA (s_ aw),_,ak.of hp,_,bA bU,rfl,?_⟩;rw [uk];cases aW:S.own s' with
   | true=>
    rw [if_neg (by decide)];rw [decide_eq_false (fun z=>by rw [aW] at z;cases z.1)] at aX;exact aX
   | false=>
    rw [if_pos (by decide)];refine ⟨_,ak.of dR,_,bA (j:=0) (fS h0),_,_,rfl,ak.of hp,_,bA (s_ hf),_,ak.of hp,_,bA bU,rfl,?_⟩;rw [uk];cases RW:S.own f with
    | false=>
     rw [if_neg (by decide)];rw [decide_eq_false (fun z=>by rw [RW] at z;cases z.2.1)] at aX;exact aX
    | true=>
     rw [if_pos rfl];refine ⟨_,ak.of dR,_,bA (j:=0) (fS h0),rfl,?_⟩;by_cases cT:f=S.h
     .rw [cT,decide_eq_true rfl];rw [decide_eq_false (fun z=>z.2.2 cT)] at aX;exact aX
     .rw [decide_eq_false (fun z=>cT (by injection z with z;omega))];rw [decide_eq_true ⟨aW,RW,cT⟩] at aX;exact aX
  .nofun;refine ⟨_,ak.of dR,_,bA (j:=0) (fS h0),_,_,_,rfl,by omega,bD _ _ ⟨rfl,?_⟩⟩;unfold hk;rw [if_pos (of_decide_eq_true c)];rfl
  .simp only [f'];refine bD _ _ ⟨rfl,?_⟩;unfold hk;rw [if_neg (of_decide_eq_false c)]
 rintro gE bI ⟨rfl,rfl⟩;subst aY;simp only [dj];refine Er (fun ay I=>I=bI/\(stC S ch).isSome=true/\∃ c8 d8,ay=[~~~bo,some (.int (S.h:Nat)),~~~cl,some (.int (S.m:Nat)),c8,d8]) (fun hH bD Du _ _=>?_) ?_
 .nofun;refine ⟨_,.inl (ak.of dR),by decide,by decide,by rw [eF];omega,by rw [eF];omega,?_⟩;rw [eF,show ((ch.length:Int) - 1).toNat=ch.length - 1 by omega];refine dP.range (fun i σ I=>I=bI/\∃ last prev d8,ch[i]? = some prev/\dG S last prev (decide (i=0)) (ch.drop (i + 1))=stC S ch/\σ=[~~~bo,some (.int (S.h:Nat)),~~~cl,some (.int (S.m:Nat)),some (.int last),d8]) ?_ ?_ ?_
  .exact ⟨rfl,_,f,_,h0,by rw [fq];rfl,rfl⟩
  .rintro i σ I ag a7;ac_rfl
   obtain ⟨rfl,last,prev,d8,aq,u9,rfl⟩:=a7;obtain ⟨x,af⟩:∃ x,ch[i + 1]? = some x:=⟨ch[i + 1]'(by omega),a_ _⟩;have i8:=cQ x (bM af);have pN:=cQ prev (bM aq);have aj4:ch.drop (i + 1)=x :: ch.drop (i + 1 + 1):=by
    obtain ⟨aD,e⟩:=bY.mp af;rw [qP aD,e]
   have cB:ch.drop (i + 1 + 1) ≠ []↔i + 1 < ch.length - 1:=by
    rw [ne_eq,List.drop_eq_nil_iff];omega
   subst aY;rw [aj4] at u9;have ao:(1:Int) + (i:Int)=((i + 1:Nat):Int):=by omega
   have aC:((i + 1:Nat):Int) - 1=(i:Int):=by omega
   simp only [e_,gU,gM];rw [ao];simp only [dj];have bad:∀ {b:Bool},dG S last prev (decide (i=0)) (x :: ch.drop (i + 1 + 1))=none->hH.l_ (.bw false) I:=fun {b} z=>by
    rw [Du];rw [<- u9,z] at q;exact q
   by_cases a9:x=prev\/(x=S.h/\ch.drop (i + 1 + 1) ≠ [])
   .refine cP true (fun Q aX=>?_) (fun _=>?_) (fun z=>nomatch z)
    .nofun;refine ⟨_,ak.of dR,_,bA (fS af),_,ak.of dR,_,by rw [aC];exact bA (fS aq),rfl,?_⟩;by_cases bB:x=prev
     .rw [bB,decide_eq_true rfl,if_pos rfl];exact aX
     .rw [if_neg (by rw [decide_eq_false (fun z=>bB (by injection z with z;omega))];decide)];obtain ⟨cT,B3⟩:=a9.resolve_left bB;refine ⟨_,ak.of dR,_,bA (fS af),rfl,?_⟩;rw [cT,decide_eq_true rfl,if_pos rfl];refine ⟨_,.inl (ak.of dR),?_⟩;rw [eF,decide_eq_true (by have:=cB.mp B3;omega)];exact aX
    .nofun;refine bad (b:=true) ?_;unfold dG;rw [if_pos a9]
   refine cP false (fun Q aX=>?_) (fun z=>nomatch z) (fun _=>?_)
   .nofun;refine ⟨_,ak.of dR,_,bA (fS af),_,ak.of dR,_,by rw [aC];exact bA (fS aq),rfl,?_⟩;rw [if_neg (by rw [decide_eq_false (fun z=>a9 (.inl (by injection z with z;omega)))];decide)];refine ⟨_,ak.of dR,_,bA (fS af),rfl,?_⟩;by_cases cT:x=S.h
    .rw [cT,decide_eq_true rfl,if_pos rfl];refine ⟨_,.inl (ak.of dR),?_⟩;rw [eF,decide_eq_false (fun z=>a9 (.inr ⟨cT,cB.mpr (by omega)⟩))];exact aX
    .rw [if_neg (by rw [decide_eq_false (fun z=>cT (by injection z with z;omega))];decide)];exact aX
   simp only [f',dj];have qR:=u9;unfold dG at qR;rw [if_neg a9] at qR;cases bB:S.own x with
   | true=>
    rw [bB,if_pos rfl] at qR;refine cP true (fun Q aX=>?_) (fun _=>?_) (fun z=>nomatch z)
    .nofun;refine ⟨_,ak.of dR,_,bA (fS af),_,_,rfl,ak.of hp,_,bA (s_ i8),_,ak.of hp,_,bA bU,rfl,?_⟩;rw [uk,bB];exact aX
    simp only [dj];by_cases cT:S.cW x <= last
    .refine cP true (fun Q aX=>?_) (fun _=>?_) (fun z=>nomatch z)
     .nofun;refine ⟨_,ak.of dR,_,bA (fS af),_,_,_,rfl,by omega,_,rfl,?_⟩;rw [decide_eq_true (show (((x:Nat):Int) - ((S.h:Nat):Int) - 1) % ((S.m:Nat):Int) <= last from cT)];exact aX
     .nofun;refine bad (b:=true) ?_;unfold dG;rw [if_neg a9,if_pos bB,if_pos cT]
    refine cP false (fun Q aX=>?_) (fun z=>nomatch z) (fun _=>?_)
    .nofun;refine ⟨_,ak.of dR,_,bA (fS af),_,_,_,rfl,by omega,_,rfl,?_⟩;rw [decide_eq_false (show ¬ (((x:Nat):Int) - ((S.h:Nat):Int) - 1) % ((S.m:Nat):Int) <= last from cT)];exact aX
    simp only [f'];rw [if_neg cT] at qR;nofun;refine ⟨_,ak.of dR,_,bA (fS af),_,_,_,rfl,by omega,?_⟩;exact ⟨rfl,S.cW x,x,af,qR,rfl,_,rfl⟩
   | false=>
    rw [bB,if_neg (by decide)] at qR;refine cP false (fun Q aX=>?_) (fun z=>nomatch z) (fun _=>?_)
    .nofun;refine ⟨_,ak.of dR,_,bA (fS af),_,_,rfl,ak.of hp,_,bA (s_ i8),_,ak.of hp,_,bA bU,rfl,?_⟩;rw [uk,bB];exact aX
    by_cases cT:decide (i=0)=false/\S.own prev=false
    .refine cP true (fun Q aX=>?_) (fun _=>?_) (fun z=>nomatch z)
     .have xx:i ≠ 0:=of_decide_eq_false cT.1;nofun;rw [if_pos (decide_eq_true (by omega))];refine ⟨_,ak.of dR,_,by rw [aC];exact bA (fS aq),_,_,rfl,ak.of hp,_,bA (s_ pN),_,ak.of hp,_,bA bU,rfl,?_⟩;rw [uk,cT.2];exact aX
     .nofun;refine bad (b:=true) ?_;unfold dG;rw [if_neg a9,if_neg (by rw [bB];decide),if_pos cT]
    refine cP false (fun Q aX=>?_) (fun z=>nomatch z) (fun _=>?_)
    .nofun;by_cases xx:i=0
     .rw [if_neg (by rw [decide_eq_false (by omega)];decide)];exact aX
     .rw [if_pos (decide_eq_true (by omega))];refine ⟨_,ak.of dR,_,by rw [aC];exact bA (fS aq),_,_,rfl,ak.of hp,_,bA (s_ pN),_,ak.of hp,_,bA bU,rfl,?_⟩;rw [uk];cases jv:S.own prev with
      | true=>exact aX
      | false=>exact absurd ⟨decide_eq_false xx,jv⟩ cT
    simp only [f'];rw [if_neg cT] at qR;refine ⟨trivial,last,x,_,af,?_,rfl⟩;rw [decide_eq_false (by omega)];exact qR
  .rintro σ I a7;ac_rfl
   obtain ⟨rfl,last,prev,d8,aq,u9,rfl⟩:=a7;subst aY;rw [List.drop_eq_nil_of_le (by omega)] at u9;refine bD _ _ ⟨rfl,?_,_,_,rfl⟩;rw [<- u9];rfl
 rintro mw cD a7;ac_rfl
 obtain ⟨rfl,bh,c8,d8,rfl⟩:=a7;subst aY;nofun;rw [bh] at q;exact q
noncomputable def hy (S:dD) (bp:List (List Nat)):Nat:=(bp.map (lq S)).sum
theorem O0 (S:dD) (bp:List (List Nat)) (c:List Nat):hy S (bp ++ [c])=hy S bp + lq S c:=by unfold hy;rw [dA,wL];simp
theorem wu (S:dD):∀ bp:List (List Nat),bp.length <= hy S bp
 | []=>bP _
 | c :: r=>by
  have ab:=wu S r;have ai:=KM (S:=S) c;unfold hy at ab ⊢;rw [eB,nr,fQ];omega
def MI (S:dD) (c:List Nat):Prop:=(∃ f s e,c=f :: s :: e)/\(∀ x ∈ c,x < S.m)/\c.length <= 60
def yy (S:dD) (ys:List Nat):Prop:=∃ f s ext,ys=f :: s :: ext/\f < S.m/\s < S.m/\f ≠ s/\hT S s (g7 S f s) ext
theorem KG (k:S.Ok) (h:yy S ys):(∃ q,stC S ys=some q)/\ys.getLast? = some S.h/\(∀ x ∈ ys,x < S.m):=by
 obtain ⟨f,s,ext,rfl,ab,ai,a5,bQ⟩:=h;obtain ⟨_,fo,_,_⟩:=Am k bQ (IA k f s) (fun z=>by unfold g7;rw [if_pos z]);obtain ⟨a,b⟩:=(Rq k ab ai fo).mpr ⟨a5,bQ⟩;refine ⟨a,by rw [r0];exact b,fun x af=>?_⟩;rcases d9.mp af with e | e
 .rw [e];exact ab
 .rcases d9.mp e with e | e
  .rw [e];exact ai
  .exact fo x e
theorem Xn (k:S.Ok) (p:MI S c) (h:∃ q,stC S c=some q) (aD:c.getLast? = some S.h):yy S c:=by
 obtain ⟨⟨f,s,e,rfl⟩,cQ,_⟩:=p;rw [r0] at aD;obtain ⟨a,b⟩:=(Rq k (cQ f (by simp)) (cQ s (by simp)) (fun x af=>cQ x (by simp [af]))).mp ⟨h,aD⟩;exact ⟨f,s,e,rfl,cQ f (by simp),cQ s (by simp),a,b⟩
theorem aav (ai:2 <= c.length) (h:stC S c=none):stC S (c ++ l)=none:=by
 match c,ai with
 | f :: s :: e,_=>exact Ms l h
theorem acO (ai:2 <= c.length) (h:c.getLast? = some S.h):stC S (c ++ y :: l)=none:=by
 match c,ai with
 | f :: s :: e,_=>
  rw [r0] at h;exact Kw y l h
theorem aiO {p:Nat} (h:stC S c=some (p,sp)):c.getLast? = some p:=by
 match c,h with
 | f :: s :: e,h=>exact z2 (show dG S (hk S f s) f true (s :: e)=some (p,sp) from h)
theorem Gf (k:S.Ok):∀ {rest:List Nat} {last:Int} {prev:Nat} {fst:Bool} {p:Nat} {sp:Int},dG S last prev fst rest=some (p,sp)->rest.length <= lb S prev last + (if fst=true then 1 else 0)
 | [],_,_,_,_,_,_=>fg _
 | x :: r,last,prev,fst,p,sp,h=>by
  unfold dG at h;rw [fQ];split at h
  .cases h
  .split at h
   .split at h
    .cases h
    .rename_i c;have ab:=Gf k h;have ai:=KH k (p:=prev) (Int.not_le.mp c);rw [if_neg (by decide)] at ab;omega
   .rename_i bB;have Cv:S.own x=false:=by simpa using bB
    split at h
    .cases h
    .rename_i c;have ab:=Gf k h;rw [if_neg (by decide)] at ab;cases aq:S.own prev with
     | true=>
      have ai:=Jb (sp:=last) aq Cv;omega
     | false=>
      have hf:fst=true:=by
       cases fst with
       | true=>rfl
       | false=>exact absurd ⟨rfl,aq⟩ c
      rw [hf,if_pos rfl];unfold lb at ab ⊢;rw [Cv,if_neg (by decide)] at ab;omega
theorem akI (k:S.Ok) {p:Nat} (h:stC S c=some (p,sp)):c.length <= 17:=by
 match c,h with
 | f :: s :: e,h=>
  have ab:=Gf k (show dG S (hk S f s) f true (s :: e)=some (p,sp) from h);have ag:-1 <= hk S f s:=by
   have:=(kk k f).1;unfold hk;split <;> omega
  have ai:=Wt k (p:=f) ag;rw [if_pos rfl] at ab;rw [fQ];omega
theorem akY (S:dD) (a b:List (List Nat)):hy S (a ++ b)=hy S a + hy S b:=by unfold hy;rw [dA,wL]
structure Pz (S:dD) (hr lN:List (List Nat)):Prop where
 pre:∀ c ∈ hr,MI S c
 snd:∀ c ∈ lN,yy S c
 cmp:∀ ys,yy S ys->ys ∈ lN\/∃ c ∈ hr,∃ l,ys=c ++ l
 ZM:lN.length + hy S hr <= 10000000
def Ws:bO:=fun vs H Q _=>∃ bo,∃ S:dD,vs=[.ref bo,.int (S.h:Nat)]/\S.Ok/\H bo=some (.lst (rq S))/\aL H/\∀ r qs bp I,aH H I->aL I->fj I r qs bp->rj S bp->Q (.ref r) I
theorem fj.put {p b:Addr} (h:fj H p qs bp) (ae:H b=some (.lst (bq xs))) (ck:p ∉ qs) (cv:b ≠ p):fj (upd H p (.lst (qs.map V.ref ++ [V.ref b]))) p (qs ++ [b]) (bp ++ [xs])/\p ∉ qs ++ [b]:=by
 refine ⟨⟨by rw [aS,dA];rfl,by rw [cC,cC,h.ln];rfl,fun i q ys ab ai=>?_⟩,fun hm=>(dZ.mp hm).elim ck fun z=>cv (eu.mp z).symm⟩;rcases ka ab with ⟨g1,g2⟩ | ⟨g1,g2⟩
 .rcases ka ai with ⟨g3,mW⟩ | ⟨g3,mW⟩
  .rw [aZ (fun z=>ck (by rw [<- z];exact bM g2))];exact h.al i q ys g2 mW
  .rw [h.ln] at g1;omega
 .rcases ka ai with ⟨g3,mW⟩ | ⟨g3,mW⟩
  .rw [h.ln] at g1;omega
  .subst g2 mW;rw [aZ cv];exact ae
theorem aep:cu P base T 3 t.z1 t.A_ Cx Ws:=by
 refine cR (aiN T) fun aiY=>?_;exists T.Kf.ok tF,9
 obtain ⟨bo,S,rfl,k,hp,bC,q⟩:=h;have hm:=k.hm;have mZ:=k.n7;obtain ⟨d6,Ai⟩:∃ d6:Nat,d6=262144:=⟨_,rfl⟩;have Mu:∀ {f s},f < S.m->s < S.m->lq S [f,s] <= d6:=fun hf aw=>by rw [Ai];exact XE k hf aw
 refine ⟨_,(aQ (bX (i:=2) tF.aB (d4 av))
   (aQ (eU eJ rfl (iw rfl T.hA (db (ep fV rfl T.fG fJ (db (U 0) av)) av)) (b5 (i:=3) tF.aB) (a3 (eU eJ rfl (iw rfl T.hA (db (ep fV rfl T.fG fJ (db (U 0) av)) av)) (b5 (i:=4) tF.aB) (a3 (dW (c5 mz (U 4) (U 3) (cF _)) (a3 (dN (ef e2 h2 iC hY (U 2) (db (d4 (db (U 3) (db (U 4) av))) av)))) ec)))))
   (aQ (bX (i:=5) tF.aB (d4 av))
   (aQ (WO eJ (c5 pF (ep fV rfl T.fG fJ (db (U 2) av)) aJ (cF _)) (aQ (bX (i:=6) tF.aB (Ld e2 XG PySem.F.type_list_pop ahp (U 2)))
   (aQ (dW (x6 (o1 (bS aiY aj T.aeV T.Ht.bj T.aaN (db (U 0) (db (U 1) (db (U 6) av)))))) (a3 UA) ec)
   (aQ (dW (c5 eQ (bl b0 (U 6) (pL pC aJ)) (U 1) (cF _)) (aQ (dN (ef e2 h2 iC hY (U 5) (db (U 6) av)))
   (a3 UA)) ec)
   (a3 (eU eJ rfl (iw rfl T.hA (db (ep fV rfl T.fG fJ (db (U 0) av)) av)) (b5 (i:=4) tF.aB) (a3 (dN (ef e2 h2 iC hY (U 2) (db (bG BX (U 6) (d4 (db (U 4) av))) av))))))))))
   (a3 (cc (U 5))))))),?_⟩
 exists (fun ay I=>aH H I/\aL I/\∃ c6,H c6=none/\I c6=some (.lst [])/\ay=[~~~bo,some (.int (S.h:Nat)),~~~c6,none,none,none,none]),3
 .nofun;exact ⟨by decide,fun c6 mI=>bD _ _ ⟨a' mI,bC.upd,c6,mI,aS,rfl⟩⟩
 rintro gu H1 ⟨s1,ck,c6,mI,m7,rfl⟩;subst aY;exists (fun ay I=>aH H I/\aL I/\∃ qs bp fx c8,fj I c6 qs bp/\c6 ∉ qs/\(∀ c,c ∈ bp↔∃ f s,c=[f,s]/\f < S.m/\s < S.m/\s ≠ f)/\hy S bp <= S.m * (6 * d6)/\ay=[~~~bo,some (.int (S.h:Nat)),~~~c6,fx,c8,none,none]),3
 .nofun;refine ⟨_,.inl (ak.of (s1 _ _ hp)),by rw [pf];omega,by rw [pf];omega,?_⟩;rw [pf,lB];refine dP.range (fun i σ I=>aH H I/\aL I/\∃ qs bp fx c8,fj I c6 qs bp/\c6 ∉ qs/\(∀ c,c ∈ bp↔∃ f s,c=[f,s]/\f < i/\s < S.m/\s ≠ f)/\hy S bp <= i * (6 * d6)/\σ=[~~~bo,some (.int (S.h:Nat)),~~~c6,fx,c8,none,none]) ?_ ?_ ?_
  .exact ⟨s1,ck,[],[],_,_,⟨m7,rfl,fun i q xs h=>by simp at h⟩,by simp,fun c=>⟨fun h=>by simp at h,fun ⟨f,s,_,h,_⟩=>by omega⟩,fg _,rfl⟩
  .rintro i σ cD ag a7;ac_rfl
   obtain ⟨s4,de,qs,bp,fx,c8,ez,mU,nt,jE,rfl⟩:=a7;subst aY;simp only [e_,gU,gM];rw [lP];nofun;refine ⟨_,.inl (ak.of (s4 _ _ hp)),by rw [pf];omega,by rw [pf];omega,?_⟩;rw [pf,lB];refine dP.range (fun j σ I=>aH H I/\aL I/\∃ qs d7 c8,fj I c6 qs d7/\c6 ∉ qs/\(∀ c,c ∈ d7↔(c ∈ bp\/∃ s,c=[i,s]/\s < j/\s ≠ i))/\hy S d7 <= i * (6 * d6) + j * d6/\σ=[~~~bo,some (.int (S.h:Nat)),~~~c6,some (.int i),c8,none,none]) ?_ ?_ ?_
   .exact ⟨s4,de,qs,bp,_,ez,mU,fun c=>⟨.inl,fun h=>h.elim id (fun ⟨s,_,h,_⟩=>by omega)⟩,cq jE (v_ _ _),rfl⟩
   .rintro j σ c3 aN a7;ac_rfl
    obtain ⟨s5,dT,lM,d7,PM,fh,gK,iW,nz,rfl⟩:=a7;have apq:(j + 1) * d6=j * d6 + d6:=qC j d6;subst aY;simp only [e_,gU,gM];rw [lP];by_cases s6:j=i
    .refine cP false (fun Q aX=>?_) (fun z=>nomatch z) (fun _=>?_)
     .nofun;rw [s6,decide_eq_true rfl];exact aX
     .simp only [f'];refine ⟨s5,dT,lM,d7,_,fh,gK,fun c=>?_,by omega,rfl⟩;rw [iW];constructor
      .rintro (h | ⟨s,ab,ai,a5⟩)
       .exact .inl h
       .exact .inr ⟨s,ab,by omega,a5⟩
      .rintro (h | ⟨s,ab,ai,a5⟩)
       .exact .inl h
       .exact .inr ⟨s,ab,by omega,a5⟩
    .refine cP true (fun Q aX=>?_) (fun _=>?_) (fun z=>nomatch z)
     .nofun;rw [decide_eq_false (fun z=>s6 (by omega))];exact aX
     .nofun;have aF:d7.length <= hy S d7:=wu S d7;have Ci:i * (6 * d6) <= 5 * (6 * d6):=sL _ (by omega);have t7:j * d6 <= 5 * d6:=sL _ (by omega);refine ⟨.inl ⟨_,ak.of fh.at_⟩,by decide,fun p aq=>?_⟩;have dO:aH c3 (upd c3 p (.lst [V.int (i:Nat),V.int (j:Nat)])):=a' aq;have k8:=fh.same dO;have Lz:p ≠ c6:=fun z=>by rw [z,fh.at_] at aq;cases aq
      obtain ⟨hP,x9⟩:=k8.put (xs:=[i,j]) (b:=p) aS gK Lz;refine ⟨_,k8.at_,gI (show _ <= 10000000 by rw [aR,fh.ln];omega) (by decide),fun b u e=>?_,(dT.upd).upd,_,_,hP,x9,fun c=>?_,by rw [O0];have:=Mu (f:=i) (s:=j) (by omega) (by omega);omega,_,rfl⟩
      .rw [aZ (Db e mI)];exact dO _ _ (s5 _ _ e)
      .rw [dZ,eu,iW];constructor
       .rintro ((h | ⟨s,ab,ai,a5⟩) | h)
        .exact .inl h
        .exact .inr ⟨s,ab,by omega,a5⟩
        .exact .inr ⟨j,h,by omega,s6⟩
       .rintro (h | ⟨s,ab,ai,a5⟩)
        .exact .inl (.inl h)
        .by_cases cs:s < j
         .exact .inl (.inr ⟨s,ab,cs,a5⟩)
         .have aT:s=j:=by omega
          subst aT;exact .inr ab
   .rintro σ c3 a7;ac_rfl
    obtain ⟨s5,dT,lM,d7,PM,fh,gK,iW,nz,rfl⟩:=a7;subst aY;refine ⟨s5,dT,⟨lM,d7,fh,gK,fun c=>?_,by have:(i + 1) * (6 * d6)=i * (6 * d6) + 6 * d6:=qC i (6 * d6);have:=sL d6 mZ;omega,_,_,rfl⟩⟩;rw [iW,nt];constructor
    .rintro (⟨f,s,ab,ai,a5,bQ⟩ | ⟨s,ab,ai,a5⟩)
     .exact ⟨f,s,ab,by omega,a5,bQ⟩
     .exact ⟨i,s,ab,by omega,by omega,a5⟩
    .rintro ⟨f,s,ab,ai,a5,bQ⟩;by_cases w8:f < i
     .exact .inl ⟨f,s,ab,w8,a5,bQ⟩
     .have p4:f=i:=by omega
      subst p4;exact .inr ⟨s,ab,a5,bQ⟩
  .rintro σ cD a7;ac_rfl
   obtain ⟨s4,de,qs,bp,fx,c8,ez,mU,nt,jE,rfl⟩:=a7;subst aY;exact bD _ _ ⟨s4,de,qs,bp,fx,c8,ez,mU,nt,jE,rfl⟩
 rintro cH az ⟨s2,cv,afh,F5,fx,c8,Aq,aje,jD,fo,rfl⟩;have apV:S.m * (6 * d6) <= 6 * (6 * d6):=sL _ mZ;have bK:Pz S F5 []:=by
  refine ⟨fun c ar=>?_,(fun c ar=>by simp at ar),fun ys aU=>.inr ?_,?_⟩
  .obtain ⟨f,s',rfl,ab,ai,_⟩:=(jD c).mp ar;refine ⟨⟨f,s',[],rfl⟩,fun x af=>?_,(show (2:Nat) <= 60 by decide)⟩;simp only [d9,m5,or_false] at af;rcases af with rfl | rfl <;> assumption
  .obtain ⟨f,s',ext,rfl,ab,ai,a5,_⟩:=aU;exact ⟨[f,s'],(jD _).mpr ⟨f,s',rfl,ab,ai,dF a5⟩,ext,rfl⟩
  .show 0 + _ <= _;omega
 subst aY;exists (fun ay I=>aH az I/\aL I/\∃ gA,az gA=none/\I gA=some (.lst [])/\ay=[~~~bo,some (.int (S.h:Nat)),~~~c6,fx,c8,~~~gA,none]),3
 .nofun;exact ⟨by decide,fun gA rO=>bD _ _ ⟨a' rO,cv.upd,gA,rO,aS,rfl⟩⟩
 rintro gE bI ⟨s3,c0,gA,rO,oz,rfl⟩;have A5:c6 ≠ gA:=fun z=>by rw [<- z,Aq.at_] at rO;cases rO
 subst aY;simp only [dj];refine ⟨fun m σ I=>aH H I/\aL I/\∃ qs hr oy lN fx c8 b4,m=hy S hr/\fj I c6 qs hr/\c6 ∉ qs/\fj I gA oy lN/\gA ∉ oy/\gA ∉ qs/\c6 ∉ oy/\Pz S hr lN/\σ=[~~~bo,some (.int (S.h:Nat)),~~~c6,fx,c8,~~~gA,b4],⟨_,s2.trans s3,c0,afh,F5,[],[],fx,c8,_,rfl,Aq.same s3,aje,⟨oz,rfl,fun i q xs h=>by simp at h⟩,by simp,fun z=>?_,by simp,bK,rfl⟩,?_⟩
 .obtain ⟨j,aN⟩:=hD z;have jy:j < F5.length:=by rw [<- Aq.ln];exact (bY.mp aN).1
  rw [Aq.al j gA _ aN (a_ jy)] at rO;cases rO
 rintro m σ cD a7;ac_rfl
 obtain ⟨s4,de,qs,hr,oy,lN,agy,PM,qt,rfl,ez,mU,C3,KV,QP,wI,fY,rfl⟩:=a7;subst aY;nofun;refine ⟨_,.inl (ak.of ez.at_),?_⟩;rw [aR,ez.ln];cases Ue:hr.reverse with
 | nil=>
  have aT:hr=[]:=List.reverse_eq_nil_iff.mp Ue;rw [aT,if_neg (by decide)];refine q gA oy lN _ s4 de C3 fun ys=>⟨fun h=>fY.snd ys h,fun h=>?_⟩
  rcases fY.cmp ys h with z | ⟨c,ar,_⟩
  .exact z
  .rw [aT] at ar;cases ar
 | cons c rs=>
  obtain ⟨f3,q5⟩:∃ f3,hr=f3 ++ [c]:=⟨rs.reverse,by rw [<- List.reverse_reverse hr,Ue,List.reverse_cons]⟩;have mm:qs.length=f3.length + 1:=by rw [ez.ln,q5,cC];rfl
  obtain ⟨gJ,b,eqs⟩:∃ gJ b,qs=gJ ++ [b]:=by
   rcases List.eq_nil_or_concat qs with e | ⟨l,x,e⟩
   .rw [e] at mm;cases mm
   .exact ⟨l,x,by rw [e];simp⟩
  have wh:gJ.length=f3.length:=by rw [eqs,cC] at mm;exact Nat.succ.inj mm
  rw [if_pos (by rw [q5,cC];exact decide_eq_true (by simp))];have pc:=fY.pre c (by rw [q5];simp);obtain ⟨⟨w8,cs,ce,CZ⟩,cQ,ap2⟩:=id pc;have oG:2 <= c.length:=by rw [CZ];simp
  have eA:cD b=some (.lst (bq c)):=ez.al f3.length b c (by rw [eqs,k5 (by omega),wh,v8];rfl) (by rw [q5,k5 (bP _),v8];rfl);have Fe:b ≠ c6:=fun z=>mU (by rw [eqs,z];simp)
  have t8:b ≠ gA:=fun z=>QP (by rw [eqs,z];simp)
  have sT:hy S hr=hy S f3 + lq S c:=by rw [q5,O0]
  have iP:=KM (S:=S) c;have apO:=fY.ZM;refine ⟨_,fun ay I h=>h,.inl ⟨_,ak.of ez.at_⟩,_,ez.at_,V.ref b,by rw [aR,eqs,dA,cC];show (gJ.map V.ref ++ [V.ref b])[gJ.length + 1 - 1]? = _;rw [Ho,k5 (by rw [aR];exact bP _),aR,v8];rfl,?_⟩;rw [show (qs.map V.ref).dropLast=gJ.map V.ref by rw [eqs,dA];show (gJ.map V.ref ++ [V.ref b]).dropLast=_;rw [List.dropLast_concat]];have s5:aH H (upd cD c6 (.lst (gJ.map V.ref))):=fun x u e=>by rw [aZ (Db e mI)];exact s4 _ _ e
  have dT:aL (upd cD c6 (.lst (gJ.map V.ref))):=de.upd;have gK:c6 ∉ gJ:=fun z=>mU (by rw [eqs];simp [z])
  have A6:gA ∉ gJ:=fun z=>QP (by rw [eqs];simp [z])
  have fh:fj (upd cD c6 (.lst (gJ.map V.ref))) c6 gJ f3:=⟨aS,wh,fun i cb xs ab ai=>by
   have ag:=(bY.mp ab).1;rw [aZ (fun z=>gK (by rw [<- z];exact bM ab))];exact ez.al i cb xs (by rw [eqs,m9 ag];exact ab) (by rw [q5,m9 (by omega)];exact ai)⟩
  have sY:fj (upd cD c6 (.lst (gJ.map V.ref))) gA oy lN:=⟨by rw [aZ (dF A5)];exact C3.at_,C3.ln,fun i cb xs ab ai=>by
   rw [aZ (fun z=>wI (by rw [<- z];exact bM ab))];exact C3.al i cb xs ab ai⟩
  have tb:upd cD c6 (.lst (gJ.map V.ref)) b=some (.lst (bq c)):=by rw [aZ Fe];exact eA
  generalize upd cD c6 (.lst (gJ.map V.ref))=c3 at s5 dT fh sY tb ⊢;have FW:∀ c' ∈ f3,MI S c':=fun c' jZ=>fY.pre c' (by rw [q5];simp [jZ])
  have JI:∀ ys,yy S ys->(∀ l,ys ≠ c ++ l)->ys ∈ lN\/∃ c' ∈ f3,∃ l,ys=c' ++ l:=fun ys aU aV=>by
   rcases fY.cmp ys aU with z | ⟨c',jZ,l,e⟩
   .exact .inl z
   .rw [q5] at jZ;rcases dZ.mp jZ with z | z
    .exact .inr ⟨c',z,l,e⟩
    .rw [eu.mp z] at e;exact absurd e (aV l)
  cases ff:stC S c with
  | none=>
   refine cP true (fun Q aX=>?_) (fun _=>?_) (fun z=>nomatch z)
   .nofun;refine ⟨bo,b,S,c,rfl,k,s5 _ _ hp,tb,oG,by omega,cQ,?_⟩;rw [ff];exact ⟨_,rfl,aX⟩
   .show ∃ dm,_;refine ⟨hy S f3,by omega,s5,dT,gJ,f3,rfl,fh,gK,oy,lN,sY,KV,A6,wI,⟨FW,fY.snd,fun ys aU=>JI ys aU fun l e=>?_,by omega⟩,_,_,_,rfl⟩;obtain ⟨⟨cb,e0⟩,_⟩:=KG k aU;rw [e,aav oG ff] at e0;cases e0
  | some ps=>
   obtain ⟨p,sp⟩:=ps;have nu:=aiO ff;refine cP false (fun Q aX=>?_) (fun z=>nomatch z) (fun _=>?_)
   .nofun;refine ⟨bo,b,S,c,rfl,k,s5 _ _ hp,tb,oG,by omega,cQ,?_⟩;rw [ff];exact ⟨_,rfl,aX⟩
   simp only [f',dj];have i':eE (bq c) (-1)=some (.int (p:Nat)):=r8 (by rw [eF];exact fS (by rw [<- LK];exact nu));have pN:p < S.m:=cQ p (List.mem_of_getLast? nu);by_cases ug:p=S.h
   .refine cP true (fun Q aX=>?_) (fun _=>?_) (fun z=>nomatch z)
    .nofun;refine ⟨_,ak.of tb,_,i',rfl,?_⟩;rw [ug,decide_eq_true rfl];exact aX
    .rw [ug] at nu;obtain ⟨za,Yz⟩:=sY.put (xs:=c) (b:=b) tb KV t8;have g9:=wu S hr;nofun;refine ⟨.inl ⟨_,ak.of sY.at_⟩,_,sY.at_,gI (show _ <= 10000000 by rw [aR,sY.ln];omega) (by decide),?_⟩;show ∃ dm,_;refine ⟨hy S f3,by omega,fun x u e=>?_,dT.upd,gJ,f3,rfl,⟨by rw [aZ A5];exact fh.at_,fh.ln,fun i cb xs ab ai=>?_⟩,gK,_,_,za,Yz,A6,fun kF=>(dZ.mp kF).elim wI (fun z=>Fe (eu.mp z).symm),⟨FW,fun c' jZ=>(dZ.mp jZ).elim (fY.snd c') (fun z=>by rw [eu.mp z];exact Xn k pc ⟨_,ff⟩ nu),fun ys aU=>?_,by rw [cC];show lN.length + 1 + _ <= _;omega⟩,_,rfl⟩
     .rw [aZ (Db e (s2.free rO))];exact s5 _ _ e
     .rw [aZ (fun z=>A6 (by rw [<- z];exact bM ab))];exact fh.al i cb xs ab ai
     .by_cases wM:ys=c
      .exact .inl (by rw [wM];simp)
      .have aV:∀ l,ys ≠ c ++ l:=fun l e=>by
        cases l with
        | nil=>exact wM (by rw [e,p5])
        | cons y l=>
         obtain ⟨⟨cb,e0⟩,_⟩:=KG k aU;rw [e,acO oG nu] at e0;cases e0
       rcases JI ys aU aV with z | z
       .exact .inl (nE _ z)
       .exact .inr z
   refine cP false (fun Q aX=>?_) (fun z=>nomatch z) (fun _=>?_)
   .nofun;refine ⟨_,ak.of tb,_,i',rfl,?_⟩;rw [decide_eq_false (fun z=>ug (by injection z with z;omega))];exact aX
   simp only [f',dj];have aov:=aat k oG ff ug pN;nofun;refine ⟨_,.inl (ak.of (s5 _ _ hp)),by rw [pf];omega,by rw [pf];omega,?_⟩;rw [pf,lB];have apw:=akI k ff;have QU:hy S ((cY S.m).map fun x=>c ++ [x])=((cY S.m).map fun x=>lq S (c ++ [x])).sum:=by unfold hy;rw [oS];rfl
   refine dP.range (fun i σ I=>aH H I/\aL I/\I b=some (.lst (bq c))/\∃ qs c8,fj I c6 qs (f3 ++ (cY i).map fun x=>c ++ [x])/\c6 ∉ qs/\fj I gA oy lN/\gA ∉ qs/\σ=[~~~bo,some (.int (S.h:Nat)),~~~c6,agy,c8,~~~gA,~~~b]) ?_ ?_ ?_
   .exact ⟨s5,dT,tb,gJ,_,by rw [List.range_zero,pH,p5];exact fh,gK,sY,A6,rfl⟩
   .rintro i σ fz ag a7;ac_rfl
    obtain ⟨dO,mh,e1,P4,b4,k8,Kp,D_,MZ,rfl⟩:=a7;subst aY;simp only [e_,gU,gM];rw [lP];have aF:(f3 ++ (cY i).map fun x=>c ++ [x]).length <= 10000000:=by
     have ab:=wu S f3;have ai:=wu S ((cY S.m).map fun x=>c ++ [x]);rw [aR,kh,QU] at ai;rw [cC,aR,kh];omega
    nofun;refine ⟨.inl ⟨_,ak.of k8.at_⟩,by decide,fun jW q6=>?_⟩;have De:b ≠ jW:=fun z=>by rw [<- z,e1] at q6;cases q6
    refine ⟨bq c,by rw [aZ De];exact e1,_,aS,cq (show _ <= 61 by rw [eF];show c.length + 1 <= 61;omega) (by decide),fun df fm=>?_⟩;have gs:=(a' (o:=.lst [V.int (i:Nat)]) q6).trans (a' (o:=.lst (bq c ++ [V.int (i:Nat)])) fm);have hg:aL (upd (upd fz jW (.lst [V.int (i:Nat)])) df (.lst (bq c ++ [V.int (i:Nat)]))):=mh.upd.upd;have ic:upd (upd fz jW (.lst [V.int (i:Nat)])) df (.lst (bq c ++ [V.int (i:Nat)])) df=some (.lst (bq (c ++ [i]))):=by rw [aS];unfold bq;rw [dA];rfl
    have D0:fz df=none:=by
     cases e:fz df with
     | none=>rfl
     | some u=>rw [a' (o:=.lst [V.int (i:Nat)]) q6 _ _ e] at fm;cases fm
    generalize upd (upd fz jW (.lst [V.int (i:Nat)])) df (.lst (bq c ++ [V.int (i:Nat)]))=fe at gs hg ic ⊢;have hP:=k8.same gs;have Lz:df ≠ c6:=fun z=>by rw [z,k8.at_] at D0;cases D0
    have agc:df ≠ gA:=fun z=>by rw [z,D_.at_] at D0;cases D0
    obtain ⟨jz,ait⟩:=hP.put (xs:=c ++ [i]) (b:=df) ic Kp Lz;refine ⟨_,hP.at_,gI (show _ <= 10000000 by rw [aR,k8.ln];exact aF) (by decide),fun x u e=>?_,hg.upd,by rw [aZ Fe];exact gs _ _ e1,_,by rw [qB,dA,<- l8];exact jz,ait,?_,fun kF=>(dZ.mp kF).elim MZ (fun z=>agc (eu.mp z).symm),_,rfl⟩
    .rw [aZ (Db e mI)];exact gs _ _ (dO _ _ e)
    .have za:=D_.same gs;exact ⟨by rw [aZ (dF A5)];exact za.at_,za.ln,fun j cb xs ab ai=>by
      rw [aZ (fun z=>wI (by rw [<- z];exact bM ab))];exact za.al j cb xs ab ai⟩
   .rintro σ fz a7;ac_rfl
    obtain ⟨dO,mh,e1,P4,b4,k8,Kp,D_,MZ,rfl⟩:=a7;subst aY;show ∃ dm,_;have aes:hy S (f3 ++ (cY S.m).map fun x=>c ++ [x]) < hy S hr:=by rw [akY,QU,sT];omega
    refine ⟨_,aes,dO,mh,P4,_,rfl,k8,Kp,oy,lN,D_,KV,MZ,wI,⟨fun c' jZ=>?_,fY.snd,fun ys aU=>?_,by omega⟩,_,_,_,rfl⟩
    .rcases dZ.mp jZ with z | z
     .exact FW c' z
     .obtain ⟨x,af,rfl⟩:=b2.mp z;refine ⟨⟨w8,cs,ce ++ [x],by rw [CZ];rfl⟩,fun y aU=>?_,by rw [cC];show c.length + 1 <= 60;omega⟩;rcases dZ.mp aU with eH | eH
      .exact cQ y eH
      .rw [eu.mp eH];exact j2.mp af
    .by_cases wM:∃ l,ys=c ++ l
     .obtain ⟨l,e⟩:=wM;obtain ⟨_,g2,g3⟩:=KG k aU;cases l with
      | nil=>
       rw [e,p5,nu] at g2;injection g2 with g2;exact absurd g2 ug
      | cons y l=>
       refine .inr ⟨c ++ [y],iV _ (b2.mpr ⟨y,j2.mpr (g3 y (by rw [e];simp)),rfl⟩),l,by rw [e];simp⟩
     .rcases JI ys aU (fun l e=>wM ⟨l,e⟩) with z | ⟨c',jZ,l,e⟩
      .exact .inl z
      .exact .inr ⟨c',nE _ jZ,l,e⟩
noncomputable def ko (aI:List fU) (j:Nat):List Nat:=((aI[j]?).map (·.bZ)).getD []
theorem tu {x:fU} (h:aI[j]? = some x):ko aI j=x.bZ:=by unfold ko;rw [h];rfl
theorem IF {H:au} {bk:Addr} {qs ms:List Addr} {aI:List fU} (h:n4 H bk qs ms aI) {j:Nat} {x:fU} (af:aI[j]? = some x):∃ q m,qs[j]? = some q/\H q=some (.tup [.int x.lo,.int x.ag,.ref m])/\H m=some (.lst (x.bZ.map fun k:Nat=>V.int k)):=by
 have aD:=(bY.mp af).1;have ab:=a_ (show j < qs.length by rw [h.b_];exact aD);have ai:=a_ (show j < ms.length by rw [h.cM];exact aD);obtain ⟨ao,aC⟩:=h.al j _ _ x ab ai af;exact ⟨_,_,ab,ao,aC⟩
noncomputable def x_ (ds:List bx) (i:Nat):Bool:=decide ((ds[i]?).map (·.k)=some 2)
noncomputable def kQ (ds:List bx) (aI:List fU) (j:Nat):Bool:=x_ ds ((ko aI j).headD 0)
theorem dt.six {n:Int} {ds:List bx} {aI:List fU} (h:dt n ds aI) {j:Nat} (aN:j < aI.length):aI[j].bZ ≠ []/\aI[j].bZ.length <= 8:=by
 obtain ⟨_,_,a,b,_⟩:=h.jT.bd _ (jb aN);exact ⟨a,b⟩
section
variable {n:Int} {ds:List bx} {aI:List fU}
theorem dt.tell (X:dt n ds aI) {d:bx} (hd:d ∈ ds):My.told (dc ds aI) d.name=true:=by
 have h:g5 ds (dc ds aI)=[]:=X'.mp X.none.1;unfold g5 at h;have:=Us.mp h d.name (b2.mpr ⟨d,hd,rfl⟩);simpa using this
theorem PF {j k:Nat} (h:k ∈ ko aI j):∃ x,aI[j]? = some x/\k ∈ x.bZ:=by
 unfold ko at h;cases e:aI[j]? with
 | none=>rw [e] at h;simp at h
 | some x=>rw [e] at h;exact ⟨x,rfl,h⟩
theorem dt.uniq (X:dt n ds aI) {j i k:Nat} (ab:k ∈ ko aI j) (ai:k ∈ ko aI i):j=i:=by
 have half:∀ {a b:Nat},a < b->k ∈ ko aI a->k ∈ ko aI b->False:=fun {a b} nZ aK ae=>by
  obtain ⟨x,af,L_⟩:=PF aK;obtain ⟨y,aU,aa'⟩:=PF ae;have hf:=X.told aU (x:=hj ds k) (b2.mpr ⟨k,aa',rfl⟩);have i8:x ∈ aI.take b:=bM (by rw [xk nZ];exact af);have:My.told (dc ds (aI.take b)) (hj ds k)=true:=by
   unfold My.told;refine se.mpr ⟨oi ds x,b2.mpr ⟨x,i8,rfl⟩,?_⟩;have hm:hj ds k ∈ ci ds x:=b2.mpr ⟨k,L_,rfl⟩;simpa [oi] using hm
  rw [hf] at this;cases this
 rcases abV j i with h | h | h
 .exact (half h ab ai).elim
 .exact h
 .exact (half h ai ab).elim
theorem dt.Zo (X:dt n ds aI) {j k:Nat} {d:bx} (hd:ds[k]? = some d):uL (dc ds aI) d.name=some j↔k ∈ ko aI j:=by
 obtain ⟨je,r,_,aE,sU,hm⟩:=Bl (X.tell (bM hd));unfold dc at sU;rw [cV] at sU;obtain ⟨x,af,rfl⟩:=B2.mp sU;have hm:d.name ∈ ci ds x:=hm;have L_:k ∈ x.bZ:=(Hv X.aB (fun i ag=>X.lt (bM af) ag) hd).mp hm;have kD:k ∈ ko aI je:=by rw [tu af];exact L_
 rw [aE];constructor
 .intro e;cases e;exact kD
 .intro h;rw [X.uniq h kD]
theorem dt.sort (X:dt n ds aI) {j:Nat} (aN:j < aI.length):jd ds (dc ds aI) j=if kQ ds aI j=true then lO else qp:=by
 have af:=a_ aN;obtain ⟨hz,r,e⟩:=rl (X.six aN).1;have Dc:hz ∈ aI[j].bZ:=by rw [e];exact .head _
 have kB:=a_ (X.lt (jb aN) Dc);unfold jd dc;rw [cV,af];show kM ds (oi ds aI[j])=_;unfold kM oi ci;rw [e,eB,ju kB];show (((i7 ds _).map iq).getD _)=_;rw [iy X.aB kB];show iq _=_;unfold iq kQ x_;rw [tu af,e];show _=if decide ((ds[hz]?).map (·.k)=some 2)=true then lO else qp;rw [kB,D'];by_cases h:(ds[hz]'(X.lt (jb aN) Dc)).k=2
 .rw [if_pos h,if_pos (decide_eq_true (congrArg some h))]
 .rw [if_neg h,if_neg (fun z=>h (eL (of_decide_eq_true z)))]
end
theorem aj7 {ds:List bx} {aI:List fU} {j:Nat} {x:fU} (h:aI[j]? = some x):(dc ds aI)[j]? = some (oi ds x):=by unfold dc;rw [cV,h];rfl
theorem acU (h:ds[i]? = some d) (aE:d.k < 3):decide (V.str (dx d.k)=V.str (ah "tram"))=x_ ds i:=by
 have ab:dx 0 ≠ ah "tram" := by ac_nf
 have ai:dx 1 ≠ ah "tram" := by ac_nf
 have a5:dx 2=ah "tram" := by ac_nf
 unfold x_;rw [h]
 match e:d.k,aE with
 | 0,_=>simp [e,ab]
 | 1,_=>simp [e,ai]
 | 2,_=>simp [e,a5]
theorem dt.aaB {n:Int} {ds:List bx} {aI:List fU} (h:dt n ds aI) {k:Nat} (aE:k < ds.length):∃ j,j < aI.length/\k ∈ ko aI j:=by
 have hm:k ∈ (aI.map (·.bZ)).flatten:=h.lA.eY.pm.mem_iff.mpr (j2.mpr aE);obtain ⟨l,aD,j8⟩:=JJ.mp hm;obtain ⟨x,af,rfl⟩:=b2.mp aD;obtain ⟨j,aN,e⟩:=Rz af;exact ⟨j,aN,by rw [tu (a_ aN),e];exact j8⟩
theorem abG (h:∀ d ∈ ds,lK n d) (aU:¬ ((1 <= y.length/\y.length <= 8)/\∀ c ∈ y.cps.toList,97 <= c/\c <= 122)):vf ds y:=fun d hd e=>aU (by rw [<- e];exact p0 (h d hd).nm)
theorem acm (h:∀ d ∈ ds,lK n d) (aD:y.length <= 40) (ar:c ∈ y.cps.toList) (aV:c < 97) (aw:∀ c ∈ y.cps.toList,c <= 1000):uU y/\vf ds y:=
 ⟨⟨by omega,fun c ar=>by have:=aw c ar;omega⟩,abG h fun z=>by have:=z.2 c ar;omega⟩
theorem QB (h:∀ d ∈ ds,lK n d) {x:Str} (af:made x mq 8=true):uU (mK x)/\vf ds (mK x):=by
 obtain ⟨⟨ab,ai⟩,a5⟩:=p0 af;have e:(mK x).cps.toList=x.cps.toList.map fun c=>c - 32:=by unfold mK;simp
 have ak8:(mK x).length=x.length:=by
  show (mK x).cps.size=x.cps.size;rw [<- zg,e,aR,zg]
 obtain ⟨c,r,ar⟩:∃ c r,x.cps.toList=c :: r:=by
  cases bU:x.cps.toList with
  | nil=>
   have:x.cps.size=0:=by rw [<- zg,bU];rfl
   have ab:1 <= x.cps.size:=ab;omega
  | cons c r=>exact ⟨c,r,rfl⟩
 have tc:=a5 c (by rw [ar];exact .head _);refine acm h (c:=c - 32) (by rw [ak8];omega) (by rw [e,ar];exact .head _) (by omega) fun z aF=>?_
 rw [e] at aF;obtain ⟨gn,hR,rfl⟩:=b2.mp aF;have:=a5 gn hR;omega
open Classical in
noncomputable def GW (l:List Int):Int:=if h:∃ v,kc l v then h.choose else 0
theorem GM (h:l ≠ []):kc l (GW l):=by
 obtain ⟨m,ab,ai⟩:=xY l h;have e:∃ v,kc l v:=⟨m,ab,ai⟩;unfold GW;rw [dif_pos e];exact e.choose_spec
noncomputable def m3 (n:Int) (ds:List bx) (aI:List fU) (i j:Nat):Int:=GW (ke n ds (ko aI i) (ko aI j))
theorem Yu (h:lK n d):jK d <= 1000:=by
 have:=h.of;unfold jK;split <;> omega
theorem afn (d:bx):jH d <= 1000:=by
 unfold jH;split <;> omega
set_option tactic.hygienic true in
theorem ami (h:∀ d ∈ ds,lK n d) {x:Int} (af:x ∈ ke n ds a b):x <= 1000:=by
 have e':∀ i,nc ds i <= 1000:=fun i=>by
  unfold nc;cases e:ds[i]? with
  | none=>simp
  | some d=>exact Yu (h d (bM e))
 have ue:∀ i,u4 ds i <= 1000:=fun i=>by
  unfold u4;cases e:ds[i]? with
  | none=>simp
  | some d=>exact afn d
 have ahb:∀ i k,tv ds i k <= 1000:=fun i k=>by
  unfold tv;split
  .rename_i d e ab ai;have:=(h d (bM ab)).of;have:=(h e (bM ai)).uu;omega
  .decide
 unfold ke at af;rcases dZ.mp af with z | z
 .rcases d9.mp z with z | z
  .rw [z];decide
  .obtain ⟨i,_,rfl⟩:=b2.mp z;exact e' i
 .obtain ⟨i,_,z⟩:=y8.mp z;unfold jY at z;rcases d9.mp z with z | z
  .rw [z];exact ue i
  .obtain ⟨k,_,rfl⟩:=b2.mp z;exact ahb i k
section
variable {n:Int} {ds:List bx} {aI:List fU}
theorem ad8 (a b:List Nat):ke n ds a b ≠ []:=by unfold ke;simp
theorem JQ (ab:aI[i]? = some r) (ai:aI[j]? = some s):kc (ke n ds r.bZ s.bZ) (m3 n ds aI i j):=by
 unfold m3;rw [tu ab,tu ai];exact GM (ad8 _ _)
theorem y0:(dc ds aI).length=aI.length:=by unfold dc;rw [aR]
theorem Vk {j:Nat} {r:ST} (h:(dc ds aI)[j]? = some r):∃ x,aI[j]? = some x/\r=oi ds x:=by
 unfold dc at h;rw [cV] at h;obtain ⟨x,af,rfl⟩:=B2.mp h;exact ⟨x,af,rfl⟩
theorem dt.QX (X:dt n ds aI):tw n ds (dc ds aI) (m3 n ds aI):=by
 refine ⟨fun i j r s ag aN _=>?_,fun i j ag aN _=>?_⟩
 .obtain ⟨x,af,rfl⟩:=Vk ag;obtain ⟨y,aU,rfl⟩:=Vk aN;have ei:∀ {z:fU} {k:Nat},aI[k]? = some z->∀ i ∈ z.bZ,i < ds.length:=fun aF i ag=>X.lt (bM aF) ag
  have ar:ki n ds (ci ds x) (ci ds y) ≠ []:=by unfold ki;simp
  have hm:=GM ar;rw [<- ae' X.aB (ei af) (ei aU) hm (JQ af aU)];exact hm
 .rw [y0] at ag aN;have h:=JQ (n:=n) (ds:=ds) (a_ ag) (a_ aN);exact ⟨h.2 0 (by unfold ke;simp),ami X.ok h.1⟩
theorem dt.acN (X:dt n ds aI):kE ds (dc ds aI):=by
 refine ⟨fun r aj=>?_,by rw [y0];exact X.len,fun r aj=>?_,fun r aj=>?_⟩
 .obtain ⟨j,aN⟩:=hD aj;have jy:j < aI.length:=by rw [<- y0 (ds:=ds)];exact (bY.mp aN).1
  have:=X.sort jy;unfold jd at this;rw [aN] at this;have this:kM ds r=if kQ ds aI j=true then lO else qp:=this;rw [this];split
  .exact .inl rfl
  .exact .inr rfl
 .obtain ⟨x,af,rfl⟩:=b2.mp aj;have:=X.lA.bd x af;exact ⟨this.1,this.2.2.1,by show x.ag <= 1000;omega⟩
 .obtain ⟨x,af,rfl⟩:=b2.mp aj;show ci ds x ≠ [];unfold ci;exact fun z=>(X.jT.bd x af).2.2.1 (VA.mp z)
theorem dt.aha (X:dt n ds aI) (h:Nat):rq (gh ds (dc ds aI) h)=(cY aI.length).map fun j=>V.bw (kQ ds aI j):=by
 unfold rq gh;show (cY (dc ds aI).length).map _=_;rw [y0];refine Wa fun j aN=>?_
 have ne:¬ qp=lO:=by ac_nf
 show V.bw (decide (jd ds (dc ds aI) j=lO))=_;rw [X.sort (j2.mp aN)];cases kQ ds aI j <;> simp [ne]
theorem dt.aa0 (X:dt n ds aI) {k h:Nat} (hd:ds[k]? = some d) (aE:k ∈ ko aI h):dn (gH ((dc ds aI).map (·.mem))) (cx d.name)=some (.int (h:Nat)):=by
 obtain ⟨je,r,aG,ha,_⟩:=Bl (X.tell (bM hd));rw [(X.Zo hd).mpr aE] at ha;rw [aG,eL ha]
theorem wP (X:dt n ds aI) {h i:Nat} {x:fU} (bU:h < aI.length) (af:aI[i]? = some x):ee ds (dc ds aI) h i=if kQ ds aI h=true then x.lo else x.ag:=by
 have ne:¬ qp=lO:=by ac_nf
 unfold ee;rw [aj7 af];show (if jd ds (dc ds aI) h=lO then x.lo else x.ag)=_;rw [X.sort bU];cases kQ ds aI h <;> simp [ne]
end
theorem aex:cu P base T 2 t.C' t.z6 CN (U' K):=by
 refine bV.forget (sp:=XU K) ?_ fun vs H Q E h=>?_
 .have alK:bV P w K mg base c9 1 t.zW t.A7 oJ TG:=abt T;have ahE:bV P w K mg base c9 1 t.BW t.CD oJ T9:=ahO T;have KQ:bV P w K mg base c9 1 t.Ar t.Eh Dx (Tr K):=Qw T;exists T.Hx.ok lf,9
  obtain ⟨n,wl,ds,bk,qs,ms,aI,i,j,r,s,rfl,⟨j9,b_,cM,yD⟩,i6,X,iS,rn,bC,q⟩:=h;have b7:=ml aj;have apm:=Zp aj;have iA:=X.j5;have qJ:∀ (i:Nat) (d:bx),ds[i]? = some d->∃ jP,eE (j9.map V.ref) (i:Int)=some (.ref jP)/\H jP=some (.tup (hQ d)):=fun i d hd=>by
   have fM:j9[i]? = some (j9[i]'(by rw [cM];exact (bY.mp hd).1)):=a_ _;exact ⟨_,bA (by rw [cV,fM];rfl),yD i _ d fM hd⟩
  have R_:∀ (i:Nat) (s:fU),aI[i]? = some s->∃ n2 m,eE (qs.map V.ref) (i:Int)=some (.ref n2)/\H n2=some (.tup [.int s.lo,.int s.ag,.ref m])/\H m=some (.lst (s.bZ.map fun k:Nat=>V.int k)):=fun i s aw=>by
   have iB:=(bY.mp aw).1;have fM:qs[i]? = some (qs[i]'(by rw [i6.b_];exact iB)):=a_ _;have pD:ms[i]? = some (ms[i]'(by rw [i6.cM];exact iB)):=a_ _;obtain ⟨ao,aC⟩:=i6.al i _ _ _ fM pD aw;exact ⟨_,_,bA (by rw [cV,fM];rfl),ao,aC⟩
  obtain ⟨apX,amq,Nj,m7,Vl⟩:=R_ i r iS;obtain ⟨n2,n0,as,aT,HD⟩:=R_ j s rn;have ah6:∀ i ∈ r.bZ,i < ds.length:=fun i ag=>X.lt (bM iS) ag
  have agb:∀ i ∈ s.bZ,i < ds.length:=fun i ag=>X.lt (bM rn) ag
  have Y_:=(X.jT.bd r (bM iS)).2.2.2.1;have an8:=(X.jT.bd s (bM rn)).2.2.2.1;have gW:(j9.map V.ref).length=ds.length:=by rw [aR,cM]
  refine ⟨_,(aQ (bX (i:=5) lf.aB (d4 (db aJ av)))
   (aQ (eU eJ rfl (eZ (bl eD (bl b0 (U 2) (U 3)) aJ)) (b5 (i:=6) lf.aB) (a3 (dN (ef e2 h2 iC hY (U 5) (db (bS ahE aj T.Xq T.JP.bj T.YA (db (bl b0 (U 1) (U 6)) av)) av)))))
   (aQ (eU eJ rfl (eZ (bl eD (bl b0 (U 2) (U 4)) aJ)) (b5 (i:=6) lf.aB) (aQ (dN (ef e2 h2 iC hY (U 5) (db (bS alK aj T.XO T.H6.bj T.ans (db (bl b0 (U 1) (U 6)) av)) av)))
   (a3 (eU eJ rfl (iw rfl T.hA (db (ep fV rfl T.fG fJ (db (U 1) av)) av)) (b5 (i:=7) lf.aB) (a3 (dW (fW.pt (oo (c5 z4 (U 7) (bl eD (bl b0 (U 2) (U 4)) aJ) (by with_unfolding_all rfl)) (oY (o1 (bS KQ aj T.RB T.AY.bj T.Wc (db (bl b0 (U 1) (U 7)) (db (bl b0 (U 1) (U 6)) (db (U 0) av)))))))) (a3 (dN (ef e2 h2 iC hY (U 5) (db (bG Uf (bl eD (bl b0 (U 1) (U 7)) aJ) (bl eD (bl b0 (U 1) (U 6)) aJ)) av)))) ec))))))
   (a3 (cc (ep (Ge rfl) rfl T.t2 yZ (db (U 5) av))))))),?_⟩
  exists (fun ay I=>aH H I/\aL I/\∃ bo,H bo=none/\I bo=some (.lst ([(0:Int)].map V.int))/\ay=[some (.int n),~~~wl,~~~bk,some (.int i),some (.int j),~~~bo,none,none]),3
  .nofun;exact ⟨by decide,fun bo j6=>bD _ _ ⟨a' j6,bC.upd,bo,j6,aS,rfl⟩⟩
  rintro gu H1 ⟨s1,ck,bo,j6,dI,rfl⟩;subst aY;exists (fun ay I=>aH H I/\aL I/\I bo=some (.lst ((0 :: r.bZ.map (nc ds)).map V.int))/\∃ b4,ay=[some (.int n),~~~wl,~~~bk,some (.int i),some (.int j),~~~bo,b4,none]),3
  .nofun;refine ⟨_,ak.of (s1 _ _ i6.at_),_,Nj,_,rfl,_,cS.of (s1 _ _ m7),_,bA (j:=2) rfl,amq,rfl,⟨_,ak.of (s1 _ _ Vl)⟩,?_⟩;refine dP.list (xs:=r.bZ.map fun k:Nat=>V.int k) (fun a σ I=>aH H I/\aL I/\I bo=some (.lst ((0 :: (r.bZ.take a).map (nc ds)).map V.int))/\∃ b4,σ=[some (.int n),~~~wl,~~~bk,some (.int i),some (.int j),~~~bo,b4,none]) ⟨s1,ck,dI,_,rfl⟩ (fun a σ I aK ⟨s2,_⟩=>ak.of (s2 _ _ Vl)) ?_ ?_
   .rintro a x σ I af a7;ac_rfl
    obtain ⟨s2,cv,dB,b4,rfl⟩:=a7;obtain ⟨k,aE,rfl⟩:=cm af;obtain ⟨d,hd⟩:∃ d,ds[k]? = some d:=⟨_,a_ (ah6 k (bM aE))⟩;obtain ⟨jP,su,eq⟩:=qJ k d hd;have fN:=X.ok d (bM hd);have Zs:((0 :: (r.bZ.take a).map (nc ds)).map V.int).length <= 9:=by
     rw [aR,fQ,aR,gZ];omega
    subst aY;nofun;refine ⟨.inl ⟨_,ak.of dB⟩,_,ak.of (s2 _ _ b_),_,su,jP,d,rfl,s2 _ _ eq,fN.k,cv,_,dB,gI Zs (by decide),s2.gk j6,cv.upd,?_,_,rfl⟩;rw [aS,mC aE,dA,dA,<- H8 hd];rfl
   .rintro σ I a7;ac_rfl
    obtain ⟨s2,cv,dB,b4,rfl⟩:=a7;subst aY;rw [aR,iF] at dB;exact bD _ _ ⟨s2,cv,dB,_,rfl⟩
  rintro cH az ⟨s2,cv,dB,b4,rfl⟩;subst aY;exists (fun ay I=>aH H I/\aL I/\I bo=some (.lst ((ke n ds r.bZ s.bZ).map V.int))/\∃ b4 cA,ay=[some (.int n),~~~wl,~~~bk,some (.int i),some (.int j),~~~bo,b4,cA]),3
  .nofun;refine ⟨_,ak.of (s2 _ _ i6.at_),_,as,_,rfl,_,cS.of (s2 _ _ aT),_,bA (j:=2) rfl,n0,rfl,⟨_,ak.of (s2 _ _ HD)⟩,?_⟩;refine dP.list (xs:=s.bZ.map fun k:Nat=>V.int k) (fun a σ I=>aH H I/\aL I/\I bo=some (.lst (((0 :: r.bZ.map (nc ds)) ++ (s.bZ.take a).flatMap fun i=>jY n ds s.bZ i ds.length).map V.int))/\∃ b4 cA,σ=[some (.int n),~~~wl,~~~bk,some (.int i),some (.int j),~~~bo,b4,cA]) ⟨s2,cv,by rw [dB];simp,_,_,rfl⟩ (fun a σ I aK ⟨s2,_⟩=>ak.of (s2 _ _ HD)) ?_ ?_
   .rintro a x σ I af a7;ac_rfl
    obtain ⟨s3,c0,gD,b4,cA,rfl⟩:=a7;obtain ⟨k,aE,rfl⟩:=cm af;obtain ⟨d,hd⟩:∃ d,ds[k]? = some d:=⟨_,a_ (agb k (bM aE))⟩;obtain ⟨jP,su,eq⟩:=qJ k d hd;have fN:=X.ok d (bM hd);have l2:a < s.bZ.length:=(bY.mp aE).1;have hlen:((0 :: r.bZ.map (nc ds)) ++ (s.bZ.take a).flatMap fun i=>jY n ds s.bZ i ds.length).length <= 9 + 7 * 7:=by
     rw [cC,fQ,aR];have ab:=Wj n ds s.bZ ds.length (s.bZ.take a);rw [gZ] at ab;have ai:(min a s.bZ.length) * (ds.length + 1) <= 7 * 7:=ald (by omega) (by omega);omega
    subst aY;generalize akJ:((0 :: r.bZ.map (nc ds)) ++ (s.bZ.take a).flatMap fun i=>jY n ds s.bZ i ds.length)=mL at gD hlen;simp only [e_,dj,gU,gM];exists (fun ay I=>aH H I/\aL I/\I bo=some (.lst ((mL ++ [u4 ds k]).map V.int))/\ay=[some (.int n),~~~wl,~~~bk,some (.int i),some (.int j),~~~bo,some (.int (k:Int)),cA]),2
    .nofun;refine ⟨.inl ⟨_,ak.of gD⟩,_,ak.of (s3 _ _ b_),_,su,jP,d,rfl,s3 _ _ eq,fN.k,c0,_,gD,gI (show (mL.map V.int).length <= 58 by rw [aR];exact hlen) (by decide),kb _ _ ⟨s3.gk j6,c0.upd,?_,rfl⟩⟩;rw [aS,dA,Gd hd];rfl
    rintro mw cD ⟨s4,de,g0,rfl⟩;subst aY;nofun;refine ⟨_,.inl (ak.of (s4 _ _ b_)),by omega,by rw [gW];omega,?_⟩;rw [show (((j9.map V.ref).length:Nat):Int).toNat=ds.length by rw [gW];rfl];refine dP.range (fun b σ I=>aH H I/\aL I/\I bo=some (.lst ((mL ++ jY n ds s.bZ k b).map V.int))/\∃ cA,σ=[some (.int n),~~~wl,~~~bk,some (.int i),some (.int j),~~~bo,some (.int (k:Int)),cA]) ⟨s4,de,g0,_,rfl⟩ ?_ ?_
    .rintro b σ c3 ae a7;ac_rfl
     obtain ⟨s5,dT,xR,Yq,rfl⟩:=a7;have gF:ds[b]? = some ds[b]:=a_ ae;subst aY;generalize ds[b]=e at gF;obtain ⟨anC,mj,eA⟩:=qJ b e gF;have agF:=X.ok e (bM gF);have amL:((mL ++ jY n ds s.bZ k b).map V.int).length <= 70:=by
      rw [aR,cC];have:=OL n ds s.bZ k b;omega
     simp only [e_,gU,gM,lP];refine cP (qW n ds s.bZ k b) (fun Q aX=>?_) (fun z=>?_) (fun z=>?_)
     .nofun;refine ⟨_,ak.of (s5 _ _ i6.at_),_,as,_,rfl,_,cS.of (s5 _ _ aT),_,bA (j:=2) rfl,_,rfl,_,.inl (ak.of (s5 _ _ HD)),rfl,by simp [kz],?_⟩;have qx:=aX;unfold qW at qx;rw [Mg gF hd] at qx;rw [TF];by_cases hm:b ∈ s.bZ
      .rw [decide_eq_true hm] at qx ⊢;rw [if_neg (by decide)];exact qx
      .rw [decide_eq_false hm] at qx ⊢;rw [if_pos (by decide)];exact ⟨_,ak.of (s5 _ _ b_),_,mj,_,ak.of (s5 _ _ b_),_,su,n,anC,jP,e,d,rfl,cS.of (s5 _ _ eA),cS.of (s5 _ _ eq),agF,fN,mt n e d,rfl,qx⟩
     .nofun;refine ⟨.inl ⟨_,ak.of xR⟩,_,ak.of (s5 _ _ b_),_,mj,_,rfl,_,cS.of (s5 _ _ eA),_,Vr e,_,ak.of (s5 _ _ b_),_,su,_,rfl,_,cS.of (s5 _ _ eq),_,ajB d,_,rfl,_,rfl,_,xR,gI amL (by decide),s5.gk j6,dT.upd,?_,_,rfl⟩;rw [aS,ac_ z,<- l8,dA (l₁:=mL ++ jY n ds s.bZ k b),Jg gF hd];rfl
     .simp only [f'];exact ⟨s5,dT,by rw [xR,abN z],_,rfl⟩
    .rintro σ c3 a7;ac_rfl
     obtain ⟨s5,dT,xR,Yq,rfl⟩:=a7;subst aY;refine ⟨s5,dT,?_,_,_,rfl⟩;rw [xR,<- akJ,mC aE];simp [vk]
   .rintro σ I a7;ac_rfl
    obtain ⟨s2,cv,dB,b4,cA,rfl⟩:=a7;subst aY;rw [aR,iF] at dB;exact bD _ _ ⟨s2,cv,dB,_,_,rfl⟩
  rintro gE bI ⟨s3,c0,gD,b4,cA,rfl⟩;subst aY;nofun;obtain ⟨m4,ab,ai⟩:=xY (ke n ds r.bZ s.bZ) (by unfold ke;simp);exact ⟨_,ak.of gD,m4,ab,ai,q m4 bI s3 ⟨ab,ai⟩⟩
 .obtain ⟨n,wl,ds,bk,qs,ms,aI,i,j,r,s,rfl,L,i6,X,iS,rn,bC,q⟩:=h;exact ⟨bC,n,wl,ds,bk,qs,ms,aI,i,j,r,s,rfl,L,i6,X,iS,rn,bC,fun v I bu aG=>⟨bu,q v aG⟩⟩
section
open PySem.Spec PyProof.Rows
variable {X:a0}
noncomputable def aeN (K:bc):V->List V->au->cJ->Prop:=fun x vs H Q=>∃ (l:Addr) (bs:List Bool) (b:Bool) (j:Nat),x=.ref l/\vs=[.bw b]/\ak K H l (bs.map V.bw)/\bs[j]? = some b/\(∀ m,m < j->bs[m]? ≠ some b)/\bs.length <= 1000/\Q (.int (j:Nat)) H
theorem ake:sd X "list.index" (aeN X.K):=by
 intro aa s σ H x xs v us Q J a8 cw h;obtain ⟨l,bs,b,j,rfl,rfl,aM,aE,Jd,aD,q⟩:=h;cases (show v=dU l from a8);obtain ⟨u,rfl,ej⟩:=lR cw;cases (show u=hX b from ej);obtain ⟨a4,ue,pl,aF⟩:=J.list aM;have ag:=Tp ue;subst ag;have aN:j < bs.length:=(bY.mp aE).1;obtain ⟨⟨cls,eR,data,bk⟩,aW,ar,n,hd⟩:=id pl.isList;simp only at ar hd;subst ar hd;refine call_meets Et ⟨_,aW,rfl⟩ aad (adL _ _)
  (agD l (bs.map hX).toArray n eR bk (.bool b) (isBoolOf b) j (by simpa using aN) (by omega) ?_ ?_) ⟨aW,fun y aU=>?_,.int _,H,J.tok _,⟨_,rfl⟩,q⟩
 .have e:(bs.map hX).toArray[j]'(by simpa using aN)=hX b:=by
   rw [abq,vF,(bY.mp aE).2]
  rw [e];show (b == b)=true;simp
 .intro m hm cQ;have n8:m < bs.length:=by simpa using hm
  have e:(bs.map hX).toArray[m]'hm=hX bs[m]:=by rw [abq,vF]
  rw [e];have:=Jd m cQ;rw [a_ n8] at this;show (bs[m] == b)=false;simpa using this
 .obtain ⟨c,_,rfl⟩:=b2.mp (show y ∈ bs.map hX by simpa using aU);exact Ym c b
end
def PW (K:bc) (Pt:Addr):bO:=fun vs H Q _=>∃ a ns,vs=[.ref a]/\Sc K a ns H/\ns.length <= 63/\Jn Pt H/\∀ I,Q (.bw true) I
theorem XI (h0:0 <= i) (ab:i < 8):∃ y:Int,(1 <= y/\y <= 6)/\eE [V.int 4,V.int 4,V.int 4,V.int 4,V.int 4,V.int 4,V.int 4,V.int 6] i=some (.int y):=by
 obtain ⟨k,rfl⟩:=Int.eq_ofNat_of_zero_le h0;have h:k < 7\/k=7:=by omega
 rcases h with h | rfl
 .exact ⟨4,by decide,bA (by match k,h with | 0,_ | 1,_ | 2,_ | 3,_ | 4,_ | 5,_ | 6,_=>rfl)⟩
 .exact ⟨6,by decide,rfl⟩
structure Hb (cf:Nat->Nat->Int) (st:Nat->Int) (bp:List (List Nat)) (b:Int):Prop where
 nn:0 <= b
 is:b=0\/∃ ys ∈ bp,b=lF cf st ys
 up:∀ ys ∈ bp,lF cf st ys <= b
theorem T5 {rows:List ST} (R:kE ds rows) {h x:Nat} (af:x < rows.length):0 <= ee ds rows h x/\ee ds rows h x <= 1000:=by
 have:=R.lo _ (jb af);unfold ee;rw [a_ af];simp only [];split <;> omega
theorem iz.vb {H I:au} {wl:Addr} {ds:List bx} (h:iz H wl ds) (s:ix H I):iz I wl ds:=by
 obtain ⟨qs,ao,aC,bJ⟩:=h;exact ⟨qs,s.lst ao,aC,fun i q d a b=>s.tup (bJ i q d a b)⟩
theorem U4 {m:Nat} (h:∀ i j,i < m->j < m->i ≠ j->0 <= cf i j):∀ {ch:List Nat},(∀ x ∈ ch,x < m)->(∀ (i a b:Nat),ch[i]? = some a->ch[i + 1]? = some b->a ≠ b)->0 <= (l7 cf ch).sum
 | [],_,_=>ma _
 | [x],_,_=>ma _
 | x :: y :: r,ab,ai=>by
  have a1:=U4 h (ch:=y :: r) (fun z aF=>ab z (gS _ aF)) (fun i a b aK ae=>ai (i + 1) a b aK ae);have a2:=h x y (ab x (by simp)) (ab y (by simp)) (ai 0 x y rfl rfl);show 0 <= (cf x y :: l7 cf (y :: r)).sum;rw [nr];omega
theorem agJ {l:List Int} (h:∀ x ∈ l,0 <= x):0 <= l.sum:=by
 induction l with
 | nil=>exact ma _
 | cons x l c2=>
  rw [nr];have a1:=h x (by simp);have a2:=c2 fun y aU=>h y (by simp [aU])
  omega
theorem ac5 {n:Int} {ds:List bx} {rows:List ST} {cf:Nat->Nat->Int} {g m:Nat} (R:kE ds rows) (iT:tw n ds rows cf) (bg:g < rows.length) (hm:rows.length=m) {b z:Int} (ae:(m=1/\b=0)\/(m ≠ 1/\∃ bp,rj (gh ds rows g) bp/\Hb cf (ee ds rows g) bp b)) (aF:RO (gh ds rows g) cf (ee ds rows g) z):z=b:=by
 have e:(gh ds rows g).m=m:=hm;have En:=R.ok bg;rcases aF with ⟨ab,ai⟩ | ⟨ab,bp,ch,lU,fq,i_,r5⟩
 .rcases ae with ⟨_,ae⟩ | ⟨ae,_⟩
  .omega
  .omega
 .rcases ae with ⟨ae,_⟩ | ⟨_,d7,aiy,B⟩
  .omega
  .have sub:∀ ys,ys ∈ bp↔ys ∈ d7:=fun ys=>(lU ys).trans (aiy ys).symm
   have l6:=B.up ch ((sub ch).mp fq);rcases B.is with h | ⟨ys,aU,h⟩
   .have co:=(Aw En lU fq).1;have ck:0 <= (l7 cf ch).sum:=U4 (m:=rows.length) (fun i j ag aN lS=>(iT.lo i j ag aN lS).1) co.lt co.ne;have cv:0 <= ((gX ch).map (ee ds rows g)).sum:=agJ fun v aG=>by
     obtain ⟨x,af,rfl⟩:=b2.mp aG;exact (T5 R (co.lt x (zY (td af)))).1
    have:lF cf (ee ds rows g) ch=(l7 cf ch).sum + ((gX ch).map (ee ds rows g)).sum:=rfl;omega
   .have:=r5 ys ((sub ys).mpr aU);omega
structure zd (H:au) (d2:Addr) (qs:List Addr) (m:Nat) (f:Nat->Nat->Int) (i:Nat):Prop where
 at_:H d2=some (.lst (qs.map V.ref))
 ln:qs.length=i
 al:∀ (k:Nat) (q:Addr),qs[k]? = some q->H q=some (.lst ((cY m).map fun j=>V.int (f k j)))
 bC:d2 ∉ qs
theorem zd.same {m:Nat} (h:zd H d2 qs m f i) (s:aH H I):zd I d2 qs m f i:=⟨s _ _ h.at_,h.ln,fun k q e=>s _ _ (h.al k q e),h.bC⟩
theorem XB {Pt:Addr} (cK:vw base t.yS Pt) (iv:base.BuiltinsAt mg Pt):cu P base T 21 t.Hz t.Ah ["_law_script"] (PW K Pt):=by
 exists T.agP.ok hZ,9
 obtain ⟨a,ns,rfl,yN,il,ajl,q⟩:=h;have b7:=ml aj;have fK:bV P w K mg base c9 20 t.Re t.xF zp (jJ K a ns):=(Fo T a ns il).mono (by decide);have ajr:bV P w K mg base c9 20 t.Ej t.dl Ct (Qj K a ns):=(ZN T a ns il).mono (by decide);have afW:bV P w K mg base c9 20 t.BA t.AJ BI (TD K):=(abi T).mono (by decide);have acB:bV P w K mg base c9 20 t.Ex t.Es ["text"] (Rn t):=(ak7 T).mono (by decide);have Yh:bV P w K mg base c9 20 t.Eo t.zV Bm (Wn K):=(ag4 T).mono (by decide);have acJ:bV P w K mg base c9 20 t.B7 t.CG AR Nl:=(agQ T).mono (by decide);have acv:bV P w K mg base c9 20 t.wG t.xV yv (Wf P w t):=(akN T).mono (by decide);have ale:bV P w K mg base c9 20 t.C' t.z6 CN (U' K):=(aex T).mono (by decide);have afq:bV P w K mg base c9 20 t.z1 t.A_ Cx Ws:=(aep T).mono (by decide);have aet:bV P w K mg base c9 20 t.vL t.te u0 (NF P w t Pt):=akQ T cK iv;have ajx:bV P w K mg base (l5 P w) 20 t.vL t.te u0 (Pd P w t):=(ae4 T).mono (by decide);refine ⟨_,(aQ (WB (bS ajr aj T.abf T.H2.bj T.ak1 (db (U 0) (db (bl b0 (d4 (db aJ (db aJ (db aJ (db aJ (db aJ (db aJ (db aJ (db aJ av))))))))) (bS fK aj T.gj T.fF.bj T.gr (db (U 0) (db aJ (db aJ av))))) av))) (kW (K:=K) (n:=2) rfl rfl (eG (yJ (i:=1) hZ.aB rfl (kx rfl) (.inl rfl)) (eG (yJ (i:=2) hZ.aB rfl (kx rfl) (.inl rfl)) kJ))))
   (aQ (om (i:=3) hZ.aB rfl (kx rfl) (bS Yh aj T.Y' T.IY.bj T.ai5 (db (U 0) (db (U 1) (db (U 2) av)))))
   (aQ (bX (i:=4) hZ.aB (bS acv aj T.Yg T.I2.bj T.Ix (db (bS acB aj T.ajq T.Mc.bj T.afL (db (bS afW aj T.Yt T.MR.bj T.amY (db (U 1) (db (U 2) av))) av)) (db (bS acJ aj T.agm T.E7.bj T.ZH (db (U 2) (db (U 3) av))) av))))
   (aQ (yr (i:=5) hZ.aB rfl (qw rfl) rfl (eZ (U 3)) (fy (sc:=bt uo) rfl (by ac_nf)) (N:=["_law_one","_law_ways_here"]) (sel:=[none,some 2]) (fs (M:=yE) (by ac_nf)) (eT.of (fun _ _ _ _=>(b5 (i:=0) (dX (N:=["_law_one","_law_ways_here"]) (by ac_nf) rfl))) (fun _ _ _ _=>⟨_,gV,by walk_at "B"⟩) (fun _ _ _ _=>⟨_,(hx eQ (bl eD (bl b0 (U 1) (bl b0 (bl eD (U 0) aJ) aJ)) aJ) dy (cF _)),by walk_at "B"⟩)) rfl)
   (aQ (om (i:=6) hZ.aB rfl (kx rfl) (bS fK aj T.gj T.fF.bj T.gr (db (U 0) (db aJ (db (ep fV rfl T.fG fJ (db (U 2) av)) av)))))
   (aQ (bX (i:=7) hZ.aB (ef e2 Et S3 ake (gy rfl (eZ (U 3)) (fy (sc:=bt uo) rfl (by ac_nf)) (N:=["_law_one","_law_at"]) (sel:=[none,some 6]) (fs (M:=yE) (by ac_nf)) (eT.of (fun _ _ _ _=>(b5 (i:=0) (dX (N:=["_law_one","_law_at"]) (by ac_nf) rfl))) (fun _ _ _ _=>⟨_,gV,by walk_at "B"⟩) (fun _ _ _ _=>⟨_,(hx tD (U 1) (bl eD (U 0) aJ) (by with_unfolding_all rfl)),by walk_at "B"⟩))) (db oZ av)))
   (aQ (om (i:=8) hZ.aB rfl (kx rfl) (bG Uf aJ (oN Ku rfl T.zG AV (db (bl b0 (U 5) (U 7)) av))))
   (aQ (bX (i:=9) hZ.aB aJ)
   (aQ (bX (i:=10) hZ.aB (ep fV rfl T.fG fJ (db (U 3) av)))
   (aQ (bX (i:=11) hZ.aB (d4 av))
   (aQ (eU eJ rfl (iw rfl T.hA (db (U 10) av)) (yJ (i:=12) hZ.aB rfl (kx rfl)) (a3 (dN (ef e2 h2 iC hY (U 11) (db (gy rfl (iw rfl T.hA (db (U 10) av)) (fy (sc:=bt uo) rfl (by ac_nf)) (N:=["_law_other","_law_places","_law_ways_here","_law_stages_here","_law_one"]) (sel:=[none,some 1,some 2,some 3,some 12]) (fs (M:=yE) (by ac_nf)) (eT.of (fun _ _ _ _=>(b5 (i:=0) (dX (N:=["_law_other","_law_places","_law_ways_here","_law_stages_here","_law_one"]) (by ac_nf) rfl))) (fun _ _ _ _=>⟨_,gV,by walk_at "B"⟩) (fun _ _ _ _=>⟨_,(bS ale aj T.aen T.Hx.bj T.agO (db (U 1) (db (U 2) (db (U 3) (db (U 4) (db (U 0) av)))))),by walk_at "B"⟩))) av)))))
   (aQ (dW (c5 pF (U 10) aJ (cF _)) (a3 (eU eJ rfl (eZ (bS afq aj T.ajf T.Kf.bj T.YI (db (U 5) (db (U 7) av)))) (b5 (i:=13) hZ.aB) (aQ (bX (i:=14) hZ.aB (ep (Ga rfl) rfl T.M3 HX (db (gy rfl (eZ (mf rQ (U 13) (k7 aJ) (k7 (pL pC aJ)))) (fy (sc:=bt uo) rfl (by ac_nf)) (N:=["_law_number","_law_stages_here","_law_side"]) (sel:=[none,some 3,some 8]) (fs (M:=yE) (by ac_nf)) (eT.of (fun _ _ _ _=>(b5 (i:=0) (dX (N:=["_law_number","_law_stages_here","_law_side"]) (by ac_nf) rfl))) (fun _ _ _ _=>⟨_,gV,by walk_at "B"⟩) (fun _ _ _ _=>⟨_,(bl eD (bl b0 (U 1) (U 0)) (U 2)),by walk_at "B"⟩))) av)))
   (aQ (eU eJ rfl (iw rfl T.hA (db (bG Uf (ep fV rfl T.fG fJ (db (U 13) av)) aJ) av)) (b5 (i:=15) hZ.aB) (a3 (bX (i:=14) hZ.aB (bG er (U 14) (bl b0 (bl b0 (U 11) (bl b0 (U 13) (U 15))) (bl b0 (U 13) (bG er (U 15) aJ)))))))
   (a3 (bX (i:=9) hZ.aB (ep (Vf rfl) rfl T.t2 yZ (db (U 9) (db (U 14) av))))))))) ec)
   (aQ (bX (i:=16) hZ.aB dy)
   (aQ (ad6 (i:=17) (fun _ _=>⟨_,(a3 (dN (Y8 ajx aj rfl T.O8 T.y5.bj T.UM .nil aaU (db (U 4) (db (Ld r2 ak0 al' Wg (bl eD (bl b0 (U 2) (U 6)) aJ)) av))))),by first | rfl | (dsimp only [a0.gb,a0.aV];done) | (dsimp only [a0.gb,a0.aV];exact rfl)⟩) rfl T.PE (fun _=>⟨_,(a3 (bX (i:=16) hZ.aB (acM (U 17) rfl))),by first | rfl | (dsimp only [a0.gb,a0.aV];done) | (dsimp only [a0.gb,a0.aV];exact rfl)⟩) hZ.aB rfl rfl)
   (aQ (bX (i:=18) hZ.aB (bl eD (bS aet aj T.O8 T.y5.bj T.UM (db (U 4) (db (bl eD (bl b0 (U 2) (U 6)) aJ) av))) aJ))
   (a3 (cc (w1 (hx eQ (U 16) (Ld r2 ak0 al' Wg (bl eD (bl b0 (U 2) (U 6)) aJ)) (cF _)) (w1 (Vy (ep am8 rfl T.ac2 aiZ (db (U 18) (db (agW (v:=.ty "bool") rfl T.alk XM rfl) av)))) (vp (hx eQ (U 18) (U 9) (cF _)))))))))))))))))))))),?_⟩
 exists (fun ay I=>aH H I/\Sc K a ns I/\∃ wl n ds,iz I wl ds/\sz n ds/\(∀ d ∈ ds,d.least <= 4)/\(4 <= n/\n <= 99)/\(1 <= ds.length/\ds.length <= 6)/\ay=[~~~a,some (.int n),~~~wl,none,none,none,none,none,none,none,none,none,none,none,none,none,none,none,none]),3
 .obtain ⟨y,aU,ih⟩:=XI (hF ns 7 (m:=8) (by decide)) (hK ns 7 (m:=8) (by decide));(nofun; repeat (dsimp only [jJ];nofun));refine ⟨by decide,fun p aq=>⟨yN.new aq,by decide,by decide,by decide,_,ak.of aS,_,ih,y,rfl,by omega,yN.new aq,fun d2 wl n ds I s1 qO ao L D hle aV aD=>⟨d2,rfl,_,cS.of ao,rfl,_,_,rfl,_,_,rfl,rfl,bD _ _ ⟨(a' aq).trans s1,qO,wl,n,ds,L,D,hle,aV,by omega,rfl⟩⟩⟩⟩
 rintro gu H1 ⟨s1,qO,wl,n,ds,L,D,hle,aV,g9,rfl⟩;have aik:∀ {aI:List fU},Ea n ds aI->dt n ds aI:=fun h=>⟨D.aB,h,g9.2,g9.1,fun d hd=>(D.al d hd).1⟩
 subst aY;exists (fun ay I=>aH H1 I/\Sc K a ns I/\∃ dg bT kA bR,n4 I dg bT kA bR/\dt n ds bR/\ay=[~~~a,some (.int n),~~~wl,~~~dg,none,none,none,none,none,none,none,none,none,none,none,none,none,none,none]),3
 .nofun;exact ⟨a,ns,n,wl,ds,rfl,il,qO.seq,qO.bC,L,D,hle,by omega,fun dg bT kA bR I s3 c0 p1 aez=>bD _ _ ⟨s3,qO.same s3 c0,dg,bT,kA,bR,p1,aik aez,rfl⟩⟩
 rintro cH az ⟨s2,kC,dg,bT,kA,bR,p1,X,rfl⟩;have L2:=L.same s2;subst aY;exists (fun ay I=>aH az I/\Sc K a ns I/\∃ gf c,hv P w t I gf c n ds (dc ds bR)/\ay=[~~~a,some (.int n),~~~wl,~~~dg,~~~gf,none,none,none,none,none,none,none,none,none,none,none,none,none,none]),3
 .nofun;exact ⟨n,wl,ds,rfl,L2,D,by omega,by omega,kC.bC,n,ds,rfl,D.N8 (by omega) (by omega),kC.bC,fun c I s3 c0 uv=>⟨wl,ds,dg,bT,kA,bR,rfl,L2.same s3,p1.same s3,X.jT,c0,c,n,ds,bR,rfl,uv,aV,X,c0,fun gf c3 s5 dT abu=>bD _ _ ⟨s3.trans s5,kC.same (s3.trans s5) dT,gf,c,abu,rfl⟩⟩⟩
 rintro gE bI ⟨s3,Ky,gf,c,aiW,rfl⟩;have oc:=L2.same s3;have tX:=p1.same s3;have I1:=X.len;have gW:(bT.map V.ref).length=bR.length:=by rw [aR,p1.b_]
 subst aY;exists (fun ay I=>aH bI I/\Sc K a ns I/\∃ bo,bI bo=none/\I bo=some (.lst ((cY bR.length).map fun j=>V.bw (kQ ds bR j)))/\ay=[~~~a,some (.int n),~~~wl,~~~dg,~~~gf,~~~bo,none,none,none,none,none,none,none,none,none,none,none,none,none]),3
 .nofun;obtain ⟨jP,IM,O9,Ol⟩:=id oc;refine ⟨⟨_,ak.of tX.at_⟩,?_⟩;refine cX.kU (xs:=bT.map V.ref) (zs:=(cY bR.length).map fun j=>V.bw (kQ ds bR j)) (ak.of tX.at_) (by rw [gW];exact cq I1 (by decide)) (by rw [aR,aR,kh,p1.b_]) (fun j v z N aG aF bb=>?_) (fun p aq=>?_)
  .obtain ⟨cb,e0,rfl⟩:=cm aG;have aN:j < bR.length:=by
    have:=(bY.mp e0).1;rw [p1.b_] at this;exact this
   have aF:z=V.bw (kQ ds bR j):=by
    rw [cV,oB aN] at aF;exact (eL aF).symm
   obtain ⟨n2,bu,ao,aC,bJ⟩:=IF tX (a_ aN);rw [ao] at e0;cases e0;obtain ⟨hz,r,aE⟩:=rl (X.six aN).1;have j8:=X.lt (jb aN) (show hz ∈ bR[j].bZ by rw [aE];exact .head _);have hO:=a_ j8;have r':=a_ (show hz < jP.length by omega);have dQ:=acU hO (X.ok _ (jb j8)).k;have fa:kQ ds bR j=x_ ds hz:=by unfold kQ;rw [tu (a_ aN),aE];rfl
   nofun;refine ⟨Sub.name,_,cS.of aC,_,bA (j:=2) rfl,_,rfl,_,ak.of bJ,_,bA (j:=0) (by rw [aE];rfl),_,_,rfl,ak.of IM,_,bA (by rw [cV,r'];rfl),_,rfl,_,cS.of (Ol hz _ _ r' hO),_,bA (j:=0) rfl,rfl,?_⟩;rw [dQ,<- fa,<- aF];exact bb
  .exact bD _ _ ⟨a' aq,Ky.new aq,p,aq,aS,rfl⟩
 rintro mw cD ⟨s4,kg,bo,j6,hp,rfl⟩;have ez:=oc.same s4;have C_:=tX.same s4;have YV:=aiW.same s4;obtain ⟨jP,IM,O9,Ol⟩:=id ez;have h5:(jP.map V.ref).length=ds.length:=by rw [aR,O9]
 obtain ⟨at_,i'⟩:∃ at_:Nat,dw ns 5 ds.length=(at_:Int)/\at_ < ds.length:=by
  have ab:=hF ns 5 (m:=(ds.length:Int)) (by omega);have ai:=hK ns 5 (m:=(ds.length:Int)) (by omega);exact ⟨(dw ns 5 ds.length).toNat,by omega,by omega⟩
 subst aY;exists (fun ay I=>I=cD/\ay=[~~~a,some (.int n),~~~wl,~~~dg,~~~gf,~~~bo,some (.int at_),none,none,none,none,none,none,none,none,none,none,none,none]),3
 ·(nofun; repeat (dsimp only [jJ];nofun));refine ⟨_,.inl (ak.of IM),kg,by decide,by decide,by rw [h5];omega,?_⟩;rw [h5,i'.1];exact bD _ _ ⟨rfl,rfl⟩
 rintro zf c3 ⟨rfl,rfl⟩;subst aY;simp only [dj];obtain ⟨g,bg,lY⟩:=X.aaB i'.2;exists (fun ay I=>aH c3 I/\aL I/\ay=[~~~a,some (.int n),~~~wl,~~~dg,~~~gf,~~~bo,some (.int at_),some (.int g),none,none,none,none,none,none,none,none,none,none,none]),0
 .nofun;refine ⟨⟨_,ak.of C_.at_⟩,?_⟩;refine cX.kU (xs:=bT.map V.ref) (zs:=((cY bR.length).map fun j=>decide (at_ ∈ ko bR j)).map V.bw) (ak.of C_.at_) (by rw [gW];exact cq I1 (by decide)) (by rw [aR,aR,aR,kh,p1.b_]) (fun j v z N aG aF bb=>?_) (fun p aq=>?_)
  .obtain ⟨cb,e0,rfl⟩:=cm aG;have aN:j < bR.length:=by
    have:=(bY.mp e0).1;rw [p1.b_] at this;exact this
   have aF:z=V.bw (decide (at_ ∈ ko bR j)):=by
    rw [cV,cV,oB aN] at aF;exact (eL aF).symm
   obtain ⟨n2,bu,ao,aC,bJ⟩:=IF C_ (a_ aN);rw [ao] at e0;cases e0;nofun;refine ⟨Sub.name,_,cS.of aC,_,bA (j:=2) rfl,_,rfl,_,.inl (ak.of bJ),rfl,by simp [kz],?_⟩;rw [TF,<- tu (a_ aN)];rw [aF] at bb;exact bb
  .refine ⟨.inl ⟨_,ak.of aS⟩,p,_,true,g,rfl,rfl,ak.of aS,by rw [cV,oB bg];exact congrArg some (decide_eq_true lY),fun dm kF=>?_,by rw [aR,kh];omega,bD _ _ ⟨a' aq,kg.bC.upd,rfl⟩⟩;rw [cV,oB (by omega)];exact fun z=>absurd (X.uniq (of_decide_eq_true (eL z)) lY) (by omega)
 rintro oX fz ⟨dO,mh,rfl⟩;subst aY;simp only [dj];obtain ⟨jU,zX⟩:∃ jU:Int,jU=if kQ ds bR g=true then 0 else 1:=⟨_,rfl⟩;exists (fun ay I=>I=fz/\ay=[~~~a,some (.int n),~~~wl,~~~dg,~~~gf,~~~bo,some (.int at_),some (.int g),some (.int jU),none,none,none,none,none,none,none,none,none,none]),0
 .nofun;refine ⟨_,ak.of (dO _ _ hp),_,bA (by rw [cV,oB bg];rfl),.inr ⟨_,rfl,?_⟩⟩;rw [show (1 - if kQ ds bR g=true then (1:Int) else 0)=jU by rw [zX];cases kQ ds bR g <;> rfl];exact bD _ _ ⟨rfl,rfl⟩
 rintro lu fe ⟨rfl,rfl⟩;subst aY;simp only [dj];exists (fun ay I=>I=fe/\ay=[~~~a,some (.int n),~~~wl,~~~dg,~~~gf,~~~bo,some (.int at_),some (.int g),some (.int jU),some (.int 0),none,none,none,none,none,none,none,none,none]),0
 .nofun;exact bD _ _ ⟨rfl,rfl⟩
 rintro vG iY ⟨rfl,rfl⟩;have jz:=ez.same dO;have GP:=C_.same dO;subst aY;simp only [dj];exists (fun ay I=>I=iY/\ay=[~~~a,some (.int n),~~~wl,~~~dg,~~~gf,~~~bo,some (.int at_),some (.int g),some (.int jU),some (.int 0),some (.int (bR.length:Nat)),none,none,none,none,none,none,none,none]),0
 .nofun;refine ⟨_,.inl (ak.of GP.at_),?_⟩;rw [gW];exact bD _ _ ⟨rfl,rfl⟩
 rintro aaq x1 ⟨rfl,rfl⟩;subst aY;simp only [dj];exists (fun ay I=>aH x1 I/\aL I/\∃ d2,x1 d2=none/\I d2=some (.lst [])/\ay=[~~~a,some (.int n),~~~wl,~~~dg,~~~gf,~~~bo,some (.int at_),some (.int g),some (.int jU),some (.int 0),some (.int (bR.length:Nat)),~~~d2,none,none,none,none,none,none,none]),0
 .nofun;exact ⟨by decide,fun d2 lj=>bD _ _ ⟨a' lj,mh.upd,d2,lj,aS,rfl⟩⟩
 rintro apj aoy ⟨afw,r7,d2,lj,alP,rfl⟩;subst aY;simp only [dj];exists (fun ay I=>aH x1 I/\aL I/\∃ qs mX,zd I d2 qs bR.length (m3 n ds bR) bR.length/\ay=[~~~a,some (.int n),~~~wl,~~~dg,~~~gf,~~~bo,some (.int at_),some (.int g),some (.int jU),some (.int 0),some (.int (bR.length:Nat)),~~~d2,mX,none,none,none,none,none,none]),0
 .nofun;refine ⟨by omega,by omega,?_⟩;rw [lB];refine dP.range (fun i σ I=>aH x1 I/\aL I/\∃ qs mX,zd I d2 qs bR.length (m3 n ds bR) i/\σ=[~~~a,some (.int n),~~~wl,~~~dg,~~~gf,~~~bo,some (.int at_),some (.int g),some (.int jU),some (.int 0),some (.int (bR.length:Nat)),~~~d2,mX,none,none,none,none,none,none]) ?_ ?_ ?_
  .exact ⟨afw,r7,[],_,⟨alP,rfl,fun k q h=>by simp at h,by simp⟩,rfl⟩
  .rintro i σ I ag a7;ac_rfl
   obtain ⟨ql,sb,qs,mX,oh,rfl⟩:=a7;subst aY;simp only [e_,gU,gM];rw [lP];nofun;refine ⟨.inl ⟨_,ak.of oh.at_⟩,by omega,by omega,?_⟩;rw [lB];have iS:=a_ ag;refine cX.H5 (fun j=>V.int (m3 n ds bR i j)) (cq I1 (by decide)) (fun j N aN bb=>?_) (fun p aq=>?_)
   .have rn:=a_ aN;nofun;exact ⟨Sub.name,n,wl,ds,dg,bT,kA,bR,i,j,_,_,rfl,jz.same ql,GP.same ql,X,iS,rn,sb,fun v aG=>by rw [z0 aG (JQ iS rn)];exact bb⟩
   .have ON:p ≠ d2:=fun z=>by rw [z,oh.at_] at aq;cases aq
    have W0:=oh.ln;refine ⟨_,(a' aq) _ _ oh.at_,gI (show _ <= 6 by rw [aR];omega) (by decide),fun b u e=>?_,sb.upd.upd,qs ++ [p],⟨by rw [aS,dA];rfl,by rw [cC,W0];rfl,fun k cb aE=>?_,fun z=>(dZ.mp z).elim oh.bC (fun z=>ON (eu.mp z).symm)⟩,_,rfl⟩
    .rw [aZ (Db e lj)];exact (a' aq) _ _ (ql _ _ e)
    .rcases ka aE with ⟨g1,g2⟩ | ⟨g1,g2⟩
     .rw [aZ (fun z=>oh.bC (by rw [<- z];exact bM g2))];exact (a' aq) _ _ (oh.al k cb g2)
     .subst g2;rw [aZ ON,aS,g1,W0]
  .rintro σ I a7;ac_rfl
   obtain ⟨ql,sb,qs,mX,oh,rfl⟩:=a7;subst aY;exact bD _ _ ⟨ql,sb,qs,mX,oh,rfl⟩
 rintro aob YB ⟨ql,sb,qs,mX,oh,rfl⟩;have R:=X.acN;have hlen:(dc ds bR).length=bR.length:=y0;have En:(gh ds (dc ds bR) g).Ok:=R.ok (by rw [hlen];exact bg);subst aY;simp only [dj];exists (fun ay I=>aH YB I/\aL I/\∃ b mX y1 xf mV,((bR.length=1/\b=0)\/(bR.length ≠ 1/\∃ bp,rj (gh ds (dc ds bR) g) bp/\Hb (m3 n ds bR) (ee ds (dc ds bR) g) bp b))/\ay=[~~~a,some (.int n),~~~wl,~~~dg,~~~gf,~~~bo,some (.int at_),some (.int g),some (.int jU),some (.int b),some (.int (bR.length:Nat)),~~~d2,mX,y1,xf,mV,none,none,none]),0
 .by_cases a9:bR.length=1
  .refine cP false (fun Q aX=>?_) (fun z=>nomatch z) (fun _=>?_)
   .nofun;rw [a9];exact aX
   .simp only [f'];exact bD _ _ ⟨aH.refl _,sb,0,_,_,_,_,.inl ⟨a9,rfl⟩,rfl⟩
  .refine cP true (fun Q aX=>?_) (fun _=>?_) (fun z=>nomatch z)
   .nofun;rw [decide_eq_true (by omega)];exact aX
   .nofun;refine ⟨bo,gh ds (dc ds bR) g,rfl,En,by rw [X.aha];exact ql _ _ (dO _ _ hp),sb,fun r alu bp ZD M' Ir mL lU=>⟨r,rfl,⟨_,ak.of mL.at_⟩,?_⟩⟩;refine dP.list (xs:=alu.map V.ref) (fun i σ I=>aH ZD I/\aL I/\∃ b y1 xf mV,Hb (m3 n ds bR) (ee ds (dc ds bR) g) (bp.take i) b/\σ=[~~~a,some (.int n),~~~wl,~~~dg,~~~gf,~~~bo,some (.int at_),some (.int g),some (.int jU),some (.int b),some (.int (bR.length:Nat)),~~~d2,mX,y1,xf,mV,none,none,none]) ⟨aH.refl _,Ir,0,_,_,_,⟨ma _,.inl rfl,fun ys h=>by simp at h⟩,rfl⟩ (fun i σ I ag ⟨s,_⟩=>ak.of (s _ _ mL.at_)) ?_ ?_
    .rintro i x σ sP af a7;ac_rfl
     obtain ⟨uV,Jy,b,y1,xf,mV,CL,rfl⟩:=a7;obtain ⟨cb,e0,rfl⟩:=cm af;have iB:i < bp.length:=by rw [<- mL.ln];exact (bY.mp e0).1
     obtain ⟨ch,fq⟩:∃ ch,bp[i]? = some ch:=⟨_,a_ iB⟩;have dR:=uV _ _ (mL.al i cb ch e0 fq);have co:yG bR.length ch:=by
      have:=(Aw En lU (bM fq)).1;rw [show (gh ds (dc ds bR) g).m=bR.length from hlen] at this;exact this
     have pa:=co.cM;have GH:=co.Cm;subst aY;simp only [e_,dj,gU,gM];exists (fun ay I=>aH sP I/\aL I/\ay=[~~~a,some (.int n),~~~wl,~~~dg,~~~gf,~~~bo,some (.int at_),some (.int g),some (.int jU),some (.int b),some (.int (bR.length:Nat)),~~~d2,mX,~~~cb,some (.int (((gX ch).map (ee ds (dc ds bR) g)).sum)),mV,none,none,none]),0
     .nofun;refine ⟨_,ak.of dR,fun p aq=>⟨⟨_,ak.of aS⟩,?_⟩⟩;have oz:ij (bq ch) (some 1) (some (-1))=bq (gX ch):=by
       rw [NT _ (by rw [eF];exact pa),eF];unfold bq gX;rw [L9,tW]
      rw [oz];have k3:aH sP (upd sP p (.lst (bq (gX ch)))):=a' aq;have Bd:aL (upd sP p (.lst (bq (gX ch)))):=Jy.upd;have US:upd sP p (.lst (bq (gX ch))) p=some (.lst (bq (gX ch))):=aS;generalize upd sP p (.lst (bq (gX ch)))=Gy at k3 Bd US ⊢;have Rp:=GP.same (ql.trans (M'.trans (uV.trans k3)));have f_:∀ x ∈ gX ch,x < bR.length:=fun x af=>co.lt x (zY (td af))
      have adx:(gX ch).length <= 40:=by unfold gX;rw [gZ];omega
      refine cX.kU (xs:=bq (gX ch)) (zs:=((gX ch).map (ee ds (dc ds bR) g)).map V.int) (ak.of US) (cq (show _ <= 40 by rw [eF];exact adx) (by decide)) (by rw [eF,aR,aR]) (fun i v z N aG aF bb=>?_) (fun l aD=>?_)
      .unfold bq at aG;obtain ⟨x,af,rfl⟩:=cm aG;obtain ⟨y,aU,rfl⟩:=cm aF;obtain ⟨ie,e7,rfl⟩:=cm aU;rw [af] at e7;cases e7;have kK:=f_ x (bM af);have Pe:=a_ kK;obtain ⟨n2,bu,g1,g2,g3⟩:=IF Rp Pe;have ajn:eE [V.int bR[x].lo,V.int bR[x].ag,V.ref bu] jU=some (.int (ee ds (dc ds bR) g x)):=by
        rw [wP X bg Pe,zX];cases kQ ds bR g
        .exact bA (j:=1) rfl
        .exact bA (j:=0) rfl
       nofun;exact ⟨Sub.name,_,ak.of Rp.at_,_,bA (by rw [cV,g1];rfl),_,rfl,_,cS.of g2,_,ajn,bb⟩
      .refine ⟨l,rfl,_,ak.of aS,fun v aG=>?_,by rw [aR];omega,bD _ _ ⟨k3.trans (a' aD),Bd.upd,rfl⟩⟩;obtain ⟨x,af,rfl⟩:=b2.mp aG;have:=T5 R (h:=g) (by rw [hlen];exact f_ x af);omega
     rintro apI Gy ⟨k3,Bd,rfl⟩;have Me:=k3 _ _ dR;have Mq:=oh.same (M'.trans (uV.trans k3));subst aY;simp only [dj];exists (fun ay I=>I=Gy/\∃ mV,ay=[~~~a,some (.int n),~~~wl,~~~dg,~~~gf,~~~bo,some (.int at_),some (.int g),some (.int jU),some (.int b),some (.int (bR.length:Nat)),~~~d2,mX,~~~cb,some (.int (lF (m3 n ds bR) (ee ds (dc ds bR) g) ch)),mV,none,none,none]),0
     .nofun;refine ⟨_,.inl (ak.of Me),by rw [eF];omega,by rw [eF];omega,?_⟩;rw [show ((((bq ch).length:Nat):Int) - 1).toNat=ch.length - 1 by rw [eF];omega];refine dP.range (fun j σ I=>I=Gy/\∃ mV,σ=[~~~a,some (.int n),~~~wl,~~~dg,~~~gf,~~~bo,some (.int at_),some (.int g),some (.int jU),some (.int b),some (.int (bR.length:Nat)),~~~d2,mX,~~~cb,some (.int (((gX ch).map (ee ds (dc ds bR) g)).sum + ((l7 (m3 n ds bR) ch).take j).sum)),mV,none,none,none]) ⟨rfl,_,by rw [ru,Qp,ag0]⟩ ?_ ?_
      .rintro j σ I aN ⟨rfl,mV,rfl⟩;have aK:ch[j]? = some (ch[j]'(by omega)):=a_ (by omega);have ae:ch[j + 1]? = some (ch[j + 1]'(by omega)):=a_ (by omega);generalize ch[j]'(by omega)=ct at aK;generalize ch[j + 1]'(by omega)=bB at ae;have amk:=co.lt ct (bM aK);have Y3:=co.lt bB (bM ae);obtain ⟨jA,Ep⟩:∃ jA,qs[ct]? = some jA:=⟨_,a_ (by rw [Mq.ln];exact amk)⟩;simp only [e_,gU,gM];rw [lP];nofun;refine ⟨_,ak.of Me,_,bA (fS aK),_,_,rfl,ak.of Mq.at_,_,bA (by rw [cV,Ep];rfl),_,ak.of Me,_,bA (j:=j + 1) (fS ae),_,rfl,_,_,rfl,ak.of (Mq.al ct jA Ep),_,bA (by rw [cV,oB Y3];rfl),_,rfl,?_,_,rfl⟩;rw [nC,D8 _ aK ae,wL,Option.toList_some,nr,Qp,ag0,Int.add_assoc]
      .rintro σ I ⟨rfl,mV,rfl⟩;rw [Cw (by rw [xn];exact bP _),Int.add_comm];exact bD _ _ ⟨rfl,_,rfl⟩
     rintro ao_ anU ⟨rfl,mV,rfl⟩;subst aY;nofun;refine ⟨uV.trans k3,Bd,_,?_,rfl,_,rfl⟩;rw [mC fq];obtain ⟨hE,fo,j3⟩:=CL;by_cases PI:lF (m3 n ds bR) (ee ds (dc ds bR) g) ch > b
     .rw [if_pos PI];refine ⟨by omega,.inr ⟨ch,by simp,rfl⟩,fun ys aU=>?_⟩;rcases dZ.mp aU with z | z
      .have:=j3 ys z;omega
      .rw [eu.mp z];exact ma _
     .rw [if_neg PI];refine ⟨hE,fo.imp id (fun ⟨ys,ab,ai⟩=>⟨ys,nE _ ab,ai⟩),fun ys aU=>?_⟩;rcases dZ.mp aU with z | z
      .exact j3 ys z
      .rw [eu.mp z];omega
    .rintro σ sP a7;ac_rfl
     obtain ⟨uV,Jy,b,y1,xf,mV,CL,rfl⟩:=a7;subst aY;rw [aR,mL.ln,iF] at CL;exact bD _ _ ⟨M'.trans uV,Jy,b,_,_,_,_,.inr ⟨a9,bp,lU,CL⟩,rfl⟩
 rintro ap0 aco ⟨pP,agM,b,LW,K0,IK,Hr,ae,rfl⟩;subst aY;simp only [dj];exists (fun ay I=>I=aco/\ay=[~~~a,some (.int n),~~~wl,~~~dg,~~~gf,~~~bo,some (.int at_),some (.int g),some (.int jU),some (.int b),some (.int (bR.length:Nat)),~~~d2,LW,K0,IK,Hr,some (.str (ah "")),none,none]),0
 .nofun;exact bD _ _ ⟨rfl,rfl⟩
 rintro anZ Zt ⟨rfl,rfl⟩;have L1:=ql.trans pP;have WQ:=jz.same L1;have VN:=(YV.same dO).same L1;obtain ⟨F3,Oi,apZ,aeS⟩:=id WQ;have hO:=a_ i'.2;obtain ⟨d,vt⟩:∃ d,ds[at_]? = some d:=⟨_,hO⟩;have r':=a_ (show at_ < F3.length by omega);have Ra:=aeS at_ _ _ r' vt;have RX:eE (F3.map V.ref) (at_:Int)=some (.ref F3[at_]):=bA (by rw [cV,r'];rfl);have GN:=(X.ok d (bM vt)).nm;obtain ⟨l6,sQ⟩:=ah5 GN;subst aY;simp only [dj];exists (fun ay I=>aH Zt I/\aL I/\ay=[~~~a,some (.int n),~~~wl,~~~dg,~~~gf,~~~bo,some (.int at_),some (.int g),some (.int jU),some (.int b),some (.int (bR.length:Nat)),~~~d2,LW,K0,IK,Hr,some (.str (mK d.name)),none,none]),0
 .nofun;refine ⟨_,ak.of Oi,_,RX,_,rfl,_,cS.of Ra,_,bA (j:=1) rfl,trivial,d.name,rfl,rfl,sQ,?_⟩;rw [l6];refine ⟨gf,c,n,ds,dc ds bR,mK d.name,rfl,VN,(QB X.ok GN).1,(QB X.ok GN).2,fun ax I bu nm zt=>?_⟩;nofun;exact ⟨_,rfl,T.aa8,fun x af=>⟨_,_,af,_,zt,T.Dq,T.UQ,_,rfl,bD _ _ ⟨bu,nm agM,rfl⟩⟩⟩
 rintro apf ajb ⟨xb,am6,rfl⟩;have agC:Jn Pt ajb:=ajl.step ((s1.trans (s2.trans (s3.trans s4))).trans (dO.trans (L1.trans xb)));subst aY;simp only [dj];exists (fun ay I=>ay=[~~~a,some (.int n),~~~wl,~~~dg,~~~gf,~~~bo,some (.int at_),some (.int g),some (.int jU),some (.int b),some (.int (bR.length:Nat)),~~~d2,LW,K0,IK,Hr,some (.str (mK d.name)),none,some (.int b)]/\iz I wl ds),0
 .nofun;have aeu:=WQ.same xb;refine ⟨_,ak.of (xb _ _ Oi),_,RX,_,rfl,_,cS.of (xb _ _ Ra),_,bA (j:=1) rfl,gf,c,n,ds,dc ds bR,m3 n ds bR,g,at_,d,rfl,VN.same xb,R,X.QX,vt,X.aa0 vt lY,by rw [hlen];exact bg,agC,am6,fun r z sf gv I lW m7 aF=>?_⟩;have yK:=ac5 R X.QX (by rw [hlen];exact bg) hlen ae aF;subst yK;exact ⟨r,rfl,_,cS.of m7,_,bA (j:=0) rfl,bD _ _ ⟨rfl,aeu.vb lW⟩⟩
 rintro aoD anN ⟨rfl,Yc⟩;obtain ⟨LG,af8,aoE,ag6⟩:=id Yc;have Rf:=a_ (show at_ < LG.length by omega);have abA:=ag6 at_ _ _ Rf vt;have akD:eE (LG.map V.ref) (at_:Int)=some (.ref LG[at_]):=bA (by rw [cV,Rf];rfl);subst aY;nofun;refine ⟨_,ak.of af8,_,akD,_,rfl,_,cS.of abA,_,bA (j:=1) rfl,trivial,d.name,rfl,rfl,sQ,?_⟩;rw [l6];refine ⟨rfl,?_⟩;rw [if_pos (decide_eq_true rfl)];refine ⟨_,.int _,false,rfl,?_⟩;rw [if_pos (by decide)];exact q _
end My
structure PySem.W.Fast:Prop where(tw7907185653329781717 tw3864408103652750838 tw3662967132798913231 tw1713609817898334986 tw9612381754843631359 tw11076650167008708834 tw16776661399423393209 tw5665812777245213659 tw3208205961927277614 tw2043408840104965258 tw3959917408308078418 tw1359105796460528743 tw7195683143664177625 tw17101321894824433010 tw13589655247118949816 tw11636910370044894741 tw11411400220358311569 tw7946454975024852035 tw18259338951087956106 tw5744648240240497566 tw3854398487491735436 tw9684672104209220276 tw12885118091553189952 tw6631752808502671972 tw3392173634397199763 tw9955078041243865720 tw17101845482231714693 tw17768965938425133666 tw14175626604513698761 tw14530606643726625983 tw2386874586922397795 tw16543956836816195158 tw5613465161708622042 tw6226927655317676974 tw6001415812939951967 tw14174987723410695023 tw3067297477046776498 tw606374890941016971 tw14171969876790074721 tw12552615158482467179 tw1675416392122121123 tw3669235400326686283 tw5257210808359097798 tw15061614841912041089 tw16140398979525012665 tw2497731757077107560 tw3778075118539776290 tw15942274936628885222 tw13889169137038793207 tw11722355630239835781 tw16237499218362998057 tw14257220247683308616 tw6559760093313025490 tw13284050733730188915 tw17757014818380542347 tw9941291419776775698 tw13655783711920694699 tw9678418844443170235 tw17204043692757811675 tw3757366309497336826 tw7528031634113378849 tw8277532896468903716 tw6654684906654645658 tw17858680375364903813 tw9973592974020958826 tw7655940173368084790 tw15516981980976307053 tw13237914442155900518 tw10701242247526105083 tw16706393675337759726 tw12018031804214144197 tw609276382711555081 tw18240480235106694117 tw12432325219600307253 tw2827946710699007870 tw34679683349343102 tw8265953644150140169 tw2499045415472605944 tw12829319624264969030 tw3268607530690941700 tw3564836770986448600 tw10983702326022077707 tw612063284329211140 tw8357025455693110619 tw15978245887033115823 tw7437237538979439892 tw6777556118200207967 tw8067268754112957588 tw17618661674196634015 tw2785574060534530376 tw10478820255963221603 tw1630181302138204147 tw4114068752984314057 tw8652678696217992083 tw4338298122404868610 tw6718701760889768608 tw527527046557012101 tw5158030833417239932 tw12587252122838781454 tw18121690091225573735 tw14557791288433929800 tw4059026119871342514 tw4127077625208344861 tw3240835815567744258 tw13673284850246529150 tw4989781089770847238 tw1965682420285570789 tw3958998202712263798 tw10488064751319141545 tw915710088590128568 tw17612363186008239507 tw8899879738008328258 tw6888444406294564199 tw892665746245730198 tw1691224799481660437 tw6908087662292329434 tw17566153258057152012 tw5989767751942983878 tw17029184676974337020 tw5026213571540043584 tw10873757498972246204 tw2396636715154335173 tw6726599739839020187 tw9858869402128768843 tw17913640618304496686 tw18104376899662091028 tw4616529731867610783 tw1678428364896654000 tw14701093248832711042 tw3855905393234588984 tw12254894816107813043 tw5205060974726913827 tw2065023672771953346 tw9521860887967686819 tw6490636114287646096 tw13348824667962255474 tw13829715139128425972 tw2961730538461356171 tw10302404973699601215 tw14751212393757049972 tw4920547166870423321 tw16198622726755579260 tw16597050030350179037 tw7936540187205137783 tw16418385958376544602 tw6185552543406891730 tw2286306958466033371 tw12317765136345452007 tw17615987495377649176 tw12800909596010416091 tw7084481832251527985 tw18148554145624530130 tw15715684923134340148 tw4284502203795712585 tw18049243701918041444 tw3907926498631234769 tw16163756188296085394 tw1798982807013661441 tw8912977635267828618 tw10276198612617641625 tw13723915176740669780 tw13160300815079525186 tw18280266244974870090 tw5302247038274874558 tw8800158663939589525 tw2774404791089882300 tw3545792066865101790 tw2669117747260497444 tw10823017123290870121 tw5941594131086902327 tw2998796430347242116 tw4064070140751097301 tw13116124290743246205 tw10924185205145076927 tw15975346982197471364 tw6238640356838630745 tw1279969963772508605 tw3798590069995507436 tw3566816649852952448 tw17523991151054577464 tw9821308395399917144 tw10479489401885594113 tw13712482265413011223 tw3641513870021425879 tw10862815787545960052 tw2049694971271762545 tw3619087253498752584 tw15435105918003940243 tw16140434049745150304 tw16559447114989223581 tw12837352309911656925 tw17837034412587426893 tw5388180615768009487 tw18307090776165825180 tw10242127742432207914 tw11345823235253773175 tw15574220356832685002 tw11778062710681829922 tw15876384456134529365 tw6101952003419753919 tw1643491840607999510 tw2778231233017544740 tw15077694948350414843 tw1158665064925681985 tw10272468726134529067 tw2519014948760209866 tw9436481717681776636 tw9792687795168998931 tw14106470966988741565 tw7565854594475251070 tw15441415566272653432 tw1542131056437286902 tw16330028641507952149 tw1028022414527220747 tw8783383016314415544 tw2663454489517073352 tw9533591688748407146 tw3383761176095655110 tw866820358678604524 tw9884398511519865236 tw9273195413005110261 tw10587491162313843715 tw7516511227437745687 tw9202165288619071641 tw11252235500992734137 tw15780291290719383763 tw13992313407456572917 tw16252949159367334631 tw16245249082609196907 tw7714556069064196738 tw11780571225495000399 tw10804477552557975994 tw5248606062786537550 tw17803819690731023986 tw2066894687412642774 tw4170787857323321641 tw2270463586522554797 tw11445234770037013488 tw11549976785997074999 tw3944659103756154427 tw10012479381278996045 tw8195797820928708583 tw2798413815645390534 tw11902226313239913168 tw11478754043837210173 tw10338474185933043352 tw7444706503024307960 tw1517625119876941826 tw8687836150342096980 tw11356733568087335906 tw16031742733211610499 tw14486795022745689195 tw6427879010021664287 tw13893340694975307009 tw2078300616066930166 tw1009010229012177895 tw16598545847862651971 tw5049677686046838194 tw4445801120985449775 tw6000769060041743618 tw3972481174257000668 tw3580565596571698871 tw11497727880465694569 tw9890117314151679963 tw2580792933999111809 tw2501553587431826849 tw6268934330231048887 tw3810010607534873351 tw3685105984707033973 tw14737579575607203514 tw7693286892499857061 tw15620448482184359428 tw3022412773777025584 tw9478545499928575165 tw6982883329715996772 tw8124183867612966522 tw17213325518662681090 tw4148068420277168933 tw16602449973412132405 tw13599429841613382707 tw5819585185426034019 tw12795010499151918446 tw9161090831752667823 tw8513403090482328731 tw4361177134730796115 tw952473232648100290 tw1161100557120973544 tw5918687581700114943 tw2164058049990469931 tw14214132510078216870 tw7285451359577294348 tw15905131299020667733 tw12988938591106465190 tw13961879437917145117 tw5426058056119822974 tw1480969886586873785 tw13898064817638720451 tw13550709254745192428 tw16445935009221682322 tw4956609759512611114 tw18108135271231837967 tw8340209088712406678 tw8335751546934343190 tw5990656056713128097 tw16659969014720434411 tw8211539672964229212 tw9081559452949010530 tw4452027566025497375 tw11872605928619890115 tw17116030051272495226 tw6107660722155415062 tw5821499298452530892 tw4662618328686657134 tw18128265202146129646 tw1498102126707462571 tw4509036742771418833 tw13110523448628240269 tw2434527614875096510 tw17649448617865955752 tw16744756973881140678 tw16135775622202585732 tw12985373166167857928 tw5864349464428033792 tw3321610152953047966 tw10320110210487023890 tw15970908614065075265 tw133606381135477111 tw13310404023019158373 tw17424228480075922049 tw3237086990778075372 tw15345552575766519912 tw5649385979159682411 tw15605796431969281294 tw17331100783994262263 tw11222047598754566083 tw9147104849772702769 tw12176140229922350148 tw11235094836608972740 tw5811153720226100603 tw315277966673332886 tw5890634758766217406 tw3741166769305354615 tw15142434617363277280 tw13743626677710622151 tw16223143526805105764 tw16373325003699290893 tw15821714433090144240 tw5383076407327055663 tw4803713641882987673 tw3826518392167182728 tw298130070089078128 tw16265087496717418189 tw1325429878335763621 tw12909009985251627247 tw1105846128524582615 tw10872122807038059002 tw14682034991668187450 tw7377763738330812526 tw8270600179164662603 tw6387112151670721652 tw17924986696141434077 tw15787574941984166731 tw13307757938915688303 tw7435992868813550732 tw4352796175878666739 tw10803854383018379531 tw2373395087275838805 tw15906290735172175627 tw11356168775795468756 tw4970666101520564021 tw3724404076617028118 tw2062782428464115113 tw13859643213707089617 tw2190490150322185832 tw2169100876697601458 tw17122858341630014092 tw10349374418107077261 tw7626622390731550250 tw13684705176797540493 tw11337692833766035678 tw9476311386682057165 tw5585577703888273227 tw5411651335144514890 tw4469485111141467117 tw16508990498320985286 tw2122068569823891081 tw17802108207190785761 tw15904431483708589788 tw9489444267355365845 tw7295801453181305250 tw5815303940806427543 tw18394104806757388937 tw15672301096546154904 tw18412581828761184828 tw17213443035944247181 tw11932437346506498183 tw11976144287972029437 tw8869755307290312635 tw2424953036950403897 tw17305273958117942736 tw12861552170814374194 tw8711170512751984838 tw6913179091976155373 tw2184869900214224996 tw1000910387931255670 tw9678727075217807011 tw10951487039004693159 tw784745160803679653 tw4406214206935927435 tw12944857311927807760 tw12591353881271036431 tw7580606521554081426 tw10095757295871329312 tw789437011906085751 tw203370250519917344 tw904154214431365800 tw16986847597439878914 tw6218873537078476563 tw5570216648701483918 tw8169360617103531296 tw7632617838784188511 tw14205423998694845346 tw14002890910748783713 tw338980566796581494 tw3895596040751768346 tw7772636049032586186 tw16463504829504410628 tw13612600579018947896 tw17935377520476544904 tw66348472725830695 tw4314929971945648062 tw3219081737999868734 tw3112346777930919804 tw9718493757383130171 tw8527760561474331633 tw5859814278309916043 tw16980989996954154546 tw12389733510267920153 tw5910080573501404361 tw18292621793906740503 tw1977360723423916379 tw9877450455688850202 tw935585438946976668 tw4643865340953852479 tw3991599868331386687 tw3842830442328675207 tw16528165235039172212 tw16030601842838871226 tw15303894038568725651 tw13935545814913835307 tw1367318462138466862 tw12207639801023775869 tw4629000367208300526 tw15556726556833437116 tw14758430941778390421 tw13205778722453085228 tw832471729508469585 tw8251561014298954463 tw8086918837876234576 tw638016727630167298 tw12792928542285189530 tw4900628101804344710 tw16739421606836592166 tw15017457354595317053 tw12872361674512487968 tw12409261483825090868 tw8307354350801215779 tw89796901488480104 tw624146181161793241 tw16625754121260683322 tw15346936026565569134 tw524103671443944395 tw13867250462705235556 tw11756022065184808843 tw3111168905386017782 tw7177134473762712620 tw7809526734274361788 tw17789180813562354752 tw9808500964013196834 tw602550856028798758 tw3448530029185695375 tw333952392781125225 tw2863308407171748816 tw2761065972876495338 tw17355613594676353976 tw16958663125896938983 tw16794896271198641655 tw11712539101417182249 tw11231383751287283273 tw1061644519583013638 tw961210561592894374 tw13298085046344570914 tw18254087892440449392 tw8022256987665268355 tw6211509017827696303 tw4114321137452897770 tw17981036511214400301 tw15611723364444098065 tw15083420594330439697 tw15024248626247861245 tw14623399026776248483 tw13515432898439420115 tw13218049833993629325 tw12775644408383712178 tw12294302346743059688 tw11334545241128903421 tw7049705281468243920 tw6536442212831652056 tw5868289545079102834 tw5805022694417120875 tw3960094644715328554 tw3846827800850514940 tw17489317284197017756 tw16214883619786401844 tw15447660185125099413 tw1522219668133709554 tw14189596267902146472 tw12317410274426460022 tw10944082388276229480 tw16229712268850658422 tw8373533569598489034 tw3946510685690857637 tw3690419699432168846 tw278747996900549187 tw15209033386338027023 tw12656545694435521793 tw12586218830756814451 tw11451078003246226349:True)
open PySem PySem.W PyProof.Rows
set_option tactic.hygienic true
set_option maxRecDepth 100000 in
set_option maxHeartbeats 0 in
theorem PySem.Challenge.cw_lampway_k43_worst_by_chains_holds : PySem.Challenge.rw_lampway_k43_worst_by_chains.Holds := by
 w_on;o_law;k_head;(case hw=>w_witness2)
 k_fill
 refine L2.akZ (l:=PySem.Challenge.rw_lampway_k43_worst_by_chains) (n:=63) (k:=21) (x := "_law_script") (CX:=L2.c9) (sp:=My.PW) rfl (by decide) rfl ⟨rfl,by decide,by decide⟩ (fun w h Y=>PySem.W.km_in_of Y) (fun w h Y=>PySem.W.km_tabs_of Y _ (List.Mem.head _)) (by intro p;kernel_rfl) ?F ?S ?C
 case F=>
  intro w mg gq h e8 G wQ aq;have T:∃ t,My.Txt w (L2.Hc e8) mg t/\aci (L2.Hc e8) t.yS (L2.U_ aq)=true:=by
   dsimp only [L2.Hc,L2.U_];refine' ⟨My.b6.mk,⟨⟨?mqaa,?Fqab,?mqac,?Fqad,?mqae,?Fqaf,?mqag,?Fqah,?mqai,?Fqaj,?mqak,?Fqal,?mqam,?Fqan,?mqao,?Fqap,?mqaq,?Fqar,?mqas,?Fqat⟩,⟨?mqau,?Fqav,?mqaw,?Fqax,?mqay,?Fqaz,?mqba,?Fqbb,?mqbc,?Fqbd,?mqbe,?Fqbf,?mqbg,?Fqbh,?mqbi,?Fqbj,?mqbk,?Fqbl,?mqbm,?Fqbn⟩,⟨?mqbo,?Fqbp,?mqbq,?Fqbr,?mqbs,?Fqbt,?mqbu,?Fqbv,?mqbw,?Fqbx,?mqby,?Fqbz,?mqca,?Fqcb,?mqcc,?Fqcd,?mqce,?Fqcf,?mqcg,?Fqch⟩,⟨?mqci,?Fqcj,?mqck,?Fqcl,?mqcm,?Fqcn,?mqco,?Fqcp,?mqcq,?Fqcr,?mqcs,?Fqct,?mqcu,?Fqcv,?mqcw,?Fqcx,?mqcy,?Fqcz,?mqda,?Fqdb⟩,⟨?mqdc,?Fqdd,?mqde,?Fqdf,?mqdg,?Fqdh,?mqdi,?Fqdj,?mqdk,?Fqdl,?mqdm,?Fqdn,?mqdo,?Fqdp,?mqdq,?Fqdr,?mqds,?Fqdt,?mqdu,?Fqdv⟩,⟨?mqdw,?Fqdx,?mqdy,?Fqdz,?mqea,?Fqeb,?mqec,?Fqed,?mqee,?eqef,?Fqeg,?mqeh,?eqei,?Fqej,?eqek,?Fqel,?eqem,?Fqen,?eqeo,?Fqep⟩,⟨?eqeq,?Fqer,?eqes,?Fqet,?eqeu,?Fqev,?mqew,?eqex,?Fqey,?mqez,?eqfa,?Fqfb,?mqfc,?eqfd,?Fqfe,?eqff,?Fqfg,?eqfh,?Fqfi,?mqfj⟩,⟨?eqfk,?Fqfl,?eqfm,?Fqfn,?eqfo,?Fqfp,?mqfq,?eqfr,?Fqfs,?eqft,?Fqfu,?eqfv,?Fqfw,?mqfx,?eqfy,?Fqfz,?eqga,?Fqgb,?eqgc,?Fqgd⟩,⟨?eqge,?Fqgf,?sqgg,?sqgh,?sqgi,?sqgj,?sqgk,?sqgl,?sqgm,?sqgn,?nqgo,?nqgp,?nqgq,?sqgr,?sqgs,?nqgt,?nqgu,?nqgv,?nqgw,?nqgx⟩,⟨?nqgy,?nqgz,?nqha,?sqhb,?sqhc,?sqhd,?sqhe,?sqhf,?nqhg,?nqhh,?nqhi,?nqhj,?nqhk,?nqhl,?nqhm,?sqhn,?sqho,?sqhp,?sqhq,?nqhr⟩,⟨?nqhs,?nqht,?nqhu,?nqhv,?nqhw,?nqhx,?sqhy,?sqhz,?sqia,?sqib,?nqic,?nqid,?nqie,?nqif,?nqig,?nqih,?nqii,?sqij,?sqik,?sqil⟩,⟨?sqim,?sqin,?nqio,?nqip,?nqiq,?mqir,?sqis,?xqit,?Xqiu,?nqiv,?rqiw,?rqix,?dqiy,?dqiz,?dqja,?sqjb,?mqjc,?vqjd,?mqje,?vqjf⟩,⟨?mqjg,?vqjh,?mqji,?vqjj,?mqjk,?vqjl,?mqjm,?vqjn,?mqjo,?vqjp,?mqjq,?vqjr,?mqjs,?vqjt,?mqju,?vqjv,?mqjw,?vqjx,?mqjy,?vqjz⟩,⟨?bqka,?bqkb,?bqkc,?bqkd,?bqke,?bqkf,?bqkg,?bqkh,?bqki,?bqkj,?bqkk,?bqkl,?cqkm,?lqkn⟩⟩,?zcc⟩
   case mqaa | mqac | mqae | mqag | mqai | mqak | mqam | mqao | mqaq | mqas | mqau | mqaw | mqay | mqba | mqbc | mqbe | mqbg | mqbi | mqbk | mqbm | mqbo | mqbq | mqbs | mqbu | mqbw | mqby | mqca | mqcc | mqce | mqcg | mqci | mqck | mqcm | mqco | mqcq | mqcs | mqcu | mqcw | mqcy | mqda | mqdc | mqde | mqdg | mqdi | mqdk | mqdm | mqdo | mqdq | mqds | mqdu | mqdw | mqdy | mqea | mqec | mqee | mqeh | mqew | mqez | mqfc | mqfj | mqfq | mqfx | mqir | mqjc | mqje | mqjg | mqji | mqjk | mqjm | mqjo | mqjq | mqjs | mqju | mqjw | mqjy=>(try dsimp only);refine' PySem.W.mg_of e8 G ?z;case z=>k_is
   case eqef | eqei | eqek | eqem | eqeo | eqeq | eqes | eqeu | eqex | eqfa | eqfd | eqff | eqfh | eqfk | eqfm | eqfo | eqfr | eqft | eqfv | eqfy | eqga | eqgc | eqge=>(try dsimp only);k_is
   case sqgg | sqgh | sqgi | sqgj | sqgk | sqgl | sqgm | sqgn | sqgr | sqgs | sqhb | sqhc | sqhd | sqhe | sqhf | sqhn | sqho | sqhp | sqhq | sqhy | sqhz | sqia | sqib | sqij | sqik | sqil | sqim | sqin | sqis | sqjb=>(try dsimp only);constructor <;> k_is
   case Fqab | Fqad | Fqaf | Fqah | Fqaj | Fqal | Fqan | Fqap | Fqar | Fqat | Fqav | Fqax | Fqaz | Fqbb | Fqbd | Fqbf | Fqbh | Fqbj | Fqbl | Fqbn | Fqbp | Fqbr | Fqbt | Fqbv | Fqbx | Fqbz | Fqcb | Fqcd | Fqcf | Fqch | Fqcj | Fqcl | Fqcn | Fqcp | Fqcr | Fqct | Fqcv | Fqcx | Fqcz | Fqdb | Fqdd | Fqdf | Fqdh | Fqdj | Fqdl | Fqdn | Fqdp | Fqdr | Fqdt | Fqdv | Fqdx | Fqdz | Fqeb | Fqed | Fqeg | Fqej | Fqel | Fqen | Fqep | Fqer | Fqet | Fqev | Fqey | Fqfb | Fqfe | Fqfg | Fqfi | Fqfl | Fqfn | Fqfp | Fqfs | Fqfu | Fqfw | Fqfz | Fqgb | Fqgd | Fqgf=>(try dsimp only);refine' L2.aky ?x ?y ?z;(case x=>k_is);(case y=>k_is);(case z=>k_is)
   case cqkm=>(try dsimp only);(try rfl)
   case nqgo | nqgp | nqgq | nqgt | nqgu | nqgv | nqgw | nqgx | nqgy | nqgz | nqha | nqhg | nqhh | nqhi | nqhj | nqhk | nqhl | nqhm | nqhr | nqhs | nqht | nqhu | nqhv | nqhw | nqhx | nqic | nqid | nqie | nqif | nqig | nqih | nqii | nqio | nqip | nqiq | nqiv=>(try dsimp only);unfold L2.dq;k_is
   case rqiw | rqix=>(try dsimp only);kernel_rfl
   case xqit=>(try dsimp only);refine' ⟨?_,by kernel_rfl,?_,?_,?_⟩ <;> k_is
   case Xqiu=>(try dsimp only);refine' L2.ahk ?x (by kernel_rfl) ?y;(case x=>k_is);(case y=>k_is)
   case dqiy | dqiz | dqja=>(try dsimp only);decide
   case vqjd | vqjf | vqjh | vqjj | vqjl | vqjn | vqjp | vqjr | vqjt | vqjv | vqjx | vqjz=>(try dsimp only);exact ⟨_,rfl⟩
   case bqka | bqkb | bqkc | bqkd | bqke | bqkf | bqkg | bqkh | bqki | bqkj | bqkk | bqkl=>(try dsimp only);refine' PySem.W.mg_none_of e8 G ?z;case z=>k_is
   case lqkn=>(try dsimp only);exact fun _ _=>.of_eq rfl
   case zcc=>(try dsimp only);kernel_rfl
  obtain ⟨t,T,tc⟩:=T;have fA:=wQ.symm.trans T.aiL;cases fA;exact ⟨t.Ah,t.yS,T.alE,tc,fun base aos nb cK iv=>My.XB T cK iv⟩
 case S=>exact fun K H a Pt ns aD mA ea=>⟨a,ns,rfl,L2.Sc.aeU mA ea,aD,⟨#[],mA.1,.inl rfl⟩,fun _=>rfl⟩
 case C=>exact fun _ _ _ _ z=>z
