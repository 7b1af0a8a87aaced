import PyProof.Rows.All
import Wide.All
import OpenK.AllK
import Wide.FinOn
import Lean
import PyProof.EqAt
import PyProof.EqKinds
import PyProof.TupleCall
import KE.KTryMore
import PyProof.NsDelKeeps
import PySem.Challenge.RW_lampway_k42_whole_nobody_waits_longer
set_option compiler.extract_closed false
set_option Elab.async false
set_option linter.all false
set_option autoImplicit true
set_option tactic.hygienic false
set_option genSizeOf false
set_option maxRecDepth 100000
local macro_rules | `(tactic| ac_nf)=>`(tactic| decide +kernel)
local macro_rules | `(tactic| omega)=>`(tactic| first | with_reducible assumption | omega (splitDisjunctions := true))
open Array renaming getElem?_eq_none→ZL,getElem?_toList→Z5,length_toList→EO,toList→acg,toList_append→o1,toList_inj→MH
open Bool renaming and_eq_true→iF,and_false→ajw,eq_iff_iff→l4,false_and→mv,false_eq_true→C3,false_ne_true→fB,false_or→mM,not_true→ac3,or_eq_false_iff→zp,or_eq_true→s_,or_false→Tp,or_true→aih,true_and→lU,true_or→te
open Char renaming toNat→xC
open Except renaming ok→rW
open False renaming elim→kH
open ForInStep renaming yield→xS
open Function renaming comp→adg
open Int renaming add_mul_emod_self_left→Bx,emod_eq_of_lt→m',emod_lt_of_pos→vo,emod_nonneg→uO,le_refl→rr,mul_lt_mul'→abA,mul_nonneg→acu,toNat_natCast→lI,toNat_of_nonneg→sg,zero_add→p8
open List renaming all_cons→adS,all_eq_true→sZ,any_cons→zf,any_eq_false→Vc,any_eq_true→qL,any_map→Tz,append_assoc→l7,append_nil→xy,cons_append→zq,contains_cons→afU,drop_eq_getElem_cons→tV,drop_length→wZ,drop_zero→aiz,exists_cons_of_ne_nil→sj,filterMap_cons→Mp,filter_congr→aho,filter_cons→ZN,filter_cons_of_neg→adf,filter_cons_of_pos→ahg,filter_eq_nil_iff→M',find?→YW,find?_cons→sN,find?_eq_none→agC,findSome?_cons→Le,findSome?_eq_none_iff→G7,flatMap_append→yM,flatMap_cons→xa,flatMap_nil→amS,flatten_append→acF,flatten_cons→vC,foldl_append→NI,getD→D8,getD_eq_getElem?_getD→jQ,getElem?_append_left→pe,getElem?_append_right→nz,getElem?_cons_succ→DN,getElem?_drop→J3,getElem?_eq_getElem→a',getElem?_eq_none→ae8,getElem?_eq_none_iff→Y',getElem?_eq_some_iff→b6,getElem?_map→df,getElem?_of_mem→hU,getElem?_range→BE,getElem?_set_ne→Su,getElem?_set_self→U',getElem?_take_of_lt→vZ,getElem_idxOf→amw,getElem_inj→ET,getElem_map→wR,getElem_mem→g6,getElem_of_mem→Dg,getLast?_append→aiA,getLast?_cons_cons→QP,getLast?_eq_getElem?→SD,head?_eq_none_iff→adM,idxOf_cons→akj,idxOf_lt_length_iff→WT,isEmpty_iff→N_,length→ra,length_append→cZ,length_cons→gy,length_drop→lB,length_filter_le→vk,length_map→aW,length_nil→y4,length_pos_iff→BX,length_pos_of_mem→alR,length_range→rY,length_singleton→pa,length_take→ha,lookup→pZ,lookup_cons→lu,map→n9,map_append→ed,map_congr_left→aai,map_cons→e8,map_drop→xq,map_eq_nil_iff→MT,map_map→qt,map_nil→pv,map_take→Mo,mem_append→eR,mem_append_left→LS,mem_append_right→lO,mem_cons→en,mem_cons_of_mem→ik,mem_cons_self→m3,mem_filter→jc,mem_filterMap→ajn,mem_flatten→KP,mem_iff_getElem→adG,mem_map→cc,mem_of_find?_eq_some→aer,mem_of_getElem?→b9,mem_of_mem_drop→M4,mem_of_mem_take→u7,mem_or_eq_of_mem_set→MC,mem_range→oF,mem_singleton→eY,nil_append→Lw,nodup_append→Ku,nodup_cons→tE,nodup_nil→RQ,not_mem_nil→oC,of_mem_zip→MG,pairwise_iff_getElem→ae2,pairwise_map→alx,perm_append_comm→ah2,perm_middle→alI,range→eV,range_succ→vL,replicate→R9,set_cons_succ→jJ,set_cons_zero→jM,size_toArray→ft,sublist_flatten_of_mem→ajg,sum_append→amE,sum_cons→yk,sum_nil→ajH,take_add_one→m7,take_append_drop→Sm,take_left→akT,take_length→il,take_of_length_le→I4,take_zero→tY
open List.Mem renaming head→ZJ
open List.Pairwise renaming filter→amZ,imp_of_mem→amJ,nil→apb
open List.Perm renaming append_left→agR
open List.cons renaming inj→q7
open Nat renaming add_comm→ak8,add_mod_right→afp,add_mul→aeO,add_sub_cancel→M5,le_add_right→BQ,le_of_eq→aeG,le_of_lt→mA,le_of_not_lt→abb,le_refl→bP,le_succ→DQ,le_trans→cL,log2_lt→alJ,lt_irrefl→oM,lt_of_le_of_lt→gD,lt_of_lt_of_le→h_,lt_succ_self→uy,lt_trans→N1,lt_trichotomy→abP,min_eq_left→CQ,mod_eq_of_lt→AK,mul_le_mul_right→Wb,mul_pos→alo,ne_of_gt→Bi,ne_of_lt→f7,reduceAdd→akI,reduceSub→aeS,sub_self→Q4,succ_mul→xD,toDigits→u2,zero_le→fh
open Ne renaming symm→eb
open Option renaming bind_some→yt,getD_none→ajR,isSome_iff_exists→amC,isSome_map→Yx,map_eq_some_iff→yR,map_some→Bl,none→vB,toList→uE
open Option.some renaming inj→eE
open Or renaming inl→oQ,inr→mb
open Prod.mk renaming inj→Qq
open PyProof.Rows renaming callWith_builtin1→aph,callWith_type1→Ed,iadd_int→ao8,slot_tuple_getitem→QQ,split_weight→aav
open PySem renaming Within→V3,call→amB,mem_of_lookup→vG
open PySem.Around renaming frames_deeper→akR,under→Nc,under_plainId→xw
open PySem.Builtin.Builtins renaming bindParams→Jl
open PySem.Builtin.Dict renaming dictSlotNone→apc,showsAll→Y8
open PySem.Builtin.Dict_items renaming ownsTuple→acC
open PySem.Builtin.List renaming listTooLong→Oj
open PySem.Builtin.Range renaming rangeSize→aoP
open PySem.Builtin.Slice renaming sliceAdjust→Uy,sliceApplied→abL,sliceFields→anx,slicePartIndex→ao4,slicePlaces→L9
open PySem.Builtin.Str renaming occurrences→tS,partsBetween→ads,strKind→YG
open PySem.Builtin.Tuple renaming tupleExact→Ip,tupleItemsOf→anq
open PySem.Calls renaming Name_function_global→ahX,callWith_builtin→aiw,evalArgs_plain→aiZ,spliced_cons→Oh,spliced_nil→adX
open PySem.CmpOp renaming NotIn→WK
open PySem.Code renaming frames→Xs,isFrame→WB
open PySem.Data renaming cell→Ei,fields→VF
open PySem.EqMixed renaming eq_bool_str→aoq,eq_int_str→ans,eq_str_bool→aon,eq_str_int→ape,ne_bool_str→anY,ne_int_str→ang,ne_str_bool→am6,ne_str_int→anb
open PySem.EqNone renaming eq_bool_none→ao0,eq_int_none→aoX,eq_none_bool→am7,eq_none_int→am4,eq_none_none→ao',eq_none_str→aoM,eq_str_none→an4,ne_bool_none→anN,ne_int_none→am8,ne_none_bool→aor,ne_none_int→apd,ne_none_none→aox,ne_none_str→am2,ne_str_none→am1
open PySem.F renaming args_dict_keyiterator_next_1→afT,args_dict_pop_3→agl,args_str_split_2→V8,entry_dict_keyiterator_next→ajf,entry_dict_pop→amR,entry_max_loop→Nq,entry_min_loop→T2,entry_str_split→Sz,plainAttrs_list→f6,plainAttrs_str→vt,plain_max_loop→uR,plain_min_loop→uI,slot_dict_getitem→aiu,slot_dict_iter→ajk,slot_dict_keyiterator_next→C9,slot_dict_pop→Nz,slot_list_append→kr,slot_list_extend→qC,slot_list_index→SY,slot_list_insert→FO,slot_str_join→AI,slot_str_split→z8,type_list_append→kz,type_list_extend→rK,type_list_index→acZ,type_list_insert→PC,type_str_join→Az,type_str_split→ag2
open PySem.Heap renaming SameBut→ux,get?_push_of_some→eJ,get?_push_size→gV,get?_update_other→pP,lt_size→d8,size_push→Oe
open PySem.Heap.IsSliceOf renaming new→apa
open PySem.Heap.SameBut renaming update→aeg
open PySem.NameKind renaming cell→PJ,free→ru
open PySem.NumText renaming digitsVal→V1
open PySem.Obj renaming data_mapFields→aa6,mapFields→aiE,mapSeq→qU
open PySem.Paired renaming length→Jd,snoc→PD
open PySem.PassesOwn renaming never→fF
open PySem.SeqAt renaming EqAt→ahs
open PySem.SeqAt.EqAt renaming int_str→aeK,str_int→ajs
open PySem.Str renaming cps_append→pd,join→d7,length→uQ,ofString→ae
open PySem.StrLaws renaming glued_eq_join→zd,sliceText→uG
open PySem.Txt renaming join→qr,slice→mx,slice_le→um,split→iQ
open PySem.Value renaming bool→k7,bytes→ajt,float→Yf,int→oY,isInt→adx,isStrOf→aeB,none→sY,ref→fW,str→yu,type→agb
open PySem.W renaming CodeHd→mf,Frag→bk,callWith_K→E1,callWith_K0→adK,cellsFrom_some→Z8,clsIn→aim,codeHdIn→EN,codeHd_of_K→amu,codeIn→Qf,emptyDict→sb,envX→II,findCls→aaI,findIn→dK,fnOf→x_,handedIn→acS,hasDictIn→z6,instObj→t7,isFn→U5,keepIn→tl,kla_fn→TS,kla_obj→yi,km_tabs_of→amk,lookIn→IJ,makesIn→Y_,methodCall_KW→Kz,methodObj→Wn,mroIn→Ft,noTabs→aj2,plainGet→Kk,plainGet_of→UC,plainOver→ab4,readsIn→ZZ,specialIn→u',tabObj→K7,takerIn→VZ,takesIn→GK,typeIn→XP
open PySem.W.KIN renaming signs_num→adt
open PySem.W.Looks renaming here→aoK
open PySem.W.WData renaming int→abw
open PySem.W.WShape renaming has→ZC
open PySem.Walks renaming list→tL
open PySem.Within renaming cons→anv
open Sum renaming inl→r3,inr→cy
open Sum.inr renaming inj→t5
open True renaming intro→lQ
namespace L2
open PySem PySem.Spec PyProof.Rows
noncomputable abbrev Key:=Sum Int Str
noncomputable def vA:Key->Value->Bool
 | .inl k,v=>adx k v
 | .inr x,v=>aeB x v
noncomputable def ama (w:World):Key->Int
 | .inl k=>hashInt k
 | .inr x=>hashStr w x
theorem pb:∀ {k:Key} {v:Value},vA k v=true->(∃ i t,k=r3 i/\v=oY i t)\/(∃ x t,k=cy x/\v=yu x t)
 | .inl i,v,h=>by
  obtain ⟨t,e⟩:=Value.isInt_shape (k:=i) (v:=v) h;exact .inl ⟨i,t,rfl,e⟩
 | .inr x,v,h=>by
  obtain ⟨t,e⟩:=Value.isStrOf_shape (x:=x) (v:=v) h;exact .inr ⟨x,t,rfl,e⟩
theorem ajy (i:Int) (t:Tok):vA (.inl i) (.int i t)=true:=by simp [vA,adx]
theorem Yi (x:Str) (t:Tok):vA (.inr x) (.str x t)=true:=by simp [vA,aeB]
theorem ahu (a b:Int):decide ((r3 a:Key)=r3 b)=(a == b):=by
 by_cases e:a=b
 .subst e;simp
 .have h:¬ (r3 a:Key)=r3 b:=fun q=>e (Sum.inl.inj q)
  rw [decide_eq_false h];exact (beq_eq_false_iff_ne.mpr e).symm
theorem aab (a b:Str):decide ((cy a:Key)=cy b)=decide (a=b):=by
 by_cases e:a=b
 .subst e;simp
 .have h:¬ (cy a:Key)=cy b:=fun q=>e (t5 q)
  rw [decide_eq_false h,decide_eq_false e]
theorem akw (a:Int) (b:Str):decide ((r3 a:Key)=cy b)=false:=decide_eq_false (fun q=>nomatch q)
theorem alB (a:Str) (b:Int):decide ((cy a:Key)=r3 b)=false:=decide_eq_false (fun q=>nomatch q)
noncomputable def iu (prog:Program) (w:World):PySem.KeyKind prog w Key where
 is:=vA
 hash:=ama w
 inj:=fun v a b aP aa=>by
  rcases pb aP with ⟨i,t,rfl,rfl⟩ | ⟨x,t,rfl,rfl⟩
  .rcases pb aa with ⟨j,u,rfl,e⟩ | ⟨y,u,rfl,e⟩
   .injection e with aq _;rw [aq]
   .exact nomatch e
  .rcases pb aa with ⟨j,u,rfl,e⟩ | ⟨y,u,rfl,e⟩
   .exact nomatch e
   .injection e with aq _;rw [aq]
 byValue:=fun k v h=>by
  rcases pb h with ⟨i,t,rfl,rfl⟩ | ⟨x,t,rfl,rfl⟩ <;> rfl
 pyHash:=fun aF h=>by
  rcases pb aF with ⟨i,t,rfl,rfl⟩ | ⟨x,t,rfl,rfl⟩
  .exact wpAny_pyHash_int h
  .exact wpAny_pyHash_str h
 eqBool:=fun bY aF h=>by
  rcases pb bY with ⟨i,t,rfl,rfl⟩ | ⟨x,t,rfl,rfl⟩
  .rcases pb aF with ⟨j,u,rfl,rfl⟩ | ⟨y,u,rfl,rfl⟩
   .rw [ahu] at h;exact wpAny_eqBool_int h
   .rw [akw] at h;exact aeK i t y u _ _ _ _ h
  .rcases pb aF with ⟨j,u,rfl,rfl⟩ | ⟨y,u,rfl,rfl⟩
   .rw [alB] at h;exact ajs x t j u _ _ _ _ h
   .rw [aab] at h;exact wpAny_eqBool_str h
 «strs»:=fun k x t v h=>by
  rcases pb h with ⟨i,u,rfl,e⟩ | ⟨y,u,rfl,e⟩
  .exact nomatch e
  .injection e with aq _;subst aq;cases v <;> rfl
theorem aeJ (prog:Program) (w:World) (i:Int) (t:Tok):(iu prog w).is (.inl i) (.int i t)=true:=ajy i t
theorem aeT (prog:Program) (w:World) (x:Str) (t:Tok):(iu prog w).is (.inr x) (.str x t)=true:=Yi x t
inductive V where
 | cn | bo (b:Bool) | int (i:Int) | str (x:Str) | l6 (b:Array UInt8) | vQ (b:UInt64) | ref (a:Addr) | ty (n:String)
 deriving DecidableEq
noncomputable def bX:V->Value->Prop
 | .cn,u=>u=sY
 | .bo b,u=>u=k7 b
 | .int i,u=>∃ t,u=oY i t
 | .str x,u=>∃ t,u=yu x t
 | .l6 b,u=>∃ t,u=ajt b t
 | .vQ b,u=>∃ t,u=Yf b t
 | .ref a,u=>u=fW a
 | .ty n,u=>u=agb n
noncomputable abbrev cQ:List V->List Value->Prop:=Paired bX
theorem cQ.length (r:cQ xs us):xs.length=us.length:=Jd r
theorem cQ.get:∀ {xs:List V} {us:List Value} {i:Nat} {x:V},cQ xs us->xs[i]? = some x->∃ u,us[i]? = some u/\bX x u
 | _,_,_,_,.nil,e=>by simp at e
 | _,_,0,_,.cons r _,e=>by simp at e;subst e;exact ⟨_,rfl,r⟩
 | _,_,i + 1,x,.cons _ t,e=>by
  obtain ⟨u,af,ak⟩:=cQ.get (i:=i) (x:=x) t (by simpa using e);exact ⟨u,by simpa using af,ak⟩
theorem cQ.append:∀ {xs ys:List V} {us ws:List Value},cQ xs us->cQ ys ws->cQ (xs ++ ys) (us ++ ws)
 | _,_,_,_,.nil,s=>s
 | _,_,_,_,.cons r t,s=>.cons r (cQ.append t s)
theorem cQ.take:∀ {xs:List V} {us:List Value} (n:Nat),cQ xs us->cQ (xs.take n) (us.take n)
 | _,_,0,_=>.nil
 | _,_,_ + 1,.nil=>.nil
 | _,_,n + 1,.cons r t=>.cons r (cQ.take n t)
theorem cQ.drop:∀ {xs:List V} {us:List Value} (n:Nat),cQ xs us->cQ (xs.drop n) (us.drop n)
 | _,_,0,r=>r
 | _,_,_ + 1,.nil=>.nil
 | _,_,n + 1,.cons _ t=>cQ.drop n t
noncomputable def je:Option V->Option Value->Prop
 | some v,some u=>bX v u
 | none,none=>True
 | _,_=>False
noncomputable def e9 {eQ:Type}:List (eQ × V)->List (eQ × Value)->Prop:=Paired fun (p:eQ × V) (q:eQ × Value)=>p.1=q.1/\bX p.2 q.2
noncomputable def dQ:Key->V
 | .inl i=>.int i
 | .inr x=>.str x
inductive fX where
  | lst (xs:List V)
  | tup (xs:List V)
  | bW (kvs:List (Key × V)) | gu (kvs:List (List Key × V))
  | set (S:Int->Bool) (n:Nat)
  | ins (C az:Addr) (a3:List (Str × V))
  | own (x:Addr)
  | Ao (a3:List (Str × V))
  | met (f x:Addr)
  | z2 (lo ai:Int)
  | e2 (o:Obj) (u:fX)
  | hC (ps:Array Value)
  | ext (uc:Heap->Prop)
noncomputable abbrev aw:=Addr->Option fX
noncomputable def upd (H:aw) (a:Addr) (o:fX):aw:=fun b=>if b=a then some o else H b
theorem aQ:upd H a o a=some o:=by unfold upd;rw [if_pos rfl]
theorem aM (h:b ≠ a):upd H a o b=H b:=by unfold upd;rw [if_neg h]
theorem s7:upd (upd H a o) a u=upd H a u:=by
 funext b;unfold upd;split <;> rfl
theorem cx {H:aw} {a b:Addr} {o u:fX} (h:H a=some o) (h':H b=some u) (d:o ≠ u):a ≠ b:=by
 intro e;subst e;rw [h] at h';exact d (eE h')
theorem dm {H:aw} {a b:Addr} {o:fX} (h:H a=some o) (h':H b=none):a ≠ b:=by
 intro e;subst e;rw [h] at h';cases h'
section
variable (P:Program) (w:World)
noncomputable def fC (H:aw) (h:Heap) (a:Addr):fX->Prop
 | .lst xs=>xs.length <= sizeLine/\∃ (a7:List Value) (n:Nat),cQ xs a7/\h.get? a=some { cls:=.type "list",data:=.seq a7.toArray n }
 | .tup xs=>(xs.length <= sizeLine/\∃ cV,h.get? a=some cV/\cV.dict=none)/\∃ a7:List Value,cQ xs a7/\IsTup h a a7.toArray
 | .bW kvs=>kvs.length <= sizeLine/\(a == sysModules)=false/\∃ vs,e9 kvs vs/\h.DictOf (iu P w) a vs
 | .gu kvs=>kvs.length <= sizeLine/\(a == sysModules)=false/\∃ xs:List (List Key × Addr × Value),
   Paired (fun (p:List Key × V) (q:List Key × Addr × Value)=>p.1=q.1/\H q.2.1=some (.tup (p.1.map dQ))/\bX p.2 q.2.2) kvs xs /\
   ∃ o aU ct,h.get? a=some o/\o.ExactDict/\o.data=.dict aU ct/\aU.toList=xs.map (entryOfKey (tupleKind (iu P w)))/\(xs.map (·.1)).Nodup
 | .set S n=>h.SetOf (intKind P w) a S n
 | .ins C az a3=>H az=some (.own a)/\a3.length <= 1000/\az ≠ a/\h.get? a=some (t7 C az) /\
   ∃ eT,h.Ns1 az eT/\(∀ f,je (a3.lookup f) (eT f))/\V3 eT (a3.map (·.1))
 | .own _=>∃ o,h.get? a=some o
 | .Ao a3=>∃ eT,h.Ns1 a eT/\∀ f,je (a3.lookup f) (eT f)
 | .z2 lo ai=>∃ t u v,h.get? a=some { cls:=.type "range",data:=.fields #[.int lo t,.int ai u,.int 1 v] }
 | .e2 o u=>h.get? a=some o/\fC H h a u
 | .hC ps=>h.get? a=some { cls:=.none,data:=.fields ps }
 | .met f x=>h.get? a=some (Wn (.ref f) (.ref x))
 | .ext uc=>uc h/\(∃ o,h.get? a=some o)/\∀ af ak:Heap,uc af->(∀ o,af.get? a=some o->ak.get? a=some o)->uc ak
def fb (H:aw) (h:Heap):Prop:=∀ a o,H a=some o->fC P w H h a o
end
section
variable {P:Program} {w:World} {H I:aw} {h h':Heap} {a:Addr} {o:fX}
theorem fC.lt (x:fC P w H h a o):a < h.objs.size:=by
 cases o with
 | lst xs=>obtain ⟨_,_,_,_,e⟩:=x;exact d8 e
 | tup xs=>obtain ⟨_,_,_,p⟩:=x;exact p.lt
 | bW kvs=>obtain ⟨_,_,_,_,o,_,_,e,_⟩:=x;exact d8 e
 | gu kvs=>obtain ⟨_,_,_,_,o,_,_,e,_⟩:=x;exact d8 e
 | set S n=>obtain ⟨o,_,_,_,e,_⟩:=x;exact d8 e
 | ins C az a3=>obtain ⟨_,_,_,e,_⟩:=x;exact d8 e
 | own y=>obtain ⟨_,e⟩:=x;exact d8 e
 | Ao a3=>obtain ⟨_,⟨_,_,_,e,_⟩,_⟩:=x;exact d8 e
 | z2 lo ai=>obtain ⟨_,_,_,e⟩:=x;exact d8 e
 | e2 cV u=>obtain ⟨e,_⟩:=x;exact d8 e
 | hC ps=>exact d8 (show h.get? a=some _ from x)
 | met f y=>exact d8 (show h.get? a=some _ from x)
 | ext uc=>obtain ⟨_,⟨_,e⟩,_⟩:=x;exact d8 e
theorem Paired.q6:∀ {l₁:List α} {l₂:List β},Paired F l₁ l₂->(∀ a b,F a b->G a b)->Paired G l₁ l₂
 | _,_,.nil,_=>.nil
 | _,_,.cons r t,f=>.cons (f _ _ r) (Paired.q6 t f)
theorem fC.nO (x:fC P w H h a o) (k:∀ b u,(b=a\/H b=some (.own a))->h.get? b=some u->h'.get? b=some u)
  (aS:∀ b,H b=some (.own a)->I b=some (.own a)) (cR:∀ b xs,H b=some (.tup xs)->I b=some (.tup xs)):fC P w I h' a o:=by
 induction o with
 | lst xs=>obtain ⟨z,a7,n,r,e⟩:=x;exact ⟨z,a7,n,r,k _ _ (.inl rfl) e⟩
 | tup xs=>obtain ⟨⟨z,aaU,KR,O7⟩,a7,r,cV,e,c⟩:=x;exact ⟨⟨z,aaU,k _ _ (.inl rfl) KR,O7⟩,a7,r,cV,k _ _ (.inl rfl) e,c⟩
 | bW kvs=>obtain ⟨z,y,vs,r,cV,aU,ct,e,c⟩:=x;exact ⟨z,y,vs,r,cV,aU,ct,k _ _ (.inl rfl) e,c⟩
 | gu kvs=>
  obtain ⟨z,y,xs,r,cV,aU,ct,e,c⟩:=x;exact ⟨z,y,xs,Paired.q6 r fun p q z=>⟨z.1,cR _ _ z.2.1,z.2.2⟩,cV,aU,ct,k _ _ (.inl rfl) e,c⟩
 | set S n=>obtain ⟨cV,aU,ct,t,e,c⟩:=x;exact ⟨cV,aU,ct,t,k _ _ (.inl rfl) e,c⟩
 | ins C az a3=>
  obtain ⟨d,z,ne,e,eT,⟨fi,aU,ct,aH,c⟩,r⟩:=x;exact ⟨aS _ d,z,ne,k _ _ (.inl rfl) e,eT,⟨fi,aU,ct,k _ _ (.inr d) aH,c⟩,r⟩
 | own y=>obtain ⟨cV,e⟩:=x;exact ⟨cV,k _ _ (.inl rfl) e⟩
 | Ao a3=>obtain ⟨eT,⟨fi,aU,ct,e,c⟩,r⟩:=x;exact ⟨eT,⟨fi,aU,ct,k _ _ (.inl rfl) e,c⟩,r⟩
 | z2 lo ai=>obtain ⟨t,u,v,e⟩:=x;exact ⟨t,u,v,k _ _ (.inl rfl) e⟩
 | e2 cV u cS=>obtain ⟨e,q⟩:=x;exact ⟨k _ _ (.inl rfl) e,cS q⟩
 | hC ps=>
  have e:h.get? a=some { cls:=.none,data:=.fields ps }:=x;show h'.get? a=some { cls:=.none,data:=.fields ps };exact k a _ (.inl rfl) e
 | met f y=>
  have e:h.get? a=some (Wn (.ref f) (.ref y)):=x;show h'.get? a=some (Wn (.ref f) (.ref y));exact k a _ (.inl rfl) e
 | ext uc=>obtain ⟨p,⟨o,e⟩,st⟩:=x;exact ⟨st _ _ p fun o q=>k _ _ (.inl rfl) q,⟨o,k _ _ (.inl rfl) e⟩,st⟩
theorem fb.lt (x:fb P w H h) (e:H a=some o):a < h.objs.size:=(x a o e).lt
theorem fb.fresh (x:fb P w H h) (e:h.objs.size <= a):H a=none:=by
 cases q:H a with
 | none=>rfl
 | some u=>exact absurd (h_ (x.lt q) e) (oM _)
theorem fb.kept (x:fb P w H h) (k:∀ b u,h.get? b=some u->h'.get? b=some u):fb P w H h':=fun a o e=>
 (x a o e).nO (fun b u _ q=>k b u q) (fun _ q=>q) fun _ _ q=>q
theorem fb.laid (x:fb P w H h) (k:∀ b u,h.get? b=some u->h'.get? b=some u) (ar:h.objs.size <= a) (new:fC P w (upd H a o) h' a o):fb P w (upd H a o) h':=fun b u e=>by
 have aX:=x.fresh ar;by_cases aa:b=a
 .subst aa;rw [aQ] at e;cases e;exact new
 .rw [aM aa] at e;exact (x b u e).nO (fun c v _ q=>k c v q) (fun c q=>by rw [aM (dm q aX)];exact q) fun c xs q=>by rw [aM (dm q aX)];exact q
end
def lD (H:aw) (a:Addr) (u:fX):Prop:=H a=some u\/∃ o,H a=some (.e2 o u)
theorem lD.ok {w:World} {h:Heap} (r:lD H a u) (x:fb P w H h):fC P w H h a u:=by
 rcases r with r | ⟨o,r⟩
 .exact x a u r
 .obtain ⟨_,q⟩:=x a _ r;exact q
noncomputable def tX:Option fX->Prop
 | some (.lst _)=>True
 | some (.bW _)=>True
 | some (.gu _)=>True
 | some (.set _ _)=>True
 | some (.ins _ _ _)=>True
 | some (.ext _)=>True
 | _=>False
section
variable {P:Program} {w:World} {H:aw} {h h':Heap} {x e:Addr} {d6:fX}
theorem fb.write (ok:fb P w H h) (j8:tX (H x)) (he:e=x\/H e=some (.own x)) (k:∀ b u,b ≠ e->h.get? b=some u->h'.get? b=some u) (vi:∃ u,h'.get? e=some u)
  (new:fC P w (upd H x d6) h' x d6):fb P w (upd H x d6) h':=fun b u q=>by
 have Rm:∀ c y,H c=some (.own y)->c ≠ x:=fun c y r z=>by subst z;rw [r] at j8;exact j8
 have aiD:∀ c xs,H c=some (.tup xs)->c ≠ x:=fun c xs r z=>by subst z;rw [r] at j8;exact j8
 by_cases aa:b=x
 .subst aa;rw [aQ] at q;cases q;exact new
 .rw [aM aa] at q;by_cases sT:b=e
  .have dB:H b=some (.own x):=by
    rcases he with z | z
    .exact absurd (sT.trans z) aa
    .rw [sT];exact z
   rw [q] at dB;cases dB;obtain ⟨v,aF⟩:=vi;exact ⟨v,by rw [sT];exact aF⟩
  .refine (ok b u q).nO (fun c v aB r=>k c v ?_ r) (fun c r=>by rw [aM (Rm c b r)];exact r) fun c xs r=>by rw [aM (aiD c xs r)];exact r
   rcases aB with rfl | aB
   .exact sT
   .rintro rfl;rcases he with z | z
    .exact Rm c b aB z
    .rw [aB] at z;cases z;exact aa rfl
end
structure hb (a3 ex:List Addr) (H I:aw) (h h':Heap):Prop where
 keep:∀ b o,h.get? b=some o->H b=none->b ∉ a3->b ∉ ex->h'.get? b=some o
 slot:∀ b o,h.get? b=some o->H b=none->b ∈ a3->b ∉ ex->∃ cE,h'.get? b=some { o with slots:=cE }
 free:∀ b o,h.get? b=some o->H b=none->b ∉ ex->I b=none
 there:∀ b o,h.get? b=some o->b ∉ ex->∃ d6,h'.get? b=some d6
 qG:∀ b xs,H b=some (.tup xs)->I b=some (.tup xs)
 mS:∀ b o u,H b=some (.e2 o u)->I b=some (.e2 o u)
 pO:∀ b ps,H b=some (.hC ps)->∃ more,I b=some (.hC (ps ++ more))
section
variable {a3 o7 ex anT:List Addr} {H H1 av:aw} {h af ak h':Heap} {a x e:Addr} {o:fX}
theorem hb.any (u:hb a3 ex H H1 h af) (q:h.get? b=some cV) (n:H b=none) (ah:b ∉ ex):∃ cE,af.get? b=some { cV with slots:=cE }:=by
 by_cases aa:b ∈ a3
 .exact u.slot b cV q n aa ah
 .exact ⟨cV.slots,u.keep b cV q n aa ah⟩
theorem hb.kept (k:∀ b u,h.get? b=some u->h'.get? b=some u):hb a3 ex H H h h':=
 ⟨fun b cV q _ _ _=>k b cV q,fun b cV q _ _ _=>⟨cV.slots,k b cV q⟩,fun _ _ _ n _=>n,fun b cV q _=>⟨cV,k b cV q⟩,fun _ _ q=>q,fun _ _ _ q=>q,fun _ ps q=>⟨#[],by rw [q];simp⟩⟩
theorem hb.refl:hb a3 ex H H h h:=hb.kept fun _ _ q=>q
theorem hb.laid (k:∀ b u,h.get? b=some u->h'.get? b=some u) (ar:h.objs.size <= a) (aX:H a=none):hb a3 ex H (upd H a o) h h' where
 keep:=fun b u q _ _ _=>k b u q
 slot:=fun b u q _ _ _=>⟨u.slots,k b u q⟩
 free:=fun b u q n _=>by rw [aM (f7 (h_ (d8 q) ar))];exact n
 there:=fun b u q _=>⟨u,k b u q⟩
 qG:=fun b xs q=>by rw [aM (dm q aX)];exact q
 mS:=fun b u xs q=>by rw [aM (dm q aX)];exact q
 pO:=fun b ps q=>⟨#[],by rw [aM (dm q aX),q];simp⟩
theorem hb.write (j8:tX (H x)) (he:e=x\/H e=some (.own x)) (k:∀ b u,b ≠ e->h.get? b=some u->h'.get? b=some u) (vi:∃ u,h'.get? e=some u):hb a3 ex H (upd H x o) h h':=by
 have ah:∀ b,H b=none->b ≠ x:=fun b n z=>by subst z;rw [n] at j8;exact j8
 have aa:∀ b,H b=none->b ≠ e:=fun b n z=>by
  subst z;rcases he with r | r
  .exact ah b n r
  .rw [n] at r;cases r
 have hm:∀ b u,H b=some u->¬ tX (some u)->b ≠ x:=fun b u q nm z=>by subst z;rw [q] at j8;exact nm j8
 refine ⟨fun b u q n _ _=>k b u (aa b n) q,fun b u q n _ _=>⟨u.slots,k b u (aa b n) q⟩,fun b u q n _=>by rw [aM (ah b n)];exact n,fun b u q _=>?_,
  fun b xs q=>by rw [aM (hm b _ q fun z=>z)];exact q,fun b u xs q=>by rw [aM (hm b _ q fun z=>z)];exact q,fun b ps q=>⟨#[],by rw [aM (hm b _ q fun z=>z),q];simp⟩⟩
 by_cases sT:b=e
 .subst sT;exact vi
 .exact ⟨u,k b u sT q⟩
end
noncomputable def Ae (h:Heap) (H:aw):List Addr:=(eV h.objs.size).filter fun a=>(H a).isSome
noncomputable def ox (h:Heap) (H:aw):Heap:=PySem.W.hideAll h (Ae h H)
theorem aju (h:Heap) (H:aw):(ox h H).objs.size=h.objs.size:=PySem.W.hideAll_size _ _
theorem HC {h:Heap} (e:h.get? b=some o) (n:H b=none):(ox h H).get? b=some o:=
 PySem.W.hideAll_get _ e fun hm=>by
  have q:(H b).isSome=true:=(jc.mp hm).2;rw [n] at q;simp at q
theorem ajU {h:Heap} (e:(ox h H).get? b=some o):h.get? b=some o/\H b=none:=by
 have bH:h.get? b=some o:=PySem.W.of_hideAll (Ae h H) e;refine ⟨bH,?_⟩;cases q:H b with
 | none=>rfl
 | some x=>
  have hm:b ∈ Ae h H:=jc.mpr ⟨oF.mpr (d8 bH),by simp [q]⟩;have z:(ox h H).get? b=none:=PySem.W.hideAll_none (Ae h H) hm;rw [z] at e;cases e
noncomputable def abG (g h:Heap) (L:Addr):List (Addr × Obj):=(eV h.objs.size).filterMap fun a=>if a=L\/(g.get? a).isSome=true then none else (h.get? a).map fun o=>(a,o)
noncomputable def lC (g h:Heap) (L d:Addr):List (Addr × Obj):=(abG g h L).filter fun p=>decide (p.1 ≠ d)
structure Mod (K:bk) (mg:Str->Option Value) (base:Heap):Prop where
 uT:K.In base
 glob:base.Ns mainGlobals mg
 blt:∃ ny,base.Ns builtinsNs ny/\∀ x:Str,x ≠ "__name__" -> ny x=bootBuiltins x
 nolimit:base.NoLimit
structure bb where
 prog:Program
 w:World
 K:bk
 mg:Str->Option Value
 base:Heap
 A:Around
 N:List Str
 fQ:Shared
 r1:aw
 env:Env
 outer:List Env
 stack:List Env
 ex:List Addr
 fn:Str->Bool
 calm:Bool
 eL:List (Addr × Obj)
 d2:Value->Shared->Prop
noncomputable def nf (l:List Env):List Addr:=l.filterMap (·.frame)
noncomputable abbrev bb.a3 (X:bb):List Addr:=nf X.outer
def DE (sc:Scope) (x:Str):Prop:=sc.names.lookup x=some .local\/sc.names.lookup x=some .cell\/sc.names.lookup x=some .free
def Loc (sc:Scope) (x:Str):Prop:=sc.names.lookup x=some .local\/sc.names.lookup x=some .cell
def al1 (env:Env) (h:Heap) (m:Str->Option Value) (x:Str) (u:Value):Prop:=
 (env.kindOf x=some .local/\m x=some u)\/((env.kindOf x=some .cell\/env.kindOf x=some .free)/\∃ c,env.cells.lookup x=some c/\h.IsCell c (some u))
structure bb.Ok (X:bb):Prop where
 mod:Mod X.K X.mg X.base
 kind:X.env.scope.kind=.function
 glob:X.env.globals=mainGlobals
 blt:X.env.builtins=builtinsNs
 above:X.fQ.heap.objs.size <= X.env.locals
 inj:∀ x y c,X.env.cells.lookup x=some c->X.env.cells.lookup y=some c->x=y
 has:∀ x,(X.env.kindOf x=some .cell\/X.env.kindOf x=some .free)->∃ c,X.env.cells.lookup x=some c
 ub:∀ x c,X.fn x=true->X.env.cells.lookup x=some c->X.fQ.heap.objs.size <= c
 hd:X.calm=true->X.A.handled=none
 frames:X.A.frames=some X.stack
 wo:X.stack=X.outer\/(X.stack=X.env :: X.outer/\X.env.frame=some X.env.locals)
 Ju:∀ b ∈ X.ex,b ≠ X.env.locals/\∀ x c,X.env.cells.lookup x=some c->c ≠ b
 bs:∀ b o,X.base.get? b=some o->X.fQ.heap.get? b=some o/\X.r1 b=none
 nA:X.base.objs.size <= X.fQ.heap.objs.size
 vw:∀ b o,X.base.get? b=some o->b ∉ X.ex
 vK:∀ b ∈ X.ex,b ∉ X.a3
 mI:X.fQ.heap.FunFrames X.base X.outer
 rP:∀ b ∈ X.a3,X.r1 b=none
structure Inv (X:bb) (ab:List (Addr × Obj)) (σ:List (Option V)) (H:aw) (s:Shared):Prop where
 ok:X.Ok
 os:s.os=X.fQ.os
 bare:AllBare s.gens
 base:hb X.a3 X.ex X.r1 H X.fQ.heap s.heap
 loc:∃ m,s.heap.Ns X.env.locals m/\∀ (i:Nat) (x:Str) (v:V),X.N[i]? = some x->σ[i]? = some (some v)->DE X.env.scope x->∃ u,bX v u/\al1 X.env s.heap m x u
 cell:∀ x c,X.env.cells.lookup x=some c->∃ v,s.heap.IsCell c v
 free:H X.env.locals=none
 j1:∀ x c,X.env.cells.lookup x=some c->H c=none
 pin:∀ p ∈ X.eL ++ ab,s.heap.get? p.1=some p.2/\H p.1=none/\p.1 ≠ X.env.locals/\p.1 ∉ X.a3/\∀ v,p.2.data ≠ .cell v
 bu:fb X.prog X.w H s.heap
 len:σ.length=X.N.length
section
variable {X:bb} {ab:List (Addr × Obj)} {σ:List (Option V)} {H I:aw} {s:Shared} {h':Heap}
theorem bb.Ok.VS (ok:X.Ok) (e:X.base.get? b=some o):b ∉ X.a3:=fun aa=>by
 have:=(ok.mI.mem aa).1;rw [e] at this;cases this
theorem Inv.bs (J:Inv X ab σ H s):∀ b o,X.base.get? b=some o->s.heap.get? b=some o/\H b=none:=fun b o e=>
 ⟨J.base.keep b o (J.ok.bs b o e).1 (J.ok.bs b o e).2 (J.ok.VS e) (J.ok.vw b o e),J.base.free b o (J.ok.bs b o e).1 (J.ok.bs b o e).2 (J.ok.vw b o e)⟩
theorem Inv.cP (J:Inv X ab σ H s):∀ b o,X.base.get? b=some o->s.heap.get? b=some o:=fun b o e=>(J.bs b o e).1
theorem Inv.mod (J:Inv X ab σ H s):Mod X.K X.mg X.base:=J.ok.mod
theorem Inv.jW (J:Inv X ab σ H s):X.K.In s.heap:=J.ok.mod.uT.keeps J.cP
theorem Inv.nolimit (J:Inv X ab σ H s):s.heap.NoLimit:=J.ok.mod.nolimit.keeps J.cP
theorem Inv.fr (J:Inv X ab σ H s):∃ m,Fr X.base X.env.locals s.heap m:=
 let ⟨m,aX,_⟩:=J.loc
 ⟨m,aX,J.cP,cL J.ok.nA J.ok.above⟩
theorem Inv.lt (J:Inv X ab σ H s):X.env.locals < s.heap.objs.size:=let ⟨_,aX,_⟩:=J.loc;aX.lt
theorem Inv.nU (J:Inv X ab σ H s):X.fQ.heap.objs.size <= s.heap.objs.size:=cL J.ok.above (mA J.lt)
theorem Inv.H2 (J:Inv X ab σ H s) (h:s.heap.objs.size <= a):a ∉ X.a3:=fun aa=>by
 obtain ⟨_,o,aS,_⟩:=J.ok.mI.mem aa;exact absurd (h_ (d8 aS) (cL J.nU h)) (oM _)
theorem Inv.sX (J:Inv X ab σ H s):∀ x c,X.env.cells.lookup x=some c->c ≠ X.env.locals:=fun x c e z=>by
 obtain ⟨v,o,aS,hd⟩:=J.cell x c e;obtain ⟨m,⟨d6,aU,ct,jf,HW,_⟩,_⟩:=J.loc;rw [z,jf] at aS;cases aS;rw [HW] at hd;cases hd
theorem Inv.mI (J:Inv X ab σ H s):s.heap.FunFrames X.base X.outer:=by
 have all:∀ (l:List Env),(∀ b ∈ nf l,b ∈ X.a3)->X.fQ.heap.FunFrames X.base l->s.heap.FunFrames X.base l:=by
  intro l
  induction l with
  | nil=>intro _ _;trivial
  | cons env r cS=>
   intro ax aL;obtain ⟨aC,⟨L,o,hf,aX,aS,hd⟩,ao⟩:=aL;have ek:L ∈ X.a3:=ax L (by unfold nf;rw [Mp,hf];exact m3);obtain ⟨cE,e⟩:=J.base.slot L o aS (J.ok.rP L ek) ek fun z=>J.ok.vK L z ek
   exact ⟨aC,⟨L,_,hf,aX,e,hd⟩,cS (fun b aa=>ax b (by unfold nf;rw [Mp,hf];exact ik _ aa)) ao⟩
 exact all X.outer (fun _ aa=>aa) J.ok.mI
theorem Inv.stack (J:Inv X ab σ H s):s.heap.FunFrames X.base X.stack:=by
 rcases J.ok.wo with e | ⟨e,hf⟩
 .rw [e];exact J.mI
 .rw [e];obtain ⟨m,aX,_⟩:=J.loc;refine .cons (by rw [J.ok.kind];decide) hf aX ?_ J.mI;exact Heap.get?_none_of_le (cL J.ok.nA J.ok.above)
theorem Inv.AQ (J:Inv X ab σ H s):∀ b ∈ nf X.stack,b ∈ X.env.locals :: X.a3:=fun b aa=>by
 rcases J.ok.wo with e | ⟨e,hf⟩
 .rw [e] at aa;exact ik _ aa
 .rw [e] at aa;unfold nf at aa;rw [Mp,hf] at aa;exact aa
theorem Inv.Iw (J:Inv X ab σ H s):∀ b ∈ nf X.stack,H b=none:=fun b aa=>by
 rcases en.mp (J.AQ b aa) with e | aa
 .rw [e];exact J.free
 .obtain ⟨_,o,aS,_⟩:=J.ok.mI.mem aa;exact J.base.free b o aS (J.ok.rP b aa) fun z=>J.ok.vK b z aa
theorem Inv.step {g':Array GenState} {t':Nat} {d':Drawn} {ch:List Addr} (J:Inv X ab σ H s)
  (gT:∀ b ∈ ch,(b ∈ X.ex\/X.fQ.heap.objs.size <= b)/\b ≠ X.env.locals/\(∀ x c,X.env.cells.lookup x=some c->c ≠ b)/\∀ p ∈ X.eL ++ ab,p.1 ≠ b)
  (keep:∀ b o,b ≠ X.env.locals->b ∉ X.a3->b ∉ ch->s.heap.get? b=some o->H b=none->h'.get? b=some o)
  (slot:∀ b o,b ≠ X.env.locals->b ∈ X.a3->b ∉ ch->s.heap.get? b=some o->H b=none->∃ cE,h'.get? b=some { o with slots:=cE }) (free:∀ b o,b ∉ ch->s.heap.get? b=some o->H b=none->I b=none)
  (there:∀ b o,b ∉ ch->s.heap.get? b=some o->∃ d6,h'.get? b=some d6)
  (qG:∀ b xs,H b=some (.tup xs)->I b=some (.tup xs)) (mS:∀ b o u,H b=some (.e2 o u)->I b=some (.e2 o u)) (pO:∀ b ps,H b=some (.hC ps)->∃ more,I b=some (.hC (ps ++ more)))
  (ns:∀ m,s.heap.Ns X.env.locals m->h'.Ns X.env.locals m) (bu:fb X.prog X.w I h') (a8:AllBare g') :
  Inv X ab σ I { s with heap:=h',gens:=g',drawn:=d',toks:=t' }:=by
 have OK:∀ b o,X.fQ.heap.get? b=some o->b ≠ X.env.locals:=fun b o e=>f7 (h_ (d8 e) J.ok.above)
 have BG:∀ b o,X.fQ.heap.get? b=some o->b ∉ X.ex->b ∉ ch:=fun b o e ah aa=>by
  rcases (gT b aa).1 with z | z
  .exact ah z
  .exact absurd (h_ (d8 e) z) (oM _)
 have cellK:∀ x c,X.env.cells.lookup x=some c->∀ v,s.heap.IsCell c v->h'.IsCell c v:=fun x c e v ⟨o,aS,hd⟩=>by
  have xl:c ∉ ch:=fun z=>(gT c z).2.2.1 x c e rfl
  by_cases aB:c ∈ X.a3
  .obtain ⟨cE,q⟩:=slot c o (J.sX x c e) aB xl aS (J.j1 x c e);exact ⟨_,q,hd⟩
  .exact ⟨o,keep c o (J.sX x c e) aB xl aS (J.j1 x c e),hd⟩
 refine ⟨J.ok,J.os,a8,⟨fun b o e n aa ah=>?_,fun b o e n aa ah=>?_,fun b o e n ah=>?_,fun b o e ah=>?_,fun b xs e=>qG b xs (J.base.qG b xs e),fun b o xs e=>mS b o xs (J.base.mS b o xs e),fun b ps e=>?_⟩,?_,fun x c e=>?_,?_,fun x c e=>?_,fun p ar=>?_,bu,J.len⟩
 .exact keep b o (OK b o e) aa (BG b o e ah) (J.base.keep b o e n aa ah) (J.base.free b o e n ah)
 .obtain ⟨cE,aq⟩:=J.base.slot b o e n aa ah;obtain ⟨amU,aH⟩:=slot b _ (OK b o e) aa (BG b o e ah) aq (J.base.free b o e n ah);exact ⟨amU,aH⟩
 .obtain ⟨d6,aq⟩:=J.base.there b o e ah;exact free b d6 (BG b o e ah) aq (J.base.free b o e n ah)
 .obtain ⟨d6,aq⟩:=J.base.there b o e ah;exact there b d6 (BG b o e ah) aq
 .obtain ⟨k9,aq⟩:=J.base.pO b ps e;obtain ⟨kV,aH⟩:=pO b _ aq;exact ⟨k9 ++ kV,by rw [aH,Array.append_assoc]⟩
 .obtain ⟨m,aX,aL⟩:=J.loc;refine ⟨m,ns m aX,fun i x v aq aH bO=>?_⟩;obtain ⟨u,r,l⟩:=aL i x v aq aH bO;refine ⟨u,r,?_⟩;rcases l with l | ⟨k,c,e,z⟩
  .exact .inl l
  .exact .inr ⟨k,c,e,cellK x c e _ z⟩
 .obtain ⟨v,z⟩:=J.cell x c e;exact ⟨v,cellK x c e v z⟩
 .obtain ⟨m,⟨o,_,_,aS,_⟩,_⟩:=J.loc;exact free _ o (fun z=>(gT _ z).2.1 rfl) aS J.free
 .obtain ⟨v,o,aS,hd⟩:=J.cell x c e;exact free c o (fun z=>(gT c z).2.2.1 x c e rfl) aS (J.j1 x c e)
 .obtain ⟨e,n,ne,h8,d⟩:=J.pin p ar;have xl:p.1 ∉ ch:=fun z=>(gT p.1 z).2.2.2 p ar rfl
  exact ⟨keep p.1 p.2 ne h8 xl e n,free p.1 p.2 xl e n,ne,h8,d⟩
theorem Inv.un {t':Nat} (J:Inv X ab σ H s) (u:hb X.a3 [] H I s.heap h') (bu:fb X.prog X.w I h'):Inv X ab σ I { s with heap:=h',toks:=t' }:=by
 obtain ⟨m,⟨o,aU,ct,aS,r⟩,_⟩:=id J.loc;obtain ⟨cE,ek⟩:=u.any aS J.free (by simp);exact J.step (g':=s.gens) (d':=s.drawn) (ch:=[]) (fun _ z=>nomatch z) (fun b o _ aa _ e n=>u.keep b o e n aa (by simp)) (fun b o _ aa _ e n=>u.slot b o e n aa (by simp)) (fun b o _ e n=>u.free b o e n (by simp)) (fun b o _ e=>u.there b o e (by simp)) u.qG u.mS u.pO (fun dP hm=>by
  obtain ⟨d6,HI,K1,jf,ej⟩:=hm;rw [aS] at jf;cases jf;exact ⟨_,HI,K1,ek,ej⟩) bu J.bare
theorem Inv.call {g':Array GenState} {t':Nat} {d':Drawn} {ch:List Addr} (J:Inv X ab σ H s) (u:hb (nf X.stack) ch H I s.heap h') (bu:fb X.prog X.w I h') (a8:AllBare g')
  (gT:∀ b ∈ ch,(b ∈ X.ex\/X.fQ.heap.objs.size <= b)/\b ≠ X.env.locals/\(∀ x c,X.env.cells.lookup x=some c->c ≠ b)/\∀ p ∈ X.eL ++ ab,p.1 ≠ b) :
  Inv X ab σ I { s with heap:=h',gens:=g',drawn:=d',toks:=t' }:=by
 obtain ⟨m,⟨o,aU,ct,aS,r⟩,_⟩:=id J.loc;obtain ⟨cE,ek⟩:=u.any aS J.free fun z=>(gT _ z).2.1 rfl
 exact J.step (ch:=ch) gT (fun b o ek aa aB e n=>u.keep b o e n (fun z=>(en.mp (J.AQ b z)).elim ek aa) aB) (fun b o _ _ aB e n=>u.any e n aB) (fun b o aB e n=>u.free b o e n aB) (fun b o aB e=>u.there b o e aB) u.qG u.mS u.pO (fun dP hm=>by
  obtain ⟨d6,HI,K1,jf,ej⟩:=hm;rw [aS] at jf;cases jf;exact ⟨_,HI,K1,ek,ej⟩) bu a8
theorem Inv.turned {t':Nat} {it:Addr} (J:Inv X ab σ H s) (k:∀ b o,b ≠ it->s.heap.get? b=some o->h'.get? b=some o) (aX:H it=none) (ek:it ≠ X.env.locals)
  (af:it ∈ X.ex\/X.fQ.heap.objs.size <= it) (ak:∀ x c,X.env.cells.lookup x=some c->c ≠ it) (a5:∀ p ∈ X.eL ++ ab,p.1 ≠ it):Inv X ab σ H { s with heap:=h',toks:=t' }:=by
 have wG:∀ b u,H b=some u->b ≠ it:=fun b u e z=>by rw [z,aX] at e;cases e
 refine J.step (g':=s.gens) (d':=s.drawn) (ch:=[it]) (fun b aa=>?_) (fun b o _ _ aB e _=>k b o (fun z=>aB (by simp [z])) e) (fun b o _ _ aB e _=>⟨o.slots,k b o (fun z=>aB (by simp [z])) e⟩) (fun _ _ _ _ n=>n)
  (fun b o aB e=>⟨o,k b o (fun z=>aB (by simp [z])) e⟩) (fun _ _ e=>e) (fun _ _ _ e=>e) (fun b ps e=>⟨#[],by rw [e];simp⟩) (fun m hm=>?_) (fun b u e=>?_) J.bare
 .have e:b=it:=by simpa using aa
  subst e;exact ⟨af,ek,ak,a5⟩
 .obtain ⟨o,aU,ct,aS,r⟩:=hm;exact ⟨o,aU,ct,k _ o (eb ek) aS,r⟩
 .refine (J.bu b u e).nO (fun c v aB q=>k c v ?_ q) (fun _ q=>q) fun _ _ q=>q
  rcases aB with z | z
  .rw [z];exact wG b u e
  .exact wG c _ z
theorem Inv.tok (J:Inv X ab σ H s) (t:Nat):Inv X ab σ H { s with toks:=t }:=J.un (h':=s.heap) (t':=t) hb.refl J.bu
theorem Inv.kept (J:Inv X ab σ H s) (k:∀ b u,s.heap.get? b=some u->h'.get? b=some u):Inv X ab σ H { s with heap:=h',toks:=t' }:=J.un (hb.kept k) (J.bu.kept k)
theorem Inv.laid (J:Inv X ab σ H s) (k:∀ b u,s.heap.get? b=some u->h'.get? b=some u) (ar:s.heap.objs.size <= a) (new:fC X.prog X.w (upd H a o) h' a o) :
  Inv X ab σ (upd H a o) { s with heap:=h',toks:=t' }:=J.un (hb.laid k ar (J.bu.fresh ar)) (J.bu.laid k ar new)
theorem Inv.write {x e:Addr} {o:fX} {t':Nat} (J:Inv X ab σ H s) (j8:tX (H x)) (he:e=x\/H e=some (.own x)) (k:∀ b u,b ≠ e->s.heap.get? b=some u->h'.get? b=some u) (vi:∃ u,h'.get? e=some u)
  (new:fC X.prog X.w (upd H x o) h' x o):Inv X ab σ (upd H x o) { s with heap:=h',toks:=t' }:=J.un (hb.write j8 he k vi) (J.bu.write j8 he k vi new)
theorem Inv.weak (J:Inv X ab σ H s) (aL:au.length=σ.length) (w:∀ (i:Nat) v,au[i]? = some (some v)->σ[i]? = some (some v)):Inv X ab au H s:=
 ⟨J.ok,J.os,J.bare,J.base,let ⟨m,aX,xu⟩:=J.loc;⟨m,aX,fun i x v aq aH bO=>xu i x v aq (w i v aH) bO⟩,J.cell,J.free,J.j1,J.pin,J.bu,aL.trans J.len⟩
theorem Inv.tu (J:Inv X ab σ H s) (h:∀ p ∈ PT,s.heap.get? p.1=some p.2/\H p.1=none/\p.1 ≠ X.env.locals/\p.1 ∉ X.a3/\∀ v,p.2.data ≠ .cell v):Inv X PT σ H s:=
 ⟨J.ok,J.os,J.bare,J.base,J.loc,J.cell,J.free,J.j1,fun p ar=>(eR.mp ar).elim (fun z=>J.pin p (LS _ z)) (h p),J.bu,J.len⟩
theorem GE {N:List Str} (bj:N.Nodup) {i j:Nat} {x:Str} (a:N[i]? = some x) (b:N[j]? = some x):i=j:=by
 obtain ⟨af,aq⟩:=b6.mp a;obtain ⟨ak,aH⟩:=b6.mp b;exact (ET bj).mp (aq.trans aH.symm)
theorem PA {M:Model} {A:Around} {E:Value->Shared->Prop} {i:Nat} {x:Str} {v:V} {u:Value} {Q:Unit->Shared->Prop} (J:Inv X ab σ H s) (bj:X.N.Nodup) (ai:X.N[i]? = some x) (ah:Loc X.env.scope x) (r:bX v u)
  (h:∀ aj,Inv X ab (σ.set i (some v)) H aj->(∃ a,ux a s.heap aj.heap/\(a=X.env.locals\/X.env.cells.lookup x=some a))->Q () aj) (hf:X.fn x=true\/X.env.scope.names.lookup x=some .local:=by first | exact .inl rfl | exact .inr rfl | assumption):wpAny M A (storeName X.env x u) Q E s:=by
 obtain ⟨m,aX,aL⟩:=id J.loc;have ad0:(X.env.scope.kind == .class || (X.env.scope.kind == .module && X.env.locals != X.env.globals))=false:=by rw [J.ok.kind];rfl
 have TV:i < σ.length:=by rw [J.len];exact (b6.mp ai).1
 have sX:=J.sX;have tracked:∀ {a:Addr} {h':Heap},(∃ o,s.heap.get? a=some o/\H a=none)->ux a s.heap h'->fb X.prog X.w H h':=fun {a h'} aP ax b cV e=>by
  obtain ⟨_,_,PX⟩:=aP;refine (J.bu b cV e).nO (fun c e_ aB q=>(ax.2 c ?_).trans q) (fun _ q=>q) fun _ _ q=>q
  rintro rfl;rcases aB with rfl | aB
  .rw [PX] at e;cases e
  .rw [PX] at aB;cases aB
 rcases ah with aC | aC
 .refine wpAny_storeName_local aC aX (fun h' TO ax=>?_) ad0;obtain ⟨aix,_,_,ahD,_⟩:=id aX;refine h _ ⟨J.ok,J.os,J.bare,⟨fun b o e n aa ah=>?_,fun b o e n aa ah=>?_,J.base.free,fun b o e ah=>?_,J.base.qG,J.base.mS,J.base.pO⟩,⟨_,TO,fun j y xB aq aH bO=>?_⟩,fun y c e=>?_,J.free,J.j1,fun p ar=>?_,tracked ⟨aix,ahD,J.free⟩ ax,by simpa using J.len⟩ ⟨_,ax,.inl rfl⟩
  .exact (ax.2 b (f7 (h_ (d8 e) J.ok.above))).trans (J.base.keep b o e n aa ah)
  .obtain ⟨cE,aq⟩:=J.base.slot b o e n aa ah;exact ⟨cE,(ax.2 b (f7 (h_ (d8 e) J.ok.above))).trans aq⟩
  .obtain ⟨d6,aq⟩:=J.base.there b o e ah;exact ⟨d6,(ax.2 b (f7 (h_ (d8 e) J.ok.above))).trans aq⟩
  .by_cases aG:j=i
   .subst aG;rw [ai] at aq;cases aq;rw [U' TV] at aH;cases aH;exact ⟨u,r,.inl ⟨aC,by simp⟩⟩
   .rw [Su (eb aG)] at aH;obtain ⟨t9,ej,q⟩:=aL j y xB aq aH bO;refine ⟨t9,ej,?_⟩;rcases q with ⟨k,e⟩ | ⟨k,c,e,z⟩
    .refine .inl ⟨k,?_⟩;have:y ≠ x:=fun e=>aG (GE bj aq (e ▸ ai))
     simp [this,e]
    .exact .inr ⟨k,c,e,z.sameBut ax (sX y c e)⟩
  .obtain ⟨e_,z⟩:=J.cell y c e;exact ⟨e_,z.sameBut ax (sX y c e)⟩
  .obtain ⟨e,n,ne,h8,d⟩:=J.pin p ar;exact ⟨(ax.2 p.1 ne).trans e,n,ne,h8,d⟩
 .have Jj:X.fn x=true:=by
   rcases hf with z | z
   .exact z
   .rw [z] at aC;cases aC
  obtain ⟨c,aB⟩:=J.ok.has x (.inl aC);obtain ⟨e_,z⟩:=J.cell x c aB;refine wpAny_storeName_cell J.ok.kind aC aB z (fun h' vJ ax=>?_);obtain ⟨oP,mX,afa⟩:=id z;refine h { s with heap:=h' } ⟨J.ok,J.os,J.bare,⟨fun b o e n aa ah=>?_,fun b o e n aa ah=>?_,J.base.free,fun b o e ah=>?_,J.base.qG,J.base.mS,J.base.pO⟩,⟨m,aX.sameBut ax (eb (sX x c aB)),fun j y xB aq aH bO=>?_⟩,fun y c' e=>?_,J.free,J.j1,fun p ar=>?_,tracked ⟨oP,mX,J.j1 x c aB⟩ ax,by simpa using J.len⟩ ⟨c,ax,.inr aB⟩
  .exact (ax.2 b (f7 (h_ (d8 e) (J.ok.ub x c Jj aB)))).trans (J.base.keep b o e n aa ah)
  .obtain ⟨cE,aq⟩:=J.base.slot b o e n aa ah;exact ⟨cE,(ax.2 b (f7 (h_ (d8 e) (J.ok.ub x c Jj aB)))).trans aq⟩
  .obtain ⟨d6,aq⟩:=J.base.there b o e ah;exact ⟨d6,(ax.2 b (f7 (h_ (d8 e) (J.ok.ub x c Jj aB)))).trans aq⟩
  .by_cases aG:j=i
   .subst aG;rw [ai] at aq;cases aq;rw [U' TV] at aH;cases aH;exact ⟨u,r,.inr ⟨.inl aC,c,aB,vJ⟩⟩
   .rw [Su (eb aG)] at aH;obtain ⟨t9,ej,q⟩:=aL j y xB aq aH bO;refine ⟨t9,ej,?_⟩;rcases q with q | ⟨k,c',e,gZ⟩
    .exact .inl q
    .refine .inr ⟨k,c',e,gZ.sameBut ax ?_⟩;rintro rfl;exact aG (GE bj aq (J.ok.inj _ _ _ e aB ▸ ai))
  .by_cases uF:c'=c
   .subst uF;exact ⟨_,vJ⟩
   .obtain ⟨ea,eg⟩:=J.cell y c' e;exact ⟨ea,eg.sameBut ax uF⟩
  .obtain ⟨e,n,ne,h8,d⟩:=J.pin p ar;refine ⟨(ax.2 p.1 ?_).trans e,n,ne,h8,d⟩;intro q;rw [q,mX] at e;have dB:oP=p.2:=eE e;exact d e_ (by rw [<- dB];exact afa)
theorem R_ {A:Around} {x:Str} (J:Inv X ab σ H s) (bj:X.N.Nodup) (ai:X.N[i]? = some x) (ah:Loc X.env.scope x) (r:bX v u)
  (h:∀ aj,Inv X ab (σ.set i (some v)) H aj->Q () aj) (hf:X.fn x=true\/X.env.scope.names.lookup x=some .local:=by first | exact .inl rfl | exact .inr rfl | assumption):wpAny M A (storeName X.env x u) Q E s:=
 PA J bj ai ah r (fun aj jy _=>h aj jy) hf
theorem Inv.ag4 (J:Inv X ab σ H s) (aS:aj.os=s.os) (u:hb (nf X.stack) ch H I s.heap aj.heap) (bu:fb X.prog X.w I aj.heap) (a8:AllBare aj.gens)
  (gT:∀ b ∈ ch,(b ∈ X.ex\/X.fQ.heap.objs.size <= b)/\b ≠ X.env.locals/\(∀ x c,X.env.cells.lookup x=some c->c ≠ b)/\∀ p ∈ X.eL ++ ab,p.1 ≠ b):Inv X ab σ I aj:=by
 obtain ⟨h',g',d',t',d6⟩:=aj;have e:d6=s.os:=aS;subst e;exact J.call (g':=g') (t':=t') (d':=d') u bu a8 gT
end
noncomputable abbrev f5:=Value->Option Addr->aw->Prop
noncomputable abbrev St:=List (Option V)
noncomputable abbrev c4:=V->aw->Prop
noncomputable abbrev TE:=St->aw->c4->Prop
noncomputable abbrev TT:=St->aw->(Bool->aw->Prop)->Prop
noncomputable abbrev fz:=St->aw->(List V->aw->Prop)->Prop
structure hV where
 cT:St->aw->Prop
 lL:c4
 cP:St->aw->Prop:=fun _ _=>False
 fv:St->aw->Prop:=fun _ _=>False
noncomputable abbrev ey:=hV->St->aw->Prop
def gb (X:bb) (ab:List (Addr × Obj)) (σ:St) (Q:c4) (u:Value) (aj:Shared):Prop:=∃ v I,Inv X ab σ I aj/\bX v u/\Q v I
theorem ew {X:bb} {ab:List (Addr × Obj)} {σ:St} {Q:c4} {u:Value} {aj:Shared} {C:Prop} (h:gb X ab σ Q u aj) (k:∀ v I,Inv X ab σ I aj->bX v u->Q v I->C):C:=by
 obtain ⟨v,I,J,r,q⟩:=h;exact k v I J r q
def DZ (X:bb) (ab:List (Addr × Obj)) (σ:St) (Q:Bool->aw->Prop) (b:Bool) (aj:Shared):Prop:=∃ I,Inv X ab σ I aj/\Q b I
def agM (X:bb) (ab:List (Addr × Obj)) (σ:St) (Q:List V->aw->Prop) (us:List Value) (aj:Shared):Prop:=∃ vs I,Inv X ab σ I aj/\cQ vs us/\Q vs I
def sS (X:bb) (ab:List (Addr × Obj)) (D:hV) (f:Flow) (aj:Shared):Prop:=
 match f with
 | .next=>∃ au I,Inv X ab au I aj/\D.cT au I
 | .brk=>∃ au I,Inv X ab au I aj/\D.cP au I
 | .cont=>∃ au I,Inv X ab au I aj/\D.fv au I
 | .ret u=>∃ v au I,Inv X ab au I aj/\bX v u/\D.lL v I
def bD (X:bb) (e:Expr) (t:TE):Prop:=
 ∀ (ab:List (Addr × Obj)) (s:Shared) (σ:St) (H:aw) (Q:c4),Inv X ab σ H s->t σ H Q->wpAny (model X.prog X.w) X.A (eval e X.env) (gb X ab σ Q) X.d2 s
def iO (X:bb) (e:Expr) (t:TT):Prop:=
 ∀ (ab:List (Addr × Obj)) (s:Shared) (σ:St) (H:aw) (Q:Bool->aw->Prop),Inv X ab σ H s->t σ H Q->wpAny (model X.prog X.w) X.A (isTrue e X.env (eval e X.env)) (DZ X ab σ Q) X.d2 s
def fM (X:bb) (e:Expr) (t:TT):Prop:=
 ∀ (whole:Sem Value) (ab:List (Addr × Obj)) (s:Shared) (σ:St) (H:aw) (Q:Bool->aw->Prop),Inv X ab σ H s->t σ H Q->wpAny (model X.prog X.w) X.A (isTrue e X.env whole) (DZ X ab σ Q) X.d2 s
theorem fM.pt {e:Expr} {t:TT} (h:fM X e t):iO X e t:=h _
def hy (X:bb) (aU:List Expr) (t:fz):Prop:=
 ∀ (pos:Pos) (ab:List (Addr × Obj)) (s:Shared) (σ:St) (H:aw) (Q:List V->aw->Prop),Inv X ab σ H s->t σ H Q->wpAny (model X.prog X.w) X.A (spliced (backTo pos (starEach aU X.env))) (agM X ab σ Q) X.d2 s
def hA (X:bb) (st:Stmt) (t:ey):Prop:=
 ∀ (ab:List (Addr × Obj)) (s:Shared) (σ:St) (H:aw) (D:hV),Inv X ab σ H s->t D σ H->wpAny (model X.prog X.w) X.A (exec st X.env) (sS X ab D) X.d2 s
def jx (X:bb) (st:List Stmt) (t:ey):Prop:=
 ∀ (ab:List (Addr × Obj)) (s:Shared) (σ:St) (H:aw) (D:hV),Inv X ab σ H s->t D σ H->wpAny (model X.prog X.w) X.A (execs st X.env) (sS X ab D) X.d2 s
theorem bJ {t:Sem α} {A:Around} (h:wpAny M A t Q E s) (aV:∀ a s,Q a s->Q' a s):wpAny M A t Q' E s:=wpAny_mono h aV fun _ _ x=>x
section
variable {X:bb}
noncomputable def so (H:aw) (Q:c4):Option (Option V)->Prop
 | some (some v)=>Q v H
 | _=>False
theorem VW (H:aw) (Q:c4) (v:V):so H Q (some (some v))=Q v H:=rfl
theorem so.out:∀ {o:Option (Option V)},so H Q o->∃ v,o=some (some v)/\Q v H
 | some (some v),h=>⟨v,rfl,h⟩
 | some none,h=>h.elim
 | none,h=>h.elim
theorem ahc (H:aw) (Q:c4) (o:Option (Option V)):so H Q o = ∃ v,o=some (some v)/\Q v H:=propext ⟨so.out,fun ⟨_,e,h⟩=>e ▸ h⟩
def gW (x:V) (k:Int->Prop):Prop:=match x with
 | .int i=>k i
 | _=>False
theorem UG (i:Int) (k:Int->Prop):gW (.int i) k=k i:=rfl
theorem gW.out {x:V} {k:Int->Prop} (h:gW x k):∃ i,x=.int i/\k i:=by
 cases x with
 | int i=>exact ⟨i,rfl,h⟩
 | _=>exact h.elim
theorem adO (x:V) (k:Int->Prop):gW x k = ∃ i,x=.int i/\k i:=propext ⟨gW.out,fun ⟨_,e,h⟩=>e ▸ h⟩
def kx (x:V) (k:Bool->Prop):Prop:=match x with
 | .bo i=>k i
 | _=>False
theorem RO (i:Bool) (k:Bool->Prop):kx (.bo i) k=k i:=rfl
theorem kx.out {x:V} {k:Bool->Prop} (h:kx x k):∃ i,x=.bo i/\k i:=by
 cases x with
 | bo i=>exact ⟨i,rfl,h⟩
 | _=>exact h.elim
theorem WP (x:V) (k:Bool->Prop):kx x k = ∃ i,x=.bo i/\k i:=propext ⟨kx.out,fun ⟨_,e,h⟩=>e ▸ h⟩
def fG (x:V) (k:Addr->Prop):Prop:=match x with
 | .ref i=>k i
 | _=>False
theorem Qw (i:Addr) (k:Addr->Prop):fG (.ref i) k=k i:=rfl
theorem fG.out {x:V} {k:Addr->Prop} (h:fG x k):∃ i,x=.ref i/\k i:=by
 cases x with
 | ref i=>exact ⟨i,rfl,h⟩
 | _=>exact h.elim
theorem alY (x:V) (k:Addr->Prop):fG x k = ∃ i,x=.ref i/\k i:=propext ⟨fG.out,fun ⟨_,e,h⟩=>e ▸ h⟩
def m9 (xs:List V) (k:V->Prop):Prop:=match xs with
 | [y]=>k y
 | _=>False
theorem OJ (y:V) (k:V->Prop):m9 [y] k=k y:=rfl
theorem m9.out:∀ {xs:List V} {k:V->Prop},m9 xs k->∃ y,xs=[y]/\k y
 | [y],_,h=>⟨y,rfl,h⟩
 | [],_,h=>h.elim
 | _ :: _ :: _,_,h=>h.elim
theorem YT (xs:List V) (k:V->Prop):m9 xs k = ∃ y,xs=[y]/\k y:=propext ⟨m9.out,fun ⟨_,e,h⟩=>e ▸ h⟩
noncomputable def zH (i:Nat):TE:=fun σ H Q=>so H Q σ[i]?
noncomputable def td (v:V):TE:=fun _ H Q=>Q v H
theorem ajz {x:Str} (bj:X.N[i]? = some x) (aF:DE X.env.scope x) (hd:(x == ("__debug__" : Str))=false:=by decide) (jh:(x == ("__classdict__" : Str))=false:=by decide):bD X (.Name x pos) (zH i):=by
 intro ab s σ H Q J h;obtain ⟨v,e,h⟩:=so.out h;obtain ⟨m,aX,aL⟩:=J.loc;obtain ⟨u,r,l⟩:=aL i x v bj e aF;have fin:gb X ab σ Q u s:=⟨v,H,J,r,h⟩;rcases l with ⟨aC,hm⟩ | ⟨aC,c,aB,zA⟩
 .exact wpAny_Name (wpAny_loadName_local J.ok.kind aC aX hm fin) hd
 .rcases aC with aC | aC
  .exact wpAny_Name (wpAny_loadName_cell J.ok.kind aC aB zA fin) hd
  .exact wpAny_Name (wpAny_loadName_free J.ok.kind aC aB zA fin jh) hd
theorem aO {i j pos}:bD X (.Constant (.int i) j pos) (td (.int i)):=fun _ _ _ H _ J h=>wpAny_Constant_int ⟨.int i,H,J.tok _,⟨_,rfl⟩,h⟩
theorem mW {b j pos}:bD X (.Constant (.bool b) j pos) (td (.bo b)):=fun _ _ _ H _ J h=>Constant_bool ⟨.bo b,H,J,rfl,h⟩
theorem tP {j pos}:bD X (.Constant .none j pos) (td .cn):=fun _ _ _ H _ J h=>Constant_none ⟨.cn,H,J,rfl,h⟩
theorem dF {x j pos}:bD X (.Constant (.str x) j pos) (td (.str x)):=fun _ _ _ H _ J h=>Calls.Constant_str ⟨.str x,H,J.tok _,⟨_,rfl⟩,h⟩
def kX (X:bb) (x:Str):Prop:=X.env.kindOf x=some .globalImplicit
theorem CP {x:Str} (J:Inv X ab σ H s) (a8:kX X x) (hm:X.mg x=some u) (h:Q u s)
  (hd:(x == ("__debug__" : Str))=false:=by decide):wpAny (model X.prog X.w) X.A (eval (.Name x pos) X.env) Q E s:=
 ahX J.ok.kind a8 (Calls.loadGlobal_global (by rw [J.ok.glob];exact J.mod.glob.keeps J.cP) hm h) hd
theorem r2 {x:Str} (J:Inv X ab σ H s) (a8:kX X x) (hm:X.mg x=none) (aF:bootBuiltins x=some u) (h:Q u s)
  (aX:x ≠ "__name__" := by decide) (hd:(x == ("__debug__" : Str))=false:=by decide):wpAny (model X.prog X.w) X.A (eval (.Name x pos) X.env) Q E s:=by
 obtain ⟨ny,af,ak⟩:=J.mod.blt;exact ahX J.ok.kind a8 (Calls.loadGlobal_builtin (by rw [J.ok.glob];exact J.mod.glob.keeps J.cP) hm (by rw [J.ok.blt];exact af.keeps J.cP) ((ak x aX).trans aF) h) hd
theorem mz {x:Str} (a8:kX X x) (hm:X.mg x=some u) (r:bX v u) (hd:(x == ("__debug__" : Str))=false:=by decide):bD X (.Name x pos) (td v):=
 fun _ _ _ H _ J h=>CP J a8 hm ⟨v,H,J,r,h⟩ hd
variable {a b:Expr} {a9 bG:TE} {pos:Pos}
def Qr (X:bb) (op:CmpOp) (a b:Expr) (t:TE):Prop:=
 ∀ (ab:List (Addr × Obj)) (s:Shared) (σ:St) (H:aw) (Q:c4),Inv X ab σ H s->t σ H Q ->
  wpAny (model X.prog X.w) X.A (eval a X.env) (fun v du=>wpAny (model X.prog X.w) X.A (eval b X.env) (fun u d5=>wpAny (model X.prog X.w) X.A (compareOp op v u) (gb X ab σ Q) X.d2 d5) X.d2 du) X.d2 s
theorem Xz (b:Expr) (h:op ≠ .In) (ak:op ≠ .NotIn):behindInMarks op b=false:=by
 have aq:(op == CmpOp.In)=false:=by cases op <;> first | rfl | exact absurd rfl h
 have aH:(op == WK)=false:=by cases op <;> first | rfl | exact absurd rfl ak
 cases b <;> simp [behindInMarks,aq,aH]
noncomputable def DU (t:TE):TT:=fun σ H Q=>t σ H fun x H1=>kx x fun c=>Q c H1
theorem S4 {t:TE} (h:Qr X op a b t) (af:behindInMarks op b=false:=by first | exact Xz _ (by decide) (by decide) | rfl):iO X (.Compare a [op] [b] pos) (DU t):=by
 intro ab s σ H Q J hw;refine wpAny_isTrue_Compare1 (bJ (h ab s σ H _ J hw) fun v s1 af=>bJ af fun u s2 ak=>bJ ak fun c s3 cB=>ew cB fun x H1 aZ cN bS=>?_) af;obtain ⟨d,rfl,q⟩:=kx.out bS;cases cN;exact wpAny_truthy_bool ⟨H1,aZ,q⟩
theorem oj {e:Expr} {t:TE} (h:bD X e t) (he:∀ whole,isTrue e X.env whole=(do let v <- whole;standAt e.pos;holding [v] (truthy v)):=by intro _;rfl):iO X e (DU t):=by
 intro ab s σ H Q J hw;refine isTrue_plain (bJ (h ab s σ H _ J hw) fun v s1 cB=>ew cB fun x H1 aZ cN bS=>?_) (he _);obtain ⟨d,rfl,q⟩:=kx.out bS;cases cN;exact wpAny_truthy_bool ⟨H1,aZ,q⟩
variable {m5 CA:TT} {lC:List Expr}
noncomputable def Lu (t u:TT):TT:=fun σ H Q=>t σ H fun c H1=>if c=true then u σ H1 Q else Q false H1
noncomputable def Kp (t u:TT):TT:=fun σ H Q=>t σ H fun c H1=>if c=true then Q true H1 else u σ H1 Q
noncomputable def LQ (t:TT):TT:=fun σ H Q=>t σ H fun c H1=>Q (!c) H1
theorem mi (aP:iO X a m5):fM X (.BoolOp .And [a] pos) m5:=by
 intro xM ab s σ H Q J h;refine isTrue_and (bJ (aP ab s σ H Q J h) fun c s1 e=>?_);cases c with
 | true=>exact isTrue_and_nil e
 | false=>exact e
theorem uf (aP:iO X a m5):fM X (.BoolOp .Or [a] pos) m5:=by
 intro xM ab s σ H Q J h;refine isTrue_or (bJ (aP ab s σ H Q J h) fun c s1 e=>?_);cases c with
 | false=>exact isTrue_or_nil e
 | true=>exact e
theorem md (aP:iO X a m5) (aa:fM X (.BoolOp .And (b :: lC) pos) CA):fM X (.BoolOp .And (a :: b :: lC) pos) (Lu m5 CA):=by
 intro xM ab s σ H Q J h;refine isTrue_and (bJ (aP ab s σ H _ J h) fun c s1 da=>?_);obtain ⟨H1,aZ,bS⟩:=da;cases c with
 | true=>exact aa xM ab s1 σ H1 Q aZ bS
 | false=>exact ⟨H1,aZ,bS⟩
theorem t2 (aP:iO X a m5) (aa:fM X (.BoolOp .Or (b :: lC) pos) CA):fM X (.BoolOp .Or (a :: b :: lC) pos) (Kp m5 CA):=by
 intro xM ab s σ H Q J h;refine isTrue_or (bJ (aP ab s σ H _ J h) fun c s1 da=>?_);obtain ⟨H1,aZ,bS⟩:=da;cases c with
 | true=>exact ⟨H1,aZ,bS⟩
 | false=>exact aa xM ab s1 σ H1 Q aZ bS
theorem xH (aP:iO X a m5):iO X (.UnaryOp .Not a pos) (LQ m5):=by
 intro ab s σ H Q J h;exact isTrue_not (aP ab s σ H (fun c H1=>Q (!c) H1) J h)
noncomputable def Gg (a9 bG:TE):TE:=fun σ H Q=>a9 σ H fun x H1=>kx x fun c=>if c=true then bG σ H1 Q else Q (.bo false) H1
noncomputable def Fi (a9 bG:TE):TE:=fun σ H Q=>a9 σ H fun x H1=>kx x fun c=>if c=true then Q (.bo true) H1 else bG σ H1 Q
noncomputable def JF (a9:TE):TE:=fun σ H Q=>a9 σ H fun x H1=>kx x fun c=>Q (.bo (!c)) H1
theorem vO {op} {t:TE} (h:bD X a t):bD X (.BoolOp op [a] pos) t:=fun ab s σ H Q J hw=>BoolOp_one (h ab s σ H Q J hw)
theorem wc (aP:bD X a a9) (aa:bD X (.BoolOp .And (b :: lC) pos) bG):bD X (.BoolOp .And (a :: b :: lC) pos) (Gg a9 bG):=by
 intro ab s σ H Q J h;refine BoolOp_and (bJ (aP ab s σ H _ J h) fun v s1 cB=>ew cB fun x H1 aZ cN bS=>?_);obtain ⟨c,rfl,g7⟩:=kx.out bS;cases cN;refine wpAny_truthy_bool ?_;cases c with
 | true=>exact aa ab s1 σ H1 Q aZ g7
 | false=>exact ⟨.bo false,H1,aZ,rfl,g7⟩
theorem NC (aP:bD X a a9) (aa:bD X (.BoolOp .Or (b :: lC) pos) bG):bD X (.BoolOp .Or (a :: b :: lC) pos) (Fi a9 bG):=by
 intro ab s σ H Q J h;refine BoolOp_or (bJ (aP ab s σ H _ J h) fun v s1 cB=>ew cB fun x H1 aZ cN bS=>?_);obtain ⟨c,rfl,g7⟩:=kx.out bS;cases cN;refine wpAny_truthy_bool ?_;cases c with
 | false=>exact aa ab s1 σ H1 Q aZ g7
 | true=>exact ⟨.bo true,H1,aZ,rfl,g7⟩
theorem MP (aP:bD X a a9):bD X (.UnaryOp .Not a pos) (JF a9):=by
 intro ab s σ H Q J h;refine UnaryOp_ (bJ (aP ab s σ H _ J h) fun v s1 cB=>ew cB fun x H1 aZ cN bS=>?_);obtain ⟨c,rfl,g7⟩:=kx.out bS;cases cN;exact not_of (wpAny_truthy_bool ⟨.bo (!c),H1,aZ,rfl,g7⟩)
noncomputable def Gm (t:TT) (a9 bG:TE):TE:=fun σ H Q=>t σ H fun c H1=>if c=true then a9 σ H1 Q else bG σ H1 Q
theorem tT (aB:iO X c m5) (aP:bD X a a9) (aa:bD X b bG):bD X (.IfExp c a b pos) (Gm m5 a9 bG):=by
 intro ab s σ H Q J h;refine wpAny_IfExp (bJ (aB ab s σ H _ J h) fun d s1 da=>?_);obtain ⟨H1,aZ,bS⟩:=da;cases d with
 | true=>exact aP ab s1 σ H1 Q aZ bS
 | false=>exact aa ab s1 σ H1 Q aZ bS
end
def ay (K:bk) (H:aw) (a:Addr) (xs:List V):Prop:=
 lD H a (.lst xs) \/
  ∃ (o:Obj) (a7:Array Value) (n:Nat),K.lookup a=some o/\o.cls=.type "list" /\ o.dict=none/\o.data=.seq a7 n/\a7.size <= sizeLine/\cQ xs a7.toList
def dR (K:bk) (H:aw) (a:Addr) (xs:List V):Prop:=
 lD H a (.tup xs) \/
  ∃ (o:Obj) (a7:Array Value) (n:Nat),K.lookup a=some o/\o.cls=.type "tuple" /\ o.data=.seq a7 n/\a7.size <= sizeLine/\cQ xs a7.toList
noncomputable def YI:Value->Option V
 | .none=>some .cn
 | .bool b=>some (.bo b)
 | .int i _=>some (.int i)
 | .str x _=>some (.str x)
 | .bytes b _=>some (.l6 b)
 | .float b _=>some (.vQ b)
 | .ref a=>some (.ref a)
 | .type n=>some (.ty n)
 | _=>none
theorem bX.abs {x:V} (r:bX x u):YI u=some x:=by
 cases x with
 | cn=>cases r;rfl
 | bo _=>cases r;rfl
 | int _=>obtain ⟨t,rfl⟩:=r;rfl
 | str _=>obtain ⟨t,rfl⟩:=r;rfl
 | l6 _=>obtain ⟨t,rfl⟩:=r;rfl
 | vQ _=>obtain ⟨t,rfl⟩:=r;rfl
 | ref _=>cases r;rfl
 | ty _=>cases r;rfl
theorem bX.inj {x y:V} (r:bX x u) (q:bX y u):x=y:=eE (r.abs.symm.trans q.abs)
theorem cQ.inj:∀ {xs ys:List V} {us:List Value},cQ xs us->cQ ys us->xs=ys
 | _,_,_,.nil,.nil=>rfl
 | _,_,_,.cons r t,.cons ej t'=>by rw [r.inj ej,cQ.inj t t']
section
variable {X:bb} {ab:List (Addr × Obj)} {σ:St} {H:aw} {s:Shared} {a:Addr} {xs ys:List V}
theorem ay.of {K:bk} (h:H a=some (.lst xs)):ay K H a xs:=.inl (.inl h)
theorem dR.of {K:bk} (h:H a=some (.tup xs)):dR K H a xs:=.inl (.inl h)
theorem Inv.list (J:Inv X ab σ H s) (h:ay X.K H a xs):∃ a7:List Value,cQ xs a7/\PlainL s.heap a a7.toArray/\xs.length <= sizeLine:=by
 rcases h with h | ⟨o,a7,n,aC,aB,hd,ax,aN,r⟩
 .obtain ⟨z,a7,n,r,e⟩:=h.ok J.bu;exact ⟨a7,r,⟨_,n,e,rfl,rfl,rfl⟩,z⟩
 .refine ⟨a7.toList,r,⟨o,n,J.jW a o aC,aB,hd,by simpa using ax⟩,?_⟩;have e:=r.length;simp only [EO] at e;omega
theorem Inv.tuple (J:Inv X ab σ H s) (h:dR X.K H a xs):∃ a7:List Value,cQ xs a7/\IsTup s.heap a a7.toArray/\xs.length <= sizeLine:=by
 rcases h with h | ⟨o,a7,n,aC,aB,ax,aN,r⟩
 .obtain ⟨z,a7,r,p⟩:=h.ok J.bu;exact ⟨a7,r,p,z.1⟩
 .refine ⟨a7.toList,r,⟨o,J.jW a o aC,aB,n,by simpa using ax⟩,?_⟩;have e:=r.length;simp only [EO] at e;omega
theorem Inv.A9 (J:Inv X ab σ H s) (h:ay X.K H a xs) (h':ay X.K H a ys):xs=ys:=by
 obtain ⟨a7,r,⟨o,n,e,_,_,d⟩,_⟩:=J.list h;obtain ⟨its',ej,⟨d6,dV,bH,_,_,d'⟩,_⟩:=J.list h';rw [e] at bH;cases bH;rw [d] at d';injection d' with dX _;have:a7=its':=by simpa using congrArg acg dX
 subst this;exact r.inj ej
theorem Inv.acU (J:Inv X ab σ H s) (h:dR X.K H a xs) (h':dR X.K H a ys):xs=ys:=by
 obtain ⟨a7,r,⟨o,e,_,n,d⟩,_⟩:=J.tuple h;obtain ⟨its',ej,⟨d6,bH,_,dV,d'⟩,_⟩:=J.tuple h';rw [e] at bH;cases bH;rw [d] at d';injection d' with dX _;have:a7=its':=by simpa using congrArg acg dX
 subst this;exact r.inj ej
end
noncomputable abbrev bb.lS (X:bb) (E:Value->Shared->Prop):bb:={ X with d2:=E }
noncomputable abbrev bb.sJ (X:bb):bb:=X.lS fun _ _=>False
theorem bb.Ok.lS {X:bb} (ok:X.Ok) (E:Value->Shared->Prop):(X.lS E).Ok:=
 ⟨ok.mod,ok.kind,ok.glob,ok.blt,ok.above,ok.inj,ok.has,ok.ub,ok.hd,ok.frames,ok.wo,ok.Ju,ok.bs,ok.nA,ok.vw,ok.vK,ok.mI,ok.rP⟩
theorem bb.Ok.q1 {X:bb} {E:Value->Shared->Prop} (ok:(X.lS E).Ok):X.Ok:=
 ⟨ok.mod,ok.kind,ok.glob,ok.blt,ok.above,ok.inj,ok.has,ok.ub,ok.hd,ok.frames,ok.wo,ok.Ju,ok.bs,ok.nA,ok.vw,ok.vK,ok.mI,ok.rP⟩
section
variable {X:bb} {ab:List (Addr × Obj)} {σ:St} {H:aw} {s:Shared} {E:Value->Shared->Prop}
theorem Inv.lS (J:Inv X ab σ H s) (E:Value->Shared->Prop):Inv (X.lS E) ab σ H s:=⟨J.ok.lS E,J.os,J.bare,J.base,J.loc,J.cell,J.free,J.j1,J.pin,J.bu,J.len⟩
theorem Inv.q1 (J:Inv (X.lS E) ab σ H s):Inv X ab σ H s:=⟨J.ok.q1,J.os,J.bare,J.base,J.loc,J.cell,J.free,J.j1,J.pin,J.bu,J.len⟩
theorem sS.q1 (h:sS (X.lS E) ab D f aj):sS X ab D f aj:=by
 cases f with
 | next=>obtain ⟨au,I,J,q⟩:=h;exact ⟨au,I,J.q1,q⟩
 | brk=>obtain ⟨au,I,J,q⟩:=h;exact ⟨au,I,J.q1,q⟩
 | cont=>obtain ⟨au,I,J,q⟩:=h;exact ⟨au,I,J.q1,q⟩
 | ret u=>obtain ⟨v,au,I,J,r,q⟩:=h;exact ⟨v,au,I,J.q1,r,q⟩
theorem jx.sJ {st:List Stmt} {t:ey} (h:jx X.sJ st t):jx X st t:=fun ab s σ H D J hw=>
 wpAny_mono (h ab s σ H D (J.lS _) hw) (fun _ _ q=>q.q1) fun _ _ z=>kH z
end
section
variable {X:bb} {st:Stmt} {lC:List Stmt} {t u:ey} {e:Expr} {bR:TE} {pos:Pos}
noncomputable def gQ:ey:=fun D σ H=>D.cT σ H
noncomputable def adw:Nat:=0
noncomputable def wO:Nat:=adw
noncomputable def CW:Nat:=wO
noncomputable def Dl:Nat:=CW
noncomputable def ac4:Nat:=Dl
noncomputable def Ze:Nat:=ac4
noncomputable def ab6:Nat:=Ze
noncomputable def ad8:Nat:=ab6
noncomputable def XK:Nat:=ad8
noncomputable def W8:Nat:=XK
noncomputable def W5:Nat:=W8
noncomputable def ago:Nat:=W5
noncomputable def Y6:Nat:=ago
noncomputable def KL (t u:ey):ey:=fun D σ H=>(fun _:Nat=>t { D with cT:=u D } σ H) Y6
theorem eh:jx X [] gQ:=fun _ _ σ H _ J h=>wpAny_execs_nil ⟨σ,H,J,h⟩
theorem db (af:hA X st t) (ak:jx X lC u):jx X (st :: lC) (KL t u):=by
 intro ab s σ H D J h;refine wpAny_execs_cons (bJ (af ab s σ H { D with cT:=u D } J h) fun f s1 q=>?_);cases f with
 | next=>
  obtain ⟨au,I,jy,q⟩:=q;exact ak ab s1 au I D jy q
 | ret v=>exact q
 | brk=>exact q
 | cont=>exact q
theorem a0 (af:hA X st t):jx X [st] t:=by
 intro ab s σ H D J h;refine wpAny_execs_cons (bJ (af ab s σ H D J h) fun f s1 q=>?_);cases f with
 | next=>exact wpAny_execs_nil q
 | ret v=>exact q
 | brk=>exact q
 | cont=>exact q
theorem Inv.quiet (J:Inv X ab σ H s):interactive X.env=false:=by simp [interactive,J.ok.kind]
noncomputable def KV (bR:TE):ey:=fun D σ H=>bR σ H fun _ H1=>D.cT σ H1
theorem dS (he:bD X e bR) (ax:swapsWith e none pos.line X.env=pure false:=by rfl):hA X (.Expr e pos) (KV bR):=by
 intro ab s σ H D J h;exact wpAny_Expr_any (bJ (he ab s σ H _ J h) fun v s1 cB=>ew cB fun x H1 aZ cN bS=>⟨σ,H1,aZ,bS⟩) J.quiet ax
noncomputable def Bt (bR:TE):ey:=fun D σ H=>bR σ H D.lL
theorem b' (he:bD X e bR):hA X (.Return (some e) pos) (Bt bR):=by
 intro ab s σ H D J h;exact wpAny_Return_some (bJ (he ab s σ H _ J h) fun v s1 cB=>ew cB fun x H1 aZ cN bS=>⟨x,σ,H1,aZ,cN,bS⟩)
noncomputable def HZ:ey:=fun D _ H=>D.lL .cn H
theorem alc:hA X (.Return none pos) HZ:=fun _ _ σ H _ J h=>wpAny_Return_none ⟨.cn,σ,H,J,rfl,h⟩
noncomputable def HR (c:TT) (t u:ey):ey:=fun D σ H=>c σ H fun b H1=>if b=true then t D σ H1 else u D σ H1
theorem dU (aB:iO X c dr) (aP:jx X a t) (aa:jx X b u):hA X (.If c a b pos) (HR dr t u):=by
 intro ab s σ H D J h;refine wpAny_If (bJ (aB ab s σ H _ J h) fun d s1 da=>?_);obtain ⟨H1,aZ,bS⟩:=da;cases d with
 | true=>exact aP ab s1 σ H1 D aZ bS
 | false=>exact aa ab s1 σ H1 D aZ bS
noncomputable def IT:ey:=fun _ _ _=>False
theorem pC:hA X st IT:=fun _ _ _ _ _ _ h=>h.elim
end
noncomputable abbrev gY:=V->St->aw->(St->aw->Prop)->Prop
noncomputable abbrev sy:=List V->St->aw->(St->aw->Prop)->Prop
def o8 (X:bb) (y3:Expr) (t:gY):Prop:=
 ∀ (ab:List (Addr × Obj)) (s:Shared) (σ:St) (H:aw) (v:V) (u:Value) (Q:St->aw->Prop),Inv X ab σ H s->bX v u->t v σ H Q ->
  wpAny (model X.prog X.w) X.A (assign y3 X.env u) (fun _ aj=>∃ au I,Inv X ab au I aj/\Q au I) X.d2 s
def xO (X:bb) (ts:List Expr) (t:sy):Prop:=
 ∀ (ab:List (Addr × Obj)) (s:Shared) (σ:St) (H:aw) (vs:List V) (us:List Value) (Q:St->aw->Prop),Inv X ab σ H s->cQ vs us->t vs σ H Q ->
  wpAny (model X.prog X.w) X.A (assignInOrder ((assignEach ts X.env).map (·.2)) us) (fun _ aj=>∃ au I,Inv X ab au I aj/\Q au I) X.d2 s
section
variable {X:bb} {pos:Pos}
noncomputable def gL (i:Nat):gY:=fun v σ H Q=>Q (σ.set i (some v)) H
theorem Vu {x:Str} (bj:X.N.Nodup) (ai:X.N[i]? = some x) (ah:Loc X.env.scope x) (hf:X.fn x=true\/X.env.scope.names.lookup x=some .local:=by first | exact .inl rfl | exact .inr rfl | assumption):o8 X (.Name x pos) (gL i):=by
 intro ab s σ H v u Q J r h;exact wpAny_assign_Name (R_ J bj ai ah r (fun aj jy=>⟨_,H,jy,h⟩) hf)
noncomputable def xg:sy:=fun vs σ H Q=>vs=[]/\Q σ H
noncomputable def tq (t:gY) (u:sy):sy:=fun vs σ H Q=>∃ v r,vs=v :: r/\t v σ H fun au I=>u r au I Q
theorem kC:xO X [] xg:=by
 intro ab s σ H vs us Q J r h;obtain ⟨e,h⟩:=h;subst e;cases r;exact assignInOrder_nil ⟨σ,H,J,h⟩
theorem eB {e:Expr} {t:gY} (af:o8 X e t) (ak:xO X aU u)
  (ax:(assignEach (e :: aU) X.env).map (·.2)=assign e X.env :: (assignEach aU X.env).map (·.2):=by rfl):xO X (e :: aU) (tq t u):=by
 intro ab s σ H vs us Q J r h;obtain ⟨v,aoj,aq,h⟩:=h;subst aq;cases r with
 | cons r kb=>
  rw [ax];refine assignInOrder_cons (bJ (af ab s σ H _ _ _ J r h) fun _ s1 da=>?_);obtain ⟨fk,H1,aZ,bS⟩:=da;exact ak ab s1 fk H1 _ _ Q aZ kb bS
noncomputable def vb (K:bk) (n:Nat) (t:sy):gY:=fun v σ H Q=>∃ a xs,v=.ref a/\dR K H a xs/\xs.length=n/\t xs σ H Q
theorem aka {k:Nat} {t:sy} (aB:X.calm=true) (h:xO X aU t)
  (aX:(assignEach aU X.env).length=n:=by rfl) (fS:(assignEach aU X.env).findIdx? (·.1)=none:=by rfl):o8 X (.Tuple aU k pos) (vb X.K n t):=by
 intro ab s σ H v u Q J r hw;obtain ⟨a,xs,aq,aR,aL,hw⟩:=hw;subst aq;cases r;obtain ⟨a7,cH,cR,aN⟩:=J.tuple aR;refine assign_Tuple_tuple (J.ok.hd aB) cR (by simp [aX,<- aL,cH.length]) fS fun h' ah=>?_
 have aZ:Inv X ab σ H { s with heap:=h' }:=J.kept (t':=s.toks) fun b o e=>ah b o (f7 (d8 e)) e
 exact h ab _ σ H xs _ Q aZ (by simpa using cH) hw
noncomputable def uP (bR:TE) (g:gY):ey:=fun D σ H=>bR σ H fun x H1=>g x σ H1 D.cT
theorem QN {dz e:Expr} (he:bD X e bR) (a8:o8 X dz g) (ax:swapsWithSole [dz] e pos.line X.env=pure false:=by rfl) (hw:swappedStores [dz] e X.env=pure none:=by rfl)
  (af:(assignEach [dz] X.env).map (·.2)=[assign dz X.env]:=by rfl):hA X (.Assign [dz] e pos) (uP bR g):=by
 intro ab s σ H D J h;refine wpAny_Assign_stores (bJ (he ab s σ H _ J h) fun v s1 cB=>ew cB fun x H1 aZ cN bS=>?_) ax hw;rw [af];exact bJ (a8 ab s1 σ H1 x v _ aZ cN bS) fun _ s2 q=>q
theorem n5 {x:Str} {e:Expr} (bj:X.N.Nodup) (ai:X.N[i]? = some x) (ah:Loc X.env.scope x) (he:bD X e bR) (ax:swapsWith e (some (.Name x pos')) pos.line X.env=pure false:=by rfl) (hf:X.fn x=true\/X.env.scope.names.lookup x=some .local:=by first | exact .inl rfl | exact .inr rfl | assumption) :
  hA X (.Assign [.Name x pos'] e pos) (uP bR (gL i)):=by
 intro ab s σ H D J h;refine wpAny_Assign_Name (bJ (he ab s σ H _ J h) fun v s1 cB=>ew cB fun y H1 aZ cN bS=>?_) ax;exact R_ aZ bj ai ah cN (fun s2 bV=>⟨_,H1,bV,bS⟩) hf
noncomputable def M9 (c:TT) (bG:ey):ey:=fun D σ H=>∃ W:Nat->St->aw->Prop,(∃ m,W m σ H)/\∀ m σ H,W m σ H ->
 c σ H fun b H1=>if b=true then ∃ N:St->aw->Prop,(∀ au I,N au I->∃ dP,dP < m/\W dP au I)/\bG { D with cT:=N,fv:=N,cP:=D.cT } σ H1 else D.cT σ H1
theorem Zt (ar:PassesOwn (model X.prog X.w) X.A X.env X.d2) (aB:iO X c dr) (aa:jx X body bG):hA X (.While c body [] pos) (M9 dr bG):=by
 intro ab s σ H D J h;obtain ⟨W,⟨m0,ob⟩,turn⟩:=h;refine wpAny_While (codeAny_whileLoop (fun n aj=>∃ au I,Inv X ab au I aj/\W n au I) ?_ m0 ⟨σ,H,J,ob⟩);rintro n s1 ⟨fk,H1,aZ,dC⟩;refine wpAny_passesOwn ar (bJ (aB ab s1 fk H1 _ aZ (turn n fk H1 dC)) fun b s2 da=>?_);obtain ⟨av,bV,eo⟩:=da;cases b with
 | true=>
  obtain ⟨N,bj,eo⟩:=eo;rw [if_pos rfl];refine wpAny_passesOwn ar (bJ (aa ab s2 fk av _ bV eo) fun f s3 ic=>?_);cases f with
  | next=>
   obtain ⟨fI,br,fu,di⟩:=ic;obtain ⟨dP,hm,hY⟩:=bj fI br di;exact ⟨dP,hm,fI,br,fu,hY⟩
  | cont=>
   obtain ⟨fI,br,fu,di⟩:=ic;obtain ⟨dP,hm,hY⟩:=bj fI br di;exact ⟨dP,hm,fI,br,fu,hY⟩
  | brk=>exact ic
  | ret v=>exact ic
 | false=>
  rw [if_neg fB];exact wpAny_execs_nil ⟨fk,av,bV,eo⟩
end
structure kc where
 go:Nat->aw->Prop
 ry:Nat->aw->V->aw->Prop
 stop:Nat->aw->Prop
def jR (X:bb) (ab:List (Addr × Obj)) (H:aw) (b:Addr):Prop:=
 H b=none/\b ≠ X.env.locals/\b ∉ X.a3/\(b ∈ X.ex\/X.fQ.heap.objs.size <= b)/\(∀ x c,X.env.cells.lookup x=some c->c ≠ b)/\∀ p ∈ X.eL ++ ab,p.1 ≠ b
theorem Inv.nY (J:Inv X ab σ H s) (aa:s.heap.objs.size <= b) (aX:I b=none):jR X ab I b:=by
 refine ⟨aX,Bi (h_ J.lt aa),J.H2 aa,.inr (cL J.nU aa),fun x c e z=>?_,fun p ar z=>?_⟩
 .obtain ⟨v,q⟩:=J.cell x c e;exact absurd (h_ q.lt (by rw [z];exact aa)) (oM _)
 .exact absurd (h_ (d8 (J.pin p ar).1) (by rw [z];exact aa)) (oM _)
structure qb (P:Program) (w:World) (K:bk) (dz:Expr) (bz:kc) (bf:List Addr) (it:Addr) (iq:Nat->Heap->Prop):Prop where
 mem:it ∈ bf
 obj:∀ i h,iq i h->∀ b ∈ bf,∃ o,h.get? b=some o/\∀ v,o.data ≠ .cell v
 keep:∀ i h h',iq i h->(∀ b ∈ bf,∀ o,h.get? b=some o->h'.get? b=some o)->iq i h'
 item:∀ (X:bb),X.prog=P->X.w=w->X.K=K->X.calm=true->∀ (i:Nat) (ab:List (Addr × Obj)) (s:Shared) (σ:St) (H:aw) (E:Value->Shared->Prop),Inv X ab σ H s->(∀ b ∈ bf,jR X ab H b)->iq i s.heap->bz.go i H ->
  wpAny (model P w) X.A (pyNext (.ref it)) (fun r s1=>∃ u,r=some u /\
   wpAny (model P w) X.A (letOwnedTupleGo dz (.ref it) u) (fun _ s2=>∃ x I,Inv X ab σ I s2/\bX x u/\bz.ry i H x I/\iq (i + 1) s2.heap/\∀ b ∈ bf,I b=none) E s1) E s
 done:∀ (X:bb),X.prog=P->X.w=w->X.K=K->X.calm=true->∀ (i:Nat) (ab:List (Addr × Obj)) (s:Shared) (σ:St) (H:aw) (E:Value->Shared->Prop),Inv X ab σ H s->(∀ b ∈ bf,jR X ab H b)->iq i s.heap->bz.stop i H ->
  wpAny (model P w) X.A (pyNext (.ref it)) (fun r s1=>r=none/\Inv X ab σ H s1) E s
 self:∀ (A:Around) (i:Nat) (s:Shared) (Q:Value->Shared->Prop) (E:Value->Shared->Prop),iq i s.heap->Q (.ref it) s->wpAny (model P w) A (pyIter (.ref it)) Q E s
noncomputable abbrev TI:=St->aw->(kc->aw->Prop)->Prop
def Q_ (X:bb) (ab:List (Addr × Obj)) (σ:St) (dz:Expr) (R:kc->aw->Prop) (CL:Value) (s2:Shared):Prop:=
 ∃ (it:Addr) (bf:List Addr) (iq:Nat->Heap->Prop) (bz:kc) (I:aw),CL=.ref it/\Inv X ab σ I s2/\qb X.prog X.w X.K dz bz bf it iq/\iq 0 s2.heap/\(∀ b ∈ bf,jR X ab I b)/\R bz I
def oa (X:bb) (dz iter:Expr) (hI:TI):Prop:=
 ∀ (ab:List (Addr × Obj)) (s:Shared) (σ:St) (H:aw) (R:kc->aw->Prop),Inv X ab σ H s->hI σ H R ->
  wpAny (model X.prog X.w) X.A (eval iter X.env) (fun v s1=>wpAny (model X.prog X.w) X.A (pyIter v) (Q_ X ab σ dz R) X.d2 s1) X.d2 s
theorem wz {A:Around} {it:Addr} (aS:s.heap.get? it=some o) (aB:o.cls=.type n) (hd:o.data=.fields vs)
    (aX:["enumerate","zip","dict_itemiterator","dict_reverseitemiterator","odict_iterator","itertools.zip_longest","itertools.pairwise"].contains n=false) (aV:Q () s):wpAny M A (letOwnedTupleGo dz (.ref it) u) Q E s:=by
  unfold letOwnedTupleGo;cases dz <;> first
    | exact wpAny_pure aV
    | (cases u <;> first
        | exact wpAny_pure aV
        | (refine wpAny_bind (wpAny_load aS ?_)
           rw [aB,hd];show wpAny M A (if (["enumerate","zip","dict_itemiterator","dict_reverseitemiterator","odict_iterator","itertools.zip_longest","itertools.pairwise"].contains n && vs[0]? == some (rawInt _))=true then _ else _) Q E s;rw [if_neg (by intro h;rw [aX,mv] at h;cases h)];exact wpAny_pure aV))
noncomputable def oD (K:bk) (a:Addr):kc:=
 ⟨fun i H=>∃ xs x,ay K H a xs/\xs[i]? = some x,fun i H x I=>I=H/\∀ xs,ay K H a xs->xs[i]? = some x,fun i H=>∃ xs,ay K H a xs/\xs.length <= i⟩
noncomputable def Bd (K:bk) (a:Addr):kc:=
 ⟨fun i H=>∃ xs x,dR K H a xs/\xs[i]? = some x,fun i H x I=>I=H/\∀ xs,dR K H a xs->xs[i]? = some x,fun i H=>∃ xs,dR K H a xs/\xs.length <= i⟩
noncomputable def l0 (lo:Int) (n:Nat):kc:=⟨fun i _=>i < n,fun i H x I=>I=H/\x=.int (lo + i),fun i _=>n <= i⟩
theorem aey {w:World} {K:bk} (a it:Addr):qb P w K dz (oD K a) [it] it (fun i h=>h.IsListIter it a i) where
 mem:=by simp
 obj:=fun i h st b aa=>by
  have e:b=it:=by simpa using aa
  subst e;obtain ⟨o,e,c,d⟩:=st;exact ⟨o,e,fun v z=>by rw [d] at z;cases z⟩
 keep:=fun i h h' st k=>st.at fun o e=>k it (by simp) o e
 item:=by
  intro X cF hw fo aB i ab s σ H E J hf st a8;subst cF hw fo;obtain ⟨xs,x,aR,ah⟩:=a8;obtain ⟨a7,cH,p,aN⟩:=J.list aR;obtain ⟨u,bY,eZ⟩:=cH.get ah;obtain ⟨f0,f1,f2,ez,f4,e0⟩:=hf it (by simp);refine wpAny_pyNext_list_item st p.isList (x:=u) (by simpa using bY) fun h' lW o4=>?_
  have aZ:Inv X ab σ H { s with heap:=h' }:=J.turned (t':=s.toks) (fun b o aa e=>(o4.2 b aa).trans e) f0 f1 ez f4 e0;obtain ⟨o,e,c,d⟩:=id lW;exact ⟨u,rfl,wz (s:={ s with heap:=h' }) e c d (by decide) ⟨x,H,aZ,eZ,⟨rfl,fun ys a6=>by rw [J.A9 a6 aR];exact ah⟩,lW,fun b aa=>(hf b aa).1⟩⟩
 done:=by
  intro X cF hw fo aB i ab s σ H E J hf st a8;subst cF hw fo;obtain ⟨xs,aR,ah⟩:=a8;obtain ⟨a7,cH,p,aN⟩:=J.list aR;obtain ⟨f0,f1,f2,ez,f4,e0⟩:=hf it (by simp);have aL:=cH.length;exact wpAny_pyNext_list_end (J.ok.hd aB) st p.isList (by simp;omega) fun h' eS=>⟨rfl,J.turned (t':=s.toks) (fun b o aa e=>eS b o aa e) f0 f1 ez f4 e0⟩
 self:=fun _ _ _ _ _ st h=>wpAny_pyIter_listiter st h
theorem aft {w:World} {K:bk} (a it:Addr):qb P w K dz (Bd K a) [it] it (fun i h=>h.IsTupleIter it a i) where
 mem:=by simp
 obj:=fun i h st b aa=>by
  have e:b=it:=by simpa using aa
  subst e;obtain ⟨o,e,c,d⟩:=st;exact ⟨o,e,fun v z=>by rw [d] at z;cases z⟩
 keep:=fun i h h' st k=>st.at fun o e=>k it (by simp) o e
 item:=by
  intro X cF hw fo aB i ab s σ H E J hf st a8;subst cF hw fo;obtain ⟨xs,x,aR,ah⟩:=a8;obtain ⟨a7,cH,p,aN⟩:=J.tuple aR;obtain ⟨u,bY,eZ⟩:=cH.get ah;obtain ⟨f0,f1,f2,ez,f4,e0⟩:=hf it (by simp);refine wpAny_pyNext_tuple_item st (show s.heap.IsTuple a a7.toArray from p) (x:=u) (by simpa using bY) fun h' lW o4=>?_
  have aZ:Inv X ab σ H { s with heap:=h' }:=J.turned (t':=s.toks) (fun b o aa e=>(o4.2 b aa).trans e) f0 f1 ez f4 e0;obtain ⟨o,e,c,d⟩:=id lW;exact ⟨u,rfl,wz (s:={ s with heap:=h' }) e c d (by decide) ⟨x,H,aZ,eZ,⟨rfl,fun ys a6=>by rw [J.acU a6 aR];exact ah⟩,lW,fun b aa=>(hf b aa).1⟩⟩
 done:=by
  intro X cF hw fo aB i ab s σ H E J hf st a8;subst cF hw fo;obtain ⟨xs,aR,ah⟩:=a8;obtain ⟨a7,cH,p,aN⟩:=J.tuple aR;obtain ⟨f0,f1,f2,ez,f4,e0⟩:=hf it (by simp);have aL:=cH.length;exact wpAny_pyNext_tuple_end (J.ok.hd aB) st (show s.heap.IsTuple a a7.toArray from p) (by simp;omega) fun h' eS=>⟨rfl,J.turned (t':=s.toks) (fun b o aa e=>eS b o aa e) f0 f1 ez f4 e0⟩
 self:=fun _ _ _ _ _ st h=>wpAny_pyIter_tupleiter st h
theorem aiP {w:World} {K:bk} (it:Addr) (lo:Int) (n:Nat):qb P w K dz (l0 lo n) [it] it (fun i h=>IsRangeIter h it (lo + (i:Nat) * 1) ((n:Int) - (i:Nat)) 1) where
 mem:=by simp
 obj:=fun i h st b aa=>by
  have e:b=it:=by simpa using aa
  subst e;exact ⟨_,st,fun v z=>by
   have gZ:VF _=Ei v:=z;cases gZ⟩
 keep:=fun i h h' st k=>k it (by simp) _ st
 item:=by
  intro X cF hw fo aB i ab s σ H E J hf st a8;subst cF hw fo;obtain ⟨f0,f1,f2,ez,f4,e0⟩:=hf it (by simp);have W:=Walks.range (prog:=X.prog) (w:=X.w) (J.ok.hd aB) it lo 1 n;refine W.item i s _ _ a8 st fun v h' tk aF lW qf=>?_
  obtain ⟨t,rfl⟩:=aF;have aZ:Inv X ab σ H { s with heap:=h',toks:=tk }:=J.turned (fun b o aa e=>qf b o (by simpa using aa) e) f0 f1 ez f4 e0;refine ⟨_,rfl,wz (s:={ s with heap:=h',toks:=tk }) (n := "range_iterator") lW rfl rfl (by decide) ⟨.int (lo + i),H,aZ,⟨t,?_⟩,⟨rfl,rfl⟩,lW,fun b aa=>(hf b aa).1⟩⟩;rw [Int.mul_one]
 done:=by
  intro X cF hw fo aB i ab s σ H E J hf st a8;subst cF hw fo;obtain ⟨f0,f1,f2,ez,f4,e0⟩:=hf it (by simp);exact wpAny_pyNext_range_end (J.ok.hd aB) st (by have:n <= i:=a8;omega) fun h' eS=>⟨rfl,J.turned (t':=s.toks) (fun b o aa e=>eS b o aa e) f0 f1 ez f4 e0⟩
 self:=fun _ _ _ _ _ st h=>wpAny_pyIter_rangeiter st h
section
variable {X:bb} {dz:Expr}
noncomputable def FG (K:bk) (c5:TE):TI:=fun σ H R=>c5 σ H fun x H1=>fG x fun a=>(∃ xs,ay K H1 a xs)/\R (oD K a) H1
noncomputable def KX (K:bk) (c5:TE):TI:=fun σ H R=>c5 σ H fun x H1=>fG x fun a=>(∃ xs,dR K H1 a xs)/\R (Bd K a) H1
theorem e5 (aL:bD X l c5):oa X dz l (FG X.K c5):=by
 intro ab s σ H R J h;refine bJ (aL ab s σ H _ J h) fun v s1 cB=>ew cB fun x H1 aZ cN bS=>?_
 obtain ⟨a,e,⟨xs,aR⟩,q⟩:=fG.out bS;subst e;cases cN;obtain ⟨a7,cH,p,aN⟩:=aZ.list aR;refine wpAny_pyIter_list p.isList ?_;refine ⟨s1.heap.objs.size,[s1.heap.objs.size],_,_,H1,rfl,aZ.kept (t':=s1.toks) fun b o e=>eJ _ e,aey a _,⟨_,gV _ rfl,rfl,rfl⟩,fun b aa=>?_,q⟩;have e:b=s1.heap.objs.size:=by simpa using aa
 subst e;exact aZ.nY (bP _) (aZ.bu.fresh (bP _))
theorem acV (aL:bD X l c5):oa X dz l (KX X.K c5):=by
 intro ab s σ H R J h;refine bJ (aL ab s σ H _ J h) fun v s1 cB=>ew cB fun x H1 aZ cN bS=>?_
 obtain ⟨a,e,⟨xs,aR⟩,q⟩:=fG.out bS;subst e;cases cN;obtain ⟨a7,cH,p,aN⟩:=aZ.tuple aR;refine wpAny_pyIter_tuple (show s1.heap.IsTuple a a7.toArray from p) ?_;refine ⟨s1.heap.objs.size,[s1.heap.objs.size],_,_,H1,rfl,aZ.kept (t':=s1.toks) fun b o e=>eJ _ e,aft a _,⟨_,gV _ rfl,rfl,rfl⟩,fun b aa=>?_,q⟩;have e:b=s1.heap.objs.size:=by simpa using aa
 subst e;exact aZ.nY (bP _) (aZ.bu.fresh (bP _))
theorem WF {ab:List (Addr × Obj)} {σ:St} {H:aw} {s:Shared} {R:kc->aw->Prop} {E:Value->Shared->Prop} {lo ai:Int} {t u v:Tok} {tk:Nat} (J:Inv X ab σ H s) (af:-(2 ^ 62) <= lo) (ak:lo < 2 ^ 62) (a5:-(2 ^ 62) <= ai) (bN:ai < 2 ^ 62)
  (q:R (l0 lo (ai - lo).toNat) H):wpAny (model X.prog X.w) X.A (pyIter (.ref s.heap.objs.size)) (Q_ X ab σ dz R) E { s with heap:=s.heap.push { cls:=.type "range",data:=.fields #[.int lo t,.int ai u,.int 1 v] },toks:=tk }:=by
 refine wpAny_pyIter_range (IsRange.new ..) (small_one af ak a5 bN) ?_;have aZ:Inv X ab σ H { s with heap:=s.heap.push { cls:=.type "range",data:=.fields #[.int lo t,.int ai u,.int 1 v] },toks:=tk }:=J.kept fun b o e=>eJ _ e
 refine ⟨(s.heap.push { cls:=.type "range",data:=.fields #[.int lo t,.int ai u,.int 1 v] }).objs.size,[(s.heap.push { cls:=.type "range",data:=.fields #[.int lo t,.int ai u,.int 1 v] }).objs.size],_,_,H,rfl,
  aZ.kept (t':=tk) fun b o e=>eJ _ e,aiP _ lo (ai - lo).toNat,?_,fun b aa=>?_,q⟩
 .have aq:lo + ((0:Nat):Int) * 1=lo:=by simp
  have aH:(((ai - lo).toNat:Nat):Int) - ((0:Nat):Int)=aoP lo ai 1:=by rw [rangeSize_one];split <;> omega
  show IsRangeIter _ _ (lo + ((0:Nat):Int) * 1) ((((ai - lo).toNat:Nat):Int) - ((0:Nat):Int)) 1;rw [aq,aH];exact gV _ rfl
 .have e:b=(s.heap.push { cls:=.type "range",data:=.fields #[.int lo t,.int ai u,.int 1 v] }).objs.size:=by simpa using aa
  subst e;exact aZ.nY (bP _) (aZ.bu.fresh (bP _))
noncomputable def VP (a9:fz):TI:=fun σ H R=>a9 σ H fun vs H1=>m9 vs fun x=>gW x fun j=>-(2 ^ 62) <= j/\j < 2 ^ 62/\R (l0 0 j.toNat) H1
noncomputable def Pd (a9:fz):TI:=fun σ H R=>a9 σ H fun vs H1=>∃ i j:Int,vs=[.int i,.int j]/\(-(2 ^ 62) <= i/\i < 2 ^ 62/\-(2 ^ 62) <= j/\j < 2 ^ 62)/\R (l0 i (j - i).toNat) H1
theorem kN {a:Expr} {a9:fz} {p pos:Pos} (a8:kX X "range") (hm:X.mg "range"=none) (aP:hy X [a] a9) (ax:starEach [a] X.env=[(false,eval a X.env)]:=by rfl):oa X dz (.Call (.Name "range" p) [a] [] pos) (VP a9):=by
 intro ab s σ H R J h;refine Call_ (r2 J a8 hm boot_range (Ed (bJ (aP pos ab s σ H _ J h) fun us s1 da=>?_) ax rfl));obtain ⟨vs,H1,aZ,cN,bS⟩:=da;obtain ⟨ZW,W9,g7⟩:=m9.out bS;obtain ⟨j,JJ,aiV,eo,q⟩:=gW.out g7;have e:=W9.trans (congrArg (fun z=>[z]) JJ);subst e;cases cN with
 | cons r kb=>
  cases kb;obtain ⟨t,rfl⟩:=r;exact call_range_1 (WF aZ (by omega) (by omega) aiV eo (by simpa using q))
theorem WS {p pos:Pos} (a8:kX X "range") (hm:X.mg "range"=none) (aP:hy X [a,b] a9) (ax:starEach [a,b] X.env=[(false,eval a X.env),(false,eval b X.env)]:=by rfl) (h9:starEach [b] X.env=[(false,eval b X.env)]:=by rfl) :
  oa X dz (.Call (.Name "range" p) [a,b] [] pos) (Pd a9):=by
 intro ab s σ H R J h;refine Call_ (r2 J a8 hm boot_range (Ed (bJ (aP pos ab s σ H _ J h) fun us s1 da=>?_) (by rw [ax,h9]) (by rw [h9];rfl)));obtain ⟨vs,H1,aZ,cN,bS⟩:=da;obtain ⟨i,j,e,⟨bS,eo,ic,yz⟩,q⟩:=bS;subst e;cases cN with
 | cons r kb=>
  cases kb with
  | cons ej kb=>
   cases kb;obtain ⟨t,rfl⟩:=r;obtain ⟨t',rfl⟩:=ej;exact call_range_2 (WF aZ bS eo ic yz q)
noncomputable def T8 (hI:TI) (g:gY) (bG:ey):ey:=fun D σ H=>hI σ H fun bz H1=>∃ W:Nat->Nat->St->aw->Prop,(∃ m,W 0 m σ H1)/\∀ i m σ H,W i m σ H ->
 (bz.stop i H/\D.cT σ H)\/(bz.go i H/\∃ N:St->aw->Prop,(∀ au I,N au I->∃ dP,dP < m/\W (i + 1) dP au I)/\∀ x I,bz.ry i H x I->g x σ I fun cw av=>bG { D with cT:=N,fv:=N,cP:=D.cT } cw av)
noncomputable def y5 (bf:List Addr) (h:Heap):List (Addr × Obj):=bf.filterMap fun b=>(h.get? b).map fun o=>(b,o)
theorem B8 {h:Heap} (aa:b ∈ bf) (e:h.get? b=some o):(b,o) ∈ y5 bf h:=ajn.mpr ⟨b,aa,by rw [e];rfl⟩
theorem ag6 {h:Heap} {p:Addr × Obj} (ar:p ∈ y5 bf h):p.1 ∈ bf/\h.get? p.1=some p.2:=by
 obtain ⟨b,aa,e⟩:=ajn.mp ar;cases q:h.get? b with
 | none=>rw [q] at e;cases e
 | some o=>
  rw [q] at e;have bH:(b,o)=p:=eE e;subst bH;exact ⟨aa,q⟩
theorem Inv.pinned (J:Inv X ab σ H s) (hf:∀ b ∈ bf,jR X ab H b) (aS:∀ b ∈ bf,∃ o,s.heap.get? b=some o/\∀ v,o.data ≠ .cell v):Inv X (ab ++ y5 bf s.heap) σ H s:=
 J.tu fun p ar=>(eR.mp ar).elim (fun z=>J.pin p (lO _ z)) fun z=>by
  obtain ⟨aa,e⟩:=ag6 z;obtain ⟨f0,f1,f2,_⟩:=hf p.1 aa;obtain ⟨o,bH,d⟩:=aS p.1 aa;rw [e] at bH;cases bH;exact ⟨e,f0,f1,f2,d⟩
theorem Inv.Ct (J:Inv X (ab ++ pl) σ H s):Inv X ab σ H s:=J.tu fun p ar=>J.pin p (lO _ (LS _ ar))
theorem fw (ar:PassesOwn (model X.prog X.w) X.A X.env X.d2) (aB:X.calm=true) (ai:oa X dz iter hI) (a8:o8 X dz g) (aa:jx X body bG)
  (ax:∀ x,foldedSetIterable iter X.env x=pure x:=by intro _;rfl):hA X (.For dz iter body [] pos) (T8 hI g bG):=by
 intro ab s σ H D J h;refine wpAny_For (bJ (ai ab s σ H _ J h) fun v s1 af=>bJ af fun CL s2 ak=>?_) ax;obtain ⟨it,bf,iq,bz,av,e,bV,T,si,f2,W,⟨m0,ob⟩,turn⟩:=ak;subst e;have stat:∀ {I:aw},(∀ b ∈ bf,I b=none)->∀ b ∈ bf,jR X ab I b:=fun aX b aa=>⟨aX b aa,(f2 b aa).2⟩
 refine codeAny_forLoop_any (fun n aj=>∃ i au I,Inv X ab au I aj/\iq i aj.heap/\(∀ b ∈ bf,I b=none)/\W i n au I) ?_ m0 ⟨0,σ,av,bV,si,fun b aa=>(f2 b aa).1,ob⟩;rintro n s3 ⟨i,fI,br,fu,Rw,VB,hY⟩;rcases turn i n fI br hY with ⟨stop,I8⟩ | ⟨go,N,bj,step⟩
 .refine wpAny_passesOwn ar (bJ (T.done X rfl rfl rfl aB i ab s3 fI br X.d2 fu (stat VB) Rw stop) fun r s4 da=>?_);obtain ⟨ao,iA⟩:=da;subst ao;exact wpAny_execs_nil ⟨fI,br,iA,I8⟩
 .refine wpAny_passesOwn ar (bJ (T.item X rfl rfl rfl aB i ab s3 fI br X.d2 fu (stat VB) Rw go) fun r s4 da=>?_);obtain ⟨u,ao,bN⟩:=da;subst ao;refine wpAny_passesOwn ar (bJ bN fun _ s5 da=>?_);obtain ⟨x,ck,xe,J8,KQ,tW,KC⟩:=da;have HB:=xe.pinned (stat KC) (T.obj _ _ tW);refine wpAny_passesOwn ar (bJ (a8 _ s5 fI ck x u _ HB J8 (step x ck KQ)) fun _ e1 da=>?_);obtain ⟨mQ,gg,Gn,J4⟩:=da;refine wpAny_passesOwn ar (bJ (aa _ e1 mQ gg _ Gn J4) fun f h4 nN=>?_);have again:∀ {kO:St} {fa:aw},Inv X (ab ++ y5 bf s5.heap) kO fa h4->N kO fa->∃ m,m < n/\∃ i au I,Inv X ab au I h4/\iq i h4.heap/\(∀ b ∈ bf,I b=none)/\W i m au I:=fun {kO fa} lj hK=>by
   obtain ⟨dP,hm,n0⟩:=bj kO fa hK;refine ⟨dP,hm,i + 1,kO,fa,lj.Ct,T.keep _ _ _ tW fun b aa o e=>(lj.pin (b,o) (lO _ (lO _ (B8 aa e)))).1,fun b aa=>?_,n0⟩;obtain ⟨o,e,d⟩:=T.obj _ _ tW b aa;exact (lj.pin (b,o) (lO _ (lO _ (B8 aa e)))).2.1
  cases f with
  | next=>obtain ⟨kO,fa,lj,hK⟩:=nN;exact again lj hK
  | cont=>obtain ⟨kO,fa,lj,hK⟩:=nN;exact again lj hK
  | brk=>obtain ⟨kO,fa,lj,nN⟩:=nN;exact ⟨kO,fa,lj.Ct,nN⟩
  | ret v=>obtain ⟨c0,kO,fa,lj,akk,nN⟩:=nN;exact ⟨c0,kO,fa,lj.Ct,akk,nN⟩
end
theorem X4 {K:bk} {a:Addr} {xs:List V} {g:gY} {bG:ey} {D:hV} {σ:St} {H:aw} (Pv:Nat->St->aw->Prop) (h0:Pv 0 σ H) (aL:∀ i σ H,i <= xs.length->Pv i σ H->ay K H a xs)
  (ax:∀ i x σ H,xs[i]? = some x->Pv i σ H->g x σ H fun cw av=>bG { D with cT:=Pv (i + 1),fv:=Pv (i + 1),cP:=D.cT } cw av) (hd:∀ σ H,Pv xs.length σ H->D.cT σ H) :
  ∃ W:Nat->Nat->St->aw->Prop,(∃ m,W 0 m σ H)/\∀ i m σ H,W i m σ H ->
   ((oD K a).stop i H/\D.cT σ H)\/((oD K a).go i H/\∃ N:St->aw->Prop,(∀ au I,N au I->∃ dP,dP < m/\W (i + 1) dP au I)/\∀ x I,(oD K a).ry i H x I->g x σ I fun cw av=>bG { D with cT:=N,fv:=N,cP:=D.cT } cw av):=by
 refine ⟨fun i m σ H=>m=xs.length - i/\i <= xs.length/\Pv i σ H,⟨xs.length,by simp,fh _,h0⟩,?_⟩;rintro i m σ H ⟨rfl,ai,p⟩;have q:=aL i σ H ai p;by_cases dw:i < xs.length
 .refine .inr ⟨⟨xs,xs[i],q,by simp [dw]⟩,Pv (i + 1),fun au I hO=>⟨xs.length - (i + 1),by omega,rfl,dw,hO⟩,fun x I y=>?_⟩;obtain ⟨e,y⟩:=y;subst e;exact ax i x σ _ (y xs q) p
 .have e:i=xs.length:=by omega
  subst e;exact .inl ⟨⟨xs,q,bP _⟩,hd σ H p⟩
theorem ahJ {lo:Int} {n:Nat} {g:gY} {bG:ey} {D:hV} {σ:St} {H:aw} (Pv:Nat->St->aw->Prop) (h0:Pv 0 σ H)
  (ax:∀ i σ H,i < n->Pv i σ H->g (.int (lo + i)) σ H fun cw av=>bG { D with cT:=Pv (i + 1),fv:=Pv (i + 1),cP:=D.cT } cw av) (hd:∀ σ H,Pv n σ H->D.cT σ H) :
  ∃ W:Nat->Nat->St->aw->Prop,(∃ m,W 0 m σ H)/\∀ i m σ H,W i m σ H ->
   ((l0 lo n).stop i H/\D.cT σ H)\/((l0 lo n).go i H/\∃ N:St->aw->Prop,(∀ au I,N au I->∃ dP,dP < m/\W (i + 1) dP au I)/\∀ x I,(l0 lo n).ry i H x I->g x σ I fun cw av=>bG { D with cT:=N,fv:=N,cP:=D.cT } cw av):=by
 refine ⟨fun i m σ H=>m=n - i/\i <= n/\Pv i σ H,⟨n,by simp,fh _,h0⟩,?_⟩;rintro i m σ H ⟨rfl,ai,p⟩;by_cases dw:i < n
 .refine .inr ⟨dw,Pv (i + 1),fun au I hO=>⟨n - (i + 1),by omega,rfl,dw,hO⟩,fun x I y=>?_⟩;obtain ⟨e,y⟩:=y;subst e y;exact ax i σ _ dw p
 .have e:i=n:=by omega
  subst e;exact .inl ⟨bP _,hd σ H p⟩
noncomputable abbrev e':=V->V->aw->c4->Prop
def hS (X:bb) (f:Value->Value->Sem Value) (r:e'):Prop:=
 ∀ (ab:List (Addr × Obj)) (s:Shared) (σ:St) (H:aw) (x y:V) (v u:Value) (Q:c4),Inv X ab σ H s->bX x v->bX y u->r x y H Q ->
  wpAny (model X.prog X.w) X.A (f v u) (gb X ab σ Q) X.d2 s
def Er (X:bb) (f:Value->Sem Value) (r:V->aw->c4->Prop):Prop:=
 ∀ (ab:List (Addr × Obj)) (s:Shared) (σ:St) (H:aw) (x:V) (v:Value) (Q:c4),Inv X ab σ H s->bX x v->r x H Q ->
  wpAny (model X.prog X.w) X.A (f v) (gb X ab σ Q) X.d2 s
def l_ (X:bb) (f:Value) (r:List V->aw->c4->Prop):Prop:=
 ∀ (ab:List (Addr × Obj)) (s:Shared) (σ:St) (H:aw) (xs:List V) (us:List Value) (Q:c4),Inv X ab σ H s->cQ xs us->r xs H Q ->
  wpAny (model X.prog X.w) X.A (call f us) (gb X ab σ Q) X.d2 s
def GT (X:bb) (r:V->aw->(Bool->aw->Prop)->Prop):Prop:=
 ∀ (ab:List (Addr × Obj)) (s:Shared) (σ:St) (H:aw) (x:V) (v:Value) (Q:Bool->aw->Prop),Inv X ab σ H s->bX x v->r x H Q ->
  wpAny (model X.prog X.w) X.A (truthy v) (DZ X ab σ Q) X.d2 s
noncomputable def t6 (r:e') (a9 bG:TE):TE:=fun σ H Q=>a9 σ H fun x H1=>bG σ H1 fun y av=>r x y av Q
noncomputable def JB (r:V->aw->c4->Prop) (a9:TE):TE:=fun σ H Q=>a9 σ H fun x H1=>r x H1 Q
noncomputable def wA (C:Int->Int->Prop) (g:Int->Int->V):e':=fun x y H Q=>gW x fun i=>gW y fun j=>C i j/\Q (g i j) H
noncomputable def oU (g:Int->Int->V):e':=fun x y H Q=>gW x fun i=>gW y fun j=>Q (g i j) H
noncomputable def AX (g:Int->V):V->aw->c4->Prop:=fun x H Q=>gW x fun i=>Q (g i) H
section
variable {X:bb} {a b c:Expr} {a9 bG dr:TE} {pos:Pos}
theorem GC (aP:bD X a a9) (aa:bD X b bG) {ab:List (Addr × Obj)} {s:Shared} {σ:St} {H:aw} {R:V->V->aw->Prop} (J:Inv X ab σ H s)
  (h:a9 σ H fun x H1=>bG σ H1 fun y av=>R x y av) {Q:Value->Shared->Prop} {f:Value->Value->Sem Value}
  (hf:∀ v u s2 x y av,Inv X ab σ av s2->bX x v->bX y u->R x y av->wpAny (model X.prog X.w) X.A (f v u) Q X.d2 s2) :
  wpAny (model X.prog X.w) X.A (eval a X.env) (fun v du=>wpAny (model X.prog X.w) X.A (eval b X.env) (fun u d5=>wpAny (model X.prog X.w) X.A (f v u) Q X.d2 d5) X.d2 du) X.d2 s:=by
 refine bJ (aP ab s σ H _ J h) fun v s1 cB=>ew cB fun x H1 aZ cN bS=>?_
 refine bJ (aa ab s1 σ H1 _ aZ bS) fun u s2 cB=>ew cB fun y av bV gJ eo=>?_
 exact hf v u s2 x y av bV cN gJ eo
theorem bE {op:Operator} {r:e'} (aS:hS X (binaryOp op) r) (aP:bD X a a9) (aa:bD X b bG):bD X (.BinOp a op b pos) (t6 r a9 bG):=by
 intro ab s σ H Q J h;exact wpAny_BinOp (GC aP aa J h fun v u s2 x y av bV bg bA q=>aS ab s2 σ av x y v u Q bV bg bA q)
theorem ov (aS:Er X (unaryOp op) r) (aP:bD X a a9):bD X (.UnaryOp op a pos) (JB r a9):=by
 intro ab s σ H Q J h;exact UnaryOp_ (bJ (aP ab s σ H _ J h) fun v s1 cB=>ew cB fun x H1 aZ cN bS=>aS ab s1 σ H1 x v Q aZ cN bS)
theorem OY {f:Value->Value->Sem Value} {C:Int->Int->Prop} {g:Int->Int->Int}
  (rule:∀ (i j:Int) (t u:Tok) (s:Shared) (Q:Value->Shared->Prop) (E:Value->Shared->Prop),C i j->Q (.int (g i j) s.toks) { s with toks:=s.toks + 1 }->wpAny (model X.prog X.w) X.A (f (.int i t) (.int j u)) Q E s) :
  hS X f (wA C fun i j=>.int (g i j)):=by
 intro ab s σ H x y v u Q J bg bA h;obtain ⟨i,rfl,jw⟩:=gW.out h;obtain ⟨j,rfl,aB,q⟩:=gW.out jw;obtain ⟨t,rfl⟩:=bg;obtain ⟨t',rfl⟩:=bA;exact rule i j t t' s _ _ aB ⟨.int (g i j),H,J.tok _,⟨_,rfl⟩,q⟩
theorem wT {f:Value->Value->Sem Value} {g:Int->Int->Int}
  (rule:∀ (i j:Int) (t u:Tok) (s:Shared) (Q:Value->Shared->Prop) (E:Value->Shared->Prop),Q (.int (g i j) s.toks) { s with toks:=s.toks + 1 }->wpAny (model X.prog X.w) X.A (f (.int i t) (.int j u)) Q E s) :
  hS X f (oU fun i j=>.int (g i j)):=by
 intro ab s σ H x y v u Q J bg bA h;obtain ⟨i,rfl,jw⟩:=gW.out h;obtain ⟨j,rfl,q⟩:=gW.out jw;obtain ⟨t,rfl⟩:=bg;obtain ⟨t',rfl⟩:=bA;exact rule i j t t' s _ _ ⟨.int (g i j),H,J.tok _,⟨_,rfl⟩,q⟩
theorem z9 {f:Value->Value->Sem Value} {g:Int->Int->Bool}
  (rule:∀ (i j:Int) (t u:Tok) (s:Shared) (Q:Value->Shared->Prop) (E:Value->Shared->Prop),Q (.bool (g i j)) s->wpAny (model X.prog X.w) X.A (f (.int i t) (.int j u)) Q E s) :
  hS X f (oU fun i j=>.bo (g i j)):=by
 intro ab s σ H x y v u Q J bg bA h;obtain ⟨i,rfl,jw⟩:=gW.out h;obtain ⟨j,rfl,q⟩:=gW.out jw;obtain ⟨t,rfl⟩:=bg;obtain ⟨t',rfl⟩:=bA;exact rule i j t t' s _ _ ⟨.bo (g i j),H,J,rfl,q⟩
def nX (i j:Int):Prop:=(-(2 ^ 64) < i/\i < 2 ^ 64)\/(-(2 ^ 64) < j/\j < 2 ^ 64)
theorem nX.ok (h:nX i j):IntMulOk i j:=by
 rcases h with ⟨af,ak⟩ | ⟨af,ak⟩
 .exact .of_left (intBits_le_64 af ak)
 .exact .of_right (intBits_le_64 af ak)
theorem d4:hS X (binaryOp .Add) (oU fun i j=>.int (i + j)):=wT fun _ _ _ _ _ _ _ q=>add_int q
theorem k':hS X (binaryOp .Sub) (oU fun i j=>.int (i - j)):=wT fun _ _ _ _ _ _ _ q=>sub_int q
theorem kg:hS X (binaryOp .Mult) (wA nX fun i j=>.int (i * j)):=OY fun _ _ _ _ _ _ _ aB q=>mul_int q aB.ok
theorem iH:hS X (binaryOp .Mod) (wA (fun _ j=>0 < j) fun i j=>.int (i % j)):=OY fun i j _ _ _ _ _ aB q=>by
 have af:(0:Int) < j:=aB;exact mod_int' (by omega) (by rw [Int.fmod_eq_emod_of_nonneg i (by omega)];exact q)
theorem Yd {f:Value->Sem Value} {g:Int->Int}
  (rule:∀ (i:Int) (t:Tok) (s:Shared) (Q:Value->Shared->Prop) (E:Value->Shared->Prop),Q (.int (g i) s.toks) { s with toks:=s.toks + 1 }->wpAny (model X.prog X.w) X.A (f (.int i t)) Q E s) :
  Er X f (AX fun i=>.int (g i)):=by
 intro ab s σ H x v Q J bg h;obtain ⟨i,rfl,q⟩:=gW.out h;obtain ⟨t,rfl⟩:=bg;exact rule i t s _ _ ⟨.int (g i),H,J.tok _,⟨_,rfl⟩,q⟩
theorem oy:Er X (unaryOp .USub) (AX fun i=>.int (-i)):=Yd fun _ _ _ _ _ q=>neg_int q
end
noncomputable def Lb:V->V->Bool
 | .cn,.cn=>true | .cn,.int _=>true | .int _,.cn=>true | .cn,.bo _=>true | .bo _,.cn=>true | .cn,.str _=>true | .str _,.cn=>true
 | .int _,.int _=>true | .bo _,.bo _=>true | .str _,.str _=>true | .l6 _,.l6 _=>true
 | .int _,.str _=>true | .str _,.int _=>true | .bo _,.str _=>true | .str _,.bo _=>true
 | _,_=>false
noncomputable def K4:e':=fun x y H Q=>Lb x y=true/\Q (.bo (decide (x=y))) H
noncomputable def LA:e':=fun x y H Q=>Lb x y=true/\Q (.bo (!decide (x=y))) H
theorem Pp:decide (V.int i=V.int j)=(i == j):=by
 rw [l4];simp
theorem Mu:decide (V.bo i=V.bo j)=(i == j):=by
 rw [l4];simp
theorem Vj:decide (V.str i=V.str j)=(i == j):=by
 rw [l4];simp
theorem O0:decide (V.l6 i=V.l6 j)=(i.toList == j.toList):=by
 rw [l4];cases i;cases j;simp
section
variable {X:bb} {a b c:Expr} {a9 bG dr:TE} {pos:Pos}
theorem fE {k tJ:Bool} (J:Inv X ab σ H s) (q:Q (.bo k) H) (e:k=tJ):gb X ab σ Q (.bool tJ) s:=by
 subst e;exact ⟨.bo k,H,J,rfl,q⟩
theorem et:hS X (compareOp .Eq) K4:=by
 intro ab s σ H x y v u Q J bg bA h;obtain ⟨ax,q⟩:=h;cases x with
 | cn=>
  cases bg;cases y with
  | cn=>cases bA;exact ao' (fE J q (by simp))
  | bo j=>cases bA;exact am7 (fE J q (by simp))
  | int j=>obtain ⟨t',rfl⟩:=bA;exact am4 (fE J q (by simp))
  | str j=>obtain ⟨t',rfl⟩:=bA;exact aoM (fE J q (by simp))
  | _=>exact absurd (show false=true from ax) fB
 | bo i=>
  cases bg;cases y with
  | cn=>cases bA;exact ao0 (fE J q (by simp))
  | bo j=>cases bA;exact eq_bool (fE J q Mu)
  | str j=>obtain ⟨t',rfl⟩:=bA;exact aoq (fE J q (by simp))
  | _=>exact absurd (show false=true from ax) fB
 | int i=>
  obtain ⟨t,rfl⟩:=bg;cases y with
  | cn=>cases bA;exact aoX (fE J q (by simp))
  | int j=>obtain ⟨t',rfl⟩:=bA;exact eq_int (fE J q Pp)
  | str j=>obtain ⟨t',rfl⟩:=bA;exact ans (fE J q (by simp))
  | _=>exact absurd (show false=true from ax) fB
 | str i=>
  obtain ⟨t,rfl⟩:=bg;cases y with
  | cn=>cases bA;exact an4 (fE J q (by simp))
  | bo j=>cases bA;exact aon (fE J q (by simp))
  | int j=>obtain ⟨t',rfl⟩:=bA;exact ape (fE J q (by simp))
  | str j=>obtain ⟨t',rfl⟩:=bA;exact eq_str (fE J q Vj)
  | _=>exact absurd (show false=true from ax) fB
 | l6 i=>
  obtain ⟨t,rfl⟩:=bg;cases y with
  | l6 j=>obtain ⟨t',rfl⟩:=bA;exact PySem.W.eq_bytes (fE J q O0)
  | _=>exact absurd (show false=true from ax) fB
 | _=>cases y <;> exact absurd (show false=true from ax) fB
theorem pM:hS X (compareOp .NotEq) LA:=by
 intro ab s σ H x y v u Q J bg bA h;obtain ⟨ax,q⟩:=h;cases x with
 | cn=>
  cases bg;cases y with
  | cn=>cases bA;exact aox (fE J q (by simp))
  | bo j=>cases bA;exact aor (fE J q (by simp))
  | int j=>obtain ⟨t',rfl⟩:=bA;exact apd (fE J q (by simp))
  | str j=>obtain ⟨t',rfl⟩:=bA;exact am2 (fE J q (by simp))
  | _=>exact absurd (show false=true from ax) fB
 | bo i=>
  cases bg;cases y with
  | cn=>cases bA;exact anN (fE J q (by simp))
  | bo j=>cases bA;exact ne_bool (fE J q (congrArg not Mu))
  | str j=>obtain ⟨t',rfl⟩:=bA;exact anY (fE J q (by simp))
  | _=>exact absurd (show false=true from ax) fB
 | int i=>
  obtain ⟨t,rfl⟩:=bg;cases y with
  | cn=>cases bA;exact am8 (fE J q (by simp))
  | int j=>obtain ⟨t',rfl⟩:=bA;exact ne_int (fE J q (congrArg not Pp))
  | str j=>obtain ⟨t',rfl⟩:=bA;exact ang (fE J q (by simp))
  | _=>exact absurd (show false=true from ax) fB
 | str i=>
  obtain ⟨t,rfl⟩:=bg;cases y with
  | cn=>cases bA;exact am1 (fE J q (by simp))
  | bo j=>cases bA;exact am6 (fE J q (by simp))
  | int j=>obtain ⟨t',rfl⟩:=bA;exact anb (fE J q (by simp))
  | str j=>obtain ⟨t',rfl⟩:=bA;exact ne_str (fE J q (congrArg not Vj))
  | _=>exact absurd (show false=true from ax) fB
 | l6 i=>
  obtain ⟨t,rfl⟩:=bg;cases y with
  | l6 j=>obtain ⟨t',rfl⟩:=bA;exact PySem.W.ne_bytes (fE J q (congrArg not O0))
  | _=>exact absurd (show false=true from ax) fB
 | _=>cases y <;> exact absurd (show false=true from ax) fB
theorem lR:hS X (compareOp .Lt) (oU fun i j=>.bo (decide (i < j))):=z9 fun _ _ _ _ _ _ _ q=>lt_int q
theorem ak5:hS X (compareOp .LtE) (oU fun i j=>.bo (decide (i <= j))):=z9 fun _ _ _ _ _ _ _ q=>le_int q
theorem rb:hS X (compareOp .Gt) (oU fun i j=>.bo (decide (j < i))):=z9 fun _ _ _ _ _ _ _ q=>gt_int q
theorem PL:hS X (compareOp .GtE) (oU fun i j=>.bo (decide (j <= i))):=z9 fun _ _ _ _ _ _ _ q=>ge_int q
theorem afQ:hS X (compareOp .In) (fun x y H Q=>∃ i j,x=.str i/\y=.str j/\Q (.bo (!(tS j i 0 j.length 1).isEmpty)) H):=by
 intro ab s σ H x y v u Q J bg bA h;obtain ⟨i,j,rfl,rfl,q⟩:=h;obtain ⟨t,rfl⟩:=bg;obtain ⟨t',rfl⟩:=bA;exact in_str (fE J q rfl)
theorem amz:hS X (compareOp .Is) (fun x y H Q=>y=.cn/\Q (.bo (decide (x=.cn))) H):=by
 intro ab s σ H x y v u Q J bg bA h;obtain ⟨rfl,q⟩:=h;cases bA;refine is_none_gen (fE J q ?_);cases x <;> first
  | (cases bg;rfl)
  | (obtain ⟨t,rfl⟩:=bg;rfl)
theorem V5:hS X (compareOp .IsNot) (fun x y H Q=>y=.cn/\Q (.bo (!decide (x=.cn))) H):=by
 intro ab s σ H x y v u Q J bg bA h;obtain ⟨rfl,q⟩:=h;cases bA;refine isnot_none_gen (fE J q ?_);cases x <;> first
  | (cases bg;rfl)
  | (obtain ⟨t,rfl⟩:=bg;rfl)
theorem cA (b:Expr) (h:op ≠ .In:=by decide) (ak:op ≠ .NotIn:=by decide):behindInMarks op b=false:=by
 have aq:(op == CmpOp.In)=false:=by cases op <;> first | rfl | exact absurd rfl h
 have aH:(op == WK)=false:=by cases op <;> first | rfl | exact absurd rfl ak
 cases b <;> simp [behindInMarks,aq,aH]
theorem h7 (aS:hS X (compareOp op) r) (aP:bD X a a9) (aa:bD X b bG) (hm:behindInMarks op b=false):bD X (.Compare a [op] [b] pos) (t6 r a9 bG):=by
 intro ab s σ H Q J h;exact wpAny_Compare1 (GC aP aa J h fun v u s2 x y av bV bg bA q=>aS ab s2 σ av x y v u Q bV bg bA q) hm
noncomputable def F8 (t:TE):TT:=fun σ H Q=>t σ H fun x I=>kx x fun k=>Q k I
theorem cX (aS:hS X (compareOp op) r) (aP:bD X a a9) (aa:bD X b bG) (hm:behindInMarks op b=false):iO X (.Compare a [op] [b] pos) (F8 (t6 r a9 bG)):=by
 intro ab s σ H Q J h;refine wpAny_isTrue_Compare1 (bJ (aP ab s σ H _ J h) fun v s1 cB=>ew cB fun x H1 aZ cN bS=>bJ (aa ab s1 σ H1 _ aZ bS) fun u s2 ⟨y,av,bV,gJ,eo⟩=>
  bJ (aS ab s2 σ av x y v u _ bV cN gJ eo) fun c s3 cB=>ew cB fun z br fu JG g7=>?_) hm
 obtain ⟨k,e,ic⟩:=kx.out g7;subst e;cases JG;exact wpAny_truthy_bool ⟨br,fu,ic⟩
def R6 (K:bk) (x:V) (H:aw) (k:Bool):Prop:=
 match x with
 | .cn=>k=false
 | .bo b=>k=b
 | .int i=>k=(i != 0)
 | .str y=>y.length <= sizeLine/\k=((y.length:Int) != 0)
 | .l6 y=>y.size <= sizeLine/\k=((y.size:Int) != 0)
 | .ref p=>(∃ xs,ay K H p xs/\k = !xs.isEmpty)\/(∃ xs,dR K H p xs/\k = !xs.isEmpty)\/∃ kvs,H p=some (.bW kvs)/\k = !kvs.isEmpty
 | _=>False
theorem ahL (r:e9 kvs vs):(!vs.isEmpty) = !kvs.isEmpty:=by
 cases r <;> rfl
theorem Vt {a7:List Value} (r:cQ xs a7):(!a7.toArray.isEmpty) = !xs.isEmpty:=by
 cases r <;> simp
theorem uv:(sizeLine:Nat) < 2 ^ 63:=by rw [sizeLine_eq];decide
theorem acP:GT X (fun x H Q=>∃ k,R6 X.K x H k/\Q k H):=by
 intro ab s σ H x v Q J bg h;obtain ⟨k,e,q⟩:=h;have aL:=uv;have ax:sizeLine=16777216:=sizeLine_eq;cases x with
 | cn=>
  cases bg;have bH:k=false:=e;subst bH;exact truthy_none ⟨H,J,q⟩
 | bo b=>
  cases bg;have bH:k=b:=e;subst bH;exact wpAny_truthy_bool ⟨H,J,q⟩
 | int i=>
  obtain ⟨t,rfl⟩:=bg;have bH:k=(i != 0):=e;subst bH;exact PySem.P.truthy_int ⟨H,J,q⟩
 | str y=>
  obtain ⟨t,rfl⟩:=bg;obtain ⟨a6,bH⟩:y.length <= sizeLine/\k=((y.length:Int) != 0):=e;subst bH;exact PySem.P.truthy_str (by omega) ⟨H,J.tok _,q⟩
 | l6 y=>
  obtain ⟨t,rfl⟩:=bg;obtain ⟨a6,bH⟩:y.size <= sizeLine/\k=((y.size:Int) != 0):=e;subst bH;exact PySem.W.truthy_bytes (by omega) ⟨H,J.tok _,q⟩
 | ref p=>
  cases bg;have bH:(∃ xs,ay X.K H p xs/\k = !xs.isEmpty)\/(∃ xs,dR X.K H p xs/\k = !xs.isEmpty)\/∃ kvs,H p=some (.bW kvs)/\k = !kvs.isEmpty:=e;rcases bH with ⟨xs,ah,bH⟩ | ⟨xs,ah,bH⟩ | ⟨kvs,ah,bH⟩
  .subst bH;obtain ⟨a7,r,pl,aN⟩:=J.list ah;have hlen:=r.length;exact wpAny_truthy_list pl.isList (by simp only [ft];omega) ⟨H,J.tok _,by rw [Vt r];exact q⟩
  .subst bH;obtain ⟨a7,r,pl,aN⟩:=J.tuple ah;have hlen:=r.length;exact truthy_tuple pl (by simp only [ft];omega) ⟨H,J.tok _,by rw [Vt r];exact q⟩
  .subst bH;obtain ⟨aN,dE,vs,r,m⟩:kvs.length <= sizeLine/\(p == sysModules)=false/\∃ vs,e9 kvs vs/\s.heap.DictOf (iu X.prog X.w) p vs:=J.bu p _ ah;have hlen:kvs.length=vs.length:=Jd r;exact wpAny_truthy_dict dE m (by omega) ⟨H,J.tok _,by rw [ahL r];exact q⟩
 | _=>exact (show False from e).elim
theorem Cv (aP:bD X a a9) (he:∀ whole,isTrue a X.env whole=(do let v <- whole;standAt a.pos;holding [v] (truthy v))) :
  iO X a (fun σ H Q=>a9 σ H fun x I=>∃ k,R6 X.K x I k/\Q k I):=by
 intro ab s σ H Q J h;exact isTrue_plain (bJ (aP ab s σ H _ J h) fun v s1 cB=>ew cB fun x H1 aZ cN bS=>acP ab s1 σ H1 x v Q aZ cN bS) (he _)
theorem be:hS X (binaryOp .Add) (fun x y H Q=>∃ i j,x=.str i/\y=.str j/\i.length + j.length <= sizeLine/\Q (.str (i ++ j)) H):=by
 intro ab s σ H x y v u Q J bg bA h;obtain ⟨i,j,rfl,rfl,aN,q⟩:=h;obtain ⟨t,rfl⟩:=bg;obtain ⟨t',rfl⟩:=bA;exact add_str (fun t' tk=>⟨.str (i ++ j),H,J.tok _,⟨_,rfl⟩,q⟩) aN
theorem lV {x:V} (r:cQ [x] us):∃ u,us=[u]/\bX x u:=by
 cases r with
 | cons cN gJ=>cases gJ;exact ⟨_,rfl,cN⟩
theorem afZ {x y:V} (r:cQ [x,y] us):∃ u e_,us=[u,e_]/\bX x u/\bX y e_:=by
 cases r with
 | cons cN gJ=>
  cases gJ with
  | cons JG abQ=>cases abQ;exact ⟨_,_,rfl,cN,JG⟩
theorem acp (aB:X.calm=true):l_ X (.builtin "max") (fun xs H Q=>∃ i j,xs=[.int i,.int j]/\Q (.int (if j > i then j else i)) H):=by
 intro ab s σ H xs us Q J r h;obtain ⟨i,j,rfl,q⟩:=h;obtain ⟨u,e_,rfl,⟨t,rfl⟩,⟨t',rfl⟩⟩:=afZ r;refine max_two_ints (J.ok.hd aB) fun h' tk k=>⟨_,H,J.kept k,?_,q⟩
 by_cases aG:j > i
 .rw [if_pos aG,if_pos aG];exact ⟨_,rfl⟩
 .rw [if_neg aG,if_neg aG];exact ⟨_,rfl⟩
theorem SI:l_ X (.type "int") (fun xs H Q=>(∃ i,xs=[.int i]/\Q (.int i) H)\/∃ k,xs=[.bo k]/\Q (.int (if k then 1 else 0)) H):=by
 intro ab s σ H xs us Q J r h;rcases h with ⟨i,rfl,q⟩ | ⟨k,rfl,q⟩
 .obtain ⟨u,rfl,t,rfl⟩:=lV r;exact call_int_int ⟨.int i,H,J,⟨_,rfl⟩,q⟩
 .obtain ⟨u,rfl,cN⟩:=lV r;cases cN;exact call_int_bool ⟨.int (if k then 1 else 0),H,J.tok _,⟨_,rfl⟩,q⟩
theorem yD:l_ X (.type "str") (fun xs H Q=>∃ i,xs=[.int i]/\i.natAbs.log2 < 1920/\Q (.str (toString i)) H):=by
 intro ab s σ H xs us Q J r h;obtain ⟨i,rfl,aN,q⟩:=h;obtain ⟨u,rfl,t,rfl⟩:=lV r;exact PySem.P.str_of_int aN ⟨.str _,H,J.tok _,⟨_,rfl⟩,q⟩
end
structure s6 (h:Heap) (x az C:Addr) (eT:Str->Option Value):Prop where
 obj:h.get? x=some (t7 C az)
 ns:h.Ns1 az eT
 ne:az ≠ x
set_option tactic.hygienic true in
theorem abu {h:Heap} (n:h.Ns1 az eT):∃ fi,h.get? az=some fi/\∀ name,IJ name fi=some (eT name):=by
 obtain ⟨o,aU,ct,aS,hd,aC,_,hm⟩:=n;refine ⟨o,aS,fun name=>?_⟩;have e:=hm name;unfold nsFind findBy at e;rw [<- Array.find?_toList] at e;unfold IJ;rw [hd];dsimp only;split
 .rename_i y q;rw [q] at e;exact congrArg some e
 .rename_i q;rw [q] at e;have a:aU.toList.any (·.refKey)=false:=by
   rw [Vc];intro y a6;obtain ⟨z,t,adl⟩:=aC y (Array.mem_toList_iff.mp a6);simp [DictEntry.refKey,adl]
  have uw:¬ aU.toList.any (·.refKey)=true:=by rw [a];exact fB
  rw [if_neg uw];exact congrArg some e
theorem s6.look {h:Heap} {x az C:Addr} (J:s6 h x az C eT):∃ fi,PySem.W.InstAt h x (t7 C az) C (some fi)/\∀ name,IJ name fi=some (eT name):=
 let ⟨fi,aS,aL⟩:=abu J.ns
 ⟨fi,⟨J.obj,rfl,rfl,aS⟩,aL⟩
section
variable {prog:Program} {w:World} {A:Around} {E:Value->Shared->Prop} {s:Shared} {K:bk} {x az C f:Addr} {eT:Str->Option Value} {name:Str} {v:Value}
theorem acR (X:K.In s.heap) (J:s6 s.heap x az C eT) (a8:Kk K C name=true) (b2:z6 K C=true)
  (aP:dK K (.ref C) name=some none) (aF:eT name=some v) (EW:acS v=true) (h:Q v { s with toks:=s.toks + 1 }) :
  wpAny (model prog w) A (getAttr (.ref x) name expr) Q E s:=by
 obtain ⟨fi,bz,aL⟩:=J.look;exact PySem.W.get_value X bz (UC a8).1 (PySem.W.findObj_own b2 aP rfl (by rw [aL,aF])) EW h
theorem Zo (X:K.In s.heap) (J:s6 s.heap x az C eT) (a8:Kk K C name=true)
  (hf:dK K (.ref C) name=some (some (.ref f))) (cR:U5 K (.ref f)=true) (aF:eT name=none) (h:Q (.ref f,[.ref x]) s) :
  wpAny (model prog w) A (getMethod (.ref x) name pl) Q E s:=by
 obtain ⟨fi,bz,aL⟩:=J.look;exact PySem.W.method_fn X bz (UC a8).1 (UC a8).2 hf (beq_iff_eq.mp cR) (by show (IJ name fi).map (·.isSome)=some false;rw [aL,aF];rfl) h
theorem ak' {ns:List Str} (X:K.In s.heap) (J:s6 s.heap x az C eT)
  (ax:dK K (.ref C) "__setattr__"=some (some (.builtin "object.__setattr__"))) (ar:ab4 K C=true) (cR:VZ K C name=some none) (b2:z6 K C=true)
  (hw:V3 eT ns) (hsz:ns.length <= sizeLine)
  (h:∀ h',s6 h' x az C (fun y=>if y=name then some v else eT y)->ux az s.heap h'->Q () { s with heap:=h',toks:=s.toks + 2 }) :
  wpAny (model prog w) A (setAttr (.ref x) name v) Q E s:=by
 obtain ⟨fi,bz,aL⟩:=J.look;refine PySem.W.set_plain X bz ax (PySem.W.osa_open (s:={ s with toks:=s.toks + 1 }) (r:=none) X bz ar cR fun b=>?_);obtain ⟨cd,aB,HW⟩:=PySem.W.any_some b2;have ah:s.heap.get? x=some ⟨.ref C,some az,.plain,#[]⟩:=J.obj;refine wpAny_bind (wpAny_pure (wpAny_bind (wpAny_bind (wpAny_loadPart ah (wpAny_bind (aoK (s:={ s with toks:=s.toks + 1 }) (PySem.W.looks_clsIn X aB) ?_))))));rw [HW];refine wpAny_pure (a:=some az) (wpAny_bind (wpAny_pure (wpAny_bind ?_)));refine wpAny_nsSet1 (s:={ s with toks:=s.toks + 1 }) J.ns fun h' r4 h9=>?_
 obtain ⟨anE,aoE,am3,akN,afs,ah8⟩:=r4.count (anv name v hw);refine wpAny_bind (wpAny_lookBehind akN (by rw [afs];exact pastItsLine_dict (cL ah8 (by rw [gy];omega))) ?_);exact wpAny_pure (h _ ⟨(h9.2 _ (eb J.ne)).trans J.obj,r4,J.ne⟩ h9)
theorem ZA (X:K.In s.heap) (hm:Y_ K C=true)
  (ai:dK K (.ref C) "__init__"=some (some (.ref f))) (hf:XP K (.ref f)=some (.type "function"))
  (h:codeAny (model prog w) (A.under (.builtin "type.__call__" ⟨.ref C :: vs,kw⟩)) (.call (.ref f) ⟨.ref (s.heap.objs.size + 1) :: vs,kw⟩) (PySem.W.InitBack (s.heap.objs.size + 1) R)
   { s with heap:=(s.heap.push sb).push (t7 C s.heap.objs.size) }) :
  codeAny (model prog w) A (.call (.ref C) ⟨vs,kw⟩) R s:=by
 obtain ⟨b2,g,d,t,os⟩:=s;exact PySem.W.make_core (PySem.W.makes_of X hm) (PySem.W.looks_findIn X ai) (fun self=>PySem.W.bind_fn X self hf) (.inl rfl) h
end
noncomputable def de (f:Str) (v:V):List (Str × V)->List (Str × V)
 | []=>[(f,v)]
 | (g,x) :: r=>if g=f then (g,v) :: r else (g,x) :: de f v r
theorem lv (f g:Str) (v:V):∀ a3:List (Str × V),(de f v a3).lookup g=if g=f then some v else a3.lookup g
 | []=>by
  show pZ g [(f,v)]=_;by_cases h:g=f
  .have aa:(g == f)=true:=beq_iff_eq.mpr h;simp only [pZ,aa,if_pos h]
  .have aa:(g == f)=false:=beq_eq_false_iff_ne.mpr h;simp only [pZ,aa,if_neg h]
 | (k,x) :: r=>by
  have cS:=lv f g v r;rw [show de f v ((k,x) :: r)=(if k=f then (k,v) :: r else (k,x) :: de f v r) from rfl];by_cases aC:k=f
  .rw [if_pos aC];by_cases h:g=k
   .have aa:(g == k)=true:=beq_iff_eq.mpr h;simp only [pZ,aa,if_pos (h.trans aC)]
   .have aa:(g == k)=false:=beq_eq_false_iff_ne.mpr h;simp only [pZ,aa,if_neg (fun e:g=f=>h (e.trans aC.symm))]
  .rw [if_neg aC];by_cases h:g=k
   .have aa:(g == k)=true:=beq_iff_eq.mpr h;simp only [pZ,aa,if_neg (fun e:g=f=>aC (h.symm.trans e))]
   .have aa:(g == k)=false:=beq_eq_false_iff_ne.mpr h;simp only [pZ,aa];exact cS
theorem Kf (f:Str) (v:V):∀ a3:List (Str × V),f ∈ (de f v a3).map (·.1)/\∀ g,g ∈ a3.map (·.1)->g ∈ (de f v a3).map (·.1)
 | []=>⟨by simp [de],fun g h=>by simp at h⟩
 | (k,x) :: r=>by
  obtain ⟨i1,i2⟩:=Kf f v r;rw [show de f v ((k,x) :: r)=(if k=f then (k,v) :: r else (k,x) :: de f v r) from rfl];by_cases aC:k=f
  .rw [if_pos aC];subst aC;exact ⟨by simp,fun g h=>by simpa using h⟩
  .rw [if_neg aC];refine ⟨?_,fun g h=>?_⟩
   .rw [e8];exact ik _ i1
   .rw [e8] at h ⊢;rcases en.mp h with e | e
    .exact en.mpr (.inl e)
    .exact ik _ (i2 g e)
theorem Gk (f:Str) (v:V):∀ a3:List (Str × V),(de f v a3).length <= a3.length + 1
 | []=>by simp [de]
 | (k,x) :: r=>by
  have cS:=Gk f v r;rw [show de f v ((k,x) :: r)=(if k=f then (k,v) :: r else (k,x) :: de f v r) from rfl];by_cases aC:k=f
  .rw [if_pos aC,gy,gy];omega
  .rw [if_neg aC,gy,gy];omega
theorem je.some_of (r:je (some v) o):∃ u,o=some u/\bX v u:=by
 cases o with
 | none=>exact (show False from r).elim
 | some u=>exact ⟨u,rfl,r⟩
theorem je.none_of (r:je none o):o=none:=by
 cases o with
 | none=>rfl
 | some u=>exact (show False from r).elim
theorem ag' (r:bX v u):acS u=true:=by
 cases v with
 | cn=>cases (show u=sY from r);rfl
 | bo b=>cases (show u=k7 b from r);rfl
 | int i=>obtain ⟨t,e⟩:=(show ∃ t,u=oY i t from r);cases e;rfl
 | str x=>obtain ⟨t,e⟩:=(show ∃ t,u=yu x t from r);cases e;rfl
 | l6 b=>obtain ⟨t,e⟩:=(show ∃ t,u=ajt b t from r);cases e;rfl
 | vQ b=>obtain ⟨t,e⟩:=(show ∃ t,u=Yf b t from r);cases e;rfl
 | ref a=>cases (show u=fW a from r);rfl
 | ty n=>cases (show u=agb n from r);rfl
section
variable {P:Program} {w:World} {H I:aw} {h h':Heap} {a C az:Addr} {a3 o7:List (Str × V)}
theorem ua (bu:fb P w H h) (e:H a=some (.ins C az a3)):∃ eT,s6 h a az C eT/\(∀ f,je (a3.lookup f) (eT f))/\V3 eT (a3.map (·.1))/\a3.length <= 1000/\H az=some (.own a):=by
 obtain ⟨d,z,ne,cV,eT,n,r,q⟩:=(show fC P w H h a (.ins C az a3) from bu a _ e);exact ⟨eT,⟨cV,n,ne⟩,r,q,z,d⟩
end
structure hu (K:bk) (C:Addr):Prop where
 abU:Kk K C Str.empty=true
 hd:z6 K C=true
 po:ab4 K C=true
 aE:dK K (.ref C) "__setattr__"=some (some (.builtin "object.__setattr__"))
theorem hu.get {K:bk} (c:hu K C) (f:Str):Kk K C f=true:=c.abU
def dD (K:bk) (C:Addr) (f:Str):Prop:=dK K (.ref C) f=some none
theorem dD.ajZ {K:bk} (n:dD K C f):VZ K C f=some none:=by
 unfold VZ;rw [show dK K (.ref C) f=some none from n];rfl
structure ao9 (K:bk) (C:Addr) (f:Str) (v:V) (u:Value):Prop where
 at_:dK K (.ref C) f=some (some u)
 rel:bX v u
 get:u' K u "__get__"=some none
 uD:PySem.W.copiedNames.contains f=false
structure f' (K:bk) (C:Addr) (m:Str) (f:Addr):Prop where
 at_:dK K (.ref C) m=some (some (.ref f))
 fn:U5 K (.ref f)=true
 bl:tl K (.ref f)=true
section
variable {X:bb} {ab:List (Addr × Obj)} {σ:St} {H:aw} {s:Shared} {a C az:Addr} {a3:List (Str × V)} {f:Str} {v:V} {A:Around} {E:Value->Shared->Prop}
theorem Wj (J:Inv X ab σ H s) (e:H a=some (.ins C az a3)) (c:hu X.K C) (n:dD X.K C f) (l:a3.lookup f=some v)
  (h:∀ u aj,Inv X ab σ H aj->bX v u->Q u aj):wpAny (model X.prog X.w) A (getAttr (.ref a) f b) Q E s:=by
 obtain ⟨eT,O,r,_,_,_⟩:=ua J.bu e;obtain ⟨u,bY,eZ⟩:=je.some_of (v:=v) (o:=eT f) (by rw [<- l];exact r f);exact acR J.jW O (c.get f) c.hd n bY (ag' eZ) (h u _ (J.tok _) eZ)
theorem EE (J:Inv X ab σ H s) (e:H a=some (.ins C az a3)) (c:hu X.K C) (k:f' X.K C m g) (l:a3.lookup m=none)
  (h:Q (.ref g,[.ref a]) s):wpAny (model X.prog X.w) A (getMethod (.ref a) m pl) Q E s:=by
 obtain ⟨eT,O,r,_,_,_⟩:=ua J.bu e;have aX:eT m=none:=je.none_of (by rw [<- l];exact r m);exact Zo J.jW O (c.get m) k.at_ k.fn aX h
theorem MA (J:Inv X ab σ H s) (e:H a=some (.ins C az a3)) (c:hu X.K C) (n:dD X.K C f) (aL:a3.length < 1000) (bA:bX y u)
  (h:∀ aj,Inv X ab σ (upd H a (.ins C az (de f y a3))) aj->Q () aj):wpAny (model X.prog X.w) A (setAttr (.ref a) f u) Q E s:=by
 obtain ⟨eT,O,r,hI,_,aS⟩:=ua J.bu e;have aN:(a3.map (·.1)).length <= sizeLine:=by rw [aW,sizeLine_eq];omega
 refine ak' J.jW O c.aE c.po n.ajZ c.hd hI aN fun h' I0 o4=>h _ ?_
 have hd:∃ o,h'.get? az=some o:=let ⟨o,_,_,bH,_⟩:=I0.ns;⟨o,bH⟩;refine J.write (x:=a) (e:=az) (by rw [e];exact lQ) (.inr aS) (fun b q aa z=>(o4.2 b aa).trans z) hd ?_;refine ⟨by rw [aM O.ne];exact aS,?_,O.ne,I0.obj,_,I0.ns,fun g=>?_,fun g a8=>?_⟩
 .have:=Gk f y a3;omega
 .show je ((de f y a3).lookup g) (if g=f then some u else eT g);rw [lv];by_cases q:g=f
  .rw [if_pos q,if_pos q];exact bA
  .rw [if_neg q,if_neg q];exact r g
 .by_cases q:g=f
  .rw [q];exact (Kf f y a3).1
  .refine (Kf f y a3).2 g (hI g fun z=>a8 ?_);show (if g=f then some u else eT g)=none;rw [if_neg q];exact z
theorem Inv.made (J:Inv X ab σ H s):Inv X ab σ (upd (upd H s.heap.objs.size (.own (s.heap.objs.size + 1))) (s.heap.objs.size + 1) (.ins C s.heap.objs.size []))
  { s with heap:=(s.heap.push sb).push (t7 C s.heap.objs.size) }:=by
 have aq:(s.heap.push sb).get? s.heap.objs.size=some sb:=gV s.heap rfl;have aH:((s.heap.push sb).push (t7 C s.heap.objs.size)).get? (s.heap.objs.size + 1)=some (t7 C s.heap.objs.size):=by
  have:=gV (s.heap.push sb) (o:=t7 C s.heap.objs.size) rfl;rwa [Oe] at this
 have bO:(s.heap.push sb).Ns s.heap.objs.size (fun _=>none):=⟨sb,#[],_,aq,rfl,(fun e he=>absurd he (by simp)),fun _=>rfl⟩;have aZ:=J.laid (a:=s.heap.objs.size) (o:=.own (s.heap.objs.size + 1)) (h':=s.heap.push sb) (t':=s.toks) (fun b u q=>eJ _ q) (bP _) ⟨_,aq⟩;refine aZ.laid (a:=s.heap.objs.size + 1) (o:=.ins C s.heap.objs.size []) (t':=s.toks) (fun b u q=>eJ _ q) (aeG (Oe _ _)) ?_;have ne:s.heap.objs.size ≠ s.heap.objs.size + 1:=f7 (uy _);refine ⟨by rw [aM ne,aQ],fh _,ne,aH,fun _=>none,(Heap.Ns1.of_empty bO).at fun o q=>eJ _ q,fun _=>lQ,fun y a6=>absurd rfl a6⟩
theorem adk {prog:Program} {w:World} {env:Env} {e:Expr} (aa:attributeBase e f env (eval e env)=eval e env)
  (h:wpAny (model prog w) A (eval e env) (fun o du=>wpAny (model prog w) A (getAttr o f true) Q E du) E s):wpAny (model prog w) A (eval (.Attribute e f pos) env) Q E s:=
 Attribute_any_ h (by rw [arm_eval_Attribute,aa])
end
def fY (K:bk) (H:aw) (a:Addr) (f:Str) (v:V):Prop:=∃ C az a3,H a=some (.ins C az a3)/\hu K C/\dD K C f/\a3.lookup f=some v
noncomputable def K2 (K:bk) (a9:TE) (f:Str):TE:=fun σ H Q=>a9 σ H fun x H1=>fG x fun a=>∃ v,fY K H1 a f v/\Q v H1
noncomputable def N9 (K:bk) (a9 gk:TE) (f:Str):ey:=fun D σ H=>gk σ H fun y H1=>a9 σ H1 fun x av=>fG x fun a=>∃ C az a3,av a=some (.ins C az a3)/\hu K C/\dD K C f/\a3.length < 1000 /\
 D.cT σ (upd av a (.ins C az (de f y a3)))
def NA (X:bb) (op:Operator) (nq:V->V->aw->c4->Prop):Prop:=
 ∀ (ab:List (Addr × Obj)) (s:Shared) (σ:St) (H:aw) (x y:V) (u v:Value) (Q:c4),Inv X ab σ H s->bX x u->bX y v->nq x y H Q->wpAny (model X.prog X.w) X.A (inplaceOp op u v) (gb X ab σ Q) X.d2 s
noncomputable def OA (K:bk) (a9 gk:TE) (nq:V->V->aw->c4->Prop) (f:Str):ey:=fun D σ H=>a9 σ H fun x H1=>∃ a C az a3 v,x=.ref a/\H1 a=some (.ins C az a3)/\hu K C/\dD K C f/\a3.lookup f=some v /\
 gk σ H1 fun y av=>nq v y av fun z br=>∃ ho o7,br a=some (.ins C ho o7)/\o7.length < 1000/\D.cT σ (upd br a (.ins C ho (de f z o7)))
section
variable {X:bb} {o e value:Expr} {f:Str} {pos pos' wX:Pos} {a9 gk:TE}
theorem bw (he:bD X e a9) (aa:attributeBase e f X.env (eval e X.env)=eval e X.env):bD X (.Attribute e f pos) (K2 X.K a9 f):=by
 intro ab s σ H Q J h;refine adk aa (bJ (he ab s σ H _ J h) fun u s1 cB=>ew cB fun x H1 aZ bg g7=>?_);obtain ⟨a,ex,v,⟨C,az,a3,ie,c,n,l⟩,q⟩:=fG.out g7;subst ex;obtain rfl:u=fW a:=bg;exact Wj aZ ie c n l fun t9 s2 bV eZ=>⟨v,H1,bV,eZ,q⟩
theorem fe (aP:bD X o a9) (aF:bD X value gk) (ax:swapsWith value (some (.Attribute o f pos')) pos.line X.env=pure false):hA X (.Assign [.Attribute o f pos'] value pos) (N9 X.K a9 gk f):=by
 intro ab s σ H D J h;refine plainObj_wpAny_Assign_Attribute (bJ (aF ab s σ H _ J h) fun u s1 cB=>ew cB fun y H1 aZ bA q=>bJ (aP ab s1 σ H1 _ aZ q) fun hW s2 cB=>ew cB fun x av bV bg g7=>?_) ax;obtain ⟨a,ex,C,az,a3,ie,c,n,l,eo⟩:=fG.out g7;subst ex;obtain rfl:hW=fW a:=bg;exact MA bV ie c n l bA fun s3 fu=>⟨σ,_,fu,eo⟩
theorem ww {nq:V->V->aw->c4->Prop} (aP:bD X o a9) (aF:bD X value gk) (qy:NA X op nq):hA X (.AugAssign (.Attribute o f wX) op value pos) (OA X.K a9 gk nq f):=by
 intro ab s σ H D J h;refine wpAny_AugAssign_AttributeAny (bJ (aP ab s σ H _ J h) fun hW s1 da=>?_);obtain ⟨x,H1,aZ,bg,a,C,az,a3,v,ex,ie,c,n,l,q⟩:=da;subst ex;obtain rfl:hW=fW a:=bg;refine Wj aZ ie c n l fun u s2 bV eZ=>bJ (aF ab s2 σ H1 _ bV q) fun hY s3 cB=>ew cB fun y av fu bA ic=>bJ (qy ab s3 σ av v y u hY _ fu eZ bA ic) fun hG s4 da=>?_
 obtain ⟨z,br,iA,F3,ho,o7,akQ,l',yz⟩:=da;exact MA iA akQ c n l' F3 fun s5 xe=>⟨σ,_,xe,yz⟩
noncomputable def Ga:V->V->aw->c4->Prop:=fun x y H Q=>∃ i j,x=.int i/\y=.int j/\Q (.int (i + j)) H
theorem Kh:NA X .Add Ga:=by
 rintro ab s σ H x y u v Q J bg bA ⟨i,j,rfl,rfl,q⟩;obtain ⟨t,rfl⟩:=(show ∃ t,u=oY i t from bg);obtain ⟨t',rfl⟩:=(show ∃ t',v=oY j t' from bA);exact ao8 ⟨.int (i + j),H,J.tok _,⟨_,rfl⟩,q⟩
end
section
variable {X:bb} {ab:List (Addr × Obj)} {σ:St} {H:aw} {s:Shared} {A:Around} {E:Value->Shared->Prop} {Q:Value->Shared->Prop} {c:Value} {b:Bool}
inductive oh (K:bk) (H:aw):V->Value->Prop where
 | cn:oh K H .cn (.type "NoneType")
 | bo (x:Bool):oh K H (.bo x) (.type "bool")
 | int (i:Int):oh K H (.int i) (.type "int")
 | str (x:Str):oh K H (.str x) (.type "str")
 | vQ (x:UInt64):oh K H (.vQ x) (.type "float")
 | lst {a:Addr} {xs:List V} (e:H a=some (.lst xs)):oh K H (.ref a) (.type "list")
 | e2 {a:Addr} {o:Obj} {xs:List V} (e:H a=some (.e2 o (.lst xs))):oh K H (.ref a) (.type "list")
 | tup {a:Addr} {xs:List V} (e:H a=some (.tup xs)):oh K H (.ref a) (.type "tuple")
 | bW {a:Addr} {kvs:List (Key × V)} (e:H a=some (.bW kvs)):oh K H (.ref a) (.type "dict")
 | gu {a:Addr} {kvs:List (List Key × V)} (e:H a=some (.gu kvs)):oh K H (.ref a) (.type "dict")
 | ins {a C az:Addr} {a3:List (Str × V)} (e:H a=some (.ins C az a3)) (cl:hu K C) (aP:dK K (.ref C) "__class__"=some (some (.builtin "object.__class__")))
   (aX:u' K (.builtin "object.__class__") "__get__"=some (some (.builtin "getset_descriptor.__get__"))) (G3:GK K (.builtin "object.__class__")=some true)
   (hm:Ft K C (.type "object")=some true):oh K H (.ref a) (.ref C)
end
structure eO (k:Nat) (A:Around):Prop where
 hd:A.handled=none
 jd:A.depth + 3 * k + 5 < recursionLimit
 un:A.units + 16 * k + 200 < cLine
theorem eO.mono {j k:Nat} {A:Around} (r:eO k A) (h:j <= k):eO j A:=⟨r.hd,by have:=r.jd;omega,by have:=r.un;omega⟩
theorem eO.deeper {k:Nat} {A:Around} (r:eO (k + 1) A) (env:Env):eO k (A.deeper env):=
 ⟨r.hd,by have:=r.jd;show A.depth + 1 + 3 * k + 5 < _;omega,by have:=r.un;show A.units + 3 + 16 * k + 200 < _;omega⟩
theorem eO.in1 {k:Nat} {A:Around} (r:eO (k + 1) A):eO k A.in1:=
 ⟨r.hd,by have:=r.jd;show A.depth + 3 * k + 5 < _;omega,by have:=r.un;show A.units + 1 + 16 * k + 200 < _;omega⟩
theorem adP {A:Around}:(A.under (.builtin "type.__call__" ⟨.ref C :: us,kw⟩)).depth=A.depth + 1:=by
 first | rfl | simp [Nc,Code.weight,Code.isCreation,Code.isGuard,Code.isCaller,Xs,WB,guardIds]
theorem X1 {A:Around}:(A.under (.builtin "type.__call__" ⟨.ref C :: us,kw⟩)).units=A.units + 1:=by
 first | rfl | simp [Nc,Code.cUnits,Xs,WB]
theorem eO.make {k:Nat} {A:Around} (r:eO (k + 1) A) (C:Addr) (us:List Value) (kw:List (Str × Value)):eO k (A.under (.builtin "type.__call__" ⟨.ref C :: us,kw⟩)):=
 ⟨r.hd,by have:=r.jd;rw [adP];omega,by have:=r.un;rw [X1];omega⟩
theorem eO.depth {k:Nat} {A:Around} (r:eO k A):A.depth < recursionLimit:=by have:=r.jd;omega
theorem eO.units {k:Nat} {A:Around} (r:eO k A):A.units + 64 < cLine:=by have:=r.un;omega
noncomputable def v':fz:=fun _ H Q=>Q [] H
noncomputable def Gq (a9:TE) (Dn:fz):fz:=fun σ H Q=>a9 σ H fun x H1=>Dn σ H1 fun xs av=>Q (x :: xs) av
section
variable {X:bb} {e:Expr} {aU:List Expr} {bR:TE} {t:fz} {pos:Pos}
theorem aA:hy X [] v':=fun _ _ _ _ H Q J h=>adX ⟨[],H,J,.nil,h⟩
theorem ag (aP:bD X e bR) (ao:hy X aU t) (ax:starEach (e :: aU) X.env=(false,eval e X.env) :: starEach aU X.env:=by rfl):hy X (e :: aU) (Gq bR t):=by
 intro pos ab s σ H Q J h;rw [ax];show wpAny _ _ (spliced ((false,eval e X.env) :: backTo pos (starEach aU X.env))) _ _ s;refine Oh (bJ (aP ab s σ H _ J h) fun u s1 cB=>ew cB fun x H1 aZ cN bS=>?_);exact bJ (ao pos ab s1 σ H1 _ aZ bS) fun us s2 ⟨xs,av,bV,gJ,eo⟩=>⟨x :: xs,av,bV,.cons cN gJ,eo⟩
noncomputable def Hd (t:fz):TE:=fun σ H Q=>t σ H fun xs H1=>xs.length <= sizeLine/\∀ p,H1 p=none->Q (.ref p) (upd H1 p (.tup xs))
noncomputable def GZ (t:fz):TE:=fun σ H Q=>t σ H fun xs H1=>xs.length <= sizeLine/\∀ p,H1 p=none->Q (.ref p) (upd H1 p (.lst xs))
theorem p1 {b1} (h:hy X aU t):bD X (.Tuple aU b1 pos) (Hd t):=by
 intro ab s σ H Q J aR;refine wpAny_Tuple_spliced (bJ (h pos ab s σ H _ J aR) fun us s1 ⟨xs,H1,aZ,r,z,q⟩=>⟨by rw [<- r.length];exact z,?_⟩);have hf:H1 s1.heap.objs.size=none:=aZ.bu.fresh (bP _);refine ⟨.ref s1.heap.objs.size,upd H1 s1.heap.objs.size (.tup xs),aZ.laid (t':=s1.toks) (fun b u e=>eJ _ e) (bP _) ?_,rfl,q _ hf⟩;exact ⟨⟨z,_,gV _ rfl,rfl⟩,us,r,⟨_,gV _ rfl,rfl,_,rfl⟩⟩
theorem ld (h:hy X aU t):bD X (.List aU pos) (GZ t):=by
 intro ab s σ H Q J aR;refine wpAny_List_spliced (bJ (h pos ab s σ H _ J aR) fun us s1 ⟨xs,H1,aZ,r,z,q⟩=>⟨by rw [<- r.length];exact z,?_⟩);have hf:H1 s1.heap.objs.size=none:=aZ.bu.fresh (bP _);refine ⟨.ref s1.heap.objs.size,upd H1 s1.heap.objs.size (.lst xs),aZ.laid (t':=s1.toks) (fun b u e=>eJ _ e) (bP _) ?_,rfl,q _ hf⟩;exact ⟨z,us,0,r,gV _ rfl⟩
end
noncomputable abbrev bM:=List V->aw->c4->f5->Prop
noncomputable abbrev ku:=List Env->aw->Shared->f5->Value->Shared->Prop
structure rH (P:Program) (w:World) (K:bk) (mg:Str->Option Value) (base:Heap) (A:Around) (outer:List Env) (s:Shared) (H:aw):Prop where
 frames:A.frames=some outer
 mod:Mod K mg base
 bs:∀ b o,base.get? b=some o->s.heap.get? b=some o/\H b=none
 nA:base.objs.size <= s.heap.objs.size
 mI:s.heap.FunFrames base outer
 rP:∀ b ∈ nf outer,H b=none
 bu:fb P w H s.heap
 bare:AllBare s.gens
def Ks (outer:List Env) (P:Program) (w:World) (H:aw) (s:Shared) (Q:c4) (u:Value) (aj:Shared):Prop:=
 ∃ v I,aj.os=s.os/\AllBare aj.gens/\hb (nf outer) [] H I s.heap aj.heap/\fb P w I aj.heap/\bX v u/\Q v I
def Kg (CX:ku) (outer:List Env) (P:Program) (w:World) (H:aw) (s:Shared) (Q:c4) (E:f5) (r:Result) (aj:Shared):Prop:=
 match r with
 | .ok (.ret u)=>Ks outer P w H s Q u aj
 | .ok _=>False
 | .error e=>CX outer H s E e aj
structure cD (P:Program) (w:World) (K:bk) (mg:Str->Option Value) (base:Heap) (CX:ku) (k:Nat) (f:Addr) (fd:FuncData) (ps:List Str) (sp:bM):Prop where
 len:∀ vs H Q E,sp vs H Q E->vs.length=ps.length
 run:∀ (A:Around) (outer:List Env) (s:Shared) (H:aw) (args:Args) (us:List Value) (vs:List V) (Q:c4) (E:f5),eO k A->rH P w K mg base A outer s H->BindsTo s fd args (ps.zip us)->cQ vs us->sp vs H Q E ->
  codeAny (model P w) A (.call (.ref f) args) (Kg CX outer P w H s Q E) s
theorem cD.mono {w:World} {K:bk} {mg:Str->Option Value} {base:Heap} {j k:Nat} {fd:FuncData} (F:cD P w K mg base CX j f fd ps sp) (h:j <= k) :
  cD P w K mg base CX k f fd ps sp:=⟨F.len,fun A outer s H args us vs Q E ao=>F.run A outer s H args us vs Q E (ao.mono h)⟩
theorem cD.imp {w:World} {K:bk} {mg:Str->Option Value} {base:Heap} {k:Nat} {fd:FuncData} (F:cD P w K mg base CX k f fd ps sp)
  (h:∀ vs H Q E,jT vs H Q E->sp vs H Q E):cD P w K mg base CX k f fd ps jT:=
 ⟨fun vs H Q E q=>F.len vs H Q E (h _ _ _ _ q),fun A outer s H args us vs Q E ao he aa aF ax=>F.run A outer s H args us vs Q E ao he aa aF (h _ _ _ _ ax)⟩
theorem rH.make {w:World} {K:bk} {mg:Str->Option Value} {base:Heap} {A:Around} {outer:List Env} (e:rH P w K mg base A outer s H) (C:Addr) (us:List Value) (kw:List (Str × Value)) :
  rH P w K mg base (A.under (.builtin "type.__call__" ⟨.ref C :: us,kw⟩)) outer s H:=⟨by first | exact e.frames | (simpa [Nc,Code.envs,WB,pushEnvs] using e.frames),e.mod,e.bs,e.nA,e.mI,e.rP,e.bu,e.bare⟩
section
variable {X:bb} {ab:List (Addr × Obj)} {σ:St} {H:aw} {s aj:Shared}
theorem Inv.OO (J:Inv X ab σ H s):rH X.prog X.w X.K X.mg X.base X.A X.stack s H:=
 ⟨J.ok.frames,J.ok.mod,J.bs,cL J.ok.nA J.nU,J.stack,J.Iw,J.bu,J.bare⟩
theorem Inv.after (J:Inv X ab σ H s) (h:Ks X.stack X.prog X.w H s Q u aj):gb X ab σ Q u aj:=by
 obtain ⟨v,I,os,bare,un,bu,r,q⟩:=h;obtain ⟨b2,g,d,t,ae4⟩:=aj;obtain rfl:ae4=s.os:=os;exact ⟨v,I,J.call (h':=b2) (g':=g) (d':=d) (t':=t) (ch:=[]) un bu bare (fun b z=>absurd z (by simp)),r,q⟩
end
noncomputable def w6 (sp:bM) (dvs:List V) (E:f5) (t:fz):TE:=fun σ H Q=>t σ H fun vs H1=>sp (vs ++ dvs) H1 Q E
noncomputable def Lf (C:Addr) (m:Str) (sp:bM) (dvs:List V) (E:f5) (a9:TE) (t:fz):TE:=fun σ H Q=>a9 σ H fun x H1=>fG x fun a=>∃ az a3,H1 a=some (.ins C az a3)/\a3.lookup m=none /\
 t σ H1 fun vs av=>sp (x :: (vs ++ dvs)) av Q E
noncomputable def Na (C:Addr) (sp:bM) (dvs:List V) (E:f5) (t:fz):TE:=fun σ H Q=>t σ H fun vs H1=>∀ x az,H1 x=none->H1 az=none->az ≠ x ->
 sp (.ref x :: (vs ++ dvs)) (upd (upd H1 az (.own x)) x (.ins C az [])) (fun v av=>v=.cn/\Q (.ref x) av) E
def b0 (K:bk) (fd:FuncData) (ps:List Str) (ds:List Value):Prop:=
 ∀ (s:Shared) (us:List Value),K.In s.heap->(us ++ ds).length=ps.length->BindsTo s fd ⟨us,[]⟩ (ps.zip (us ++ ds))
theorem b0.all {K:bk} {fd:FuncData} (h:∀ us:List Value,us.length=ps.length->bindArgs fd ⟨us,[]⟩=pure (ps.zip us)):b0 K fd ps []:=fun s us _ aL=>by
 rw [xy] at aL ⊢;exact .of_eq (h us aL)
def p2 (CX:ku) (X:bb) (E:f5):Prop:=∀ (ab:List (Addr × Obj)) (σ:St) (H:aw) (s:Shared) (e:Value) (aj:Shared),Inv X ab σ H s->CX X.stack H s E e aj->X.d2 e aj
section
variable {X:bb} {CX:ku} {k:Nat} {f C:Addr} {fd:FuncData} {ps:List Str} {sp:bM} {dvs:List V} {ds:List Value} {E:f5} {x m:Str} {p pos gp:Pos} {e o:Expr} {aU:List Expr} {a9:TE} {t:fz}
theorem xJ (F:cD X.prog X.w X.K X.mg X.base CX k f fd ps sp) (ao:eO k X.A) (aa:b0 X.K fd ps ds) (hd:cQ dvs ds) (ah:p2 CX X E)
  (J:Inv X ab σ H s) (r:cQ vs us) (h:sp (vs ++ dvs) H Q E):wpAny (model X.prog X.w) X.A (call (.ref f) us) (gb X ab σ Q) X.d2 s:=by
 have gJ:cQ (vs ++ dvs) (us ++ ds):=r.append hd;have aL:(us ++ ds).length=ps.length:=by rw [<- gJ.length];exact F.len _ _ _ _ h
 refine wpAny_call (codeAny_mono (F.run X.A X.stack s H ⟨us,[]⟩ (us ++ ds) (vs ++ dvs) Q E ao J.OO (aa s us J.jW aL) gJ h) fun r aj aR=>?_);cases r with
 | error e=>exact ah ab σ H s e aj J aR
 | ok eU=>
  cases eU with
  | ret u=>exact J.after aR
  | next=>exact kH aR
  | brk=>exact kH aR
  | cont=>exact kH aR
theorem PK (F:cD X.prog X.w X.K X.mg X.base CX k f fd ps sp) (ao:eO k X.A) (a8:kX X x) (hm:X.mg x=some (.ref f)) (aC:tl X.K (.ref f)=true) (aa:b0 X.K fd ps ds) (hd:cQ dvs ds) (ah:p2 CX X E)
  (aP:hy X (e :: aU) t) (oI:(x == ("__debug__" : Str))=false:=by decide) (he:starEach (e :: aU) X.env=(false,eval e X.env) :: starEach aU X.env:=by rfl) (c9:(backTo pos (starEach aU X.env)).any (·.1)=false:=by rfl) :
  bD X (.Call (.Name x p) (e :: aU) [] pos) (w6 sp dvs E t):=by
 intro ab s σ H Q J h;refine wpAny_Call_Name_kw (CP J a8 hm ?_ oI);refine E1 (h₀:=X.base) J.ok.mod.uT aC (bJ (aP pos ab s σ H _ J h) fun us s1 ⟨vs,H1,aZ,r,q⟩=>⟨aZ.jW,?_⟩) he c9;exact xJ F ao aa hd ah aZ r q
theorem fg (he:bD X o a9) (c:hu X.K C) (hm:f' X.K C m f) (F:cD X.prog X.w X.K X.mg X.base CX k f fd ps sp) (ao:eO k X.A) (aa:b0 X.K fd ps ds) (hd:cQ dvs ds) (ah:p2 CX X E) (aP:hy X (e :: aU) t)
  (fS:starEach (e :: aU) X.env=(false,eval e X.env) :: starEach aU X.env:=by rfl) (c9:(backTo pos (starEach aU X.env)).any (·.1)=false:=by rfl)
  (cR:eval (.Call (.Attribute o m gp) (e :: aU) [] pos) X.env=(do
   let hW <- eval o X.env
   standAt gp.atName
   let (f,first) <- holding [hW] (getMethod hW m pl)
   callWith pos f first (backTo pos (starEach (e :: aU) X.env)) (backToKw pos (keywordEach [] X.env))):=by rfl) :
  bD X (.Call (.Attribute o m gp) (e :: aU) [] pos) (Lf C m sp dvs E a9 t):=by
 intro ab s σ H Q J h;refine Kz (pl:=pl) (bJ (he ab s σ H _ J h) fun u s1 cB=>ew cB fun x H1 aZ bg g7=>?_) cR;obtain ⟨a,ex,az,a3,ie,l,q⟩:=fG.out g7;subst ex;obtain rfl:u=fW a:=bg;refine EE aZ ie c hm l ?_;refine E1 (first:=[.ref a]) (h₀:=X.base) J.ok.mod.uT hm.bl (bJ (aP pos ab s1 σ H1 _ aZ q) fun us s2 ⟨vs,av,bV,r,eo⟩=>⟨bV.jW,?_⟩) fS c9;exact xJ (us:=.ref a :: us) (vs:=.ref a :: vs) F ao aa hd ah bV (.cons rfl r) eo
theorem kp (he:bD X o a9) (c:hu X.K C) (hm:f' X.K C m f) (F:cD X.prog X.w X.K X.mg X.base CX k f fd ps sp) (ao:eO k X.A) (aa:b0 X.K fd ps ds) (hd:cQ dvs ds) (ah:p2 CX X E)
  (cR:eval (.Call (.Attribute o m gp) [] [] pos) X.env=(do
   let hW <- eval o X.env
   standAt gp.atName
   let (f,first) <- holding [hW] (getMethod hW m pl)
   callWith pos f first (backTo pos (starEach [] X.env)) (backToKw pos (keywordEach [] X.env))):=by rfl) :
  bD X (.Call (.Attribute o m gp) [] [] pos) (Lf C m sp dvs E a9 v'):=by
 intro ab s σ H Q J h;refine Kz (pl:=pl) (bJ (he ab s σ H _ J h) fun u s1 cB=>ew cB fun x H1 aZ bg g7=>?_) cR;obtain ⟨a,ex,az,a3,ie,l,q⟩:=fG.out g7;subst ex;obtain rfl:u=fW a:=bg;refine EE aZ ie c hm l ?_;exact adK (first:=[.ref a]) aZ.jW hm.bl (xJ (us:=[.ref a]) (vs:=[.ref a]) F ao aa hd ah aZ (.cons rfl .nil) q)
structure p' (K:bk) (C f:Addr):Prop where
 makes:Y_ K C=true
 init:dK K (.ref C) "__init__"=some (some (.ref f))
 fn:U5 K (.ref f)=true
 bl:tl K (.ref C)=true
theorem dL (M:p' X.K C f) (F:cD X.prog X.w X.K X.mg X.base CX k f fd ps sp) (ao:eO (k + 1) X.A) (aa:b0 X.K fd ps ds) (hd:cQ dvs ds)
  (ah:p2 CX X E) (J:Inv X ab σ H s) (r:cQ vs us)
  (h:∀ x az,H x=none->H az=none->az ≠ x->sp (.ref x :: (vs ++ dvs)) (upd (upd H az (.own x)) x (.ins C az [])) (fun v av=>v=.cn/\Q (.ref x) av) E) :
  wpAny (model X.prog X.w) X.A (call (.ref C) us) (gb X ab σ Q) X.d2 s:=by
 have aR:=h (s.heap.objs.size + 1) s.heap.objs.size (J.bu.fresh (DQ _)) (J.bu.fresh (bP _)) (f7 (uy _));have bV:=Inv.made (C:=C) J;have gJ:cQ (V.ref (s.heap.objs.size + 1) :: (vs ++ dvs)) (fW (s.heap.objs.size + 1) :: (us ++ ds)):=.cons rfl (r.append hd);have aL:(fW (s.heap.objs.size + 1) :: us ++ ds).length=ps.length:=by
  have e:=gJ.length;rw [F.len _ _ _ _ aR] at e;exact e.symm
 refine wpAny_call (ZA (f:=f) J.jW M.makes M.init (beq_iff_eq.mp M.fn) (codeAny_mono (F.run _ X.stack _ _ ⟨fW (s.heap.objs.size + 1) :: us,[]⟩ (fW (s.heap.objs.size + 1) :: (us ++ ds)) _ _ E (ao.make C us [])
  (bV.OO.make C us []) (aa _ (fW (s.heap.objs.size + 1) :: us) bV.jW aL) gJ aR) fun r aj ka=>?_))
 cases r with
 | error e=>exact ah ab σ _ _ e aj bV ka
 | ok eU=>
  cases eU with
  | ret u=>
   obtain ⟨v,I,fu,cH,ev,ic⟩:=bV.after ka;subst ev;exact ⟨cH,⟨V.ref (s.heap.objs.size + 1),I,fu,rfl,ic⟩⟩
  | next=>exact kH ka
  | brk=>exact kH ka
  | cont=>exact kH ka
theorem tg (M:p' X.K C f) (F:cD X.prog X.w X.K X.mg X.base CX k f fd ps sp) (ao:eO (k + 1) X.A) (a8:kX X x) (hm:X.mg x=some (.ref C)) (aa:b0 X.K fd ps ds) (hd:cQ dvs ds) (ah:p2 CX X E)
  (aP:hy X (e :: aU) t) (oI:(x == ("__debug__" : Str))=false:=by decide) (he:starEach (e :: aU) X.env=(false,eval e X.env) :: starEach aU X.env:=by rfl) (c9:(backTo pos (starEach aU X.env)).any (·.1)=false:=by rfl) :
  bD X (.Call (.Name x p) (e :: aU) [] pos) (Na C sp dvs E t):=by
 intro ab s σ H Q J h;refine wpAny_Call_Name_kw (CP J a8 hm ?_ oI);refine E1 (h₀:=X.base) J.ok.mod.uT M.bl (bJ (aP pos ab s σ H _ J h) fun us s1 ⟨vs,H1,aZ,r,q⟩=>⟨aZ.jW,?_⟩) he c9;exact dL M F ao aa hd ah aZ r q
end
section
variable {X:bb} {CX:ku} {k:Nat} {f C:Addr} {fd:FuncData} {ps bC:List Str} {sp:bM} {E:f5} {x m:Str} {p pos gp aos:Pos} {e o:Expr} {aU:List Expr} {aoN:List Keyword} {bR a9:TE} {t tk:fz} {nm:Option Str}
structure AT (K:bk) (fd:FuncData) (ps bC:List Str) (g:List Value->List Value->List Value) (RL:List V->List V->List V):Prop where
 to:∀ (s:Shared) (us ws:List Value),K.In s.heap->(g us ws).length=ps.length->BindsTo s fd ⟨us,bC.zip ws⟩ (ps.zip (g us ws))
 rel:∀ {vs:List V} {us:List Value} {zs:List V} {ws:List Value},cQ vs us->cQ zs ws->cQ (RL vs zs) (g us ws)
variable {g:List Value->List Value->List Value} {RL:List V->List V->List V}
end
structure Db (N P:List Str) (sc:Scope):Prop where
 kind:sc.kind=.function
 co:sc.isCoroutine=false
 gen:sc.isGenerator=false
 aI:N.Nodup
 pre:N.take P.length=P
 par:∀ x ∈ P,sc.names.lookup x=some .local\/sc.names.lookup x=some .cell
 aa0:∀ y ∈ sc.names,y.2 ≠ .free
theorem RZ {kindOf:Str->Option NameKind} {x:Str}:∀ {binds:List (Str × Value)} {m:Str->Option Value},(∀ v,(x,v) ∉ binds)->bindL kindOf binds m x=m x
 | [],_,_=>rfl
 | (n,v) :: r,m,h=>by
  unfold bindL;rw [RZ fun w hw=>h w (ik _ hw)];split
  .have:x ≠ n:=by rintro rfl;exact h v m3
   simp [this]
  .rfl
theorem Nd {kindOf:Str->Option NameKind} {x:Str}:∀ {binds:List (Str × Value)} {m:Str->Option Value},(∀ v,(x,v) ∉ binds)->bindC kindOf binds m x=m x
 | [],_,_=>rfl
 | (n,v) :: r,m,h=>by
  unfold bindC;rw [Nd fun w hw=>h w (ik _ hw)];split
  .rfl
  .have:x ≠ n:=by rintro rfl;exact h v m3
   simp [this]
theorem UB {kindOf:Str->Option NameKind} {x:Str} {v:Value}:∀ {P:List Str} {vs:List Value} {i:Nat} {m:Str->Option Value},P.Nodup->P[i]? = some x->vs[i]? = some v->kindOf x=some .local ->
  bindL kindOf (P.zip vs) m x=some v
 | [],_,_,_,_,h,_,_=>by simp at h
 | _ :: _,[],_,_,_,_,h,_=>by simp at h
 | p :: P,w :: vs,0,m,aI,af,ak,aC=>by
  simp at af ak;subst af;subst ak;show bindL kindOf ((p,w) :: P.zip vs) m p=_;unfold bindL;rw [RZ fun v aF=>(tE.mp aI).1 (MG aF).1,if_pos aC];simp
 | p :: P,w :: vs,i + 1,m,aI,af,ak,aC=>by
  show bindL kindOf ((p,w) :: P.zip vs) m x=_;unfold bindL;exact UB (i:=i) (tE.mp aI).2 (by simpa using af) (by simpa using ak) aC
theorem NT {kindOf:Str->Option NameKind} {x:Str} {v:Value}:∀ {P:List Str} {vs:List Value} {i:Nat} {m:Str->Option Value},P.Nodup->P[i]? = some x->vs[i]? = some v->kindOf x ≠ some .local ->
  bindC kindOf (P.zip vs) m x=some v
 | [],_,_,_,_,h,_,_=>by simp at h
 | _ :: _,[],_,_,_,_,h,_=>by simp at h
 | p :: P,w :: vs,0,m,aI,af,ak,aC=>by
  simp at af ak;subst af;subst ak;show bindC kindOf ((p,w) :: P.zip vs) m p=_;unfold bindC;rw [Nd fun v aF=>(tE.mp aI).1 (MG aF).1,if_neg aC];simp
 | p :: P,w :: vs,i + 1,m,aI,af,ak,aC=>by
  show bindC kindOf ((p,w) :: P.zip vs) m x=_;unfold bindC;exact NT (i:=i) (tE.mp aI).2 (by simpa using af) (by simpa using ak) aC
noncomputable def start (N:List Str) (vs:List V):St:=vs.map some ++ R9 (N.length - vs.length) none
noncomputable def ri (CX:ku) (P:Program) (w:World) (K:bk) (mg:Str->Option Value) (base:Heap) (N:List Str) (qual:Str) (scope:Scope) (f:Addr) (cd:Value) (A:Around) (outer:List Env) (s:Shared) (H:aw) (E:f5):bb where
 prog:=P
 w:=w
 K:=K
 mg:=mg
 base:=base
 A:=A.deeper (envOfC qual scope s.heap.objs.size f cd)
 N:=N
 fQ:=s
 r1:=H
 env:=envOfC qual scope s.heap.objs.size f cd
 outer:=outer
 stack:=envOfC qual scope s.heap.objs.size f cd :: outer
 ex:=[]
 calm:=true
 fn:=fun _=>true
 eL:=[]
 d2:=fun e aj=>wpAny (model P w) (A.deeper (envOfC qual scope s.heap.objs.size f cd)) (leaving (envOfC qual scope s.heap.objs.size f cd) e) (fun _ sI=>CX outer H s E e sI) (fun bH sI=>CX outer H s E bH sI) aj
theorem T4 {sc:Scope} {n:Nat} {x:Str} (h:sc.names.lookup x=some .cell):∃ c,(cellsFrom n sc.names []).lookup x=some c:=by
 have q:=Z8 sc.names n [] (.inl h);exact amC.mp q
theorem ac6 {CX:ku} {P:Program} {w:World} {K:bk} {mg:Str->Option Value} {base:Heap} {N ps:List Str} {qual:Str} {scope:Scope} {f:Addr} {cd:Value} {A:Around} {outer:List Env} {s s1:Shared} {H:aw} {E:f5} {us:List Value} {vs:List V}
  (S:Db N ps scope) (hd:A.handled=none) (eK:rH P w K mg base A outer s H) (aL:vs.length=ps.length) (r:cQ vs us)
  (x:InCallC s s.heap.objs.size (bindL (envOfC qual scope s.heap.objs.size f cd).kindOf (ps.zip us) fun _=>none) (cellsFrom (s.heap.objs.size + 1) scope.names []) (bindC (envOfC qual scope s.heap.objs.size f cd).kindOf (ps.zip us) fun _=>none) s1) :
  Inv (ri CX P w K mg base N qual scope f cd A outer s H E) [] (start N vs) H s1:=by
 have c9:ps.length <= N.length:=by have:=congrArg ra S.pre;rw [ha] at this;omega
 obtain ⟨af,tk,rfl,aC⟩:=x.done;have sl:∀ b:Addr,b ∉ (ri CX P w K mg base N qual scope f cd A outer s H E).ex:=fun b z=>absurd (show b ∈ ([]:List Addr) from z) (by simp)
 refine ⟨⟨eK.mod,S.kind,rfl,rfl,bP _,fun y z c af ak=>?_,fun y a6=>?_,fun y c _ h=>?_,fun _=>hd,akR eK.frames,.inr ⟨rfl,rfl⟩,fun b z=>absurd z (sl b),eK.bs,eK.nA,fun b _ _=>sl b,fun b z=>absurd z (sl b),eK.mI,eK.rP⟩,
  rfl,eK.bare,hb.kept aC,⟨_,x.toInCall.ns,fun i y v af ak a5=>?_⟩,fun y c h=>⟨_,x.cell y c h⟩,eK.bu.fresh (bP _),fun y c h=>?_,fun p ar=>absurd (show p ∈ ([]:List (Addr × Obj)) from ar) (by simp),eK.bu.kept aC,?_⟩
 .exact name_of_addr x.apart (vG af) (vG ak)
 .have a6:scope.names.lookup y=some .cell\/scope.names.lookup y=some .free:=a6;rcases a6 with a6 | a6
  .exact T4 a6
  .exact absurd rfl (S.aa0 _ (vG a6))
 .exact mA (x.above y c (vG h))
 .have ai:i < vs.length:=by
   unfold start at ak;by_cases ai:i < vs.length
   .exact ai
   .rw [nz (by simpa using ai)] at ak;rw [List.getElem?_replicate] at ak;split at ak <;> cases ak
  have aP:vs[i]? = some v:=by
   unfold start at ak;rw [pe (by simpa using ai),df] at ak;cases e:vs[i]? with
   | none=>rw [e] at ak;cases ak
   | some a=>rw [e] at ak;cases ak;rfl
  obtain ⟨u,bY,cH⟩:=r.get aP;have ar:ps[i]? = some y:=by
   rw [<- S.pre,vZ (by omega)];exact af
  have Oz:ps.Nodup:=by rw [<- S.pre];exact S.aI.sublist (List.take_sublist _ _)
  refine ⟨u,cH,?_⟩;rcases S.par y (b9 ar) with k | k
  .exact .inl ⟨k,UB Oz ar bY k⟩
  .obtain ⟨c,e⟩:=T4 (n:=s.heap.objs.size + 1) k;refine .inr ⟨.inl k,c,e,?_⟩;have q:=x.cell y c e;rw [NT Oz ar bY (by show scope.names.lookup y ≠ _;rw [k];decide)] at q;exact q
 .exact eK.bu.fresh (mA (x.above y c (vG h)))
 .unfold start;show _=N.length;rw [cZ,aW,List.length_replicate];omega
theorem Ph {w:World} {K:bk} {mg:Str->Option Value} {base:Heap} {k:Nat} {name qual:Str} {Bf dQ doc pm fl fv oP:Value}
 {N ps:List Str} (lk:K.lookup f=some ⟨oP,fi,.func (x_ name qual params body scope Bf dQ doc pm an fl fv),tI⟩) (jh:Qf K fl qual=true) (S:Db N ps scope)
    (len:∀ vs H Q E,sp vs H Q E->vs.length=ps.length)
    (nJ:∀ (A:Around) (outer:List Env) (s:Shared) (H:aw) (vs:List V) (Q:c4) (E:f5),eO k (A.deeper (envOfC qual scope s.heap.objs.size f fl))->sp vs H Q E ->
      ∃ t,jx (ri CX P w K mg base N qual scope f fl A outer s H E) body t/\t { cT:=fun _ I=>Q .cn I,lL:=Q } (start N vs) H) :
    cD P w K mg base CX (k + 1) f (x_ name qual params body scope Bf dQ doc pm an fl fv) ps sp:=by
  refine ⟨len,fun A outer s H args us vs Q E ao eK aa r jN=>?_⟩;have aL:=len _ _ _ _ jN;have kk:K.In s.heap:=eK.mod.uT.keeps fun b o e=>(eK.bs b o e).1
  have lim:s.heap.NoLimit:=eK.mod.nolimit.keeps fun b o e=>(eK.bs b o e).1
  have ahK:∀ y ∈ ps.zip us,scope.names.lookup y.1=some .local\/(scope.names.lookup y.1=some .cell/\((cellsFrom (s.heap.objs.size + 1) scope.names []).lookup y.1).isSome=true):=fun ⟨n,v⟩ a6=>by
    rcases S.par n (MG a6).1 with q | q
    · exact .inl q
    · exact .inr ⟨q,Z8 _ _ _ (.inl q)⟩
  refine codeAny_call_function ao.depth (kk _ _ lk) rfl S.co S.gen rfl (PySem.W.codeRec_of kk jh) (aa _ _ _ _ ?_);refine wpAny_newFunctionEnv_cells S.kind ahK fun env he s1 x=>?_
  subst he;refine ⟨lim.keeps x.toInCall.keep,codeAny_func ?_⟩;obtain ⟨t,cR,aR⟩:=nJ A outer s H vs Q E (ao.deeper _) jN;have J:Inv (ri CX P w K mg base N qual scope f fl A outer s H E) [] (start N vs) H s1:=ac6 S ao.hd eK aL r x;refine wpAny_mono (cR [] s1 (start N vs) H _ J aR) (fun eU aj ax=>?_) fun e aj ax=>ax
  have fin:∀ {au:St} {I:aw} {v:V} {u:Value},Inv (ri CX P w K mg base N qual scope f fl A outer s H E) [] au I aj->bX v u->Q v I->Ks outer P w H s Q u aj:=
    fun {au I v u} bz cH q=>⟨v,I,bz.os,bz.bare,bz.base,bz.bu,cH,q⟩
  cases eU with
  | ret u=>
    obtain ⟨v,au,I,bz,cH,q⟩:=ax;exact fin bz cH q
  | next=>
    obtain ⟨au,I,bz,q⟩:=ax;exact fin (v:=V.cn) (u:=sY) bz rfl q
  | brk=>
    obtain ⟨_,_,_,q⟩:=ax;exact kH q
  | cont=>
    obtain ⟨_,_,_,q⟩:=ax;exact kH q
section
variable {X:bb} {x:Str} {p pos:Pos} {e:Expr} {aU:List Expr} {t:fz} {id T:String} {r:List V->aw->c4->Prop}
noncomputable def AY (r:List V->aw->c4->Prop) (t:fz):TE:=fun σ H Q=>t σ H fun vs H1=>r vs H1 Q
theorem fP (aB:l_ X (.builtin id) r) (a8:kX X x) (hm:X.mg x=none) (aF:bootBuiltins x=some (.builtin id)) (aP:hy X (e :: aU) t) (aX:x ≠ "__name__" := by decide) (oI:(x == ("__debug__" : Str))=false:=by decide)
  (he:starEach (e :: aU) X.env=(false,eval e X.env) :: starEach aU X.env:=by rfl) (c9:(backTo pos (starEach aU X.env)).any (·.1)=false:=by rfl):bD X (.Call (.Name x p) (e :: aU) [] pos) (AY r t):=by
 intro ab s σ H Q J h;refine wpAny_Call_Name_kw (r2 J a8 hm aF ?_ aX oI);exact aph (bJ (aP pos ab s σ H _ J h) fun us s1 ⟨vs,H1,aZ,cN,bS⟩=>aB ab s1 σ H1 vs us Q aZ cN bS) he c9
theorem p4 (aB:l_ X (.type T) r) (a8:kX X x) (hm:X.mg x=none) (aF:bootBuiltins x=some (.type T)) (aP:hy X (e :: aU) t) (aX:x ≠ "__name__" := by decide) (oI:(x == ("__debug__" : Str))=false:=by decide)
  (he:starEach (e :: aU) X.env=(false,eval e X.env) :: starEach aU X.env:=by rfl) (c9:(backTo pos (starEach aU X.env)).any (·.1)=false:=by rfl):bD X (.Call (.Name x p) (e :: aU) [] pos) (AY r t):=by
 intro ab s σ H Q J h;refine wpAny_Call_Name_kw (r2 J a8 hm aF ?_ aX oI);exact Ed (bJ (aP pos ab s σ H _ J h) fun us s1 ⟨vs,H1,aZ,cN,bS⟩=>aB ab s1 σ H1 vs us Q aZ cN bS) he c9
end
end L2
namespace eM
open PySem PyProof.Rows
section
open PySem.SeqAt
open PySem.AutoSeq1 (wpAny_loadPart')
open PySem.MeetsSeq PySem.MeetsSeq2 PySem.MeetsSeq3
end
section
variable {prog:Program} {w:World} {A:Around} {E:Value->Shared->Prop} {s:Shared}
noncomputable def c7 (n d:Nat):Option Int->Nat
 | none=>d
 | some v=>if v < 0 then (v + (n:Int)).toNat else min v.toNat n
theorem Xf (n d:Nat):c7 n d none=d:=rfl
theorem CU (n d k:Nat):c7 n d (some (k:Int))=min k n:=by
 show (if (k:Int) < 0 then ((k:Int) + (n:Int)).toNat else min (k:Int).toNat n)=min k n;rw [if_neg (by omega),lI]
theorem ahH (n d:Nat) (hd:d <= n) (o:Option Int):c7 n d o <= n:=by
 cases o with
 | none=>exact hd
 | some v=>
  show (if v < 0 then (v + (n:Int)).toNat else min v.toNat n) <= n;by_cases aF:v < 0
  .rw [if_pos aF];omega
  .rw [if_neg aF];exact Nat.min_le_right _ _
theorem SU (v:Int) (n d:Nat):(if v < 0 then max (v + (n:Int)) 0 else min v (n:Int))=((c7 n d (some v):Nat):Int):=by
 show (if v < 0 then max (v + (n:Int)) 0 else min v (n:Int))=(((if v < 0 then (v + (n:Int)).toNat else min v.toNat n):Nat):Int);by_cases aF:v < 0
 .simp only [if_pos aF];omega
 .simp only [if_neg aF];omega
theorem abf (lo ai:Option Int) (n:Nat):Uy lo ai 1 (n:Int)=(((c7 n 0 lo:Nat):Int),((c7 n n ai:Nat):Int)):=by
 have af:¬ ((1:Int) < 0):=by omega
 unfold Uy;simp only [af,if_false];refine Prod.ext ?_ ?_
 .cases lo with
  | none=>rfl
  | some v=>exact SU v n 0
 .cases ai with
  | none=>rfl
  | some v=>exact SU v n n
theorem afx (i j:Nat):L9 (i:Int) (j:Int) 1=j - i:=by
 unfold L9;have af:(1:Int) > 0:=by omega
 simp only [af,if_true,Int.ediv_one];split <;> omega
theorem RN (p:IsPart v o) (h:Q o s):wpAny (model prog w) A (ao4 v) Q E s:=by
 cases p with
 | none=>exact slicePart_none h
 | int i t=>exact slicePart_int h
theorem Zy {cE:Addr} {kd kh:Value} {lo ai:Option Int} {n:Nat} {Q:Int × Int × Nat->Shared->Prop} (ax:s.heap.IsSliceOf cE kd kh .none) (pl:IsPart kd lo) (pu:IsPart kh ai)
  (h:Q (((c7 n 0 lo:Nat):Int),1,c7 n n ai - c7 n 0 lo) s):wpAny (model prog w) A (abL (.ref cE) (pure (n:Int))) Q E s:=by
 obtain ⟨os,yh,Bc,qa⟩:=id ax;unfold abL anx;refine wpAny_bind (wpAny_bind (wpAny_field yh qa (x:=kd) rfl (wpAny_bind (wpAny_field yh qa (x:=kh) rfl (wpAny_bind (wpAny_field yh qa (x:=.none) rfl (wpAny_pure ?_)))))));refine wpAny_bind (slicePart_none ?_);show wpAny _ _ (if ((1:Int) == 0)=true then _ else _) _ _ s;rw [if_neg (by decide)];refine wpAny_bind (RN pl (wpAny_bind (RN pu (wpAny_bind (wpAny_pure ?_)))));show wpAny _ _ (match Uy lo ai 1 (n:Int) with | (lo,ai)=>pure (lo,(1:Int),L9 lo ai 1)) _ _ s;rw [abf lo ai n];show wpAny _ _ (pure (((c7 n 0 lo:Nat):Int),(1:Int),L9 ((c7 n 0 lo:Nat):Int) ((c7 n n ai:Nat):Int) 1)) _ _ s;rw [afx];exact wpAny_pure h
theorem Zh (xs:Array Value) (i k:Nat):((eV k).filterMap fun (m:Nat)=>xs[((i:Int) + (m:Int) * 1).toNat]?).toArray=((xs.toList.drop i).take k).toArray:=by
 have e:(fun (m:Nat)=>xs[((i:Int) + (m:Int) * 1).toNat]?)=fun m=>xs[i + m]?:=by
  funext m;have:((i:Int) + (m:Int) * 1).toNat=i + m:=by omega
  rw [this]
 rw [e];have:=pick_run xs i k;rw [List.filterMap_map] at this;have aH:((fun x=>xs[x]?) ∘ fun x=>i + x)=fun m=>xs[i + m]?:=rfl
 rw [aH] at this;rw [this]
theorem adH {t cE:Addr} {items:Array Value} {kd kh:Value} {lo ai:Option Int} {Q:Value->Shared->Prop} (cR:IsTup s.heap t items) (ax:s.heap.IsSliceOf cE kd kh .none) (pl:IsPart kd lo) (pu:IsPart kh ai)
  (hw:¬ (c7 items.size 0 lo=0/\c7 items.size items.size ai=items.size))
  (h:Q (.ref s.heap.objs.size) { s with heap:=s.heap.push { cls:=.type "tuple",data:=.seq ((items.toList.drop (c7 items.size 0 lo)).take (c7 items.size items.size ai - c7 items.size 0 lo)).toArray } })
  (hsz:items.size <= sizeLine):wpAny (model prog w) A (getItem (.ref t) (.ref cE)) Q E s:=by
 have AA:sizeOk (.seq ((items.toList.drop (c7 items.size 0 lo)).take (c7 items.size items.size ai - c7 items.size 0 lo)).toArray):=by
  show ((items.toList.drop (c7 items.size 0 lo)).take (c7 items.size items.size ai - c7 items.size 0 lo)).toArray.size <= sizeLine;rw [ft,ha,lB,EO];omega
 have aG:c7 items.size items.size ai <= items.size:=ahH _ _ (bP _) ai;obtain ⟨os,yh,Bc,qa⟩:=id ax;have aec:s.TypeIs (.ref cE) "slice" := ⟨os,yh,Bc⟩;unfold getItem
 try with_reducible refine wpAny_holding ?_
 first | refine wpAny_bind (wpAny_pure ?_) | skip
 refine wpAny_bind (wpAny_sequenceKey cR.typeIs (by decide) ?_);refine wpAny_bind (wpAny_callSpecial?_slot (name:=ae "__getitem__") cR.typeIs QQ
  (wpAny_call_entry QQ cR.typeIs entry_tuple_getitem ?_ (args_tuple_getitem _ _)))
 show wpAny _ _ (anq (.ref t) >>= _) _ _ s;refine wpAny_bind (tupleItemsOf_ cR ?_);refine wpAny_bind (wpAny_typeOf aec ?_);rw [if_pos (by decide)];refine wpAny_bind (Zy ax pl pu ?_);have H4:¬ ((((c7 items.size 0 lo:Nat):Int) == 0 && (1:Int) == 1 && (c7 items.size items.size ai - c7 items.size 0 lo) == items.size)=true):=by
  intro q;rw [iF,iF] at q;have bS:((c7 items.size 0 lo:Nat):Int)=0:=eq_of_beq q.1.1;have eo:c7 items.size items.size ai - c7 items.size 0 lo=items.size:=eq_of_beq q.2;exact hw ⟨by omega,by omega⟩
 show wpAny _ _ (if (((c7 items.size 0 lo:Nat):Int) == 0 && (1:Int) == 1 && (c7 items.size items.size ai - c7 items.size 0 lo) == items.size)=true then _ else _) _ _ s;rw [if_neg H4,Zh]
 first
  | exact wpAny_bind (m:=Ip _) (wpAny_newObj_type (wpAny_pure ⟨_,rfl,wpAny_pure h⟩) AA)
  | exact wpAny_bind (m:=Ip _) (wpAny_newObj_type (wpAny_bind (wpAny_pure (wpAny_pure ⟨_,rfl,wpAny_pure h⟩))) AA)
  | exact wpAny_bind (wpAny_bind (m:=Ip _) (wpAny_newObj_type (wpAny_pure (wpAny_pure ⟨_,rfl,wpAny_pure h⟩)) AA))
  | exact wpAny_bind (wpAny_bind (m:=Ip _) (wpAny_newObj_type (wpAny_pure ⟨_,rfl,wpAny_pure h⟩) AA))
end
end eM
namespace L2
open PySem PySem.Spec PyProof.Rows
noncomputable abbrev kq:=St->aw->(Option Int->aw->Prop)->Prop
def z0 (X:bb) (e:Option Expr) (t:kq):Prop:=
 ∀ (ab:List (Addr × Obj)) (s:Shared) (σ:St) (H:aw) (Q:Option Int->aw->Prop),Inv X ab σ H s->t σ H Q ->
  wpAny (model X.prog X.w) X.A (evalPart e X.env) (fun u aj=>∃ o I,Inv X ab σ I aj/\IsPart u o/\Q o I) X.d2 s
noncomputable def EZ:kq:=fun _ H Q=>Q none H
noncomputable def GJ (t:TE):kq:=fun σ H Q=>t σ H fun x H1=>gW x fun i=>Q (some i) H1
theorem aaz {ns:List Int}:∀ {us:List Value},cQ (ns.map V.int) us->IntsAre us ns:=by
 induction ns with
 | nil=>intro us r;rw [pv] at r;cases r;exact .nil
 | cons n ns cS=>
  intro us r;rw [e8] at r;cases r with
  | cons cN gJ=>
   obtain ⟨t,e⟩:=cN;subst e;exact .cons n t (cS gJ)
section
variable {X:bb} {e:Expr} {bR:TE} {lo ai:Option Expr} {c5 yW:kq} {pos dH:Pos}
theorem nI:z0 X none EZ:=by
 intro ab s σ H Q J h;rw [evalPart_none];exact wpAny_pure ⟨none,H,J,.none,h⟩
theorem mH (h:bD X e bR):z0 X (some e) (GJ bR):=by
 intro ab s σ H Q J hw;rw [evalPart_some];refine bJ (h ab s σ H _ J hw) fun u s1 cB=>ew cB fun x H1 aZ cN bS=>?_
 obtain ⟨i,rfl,q⟩:=gW.out bS;obtain ⟨t,rfl⟩:=cN;exact ⟨some i,H1,aZ,.int i t,q⟩
def Cw (X:bb) (r:V->Option Int->Option Int->aw->c4->Prop):Prop:=
 ∀ (ab:List (Addr × Obj)) (s:Shared) (σ:St) (H:aw) (x:V) (v kd kh:Value) (lo ai:Option Int) (cE:Addr) (Q:c4),Inv X ab σ H s->bX x v->s.heap.IsSliceOf cE kd kh .none->IsPart kd lo->IsPart kh ai->r x lo ai H Q ->
  ∃ T id,typeLookup (.type T) "__getitem__"=pure (some (.builtin id))/\s.TypeIs v T/\wpAny (model X.prog X.w) X.A (getItem v (.ref cE)) (gb X ab σ Q) X.d2 s
noncomputable def GH (r:V->Option Int->Option Int->aw->c4->Prop) (bR:TE) (c5 yW:kq):TE:=fun σ H Q=>bR σ H fun x H1=>c5 σ H1 fun l av=>yW σ av fun u br=>r x l u br Q
theorem mR (ao:Cw X r) (he:bD X e bR) (aL:z0 X lo c5) (bY:z0 X ai yW):bD X (.Subscript e (.Slice lo ai none dH) pos) (GH r bR c5 yW):=by
 intro ab s σ H Q J h;refine Subscript_ (bJ (he ab s σ H _ J h) fun v s1 cB=>ew cB fun x H1 aZ cN bS=>?_);refine wpAny_Slice (bJ (aL ab s1 σ H1 _ aZ bS) fun kd s2 ⟨l,av,bV,pl,eo⟩=>bJ (bY ab s2 σ av _ bV eo) fun kh s3 da=>?_);obtain ⟨u,br,fu,pu,ic⟩:=da;rw [evalPart_none];refine wpAny_pure ?_;have iA:Inv X ab σ br { s3 with heap:=s3.heap.push { cls:=.type "slice",data:=.fields #[kd,kh,.none] } }:=fu.kept (t':=s3.toks) fun b cV q=>eJ _ q
 obtain ⟨T,id,lq,cR,a8⟩:=ao ab { s3 with heap:=s3.heap.push { cls:=.type "slice",data:=.fields #[kd,kh,.none] } } σ br x v kd kh l u s3.heap.objs.size Q iA cN (apa ..) pl pu ic;show wpAny (model X.prog X.w) X.A (subscriptTail e (.Slice lo ai none dH) v (.ref s3.heap.objs.size)) (gb X ab σ Q) X.d2 { s3 with heap:=s3.heap.push { cls:=.type "slice",data:=.fields #[kd,kh,.none] } };exact tail_any (ops:=[.ref s3.heap.objs.size,v]) cR lq a8 (by with_unfolding_all rfl)
noncomputable def iM (xs:List V) (lo ai:Option Int):List V:=(xs.drop (eM.c7 xs.length 0 lo)).take (eM.c7 xs.length xs.length ai - eM.c7 xs.length 0 lo)
theorem WC (xs:List V) (lo ai:Option Int):(iM xs lo ai).length <= xs.length:=by
 unfold iM;rw [ha,lB];omega
noncomputable def BT (K:bk):V->Option Int->Option Int->aw->c4->Prop:=fun x lo ai H Q=>∃ a xs,x=.ref a/\dR K H a xs /\
 ¬ (eM.c7 xs.length 0 lo=0/\eM.c7 xs.length xs.length ai=xs.length)/\∀ p,H p=none->Q (.ref p) (upd H p (.tup (iM xs lo ai)))
theorem aiN:Cw X (BT X.K):=by
 intro ab s σ H x v kd kh lo ai cE Q J bg ax pl pu h;obtain ⟨a,xs,rfl,ah,hw,q⟩:=h;cases bg;obtain ⟨a7,r,cR,aN⟩:=J.tuple ah;have hlen:a7.toArray.size=xs.length:=by rw [ft];exact r.length.symm
 refine ⟨"tuple",_,QQ.lookup,cR.typeIs,?_⟩;refine eM.adH cR ax pl pu (by rw [hlen];exact hw) ?_ (by rw [hlen];exact aN);rw [hlen];refine ⟨.ref s.heap.objs.size,_,J.laid (t':=s.toks) (o:=.tup (iM xs lo ai)) (fun b cV q=>eJ _ q) (bP _) ?_,rfl,q _ (J.bu.fresh (bP _))⟩;exact ⟨⟨cL (WC xs lo ai) aN,_,gV _ rfl,rfl⟩,_,(r.drop (eM.c7 xs.length 0 lo)).take (eM.c7 xs.length xs.length ai - eM.c7 xs.length 0 lo),IsTup.new _ _⟩
end
noncomputable def qH (n:Nat) (i:Int):Option Nat:=if 0 <= i then (if i < n then some i.toNat else none) else if -(n:Int) <= i then some (i + n).toNat else none
noncomputable def fZ {α:Type} (xs:List α) (i:Int):Option α:=(qH xs.length i).bind fun j=>xs[j]?
theorem ad7 (h:qH n i=some j):seqIndex? i n=some j/\j < n/\-(n:Int) <= i/\i < n:=by
 unfold qH at h;by_cases h0:0 <= i
 .rw [if_pos h0] at h;by_cases af:i < n
  .rw [if_pos af] at h;have e:i.toNat=j:=eE h;exact ⟨by rw [seqIndex_of h0 af,e],by omega,by omega,af⟩
  .rw [if_neg af] at h;cases h
 .rw [if_neg h0] at h;by_cases af:-(n:Int) <= i
  .rw [if_pos af] at h;have e:(i + n).toNat=j:=eE h;exact ⟨by rw [seqIndex_neg (by omega) af,e],by omega,af,by omega⟩
  .rw [if_neg af] at h;cases h
theorem TD (h:fZ xs i=some v):∃ j,seqIndex? i xs.length=some j/\xs[j]? = some v/\j < xs.length/\-(xs.length:Int) <= i/\i < xs.length:=by
 unfold fZ at h;cases e:qH xs.length i with
 | none=>rw [e] at h;cases h
 | some j=>
  rw [e] at h;obtain ⟨af,ak,a5,bN⟩:=ad7 e;exact ⟨j,af,h,ak,a5,bN⟩
theorem cp {α:Type} {xs:List α} {j:Nat} {v:α} (h:xs[j]? = some v):fZ xs (j:Int)=some v:=by
 have aG:j < xs.length:=(b6.mp h).1;have e:qH xs.length (j:Int)=some j:=by
  unfold qH;rw [if_pos (by omega),if_pos (by omega)];simp
 unfold fZ;rw [e];exact h
theorem vE (xs:List α) (v:α):fZ (xs ++ [v]) (-1)=some v:=by
 have aL:(xs ++ [v]).length=xs.length + 1:=by simp
 have e:qH (xs ++ [v]).length (-1)=some xs.length:=by
  unfold qH;rw [aL,if_neg (by decide),if_pos (by omega)];congr 1;omega
 unfold fZ;rw [e];show (xs ++ [v])[xs.length]? = some v;simp
def Sp (b:Expr):Prop:=∀ o i,subscripted b false o i=operate [o,i] (getItem o i)
def w5 (X:bb) (r:e'):Prop:=
 ∀ (value slice:Expr) (ab:List (Addr × Obj)) (s:Shared) (σ:St) (H:aw) (x y:V) (v u:Value) (Q:c4),Inv X ab σ H s->bX x v->bX y u->r x y H Q ->
  subscripted slice false v u=operate [v,u] (getItem v u)->wpAny (model X.prog X.w) X.A (subscriptTail value slice v u) (gb X ab σ Q) X.d2 s
def Bu (X:bb) (id:String) (r:V->List V->aw->c4->Prop):Prop:=
 ∀ (ab:List (Addr × Obj)) (s:Shared) (σ:St) (H:aw) (x:V) (xs:List V) (v:Value) (us:List Value) (Q:c4),Inv X ab σ H s->bX x v->cQ xs us->r x xs H Q ->
  wpAny (model X.prog X.w) X.A (call (.builtin id) (v :: us)) (gb X ab σ Q) X.d2 s
section
variable {X:bb} {a b:Expr} {a9 bG:TE} {pos:Pos}
theorem abS (ao:w5 X r) (aP:bD X a a9) (aa:bD X b bG) (ax:Sp b):bD X (.Subscript a b pos) (t6 r a9 bG):=by
 intro ab s σ H Q J h;exact Subscript_ (GC aP aa J h fun v u s2 x y av bV bg bA q=>ao a b ab s2 σ av x y v u Q bV bg bA q (ax _ _))
noncomputable def K6 (K:bk):e':=fun x y H Q=>fG x fun p=>∃ xs,gW y fun i=>ay K H p xs/\∃ v,fZ xs i=some v/\Q v H
noncomputable def Jh (K:bk):e':=fun x y H Q=>fG x fun p=>∃ xs,gW y fun i=>dR K H p xs/\∃ v,fZ xs i=some v/\Q v H
noncomputable def LJ:e':=fun x y H Q=>∃ z i c,x=.str z/\y=.int i/\z.length <= sizeLine/\fZ z.cps.toList i=some c/\Q (.str ⟨#[c]⟩) H
theorem c8:w5 X (K6 X.K):=by
 intro value slice ab s σ H x y v u Q J bg bA h ax;obtain ⟨p,rfl,xs,jw⟩:=fG.out h;obtain ⟨i,rfl,aR,z,he,q⟩:=gW.out jw;cases bg;obtain ⟨t,rfl⟩:=bA;obtain ⟨a7,r,pl,aN⟩:=J.list aR;obtain ⟨j,af,ak,a5,bN,dy⟩:=TD he;obtain ⟨w,pw,gE⟩:=r.get ak;have aL:=r.length;have aX:=uv;have fin:gb X ab σ Q w s:=⟨z,H,J,gE,q⟩;by_cases h0:0 <= i
 .have aG:i.toNat=j:=by
   rw [seqIndex_of h0 dy] at af;exact eE af
  exact item_listR pl.isList h0 (by omega) (by rw [aG];simpa using pw) fin ax
 .have aG:(i + (a7.toArray.size:Int)).toNat=j:=by
   rw [seqIndex_neg (by omega) bN] at af;rw [ft,<- aL];exact eE af
  exact subscriptTail_builtinR (x:=w) pl.isList.typeIs slot_list_getitem.lookup
   (wpAny_getItem_list_neg (Q:=fun r aj=>r=w/\gb X ab σ Q r aj) pl.isList (by omega) (by rw [ft] <;> omega) (by omega) (by rw [aG];simpa using pw) ⟨rfl,fin⟩) ax
theorem gR:w5 X (Jh X.K):=by
 intro value slice ab s σ H x y v u Q J bg bA h ax;obtain ⟨p,rfl,xs,jw⟩:=fG.out h;obtain ⟨i,rfl,aR,z,he,q⟩:=gW.out jw;cases bg;obtain ⟨t,rfl⟩:=bA;obtain ⟨a7,r,pl,aN⟩:=J.tuple aR;obtain ⟨j,af,ak,a5,bN,dy⟩:=TD he;obtain ⟨w,pw,gE⟩:=r.get ak;have aL:=r.length;have aX:=uv;have fin:gb X ab σ Q w s:=⟨z,H,J,gE,q⟩;exact subscriptTail_builtinR (x:=w) pl.typeIs slot_tuple_getitem.lookup
  (getItem_tuple (j:=j) (Q:=fun r aj=>r=w/\gb X ab σ Q r aj) pl (by omega) (by omega) (by rw [ft,<- aL];exact af) (by simpa using pw) ⟨rfl,fin⟩) ax
theorem Kt:w5 X LJ:=by
 intro value slice ab s σ H x y v u Q J bg bA h ax;obtain ⟨z,i,c,rfl,rfl,aN,he,q⟩:=h;obtain ⟨t,rfl⟩:=bg;obtain ⟨t',rfl⟩:=bA;obtain ⟨j,af,ak,a5,bN,dy⟩:=TD he;have aL:z.cps.toList.length=z.length:=by simp [uQ]
 rw [aL] at af bN dy;have aX:=uv;exact tail_any (typeIs_str s z t) slot_str_getitem.lookup (getItem_str (c:=c) (by
  have aq:decide (i < -(2 ^ 63:Int))=false:=decide_eq_false (by omega);have aH:decide (i ≥ 2 ^ 63)=false:=decide_eq_false (by omega);rw [aq,aH,Tp]) (by rw [af];simpa using ak) ⟨.str ⟨#[c]⟩,H,J.tok _,⟨_,rfl⟩,q⟩) ax
theorem FB (lo ai:Option Int) (n:Nat):(sliceBounds lo ai none n).1=((eM.c7 n 0 lo:Nat):Int)/\(sliceBounds lo ai none n).2.1=((eM.c7 n n ai:Nat):Int)/\(sliceBounds lo ai none n).2.2=1:=by
 refine ⟨?_,?_,rfl⟩
 .cases lo with
  | none=>simp [sliceBounds,eM.c7]
  | some i=>
   simp only [sliceBounds,eM.c7,ajR,show (1:Int) > 0 by decide,if_true];by_cases h:i < 0
   .simp only [h,if_true] <;> omega
   .simp only [h,if_false] <;> omega
 .cases ai with
  | none=>simp [sliceBounds,eM.c7]
  | some i=>
   simp only [sliceBounds,eM.c7,ajR,show (1:Int) > 0 by decide,if_true];by_cases h:i < 0
   .simp only [h,if_true] <;> omega
   .simp only [h,if_false] <;> omega
theorem abo (a7:List Value) (lo ai:Option Int):slicePick a7.toArray lo ai none=((a7.drop (eM.c7 a7.length 0 lo)).take (eM.c7 a7.length a7.length ai - eM.c7 a7.length 0 lo)).toArray:=by
 obtain ⟨af,ak,a5⟩:=FB lo ai a7.toArray.size;unfold slicePick;rw [af,ak,a5];simp only [sliceRange_one,pick_run,ft] <;> rfl
noncomputable def IZ (K:bk):V->Option Int->Option Int->aw->c4->Prop:=fun x lo ai H Q=>∃ a xs,x=.ref a/\ay K H a xs/\∀ p,H p=none->Q (.ref p) (upd H p (.lst (iM xs lo ai)))
theorem tM:Cw X (IZ X.K):=by
 intro ab s σ H x v kd kh lo ai cE Q J bg ax pl pu h;obtain ⟨a,xs,rfl,ah,q⟩:=h;cases bg;obtain ⟨a7,r,cR,aN⟩:=J.list ah;have hlen:=r.length;refine ⟨"list",_,slot_list_getitem.lookup,cR.isList.typeIs,?_⟩;refine wpAny_getItem_list_slice cR.isList ax pl pu .none (by simp) ?_ (by rw [ft] <;> omega);rw [abo,<- hlen];refine ⟨.ref s.heap.objs.size,_,J.laid (t':=s.toks) (o:=.lst (iM xs lo ai)) (fun b cV q=>eJ _ q) (bP _) ?_,rfl,q _ (J.bu.fresh (bP _))⟩;exact ⟨cL (WC xs lo ai) aN,_,0,(r.drop (eM.c7 xs.length 0 lo)).take (eM.c7 xs.length xs.length ai - eM.c7 xs.length 0 lo),gV _ rfl⟩
noncomputable def lA:V->Bool
 | .cn=>true
 | .bo _=>true
 | .int _=>true
 | .str _=>true
 | _=>false
noncomputable def mm:V->V->Bool
 | .cn,.cn=>true
 | .bo a,.bo b=>a == b
 | .bo a,.int b=>(if a then 1 else 0) == b
 | .int a,.bo b=>a == (if b then 1 else 0)
 | .int a,.int b=>a == b
 | .str a,.str b=>a == b
 | _,_=>false
theorem aad {A:Around} {y x:V} (bA:bX y u) (bg:bX x v) (ac2:lA y=true) (mq:lA x=true):ahs A s u v (mm y x):=by
 cases y with
 | cn=>
  cases bA;cases x with
  | cn=>cases bg;exact SeqAt.EqAt.same _
  | bo b=>cases bg;exact SeqAt.EqAt.none_bool b
  | int b=>obtain ⟨t,rfl⟩:=bg;exact SeqAt.EqAt.none_int b t
  | str b=>obtain ⟨t,rfl⟩:=bg;exact SeqAt.EqAt.none_str b t
  | _=>exact absurd (show false=true from mq) fB
 | bo a=>
  cases bA;cases x with
  | cn=>cases bg;exact SeqAt.EqAt.bool_none a
  | bo b=>cases bg;exact SeqAt.EqAt.bool_bool a b
  | int b=>obtain ⟨t,rfl⟩:=bg;exact SeqAt.EqAt.bool_int a b t
  | str b=>obtain ⟨t,rfl⟩:=bg;exact SeqAt.EqAt.bool_str a b t
  | _=>exact absurd (show false=true from mq) fB
 | int a=>
  obtain ⟨t',rfl⟩:=bA;cases x with
  | cn=>cases bg;exact SeqAt.EqAt.int_none a t'
  | bo b=>cases bg;exact SeqAt.EqAt.int_bool a t' b
  | int b=>obtain ⟨t,rfl⟩:=bg;exact SeqAt.EqAt.int_int a t' b t
  | str b=>obtain ⟨t,rfl⟩:=bg;exact aeK a t' b t
  | _=>exact absurd (show false=true from mq) fB
 | str a=>
  obtain ⟨t',rfl⟩:=bA;cases x with
  | cn=>cases bg;exact SeqAt.EqAt.str_none a t'
  | bo b=>cases bg;exact SeqAt.EqAt.str_bool a t' b
  | int b=>obtain ⟨t,rfl⟩:=bg;exact ajs a t' b t
  | str b=>obtain ⟨t,rfl⟩:=bg;exact SeqAt.EqAt.str_str a t' b t
  | _=>exact absurd (show false=true from mq) fB
 | _=>exact absurd (show false=true from ac2) fB
noncomputable def k8 (x:V) (u:Value):Bool:=match u with
 | .none=>mm .cn x
 | .bool b=>mm (.bo b) x
 | .int i _=>mm (.int i) x
 | .str z _=>mm (.str z) x
 | _=>false
theorem Ni {x y:V} (r:bX y u) (f:lA y=true):k8 x u=mm y x:=by
 cases y with
 | cn=>cases r;rfl
 | bo b=>cases r;rfl
 | int i=>obtain ⟨t,rfl⟩:=r;rfl
 | str z=>obtain ⟨t,rfl⟩:=r;rfl
 | _=>exact absurd (show false=true from f) fB
theorem xi {x:V}:∀ {xs:List V} {us:List Value},cQ xs us->xs.all lA=true->us.any (k8 x)=xs.any fun y=>mm y x
 | _,_,.nil,_=>rfl
 | y :: xs,u :: us,.cons r t,f=>by
  rw [adS,iF] at f;rw [zf,zf,Ni r f.1,xi t f.2]
theorem xZ {A:Around} {x:V} (bg:bX x v) (mq:lA x=true):∀ {xs:List V} {us:List Value},cQ xs us->xs.all lA=true->∀ u ∈ us,ahs A s u v (k8 x u)
 | _,_,.nil,_=>fun u bY=>by cases bY
 | y :: xs,u :: us,.cons r t,f=>fun t9 bY=>by
  rw [adS,iF] at f;rcases en.mp bY with rfl | bY
  .rw [Ni r f.1];exact aad r bg f.1 mq
  .exact xZ bg mq t f.2 t9 bY
noncomputable def rk (x:V) (xs:List V):Bool:=xs.any fun y=>mm y x
noncomputable def B6 (K:bk) (neg:Bool):e':=fun x y H Q=>∃ p xs,y=.ref p/\(ay K H p xs\/dR K H p xs)/\lA x=true/\xs.all lA=true/\Q (.bo (if neg then !rk x xs else rk x xs)) H
theorem sq:hS X (compareOp .In) (B6 X.K false):=by
 intro ab s σ H x y v u Q J bg bA h;obtain ⟨p,xs,rfl,aR,mq,a3,q⟩:=h;cases bA;rcases aR with aR | aR
 .obtain ⟨a7,r,pl,aN⟩:=J.list aR;refine SeqAt.in_listAt (k8 x) pl.isList (fun w hw=>xZ bg mq r a3 w (by simpa using hw)) ⟨.bo _,H,J,rfl,?_⟩;rw [show a7.toArray.any (k8 x)=a7.any (k8 x) by simp,xi r a3];exact q
 .obtain ⟨a7,r,pl,aN⟩:=J.tuple aR;refine SeqAt.in_tupleAt (k8 x) pl (fun w hw=>xZ bg mq r a3 w (by simpa using hw)) ⟨.bo _,H,J,rfl,?_⟩;rw [show a7.toArray.any (k8 x)=a7.any (k8 x) by simp,xi r a3];exact q
theorem LO:hS X (compareOp .NotIn) (B6 X.K true):=by
 intro ab s σ H x y v u Q J bg bA h;obtain ⟨p,xs,rfl,aR,mq,a3,q⟩:=h;cases bA;rcases aR with aR | aR
 .obtain ⟨a7,r,pl,aN⟩:=J.list aR;refine SeqAt.notIn_listAt (k8 x) pl.isList (fun w hw=>xZ bg mq r a3 w (by simpa using hw)) ⟨.bo _,H,J,rfl,?_⟩;rw [show a7.toArray.any (k8 x)=a7.any (k8 x) by simp,xi r a3];exact q
 .obtain ⟨a7,r,pl,aN⟩:=J.tuple aR;refine SeqAt.notIn_tupleAt (k8 x) pl (fun w hw=>xZ bg mq r a3 w (by simpa using hw)) ⟨.bo _,H,J,rfl,?_⟩;rw [show a7.toArray.any (k8 x)=a7.any (k8 x) by simp,xi r a3];exact q
theorem hL:l_ X (.builtin "len") (fun xs H Q=>m9 xs fun x=>fG x fun p=>∃ ys,(ay X.K H p ys\/dR X.K H p ys)/\Q (.int ys.length) H):=by
 intro ab s σ H xs us Q J r h;obtain ⟨ZW,rfl,jw⟩:=m9.out h;obtain ⟨p,rfl,ys,aR,q⟩:=fG.out jw;obtain ⟨u,rfl,bg⟩:=lV r;cases bg;have aX:=uv;rcases aR with aR | aR
 .obtain ⟨a7,ej,pl,aN⟩:=J.list aR;have hlen:=ej.length;exact Calls.call_len_list pl.isList (by simp only [ft] <;> omega) ⟨.int ys.length,H,J.tok _,⟨s.toks + 1,by rw [ft,hlen]⟩,q⟩
 .obtain ⟨a7,ej,pl,aN⟩:=J.tuple aR;have hlen:=ej.length;exact len_tuple pl (by simp only [ft] <;> omega) ⟨.int ys.length,H,J.tok _,⟨s.toks + 1,by rw [ft,hlen]⟩,q⟩
theorem aat:l_ X (.builtin "len") (fun xs H Q=>∃ z,xs=[.str z]/\z.length <= sizeLine/\Q (.int z.length) H):=by
 intro ab s σ H xs us Q J r h;obtain ⟨z,rfl,aN,q⟩:=h;obtain ⟨u,rfl,t,rfl⟩:=lV r;have aX:=uv;exact len_str (by omega) ⟨.int z.length,H,J.tok _,⟨_,rfl⟩,q⟩
theorem ak4:l_ X (.type "list") (fun xs H Q=>∃ p ys,xs=[.ref p]/\(ay X.K H p ys\/dR X.K H p ys)/\∀ l,H l=none->Q (.ref l) (upd H l (.lst ys))):=by
 intro ab s σ H xs us Q J r h;obtain ⟨p,ys,rfl,aR,q⟩:=h;obtain ⟨u,rfl,bg⟩:=lV r;cases bg;have fin:∀ (a7:List Value),cQ ys a7->ys.length <= sizeLine->∀ (h':Heap) (c':Nat),(∀ b d6,s.heap.get? b=some d6->h'.get? b=some d6) ->
   h'.get? s.heap.objs.size=some { cls:=.type "list",dict:=none,data:=.seq a7.toArray c',slots:=#[] }->gb X ab σ Q (.ref s.heap.objs.size) { s with heap:=h' }:=fun a7 ej aN h' c' bl e=>
  ⟨.ref s.heap.objs.size,_,J.laid (t':=s.toks) bl (bP _) (show fC X.prog X.w _ h' _ (.lst ys) from ⟨aN,a7,c',ej,e⟩),rfl,q _ (J.bu.fresh (bP _))⟩
 rcases aR with aR | aR
 .obtain ⟨a7,ej,pl,aN⟩:=J.list aR;have hlen:=ej.length;obtain ⟨o,aS,aB,n,hd⟩:=pl.isList;exact call_list_seq p (.inl rfl) aS aB hd (fun h' c' bl e=>fin a7 ej aN h' c' bl e) (by simp only [ft] <;> omega)
 .obtain ⟨a7,ej,pl,aN⟩:=J.tuple aR;have hlen:=ej.length;obtain ⟨o,aS,aB,n,hd⟩:=pl;exact call_list_seq p (.inr rfl) aS aB hd (fun h' c' bl e=>fin a7 ej aN h' c' bl e) (by simp only [ft] <;> omega)
def L0 (K:bk) (T:String) (x:V) (H:aw):Prop:=match x with
 | .str _=>T = "str"
 | .int _=>T = "int"
 | .ref p=>(T = "list" /\ ∃ xs,ay K H p xs)\/(T = "tuple" /\ ∃ o,K.lookup p=some o/\o.cls=.type "tuple" /\ o.dict=none) \/
   (T = "dict" /\ ((∃ kvs,H p=some (.bW kvs))\/∃ kvs,H p=some (.gu kvs)))\/(T = "set" /\ ∃ S n,H p=some (.set S n))
 | _=>False
theorem ain {x:V} (J:Inv X ab σ H s) (r:bX x v) (ty:L0 X.K T x H) :
  s.TypeIs v T/\∀ a,v=.ref a->∃ cV,s.heap.get? a=some cV/\cV.dict=none:=by
 cases x with
 | str z=>
  obtain ⟨t,rfl⟩:=r;cases (show T = "str" from ty);exact ⟨typeIs_str s z t,fun _ e=>nomatch e⟩
 | int i=>
  obtain ⟨t,rfl⟩:=r;cases (show T = "int" from ty);exact ⟨typeIs_int s i t,fun _ e=>nomatch e⟩
 | ref p=>
  cases r;rcases ty with ⟨rfl,xs,aR⟩ | ⟨rfl,o,aC,aB,hd⟩ | ⟨rfl,aC⟩ | ⟨rfl,S,n,aC⟩
  .obtain ⟨a7,_,pl,_⟩:=J.list aR;refine ⟨pl.isList.typeIs,fun a e=>?_⟩;cases e;obtain ⟨o,n,e,c,hd,_⟩:=pl;exact ⟨o,e,hd⟩
  .refine ⟨⟨o,J.jW p o aC,aB⟩,fun a e=>?_⟩;cases e;exact ⟨o,J.jW _ o aC,hd⟩
  .have z:∃ o,s.heap.get? p=some o/\o.ExactDict:=by
    rcases aC with ⟨kvs,aC⟩ | ⟨kvs,aC⟩
    .obtain ⟨_,_,_,_,o,_,_,e,ex,_⟩:=J.bu p _ aC;exact ⟨o,e,ex⟩
    .obtain ⟨_,_,_,_,o,_,_,e,ex,_⟩:=J.bu p _ aC;exact ⟨o,e,ex⟩
   obtain ⟨o,e,ex⟩:=z;refine ⟨⟨o,e,ex.1⟩,fun a aH=>?_⟩;cases aH;exact ⟨o,e,ex.2.1⟩
  .obtain ⟨o,_,_,_,e,ex,_⟩:=J.bu p _ aC;refine ⟨⟨o,e,ex.1⟩,fun a aH=>?_⟩;cases aH;exact ⟨o,e,ex.2.1⟩
 | _=>exact kH ty
noncomputable def Hx (K:bk) (T:String) (r:V->List V->aw->c4->Prop) (to:TE) (t:fz):TE:=fun σ H Q=>to σ H fun x H1=>L0 K T x H1/\t σ H1 fun xs av=>r x xs av Q
variable {o e:Expr} {aU:List Expr} {to:TE} {t:fz} {name:Str} {gp i4:Pos} {T id:String} {r:V->List V->aw->c4->Prop}
theorem eF (g9:PlainAttrs T) (slot:Slot T name id) (Xw:typeOf (.builtin id)=pure (.type "method_descriptor")) (hm:Bu X id r) (aS:bD X o to) (aP:hy X (e :: aU) t)
  (af0:attributeBase o name X.env (eval o X.env)=eval o X.env:=by rfl)
  (akA:((backTo i4 (starEach (e :: aU) X.env)).all (fun x=>!x.1) && (backToKw i4 (keywordEach [] X.env)).all (fun x=>x.1.isSome)
   && decide ((e :: aU).length + ([]:List Keyword).length + (if ([]:List Keyword).isEmpty then 0 else 1) < 30))=true:=by rfl)
  (ag9:(gp.endLine == i4.line)=true:=by rfl) (ax:starEach (e :: aU) X.env=(false,eval e X.env) :: starEach aU X.env:=by rfl) (hplain:(backTo i4 (starEach aU X.env)).any (·.1)=false:=by rfl) :
  bD X (.Call (.Attribute o name gp) (e :: aU) [] i4) (Hx X.K T r to t):=by
 intro ab s σ H Q J h;refine wpAny_Call_method_late af0 akA ag9 rfl (bJ (aS ab s σ H _ J h) fun v s1 da=>?_);obtain ⟨x,H1,aZ,cN,ty,bS⟩:=da;obtain ⟨af,ak⟩:=ain aZ cN ty;refine ⟨T,id,g9,slot,Xw,af,ak,?_⟩;have ks:=aP i4 ab s1 σ H1 _ aZ bS;rw [ax] at ks ⊢;refine aiw (by show (false || (backTo i4 (starEach aU X.env)).any (·.1))=false;rw [hplain] <;> rfl) (aiZ ?_);exact bJ ks fun us s2 ⟨vs,av,bV,gJ,eo⟩=>hm ab s2 σ av x vs v us Q bV cN gJ eo
end
def Iq (X:bb) (id:String) (r:V->List V->aw->c4->Prop):Prop:=
 ∀ (ab:List (Addr × Obj)) (s:Shared) (σ:St) (H:aw) (x:V) (xs:List V) (v:Value) (us:List Value) (Q:c4),Inv X ab σ H s->bX x v->cQ xs us->r x xs H Q ->
  wpAny (model X.prog X.w) X.A (call (.builtin id) (v :: us)) (gb X ab σ Q) X.d2 s
theorem cQ.one:∀ {x:V} {us:List Value},cQ [x] us->∃ u,us=[u]/\bX x u
 | _,_,.cons r .nil=>⟨_,rfl,r⟩
section
variable {X:bb} {ab:List (Addr × Obj)} {σ:St} {H:aw} {s:Shared} {l b:Addr} {xs ys zs:List V}
theorem Inv.Lc {a7 its':List Value} (J:Inv X ab σ H s) (kK:H l=some (.lst xs))
  (e:s.heap.get? l=some { cls:=.type "list",data:=.seq a7.toArray n }) (hf:f a7.toArray=its'.toArray) (aF:cQ ys its') (aN:ys.length <= sizeLine) :
  Inv X ab σ (upd H l (.lst ys)) { s with heap:=s.heap.update l (qU f),toks:=t' }:=by
 have q:=PySem.IsL.update e f;rw [hf] at q;refine J.write (x:=l) (e:=l) (by rw [kK];exact trivial) (.inl rfl) (fun gI u aa bY=>(pP s.heap (qU f) (eb aa)).trans bY) ⟨_,q⟩ ?_;exact ⟨aN,its',_,aF,q⟩
theorem Inv.akO {a7:List Value} (J:Inv X ab σ H s) (aF:cQ ys a7) (aN:ys.length <= sizeLine) :
  Inv X ab σ (upd H s.heap.objs.size (.lst ys)) { s with heap:=s.heap.push { cls:=.type "list",data:=.seq a7.toArray },toks:=t' }:=
 J.laid (fun _ _ q=>eJ _ q) (bP _) ⟨aN,a7,0,aF,gV _ rfl⟩
theorem Inv.fresh (J:Inv X ab σ H s):H s.heap.objs.size=none:=J.bu.fresh (bP _)
theorem Inv.uY (J:Inv X ab σ H s) (kK:H l=some (.lst xs)):xs.length <= sizeLine/\∃ (a7:List Value) (n:Nat),cQ xs a7/\xs.length=a7.length/\s.heap.get? l=some { cls:=.type "list",data:=.seq a7.toArray n }:=by
 obtain ⟨z,a7,n,r,e⟩:=J.bu l _ kK;exact ⟨z,a7,n,r,r.length,e⟩
theorem Z_ (h:n <= sizeLine):Oj n=false:=by
 unfold Oj;exact decide_eq_false (by omega)
end
section
variable {X:bb}
noncomputable def Kn:V->List V->aw->c4->Prop:=fun x vs H Q=>fG x fun l=>m9 vs fun y=>∃ xs,H l=some (.lst xs)/\xs.length < sizeLine/\Q .cn (upd H l (.lst (xs ++ [y])))
theorem j9:Iq X "list.append" Kn:=by
 intro ab s σ H x vs v us Q J bg cH h;obtain ⟨l,rfl,jw⟩:=fG.out h;obtain ⟨y,rfl,xs,kK,aN,q⟩:=m9.out jw;cases bg;obtain ⟨u,rfl,eZ⟩:=cH.one;obtain ⟨z,a7,n,r,aL,e⟩:=J.uY kK;refine call_meets kr ⟨_,e,rfl⟩ F.entry_list_append (F.args_list_append_2 _ _) (PySem.list_append l a7.toArray n u (by rw [ft];omega)) ⟨e,?_⟩;refine ⟨.cn,_,J.Lc (its':=a7 ++ [u]) kK e (by simp) (r.append (.cons eZ .nil)) ?_,rfl,q⟩;rw [cZ,pa];omega
noncomputable def ID:V->List V->aw->c4->Prop:=fun x vs H Q=>∃ l b xs zs,x=.ref l/\vs=[.ref b]/\H l=some (.lst xs)/\H b=some (.lst zs)/\xs.length + zs.length <= sizeLine/\Q .cn (upd H l (.lst (xs ++ zs)))
theorem p0:Iq X "list.extend" ID:=by
 intro ab s σ H x vs v us Q J bg cH h;obtain ⟨l,b,xs,zs,rfl,rfl,kK,hB,aN,q⟩:=h;cases bg;obtain ⟨u,rfl,eZ⟩:=cH.one;cases eZ;obtain ⟨z,a7,n,r,aL,e⟩:=J.uY kK;obtain ⟨eg,tU,cU,gJ,uj,aH⟩:=J.uY hB;have hsz:a7.toArray.size + tU.toArray.size <= sizeLine:=by rw [ft,ft];omega
 have Xb:¬ (!a7.toArray.isEmpty && Oj (a7.toArray.size + tU.toArray.size))=true:=by
  rw [Z_ hsz,ajw];exact fB
 refine call_meets qC ⟨_,e,rfl⟩ F.entry_list_extend (F.args_list_extend_2 _ _)
  (AutoSeq1.list_extend_list_list_0 l a7.toArray n b tU.toArray cU Xb (by rw [ft];omega) (by omega)) ⟨e,aH,?_⟩
 refine ⟨.cn,_,J.Lc (its':=a7 ++ tU) kK e (by simp) (r.append gJ) ?_,rfl,q⟩;rw [cZ];omega
noncomputable def Kv:e':=fun x y H Q=>∃ l b xs zs,x=.ref l/\y=.ref b/\H l=some (.lst xs)/\H b=some (.lst zs)/\xs.length + zs.length <= sizeLine/\∀ p,H p=none->Q (.ref p) (upd H p (.lst (xs ++ zs)))
theorem KW:hS X (binaryOp .Add) Kv:=by
 intro ab s σ H x y v u Q J bg bA h;obtain ⟨l,b,xs,zs,rfl,rfl,kK,hB,aN,q⟩:=h;cases bg;cases bA;obtain ⟨z,a7,n,r,aL,e⟩:=J.uY kK;obtain ⟨eg,tU,cU,gJ,uj,aH⟩:=J.uY hB;refine PySem.P.add_list e aH ?_ (by rw [ft,ft];omega);have ie:a7.toArray ++ tU.toArray=(a7 ++ tU).toArray:=by simp
 rw [ie];exact ⟨.ref _,_,J.akO (t':=s.toks) (r.append gJ) (by rw [cZ];omega),rfl,q _ J.fresh⟩
end
section
variable {prog:Program} {w:World} {A:Around} {E:Value->Shared->Prop} {s:Shared}
end
section
variable {X:bb}
end
section
variable {eQ:Type} [DecidableEq eQ]
noncomputable def dn (kvs:List (eQ × V)) (k:eQ):Option V:=(kvs.find? fun dx=>decide (dx.1=k)).map (·.2)
noncomputable def es (kvs:List (eQ × V)) (k:eQ) (v:V):List (eQ × V):=
 if (kvs.any fun dx=>decide (dx.1=k))=true then kvs.map (fun dx=>if dx.1=k then (dx.1,v) else dx) else kvs ++ [(k,v)]
noncomputable def q_ (kvs:List (eQ × V)) (k:eQ):List (eQ × V):=kvs.filter fun dx=>decide (dx.1 ≠ k)
theorem nZ {p:eQ × V} {k:eQ} (e:p.1=k):dn (p :: r) k=some p.2:=by simp [dn,sN,e]
theorem oJ {p:eQ × V} {k:eQ} (e:¬ p.1=k):dn (p :: r) k=dn r k:=by simp [dn,sN,e]
theorem AR (k:eQ):∀ kvs:List (eQ × V),(kvs.any fun dx=>decide (dx.1=k))=(dn kvs k).isSome
 | []=>rfl
 | p :: r=>by
  rw [zf];by_cases e:p.1=k
  .simp only [nZ e,decide_eq_true e,te,Option.isSome_some]
  .rw [oJ e,decide_eq_false e,mM];exact AR k r
theorem R8 (k j:eQ) (y:V):∀ kvs:List (eQ × V),dn (kvs.map fun dx=>if dx.1=k then (dx.1,y) else dx) j=(dn kvs j).map fun x=>if j=k then y else x
 | []=>rfl
 | p :: r=>by
  have cS:=R8 k j y r;rw [e8];by_cases h:p.1=k
  .rw [if_pos h];by_cases e:p.1=j
   .rw [nZ (p:=(p.1,y)) e,nZ e,Bl,if_pos (e.symm.trans h)]
   .rw [oJ (p:=(p.1,y)) e,oJ e,cS]
  .rw [if_neg h];by_cases e:p.1=j
   .rw [nZ (p:=p) e,nZ e,Bl,if_neg (fun z=>h (e.trans z))]
   .rw [oJ (p:=p) e,oJ e,cS]
theorem PV (k j:eQ) (y:V):∀ kvs:List (eQ × V),dn kvs k=none->dn (kvs ++ [(k,y)]) j=if j=k then some y else dn kvs j
 | [],_=>by
  by_cases e:k=j
  .rw [if_pos e.symm];exact nZ (p:=(k,y)) e
  .rw [if_neg (fun z=>e z.symm)];exact oJ (p:=(k,y)) e
 | p :: r,aX=>by
  rw [zq];have aC:¬ p.1=k:=fun z=>by rw [nZ z] at aX;cases aX
  rw [oJ aC] at aX;have cS:=PV k j y r aX;by_cases e:p.1=j
  .rw [nZ e,nZ e,if_neg (fun z=>aC (e.trans z))]
  .rw [oJ e,oJ e,cS]
theorem Ua (kvs:List (eQ × V)) (k j:eQ) (y:V):dn (es kvs k y) j=if j=k then some y else dn kvs j:=by
 unfold es;by_cases a:(kvs.any fun dx=>decide (dx.1=k))=true
 .rw [if_pos a,R8];rw [AR] at a;by_cases e:j=k
  .obtain ⟨x,ah⟩:=amC.mp a;rw [if_pos e,e,ah,Bl,if_pos rfl]
  .rw [if_neg e];cases dn kvs j with
   | none=>rfl
   | some x=>rw [Bl,if_neg e]
 .rw [if_neg a];refine PV k j y kvs ?_;rw [AR] at a;cases q:dn kvs k with
  | none=>rfl
  | some x=>rw [q] at a;exact (a rfl).elim
theorem Ho (kvs:List (eQ × V)) (k:eQ) (v:V):(es kvs k v).length <= kvs.length + 1:=by
 unfold es;split
 .rw [aW];omega
 .rw [cZ,gy,y4];omega
theorem je.Hn (r:je o u):o.isSome=u.isSome:=by
 cases o with
 | none=>cases u with
  | none=>rfl
  | some _=>exact (show False from r).elim
 | some _=>cases u with
  | none=>exact (show False from r).elim
  | some _=>rfl
theorem e9.val (r:e9 kvs vs) (k:eQ):je (dn kvs k) (valueAt vs k):=by
 unfold e9 at r
 induction r with
 | nil=>exact lQ
 | @cons p q ps qs h t cS=>
  obtain ⟨af,ak⟩:=h;by_cases e:p.1=k
  .have bH:q.1=k:=af.symm.trans e;have b:valueAt (q :: qs) k=some q.2:=by simp [valueAt,sN,bH]
   rw [nZ e,b];exact ak
  .have bH:¬ q.1=k:=fun z=>e (af.trans z)
   have b:valueAt (q :: qs) k=valueAt qs k:=by simp [valueAt,sN,bH]
   rw [oJ e,b];exact cS
theorem e9.any (r:e9 kvs vs) (k:eQ):(kvs.any fun dx=>decide (dx.1=k))=vs.any fun dx=>decide (dx.1=k):=by
 unfold e9 at r
 induction r with
 | nil=>rfl
 | cons h t cS=>rw [zf,zf,cS,h.1]
theorem e9.FE (r:e9 kvs vs) (k:eQ) (bA:bX y u) :
  e9 (kvs.map fun dx=>if dx.1=k then (dx.1,y) else dx) (vs.map fun dx=>if dx.1=k then (dx.1,u) else dx):=by
 unfold e9 at r ⊢
 induction r with
 | nil=>exact .nil
 | @cons p q ps qs h t cS=>
  rw [e8,e8];refine .cons ?_ cS;obtain ⟨af,ak⟩:=h;by_cases e:p.1=k
  .rw [if_pos e,if_pos (af.symm.trans e)];exact ⟨af,bA⟩
  .rw [if_neg e,if_neg (fun z=>e (af.trans z))];exact ⟨af,ak⟩
theorem e9.put (r:e9 kvs vs) (k:eQ) (bA:bX y u):e9 (es kvs k y) (stored vs k u):=by
 unfold es stored;rw [r.any k];by_cases e:(vs.any fun dx=>decide (dx.1=k))=true
 .rw [if_pos e,if_pos e];exact r.FE k bA
 .rw [if_neg e,if_neg e];exact PD r ⟨rfl,bA⟩
theorem e9.drop (r:e9 kvs vs) (k:eQ):e9 (q_ kvs k) (without vs k):=by
 unfold e9 at r ⊢;unfold q_ without
 induction r with
 | nil=>exact .nil
 | @cons p q ps qs h t cS=>
  obtain ⟨af,ak⟩:=h;rw [ZN,ZN];by_cases e:p.1=k
  .have a:¬ decide (p.1 ≠ k)=true:=by simp [e]
   have b:¬ decide (q.1 ≠ k)=true:=by simp [af.symm.trans e]
   rw [if_neg a,if_neg b];exact cS
  .have bH:¬ q.1=k:=fun z=>e (af.trans z)
   have a:decide (p.1 ≠ k)=true:=by simp [e]
   have b:decide (q.1 ≠ k)=true:=by simp [bH]
   rw [if_pos a,if_pos b];exact .cons ⟨af,ak⟩ cS
theorem e9.length (r:e9 kvs vs):kvs.length=vs.length:=Jd r
theorem amd (kvs:List (eQ × V)) (k:eQ):(q_ kvs k).length <= kvs.length:=vk _ _
end
theorem tp {w:World} {k:Key} (r:bX (dQ k) u):(iu P w).is k u=true:=by
 cases k with
 | inl i=>obtain ⟨t,e⟩:=(show ∃ t,u=oY i t from r);subst e;exact aeJ P w i t
 | inr x=>obtain ⟨t,e⟩:=(show ∃ t,u=yu x t from r);subst e;exact aeT P w x t
theorem RM {w:World}:∀ {bC:List Key} {us:List Value},cQ (bC.map dQ) us->ItemsAre (iu P w) bC us
 | [],_,r=>by rw [pv] at r;cases r;exact .nil
 | k :: bC,_,r=>by
  rw [e8] at r;cases r with
  | cons h t=>exact .cons (tp h) (RM t)
noncomputable abbrev KT (H:aw):List (List Key × V)->List (List Key × Addr × Value)->Prop:=Paired fun p q=>p.1=q.1/\H q.2.1=some (.tup (p.1.map dQ))/\bX p.2 q.2.2
theorem KT.val (r:KT H kvs xs) (k:List Key):je (dn kvs k) ((atKey xs k).map (·.2)):=by
 induction r with
 | nil=>exact lQ
 | @cons p q ps qs h t cS=>
  obtain ⟨af,_,ak⟩:=h;by_cases e:p.1=k
  .have bH:q.1=k:=af.symm.trans e;have b:atKey (q :: qs) k=some q.2:=by simp [atKey,sN,bH]
   rw [nZ e,b];exact ak
  .have bH:¬ q.1=k:=fun z=>e (af.trans z)
   have b:atKey (q :: qs) k=atKey qs k:=by simp [atKey,sN,bH]
   rw [oJ e,b];exact cS
theorem KT.FE (r:KT H kvs xs) (k:List Key) (bA:bX y u) :
  KT H (kvs.map fun dx=>if dx.1=k then (dx.1,y) else dx) (xs.map (putAt k u)):=by
 induction r with
 | nil=>exact .nil
 | @cons p q ps qs h t cS=>
  rw [e8,e8];refine .cons ?_ cS;obtain ⟨af,ak,a5⟩:=h;unfold putAt;by_cases e:p.1=k
  .rw [if_pos e,if_pos (af.symm.trans e)];exact ⟨af,ak,bA⟩
  .rw [if_neg e,if_neg (fun z=>e (af.trans z))];exact ⟨af,ak,a5⟩
theorem KT.put (r:KT H kvs xs) (k:List Key) (aa:H b=some (.tup (k.map dQ))) (bA:bX y u) :
  KT H (es kvs k y) (storedH xs k b u):=by
 have e:(kvs.any fun dx=>decide (dx.1=k))=(atKey xs k).isSome:=by
  rw [AR,(r.val k).Hn,Yx]
 unfold es storedH;rw [e];by_cases q:(atKey xs k).isSome=true
 .rw [if_pos q,if_pos q];exact r.FE k bA
 .rw [if_neg q,if_neg q];exact PD r ⟨rfl,aa,bA⟩
theorem KT.keeps (r:KT H kvs xs) (cR:∀ b ys,H b=some (.tup ys)->I b=some (.tup ys)):KT I kvs xs:=
 Paired.q6 r fun _ _ z=>⟨z.1,cR _ _ z.2.1,z.2.2⟩
section
variable {P:Program} {w:World} {H:aw} {h:Heap} {a:Addr}
theorem PH (ok:fb P w H h) (e:lD H a u):fC P w H h a u:=e.ok ok
theorem yU (ok:fb P w H h) (e:lD H a (.bW kvs)):kvs.length <= sizeLine/\(a == sysModules)=false/\∃ vs,e9 kvs vs/\h.DictOf (iu P w) a vs:=
 show fC P w H h a (.bW kvs) from PH ok e
theorem wj (ok:fb P w H h) (e:H a=some (.bW kvs)):kvs.length <= sizeLine/\(a == sysModules)=false/\∃ vs,e9 kvs vs/\h.DictOf (iu P w) a vs:=yU ok (.inl e)
theorem yl {bC:List Key} (ok:fb P w H h) (e:H a=some (.tup (bC.map dQ))):(tupleKind (iu P w)).is h bC a:=by
 obtain ⟨_,a7,r,o,af,ak,n,a5⟩:=(show fC P w H h a (.tup (bC.map dQ)) from ok a _ e);exact ⟨o,a7.toArray,n,af,ak,a5,by simpa using RM r⟩
theorem zg (ok:fb P w H h) (e:lD H a (.gu kvs)):kvs.length <= sizeLine/\(a == sysModules)=false /\
  ∃ xs,KT H kvs xs/\h.DictOfH (tupleKind (iu P w)) a xs:=by
 obtain ⟨z,y,xs,r,o,aU,ct,af,ak,a5,bN,dy⟩:=(show fC P w H h a (.gu kvs) from PH ok e);refine ⟨z,y,xs,r,o,aU,ct,af,ak,a5,bN,fun x ah=>?_,dy⟩;have all:∀ {l:List (List Key × V)} {m:List (List Key × Addr × Value)},KT H l m->∀ x ∈ m,(tupleKind (iu P w)).is h x.1 x.2.1:=by
  intro l m q
  induction q with
  | nil=>intro x ah;exact nomatch ah
  | @cons p q ps qs aR t cS=>
   intro x ah;rcases en.mp ah with e | ah
   .subst e;exact yl ok (by rw [<- aR.1];exact aR.2.1)
   .exact cS x ah
 exact all r x ah
theorem Oq (ok:fb P w H h) (e:H a=some (.gu kvs)):kvs.length <= sizeLine/\(a == sysModules)=false /\
  ∃ xs,KT H kvs xs/\h.DictOfH (tupleKind (iu P w)) a xs:=zg ok (.inl e)
end
def ij (H:aw) (a:Addr) (y:V) (r:Option V):Prop:=
 (∃ kvs k,lD H a (.bW kvs)/\y=dQ k/\r=dn kvs k)\/∃ kvs k b,lD H a (.gu kvs)/\y=.ref b/\H b=some (.tup (k.map dQ))/\r=dn kvs k
def l5 (H:aw) (a:Addr) (y v:V) (I:aw):Prop:=
 (∃ kvs k,H a=some (.bW kvs)/\y=dQ k/\kvs.length < sizeLine/\I=upd H a (.bW (es kvs k v))) \/
 ∃ kvs k b,H a=some (.gu kvs)/\y=.ref b/\H b=some (.tup (k.map dQ))/\kvs.length < sizeLine/\I=upd H a (.gu (es kvs k v))
theorem ij.k {k:Key} (e:H a=some (.bW kvs)):ij H a (dQ k) (dn kvs k):=.inl ⟨kvs,k,.inl e,rfl,rfl⟩
theorem l5.k {k:Key} (e:H a=some (.bW kvs)) (aL:kvs.length < sizeLine):l5 H a (dQ k) v (upd H a (.bW (es kvs k v))):=.inl ⟨kvs,k,e,rfl,aL,rfl⟩
theorem l5.t {k:List Key} (e:H a=some (.gu kvs)) (eS:H b=some (.tup (k.map dQ))) (aL:kvs.length < sizeLine) :
  l5 H a (.ref b) v (upd H a (.gu (es kvs k v))):=.inr ⟨kvs,k,b,e,rfl,eS,aL,rfl⟩
section
variable {X:bb} {ab:List (Addr × Obj)} {σ:St} {H:aw} {s:Shared} {a:Addr} {y v:V} {u r:Value} {o:Option V} {A:Around} {E:Value->Shared->Prop}
theorem Inv.big (J:Inv X ab σ H s):sysModules < s.heap.objs.size:=by
 have h:mainGlobals < s.heap.objs.size:=(J.mod.glob.keeps J.cP).lt;exact N1 (by decide) h
theorem aaE (bY:A.units + 1 < cLine) (J:Inv X ab σ H s) (g:ij H a y (some v)) (bA:bX y u) (h:∀ e_ aj,Inv X ab σ H aj->bX v e_->Q e_ aj) :
  wpAny (model X.prog X.w) A (getItem (.ref a) u) Q E s:=by
 rcases g with ⟨kvs,k,e,ix,l⟩ | ⟨kvs,k,b,e,ix,eS,l⟩
 .subst ix;obtain ⟨z,hd,vs,rel,d9⟩:=yU J.bu e;obtain ⟨e_,hw,gE⟩:=je.some_of (v:=v) (o:=valueAt vs k) (by rw [l];exact rel.val k);exact wpAny_getItem_of (tp bA) d9.mapOf hw (h e_ _ (J.tok _) gE)
 .subst ix;cases (show u=fW b from bA);obtain ⟨z,hd,xs,rel,d9⟩:=zg J.bu e;obtain ⟨e_,hw,gE⟩:=je.some_of (v:=v) (o:=(atKey xs k).map (·.2)) (by rw [l];exact rel.val k);obtain ⟨p,ar,fV⟩:=yR.mp hw;refine wpAny_getItem_heap (tupleKind_room_in1 bY) (yl J.bu eS) d9 ar ?_;rw [fV];exact h e_ _ (J.tok _) gE
theorem adW (bY:A.units + 1 < cLine) (J:Inv X ab σ H s) (g:ij H a y o) (bA:bX y u) (h:∀ aj,Inv X ab σ H aj->Q (.bool (!o.isSome)) aj) :
  wpAny (model X.prog X.w) A (compareOp .NotIn u (.ref a)) Q E s:=by
 rcases g with ⟨kvs,k,e,ix,l⟩ | ⟨kvs,k,b,e,ix,eS,l⟩
 .subst ix;obtain ⟨z,hd,vs,rel,d9⟩:=yU J.bu e;refine wpAny_notIn_of (tp bA) hd d9.mapOf ?_;rw [<- (rel.val k).Hn,<- l];exact h _ (J.tok _)
 .subst ix;cases (show u=fW b from bA);obtain ⟨z,hd,xs,rel,d9⟩:=zg J.bu e;refine wpAny_notIn_heap (tupleKind_room_in1 bY) (yl J.bu eS) hd d9 ?_;have q:=(rel.val k).Hn;rw [Yx] at q;rw [<- q,<- l];exact h _ (J.tok _)
theorem AS (J:Inv X ab σ H s) (j8:tX (H a)) (ax:ux a s.heap h') (he:∃ q,h'.get? a=some q) (new:fC X.prog X.w (upd H a cV) h' a cV) :
  Inv X ab σ (upd H a cV) { s with heap:=h',toks:=t' }:=
 J.write (x:=a) (e:=a) j8 (.inl rfl) (fun b q aa z=>(ax.2 b aa).trans z) he new
theorem Je {w:World} (z:kvs.length <= sizeLine) (hd:(a == sysModules)=false) (rel:e9 kvs vs) (d9:h'.DictOf (iu P w) a vs) :
  fC P w I h' a (.bW kvs):=⟨z,hd,vs,rel,d9⟩
theorem QB (bY:A.units + 1 < cLine) (J:Inv X ab σ H s) (g:l5 H a y v I) (bA:bX y u) (cH:bX v r) (h:∀ aj,Inv X ab σ I aj->Q () aj) :
  wpAny (model X.prog X.w) A (setItem (.ref a) u r) Q E s:=by
 rcases g with ⟨kvs,k,e,ix,l,yp⟩ | ⟨kvs,k,b,e,ix,eS,l,yp⟩
 .subst ix yp;obtain ⟨z,hd,vs,rel,d9⟩:=wj J.bu e;have aN:vs.length <= sizeLine:=by rw [<- rel.length];exact z
  have aL:(es kvs k v).length <= sizeLine:=by have:=Ho kvs k v;omega
  refine wpAny_setItem_pairs (hsz:=aN) (tp bA) d9 fun h' oi ax=>h _ ?_
  have he:∃ q,h'.get? a=some q:=let ⟨q,_,_,aR,_⟩:=oi;⟨q,aR⟩;exact AS J (by rw [e];exact lQ) ax he (Je aL hd (rel.put k cH) oi)
 .subst ix yp;cases (show u=fW b from bA);obtain ⟨z,hd,xs,rel,d9⟩:=Oq J.bu e;have aN:xs.length <= sizeLine:=by rw [<- Jd rel];exact z
  have aL:(es kvs k v).length <= sizeLine:=by have:=Ho kvs k v;omega
  refine wpAny_setItem_heap (hsz:=aN) (tupleKind_room_in1 bY) (yl J.bu eS) d9 fun h' oi ax=>h _ ?_
  obtain ⟨q,aU,ct,aR,ak,a5,bN,_,dy⟩:=oi;refine AS J (by rw [e];exact lQ) ax ⟨q,aR⟩ ⟨aL,hd,_,(rel.put k eS cH).keeps fun c ys gh=>?_,q,aU,ct,aR,ak,a5,bN,dy⟩;rw [aM (cx gh e (fun z=>nomatch z))];exact gh
end
section
variable {X:bb} {ab:List (Addr × Obj)} {σ:St} {H:aw} {s:Shared} {a:Addr} {kvs:List (Key × V)} {k:Key} {u:Value} {A:Around} {E:Value->Shared->Prop}
theorem amH (J:Inv X ab σ H s) (e:H a=some (.bW kvs)) (bA:bX (dQ k) u) (l:dn kvs k=some v) (hm:more=[]\/∃ x,more=[x])
  (h:∀ e_ aj,Inv X ab σ (upd H a (.bW (q_ kvs k))) aj->bX v e_->Q e_ aj):wpAny (model X.prog X.w) A (call (.builtin "dict.pop") (.ref a :: u :: more)) Q E s:=by
 obtain ⟨z,hd,vs,rel,d9⟩:=wj J.bu e;obtain ⟨e_,hw,gE⟩:=je.some_of (v:=v) (o:=valueAt vs k) (by rw [<- l];exact rel.val k);have ar:(keyPart u).isSome=true:=by
  cases k with
  | inl i=>obtain ⟨t,q⟩:=(show ∃ t,u=oY i t from bA);subst q;rfl
  | inr x=>obtain ⟨t,q⟩:=(show ∃ t,u=yu x t from bA);subst q;rfl
 have aP:argsOk "dict.pop" ⟨.ref a :: u :: more,[]⟩:=by
  rcases hm with q | ⟨x,q⟩
  .subst q;exact PySem.F.args_dict_pop_2 _ _
  .subst q;exact agl _ _ _
 refine call_meetsIn Nz d9.typeIs amR aP (meets_dict_pop_there (iu X.prog X.w) a (tp bA) more hm ar)
  ⟨vs,e_,d9,by rw [<- rel.length];exact z,hw,fun h' oi ax=>h e_ _ ?_ gE⟩
 have he:∃ q,h'.get? a=some q:=let ⟨q,_,_,aR,_⟩:=oi;⟨q,aR⟩;exact AS J (by rw [e];exact lQ) ax he (Je (cL (amd kvs k) z) hd (rel.drop k) oi)
theorem aff (J:Inv X ab σ H s) (e:H a=some (.bW kvs)) (bA:bX (dQ k) u) (l:dn kvs k=none) (h:∀ aj,Inv X ab σ H aj->Q r aj) :
  wpAny (model X.prog X.w) A (call (.builtin "dict.pop") [.ref a,u,r]) Q E s:=by
 obtain ⟨z,hd,vs,rel,d9⟩:=wj J.bu e;have aX:valueAt vs k=none:=je.none_of (by rw [<- l];exact rel.val k);have ar:(keyPart u).isSome=true:=by
  cases k with
  | inl i=>obtain ⟨t,q⟩:=(show ∃ t,u=oY i t from bA);subst q;rfl
  | inr x=>obtain ⟨t,q⟩:=(show ∃ t,u=yu x t from bA);subst q;rfl
 exact call_meetsIn Nz d9.typeIs amR (agl _ _ _) (meets_dict_pop_default (iu X.prog X.w) a (tp bA) hd ar r) ⟨vs,d9,aX,h _ (J.tok _)⟩
end
def IY (i:Expr):Prop:=∀ hW n2,subscripted i false hW n2=operate [hW,n2] (getItem hW n2)
theorem M3 {prog:Program} {w:World} {A:Around} {E:Value->Shared->Prop} {s:Shared} {env:Env} {value slice:Expr} {pos:Pos} {T id:String} {Q:Value->Shared->Prop}
  (aL:typeLookup (.type T) "__getitem__"=pure (some (.builtin id))) (ax:IY slice)
  (h:wpAny (model prog w) A (eval value env) (fun o du=>wpAny (model prog w) A (eval slice env) (fun i d5=>d5.TypeIs o T/\wpAny (model prog w) A (getItem o i) Q E d5) E du) E s) :
  wpAny (model prog w) A (eval (.Subscript value slice pos) env) Q E s:=by
 refine Subscript_ (wpAny_mono h (fun o du h₁=>wpAny_mono h₁ (fun i d5 xx=>?_) fun _ _ x=>x) fun _ _ x=>x);obtain ⟨lq,xx⟩:=xx;unfold subscriptTail;refine wpAny_bind ?_;rw [getitemInPython_of_ne lq.not_modules];refine wpAny_bind (wpAny_specialOf lq aL ?_);have fin:wpAny (model prog w) A (subscripted slice false o i) (fun r nB=>wpAny (model prog w) A (letTemporaryGo value o r >>= fun _=>pure r) Q E nB) E d5:=by
  rw [ax o i];exact wpAny_operating (wpAny_mono xx (fun r nB zw=>wpAny_bind (wpAny_letTemporaryGo (wpAny_pure zw))) fun _ _ x=>x)
 first
  | exact wpAny_pure (wpAny_bind fin)
  | exact wpAny_bind (wpAny_pure (wpAny_bind fin))
  | exact wpAny_bind fin
theorem YF (J:Inv X ab σ H s) (g:ij H a y o):s.TypeIs (.ref a) "dict" := by
 rcases g with ⟨kvs,k,e,_,_⟩ | ⟨kvs,k,b,e,_,_,_⟩
 .obtain ⟨_,_,vs,_,d9⟩:=yU J.bu e;exact d9.typeIs
 .obtain ⟨_,_,xs,_,d9⟩:=zg J.bu e;exact d9.typeIs
noncomputable def JC (gd ty:TE):TE:=fun σ H Q=>gd σ H fun x H1=>ty σ H1 fun y av=>fG x fun a=>∃ v,ij av a y (some v)/\Q v av
noncomputable def Gu (ty gd:TE):TE:=fun σ H Q=>ty σ H fun y H1=>gd σ H1 fun x av=>fG x fun a=>∃ o,ij av a y o/\Q (.bo (!o.isSome)) av
noncomputable def Gi (gd ty gk:TE):ey:=fun D σ H=>gk σ H fun v H1=>gd σ H1 fun x av=>ty σ av fun y br=>fG x fun a=>∃ cJ,l5 br a y v cJ/\D.cT σ cJ
section
variable {X:bb} {o i e value:Expr} {pos pos' wX:Pos} {gd ty gk:TE}
theorem oZ (bY:X.A.units + 1 < cLine) (aS:bD X o gd) (ai:bD X i ty) (ax:IY i):bD X (.Subscript o i pos) (JC gd ty):=by
 intro ab s σ H Q J h;refine M3 aiu.lookup ax (bJ (aS ab s σ H _ J h) fun u s1 cB=>ew cB fun x H1 aZ bg bS=>bJ (ai ab s1 σ H1 _ aZ bS) fun n2 s2 cB=>ew cB fun y av bV bA g7=>?_);obtain ⟨a,ex,v,g,eo⟩:=fG.out g7;subst ex;obtain rfl:u=fW a:=bg;exact ⟨YF bV g,aaE bY bV g bA fun e_ s3 fu gE=>⟨v,av,fu,gE,eo⟩⟩
theorem Ud (bY:X.A.units + 1 < cLine) (ai:bD X i ty) (aS:bD X o gd):Qr X .NotIn i o (Gu ty gd):=by
 intro ab s σ H Q J h;refine bJ (ai ab s σ H _ J h) fun n2 s1 cB=>ew cB fun y H1 aZ bA bS=>bJ (aS ab s1 σ H1 _ aZ bS) fun u s2 cB=>ew cB fun x av bV bg g7=>?_
 obtain ⟨a,ex,hW,g,eo⟩:=fG.out g7;subst ex;obtain rfl:u=fW a:=bg;exact adW bY bV g bA fun s3 fu=>⟨.bo (!hW.isSome),av,fu,rfl,eo⟩
theorem vv (bY:X.A.units + 1 < cLine) (aS:bD X o gd) (ai:bD X i ty) (aF:bD X value gk) (ax:swapsWith value (some (.Subscript o i pos')) pos.line X.env=pure false) :
  hA X (.Assign [.Subscript o i pos'] value pos) (Gi gd ty gk):=by
 intro ab s σ H D J h;refine wpAny_Assign_Subscript (bJ (aF ab s σ H _ J h) fun r s1 cB=>ew cB fun v H1 aZ cH bS=>bJ (aS ab s1 σ H1 _ aZ bS) fun u s2 cB=>ew cB fun x av bV bg eo=>bJ (ai ab s2 σ av _ bV eo) fun n2 s3 cB=>ew cB fun y br fu bA g7=>?_) ax;obtain ⟨a,ex,cJ,g,ic⟩:=fG.out g7;subst ex;obtain rfl:u=fW a:=bg;exact QB bY fu g bA cH fun s4 iA=>⟨σ,cJ,iA,ic⟩
end
theorem N5 {w:World} (h:Heap) (aa:sysModules < h.objs.size):fC P w H (h.push { cls:=.type "dict",data:=.dict #[] }) h.objs.size (.bW []):=
 ⟨fh _,beq_eq_false_iff_ne.mpr (eb (f7 aa)),[],.nil,Heap.DictOf.new h⟩
theorem adQ {w:World} (h:Heap) (aa:sysModules < h.objs.size):fC P w H (h.push { cls:=.type "dict",data:=.dict #[] }) h.objs.size (.gu []):=
 ⟨fh _,beq_eq_false_iff_ne.mpr (eb (f7 aa)),[],.nil,_,#[],0,gV _ rfl,⟨rfl,rfl,rfl⟩,rfl,rfl,RQ⟩
noncomputable def Ml:TE:=fun _ H Q=>∀ p,H p=none->Q (.ref p) (upd H p (.bW []))
noncomputable def Jt:TE:=fun _ H Q=>∀ p,H p=none->Q (.ref p) (upd H p (.gu []))
section
variable {X:bb} {pos:Pos}
theorem Dy:bD X (.Dict [] [] pos) Ml:=fun ab s σ H Q J h=>
 wpAny_Dict_empty ⟨.ref s.heap.objs.size,_,J.laid (a:=s.heap.objs.size) (o:=.bW []) (t':=s.toks) (fun _ _ q=>eJ _ q) (bP _) (N5 s.heap J.big),rfl,h _ (J.bu.fresh (bP _))⟩
theorem alu:bD X (.Dict [] [] pos) Jt:=fun ab s σ H Q J h=>
 wpAny_Dict_empty ⟨.ref s.heap.objs.size,_,J.laid (a:=s.heap.objs.size) (o:=.gu []) (t':=s.toks) (fun _ _ q=>eJ _ q) (bP _) (adQ s.heap J.big),rfl,h _ (J.bu.fresh (bP _))⟩
end
noncomputable def Ca:List (TE × TE)->St->aw->(List (V × V)->aw->Prop)->Prop
 | [],_,H,Q=>Q [] H
 | (tk,gk) :: r,σ,H,Q=>tk σ H fun x H1=>gk σ H1 fun y av=>Ca r σ av fun ps br=>Q ((x,y) :: ps) br
noncomputable abbrev Nw:List (V × V)->List (Value × Value)->Prop:=Paired fun p q=>bX p.1 q.1/\bX p.2 q.2
def Dw (X:bb) (pos:Pos) (keys:List (Option Expr)) (values:List Expr) (tx:List (TE × TE)):Prop:=
 ∀ (ab:List (Addr × Obj)) (s:Shared) (σ:St) (H:aw) (Q:List (V × V)->aw->Prop),Inv X ab σ H s->Ca tx σ H Q ->
  wpAny (model X.prog X.w) X.A (evalPairs (pairTrees keys values X.env pos)) (fun vs aj=>∃ ps I,Inv X ab σ I aj/\Nw ps vs/\Q ps I) X.d2 s
theorem abB:Dw X pos [] [] []:=fun ab s σ H Q J h=>pairTrees_nil_walk ⟨[],H,J,.nil,h⟩
theorem V' {k v:Expr} {bC:List (Option Expr)} (aC:bD X k tk) (aF:bD X v gk) (ao:Dw X pos bC vs tx) :
  Dw X pos (some k :: bC) (v :: vs) ((tk,gk) :: tx):=fun ab s σ H Q J h=>
 pairTrees_cons_walk (bJ (aC ab s σ H _ J h) fun u s1 cB=>ew cB fun x H1 aZ bg bS=>bJ (aF ab s1 σ H1 _ aZ bS) fun ea s2 ⟨y,av,bV,bA,eo⟩=>
  bJ (ao ab s2 σ av _ bV eo) fun ws s3 ⟨ps,br,fu,rel,ic⟩=>⟨(x,y) :: ps,br,fu,.cons ⟨bg,bA⟩ rel,ic⟩)
noncomputable def tF (kvs more:List (Key × V)):List (Key × V):=more.foldl (fun acc dx=>es acc dx.1 dx.2) kvs
theorem e9.merge:∀ {more:List (Key × V)} {rs:List (Key × Value)} {kvs:List (Key × V)} {vs:List (Key × Value)},e9 more rs->e9 kvs vs->e9 (tF kvs more) (merged vs rs):=by
 intro more rs kvs vs r;unfold e9 at r
 induction r generalizing kvs vs with
 | nil=>intro q;exact q
 | @cons p q ps qs h t cS=>
  intro qF;have e:e9 (es kvs p.1 p.2) (stored vs q.1 q.2):=by
   have:=qF.put p.1 h.2;rw [<- h.1];exact this
  exact cS e
theorem Sq:∀ (more kvs:List (Key × V)),(tF kvs more).length <= kvs.length + more.length
 | [],kvs=>by show kvs.length <= kvs.length + 0;omega
 | p :: r,kvs=>by
  have af:=Sq r (es kvs p.1 p.2);have ak:=Ho kvs p.1 p.2;show (tF (es kvs p.1 p.2) r).length <= _;rw [gy];omega
theorem OB {w:World}:∀ {kvs:List (Key × V)} {ws:List (Value × Value)},Nw (kvs.map fun dx=>(dQ dx.1,dx.2)) ws->∃ rs,Carries (iu P w) ws rs/\e9 kvs rs
 | [],_,r=>by rw [pv] at r;cases r;exact ⟨[],lQ,.nil⟩
 | p :: kvs,_,r=>by
  rw [e8] at r;cases r with
  | @cons a b as bs h t=>
   obtain ⟨rs,c,q⟩:=OB (P:=P) (w:=w) t;obtain ⟨fx,fA⟩:=b;exact ⟨(p.1,fA) :: rs,⟨tp h.1,rfl,c⟩,.cons ⟨rfl,h.2⟩ q⟩
noncomputable def E7 (tx:List (TE × TE)):TE:=fun σ H Q=>∀ p,H p=none->Ca tx σ (upd H p (.bW [])) fun ps av=>av p=some (.bW [])/\∃ kvs:List (Key × V),ps=kvs.map (fun dx=>(dQ dx.1,dx.2))/\kvs.length <= 15/\Q (.ref p) (upd av p (.bW (tF [] kvs)))
theorem akD {keys:List (Option Expr)} (h:Dw X pos keys values tx) (oo:keys.all (·.isSome)=true) (aL:keys.length=values.length) (h0:keys ≠ [])
  (ab1:keys.length <= 15):bD X (.Dict keys values pos) (E7 tx):=by
 intro ab s σ H Q J q;have aX:=J.bu.fresh (bP s.heap.objs.size);have aZ:=J.laid (a:=s.heap.objs.size) (o:=.bW []) (h':=s.heap.push { cls:=.type "dict",data:=.dict #[] }) (t':=s.toks) (fun _ _ q=>eJ _ q) (bP _) (N5 s.heap J.big);refine wpAny_Dict_walk (knd:=iu X.prog X.w) oo aL h0 ab1 (bJ (h ab _ σ _ _ aZ (q _ aX)) fun ws s2 da=>?_);obtain ⟨ps,av,bV,rel,e,kvs,ct,lk,eo⟩:=da;subst ct;obtain ⟨rs,c,JZ⟩:=OB (P:=X.prog) (w:=X.w) rel;obtain ⟨z,hd,P0,qF,d9⟩:=wj bV.bu e;cases qF;refine ⟨rs,c,d9,fun h' oi ax=>⟨.ref s.heap.objs.size,_,?_,rfl,eo⟩⟩;have aN:(tF [] kvs).length <= sizeLine:=by
  have af:=Sq kvs [];rw [y4] at af;rw [sizeLine_eq];omega
 have he:∃ q,h'.get? s.heap.objs.size=some q:=let ⟨q,_,_,aR,_⟩:=oi;⟨q,aR⟩;exact AS bV (by rw [e];exact lQ) ax he (Je aN hd (JZ.merge .nil) oi)
structure an1 (X:bb) (o:Expr) (m:Str) (gp:Pos) (e:Expr) (i4:Pos):Prop where
 base:attributeBase o m X.env (eval o X.env)=eval o X.env
 Tu:((backTo i4 (starEach [e] X.env)).all (fun x=>!x.1) && (backToKw i4 (keywordEach [] X.env)).all (fun x=>x.1.isSome)
  && decide (([e]:List Expr).length + ([]:List Keyword).length + (if ([]:List Keyword).isEmpty then 0 else 1) < 30))=true
 line:(gp.endLine == i4.line)=true
 trees:backTo i4 (starEach [e] X.env)=[(false,eval e X.env)]
structure M2 (X:bb) (o:Expr) (m:Str) (gp:Pos) (e f:Expr) (i4:Pos):Prop where
 base:attributeBase o m X.env (eval o X.env)=eval o X.env
 Tu:((backTo i4 (starEach [e,f] X.env)).all (fun x=>!x.1) && (backToKw i4 (keywordEach [] X.env)).all (fun x=>x.1.isSome)
  && decide (([e,f]:List Expr).length + ([]:List Keyword).length + (if ([]:List Keyword).isEmpty then 0 else 1) < 30))=true
 line:(gp.endLine == i4.line)=true
 trees:backTo i4 (starEach [e,f] X.env)=[(false,eval e X.env),(false,eval f X.env)]
def Hr (H:aw) (a:Addr):Prop:=(∃ kvs,lD H a (.bW kvs))\/∃ kvs,lD H a (.gu kvs)
theorem afl (J:Inv X ab σ H s) (d:Hr H a) :
  s.TypeIs (.ref a) "dict" /\ (∀ b,fW a=.ref b->∃ cV,s.heap.get? b=some cV/\cV.dict=none)/\(a == sysModules)=false:=by
 rcases d with ⟨kvs,e⟩ | ⟨kvs,e⟩
 .obtain ⟨_,hd,vs,_,d9⟩:=yU J.bu e;refine ⟨d9.typeIs,fun b q=>?_,hd⟩;cases q;obtain ⟨cV,_,_,af,ak,_⟩:=d9;exact ⟨cV,af,ak.2.1⟩
 .obtain ⟨_,hd,xs,_,d9⟩:=zg J.bu e;refine ⟨d9.typeIs,fun b q=>?_,hd⟩;cases q;obtain ⟨cV,_,_,af,ak,_⟩:=d9;exact ⟨cV,af,ak.2.1⟩
section
variable {X:bb} {ab:List (Addr × Obj)} {σ:St} {H:aw} {s:Shared} {a:Addr} {y d:V} {u r:Value} {o:Option V} {A:Around} {E:Value->Shared->Prop}
end
noncomputable def So (gd ty tn:TE):TE:=fun σ H Q=>gd σ H fun x H1=>∃ a,x=.ref a/\Hr H1 a/\ty σ H1 fun y av=>tn σ av fun z br=>∃ kvs k,br a=some (.bW kvs)/\y=dQ k /\
 (∀ v,dn kvs k=some v->Q v (upd br a (.bW (q_ kvs k))))/\(dn kvs k=none->Q z br)
section
variable {X:bb} {o e f:Expr} {gp i4:Pos} {gd ty tn:TE}
theorem aly (aS:bD X o gd) (he:bD X e ty) (hf:bD X f tn) (m:M2 X o "pop" gp e f i4):bD X (.Call (.Attribute o "pop" gp) [e,f] [] i4) (So gd ty tn):=by
 intro ab s σ H Q J h;refine wpAny_Call_method m.base m.Tu m.line PySem.F.plainAttrs_dict Nz PySem.F.type_dict_pop (bJ (aS ab s σ H _ J h) fun u s1 da=>?_);obtain ⟨x,H1,aZ,bg,a,ex,d,bS⟩:=da;subst ex;obtain rfl:u=fW a:=bg;obtain ⟨t1,dJ,_⟩:=afl aZ d;refine ⟨t1,dJ,?_⟩;rw [m.trees];refine aiw rfl (aiZ (Oh (bJ (he ab s1 σ H1 _ aZ bS) fun n2 s2 ⟨y,av,bV,bA,eo⟩=>
  Oh (bJ (hf ab s2 σ av _ bV eo) fun aak s3 ⟨z,br,fu,F3,kvs,k,ie,ix,ic,yz⟩=>adX ?_))))
 subst ix;cases l:dn kvs k with
 | some v=>exact amH fu ie bA l (.inr ⟨aak,rfl⟩) fun e_ s4 iA gE=>⟨v,_,iA,gE,ic v l⟩
 | none=>exact aff fu ie bA l fun s4 iA=>⟨z,br,iA,F3,yz l⟩
end
section
variable {X:bb} {ab:List (Addr × Obj)} {σ:St} {H:aw} {s:Shared} {a:Addr} {kvs:List (Key × V)} {A:Around} {E:Value->Shared->Prop}
end
section
variable {X:bb} {ab:List (Addr × Obj)} {σ:St} {H:aw} {s:Shared} {a:Addr} {y:V} {u:Value} {A:Around} {E:Value->Shared->Prop}
end
end L2
namespace QT
open PySem PySem.W PySem.Calls PyProof.Rows
theorem Z6 {h:Heap}:∀ (ns:List Int) (vs:List Value),WellAll P h vs (ns.map abw)->IntsAre vs ns:=by
 intro ns
 induction ns with
 | nil=>
  intro vs w;rw [pv] at w;cases w;exact .nil
 | cons n ns cS=>
  intro vs w;rw [e8] at w;cases w with
  | cons a b=>
   cases a;exact .cons _ _ (cS _ b)
theorem WN {l:OpenLaw} {n:Nat} (aX:l.most=some n) {P:Params} {h:Heap} {args:List WData} {Ld:List Value}
  (BY:l.row.toRowW.claim.pre args=true) (gw:WellAll P h Ld args) :
  ∃ a vs ns,Ld=[fW a]/\args=[WData.list (ns.map abw)]/\h.get? a=some { cls:=.type "list",data:=.seq vs.toArray }/\IntsAre vs ns/\ns.length <= n:=by
 have gM:WShape.hasAll [] args [.list .int]=true:=(pre_splitW BY).1;have aB:l.pre.holds [] { args:=args }=true:=(pre_splitW BY).2;obtain ⟨d,r,rfl,af,ak⟩:=hasAllW_cons gM;obtain rfl:=hasAllW_nil ak;obtain ⟨xs,rfl,a5⟩:=hasW_list af;obtain ⟨ns,rfl⟩:=items_int a5;have hlen:ns.length <= n:=by
  unfold OpenLaw.pre at aB;have bN:(WTm.not (.lt (.lit (.int (n:Int))) (.len (.arg 0)))).holds [] { args:=[.list (ns.map .int)] }=true:=by
   have bN:=(holds_andW aB).1;rw [aX] at bN;exact bN
  have dy:=condW_of bN (w_not (w_lt w_lit (w_len_list (w_arg rfl))));rw [aW] at dy;refine abb fun q=>?_
  have dB:(n:Int) < ((ns.length:Nat):Int):=by omega
  first
   | (rw [decide_eq_true dB] at dy;exact absurd dy (by decide))
   | (simp at dy;omega)
 cases gw with
 | cons dC ea=>
  cases ea;cases dC with
  | list aS oo=>exact ⟨_,_,ns,rfl,rfl,aS,Z6 ns _ oo,hlen⟩
theorem ajr (l:OpenLaw) (args:List WData):l.row.toRowW.claim.post args (.bool true) args=true:=
 postW_of (r:=l.row.toRowW) (X:=(true == true))
  (show ZC [] (.bool true) .bool=true by first | rfl | decide | simp [ZC,WShape.arms,WShape.armsAll])
  (show (WTm.eq .res (.lit (.bool true))).value [] { args:=args,res:=some (.bool true),after:=args }=some (.bool (true == true)) from w_eq_bool (w_res rfl) w_lit) rfl
theorem ab8 {l:OpenLaw} {n:Nat} {q:Program} {loose:List Str} {Ci:(Str->Option Value)->Heap->Prop} {vS:World->Heap->Prop} {d:DefRec}
  (aX:l.most=some n) (FT:d.params.defaults=[])
  (call:∀ (w:World) (fQ du:Shared) (mg ny:Str->Option Value) (gf:Addr) (o:Obj) (pm cd doc:Value) (a:Addr) (vs:List Value) (ns:List Int),
   Ground q loose [] Ci w fQ mg ny du.heap->vS w du.heap ->
   du.heap.get? gf=some o->o.data=.func (docDef d.name d.params d.body d.scope pm cd doc)->du.heap.CodeRec cd d.name->mg d.name=some (.ref gf) ->
   du.heap.get? a=some { cls:=.type "list",data:=.seq vs.toArray }->IntsAre vs ns->ns.length <= n->du.gens=#[] ->
   codeAny (model l.prog w) callerA (.call (.ref gf) ⟨[.ref a],[]⟩) (fun r aj=>r=.ok (.ret (.bool true))/\OldK du.heap aj.heap/\aj.os=du.os/\AllBare aj.gens) du) :
  WalkO q loose Ci vS l.row.toRowW d [] (fun f vs=>amB f vs):=by
 intro w fQ du mg ny G Y gf o pm cd doc Bf dQ aS hd jh bQ wU a8 args Ld as BY an9 anJ gw tH;obtain rfl:Bf=.none:=Dflts.none bQ FT;obtain rfl:dQ=.none:=Dflts.noKw bQ;obtain ⟨a,vs,ns,rfl,rfl,GO,hints,hlen⟩:=WN aX BY gw;refine enter_call (codeAny_mono (call w fQ du mg ny gf o pm cd doc a vs ns G Y aS (fd_plain hd) jh wU GO hints hlen a8) fun r aj aR=>?_);obtain ⟨rfl,ak,a5,bN⟩:=aR;exact ⟨.inl ⟨.bool true,.bool true,[],rfl,fun _=>rfl,.bool true,ajr l _,fun _=>⟨apb,fun _ hm=>(nomatch hm)⟩⟩,ak,a5,bN⟩
section
variable {prog:Program} {w:World} {A:Around} {E:Value->Shared->Prop} {s:Shared} {K:Frag}
end
end QT
namespace L2
open PySem PySem.Spec PyProof.Rows
theorem V0:∀ {vs:List Value} {ns:List Int},IntsAre vs ns->cQ (ns.map V.int) vs
 | _,_,.nil=>.nil
 | _,_,.cons n t h=>.cons ⟨t,rfl⟩ (V0 h)
noncomputable abbrev Dr {K:bk} {h:Heap} (_:K.In h):bk:=K
noncomputable def fj (s:Stmt) (j:Nat):Stmt:=match s with
 | .ClassDef _ _ _ body _ _ _ _ _ _ _=>body.getD j (.Pass ⟨0,0,0,0⟩)
 | _=>.Pass ⟨0,0,0,0⟩
noncomputable def Di (s:Stmt):Arguments:=match s with
 | .FunctionDef _ a _ _ _ _ _ _ _ _=>a
 | _=>{ posonlyargs:=[],args:=[],vararg:=none,kwonlyargs:=[],kw_defaults:=[],kwarg:=none,defaults:=[] }
noncomputable def ro (s:Stmt):List Stmt:=match s with
 | .FunctionDef _ _ b _ _ _ _ _ _ _=>b
 | _=>[]
noncomputable def bt (s:Stmt):Scope:=match s with
 | .FunctionDef _ _ _ _ _ _ sc _ _ _=>sc
 | _=>{ kind:=.function,names:=[],isGenerator:=false,isCoroutine:=false }
noncomputable abbrev dk:ku:=fun _ _ _ _ _ _=>False
noncomputable abbrev HL:f5:=fun _ _ _=>False
theorem c2:p2 dk X HL:=fun _ _ _ _ _ _ _ h=>h.elim
structure b3 (K:bk) (x qual:Str) (st:Stmt) (f:Addr) (fd:FuncData):Prop where
 ex:∃ (oP:Value) (fi:Option Addr) (dQ doc pm:Value) (an:Option Addr) (fl fv:Value) (tI:Array (Option Value)),
  fd=x_ x qual (Di st) (ro st) (bt st) .none dQ doc pm an fl fv/\K.lookup f=some ⟨oP,fi,.func fd,tI⟩/\Qf K fl qual=true
 bl:tl K (.ref f)=true
section
variable {P:Program} {w:World} {K:bk} {mg:Str->Option Value} {base:Heap}
theorem b3.ok {x qual:Str} {st:Stmt} {fd:FuncData} {N ps:List Str} {k:Nat} (F:b3 K x qual st f fd) (S:Db N ps (bt st)) (len:∀ vs H Q E,sp vs H Q E->vs.length=ps.length)
  (nJ:∀ (fl:Value) (A:Around) (outer:List Env) (s:Shared) (H:aw) (vs:List V) (Q:c4) (E:f5),eO k (A.deeper (envOfC qual (bt st) s.heap.objs.size f fl))->sp vs H Q E ->
   ∃ t,jx (ri dk P w K mg base N qual (bt st) f fl A outer s H E).sJ (ro st) t/\t { cT:=fun _ I=>Q .cn I,lL:=Q } (start N vs) H):cD P w K mg base dk (k + 1) f fd ps sp:=by
 obtain ⟨oP,fi,dQ,doc,pm,an,fl,fv,tI,rfl,lk,jh⟩:=F.ex;refine Ph lk jh S len fun A outer s H vs Q E ao jN=>?_
 obtain ⟨t,h,q⟩:=nJ fl A outer s H vs Q E ao jN;exact ⟨t,h.sJ,q⟩
theorem b3.binds {x qual:Str} {st:Stmt} {fd:FuncData} (F:b3 K x qual st f fd)
  (h:∀ (dQ doc pm:Value) (an:Option Addr) (fl fv:Value) (us:List Value),us.length=ps.length->bindArgs (x_ x qual (Di st) (ro st) (bt st) .none dQ doc pm an fl fv) ⟨us,[]⟩=pure (ps.zip us)):b0 K fd ps []:=by
 obtain ⟨oP,fi,dQ,doc,pm,an,fl,fv,tI,rfl,lk,jh⟩:=F.ex;exact .all (h dQ doc pm an fl fv)
theorem ae_ {x qual:Str} {st:Stmt} {dQ doc pm fl fv:Value} (l:K.lookup f=some ⟨oP,fi,.func (x_ x qual (Di st) (ro st) (bt st) .none dQ doc pm an fl fv),tI⟩)
  (c:Qf K fl qual=true) (k:tl K (.ref f)=true):b3 K x qual st f (x_ x qual (Di st) (ro st) (bt st) .none dQ doc pm an fl fv):=⟨⟨oP,fi,dQ,doc,pm,an,fl,fv,tI,rfl,l,c⟩,k⟩
end
def YM (A:Around):Prop:=A.units + 1 < cLine
def akP (A:Around):Prop:=A.units + 64 < cLine
theorem acb {A:Around} {k:Nat} (ao:eO k A):akP A:=ao.units
theorem iN {A:Around} {k:Nat} (ao:eO k A):YM A:=gD (Nat.add_le_add_left (by decide:1 <= 64) _) ao.units
section
variable {X:bb}
theorem U (i:Nat) {x:Str} (bj:X.N[i]? = some x:=by rfl) (aF:DE X.env.scope x:=by first | exact oQ rfl | exact mb (oQ rfl) | exact mb (mb rfl)) (hd:(x == ("__debug__" : Str))=false:=by decide)
  (jh:(x == ("__classdict__" : Str))=false:=by decide):bD X (.Name x pos) (zH i):=ajz bj aF hd jh
end
def aK (H I:aw):Prop:=∀ b o,H b=some o->I b=some o
theorem aK.refl (H:aw):aK H H:=fun _ _ h=>h
theorem aK.trans (a:aK H H1) (b:aK H1 av):aK H av:=fun c o h=>b c o (a c o h)
theorem aK.free (e:aK H I) (h:I l=vB):H l=vB:=by
 cases q:H l with
 | none=>rfl
 | some o=>
  rw [e l o q] at h;cases h
section
variable {eQ:Type} [DecidableEq eQ]
end
end L2
set_option maxHeartbeats 4000000
namespace L2
open PySem PySem.Spec PyProof.Rows
noncomputable def jX (cells:List (Str × Addr)):List (Str × NameKind)->List (Str × Addr)->List (Str × Addr)
 | [],acc=>acc
 | (n,k) :: r,acc=>if k == .free then (match cells.lookup n with | some c=>jX cells r ((n,c) :: acc) | none=>jX cells r acc) else jX cells r acc
theorem I2 {env:Env}:∀ (names:List (Str × NameKind)) (acc:List (Str × Addr)),(∀ y ∈ names,y.2=.free->∃ c,env.cells.lookup y.1=some c) ->
  (forIn names acc (fun (x:Str × NameKind) (cs:List (Str × Addr))=>(if (x.2 == .free)=true then do let a <- cellOf env x.1;pure (xS ((x.1,a) :: cs)) else pure (xS cs):Sem (ForInStep (List (Str × Addr))))))=pure (jX env.cells names acc)
 | [],acc,_=>rfl
 | (n,k) :: r,acc,h=>by
  have ao:∀ y ∈ r,y.2=.free->∃ c,env.cells.lookup y.1=some c:=fun y a6=>h y (ik _ a6)
  rw [List.forIn_cons];by_cases aC:(k == ru)=true
  .have e:k=.free:=by simpa using aC
   obtain ⟨c,aB⟩:=h (n,k) m3 e;have vJ:env.cells.lookup n=some c:=aB;simp only [jX,aC,if_true,vJ,cellOf];exact I2 r _ ao
  .simp only [jX,aC];exact I2 r _ ao
theorem O8 {env:Env} (h:∀ y ∈ scope.names,y.2=.free->∃ c,env.cells.lookup y.1=some c):closureFor scope env=pure (jX env.cells scope.names []):=by
 unfold closureFor;exact congrArg (fun t=>t >>= pure) (I2 scope.names [] h)
theorem An {cells:List (Str × Addr)}:∀ (names:List (Str × NameKind)) (acc:List (Str × Addr)) {x:Str} {c:Addr},(jX cells names acc).lookup x=some c->acc.lookup x=some c\/cells.lookup x=some c
 | [],acc,x,c,h=>.inl h
 | (n,k) :: r,acc,x,c,h=>by
  unfold jX at h;split at h
  .cases q:cells.lookup n with
   | none=>rw [q] at h;exact An r acc h
   | some d=>
    rw [q] at h;rcases An r _ h with z | z
    .rw [lu] at z;by_cases ah:(x == n)=true
     .rw [ah] at z;have e:x=n:=by simpa using ah
      subst e
      right;rw [q];exact z
     .have dW:(x == n)=false:=by simpa using ah
      rw [dW] at z;exact .inl z
    .exact .inr z
  .exact An r acc h
theorem ir {cells:List (Str × Addr)}:∀ (names:List (Str × NameKind)) (acc:List (Str × Addr)) {x:Str} {c:Addr},acc.lookup x=some c->cells.lookup x=some c->(jX cells names acc).lookup x=some c
 | [],acc,x,c,h,_=>h
 | (n,k) :: r,acc,x,c,h,aB=>by
  unfold jX;split
  .cases q:cells.lookup n with
   | none=>exact ir r acc h aB
   | some d=>
    refine ir r _ ?_ aB;rw [lu];by_cases ah:(x == n)=true
    .have e:x=n:=by simpa using ah
     subst e;rw [ah];rw [q] at aB;exact aB
    .have dW:(x == n)=false:=by simpa using ah
     rw [dW];exact h
  .exact ir r acc h aB
theorem yG {cells:List (Str × Addr)}:∀ (names:List (Str × NameKind)) (acc:List (Str × Addr)) {x:Str} {c:Addr},(x,ru) ∈ names->cells.lookup x=some c->(jX cells names acc).lookup x=some c
 | [],_,_,_,h,_=>nomatch h
 | (n,k) :: r,acc,x,c,h,aB=>by
  rcases en.mp h with e | h
  .cases e;unfold jX;rw [if_pos (by decide),aB];refine ir r _ ?_ aB;rw [lu];simp
  .unfold jX;split
   .cases q:cells.lookup n with
    | none=>exact yG r acc h aB
    | some d=>exact yG r _ h aB
   .exact yG r acc h aB
theorem Kc:∀ {l:List (Str × α)} {x:Str} {a:α},l.lookup x=some a->(x,a) ∈ l
 | [],_,_,h=>by simp at h
 | (n,b) :: r,x,a,h=>by
  rw [lu] at h;by_cases ah:(x == n)=true
  .have e:x=n:=by simpa using ah
   subst e;rw [ah] at h;have aH:b=a:=eE h;subst aH;exact m3
  .have dW:(x == n)=false:=by simpa using ah
   rw [dW] at h;exact ik _ (Kc h)
theorem aiM {env:Env} {x:Str} {k:NameKind} (h:(relabel scope env).names.lookup x=some k) (aC:k=.cell\/k=.free) (aB:∀ y ∈ scope.names,y.2 ≠ .cell):(x,ru) ∈ scope.names:=by
 have af:=Kc h;obtain ⟨⟨n,j⟩,hm,e⟩:=cc.mp af;have bH:(if (j == ru && env.scope.kind == .function && env.kindOf n == some .cell)=true then (n,PJ) else (n,j))=(x,k):=e;split at bH
 .rename_i SQ;have aq:n=x:=(Qq bH).1;subst aq;have aG:j=.free:=by
   simp only [iF] at SQ;simpa using SQ.1.1
  subst aG;exact hm
 .have aq:n=x:=(Qq bH).1;have aH:j=k:=(Qq bH).2;subst aq;subst aH;rcases aC with z | z
  .exact absurd z (aB _ hm)
  .subst z;exact hm
theorem Wp {env:Env} {x:Str} (h:scope.names.lookup x=some .free):(relabel scope env).names.lookup x=some .cell\/(relabel scope env).names.lookup x=some .free:=by
 have all:∀ (names:List (Str × NameKind)),names.lookup x=some .free ->
   (names.map fun (n,k)=>if (k == ru && env.scope.kind == .function && env.kindOf n == some .cell) then (n,PJ) else (n,k)).lookup x=some .cell \/
   (names.map fun (n,k)=>if (k == ru && env.scope.kind == .function && env.kindOf n == some .cell) then (n,PJ) else (n,k)).lookup x=some .free:=by
  intro names
  induction names with
  | nil=>intro h;simp at h
  | cons p r cS=>
   obtain ⟨n,k⟩:=p;intro h;rw [e8];by_cases ah:(x == n)=true
   .simp only [lu,ah] at h;have aC:k=.free:=eE h;subst aC;by_cases aB:(ru == ru && env.scope.kind == .function && env.kindOf n == some .cell)=true
    .left;simp only [if_pos aB,lu,ah]
    .right;simp only [if_neg aB,lu,ah]
   .have dW:(x == n)=false:=by simpa using ah
    simp only [lu,dW] at h;by_cases aB:(k == ru && env.scope.kind == .function && env.kindOf n == some .cell)=true
    .simp only [if_pos aB,lu,dW];exact cS h
    .simp only [if_neg aB,lu,dW];exact cS h
 exact all scope.names h
noncomputable abbrev bb.block (X:bb) (scope:Scope) (C:Addr) (N:List Str) (s:Shared) (H:aw) (bf:List Addr):bb where
 prog:=X.prog
 w:=X.w
 K:=X.K
 mg:=X.mg
 base:=X.base
 A:=X.A
 N:=N
 fQ:=s
 r1:=H
 env:=compEnvC scope (jX X.env.cells scope.names []) C X.env
 outer:=X.stack
 stack:=X.stack
 ex:=bf
 fn:=fun _=>false
 calm:=X.calm
 eL:=[]
 d2:=fun _ _=>False
structure rz (env:Env) (scope:Scope):Prop where
 kind:scope.kind=.function
 vR:∀ y ∈ scope.names,y.2 ≠ .cell
 fr:∀ y ∈ scope.names,y.2=.free->env.kindOf y.1=some .cell\/env.kindOf y.1=some .free
 loc:∀ x ∈ scope.names,x.2=.local->scope.names.lookup x.1=some .local
noncomputable def nD (sel:List (Option Nat)) (σ:St):St:=sel.map fun o=>o.bind fun j=>(σ[j]?).join
def yK (M:List Str) (scope:Scope) (N:List Str) (sel:List (Option Nat)):Prop:=
 sel.length=N.length/\∀ (i j:Nat) (x:Str),sel[i]? = some (some j)->N[i]? = some x->M[j]? = some x/\scope.names.lookup x=some .free
section
variable {X:bb} {ab:List (Addr × Obj)} {σ:St} {H:aw} {s:Shared} {scope:Scope} {bf:List Addr} {C:Addr} {N:List Str}
theorem rz.cells (S:rz X.env scope) (ok:X.Ok):∀ y ∈ scope.names,y.2=.free->∃ c,X.env.cells.lookup y.1=some c:=fun y a6 e=>ok.has y.1 (S.fr y a6 e)
theorem vD {x:Str} (h:(jX X.env.cells scope.names []).lookup x=some c):X.env.cells.lookup x=some c:=by
 rcases An _ _ h with z | z
 .simp at z
 .exact z
theorem RI (J:Inv X ab σ H s) (S:rz X.env scope) (hf:∀ b ∈ bf,jR X ab H b) (ax:∀ b ∈ bf,b < s.heap.objs.size) (dg:s.heap.objs.size <= C):(X.block scope C N s H bf).Ok where
 mod:=J.ok.mod
 kind:=S.kind
 glob:=J.ok.glob
 blt:=J.ok.blt
 above:=dg
 inj:=fun x y c af ak=>J.ok.inj x y c (vD af) (vD ak)
 has:=fun x h=>by
  have aC:∃ k,(relabel scope X.env).names.lookup x=some k/\(k=.cell\/k=.free):=by
   rcases h with h | h
   .exact ⟨_,h,.inl rfl⟩
   .exact ⟨_,h,.inr rfl⟩
  obtain ⟨k,af,ak⟩:=aC;have hm:=aiM af ak S.vR;obtain ⟨c,aB⟩:=S.cells J.ok _ hm rfl;exact ⟨c,yG _ _ hm aB⟩
 ub:=fun _ _ h _=>nomatch h
 hd:=J.ok.hd
 frames:=J.ok.frames
 wo:=.inl rfl
 Ju:=fun b aa=>⟨f7 (h_ (ax b aa) dg),fun x c e=>(hf b aa).2.2.2.2.1 x c (vD e)⟩
 bs:=J.bs
 nA:=cL J.ok.nA J.nU
 vw:=fun b o e aa=>by
  rcases (hf b aa).2.2.2.1 with z | z
  .exact J.ok.vw b o e z
  .exact absurd (h_ (h_ (d8 e) J.ok.nA) z) (oM _)
 vK:=fun b aa aN=>by
  rcases en.mp (J.AQ b aN) with z | z
  .exact (hf b aa).2.1 z
  .exact (hf b aa).2.2.1 z
 mI:=J.stack
 rP:=J.Iw
theorem akd (J:Inv X ab σ H s) (S:rz X.env scope) (hf:∀ b ∈ bf,jR X ab H b) (ax:∀ b ∈ bf,b < s.heap.objs.size) (dg:s.heap.objs.size <= C)
  (k:∀ b o,s.heap.get? b=some o->h'.get? b=some o) (aX:h'.Ns C m) (rU:yK X.N scope N sel):Inv (X.block scope C N s H bf) [] (nD sel σ) H { s with heap:=h',toks:=t' } where
 ok:=RI J S hf ax dg
 os:=rfl
 bare:=J.bare
 base:=hb.kept k
 loc:=by
  refine ⟨m,aX,fun i x v aq aH bO=>?_⟩;obtain ⟨m0,qx,aL⟩:=J.loc;obtain ⟨j,rZ,aaN⟩:∃ j,sel[i]? = some (some j)/\σ[j]? = some (some v):=by
   unfold nD at aH;rw [df] at aH;cases q:sel[i]? with
   | none=>rw [q] at aH;cases aH
   | some o=>
    rw [q] at aH;cases o with
    | none=>cases aH
    | some j=>
     refine ⟨j,rfl,?_⟩;have Aa:(σ[j]?).join=some v:=eE aH;cases r:σ[j]? with
     | none=>rw [r] at Aa;cases Aa
     | some z=>rw [r] at Aa;exact congrArg some Aa
  obtain ⟨W_,r6⟩:=rU.2 i j x rZ aq;have hm:=Kc r6;have aC:=S.fr _ hm rfl;have aF:DE X.env.scope x:=aC.elim (fun z=>.inr (.inl z)) fun z=>.inr (.inr z)
  obtain ⟨u,r,l⟩:=aL j x v W_ aaN aF;refine ⟨u,r,?_⟩;rcases l with ⟨ajL,_⟩ | ⟨_,c,aB,zA⟩
  .rcases aC with z | z <;> (have gZ:X.env.kindOf x=_:=z;rw [ajL] at gZ;cases gZ)
  .refine .inr ⟨?_,c,yG _ _ hm aB,?_⟩
   .exact Wp r6
   .obtain ⟨o,aS,hd⟩:=zA;exact ⟨o,k _ _ aS,hd⟩
 cell:=fun x c e=>by
  obtain ⟨v,o,aS,hd⟩:=J.cell x c (vD e);exact ⟨v,o,k _ _ aS,hd⟩
 free:=J.bu.fresh dg
 j1:=fun x c e=>J.j1 x c (vD e)
 pin:=fun p ar=>nomatch ar
 bu:=J.bu.kept k
 len:=by unfold nD;rw [aW];exact rU.1
theorem Inv.adopt (J:Inv X ab σ H s) (hp:jR X ab H a) (new:fC X.prog X.w (upd H a o) s.heap a o):Inv X ab σ (upd H a o) s:=by
 obtain ⟨aX,ek,A1,hex,mT,kF⟩:=hp;refine J.step (g':=s.gens) (d':=s.drawn) (t':=s.toks) (h':=s.heap) (ch:=[a]) (fun b aa=>?_) (fun b o _ _ _ e _=>e) (fun b o _ _ _ e _=>⟨o.slots,e⟩) (fun b o aa e n=>?_) (fun b o _ e=>⟨o,e⟩)
  (fun b xs e=>?_) (fun b o u e=>?_) (fun b ps e=>⟨#[],?_⟩) (fun m hm=>hm) (fun b u e=>?_) J.bare
 .have e:b=a:=by simpa using aa
  subst e;exact ⟨hex,ek,mT,kF⟩
 .rw [aM (fun z=>aa (by simp [z]))];exact n
 .rw [aM (dm e aX)];exact e
 .rw [aM (dm e aX)];exact e
 .rw [aM (dm e aX),e];simp
 .by_cases aa:b=a
  .subst aa;rw [aQ] at e;cases e;exact new
  .rw [aM aa] at e;exact (J.bu b u e).nO (fun c v _ q=>q) (fun c q=>by rw [aM (dm q aX)];exact q) fun c xs q=>by rw [aM (dm q aX)];exact q
end
theorem ahG {prog:Program} {w:World} {A:Around} {it acc:Value} {env:Env} (J:Nat->Shared->Prop)
  (turn:∀ n s,J n s->wpAny (model prog w) A (pyNext it) (fun r du=>match r with
   | none=>R (.ok .next) du
   | some v=>wpAny (model prog w) A (letOwnedTupleGo y3 it v) (fun _ fQ=>wpAny (model prog w) A (assign y3 env v) (fun _ d5=>
     wpAny (model prog w) A (forIn ifs true fun c r=>if r=true then do let ok <- isTrue c env (eval c env);pure (xS ok) else pure (xS r)) (fun ok nB=>
      if ok=true then wpAny (model prog w) A (eval elt env) (fun x B2=>
       wpAny (model prog w) A (call (.builtin "list.append") [acc,x]) (fun _ Rq=>∃ m,m < n/\J m Rq) (fun _ _=>False) B2) (fun _ _=>False) nB
      else ∃ m,m < n/\J m nB) (fun _ _=>False) d5) (fun _ _=>False) fQ) (fun _ _=>False) du) (fun _ _=>False) s)
  (n:Nat) (h:J n s) :
  codeAny (model prog w) A (.compLoop (.ListComp elt [⟨y3,iter,ifs,0⟩] scope pos) 0 it acc env) R s:=by
 refine codeAny_loop rfl J (fun n s IS=>?_) n h;show wpAny _ A ((compTurn (.ListComp elt [⟨y3,iter,ifs,0⟩] scope pos) 0 it acc env).onRaise (fun x=>do noteFrame x env;theTreesLotGoes x)) _ _ s;refine wpAny_noted (wpAny_noRaise ?_);rw [compTurn_list];refine wpAny_bind (wpAny_standAt (wpAny_bind (wpAny_mono (turn n s IS) (fun r du h₁=>?_) fun _ _ h'=>h')));cases r with
 | none=>exact wpAny_pure h₁
 | some v=>
  refine wpAny_bind (wpAny_mono h₁ (fun _ fQ h₀=>?_) fun _ _ h'=>h');refine wpAny_bind (wpAny_mono h₀ (fun _ d5 xx=>wpAny_bind (wpAny_mono xx (fun ok nB zw=>?_) fun _ _ h'=>h')) fun _ _ h'=>h');cases ok with
  | false=>exact wpAny_pure ⟨rfl,zw⟩
  | true=>
   exact wpAny_bind (wpAny_bind (wpAny_mono zw (fun x B2 al6=>wpAny_bind (wpAny_mono al6 (fun _ Rq XW=>wpAny_pure (wpAny_pure ⟨rfl,XW⟩)) fun _ _ h'=>h')) fun _ _ h'=>h'))
def wg (X:bb) (ifs:List Expr) (t:TT):Prop:=
 ∀ (ab:List (Addr × Obj)) (s:Shared) (σ:St) (H:aw) (Q:Bool->aw->Prop),Inv X ab σ H s->t σ H Q ->
  wpAny (model X.prog X.w) X.A (forIn ifs true fun c r=>if r=true then do let ok <- isTrue c X.env (eval c X.env);pure (xS ok) else pure (xS r)) (DZ X ab σ Q) X.d2 s
noncomputable def qM:TT:=fun _ H Q=>Q true H
theorem hn:wg X [] qM:=fun _ _ _ H _ J h=>wpAny_tests_nil ⟨H,J,h⟩
theorem sD {t:TT} (h:iO X c t):wg X [c] t:=fun ab s σ H Q J q=>wpAny_tests_one (h ab s σ H Q J q)
def Sub (σ au:St):Prop:=au.length=σ.length/\∀ (i:Nat) (v:V),σ[i]? = some (some v)->au[i]? = some (some v)
def tf (bz:kc) (g:gY) (dr:TT) (bR:TE) (dq:St) (Q:c4) (W:Nat->Nat->List V->aw->Prop):Prop:=∀ i m ys H,W i m ys H ->
 (bz.stop i H/\∀ p,H p=none->Q (.ref p) (upd H p (.lst ys))) \/
 (bz.go i H/\ys.length < sizeLine/\∀ x I,bz.ry i H x I->g x dq I fun cw av=>Sub dq cw/\dr cw av fun c br=>if c=true then bR cw br fun y cJ=>∃ dP,dP < m/\W (i + 1) dP (ys ++ [y]) cJ else ∃ dP,dP < m/\W (i + 1) dP ys br)
noncomputable def Mc (hI:TI) (g:gY) (dr:TT) (bR:TE) (sel:List (Option Nat)):TE:=fun σ H Q=>hI σ H fun bz H1=>∃ W:Nat->Nat->List V->aw->Prop,(∃ m,W 0 m [] H1)/\tf bz g dr bR (nD sel σ) Q W
section
variable {X:bb} {elt dz iter:Expr} {ifs:List Expr} {scope:Scope} {pos:Pos} {hI:TI} {g:gY} {dr:TT} {bR:TE} {N:List Str} {sel:List (Option Nat)}
structure e3 (X:bb) (scope:Scope) (N:List Str) (dz elt:Expr) (ifs:List Expr) (g:gY) (dr:TT) (bR:TE):Prop where
 Te:∀ C s H bf,o8 (X.block scope C N s H bf) dz g
 tests:∀ C s H bf,wg (X.block scope C N s H bf) ifs dr
 elem:∀ C s H bf,bD (X.block scope C N s H bf) elt bR
theorem e3.of {N:List Str} (af:∀ C s H bf,o8 (X.block scope C N s H bf) dz g)
  (ak:∀ C s H bf,∃ t,wg (X.block scope C N s H bf) ifs t/\t=dr) (a5:∀ C s H bf,∃ t,bD (X.block scope C N s H bf) elt t/\t=bR):e3 X scope N dz elt ifs g dr bR:=
 ⟨af,fun C s H bf=>by obtain ⟨t,h,rfl⟩:=ak C s H bf;exact h,fun C s H bf=>by obtain ⟨t,h,rfl⟩:=a5 C s H bf;exact h⟩
theorem KB {ab:List (Addr × Obj)} {d5:Shared} {σ:St} {iW:aw} {Q:c4} {it:Addr} {bf:List Addr} {iq:Nat->Heap->Prop} {bz:kc} {W:Nat->Nat->List V->aw->Prop} {E:Value->Shared->Prop} {RR:Value->Addr->Result->Shared->Prop}
  (aB:X.calm=true) (S:rz X.env scope) (rU:yK X.N scope N sel) (B:e3 X scope N dz elt ifs g dr bR) (bV:Inv X ab σ iW d5) (T:qb X.prog X.w X.K dz bz bf it iq) (si:iq 0 d5.heap) (f2:∀ b ∈ bf,jR X ab iW b)
  (ob:∃ m,W 0 m [] iW) (gj:tf bz g dr bR (nD sel σ) Q W)
  (fin:∀ D C ys I aj,Inv X ab σ (upd I D (.lst ys)) aj->(∃ m,aj.heap.Ns C m)->jR X ab (upd I D (.lst ys)) C->Q (.ref D) (upd I D (.lst ys))->RR (.ref D) C (.ok .next) aj) :
  wpAny (model X.prog X.w) X.A (newList []) (fun acc nB=>wpAny (model X.prog X.w) X.A (newFunctionEnv scope X.env.globals (jX X.env.cells scope.names []) [] X.env.qual none .none (some X.env)) (fun To B2=>
   codeAny (model X.prog X.w) X.A (.compStart (.ListComp elt [⟨dz,iter,ifs,0⟩] scope pos) 0 (.ref it) acc { To with scope:=relabel scope X.env }) (RR acc To.locals) B2) E nB) E d5:=by
 refine wpAny_newObj_type (wpAny_newFunctionEnv S.vR (by intro y a6;simp at a6) (fun h₁ Ja z4=>?_) S.kind);dsimp only at Ja z4 ⊢;generalize GY:d5.heap.push { cls:=.type "list",dict:=none,data:=.seq ([]:List Value).toArray }=av at Ja z4 ⊢;have dg:av.objs.size=d5.heap.objs.size + 1:=by rw [<- GY,Oe]
 have zh:d5.heap.objs.size ≠ av.objs.size:=by rw [dg];exact f7 (uy _)
 have EL:d5.heap.objs.size <= av.objs.size:=by rw [dg];exact DQ _
 have below:∀ b,b < d5.heap.objs.size->b ≠ av.objs.size/\b ≠ d5.heap.objs.size:=fun b aa=>⟨by rw [dg];exact f7 (Nat.lt_succ_of_lt aa),f7 aa⟩
 have old:∀ b o,d5.heap.get? b=some o->h₁.get? b=some o:=fun b o e=>z4.extBut b o (below b (d8 e)).1 (eJ _ (GY ▸ eJ _ e))
 have Zv:h₁.get? d5.heap.objs.size=some { cls:=.type "list",data:=.seq ([]:List Value).toArray }:=z4.extBut _ _ zh (eJ _ (GY ▸ gV _ rfl));have wV:∀ b ∈ bf,b < d5.heap.objs.size:=fun b aa=>by
  obtain ⟨o,e,_⟩:=T.obj _ _ si b aa;exact d8 e
 generalize anp:av.objs.size=C at *;generalize pB:d5.heap.objs.size=D at *;have Pj:iq 0 h₁:=T.keep _ _ _ si fun b _ o e=>old b o e
 have aae:Inv (X.block scope C N d5 iW bf) [] (nD sel σ) iW { d5 with heap:=h₁,toks:=d5.toks + ([]:List (Str × Value)).length }:=
  akd bV S f2 (fun b aa=>by rw [pB];exact wV b aa) (by rw [pB];exact EL) old Ja rU
 have Hs:D ∉ (X.block scope C N d5 iW bf).a3:=fun z=>by
  have gZ:=bV.AQ D z;rcases en.mp gZ with e | e
  .exact absurd bV.lt (by rw [<- e,pB];exact oM _)
  .exact bV.H2 (by rw [pB];exact bP _) e
 have loop:∀ nB:Shared,nB = { d5 with heap:=h₁,toks:=d5.toks + ([]:List (Str × Value)).length } ->
   codeAny (model X.prog X.w) X.A (.compLoop (.ListComp elt [⟨dz,iter,ifs,0⟩] scope pos) 0 (.ref it) (.ref D) (compEnvC scope (jX X.env.cells scope.names []) C X.env)) (RR (.ref D) C) nB:=by
  rintro nB rfl;obtain ⟨m0,ob⟩:=ob;refine ahG (fun k aj=>∃ i ys us n I,Inv (X.block scope C N d5 iW bf) [(D,{ cls:=.type "list",data:=.seq us n })] (nD sel σ) I aj/\(∃ vs:List Value,us=vs.toArray/\cQ ys vs)/\ys.length <= sizeLine/\iq i aj.heap/\(∀ b ∈ bf,I b=none)/\W i k ys I) ?_ m0
   ⟨0,[],_,0,iW,aae.tu fun p ar=>?_,⟨[],rfl,.nil⟩,fh _,Pj,fun b aa=>(f2 b aa).1,ob⟩
  .rintro k aj ⟨i,ys,us,n,I,L1,⟨vs,rfl,cH⟩,VJ,st,fr,w⟩;have K5:∀ {pl:List (Addr × Obj)} {jv:aw},(∀ p ∈ pl,p.1=D)->(∀ b ∈ bf,jv b=none)->∀ b ∈ bf,jR (X.block scope C N d5 iW bf) pl jv b:=fun {pl jv} ar aX b aa=>
    ⟨aX b aa,(below b (wV b aa)).1,(RI (N:=N) (C:=C) bV S f2 (fun b aa=>by rw [pB];exact wV b aa) (by rw [pB];exact EL)).vK b aa,.inl aa,fun x c e=>(f2 b aa).2.2.2.2.1 x c (vD e),fun p YP z=>by
     have Xx:p ∈ pl:=by simpa using YP
     exact (below b (wV b aa)).2 (by rw [<- z];exact ar p Xx)⟩
   have Fj:∀ p ∈ [((D,{ cls:=.type "list",data:=.seq vs.toArray n }):Addr × Obj)],p.1=D:=fun p ar=>by
    have e:p=(D,{ cls:=.type "list",data:=.seq vs.toArray n }):=by simpa using ar
    rw [e]
   rcases gj i k ys I w with ⟨stop,I8⟩ | ⟨go,hlen,step⟩
   .refine bJ (T.done (X.block scope C N d5 iW bf) rfl rfl rfl aB i _ aj _ I _ L1 (K5 Fj fr) st stop) fun r s4 da=>?_
    obtain ⟨ao,iA⟩:=da;subst ao;have sG:=iA.pin (D,{ cls:=.type "list",data:=.seq vs.toArray n }) (by simp);have Pw:I D=none:=sG.2.1;have adE:Inv X ab σ I s4:=bV.ag4 (ch:=bf) iA.os iA.base iA.bu iA.bare fun b aa=>⟨(f2 b aa).2.2.2.1,(f2 b aa).2.1,(f2 b aa).2.2.2.2.1,(f2 b aa).2.2.2.2.2⟩
    have tR:jR X ab I D:=bV.nY (by rw [pB];exact bP _) Pw;have aiq:Inv X ab σ (upd I D (.lst ys)) s4:=adE.adopt tR ⟨VJ,vs,n,cH,sG.1⟩;obtain ⟨ajl,Yu,_⟩:=iA.loc;refine fin D C ys I s4 aiq ⟨ajl,Yu⟩ (bV.nY (by rw [pB];exact EL) ?_) (I8 D Pw);rw [aM (eb zh)];exact iA.free
   .refine bJ (T.item (X.block scope C N d5 iW bf) rfl rfl rfl aB i _ aj _ I _ L1 (K5 Fj fr) st go) fun r s4 da=>?_
    obtain ⟨u,ao,bN⟩:=da;subst ao;refine bJ bN fun _ s5 da=>?_
    obtain ⟨x,ck,xe,J8,KQ,tW,KC⟩:=da;have HB:=xe.pinned (K5 Fj KC) (T.obj _ _ tW);refine bJ (B.Te C d5 iW bf _ s5 _ ck x u _ HB J8 (step x ck KQ)) fun _ e1 da=>?_
    obtain ⟨mQ,gg,Gn,o4,J4⟩:=da;refine bJ (B.tests C d5 iW bf _ e1 mQ gg _ Gn J4) fun c h4 da=>?_
    obtain ⟨fa,lj,nN⟩:=da;have again:∀ {sM:St} {iC:aw} {hH:Shared},Inv (X.block scope C N d5 iW bf) ([(D,{ cls:=.type "list",data:=.seq vs.toArray n })] ++ y5 bf s5.heap) sM iC hH->iq (i + 1) hH.heap/\(∀ b ∈ bf,iC b=none):=fun {sM iC hH} qv=>by
     refine ⟨T.keep _ _ _ tW fun b aa o e=>(qv.pin (b,o) (lO _ (lO _ (B8 aa e)))).1,fun b aa=>?_⟩;obtain ⟨o,e,d⟩:=T.obj _ _ tW b aa;exact (qv.pin (b,o) (lO _ (lO _ (B8 aa e)))).2.1
    have back:∀ {iC:aw} {hH:Shared} {pl:List (Addr × Obj)},Inv (X.block scope C N d5 iW bf) pl mQ iC hH->Inv (X.block scope C N d5 iW bf) pl (nD sel σ) iC hH:=fun {iC hH pl} qv=>qv.weak o4.1.symm o4.2
    cases c with
    | false=>
     obtain ⟨dP,hm,e_⟩:=nN;obtain ⟨t1,dJ⟩:=again lj;exact ⟨dP,hm,i + 1,ys,_,n,fa,back lj.Ct,⟨vs,rfl,cH⟩,VJ,t1,dJ,e_⟩
    | true=>
     refine bJ (B.elem C d5 iW bf _ h4 mQ fa _ lj nN) fun v hH da=>?_
     obtain ⟨y,iC,qv,amG,dP,hm,e_⟩:=da;obtain ⟨t1,dJ⟩:=again qv;have sG:=qv.pin (D,{ cls:=.type "list",data:=.seq vs.toArray n }) (by simp);refine append_at (hsz:=by have:=cH.length;rw [ft];omega) sG.1 fun wx Tt ak3=>?_
     have ad5:Inv (X.block scope C N d5 iW bf) [] (nD sel σ) iC hH:=(back qv).tu fun p ar=>nomatch ar
     have tR:jR (X.block scope C N d5 iW bf) [] iC D:=⟨sG.2.1,zh,Hs,.inr (by show d5.heap.objs.size <= D;rw [pB];exact bP _),(fun x c e z=>by
      obtain ⟨aoS,o,aS,hd⟩:=qv.cell x c e;rw [z,sG.1] at aS;cases aS;cases hd),(fun p ar=>nomatch ar)⟩
     have aen:Inv (X.block scope C N d5 iW bf) [] (nD sel σ) iC { hH with heap:=wx }:=ad5.turned (t':=hH.toks) (it:=D) (fun b o aa e=>(Tt.2 b aa).trans e) tR.1 tR.2.1 tR.2.2.2.1 tR.2.2.2.2.1 tR.2.2.2.2.2;refine ⟨dP,hm,i + 1,ys ++ [y],vs.toArray.push v,n + 1,iC,aen.tu fun p ar=>?_,⟨vs ++ [v],by simp,PD cH amG⟩,by rw [cZ,pa];omega,T.keep _ _ _ t1 fun b aa o e=>(Tt.2 b (below b (wV b aa)).2).trans e,dJ,e_⟩;have e:p=(D,{ cls:=.type "list",data:=.seq (vs.toArray.push v) (n + 1) }):=by simpa using ar
     subst e;exact ⟨ak3,sG.2.1,zh,Hs,fun v z=>by cases z⟩
  .have e:p=(D,{ cls:=.type "list",data:=.seq ([]:List Value).toArray }):=by simpa using ar
   subst e;exact ⟨Zv,bV.bu.fresh (by rw [pB];exact bP _),zh,Hs,fun v z=>by cases z⟩
 exact codeAny_compStart_list (loop _ rfl) (T.self _ 0 _ _ _ Pj (loop _ rfl))
theorem g_ (aB:X.calm=true) (ai:oa X dz iter hI) (S:rz X.env scope) (rU:yK X.N scope N sel) (B:e3 X scope N dz elt ifs g dr bR)
  (ax:∀ x,foldedSetIterable iter X.env x=pure x:=by intro _;rfl):bD X (.ListComp elt [⟨dz,iter,ifs,0⟩] scope pos) (Mc hI g dr bR sel):=by
 intro ab s σ H Q J h;rw [eval_ListComp];refine wpAny_comprehension_free (use:=none) rfl ax (O8 (S.cells J.ok)) S.kind S.loc ?_;refine bJ (ai ab s σ H _ J h) fun v s1 af=>bJ af fun CL s2 ak=>?_
 obtain ⟨it,bf,iq,bz,av,e,bV,T,si,f2,W,ob,gj⟩:=ak;subst e;refine KB (RR:=fun acc C=>compPost (model X.prog X.w) X.A X.d2 none (gb X ab σ Q) acc C) aB S rU B bV T si f2 ob gj fun D C ys I aj jy ⟨m,hm⟩ hp q=>?_
 exact ⟨m,hm,fun h' uL=>⟨.ref D,_,jy.turned (t':=aj.toks) (it:=C) (fun b o aa e=>(uL.2 b aa).trans e) hp.1 hp.2.1 hp.2.2.2.1 hp.2.2.2.2.1 hp.2.2.2.2.2,rfl,q⟩⟩
theorem Pi {i:Nat} {y:Str} {py OV:Pos} (bj:X.N.Nodup) (ai:X.N[i]? = some y) (ah:Loc X.env.scope y) (aB:X.calm=true) (hit:oa X dz iter hI) (S:rz X.env scope) (rU:yK X.N scope N sel) (B:e3 X scope N dz elt ifs g dr bR)
  (amF:swapsWith (.ListComp elt [⟨dz,iter,ifs,0⟩] scope pos) (some (.Name y py)) OV.line X.env=pure true) (hf:X.fn y=true\/X.env.scope.names.lookup y=some .local:=by first | exact .inl rfl | exact .inr rfl | assumption)
  (ax:∀ x,foldedSetIterable iter X.env x=pure x:=by intro _;rfl):hA X (.Assign [.Name y py] (.ListComp elt [⟨dz,iter,ifs,0⟩] scope pos) OV) (uP (Mc hI g dr bR sel) (gL i)):=by
 intro ab s σ H D J h;rw [exec_Assign_Name_used _ _ _ _ amF];refine wpAny_bind (wpAny_standAt (wpAny_bind ?_));show wpAny _ X.A (do let _ <- comprehension (.ListComp elt [⟨dz,iter,ifs,0⟩] scope pos) scope X.env _ (newList []) false (eval iter X.env) (some (assign (.Name y py) X.env))) _ _ s;refine wpAny_bind (wpAny_mono (wpAny_comprehension_free (use:=some (assign (.Name y py) X.env)) (Q:=fun _ aj=>sS X ab D .next aj) rfl ax (O8 (S.cells J.ok)) S.kind S.loc ?_) (fun _ aj aR=>wpAny_pure (wpAny_pure aR)) fun _ _ e=>e);refine bJ (hit ab s σ H _ J h) fun v s1 af=>bJ af fun CL s2 ak=>?_
 obtain ⟨it,bf,iq,bz,av,e,bV,T,si,f2,W,ob,gj⟩:=ak;subst e;refine KB (RR:=fun acc C=>compPost (model X.prog X.w) X.A X.d2 (some (assign (.Name y py) X.env)) (fun _ aj=>sS X ab D .next aj) acc C) aB S rU B bV T si f2 ob gj fun Da C ys I aj jy ⟨m,hm⟩ hp q=>?_
 show wpAny _ X.A (assign (.Name y py) X.env (.ref Da)) _ _ _;refine wpAny_assign_Name (PA jy bj ai ah (show bX (.ref Da) (.ref Da) from rfl) (fun s3 fu da=>?_) hf);obtain ⟨a,uL,aP⟩:=da;have afM:C ≠ a:=by
  rcases aP with z | z
  .rw [z];exact hp.2.1
  .exact fun w=>hp.2.2.2.2.1 y a z w.symm
 refine ⟨m,hm.sameBut uL afM,fun h' ahM=>⟨_,_,fu.turned (t':=s3.toks) (it:=C) (fun b o aa e=>(ahM.2 b aa).trans e) hp.1 hp.2.1 hp.2.2.2.1 hp.2.2.2.2.1 hp.2.2.2.2.2,q⟩⟩
end
def oX (Pv:Nat->List V->aw->Prop) (g:gY) (dr:TT) (bR:TE) (dq:St) (i:Nat) (x:V) (ys:List V) (H:aw):Prop:=
 ∀ N:List V->aw->Prop,(∀ j_ I,Pv (i + 1) j_ I->N j_ I)->g x dq H fun cw av=>Sub dq cw/\dr cw av fun c br=>if c=true then bR cw br fun y cJ=>N (ys ++ [y]) cJ else N ys br
theorem acE {K:bk} (Pv:Nat->List V->aw->Prop) (aN:xs.length <= sizeLine) (h0:Pv 0 [] H) (aL:∀ i ys H,i <= xs.length->Pv i ys H->ay K H a xs/\ys.length <= i)
  (ax:∀ i x ys H,xs[i]? = some x->Pv i ys H->oX Pv g dr bR dq i x ys H) (hd:∀ ys H,Pv xs.length ys H->∀ p,H p=none->Q (.ref p) (upd H p (.lst ys))) :
  ∃ W:Nat->Nat->List V->aw->Prop,(∃ m,W 0 m [] H)/\tf (oD K a) g dr bR dq Q W:=by
 refine ⟨fun i m ys H=>m=xs.length - i/\i <= xs.length/\Pv i ys H,⟨xs.length,by simp,fh _,h0⟩,?_⟩;rintro i m ys H ⟨rfl,ai,p⟩;have q:=(aL i ys H ai p).1;have z5:=(aL i ys H ai p).2;by_cases dw:i < xs.length
 .refine .inr ⟨⟨xs,xs[i],q,by simp [dw]⟩,by omega,fun x I y=>?_⟩;obtain ⟨e,y⟩:=y;subst e;exact ax i x ys _ (y xs q) p (fun j_ I=>∃ dP,dP < xs.length - i/\dP=xs.length - (i + 1)/\i + 1 <= xs.length/\Pv (i + 1) j_ I) fun j_ I r=>⟨xs.length - (i + 1),by omega,rfl,dw,r⟩
 .have e:i=xs.length:=by omega
  subst e;exact .inl ⟨⟨xs,q,bP _⟩,hd ys H p⟩
theorem aeU {K:bk} (Pv:Nat->List V->aw->Prop) (aN:xs.length <= sizeLine) (h0:Pv 0 [] H) (aL:∀ i ys H,i <= xs.length->Pv i ys H->dR K H a xs/\ys.length <= i)
  (ax:∀ i x ys H,xs[i]? = some x->Pv i ys H->oX Pv g dr bR dq i x ys H) (hd:∀ ys H,Pv xs.length ys H->∀ p,H p=none->Q (.ref p) (upd H p (.lst ys))) :
  ∃ W:Nat->Nat->List V->aw->Prop,(∃ m,W 0 m [] H)/\tf (Bd K a) g dr bR dq Q W:=by
 refine ⟨fun i m ys H=>m=xs.length - i/\i <= xs.length/\Pv i ys H,⟨xs.length,by simp,fh _,h0⟩,?_⟩;rintro i m ys H ⟨rfl,ai,p⟩;have q:=(aL i ys H ai p).1;have z5:=(aL i ys H ai p).2;by_cases dw:i < xs.length
 .refine .inr ⟨⟨xs,xs[i],q,by simp [dw]⟩,by omega,fun x I y=>?_⟩;obtain ⟨e,y⟩:=y;subst e;exact ax i x ys _ (y xs q) p (fun j_ I=>∃ dP,dP < xs.length - i/\dP=xs.length - (i + 1)/\i + 1 <= xs.length/\Pv (i + 1) j_ I) fun j_ I r=>⟨xs.length - (i + 1),by omega,rfl,dw,r⟩
 .have e:i=xs.length:=by omega
  subst e;exact .inl ⟨⟨xs,q,bP _⟩,hd ys H p⟩
theorem Ya {lo:Int} {n:Nat} {g:gY} {dr:TT} {bR:TE} {dq:St} {Q:c4} {H:aw} (Pv:Nat->List V->aw->Prop) (aN:n <= sizeLine) (h0:Pv 0 [] H) (aL:∀ i ys H,i <= n->Pv i ys H->ys.length <= i)
  (ax:∀ i ys H,i < n->Pv i ys H->oX Pv g dr bR dq i (.int (lo + i)) ys H) (hd:∀ ys H,Pv n ys H->∀ p,H p=none->Q (.ref p) (upd H p (.lst ys))) :
  ∃ W:Nat->Nat->List V->aw->Prop,(∃ m,W 0 m [] H)/\tf (l0 lo n) g dr bR dq Q W:=by
 refine ⟨fun i m ys H=>m=n - i/\i <= n/\Pv i ys H,⟨n,by simp,fh _,h0⟩,?_⟩;rintro i m ys H ⟨rfl,ai,p⟩;have z5:=aL i ys H ai p;by_cases dw:i < n
 .refine .inr ⟨dw,by omega,fun x I y=>?_⟩;obtain ⟨e,y⟩:=y;subst e y;exact ax i ys _ dw p (fun j_ I=>∃ dP,dP < n - i/\dP=n - (i + 1)/\i + 1 <= n/\Pv (i + 1) j_ I) fun j_ I r=>⟨n - (i + 1),by omega,rfl,dw,r⟩
 .have e:i=n:=by omega
  subst e;exact .inl ⟨bP _,hd ys H p⟩
noncomputable def yV (xs:List V):kc:=⟨fun i _=>i < xs.length,fun i H x I=>I=H/\xs[i]? = some x,fun i _=>xs.length <= i⟩
theorem QJ {w:World} {K:bk} {it:Addr} {St:Nat->Heap->Prop} (gj:∀ A:Around,A.handled=none->Walks P w A it [it] [it] xs.length ajq St)
  (cF:∀ i v,ajq i v->∃ x,xs[i]? = some x/\bX x v)
  (uh:∀ i h,St i h->∃ o n vs,h.get? it=some o/\o.cls=.type n/\o.data=.fields vs/\["enumerate","zip","dict_itemiterator","dict_reverseitemiterator","odict_iterator","itertools.zip_longest","itertools.pairwise"].contains n=false)
  (r6:∀ i h h',St i h->(∀ o,h.get? it=some o->h'.get? it=some o)->St i h')
  (YL:∀ (A:Around) (i:Nat) (s:Shared) (Q:Value->Shared->Prop) (E:Value->Shared->Prop),St i s.heap->Q (.ref it) s->wpAny (model P w) A (pyIter (.ref it)) Q E s) :
  qb P w K dz (yV xs) [it] it (fun i h=>i <= xs.length/\St i h) where
 mem:=by simp
 obj:=fun i h st b aa=>by
  have e:b=it:=by simpa using aa
  subst e;obtain ⟨o,n,vs,e,_,d,_⟩:=uh i h st.2;exact ⟨o,e,fun v z=>by rw [d] at z;cases z⟩
 keep:=fun i h h' st k=>⟨st.1,r6 i h h' st.2 fun o e=>k it (by simp) o e⟩
 item:=by
  intro X Fq hw fo aB i ab s σ H E J hf st a8;subst Fq hw fo;obtain ⟨f0,f1,f2,ez,f4,e0⟩:=hf it (by simp);refine (gj X.A (J.ok.hd aB)).item i s _ _ a8 st.2 fun v h' tk aF lW qf=>?_
  obtain ⟨x,ah,bg⟩:=cF i v aF;have aZ:Inv X ab σ H { s with heap:=h',toks:=tk }:=J.turned (fun b o aa e=>qf b o (by simpa using aa) e) f0 f1 ez f4 e0;obtain ⟨o,n,vs,e,c,d,nm⟩:=uh _ _ lW;exact ⟨v,rfl,wz (s:={ s with heap:=h',toks:=tk }) e c d nm ⟨x,H,aZ,bg,⟨rfl,ah⟩,⟨a8,lW⟩,fun b aa=>(hf b aa).1⟩⟩
 done:=by
  intro X Fq hw fo aB i ab s σ H E J hf st a8;subst Fq hw fo;obtain ⟨f0,f1,f2,ez,f4,e0⟩:=hf it (by simp);have e:i=xs.length:=Nat.le_antisymm st.1 a8;subst e;exact (gj X.A (J.ok.hd aB)).done s _ _ st.2 fun h' tk qf=>⟨rfl,J.turned (fun b o aa e=>qf b o (by simpa using aa) e) f0 f1 ez f4 e0⟩
 self:=fun A i s Q E st h=>YL A i s Q E st.2 h
noncomputable def jV (c:Nat):Str:=⟨#[c]⟩
noncomputable def oK (x:Str):List V:=x.cps.toList.map fun c=>V.str (jV c)
theorem Rg (x:Str):(oK x).length=x.cps.size:=by unfold oK;simp
theorem afD {x:Str} {i c:Nat} (h:x.cps[i]? = some c):(oK x)[i]? = some (.str (jV c)):=by
 unfold oK;rw [df,Z5,h];rfl
theorem UA {x:Str} {i:Nat} {v:Value} (h:SignAt x i v):∃ y,(oK x)[i]? = some y/\bX y v:=by
 obtain ⟨c,u,aB,rfl⟩:=h;exact ⟨.str (jV c),afD aB,u,rfl⟩
section
variable {X:bb} {dz:Expr}
noncomputable def Ew (c5:TE):TI:=fun σ H R=>c5 σ H fun x H1=>∃ z,x=.str z/\R (yV (oK z)) H1
theorem Y7 (aL:bD X l c5):oa X dz l (Ew c5):=by
 intro ab s σ H R J h;refine bJ (aL ab s σ H _ J h) fun v s1 cB=>ew cB fun x H1 aZ cN bS=>?_
 obtain ⟨z,e,q⟩:=bS;subst e;obtain ⟨t,rfl⟩:=cN;have hp:∀ b ∈ [s1.heap.objs.size],jR X ab H1 b:=fun b aa=>by
  have e:b=s1.heap.objs.size:=by simpa using aa
  subst e;exact aZ.nY (bP _) (aZ.bu.fresh (bP _))
 have aN:=Rg z;cases aP:z.cps.all (· < 128) with
 | false=>
  refine wpAny_pyIter_wide aP ⟨s1.heap.objs.size,[s1.heap.objs.size],fun i h=>i <= (oK z).length/\h.IsStrIter s1.heap.objs.size "str_iterator" z t i,_,H1,rfl,aZ.kept (t':=s1.toks) fun b o e=>eJ _ e,
   QJ (fun A ks=>by rw [aN];exact Walks.strWide ks _ z t) (fun i v=>UA) (fun i h ⟨o,e,c,d⟩=>⟨o,_,_,e,c,d,by decide⟩) (fun i h h' ⟨o,e,r⟩ k=>⟨o,k o e,r⟩) (fun A i s Q E st q=>wpAny_pyIter_striter_wide st q),
   ⟨fh _,_,gV _ rfl,rfl,rfl⟩,hp,q⟩
 | true=>
  refine wpAny_pyIter_ascii aP ⟨s1.heap.objs.size,[s1.heap.objs.size],fun i h=>i <= (oK z).length/\h.IsStrIter s1.heap.objs.size "str_ascii_iterator" z t i,_,H1,rfl,aZ.kept (t':=s1.toks) fun b o e=>eJ _ e,
   QJ (fun A ks=>by rw [aN];exact Walks.strAscii ks _ z t) (fun i v=>UA) (fun i h ⟨o,e,c,d⟩=>⟨o,_,_,e,c,d,by decide⟩) (fun i h h' ⟨o,e,r⟩ k=>⟨o,k o e,r⟩) (fun A i s Q E st q=>wpAny_pyIter_striter_ascii st q),
   ⟨fh _,_,gV _ rfl,rfl,rfl⟩,hp,q⟩
end
theorem aiQ (Pv:Nat->List V->aw->Prop) (aN:xs.length <= sizeLine) (h0:Pv 0 [] H) (aL:∀ i ys H,i <= xs.length->Pv i ys H->ys.length <= i)
  (ax:∀ i x ys H,xs[i]? = some x->Pv i ys H->oX Pv g dr bR dq i x ys H) (hd:∀ ys H,Pv xs.length ys H->∀ p,H p=none->Q (.ref p) (upd H p (.lst ys))) :
  ∃ W:Nat->Nat->List V->aw->Prop,(∃ m,W 0 m [] H)/\tf (yV xs) g dr bR dq Q W:=by
 refine ⟨fun i m ys H=>m=xs.length - i/\i <= xs.length/\Pv i ys H,⟨xs.length,by simp,fh _,h0⟩,?_⟩;rintro i m ys H ⟨rfl,ai,p⟩;have z5:=aL i ys H ai p;by_cases dw:i < xs.length
 .refine .inr ⟨dw,by omega,fun x I y=>?_⟩;obtain ⟨e,y⟩:=y;subst e;exact ax i x ys _ y p (fun j_ I=>∃ dP,dP < xs.length - i/\dP=xs.length - (i + 1)/\i + 1 <= xs.length/\Pv (i + 1) j_ I) fun j_ I r=>⟨xs.length - (i + 1),by omega,rfl,dw,r⟩
 .have e:i=xs.length:=by omega
  subst e;exact .inl ⟨bP _,hd ys H p⟩
section
variable {X:bb}
noncomputable def FZ:V->Option Int->Option Int->aw->c4->Prop:=fun x lo ai H Q=>∃ z,x=.str z/\z.length <= sizeLine/\Q (.str (mx z lo ai)) H
theorem Cp:Cw X FZ:=by
 intro ab s σ H x v kd kh lo ai cE Q J bg ax pl pu h;obtain ⟨z,rfl,aN,q⟩:=h;obtain ⟨t,rfl⟩:=bg;refine ⟨"str",_,F.slot_str_getitem.lookup,typeIs_str s z t,?_⟩;have fin:∀ t' k,gb X ab σ Q (.str (mx z lo ai) t') { s with toks:=k }:=fun t' k=>⟨.str _,H,J.tok _,⟨_,rfl⟩,q⟩
 cases pl with
 | none=>
  cases pu with
  | none=>exact wpAny_getItem_str_slice (l:=none) (u:=none) (st:=none) ax rfl (post_val_or_str ⟨cL (um z _ _) aN,fin⟩)
  | int j EP=>exact wpAny_getItem_str_slice (l:=none) (u:=some (j,EP)) (st:=none) ax rfl (post_val_or_str ⟨cL (um z _ _) aN,fin⟩)
 | int i Vh=>
  cases pu with
  | none=>exact wpAny_getItem_str_slice (l:=some (i,Vh)) (u:=none) (st:=none) ax rfl (post_val_or_str ⟨cL (um z _ _) aN,fin⟩)
  | int j EP=>exact wpAny_getItem_str_slice (l:=some (i,Vh)) (u:=some (j,EP)) (st:=none) ax rfl (post_val_or_str ⟨cL (um z _ _) aN,fin⟩)
noncomputable def aY (ys:List Str):List V:=ys.map V.str
theorem ai3:∀ {ys:List Str} {us:List Value},cQ (aY ys) us->StrsAre us ys:=by
 intro ys
 induction ys with
 | nil=>intro us r;cases r;exact .nil
 | cons y ys cS=>
  intro us r;cases r with
  | cons cN gJ=>
   obtain ⟨t,rfl⟩:=cN;exact .cons y t (cS gJ)
theorem Sr:∀ (l:List (Str × Tok)),cQ (aY (l.map (·.1))) (strValues l)
 | []=>.nil
 | (x,t) :: r=>.cons ⟨t,rfl⟩ (Sr r)
noncomputable def Hc (K:bk):V->List V->aw->c4->Prop:=fun x vs H Q=>∃ sep p ys,x=.str sep/\vs=[.ref p]/\ay K H p (aY ys)/\(ys.map (·.length)).sum + ys.length * sep.length <= 16777216/\Q (.str (qr sep ys)) H
theorem xm:Bu X "str.join" (Hc X.K):=by
 intro ab s σ H x xs v us Q J bg cH h;obtain ⟨sep,p,ys,rfl,rfl,aR,aN,q⟩:=h;obtain ⟨t,rfl⟩:=bg;obtain ⟨u,rfl,eZ⟩:=lV cH;cases eZ;obtain ⟨a7,r,pl,_⟩:=J.list aR;exact join_list pl.isList (by simpa using ai3 r) aN fun t' k=>⟨.str _,H,J.tok _,⟨_,rfl⟩,q⟩
end
theorem aid {prog:Program} {w:World} {A:Around} {x y:Str} {t u:Tok} (a6:(y.length == 0)=false)
  (h:∀ l k,l.map (·.1)=iQ x y->Q (.ref s.heap.objs.size) { s with heap:=s.heap.push { cls:=.type "list",data:=.seq (strValues l).toArray },toks:=k }) (hsz:x.length + 2 <= sizeLine) :
  wpAny (model prog w) A (call (.builtin "str.split") [.str x t,.str y u]) Q E s:=by
 have aX:(ads x (tS x y 0 x.length (x.length + 1)) y.length).length <= sizeLine:=by
  have aq:=StrLaws.occ_length_le x y 0 x.length (x.length + 1);rw [length_partsBetween];omega
 cases af:(decide (x.length < y.length) || decide (YG x < YG y))
 .cases hf:(tS x y 0 x.length (x.length + 1)).isEmpty
  .refine call_meets z8 (typeIs_str _ _ _) Sz (V8 _ _) (meets_str_split_sep x y t u af a6 hf (by omega) aX) ?_;show wants Q E _ { s with toks:=_,heap:=s.heap.push { cls:=.type "list",data:=.seq (strsFrom s.toks (ads x (tS x y 0 x.length (x.length + 1)) y.length)).toArray } };rw [strsFrom_eq];exact h (numbered s.toks _) _ ((numbered_texts _ _).trans ((if_neg (ne_true_of_eq_false af)).trans (if_neg (ne_true_of_eq_false hf))).symm)
  .exact call_meets z8 (typeIs_str _ _ _) Sz (V8 _ _) (meets_str_split_not_found x y t u af a6 hf)
    (h [(x,t)] s.toks ((if_neg (ne_true_of_eq_false af)).trans (if_pos hf)).symm)
 .exact call_meets z8 (typeIs_str _ _ _) Sz (V8 _ _) (meets_str_split_cannot_occur x y t u af)
   (h [(x,t)] s.toks (if_pos af).symm)
section
variable {X:bb}
noncomputable def H6:V->List V->aw->c4->Prop:=fun x vs H Q=>∃ z y,x=.str z/\vs=[.str y]/\y.length ≠ 0/\z.length + 2 <= sizeLine/\(iQ z y).length <= sizeLine/\∀ p,H p=none->Q (.ref p) (upd H p (.lst (aY (iQ z y))))
theorem T':Bu X "str.split" H6:=by
 intro ab s σ H x xs v us Q J bg cH h;obtain ⟨z,y,rfl,rfl,a6,aN,aX,q⟩:=h;obtain ⟨t,rfl⟩:=bg;obtain ⟨u,rfl,eZ⟩:=lV cH;obtain ⟨jC,rfl⟩:=eZ;refine aid (by simpa using a6) (fun l k aL=>?_) aN;refine ⟨.ref s.heap.objs.size,_,J.laid (t':=k) (o:=.lst (aY (iQ z y))) (fun b o e=>eJ _ e) (bP _) ⟨by unfold aY;rw [aW];exact aX,strValues l,0,by rw [<- aL];exact Sr l,gV _ rfl⟩,rfl,q _ (J.bu.fresh (bP _))⟩
theorem agc:l_ X (.type "int") (fun xs H Q=>∃ z n,xs=[.str z]/\intText? z=some n/\z.length <= 640/\Q (.int n) H):=by
 intro ab s σ H xs us Q J r h;obtain ⟨z,n,rfl,aX,aN,q⟩:=h;obtain ⟨u,rfl,t,rfl⟩:=lV r;exact PySem.W.KIN.call_text aX aN ⟨.int n,H,J.tok _,⟨_,rfl⟩,q⟩
theorem Ev:∀ {bs:List Bool} {us:List Value},cQ (bs.map V.bo) us->us=bs.map k7
 | [],_,.nil=>rfl
 | b :: bs,_,.cons r t=>by
  have e:_=k7 b:=r;rw [e,Ev t];rfl
theorem RT {A:Around} (bs:List Bool):TruthOf X.prog X.w A (fun i v=>(bs.map k7).toArray[i]? = some v) (fun i=>bs.getD i true):=by
 intro i v s Q E cF aV;have e:(bs.map k7)[i]? = some v:=by simpa using cF
 rw [df] at e;cases q:bs[i]? with
 | none=>rw [q] at e;cases e
 | some b=>
  rw [q] at e;have bH:k7 b=v:=eE e;subst bH;refine wpAny_truthy_bool ?_;have:bs.getD i true=b:=by simp [D8,q]
  have AM:Q (bs.getD i true) s:=aV;rw [this] at AM;exact AM
theorem aiB (bs:List Bool):(eV bs.length).all (fun i=>bs.getD i true)=bs.all id:=by
 rw [l4];simp only [sZ,oF,id];constructor
 .intro h b aa;obtain ⟨i,ai,e⟩:=adG.mp aa;have:=h i ai;simp [D8,ai,e] at this;exact this
 .intro h i ai;simp [D8,ai];exact h _ (g6 ai)
theorem X0 (bs:List Bool):(eV bs.length).any (fun i=>bs.getD i true)=bs.any id:=by
 rw [l4];simp only [qL,oF,id];constructor
 .rintro ⟨i,ai,h⟩;refine ⟨bs[i],g6 ai,?_⟩;simp [D8,ai] at h;exact h
 .rintro ⟨b,aa,h⟩;obtain ⟨i,ai,e⟩:=adG.mp aa;refine ⟨i,ai,?_⟩;simp [D8,ai,e];exact h
theorem acy (aB:X.calm=true):l_ X (.builtin "all") (fun xs H Q=>∃ (p:Addr) (bs:List Bool),xs=[.ref p]/\ay X.K H p (bs.map V.bo)/\Q (.bo (bs.all id)) H):=by
 intro ab s σ H xs us Q J r h;obtain ⟨p,bs,rfl,aR,q⟩:=h;obtain ⟨u,rfl,eZ⟩:=lV r;cases eZ;obtain ⟨a7,cH,pl,_⟩:=J.list aR;have e:=Ev cH;subst e;refine call_all_walk (wpAny_pyIter_list pl.isList ?_);have cj:p ≠ s.heap.objs.size:=f7 (by obtain ⟨o,_,aS,_⟩:=pl;exact d8 aS);refine ⟨s.heap.objs.size,_,_,_,_,_,fun i=>bs.getD i true,rfl,tL (show X.A.in1.handled=none from J.ok.hd aB) _ p cj (bs.map k7).toArray,⟨⟨_,gV _ rfl,rfl,rfl⟩,pl.isList.at fun o e=>eJ _ e⟩,RT bs,fun h' tk qf=>?_⟩;refine ⟨.bo (bs.all id),H,J.kept fun b o e=>qf b o (by simpa using f7 (d8 e)) (eJ _ e),?_,q⟩;show k7 _=k7 _;rw [show (bs.map k7).toArray.size=bs.length by simp,aiB]
theorem alm (aB:X.calm=true):l_ X (.builtin "any") (fun xs H Q=>∃ (p:Addr) (bs:List Bool),xs=[.ref p]/\ay X.K H p (bs.map V.bo)/\Q (.bo (bs.any id)) H):=by
 intro ab s σ H xs us Q J r h;obtain ⟨p,bs,rfl,aR,q⟩:=h;obtain ⟨u,rfl,eZ⟩:=lV r;cases eZ;obtain ⟨a7,cH,pl,_⟩:=J.list aR;have e:=Ev cH;subst e;refine call_any_walk (wpAny_pyIter_list pl.isList ?_);have cj:p ≠ s.heap.objs.size:=f7 (by obtain ⟨o,_,aS,_⟩:=pl;exact d8 aS);refine ⟨s.heap.objs.size,_,_,_,_,_,fun i=>bs.getD i true,rfl,tL (show X.A.in1.handled=none from J.ok.hd aB) _ p cj (bs.map k7).toArray,⟨⟨_,gV _ rfl,rfl,rfl⟩,pl.isList.at fun o e=>eJ _ e⟩,RT bs,fun h' tk qf=>?_⟩;refine ⟨.bo (bs.any id),H,J.kept fun b o e=>qf b o (by simpa using f7 (d8 e)) (eJ _ e),?_,q⟩;show k7 _=k7 _;rw [show (bs.map k7).toArray.size=bs.length by simp,X0]
end
theorem d3 {X:bb} {N:List Str} (h:N.Nodup) (e:X.N=N):X.N.Nodup:=e ▸ h
noncomputable def RH (sc scope:Scope):Bool:=
 (scope.kind == .function) && scope.names.all (fun y=>y.2 != .cell) && scope.names.all (fun y=>y.2 != .free || sc.names.lookup y.1 == some .cell || sc.names.lookup y.1 == some .free) &&
  scope.names.all (fun y=>y.2 != .local || scope.names.lookup y.1 == some .local)
theorem fO {env:Env} (he:env.scope=sc) (h:RH sc scope=true):rz env scope:=by
 subst he;unfold RH at h;simp only [iF,sZ] at h;obtain ⟨⟨⟨af,ak⟩,a5⟩,bN⟩:=h;refine ⟨by simpa using af,fun y a6 e=>?_,fun y a6 e=>?_,fun y a6 e=>?_⟩
 .have:=ak y a6;rw [e] at this;exact absurd this (by decide)
 .have:=a5 y a6;rw [e] at this;simp only [s_] at this;rcases this with (z | z) | z
  .exact absurd z (by decide)
  .exact .inl (show env.scope.names.lookup y.1=some .cell by simpa using z)
  .exact .inr (show env.scope.names.lookup y.1=some .free by simpa using z)
 .have:=bN y a6;rw [e] at this;simp only [s_] at this;rcases this with z | z
  .exact absurd z (by decide)
  .simpa using z
noncomputable def MX (M:List Str) (scope:Scope) (N:List Str) (sel:List (Option Nat)):Bool:=
 sel.length == N.length && (sel.zip N).all fun p=>match p.1 with | none=>true | some j=>M[j]? == some p.2 && scope.names.lookup p.2 == some .free
theorem fT {N:List Str} (h:MX M scope N sel=true):yK M scope N sel:=by
 unfold MX at h;simp only [iF,sZ] at h;refine ⟨by simpa using h.1,fun i j x aq aH=>?_⟩;have hm:(some j,x) ∈ sel.zip N:=by
  rw [List.mem_iff_getElem?];exact ⟨i,by rw [List.getElem?_zip_eq_some];exact ⟨aq,aH⟩⟩
 have:=h.2 _ hm;simp only [iF] at this;exact ⟨by simpa using this.1,by simpa using this.2⟩
noncomputable def qg:fX->Bool
 | .gu _=>false
 | .e2 _ u=>qg u
 | _=>true
def aJ (H:aw):Prop:=∀ b o,H b=some o->qg o=true
theorem fC.back {w:World} {h h':Heap}:∀ (o:fX),qg o=true->fC P w I h' a o->fC P w H h a o->fC P w H h' a o
 | .lst _,_,x,_=>x
 | .tup _,_,x,_=>x
 | .bW _,_,x,_=>x
 | .gu _,e,_,_=>absurd e (by unfold qg;decide)
 | .set _ _,_,x,_=>x
 | .ins _ _ _,_,x,y=>⟨y.1,x.2⟩
 | .own _,_,x,_=>x
 | .Ao _,_,x,_=>x
 | .met _ _,_,x,_=>x
 | .z2 _ _,_,x,_=>x
 | .e2 cV u,e,x,y=>⟨x.1,fC.back u (by unfold qg at e;exact e) x.2 y.2⟩
 | .hC _,_,x,_=>x
 | .ext _,_,x,_=>x
section
variable {P:Program} {w:World} {K:bk} {mg:Str->Option Value} {base:Heap}
theorem cD.forget {k:Nat} {fd:FuncData} (F:cD P w K mg base dk k f fd ps sp)
  (h:∀ vs H Q E,jT vs H Q E->aJ H/\sp vs H (fun v I=>aK H I/\Q v H) E):cD P w K mg base dk k f fd ps jT:=by
 refine ⟨fun vs H Q E q=>F.len vs H _ E (h vs H Q E q).2,fun A outer s H args us vs Q E ao he aa aF ax=>?_⟩;obtain ⟨bx,q⟩:=h vs H Q E ax;refine codeAny_mono (F.run A outer s H args us vs _ E ao he aa aF q) fun r aj aR=>?_
 cases r with
 | error e=>exact aR
 | ok eU=>
  cases eU with
  | next=>exact aR
  | brk=>exact aR
  | cont=>exact aR
  | ret u=>
   obtain ⟨v,I,os,bare,un,bu,cH,bq,dB⟩:=aR;exact ⟨v,H,os,bare,⟨un.keep,un.slot,fun _ _ _ n _=>n,un.there,fun _ _ z=>z,fun _ _ _ z=>z,fun _ ps z=>⟨#[],by rw [z];simp⟩⟩,fun a o e=>(bu a o (bq a o e)).back o (bx a o e) (he.bu a o e),cH,dB⟩
end
theorem ba {p:Addr} (h:H p=none):aK H (upd H p o):=fun b u q=>by rw [aM (dm q h)];exact q
theorem aK.gz {p:Addr} (s:aK H H1) (h:H p=none):aK H (upd H1 p o):=fun b u q=>by rw [aM (dm q h)];exact s b u q
structure Sc (K:bk) (a:Addr) (ns:List Int) (H:aw):Prop where
 xU:(∃ o,H a=some (.e2 o (.lst (ns.map V.int))))\/∃ (o:Obj) (a7:Array Value) (n:Nat),K.lookup a=some o/\o.cls=.type "list" /\ o.dict=none/\o.data=.seq a7 n/\a7.size <= sizeLine/\cQ (ns.map V.int) a7.toList
 bx:aJ H
section
variable {K:bk} {a p:Addr} {ns:List Int} {H I:aw} {o:fX}
theorem Sc.seq (s:Sc K a ns H):ay K H a (ns.map V.int):=by
 rcases s.xU with ⟨o,h⟩ | h
 .exact .inl (.inr ⟨o,h⟩)
 .exact .inr h
theorem Sc.new (s:Sc K a ns H) (ar:H p=none) (aS:qg o=true:=by rfl):Sc K a ns (upd H p o):=by
 refine ⟨?_,fun b u e=>?_⟩
 .rcases s.xU with ⟨cV,h⟩ | h
  .exact .inl ⟨cV,by rw [aM (dm h ar)];exact h⟩
  .exact .inr h
 .by_cases aa:b=p
  .subst aa;rw [aQ] at e;cases e;exact aS
  .rw [aM aa] at e;exact s.bx b u e
theorem Sc.set (s:Sc K a ns H) (ar:H p=some u) (bY:∀ cV z,u ≠ .e2 cV z) (aS:qg o=true:=by rfl):Sc K a ns (upd H p o):=by
 refine ⟨?_,fun b x e=>?_⟩
 .rcases s.xU with ⟨cV,h⟩ | h
  .refine .inl ⟨cV,?_⟩;have cj:a ≠ p:=fun z=>by subst z;rw [ar] at h;exact bY _ _ (eE h)
   rw [aM cj];exact h
  .exact .inr h
 .by_cases aa:b=p
  .subst aa;rw [aQ] at e;cases e;exact aS
  .rw [aM aa] at e;exact s.bx b x e
end
theorem hE:bootBuiltins "len"=some (.builtin "len"):=PySem.boot_len
theorem Z9:bootBuiltins "all"=some (.builtin "all"):=by ac_nf
theorem alh:bootBuiltins "any"=some (.builtin "any"):=by ac_nf
theorem Gp:bootBuiltins "max"=some (.builtin "max"):=by ac_nf
theorem Vw:bootBuiltins "sum"=some (.builtin "sum"):=by ac_nf
theorem KO:bootBuiltins "int"=some (.type "int"):=by ac_nf
theorem wu:bootBuiltins "str"=some (.type "str"):=by ac_nf
theorem acJ:bootBuiltins "list"=some (.type "list"):=by ac_nf
theorem lD.same (h:lD H a o) (s:aK H I):lD I a o:=by
 rcases h with h | ⟨cV,h⟩
 .exact .inl (s _ _ h)
 .exact .inr ⟨cV,s _ _ h⟩
theorem ay.same {K:bk} (h:ay K H a xs) (s:aK H I):ay K I a xs:=by
 rcases h with h | h
 .exact .inl (h.same s)
 .exact .inr h
theorem aJ.upd {p:Addr} (h:aJ H) (aS:qg o=true:=by rfl):aJ (upd H p o):=fun b u e=>by
 by_cases aa:b=p
 .subst aa;rw [aQ] at e;cases e;exact aS
 .rw [aM aa] at e;exact h b u e
theorem Sc.same {K:bk} {ns:List Int} (s:Sc K a ns H) (bq:aK H I) (bx:aJ I):Sc K a ns I:=by
 refine ⟨?_,bx⟩;rcases s.xU with ⟨o,h⟩ | h
 .exact .inl ⟨o,bq _ _ h⟩
 .exact .inr h
structure OW (K:bk) (C:Addr) (m:Str) (f:Addr):Prop where
 nq:ZZ K C (.type "type")=true
 fd:aaI K (.ref C) (.type "type") m=some (.val (.ref f))
 ga:u' K (.ref C) "__getattribute__"=some (some (.builtin "type.__getattribute__"))
 bl:tl K (.ref f)=true
structure qi (P:Program) (w:World) (K:bk) (mg:Str->Option Value) (base:Heap) (CX:ku) (k:Nat) (oV:Addr->Prop) (m:Str) (ps:List Str) (pK:Addr->bM):Prop where
 ok:∀ C,oV C->∃ f fd,hu K C/\f' K C m f/\cD P w K mg base CX k f fd ps (pK C)/\b0 K fd ps []
noncomputable def SV (oV:Addr->Prop) (m:Str) (pK:Addr->bM) (E:f5) (a9:TE) (t:fz):TE:=fun σ H Q=>a9 σ H fun x H1=>∃ a C az a3,x=.ref a/\H1 a=some (.ins C az a3)/\oV C/\a3.lookup m=none /\
 t σ H1 fun vs av=>pK C (x :: vs) av Q E
section
variable {X:bb} {CX:ku} {k:Nat} {f C:Addr} {fd:FuncData} {ps:List Str} {sp:bM} {dvs:List V} {ds:List Value} {E:f5} {x m:Str} {p pos gp:Pos} {e o:Expr} {aU:List Expr} {a9:TE} {t:fz}
theorem G9 (a8:kX X x) (hm:X.mg x=some (.ref C)) (c:OW X.K C m f) (F:cD X.prog X.w X.K X.mg X.base CX k f fd ps sp) (ao:eO k X.A) (aa:b0 X.K fd ps ds) (hd:cQ dvs ds) (ah:p2 CX X E) (aP:hy X (e :: aU) t)
  (oI:(x == ("__debug__" : Str))=false:=by decide) (fS:starEach (e :: aU) X.env=(false,eval e X.env) :: starEach aU X.env:=by rfl) (c9:(backTo pos (starEach aU X.env)).any (·.1)=false:=by rfl)
  (cR:eval (.Call (.Attribute (.Name x p) m gp) (e :: aU) [] pos) X.env=(do
   let hW <- eval (.Name x p) X.env
   standAt gp.atName
   let (f,first) <- holding [hW] (getMethod hW m pl)
   callWith pos f first (backTo pos (starEach (e :: aU) X.env)) (backToKw pos (keywordEach [] X.env))):=by rfl) :
  bD X (.Call (.Attribute (.Name x p) m gp) (e :: aU) [] pos) (w6 sp dvs E t):=by
 intro ab s σ H Q J h;refine Kz (pl:=pl) (CP J a8 hm ?_ oI) cR;refine PySem.W.method_cls J.jW c.ga (PySem.W.cls_value J.jW c.nq c.fd rfl ?_);have aZ:=J.tok (s.toks + 1);refine E1 (first:=[]) (h₀:=X.base) J.ok.mod.uT c.bl (bJ (aP pos ab _ σ H _ aZ h) fun us s2 ⟨vs,av,bV,r,eo⟩=>⟨bV.jW,?_⟩) fS c9;exact xJ F ao aa hd ah bV r eo
variable {oV:Addr->Prop} {pK:Addr->bM}
theorem DO (he:bD X o a9) (V:qi X.prog X.w X.K X.mg X.base CX k oV m ps pK) (ao:eO k X.A) (ah:p2 CX X E)
  (cR:eval (.Call (.Attribute o m gp) [] [] pos) X.env=(do
   let hW <- eval o X.env
   standAt gp.atName
   let (f,first) <- holding [hW] (getMethod hW m pl)
   callWith pos f first (backTo pos (starEach [] X.env)) (backToKw pos (keywordEach [] X.env))):=by rfl) :
  bD X (.Call (.Attribute o m gp) [] [] pos) (SV oV m pK E a9 v'):=by
 intro ab s σ H Q J h;refine Kz (pl:=pl) (bJ (he ab s σ H _ J h) fun u s1 da=>?_) cR;obtain ⟨x,H1,aZ,bg,a,C,az,a3,ex,ie,ok,l,q⟩:=da;subst ex;obtain rfl:u=fW a:=bg;obtain ⟨f,fd,c,hm,F,aa⟩:=V.ok C ok;refine EE aZ ie c hm l ?_;exact adK (first:=[.ref a]) aZ.jW hm.bl (xJ (us:=[.ref a]) (vs:=[.ref a]) (dvs:=[]) F ao aa .nil ah aZ (.cons rfl .nil) q)
end
section
variable {X:bb} {x:Str} {p pos:Pos} {i:Expr} {ty:TE} {u:Value} {kvs:List (Str × V)}
end
theorem gq:∀ {a3:List (Str × V)} (bC:List Str),a3.map (·.1)=bC->bC.contains f=false->de f v a3=a3 ++ [(f,v)]
 | [],_,_,_=>rfl
 | (g,y) :: r,bC,e,h=>by
  cases e;rw [e8,afU] at h;have af:=(zp.mp h);have cj:¬ g=f:=fun z=>by
   have:=af.1;rw [z] at this;simp at this
  show (if g=f then _ else _)=_;rw [if_neg cj,gq _ rfl af.2];rfl
theorem g5 {a3:List (Str × V)} (h:a3.length < n):(de f v a3).length < n + 1:=gD (Gk f v a3) (by omega)
theorem gK:∀ {a3:List (Str × V)} (bC:List Str) (i:Nat),a3.map (·.1)=bC->bC.findIdx? (· == f)=some i->a3[i]? = some (f,v)->a3.lookup f=some v
 | [],_,_,_,_,h=>by simp at h
 | (g,y) :: r,bC,i,e,h,aF=>by
  cases e;rw [e8,List.findIdx?_cons] at h;rw [pZ];by_cases e:g=f
  .subst e;rw [beq_self_eq_true,if_pos rfl] at h;cases h;have:(g,y)=(g,v):=by simpa using aF
   cases this;rw [beq_self_eq_true]
  .rw [beq_eq_false_iff_ne.mpr e,if_neg (by decide)] at h;obtain ⟨j,aG,rfl⟩:=yR.mp h;rw [beq_eq_false_iff_ne.mpr (fun z=>e z.symm)];exact gK _ j rfl aG (by simpa using aF)
theorem xV:∀ {a3:List (Str × V)} (bC:List Str),a3.map (·.1)=bC->bC.contains f=false->a3.lookup f=none
 | [],_,_,_=>rfl
 | (g,y) :: r,bC,e,h=>by
  cases e;rw [e8,afU] at h;have af:=(zp.mp h);rw [pZ,af.1];exact xV _ rfl af.2
theorem Inv.DK {X:bb} {ab:List (Addr × Obj)} {σ:St} {H:aw} {s:Shared} {h':Heap} {t':Nat} {bf:List Addr} (J:Inv X ab σ H s) (k:∀ b o,b ∉ bf->s.heap.get? b=some o->h'.get? b=some o)
  (hf:∀ b ∈ bf,jR X ab H b):Inv X ab σ H { s with heap:=h',toks:=t' }:=by
 have wG:∀ b u,H b=some u->b ∉ bf:=fun b u e z=>by rw [(hf b z).1] at e;cases e
 refine J.step (g':=s.gens) (d':=s.drawn) (ch:=bf) (fun b aa=>?_) (fun b o _ _ aB e _=>k b o aB e) (fun b o _ _ aB e _=>⟨o.slots,k b o aB e⟩) (fun _ _ _ _ n=>n)
  (fun b o aB e=>⟨o,k b o aB e⟩) (fun _ _ e=>e) (fun _ _ _ e=>e) (fun b ps e=>⟨#[],by rw [e];simp⟩) (fun m hm=>?_) (fun b u e=>?_) J.bare
 .obtain ⟨f0,f1,f2,ez,f4,e0⟩:=hf b aa;exact ⟨ez,f1,f4,e0⟩
 .obtain ⟨o,aU,ct,aS,r⟩:=hm;exact ⟨o,aU,ct,k _ o (fun z=>(hf _ z).2.1 rfl) aS,r⟩
 .refine (J.bu b u e).nO (fun c v aB q=>k c v ?_ q) (fun _ q=>q) fun _ _ q=>q
  rcases aB with z | z
  .rw [z];exact wG b u e
  .exact wG c _ z
noncomputable def B_ (K:bk) (a:Addr):kc:=
 ⟨fun i H=>∃ xs x,ay K H a xs/\xs[i]? = some x,fun i H v I=>∃ p y,H p=none/\v=.ref p/\(∀ xs,ay K H a xs->xs[i]? = some y)/\I=upd H p (.tup [.int i,y]),fun i H=>∃ xs,ay K H a xs/\xs.length <= i⟩
theorem ale {P:Program} {w:World} {K:bk} {aU:List Expr} {k} {pos:Pos} (a e it:Addr) (cj:e ≠ it) :
  qb P w K (.Tuple aU k pos) (B_ K a) [e,it] e (fun i h=>∃ old,IsEnum h e it ((i:Nat):Int) old/\h.IsListIter it a i) where
 mem:=by simp
 obj:=fun i h ⟨old,he,ai⟩ b aa=>by
  simp only [en,oC,or_false] at aa;rcases aa with rfl | rfl
  .exact ⟨_,he,fun v z=>by
    have gZ:VF _=Ei v:=z;cases gZ⟩
  .obtain ⟨o,q,c,d⟩:=ai;exact ⟨o,q,fun v z=>by rw [d] at z;cases z⟩
 keep:=fun i h h' ⟨old,he,ai⟩ k=>⟨old,k e (by simp) _ he,ai.at fun o q=>k it (by simp) o q⟩
 item:=by
  intro X cF hw fo aB i ab s σ H E J hf ⟨old,he,ai⟩ a8;subst cF hw fo;obtain ⟨xs,x,aR,ah⟩:=a8;obtain ⟨a7,cH,p,aN⟩:=J.list aR;obtain ⟨u,bY,eZ⟩:=cH.get ah;refine wpAny_pyNext_enum_item he ai p.isList (x:=u) (by simpa using bY) cj fun af agH aiI ac' wO Hu=>⟨_,rfl,?_⟩
  refine wpAny_letOwnedTupleGo_enum agH fun ak afm h9=>?_
  replace h9:ux e af ak:=h9;have MD:e < s.heap.objs.size:=d8 he;have aC:∀ b o,b ∉ [e,it]->s.heap.get? b=some o->ak.get? b=some o:=fun b o aa q=>by
   simp only [en,oC,or_false,not_or] at aa;exact h9.extBut _ _ aa.1 (Hu b o aa.1 aa.2 q)
  have aZ:Inv X ab σ H { s with heap:=ak,toks:=s.toks + 1 }:=J.DK aC hf;have hp:jR X ab H s.heap.objs.size:=J.nY (bP _) (J.bu.fresh (bP _));have yE:ak.get? s.heap.objs.size=some { cls:=.type "tuple",data:=.seq #[.int i s.toks,u] }:=(h9.2 _ (Bi MD)).trans ac';have bV:=aZ.adopt (o:=.tup [.int i,x]) hp ⟨⟨by show 2 <= sizeLine;decide,_,yE,rfl⟩,[.int i s.toks,u],.cons ⟨_,rfl⟩ (.cons eZ .nil),⟨_,yE,rfl,_,rfl⟩⟩;refine ⟨.ref s.heap.objs.size,_,bV,rfl,⟨_,x,hp.1,rfl,fun ys a6=>by rw [J.A9 a6 aR];exact ah,rfl⟩,⟨u,?_,?_⟩,fun b aa=>?_⟩
  .have aq:((i + 1:Nat):Int)=(i:Int) + 1:=by omega
   rw [aq];exact afm
  .exact aiI.extBut h9.extBut (eb cj)
  .have dw:b < s.heap.objs.size:=by
    simp only [en,oC,or_false] at aa;rcases aa with rfl | rfl
    .exact MD
    .obtain ⟨o,q,_⟩:=ai;exact d8 q
   rw [aM (f7 dw)];exact (hf b aa).1
 done:=by
  intro X cF hw fo aB i ab s σ H E J hf ⟨old,he,ai⟩ a8;subst cF hw fo;obtain ⟨xs,aR,ah⟩:=a8;obtain ⟨a7,cH,p,aN⟩:=J.list aR;have aL:=cH.length;exact wpAny_pyNext_enum_end (J.ok.hd aB) he ai p.isList (by simp;omega) fun h' eS=>⟨rfl,J.DK (t':=s.toks) (fun b o aa q=>eS b o (fun z=>aa (by simp [z])) q) hf⟩
 self:=fun _ _ _ _ _ ⟨_,he,_⟩ h=>wpAny_pyIter_enum he h
theorem ahr:bootBuiltins "enumerate"=some (.type "enumerate"):=by ac_nf
theorem afC:bootBuiltins "zip"=some (.type "zip"):=by ac_nf
noncomputable def BL (K:bk) (a b:Addr):kc:=
  ⟨fun i H=>∃ xs ys x y,ay K H a xs/\ay K H b ys/\xs[i]? = some x/\ys[i]? = some y,
   fun i H v I=>∃ p x y,H p=none/\v=.ref p/\(∀ xs,ay K H a xs->xs[i]? = some x)/\(∀ ys,ay K H b ys->ys[i]? = some y)/\I=upd H p (.tup [x,y]),
   fun i H=>∃ xs ys,ay K H a xs/\ay K H b ys/\(xs.length <= i\/ys.length <= i)⟩
theorem kM {h:Heap} (aP:h.get? a=some o) (aa:h.get? b=some d6) (aB:o.cls=.type c) (hd:d6.cls=.type d) (n:c ≠ d):a ≠ b:=fun z=>by
 subst z;rw [aP] at aa;cases aa;rw [aB] at hd;cases hd;exact n rfl
theorem MQ {h:Heap} {z TI kq i1 i2 cz cK:Addr} (aN:IsZip h z TI kq f0) (km:IsPair h TI NO TN) (jY:IsPair h kq v1 v2) (af:h.IsListIter i1 cz cb) (ak:h.IsListIter i2 cK dT)
  (g1:h.IsList cz xs) (g2:h.IsList cK ys) (BW:TI ≠ kq) (A8:i1 ≠ i2):ZipApart z TI kq i1 i2 cz cK:=by
 obtain ⟨lP,aq,bh,_⟩:=af;obtain ⟨sO,aH,b4,_⟩:=ak;obtain ⟨dO,f1,dX,_⟩:=g1;obtain ⟨dH,f2,el,_⟩:=g2;exact ⟨kM km aN rfl rfl (by decide),kM jY aN rfl rfl (by decide),kM aq aN bh rfl (by decide),kM aH aN b4 rfl (by decide),BW,kM km aq rfl bh (by decide),kM km aH rfl b4 (by decide),
  kM jY aq rfl bh (by decide),kM jY aH rfl b4 (by decide),A8,kM f1 aN dX rfl (by decide),kM f1 jY dX rfl (by decide),kM f1 aq dX bh (by decide),kM f1 aH dX b4 (by decide),
  kM f2 aN el rfl (by decide),kM f2 jY el rfl (by decide),kM f2 aq el bh (by decide),kM f2 aH el b4 (by decide)⟩
theorem abr {P:Program} {w:World} {K:bk} {aU:List Expr} {k} {pos:Pos} (a b z TI kq i1 i2:Addr) (BW:TI ≠ kq) (A8:i1 ≠ i2) :
  qb P w K (.Tuple aU k pos) (BL K a b) [z,TI,kq,i1,i2] z (fun i h=>IsZip h z TI kq .none/\IsPair h TI (.ref i1) (.ref i2)/\(∃ u v,IsPair h kq u v)/\h.IsListIter i1 a i/\h.IsListIter i2 b i) where
 mem:=by simp
 obj:=fun i h ⟨aN,km,⟨u,v,jY⟩,⟨lP,aq,_,dX⟩,sO,aH,_,el⟩ c aB=>by
  simp only [en,oC,or_false] at aB;rcases aB with rfl | rfl | rfl | rfl | rfl
  .exact ⟨_,aN,fun v z=>by
    have gZ:VF _=Ei v:=z;cases gZ⟩
  .exact ⟨_,km,fun v z=>by
    have gZ:Data.seq _ _=Ei v:=z;cases gZ⟩
  .exact ⟨_,jY,fun v z=>by
    have gZ:Data.seq _ _=Ei v:=z;cases gZ⟩
  .exact ⟨lP,aq,fun v z=>by rw [dX] at z;cases z⟩
  .exact ⟨sO,aH,fun v z=>by rw [el] at z;cases z⟩
 keep:=fun i h h' ⟨aN,km,⟨u,v,jY⟩,af,ak⟩ k=>⟨k z (by simp) _ aN,k TI (by simp) _ km,⟨u,v,k kq (by simp) _ jY⟩,af.at fun o q=>k i1 (by simp) o q,ak.at fun o q=>k i2 (by simp) o q⟩
 item:=by
  intro X cF hw fo aB i ab s σ H E J hf ⟨aN,km,⟨u,v,jY⟩,af,ak⟩ a8;subst cF hw fo;obtain ⟨xs,ys,x,y,aR,ao,ah,a6⟩:=a8;obtain ⟨a7,cH,p,wO⟩:=J.list aR;obtain ⟨SF,gE,hO,CW⟩:=J.list ao;obtain ⟨Bv,bY,eZ⟩:=cH.get ah;obtain ⟨Gr,aF,Vv⟩:=gE.get a6;have D:=MQ aN km jY af ak p.isList hO.isList BW A8;refine wpAny_pyNext_zip_item D aN km jY af ak p.isList hO.isList (x:=Bv) (y:=Gr) (by simpa using bY) (by simpa using aF) fun g agi abn g1 g2 ahx cq ND=>⟨_,rfl,?_⟩
  refine wpAny_letOwnedTupleGo_zip agi fun g' alj j7=>?_
  replace j7:ux z g g':=j7;have U8:z < s.heap.objs.size:=d8 aN;have aC:∀ c o,c ∉ [z,TI,kq,i1,i2]->s.heap.get? c=some o->g'.get? c=some o:=fun c o aB q=>by
   simp only [en,oC,or_false,not_or] at aB;exact j7.extBut _ _ aB.1 (ND c o aB.1 aB.2.2.1 aB.2.2.2.1 aB.2.2.2.2 q)
  have aZ:Inv X ab σ H { s with heap:=g',toks:=s.toks }:=J.DK aC hf;have hp:jR X ab H s.heap.objs.size:=J.nY (bP _) (J.bu.fresh (bP _));have yE:IsPair g' s.heap.objs.size Bv Gr:=(j7.2 _ (Bi U8)).trans ahx;have bV:=aZ.adopt (o:=.tup [x,y]) hp ⟨⟨by show 2 <= sizeLine;decide,_,yE,rfl⟩,[Bv,Gr],.cons eZ (.cons Vv .nil),⟨_,yE,rfl,_,rfl⟩⟩;refine ⟨.ref s.heap.objs.size,_,bV,rfl,⟨_,x,y,hp.1,rfl,fun ys a6=>by rw [J.A9 a6 aR];exact ah,fun zs amb=>by rw [J.A9 amb ao];exact a6,rfl⟩,⟨alj,?_,⟨_,_,j7.extBut _ _ D.TOz abn⟩,g1.extBut j7.extBut D.i1z,g2.extBut j7.extBut D.i2z⟩,fun b aa=>?_⟩
  .exact j7.extBut _ _ D.TIz (ND _ _ D.TIz D.TITO D.TIi1 D.TIi2 km)
  .have dw:b < s.heap.objs.size:=by
    obtain ⟨lP,aq,_⟩:=af;obtain ⟨sO,aH,_⟩:=ak;simp only [en,oC,or_false] at aa;rcases aa with rfl | rfl | rfl | rfl | rfl
    .exact U8
    .exact d8 km
    .exact d8 jY
    .exact d8 aq
    .exact d8 aH
   rw [aM (f7 dw)];exact (hf b aa).1
 done:=by
  intro X cF hw fo aB i ab s σ H E J hf ⟨aN,km,⟨u,v,jY⟩,af,ak⟩ a8;subst cF hw fo;obtain ⟨xs,ys,aR,ao,ah⟩:=a8;obtain ⟨a7,cH,p,wO⟩:=J.list aR;obtain ⟨SF,gE,hO,CW⟩:=J.list ao;have aL:=cH.length;have xu:=gE.length;have D:=MQ aN km jY af ak p.isList hO.isList BW A8;exact wpAny_pyNext_zip_end (J.ok.hd aB) D aN km jY af ak p.isList hO.isList (by simp;omega) fun h' eS=>⟨rfl,J.DK (t':=s.toks) (fun b o aa q=>eS b o (fun z=>aa (by simp [z])) (fun z=>aa (by simp [z])) (fun z=>aa (by simp [z])) (fun z=>aa (by simp [z])) q) hf⟩
 self:=fun _ _ _ _ _ ⟨aN,_⟩ h=>wpAny_pyIter_zip aN h
section
variable {X:bb}
noncomputable def JV (K:bk) (a9:fz):TI:=fun σ H R=>a9 σ H fun vs H1=>∃ a,vs=[.ref a]/\(∃ xs,ay K H1 a xs)/\R (B_ K a) H1
theorem BK {k} {p pos:Pos} (a8:kX X "enumerate") (hm:X.mg "enumerate"=none) (aP:hy X [a] a9) (ax:starEach [a] X.env=[(false,eval a X.env)]:=by rfl) :
  oa X (.Tuple aU k wX) (.Call (.Name "enumerate" p) [a] [] pos) (JV X.K a9):=by
 intro ab s σ H R J h;refine Call_ (r2 J a8 hm ahr (Ed (bJ (aP pos ab s σ H _ J h) fun us s1 da=>?_) ax rfl));obtain ⟨vs,H1,aZ,cN,bS⟩:=da;obtain ⟨a,e,⟨xs,aR⟩,q⟩:=bS;subst e;cases cN with
 | cons r kb=>
  cases kb;cases r;obtain ⟨a7,cH,pl,aN⟩:=aZ.list aR;refine call_enumerate_list pl.isList fun h' N6 IS hsz aC=>wpAny_pyIter_enum N6 ?_
  refine ⟨s1.heap.objs.size + 1,[s1.heap.objs.size + 1,s1.heap.objs.size],_,_,H1,rfl,aZ.kept (t':=s1.toks) aC,ale a _ _ (Nat.succ_ne_self _),⟨_,N6,IS⟩,fun b aa=>?_,q⟩;have ee:s1.heap.objs.size <= b:=by
   simp only [en,oC,or_false] at aa;rcases aa with rfl | rfl
   .exact DQ _
   .exact bP _
  exact aZ.nY ee (aZ.bu.fresh ee)
noncomputable def J2 (K:bk) (a9:fz):TI:=fun σ H R=>a9 σ H fun vs H1=>∃ a b,vs=[.ref a,.ref b]/\(∃ xs,ay K H1 a xs)/\(∃ ys,ay K H1 b ys)/\R (BL K a b) H1
theorem LZ {k} {p pos:Pos} (a8:kX X "zip") (hm:X.mg "zip"=none) (aP:hy X [a,b] a9) (ax:starEach [a,b] X.env=[(false,eval a X.env),(false,eval b X.env)]:=by rfl)
  (h9:starEach [b] X.env=[(false,eval b X.env)]:=by rfl):oa X (.Tuple aU k wX) (.Call (.Name "zip" p) [a,b] [] pos) (J2 X.K a9):=by
 intro ab s σ H R J h;refine Call_ (r2 J a8 hm afC (Ed (bJ (aP pos ab s σ H _ J h) fun us s1 da=>?_) (by rw [ax,h9]) (by rw [h9];rfl)));obtain ⟨vs,H1,aZ,cN,bS⟩:=da;obtain ⟨a,b,e,⟨xs,aR⟩,⟨ys,ao⟩,q⟩:=bS;subst e;cases cN with
 | cons r kb=>
  cases kb with
  | cons ej kb=>
   cases kb;cases r;cases ej;obtain ⟨a7,cH,pl,aN⟩:=aZ.list aR;obtain ⟨SF,Vv,abi,g0⟩:=aZ.list ao;refine call_zip_2 pl.isList abi.isList fun h' aN km jY af ak hsz aC=>wpAny_pyIter_zip aN ?_
   refine ⟨s1.heap.objs.size + 4,[s1.heap.objs.size + 4,s1.heap.objs.size + 2,s1.heap.objs.size + 3,s1.heap.objs.size,s1.heap.objs.size + 1],_,_,H1,rfl,aZ.kept (t':=s1.toks) aC,
    abr a b _ _ _ _ _ (f7 (uy _)) (f7 (uy _)),⟨aN,km,⟨_,_,jY⟩,af,ak⟩,fun c aB=>?_,q⟩
   have ee:s1.heap.objs.size <= c:=by
    simp only [en,oC,or_false] at aB;rcases aB with rfl | rfl | rfl | rfl | rfl
    .exact BQ _ _
    .exact BQ _ _
    .exact BQ _ _
    .exact bP _
    .exact BQ _ _
   exact aZ.nY ee (aZ.bu.fresh ee)
end
theorem kA {k:Nat} {t:sy} {K:bk} (fo:X.K=K) (aB:X.calm=true) (h:xO X aU t)
  (aX:(assignEach aU X.env).length=n:=by rfl) (fS:(assignEach aU X.env).findIdx? (·.1)=none:=by rfl):o8 X (.Tuple aU k pos) (vb K n t):=by
 subst fo;exact aka aB h aX fS
section
variable {X:bb}
noncomputable def J6:V->List V->aw->c4->Prop:=fun x vs H Q=>∃ l xs i y,x=.ref l/\vs=[.int i,y]/\H l=some (.lst xs)/\0 <= i/\i < 2 ^ 62/\i <= (xs.length:Int)/\xs.length < sizeLine/\Q .cn (upd H l (.lst (xs.take i.toNat ++ y :: xs.drop i.toNat)))
theorem LP:Iq X "list.insert" J6:=by
 intro ab s σ H x vs v us Q J bg cH h;obtain ⟨l,xs,i,y,rfl,rfl,kK,h0,af,ak,aN,q⟩:=h;cases bg;cases cH with
 | cons x9 afJ=>
  cases afJ with
  | @cons _ w _ _ gE rc=>
   cases rc;obtain ⟨t,rfl⟩:=x9;obtain ⟨z,a7,n,r,aL,e⟩:=J.uY kK;refine call_meets FO ⟨_,e,rfl⟩ F.entry_list_insert (F.args_list_insert_3 _ _ _) (AutoListH.list_insert_list_int_val_1 l a7.toArray n i t w (by rw [fitsIndex_both (k:=i) (by omega) (by omega)];decide) (by rw [ft];omega)) ⟨e,?_⟩;refine ⟨.cn,_,J.Lc (its':=a7.take i.toNat ++ w :: a7.drop i.toNat) kK e ?_ ((r.take i.toNat).append (.cons gE (r.drop i.toNat))) ?_,rfl,q⟩
   .have aC:(if i < 0 then (i + ((a7.toArray.size:Nat):Int)).toNat else min i.toNat a7.toArray.size)=i.toNat:=by
     rw [if_neg (by omega),ft];omega
    show (a7.toArray.extract 0 (if i < 0 then (i + ((a7.toArray.size:Nat):Int)).toNat else min i.toNat a7.toArray.size)).push w ++ a7.toArray.extract (if i < 0 then (i + ((a7.toArray.size:Nat):Int)).toNat else min i.toNat a7.toArray.size)=_;rw [aC];apply MH.mp;simp;exact I4 (by rw [lB];exact bP _)
   .rw [cZ,gy,ha,lB];omega
end
inductive uq (K:bk) (H:aw):Nat->V->V->Bool->Prop
 | flat {k:Nat} {x y:V} (ah:lA x=true) (a6:lA y=true):uq K H k x y (mm x y)
 | lst {k:Nat} {p q:Addr} {xs ys:List V} {e:Nat->Bool} (ar:ay K H p xs) (aR:ay K H q ys) (aL:xs.length=ys.length) (he:∀ (j:Nat) (x y:V),xs[j]? = some x->ys[j]? = some y->uq K H k x y (e j)):uq K H (k + 1) (.ref p) (.ref q) ((eV xs.length).all e)
 | aoT {k:Nat} {p q:Addr} {xs ys:List V} (ar:ay K H p xs) (aR:ay K H q ys) (aL:xs.length ≠ ys.length):uq K H (k + 1) (.ref p) (.ref q) false
 | tup {k:Nat} {p q:Addr} {xs ys:List V} {e:Nat->Bool} (ar:dR K H p xs) (aR:dR K H q ys) (he:∀ (j:Nat) (x y:V),xs[j]? = some x->ys[j]? = some y->uq K H k x y (e j)):uq K H (k + 1) (.ref p) (.ref q) ((eV (min xs.length ys.length)).all e && xs.length == ys.length)
section
variable {X:bb} {ab:List (Addr × Obj)} {σ:St} {H:aw} {s:Shared}
end
section
variable {X:bb}
end
end L2
namespace L2
open PySem PySem.Spec PyProof.Rows PySem.Builtin PySem.Builtin.ObjectAttr
noncomputable abbrev QI:List Value:=[.type "ValueError",.type "Exception",.type "BaseException",.type "object"]
noncomputable def Mv (K:bk) (C tw:Addr):Bool:=
 match K.lookup C with
 | some ⟨.type "type",_,.cls cd,cE⟩=>
  match cd.mro,cE.toList with
  | .ref D :: c5,[_,_,_,_,some (.builtin n),_]=>
   (D == C) && (n == "ValueError.__new__") && (cd.hasDel == false) && (cd.hasDict == true) && PySem.W.tailIn K QI c5 && PySem.W.nsOkIn K cd.ns && (PySem.W.nsIn K cd.ns "__init__" == some (some (.ref tw)))
  | _,_=>false
 | _=>false
section
variable {P:Program} {w:World} {A:Around} {h:Heap} {g:Array GenState} {d:Drawn} {t:Nat} {os:OsState} {K:bk} {C tw:Addr} {R:Result->Shared->Prop}
end
noncomputable def Gv:List Value->Bool
 | .ref _ :: r=>Gv r
 | l=>l == QI
structure ahi (K:bk) (C:Addr):Prop where
 hd:z6 K C=true
 hW:((aim K C).any fun cd=>Gv cd.mro)=true
 aE:dK K (.ref C) "__setattr__"=some (some (.builtin "object.__setattr__"))
 ga:dK K (.ref C) "__getattribute__"=some (some (.builtin "BaseException.__getattribute__"))
 gt:dK K (.ref C) "__getattr__"=some none
 ex:∃ tw,Mv K C tw=true
section
variable {prog:Program} {w:World} {A:Around} {E:Value->Shared->Prop} {K:bk} {C x:Addr} {s:Shared} {R:Result->Shared->Prop}
end
section
variable {X:bb} {ab:List (Addr × Obj)} {σ:St} {H:aw} {s:Shared} {x C az:Addr} {a3:List (Str × V)} {f:Str} {y:V} {u:Value} {A:Around} {E:Value->Shared->Prop} {Q:Unit->Shared->Prop}
noncomputable def X3 (x C:Addr) (fi:Option Addr):Heap->Prop:=fun h=>∃ vs cE,h.get? x=some ⟨.ref C,fi,.fields vs,cE⟩
end
noncomputable abbrev Xg:=St->aw->(aw->Prop)->Prop
section
variable {X:bb} {e:Expr} {aU:List Expr} {n:Nat} {t:Xg} {bR:TE} {pos:Pos}
end
structure aoC (K:bk) (L:Addr) (m:Str):Prop where
 nq:ZZ K L (.type "type")=true
 fd:aaI K (.ref L) (.type "type") m=some (.val (.builtin "ValueError.__init__"))
 ga:u' K (.ref L) "__getattribute__"=some (some (.builtin "type.__getattribute__"))
section
variable {X:bb} {L:Addr} {x:Str} {p pos gp:Pos} {e:Expr} {aU:List Expr} {t:fz}
end
structure aou (K:bk) (C tw:Addr):Prop where
 e:Mv K C tw=true
 fn:XP K (.ref tw)=some (.type "function")
 bl:tl K (.ref C)=true
section
variable {X:bb} {k:Nat} {f C:Addr} {fd:FuncData} {ps:List Str} {sp:bM} {x g:Str} {p pos pos' gp:Pos} {e o value:Expr} {aU:List Expr} {a9 gk:TE} {t:fz}
end
def Xe (x C:Addr) (fi:Option Addr) (T:Addr) (eU:Value) (h:Heap):Prop:=
 T ≠ x/\∃ vs cE MI ts,h.get? x=some ⟨.ref C,fi,.fields vs,cE⟩/\vs[1]? = some (.ref T)/\h.get? T=some MI/\MI.data=.fields ts/\ts[3]? = some eU
structure aop (a3:List Addr) (x:Addr) (QE:Option Addr) (h h':Heap):Prop where
 keep:∀ b o,h.get? b=some o->b ∉ a3->b ≠ x->some b ≠ QE->h'.get? b=some o
 slot:∀ b o,h.get? b=some o->b ∈ a3->∃ cE,h'.get? b=some { o with slots:=cE }
 there:∀ b o,h.get? b=some o->∃ d6,h'.get? b=some d6
section
variable {M:Model} {A:Around} {E:Value->Shared->Prop} {s:Shared}
theorem VS {base h:Heap} (aL:h.FunFrames base l) (e:h.get? b=some o) (d:o.data=.fields vs):b ∉ nf l:=fun hm=>by
 obtain ⟨_,d6,bH,h8⟩:=aL.mem hm;rw [e] at bH;cases bH;exact h8 vs d
end
section
variable {P:Program} {w:World} {H:aw} {h h':Heap} {a3:List Addr} {x C T:Addr} {fi:Option Addr} {eU:Value} {QE:Option Addr} {o:fX}
end
structure anm (X:bb):Prop where
 st:X.stack=X.env :: X.outer
 fr:X.env.frame=some X.env.locals
def aaZ (X:bb) (ab:List (Addr × Obj)) (T:Addr):Prop:=(T ∈ X.ex\/X.fQ.heap.objs.size <= T)/\T ≠ X.env.locals/\(∀ x c,X.env.cells.lookup x=some c->c ≠ T)/\∀ p ∈ X.eL ++ ab,p.1 ≠ T
section
variable {X:bb} {ab:List (Addr × Obj)} {σ:St} {H:aw} {s:Shared} {T x C:Addr} {fi:Option Addr} {E:St->f5} {M:Model} {A:Around} {anO:Value->Shared->Prop} {Q:Unit->Shared->Prop} {e eU:Value} {h':Heap}
end
section
variable {P:Program} {w:World} {K:bk} {mg:Str->Option Value} {base:Heap} {N:List Str} {qual:Str} {scope:Scope} {f:Addr} {cd:Value} {A:Around} {outer:List Env} {s:Shared} {H:aw} {E:f5}
end
section
variable {X:bb} {CX:ku} {k:Nat} {f C:Addr} {fd:FuncData} {ps:List Str} {sp:bM} {dvs:List V} {ds:List Value} {E:St->f5} {x m:Str} {p pos gp:Pos} {e o:Expr} {aU:List Expr} {a9:TE} {t:fz}
end
section
variable {X:bb} {ab PT:List (Addr × Obj)} {σ:St} {H:aw} {s:Shared} {E:Value->Shared->Prop} {e:Value}
end
noncomputable def hV.gone (D:hV) (i:Nat):hV:={ cT:=fun σ H=>D.cT (σ.set i none) H,lL:=D.lL,cP:=fun σ H=>D.cP (σ.set i none) H,fv:=fun σ H=>D.fv (σ.set i none) H }
section
variable {X:bb} {body anK:List Stmt} {yJ:Stmt} {x n:Str} {c:Addr} {i:Nat} {bG:(St->f5)->ey} {yW:ey} {anI ar pos:Pos}
end
theorem Ve (D:hV) (i:Nat) (σ:St) (H:aw):(D.gone i).cT σ H=D.cT (σ.set i none) H:=rfl
theorem VG (D:hV) (i:Nat) (v:V) (H:aw):(D.gone i).lL v H=D.lL v H:=rfl
section
variable {X:bb} {e:Expr} {bR:TE} {pos:Pos} {E:St->f5}
end
def Hb (B:bb) (E:f5) (e:Value) (aj:Shared):Prop:=
 ∃ ab eU au I x C fi T,e=.ref x/\Inv B ab au I aj/\I x=some (.ext (X3 x C fi))/\I T=none/\aaZ B ab T/\B.fQ.heap.objs.size <= T/\Xe x C fi T eU aj.heap/\E (.ref C) fi I
structure anZ (X:bb) (scope:Scope) (N:List Str) (dz elt:Expr) (ifs:List Expr) (g:gY) (dr:TT) (bR:f5->TE):Prop where
 Te:∀ E C s H bf,o8 ((X.block scope C N s H bf).lS (Hb (X.block scope C N s H bf) E)) dz g
 tests:∀ E C s H bf,wg ((X.block scope C N s H bf).lS (Hb (X.block scope C N s H bf) E)) ifs dr
 elem:∀ E C s H bf,bD ((X.block scope C N s H bf).lS (Hb (X.block scope C N s H bf) E)) elt (bR E)
section
variable {X:bb} {elt dz iter:Expr} {ifs:List Expr} {scope:Scope} {pos:Pos} {hI:TI} {g:gY} {dr:TT} {bR:f5->TE} {N:List Str} {sel:List (Option Nat)}
end
structure anj (K:bk) (C:Addr):Prop where
 cl:hu K C
 aP:dK K (.ref C) "__class__"=some (some (.builtin "object.__class__"))
 aX:u' K (.builtin "object.__class__") "__get__"=some (some (.builtin "getset_descriptor.__get__"))
 G3:GK K (.builtin "object.__class__")=some true
 hm:Ft K C (.type "object")=some true
end L2
namespace L2
open PySem PySem.Spec PyProof.Rows
section
variable {X:bb} {dz:Expr}
end
section
variable {prog:Program} {w:World} {A:Around} {E:Value->Shared->Prop} {s:Shared} {it l:Addr} {items:Array Value}
end
section
variable {X:bb}
end
section
variable {prog:Program} {w:World} {A:Around} {R:Result->Shared->Prop} {J:Addr} {bf wr:List Addr} {n:Nat} {P:Nat->Value->Prop} {St:Nat->Heap->Prop}
end
section
variable {prog:Program} {w:World} {A:Around} {E:Value->Shared->Prop} {s:Shared}
end
section
variable {X:bb}
end
structure aot (K:bk) (C:Addr):Prop where
 x:ahi K C
 aP:dK K (.ref C) "__class__"=some (some (.builtin "object.__class__"))
 aX:u' K (.builtin "object.__class__") "__get__"=some (some (.builtin "getset_descriptor.__get__"))
 G3:GK K (.builtin "object.__class__")=some true
 hm:Ft K C (.type "object")=some true
section
variable {prog:Program} {w:World} {A:Around} {E:Value->Shared->Prop} {s:Shared} {K:bk} {x C:Addr} {fi:Obj} {az:Addr} {vs:Array Value} {cE:Array (Option Value)}
end
section
variable {X:bb}
end
structure aiR (k:Nat) (A:Around):Prop where
 jd:A.depth + 3 * k + 5 < recursionLimit
 un:A.units + 16 * k + 200 < cLine
structure ant (P:Program) (w:World) (K:bk) (mg:Str->Option Value) (base:Heap) (CX:ku) (k:Nat) (f:Addr) (fd:FuncData) (ps:List Str) (sp:bM):Prop where
 len:∀ vs H Q E,sp vs H Q E->vs.length=ps.length
 run:∀ (A:Around) (outer:List Env) (s:Shared) (H:aw) (args:Args) (us:List Value) (vs:List V) (Q:c4) (E:f5),aiR k A->rH P w K mg base A outer s H->BindsTo s fd args (ps.zip us)->cQ vs us->sp vs H Q E ->
  codeAny (model P w) A (.call (.ref f) args) (Kg CX outer P w H s Q E) s
section
variable {X:bb} {CX:ku} {k:Nat} {f C:Addr} {fd:FuncData} {ps:List Str} {sp:bM} {dvs:List V} {ds:List Value} {E:f5} {x m:Str} {p pos gp:Pos} {e o:Expr} {aU:List Expr} {a9:TE} {t:fz}
end
noncomputable def ajI (CX:ku) (P:Program) (w:World) (K:bk) (mg:Str->Option Value) (base:Heap) (N:List Str) (qual:Str) (scope:Scope) (f:Addr) (cd:Value) (A:Around) (outer:List Env) (s:Shared) (H:aw) (E:f5):bb where
 prog:=P
 w:=w
 K:=K
 mg:=mg
 base:=base
 A:=A.deeper (envOfC qual scope s.heap.objs.size f cd)
 N:=N
 fQ:=s
 r1:=H
 env:=envOfC qual scope s.heap.objs.size f cd
 outer:=outer
 stack:=envOfC qual scope s.heap.objs.size f cd :: outer
 ex:=[]
 calm:=false
 fn:=fun _=>true
 eL:=[]
 d2:=fun e aj=>wpAny (model P w) (A.deeper (envOfC qual scope s.heap.objs.size f cd)) (leaving (envOfC qual scope s.heap.objs.size f cd) e) (fun _ sI=>CX outer H s E e sI) (fun bH sI=>CX outer H s E bH sI) aj
section
variable {P:Program} {w:World} {K:bk} {mg:Str->Option Value} {base:Heap}
end
section
variable {X:bb}
end
section
variable {α:Type} {M:List α->Prop}
theorem iS (h:∀ a,M [a]):∀ us:List α,us.length=1->M us | [a],_=>h a
theorem gi (h:∀ a b,M [a,b]):∀ us:List α,us.length=2->M us | [a,b],_=>h a b
theorem hg (h:∀ a b c,M [a,b,c]):∀ us:List α,us.length=3->M us | [a,b,c],_=>h a b c
theorem NG (h:∀ a b c d,M [a,b,c,d]):∀ us:List α,us.length=4->M us | [a,b,c,d],_=>h a b c d
theorem BA (h:∀ a b c d e f g,M [a,b,c,d,e,f,g]):∀ us:List α,us.length=7->M us | [a,b,c,d,e,f,g],_=>h a b c d e f g
theorem abd (h:∀ a b c d e f g i,M [a,b,c,d,e,f,g,i]):∀ us:List α,us.length=8->M us | [a,b,c,d,e,f,g,i],_=>h a b c d e f g i
end
structure anG (K:bk) (C:Addr):Prop where
 hd:z6 K C=true
 hW:((aim K C).any fun cd=>Gv cd.mro)=true
 aE:dK K (.ref C) "__setattr__"=some (some (.builtin "object.__setattr__"))
 ga:dK K (.ref C) "__getattribute__"=some (some (.builtin "BaseException.__getattribute__"))
 gt:dK K (.ref C) "__getattr__"=some none
structure L1 (K:bk) (C:Addr):Prop where
 aP:dK K (.ref C) "__class__"=some (some (.builtin "object.__class__"))
 aX:u' K (.builtin "object.__class__") "__get__"=some (some (.builtin "getset_descriptor.__get__"))
 G3:GK K (.builtin "object.__class__")=some true
 hm:Ft K C (.type "object")=some true
theorem Q5 {bC:List Int}:∀ {a7:List Value},cQ (bC.map V.int) a7->∃ xs:List (Int × Tok),a7=xs.map (fun p=>oY p.1 p.2)/\xs.map (·.1)=bC:=by
 induction bC with
 | nil=>intro a7 r;cases r;exact ⟨[],rfl,rfl⟩
 | cons k bC cS=>
  intro a7 r;cases r with
  | cons h t=>
   obtain ⟨xs,aq,aH⟩:=cS t;obtain ⟨tk,rfl⟩:=(show ∃ t,_=oY k t from h);exact ⟨(k,tk) :: xs,by rw [e8,<- aq],by rw [e8,aH]⟩
section
variable {X:bb}
theorem MF (aB:X.calm=true):l_ X (.builtin "max") (fun xs H Q=>∃ l bC m,xs=[.ref l]/\ay X.K H l (n9 V.int bC)/\(m ∈ bC/\∀ k ∈ bC,k <= m)/\Q (.int m) H):=by
 intro ab s σ H xs us Q J r h;obtain ⟨l,bC,m,rfl,aR,hm,q⟩:=h;obtain ⟨u,rfl,eZ⟩:=lV r;cases eZ;obtain ⟨a7,cH,pl,aN⟩:=J.list aR;obtain ⟨xs,aq,aH⟩:=Q5 cH;have i6:a7.toArray=intItems xs.toArray:=by rw [aq];unfold intItems;simp
 have qe:s.heap.IsList l (intItems xs.toArray):=by rw [<- i6];exact pl.isList
 have gN:xs.length=bC.length:=by rw [<- aH,aW]
 have cj:0 < xs.toArray.size:=by
  rw [ft,gN];exact alR hm.1
 refine max_intList (J.ok.hd aB) qe cj fun v h' tk aF aC=>⟨.int m,H,J.kept aC,?_,q⟩
 obtain ⟨gk,rfl⟩:=intItems_at aF;refine ⟨gk,?_⟩;have aa:=argBest_gt (numAt xs.toArray) (xs.toArray.size - 1);generalize argBest (fun i j=>decide (numAt xs.toArray i > numAt xs.toArray j)) (xs.toArray.size - 1)=j at aa ⊢;have aX:∀ i,i < bC.length->bC[i]? = some (numAt xs.toArray i):=fun i ai=>by
  rw [numAt_eq,jQ];show bC[i]? = some (((xs.map (·.1))[i]?).getD 0);rw [aH,a' ai];rfl
 rw [ft] at aa cj;have af:=hm.2 _ (b9 (aX j (by omega)));obtain ⟨i,ai⟩:=hU hm.1;have i6:i < bC.length:=(b6.mp ai).1;have ak:=aa.2 i (by omega);have a5:m=numAt xs.toArray i:=eE (ai.symm.trans (aX i i6));rw [show numAt xs.toArray j=m by omega]
noncomputable def EG (K:bk):V->List V->aw->c4->Prop:=fun x vs H Q=>∃ l bC k,x=.ref l/\vs=[.int k]/\ay K H l (n9 V.int bC)/\k ∈ bC/\bC.length <= 1000/\Q (.int (bC.idxOf k:Nat)) H
theorem NS:Bu X "list.index" (EG X.K):=by
 intro ab s σ H x xs v us Q J bg cH h;obtain ⟨l,bC,k,rfl,rfl,aR,aC,aL,q⟩:=h;cases (show v=fW l from bg);obtain ⟨u,rfl,eZ⟩:=lV cH;obtain ⟨jC,rfl⟩:=(show ∃ t,u=oY k t from eZ);obtain ⟨a7,Wc,pl,aN⟩:=J.list aR;have ai:=aaz Wc;have hlen:=ai.length;have aG:bC.idxOf k < bC.length:=WT.mpr aC;obtain ⟨⟨cls,d9,data,cE⟩,aS,aB,n,hd⟩:=id pl.isList;simp only at aB hd;subst aB hd;refine call_meets SY ⟨_,aS,rfl⟩ PySem.F.entry_list_index (PySem.F.args_list_index_2 _ _)
  (PySem.SeqAt.list_indexAt l a7.toArray n d9 cE (.int k jC) (isInt k) (bC.idxOf k) (by simpa [hlen] using aG) (by omega) ?_ ?_) ⟨aS,fun y a6=>(eq_isInt k jC ai y (by simpa using a6)).at _ _,.int _,H,J.tok _,⟨_,rfl⟩,q⟩
 .show isInt k a7[bC.idxOf k]=true;rw [isInt_at k ai _ (by omega) aG];simpa using amw aG
 .intro j WD dw;show isInt k a7[j]=false;rw [isInt_at k ai j (by simpa using WD) (by omega)];exact ne_of_lt_idxOf dw _
end
noncomputable def X7 (p d:Addr):Heap->Prop:=fun h=>PySem.W.KdlKeysView h p d
section
variable {X:bb}
noncomputable def p_:V->List V->aw->c4->Prop:=fun x vs H Q=>∃ d kvs,x=.ref d/\vs=[]/\H d=some (.bW kvs)/\∀ p,H p=none->Q (.ref p) (upd H p (.ext (X7 p d)))
end
noncomputable abbrev aiS:=St->aw->Str->(Str->aw->Prop)->Prop
section
variable {X:bb} {e:Expr} {aU:List Expr} {t:aiS} {bR:TE} {pos:Pos}
end
section
variable {X:bb}
end
noncomputable def mP (f:Addr) (qual:Str) (params:Arguments) (body:Expr) (scope:Scope) (i_:List (Str × Addr)) (c':Addr):Heap->Prop:=
 fun h=>∃ pm iZ,h.get? f=some (yi "<lambda>" qual params body scope i_ pm c' iZ)
noncomputable def nC (c:Addr) (qual:Str):Heap->Prop:=fun h=>h.CodeRec (.ref c) qual
def Tab (H:aw) (bL:Addr) (pos:Pos) (qual:Str):Prop:=
 ∃ ps,H bL=some (.hC ps)/\(ps=#[]\/∃ c',ps=#[rawInt pos.line,rawInt pos.col,.ref c']/\H c'=some (.ext (nC c' qual)))
def Do (bL:Addr) (H I:aw):Prop:=∀ b o,b ≠ bL->H b=some o->I b=some o
theorem Do.trans (a:Do bL H H1) (b:Do bL H1 av):Do bL H av:=fun c o n h=>b c o n (a c o n h)
theorem aK.p (s:aK H I):Do bL H I:=fun b o _ h=>s b o h
theorem Tab.ne (t:Tab H bL pos qual) (h:H b=some o) (aS:∀ ps,o ≠ .hC ps):b ≠ bL:=fun e=>by
 obtain ⟨ps,aq,_⟩:=t;subst e;rw [aq] at h;exact aS ps (eE h).symm
theorem Tab.step (t:Tab H bL pos qual) (s:aK H I):Tab I bL pos qual:=by
 obtain ⟨ps,e,d⟩:=t;refine ⟨ps,s _ _ e,?_⟩;rcases d with d | ⟨c',d,bH⟩
 .exact .inl d
 .exact .inr ⟨c',d,s _ _ bH⟩
theorem V9 {w:World} {h:Heap}
  (e:h.get? f=some (yi "<lambda>" qual params body scope i_ pm c' iZ)):fC P w H h f (.ext (mP f qual params body scope i_ c')):=
 ⟨⟨pm,iZ,e⟩,⟨_,e⟩,fun _ _ ⟨p,c,aq⟩ k=>⟨p,c,k _ aq⟩⟩
theorem ae1 {w:World} {h:Heap} (e:h.CodeRec (.ref c) qual):fC P w H h c (.ext (nC c qual)):=by
 refine ⟨e,?_,fun af ak x k=>?_⟩
 .obtain ⟨b4,o,vs,t,aq,aH,_⟩:=e;cases aq;exact ⟨o,aH⟩
 .obtain ⟨b4,o,vs,t,aq,aH,bO,d_⟩:=x;cases aq;exact ⟨_,o,vs,t,rfl,k o aH,bO,d_⟩
structure FW (X:bb) (c bL:Addr):Prop where
 code:X.env.code=.ref c
 hd:mf X.base c bL
 bm:X.base.BuiltinsAt X.mg bL
theorem abk:TriplesOk [rawInt a,rawInt b,v]:=lQ
theorem ags:codeAmong pos [rawInt pos.line,rawInt pos.col,v]=some v:=by
 have:=codeAmong_snoc (pos:=pos) (c:=v) [] lQ rfl;simpa using this
section
variable {X:bb} {ab:List (Addr × Obj)} {σ:St} {H:aw} {s:Shared} {params:Arguments} {body:Expr} {scope:Scope} {pos:Pos} {c bL:Addr} {i_:List (Str × Addr)} {Q:Value->Shared->Prop}
theorem Tf (J:Inv X ab σ H s) (T:FW X c bL) (bG:Tab H bL pos (X.env.qual ++ "<lambda>")) (mT:closureFor scope X.env=pure i_) (wd:defaultsOf params X.env=([],[]))
  (h:∀ f c' H1 s1,Inv X ab σ H1 s1->Do bL H H1->(aJ H->aJ H1)->Tab H1 bL pos (X.env.qual ++ "<lambda>")->H1 f=some (.ext (mP f (X.env.qual ++ "<lambda>") params body scope i_ c'))->H1 c'=some (.ext (nC c' (X.env.qual ++ "<lambda>")))->H f=none->Q (.ref f) s1) :
  wpAny (model X.prog X.w) X.A (eval (.Lambda params body scope pos) X.env) Q X.d2 s:=by
 refine PySem.W.kla_eval wd ?_;obtain ⟨ps,kW,d⟩:=bG;have cF:s.heap.get? bL=some (K7 ps):=J.bu _ _ kW;have nS:s.heap.Ns mainGlobals X.mg:=J.mod.glob.keeps J.cP;have dg:=T.hd.keeps J.cP;have aiX:mainGlobals ≠ bL:=fun q=>by
  obtain ⟨o,aU,ct,e,hd,_⟩:=nS;rw [q,cF] at e;cases e;cases hd
 have hB:s.heap.BuiltinsAt X.mg bL:=by
  obtain ⟨bm,o,af,ak,a5,bN,dy,ia⟩:=T.bm;exact ⟨bm,o,af,ak,a5,bN,J.cP _ _ dy,ia⟩
 rcases d with rfl | ⟨c',rfl,gh⟩
 .refine PySem.W.kla_makeFunction (mg:=X.mg) mT J.ok.glob nS T.code dg cF lQ rfl aiX hB fun c' iZ h' tk ah Bn dw YK U1=>?_
  have rl:H c'=none:=J.bu.fresh Bn;have h8:H h'.objs.size=none:=J.bu.fresh (cL Bn (mA dw));have afX:c' ≠ h'.objs.size:=f7 dw;have ahZ:bL ≠ c':=fun z=>by rw [z,rl] at kW;cases kW
  have amV:bL ≠ h'.objs.size:=fun z=>by rw [z,h8] at kW;cases kW
  have put:∀ b o,b ≠ bL->H b=some o->upd (upd (upd H bL (.hC (#[] ++ #[rawInt pos.line,rawInt pos.col,.ref c']))) c' (.ext (nC c' (X.env.qual ++ "<lambda>")))) h'.objs.size (.ext (mP h'.objs.size (X.env.qual ++ "<lambda>") params body scope i_ c')) b=some o:=fun b o n e=>by
   rw [aM (fun z=>by rw [z,h8] at e;cases e),aM (fun z=>by rw [z,rl] at e;cases e),aM n];exact e
  have DR:upd (upd (upd H bL (.hC (#[] ++ #[rawInt pos.line,rawInt pos.col,.ref c']))) c' (.ext (nC c' (X.env.qual ++ "<lambda>")))) h'.objs.size (.ext (mP h'.objs.size (X.env.qual ++ "<lambda>") params body scope i_ c')) bL=some (.hC (#[] ++ #[rawInt pos.line,rawInt pos.col,.ref c'])):=by
   rw [aM amV,aM ahZ,aQ]
  have uC:upd (upd (upd H bL (.hC (#[] ++ #[rawInt pos.line,rawInt pos.col,.ref c']))) c' (.ext (nC c' (X.env.qual ++ "<lambda>")))) h'.objs.size (.ext (mP h'.objs.size (X.env.qual ++ "<lambda>") params body scope i_ c')) c'=some (.ext (nC c' (X.env.qual ++ "<lambda>"))):=by
   rw [aM afX,aQ]
  have Ka:upd (upd (upd H bL (.hC (#[] ++ #[rawInt pos.line,rawInt pos.col,.ref c']))) c' (.ext (nC c' (X.env.qual ++ "<lambda>")))) h'.objs.size (.ext (mP h'.objs.size (X.env.qual ++ "<lambda>") params body scope i_ c')) h'.objs.size=some (.ext (mP h'.objs.size (X.env.qual ++ "<lambda>") params body scope i_ c')):=aQ;have cn:∀ b,b ≠ bL->b ≠ c'->b ≠ h'.objs.size->upd (upd (upd H bL (.hC (#[] ++ #[rawInt pos.line,rawInt pos.col,.ref c']))) c' (.ext (nC c' (X.env.qual ++ "<lambda>")))) h'.objs.size (.ext (mP h'.objs.size (X.env.qual ++ "<lambda>") params body scope i_ c')) b=H b:=fun b cM cU di=>by
   rw [aM di,aM cU,aM cM]
  have iP:aJ H->aJ (upd (upd (upd H bL (.hC (#[] ++ #[rawInt pos.line,rawInt pos.col,.ref c']))) c' (.ext (nC c' (X.env.qual ++ "<lambda>")))) h'.objs.size (.ext (mP h'.objs.size (X.env.qual ++ "<lambda>") params body scope i_ c'))):=fun n=>n.upd.upd.upd
  generalize upd (upd (upd H bL (.hC (#[] ++ #[rawInt pos.line,rawInt pos.col,.ref c']))) c' (.ext (nC c' (X.env.qual ++ "<lambda>")))) h'.objs.size (.ext (mP h'.objs.size (X.env.qual ++ "<lambda>") params body scope i_ c'))=H1 at put DR uC Ka cn iP;have bl:∀ b o,b ≠ bL->s.heap.get? b=some o->(h'.push (yi "<lambda>" (X.env.qual ++ "<lambda>") params body scope i_ ((X.mg "__name__").getD .none) c' iZ)).get? b=some o:=fun b o n e=>eJ _ (ah b o n e)
  have Mn:∀ b,H b=none->b ≠ bL:=fun b n z=>by rw [z,kW] at n;cases n
  have u:hb X.a3 [] H H1 s.heap (h'.push (yi "<lambda>" (X.env.qual ++ "<lambda>") params body scope i_ ((X.mg "__name__").getD .none) c' iZ)):=by
   refine ⟨fun b o e n _ _=>bl b o (Mn b n) e,fun b o e n _ _=>⟨o.slots,bl b o (Mn b n) e⟩,fun b o e n _=>?_,fun b o e _=>?_,fun b xs e=>put b _ (fun z=>by rw [z,kW] at e;cases e) e,fun b o x e=>put b _ (fun z=>by rw [z,kW] at e;cases e) e,fun b ps e=>?_⟩
   .have aa:=d8 e;rw [cn b (Mn b n) (f7 (h_ aa Bn)) (f7 (h_ aa (cL Bn (mA dw))))];exact n
   .by_cases aa:b=bL
    .subst aa;exact ⟨_,eJ _ U1⟩
    .exact ⟨o,bl b o aa e⟩
   .by_cases aa:b=bL
    .subst aa;rw [kW] at e;cases e;exact ⟨_,DR⟩
    .exact ⟨#[],by rw [put b _ aa e];simp⟩
  have bu:fb X.prog X.w H1 (h'.push (yi "<lambda>" (X.env.qual ++ "<lambda>") params body scope i_ ((X.mg "__name__").getD .none) c' iZ)):=fun b o e=>by
   by_cases af:b=bL
   .subst af;rw [DR] at e;cases e;exact eJ _ U1
   by_cases ak:b=c'
   .subst ak;rw [uC] at e;cases e;refine ae1 ?_;obtain ⟨b4,o,vs,t,aq,aH,bO⟩:=YK;exact ⟨b4,o,vs,t,aq,eJ _ aH,bO⟩
   by_cases a5:b=h'.objs.size
   .subst a5;rw [Ka] at e;cases e;exact V9 (gV _ rfl)
   rw [cn b af ak a5] at e;refine (J.bu b o e).nO (fun d v hd q=>bl d v ?_ q) (fun d q=>put d _ (fun z=>by rw [z,kW] at q;cases q) q) fun d xs q=>put d _ (fun z=>by rw [z,kW] at q;cases q) q
   rcases hd with z | z
   .rw [z];exact af
   .intro eg;rw [eg,kW] at z;cases z
  exact h _ c' H1 _ (J.un (t':=tk) u bu) (fun b o n e=>put b o n e) iP ⟨_,DR,.inr ⟨c',by simp,uC⟩⟩ Ka uC h8
 .refine PySem.W.kla_makeFunctionHit (mg:=X.mg) mT J.ok.glob nS T.code dg cF abk ags hB fun iZ h' tk aC hsz=>?_
  have h8:H h'.objs.size=none:=J.bu.fresh hsz;have aZ:Inv X ab σ (upd H h'.objs.size (.ext (mP h'.objs.size (X.env.qual ++ "<lambda>") params body scope i_ c'))) { s with heap:=h'.push (yi "<lambda>" (X.env.qual ++ "<lambda>") params body scope i_ ((X.mg "__name__").getD .none) c' iZ),toks:=tk }:=
   J.laid (t':=tk) (fun b o e=>eJ _ (aC b o e)) hsz (V9 (gV _ rfl))
  have bq:=ba (o:=.ext (mP h'.objs.size (X.env.qual ++ "<lambda>") params body scope i_ c')) h8;exact h _ c' _ _ aZ bq.p (fun n=>n.upd) ⟨_,bq _ _ kW,.inr ⟨c',rfl,bq _ _ gh⟩⟩ aQ (bq _ _ gh) h8
end
section
variable {P:Program} {w:World} {K:bk} {mg:Str->Option Value} {base:Heap}
end
structure an3 (p y:Str) (sc:Scope):Prop where
 kind:sc.kind=.function
 co:sc.isCoroutine=false
 gen:sc.isGenerator=false
 ne:p ≠ y
 par:sc.names.lookup p=some .local
 Nl:sc.names.lookup y=some .free
 vR:∀ z ∈ sc.names,z.2 ≠ .cell
 one:∀ z ∈ sc.names,z.2=.free->z.1=y
section
variable {X:bb} {ab:List (Addr × Obj)} {σ:St} {H:aw} {s:Shared} {k:Nat} {f c' cl:Addr} {q p y:Str} {params:Arguments} {body:Expr} {scope:Scope} {v:V} {t:TE}
end
noncomputable def Ss:Expr->Scope
 | .Lambda _ _ s _=>s
 | _=>{ kind:=.function,names:=[],isGenerator:=false,isCoroutine:=false }
noncomputable def OS:Expr->Pos
 | .Lambda _ _ _ p=>p
 | _=>⟨0,0,0,0⟩
section
variable {P:Program} {w:World} {A:Around} {E:Value->Shared->Prop} {s:Shared}
structure ta (h:Heap) (d:Addr) (o:Obj) (aU:Array DictEntry) (ct:Nat):Prop where
 at_:h.get? d=some o
 ex:o.ExactDict
 dat:o.data=.dict aU ct
theorem SM (r:ta s.heap d o aU ct):s.TypeIs (.ref d) "dict" := ⟨o,r.at_,r.ex.1⟩
theorem aaR (hd:(d == sysModules)=false) (r:ta s.heap d o aU ct)
  (aV:Q (.ref s.heap.objs.size) { s with heap:=s.heap.push { cls:=.type "dict_keyiterator",data:=.fields #[.ref d,.int 0 0,.int aU.size 0,.int ct 0] } }) :
  wpAny (model P w) A (pyIter (.ref d)) Q E s:=by
 have lq:=SM r;refine wpAny_pyIter_slot lq ajk (wpAny_call_entry ajk lq F.entry_dict_iter ?_ (F.args_dict_iter_1 _));unfold Builtin.«dict.__iter__» apc;refine wpAny_bind (wpAny_bind (wpAny_notOrdered_dict lq (wpAny_pure ?_)));show wpAny _ _ (Y8 d >>= _) _ _ s;unfold Y8;rw [if_neg (by rw [hd];exact fB)];refine wpAny_bind (wpAny_pure (wpAny_bind (wpAny_dictEntries r.at_ r.dat (wpAny_bind (wpAny_dictEpoch r.at_ r.dat ?_)))));refine wpAny_bind (wpAny_newObj_type (wpAny_pure ⟨_,rfl,"dict_keyiterator",_,⟨_,gV _ rfl,rfl⟩,C9.lookup,?_⟩));simpa [rawInt] using aV
theorem aea {it d:Addr} {e:DictEntry} (hit:s.heap.IsKeyIter it d i aU.size ct) (r:ta s.heap d o aU ct) (ah:aU[i]? = some e)
  (aV:∀ h',h'.IsKeyIter it d (i + 1) aU.size ct->ux it s.heap h'->Q (some e.key) { s with heap:=h' }):wpAny (model P w) A (pyNext (.ref it)) Q E s:=by
 obtain ⟨afL,aS,aB,hd⟩:=id hit;have Fh:acC "dict_keyiterator"=false:=by decide
 have dw:i < aU.size:=by
  rcases Nat.lt_or_ge i aU.size with h | h
  .exact h
  .rw [ZL h] at ah;cases ah
 unfold pyNext;refine wpAny_bind (wpAny_attempt (wpAny_callSpecial?_slot (name:=ae "__next__") hit.typeIs C9
  (wpAny_call_entry C9 hit.typeIs ajf ?_ (afT _))))
 refine wpAny_bind (wpAny_pure (wpAny_bind (wpAny_bind ?_)))
 first | refine wpAny_bind (wpAny_typeNameOfWhole_keyiter hit.typeIs (wpAny_pure ?_)) | refine wpAny_bind (wpAny_typeNameOf_keyiter hit.typeIs (wpAny_pure ?_))
 refine wpAny_bind (wpAny_fieldsOf aS hd ?_);simp only [Fh,C3,if_false];show wpAny _ _ (if (fW d == sY)=true then _ else _) _ _ s;rw [if_neg (show ¬ ((fW d == sY)=true) from fB)];refine wpAny_bind (wpAny_pure (wpAny_bind (wpAny_dictEntries r.at_ r.dat ?_)));rw [if_neg (by simp)];refine wpAny_bind (wpAny_pure (wpAny_bind (wpAny_dictEpoch r.at_ r.dat ?_)));rw [if_neg (by simp)];refine wpAny_pure ?_;simp only [show ¬ ((i:Int) < 0) from by omega,if_false,lI,ah];refine wpAny_bind ?_
 first | refine wpAny_bind (wpAny_typeNameOfWhole_keyiter hit.typeIs (wpAny_pure ?_)) | refine wpAny_bind (wpAny_typeNameOf_keyiter hit.typeIs (wpAny_pure ?_))
 refine wpAny_bind (wpAny_isOneOf_keyiter hit.typeIs ?_);show wpAny _ _ (setField (.ref it) 1 (rawInt ((i:Int) + 1)) >>= _) _ _ s;refine wpAny_bind (wpAny_setField aS hd (by simp) ?_);have UJ:(s.heap.update it (aiE (·.setIfInBounds 1 (rawInt ((i:Int) + 1))))).IsKeyIter it d (i + 1) aU.size ct:=
  ⟨_,Heap.get?_update_self _ aS (Obj.isFreed_of_fields (aa6 hd _)),(Obj.cls_mapFields ..).trans aB,by rw [aa6 hd];simp [rawInt]⟩
 refine wpAny_bind (wpAny_holding (wpAny_bind (wpAny_isOneOf_keyiter (s:={ s with heap:=s.heap.update it (aiE (·.setIfInBounds 1 (rawInt ((i:Int) + 1)))) }) UJ.typeIs ?_)));show wpAny _ _ (pure e.key) _ _ _;exact wpAny_pure (wpAny_pure ⟨_,rfl,wpAny_pure (aV _ UJ (aeg ..))⟩)
theorem af_ {it d:Addr} (b2:A.handled=none) (hit:s.heap.IsKeyIter it d i aU.size ct) (r:ta s.heap d o aU ct) (ah:aU.size <= i)
  (aV:∀ h',Heap.ExtBut it s.heap h'->Q none { s with heap:=h' }):wpAny (model P w) A (pyNext (.ref it)) Q E s:=by
 obtain ⟨afL,aS,aB,hd⟩:=id hit;have Fh:acC "dict_keyiterator"=false:=by decide
 unfold pyNext;refine wpAny_bind (wpAny_attempt (wpAny_callSpecial?_slot (name:=ae "__next__") hit.typeIs C9
  (wpAny_call_entry C9 hit.typeIs ajf ?_ (afT _))))
 refine wpAny_bind (wpAny_pure (wpAny_bind (wpAny_bind ?_)))
 first | refine wpAny_bind (wpAny_typeNameOfWhole_keyiter hit.typeIs (wpAny_pure ?_)) | refine wpAny_bind (wpAny_typeNameOf_keyiter hit.typeIs (wpAny_pure ?_))
 refine wpAny_bind (wpAny_fieldsOf aS hd ?_);simp only [Fh,C3,if_false];show wpAny _ _ (if (fW d == sY)=true then _ else _) _ _ s;rw [if_neg (show ¬ ((fW d == sY)=true) from fB)];refine wpAny_bind (wpAny_pure (wpAny_bind (wpAny_dictEntries r.at_ r.dat ?_)));rw [if_neg (by simp)];refine wpAny_bind (wpAny_pure (wpAny_bind (wpAny_dictEpoch r.at_ r.dat ?_)));rw [if_neg (by simp)];refine wpAny_pure ?_;simp only [show ¬ ((i:Int) < 0) from by omega,if_false,lI,ZL ah];refine wpAny_bind ?_
 first | refine wpAny_bind (wpAny_typeNameOfWhole_keyiter hit.typeIs (wpAny_pure ?_)) | refine wpAny_bind (wpAny_typeNameOf_keyiter hit.typeIs (wpAny_pure ?_))
 show wpAny _ _ (setField (.ref it) 0 .none >>= _) _ _ s;refine wpAny_bind (wpAny_setField aS hd (by simp) ?_);show wpAny _ _ (newExc (.type "StopIteration") [] >>= _) _ _ _;refine wpAny_bind ?_;simp only [newExc,newTuple];refine wpAny_bind (wpAny_newObj_type ?_ (by size_fits));refine wpAny_bind (m:=firstArgMember _ _) (wpAny_of_eq (a:=sY) (by first | rfl | (simp only [firstArgMember];rfl)) ?_);refine wpAny_newObj_type ?_ (by size_fits);simp only [raiseNew];refine wpAny_bind (wpAny_handled ?_);rw [show A.in1.handled=none from b2];refine wpAny_bind (wpAny_pure (wpAny_throw ?_));refine wpAny_bind (wpAny_isInstance (T := "StopIteration") (b:=true) ⟨_,gV _ rfl,rfl⟩ isSubtype_stop ?_);exact wpAny_pure (aV _ (((aeg ..).extBut.push _).push _))
end
noncomputable def oT (a:Addr) (o:Obj):Heap->Prop:=fun h=>h.get? a=some o
structure Q1 (P:Program) (w:World) (H:aw) (a:Addr) (kvs:List (List Key × V)) (o:Obj) (aU:Array DictEntry) (ct:Nat) (xs:List (List Key × Addr × Value)):Prop where
 at_:H a=some (.ext (oT a o))
 ex:o.ExactDict
 dat:o.data=.dict aU ct
 ent:aU.toList=xs.map (entryOfKey (tupleKind (iu P w)))
 aI:(xs.map (·.1)).Nodup
 bC:Paired (fun (p:List Key × V) (q:List Key × Addr × Value)=>p.1=q.1/\H q.2.1=some (.tup (p.1.map dQ))/\bX p.2 q.2.2) kvs xs
 nU:kvs.length <= sizeLine
 ns:(a == sysModules)=false
def Ty (P:Program) (w:World) (H:aw) (a:Addr) (kvs:List (List Key × V)):Prop:=∃ o aU ct xs,Q1 P w H a kvs o aU ct xs
section
variable {P:Program} {w:World} {H I:aw} {h:Heap} {a:Addr} {kvs:List (List Key × V)}
theorem Iu (d:Ty P w H a kvs) (s:aK H I):Ty P w I a kvs:=by
 obtain ⟨o,aU,ct,xs,r⟩:=d;exact ⟨o,aU,ct,xs,s _ _ r.at_,r.ex,r.dat,r.ent,r.aI,Paired.q6 r.bC fun p q z=>⟨z.1,s _ _ z.2.1,z.2.2⟩,r.nU,r.ns⟩
theorem aaD {p:Addr} (d:Ty P w H a kvs) (ar:p ≠ a) (cR:∀ xs,H p ≠ some (.tup xs)):Ty P w (upd H p u) a kvs:=by
 obtain ⟨o,aU,ct,xs,r⟩:=d;exact ⟨o,aU,ct,xs,by rw [aM (eb ar)];exact r.at_,r.ex,r.dat,r.ent,r.aI,Paired.q6 r.bC fun q dB z=>⟨z.1,by rw [aM (fun e=>cR _ (e ▸ z.2.1))];exact z.2.1,z.2.2⟩,r.nU,r.ns⟩
theorem VE (ok:fb P w H h) (r:Q1 P w H a kvs o aU ct xs):ta h a o aU ct:=
 ⟨(ok a _ r.at_).1,r.ex,r.dat⟩
theorem RK (ok:fb P w H h) (d:Ty P w H a kvs):tX (H a)/\(∃ u,h.get? a=some u)/\fC P w (upd H a (.gu kvs)) h a (.gu kvs):=by
 obtain ⟨o,aU,ct,xs,r⟩:=d;have e:=(VE ok r).at_;refine ⟨by rw [r.at_];exact lQ,⟨o,e⟩,r.nU,r.ns,xs,Paired.q6 r.bC fun q dB z=>⟨z.1,?_,z.2.2⟩,o,aU,ct,e,r.ex,r.dat,r.ent,r.aI⟩;rw [aM (fun e=>by have:=z.2.1;rw [e,r.at_] at this;cases this)];exact z.2.1
theorem acI (ok:fb P w H h) (d:Ty P w H a kvs):fb P w (upd H a (.gu kvs)) h:=
 have z:=RK ok d
 ok.write z.1 (.inl rfl) (fun _ _ _ q=>q) z.2.1 z.2.2
theorem afy (d:Ty P w H a kvs) (e:H b=some (.tup xs)):b ≠ a:=fun z=>by
 obtain ⟨o,aU,ct,ys,r⟩:=d;have:=r.at_;rw [<- z,e] at this;cases this
end
section
variable {X:bb} {ab:List (Addr × Obj)} {σ:St} {H:aw} {s:Shared} {a b:Addr} {kvs:List (List Key × V)} {k:List Key} {v:V} {r:Value} {A:Around} {E:Value->Shared->Prop}
theorem E2 (J:Inv X ab σ H s) (j8:tX (H a)) (ex:∃ u,s.heap.get? a=some u) (new:fC X.prog X.w (upd H a d6) s.heap a d6):Inv X ab σ (upd H a d6) s:=
 J.un (t':=s.toks) (h':=s.heap) (hb.write j8 (.inl rfl) (fun _ _ _ q=>q) ex) (J.bu.write j8 (.inl rfl) (fun _ _ _ q=>q) ex new)
theorem amX (J:Inv X ab σ H s) (d:Ty X.prog X.w H a kvs):Inv X ab σ (upd H a (.gu kvs)) s:=
 have z:=RK J.bu d
 E2 J z.1 z.2.1 z.2.2
theorem Ra (J:Inv X ab σ H s) (e:H a=some (.gu kvs)):∃ o,Inv X ab σ (upd H a (.ext (oT a o))) s/\Ty X.prog X.w (upd H a (.ext (oT a o))) a kvs:=by
 obtain ⟨z,y,xs,r,o,aU,ct,af,ak,a5,bN,dy⟩:=(show fC X.prog X.w H s.heap a (.gu kvs) from J.bu a _ e);refine ⟨o,E2 J (by rw [e];exact lQ) ⟨o,af⟩ ⟨af,⟨o,af⟩,fun _ _ q k=>k o q⟩,o,aU,ct,xs,aQ ..,ak,a5,bN,dy,Paired.q6 r fun p q z=>⟨z.1,?_,z.2.2⟩,z,y⟩;rw [aM (fun q=>by have:=z.2.1;rw [q,e] at this;cases this)];exact z.2.1
theorem alk (bY:A.units + 1 < cLine) (J:Inv X ab σ H s) (d:Ty X.prog X.w H a kvs) (eS:H b=some (.tup (k.map dQ))) (l:dn kvs k=some v) (h:∀ e_ aj,Inv X ab σ H aj->bX v e_->Q e_ aj) :
  wpAny (model X.prog X.w) A (getItem (.ref a) (.ref b)) Q E s:=by
 obtain ⟨z,hd,xs,rel,d9⟩:=Oq (acI J.bu d) (aQ ..);obtain ⟨e_,hw,gE⟩:=je.some_of (v:=v) (o:=(atKey xs k).map (·.2)) (by rw [<- l];exact rel.val k);obtain ⟨p,ar,fV⟩:=yR.mp hw;refine wpAny_getItem_heap (tupleKind_room_in1 bY) (yl J.bu eS) d9 ar ?_;rw [fV];exact h e_ _ (J.tok _) gE
theorem XB (bY:A.units + 1 < cLine) (J:Inv X ab σ H s) (d:Ty X.prog X.w H a kvs) (eS:H b=some (.tup (k.map dQ))) (aL:kvs.length < sizeLine) (cH:bX v r)
  (h:∀ o aj,Inv X ab σ (upd H a (.ext (oT a o))) aj->Ty X.prog X.w (upd H a (.ext (oT a o))) a (es kvs k v)->Q () aj):wpAny (model X.prog X.w) A (setItem (.ref a) (.ref b) r) Q E s:=by
 refine QB bY (amX J d) (l5.t (aQ ..) (by rw [aM (afy d eS)];exact eS) aL) (show bX (.ref b) (.ref b) from rfl) cH fun aj jy=>?_
 rw [s7] at jy;obtain ⟨o,bV,el⟩:=Ra jy (aQ ..);rw [s7] at bV el;exact h o aj bV el
end
noncomputable def HM (P:Program) (w:World) (gd ty:TE):TE:=fun σ H Q=>gd σ H fun x H1=>ty σ H1 fun y av=>∃ a b kvs k v,x=.ref a/\y=.ref b/\Ty P w av a kvs/\av b=some (.tup (k.map dQ))/\dn kvs k=some v/\Q v av
noncomputable def wP (P:Program) (w:World) (gd ty gk:TE):ey:=fun D σ H=>gk σ H fun v H1=>gd σ H1 fun x av=>ty σ av fun y br=>∃ a b kvs k,x=.ref a/\y=.ref b/\Ty P w br a kvs/\br b=some (.tup (k.map dQ))/\kvs.length < sizeLine/\∀ o,Ty P w (upd br a (.ext (oT a o))) a (es kvs k v)->D.cT σ (upd br a (.ext (oT a o)))
noncomputable def KZ (P:Program) (w:World):TE:=fun _ H Q=>∀ p o,H p=none->Ty P w (upd H p (.ext (oT p o))) p []->Q (.ref p) (upd H p (.ext (oT p o)))
section
variable {X:bb} {o i e value:Expr} {pos pos' wX:Pos} {gd ty gk:TE}
theorem agP (bY:X.A.units + 1 < cLine) (aS:bD X o gd) (ai:bD X i ty) (ax:IY i):bD X (.Subscript o i pos) (HM X.prog X.w gd ty):=by
 intro ab s σ H Q J h;refine M3 aiu.lookup ax (bJ (aS ab s σ H _ J h) fun u s1 cB=>ew cB fun x H1 aZ bg bS=>bJ (ai ab s1 σ H1 _ aZ bS) fun n2 s2 da=>?_);obtain ⟨y,av,bV,bA,a,b,kvs,k,v,ex,ix,d,eS,l,eo⟩:=da;subst ex ix;obtain rfl:u=fW a:=bg;obtain rfl:n2=fW b:=bA;refine ⟨?_,alk bY bV d eS l fun e_ s3 fu gE=>⟨v,av,fu,gE,eo⟩⟩;obtain ⟨cV,aU,ct,xs,r⟩:=d;exact SM (VE bV.bu r)
theorem XF (bY:X.A.units + 1 < cLine) (aS:bD X o gd) (ai:bD X i ty) (aF:bD X value gk) (ax:swapsWith value (some (.Subscript o i pos')) pos.line X.env=pure false) :
  hA X (.Assign [.Subscript o i pos'] value pos) (wP X.prog X.w gd ty gk):=by
 intro ab s σ H D J h;refine wpAny_Assign_Subscript (bJ (aF ab s σ H _ J h) fun r s1 cB=>ew cB fun v H1 aZ cH bS=>bJ (aS ab s1 σ H1 _ aZ bS) fun u s2 cB=>ew cB fun x av bV bg eo=>bJ (ai ab s2 σ av _ bV eo) fun n2 s3 da=>?_) ax;obtain ⟨y,br,fu,bA,a,b,kvs,k,ex,ix,d,eS,aL,ic⟩:=da;subst ex ix;obtain rfl:u=fW a:=bg;obtain rfl:n2=fW b:=bA;exact XB bY fu d eS aL cH fun cV s4 iA Ds=>⟨σ,_,iA,ic cV Ds⟩
theorem ai1:bD X (.Dict [] [] pos) (KZ X.prog X.w):=fun ab s σ H Q J h=>by
 refine bJ (alu ab s σ H (fun x H1=>∃ p,x=.ref p/\H p=none/\H1=upd H p (.gu [])) J fun p ar=>⟨p,rfl,ar,rfl⟩) fun v s1 da=>?_
 obtain ⟨x,H1,aZ,cN,p,ex,ar,yp⟩:=da;subst ex yp;obtain ⟨o,bV,el⟩:=Ra aZ (aQ ..);rw [s7] at bV el;exact ⟨.ref p,_,bV,cN,h p o ar el⟩
end
section
variable {X:bb} {dz:Expr}
end
structure ano (H I:aw) (l:Addr) (as:List Addr) (kvs:List (Key × V)):Prop where
 same:∀ b o,H b=some o->I b=some o
 fresh:H l=none
 am5:∀ a ∈ as,H a=none
 at_:I l=some (.lst (as.map V.ref))
 len:as.length=kvs.length
 al:∀ (j:Nat) (a:Addr) (q:Key × V),as[j]? = some a->kvs[j]? = some q->I a=some (.tup [dQ q.1,q.2])
 only:∀ b o,I b=some o->H b=some o\/o=.lst (as.map V.ref)\/∃ q ∈ kvs,o=.tup [dQ q.1,q.2]
section
variable {X:bb}
end
section
open AutoSeq1 (wpAny_loadPart')
open MeetsSeq MeetsSeq2 MeetsSeq3 SeqRoads2
variable {P:Program} {w:World} {l b:Addr} {xs ys:Array Value} {n m:Nat} {d9 am_:Option Addr} {cE bq:Array (Option Value)}
end
section
variable {X:bb} {ab:List (Addr × Obj)} {σ:St} {H:aw} {s:Shared}
structure anR (H:aw) (p:Addr) (ps:List Addr) (bC:List (List (Key × V))):Prop where
 at_:H p=some (.lst (ps.map V.ref))
 len:ps.length=bC.length
 al:∀ (j:Nat) (a:Addr) (kvs:List (Key × V)),ps[j]? = some a->bC[j]? = some kvs->H a=some (.bW kvs)
end
section
variable {X:bb}
end
section
variable {X:bb} {ab:List (Addr × Obj)} {σ:St} {H:aw} {s:Shared} {d:Addr} {o:Obj} {kvs:List (Key × V)}
theorem agG (J:Inv X ab σ H s) (e:H d=some (.bW kvs)) (g:s.heap.get? d=some o):Inv X ab σ (upd H d (.e2 o (.bW kvs))) s:=
 E2 J (by rw [e];exact lQ) ⟨o,g⟩ ⟨g,J.bu d _ e⟩
theorem UW (J:Inv X ab σ H s) (e:H d=some (.e2 o (.bW kvs))) (h8:∀ o u,X.r1 d ≠ some (.e2 o u)):Inv X ab σ (upd H d (.bW kvs)) s:=by
 have ne:∀ {b:Addr} {u:Option fX},H b=u->(∀ d6,u ≠ some (.e2 d6 (.bW kvs)))->b ≠ d:=fun {b u} q h z=>h o (by rw [<- q,z];exact e)
 refine ⟨J.ok,J.os,J.bare,⟨J.base.keep,J.base.slot,fun b d6 q n ah=>?_,J.base.there,fun b xs q=>?_,fun b d6 u q=>?_,fun b ps q=>?_⟩,J.loc,J.cell,?_,fun x c q=>?_,fun p ar=>?_,fun b u q=>?_,J.len⟩
 .have h:=J.base.free b d6 q n ah;rw [aM (ne h (fun _ z=>by cases z))];exact h
 .have h:=J.base.qG b xs q;rw [aM (ne h (fun _ z=>by cases z))];exact h
 .have h:=J.base.mS b d6 u q;rw [aM (fun z=>h8 d6 u (by rw [<- z];exact q))];exact h
 .obtain ⟨m,h⟩:=J.base.pO b ps q;exact ⟨m,by rw [aM (ne h (fun _ z=>by cases z))];exact h⟩
 .rw [aM (ne J.free (fun _ z=>by cases z))];exact J.free
 .rw [aM (ne (J.j1 x c q) (fun _ z=>by cases z))];exact J.j1 x c q
 .obtain ⟨af,ak,a5⟩:=J.pin p ar;exact ⟨af,by rw [aM (ne ak (fun _ z=>by cases z))];exact ak,a5⟩
 .by_cases aa:b=d
  .subst aa;rw [aQ] at q;cases q;exact (J.bu b _ e).2
  .rw [aM aa] at q;refine (J.bu b u q).nO (fun _ _ _ r=>r) (fun c r=>?_) (fun c xs r=>?_)
   .rw [aM (ne r (fun _ z=>by cases z))];exact r
   .rw [aM (ne r (fun _ z=>by cases z))];exact r
end
noncomputable def LF (d:Addr) (o:Obj) (kvs:List (Key × V)):kc:=
 ⟨fun i H=>H d=some (.e2 o (.bW kvs))/\i < kvs.length,fun i H x I=>I=H/\∃ k v,kvs[i]? = some (k,v)/\x=dQ k,fun i H=>H d=some (.e2 o (.bW kvs))/\kvs.length <= i⟩
theorem ad4 {w:World} {K:bk} {d it:Addr} (ex:o.ExactDict) (aS:o.data=.dict aU ct)
  (aL:aU.size=kvs.length) (bC:∀ (i:Nat) (e:DictEntry),aU[i]? = some e->∃ k v,kvs[i]? = some (k,v)/\bX (dQ k) e.key):qb P w K dz (LF d o kvs) [it] it (fun i h=>h.IsKeyIter it d i aU.size ct) where
 mem:=by simp
 obj:=fun i h st b aa=>by
  have e:b=it:=by simpa using aa
  subst e;obtain ⟨o,e,c,d⟩:=st;exact ⟨o,e,fun v z=>by rw [d] at z;cases z⟩
 keep:=fun i h h' st k=>st.at fun o e=>k it (by simp) o e
 item:=by
  intro X cF hw fo aB i ab s σ H E J hf st a8;subst cF hw fo;obtain ⟨aR,ah⟩:=a8;have r:ta s.heap d o aU ct:=⟨(J.bu d _ aR).1,ex,aS⟩;obtain ⟨f0,f1,f2,ez,f4,e0⟩:=hf it (by simp);obtain ⟨q,vp⟩:∃ q,aU[i]? = some q:=⟨_,Array.getElem?_eq_getElem (show i < aU.size by omega)⟩;obtain ⟨k,v,ajM,JZ⟩:=bC i q vp;refine aea st r vp fun h' lW o4=>?_
  have aZ:Inv X ab σ H { s with heap:=h' }:=J.turned (t':=s.toks) (fun b o aa e=>(o4.2 b aa).trans e) f0 f1 ez f4 e0;obtain ⟨sO,e,c,d9⟩:=id lW;exact ⟨_,rfl,wz (s:={ s with heap:=h' }) e c d9 (by decide) ⟨dQ k,H,aZ,JZ,⟨rfl,k,v,ajM,rfl⟩,lW,fun b aa=>(hf b aa).1⟩⟩
 done:=by
  intro X cF hw fo aB i ab s σ H E J hf st a8;subst cF hw fo;obtain ⟨aR,ah⟩:=a8;have r:ta s.heap d o aU ct:=⟨(J.bu d _ aR).1,ex,aS⟩;obtain ⟨f0,f1,f2,ez,f4,e0⟩:=hf it (by simp);exact af_ (J.ok.hd aB) st r (by omega) fun h' eS=>⟨rfl,J.turned (t':=s.toks) (fun b o aa e=>eS b o aa e) f0 f1 ez f4 e0⟩
 self:=fun _ _ _ _ _ st h=>wpAny_pyIter_keyiter st h
theorem ab' {w:World} {k:Key} (h:(iu P w).is k v=true):bX (dQ k) v:=by
 rcases pb (k:=k) (v:=v) h with ⟨i,t,rfl,rfl⟩ | ⟨x,t,rfl,rfl⟩
 .exact ⟨t,rfl⟩
 .exact ⟨t,rfl⟩
theorem Sx {w:World}:∀ {aU:List DictEntry} {vs:List (Key × Value)} {kvs:List (Key × V)},Pairs (iu P w) aU vs->e9 kvs vs->aU.length=kvs.length/\∀ (i:Nat) (e:DictEntry),aU[i]? = some e->∃ k v,kvs[i]? = some (k,v)/\bX (dQ k) e.key
 | _,_,_,.nil,r=>by
  unfold e9 at r;cases r;exact ⟨rfl,fun i e h=>by simp at h⟩
 | _,_,_,.cons aC _ t,r=>by
  unfold e9 at r;cases r with
  | @cons p q ps qs h ej=>
   obtain ⟨l,al⟩:=Sx t (kvs:=ps) ej;refine ⟨by rw [gy,gy,l],fun i e he=>?_⟩;cases i with
   | zero=>
    cases he;refine ⟨p.1,p.2,rfl,ab' (P:=P) (w:=w) ?_⟩;rw [h.1];exact aC
   | succ i=>exact al i e he
section
variable {X:bb} {dz:Expr}
noncomputable def Fm (c5:TE):TI:=fun σ H R=>c5 σ H fun x H1=>∃ d kvs,x=.ref d/\H1 d=some (.bW kvs)/\∀ o,R (LF d o kvs) (upd H1 d (.e2 o (.bW kvs)))
theorem Wt (aL:bD X l c5):oa X dz l (Fm c5):=by
 intro ab s σ H R J h;refine bJ (aL ab s σ H _ J h) fun v s1 cB=>ew cB fun x H1 aZ cN bS=>?_
 obtain ⟨d,kvs,e,m6,q⟩:=bS;subst e;cases cN;obtain ⟨_,hd,vs,rel,o,aU,ct,g,ex,dat,_,pr,_⟩:=wj aZ.bu m6;obtain ⟨aL,bC⟩:=Sx pr rel;have bV:=agG aZ m6 g;refine aaR hd ⟨g,ex,dat⟩ ?_;refine ⟨s1.heap.objs.size,[s1.heap.objs.size],_,_,_,rfl,bV.kept (t':=s1.toks) fun b o e=>eJ _ e,ad4 ex dat (by rw [<- aL];exact EO.symm) (fun i e h=>bC i e (by rw [<- Z5] at h;exact h)),⟨_,gV _ rfl,rfl,rfl⟩,fun b aa=>?_,q o⟩;have e:b=s1.heap.objs.size:=by simpa using aa
 subst e;exact bV.nY (bP _) (bV.bu.fresh (bP _))
noncomputable def IF (t:TE):TE:=fun σ H Q=>∃ d kvs,H d=some (.bW kvs)/\t σ H fun v I=>∃ o,I d=some (.e2 o (.bW kvs))/\Q v (upd I d (.bW kvs))
theorem aj' {e:Expr} {t:TE} (h:bD X e t):bD X e (IF t):=by
 intro ab s σ H Q J q;obtain ⟨d,kvs,m6,q⟩:=q;refine bJ (h ab s σ H _ J q) fun v s1 ⟨x,H1,aZ,cN,o,aq,bS⟩=>⟨x,_,UW aZ aq (fun d6 u z=>?_),cN,bS⟩
 have:=J.base.mS d d6 u z;rw [m6] at this;cases this
end
structure lM (X:bb) (ab:List (Addr × Obj)) (H:aw) (S:Addr):Prop where
 nn:H S=none
 nl:S ≠ X.env.locals
 ge:X.fQ.heap.objs.size <= S
 rl:∀ x c,X.env.cells.lookup x=some c->c ≠ S
 np:∀ p ∈ X.eL ++ ab,p.1 ≠ S
 h8:S ∉ X.a3
theorem lM.of (J:Inv X ab σ H s) (h:s.heap.objs.size <= S):lM X ab H S:=
 ⟨J.bu.fresh h,fun z=>absurd (h_ J.lt h) (by rw [z];exact oM _),cL J.nU h,fun x c e z=>by
  obtain ⟨v,o,aS,_⟩:=J.cell x c e;exact absurd (h_ (d8 aS) h) (by rw [z];exact oM _),fun p ar z=>by
  have aS:=(J.pin p ar).1;exact absurd (h_ (d8 aS) h) (by rw [z];exact oM _),J.H2 h⟩
theorem lM.turn (o:lM X ab H S) (J:Inv X ab σ H s) (k:∀ b o,b ≠ S->s.heap.get? b=some o->h'.get? b=some o):Inv X ab σ H { s with heap:=h',toks:=t' }:=
 J.turned k o.nn o.nl (.inr o.ge) o.rl o.np
section
variable {X:bb} {A:Around} {ab:List (Addr × Obj)} {σ:St} {H:aw} {l q J S:Addr} {n:Nat} {P:Nat->Value->Prop} {R:Result->Shared->Prop}
theorem Dm (bz:Inv X ab σ H s) (ji:lM X ab H S) (jg:lM X ab H J) (Yr:s.heap.get? S=some Sa) (amn:s.heap.get? J=some S6) (X_:∀ v,Sa.data ≠ .cell v) (ai2:∀ v,S6.data ≠ .cell v):Inv X ((S,Sa) :: (J,S6) :: ab) σ H s:=
 bz.tu fun p ar=>by
  rcases en.mp ar with rfl | ar
  .exact ⟨Yr,ji.nn,ji.nl,ji.h8,X_⟩
  rcases en.mp ar with rfl | ar
  .exact ⟨amn,jg.nn,jg.nl,jg.h8,ai2⟩
  exact bz.pin p (lO _ ar)
theorem D9 (bz:Inv X (Ia :: IK :: ab) σ H s):Inv X ab σ H s/\s.heap.get? Ia.1=some Ia.2/\s.heap.get? IK.1=some IK.2:=
 ⟨bz.tu fun p ar=>bz.pin p (lO _ (.tail _ (.tail _ ar))),(bz.pin Ia (lO _ (.head _))).1,(bz.pin IK (lO _ (.tail _ (.head _)))).1⟩
theorem ajV (cW:Nat->Int) (b2:A.handled=none) (aL:∀ s,Inv X ab σ H s->∃ vs:List Value,vs.length=n/\(∀ i v,vs[i]? = some v->P i v)/\s.heap.IsList l vs.toArray) (n1:l ≠ J) (lh:S ≠ J) (ji:lM X ab H S) (jg:lM X ab H J)
  (turn:∀ (i:Nat) (v:Value),i < n->P i v->∀ (ab:List (Addr × Obj)) (s:Shared),Inv X ab σ H s ->
   wpAny (model X.prog X.w) A.in1 (call (.ref q) [v]) (gb X ab σ fun x I=>x=.int (cW i)/\I=H) (fun _ _=>False) s)
  (gA:∀ i v aj,i < n->P i v->(∀ j,j < n->cW i <= cW j/\(j < i->cW i < cW j))->Inv X ab σ H aj->R (.ok (.ret v)) aj) :
  ∀ (r j i:Nat) (s:Shared) (l8:Value) (bG:Tok) (c:Nat),n - (j + 1)=r->j + 1 <= n->Inv X ab σ H s ->
   s.heap.get? S=some (seqObj "list" #[l8,.int (cW i) bG] c)->s.heap.IsListIter J l (j + 1)->P i l8->i <= j->(∀ er,er <= j->cW i <= cW er/\(er < i->cW i < cW er)) ->
   codeAny (model X.prog X.w) A (.builtin "min.loop" ⟨[.ref J,.ref q,.ref S],[]⟩) R s:=by
 have ou:(toString "min" ++ toString ".loop" : String) = "min.loop" := by decide
 intro r
 induction r with
 | zero=>
  intro j i s l8 bG c ao aG bz dE hit tZ kS me;obtain ⟨vs,qJ,qj,n7⟩:=aL s bz;have W:=tL (prog:=X.prog) (w:=X.w) (A:=A.in1) b2 J l n1 vs.toArray;have hsz:vs.toArray.size=vs.length:=ft ..;have gx:j + 1=vs.length:=by omega
  refine codeAny_builtin T2 ?_;rw [xw uI _];show wpAny _ A.in1 (seqItems? (.ref S) >>= _) _ _ _;refine wpAny_bind (wpAny_seqItems dE rfl ?_);show wpAny _ A.in1 (tryCatch (pyNext (.ref J)) _ >>= _) _ _ _;refine wpAny_bind (wpAny_tryCatch (W.done _ _ _ ⟨by rw [hsz,<- gx];exact hit,n7⟩ fun h' od eH=>?_));have mE:Inv X ab σ H { s with heap:=h',toks:=od }:=jg.turn bz fun b o n e=>eH b o (by simpa using n) e
  have oz:=eH S _ (by simpa using lh) dE;show wpAny _ A.in1 (updateSeq S (fun _=>#[]) >>= _) _ _ _;refine wpAny_bind ?_;refine wpAny_updateSeq oz rfl (wpAny_bind (wpAny_letGo (wpAny_pure ?_)));exact gA i l8 _ (by omega) tZ (fun er hx=>me er (by omega)) (ji.turn mE fun b o n e=>(pP _ _ (eb n)).trans e)
 | succ r cS=>
  intro j i s l8 bG c ao aG bz dE hit tZ kS me;obtain ⟨vs,qJ,qj,n7⟩:=aL s bz;have W:=tL (prog:=X.prog) (w:=X.w) (A:=A.in1) b2 J l n1 vs.toArray;have hsz:vs.toArray.size=vs.length:=ft ..;have dw:j + 1 < n:=by omega
  refine codeAny_builtin T2 ?_;rw [xw uI _];show wpAny _ A.in1 (seqItems? (.ref S) >>= _) _ _ _;refine wpAny_bind (wpAny_seqItems dE rfl ?_);show wpAny _ A.in1 (tryCatch (pyNext (.ref J)) _ >>= _) _ _ _;refine wpAny_bind (wpAny_tryCatch (W.item (j + 1) _ _ _ (by rw [hsz,qJ];exact dw) ⟨hit,n7⟩ fun v h' od cF tm eH=>?_));have aF:P (j + 1) v:=qj _ _ (by simpa using cF);obtain ⟨qR,tC,mX,mC⟩:=id tm.1;have mE:Inv X ab σ H { s with heap:=h',toks:=od }:=jg.turn bz fun b o n e=>eH b o (by simpa using n) e
  have oz:=eH S _ (by simpa using lh) dE;have pn:=Dm mE ji jg oz tC (fun _ z=>by cases z) (fun _ z=>by rw [mC] at z;cases z);show wpAny _ A.in1 (tryCatch (holding [v] (call (.ref q) [v])) _ >>= _) _ _ _;refine wpAny_bind (wpAny_tryCatch (wpAny_holding (wpAny_mono (turn (j + 1) v dw aF _ _ pn) (fun x s2 he=>?_) fun _ _ p9=>p9.elim)));obtain ⟨eu,I,n_,bg,rfl,rfl⟩:=he;obtain ⟨dJ,rfl⟩:=bg;obtain ⟨n3,l9,p7⟩:=D9 n_;have E':s2.heap.IsListIter J l (j + 1 + 1):=⟨qR,p7,mX,mC⟩;show wpAny _ A.in1 (tryCatch (holding [v,.int (cW (j + 1)) dJ] (richCompare .Lt (.int (cW (j + 1)) dJ) (.int (cW i) bG) >>= _)) _ >>= _) _ _ _;refine wpAny_bind (wpAny_tryCatch (wpAny_holding (wpAny_bind (CmpOf.ints_lt (prog:=X.prog) (w:=X.w) (A:=A.in1) (P:=fun i v=>∃ t,v=.int (cW i) t) cW (fun i v h=>h) (j + 1) i _ _ _ _ _ ⟨dJ,rfl⟩ ⟨bG,rfl⟩ ?_))));refine wpAny_bind (wpAny_holding (wpAny_truthy_bool ?_));refine wpAny_bind (wpAny_letGo (wpAny_pure ?_));by_cases ee:cW (j + 1) < cW i
  .obtain ⟨b4,qn⟩:∃ b4,(s2.heap.update S (qU fun _=>#[v,.int (cW (j + 1)) dJ])).get? S=some (seqObj "list" #[v,.int (cW (j + 1)) dJ] b4):=⟨_,get?_update_seq l9 fun _=>#[v,.int (cW (j + 1)) dJ]⟩;simp only [ee,decide_true,if_true];refine wpAny_bind ?_;refine wpAny_updateSeq l9 rfl (wpAny_bind (wpAny_letGo ?_));rw [ou];have rL:=ji.turn (t':=s2.toks) n3 (h':=s2.heap.update S (qU fun _=>#[v,.int (cW (j + 1)) dJ])) fun b o n e=>(pP _ _ (eb n)).trans e
   refine wpAny_pure ⟨plainId_quiet uI _,cS (j + 1) (j + 1) _ v dJ b4 (by omega) dw rL qn ⟨qR,(pP _ _ lh).trans p7,mX,mC⟩ aF (bP _) fun er hx=>?_⟩;by_cases e:er=j + 1
   .subst e;exact ⟨by omega,fun _=>by omega⟩
   .have rA:=me er (by omega);have jL:=rA.1;exact ⟨by omega,fun _=>by omega⟩
  .simp only [ee,decide_false,C3,if_false];refine wpAny_bind (wpAny_letGo ?_);rw [ou];refine wpAny_pure ⟨plainId_quiet uI _,cS (j + 1) i _ l8 bG c (by omega) dw n3 l9 E' tZ (by omega) fun er hx=>?_⟩;by_cases e:er=j + 1
   .subst e;exact ⟨by omega,fun _=>by omega⟩
   .exact me er (by omega)
theorem agy (cW:Nat->Int) (b2:A.handled=none) (bz:Inv X ab σ H s) (aL:∀ ab s,Inv X ab σ H s->∃ vs:List Value,vs.length=n/\(∀ i v,vs[i]? = some v->P i v)/\s.heap.IsList l vs.toArray) (cj:0 < n)
  (turn:∀ (i:Nat) (v:Value),i < n->P i v->∀ (ab:List (Addr × Obj)) (s:Shared),Inv X ab σ H s ->
   wpAny (model X.prog X.w) A.in1 (call (.ref q) [v]) (gb X ab σ fun x I=>x=.int (cW i)/\I=H) (fun _ _=>False) s)
  (aV:∀ i v aj,i < n->P i v->(∀ j,j < n->cW i <= cW j/\(j < i->cW i < cW j))->Inv X ab σ H aj->Q v aj) :
  wpAny (model X.prog X.w) A (call (.builtin "min") [.ref l] [(ae "key",.ref q)]) Q E s:=by
 have ou:(toString "min" ++ toString ".loop" : String) = "min.loop" := by decide
 obtain ⟨P0,_,_,qe⟩:=aL _ s bz;obtain ⟨ol,IG,_⟩:=id qe;have uW:l < s.heap.objs.size:=d8 IG;refine kmk_tree PySem.F.kind_min PySem.F.plain_min PySem.F.entry_min (kmk_min_key _ _) ?_;show wpAny _ A.in1 (Jl "min" ["key","default"] 0 ⟨[],[(ae "key",.ref q)]⟩ >>= _) _ _ s;refine wpAny_bind (wpAny_of_eq (show Jl "min" ["key","default"] 0 ⟨[],[(ae "key",.ref q)]⟩=pure [some (.ref q),none] from rfl) ?_);refine wpAny_bind (wpAny_pure ?_);refine wpAny_bind (wpAny_pyIter_list qe ?_);refine wpAny_bind (wpAny_newList ?_ (fh _));rw [ou];have dE:(s.heap.push { cls:=.type "list_iterator",data:=.fields #[.ref l,.int 0 0] }).objs.size=s.heap.objs.size + 1:=size_push' ..;have n1:l ≠ s.heap.objs.size:=f7 uW;have lh:(s.heap.push { cls:=.type "list_iterator",data:=.fields #[.ref l,.int 0 0] }).objs.size ≠ s.heap.objs.size:=by rw [dE];exact Bi (uy _)
 refine wpAny_pure ⟨plainId_quiet uI _,?_⟩;have jg:lM X ab H s.heap.objs.size:=.of bz (bP _);have ji:lM X ab H (s.heap.push { cls:=.type "list_iterator",data:=.fields #[.ref l,.int 0 0] }).objs.size:=.of bz (by rw [dE];exact DQ _);have JI:((s.heap.push { cls:=.type "list_iterator",data:=.fields #[.ref l,.int 0 0] }).push (seqObj "list" #[] 0)).get? s.heap.objs.size=some { cls:=.type "list_iterator",data:=.fields #[.ref l,.int 0 0] }:=
  eJ _ (gV _ rfl)
 have y_:((s.heap.push { cls:=.type "list_iterator",data:=.fields #[.ref l,.int 0 0] }).push (seqObj "list" #[] 0)).get? (s.heap.push { cls:=.type "list_iterator",data:=.fields #[.ref l,.int 0 0] }).objs.size=some (seqObj "list" #[] 0):=gV _ rfl;have wW:Inv X ab σ H { s with heap:=(s.heap.push { cls:=.type "list_iterator",data:=.fields #[.ref l,.int 0 0] }).push (seqObj "list" #[] 0) }:=bz.kept (t':=s.toks) fun b o e=>eJ _ (eJ _ e)
 obtain ⟨vs,qJ,qj,n7⟩:=aL _ _ wW;have W:=tL (prog:=X.prog) (w:=X.w) (A:=A.in1) b2 s.heap.objs.size l n1 vs.toArray;have hsz:vs.toArray.size=vs.length:=ft ..;refine codeAny_builtin T2 ?_;rw [xw uI _];show wpAny _ A.in1 (seqItems? (.ref _) >>= _) _ _ _;refine wpAny_bind (wpAny_seqItems y_ rfl ?_);show wpAny _ A.in1 (tryCatch (pyNext (.ref s.heap.objs.size)) _ >>= _) _ _ _;refine wpAny_bind (wpAny_tryCatch (W.item 0 _ _ _ (by rw [hsz,qJ];exact cj) ⟨⟨_,JI,rfl,rfl⟩,n7⟩ fun v h' od cF tm eH=>?_));have aF:P 0 v:=qj _ _ (by simpa using cF);obtain ⟨qR,tC,mX,mC⟩:=id tm.1;have mE:=jg.turn (h':=h') (t':=od) wW fun b o n e=>eH b o (by simpa using n) e
 have oz:=eH _ _ (by simpa using lh) y_;have pn:=Dm mE ji jg oz tC (fun _ z=>by cases z) (fun _ z=>by rw [mC] at z;cases z);show wpAny _ A.in1 (tryCatch (holding [v] (call (.ref q) [v])) _ >>= _) _ _ _;refine wpAny_bind (wpAny_tryCatch (wpAny_holding (wpAny_mono (turn 0 v cj aF _ _ pn) (fun x s2 he=>?_) fun _ _ p9=>p9.elim)));obtain ⟨eu,I,n_,bg,rfl,rfl⟩:=he;obtain ⟨dJ,rfl⟩:=bg;obtain ⟨n3,l9,p7⟩:=D9 n_;obtain ⟨b4,qn⟩:∃ b4,(s2.heap.update (s.heap.push { cls:=.type "list_iterator",data:=.fields #[.ref l,.int 0 0] }).objs.size (qU fun _=>#[v,.int (cW 0) dJ])).get? (s.heap.push { cls:=.type "list_iterator",data:=.fields #[.ref l,.int 0 0] }).objs.size=some (seqObj "list" #[v,.int (cW 0) dJ] b4):=⟨_,get?_update_seq l9 fun _=>#[v,.int (cW 0) dJ]⟩;show wpAny _ A.in1 (updateSeq (s.heap.push { cls:=.type "list_iterator",data:=.fields #[.ref l,.int 0 0] }).objs.size (fun _=>#[v,.int (cW 0) dJ]) >>= _) _ _ _;refine wpAny_bind ?_;refine wpAny_updateSeq l9 rfl ?_;rw [ou];have rL:=ji.turn (t':=s2.toks) n3 (h':=s2.heap.update (s.heap.push { cls:=.type "list_iterator",data:=.fields #[.ref l,.int 0 0] }).objs.size (qU fun _=>#[v,.int (cW 0) dJ])) fun b o n e=>(pP _ _ (eb n)).trans e
 refine wpAny_pure ⟨plainId_quiet uI _,ajV cW b2 (fun s bz=>aL _ s bz) n1 lh ji jg turn aV _ 0 0 _ v dJ b4 rfl cj rL qn ⟨qR,(pP _ _ lh).trans p7,mX,mC⟩ aF (bP _) fun er hx=>?_⟩;have e:er=0:=by omega
 subst e;exact ⟨by omega,fun h=>absurd h (oM _)⟩
end
structure vn (p y z:Str) (sc:Scope):Prop where
 kind:sc.kind=.function
 co:sc.isCoroutine=false
 gen:sc.isGenerator=false
 ne:y ≠ z
 par:sc.names.lookup p=some .local
 Nl:sc.names.lookup y=some .free
 JJ:sc.names.lookup z=some .free
 vR:∀ z ∈ sc.names,z.2 ≠ .cell
 two:∀ b ∈ sc.names,b.2=.free->b.1=y\/b.1=z
noncomputable def pW (X:bb) (A:Around) (N:List Str) (q:Str) (scope:Scope) (f c':Addr) (cl:List (Str × Addr)) (s:Shared) (H:aw):bb where
 prog:=X.prog
 w:=X.w
 K:=X.K
 mg:=X.mg
 base:=X.base
 A:=A.deeper (II q scope s.heap.objs.size f (.ref c') cl)
 N:=N
 fQ:=s
 r1:=H
 env:=II q scope s.heap.objs.size f (.ref c') cl
 outer:=X.stack
 stack:=II q scope s.heap.objs.size f (.ref c') cl :: X.stack
 ex:=[]
 fn:=fun _=>false
 calm:=true
 eL:=[]
 d2:=fun _ _=>False
section
variable {X:bb} {A:Around} {ab:List (Addr × Obj)} {σ:St} {H:aw} {s:Shared} {k:Nat} {f c' bh b4:Addr} {q p y z:Str} {params:Arguments} {body:Expr} {scope:Scope} {v1 v2:V} {t:TE}
theorem Au {x:Str} (e:([(y,bh),(z,b4)]:List (Str × Addr)).lookup x=some c):(x=y/\c=bh)\/(x=z/\c=b4):=by
 rw [lu] at e;cases aa:x == y with
 | true=>rw [aa] at e;cases e;exact .inl ⟨eq_of_beq aa,rfl⟩
 | false=>
  rw [aa] at e;simp only [lu] at e;cases jL:x == z with
  | true=>rw [jL] at e;cases e;exact .inr ⟨eq_of_beq jL,rfl⟩
  | false=>rw [jL] at e;cases e
theorem akF (S:vn p y z scope) (ao:eO k A) (ks:A.frames=some X.stack) (J:Inv X ab σ H s) (ne:bh ≠ b4) (cM:H bh=none) (cU:H b4=none)
  (cz:∃ u,bX v1 u/\s.heap.IsCell bh (some u)) (cK:∃ u,bX v2 u/\s.heap.IsCell b4 (some u)) (x9:bX a u)
  (nS:af.Ns s.heap.objs.size (fun x=>[(p,u)].reverse.lookup x)) (aC:∀ b o,s.heap.get? b=some o->af.get? b=some o) :
  Inv (pW X A [p,y,z] q scope f c' [(y,bh),(z,b4)] s H) [] [some a,some v1,some v2] H { s with heap:=af,toks:=tk }:=by
 obtain ⟨NO,cN,lP,w',za⟩:=cz;obtain ⟨TN,gJ,sO,TX,NQ⟩:=cK;have T5:([(y,bh),(z,b4)]:List (Str × Addr)).lookup y=some bh:=by rw [lu,beq_self_eq_true]
 have Vy:([(y,bh),(z,b4)]:List (Str × Addr)).lookup z=some b4:=by
  rw [lu,show (z == y)=false from by simpa using eb S.ne];simp only [lu,beq_self_eq_true]
 have sl:∀ b:Addr,b ∉ (pW X A [p,y,z] q scope f c' [(y,bh),(z,b4)] s H).ex:=fun b z=>absurd (show b ∈ ([]:List Addr) from z) (by simp)
 refine ⟨⟨J.ok.mod,S.kind,rfl,rfl,bP _,fun x w c aq aH=>?_,fun x ah=>?_,fun x c hf e=>?_,fun _=>ao.hd,akR ks,.inr ⟨rfl,rfl⟩,fun b z=>absurd z (sl b),J.bs,cL J.ok.nA J.nU,fun b _ _=>sl b,fun b z=>absurd z (sl b),J.stack,J.Iw⟩,
  rfl,J.bare,hb.kept aC,⟨_,nS,fun i x an7 aq aH bO=>?_⟩,fun x c e=>?_,J.bu.fresh (bP _),fun x c e=>?_,fun z aN=>absurd (show z ∈ ([]:List (Addr × Obj)) from aN) (by simp),J.bu.kept aC,rfl⟩
 .rcases Au aq with ⟨rfl,rfl⟩ | ⟨rfl,rfl⟩ <;> rcases Au aH with ⟨rfl,h⟩ | ⟨rfl,h⟩
  .rfl
  .exact absurd h ne
  .exact absurd h.symm ne
  .rfl
 .have ah:scope.names.lookup x=some .cell\/scope.names.lookup x=some .free:=ah;rcases ah with ah | ah
  .exact absurd rfl (S.vR _ (vG ah))
  .rcases S.two _ (vG ah) rfl with h | h
   .have h:x=y:=h;exact ⟨bh,by rw [h];exact T5⟩
   .have h:x=z:=h;exact ⟨b4,by rw [h];exact Vy⟩
 .cases hf
 .match i,aq,aH with
  | 0,aq,aH=>
   cases aq;cases aH;exact ⟨u,x9,.inl ⟨S.par,by show pZ p [(p,u)]=some u;rw [lu,beq_self_eq_true]⟩⟩
  | 1,aq,aH=>
   cases aq;cases aH;exact ⟨NO,cN,.inr ⟨.inr S.Nl,bh,T5,⟨lP,aC _ _ w',za⟩⟩⟩
  | 2,aq,aH=>
   cases aq;cases aH;exact ⟨TN,gJ,.inr ⟨.inr S.JJ,b4,Vy,⟨sO,aC _ _ TX,NQ⟩⟩⟩
  | i + 3,aq,_=>simp [pW] at aq
 .rcases Au e with ⟨_,rfl⟩ | ⟨_,rfl⟩
  .exact ⟨_,lP,aC _ _ w',za⟩
  .exact ⟨_,sO,aC _ _ TX,NQ⟩
 .rcases Au e with ⟨_,rfl⟩ | ⟨_,rfl⟩
  .exact cM
  .exact cU
theorem MY (S:vn p y z scope) (ao:eO k A) (ks:A.frames=some X.stack) (J:Inv X ab σ H s) (ne:bh ≠ b4) (cM:H bh=none) (cU:H b4=none)
  (cz:∃ u,bX v1 u/\s.heap.IsCell bh (some u)) (cK:∃ u,bX v2 u/\s.heap.IsCell b4 (some u))
  (qN:H f=some (.ext (mP f q params body scope [(y,bh),(z,b4)] c'))) (gh:H c'=some (.ext (nC c' q)))
  (aa:∀ pm iZ,bindArgs (TS "<lambda>" q params body scope [(y,bh),(z,b4)] pm (.ref c') iZ) ⟨[u],[]⟩=pure [(p,u)]) (x9:bX a u)
  (nJ:bD (pW X A [p,y,z] q scope f c' [(y,bh),(z,b4)] s H) body t) (h:t [some a,some v1,some v2] H Q) :
  wpAny (model X.prog X.w) A (call (.ref f) [u]) (gb X ab σ Q) E s:=by
 have inner:codeAny (model X.prog X.w) A (.call (.ref f) ⟨[u],[]⟩) (Kg dk X.stack X.prog X.w H s Q HL) s:=by
  obtain ⟨⟨pm,iZ,aS⟩,_⟩:=J.bu _ _ qN;refine PySem.W.kla_callFunE ao.depth aS rfl S.co S.gen rfl (J.bu _ _ gh).1 ?_;rw [aa];refine wpAny_pure (wpAny_newFunctionEnv S.vR (fun z aN=>by rw [eY.mp aN];exact S.par) (fun af nS uL=>⟨J.nolimit.fresh _ uL,?_⟩) S.kind);have aC:∀ b o,s.heap.get? b=some o->af.get? b=some o:=fun b o e=>uL.extBut b o (f7 (d8 e)) (eJ _ e)
  show codeAny _ _ (.expr body (II q scope s.heap.objs.size f (.ref c') [(y,bh),(z,b4)])) _ _;have bz:=akF (f:=f) (c':=c') (q:=q) (tk:=s.toks + [(p,u)].length) S ao ks J ne cM cU cz cK x9 nS aC;refine PySem.W.kla_codeExpr (wpAny_mono (nJ [] _ _ _ _ bz h) (fun Bv aj aR=>?_) fun _ _ z=>kH z);obtain ⟨x,I,zu,bg,dB⟩:=aR;exact ⟨x,I,zu.os,zu.bare,zu.base,zu.bu,bg,dB⟩
 refine wpAny_call (codeAny_mono inner fun r aj aR=>?_);cases r with
 | error e=>exact aR.elim
 | ok eU=>
  cases eU with
  | ret u=>exact J.after aR
  | next=>exact kH aR
  | brk=>exact kH aR
  | cont=>exact kH aR
end
theorem ay.p {K:bk} (s:Do bL H I) (t:Tab H bL pos q) (h:ay K H a xs):ay K I a xs:=by
 rcases h with (h | ⟨o,h⟩) | h
 .exact .inl (.inl (s _ _ (t.ne h (fun _ z=>by cases z)) h))
 .exact .inl (.inr ⟨o,s _ _ (t.ne h (fun _ z=>by cases z)) h⟩)
 .exact .inr h
noncomputable def Ot (K:bk) (bL:Addr) (lZ:Pos) (q:Str) (i1 i2:Nat) (t:TE) (a9:fz):TE:=fun σ H Q=>a9 σ H fun vs H1=>∃ l bC v1 v2,∃ g:Int->Int,vs=[.ref l]/\ay K H1 l (n9 V.int bC)/\bC ≠ [] /\
 σ[i1]? = some (some v1)/\σ[i2]? = some (some v2)/\Tab H1 bL lZ q/\∀ av,Do bL H1 av->(aJ H1->aJ av)->Tab av bL lZ q ->
  (∀ n ∈ bC,t [some (.int n),some v1,some v2] av fun x I=>x=.int (g n)/\I=av)/\∀ (i:Nat) m,bC[i]? = some m->(∀ (j:Nat) n,bC[j]? = some n->g m <= g n/\(j < i->g m < g n))->Q (.int m) av
theorem Y4 {k:Nat} {t:TE} {p bl pos lZ:Pos}
  (aB:X.calm=true) (a8:kX X "min") (hm:X.mg "min"=none) (aP:hy X [a] a9) (T:FW X c bL) (ao:eO (k + 1) X.A) (S:vn pr y z scope) (af:X.env.cells.lookup y=some bh) (ak:X.env.cells.lookup z=some b4) (wd:defaultsOf params X.env=([],[])) (mT:closureFor scope X.env=pure [(y,bh),(z,b4)])
  (cb:X.env.scope.names.lookup y=some .cell) (dT:X.env.scope.names.lookup z=some .cell) (GN:X.N[i1]? = some y) (FV:X.N[i2]? = some z)
  (aa:∀ c' pm iZ u,bindArgs (TS "<lambda>" (X.env.qual ++ "<lambda>") params body scope [(y,bh),(z,b4)] pm (.ref c') iZ) ⟨[u],[]⟩=pure [(pr,u)])
  (nJ:∀ f c' s H,∃ t',bD (pW X X.A.in1 [pr,y,z] (X.env.qual ++ "<lambda>") scope f c' [(y,bh),(z,b4)] s H) body t'/\t'=t)
  (he:∀ pos,backTo pos (starEach [a] X.env)=(false,eval a X.env) :: backTo pos (starEach [] X.env):=by intro _;rfl) (c9:∀ pos,(backTo pos (starEach [a] X.env)).any (·.1)=false:=by intro _;rfl) :
  bD X (.Call (.Name "min" p) [a] [⟨some "key",.Lambda params body scope lZ,bl⟩] pos) (Ot X.K bL lZ (X.env.qual ++ "<lambda>") i1 i2 t a9):=by
 intro ab s σ H Q J h;refine wpAny_Call_Name_kw (r2 J a8 hm (show bootBuiltins "min"=some (.builtin "min") by ac_nf) ?_);refine callWith_kw (id := "min") (bJ (aP pos ab s σ H _ J h) fun us s1 da=>?_) (he:=he pos) (hplain:=c9 pos);obtain ⟨vs,H1,aZ,cN,bS⟩:=da;obtain ⟨l,bC,v1,v2,g,rfl,aR,cj,aq,aH,bG,q⟩:=bS;refine kws_cons (Tf aZ T bG mT wd fun f c' av s2 bV bq bx qc qN gh h8=>kws_nil ?_);obtain ⟨kQ,Jz⟩:=q av bq bx qc;have vp:=aR.p bq bG;have cell:∀ {ab:List (Addr × Obj)} {s:Shared} (bz:Inv X ab σ av s) {i:Nat} {x:Str} {v:V} {cl:Addr},X.N[i]? = some x->σ[i]? = some (some v)->X.env.scope.names.lookup x=some .cell->X.env.cells.lookup x=some cl->∃ u,bX v u/\s.heap.IsCell cl (some u):=by
  intro ab s bz i x v cl bj ev ah qq;obtain ⟨m,aX,Jn⟩:=bz.loc;obtain ⟨u,eZ,lo⟩:=Jn i x v bj ev (.inr (.inl ah));have aC:X.env.kindOf x=some .cell:=ah;rcases lo with ⟨w,_⟩ | ⟨_,abF,dC,ea⟩
  .rw [aC] at w;cases w
  .rw [qq] at dC;cases dC;exact ⟨u,eZ,ea⟩
 have Fx:bh ≠ b4:=fun w=>S.ne (J.ok.inj _ _ _ af (by rw [w];exact ak))
 cases cN with
 | cons r kb=>
  cases kb;cases r;have GV:0 < bC.length:=BX.mpr cj;refine agy (n:=bC.length) (P:=fun i v=>∃ t,v=.int (bC.getD i 0) t) (fun i=>g (bC.getD i 0)) (aZ.ok.hd aB) bV (fun ab s bz=>?_) GV (fun i v ai aF ab s bz=>?_) fun i v aj ai aF me bz=>?_
  .obtain ⟨a7,cH,pl,aN⟩:=bz.list vp;have aL:=cH.length;rw [aW] at aL;refine ⟨a7,aL.symm,fun i v aF=>?_,pl.isList⟩;have ai:i < bC.length:=by have:=(b6.mp aF).1;omega
   obtain ⟨w,hw,gE⟩:=cH.get (show (bC.map V.int)[i]? = some (.int bC[i]) by rw [df,a' ai];rfl);rw [aF] at hw;cases hw;rw [jQ,a' ai];exact gE
  .obtain ⟨t',rA,rfl⟩:=nJ f c' s av;have hm:bC.getD i 0 ∈ bC:=by rw [jQ,a' ai];exact g6 ai
   exact MY (a:=.int (bC.getD i 0)) S ao.in1 aZ.ok.frames bz Fx (bz.j1 _ _ af) (bz.j1 _ _ ak) (cell bz GN aq cb af) (cell bz FV aH dT ak) qN gh (fun pm iZ=>aa c' pm iZ v) aF rA (kQ _ hm)
  .obtain ⟨tk,rfl⟩:=aF;refine ⟨.int (bC.getD i 0),av,bz,⟨tk,rfl⟩,Jz i _ (by rw [jQ,a' ai];rfl) fun j n aG=>?_⟩;have gv:j < bC.length:=(b6.mp aG).1;have e:bC.getD j 0=n:=by rw [jQ,aG];rfl
   have:=me j gv;rw [e] at this;exact this
theorem b3.U7 {w:World} {K:bk} {mg:Str->Option Value} {base:Heap} {x qual:Str} {st:Stmt} {fd:FuncData} {N ps:List Str} {k:Nat} (F:b3 K x qual st f fd) (S:Db N ps (bt st)) (len:∀ vs H Q E,sp vs H Q E->vs.length=ps.length)
  (nJ:∀ (fl:Value),fd.code=fl->∀ (A:Around) (outer:List Env) (s:Shared) (H:aw) (vs:List V) (Q:c4) (E:f5),eO k (A.deeper (envOfC qual (bt st) s.heap.objs.size f fl))->sp vs H Q E ->
   ∃ t,jx (ri dk P w K mg base N qual (bt st) f fl A outer s H E).sJ (ro st) t/\t { cT:=fun _ I=>Q .cn I,lL:=Q } (start N vs) H):cD P w K mg base dk (k + 1) f fd ps sp:=by
 obtain ⟨oP,fi,dQ,doc,pm,an,fl,fv,tI,rfl,lk,jh⟩:=F.ex;refine Ph lk jh S len fun A outer s H vs Q E ao jN=>?_
 obtain ⟨t,h,q⟩:=nJ fl rfl A outer s H vs Q E ao jN;exact ⟨t,h.sJ,q⟩
def HT (_:Addr):Prop:=True
noncomputable abbrev L8 {P:Addr} (_:HT P):Addr:=P
noncomputable def VL (st:Stmt):Expr:=match (ro st).getLast? with
 | some (.Return (some (.Call _ _ [⟨_,e,_⟩] _)) _)=>e
 | _=>.Constant .none 0 ⟨0,0,0,0⟩
noncomputable def F0 (t:ey):ey:=fun D σ H=>∃ d kvs,H d=some (.bW kvs)/\t { cT:=fun au I=>∃ o,I d=some (.e2 o (.bW kvs))/\D.cT au (upd I d (.bW kvs)),lL:=fun _ _=>False } σ H
theorem aeq {st:Stmt} {t:ey} (h:hA X st t):hA X st (F0 t):=by
 intro ab s σ H D J q;obtain ⟨d,kvs,m6,q⟩:=q;refine bJ (h ab s σ H _ J q) fun f s1 aR=>?_
 cases f with
 | next=>
  obtain ⟨fk,H1,aZ,o,aq,bS⟩:=aR;refine ⟨fk,_,UW aZ aq (fun d6 u z=>?_),bS⟩;have:=J.base.mS d d6 u z;rw [m6] at this;cases this
 | ret u=>obtain ⟨_,_,_,_,_,z⟩:=aR;exact z.elim
 | brk=>obtain ⟨_,_,_,z⟩:=aR;exact z.elim
 | cont=>obtain ⟨_,_,_,z⟩:=aR;exact z.elim
theorem dG (t u:ey) (D:hV) (σ:St) (H:aw):KL t u D σ H=(t { D with cT:=u D } σ H):=rfl
theorem Vd (K:bk):N9 K a9 gk f D σ H=(gk σ H fun y H1=>a9 σ H1 fun x av=>fG x fun a=>∃ C az a3,av a=some (.ins C az a3)/\hu K C/\dD K C f/\a3.length < 1000 /\
 D.cT σ (upd av a (.ins C az (de f y a3)))):=rfl
theorem Rp (K:bk) (nq:V->V->aw->c4->Prop):OA K a9 gk nq f D σ H=(a9 σ H fun x H1=>∃ a C az a3 v,x=.ref a/\H1 a=some (.ins C az a3)/\hu K C/\dD K C f/\a3.lookup f=some v /\
 gk σ H1 fun y av=>nq v y av fun z br=>∃ ho o7,br a=some (.ins C ho o7)/\o7.length < 1000/\D.cT σ (upd br a (.ins C ho (de f z o7)))):=rfl
theorem Uk (t:fz):Lf C m sp dvs E a9 t σ H Q=(a9 σ H fun x H1=>fG x fun a=>∃ az a3,H1 a=some (.ins C az a3)/\a3.lookup m=none /\
 t σ H1 fun vs av=>sp (x :: (vs ++ dvs)) av Q E):=rfl
theorem Pc (t:fz):Na C sp dvs E t σ H Q=(t σ H fun vs H1=>∀ x az,H1 x=none->H1 az=none->az ≠ x ->
 sp (.ref x :: (vs ++ dvs)) (upd (upd H1 az (.own x)) x (.ins C az [])) (fun v av=>v=.cn/\Q (.ref x) av) E):=rfl
theorem M_ (K:bk) (x:V) (lo:Option Int) (ai:Option Int) (H:aw) (Q:c4):BT K x lo ai H Q=(∃ a xs,x=.ref a/\dR K H a xs /\
 ¬ (eM.c7 xs.length 0 lo=0/\eM.c7 xs.length xs.length ai=xs.length)/\∀ p,H p=none->Q (.ref p) (upd H p (.tup (iM xs lo ai)))):=rfl
theorem PR (gd ty tn:TE):So gd ty tn σ H Q=(gd σ H fun x H1=>∃ a,x=.ref a/\Hr H1 a/\ty σ H1 fun y av=>tn σ av fun z br=>∃ kvs k,br a=some (.bW kvs)/\y=dQ k /\
 (∀ v,dn kvs k=some v->Q v (upd br a (.bW (q_ kvs k))))/\(dn kvs k=none->Q z br)):=rfl
theorem Uh (t:fz):SV oV m pK E a9 t σ H Q=(a9 σ H fun x H1=>∃ a C az a3,x=.ref a/\H1 a=some (.ins C az a3)/\oV C/\a3.lookup m=none /\
 t σ H1 fun vs av=>pK C (x :: vs) av Q E):=rfl
theorem Ui (K:bk) (t:TE):Ot K bL lZ q i1 i2 t a9 σ H Q=(a9 σ H fun vs H1=>∃ l bC v1 v2,∃ g:Int->Int,vs=[.ref l]/\ay K H1 l (n9 V.int bC)/\bC ≠ [] /\
 σ[i1]? = some (some v1)/\σ[i2]? = some (some v2)/\Tab H1 bL lZ q/\∀ av,Do bL H1 av->(aJ H1->aJ av)->Tab av bL lZ q ->
  (∀ n ∈ bC,t [some (.int n),some v1,some v2] av fun x I=>x=.int (g n)/\I=av)/\∀ (i:Nat) m,bC[i]? = some m->(∀ (j:Nat) n,bC[j]? = some n->g m <= g n/\(j < i->g m < g n))->Q (.int m) av):=rfl
def dZ (bz:kc) (g:gY) (bG:ey) (D:hV) (σ:St) (H:aw):Prop:=∃ W:Nat->Nat->St->aw->Prop,(∃ m,W 0 m σ H)/\∀ i m σ H,W i m σ H ->
 (bz.stop i H/\D.cT σ H)\/(bz.go i H/\∃ N:St->aw->Prop,(∀ au I,N au I->∃ dP,dP < m/\W (i + 1) dP au I)/\∀ x I,bz.ry i H x I->g x σ I fun cw av=>bG { D with cT:=N,fv:=N,cP:=D.cT } cw av)
theorem Ru:T8 hI g bG D σ H=hI σ H fun bz H1=>dZ bz g bG D σ H1:=rfl
def c1 (bz:kc) (g:gY) (dr:TT) (bR:TE) (dq:St) (Q:c4) (H:aw):Prop:=∃ W:Nat->Nat->List V->aw->Prop,(∃ m,W 0 m [] H)/\tf bz g dr bR dq Q W
theorem N7:Mc hI g dr bR sel σ H Q=hI σ H fun bz H1=>c1 bz g dr bR (nD sel σ) Q H1:=rfl
theorem UQ:VP a9 σ H R=(a9 σ H fun vs H1=>m9 vs fun x=>gW x fun j=>-4611686018427387904 <= j/\j < 4611686018427387904/\R (l0 0 j.toNat) H1):=rfl
theorem SJ:Pd a9 σ H R=(a9 σ H fun vs H1=>∃ i j:Int,vs=[.int i,.int j]/\(-4611686018427387904 <= i/\i < 4611686018427387904/\-4611686018427387904 <= j/\j < 4611686018427387904)/\R (l0 i (j - i).toNat) H1):=rfl
theorem abI (f:α->β):[].map f=[]:=rfl
theorem FS (f:α->β) (a:α) (l:List α):(a :: l).map f=f a :: l.map f:=rfl
theorem agZ (l:List α):[] ++ l=l:=rfl
theorem ZX (a:α) (l r:List α):(a :: l) ++ r=a :: (l ++ r):=rfl
theorem Xp (a b:α) (l:List α):(a :: l).set 0 b=b :: l:=rfl
theorem Zu (a b:α) (l:List α) (n:Nat):(a :: l).set (n + 1) b=a :: l.set n b:=rfl
theorem abC (a:α) (l:List α):(a :: l)[0]? = some a:=rfl
theorem Yh (a:α) (l:List α) (n:Nat):(a :: l)[n + 1]? = l[n]?:=rfl
theorem wS:([]:List α).length=0:=rfl
theorem ai4 (a:α) (l:List α):(a :: l).length=l.length + 1:=rfl
theorem aaO (f:α->Option β):(none:Option α).bind f=none:=rfl
theorem ag1 (f:α->Option β) (a:α):(some a).bind f=f a:=rfl
theorem amY (a:Option α):(some a).join=a:=rfl
theorem alZ:(none:Option (Option α)).join=none:=rfl
theorem Rb (sel:List (Option Nat)) (σ:St):nD sel σ=sel.map fun o=>o.bind fun j=>(σ[j]?).join:=rfl
theorem dh {t u:ey} (b:Bool) (aB:∀ Q:Bool->aw->Prop,Q b H->c σ H Q) (af:b=true->t D σ H) (ak:b=false->u D σ H):HR c t u D σ H:=by
 refine aB _ ?_;cases b with
 | true=>exact af rfl
 | false=>exact ak rfl
theorem F4 {t u:ey} (R:Bool->aw->Prop) (aB:∀ Q:Bool->aw->Prop,(∀ b I,R b I->Q b I)->c σ H Q) (af:∀ I,R true I->t D σ I) (ak:∀ I,R false I->u D σ I):HR c t u D σ H:=by
 refine aB _ fun b I r=>?_
 cases b with
 | true=>exact af I r
 | false=>exact ak I r
theorem s9 {t:ey} {D:hV} {σ:St} {H:aw} (R:St->aw->Prop) (h:∀ f3:hV,(∀ σ H,R σ H->f3.cT σ H)->f3.lL=D.lL->f3.cP=D.cP->f3.fv=D.fv->t f3 σ H) (gA:∀ σ H,R σ H->D.cT σ H):t D σ H:=h D gA rfl rfl rfl
theorem Kb {t:ey} {D:hV} {σ:St} {H:aw} (R:St->aw->Prop) (h:∀ f3:hV,(∀ σ H,R σ H->f3.cT σ H)->t f3 σ H) (gA:∀ M,M=D.cT->∀ σ H,R σ H->M σ H):t D σ H:=h D (gA _ rfl)
theorem UR {p:Prop} (h:∀ q,q=p->q):p:=h p rfl
theorem yN {t:ey} {D:hV} {σ:St} {H:aw} (R:St->aw->Prop) (h:∀ f3:hV,(∀ σ H,R σ H->f3.cT σ H)->t f3 σ H) (gA:∀ σ H,R σ H->D.cT σ H):t D σ H:=h D gA
theorem LU {t u:ey} {D:hV} {σ:St} {H:aw} (R:St->aw->Prop) (h:∀ f3:hV,(∀ σ H,R σ H->f3.cT σ H)->t f3 σ H) (gA:∀ M,M=u D->∀ σ H,R σ H->M σ H):KL t u D σ H:=h { D with cT:=u D } (gA _ rfl)
theorem ame (v:V) (aB:∀ Q:c4,Q v H->bR σ H Q) (h:D.lL v H):Bt bR D σ H:=aB _ h
theorem pY (x y:Str):(x ++ y).length=x.length + y.length:=by
 show (x.cps ++ y.cps).size=_;rw [Array.size_append];rfl
theorem dZ.range {lo:Int} {n:Nat} {g:gY} {bG:ey} {D:hV} {σ:St} {H:aw} (Pv:Nat->St->aw->Prop) (h0:Pv 0 σ H)
  (ax:∀ i σ H,i < n->Pv i σ H->g (.int (lo + i)) σ H fun cw av=>bG { D with cT:=Pv (i + 1),fv:=Pv (i + 1),cP:=D.cT } cw av) (hd:∀ σ H,Pv n σ H->D.cT σ H):dZ (l0 lo n) g bG D σ H:=ahJ Pv h0 ax hd
theorem dZ.list {K:bk} (Pv:Nat->St->aw->Prop) (h0:Pv 0 σ H) (aL:∀ i σ H,i <= xs.length->Pv i σ H->ay K H a xs)
  (ax:∀ i x σ H,xs[i]? = some x->Pv i σ H->g x σ H fun cw av=>bG { D with cT:=Pv (i + 1),fv:=Pv (i + 1),cP:=D.cT } cw av) (hd:∀ σ H,Pv xs.length σ H->D.cT σ H):dZ (oD K a) g bG D σ H:=X4 Pv h0 aL ax hd
theorem c1.list {K:bk} (Pv:Nat->List V->aw->Prop) (aN:xs.length <= sizeLine) (h0:Pv 0 [] H) (aL:∀ i ys H,i <= xs.length->Pv i ys H->ay K H a xs/\ys.length <= i)
  (ax:∀ i x ys H,xs[i]? = some x->Pv i ys H->oX Pv g dr bR dq i x ys H) (hd:∀ ys H,Pv xs.length ys H->∀ p,H p=none->Q (.ref p) (upd H p (.lst ys))):c1 (oD K a) g dr bR dq Q H:=acE Pv aN h0 aL ax hd
theorem c1.a7 (Pv:Nat->List V->aw->Prop) (aN:xs.length <= sizeLine) (h0:Pv 0 [] H) (aL:∀ i ys H,i <= xs.length->Pv i ys H->ys.length <= i)
  (ax:∀ i x ys H,xs[i]? = some x->Pv i ys H->oX Pv g dr bR dq i x ys H) (hd:∀ ys H,Pv xs.length ys H->∀ p,H p=none->Q (.ref p) (upd H p (.lst ys))):c1 (yV xs) g dr bR dq Q H:=aiQ Pv aN h0 aL ax hd
theorem c1.range {lo:Int} {n:Nat} {g:gY} {dr:TT} {bR:TE} {dq:St} {Q:c4} {H:aw} (Pv:Nat->List V->aw->Prop) (aN:n <= sizeLine) (h0:Pv 0 [] H) (aL:∀ i ys H,i <= n->Pv i ys H->ys.length <= i)
  (ax:∀ i ys H,i < n->Pv i ys H->oX Pv g dr bR dq i (.int (lo + i)) ys H) (hd:∀ ys H,Pv n ys H->∀ p,H p=none->Q (.ref p) (upd H p (.lst ys))):c1 (l0 lo n) g dr bR dq Q H:=Ya Pv aN h0 aL ax hd
theorem aia {α β:Type} {xs:List α} {i:Nat} {x:α} (f:α->β) (h:xs[i]? = some x):(xs.take (i + 1)).map f=(xs.take i).map f ++ [f x]:=by
 rw [m7,h,ed];rfl
theorem c1.amv {xs:List V} {g:gY} {bR:TE} {dq:St} {Q:c4} {H:aw} (f:V->V) (aN:xs.length <= sizeLine) (ax:∀ (i:Nat) (x:V) (N:V->aw->Prop),xs[i]? = some x->N (f x) H->g x dq H fun cw av=>Sub dq cw/\bR cw av N)
  (hd:∀ p,H p=none->Q (.ref p) (upd H p (.lst (xs.map f)))):c1 (yV xs) g qM bR dq Q H:=by
 refine c1.a7 (fun i ys I=>I=H/\ys=(xs.take i).map f) aN ⟨rfl,rfl⟩ (fun i ys I ai ⟨_,e⟩=>?_) (fun i x ys I ah ⟨aq,aH⟩ N bj=>?_) (fun ys I ⟨aq,aH⟩ p ar=>?_)
 .rw [e,aW,ha];omega
 .subst aq;exact ax i x (fun y cJ=>N (ys ++ [y]) cJ) ah (bj _ _ ⟨rfl,by rw [aH,aia f ah]⟩)
 .subst aq;rw [aH,il];exact hd p ar
theorem c1.Us {lo:Int} {n:Nat} {g:gY} {bR:TE} {dq:St} {Q:c4} {H:aw} (f:Nat->V) (aN:n <= sizeLine) (ax:∀ (i:Nat) (N:V->aw->Prop),i < n->N (f i) H->g (.int (lo + i)) dq H fun cw av=>Sub dq cw/\bR cw av N)
  (hd:∀ p,H p=none->Q (.ref p) (upd H p (.lst ((eV n).map f)))):c1 (l0 lo n) g qM bR dq Q H:=by
 refine c1.range (fun i ys I=>I=H/\ys=(eV i).map f) aN ⟨rfl,rfl⟩ (fun i ys I ai ⟨_,e⟩=>?_) (fun i ys I ai ⟨aq,aH⟩ N bj=>?_) (fun ys I ⟨aq,aH⟩ p ar=>?_)
 .rw [e,aW,rY];exact bP _
 .subst aq;exact ax i (fun y cJ=>N (ys ++ [y]) cJ) ai (bj _ _ ⟨rfl,by rw [aH,vL,ed];rfl⟩)
 .subst aq;rw [aH];exact hd p ar
theorem c1.akb {K:bk} (f:V->fX) (aL:ay K H a xs) (aN:xs.length <= sizeLine) (aX:∀ x,qg (f x)=true)
  (ax:∀ (i:Nat) (x:V) (H1:aw) (N:V->aw->Prop),xs[i]? = some x->aK H H1->(aJ H->aJ H1)->(∀ q,H1 q=none->N (.ref q) (upd H1 q (f x)))->g x dq H1 fun cw av=>Sub dq cw/\bR cw av N)
  (hd:∀ (qs:List Addr) (H1:aw),aK H H1->(aJ H->aJ H1)->qs.length=xs.length->(∀ (j:Nat) (q:Addr) (x:V),qs[j]? = some q->xs[j]? = some x->H1 q=some (f x)/\H q=none)->∀ p,H1 p=none->Q (.ref p) (upd H1 p (.lst (qs.map V.ref)))):c1 (oD K a) g qM bR dq Q H:=by
 refine c1.list (fun i ys I=>∃ qs:List Addr,ys=qs.map V.ref/\qs.length=i/\aK H I/\(aJ H->aJ I)/\∀ (j:Nat) (q:Addr) (x:V),qs[j]? = some q->xs[j]? = some x->I q=some (f x)/\H q=none) aN
  ⟨[],rfl,rfl,aK.refl H,id,fun j q x h _=>by simp at h⟩ ?_ ?_ ?_
 .rintro i ys I ai a_;refine UR fun th aT=>?_
  obtain ⟨qs,e,aH,bq,_,_⟩:=a_;subst aT;exact ⟨aL.same bq,by rw [e,aW];omega⟩
 .rintro i x ys I ah ⟨qs,aq,aH,bq,bx,al⟩ N bj;refine ax i x I (fun y cJ=>N (ys ++ [y]) cJ) ah bq bx fun q aR=>bj _ _ ⟨qs ++ [q],by rw [aq,ed];rfl,by rw [cZ,aH];rfl,bq.gz (bq.free aR),fun n=>(bx n).upd (aX x),fun j dB eu af ak=>?_⟩
  by_cases aG:j < qs.length
  .rw [pe aG] at af;obtain ⟨f9,eg⟩:=al j dB eu af ak;exact ⟨by rw [aM (dm f9 aR)];exact f9,eg⟩
  .rw [nz (by omega)] at af;have qB:j - qs.length=0:=by
    cases b2:j - qs.length with
    | zero=>rfl
    | succ n=>rw [b2] at af;simp at af
   rw [qB] at af;have bO:q=dB:=by simpa using af
   subst bO;have d_:j=i:=by omega
   subst d_;rw [ah] at ak;cases ak;exact ⟨aQ,bq.free aR⟩
 .rintro ys I ⟨qs,aq,aH,bq,bx,al⟩ p ar;subst aq;exact hd qs I bq bx aH al p ar
theorem dZ.of (Pv:Nat->St->aw->Prop) (h0:Pv 0 σ H) (uh:∀ i σ H,i < n->Pv i σ H->bz.go i H) (fS:∀ σ H,Pv n σ H->bz.stop n H)
  (ax:∀ i σ H x I,i < n->Pv i σ H->bz.ry i H x I->g x σ I fun cw av=>bG { D with cT:=Pv (i + 1),fv:=Pv (i + 1),cP:=D.cT } cw av) (hd:∀ σ H,Pv n σ H->D.cT σ H):dZ bz g bG D σ H:=by
 refine ⟨fun i m σ H=>m=n - i/\i <= n/\Pv i σ H,⟨n,by simp,fh _,h0⟩,?_⟩;rintro i m σ H ⟨rfl,ai,p⟩;by_cases dw:i < n
 .exact .inr ⟨uh i σ H dw p,Pv (i + 1),fun au I hO=>⟨n - (i + 1),by omega,rfl,dw,hO⟩,fun x I y=>ax i σ H x I dw p y⟩
 .have e:i=n:=by omega
  subst e;exact .inl ⟨fS σ H p,hd σ H p⟩
theorem c1.of (Pv:Nat->List V->aw->Prop) (aN:n <= sizeLine) (h0:Pv 0 [] H) (uh:∀ i ys H,i < n->Pv i ys H->bz.go i H) (fS:∀ ys H,Pv n ys H->bz.stop n H) (aL:∀ i ys H,i < n->Pv i ys H->ys.length <= i)
  (ax:∀ i ys H x I,i < n->Pv i ys H->bz.ry i H x I->oX Pv g dr bR dq i x ys I) (hd:∀ ys H,Pv n ys H->∀ p,H p=none->Q (.ref p) (upd H p (.lst ys))):c1 bz g dr bR dq Q H:=by
 refine ⟨fun i m ys H=>m=n - i/\i <= n/\Pv i ys H,⟨n,by simp,fh _,h0⟩,?_⟩;rintro i m ys H ⟨rfl,ai,p⟩;by_cases dw:i < n
 .have z5:=aL i ys H dw p;refine .inr ⟨uh i ys H dw p,by omega,fun x I y=>?_⟩;exact ax i ys H x I dw p y (fun j_ I=>∃ dP,dP < n - i/\dP=n - (i + 1)/\i + 1 <= n/\Pv (i + 1) j_ I) fun j_ I r=>⟨n - (i + 1),by omega,rfl,dw,r⟩
 .have e:i=n:=by omega
  subst e;exact .inl ⟨fS ys H p,hd ys H p⟩
section
variable {K:bk} {a b:Addr} {xs ys:List V} {g:gY} {bG:ey} {D:hV} {σ dq:St} {H:aw} {dr:TT} {bR:TE} {Q:c4}
theorem dZ.enum (Pv:Nat->St->aw->Prop) (h0:Pv 0 σ H) (aL:∀ i σ H,i <= xs.length->Pv i σ H->ay K H a xs)
  (ax:∀ i x σ H p,xs[i]? = some x->Pv i σ H->H p=none->g (.ref p) σ (upd H p (.tup [.int i,x])) fun cw av=>bG { D with cT:=Pv (i + 1),fv:=Pv (i + 1),cP:=D.cT } cw av) (hd:∀ σ H,Pv xs.length σ H->D.cT σ H):dZ (B_ K a) g bG D σ H:=by
 refine dZ.of (n:=xs.length) Pv h0 (fun i σ H ai p=>⟨xs,xs[i],aL i σ H (mA ai) p,by simp [ai]⟩) (fun σ H p=>⟨xs,aL _ σ H (bP _) p,bP _⟩) (fun i σ H v I ai p y=>?_) hd;obtain ⟨q,x,aR,rfl,ah,rfl⟩:=y;exact ax i x σ H q (ah xs (aL i σ H (mA ai) p)) p aR
theorem dZ.zip (Pv:Nat->St->aw->Prop) (h0:Pv 0 σ H) (aL:∀ i σ H,i <= xs.length->Pv i σ H->ay K H a xs/\ay K H b ys) (n:Nat) (aX:n=min xs.length ys.length)
  (ax:∀ i x y σ H p,xs[i]? = some x->ys[i]? = some y->Pv i σ H->H p=none->g (.ref p) σ (upd H p (.tup [x,y])) fun cw av=>bG { D with cT:=Pv (i + 1),fv:=Pv (i + 1),cP:=D.cT } cw av) (hd:∀ σ H,Pv n σ H->D.cT σ H):dZ (BL K a b) g bG D σ H:=by
 subst aX;refine dZ.of (n:=min xs.length ys.length) Pv h0 (fun i σ H ai p=>?_) (fun σ H p=>?_) (fun i σ H v I ai p y=>?_) hd
 .obtain ⟨f9,eg⟩:=aL i σ H (by omega) p;exact ⟨xs,ys,xs[i],ys[i],f9,eg,by rw [a' (by omega)],by rw [a' (by omega)]⟩
 .obtain ⟨f9,eg⟩:=aL _ σ H (by omega) p;exact ⟨xs,ys,f9,eg,by omega⟩
 .obtain ⟨q,x,y,aR,rfl,ah,a6,rfl⟩:=y;obtain ⟨f9,eg⟩:=aL i σ H (by omega) p;exact ax i x y σ H q (ah xs f9) (a6 ys eg) p aR
theorem c1.enum (Pv:Nat->List V->aw->Prop) (aN:xs.length <= sizeLine) (h0:Pv 0 [] H) (aL:∀ i ys H,i <= xs.length->Pv i ys H->ay K H a xs/\ys.length <= i)
  (ax:∀ i x ys H p,xs[i]? = some x->Pv i ys H->H p=none->oX Pv g dr bR dq i (.ref p) ys (upd H p (.tup [.int i,x]))) (hd:∀ ys H,Pv xs.length ys H->∀ p,H p=none->Q (.ref p) (upd H p (.lst ys))):c1 (B_ K a) g dr bR dq Q H:=by
 refine c1.of (n:=xs.length) Pv aN h0 (fun i ys H ai p=>⟨xs,xs[i],(aL i ys H (mA ai) p).1,by simp [ai]⟩) (fun ys H p=>⟨xs,(aL _ ys H (bP _) p).1,bP _⟩) (fun i ys H ai p=>(aL i ys H (mA ai) p).2) (fun i zs H v I ai p y=>?_) hd;obtain ⟨q,x,aR,rfl,ah,rfl⟩:=y;exact ax i x zs H q (ah xs (aL i zs H (mA ai) p).1) p aR
theorem akn {p:Addr} {x y:V} (h:dR K H p [x,y]) (q:R ((σ.set i (some x)).set j (some y)) H):vb K 2 (tq (gL i) (tq (gL j) xg)) (.ref p) σ H R:=
 ⟨p,_,rfl,h,rfl,x,_,rfl,y,_,rfl,rfl,q⟩
theorem tA {p:Addr} {x y:V} (q:R ((σ.set i (some x)).set j (some y)) (upd H p (.tup [x,y]))):vb K 2 (tq (gL i) (tq (gL j) xg)) (.ref p) σ (upd H p (.tup [x,y])) R:=
 akn (.inl (.inl aQ)) q
end
theorem Sub.P_ {v w:Option V}:Sub (none :: none :: r) (v :: w :: r):=by
 refine ⟨rfl,fun i u h=>?_⟩
 match i with
 | 0=>cases h
 | 1=>cases h
 | i + 2=>exact h
theorem Sub.vX {v w z:Option V}:Sub (none :: none :: none :: r) (v :: w :: z :: r):=by
 refine ⟨rfl,fun i u h=>?_⟩
 match i with
 | 0=>cases h
 | 1=>cases h
 | 2=>cases h
 | i + 3=>exact h
theorem c1.ml {K:bk} (aL:ay K H a xs) (aN:xs.length <= sizeLine) (he:zs.length=xs.length)
  (ax:∀ (i:Nat) (x z:V) (N:V->aw->Prop),xs[i]? = some x->zs[i]? = some z->N z H->g x dq H fun cw av=>Sub dq cw/\bR cw av N) (hd:∀ p,H p=none->Q (.ref p) (upd H p (.lst zs))):c1 (oD K a) g qM bR dq Q H:=by
 refine c1.list (fun i ys I=>I=H/\ys=zs.take i) aN ⟨rfl,rfl⟩ (fun i ys I ai ⟨eK,e⟩=>?_) (fun i x ys I ah ⟨aq,aH⟩ N bj=>?_) (fun ys I ⟨aq,aH⟩ p ar=>?_)
 .subst eK;exact ⟨aL,by rw [e,ha];omega⟩
 .subst aq;have ai:i < zs.length:=by rw [he];exact (b6.mp ah).1
  have g0:zs[i]? = some zs[i]:=a' ai;exact ax i x zs[i] (fun y cJ=>N (ys ++ [y]) cJ) ah g0 (bj _ _ ⟨rfl,by rw [aH,m7,g0];rfl⟩)
 .subst aq;rw [aH,<- he,il];exact hd p ar
theorem c1.YN {K:bk} (aL:dR K H a xs) (aN:xs.length <= sizeLine) (he:zs.length=xs.length)
  (ax:∀ (i:Nat) (x z:V) (N:V->aw->Prop),xs[i]? = some x->zs[i]? = some z->N z H->g x dq H fun cw av=>Sub dq cw/\bR cw av N) (hd:∀ p,H p=none->Q (.ref p) (upd H p (.lst zs))):c1 (Bd K a) g qM bR dq Q H:=by
 refine aeU (xs:=xs) (fun i ys I=>I=H/\ys=zs.take i) aN ⟨rfl,rfl⟩ (fun i ys I ai ⟨eK,e⟩=>?_) (fun i x ys I ah ⟨aq,aH⟩ N bj=>?_) (fun ys I ⟨aq,aH⟩ p ar=>?_)
 .subst eK;exact ⟨aL,by rw [e,ha];omega⟩
 .subst aq;have ai:i < zs.length:=by rw [he];exact (b6.mp ah).1
  have g0:zs[i]? = some zs[i]:=a' ai;exact ax i x zs[i] (fun y cJ=>N (ys ++ [y]) cJ) ah g0 (bj _ _ ⟨rfl,by rw [aH,m7,g0];rfl⟩)
 .subst aq;rw [aH,<- he,il];exact hd p ar
theorem c1.u1 {K:bk} {a:Addr} {xs:List V} {ss:List (Option V)} {g:gY} {dr:TT} {bR:TE} {dq:St} {Q:c4} {H:aw} (aL:ay K H a xs) (aN:xs.length <= sizeLine) (he:ss.length=xs.length)
  (ax:∀ (i:Nat) (x:V) (o:Option V) (ys:List V) (N:List V->aw->Prop),xs[i]? = some x->ss[i]? = some o->N (ys ++ o.toList) H->g x dq H fun cw av=>Sub dq cw/\dr cw av fun c br=>if c=true then bR cw br fun y cJ=>N (ys ++ [y]) cJ else N ys br)
  (hd:∀ p,H p=none->Q (.ref p) (upd H p (.lst (ss.flatMap uE)))):c1 (oD K a) g dr bR dq Q H:=by
 refine c1.list (fun i ys I=>I=H/\ys=(ss.take i).flatMap uE/\ys.length <= i) aN ⟨rfl,rfl,bP _⟩ (fun i ys I ai ⟨eK,e,bH⟩=>?_) (fun i x ys I ah ⟨aq,aH,bO⟩ N bj=>?_) (fun ys I ⟨aq,aH,_⟩ p ar=>?_)
 .subst eK;exact ⟨aL,bH⟩
 .subst aq;have ai:i < ss.length:=by rw [he];exact (b6.mp ah).1
  have g0:ss[i]? = some ss[i]:=a' ai;refine ax i x ss[i] ys N ah g0 (bj _ _ ⟨rfl,by rw [aH,m7,g0,yM];simp,?_⟩);rw [cZ];cases ss[i] <;> simp <;> omega
 .subst aq;rw [aH,<- he,il];exact hd p ar
theorem c1.ZR {lo:Int} {n:Nat} {ss:List (Option V)} {g:gY} {dr:TT} {bR:TE} {dq:St} {Q:c4} {H:aw} (aN:n <= sizeLine) (he:ss.length=n)
  (ax:∀ (i:Nat) (o:Option V) (ys:List V) (N:List V->aw->Prop),i < n->ss[i]? = some o->N (ys ++ o.toList) H->g (.int (lo + i)) dq H fun cw av=>Sub dq cw/\dr cw av fun c br=>if c=true then bR cw br fun y cJ=>N (ys ++ [y]) cJ else N ys br)
  (hd:∀ p,H p=none->Q (.ref p) (upd H p (.lst (ss.flatMap uE)))):c1 (l0 lo n) g dr bR dq Q H:=by
 refine c1.range (fun i ys I=>I=H/\ys=(ss.take i).flatMap uE/\ys.length <= i) aN ⟨rfl,rfl,bP _⟩ (fun i ys I ai ⟨eK,e,bH⟩=>bH) (fun i ys I ai ⟨aq,aH,bO⟩ N bj=>?_) (fun ys I ⟨aq,aH,_⟩ p ar=>?_)
 .subst aq;have fc:i < ss.length:=by omega
  have g0:ss[i]? = some ss[i]:=a' fc;refine ax i ss[i] ys N ai g0 (bj _ _ ⟨rfl,by rw [aH,m7,g0,yM];simp,?_⟩);rw [cZ];cases ss[i] <;> simp <;> omega
 .subst aq;rw [aH,<- he,il];exact hd p ar
theorem ae' (Pv:St->aw->Prop) (yg:St->aw->Nat) (h0:Pv σ H)
  (ax:∀ σ H,Pv σ H->∃ b:Bool,(∀ Q:Bool->aw->Prop,Q b H->c σ H Q)/\(b=true->bG { D with cT:=fun au I=>Pv au I/\yg au I < yg σ H,fv:=fun au I=>Pv au I/\yg au I < yg σ H,cP:=D.cT } σ H)/\(b=false->D.cT σ H)):M9 c bG D σ H:=by
 refine ⟨fun m σ H=>m=yg σ H/\Pv σ H,⟨_,rfl,h0⟩,?_⟩;rintro m σ H ⟨rfl,p⟩;obtain ⟨b,aB,af,ak⟩:=ax σ H p;refine aB _ ?_;cases b with
 | true=>exact ⟨_,fun au I ⟨hO,l⟩=>⟨_,l,rfl,hO⟩,af rfl⟩
 | false=>exact ak rfl
theorem Sub.name:Sub (none :: r) (v :: r):=by
 refine ⟨rfl,fun i w h=>?_⟩;cases i with
 | zero=>cases h
 | succ i=>exact h
theorem bT {x:Str} {e:Expr} (bj:X.N.Nodup) (he:bD X e bR) (ai:X.N[i]? = some x:=by rfl) (ah:Loc X.env.scope x:=by exact oQ rfl) (ax:swapsWith e (some (.Name x pos')) pos.line X.env=pure false:=by rfl) (hf:X.fn x=true\/X.env.scope.names.lookup x=some .local:=by first | exact .inl rfl | exact .inr rfl | assumption):hA X (.Assign [.Name x pos'] e pos) (uP bR (gL i)):=n5 bj ai ah he ax hf
theorem b7 {x:Str} (bj:X.N.Nodup) (ai:X.N[i]? = some x:=by rfl) (ah:Loc X.env.scope x:=by exact oQ rfl) (hf:X.fn x=true\/X.env.scope.names.lookup x=some .local:=by first | exact .inl rfl | exact .inr rfl | assumption):o8 X (.Name x pos) (gL i):=Vu bj ai ah hf
theorem bZ (ao:w5 X r) (aP:bD X a a9) (aa:bD X b bG) (ax:Sp b:=by exact fun _ _=>rfl):bD X (.Subscript a b pos) (t6 r a9 bG):=abS ao aP aa ax
theorem bU {k:Nat} {fd:FuncData} {x:Str} {p pos:Pos} {e:Expr} {t:fz} (F:cD X.prog X.w X.K X.mg X.base dk k f fd ps sp) (ao:eO k X.A) (hm:X.mg x=some (.ref f)) (aC:tl X.K (.ref f)=true) (aa:b0 X.K fd ps []) (aP:hy X (e :: aU) t) (a8:kX X x:=by rfl) (oI:(x == ("__debug__" : Str))=false:=by decide) (he:starEach (e :: aU) X.env=(false,eval e X.env) :: starEach aU X.env:=by rfl) (c9:(backTo pos (starEach aU X.env)).any (·.1)=false:=by rfl):bD X (.Call (.Name x p) (e :: aU) [] pos) (w6 sp [] HL t):=PK F ao a8 hm aC aa .nil c2 aP oI he c9
end L2
local macro_rules|`(tactic|nofun)=>do let f(s:String):=(s.splitOn " ").toArray.map fun x=>Lean.mkCIdent x.toName;let c:=f "L2.zH L2.td L2.DU L2.Lu L2.Kp L2.LQ L2.Gg L2.Fi L2.JF L2.Gm L2.gQ L2.dG L2.KV L2.Bt L2.HZ L2.IT L2.gL L2.xg L2.tq L2.vb L2.uP L2.FG L2.KX L2.t6 L2.JB L2.wA L2.oU L2.AX L2.K4 L2.LA L2.F8 L2.K2 L2.Vd L2.Rp L2.Ga L2.v' L2.Gq L2.Hd L2.GZ L2.w6 L2.Uk L2.Pc L2.AY L2.EZ L2.GJ L2.GH L2.M_ L2.K6 L2.Jh L2.LJ L2.IZ L2.B6 L2.Hx L2.Kn L2.ID L2.Kv L2.JC L2.Gu L2.Gi L2.Ml L2.Jt L2.E7 L2.PR L2.qM L2.Ew L2.FZ L2.Hc L2.H6 L2.Uh L2.JV L2.J2 L2.J6 L2.EG L2.p_ L2.HM L2.wP L2.KZ L2.Fm L2.IF L2.Ui L2.F0 L2.Ru L2.N7 L2.UQ L2.SJ L2.Ve L2.VG L2.VW L2.UG L2.RO L2.Qw L2.OJ L2.start L2.Rb Nat.reduceAdd Nat.reduceSub List.replicate";let a:=f "L2.ri L2.ajI L2.bb.sJ L2.bb.lS L2.bb.block L2.abI L2.FS L2.agZ L2.ZX L2.Xp L2.Zu L2.abC L2.Yh L2.wS L2.ai4 L2.aaO L2.ag1 L2.amY L2.alZ"++c;let b:=c++f "L2.ahc L2.adO L2.WP L2.alY L2.YT List.map_cons List.map_nil Option.bind_none Option.bind_some Option.join_some Option.join_none List.length_cons List.length_nil Nat.zero_add List.cons_append List.nil_append List.append_nil List.set_cons_zero List.set_cons_succ List.getElem?_cons_zero List.getElem?_cons_succ Option.some.injEq L2.V.int.injEq L2.V.bo.injEq L2.V.str.injEq L2.V.ref.injEq L2.V.ty.injEq exists_eq_left' exists_eq_left exists_and_left List.cons.injEq and_true true_and and_assoc Int.zero_add reduceCtorEq false_and exists_false and_false ite_true ite_false if_true if_false Bool.false_eq_true L2.Lb L2.L0 false_or or_false Bool.not_true Bool.not_false decide_true decide_false";`(tactic|((try dsimp only [$[$a:ident],*]);(try simp only [$[$b:ident],*])))
local macro_rules | `(tactic| walk_at "B")=>`(tactic| first | rfl | (dsimp only [L2.bb.block];done) | (dsimp only [L2.bb.block];exact rfl))
local macro_rules | `(tactic| walk_at "F")=>`(tactic| exact ⟨rfl,rfl,rfl,by ac_nf,rfl,by ac_nf,by ac_nf⟩)
namespace L2
open PySem
theorem cv {P:Program} {w:World} {K:bk} {mg:Str->Option Value} {base:Heap} {C:ku} {m n:Nat} {f a:Addr} {fd b:FuncData} {ps q:List Str} {sp S:bM} (h:cD P w K mg base C m f fd ps sp) (g:cD P w K mg base C n f fd ps sp->cD P w K mg base C (n+1) a b q S) (hm:m<=n:=by decide):cD P w K mg base C (n+1) a b q S:=g (h.mono hm)
end L2
set_option hygiene false
local macro_rules | `(tactic| walk_at "O")=>`(tactic| (intro vs H Q E h;repeat (first | (obtain ⟨rfl,_⟩:=h;rfl) | (obtain ⟨_,h⟩:=h))))
set_option hygiene true
set_option hygiene false
local macro_rules | `(tactic| ac_rfl)=>`(tactic| refine UR fun th aT=>?_)
local macro_rules | `(tactic| exists $e,0)=>`(tactic| refine Kb $e (fun f3 bQ=>?_) fun th aT=>?_)
local macro_rules | `(tactic| exists $e,2)=>`(tactic| refine Kb $e (fun f3 cY=>?_) fun th aT=>?_)
local macro_rules | `(tactic| exists $e,3)=>`(tactic| refine LU $e (fun f3 bQ=>?_) fun th aT=>?_)
local macro_rules | `(tactic| exists $e,4)=>`(tactic| refine LU $e (fun D bQ=>?_) fun th aT=>?_)
local macro_rules | `(tactic| exists $e,5)=>`(tactic| refine LU $e (fun f3 cY=>?_) fun th aT=>?_)
local macro_rules | `(tactic| exists $e,9)=>`(tactic| refine ($e) (by walk_at "O") (fun _ _ _ s H vs Q E ao h=>?_))
set_option hygiene true
namespace My
open PySem L2
local macro_rules|`(~~~$x)=>`(some (L2.V.ref $x))
abbrev jU:List Str:=["self","name"]
abbrev ko:List Str:=["stages","home"]
abbrev iR:List Str:=["least","most","members"]
abbrev k2:List Str:=["crossing","rows"]
abbrev lp:List Str:=["self","name","start","end","off","near","least"]
abbrev rB:List Str:=["self","own_asked"]
abbrev rX:List Str:=["crossing","one","other"]
abbrev wK:List Str:=["stages","one","other"]
abbrev ym:List Str:=["_law_script","_law_k","_law_many"]
abbrev wy:List Str:=["word","signs","most"]
abbrev vg:List Str:=["chain","own","others","place"]
abbrev DX:List Str:=["self","good"]
abbrev Fw:List Str:=["self","choices"]
abbrev FL:List Str:=["self","low","high"]
abbrev z7:List Str:=["self","kind","name","start","end","off","near","least"]
abbrev CV:List Str:=["crossing","name"]
abbrev AE:List Str:=["places","way","second"]
abbrev BH:List Str:=["word","most_figures"]
abbrev wk:List Str:=["crossing","text"]
abbrev zK:List Str:=["stages","number"]
abbrev DT:List Str:=["own","first","second"]
abbrev yn:List Str:=["stages","home","chain"]
abbrev BR:List Str:=["reader","places","start"]
abbrev B1:List Str:=["sort","name","start","end","off","near","least"]
abbrev xT:List Str:=["self","row","told"]
abbrev yY:List Str:=["self","crossing","rows","one","other"]
abbrev w_:List Str:=["self","stages"]
abbrev Cz:List Str:=["self","number"]
abbrev De:List Str:=["places","way","place"]
abbrev Hk:List Str:=["word","low","high"]
abbrev zE:List Str:=["crossing","first","second","turns","one"]
abbrev H8:List Str:=["crossing","first","second"]
abbrev Ky:List Str:=["reader","crossing","left"]
abbrev Dt:List Str:=["reader","crossing","rows"]
abbrev Ie:List Str:=["stages","number","following","turns"]
abbrev GR:List Str:=["stages","home","first"]
abbrev zU:List Str:=["stages","name","chain"]
abbrev A4:List Str:=["stages","name"]
abbrev L_:List Str:=["reader","ways"]
abbrev DM:List Str:=["reader","places","ways"]
abbrev Mh:List Str:=["_law_script","_law_many"]
abbrev z1:List Str:=["_law_script","_law_most"]
abbrev CT:List Str:=["_law_places","_law_ways_here"]
abbrev Lk:List Str:=["_law_one","_law_other","_law_places"]
abbrev Il:List Str:=["_law_ways_here","_law_one","_law_other"]
abbrev Cu:List Str:=["_law_script","_law_places","_law_ways_here"]
abbrev Ai:List Str:=["_law_ways_here","_law_stages_here"]
abbrev DH:List Str:=["_law_script","_law_turn","_law_ways_here"]
abbrev Bk:List Str:=["self","crossing","rows"]
abbrev B9:List Str:=["self","places","ways"]
abbrev Br:List Str:=["self","asks"]
abbrev C':List Str:=["name","crossing"]
abbrev Ay:List Str:=["least","most","members","crossing"]
abbrev DS:List Str:=["name","self"]
abbrev DD:List Str:=["_law_i","_law_ways_here"]
abbrev CN:List Str:=["number","stages","home"]
abbrev FD:List Str:=["crossing","rows","told"]
abbrev ED:List Str:=["reader","crossing","left","first","members","alike"]
abbrev I5:List Str:=["stages","home","numbers"]
abbrev EA:List Str:=["stages","home","chain","stays","changes"]
abbrev I_:List Str:=["stages","number","following","turns","own","sought","asks"]
abbrev Jw:List Str:=["self","waited","same","others","choices","last","many"]
abbrev JP:List Str:=["one","other","stages"]
seal L2.hy L2.bD L2.hA L2.jx L2.iO L2.fM
noncomputable def top (i:Nat):Stmt:=PySem.Challenge.pw_lampway_k42_whole_nobody_waits_longer.main.body.getD i (.Pass ⟨0,0,0,0⟩)
noncomputable abbrev Nm:Stmt:=top 9
theorem NK:Db ["places","way","place","steps"] De (bt Nm):=(by walk_at "F")
noncomputable abbrev OG:Stmt:=top 10
theorem ak7:Db AE AE (bt OG):=(by walk_at "F")
noncomputable abbrev IN:Stmt:=top 11
theorem EM:Db ["crossing","one","other","way","second"] rX (bt IN):=(by walk_at "F")
noncomputable abbrev Qc:Stmt:=top 12
theorem E_:Db ["crossing","one","other","way","second"] rX (bt Qc):=(by walk_at "F")
noncomputable abbrev Jk:Stmt:=top 18
theorem akK:Db ["text"] ["text"] (bt Jk):=(by walk_at "F")
noncomputable abbrev On:Stmt:=top 19
theorem W7:Db wy wy (bt On):=(by walk_at "F")
noncomputable abbrev QX:Stmt:=top 20
theorem aaG:Db BH BH (bt QX):=(by walk_at "F")
noncomputable abbrev MO:Stmt:=top 21
theorem UT:Db ["word","low","high","number"] Hk (bt MO):=(by walk_at "F")
noncomputable abbrev Um:Stmt:=top 22
theorem ad2:Db ["word"] ["word"] (bt Um):=(by walk_at "F")
noncomputable abbrev Gj:Stmt:=top 25
theorem alr:Db ["text"] ["text"] (bt Gj):=(by walk_at "F")
noncomputable abbrev ME:Stmt:=top 30
theorem ab3:Db CV CV (bt ME):=(by walk_at "F")
noncomputable abbrev Mw:Stmt:=top 31
theorem yb:Db ["members","homes","number","names","name"] ["members"] (bt Mw):=(by walk_at "F")
noncomputable abbrev ze:Stmt:=top 32
theorem IC:Db zE H8 (bt ze):=(by walk_at "F")
noncomputable abbrev zY:Stmt:=top 33
theorem RC:Db FD k2 (bt zY):=(by walk_at "F")
noncomputable abbrev AU:Stmt:=top 34
theorem A3:Db ED Ky (bt AU):=(by walk_at "F")
noncomputable abbrev At:Stmt:=top 35
theorem lm:Db ["reader","crossing","rows","least","most"] Dt (bt At):=(by walk_at "F")
noncomputable abbrev Pu:Stmt:=top 36
theorem Qn:Db ["crossing","rows","left"] k2 (bt Pu):=(by walk_at "F")
noncomputable abbrev Lp:Stmt:=top 37
theorem Bo:Db ["crossing","rows","homes","name","number"] k2 (bt Lp):=(by walk_at "F")
noncomputable abbrev pp:Stmt:=top 38
theorem xK:Db ["crossing","rows","number","row","one","other"] k2 (bt pp):=(by walk_at "F")
noncomputable abbrev RB:Stmt:=top 39
theorem Fk:Db ["crossing","text","rows","reader"] wk (bt RB):=(by walk_at "F")
noncomputable abbrev Tg:Stmt:=top 40
theorem agL:Db zK zK (bt Tg):=(by walk_at "F")
noncomputable abbrev QZ:Stmt:=top 41
theorem Xl:Db wK wK (bt QZ):=(by walk_at "F")
noncomputable abbrev Bg:Stmt:=top 43
theorem UU:Db I5 ko (bt Bg):=(by walk_at "F")
noncomputable abbrev Ir:Stmt:=top 44
theorem adZ:Db ko ko (bt Ir):=(by walk_at "F")
noncomputable abbrev VI:Stmt:=top 45
theorem aaT:Db DT DT (bt VI):=(by walk_at "F")
noncomputable abbrev OZ:Stmt:=top 46
theorem vI:Db ["chain","own","others","place","last","found","step","number"] vg (bt OZ):=(by walk_at "F")
noncomputable abbrev Ro:Stmt:=top 47
theorem vh:Db ["stages","home","own","others","found","first","second"] ko (bt Ro):=(by walk_at "F")
noncomputable abbrev Nt:Stmt:=top 48
theorem agk:Db ko ko (bt Nt):=(by walk_at "F")
noncomputable abbrev Bh:Stmt:=top 49
theorem EU:Db EA yn (bt Bh):=(by walk_at "F")
noncomputable abbrev DW:Stmt:=top 50
theorem zv:Db I_ Ie (bt DW):=(by walk_at "F")
noncomputable abbrev Nn:Stmt:=top 51
theorem Ps:Db ["stages","home","first","stops","number"] GR (bt Nn):=(by walk_at "F")
noncomputable abbrev Wa:Stmt:=top 52
theorem pE:Db ["stages","name","chain","home","stops","rows","number","following","turn","stays"] zU (bt Wa):=(by walk_at "F")
noncomputable abbrev Fz:Stmt:=top 53
theorem xr:Db ["stages","name","home","chain","rows","turn"] A4 (bt Fz):=(by walk_at "F")
noncomputable abbrev TP:Stmt:=top 67
theorem Pm:Db ["reader","places"] ["reader"] (bt TP):=(by walk_at "F")
noncomputable abbrev Ff:Stmt:=top 68
theorem S3:Db ["reader","ways","name"] L_ (bt Ff):=(by walk_at "F")
noncomputable abbrev QM:Stmt:=top 69
theorem akB:Db BR BR (bt QM):=(by walk_at "F")
noncomputable abbrev Rr:Stmt:=top 70
theorem alD:Db B1 B1 (bt Rr):=(by walk_at "F")
noncomputable abbrev Wg:Stmt:=top 71
theorem r9:Db ["reader","places","ways","sort","name","start","end","off","near","least"] DM (bt Wg):=(by walk_at "F")
noncomputable abbrev Nf:Stmt:=top 72
theorem zc:Db ["text","rows","places","ways","reader"] ["text"] (bt Nf):=(by walk_at "F")
noncomputable abbrev Wi:Stmt:=top 76
theorem uu:Db ["_law_script","_law_k","_law_many","_law_cell","_law_seed"] ym (bt Wi):=(by walk_at "F")
noncomputable abbrev LR:Stmt:=top 77
theorem rg:Db ["_law_script","_law_many","_law_letters","_law_base","_law_way","_law_at","_law_names_here","_law_k","_law_sign"] Mh (bt LR):=(by walk_at "F")
noncomputable abbrev SX:Stmt:=top 78
theorem nu:Db ["_law_script","_law_most","_law_places","_law_names_here","_law_ways_here","_law_k","_law_start","_law_end","_law_sort","_law_off","_law_near"] z1 (bt SX):=(by walk_at "F")
noncomputable abbrev G4:Stmt:=top 79
theorem HN:Db ["_law_places","_law_ways_here","_law_rows","_law_way"] CT (bt G4):=(by walk_at "F")
noncomputable abbrev Wd:Stmt:=top 80
theorem CY:Db ["_law_one","_law_other","_law_places","_law_length","_law_start","_law_end"] Lk (bt Wd):=(by walk_at "F")
noncomputable abbrev WA:Stmt:=top 81
theorem VT:Db ["_law_ways_here","_law_one","_law_other","_law_tram"] Il (bt WA):=(by walk_at "F")
noncomputable abbrev J':Stmt:=top 82
theorem Gc:Db ["_law_script","_law_places","_law_ways_here","_law_some","_law_k","_law_fits","_law_j","_law_good","_law_i","_law_stages_here","_law_low","_law_more"] Cu (bt J'):=(by walk_at "F")
noncomputable abbrev IV:Stmt:=top 83
theorem ce:Db ["_law_ways_here","_law_stages_here","_law_rows","_law_low","_law_high","_law_some"] Ai (bt IV):=(by walk_at "F")
noncomputable abbrev OH:Stmt:=top 84
theorem zj:Db ["_law_script","_law_turn","_law_ways_here","_law_rate","_law_asks_here","_law_k"] DH (bt OH):=(by walk_at "F")
noncomputable abbrev Rd:Stmt:=top 85
theorem kn:Db ["_law_script","_law_places","_law_ways_here","_law_stages_here","_law_plan","_law_name","_law_most","_law_keeper","_law_way","_law_since","_law_late","_law_turn","_law_asks_here","_law_row"] ["_law_script"] (bt Rd):=(by walk_at "F")
noncomputable abbrev S0:Stmt:=fj (top 24) 0
theorem sn:Db xT xT (bt S0):=(by walk_at "F")
noncomputable abbrev Of:Stmt:=fj (top 24) 1
theorem agX:Db ["self"] ["self"] (bt Of):=(by walk_at "F")
noncomputable abbrev Uz:Stmt:=fj (top 24) 2
theorem Zm:Db ["self"] ["self"] (bt Uz):=(by walk_at "F")
noncomputable abbrev Pa:Stmt:=fj (top 24) 4
theorem adm:Db DX DX (bt Pa):=(by walk_at "F")
noncomputable abbrev Un:Stmt:=fj (top 24) 5
theorem VR:Db ["self","choices","found"] Fw (bt Un):=(by walk_at "F")
noncomputable abbrev RD:Stmt:=fj (top 24) 6
theorem N0:Db ["self","low","high","found"] FL (bt RD):=(by walk_at "F")
noncomputable abbrev Tw:Stmt:=fj (top 24) 7
theorem aeI:Db ["self"] ["self"] (bt Tw):=(by walk_at "F")
noncomputable abbrev ur:Stmt:=fj (top 29) 0
theorem Iy:Db yY Bk (bt ur):=(by walk_at "F")
noncomputable abbrev V4:Stmt:=fj (top 55) 0
theorem agp:Db z7 z7 (bt V4):=(by walk_at "F")
noncomputable abbrev Nh:Stmt:=fj (top 56) 0
theorem Yl:Db lp lp (bt Nh):=(by walk_at "F")
noncomputable abbrev Ng:Stmt:=fj (top 56) 1
theorem agV:Db ["self"] ["self"] (bt Ng):=(by walk_at "F")
noncomputable abbrev Wx:Stmt:=fj (top 56) 2
theorem Ix:Db ["self"] ["self"] (bt Wx):=(by walk_at "F")
noncomputable abbrev jp:Stmt:=fj (top 57) 0
theorem aeh:Db lp lp (bt jp):=(by walk_at "F")
noncomputable abbrev VO:Stmt:=fj (top 57) 1
theorem akg:Db ["self"] ["self"] (bt VO):=(by walk_at "F")
noncomputable abbrev OF:Stmt:=fj (top 57) 2
theorem ala:Db ["self"] ["self"] (bt OF):=(by walk_at "F")
noncomputable abbrev UH:Stmt:=fj (top 58) 0
theorem aa':Db lp lp (bt UH):=(by walk_at "F")
noncomputable abbrev RU:Stmt:=fj (top 58) 1
theorem aaK:Db ["self"] ["self"] (bt RU):=(by walk_at "F")
noncomputable abbrev Th:Stmt:=fj (top 58) 2
theorem aeu:Db ["self"] ["self"] (bt Th):=(by walk_at "F")
noncomputable abbrev OT:Stmt:=fj (top 66) 0
theorem LL:Db ["self","places","ways","number","way"] B9 (bt OT):=(by walk_at "F")
noncomputable abbrev bi:Stmt:=fj (top 66) 1
theorem ae3:Db ["self"] ["self"] (bt bi):=(by walk_at "F")
noncomputable abbrev MZ:Stmt:=fj (top 66) 2
theorem WJ:Db jU jU (bt MZ):=(by walk_at "F")
noncomputable abbrev Ur:Stmt:=fj (top 66) 3
theorem agg:Db jU jU (bt Ur):=(by walk_at "F")
noncomputable abbrev MU:Stmt:=fj (top 74) 0
theorem afw:Db w_ w_ (bt MU):=(by walk_at "F")
noncomputable abbrev YJ:Stmt:=fj (top 74) 1
noncomputable abbrev NY:Stmt:=fj (top 74) 3
theorem Md:Db ["self","colours","name"] ["self"] (bt NY):=(by walk_at "F")
noncomputable abbrev Pb:Stmt:=fj (top 74) 4
theorem afY:Db jU jU (bt Pb):=(by walk_at "F")
noncomputable abbrev Qz:Stmt:=fj (top 74) 5
theorem LX:Db ["self","name","way","home"] jU (bt Qz):=(by walk_at "F")
noncomputable abbrev OD:Stmt:=fj (top 74) 6
theorem uH:Db ["self","asks","name","colours","own_asked"] Br (bt OD):=(by walk_at "F")
noncomputable abbrev Tm:Stmt:=fj (top 74) 7
theorem Xj:Db rB rB (bt Tm):=(by walk_at "F")
noncomputable abbrev MR:Stmt:=fj (top 74) 8
theorem ahf:Db rB rB (bt MR):=(by walk_at "F")
noncomputable abbrev Ly:Stmt:=fj (top 74) 9
theorem ais:Db ["self"] ["self"] (bt Ly):=(by walk_at "F")
noncomputable abbrev va:Stmt:=fj (top 74) 10
theorem sC:Db Jw ["self"] (bt va):=(by walk_at "F")
noncomputable abbrev SS:Stmt:=fj (top 74) 11
theorem ahz:Db Cz Cz (bt SS):=(by walk_at "F")
noncomputable abbrev Vs:Stmt:=fj (top 74) 12
theorem M8:Db jU ["self"] (bt Vs):=(by walk_at "F")
set_option genInjectivity false in
set_option genInjectivity false in
structure bK where
 {D4 Ma DJ A0 CS Ko Fd EB Jg bn He LB JR E8 KJ AD Al Ch Aj x3 FX Cc Js J9 IU u0 D2 CJ ye Gy Jx CC zo im Fl GP Ez Cy Eg yj Em BC Cr EV I1 CK BJ am PP xh Ck Dx Bb BZ CM Cx xG Ab xk CR A5 wJ Ba Dq wM D1 z' xd zb Ax vV x7 Ii zC Bm zz w4 Bj BP Dj Ea zG zm ac fq BN jI jK j4 hP dp Re xv:Addr}
 {D6 FH BF Av zy LD FJ HJ H_ w1 JY Mb LY Hf LV AJ Ag zP Aw y9 Lv Cb Gs E6 Fe uA z3 CE xb Fs LI C1 xX zT HO Hv Mi D_ zB yL HY Af zt Tl EH Dk Ac CD AO DP H9 F5 Jb I' I9 Kq D' E3 DC FF El zO GA Tk AP JQ Hg BM AL wf xt Dh ad9 Kr Ls EI zl FP GW Ep Cm G8 Kj:FuncData}
 {Qd Ow V7 VX ut QO Nb Sd Vz QH VQ Mz:Value}
section
variable (K:bk) (mg:Str->Option Value) (t:bK)
abbrev a0_a:=(mg "in_bow"=some (.ref t.D4))/\(b3 K "in_bow" "in_bow" Nm t.D4 t.D6)/\(mg "bows_cross"=some (.ref t.Ma))/\(b3 K "bows_cross" "bows_cross" OG t.Ma t.FH)/\(mg "meet"=some (.ref t.DJ))/\(b3 K "meet" "meet" IN t.DJ t.BF)/\(mg "gap"=some (.ref t.A0))/\(b3 K "gap" "gap" Qc t.A0 t.Av)/\(mg "words"=some (.ref t.CS))/\(b3 K "words" "words" Jk t.CS t.zy)/\(mg "is_made_of"=some (.ref t.Ko))/\(b3 K "is_made_of" "is_made_of" On t.Ko t.LD)/\(mg "is_number"=some (.ref t.Fd))/\(b3 K "is_number" "is_number" QX t.Fd t.FJ)/\(mg "figured"=some (.ref t.EB))/\(b3 K "figured" "figured" MO t.EB t.HJ)/\(mg "is_name"=some (.ref t.Jg))/\(b3 K "is_name" "is_name" Um t.Jg t.H_)/\(mg "readers"=some (.ref t.bn))/\(b3 K "readers" "readers" Gj t.bn t.w1)
abbrev a0_b:=(mg "sort_of"=some (.ref t.He))/\(b3 K "sort_of" "sort_of" ME t.He t.JY)/\(mg "homes_in"=some (.ref t.LB))/\(b3 K "homes_in" "homes_in" Mw t.LB t.Mb)/\(mg "change_turns"=some (.ref t.JR))/\(b3 K "change_turns" "change_turns" ze t.JR t.LY)/\(mg "names_left"=some (.ref t.E8))/\(b3 K "names_left" "names_left" zY t.E8 t.Hf)/\(mg "read_members"=some (.ref t.KJ))/\(b3 K "read_members" "read_members" AU t.KJ t.LV)/\(mg "read_stage"=some (.ref t.AD))/\(b3 K "read_stage" "read_stage" At t.AD t.AJ)/\(mg "refuse_never"=some (.ref t.Al))/\(b3 K "refuse_never" "refuse_never" Pu t.Al t.Ag)/\(mg "refuse_short"=some (.ref t.Ch))/\(b3 K "refuse_short" "refuse_short" Lp t.Ch t.zP)/\(mg "refuse_clash"=some (.ref t.Aj))/\(b3 K "refuse_clash" "refuse_clash" pp t.Aj t.Aw)/\(mg "read_stages"=some (.ref t.x3))/\(b3 K "read_stages" "read_stages" RB t.x3 t.y9)
abbrev a0_c:=(mg "ways_in"=some (.ref t.FX))/\(b3 K "ways_in" "ways_in" Tg t.FX t.Lv)/\(mg "change"=some (.ref t.Cc))/\(b3 K "change" "change" QZ t.Cc t.Cb)/\(mg "counted_to"=some (.ref t.Js))/\(b3 K "counted_to" "counted_to" Bg t.Js t.Gs)/\(mg "of_other_sort"=some (.ref t.J9))/\(b3 K "of_other_sort" "of_other_sort" Ir t.J9 t.E6)/\(mg "place_at_first"=some (.ref t.IU))/\(b3 K "place_at_first" "place_at_first" VI t.IU t.Fe)/\(mg "grown"=some (.ref t.u0))/\(b3 K "grown" "grown" OZ t.u0 t.uA)/\(mg "chains_to"=some (.ref t.D2))/\(b3 K "chains_to" "chains_to" Ro t.D2 t.z3)/\(mg "stays_in_chain"=some (.ref t.CJ))/\(b3 K "stays_in_chain" "stays_in_chain" Nt t.CJ t.CE)/\(mg "length"=some (.ref t.ye))/\(b3 K "length" "length" Bh t.ye t.xb)/\(mg "asks_of_leg"=some (.ref t.Gy))/\(b3 K "asks_of_leg" "asks_of_leg" DW t.Gy t.Fs)
abbrev a0_d:=(mg "lead_in"=some (.ref t.Jx))/\(b3 K "lead_in" "lead_in" Nn t.Jx t.LI)/\(mg "asks_along"=some (.ref t.CC))/\(b3 K "asks_along" "asks_along" Wa t.CC t.C1)/\(mg "worst"=some (.ref t.zo))/\(b3 K "worst" "worst" Fz t.zo t.xX)/\(mg "read_ring"=some (.ref t.im))/\(b3 K "read_ring" "read_ring" TP t.im t.zT)/\(mg "read_new_name"=some (.ref t.Fl))/\(b3 K "read_new_name" "read_new_name" Ff t.Fl t.HO)/\(mg "read_end"=some (.ref t.GP))/\(b3 K "read_end" "read_end" QM t.GP t.Hv)/\(mg "made_way"=some (.ref t.Ez))/\(b3 K "made_way" "made_way" Rr t.Ez t.Mi)/\(mg "read_way"=some (.ref t.Cy))/\(b3 K "read_way" "read_way" Wg t.Cy t.D_)/\(mg "read_crossing"=some (.ref t.Eg))/\(b3 K "read_crossing" "read_crossing" Nf t.Eg t.zB)/\(mg "_law_draw"=some (.ref t.yj))/\(b3 K "_law_draw" "_law_draw" Wi t.yj t.yL)
abbrev a0_e:=(mg "_law_names"=some (.ref t.Em))/\(b3 K "_law_names" "_law_names" LR t.Em t.HY)/\(mg "_law_ways"=some (.ref t.BC))/\(b3 K "_law_ways" "_law_ways" SX t.BC t.Af)/\(mg "_law_text"=some (.ref t.Cr))/\(b3 K "_law_text" "_law_text" G4 t.Cr t.zt)/\(mg "_law_meet"=some (.ref t.EV))/\(b3 K "_law_meet" "_law_meet" Wd t.EV t.Tl)/\(mg "_law_alike"=some (.ref t.I1))/\(b3 K "_law_alike" "_law_alike" WA t.I1 t.EH)/\(mg "_law_stages"=some (.ref t.CK))/\(b3 K "_law_stages" "_law_stages" J' t.CK t.Dk)/\(mg "_law_stages_text"=some (.ref t.BJ))/\(b3 K "_law_stages_text" "_law_stages_text" IV t.BJ t.Ac)/\(mg "_law_asks"=some (.ref t.am))/\(b3 K "_law_asks" "_law_asks" OH t.am t.CD)/\(mg "law"=some (.ref t.PP))/\(b3 K "law" "law" Rd t.PP t.AO)/\(mg "RowReader"=some (.ref t.ac))/\(dK K (.ref t.ac) "__init__"=some (some (.ref t.xh)))
abbrev a0_f:=(b3 K "__init__" "RowReader.__init__" S0 t.xh t.DP)/\(dK K (.ref t.ac) "ahead"=some (some (.ref t.Ck)))/\(b3 K "ahead" "RowReader.ahead" Of t.Ck t.H9)/\(dK K (.ref t.ac) "has_more"=some (some (.ref t.Dx)))/\(b3 K "has_more" "RowReader.has_more" Uz t.Dx t.F5)/\(dK K (.ref t.ac) "take"=some (some (.ref t.Bb)))/\(b3 K "take" "RowReader.take" Pa t.Bb t.Jb)/\(dK K (.ref t.ac) "one_of"=some (some (.ref t.BZ)))/\(b3 K "one_of" "RowReader.one_of" Un t.BZ t.I')/\(dK K (.ref t.ac) "figures"=some (some (.ref t.CM)))/\(b3 K "figures" "RowReader.figures" RD t.CM t.I9)/\(dK K (.ref t.ac) "finish"=some (some (.ref t.Cx)))/\(b3 K "finish" "RowReader.finish" Tw t.Cx t.Kq)/\(mg "Stages"=some (.ref t.fq))/\(dK K (.ref t.fq) "__init__"=some (some (.ref t.xG)))/\(b3 K "__init__" "Stages.__init__" ur t.xG t.D')/\(mg "Way"=some (.ref t.BN))/\(dK K (.ref t.BN) "__init__"=some (some (.ref t.Ab)))/\(b3 K "__init__" "Way.__init__" V4 t.Ab t.E3)/\(mg "CarWay"=some (.ref t.jI))
abbrev a0_g:=(dK K (.ref t.jI) "__init__"=some (some (.ref t.xk)))/\(b3 K "__init__" "CarWay.__init__" Nh t.xk t.DC)/\(dK K (.ref t.jI) "ready"=some (some (.ref t.CR)))/\(b3 K "ready" "CarWay.ready" Ng t.CR t.FF)/\(dK K (.ref t.jI) "fade"=some (some (.ref t.A5)))/\(b3 K "fade" "CarWay.fade" Wx t.A5 t.El)/\(mg "FootWay"=some (.ref t.jK))/\(dK K (.ref t.jK) "__init__"=some (some (.ref t.wJ)))/\(b3 K "__init__" "FootWay.__init__" jp t.wJ t.zO)/\(dK K (.ref t.jK) "ready"=some (some (.ref t.Ba)))/\(b3 K "ready" "FootWay.ready" VO t.Ba t.GA)/\(dK K (.ref t.jK) "fade"=some (some (.ref t.Dq)))/\(b3 K "fade" "FootWay.fade" OF t.Dq t.Tk)/\(mg "TramWay"=some (.ref t.j4))/\(dK K (.ref t.j4) "__init__"=some (some (.ref t.wM)))/\(b3 K "__init__" "TramWay.__init__" UH t.wM t.AP)/\(dK K (.ref t.j4) "ready"=some (some (.ref t.D1)))/\(b3 K "ready" "TramWay.ready" RU t.D1 t.JQ)/\(dK K (.ref t.j4) "fade"=some (some (.ref t.z')))/\(b3 K "fade" "TramWay.fade" Th t.z' t.Hg)
abbrev a0_h:=(mg "Crossing"=some (.ref t.hP))/\(dK K (.ref t.hP) "__init__"=some (some (.ref t.xd)))/\(b3 K "__init__" "Crossing.__init__" OT t.xd t.BM)/\(dK K (.ref t.hP) "names"=some (some (.ref t.zb)))/\(b3 K "names" "Crossing.names" bi t.zb t.AL)/\(dK K (.ref t.hP) "number"=some (some (.ref t.Ax)))/\(b3 K "number" "Crossing.number" MZ t.Ax t.wf)/\(dK K (.ref t.hP) "called"=some (some (.ref t.vV)))/\(b3 K "called" "Crossing.called" Ur t.vV t.xt)/\(mg "Keeper"=some (.ref t.dp))/\(dK K (.ref t.dp) "__init__"=some (some (.ref t.x7)))/\(b3 K "__init__" "Keeper.__init__" MU t.x7 t.Dh)/\(dK K (.ref t.dp) "stage"=some (some (.ref t.Ii)))/\(b3 K "stage" "Keeper.stage" YJ t.Ii t.ad9)/\(dK K (.ref t.dp) "shown"=some (some (.ref t.zC)))/\(b3 K "shown" "Keeper.shown" NY t.zC t.Kr)/\(dK K (.ref t.dp) "stage_colour"=some (some (.ref t.Bm)))/\(b3 K "stage_colour" "Keeper.stage_colour" Pb t.Bm t.Ls)/\(dK K (.ref t.dp) "change_colour"=some (some (.ref t.zz)))/\(b3 K "change_colour" "Keeper.change_colour" Qz t.zz t.EI)
abbrev a0_i:=(dK K (.ref t.dp) "pass_turn"=some (some (.ref t.w4)))/\(b3 K "pass_turn" "Keeper.pass_turn" OD t.w4 t.zl)/\(dK K (.ref t.dp) "settle"=some (some (.ref t.Bj)))/\(b3 K "settle" "Keeper.settle" Tm t.Bj t.FP)/\(dK K (.ref t.dp) "stays"=some (some (.ref t.BP)))/\(b3 K "stays" "Keeper.stays" MR t.BP t.GW)/\(dK K (.ref t.dp) "tram_waits"=some (some (.ref t.Dj)))/\(b3 K "tram_waits" "Keeper.tram_waits" Ly t.Dj t.Ep)/\(dK K (.ref t.dp) "pick"=some (some (.ref t.Ea)))/\(b3 K "pick" "Keeper.pick" va t.Ea t.Cm)/\(dK K (.ref t.dp) "leave_for"=some (some (.ref t.zG)))/\(b3 K "leave_for" "Keeper.leave_for" SS t.zG t.G8)/\(dK K (.ref t.dp) "show_sought"=some (some (.ref t.zm)))/\(b3 K "show_sought" "Keeper.show_sought" Vs t.zm t.Kj)/\(hu K t.ac)/\(p' K t.ac t.xh)/\(f' K t.ac "ahead" t.Ck)/\(f' K t.ac "has_more" t.Dx)/\(f' K t.ac "take" t.Bb)/\(f' K t.ac "one_of" t.BZ)
abbrev a0_j:=(f' K t.ac "figures" t.CM)/\(f' K t.ac "finish" t.Cx)/\(dD K t.ac "row")/\(dD K t.ac "told")/\(dD K t.ac "place")/\(hu K t.fq)/\(p' K t.fq t.xG)/\(dD K t.fq "crossing")/\(dD K t.fq "many")/\(dD K t.fq "leasts")/\(dD K t.fq "mosts")/\(dD K t.fq "members")/\(dD K t.fq "sorts")/\(dD K t.fq "homes")/\(dD K t.fq "changes")/\(hu K t.BN)/\(hu K t.jI)/\(p' K t.jI t.xk)/\(f' K t.jI "ready" t.CR)/\(f' K t.jI "fade" t.A5)
abbrev a0_k:=(dD K t.jI "kind")/\(dD K t.jI "name")/\(dD K t.jI "start")/\(dD K t.jI "end")/\(dD K t.jI "off")/\(dD K t.jI "near")/\(dD K t.jI "least")/\(hu K t.jK)/\(p' K t.jK t.wJ)/\(f' K t.jK "ready" t.Ba)/\(f' K t.jK "fade" t.Dq)/\(dD K t.jK "kind")/\(dD K t.jK "name")/\(dD K t.jK "start")/\(dD K t.jK "end")/\(dD K t.jK "off")/\(dD K t.jK "near")/\(dD K t.jK "least")/\(hu K t.j4)/\(p' K t.j4 t.wM)
abbrev a0_l:=(f' K t.j4 "ready" t.D1)/\(f' K t.j4 "fade" t.z')/\(dD K t.j4 "kind")/\(dD K t.j4 "name")/\(dD K t.j4 "start")/\(dD K t.j4 "end")/\(dD K t.j4 "off")/\(dD K t.j4 "near")/\(dD K t.j4 "least")/\(hu K t.hP)/\(p' K t.hP t.xd)/\(f' K t.hP "names" t.zb)/\(f' K t.hP "number" t.Ax)/\(f' K t.hP "called" t.vV)/\(dD K t.hP "places")/\(dD K t.hP "ways")/\(dD K t.hP "numbers")/\(hu K t.dp)/\(p' K t.dp t.x7)/\(f' K t.dp "stage" t.Ii)
abbrev a0_m:=(f' K t.dp "shown" t.zC)/\(f' K t.dp "stage_colour" t.Bm)/\(f' K t.dp "change_colour" t.zz)/\(f' K t.dp "pass_turn" t.w4)/\(f' K t.dp "settle" t.Bj)/\(f' K t.dp "stays" t.BP)/\(f' K t.dp "tram_waits" t.Dj)/\(f' K t.dp "pick" t.Ea)/\(f' K t.dp "leave_for" t.zG)/\(f' K t.dp "show_sought" t.zm)/\(dD K t.dp "stages")/\(dD K t.dp "showing")/\(dD K t.dp "lasted")/\(dD K t.dp "left")/\(dD K t.dp "sought")/\(dD K t.dp "gone")/\(dD K t.dp "waiting")/\(dD K t.dp "picked")/\(t.jI ≠ t.jK)/\(t.jI ≠ t.j4)
abbrev a0_n:=(t.jK ≠ t.j4)/\(OW K t.BN "__init__" t.Ab)/\(mg "FIGURES"=some t.Qd)/\(bX (.str (ae "0123456789")) t.Qd)/\(mg "LEAST_PLACES"=some t.Ow)/\(bX (.int 2) t.Ow)/\(mg "LETTERS"=some t.V7)/\(bX (.str (ae "abcdefghijklmnopqrstuvwxyz")) t.V7)/\(mg "MOST_FIGURES"=some t.VX)/\(bX (.int 3) t.VX)/\(mg "MOST_LEAST"=some t.ut)/\(bX (.int 60) t.ut)/\(mg "MOST_LETTERS"=some t.QO)/\(bX (.int 8) t.QO)/\(mg "MOST_NEAR"=some t.Nb)/\(bX (.int 30) t.Nb)/\(mg "MOST_OFF"=some t.Sd)/\(bX (.int 30) t.Sd)/\(mg "MOST_PLACES"=some t.Vz)/\(bX (.int 99) t.Vz)
abbrev a0_o:=(mg "MOST_STAGES"=some t.QH)/\(bX (.int 6) t.QH)/\(mg "MOST_TURNS"=some t.VQ)/\(bX (.int 60) t.VQ)/\(mg "MOST_WAYS"=some t.Mz)/\(bX (.int 12) t.Mz)/\(mg "all"=none)/\(mg "any"=none)/\(mg "enumerate"=none)/\(mg "int"=none)/\(mg "len"=none)/\(mg "list"=none)/\(mg "max"=none)/\(mg "min"=none)/\(mg "range"=none)/\(mg "str"=none)/\(mg "sum"=none)/\(mg "zip"=none)/\(t.Cm.code=.ref t.Re)/\(t.xX.code=.ref t.xv)
abbrev a0_p:=(∀ (s:Shared) (u:Value),BindsTo s t.AO ⟨[u],[]⟩ [("_law_script",u)])
end
structure Txt (w:World) (K:bk) (mg:Str->Option Value) (t:bK):Prop where
 iY:a0_a K mg t
 i3:a0_b K mg t
 i8:a0_c K mg t
 iJ:a0_d K mg t
 jn:a0_e K mg t
 nd:a0_f K mg t
 og:a0_g K mg t
 pq:a0_h K mg t
 mj:a0_i K t
 jk:a0_j K t
 iL:a0_k K t
 jm:a0_l K t
 iX:a0_m K t
 iI:a0_n K mg t
 iU:a0_o mg t
 afr:a0_p t
section
variable {w:World} {K:bk} {mg:Str->Option Value} {t:bK} (T:Txt w K mg t)
include T
def Txt.PF:=T.iY.1
def Txt.Be:=T.iY.2.1
def Txt.agu:=T.iY.2.2.1
def Txt.L7:=T.iY.2.2.2.1
def Txt.OR:=T.iY.2.2.2.2.1
def Txt.C5:=T.iY.2.2.2.2.2.1
def Txt.aiJ:=T.iY.2.2.2.2.2.2.1
def Txt.GG:=T.iY.2.2.2.2.2.2.2.1
def Txt.amo:=T.iY.2.2.2.2.2.2.2.2.1
def Txt.Jy:=T.iY.2.2.2.2.2.2.2.2.2.1
def Txt.Rn:=T.iY.2.2.2.2.2.2.2.2.2.2.1
def Txt.zi:=T.iY.2.2.2.2.2.2.2.2.2.2.2.1
def Txt.ai6:=T.iY.2.2.2.2.2.2.2.2.2.2.2.2.1
def Txt.FQ:=T.iY.2.2.2.2.2.2.2.2.2.2.2.2.2.1
def Txt.Xt:=T.iY.2.2.2.2.2.2.2.2.2.2.2.2.2.2.1
def Txt.HX:=T.iY.2.2.2.2.2.2.2.2.2.2.2.2.2.2.2.1
def Txt.acD:=T.iY.2.2.2.2.2.2.2.2.2.2.2.2.2.2.2.2.1
def Txt.JN:=T.iY.2.2.2.2.2.2.2.2.2.2.2.2.2.2.2.2.2.1
def Txt.NZ:=T.iY.2.2.2.2.2.2.2.2.2.2.2.2.2.2.2.2.2.2.1
def Txt.AF:=T.iY.2.2.2.2.2.2.2.2.2.2.2.2.2.2.2.2.2.2.2
def Txt.I6:=T.i3.1
def Txt.wb:=T.i3.2.1
def Txt.Ji:=T.i3.2.2.1
def Txt.xA:=T.i3.2.2.2.1
def Txt.al0:=T.i3.2.2.2.2.1
def Txt.IA:=T.i3.2.2.2.2.2.1
def Txt.Mq:=T.i3.2.2.2.2.2.2.1
def Txt.Cf:=T.i3.2.2.2.2.2.2.2.1
def Txt.afE:=T.i3.2.2.2.2.2.2.2.2.1
def Txt.EC:=T.i3.2.2.2.2.2.2.2.2.2.1
def Txt.XO:=T.i3.2.2.2.2.2.2.2.2.2.2.1
def Txt.HD:=T.i3.2.2.2.2.2.2.2.2.2.2.2.1
def Txt.Xy:=T.i3.2.2.2.2.2.2.2.2.2.2.2.2.1
def Txt.Ht:=T.i3.2.2.2.2.2.2.2.2.2.2.2.2.2.1
def Txt.afG:=T.i3.2.2.2.2.2.2.2.2.2.2.2.2.2.2.1
def Txt.Lm:=T.i3.2.2.2.2.2.2.2.2.2.2.2.2.2.2.2.1
def Txt.abc:=T.i3.2.2.2.2.2.2.2.2.2.2.2.2.2.2.2.2.1
def Txt.Kx:=T.i3.2.2.2.2.2.2.2.2.2.2.2.2.2.2.2.2.2.1
def Txt.ZS:=T.i3.2.2.2.2.2.2.2.2.2.2.2.2.2.2.2.2.2.2.1
def Txt.IH:=T.i3.2.2.2.2.2.2.2.2.2.2.2.2.2.2.2.2.2.2.2
def Txt.ZB:=T.i8.1
def Txt.zM:=T.i8.2.1
def Txt.yf:=T.i8.2.2.1
def Txt.tc:=T.i8.2.2.2.1
def Txt.afA:=T.i8.2.2.2.2.1
def Txt.LG:=T.i8.2.2.2.2.2.1
def Txt.ahd:=T.i8.2.2.2.2.2.2.1
def Txt.GF:=T.i8.2.2.2.2.2.2.2.1
def Txt.ZQ:=T.i8.2.2.2.2.2.2.2.2.1
def Txt.LC:=T.i8.2.2.2.2.2.2.2.2.2.1
def Txt.HE:=T.i8.2.2.2.2.2.2.2.2.2.2.1
def Txt.vT:=T.i8.2.2.2.2.2.2.2.2.2.2.2.1
def Txt.aeP:=T.i8.2.2.2.2.2.2.2.2.2.2.2.2.1
def Txt.F_:=T.i8.2.2.2.2.2.2.2.2.2.2.2.2.2.1
def Txt.NL:=T.i8.2.2.2.2.2.2.2.2.2.2.2.2.2.2.1
def Txt.B':=T.i8.2.2.2.2.2.2.2.2.2.2.2.2.2.2.2.1
def Txt.OQ:=T.i8.2.2.2.2.2.2.2.2.2.2.2.2.2.2.2.2.1
def Txt.zI:=T.i8.2.2.2.2.2.2.2.2.2.2.2.2.2.2.2.2.2.1
def Txt.UX:=T.i8.2.2.2.2.2.2.2.2.2.2.2.2.2.2.2.2.2.2.1
def Txt.CB:=T.i8.2.2.2.2.2.2.2.2.2.2.2.2.2.2.2.2.2.2.2
def Txt.acH:=T.iJ.1
def Txt.G2:=T.iJ.2.1
def Txt.agS:=T.iJ.2.2.1
def Txt.KS:=T.iJ.2.2.2.1
def Txt.adz:=T.iJ.2.2.2.2.1
def Txt.Kw:=T.iJ.2.2.2.2.2.1
def Txt.akJ:=T.iJ.2.2.2.2.2.2.1
def Txt.EF:=T.iJ.2.2.2.2.2.2.2.1
def Txt.aks:=T.iJ.2.2.2.2.2.2.2.2.1
def Txt.Io:=T.iJ.2.2.2.2.2.2.2.2.2.1
def Txt.YR:=T.iJ.2.2.2.2.2.2.2.2.2.2.1
def Txt.LK:=T.iJ.2.2.2.2.2.2.2.2.2.2.2.1
def Txt.amW:=T.iJ.2.2.2.2.2.2.2.2.2.2.2.2.1
def Txt.GL:=T.iJ.2.2.2.2.2.2.2.2.2.2.2.2.2.1
def Txt.acz:=T.iJ.2.2.2.2.2.2.2.2.2.2.2.2.2.2.1
def Txt.JM:=T.iJ.2.2.2.2.2.2.2.2.2.2.2.2.2.2.2.1
def Txt.aku:=T.iJ.2.2.2.2.2.2.2.2.2.2.2.2.2.2.2.2.1
def Txt.Fv:=T.iJ.2.2.2.2.2.2.2.2.2.2.2.2.2.2.2.2.2.1
def Txt.fL:=T.iJ.2.2.2.2.2.2.2.2.2.2.2.2.2.2.2.2.2.2.1
def Txt.e6:=T.iJ.2.2.2.2.2.2.2.2.2.2.2.2.2.2.2.2.2.2.2
def Txt.acf:=T.jn.1
def Txt.K3:=T.jn.2.1
def Txt.aet:=T.jn.2.2.1
def Txt.Lz:=T.jn.2.2.2.1
def Txt.af9:=T.jn.2.2.2.2.1
def Txt.I7:=T.jn.2.2.2.2.2.1
def Txt.ZT:=T.jn.2.2.2.2.2.2.1
def Txt.La:=T.jn.2.2.2.2.2.2.2.1
def Txt.aaS:=T.jn.2.2.2.2.2.2.2.2.1
def Txt.ES:=T.jn.2.2.2.2.2.2.2.2.2.1
def Txt.tz:=T.jn.2.2.2.2.2.2.2.2.2.2.1
def Txt.IX:=T.jn.2.2.2.2.2.2.2.2.2.2.2.1
def Txt.WL:=T.jn.2.2.2.2.2.2.2.2.2.2.2.2.1
def Txt.LW:=T.jn.2.2.2.2.2.2.2.2.2.2.2.2.2.1
def Txt.Y9:=T.jn.2.2.2.2.2.2.2.2.2.2.2.2.2.2.1
def Txt.HA:=T.jn.2.2.2.2.2.2.2.2.2.2.2.2.2.2.2.1
def Txt.ad_:=T.jn.2.2.2.2.2.2.2.2.2.2.2.2.2.2.2.2.1
def Txt.YH:=T.jn.2.2.2.2.2.2.2.2.2.2.2.2.2.2.2.2.2.1
def Txt.ami:=T.jn.2.2.2.2.2.2.2.2.2.2.2.2.2.2.2.2.2.2.1
def Txt.T1:=T.nd.1
def Txt.Wl:=T.nd.2.2.1
def Txt.ii:=T.nd.2.2.2.2.1
def Txt.S2:=T.nd.2.2.2.2.2.2.1
def Txt.US:=T.nd.2.2.2.2.2.2.2.2.1
def Txt.PQ:=T.nd.2.2.2.2.2.2.2.2.2.2.1
def Txt.O5:=T.nd.2.2.2.2.2.2.2.2.2.2.2.2.1
def Txt.Y5:=T.nd.2.2.2.2.2.2.2.2.2.2.2.2.2.1
def Txt.Pg:=T.nd.2.2.2.2.2.2.2.2.2.2.2.2.2.2.2.1
def Txt.KD:=T.nd.2.2.2.2.2.2.2.2.2.2.2.2.2.2.2.2.1
def Txt.QK:=T.nd.2.2.2.2.2.2.2.2.2.2.2.2.2.2.2.2.2.2.1
def Txt.adN:=T.nd.2.2.2.2.2.2.2.2.2.2.2.2.2.2.2.2.2.2.2
def Txt.PY:=T.og.2.1
def Txt.PZ:=T.og.2.2.2.1
def Txt.M6:=T.og.2.2.2.2.2.1
def Txt.aay:=T.og.2.2.2.2.2.2.1
def Txt.RV:=T.og.2.2.2.2.2.2.2.2.1
def Txt.Ov:=T.og.2.2.2.2.2.2.2.2.2.2.1
def Txt.O3:=T.og.2.2.2.2.2.2.2.2.2.2.2.2.1
def Txt.aio:=T.og.2.2.2.2.2.2.2.2.2.2.2.2.2.1
def Txt.SN:=T.og.2.2.2.2.2.2.2.2.2.2.2.2.2.2.2.1
def Txt.TZ:=T.og.2.2.2.2.2.2.2.2.2.2.2.2.2.2.2.2.2.1
def Txt.PG:=T.og.2.2.2.2.2.2.2.2.2.2.2.2.2.2.2.2.2.2.2
def Txt.aaM:=T.pq.1
def Txt.Ta:=T.pq.2.2.1
def Txt.O_:=T.pq.2.2.2.2.1
def Txt.Ts:=T.pq.2.2.2.2.2.2.1
def Txt.Tj:=T.pq.2.2.2.2.2.2.2.2.1
def Txt.Xh:=T.pq.2.2.2.2.2.2.2.2.2.1
def Txt.V2:=T.pq.2.2.2.2.2.2.2.2.2.2.2.1
def Txt.No:=T.pq.2.2.2.2.2.2.2.2.2.2.2.2.2.2.2.1
def Txt.RW:=T.pq.2.2.2.2.2.2.2.2.2.2.2.2.2.2.2.2.2.1
def Txt.Pk:=T.pq.2.2.2.2.2.2.2.2.2.2.2.2.2.2.2.2.2.2.2
def Txt.U2:=T.mj.2.1
def Txt.zn:=T.mj.2.2.2.1
def Txt.S':=T.mj.2.2.2.2.2.1
def Txt.Qj:=T.mj.2.2.2.2.2.2.2.1
def Txt.NX:=T.mj.2.2.2.2.2.2.2.2.2.1
def Txt.QL:=T.mj.2.2.2.2.2.2.2.2.2.2.2.1
def Txt.PN:=T.mj.2.2.2.2.2.2.2.2.2.2.2.2.2.1
def Txt.f_:=T.mj.2.2.2.2.2.2.2.2.2.2.2.2.2.2.1
def Txt.akr:=T.mj.2.2.2.2.2.2.2.2.2.2.2.2.2.2.2.1
def Txt.AB:=T.mj.2.2.2.2.2.2.2.2.2.2.2.2.2.2.2.2.1
def Txt.P2:=T.mj.2.2.2.2.2.2.2.2.2.2.2.2.2.2.2.2.2.1
def Txt.IW:=T.mj.2.2.2.2.2.2.2.2.2.2.2.2.2.2.2.2.2.2.1
def Txt.y0:=T.mj.2.2.2.2.2.2.2.2.2.2.2.2.2.2.2.2.2.2.2
def Txt.rT:=T.jk.1
def Txt.Vm:=T.jk.2.1
def Txt.ace:=T.jk.2.2.1
def Txt.ul:=T.jk.2.2.2.1
def Txt.KH:=T.jk.2.2.2.2.1
def Txt.kf:=T.jk.2.2.2.2.2.1
def Txt.Xc:=T.jk.2.2.2.2.2.2.1
def Txt.P5:=T.jk.2.2.2.2.2.2.2.1
def Txt.Go:=T.jk.2.2.2.2.2.2.2.2.1
def Txt.Sw:=T.jk.2.2.2.2.2.2.2.2.2.1
def Txt.Oy:=T.jk.2.2.2.2.2.2.2.2.2.2.1
def Txt.E9:=T.jk.2.2.2.2.2.2.2.2.2.2.2.1
def Txt.Om:=T.jk.2.2.2.2.2.2.2.2.2.2.2.2.1
def Txt.R3:=T.jk.2.2.2.2.2.2.2.2.2.2.2.2.2.1
def Txt.OL:=T.jk.2.2.2.2.2.2.2.2.2.2.2.2.2.2.1
def Txt.EJ:=T.jk.2.2.2.2.2.2.2.2.2.2.2.2.2.2.2.2.1
def Txt.aie:=T.jk.2.2.2.2.2.2.2.2.2.2.2.2.2.2.2.2.2.1
def Txt.akC:=T.jk.2.2.2.2.2.2.2.2.2.2.2.2.2.2.2.2.2.2.1
def Txt.alX:=T.jk.2.2.2.2.2.2.2.2.2.2.2.2.2.2.2.2.2.2.2
def Txt.aic:=T.iL.1
def Txt.YY:=T.iL.2.1
def Txt.acK:=T.iL.2.2.1
def Txt.al5:=T.iL.2.2.2.1
def Txt.WU:=T.iL.2.2.2.2.1
def Txt.abW:=T.iL.2.2.2.2.2.1
def Txt.Z':=T.iL.2.2.2.2.2.2.1
def Txt.Gd:=T.iL.2.2.2.2.2.2.2.1
def Txt.aeD:=T.iL.2.2.2.2.2.2.2.2.1
def Txt.acA:=T.iL.2.2.2.2.2.2.2.2.2.1
def Txt.alT:=T.iL.2.2.2.2.2.2.2.2.2.2.1
def Txt.ai':=T.iL.2.2.2.2.2.2.2.2.2.2.2.1
def Txt.ZY:=T.iL.2.2.2.2.2.2.2.2.2.2.2.2.1
def Txt.aaV:=T.iL.2.2.2.2.2.2.2.2.2.2.2.2.2.1
def Txt.Zw:=T.iL.2.2.2.2.2.2.2.2.2.2.2.2.2.2.1
def Txt.WQ:=T.iL.2.2.2.2.2.2.2.2.2.2.2.2.2.2.2.1
def Txt.alb:=T.iL.2.2.2.2.2.2.2.2.2.2.2.2.2.2.2.2.1
def Txt.amr:=T.iL.2.2.2.2.2.2.2.2.2.2.2.2.2.2.2.2.2.1
def Txt.Fo:=T.iL.2.2.2.2.2.2.2.2.2.2.2.2.2.2.2.2.2.2.1
def Txt.ac7:=T.iL.2.2.2.2.2.2.2.2.2.2.2.2.2.2.2.2.2.2.2
def Txt.amq:=T.jm.1
def Txt.afB:=T.jm.2.1
def Txt.ajW:=T.jm.2.2.1
def Txt.aja:=T.jm.2.2.2.1
def Txt.Z7:=T.jm.2.2.2.2.1
def Txt.adu:=T.jm.2.2.2.2.2.1
def Txt.ajO:=T.jm.2.2.2.2.2.2.1
def Txt.ahb:=T.jm.2.2.2.2.2.2.2.1
def Txt.alC:=T.jm.2.2.2.2.2.2.2.2.1
def Txt.h5:=T.jm.2.2.2.2.2.2.2.2.2.1
def Txt.akW:=T.jm.2.2.2.2.2.2.2.2.2.2.1
def Txt.D0:=T.jm.2.2.2.2.2.2.2.2.2.2.2.1
def Txt.ahV:=T.jm.2.2.2.2.2.2.2.2.2.2.2.2.1
def Txt.ow:=T.jm.2.2.2.2.2.2.2.2.2.2.2.2.2.1
def Txt.P8:=T.jm.2.2.2.2.2.2.2.2.2.2.2.2.2.2.1
def Txt.Ue:=T.jm.2.2.2.2.2.2.2.2.2.2.2.2.2.2.2.1
def Txt.Rh:=T.jm.2.2.2.2.2.2.2.2.2.2.2.2.2.2.2.2.1
def Txt.e7:=T.jm.2.2.2.2.2.2.2.2.2.2.2.2.2.2.2.2.2.1
def Txt.FM:=T.jm.2.2.2.2.2.2.2.2.2.2.2.2.2.2.2.2.2.2.1
def Txt.aml:=T.iX.1
def Txt.aeF:=T.iX.2.1
def Txt.akV:=T.iX.2.2.1
def Txt.af5:=T.iX.2.2.2.1
def Txt.Za:=T.iX.2.2.2.2.1
def Txt.acq:=T.iX.2.2.2.2.2.1
def Txt.aeE:=T.iX.2.2.2.2.2.2.1
def Txt.ab9:=T.iX.2.2.2.2.2.2.2.1
def Txt.Y2:=T.iX.2.2.2.2.2.2.2.2.1
def Txt.Wf:=T.iX.2.2.2.2.2.2.2.2.2.1
def Txt.Qg:=T.iX.2.2.2.2.2.2.2.2.2.2.1
def Txt.zW:=T.iX.2.2.2.2.2.2.2.2.2.2.2.1
def Txt.Dv:=T.iX.2.2.2.2.2.2.2.2.2.2.2.2.1
def Txt.Ll:=T.iX.2.2.2.2.2.2.2.2.2.2.2.2.2.1
def Txt.Jv:=T.iX.2.2.2.2.2.2.2.2.2.2.2.2.2.2.1
def Txt.C7:=T.iX.2.2.2.2.2.2.2.2.2.2.2.2.2.2.2.1
def Txt.Oa:=T.iX.2.2.2.2.2.2.2.2.2.2.2.2.2.2.2.2.1
def Txt.Ws:=T.iX.2.2.2.2.2.2.2.2.2.2.2.2.2.2.2.2.2.1
def Txt.Q7:=T.iX.2.2.2.2.2.2.2.2.2.2.2.2.2.2.2.2.2.2.1
def Txt.VK:=T.iX.2.2.2.2.2.2.2.2.2.2.2.2.2.2.2.2.2.2.2
def Txt.V_:=T.iI.1
def Txt.FY:=T.iI.2.1
def Txt.acX:=T.iI.2.2.1
def Txt.ag7:=T.iI.2.2.2.1
def Txt.aj9:=T.iI.2.2.2.2.1
def Txt.aaY:=T.iI.2.2.2.2.2.1
def Txt.W6:=T.iI.2.2.2.2.2.2.1
def Txt.X2:=T.iI.2.2.2.2.2.2.2.1
def Txt.aa2:=T.iI.2.2.2.2.2.2.2.2.1
def Txt.alM:=T.iI.2.2.2.2.2.2.2.2.2.1
def Txt.amx:=T.iI.2.2.2.2.2.2.2.2.2.2.1
def Txt.aht:=T.iI.2.2.2.2.2.2.2.2.2.2.2.1
def Txt.al9:=T.iI.2.2.2.2.2.2.2.2.2.2.2.2.1
def Txt.agF:=T.iI.2.2.2.2.2.2.2.2.2.2.2.2.2.1
def Txt.Zk:=T.iI.2.2.2.2.2.2.2.2.2.2.2.2.2.2.1
def Txt.agE:=T.iI.2.2.2.2.2.2.2.2.2.2.2.2.2.2.2.1
def Txt.aeR:=T.iI.2.2.2.2.2.2.2.2.2.2.2.2.2.2.2.2.1
def Txt.agq:=T.iI.2.2.2.2.2.2.2.2.2.2.2.2.2.2.2.2.2.1
def Txt.alG:=T.iI.2.2.2.2.2.2.2.2.2.2.2.2.2.2.2.2.2.2.1
def Txt.W2:=T.iI.2.2.2.2.2.2.2.2.2.2.2.2.2.2.2.2.2.2.2
def Txt.WX:=T.iU.1
def Txt.abD:=T.iU.2.1
def Txt.SP:=T.iU.2.2.1
def Txt.Qv:=T.iU.2.2.2.1
def Txt.akq:=T.iU.2.2.2.2.1
def Txt.Zx:=T.iU.2.2.2.2.2.1
def Txt.ab0:=T.iU.2.2.2.2.2.2.1
def Txt.Xo:=T.iU.2.2.2.2.2.2.2.1
def Txt.Ce:=T.iU.2.2.2.2.2.2.2.2.1
def Txt.J_:=T.iU.2.2.2.2.2.2.2.2.2.1
def Txt.hz:=T.iU.2.2.2.2.2.2.2.2.2.2.1
def Txt.acG:=T.iU.2.2.2.2.2.2.2.2.2.2.2.1
def Txt.AZ:=T.iU.2.2.2.2.2.2.2.2.2.2.2.2.1
def Txt.ZG:=T.iU.2.2.2.2.2.2.2.2.2.2.2.2.2.1
def Txt.j':=T.iU.2.2.2.2.2.2.2.2.2.2.2.2.2.2.1
def Txt.xY:=T.iU.2.2.2.2.2.2.2.2.2.2.2.2.2.2.2.1
def Txt.Vg:=T.iU.2.2.2.2.2.2.2.2.2.2.2.2.2.2.2.2.1
def Txt.Im:=T.iU.2.2.2.2.2.2.2.2.2.2.2.2.2.2.2.2.2.1
def Txt.Xn:=T.iU.2.2.2.2.2.2.2.2.2.2.2.2.2.2.2.2.2.2.1
def Txt.ak9:=T.iU.2.2.2.2.2.2.2.2.2.2.2.2.2.2.2.2.2.2.2
def Txt.ac1:=T.afr
theorem Txt.Ri:b0 K t.D6 De []:=T.Be.binds fun _ _ _ _ _ _=>hg fun _ _ _=>rfl
theorem Txt.amt:b0 K t.FH AE []:=T.L7.binds fun _ _ _ _ _ _=>hg fun _ _ _=>rfl
theorem Txt.S5:b0 K t.BF rX []:=T.C5.binds fun _ _ _ _ _ _=>hg fun _ _ _=>rfl
theorem Txt.agn:b0 K t.Av rX []:=T.GG.binds fun _ _ _ _ _ _=>hg fun _ _ _=>rfl
theorem Txt.air:b0 K t.zy ["text"] []:=T.Jy.binds fun _ _ _ _ _ _=>iS fun _=>rfl
theorem Txt.SK:b0 K t.LD wy []:=T.zi.binds fun _ _ _ _ _ _=>hg fun _ _ _=>rfl
theorem Txt.agI:b0 K t.FJ BH []:=T.FQ.binds fun _ _ _ _ _ _=>gi fun _ _=>rfl
theorem Txt.akl:b0 K t.HJ Hk []:=T.HX.binds fun _ _ _ _ _ _=>hg fun _ _ _=>rfl
theorem Txt.ahN:b0 K t.H_ ["word"] []:=T.JN.binds fun _ _ _ _ _ _=>iS fun _=>rfl
theorem Txt.ON:b0 K t.w1 ["text"] []:=T.AF.binds fun _ _ _ _ _ _=>iS fun _=>rfl
theorem Txt.wv:b0 K t.JY CV []:=T.wb.binds fun _ _ _ _ _ _=>gi fun _ _=>rfl
theorem Txt.Mf:b0 K t.Mb ["members"] []:=T.xA.binds fun _ _ _ _ _ _=>iS fun _=>rfl
theorem Txt.Yy:b0 K t.LY H8 []:=T.IA.binds fun _ _ _ _ _ _=>hg fun _ _ _=>rfl
theorem Txt.RS:b0 K t.Hf k2 []:=T.Cf.binds fun _ _ _ _ _ _=>gi fun _ _=>rfl
theorem Txt.XE:b0 K t.LV Ky []:=T.EC.binds fun _ _ _ _ _ _=>hg fun _ _ _=>rfl
theorem Txt.ahF:b0 K t.AJ Dt []:=T.HD.binds fun _ _ _ _ _ _=>hg fun _ _ _=>rfl
theorem Txt.ajD:b0 K t.Ag k2 []:=T.Ht.binds fun _ _ _ _ _ _=>gi fun _ _=>rfl
theorem Txt.ahU:b0 K t.zP k2 []:=T.Lm.binds fun _ _ _ _ _ _=>gi fun _ _=>rfl
theorem Txt.Zg:b0 K t.Aw k2 []:=T.Kx.binds fun _ _ _ _ _ _=>gi fun _ _=>rfl
theorem Txt.ag8:b0 K t.y9 wk []:=T.IH.binds fun _ _ _ _ _ _=>gi fun _ _=>rfl
theorem Txt.Wm:b0 K t.Lv zK []:=T.zM.binds fun _ _ _ _ _ _=>gi fun _ _=>rfl
theorem Txt.x4:b0 K t.Cb wK []:=T.tc.binds fun _ _ _ _ _ _=>hg fun _ _ _=>rfl
theorem Txt.Yw:b0 K t.Gs ko []:=T.LG.binds fun _ _ _ _ _ _=>gi fun _ _=>rfl
theorem Txt.amQ:b0 K t.E6 ko []:=T.GF.binds fun _ _ _ _ _ _=>gi fun _ _=>rfl
theorem Txt.afK:b0 K t.Fe DT []:=T.LC.binds fun _ _ _ _ _ _=>hg fun _ _ _=>rfl
theorem Txt.JT:b0 K t.uA vg []:=T.vT.binds fun _ _ _ _ _ _=>NG fun _ _ _ _=>rfl
theorem Txt.aci:b0 K t.z3 ko []:=T.F_.binds fun _ _ _ _ _ _=>gi fun _ _=>rfl
theorem Txt.QC:b0 K t.CE ko []:=T.B'.binds fun _ _ _ _ _ _=>gi fun _ _=>rfl
theorem Txt.Qm:b0 K t.xb yn []:=T.zI.binds fun _ _ _ _ _ _=>hg fun _ _ _=>rfl
theorem Txt.Rk:b0 K t.Fs Ie []:=T.CB.binds fun _ _ _ _ _ _=>NG fun _ _ _ _=>rfl
theorem Txt.ahR:b0 K t.LI GR []:=T.G2.binds fun _ _ _ _ _ _=>hg fun _ _ _=>rfl
theorem Txt.alf:b0 K t.C1 zU []:=T.KS.binds fun _ _ _ _ _ _=>hg fun _ _ _=>rfl
theorem Txt.al3:b0 K t.xX A4 []:=T.Kw.binds fun _ _ _ _ _ _=>gi fun _ _=>rfl
theorem Txt.ab5:b0 K t.zT ["reader"] []:=T.EF.binds fun _ _ _ _ _ _=>iS fun _=>rfl
theorem Txt.Zi:b0 K t.HO L_ []:=T.Io.binds fun _ _ _ _ _ _=>gi fun _ _=>rfl
theorem Txt.ach:b0 K t.Hv BR []:=T.LK.binds fun _ _ _ _ _ _=>hg fun _ _ _=>rfl
theorem Txt.WR:b0 K t.Mi B1 []:=T.GL.binds fun _ _ _ _ _ _=>BA fun _ _ _ _ _ _ _=>rfl
theorem Txt.aap:b0 K t.D_ DM []:=T.JM.binds fun _ _ _ _ _ _=>hg fun _ _ _=>rfl
theorem Txt.aah:b0 K t.zB ["text"] []:=T.Fv.binds fun _ _ _ _ _ _=>iS fun _=>rfl
theorem Txt.fH:b0 K t.yL ym []:=T.e6.binds fun _ _ _ _ _ _=>hg fun _ _ _=>rfl
theorem Txt.aa4:b0 K t.HY Mh []:=T.K3.binds fun _ _ _ _ _ _=>gi fun _ _=>rfl
theorem Txt.amN:b0 K t.Af z1 []:=T.Lz.binds fun _ _ _ _ _ _=>gi fun _ _=>rfl
theorem Txt.aj0:b0 K t.zt CT []:=T.I7.binds fun _ _ _ _ _ _=>gi fun _ _=>rfl
theorem Txt.adU:b0 K t.Tl Lk []:=T.La.binds fun _ _ _ _ _ _=>hg fun _ _ _=>rfl
theorem Txt.Xm:b0 K t.EH Il []:=T.ES.binds fun _ _ _ _ _ _=>hg fun _ _ _=>rfl
theorem Txt.ajb:b0 K t.Dk Cu []:=T.IX.binds fun _ _ _ _ _ _=>hg fun _ _ _=>rfl
theorem Txt.alU:b0 K t.Ac Ai []:=T.LW.binds fun _ _ _ _ _ _=>gi fun _ _=>rfl
theorem Txt.Z2:b0 K t.CD DH []:=T.HA.binds fun _ _ _ _ _ _=>hg fun _ _ _=>rfl
theorem Txt.agQ:b0 K t.DP xT []:=T.T1.binds fun _ _ _ _ _ _=>hg fun _ _ _=>rfl
theorem Txt.Ej:b0 K t.H9 ["self"] []:=T.Wl.binds fun _ _ _ _ _ _=>iS fun _=>rfl
theorem Txt.Qa:b0 K t.F5 ["self"] []:=T.ii.binds fun _ _ _ _ _ _=>iS fun _=>rfl
theorem Txt.Jc:b0 K t.Jb DX []:=T.S2.binds fun _ _ _ _ _ _=>gi fun _ _=>rfl
theorem Txt.xf:b0 K t.I' Fw []:=T.US.binds fun _ _ _ _ _ _=>gi fun _ _=>rfl
theorem Txt.q4:b0 K t.I9 FL []:=T.PQ.binds fun _ _ _ _ _ _=>hg fun _ _ _=>rfl
theorem Txt.T6:b0 K t.Kq ["self"] []:=T.O5.binds fun _ _ _ _ _ _=>iS fun _=>rfl
theorem Txt.ah5:b0 K t.D' Bk []:=T.Pg.binds fun _ _ _ _ _ _=>hg fun _ _ _=>rfl
theorem Txt.Gl:b0 K t.E3 z7 []:=T.QK.binds fun _ _ _ _ _ _=>abd fun _ _ _ _ _ _ _ _=>rfl
theorem Txt.Y0:b0 K t.DC lp []:=T.PY.binds fun _ _ _ _ _ _=>BA fun _ _ _ _ _ _ _=>rfl
theorem Txt.ajQ:b0 K t.FF ["self"] []:=T.PZ.binds fun _ _ _ _ _ _=>iS fun _=>rfl
theorem Txt.abR:b0 K t.El ["self"] []:=T.M6.binds fun _ _ _ _ _ _=>iS fun _=>rfl
theorem Txt.ahI:b0 K t.zO lp []:=T.RV.binds fun _ _ _ _ _ _=>BA fun _ _ _ _ _ _ _=>rfl
theorem Txt.ah6:b0 K t.GA ["self"] []:=T.Ov.binds fun _ _ _ _ _ _=>iS fun _=>rfl
theorem Txt.al_:b0 K t.Tk ["self"] []:=T.O3.binds fun _ _ _ _ _ _=>iS fun _=>rfl
theorem Txt.aeM:b0 K t.AP lp []:=T.SN.binds fun _ _ _ _ _ _=>BA fun _ _ _ _ _ _ _=>rfl
theorem Txt.ac0:b0 K t.JQ ["self"] []:=T.TZ.binds fun _ _ _ _ _ _=>iS fun _=>rfl
theorem Txt.Ys:b0 K t.Hg ["self"] []:=T.PG.binds fun _ _ _ _ _ _=>iS fun _=>rfl
theorem Txt.Xk:b0 K t.BM B9 []:=T.Ta.binds fun _ _ _ _ _ _=>hg fun _ _ _=>rfl
theorem Txt.Uf:b0 K t.AL ["self"] []:=T.O_.binds fun _ _ _ _ _ _=>iS fun _=>rfl
theorem Txt.X9:b0 K t.wf jU []:=T.Ts.binds fun _ _ _ _ _ _=>gi fun _ _=>rfl
theorem Txt.n4:b0 K t.xt jU []:=T.Tj.binds fun _ _ _ _ _ _=>gi fun _ _=>rfl
theorem Txt.ail:b0 K t.Dh w_ []:=T.V2.binds fun _ _ _ _ _ _=>gi fun _ _=>rfl
theorem Txt.alW:b0 K t.Kr ["self"] []:=T.No.binds fun _ _ _ _ _ _=>iS fun _=>rfl
theorem Txt.XJ:b0 K t.Ls jU []:=T.RW.binds fun _ _ _ _ _ _=>gi fun _ _=>rfl
theorem Txt.Zq:b0 K t.EI jU []:=T.Pk.binds fun _ _ _ _ _ _=>gi fun _ _=>rfl
theorem Txt.age:b0 K t.zl Br []:=T.U2.binds fun _ _ _ _ _ _=>gi fun _ _=>rfl
theorem Txt.Ym:b0 K t.FP rB []:=T.zn.binds fun _ _ _ _ _ _=>gi fun _ _=>rfl
theorem Txt.adh:b0 K t.GW rB []:=T.S'.binds fun _ _ _ _ _ _=>gi fun _ _=>rfl
theorem Txt.aiC:b0 K t.Ep ["self"] []:=T.Qj.binds fun _ _ _ _ _ _=>iS fun _=>rfl
theorem Txt.aby:b0 K t.Cm ["self"] []:=T.NX.binds fun _ _ _ _ _ _=>iS fun _=>rfl
theorem Txt.ajX:b0 K t.G8 Cz []:=T.QL.binds fun _ _ _ _ _ _=>gi fun _ _=>rfl
theorem Txt.Oo:b0 K t.Kj ["self"] []:=T.PN.binds fun _ _ _ _ _ _=>iS fun _=>rfl
end
noncomputable def dt (ns:List Int) (k m:Int):Int:=
 ((((if 0 < (ns.length:Int) then ns.getD (k % (ns.length:Int)).toNat 0 else 0) % 1000003 + 31 * k * k + 1) * 48271 % 999983 * 7919) % 524287) % m
theorem ht (ns:List Int) (k:Int) {m:Int} (h:0 < m):0 <= dt ns k m:=uO _ (by omega)
theorem hq (ns:List Int) (k:Int) {m:Int} (h:0 < m):dt ns k m < m:=vo _ h
def ig (K:bk) (a:Addr) (ns:List Int):bM:=fun vs H Q _=>∃ k m,vs=[.ref a,.int k,.int m]/\Sc K a ns H/\(0 <= k/\k < 1000000)/\0 < m/\Q (.int (dt ns k m)) H
variable {P:Program} {w:World} {K:bk} {mg:Str->Option Value} {base:Heap} {t:bK}
abbrev cm (P:Program) (base:Heap) {w:World} {K:bk} {mg:Str->Option Value} {t:bK} (_:Txt w K mg t):=cD P w K mg base dk
variable (T:Txt w K mg t)
theorem Ap (a:Addr) (ns:List Int) (hl:ns.length <= 63):cm P base T 1 t.yj t.yL ym (ig K a ns):=by
 exists T.e6.ok uu,9
 obtain ⟨k,m,rfl,S,⟨h0,af⟩,hm,q⟩:=h;refine ⟨_,(db (bT (i:=3) uu.aI (tT (cX rb (fP hL rfl T.hz hE (ag (U 0) aA)) aO (cA _)) (bZ c8 (U 0) (bE iH (U 1) (fP hL rfl T.hz hE (ag (U 0) aA)))) aO))
   (db (bT (i:=4) uu.aI (bE d4 (bE d4 (bE iH (U 3) aO) (bE kg (bE kg aO (U 1)) (U 1))) aO))
   (a0 (b' (bE iH (bE iH (bE kg (bE iH (bE kg (U 4) aO) aO) aO) aO) (U 2)))))),?_⟩
 nofun;refine ⟨_,.inl S.seq,?_⟩;rw [aW];have ag3:(0:Int) <= k * k/\k * k < 1000000 * 1000000:=⟨acu h0 h0,abA (by omega) af h0 (by decide)⟩;have fin:∀ i:Int,(0:Int) < 1000003/\nX 31 k/\nX (31 * k) k/\nX (i % 1000003 + 31 * k * k + 1) 48271/\(0:Int) < 999983/\nX ((i % 1000003 + 31 * k * k + 1) * 48271 % 999983) 7919/\(0:Int) < 524287/\0 < m:=by
  intro i;refine ⟨by decide,.inl (by decide),.inr (by omega),.inr (by decide),by decide,.inr (by decide),by decide,hm⟩
 by_cases c:(0:Int) < (ns.length:Int)
 .rw [if_pos (decide_eq_true c)];have aC:0 <= k % (ns.length:Int)/\k % (ns.length:Int) < (ns.length:Int):=⟨uO _ (by omega),vo _ c⟩;refine ⟨_,.inl S.seq,by rw [aW];exact c,_,S.seq,?_⟩;rw [aW];have aG:(k % (ns.length:Int)).toNat < ns.length:=by omega
  refine ⟨.int ns[(k % (ns.length:Int)).toNat],?_,_,rfl,?_⟩
  .have e:=cp (xs:=ns.map V.int) (j:=(k % (ns.length:Int)).toNat) (v:=.int ns[(k % (ns.length:Int)).toNat]) (by rw [df,a' aG] <;> rfl);rwa [sg aC.1] at e
  .obtain ⟨f1,f2,ez,f4,e0,oE,ma,f8⟩:=fin ns[(k % (ns.length:Int)).toNat];refine ⟨f1,f2,ez,f4,e0,oE,ma,f8,?_⟩;have e:dt ns k m=(((ns[(k % (ns.length:Int)).toNat] % 1000003 + 31 * k * k + 1) * 48271 % 999983 * 7919) % 524287) % m:=by
    unfold dt;rw [if_pos c,jQ,a' aG];rfl
   rw [<- e];exact q
 .rw [if_neg (by simpa using c)];obtain ⟨f1,f2,ez,f4,e0,oE,ma,f8⟩:=fin 0;refine ⟨f1,f2,ez,f4,e0,oE,ma,f8,?_⟩;have e:dt ns k m=(((0 % 1000003 + 31 * k * k + 1) * 48271 % 999983 * 7919) % 524287) % m:=by
   unfold dt;rw [if_neg c]
  rw [<- e];exact q
theorem zk {w:Str}:w=ae "" ↔ w.length=0:=by
 constructor
 .rintro rfl;ac_nf
 .intro h;have e:w.cps=#[]:=Array.eq_empty_of_size_eq_zero h;have aH:(ae "").cps=#[]:=by ac_nf
  cases w;cases ak:ae "";rw [ak] at aH;simp only at e aH;rw [e,aH]
noncomputable def u6 (bp:Str) (c:Nat):Bool:=!(tS bp (jV c) 0 bp.length 1).isEmpty
theorem JK (bp:Str) (c:Nat):u6 bp c=decide (c ∈ bp.cps.toList):=StrLaws.found_one bp c
noncomputable def made (w bp:Str) (m:Int):Bool:=if w=ae "" then false else if m < (w.length:Int) then false else w.cps.toList.all (u6 bp)
def Km:bM:=fun vs H Q _=>∃ w bp m,vs=[.str w,.str bp,.int m]/\w.length <= 1000/\aJ H/\Q (.bo (made w bp m)) H
def Xa:bM:=fun vs H Q _=>∃ w bp m,vs=[.str w,.str bp,.int m]/\w.length <= 1000/\∀ I,aK H I->Q (.bo (made w bp m)) I
theorem PE:cm P base T 1 t.Ko t.LD wy Km:=by
 refine cD.forget (sp:=Xa) ?_ fun vs H Q E h=>?_
 .exists T.zi.ok W7,9
  obtain ⟨w,bp,m,rfl,aN,q⟩:=h;have g0:w.length <= sizeLine:=cL aN (by decide);refine ⟨_,(db (dU (fM.pt (t2 (cX et (U 0) dF (cA _)) (uf (cX rb (fP aat rfl T.hz hE (ag (U 0) aA)) (U 2) (cA _))))) (a0 (b' mW)) eh)
   (a0 (b' (fP (acy rfl) rfl T.ab0 Z9 (ag (g_ rfl (Y7 (U 0)) (fO (sc:=bt On) rfl (by ac_nf)) (N:=["sign","signs"]) (sel:=[none,some 1]) (fT (M:=wy) (by ac_nf)) (e3.of (fun _ _ _ _=>(b7 (i:=0) (d3 (N:=["sign","signs"]) (by ac_nf) rfl))) (fun _ _ _ _=>⟨_,hn,by walk_at "B"⟩) (fun _ _ _ _=>⟨_,(h7 afQ (U 0) (U 1) (by with_unfolding_all rfl)),by walk_at "B"⟩))) aA))))),?_⟩
  nofun;refine dh (decide (w=ae "") || decide (m < (w.length:Int))) (fun Q aV=>?_) (fun aa=>?_) (fun aa=>?_)
  .nofun;by_cases c:w=ae ""
   .rw [if_pos (decide_eq_true c)];rw [decide_eq_true c,te] at aV;exact aV
   .rw [if_neg (by simpa using c)];rw [decide_eq_false c,mM] at aV;exact ⟨g0,aV⟩
  .nofun;have e:made w bp m=false:=by
    unfold made;simp only [s_,decide_eq_true_eq] at aa;by_cases c:w=ae ""
    .rw [if_pos c]
    .rw [if_neg c,if_pos (aa.resolve_left c)]
   have:=q H (aK.refl H);rw [e] at this;exact this
  .nofun;have e:made w bp m=w.cps.toList.all (u6 bp):=by
    unfold made;simp only [zp,decide_eq_false_iff_not] at aa;rw [if_neg aa.1,if_neg aa.2]
   refine c1.amv (fun x=>match x with | .str y=>.bo (!(tS bp y 0 bp.length 1).isEmpty) | _=>.cn) (by rw [Rg];exact g0) (fun i x N ah bj=>?_) (fun p ar=>?_)
   .unfold oK at ah;rw [df] at ah;cases aB:w.cps.toList[i]? with
    | none=>rw [aB] at ah;cases ah
    | some c=>
     rw [aB] at ah;have dW:V.str (jV c)=x:=eE ah;subst dW;nofun;exact ⟨Sub.name,bj⟩
   .refine ⟨p,rfl,w.cps.toList.map (u6 bp),ay.of ?_,?_⟩
    .rw [aQ];unfold oK;rw [qt,qt];rfl
    .have:=q (upd H p (.lst (n9 (fun x=>match x with | .str y=>.bo (!(tS bp y 0 bp.length 1).isEmpty) | _=>.cn) (oK w)))) (ba ar);rw [e] at this;rw [List.all_map];exact this
 .obtain ⟨w,bp,m,e,aN,bx,q⟩:=h;exact ⟨bx,w,bp,m,e,aN,fun I bq=>⟨bq,q⟩⟩
noncomputable abbrev sA:Str:=ae "0123456789"
noncomputable def m4 (c:Nat):Bool:=decide (48 <= c/\c <= 57)
theorem aa1 (c:Nat):u6 sA c=m4 c:=by
 rw [JK,show sA.cps.toList=List.range' 48 10 by ac_nf];unfold m4;refine decide_eq_decide.mpr ?_;rw [List.mem_range'_1];exact and_congr_right fun _=>show c < 58↔c <= 57 from Nat.lt_succ_iff
noncomputable abbrev cs (w:Str):List Nat:=w.cps.toList
theorem Lh (w:Str):(cs w).length=w.length:=by simp [cs,uQ]
noncomputable def kR (w:Str):Bool:=decide (1 <= (cs w).length) && decide ((cs w).length <= 3) && (cs w).all m4 && (decide ((cs w).length <= 1) || decide ((cs w).headD 0 ≠ 48))
noncomputable abbrev val (w:Str):Int:=((V1 (cs w):Nat):Int)
noncomputable def jr (w:Str) (lo ai:Int):V:=if kR w && !(decide (val w < lo) || decide (ai < val w)) then .int (val w) else .cn
theorem R' {w:Str}:w=⟨#[c]⟩↔cs w=[c]:=by
 constructor
 .rintro rfl;rfl
 .intro h;cases w with
  | mk a=>
   have e:a=#[c]:=MH.mp h;rw [e]
theorem FU:ae "0"=⟨#[48]⟩:=by ac_nf
theorem RG (w:Str):made w sA 3=(decide (1 <= (cs w).length) && decide ((cs w).length <= 3) && (cs w).all m4):=by
 unfold made;have e:(u6 sA)=m4:=funext aa1;rw [e];by_cases af:w=ae ""
 .have ak:=zk.mp af;rw [if_pos af,Lh,ak];rfl
 .have ak:¬ w.length=0:=fun z=>af (zk.mpr z)
  rw [if_neg af,Lh];by_cases a5:(3:Int) < (w.length:Int)
  .rw [if_pos a5,decide_eq_false (show ¬ w.length <= 3 by omega),ajw,mv]
  .rw [if_neg a5,decide_eq_true (show 1 <= w.length by omega),decide_eq_true (show w.length <= 3 by omega)];rfl
theorem ZU (h:l.all m4=true):NumText.AllDigits l:=fun c aB=>by
 have:=sZ.mp h c aB;simpa [m4] using this
theorem ajB {w:Str} (h:kR w=true):(1 <= (cs w).length/\(cs w).length <= 3)/\(cs w).all m4=true:=by
 unfold kR at h;simp only [iF,decide_eq_true_eq] at h;exact h.1
def NU:bM:=fun vs H Q _=>∃ w,vs=[.str w,.int 3]/\w.length <= 1000/\aJ H/\Q (.bo (kR w)) H
def afo:bM:=fun vs H Q _=>∃ w lo ai,vs=[.str w,.int lo,.int ai]/\w.length <= 1000/\aJ H/\Q (jr w lo ai) H
theorem amA:cm P base T 2 t.Fd t.FJ BH NU:=by
 refine cv (PE T) fun Fu=>?_;exists T.FQ.ok aaG,9
 obtain ⟨w,rfl,aN,bx,q⟩:=h;have g0:w.length <= sizeLine:=cL aN (by decide);refine ⟨_,(db (dU (xH (oj (bU Fu ao T.Rn T.zi.bl T.SK (ag (U 0) (ag (mz rfl T.acX T.ag7) (ag (U 1) aA)))))) (a0 (b' mW)) eh)
   (a0 (b' (NC (h7 et (U 0) dF (cA _)) (vO (h7 pM (bZ Kt (U 0) aO) dF (cA _))))))),?_⟩
 refine dh (!made w sA 3) (fun Q aV=>?_) (fun aa=>?_) (fun aa=>?_)
 ·(nofun; repeat (dsimp only [Km];nofun));exact ⟨aN,bx,aV⟩
 .nofun;have e:kR w=false:=by
   have ee:made w sA 3=false:=by simpa using aa
   rw [RG] at ee;unfold kR;rw [ee];rfl
  rw [e] at q;exact q
 .have ee:made w sA 3=true:=by simpa using aa
  rw [RG] at ee;rw [gQ];dsimp only;refine ame (.bo (kR w)) (fun Q aV=>?_) ?_
  case refine_2=>exact q
  nofun;have jL:(1 <= (cs w).length/\(cs w).length <= 3)/\(cs w).all m4=true:=by
   simpa only [iF,decide_eq_true_eq] using ee
  obtain ⟨c,r,Jm⟩:∃ c r,cs w=c :: r:=by
   cases h:cs w with
   | nil=>rw [h] at jL;exact absurd jL.1.1 (by decide)
   | cons c r=>exact ⟨c,r,rfl⟩
  have ok:kR w=(decide ((cs w).length <= 1) || decide ((cs w).headD 0 ≠ 48)):=by
   unfold kR;rw [ee,lU]
  by_cases bF:w=ae "0"
  .rw [if_pos (decide_eq_true bF)];have e:cs w=[48]:=by rw [bF,FU]
   rw [ok,e] at aV;exact aV
  .rw [if_neg (by simpa using bF)];refine ⟨g0,c,?_,?_⟩
   .have:=cp (xs:=cs w) (j:=0) (v:=c) (by rw [Jm];rfl);exact this
   .have aH:decide ((⟨#[c]⟩:Str)=ae "0")=decide (c=48):=by
     rw [FU];by_cases q3:c=48
     .rw [q3];simp
     .rw [decide_eq_false q3,decide_eq_false];intro z;have eg:=R'.mp z;exact q3 (q7 eg).1
    rw [aH];have bO:kR w = !decide (c=48):=by
     rw [ok,Jm];show (decide ((c :: r).length <= 1) || decide (c ≠ 48))=_;by_cases q3:c=48
     .have ao:r ≠ []:=fun z=>bF (by rw [FU];exact R'.mpr (by rw [Jm,z,q3]))
      have:¬ (c :: r).length <= 1:=by
       cases r with
       | nil=>exact absurd rfl ao
       | cons d r=>simp
      rw [decide_eq_false this,q3];rfl
     .rw [decide_eq_true q3,aih,decide_eq_false q3];rfl
    rw [<- bO];exact aV
theorem Zf:cm P base T 3 t.EB t.HJ Hk afo:=by
 refine cv (amA T) fun af'=>?_;exists T.HX.ok UT,9
 obtain ⟨w,lo,ai,rfl,aN,bx,q⟩:=h;refine ⟨_,(db (dU (xH (oj (bU af' ao T.ai6 T.FQ.bl T.agI (ag (U 0) (ag (mz rfl T.aa2 T.alM) aA))))) (a0 (b' tP)) eh)
   (db (bT (i:=3) UT.aI (p4 agc rfl T.J_ KO (ag (U 0) aA)))
   (db (dU (fM.pt (t2 (cX lR (U 3) (U 1) (cA _)) (uf (cX rb (U 3) (U 2) (cA _))))) (a0 (b' tP)) eh)
   (a0 (b' (U 3)))))),?_⟩
 refine dh (!kR w) (fun Q aV=>?_) (fun aa=>?_) (fun aa=>?_)
 ·(nofun; repeat (dsimp only [NU];nofun));exact ⟨aN,bx,aV⟩
 .nofun;have ee:kR w=false:=by simpa using aa
  have e:jr w lo ai=.cn:=by unfold jr;rw [ee];rfl
  rw [e] at q;exact q
 .have ee:kR w=true:=by simpa using aa
  have a5:(1 <= (cs w).length/\(cs w).length <= 3)/\(cs w).all m4=true:=by
   have:=ee;unfold kR at this;simp only [iF,decide_eq_true_eq] at this;exact this.1
  have aL:=Lh w;have fc:intText? w=some (val w):=intText_digits (ZU a5.2) (fun z=>by have gZ:cs w=[]:=z;rw [gZ] at a5;exact absurd a5.1.1 (by decide)) (by omega);nofun;refine ⟨val w,fc,by omega,?_⟩;refine dh (decide (val w < lo) || decide (ai < val w)) (fun Q aV=>?_) (fun aB=>?_) (fun aB=>?_)
  .nofun;by_cases c:val w < lo
   .rw [if_pos (decide_eq_true c)];rw [decide_eq_true c,te] at aV;exact aV
   .rw [if_neg (by simpa using c)];rw [decide_eq_false c,mM] at aV;exact aV
  .nofun;have e:jr w lo ai=.cn:=by unfold jr;rw [ee,aB];rfl
   rw [e] at q;exact q
  .nofun;have e:jr w lo ai=.int (val w):=by unfold jr;rw [ee,aB];rfl
   rw [e] at q;exact q
theorem Mm (h:n < 1000):n.log2 < 1920:=by
 by_cases h0:n=0
 .subst h0;decide
 .rw [alJ h0];exact h_ h (cL (show 1000 <= 2 ^ 10 by decide) (Nat.pow_le_pow_right (by decide) (by decide)))
theorem WO:∀ n,n < 1000->(u2 10 n).length <= 3:=by ac_nf
theorem yC {n:Int} (h0:0 <= n) (af:n <= 999):(ae (toString n)).length <= 3:=by
 have e:=adt n.toNat;rw [sg h0] at e;have l:(ae (toString n)).length=(ae (toString n)).cps.toList.length:=by simp [uQ]
 rw [l,e,aW];exact WO _ (by omega)
noncomputable abbrev oq:Str:=ae "abcdefghijklmnopqrstuvwxyz"
def KK:bM:=fun vs H Q _=>∃ w,vs=[.str w]/\w.length <= 1000/\aJ H/\Q (.bo (made w oq 8)) H
theorem adI:cm P base T 2 t.Jg t.H_ ["word"] KK:=by
 refine cv (PE T) fun Fu=>?_;exists T.JN.ok ad2,9
 obtain ⟨w,rfl,aN,bx,q⟩:=h;refine ⟨_,(a0 (b' (bU Fu ao T.Rn T.zi.bl T.SK (ag (U 0) (ag (mz rfl T.W6 T.X2) (ag (mz rfl T.al9 T.agF) aA)))))),?_⟩;(nofun; repeat (dsimp only [Km];nofun));exact ⟨aN,bx,q⟩
noncomputable abbrev nl:Str:=ae "\n"
noncomputable abbrev cP:Str:=ae " "
theorem X8:nl=⟨#[10]⟩:=by ac_nf
theorem SL:cP=⟨#[32]⟩:=by ac_nf
noncomputable def hs (x:Str):List (List Str):=(iQ x nl).map fun r=>iQ r cP
theorem Rf:∀ {ys:List Str} {y:Str},y ∈ ys->y.length <= (ys.map (·.length)).sum
 | [],_,h=>nomatch h
 | a :: r,y,h=>by
  rw [e8,yk];rcases en.mp h with rfl | h
  .omega
  .have:=Rf h;omega
theorem aco {x y r:Str} (a6:1 <= y.length) (h:r ∈ iQ x y):r.length <= x.length + 1:=by
 have af:=aav x y a6;have ak:=Rf h;omega
theorem FN {x y:Str} (a6:1 <= y.length):(iQ x y).length <= x.length + 1:=by
 have af:=aav x y a6;omega
theorem aj7 (x y:Str):iQ x y ≠ []:=by
 unfold iQ;split
 .simp
 .split
  .simp
  .rw [StrLaws.partsBetween_eq];obtain ⟨p,r,e⟩:=StrLaws.partsFrom_ne x y.length 0 (tS x y 0 x.length (x.length + 1));rw [e];simp
def aki (cu H:aw) (p:Addr) (rows:List (List Str)):Prop:=∃ qs:List Addr,H p=some (.lst (qs.map V.ref))/\cu p=none/\p ∉ qs/\qs.length=rows.length/\∀ (i:Nat) (q:Addr) (r:List Str),qs[i]? = some q->rows[i]? = some r->H q=some (.lst (aY r))/\cu q=none
def UF:bM:=fun vs H Q _=>∃ x,vs=[.str x]/\x.length <= 20000/\aJ H/\∀ p I,aK H I->aJ I->aki H I p (hs x)->Q (.ref p) I
theorem wH:nl.length=1:=by ac_nf
theorem rS:cP.length=1:=by ac_nf
theorem abK:cm P base T 1 t.CS t.zy ["text"] UF:=by
 exists T.Jy.ok akK,9
 obtain ⟨x,rfl,aN,bx,q⟩:=h;have jw:∀ n:Nat,n <= 40000->n <= sizeLine:=fun n h=>cL h (by decide)
 refine ⟨_,(a0 (b' (g_ rfl (e5 (eF vt z8 ag2 T' (U 0) (ag dF aA))) (fO (sc:=bt Jk) rfl (by ac_nf)) (N:=["row"]) (sel:=[none]) (fT (M:=["text"]) (by ac_nf)) (e3.of (fun _ _ _ _=>(b7 (i:=0) (d3 (N:=["row"]) (by ac_nf) rfl))) (fun _ _ _ _=>⟨_,hn,by walk_at "B"⟩) (fun _ _ _ _=>⟨_,(eF vt z8 ag2 T' (U 0) (ag dF aA)),by walk_at "B"⟩))))),?_⟩;nofun;have a6:1 <= nl.length:=by rw [wH];exact bP _
 have alE:1 <= cP.length:=by rw [rS];exact bP _
 have ax:=FN (x:=x) a6;have j7:(aY (iQ x nl)).length <= sizeLine:=by unfold aY;rw [aW];exact jw _ (by omega)
 refine ⟨by rw [wH];decide,jw _ (by omega),jw _ (show (iQ x nl).length <= 40000 by omega),fun p ar=>⟨⟨_,ay.of aQ⟩,?_⟩⟩;refine c1.akb (xs:=aY (iQ x nl)) (fun v=>match v with | .str r=>.lst (aY (iQ r cP)) | _=>.lst []) (ay.of aQ) j7 (fun v=>by cases v <;> rfl) (fun i v H1 N ah bq iP bj=>?_) (fun qs H1 bq iP aL al dH fV=>?_)
 .unfold aY at ah;rw [df] at ah;cases ao:(iQ x nl)[i]? with
  | none=>rw [ao] at ah;cases ah
  | some r=>
   rw [ao] at ah;have e:=eE ah;subst e;have hm:=aco a6 (b9 ao);have h9:=FN (x:=r) alE;nofun;exact ⟨Sub.name,by rw [rS];decide,jw _ (by omega),jw _ (show (iQ r cP).length <= 40000 by omega),bj⟩
 .have Ic:aK H H1:=(ba ar).trans bq;refine q _ _ (Ic.gz (Ic.free fV)) ((iP (bx.upd)).upd) ⟨qs,aQ,Ic.free fV,fun hm=>?_,?_,fun i dB r af ak=>?_⟩
  .obtain ⟨j,aG,e⟩:=Dg hm;have alP:j < (aY (iQ x nl)).length:=by omega
   have:=al j dH _ (by rw [a' aG,e]) (a' alP);rw [fV] at this;cases this.1
  .rw [aL];unfold hs aY;rw [aW,aW]
  .unfold hs at ak;rw [df] at ak;cases ao:(iQ x nl)[i]? with
   | none=>rw [ao] at ak;cases ak
   | some qF=>
    rw [ao] at ak;have e:=eE ak;subst e;have z:=al i dB (.str qF) af (by unfold aY;rw [df,ao];rfl);refine ⟨by rw [aM (dm z.1 fV)];exact z.1,?_⟩;have:=z.2;by_cases aR:dB=p
    .rw [aR];exact ar
    .rwa [aM aR] at this
structure bc where
 k:Nat
 name:Str
 start:Int
 fin:Int
 off:Int
 near:Int
 least:Int
noncomputable def eN:Nat->Str
 | 0=>ae "car"
 | 1=>ae "foot"
 | _=>ae "tram"
noncomputable def bK.gB (t:bK):Nat->Addr
 | 0=>t.jI
 | 1=>t.jK
 | _=>t.j4
noncomputable def o9 (d:bc):List (Str × V):=[(ae "kind",.str (eN d.k)),(ae "name",.str d.name),(ae "start",.int d.start),(ae "end",.int d.fin),(ae "off",.int d.off),(ae "near",.int d.near),(ae "least",.int d.least)]
noncomputable abbrev pk:List Str:=[ae "kind",ae "name",ae "start",ae "end",ae "off",ae "near",ae "least"]
theorem TF (d:bc):(o9 d).map (·.1)=pk:=rfl
def eW (t:bK) (H:aw) (p:Addr) (d:bc):Prop:=d.k < 3/\∃ az,H p=some (.ins (t.gB d.k) az (o9 d))
theorem eW.same {t:bK} {p:Addr} (h:eW t H p d) (s:aK H I):eW t I p d:=⟨h.1,h.2.imp fun az e=>s _ _ e⟩
def uU (t:bK) (C:Addr):Prop:=∃ k,k < 3/\C=t.gB k
noncomputable def ly (d:bc):Int:=match d.k with | 0=>1 | 1=>0 | _=>2
noncomputable def lY (d:bc):Int:=match d.k with | 0=>2 | 1=>d.off | _=>1
section
variable {w:World} {K:bk} {mg:Str->Option Value} {t:bK}
theorem Txt.sa (T:Txt w K mg t):∀ k,hu K (t.gB k)
 | 0=>T.EJ
 | 1=>T.Gd
 | _ + 2=>T.Fo
theorem Txt.Sn (T:Txt w K mg t) (hf:f ∈ pk):∀ k,dD K (t.gB k) f:=by
 intro k;simp only [pk,en,oC,or_false] at hf;rcases hf with rfl | rfl | rfl | rfl | rfl | rfl | rfl
 .match k with
  | 0=>exact T.aic
  | 1=>exact T.ai'
  | _ + 2=>exact T.ajW
 .match k with
  | 0=>exact T.YY
  | 1=>exact T.ZY
  | _ + 2=>exact T.aja
 .match k with
  | 0=>exact T.acK
  | 1=>exact T.aaV
  | _ + 2=>exact T.Z7
 .match k with
  | 0=>exact T.al5
  | 1=>exact T.Zw
  | _ + 2=>exact T.adu
 .match k with
  | 0=>exact T.WU
  | 1=>exact T.WQ
  | _ + 2=>exact T.ajO
 .match k with
  | 0=>exact T.abW
  | 1=>exact T.alb
  | _ + 2=>exact T.ahb
 .match k with
  | 0=>exact T.Z'
  | 1=>exact T.amr
  | _ + 2=>exact T.alC
theorem Txt.cw_inj (T:Txt w K mg t) {j k:Nat} (aG:j < 3) (aC:k < 3) (e:t.gB j=t.gB k):j=k:=by
 match j,k,aG,aC with
 | 0,0,_,_=>rfl
 | 0,1,_,_=>exact absurd e T.Q7
 | 0,2,_,_=>exact absurd e T.VK
 | 1,0,_,_=>exact absurd e.symm T.Q7
 | 1,1,_,_=>rfl
 | 1,2,_,_=>exact absurd e T.V_
 | 2,0,_,_=>exact absurd e.symm T.VK
 | 2,1,_,_=>exact absurd e.symm T.V_
 | 2,2,_,_=>rfl
 | j + 3,_,h,_=>omega
 | _,k + 3,_,h=>omega
theorem eW.fld (T:Txt w K mg t) {p:Addr} (h:eW t H p d) (i:Nat) (ai:pk.findIdx? (· == f)=some i) (aF:(o9 d)[i]? = some (f,v)):fY K H p f v:=by
 obtain ⟨_,az,e⟩:=h;have hm:f ∈ pk:=by
  obtain ⟨dw,af,_⟩:=List.findIdx?_eq_some_iff_getElem.mp ai;have:pk[i]=f:=by simpa using af
  rw [<- this];exact g6 dw
 exact ⟨_,az,_,e,T.sa _,T.Sn hm _,gK pk i (TF d) ai aF⟩
theorem eW.ahe (T:Txt w K mg t) {p:Addr} (h:eW t H p d):fY K H p (ae "kind") (.str (eN d.k)):=h.fld T 0 (by ac_nf) rfl
theorem eW.Lr (T:Txt w K mg t) {p:Addr} (h:eW t H p d):fY K H p (ae "name") (.str d.name):=h.fld T 1 (by ac_nf) rfl
theorem eW.ud (T:Txt w K mg t) {p:Addr} (h:eW t H p d):fY K H p (ae "start") (.int d.start):=h.fld T 2 (by ac_nf) rfl
theorem eW.sQ (T:Txt w K mg t) {p:Addr} (h:eW t H p d):fY K H p (ae "end") (.int d.fin):=h.fld T 3 (by ac_nf) rfl
theorem eW.SR (T:Txt w K mg t) {p:Addr} (h:eW t H p d):fY K H p (ae "off") (.int d.off):=h.fld T 4 (by ac_nf) rfl
theorem eW.ajE (T:Txt w K mg t) {p:Addr} (h:eW t H p d):fY K H p (ae "near") (.int d.near):=h.fld T 5 (by ac_nf) rfl
theorem eW.Xq (T:Txt w K mg t) {p:Addr} (h:eW t H p d):fY K H p (ae "least") (.int d.least):=h.fld T 6 (by ac_nf) rfl
end
def aiv (t:bK):bM:=fun vs H Q _=>∃ (p az:Addr) (d:bc),vs=[.ref p,.str (eN d.k),.str d.name,.int d.start,.int d.fin,.int d.off,.int d.near,.int d.least]/\d.k < 3/\H p=some (.ins (t.gB d.k) az [])/\Q .cn (upd H p (.ins (t.gB d.k) az (o9 d)))
def v3 (t:bK) (k:Nat):bM:=fun vs H Q _=>∃ (p az:Addr) (d:bc),vs=[.ref p,.str d.name,.int d.start,.int d.fin,.int d.off,.int d.near,.int d.least]/\d.k=k/\H p=some (.ins (t.gB d.k) az [])/\Q .cn (upd H p (.ins (t.gB d.k) az (o9 d)))
theorem Hh:cm P base T 1 t.Ab t.E3 z7 (aiv t):=by
 exists T.QK.ok agp,9
 obtain ⟨p,az,d,rfl,aC,ar,q⟩:=h;refine ⟨_,(db (fe (U 0) (U 1) rfl)
   (db (fe (U 0) (U 2) rfl)
   (db (fe (U 0) (U 3) rfl)
   (db (fe (U 0) (U 4) rfl)
   (db (fe (U 0) (U 5) rfl)
   (db (fe (U 0) (U 6) rfl)
   (a0 (fe (U 0) (U 7) rfl)))))))),?_⟩
 nofun;have na:∀ {f:Str},f ∈ pk->dD K (t.gB d.k) f:=fun hf=>T.Sn hf d.k
 refine ⟨_,_,_,ar,T.sa _,na (by ac_nf),by decide,?_⟩;refine ⟨_,_,_,aQ,T.sa _,na (by ac_nf),g5 (n:=999) (by decide),?_⟩;refine ⟨_,_,_,aQ,T.sa _,na (by ac_nf),g5 (n:=999) (g5 (n:=998) (by decide)),?_⟩;refine ⟨_,_,_,aQ,T.sa _,na (by ac_nf),g5 (n:=999) (g5 (n:=998) (g5 (n:=997) (by decide))),?_⟩;refine ⟨_,_,_,aQ,T.sa _,na (by ac_nf),g5 (n:=999) (g5 (n:=998) (g5 (n:=997) (g5 (n:=996) (by decide)))),?_⟩;refine ⟨_,_,_,aQ,T.sa _,na (by ac_nf),g5 (n:=999) (g5 (n:=998) (g5 (n:=997) (g5 (n:=996) (g5 (n:=995) (by decide))))),?_⟩;refine ⟨_,_,_,aQ,T.sa _,na (by ac_nf),g5 (n:=999) (g5 (n:=998) (g5 (n:=997) (g5 (n:=996) (g5 (n:=995) (g5 (n:=994) (by decide)))))),?_⟩;simp only [s7];rw [show de (ae "kind") (V.str (eN d.k)) ([]:List (Str × V))=[(ae "kind",V.str (eN d.k))] from gq [] rfl (by ac_nf),
  show de (ae "name") (V.str d.name) ([(ae "kind",V.str (eN d.k))]:List (Str × V))=[(ae "kind",V.str (eN d.k)),(ae "name",V.str d.name)] from gq [ae "kind"] rfl (by ac_nf),
  show de (ae "start") (V.int d.start) ([(ae "kind",V.str (eN d.k)),(ae "name",V.str d.name)]:List (Str × V))=[(ae "kind",V.str (eN d.k)),(ae "name",V.str d.name),(ae "start",V.int d.start)] from gq [ae "kind",ae "name"] rfl (by ac_nf),
  show de (ae "end") (V.int d.fin) ([(ae "kind",V.str (eN d.k)),(ae "name",V.str d.name),(ae "start",V.int d.start)]:List (Str × V))=[(ae "kind",V.str (eN d.k)),(ae "name",V.str d.name),(ae "start",V.int d.start),(ae "end",V.int d.fin)] from gq [ae "kind",ae "name",ae "start"] rfl (by ac_nf),
  show de (ae "off") (V.int d.off) ([(ae "kind",V.str (eN d.k)),(ae "name",V.str d.name),(ae "start",V.int d.start),(ae "end",V.int d.fin)]:List (Str × V))=[(ae "kind",V.str (eN d.k)),(ae "name",V.str d.name),(ae "start",V.int d.start),(ae "end",V.int d.fin),(ae "off",V.int d.off)] from gq [ae "kind",ae "name",ae "start",ae "end"] rfl (by ac_nf),
  show de (ae "near") (V.int d.near) ([(ae "kind",V.str (eN d.k)),(ae "name",V.str d.name),(ae "start",V.int d.start),(ae "end",V.int d.fin),(ae "off",V.int d.off)]:List (Str × V))=[(ae "kind",V.str (eN d.k)),(ae "name",V.str d.name),(ae "start",V.int d.start),(ae "end",V.int d.fin),(ae "off",V.int d.off),(ae "near",V.int d.near)] from gq [ae "kind",ae "name",ae "start",ae "end",ae "off"] rfl (by ac_nf),
  show de (ae "least") (V.int d.least) ([(ae "kind",V.str (eN d.k)),(ae "name",V.str d.name),(ae "start",V.int d.start),(ae "end",V.int d.fin),(ae "off",V.int d.off),(ae "near",V.int d.near)]:List (Str × V))=[(ae "kind",V.str (eN d.k)),(ae "name",V.str d.name),(ae "start",V.int d.start),(ae "end",V.int d.fin),(ae "off",V.int d.off),(ae "near",V.int d.near),(ae "least",V.int d.least)] from gq [ae "kind",ae "name",ae "start",ae "end",ae "off",ae "near"] rfl (by ac_nf)]
 exact q
theorem XM:cm P base T 2 t.xk t.DC lp (v3 t 0):=by
 refine cv (Hh T) fun wa=>?_;exists T.PY.ok Yl,9
 obtain ⟨p,az,d,rfl,aC,ar,q⟩:=h;refine ⟨_,(a0 (dS (G9 rfl T.KD T.FY wa ao T.Gl .nil c2 (ag (U 0) (ag dF (ag (U 1) (ag (U 2) (ag (U 3) (ag (U 4) (ag (U 5) (ag (U 6) aA))))))))))),?_⟩;nofun;exact ⟨p,az,d,by rw [aC];rfl,by omega,ar,q⟩
theorem agr:cm P base T 2 t.wJ t.zO lp (v3 t 1):=by
 refine cv (Hh T) fun wa=>?_;exists T.RV.ok aeh,9
 obtain ⟨p,az,d,rfl,aC,ar,q⟩:=h;refine ⟨_,(a0 (dS (G9 rfl T.KD T.FY wa ao T.Gl .nil c2 (ag (U 0) (ag dF (ag (U 1) (ag (U 2) (ag (U 3) (ag (U 4) (ag (U 5) (ag (U 6) aA))))))))))),?_⟩;nofun;exact ⟨p,az,d,by rw [aC];rfl,by omega,ar,q⟩
theorem GM:cm P base T 2 t.wM t.AP lp (v3 t 2):=by
 refine cv (Hh T) fun wa=>?_;exists T.SN.ok aa',9
 obtain ⟨p,az,d,rfl,aC,ar,q⟩:=h;refine ⟨_,(a0 (dS (G9 rfl T.KD T.FY wa ao T.Gl .nil c2 (ag (U 0) (ag dF (ag (U 1) (ag (U 2) (ag (U 3) (ag (U 4) (ag (U 5) (ag (U 6) aA))))))))))),?_⟩;nofun;exact ⟨p,az,d,by rw [aC];rfl,by omega,ar,q⟩
def vc (t:bK) (C:Addr):bM:=fun vs H Q _=>∃ p d,vs=[.ref p]/\eW t H p d/\C=t.gB d.k/\Q (.int (ly d)) H
def io (t:bK) (C:Addr):bM:=fun vs H Q _=>∃ p d,vs=[.ref p]/\eW t H p d/\C=t.gB d.k/\Q (.int (lY d)) H
theorem alK:cm P base T 1 t.CR t.FF ["self"] (vc t (t.gB 0)):=by
 exists T.PZ.ok agV,9
 obtain ⟨p,d,rfl,W,dg,q⟩:=h;have aC:=(T.cw_inj (by decide) W.1 dg).symm;refine ⟨_,(a0 (b' aO)),?_⟩;rw [show ly d=1 by unfold ly;simp only [aC]] at q;nofun;exact q
theorem ake:cm P base T 1 t.Ba t.GA ["self"] (vc t (t.gB 1)):=by
 exists T.Ov.ok akg,9
 obtain ⟨p,d,rfl,W,dg,q⟩:=h;have aC:=(T.cw_inj (by decide) W.1 dg).symm;refine ⟨_,(a0 (b' aO)),?_⟩;rw [show ly d=0 by unfold ly;simp only [aC]] at q;nofun;exact q
theorem aaP:cm P base T 1 t.D1 t.JQ ["self"] (vc t (t.gB 2)):=by
 exists T.TZ.ok aaK,9
 obtain ⟨p,d,rfl,W,dg,q⟩:=h;have aC:=(T.cw_inj (by decide) W.1 dg).symm;refine ⟨_,(a0 (b' aO)),?_⟩;rw [show ly d=2 by unfold ly;simp only [aC]] at q;nofun;exact q
theorem Pt (T:Txt w K mg t):qi P w K mg base dk 1 (uU t) "ready" ["self"] (vc t):=by
 refine ⟨fun C dg=>?_⟩;obtain ⟨k,aC,rfl⟩:=dg
 match k,aC with
 | 0,_=>exact ⟨_,_,T.EJ,T.akC,alK T,T.ajQ⟩
 | 1,_=>exact ⟨_,_,T.Gd,T.acA,ake T,T.ah6⟩
 | 2,_=>exact ⟨_,_,T.Fo,T.amq,aaP T,T.ac0⟩
theorem aep:cm P base T 1 t.A5 t.El ["self"] (io t (t.gB 0)):=by
 exists T.M6.ok Ix,9
 obtain ⟨p,d,rfl,W,dg,q⟩:=h;have aC:=(T.cw_inj (by decide) W.1 dg).symm;refine ⟨_,(a0 (b' aO)),?_⟩;rw [show lY d=2 by unfold lY;simp only [aC]] at q;nofun;exact q
theorem lw:cm P base T 1 t.Dq t.Tk ["self"] (io t (t.gB 1)):=by
 exists T.O3.ok ala,9
 obtain ⟨p,d,rfl,W,dg,q⟩:=h;have aC:=(T.cw_inj (by decide) W.1 dg).symm;refine ⟨_,(a0 (b' (bw (U 0) rfl))),?_⟩;rw [show lY d=d.off by unfold lY;simp only [aC]] at q;nofun;exact ⟨_,W.SR T,q⟩
theorem Xu:cm P base T 1 t.z' t.Hg ["self"] (io t (t.gB 2)):=by
 exists T.PG.ok aeu,9
 obtain ⟨p,d,rfl,W,dg,q⟩:=h;have aC:=(T.cw_inj (by decide) W.1 dg).symm;refine ⟨_,(a0 (b' aO)),?_⟩;rw [show lY d=1 by unfold lY;simp only [aC]] at q;nofun;exact q
theorem OC (T:Txt w K mg t):qi P w K mg base dk 1 (uU t) "fade" ["self"] (io t):=by
 refine ⟨fun C dg=>?_⟩;obtain ⟨k,aC,rfl⟩:=dg
 match k,aC with
 | 0,_=>exact ⟨_,_,T.EJ,T.alX,aep T,T.abR⟩
 | 1,_=>exact ⟨_,_,T.Gd,T.alT,lw T,T.al_⟩
 | 2,_=>exact ⟨_,_,T.Fo,T.afB,Xu T,T.Ys⟩
noncomputable def lN (c:Nat):List (List Nat)->List Nat
 | []=>[]
 | [a]=>a
 | a :: b :: r=>a ++ c :: lN c (b :: r)
theorem Ug:∀ {a b X Y:List Nat},c ∉ a->c ∉ b->a ++ c :: X=b ++ c :: Y->a=b/\X=Y
 | [],[],X,Y,_,_,h=>⟨rfl,(q7 h).2⟩
 | [],d :: b,X,Y,_,aa,h=>absurd (q7 h).1 (fun z=>aa (by simp [<- z]))
 | d :: a,[],X,Y,aP,_,h=>absurd (q7 h).1 (fun z=>aP (by simp [z]))
 | d :: a,e :: b,X,Y,aP,aa,h=>by
  obtain ⟨af,ak⟩:=q7 h;obtain ⟨aq,aH⟩:=Ug (fun z=>aP (ik _ z)) (fun z=>aa (ik _ z)) ak;exact ⟨by rw [af,aq],aH⟩
theorem U3:∀ {ps qs:List (List Nat)},(∀ p ∈ ps,c ∉ p)->(∀ q ∈ qs,c ∉ q)->ps ≠ []->qs ≠ []->lN c ps=lN c qs->ps=qs
 | [a],[b],_,_,_,_,h=>by rw [show a=b from h]
 | [a],b :: gI :: r,aP,_,_,_,h=>absurd (show c ∈ a by rw [show a=b ++ c :: lN c (gI :: r) from h];simp) (aP a (by simp))
 | a :: uw :: r,[b],_,aa,_,_,h=>absurd (show c ∈ b by rw [show b=a ++ c :: lN c (uw :: r) from h.symm];simp) (aa b (by simp))
 | a :: uw :: r,b :: gI :: s,aP,aa,_,_,h=>by
  obtain ⟨aq,aH⟩:=Ug (aP a (by simp)) (aa b (by simp)) (show a ++ c :: lN c (uw :: r)=b ++ c :: lN c (gI :: s) from h);rw [aq,U3 (fun p ar=>aP p (ik _ ar)) (fun q aR=>aa q (ik _ aR)) (by simp) (by simp) aH]
 | [],_,_,_,h,_,_=>absurd rfl h
 | _ :: _,[],_,_,_,h,_=>absurd rfl h
theorem Ry:∀ {ps:List (List Nat)},d ∈ lN c ps->d=c\/∃ p ∈ ps,d ∈ p
 | [],h=>nomatch h
 | [a],h=>.inr ⟨a,by simp,h⟩
 | a :: b :: r,h=>by
  rcases eR.mp (show d ∈ a ++ c :: lN c (b :: r) from h) with h | h
  .exact .inr ⟨a,by simp,h⟩
  .rcases en.mp h with h | h
   .exact .inl h
   .rcases Ry h with h | ⟨p,ar,h⟩
    .exact .inl h
    .exact .inr ⟨p,ik _ ar,h⟩
theorem r7 (c:Nat):∀ ys:List Str,(d7 ⟨#[c]⟩ ys).cps.toList=lN c (ys.map (·.cps.toList))
 | []=>rfl
 | [a]=>rfl
 | a :: b :: r=>by
  show (a ++ ⟨#[c]⟩ ++ d7 ⟨#[c]⟩ (b :: r)).cps.toList=_;rw [pd,o1,pd,o1,r7 c (b :: r)];simp [lN]
theorem Bs {x y:Str} (h:x.cps.toList=y.cps.toList):x=y:=by
 cases x;cases y;exact congrArg Str.mk (MH.mp h)
theorem MW (aX:ys ≠ []) (hf:∀ y ∈ ys,c ∉ y.cps.toList):iQ (d7 ⟨#[c]⟩ ys) ⟨#[c]⟩=ys:=by
 have e:=congrArg (·.cps.toList) (StrLaws.join_split (d7 ⟨#[c]⟩ ys) ⟨#[c]⟩);simp only [r7] at e;have aH:=U3 (c:=c) (ps:=(iQ (d7 ⟨#[c]⟩ ys) ⟨#[c]⟩).map (·.cps.toList)) (qs:=ys.map (·.cps.toList)) (fun p ar=>by
  obtain ⟨y,a6,rfl⟩:=cc.mp ar;exact StrLaws.split_free _ c y a6) (fun p ar=>by
  obtain ⟨y,a6,rfl⟩:=cc.mp ar;exact hf y a6) (by simp [aj7]) (by simpa using aX) e
 exact (List.map_inj_right fun x y h=>Bs h).mp aH
noncomputable abbrev num (v:Int):Str:=ae (toString v)
theorem ahO:∀ n,n < 1000->(decide (1 <= ((u2 10 n).map xC).length) && decide (((u2 10 n).map xC).length <= 3) && ((u2 10 n).map xC).all m4 && (decide (((u2 10 n).map xC).length <= 1) || decide (((u2 10 n).map xC).headD 0 ≠ 48)) &&
  decide (V1 ((u2 10 n).map xC)=n))=true:=by ac_nf
theorem AW (h0:0 <= v) (af:v < 1000):kR (num v)=true/\val (num v)=v:=by
 have e:=adt v.toNat;rw [sg h0] at e;have a:=ahO v.toNat (by omega);rw [<- e,iF,decide_eq_true_eq] at a;exact ⟨a.1,by show ((V1 (cs (num v)):Nat):Int)=v;rw [a.2];omega⟩
theorem qZ {v lo ai:Int} (h0:0 <= v) (af:v < 1000) (aL:lo <= v) (b2:v <= ai):jr (num v) lo ai=.int v:=by
 obtain ⟨a,b⟩:=AW h0 af;unfold jr;rw [a,b,decide_eq_false (by omega:¬ v < lo),decide_eq_false (by omega:¬ ai < v)];rfl
theorem acL (h0:0 <= u) (af:u < 1000) (ak:0 <= v) (a5:v < 1000) (e:num u=num v):u=v:=by
 rw [<- (AW h0 af).2,e,(AW ak a5).2]
theorem Q3 (h0:0 <= v) (af:v < 1000):∀ c ∈ (num v).cps.toList,48 <= c/\c <= 57:=fun c aB=>by
 have:=sZ.mp (ajB (AW h0 af).1).2 c aB;simpa [m4] using this
theorem XH:∀ c ∈ oq.cps.toList,97 <= c/\c <= 122:=by ac_nf
theorem afH:∀ k,k < 26->97 + k ∈ oq.cps.toList:=by ac_nf
theorem uo {x:Str} (h:made x oq 8=true):(1 <= x.length/\x.length <= 8)/\∀ c ∈ x.cps.toList,97 <= c/\c <= 122:=by
 unfold made at h;split at h
 .cases h
 .rename_i af;split at h
  .cases h
  .rename_i ak;have a5:¬ x.length=0:=fun z=>af (zk.mpr z)
   refine ⟨by omega,fun c aB=>?_⟩;have:=sZ.mp h c aB;rw [JK] at this;exact XH c (of_decide_eq_true this)
theorem adn {x:Str} (h0:1 <= x.length) (af:x.length <= 8) (h:∀ c ∈ x.cps.toList,97 <= c/\c <= 122):made x oq 8=true:=by
 unfold made;rw [if_neg (fun z=>by have:=zk.mp z;omega),if_neg (by omega)];refine sZ.mpr fun c aB=>?_
 have:=h c aB;rw [JK];have e:=afH (c - 97) (by omega);rw [show 97 + (c - 97)=c by omega] at e;exact decide_eq_true e
structure nL (n:Int) (d:bc):Prop where
 k:d.k < 3
 nm:made d.name oq 8=true
 st:0 <= d.start/\d.start < n
 fD:0 <= d.fin/\d.fin < n
 ne:d.start ≠ d.fin
 of:0 <= d.off/\d.off <= 30
 vU:0 <= d.near/\d.near <= 30
 le:1 <= d.least/\d.least <= 60
structure sV (n:Int) (ds:List bc):Prop where
 nn:2 <= n/\n <= 99
 ln:1 <= ds.length/\ds.length <= 12
 al:∀ d ∈ ds,nL n d
 aI:(ds.map (·.name)).Nodup
noncomputable def nH (d:bc):List Str:=[eN d.k,d.name,num d.start,num d.fin,num d.off,num d.near,num d.least]
noncomputable def ip (n:Int) (ds:List bc):List (List Str):=[ae "ring",num n] :: ds.map nH
noncomputable def qu (n:Int) (ds:List bc):Str:=d7 nl ((ip n ds).map (d7 cP))
def qO (x:Str):Prop:=x.length <= 8/\(32:Nat) ∉ x.cps.toList/\(10:Nat) ∉ x.cps.toList
theorem UM (k:Nat):qO (eN k):=by
 match k with
 | 0=>exact ⟨by ac_nf,by ac_nf,by ac_nf⟩
 | 1=>exact ⟨by ac_nf,by ac_nf,by ac_nf⟩
 | _ + 2=>exact ⟨show (ae "tram").length <= 8 by ac_nf,show (32:Nat) ∉ (ae "tram").cps.toList by ac_nf,show (10:Nat) ∉ (ae "tram").cps.toList by ac_nf⟩
theorem lx (h0:0 <= v) (af:v < 1000):qO (num v):=
 ⟨cL (yC h0 (by omega)) (by decide),fun z=>by have:=Q3 h0 af _ z;omega,fun z=>by have:=Q3 h0 af _ z;omega⟩
theorem Gh {x:Str} (h:made x oq 8=true):qO x:=
 ⟨(uo h).1.2,fun z=>by have:=(uo h).2 _ z;omega,fun z=>by have:=(uo h).2 _ z;omega⟩
theorem nL.plain (h:nL n d) (aX:n <= 99):∀ x ∈ nH d,qO x:=fun x ah=>by
 have af:=h.st;have ak:=h.fD;have a5:=h.of;have bN:=h.vU;have dy:=h.le;simp only [nH,en,oC,or_false] at ah;rcases ah with rfl | rfl | rfl | rfl | rfl | rfl | rfl
 .exact UM _
 .exact Gh h.nm
 .exact lx (by omega) (by omega)
 .exact lx (by omega) (by omega)
 .exact lx (by omega) (by omega)
 .exact lx (by omega) (by omega)
 .exact lx (by omega) (by omega)
theorem sV.plain (h:sV n ds):∀ r ∈ ip n ds,∀ x ∈ r,qO x:=fun r ao x ah=>by
 have aX:=h.nn;rcases en.mp ao with rfl | ao
 .simp only [en,oC,or_false] at ah;rcases ah with rfl | rfl
  .exact ⟨by ac_nf,by ac_nf,by ac_nf⟩
  .exact lx (by omega) (by omega)
 .obtain ⟨d,hd,rfl⟩:=cc.mp ao;exact (h.al d hd).plain aX.2 x ah
theorem Qh (h0:rs ≠ []) (af:∀ r ∈ rs,r ≠ []) (ak:∀ r ∈ rs,∀ x ∈ r,qO x):hs (d7 nl (rs.map (d7 cP)))=rs:=by
 unfold hs;rw [X8,SL];rw [MW (by simpa using h0) (fun y a6=>by
  obtain ⟨r,ao,rfl⟩:=cc.mp a6;rw [r7];intro z;rcases Ry z with z | ⟨p,ar,z⟩
  .cases z
  .obtain ⟨x,ah,rfl⟩:=cc.mp ar;exact (ak r ao x ah).2.2 z)]
 rw [qt];have:∀ r ∈ rs,((fun r=>iQ r ⟨#[32]⟩) ∘ d7 ⟨#[32]⟩) r=r:=fun r ao=>MW (af r ao) fun x ah=>(ak r ao x ah).2.1
 exact (aai this).trans (List.map_id rs)
theorem aip (h:sV n ds):hs (qu n ds)=ip n ds:=Qh (by simp [ip]) (fun r ao=>by
 rcases en.mp ao with rfl | ao
 .simp
 .obtain ⟨d,hd,rfl⟩:=cc.mp ao;simp [nH]) h.plain
theorem qS (sep:Str) (B:Nat):∀ ys:List Str,(∀ y ∈ ys,y.length <= B)->(d7 sep ys).length <= ys.length * (B + sep.length)
 | [],_=>by show (Str.empty).length <= _;exact fh _
 | [a],h=>by
  have:=h a (by simp);show a.length <= _;simp only [gy,y4];omega
 | a :: b :: r,h=>by
  have af:=h a (by simp);have ak:=qS sep B (b :: r) fun y a6=>h y (ik _ a6)
  show (a ++ sep ++ d7 sep (b :: r)).length <= _;rw [pY,pY,gy,xD];omega
theorem alz (h:sV n ds):(qu n ds).length <= 1000:=by
 have af:∀ y ∈ (ip n ds).map (d7 cP),y.length <= 63:=fun y a6=>by
  obtain ⟨r,ao,rfl⟩:=cc.mp a6;have:=qS cP 8 r fun x ah=>(h.plain r ao x ah).1
  rw [rS] at this;have aL:r.length <= 7:=by
   rcases en.mp ao with rfl | ao
   .simp
   .obtain ⟨d,hd,rfl⟩:=cc.mp ao;simp [nH]
  omega
 have ak:=qS nl 63 _ af;rw [wH] at ak;have a5:((ip n ds).map (d7 cP)).length <= 13:=by
  have:=h.ln;simp [ip];omega
 unfold qu;omega
noncomputable abbrev p_:List Str:=[ae "row",ae "told",ae "place"]
noncomputable def m2 (row:Int) (a9:Addr) (pl:Int):List (Str × V):=[(ae "row",.int row),(ae "told",.ref a9),(ae "place",.int pl)]
theorem y7 (row:Int) (a9:Addr) (pl:Int):(m2 row a9 pl).map (·.1)=p_:=rfl
theorem ak0 (row:Int) (a9:Addr) (pl v:Int):de (ae "place") (.int v) (m2 row a9 pl)=m2 row a9 v:=by
 unfold m2;simp only [de];rw [if_neg (by ac_nf),if_neg (by ac_nf)];rfl
def dj (t:bK) (H:aw) (p:Addr) (row:Int) (ws:List Str) (pl:Nat):Prop:=
 (ws.length <= 1000/\∀ x ∈ ws,x.length <= 1000)/\∃ az a9,H p=some (.ins t.ac az (m2 row a9 pl))/\H a9=some (.lst (aY ws))
def ad (p:Addr) (H I:aw):Prop:=∀ b u,b ≠ p->H b=some u->I b=some u
theorem ad.trans {p:Addr} (a:ad p H H1) (b:ad p H1 av):ad p H av:=fun c u n e=>b c u n (a c u n e)
theorem ad.of {p:Addr} (a:aK H H1):ad p H H1:=fun c u _ e=>a c u e
theorem ad.put {p:Addr}:ad p H (upd H p o):=fun c u n e=>by rw [aM n];exact e
theorem fK (ws:List Str):(aY ws).length=ws.length:=by unfold aY;rw [aW]
theorem ng {ws:List Str} {i:Nat} {x:Str} (h:ws[i]? = some x):(aY ws)[i]? = some (.str x):=by unfold aY;rw [df,h];rfl
theorem xE (ws:List Str):(aY ws).all lA=true:=by unfold aY;simp [lA]
theorem wq (x:Str) (xs:List Str):rk (.str x) (aY xs)=decide (x ∈ xs):=by
 unfold rk aY;rw [Tz,l4];simp only [qL,adg,mm,beq_iff_eq,decide_eq_true_eq];constructor
 .rintro ⟨y,a6,rfl⟩;exact a6
 .intro h;exact ⟨x,h,rfl⟩
section
variable {w:World} {K:bk} {mg:Str->Option Value} {t:bK} {H I:aw} {p:Addr} {row:Int} {ws:List Str} {pl:Nat}
theorem dj.same (h:dj t H p row ws pl) (s:aK H I):dj t I p row ws pl:=by
 obtain ⟨aN,az,a9,aq,aH⟩:=h;exact ⟨aN,az,a9,s _ _ aq,s _ _ aH⟩
theorem dj.y2 (h:dj t H p row ws pl) (s:ad q H I) (n:p ≠ q) (k:∃ C az a3,H q=some (.ins C az a3)):dj t I p row ws pl:=by
 obtain ⟨aN,az,a9,aq,aH⟩:=h;obtain ⟨C,Cn,a3,bO⟩:=k;exact ⟨aN,az,a9,s _ _ n aq,s _ _ (cx aH bO (by intro z;cases z)) aH⟩
theorem dj.ins (h:dj t H p row ws pl):∃ C az a3,H p=some (.ins C az a3):=by
 obtain ⟨aN,az,a9,aq,aH⟩:=h;exact ⟨_,_,_,aq⟩
theorem dj.no {m:Str} (row:Int) (a9:Addr) (pl:Int) (h:p_.contains m=false):(m2 row a9 pl).lookup m=none:=xV p_ (y7 ..) h
theorem JE (T:Txt w K mg t) {pl:Int} (e:H p=some (.ins t.ac az (m2 row a9 pl))):fY K H p (ae "place") (.int pl):=
 ⟨_,az,_,e,T.f_,T.KH,gK p_ 2 (y7 ..) (by ac_nf) rfl⟩
theorem EY (T:Txt w K mg t) {pl:Int} (e:H p=some (.ins t.ac az (m2 row a9 pl))):fY K H p (ae "told") (.ref a9):=
 ⟨_,az,_,e,T.f_,T.ul,gK p_ 1 (y7 ..) (by ac_nf) rfl⟩
end
def Qy (t:bK):bM:=fun vs H Q _=>∃ (p az a9:Addr) (row:Int),vs=[.ref p,.int row,.ref a9]/\H p=some (.ins t.ac az [])/\Q .cn (upd H p (.ins t.ac az (m2 row a9 0)))
def YA (t:bK):bM:=fun vs H Q _=>∃ p row ws pl,vs=[.ref p]/\dj t H p row ws pl/\pl <= ws.length/\Q (.str (ws.getD pl (ae ""))) H
def af3 (t:bK):bM:=fun vs H Q _=>∃ p row ws pl,vs=[.ref p]/\dj t H p row ws pl/\Q (.bo (decide (pl < ws.length))) H
def J7 (t:bK) (H:aw) (p:Addr) (row:Int) (ws:List Str) (pl:Nat) (R:aw->Prop):Prop:=∀ I,ad p H I->(aJ H->aJ I)->dj t I p row ws pl->R I
def akv (t:bK):bM:=fun vs H Q _=>∃ p row ws pl,vs=[.ref p,.bo true]/\dj t H p row ws pl/\J7 t H p row ws (pl + 1) (Q .cn)
def adi (K:bk) (t:bK):bM:=fun vs H Q _=>∃ p row ws pl x c xs,vs=[.ref p,.ref c]/\dj t H p row ws pl/\ws[pl]? = some x/\ay K H c (aY xs)/\x ∈ xs/\J7 t H p row ws (pl + 1) (Q (.str x))
def XY (t:bK):bM:=fun vs H Q _=>∃ p row ws pl x lo ai v,vs=[.ref p,.int lo,.int ai]/\dj t H p row ws pl/\ws[pl]? = some x/\jr x lo ai=.int v/\aJ H/\J7 t H p row ws (pl + 1) (Q (.int v))
def akh (t:bK):bM:=fun vs H Q _=>∃ p row ws pl,vs=[.ref p]/\dj t H p row ws pl/\pl=ws.length/\Q .cn H
theorem adC:cm P base T 1 t.xh t.DP xT (Qy t):=by
 exists T.T1.ok sn,9
 obtain ⟨p,az,a9,row,rfl,ar,q⟩:=h;refine ⟨_,(db (fe (U 0) (U 1) rfl)
   (db (fe (U 0) (U 2) rfl)
   (a0 (fe (U 0) aO rfl)))),?_⟩
 nofun;refine ⟨_,_,_,ar,T.f_,T.ace,by decide,?_⟩;refine ⟨_,_,_,aQ,T.f_,T.ul,g5 (n:=999) (by decide),?_⟩;refine ⟨_,_,_,aQ,T.f_,T.KH,g5 (n:=999) (g5 (n:=998) (by decide)),?_⟩;simp only [s7];rw [show de (ae "row") (V.int row) ([]:List (Str × V))=[(ae "row",V.int row)] from gq [] rfl (by ac_nf),
  show de (ae "told") (V.ref a9) ([(ae "row",V.int row)]:List (Str × V))=[(ae "row",V.int row),(ae "told",V.ref a9)] from gq [ae "row"] rfl (by ac_nf),
  show de (ae "place") (V.int 0) ([(ae "row",V.int row),(ae "told",V.ref a9)]:List (Str × V))=[(ae "row",V.int row),(ae "told",V.ref a9),(ae "place",V.int 0)] from gq [ae "row",ae "told"] rfl (by ac_nf)]
 exact q
theorem C_:cm P base T 1 t.Ck t.H9 ["self"] (YA t):=by
 exists T.Wl.ok agX,9
 obtain ⟨p,row,ws,pl,rfl,⟨aN,az,a9,aq,aH⟩,hle,q⟩:=h;refine ⟨_,(db (dU (cX et (bw (U 0) rfl) (fP hL rfl T.hz hE (ag (bw (U 0) rfl) aA)) (cA _)) (a0 (b' dF)) eh)
   (a0 (b' (bZ c8 (bw (U 0) rfl) (bw (U 0) rfl))))),?_⟩
 nofun;refine dh (decide ((pl:Int)=(ws.length:Int))) (fun Q aV=>?_) (fun c=>?_) (fun c=>?_)
 .nofun;refine ⟨_,JE T aq,_,EY T aq,_,rfl,_,.inl (ay.of aH),rfl,?_⟩;rw [fK];nofun;exact aV
 .nofun;have c':pl=ws.length:=by have:=of_decide_eq_true c;omega
  rw [show ws.getD pl (ae "")=ae "" by rw [jQ,ae8 (by omega)];rfl] at q;exact q
 .nofun;have c':pl < ws.length:=by have:=of_decide_eq_false c;omega
  have ah:ws[pl]? = some ws[pl]:=a' c';rw [jQ,ah] at q;exact ⟨_,EY T aq,_,JE T aq,_,rfl,_,_,rfl,ay.of aH,_,cp (ng ah),q⟩
theorem VU:cm P base T 1 t.Dx t.F5 ["self"] (af3 t):=by
 exists T.ii.ok Zm,9
 obtain ⟨p,row,ws,pl,rfl,⟨aN,az,a9,aq,aH⟩,q⟩:=h;refine ⟨_,(a0 (b' (h7 lR (bw (U 0) rfl) (fP hL rfl T.hz hE (ag (bw (U 0) rfl) aA)) (cA _)))),?_⟩;nofun;have e:decide (pl < ws.length)=decide ((pl:Int) < (ws.length:Int)):=by rw [l4];simp
 rw [e] at q;refine ⟨_,JE T aq,_,EY T aq,_,rfl,_,.inl (ay.of aH),?_⟩;rw [fK];exact ⟨_,rfl,q⟩
theorem GD:cm P base T 1 t.Bb t.Jb DX (akv t):=by
 exists T.S2.ok adm,9
 obtain ⟨p,row,ws,pl,rfl,⟨aN,az,a9,aq,aH⟩,q⟩:=h;refine ⟨_,(db (dU (xH (oj (U 1))) (a0 pC) eh)
   (a0 (ww (U 0) aO Kh))),?_⟩
 nofun;refine dh false (fun Q aV=>?_) (fun aB=>nomatch aB) (fun _=>?_)
 .nofun;exact aV
 .nofun;refine ⟨_,_,_,aq,T.f_,T.KH,_,gK p_ 2 (y7 ..) (by ac_nf) rfl,_,rfl,_,_,aq,by rw [<- aW (f:=(·.1)),y7];decide,?_⟩;rw [ak0];exact q _ ad.put (fun n=>n.upd) ⟨aN,az,a9,aQ,by rw [aM (cx aH aq (by intro z;cases z))];exact aH⟩
theorem A2:cm P base T 2 t.BZ t.I' Fw (adi K t):=by
 refine cv (C_ T) fun tQ=>cv (GD T) fun yO=>?_;exists T.US.ok VR,9
 obtain ⟨p,row,ws,pl,x,c,xs,rfl,R,ah,aB,hm,q⟩:=h;refine ⟨_,(db (bT (i:=2) VR.aI (kp (U 0) T.f_ T.AB tQ ao T.Ej .nil c2))
   (db (dS (fg (U 0) T.f_ T.IW yO ao T.Jc .nil c2 (ag (h7 sq (U 2) (U 1) (by with_unfolding_all rfl)) aA)))
   (a0 (b' (U 2))))),?_⟩
 have dw:pl < ws.length:=(b6.mp ah).1;have a8:ws.getD pl (ae "")=x:=by rw [jQ,ah];rfl
 obtain ⟨_,az,a9,aq,aH⟩:=id R;nofun;refine ⟨_,_,aq,dj.no _ _ _ (by ac_nf),⟨p,row,ws,pl,rfl,R,by omega,?_⟩⟩;rw [a8];nofun;refine ⟨_,_,aq,dj.no _ _ _ (by ac_nf),_,.inl aB,rfl,xE xs,?_⟩;rw [wq,decide_eq_true hm];refine ⟨p,row,ws,pl,rfl,R,fun I s1 s2 s3=>?_⟩;nofun;exact q I s1 s2 s3
theorem DI:cm P base T 4 t.CM t.I9 FL (XY t):=by
 refine cv (C_ T) fun tQ=>cv (GD T) fun yO=>cv (Zf T) fun aj1=>?_;exists T.PQ.ok N0,9
 obtain ⟨p,row,ws,pl,x,lo,ai,v,rfl,R,ah,aF,bx,q⟩:=h;refine ⟨_,(db (bT (i:=3) N0.aI (bU aj1 ao T.Xt T.HX.bl T.akl (ag (kp (U 0) T.f_ T.AB tQ ao T.Ej .nil c2) (ag (U 1) (ag (U 2) aA)))))
   (db (dS (fg (U 0) T.f_ T.IW yO ao T.Jc .nil c2 (ag (h7 V5 (U 3) tP (cA _)) aA)))
   (a0 (b' (U 3))))),?_⟩
 have dw:pl < ws.length:=(b6.mp ah).1;have a8:ws.getD pl (ae "")=x:=by rw [jQ,ah];rfl
 obtain ⟨aN,az,a9,aq,aH⟩:=id R;nofun;refine ⟨_,_,aq,dj.no _ _ _ (by ac_nf),⟨p,row,ws,pl,rfl,R,by omega,?_⟩⟩;rw [a8];nofun;refine ⟨x,lo,ai,rfl,aN.2 x (b9 ah),bx,?_⟩;rw [aF];nofun;refine ⟨_,_,aq,dj.no _ _ _ (by ac_nf),?_⟩;refine ⟨p,row,ws,pl,rfl,R,fun I s1 s2 s3=>?_⟩;nofun;exact q I s1 s2 s3
theorem NP:cm P base T 2 t.Cx t.Kq ["self"] (akh t):=by
 refine cv (VU T) fun Ki=>?_;exists T.O5.ok aeI,9
 obtain ⟨p,row,ws,pl,rfl,R,aL,q⟩:=h;obtain ⟨aN,az,a9,aq,aH⟩:=id R;refine ⟨_,(a0 (dU (oj (kp (U 0) T.f_ T.P2 Ki ao T.Qa .nil c2)) (a0 pC) eh)),?_⟩;nofun;refine dh false (fun Q aV=>?_) (fun aB=>nomatch aB) (fun _=>?_)
 .nofun;refine ⟨_,_,aq,dj.no _ _ _ (by ac_nf),⟨p,row,ws,pl,rfl,R,?_⟩⟩;rw [decide_eq_false (by omega)];exact ⟨_,rfl,aV⟩
 .nofun;exact q
noncomputable abbrev aD (ws:List Str) (k:Nat):Str:=ws.getD k (ae "")
theorem JS {k:Nat} (h:aD ws k ≠ ae ""):k < ws.length:=by
 refine Classical.byContradiction fun z=>h ?_
 unfold aD;rw [jQ,ae8 (by omega)];rfl
theorem alS (w:Str) (lo ai:Int):(∃ v,jr w lo ai=.int v/\lo <= v/\v <= ai/\w ≠ ae "")\/jr w lo ai=.cn:=by
 unfold jr;split
 .rename_i h;rw [iF] at h;refine .inl ⟨val w,rfl,?_,?_,fun z=>?_⟩
  .have:=h.2;simp at this;omega
  .have:=h.2;simp at this;omega
  .have af:=h.1;rw [z] at af;exact absurd af (by ac_nf)
 .exact .inr rfl
def acY (x:Str):Prop:=x.length <= 1000/\∀ c ∈ x.cps.toList,c < 16 ^ 8
noncomputable def hM (ds:List bc) (x:Str):Option bc:=ds.find? fun d=>decide (d.name=x)
theorem C6 {w:World} {K:bk} {mg:Str->Option Value} {base:Heap} {j k:Nat} {m:Str} (V:qi P w K mg base CX j oV m ps pK) (h:j <= k):qi P w K mg base CX k oV m ps pK:=⟨fun C dg=>by
 obtain ⟨f,fd,af,ak,a5,bN⟩:=V.ok C dg;exact ⟨f,fd,af,ak,a5.mono h,bN⟩⟩
noncomputable def lb (x:Str) (lo ai:Int):Option Int:=if kR x && !(decide (val x < lo) || decide (ai < val x)) then some (val x) else none
theorem FC (x:Str) (lo ai:Int):jr x lo ai=(lb x lo ai).elim .cn .int:=by
 unfold jr lb;split <;> rfl
theorem Ol {x:Str} {lo ai v:Int} (h:jr x lo ai=.int v):lb x lo ai=some v:=by
 rw [FC] at h;cases e:lb x lo ai with
 | none=>rw [e] at h;cases h
 | some u=>rw [e] at h;injection h with h;rw [h]
theorem G1 {k:Nat} {lo ai v:Int} (h:jr (aD ws k) lo ai=.int v):k + 1 <= ws.length/\lo <= v/\v <= ai:=by
 rcases alS (aD ws k) lo ai with ⟨u,bY,af,ak,a5⟩ | aX
 .rw [bY] at h;injection h with h;subst h;exact ⟨JS a5,af,ak⟩
 .rw [aX] at h;cases h
theorem mF {a x:α} (h:(l ++ [a])[i]? = some x):(i < l.length/\l[i]? = some x)\/(i=l.length/\x=a):=by
 by_cases ai:i < l.length
 .rw [pe ai] at h;exact .inl ⟨ai,h⟩
 .rw [nz (by omega)] at h;have h0:i - l.length=0:=by
   cases b2:i - l.length with
   | zero=>rfl
   | succ m=>rw [b2] at h;simp at h
  rw [h0] at h;exact .inr ⟨by omega,(by simpa using h:a=x).symm⟩
theorem yB {k:Nat} (h:k < ws.length):ws[k]? = some (aD ws k):=by
 unfold aD;rw [jQ,a' h];rfl
theorem b8 {α β:Type} {f:α->β} {l:List α} {i:Nat} {y:β} (h:(l.map f)[i]? = some y):∃ x,l[i]? = some x/\y=f x:=by
 rw [df] at h;cases e:l[i]? with
 | none=>rw [e] at h;cases h
 | some x=>rw [e] at h;exact ⟨x,rfl,(eE h).symm⟩
def ae6 (t:bK) (cu H:aw) (p:Addr) (rows:List (List Str)):Prop:=∃ qs:List Addr,H p=some (.lst (qs.map V.ref))/\cu p=none/\qs.length=rows.length/\∀ (i:Nat) (q:Addr) (r:List Str),qs[i]? = some q->rows[i]? = some r->dj t H q i r 0/\cu q=none
def K_ (t:bK):bM:=fun vs H Q _=>∃ x,vs=[.str x]/\x.length <= 20000/\(∀ r ∈ hs x,r.length <= 1000/\∀ y ∈ r,y.length <= 1000)/\aJ H/\∀ p I,aK H I->aJ I->ae6 t H I p (hs x)->Q (.ref p) I
theorem MS:cm P base T 3 t.bn t.w1 ["text"] (K_ t):=by
 have aeH:cD P w K mg base dk 2 t.CS t.zy ["text"] UF:=(abK T).mono (by decide);have adL:cD P w K mg base dk 1 t.xh t.DP xT (Qy t):=adC T;exists T.AF.ok alr,9
 obtain ⟨x,rfl,aN,v5,bx,q⟩:=h;refine ⟨_,(a0 (b' (g_ rfl (BK rfl T.Ce (ag (bU aeH ao T.amo T.Jy.bl T.air (ag (U 0) aA)) aA)) (fO (sc:=bt Gj) rfl (by ac_nf)) (N:=["row","told"]) (sel:=[none,none]) (fT (M:=["text"]) (by ac_nf)) (e3.of (fun _ _ _ _=>(kA (K:=K) (n:=2) rfl rfl (eB (b7 (i:=0) (d3 (N:=["row","told"]) (by ac_nf) rfl)) (eB (b7 (i:=1) (d3 (N:=["row","told"]) (by ac_nf) rfl)) kC)))) (fun _ _ _ _=>⟨_,hn,by walk_at "B"⟩) (fun _ _ _ _=>⟨_,(tg T.akr adL ao rfl T.ami T.agQ .nil c2 (ag (U 0) (ag (U 1) aA))),by walk_at "B"⟩))))),?_⟩;nofun;refine ⟨x,rfl,aN,bx,fun p H1 vz iP ⟨ps,ar,hX,kF,c9,qm⟩=>?_⟩;nofun;refine ⟨⟨_,ay.of ar⟩,?_⟩;have hlen:ps.length <= sizeLine:=by
  rw [c9];unfold hs;rw [aW];have:=FN (x:=x) (y:=nl) (by rw [wH];exact bP _);exact cL (show _ <= 40000 by omega) (by decide)
 refine c1.enum (xs:=ps.map V.ref) (fun i ys av=>aK H1 av/\aJ av/\∃ qs:List Addr,ys=qs.map V.ref/\qs.length=i/\∀ (j:Nat) (q:Addr) (r:List Str),qs[j]? = some q->(hs x)[j]? = some r->dj t av q j r 0/\H1 q=none)
  (by rw [aW];exact hlen) ⟨aK.refl H1,iP,[],rfl,rfl,fun j q r h _=>by simp at h⟩ ?_ ?_ ?_
 .rintro i ys av ai a_;ac_rfl
  obtain ⟨s2,cU,qs,rfl,aR,_⟩:=a_;subst aT;exact ⟨ay.of (s2 _ _ ar),by rw [aW];omega⟩
 .rintro i v ys av dH aF ⟨s2,cU,qs,rfl,aR,al⟩ fV N bj;rw [df] at aF;cases BS:ps[i]? with
  | none=>rw [BS] at aF;cases aF
  | some pi=>
   rw [BS] at aF;have e:=(eE aF).symm;subst e;refine tA ?_;nofun;refine ⟨Sub.P_,fun a az aP hd cj=>?_⟩;refine ⟨a,az,pi,i,rfl,aQ,rfl,?_⟩;rw [s7];have s3:aK av (upd (upd (upd av dH (.tup [.int i,.ref pi])) az (.own a)) a (.ins t.ac az (m2 i pi 0))):=by
    have aj:aK av (upd av dH (.tup [.int i,.ref pi])):=ba fV;exact ((aK.trans aj (ba hd)).gz (aj.free aP))
   obtain ⟨r,ao⟩:∃ r,(hs x)[i]? = some r:=⟨(hs x)[i]'(by rw [<- c9];exact (b6.mp BS).1),a' _⟩;have PS:av a=none:=(ba fV).free aP;refine bj _ _ ⟨s2.trans s3,((cU.upd).upd).upd,qs ++ [a],by rw [ed];rfl,by rw [cZ,aR];rfl,fun j dB ej af ak=>?_⟩;by_cases aG:j < qs.length
   .rw [pe aG] at af;obtain ⟨f9,eg⟩:=al j dB ej af ak;exact ⟨f9.same s3,eg⟩
   .rw [nz (by omega)] at af;have qB:j - qs.length=0:=by
     cases b2:j - qs.length with
     | zero=>rfl
     | succ n=>rw [b2] at af;simp at af
    rw [qB] at af;have bO:a=dB:=by simpa using af
    subst bO;have d_:j=i:=by omega
    subst d_;rw [ao] at ak;cases ak;refine ⟨⟨v5 r (b9 ao),az,pi,aQ,?_⟩,s2.free PS⟩;exact s3 _ _ (s2 _ _ (qm j pi r BS ao).1)
 .rintro ys av ⟨s2,cU,qs,rfl,aR,al⟩ dH fV;refine q dH _ ((vz.trans s2).gz ((vz.trans s2).free fV)) (cU.upd) ⟨qs,aQ,(vz.trans s2).free fV,by rw [aR,aW,c9],fun i dB r af ak=>?_⟩;obtain ⟨f9,eg⟩:=al i dB r af ak;exact ⟨f9.same (ba fV),vz.free eg⟩
def abj (q:Addr) (H:aw) (R:aw->Prop):Prop:=∀ I,ad q H I->aJ I->R I
def Uu (t:bK):bM:=fun vs H Q _=>∃ q row n,vs=[.ref q]/\dj t H q row [ae "ring",num n] 0/\(2 <= n/\n <= 99)/\aJ H/\abj q H (Q (.int n))
def oe (t:bK) (H:aw) (wl:Addr) (ds:List bc):Prop:=∃ as:List Addr,H wl=some (.lst (as.map V.ref))/\as.length=ds.length/\∀ (i:Nat) (a:Addr) (d:bc),as[i]? = some a->ds[i]? = some d->eW t H a d
def agj (t:bK):bM:=fun vs H Q _=>∃ q row ws pl wl ds x,vs=[.ref q,.ref wl]/\dj t H q row ws pl/\ws[pl]? = some x/\made x oq 8=true/\oe t H wl ds/\ds.length <= 12/\(∀ d ∈ ds,d.name ≠ x)/\aJ H /\
 ∀ I,ad q H I->aJ I->dj t I q row ws (pl + 1)->Q (.str x) I
def afW (t:bK):bM:=fun vs H Q _=>∃ q row ws pl n st fD,vs=[.ref q,.int n,.int st]/\dj t H q row ws pl/\ws[pl]? = some (num fD)/\(0 <= st/\st < n)/\(0 <= fD/\fD < n)/\st ≠ fD/\n <= 99/\aJ H /\
 ∀ I,ad q H I->aJ I->dj t I q row ws (pl + 1)->Q (.int fD) I
def agK (t:bK):bM:=fun vs H Q _=>∃ d:bc,vs=[.str (eN d.k),.str d.name,.int d.start,.int d.fin,.int d.off,.int d.near,.int d.least]/\d.k < 3/\∀ x I,aK H I->(aJ H->aJ I)->eW t I x d->H x=none->Q (.ref x) I
def QF (t:bK):bM:=fun vs H Q _=>∃ q row n wl ds d,vs=[.ref q,.int n,.ref wl]/\dj t H q row (nH d) 0/\nL n d/\(2 <= n/\n <= 99)/\oe t H wl ds/\ds.length <= 12/\(∀ e ∈ ds,e.name ≠ d.name)/\aJ H /\
 ∀ x I,ad q H I->aJ I->eW t I x d->H x=none->Q (.ref x) I
theorem oe.y2 {t:bK} {pl:Nat} (h:oe t H wl ds) (s:ad q H I) (r:dj t H q row ws pl):oe t I wl ds:=by
 obtain ⟨as,aq,aH,al⟩:=h;obtain ⟨aN,az,a9,bO,d_⟩:=r;refine ⟨as,s _ _ (cx aq bO (by intro z;cases z)) aq,aH,fun i a d af ak=>?_⟩;obtain ⟨aC,ho,fR⟩:=al i a d af ak;refine ⟨aC,ho,s _ _ (fun z=>?_) fR⟩;subst z;rw [fR] at bO;have ec:=eE bO;injection ec with _ _ jH;have ja:(7:Nat)=3:=congrArg ra jH;omega
theorem oe.same {t:bK} (h:oe t H wl ds) (s:aK H I):oe t I wl ds:=by
 obtain ⟨as,aq,aH,al⟩:=h;exact ⟨as,s _ _ aq,aH,fun i a d af ak=>(al i a d af ak).same s⟩
theorem agJ:cm P base T 5 t.im t.zT ["reader"] (Uu t):=by
 refine cv (A2 T) fun q8=>cv (DI T) fun nW=>cv (NP T) fun HK=>?_;exists T.EF.ok Pm,9
 obtain ⟨q,row,n,rfl,R,aX,bx,k0⟩:=h;refine ⟨_,(db (dS (fg (U 0) T.f_ T.y0 q8 ao T.xf .nil c2 (ag (ld (ag dF aA)) aA)))
   (db (bT (i:=1) Pm.aI (fg (U 0) T.f_ T.rT nW ao T.q4 .nil c2 (ag (mz rfl T.aj9 T.aaY) (ag (mz rfl T.alG T.W2) aA))))
   (db (dS (kp (U 0) T.f_ T.Vm HK ao T.T6 .nil c2))
   (a0 (b' (U 1)))))),?_⟩
 obtain ⟨_,az,a9,aq,aH⟩:=id R;nofun;refine ⟨_,_,aq,dj.no _ _ _ (by ac_nf),by decide,fun p ar=>?_⟩;have s0:aK H (upd H p (.lst [V.str (ae "ring")])):=ba ar;refine ⟨q,row,_,0,ae "ring",p,[ae "ring"],rfl,R.same s0,rfl,ay.of aQ,by simp,fun H1 s1 cM kG=>?_⟩;obtain ⟨_,S8,PI,f1,f2⟩:=id kG;nofun;refine ⟨_,_,f1,dj.no _ _ _ (by ac_nf),?_⟩;have iP:=cM bx.upd;refine ⟨q,row,_,1,num n,2,99,n,rfl,kG,rfl,qZ (by omega) (by omega) aX.1 aX.2,iP,fun av s2 cU e'=>?_⟩;obtain ⟨_,yd,I3,g1,g2⟩:=id e';nofun;refine ⟨_,_,g1,dj.no _ _ _ (by ac_nf),?_⟩;refine ⟨q,row,_,2,rfl,e',rfl,?_⟩;nofun;exact k0 av (((ad.of s0).trans s1).trans s2) (cU iP)
theorem XZ:cm P base T 3 t.Fl t.HO L_ (agj t):=by
 refine cv (C_ T) fun tQ=>cv (GD T) fun yO=>cv (adI T) fun aln=>?_;exists T.Io.ok S3,9
 obtain ⟨q,row,ws,pl,wl,ds,x,rfl,R,ah,hm,gj,gP,G6,bx,k0⟩:=h;refine ⟨_,(db (bT (i:=2) S3.aI (kp (U 0) T.f_ T.AB tQ ao T.Ej .nil c2))
   (db (dS (fg (U 0) T.f_ T.IW yO ao T.Jc .nil c2 (ag (wc (bU aln ao T.acD T.JN.bl T.ahN (ag (U 2) aA)) (vO (h7 LO (U 2) (g_ rfl (e5 (U 1)) (fO (sc:=bt Ff) rfl (by ac_nf)) (N:=["way"]) (sel:=[none]) (fT (M:=["reader","ways","name"]) (by ac_nf)) (e3.of (fun _ _ _ _=>(b7 (i:=0) (d3 (N:=["way"]) (by ac_nf) rfl))) (fun _ _ _ _=>⟨_,hn,by walk_at "B"⟩) (fun _ _ _ _=>⟨_,(bw (U 0) rfl),by walk_at "B"⟩))) (by with_unfolding_all rfl)))) aA)))
   (a0 (b' (U 2))))),?_⟩
 have dw:pl < ws.length:=(b6.mp ah).1;have a8:ws.getD pl (ae "")=x:=by rw [jQ,ah];rfl
 obtain ⟨aN,az,a9,aq,aH⟩:=id R;nofun;refine ⟨_,_,aq,dj.no _ _ _ (by ac_nf),⟨q,row,ws,pl,rfl,R,by omega,?_⟩⟩;rw [a8];nofun;refine ⟨_,_,aq,dj.no _ _ _ (by ac_nf),?_⟩;refine ⟨x,rfl,aN.2 x (b9 ah),bx,?_⟩;rw [hm];nofun;obtain ⟨as,dC,ea,al⟩:=gj;refine ⟨⟨_,ay.of dC⟩,?_⟩;have hle:(as.map V.ref).length <= sizeLine:=by rw [aW,ea];exact cL gP (by decide)
 refine c1.ml (xs:=as.map V.ref) (zs:=ds.map fun d=>V.str d.name) (ay.of dC) hle (by rw [aW,aW,ea]) (fun i v z N aF g0 bj=>?_) (fun p ar=>?_)
 .obtain ⟨a,aP,rfl⟩:=b8 aF;obtain ⟨d,hd,rfl⟩:=b8 g0;nofun;exact ⟨Sub.name,_,(al i a d aP hd).Lr T,bj⟩
 .nofun;have eK:(ds.map fun d=>V.str d.name)=aY (ds.map (·.name)):=by unfold aY;rw [qt];rfl
  rw [eK];refine ⟨_,.inl (ay.of aQ),rfl,xE _,?_⟩;rw [wq,decide_eq_false (fun z=>by
   obtain ⟨d,hd,e⟩:=cc.mp z;exact G6 d hd e)]
  have s0:aK H (upd H p (.lst (aY (ds.map (·.name))))):=ba ar;exact ⟨q,row,ws,pl,rfl,R.same s0,fun I s1 cM kG=>k0 I ((ad.of s0).trans s1) (cM bx.upd) kG⟩
theorem YV:cm P base T 5 t.GP t.Hv BR (afW t):=by
 refine cv (C_ T) fun tQ=>cv (DI T) fun nW=>?_;exists T.LK.ok akB,9
 obtain ⟨q,row,ws,pl,n,st,fD,rfl,R,ah,fS,F2,cj,aX,bx,k0⟩:=h;refine ⟨_,(db (dU (cX et (kp (U 0) T.f_ T.AB tQ ao T.Ej .nil c2) (p4 yD rfl T.xY wu (ag (U 2) aA)) (cA _)) (a0 pC) eh)
   (a0 (b' (fg (U 0) T.f_ T.rT nW ao T.q4 .nil c2 (ag aO (ag (bE k' (U 1) aO) aA)))))),?_⟩
 have dw:pl < ws.length:=(b6.mp ah).1;have a8:ws.getD pl (ae "")=num fD:=by rw [jQ,ah];rfl
 obtain ⟨aN,az,a9,aq,aH⟩:=id R;nofun;refine dh false (fun Q aV=>?_) (fun aB=>nomatch aB) (fun _=>?_)
 .nofun;refine ⟨_,_,aq,dj.no _ _ _ (by ac_nf),⟨q,row,ws,pl,rfl,R,by omega,?_⟩⟩;rw [a8];nofun;refine ⟨Mm (by omega),?_⟩;rw [decide_eq_false (fun z=>cj (acL (by omega) (by omega) (by omega) (by omega) z).symm)];exact aV
 .nofun;refine ⟨_,_,aq,dj.no _ _ _ (by ac_nf),⟨q,row,ws,pl,num fD,0,n - 1,fD,rfl,R,ah,qZ (by omega) (by omega) (by omega) (by omega),bx,fun H1 s1 cM kG=>?_⟩⟩;exact k0 H1 s1 (cM bx) kG
theorem abE {t:bK} {x az:Addr} (ah:H x=none) (hd:H az=none) (aC:d.k < 3) :
  aK H (upd (upd (upd H az (.own x)) x (.ins (t.gB d.k) az [])) x (.ins (t.gB d.k) az (o9 d)))/\(aJ H->aJ (upd (upd (upd H az (.own x)) x (.ins (t.gB d.k) az [])) x (.ins (t.gB d.k) az (o9 d)))) /\
   eW t (upd (upd (upd H az (.own x)) x (.ins (t.gB d.k) az [])) x (.ins (t.gB d.k) az (o9 d))) x d:=
 ⟨(((aK.refl H).gz hd).gz ah).gz ah,fun n=>((n.upd).upd).upd,aC,az,aQ⟩
theorem adv:cm P base T 4 t.Ez t.Mi B1 (agK t):=by
 have ajA:cD P w K mg base dk 2 t.xk t.DC lp (v3 t 0):=XM T;have aiH:cD P w K mg base dk 2 t.wJ t.zO lp (v3 t 1):=agr T;have akX:cD P w K mg base dk 2 t.wM t.AP lp (v3 t 2):=GM T;exists T.GL.ok alD,9
 obtain ⟨d,rfl,aC,q⟩:=h;refine ⟨_,(db (dU (cX et (U 0) dF (cA _)) (a0 (b' (tg T.aie ajA ao rfl T.adN T.Y0 .nil c2 (ag (U 1) (ag (U 2) (ag (U 3) (ag (U 4) (ag (U 5) (ag (U 6) aA))))))))) eh)
   (db (dU (cX et (U 0) dF (cA _)) (a0 (b' (tg T.aeD aiH ao rfl T.aay T.ahI .nil c2 (ag (U 1) (ag (U 2) (ag (U 3) (ag (U 4) (ag (U 5) (ag (U 6) aA))))))))) eh)
   (a0 (b' (tg T.ac7 akX ao rfl T.aio T.aeM .nil c2 (ag (U 1) (ag (U 2) (ag (U 3) (ag (U 4) (ag (U 5) (ag (U 6) aA))))))))))),?_⟩
 have fin:∀ (x az:Addr),H x=none->H az=none->Q (.ref x) (upd (upd (upd H az (.own x)) x (.ins (t.gB d.k) az [])) x (.ins (t.gB d.k) az (o9 d))):=fun x az ah hd=>by
  obtain ⟨k9,kV,r5⟩:=abE (t:=t) (d:=d) ah hd aC;exact q x _ k9 kV r5 ah
 obtain ⟨k,name,start,fD,off,near,least⟩:=d
 match k,aC with
 | 0,_=>
  (nofun; repeat (dsimp only [eN];nofun));refine dh true (fun Q aV=>?_) (fun _=>?_) (fun aB=>nomatch aB)
  .nofun;exact aV
  .nofun;exact fun x az ah hd cj=>⟨x,az,⟨0,name,start,fD,off,near,least⟩,rfl,rfl,aQ,rfl,fin x az ah hd⟩
 | 1,_=>
  (nofun; repeat (dsimp only [eN];nofun));refine dh false (fun Q aV=>?_) (fun aB=>nomatch aB) (fun _=>?_)
  .nofun;rw [decide_eq_false (by ac_nf)];exact aV
  .nofun;refine dh true (fun Q aV=>?_) (fun _=>?_) (fun aB=>nomatch aB)
   .nofun;exact aV
   .nofun;exact fun x az ah hd cj=>⟨x,az,⟨1,name,start,fD,off,near,least⟩,rfl,rfl,aQ,rfl,fin x az ah hd⟩
 | 2,_=>
  (nofun; repeat (dsimp only [eN];nofun));refine dh false (fun Q aV=>?_) (fun aB=>nomatch aB) (fun _=>?_)
  .nofun;rw [decide_eq_false (by ac_nf)];exact aV
  .nofun;refine dh false (fun Q aV=>?_) (fun aB=>nomatch aB) (fun _=>?_)
   .nofun;rw [decide_eq_false (by ac_nf)];exact aV
   .nofun;exact fun x az ah hd cj=>⟨x,az,⟨2,name,start,fD,off,near,least⟩,rfl,rfl,aQ,rfl,fin x az ah hd⟩
theorem aaq:cm P base T 6 t.Cy t.D_ DM (QF t):=by
 refine cv (A2 T) fun q8=>cv (DI T) fun nW=>cv (NP T) fun HK=>cv (XZ T) fun Ye=>cv (YV T) fun agh=>cv (adv T) fun Zr=>?_;exists T.JM.ok r9,9
 obtain ⟨q,row,n,wl,ds,d,rfl,R,hd,aX,gj,gP,G6,bx,k0⟩:=h;refine ⟨_,(db (bT (i:=3) r9.aI (fg (U 0) T.f_ T.y0 q8 ao T.xf .nil c2 (ag (ld (ag dF (ag dF (ag dF aA)))) aA)))
   (db (bT (i:=4) r9.aI (bU Ye ao T.aks T.Io.bl T.Zi (ag (U 0) (ag (U 2) aA))))
   (db (bT (i:=5) r9.aI (fg (U 0) T.f_ T.rT nW ao T.q4 .nil c2 (ag aO (ag (bE k' (U 1) aO) aA))))
   (db (bT (i:=6) r9.aI (bU agh ao T.YR T.LK.bl T.ach (ag (U 0) (ag (U 1) (ag (U 5) aA)))))
   (db (bT (i:=7) r9.aI (fg (U 0) T.f_ T.rT nW ao T.q4 .nil c2 (ag aO (ag (mz rfl T.aeR T.agq) aA))))
   (db (bT (i:=8) r9.aI (fg (U 0) T.f_ T.rT nW ao T.q4 .nil c2 (ag aO (ag (mz rfl T.Zk T.agE) aA))))
   (db (bT (i:=9) r9.aI (fg (U 0) T.f_ T.rT nW ao T.q4 .nil c2 (ag aO (ag (mz rfl T.amx T.aht) aA))))
   (db (dS (kp (U 0) T.f_ T.Vm HK ao T.T6 .nil c2))
   (a0 (b' (bU Zr ao T.amW T.GL.bl T.WR (ag (U 3) (ag (U 4) (ag (U 5) (ag (U 6) (ag (U 7) (ag (U 8) (ag (U 9) aA)))))))))))))))))),?_⟩
 have fx:=hd.st;have fA:=hd.fD;have iE:=hd.of;have ki:=hd.vU;have pQ:=hd.le;obtain ⟨_,az,a9,aq,aH⟩:=id R;nofun;refine ⟨_,_,aq,dj.no _ _ _ (by ac_nf),by decide,fun p ar=>?_⟩;have s0:aK H (upd H p (.lst [V.str (ae "car"),V.str (ae "foot"),V.str (ae "tram")])):=ba ar;have gx:eN d.k ∈ [ae "car",ae "foot",ae "tram"]:=by
  have:=hd.k
  match d.k,this with
  | 0,_=>simp [eN]
  | 1,_=>simp [eN]
  | 2,_=>simp [eN]
 refine ⟨q,row,_,0,eN d.k,p,[ae "car",ae "foot",ae "tram"],rfl,R.same s0,rfl,ay.of aQ,gx,fun H1 s1 cM kG=>?_⟩;have b1:ad q H H1:=(ad.of s0).trans s1;have k9:=cM bx.upd;nofun;refine ⟨q,row,_,1,wl,ds,d.name,rfl,kG,rfl,hd.nm,gj.y2 b1 R,gP,G6,k9,fun av s2 kV e'=>?_⟩;obtain ⟨_,yd,I3,f2,g2⟩:=id e';have gc:=b1.trans s2;nofun;refine ⟨_,_,f2,dj.no _ _ _ (by ac_nf),⟨q,row,_,2,num d.start,0,n - 1,d.start,rfl,e',rfl,qZ (by omega) (by omega) (by omega) (by omega),kV,fun br s3 di nE=>?_⟩⟩;have g8:=gc.trans s3;have r5:=di kV;nofun;refine ⟨q,row,_,3,n,d.start,d.fin,rfl,nE,rfl,fx,fA,hd.ne,aX.2,r5,fun cJ s4 rq mU=>?_⟩;obtain ⟨_,JL,ane,f4,pX⟩:=id mU;have dv:=g8.trans s4;nofun;refine ⟨_,_,f4,dj.no _ _ _ (by ac_nf),⟨q,row,_,4,num d.off,0,30,d.off,rfl,mU,rfl,qZ (by omega) (by omega) (by omega) (by omega),rq,fun ck s5 ei rm=>?_⟩⟩;obtain ⟨_,am9,aoi,e0,S1⟩:=id rm;have d1:=dv.trans s5;have kU:=ei rq;nofun;refine ⟨_,_,e0,dj.no _ _ _ (by ac_nf),⟨q,row,_,5,num d.near,0,30,d.near,rfl,rm,rfl,qZ (by omega) (by omega) (by omega) (by omega),kU,fun gg e1 lT B0=>?_⟩⟩;obtain ⟨_,aom,ao7,oE,Mt⟩:=id B0;have cC:=d1.trans e1;have rM:=lT kU;nofun;refine ⟨_,_,oE,dj.no _ _ _ (by ac_nf),⟨q,row,_,6,num d.least,1,60,d.least,rfl,B0,rfl,qZ (by omega) (by omega) (by omega) (by omega),rM,fun fa h4 hK Vr=>?_⟩⟩;obtain ⟨_,aoZ,anz,ma,rQ⟩:=id Vr;have c0:=cC.trans h4;have aaC:=hK rM;nofun;refine ⟨_,_,ma,dj.no _ _ _ (by ac_nf),⟨q,row,_,7,rfl,Vr,rfl,?_⟩⟩;nofun;refine ⟨d,rfl,hd.k,fun x iC hH nP Ey C8=>?_⟩;refine k0 x iC (c0.trans (ad.of hH)) (nP aaC) Ey ?_;cases kK:H x with
 | none=>rfl
 | some u=>
  by_cases RF:x=q
  .subst RF;rw [ma] at C8;cases C8
  .rw [c0 x u RF kK] at C8;cases C8
noncomputable abbrev u4:List Str:=[ae "places",ae "ways",ae "numbers"]
noncomputable def pz (n:Int) (wl aI:Addr):List (Str × V):=[(ae "places",.int n),(ae "ways",.ref wl),(ae "numbers",.ref aI)]
theorem Ar (n:Int) (wl aI:Addr):(pz n wl aI).map (·.1)=u4:=rfl
noncomputable def nm (ds:List bc) (i:Nat):Str:=((ds[i]?).map (·.name)).getD (ae "")
noncomputable def m_ (ds:List bc) (i:Nat):List (Key × V):=(eV i).map fun j=>(cy (nm ds j),V.int j)
theorem nr (h:ds[i]? = some d):nm ds i=d.name:=by unfold nm;rw [h];rfl
theorem v7 (h:(ds.map (·.name)).Nodup) (ai:i < ds.length) (aG:j < ds.length) (e:nm ds i=nm ds j):i=j:=by
 rw [nr (a' ai),nr (a' aG)] at e;have:=(ET (xs:=ds.map (·.name)) (i:=i) (j:=j) (h₀:=by rw [aW];exact ai) (h₁:=by rw [aW];exact aG) h).mp (by rw [wR,wR];exact e);exact this
theorem akE (h:(ds.map (·.name)).Nodup):∀ {n:Nat},i < n->n <= ds.length->dn (m_ ds n) (cy (nm ds i))=some (.int i):=by
 intro n
 induction n with
 | zero=>intro ai _;omega
 | succ n cS=>
  intro ai aX;unfold m_ dn;rw [vL,ed,List.find?_append];by_cases c:i < n
  .have:=cS c (by omega);unfold m_ dn at this;cases e:YW (fun dx=>decide (dx.fst=cy (nm ds i))) (n9 (fun j=>((cy (nm ds j):Key),V.int j)) (eV n)) with
   | none=>rw [e] at this;cases this
   | some p=>rw [e] at this;exact this
  .have e:i=n:=by omega
   subst e;have no:YW (fun dx=>decide (dx.fst=cy (nm ds i))) (n9 (fun j=>((cy (nm ds j):Key),V.int j)) (eV i))=none:=by
    rw [agC];intro p ar;obtain ⟨j,aG,rfl⟩:=cc.mp ar;have hx:=oF.mp aG;simp only [decide_eq_true_eq];intro z;have:=v7 h (by omega) (by omega) (t5 z);omega
   rw [no];simp
theorem XL (h:(ds.map (·.name)).Nodup) (aX:n < ds.length):es (m_ ds n) (cy (nm ds n)) (.int n)=m_ ds (n + 1):=by
 unfold es;have no:((m_ ds n).any fun dx=>decide (dx.1=cy (nm ds n)))=false:=by
  rw [Vc];intro p ar;obtain ⟨j,aG,rfl⟩:=cc.mp ar;have hx:=oF.mp aG;simp only [decide_eq_true_eq];intro z;have:=v7 h (by omega) aX (t5 z);omega
 rw [no];unfold m_;rw [vL,ed];rfl
theorem yZ (a:aK H H1) (b:ad q H1 av) (n:H q=none):aK H av:=fun c u e=>b c u (dm e n) (a c u e)
theorem Hp {t:bK} {p q:Addr} {k l:Nat} (a:dj t H p i ws k) (b:dj t H q j vs l) (n:i ≠ j):p ≠ q:=fun z=>by
 subst z;obtain ⟨_,az,a9,aq,_⟩:=a;obtain ⟨_,ho,ahm,aH,_⟩:=b;rw [aq] at aH;have bO:=eE aH;injection bO with _ _ d_;unfold m2 at d_;injection d_ with fR _;injection fR with _ ec;injection ec with gF;exact n gF
theorem Qx {t:bK} {p q:Addr} (a:eW t H p d) (b:dj t H q j vs l):p ≠ q:=fun z=>by
 subst z;obtain ⟨_,az,aq⟩:=a;obtain ⟨_,ho,ahm,aH,_⟩:=b;rw [aq] at aH;have bO:=eE aH;injection bO with _ _ d_;exact absurd (congrArg ra d_) (by show ¬ (7:Nat)=3;decide)
def fU (t:bK) (H:aw) (c:Addr) (n:Int) (ds:List bc):Prop:=
 ((ds.map (·.name)).Nodup/\ds.length <= 12)/\∃ az wl aI,H c=some (.ins t.hP az (pz n wl aI))/\oe t H wl ds/\H aI=some (.bW (m_ ds ds.length))
theorem fU.same {t:bK} (h:fU t H c n ds) (s:aK H I):fU t I c n ds:=by
 obtain ⟨h0,az,wl,aI,aq,aH,bO⟩:=h;exact ⟨h0,az,wl,aI,s _ _ aq,aH.same s,s _ _ bO⟩
theorem kT {m:Str} (n:Int) (wl aI:Addr) (h:u4.contains m=false):(pz n wl aI).lookup m=none:=xV u4 (Ar ..) h
section
variable {w:World} {K:bk} {mg:Str->Option Value} {t:bK} {H:aw} {c az wl aI:Addr} {n:Int}
theorem agN (T:Txt w K mg t) (e:H c=some (.ins t.hP az (pz n wl aI))):fY K H c (ae "places") (.int n):=⟨_,az,_,e,T.h5,T.P8,gK u4 0 (Ar ..) (by ac_nf) rfl⟩
theorem PU (T:Txt w K mg t) (e:H c=some (.ins t.hP az (pz n wl aI))):fY K H c (ae "ways") (.ref wl):=⟨_,az,_,e,T.h5,T.Ue,gK u4 1 (Ar ..) (by ac_nf) rfl⟩
theorem HP (T:Txt w K mg t) (e:H c=some (.ins t.hP az (pz n wl aI))):fY K H c (ae "numbers") (.ref aI):=⟨_,az,_,e,T.h5,T.Rh,gK u4 2 (Ar ..) (by ac_nf) rfl⟩
end
def Sv (t:bK):bM:=fun vs H Q _=>∃ c az n wl ds,vs=[.ref c,.int n,.ref wl]/\H c=some (.ins t.hP az [])/\oe t H wl ds/\(ds.map (·.name)).Nodup/\ds.length <= 12/\aJ H /\
 ∀ I,ad c H I->aJ I->fU t I c n ds->Q .cn I
def RX (t:bK):bM:=fun vs H Q _=>∃ n ds,vs=[.str (qu n ds)]/\sV n ds/\aJ H/\∀ c I,aK H I->aJ I->fU t I c n ds->Q (.ref c) I
def QS (t:bK):bM:=fun vs H Q _=>∃ c n ds,vs=[.ref c]/\fU t H c n ds/\∀ p,H p=none->Q (.ref p) (upd H p (.lst (aY (ds.map (·.name)))))
def AC (t:bK):bM:=fun vs H Q _=>∃ c n ds,∃ i:Nat,∃ d,vs=[.ref c,.str d.name]/\fU t H c n ds/\ds[i]? = some d/\Q (.int (i:Nat)) H
def Fb (t:bK):bM:=fun vs H Q _=>∃ c n ds,∃ i:Nat,∃ d,vs=[.ref c,.str d.name]/\fU t H c n ds/\ds[i]? = some d/\∀ a,eW t H a d->Q (.ref a) H
theorem aeV:cm P base T 1 t.xd t.BM B9 (Sv t):=by
 exists T.Ta.ok LL,9
 obtain ⟨c,az,n,wl,ds,rfl,aB,gj,gX,gP,bx,q⟩:=h;have bY:=iN ao;refine ⟨_,(db (fe (U 0) (U 1) rfl)
   (db (fe (U 0) (U 2) rfl)
   (db (fe (U 0) Dy rfl)
   (a0 (fw fF rfl (BK rfl T.Ce (ag (U 2) aA)) (kA (K:=K) (n:=2) rfl rfl (eB (b7 (i:=3) LL.aI) (eB (b7 (i:=4) LL.aI) kC))) (a0 (vv bY (bw (U 0) rfl) (bw (U 4) rfl) (U 3) rfl))))))),?_⟩
 nofun;refine ⟨_,_,_,aB,T.h5,T.P8,by decide,?_⟩;refine ⟨_,_,_,aQ,T.h5,T.Ue,g5 (n:=999) (by decide),fun aI aX=>?_⟩;simp only [s7] at aX ⊢;rw [show de (ae "places") (V.int n) ([]:List (Str × V))=[(ae "places",V.int n)] from rfl,show de (ae "ways") (V.ref wl) [(ae "places",V.int n)]=[(ae "places",V.int n),(ae "ways",V.ref wl)] from gq [ae "places"] rfl (by ac_nf)] at aX ⊢;have AH:c ≠ aI:=fun z=>by subst z;rw [aQ] at aX;cases aX
 refine ⟨t.hP,az,[(ae "places",V.int n),(ae "ways",V.ref wl)],by rw [aM AH];exact aQ,T.h5,T.Rh,show (2:Nat) < 1000 by decide,?_⟩;rw [show de (ae "numbers") (V.ref aI) [(ae "places",V.int n),(ae "ways",V.ref wl)]=pz n wl aI from gq [ae "places",ae "ways"] rfl (by ac_nf)];obtain ⟨as,dC,ea,al⟩:=gj;have OU:H aI=none:=by rw [aM (eb AH)] at aX;exact aX
 have kl:ad c H (upd (upd (upd H c (.ins t.hP az [(ae "places",V.int n),(ae "ways",V.ref wl)])) aI (.bW [])) c (.ins t.hP az (pz n wl aI))):=fun b u aa e=>by
  rw [aM aa,aM (dm e OU),aM aa];exact e
 have LM:wl ≠ c:=cx dC aB (by intro z;cases z);refine ⟨⟨_,ay.of (kl _ _ LM dC)⟩,?_⟩;refine dZ.enum (xs:=as.map V.ref) (fun i σ I=>(∃ x y,σ=[some (V.ref c),some (V.int n),some (V.ref wl),x,y])/\I c=some (.ins t.hP az (pz n wl aI))/\I aI=some (.bW (m_ ds i))/\ad c H I/\aJ I) ?_ ?_ ?_ ?_
 .exact ⟨⟨_,_,rfl⟩,aQ,by rw [aM (eb AH),aQ];rfl,kl,((bx.upd).upd).upd⟩
 .rintro i σ I ai a_;ac_rfl
  obtain ⟨_,_,_,rj,_⟩:=a_;subst aT;exact ay.of (rj _ _ LM dC)
 .rintro i v σ I p aF ⟨⟨x,y,rfl⟩,af,ak,rj,oB⟩ ar;obtain ⟨a,aP,rfl⟩:=b8 aF;obtain ⟨ai,_⟩:=b6.mp aP;have mw:i < ds.length:=by omega
  have hd:ds[i]? = some ds[i]:=a' mw;have jz:eW t H a ds[i]:=al i a _ aP hd;have It:a ≠ c:=by
   obtain ⟨_,ho,e⟩:=jz;intro z;subst z;rw [aB] at e;have aH:=eE e;injection aH with _ _ bO;exact absurd (congrArg ra bO) (by show ¬ (0:Nat)=7;decide)
  have ah4:eW t I a ds[i]:=⟨jz.1,jz.2.imp fun ho e=>rj _ _ It e⟩;have sp:aK I (upd I p (.tup [.int i,.ref a])):=ba ar;refine tA ?_;nofun;refine ⟨_,HP T (sp _ _ af),_,(ah4.same sp).Lr T,_,rfl,_,l5.k (k:=cy ds[i].name) (sp _ _ ak) (gD (show (m_ ds i).length <= 12 by unfold m_;rw [aW,rY];omega) (by decide)),?_⟩;rw [<- nr hd,XL gX mw];refine ⟨⟨_,rfl⟩,?_,aQ,fun b u aa e=>?_,(oB.upd).upd⟩
  .rw [aM AH];exact sp _ _ af
  .rw [aM (dm e OU)];exact sp _ _ (rj b u aa e)
 .rintro σ I a_;ac_rfl
  obtain ⟨⟨x,y,rfl⟩,af,ak,rj,oB⟩:=a_;subst aT;nofun;rw [aW,ea] at ak;refine q I rj oB ⟨⟨gX,gP⟩,az,wl,aI,af,⟨as,rj _ _ LM dC,ea,fun i a d a5 bN=>?_⟩,ak⟩;have jz:=al i a d a5 bN;have It:a ≠ c:=by
   obtain ⟨_,ho,e⟩:=jz;intro z;subst z;rw [aB] at e;have aH:=eE e;injection aH with _ _ bO;exact absurd (congrArg ra bO) (by show ¬ (0:Nat)=7;decide)
  exact ⟨jz.1,jz.2.imp fun ho e=>rj _ _ It e⟩
theorem akz:cm P base T 1 t.Ax t.wf jU (AC t):=by
 exists T.Ts.ok WJ,9
 obtain ⟨c,n,ds,i,d,rfl,⟨⟨gX,gP⟩,az,wl,aI,aq,aH,bO⟩,hd,q⟩:=h;have bY:=iN ao;have aF:dn (m_ ds ds.length) (cy d.name)=some (.int i):=by
  rw [<- nr hd];exact akE gX (b6.mp hd).1 (bP _)
 have a8:ij H aI (.str d.name) (some (.int i)):=by rw [<- aF];exact ij.k (k:=cy d.name) bO
 refine ⟨_,(db (dU (S4 (Ud bY (U 1) (bw (U 0) rfl))) (a0 pC) eh)
   (a0 (b' (oZ bY (bw (U 0) rfl) (U 1) (fun _ _=>rfl))))),?_⟩
 nofun;refine dh false (fun Q aV=>?_) (fun aB=>nomatch aB) (fun _=>?_)
 .nofun;refine ⟨_,HP T aq,_,rfl,_,a8,?_⟩;exact aV
 .nofun;exact ⟨_,HP T aq,_,rfl,_,a8,q⟩
theorem se:cm P base T 2 t.vV t.xt jU (Fb t):=by
 refine cv (akz T) fun afv=>?_;exists T.Tj.ok agg,9
 obtain ⟨c,n,ds,i,d,rfl,C,hd,q⟩:=h;obtain ⟨⟨gX,gP⟩,az,wl,aI,aq,⟨as,dC,ea,al⟩,bO⟩:=id C;refine ⟨_,(a0 (b' (bZ c8 (bw (U 0) rfl) (fg (U 0) T.h5 T.ahV afv ao T.X9 .nil c2 (ag (U 1) aA))))),?_⟩;nofun;refine ⟨_,PU T aq,_,_,aq,kT _ _ _ (by ac_nf),⟨c,n,ds,i,d,rfl,C,hd,?_⟩⟩;have ai:i < as.length:=by rw [ea];exact (b6.mp hd).1
 have aP:as[i]? = some as[i]:=a' ai;nofun;refine ⟨_,ay.of dC,_,cp (show (as.map V.ref)[i]? = some (V.ref as[i]) by rw [df,aP];rfl),?_⟩;exact q as[i] (al i _ d aP hd)
theorem aif:cm P base T 7 t.Eg t.zB ["text"] (RX t):=by
 have GQ:cD P w K mg base dk 6 t.bn t.w1 ["text"] (K_ t):=(MS T).mono (by decide);have abJ:cD P w K mg base dk 6 t.im t.zT ["reader"] (Uu t):=(agJ T).mono (by decide);have abm:cD P w K mg base dk 6 t.Cy t.D_ DM (QF t):=aaq T;have aiK:cD P w K mg base dk 5 t.xd t.BM B9 (Sv t):=(aeV T).mono (by decide);exists T.Fv.ok zc,9
 obtain ⟨n,ds,rfl,dg,bx,k0⟩:=h;refine ⟨_,(db (bT (i:=1) zc.aI (bU GQ ao T.NZ T.AF.bl T.ON (ag (U 0) aA)))
   (db (bT (i:=2) zc.aI (bU abJ ao T.akJ T.EF.bl T.ab5 (ag (bZ c8 (U 1) aO) aA)))
   (db (bT (i:=3) zc.aI (ld aA))
   (db (fw fF rfl (e5 (mR tM (U 1) (mH aO) nI)) (b7 (i:=4) zc.aI) (db (dU (cX et (fP hL rfl T.hz hE (ag (U 3) aA)) (mz rfl T.akq T.Zx) (cA _)) (a0 pC) eh)
   (a0 (dS (eF f6 kr kz j9 (U 3) (ag (bU abm ao T.acz T.JM.bl T.aap (ag (U 4) (ag (U 2) (ag (U 3) aA)))) aA))))))
   (db (dU (xH (Cv (U 3) (fun _=>rfl))) (a0 pC) eh)
   (a0 (b' (tg T.akW aiK ao rfl T.aaM T.Xk .nil c2 (ag (U 2) (ag (U 3) aA)))))))))),?_⟩
 have v5:=aip dg;have hlen:=alz dg;have N2:=dg.nn;have aag:=dg.ln;nofun;refine ⟨qu n ds,rfl,by omega,?_,bx,fun p H1 vz iP R=>?_⟩
 .rw [v5];intro r ao;refine ⟨?_,fun x ah=>cL (dg.plain r ao x ah).1 (by decide)⟩;rcases en.mp ao with rfl | ao
  .show (2:Nat) <= 1000;decide
  .obtain ⟨d,hd,rfl⟩:=cc.mp ao;show (7:Nat) <= 1000;decide
 rw [v5] at R;obtain ⟨qs,ar,hX,pT,BD⟩:=R;have T3:qs.length=ds.length + 1:=by rw [pT];simp [ip]
 obtain ⟨kZ,jo,rfl⟩:∃ kZ jo,qs=kZ :: jo:=by
  cases qs with
  | nil=>simp at T3
  | cons a b=>exact ⟨a,b,rfl⟩
 obtain ⟨AV,ad'⟩:=BD 0 kZ _ rfl rfl;nofun;refine ⟨_,ay.of ar,_,cp (j:=0) rfl,⟨kZ,_,n,rfl,AV,N2,iP,fun av s2 rn=>⟨fh _,fun wl gw=>?_⟩⟩⟩;obtain ⟨anu,aoa,anQ,afg⟩:=AV.ins;have alN:p ≠ kZ:=cx ar afg (by intro z;cases z);have fV:av p=some (.lst ((kZ :: jo).map V.ref)):=s2 _ _ alN ar;have Fp:aK av (upd av wl (.lst [])):=ba gw;have Li:iM ((kZ :: jo).map V.ref) (some 1) none=jo.map V.ref:=by
  unfold iM;simp [eM.c7];exact I4 (by rw [aW];exact bP _)
 refine ⟨_,ay.of (Fp _ _ fV),fun pc KU=>?_⟩;rw [Li];have j2:pc ≠ wl:=fun z=>by subst z;rw [aQ] at KU;cases KU
 have KA:aK (upd av wl (.lst [])) (upd (upd av wl (.lst [])) pc (.lst (jo.map V.ref))):=ba KU;refine ⟨⟨_,ay.of aQ⟩,?_⟩;have P':aK H av:=yZ vz s2 ad';have aej:jo.length=ds.length:=by simpa using T3
 refine dZ.list (xs:=jo.map V.ref) (fun i σ I=>(∃ x,σ=[some (V.str (qu n ds)),some (V.ref p),some (V.int n),some (V.ref wl),x])/\aJ I/\aK H I/\I pc=some (.lst (jo.map V.ref))/\H wl=none/\oe t I wl (ds.take i) /\
  ∀ (j:Nat) (q:Addr) (d:bc),i <= j->jo[j]? = some q->ds[j]? = some d->dj t I q ((j + 1:Nat):Int) (nH d) 0/\H q=none) ?_ ?_ ?_ ?_
 .refine ⟨⟨_,rfl⟩,(rn.upd).upd,(P'.trans Fp).trans KA,aQ,P'.free gw,⟨[],KA _ _ aQ,rfl,fun j a d h=>by simp at h⟩,fun j q d _ af ak=>?_⟩;have ao:(ip n ds)[j + 1]? = some (nH d):=by
   unfold ip;rw [DN,df,ak];rfl
  obtain ⟨o_,eP⟩:=BD (j + 1) q _ (by rw [DN];exact af) ao;refine ⟨((o_.y2 s2 (Hp o_ AV (by omega)) AV.ins).same Fp).same KA,eP⟩
 .rintro i σ I ai a_;ac_rfl
  obtain ⟨_,_,_,h,_⟩:=a_;subst aT;exact ay.of h
 .rintro i v σ I aF a_;ac_rfl
  obtain ⟨⟨x,rfl⟩,oB,qE,IL,L3,W,Rs⟩:=a_;obtain ⟨q,aR,rfl⟩:=b8 aF;obtain ⟨ai,_⟩:=b6.mp aR;have mw:i < ds.length:=by omega
  have hd:ds[i]? = some ds[i]:=a' mw;obtain ⟨nT,jt⟩:=Rs i q _ (bP _) aR hd;have nj:(ds.take i).length=i:=by rw [ha];omega
  obtain ⟨as,dC,ea,al⟩:=id W;subst aT;nofun;refine dh false (fun Q aV=>?_) (fun aB=>nomatch aB) (fun _=>?_)
  .nofun;refine ⟨_,.inl (ay.of dC),?_⟩;rw [aW,ea,nj];rw [decide_eq_false (by omega)] <;> exact aV
  .nofun;refine ⟨.inl ⟨_,ay.of dC⟩,?_⟩;refine ⟨q,_,n,wl,ds.take i,ds[i],rfl,nT,dg.al _ (g6 mw),N2,W,by omega,fun e he z=>?_,oB,fun y br s3 q0 hY Ww=>?_⟩
   .obtain ⟨j,aG,rfl⟩:=Dg he;rw [List.getElem_take] at z;have hx:j < i:=by omega
    have:=v7 dg.aI (i:=j) (j:=i) (by omega) mw (by rw [nr (a' (by omega)),nr hd];exact z);omega
   .nofun;obtain ⟨anU,Cn,aok,hk⟩:=nT.ins;have akm:wl ≠ q:=cx dC hk (by intro z;cases z);have FI:br wl=some (.lst (as.map V.ref)):=s3 _ _ akm dC;have ZM:aK H br:=yZ qE s3 jt;refine ⟨_,FI,gD (show (as.map V.ref).length <= 12 by rw [aW];omega) (by decide),?_⟩;have ajS:y ≠ wl:=fun z=>by
     subst z;rw [dC] at Ww;cases Ww
    refine ⟨⟨_,rfl⟩,q0.upd,fun b u e=>?_,?_,L3,⟨as ++ [y],by rw [aQ,ed];rfl,?_,fun j a d af ak=>?_⟩,fun j dB d aG af ak=>?_⟩
    .rw [aM (dm e L3)];exact ZM _ _ e
    .rw [aM j2];exact s3 _ _ (cx IL hk (by intro z;cases z)) IL
    .rw [cZ,ea,nj,ha];show i + 1=_;omega
    .by_cases aG:j < as.length
     .rw [pe aG] at af;have B3:(ds.take i)[j]? = some d:=by
       rw [vZ (by omega)];rw [vZ (by omega)] at ak;exact ak
      obtain ⟨aC,ho,e⟩:=al j a d af B3;have ait:a ≠ q:=Qx ⟨aC,ho,e⟩ nT;have acw:a ≠ wl:=cx e dC (by intro z;cases z);exact ⟨aC,ho,by rw [aM acw];exact s3 _ _ ait e⟩
     .rw [nz (by omega)] at af;have qB:j - as.length=0:=by
       cases b2:j - as.length with
       | zero=>rfl
       | succ m=>rw [b2] at af;simp at af
      rw [qB] at af;have bO:y=a:=by simpa using af
      subst bO;have d_:j=i:=by omega
      subst d_;rw [vZ (by omega),hd] at ak;cases ak;exact ⟨hY.1,hY.2.imp fun ho e=>by rw [aM ajS];exact e⟩
    .obtain ⟨o_,eP⟩:=Rs j dB d (by omega) af ak;have nE:=o_.y2 s3 (Hp o_ nT (by omega)) nT.ins;refine ⟨?_,eP⟩;obtain ⟨aN,ho,a9,aq,aH⟩:=nE;refine ⟨aN,ho,a9,by rw [aM (cx aq FI (by intro z;cases z))];exact aq,?_⟩;rw [aM (fun z=>by
      subst z;rw [FI] at aH;have fR:=eE aH;injection fR with ec;cases as with
      | nil=>exact absurd (congrArg ra ec) (by show ¬ (0:Nat)=7;decide)
      | cons a r=>injection ec with gF _;cases gF)]
     exact aH
 .rintro σ I a_;ac_rfl
  obtain ⟨⟨x,rfl⟩,oB,qE,IL,L3,W,Rs⟩:=a_;subst aT;rw [aW,aej,il] at W;obtain ⟨as,dC,ea,al⟩:=id W;nofun;refine dh false (fun Q aV=>?_) (fun aB=>nomatch aB) (fun _=>?_)
  .nofun;refine ⟨true,.inl ⟨_,ay.of dC,?_⟩,aV⟩;cases as with
   | nil=>simp at ea;omega
   | cons a r=>rfl
  .nofun;intro c az aB yv cj;have sc:aK I (upd (upd I az (.own c)) c (.ins t.hP az [])):=((aK.refl I).gz yv).gz aB;refine ⟨c,az,n,wl,ds,rfl,aQ,W.same sc,dg.aI,aag.2,(oB.upd).upd,fun ck s5 Lg G0=>⟨rfl,?_⟩⟩;exact k0 c ck (yZ (qE.trans sc) s5 (qE.free aB)) Lg G0
theorem DF:cm P base T 1 t.zb t.AL ["self"] (QS t):=by
 exists T.O_.ok ae3,9
 obtain ⟨c,n,ds,rfl,⟨⟨gX,gP⟩,az,wl,aI,aq,⟨as,dC,ea,al⟩,bO⟩,q⟩:=h;refine ⟨_,(a0 (b' (g_ rfl (e5 (bw (U 0) rfl)) (fO (sc:=bt bi) rfl (by ac_nf)) (N:=["way"]) (sel:=[none]) (fT (M:=["self"]) (by ac_nf)) (e3.of (fun _ _ _ _=>(b7 (i:=0) (d3 (N:=["way"]) (by ac_nf) rfl))) (fun _ _ _ _=>⟨_,hn,by walk_at "B"⟩) (fun _ _ _ _=>⟨_,(bw (U 0) rfl),by walk_at "B"⟩))))),?_⟩;nofun;refine ⟨_,PU T aq,_,rfl,⟨_,ay.of dC⟩,?_⟩;refine c1.ml (xs:=as.map V.ref) (zs:=aY (ds.map (·.name))) (ay.of dC) (by rw [aW,ea];exact cL gP (by decide)) (by rw [fK,aW,aW,ea]) (fun i v z N aF g0 bj=>?_) (fun p ar=>q p ar);obtain ⟨a,aP,rfl⟩:=b8 aF;obtain ⟨x,ah,rfl⟩:=b8 g0;obtain ⟨d,hd,rfl⟩:=b8 ah;nofun;exact ⟨Sub.name,_,(al i a d aP hd).Lr T,bj⟩
theorem BV {n s p:Int} (h0:0 <= s) (af:s < n) (ak:0 <= p) (a5:p < n):(p - s) % n=if s <= p then p - s else p - s + n:=by
 split
 .rename_i h;exact m' (by omega) (by omega)
 .rename_i h;have e:(p - s) % n=(p - s + n) % n:=(Int.add_emod_right ..).symm;rw [e];exact m' (by omega) (by omega)
noncomputable def ind (n s p i:Int):Int:=if 0 < (p - s) % n/\(p - s) % n <= i then 1 else 0
noncomputable def k4 (n s f p:Int):Bool:=decide (0 < (p - s) % n) && decide ((p - s) % n < (f - s) % n)
noncomputable def tr (n s f s2 f2:Int):Bool:=decide (f=f2) || (if (s2=s\/s2=f)\/(f2=s\/f2=f) then false else (k4 n s f s2 != k4 n s f f2))
theorem zF {s f p:Int} (af:p ≠ s) (ak:p ≠ f) (a5:s ≠ f):((decide (s < f) && decide (f < p) && !decide (s < p)) || (!decide (s < f) && !decide (f < p) && decide (s < p)))=false:=by
 by_cases a:s < f <;> by_cases b:f < p
 .rw [decide_eq_true a,decide_eq_true b,decide_eq_true (show s < p by omega)];rfl
 .rw [decide_eq_true a,decide_eq_false b];rfl
 .rw [decide_eq_false a,decide_eq_true b];rfl
 .rw [decide_eq_false a,decide_eq_false b,decide_eq_false (show ¬ s < p by omega)];rfl
theorem vm {s p:Int} (h:s ≠ p):decide (p < s) = !decide (s < p):=by
 by_cases a:s < p
 .rw [decide_eq_true a,decide_eq_false (by omega)];rfl
 .rw [decide_eq_false a,decide_eq_true (by omega)];rfl
theorem BO {n s f p:Int} (ax:0 <= s/\s < n) (hf:0 <= f/\f < n) (ar:0 <= p/\p < n) (af:p ≠ s) (ak:p ≠ f) (a5:s ≠ f):k4 n s f p=((decide (s < p) && decide (p < f)) || (decide (p < f) && decide (f < s)) || (decide (f < s) && decide (s < p))):=by
 unfold k4;rw [BV ax.1 ax.2 ar.1 ar.2,BV ax.1 ax.2 hf.1 hf.2,decide_eq_true (show 0 < (if s <= p then p - s else p - s + n) by split <;> omega),lU,vm a5];by_cases a:s < p <;> by_cases b:s < f
 .rw [if_pos (by omega),if_pos (by omega),decide_eq_true a,decide_eq_true b,show decide (p - s < f - s)=decide (p < f) from decide_eq_decide.mpr (by omega)];cases decide (p < f) <;> rfl
 .rw [if_pos (by omega),if_neg (by omega),decide_eq_true a,decide_eq_false b,decide_eq_true (show p - s < f - s + n by omega)];cases decide (p < f) <;> rfl
 .rw [if_neg (by omega),if_pos (by omega),decide_eq_false a,decide_eq_true b,decide_eq_false (show ¬ p - s + n < f - s by omega)];cases decide (p < f) <;> rfl
 .rw [if_neg (by omega),if_neg (by omega),decide_eq_false a,decide_eq_false b,show decide (p - s + n < f - s + n)=decide (p < f) from decide_eq_decide.mpr (by omega)];cases decide (p < f) <;> rfl
theorem adj:∀ a b c d e g:Bool,((a && d && !b) || (!a && !d && b))=false->((a && e && !c) || (!a && !e && c))=false->((b && g && !c) || (!b && !g && c))=false->((d && g && !e) || (!d && !g && e))=false ->
  (((b && !d) || (!d && !a) || (!a && b)) != ((c && !e) || (!e && !a) || (!a && c)))=(((!b && c) || (c && !g) || (!g && !b)) != ((!d && e) || (e && !g) || (!g && !d))):=by ac_nf
theorem akL (ax:0 <= s/\s < n) (hf:0 <= f/\f < n) (h9:0 <= s2/\s2 < n) (Ij:0 <= f2/\f2 < n) (cj:s ≠ f) (xW:s2 ≠ f2):tr n s f s2 f2=tr n s2 f2 s f:=by
 unfold tr;by_cases e:f=f2
 .rw [decide_eq_true e,decide_eq_true e.symm];rfl
 .rw [decide_eq_false e,decide_eq_false (eb e)];by_cases c:(s2=s\/s2=f)\/(f2=s\/f2=f)
  .have c':(s=s2\/s=f2)\/(f=s2\/f=f2):=by omega
   rw [if_pos c,if_pos c']
  .have c':¬ ((s=s2\/s=f2)\/(f=s2\/f=f2)):=by omega
   rw [if_neg c,if_neg c'];have cM:s2 ≠ s:=by omega
   have cU:s2 ≠ f:=by omega
   have di:f2 ≠ s:=by omega
   have dc:f2 ≠ f:=by omega
   rw [mM,mM,BO ax hf h9 cM cU cj,BO ax hf Ij di dc cj,BO h9 Ij ax cM.symm di.symm xW,BO h9 Ij hf cU.symm dc.symm xW,vm cM.symm,vm cU.symm,vm dc.symm,vm cj,vm xW];exact adj _ _ _ _ _ _ (zF cM cU cj) (zF di dc cj) (zF di xW.symm cM.symm) (zF dc xW.symm cU.symm)
noncomputable abbrev mt (n:Int) (d e:bc):Bool:=tr n d.start d.fin e.start e.fin
def Sj (t:bK):bM:=fun vs H Q _=>∃ a d n p,vs=[.int n,.ref a,.int p]/\eW t H a d/\0 < n/\Q (.bo (k4 n d.start d.fin p)) H
noncomputable def yq (n:Int) (d e:bc):Bool:=if (e.start=d.start\/e.start=d.fin)\/(e.fin=d.start\/e.fin=d.fin) then false else (k4 n d.start d.fin e.start != k4 n d.start d.fin e.fin)
def alw (t:bK):bM:=fun vs H Q _=>∃ a b d e n,vs=[.int n,.ref a,.ref b]/\eW t H a d/\eW t H b e/\0 < n/\aJ H/\Q (.bo (yq n d e)) H
def ZH (t:bK):bM:=fun vs H Q _=>∃ a b d e n,vs=[.int n,.ref a,.ref b]/\eW t H a d/\eW t H b e/\0 < n/\∀ I,aK H I->Q (.bo (yq n d e)) I
def NV (t:bK):bM:=fun vs H Q _=>∃ c n ds,∃ i j:Nat,∃ d e,vs=[.ref c,.str d.name,.str e.name]/\fU t H c n ds/\0 < n/\ds[i]? = some d/\ds[j]? = some e/\aJ H/\Q (.bo (mt n d e)) H
theorem ac9:cm P base T 1 t.D4 t.D6 De (Sj t):=by
 exists T.Be.ok NK,9
 obtain ⟨a,d,n,p,rfl,W,aX,q⟩:=h;refine ⟨_,(db (bT (i:=3) NK.aI (bE iH (bE k' (U 2) (bw (U 1) rfl)) (U 0)))
   (a0 (b' (wc (h7 lR aO (U 3) (cA _)) (vO (h7 lR (U 3) (bE iH (bE k' (bw (U 1) rfl) (bw (U 1) rfl)) (U 0)) (cA _))))))),?_⟩
 nofun;refine ⟨_,W.ud T,_,rfl,aX,?_⟩;unfold k4 at q;by_cases c:0 < (p - d.start) % n
 .rw [if_pos (decide_eq_true c)];rw [decide_eq_true c,lU] at q;exact ⟨_,W.sQ T,_,W.ud T,_,rfl,_,rfl,aX,q⟩
 .rw [if_neg (by simpa using c)];rw [decide_eq_false c,mv] at q;exact q
theorem Wr (x a b:Int):rk (.int x) [.int a,.int b]=decide (x=a\/x=b):=by
 unfold rk;simp only [zf,List.any_nil,mm,Tp];rw [l4];simp only [s_,beq_iff_eq,decide_eq_true_eq];omega
theorem Z4:cm P base T 2 t.Ma t.FH AE (alw t):=by
 refine cD.forget (sp:=ZH t) ?_ fun vs H Q E h=>?_
 .have Sl:cD P w K mg base dk 1 t.D4 t.D6 De (Sj t):=ac9 T;exists T.L7.ok ak7,9
  obtain ⟨a,b,d,e,n,rfl,jz,qK,aX,q⟩:=h;refine ⟨_,(db (dU (fM.pt (t2 (cX sq (bw (U 2) rfl) (ld (ag (bw (U 1) rfl) (ag (bw (U 1) rfl) aA))) (by with_unfolding_all rfl)) (uf (cX sq (bw (U 2) rfl) (ld (ag (bw (U 1) rfl) (ag (bw (U 1) rfl) aA))) (by with_unfolding_all rfl))))) (a0 (b' mW)) eh)
   (a0 (b' (h7 pM (bU Sl ao T.PF T.Be.bl T.Ri (ag (U 0) (ag (U 1) (ag (bw (U 2) rfl) aA)))) (bU Sl ao T.PF T.Be.bl T.Ri (ag (U 0) (ag (U 1) (ag (bw (U 2) rfl) aA)))) (cA _))))),?_⟩
  nofun;refine F4 (fun b I=>aK H I/\b=decide ((e.start=d.start\/e.start=d.fin)\/(e.fin=d.start\/e.fin=d.fin))) (fun Q aV=>?_) (fun I ⟨bq,aa⟩=>?_) (fun I ⟨bq,aa⟩=>?_)
  .nofun;refine ⟨_,qK.ud T,_,jz.ud T,_,jz.sQ T,by decide,fun p ar=>⟨_,.inl (ay.of aQ),rfl,rfl,?_⟩⟩;have s1:aK H (upd H p (.lst [.int d.start,.int d.fin])):=ba ar;rw [Wr];by_cases bh:e.start=d.start\/e.start=d.fin
   .rw [if_pos (decide_eq_true bh)];exact aV _ _ ⟨s1,(decide_eq_true (.inl bh)).symm⟩
   .rw [if_neg (by simpa using bh)];refine ⟨_,(qK.same s1).sQ T,_,(jz.same s1).ud T,_,(jz.same s1).sQ T,by decide,fun dH fV=>⟨_,.inl (ay.of aQ),rfl,rfl,?_⟩⟩;rw [Wr];refine aV _ _ ⟨s1.trans (ba fV),?_⟩;rw [l4,decide_eq_true_eq,decide_eq_true_eq];exact ⟨.inr,fun z=>z.resolve_left bh⟩
  .nofun;have ee:=of_decide_eq_true aa.symm;have:=q I bq;unfold yq at this;rw [if_pos ee] at this;exact this
  .nofun;have ee:=of_decide_eq_false aa.symm;refine ⟨_,(qK.same bq).ud T,⟨a,d,n,_,rfl,jz.same bq,aX,?_⟩⟩;refine ⟨_,(qK.same bq).sQ T,⟨a,d,n,_,rfl,jz.same bq,aX,?_⟩⟩;refine ⟨rfl,?_⟩;have:=q I bq;unfold yq at this;rw [if_neg ee] at this;rw [show (!decide (V.bo (k4 n d.start d.fin e.start)=V.bo (k4 n d.start d.fin e.fin)))=(k4 n d.start d.fin e.start != k4 n d.start d.fin e.fin) by
    cases k4 n d.start d.fin e.start <;> cases k4 n d.start d.fin e.fin <;> rfl]
   exact this
 .obtain ⟨a,b,d,e,n,af,ak,a5,bN,bx,q⟩:=h;exact ⟨bx,a,b,d,e,n,af,ak,a5,bN,fun I bq=>⟨bq,q⟩⟩
theorem ac_ (n:Int) (d e:bc):mt n d e=(decide (d.fin=e.fin) || yq n d e):=rfl
theorem Rj:cm P base T 3 t.DJ t.BF rX (NV t):=by
 refine cv (se T) fun jO=>cv (Z4 T) fun aga=>?_;exists T.C5.ok EM,9
 obtain ⟨c,n,ds,i,j,d,e,rfl,C,aX,hd,he,bx,q⟩:=h;obtain ⟨_,az,wl,aI,aq,aH,bO⟩:=id C;refine ⟨_,(db (bT (i:=3) EM.aI (fg (U 0) T.h5 T.ow jO ao T.n4 .nil c2 (ag (U 1) aA)))
   (db (bT (i:=4) EM.aI (fg (U 0) T.h5 T.ow jO ao T.n4 .nil c2 (ag (U 2) aA)))
   (a0 (b' (NC (h7 et (bw (U 3) rfl) (bw (U 4) rfl) (cA _)) (vO (bU aga ao T.agu T.L7.bl T.amt (ag (bw (U 0) rfl) (ag (U 3) (ag (U 4) aA)))))))))),?_⟩
 rw [ac_] at q;nofun;refine ⟨_,_,aq,kT _ _ _ (by ac_nf),⟨c,n,ds,i,d,rfl,C,hd,fun a jz=>?_⟩⟩;nofun;refine ⟨_,_,aq,kT _ _ _ (by ac_nf),⟨c,n,ds,j,e,rfl,C,he,fun b qK=>?_⟩⟩;nofun;refine ⟨_,jz.sQ T,_,qK.sQ T,rfl,?_⟩;nofun;by_cases bh:d.fin=e.fin
 .rw [if_pos (decide_eq_true bh)];rw [decide_eq_true bh,te] at q;exact q
 .rw [if_neg (by simpa using bh)];rw [decide_eq_false bh,mM] at q;exact ⟨_,agN T aq,⟨a,b,d,e,n,rfl,jz,qK,aX,bx,q⟩⟩
def RA (t:bK):bM:=fun vs H Q _=>∃ c n ds,∃ i j:Nat,∃ d e,vs=[.ref c,.str d.name,.str e.name]/\fU t H c n ds/\ds[i]? = some d/\ds[j]? = some e/\Q (.int (if d.off - e.near > 0 then d.off - e.near else 0)) H
theorem ada:cm P base T 3 t.A0 t.Av rX (RA t):=by
 refine cv (se T) fun jO=>?_;exists T.GG.ok E_,9
 obtain ⟨c,n,ds,i,j,d,e,rfl,C,hd,he,q⟩:=h;obtain ⟨_,az,wl,aI,aq,aH,bO⟩:=id C;refine ⟨_,(db (bT (i:=3) E_.aI (fg (U 0) T.h5 T.ow jO ao T.n4 .nil c2 (ag (U 1) aA)))
   (db (bT (i:=4) E_.aI (fg (U 0) T.h5 T.ow jO ao T.n4 .nil c2 (ag (U 2) aA)))
   (a0 (b' (fP (acp rfl) rfl T.AZ Gp (ag aO (ag (bE k' (bw (U 3) rfl) (bw (U 4) rfl)) aA))))))),?_⟩
 nofun;refine ⟨_,_,aq,kT _ _ _ (by ac_nf),⟨c,n,ds,i,d,rfl,C,hd,fun a jz=>?_⟩⟩;nofun;refine ⟨_,_,aq,kT _ _ _ (by ac_nf),⟨c,n,ds,j,e,rfl,C,he,fun b qK=>?_⟩⟩;nofun;refine ⟨_,jz.SR T,_,qK.ajE T,?_⟩;nofun;exact q
theorem re {α:Type} {xs:List α} {i:Nat} {x:α} (h:xs[i]? = some x):xs.take (i + 1)=xs.take i ++ [x]:=by
 rw [m7,h];rfl
structure ST where
 lo:Int
 ai:Int
 mem:List Str
noncomputable def G_ (r:ST) (m:Addr):fX:=.tup [.int r.lo,.int r.ai,.ref m]
structure i9 (H:aw) (p:Addr) (qs ms:List Addr) (rows:List ST):Prop where
 at_:H p=some (.lst (qs.map V.ref))
 cz:qs.length=rows.length
 cK:ms.length=rows.length
 al:∀ (i:Nat) (q m:Addr) (r:ST),qs[i]? = some q->ms[i]? = some m->rows[i]? = some r->H q=some (G_ r m)/\H m=some (.lst (aY r.mem))
theorem i9.same {p:Addr} {rows:List ST} (h:i9 H p qs ms rows) (s:aK H I):i9 I p qs ms rows:=
 ⟨s _ _ h.at_,h.cz,h.cK,fun i q m r a b c=>⟨s _ _ (h.al i q m r a b c).1,s _ _ (h.al i q m r a b c).2⟩⟩
structure Os (H:aw) (p:Addr) (ms:List Addr) (dA:List (List Str)):Prop where
 at_:H p=some (.lst (ms.map V.ref))
 ln:ms.length=dA.length
 al:∀ (i:Nat) (m:Addr) (x:List Str),ms[i]? = some m->dA[i]? = some x->H m=some (.lst (aY x))
theorem Os.same {p:Addr} (h:Os H p ms dA) (s:aK H I):Os I p ms dA:=
 ⟨s _ _ h.at_,h.ln,fun i m x a b=>s _ _ (h.al i m x a b)⟩
noncomputable def nt (i:Nat) (kvs:List (Key × V)) (ms:List Str):List (Key × V):=ms.foldl (fun kvs x=>es kvs (cy x) (.int i)) kvs
noncomputable def gC (dA:List (List Str)):List (Key × V):=dA.zipIdx.foldl (fun kvs e=>nt e.2 kvs e.1) []
theorem ZO (kvs:List (Key × V)) (k:Key) (v:V):(es kvs k v).length <= kvs.length + 1:=by
 unfold es;split
 .rw [aW];omega
 .rw [cZ];exact bP _
theorem UY (i:Nat) (kvs:List (Key × V)) (ms:List Str) (x:Str):nt i kvs (ms ++ [x])=es (nt i kvs ms) (cy x) (.int i):=by
 unfold nt;rw [NI];rfl
theorem ae7 (dA:List (List Str)) (ms:List Str):gC (dA ++ [ms])=nt dA.length (gC dA) ms:=by
 unfold gC;rw [List.zipIdx_append,NI];simp
theorem KG (i:Nat) (x:Str):∀ (ms:List Str) (kvs:List (Key × V)),dn (nt i kvs ms) (cy x)=if x ∈ ms then some (.int i) else dn kvs (cy x)
 | [],kvs=>by simp [nt]
 | y :: ms,kvs=>by
  show dn (nt i (es kvs (cy y) (.int i)) ms) (cy x)=_;rw [KG i x ms,Ua];by_cases c:x ∈ ms
  .rw [if_pos c,if_pos (ik _ c)]
  .rw [if_neg c];by_cases d:x=y
   .subst d;rw [if_pos rfl,if_pos (m3 ..)]
   .rw [if_neg (fun e=>d (t5 e)),if_neg (fun e=>by
     rcases en.mp e with e | e
     .exact d e
     .exact c e)]
theorem up {dA:List (List Str)} {i:Nat} {ms:List Str} (h:dA[i]? = some ms):gC (dA.take (i + 1))=nt i (gC (dA.take i)) ms:=by
 rw [re h,ae7,ha,CQ (mA (b6.mp h).1)]
theorem Uw {x:Str}:∀ (n:Nat) (dA:List (List Str)),n <= dA.length->((dn (gC (dA.take n)) (cy x)).isSome=true↔∃ ms ∈ dA.take n,x ∈ ms)
 | 0,dA,_=>by simp [gC,dn]
 | n + 1,dA,aX=>by
  have h:dA[n]? = some dA[n]:=a' (by omega);rw [up h,KG,re h];have cS:=Uw (x:=x) n dA (by omega);by_cases c:x ∈ dA[n]
  .rw [if_pos c];exact ⟨fun _=>⟨_,lO _ (eY.mpr rfl),c⟩,fun _=>rfl⟩
  .rw [if_neg c,cS];constructor
   .rintro ⟨ms,af,ak⟩;exact ⟨ms,LS _ af,ak⟩
   .rintro ⟨ms,af,ak⟩;rcases eR.mp af with af | af
    .exact ⟨ms,af,ak⟩
    .rw [eY.mp af] at ak;exact absurd ak c
theorem DV (p:Str->Bool):∀ xs:List Str,((xs.map fun x=>if p x=true then some (V.str x) else none).flatMap uE)=aY (xs.filter p)
 | []=>rfl
 | x :: xs=>by
  rw [e8,xa,DV p xs];by_cases c:p x=true
  .rw [if_pos c,ahg c];rfl
  .rw [if_neg c,adf c];rfl
noncomputable def told (rows:List ST) (x:Str):Bool:=rows.any fun r=>r.mem.contains x
noncomputable def hj (ds:List bc) (rows:List ST):List Str:=(ds.map (·.name)).filter fun x=>!told rows x
theorem O' (rows:List ST) (x:Str):(dn (gC (rows.map (·.mem))) (cy x)).isSome=told rows x:=by
 rw [l4];have:=Uw (x:=x) (rows.map (·.mem)).length (rows.map (·.mem)) (bP _);rw [il] at this;rw [this];unfold told;rw [qL];constructor
 .rintro ⟨ms,af,ak⟩;obtain ⟨r,ao,rfl⟩:=cc.mp af;exact ⟨r,ao,by simpa using ak⟩
 .rintro ⟨r,ao,h⟩;exact ⟨_,cc.mpr ⟨r,ao,rfl⟩,by simpa using h⟩
noncomputable def iz (d:bc):Str:=if d.k=2 then ae "trams" else ae "others"
def al8 (t:bK):bM:=fun vs H Q _=>∃ c n ds,∃ i:Nat,∃ d,vs=[.ref c,.str d.name]/\fU t H c n ds/\ds[i]? = some d/\d.k < 3/\Q (.str (iz d)) H
def abZ:bM:=fun vs H Q _=>∃ p ms dA,vs=[.ref p]/\Os H p ms dA/\dA.length <= 6/\(∀ x ∈ dA,x.length <= 12)/\∀ h I,aK H I->(aJ H->aJ I)->H h=none->I h=some (.bW (gC dA))->Q (.ref h) I
def afu (t:bK):bM:=fun vs H Q _=>∃ c n ds p qs ms rows,vs=[.ref c,.ref p]/\fU t H c n ds/\i9 H p qs ms rows/\rows.length <= 6/\(∀ r ∈ rows,r.mem.length <= 12)/\∀ l I,aK H I->(aJ H->aJ I)->H l=none->I l=some (.lst (aY (hj ds rows)))->Q (.ref l) I
theorem Si:cm P base T 3 t.He t.JY CV (al8 t):=by
 refine cv (se T) fun jO=>?_;exists T.wb.ok ab3,9
 obtain ⟨c,n,ds,i,d,rfl,C,hd,aC,q⟩:=h;obtain ⟨_,az,wl,aI,aq,_,_⟩:=id C;refine ⟨_,(a0 (b' (tT (cX et (bw (fg (U 0) T.h5 T.ow jO ao T.n4 .nil c2 (ag (U 1) aA)) rfl) dF (cA _)) dF dF))),?_⟩;nofun;refine ⟨_,_,aq,kT _ _ _ (by ac_nf),c,n,ds,i,d,rfl,C,hd,fun a W=>⟨a,rfl,_,W.ahe T,rfl,?_⟩⟩;unfold iz at q;have acv:∀ k,k < 3->decide (V.str (eN k)=V.str (ae "tram"))=decide (k=2):=by ac_nf
 rw [acv d.k aC];by_cases b4:d.k=2
 .rw [if_pos (decide_eq_true b4)];rw [if_pos b4] at q;exact q
 .rw [if_neg (by simpa using b4)];rw [if_neg b4] at q;exact q
theorem Fy:cm P base T 1 t.LB t.Mb ["members"] abZ:=by
 exists T.xA.ok yb,9
 obtain ⟨p,ms,dA,rfl,M,mZ,rf,q⟩:=h;have bY:=iN ao;refine ⟨_,(db (bT (i:=1) yb.aI Dy)
   (db (fw fF rfl (BK rfl T.Ce (ag (U 0) aA)) (kA (K:=K) (n:=2) rfl rfl (eB (b7 (i:=2) yb.aI) (eB (b7 (i:=3) yb.aI) kC))) (a0 (fw fF rfl (e5 (U 3)) (b7 (i:=4) yb.aI) (a0 (vv bY (U 1) (U 4) (U 2) rfl)))))
   (a0 (b' (U 1))))),?_⟩
 nofun;intro h b2;have s0:aK H (upd H h (.bW [])):=ba b2;refine ⟨⟨_,ay.of (s0 _ _ M.at_)⟩,?_⟩;refine dZ.enum (xs:=ms.map V.ref) (fun i σ I=>(∃ x y z,σ=[~~~p,~~~h,x,y,z])/\aK H I/\(aJ H->aJ I)/\I h=some (.bW (gC (dA.take i)))/\(gC (dA.take i)).length <= 12 * i) ?_ ?_ ?_ ?_
 .exact ⟨⟨_,_,_,rfl⟩,s0,fun n=>n.upd,by rw [tY];exact aQ,by rw [tY];simp [gC]⟩
 .rintro i σ I ai ⟨_,s1,_⟩;exact ay.of (s1 _ _ M.at_)
 .rintro i v σ I j0 aF ⟨⟨x,y,z,rfl⟩,s1,cM,af,Mj⟩ pL;obtain ⟨m,hm,rfl⟩:=b8 aF;have B7:i < dA.length:=by rw [<- M.ln];exact (b6.mp hm).1
  have wi:dA[i]? = some dA[i]:=a' B7;have em:=M.al i m _ hm wi;have gN:=rf _ (b9 wi);have s2:aK I (upd I j0 (.tup [.int i,.ref m])):=ba pL;refine tA ?_;nofun;have TH:=s2 _ _ (s1 _ _ em);have ak:=s2 _ _ af;have nb:aJ H->aJ (upd I j0 (.tup [.int i,.ref m])):=fun n=>(cM n).upd
  have RP:=s1.trans s2;generalize upd I j0 (.tup [.int i,.ref m])=rx at TH ak nb RP s2 ⊢;refine ⟨⟨_,ay.of TH⟩,?_⟩;refine dZ.list (xs:=aY dA[i]) (fun j σ av=>(∃ z,σ=[~~~p,~~~h,some (.int (i:Nat)),~~~m,z])/\aK H av/\(aJ H->aJ av)/\av h=some (.bW (nt i (gC (dA.take i)) (dA[i].take j)))/\(nt i (gC (dA.take i)) (dA[i].take j)).length <= 12 * i + j) ?_ ?_ ?_ ?_
  .exact ⟨⟨_,rfl⟩,RP,nb,by rw [tY];exact ak,by rw [tY];exact Mj⟩
  .rintro j σ av aG ⟨_,s3,_⟩;exact ay.of (s3 _ _ em)
  .rintro j v σ av aF a_;ac_rfl
   obtain ⟨⟨z,rfl⟩,s3,di,a5,R4⟩:=a_;subst aT;unfold aY at aF;obtain ⟨x,ah,rfl⟩:=b8 aF;have aG:j < dA[i].length:=(b6.mp ah).1;have c9:=ZO (nt i (gC (dA.take i)) (dA[i].take j)) (cy x) (.int i);nofun;refine ⟨_,l5.k (k:=cy x) a5 (gD (show _ <= 1000 by omega) (by decide)),⟨_,rfl⟩,s3.gz b2,fun n=>(di n).upd,?_,?_⟩
   .rw [aQ,re ah,UY]
   .rw [re ah,UY];omega
  .rintro σ av a_;ac_rfl
   obtain ⟨⟨z,rfl⟩,s3,di,a5,R4⟩:=a_;subst aT;rw [fK,il,<- up wi] at a5 R4;exact ⟨⟨_,_,_,rfl⟩,s3,di,a5,by omega⟩
 .rintro σ I a_;ac_rfl
  obtain ⟨⟨x,y,z,rfl⟩,s1,cM,af,_⟩:=a_;subst aT;rw [aW,M.ln,il] at af;nofun;exact q h I s1 cM b2 af
theorem SO:cm P base T 2 t.E8 t.Hf k2 (afu t):=by
 refine cv (Fy T) fun yX=>cv (DF T) fun sH=>?_;exists T.Cf.ok RC,9
 obtain ⟨c,n,ds,p,qs,ms,rows,rfl,C,R,hh,uZ,q⟩:=h;have bY:=iN ao;obtain ⟨⟨_,gP⟩,az,wl,aI,aq,_,_⟩:=id C;refine ⟨_,(db (n5 (i:=2) RC.aI rfl (mb rfl) (bU yX ao T.Ji T.xA.bl T.Mf (ag (g_ rfl (e5 (U 1)) (fO (sc:=bt zY) rfl (by ac_nf)) (N:=iR) (sel:=[none,none,none]) (fT (M:=FD) (by ac_nf)) (e3.of (fun _ _ _ _=>(kA (K:=K) (n:=3) rfl rfl (eB (b7 (i:=0) (d3 (N:=iR) (by ac_nf) rfl)) (eB (b7 (i:=1) (d3 (N:=iR) (by ac_nf) rfl)) (eB (b7 (i:=2) (d3 (N:=iR) (by ac_nf) rfl)) kC))))) (fun _ _ _ _=>⟨_,hn,by walk_at "B"⟩) (fun _ _ _ _=>⟨_,(U 2),by walk_at "B"⟩))) aA)))
   (a0 (b' (g_ rfl (e5 (kp (U 0) T.h5 T.D0 sH ao T.Uf .nil c2)) (fO (sc:=bt zY) rfl (by ac_nf)) (N:=["name","told"]) (sel:=[none,some 2]) (fT (M:=FD) (by ac_nf)) (e3.of (fun _ _ _ _=>(b7 (i:=0) (d3 (N:=["name","told"]) (by ac_nf) rfl))) (fun _ _ _ _=>⟨_,(sD (S4 (Ud bY (U 0) (U 1)))),by walk_at "B"⟩) (fun _ _ _ _=>⟨_,(U 0),by walk_at "B"⟩)))))),?_⟩
 simp only [dG];nofun;have jt:(qs.map V.ref).length=rows.length:=by rw [aW,R.cz]
 refine ⟨⟨_,ay.of R.at_⟩,?_⟩;refine c1.ml (xs:=qs.map V.ref) (zs:=ms.map V.ref) (ay.of R.at_) (by rw [jt];exact cL hh (by decide)) (by rw [jt,aW,R.cK]) (fun j v z N aF aN bj=>?_) (fun pm Lq=>?_)
 .obtain ⟨kD,eP,rfl⟩:=b8 aF;obtain ⟨E5,kY,rfl⟩:=b8 aN;have aG:j < rows.length:=by rw [<- R.cz];exact (b6.mp eP).1
  have e:=(R.al j kD E5 _ eP kY (a' aG)).1;nofun;exact ⟨_,dR.of e,rfl,_,_,rfl,_,_,rfl,_,_,rfl,rfl,Sub.vX,bj⟩
 .have sp:aK H (upd H pm (.lst (ms.map V.ref))):=ba Lq;have np:aJ H->aJ (upd H pm (.lst (ms.map V.ref))):=fun n=>n.upd
  have ct:(upd H pm (.lst (ms.map V.ref))) pm=some (.lst (ms.map V.ref)):=aQ;generalize upd H pm (.lst (ms.map V.ref))=rx at sp np ct ⊢;refine ⟨pm,ms,rows.map (·.mem),rfl,⟨ct,by rw [R.cK,aW],fun i m x hm ah=>?_⟩,by rw [aW];exact hh,fun x ah=>?_,fun h H1 s1 cM b2 af=>?_⟩
  .obtain ⟨r,dY,rfl⟩:=b8 ah;have hk:qs[i]? = some (qs[i]'(by rw [R.cz];exact (b6.mp dY).1)):=a' _;exact sp _ _ (R.al i _ m r hk hm dY).2
  .obtain ⟨r,dY,rfl⟩:=cc.mp ah;exact uZ r dY
  .have tv:=sp.trans s1;have wN:=C.same tv;refine ⟨_,_,tv _ _ aq,kT _ _ _ (by ac_nf),c,n,ds,rfl,wN,fun eL kF=>⟨eL,rfl,⟨_,ay.of aQ⟩,?_⟩⟩;have sB:=tv.trans (ba (o:=.lst (aY (ds.map (·.name)))) kF);have ak:=(ba (o:=.lst (aY (ds.map (·.name)))) kF) _ _ af;have k3:aJ H->aJ (upd H1 eL (.lst (aY (ds.map (·.name))))):=fun n=>(cM (np n)).upd
   have rE:(upd H1 eL (.lst (aY (ds.map (·.name))))) eL=some (.lst (aY (ds.map (·.name)))):=aQ;generalize upd H1 eL (.lst (aY (ds.map (·.name))))=lz at sB ak k3 rE ⊢;refine c1.u1 (xs:=aY (ds.map (·.name))) (ss:=(ds.map (·.name)).map fun x=>if (!told rows x)=true then some (V.str x) else none) (ay.of rE) (by rw [fK,aW];exact cL gP (by decide)) (by rw [fK,aW]) (fun i v o ys N aF aS bj=>?_) (fun l aL=>?_)
   .unfold aY at aF;obtain ⟨x,ah,rfl⟩:=b8 aF;obtain ⟨eu,dW,rfl⟩:=b8 aS;rw [ah] at dW;cases dW;have a8:ij lz h (.str x) (dn (gC (rows.map (·.mem))) (cy x)):=ij.k (k:=cy x) ak;have cR:=O' rows x;nofun;refine ⟨Sub.name,_,a8,?_⟩;rw [cR];by_cases bF:(!told rows x)=true
    .rw [if_pos bF];rw [if_pos bF] at bj;exact bj
    .rw [if_neg bF];rw [if_neg bF] at bj;simpa using bj
   .rw [DV];exact q l _ (sB.trans (ba aL)) (fun n=>(k3 n).upd) (sB.free aL) aQ
noncomputable def yA (ds:List bc) (left:List Str) (f:Str):List Str:=left.filter fun x=>decide ((hM ds x).map iz=(hM ds f).map iz)
noncomputable def q' (alike:List Str):List Str->Nat->List Str->Except Nat (List Str)
 | [],_,ms=>.ok ms
 | x :: r,j,ms=>if x ∈ alike/\x ∉ ms then q' alike r (j + 1) (ms ++ [x]) else .error j
noncomputable def mL (ds:List bc) (left ws:List Str):Except Nat (List Str):=if aD ws 3 ∈ left then q' (yA ds left (aD ws 3)) (ws.drop 4) 4 [aD ws 3] else .error 3
noncomputable def qV (ds:List bc) (rows:List ST) (ws:List Str):Except Nat ST:=if aD ws 0 ∈ [ae "stage"] then
 (lb (aD ws 1) 1 60).elim (.error 1) fun lo=>(lb (aD ws 2) lo 60).elim (.error 2) fun ai=>match mL ds (hj ds rows) ws with
  | .error k=>.error k
  | .ok ms=>.ok ⟨lo,ai,ms⟩ else .error 0
theorem TQ:∀ {r:List Str} {j:Nat} {ms qT:List Str},q' alike r j ms=.ok qT->ms.Nodup->qT.Nodup/\(∃ more,qT=ms ++ more)/\∀ x ∈ qT,x ∈ ms\/x ∈ alike
 | [],j,ms,qT,h,aI=>by
  have h:rW ms=rW (ε:=Nat) qT:=h;cases h;exact ⟨aI,⟨[],by simp⟩,fun x ah=>.inl ah⟩
 | y :: r,j,ms,qT,h,aI=>by
  unfold q' at h;split at h
  .rename_i c;obtain ⟨af,⟨more,ak⟩,a5⟩:=TQ h (Ku.mpr ⟨aI,by simp,fun a aP b aa e=>by
    rw [eY.mp aa] at e;rw [e] at aP;exact c.2 aP⟩)
   refine ⟨af,⟨y :: more,by rw [ak,l7];rfl⟩,fun x ah=>?_⟩;rcases a5 x ah with z | z
   .rcases eR.mp z with z | z
    .exact .inl z
    .rw [eY.mp z];exact .inr c.1
   .exact .inr z
  .cases h
def agt (t:bK):bM:=fun vs H Q _=>∃ q row ws c n ds l left ms,vs=[.ref q,.ref c,.ref l]/\dj t H q row ws 3/\fU t H c n ds/\(∀ d ∈ ds,d.k < 3/\d.name ≠ ae "")/\H l=some (.lst (aY left))/\left.length <= 12/\(∀ x ∈ left,∃ d ∈ ds,d.name=x)/\aJ H/\mL ds left ws=.ok ms /\
 ∀ m I,ad q H I->aJ I->(∃ u,I q=some u)->I m=some (.lst (aY ms))->H m=none->Q (.ref m) I
def MK (t:bK):bM:=fun vs H Q _=>∃ q row ws c n ds p qs ms rows s,vs=[.ref q,.ref c,.ref p]/\dj t H q row ws 0/\fU t H c n ds/\(∀ d ∈ ds,d.k < 3/\d.name ≠ ae "")/\i9 H p qs ms rows/\rows.length <= 6/\(∀ r ∈ rows,r.mem.length <= 12)/\aJ H/\qV ds rows ws=.ok s /\
 ∀ x m I,ad q H I->aJ I->I x=some (G_ s m)->I m=some (.lst (aY s.mem))->H x=none->H m=none->Q (.ref x) I
theorem mu {ds:List bc} (aI:(ds.map (·.name)).Nodup) {i:Nat} {d:bc} (h:ds[i]? = some d):hM ds d.name=some d:=by
 unfold hM;cases e:ds.find? fun x=>decide (x.name=d.name) with
 | none=>
  have:=agC.mp e d (b9 h);simp at this
 | some x=>
  have af:x.name=d.name:=by simpa using List.find?_some e
  obtain ⟨j,aG⟩:=hU (aer e);have:=v7 aI (b6.mp aG).1 (b6.mp h).1 (by rw [nr aG,nr h,af]);subst this;rw [aG] at h;exact h
theorem fU.xI {t:bK} {k:Nat} (h:fU t H c n ds) (s:ad q H I) (R:dj t H q row ws k):fU t I c n ds:=by
 obtain ⟨h0,ho,wl,aI,aq,⟨as,dC,ea,al⟩,bO⟩:=h;obtain ⟨_,Cn,a9,f1,f2⟩:=id R;refine ⟨h0,ho,wl,aI,s _ _ (fun z=>?_) aq,⟨as,s _ _ (cx dC f1 (by intro z;cases z)) dC,ea,fun i b d aa hd=>?_⟩,s _ _ (cx bO f1 (by intro z;cases z)) bO⟩
 .subst z;rw [aq] at f1;have e:=eE f1;injection e with _ _ d_;unfold pz m2 at d_;injection d_ with fR _;injection fR with ec _;exact absurd ec (by ac_nf)
 .have W:=al i b d aa hd;have aX:=Qx W R;exact ⟨W.1,W.2.imp fun az e=>s _ _ aX e⟩
theorem ahl (h:j < ws.length):ws.drop j=aD ws j :: ws.drop (j + 1):=by
 rw [tV h];unfold aD;rw [jQ,a' h];rfl
theorem i9.xI {t:bK} {q p:Addr} {rows:List ST} {k:Nat} (h:i9 H p qs ms rows) (s:ad q H I) (R:dj t H q row ws k):i9 I p qs ms rows:=by
 obtain ⟨_,Cn,a9,f1,f2⟩:=id R;refine ⟨s _ _ (cx h.at_ f1 (by intro z;cases z)) h.at_,h.cz,h.cK,fun i q m r a b c=>?_⟩;obtain ⟨aq,aH⟩:=h.al i q m r a b c;exact ⟨s _ _ (cx aq f1 (by intro z;cases z)) aq,s _ _ (cx aH f1 (by intro z;cases z)) aH⟩
theorem aaL:cm P base T 4 t.KJ t.LV Ky (agt t):=by
 refine cv (A2 T) fun q8=>cv (VU T) fun Ki=>cv (Si T) fun Ef=>?_;exists T.EC.ok A3,9
 obtain ⟨q,row,ws,c,n,ds,l,left,Tc,rfl,R,C,aC,aL,uW,TC,bx,cF,k0⟩:=h;refine ⟨_,(db (n5 (i:=3) A3.aI rfl (mb rfl) (fg (U 0) T.f_ T.y0 q8 ao T.xf .nil c2 (ag (U 2) aA)))
   (db (n5 (i:=4) A3.aI rfl (mb rfl) (ld (ag (U 3) aA)))
   (db (Pi (i:=5) A3.aI rfl (oQ rfl) rfl (e5 (U 2)) (fO (sc:=bt AU) rfl (by ac_nf)) (N:=["name","crossing","first"]) (sel:=[none,some 1,some 3]) (fT (M:=ED) (by ac_nf)) (e3.of (fun _ _ _ _=>(b7 (i:=0) (d3 (N:=["name","crossing","first"]) (by ac_nf) rfl))) (fun _ _ _ _=>⟨_,(sD (cX et (bU Ef ao T.I6 T.wb.bl T.wv (ag (U 1) (ag (U 0) aA))) (bU Ef ao T.I6 T.wb.bl T.wv (ag (U 1) (ag (U 2) aA))) (cA _))),by walk_at "B"⟩) (fun _ _ _ _=>⟨_,(U 0),by walk_at "B"⟩)) rfl)
   (db (Zt fF (oj (kp (U 0) T.f_ T.P2 Ki ao T.Qa .nil c2)) (a0 (dS (eF f6 kr kz j9 (U 4) (ag (fg (U 0) T.f_ T.y0 q8 ao T.xf .nil c2 (ag (g_ rfl (e5 (U 5)) (fO (sc:=bt AU) rfl (by ac_nf)) (N:=["name","members"]) (sel:=[none,some 4]) (fT (M:=ED) (by ac_nf)) (e3.of (fun _ _ _ _=>(b7 (i:=0) (d3 (N:=["name","members"]) (by ac_nf) rfl))) (fun _ _ _ _=>⟨_,(sD (cX LO (U 0) (U 1) (by with_unfolding_all rfl))),by walk_at "B"⟩) (fun _ _ _ _=>⟨_,(U 0),by walk_at "B"⟩))) aA)) aA)))))
   (a0 (b' (U 4))))))),?_⟩
 obtain ⟨aN,az,a9,aq,aH⟩:=id R;unfold mL at cF;split at cF
 case isFalse=>cases cF
 rename_i gx;obtain ⟨kP,sz,qx⟩:=TC _ gx;have wB:4 <= ws.length:=JS (k:=3) (by rw [<- qx];exact (aC kP sz).2);nofun;refine ⟨_,_,aq,dj.no _ _ _ (by ac_nf),⟨q,row,ws,3,_,l,left,rfl,R,yB (by omega),ay.of aL,gx,fun H1 s1 cM kG=>?_⟩⟩;have iP:=cM bx;have wN:=C.xI s1 R;have Mj:H1 l=some (.lst (aY left)):=s1 _ _ (cx aL aq (by intro z;cases z)) aL;generalize hf:aD ws 3=f0 at cF gx qx ⊢;obtain ⟨zX,S9⟩:=hU sz;nofun;refine ⟨by decide,fun gs mZ=>?_⟩;obtain ⟨wO,S8,PI,f1,f2⟩:=id kG;have MN:H gs=none:=by
  cases e:H gs with
  | none=>rfl
  | some u=>
   by_cases z:gs=q
   .rw [z,f1] at mZ;cases mZ
   .rw [s1 _ _ z e] at mZ;cases mZ
 have sB:aK H1 (upd H1 gs (.lst [V.str f0])):=ba mZ;have IM:(upd H1 gs (.lst [V.str f0])) gs=some (.lst [V.str f0]):=aQ;have k3:aJ (upd H1 gs (.lst [V.str f0])):=iP.upd;generalize upd H1 gs (.lst [V.str f0])=lz at sB IM k3 ⊢;have Sg:=wN.same sB;have QU:=sB _ _ Mj;have gX:=C.1.1;refine ⟨⟨_,ay.of QU⟩,?_⟩;refine c1.u1 (xs:=aY left) (ss:=left.map fun x=>if decide ((hM ds x).map iz=(hM ds f0).map iz)=true then some (V.str x) else none) (ay.of QU) (by rw [fK];exact cL uW (by decide)) (by rw [fK,aW]) (fun i v o ys N aF aS bj=>?_) (fun al mD=>?_)
 .unfold aY at aF;obtain ⟨x,ah,rfl⟩:=b8 aF;obtain ⟨eu,dW,rfl⟩:=b8 aS;rw [ah] at dW;cases dW;obtain ⟨dX,Df,rfl⟩:=TC x (b9 ah);obtain ⟨j,aG⟩:=hU Df;rw [<- qx,mu gX aG,mu gX S9] at bj;nofun;refine ⟨Sub.name,c,n,ds,j,dX,rfl,Sg,aG,(aC dX Df).1,c,n,ds,zX,kP,by rw [qx],Sg,S9,(aC kP sz).1,rfl,?_⟩;by_cases bF:iz dX=iz kP
  .simp [bF] at bj ⊢;exact bj
  .simp [bF] at bj ⊢;exact bj
 rw [DV];rw [show left.filter (fun x=>decide ((hM ds x).map iz=(hM ds f0).map iz))=yA ds left f0 from rfl];have oo:(yA ds left f0).length <= 12:=by
  unfold yA;exact cL (vk ..) uW
 generalize yA ds left f0=alike at cF oo ⊢;have ky:aK lz (upd lz al (.lst (aY alike))):=ba mD;have Pr:(upd lz al (.lst (aY alike))) al=some (.lst (aY alike)):=aQ;have We:aJ (upd lz al (.lst (aY alike))):=k3.upd;have ael:al ≠ gs:=fun z=>by rw [z,IM] at mD;cases mD
 generalize upd lz al (.lst (aY alike))=KI at ky Pr We ⊢;have Z0:ad q H KI:=s1.trans (ad.of (sB.trans ky));refine ae' (fun σ I=>∃ ms:List Str,σ=[~~~q,~~~c,~~~l,some (.str f0),~~~gs,~~~al]/\ad q H I/\aJ I/\dj t I q row ws (3 + ms.length)/\I gs=some (.lst (aY ms))/\I al=some (.lst (aY alike))/\3 + ms.length <= ws.length/\q' alike (ws.drop (3 + ms.length)) (3 + ms.length) ms=.ok Tc) (fun σ I=>match I gs with | some (.lst xs)=>ws.length - xs.length | _=>0) ?_ ?_
 .exact ⟨[f0],rfl,Z0,We,kG.same (sB.trans ky),ky _ _ IM,Pr,wB,cF⟩
 rintro σ I a_;ac_rfl
 obtain ⟨ms,rfl,gc,cU,e',kV,a2,uj,gj⟩:=a_;obtain ⟨CW,yd,I3,g1,g2⟩:=id e';have Nv:gs ≠ q:=cx kV g1 (by intro z;cases z);have aas:al ≠ q:=cx a2 g1 (by intro z;cases z);subst aT;refine ⟨decide (3 + ms.length < ws.length),fun Q' aV=>?_,fun sv=>?_,fun sv=>?_⟩
 .nofun;exact ⟨_,_,g1,dj.no _ _ _ (by ac_nf),⟨q,row,ws,_,rfl,e',_,rfl,aV⟩⟩
 .have sv:=of_decide_eq_true sv;rw [ahl sv] at gj;unfold q' at gj;nofun;refine ⟨.inl ⟨_,ay.of kV⟩,?_⟩;refine ⟨_,_,g1,dj.no _ _ _ (by ac_nf),⟨_,ay.of a2⟩,?_⟩;refine c1.u1 (xs:=aY alike) (ss:=alike.map fun x=>if (!decide (x ∈ ms))=true then some (V.str x) else none) (ay.of a2) (by rw [fK];exact cL oo (by decide)) (by rw [fK,aW]) (fun i v o ys N aF aS bj=>?_) (fun cl mT=>?_)
  .unfold aY at aF;obtain ⟨x,ah,rfl⟩:=b8 aF;obtain ⟨eu,dW,rfl⟩:=b8 aS;rw [ah] at dW;cases dW;nofun;refine ⟨Sub.name,_,.inl (ay.of kV),rfl,xE ms,?_⟩;rw [wq];by_cases bF:x ∈ ms
   .simp [bF] at bj ⊢;exact bj
   .simp [bF] at bj ⊢;exact bj
  rw [DV];have tN:aK I (upd I cl (.lst (aY (alike.filter fun x=>!decide (x ∈ ms))))):=ba mT;have Py:(upd I cl (.lst (aY (alike.filter fun x=>!decide (x ∈ ms))))) cl=some (.lst (aY (alike.filter fun x=>!decide (x ∈ ms)))):=aQ;have Sb:aJ (upd I cl (.lst (aY (alike.filter fun x=>!decide (x ∈ ms))))):=cU.upd;generalize upd I cl (.lst (aY (alike.filter fun x=>!decide (x ∈ ms))))=Qb at tN Py Sb ⊢;split at gj
  case isFalse=>cases gj
  rename_i aB;refine ⟨q,row,ws,3 + ms.length,_,cl,_,rfl,e'.same tN,yB sv,ay.of Py,jc.mpr ⟨aB.1,by simpa using aB.2⟩,fun av s2 di nE=>?_⟩
  .have r5:av gs=some (.lst (aY ms)):=s2 _ _ Nv (tN _ _ kV);have ef:av al=some (.lst (aY alike)):=s2 _ _ aas (tN _ _ a2);obtain ⟨Dl,NH,UL,cb,dT⟩:=id nE;have al7:UL ≠ gs:=fun z=>by
    rw [z,r5] at dT;have e:=eE dT;injection e with e;have:=congrArg ra e;rw [fK,fK] at this;omega
   refine ⟨_,r5,gD (show (aY ms).length <= 1000 by rw [fK];have:=Dl.1;omega) (by decide),fun b u aa e=>?_,(di Sb).upd,⟨ms ++ [aD ws (3 + ms.length)],⟨Dl,NH,UL,?_,?_⟩,?_,?_,?_,?_⟩,?_⟩
   .rw [aM (dm e MN)];exact s2 _ _ aa (tN _ _ (gc _ _ aa e))
   .rw [aM (eb Nv),cZ];exact cb
   .rw [aM al7];exact dT
   .rw [aQ];unfold aY;rw [ed];rfl
   .rw [aM ael];exact ef
   .rw [cZ];show 3 + (ms.length + 1) <= _;omega
   .rw [cZ];exact gj
   .rw [aQ,kV];show ws.length - (aY ms ++ [V.str (aD ws (3 + ms.length))]).length < ws.length - (aY ms).length;rw [cZ,fK];show ws.length - (ms.length + 1) < _;omega
 .have sv:=of_decide_eq_false sv;rw [List.drop_of_length_le (by omega)] at gj;replace gj:(rW ms:Except Nat (List Str))=.ok Tc:=gj;cases gj;nofun;exact k0 gs I gc cU ⟨_,g1⟩ kV MN
theorem ag0:cm P base T 6 t.AD t.AJ Dt (MK t):=by
 refine cv (A2 T) fun q8=>cv (DI T) fun nW=>cv (aaL T) fun aiG=>cv (SO T) fun H7=>?_;exists T.HD.ok lm,9
 obtain ⟨q,row,ws,c,n,ds,p,qs,ms,rows,pf,rfl,R,C,aC,alL,hh,uZ,bx,cF,k0⟩:=h;refine ⟨_,(db (dS (fg (U 0) T.f_ T.y0 q8 ao T.xf .nil c2 (ag (ld (ag dF aA)) aA)))
   (db (bT (i:=3) lm.aI (fg (U 0) T.f_ T.rT nW ao T.q4 .nil c2 (ag aO (ag (mz rfl T.SP T.Qv) aA))))
   (db (bT (i:=4) lm.aI (fg (U 0) T.f_ T.rT nW ao T.q4 .nil c2 (ag (U 3) (ag (mz rfl T.SP T.Qv) aA))))
   (a0 (b' (p1 (ag (U 3) (ag (U 4) (ag (bU aiG ao T.afE T.EC.bl T.XE (ag (U 0) (ag (U 1) (ag (bU H7 ao T.Mq T.Cf.bl T.RS (ag (U 1) (ag (U 2) aA))) aA)))) aA))))))))),?_⟩
 obtain ⟨_,az,a9,aq,aH⟩:=id R;unfold qV at cF;split at cF
 case isFalse=>cases cF
 rename_i gx;have cz:1 <= ws.length:=JS (k:=0) (by rw [eY.mp gx];ac_nf);cases Cg:lb (aD ws 1) 1 60 with
 | none=>rw [Cg] at cF;cases cF
 | some lo=>
 have tH:jr (aD ws 1) 1 60=.int lo:=by rw [FC,Cg];rfl
 rw [Cg] at cF;replace cF:((lb (aD ws 2) lo 60).elim (.error 2) fun ai=>match mL ds (hj ds rows) ws with | .error k=>.error k | .ok ms=>.ok ⟨lo,ai,ms⟩:Except Nat ST)=.ok pf:=cF;cases HV:lb (aD ws 2) lo 60 with
 | none=>rw [HV] at cF;cases cF
 | some ai=>
 have w8:jr (aD ws 2) lo 60=.int ai:=by rw [FC,HV];rfl
 rw [HV] at cF;replace cF:(match mL ds (hj ds rows) ws with | .error k=>.error k | .ok ms=>.ok (⟨lo,ai,ms⟩:ST):Except Nat ST)=.ok pf:=cF;cases hm:mL ds (hj ds rows) ws with
 | error k=>rw [hm] at cF;cases cF
 | ok alg=>
 rw [hm] at cF;cases cF;have cK:=(G1 tH).1;nofun;refine ⟨_,_,aq,dj.no _ _ _ (by ac_nf),by decide,fun Wk hX=>?_⟩;have s0:aK H (upd H Wk (.lst [V.str (ae "stage")])):=ba hX;refine ⟨q,row,ws,0,_,Wk,[ae "stage"],rfl,R.same s0,yB cz,ay.of aQ,gx,fun H1 s1 cM kG=>?_⟩;obtain ⟨_,S8,PI,f1,f2⟩:=id kG;have iP:=cM bx.upd;have b1:ad q H H1:=(ad.of s0).trans s1;nofun;refine ⟨_,_,f1,dj.no _ _ _ (by ac_nf),⟨q,row,ws,1,_,1,60,lo,rfl,kG,yB cK,tH,iP,fun av s2 cU e'=>?_⟩⟩;have rn:=cU iP;have gc:ad q H av:=b1.trans s2;obtain ⟨_,yd,I3,g1,g2⟩:=id e';nofun;refine ⟨_,_,g1,dj.no _ _ _ (by ac_nf),⟨q,row,ws,2,_,lo,60,ai,rfl,e',yB (G1 w8).1,w8,rn,fun br s3 di nE=>?_⟩⟩;have Ah:=(G1 w8).1;have q0:=di rn;have g8:ad q H br:=gc.trans s3;have u3:=C.xI g8 R;have alF:=alL.xI g8 R;nofun;refine ⟨c,n,ds,p,qs,ms,rows,rfl,u3,alF,hh,uZ,fun l cJ s4 dc aL CO=>?_⟩;have dv:ad q H cJ:=g8.trans (ad.of s4);have H0:=dc q0;have tG:(hj ds rows).length <= 12:=by
  unfold hj;exact cL (vk ..) (by rw [aW];exact C.1.2)
 refine ⟨q,row,ws,c,n,ds,l,hj ds rows,alg,rfl,nE.same s4,u3.same s4,aC,CO,tG,fun x ah=>?_,H0,hm,fun m ck s5 Lg abY Y3 IE=>?_⟩
 .obtain ⟨d,hd,e⟩:=cc.mp (jc.mp ah).1;exact ⟨d,hd,e⟩
 obtain ⟨_,_,_,aac,_⟩:=nE.same s4;nofun;refine ⟨by decide,fun x ah=>?_⟩;have back:∀ {y:Addr} {G:aw},ad q H G->G y=none->(∃ u,G q=some u)->H y=none:=fun {y G} kl a6 ⟨u,bY⟩=>by
  cases e:H y with
  | none=>rfl
  | some v=>
   by_cases c:y=q
   .subst c;rw [bY] at a6;cases a6
   .rw [kl _ _ c e] at a6;cases a6
 exact k0 x m _ (dv.trans (s5.trans (ad.of (ba ah)))) Lg.upd aQ ((ba ah) _ _ Y3) (back (dv.trans s5) ah abY) (back dv IE ⟨_,aac⟩)
theorem Ut [DecidableEq α]:∀ {l l':List α},l.Nodup->(∀ x ∈ l,x ∈ l')->l.length <= l'.length
 | [],_,_,_=>fh _
 | a :: l,l',h,ax=>by
  have aP:=ax a (m3 ..);have ak:=tE.mp h;have:=Ut (l':=l'.erase a) ak.2 (fun x ah=>(List.mem_erase_of_ne (fun e=>ak.1 (by rw [<- e];exact ah))).mpr (ax x (ik _ ah)));rw [List.length_erase_of_mem aP] at this;have ar:=alR aP;rw [gy];omega
noncomputable def jS (rows:List ST) (x:Str):Option Nat:=match dn (gC (rows.map (·.mem))) (cy x) with
 | some (.int k)=>some k.toNat
 | _=>none
theorem UK {x:Str}:∀ (n:Nat) (dA:List (List Str)),n <= dA.length->(∃ ms ∈ dA.take n,x ∈ ms)->∃ (k:Nat) (ms:List Str),dn (gC (dA.take n)) (cy x)=some (.int (k:Int))/\dA[k]? = some ms/\x ∈ ms
 | 0,dA,_,h=>by
  obtain ⟨ms,af,_⟩:=h;simp at af
 | n + 1,dA,aX,h=>by
  have a8:dA[n]? = some dA[n]:=a' (by omega);rw [up a8,KG];by_cases c:x ∈ dA[n]
  .rw [if_pos c];exact ⟨n,_,rfl,a8,c⟩
  .rw [if_neg c];refine UK n dA (by omega) ?_;obtain ⟨ms,af,ak⟩:=h;rw [re a8] at af;rcases eR.mp af with af | af
   .exact ⟨ms,af,ak⟩
   .rw [eY.mp af] at ak;exact absurd ak c
theorem nM {rows:List ST} {x:Str} (h:told rows x=true):∃ (k:Nat) (r:ST),dn (gC (rows.map (·.mem))) (cy x)=some (.int (k:Int))/\jS rows x=some k/\rows[k]? = some r/\x ∈ r.mem:=by
 unfold told at h;obtain ⟨r,ao,ah⟩:=qL.mp h;have:=UK (x:=x) (rows.map (·.mem)).length (rows.map (·.mem)) (bP _) ⟨r.mem,by rw [il];exact cc.mpr ⟨r,ao,rfl⟩,by simpa using ah⟩;rw [il] at this;obtain ⟨k,ms,af,ak,a5⟩:=this;obtain ⟨ej,dY,rfl⟩:=b8 ak;exact ⟨k,ej,af,by unfold jS;rw [af];rfl,dY,a5⟩
noncomputable def xQ (rows:List ST) (d:bc):Option (bc × Nat):=(jS rows d.name).bind fun k=>(rows[k]?).bind fun r=>if r.lo < d.least then some (d,k) else none
noncomputable def vM (ds:List bc) (rows:List ST):Option (bc × Nat):=ds.findSome? (xQ rows)
noncomputable def pS (n:Int) (ds:List bc) (x y:Str):Bool:=match hM ds x,hM ds y with
 | some d,some e=>mt n d e
 | _,_=>false
noncomputable def o3 (n:Int) (ds:List bc) (k:Nat) (x y:Str):Option (Str × Str × Nat):=if x ≠ y/\pS n ds x y=true then some (x,y,k) else none
noncomputable def tb (n:Int) (ds:List bc) (e:ST × Nat):Option (Str × Str × Nat):=e.1.mem.findSome? fun x=>e.1.mem.findSome? fun y=>o3 n ds e.2 x y
noncomputable def u_ (n:Int) (ds:List bc) (rows:List ST):Option (Str × Str × Nat):=rows.zipIdx.findSome? (tb n ds)
def yQ (ds:List bc):Prop:=∀ d ∈ ds,acY d.name/\d.k < 3/\(0 <= d.off/\d.off <= 1000)
structure qQ (ds:List bc) (rows:List ST):Prop where
 ln:rows.length <= 6
 gs:∀ r ∈ rows,r.mem.length <= 12
 wY:∀ r ∈ rows,∀ x ∈ r.mem,∃ d ∈ ds,d.name=x
def Tq (t:bK):bM:=fun vs H Q _=>∃ c n ds p qs ms rows,vs=[.ref c,.ref p]/\fU t H c n ds/\i9 H p qs ms rows/\qQ ds rows/\hj ds rows=[]/\∀ I,aK H I->(aJ H->aJ I)->Q .cn I
def PB (t:bK):bM:=fun vs H Q _=>∃ c n ds p qs ms rows,vs=[.ref c,.ref p]/\fU t H c n ds/\i9 H p qs ms rows/\qQ ds rows/\hj ds rows=[]/\vM ds rows=none/\∀ I,aK H I->(aJ H->aJ I)->Q .cn I
def T7 (t:bK):bM:=fun vs H Q _=>∃ c n ds p qs ms rows,vs=[.ref c,.ref p]/\fU t H c n ds/\0 < n/\i9 H p qs ms rows/\qQ ds rows/\aJ H/\u_ n ds rows=none/\∀ I,aK H I->(aJ H->aJ I)->Q .cn I
def ot (l:List Int) (v:Int):Prop:=v ∈ l/\∀ k ∈ l,k <= v
noncomputable def r8 (ds:List bc) (x:Str):Int:=((hM ds x).map lY).getD 0
noncomputable def sx (ds:List bc) (x:Str):Int:=((hM ds x).map ly).getD 0
noncomputable def tD (ds:List bc) (x y:Str):Int:=match hM ds x,hM ds y with
 | some d,some e=>if d.off - e.near > 0 then d.off - e.near else 0
 | _,_=>0
noncomputable def qw (n:Int) (ds:List bc) (s:List Str) (x:Str):List Int:=if x ∈ s then [] else (s.filter fun y=>pS n ds x y).map (tD ds x)
noncomputable def iV (n:Int) (ds:List bc) (f s:List Str):List Int:=[0] ++ f.map (r8 ds) ++ s.map (sx ds) ++ (ds.map (·.name)).flatMap (qw n ds s)
theorem BU {m:Str} (h:pk.contains m=false):(o9 d).lookup m=none:=xV pk (TF _) h
theorem UE (p:Str->Bool) (g:Str->Int):∀ xs:List Str,((xs.map fun x=>if p x=true then some (V.int (g x)) else none).flatMap uE)=((xs.filter p).map g).map V.int
 | []=>rfl
 | x :: xs=>by
  rw [e8,xa,UE p g xs];by_cases c:p x=true
  .rw [if_pos c,ahg c];rfl
  .rw [if_neg c,adf c];rfl
theorem A_:∀ bC:List Int,bC ≠ []->∃ m,m ∈ bC/\∀ k ∈ bC,k <= m
 | [],h=>absurd rfl h
 | [x],_=>⟨x,by simp,fun k aC=>by rw [eY.mp aC];exact rr _⟩
 | x :: y :: r,_=>by
  obtain ⟨m,hm,al⟩:=A_ (y :: r) (by simp);by_cases c:x <= m
  .refine ⟨m,ik _ hm,fun k aC=>?_⟩;rcases en.mp aC with rfl | aC
   .exact c
   .exact al k aC
  .refine ⟨x,by simp,fun k aC=>?_⟩;rcases en.mp aC with rfl | aC
   .exact rr _
   .exact Int.le_trans (al k aC) (by omega)
def aax (t:bK):bM:=fun vs H Q _=>∃ c n ds gf aE f s,vs=[.ref c,.ref gf,.ref aE]/\fU t H c n ds/\0 < n/\yQ ds/\H gf=some (.lst (aY f))/\H aE=some (.lst (aY s))/\(∀ x ∈ f,∃ d ∈ ds,d.name=x)/\(∀ x ∈ s,∃ d ∈ ds,d.name=x)/\f.length <= 12/\s.length <= 12/\aJ H/\∀ v,ot (iV n ds f s) v->Q (.int v) H
def ab_ (t:bK):bM:=fun vs H Q _=>∃ c n ds gf aE f s,vs=[.ref c,.ref gf,.ref aE]/\fU t H c n ds/\0 < n/\yQ ds/\H gf=some (.lst (aY f))/\H aE=some (.lst (aY s))/\(∀ x ∈ f,∃ d ∈ ds,d.name=x)/\(∀ x ∈ s,∃ d ∈ ds,d.name=x)/\f.length <= 12/\s.length <= 12/\aJ H/\∀ v I,aK H I->ot (iV n ds f s) v->Q (.int v) I
theorem alV:cm P base T 3 t.Al t.Ag k2 (Tq t):=by
 refine cv (SO T) fun H7=>?_;exists T.Ht.ok Qn,9
 obtain ⟨c,n,ds,p,qs,ms,rows,rfl,C,R,J,ek,q⟩:=h;refine ⟨_,(db (bT (i:=2) Qn.aI (bU H7 ao T.Mq T.Cf.bl T.RS (ag (U 0) (ag (U 1) aA))))
   (a0 (dU (Cv (U 2) (fun _=>rfl)) (a0 pC) eh))),?_⟩
 nofun;refine ⟨c,n,ds,p,qs,ms,rows,rfl,C,R,J.ln,J.gs,fun l H1 s1 cM aL cz=>?_⟩;dsimp only;rw [ek] at cz;refine dh false (fun Q aV=>?_) (fun z=>nomatch z) (fun _=>?_)
 .exact ⟨_,rfl,_,.inl ⟨_,ay.of cz,rfl⟩,aV⟩
 .simp only [gQ];exact q H1 s1 cM
theorem aei:cm P base T 3 t.Ch t.zP k2 (PB t):=by
 refine cv (Fy T) fun yX=>cv (DF T) fun sH=>cv (se T) fun jO=>?_;exists T.Lm.ok Bo,9
 obtain ⟨c,n,ds,p,qs,ms,rows,rfl,C,R,J,abz,yT,q⟩:=h;have bY:=iN ao;obtain ⟨⟨gX,gP⟩,az,wl,aI,aq,_,_⟩:=id C;refine ⟨_,(db (bT (i:=2) Bo.aI (bU yX ao T.Ji T.xA.bl T.Mf (ag (g_ rfl (e5 (U 1)) (fO (sc:=bt Lp) rfl (by ac_nf)) (N:=iR) (sel:=[none,none,none]) (fT (M:=["crossing","rows","homes","name","number"]) (by ac_nf)) (e3.of (fun _ _ _ _=>(kA (K:=K) (n:=3) rfl rfl (eB (b7 (i:=0) (d3 (N:=iR) (by ac_nf) rfl)) (eB (b7 (i:=1) (d3 (N:=iR) (by ac_nf) rfl)) (eB (b7 (i:=2) (d3 (N:=iR) (by ac_nf) rfl)) kC))))) (fun _ _ _ _=>⟨_,hn,by walk_at "B"⟩) (fun _ _ _ _=>⟨_,(U 2),by walk_at "B"⟩))) aA)))
   (a0 (fw fF rfl (e5 (kp (U 0) T.h5 T.D0 sH ao T.Uf .nil c2)) (b7 (i:=3) Bo.aI) (db (bT (i:=4) Bo.aI (oZ bY (U 2) (U 3) (fun _ _=>rfl)))
   (a0 (dU (cX lR (bZ gR (bZ c8 (U 1) (U 4)) aO) (bw (fg (U 0) T.h5 T.ow jO ao T.n4 .nil c2 (ag (U 3) aA)) rfl) (cA _)) (a0 pC) eh)))))),?_⟩
 nofun;have jt:(qs.map V.ref).length=rows.length:=by rw [aW,R.cz]
 refine ⟨⟨_,ay.of R.at_⟩,?_⟩;refine c1.ml (xs:=qs.map V.ref) (zs:=ms.map V.ref) (ay.of R.at_) (by rw [jt];exact cL J.ln (by decide)) (by rw [jt,aW,R.cK]) (fun j v z N aF aN bj=>?_) (fun pm Lq=>?_)
 .obtain ⟨kD,eP,rfl⟩:=b8 aF;obtain ⟨E5,kY,rfl⟩:=b8 aN;have aG:j < rows.length:=by rw [<- R.cz];exact (b6.mp eP).1
  have e:=(R.al j kD E5 _ eP kY (a' aG)).1;nofun;exact ⟨_,dR.of e,rfl,_,_,rfl,_,_,rfl,_,_,rfl,rfl,Sub.vX,bj⟩
 .have sp:aK H (upd H pm (.lst (ms.map V.ref))):=ba Lq;have np:aJ H->aJ (upd H pm (.lst (ms.map V.ref))):=fun n=>n.upd
  have ct:(upd H pm (.lst (ms.map V.ref))) pm=some (.lst (ms.map V.ref)):=aQ;generalize upd H pm (.lst (ms.map V.ref))=rx at sp np ct ⊢;refine ⟨pm,ms,rows.map (·.mem),rfl,⟨ct,by rw [R.cK,aW],fun i m x hm ah=>?_⟩,by rw [aW];exact J.ln,fun x ah=>?_,fun h H1 s1 cM b2 af=>?_⟩
  .obtain ⟨r,dY,rfl⟩:=b8 ah;have hk:qs[i]? = some (qs[i]'(by rw [R.cz];exact (b6.mp dY).1)):=a' _;exact sp _ _ (R.al i _ m r hk hm dY).2
  .obtain ⟨r,dY,rfl⟩:=cc.mp ah;exact J.gs r dY
  .have tv:=sp.trans s1;have wN:=C.same tv;refine ⟨_,_,tv _ _ aq,kT _ _ _ (by ac_nf),c,n,ds,rfl,wN,fun eL kF=>⟨eL,rfl,⟨_,ay.of aQ⟩,?_⟩⟩;have sB:=tv.trans (ba (o:=.lst (aY (ds.map (·.name)))) kF);have ak:=(ba (o:=.lst (aY (ds.map (·.name)))) kF) _ _ af;have k3:aJ H->aJ (upd H1 eL (.lst (aY (ds.map (·.name))))):=fun n=>(cM (np n)).upd
   have rE:(upd H1 eL (.lst (aY (ds.map (·.name))))) eL=some (.lst (aY (ds.map (·.name)))):=aQ;generalize upd H1 eL (.lst (aY (ds.map (·.name))))=lz at sB ak k3 rE ⊢;refine dZ.list (xs:=aY (ds.map (·.name))) (fun i σ I=>(∃ x y,σ=[~~~c,~~~p,~~~h,x,y])/\I=lz/\vM ds rows=(ds.drop i).findSome? (xQ rows)) ?_ ?_ ?_ ?_
   .exact ⟨⟨_,_,rfl⟩,rfl,rfl⟩
   .rintro i σ I ai ⟨_,rfl,_⟩;exact ay.of rE
   .rintro i v σ I aF a_;ac_rfl
    obtain ⟨⟨x,y,rfl⟩,rfl,dE⟩:=a_;subst aT;unfold aY at aF;obtain ⟨nm,mG,rfl⟩:=b8 aF;obtain ⟨d,hd,rfl⟩:=b8 mG;obtain ⟨ai,ag5⟩:=b6.mp hd;have Dp:=b9 hd;have cR:told rows d.name=true:=by
     have:=M'.mp abz d.name (cc.mpr ⟨d,Dp,rfl⟩);simpa using this
    obtain ⟨k,r,WV,Hu,jq,kI⟩:=nM cR;have oA:k < rows.length:=(b6.mp jq).1;have ahY:xQ rows d=if r.lo < d.least then some (d,k) else none:=by
     unfold xQ;rw [Hu,yt,jq,yt]
    rw [tV ai,Le,ag5,ahY] at dE;have a8:ij I h (.str d.name) (some (.int (k:Int))):=by rw [<- WV];exact ij.k (k:=cy d.name) ak
    have ML:qs[k]? = some (qs[k]'(by rw [R.cz];exact oA)):=a' _;have agB:ms[k]? = some (ms[k]'(by rw [R.cK];exact oA)):=a' _;have aba:=sB _ _ (R.al k _ _ r ML agB jq).1;simp only [gL,dG,jJ,jM];exists (fun au av=>av=I/\au=[~~~c,~~~p,~~~h,some (.str d.name),some (.int (k:Int))]),2
    .nofun;exact ⟨_,a8,cY _ _ ⟨rfl,rfl⟩⟩
    rintro cw av ⟨rfl,rfl⟩;subst aT;dsimp only;refine dh (decide (r.lo < d.least)) (fun Q aV=>?_) (fun aa=>?_) (fun aa=>?_)
    .nofun;exact ⟨_,ay.of (sB _ _ R.at_),_,cp (by rw [df,ML];rfl),_,rfl,_,dR.of aba,_,cp (j:=0) rfl,_,_,sB _ _ aq,kT _ _ _ (by ac_nf),c,n,ds,i,d,rfl,C.same sB,hd,fun a W=>⟨a,rfl,_,W.Xq T,_,rfl,_,rfl,aV⟩⟩
    .have aa:=of_decide_eq_true aa;rw [if_pos aa] at dE;replace dE:vM ds rows=some (d,k):=dE;rw [dE] at yT;cases yT
    .have aa:=of_decide_eq_false aa;rw [if_neg aa] at dE;simp only [gQ];exact ⟨⟨_,_,rfl⟩,trivial,dE⟩
   .rintro σ I a_;ac_rfl
    obtain ⟨⟨x,y,rfl⟩,rfl,dE⟩:=a_;subst aT;rw [fK,aW,wZ] at dE;exact q _ sB k3
theorem ajG:cm P base T 4 t.Aj t.Aw k2 (T7 t):=by
 refine cv (Rj T) fun Fn=>?_;exists T.Kx.ok xK,9
 obtain ⟨c,n,ds,p,qs,ms,rows,rfl,C,aX,R,J,bx,yT,q⟩:=h;obtain ⟨⟨gX,gP⟩,az,wl,aI,aq,_,_⟩:=id C;refine ⟨_,(a0 (fw fF rfl (BK rfl T.Ce (ag (U 1) aA)) (kA (K:=K) (n:=2) rfl rfl (eB (b7 (i:=2) xK.aI) (eB (b7 (i:=3) xK.aI) kC))) (a0 (fw fF rfl (e5 (bZ gR (U 3) aO)) (b7 (i:=4) xK.aI) (a0 (fw fF rfl (e5 (bZ gR (U 3) aO)) (b7 (i:=5) xK.aI) (a0 (dU (fM.pt (md (cX pM (U 4) (U 5) (cA _)) (mi (oj (bU Fn ao T.OR T.C5.bl T.S5 (ag (U 0) (ag (U 4) (ag (U 5) aA)))))))) (a0 pC) eh)))))))),?_⟩;nofun;have O2:∀ {x:Str},(∃ d ∈ ds,d.name=x)->∃ (i:Nat) (d:bc),ds[i]? = some d/\d.name=x/\hM ds x=some d:=fun ⟨d,hd,e⟩=>by
  obtain ⟨i,ai⟩:=hU hd;exact ⟨i,d,ai,e,by rw [<- e];exact mu gX ai⟩
 refine ⟨⟨_,ay.of R.at_⟩,?_⟩;refine dZ.enum (xs:=qs.map V.ref) (fun i σ I=>(∃ x y z u,σ=[~~~c,~~~p,x,y,z,u])/\aK H I/\aJ I/\u_ n ds rows=((rows.drop i).zipIdx i).findSome? (tb n ds)) ?_ ?_ ?_ ?_
 .exact ⟨⟨_,_,_,_,rfl⟩,aK.refl _,bx,rfl⟩
 .rintro i σ I ai ⟨_,bq,_⟩;exact ay.of (bq _ _ R.at_)
 .rintro i v σ I j0 aF ⟨⟨x,y,z,u,rfl⟩,bq,cM,dE⟩ pL;obtain ⟨q9,hk,rfl⟩:=b8 aF;have ai:i < rows.length:=by rw [<- R.cz];exact (b6.mp hk).1
  have h6:rows[i]? = some rows[i]:=a' ai;have rF:ms[i]? = some (ms[i]'(by rw [R.cK];exact ai)):=a' _;obtain ⟨uS,em⟩:=R.al i q9 _ _ hk rF h6;generalize ms[i]'(by rw [R.cK];exact ai)=m at rF uS em;have uZ:=b9 h6;have gx:=J.wY _ uZ;have mZ:=J.gs _ uZ;rw [tV ai,List.zipIdx_cons,Le] at dE;generalize ao6:rows[i]=r at uS em gx mZ dE;have s2:aK I (upd I j0 (.tup [.int i,.ref q9])):=ba pL;have sB:=bq.trans s2;have k3:aJ (upd I j0 (.tup [.int i,.ref q9])):=cM.upd;refine tA ?_;generalize upd I j0 (.tup [.int i,.ref q9])=lz at s2 sB k3 ⊢;have OM:=sB _ _ uS;have A':=sB _ _ em;nofun;refine ⟨_,dR.of OM,_,cp (j:=2) rfl,m,rfl,⟨_,ay.of A'⟩,?_⟩;generalize anA:((rows.drop (i + 1)).zipIdx (i + 1)).findSome? (tb n ds)=lC at dE;refine dZ.list (xs:=aY r.mem) (fun j σ av=>(∃ z u,σ=[~~~c,~~~p,some (.int (i:Int)),~~~q9,z,u])/\av=lz/\tb n ds (r,i)=(r.mem.drop j).findSome? (fun x=>r.mem.findSome? fun y=>o3 n ds i x y)) ?_ ?_ ?_ ?_
  .exact ⟨⟨_,_,rfl⟩,rfl,rfl⟩
  .rintro j σ av aG ⟨_,rfl,_⟩;exact ay.of A'
  .rintro j v σ av aF a_;ac_rfl
   obtain ⟨⟨z,u,rfl⟩,rfl,gA⟩:=a_;subst aT;unfold aY at aF;obtain ⟨b1,xP,rfl⟩:=b8 aF;obtain ⟨aG,afV⟩:=b6.mp xP;rw [tV aG,Le,afV] at gA;obtain ⟨i1,dX,Df,FA,wD⟩:=O2 (gx b1 (b9 xP));generalize anl:(r.mem.drop (j + 1)).findSome? (fun x=>r.mem.findSome? fun y=>o3 n ds i x y)=an5 at gA;nofun;refine ⟨_,dR.of OM,_,cp (j:=2) rfl,m,rfl,⟨_,ay.of A'⟩,?_⟩;refine dZ.list (xs:=aY r.mem) (fun l σ br=>(∃ u,σ=[~~~c,~~~p,some (.int (i:Int)),~~~q9,some (.str b1),u])/\br=av/\(r.mem.findSome? fun y=>o3 n ds i b1 y)=(r.mem.drop l).findSome? (fun y=>o3 n ds i b1 y)) ?_ ?_ ?_ ?_
   .exact ⟨⟨_,rfl⟩,rfl,rfl⟩
   .rintro l σ br aL ⟨_,rfl,_⟩;exact ay.of A'
   .rintro l v σ br aF a_;ac_rfl
    obtain ⟨⟨u,rfl⟩,rfl,ek⟩:=a_;subst aT;unfold aY at aF;obtain ⟨gc,wQ,rfl⟩:=b8 aF;obtain ⟨aL,gN⟩:=b6.mp wQ;rw [tV aL,Le,gN] at ek;obtain ⟨i2,el,hd2,r4,ahE⟩:=O2 (gx gc (b9 wQ));have Ak:pS n ds b1 gc=mt n dX el:=by unfold pS;rw [wD,ahE]
    have afh:o3 n ds i b1 gc=if b1 ≠ gc/\mt n dX el=true then some (b1,gc,i) else none:=by unfold o3;rw [Ak]
    rw [afh] at ek;simp only [gL,jJ,jM];refine dh (decide (b1 ≠ gc) && mt n dX el) (fun Q aV=>?_) (fun aa=>?_) (fun aa=>?_)
    .nofun;by_cases bF:b1=gc
     .rw [if_neg (by simp [bF])];rw [decide_eq_false (fun z=>z bF),mv] at aV;exact aV
     .rw [if_pos (by simpa using bF)];rw [decide_eq_true bF,lU] at aV;exact ⟨c,n,ds,i1,i2,dX,el,by rw [FA,r4],C.same sB,aX,Df,hd2,k3,_,rfl,aV⟩
    .rw [iF,decide_eq_true_eq] at aa;rw [if_pos aa] at ek;replace ek:(r.mem.findSome? fun y=>o3 n ds i b1 y)=some (b1,gc,i):=ek;rw [ek] at gA;replace gA:tb n ds (r,i)=some (b1,gc,i):=gA;rw [gA] at dE;replace dE:u_ n ds rows=some (b1,gc,i):=dE;rw [dE] at yT;cases yT
    .have aa:¬ (b1 ≠ gc/\mt n dX el=true):=fun z=>by
      rw [decide_eq_true z.1,z.2] at aa;exact nomatch aa
     rw [if_neg aa] at ek;simp only [gQ];exact ⟨⟨_,rfl⟩,trivial,ek⟩
   .rintro σ br a_;ac_rfl
    obtain ⟨⟨u,rfl⟩,rfl,ek⟩:=a_;subst aT;rw [fK,wZ] at ek;replace ek:(r.mem.findSome? fun y=>o3 n ds i b1 y)=none:=ek;rw [ek] at gA;exact ⟨⟨_,_,rfl⟩,rfl,gA⟩
  .rintro σ av a_;ac_rfl
   obtain ⟨⟨z,u,rfl⟩,rfl,gA⟩:=a_;subst aT;rw [fK,wZ] at gA;replace gA:tb n ds (r,i)=none:=gA;rw [gA] at dE;exact ⟨⟨_,_,_,_,rfl⟩,sB,k3,dE⟩
 .rintro σ I a_;ac_rfl
  obtain ⟨⟨x,y,z,u,rfl⟩,bq,cM,dE⟩:=a_;subst aT;rw [aW,R.cz,wZ] at dE;exact q _ bq (fun _=>cM)
theorem alv:cm P base T 4 t.JR t.LY H8 (aax t):=by
 refine cD.forget (sp:=ab_ t) ?_ fun vs H Q E h=>?_
 .have Fn:cD P w K mg base dk 3 t.DJ t.BF rX (NV t):=Rj T;have WY:cD P w K mg base dk 3 t.A0 t.Av rX (RA t):=ada T;have sH:cD P w K mg base dk 3 t.zb t.AL ["self"] (QS t):=(DF T).mono (by decide);have jO:cD P w K mg base dk 3 t.vV t.xt jU (Fb t):=(se T).mono (by decide);have Ha:qi P w K mg base dk 3 (uU t) "ready" ["self"] (vc t):=C6 (Pt T) (by decide);have GU:qi P w K mg base dk 3 (uU t) "fade" ["self"] (io t):=C6 (OC T) (by decide);exists T.IA.ok IC,9
  obtain ⟨c,n,ds,gf,aE,f,s,rfl,C,aX,bQ,hf,ax,fin,sin,n6,k6,bx,q⟩:=h;obtain ⟨⟨gX,gP⟩,az,wl,aI,aq,_,_⟩:=id C;refine ⟨_,(db (bT (i:=3) IC.aI (ld (ag aO aA)))
   (db (dS (eF f6 qC rK p0 (U 3) (ag (g_ rfl (e5 (U 1)) (fO (sc:=bt ze) rfl (by ac_nf)) (N:=C') (sel:=[none,some 0]) (fT (M:=zE) (by ac_nf)) (e3.of (fun _ _ _ _=>(b7 (i:=0) (d3 (N:=C') (by ac_nf) rfl))) (fun _ _ _ _=>⟨_,hn,by walk_at "B"⟩) (fun _ _ _ _=>⟨_,(DO (fg (U 1) T.h5 T.ow jO ao T.n4 .nil c2 (ag (U 0) aA)) GU ao c2),by walk_at "B"⟩))) aA)))
   (db (dS (eF f6 qC rK p0 (U 3) (ag (g_ rfl (e5 (U 2)) (fO (sc:=bt ze) rfl (by ac_nf)) (N:=C') (sel:=[none,some 0]) (fT (M:=zE) (by ac_nf)) (e3.of (fun _ _ _ _=>(b7 (i:=0) (d3 (N:=C') (by ac_nf) rfl))) (fun _ _ _ _=>⟨_,hn,by walk_at "B"⟩) (fun _ _ _ _=>⟨_,(DO (fg (U 1) T.h5 T.ow jO ao T.n4 .nil c2 (ag (U 0) aA)) Ha ao c2),by walk_at "B"⟩))) aA)))
   (db (fw fF rfl (e5 (kp (U 0) T.h5 T.D0 sH ao T.Uf .nil c2)) (Vu (i:=4) IC.aI rfl (mb rfl)) (a0 (dU (cX LO (U 4) (U 2) (by with_unfolding_all rfl)) (a0 (dS (eF f6 qC rK p0 (U 3) (ag (g_ rfl (e5 (U 2)) (fO (sc:=bt ze) rfl (by ac_nf)) (N:=["other","crossing","one"]) (sel:=[none,some 0,some 4]) (fT (M:=zE) (by ac_nf)) (e3.of (fun _ _ _ _=>(b7 (i:=0) (d3 (N:=["other","crossing","one"]) (by ac_nf) rfl))) (fun _ _ _ _=>⟨_,(sD (oj (bU Fn ao T.OR T.C5.bl T.S5 (ag (U 1) (ag (U 2) (ag (U 0) aA)))))),by walk_at "B"⟩) (fun _ _ _ _=>⟨_,(bU WY ao T.aiJ T.GG.bl T.agn (ag (U 1) (ag (U 2) (ag (U 0) aA)))),by walk_at "B"⟩))) aA)))) eh)))
   (a0 (b' (fP (MF rfl) rfl T.AZ Gp (ag (U 3) aA)))))))),?_⟩
  exists (fun au I=>aK H I/\aJ I/\∃ c5,H c5=none/\I c5=some (.lst ([(0:Int)].map V.int))/\au=[~~~c,~~~gf,~~~aE,~~~c5,none]),3
  .nofun;exact ⟨by decide,fun c5 nj=>bQ _ _ ⟨ba nj,bx.upd,c5,nj,aQ,rfl⟩⟩
  rintro fk H1 ⟨s1,cM,c5,nj,dC,rfl⟩;subst aT;exists (fun au I=>aK H I/\aJ I/\I c5=some (.lst (([0] ++ f.map (r8 ds)).map V.int))/\au=[~~~c,~~~gf,~~~aE,~~~c5,none]),5
  .nofun;refine ⟨.inl ⟨_,ay.of dC⟩,⟨_,ay.of (s1 _ _ hf)⟩,?_⟩;refine c1.ml (xs:=aY f) (zs:=(f.map (r8 ds)).map V.int) (ay.of (s1 _ _ hf)) (by rw [fK];exact cL n6 (by decide)) (by rw [fK,aW,aW]) (fun j v z N aF aN bj=>?_) (fun pl c9=>?_)
   .unfold aY at aF;obtain ⟨x,ah,rfl⟩:=b8 aF;obtain ⟨y,a6,rfl⟩:=b8 aN;obtain ⟨eu,dW,rfl⟩:=b8 a6;rw [ah] at dW;cases dW;obtain ⟨d,hd,rfl⟩:=fin x (b9 ah);obtain ⟨i,ai⟩:=hU hd;have J1:r8 ds d.name=lY d:=by unfold r8;rw [mu gX ai];rfl
    rw [J1] at bj;nofun;refine ⟨Sub.name,_,_,s1 _ _ aq,kT _ _ _ (by ac_nf),c,n,ds,i,d,rfl,C.same s1,ai,fun a W=>?_⟩;obtain ⟨vN,Td,rJ⟩:=id W;exact ⟨a,rfl,_,_,_,rJ,⟨_,vN,rfl⟩,BU (by ac_nf),a,d,rfl,W,rfl,bj⟩
   .refine ⟨pl,rfl,_,(ba c9) _ _ dC,_,aQ,?_,cY _ _ ⟨(s1.trans (ba c9)).gz nj,(cM.upd).upd,by rw [aQ,ed],rfl⟩⟩;rw [aW,aW,aW];exact cL (show _ <= 13 by show 1 + f.length <= 13;omega) (by decide)
  rintro cw av ⟨s2,cU,ea,rfl⟩;subst aT;exists (fun au I=>aK H I/\aJ I/\I c5=some (.lst (([0] ++ f.map (r8 ds) ++ s.map (sx ds)).map V.int))/\au=[~~~c,~~~gf,~~~aE,~~~c5,none]),5
  .nofun;refine ⟨.inl ⟨_,ay.of ea⟩,⟨_,ay.of (s2 _ _ ax)⟩,?_⟩;refine c1.ml (xs:=aY s) (zs:=(s.map (sx ds)).map V.int) (ay.of (s2 _ _ ax)) (by rw [fK];exact cL k6 (by decide)) (by rw [fK,aW,aW]) (fun j v z N aF aN bj=>?_) (fun pl c9=>?_)
   .unfold aY at aF;obtain ⟨x,ah,rfl⟩:=b8 aF;obtain ⟨y,a6,rfl⟩:=b8 aN;obtain ⟨eu,dW,rfl⟩:=b8 a6;rw [ah] at dW;cases dW;obtain ⟨d,hd,rfl⟩:=sin x (b9 ah);obtain ⟨i,ai⟩:=hU hd;have J1:sx ds d.name=ly d:=by unfold sx;rw [mu gX ai];rfl
    rw [J1] at bj;nofun;refine ⟨Sub.name,_,_,s2 _ _ aq,kT _ _ _ (by ac_nf),c,n,ds,i,d,rfl,C.same s2,ai,fun a W=>?_⟩;obtain ⟨vN,Td,rJ⟩:=id W;exact ⟨a,rfl,_,_,_,rJ,⟨_,vN,rfl⟩,BU (by ac_nf),a,d,rfl,W,rfl,bj⟩
   .refine ⟨pl,rfl,_,(ba c9) _ _ ea,_,aQ,?_,cY _ _ ⟨(s2.trans (ba c9)).gz nj,(cU.upd).upd,by rw [aQ,<- ed],rfl⟩⟩;rw [aW,aW,aW,cZ,aW];exact cL (show _ <= 25 by show 1 + f.length + s.length <= 25;omega) (by decide)
  rintro fI br ⟨s3,di,hY,rfl⟩;subst aT;exists (fun au I=>aK H I/\aJ I/\I c5=some (.lst ((iV n ds f s).map V.int))/\∃ dv,au=[~~~c,~~~gf,~~~aE,~~~c5,dv]),5
  .nofun;have u3:=C.same s3;refine ⟨_,_,s3 _ _ aq,kT _ _ _ (by ac_nf),c,n,ds,rfl,u3,fun eL kF=>⟨eL,rfl,⟨_,ay.of aQ⟩,?_⟩⟩;have sB:=s3.trans (ba (o:=.lst (aY (ds.map (·.name)))) kF);have k3:aJ (upd br eL (.lst (aY (ds.map (·.name))))):=di.upd;have rE:(upd br eL (.lst (aY (ds.map (·.name))))) eL=some (.lst (aY (ds.map (·.name)))):=aQ;have Sk:=(ba (o:=.lst (aY (ds.map (·.name)))) kF) _ _ hY;have aj6:eL ≠ c5:=fun z=>by rw [z,hY] at kF;cases kF
   generalize upd br eL (.lst (aY (ds.map (·.name))))=lz at sB k3 rE Sk ⊢;refine dZ.list (xs:=aY (ds.map (·.name))) (fun i σ I=>(∃ x,σ=[~~~c,~~~gf,~~~aE,~~~c5,x])/\aK H I/\aJ I/\I eL=some (.lst (aY (ds.map (·.name))))/\I c5=some (.lst (([(0:Int)] ++ f.map (r8 ds) ++ s.map (sx ds) ++ ((ds.map fun d:bc=>d.name).take i).flatMap (qw n ds s)).map V.int))/\(((ds.map fun d:bc=>d.name).take i).flatMap (qw n ds s)).length <= 12 * i) ?_ ?_ ?_ ?_
   .exact ⟨⟨_,rfl⟩,sB,k3,rE,by rw [tY,amS,xy];exact Sk,by simp⟩
   .rintro i σ I ai a_;ac_rfl
    obtain ⟨_,_,_,e,_⟩:=a_;subst aT;exact ay.of e
   .rintro i v σ I aF a_;ac_rfl
    obtain ⟨⟨dv,rfl⟩,bq,dc,SG,hG,CO⟩:=a_;subst aT;unfold aY at aF;obtain ⟨nm,mG,rfl⟩:=b8 aF;have aan:=mG;obtain ⟨d,hd,rfl⟩:=b8 aan;have anM:i < 12:=by have:=(b6.mp hd).1;omega
    have pR:=mu gX hd;simp only [gL,jJ,jM];refine dh (!decide (d.name ∈ s)) (fun Q aV=>?_) (fun aa=>?_) (fun aa=>?_)
    .nofun;refine ⟨_,.inl (ay.of (bq _ _ ax)),rfl,xE s,?_⟩;rw [wq];exact aV
    .have aa:d.name ∉ s:=by simpa using aa
     have qq:qw n ds s d.name=(s.filter fun y=>pS n ds d.name y).map (tD ds d.name):=by unfold qw;rw [if_neg aa]
     nofun;refine ⟨.inl ⟨_,ay.of hG⟩,⟨_,ay.of (bq _ _ ax)⟩,?_⟩;refine c1.u1 (xs:=aY s) (ss:=s.map fun y=>if pS n ds d.name y=true then some (V.int (tD ds d.name y)) else none) (ay.of (bq _ _ ax)) (by rw [fK];exact cL k6 (by decide)) (by rw [fK,aW]) (fun l v o ys N aF aS bj=>?_) (fun pl c9=>?_)
     .unfold aY at aF;obtain ⟨gc,wQ,rfl⟩:=b8 aF;obtain ⟨eu,dW,rfl⟩:=b8 aS;rw [wQ] at dW;cases dW;obtain ⟨e,he,rfl⟩:=sin gc (b9 wQ);obtain ⟨j,aG⟩:=hU he;have xN:=mu gX aG;have wL:pS n ds d.name e.name=mt n d e:=by unfold pS;rw [pR,xN]
      have ajN:tD ds d.name e.name=if d.off - e.near > 0 then d.off - e.near else 0:=by unfold tD;rw [pR,xN]
      rw [wL,ajN] at bj;nofun;refine ⟨Sub.name,c,n,ds,i,j,d,e,rfl,C.same bq,aX,hd,aG,dc,_,rfl,?_⟩;cases Ak:mt n d e with
      | true=>
       rw [if_pos rfl];rw [Ak,if_pos rfl] at bj;exact ⟨c,n,ds,i,j,d,e,rfl,C.same bq,hd,aG,bj⟩
      | false=>
       rw [if_neg (by decide)];rw [Ak,if_neg (by decide)] at bj;simpa using bj
     .rw [UE (fun y=>pS n ds d.name y) (tD ds d.name),<- qq];have mT:(qw n ds s d.name).length <= 12:=by rw [qq,aW];exact cL (vk ..) k6
      refine ⟨pl,rfl,_,(ba c9) _ _ hG,_,aQ,?_,⟨_,rfl⟩,(bq.trans (ba c9)).gz nj,(dc.upd).upd,by rw [aM aj6];exact (ba c9) _ _ SG,?_,?_⟩
      .rw [aW,aW,cZ,cZ,cZ,aW,aW];exact cL (show _ <= 500 by show 1 + f.length + s.length + _ + _ <= 500;omega) (by decide)
      .rw [aQ,re mG,yM,<- ed];simp
      .rw [re mG,yM,cZ,xa,amS,xy];omega
    .have aa:d.name ∈ s:=by simpa using aa
     have qq:qw n ds s d.name=[]:=by unfold qw;rw [if_pos aa]
     simp only [gQ];refine ⟨⟨_,rfl⟩,bq,dc,SG,?_,?_⟩
     .rw [re mG,yM,xa,qq];simpa using hG
     .rw [re mG,yM,cZ,xa,qq];show _ + 0 <= _;omega
   .rintro σ I a_;ac_rfl
    obtain ⟨⟨dv,rfl⟩,bq,dc,_,hG,_⟩:=a_;subst aT;rw [fK,il] at hG;exact cY _ _ ⟨bq,dc,hG,_,rfl⟩
  rintro jE cJ ⟨s4,dc,hG,dv,rfl⟩;subst aT;nofun;obtain ⟨o',af,ak⟩:=A_ (iV n ds f s) (by unfold iV;simp);exact ⟨_,ay.of hG,o',af,ak,q o' cJ s4 ⟨af,ak⟩⟩
 .obtain ⟨c,n,ds,gf,aE,f,s,rfl,C,aX,bQ,hf,ax,fin,sin,n6,k6,bx,q⟩:=h;exact ⟨bx,c,n,ds,gf,aE,f,s,rfl,C,aX,bQ,hf,ax,fin,sin,n6,k6,bx,fun v I bq aF=>⟨bq,q v aF⟩⟩
noncomputable abbrev qP:List Str:=[ae "crossing",ae "many",ae "leasts",ae "mosts",ae "members",ae "sorts",ae "homes",ae "changes"]
noncomputable def l2 (c:Addr) (k:Nat) (le mo cI cG aS ch:Addr):List (Str × V):=[(ae "crossing",V.ref c),(ae "many",V.int k),(ae "leasts",V.ref le),(ae "mosts",V.ref mo),(ae "members",V.ref cI),(ae "sorts",V.ref cG),(ae "homes",V.ref aS),(ae "changes",V.ref ch)]
theorem rN (c:Addr) (k:Nat) (le mo cI cG aS ch:Addr):(l2 c k le mo cI cG aS ch).map (·.1)=qP:=rfl
noncomputable def c6 (ds:List bc) (r:ST):Str:=((r.mem.head?.bind (hM ds)).map iz).getD (ae "")
noncomputable def stK (i j:Nat):List Key:=[r3 (i:Int),r3 (j:Int)]
def Op (n:Int) (ds:List bc) (rows:List ST) (i j:Nat) (kvs:List (List Key × V)):Prop:=kvs.length <= 6 * i + j/\∀ (a b:Nat) (r s:ST),rows[a]? = some r->rows[b]? = some s->a ≠ b->a < i\/(a=i/\b < j)->∃ v,dn kvs (stK a b)=some (.int v)/\ot (iV n ds r.mem s.mem) v
section
variable (P:Program) (w:World)
def fp (t:bK) (H:aw) (a c:Addr) (n:Int) (ds:List bc) (rows:List ST):Prop:=∃ az le mo cI cG aS ch ms kvs,H a=some (.ins t.fq az (l2 c rows.length le mo cI cG aS ch))/\fU t H c n ds/\H le=some (.lst (rows.map fun r=>V.int r.lo))/\H mo=some (.lst (rows.map fun r=>V.int r.ai))/\Os H cI ms (rows.map (·.mem))/\H cG=some (.lst (aY (rows.map (c6 ds))))/\H aS=some (.bW (gC (rows.map (·.mem))))/\Ty P w H ch kvs/\Op n ds rows rows.length 0 kvs
def MB (t:bK):bM:=fun vs H Q _=>∃ a az c n ds p qs ms rows,vs=[.ref a,.ref c,.ref p]/\H a=some (.ins t.fq az [])/\fU t H c n ds/\0 < n/\yQ ds/\i9 H p qs ms rows/\qQ ds rows/\(∀ r ∈ rows,r.mem ≠ [])/\aJ H /\
 ∀ I,ad a H I->aJ I->fp P w t I a c n ds rows->Q .cn I
end
theorem ag_ (h:stK a b=stK i j):a=i/\b=j:=by
 unfold stK at h;simp at h;omega
theorem Op.nil (n:Int) (ds:List bc) (rows:List ST):Op n ds rows 0 0 []:=⟨fh _,fun a b r s _ _ _ h=>by omega⟩
theorem Op.skip {rows:List ST} (h:Op n ds rows i i kvs):Op n ds rows i (i + 1) kvs:=⟨by have:=h.1;omega,fun a b r s ao ax kJ aB=>h.2 a b r s ao ax kJ (by omega)⟩
theorem Op.next {rows:List ST} (aL:rows.length <= 6) (h:Op n ds rows i rows.length kvs):Op n ds rows (i + 1) 0 kvs:=⟨by have:=h.1;omega,fun a b r s ao ax kJ aB=>h.2 a b r s ao ax kJ (by
 have:=(b6.mp ax).1
 omega)⟩
theorem YO (kvs:List (List Key × V)) (k:List Key) (v:V):(es kvs k v).length <= kvs.length + 1:=by
 unfold es;split
 .rw [aW];omega
 .rw [cZ];exact bP _
theorem Op.put {rows:List ST} (h:Op n ds rows i j kvs) (ao:rows[i]? = some r) (ax:rows[j]? = some s) (aF:ot (iV n ds r.mem s.mem) v):Op n ds rows i (j + 1) (es kvs (stK i j) (.int v)):=by
 refine ⟨by have:=h.1;have:=YO kvs (stK i j) (.int v);omega,fun a b ej aj dY j7 kJ aB=>?_⟩;rw [Ua];by_cases c:stK a b=stK i j
 .rw [if_pos c];obtain ⟨rfl,rfl⟩:=ag_ c;rw [ao] at dY;rw [ax] at j7;cases dY;cases j7;exact ⟨v,rfl,aF⟩
 .rw [if_neg c];exact h.2 a b ej aj dY j7 kJ (by
   rcases aB with z | ⟨f9,eg⟩
   .exact .inl z
   .by_cases z:b=j
    .exact absurd (by rw [f9,z]) c
    .exact .inr ⟨f9,by omega⟩)
theorem i9.t8 {a p C az:Addr} {rows:List ST} (h:i9 H p qs ms rows) (s:ad a H I) (aP:H a=some (.ins C az [])):i9 I p qs ms rows:=by
 refine ⟨s _ _ (cx h.at_ aP (by intro z;cases z)) h.at_,h.cz,h.cK,fun i q m r x y z=>?_⟩;obtain ⟨aq,aH⟩:=h.al i q m r x y z;exact ⟨s _ _ (cx aq aP (by intro z;cases z)) aq,s _ _ (cx aH aP (by intro z;cases z)) aH⟩
theorem FR {H:aw} {p b C D az iw:Addr} {x:Str × V} {a3:List (Str × V)} (ar:H p=some (.ins C az [])) (aa:H b=some (.ins D iw (x :: a3))):b ≠ p:=fun z=>by
 subst z;rw [ar] at aa;cases aa
theorem ak2 {t:bK} {H I:aw} {p a C az:Addr} {d:bc} (ar:H p=some (.ins C az [])) (kl:ad p H I) (h:eW t H a d):eW t I a d:=by
 obtain ⟨af,iw,e⟩:=h;exact ⟨af,iw,kl _ _ (FR ar e) e⟩
theorem K' {t:bK} {H I:aw} {p c C az:Addr} {n:Int} {ds:List bc} (ar:H p=some (.ins C az [])) (kl:ad p H I) (h:fU t H c n ds):fU t I c n ds:=by
 obtain ⟨h0,iw,wl,aI,aq,⟨as,dC,ea,hY⟩,bO⟩:=h;exact ⟨h0,iw,wl,aI,kl _ _ (FR ar aq) aq,⟨as,kl _ _ (cx dC ar (by intro z;cases z)) dC,ea,fun i a d af ak=>ak2 ar kl (hY i a d af ak)⟩,kl _ _ (cx bO ar (by intro z;cases z)) bO⟩
theorem Os.upd {b p:Addr} (h:Os H p ms dA) (aa:H b=some u) (bY:∀ xs,u ≠ .lst xs):Os (upd H b o) p ms dA:=by
 refine ⟨by rw [aM (cx h.at_ aa (fun z=>bY _ z.symm))];exact h.at_,h.ln,fun i m x a c=>?_⟩;have e:=h.al i m x a c;rw [aM (cx e aa (fun z=>bY _ z.symm))];exact e
section
variable {w:World} {K:bk} {mg:Str->Option Value} {t:bK} {H:aw} {a c az le mo cI cG aS ch:Addr} {k:Nat}
theorem px (T:Txt w K mg t) (e:H a=some (.ins t.fq az (l2 c k le mo cI cG aS ch))):fY K H a (ae "many") (.int k):=⟨_,az,_,e,T.kf,T.Go,gK qP 1 (rN ..) (by ac_nf) rfl⟩
theorem Eb (T:Txt w K mg t) (e:H a=some (.ins t.fq az (l2 c k le mo cI cG aS ch))):fY K H a (ae "members") (.ref cI):=⟨_,az,_,e,T.kf,T.E9,gK qP 4 (rN ..) (by ac_nf) rfl⟩
theorem S7 (T:Txt w K mg t) (e:H a=some (.ins t.fq az (l2 c k le mo cI cG aS ch))):fY K H a (ae "changes") (.ref ch):=⟨_,az,_,e,T.kf,T.OL,gK qP 7 (rN ..) (by ac_nf) rfl⟩
end
theorem af1:cm P base T 5 t.xG t.D' Bk (MB P w t):=by
 refine cv (Si T) fun Ef=>cv (Fy T) fun yX=>cv (alv T) fun abx=>?_;exists T.Pg.ok Iy,9
 obtain ⟨a,az,c,n,ds,p,qs,ms,rows,rfl,aP,C,aX,bQ,R,J,cj,bx,q⟩:=h;have bY:=iN ao;have gX:=C.1.1;have jt:(qs.map V.ref).length=rows.length:=by rw [aW,R.cz]
 have pT:(qs.map V.ref).length <= sizeLine:=by rw [jt];exact cL J.ln (by decide)
 refine ⟨_,(db (fe (U 0) (U 1) rfl)
   (db (fe (U 0) (fP hL rfl T.hz hE (ag (U 2) aA)) rfl)
   (db (fe (U 0) (g_ rfl (e5 (U 2)) (fO (sc:=bt ur) rfl (by ac_nf)) (N:=iR) (sel:=[none,none,none]) (fT (M:=yY) (by ac_nf)) (e3.of (fun _ _ _ _=>(kA (K:=K) (n:=3) rfl rfl (eB (b7 (i:=0) (d3 (N:=iR) (by ac_nf) rfl)) (eB (b7 (i:=1) (d3 (N:=iR) (by ac_nf) rfl)) (eB (b7 (i:=2) (d3 (N:=iR) (by ac_nf) rfl)) kC))))) (fun _ _ _ _=>⟨_,hn,by walk_at "B"⟩) (fun _ _ _ _=>⟨_,(U 0),by walk_at "B"⟩))) rfl)
   (db (fe (U 0) (g_ rfl (e5 (U 2)) (fO (sc:=bt ur) rfl (by ac_nf)) (N:=iR) (sel:=[none,none,none]) (fT (M:=yY) (by ac_nf)) (e3.of (fun _ _ _ _=>(kA (K:=K) (n:=3) rfl rfl (eB (b7 (i:=0) (d3 (N:=iR) (by ac_nf) rfl)) (eB (b7 (i:=1) (d3 (N:=iR) (by ac_nf) rfl)) (eB (b7 (i:=2) (d3 (N:=iR) (by ac_nf) rfl)) kC))))) (fun _ _ _ _=>⟨_,hn,by walk_at "B"⟩) (fun _ _ _ _=>⟨_,(U 1),by walk_at "B"⟩))) rfl)
   (db (fe (U 0) (g_ rfl (e5 (U 2)) (fO (sc:=bt ur) rfl (by ac_nf)) (N:=iR) (sel:=[none,none,none]) (fT (M:=yY) (by ac_nf)) (e3.of (fun _ _ _ _=>(kA (K:=K) (n:=3) rfl rfl (eB (b7 (i:=0) (d3 (N:=iR) (by ac_nf) rfl)) (eB (b7 (i:=1) (d3 (N:=iR) (by ac_nf) rfl)) (eB (b7 (i:=2) (d3 (N:=iR) (by ac_nf) rfl)) kC))))) (fun _ _ _ _=>⟨_,hn,by walk_at "B"⟩) (fun _ _ _ _=>⟨_,(U 2),by walk_at "B"⟩))) rfl)
   (db (fe (U 0) (g_ rfl (e5 (U 2)) (fO (sc:=bt ur) rfl (by ac_nf)) (N:=Ay) (sel:=[none,none,none,some 1]) (fT (M:=yY) (by ac_nf)) (e3.of (fun _ _ _ _=>(kA (K:=K) (n:=3) rfl rfl (eB (b7 (i:=0) (d3 (N:=Ay) (by ac_nf) rfl)) (eB (b7 (i:=1) (d3 (N:=Ay) (by ac_nf) rfl)) (eB (b7 (i:=2) (d3 (N:=Ay) (by ac_nf) rfl)) kC))))) (fun _ _ _ _=>⟨_,hn,by walk_at "B"⟩) (fun _ _ _ _=>⟨_,(bU Ef ao T.I6 T.wb.bl T.wv (ag (U 3) (ag (bZ c8 (U 2) aO) aA))),by walk_at "B"⟩))) rfl)
   (db (fe (U 0) (bU yX ao T.Ji T.xA.bl T.Mf (ag (bw (U 0) rfl) aA)) rfl)
   (db (fe (U 0) ai1 rfl)
   (a0 (fw fF rfl (kN rfl T.j' (ag (bw (U 0) rfl) aA)) (b7 (i:=3) Iy.aI) (a0 (fw fF rfl (kN rfl T.j' (ag (bw (U 0) rfl) aA)) (b7 (i:=4) Iy.aI) (a0 (dU (cX pM (U 3) (U 4) (cA _)) (a0 (XF bY (bw (U 0) rfl) (p1 (ag (U 3) (ag (U 4) aA))) (bU abx ao T.al0 T.IA.bl T.Yy (ag (U 1) (ag (bZ c8 (bw (U 0) rfl) (U 3)) (ag (bZ c8 (bw (U 0) rfl) (U 4)) aA)))) rfl)) eh)))))))))))))),?_⟩
 exists (fun au I=>ad a H I/\aJ I/\I a=some (.ins t.fq az [(ae "crossing",V.ref c)])/\au=[~~~a,~~~c,~~~p,none,none]),5
 .nofun;exact ⟨_,_,_,aP,T.kf,T.P5,by decide,cY _ _ ⟨fun b u aa e=>by rw [aM aa];exact e,bx.upd,aQ,rfl⟩⟩
 rintro fk H1 ⟨b1,cM,a1,rfl⟩;have kG:=R.t8 b1 aP;subst aT;exists (fun au I=>ad a H I/\aJ I/\I a=some (.ins t.fq az [(ae "crossing",V.ref c),(ae "many",V.int (rows.length:Int))])/\au=[~~~a,~~~c,~~~p,none,none]),5
 .nofun;refine ⟨_,.inl (ay.of kG.at_),_,_,_,a1,T.kf,T.Go,(show (1:Nat) < 1000 by decide),?_⟩;rw [jt,show de (ae "many") (V.int (rows.length:Int)) [(ae "crossing",V.ref c)]=[(ae "crossing",V.ref c),(ae "many",V.int (rows.length:Int))] from gq [ae "crossing"] rfl (by ac_nf)];exact cY _ _ ⟨fun b u aa e=>by rw [aM aa];exact b1 _ _ aa e,cM.upd,aQ,rfl⟩
 rintro cw av ⟨gc,cU,a2,rfl⟩;have e':=R.t8 gc aP;subst aT;exists (fun au I=>ad a H I/\aJ I/\∃ le,I a=some (.ins t.fq az [(ae "crossing",V.ref c),(ae "many",V.int (rows.length:Int)),(ae "leasts",V.ref le)])/\I le=some (.lst (rows.map fun r=>V.int r.lo))/\au=[~~~a,~~~c,~~~p,none,none]),5
 .nofun;refine ⟨⟨_,ay.of e'.at_⟩,?_⟩;refine c1.ml (xs:=qs.map V.ref) (zs:=rows.map fun r=>V.int r.lo) (ay.of e'.at_) pT (by rw [jt,aW]) (fun j v z N aF aN bj=>?_) (fun pl c9=>?_)
  .obtain ⟨kD,eP,rfl⟩:=b8 aF;have aG:j < rows.length:=by rw [<- R.cz];exact (b6.mp eP).1
   have kY:ms[j]? = some (ms[j]'(by rw [R.cK];exact aG)):=a' _;have gH:rows[j]? = some rows[j]:=a' aG;obtain ⟨e,em⟩:=e'.al j kD _ _ eP kY gH;obtain ⟨r,dY,rfl⟩:=b8 aN;rw [gH] at dY;cases dY;nofun;exact ⟨_,dR.of e,rfl,_,_,rfl,_,_,rfl,_,_,rfl,rfl,Sub.vX,bj⟩
  .have qm:pl ≠ a:=fun z=>by rw [z,a2] at c9;cases c9
   refine ⟨_,_,_,(ba c9) _ _ a2,T.kf,T.Sw,(show (2:Nat) < 1000 by decide),?_⟩;rw [show de (ae "leasts") (V.ref pl) [(ae "crossing",V.ref c),(ae "many",V.int (rows.length:Int))]=[(ae "crossing",V.ref c),(ae "many",V.int (rows.length:Int)),(ae "leasts",V.ref pl)] from gq [ae "crossing",ae "many"] rfl (by ac_nf)];exact cY _ _ ⟨fun b u aa e=>by rw [aM aa];exact (ba c9) _ _ (gc _ _ aa e),(cU.upd).upd,pl,aQ,by rw [aM qm];exact aQ,rfl⟩
 rintro fI br ⟨g8,di,le,ef,ez,rfl⟩;have hle:le ≠ a:=cx ez ef (by intro z;cases z);have nE:=R.t8 g8 aP;subst aT;exists (fun au I=>ad a H I/\aJ I/\∃ mo,I a=some (.ins t.fq az [(ae "crossing",V.ref c),(ae "many",V.int (rows.length:Int)),(ae "leasts",V.ref le),(ae "mosts",V.ref mo)])/\I le=some (.lst (rows.map fun r=>V.int r.lo))/\I mo=some (.lst (rows.map fun r=>V.int r.ai))/\au=[~~~a,~~~c,~~~p,none,none]),5
 .nofun;refine ⟨⟨_,ay.of nE.at_⟩,?_⟩;refine c1.ml (xs:=qs.map V.ref) (zs:=rows.map fun r=>V.int r.ai) (ay.of nE.at_) pT (by rw [jt,aW]) (fun j v z N aF aN bj=>?_) (fun pl c9=>?_)
  .obtain ⟨kD,eP,rfl⟩:=b8 aF;have aG:j < rows.length:=by rw [<- R.cz];exact (b6.mp eP).1
   have kY:ms[j]? = some (ms[j]'(by rw [R.cK];exact aG)):=a' _;have gH:rows[j]? = some rows[j]:=a' aG;obtain ⟨e,em⟩:=nE.al j kD _ _ eP kY gH;obtain ⟨r,dY,rfl⟩:=b8 aN;rw [gH] at dY;cases dY;nofun;exact ⟨_,dR.of e,rfl,_,_,rfl,_,_,rfl,_,_,rfl,rfl,Sub.vX,bj⟩
  .have qm:pl ≠ a:=fun z=>by rw [z,ef] at c9;cases c9
   refine ⟨_,_,_,(ba c9) _ _ ef,T.kf,T.Oy,(show (3:Nat) < 1000 by decide),?_⟩;rw [show de (ae "mosts") (V.ref pl) [(ae "crossing",V.ref c),(ae "many",V.int (rows.length:Int)),(ae "leasts",V.ref le)]=[(ae "crossing",V.ref c),(ae "many",V.int (rows.length:Int)),(ae "leasts",V.ref le),(ae "mosts",V.ref pl)] from gq [ae "crossing",ae "many",ae "leasts"] rfl (by ac_nf)];exact cY _ _ ⟨fun b u aa e=>by rw [aM aa];exact (ba c9) _ _ (g8 _ _ aa e),(di.upd).upd,pl,aQ,by rw [aM hle];exact (ba c9) _ _ ez,by rw [aM qm];exact aQ,rfl⟩
 rintro jE cJ ⟨dv,dc,mo,nQ,f4,pX,rfl⟩;have s':mo ≠ a:=cx pX nQ (by intro z;cases z);have mU:=R.t8 dv aP;subst aT;exists (fun au I=>ad a H I/\aJ I/\∃ cI,I a=some (.ins t.fq az [(ae "crossing",V.ref c),(ae "many",V.int (rows.length:Int)),(ae "leasts",V.ref le),(ae "mosts",V.ref mo),(ae "members",V.ref cI)])/\I le=some (.lst (rows.map fun r=>V.int r.lo))/\I mo=some (.lst (rows.map fun r=>V.int r.ai))/\I cI=some (.lst (ms.map V.ref))/\au=[~~~a,~~~c,~~~p,none,none]),5
 .nofun;refine ⟨⟨_,ay.of mU.at_⟩,?_⟩;refine c1.ml (xs:=qs.map V.ref) (zs:=ms.map V.ref) (ay.of mU.at_) pT (by rw [jt,aW,R.cK]) (fun j v z N aF aN bj=>?_) (fun pl c9=>?_)
  .obtain ⟨kD,eP,rfl⟩:=b8 aF;have aG:j < rows.length:=by rw [<- R.cz];exact (b6.mp eP).1
   have kY:ms[j]? = some (ms[j]'(by rw [R.cK];exact aG)):=a' _;have gH:rows[j]? = some rows[j]:=a' aG;obtain ⟨e,em⟩:=mU.al j kD _ _ eP kY gH;obtain ⟨dP,mN,rfl⟩:=b8 aN;rw [kY] at mN;cases mN;nofun;exact ⟨_,dR.of e,rfl,_,_,rfl,_,_,rfl,_,_,rfl,rfl,Sub.vX,bj⟩
  .have qm:pl ≠ a:=fun z=>by rw [z,nQ] at c9;cases c9
   refine ⟨_,_,_,(ba c9) _ _ nQ,T.kf,T.E9,(show (4:Nat) < 1000 by decide),?_⟩;rw [show de (ae "members") (V.ref pl) [(ae "crossing",V.ref c),(ae "many",V.int (rows.length:Int)),(ae "leasts",V.ref le),(ae "mosts",V.ref mo)]=[(ae "crossing",V.ref c),(ae "many",V.int (rows.length:Int)),(ae "leasts",V.ref le),(ae "mosts",V.ref mo),(ae "members",V.ref pl)] from gq [ae "crossing",ae "many",ae "leasts",ae "mosts"] rfl (by ac_nf)];exact cY _ _ ⟨fun b u aa e=>by rw [aM aa];exact (ba c9) _ _ (dv _ _ aa e),(dc.upd).upd,pl,aQ,by rw [aM hle];exact (ba c9) _ _ f4,by rw [aM s'];exact (ba c9) _ _ pX,by rw [aM qm];exact aQ,rfl⟩
 rintro qY ck ⟨d1,ei,cI,xc,e0,S1,dy,rfl⟩;have rD:cI ≠ a:=cx dy xc (by intro z;cases z);have G0:=K' aP d1 C;have rm:=R.t8 d1 aP;subst aT;exists (fun au I=>ad a H I/\aJ I/\∃ cG,I a=some (.ins t.fq az [(ae "crossing",V.ref c),(ae "many",V.int (rows.length:Int)),(ae "leasts",V.ref le),(ae "mosts",V.ref mo),(ae "members",V.ref cI),(ae "sorts",V.ref cG)])/\I le=some (.lst (rows.map fun r=>V.int r.lo))/\I mo=some (.lst (rows.map fun r=>V.int r.ai))/\I cI=some (.lst (ms.map V.ref))/\I cG=some (.lst (aY (rows.map (c6 ds))))/\au=[~~~a,~~~c,~~~p,none,none]),5
 .nofun;refine ⟨⟨_,ay.of rm.at_⟩,?_⟩;refine c1.ml (xs:=qs.map V.ref) (zs:=aY (rows.map (c6 ds))) (ay.of rm.at_) pT (by rw [jt,fK,aW]) (fun j v z N aF aN bj=>?_) (fun pl c9=>?_)
  .obtain ⟨kD,eP,rfl⟩:=b8 aF;have aG:j < rows.length:=by rw [<- R.cz];exact (b6.mp eP).1
   have kY:ms[j]? = some (ms[j]'(by rw [R.cK];exact aG)):=a' _;have gH:rows[j]? = some rows[j]:=a' aG;obtain ⟨e,em⟩:=rm.al j kD _ _ eP kY gH;unfold aY at aN;obtain ⟨y,a6,rfl⟩:=b8 aN;obtain ⟨r,dY,rfl⟩:=b8 a6;rw [gH] at dY;cases dY;obtain ⟨nm,ao_,lX⟩:=sj (cj _ (b9 gH));obtain ⟨d,hd,QW⟩:=J.wY _ (b9 gH) nm (by rw [lX];exact m3 ..);obtain ⟨i,ai⟩:=hU hd;have aiF:c6 ds rows[j]=iz d:=by
    unfold c6;rw [lX];show ((hM ds nm).map iz).getD _=_;rw [<- QW,mu gX ai];rfl
   rw [aiF] at bj;rw [lX] at em;nofun;exact ⟨_,dR.of e,rfl,_,_,rfl,_,_,rfl,_,_,rfl,rfl,Sub.vX,_,rfl,_,ay.of em,_,cp (j:=0) rfl,c,n,ds,i,d,by rw [QW],G0,ai,(bQ d hd).2.1,bj⟩
  .have qm:pl ≠ a:=fun z=>by rw [z,xc] at c9;cases c9
   refine ⟨_,_,_,(ba c9) _ _ xc,T.kf,T.Om,(show (5:Nat) < 1000 by decide),?_⟩;rw [show de (ae "sorts") (V.ref pl) [(ae "crossing",V.ref c),(ae "many",V.int (rows.length:Int)),(ae "leasts",V.ref le),(ae "mosts",V.ref mo),(ae "members",V.ref cI)]=[(ae "crossing",V.ref c),(ae "many",V.int (rows.length:Int)),(ae "leasts",V.ref le),(ae "mosts",V.ref mo),(ae "members",V.ref cI),(ae "sorts",V.ref pl)] from gq [ae "crossing",ae "many",ae "leasts",ae "mosts",ae "members"] rfl (by ac_nf)];exact cY _ _ ⟨fun b u aa e=>by rw [aM aa];exact (ba c9) _ _ (d1 _ _ aa e),(ei.upd).upd,pl,aQ,by rw [aM hle];exact (ba c9) _ _ e0,by rw [aM s'];exact (ba c9) _ _ S1,by rw [aM rD];exact (ba c9) _ _ dy,by rw [aM qm];exact aQ,rfl⟩
 rintro mQ gg ⟨cC,lT,cG,rG,oE,Mt,ia,w0,rfl⟩;have rR:cG ≠ a:=cx w0 rG (by intro z;cases z);have B0:=R.t8 cC aP;have VD:Os gg cI ms (rows.map (·.mem)):=⟨ia,by rw [R.cK,aW],fun i m x hm ah=>by
  obtain ⟨r,dY,rfl⟩:=b8 ah;have hk:qs[i]? = some (qs[i]'(by rw [R.cz];exact (b6.mp dY).1)):=a' _;exact (B0.al i _ m r hk hm dY).2⟩
 subst aT;exists (fun au I=>ad a H I/\aJ I/\∃ aS,I a=some (.ins t.fq az [(ae "crossing",V.ref c),(ae "many",V.int (rows.length:Int)),(ae "leasts",V.ref le),(ae "mosts",V.ref mo),(ae "members",V.ref cI),(ae "sorts",V.ref cG),(ae "homes",V.ref aS)])/\I le=some (.lst (rows.map fun r=>V.int r.lo))/\I mo=some (.lst (rows.map fun r=>V.int r.ai))/\Os I cI ms (rows.map (·.mem))/\I cG=some (.lst (aY (rows.map (c6 ds))))/\I aS=some (.bW (gC (rows.map (·.mem))))/\au=[~~~a,~~~c,~~~p,none,none]),5
 .nofun;refine ⟨_,⟨_,az,_,rG,T.kf,T.E9,gK [ae "crossing",ae "many",ae "leasts",ae "mosts",ae "members",ae "sorts"] 4 rfl (by ac_nf) rfl⟩,cI,ms,rows.map (·.mem),rfl,VD,by rw [aW];exact J.ln,fun x ah=>?_,fun h H1 s1 YQ b2 af=>?_⟩
  .obtain ⟨r,dY,rfl⟩:=cc.mp ah;exact J.gs r dY
  .have Ge:h ≠ a:=cx af (s1 _ _ rG) (by intro z;cases z);refine ⟨_,_,_,s1 _ _ rG,T.kf,T.R3,(show (6:Nat) < 1000 by decide),?_⟩;rw [show de (ae "homes") (V.ref h) [(ae "crossing",V.ref c),(ae "many",V.int (rows.length:Int)),(ae "leasts",V.ref le),(ae "mosts",V.ref mo),(ae "members",V.ref cI),(ae "sorts",V.ref cG)]=[(ae "crossing",V.ref c),(ae "many",V.int (rows.length:Int)),(ae "leasts",V.ref le),(ae "mosts",V.ref mo),(ae "members",V.ref cI),(ae "sorts",V.ref cG),(ae "homes",V.ref h)] from gq [ae "crossing",ae "many",ae "leasts",ae "mosts",ae "members",ae "sorts"] rfl (by ac_nf)];exact cY _ _ ⟨fun b u aa e=>by rw [aM aa];exact s1 _ _ (cC _ _ aa e),(YQ lT).upd,h,aQ,by rw [aM hle];exact s1 _ _ oE,by rw [aM s'];exact s1 _ _ Mt,(VD.same s1).upd (s1 _ _ rG) (by intro xs z;cases z),by rw [aM rR];exact s1 _ _ w0,by rw [aM Ge];exact af,rfl⟩
 rintro kO fa ⟨c0,hK,aS,qW,ma,rQ,uJ,Np,L',rfl⟩;subst aT;exists (fun au I=>ad a H I/\aJ I/\∃ ch,H ch=none/\I a=some (.ins t.fq az (l2 c rows.length le mo cI cG aS ch))/\I le=some (.lst (rows.map fun r=>V.int r.lo))/\I mo=some (.lst (rows.map fun r=>V.int r.ai))/\Os I cI ms (rows.map (·.mem))/\I cG=some (.lst (aY (rows.map (c6 ds))))/\I aS=some (.bW (gC (rows.map (·.mem))))/\Ty P w I ch []/\(ch ≠ a/\ch ≠ le/\ch ≠ mo/\ch ≠ cI/\ch ≠ cG/\ch ≠ aS/\ch ∉ ms)/\au=[~~~a,~~~c,~~~p,none,none]),5
 .nofun;intro ch o gT acO;have yF:ch ≠ a:=fun z=>by rw [z,qW] at gT;cases gT
  have ahA:H ch=none:=by
   cases e:H ch with
   | none=>rfl
   | some u=>rw [c0 _ _ yF e] at gT;cases gT
  have u5:∀ {b:Addr} {u:fX},fa b=some u->ch ≠ b:=fun e z=>by rw [<- z,gT] at e;cases e
  have afR:ch ∉ ms:=fun z=>by
   obtain ⟨i,ai⟩:=hU z;have i6:i < (rows.map (·.mem)).length:=by rw [<- uJ.ln];exact (b6.mp ai).1
   exact u5 (uJ.al i ch _ ai (a' i6)) rfl
  have ky:aK fa (upd fa ch (.ext (oT ch o))):=ba gT;refine ⟨_,_,_,ky _ _ qW,T.kf,T.OL,(show (7:Nat) < 1000 by decide),?_⟩;rw [show de (ae "changes") (V.ref ch) [(ae "crossing",V.ref c),(ae "many",V.int (rows.length:Int)),(ae "leasts",V.ref le),(ae "mosts",V.ref mo),(ae "members",V.ref cI),(ae "sorts",V.ref cG),(ae "homes",V.ref aS)]=l2 c rows.length le mo cI cG aS ch from gq [ae "crossing",ae "many",ae "leasts",ae "mosts",ae "members",ae "sorts",ae "homes"] rfl (by ac_nf)];have Ge:aS ≠ a:=cx L' qW (by intro z;cases z);exact cY _ _ ⟨fun b u aa e=>by rw [aM aa];exact ky _ _ (c0 _ _ aa e),(hK.upd).upd,ch,ahA,aQ,by rw [aM hle];exact ky _ _ ma,by rw [aM s'];exact ky _ _ rQ,(uJ.same ky).upd (ky _ _ qW) (by intro xs z;cases z),by rw [aM rR];exact ky _ _ Np,by rw [aM Ge];exact ky _ _ L',aaD acO (eb yF) (fun xs z=>by rw [ky _ _ qW] at z;cases z),⟨yF,u5 ma,u5 rQ,u5 uJ.at_,u5 Np,u5 L',afR⟩,rfl⟩
 rintro sM iC ⟨dI,nP,ch,gT,rV,f8,rv,akt,afn,Jq,XA,uF,rfl⟩;subst aT;nofun;have hh:=J.ln;refine ⟨_,px T rV,_,rfl,by omega,by omega,?_⟩;rw [lI];refine dZ.range (fun i σ I=>(∃ x y,σ=[~~~a,~~~c,~~~p,x,y])/\ad a H I/\aJ I/\I a=some (.ins t.fq az (l2 c rows.length le mo cI cG aS ch))/\I le=some (.lst (rows.map fun r=>V.int r.lo))/\I mo=some (.lst (rows.map fun r=>V.int r.ai))/\Os I cI ms (rows.map (·.mem))/\I cG=some (.lst (aY (rows.map (c6 ds))))/\I aS=some (.bW (gC (rows.map (·.mem))))/\∃ kvs,Ty P w I ch kvs/\Op n ds rows i 0 kvs) ⟨⟨_,_,rfl⟩,dI,nP,rV,f8,rv,akt,afn,Jq,[],XA,Op.nil n ds rows⟩ ?_ ?_
 .rintro i σ I ai a_;ac_rfl
  obtain ⟨⟨x,y,rfl⟩,oG,x8,Cj,Hm,H',wx,Iz,F1,kvs,GB,Hl⟩:=a_;have h6:rows[i]? = some rows[i]:=a' ai;have rF:ms[i]? = some (ms[i]'(by rw [R.cK];exact ai)):=a' _;subst aT;nofun;refine ⟨_,px T Cj,_,rfl,by omega,by omega,?_⟩;rw [lI];refine dZ.range (fun j σ av=>(∃ y,σ=[~~~a,~~~c,~~~p,some (.int (i:Int)),y])/\ad a H av/\aJ av/\av a=some (.ins t.fq az (l2 c rows.length le mo cI cG aS ch))/\av le=some (.lst (rows.map fun r=>V.int r.lo))/\av mo=some (.lst (rows.map fun r=>V.int r.ai))/\Os av cI ms (rows.map (·.mem))/\av cG=some (.lst (aY (rows.map (c6 ds))))/\av aS=some (.bW (gC (rows.map (·.mem))))/\∃ kvs,Ty P w av ch kvs/\Op n ds rows i j kvs) ⟨⟨_,rfl⟩,oG,x8,Cj,Hm,H',wx,Iz,F1,kvs,GB,Hl⟩ ?_ ?_
  .rintro j σ av aG a_;ac_rfl
   obtain ⟨⟨y,rfl⟩,iT,w7,sP,v8,CI,pF,DG,Cs,kvs,Bw,x2⟩:=a_;have gH:rows[j]? = some rows[j]:=a' aG;have kY:ms[j]? = some (ms[j]'(by rw [R.cK];exact aG)):=a' _;have Yk:=pF.al i _ _ rF (by rw [df,h6];rfl);have acB:=pF.al j _ _ kY (by rw [df,gH];rfl);have sW:=cp (xs:=ms.map V.ref) (j:=i) (by rw [df,rF];rfl);have LN:=cp (xs:=ms.map V.ref) (j:=j) (by rw [df,kY];rfl);subst aT;simp only [gL,jJ,jM,p8];by_cases kS:i=j
   .refine dh false (fun Q aV=>?_) (fun z=>nomatch z) (fun _=>?_)
    .nofun;rw [decide_eq_true (by omega)];exact aV
    .simp only [gQ];subst kS;exact ⟨⟨_,rfl⟩,iT,w7,sP,v8,CI,pF,DG,Cs,kvs,Bw,x2.skip⟩
   .refine dh true (fun Q aV=>?_) (fun _=>?_) (fun z=>nomatch z)
    .nofun;rw [decide_eq_false (by omega)];exact aV
    .nofun;obtain ⟨yF,ajF,adY,Z1,aji,aha,aa_⟩:=uF;refine ⟨_,Eb T sP,_,rfl,_,ay.of pF.at_,_,sW,_,Eb T sP,_,rfl,_,ay.of pF.at_,_,LN,c,n,ds,_,_,_,_,rfl,K' aP iT C,aX,bQ,Yk,acB,J.wY _ (b9 h6),J.wY _ (b9 gH),J.gs _ (b9 h6),J.gs _ (b9 gH),w7,fun v aF=>?_⟩;refine ⟨_,S7 T sP,by decide,fun j0 pL=>⟨ch,rfl,kvs,Iu Bw (ba pL),stK i j,(show upd av j0 (.tup [V.int (i:Int),V.int (j:Int)]) j0=some (fX.tup [V.int (i:Int),V.int (j:Int)]) from aQ),gD (show kvs.length <= 100 by have:=x2.1;omega) (by decide),fun o Hq=>?_⟩⟩;have mV:aK av (upd av j0 (.tup [V.int (i:Int),V.int (j:Int)])):=ba pL;refine ⟨⟨_,rfl⟩,fun b u aa e=>by rw [aM (dm e gT)];exact mV _ _ (iT _ _ aa e),(w7.upd).upd,by rw [aM (eb yF)];exact mV _ _ sP,by rw [aM (eb ajF)];exact mV _ _ v8,by rw [aM (eb adY)];exact mV _ _ CI,⟨by rw [aM (eb Z1)];exact mV _ _ pF.at_,pF.ln,fun k m x hm ah=>by rw [aM (fun z=>aa_ (by rw [<- z];exact b9 hm))];exact mV _ _ (pF.al k m x hm ah)⟩,by rw [aM (eb aji)];exact mV _ _ DG,by rw [aM (eb aha)];exact mV _ _ Cs,_,Hq,x2.put h6 gH aF⟩
  .rintro σ av a_;ac_rfl
   obtain ⟨⟨y,rfl⟩,iT,w7,sP,v8,CI,pF,DG,Cs,kvs,Bw,x2⟩:=a_;subst aT;exact ⟨⟨_,_,rfl⟩,iT,w7,sP,v8,CI,pF,DG,Cs,kvs,Bw,x2.next hh⟩
 .rintro σ I a_;ac_rfl
  obtain ⟨⟨x,y,rfl⟩,oG,x8,Cj,Hm,H',wx,Iz,F1,kvs,GB,Hl⟩:=a_;subst aT;exact q _ oG x8 ⟨az,le,mo,cI,cG,aS,ch,ms,kvs,Cj,K' aP oG C,Hm,H',wx,Iz,F1,GB,Hl⟩
noncomputable def sr (ds:List bc):List (List Str)->Nat->List ST->Except (Nat × Nat) (List ST)
 | [],_,rows=>.ok rows
 | ws :: r,i,rows=>if rows.length=6 then .error (i,0) else match qV ds rows ws with
  | .error k=>.error (i,k)
  | .ok s=>sr ds r (i + 1) (rows ++ [s])
def acj (P:Program) (w:World) (t:bK):bM:=fun vs H Q _=>∃ c n ds x rows,vs=[.ref c,.str x]/\fU t H c n ds/\0 < n/\yQ ds/\(∀ d ∈ ds,d.name ≠ ae "")/\x.length <= 20000/\(hs x).length <= 100/\(∀ r ∈ hs x,r ≠ []/\r.length <= 1000/\∀ y ∈ r,y.length <= 1000)/\aJ H /\
 sr ds (hs x) 0 []=.ok rows/\hj ds rows=[]/\vM ds rows=none/\u_ n ds rows=none/\∀ a I,aK H I->aJ I->fp P w t I a c n ds rows->Q (.ref a) I
theorem YX {left ws ms:List Str} (h:mL ds left ws=.ok ms):ms ≠ []/\ms.Nodup/\∀ x ∈ ms,x ∈ left:=by
 unfold mL at h;split at h
 .rename_i gx;obtain ⟨af,⟨more,ak⟩,a5⟩:=TQ h (by simp);refine ⟨by rw [ak];simp,af,fun x ah=>?_⟩;rcases a5 x ah with z | z
  .rw [eY.mp z];exact gx
  .exact (jc.mp z).1
 .cases h
theorem TK {rows:List ST} (h:qV ds rows ws=.ok s):s.mem ≠ []/\s.mem.Nodup/\∀ x ∈ s.mem,x ∈ hj ds rows:=by
 unfold qV at h;split at h
 .cases aq:lb (aD ws 1) 1 60 with
  | none=>rw [aq] at h;cases h
  | some lo=>
   rw [aq] at h;replace h:((lb (aD ws 2) lo 60).elim (.error 2) fun ai=>match mL ds (hj ds rows) ws with | .error k=>.error k | .ok ms=>.ok (⟨lo,ai,ms⟩:ST))=rW s:=h;cases aH:lb (aD ws 2) lo 60 with
   | none=>rw [aH] at h;cases h
   | some ai=>
    rw [aH] at h;replace h:(match mL ds (hj ds rows) ws with | .error k=>.error k | .ok ms=>.ok (⟨lo,ai,ms⟩:ST))=rW s:=h;cases bO:mL ds (hj ds rows) ws with
    | error k=>rw [bO] at h;cases h
    | ok ms=>
     rw [bO] at h;replace h:rW (⟨lo,ai,ms⟩:ST)=rW (ε:=Nat) s:=h;cases h;exact YX bO
 .cases h
theorem qQ.snoc {rows:List ST} (J:qQ ds rows) (aL:ds.length <= 12) (ia:rows.length ≠ 6) (h:qV ds rows ws=.ok s):qQ ds (rows ++ [s])/\s.mem.length <= 12:=by
 obtain ⟨af,ak,a5⟩:=TK h;have ui:s.mem.length <= 12:=by
  have:=Ut ak a5;have bN:(hj ds rows).length <= ds.length:=by
   unfold hj;exact cL (vk ..) (by rw [aW];exact bP _)
  omega
 refine ⟨⟨?_,fun r ao=>?_,fun r ao x ah=>?_⟩,ui⟩
 .have:=J.ln;rw [cZ];show rows.length + 1 <= 6;omega
 .rcases eR.mp ao with z | z
  .exact J.gs r z
  .rw [eY.mp z];exact ui
 .rcases eR.mp ao with z | z
  .exact J.wY r z x ah
  .rw [eY.mp z] at ah;obtain ⟨d,hd,e⟩:=cc.mp (jc.mp (a5 x ah)).1;exact ⟨d,hd,e⟩
theorem VV {xs:List Str} {qs:List Addr} (h:xs ≠ []):aY xs ≠ qs.map V.ref:=fun e=>by
 obtain ⟨y,r,rfl⟩:=sj h;cases qs with
 | nil=>cases e
 | cons a b=>injection e with aq _;cases aq
theorem i9.snoc {p x m:Addr} {rows:List ST} (R:i9 H p qs ms rows) (ah:H x=some (G_ s m)) (hm:H m=some (.lst (aY s.mem))) (cj:∀ r ∈ rows,r.mem ≠ []) (ax:s.mem ≠ []):i9 (upd H p (.lst (qs.map V.ref ++ [V.ref x]))) p (qs ++ [x]) (ms ++ [m]) (rows ++ [s]):=by
 have kt:∀ {b:Addr} {xs:List V},H b=some (.tup xs)->upd H p (.lst (qs.map V.ref ++ [V.ref x])) b=some (.tup xs):=fun e=>by rw [aM (cx e R.at_ (by intro z;cases z))];exact e
 have SW:∀ {b:Addr} {xs:List Str},H b=some (.lst (aY xs))->xs ≠ []->upd H p (.lst (qs.map V.ref ++ [V.ref x])) b=some (.lst (aY xs)):=fun e h=>by
  rw [aM (cx e R.at_ (fun z=>by injection z with z;exact VV h z))];exact e
 refine ⟨by rw [aQ,ed];rfl,by rw [cZ,cZ,R.cz];rfl,by rw [cZ,cZ,R.cK];rfl,fun i q dP r a b c=>?_⟩;have cz:=R.cz;have cK:=R.cK;rcases mF c with ⟨bh,b4⟩ | ⟨bh,rfl⟩
 .rcases mF a with ⟨_,a2⟩ | ⟨a1,_⟩
  .rcases mF b with ⟨_,fA⟩ | ⟨fx,_⟩
   .obtain ⟨aq,aH⟩:=R.al i q dP r a2 fA b4;exact ⟨kt aq,SW aH (cj r (b9 b4))⟩
   .omega
  .omega
 .rcases mF a with ⟨a1,_⟩ | ⟨_,rfl⟩
  .omega
  .rcases mF b with ⟨fx,_⟩ | ⟨_,rfl⟩
   .omega
   .exact ⟨kt ah,SW hm ax⟩
theorem aj5:cm P base T 7 t.x3 t.y9 wk (acj P w t):=by
 have GQ:cD P w K mg base dk 6 t.bn t.w1 ["text"] (K_ t):=(MS T).mono (by decide);have afb:cD P w K mg base dk 6 t.AD t.AJ Dt (MK t):=ag0 T;have ack:cD P w K mg base dk 6 t.Al t.Ag k2 (Tq t):=(alV T).mono (by decide);have acr:cD P w K mg base dk 6 t.Ch t.zP k2 (PB t):=(aei T).mono (by decide);have Zc:cD P w K mg base dk 6 t.Aj t.Aw k2 (T7 t):=(ajG T).mono (by decide);have ai8:cD P w K mg base dk 5 t.xG t.D' Bk (MB P w t):=af1 T;exists T.IH.ok Fk,9
 obtain ⟨c,n,ds,x,A7,rfl,C,aX,bQ,cj,gN,hh,oo,bx,XU,hle,dE,dg,k0⟩:=h;have Zz:∀ d ∈ ds,d.k < 3/\d.name ≠ ae "" := fun d hd=>⟨(bQ d hd).2.1,cj d hd⟩
 refine ⟨_,(db (bT (i:=2) Fk.aI (ld aA))
   (db (fw fF rfl (e5 (bU GQ ao T.NZ T.AF.bl T.ON (ag (U 1) aA))) (b7 (i:=3) Fk.aI) (db (dU (cX et (fP hL rfl T.hz hE (ag (U 2) aA)) (mz rfl T.WX T.abD) (cA _)) (a0 pC) eh)
   (a0 (dS (eF f6 kr kz j9 (U 2) (ag (bU afb ao T.XO T.HD.bl T.ahF (ag (U 3) (ag (U 0) (ag (U 2) aA)))) aA))))))
   (db (dS (bU ack ao T.Xy T.Ht.bl T.ajD (ag (U 0) (ag (U 2) aA))))
   (db (dS (bU acr ao T.afG T.Lm.bl T.ahU (ag (U 0) (ag (U 2) aA))))
   (db (dS (bU Zc ao T.abc T.Kx.bl T.Zg (ag (U 0) (ag (U 2) aA))))
   (a0 (b' (tg T.Xc ai8 ao rfl T.Y5 T.ah5 .nil c2 (ag (U 0) (ag (U 2) aA)))))))))),?_⟩
 exists (fun au I=>aK H I/\aJ I/\∃ dN,H dN=none/\I dN=some (.lst [])/\au=[~~~c,some (.str x),~~~dN,none]),5
 .nofun;exact ⟨fh _,fun dN hh=>cY _ _ ⟨ba hh,bx.upd,dN,hh,aQ,rfl⟩⟩
 rintro fk H1 ⟨s1,cM,dN,zD,dC,rfl⟩;subst aT;simp only [dG];refine s9 (fun au I=>aK H I/\aJ I/\(∃ qs ms rows,i9 I dN qs ms rows/\qQ ds rows/\(∀ r ∈ rows,r.mem ≠ [])/\rows=A7)/\∃ g8,au=[~~~c,some (.str x),~~~dN,g8]) (fun f3 cY nh _ _=>?_) ?_
 .nofun;refine ⟨x,rfl,gN,fun r ao=>(oo r ao).2,cM,fun p av wm rn RR=>?_⟩;obtain ⟨jo,ar,hX,pT,BD⟩:=RR;refine ⟨p,rfl,⟨_,ay.of ar⟩,?_⟩;have alq:p ≠ dN:=fun z=>by rw [z,dC] at hX;cases hX
  refine dZ.list (xs:=jo.map V.ref) (fun i σ I=>(∃ y,σ=[~~~c,some (.str x),~~~dN,y])/\aJ I/\aK H I/\I p=some (.lst (jo.map V.ref)) /\
   (∃ qs ms rows,i9 I dN qs ms rows/\qQ ds rows/\(∀ r ∈ rows,r.mem ≠ [])/\sr ds ((hs x).drop i) i rows=.ok A7) /\
   ∀ (j:Nat) (q:Addr) (r:List Str),i <= j->jo[j]? = some q->(hs x)[j]? = some r->dj t I q ((j:Nat):Int) r 0/\H q=none) ?_ ?_ ?_ ?_
  .refine ⟨⟨_,rfl⟩,rn,s1.trans wm,ar,⟨[],[],[],⟨wm _ _ dC,rfl,rfl,fun i q m r h=>by simp at h⟩,⟨fh _,fun r h=>by simp at h,fun r h=>by simp at h⟩,fun r h=>by simp at h,XU⟩,fun j q r _ af ak=>?_⟩;obtain ⟨o_,eP⟩:=BD j q r af ak;exact ⟨o_,s1.free eP⟩
  .rintro i σ I ai a_;ac_rfl
   obtain ⟨_,_,_,h,_⟩:=a_;subst aT;exact ay.of h
  .rintro i v σ I aF a_;ac_rfl
   obtain ⟨⟨y,rfl⟩,oB,qE,qo,⟨qs,ms,rows,tK,jy,rD,ep⟩,Rs⟩:=a_;obtain ⟨q,aR,rfl⟩:=b8 aF;obtain ⟨ai,_⟩:=b6.mp aR;have mw:i < (hs x).length:=by omega
   have ao:(hs x)[i]? = some (hs x)[i]:=a' mw;obtain ⟨nT,jt⟩:=Rs i q _ (bP _) aR ao;obtain ⟨_,Cn,aoU,hk,AG⟩:=id nT;subst aT;rw [tV mw] at ep;unfold sr at ep;simp only [gL,dG,jJ,jM];refine Kb (fun au br=>br=I/\rows.length ≠ 6/\au=[~~~c,some (.str x),~~~dN,~~~q]) (fun anV Hq=>?_) fun th aT=>?_
   .refine dh (decide (rows.length=6)) (fun Q' aV=>?_) (fun aa=>?_) (fun aa=>?_)
    .nofun;refine ⟨_,.inl (ay.of tK.at_),?_⟩;rw [aW,tK.cz];rw [show decide ((rows.length:Int)=6)=decide (rows.length=6) from decide_eq_decide.mpr (by omega)];exact aV
    .have aa:=of_decide_eq_true aa;rw [if_pos aa] at ep;cases ep
    .simp only [gQ];exact Hq _ _ ⟨rfl,of_decide_eq_false aa,rfl⟩
   rintro fI br ⟨rfl,ia,rfl⟩;subst aT;rw [if_neg ia] at ep;cases pw:qV ds rows (hs x)[i] with
   | error k=>rw [pw] at ep;cases ep
   | ok s=>
    rw [pw] at ep;replace ep:sr ds ((hs x).drop (i + 1)) (i + 1) (rows ++ [s])=.ok A7:=ep;nofun;refine ⟨.inl ⟨_,ay.of tK.at_⟩,q,_,(hs x)[i],c,n,ds,dN,qs,ms,rows,s,rfl,nT,C.same qE,Zz,tK,jy.ln,jy.gs,oB,pw,?_⟩;intro eu m cJ s4 H0 adp IE anC anf;have QV:=(TK pw).1;have mU:=tK.xI s4 nT;have ajJ:aK H cJ:=yZ qE s4 jt;have XC:=jy.snoc C.1.2 ia pw;have CO:=jy.ln;refine ⟨_,mU.at_,gD (show (qs.map V.ref).length <= 6 by rw [aW,mU.cz];exact CO) (by decide),⟨_,rfl⟩,H0.upd,ajJ.gz zD,by rw [aM alq];exact s4 _ _ (cx qo hk (by intro z;cases z)) qo,⟨qs ++ [eu],ms ++ [m],rows ++ [s],mU.snoc adp IE rD QV,XC.1,fun r dY=>?_,ep⟩,fun j dB r aG af ak=>?_⟩
    .rcases eR.mp dY with z | z
     .exact rD r z
     .rw [eY.mp z];exact QV
    .obtain ⟨o_,eP⟩:=Rs j dB r (by omega) af ak;have rm:=o_.y2 s4 (Hp o_ nT (by omega)) nT.ins;refine ⟨?_,eP⟩;obtain ⟨aN,ho,a9,aq,aH⟩:=rm;exact ⟨aN,ho,a9,by rw [aM (cx aq mU.at_ (by intro z;cases z))];exact aq,by rw [aM (cx aH mU.at_ (fun z=>by injection z with z;exact VV (oo r (b9 ak)).1 z))];exact aH⟩
  .rintro σ I a_;ac_rfl
   obtain ⟨⟨y,rfl⟩,oB,qE,qo,⟨qs,ms,rows,tK,jy,rD,ep⟩,Rs⟩:=a_;subst aT;rw [aW,pT,wZ] at ep;replace ep:(rW rows:Except (Nat × Nat) (List ST))=.ok A7:=ep;exact cY _ _ ⟨qE,oB,⟨qs,ms,rows,tK,jy,rD,Except.ok.inj ep⟩,_,rfl⟩
 rintro cw av a_;ac_rfl
 obtain ⟨s2,cU,⟨qs,ms,rows,e',bV,rD,gj⟩,g8,rfl⟩:=a_;subst aT;subst gj;have M7:=C.same s2;nofun;refine ⟨c,n,ds,dN,qs,ms,rows,rfl,M7,e',bV,hle,fun br s3 aem=>?_⟩;have di:=aem cU;have ali:=s2.trans s3;refine ⟨c,n,ds,dN,qs,ms,rows,rfl,M7.same s3,e'.same s3,bV,hle,dE,fun cJ s4 WW=>?_⟩;have dc:=WW di;have N3:=ali.trans s4;refine ⟨c,n,ds,dN,qs,ms,rows,rfl,C.same N3,aX,(e'.same s3).same s4,bV,dc,dg,fun ck s5 Yb a az aP yv ao2=>?_⟩;have ei:=Yb dc;have L4:=N3.trans s5;have sc:aK ck (upd (upd ck az (.own a)) a (.ins t.fq az [])):=((aK.refl ck).gz yv).gz aP;refine ⟨a,az,c,n,ds,dN,qs,ms,rows,rfl,aQ,(C.same L4).same sc,aX,bQ,(((e'.same s3).same s4).same s5).same sc,bV,rD,(ei.upd).upd,fun gg e1 lT c3=>⟨rfl,?_⟩⟩;exact k0 a gg (yZ (L4.trans sc) e1 (L4.free aP)) lT c3
def VY (P:Program) (w:World) (t:bK):bM:=fun vs H Q _=>∃ a c n ds rows,∃ i j:Nat,∃ r s,vs=[.ref a,.int i,.int j]/\fp P w t H a c n ds rows/\rows[i]? = some r/\rows[j]? = some s/\i ≠ j/\aJ H/\∀ v,ot (iV n ds r.mem s.mem) v->Q (.int v) H
def agO (P:Program) (w:World) (t:bK):bM:=fun vs H Q _=>∃ a c n ds rows,∃ i j:Nat,∃ r s,vs=[.ref a,.int i,.int j]/\fp P w t H a c n ds rows/\rows[i]? = some r/\rows[j]? = some s/\i ≠ j/\∀ v I,aK H I->ot (iV n ds r.mem s.mem) v->Q (.int v) I
theorem SB:cm P base T 1 t.Cc t.Cb wK (VY P w t):=by
 refine cD.forget (sp:=agO P w t) ?_ fun vs H Q E h=>?_
 .exists T.tc.ok Xl,9
  obtain ⟨a,c,n,ds,rows,i,j,r,aj,rfl,⟨az,le,mo,cI,cG,aS,ch,ms,kvs,aq,_,_,_,_,_,_,adb,pj⟩,ai,aG,kS,q⟩:=h;have bY:=iN ao;obtain ⟨v,aF,rf⟩:=pj.2 i j r aj ai aG kS (.inl (b6.mp ai).1);refine ⟨_,(a0 (b' (agP bY (bw (U 0) rfl) (p1 (ag (U 1) (ag (U 2) aA))) (fun _ _=>rfl)))),?_⟩;nofun;exact ⟨_,S7 T aq,by decide,fun p ar=>⟨ch,rfl,kvs,Iu adb (ba ar),stK i j,aQ,_,aF,q v _ (ba ar) rf⟩⟩
 .obtain ⟨a,c,n,ds,rows,i,j,r,aj,rfl,c3,ai,aG,kS,bx,q⟩:=h;exact ⟨bx,a,c,n,ds,rows,i,j,r,aj,rfl,c3,ai,aG,kS,fun v I bq aF=>⟨bq,q v aF⟩⟩
noncomputable abbrev Cl:List Str:=[ae "stages",ae "showing",ae "lasted",ae "left",ae "sought",ae "gone",ae "waiting",ae "picked"]
noncomputable def fm (aE:Addr) (bI:V) (cO lf bp c_:Int) (aD a4:Addr):List (Str × V):=[(ae "stages",V.ref aE),(ae "showing",bI),(ae "lasted",V.int cO),(ae "left",V.int lf),(ae "sought",V.int bp),(ae "gone",V.int c_),(ae "waiting",V.ref aD),(ae "picked",V.ref a4)]
theorem i' (aE:Addr) (bI:V) (cO lf bp c_:Int) (aD a4:Addr):(fm aE bI cO lf bp c_ aD a4).map (·.1)=Cl:=rfl
theorem Qp (aE:Addr) (bI:V) (cO lf bp c_:Int) (aD a4:Addr) (v:V):de (ae "showing") v (fm aE bI cO lf bp c_ aD a4)=fm aE v cO lf bp c_ aD a4:=by
 unfold fm;simp only [de];rw [if_neg (by ac_nf)];rfl
theorem Qe (aE:Addr) (bI:V) (cO lf bp c_:Int) (aD a4:Addr) (v:Int):de (ae "lasted") (.int v) (fm aE bI cO lf bp c_ aD a4)=fm aE bI v lf bp c_ aD a4:=by
 unfold fm;simp only [de];rw [if_neg (by ac_nf),if_neg (by ac_nf)];rfl
theorem ajK (aE:Addr) (bI:V) (cO lf bp c_:Int) (aD a4:Addr) (v:Int):de (ae "left") (.int v) (fm aE bI cO lf bp c_ aD a4)=fm aE bI cO v bp c_ aD a4:=by
 unfold fm;simp only [de];rw [if_neg (by ac_nf),if_neg (by ac_nf),if_neg (by ac_nf)];rfl
theorem aeY (aE:Addr) (bI:V) (cO lf bp c_:Int) (aD a4:Addr) (v:Int):de (ae "sought") (.int v) (fm aE bI cO lf bp c_ aD a4)=fm aE bI cO lf v c_ aD a4:=by
 unfold fm;simp only [de];rw [if_neg (by ac_nf),if_neg (by ac_nf),if_neg (by ac_nf),if_neg (by ac_nf)];rfl
theorem Qu (aE:Addr) (bI:V) (cO lf bp c_:Int) (aD a4:Addr) (v:Int):de (ae "gone") (.int v) (fm aE bI cO lf bp c_ aD a4)=fm aE bI cO lf bp v aD a4:=by
 unfold fm;simp only [de];rw [if_neg (by ac_nf),if_neg (by ac_nf),if_neg (by ac_nf),if_neg (by ac_nf),if_neg (by ac_nf)];rfl
section
variable {w:World} {K:bk} {mg:Str->Option Value} {t:bK} {H:aw} {a c az le mo cI cG aS ch:Addr} {k:Nat}
theorem zV (T:Txt w K mg t) (e:H a=some (.ins t.fq az (l2 c k le mo cI cG aS ch))):fY K H a (ae "crossing") (.ref c):=⟨_,az,_,e,T.kf,T.P5,gK qP 0 (rN ..) (by ac_nf) rfl⟩
theorem n8 (T:Txt w K mg t) (e:H a=some (.ins t.fq az (l2 c k le mo cI cG aS ch))):fY K H a (ae "sorts") (.ref cG):=⟨_,az,_,e,T.kf,T.Om,gK qP 5 (rN ..) (by ac_nf) rfl⟩
theorem xp (T:Txt w K mg t) (e:H a=some (.ins t.fq az (l2 c k le mo cI cG aS ch))):fY K H a (ae "homes") (.ref aS):=⟨_,az,_,e,T.kf,T.R3,gK qP 6 (rN ..) (by ac_nf) rfl⟩
end
theorem nG {m:Str} (aE:Addr) (bI:V) (cO lf bp c_:Int) (aD a4:Addr) (h:Cl.contains m=false):(fm aE bI cO lf bp c_ aD a4).lookup m=none:=xV Cl (i' ..) h
section
variable {w:World} {K:bk} {mg:Str->Option Value} {t:bK} {H:aw} {k aE az aD a4:Addr} {bI:V} {cO lf bp c_:Int}
theorem j3 (T:Txt w K mg t) (e:H k=some (.ins t.dp az (fm aE bI cO lf bp c_ aD a4))):fY K H k (ae "stages") (.ref aE):=⟨_,az,_,e,T.e7,T.Qg,gK Cl 0 (i' ..) (by ac_nf) rfl⟩
theorem q2 (T:Txt w K mg t) (e:H k=some (.ins t.dp az (fm aE bI cO lf bp c_ aD a4))):fY K H k (ae "showing") bI:=⟨_,az,_,e,T.e7,T.zW,gK Cl 1 (i' ..) (by ac_nf) rfl⟩
theorem xj (T:Txt w K mg t) (e:H k=some (.ins t.dp az (fm aE bI cO lf bp c_ aD a4))):fY K H k (ae "waiting") (.ref aD):=⟨_,az,_,e,T.e7,T.Oa,gK Cl 6 (i' ..) (by ac_nf) rfl⟩
theorem Ib (T:Txt w K mg t) (e:H k=some (.ins t.dp az (fm aE bI cO lf bp c_ aD a4))):fY K H k (ae "picked") (.ref a4):=⟨_,az,_,e,T.e7,T.Ws,gK Cl 7 (i' ..) (by ac_nf) rfl⟩
theorem Vf (T:Txt w K mg t) (e:H k=some (.ins t.dp az (fm aE bI cO lf bp c_ aD a4))):fY K H k (ae "lasted") (.int cO):=⟨_,az,_,e,T.e7,T.Dv,gK Cl 2 (i' ..) (by ac_nf) rfl⟩
theorem Et (T:Txt w K mg t) (e:H k=some (.ins t.dp az (fm aE bI cO lf bp c_ aD a4))):fY K H k (ae "left") (.int lf):=⟨_,az,_,e,T.e7,T.Ll,gK Cl 3 (i' ..) (by ac_nf) rfl⟩
theorem yy (T:Txt w K mg t) (e:H k=some (.ins t.dp az (fm aE bI cO lf bp c_ aD a4))):fY K H k (ae "sought") (.int bp):=⟨_,az,_,e,T.e7,T.Jv,gK Cl 4 (i' ..) (by ac_nf) rfl⟩
theorem EX (T:Txt w K mg t) (e:H k=some (.ins t.dp az (fm aE bI cO lf bp c_ aD a4))):fY K H k (ae "gone") (.int c_):=⟨_,az,_,e,T.e7,T.C7,gK Cl 5 (i' ..) (by ac_nf) rfl⟩
end
section
variable {w:World} {K:bk} {mg:Str->Option Value} {t:bK} {H:aw} {a c az le mo cI cG aS ch:Addr} {k:Nat}
theorem JW (T:Txt w K mg t) (e:H a=some (.ins t.fq az (l2 c k le mo cI cG aS ch))):fY K H a (ae "leasts") (.ref le):=⟨_,az,_,e,T.kf,T.Sw,gK qP 2 (rN ..) (by ac_nf) rfl⟩
theorem OI (T:Txt w K mg t) (e:H a=some (.ins t.fq az (l2 c k le mo cI cG aS ch))):fY K H a (ae "mosts") (.ref mo):=⟨_,az,_,e,T.kf,T.Oy,gK qP 3 (rN ..) (by ac_nf) rfl⟩
end
theorem fp.same {w:World} {t:bK} {rows:List ST} (h:fp P w t H a c n ds rows) (s:aK H I):fp P w t I a c n ds rows:=by
 obtain ⟨az,le,mo,cI,cG,aS,ch,ms,kvs,aq,aH,bO,d_,fR,ec,gF,jH,ja⟩:=h;exact ⟨az,le,mo,cI,cG,aS,ch,ms,kvs,s _ _ aq,aH.same s,s _ _ bO,s _ _ d_,fR.same s,s _ _ ec,s _ _ gF,Iu jH s,ja⟩
noncomputable abbrev dd:Str:=ae "trams"
noncomputable abbrev h3:Str:=ae "others"
structure ff where
 bI:Option Nat
 cO:Int
 lf:Nat
 bp:Nat
 c_:Int
 wt:List Str
 pt:Int
 po:Int
noncomputable def qd:Option Nat->V
 | none=>.cn
 | some i=>.int (i:Nat)
noncomputable def gn (xs:List Str):List (Key × V):=xs.map fun x=>(cy x,V.bo true)
noncomputable def mO (a b:Int):List (Key × V):=[(cy dd,.int a),(cy h3,.int b)]
def e4 (t:bK) (H:aw) (k aE aD a4:Addr) (s:ff):Prop:=aD ≠ a4/\∃ az,H k=some (.ins t.dp az (fm aE (qd s.bI) s.cO s.lf s.bp s.c_ aD a4))/\H aD=some (.bW (gn s.wt))/\H a4=some (.bW (mO s.pt s.po))
theorem e4.same {t:bK} {k aE aD a4:Addr} (h:e4 t H k aE aD a4 s) (e:aK H I):e4 t I k aE aD a4 s:=by
 obtain ⟨h0,az,af,ak,a5⟩:=h;exact ⟨h0,az,e _ _ af,e _ _ ak,e _ _ a5⟩
def ci (k aD a4:Addr) (H I:aw):Prop:=∀ b u,b ≠ k->b ≠ aD->b ≠ a4->H b=some u->I b=some u
theorem ci.trans {k aD a4:Addr} (a:ci k aD a4 H H1) (b:ci k aD a4 H1 av):ci k aD a4 H av:=fun c u x y z e=>b c u x y z (a c u x y z e)
theorem ci.of {k aD a4:Addr} (a:aK H H1):ci k aD a4 H H1:=fun c u _ _ _ e=>a c u e
theorem ci.wh {k aD a4:Addr} (a:ci k aD a4 H H1) (s:aK cu H) (af:cu k=none) (ak:cu aD=none) (a5:cu a4=none):aK cu H1:=fun c u e=>a c u (dm e af) (dm e ak) (dm e a5) (s c u e)
theorem aib:tF [] [(cy dd,V.int (-1)),(cy h3,V.int (-1))]=mO (-1) (-1):=by
 have h:(cy dd:Key) ≠ cy h3:=fun z=>absurd (t5 z) (by ac_nf)
 simp [tF,es,mO,h]
theorem Wv (h:s=dd\/s=h3):es (mO a b) (cy s) (.int v)=mO (if s=dd then v else a) (if s=dd then b else v):=by
 have af:dd ≠ h3:=by ac_nf
 rcases h with rfl | rfl
 .simp [es,mO,af,af.symm]
 .simp [es,mO,af,af.symm]
theorem ac8 (h:s=dd\/s=h3):dn (mO a b) (cy s)=some (.int (if s=dd then a else b)):=by
 have af:dd ≠ h3:=by ac_nf
 rcases h with rfl | rfl
 .simp [dn,mO,af,af.symm]
 .simp [dn,mO,af,af.symm]
theorem aaA (xs:List Str) (x:Str):(dn (gn xs) (cy x)).isSome=decide (x ∈ xs):=by
 rw [l4,decide_eq_true_eq]
 induction xs with
 | nil=>simp [gn,dn]
 | cons y ys cS=>
  by_cases c:y=x
  .simp [gn,dn,c]
  .have c':x ≠ y:=fun z=>c z.symm
   simp only [gn,dn,e8,sN] at cS ⊢;simp [c,c'] at cS ⊢
   try exact cS
noncomputable def Qs (ds:List bc) (r:ST):ff:=⟨some 0,1,0,0,0,[],if c6 ds r=dd then 0 else -1,if c6 ds r=dd then -1 else 0⟩
noncomputable def vY (rows:List ST) (i:Nat) (x:Str):Str:=if jS rows x=some i then ae "free" else ae "stop"
section
variable (P:Program) (w:World)
def Ob (t:bK):bM:=fun vs H Q _=>∃ k az aE c n ds rows r,vs=[.ref k,.ref aE]/\H k=some (.ins t.dp az [])/\fp P w t H aE c n ds rows/\rows[0]? = some r/\(c6 ds r=dd\/c6 ds r=h3)/\aJ H/\∀ aD a4 I,ad k H I->aJ I->H aD=none->H a4=none->e4 t I k aE aD a4 (Qs ds r)->Q .cn I
def akG (t:bK):bM:=fun vs H Q _=>∃ k aE aD a4 s,∃ i:Nat,∃ c n ds rows,∃ d:bc,vs=[.ref k,.str d.name]/\e4 t H k aE aD a4 s/\s.bI=some i/\fp P w t H aE c n ds rows/\told rows d.name=true/\Q (.str (vY rows i d.name)) H
end
theorem abl:cm P base T 1 t.x7 t.Dh w_ (Ob P w t):=by
 exists T.V2.ok afw,9
 obtain ⟨k,az,aE,c,n,ds,rows,r,rfl,aC,c3,h0,rR,bx,q⟩:=h;obtain ⟨iw,le,mo,cI,cG,aS,ch,ms,kvs,aq,C,bO,d_,fR,ec,gF,jH,ja⟩:=c3;have bY:=iN ao;refine ⟨_,(db (fe (U 0) (U 1) rfl)
   (db (fe (U 0) aO rfl)
   (db (fe (U 0) aO rfl)
   (db (fe (U 0) aO rfl)
   (db (fe (U 0) aO rfl)
   (db (fe (U 0) aO rfl)
   (db (fe (U 0) Dy rfl)
   (db (fe (U 0) (akD (V' dF (ov oy aO) (V' dF (ov oy aO) abB)) rfl rfl (by simp) (by decide)) rfl)
   (a0 (vv bY (bw (U 0) rfl) (bZ c8 (bw (U 1) rfl) aO) aO rfl)))))))))),?_⟩
 exists (fun au I=>ad k H I/\aJ I/\I k=some (.ins t.dp az [(ae "stages",V.ref aE)])/\au=[~~~k,~~~aE]),5
 .nofun;refine ⟨_,_,_,aC,T.e7,T.Qg,(show (0:Nat) < 1000 by decide),?_⟩;rw [show de (ae "stages") (V.ref aE) ([]:List (Str × V))=[(ae "stages",V.ref aE)] from gq [] rfl (by ac_nf)];exact cY _ _ ⟨fun b u aa e=>by rw [aM aa];exact e,bx.upd,aQ,rfl⟩
 rintro fk H1 ⟨b1,cM,a1,rfl⟩;subst aT;exists (fun au I=>ad k H I/\aJ I/\I k=some (.ins t.dp az [(ae "stages",V.ref aE),(ae "showing",V.int 0)])/\au=[~~~k,~~~aE]),5
 .nofun;refine ⟨_,_,_,a1,T.e7,T.zW,(show (1:Nat) < 1000 by decide),?_⟩;rw [show de (ae "showing") (V.int 0) ([(ae "stages",V.ref aE)]:List (Str × V))=[(ae "stages",V.ref aE),(ae "showing",V.int 0)] from gq [ae "stages"] rfl (by ac_nf)];exact cY _ _ ⟨fun b u aa e=>by rw [aM aa];exact b1 _ _ aa e,cM.upd,aQ,rfl⟩
 rintro cw av ⟨gc,cU,a2,rfl⟩;subst aT;exists (fun au I=>ad k H I/\aJ I/\I k=some (.ins t.dp az [(ae "stages",V.ref aE),(ae "showing",V.int 0),(ae "lasted",V.int 1)])/\au=[~~~k,~~~aE]),5
 .nofun;refine ⟨_,_,_,a2,T.e7,T.Dv,(show (2:Nat) < 1000 by decide),?_⟩;rw [show de (ae "lasted") (V.int 1) ([(ae "stages",V.ref aE),(ae "showing",V.int 0)]:List (Str × V))=[(ae "stages",V.ref aE),(ae "showing",V.int 0),(ae "lasted",V.int 1)] from gq [ae "stages",ae "showing"] rfl (by ac_nf)];exact cY _ _ ⟨fun b u aa e=>by rw [aM aa];exact gc _ _ aa e,cU.upd,aQ,rfl⟩
 rintro fI br ⟨g8,di,ef,rfl⟩;subst aT;exists (fun au I=>ad k H I/\aJ I/\I k=some (.ins t.dp az [(ae "stages",V.ref aE),(ae "showing",V.int 0),(ae "lasted",V.int 1),(ae "left",V.int 0)])/\au=[~~~k,~~~aE]),5
 .nofun;refine ⟨_,_,_,ef,T.e7,T.Ll,(show (3:Nat) < 1000 by decide),?_⟩;rw [show de (ae "left") (V.int 0) ([(ae "stages",V.ref aE),(ae "showing",V.int 0),(ae "lasted",V.int 1)]:List (Str × V))=[(ae "stages",V.ref aE),(ae "showing",V.int 0),(ae "lasted",V.int 1),(ae "left",V.int 0)] from gq [ae "stages",ae "showing",ae "lasted"] rfl (by ac_nf)];exact cY _ _ ⟨fun b u aa e=>by rw [aM aa];exact g8 _ _ aa e,di.upd,aQ,rfl⟩
 rintro jE cJ ⟨dv,dc,nQ,rfl⟩;subst aT;exists (fun au I=>ad k H I/\aJ I/\I k=some (.ins t.dp az [(ae "stages",V.ref aE),(ae "showing",V.int 0),(ae "lasted",V.int 1),(ae "left",V.int 0),(ae "sought",V.int 0)])/\au=[~~~k,~~~aE]),5
 .nofun;refine ⟨_,_,_,nQ,T.e7,T.Jv,(show (4:Nat) < 1000 by decide),?_⟩;rw [show de (ae "sought") (V.int 0) ([(ae "stages",V.ref aE),(ae "showing",V.int 0),(ae "lasted",V.int 1),(ae "left",V.int 0)]:List (Str × V))=[(ae "stages",V.ref aE),(ae "showing",V.int 0),(ae "lasted",V.int 1),(ae "left",V.int 0),(ae "sought",V.int 0)] from gq [ae "stages",ae "showing",ae "lasted",ae "left"] rfl (by ac_nf)];exact cY _ _ ⟨fun b u aa e=>by rw [aM aa];exact dv _ _ aa e,dc.upd,aQ,rfl⟩
 rintro qY ck ⟨d1,ei,xc,rfl⟩;subst aT;exists (fun au I=>ad k H I/\aJ I/\I k=some (.ins t.dp az [(ae "stages",V.ref aE),(ae "showing",V.int 0),(ae "lasted",V.int 1),(ae "left",V.int 0),(ae "sought",V.int 0),(ae "gone",V.int 0)])/\au=[~~~k,~~~aE]),5
 .nofun;refine ⟨_,_,_,xc,T.e7,T.C7,(show (5:Nat) < 1000 by decide),?_⟩;rw [show de (ae "gone") (V.int 0) ([(ae "stages",V.ref aE),(ae "showing",V.int 0),(ae "lasted",V.int 1),(ae "left",V.int 0),(ae "sought",V.int 0)]:List (Str × V))=[(ae "stages",V.ref aE),(ae "showing",V.int 0),(ae "lasted",V.int 1),(ae "left",V.int 0),(ae "sought",V.int 0),(ae "gone",V.int 0)] from gq [ae "stages",ae "showing",ae "lasted",ae "left",ae "sought"] rfl (by ac_nf)];exact cY _ _ ⟨fun b u aa e=>by rw [aM aa];exact d1 _ _ aa e,ei.upd,aQ,rfl⟩
 rintro mQ gg ⟨cC,lT,rG,rfl⟩;subst aT;exists (fun au I=>ad k H I/\aJ I/\∃ aD,H aD=none/\I k=some (.ins t.dp az [(ae "stages",V.ref aE),(ae "showing",V.int 0),(ae "lasted",V.int 1),(ae "left",V.int 0),(ae "sought",V.int 0),(ae "gone",V.int 0),(ae "waiting",V.ref aD)])/\I aD=some (.bW [])/\au=[~~~k,~~~aE]),5
 .nofun;intro aD pR;have Wz:aD ≠ k:=fun z=>by rw [z,rG] at pR;cases pR
  have g4:H aD=none:=by
   cases e:H aD with
   | none=>rfl
   | some u=>have:=cC _ _ Wz e;rw [pR] at this;cases this
  refine ⟨_,_,_,(ba pR) _ _ rG,T.e7,T.Oa,(show (6:Nat) < 1000 by decide),?_⟩;rw [show de (ae "waiting") (V.ref aD) ([(ae "stages",V.ref aE),(ae "showing",V.int 0),(ae "lasted",V.int 1),(ae "left",V.int 0),(ae "sought",V.int 0),(ae "gone",V.int 0)]:List (Str × V))=[(ae "stages",V.ref aE),(ae "showing",V.int 0),(ae "lasted",V.int 1),(ae "left",V.int 0),(ae "sought",V.int 0),(ae "gone",V.int 0),(ae "waiting",V.ref aD)] from gq [ae "stages",ae "showing",ae "lasted",ae "left",ae "sought",ae "gone"] rfl (by ac_nf)];exact cY _ _ ⟨fun b u aa e=>by rw [aM aa];exact (ba pR) _ _ (cC _ _ aa e),lT.upd.upd,aD,g4,aQ,by rw [aM Wz];exact aQ,rfl⟩
 rintro kO fa ⟨c0,hK,aD,g4,qW,uk,rfl⟩;subst aT;exists (fun au I=>ad k H I/\aJ I/\∃ a4,I k=some (.ins t.dp az (fm aE (.int 0) 1 0 0 0 aD a4))/\I aD=some (.bW [])/\I a4=some (.bW (mO (-1) (-1)))/\a4 ≠ aD/\H a4=none/\au=[~~~k,~~~aE]),5
 .nofun;simp only [Ca];nofun;intro a4 mY;have ug:a4 ≠ k:=fun z=>by rw [z,qW] at mY;cases mY
  have j2:a4 ≠ aD:=fun z=>by rw [z,uk] at mY;cases mY
  have hX:H a4=none:=by
   cases e:H a4 with
   | none=>rfl
   | some u=>have:=c0 _ _ ug e;rw [mY] at this;cases this
  refine ⟨aQ,[(cy (ae "trams"),.int (-1)),(cy (ae "others"),.int (-1))],rfl,by show 2 <= 15;decide,_,_,_,(aM ug.symm).trans ((aM ug.symm).trans qW),T.e7,T.Ws,(show (7:Nat) < 1000 by decide),?_⟩;rw [show de (ae "picked") (V.ref a4) ([(ae "stages",V.ref aE),(ae "showing",V.int 0),(ae "lasted",V.int 1),(ae "left",V.int 0),(ae "sought",V.int 0),(ae "gone",V.int 0),(ae "waiting",V.ref aD)]:List (Str × V))=fm aE (.int 0) 1 0 0 0 aD a4 from gq [ae "stages",ae "showing",ae "lasted",ae "left",ae "sought",ae "gone",ae "waiting"] rfl (by ac_nf)];refine cY _ _ ⟨fun b u aa e=>?_,hK.upd.upd.upd,a4,aQ,?_,(aM ug).trans (aQ.trans (congrArg (fun x=>some (fX.bW x)) (aib))),j2,hX,rfl⟩
  .have:=c0 _ _ aa e;rw [aM aa,aM (dm this mY),aM (dm this mY)];exact this
  .rw [aM (cx uk qW (by intro z;cases z)),aM j2.symm,aM j2.symm];exact uk
 rintro sM iC ⟨dI,nP,a4,rV,zZ,Vq,j2,mY,rfl⟩;subst aT;nofun;refine ⟨_,Ib T rV,_,n8 T (dI _ _ (FR aC aq) aq),_,rfl,_,ay.of (dI _ _ (cx ec aC (by intro z;cases z)) ec),_,cp (j:=0) (ng (by rw [df,h0];rfl)),_,rfl,_,l5.k (k:=cy (c6 ds r)) Vq (gD (show (mO (-1) (-1)).length <= 2 from bP 2) (by decide)),q aD a4 _ (fun b u aa e=>?_) nP.upd g4 mY ⟨j2.symm,az,?_,?_,?_⟩⟩
 .rw [aM (dm e mY)];exact dI _ _ aa e
 .rw [aM (cx rV Vq (by intro z;cases z))];exact rV
 .rw [aM j2.symm];exact zZ
 .rw [aQ,Wv rR];rfl
theorem adT:cm P base T 1 t.Bm t.Ls jU (akG P w t):=by
 exists T.RW.ok afY,9
 obtain ⟨k,aE,aD,a4,aj,i,c,n,ds,rows,d,rfl,⟨_,az,cb,dT,gr⟩,gM,⟨iw,le,mo,cI,cG,aS,ch,ms,kvs,aq,C,bO,d_,fR,ec,gF,jH,ja⟩,cR,q⟩:=h;have bY:=iN ao;obtain ⟨j,r,aG,aC,jq,_⟩:=nM cR;refine ⟨_,(a0 (b' (tT (cX et (oZ bY (bw (bw (U 0) rfl) rfl) (U 1) (fun _ _=>rfl)) (bw (U 0) rfl) (cA _)) dF dF))),?_⟩;rw [gM] at cb;nofun;have a8:=ij.k (k:=cy d.name) gF;rw [aG] at a8;refine ⟨_,j3 T cb,_,rfl,_,xp T aq,_,rfl,_,a8,_,q2 T cb,rfl,?_⟩;unfold vY at q;rw [aC] at q;by_cases hm:j=i
 .rw [if_pos (by rw [hm])] at q;rw [hm,if_pos (show decide (V.int ((i:Nat):Int)=qd (some i))=true from decide_eq_true rfl)];exact q
 .rw [if_neg (fun z=>hm (eE z))] at q;rw [if_neg (show ¬ decide (V.int ((j:Nat):Int)=qd (some i))=true from fun z=>hm (by have z:=of_decide_eq_true z;injection z with z;omega))];exact q
noncomputable def gG (n:Int) (ds:List bc) (rows:List ST) (i j:Nat):Int:=match rows[i]?,rows[j]? with
 | some r,some s=>((iV n ds r.mem s.mem).max?).getD 0
 | _,_=>0
theorem HS {rows:List ST} (ai:rows[i]? = some r) (aG:rows[j]? = some s) (h:ot (iV n ds r.mem s.mem) v):gG n ds rows i j=v:=by
 unfold gG;rw [ai,aG];show ((iV n ds r.mem s.mem).max?).getD 0=v;rw [(List.max?_eq_some_iff (xs:=iV n ds r.mem s.mem) (a:=v)).mpr ⟨h.1,h.2⟩];rfl
noncomputable def v9 (n:Int) (ds:List bc) (rows:List ST) (s:ff) (d:bc):Str:=if jS rows d.name=some s.lf/\s.c_ < lY d then ae "fade" else if jS rows d.name=some s.bp/\gG n ds rows s.lf s.bp - s.c_ <= ly d then ae "ready" else ae "stop"
noncomputable def iG (n:Int) (ds:List bc) (rows:List ST) (s:ff) (d:bc):Str:=match s.bI with
 | some i=>vY rows i d.name
 | none=>v9 n ds rows s d
section
variable (P:Program) (w:World)
def W0 (t:bK):bM:=fun vs H Q _=>∃ k aE aD a4 s c n ds rows,∃ i:Nat,∃ d:bc,vs=[.ref k,.str d.name]/\e4 t H k aE aD a4 s/\fp P w t H aE c n ds rows/\told rows d.name=true/\ds[i]? = some d/\s.lf < rows.length/\s.bp < rows.length/\s.lf ≠ s.bp/\aJ H/\Q (.str (v9 n ds rows s d)) H
end
theorem abq:cm P base T 3 t.zz t.EI jU (W0 P w t):=by
 refine cv (se T) fun jO=>cv (SB T) fun qp=>?_;have Ha:qi P w K mg base dk 2 (uU t) "ready" ["self"] (vc t):=C6 (Pt T) (by decide);have GU:qi P w K mg base dk 2 (uU t) "fade" ["self"] (io t):=C6 (OC T) (by decide);exists T.Pk.ok LX,9
 obtain ⟨k,aE,aD,a4,aj,c,n,ds,rows,i,d,rfl,⟨_,az,cb,dT,gr⟩,c3,cR,hd,tG,S_,cj,bx,q⟩:=h;obtain ⟨iw,le,mo,cI,cG,aS,ch,ms,kvs,aq,C,bO,d_,fR,ec,gF,jH,ja⟩:=id c3;have bY:=iN ao;obtain ⟨⟨gX,gP⟩,Ik,wl,aI,bh,_,_⟩:=id C;obtain ⟨j,r,aG,aC,jq,_⟩:=nM cR;have a8:=ij.k (k:=cy d.name) gF;rw [aG] at a8;refine ⟨_,(db (bT (i:=2) LX.aI (fg (bw (bw (U 0) rfl) rfl) T.h5 T.ow jO ao T.n4 .nil c2 (ag (U 1) aA)))
   (db (bT (i:=3) LX.aI (oZ bY (bw (bw (U 0) rfl) rfl) (U 1) (fun _ _=>rfl)))
   (db (dU (fM.pt (md (cX et (U 3) (bw (U 0) rfl) (cA _)) (mi (cX lR (bw (U 0) rfl) (DO (U 2) GU ao c2) (cA _))))) (a0 (b' dF)) eh)
   (db (dU (fM.pt (md (cX et (U 3) (bw (U 0) rfl) (cA _)) (mi (cX ak5 (bE k' (bU qp ao T.yf T.tc.bl T.x4 (ag (bw (U 0) rfl) (ag (bw (U 0) rfl) (ag (bw (U 0) rfl) aA)))) (bw (U 0) rfl)) (DO (U 2) Ha ao c2) (cA _))))) (a0 (b' dF)) eh)
   (a0 (b' dF)))))),?_⟩
 exists (fun au I=>I=H/\∃ a,eW t H a d/\au=[~~~k,some (.str d.name),~~~a,none]),5
 .nofun;exact ⟨_,j3 T cb,_,rfl,_,zV T aq,_,rfl,_,_,bh,kT _ _ _ (by ac_nf),c,n,ds,i,d,rfl,C,hd,fun a W=>cY _ _ ⟨rfl,a,W,rfl⟩⟩
 rintro fk H1 ⟨rfl,a,W,rfl⟩;subst aT;exists (fun au I=>I=H1/\au=[~~~k,some (.str d.name),~~~a,some (.int (j:Nat))]),5
 .nofun;exact ⟨_,j3 T cb,_,rfl,_,xp T aq,_,rfl,_,a8,cY _ _ ⟨rfl,rfl⟩⟩
 rintro cw av ⟨rfl,rfl⟩;obtain ⟨vN,Td,rJ⟩:=id W;subst aT;unfold v9 at q;rw [aC] at q;simp only [dG];refine s9 (fun au I=>I=av/\¬ (some j=some aj.lf/\aj.c_ < lY d)/\au=[~~~k,some (.str d.name),~~~a,some (.int (j:Nat))]) (fun f3 cY nh _ _=>?_) ?_
 .refine dh (decide (j=aj.lf) && decide (aj.c_ < lY d)) (fun Q' aV=>?_) (fun aa=>?_) (fun aa=>?_)
  .nofun;refine ⟨_,Et T cb,rfl,?_⟩;by_cases bF:j=aj.lf
   .rw [decide_eq_true bF,lU] at aV;rw [if_pos (show decide (V.int ((j:Nat):Int)=V.int ((aj.lf:Nat):Int))=true from decide_eq_true (by rw [bF]))];exact ⟨_,EX T cb,_,_,_,rJ,⟨_,vN,rfl⟩,BU (by ac_nf),a,d,rfl,W,rfl,_,rfl,_,rfl,aV⟩
   .rw [decide_eq_false bF,mv] at aV;rw [if_neg (show ¬ decide (V.int ((j:Nat):Int)=V.int ((aj.lf:Nat):Int))=true from fun z=>bF (by have z:=of_decide_eq_true z;injection z with z;omega))];exact aV
  .rw [iF,decide_eq_true_eq,decide_eq_true_eq] at aa;rw [if_pos ⟨by rw [aa.1],aa.2⟩] at q;nofun;rw [nh];exact q
  .simp only [gQ];refine cY _ _ ⟨rfl,fun z=>?_,rfl⟩;rw [decide_eq_true (eE z.1),decide_eq_true z.2] at aa;cases aa
 rintro fI br ⟨rfl,FA,rfl⟩;rw [if_neg FA] at q;simp only [dG];refine s9 (fun au I=>I=br/\¬ (some j=some aj.bp/\gG n ds rows aj.lf aj.bp - aj.c_ <= ly d)/\au=[~~~k,some (.str d.name),~~~a,some (.int (j:Nat))]) (fun f3 cY nh _ _=>?_) ?_
 .refine dh (decide (j=aj.bp) && decide (gG n ds rows aj.lf aj.bp - aj.c_ <= ly d)) (fun Q' aV=>?_) (fun aa=>?_) (fun aa=>?_)
  .nofun;refine ⟨_,yy T cb,rfl,?_⟩;by_cases bF:j=aj.bp
   .rw [decide_eq_true bF,lU] at aV;rw [if_pos (show decide (V.int ((j:Nat):Int)=V.int ((aj.bp:Nat):Int))=true from decide_eq_true (by rw [bF]))];refine ⟨_,j3 T cb,_,Et T cb,_,yy T cb,aE,c,n,ds,rows,aj.lf,aj.bp,_,_,rfl,c3,a' tG,a' S_,cj,bx,fun v aF=>⟨_,EX T cb,_,rfl,_,rfl,_,_,_,rJ,⟨_,vN,rfl⟩,BU (by ac_nf),a,d,rfl,W,rfl,_,rfl,?_⟩⟩;rw [HS (a' tG) (a' S_) aF] at aV;exact aV
   .rw [decide_eq_false bF,mv] at aV;rw [if_neg (show ¬ decide (V.int ((j:Nat):Int)=V.int ((aj.bp:Nat):Int))=true from fun z=>bF (by have z:=of_decide_eq_true z;injection z with z;omega))];exact aV
  .rw [iF,decide_eq_true_eq,decide_eq_true_eq] at aa;rw [if_pos ⟨by rw [aa.1],aa.2⟩] at q;nofun;rw [nh];exact q
  .simp only [gQ];refine cY _ _ ⟨rfl,fun z=>?_,rfl⟩;rw [decide_eq_true (eE z.1),decide_eq_true z.2] at aa;cases aa
 rintro jE cJ ⟨rfl,r4,rfl⟩;rw [if_neg r4] at q;nofun;exact q
theorem ai9 {ds:List bc} (h:(ds.map (·.name)).Nodup) {i j:Nat} {d e:bc} (ai:ds[i]? = some d) (aG:ds[j]? = some e) (z:d.name=e.name):i=j:=by
 obtain ⟨af,aq⟩:=b6.mp ai;obtain ⟨ak,aH⟩:=b6.mp aG;have e:(ds.map (·.name))[i]'(by simpa using af)=(ds.map (·.name))[j]'(by simpa using ak):=by
  rw [wR,wR,aq,aH];exact z
 exact (ET h).mp e
noncomputable def jj (ds:List bc) (f:bc->Str):List (Key × V):=ds.map fun d=>(cy d.name,V.str (f d))
theorem agv {ds:List bc} {f:bc->Str} (h:(ds.map (·.name)).Nodup) {i:Nat} {d:bc} (hd:ds[i]? = some d):es (jj (ds.take i) f) (cy d.name) (.str (f d))=jj (ds.take (i + 1)) f:=by
 unfold es;have no:((jj (ds.take i) f).any fun dx=>decide (dx.1=cy d.name))=false:=by
  rw [Vc];intro p ar;unfold jj at ar;obtain ⟨e,he,rfl⟩:=cc.mp ar;obtain ⟨j,aG⟩:=hU he;have gv:=(b6.mp aG).1;rw [ha] at gv;rw [vZ (by omega)] at aG;simp only [decide_eq_true_eq];intro z;have:=ai9 h aG hd (t5 z);omega
 rw [if_neg (by rw [no];exact fB),re hd];unfold jj;rw [ed];rfl
theorem QY {ds:List bc} {f:bc->Str} (h:(ds.map (·.name)).Nodup) {i:Nat} {d:bc} (hd:ds[i]? = some d):dn (jj ds f) (cy d.name)=some (.str (f d)):=by
 have:∀ (l:List bc),(l.map (·.name)).Nodup->d ∈ l->dn (jj l f) (cy d.name)=some (.str (f d)):=fun l=>by
  induction l with
  | nil=>intro _ h;cases h
  | cons x l cS=>
   intro aX hm;by_cases c:x.name=d.name
   .have:x=d:=by
     rcases en.mp hm with e | e
     .exact e.symm
     .exact absurd (cc.mpr ⟨d,e,c.symm⟩) (tE.mp aX).1
    subst this;simp [dn,jj]
   .have mN:d ∈ l:=by
     rcases en.mp hm with e | e
     .exact absurd (by rw [e]) c
     .exact e
    have:=cS (tE.mp aX).2 mN;simp only [dn,jj,e8,sN] at this ⊢;simp [c] at this ⊢;exact this
 exact this ds h (b9 hd)
def aky (rows:List ST) (s:ff):Prop:=s.bI=none->s.lf < rows.length/\s.bp < rows.length/\s.lf ≠ s.bp
def ae5 (P:Program) (w:World) (t:bK):bM:=fun vs H Q _=>∃ k aE aD a4 s c n ds rows,vs=[.ref k]/\e4 t H k aE aD a4 s/\fp P w t H aE c n ds rows/\(∀ d ∈ ds,told rows d.name=true)/\aky rows s/\aJ H/\∀ p I,aK H I->aJ I->H p=none->I p=some (.bW (jj ds (iG n ds rows s)))->Q (.ref p) I
theorem aaQ:cm P base T 4 t.zC t.Kr ["self"] (ae5 P w t):=by
 refine cv (DF T) fun sH=>cv (adT T) fun afN=>cv (abq T) fun abh=>?_;exists T.No.ok Md,9
 obtain ⟨k,aE,aD,a4,aj,c,n,ds,rows,rfl,hi,c3,nj,agf,bx,q⟩:=h;have bY:=iN ao;obtain ⟨_,az,cb,dT,gr⟩:=id hi;obtain ⟨iw,le,mo,cI,cG,aS,ch,ms,kvs,aq,C,_⟩:=id c3;obtain ⟨⟨gX,gP⟩,Ik,wl,aI,bh,_,_⟩:=id C;refine ⟨_,(db (bT (i:=1) Md.aI Dy)
   (db (fw fF rfl (e5 (kp (bw (bw (U 0) rfl) rfl) T.h5 T.D0 sH ao T.Uf .nil c2)) (b7 (i:=2) Md.aI) (a0 (vv bY (U 1) (U 2) (tT (cX V5 (bw (U 0) rfl) tP (cA _)) (fg (U 0) T.e7 T.aeF afN ao T.XJ .nil c2 (ag (U 2) aA)) (fg (U 0) T.e7 T.akV abh ao T.Zq .nil c2 (ag (U 2) aA))) rfl)))
   (a0 (b' (U 1))))),?_⟩
 exists (fun au I=>aK H I/\aJ I/\∃ jd,H jd=none/\I jd=some (.bW [])/\au=[~~~k,~~~jd,none]),4
 .nofun;exact fun jd vy=>bQ _ _ ⟨ba vy,bx.upd,jd,vy,aQ,rfl⟩
 rintro fk H1 ⟨s1,cM,jd,vy,dC,rfl⟩;subst aT;nofun;refine ⟨_,j3 T (s1 _ _ cb),_,rfl,_,zV T (s1 _ _ aq),_,rfl,_,_,s1 _ _ bh,kT _ _ _ (by ac_nf),c,n,ds,rfl,C.same s1,fun eL kF=>⟨eL,rfl,⟨_,ay.of aQ⟩,?_⟩⟩;refine dZ.list (xs:=aY (ds.map (·.name))) (fun i σ I=>aK H I/\aJ I/\I eL=some (.lst (aY (ds.map (·.name))))/\I jd=some (.bW (jj (ds.take i) (iG n ds rows aj)))/\∃ y,σ=[~~~k,~~~jd,y]) ?_ ?_ ?_ ?_
 .exact ⟨s1.trans (ba kF),cM.upd,aQ,(ba kF) _ _ dC,_,rfl⟩
 .rintro i σ I ai a_;ac_rfl
  obtain ⟨_,_,h,_⟩:=a_;subst aT;exact ay.of h
 .rintro i v σ I aF a_;ac_rfl
  obtain ⟨s2,cU,Lj,vr,y,rfl⟩:=a_;obtain ⟨x,ah,rfl⟩:=b8 aF;obtain ⟨d,hd,rfl⟩:=b8 ah;have Dp:=b9 hd;have hlen:(jj (ds.take i) (iG n ds rows aj)).length <= 12:=by unfold jj;rw [aW,ha];omega
  have vj:upd I jd (.bW (es (jj (ds.take i) (iG n ds rows aj)) (cy d.name) (.str (iG n ds rows aj d)))) eL=some (.lst (aY (ds.map (·.name)))):=by
   rw [aM (cx Lj vr (by intro z;cases z))];exact Lj
  have zQ:upd I jd (.bW (es (jj (ds.take i) (iG n ds rows aj)) (cy d.name) (.str (iG n ds rows aj d)))) jd=some (.bW (jj (ds.take (i + 1)) (iG n ds rows aj))):=by
   rw [aQ,agv (f:=iG n ds rows aj) gX hd]
  subst aT;nofun;refine ⟨_,q2 T (s2 _ _ cb),?_⟩;cases gM:aj.bI with
  | some zX=>
   have Fc:iG n ds rows aj d=vY rows zX d.name:=by unfold iG;rw [gM]
   rw [Fc] at vj zQ;rw [if_pos (by rfl)];exact ⟨_,_,s2 _ _ cb,nG _ _ _ _ _ _ _ _ (by ac_nf),k,aE,aD,a4,aj,zX,c,n,ds,rows,d,rfl,hi.same s2,gM,c3.same s2,nj d Dp,_,l5.k (k:=cy d.name) vr (gD hlen (by decide)),s2.gz vy,cU.upd,vj,zQ,_,rfl⟩
  | none=>
   have Fc:iG n ds rows aj d=v9 n ds rows aj d:=by unfold iG;rw [gM]
   rw [Fc] at vj zQ;obtain ⟨g1,g2,g3⟩:=agf gM;rw [if_neg (by intro z;cases z)];exact ⟨_,_,s2 _ _ cb,nG _ _ _ _ _ _ _ _ (by ac_nf),k,aE,aD,a4,aj,c,n,ds,rows,i,d,rfl,hi.same s2,c3.same s2,nj d Dp,hd,g1,g2,g3,cU,_,l5.k (k:=cy d.name) vr (gD hlen (by decide)),s2.gz vy,cU.upd,vj,zQ,_,rfl⟩
 .rintro σ I a_;ac_rfl
  obtain ⟨s2,cU,Lj,vr,y,rfl⟩:=a_;have k6:(aY (ds.map (·.name))).length=ds.length:=by unfold aY;simp
  subst aT;rw [k6,il] at vr;nofun;exact q jd I s2 cU vy vr
theorem c1.Ub (hf:H d=some (.e2 o (.bW kvs))) (aN:kvs.length <= sizeLine) (he:zs.length=kvs.length)
  (ax:∀ (i:Nat) (k:Key) (v z:V) (N:V->aw->Prop),kvs[i]? = some (k,v)->zs[i]? = some z->N z H->g (dQ k) dq H fun cw av=>Sub dq cw/\bR cw av N) (hd:∀ p,H p=none->Q (.ref p) (upd H p (.lst zs))):c1 (LF d o kvs) g qM bR dq Q H:=by
 refine c1.of (n:=kvs.length) (fun i ys I=>I=H/\ys=zs.take i) aN ⟨rfl,rfl⟩ (fun i ys I ai ⟨eK,_⟩=>by subst eK;exact ⟨hf,ai⟩) (fun ys I ⟨eK,_⟩=>by subst eK;exact ⟨hf,bP _⟩) (fun i ys I ai ⟨_,e⟩=>by rw [e,ha];omega) (fun i ys I x av ai ⟨aq,aH⟩ y=>?_) (fun ys I ⟨aq,aH⟩ p ar=>?_)
 .obtain ⟨bO,k,v,aC,d_⟩:=y;subst aq bO d_;intro N bj;have fc:i < zs.length:=by omega
  have g0:zs[i]? = some zs[i]:=a' fc;exact ax i k v zs[i] (fun y cJ=>N (ys ++ [y]) cJ) aC g0 (bj _ _ ⟨rfl,by rw [aH,m7,g0];rfl⟩)
 .subst aq;rw [aH,<- he,il];exact hd p ar
noncomputable def uN (ds:List bc) (rows:List ST) (x:Str):Str:=(((jS rows x).bind fun j=>rows[j]?).map (c6 ds)).getD (ae "")
noncomputable def yw (ds:List bc) (rows:List ST) (xs:List Str):Bool:=xs.any fun x=>decide (uN ds rows x=dd)
section
variable (P:Program) (w:World)
def aa7 (t:bK):bM:=fun vs H Q _=>∃ cu k aE aD a4 s c n ds rows,vs=[.ref k]/\e4 t H k aE aD a4 s/\fp P w t cu aE c n ds rows/\aK cu H/\cu aD=none/\(∀ x ∈ s.wt,told rows x=true)/\s.wt.length <= 12/\∀ I,aK H I->(aJ H->aJ I)->Q (.bo (yw ds rows s.wt)) I
end
theorem abN:cm P base T 1 t.Dj t.Ep ["self"] (aa7 P w t):=by
 exists T.Qj.ok ais,9
 obtain ⟨cu,k,aE,aD,a4,aj,c,n,ds,rows,rfl,⟨_,az,cb,dT,gr⟩,c3,s0,g4,cR,aL,q⟩:=h;obtain ⟨iw,le,mo,cI,cG,aS,ch,ms,kvs,aq,C,bO,d_,fR,ec,gF,jH,ja⟩:=id c3;have bY:=iN ao;refine ⟨_,(a0 (b' (fP (alm rfl) rfl T.Xo alh (ag (aj' (g_ rfl (Wt (bw (U 0) rfl)) (fO (sc:=bt Ly) rfl (by ac_nf)) (N:=DS) (sel:=[none,some 0]) (fT (M:=["self"]) (by ac_nf)) (e3.of (fun _ _ _ _=>(b7 (i:=0) (d3 (N:=DS) (by ac_nf) rfl))) (fun _ _ _ _=>⟨_,hn,by walk_at "B"⟩) (fun _ _ _ _=>⟨_,(h7 et (bZ c8 (bw (bw (U 1) rfl) rfl) (oZ bY (bw (bw (U 1) rfl) rfl) (U 0) (fun _ _=>rfl))) dF (cA _)),by walk_at "B"⟩)))) aA)))),?_⟩;nofun;refine ⟨aD,_,dT,_,xj T cb,_,rfl,_,dT,fun o=>?_⟩;have gw:(gn aj.wt).length=aj.wt.length:=by unfold gn;rw [aW]
 have pf:aK cu (upd H aD (.e2 o (.bW (gn aj.wt)))):=fun b u e=>by rw [aM (dm e g4)];exact s0 _ _ e
 have Bz:(upd H aD (.e2 o (.bW (gn aj.wt)))) k=some (.ins t.dp az (fm aE (qd aj.bI) aj.cO aj.lf aj.bp aj.c_ aD a4)):=by rw [aM (cx cb dT (by intro z;cases z))];exact cb
 have sF:(upd H aD (.e2 o (.bW (gn aj.wt)))) aD=some (.e2 o (.bW (gn aj.wt))):=aQ;refine c1.Ub (zs:=(aj.wt.map fun x=>decide (uN ds rows x=dd)).map V.bo) sF (by rw [gw];exact cL aL (by decide)) (by rw [aW,aW,gw]) (fun i Yn v z N aC aN bj=>?_) (fun p ar=>?_)
 .unfold gn at aC;obtain ⟨x,ah,ex⟩:=b8 aC;cases ex;obtain ⟨b,aa,rfl⟩:=b8 aN;obtain ⟨eu,dW,rfl⟩:=b8 aa;rw [ah] at dW;cases dW;obtain ⟨j,r,aG,eH,jq,_⟩:=nM (cR x (b9 ah));have ax:uN ds rows x=c6 ds r:=by unfold uN;rw [eH,yt,jq];rfl
  rw [ax] at bj;have a8:=ij.k (k:=cy x) (pf _ _ gF);rw [aG] at a8;nofun;refine ⟨Sub.name,_,j3 T Bz,_,rfl,_,n8 T (pf _ _ aq),_,j3 T Bz,_,rfl,_,xp T (pf _ _ aq),_,rfl,_,a8,_,rfl,_,_,rfl,ay.of (pf _ _ ec),_,cp (ng (by rw [df,jq];rfl)),rfl,?_⟩;rw [show decide (V.str (c6 ds r)=V.str (ae "trams"))=decide (c6 ds r=dd) from decide_eq_decide.mpr ⟨fun z=>by injection z,fun z=>by rw [z]⟩];exact bj
 .have j2:p ≠ aD:=fun z=>by rw [z,sF] at ar;cases ar
  have By:H p=none:=by rw [aM j2] at ar;exact ar
  refine ⟨o,by rw [aM (eb j2)];exact sF,p,rfl,_,ay.of (by rw [aM j2];exact aQ),?_⟩;have he:((aj.wt.map fun x=>decide (uN ds rows x=dd)).any id)=yw ds rows aj.wt:=by unfold yw;rw [Tz];rfl
  rw [he];refine q _ (fun b u e=>?_) (fun z=>((z.upd).upd).upd);by_cases bF:b=aD
  .subst bF;rw [dT] at e;cases e;exact aQ
  .rw [aM bF,aM (dm e By),aM bF];exact e
noncomputable def rd (ds:List bc) (rows:List ST) (s:ff) (r:ST) (own:Bool):Bool:=s.wt.isEmpty || decide (s.cO < r.lo) || (decide (s.cO < r.ai) && own && !yw ds rows s.wt)
def ajo (P:Program) (w:World) (t:bK):bM:=fun vs H Q _=>∃ cu k aE aD a4 s c n ds rows,∃ i:Nat,∃ r own,vs=[.ref k,.bo own]/\e4 t H k aE aD a4 s/\s.bI=some i/\rows[i]? = some r/\fp P w t cu aE c n ds rows/\aK cu H/\cu aD=none/\(∀ x ∈ s.wt,told rows x=true)/\s.wt.length <= 12/\∀ I,aK H I->(aJ H->aJ I)->Q (.bo (rd ds rows s r own)) I
theorem agw:cm P base T 2 t.BP t.GW rB (ajo P w t):=by
 refine cv (abN T) fun ajv=>?_;exists T.S'.ok ahf,9
 obtain ⟨cu,k,aE,aD,a4,aj,c,n,ds,rows,i,r,own,rfl,hi,gM,h6,c3,s0,g4,cR,aL,q⟩:=h;obtain ⟨_,az,cb,dT,gr⟩:=id hi;obtain ⟨iw,le,mo,cI,cG,aS,ch,ms,kvs,aq,C,bO,d_,fR,ec,gF,jH,ja⟩:=id (c3.same s0);have bY:=iN ao;have mh:=cb;rw [gM] at mh;refine ⟨_,(db (dU (fM.pt (t2 (xH (Cv (bw (U 0) rfl) (fun _=>rfl))) (uf (cX lR (bw (U 0) rfl) (bZ c8 (bw (bw (U 0) rfl) rfl) (bw (U 0) rfl)) (cA _))))) (a0 (b' mW)) eh)
   (a0 (b' (wc (h7 lR (bw (U 0) rfl) (bZ c8 (bw (bw (U 0) rfl) rfl) (bw (U 0) rfl)) (cA _)) (wc (U 1) (vO (MP (kp (U 0) T.e7 T.aeE ajv ao T.aiC .nil c2)))))))),?_⟩
 simp only [dG];refine s9 (fun au I=>I=H/\(aj.wt.isEmpty || decide (aj.cO < r.lo))=false/\au=[~~~k,some (.bo own)]) (fun f3 cY nh _ _=>?_) ?_
 .refine dh (aj.wt.isEmpty || decide (aj.cO < r.lo)) (fun Q' aV=>?_) (fun aa=>?_) (fun aa=>?_)
  .nofun;refine ⟨_,xj T cb,!aj.wt.isEmpty,.inr (.inr ⟨_,dT,?_⟩),?_⟩
   .cases aj.wt <;> rfl
   .cases xN:aj.wt.isEmpty with
    | true=>
     rw [xN] at aV;exact aV
    | false=>
     rw [xN,mM] at aV;exact ⟨_,Vf T cb,_,j3 T cb,_,rfl,_,JW T aq,_,q2 T mh,_,rfl,_,_,rfl,ay.of bO,_,cp (by rw [df,h6];rfl),_,rfl,_,rfl,aV⟩
  .nofun;rw [nh];have:=q H (aK.refl H) (fun z=>z);unfold rd at this;rw [aa,te] at this;exact this
  .simp only [gQ];exact cY _ _ ⟨rfl,aa,rfl⟩
 rintro fk H1 ⟨rfl,aa,rfl⟩;unfold rd at q;rw [aa] at q;nofun;refine ⟨_,Vf T cb,_,j3 T cb,_,rfl,_,OI T aq,_,q2 T mh,_,rfl,_,_,rfl,ay.of d_,_,cp (by rw [df,h6];rfl),_,rfl,_,rfl,?_⟩;by_cases bF:aj.cO < r.ai
 .rw [if_pos (decide_eq_true bF)];rw [decide_eq_true bF,lU,mM] at q;cases own with
  | true=>
   rw [if_pos rfl];rw [lU] at q;exact ⟨_,_,cb,nG _ _ _ _ _ _ _ _ (by ac_nf),cu,k,aE,aD,a4,aj,c,n,ds,rows,rfl,hi,c3,s0,g4,cR,aL,fun I s1 cM=>⟨_,rfl,q I s1 cM⟩⟩
  | false=>
   rw [if_neg fB];rw [mv] at q;exact q _ (aK.refl _) (fun z=>z)
 .rw [if_neg (by simpa using bF)];rw [decide_eq_false bF,mv,mv,mM] at q;exact q _ (aK.refl _) (fun z=>z)
noncomputable def m1 (n:Int) (ds:List bc) (rows:List ST) (s:ff) (m:List Str):ff:=if s.c_ < gG n ds rows s.lf s.bp then s else { s with bI:=some s.bp,cO:=1,wt:=s.wt.filter fun x=>!decide (x ∈ m) }
theorem afO (ys:List Str) (x:Str):q_ (gn ys) (cy x)=gn (ys.filter fun y=>decide (y ≠ x)):=by
 unfold q_ gn;rw [List.filter_map];congr 1;refine aho fun y _=>?_
 show decide ((cy y:Key) ≠ cy x)=decide (y ≠ x);exact decide_eq_decide.mpr ⟨fun z e=>z (by rw [e]),fun z e=>z (t5 e)⟩
theorem amj {ms wt:List Str} {x:Str} (ah:ms[i]? = some x):(wt.filter fun y=>!decide (y ∈ ms.take (i + 1)))=(wt.filter fun y=>!decide (y ∈ ms.take i)).filter fun y=>decide (y ≠ x):=by
 rw [re ah,List.filter_filter];refine aho fun y _=>?_
 rw [l4];simp;exact ⟨fun z=>⟨z.2,z.1⟩,fun z=>⟨z.2,z.1⟩⟩
def amK (P:Program) (w:World) (t:bK):bM:=fun vs H Q _=>∃ cu k aE aD a4 s c n ds rows r,vs=[.ref k]/\e4 t H k aE aD a4 s/\fp P w t cu aE c n ds rows/\aK cu H/\cu k=none/\cu aD=none/\cu a4=none/\s.lf < rows.length/\rows[s.bp]? = some r/\s.lf ≠ s.bp/\r.mem.length <= 12/\aJ H/\∀ I,ci k aD a4 H I->aJ I->e4 t I k aE aD a4 (m1 n ds rows s r.mem)->Q .cn I
theorem SE:cm P base T 2 t.zm t.Kj ["self"] (amK P w t):=by
 refine cv (SB T) fun qp=>?_;exists T.PN.ok M8,9
 obtain ⟨cu,k,aE,aD,a4,aj,c,n,ds,rows,r,rfl,hi,c3,s0,ju,g4,hX,tG,h6,cj,mZ,bx,q⟩:=h;obtain ⟨ep,az,cb,dT,gr⟩:=id hi;obtain ⟨iw,le,mo,cI,cG,aS,ch,ms,kvs,aq,C,bO,d_,fR,ec,gF,jH,ja⟩:=id (c3.same s0);have bY:=iN ao;refine ⟨_,(db (dU (cX lR (bw (U 0) rfl) (bU qp ao T.yf T.tc.bl T.x4 (ag (bw (U 0) rfl) (ag (bw (U 0) rfl) (ag (bw (U 0) rfl) aA)))) (cA _)) (a0 alc) eh)
   (db (fe (U 0) (bw (U 0) rfl) rfl)
   (db (fe (U 0) aO rfl)
   (a0 (fw fF rfl (e5 (bZ c8 (bw (bw (U 0) rfl) rfl) (bw (U 0) rfl))) (b7 (i:=1) M8.aI) (a0 (dS (aly (bw (U 0) rfl) (U 1) tP ⟨rfl,rfl,rfl,rfl⟩)))))))),?_⟩
 simp only [dG];refine s9 (fun au I=>I=H/\¬ aj.c_ < gG n ds rows aj.lf aj.bp/\au=[~~~k,none]) (fun f3 cY nh _ _=>?_) ?_
 .refine dh (decide (aj.c_ < gG n ds rows aj.lf aj.bp)) (fun Q' aV=>?_) (fun aa=>?_) (fun aa=>?_)
  .nofun;refine ⟨_,EX T cb,_,j3 T cb,_,Et T cb,_,yy T cb,aE,c,n,ds,rows,aj.lf,aj.bp,_,_,rfl,c3.same s0,a' tG,h6,cj,bx,fun v aF=>⟨_,rfl,_,rfl,?_⟩⟩;rw [HS (a' tG) h6 aF] at aV;exact aV
  .nofun;rw [nh];refine q H (ci.of (aK.refl H)) bx ?_;unfold m1;rw [if_pos (of_decide_eq_true aa)];exact hi
  .simp only [gQ];exact cY _ _ ⟨rfl,of_decide_eq_false aa,rfl⟩
 rintro fk H1 ⟨rfl,aa,rfl⟩;unfold m1 at q;rw [if_neg aa] at q;simp only [dG];exists (fun au I=>ci k aD a4 H1 I/\aJ I/\e4 t I k aE aD a4 { aj with bI:=some aj.bp }/\au=[~~~k,none]),2
 .nofun;refine ⟨_,yy T cb,_,_,_,cb,T.e7,T.zW,by rw [<- aW (f:=(·.1)),i'];decide,?_⟩;rw [Qp];exact cY _ _ ⟨fun b u af _ _ e=>by rw [aM af];exact e,bx.upd,⟨ep,az,aQ,by rw [aM (cx dT cb (by intro z;cases z))];exact dT,by rw [aM (cx gr cb (by intro z;cases z))];exact gr⟩,rfl⟩
 rintro cw av ⟨gc,cU,⟨_,yd,a1,a2,ef⟩,rfl⟩;subst aT;simp only [dG];exists (fun au I=>ci k aD a4 H1 I/\aJ I/\e4 t I k aE aD a4 { aj with bI:=some aj.bp,cO:=1 }/\au=[~~~k,none]),2
 .nofun;refine ⟨_,_,_,a1,T.e7,T.Dv,by rw [<- aW (f:=(·.1)),i'];decide,?_⟩;rw [Qe];exact cY _ _ ⟨fun b u af ak a5 e=>by rw [aM af];exact gc _ _ af ak a5 e,cU.upd,⟨ep,yd,aQ,by rw [aM (cx a2 a1 (by intro z;cases z))];exact a2,by rw [aM (cx ef a1 (by intro z;cases z))];exact ef⟩,rfl⟩
 rintro fI br ⟨g8,di,rC,rfl⟩;obtain ⟨_,NH,fx,fA,iE⟩:=id rC;have s3:aK cu br:=g8.wh s0 ju g4 hX;obtain ⟨O7,apg,aoo,ao1,aoV,jf,anL,qT,anF,v8,_,_,_,Rl,_⟩:=id c3;have f1:=s3 _ _ v8;have e0:=Rl.same s3;have Qk:(rows.map (·.mem))[aj.bp]? = some r.mem:=by rw [df,h6];rfl
 have wi:aj.bp < qT.length:=by rw [e0.ln];exact (b6.mp Qk).1
 have hm:=a' wi;have Tx:=Rl.al _ _ _ hm Qk;have em:=s3 _ _ Tx;subst aT;nofun;refine ⟨_,j3 T fx,_,rfl,_,Eb T f1,_,yy T fx,_,rfl,_,_,rfl,ay.of e0.at_,_,cp (by rw [df,hm];rfl),_,rfl,⟨_,ay.of em⟩,?_⟩;refine dZ.list (xs:=aY r.mem) (fun i σ I=>ci k aD a4 H1 I/\aJ I/\e4 t I k aE aD a4 { aj with bI:=some aj.bp,cO:=1,wt:=aj.wt.filter fun y=>!decide (y ∈ r.mem.take i) }/\∃ y,σ=[~~~k,y]) ?_ ?_ ?_ ?_
 .refine ⟨g8,di,?_,_,rfl⟩;rw [show (aj.wt.filter fun y=>!decide (y ∈ r.mem.take 0))=aj.wt by simp];exact rC
 .rintro i σ I ai a_;ac_rfl
  obtain ⟨dv,_,_,_⟩:=a_;subst aT;exact ay.of (dv.wh s0 ju g4 hX _ _ Tx)
 .rintro i v σ I aF a_;ac_rfl
  obtain ⟨dv,dc,⟨_,JL,bh,b4,pU⟩,y,rfl⟩:=a_;subst aT;unfold aY at aF;obtain ⟨x,ah,rfl⟩:=b8 aF;have Q9:=amj (wt:=aj.wt) ah;nofun;refine ⟨_,xj T bh,_,rfl,.inl ⟨_,.inl b4⟩,_,b4,cy x,rfl,fun v aF=>?_,fun aF=>?_⟩
  .refine ⟨fun b u af ak a5 e=>by rw [aM ak];exact dv _ _ af ak a5 e,dc.upd,?_,_,rfl⟩;refine ⟨ep,JL,by rw [aM (cx bh b4 (by intro z;cases z))];exact bh,?_,by rw [aM (eb ep)];exact pU⟩;rw [aQ,afO,<- Q9]
  .refine ⟨dv,dc,?_,_,rfl⟩;have H4:x ∉ aj.wt.filter fun y=>!decide (y ∈ r.mem.take i):=fun z=>by
    have:=aaA (aj.wt.filter fun y=>!decide (y ∈ r.mem.take i)) x;rw [aF,decide_eq_true z] at this;cases this
   have mw:(aj.wt.filter fun y=>!decide (y ∈ r.mem.take i)).filter (fun y=>decide (y ≠ x))=aj.wt.filter fun y=>!decide (y ∈ r.mem.take i):=List.filter_eq_self.mpr fun y a6=>decide_eq_true (show y ≠ x from fun z=>H4 (by rw [<- z];exact a6))
   rw [Q9,mw];exact ⟨ep,JL,bh,b4,pU⟩
 .rintro σ I a_;ac_rfl
  obtain ⟨dv,dc,wC,y,rfl⟩:=a_;subst aT;rw [fK,il] at wC;nofun;exact q I dv dc wC
noncomputable def p5 (s:ff) (i j:Nat) (cG:Str):ff:={ s with bI:=none,lf:=i,bp:=j,c_:=0,pt:=if cG=dd then (j:Int) else s.pt,po:=if cG=dd then s.po else (j:Int) }
def ahn (P:Program) (w:World) (t:bK):bM:=fun vs H Q _=>∃ cu k aE aD a4 s c n ds rows,∃ i j:Nat,∃ r,vs=[.ref k,.int (j:Nat)]/\e4 t H k aE aD a4 s/\s.bI=some i/\fp P w t cu aE c n ds rows/\aK cu H/\cu k=none/\cu aD=none/\cu a4=none/\i < rows.length/\rows[j]? = some r/\i ≠ j/\r.mem.length <= 12/\(c6 ds r=dd\/c6 ds r=h3)/\aJ H/\∀ I,ci k aD a4 H I->aJ I->e4 t I k aE aD a4 (m1 n ds rows (p5 s i j (c6 ds r)) r.mem)->Q .cn I
theorem ajY:cm P base T 3 t.zG t.G8 Cz (ahn P w t):=by
 refine cv (SE T) fun Iv=>?_;exists T.QL.ok ahz,9
 obtain ⟨cu,k,aE,aD,a4,aj,c,n,ds,rows,i,j,r,rfl,hi,gM,c3,s0,ju,g4,hX,i6,gH,kS,mZ,rR,bx,q⟩:=h;obtain ⟨ep,az,cb,dT,gr⟩:=id hi;obtain ⟨iw,le,mo,cI,cG,aS,ch,ms,kvs,aq,C,bO,d_,fR,ec,gF,jH,ja⟩:=id (c3.same s0);have bY:=iN ao;refine ⟨_,(db (vv bY (bw (U 0) rfl) (bZ c8 (bw (bw (U 0) rfl) rfl) (U 1)) (U 1) rfl)
   (db (fe (U 0) (bw (U 0) rfl) rfl)
   (db (fe (U 0) (U 1) rfl)
   (db (fe (U 0) aO rfl)
   (db (fe (U 0) tP rfl)
   (a0 (dS (kp (U 0) T.e7 T.Wf Iv ao T.Oo .nil c2)))))))),?_⟩
 exists (fun au I=>ci k aD a4 H I/\aJ I/\e4 t I k aE aD a4 { aj with pt:=if c6 ds r=dd then (j:Int) else aj.pt,po:=if c6 ds r=dd then aj.po else (j:Int) }/\au=[~~~k,some (.int (j:Nat))]),5
 .nofun;refine ⟨_,Ib T cb,_,j3 T cb,_,rfl,_,n8 T aq,_,rfl,_,ay.of ec,_,cp (ng (by rw [df,gH];rfl)),_,rfl,_,l5.k (k:=cy (c6 ds r)) gr (gD (show (mO aj.pt aj.po).length <= 2 from bP 2) (by decide)),cY _ _ ⟨fun b u _ _ a5 e=>by rw [aM a5];exact e,bx.upd,⟨ep,az,by rw [aM (cx cb gr (by intro z;cases z))];exact cb,by rw [aM ep];exact dT,by rw [aQ,Wv rR]⟩,rfl⟩⟩
 rintro fk H1 ⟨b1,cM,⟨_,dX,a1,fx,bh⟩,rfl⟩;have UD:=a1;subst aT;rw [show ({ aj with pt:=if c6 ds r=dd then (j:Int) else aj.pt,po:=if c6 ds r=dd then aj.po else (j:Int) }:ff).bI=some i from gM] at UD;exists (fun au I=>ci k aD a4 H I/\aJ I/\e4 t I k aE aD a4 { aj with pt:=if c6 ds r=dd then (j:Int) else aj.pt,po:=if c6 ds r=dd then aj.po else (j:Int),lf:=i }/\au=[~~~k,some (.int (j:Nat))]),5
 .nofun;refine ⟨_,q2 T UD,_,_,_,a1,T.e7,T.Ll,by rw [<- aW (f:=(·.1)),i'];decide,?_⟩;rw [show qd (some i)=V.int (i:Nat) from rfl,ajK];exact cY _ _ ⟨fun b u af ak a5 e=>by rw [aM af];exact b1 _ _ af ak a5 e,cM.upd,⟨ep,dX,aQ,by rw [aM (cx fx a1 (by intro z;cases z))];exact fx,by rw [aM (cx bh a1 (by intro z;cases z))];exact bh⟩,rfl⟩
 rintro cw av ⟨gc,cU,⟨_,el,a2,fA,b4⟩,rfl⟩;subst aT;exists (fun au I=>ci k aD a4 H I/\aJ I/\e4 t I k aE aD a4 { aj with pt:=if c6 ds r=dd then (j:Int) else aj.pt,po:=if c6 ds r=dd then aj.po else (j:Int),lf:=i,bp:=j }/\au=[~~~k,some (.int (j:Nat))]),5
 .nofun;refine ⟨_,_,_,a2,T.e7,T.Jv,by rw [<- aW (f:=(·.1)),i'];decide,?_⟩;rw [aeY];exact cY _ _ ⟨fun b u af ak a5 e=>by rw [aM af];exact gc _ _ af ak a5 e,cU.upd,⟨ep,el,aQ,by rw [aM (cx fA a2 (by intro z;cases z))];exact fA,by rw [aM (cx b4 a2 (by intro z;cases z))];exact b4⟩,rfl⟩
 rintro fI br ⟨g8,di,⟨_,amO,ef,iE,pU⟩,rfl⟩;subst aT;exists (fun au I=>ci k aD a4 H I/\aJ I/\e4 t I k aE aD a4 { aj with pt:=if c6 ds r=dd then (j:Int) else aj.pt,po:=if c6 ds r=dd then aj.po else (j:Int),lf:=i,bp:=j,c_:=0 }/\au=[~~~k,some (.int (j:Nat))]),5
 .nofun;refine ⟨_,_,_,ef,T.e7,T.C7,by rw [<- aW (f:=(·.1)),i'];decide,?_⟩;rw [Qu];exact cY _ _ ⟨fun b u af ak a5 e=>by rw [aM af];exact g8 _ _ af ak a5 e,di.upd,⟨ep,amO,aQ,by rw [aM (cx iE ef (by intro z;cases z))];exact iE,by rw [aM (cx pU ef (by intro z;cases z))];exact pU⟩,rfl⟩
 rintro jE cJ ⟨dv,dc,⟨_,Ds,nQ,ki,yr⟩,rfl⟩;subst aT;exists (fun au I=>ci k aD a4 H I/\aJ I/\e4 t I k aE aD a4 { aj with pt:=if c6 ds r=dd then (j:Int) else aj.pt,po:=if c6 ds r=dd then aj.po else (j:Int),lf:=i,bp:=j,c_:=0,bI:=none }/\au=[~~~k,some (.int (j:Nat))]),5
 .nofun;refine ⟨_,_,_,nQ,T.e7,T.zW,by rw [<- aW (f:=(·.1)),i'];decide,?_⟩;rw [Qp];exact cY _ _ ⟨fun b u af ak a5 e=>by rw [aM af];exact dv _ _ af ak a5 e,dc.upd,⟨ep,Ds,aQ,by rw [aM (cx ki nQ (by intro z;cases z))];exact ki,by rw [aM (cx yr nQ (by intro z;cases z))];exact yr⟩,rfl⟩
 rintro qY ck ⟨d1,ei,Eh,rfl⟩;obtain ⟨_,aol,Zp,_,_⟩:=id Eh;subst aT;nofun;exact ⟨_,_,Zp,nG _ _ _ _ _ _ _ _ (by ac_nf),cu,k,aE,aD,a4,_,c,n,ds,rows,r,rfl,Eh,c3,d1.wh s0 ju g4 hX,ju,g4,hX,i6,gH,kS,mZ,ei,fun I eu dV sR=>q I (d1.trans eu) dV sR⟩
noncomputable abbrev ajP:Str:=ae "Keeper.pick" ++ ae ".<locals>." ++ ae "<lambda>"
theorem amT:vn "number" "many" "last" (Ss (VL va)):=⟨rfl,rfl,rfl,by ac_nf,rfl,rfl,rfl,by ac_nf,by ac_nf⟩
noncomputable abbrev nk (bL:Addr) (H:aw):Prop:=Tab H bL (OS (VL va)) ajP
noncomputable def b_ (ds:List bc) (rows:List ST) (j:Nat):Str:=((rows[j]?).map (c6 ds)).getD (ae "")
noncomputable def t4 (rows:List ST) (x:Str):Nat:=(jS rows x).getD 0
noncomputable def kL (rows:List ST) (s:ff):List Nat:=s.wt.map (t4 rows)
noncomputable def mn (ds:List bc) (rows:List ST) (s:ff) (i:Nat):List Nat:=(kL rows s).filter fun j=>!decide (b_ ds rows j=b_ ds rows i)
noncomputable def hv (ds:List bc) (rows:List ST) (s:ff) (i:Nat):List Nat:=if (mn ds rows s i).isEmpty then kL rows s else mn ds rows s i
noncomputable def rI (ds:List bc) (rows:List ST) (s:ff) (ch:List Nat):Int:=if b_ ds rows (ch.headD 0)=dd then s.pt else s.po
noncomputable def nc (last many m:Int):Int:=(m - last - 1) % many
def DB (ds:List bc) (rows:List ST) (s:ff) (i j:Nat):Prop:=j ∈ hv ds rows s i/\∀ er ∈ hv ds rows s i,nc (rI ds rows s (hv ds rows s i)) rows.length j <= nc (rI ds rows s (hv ds rows s i)) rows.length er
def ah0 (P:Program) (w:World) (t:bK) (bL:Addr):bM:=fun vs H Q _=>∃ cu k aE aD a4 s c n ds rows,∃ i:Nat,vs=[.ref k]/\e4 t H k aE aD a4 s/\s.bI=some i/\i < rows.length/\fp P w t cu aE c n ds rows/\aK cu H/\cu aD=none/\(∀ x ∈ s.wt,told rows x=true)/\s.wt ≠ []/\s.wt.length <= 12/\(∀ r ∈ rows,c6 ds r=dd\/c6 ds r=h3)/\nk bL H/\aJ H /\
 ∀ (j:Nat) I,Do bL H I->aJ I->nk bL I->DB ds rows s i j->Q (.int j) I
theorem ah7 {rows:List ST} {x:Str} (h:told rows x=true):t4 rows x < rows.length:=by
 obtain ⟨j,r,aG,aC,jq,_⟩:=nM h;unfold t4;rw [aC];exact (b6.mp jq).1
theorem xz {rows:List ST} (h:∀ x ∈ s.wt,told rows x=true):∀ j ∈ kL rows s,j < rows.length:=fun j aG=>by
 obtain ⟨x,ah,rfl⟩:=cc.mp aG;exact ah7 (h x ah)
theorem CH {rows:List ST} (h:∀ x ∈ s.wt,told rows x=true):∀ j ∈ hv ds rows s i,j < rows.length:=fun j aG=>by
 unfold hv at aG;split at aG
 .exact xz h j aG
 .exact xz h j (jc.mp aG).1
theorem Ql {rows:List ST} (h:s.wt ≠ []):hv ds rows s i ≠ []:=by
 unfold hv;split
 .unfold kL;simpa using h
 .rename_i af;simpa using af
theorem r_ {rows:List ST} (h:j < rows.length):(rows.map (c6 ds))[j]? = some (b_ ds rows j):=by
 unfold b_;rw [df,a' h];rfl
noncomputable def bB (lF:List Nat):List V:=lF.map fun j=>V.int (j:Nat)
theorem V6 (lF:List Nat):bB lF=n9 V.int (lF.map fun j=>((j:Nat):Int)):=by
 unfold bB;rw [qt];rfl
theorem As (p:Nat->Bool):∀ xs:List Nat,((xs.map fun x=>if p x=true then some (V.int (x:Nat)) else none).flatMap uE)=bB (xs.filter p)
 | []=>rfl
 | x :: xs=>by
  rw [e8,xa,As p xs];cases h:p x <;> simp [bB,h]
theorem XQ (dg:mf base t.Re bL) (hB:base.BuiltinsAt mg bL):cm P base T 2 t.Ea t.Cm ["self"] (ah0 P w t bL):=by
 have GS:=T.Xn;refine T.NX.U7 sC (fun vs H Q E h=>?_) (fun fl jh A outer s H vs Q E ao h=>?_)
 .obtain ⟨cu,k,aE,aD,a4,aj,c,n,ds,rows,i,rfl,_⟩:=h;rfl
 obtain ⟨cu,k,aE,aD,a4,aj,c,n,ds,rows,i,rfl,⟨ep,az,cb,dT,gr⟩,gM,i6,c3,s0,g4,cR,cj,aL,rR,bG,bx,q⟩:=h;obtain ⟨iw,le,mo,cI,cG,aS,ch,ms,kvs,aq,C,bO,d_,fR,ec,gF,jH,ja⟩:=id c3;have bY:=iN ao;refine ⟨_,(db (aeq (Pi (i:=1) sC.aI rfl (oQ rfl) rfl (Wt (bw (U 0) rfl)) (fO (sc:=bt va) rfl (by ac_nf)) (N:=DS) (sel:=[none,some 0]) (fT (M:=Jw) (by ac_nf)) (e3.of (fun _ _ _ _=>(b7 (i:=0) (d3 (N:=DS) (by ac_nf) rfl))) (fun _ _ _ _=>⟨_,hn,by walk_at "B"⟩) (fun _ _ _ _=>⟨_,(oZ bY (bw (bw (U 1) rfl) rfl) (U 0) (fun _ _=>rfl)),by walk_at "B"⟩)) rfl))
   (db (n5 (i:=2) sC.aI rfl (mb rfl) (bZ c8 (bw (bw (U 0) rfl) rfl) (bw (U 0) rfl)))
   (db (Pi (i:=3) sC.aI rfl (oQ rfl) rfl (e5 (U 1)) (fO (sc:=bt va) rfl (by ac_nf)) (N:=["number","self","same"]) (sel:=[none,some 0,some 2]) (fT (M:=Jw) (by ac_nf)) (e3.of (fun _ _ _ _=>(b7 (i:=0) (d3 (N:=["number","self","same"]) (by ac_nf) rfl))) (fun _ _ _ _=>⟨_,(sD (cX pM (bZ c8 (bw (bw (U 1) rfl) rfl) (U 0)) (U 2) (cA _))),by walk_at "B"⟩) (fun _ _ _ _=>⟨_,(U 0),by walk_at "B"⟩)) rfl)
   (db (bT (i:=4) sC.aI (tT (Cv (U 3) (fun _=>rfl)) (U 3) (U 1)))
   (db (n5 (i:=5) sC.aI rfl (mb rfl) (oZ bY (bw (U 0) rfl) (bZ c8 (bw (bw (U 0) rfl) rfl) (bZ c8 (U 4) aO)) (fun _ _=>rfl)))
   (db (n5 (i:=6) sC.aI rfl (mb rfl) (bw (bw (U 0) rfl) rfl))
   (a0 (b' (Y4 (pr := "number") (y := "many") (z := "last") (i1:=6) (i2:=5) rfl rfl T.ZG (ag (U 4) aA) ⟨jh.symm.trans GS,dg,hB⟩ ao amT rfl rfl rfl rfl rfl rfl rfl rfl (fun _ _ _ _=>rfl) (fun _ _ _ _=>⟨_,(bE iH (bE k' (bE k' (U 0) (U 2)) aO) (U 1)),by first | rfl | (dsimp only [pW];done) | (dsimp only [pW];exact rfl)⟩)))))))))),?_⟩
 simp only [dG];exists (fun au I=>aK H I/\aJ I/\∃ wp,H wp=none/\I wp=some (.lst (bB (kL rows aj)))/\au=[~~~k,~~~wp,none,none,none,none,none]),2
 .nofun;refine ⟨aD,_,dT,_,xj T cb,_,rfl,_,dT,fun o=>?_⟩;have gw:(gn aj.wt).length=aj.wt.length:=by unfold gn;rw [aW]
  have pf:aK cu (upd H aD (.e2 o (.bW (gn aj.wt)))):=fun b u e=>by rw [aM (dm e g4)];exact s0 _ _ e
  have Bz:(upd H aD (.e2 o (.bW (gn aj.wt)))) k=some (.ins t.dp az (fm aE (qd aj.bI) aj.cO aj.lf aj.bp aj.c_ aD a4)):=by rw [aM (cx cb dT (by intro z;cases z))];exact cb
  have sF:(upd H aD (.e2 o (.bW (gn aj.wt)))) aD=some (.e2 o (.bW (gn aj.wt))):=aQ;refine c1.Ub (zs:=bB (kL rows aj)) sF (by rw [gw];exact cL aL (by decide)) (by unfold bB kL;rw [aW,aW,gw]) (fun jF Yn v z N aC aN bj=>?_) (fun p ar=>?_)
  .unfold gn at aC;obtain ⟨x,ah,ex⟩:=b8 aC;cases ex;unfold bB kL at aN;obtain ⟨er,aa,rfl⟩:=b8 aN;obtain ⟨eu,dW,rfl⟩:=b8 aa;rw [ah] at dW;cases dW;obtain ⟨j,r,aG,eH,jq,_⟩:=nM (cR x (b9 ah));have a8:=ij.k (k:=cy x) (pf _ _ gF);rw [aG] at a8;have he:t4 rows x=j:=by unfold t4;rw [eH];rfl
   rw [he] at bj;nofun;exact ⟨Sub.name,_,j3 T Bz,_,rfl,_,xp T (pf _ _ aq),_,rfl,_,a8,bj⟩
  .have j2:p ≠ aD:=fun z=>by rw [z,sF] at ar;cases ar
   have By:H p=none:=by rw [aM j2] at ar;exact ar
   refine ⟨o,by rw [aM (eb j2)];exact sF,cY _ _ ⟨fun b u e=>?_,bx.upd.upd.upd,p,By,by rw [aM j2];exact aQ,rfl⟩⟩;by_cases bF:b=aD
   .subst bF;rw [dT] at e;cases e;exact aQ
   .rw [aM bF,aM (dm e By),aM bF];exact e
 rintro fk H1 ⟨s1,cM,wp,aoe,dC,rfl⟩;subst aT;simp only [dG];exists (fun au I=>I=H1/\au=[~~~k,~~~wp,some (.str (b_ ds rows i)),none,none,none,none]),2
 .nofun;have mh:=s1 _ _ cb;rw [gM] at mh;exact ⟨_,j3 T mh,_,rfl,_,n8 T (s1 _ _ (s0 _ _ aq)),_,q2 T mh,_,rfl,_,_,rfl,ay.of (s1 _ _ (s0 _ _ ec)),_,cp (ng (r_ i6)),cY _ _ ⟨rfl,rfl⟩⟩
 rintro cw av ⟨rfl,rfl⟩;subst aT;simp only [dG];exists (fun au I=>aK av I/\aJ I/\∃ op,av op=none/\I op=some (.lst (bB (mn ds rows aj i)))/\au=[~~~k,~~~wp,some (.str (b_ ds rows i)),~~~op,none,none,none]),2
 .nofun;refine ⟨⟨_,ay.of dC⟩,?_⟩;refine c1.u1 (xs:=bB (kL rows aj)) (ss:=(kL rows aj).map fun j=>if (!decide (b_ ds rows j=b_ ds rows i))=true then some (V.int (j:Nat)) else none) (ay.of dC) (by unfold bB kL;rw [aW,aW];exact cL aL (by decide)) (by unfold bB;rw [aW,aW]) (fun jF v o ys N aF aS bj=>?_) (fun l xu=>?_)
  .unfold bB at aF;obtain ⟨j,aG,rfl⟩:=b8 aF;obtain ⟨er,hx,rfl⟩:=b8 aS;rw [aG] at hx;cases hx;have gv:=xz cR j (b9 aG);nofun;refine ⟨Sub.name,_,j3 T (s1 _ _ cb),_,rfl,_,n8 T (s1 _ _ (s0 _ _ aq)),_,rfl,_,ay.of (s1 _ _ (s0 _ _ ec)),_,cp (ng (r_ gv)),rfl,?_⟩;by_cases bF:b_ ds rows j=b_ ds rows i
   .rw [if_neg (by rw [bF,decide_eq_true rfl];exact fB)];simp [bF] at bj;exact bj
   .rw [if_pos (by rw [decide_eq_false (fun z=>bF (by injection z))];rfl)];simp [bF] at bj;exact bj
  .rw [As];exact cY _ _ ⟨ba xu,cM.upd,l,xu,aQ,rfl⟩
 rintro fI br ⟨s3,di,op,anH,Nr,rfl⟩;have hY:=s3 _ _ dC;subst aT;simp only [dG];exists (fun au I=>I=br/\∃ uD,br uD=some (.lst (bB (hv ds rows aj i)))/\au=[~~~k,~~~wp,some (.str (b_ ds rows i)),~~~op,~~~uD,none,none]),2
 .nofun;refine ⟨!(mn ds rows aj i).isEmpty,.inl ⟨_,ay.of Nr,?_⟩,?_⟩
  .unfold bB;cases mn ds rows aj i <;> rfl
  .cases Po:(mn ds rows aj i).isEmpty with
   | true=>
    rw [if_neg (by rw [ac3];exact fB)];exact cY _ _ ⟨rfl,wp,by unfold hv;rw [if_pos Po];exact hY,rfl⟩
   | false=>
    rw [if_pos (by rfl)];exact cY _ _ ⟨rfl,op,by unfold hv;rw [if_neg (by rw [Po];exact fB)];exact Nr,rfl⟩
 rintro jE cJ ⟨rfl,uD,yr,rfl⟩;subst aT;simp only [dG];exists (fun au I=>I=cJ/\au=[~~~k,~~~wp,some (.str (b_ ds rows i)),~~~op,~~~uD,some (.int (rI ds rows aj (hv ds rows aj i))),none]),2
 .nofun;have Pn:=s3 _ _ (s1 _ _ cb);have pX:∀ {b u},cu b=some u->cJ b=some u:=fun e=>s3 _ _ (s1 _ _ (s0 _ _ e))
  obtain ⟨ya,lC,gT⟩:=sj (Ql (ds:=ds) (rows:=rows) (i:=i) cj);have qB:ya < rows.length:=CH cR ya (by rw [gT];exact .head _);have ZF:=r_ (ds:=ds) qB;have aaX:b_ ds rows ya=dd\/b_ ds rows ya=h3:=by
   unfold b_;rw [a' qB];exact rR _ (g6 qB)
  have ug:=ac8 (a:=aj.pt) (b:=aj.po) aaX;have a8:=ij.k (k:=cy (b_ ds rows ya)) (s3 _ _ (s1 _ _ gr));rw [ug] at a8;refine ⟨_,Ib T Pn,_,j3 T Pn,_,rfl,_,n8 T (pX aq),_,ay.of yr,_,cp (j:=0) (by rw [gT];rfl),_,rfl,_,_,rfl,ay.of (pX ec),_,cp (ng ZF),_,rfl,_,a8,cY _ _ ⟨rfl,?_⟩⟩;unfold rI;rw [gT];rfl
 rintro qY ck ⟨rfl,rfl⟩;subst aT;simp only [dG];exists (fun au I=>I=ck/\au=[~~~k,~~~wp,some (.str (b_ ds rows i)),~~~op,~~~uD,some (.int (rI ds rows aj (hv ds rows aj i))),some (.int rows.length)]),2
 .nofun;exact ⟨_,j3 T (s3 _ _ (s1 _ _ cb)),_,rfl,_,px T (s3 _ _ (s1 _ _ (s0 _ _ aq))),cY _ _ ⟨rfl,rfl⟩⟩
 rintro mQ gg ⟨rfl,rfl⟩;subst aT;nofun;have abM:nk bL gg:=(bG.step s1).step s3;refine ⟨(hv ds rows aj i).map fun j=>((j:Nat):Int),ay.of (by rw [<- V6];exact yr),by simpa using Ql (ds:=ds) (rows:=rows) (i:=i) cj,abM,nc (rI ds rows aj (hv ds rows aj i)) rows.length,fun av bq Zj qc=>⟨fun n aX=>⟨by omega,rfl⟩,fun jF m hm aa=>?_⟩⟩;rw [df] at hm;obtain ⟨j,aG,rfl⟩:=yR.mp hm;refine q j av (fun b u ee e=>bq _ _ ee (s3 _ _ (s1 _ _ e))) (Zj di) qc ⟨b9 aG,fun er hx=>?_⟩;obtain ⟨x,ah,ex⟩:=Dg hx;exact (aa x (er:Int) (by rw [df,a' ah,ex];rfl)).1
def hD (H I:aw):Prop:=∀ b o,(∀ ps,o ≠ fX.hC ps)->H b=some o->I b=some o
theorem zr (bG:Tab H bL pos q) (s:Do bL H I):hD H I:=fun b o n e=>s b o (bG.ne e n) e
theorem ahT (s:aK H I):hD H I:=fun b o _ e=>s b o e
theorem hD.trans (a:hD H H1) (b:hD H1 av):hD H av:=fun c o n h=>b c o n (a c o n h)
theorem hD.lst (s:hD H I) (e:H b=some (.lst xs)):I b=some (.lst xs):=s b _ (fun _ z=>by cases z) e
theorem hD.tup (s:hD H I) (e:H b=some (.tup xs)):I b=some (.tup xs):=s b _ (fun _ z=>by cases z) e
theorem hD.ins (s:hD H I) {a3:List (Str × V)} (e:H b=some (.ins C az a3)):I b=some (.ins C az a3):=s b _ (fun _ z=>by cases z) e
theorem hD.bW (s:hD H I) (e:H b=some (.bW kvs)):I b=some (.bW kvs):=s b _ (fun _ z=>by cases z) e
theorem Qo {K:bk} {ns:List Int} (S:Sc K a ns H) (s:hD H I) (bx:aJ I):Sc K a ns I:=by
 refine ⟨?_,bx⟩;rcases S.xU with ⟨o,h⟩ | h
 .exact .inl ⟨o,s _ _ (fun _ z=>by cases z) h⟩
 .exact .inr h
theorem fU.ni {t:bK} (h:fU t H c n ds) (s:hD H I):fU t I c n ds:=by
 obtain ⟨h0,az,wl,aI,aq,⟨as,dC,ea,al⟩,bO⟩:=h;refine ⟨h0,az,wl,aI,s.ins aq,⟨as,s.lst dC,ea,fun i b d aa hd=>?_⟩,s.bW bO⟩;obtain ⟨k,ako,eS⟩:=al i b d aa hd;exact ⟨k,ako,s.ins eS⟩
theorem fp.ni {w:World} {t:bK} {rows:List ST} (h:fp P w t H a c n ds rows) (s:hD H I):fp P w t I a c n ds rows:=by
 obtain ⟨az,le,mo,cI,cG,aS,ch,ms,kvs,aq,aH,bO,d_,fR,ec,gF,⟨o,aU,ct,xs,r⟩,ja⟩:=h;exact ⟨az,le,mo,cI,cG,aS,ch,ms,kvs,s.ins aq,aH.ni s,s.lst bO,s.lst d_,⟨s.lst fR.at_,fR.ln,fun i m x a b=>s.lst (fR.al i m x a b)⟩,s.lst ec,s.bW gF,
  ⟨o,aU,ct,xs,s _ _ (fun _ z=>by cases z) r.at_,r.ex,r.dat,r.ent,r.aI,Paired.q6 r.bC fun p q z=>⟨z.1,s.tup z.2.1,z.2.2⟩,r.nU,r.ns⟩,ja⟩
noncomputable def j6 (H:aw):aw:=fun b=>match H b with
 | some (.hC _)=>none
 | o=>o
theorem Yg (bG:Tab H bL pos q):j6 H bL=none:=by
 obtain ⟨ps,e,_⟩:=bG;unfold j6;rw [e]
theorem bv (h:H b=none):j6 H b=none:=by
 unfold j6;rw [h]
theorem Ox (H:aw):aK (j6 H) H:=fun b u e=>by
 unfold j6 at e;split at e
 .cases e
 .exact e
set_option tactic.hygienic true in
theorem En (H:aw):hD H (j6 H):=fun b u n e=>by
 unfold j6;split
 .rename_i ps h;rw [h] at e;cases e;exact absurd rfl (n ps)
 .exact e
structure nK (ds:List bc) (rows:List ST):Prop where
 c5:∀ d ∈ ds,told rows d.name=true
 gs:∀ r ∈ rows,r.mem.length <= 12
 cG:∀ r ∈ rows,c6 ds r=dd\/c6 ds r=h3
 dl:ds.length <= 12
structure jA (ds:List bc) (rows:List ST) (s:ff):Prop where
 wn:s.wt.Nodup
 aD:∀ x ∈ s.wt,x ∈ ds.map (·.name)
 bI:∀ i,s.bI=some i->i < rows.length/\∀ x ∈ s.wt,jS rows x ≠ some i
 ch:s.bI=none->s.lf < rows.length/\s.bp < rows.length/\s.lf ≠ s.bp
theorem jA.told {rows:List ST} (k:jA ds rows s) (R:nK ds rows):∀ x ∈ s.wt,told rows x=true:=fun x ah=>by
 obtain ⟨d,hd,rfl⟩:=cc.mp (k.aD x ah);exact R.c5 d hd
theorem jA.len {rows:List ST} (k:jA ds rows s) (R:nK ds rows):s.wt.length <= 12:=by
 have:=k.wn.length_le_of_subset (l₂:=ds.map (·.name)) fun x ah=>k.aD x ah
 rw [aW] at this;have:=R.dl;omega
def vP (n:Int) (ds:List bc) (rows:List ST) (s:ff) (own:Bool) (aj:ff):Prop:=
 (s.bI=none/\∃ r,rows[s.bp]? = some r/\aj=m1 n ds rows { s with c_:=s.c_ + 1 } r.mem) \/
 (∃ i r,s.bI=some i/\rows[i]? = some r/\rd ds rows s r own=true/\aj = { s with cO:=s.cO + 1 }) \/
 (∃ i r j uM,s.bI=some i/\rows[i]? = some r/\rd ds rows s r own=false/\DB ds rows s i j/\rows[j]? = some uM/\aj=m1 n ds rows (p5 s i j (c6 ds uM)) uM.mem)
theorem K8 {rows:List ST} (cR:∀ x ∈ s.wt,told rows x=true) (h:j ∈ hv ds rows s i):∃ x ∈ s.wt,jS rows x=some j:=by
 have hm:j ∈ kL rows s:=by
  unfold hv at h;split at h
  .exact h
  .exact (jc.mp h).1
 obtain ⟨x,ah,rfl⟩:=cc.mp hm;obtain ⟨j,r,aG,aC,jq,_⟩:=nM (cR x ah);refine ⟨x,ah,?_⟩;unfold t4;rw [aC];rfl
theorem TL {rows:List ST} (R:nK ds rows) (wn:s.wt.Nodup) (aD:∀ x ∈ s.wt,x ∈ ds.map (·.name)) (ax:s.bI=none) (aL:s.lf < rows.length) (ao:rows[s.bp]? = some r) (cj:s.lf ≠ s.bp):jA ds rows (m1 n ds rows s r.mem):=by
 have k6:s.bp < rows.length:=(b6.mp ao).1;unfold m1;split
 .exact ⟨wn,aD,fun i h=>(by rw [ax] at h;cases h),fun _=>⟨aL,k6,cj⟩⟩
 .refine ⟨wn.filter _,fun x ah=>aD x (jc.mp ah).1,fun i h=>?_,fun h=>by cases h⟩;cases h;refine ⟨k6,fun x ah e=>?_⟩;have dW:=jc.mp ah;obtain ⟨d,hd,m6⟩:=cc.mp (aD x dW.1);obtain ⟨j,ej,aG,aC,jq,hm⟩:=nM (R.c5 d hd);rw [m6] at aC hm;rw [aC] at e;cases e;rw [ao] at jq;cases jq;have:=dW.2;simp [hm] at this
theorem WZ {rows:List ST} {own:Bool} (R:nK ds rows) (k:jA ds rows s) (h:vP n ds rows s own aj):jA ds rows aj:=by
 rcases h with ⟨af,r,ao,rfl⟩ | ⟨i,r,af,ao,_,rfl⟩ | ⟨i,r,j,uM,af,ao,_,ar,aG,rfl⟩
 .obtain ⟨a,b,c⟩:=k.ch af;exact TL (s:={ s with c_:=s.c_ + 1 }) R k.wn k.aD af a ao c
 .exact ⟨k.wn,k.aD,k.bI,k.ch⟩
 .obtain ⟨a,b⟩:=k.bI i af;obtain ⟨x,ah,aC⟩:=K8 (k.told R) ar.1;refine TL (s:=p5 s i j (c6 ds uM)) R k.wn k.aD rfl a aG (fun e=>?_);have e:i=j:=e;subst e;exact b x ah aC
def Es (k aD a4 bL:Addr) (H I:aw):Prop:=∀ b u,b ≠ k->b ≠ aD->b ≠ a4->b ≠ bL->H b=some u->I b=some u
theorem y' {t:bK} {k aE aD a4 bL:Addr} (hi:e4 t H k aE aD a4 s) (bG:Tab H bL pos q) (x:ci k aD a4 H I):Tab I bL pos q:=by
 obtain ⟨_,az,cb,dT,gr⟩:=hi;obtain ⟨ps,e,d⟩:=bG;refine ⟨ps,x _ _ (cx e cb (by intro z;cases z)) (cx e dT (by intro z;cases z)) (cx e gr (by intro z;cases z)) e,?_⟩;rcases d with d | ⟨c',d,bH⟩
 .exact .inl d
 .exact .inr ⟨c',d,x _ _ (cx bH cb (by intro z;cases z)) (cx bH dT (by intro z;cases z)) (cx bH gr (by intro z;cases z)) bH⟩
theorem e4.ni {t:bK} {k aE aD a4:Addr} (h:e4 t H k aE aD a4 s) (x:hD H I):e4 t I k aE aD a4 s:=by
 obtain ⟨h0,az,cb,dT,gr⟩:=h;exact ⟨h0,az,x.ins cb,x.bW dT,x.bW gr⟩
def Zs (P:Program) (w:World) (t:bK) (bL:Addr):bM:=fun vs H Q _=>∃ cu k aE aD a4 s c n ds rows own,vs=[.ref k,.bo own]/\e4 t H k aE aD a4 s/\fp P w t cu aE c n ds rows/\aK cu H/\cu k=none/\cu aD=none/\cu a4=none/\cu bL=none/\nK ds rows/\jA ds rows s/\nk bL H/\aJ H /\
 ∀ aj I,vP n ds rows s own aj->Es k aD a4 bL H I->aJ I->nk bL I->e4 t I k aE aD a4 aj->Q .cn I
theorem Yv (dg:mf base t.Re bL) (hB:base.BuiltinsAt mg bL):cm P base T 4 t.Bj t.FP rB (Zs P w t bL):=by
 refine cv (SE T) fun Iv=>cv (agw T) fun adq=>cv (ajY T) fun adR=>cv (XQ T dg hB) fun ajd=>?_;exists T.zn.ok Xj,9
 obtain ⟨cu,k,aE,aD,a4,aj,c,n,ds,rows,own,rfl,hi,c3,s0,ju,g4,hX,JX,R,l1,bG,bx,q⟩:=h;obtain ⟨ep,az,cb,dT,gr⟩:=id hi;have bY:=iN ao;refine ⟨_,(a0 (dU (cX amz (bw (U 0) rfl) tP (cA _)) (db (ww (U 0) aO Kh)
   (a0 (dS (kp (U 0) T.e7 T.Wf Iv ao T.Oo .nil c2)))) (a0 (dU (oj (fg (U 0) T.e7 T.acq adq ao T.adh .nil c2 (ag (U 1) aA))) (a0 (ww (U 0) aO Kh)) (a0 (dS (fg (U 0) T.e7 T.Y2 adR ao T.ajX .nil c2 (ag (kp (U 0) T.e7 T.ab9 ajd ao T.aby .nil c2) aA)))))))),?_⟩
 cases gM:aj.bI with
 | none=>
  rw [gM] at cb;obtain ⟨g1,g2,g3⟩:=l1.ch gM;have Oi:=a' g2;nofun;refine dh true (fun Q aV=>?_) (fun _=>?_) (fun aB=>nomatch aB)
  .nofun;exact ⟨_,q2 T cb,aV⟩
  simp only [dG];exists (fun au I=>ci k aD a4 H I/\aJ I/\e4 t I k aE aD a4 { aj with c_:=aj.c_ + 1 }/\au=[~~~k,some (.bo own)]),2
  .nofun;refine ⟨_,_,_,cb,T.e7,T.C7,_,gK Cl 5 (i' ..) (by ac_nf) rfl,_,rfl,_,_,cb,by rw [<- aW (f:=(·.1)),i'];decide,?_⟩;rw [Qu];exact cY _ _ ⟨fun b u af _ _ e=>by rw [aM af];exact e,bx.upd,⟨ep,az,by rw [aQ];exact congrArg (fun z=>some (fX.ins t.dp az (fm aE (qd z) aj.cO aj.lf aj.bp (aj.c_ + 1) aD a4))) gM.symm,by rw [aM (cx dT cb (by intro z;cases z))];exact dT,by rw [aM (cx gr cb (by intro z;cases z))];exact gr⟩,rfl⟩
  rintro fk H1 ⟨b1,cM,HH,rfl⟩;obtain ⟨_,dX,a1,fx,bh⟩:=id HH;subst aT;nofun;exact ⟨_,_,a1,nG _ _ _ _ _ _ _ _ (by ac_nf),cu,k,aE,aD,a4,_,c,n,ds,rows,_,rfl,HH,c3,b1.wh s0 ju g4 hX,ju,g4,hX,g1,Oi,g3,R.gs _ (g6 g2),cM,fun I eu dV sR=>q _ I (.inl ⟨gM,_,Oi,rfl⟩) (fun b u af ak a5 _ e=>eu _ _ af ak a5 (b1 _ _ af ak a5 e)) dV (y' HH (y' hi bG b1) eu) sR⟩
 | some i=>
  rw [gM] at cb;obtain ⟨g1,g2⟩:=l1.bI i gM;have h6:=a' g1;nofun;refine dh false (fun Q aV=>?_) (fun aB=>nomatch aB) (fun _=>?_)
  .nofun;exact ⟨_,q2 T cb,aV⟩
  have cR:=l1.told R;have aL:=l1.len R;refine F4 (fun b I=>aK H I/\aJ I/\b=rd ds rows aj rows[i] own) (fun Q' AM=>?_) ?_ ?_
  .nofun;exact ⟨_,_,cb,nG _ _ _ _ _ _ _ _ (by ac_nf),cu,k,aE,aD,a4,aj,c,n,ds,rows,i,_,own,rfl,hi,gM,h6,c3,s0,g4,cR,aL,fun I s1 cM=>⟨_,rfl,AM _ _ ⟨s1,cM bx,rfl⟩⟩⟩
  .rintro H1 ⟨s1,cM,aa⟩;have mh:=s1 _ _ cb;nofun;refine ⟨_,_,_,mh,T.e7,T.Dv,_,gK Cl 2 (i' ..) (by ac_nf) rfl,_,rfl,_,_,mh,by rw [<- aW (f:=(·.1)),i'];decide,?_⟩;rw [Qe];have b1:ci k aD a4 H (upd H1 k (.ins t.dp az (fm aE (qd (some i)) (aj.cO + 1) aj.lf aj.bp aj.c_ aD a4))):=fun b u af _ _ e=>by rw [aM af];exact s1 _ _ e
   exact q { aj with cO:=aj.cO + 1 } _ (.inr (.inl ⟨i,_,gM,h6,aa.symm,rfl⟩)) (fun b u af ak a5 _ e=>b1 _ _ af ak a5 e) cM.upd (y' hi bG b1) ⟨ep,az,by rw [aQ];exact congrArg (fun z=>some (fX.ins t.dp az (fm aE (qd z) (aj.cO + 1) aj.lf aj.bp aj.c_ aD a4))) gM.symm,by rw [aM (cx dT cb (by intro z;cases z))];exact s1 _ _ dT,by rw [aM (cx gr cb (by intro z;cases z))];exact s1 _ _ gr⟩
  .rintro H1 ⟨s1,cM,aa⟩;have mh:=s1 _ _ cb;have cj:aj.wt ≠ []:=fun z=>by
    unfold rd at aa;rw [z] at aa;simp at aa
   nofun;refine ⟨_,_,mh,nG _ _ _ _ _ _ _ _ (by ac_nf),_,_,mh,nG _ _ _ _ _ _ _ _ (by ac_nf),cu,k,aE,aD,a4,aj,c,n,ds,rows,i,rfl,hi.same s1,gM,g1,c3,s0.trans s1,g4,cR,cj,aL,R.cG,bG.step s1,cM,fun j av bq cU qc ar=>?_⟩;have Co:=(hi.same s1).ni (zr (bG.step s1) bq);obtain ⟨x,ah,aC⟩:=K8 cR ar.1;have gv:=CH cR j ar.1;have gH:=a' gv;exact ⟨cu,k,aE,aD,a4,aj,c,n,ds,rows,i,j,_,rfl,Co,gM,c3,fun b u e=>bq _ _ (dm e JX) ((s0.trans s1) _ _ e),ju,g4,hX,g1,gH,fun e=>g2 x ah (by rw [aC,e]),R.gs _ (g6 gv),R.cG _ (g6 gv),cU,fun I eu dV sR=>q _ I (.inr (.inr ⟨i,_,j,_,gM,h6,aa.symm,ar,gH,rfl⟩)) (fun b u af ak a5 bN e=>eu _ _ af ak a5 (bq _ _ bN (s1 _ _ e))) dV (y' Co qc eu) sR⟩
noncomputable def js (rows:List ST) (s:ff) (x:Str):Bool:=match s.bI with
 | some i=>decide (jS rows x=some i)
 | none=>false
theorem TM (n:Int) (ds:List bc) (rows:List ST) (s:ff) (d:bc):decide (V.str (iG n ds rows s d)=V.str (ae "free"))=js rows s d.name:=by
 have af:(V.str (ae "stop"):V) ≠ V.str (ae "free"):=fun z=>absurd (V.str.inj z) (by ac_nf)
 have ak:(V.str (ae "fade"):V) ≠ V.str (ae "free"):=fun z=>absurd (V.str.inj z) (by ac_nf)
 have a5:(V.str (ae "ready"):V) ≠ V.str (ae "free"):=fun z=>absurd (V.str.inj z) (by ac_nf)
 unfold iG js;cases s.bI with
 | none=>
  show decide (V.str (v9 n ds rows s d)=_)=false;unfold v9;split
  .exact decide_eq_false ak
  .split
   .exact decide_eq_false a5
   .exact decide_eq_false af
 | some i=>
  show decide (V.str (vY rows i d.name)=_)=decide (jS rows d.name=some i);unfold vY;split
  .rename_i h;rw [decide_eq_true rfl,decide_eq_true h]
  .rename_i h;rw [decide_eq_false af,decide_eq_false h]
noncomputable def pN (rows:List ST) (s:ff) (wt:List Str) (x:Str):List Str:=if js rows s x=true\/x ∈ wt then wt else wt ++ [x]
noncomputable def n' (rows:List ST) (s:ff) (wt:List Str) (xs:List Str):List Str:=xs.foldl (pN rows s) wt
noncomputable def pG (rows:List ST) (s:ff) (xs:List Str):ff:={ s with wt:=n' rows s s.wt xs }
theorem aaw (wt:List Str) (x:Str):es (gn wt) (cy x) (.bo true)=gn (if x ∈ wt then wt else wt ++ [x]):=by
 unfold es;have UP:((gn wt).any fun dx=>decide (dx.1=cy x))=decide (x ∈ wt):=by
  rw [l4,decide_eq_true_eq,qL];constructor
  .rintro ⟨p,ar,ah⟩;obtain ⟨y,a6,rfl⟩:=cc.mp ar;have:=t5 (of_decide_eq_true ah);rw [<- this];exact a6
  .exact fun h=>⟨(cy x,V.bo true),cc.mpr ⟨x,h,rfl⟩,decide_eq_true rfl⟩
 by_cases h:x ∈ wt
 .rw [if_pos (by rw [UP];exact decide_eq_true h),if_pos h];unfold gn;rw [qt];refine aai fun y _=>?_
  show (if (cy y:Key)=cy x then ((cy y:Key),V.bo true) else (cy y,V.bo true))=_;split <;> rfl
 .rw [if_neg (by rw [UP,decide_eq_false h];exact fB),if_neg h];unfold gn;rw [ed];rfl
theorem aiW {ds:List bc} {rows:List ST} {s:ff} {wt:List Str} {x:Str} (ah:x ∈ ds.map (·.name)) (k:jA ds rows { s with wt:=wt }):jA ds rows { s with wt:=pN rows s wt x }:=by
 unfold pN;split
 .exact k
 .rename_i h;have af:x ∉ wt:=fun z=>h (.inr z)
  refine ⟨?_,fun y a6=>?_,fun i ai=>⟨(k.bI i ai).1,fun y a6=>?_⟩,k.ch⟩
  .show (wt ++ [x]).Nodup;rw [Ku];exact ⟨k.wn,by simp,fun a aP b aa e=>by rw [eY.mp aa] at e;exact af (e ▸ aP)⟩
  .rcases eR.mp a6 with a6 | a6
   .exact k.aD y a6
   .rw [eY.mp a6];exact ah
  .rcases eR.mp a6 with a6 | a6
   .exact (k.bI i ai).2 y a6
   .rw [eY.mp a6];intro e;refine h (.inl ?_);have ai:s.bI=some i:=ai;unfold js;rw [ai];exact decide_eq_true e
theorem Ke {ds:List bc} {rows:List ST} {s:ff}:∀ (xs wt:List Str),(∀ x ∈ xs,x ∈ ds.map (·.name))->jA ds rows { s with wt:=wt }->jA ds rows { s with wt:=n' rows s wt xs }
 | [],_,_,k=>k
 | x :: xs,wt,h,k=>Ke xs (pN rows s wt x) (fun y a6=>h y (.tail _ a6)) (aiW (h x (.head _)) k)
theorem UO {rows:List ST} (h:∀ x ∈ xs,x ∈ ds.map (·.name)) (k:jA ds rows s):jA ds rows (pG rows s xs):=Ke xs s.wt h k
theorem adD (rows:List ST) (s:ff) (wt xs:List Str) (x:Str):n' rows s wt (xs ++ [x])=pN rows s (n' rows s wt xs) x:=by
 unfold n';rw [NI];rfl
def Od (P:Program) (w:World) (K:bk) (t:bK) (bL:Addr):bM:=fun vs H Q _=>∃ cu k aE aD a4 s c n ds rows a xs,vs=[.ref k,.ref a]/\e4 t H k aE aD a4 s/\fp P w t cu aE c n ds rows/\aK cu H/\cu k=none/\cu aD=none/\cu a4=none/\cu bL=none/\nK ds rows/\jA ds rows s/\H a=some (.lst (aY xs))/\xs.length <= 1000/\(∀ x ∈ xs,x ∈ ds.map (·.name))/\nk bL H/\aJ H /\
 ∀ p aj I,vP n ds rows (pG rows s xs) (xs.any (js rows s)) aj->Es k aD a4 bL H I->H p=none->I p=some (.bW (jj ds (iG n ds rows s)))->aJ I->nk bL I->e4 t I k aE aD a4 aj->Q (.ref p) I
theorem akH (dg:mf base t.Re bL) (hB:base.BuiltinsAt mg bL):cm P base T 5 t.w4 t.zl Br (Od P w K t bL):=by
 refine cv (se T) fun jO=>cv (aaQ T) fun af8=>cv (Yv T dg hB) fun al'=>?_;exists T.U2.ok uH,9
 obtain ⟨cu,k,aE,aD,a4,aj,c,n,ds,rows,a,xs,rfl,hi,c3,s0,ju,g4,hX,JX,R,l1,aP,gN,h1,bG,bx,q⟩:=h;obtain ⟨ep,az,cb,dT,gr⟩:=id hi;obtain ⟨iw,le,mo,cI,cG,aS,ch,ms,kvs,aq,C,bO,d_,fR,ec,gF,jH,ja⟩:=id (c3.same s0);obtain ⟨⟨gX,gP⟩,Ik,wl,aI,bh,_,_⟩:=id C;have bY:=iN ao;have i5:∀ {i:Nat} {x:Str},xs[i]? = some x->∃ (j:Nat) (d:bc),ds[j]? = some d/\d.name=x:=fun {i x} ah=>by
  obtain ⟨d,hd,e⟩:=cc.mp (h1 x (b9 ah));obtain ⟨j,aG⟩:=hU hd;exact ⟨j,d,aG,e⟩
 refine ⟨_,(db (fw fF rfl (e5 (U 1)) (b7 (i:=2) uH.aI) (a0 (dS (fg (bw (bw (U 0) rfl) rfl) T.h5 T.ow jO ao T.n4 .nil c2 (ag (U 2) aA)))))
   (db (bT (i:=3) uH.aI (kp (U 0) T.e7 T.aml af8 ao T.alW .nil c2))
   (db (bT (i:=4) uH.aI mW)
   (db (fw fF rfl (e5 (U 1)) (b7 (i:=2) uH.aI) (a0 (dU (cX et (oZ bY (U 3) (U 2) (fun _ _=>rfl)) dF (cA _)) (a0 (bT (i:=4) uH.aI mW)) (a0 (vv bY (bw (U 0) rfl) (U 2) mW rfl)))))
   (db (dS (fg (U 0) T.e7 T.Za al' ao T.Ym .nil c2 (ag (U 4) aA)))
   (a0 (b' (U 3)))))))),?_⟩
 exists (fun au I=>I=H/\∃ y,au=[~~~k,~~~a,y,none,none]),5
 .nofun;refine ⟨⟨_,ay.of aP⟩,?_⟩;refine dZ.list (xs:=aY xs) (fun i σ I=>I=H/\∃ y,σ=[~~~k,~~~a,y,none,none]) ?_ ?_ ?_ ?_
  .exact ⟨rfl,_,rfl⟩
  .rintro i σ I ai ⟨rfl,_⟩;exact ay.of aP
  .rintro i v σ I aF ⟨rfl,y,rfl⟩;unfold aY at aF;obtain ⟨x,ah,rfl⟩:=b8 aF;obtain ⟨j,d,hd,rfl⟩:=i5 ah;nofun;exact ⟨_,j3 T cb,_,rfl,_,zV T aq,_,rfl,_,_,bh,kT _ _ _ (by ac_nf),c,n,ds,j,d,rfl,C,hd,fun _ _=>⟨rfl,_,rfl⟩⟩
  .rintro σ I ⟨rfl,y,rfl⟩;exact cY _ _ ⟨rfl,_,rfl⟩
 rintro fk H1 ⟨rfl,oH,rfl⟩;subst aT;exists (fun au I=>aK H1 I/\aJ I/\∃ p,H1 p=none/\I p=some (.bW (jj ds (iG n ds rows aj)))/\au=[~~~k,~~~a,oH,~~~p,none]),5
 .nofun;exact ⟨_,_,cb,nG _ _ _ _ _ _ _ _ (by ac_nf),k,aE,aD,a4,aj,c,n,ds,rows,rfl,hi,c3.same s0,R.c5,l1.ch,bx,fun p I s2 cU ar qo=>cY _ _ ⟨s2,cU,p,ar,qo,rfl⟩⟩
 rintro cw av ⟨s2,cU,p,nF,dH,rfl⟩;subst aT;exists (fun au I=>I=av/\au=[~~~k,~~~a,oH,~~~p,some (.bo false)]),5
 .nofun;exact cY _ _ ⟨rfl,rfl⟩
 rintro fI br ⟨rfl,rfl⟩;subst aT;exists (fun au I=>ci k aD a4 br I/\aJ I/\e4 t I k aE aD a4 (pG rows aj xs)/\∃ y,au=[~~~k,~~~a,y,~~~p,some (.bo (xs.any (js rows aj)))]),5
 .have ef:=s2 _ _ aP;have fx:=s2 _ _ cb;have fA:=s2 _ _ dT;have iE:=s2 _ _ gr;nofun;refine ⟨⟨_,ay.of ef⟩,?_⟩;refine dZ.list (xs:=aY xs) (fun i σ I=>ci k aD a4 br I/\aJ I/\e4 t I k aE aD a4 { aj with wt:=n' rows aj aj.wt (xs.take i) }/\∃ y,σ=[~~~k,~~~a,y,~~~p,some (.bo ((xs.take i).any (js rows aj)))]) ?_ ?_ ?_ ?_
  .exact ⟨ci.of (aK.refl br),cU,hi.same s2,_,rfl⟩
  .rintro i σ I ai ⟨eu,_⟩;exact ay.of (eu _ _ (cx ef fx (by intro z;cases z)) (cx ef fA (by intro z;cases z)) (cx ef iE (by intro z;cases z)) ef)
  .rintro i v σ I aF a_;ac_rfl
   obtain ⟨eu,dV,⟨_,d',f1,f2,ez⟩,y,rfl⟩:=a_;subst aT;unfold aY at aF;obtain ⟨x,ah,rfl⟩:=b8 aF;obtain ⟨j,d,hd,rfl⟩:=i5 ah;have iD:=eu _ _ (cx dH fx (by intro z;cases z)) (fun e=>by rw [e,dT] at nF;cases nF) (fun e=>by rw [e,gr] at nF;cases nF) dH;have a8:=ij.k (k:=cy d.name) iD;rw [QY (f:=iG n ds rows aj) gX hd] at a8;have ek:(gn (n' rows aj aj.wt (xs.take i))).length <= 12:=by
    have:=(Ke (xs.take i) aj.wt (fun x ah=>h1 x (u7 ah)) l1).len R;unfold gn;rw [aW];exact this
   have gj:n' rows aj aj.wt (xs.take (i + 1))=pN rows aj (n' rows aj aj.wt (xs.take i)) d.name:=by rw [re ah,adD]
   have ks:(xs.take (i + 1)).any (js rows aj)=((xs.take i).any (js rows aj) || js rows aj d.name):=by rw [re ah,List.any_append];simp
   nofun;refine dh (js rows aj d.name) (fun Q' aV=>?_) (fun aa=>?_) (fun aa=>?_)
   .nofun;rw [<- TM n ds rows aj d] at aV;exact ⟨_,a8,rfl,aV⟩
   .nofun;refine ⟨eu,dV,⟨ep,d',f1,?_,ez⟩,?_⟩
    .rw [gj];unfold pN;rw [if_pos (.inl aa)];exact f2
    .rw [ks,aa,aih]
   .nofun;refine ⟨_,xj T f1,_,rfl,_,l5.k (k:=cy d.name) f2 (gD ek (by decide)),fun b u af ak a5 e=>by rw [aM ak];exact eu _ _ af ak a5 e,dV.upd,⟨ep,d',by rw [aM (cx f1 f2 (by intro z;cases z))];exact f1,?_,by rw [aM (eb ep)];exact ez⟩,?_⟩
    .rw [aQ,aaw,gj];unfold pN;by_cases h:d.name ∈ n' rows aj aj.wt (xs.take i)
     .rw [if_pos h,if_pos (.inr h)]
     .rw [if_neg h,if_neg (fun z=>z.elim (fun z=>by rw [aa] at z;cases z) h)]
    .rw [ks,aa,Tp]
  .rintro σ I a_;ac_rfl
   obtain ⟨eu,dV,sR,y,rfl⟩:=a_;subst aT;rw [fK,il] at *;exact cY _ _ ⟨eu,dV,sR,y,rfl⟩
 rintro jE cJ ⟨dv,dc,wC,aob,rfl⟩;obtain ⟨_,Ds,f1,f2,ez⟩:=id wC;have rC:=hi.same s2;have fx:=s2 _ _ cb;subst aT;nofun;refine ⟨_,_,f1,nG _ _ _ _ _ _ _ _ (by ac_nf),cu,k,aE,aD,a4,_,c,n,ds,rows,_,rfl,wC,c3,dv.wh (s0.trans s2) ju g4 hX,ju,g4,hX,JX,R,UO h1 l1,y' rC (bG.step s2) dv,dc,fun s5 ck ax d1 ei acN Eh=>?_⟩;have Sh:p ≠ k:=cx dH fx (by intro z;cases z);have nw:p ≠ aD:=fun e=>by rw [e,dT] at nF;cases nF
 have np:p ≠ a4:=fun e=>by rw [e,gr] at nF;cases nF
 have aaj:p ≠ bL:=fun e=>by
  obtain ⟨ps,bH,_⟩:=bG;rw [e,bH] at nF;cases nF
 exact q p s5 ck ax (fun b u af ak a5 bN e=>d1 _ _ af ak a5 bN (dv _ _ af ak a5 (s2 _ _ e))) nF (d1 _ _ Sh nw np aaj (dv _ _ Sh nw np dH)) ei acN Eh
theorem NJ {i:Int} (h:i.natAbs < 100000):i.natAbs.log2 < 1920:=by
 by_cases h0:i.natAbs=0
 .rw [h0];decide
 .exact (alJ h0).mpr (N1 h (by decide))
def aj3 (K:bk):bM:=fun vs H Q _=>∃ (a:Addr) (ns:List Int) (k m:Int),vs=[.ref a,.int k,.int m]/\ns.length <= 63/\ay K H a (ns.map V.int)/\(0 <= k/\k < 1000000)/\0 < m/\Q (.int (dt ns k m)) H
theorem abH:cm P base T 1 t.yj t.yL ym (aj3 K):=by
 exists T.e6.ok uu,9
 obtain ⟨a,ns,k,m,rfl,hl,S,⟨h0,af⟩,hm,q⟩:=h;refine ⟨_,(db (bT (i:=3) uu.aI (tT (cX rb (fP hL rfl T.hz hE (ag (U 0) aA)) aO (cA _)) (bZ c8 (U 0) (bE iH (U 1) (fP hL rfl T.hz hE (ag (U 0) aA)))) aO))
   (db (bT (i:=4) uu.aI (bE d4 (bE d4 (bE iH (U 3) aO) (bE kg (bE kg aO (U 1)) (U 1))) aO))
   (a0 (b' (bE iH (bE iH (bE kg (bE iH (bE kg (U 4) aO) aO) aO) aO) (U 2)))))),?_⟩
 nofun;refine ⟨_,.inl S,?_⟩;rw [aW];have ag3:(0:Int) <= k * k/\k * k < 1000000 * 1000000:=⟨acu h0 h0,abA (by omega) af h0 (by decide)⟩;have fin:∀ i:Int,(0:Int) < 1000003/\nX 31 k/\nX (31 * k) k/\nX (i % 1000003 + 31 * k * k + 1) 48271/\(0:Int) < 999983/\nX ((i % 1000003 + 31 * k * k + 1) * 48271 % 999983) 7919/\(0:Int) < 524287/\0 < m:=by
  intro i;refine ⟨by decide,.inl (by decide),.inr (by omega),.inr (by decide),by decide,.inr (by decide),by decide,hm⟩
 by_cases c:(0:Int) < (ns.length:Int)
 .rw [if_pos (decide_eq_true c)];have aC:0 <= k % (ns.length:Int)/\k % (ns.length:Int) < (ns.length:Int):=⟨uO _ (by omega),vo _ c⟩;refine ⟨_,.inl S,by rw [aW];exact c,_,S,?_⟩;rw [aW];have aG:(k % (ns.length:Int)).toNat < ns.length:=by omega
  refine ⟨.int ns[(k % (ns.length:Int)).toNat],?_,_,rfl,?_⟩
  .have e:=cp (xs:=ns.map V.int) (j:=(k % (ns.length:Int)).toNat) (v:=.int ns[(k % (ns.length:Int)).toNat]) (by rw [df,a' aG] <;> rfl);rwa [sg aC.1] at e
  .obtain ⟨f1,f2,ez,f4,e0,oE,ma,f8⟩:=fin ns[(k % (ns.length:Int)).toNat];refine ⟨f1,f2,ez,f4,e0,oE,ma,f8,?_⟩;have e:dt ns k m=(((ns[(k % (ns.length:Int)).toNat] % 1000003 + 31 * k * k + 1) * 48271 % 999983 * 7919) % 524287) % m:=by
    unfold dt;rw [if_pos c,jQ,a' aG];rfl
   rw [<- e];exact q
 .rw [if_neg (by simpa using c)];obtain ⟨f1,f2,ez,f4,e0,oE,ma,f8⟩:=fin 0;refine ⟨f1,f2,ez,f4,e0,oE,ma,f8,?_⟩;have e:dt ns k m=(((0 % 1000003 + 31 * k * k + 1) * 48271 % 999983 * 7919) % 524287) % m:=by
   unfold dt;rw [if_neg c]
  rw [<- e];exact q
noncomputable def ins {α:Type} (l:List α) (i:Nat) (a:α):List α:=l.take i ++ a :: l.drop i
theorem ua (ai:i <= l.length) (j:Nat):(ins l i a)[j]? = if j < i then l[j]? else if j=i then some a else l[j - 1]?:=by
 unfold ins;have cR:(l.take i).length=i:=by rw [ha];omega
 by_cases af:j < i
 .rw [if_pos af,pe (by omega),vZ af]
 .rw [if_neg af,nz (by omega),cR];by_cases ak:j=i
  .subst ak;rw [if_pos rfl];simp
  .rw [if_neg ak];obtain ⟨k,rfl⟩:=Nat.exists_eq_add_of_lt (Nat.lt_of_le_of_ne (abb af) (eb ak));rw [Nat.add_assoc,Nat.add_sub_cancel_left,DN,J3];rfl
theorem Hi (ai:i <= l.length):(ins l i a).length=l.length + 1:=by
 unfold ins;rw [cZ,gy,ha,lB];omega
theorem aeX (h:l.Nodup) (n:a ∉ l):(ins l i a).Nodup:=by
 unfold ins;rw [(alI).nodup_iff,tE,Sm];exact ⟨n,h⟩
theorem nv {a x:α} (h:x ∈ ins l i a):x=a\/x ∈ l:=by
 unfold ins at h;rcases eR.mp h with z | z
 .exact .inr (u7 z)
 .rcases en.mp z with z | z
  .exact .inl z
  .exact .inr (M4 z)
theorem H3 (f:α->β) (l:List α) (i:Nat) (a:α):(ins l i a).map f=ins (l.map f) i (f a):=by
 unfold ins;rw [ed,e8,Mo,xq]
theorem Q6 (x:Str) (kJ:a <= b) (aa:b <= x.cps.toList.length):(mx x (some (a:Int)) (some (b:Int))).cps.toList=(x.cps.toList.drop a).take (b - a):=by
 have ah:x.length=x.cps.toList.length:=by simp [uQ]
 have e:=StrLaws.sliceText_nat x kJ (by rw [ah];exact aa);rw [show mx x (some (a:Int)) (some (b:Int))=uG x (some (a:Int)) (some (b:Int)) from rfl,e]
theorem Eu (x:Str) (aa:b <= x.cps.toList.length):(mx x none (some (b:Int))).cps.toList=x.cps.toList.take b:=by
 have:mx x none (some (b:Int))=mx x (some ((0:Nat):Int)) (some (b:Int)):=by
  show uG x none (some (b:Int))=uG x (some ((0:Nat):Int)) (some (b:Int));unfold uG;rw [StrLaws.sliceIdx_none_lo];rfl
 rw [this,Q6 x (fh _) aa,aiz,Nat.sub_zero]
theorem Yq (x:Str) (aP:a <= x.cps.toList.length):(mx x (some (a:Int)) none).cps.toList=x.cps.toList.drop a:=by
 have ah:x.length=x.cps.toList.length:=by simp [uQ]
 have:mx x (some (a:Int)) none=mx x (some (a:Int)) (some ((x.cps.toList.length:Nat):Int)):=by
  show uG x (some (a:Int)) none=uG x (some (a:Int)) (some ((x.cps.toList.length:Nat):Int));unfold uG;rw [StrLaws.sliceIdx_none_hi,<- ah]
 rw [this,Q6 x aP (bP _)];exact I4 (by rw [lB];exact bP _)
noncomputable def yH (l:List Nat) (k:Nat):List Nat:=l.take (k + 1)
noncomputable def pg (l:List Nat) (at_ f k:Nat):List Nat:=l.take at_ ++ [97 + (f + k) % 26] ++ l.drop (at_ + 1)
noncomputable def pI (l:List Nat) (f k j:Nat):List Nat:=[97 + (f + k) % 26] ++ l.take j
theorem F7 (aL:l.length=8) (al:∀ c ∈ l,97 <= c/\c <= 122) {k:Nat} (aC:k < 8):(yH l k).length=k + 1/\∀ c ∈ yH l k,97 <= c/\c <= 122:=by
 unfold yH;exact ⟨by rw [ha];omega,fun c aB=>al c (u7 aB)⟩
theorem abg (aL:l.length=8) (al:∀ c ∈ l,97 <= c/\c <= 122) {a f k:Nat} (aP:a < 8):(pg l a f k).length=8/\∀ c ∈ pg l a f k,97 <= c/\c <= 122:=by
 unfold pg;refine ⟨by rw [cZ,cZ,ha,lB,pa];omega,fun c aB=>?_⟩;rcases eR.mp aB with aB | aB
 .rcases eR.mp aB with aB | aB
  .exact al c (u7 aB)
  .rw [eY.mp aB];omega
 .exact al c (M4 aB)
theorem alH (aL:l.length=8) (al:∀ c ∈ l,97 <= c/\c <= 122) {f k j:Nat} (aG:j < 8):(1 <= (pI l f k j).length/\(pI l f k j).length <= 8)/\∀ c ∈ pI l f k j,97 <= c/\c <= 122:=by
 unfold pI;refine ⟨by rw [cZ,ha,pa];omega,fun c aB=>?_⟩;rcases eR.mp aB with aB | aB
 .rw [eY.mp aB];omega
 .exact al c (u7 aB)
theorem abO (aL:l.length=8) (aP:a < 8) (ai:i < 8) (aG:j < 8) (e:pg l a f i=pg l a f j):i=j:=by
 have af:∀ k,(pg l a f k)[a]? = some (97 + (f + k) % 26):=fun k=>by
  unfold pg;rw [l7,nz (by rw [ha];omega),ha,show a - min a l.length=0 by omega];rfl
 have ak:=af i;rw [e,af j] at ak;have:=eE ak;omega
theorem agA (ai:i < 8) (aG:j < 8) (e:pI l f i u=pI l f j v):i=j:=by
 unfold pI at e;have:=(q7 e).1;omega
theorem agY {k:Nat} (h:k <= xs.length):iM xs none (some ((k:Nat):Int))=xs.take k:=by
 unfold iM;rw [eM.CU,CQ h,eM.Xf];simp
noncomputable def six:List Str:=[ae "stage",ae "tram",ae "car",ae "foot",ae "ring",ae "free"]
theorem aek {x:Str} (e:x.cps.toList=l) (h0:1 <= l.length) (af:l.length <= 8) (al:∀ c ∈ l,97 <= c/\c <= 122):made x oq 8=true:=by
 have ah:x.length=x.cps.toList.length:=by simp [uQ]
 exact adn (by rw [ah,e];exact h0) (by rw [ah,e];exact af) (by rw [e];exact al)
def Jr (m:Nat) (xs:List Str):Prop:=xs.length=m/\xs.Nodup/\∀ x ∈ xs,made x oq 8=true
theorem RE (h0:0 <= i) (af:i < 26):∃ c:Nat,fZ (ae "abcdefghijklmnopqrstuvwxyz").cps.toList i=some c/\c=97 + i.toNat:=by
 have:∀ k,k < 26->fZ (ae "abcdefghijklmnopqrstuvwxyz").cps.toList ((k:Nat):Int)=some (97 + k):=by ac_nf
 refine ⟨97 + i.toNat,?_,rfl⟩;have e:=this i.toNat (by omega);rwa [sg h0] at e
theorem VA:∀ ys:List Str,(d7 ⟨#[]⟩ ys).cps.toList=(ys.map (·.cps.toList)).flatten
 | []=>rfl
 | [a]=>by
  show a.cps.toList=_;simp
 | a :: b :: r=>by
  show (a ++ ⟨#[]⟩ ++ d7 ⟨#[]⟩ (b :: r)).cps.toList=_;rw [pd,o1,pd,o1,VA (b :: r)];simp
theorem Se (f:Nat->Nat) (n:Nat):(qr (ae "") ((eV n).map fun i=>jV (f i))).cps.toList=(eV n).map f:=by
 rw [show qr (ae "") ((eV n).map fun i=>jV (f i))=d7 ⟨#[]⟩ ((eV n).map fun i=>jV (f i)) from zd _ _,VA,qt];have:((fun x:Str=>x.cps.toList) ∘ fun i=>jV (f i))=fun i=>[f i]:=rfl
 rw [this]
 induction (eV n) with
 | nil=>rfl
 | cons a l cS=>rw [e8,vC,cS];rfl
theorem aeZ:∀ m,m < 7->(six.take m).length=m/\(six.take m).Nodup/\∀ x ∈ six.take m,made x oq 8=true:=by ac_nf
def ahW (K:bk) (a:Addr) (ns:List Int):bM:=fun vs H Q _=>∃ m:Nat,vs=[.ref a,.int m]/\Sc K a ns H/\(1 <= m/\m <= 8)/\∀ p xs I,aK H I->Sc K a ns I->H p=none->I p=some (.lst (aY xs))->Jr m xs->Q (.ref p) I
theorem af7 (a:Addr) (ns:List Int) (hl:ns.length <= 63):cm P base T 2 t.Em t.HY Mh (ahW K a ns):=by
 refine cv (Ap T a ns hl) fun eX=>?_;exists T.K3.ok rg,9
 obtain ⟨m,rfl,S,hm,q⟩:=h;have ek:(ae "abcdefghijklmnopqrstuvwxyz").length=26:=by ac_nf
 refine ⟨_,(db (n5 (i:=2) rg.aI rfl (mb rfl) dF)
   (db (bT (i:=3) rg.aI (eF vt AI Az xm dF (ag (g_ rfl (kN rfl T.j' (ag aO aA)) (fO (sc:=bt LR) rfl (by ac_nf)) (N:=["_law_k","_law_letters","_law_script"]) (sel:=[none,some 2,some 0]) (fT (M:=["_law_script","_law_many","_law_letters","_law_base","_law_way","_law_at","_law_names_here","_law_k","_law_sign"]) (by ac_nf)) (e3.of (fun _ _ _ _=>(b7 (i:=0) (d3 (N:=["_law_k","_law_letters","_law_script"]) (by ac_nf) rfl))) (fun _ _ _ _=>⟨_,hn,by walk_at "B"⟩) (fun _ _ _ _=>⟨_,(bZ Kt (U 1) (bU eX ao T.fL T.e6.bl T.fH (ag (U 2) (ag (bE d4 aO (U 0)) (ag aO aA))))),by walk_at "B"⟩))) aA)))
   (db (bT (i:=4) rg.aI (bU eX ao T.fL T.e6.bl T.fH (ag (U 0) (ag aO (ag aO aA)))))
   (db (bT (i:=5) rg.aI (bU eX ao T.fL T.e6.bl T.fH (ag (U 0) (ag aO (ag aO aA)))))
   (db (bT (i:=6) rg.aI (ld aA))
   (db (dU (fM.pt (md (cX et (bU eX ao T.fL T.e6.bl T.fH (ag (U 0) (ag aO (ag aO aA)))) aO (cA _)) (mi (cX lR (U 1) aO (cA _))))) (a0 (b' (mR tM (ld (ag dF (ag dF (ag dF (ag dF (ag dF (ag dF aA))))))) nI (mH (U 1))))) eh)
   (db (fw fF rfl (kN rfl T.j' (ag (U 1) aA)) (b7 (i:=7) rg.aI) (db (bT (i:=8) rg.aI (bZ Kt (U 2) (bE iH (bE d4 (bU eX ao T.fL T.e6.bl T.fH (ag (U 0) (ag aO (ag aO aA)))) (U 7)) aO)))
   (a0 (dU (cX et (U 4) aO (cA _)) (a0 (dS (eF f6 kr kz j9 (U 6) (ag (bE be (bE be (mR Cp (U 3) nI (mH (U 5))) (U 8)) (mR Cp (U 3) (mH (bE d4 (U 5) aO)) nI)) aA)))) (a0 (dU (fM.pt (md (cX et (U 4) aO (cA _)) (mi (cX lR (U 1) aO (cA _))))) (a0 (dS (eF f6 kr kz j9 (U 6) (ag (mR Cp (U 3) nI (mH (bE d4 (U 7) aO))) aA)))) (a0 (dS (eF f6 kr kz j9 (U 6) (ag (bE be (U 8) (mR Cp (U 3) nI (mH (bU eX ao T.fL T.e6.bl T.fH (ag (U 0) (ag (bE d4 aO (U 7)) (ag aO aA))))))) aA))))))))))
   (a0 (b' (U 6)))))))))),?_⟩
 exists (fun au I=>I=H/\au=[~~~a,some (.int m),some (.str (ae "abcdefghijklmnopqrstuvwxyz")),none,none,none,none,none,none]),3
 .nofun;exact bQ _ _ ⟨rfl,rfl⟩
 rintro fk H1 ⟨rfl,rfl⟩;subst aT;exists (fun au I=>aK H1 I/\Sc K a ns I/\∃ aD:Str,aD.cps.toList.length=8/\(∀ c ∈ aD.cps.toList,97 <= c/\c <= 122)/\au=[~~~a,some (.int m),some (.str (ae "abcdefghijklmnopqrstuvwxyz")),some (.str aD),none,none,none,none,none]),3
 .nofun;refine ⟨by decide,by decide,?_⟩;refine c1.Us (n:=8) (fun i=>V.str (jV (97 + (dt ns (300 + (i:Int)) 26).toNat))) (by decide) (fun i N ai bj=>?_) (fun p ar=>?_)
  .have dX:=ht ns (300 + (i:Int)) (m:=26) (by decide);have el:=hq ns (300 + (i:Int)) (m:=26) (by decide);obtain ⟨c,aB,rfl⟩:=RE dX el;(nofun; repeat (dsimp only [ig];nofun));exact ⟨Sub.name,S,by omega,by omega,by decide,by rw [ek];decide,_,aB,bj⟩
  .have e:(eV 8).map (fun i:Nat=>V.str (jV (97 + (dt ns (300 + (i:Int)) 26).toNat)))=aY ((eV 8).map fun i:Nat=>jV (97 + (dt ns (300 + (i:Int)) 26).toNat)):=by unfold aY;rw [qt];rfl
   refine ⟨p,rfl,(eV 8).map fun i:Nat=>jV (97 + (dt ns (300 + (i:Int)) 26).toNat),by rw [<- e];exact ay.of aQ,?_,?_⟩
   .have af:(n9 (fun x:Str=>x.length) ((eV 8).map fun i:Nat=>jV (97 + (dt ns (300 + (i:Int)) 26).toNat))).sum=8:=by
     rw [qt];rfl
    rw [af,aW,rY];ac_nf
   .refine bQ _ _ ⟨ba ar,S.new ar,_,?_,fun c aB=>?_,rfl⟩
    .rw [Se (fun i:Nat=>97 + (dt ns (300 + (i:Int)) 26).toNat) 8,aW,rY]
    .rw [Se (fun i:Nat=>97 + (dt ns (300 + (i:Int)) 26).toNat) 8] at aB;obtain ⟨i,_,rfl⟩:=cc.mp aB;have dX:=ht ns (300 + (i:Int)) (m:=26) (by decide);have el:=hq ns (300 + (i:Int)) (m:=26) (by decide);omega
 rintro cw av ⟨s2,jZ,aD,gw,xF,rfl⟩;have Du:aD.length=8:=by
  have:aD.length=aD.cps.toList.length:=by simp [uQ]
  omega
 have Yt:=ht ns 310 (m:=3) (by decide);have ak_:=hq ns 310 (m:=3) (by decide);subst aT;generalize rJ:dt ns 310 3=way at Yt ak_;exists (fun au I=>I=av/\au=[~~~a,some (.int m),some (.str (ae "abcdefghijklmnopqrstuvwxyz")),some (.str aD),some (.int way),none,none,none,none]),3
 ·(nofun; repeat (dsimp only [ig];nofun));rw [rJ];exact ⟨jZ,by omega,by omega,by decide,bQ _ _ ⟨rfl,rfl⟩⟩
 rintro fI br ⟨rfl,rfl⟩;obtain ⟨at_,i5,NR⟩:∃ at_:Nat,dt ns 311 8=(at_:Nat)/\at_ < 8:=by
  have dX:=ht ns 311 (m:=8) (by decide);have el:=hq ns 311 (m:=8) (by decide);exact ⟨(dt ns 311 8).toNat,by omega,by omega⟩
 subst aT;exists (fun au I=>I=br/\au=[~~~a,some (.int m),some (.str (ae "abcdefghijklmnopqrstuvwxyz")),some (.str aD),some (.int way),some (.int (at_:Nat)),none,none,none]),3
 ·(nofun; repeat (dsimp only [ig];nofun));rw [i5];exact ⟨jZ,by omega,by omega,by omega,bQ _ _ ⟨rfl,rfl⟩⟩
 rintro jE cJ ⟨rfl,rfl⟩;obtain ⟨f,hf,aow⟩:∃ f:Nat,dt ns 312 26=(f:Nat)/\f < 26:=by
  have dX:=ht ns 312 (m:=26) (by decide);have el:=hq ns 312 (m:=26) (by decide);exact ⟨(dt ns 312 26).toNat,by omega,by omega⟩
 subst aT;exists (fun au I=>Sc K a ns I/\aK cJ I/\∃ dN,cJ dN=none/\I dN=some (.lst [])/\au=[~~~a,some (.int m),some (.str (ae "abcdefghijklmnopqrstuvwxyz")),some (.str aD),some (.int way),some (.int (at_:Nat)),~~~dN,none,none]),3
 .nofun;exact ⟨fh _,fun dN hh=>bQ _ _ ⟨jZ.new hh,ba hh,dN,hh,aQ,rfl⟩⟩
 rintro mQ gg ⟨v_,e1,dN,hh,uV,rfl⟩;subst aT;simp only [dG];refine s9 (fun au I=>I=gg/\au=[~~~a,some (.int m),some (.str (ae "abcdefghijklmnopqrstuvwxyz")),some (.str aD),some (.int way),some (.int (at_:Nat)),~~~dN,none,none]) (fun f3 bQ nh _ _=>?_) ?_
 .refine dh (decide (dt ns 313 8=0) && decide (m < 7)) (fun Q aV=>?_) (fun aa=>?_) (fun aa=>?_)
  ·(nofun; repeat (dsimp only [ig];nofun));refine ⟨v_,by decide,by decide,by decide,?_⟩;by_cases bF:dt ns 313 8=0
   .rw [if_pos (decide_eq_true bF),show decide ((m:Int) < 7)=decide (m < 7) from decide_eq_decide.mpr (by omega)];rw [decide_eq_true bF,lU] at aV;exact aV
   .rw [if_neg (by simpa using bF)];rw [decide_eq_false bF,mv] at aV;exact aV
  .rw [iF,decide_eq_true_eq,decide_eq_true_eq] at aa;obtain ⟨cb,dT,gr⟩:=aeZ m aa.2;nofun;refine ⟨by decide,fun p ar=>⟨_,ay.of aQ,fun dO ll=>?_⟩⟩;rw [nh];refine q dO (six.take m) _ (s2.trans (e1.trans ((ba ar).trans (ba ll)))) ((v_.new ar).new ll) ((s2.trans (e1.trans (ba ar))).free ll) ?_ ⟨cb,dT,gr⟩;rw [aQ,agY (show m <= 6 by omega)];unfold aY six;rw [Mo];rfl
  .simp only [gQ];exact bQ _ _ ⟨rfl,rfl⟩
 rintro kO fa ⟨rfl,rfl⟩;obtain ⟨g,a8⟩:∃ g:Nat->List Nat,g=fun k=>if way=0 then pg aD.cps.toList at_ f k else if way=1 then yH aD.cps.toList k else pI aD.cps.toList f k (dt ns (320 + (k:Int)) 8).toNat:=⟨_,rfl⟩
 simp only [dG];exists (fun au I=>Sc K a ns I/\aK cJ I/\(∃ xs:List Str,I dN=some (.lst (aY xs))/\xs.map (·.cps.toList)=(eV m).map g)/\∃ c0 dI,au=[~~~a,some (.int m),some (.str (ae "abcdefghijklmnopqrstuvwxyz")),some (.str aD),some (.int way),some (.int (at_:Nat)),~~~dN,c0,dI]),0
 .nofun;refine ⟨by omega,by omega,?_⟩;refine dZ.range (fun i σ I=>Sc K a ns I/\aK cJ I/\(∃ xs:List Str,I dN=some (.lst (aY xs))/\xs.map (·.cps.toList)=(eV i).map g)/\∃ c0 dI,σ=[~~~a,some (.int m),some (.str (ae "abcdefghijklmnopqrstuvwxyz")),some (.str aD),some (.int way),some (.int (at_:Nat)),~~~dN,c0,dI]) ⟨v_,e1,⟨[],uV,rfl⟩,_,_,rfl⟩ ?_ ?_
  .rintro i σ I ai a_;ac_rfl
   obtain ⟨yI,h4,⟨xs,n0,qh⟩,c0,dI,rfl⟩:=a_;have an2:i < 8:=by have:i < (m:Int).toNat:=ai;omega
   have gN:xs.length=i:=by have:=congrArg ra qh;rwa [aW,aW,rY] at this
   obtain ⟨c,aB,rfl⟩:=RE (i:=((f:Int) + (i:Int)) % 26) (uO _ (by decide)) (vo _ (by decide));have aij:(((f:Int) + (i:Int)) % 26).toNat=(f + i) % 26:=by omega
   subst aT;rw [aij] at aB;simp only [gL,dG,jJ,jM,p8];exists (fun au jv=>jv=I/\au=[~~~a,some (.int m),some (.str (ae "abcdefghijklmnopqrstuvwxyz")),some (.str aD),some (.int way),some (.int (at_:Nat)),~~~dN,some (.int (i:Nat)),some (.str (jV (97 + (f + i) % 26)))]),0
   ·(nofun; repeat (dsimp only [ig];nofun));rw [hf];exact ⟨yI,by decide,by decide,by decide,by decide,by rw [ek];decide,_,aB,bQ _ _ ⟨rfl,rfl⟩⟩
   rintro ahP rx ⟨rfl,rfl⟩;have pA:∀ k:Nat,k <= 1000->k <= sizeLine:=fun k h=>cL h (by decide)
   have Ah:(jV (97 + (f + i) % 26)).length=1:=rfl;have put:∀ nm:Str,nm.cps.toList=g i->Sc K a ns (upd rx dN (.lst (aY xs ++ [.str nm])))/\aK cJ (upd rx dN (.lst (aY xs ++ [.str nm])))/\(∃ ys:List Str,(upd rx dN (.lst (aY xs ++ [.str nm]))) dN=some (.lst (aY ys))/\ys.map (·.cps.toList)=(eV (i + 1)).map g):=fun nm mG=>by
    refine ⟨yI.set n0 (fun _ _ z=>by cases z),h4.gz hh,xs ++ [nm],?_,?_⟩
    .rw [aQ];unfold aY;rw [ed];rfl
    .rw [ed,qh,vL,ed,e8,pv,mG];rfl
   have Ex:(aY xs).length < sizeLine:=gD (show (aY xs).length <= 8 by unfold aY;rw [aW];omega) (by decide);subst aT;dsimp only;refine dh (decide (way=0)) (fun Q aV=>?_) (fun Lo=>?_) (fun Mg=>?_)
   .nofun;exact aV
   .have hw:=of_decide_eq_true Lo;have qX:g i=pg aD.cps.toList at_ f i:=by rw [a8];exact if_pos hw
    have cz:=um aD none (some (at_:Int));have cK:=um aD (some ((at_:Int) + 1)) none;nofun;refine ⟨.inl ⟨_,ay.of n0⟩,by rw [Du];decide,pA _ (by omega),by rw [Du];decide,pA _ (by rw [pY];omega),_,n0,Ex,?_⟩;obtain ⟨dO,dH,iD⟩:=put (mx aD none (some (at_:Int)) ++ jV (97 + (f + i) % 26) ++ mx aD (some ((at_:Int) + 1)) none) (by
     rw [qX];unfold pg;rw [pd,o1,pd,o1,Eu aD (by omega),show ((at_:Int) + 1)=((at_ + 1:Nat):Int) by omega,Yq aD (by omega)]
     rfl)
    exact ⟨dO,dH,iD,_,rfl⟩
   .have hw:=of_decide_eq_false Mg;refine dh (decide (way=1)) (fun Q aV=>?_) (fun Lo=>?_) (fun Mg=>?_)
    .nofun;by_cases bh:way=1
     .rw [if_pos (decide_eq_true bh),decide_eq_true (show (m:Int) < 9 by omega)];rw [decide_eq_true bh] at aV;exact aV
     .rw [if_neg (by simpa using bh)];rw [decide_eq_false bh] at aV;exact aV
    .have wD:=of_decide_eq_true Lo;have qX:g i=yH aD.cps.toList i:=by rw [a8];exact (if_neg hw).trans (if_pos wD)
     nofun;refine ⟨.inl ⟨_,ay.of n0⟩,by rw [Du];decide,_,n0,Ex,?_⟩;obtain ⟨dO,dH,iD⟩:=put (mx aD none (some ((i:Int) + 1))) (by
      rw [qX,show ((i:Int) + 1)=((i + 1:Nat):Int) by omega,Eu aD (by omega)]
      rfl)
     exact ⟨dO,dH,iD,_,rfl⟩
    .have wD:=of_decide_eq_false Mg;have qX:g i=pI aD.cps.toList f i (dt ns (320 + (i:Int)) 8).toNat:=by rw [a8];exact (if_neg hw).trans (if_neg wD)
     have dX:=ht ns (320 + (i:Int)) (m:=8) (by decide);have el:=hq ns (320 + (i:Int)) (m:=8) (by decide);(nofun; repeat (dsimp only [ig];nofun));obtain ⟨C2,Vl⟩:∃ C2:Nat,dt ns (320 + (i:Int)) 8=(C2:Int):=⟨_,(sg dX).symm⟩;rw [Vl] at qX el;rw [Vl];rw [lI] at qX;have cz:=um aD none (some (C2:Int));refine ⟨.inl ⟨_,ay.of n0⟩,yI,by omega,by omega,by decide,by rw [Du];decide,pA _ (by omega),_,n0,Ex,?_⟩;obtain ⟨dO,dH,iD⟩:=put (jV (97 + (f + i) % 26) ++ mx aD none (some (C2:Int))) (by
      rw [qX];unfold pI;rw [pd,o1,Eu aD (by omega)]
      rfl)
     exact ⟨dO,dH,iD,_,rfl⟩
  .rintro σ I a_;ac_rfl
   obtain ⟨yI,h4,⟨xs,n0,qh⟩,c0,dI,rfl⟩:=a_;subst aT;exact bQ _ _ ⟨yI,h4,⟨xs,n0,by rw [qh,show (m:Int).toNat=m by omega]⟩,c0,dI,rfl⟩
 rintro sM iC ⟨YU,hH,⟨xs,Ey,qh⟩,c0,dI,rfl⟩;have gN:xs.length=m:=by have:=congrArg ra qh;rwa [aW,aW,rY] at this
 have ajC:∀ k:Nat,(dt ns (320 + (k:Int)) 8).toNat < 8:=fun k=>by
  have dX:=ht ns (320 + (k:Int)) (m:=8) (by decide);have el:=hq ns (320 + (k:Int)) (m:=8) (by decide);omega
 have ahQ:∀ k,k < m->(1 <= (g k).length/\(g k).length <= 8)/\∀ c ∈ g k,97 <= c/\c <= 122:=fun k aC=>by
  rw [a8];dsimp only;split
  .have:=abg gw xF (f:=f) (k:=k) NR;exact ⟨by omega,this.2⟩
  .split
   .have:=F7 gw xF (k:=k) (by omega);exact ⟨by omega,this.2⟩
   .exact alH gw xF (ajC k)
 have agm:∀ i j,i < m->j < m->g i=g j->i=j:=fun i j ai aG e=>by
  rw [a8] at e;dsimp only at e;by_cases bF:way=0
  .rw [if_pos bF,if_pos bF] at e;exact abO gw NR (by omega) (by omega) e
  .rw [if_neg bF,if_neg bF] at e;by_cases bh:way=1
   .rw [if_pos bh,if_pos bh] at e;have af:=F7 gw xF (k:=i) (by omega);have ak:=F7 gw xF (k:=j) (by omega);rw [e] at af;omega
   .rw [if_neg bh,if_neg bh] at e;exact agA (by omega) (by omega) e
 have Gx:∀ (i:Nat) (x:Str),xs[i]? = some x->i < m/\x.cps.toList=g i:=fun i x ah=>by
  have ai:i < m:=by rw [<- gN];exact (b6.mp ah).1
  have e:=congrArg (fun l=>l[i]?) qh
  try dsimp only at e
  rw [df,ah,df,BE ai] at e;exact ⟨ai,eE e⟩
 have N:Jr m xs:=by
  refine ⟨gN,ae2.mpr fun i j ai aG kS e=>?_,fun x ah=>?_⟩
  .obtain ⟨a1,a2⟩:=Gx i _ (a' ai);obtain ⟨fx,fA⟩:=Gx j _ (a' aG);rw [e,fA] at a2;have:=agm i j a1 fx a2.symm;omega
  .obtain ⟨i,ai⟩:=hU ah;obtain ⟨a1,a2⟩:=Gx i _ ai;have:=ahQ i a1;exact aek a2 this.1.1 this.1.2 this.2
 subst aT;nofun;exact q dN xs iC (s2.trans hH) YU (s2.free hh) Ey N
noncomputable abbrev lg (d:bc):List V:=[.str (eN d.k),.str d.name,.int d.start,.int d.fin,.int d.off,.int d.near,.int d.least]
def jB (H:aw) (wl:Addr) (ds:List bc):Prop:=∃ qs:List Addr,H wl=some (.lst (qs.map V.ref))/\qs.length=ds.length/\∀ (i:Nat) (q:Addr) (d:bc),qs[i]? = some q->ds[i]? = some d->H q=some (.tup (lg d))
theorem jB.same (h:jB H wl ds) (s:aK H I):jB I wl ds:=by
 obtain ⟨qs,aq,aH,al⟩:=h;exact ⟨qs,s _ _ aq,aH,fun i q d af ak=>s _ _ (al i q d af ak)⟩
theorem jB.snoc {H:aw} {wl p:Addr} {ds:List bc} {d:bc} {qs:List Addr} (cz:H wl=some (.lst (qs.map V.ref))) (cK:qs.length=ds.length)
  (al:∀ (i:Nat) (q:Addr) (d:bc),qs[i]? = some q->ds[i]? = some d->H q=some (.tup (lg d))) (ar:H p=none) :
  jB (upd (upd H p (.tup (lg d))) wl (.lst (qs.map V.ref ++ [.ref p]))) wl (ds ++ [d]):=by
 have j2:p ≠ wl:=(dm cz ar).symm;refine ⟨qs ++ [p],by rw [aQ,ed];rfl,by rw [cZ,cZ,cK];rfl,fun i q e af ak=>?_⟩;rcases mF af with ⟨f9,eg⟩ | ⟨f9,rfl⟩
 .rcases mF ak with ⟨oH,pJ⟩ | ⟨oH,_⟩
  .have:=al i q e eg pJ;rw [aM (cx this cz (by intro z;cases z)),aM (dm this ar)];exact this
  .omega
 .rcases mF ak with ⟨oH,pJ⟩ | ⟨oH,rfl⟩
  .omega
  .rw [aM j2,aQ]
theorem aaJ {n s j:Int} (h0:0 <= s) (af:s < n) (ak:0 <= j) (a5:j < n - 1):s ≠ (s + 1 + j) % n:=by
 by_cases c:s + 1 + j < n
 .rw [m' (by omega) c];omega
 .rw [show s + 1 + j=(s + 1 + j - n) + n * 1 by omega,Bx,m' (by omega) (by omega)];omega
structure s8 (n:Int) (ds:List bc):Prop where
 al:∀ d ∈ ds,nL n d/\True
 aI:(ds.map (·.name)).Nodup
theorem s8.TG (h:s8 n ds) (aX:2 <= n/\n <= 99) (aL:1 <= ds.length/\ds.length <= 12):sV n ds:=⟨aX,aL,fun d hd=>(h.al d hd).1,h.aI⟩
def Ul (K:bk) (a:Addr) (ns:List Int):bM:=fun vs H Q _=>∃ most:Int,vs=[.ref a,.int most]/\(1 <= most/\most <= 8)/\Sc K a ns H /\
 ∀ j0 wl n ds I,aK H I->Sc K a ns I->I j0=some (.tup [.int n,.ref wl])->jB I wl ds->s8 n ds->(∀ d ∈ ds,d.least <= 4)->(4 <= n/\n <= 99)->(1 <= ds.length/\(ds.length:Int) <= most)->Q (.ref j0) I
theorem ahh (h0:0 <= i) (af:i < 4):∃ k:Nat,k < 3/\fZ [V.str (ae "car"),V.str (ae "car"),V.str (ae "foot"),V.str (ae "tram")] i=some (.str (eN k)):=by
 have:i=0\/i=1\/i=2\/i=3:=by omega
 rcases this with rfl | rfl | rfl | rfl
 .exact ⟨0,by decide,cp (j:=0) rfl⟩
 .exact ⟨0,by decide,cp (j:=1) rfl⟩
 .exact ⟨1,by decide,cp (j:=2) rfl⟩
 .exact ⟨2,by decide,cp (j:=3) rfl⟩
theorem at2 (x y:V) (c:Bool):fZ [x,y] (if c=true then 1 else 0)=some (if c=true then y else x):=by
 cases c with
 | true=>exact cp (j:=1) rfl
 | false=>exact cp (j:=0) rfl
theorem X' (a:Addr) (ns:List Int) (hl:ns.length <= 63):cm P base T 3 t.BC t.Af z1 (Ul K a ns):=by
 refine cv (Ap T a ns hl) fun eX=>cv (af7 T a ns hl) fun amP=>?_;exists T.Lz.ok nu,9
 obtain ⟨most,rfl,ani,S,q⟩:=h;refine ⟨_,(db (bT (i:=2) nu.aI (bZ c8 (ld (ag (bE d4 aO (bU eX ao T.fL T.e6.bl T.fH (ag (U 0) (ag aO (ag aO aA))))) (ag aO aA))) (p4 SI rfl T.J_ KO (ag (h7 et (bU eX ao T.fL T.e6.bl T.fH (ag (U 0) (ag aO (ag aO aA)))) aO (cA _)) aA))))
   (db (bT (i:=3) nu.aI (bU amP ao T.acf T.K3.bl T.aa4 (ag (U 0) (ag (bE d4 aO (bU eX ao T.fL T.e6.bl T.fH (ag (U 0) (ag aO (ag (U 1) aA))))) aA))))
   (db (bT (i:=4) nu.aI (ld aA))
   (db (fw fF rfl (kN rfl T.j' (ag (fP hL rfl T.hz hE (ag (U 3) aA)) aA)) (b7 (i:=5) nu.aI) (db (bT (i:=6) nu.aI (bU eX ao T.fL T.e6.bl T.fH (ag (U 0) (ag (bE d4 aO (bE kg aO (U 5))) (ag (U 2) aA)))))
   (db (bT (i:=7) nu.aI (bE iH (bE d4 (bE d4 (U 6) aO) (bU eX ao T.fL T.e6.bl T.fH (ag (U 0) (ag (bE d4 aO (bE kg aO (U 5))) (ag (bE k' (U 2) aO) aA))))) (U 2)))
   (db (bT (i:=8) nu.aI (bZ c8 (ld (ag dF (ag dF (ag dF (ag dF aA))))) (bU eX ao T.fL T.e6.bl T.fH (ag (U 0) (ag (bE d4 aO (bE kg aO (U 5))) (ag aO aA))))))
   (db (bT (i:=9) nu.aI (bZ c8 (ld (ag (bU eX ao T.fL T.e6.bl T.fH (ag (U 0) (ag (bE d4 aO (bE kg aO (U 5))) (ag aO aA)))) (ag aO aA))) (p4 SI rfl T.J_ KO (ag (h7 et (bU eX ao T.fL T.e6.bl T.fH (ag (U 0) (ag (bE d4 aO (bE kg aO (U 5))) (ag aO aA)))) aO (cA _)) aA))))
   (db (bT (i:=10) nu.aI (bU eX ao T.fL T.e6.bl T.fH (ag (U 0) (ag (bE d4 aO (bE kg aO (U 5))) (ag aO aA)))))
   (db (dU (fM.pt (md (cX et (bU eX ao T.fL T.e6.bl T.fH (ag (U 0) (ag aO (ag aO aA)))) aO (cA _)) (mi (cX rb (bU eX ao T.fL T.e6.bl T.fH (ag (U 0) (ag (bE d4 aO (U 5)) (ag aO aA)))) aO (cA _))))) (db (bT (i:=8) nu.aI dF)
   (a0 (bT (i:=9) nu.aI aO))) eh)
   (a0 (dS (eF f6 kr kz j9 (U 4) (ag (p1 (ag (U 8) (ag (bZ c8 (U 3) (U 5)) (ag (U 6) (ag (U 7) (ag (U 9) (ag (U 10) (ag (bE d4 aO (bU eX ao T.fL T.e6.bl T.fH (ag (U 0) (ag (bE d4 aO (bE kg aO (U 5))) (ag aO aA))))) aA)))))))) aA)))))))))))
   (a0 (b' (p1 (ag (U 2) (ag (U 4) aA))))))))),?_⟩
 exists (fun au I=>aK H I/\Sc K a ns I/\∃ n:Int,(4 <= n/\n <= 99)/\au=[~~~a,some (.int most),some (.int n),none,none,none,none,none,none,none,none]),3
 .have dX:=ht ns 2 (m:=13) (by decide);have el:=hq ns 2 (m:=13) (by decide);(nofun; repeat (dsimp only [ig];nofun));obtain ⟨n,aX,qz⟩:∃ n:Int,(4 <= n/\n <= 99)/\(if decide (dt ns 3 6=0)=true then V.int 99 else V.int (4 + dt ns 2 13))=V.int n:=by
   split
   .exact ⟨99,by decide,rfl⟩
   .exact ⟨_,by omega,rfl⟩
  refine ⟨S,by decide,by decide,by decide,by decide,fun p ar=>⟨S.new ar,by decide,by decide,by decide,_,ay.of aQ,_,at2 _ _ _,?_⟩⟩;rw [qz];exact bQ _ _ ⟨ba ar,S.new ar,n,aX,rfl⟩
 rintro anr cu ⟨s0,Cd,n,aX,rfl⟩;obtain ⟨m,ahw,hm⟩:∃ m:Nat,1 + dt ns 1 most=(m:Nat)/\(1 <= m/\m <= 8/\(m:Int) <= most):=by
  have dX:=ht ns 1 (m:=most) (by omega);have el:=hq ns 1 (m:=most) (by omega);exact ⟨(1 + dt ns 1 most).toNat,by omega,by omega⟩
 subst aT;exists (fun au I=>aK cu I/\Sc K a ns I/\∃ nl xs,I nl=some (.lst (aY xs))/\Jr m xs/\au=[~~~a,some (.int most),some (.int n),~~~nl,none,none,none,none,none,none,none]),3
 .nofun;refine ⟨_,_,rfl,Cd,by decide,by omega,_,rfl,?_⟩;rw [ahw];exact ⟨m,rfl,Cd,by omega,fun p xs I s1 oN _ e N=>bQ _ _ ⟨s1,oN,p,xs,e,N,rfl⟩⟩
 rintro fk H1 ⟨s1,oN,nl,xs,qz,N,rfl⟩;subst aT;exists (fun au I=>Sc K a ns I/\aK H1 I/\∃ wl,H1 wl=none/\I wl=some (.lst [])/\au=[~~~a,some (.int most),some (.int n),~~~nl,~~~wl,none,none,none,none,none,none]),3
 .nofun;exact ⟨fh _,fun wl gw=>bQ _ _ ⟨oN.new gw,ba gw,wl,gw,aQ,rfl⟩⟩
 rintro fI br ⟨p3,s3,wl,gw,hY,rfl⟩;have UI:(aY xs).length=m:=by unfold aY;rw [aW,N.1]
 subst aT;nofun;refine ⟨_,.inl (ay.of (s3 _ _ qz)),by omega,by rw [UI];omega,?_⟩;rw [show (((aY xs).length:Nat):Int).toNat=m by rw [UI];rfl];refine dZ.range (fun i σ I=>Sc K a ns I/\aK H1 I/\(∃ ds,jB I wl ds/\ds.length=i/\(∀ d ∈ ds,nL n d/\d.least <= 4)/\∀ (j:Nat) (d:bc),ds[j]? = some d->xs[j]? = some d.name)/\∃ d1 cC c0 dI oG iT,σ=[~~~a,some (.int most),some (.int n),~~~nl,~~~wl,d1,cC,c0,dI,oG,iT]) ⟨p3,s3,⟨[],⟨[],hY,rfl,fun i q d h=>by simp at h⟩,rfl,fun d h=>by simp at h,fun j d h=>by simp at h⟩,_,_,_,_,_,_,rfl⟩ ?_ ?_
 .rintro i σ I ai a_;ac_rfl
  obtain ⟨kv,s4,⟨ds,hr,gP,bu,mG⟩,d1,cC,c0,dI,oG,iT,rfl⟩:=a_;have B7:i < m:=ai;have zL:xs[i]? = some (xs[i]'(by rw [N.1];exact B7)):=a' _;subst aT;generalize xs[i]'(by rw [N.1];exact B7)=nm at zL;have ajc:=s4 _ _ qz;have agW:fZ (aY xs) ((i:Nat):Int)=some (.str nm):=cp (by unfold aY;rw [df,zL];rfl);simp only [gL,dG,jJ,jM,p8];exists (fun au jv=>jv=I/\∃ st:Int,(0 <= st/\st < n)/\au=[~~~a,some (.int most),some (.int n),~~~nl,~~~wl,some (.int (i:Nat)),some (.int st),c0,dI,oG,iT]),0
  .have dX:=ht ns (10 + 7 * (i:Int)) (m:=n) (by omega);have el:=hq ns (10 + 7 * (i:Int)) (m:=n) (by omega);(nofun; repeat (dsimp only [ig];nofun));exact ⟨.inl ⟨by decide,by decide⟩,kv,by omega,by omega,by omega,bQ _ _ ⟨rfl,_,⟨dX,el⟩,rfl⟩⟩
  rintro ahP rx ⟨rfl,st,fS,rfl⟩;subst aT;simp only [dG];exists (fun au jv=>jv=rx/\∃ fD:Int,(0 <= fD/\fD < n)/\st ≠ fD/\au=[~~~a,some (.int most),some (.int n),~~~nl,~~~wl,some (.int (i:Nat)),some (.int st),some (.int fD),dI,oG,iT]),0
  .have dX:=ht ns (11 + 7 * (i:Int)) (m:=n - 1) (by omega);have el:=hq ns (11 + 7 * (i:Int)) (m:=n - 1) (by omega);have m0:=uO (st + 1 + dt ns (11 + 7 * (i:Int)) (n - 1)) (show n ≠ 0 by omega);have k9:=vo (st + 1 + dt ns (11 + 7 * (i:Int)) (n - 1)) (show 0 < n by omega);(nofun; repeat (dsimp only [ig];nofun));exact ⟨.inl ⟨by decide,by decide⟩,kv,by omega,by omega,by omega,by omega,bQ _ _ ⟨rfl,_,⟨m0,k9⟩,aaJ fS.1 fS.2 dX (by omega),rfl⟩⟩
  rintro an0 lz ⟨rfl,fD,F2,cj,rfl⟩;subst aT;simp only [dG];exists (fun au jv=>aK lz jv/\Sc K a ns jv/\∃ k:Nat,k < 3/\au=[~~~a,some (.int most),some (.int n),~~~nl,~~~wl,some (.int (i:Nat)),some (.int st),some (.int fD),some (.str (eN k)),oG,iT]),0
  .have dX:=ht ns (12 + 7 * (i:Int)) (m:=4) (by decide);have el:=hq ns (12 + 7 * (i:Int)) (m:=4) (by decide);obtain ⟨k,aC,i5⟩:=ahh dX el;(nofun; repeat (dsimp only [ig];nofun));exact ⟨by decide,fun p ar=>⟨.inl ⟨by decide,by decide⟩,kv.new ar,by omega,by omega,by decide,_,ay.of aQ,_,i5,bQ _ _ ⟨ba ar,kv.new ar,k,aC,rfl⟩⟩⟩
  rintro aoz KI ⟨ky,SC,tO,ju,rfl⟩;subst aT;simp only [dG];exists (fun au jv=>aK KI jv/\Sc K a ns jv/\∃ ti:Int,(0 <= ti/\ti <= 30)/\au=[~~~a,some (.int most),some (.int n),~~~nl,~~~wl,some (.int (i:Nat)),some (.int st),some (.int fD),some (.str (eN tO)),some (.int ti),iT]),0
  .have dX:=ht ns (13 + 7 * (i:Int)) (m:=9) (by decide);have el:=hq ns (13 + 7 * (i:Int)) (m:=9) (by decide);(nofun; repeat (dsimp only [ig];nofun));obtain ⟨v,aF,qz⟩:∃ v:Int,(0 <= v/\v <= 30)/\(if decide (dt ns (14 + 7 * (i:Int)) 12=0)=true then V.int 30 else V.int (dt ns (13 + 7 * (i:Int)) 9))=V.int v:=by
    split
    .exact ⟨30,by decide,rfl⟩
    .exact ⟨_,by omega,rfl⟩
   refine ⟨.inl ⟨by decide,by decide⟩,SC,by omega,by omega,by decide,by decide,fun p ar=>⟨.inl ⟨by decide,by decide⟩,SC.new ar,by omega,by omega,by decide,_,ay.of aQ,_,at2 _ _ _,?_⟩⟩;rw [qz];exact bQ _ _ ⟨ba ar,SC.new ar,v,aF,rfl⟩
  rintro aoL Qb ⟨tN,y1,R1,YS,rfl⟩;subst aT;simp only [dG];exists (fun au jv=>jv=Qb/\∃ HU:Int,(0 <= HU/\HU <= 5)/\au=[~~~a,some (.int most),some (.int n),~~~nl,~~~wl,some (.int (i:Nat)),some (.int st),some (.int fD),some (.str (eN tO)),some (.int R1),some (.int HU)]),0
  .have dX:=ht ns (15 + 7 * (i:Int)) (m:=6) (by decide);have el:=hq ns (15 + 7 * (i:Int)) (m:=6) (by decide);(nofun; repeat (dsimp only [ig];nofun));exact ⟨.inl ⟨by decide,by decide⟩,y1,by omega,by omega,by decide,bQ _ _ ⟨rfl,_,by omega,rfl⟩⟩
  rintro anB aiT ⟨rfl,ne1,ZP,rfl⟩;subst aT;simp only [dG];exists (fun au jv=>jv=aiT/\∃ (k:Nat) (ti:Int),k < 3/\(0 <= ti/\ti <= 30)/\au=[~~~a,some (.int most),some (.int n),~~~nl,~~~wl,some (.int (i:Nat)),some (.int st),some (.int fD),some (.str (eN k)),some (.int ti),some (.int ne1)]),0
  .refine dh (decide (dt ns 9 6=0) && decide (0 < dt ns (60 + (i:Int)) 4)) (fun Q aV=>?_) (fun _=>?_) (fun _=>?_)
   ·(nofun; repeat (dsimp only [ig];nofun));refine ⟨y1,by omega,by omega,by decide,?_⟩;by_cases bF:dt ns 9 6=0
    .rw [if_pos (decide_eq_true bF)];rw [decide_eq_true bF,lU] at aV;exact ⟨y1,by omega,by omega,by decide,aV⟩
    .rw [if_neg (by simpa using bF)];rw [decide_eq_false bF,mv] at aV;exact aV
   .nofun;exact bQ _ _ ⟨rfl,1,0,by decide,by decide,rfl⟩
   .nofun;exact bQ _ _ ⟨rfl,tO,R1,ju,YS,rfl⟩
  rintro aoJ apf ⟨rfl,k,of2,aC,ah9,rfl⟩;have h2:=ky.trans tN;have aiY:=h2 _ _ ajc;have ZK:=hr.same h2;have dX:=ht ns (16 + 7 * (i:Int)) (m:=4) (by decide);have el:=hq ns (16 + 7 * (i:Int)) (m:=4) (by decide);obtain ⟨u9,ad6,hle⟩:∃ u9:Int,1 + dt ns (16 + 7 * (i:Int)) 4=u9/\1 <= u9/\u9 <= 4:=⟨_,rfl,by omega,by omega⟩;obtain ⟨qs,cz,cK,al⟩:=ZK;subst aT;(nofun; repeat (dsimp only [ig];nofun));rw [ad6];refine ⟨.inl ⟨_,ay.of cz⟩,_,ay.of aiY,_,agW,.inl ⟨by decide,by decide⟩,y1,by omega,by omega,by decide,by decide,fun p ar=>?_⟩;have ep:wl ≠ p:=dm cz ar;have nR:=jB.snoc (d:=⟨k,nm,st,fD,of2,ne1,u9⟩) cz cK al ar;refine ⟨_,by rw [aM ep];exact cz,gD (show (qs.map V.ref).length <= 8 by rw [aW];omega) (by decide),(y1.new ar).set (by rw [aM ep];exact cz) (fun _ _ z=>by cases z),((s4.trans h2).trans (ba ar)).gz gw,⟨ds ++ [⟨k,nm,st,fD,of2,ne1,u9⟩],nR,by rw [cZ,gP];rfl,fun d hd=>?_,fun j d hd=>?_⟩,?_⟩
  .rcases eR.mp hd with hd | hd
   .exact bu d hd
   .rw [eY.mp hd];exact ⟨⟨aC,N.2.2 nm (b9 zL),⟨fS.1,fS.2⟩,⟨F2.1,F2.2⟩,cj,ah9,⟨ZP.1,by dsimp only;omega⟩,⟨hle.1,by dsimp only;omega⟩⟩,hle.2⟩
  .rcases mF hd with ⟨_,z⟩ | ⟨z,rfl⟩
   .exact mG j d z
   .rw [z,gP];exact zL
  .repeat (first | exact ⟨_,rfl⟩ | refine ⟨⟨_,rfl⟩,?_⟩)
 .rintro σ I a_;ac_rfl
  obtain ⟨kv,s4,⟨ds,hr,gP,bu,mG⟩,d1,cC,c0,dI,oG,iT,rfl⟩:=a_;subst aT;nofun;refine ⟨by decide,fun j0 pL=>?_⟩;refine q j0 wl n ds _ (((s0.trans s1).trans s4).trans (ba pL)) (kv.new pL) aQ (hr.same (ba pL)) ⟨fun d hd=>⟨(bu d hd).1,trivial⟩,?_⟩ (fun d hd=>(bu d hd).2) aX (by omega);have e:ds.map (·.name)=xs:=by
   refine List.ext_getElem? fun j=>?_
   rw [df];cases h:ds[j]? with
   | some d=>exact (mG j d h).symm
   | none=>
    have:ds.length <= j:=Y'.mp h;exact (Y'.mpr (by rw [N.1];omega)).symm
  rw [e];exact N.2.1
theorem YE (d:bc):((((eN d.k ++ ae " ") ++ d.name) ++ ae " ") ++ qr (ae " ") [num d.start,num d.fin,num d.off,num d.near,num d.least])=d7 cP (nH d):=by
 apply Bs;have fR:(ae " ").cps.toList=[32]:=by ac_nf
 rw [show qr (ae " ") [num d.start,num d.fin,num d.off,num d.near,num d.least]=d7 cP [num d.start,num d.fin,num d.off,num d.near,num d.least] from zd _ _];rw [pd,o1,SL,r7,r7];unfold nH;simp only [pd,o1,e8,pv,lN,fR,l7,zq,Lw]
theorem Zl (n:Int):ae "ring " ++ num n=d7 cP [ae "ring",num n]:=by
 apply Bs;have aq:(ae "ring ").cps.toList=[114,105,110,103,32]:=by ac_nf
 have aH:(ae "ring").cps.toList=[114,105,110,103]:=by ac_nf
 rw [SL,r7];simp only [pd,o1,e8,pv,lN,aq,aH,zq,Lw]
theorem zJ:∀ {ys:List Str},(∀ y ∈ ys,y.length <= B)->(ys.map (·.length)).sum <= ys.length * B
 | [],_=>by simp
 | a :: r,h=>by
  have af:=h a (by simp);have ak:=zJ (B:=B) (ys:=r) fun y a6=>h y (ik _ a6)
  rw [e8,yk,gy,xD];omega
theorem abe (h:sV n ds):∀ y ∈ (ip n ds).map (d7 cP),y.length <= 63:=fun y a6=>by
 obtain ⟨r,ao,rfl⟩:=cc.mp a6;have:=qS cP 8 r fun x ah=>(h.plain r ao x ah).1
 rw [rS] at this;have aL:r.length <= 7:=by
  rcases en.mp ao with rfl | ao
  .simp
  .obtain ⟨d,hd,rfl⟩:=cc.mp ao;simp [nH]
 omega
def Rz (K:bk):bM:=fun vs H Q _=>∃ n wl ds,vs=[.int n,.ref wl]/\jB H wl ds/\s8 n ds/\(2 <= n/\n <= 99)/\(1 <= ds.length/\ds.length <= 12)/\aJ H/\Q (.str (qu n ds)) H
def acn (K:bk):bM:=fun vs H Q _=>∃ n wl ds,vs=[.int n,.ref wl]/\jB H wl ds/\s8 n ds/\(2 <= n/\n <= 99)/\(1 <= ds.length/\ds.length <= 12)/\∀ I,aK H I->Q (.str (qu n ds)) I
theorem XG:cm P base T 1 t.Cr t.zt CT (Rz K):=by
 refine cD.forget (sp:=acn K) ?_ fun vs H Q E h=>?_
 .exists T.I7.ok HN,9
  obtain ⟨n,wl,ds,rfl,L,D,aX,aL,q⟩:=h;refine ⟨_,(db (bT (i:=2) HN.aI (ld (ag (bE be dF (p4 yD rfl T.xY wu (ag (U 0) aA))) aA)))
   (db (fw fF rfl (e5 (U 1)) (b7 (i:=3) HN.aI) (a0 (dS (eF f6 kr kz j9 (U 2) (ag (bE be (bE be (bE be (bE be (bZ gR (U 3) aO) dF) (bZ gR (U 3) aO)) dF) (eF vt AI Az xm dF (ag (g_ rfl (acV (mR aiN (U 3) (mH aO) nI)) (fO (sc:=bt G4) rfl (by ac_nf)) (N:=["_law_number"]) (sel:=[none]) (fT (M:=["_law_places","_law_ways_here","_law_rows","_law_way"]) (by ac_nf)) (e3.of (fun _ _ _ _=>(b7 (i:=0) (d3 (N:=["_law_number"]) (by ac_nf) rfl))) (fun _ _ _ _=>⟨_,hn,by walk_at "B"⟩) (fun _ _ _ _=>⟨_,(p4 yD rfl T.xY wu (ag (U 0) aA)),by walk_at "B"⟩))) aA))) aA)))))
   (a0 (b' (eF vt AI Az xm dF (ag (U 2) aA)))))),?_⟩
  have dg:=D.TG aX aL;obtain ⟨qs,cz,cK,al⟩:=L;have hlen:∀ x:Str,qO x->x.length <= 8:=fun x h=>h.1
  have pA:∀ k:Nat,k <= 1000->k <= sizeLine:=fun k h=>cL h (by decide)
  have aiy:(ae "ring ").length=5:=by ac_nf
  have rA:(ae " ").length=1:=by ac_nf
  nofun;have aoI:(ae (toString n)).length <= 8:=(lx (v:=n) (by omega) (by omega)).1;refine ⟨Mm (by omega),pA _ (by rw [aiy];omega),by decide,fun dN zD=>?_⟩;rw [Zl];have s0:aK H (upd H dN (.lst [V.str (d7 cP [ae "ring",num n])])):=ba zD;refine ⟨⟨_,ay.of (s0 _ _ cz)⟩,?_⟩;refine dZ.list (xs:=qs.map V.ref) (fun i σ I=>aK H I/\I dN=some (.lst (aY ((ip n (ds.take i)).map (d7 cP))))/\∃ x,σ=[some (.int n),~~~wl,~~~dN,x]) ?_ ?_ ?_ ?_
  .exact ⟨s0,aQ,none,rfl⟩
  .rintro i σ I ai ⟨bq,_,_⟩;exact ay.of (bq _ _ cz)
  .rintro i v σ I aF a_;ac_rfl
   obtain ⟨bq,ao,x,rfl⟩:=a_;obtain ⟨dB,aR,rfl⟩:=b8 aF;have mw:i < ds.length:=by rw [<- cK];exact (b6.mp aR).1
   have hd:ds[i]? = some ds[i]:=a' mw;have lq:dR K I dB (lg ds[i]):=dR.of (bq _ _ (al i dB _ aR hd));have hw:=(D.al _ (b9 hd)).1;have fx:=hw.st;have fA:=hw.fD;have iE:=hw.of;have ki:=hw.vU;have pQ:=hw.le;have f9:=hlen _ (UM ds[i].k);have eg:=hlen _ (Gh hw.nm);have MJ:(num ds[i].start).length <= 8:=hlen _ (lx (v:=ds[i].start) (by omega) (by omega));have am':(num ds[i].fin).length <= 8:=hlen _ (lx (v:=ds[i].fin) (by omega) (by omega));have aov:(num ds[i].off).length <= 8:=hlen _ (lx (v:=ds[i].off) (by omega) (by omega));have aof:(num ds[i].least).length <= 8:=hlen _ (lx (v:=ds[i].least) (by omega) (by omega));have aoW:(num ds[i].near).length <= 8:=hlen _ (lx (v:=ds[i].near) (by omega) (by omega));subst aT;nofun;refine ⟨.inl ⟨_,ay.of ao⟩,?_⟩;have amy:fZ (lg ds[i]) 0=some (.str (eN ds[i].k)):=cp (j:=0) rfl;have afe:fZ (lg ds[i]) 1=some (.str ds[i].name):=cp (j:=1) rfl;refine ⟨_,lq,_,amy,_,rfl,pA _ (by omega),_,lq,_,afe,_,rfl,pA _ (by rw [pY];omega),pA _ (by simp only [pY];omega),?_⟩;have Li:iM (lg ds[i]) (some 2) none=[.int ds[i].start,.int ds[i].fin,.int ds[i].off,.int ds[i].near,.int ds[i].least]:=rfl;refine ⟨_,lq,?_,fun p ar=>⟨⟨_,dR.of aQ⟩,?_⟩⟩
   .show ¬ (eM.c7 7 0 (some 2)=0/\eM.c7 7 7 none=7);decide
   rw [Li];have ao5:(qr (ae " ") [num ds[i].start,num ds[i].fin,num ds[i].off,num ds[i].near,num ds[i].least]).length <= 50:=by
    rw [show qr (ae " ") [num ds[i].start,num ds[i].fin,num ds[i].off,num ds[i].near,num ds[i].least]=d7 cP [num ds[i].start,num ds[i].fin,num ds[i].off,num ds[i].near,num ds[i].least] from zd _ _];have:=qS cP 8 [num ds[i].start,num ds[i].fin,num ds[i].off,num ds[i].near,num ds[i].least] (fun y a6=>by
     simp only [en,oC,or_false] at a6;rcases a6 with rfl | rfl | rfl | rfl | rfl <;> assumption)
    rw [rS] at this;simp only [gy,y4] at this;omega
   refine c1.YN (xs:=[.int ds[i].start,.int ds[i].fin,.int ds[i].off,.int ds[i].near,.int ds[i].least]) (zs:=aY [num ds[i].start,num ds[i].fin,num ds[i].off,num ds[i].near,num ds[i].least]) (dR.of aQ) (pA _ (show 5 <= 1000 by decide)) rfl (fun j v z N aF aN bj=>?_) (fun dH fV=>?_)
   .have key:∃ a:Int,v=.int a/\z=.str (num a)/\0 <= a/\a < 100:=by
     match j,aF,aN with
     | 0,aF,aN=>cases aF;cases aN;exact ⟨_,rfl,rfl,fx.1,by omega⟩
     | 1,aF,aN=>cases aF;cases aN;exact ⟨_,rfl,rfl,fA.1,by omega⟩
     | 2,aF,aN=>cases aF;cases aN;exact ⟨_,rfl,rfl,iE.1,by omega⟩
     | 3,aF,aN=>cases aF;cases aN;exact ⟨_,rfl,rfl,ki.1,by omega⟩
     | 4,aF,aN=>cases aF;cases aN;exact ⟨_,rfl,rfl,by omega,by omega⟩
     | k + 5,aF,aN=>simp at aF
    obtain ⟨a,rfl,rfl,aoy,an'⟩:=key;nofun;exact ⟨Sub.name,Mm (by omega),bj⟩
   .nofun;have af6:dN ≠ dH:=by
     rintro rfl;rw [aM (dm ao ar)] at fV;rw [fV] at ao;cases ao
    have hh:(upd (upd I p (.tup [.int ds[i].start,.int ds[i].fin,.int ds[i].off,.int ds[i].near,.int ds[i].least])) dH (.lst (aY [num ds[i].start,num ds[i].fin,num ds[i].off,num ds[i].near,num ds[i].least]))) dN=some (.lst (aY ((ip n (ds.take i)).map (d7 cP)))):=by
     rw [aM af6,aM (dm ao ar)];exact ao
    have wm:aK I (upd (upd I p (.tup [.int ds[i].start,.int ds[i].fin,.int ds[i].off,.int ds[i].near,.int ds[i].least])) dH (.lst (aY [num ds[i].start,num ds[i].fin,num ds[i].off,num ds[i].near,num ds[i].least]))):=(ba ar).trans (ba fV);have QR:=ay.of (K:=K) (H:=upd (upd I p (.tup [.int ds[i].start,.int ds[i].fin,.int ds[i].off,.int ds[i].near,.int ds[i].least])) dH (.lst (aY [num ds[i].start,num ds[i].fin,num ds[i].off,num ds[i].near,num ds[i].least]))) (a:=dH) aQ;generalize upd (upd I p (.tup [.int ds[i].start,.int ds[i].fin,.int ds[i].off,.int ds[i].near,.int ds[i].least])) dH (.lst (aY [num ds[i].start,num ds[i].fin,num ds[i].off,num ds[i].near,num ds[i].least]))=av at hh wm QR ⊢;refine ⟨_,QR,?_,pA _ (by simp only [pY];omega),_,hh,?_,?_,?_,_,rfl⟩
    .simp only [e8,pv,yk,ajH,gy,y4];omega
    .rw [fK,aW];exact gD (show (ip n (ds.take i)).length <= 13 by unfold ip;rw [gy,aW,ha];omega) (by decide)
    .exact fun b u e=>by rw [aM (dm e zD)];exact wm _ _ (bq _ _ e)
    .rw [aQ,YE ds[i]];congr 2;unfold ip aY;simp;rw [m7,df,hd];rfl
  .rintro σ I a_;ac_rfl
   obtain ⟨bq,ao,x,rfl⟩:=a_;subst aT;nofun;rw [aW,cK,il] at ao;refine ⟨_,ay.of ao,?_,?_⟩
   .have hl:∀ y ∈ (ip n ds).map (d7 cP),y.length <= 63:=abe dg;have api:((ip n ds).map (d7 cP)).length <= 13:=by
     unfold ip;rw [aW,gy,aW];omega
    have:=zJ hl;rw [show (ae "\n").length=1 by ac_nf];omega
   .have:=q I bq;unfold qu at this;rw [show qr (ae "\n") ((ip n ds).map (d7 cP))=d7 nl ((ip n ds).map (d7 cP)) from zd _ _];exact this
 .obtain ⟨n,wl,ds,af,ak,a5,bN,dy,bx,q⟩:=h;exact ⟨bx,n,wl,ds,af,ak,a5,bN,dy,fun I bq=>⟨bq,q⟩⟩
def aa9 (K:bk):bM:=fun vs H Q _=>∃ n a b d e,vs=[.ref a,.ref b,.int n]/\dR K H a (lg d)/\dR K H b (lg e)/\nL n d/\nL n e/\Q (.bo (mt n d e)) H
noncomputable def hJ (d e:bc):Bool:=decide (d.k=2) == decide (e.k=2)
def amg (K:bk):bM:=fun vs H Q _=>∃ wl ds,∃ i j:Nat,∃ d e,vs=[.ref wl,.int i,.int j]/\jB H wl ds/\ds[i]? = some d/\ds[j]? = some e/\d.k < 3/\e.k < 3/\Q (.bo (hJ d e)) H
theorem adV:cm P base T 1 t.EV t.Tl Lk (aa9 K):=by
 exists T.La.ok CY,9
 obtain ⟨n,a,b,d,e,rfl,r0,vq,hd,he,q⟩:=h;refine ⟨_,(db (dU (cX et (bZ gR (U 0) aO) (bZ gR (U 1) aO) (cA _)) (a0 (b' mW)) eh)
   (db (dU (fM.pt (t2 (cX et (bZ gR (U 0) aO) (bZ gR (U 1) aO) (cA _)) (t2 (cX et (bZ gR (U 0) aO) (bZ gR (U 1) aO) (cA _)) (uf (cX et (bZ gR (U 0) aO) (bZ gR (U 1) aO) (cA _)))))) (a0 (b' mW)) eh)
   (db (bT (i:=3) CY.aI (bE iH (bE k' (bZ gR (U 0) aO) (bZ gR (U 0) aO)) (U 2)))
   (db (bT (i:=4) CY.aI (bE iH (bE k' (bZ gR (U 1) aO) (bZ gR (U 0) aO)) (U 2)))
   (db (bT (i:=5) CY.aI (bE iH (bE k' (bZ gR (U 1) aO) (bZ gR (U 0) aO)) (U 2)))
   (a0 (b' (h7 pM (h7 lR (U 4) (U 3) (cA _)) (h7 lR (U 5) (U 3) (cA _)) (cA _))))))))),?_⟩
 have a2:fZ (lg d) 2=some (.int d.start):=cp (j:=2) rfl;have ef:fZ (lg d) 3=some (.int d.fin):=cp (j:=3) rfl;have fA:fZ (lg e) 2=some (.int e.start):=cp (j:=2) rfl;have iE:fZ (lg e) 3=some (.int e.fin):=cp (j:=3) rfl;have f1:=hd.st;have f2:=hd.fD;have ez:=he.st;have f4:=he.fD;refine dh (decide (d.fin=e.fin)) (fun Q aV=>?_) (fun c=>?_) (fun c=>?_)
 .nofun;refine ⟨_,r0,_,ef,_,vq,_,iE,rfl,?_⟩;nofun;exact aV
 .nofun;unfold mt tr at q;rw [c,te] at q;exact q
 .have c':=of_decide_eq_false c;nofun;refine dh (decide (d.start=e.start) || (decide (d.start=e.fin) || decide (d.fin=e.start))) (fun Q aV=>?_) (fun aa=>?_) (fun aa=>?_)
  .nofun;refine ⟨_,r0,_,a2,_,vq,_,fA,rfl,?_⟩;by_cases bh:d.start=e.start
   .rw [if_pos (by simp [bh])];rw [decide_eq_true bh,te] at aV;exact aV
   .rw [if_neg (by simpa using bh)];refine ⟨_,r0,_,a2,_,vq,_,iE,rfl,?_⟩;by_cases b4:d.start=e.fin
    .rw [if_pos (by simp [b4])];rw [decide_eq_false bh,decide_eq_true b4,mM,te] at aV;exact aV
    .rw [if_neg (by simpa using b4)];refine ⟨_,r0,_,ef,_,vq,_,fA,rfl,?_⟩;rw [decide_eq_false bh,decide_eq_false b4,mM,mM] at aV;rw [show decide (V.int d.fin=V.int e.start)=decide (d.fin=e.start) from decide_eq_decide.mpr (by simp)];exact aV
  .nofun;unfold mt tr at q;rw [c,mM,if_pos (by
    rw [s_,s_,decide_eq_true_eq,decide_eq_true_eq,decide_eq_true_eq] at aa
    omega)] at q
   exact q
  .rw [zp,zp,decide_eq_false_iff_not,decide_eq_false_iff_not,decide_eq_false_iff_not] at aa;have qx:0 < n:=by omega
   have dO:0 < (e.start - d.start) % n:=by rw [BV f1.1 f1.2 ez.1 ez.2];split <;> omega
   have dH:0 < (e.fin - d.start) % n:=by rw [BV f1.1 f1.2 f4.1 f4.2];split <;> omega
   unfold mt tr k4 at q;rw [c,mM,if_neg (by omega),decide_eq_true dO,decide_eq_true dH,lU,lU] at q;nofun;refine ⟨_,r0,_,ef,_,r0,_,a2,_,rfl,_,rfl,qx,_,vq,_,fA,_,r0,_,a2,_,rfl,_,rfl,qx,_,vq,_,iE,_,r0,_,a2,_,rfl,_,rfl,qx,?_⟩;generalize decide ((e.start - d.start) % n < (d.fin - d.start) % n)=X at q ⊢;generalize decide ((e.fin - d.start) % n < (d.fin - d.start) % n)=Y at q ⊢;cases X <;> cases Y <;> exact q
theorem aaf:cm P base T 1 t.I1 t.EH Il (amg K):=by
 exists T.ES.ok VT,9
 obtain ⟨wl,ds,i,j,d,e,rfl,⟨qs,cz,cK,al⟩,ai,aG,aC,eH,q⟩:=h;have hk:qs[i]? = some (qs[i]'(by rw [cK];exact (b6.mp ai).1)):=a' _;have eP:qs[j]? = some (qs[j]'(by rw [cK];exact (b6.mp aG).1)):=a' _;have ql:=al i _ d hk ai;have rZ:=al j _ e eP aG;have sW:=cp (xs:=qs.map V.ref) (j:=i) (by rw [df,hk];rfl);have LN:=cp (xs:=qs.map V.ref) (j:=j) (by rw [df,eP];rfl);refine ⟨_,(db (bT (i:=3) VT.aI (h7 et (bZ gR (bZ c8 (U 0) (U 1)) aO) dF (cA _)))
   (a0 (b' (h7 et (U 3) (h7 et (bZ gR (bZ c8 (U 0) (U 2)) aO) dF (cA _)) (cA _))))),?_⟩
 nofun;refine ⟨_,ay.of cz,_,sW,_,rfl,_,dR.of ql,_,cp (j:=0) rfl,rfl,_,ay.of cz,_,LN,_,rfl,_,dR.of rZ,_,cp (j:=0) rfl,rfl,?_⟩;have af:∀ k,k < 3->decide (V.str (eN k)=V.str (ae "tram"))=decide (k=2):=by ac_nf
 rw [af d.k aC,af e.k eH];unfold hJ at q;rw [show decide (decide (d.k=2)=decide (e.k=2))=(decide (d.k=2) == decide (e.k=2)) from rfl];exact q
structure kB (cu H:aw) (gl:Addr) (qs:List Addr) (cq:List (List Nat)):Prop where
 af:H gl=some (.lst (qs.map V.ref))
 ak:qs.length=cq.length
 a5:qs.Nodup
 bN:gl ∉ qs
 dy:∀ (i:Nat) (q:Addr) (g:List Nat),qs[i]? = some q->cq[i]? = some g->H q=some (.lst (g.map fun k:Nat=>V.int k))
 ia:∀ q ∈ qs,cu q=none
theorem kB.same (h:kB cu H gl qs cq) (s:aK H I):kB cu I gl qs cq:=
 ⟨s _ _ h.af,h.ak,h.a5,h.bN,fun i q g a b=>s _ _ (h.dy i q g a b),h.ia⟩
structure jP (n:Int) (ds:List bc) (m:Nat) (cq:List (List Nat)):Prop where
 ne:∀ g ∈ cq,g ≠ []
 pm:cq.flatten.Perm (eV m)
 A6:∀ g ∈ cq,∀ i ∈ g,∀ j ∈ g,i ≠ j->∀ d e,ds[i]? = some d->ds[j]? = some e->mt n d e=false
 al:∀ g ∈ cq,∀ i ∈ g,∀ j ∈ g,∀ d e,ds[i]? = some d->ds[j]? = some e->hJ d e=true
theorem jP.nil (n:Int) (ds:List bc):jP n ds 0 []:=⟨by simp,by simp,by simp,by simp⟩
theorem vl:hJ y z=true↔(y.k=2↔z.k=2):=by
 unfold hJ;simp
theorem ah_ (h:hJ y z=true):hJ z y=true:=vl.mpr (vl.mp h).symm
theorem akS {x y z:bc} (h:hJ x y=true) (h':hJ y z=true):hJ x z=true:=vl.mpr ((vl.mp h).trans (vl.mp h'))
theorem kB.off {gl x:Addr} (h:kB cu H gl qs cq) (ah:x ≠ gl) (aR:x ∉ qs):kB cu (upd H x o) gl qs cq:=
 ⟨by rw [aM (eb ah)];exact h.af,h.ak,h.a5,h.bN,fun i q g a b=>by rw [aM (fun z=>aR (by rw [<- z];exact b9 a))];exact h.dy i q g a b,h.ia⟩
theorem P6 (l:List α) (i:Nat) (a:α):(ins l i a).Perm (l ++ [a]):=by
 unfold ins;refine alI.trans ?_;rw [Sm];exact (ah2 (l₁:=[a]) (l₂:=l))
theorem afI:∀ {l l':List (List α)},l.Perm l'->l.flatten.Perm l'.flatten:=fun h=>h.flatten
theorem TR:∀ {cq:List (List Nat)} {j:Nat} {g g':List Nat} {k:Nat},cq[j]? = some g->g'.Perm (g ++ [k])->(cq.set j g').flatten.Perm (cq.flatten ++ [k])
 | [],j,g,g',k,h,_=>by simp at h
 | oR :: cq,0,g,g',k,h,p=>by
  cases (show oR=g by simpa using h);show (g' :: cq).flatten.Perm _;rw [vC,vC,l7];refine (p.append_right _).trans ?_;rw [l7];exact agR oR ah2
 | oR :: cq,j + 1,g,g',k,h,p=>by
  rw [DN] at h;show (oR :: cq.set j g').flatten.Perm _;rw [vC,vC,l7];exact agR oR (TR h p)
theorem jP.put {m:Nat} (S:jP n ds m cq) {j p:Nat} (a8:cq[j]? = some g) (hd:ds[m]? = some d)
  (Am:∀ i ∈ g,∀ e,ds[i]? = some e->mt n e d=false/\mt n d e=false/\hJ e d=true):jP n ds (m + 1) (cq.set j (ins g p m)):=by
 have lK:=b9 a8;refine ⟨fun x ah=>?_,?_,fun x ah i ai jF fc cj e bH he hN=>?_,fun x ah i ai jF fc e bH he hN=>?_⟩
 .rcases MC ah with z | z
  .exact S.ne x z
  .rw [z];unfold ins;simp
 .rw [vL];exact (TR a8 (P6 g p m)).trans (S.pm.append_right [m])
 .rcases MC ah with z | z
  .exact S.A6 x z i ai jF fc cj e bH he hN
  .rw [z] at ai fc;rcases nv ai with u | u
   .subst u;rw [hd] at he;cases he;rcases nv fc with v | v
    .exact absurd v.symm cj
    .exact (Am jF v bH hN).2.1
   .rcases nv fc with v | v
    .subst v;rw [hd] at hN;cases hN;exact (Am i u e he).1
    .exact S.A6 g lK i u jF v cj e bH he hN
 .rcases MC ah with z | z
  .exact S.al x z i ai jF fc e bH he hN
  .rw [z] at ai fc;have self:∀ y:bc,hJ y y=true:=fun y=>by unfold hJ;simp
   have sym:∀ y z:bc,hJ y z=true->hJ z y=true:=fun y z h=>ah_ h
   rcases nv ai with u | u
   .subst u;rw [hd] at he;cases he;rcases nv fc with v | v
    .subst v;rw [hd] at hN;cases hN;exact self _
    .exact sym _ _ (Am jF v bH hN).2.2
   .rcases nv fc with v | v
    .subst v;rw [hd] at hN;cases hN;exact (Am i u e he).2.2
    .exact S.al g lK i u jF v e bH he hN
theorem jP.new {m:Nat} (S:jP n ds m cq) (p:Nat):jP n ds (m + 1) (ins cq p [m]):=by
 have self:∀ y:bc,hJ y y=true:=fun y=>by unfold hJ;simp
 refine ⟨fun x ah=>?_,?_,fun x ah i ai jF fc cj e bH he hN=>?_,fun x ah i ai jF fc e bH he hN=>?_⟩
 .rcases nv ah with z | z
  .rw [z];simp
  .exact S.ne x z
 .rw [vL];refine (afI (P6 cq p [m])).trans ?_;rw [acF];simpa using S.pm.append_right [m]
 .rcases nv ah with z | z
  .rw [z] at ai fc;exact absurd ((eY.mp ai).trans (eY.mp fc).symm) cj
  .exact S.A6 x z i ai jF fc cj e bH he hN
 .rcases nv ah with z | z
  .rw [z] at ai fc;rw [eY.mp ai] at he;rw [eY.mp fc,he] at hN;cases hN;exact self _
  .exact S.al x z i ai jF fc e bH he hN
theorem kB.put (h:kB cu H gl qs cq) (aR:qs[j]? = some q) (aG:j < cq.length) :
  kB cu (upd H q (.lst (g'.map fun k:Nat=>V.int k))) gl qs (cq.set j g'):=by
 obtain ⟨af,ak,a5,bN,dy,ia⟩:=h;have mc:gl ≠ q:=fun z=>bN (by rw [z];exact b9 aR)
 refine ⟨by rw [aM mc];exact af,by rw [List.length_set];exact ak,a5,bN,fun i r g a b=>?_,ia⟩;by_cases c:i=j
 .subst c;rw [aR] at a;cases a;rw [U' aG] at b;cases b;exact aQ
 .rw [Su (fun e=>c e.symm)] at b;have cj:r ≠ q:=fun e=>by
   subst e;obtain ⟨a1,fx⟩:=b6.mp a;obtain ⟨a2,fA⟩:=b6.mp aR;exact c ((ET a5).mp (fx.trans fA.symm))
  rw [aM cj];exact dy i r g a b
theorem kB.new {gl p:Addr} {k:Nat} (h:kB cu H gl qs cq) (h0:aK cu H) (ar:H p=none) (aC:k <= cq.length) :
  kB cu (upd (upd H p (.lst (g.map fun k:Nat=>V.int k))) gl (.lst ((ins qs k p).map V.ref))) gl (ins qs k p) (ins cq k g):=by
 have DL:gl ≠ p:=dm h.af ar;have akM:p ∉ qs:=fun z=>by
  obtain ⟨i,ai⟩:=hU z;have Ek:i < cq.length:=by rw [<- h.ak];exact (b6.mp ai).1
  have e:=h.dy i p _ ai (a' Ek);rw [ar] at e;cases e
 have MM:k <= qs.length:=by rw [h.ak];exact aC
 refine ⟨aQ,by rw [Hi MM,Hi aC,h.ak],aeX h.a5 akM,fun z=>?_,fun i q g' a b=>?_,fun q aR=>?_⟩
 .rcases nv z with z | z
  .exact DL z
  .exact h.bN z
 .rw [ua MM] at a;rw [ua aC] at b;have keep:∀ {i:Nat} {q:Addr} {g':List Nat},qs[i]? = some q->cq[i]? = some g'->upd (upd H p (.lst (g.map fun k:Nat=>V.int k))) gl (.lst ((ins qs k p).map V.ref)) q=some (.lst (g'.map fun k:Nat=>V.int k)):=fun {i q g'} a b=>by
   have e:=h.dy i q g' a b;have mc:q ≠ gl:=fun z=>h.bN (by rw [<- z];exact b9 a)
   rw [aM mc,aM (dm e ar)];exact e
  by_cases bh:i < k
  .rw [if_pos bh] at a b;exact keep a b
  .rw [if_neg bh] at a b;by_cases b4:i=k
   .rw [if_pos b4] at a b;cases a;cases b;rw [aM (eb DL),aQ]
   .rw [if_neg b4] at a b;exact keep a b
 .rcases nv aR with z | z
  .rw [z];exact h0.free ar
  .exact h.ia q z
structure gS where
 lo:Int
 ai:Int
 eG:List Nat
structure om (H:aw) (cE:Addr) (qs ms:List Addr) (sts:List gS):Prop where
 at_:H cE=some (.lst (qs.map V.ref))
 cz:qs.length=sts.length
 cK:ms.length=sts.length
 al:∀ (i:Nat) (q m:Addr) (s:gS),qs[i]? = some q->ms[i]? = some m->sts[i]? = some s->H q=some (.tup [.int s.lo,.int s.ai,.ref m])/\H m=some (.lst (s.eG.map fun k:Nat=>V.int k))
theorem om.same (h:om H cE qs ms sts) (s:aK H I):om I cE qs ms sts:=
 ⟨s _ _ h.at_,h.cz,h.cK,fun i q m r a b c=>⟨s _ _ (h.al i q m r a b c).1,s _ _ (h.al i q m r a b c).2⟩⟩
structure CZ (n:Int) (ds:List bc) (sts:List gS):Prop where
 bp:jP n ds ds.length (sts.map (·.eG))
 le:∀ s ∈ sts,∀ i ∈ s.eG,∀ d,ds[i]? = some d->d.least <= s.lo
 bd:∀ s ∈ sts,1 <= s.lo/\s.lo <= 21/\s.lo <= s.ai/\s.ai <= 40
theorem jP.len {m:Nat} (S:jP n ds m cq):cq.length <= m/\cq.flatten.length=m:=by
 have af:=S.pm.length_eq;rw [rY] at af;have:∀ {cq:List (List Nat)},(∀ g ∈ cq,g ≠ [])->cq.length <= cq.flatten.length:=fun {cq}=>by
  induction cq with
  | nil=>intro _;simp
  | cons g cq cS=>
   intro h;have a1:=cS fun x ah=>h x (ik _ ah)
   have a2:=BX.mpr (h g (by simp));rw [vC,cZ,gy];omega
 have:=this S.ne;omega
theorem jP.lt {m:Nat} (S:jP n ds m cq) (a8:g ∈ cq) (ai:i ∈ g):i < m:=oF.mp (S.pm.mem_iff.mp (KP.mpr ⟨g,a8,ai⟩))
theorem jP.JO {m:Nat} (S:jP n ds m cq) (a8:g ∈ cq):g.length <= m:=by
 have af:=(ajg a8).length_le;have:=S.len.2;omega
theorem aaF (h0:0 <= i) (af:i < 6):∃ mo:Int,(1 <= mo/\mo <= 20)/\fZ [V.int 4,V.int 4,V.int 4,V.int 4,V.int 4,V.int 20] i=some (.int mo):=by
 have:i=0\/i=1\/i=2\/i=3\/i=4\/i=5:=by omega
 rcases this with rfl | rfl | rfl | rfl | rfl | rfl
 .exact ⟨4,by decide,cp (j:=0) rfl⟩
 .exact ⟨4,by decide,cp (j:=1) rfl⟩
 .exact ⟨4,by decide,cp (j:=2) rfl⟩
 .exact ⟨4,by decide,cp (j:=3) rfl⟩
 .exact ⟨4,by decide,cp (j:=4) rfl⟩
 .exact ⟨20,by decide,cp (j:=5) rfl⟩
def R0 (K:bk):bM:=fun vs H Q _=>∃ (a:Addr) (ns:List Int) (n:Int) (wl:Addr) (ds:List bc),vs=[.ref a,.int n,.ref wl]/\ns.length <= 63/\ay K H a (ns.map V.int)/\aJ H/\jB H wl ds/\s8 n ds/\(∀ d ∈ ds,d.least <= 4)/\(1 <= ds.length/\ds.length <= 8) /\
 ∀ cE qs ms sts I,aK H I->aJ I->om I cE qs ms sts->CZ n ds sts->Q (.ref cE) I
theorem aes:cm P base T 2 t.CK t.Dk Cu (R0 K):=by
 refine cv (abH T) fun eX=>cv (adV T) fun amM=>cv (aaf T) fun YB=>?_;exists T.IX.ok Gc,9
 obtain ⟨a,ns,n,wl,ds,rfl,hl,S,bx,L,D,hle,gP,q⟩:=h;obtain ⟨oO,cz,cK,Kl⟩:=id L;have jt:(oO.map V.ref).length=ds.length:=by rw [aW,cK]
 have xn:∀ (i:Nat) (d:bc),ds[i]? = some d->∃ oW,fZ (oO.map V.ref) (i:Int)=some (.ref oW)/\H oW=some (.tup (lg d)):=fun i d hd=>by
  have hk:oO[i]? = some (oO[i]'(by rw [cK];exact (b6.mp hd).1)):=a' _;exact ⟨_,cp (by rw [df,hk];rfl),Kl i _ d hk hd⟩
 refine ⟨_,(db (bT (i:=3) Gc.aI (ld aA))
   (db (fw fF rfl (kN rfl T.j' (ag (fP hL rfl T.hz hE (ag (U 2) aA)) aA)) (b7 (i:=4) Gc.aI) (db (bT (i:=5) Gc.aI (ld aA))
   (db (fw fF rfl (kN rfl T.j' (ag (fP hL rfl T.hz hE (ag (U 3) aA)) aA)) (b7 (i:=6) Gc.aI) (db (bT (i:=7) Gc.aI (bU YB ao T.aaS T.ES.bl T.Xm (ag (U 2) (ag (bZ c8 (bZ c8 (U 3) (U 6)) aO) (ag (U 4) aA)))))
   (db (fw fF rfl (e5 (bZ c8 (U 3) (U 6))) (b7 (i:=8) Gc.aI) (a0 (bT (i:=7) Gc.aI (wc (U 7) (vO (MP (bU amM ao T.ZT T.La.bl T.adU (ag (bZ c8 (U 2) (U 8)) (ag (bZ c8 (U 2) (U 4)) (ag (U 1) aA))))))))))
   (a0 (dU (oj (U 7)) (a0 (dS (eF f6 kr kz j9 (U 5) (ag (U 6) aA)))) eh)))))
   (a0 (dU (fM.pt (md (cX rb (fP hL rfl T.hz hE (ag (U 5) aA)) aO (cA _)) (mi (cX rb (bU eX ao T.fL T.e6.bl T.fH (ag (U 0) (ag (bE d4 aO (U 4)) (ag aO aA)))) aO (cA _))))) (db (bT (i:=6) Gc.aI (bZ c8 (U 5) (bU eX ao T.fL T.e6.bl T.fH (ag (U 0) (ag (bE d4 aO (U 4)) (ag (fP hL rfl T.hz hE (ag (U 5) aA)) aA))))))
   (a0 (dS (eF f6 FO PC LP (bZ c8 (U 3) (U 6)) (ag (bU eX ao T.fL T.e6.bl T.fH (ag (U 0) (ag (bE d4 aO (U 4)) (ag (bE d4 (fP hL rfl T.hz hE (ag (bZ c8 (U 3) (U 6)) aA)) aO) aA)))) (ag (U 4) aA)))))) (a0 (dS (eF f6 FO PC LP (U 3) (ag (bU eX ao T.fL T.e6.bl T.fH (ag (U 0) (ag (bE d4 aO (U 4)) (ag (bE d4 (fP hL rfl T.hz hE (ag (U 3) aA)) aO) aA)))) (ag (ld (ag (U 4) aA)) aA))))))))))
   (db (bT (i:=9) Gc.aI (ld aA))
   (db (fw fF rfl (kN rfl T.j' (ag (fP hL rfl T.hz hE (ag (U 3) aA)) aA)) (b7 (i:=6) Gc.aI) (db (bT (i:=10) Gc.aI (bE d4 (fP (MF rfl) rfl T.AZ Gp (ag (g_ rfl (e5 (bZ c8 (U 3) (U 6))) (fO (sc:=bt J') rfl (by ac_nf)) (N:=DD) (sel:=[none,some 2]) (fT (M:=["_law_script","_law_places","_law_ways_here","_law_some","_law_k","_law_fits","_law_j","_law_good","_law_i","_law_stages_here","_law_low","_law_more"]) (by ac_nf)) (e3.of (fun _ _ _ _=>(b7 (i:=0) (d3 (N:=DD) (by ac_nf) rfl))) (fun _ _ _ _=>⟨_,hn,by walk_at "B"⟩) (fun _ _ _ _=>⟨_,(bZ gR (bZ c8 (U 1) (U 0)) aO),by walk_at "B"⟩))) aA)) (bU eX ao T.fL T.e6.bl T.fH (ag (U 0) (ag (bE d4 aO (U 6)) (ag aO aA))))))
   (db (dU (cX et (bU eX ao T.fL T.e6.bl T.fH (ag (U 0) (ag (bE d4 aO (U 6)) (ag aO aA)))) aO (cA _)) (a0 (bT (i:=10) Gc.aI (bE d4 (U 10) aO))) eh)
   (db (bT (i:=11) Gc.aI (bZ c8 (ld (ag aO (ag aO (ag aO (ag aO (ag aO (ag aO aA))))))) (bU eX ao T.fL T.e6.bl T.fH (ag (U 0) (ag (bE d4 aO (U 6)) (ag aO aA))))))
   (a0 (dS (eF f6 kr kz j9 (U 9) (ag (p1 (ag (U 10) (ag (bE d4 (U 10) (bU eX ao T.fL T.e6.bl T.fH (ag (U 0) (ag (bE d4 aO (U 6)) (ag (U 11) aA))))) (ag (bZ c8 (U 3) (U 6)) aA)))) aA))))))))
   (a0 (b' (U 9))))))),?_⟩
 exists (fun au I=>aK H I/\aJ I/\∃ gl,H gl=none/\I gl=some (.lst [])/\au=[~~~a,some (.int n),~~~wl,~~~gl,none,none,none,none,none,none,none,none]),3
 .nofun;exact ⟨fh _,fun gl gU=>bQ _ _ ⟨ba gU,bx.upd,gl,gU,aQ,rfl⟩⟩
 rintro fk H1 ⟨s1,cM,gl,gU,dC,rfl⟩;subst aT;exists (fun au I=>aK H I/\aJ I/\(∃ qs cq,kB H I gl qs cq/\jP n ds ds.length cq)/\∃ dv d1 cC c0 dI,au=[~~~a,some (.int n),~~~wl,~~~gl,dv,d1,cC,c0,dI,none,none,none]),3
 .nofun;refine ⟨_,.inl (ay.of (s1 _ _ cz)),by omega,by rw [jt];omega,?_⟩;rw [show (((oO.map V.ref).length:Nat):Int).toNat=ds.length by rw [jt];rfl];refine dZ.range (fun k σ I=>aK H I/\aJ I/\(∃ qs cq,kB H I gl qs cq/\jP n ds k cq)/\∃ dv d1 cC c0 dI,σ=[~~~a,some (.int n),~~~wl,~~~gl,dv,d1,cC,c0,dI,none,none,none]) ⟨s1,cM,⟨[],[],⟨dC,rfl,RQ,by simp,fun i q g h=>by simp at h,fun q h=>by simp at h⟩,jP.nil n ds⟩,_,_,_,_,_,rfl⟩ ?_ ?_
  .rintro k σ I aC a_;ac_rfl
   obtain ⟨s2,cU,⟨qs,cq,G,k_⟩,dv,d1,cC,c0,dI,rfl⟩:=a_;have w2:ds[k]? = some ds[k]:=a' aC;subst aT;generalize an6:ds[k]=d at w2;have hd:=(D.al d (b9 w2)).1;have amL:=k_.len;simp only [gL,dG,jJ,jM,p8];exists (fun au av=>aK I av/\aJ av/\∃ eU,I eU=none/\av eU=some (.lst [])/\au=[~~~a,some (.int n),~~~wl,~~~gl,some (.int (k:Nat)),~~~eU,cC,c0,dI,none,none,none]),0
   .nofun;exact ⟨fh _,fun eU n6=>bQ _ _ ⟨ba n6,cU.upd,eU,n6,aQ,rfl⟩⟩
   rintro cw av ⟨s3,di,eU,n6,hY,rfl⟩;have ahC:eU ≠ gl:=fun e=>by rw [e,G.af] at n6;cases n6
   have aam:eU ∉ qs:=fun z=>by
    obtain ⟨i,ai⟩:=hU z;have Ek:i < cq.length:=by rw [<- G.ak];exact (b6.mp ai).1
    have e:=G.dy i eU _ ai (a' Ek);rw [n6] at e;cases e
   subst aT;simp only [dG];exists (fun au br=>aK I br/\aJ br/\kB H br gl qs cq/\(∃ a3:List Nat,br eU=some (.lst (a3.map fun k:Nat=>V.int k))/\a3.length <= cq.length/\∀ f ∈ a3,∃ g,cq[f]? = some g/\∀ i ∈ g,∀ e,ds[i]? = some e->mt n e d=false/\mt n d e=false/\hJ e d=true)/\∃ cC c0 dI,au=[~~~a,some (.int n),~~~wl,~~~gl,some (.int (k:Nat)),~~~eU,cC,c0,dI,none,none,none]),0
   .nofun;have mc:(qs.map V.ref).length=cq.length:=by rw [aW,G.ak]
    refine ⟨_,.inl (ay.of (s3 _ _ G.af)),by omega,by rw [mc];omega,?_⟩;rw [show (((qs.map V.ref).length:Nat):Int).toNat=cq.length by rw [mc];rfl];refine dZ.range (fun j σ br=>aK I br/\aJ br/\kB H br gl qs cq/\(∃ a3:List Nat,br eU=some (.lst (a3.map fun k:Nat=>V.int k))/\a3.length <= j/\∀ f ∈ a3,∃ g,cq[f]? = some g/\∀ i ∈ g,∀ e,ds[i]? = some e->mt n e d=false/\mt n d e=false/\hJ e d=true)/\∃ cC c0 dI,σ=[~~~a,some (.int n),~~~wl,~~~gl,some (.int (k:Int)),~~~eU,cC,c0,dI,none,none,none]) ⟨s3,di,G.same s3,⟨[],hY,bP _,fun f h=>by simp at h⟩,_,_,_,rfl⟩ ?_ ?_
    .rintro j σ br aG a_;ac_rfl
     obtain ⟨s4,dc,hQ,⟨a3,hG,A1,ve⟩,cC,c0,dI,rfl⟩:=a_;have qI:cq[j]? = some cq[j]:=a' aG;have eP:qs[j]? = some (qs[j]'(by rw [G.ak];exact aG)):=a' _;subst aT;generalize qs[j]'(by rw [G.ak];exact aG)=kD at eP;generalize akZ:cq[j]=g at qI;have lK:=b9 qI;obtain ⟨oR,aoG,pH⟩:=sj (k_.ne g lK);have gx:∀ i ∈ g,∃ e,ds[i]? = some e:=fun i ai=>⟨_,a' (N1 (k_.lt lK ai) aC)⟩
     have Sf:oR ∈ g:=by rw [pH];exact m3 ..
     obtain ⟨kP,sz⟩:=gx oR Sf;have vu:=hQ.dy j kD g eP qI;have x6:=cp (xs:=qs.map V.ref) (j:=j) (by rw [df,eP];rfl);have h2:=s2.trans s4;have hr:=L.same h2;have zS:=h2 _ _ cz;simp only [gL,dG,jJ,jM,p8];exists (fun au cJ=>cJ=br/\au=[~~~a,some (.int n),~~~wl,~~~gl,some (.int (k:Int)),~~~eU,some (.int (j:Int)),some (.bo (hJ kP d)),dI,none,none,none]),0
     .nofun;exact ⟨_,ay.of hQ.af,_,x6,_,rfl,_,ay.of vu,_,by rw [pH];exact cp (j:=0) rfl,wl,ds,oR,k,kP,d,rfl,hr,sz,w2,(D.al kP (b9 sz)).1.k,hd.k,bQ _ _ ⟨rfl,rfl⟩⟩
     rintro jE cJ ⟨rfl,rfl⟩;subst aT;simp only [dG];exists (fun au ck=>ck=cJ/\∃ (m8:Bool) (dI:Option V),(m8=true->hJ kP d=true/\∀ i ∈ g,∀ e,ds[i]? = some e->mt n e d=false)/\au=[~~~a,some (.int n),~~~wl,~~~gl,some (.int (k:Int)),~~~eU,some (.int (j:Int)),some (.bo m8),dI,none,none,none]),0
     .nofun;refine ⟨_,ay.of hQ.af,_,x6,_,rfl,⟨_,ay.of vu⟩,?_⟩;refine dZ.list (xs:=g.map fun k:Nat=>V.int k) (fun l σ ck=>ck=cJ/\∃ (m8:Bool) (dI:Option V),(m8=true->hJ kP d=true/\∀ i ∈ g.take l,∀ e,ds[i]? = some e->mt n e d=false)/\σ=[~~~a,some (.int n),~~~wl,~~~gl,some (.int (k:Int)),~~~eU,some (.int (j:Int)),some (.bo m8),dI,none,none,none]) ?_ ?_ ?_ ?_
      .exact ⟨rfl,_,_,fun z=>⟨z,fun i h=>by simp at h⟩,rfl⟩
      .rintro l σ ck aL ⟨rfl,_⟩;exact ay.of vu
      .rintro l v σ ck aF a_;ac_rfl
       obtain ⟨rfl,m8,dI,sh,rfl⟩:=a_;obtain ⟨i,ai,rfl⟩:=b8 aF;obtain ⟨e,he⟩:=gx i (b9 ai);obtain ⟨hI,sW,Jf⟩:=xn i e he;obtain ⟨abV,aaB,abX⟩:=xn k d w2;have step:∀ fA:Bool,(fA=true->m8=true/\mt n e d=false)->(fA=true->hJ kP d=true/\∀ i ∈ g.take (l + 1),∀ e,ds[i]? = some e->mt n e d=false):=fun fA h z=>by
        obtain ⟨f9,eg⟩:=h z;obtain ⟨oH,pJ⟩:=sh f9;refine ⟨oH,fun jF fc bH hN=>?_⟩;rw [m7,ai] at fc;rcases eR.mp fc with u | u
        .exact pJ jF u bH hN
        .rw [show jF=i by simpa using u,he] at hN;cases hN;exact eg
       subst aT;nofun;cases m8 with
       | true=>
        rw [if_pos rfl];refine ⟨_,ay.of zS,_,sW,_,ay.of zS,_,aaB,n,hI,abV,e,d,rfl,dR.of (h2 _ _ Jf),dR.of (h2 _ _ abX),(D.al e (b9 he)).1,hd,_,rfl,?_⟩;exact ⟨rfl,_,step _ (fun z=>⟨rfl,by simpa using z⟩),rfl,_,rfl⟩
       | false=>
        rw [if_neg (by decide)];exact ⟨false,(fun z=>nomatch z),rfl,_,rfl⟩
      .rintro σ ck a_;ac_rfl
       obtain ⟨rfl,m8,dI,sh,rfl⟩:=a_;subst aT;rw [aW,il] at sh;exact bQ _ _ ⟨rfl,m8,dI,sh,rfl⟩
     rintro qY ck ⟨rfl,m8,dI,sh,rfl⟩;subst aT;dsimp only;refine dh m8 (fun Q aV=>?_) (fun aa=>?_) (fun aa=>?_)
     .nofun;exact aV
     .obtain ⟨oH,pJ⟩:=sh aa;nofun;refine ⟨.inl ⟨_,ay.of hG⟩,_,hG,gD (show (a3.map fun k:Nat=>V.int k).length <= 8 by rw [aW];omega) (by decide),s4.gz n6,dc.upd,hQ.off ahC aam,⟨a3 ++ [j],by rw [aQ,ed];rfl,by rw [cZ];show a3.length + 1 <= j + 1;omega,fun f hf=>?_⟩,?_⟩
      .rcases eR.mp hf with z | z
       .exact ve f z
       .rw [eY.mp z];refine ⟨g,qI,fun i ai e he=>⟨pJ i ai e he,?_,akS (k_.al g lK i ai oR Sf e kP he sz) oH⟩⟩;have lP:=(D.al e (b9 he)).1;have:=akL lP.st lP.fD hd.st hd.fD lP.ne hd.ne;exact (this.symm.trans (pJ i ai e he):mt n d e=false)
      .exact ⟨_,rfl⟩
     .simp only [gQ];exact ⟨s4,dc,hQ,⟨a3,hG,by omega,ve⟩,_,_,_,rfl⟩
    .rintro σ br a_;ac_rfl
     obtain ⟨s4,dc,hQ,⟨a3,hG,A1,ve⟩,cC,c0,dI,rfl⟩:=a_;subst aT;exact bQ _ _ ⟨s4,dc,hQ,⟨a3,hG,A1,ve⟩,_,_,_,rfl⟩
   rintro fI br ⟨s4,dc,hQ,⟨a3,hG,A1,ve⟩,cC,c0,dI,rfl⟩;have h2:=s2.trans s4;have kv:=S.same h2;have mc:(qs.map V.ref).length=cq.length:=by rw [aW,G.ak]
   subst aT;dsimp only;refine dh (decide (0 < a3.length) && decide (0 < dt ns (100 + (k:Int)) 3)) (fun Q aV=>?_) (fun aa=>?_) (fun aa=>?_)
   .nofun;refine ⟨_,.inl (ay.of hG),?_⟩;rw [aW];by_cases bF:0 < a3.length
    .rw [if_pos (decide_eq_true (by omega))];rw [decide_eq_true bF,lU] at aV;exact ⟨a,ns,_,_,rfl,hl,kv,⟨by omega,by omega⟩,by decide,_,rfl,aV⟩
    .rw [if_neg (by rw [decide_eq_true_eq];omega)];rw [decide_eq_false bF,mv] at aV;exact aV
   .rw [iF,decide_eq_true_eq] at aa;have aq:=ht ns (110 + (k:Int)) (m:=(a3.length:Int)) (by omega);have aH:=hq ns (110 + (k:Int)) (m:=(a3.length:Int)) (by omega);obtain ⟨u,bY⟩:∃ u:Nat,dt ns (110 + (k:Int)) (a3.length:Int)=(u:Int):=⟨_,(sg aq).symm⟩;have XS:u < a3.length:=by omega
    have JH:a3[u]? = some a3[u]:=a' XS;generalize an_:a3[u]=f at JH;obtain ⟨g,CG,ahv⟩:=ve f (b9 JH);have J0:f < cq.length:=(b6.mp CG).1;have wI:qs[f]? = some (qs[f]'(by rw [G.ak];exact J0)):=a' _;generalize qs[f]'(by rw [G.ak];exact J0)=Hj at wI;have HF:=hQ.dy f Hj g wI CG;have Nj:=cp (xs:=qs.map V.ref) (j:=f) (by rw [df,wI];rfl);have WE:=cp (xs:=a3.map fun k:Nat=>V.int k) (j:=u) (v:=.int (f:Int)) (by rw [df,JH];rfl);have aoR:=k_.JO (b9 CG);have dO:=ht ns (160 + (k:Int)) (m:=(g.length:Int) + 1) (by omega);have dH:=hq ns (160 + (k:Int)) (m:=(g.length:Int) + 1) (by omega);nofun;obtain ⟨v,aF⟩:∃ v:Nat,dt ns (160 + (k:Int)) ((g.length:Int) + 1)=(v:Int):=⟨_,(sg dO).symm⟩;refine ⟨_,.inl (ay.of hG),?_⟩;rw [aW];refine ⟨a,ns,_,_,rfl,hl,kv,⟨by omega,by omega⟩,by omega,?_⟩;rw [bY];refine ⟨_,_,rfl,ay.of hG,_,WE,_,_,rfl,ay.of hQ.af,_,Nj,.inl ⟨_,ay.of HF⟩,_,_,rfl,ay.of hQ.af,_,Nj,_,rfl,_,.inl (ay.of HF),?_⟩;rw [aW];refine ⟨a,ns,_,_,rfl,hl,kv,⟨by omega,by omega⟩,by omega,Hj,rfl,_,_,rfl,HF,?_⟩;rw [aF,lI];have Tn:v <= g.length:=by omega
    have em:(g.map fun k:Nat=>V.int k).take v ++ V.int (k:Int) :: (g.map fun k:Nat=>V.int k).drop v=(ins g v k).map fun k:Nat=>V.int k:=(H3 (fun k:Nat=>V.int k) g v k).symm
    refine ⟨by omega,by omega,by rw [aW];omega,gD (show (g.map fun k:Nat=>V.int k).length <= 8 by rw [aW];omega) (by decide),h2.gz (hQ.ia Hj (b9 wI)),dc.upd,?_,_,rfl⟩;rw [em];exact ⟨qs,_,hQ.put wI J0,k_.put CG w2 ahv⟩
   .have dO:=ht ns (120 + (k:Int)) (m:=(cq.length:Int) + 1) (by omega);have dH:=hq ns (120 + (k:Int)) (m:=(cq.length:Int) + 1) (by omega);nofun;obtain ⟨v,aF⟩:∃ v:Nat,dt ns (120 + (k:Int)) ((cq.length:Int) + 1)=(v:Int):=⟨_,(sg dO).symm⟩;refine ⟨.inl ⟨_,ay.of hQ.af⟩,_,.inl (ay.of hQ.af),?_⟩;rw [mc];refine ⟨a,ns,_,_,rfl,hl,kv,⟨by omega,by omega⟩,by omega,by decide,fun p ar=>⟨_,_,rfl,(ba ar) _ _ hQ.af,?_⟩⟩;rw [aF,lI];have Tn:v <= cq.length:=by omega
    have em:(qs.map V.ref).take v ++ V.ref p :: (qs.map V.ref).drop v=(ins qs v p).map V.ref:=(H3 V.ref qs v p).symm;refine ⟨by omega,by omega,by rw [mc];omega,gD (show (qs.map V.ref).length <= 8 by rw [mc];omega) (by decide),(h2.trans (ba ar)).gz gU,(dc.upd).upd,?_,_,rfl⟩;rw [em];exact ⟨_,_,hQ.new (g:=[k]) h2 ar Tn,k_.new v⟩
  .rintro σ I a_;ac_rfl
   obtain ⟨s2,cU,⟨qs,cq,G,k_⟩,dv,d1,cC,c0,dI,rfl⟩:=a_;subst aT;exact bQ _ _ ⟨s2,cU,⟨qs,cq,G,k_⟩,_,_,_,_,_,rfl⟩
 rintro cw av ⟨s2,cU,⟨qs,cq,G,k_⟩,dv,d1,cC,c0,dI,rfl⟩;subst aT;exists (fun au I=>aK av I/\aJ I/\∃ cE,av cE=none/\I cE=some (.lst [])/\au=[~~~a,some (.int n),~~~wl,~~~gl,dv,d1,cC,c0,dI,~~~cE,none,none]),3
 .nofun;exact ⟨fh _,fun cE k6=>bQ _ _ ⟨ba k6,cU.upd,cE,k6,aQ,rfl⟩⟩
 rintro fI br ⟨s3,di,cE,k6,hY,rfl⟩;have amL:=k_.len;have mc:(qs.map V.ref).length=cq.length:=by rw [aW,G.ak]
 subst aT;exists (fun au I=>aK av I/\aJ I/\(∃ kQ sts,om I cE kQ qs sts/\CZ n ds sts)/\∃ cC dI iT r',au=[~~~a,some (.int n),~~~wl,~~~gl,dv,d1,cC,c0,dI,~~~cE,iT,r']),3
 .nofun;refine ⟨_,.inl (ay.of (s3 _ _ G.af)),by omega,by rw [mc];omega,?_⟩;rw [show (((qs.map V.ref).length:Nat):Int).toNat=cq.length by rw [mc];rfl];refine dZ.range (fun j σ I=>aK av I/\aJ I/\(∃ (kQ:List Addr) (sts:List gS),I cE=some (.lst (kQ.map V.ref))/\kQ.length=j/\sts.length=j/\(∀ (i:Nat) (q:Addr) (s:gS),kQ[i]? = some q->sts[i]? = some s->∃ m,qs[i]? = some m/\I q=some (.tup [.int s.lo,.int s.ai,.ref m]))/\sts.map (·.eG)=cq.take j/\∀ s ∈ sts,(∀ i ∈ s.eG,∀ d,ds[i]? = some d->d.least <= s.lo)/\1 <= s.lo/\s.lo <= 21/\s.lo <= s.ai/\s.ai <= 40)/\∃ cC dI iT r',σ=[~~~a,some (.int n),~~~wl,~~~gl,dv,d1,cC,c0,dI,~~~cE,iT,r']) ⟨s3,di,⟨[],[],hY,rfl,rfl,fun i q s h=>by simp at h,by rw [tY];rfl,fun s h=>by simp at h⟩,_,_,_,_,rfl⟩ ?_ ?_
  .rintro j σ I aG a_;ac_rfl
   obtain ⟨s4,dc,⟨kQ,sts,hG,AG,fS,mD,y8,C0⟩,cC,dI,iT,r',rfl⟩:=a_;have qI:cq[j]? = some cq[j]:=a' aG;have eP:qs[j]? = some (qs[j]'(by rw [G.ak];exact aG)):=a' _;subst aT;generalize qs[j]'(by rw [G.ak];exact aG)=kD at eP;generalize akZ:cq[j]=g at qI;have lK:=b9 qI;have gx:∀ i ∈ g,∃ e,ds[i]? = some e:=fun i ai=>⟨_,a' (k_.lt lK ai)⟩
   have hQ:=G.same s4;have vu:=hQ.dy j kD g eP qI;have x6:=cp (xs:=qs.map V.ref) (j:=j) (by rw [df,eP];rfl);have h2:=s2.trans s4;have kv:=S.same h2;have zS:=h2 _ _ cz;have am0:=k_.JO lK;obtain ⟨cO,akp⟩:∃ cO:Nat->Int,cO=fun i=>((ds[i]?).map (·.least)).getD 0:=⟨_,rfl⟩
   have IP:∀ i e,ds[i]? = some e->cO i=e.least:=fun i e he=>by rw [akp];show ((ds[i]?).map (·.least)).getD 0=_;rw [he];rfl
   obtain ⟨o',yo,wL⟩:=A_ (g.map cO) (fun z=>k_.ne g lK (MT.mp z));have rf:1 <= o'/\o' <= 4:=by
    obtain ⟨i,ai,rfl⟩:=cc.mp yo;obtain ⟨e,he⟩:=gx i ai;rw [IP i e he];exact ⟨(D.al e (b9 he)).1.le.1,hle e (b9 he)⟩
   have dX:=ht ns (130 + (j:Int)) (m:=3) (by decide);have el:=hq ns (130 + (j:Int)) (m:=3) (by decide);simp only [gL,dG,jJ,jM,p8];exists (fun au cJ=>aK I cJ/\aJ cJ/\∃ lo:Int,(o' <= lo/\lo <= o' + 2)/\au=[~~~a,some (.int n),~~~wl,~~~gl,dv,d1,some (.int (j:Int)),c0,dI,~~~cE,some (.int lo),r']),0
   .nofun;refine ⟨_,ay.of hQ.af,_,x6,_,rfl,⟨_,ay.of vu⟩,?_⟩;refine c1.ml (xs:=g.map fun k:Nat=>V.int k) (zs:=(g.map cO).map V.int) (ay.of vu) (cL (show (g.map fun k:Nat=>V.int k).length <= 8 by rw [aW];omega) (by decide)) (by rw [aW,aW,aW]) (fun l v z N aF aN bj=>?_) (fun pl c9=>?_)
    .obtain ⟨i,ai,rfl⟩:=b8 aF;obtain ⟨y,a6,rfl⟩:=b8 aN;obtain ⟨jF,fc,rfl⟩:=b8 a6;rw [ai] at fc;cases fc;obtain ⟨e,he⟩:=gx i (b9 ai);obtain ⟨hI,sW,Jf⟩:=xn i e he;rw [IP i e he] at bj;nofun;exact ⟨Sub.name,_,ay.of zS,_,sW,_,rfl,_,dR.of (h2 _ _ Jf),_,cp (j:=6) rfl,bj⟩
    .have Ux:=ba (o:=.lst ((g.map cO).map V.int)) c9;refine ⟨_,rfl,_,ay.of aQ,o',yo,wL,a,ns,_,_,rfl,hl,kv.same Ux,⟨by omega,by omega⟩,by decide,_,rfl,bQ _ _ ⟨Ux,dc.upd,_,⟨by omega,by omega⟩,rfl⟩⟩
   rintro jE cJ ⟨s5,ei,aoD,Cg,rfl⟩;have HQ:=kv.same s5;subst aT;simp only [dG];exists (fun au ck=>ck=cJ/\∃ lo:Int,(o' <= lo/\lo <= 21)/\au=[~~~a,some (.int n),~~~wl,~~~gl,dv,d1,some (.int (j:Int)),c0,dI,~~~cE,some (.int lo),r']),0
   .refine dh (decide (dt ns (150 + (j:Int)) 12=0)) (fun Q aV=>?_) (fun _=>?_) (fun _=>?_)
    .nofun;refine ⟨a,ns,_,_,rfl,hl,HQ,⟨by omega,by omega⟩,by decide,rfl,?_⟩;rw [show decide (V.int (dt ns (150 + (j:Int)) 12)=V.int 0)=decide (dt ns (150 + (j:Int)) 12=0) from decide_eq_decide.mpr (by simp)];exact aV
    .nofun;exact bQ _ _ ⟨rfl,_,by omega,rfl⟩
    .simp only [gQ];exact bQ _ _ ⟨rfl,_,by omega,rfl⟩
   rintro qY ck ⟨rfl,lo,tH,rfl⟩;have k9:=ht ns (180 + (j:Int)) (m:=6) (by decide);have kV:=hq ns (180 + (j:Int)) (m:=6) (by decide);subst aT;simp only [dG];exists (fun au gg=>aK ck gg/\aJ gg/\∃ mo:Int,(1 <= mo/\mo <= 20)/\au=[~~~a,some (.int n),~~~wl,~~~gl,dv,d1,some (.int (j:Int)),c0,dI,~~~cE,some (.int lo),some (.int mo)]),0
   .obtain ⟨mo,s',i5⟩:=aaF k9 kV;nofun;exact ⟨by decide,fun p ar=>⟨a,ns,_,_,rfl,hl,HQ.same (ba ar),⟨by omega,by omega⟩,by decide,_,_,rfl,ay.of aQ,_,i5,bQ _ _ ⟨ba ar,ei.upd,mo,s',rfl⟩⟩⟩
   rintro mQ gg ⟨e1,lT,mo,s',rfl⟩;have z_:=s5.trans e1;have v_:=HQ.same e1;have uV:=z_ _ _ hG;have oH:=ht ns (140 + (j:Int)) (m:=mo) (by omega);have pJ:=hq ns (140 + (j:Int)) (m:=mo) (by omega);subst aT;nofun;refine ⟨.inl ⟨_,ay.of uV⟩,a,ns,_,_,rfl,hl,v_,⟨by omega,by omega⟩,by omega,_,rfl,_,ay.of (z_ _ _ hQ.af),_,x6,by decide,fun p ar=>⟨_,(ba ar) _ _ uV,gD (show (kQ.map V.ref).length <= 8 by rw [aW];omega) (by decide),((s4.trans z_).trans (ba ar)).gz k6,(lT.upd).upd,⟨kQ ++ [p],by rw [aQ,ed];rfl,by rw [cZ,AG];rfl,sts ++ [⟨lo,lo + dt ns (140 + (j:Int)) mo,g⟩],by rw [cZ,fS];rfl,fun i q s a1 a2=>?_,?_,fun s ax=>?_⟩,?_⟩⟩
   .have uz:cE ≠ p:=dm uV ar;rcases mF a1 with ⟨fx,fA⟩ | ⟨fx,rfl⟩
    .rcases mF a2 with ⟨bh,b4⟩ | ⟨bh,_⟩
     .obtain ⟨m,hm,e⟩:=mD i q s fA b4;have ec:=z_ _ _ e;refine ⟨m,hm,?_⟩;rw [aM (cx ec uV (by intro z;cases z)),aM (dm ec ar)];exact ec
     .omega
    .rcases mF a2 with ⟨bh,_⟩ | ⟨_,rfl⟩
     .omega
     .refine ⟨kD,by rw [fx,AG];exact eP,?_⟩;rw [aM (eb uz),aQ]
   .rw [ed,y8,m7,qI];rfl
   .rcases eR.mp ax with z | z
    .exact C0 s z
    .rw [eY.mp z];refine ⟨fun i ai e he=>?_,by show 1 <= lo;omega,tH.2,by show lo <= lo + dt ns (140 + (j:Int)) mo;omega,by show lo + dt ns (140 + (j:Int)) mo <= 40;omega⟩;have:=wL (cO i) (cc.mpr ⟨i,ai,rfl⟩);rw [IP i e he] at this;show e.least <= lo;omega
   .repeat (first | exact ⟨_,rfl⟩ | refine ⟨⟨_,rfl⟩,?_⟩)
  .rintro σ I a_;ac_rfl
   obtain ⟨s4,dc,⟨kQ,sts,hG,AG,fS,mD,y8,C0⟩,cC,dI,iT,r',rfl⟩:=a_;subst aT;rw [il] at y8;have hQ:=G.same s4;refine bQ _ _ ⟨s4,dc,⟨kQ,sts,⟨hG,by omega,by rw [G.ak];omega,fun i q m s a1 a2 ef=>?_⟩,⟨by rw [y8];exact k_,fun s ax=>(C0 s ax).1,fun s ax=>(C0 s ax).2⟩⟩,_,_,_,_,rfl⟩;obtain ⟨dP,mN,e⟩:=mD i q s a1 ef;rw [a2] at mN;cases mN;refine ⟨e,hQ.dy i m s.eG a2 ?_⟩;rw [<- y8,df,ef];rfl
 rintro jE cJ ⟨s4,dc,⟨kQ,sts,oL,Yc⟩,cC,dI,iT,r',rfl⟩;subst aT;nofun;exact q cE kQ qs sts cJ (s2.trans s4) dc oL Yc
noncomputable def iv (ds:List bc) (i:Nat):Str:=((ds[i]?).map (·.name)).getD (ae "")
noncomputable def eC (ds:List bc) (s:gS):List Str:=s.eG.map (iv ds)
noncomputable def ib (ds:List bc) (s:gS):List Str:=[ae "stage",num s.lo,num s.ai] ++ eC ds s
noncomputable def gO (ds:List bc) (sts:List gS):List (List Str):=sts.map (ib ds)
noncomputable def su (ds:List bc) (sts:List gS):Str:=d7 nl ((gO ds sts).map (d7 cP))
structure Hz (ds:List bc) (sts:List gS):Prop where
 ln:sts.length <= 8
 bd:∀ s ∈ sts,(0 <= s.lo/\s.lo < 1000)/\(0 <= s.ai/\s.ai < 1000)/\s.eG ≠ []/\s.eG.length <= 8/\∀ i ∈ s.eG,∃ d,ds[i]? = some d
 nm:∀ d ∈ ds,d.name.length <= 8
theorem ahk (ds:List bc) (s:gS) (h:s.eG ≠ []):ae "stage " ++ num s.lo ++ ae " " ++ num s.ai ++ ae " " ++ d7 cP (eC ds s)=d7 cP (ib ds s):=by
 apply Bs;have aq:(ae "stage ").cps.toList=[115,116,97,103,101,32]:=by ac_nf
 have aH:(ae "stage").cps.toList=[115,116,97,103,101]:=by ac_nf
 have bO:(ae " ").cps.toList=[32]:=by ac_nf
 unfold ib eC;obtain ⟨i,r,aB⟩:=sj h;rw [aB,SL,r7];simp only [pd,o1,r7,e8,pv,zq,Lw,lN,aq,aH,bO,l7]
def Oc:bM:=fun vs H Q _=>∃ wl ds cE qs ms sts,vs=[.ref wl,.ref cE]/\jB H wl ds/\om H cE qs ms sts/\Hz ds sts/\aJ H/\Q (.str (su ds sts)) H
def aex:bM:=fun vs H Q _=>∃ wl ds cE qs ms sts,vs=[.ref wl,.ref cE]/\jB H wl ds/\om H cE qs ms sts/\Hz ds sts/\∀ I,aK H I->Q (.str (su ds sts)) I
theorem aar:cm P base T 1 t.BJ t.Ac Ai Oc:=by
 refine cD.forget (sp:=aex) ?_ fun vs H Q E h=>?_
 .exists T.LW.ok ce,9
  obtain ⟨wl,ds,cE,qs,ms,sts,rfl,⟨oO,cz,cK,Kl⟩,oL,X,q⟩:=h;have XX:=X.ln;have xn:∀ (i:Nat) (d:bc),ds[i]? = some d->∃ oW,fZ (oO.map V.ref) (i:Int)=some (.ref oW)/\H oW=some (.tup (lg d)):=fun i d hd=>by
   have hk:oO[i]? = some (oO[i]'(by rw [cK];exact (b6.mp hd).1)):=a' _;exact ⟨_,cp (by rw [df,hk];rfl),Kl i _ d hk hd⟩
  have yP:∀ k:Nat,k <= 1000->k <= sizeLine:=fun k h=>cL h (by decide)
  refine ⟨_,(db (bT (i:=2) ce.aI (ld aA))
   (db (fw fF rfl (e5 (U 1)) (kA (K:=K) (n:=3) rfl rfl (eB (b7 (i:=3) ce.aI) (eB (b7 (i:=4) ce.aI) (eB (b7 (i:=5) ce.aI) kC)))) (a0 (dS (eF f6 kr kz j9 (U 2) (ag (bE be (bE be (bE be (bE be (bE be dF (p4 yD rfl T.xY wu (ag (U 3) aA))) dF) (p4 yD rfl T.xY wu (ag (U 4) aA))) dF) (eF vt AI Az xm dF (ag (g_ rfl (e5 (U 5)) (fO (sc:=bt IV) rfl (by ac_nf)) (N:=DD) (sel:=[none,some 0]) (fT (M:=["_law_ways_here","_law_stages_here","_law_rows","_law_low","_law_high","_law_some"]) (by ac_nf)) (e3.of (fun _ _ _ _=>(b7 (i:=0) (d3 (N:=DD) (by ac_nf) rfl))) (fun _ _ _ _=>⟨_,hn,by walk_at "B"⟩) (fun _ _ _ _=>⟨_,(bZ gR (bZ c8 (U 1) (U 0)) aO),by walk_at "B"⟩))) aA))) aA)))))
   (a0 (b' (eF vt AI Az xm dF (ag (U 2) aA)))))),?_⟩
  exists (fun au I=>aK H I/\∃ dN,H dN=none/\I dN=some (.lst (aY []))/\au=[~~~wl,~~~cE,~~~dN,none,none,none]),3
  .nofun;exact ⟨fh _,fun dN hh=>bQ _ _ ⟨ba hh,dN,hh,aQ,rfl⟩⟩
  rintro fk H1 ⟨s1,dN,hh,dC,rfl⟩;subst aT;exists (fun au I=>aK H I/\I dN=some (.lst (aY ((gO ds sts).map (d7 cP))))/\∃ g8 dv d1,au=[~~~wl,~~~cE,~~~dN,g8,dv,d1]),3
  .nofun;refine ⟨⟨_,ay.of (s1 _ _ oL.at_)⟩,?_⟩;refine dZ.list (xs:=qs.map V.ref) (fun i σ I=>aK H I/\I dN=some (.lst (aY ((gO ds (sts.take i)).map (d7 cP))))/\∃ g8 dv d1,σ=[~~~wl,~~~cE,~~~dN,g8,dv,d1]) ?_ ?_ ?_ ?_
   .exact ⟨s1,by rw [tY];exact dC,_,_,_,rfl⟩
   .rintro i σ I ai ⟨bq,_⟩;exact ay.of (bq _ _ oL.at_)
   .rintro i v σ I aF a_;ac_rfl
    obtain ⟨bq,ea,g8,dv,d1,rfl⟩:=a_;obtain ⟨q9,hk,rfl⟩:=b8 aF;have ai:i < sts.length:=by rw [<- oL.cz];exact (b6.mp hk).1
    have uX:sts[i]? = some sts[i]:=a' ai;have rF:ms[i]? = some (ms[i]'(by rw [oL.cK];exact ai)):=a' _;obtain ⟨aq,aH⟩:=oL.al i q9 _ _ hk rF uX;subst aT;generalize ms[i]'(by rw [oL.cK];exact ai)=m at rF aq aH;generalize aoc:sts[i]=s at uX aq aH;obtain ⟨PO,U6,bne,zx,vF⟩:=X.bd s (b9 uX);have af:=yC (n:=s.lo) (by omega) (by omega);have ak:=yC (n:=s.ai) (by omega) (by omega);have t1:(ae "stage ").length=6:=by ac_nf
    have dJ:(ae " ").length=1:=by ac_nf
    have lX:∀ y ∈ eC ds s,y.length <= 8:=fun y a6=>by
     obtain ⟨k,aC,rfl⟩:=cc.mp a6;obtain ⟨d,hd⟩:=vF k aC;unfold iv;rw [hd];exact X.nm d (b9 hd)
    have gv:(d7 cP (eC ds s)).length <= 100:=by
     have:=qS cP 8 (eC ds s) lX;rw [rS] at this;have aL:(eC ds s).length=s.eG.length:=by unfold eC;rw [aW]
     have:(eC ds s).length * 9 <= 72:=by omega
     omega
    nofun;refine ⟨_,dR.of (bq _ _ aq),rfl,_,_,rfl,_,_,rfl,_,_,rfl,rfl,.inl ⟨_,ay.of ea⟩,_,rfl,NJ (by omega),yP _ (by rw [t1];omega),yP _ (by simp only [pY,t1,dJ];omega),_,rfl,NJ (by omega),yP _ (by simp only [pY,t1,dJ];omega),yP _ (by simp only [pY,t1,dJ];omega),m,rfl,⟨_,ay.of (bq _ _ aH)⟩,?_⟩;refine c1.ml (xs:=s.eG.map fun k:Nat=>V.int k) (zs:=aY (eC ds s)) (ay.of (bq _ _ aH)) (cL (show (s.eG.map fun k:Nat=>V.int k).length <= 8 by rw [aW];exact zx) (by decide)) (by rw [fK,aW];unfold eC;rw [aW]) (fun l v z N aF aN bj=>?_) (fun pl c9=>?_)
    .obtain ⟨k,aC,rfl⟩:=b8 aF;unfold aY eC at aN;obtain ⟨y,a6,rfl⟩:=b8 aN;obtain ⟨tJ,eH,rfl⟩:=b8 a6;rw [aC] at eH;cases eH;obtain ⟨d,hd⟩:=vF k (b9 aC);obtain ⟨oW,ak1,eq⟩:=xn k d hd;have XN:iv ds k=d.name:=by unfold iv;rw [hd];rfl
     rw [XN] at bj;nofun;exact ⟨Sub.name,_,ay.of (bq _ _ cz),_,ak1,_,rfl,_,dR.of (bq _ _ eq),_,cp (j:=1) rfl,bj⟩
    .have mZ:(eC ds s).length <= 8:=by unfold eC;rw [aW];exact zx
     refine ⟨pl,rfl,eC ds s,ay.of aQ,?_,?_⟩
     .have:=zJ lX;rw [dJ];omega
     .rw [show qr (ae " ") (eC ds s)=d7 cP (eC ds s) from zd _ _];have v5:=ahk ds s bne;have i6:(aY ((gO ds (sts.take i)).map (d7 cP))).length <= 8:=by
       unfold aY gO;rw [aW,aW,aW,ha];omega
      refine ⟨yP _ (by simp only [pY,t1,dJ];omega),_,(ba c9) _ _ ea,gD i6 (by decide),(bq.trans (ba c9)).gz hh,?_,?_⟩
      .rw [aQ,v5,m7,uX];unfold gO aY;rw [ed,ed,ed];rfl
      .repeat (first | exact ⟨_,rfl⟩ | refine ⟨⟨_,rfl⟩,?_⟩)
   .rintro σ I a_;ac_rfl
    obtain ⟨bq,ea,g8,dv,d1,rfl⟩:=a_;subst aT;rw [aW,oL.cz,il] at ea;exact bQ _ _ ⟨bq,ea,_,_,_,rfl⟩
  rintro cw av ⟨s2,ea,g8,dv,d1,rfl⟩;subst aT;nofun;have hB:∀ y ∈ (gO ds sts).map (d7 cP),y.length <= 200:=fun y a6=>by
   obtain ⟨r,dY,rfl⟩:=cc.mp a6;obtain ⟨s,ax,rfl⟩:=cc.mp dY;obtain ⟨PO,U6,bne,zx,vF⟩:=X.bd s ax;have af:=yC (n:=s.lo) (by omega) (by omega);have ak:=yC (n:=s.ai) (by omega) (by omega);have lX:∀ y ∈ ib ds s,y.length <= 8:=fun y a6=>by
    unfold ib at a6;rcases eR.mp a6 with z | z
    .have z:y=ae "stage" \/ y=num s.lo\/y=num s.ai:=by simpa using z
     rcases z with rfl | rfl | rfl
     .ac_nf
     .exact cL af (by decide)
     .exact cL ak (by decide)
    .obtain ⟨k,aC,rfl⟩:=cc.mp z;obtain ⟨d,hd⟩:=vF k aC;unfold iv;rw [hd];exact X.nm d (b9 hd)
   have:=qS cP 8 (ib ds s) lX;rw [rS] at this;have aL:(ib ds s).length <= 11:=by
    unfold ib eC;rw [cZ,aW];show 3 + s.eG.length <= 11;omega
   omega
  refine ⟨_,ay.of ea,?_,?_⟩
  .have:=zJ hB;rw [show (ae "\n").length=1 by ac_nf];have aL:((gO ds sts).map (d7 cP)).length <= 8:=by
    unfold gO;rw [aW,aW];exact XX
   omega
  .rw [show qr (ae "\n") ((gO ds sts).map (d7 cP))=d7 nl ((gO ds sts).map (d7 cP)) from zd _ _];exact q _ s2
 .obtain ⟨wl,ds,cE,qs,ms,sts,rfl,L,oL,X,bx,q⟩:=h;exact ⟨bx,wl,ds,cE,qs,ms,sts,rfl,L,oL,X,fun I bq=>⟨bq,q⟩⟩
noncomputable def ke (ds:List bc) (s:gS):ST:=⟨s.lo,s.ai,eC ds s⟩
noncomputable def cf (ds:List bc) (sts:List gS):List ST:=sts.map (ke ds)
theorem mJ (h:ds[i]? = some d):iv ds i=d.name:=by unfold iv;rw [h];rfl
theorem L6 (aI:(ds.map (·.name)).Nodup) (ai:i < ds.length) (aG:j < ds.length) (e:iv ds i=iv ds j):i=j:=by
 rw [mJ (a' ai),mJ (a' aG)] at e;exact v7 aI ai aG (by rw [nr (a' ai),nr (a' aG)];exact e)
structure dM (n:Int) (ds:List bc) (sts:List gS):Prop where
 aI:(ds.map (·.name)).Nodup
 lr:CZ n ds sts
 kj:ds.length <= 6
 cz:1 <= ds.length
 ok:∀ d ∈ ds,nL n d
theorem dM.eU (h:dM n ds sts):(sts.map (·.eG)).flatten.Nodup:=h.lr.bp.pm.nodup_iff.mpr List.nodup_range
theorem dM.lt (h:dM n ds sts) (ax:s ∈ sts) (ai:i ∈ s.eG):i < ds.length:=h.lr.bp.lt (cc.mpr ⟨s,ax,rfl⟩) ai
theorem dM.len (h:dM n ds sts):sts.length <= 6:=by
 have:=h.lr.bp.len.1;rw [aW] at this;have:=h.kj;omega
theorem dM.kl (h:dM n ds sts):Hz ds sts:=by
 refine ⟨by have:=h.len;omega,fun s ax=>?_,fun d hd=>((uo (h.ok d hd).nm).1).2⟩;have b:=h.lr.bd s ax;have hm:s.eG ∈ sts.map (·.eG):=cc.mpr ⟨s,ax,rfl⟩;have a8:=h.lr.bp.JO hm;have:=h.kj;exact ⟨⟨by omega,by omega⟩,⟨by omega,by omega⟩,h.lr.bp.ne _ hm,by omega,fun i ai=>⟨_,a' (h.lt ax ai)⟩⟩
theorem dM.Yj (h:dM n ds sts) (ax:s ∈ sts):(eC ds s).Nodup:=by
 have ah:s.eG.Nodup:=h.eU.sublist (ajg (cc.mpr ⟨s,ax,rfl⟩));unfold eC;refine alx.mpr (amJ (fun {a b} aP aa kJ e=>?_) ah);exact kJ (L6 h.aI (h.lt ax aP) (h.lt ax aa) e)
theorem dM.told (h:dM n ds sts) (ax:sts[i]? = some s) {x:Str} (ah:x ∈ eC ds s):told (cf ds (sts.take i)) x=false:=by
 cases e:My.told (cf ds (sts.take i)) x with
 | false=>rfl
 | true=>
  exfalso;unfold My.told at e;obtain ⟨r,ao,aB⟩:=qL.mp e;obtain ⟨aj,j7,rfl⟩:=cc.mp ao;have aB:x ∈ eC ds aj:=by simpa [ke] using aB
  obtain ⟨k,aC,rfl⟩:=cc.mp ah;obtain ⟨tJ,eH,Eo⟩:=cc.mp aB;have:=L6 h.aI (h.lt (u7 j7) eH) (h.lt (b9 ax) aC) Eo;subst this;obtain ⟨ai,uX⟩:=b6.mp ax;have hf:=h.eU;rw [<- Sm i sts,ed,acF,tV ai,uX,e8,vC] at hf;exact (Ku.mp hf).2.2 tJ (KP.mpr ⟨aj.eG,cc.mpr ⟨aj,j7,rfl⟩,eH⟩) tJ (LS _ aC) rfl
theorem Q8:∀ {r:List Str} {j:Nat} {ms:List Str},(∀ x ∈ r,x ∈ alike)->(ms ++ r).Nodup->q' alike r j ms=.ok (ms ++ r)
 | [],j,ms,_,_=>by
  show rW ms=_;rw [xy]
 | x :: r,j,ms,aP,aX=>by
  unfold q';have ah:x ∉ ms:=fun z=>(Ku.mp aX).2.2 x z x (m3 ..) rfl
  rw [if_pos ⟨aP x (m3 ..),ah⟩,Q8 (fun y a6=>aP y (ik _ a6)) (by rw [l7];exact aX),l7];rfl
theorem dM.left (h:dM n ds sts) (ax:sts[i]? = some s) {x:Str} (ah:x ∈ eC ds s):x ∈ hj ds (cf ds (sts.take i)):=by
 unfold hj;refine jc.mpr ⟨?_,by rw [h.told ax ah];rfl⟩;obtain ⟨k,aC,rfl⟩:=cc.mp ah;have eH:=h.lt (b9 ax) aC;rw [mJ (a' eH)];exact cc.mpr ⟨_,g6 eH,rfl⟩
theorem dM.ajj (h:dM n ds sts) (ax:sts[i]? = some s):qV ds (cf ds (sts.take i)) (ib ds s)=.ok (ke ds s):=by
 have hm:=b9 ax;have b:=h.lr.bd s hm;have cj:=h.lr.bp.ne s.eG (cc.mpr ⟨s,hm,rfl⟩);obtain ⟨k,r,aB⟩:=sj cj;have lX:eC ds s=iv ds k :: r.map (iv ds):=by unfold eC;rw [aB];rfl
 have hw:ib ds s=ae "stage" :: num s.lo :: num s.ai :: iv ds k :: r.map (iv ds):=by unfold ib;rw [lX];rfl
 have cF:mL ds (hj ds (cf ds (sts.take i))) (ib ds s)=.ok (eC ds s):=by
  have hf:iv ds k ∈ eC ds s:=by rw [lX];exact m3 ..
  have a5:aD (ib ds s) 3=iv ds k:=by rw [hw];rfl
  have bN:(ib ds s).drop 4=r.map (iv ds):=by rw [hw];rfl
  unfold mL;rw [a5,bN,if_pos (h.left ax hf),Q8 (fun x ah=>?_) (by have:=h.Yj hm;rw [lX] at this;exact this),lX]
  .rfl
  .have kI:x ∈ eC ds s:=by rw [lX];exact ik _ ah
   refine jc.mpr ⟨h.left ax kI,decide_eq_true ?_⟩;obtain ⟨dT,ady,rfl⟩:=cc.mp ah;have F':dT ∈ s.eG:=by rw [aB];exact ik _ ady
   have NM:k ∈ s.eG:=by rw [aB];exact m3 ..
   have cz:=a' (h.lt hm NM);have cK:=a' (h.lt hm F');have al:=h.lr.bp.al s.eG (cc.mpr ⟨s,hm,rfl⟩) dT F' k NM _ _ cK cz;show (hM ds (iv ds dT)).map iz=(hM ds (iv ds k)).map iz;rw [mJ cz,mJ cK,mu h.aI cz,mu h.aI cK];have:=vl.mp al;show some (iz _)=some (iz _);unfold iz;by_cases c:(ds[dT]'(h.lt hm F')).k=2
   .rw [if_pos c,if_pos (this.mp c)]
   .rw [if_neg c,if_neg (fun z=>c (this.mpr z))]
 have h0:aD (ib ds s) 0=ae "stage" := by rw [hw];rfl
 have af:aD (ib ds s) 1=num s.lo:=by rw [hw];rfl
 have ak:aD (ib ds s) 2=num s.ai:=by rw [hw];rfl
 have aq:lb (num s.lo) 1 60=some s.lo:=Ol (qZ (by omega) (by omega) (by omega) (by omega));have aH:lb (num s.ai) s.lo 60=some s.ai:=Ol (qZ (by omega) (by omega) (by omega) (by omega));unfold qV;rw [h0,af,ak,cF,if_pos (eY.mpr rfl),aq];show (lb (num s.ai) s.lo 60).elim _ _=_;rw [aH];rfl
theorem dM.parse (h:dM n ds sts):∀ (m i:Nat),sts.length - i=m->i <= sts.length->sr ds ((gO ds sts).drop i) i (cf ds (sts.take i))=.ok (cf ds sts)
 | 0,i,hm,ai=>by
  have:i=sts.length:=by omega
  subst this;have aL:(gO ds sts).length=sts.length:=by unfold gO;rw [aW]
  rw [<- aL,wZ,aL,il];rfl
 | m + 1,i,hm,ai=>by
  have fc:i < sts.length:=by omega
  have ax:sts[i]? = some sts[i]:=a' fc;have aL:i < (gO ds sts).length:=by unfold gO;rw [aW];exact fc
  have a8:(gO ds sts)[i]=ib ds sts[i]:=(b6.mp (show (gO ds sts)[i]? = some (ib ds sts[i]) by unfold gO;rw [df,ax];rfl)).2;rw [tV aL,a8];unfold sr;have ia:=h.len;rw [if_neg (by unfold cf;rw [aW,ha];omega),h.ajj ax];have cS:=h.parse m (i + 1) (by omega) fc;rw [re ax] at cS;unfold cf at cS ⊢;rw [ed] at cS;exact cS
theorem dM.none (h:dM n ds sts):(hj ds (cf ds sts)).head? = vB/\vM ds (cf ds sts)=vB/\u_ n ds (cf ds sts)=vB:=by
 refine ⟨?_,?_,?_⟩
 .have:hj ds (cf ds sts)=[]:=by
   unfold hj;refine M'.mpr fun x ah=>?_
   obtain ⟨d,hd,rfl⟩:=cc.mp ah;obtain ⟨k,aC⟩:=hU hd;have oA:=(b6.mp aC).1;have hf:=h.lr.bp.pm.mem_iff.mpr (oF.mpr oA);obtain ⟨g,a8,aeC⟩:=KP.mp hf;obtain ⟨s,ax,rfl⟩:=cc.mp a8;have:My.told (cf ds sts) d.name=true:=by
    unfold My.told;refine qL.mpr ⟨ke ds s,cc.mpr ⟨s,ax,rfl⟩,?_⟩;have:d.name ∈ eC ds s:=cc.mpr ⟨k,aeC,mJ aC⟩;simpa [ke] using this
   rw [this];simp
  rw [this];rfl
 .unfold vM;refine G7.mpr fun d hd=>?_
  unfold xQ;cases aC:jS (cf ds sts) d.name with
  | none=>rfl
  | some k=>
   rw [yt];cases ao:(cf ds sts)[k]? with
   | none=>rfl
   | some r=>
    rw [yt];have ah:My.told (cf ds sts) d.name=true:=by
     have:=O' (cf ds sts) d.name;rw [<- this];unfold jS at aC;cases e:dn (gC ((cf ds sts).map (·.mem))) (cy d.name) with
     | none=>rw [e] at aC;cases aC
     | some v=>rfl
    obtain ⟨tJ,ej,_,eH,dY,hm⟩:=nM ah;rw [aC] at eH;cases eH;rw [ao] at dY;cases dY;obtain ⟨s,ax,rfl⟩:=b8 ao;obtain ⟨i,ai,ql⟩:=cc.mp hm;have Vi:=b9 ax;have i6:=h.lt Vi ai;rw [mJ (a' i6)] at ql;obtain ⟨j,aG⟩:=hU hd;have:i=j:=v7 h.aI i6 (b6.mp aG).1 (by rw [nr (a' i6),nr aG,ql]);subst this;have:=h.lr.le s Vi i ai d aG;show (if s.lo < d.least then some (d,k) else vB)=vB;rw [if_neg (show ¬ s.lo < d.least by omega)]
 .unfold u_;refine G7.mpr fun e he=>?_
  obtain ⟨r,k⟩:=e;have ao:r ∈ cf ds sts:=List.fst_mem_of_mem_zipIdx he;obtain ⟨s,ax,rfl⟩:=cc.mp ao;unfold tb;refine G7.mpr fun x ah=>G7.mpr fun y a6=>?_
  obtain ⟨i,ai,rfl⟩:=cc.mp ah;obtain ⟨j,aG,rfl⟩:=cc.mp a6;unfold o3;rw [if_neg];rintro ⟨f9,eg⟩;have li:=a' (h.lt ax ai);have ue:=a' (h.lt ax aG);unfold pS at eg;rw [mJ li,mJ ue,mu h.aI li,mu h.aI ue] at eg;have:=h.lr.bp.A6 s.eG (cc.mpr ⟨s,ax,rfl⟩) i ai j aG (fun z=>f9 (by rw [z])) _ _ li ue;replace eg:mt n _ _=true:=eg;rw [this] at eg;cases eg
def Vk (P:Program) (w:World) (t:bK):bM:=fun vs H Q _=>∃ c n ds sts,vs=[.ref c,.str (su ds sts)]/\fU t H c n ds/\(4 <= n/\n <= 99)/\dM n ds sts/\aJ H/\∀ a I,aK H I->aJ I->fp P w t I a c n ds (cf ds sts)->Q (.ref a) I
theorem dM.plain (h:dM n ds sts):∀ r ∈ gO ds sts,r ≠ []/\r.length <= 11/\∀ x ∈ r,qO x:=fun r ao=>by
 obtain ⟨s,ax,rfl⟩:=cc.mp ao;obtain ⟨PO,U6,bne,zx,vF⟩:=h.kl.bd s ax;refine ⟨by unfold ib;simp,?_,fun x ah=>?_⟩
 .unfold ib eC;rw [cZ,aW];show 3 + s.eG.length <= 11;omega
 .unfold ib at ah;rcases eR.mp ah with z | z
  .have z:x=ae "stage" \/ x=num s.lo\/x=num s.ai:=by simpa using z
   rcases z with rfl | rfl | rfl
   .unfold qO;ac_nf
   .exact lx (by omega) (by omega)
   .exact lx (by omega) (by omega)
  .obtain ⟨k,aC,rfl⟩:=cc.mp z;obtain ⟨d,hd⟩:=vF k aC;rw [mJ hd];exact Gh (h.ok d (b9 hd)).nm
theorem dM.rows (h:dM n ds sts) (cj:sts ≠ []):hs (su ds sts)=gO ds sts:=by
 unfold su;exact Qh (by unfold gO;simpa using cj) (fun r ao=>(h.plain r ao).1) (fun r ao=>(h.plain r ao).2.2)
theorem dM.ne (h:dM n ds sts):sts ≠ []:=fun e=>by
 have:=h.lr.bp.len.2;rw [e] at this;simp at this;have:=h.cz;omega
theorem dM.txt (h:dM n ds sts):(su ds sts).length <= 20000:=by
 have hB:∀ y ∈ (gO ds sts).map (d7 cP),y.length <= 200:=fun y a6=>by
  obtain ⟨r,ao,rfl⟩:=cc.mp a6;obtain ⟨_,ak,a5⟩:=h.plain r ao;have:=qS cP 8 r fun x ah=>(a5 x ah).1
  rw [rS] at this;omega
 have:=qS nl 200 _ hB;rw [wH,aW] at this;have aL:(gO ds sts).length <= 6:=by unfold gO;rw [aW];exact h.len
 unfold su;omega
theorem aao:cm P base T 7 t.x3 t.y9 wk (Vk P w t):=by
 refine (aj5 T).imp fun vs H Q E h=>?_
 obtain ⟨c,n,ds,sts,rfl,C,aX,X,bx,q⟩:=h;obtain ⟨f9,eg,MJ⟩:=X.none;have cj:∀ d ∈ ds,d.name ≠ ae "" := fun d hd e=>by
  have h:=(uo (X.ok d hd).nm).1.1;rw [e] at h;exact absurd h (by ac_nf)
 have bQ:yQ ds:=fun d hd=>by
  obtain ⟨af,ak⟩:=uo (X.ok d hd).nm;exact ⟨⟨cL af.2 (by decide),fun c aB=>by have:=ak c aB;omega⟩,(X.ok d hd).k,(X.ok d hd).of.1,by have:=(X.ok d hd).of;omega⟩
 have ar:=X.parse sts.length 0 rfl (fh _);rw [aiz,tY,show cf ds []=[] from rfl] at ar;refine ⟨c,n,ds,_,_,rfl,C,by omega,bQ,cj,X.txt,by rw [X.rows X.ne];unfold gO;rw [aW];have:=X.len;omega,fun r ao=>?_,bx,by rw [X.rows X.ne];exact ar,adM.mp f9,eg,MJ,fun a I aj dV c3=>q a I aj dV c3⟩;rw [X.rows X.ne] at ao;obtain ⟨af,ak,a5⟩:=X.plain r ao;exact ⟨af,by omega,fun y a6=>cL (a5 y a6).1 (by decide)⟩
theorem UZ (aI:(ds.map (·.name)).Nodup) (ax:∀ i ∈ s.eG,i < ds.length) {k:Nat} (aC:ds[k]? = some d):d.name ∈ eC ds s↔k ∈ s.eG:=by
 have oA:=(b6.mp aC).1;refine ⟨fun h=>?_,fun h=>cc.mpr ⟨k,h,mJ aC⟩⟩;obtain ⟨j,aG,e⟩:=cc.mp h;rw [<- mJ aC] at e;rw [<- L6 aI (ax j aG) oA e];exact aG
theorem amD (h0:0 <= i) (af:i < 4):∃ r:Int,(2 <= r/\r <= 20)/\fZ [V.int 2,V.int 4,V.int 9,V.int 20] i=some (.int r):=by
 have:i=0\/i=1\/i=2\/i=3:=by omega
 rcases this with rfl | rfl | rfl | rfl
 .exact ⟨2,by decide,cp (j:=0) rfl⟩
 .exact ⟨4,by decide,cp (j:=1) rfl⟩
 .exact ⟨9,by decide,cp (j:=2) rfl⟩
 .exact ⟨20,by decide,cp (j:=3) rfl⟩
def Ou (K:bk) (a:Addr) (ns:List Int):bM:=fun vs H Q _=>∃ (turn:Int) (wl:Addr) (ds:List bc),vs=[.ref a,.int turn,.ref wl]/\Sc K a ns H/\(0 <= turn/\turn <= 100)/\jB H wl ds/\ds.length <= 12 /\
 ∀ p xs I,aK H I->aJ I->H p=none->I p=some (.lst (aY xs))->xs.length <= 13->(∀ x ∈ xs,x ∈ ds.map (·.name))->Q (.ref p) I
theorem afd (a:Addr) (ns:List Int) (hl:ns.length <= 63):cm P base T 2 t.am t.CD DH (Ou K a ns):=by
 refine cv (Ap T a ns hl) fun eX=>?_;exists T.HA.ok zj,9
 obtain ⟨turn,wl,ds,rfl,S,apj,aal,gP,q⟩:=h;obtain ⟨qs,xo,KN,JD⟩:=aal;refine ⟨_,(db (bT (i:=3) zj.aI (bZ c8 (ld (ag aO (ag aO (ag aO (ag aO aA))))) (bU eX ao T.fL T.e6.bl T.fH (ag (U 0) (ag aO (ag aO aA))))))
   (db (bT (i:=4) zj.aI (ld aA))
   (db (fw fF rfl (kN rfl T.j' (ag (fP hL rfl T.hz hE (ag (U 2) aA)) aA)) (b7 (i:=5) zj.aI) (a0 (dU (cX et (bU eX ao T.fL T.e6.bl T.fH (ag (U 0) (ag (bE d4 (bE d4 aO (bE kg aO (U 1))) (U 5)) (ag (U 3) aA)))) aO (cA _)) (a0 (dS (eF f6 FO PC LP (U 4) (ag (bU eX ao T.fL T.e6.bl T.fH (ag (U 0) (ag (bE d4 (bE d4 aO (U 1)) (bE kg aO (U 5))) (ag (bE d4 (fP hL rfl T.hz hE (ag (U 4) aA)) aO) aA)))) (ag (bZ gR (bZ c8 (U 2) (U 5)) aO) aA))))) eh)))
   (db (dU (fM.pt (md (cX rb (fP hL rfl T.hz hE (ag (U 4) aA)) aO (cA _)) (mi (cX et (bU eX ao T.fL T.e6.bl T.fH (ag (U 0) (ag (bE d4 aO (U 1)) (ag aO aA)))) aO (cA _))))) (a0 (dS (eF f6 kr kz j9 (U 4) (ag (bZ c8 (U 4) aO) aA)))) eh)
   (a0 (b' (U 4))))))),?_⟩
 exists (fun au I=>aK H I/\Sc K a ns I/\∃ qD:Int,(2 <= qD/\qD <= 20)/\au=[~~~a,some (.int turn),~~~wl,some (.int qD),none,none]),3
 ·(nofun; repeat (dsimp only [ig];nofun));refine ⟨by decide,fun p ar=>⟨S.new ar,by decide,by decide,by decide,?_⟩⟩;obtain ⟨r,acQ,WG⟩:=amD (ht ns 4 (m:=4) (by decide)) (hq ns 4 (m:=4) (by decide));exact ⟨_,ay.of aQ,_,WG,bQ _ _ ⟨ba ar,S.new ar,r,acQ,rfl⟩⟩
 rintro fk H1 ⟨s1,oN,qD,nh,rfl⟩;subst aT;exists (fun au I=>aK H I/\Sc K a ns I/\∃ p,H p=none/\I p=some (.lst (aY []))/\au=[~~~a,some (.int turn),~~~wl,some (.int qD),~~~p,none]),3
 .nofun;exact ⟨by decide,fun p ar=>bQ _ _ ⟨s1.trans (ba ar),oN.new ar,p,s1.free ar,aQ,rfl⟩⟩
 rintro cw av ⟨s2,jZ,p,ar,dH,rfl⟩;subst aT;exists (fun au I=>aK H I/\Sc K a ns I/\∃ xs y,xs.length <= 12/\(∀ x ∈ xs,x ∈ ds.map (·.name))/\I p=some (.lst (aY xs))/\au=[~~~a,some (.int turn),~~~wl,some (.int qD),~~~p,y]),3
 .have ea:=s2 _ _ xo;have pT:(qs.map V.ref).length=ds.length:=by rw [aW,KN]
  nofun;refine ⟨_,.inl (ay.of ea),by omega,by omega,?_⟩;rw [pT,lI];refine dZ.range (fun i σ I=>aK H I/\Sc K a ns I/\∃ xs y,xs.length <= i/\(∀ x ∈ xs,x ∈ ds.map (·.name))/\I p=some (.lst (aY xs))/\σ=[~~~a,some (.int turn),~~~wl,some (.int qD),~~~p,y]) ⟨s2,jZ,[],_,fh _,fun x ah=>by simp at ah,dH,rfl⟩ ?_ ?_
  .rintro i σ I ai a_;ac_rfl
   obtain ⟨aj,rt,xs,y,gN,h1,hO,rfl⟩:=a_;have hd:=a' ai;have aR:=a' (show i < qs.length by omega);have agz:=aj _ _ (JD i _ _ aR hd);have e_:=aj _ _ xo;have qa:(aY xs).length=xs.length:=fK ..;subst aT;nofun;refine dh (decide (dt ns (400 + 17 * turn + (0 + (i:Int))) qD=0)) (fun Q' aV=>?_) (fun aa=>?_) (fun aa=>?_)
   ·(nofun; repeat (dsimp only [ig];nofun));exact ⟨.inr ⟨by omega,by omega⟩,rt,by omega,by omega,by omega,by simpa using aV⟩
   ·(nofun; repeat (dsimp only [ig];nofun));have dX:=ht ns (900 + turn + 5 * (i:Int)) (m:=(xs.length:Int) + 1) (by omega);have el:=hq ns (900 + turn + 5 * (i:Int)) (m:=(xs.length:Int) + 1) (by omega);refine ⟨.inl ⟨_,ay.of hO⟩,.inl ⟨by omega,by omega⟩,_,.inl (ay.of hO),rt,by omega,by omega,by omega,_,ay.of e_,_,cp (by rw [df,aR];rfl),_,rfl,_,dR.of agz,_,cp (j:=1) rfl,_,hO,?_⟩;rw [qa];generalize dt ns (900 + turn + 5 * (i:Int)) ((xs.length:Int) + 1)=g at dX el;have fc:g.toNat <= xs.length:=by omega
    have e:(aY xs).take g.toNat ++ V.str ds[i].name :: (aY xs).drop g.toNat=aY (ins xs g.toNat ds[i].name):=by
     unfold aY;rw [H3];rfl
    rw [e];refine ⟨dX,by omega,by omega,gD (show xs.length <= 12 by omega) (by decide),aj.gz ar,rt.set hO (by intro _ _ z;cases z),_,by rw [Hi fc];omega,fun x ah=>?_,aQ,_,rfl⟩;rcases nv ah with rfl | ah
    .exact cc.mpr ⟨_,g6 ai,rfl⟩
    .exact h1 x ah
   .nofun;exact ⟨aj,rt,xs,by omega,h1,hO,_,rfl⟩
  .rintro σ I a_;ac_rfl
   obtain ⟨aj,rt,xs,y,gN,h1,hO,rfl⟩:=a_;subst aT;exact bQ _ _ ⟨aj,rt,xs,y,by omega,h1,hO,rfl⟩
 rintro fI br ⟨s3,p3,xs,y,gN,h1,iD,rfl⟩;subst aT;exists (fun au I=>aK H I/\Sc K a ns I/\∃ xs y,xs.length <= 13/\(∀ x ∈ xs,x ∈ ds.map (·.name))/\I p=some (.lst (aY xs))/\au=[~~~a,some (.int turn),~~~wl,some (.int qD),~~~p,y]),3
 .have qa:(aY xs).length=xs.length:=fK ..;nofun;refine dh (decide (0 < xs.length) && decide (dt ns (1300 + turn) 7=0)) (fun Q' aV=>?_) (fun aa=>?_) (fun aa=>?_)
  ·(nofun; repeat (dsimp only [ig];nofun));refine ⟨_,.inl (ay.of iD),?_⟩;rw [qa];by_cases bF:0 < xs.length
   .rw [if_pos (decide_eq_true (by omega))];rw [decide_eq_true bF,lU] at aV;exact ⟨p3,by omega,by omega,by decide,aV⟩
   .rw [if_neg (by simpa using bF)];rw [decide_eq_false bF,mv] at aV;exact aV
  .nofun;have h0:0 < xs.length:=by
    rw [iF,decide_eq_true_eq] at aa;exact aa.1
   obtain ⟨x,r,rfl⟩:∃ x r,xs=x :: r:=by
    cases xs with
    | nil=>cases h0
    | cons x r=>exact ⟨x,r,rfl⟩
   refine ⟨.inl ⟨_,ay.of iD⟩,_,ay.of iD,_,cp (j:=0) rfl,_,iD,by rw [qa];exact gD gN (by decide),?_⟩;refine bQ _ _ ⟨s3.gz ar,p3.set iD (by intro _ _ z;cases z),(x :: r) ++ [x],y,by rw [cZ];exact Nat.succ_le_succ gN,fun z aN=>?_,?_,rfl⟩
   .rcases eR.mp aN with aN | aN
    .exact h1 z aN
    .rw [eY.mp aN];exact h1 x (.head _)
   .rw [aQ];unfold aY;rw [ed];rfl
  .nofun;exact bQ _ _ ⟨s3,p3,xs,y,by omega,h1,iD,rfl⟩
 rintro jE cJ ⟨s4,kv,xs,y,gN,h1,aeW,rfl⟩;subst aT;nofun;exact q p xs cJ s4 kv.2 ar aeW gN h1
noncomputable def lE (sts:List gS) (j:Nat):List Nat:=((sts[j]?).map (·.eG)).getD []
theorem Bq {x:gS} (h:sts[j]? = some x):lE sts j=x.eG:=by unfold lE;rw [h];rfl
noncomputable def Uv (ds:List bc) (i:Nat):Bool:=decide ((ds[i]?).map (·.k)=some 2)
noncomputable def K9 (ds:List bc) (sts:List gS) (j:Nat):Bool:=Uv ds ((lE sts j).headD 0)
theorem dM.six {n:Int} {ds:List bc} {sts:List gS} (h:dM n ds sts) {j:Nat} (aG:j < sts.length):sts[j].eG ≠ []/\sts[j].eG.length <= 8:=by
 obtain ⟨_,_,a,b,_⟩:=h.kl.bd _ (g6 aG);exact ⟨a,b⟩
section
variable {n:Int} {ds:List bc} {sts:List gS}
theorem dM.tell (X:dM n ds sts) {d:bc} (hd:d ∈ ds):My.told (cf ds sts) d.name=true:=by
 have h:hj ds (cf ds sts)=[]:=adM.mp X.none.1;unfold hj at h;have:=M'.mp h d.name (cc.mpr ⟨d,hd,rfl⟩);simpa using this
theorem Vb {j k:Nat} (h:k ∈ lE sts j):∃ x,sts[j]? = some x/\k ∈ x.eG:=by
 unfold lE at h;cases e:sts[j]? with
 | none=>rw [e] at h;simp at h
 | some x=>rw [e] at h;exact ⟨x,rfl,h⟩
theorem dM.uniq (X:dM n ds sts) {j i k:Nat} (af:k ∈ lE sts j) (ak:k ∈ lE sts i):j=i:=by
 have half:∀ {a b:Nat},a < b->k ∈ lE sts a->k ∈ lE sts b->False:=fun {a b} kJ aP aa=>by
  obtain ⟨x,ah,Ig⟩:=Vb aP;obtain ⟨y,a6,aeA⟩:=Vb aa;have hf:=X.told a6 (x:=iv ds k) (cc.mpr ⟨k,aeA,rfl⟩);have kI:x ∈ sts.take b:=b9 (by rw [vZ kJ];exact ah);have:My.told (cf ds (sts.take b)) (iv ds k)=true:=by
   unfold My.told;refine qL.mpr ⟨ke ds x,cc.mpr ⟨x,kI,rfl⟩,?_⟩;have hm:iv ds k ∈ eC ds x:=cc.mpr ⟨k,Ig,rfl⟩;simpa [ke] using hm
  rw [hf] at this;cases this
 rcases abP j i with h | h | h
 .exact (half h af ak).elim
 .exact h
 .exact (half h ak af).elim
theorem dM.OP (X:dM n ds sts) {j k:Nat} {d:bc} (hd:ds[k]? = some d):jS (cf ds sts) d.name=some j↔k ∈ lE sts j:=by
 obtain ⟨er,r,_,aC,jq,hm⟩:=nM (X.tell (b9 hd));unfold cf at jq;rw [df] at jq;obtain ⟨x,ah,rfl⟩:=yR.mp jq;have hm:d.name ∈ eC ds x:=hm;have Ig:k ∈ x.eG:=(UZ X.aI (fun i ai=>X.lt (b9 ah) ai) hd).mp hm;have hx:k ∈ lE sts er:=by rw [Bq ah];exact Ig
 rw [aC];constructor
 .intro e;cases e;exact hx
 .intro h;rw [X.uniq h hx]
theorem dM.sort (X:dM n ds sts) {j:Nat} (aG:j < sts.length):b_ ds (cf ds sts) j=if K9 ds sts j=true then dd else h3:=by
 have ah:=a' aG;obtain ⟨tO,r,e⟩:=sj (X.six aG).1;have ju:tO ∈ sts[j].eG:=by rw [e];exact .head _
 have kP:=a' (X.lt (g6 aG) ju);unfold b_ cf;rw [df,ah];show c6 ds (ke ds sts[j])=_;unfold c6 ke eC;rw [e,e8,mJ kP];show (((hM ds _).map iz).getD _)=_;rw [mu X.aI kP];show iz _=_;unfold iz K9 Uv;rw [Bq ah,e];show _=if decide ((ds[tO]?).map (·.k)=some 2)=true then dd else h3;rw [kP,Bl];by_cases h:(ds[tO]'(X.lt (g6 aG) ju)).k=2
 .rw [if_pos h,if_pos (decide_eq_true (congrArg some h))]
 .rw [if_neg h,if_neg (fun z=>h (eE (of_decide_eq_true z)))]
end
theorem Ln {ds:List bc} {sts:List gS} {j:Nat} {x:gS} (h:sts[j]? = some x):(cf ds sts)[j]? = some (ke ds x):=by unfold cf;rw [df,h];rfl
theorem jB.ni {H I:aw} {wl:Addr} {ds:List bc} (h:jB H wl ds) (s:hD H I):jB I wl ds:=by
 obtain ⟨qs,aq,aH,bO⟩:=h;exact ⟨qs,s.lst aq,aH,fun i q d a b=>s.tup (bO i q d a b)⟩
theorem om.ni {H I:aw} {cE:Addr} {qs ms:List Addr} {sts:List gS} (h:om H cE qs ms sts) (s:hD H I):om I cE qs ms sts:=
 ⟨s.lst h.at_,h.cz,h.cK,fun i q m x a b c=>⟨s.tup (h.al i q m x a b c).1,s.lst (h.al i q m x a b c).2⟩⟩
theorem dM.Xr {n:Int} {ds:List bc} {sts:List gS} (X:dM n ds sts):nK ds (cf ds sts):=by
 refine ⟨fun d hd=>X.tell hd,fun r ao=>?_,fun r ao=>?_,by have:=X.kj;omega⟩
 .obtain ⟨x,ah,rfl⟩:=cc.mp ao;show (eC ds x).length <= 12;unfold eC;rw [aW];have:=(X.kl.bd x ah).2.2.2.1;omega
 .obtain ⟨x,ah,rfl⟩:=cc.mp ao;obtain ⟨j,aG,e⟩:=Dg ah;have:=X.sort aG;unfold b_ at this;rw [Ln (a' aG),e] at this;have this:c6 ds (ke ds x)=_:=this;rw [this];split
  .exact .inl rfl
  .exact .inr rfl
theorem zR {last m v:Int} (af:-1 <= last) (ak:last < v) (a5:v < m):nc last m v=v - last - 1:=by
 unfold nc;exact m' (by omega) (by omega)
theorem Ee {last m v:Int} (af:last < m) (ak:0 <= v) (a5:v <= last):nc last m v=v - last - 1 + m:=by
 unfold nc;have e:(v - last - 1) % m=(v - last - 1 + m) % m:=by simp
 rw [e];exact m' (by omega) (by omega)
theorem X5 {last:Int} {m a b:Nat} (af:-1 <= last) (ak:last < m) (aP:a < m) (aa:b < m) (h:nc last m a=nc last m b):a=b:=by
 by_cases ca:last < (a:Int) <;> by_cases PM:last < (b:Int)
 .rw [zR af ca (by omega),zR af PM (by omega)] at h;omega
 .rw [zR af ca (by omega),Ee ak (by omega) (by omega)] at h;omega
 .rw [Ee ak (by omega) (by omega),zR af PM (by omega)] at h;omega
 .rw [Ee ak (by omega) (by omega),Ee ak (by omega) (by omega)] at h;omega
unseal L2.hy L2.bD L2.hA L2.jx L2.iO L2.fM
section
open PySem PySem.Spec PyProof.Rows L2
def Dd (ts:List Addr) (H:aw):Prop:=(∀ p ∈ ts,H p=some (.hC #[]))/\∀ b,H b=none\/b ∈ ts\/∃ o xs,H b=some (.e2 o (.lst xs))
theorem aiO {K:bk} {ns:List Int} (lG:Dd ts H) (dE:ay K H a (ns.map V.int)):Sc K a ns H:=by
 refine ⟨?_,fun b u e=>?_⟩
 .rcases dE with (h | ⟨o,h⟩) | h
  .rcases lG.2 a with z | z | ⟨cV,xs,z⟩
   .rw [h] at z;cases z
   .rw [lG.1 a z] at h;cases h
   .rw [h] at z;cases z
  .exact .inl ⟨o,h⟩
  .exact .inr h
 .rcases lG.2 b with z | z | ⟨o,xs,z⟩
  .rw [e] at z;cases z
  .rw [lG.1 b z] at e;cases e;rfl
  .rw [e] at z;cases z;rfl
theorem XI {P:Program} {w:World} {K:bk} {mg ny:Str->Option Value} {CX:ku} {k:Nat} {gf a:Addr} {ts:List Addr} {cd:Addr->Addr} {fd:FuncData} {x:Str} {sp:bM} {du:Shared} {vs:List Value} {ns:List Int}
  (kk:K.In du.heap) (fo:aj2 K=true) (nS:du.heap.Ns mainGlobals mg) (aa:du.heap.Ns builtinsNs ny) (sh:∀ x:Str,x ≠ "__name__" -> ny x=bootBuiltins x) (aed:du.heap.NoLimit) (a8:du.gens=#[])
  (agU:∃ bm cV,mg "__builtins__"=some (.ref bm)/\bm ≠ builtinsNs/\du.heap.get? bm=some cV/\cV.cls=.type "module" /\ cV.dict=some builtinsNs/\cV.data=.plain)
  (dg:∀ p ∈ ts,mf du.heap (cd p) p) (cF:∀ p ∈ ts,du.heap.get? p=some (K7 #[]))
  (aP:du.heap.get? a=some { cls:=.type "list",data:=.seq vs.toArray }) (ai:IntsAre vs ns) (aL:ns.length <= sizeLine) (ao:eO k callerA)
  (F:∀ base:Heap,K.In base->base.Ns mainGlobals mg->(∀ p ∈ ts,mf base (cd p) p/\base.BuiltinsAt mg p)->cD P w K mg base CX k gf fd [x] sp) (ahq:∀ (s:Shared) (u:Value),BindsTo s fd ⟨[u],[]⟩ [(x,u)])
  (jN:∀ H:aw,Dd ts H->ay K H a (ns.map V.int)->sp [.ref a] H (fun v _=>v=.bo true) fun _ _ _=>False)
  (Ih:∀ H e aj,CX [] H du (fun _ _ _=>False) e aj->False) :
  codeAny (model P w) callerA (.call (.ref gf) ⟨[.ref a],[]⟩) (fun r aj=>r=.ok (.ret (.bool true))/\OldK du.heap aj.heap/\aj.os=du.os/\AllBare aj.gens) du:=by
 have cH:=V0 ai;have ado:=ai.length;have Q2:a ∉ ts:=fun z=>by rw [cF a z] at aP;cases aP
 have W':∀ p ∈ ts,∀ o,K.lookup p=some o->False:=fun p ar o e=>by
  have aq:=kk _ _ e;rw [cF p ar] at aq;cases aq;have:=sZ.mp fo _ (PySem.W.mem_of_lookupK e);exact absurd (show false=true from this) fB
 have core:∀ H:aw,Dd ts H->ay K H a (ns.map V.int)->fb P w H du.heap->(∀ b,H b ≠ none->b ∈ ts\/b=a)->(H a ≠ none->K.lookup a=none) ->
   codeAny (model P w) callerA (.call (.ref gf) ⟨[.ref a],[]⟩) (fun r aj=>r=.ok (.ret (.bool true))/\OldK du.heap aj.heap/\aj.os=du.os/\AllBare aj.gens) du:=by
  intro H lG dE bu ks YD;have R7:∀ {b:Addr} {o:Obj},du.heap.get? b=some o->o.cls ≠ .none->(∀ a7 n,o.data ≠ .seq a7 n)->(ox du.heap H).get? b=some o:=fun {b o} e af ak=>by
   refine HC e ?_;cases q:H b with
   | none=>rfl
   | some u=>
    rcases ks b (by rw [q];simp) with z | z
    .rw [cF b z] at e;cases e;exact absurd rfl af
    .subst z;rw [aP] at e;cases e;exact absurd rfl (ak _ _)
  have DA:∀ {b:Addr} {m:Str->Option Value},du.heap.Ns b m->(ox du.heap H).Ns b m:=fun {b m} ⟨o,aU,ct,e,d,r⟩=>⟨o,aU,ct,(by
   refine HC e ?_;cases q:H b with
   | none=>rfl
   | some u=>
    rcases ks b (by rw [q];simp) with z | z
    .rw [cF b z] at e;cases e;cases d
    .subst z;rw [aP] at e;cases e;cases d),d,r⟩
  have Pq:K.In (ox du.heap H):=fun b o e=>HC (kk b o e) (by
   cases q:H b with
   | none=>rfl
   | some u=>
    rcases ks b (by rw [q];simp) with z | z
    .exact (W' b z o e).elim
    .subst z;rw [YD (by rw [q];simp)] at e;cases e)
  have afc:Mod K mg (ox du.heap H):=⟨Pq,DA nS,⟨ny,DA aa,sh⟩,let ⟨ajh,af,ak⟩:=aed;⟨ajh,DA af,ak⟩⟩;have agT:∀ p ∈ ts,mf (ox du.heap H) (cd p) p:=fun p ar=>by
   obtain ⟨o,XT,file,amc,flags,dz,amm,text,tt,aq,aH,bO,r⟩:=dg p ar;exact ⟨o,XT,file,amc,flags,dz,amm,text,tt,R7 aq (by rw [aH];intro z;cases z) (fun _ _ z=>by rw [bO] at z;cases z),aH,bO,r⟩
  have ajx:∀ p ∈ ts,(ox du.heap H).BuiltinsAt mg p:=fun p ar=>by
   obtain ⟨bm,cV,af,ak,a5,bN,dy,ia⟩:=agU;refine ⟨bm,cV,af,ak,fun z=>?_,fun z=>?_,R7 a5 (by rw [bN];intro z;cases z) (fun _ _ z=>by rw [ia] at z;cases z),bN,dy,ia⟩
   .obtain ⟨o,aU,ct,e,d,_⟩:=nS;rw [z,e] at a5;cases a5;rw [d] at ia;cases ia
   .rw [z,cF p ar] at a5;cases a5;cases bN
  have eK:rH P w K mg (ox du.heap H) callerA [] du H:=⟨rfl,afc,fun b o e=>ajU e,aeG (aju _ _),trivial,fun b aa=>absurd (show b ∈ ([]:List Addr) from aa) (by simp),bu,.of_eq a8⟩;refine codeAny_mono ((F _ Pq (DA nS) (fun p ar=>⟨agT p ar,ajx p ar⟩)).run callerA [] du H ⟨[.ref a],[]⟩ [.ref a] [.ref a] _ _ ao eK (ahq du (.ref a)) (.cons rfl .nil) (jN H lG dE)) fun r aj h=>?_
  cases r with
  | error e=>exact (Ih H e aj h).elim
  | ok eU=>
   cases eU with
   | next=>exact kH h
   | brk=>exact kH h
   | cont=>exact kH h
   | ret u=>
    obtain ⟨v,I,os,bare,un,Nu,ej,q⟩:=h;have dB:v=.bo true:=q;subst dB;obtain rfl:u=k7 true:=ej;have bG:∀ p ∈ ts,∃ more,aj.heap.get? p=some { cls:=.none,data:=.fields (#[] ++ more) }:=fun p ar=>by
     obtain ⟨more,kW⟩:=un.pO p _ (lG.1 p ar);exact ⟨more,Nu _ _ kW⟩
    have bl:∀ b o,b ∉ ts->du.heap.get? b=some o->aj.heap.get? b=some o:=fun b o nb e=>by
     rcases lG.2 b with z | z | ⟨cV,xs,z⟩
     .exact un.keep b o e z (by intro z;exact absurd (show b ∈ ([]:List Addr) from z) (by simp)) (by simp)
     .exact absurd z nb
     .have eg:=un.mS b cV _ z;obtain ⟨aq,_⟩:=bu b _ z;obtain ⟨aH,_⟩:=Nu b _ eg;rw [e] at aq;cases aq;exact aH
    refine ⟨rfl,⟨fun b o e=>?_,fun b o e=>?_⟩,os,bare⟩
    .by_cases sd:b ∈ ts
     .rw [cF b sd] at e;cases e;obtain ⟨more,G'⟩:=bG b sd;exact .inr (.inl ⟨((dg b sd).tab (cF b sd)).isCodeTable,rfl,#[],more,rfl,G'⟩)
     .exact .inl (bl b o sd e)
    .by_cases sd:b ∈ ts
     .obtain ⟨more,G'⟩:=bG b sd;exact ⟨_,G'⟩
     .exact ⟨o,bl b o sd e⟩
 cases aC:K.lookup a with
 | some o=>
  have e:=kk a o aC;rw [aP] at e;cases e;refine core (fun b=>if b ∈ ts then some (.hC #[]) else none) ⟨fun p ar=>if_pos ar,fun b=>?_⟩ (.inr ⟨_,vs.toArray,_,aC,rfl,rfl,rfl,by rw [ft,ado];exact aL,by simpa using cH⟩) (fun b u z=>?_) (fun b z=>?_) fun z=>absurd (if_neg Q2) z
  .by_cases aa:b ∈ ts
   .exact .inr (.inl aa)
   .exact .inl (if_neg aa)
  .by_cases aa:b ∈ ts
   .have gZ:=(if_pos aa).symm.trans z;cases gZ;exact cF b aa
   .have gZ:=(if_neg aa).symm.trans z;cases gZ
  .by_cases aa:b ∈ ts
   .exact .inl aa
   .exact absurd (if_neg aa) z
 | none=>
  have ie:(fun b=>if b ∈ ts then some (fX.hC #[]) else if b=a then some (.e2 { cls:=.type "list",data:=.seq vs.toArray } (.lst (ns.map V.int))) else none) a=some (.e2 { cls:=.type "list",data:=.seq vs.toArray } (.lst (ns.map V.int))):=by
   show (if a ∈ ts then _ else if a=a then _ else _)=_;rw [if_neg Q2,if_pos rfl]
  refine core (fun b=>if b ∈ ts then some (.hC #[]) else if b=a then some (.e2 { cls:=.type "list",data:=.seq vs.toArray } (.lst (ns.map V.int))) else none) ⟨fun p ar=>if_pos ar,fun b=>?_⟩ (.inl (.inr ⟨_,ie⟩)) (fun b u z=>?_) (fun b z=>?_) fun _=>aC
  .by_cases aa:b ∈ ts
   .exact .inr (.inl aa)
   .by_cases jL:b=a
    .exact .inr (.inr ⟨_,_,by rw [jL];exact ie⟩)
    .exact .inl ((if_neg aa).trans (if_neg jL))
  .by_cases aa:b ∈ ts
   .have gZ:=(if_pos aa).symm.trans z;cases gZ;exact cF b aa
   .by_cases jL:b=a
    .subst jL;rw [ie] at z;cases z;exact ⟨aP,by rw [aW];exact aL,vs,_,cH,aP⟩
    .have gZ:=((if_neg aa).trans (if_neg jL)).symm.trans z;cases gZ
  .by_cases aa:b ∈ ts
   .exact .inl aa
   .by_cases jL:b=a
    .exact .inr jL
    .exact absurd ((if_neg aa).trans (if_neg jL)) z
theorem af4 {l:PySem.W.OpenLaw} {n k:Nat} {q:Program} {loose:List Str} {Ci:(Str->Option Value)->Heap->Prop} {vS:World->Heap->Prop} {d:DefRec} {K:Params->bk} {CX:ku} {sp:bk->Addr->Addr->bM} {x:Str} {hF jb:Addr}
  (aX:l.most=some n) (r4:n <= sizeLine) (FT:d.params.defaults=[]) (ao:eO k callerA)
  (ak6:∀ (w:World) (h:Heap),vS w h->(K w.params).In h) (lq:∀ (w:World) (h:Heap),vS w h->h.get? hF=some (K7 #[])/\h.get? jb=some (K7 #[])) (kJ:hF ≠ jb) (fo:∀ p,aj2 (K p)=true)
  (F:∀ (w:World) (mg:Str->Option Value) (gf:Addr) (h:Heap),(K w.params).In h->h.Ns mainGlobals mg->mg d.name=some (.ref gf)->HT hF->HT jb ->
   ∃ (fd:FuncData) (c c':Addr),(∀ (s:Shared) (u:Value),BindsTo s fd ⟨[u],[]⟩ [(x,u)])/\EN (K w.params) c hF=true/\EN (K w.params) c' jb=true /\
    ∀ (base:Heap),(K w.params).In base->base.Ns mainGlobals mg->mf base c hF->base.BuiltinsAt mg hF->mf base c' jb->base.BuiltinsAt mg jb->cD l.prog w (K w.params) mg base CX k gf fd [x] (sp (K w.params) hF jb))
  (jN:∀ (K:bk) (H:aw) (a hF jb:Addr) (ns:List Int),ns.length <= n->hF ≠ jb->Dd [hF,jb] H->ay K H a (ns.map V.int)->sp K hF jb [.ref a] H (fun v _=>v=.bo true) fun _ _ _=>False)
  (Ih:∀ (H:aw) (s:Shared) (e:Value) (aj:Shared),CX [] H s (fun _ _ _=>False) e aj->False) :
  PySem.W.WalkO q loose Ci vS l.row.toRowW d [] (fun f vs=>amB f vs):=by
 refine QT.ab8 aX FT fun w fQ du mg ny gf o pm cd doc a vs ns G Y aS hd jh wU GO hints hlen a8=>?_
 have kk:=ak6 w _ Y;obtain ⟨fd,c,c',aa,aB,vJ,p9⟩:=F w mg gf _ kk G.T.g wU trivial trivial;have two:∀ {Q:Addr->Prop},Q hF->Q jb->∀ p ∈ [hF,jb],Q p:=fun af ak p ar=>by
  rcases en.mp ar with e | e
  .rw [e];exact af
  .rw [eY.mp e];exact ak
 have aq:(if hF=hF then c else c')=c:=if_pos rfl;have aH:(if jb=hF then c else c')=c':=if_neg (eb kJ);refine XI (ts:=[hF,jb]) (cd:=fun p=>if p=hF then c else c') kk (fo w.params) G.T.g G.T.b G.T.builtins G.T.nolimit a8 G.T.bmain (two (by show mf _ (if hF=hF then c else c') _;rw [aq];exact amu kk aB) (by show mf _ (if jb=hF then c else c') _;rw [aH];exact amu kk vJ)) (two (lq w _ Y).1 (lq w _ Y).2) GO hints (cL hlen r4) ao (fun base Uq nb h=>?_) aa (fun H lG dE=>jN (K w.params) H a hF jb ns hlen kJ lG dE) fun H e aj=>Ih H du e aj
 have aP:=h hF (.head _);have ee:=h jb (.tail _ (.head _))
 (try dsimp only at aP ee)
 rw [aq] at aP;rw [aH] at ee;exact p9 base Uq nb aP.1 aP.2 ee.1 ee.2
end
section
open PySem.Spec PyProof.Rows
section
variable {X:bb} {A:Around} {ab:List (Addr × Obj)} {σ:L2.St} {H:aw} {l q J S:Addr} {n:Nat} {P:Nat->Value->Prop} {R:Result->Shared->Prop}
theorem akf (cW:Nat->Int) (b2:A.handled=none) (aL:∀ s,L2.Inv X ab σ H s->∃ vs:List Value,vs.length=n/\(∀ i v,vs[i]? = some v->P i v)/\s.heap.IsList l vs.toArray) (n1:l ≠ J) (lh:S ≠ J) (ji:lM X ab H S) (jg:lM X ab H J)
  (turn:∀ (i:Nat) (v:Value),i < n->P i v->∀ (ab:List (Addr × Obj)) (s:Shared),L2.Inv X ab σ H s ->
   wpAny (model X.prog X.w) A.in1 (call (.ref q) [v]) (gb X ab σ fun x I=>x=.int (cW i)/\I=H) (fun _ _=>False) s)
  (gA:∀ i v aj,i < n->P i v->(∀ j,j < n->cW j <= cW i/\(j < i->cW j < cW i))->L2.Inv X ab σ H aj->R (.ok (.ret v)) aj) :
  ∀ (r j i:Nat) (s:Shared) (l8:Value) (bG:Tok) (c:Nat),n - (j + 1)=r->j + 1 <= n->L2.Inv X ab σ H s ->
   s.heap.get? S=some (seqObj "list" #[l8,.int (cW i) bG] c)->s.heap.IsListIter J l (j + 1)->P i l8->i <= j->(∀ er,er <= j->cW er <= cW i/\(er < i->cW er < cW i)) ->
   codeAny (model X.prog X.w) A (.builtin "max.loop" ⟨[.ref J,.ref q,.ref S],[]⟩) R s:=by
 have ou:(toString "max" ++ toString ".loop" : String) = "max.loop" := by decide
 intro r
 induction r with
 | zero=>
  intro j i s l8 bG c ao aG bz dE hit tZ kS me;obtain ⟨vs,qJ,qj,n7⟩:=aL s bz;have W:=tL (prog:=X.prog) (w:=X.w) (A:=A.in1) b2 J l n1 vs.toArray;have hsz:vs.toArray.size=vs.length:=ft ..;have gx:j + 1=vs.length:=by omega
  refine codeAny_builtin Nq ?_;rw [xw uR _];show wpAny _ A.in1 (seqItems? (.ref S) >>= _) _ _ _;refine wpAny_bind (wpAny_seqItems dE rfl ?_);show wpAny _ A.in1 (tryCatch (pyNext (.ref J)) _ >>= _) _ _ _;refine wpAny_bind (wpAny_tryCatch (W.done _ _ _ ⟨by rw [hsz,<- gx];exact hit,n7⟩ fun h' od eH=>?_));have mE:L2.Inv X ab σ H { s with heap:=h',toks:=od }:=jg.turn bz fun b o n e=>eH b o (by simpa using n) e
  have oz:=eH S _ (by simpa using lh) dE;show wpAny _ A.in1 (updateSeq S (fun _=>#[]) >>= _) _ _ _;refine wpAny_bind ?_;refine wpAny_updateSeq oz rfl (wpAny_bind (wpAny_letGo (wpAny_pure ?_)));exact gA i l8 _ (by omega) tZ (fun er hx=>me er (by omega)) (ji.turn mE fun b o n e=>(pP _ _ (eb n)).trans e)
 | succ r cS=>
  intro j i s l8 bG c ao aG bz dE hit tZ kS me;obtain ⟨vs,qJ,qj,n7⟩:=aL s bz;have W:=tL (prog:=X.prog) (w:=X.w) (A:=A.in1) b2 J l n1 vs.toArray;have hsz:vs.toArray.size=vs.length:=ft ..;have dw:j + 1 < n:=by omega
  refine codeAny_builtin Nq ?_;rw [xw uR _];show wpAny _ A.in1 (seqItems? (.ref S) >>= _) _ _ _;refine wpAny_bind (wpAny_seqItems dE rfl ?_);show wpAny _ A.in1 (tryCatch (pyNext (.ref J)) _ >>= _) _ _ _;refine wpAny_bind (wpAny_tryCatch (W.item (j + 1) _ _ _ (by rw [hsz,qJ];exact dw) ⟨hit,n7⟩ fun v h' od cF tm eH=>?_));have aF:P (j + 1) v:=qj _ _ (by simpa using cF);obtain ⟨qR,tC,mX,mC⟩:=id tm.1;have mE:L2.Inv X ab σ H { s with heap:=h',toks:=od }:=jg.turn bz fun b o n e=>eH b o (by simpa using n) e
  have oz:=eH S _ (by simpa using lh) dE;have pn:=Dm mE ji jg oz tC (fun _ z=>by cases z) (fun _ z=>by rw [mC] at z;cases z);show wpAny _ A.in1 (tryCatch (holding [v] (call (.ref q) [v])) _ >>= _) _ _ _;refine wpAny_bind (wpAny_tryCatch (wpAny_holding (wpAny_mono (turn (j + 1) v dw aF _ _ pn) (fun x s2 he=>?_) fun _ _ p9=>p9.elim)));obtain ⟨eu,I,n_,bg,rfl,rfl⟩:=he;obtain ⟨dJ,rfl⟩:=bg;obtain ⟨n3,l9,p7⟩:=D9 n_;have E':s2.heap.IsListIter J l (j + 1 + 1):=⟨qR,p7,mX,mC⟩;show wpAny _ A.in1 (tryCatch (holding [v,.int (cW (j + 1)) dJ] (richCompare .Gt (.int (cW (j + 1)) dJ) (.int (cW i) bG) >>= _)) _ >>= _) _ _ _;refine wpAny_bind (wpAny_tryCatch (wpAny_holding (wpAny_bind (CmpOf.ints_gt (prog:=X.prog) (w:=X.w) (A:=A.in1) (P:=fun i v=>∃ t,v=.int (cW i) t) cW (fun i v h=>h) (j + 1) i _ _ _ _ _ ⟨dJ,rfl⟩ ⟨bG,rfl⟩ ?_))));refine wpAny_bind (wpAny_holding (wpAny_truthy_bool ?_));refine wpAny_bind (wpAny_letGo (wpAny_pure ?_));by_cases ee:cW (j + 1) > cW i
  .obtain ⟨b4,qn⟩:∃ b4,(s2.heap.update S (qU fun _=>#[v,.int (cW (j + 1)) dJ])).get? S=some (seqObj "list" #[v,.int (cW (j + 1)) dJ] b4):=⟨_,get?_update_seq l9 fun _=>#[v,.int (cW (j + 1)) dJ]⟩;simp only [ee,decide_true,if_true];refine wpAny_bind ?_;refine wpAny_updateSeq l9 rfl (wpAny_bind (wpAny_letGo ?_));rw [ou];have rL:=ji.turn (t':=s2.toks) n3 (h':=s2.heap.update S (qU fun _=>#[v,.int (cW (j + 1)) dJ])) fun b o n e=>(pP _ _ (eb n)).trans e
   refine wpAny_pure ⟨plainId_quiet uR _,cS (j + 1) (j + 1) _ v dJ b4 (by omega) dw rL qn ⟨qR,(pP _ _ lh).trans p7,mX,mC⟩ aF (bP _) fun er hx=>?_⟩;by_cases e:er=j + 1
   .subst e;exact ⟨by omega,fun _=>by omega⟩
   .have rA:=me er (by omega);have jL:=rA.1;exact ⟨by omega,fun _=>by omega⟩
  .simp only [ee,decide_false,C3,if_false];refine wpAny_bind (wpAny_letGo ?_);rw [ou];refine wpAny_pure ⟨plainId_quiet uR _,cS (j + 1) i _ l8 bG c (by omega) dw n3 l9 E' tZ (by omega) fun er hx=>?_⟩;by_cases e:er=j + 1
   .subst e;exact ⟨by omega,fun _=>by omega⟩
   .exact me er (by omega)
theorem Y1 (cW:Nat->Int) (b2:A.handled=none) (bz:L2.Inv X ab σ H s) (aL:∀ ab s,L2.Inv X ab σ H s->∃ vs:List Value,vs.length=n/\(∀ i v,vs[i]? = some v->P i v)/\s.heap.IsList l vs.toArray) (cj:0 < n)
  (turn:∀ (i:Nat) (v:Value),i < n->P i v->∀ (ab:List (Addr × Obj)) (s:Shared),L2.Inv X ab σ H s ->
   wpAny (model X.prog X.w) A.in1 (call (.ref q) [v]) (gb X ab σ fun x I=>x=.int (cW i)/\I=H) (fun _ _=>False) s)
  (aV:∀ i v aj,i < n->P i v->(∀ j,j < n->cW j <= cW i/\(j < i->cW j < cW i))->L2.Inv X ab σ H aj->Q v aj) :
  wpAny (model X.prog X.w) A (call (.builtin "max") [.ref l] [(ae "key",.ref q)]) Q E s:=by
 have ou:(toString "max" ++ toString ".loop" : String) = "max.loop" := by decide
 obtain ⟨P0,_,_,qe⟩:=aL _ s bz;obtain ⟨ol,IG,_⟩:=id qe;have uW:l < s.heap.objs.size:=d8 IG;refine kmk_tree PySem.F.kind_max PySem.F.plain_max PySem.F.entry_max (kmk_max_key _ _) ?_;show wpAny _ A.in1 (Jl "max" ["key","default"] 0 ⟨[],[(ae "key",.ref q)]⟩ >>= _) _ _ s;refine wpAny_bind (wpAny_of_eq (show Jl "max" ["key","default"] 0 ⟨[],[(ae "key",.ref q)]⟩=pure [some (fW q),none] from rfl) ?_);refine wpAny_bind (wpAny_pure ?_);refine wpAny_bind (wpAny_pyIter_list qe ?_);refine wpAny_bind (wpAny_newList ?_ (fh _));rw [ou];have dE:(s.heap.push { cls:=.type "list_iterator",data:=.fields #[.ref l,.int 0 0] }).objs.size=s.heap.objs.size + 1:=size_push' ..;have n1:l ≠ s.heap.objs.size:=f7 uW;have lh:(s.heap.push { cls:=.type "list_iterator",data:=.fields #[.ref l,.int 0 0] }).objs.size ≠ s.heap.objs.size:=by rw [dE];exact Bi (uy _)
 refine wpAny_pure ⟨plainId_quiet uR _,?_⟩;have jg:lM X ab H s.heap.objs.size:=.of bz (bP _);have ji:lM X ab H (s.heap.push { cls:=.type "list_iterator",data:=.fields #[.ref l,.int 0 0] }).objs.size:=.of bz (by rw [dE];exact DQ _);have JI:((s.heap.push { cls:=.type "list_iterator",data:=.fields #[.ref l,.int 0 0] }).push (seqObj "list" #[] 0)).get? s.heap.objs.size=some { cls:=.type "list_iterator",data:=.fields #[.ref l,.int 0 0] }:=
  eJ _ (gV _ rfl)
 have y_:((s.heap.push { cls:=.type "list_iterator",data:=.fields #[.ref l,.int 0 0] }).push (seqObj "list" #[] 0)).get? (s.heap.push { cls:=.type "list_iterator",data:=.fields #[.ref l,.int 0 0] }).objs.size=some (seqObj "list" #[] 0):=gV _ rfl;have wW:L2.Inv X ab σ H { s with heap:=(s.heap.push { cls:=.type "list_iterator",data:=.fields #[.ref l,.int 0 0] }).push (seqObj "list" #[] 0) }:=bz.kept (t':=s.toks) fun b o e=>eJ _ (eJ _ e)
 obtain ⟨vs,qJ,qj,n7⟩:=aL _ _ wW;have W:=tL (prog:=X.prog) (w:=X.w) (A:=A.in1) b2 s.heap.objs.size l n1 vs.toArray;have hsz:vs.toArray.size=vs.length:=ft ..;refine codeAny_builtin Nq ?_;rw [xw uR _];show wpAny _ A.in1 (seqItems? (.ref _) >>= _) _ _ _;refine wpAny_bind (wpAny_seqItems y_ rfl ?_);show wpAny _ A.in1 (tryCatch (pyNext (.ref s.heap.objs.size)) _ >>= _) _ _ _;refine wpAny_bind (wpAny_tryCatch (W.item 0 _ _ _ (by rw [hsz,qJ];exact cj) ⟨⟨_,JI,rfl,rfl⟩,n7⟩ fun v h' od cF tm eH=>?_));have aF:P 0 v:=qj _ _ (by simpa using cF);obtain ⟨qR,tC,mX,mC⟩:=id tm.1;have mE:=jg.turn (h':=h') (t':=od) wW fun b o n e=>eH b o (by simpa using n) e
 have oz:=eH _ _ (by simpa using lh) y_;have pn:=Dm mE ji jg oz tC (fun _ z=>by cases z) (fun _ z=>by rw [mC] at z;cases z);show wpAny _ A.in1 (tryCatch (holding [v] (call (.ref q) [v])) _ >>= _) _ _ _;refine wpAny_bind (wpAny_tryCatch (wpAny_holding (wpAny_mono (turn 0 v cj aF _ _ pn) (fun x s2 he=>?_) fun _ _ p9=>p9.elim)));obtain ⟨eu,I,n_,bg,rfl,rfl⟩:=he;obtain ⟨dJ,rfl⟩:=bg;obtain ⟨n3,l9,p7⟩:=D9 n_;obtain ⟨b4,qn⟩:∃ b4,(s2.heap.update (s.heap.push { cls:=.type "list_iterator",data:=.fields #[.ref l,.int 0 0] }).objs.size (qU fun _=>#[v,.int (cW 0) dJ])).get? (s.heap.push { cls:=.type "list_iterator",data:=.fields #[.ref l,.int 0 0] }).objs.size=some (seqObj "list" #[v,.int (cW 0) dJ] b4):=⟨_,get?_update_seq l9 fun _=>#[v,.int (cW 0) dJ]⟩;show wpAny _ A.in1 (updateSeq (s.heap.push { cls:=.type "list_iterator",data:=.fields #[.ref l,.int 0 0] }).objs.size (fun _=>#[v,.int (cW 0) dJ]) >>= _) _ _ _;refine wpAny_bind ?_;refine wpAny_updateSeq l9 rfl ?_;rw [ou];have rL:=ji.turn (t':=s2.toks) n3 (h':=s2.heap.update (s.heap.push { cls:=.type "list_iterator",data:=.fields #[.ref l,.int 0 0] }).objs.size (qU fun _=>#[v,.int (cW 0) dJ])) fun b o n e=>(pP _ _ (eb n)).trans e
 refine wpAny_pure ⟨plainId_quiet uR _,akf cW b2 (fun s bz=>aL _ s bz) n1 lh ji jg turn aV _ 0 0 _ v dJ b4 rfl cj rL qn ⟨qR,(pP _ _ lh).trans p7,mX,mC⟩ aF (bP _) fun er hx=>?_⟩;have e:er=0:=by omega
 subst e;exact ⟨by omega,fun h=>absurd h (oM _)⟩
end
noncomputable def T_ (K:bk) (bL:Addr) (lZ:Pos) (q:Str) (i1 i2:Nat) (t:TE) (a9:fz):TE:=fun σ H Q=>a9 σ H fun vs H1=>∃ l xs v1 v2,∃ g:Nat->Int,vs=[.ref l]/\ay K H1 l xs/\xs ≠ [] /\
 σ[i1]? = some (some v1)/\σ[i2]? = some (some v2)/\Tab H1 bL lZ q/\∀ av,Do bL H1 av->(aJ H1->aJ av)->Tab av bL lZ q ->
  (∀ (i:Nat) x,xs[i]? = some x->t [some x,some v1,some v2] av fun r I=>r=.int (g i)/\I=av)/\∀ (i:Nat) m,xs[i]? = some m->(∀ (j:Nat) n,xs[j]? = some n->g j <= g i)->Q m av
theorem ZI {k:Nat} {t:TE} {p bl pos lZ:Pos}
  (aB:X.calm=true) (a8:kX X "max") (hm:X.mg "max"=none) (aP:hy X [a] a9) (T:FW X c bL) (ao:eO (k + 1) X.A) (S:vn pr y z scope) (af:X.env.cells.lookup y=some bh) (ak:X.env.cells.lookup z=some b4) (wd:defaultsOf params X.env=([],[])) (mT:closureFor scope X.env=pure [(y,bh),(z,b4)])
  (cb:X.env.scope.names.lookup y=some .cell) (dT:X.env.scope.names.lookup z=some .cell) (GN:X.N[i1]? = some y) (FV:X.N[i2]? = some z)
  (aa:∀ c' pm iZ u,bindArgs (TS "<lambda>" (X.env.qual ++ "<lambda>") params body scope [(y,bh),(z,b4)] pm (.ref c') iZ) ⟨[u],[]⟩=pure [(pr,u)])
  (nJ:∀ f c' s H,∃ t',bD (pW X X.A.in1 [pr,y,z] (X.env.qual ++ "<lambda>") scope f c' [(y,bh),(z,b4)] s H) body t'/\t'=t)
  (he:∀ pos,backTo pos (starEach [a] X.env)=(false,eval a X.env) :: backTo pos (starEach [] X.env):=by intro _;rfl) (c9:∀ pos,(backTo pos (starEach [a] X.env)).any (·.1)=false:=by intro _;rfl) :
  bD X (.Call (.Name "max" p) [a] [⟨some "key",.Lambda params body scope lZ,bl⟩] pos) (T_ X.K bL lZ (X.env.qual ++ "<lambda>") i1 i2 t a9):=by
 intro ab s σ H Q J h;refine wpAny_Call_Name_kw (r2 J a8 hm (show bootBuiltins "max"=some (.builtin "max") by ac_nf) ?_);refine callWith_kw (id := "max") (bJ (aP pos ab s σ H _ J h) fun us s1 ⟨vs,H1,aZ,cN,bS⟩=>?_) (he:=he pos) (hplain:=c9 pos);obtain ⟨l,xs,v1,v2,g,rfl,aR,cj,aq,aH,bG,q⟩:=bS;refine kws_cons (Tf aZ T bG mT wd fun f c' av s2 bV bq bx qc qN gh h8=>kws_nil ?_);obtain ⟨kQ,Jz⟩:=q av bq bx qc;have vp:=aR.p bq bG;have cell:∀ {ab:List (Addr × Obj)} {s:Shared} (bz:L2.Inv X ab σ av s) {i:Nat} {x:Str} {v:V} {cl:Addr},X.N[i]? = some x->σ[i]? = some (some v)->X.env.scope.names.lookup x=some .cell->X.env.cells.lookup x=some cl->∃ u,bX v u/\s.heap.IsCell cl (some u):=by
  intro ab s bz i x v cl bj ev ah qq;obtain ⟨m,aX,Jn⟩:=bz.loc;obtain ⟨u,eZ,lo⟩:=Jn i x v bj ev (.inr (.inl ah));have aC:X.env.kindOf x=some .cell:=ah;rcases lo with ⟨w,_⟩ | ⟨_,abF,dC,ea⟩
  .rw [aC] at w;cases w
  .rw [qq] at dC;cases dC;exact ⟨u,eZ,ea⟩
 have Fx:bh ≠ b4:=fun w=>S.ne (J.ok.inj _ _ _ af (by rw [w];exact ak))
 cases cN with
 | cons r kb=>
  cases kb;cases r;have GV:0 < xs.length:=BX.mpr cj;refine Y1 (n:=xs.length) (P:=fun i v=>∃ x,xs[i]? = some x/\bX x v) g (aZ.ok.hd aB) bV (fun ab s bz=>?_) GV (fun i v ai aF ab s bz=>?_) fun i v aj ai aF me bz=>?_
  .obtain ⟨a7,cH,pl,aN⟩:=bz.list vp;have aL:=cH.length;refine ⟨a7,aL.symm,fun i v aF=>?_,pl.isList⟩;have ai:i < xs.length:=by have:=(b6.mp aF).1;omega
   have ah:xs[i]? = some xs[i]:=a' ai;obtain ⟨w,hw,gE⟩:=cH.get ah;rw [aF] at hw;cases hw;exact ⟨_,ah,gE⟩
  .obtain ⟨x,ah,bg⟩:=aF;obtain ⟨t',rA,rfl⟩:=nJ f c' s av;exact MY (a:=x) S ao.in1 aZ.ok.frames bz Fx (bz.j1 _ _ af) (bz.j1 _ _ ak) (cell bz GN aq cb af) (cell bz FV aH dT ak) qN gh (fun pm iZ=>aa c' pm iZ v) bg rA (kQ i x ah)
  .obtain ⟨x,ah,bg⟩:=aF;exact ⟨x,av,bz,bg,Jz i x ah fun j n aG=>(me j (b6.mp aG).1).1⟩
end
seal L2.hy L2.bD L2.hA L2.jx L2.iO L2.fM
structure fs where
 m:Nat
 h:Nat
 Dn:Nat->Bool
noncomputable def fs.own (S:fs) (x:Nat):Bool:=S.Dn x == S.Dn S.h
noncomputable def fs.eD (S:fs) (x:Nat):Int:=((x:Int) - (S.h:Int) - 1) % (S.m:Int)
structure fs.Ok (S:fs):Prop where
 hm:S.h < S.m
 rM:S.m <= 6
noncomputable def i7 (S:fs):Nat->Int->List Nat->Prop
 | p,_,[]=>p=S.h
 | p,sp,x :: r=>p ≠ S.h/\x < S.m/\((S.own x=true/\sp < S.eD x/\i7 S x (S.eD x) r)\/(S.own p=true/\S.own x=false/\i7 S x sp r))
noncomputable def l3 (S:fs) (s:Nat):Nat:=(S.h + 1 + s) % S.m
noncomputable def eI (S:fs):List Nat:=((eV S.m).map (l3 S)).filter S.own
noncomputable def k5 (S:fs):List Nat:=(eV S.m).filter fun x=>!S.own x
section
variable {S:fs}
theorem IB:S.own S.h=true:=by unfold fs.own;simp
theorem R5 (k:S.Ok) (s:Nat):l3 S s < S.m:=Nat.mod_lt _ (by have:=k.hm;omega)
theorem RY (k:S.Ok) (ax:s < S.m):S.eD (l3 S s)=(s:Int):=by
 have af:=k.hm;unfold fs.eD l3;by_cases c:S.h + 1 + s < S.m
 .rw [AK c,show (((S.h + 1 + s:Nat):Int) - (S.h:Int) - 1)=(s:Int) by omega,m' (by omega) (by omega)]
 .rw [Nat.mod_eq_sub_mod (by omega),AK (by omega)];rw [show (((S.h + 1 + s - S.m:Nat):Int) - (S.h:Int) - 1)=(s:Int) + (S.m:Int) * (-1) by omega,Bx,m' (by omega) (by omega)]
theorem GI (k:S.Ok) {x:Nat} (ah:x < S.m):∃ s,s < S.m/\l3 S s=x/\S.eD x=(s:Int):=by
 have af:=k.hm;have dO:=uO ((x:Int) - (S.h:Int) - 1) (show (S.m:Int) ≠ 0 by omega);have dH:=vo ((x:Int) - (S.h:Int) - 1) (show (0:Int) < S.m by omega);by_cases c:S.h < x
 .refine ⟨x - S.h - 1,by omega,?_,?_⟩
  .unfold l3;rw [show S.h + 1 + (x - S.h - 1)=x by omega,AK ah]
  .unfold fs.eD;rw [m' (by omega) (by omega)];omega
 .refine ⟨x + S.m - S.h - 1,by omega,?_,?_⟩
  .unfold l3;rw [show S.h + 1 + (x + S.m - S.h - 1)=x + S.m by omega,afp,AK ah]
  .unfold fs.eD;rw [show (x:Int) - (S.h:Int) - 1=((x + S.m - S.h - 1:Nat):Int) + (S.m:Int) * (-1) by omega,Bx,m' (by omega) (by omega)]
theorem ph (k:S.Ok) (x:Nat):0 <= S.eD x/\S.eD x < S.m:=⟨uO _ (by have:=k.hm;omega),vo _ (by have:=k.hm;omega)⟩
theorem Mk (k:S.Ok):S.eD S.h=(S.m:Int) - 1:=by
 have af:=k.hm;unfold fs.eD;rw [show (S.h:Int) - (S.h:Int) - 1=((S.m:Int) - 1) + (S.m:Int) * (-1) by omega,Bx,m' (by omega) (by omega)]
theorem XD (k:S.Ok) {x y:Nat} (ah:x < S.m) (a6:y < S.m) (e:S.eD x=S.eD y):x=y:=by
 obtain ⟨s,_,aq,aH⟩:=GI k ah;obtain ⟨aj,_,bO,d_⟩:=GI k a6;rw [aH,d_] at e;rw [<- aq,<- bO,show s=aj by omega]
theorem p6 (k:S.Ok) {x:Nat}:x ∈ eI S↔x < S.m/\S.own x=true:=by
 unfold eI;rw [jc,cc];constructor
 .rintro ⟨⟨s,ax,rfl⟩,h⟩;exact ⟨R5 k s,h⟩
 .rintro ⟨af,ak⟩;obtain ⟨s,ax,e,_⟩:=GI k af;exact ⟨⟨s,oF.mpr ax,e⟩,ak⟩
theorem KY {x:Nat}:x ∈ k5 S↔x < S.m/\S.own x=false:=by
 unfold k5;rw [jc,oF];simp
theorem aa5 (k:S.Ok):(eI S).Pairwise fun x y=>S.eD x < S.eD y:=by
 unfold eI;refine amZ _ ?_;rw [alx];refine amJ (R:=fun a b=>a < b) (fun {a b} aP aa h=>?_) List.pairwise_lt_range;rw [RY k (oF.mp aP),RY k (oF.mp aa)];omega
theorem W3 (k:S.Ok) {i j x y:Nat} (ai:(eI S)[i]? = some x) (aG:(eI S)[j]? = some y):i < j↔S.eD x < S.eD y:=by
 have ar:=ae2.mp (aa5 k);obtain ⟨li,ql⟩:=b6.mp ai;obtain ⟨ue,rZ⟩:=b6.mp aG;constructor
 .intro h;have:=ar i j li ue h;rw [ql,rZ] at this;exact this
 .intro h;rcases abP i j with c | c | c
  .exact c
  .subst c;rw [ai] at aG;cases aG;omega
  .have:=ar j i ue li c;rw [ql,rZ] at this;omega
theorem F9 (S:fs):(eI S).length <= S.m:=by
 unfold eI;exact cL (vk _ _) (by simp)
theorem Wu (S:fs):(k5 S).length <= S.m:=by
 unfold k5;exact cL (vk _ _) (by simp)
theorem U0 (k:S.Ok):∃ r,eI S=r ++ [S.h]:=by
 have af:=k.hm;have e:eV S.m=eV (S.m - 1) ++ [S.m - 1]:=by
  rw [show S.m=(S.m - 1) + 1 by omega,vL];simp
 unfold eI;rw [e,ed,List.filter_append];refine ⟨_,congrArg _ ?_⟩;have:l3 S (S.m - 1)=S.h:=by
  unfold l3;rw [show S.h + 1 + (S.m - 1)=S.h + S.m by omega,afp,AK af]
 simp [this,IB]
end
def vx (S:fs) (place sp:Int):Prop:=(place = -1/\sp = -1)\/∃ (i:Nat) (y:Nat),place=(i:Int)/\(eI S)[i]? = some y/\sp=S.eD y
theorem J5 {S:fs} (k:S.Ok) {place sp:Int} (h:vx S place sp) {j y:Nat} (aG:(eI S)[j]? = some y):place < (j:Int)↔sp < S.eD y:=by
 rcases h with ⟨rfl,rfl⟩ | ⟨i,x,rfl,ai,rfl⟩
 .have:=(ph k y).1;constructor <;> intro <;> omega
 .rw [<- W3 k ai aG];omega
theorem O1 (h:vx S place sp):-1 <= place:=by
 rcases h with ⟨rfl,_⟩ | ⟨i,_,rfl,_⟩ <;> omega
noncomputable def hT (o:Nat):Nat->Nat
 | 0=>0
 | j + 1=>if j=0 then 1 else (2 + o) * hT o j
noncomputable def rp (o j:Nat):Nat:=if j=0 then 1 else (1 + o) * hT o j
theorem aeb (o j:Nat):hT o (j + 1)=hT o j + rp o j:=by
 unfold rp;cases j with
 | zero=>rfl
 | succ j=>
  rw [if_neg (by omega)];show (if j + 1=0 then 1 else (2 + o) * hT o (j + 1))=_;rw [if_neg (by omega),aeO,aeO];omega
theorem Wy:∀ o,o <= 6->∀ j,j <= 6->rp o j <= 300000/\hT o j <= 300000:=by decide
noncomputable def mB (S:fs) (p:Nat) (sp:Int):Nat:=2 * ((S.m:Int) - sp).toNat + (if S.own p=true then 1 else 0)
theorem vE (h:xs[xs.length - 1]? = some v):fZ xs (-1)=some v:=by
 have aL:0 < xs.length:=by have:=(b6.mp h).1;omega
 unfold fZ qH;rw [if_neg (by decide),if_pos (by omega)];rw [show ((-1 + (xs.length:Int)).toNat)=xs.length - 1 by omega];exact h
theorem hc (lF:List Nat):(bB lF).length=lF.length:=by unfold bB;rw [aW]
theorem o2 {i x:Nat} (h:lF[i]? = some x):(bB lF)[i]? = some (.int (x:Nat)):=by unfold bB;rw [df,h];rfl
theorem sU (lF:List Nat):(bB lF).all lA=true:=by unfold bB;simp [lA]
theorem tj (x:Nat) (lF:List Nat):rk (.int (x:Nat)) (bB lF)=decide (x ∈ lF):=by
 unfold rk bB;rw [Tz,l4];simp only [qL,adg,decide_eq_true_eq];constructor
 .rintro ⟨y,a6,e⟩;have:(y:Int)=(x:Int):=by simpa [mm] using e
  rw [show x=y by omega];exact a6
 .intro h;exact ⟨x,h,by simp [mm]⟩
theorem N8 (x:Nat):∀ xs:List Nat,((xs.map fun j=>((j:Nat):Int)).idxOf (x:Int))=xs.idxOf x
 | []=>rfl
 | y :: ys=>by
  rw [e8,akj,akj,N8 x ys];by_cases h:y=x
  .subst h;simp
  .rw [show ((y:Int) == (x:Int))=false by rw [beq_eq_false_iff_ne];omega,show (y == x)=false by simpa using h]
noncomputable def d0 (ds:List bc) (rows:List ST) (h:Nat):fs:=⟨rows.length,h,fun i=>decide (b_ ds rows i=dd)⟩
structure iB (ds:List bc) (rows:List ST):Prop where
 cG:∀ r ∈ rows,c6 ds r=dd\/c6 ds r=h3
 kj:rows.length <= 6
 lo:∀ r ∈ rows,1 <= r.lo/\r.lo <= r.ai/\r.ai <= 1000
 cI:∀ r ∈ rows,r.mem ≠ []
theorem iB.ok {rows:List ST} (R:iB ds rows) {h:Nat} (b2:h < rows.length):(d0 ds rows h).Ok:=⟨b2,R.kj⟩
theorem iB.two {rows:List ST} (R:iB ds rows) (aG:j < rows.length):b_ ds rows j=dd\/b_ ds rows j=h3:=by
 unfold b_;rw [a' aG];exact R.cG _ (g6 aG)
theorem B4 {rows:List ST} (R:iB ds rows) {h j:Nat} (b2:h < rows.length) (aG:j < rows.length):(d0 ds rows h).own j=decide (b_ ds rows j=b_ ds rows h):=by
 have ne:¬ h3=dd:=by ac_nf
 have ne':¬ dd=h3:=by ac_nf
 unfold fs.own d0;rcases R.two aG with e | e <;> rcases R.two b2 with bH | bH <;> simp [e,bH,ne,ne']
section
variable {w:World} {K:bk} {mg:Str->Option Value} {t:bK} {H:aw} {a c az le mo cI cG aS ch:Addr} {k:Nat}
end
section
variable (P:Program) (w:World)
def abv (t:bK):bM:=fun vs H Q _=>∃ aE c n ds rows,∃ h:Nat,vs=[.ref aE,.int h]/\fp P w t H aE c n ds rows/\iB ds rows/\h < rows.length/\aJ H/\∀ p I,aK H I->aJ I->I p=some (.lst (bB (eI (d0 ds rows h))))->Q (.ref p) I
def ZV (t:bK):bM:=fun vs H Q _=>∃ aE c n ds rows,∃ h:Nat,vs=[.ref aE,.int h]/\fp P w t H aE c n ds rows/\iB ds rows/\h < rows.length/\aJ H/\∀ p I,aK H I->aJ I->I p=some (.lst (bB (k5 (d0 ds rows h))))->Q (.ref p) I
end
noncomputable def iK (S:fs) (f s:Nat):Int:=if S.own s=true then S.eD s else if S.own f=true/\f ≠ S.h then S.eD f else -1
def afk:bM:=fun vs H Q _=>∃ l,∃ S:fs,∃ f s:Nat,vs=[.ref l,.int f,.int s]/\H l=some (.lst (bB (eI S)))/\S.Ok/\f < S.m/\s < S.m/\∀ place,vx S place (iK S f s)->Q (.int place) H
theorem EQ:cm P base T 1 t.Js t.Gs ko (abv P w t):=by
 exists T.LG.ok UU,9
 obtain ⟨aE,c,n,ds,rows,h,rfl,c3,R,b2,bx,q⟩:=h;obtain ⟨iw,le,mo,cI,cG,aS,ch,ms,kvs,aq,C,bO,d_,fR,ec,gF,jH,ja⟩:=id c3;have kj:=R.kj;refine ⟨_,(db (Pi (i:=2) UU.aI rfl (oQ rfl) rfl (kN rfl T.j' (ag (bw (U 0) rfl) aA)) (fO (sc:=bt Bg) rfl (by ac_nf)) (N:=["step","home","stages"]) (sel:=[none,some 1,some 0]) (fT (M:=I5) (by ac_nf)) (e3.of (fun _ _ _ _=>(b7 (i:=0) (d3 (N:=["step","home","stages"]) (by ac_nf) rfl))) (fun _ _ _ _=>⟨_,hn,by walk_at "B"⟩) (fun _ _ _ _=>⟨_,(bE iH (bE d4 (bE d4 (U 1) aO) (U 0)) (bw (U 2) rfl)),by walk_at "B"⟩)) rfl)
   (a0 (b' (g_ rfl (e5 (U 2)) (fO (sc:=bt Bg) rfl (by ac_nf)) (N:=CN) (sel:=[none,some 0,some 1]) (fT (M:=I5) (by ac_nf)) (e3.of (fun _ _ _ _=>(b7 (i:=0) (d3 (N:=CN) (by ac_nf) rfl))) (fun _ _ _ _=>⟨_,(sD (cX et (bZ c8 (bw (U 1) rfl) (U 0)) (bZ c8 (bw (U 1) rfl) (U 2)) (cA _))),by walk_at "B"⟩) (fun _ _ _ _=>⟨_,(U 0),by walk_at "B"⟩)))))),?_⟩
 exists (fun au I=>aK H I/\aJ I/\∃ np,I np=some (.lst (bB ((eV rows.length).map (l3 (d0 ds rows h)))))/\au=[~~~aE,some (.int h),~~~np]),3
 .nofun;refine ⟨_,px T aq,_,rfl,by omega,by omega,?_⟩;rw [lI];refine c1.Us (fun s=>.int (l3 (d0 ds rows h) s:Nat)) (cL kj (by decide)) (fun i N ai bj=>?_) (fun p ar=>?_)
  .nofun;refine ⟨Sub.name,_,px T aq,_,rfl,by omega,?_⟩;rw [show ((h:Int) + 1 + (i:Int)) % (rows.length:Int)=((l3 (d0 ds rows h) i:Nat):Int) by
    unfold l3 d0;rw [Int.natCast_emod];congr 1]
   exact bj
  .refine bQ _ _ ⟨ba ar,bx.upd,p,?_,rfl⟩;rw [aQ];unfold bB;rw [qt];rfl
 rintro fk H1 ⟨s1,cM,np,qz,rfl⟩;subst aT;simp only [dG];have w':=s1 _ _ aq;nofun;refine ⟨⟨_,ay.of qz⟩,?_⟩;refine c1.u1 (ss:=((eV rows.length).map (l3 (d0 ds rows h))).map fun j=>if (d0 ds rows h).own j=true then some (V.int (j:Nat)) else none) (ay.of qz) (by rw [hc,aW,rY];exact cL kj (by decide)) (by rw [hc,aW]) (fun i v o ys N aF aS bj=>?_) (fun p ar=>?_)
 .unfold bB at aF;obtain ⟨j,aG,rfl⟩:=b8 aF;obtain ⟨er,hx,rfl⟩:=b8 aS;rw [aG] at hx;cases hx;have gv:j < rows.length:=by
   obtain ⟨s0,_,rfl⟩:=b8 aG;exact R5 (R.ok b2) _
  rw [B4 R b2 gv] at bj;nofun;refine ⟨Sub.name,_,n8 T w',_,rfl,_,ay.of (s1 _ _ ec),_,cp (ng (r_ gv)),_,n8 T w',_,rfl,_,ay.of (s1 _ _ ec),_,cp (ng (r_ b2)),rfl,?_⟩;by_cases bF:b_ ds rows j=b_ ds rows h
  .rw [if_pos (by rw [bF,decide_eq_true rfl])];rw [if_pos (decide_eq_true bF)] at bj;exact bj
  .rw [if_neg (by rw [decide_eq_false (fun z=>bF (by injection z))];exact fB)];rw [if_neg (by simpa using bF)] at bj;simpa using bj
 .rw [As];exact q p _ (s1.trans (ba ar)) cM.upd aQ
theorem ajm:cm P base T 1 t.J9 t.E6 ko (ZV P w t):=by
 exists T.GF.ok adZ,9
 obtain ⟨aE,c,n,ds,rows,h,rfl,c3,R,b2,bx,q⟩:=h;obtain ⟨iw,le,mo,cI,cG,aS,ch,ms,kvs,aq,C,bO,d_,fR,ec,gF,jH,ja⟩:=id c3;have kj:=R.kj;refine ⟨_,(a0 (b' (g_ rfl (kN rfl T.j' (ag (bw (U 0) rfl) aA)) (fO (sc:=bt Ir) rfl (by ac_nf)) (N:=CN) (sel:=[none,some 0,some 1]) (fT (M:=ko) (by ac_nf)) (e3.of (fun _ _ _ _=>(b7 (i:=0) (d3 (N:=CN) (by ac_nf) rfl))) (fun _ _ _ _=>⟨_,(sD (cX pM (bZ c8 (bw (U 1) rfl) (U 0)) (bZ c8 (bw (U 1) rfl) (U 2)) (cA _))),by walk_at "B"⟩) (fun _ _ _ _=>⟨_,(U 0),by walk_at "B"⟩))))),?_⟩;nofun;refine ⟨_,px T aq,_,rfl,by omega,by omega,?_⟩;rw [lI];refine c1.ZR (ss:=(eV rows.length).map fun j=>if (!(d0 ds rows h).own j)=true then some (V.int (j:Nat)) else none) (cL kj (by decide)) (by rw [aW,rY]) (fun j o ys N gv aS bj=>?_) (fun p ar=>?_)
 .obtain ⟨er,hx,rfl⟩:=b8 aS;rw [BE gv] at hx;cases hx;rw [B4 R b2 gv] at bj;nofun;refine ⟨Sub.name,_,n8 T aq,_,rfl,_,ay.of ec,_,cp (ng (r_ gv)),_,n8 T aq,_,rfl,_,ay.of ec,_,cp (ng (r_ b2)),rfl,?_⟩;by_cases bF:b_ ds rows j=b_ ds rows h
  .rw [if_neg (by rw [bF,decide_eq_true rfl];exact fB)];simp [bF] at bj;exact bj
  .rw [if_pos (by rw [decide_eq_false (fun z=>bF (by injection z))];rfl)];simp [bF] at bj;exact bj
 .rw [As];exact q p _ (ba ar) bx.upd aQ
theorem agx:cm P base T 1 t.IU t.Fe DT afk:=by
 exists T.LC.ok aaT,9
 obtain ⟨l,S,f,aj,rfl,aL,k,hf,ax,q⟩:=h;refine ⟨_,(db (dU (cX sq (U 2) (U 0) (by with_unfolding_all rfl)) (a0 (b' (eF f6 SY acZ NS (U 0) (ag (U 2) aA)))) eh)
   (db (dU (fM.pt (md (cX sq (U 1) (U 0) (by with_unfolding_all rfl)) (mi (cX pM (U 1) (bZ c8 (U 0) (ov oy aO)) (cA _))))) (a0 (b' (eF f6 SY acZ NS (U 0) (ag (U 1) aA)))) eh)
   (a0 (b' (ov oy aO))))),?_⟩
 have aoB:=F9 S;have w0:=k.rM;have idx:∀ {x:Nat},x ∈ eI S->(((eI S).map fun j=>((j:Nat):Int)).idxOf (x:Int)=(eI S).idxOf x)/\(eI S)[(eI S).idxOf x]? = some x:=fun {x} ah=>by
  refine ⟨N8 x (eI S),?_⟩;have aL:=WT.mpr ah;rw [a' aL,amw]
 have ind:∀ {x:Nat} {Q':c4},x ∈ eI S->Q' (.int ((eI S).idxOf x:Nat)) H->∃ bC:List Int,ay K H l (n9 V.int bC)/\(x:Int) ∈ bC/\bC.length <= 1000/\Q' (.int (bC.idxOf (x:Int):Nat)) H:=fun {x Q'} ah aR=>by
  refine ⟨(eI S).map fun j=>((j:Nat):Int),by rw [<- V6];exact ay.of aL,cc.mpr ⟨x,ah,rfl⟩,by rw [aW];omega,?_⟩;rw [(idx ah).1];exact aR
 obtain ⟨r,sE⟩:=U0 k;have i5:fZ (bB (eI S)) (-1)=some (.int (S.h:Nat)):=vE (by
  rw [hc];refine o2 ?_;rw [sE,cZ,pa,M5,nz (bP _),Q4];rfl)
 simp only [dG];by_cases bh:aj ∈ eI S
 .refine dh true (fun Q aV=>?_) (fun _=>?_) (fun z=>nomatch z)
  .nofun;refine ⟨_,.inl (ay.of aL),rfl,sU _,?_⟩;rw [tj,decide_eq_true bh];exact aV
  .nofun;refine ⟨.inl ⟨_,ay.of aL⟩,ind (Q':=Q) bh (q _ (.inr ⟨_,aj,rfl,(idx bh).2,?_⟩))⟩;unfold iK;rw [if_pos ((p6 k).mp bh).2]
 have lP:S.own aj=false:=by
  cases h:S.own aj with
  | true=>exact absurd ((p6 k).mpr ⟨ax,h⟩) bh
  | false=>rfl
 refine dh false (fun Q aV=>?_) (fun z=>nomatch z) (fun _=>?_)
 .nofun;refine ⟨_,.inl (ay.of aL),rfl,sU _,?_⟩;rw [tj,decide_eq_false bh];exact aV
 simp only [gQ,dG];by_cases b4:f ∈ eI S
 .by_cases pU:f=S.h
  .refine dh false (fun Q aV=>?_) (fun z=>nomatch z) (fun _=>?_)
   .nofun;refine ⟨_,.inl (ay.of aL),rfl,sU _,?_⟩;rw [tj,decide_eq_true b4,if_pos rfl];refine ⟨_,ay.of aL,_,i5,rfl,?_⟩;rw [pU,decide_eq_true rfl];exact aV
   .nofun;refine q (-1) (.inl ⟨rfl,?_⟩);unfold iK;rw [if_neg (by rw [lP];decide),if_neg (fun z=>z.2 pU)]
  .refine dh true (fun Q aV=>?_) (fun _=>?_) (fun z=>nomatch z)
   .nofun;refine ⟨_,.inl (ay.of aL),rfl,sU _,?_⟩;rw [tj,decide_eq_true b4,if_pos rfl];refine ⟨_,ay.of aL,_,i5,rfl,?_⟩;rw [decide_eq_false (fun z=>pU (by injection z with z;omega))];exact aV
   .nofun;refine ⟨.inl ⟨_,ay.of aL⟩,ind (Q':=Q) b4 (q _ (.inr ⟨_,f,rfl,(idx b4).2,?_⟩))⟩;unfold iK;rw [if_neg (by rw [lP];decide),if_pos ⟨((p6 k).mp b4).2,pU⟩]
 .refine dh false (fun Q aV=>?_) (fun z=>nomatch z) (fun _=>?_)
  .nofun;refine ⟨_,.inl (ay.of aL),rfl,sU _,?_⟩;rw [tj,decide_eq_false b4,if_neg (by decide)];exact aV
  .nofun;refine q (-1) (.inl ⟨rfl,?_⟩);unfold iK;rw [if_neg (by rw [lP];decide),if_neg (fun z=>b4 ((p6 k).mpr ⟨hf,z.1⟩))]
structure i0 (H:aw) (p:Addr) (qs:List Addr) (b5:List (List Nat)):Prop where
 at_:H p=some (.lst (qs.map V.ref))
 ln:qs.length=b5.length
 al:∀ (i:Nat) (q:Addr) (xs:List Nat),qs[i]? = some q->b5[i]? = some xs->H q=some (.lst (bB xs))
theorem i0.same {p:Addr} (h:i0 H p qs b5) (s:aK H I):i0 I p qs b5:=⟨s _ _ h.at_,h.ln,fun i q xs af ak=>s _ _ (h.al i q xs af ak)⟩
theorem i0.ext {p b:Addr} (h:i0 H p qs b5) (g:i0 H b uK fJ) (cM:p ∉ qs) (cU:p ∉ uK):i0 (upd H p (.lst (qs.map V.ref ++ uK.map V.ref))) p (qs ++ uK) (b5 ++ fJ):=by
 refine ⟨by rw [aQ,ed],by rw [cZ,cZ,h.ln,g.ln],fun i q xs af ak=>?_⟩;by_cases c:i < qs.length
 .rw [pe c] at af;rw [pe (by rw [<- h.ln];exact c)] at ak;rw [aM (fun z=>cM (by rw [<- z];exact b9 af))];exact h.al i q xs af ak
 .rw [nz (by omega)] at af;rw [nz (by rw [<- h.ln];omega),<- h.ln] at ak;rw [aM (fun z=>cU (by rw [<- z];exact b9 af))];exact g.al _ q xs af ak
def Kd (S:fs) (ch:List Nat) (p:Nat) (sp:Int) (b5:List (List Nat)):Prop:=∀ ys,ys ∈ b5↔∃ ext,ys=ch ++ ext/\i7 S p sp ext
noncomputable def mr (S:fs) (p:Nat) (place:Int):Nat:=if p=S.h then 1 else if S.own p=true then rp (k5 S).length ((eI S).length - (place + 1).toNat) else hT (k5 S).length ((eI S).length - (place + 1).toNat)
structure alp (S:fs) (d:Nat) (vs:List V) (H:aw) (ch:List Nat) (p:Nat) (sp place:Int):Prop where
 afP:∃ cl ol c5,vs=[.ref cl,.ref ol,.ref c5,.int place]/\H cl=some (.lst (bB ch))/\H ol=some (.lst (bB (eI S)))/\H c5=some (.lst (bB (k5 S)))
 k:S.Ok
 cO:∃ r,ch=r ++ [p]
 cl:ch.length + d <= 40
 pm:p < S.m
 pl:vx S place sp
 cI:mB S p sp <= d
 bx:aJ H
 op:S.own p=true->sp=S.eD p
def Dc (d:Nat):bM:=fun vs H Q _=>∃ S ch p sp place,alp S d vs H ch p sp place/\∀ r qs b5 I,aK H I->aJ I->i0 I r qs b5->H r=none->r ∉ qs->Kd S ch p sp b5->b5.length <= mr S p place->Q (.ref r) I
noncomputable def TY:Nat->bM
 | 0=>fun _ _ _ _=>False
 | d + 1=>Dc d
theorem N4 (k:S.Ok) {p x:Nat} (h:sp < S.eD x):mB S x (S.eD x) < mB S p sp:=by
 have:=(ph k x).2;unfold mB;split <;> split <;> omega
theorem Nk {p x:Nat} (h:S.own p=true) (g:S.own x=false):mB S x sp < mB S p sp:=by
 unfold mB;rw [if_pos h,if_neg (by rw [g];decide)];omega
theorem Wh (o:Nat):∀ j,1 <= j->1 <= hT o j
 | 0,h=>absurd h (by decide)
 | j + 1,_=>by
  show 1 <= (if j=0 then 1 else (2 + o) * hT o j);split
  .exact bP _
  .rename_i h;exact alo (show 0 < 2 + o by omega) (Wh o j (by omega))
theorem acM (o j:Nat):1 <= rp o j:=by
 unfold rp;split
 .exact bP _
 .rename_i h;exact alo (show 0 < 1 + o by omega) (Wh o j (by omega))
theorem Rc {S:fs} (k:S.Ok) {d':Nat} {H1 ck:aw} {cl ol c5 bf:Addr} {ch:List Nat} {qs:List Addr} {b5:List (List Nat)} (aq:H1 cl=some (.lst (bB ch))) (aH:H1 ol=some (.lst (bB (eI S)))) (bO:H1 c5=some (.lst (bB (k5 S)))) (s5:aK H1 ck) (ei:aJ ck) (my:H1 bf=none) (iy:i0 ck bf qs b5) (kE:bf ∉ qs) (mT:ch.length + (d' + 1) <= 40) {x:Nat} (ah:x < S.m) {we jT:Int} (pl:vx S we jT) (cI:mB S x jT <= d') (op:S.own x=true->jT=S.eD x) (aN:b5.length + mr S x we <= sizeLine) {E:f5} {R:aw->Prop}
  (gA:∀ fa nx fJ,aK H1 fa->aJ fa->i0 fa bf (qs ++ nx) (b5 ++ fJ)->bf ∉ qs ++ nx->Kd S (ch ++ [x]) x jT fJ->fJ.length <= mr S x we->R fa) :
  ∀ dH:Addr,ck dH=none->∃ X,upd ck dH (.lst [V.int (x:Nat)]) cl=some (.lst X)/\∃ Y,upd ck dH (.lst [V.int (x:Nat)]) dH=some (.lst Y)/\X.length + Y.length <= sizeLine/\∀ iD:Addr,upd ck dH (.lst [V.int (x:Nat)]) iD=none ->
   TY (d' + 1) [V.ref iD,V.ref ol,V.ref c5,V.int we] (upd (upd ck dH (.lst [V.int (x:Nat)])) iD (.lst (X ++ Y))) (fun v gg=>∃ b,v=V.ref b/\∃ Gf,gg bf=some (.lst Gf)/\∃ W,gg b=some (.lst W)/\Gf.length + W.length <= sizeLine/\R (upd gg bf (.lst (Gf ++ W)))) E:=by
 intro dH fV;have e1:aK ck (upd ck dH (.lst [V.int (x:Nat)])):=ba fV;refine ⟨_,e1 _ _ (s5 _ _ aq),_,aQ,cL (show _ <= 64 by rw [hc];show ch.length + 1 <= 64;omega) (by decide),fun iD ah3=>?_⟩;have h4:=e1.trans (ba (o:=.lst (bB ch ++ [V.int (x:Nat)])) ah3);have Rv:=s5.trans h4;refine ⟨S,ch ++ [x],x,jT,we,⟨⟨iD,ol,c5,rfl,by rw [aQ];unfold bB;rw [ed];rfl,Rv _ _ aH,Rv _ _ bO⟩,k,⟨ch,rfl⟩,by rw [cZ];show ch.length + 1 + d' <= 40;omega,ah,pl,cI,(ei.upd).upd,op⟩,fun r nx fJ fa hH nP lH ao vU rv zZ=>?_⟩;have jD:=iy.same (h4.trans hH);have hK:bf ∉ nx:=fun hm=>by
  obtain ⟨j,aG⟩:=hU hm;have gv:j < fJ.length:=by rw [<- lH.ln];exact (b6.mp aG).1
  have a6:fJ[j]? = some fJ[j]:=a' gv;have e:=lH.al j bf _ aG a6;rw [jD.at_] at e;have bH:qs.map V.ref=bB fJ[j]:=fX.lst.inj (eE e);obtain ⟨ext,ix,_⟩:=(rv fJ[j]).mp (g6 gv);rw [ix] at bH;cases ch with
  | nil=>cases qs with
   | nil=>cases bH
   | cons kZ qF=>cases (q7 bH).1
  | cons bF cr=>cases qs with
   | nil=>cases bH
   | cons kZ qF=>cases (q7 bH).1
 refine ⟨r,rfl,_,jD.at_,_,lH.at_,?_,gA _ nx fJ (fun b u e=>?_) nP.upd (jD.ext lH kE hK) (fun hm=>(eR.mp hm).elim kE hK) rv zZ⟩
 .rw [aW,aW,jD.ln,lH.ln];omega
 .rw [aM (dm e my)];exact hH _ _ (h4 _ _ (s5 _ _ e))
theorem SA (T:Txt w K mg t) (d:Nat) (D3:cD P w K mg base dk (d + 2) t.u0 t.uA vg (TY d)):cD P w K mg base dk (d + 3) t.u0 t.uA vg (Dc d):=by
 refine T.vT.ok vI (fun vs H Q E h=>?_) (fun _ _ _ s H vs Q E ao h=>?_)
 .obtain ⟨S,ch,p,sp,place,⟨⟨cl,ol,c5,rfl,_⟩,_⟩,_⟩:=h;rfl
 obtain ⟨S,ch,p,sp,place,J,q⟩:=h;obtain ⟨cl,ol,c5,rfl,aq,aH,bO⟩:=J.afP;have k:=J.k;have w0:=k.rM;have ahS:=F9 S;have ad3:=Wu S;obtain ⟨cr,akY⟩:=J.cO;have i5:fZ (bB ch) (-1)=some (.int (p:Nat)):=vE (by
  rw [hc];refine o2 ?_;rw [akY,cZ,pa,M5,nz (bP _),Q4];rfl)
 obtain ⟨qF,sE⟩:=U0 k;have T9:fZ (bB (eI S)) (-1)=some (.int (S.h:Nat)):=vE (by
  rw [hc];refine o2 ?_;rw [sE,cZ,pa,M5,nz (bP _),Q4];rfl)
 refine ⟨_,(db (bT (i:=4) vI.aI (bZ c8 (U 0) (ov oy aO)))
   (db (dU (cX et (U 4) (bZ c8 (U 1) (ov oy aO)) (cA _)) (a0 (b' (ld (ag (U 0) aA)))) eh)
   (db (bT (i:=5) vI.aI (ld aA))
   (db (fw fF rfl (WS rfl T.j' (ag (bE d4 (U 3) aO) (ag (fP hL rfl T.hz hE (ag (U 1) aA)) aA))) (b7 (i:=6) vI.aI) (a0 (dS (eF f6 qC rK p0 (U 5) (ag (bU D3 ao T.HE T.vT.bl T.JT (ag (bE KW (U 0) (ld (ag (bZ c8 (U 1) (U 6)) aA))) (ag (U 1) (ag (U 2) (ag (U 6) aA))))) aA)))))
   (db (dU (cX sq (U 4) (U 1) (by with_unfolding_all rfl)) (a0 (fw fF rfl (e5 (U 2)) (b7 (i:=7) vI.aI) (a0 (dS (eF f6 qC rK p0 (U 5) (ag (bU D3 ao T.HE T.vT.bl T.JT (ag (bE KW (U 0) (ld (ag (U 7) aA))) (ag (U 1) (ag (U 2) (ag (U 3) aA))))) aA)))))) eh)
   (a0 (b' (U 5)))))))),?_⟩
 exists (fun au I=>I=H/\au=[~~~cl,~~~ol,~~~c5,some (.int place),some (.int (p:Nat)),none,none,none]),3
 .nofun;exact ⟨_,ay.of aq,_,i5,bQ _ _ ⟨rfl,rfl⟩⟩
 rintro fk H1 ⟨rfl,rfl⟩;subst aT;simp only [dG];by_cases bh:p=S.h
 .refine dh true (fun Q aV=>?_) (fun _=>?_) (fun z=>nomatch z)
  .nofun;refine ⟨_,ay.of aH,_,T9,rfl,?_⟩;rw [bh,decide_eq_true rfl];exact aV
  .nofun;refine ⟨by decide,fun r ao=>q r [cl] [ch] _ (ba ao) J.bx.upd ⟨aQ,rfl,fun i dB xs af ak=>?_⟩ ao (fun z=>by rw [eY.mp z,aq] at ao;cases ao) (fun ys=>?_) ?_⟩
   .match i,af,ak with
    | 0,af,ak=>cases af;cases ak;exact ba ao _ _ aq
    | i + 1,af,_=>simp at af
   .rw [eY];constructor
    .rintro rfl;exact ⟨[],by simp,bh⟩
    .rintro ⟨ext,rfl,aS⟩;cases ext with
     | nil=>simp
     | cons x r=>exact absurd bh aS.1
   .unfold mr;rw [if_pos bh];exact bP _
 refine dh false (fun Q aV=>?_) (fun z=>nomatch z) (fun _=>?_)
 .nofun;refine ⟨_,ay.of aH,_,T9,rfl,?_⟩;rw [decide_eq_false (fun z=>bh (by injection z with z;omega))];exact aV
 simp only [gQ,dG];obtain ⟨o,aS⟩:∃ o,(k5 S).length=o:=⟨_,rfl⟩;obtain ⟨L,ek⟩:∃ L,(eI S).length=L:=⟨_,rfl⟩;obtain ⟨b,aa⟩:∃ b:Nat,place + 1=(b:Int):=⟨(place + 1).toNat,by have:=O1 J.pl;omega⟩;obtain ⟨d',rfl⟩:∃ d',d=d' + 1:=⟨d - 1,by
  have af:=J.cI;have ak:sp < S.m:=by
   rcases J.pl with ⟨_,e⟩ | ⟨i,y,_,_,e⟩
   .rw [e];omega
   .rw [e];exact (ph k y).2
  unfold mB at af
  omega⟩
 have aoH:b <= L:=by
  rcases J.pl with ⟨e,_⟩ | ⟨i,y,e,ai,_⟩
  .omega
  .have:=(b6.mp ai).1;omega
 have hB:hT o (L - b) <= 300000:=(Wy o (by omega) _ (by omega)).2;exists (fun au I=>aK H1 I/\aJ I/\∃ bf,H1 bf=none/\I bf=some (.lst [])/\au=[~~~cl,~~~ol,~~~c5,some (.int place),some (.int (p:Nat)),~~~bf,none,none]),0
 .nofun;exact ⟨by decide,fun bf my=>bQ _ _ ⟨ba my,J.bx.upd,bf,my,aQ,rfl⟩⟩
 rintro cw av ⟨s2,cU,bf,my,d_,rfl⟩;subst aT;simp only [dG];exists (fun au I=>aK H1 I/\aJ I/\∃ qs b5 cC,i0 I bf qs b5/\bf ∉ qs/\(∀ ys,ys ∈ b5↔∃ x r,ys=ch ++ x :: r/\x < S.m/\S.own x=true/\sp < S.eD x/\i7 S x (S.eD x) r)/\b5.length <= hT o (L - b)/\au=[~~~cl,~~~ol,~~~c5,some (.int place),some (.int (p:Nat)),~~~bf,cC,none]),0
 .nofun;refine ⟨_,.inl (ay.of (s2 _ _ aH)),by omega,by rw [aa];omega,by rw [hc];omega,by rw [hc];omega,?_⟩;rw [hc,ek,show ((L:Int) - (place + 1)).toNat=L - b by omega];refine dZ.range (fun i σ I=>aK H1 I/\aJ I/\∃ qs b5 cC,i0 I bf qs b5/\bf ∉ qs/\(∀ ys,ys ∈ b5↔∃ x r s,(eI S)[s]? = some x/\b <= s/\s < b + i/\ys=ch ++ x :: r/\i7 S x (S.eD x) r)/\b5.length + hT o (L - b - i) <= hT o (L - b)/\σ=[~~~cl,~~~ol,~~~c5,some (.int place),some (.int (p:Nat)),~~~bf,cC,none]) ?_ ?_ ?_
  .exact ⟨s2,cU,[],[],none,⟨d_,rfl,fun i q xs h=>by simp at h⟩,by simp,fun ys=>⟨fun h=>by simp at h,fun ⟨x,r,s,_,af,ak,_⟩=>by omega⟩,by simp,rfl⟩
  .rintro i σ ck ai a_;ac_rfl
   obtain ⟨s5,ei,qs,b5,cC,iy,kE,kU,pQ,rfl⟩:=a_;obtain ⟨x,ah⟩:∃ x,(eI S)[b + i]? = some x:=⟨(eI S)[b + i]'(by omega),a' _⟩;obtain ⟨kI,la⟩:=(p6 k).mp (b9 ah);have qh:sp < S.eD x:=(J5 k J.pl ah).mp (by omega);subst aT;simp only [gL,jJ,jM];rw [show place + 1 + (i:Int)=((b + i:Nat):Int) by omega];nofun;have Px:mr S x ((b + i:Nat):Int) <= rp o (L - b - (i + 1)):=by
    unfold mr;by_cases Tb:x=S.h
    .rw [if_pos Tb];exact acM _ _
    .rw [if_neg Tb,if_pos la,aS,ek,show (((b + i:Nat):Int) + 1).toNat=b + i + 1 by omega,show L - (b + i + 1)=L - b - (i + 1) by omega];exact bP _
   have Bc:=aeb o (L - b - (i + 1));rw [show L - b - (i + 1) + 1=L - b - i by omega] at Bc;refine ⟨.inl ⟨_,ay.of iy.at_⟩,_,ay.of (s5 _ _ aH),_,cp (o2 ah),by decide,Rc k aq aH bO s5 ei my iy kE J.cl kI (.inr ⟨_,x,rfl,ah,rfl⟩) (by have:=N4 k (p:=p) qh;have:=J.cI;omega) (fun _=>rfl) (cL (show _ <= 300000 by omega) (by decide)) (R:=fun I=>aK H1 I/\aJ I/\∃ qs b5,i0 I bf qs b5/\¬ bf ∈ qs/\(∀ ys,ys ∈ b5↔∃ x r s,(eI S)[s]? = some x/\b <= s/\s < b + (i + 1)/\ys=ch ++ x :: r/\i7 S x (S.eD x) r)/\b5.length + hT o (L - b - (i + 1)) <= hT o (L - b)/\∃ x,some (V.int ((b + i:Nat):Int))=x) fun fa nx fJ h4 hK jD Lx rQ uk=>⟨h4,hK,_,_,jD,Lx,fun ys=>?_,by rw [cZ];omega,_,rfl⟩⟩;rw [eR,kU,rQ];constructor
   .rintro (⟨eu,r,s,af,ak,a5,bN,dy⟩ | ⟨ext,bN,dy⟩)
    .exact ⟨eu,r,s,af,ak,by omega,bN,dy⟩
    .exact ⟨x,ext,b + i,ah,by omega,by omega,by rw [bN,l7];rfl,dy⟩
   .rintro ⟨eu,r,s,af,ak,a5,bN,dy⟩;by_cases c:s < b + i
    .exact .inl ⟨eu,r,s,af,ak,c,bN,dy⟩
    .have aU:s=b + i:=by omega
     rw [aU,ah] at af;cases af;exact .inr ⟨r,by rw [bN,l7];rfl,dy⟩
  .rintro σ ck a_;ac_rfl
   obtain ⟨s5,ei,qs,b5,cC,iy,kE,kU,pQ,rfl⟩:=a_;subst aT;refine bQ _ _ ⟨s5,ei,qs,b5,cC,iy,kE,fun ys=>?_,by omega,rfl⟩;rw [kU];constructor
   .rintro ⟨x,r,s,ah,af,ak,rfl,jf⟩;obtain ⟨kI,la⟩:=(p6 k).mp (b9 ah);exact ⟨x,r,rfl,kI,la,(J5 k J.pl ah).mp (by omega),jf⟩
   .rintro ⟨x,r,rfl,kI,la,af,jf⟩;obtain ⟨s,ax⟩:=hU ((p6 k).mpr ⟨kI,la⟩);have ak:=(J5 k J.pl ax).mpr af;have a5:=(b6.mp ax).1;exact ⟨x,r,s,ax,by omega,by omega,rfl,jf⟩
 rintro fI br ⟨s3,di,qs,b5,cC,oS,Pe,r5,iE,rfl⟩;subst aT;simp only [dG];exists (fun au I=>aK H1 I/\aJ I/\∃ qs b5 cC c0,i0 I bf qs b5/\bf ∉ qs/\Kd S ch p sp b5/\b5.length <= mr S p place/\au=[~~~cl,~~~ol,~~~c5,some (.int place),some (.int (p:Nat)),~~~bf,cC,c0]),0
 .have gt:∀ (ys:List Nat),(∃ ext,ys=ch ++ ext/\i7 S p sp ext)↔(ys ∈ b5\/∃ x r,ys=ch ++ x :: r/\x < S.m/\S.own p=true/\S.own x=false/\i7 S x sp r):=fun ys=>by
   rw [r5];constructor
   .rintro ⟨ext,rfl,jf⟩;cases ext with
    | nil=>exact absurd jf bh
    | cons x r=>
     obtain ⟨_,ah,⟨a1,a2,ef⟩ | ⟨a1,a2,ef⟩⟩:=jf
     .exact .inl ⟨x,r,rfl,ah,a1,a2,ef⟩
     .exact .inr ⟨x,r,rfl,ah,a1,a2,ef⟩
   .rintro (⟨x,r,rfl,ah,a1,a2,ef⟩ | ⟨x,r,rfl,ah,a1,a2,ef⟩)
    .exact ⟨x :: r,rfl,bh,ah,.inl ⟨a1,a2,ef⟩⟩
    .exact ⟨x :: r,rfl,bh,ah,.inr ⟨a1,a2,ef⟩⟩
  cases qy:S.own p with
  | false=>
   refine dh false (fun Q aV=>?_) (fun z=>nomatch z) (fun _=>?_)
   .nofun;refine ⟨_,.inl (ay.of (s3 _ _ aH)),rfl,sU _,?_⟩;rw [tj,decide_eq_false (fun z=>by have:=((p6 k).mp z).2;rw [qy] at this;cases this)];exact aV
   .simp only [gQ];refine bQ _ _ ⟨s3,di,qs,b5,cC,_,oS,Pe,fun ys=>?_,?_,rfl⟩
    .rw [gt];constructor
     .exact .inl
     .rintro (h | ⟨x,r,_,_,h,_⟩)
      .exact h
      .rw [qy] at h;cases h
    .unfold mr;rw [if_neg bh,qy,if_neg (by decide),aS,ek,show (place + 1).toNat=b by omega];exact iE
  | true=>
   refine dh true (fun Q aV=>?_) (fun _=>?_) (fun z=>nomatch z)
   .nofun;refine ⟨_,.inl (ay.of (s3 _ _ aH)),rfl,sU _,?_⟩;rw [tj,decide_eq_true ((p6 k).mpr ⟨J.pm,qy⟩)];exact aV
   .nofun;refine ⟨⟨_,ay.of (s3 _ _ bO)⟩,?_⟩;refine dZ.list (xs:=bB (k5 S)) (fun i σ I=>aK H1 I/\aJ I/\∃ qs fJ cC c0,i0 I bf qs fJ/\bf ∉ qs/\(∀ ys,ys ∈ fJ↔(ys ∈ b5\/∃ x r s,(k5 S)[s]? = some x/\s < i/\ys=ch ++ x :: r/\i7 S x sp r))/\fJ.length <= (1 + i) * hT o (L - b)/\σ=[~~~cl,~~~ol,~~~c5,some (.int place),some (.int (p:Nat)),~~~bf,cC,c0]) ?_ ?_ ?_ ?_
    .exact ⟨s3,di,qs,b5,cC,none,oS,Pe,fun ys=>⟨.inl,fun h=>h.elim id (fun ⟨x,r,s,_,h,_⟩=>by omega)⟩,by rw [Nat.add_zero,Nat.one_mul];exact iE,rfl⟩
    .rintro i σ ck ai ⟨s5,_⟩;exact ay.of (s5 _ _ bO)
    .rintro i v σ ck aF a_;ac_rfl
     obtain ⟨s5,ei,o6,fJ,q5,vd,iy,kE,kU,pQ,rfl⟩:=a_;subst aT;unfold bB at aF;obtain ⟨x,ah,rfl⟩:=b8 aF;have i6:i < o:=by rw [<- aS];exact (b6.mp ah).1
     obtain ⟨kI,la⟩:=KY.mp (b9 ah);simp only [gL,jJ,jM];nofun;have Px:mr S x place <= hT o (L - b):=by
      unfold mr;rw [if_neg (fun z=>by rw [z,IB] at la;cases la),la,if_neg (by decide),aS,ek,show (place + 1).toNat=b by omega];exact bP _
     have hmul:(1 + (i + 1)) * hT o (L - b)=(1 + i) * hT o (L - b) + hT o (L - b):=xD (1 + i) _;have hle:(1 + (i + 1)) * hT o (L - b) <= 8 * 300000:=Nat.mul_le_mul (by omega) hB;refine ⟨.inl ⟨_,ay.of iy.at_⟩,by decide,Rc k aq aH bO s5 ei my iy kE J.cl kI J.pl (by have:=Nk (sp:=sp) qy la;have:=J.cI;omega) (fun z=>by rw [la] at z;cases z) (cL (show _ <= 8 * 300000 by omega) (by decide)) (R:=fun I=>aK H1 I/\aJ I/\∃ qs fJ,i0 I bf qs fJ/\¬ bf ∈ qs/\(∀ ys,ys ∈ fJ↔(ys ∈ b5\/∃ x r s,(k5 S)[s]? = some x/\s < i + 1/\ys=ch ++ x :: r/\i7 S x sp r))/\fJ.length <= (1 + (i + 1)) * hT o (L - b)/\∃ c0,some (V.int (x:Int))=c0) fun fa nx BI h4 hK jD Lx rQ uk=>⟨h4,hK,_,_,jD,Lx,fun ys=>?_,by rw [cZ];omega,_,rfl⟩⟩;rw [eR,kU,rQ];constructor
     .rintro ((h | ⟨eu,r,s,af,a5,bN,dy⟩) | ⟨ext,bN,dy⟩)
      .exact .inl h
      .exact .inr ⟨eu,r,s,af,by omega,bN,dy⟩
      .exact .inr ⟨x,ext,i,ah,by omega,by rw [bN,l7];rfl,dy⟩
     .rintro (h | ⟨eu,r,s,af,a5,bN,dy⟩)
      .exact .inl (.inl h)
      .by_cases c:s < i
       .exact .inl (.inr ⟨eu,r,s,af,c,bN,dy⟩)
       .have aU:s=i:=by omega
        rw [aU,ah] at af;cases af;exact .inr ⟨r,by rw [bN,l7];rfl,dy⟩
    .rintro σ ck a_;ac_rfl
     obtain ⟨s5,ei,o6,fJ,q5,vd,iy,kE,kU,pQ,rfl⟩:=a_;subst aT;refine bQ _ _ ⟨s5,ei,o6,fJ,q5,vd,iy,kE,fun ys=>?_,?_,rfl⟩
     .rw [kU,gt];constructor
      .rintro (h | ⟨x,r,s,ax,_,rfl,jf⟩)
       .exact .inl h
       .obtain ⟨kI,la⟩:=KY.mp (b9 ax);exact .inr ⟨x,r,rfl,kI,qy,la,jf⟩
      .rintro (h | ⟨x,r,rfl,kI,_,la,jf⟩)
       .exact .inl h
       .obtain ⟨s,ax⟩:=hU (KY.mpr ⟨kI,la⟩);exact .inr ⟨x,r,s,ax,by rw [hc];exact (b6.mp ax).1,rfl,jf⟩
     .unfold mr rp;rw [if_neg bh,if_pos qy,aS,ek,show (place + 1).toNat=b by omega];rw [hc,aS] at pQ;split
      .rename_i h0;rw [h0,show hT o 0=0 from rfl,Nat.mul_zero] at pQ;omega
      .exact pQ
 rintro jE cJ ⟨s4,dc,jl,alO,q5,vd,hr,t_,pX,ki,rfl⟩;subst aT;nofun;exact q bf jl alO _ s4 dc hr my t_ pX ki
theorem Hy (T:Txt w K mg t):∀ d,cD P w K mg base dk (d + 3) t.u0 t.uA vg (Dc d)
 | 0=>SA T 0 (T.vT.ok vI (fun vs H Q E h=>h.elim) (fun fl A outer s H vs Q E ao h=>h.elim))
 | d + 1=>SA T (d + 1) (Hy T d)
def x5 (S:fs) (b5:List (List Nat)):Prop:=∀ ys,ys ∈ b5↔∃ f s ext,ys=f :: s :: ext/\f < S.m/\s < S.m/\f ≠ s/\i7 S s (iK S f s) ext
section
variable (P:Program) (w:World)
def Vp (t:bK):bM:=fun vs H Q _=>∃ aE c n ds rows,∃ h:Nat,vs=[.ref aE,.int h]/\fp P w t H aE c n ds rows/\iB ds rows/\h < rows.length/\aJ H/\∀ r qs b5 I,aK H I->aJ I->i0 I r qs b5->x5 (d0 ds rows h) b5->Q (.ref r) I
end
theorem aez (k:S.Ok) (p:Nat) (h:vx S place sp):mr S p place <= 300000:=by
 have w0:=k.rM;have ahS:=F9 S;have ad3:=Wu S;have:=O1 h;obtain ⟨a,b⟩:=Wy (k5 S).length (by omega) ((eI S).length - (place + 1).toNat) (by omega);unfold mr;split
 .decide
 .split
  .exact a
  .exact b
theorem alQ (T:Txt w K mg t) {m:Nat}:cD P w K mg base dk (m + 3) t.u0 t.uA vg (fun vs H Q E=>∃ d,d <= m/\Dc d vs H Q E):=
 ⟨fun vs H Q E ⟨d,hd,h⟩=>(Hy (P:=P) (base:=base) T d).len vs H Q E h,fun A outer s H args us vs Q E ao he aa aF ⟨d,hd,h⟩=>((Hy T d).mono (show d + 3 <= m + 3 by omega)).run A outer s H args us vs Q E ao he aa aF h⟩
theorem amh:cm P base T 19 t.D2 t.z3 ko (Vp P w t):=by
 refine cv (EQ T) fun ac5=>cv (ajm T) fun Yo=>cv (agx T) fun al2=>cv (alQ T (m:=15)) fun D3=>?_;exists T.F_.ok vh,9
 obtain ⟨aE,c,n,ds,rows,h,rfl,c3,R,b2,bx,q⟩:=h;obtain ⟨iw,le,mo,cI,cG,aS,ch,ms,kvs,aq,C,bO,d_,fR,ec,gF,jH,ja⟩:=id c3;have kj:=R.kj;have k:=R.ok b2;obtain ⟨hZ,aoO⟩:∃ hZ:Nat,hZ=300000:=⟨_,rfl⟩;refine ⟨_,(db (bT (i:=2) vh.aI (bU ac5 ao T.afA T.LG.bl T.Yw (ag (U 0) (ag (U 1) aA))))
   (db (bT (i:=3) vh.aI (bU Yo ao T.ahd T.GF.bl T.amQ (ag (U 0) (ag (U 1) aA))))
   (db (bT (i:=4) vh.aI (ld aA))
   (db (fw fF rfl (kN rfl T.j' (ag (bw (U 0) rfl) aA)) (b7 (i:=5) vh.aI) (a0 (fw fF rfl (kN rfl T.j' (ag (bw (U 0) rfl) aA)) (b7 (i:=6) vh.aI) (a0 (dU (cX pM (U 5) (U 6) (cA _)) (a0 (dS (eF f6 qC rK p0 (U 4) (ag (bU D3 ao T.HE T.vT.bl T.JT (ag (ld (ag (U 5) (ag (U 6) aA))) (ag (U 2) (ag (U 3) (ag (bU al2 ao T.ZQ T.LC.bl T.afK (ag (U 2) (ag (U 5) (ag (U 6) aA)))) aA))))) aA)))) eh)))))
   (a0 (b' (U 4))))))),?_⟩
 exists (fun au I=>aK H I/\aJ I/\∃ ol,I ol=some (.lst (bB (eI (d0 ds rows h))))/\au=[~~~aE,some (.int h),~~~ol,none,none,none,none]),3
 .nofun;exact ⟨aE,c,n,ds,rows,h,rfl,c3,R,b2,bx,fun p I aj dV e=>bQ _ _ ⟨aj,dV,p,e,rfl⟩⟩
 rintro fk H1 ⟨s1,cM,ol,Nx,rfl⟩;subst aT;exists (fun au I=>aK H1 I/\aJ I/\∃ c5,I c5=some (.lst (bB (k5 (d0 ds rows h))))/\au=[~~~aE,some (.int h),~~~ol,~~~c5,none,none,none]),3
 .nofun;exact ⟨aE,c,n,ds,rows,h,rfl,c3.same s1,R,b2,cM,fun p I aj dV e=>bQ _ _ ⟨aj,dV,p,e,rfl⟩⟩
 rintro cw av ⟨s2,cU,c5,amf,rfl⟩;subst aT;exists (fun au I=>aK av I/\aJ I/\∃ bf,av bf=none/\I bf=some (.lst [])/\au=[~~~aE,some (.int h),~~~ol,~~~c5,~~~bf,none,none]),3
 .nofun;exact ⟨by decide,fun bf my=>bQ _ _ ⟨ba my,cU.upd,bf,my,aQ,rfl⟩⟩
 rintro fI br ⟨s3,di,bf,my,qN,rfl⟩;have za:=(s1.trans s2) _ _ aq;subst aT;simp only [dG];generalize dE:d0 ds rows h=S at *;have hm:S.m=rows.length:=by rw [<- dE];rfl
 exists (fun au I=>aK av I/\aJ I/\∃ qs b5 d1 cC,i0 I bf qs b5/\bf ∉ qs/\(∀ ys,ys ∈ b5↔∃ f s ext,ys=f :: s :: ext/\f < S.m/\s < S.m/\f ≠ s/\i7 S s (iK S f s) ext)/\au=[~~~aE,some (.int h),~~~ol,~~~c5,~~~bf,d1,cC]),0
 .nofun;refine ⟨_,px T (s3 _ _ za),_,rfl,by omega,by omega,?_⟩;rw [lI];refine dZ.range (fun i σ I=>aK av I/\aJ I/\∃ qs b5 d1 cC,i0 I bf qs b5/\bf ∉ qs/\b5.length <= i * (6 * hZ)/\(∀ ys,ys ∈ b5↔∃ f s ext,ys=f :: s :: ext/\f < i/\s < S.m/\f ≠ s/\i7 S s (iK S f s) ext)/\σ=[~~~aE,some (.int h),~~~ol,~~~c5,~~~bf,d1,cC]) ?_ ?_ ?_
  .exact ⟨s3,di,[],[],_,_,⟨qN,rfl,fun i q xs h=>by simp at h⟩,by simp,fh _,fun ys=>⟨fun h=>by simp at h,fun ⟨f,s,ext,_,h,_⟩=>by omega⟩,rfl⟩
  .rintro i σ cJ ai a_;ac_rfl
   obtain ⟨s4,dc,qs,b5,d1,cC,hr,t_,ki,rq,rfl⟩:=a_;subst aT;simp only [gL,jJ,jM];rw [p8];nofun;refine ⟨_,px T (s4 _ _ za),_,rfl,by omega,by omega,?_⟩;rw [lI];refine dZ.range (fun j σ I=>aK av I/\aJ I/\∃ qs fJ cC,i0 I bf qs fJ/\bf ∉ qs/\fJ.length <= i * (6 * hZ) + j * hZ/\(∀ ys,ys ∈ fJ↔(ys ∈ b5\/∃ s ext,ys=i :: s :: ext/\s < j/\i ≠ s/\i7 S s (iK S i s) ext))/\σ=[~~~aE,some (.int h),~~~ol,~~~c5,~~~bf,some (.int i),cC]) ?_ ?_ ?_
   .exact ⟨s4,dc,qs,b5,_,hr,t_,cL ki (BQ _ _),fun ys=>⟨.inl,fun h=>h.elim id (fun ⟨s,ext,_,h,_⟩=>by omega)⟩,rfl⟩
   .rintro j σ ck aG a_;ac_rfl
    obtain ⟨s5,ei,o6,fJ,q5,iy,kE,pQ,kU,rfl⟩:=a_;subst aT;simp only [gL,jJ,jM];rw [p8];by_cases E4:i=j
    .refine dh false (fun Q aV=>?_) (fun z=>nomatch z) (fun _=>?_)
     .nofun;rw [E4,decide_eq_true rfl];exact aV
     .simp only [gQ];refine ⟨s5,ei,o6,fJ,_,iy,kE,by have:(j + 1) * hZ=j * hZ + hZ:=xD j hZ;omega,fun ys=>?_,rfl⟩;rw [kU];constructor
      .rintro (h | ⟨s,ext,af,ak,a5,bN⟩)
       .exact .inl h
       .exact .inr ⟨s,ext,af,by omega,a5,bN⟩
      .rintro (h | ⟨s,ext,af,ak,a5,bN⟩)
       .exact .inl h
       .exact .inr ⟨s,ext,af,by omega,a5,bN⟩
    .refine dh true (fun Q aV=>?_) (fun _=>?_) (fun z=>nomatch z)
     .nofun;rw [decide_eq_false (fun z=>E4 (by omega))];exact aV
     .nofun;refine ⟨.inl ⟨_,ay.of iy.at_⟩,by decide,fun p ar=>?_⟩;have e1:aK ck (upd ck p (.lst [V.int (i:Nat),V.int (j:Nat)])):=ba ar;have Cq:=s5.trans e1;refine ⟨ol,S,i,j,rfl,Cq _ _ (s2 _ _ Nx),k,by omega,by omega,fun place pl=>⟨15,bP _,S,[i,j],j,iK S i j,place,⟨⟨p,ol,c5,rfl,aQ,Cq _ _ (s2 _ _ Nx),Cq _ _ amf⟩,k,⟨[i],rfl⟩,(show (2:Nat) + 15 <= 40 by decide),by omega,pl,?_,ei.upd,fun z=>by unfold iK;rw [if_pos z]⟩,fun r nx BI fa hH nP lH anw vU rv zZ=>?_⟩⟩
      .have af:-1 <= iK S i j:=by
        rcases pl with ⟨_,e⟩ | ⟨_,y,_,_,e⟩
        .omega
        .rw [e];have:=(ph k y).1;omega
       have:=k.rM;unfold mB;split <;> omega
      .have jD:=iy.same (e1.trans hH);have hK:bf ∉ nx:=fun mN=>by
        obtain ⟨a,aP⟩:=hU mN;have mD:a < BI.length:=by rw [<- lH.ln];exact (b6.mp aP).1
        have e:=lH.al a bf _ aP (a' mD);rw [jD.at_] at e;have bH:o6.map V.ref=bB BI[a]:=fX.lst.inj (eE e);obtain ⟨ext,ix,_⟩:=(rv BI[a]).mp (g6 mD);rw [ix] at bH;cases o6 with
        | nil=>cases bH
        | cons kZ qF=>cases (q7 bH).1
       have Px:=aez k j pl;have Fg:(j + 1) * hZ=j * hZ + hZ:=xD j hZ;have yo:i * (6 * hZ) <= 5 * (6 * hZ):=Wb _ (by omega);have wL:j * hZ <= 5 * hZ:=Wb _ (by omega);refine ⟨r,rfl,_,jD.at_,_,lH.at_,cL (show _ <= 36 * 300000 by rw [aW,aW,jD.ln,lH.ln];omega) (by decide),fun b u e=>?_,nP.upd,_,_,jD.ext lH kE hK,(fun mN=>(eR.mp mN).elim kE hK),by rw [cZ];omega,fun ys=>?_,_,rfl⟩
       .rw [aM (dm e my)];exact hH _ _ (Cq _ _ e)
       .rw [eR,kU,rv];constructor
        .rintro ((h | ⟨s,ext,af,ak,a5,bN⟩) | ⟨ext,af,bN⟩)
         .exact .inl h
         .exact .inr ⟨s,ext,af,by omega,a5,bN⟩
         .exact .inr ⟨j,ext,af,by omega,E4,bN⟩
        .rintro (h | ⟨s,ext,af,ak,a5,bN⟩)
         .exact .inl (.inl h)
         .by_cases cs:s < j
          .exact .inl (.inr ⟨s,ext,af,cs,a5,bN⟩)
          .have aU:s=j:=by omega
           subst aU;exact .inr ⟨ext,af,bN⟩
   .rintro σ ck a_;ac_rfl
    obtain ⟨s5,ei,o6,fJ,q5,iy,kE,pQ,kU,rfl⟩:=a_;subst aT;refine ⟨s5,ei,⟨o6,fJ,iy,kE,by have:(i + 1) * (6 * hZ)=i * (6 * hZ) + 6 * hZ:=xD i (6 * hZ);have:=Wb hZ kj;omega,fun ys=>?_,_,_,rfl⟩⟩;rw [kU,rq];constructor
    .rintro (⟨f,s,ext,af,ak,a5,bN⟩ | ⟨s,ext,af,ak,a5,bN⟩)
     .exact ⟨f,s,ext,af,by omega,a5,bN⟩
     .exact ⟨i,s,ext,af,by omega,by omega,a5,bN⟩
    .rintro ⟨f,s,ext,af,ak,a5,bN,dy⟩;by_cases al4:f < i
     .exact .inl ⟨f,s,ext,af,al4,a5,bN,dy⟩
     .have qN:f=i:=by omega
      subst qN;exact .inr ⟨s,ext,af,by omega,bN,dy⟩
  .rintro σ cJ a_;ac_rfl
   obtain ⟨s4,dc,qs,b5,d1,cC,hr,t_,ki,rq,rfl⟩:=a_;subst aT;refine bQ _ _ ⟨s4,dc,qs,b5,d1,cC,hr,t_,fun ys=>?_,rfl⟩;rw [rq,hm]
 rintro jE cJ ⟨s4,dc,qs,b5,d1,cC,hr,t_,rq,rfl⟩;subst aT;nofun;exact q bf qs b5 _ ((s1.trans s2).trans s4) dc hr rq
unseal L2.hy L2.bD L2.hA L2.jx L2.iO L2.fM
section
open PySem.Spec PyProof.Rows
theorem Vo (aB:X.calm=true):l_ X (.builtin "sum") (fun xs H Q=>∃ l bC,xs=[.ref l]/\ay X.K H l (n9 V.int bC)/\(∀ k ∈ bC,0 <= k/\k <= 1000000000)/\bC.length <= 1000/\Q (.int bC.sum) H):=by
 intro ab s σ H xs us Q J r h;obtain ⟨l,bC,rfl,aR,aC,aL,q⟩:=h;obtain ⟨u,rfl,eZ⟩:=lV r;cases eZ;obtain ⟨a7,cH,pl,aN⟩:=J.list aR;obtain ⟨xs,aq,aH⟩:=Q5 cH;have i6:a7.toArray=intItems xs.toArray:=by rw [aq];unfold intItems;simp
 have qe:s.heap.IsList l (intItems xs.toArray):=by rw [<- i6];exact pl.isList
 have gN:xs.length=bC.length:=by rw [<- aH,aW]
 have aX:∀ i,i < bC.length->bC[i]? = some (numAt xs.toArray i):=fun i ai=>by
  rw [numAt_eq,jQ];show bC[i]? = some (((xs.map (·.1))[i]?).getD 0);rw [aH,a' ai];rfl
 have uz:∀ n,n <= bC.length->preSum (numAt xs.toArray) n=(bC.take n).sum/\0 <= (bC.take n).sum/\(bC.take n).sum <= 1000000000 * (n:Int):=fun n=>by
  induction n with
  | zero=>intro _;exact ⟨by simp [preSum],by simp,by simp⟩
  | succ n cS=>
   intro TO;obtain ⟨i1,i2,an8⟩:=cS (by omega);have e:=aX n (by omega);have aF:=aC _ (b9 e);have aU:(bC.take (n + 1)).sum=(bC.take n).sum + numAt xs.toArray n:=by
    rw [m7,e,amE];simp
   refine ⟨?_,by omega,by omega⟩;show preSum (numAt xs.toArray) n + numAt xs.toArray n=_;rw [i1,aU]
 have hsz:xs.toArray.size=bC.length:=by rw [ft,gN]
 refine sum_intList (J.ok.hd aB) qe (fun j aG=>?_) fun h' tk t' k=>⟨.int bC.sum,H,J.kept k,⟨t',?_⟩,q⟩
 .rw [hsz] at aG;have e:=aX j aG;have aF:=aC _ (b9 e);obtain ⟨dO,dH,iD⟩:=uz (j + 1) (by omega);unfold InLong;rw [dO];omega
 .rw [hsz,(uz _ (bP _)).1,il]
end
seal L2.hy L2.bD L2.hA L2.jx L2.iO L2.fM
theorem adB {K:bk} (Pv:Nat->List V->aw->Prop) (n:Nat) (aX:n=min xs.length ys.length) (aN:n <= sizeLine) (h0:Pv 0 [] H) (aL:∀ i zs H,i <= n->Pv i zs H->(ay K H a xs/\ay K H b ys)/\zs.length <= i)
  (ax:∀ i x y zs H p,xs[i]? = some x->ys[i]? = some y->Pv i zs H->H p=none->oX Pv g dr bR dq i (.ref p) zs (upd H p (.tup [x,y]))) (hd:∀ zs H,Pv n zs H->∀ p,H p=none->Q (.ref p) (upd H p (.lst zs))):c1 (BL K a b) g dr bR dq Q H:=by
 refine c1.of (n:=n) Pv aN h0 (fun i zs H ai p=>?_) (fun zs H p=>?_) (fun i zs H ai p=>(aL i zs H (mA ai) p).2) (fun i zs H v I ai p y=>?_) hd
 .obtain ⟨⟨f9,eg⟩,_⟩:=aL i zs H (mA ai) p;exact ⟨xs,ys,xs[i],ys[i],f9,eg,by rw [a' (by omega)],by rw [a' (by omega)]⟩
 .obtain ⟨⟨f9,eg⟩,_⟩:=aL n zs H (bP _) p;exact ⟨xs,ys,f9,eg,by omega⟩
 .obtain ⟨q,x,y,aR,rfl,ah,a6,rfl⟩:=y;obtain ⟨⟨f9,eg⟩,_⟩:=aL i zs H (mA ai) p;exact ax i x y zs H q (ah xs f9) (a6 ys eg) p aR
theorem Me (xs:List V):iM xs (some 1) none=xs.drop 1:=by
 unfold iM;rw [show eM.c7 xs.length xs.length none=xs.length from rfl,show eM.c7 xs.length 0 (some 1)=min 1 xs.length from eM.CU _ _ 1];cases xs with
 | nil=>rfl
 | cons x r=>rw [CQ (by rw [gy];omega)];simp
theorem aeo (xs:List V) (h:2 <= xs.length):iM xs (some 1) (some (-1))=(xs.drop 1).take (xs.length - 2):=by
 unfold iM;have e:eM.c7 xs.length xs.length (some (-1))=xs.length - 1:=by
  show (if (-1:Int) < 0 then ((-1:Int) + (xs.length:Int)).toNat else min (-1:Int).toNat xs.length)=_;rw [if_pos (by decide)];omega
 rw [e,show eM.c7 xs.length 0 (some 1)=min 1 xs.length from eM.CU _ _ 1,CQ (by omega),show xs.length - 1 - 1=xs.length - 2 by omega]
structure qk (n:Int) (ds:List bc) (rows:List ST) (cg:Nat->Nat->Int):Prop where
 is:∀ (i j:Nat) (r s:ST),rows[i]? = some r->rows[j]? = some s->i ≠ j->ot (iV n ds r.mem s.mem) (cg i j)
 lo:∀ i j,i < rows.length->j < rows.length->i ≠ j->0 <= cg i j/\cg i j <= 1000
theorem Jo (h:ot l v) (h':ot l xB):v=xB:=by
 have:=h.2 _ h'.1;have:=h'.2 _ h.1;omega
noncomputable def eA (ds:List bc) (rows:List ST) (h i:Nat):Int:=match rows[i]? with
 | some r=>if b_ ds rows h=dd then r.lo else r.ai
 | none=>0
noncomputable def jG (cg:Nat->Nat->Int):List Nat->List Int
 | a :: b :: r=>cg a b :: jG cg (b :: r)
 | _=>[]
noncomputable def lJ (ch:List Nat):List Nat:=(ch.drop 1).take (ch.length - 2)
noncomputable def ih (cg:Nat->Nat->Int) (st:Nat->Int) (ch:List Nat):Int:=(jG cg ch).sum + ((lJ ch).map st).sum
structure BB (m:Nat) (ch:List Nat):Prop where
 cK:2 <= ch.length
 K0:ch.length <= 40
 lt:∀ x ∈ ch,x < m
 ne:∀ (i:Nat) (a b:Nat),ch[i]? = some a->ch[i + 1]? = some b->a ≠ b
theorem JA (cg:Nat->Nat->Int):∀ {ch:List Nat} {i a b:Nat},ch[i]? = some a->ch[i + 1]? = some b->(jG cg ch)[i]? = some (cg a b)
 | x :: y :: r,0,a,b,af,ak=>by cases af;cases ak;rfl
 | x :: y :: r,i + 1,a,b,af,ak=>JA cg (ch:=y :: r) (i:=i) af ak
 | [x],0,a,b,af,ak=>by simp at ak
 | [x],i + 1,a,b,af,_=>by simp at af
 | [],i,a,b,af,_=>by simp at af
theorem zN (cg:Nat->Nat->Int):∀ ch:List Nat,(jG cg ch).length=ch.length - 1
 | []=>rfl
 | [x]=>rfl
 | x :: y :: r=>by show (jG cg (y :: r)).length + 1=_;rw [zN cg (y :: r)];simp
section
variable (P:Program) (w:World)
def wE (t:bK):bM:=fun vs H Q _=>∃ aE c n ds rows,∃ h:Nat,vs=[.ref aE,.int h]/\fp P w t H aE c n ds rows/\h < rows.length/\∀ b,H b=some (.lst ((eV rows.length).map fun i=>V.int (eA ds rows h i)))->Q (.ref b) H
def HG (t:bK):bM:=fun vs H Q _=>∃ aE c n ds rows cg cl ch,∃ h:Nat,vs=[.ref aE,.int h,.ref cl]/\fp P w t H aE c n ds rows/\iB ds rows/\qk n ds rows cg/\h < rows.length/\H cl=some (.lst (bB ch))/\BB rows.length ch/\aJ H/\Q (.int (ih cg (eA ds rows h) ch)) H
def Zn (t:bK):bM:=fun vs H Q _=>∃ aE c n ds rows cg cl ch,∃ h:Nat,vs=[.ref aE,.int h,.ref cl]/\fp P w t H aE c n ds rows/\iB ds rows/\qk n ds rows cg/\h < rows.length/\H cl=some (.lst (bB ch))/\BB rows.length ch/\aJ H/\∀ I,aK H I->Q (.int (ih cg (eA ds rows h) ch)) I
end
theorem NF {α:Type} (rows:List ST) (f:ST->V) (g:Nat->V) (h:∀ i r,rows[i]? = some r->f r=g i):rows.map f=(eV rows.length).map g:=by
 refine List.ext_getElem (by simp) fun i af ak=>?_
 rw [aW] at af;rw [wR,wR,List.getElem_range];exact h i _ (a' af)
theorem Ti:cm P base T 1 t.CJ t.CE ko (wE P w t):=by
 exists T.B'.ok agk,9
 obtain ⟨aE,c,n,ds,rows,h,rfl,c3,b2,q⟩:=h;obtain ⟨iw,le,mo,cI,cG,aS,ch,ms,kvs,aq,C,bO,d_,fR,ec,gF,jH,ja⟩:=id c3;refine ⟨_,(a0 (b' (tT (cX et (bZ c8 (bw (U 0) rfl) (U 1)) dF (cA _)) (bw (U 0) rfl) (bw (U 0) rfl)))),?_⟩;nofun;refine ⟨_,n8 T aq,_,rfl,_,ay.of ec,_,cp (ng (r_ b2)),rfl,?_⟩;by_cases bF:b_ ds rows h=dd
 .rw [if_pos (by rw [bF];exact decide_eq_true rfl)];refine ⟨_,JW T aq,q le ?_⟩;rw [bO,NF (α:=Nat) rows (fun r=>V.int r.lo) (fun i=>V.int (eA ds rows h i)) (fun i r dY=>by unfold eA;rw [dY];simp only [];rw [if_pos bF])]
 .rw [if_neg (by rw [decide_eq_false (fun z=>bF (by injection z))];exact fB)];refine ⟨_,OI T aq,q mo ?_⟩;rw [d_,NF (α:=Nat) rows (fun r=>V.int r.ai) (fun i=>V.int (eA ds rows h i)) (fun i r dY=>by unfold eA;rw [dY];simp only [];rw [if_neg bF])]
theorem Mx:cm P base T 2 t.ye t.xb yn (HG P w t):=by
 refine cD.forget (sp:=Zn P w t) ?_ fun vs H Q E h=>?_
 .have Gb:cD P w K mg base dk 1 t.CJ t.CE ko (wE P w t):=Ti T;have qp:cD P w K mg base dk 1 t.Cc t.Cb wK (VY P w t):=SB T;exists T.zI.ok EU,9
  obtain ⟨aE,c,n,ds,rows,cg,cl,ch,h,rfl,c3,R,gm,b2,gh,co,bx,q⟩:=h;refine ⟨_,(db (n5 (i:=3) EU.aI rfl (mb rfl) (bU Gb ao T.NL T.B'.bl T.QC (ag (U 0) (ag (U 1) aA))))
   (db (Pi (i:=4) EU.aI rfl (oQ rfl) rfl (LZ rfl T.Im (ag (U 2) (ag (mR tM (U 2) (mH aO) nI) aA))) (fO (sc:=bt Bh) rfl (by ac_nf)) (N:=JP) (sel:=[none,none,some 0]) (fT (M:=EA) (by ac_nf)) (e3.of (fun _ _ _ _=>(kA (K:=K) (n:=2) rfl rfl (eB (b7 (i:=0) (d3 (N:=JP) (by ac_nf) rfl)) (eB (b7 (i:=1) (d3 (N:=JP) (by ac_nf) rfl)) kC)))) (fun _ _ _ _=>⟨_,hn,by walk_at "B"⟩) (fun _ _ _ _=>⟨_,(bU qp ao T.yf T.tc.bl T.x4 (ag (U 2) (ag (U 0) (ag (U 1) aA)))),by walk_at "B"⟩)) rfl)
   (a0 (b' (bE d4 (fP (Vo rfl) rfl T.Vg Vw (ag (U 4) aA)) (fP (Vo rfl) rfl T.Vg Vw (ag (g_ rfl (e5 (mR tM (U 2) (mH aO) (mH (ov oy aO)))) (fO (sc:=bt Bh) rfl (by ac_nf)) (N:=["number","stays"]) (sel:=[none,some 3]) (fT (M:=EA) (by ac_nf)) (e3.of (fun _ _ _ _=>(b7 (i:=0) (d3 (N:=["number","stays"]) (by ac_nf) rfl))) (fun _ _ _ _=>⟨_,hn,by walk_at "B"⟩) (fun _ _ _ _=>⟨_,(bZ c8 (U 1) (U 0)),by walk_at "B"⟩))) aA))))))),?_⟩
  exists (fun au I=>I=H/\∃ b,H b=some (.lst ((eV rows.length).map fun i=>V.int (eA ds rows h i)))/\au=[~~~aE,some (.int h),~~~cl,~~~b,none]),3
  .nofun;exact ⟨aE,c,n,ds,rows,h,rfl,c3,b2,fun b e=>bQ _ _ ⟨rfl,b,e,rfl⟩⟩
  rintro fk H1 ⟨rfl,b,eS,rfl⟩;subst aT;exists (fun au I=>aK H1 I/\aJ I/\∃ yc,I yc=some (.lst ((jG cg ch).map V.int))/\au=[~~~aE,some (.int h),~~~cl,~~~b,~~~yc]),3
  .have uj:=co.cK;have Up:=co.K0;nofun;refine ⟨_,ay.of gh,fun p ar=>⟨⟨_,ay.of (ba ar _ _ gh)⟩,⟨_,ay.of aQ⟩,?_⟩⟩;have m6:iM (bB ch) (some 1) none=bB (ch.drop 1):=by rw [Me];unfold bB;rw [xq]
   rw [m6];have s1:aK H1 (upd H1 p (.lst (bB (ch.drop 1)))):=ba ar;have ct:upd H1 p (.lst (bB (ch.drop 1))) p=some (.lst (bB (ch.drop 1))):=aQ;have iP:aJ (upd H1 p (.lst (bB (ch.drop 1)))):=bx.upd;generalize upd H1 p (.lst (bB (ch.drop 1)))=av at s1 ct iP ⊢;refine adB (xs:=bB ch) (ys:=bB (ch.drop 1)) (fun i zs I=>aK av I/\aJ I/\zs=((jG cg ch).take i).map V.int) (ch.length - 1) (by rw [hc,hc,lB];omega) (cL (show _ <= 40 by omega) (by decide)) ⟨aK.refl _,iP,rfl⟩ (fun i zs I ai ⟨bq,_,e⟩=>⟨⟨ay.of (bq _ _ (s1 _ _ gh)),ay.of (bq _ _ ct)⟩,by rw [e,aW,ha];omega⟩) ?_ ?_
   .rintro i x y zs I r ah a6 ⟨bq,dV,rfl⟩ dY N bj;unfold bB at ah a6;obtain ⟨a,aP,rfl⟩:=b8 ah;obtain ⟨gI,aa,rfl⟩:=b8 a6;rw [J3,ak8] at aa;have Rt:aK I (upd I r (.tup [.int (a:Nat),.int (gI:Nat)])):=ba dY;have mD:=co.lt a (b9 aP);have O6:=co.lt gI (b9 aa);refine tA ?_;nofun;refine ⟨Sub.P_,aE,c,n,ds,rows,a,gI,_,_,rfl,c3.same (s1.trans (bq.trans Rt)),a' mD,a' O6,co.ne i a gI aP aa,dV.upd,fun v aF=>bj _ _ ⟨bq.trans Rt,dV.upd,?_⟩⟩;have ev:=Jo aF (gm.is a gI _ _ (a' mD) (a' O6) (co.ne i a gI aP aa));rw [m7,JA cg aP aa,ed,ev];rfl
   .rintro zs I ⟨bq,dV,rfl⟩ yc DL;rw [I4 (by rw [zN];exact bP _)];exact bQ _ _ ⟨s1.trans (bq.trans (ba DL)),dV.upd,yc,aQ,rfl⟩
  rintro cw av ⟨s2,cU,yc,afz,rfl⟩;have uj:=co.cK;have Up:=co.K0;have gx:∀ x ∈ lJ ch,x < rows.length:=fun x ah=>co.lt x (M4 (u7 ah))
  have fS:∀ x,x < rows.length->0 <= eA ds rows h x/\eA ds rows h x <= 1000:=fun x ah=>by
   have:=R.lo _ (g6 ah);unfold eA;rw [a' ah];simp only [];split <;> omega
  have JU:∀ v ∈ jG cg ch,0 <= v/\v <= 1000000000:=fun v aF=>by
   obtain ⟨i,ai⟩:=hU aF;have i6:i < ch.length - 1:=by rw [<- zN cg];exact (b6.mp ai).1
   have aP:ch[i]? = some (ch[i]'(by omega)):=a' (by omega);have aa:ch[i + 1]? = some (ch[i + 1]'(by omega)):=a' (by omega);rw [JA cg aP aa] at ai;have:=gm.lo _ _ (co.lt _ (b9 aP)) (co.lt _ (b9 aa)) (co.ne i _ _ aP aa);cases ai;omega
  subst aT;nofun;refine ⟨jG cg ch,ay.of afz,JU,by rw [zN];omega,_,ay.of (s2 _ _ gh),fun p ar=>⟨⟨_,ay.of aQ⟩,?_⟩⟩;have m6:iM (bB ch) (some 1) (some (-1))=bB (lJ ch):=by
   rw [aeo _ (by rw [hc];exact uj),hc];unfold bB lJ;rw [Mo,xq]
  rw [m6];have s3:aK av (upd av p (.lst (bB (lJ ch)))):=ba ar;refine c1.ml (xs:=bB (lJ ch)) (zs:=((lJ ch).map (eA ds rows h)).map V.int) (ay.of aQ) (cL (show _ <= 40 by rw [hc];unfold lJ;rw [ha];omega) (by decide)) (by rw [hc,aW,aW]) (fun i v z N aF aN bj=>?_) (fun l aL=>?_)
  .unfold bB at aF;obtain ⟨x,ah,rfl⟩:=b8 aF;obtain ⟨y,a6,rfl⟩:=b8 aN;obtain ⟨eu,dW,rfl⟩:=b8 a6;rw [ah] at dW;cases dW;have gN:=gx x (b9 ah);nofun;exact ⟨Sub.name,_,ay.of (s3 _ _ (s2 _ _ eS)),_,cp (by rw [df,BE gN];rfl),bj⟩
  .refine ⟨l,rfl,_,ay.of aQ,fun v aF=>?_,by rw [aW];unfold lJ;rw [ha];omega,q _ (s2.trans (s3.trans (ba aL)))⟩;obtain ⟨x,ah,rfl⟩:=cc.mp aF;have:=fS x (gx x ah);omega
 .obtain ⟨aE,c,n,ds,rows,cg,cl,ch,h,rfl,c3,R,gm,b2,gh,co,bx,q⟩:=h;exact ⟨bx,aE,c,n,ds,rows,cg,cl,ch,h,rfl,c3,R,gm,b2,gh,co,bx,fun I bq=>⟨bq,q⟩⟩
def abT (P:Program) (w:World) (t:bK):bM:=fun vs H Q _=>∃ a c n ds rows,∃ k:Nat,∃ r,vs=[.ref a,.int k]/\fp P w t H a c n ds rows/\rows[k]? = some r/\∀ p,H p=none->Q (.ref p) (upd H p (.lst (aY r.mem)))
structure hR (B H:aw) (p:Addr) (qs:List Addr):Prop where
 at_:H p=some (.lst (qs.map V.ref))
 al:∀ q ∈ qs,B q=none/\q ≠ p/\∃ ys,H q=some (.lst ys)/\ys.length <= 1
theorem hR.same {p:Addr} (h:hR B H p qs) (s:aK H I):hR B I p qs:=⟨s _ _ h.at_,fun q aR=>let ⟨a,b,ys,e,l⟩:=h.al q aR;⟨a,b,ys,s _ _ e,l⟩⟩
theorem hR.put {p:Addr} (h:∀ q ∈ qs,B q=none/\q ≠ p/\∃ ys,H q=some (.lst ys)/\ys.length <= 1) (e:zs=qs.map V.ref):hR B (upd H p (.lst zs)) p qs:=⟨by rw [aQ,e],fun q aR=>by
 obtain ⟨a,b,ys,e,l⟩:=h q aR;exact ⟨a,b,ys,by rw [aM b];exact e,l⟩⟩
theorem hR.ext {p b:Addr} (h:hR B H p qs) (s:aK H I) (g:hR C I b uK) (Yp:aK B C) (dg:C p=H p):hR B (upd I p (.lst (qs.map V.ref ++ uK.map V.ref))) p (qs ++ uK):=by
 refine hR.put (fun q aR=>?_) (by rw [ed]);rcases eR.mp aR with z | z
 .obtain ⟨a,b,ys,e,l⟩:=h.al q z;exact ⟨a,b,ys,s _ _ e,l⟩
 .obtain ⟨a,_,ys,e,l⟩:=g.al q z;refine ⟨Yp.free a,fun w=>?_,ys,e,l⟩;rw [w,dg,h.at_] at a;cases a
section
variable (P:Program) (w:World)
def ajT (t:bK):bM:=fun vs H Q _=>∃ aE c n ds rows cg,∃ i j:Nat,∃ jC:Int,vs=[.ref aE,.int i,.int j,.int jC]/\fp P w t H aE c n ds rows/\iB ds rows/\qk n ds rows cg/\i < rows.length/\j < rows.length/\i ≠ j/\(1 <= jC/\jC <= 1000)/\aJ H /\
 ∀ p qs I,aK H I->aJ I->hR H I p qs->(qs.length:Int)=jC + cg i j->Q (.ref p) I
end
structure pD (m h f i:Nat) (st:List Nat):Prop where
 Ad:st ≠ []
 len:st.length <= 1 + i
 lt:∀ x ∈ st,x < m
 ne:∀ (k a b:Nat),st[k]? = some a->st[k + 1]? = some b->a ≠ b
 cz:i=1->st.getLast? = some h
 cK:i=2->st.getLast? = some f
theorem pD.put {m h f i:Nat} {st:List Nat} (S:pD m h f i st) {x y:Nat} (a6:st.getLast? = some y) (ah:x < m) (cj:x ≠ y) (af:i + 1=1->x=h) (ak:i + 1=2->x=f):pD m h f (i + 1) (st ++ [x]):=by
 refine ⟨by simp,by rw [cZ];show st.length + 1 <= _;have:=S.len;omega,fun z aN=>?_,fun k a b aP aa=>?_,fun z=>by rw [aiA];simp [af z],fun z=>by rw [aiA];simp [ak z]⟩
 .rcases eR.mp aN with z | z
  .exact S.lt _ z
  .rw [eY.mp z];exact ah
 .rcases mF aa with ⟨g1,g2⟩ | ⟨g1,g2⟩
  .rw [pe (by omega)] at aP;exact S.ne k a b aP g2
  .rw [pe (by omega)] at aP;rw [SD,show st.length - 1=k by omega,aP] at a6;cases a6;rw [g2];exact eb cj
theorem pD.nO {m h f i:Nat} {st:List Nat} (S:pD m h f i st) {x:Nat} (a6:st.getLast? = some x) (af:i + 1=1->x=h) (ak:i + 1=2->x=f):pD m h f (i + 1) st:=⟨S.Ad,by have:=S.len;omega,S.lt,S.ne,fun z=>by rw [a6,af z],fun z=>by rw [a6,ak z]⟩
def aiL:bM:=fun vs H Q _=>∃ aE,∃ m h f:Nat,vs=[.ref aE,.int h,.int f]/\h < m/\f < m/\aJ H/\∀ p st I,aK H I->aJ I->I p=some (.lst (bB st))->pD m h f 2 st->Q (.ref p) I
theorem adJ:cm P base T 1 t.FX t.Lv zK (abT P w t):=by
 exists T.zM.ok agL,9
 obtain ⟨a,c,n,ds,rows,k,r,rfl,⟨az,le,mo,cI,cG,aS,ch,ms,kvs,aq,_,_,_,M,_⟩,aC,q⟩:=h;have Rx:ms[k]? = some (ms[k]'(by rw [M.ln,aW];exact (b6.mp aC).1)):=a' _;have em:=M.al k _ _ Rx (by rw [df,aC];rfl);refine ⟨_,(a0 (b' (p4 ak4 rfl T.acG acJ (ag (bZ c8 (bw (U 0) rfl) (U 1)) aA)))),?_⟩;nofun;exact ⟨_,Eb T aq,_,rfl,_,ay.of M.at_,_,cp (by rw [df,Rx];rfl),_,rfl,_,.inl (ay.of em),fun l aL=>q l aL⟩
theorem afq:cm P base T 2 t.Gy t.Fs Ie (ajT P w t):=by
 refine cv (adJ T) fun Uo=>cv (SB T) fun qp=>?_;exists T.CB.ok zv,9
 obtain ⟨aE,c,n,ds,rows,cg,i,j,jC,rfl,c3,R,gm,ai,aG,kS,ank,bx,q⟩:=h;have h6:rows[i]? = some rows[i]:=a' ai;have gH:rows[j]? = some rows[j]:=a' aG;obtain ⟨yS,Wc,ql⟩:=sj (R.cI _ (g6 ai));obtain ⟨D7,uM,rZ⟩:=sj (R.cI _ (g6 aG));have JU:=gm.lo i j ai aG kS;refine ⟨_,(db (n5 (i:=4) zv.aI rfl (mb rfl) (bZ c8 (bU Uo ao T.ZB T.zM.bl T.Wm (ag (U 0) (ag (U 1) aA))) aO))
   (db (bT (i:=5) zv.aI (bZ c8 (bU Uo ao T.ZB T.zM.bl T.Wm (ag (U 0) (ag (U 2) aA))) aO))
   (db (Pi (i:=6) zv.aI rfl (oQ rfl) rfl (kN rfl T.j' (ag (bE k' (U 3) aO) aA)) (fO (sc:=bt DW) rfl (by ac_nf)) (N:=["turn","own"]) (sel:=[none,some 4]) (fT (M:=I_) (by ac_nf)) (e3.of (fun _ _ _ _=>(b7 (i:=0) (d3 (N:=["turn","own"]) (by ac_nf) rfl))) (fun _ _ _ _=>⟨_,hn,by walk_at "B"⟩) (fun _ _ _ _=>⟨_,(ld (ag (U 1) aA)),by walk_at "B"⟩)) rfl)
   (db (dS (eF f6 kr kz j9 (U 6) (ag (ld (ag (U 5) aA)) aA)))
   (db (dS (eF f6 qC rK p0 (U 6) (ag (g_ rfl (kN rfl T.j' (ag (bU qp ao T.yf T.tc.bl T.x4 (ag (U 0) (ag (U 1) (ag (U 2) aA)))) aA)) (fO (sc:=bt DW) rfl (by ac_nf)) (N:=["turn"]) (sel:=[none]) (fT (M:=I_) (by ac_nf)) (e3.of (fun _ _ _ _=>(b7 (i:=0) (d3 (N:=["turn"]) (by ac_nf) rfl))) (fun _ _ _ _=>⟨_,hn,by walk_at "B"⟩) (fun _ _ _ _=>⟨_,(ld aA),by walk_at "B"⟩))) aA)))
   (a0 (b' (U 6)))))))),?_⟩
 exists (fun au I=>aK H I/\aJ I/\au=[~~~aE,some (.int i),some (.int j),some (.int jC),some (.str yS),none,none]),3
 .nofun;exact ⟨aE,c,n,ds,rows,i,_,rfl,c3,h6,fun p ar=>⟨p,rfl,_,ay.of aQ,_,by rw [ql];exact cp (j:=0) rfl,bQ _ _ ⟨ba ar,bx.upd,rfl⟩⟩⟩
 rintro fk H1 ⟨s1,cM,rfl⟩;subst aT;exists (fun au I=>aK H1 I/\aJ I/\au=[~~~aE,some (.int i),some (.int j),some (.int jC),some (.str yS),some (.str D7),none]),3
 .nofun;exact ⟨aE,c,n,ds,rows,j,_,rfl,c3.same s1,gH,fun p ar=>⟨p,rfl,_,ay.of aQ,_,by rw [rZ];exact cp (j:=0) rfl,bQ _ _ ⟨ba ar,cM.upd,rfl⟩⟩⟩
 rintro cw av ⟨s2,cU,rfl⟩;have w3:=s1.trans s2;subst aT;exists (fun au I=>aK av I/\aJ I/\∃ ap qs,av ap=none/\hR H I ap qs/\(qs.length:Int)=jC - 1/\au=[~~~aE,some (.int i),some (.int j),some (.int jC),some (.str yS),some (.str D7),~~~ap]),3
 .nofun;refine ⟨by omega,by omega,?_⟩;refine c1.range (fun k ys I=>aK av I/\aJ I/\∃ j5:List Addr,ys=j5.map V.ref/\j5.length=k/\∀ q ∈ j5,av q=none/\∃ zs,I q=some (.lst zs)/\zs.length <= 1) (cL (show _ <= 1000 by omega) (by decide)) ⟨aK.refl _,cU,[],rfl,rfl,fun q h=>by simp at h⟩ ?_ ?_ ?_
  .rintro k ys I aC a_;ac_rfl
   obtain ⟨_,_,j5,rfl,aR,_⟩:=a_;subst aT;rw [aW,aR];exact bP _
  .rintro k ys I aC ⟨bq,dV,j5,rfl,aR,al⟩ N bj;nofun;refine ⟨Sub.name,by decide,fun p ar=>bj _ _ ⟨bq.trans (ba ar),dV.upd,j5 ++ [p],by rw [ed];rfl,by rw [cZ,aR];rfl,fun dB ka=>?_⟩⟩;rcases eR.mp ka with z | z
   .obtain ⟨a,zs,e,l⟩:=al dB z;exact ⟨a,zs,ba ar _ _ e,l⟩
   .rw [eY.mp z];exact ⟨bq.free ar,_,aQ,by simp⟩
  .rintro ys I ⟨bq,dV,j5,rfl,aR,al⟩ ap rO;exact bQ _ _ ⟨bq.trans (ba rO),dV.upd,ap,j5,bq.free rO,hR.put (fun dB ka=>by obtain ⟨a,zs,e,l⟩:=al dB ka;exact ⟨w3.free a,dm e rO,zs,e,l⟩) rfl,by rw [aR];omega,rfl⟩
 rintro fI br ⟨s3,di,ap,qs,rO,oS,Ah,rfl⟩;subst aT;exists (fun au I=>aK av I/\aJ I/\∃ qs,hR H I ap qs/\(qs.length:Int)=jC/\au=[~~~aE,some (.int i),some (.int j),some (.int jC),some (.str yS),some (.str D7),~~~ap]),3
 .nofun;refine ⟨.inl ⟨_,ay.of oS.at_⟩,by decide,fun p ar=>⟨_,ba ar _ _ oS.at_,gD (show _ <= 1000 by rw [aW];omega) (by decide),bQ _ _ ⟨fun b u e=>?_,(di.upd).upd,qs ++ [p],hR.put (fun dB ka=>?_) (by rw [ed];rfl),by rw [cZ];show ((qs.length + 1:Nat):Int)=jC;omega,rfl⟩⟩⟩
  .rw [aM (dm e rO)];exact ba ar _ _ (s3 _ _ e)
  .rcases eR.mp ka with z | z
   .obtain ⟨a,b,zs,e,l⟩:=oS.al dB z;exact ⟨a,b,zs,ba ar _ _ e,l⟩
   .rw [eY.mp z];exact ⟨(w3.trans s3).free ar,fun w=>(by rw [w,oS.at_] at ar;cases ar),_,aQ,bP 1⟩
 rintro jE cJ ⟨s4,dc,jl,hr,wB,rfl⟩;subst aT;exists (fun au I=>aK av I/\aJ I/\∃ qs,hR H I ap qs/\(qs.length:Int)=jC + cg i j/\au=[~~~aE,some (.int i),some (.int j),some (.int jC),some (.str yS),some (.str D7),~~~ap]),3
 .nofun;refine ⟨.inl ⟨_,ay.of hr.at_⟩,aE,c,n,ds,rows,i,j,_,_,rfl,c3.same (w3.trans s4),h6,gH,kS,dc,fun v aF=>?_⟩;have ev:=Jo aF (gm.is i j _ _ h6 gH kS);subst ev;refine ⟨_,rfl,by omega,by omega,?_⟩;refine c1.range (fun k ys I=>aK cJ I/\aJ I/\∃ j5:List Addr,ys=j5.map V.ref/\j5.length=k/\∀ q ∈ j5,cJ q=none/\∃ zs,I q=some (.lst zs)/\zs.length <= 1) (cL (show _ <= 1000 by omega) (by decide)) ⟨aK.refl _,dc,[],rfl,rfl,fun q h=>by simp at h⟩ ?_ ?_ ?_
  .rintro k ys I aC a_;ac_rfl
   obtain ⟨_,_,j5,rfl,aR,_⟩:=a_;subst aT;rw [aW,aR];exact bP _
  .rintro k ys I aC ⟨bq,dV,j5,rfl,aR,al⟩ N bj;nofun;refine ⟨Sub.name,by decide,fun p ar=>bj _ _ ⟨bq.trans (ba ar),dV.upd,j5 ++ [p],by rw [ed];rfl,by rw [cZ,aR];rfl,fun dB ka=>?_⟩⟩;rcases eR.mp ka with z | z
   .obtain ⟨a,zs,e,l⟩:=al dB z;exact ⟨a,zs,ba ar _ _ e,l⟩
   .rw [eY.mp z];exact ⟨bq.free ar,_,aQ,by simp⟩
  .rintro ys I ⟨bq,dV,j5,rfl,aR,al⟩ aev MV;have s5:=bq.trans (ba (o:=.lst (j5.map V.ref)) MV);refine ⟨aev,rfl,_,s5 _ _ hr.at_,_,aQ,cL (show _ <= 3000 by rw [aW,aW,aR];omega) (by decide),bQ _ _ ⟨fun b u e=>?_,(dV.upd).upd,jl ++ j5,hR.put (fun dB ka=>?_) (by rw [ed]),by rw [cZ,aR];omega,rfl⟩⟩
   .rw [aM (dm e rO)];exact s5 _ _ (s4 _ _ e)
   .rcases eR.mp ka with z | z
    .obtain ⟨a,b,zs,e,l⟩:=hr.al dB z;exact ⟨a,b,zs,s5 _ _ e,l⟩
    .obtain ⟨a,zs,e,l⟩:=al dB z;exact ⟨(w3.trans s4).free a,fun w=>(by rw [w,hr.at_] at a;cases a),zs,ba MV _ _ e,l⟩
 rintro qY ck ⟨s5,ei,o6,iy,WM,rfl⟩;subst aT;nofun;exact q ap o6 _ (w3.trans s5) ei iy WM
theorem Xi {m h f:Nat} (b2:h < m) (hf:f < m):∀ {i:Nat} {v:V},[V.int (h:Nat),V.int (f:Nat)][i]? = some v->∃ x:Nat,x < m/\v=.int (x:Nat)/\(i + 1=1->x=h)/\(i + 1=2->x=f)
 | 0,_,aF=>by cases aF;exact ⟨h,b2,rfl,fun _=>rfl,(fun z=>by cases z)⟩
 | 1,_,aF=>by cases aF;exact ⟨f,hf,rfl,(fun z=>by cases z),fun _=>rfl⟩
 | i + 2,_,aF=>by simp at aF
theorem aa3:cm P base T 1 t.Jx t.LI GR aiL:=by
 exists T.G2.ok Ps,9
 obtain ⟨aE,m,h,f,rfl,b2,hf,bx,q⟩:=h;refine ⟨_,(db (bT (i:=3) Ps.aI (ld (ag aO aA)))
   (db (fw fF rfl (e5 (ld (ag (U 1) (ag (U 2) aA)))) (b7 (i:=4) Ps.aI) (a0 (dU (cX pM (U 4) (bZ c8 (U 3) (ov oy aO)) (cA _)) (a0 (dS (eF f6 kr kz j9 (U 3) (ag (U 4) aA)))) eh)))
   (a0 (b' (U 3))))),?_⟩
 exists (fun au I=>aK H I/\aJ I/\∃ sp,H sp=none/\I sp=some (.lst (bB [0]))/\au=[~~~aE,some (.int h),some (.int f),~~~sp,none]),3
 .nofun;exact ⟨by decide,fun sp jN=>bQ _ _ ⟨ba jN,bx.upd,sp,jN,aQ,rfl⟩⟩
 rintro fk H1 ⟨s1,cM,sp,jN,aq,rfl⟩;subst aT;exists (fun au I=>aK H I/\aJ I/\∃ st dv,I sp=some (.lst (bB st))/\pD m h f 2 st/\au=[~~~aE,some (.int h),some (.int f),~~~sp,dv]),3
 .nofun;refine ⟨by decide,fun p ar=>⟨⟨_,ay.of aQ⟩,?_⟩⟩;have s2:aK H1 (upd H1 p (.lst [V.int (h:Nat),V.int (f:Nat)])):=ba ar;have uz:p ≠ sp:=fun z=>by rw [z,aq] at ar;cases ar
  refine dZ.list (xs:=[V.int (h:Nat),V.int (f:Nat)]) (fun i σ I=>aK H I/\aJ I/\I p=some (.lst [V.int (h:Nat),V.int (f:Nat)])/\∃ st dv,I sp=some (.lst (bB st))/\pD m h f i st/\σ=[~~~aE,some (.int h),some (.int f),~~~sp,dv]) ?_ ?_ ?_ ?_
  .refine ⟨s1.trans s2,cM.upd,aQ,[0],_,s2 _ _ aq,⟨by simp,bP _,fun x ah=>?_,(fun k a b aP aa=>by simp at aa),(fun z=>by cases z),(fun z=>by cases z)⟩,rfl⟩;rw [eY.mp ah];omega
  .rintro i σ I ai a_;ac_rfl
   obtain ⟨_,_,e,_⟩:=a_;subst aT;exact ay.of e
  .rintro i v σ I aF a_;ac_rfl
   obtain ⟨s3,di,ct,st,dv,aU,S,rfl⟩:=a_;obtain ⟨x,ah,EW,VH,B3⟩:=Xi b2 hf aF;subst aT;subst EW;obtain ⟨y,a6⟩:∃ y,st.getLast? = some y:=⟨st.getLast S.Ad,List.getLast?_eq_some_getLast S.Ad⟩;have i5:fZ (bB st) (-1)=some (.int (y:Nat)):=vE (by rw [hc];exact o2 (by rw [<- SD];exact a6));have aoA:=S.len;have i6:i < 2:=(b6.mp aF).1;simp only [gL,jJ,jM];by_cases Ec:x=y
   .refine dh false (fun Q aV=>?_) (fun z=>nomatch z) (fun _=>?_)
    .nofun;refine ⟨_,ay.of aU,_,i5,rfl,?_⟩;rw [Ec,decide_eq_true rfl];exact aV
    .simp only [gQ];exact ⟨s3,di,ct,st,_,aU,S.nO (by rw [Ec];exact a6) VH B3,rfl⟩
   .refine dh true (fun Q aV=>?_) (fun _=>?_) (fun z=>nomatch z)
    .nofun;refine ⟨_,ay.of aU,_,i5,rfl,?_⟩;rw [decide_eq_false (fun z=>Ec (by injection z with z;omega))];exact aV
    .nofun;refine ⟨.inl ⟨_,ay.of aU⟩,_,aU,gD (show _ <= 10 by rw [hc];omega) (by decide),fun b u e=>?_,di.upd,by rw [aM uz];exact ct,st ++ [x],by rw [aQ];unfold bB;rw [ed];rfl,S.put a6 ah Ec VH B3,_,rfl⟩;rw [aM (dm e jN)];exact s3 _ _ e
  .rintro σ I a_;ac_rfl
   obtain ⟨s3,di,ct,st,dv,aU,S,rfl⟩:=a_;subst aT;exact bQ _ _ ⟨s3,di,st,dv,aU,S,rfl⟩
 rintro cw av ⟨s2,cU,st,dv,aH,jZ,rfl⟩;subst aT;nofun;exact q sp st _ s2 cU aH jZ
theorem aiU (xs:List V):iM xs (some 2) none=xs.drop 2:=by
 unfold iM;rw [show eM.c7 xs.length xs.length none=xs.length from rfl,show eM.c7 xs.length 0 (some 2)=min 2 xs.length from eM.CU _ _ 2]
 match xs with
 | []=>rfl
 | [x]=>rfl
 | x :: y :: r=>rw [CQ (by simp)];simp
section
variable (P:Program) (w:World)
def NE (t:bK):bM:=fun vs H Q _=>∃ aE c n ds rows cg name cl ch,vs=[.ref aE,.str name,.ref cl]/\fp P w t H aE c n ds rows/\iB ds rows/\qk n ds rows cg/\H cl=some (.lst (bB ch))/\BB rows.length ch/\aJ H /\
 ∀ r a b I,aK H I->aJ I->I r=some (.tup [.ref a,.int b])->Q (.ref r) I
end
theorem xL:cm P base T 3 t.CC t.C1 zU (NE P w t):=by
 refine cv (aa3 T) fun Zb=>cv (afq T) fun VM=>cv (SB T) fun qp=>cv (Ti T) fun Gb=>?_;exists T.KS.ok pE,9
 obtain ⟨aE,c,n,ds,rows,cg,name,cl,ch,rfl,c3,R,gm,gh,co,bx,q⟩:=h;have uj:=co.cK;have Up:=co.K0;obtain ⟨bF,h0⟩:∃ bF,ch[0]? = some bF:=⟨ch[0]'(by omega),a' _⟩;obtain ⟨bh,af⟩:∃ bh,ch[1]? = some bh:=⟨ch[1]'(by omega),a' _⟩;obtain ⟨hm,b2⟩:∃ hm,ch[ch.length - 1]? = some hm:=⟨ch[ch.length - 1]'(by omega),a' _⟩;have yJ:=co.lt bF (b9 h0);have fx:=co.lt bh (b9 af);have TU:=co.lt hm (b9 b2);have DY:=co.ne 0 bF bh h0 af;have JU:=gm.lo bF bh yJ fx DY;have fS:∀ x,x < rows.length->1 <= eA ds rows hm x/\eA ds rows hm x <= 1000:=fun x ah=>by
  have:=R.lo _ (g6 ah);unfold eA;rw [a' ah];simp only [];split <;> omega
 obtain ⟨iw,le,mo,cI,cG,aS,abp,ms,kvs,aq,C,bO,d_,fR,ec,gF,jH,ja⟩:=id c3;refine ⟨_,(db (bT (i:=3) pE.aI (bZ c8 (U 2) (ov oy aO)))
   (db (bT (i:=4) pE.aI (bU Zb ao T.acH T.G2.bl T.ahR (ag (U 0) (ag (U 3) (ag (bZ c8 (U 2) aO) aA)))))
   (db (bT (i:=5) pE.aI (ld aA))
   (db (fw fF rfl (LZ rfl T.Im (ag (U 4) (ag (bE KW (mR tM (U 4) (mH aO) nI) (ld (ag (bZ c8 (U 2) aO) aA))) aA))) (kA (K:=K) (n:=2) rfl rfl (eB (b7 (i:=6) pE.aI) (eB (b7 (i:=7) pE.aI) kC))) (a0 (dS (eF f6 qC rK p0 (U 5) (ag (bU VM ao T.UX T.CB.bl T.Rk (ag (U 0) (ag (U 6) (ag (U 7) (ag (bZ c8 (bw (U 0) rfl) (U 6)) aA))))) aA)))))
   (db (bT (i:=8) pE.aI (bE k' (fP hL rfl T.hz hE (ag (U 5) aA)) (bU qp ao T.yf T.tc.bl T.x4 (ag (U 0) (ag (bZ c8 (U 2) aO) (ag (bZ c8 (U 2) aO) aA))))))
   (db (bT (i:=9) pE.aI (bU Gb ao T.NL T.B'.bl T.QC (ag (U 0) (ag (U 3) aA))))
   (db (fw fF rfl (LZ rfl T.Im (ag (mR tM (U 2) (mH aO) nI) (ag (mR tM (U 2) (mH aO) nI) aA))) (kA (K:=K) (n:=2) rfl rfl (eB (b7 (i:=6) pE.aI) (eB (b7 (i:=7) pE.aI) kC))) (a0 (dS (eF f6 qC rK p0 (U 5) (ag (bU VM ao T.UX T.CB.bl T.Rk (ag (U 0) (ag (U 6) (ag (U 7) (ag (bZ c8 (U 9) (U 6)) aA))))) aA)))))
   (db (dS (eF f6 kr kz j9 (U 5) (ag (ld aA) aA)))
   (db (dS (eF f6 kr kz j9 (bZ c8 (U 5) (U 8)) (ag (U 1) aA)))
   (a0 (b' (p1 (ag (U 5) (ag (U 8) aA)))))))))))))),?_⟩
 exists (fun au I=>I=H/\au=[~~~aE,some (.str name),~~~cl,some (.int hm),none,none,none,none,none,none]),3
 .nofun;exact ⟨_,ay.of gh,_,vE (by rw [hc];exact o2 b2),bQ _ _ ⟨rfl,rfl⟩⟩
 rintro fk H1 ⟨rfl,rfl⟩;subst aT;exists (fun au I=>aK H1 I/\aJ I/\∃ sp st,I sp=some (.lst (bB st))/\pD rows.length hm bF 2 st/\au=[~~~aE,some (.str name),~~~cl,some (.int hm),~~~sp,none,none,none,none,none]),3
 .nofun;exact ⟨_,ay.of gh,_,cp (j:=0) (o2 h0),aE,rows.length,hm,bF,rfl,TU,yJ,bx,fun p st I aj dV bH rt=>bQ _ _ ⟨aj,dV,p,st,bH,rt,rfl⟩⟩
 rintro cw av ⟨s2,cU,sp,st,aU,jZ,rfl⟩;subst aT;exists (fun au I=>aK av I/\aJ I/\∃ fN,av fN=none/\I fN=some (.lst [])/\au=[~~~aE,some (.str name),~~~cl,some (.int hm),~~~sp,~~~fN,none,none,none,none]),3
 .nofun;exact ⟨by decide,fun fN tB=>bQ _ _ ⟨ba tB,cU.upd,fN,tB,aQ,rfl⟩⟩
 rintro fI br ⟨s3,di,fN,tB,uS,rfl⟩;have ao3:=jZ.len;have sE:=jZ.cK rfl;subst aT;exists (fun au I=>aK av I/\aJ I/\∃ qs cC c0,hR H1 I fN qs/\1 + cg bF bh <= (qs.length:Int)/\qs.length <= 6000/\au=[~~~aE,some (.str name),~~~cl,some (.int hm),~~~sp,~~~fN,cC,c0,none,none]),3
 .have anP:1 <= st.length:=BX.mpr jZ.Ad;have ahj:st[st.length - 1]? = some bF:=by rw [<- SD];exact sE
  nofun;refine ⟨_,ay.of (s3 _ _ aU),fun p ar=>?_⟩;rw [Me,show (bB st).drop 1=bB (st.drop 1) by unfold bB;rw [xq]];refine ⟨_,ay.of (ba ar _ _ (s3 _ _ (s2 _ _ gh))),_,cp (j:=1) (o2 af),by decide,fun dO ll=>?_⟩;have cj:p ≠ dO:=fun z=>by rw [<- z,aQ] at ll;cases ll
  refine ⟨_,by rw [aM cj];exact aQ,_,aQ,cL (show _ <= 10 by rw [hc,lB];show _ + 1 <= 10;omega) (by decide),fun dH fV=>?_⟩;have s5:=((ba (o:=.lst (bB (st.drop 1))) ar).trans (ba (o:=.lst [V.int (bh:Nat)]) ll)).trans (ba (o:=.lst (bB (st.drop 1) ++ [V.int (bh:Nat)])) fV);have x':upd (upd (upd br p (.lst (bB (st.drop 1)))) dO (.lst [V.int (bh:Nat)])) dH (.lst (bB (st.drop 1) ++ [V.int (bh:Nat)])) dH=some (.lst (bB (st.drop 1 ++ [bh]))):=by rw [aQ];unfold bB;rw [ed];rfl
  have ei:aJ (upd (upd (upd br p (.lst (bB (st.drop 1)))) dO (.lst [V.int (bh:Nat)])) dH (.lst (bB (st.drop 1) ++ [V.int (bh:Nat)]))):=((di.upd).upd).upd;generalize upd (upd (upd br p (.lst (bB (st.drop 1)))) dO (.lst [V.int (bh:Nat)])) dH (.lst (bB (st.drop 1) ++ [V.int (bh:Nat)]))=ck at s5 x' ei ⊢;have aeN:dH ≠ fN:=fun z=>by
   rw [z,s5 _ _ uS] at x';have vW:([]:List V)=bB (st.drop 1 ++ [bh]):=fX.lst.inj (eE x');unfold bB at vW;rw [ed] at vW;cases hd:n9 (fun j=>V.int ((j:Nat):Int)) (st.drop 1) with
   | nil=>rw [hd] at vW;cases vW
   | cons a b=>rw [hd] at vW;cases vW
  refine ⟨⟨_,ay.of (s5 _ _ (s3 _ _ aU))⟩,⟨_,ay.of x'⟩,?_⟩;have vj:∀ {k a b:Nat},st[k]? = some a->(st.drop 1 ++ [bh])[k]? = some b->a ≠ b/\b < rows.length/\(k + 1=st.length->a=bF/\b=bh):=fun {k a b} aP aa=>by
   have aC:=(b6.mp aP).1;by_cases aoh:k + 1 < st.length
   .rw [pe (by rw [lB];omega),J3,ak8] at aa;exact ⟨jZ.ne k a b aP aa,jZ.lt b (b9 aa),fun z=>absurd z (by omega)⟩
   .have Eo:k=st.length - 1:=by omega
    rw [Eo,ahj] at aP;cases aP;rw [nz (by rw [lB];omega),lB,show k - (st.length - 1)=0 by omega] at aa;cases aa;exact ⟨DY,fx,fun _=>⟨rfl,rfl⟩⟩
  refine dZ.zip (xs:=bB st) (ys:=bB (st.drop 1 ++ [bh])) (fun k σ I=>(∀ b u,b ≠ fN->ck b=some u->I b=some u)/\aK av I/\aJ I/\∃ qs cC c0,hR H1 I fN qs/\(k=st.length->1 + cg bF bh <= (qs.length:Int))/\qs.length <= k * 2000/\σ=[~~~aE,some (.str name),~~~cl,some (.int hm),~~~sp,~~~fN,cC,c0,none,none]) ?_ ?_ st.length (by rw [hc,hc,cZ,lB];show _=min _ (_ + 1);omega) ?_ ?_
  .exact ⟨fun b u _ e=>e,s3.trans s5,ei,[],_,_,⟨s5 _ _ uS,fun q h=>by simp at h⟩,fun z=>absurd z (by omega),fh _,rfl⟩
  .rintro k σ I aC ⟨bl,bq,_⟩;refine ⟨ay.of (bq _ _ aU),ay.of (bl _ _ aeN x')⟩
  .rintro k x y σ I r ah a6 ⟨bl,bq,dV,qs,cC,c0,nR,g',gI,rfl⟩ dY;unfold bB at ah a6;obtain ⟨a,aP,rfl⟩:=b8 ah;obtain ⟨gI,ee,rfl⟩:=b8 a6;obtain ⟨w9,bo,fin⟩:=vj aP ee;have al:=jZ.lt a (b9 aP);have aC:=(b6.mp aP).1;have e1:aK I (upd I r (.tup [.int (a:Nat),.int (gI:Nat)])):=ba dY;have lo:=R.lo _ (g6 al);have qn:=gm.lo a gI al bo w9;have rh:=s2.trans (bq.trans e1);refine tA ?_;simp only [jJ,jM];nofun;refine ⟨.inl ⟨_,ay.of (e1 _ _ nR.at_)⟩,_,JW T (rh _ _ aq),_,rfl,_,ay.of (rh _ _ bO),_,cp (by rw [df,a' al];rfl),aE,c,n,ds,rows,cg,a,gI,_,rfl,c3.same rh,R,gm,al,bo,w9,by omega,dV.upd,fun E0 oO akx sc rl yx lc=>?_⟩;have xR:=nR.same e1;refine ⟨E0,rfl,_,sc _ _ xR.at_,_,yx.at_,cL (show _ <= 100000 by rw [aW,aW];omega) (by decide),fun b u nb e=>?_,fun b u e=>?_,rl.upd,_,xR.ext sc yx rh rfl,fun z=>?_,by rw [cZ];omega,?_⟩
   .rw [aM nb];exact sc _ _ (e1 _ _ (bl _ _ nb e))
   .rw [aM (dm e tB)];exact sc _ _ (e1 _ _ (bq _ _ e))
   .obtain ⟨ie,ams⟩:=fin z;rw [cZ,<- ie,<- ams];omega
   .exact ⟨_,rfl⟩
  .rintro σ I a_;ac_rfl
   obtain ⟨bl,bq,dV,qs,cC,c0,nR,g',gI,rfl⟩:=a_;subst aT;refine bQ _ _ ⟨bq,dV,qs,cC,c0,nR,g' rfl,by omega,rfl⟩
 rintro jE cJ ⟨s4,dc,jl,cC,c0,hr,pX,ki,rfl⟩;have sm:=s2.trans s4;subst aT;exists (fun au I=>I=cJ/\au=[~~~aE,some (.str name),~~~cl,some (.int hm),~~~sp,~~~fN,cC,c0,some (.int ((jl.length:Int) - cg bF bh)),none]),3
 .nofun;refine ⟨_,.inl (ay.of hr.at_),_,ay.of (sm _ _ gh),_,cp (j:=0) (o2 h0),_,ay.of (sm _ _ gh),_,cp (j:=1) (o2 af),aE,c,n,ds,rows,bF,bh,_,_,rfl,c3.same sm,a' yJ,a' fx,DY,dc,fun v aF=>⟨_,rfl,?_⟩⟩;have ev:=Jo aF (gm.is bF bh _ _ (a' yJ) (a' fx) DY);rw [ev,aW];exact bQ _ _ ⟨rfl,rfl⟩
 rintro qY ck ⟨rfl,rfl⟩;subst aT;exists (fun au I=>I=ck/\∃ b,ck b=some (.lst ((eV rows.length).map fun i=>V.int (eA ds rows hm i)))/\au=[~~~aE,some (.str name),~~~cl,some (.int hm),~~~sp,~~~fN,cC,c0,some (.int ((jl.length:Int) - cg bF bh)),~~~b]),3
 .nofun;exact ⟨aE,c,n,ds,rows,hm,rfl,c3.same sm,TU,fun b e=>bQ _ _ ⟨rfl,b,e,rfl⟩⟩
 rintro mQ gg ⟨rfl,b,eS,rfl⟩;subst aT;exists (fun au I=>aK H1 I/\aJ I/\∃ qs cC c0,hR H1 I fN qs/\jl.length <= qs.length/\qs.length <= 100000/\au=[~~~aE,some (.str name),~~~cl,some (.int hm),~~~sp,~~~fN,cC,c0,some (.int ((jl.length:Int) - cg bF bh)),~~~b]),3
 .nofun;refine ⟨_,ay.of (sm _ _ gh),fun p ar=>⟨_,ay.of (ba ar _ _ (sm _ _ gh)),fun dO ll=>?_⟩⟩;rw [Me,aiU,show (bB ch).drop 1=bB (ch.drop 1) by unfold bB;rw [xq],show (bB ch).drop 2=bB (ch.drop 2) by unfold bB;rw [xq]] at *;have cj:p ≠ dO:=fun z=>by rw [<- z,aQ] at ll;cases ll
  have s5:=(ba (o:=.lst (bB (ch.drop 1))) ar).trans (ba (o:=.lst (bB (ch.drop 2))) ll);have ct:upd (upd gg p (.lst (bB (ch.drop 1)))) dO (.lst (bB (ch.drop 2))) p=some (.lst (bB (ch.drop 1))):=by rw [aM cj];exact aQ
  have ER:upd (upd gg p (.lst (bB (ch.drop 1)))) dO (.lst (bB (ch.drop 2))) dO=some (.lst (bB (ch.drop 2))):=aQ;have pr:p ≠ fN:=fun z=>by rw [z,hr.at_] at ar;cases ar
  have WI:dO ≠ fN:=fun z=>by rw [z,aM (eb pr),hr.at_] at ll;cases ll
  have ei:aJ (upd (upd gg p (.lst (bB (ch.drop 1)))) dO (.lst (bB (ch.drop 2)))):=(dc.upd).upd;generalize upd (upd gg p (.lst (bB (ch.drop 1)))) dO (.lst (bB (ch.drop 2)))=fa at s5 ct ER ei ⊢;refine ⟨⟨_,ay.of ct⟩,⟨_,ay.of ER⟩,?_⟩;refine dZ.zip (xs:=bB (ch.drop 1)) (ys:=bB (ch.drop 2)) (fun k σ I=>(∀ b u,b ≠ fN->fa b=some u->I b=some u)/\aK H1 I/\aJ I/\∃ qs cC c0,hR H1 I fN qs/\jl.length <= qs.length/\qs.length <= 6000 + k * 2000/\σ=[~~~aE,some (.str name),~~~cl,some (.int hm),~~~sp,~~~fN,cC,c0,some (.int ((jl.length:Int) - cg bF bh)),~~~b]) ?_ ?_ (ch.length - 2) (by rw [hc,hc,lB,lB];omega) ?_ ?_
  .exact ⟨fun b u _ e=>e,sm.trans s5,ei,jl,_,_,hr.same s5,bP _,by omega,rfl⟩
  .rintro k σ I aC ⟨bl,bq,_⟩;exact ⟨ay.of (bl _ _ pr ct),ay.of (bl _ _ WI ER)⟩
  .rintro k x y σ I r ah a6 ⟨bl,bq,dV,qs,cC,c0,nR,g',gI,rfl⟩ dY;unfold bB at ah a6;obtain ⟨a,aP,rfl⟩:=b8 ah;obtain ⟨gI,ee,rfl⟩:=b8 a6;rw [J3] at aP ee;have w9:=co.ne (1 + k) a gI aP (by rw [show 1 + k + 1=2 + k by omega];exact ee);have al:=co.lt a (b9 aP);have bo:=co.lt gI (b9 ee);have e1:aK I (upd I r (.tup [.int (a:Nat),.int (gI:Nat)])):=ba dY;have lo:=fS a al;have qn:=gm.lo a gI al bo w9;have rh:=bq.trans e1;have oA:2 + k < ch.length:=(b6.mp ee).1;have agd:upd I r (.tup [.int (a:Nat),.int (gI:Nat)]) b=some (.lst ((eV rows.length).map fun i=>V.int (eA ds rows hm i))):=e1 _ _ (bl _ _ (fun z=>by
    rw [z,hr.at_] at eS;have KR:jl.map V.ref=(eV rows.length).map fun i=>V.int (eA ds rows hm i):=fX.lst.inj (eE eS)
    obtain ⟨kZ,jo,eq⟩:∃ kZ jo,jl=kZ :: jo:=by
     cases jl with
     | nil=>exact absurd pX (show ¬ (1 + cg bF bh <= ((0:Nat):Int)) by omega)
     | cons kZ jo=>exact ⟨kZ,jo,rfl⟩
    have eK:=congrArg (fun l=>l[0]?) KR;rw [eq,df,df,BE (show 0 < rows.length by omega)] at eK;cases eK) (s5 _ _ eS))
   refine tA ?_;simp only [jJ,jM];nofun;refine ⟨.inl ⟨_,ay.of (e1 _ _ nR.at_)⟩,_,ay.of agd,_,cp (by rw [df,BE al];rfl),aE,c,n,ds,rows,cg,a,gI,_,rfl,c3.same rh,R,gm,al,bo,w9,by omega,dV.upd,fun E0 oO akx sc rl yx lc=>?_⟩;have xR:=nR.same e1;refine ⟨E0,rfl,_,sc _ _ xR.at_,_,yx.at_,cL (show _ <= 200000 by rw [aW,aW];omega) (by decide),fun b u nb e=>?_,fun b u e=>?_,rl.upd,_,xR.ext sc yx rh rfl,by rw [cZ];omega,by rw [cZ];omega,?_⟩
   .rw [aM nb];exact sc _ _ (e1 _ _ (bl _ _ nb e))
   .rw [aM (dm e (s2.free tB))];exact sc _ _ (rh _ _ e)
   .exact ⟨_,rfl⟩
  .rintro σ I a_;ac_rfl
   obtain ⟨bl,bq,dV,qs,cC,c0,nR,g',gI,rfl⟩:=a_;subst aT;exact bQ _ _ ⟨bq,dV,qs,cC,c0,nR,g',by omega,rfl⟩
 rintro kO fa ⟨h4,hK,nx,q5,vd,jD,rQ,uk,rfl⟩;subst aT;exists (fun au I=>aK H1 I/\aJ I/\∃ qs,hR H1 I fN qs/\jl.length < qs.length/\au=[~~~aE,some (.str name),~~~cl,some (.int hm),~~~sp,~~~fN,q5,vd,some (.int ((jl.length:Int) - cg bF bh)),~~~b]),3
 .nofun;refine ⟨.inl ⟨_,ay.of jD.at_⟩,fh _,fun p ar=>⟨_,ba ar _ _ jD.at_,gD (show _ <= 100000 by rw [aW];omega) (by decide),bQ _ _ ⟨fun b u e=>?_,(hK.upd).upd,nx ++ [p],hR.put (fun dB ka=>?_) (by rw [ed];rfl),by rw [cZ];show _ < nx.length + 1;omega,rfl⟩⟩⟩
  .rw [aM (dm e (s2.free tB))];exact ba ar _ _ (h4 _ _ e)
  .rcases eR.mp ka with z | z
   .obtain ⟨a,b,zs,e,l⟩:=jD.al dB z;exact ⟨a,b,zs,ba ar _ _ e,l⟩
   .rw [eY.mp z];exact ⟨h4.free ar,fun w=>(by rw [w,jD.at_] at ar;cases ar),_,aQ,by decide⟩
 rintro sM iC ⟨hH,nP,Aq,lH,rv,rfl⟩;subst aT;exists (fun au I=>aK H1 I/\aJ I/\au=[~~~aE,some (.str name),~~~cl,some (.int hm),~~~sp,~~~fN,q5,vd,some (.int ((jl.length:Int) - cg bF bh)),~~~b]),3
 .nofun;obtain ⟨vf,U_⟩:∃ vf:Nat,(jl.length:Int) - cg bF bh=(vf:Int):=⟨((jl.length:Int) - cg bF bh).toNat,by omega⟩;have QG:vf < Aq.length:=by omega
  have Zd:Aq[vf]? = some Aq[vf]:=a' QG;obtain ⟨rV,_,ys,Vn,Jq⟩:=lH.al _ (g6 QG);rw [U_];refine ⟨_,ay.of lH.at_,V.ref Aq[vf],cp (by rw [df,Zd];rfl),oQ ⟨_,ay.of Vn⟩,_,rfl,_,Vn,gD Jq (by decide),?_⟩;rw [<- U_];refine bQ _ _ ⟨fun b u e=>?_,nP.upd,rfl⟩;rw [aM (dm e rV)];exact hH _ _ e
 rintro agD VC ⟨X6,x8,rfl⟩;subst aT;nofun;exact ⟨by decide,fun r ao=>q r fN _ _ (X6.trans (ba ao)) x8.upd aQ⟩
theorem L5 (k:S.Ok):∀ {ext:List Nat} {p:Nat} {sp:Int},i7 S p sp ext->-1 <= sp->(S.own p=true->sp=S.eD p)->ext.length <= mB S p sp/\(∀ x ∈ ext,x < S.m)/\(∀ (i a b:Nat),(p :: ext)[i]? = some a->(p :: ext)[i + 1]? = some b->a ≠ b)/\(p :: ext).getLast? = some S.h
 | [],p,sp,h,_,_=>⟨fh _,(fun x h=>by simp at h),(fun i a b af ak=>by simp at ak),by rw [show p=S.h from h];rfl⟩
 | x :: r,p,sp,h,ax,aS=>by
  obtain ⟨af,ah,⟨a1,a2,ef⟩ | ⟨a1,a2,ef⟩⟩:=h
  .obtain ⟨fx,fA,iE,ki⟩:=L5 k ef (by have:=(ph k x).1;omega) (fun _=>rfl);have hw:=N4 k (p:=p) a2;refine ⟨by rw [gy];omega,fun y a6=>(en.mp a6).elim (fun e=>by rw [e];exact ah) (fA y),fun i a b aP aa=>?_,by rw [QP];exact ki⟩;cases i with
   | zero=>
    cases aP;cases aa;intro e;subst e;rw [aS a1] at a2;omega
   | succ i=>exact iE i a b aP aa
  .obtain ⟨fx,fA,iE,ki⟩:=L5 k ef ax (fun z=>by rw [a2] at z;cases z);have hw:=Nk (sp:=sp) a1 a2;refine ⟨by rw [gy];omega,fun y a6=>(en.mp a6).elim (fun e=>by rw [e];exact ah) (fA y),fun i a b aP aa=>?_,by rw [QP];exact ki⟩;cases i with
   | zero=>
    cases aP;cases aa;intro e;subst e;rw [a1] at a2;cases a2
   | succ i=>exact iE i a b aP aa
theorem M1 (k:S.Ok) (f s:Nat):-1 <= iK S f s:=by
 unfold iK;have:=(ph k s).1;have:=(ph k f).1;split
 .omega
 .split <;> omega
theorem acT (k:S.Ok) {p:Nat} (h:-1 <= sp):mB S p sp <= 15:=by
 have:=k.rM;unfold mB;split <;> omega
theorem O9 (k:S.Ok) (h:x5 S b5) (a6:ys ∈ b5):BB S.m ys/\ys.getLast? = some S.h:=by
 obtain ⟨f,s,ext,rfl,af,ak,a5,bN⟩:=(h ys).mp a6;obtain ⟨fx,fA,iE,ki⟩:=L5 k bN (M1 k f s) (fun z=>by unfold iK;rw [if_pos z]);have:=acT k (p:=s) (M1 k f s);refine ⟨⟨by simp,by rw [gy,gy];omega,fun x ah=>?_,fun i a b aP aa=>?_⟩,by rw [QP];exact ki⟩
 .rcases en.mp ah with e | e
  .rw [e];exact af
  .rcases en.mp e with e | e
   .rw [e];exact ak
   .exact fA x e
 .cases i with
  | zero=>cases aP;cases aa;exact a5
  | succ i=>exact iE i a b aP aa
theorem aj8 (k:S.Ok) (h:x5 S b5) (ak:S.m ≠ 1):b5 ≠ []:=fun z=>by
 have hm:=k.hm;have:[if S.h=0 then 1 else 0,S.h] ∈ b5:=(h _).mpr ⟨_,S.h,[],rfl,by split <;> omega,hm,by split <;> omega,rfl⟩;rw [z] at this;cases this
def P4 (S:fs) (cg:Nat->Nat->Int) (st:Nat->Int) (z:Int):Prop:=(S.m=1/\z=0)\/(S.m ≠ 1/\∃ b5 ch,x5 S b5/\ch ∈ b5/\z=ih cg st ch/\∀ ys ∈ b5,ih cg st ys <= z)
noncomputable def Tr:Expr:=match ro Fz with
 | [_,_,_,.Assign _ (.Call _ _ [⟨_,e,_⟩] _) _,_,_]=>e
 | _=>.Constant .none 0 ⟨0,0,0,0⟩
noncomputable abbrev aa8:Str:=ae "worst" ++ ae ".<locals>." ++ ae "<lambda>"
theorem KM:vn "each" "stages" "home" (Ss Tr):=⟨rfl,rfl,rfl,by ac_nf,rfl,rfl,rfl,by ac_nf,by ac_nf⟩
noncomputable abbrev GX (bL:Addr) (H:aw):Prop:=Tab H bL (OS Tr) aa8
section
variable (P:Program) (w:World)
def KF (t:bK) (bL:Addr):bM:=fun vs H Q _=>∃ aE c n ds rows cg,∃ h i:Nat,∃ d,vs=[.ref aE,.str d.name]/\fp P w t H aE c n ds rows/\iB ds rows/\qk n ds rows cg/\ds[i]? = some d/\dn (gC (rows.map (·.mem))) (cy d.name)=some (.int (h:Nat))/\h < rows.length/\GX bL H/\aJ H /\
 ∀ r z a b I,Do bL H I->aJ I->I r=some (.tup [.int z,a,b])->P4 (d0 ds rows h) cg (eA ds rows h) z->Q (.ref r) I
end
theorem afS (dg:mf base t.xv bL) (hB:base.BuiltinsAt mg bL):cm P base T 20 t.zo t.xX A4 (KF P w t bL):=by
 have GS:=T.ak9;have jO:cD P w K mg base dk 19 t.vV t.xt jU (Fb t):=(se T).mono (by decide);have acx:cD P w K mg base dk 19 t.D2 t.z3 ko (Vp P w t):=amh T;have ZD:cD P w K mg base dk 19 t.CC t.C1 zU (NE P w t):=(xL T).mono (by decide);have aaH:cD P w K mg base dk 19 t.ye t.xb yn (HG P w t):=(Mx T).mono (by decide);have aef:cD P w K mg base dk 17 t.ye t.xb yn (HG P w t):=(Mx T).mono (by decide);refine T.Kw.U7 xr (fun vs H Q E h=>?_) (fun fl jh A outer s H vs Q E ao h=>?_)
 .obtain ⟨aE,c,n,ds,rows,cg,h,i,d,rfl,_⟩:=h;rfl
 obtain ⟨aE,c,n,ds,rows,cg,h,i,d,rfl,c3,R,gm,hd,aF,b2,bG,bx,q⟩:=h;have bY:=iN ao;refine ⟨_,(db (dS (fg (bw (U 0) rfl) T.h5 T.ow jO ao T.n4 .nil c2 (ag (U 1) aA)))
   (db (dU (cX et (bw (U 0) rfl) aO (cA _)) (a0 (b' (p1 (ag aO (ag (ld (ag (ld (ag (U 1) aA)) aA)) (ag aO aA)))))) eh)
   (db (n5 (i:=2) xr.aI rfl (mb rfl) (oZ bY (bw (U 0) rfl) (U 1) (fun _ _=>rfl)))
   (db (bT (i:=3) xr.aI (ZI (pr := "each") (y := "stages") (z := "home") (i1:=0) (i2:=2) rfl rfl T.AZ (ag (bU acx ao T.aeP T.F_.bl T.aci (ag (U 0) (ag (U 2) aA))) aA) ⟨jh.symm.trans GS,dg,hB⟩ ao KM rfl rfl rfl rfl rfl rfl rfl rfl (fun _ _ _ _=>rfl) (fun _ _ _ _=>⟨_,(PK aef (eO.deeper ao.in1 _) rfl T.OQ T.zI.bl T.Qm .nil c2 (ag (U 1) (ag (U 2) (ag (U 0) aA)))),by first | rfl | (dsimp only [pW];done) | (dsimp only [pW];exact rfl)⟩)))
   (db (QN (bU ZD ao T.agS T.KS.bl T.alf (ag (U 0) (ag (U 1) (ag (U 3) aA)))) (kA (K:=K) (n:=2) rfl rfl (eB (b7 (i:=4) xr.aI) (eB (b7 (i:=5) xr.aI) kC))))
   (a0 (b' (p1 (ag (bU aaH ao T.OQ T.zI.bl T.Qm (ag (U 0) (ag (U 2) (ag (U 3) aA)))) (ag (U 4) (ag (U 5) aA))))))))))),?_⟩
 obtain ⟨iw,le,mo,cI,cG,aS,abp,ms,kvs,aq,C,bO,d_,fR,ec,gF,jH,ja⟩:=id c3;obtain ⟨_,Ik,anW,anh,uC,ana,aog⟩:=id C;have kj:=R.kj;have k:=R.ok b2;have hm:(d0 ds rows h).m=rows.length:=rfl;simp only [dG];exists (fun au I=>I=H/\au=[~~~aE,some (.str d.name),none,none,none,none]),0
 .nofun;exact ⟨_,zV T aq,_,rfl,_,_,uC,kT _ _ _ (by ac_nf),c,n,ds,i,d,rfl,C,hd,fun a _=>bQ _ _ ⟨rfl,rfl⟩⟩
 rintro fk H1 ⟨rfl,rfl⟩;subst aT;simp only [dG];by_cases bh:rows.length=1
 .refine dh true (fun Q aV=>?_) (fun _=>?_) (fun z=>nomatch z)
  .nofun;refine ⟨_,px T aq,rfl,?_⟩;rw [bh];exact aV
  .nofun;exact ⟨by decide,fun p ar=>⟨by decide,fun dO ll=>⟨by decide,fun dH fV=>q dH 0 _ _ _ (aK.p ((ba ar).trans ((ba ll).trans (ba fV)))) bx.upd.upd.upd aQ (.inl ⟨bh,rfl⟩)⟩⟩⟩
 refine dh false (fun Q aV=>?_) (fun z=>nomatch z) (fun _=>?_)
 .nofun;refine ⟨_,px T aq,rfl,?_⟩;rw [decide_eq_false (fun z=>bh (by injection z with z;omega))];exact aV
 simp only [gQ,dG];exists (fun au I=>I=H1/\au=[~~~aE,some (.str d.name),some (.int h),none,none,none]),0
 .have a8:=ij.k (k:=cy d.name) gF;rw [aF] at a8;nofun;exact ⟨_,xp T aq,_,rfl,_,a8,bQ _ _ ⟨rfl,rfl⟩⟩
 rintro cw av ⟨rfl,rfl⟩;subst aT;simp only [dG];exists (fun au I=>Do bL av I/\aJ I/\∃ cl ch b5,I cl=some (.lst (bB ch))/\x5 (d0 ds rows h) b5/\ch ∈ b5/\(∀ ys ∈ b5,ih cg (eA ds rows h) ys <= ih cg (eA ds rows h) ch)/\au=[~~~aE,some (.str d.name),some (.int h),~~~cl,none,none]),0
 ·(nofun; repeat (dsimp only [T_];nofun));refine ⟨aE,c,n,ds,rows,h,rfl,c3,R,b2,bx,fun r qs b5 I aj dV L pj=>?_⟩;have aew:=aj8 k pj bh;have at_:∀ {i:Nat} {dB:Addr},qs[i]? = some dB->∃ xs,b5[i]? = some xs/\xs ∈ b5/\I dB=some (.lst (bB xs))/\b5.getD i []=xs:=fun {i dB} aR=>by
   have ai:i < b5.length:=by rw [<- L.ln];exact (b6.mp aR).1
   have ah:b5[i]? = some b5[i]:=a' ai;exact ⟨_,ah,b9 ah,L.al i dB _ aR ah,by rw [jQ,ah];rfl⟩
  refine ⟨r,rfl,qs.map V.ref,ay.of L.at_,fun z=>aew (List.eq_nil_of_length_eq_zero (by rw [<- L.ln];exact List.length_eq_zero_iff.mpr (MT.mp z))),bG.step aj,fun i=>ih cg (eA ds rows h) (b5.getD i []),fun br sp q0 Qi=>?_⟩;have mV:hD I br:=zr (bG.step aj) sp;have afj:Do bL av br:=(aK.p aj).trans sp;have Xv:hD av br:=(ahT aj).trans mV;refine ⟨fun i x ah=>?_,fun i m mN ah'=>?_⟩
  .obtain ⟨dB,aR,rfl⟩:=b8 ah;obtain ⟨xs,af,ak,a5,bN⟩:=at_ aR;exact ⟨aE,c,n,ds,rows,cg,dB,xs,h,rfl,c3.ni Xv,R,gm,b2,mV.lst a5,(O9 k pj ak).1,q0 dV,(by show V.int _=V.int (ih cg (eA ds rows h) (b5.getD i []));rw [bN]),rfl⟩
  .obtain ⟨dB,aR,rfl⟩:=b8 mN;obtain ⟨xs,af,ak,a5,bN⟩:=at_ aR;refine bQ _ _ ⟨afj,q0 dV,dB,xs,b5,mV.lst a5,pj,ak,fun ys a6=>?_,rfl⟩;obtain ⟨j,aG⟩:=hU a6;have gv:j < qs.length:=by rw [L.ln];exact (b6.mp aG).1
   have:=ah' j (.ref qs[j]) (by rw [df,a' gv];rfl);have this:ih cg (eA ds rows h) (b5.getD j []) <= ih cg (eA ds rows h) (b5.getD i []):=this;rw [bN,jQ,aG] at this;exact this
 rintro fI br ⟨s3,di,cl,ch,b5,Va,pj,gT,rf,rfl⟩;obtain ⟨co,_⟩:=O9 k pj gT;have OX:=c3.ni (zr bG s3);subst aT;simp only [dG];exists (fun au I=>aK br I/\aJ I/\∃ a b,au=[~~~aE,some (.str d.name),some (.int h),~~~cl,some a,some b]),0
 .nofun;exact ⟨aE,c,n,ds,rows,cg,d.name,cl,ch,rfl,OX,R,gm,Va,co,di,fun r a b I aj dV bH=>⟨r,rfl,_,dR.of bH,rfl,_,_,rfl,_,_,rfl,rfl,bQ _ _ ⟨aj,dV,_,_,rfl⟩⟩⟩
 rintro jE cJ ⟨s4,dc,a,b,rfl⟩;subst aT;nofun;refine ⟨aE,c,n,ds,rows,cg,cl,ch,h,rfl,OX.same s4,R,gm,b2,s4 _ _ Va,co,dc,by decide,fun r ao=>q r _ a b _ (s3.trans (aK.p (s4.trans (ba ao)))) dc.upd aQ (.inr ⟨bh,b5,ch,pj,gT,rfl,rf⟩)⟩
noncomputable def fy (ds:List bc) (rows:List ST) (s:ff) (j:Nat):Int:=if b_ ds rows j=dd then s.pt else s.po
theorem Qt {rows:List ST} (R:nK ds rows) (cR:∀ x ∈ s.wt,told rows x=true) (ai:i < rows.length) (aG:j ∈ kL rows s) (tH:-1 <= fy ds rows s j) (w8:fy ds rows s j < rows.length) (P:DB ds rows s i g) (a8:g ≠ j) :
  (b_ ds rows g=b_ ds rows j->nc (fy ds rows s j) rows.length g < nc (fy ds rows s j) rows.length j)/\(b_ ds rows g ≠ b_ ds rows j->b_ ds rows i=b_ ds rows j):=by
 have cG:∀ {k:Nat},k < rows.length->b_ ds rows k=dd\/b_ ds rows k=h3:=fun {k} aC=>by
  unfold b_;rw [a' aC];exact R.cG _ (g6 aC)
 have gv:=xz cR j aG;obtain ⟨pH,ai0⟩:=P;have gU:=CH (ds:=ds) (i:=i) cR g pH;have D5:∀ {k:Nat},k ∈ mn ds rows s i->b_ ds rows k ≠ b_ ds rows i:=fun {k} aC=>by
  have:=(jc.mp aC).2;simpa using this
 have ui:dd ≠ h3:=by ac_nf
 have VN:∀ {a b c:Nat},a < rows.length->b < rows.length->c < rows.length->b_ ds rows a ≠ b_ ds rows c->b_ ds rows b ≠ b_ ds rows c->b_ ds rows a=b_ ds rows b:=fun {a b c} aP aa aB af ak=>by
  rcases cG aP with aq | aq <;> rcases cG aa with aH | aH <;> rcases cG aB with bO | bO <;> simp_all
 refine ⟨fun ax=>?_,fun ax=>?_⟩
 .have sf:j ∈ hv ds rows s i:=by
   unfold hv at pH ⊢;by_cases c:(mn ds rows s i).isEmpty=true
   .rw [if_pos c];exact aG
   .rw [if_neg c] at pH ⊢;exact jc.mpr ⟨aG,by have:=D5 pH;rw [ax] at this;simpa using this⟩
  have oo:∀ k ∈ hv ds rows s i,b_ ds rows k=b_ ds rows j:=fun k aC=>by
   have oA:=CH (ds:=ds) (i:=i) cR k aC;unfold hv at aC sf;by_cases c:(mn ds rows s i).isEmpty=true
   .rw [if_pos c] at aC sf;have ai_:mn ds rows s i=[]:=N_.mp c;have N':∀ q ∈ kL rows s,b_ ds rows q=b_ ds rows i:=fun q aR=>by
     by_cases z:b_ ds rows q=b_ ds rows i
     .exact z
     .have:q ∈ mn ds rows s i:=jc.mpr ⟨aR,by simpa using z⟩;rw [ai_] at this;cases this
    rw [N' k aC,N' j sf]
   .rw [if_neg c] at aC sf;exact VN oA gv ai (D5 aC) (D5 sf)
  have sE:rI ds rows s (hv ds rows s i)=fy ds rows s j:=by
   unfold rI fy;cases aB:hv ds rows s i with
   | nil=>rw [aB] at sf;cases sf
   | cons q r=>rw [show (q :: r).headD 0=q from rfl,oo q (by rw [aB];exact .head _)]
  have hle:=ai0 j sf;rw [sE] at hle;rcases Int.lt_or_eq_of_le hle with h | h
  .exact h
  .exact absurd (X5 tH w8 gU gv h) a8
 .by_cases z:b_ ds rows i=b_ ds rows j
  .exact z
  .have Q0:j ∈ mn ds rows s i:=jc.mpr ⟨aG,by simpa using fun e=>z e.symm⟩;have cj:¬ (mn ds rows s i).isEmpty=true:=fun e=>by rw [N_.mp e] at Q0;cases Q0
   unfold hv at pH;rw [if_neg cj] at pH;exact absurd (VN gU gv ai (D5 pH) (fun e=>z e.symm)) ax
def Dz (S:fs) (ys:List Nat):Prop:=∃ f s ext,ys=f :: s :: ext/\f < S.m/\s < S.m/\f ≠ s/\i7 S s (iK S f s) ext
noncomputable def pV (S:fs) (last:Int):Int:=if 0 <= last/\last ≠ S.h then S.eD last.toNat else -1
theorem Uj (k:S.Ok) (last:Int):-1 <= pV S last:=by
 unfold pV;have:=(ph k last.toNat).1;split <;> omega
theorem NN (k:S.Ok) {last:Int} (h:last < S.m):pV S last < (S.m:Int) - 1:=by
 have hm:=k.hm;unfold pV;split
 .rename_i c;have af:=(ph k last.toNat).2;have ak:=Mk k;have a5:S.eD last.toNat ≠ (S.m:Int) - 1:=fun e=>by
   have:=XD k (show last.toNat < S.m by omega) hm (by rw [e,ak]);omega
  omega
 .omega
theorem Mr {m a b:Int} (aP:0 <= a) (PS:a < m) (aa:0 <= b) (jL:b < m):(a - b - 1) % m=if b < a then a - b - 1 else a - b - 1 + m:=by
 split
 .exact m' (by omega) (by omega)
 .rw [show a - b - 1=(a - b - 1 + m) + m * (-1) by omega,Bx,m' (by omega) (by omega)];omega
structure nV (n:Int) (ds:List bc) (rows:List ST) (s:ff):Prop where
 t0:-1 <= s.pt/\s.pt < rows.length
 o0:-1 <= s.po/\s.po < rows.length
 bI:∀ i,s.bI=some i->fy ds rows s i=i/\1 <= s.cO
 ch:s.bI=none->fy ds rows s s.bp=s.bp/\(b_ ds rows s.lf ≠ b_ ds rows s.bp->fy ds rows s s.lf=s.lf)/\0 <= s.c_/\s.c_ < gG n ds rows s.lf s.bp
theorem nV.last {rows:List ST} (h:nV n ds rows s) (j:Nat):-1 <= fy ds rows s j/\fy ds rows s j < rows.length:=by
 unfold fy;split
 .exact h.t0
 .exact h.o0
theorem OE {rows:List ST} (W:iB ds rows) (a8:rows[g]? = some k1) (aG:j < rows.length):fy ds rows (p5 s i g (c6 ds k1)) j=if b_ ds rows j=b_ ds rows g then (g:Int) else fy ds rows s j:=by
 have gU:=(b6.mp a8).1;have e:b_ ds rows g=c6 ds k1:=by unfold b_;rw [a8];rfl
 have ui:dd ≠ h3:=by ac_nf
 unfold fy p5;show (if b_ ds rows j=dd then (if c6 ds k1=dd then (g:Int) else s.pt) else (if c6 ds k1=dd then s.po else (g:Int)))=_;rw [<- e];rcases W.two gU with a | a <;> rcases W.two aG with b | b <;> rw [a,b] <;> simp [ui,ui.symm]
theorem RJ {n:Int} {ds:List bc} {rows:List ST} {s:ff} {m:List Str} (ax:s.bI=none) (t0:-1 <= s.pt/\s.pt < rows.length) (o0:-1 <= s.po/\s.po < rows.length) (af:fy ds rows s s.bp=s.bp) (ak:b_ ds rows s.lf ≠ b_ ds rows s.bp->fy ds rows s s.lf=s.lf) (a5:0 <= s.c_):nV n ds rows (m1 n ds rows s m):=by
 unfold m1;split
 .rename_i c;exact ⟨t0,o0,fun i h=>(by rw [ax] at h;cases h),fun _=>⟨af,ak,a5,c⟩⟩
 .exact ⟨t0,o0,fun i h=>(by cases h;exact ⟨af,rr 1⟩),fun h=>by cases h⟩
theorem aaa {n:Int} {ds:List bc} {rows:List ST} {s aj:ff} {own:Bool} (W:iB ds rows) (R:nK ds rows) (k:jA ds rows s) (L:nV n ds rows s) (h:vP n ds rows s own aj):nV n ds rows aj:=by
 rcases h with ⟨ax,r,ao,rfl⟩ | ⟨i,r,ax,ao,fS,rfl⟩ | ⟨i,r,g,k1,ax,ao,fS,P,a8,rfl⟩
 .obtain ⟨a,b,c,d⟩:=L.ch ax;exact RJ (s:={ s with c_:=s.c_ + 1 }) ax L.t0 L.o0 a b (show 0 <= s.c_ + 1 by omega)
 .exact ⟨L.t0,L.o0,fun i h=>⟨(L.bI i h).1,by have:=(L.bI i h).2;show 1 <= s.cO + 1;omega⟩,fun h=>by have h:s.bI=none:=h;rw [ax] at h;cases h⟩
 .have ai:=(k.bI i ax).1;have gU:=(b6.mp a8).1;have cz:∀ {j:Nat},j < rows.length->_:=fun {j} aG=>OE (s:=s) (i:=i) (j:=j) W a8 aG
  refine RJ (s:=p5 s i g (c6 ds k1)) rfl ?_ ?_ (by show fy _ _ (p5 s i g (c6 ds k1)) g=(g:Int);rw [cz gU,if_pos rfl]) (fun b2=>?_) (rr 0)
  .show -1 <= (if c6 ds k1=dd then (g:Int) else s.pt)/\(if c6 ds k1=dd then (g:Int) else s.pt) < rows.length;split
   .omega
   .exact L.t0
  .show -1 <= (if c6 ds k1=dd then s.po else (g:Int))/\(if c6 ds k1=dd then s.po else (g:Int)) < rows.length;split
   .exact L.o0
   .omega
  .show fy _ _ (p5 s i g (c6 ds k1)) i=(i:Int);have b2:b_ ds rows i ≠ b_ ds rows g:=b2;rw [cz ai,if_neg b2,(L.bI i ax).1]
theorem Pl (cg:Nat->Nat->Int) (p g:Nat):∀ ys:List Nat,(jG cg (ys ++ [p,g])).sum=(jG cg (ys ++ [p])).sum + cg p g
 | []=>by simp [jG]
 | [y]=>by simp [jG]
 | y :: z :: ys=>by
  have cS:=Pl cg p g (z :: ys);show (cg y z :: jG cg (z :: (ys ++ [p,g]))).sum=(cg y z :: jG cg (z :: (ys ++ [p]))).sum + _;rw [yk,yk];have cS:(jG cg (z :: (ys ++ [p,g]))).sum=(jG cg (z :: (ys ++ [p]))).sum + cg p g:=cS;omega
theorem QA {st:Nat->Int} {pre:List Nat} {p g:Nat} (h:pre.getLast? = some p) (ak:2 <= pre.length):ih cg st (pre ++ [g])=ih cg st pre + cg p g + st p:=by
 obtain ⟨ys,rfl⟩:=List.getLast?_eq_some_iff.mp h;rw [cZ,pa] at ak;obtain ⟨f,zs,rfl⟩:∃ f zs,ys=f :: zs:=by
  cases ys with
  | nil=>simp at ak
  | cons f zs=>exact ⟨f,zs,rfl⟩
 have aq:lJ (f :: zs ++ [p])=zs:=by
  unfold lJ;show (zs ++ [p]).take ((f :: (zs ++ [p])).length - 2)=zs;rw [gy,cZ,pa,show zs.length + 1 + 1 - 2=zs.length by omega];exact akT
 have aH:lJ (f :: zs ++ [p] ++ [g])=zs ++ [p]:=by
  unfold lJ;show (zs ++ [p] ++ [g]).take ((f :: (zs ++ [p] ++ [g])).length - 2)=zs ++ [p];rw [gy,cZ,pa,show (zs ++ [p]).length + 1 + 1 - 2=(zs ++ [p]).length by omega];exact akT
 unfold ih;rw [aq,aH,l7,show [p] ++ [g]=[p,g] from rfl,Pl,ed,amE];simp only [e8,pv,yk,ajH];omega
theorem Bp {rows:List ST} (R:iB ds rows) {h x:Nat} (ah:x < rows.length):1 <= eA ds rows h x:=by
 have:=R.lo _ (g6 ah);unfold eA;rw [a' ah];simp only [];split <;> omega
structure oc (n:Int) (ds:List bc) (rows:List ST) (h:Nat) (s:ff) (pre:List Nat) (p:Nat) (sp e:Int):Prop where
 ok:∀ ext,i7 (d0 ds rows h) p sp ext->Dz (d0 ds rows h) (pre ++ ext)
 cO:pre.getLast? = some p
 cK:2 <= pre.length
 pm:p < rows.length
 sk:p ≠ h->sp <= pV (d0 ds rows h) (fy ds rows s h)
 bI:∀ i,s.bI=some i->i=p/\p ≠ h/\e + 1 <= ih (gG n ds rows) (eA ds rows h) pre + eA ds rows h p/\e + 1 <= ih (gG n ds rows) (eA ds rows h) pre + s.cO
 ch:s.bI=none->s.bp=p/\e + (gG n ds rows s.lf s.bp - s.c_) <= ih (gG n ds rows) (eA ds rows h) pre
section
variable {n:Int} {ds:List bc} {rows:List ST} {h:Nat}
theorem oc.keep {pre:List Nat} {p:Nat} {sp e:Int} (W:oc n ds rows h s pre p sp e) (af:aj.bI=s.bI) (ak:aj.cO=s.cO) (a5:aj.lf=s.lf) (bN:aj.bp=s.bp) (dy:aj.c_=s.c_) (ia:aj.pt=s.pt) (uJ:aj.po=s.po):oc n ds rows h aj pre p sp e:=by
 have YZ:fy ds rows aj h=fy ds rows s h:=by unfold fy;rw [ia,uJ]
 exact ⟨W.ok,W.cO,W.cK,W.pm,by rw [YZ];exact W.sk,by rw [af,ak];exact W.bI,by rw [af,a5,bN,dy];exact W.ch⟩
theorem Uc (f p:Nat) (cg:Nat->Nat->Int) (st:Nat->Int):ih cg st [f,p]=cg f p:=by simp [ih,jG,lJ]
theorem LH (e:b_ ds rows i=b_ ds rows j):fy ds rows s i=fy ds rows s j:=by unfold fy;rw [e]
theorem CF (ai:i ≠ h):pV (d0 ds rows h) (i:Int)=(d0 ds rows h).eD i:=by
 have e:(d0 ds rows h).h=h:=rfl;unfold pV;rw [if_pos ⟨by omega,by rw [e];omega⟩,lI]
theorem akU (W:iB ds rows) (gm:qk n ds rows (gG n ds rows)) (b2:h < rows.length) (k:jA ds rows s) (L:nV n ds rows s) (aX:s.bI ≠ some h):∃ pre p sp,oc n ds rows h s pre p sp 0:=by
 have o5:=W.ok b2;have aU:∀ {j:Nat},j < rows.length->((d0 ds rows h).own j=true↔b_ ds rows j=b_ ds rows h):=fun {j} aG=>by rw [B4 W b2 aG];simp
 cases ax:s.bI with
 | some i=>
  have C4:i ≠ h:=fun z=>aX (by rw [ax,z])
  have ai:=(k.bI i ax).1;obtain ⟨cz,cK⟩:=L.bI i ax;have bF:=(gm.lo h i b2 ai (eb C4)).1;have sp:=Bp (h:=h) W ai;refine ⟨[h,i],i,iK (d0 ds rows h) h i,fun ext aS=>⟨h,i,ext,rfl,b2,ai,eb C4,aS⟩,rfl,by simp,ai,fun _=>?_,fun j aG=>?_,fun z=>by rw [ax] at z;cases z⟩
  .unfold iK;split
   .rename_i c;rw [LH ((aU ai).mp c).symm,cz,CF C4];exact rr _
   .rw [if_neg (fun z=>z.2 rfl)];exact Uj o5 _
  .rw [ax] at aG;cases aG;rw [Uc];exact ⟨rfl,C4,by omega,by omega⟩
 | none=>
  obtain ⟨a,b,c⟩:=k.ch ax;obtain ⟨cz,cK,Ah,wB⟩:=L.ch ax;refine ⟨[s.lf,s.bp],s.bp,iK (d0 ds rows h) s.lf s.bp,fun ext aS=>⟨s.lf,s.bp,ext,rfl,a,b,c,aS⟩,rfl,by simp,b,fun a8=>?_,fun j aG=>(by rw [ax] at aG;cases aG),fun _=>⟨rfl,by rw [Uc];omega⟩⟩;unfold iK;split
  .rename_i z;rw [LH ((aU b).mp z).symm,cz,CF a8];exact rr _
  .rename_i z;split
   .rename_i y;have pJ:s.lf ≠ h:=y.2;have aq:=(aU a).mp y.1;have:b_ ds rows s.lf ≠ b_ ds rows s.bp:=fun q=>z ((aU b).mpr (q.symm.trans aq))
    rw [LH aq.symm,cK this,CF pJ];exact rr _
   .exact Uj o5 _
theorem aeQ (W:iB ds rows) (R:nK ds rows) (cR:∀ x ∈ s.wt,told rows x=true) (b2:h < rows.length) (ai:i < rows.length) (aG:h ∈ kL rows s) (L:nV n ds rows s) (P:DB ds rows s i g) (a8:g < rows.length) (ax:b_ ds rows g=b_ ds rows h):pV (d0 ds rows h) (fy ds rows s h) < (d0 ds rows h).eD g:=by
 have o5:=W.ok b2;obtain ⟨a1,a2⟩:=L.last h;by_cases e:g=h
 .subst e;have:=NN o5 (last:=fy ds rows s g) a2;have aH:(d0 ds rows g).eD g=((d0 ds rows g).m:Int) - 1:=Mk o5;omega
 .have eL:=(Qt R cR ai aG a1 a2 P e).1 ax;have z:=(ph o5 g).1;unfold pV;split
  .rename_i c;have b4:fy ds rows s h ≠ (h:Int):=c.2;unfold nc at eL;generalize fy ds rows s h=y at *;obtain ⟨y,rfl⟩:=Int.eq_ofNat_of_zero_le c.1;show (((y:Int).toNat:Int) - (h:Int) - 1) % (rows.length:Int) < ((g:Int) - (h:Int) - 1) % (rows.length:Int);rw [lI];rw [Mr (by omega) (by omega) (by omega) (by omega),Mr (by omega) (by omega) (by omega) (by omega)] at *;split <;> split <;> omega
  .omega
theorem aca {own:Bool} {x:Str} {pre:List Nat} {p:Nat} {sp e:Int} (W:iB ds rows) (R:nK ds rows) (gm:qk n ds rows (gG n ds rows)) (b2:h < rows.length) (k:jA ds rows s) (L:nV n ds rows s) (ah:x ∈ s.wt) (TA:jS rows x=some h) (xP:∀ (g:Nat) (r:ST),rows[g]? = some r->x ∈ r.mem->g=h) (A:oc n ds rows h s pre p sp e) (dE:vP n ds rows s own aj):aj.bI=some h\/(x ∈ aj.wt/\∃ pre p sp,oc n ds rows h aj pre p sp (e + 1)):=by
 have o5:=W.ok b2;have cR:=k.told R;have aU:∀ {j:Nat},j < rows.length->((d0 ds rows h).own j=true↔b_ ds rows j=b_ ds rows h):=fun {j} aG=>by rw [B4 W b2 aG];simp
 have aG:h ∈ kL rows s:=cc.mpr ⟨x,ah,by unfold t4;rw [TA];rfl⟩;rcases dE with ⟨ax,r,ao,rfl⟩ | ⟨i,r,ax,ao,fS,rfl⟩ | ⟨i,r,g,k1,ax,ao,fS,P,a8,rfl⟩
 .obtain ⟨a1,a2⟩:=A.ch ax;obtain ⟨cz,cK,Ah,wB⟩:=L.ch ax;unfold m1;split
  .refine .inr ⟨ah,pre,p,sp,A.ok,A.cO,A.cK,A.pm,A.sk,fun i ai=>?_,fun _=>⟨a1,?_⟩⟩
   .have ai:s.bI=some i:=ai;rw [ax] at ai;cases ai
   .show e + 1 + (gG n ds rows s.lf s.bp - (s.c_ + 1)) <= _;omega
  .by_cases ar:p=h
   .refine .inl ?_;show some s.bp=some h;rw [a1,ar]
   .refine .inr ⟨jc.mpr ⟨ah,?_⟩,pre,p,sp,A.ok,A.cO,A.cK,A.pm,A.sk,fun i ai=>?_,fun z=>by cases z⟩
    .have:x ∉ r.mem:=fun z=>ar (by rw [<- a1];exact xP _ _ ao z)
     simp [this]
    .cases ai;have:=Bp (h:=h) W A.pm;refine ⟨a1,ar,by omega,?_⟩;show e + 1 + 1 <= _ + 1;omega
 .obtain ⟨a1,a2,ef,nQ⟩:=A.bI i ax;subst a1;have dw:s.cO < eA ds rows h i:=by
   have lo:=R.cG;have b:=W.lo r (b9 ao);unfold rd at fS;unfold eA;rw [ao];simp only [];rw [s_,s_] at fS;rcases fS with (af | af) | af
   .rw [N_.mp af] at ah;cases ah
   .have:=of_decide_eq_true af;split <;> omega
   .rw [iF,iF] at af;have:=of_decide_eq_true af.1.1;split
    .rename_i c;exfalso;have ae0:yw ds rows s.wt=true:=by
      refine qL.mpr ⟨x,ah,decide_eq_true ?_⟩;unfold uN;rw [TA];unfold b_ at c;rw [a' b2] at c;show (((rows[h]?).map (c6 ds)).getD _)=dd;rw [a' b2];exact c
     rw [ae0] at af;cases af.2
    .omega
  refine .inr ⟨ah,pre,i,sp,A.ok,A.cO,A.cK,A.pm,A.sk,fun j aG=>?_,fun z=>?_⟩
  .have aG:s.bI=some j:=aG;rw [ax] at aG;cases aG;refine ⟨rfl,a2,by omega,?_⟩;show e + 1 + 1 <= _ + (s.cO + 1);omega
  .have z:s.bI=none:=z;rw [ax] at z;cases z
 .obtain ⟨a1,a2,ef,nQ⟩:=A.bI i ax;subst a1;have ai:=A.pm;have gU:=(b6.mp a8).1;have qX:g ≠ i:=fun z=>by
   obtain ⟨y,a6,aje⟩:=K8 cR P.1;exact (k.bI i ax).2 y a6 (z ▸ aje)
  have bF:=(gm.lo i g ai gU (eb qX)).1;have aL:=OE (s:=s) (i:=i) (j:=h) W a8 b2;have ls:=QA (cg:=gG n ds rows) (st:=eA ds rows h) (g:=g) A.cO A.cK;obtain ⟨jT,bu,jN⟩:∃ jT,(∀ ext,i7 (d0 ds rows h) g jT ext->i7 (d0 ds rows h) i sp (g :: ext))/\(g ≠ h->jT <= pV (d0 ds rows h) (fy ds rows (p5 s i g (c6 ds k1)) h)):=by
   by_cases aS:b_ ds rows g=b_ ds rows h
   .have ps:=aeQ W R cR b2 ai aG L P gU aS;have:=A.sk a2;refine ⟨(d0 ds rows h).eD g,fun ext x1=>⟨a2,gU,.inl ⟨(aU gU).mpr aS,by omega,x1⟩⟩,fun sL=>?_⟩;rw [aL,if_pos aS.symm,CF sL];exact rr _
   .have sL:g ≠ h:=fun z=>aS (by rw [z])
    have ar:=(Qt R cR ai aG (L.last h).1 (L.last h).2 P sL).2 aS;refine ⟨sp,fun ext x1=>⟨a2,gU,.inr ⟨(aU ai).mpr ar,?_,x1⟩⟩,fun _=>?_⟩
    .cases z:(d0 ds rows h).own g
     .rfl
     .exact absurd ((aU gU).mp z) aS
    .rw [aL,if_neg (fun z=>aS z.symm)];exact A.sk a2
  have Sy:∀ ext,i7 (d0 ds rows h) g jT ext->Dz (d0 ds rows h) (pre ++ [g] ++ ext):=fun ext x1=>by
   rw [l7];exact A.ok _ (bu ext x1)
  have Wo:(pre ++ [g]).getLast? = some g:=by simp
  have P7:2 <= (pre ++ [g]).length:=by rw [cZ];have:=A.cK;omega
  unfold m1;split
  .refine .inr ⟨ah,pre ++ [g],g,jT,Sy,Wo,P7,gU,jN,fun j aG=>(by cases aG),fun _=>⟨rfl,?_⟩⟩;show e + 1 + (gG n ds rows i g - 0) <= _;omega
  .by_cases sL:g=h
   .exact .inl (by show some g=some h;rw [sL])
   .refine .inr ⟨jc.mpr ⟨ah,?_⟩,pre ++ [g],g,jT,Sy,Wo,P7,gU,jN,fun j aG=>?_,fun z=>by cases z⟩
    .have:x ∉ k1.mem:=fun z=>sL (xP _ _ a8 z)
     simp [this]
    .cases aG;have:=Bp (h:=h) W gU;refine ⟨rfl,sL,by omega,?_⟩;show e + 1 + 1 <= _ + 1;omega
theorem adA {pre:List Nat} {p:Nat} {sp e z:Int} (W:iB ds rows) (gm:qk n ds rows (gG n ds rows)) (b2:h < rows.length) (L:nV n ds rows s) (A:oc n ds rows h s pre p sp e) (aN:∀ ys,Dz (d0 ds rows h) ys->ih (gG n ds rows) (eA ds rows h) ys <= z):e < z:=by
 have o5:=W.ok b2;have more:p ≠ h->ih (gG n ds rows) (eA ds rows h) pre + eA ds rows h p <= z:=fun ar=>by
  have af:=A.sk ar;have ak:=NN o5 (last:=fy ds rows s h) (L.last h).2;have a5:(d0 ds rows h).eD h=((d0 ds rows h).m:Int) - 1:=Mk o5;have bN:=aN (pre ++ [h]) (A.ok [h] ⟨ar,b2,.inl ⟨IB,by show sp < (d0 ds rows h).eD h;omega,rfl⟩⟩);rw [QA A.cO A.cK] at bN;have:=(gm.lo p h A.pm b2 ar).1;omega
 cases ax:s.bI with
 | some i=>
  obtain ⟨_,a2,ef,_⟩:=A.bI i ax;have:=more a2;omega
 | none=>
  obtain ⟨a1,a2⟩:=A.ch ax;obtain ⟨_,_,_,wB⟩:=L.ch ax;by_cases ar:p=h
  .have:=aN (pre ++ []) (A.ok [] ar);rw [xy] at this;omega
  .have:=more ar;have:=Bp (h:=h) W A.pm;omega
end
theorem dM.aau {n:Int} {ds:List bc} {sts:List gS} (h:dM n ds sts) {k:Nat} (aC:k < ds.length):∃ j,j < sts.length/\k ∈ lE sts j:=by
 have hm:k ∈ (sts.map (·.eG)).flatten:=h.lr.bp.pm.mem_iff.mpr (oF.mpr aC);obtain ⟨l,aL,oA⟩:=KP.mp hm;obtain ⟨x,ah,rfl⟩:=cc.mp aL;obtain ⟨j,aG,e⟩:=Dg ah;exact ⟨j,aG,by rw [Bq (a' aG),e];exact oA⟩
theorem Xd (h:nL n d):lY d <= 1000:=by
 have:=h.of;unfold lY;split <;> omega
theorem ahp (d:bc):ly d <= 1000:=by
 unfold ly;split <;> omega
section
variable {n:Int} {ds:List bc} {sts:List gS}
theorem sw:(cf ds sts).length=sts.length:=by unfold cf;rw [aW]
theorem ahy {j:Nat} {r:ST} (h:(cf ds sts)[j]? = some r):∃ x,sts[j]? = some x/\r=ke ds x:=by
 unfold cf at h;rw [df] at h;obtain ⟨x,ah,rfl⟩:=yR.mp h;exact ⟨x,ah,rfl⟩
theorem dM.aii (X:dM n ds sts):iB ds (cf ds sts):=by
 refine ⟨fun r ao=>?_,by rw [sw];exact X.len,fun r ao=>?_,fun r ao=>?_⟩
 .obtain ⟨j,aG⟩:=hU ao;have gv:j < sts.length:=by rw [<- sw (ds:=ds)];exact (b6.mp aG).1
  have:=X.sort gv;unfold b_ at this;rw [aG] at this;have this:c6 ds r=if K9 ds sts j=true then dd else h3:=this;rw [this];split
  .exact .inl rfl
  .exact .inr rfl
 .obtain ⟨x,ah,rfl⟩:=cc.mp ao;have:=X.lr.bd x ah;exact ⟨this.1,this.2.2.1,by show x.ai <= 1000;omega⟩
 .obtain ⟨x,ah,rfl⟩:=cc.mp ao;show eC ds x ≠ [];unfold eC;exact fun z=>(X.kl.bd x ah).2.2.1 (MT.mp z)
theorem dM.afF (X:dM n ds sts) {k h:Nat} (hd:ds[k]? = some d) (aC:k ∈ lE sts h):dn (gC ((cf ds sts).map (·.mem))) (cy d.name)=some (.int (h:Nat)):=by
 obtain ⟨er,r,aF,eH,_⟩:=nM (X.tell (b9 hd));rw [(X.OP hd).mpr aC] at eH;rw [aF,eE eH]
theorem Yz (h:∀ d ∈ ds,nL n d) {x:Int} (ah:x ∈ iV n ds f g):x <= 1000:=by
 have Hw:∀ {y:Str} {d:bc},hM ds y=some d->d ∈ ds:=fun e=>aer e
 unfold iV at ah;rcases eR.mp ah with ah | ah
 .rcases eR.mp ah with ah | ah
  .rcases eR.mp ah with ah | ah
   .rw [eY.mp ah];decide
   .obtain ⟨y,_,rfl⟩:=cc.mp ah;unfold r8;cases e:hM ds y with
    | none=>simp
    | some d=>exact Xd (h d (Hw e))
  .obtain ⟨y,_,rfl⟩:=cc.mp ah;unfold sx;cases e:hM ds y with
   | none=>simp
   | some d=>exact ahp d
 .obtain ⟨y,_,ah⟩:=List.mem_flatMap.mp ah;unfold qw at ah;split at ah
  .cases ah
  .obtain ⟨z,_,rfl⟩:=cc.mp ah;unfold tD;split
   .rename_i d e af ak;have:=(h d (Hw af)).of;have:=(h e (Hw ak)).vU;split <;> omega
   .decide
theorem dM.gG (X:dM n ds sts):qk n ds (cf ds sts) (My.gG n ds (cf ds sts)):=by
 have is:∀ (i j:Nat) (r s:ST),(cf ds sts)[i]? = some r->(cf ds sts)[j]? = some s->ot (iV n ds r.mem s.mem) (My.gG n ds (cf ds sts) i j):=fun i j r s ai aG=>by
  obtain ⟨o',af,ak⟩:=A_ (iV n ds r.mem s.mem) (by unfold iV;simp);rw [HS ai aG ⟨af,ak⟩];exact ⟨af,ak⟩
 refine ⟨fun i j r s ai aG _=>is i j r s ai aG,fun i j ai aG _=>?_⟩;have h:=is i j _ _ (a' ai) (a' aG);exact ⟨h.2 0 (by unfold iV;simp),Yz X.ok h.1⟩
theorem dM.one (X:dM n ds sts) {k h g:Nat} (hd:ds[k]? = some d) (aC:k ∈ lE sts h) (a8:(cf ds sts)[g]? = some r) (ah:d.name ∈ r.mem):g=h:=by
 obtain ⟨x,dW,rfl⟩:=ahy a8;have:k ∈ x.eG:=(UZ X.aI (fun i ai=>X.lt (b9 dW) ai) hd).mp ah;exact X.uniq (by rw [Bq dW];exact this) aC
end
def P1 (K:bk) (mK qA:Addr):bM:=fun vs H Q _=>∃ a ns,vs=[.ref a]/\Sc K a ns H/\ns.length <= 63/\nk mK H/\GX qA H/\mK ≠ qA/\∀ I,Q (.bo true) I
def Z3 (n:Int) (ds:List bc) (rows:List ST) (h:Nat) (x:Str) (s:ff) (since:Int) (j:Nat):Prop:=since = -1\/s.bI=some h\/(0 <= since/\x ∈ s.wt/\∃ pre p sp,oc n ds rows h s pre p sp ((j:Int) - since))
theorem F6 {rows:List ST} {x:Str} (hf:js rows s x=false):∀ (xs wt:List Str),x ∈ wt\/x ∈ xs->x ∈ n' rows s wt xs
 | [],wt,h=>h.elim id (fun h=>by cases h)
 | y :: ys,wt,h=>by
  refine F6 hf ys (pN rows s wt y) ?_;unfold pN;by_cases e:x=y
  .subst e;left;split
   .rename_i c;rcases c with c | c
    .rw [hf] at c;cases c
    .exact c
   .simp
  .rcases h with h | h
   .left;split
    .exact h
    .simp [h]
   .right;rcases en.mp h with h | h
    .exact absurd h e
    .exact h
theorem amI {mK qA:Addr} (dg:mf base t.Re mK) (hB:base.BuiltinsAt mg mK) (Jp:mf base t.xv qA) (Gz:base.BuiltinsAt mg qA):cm P base T 21 t.PP t.AO ["_law_script"] (P1 K mK qA):=by
 exists T.YH.ok kn,9
 obtain ⟨a,ns,rfl,Cd,hl,adF,NB,ae9,q⟩:=h;have bY:=iN ao;have anD:=acb ao;have eX:cD P w K mg base dk 20 t.yj t.yL ym (ig K a ns):=(Ap T a ns hl).mono (by decide);have acW:cD P w K mg base dk 20 t.BC t.Af z1 (Ul K a ns):=(X' T a ns hl).mono (by decide);have acm:cD P w K mg base dk 20 t.Cr t.zt CT (Rz K):=(XG T).mono (by decide);have acs:cD P w K mg base dk 20 t.Eg t.zB ["text"] (RX t):=(aif T).mono (by decide);have ahB:cD P w K mg base dk 20 t.CK t.Dk Cu (R0 K):=(aes T).mono (by decide);have ZE:cD P w K mg base dk 20 t.BJ t.Ac Ai Oc:=(aar T).mono (by decide);have ald:cD P w K mg base dk 20 t.x3 t.y9 wk (Vk P w t):=(aao T).mono (by decide);have ab2:cD P w K mg base dk 20 t.zo t.xX A4 (KF P w t qA):=afS T Jp Gz;have acd:cD P w K mg base dk 19 t.x7 t.Dh w_ (Ob P w t):=(abl T).mono (by decide);have afi:cD P w K mg base dk 20 t.w4 t.zl Br (Od P w K t mK):=(akH T dg hB).mono (by decide);have W4:cD P w K mg base dk 20 t.am t.CD DH (Ou K a ns):=(afd T a ns hl).mono (by decide);refine ⟨_,(db (QN (bU acW ao T.aet T.Lz.bl T.amN (ag (U 0) (ag aO aA))) (kA (K:=K) (n:=2) rfl rfl (eB (b7 (i:=1) kn.aI) (eB (b7 (i:=2) kn.aI) kC))))
   (db (bT (i:=3) kn.aI (bU ahB ao T.tz T.IX.bl T.ajb (ag (U 0) (ag (U 1) (ag (U 2) aA)))))
   (db (bT (i:=4) kn.aI (bU ald ao T.ZS T.IH.bl T.ag8 (ag (bU acs ao T.aku T.Fv.bl T.aah (ag (bU acm ao T.af9 T.I7.bl T.aj0 (ag (U 1) (ag (U 2) aA))) aA)) (ag (bU ZE ao T.WL T.LW.bl T.alU (ag (U 2) (ag (U 3) aA))) aA))))
   (db (bT (i:=5) kn.aI (bZ gR (bZ c8 (U 2) (bU eX ao T.fL T.e6.bl T.fH (ag (U 0) (ag aO (ag (fP hL rfl T.hz hE (ag (U 2) aA)) aA))))) aO))
   (db (bT (i:=6) kn.aI (bZ gR (bU ab2 ao T.adz T.Kw.bl T.al3 (ag (U 4) (ag (U 5) aA))) aO))
   (db (bT (i:=7) kn.aI (tg T.FM acd ao rfl T.Xh T.ail .nil c2 (ag (U 4) aA)))
   (db (bT (i:=8) kn.aI (bU eX ao T.fL T.e6.bl T.fH (ag (U 0) (ag aO (ag aO aA)))))
   (db (bT (i:=9) kn.aI (ov oy aO))
   (db (bT (i:=10) kn.aI mW)
   (db (fw fF rfl (kN rfl T.j' (ag aO aA)) (b7 (i:=11) kn.aI) (db (bT (i:=12) kn.aI (bU W4 ao T.Y9 T.HA.bl T.Z2 (ag (U 0) (ag (U 11) (ag (U 2) aA)))))
   (db (dU (fM.pt (t2 (fM.pt (md (cX et (U 8) aO (cA _)) (mi (cX et (bE iH (U 11) aO) aO (cA _))))) (uf (fM.pt (md (cX et (U 8) aO (cA _)) (mi (oj (U 10)))))))) (a0 (dS (eF f6 kr kz j9 (U 12) (ag (U 5) aA)))) eh)
   (db (bT (i:=13) kn.aI (fg (U 7) T.e7 T.af5 afi ao T.age .nil c2 (ag (U 12) aA)))
   (db (bT (i:=10) kn.aI (h7 et (oZ bY (U 13) (U 5) (fun _ _=>rfl)) dF (cA _)))
   (db (dU (oj (U 10)) (a0 (bT (i:=9) kn.aI (ov oy aO))) (a0 (dU (fM.pt (md (cX lR (U 9) aO (cA _)) (mi (cX sq (U 5) (U 12) (by with_unfolding_all rfl))))) (a0 (bT (i:=9) kn.aI (U 11))) eh)))
   (a0 (dU (fM.pt (md (cX PL (U 9) aO (cA _)) (mi (cX PL (bE k' (U 11) (U 9)) (U 6) (cA _))))) (a0 (b' mW)) eh))))))))
   (a0 (b' mW)))))))))))),?_⟩
 exists (fun au I=>aK H I/\Sc K a ns I/\∃ wl n ds,jB I wl ds/\s8 n ds/\(∀ d ∈ ds,d.least <= 4)/\(4 <= n/\n <= 99)/\(1 <= ds.length/\ds.length <= 6)/\au=[~~~a,some (.int n),~~~wl,none,none,none,none,none,none,none,none,none,none,none]),3
 .nofun;exact ⟨4,rfl,by decide,Cd,fun j0 wl n ds I s1 oN aq L D hle aX aL=>⟨j0,rfl,_,dR.of aq,rfl,_,_,rfl,_,_,rfl,rfl,bQ _ _ ⟨s1,oN,wl,n,ds,L,D,hle,aX,by omega,rfl⟩⟩⟩
 rintro fk H1 ⟨s1,oN,wl,n,ds,L,D,hle,aX,gP,rfl⟩;have aj_:∀ {sts:List gS},CZ n ds sts->dM n ds sts:=fun h=>⟨D.aI,h,gP.2,gP.1,fun d hd=>(D.al d hd).1⟩
 subst aT;exists (fun au I=>aK H1 I/\Sc K a ns I/\∃ dO bS k9 b1,om I dO bS k9 b1/\dM n ds b1/\au=[~~~a,some (.int n),~~~wl,~~~dO,none,none,none,none,none,none,none,none,none,none]),3
 .nofun;exact ⟨a,ns,n,wl,ds,rfl,hl,oN.seq,oN.bx,L,D,hle,by omega,fun dO bS k9 b1 I s3 di FK ad1=>bQ _ _ ⟨s3,oN.same s3 di,dO,bS,k9,b1,FK,aj_ ad1,rfl⟩⟩
 rintro cw av ⟨s2,jZ,dO,bS,k9,b1,FK,X,rfl⟩;have L2:=L.same s2;have R:=X.Xr;have W:=X.aii;have gm:=X.gG;have hlen:=sw (ds:=ds) (sts:=b1);have cj:0 < b1.length:=BX.mpr X.ne;have TJ:=a' cj;subst aT;exists (fun au I=>aK av I/\Sc K a ns I/\∃ g9 c,fp P w t I g9 c n ds (cf ds b1)/\au=[~~~a,some (.int n),~~~wl,~~~dO,~~~g9,none,none,none,none,none,none,none,none,none]),3
 .nofun;exact ⟨n,wl,ds,rfl,L2,D,by omega,by omega,jZ.bx,n,ds,rfl,D.TG (by omega) (by omega),jZ.bx,fun c I s3 di u3=>⟨wl,ds,dO,bS,k9,b1,rfl,L2.same s3,FK.same s3,X.kl,di,c,n,ds,b1,rfl,u3,aX,X,di,fun g9 ck s5 ei af2=>bQ _ _ ⟨s3.trans s5,jZ.same (s3.trans s5) ei,g9,c,af2,rfl⟩⟩⟩
 rintro fI br ⟨s3,p3,g9,c,SH,rfl⟩;have oS:=L2.same s3;obtain ⟨oW,xo,KN,JD⟩:=id oS;have gw:(oW.map V.ref).length=ds.length:=by rw [aW,KN]
 obtain ⟨at_,i5⟩:∃ at_:Nat,dt ns 5 ds.length=(at_:Int)/\at_ < ds.length:=by
  have af:=ht ns 5 (m:=(ds.length:Int)) (by omega);have ak:=hq ns 5 (m:=(ds.length:Int)) (by omega);exact ⟨(dt ns 5 ds.length).toNat,by omega,by omega⟩
 obtain ⟨d,hd⟩:∃ d,ds[at_]? = some d:=⟨_,a' i5.2⟩;obtain ⟨g,a8,lK⟩:=X.aau i5.2;have gU:g < (cf ds b1).length:=by rw [hlen];exact a8
 have UN:jS (cf ds b1) d.name=some g:=(X.OP hd).mpr lK;subst aT;exists (fun au I=>I=br/\au=[~~~a,some (.int n),~~~wl,~~~dO,~~~g9,some (.str d.name),none,none,none,none,none,none,none,none]),3
 ·(nofun; repeat (dsimp only [ig];nofun));exact ⟨_,.inl (ay.of xo),p3,by decide,by decide,by rw [gw];omega,_,ay.of xo,_,by rw [gw,i5.1];exact cp (by rw [df,a' (show at_ < oW.length by omega)];rfl),_,rfl,_,dR.of (JD at_ _ _ (a' (show at_ < oW.length by omega)) hd),_,cp (j:=1) rfl,bQ _ _ ⟨rfl,rfl⟩⟩
 rintro jE cJ ⟨rfl,rfl⟩;have H5:=(s1.trans s2).trans s3;subst aT;exists (fun au I=>Do qA cJ I/\aJ I/\∃ z,P4 (d0 ds (cf ds b1) g) (My.gG n ds (cf ds b1)) (eA ds (cf ds b1) g) z/\au=[~~~a,some (.int n),~~~wl,~~~dO,~~~g9,some (.str d.name),some (.int z),none,none,none,none,none,none,none]),3
 .nofun;exact ⟨g9,c,n,ds,_,_,g,at_,d,rfl,SH,W,gm,hd,X.afF hd lK,gU,NB.step H5,p3.bx,fun r z uw gI I aj dV bH XR=>⟨r,rfl,_,dR.of bH,_,cp (j:=0) rfl,bQ _ _ ⟨aj,dV,z,XR,rfl⟩⟩⟩
 rintro qY ck ⟨s5,ei,z,aN,rfl⟩;have U4:GX qA cJ:=NB.step H5;have ajp:nk mK cJ:=adF.step H5;have G5:hD cJ ck:=zr U4 s5;have iy:=oS.ni G5;have Ms:=SH.ni G5;have TB:Sc K a ns ck:=Qo p3 G5 ei;have NW:nk mK ck:=by
  obtain ⟨ps,e,d9⟩:=ajp;obtain ⟨aoQ,bH,oi⟩:=U4;refine ⟨ps,s5 _ _ ae9 e,?_⟩;rcases d9 with d9 | ⟨c',d9,gh⟩
  .exact .inl d9
  .exact .inr ⟨c',d9,s5 _ _ (cx gh bH (by intro z;cases z)) gh⟩
 subst aT;exists (fun au I=>∃ k aD a4,ck k=none/\ck aD=none/\ck a4=none/\aK ck I/\aJ I/\e4 t I k g9 aD a4 (Qs ds (ke ds b1[0]))/\au=[~~~a,some (.int n),~~~wl,~~~dO,~~~g9,some (.str d.name),some (.int z),~~~k,none,none,none,none,none,none]),3
 .nofun;intro k az aC yv WH;have bq:aK ck (upd (upd ck az (.own k)) k (.ins t.dp az [])):=(ba yv).trans (ba (by rw [aM (eb WH)];exact aC));exact ⟨k,az,g9,c,n,ds,_,_,rfl,aQ,Ms.same bq,Ln TJ,R.cG _ (cc.mpr ⟨_,g6 cj,rfl⟩),ei.upd.upd,fun aD a4 gg cC lT pR mY EK=>⟨rfl,bQ _ _ ⟨k,aD,a4,aC,bq.free pR,bq.free mY,fun b u e=>cC _ _ (dm e aC) (bq _ _ e),lT,EK,rfl⟩⟩⟩
 rintro mQ gg ⟨k,aD,a4,ju,g4,hX,e1,lT,EK,rfl⟩;subst aT;exists (fun au I=>I=gg/\∃ way:Int,au=[~~~a,some (.int n),~~~wl,~~~dO,~~~g9,some (.str d.name),some (.int z),~~~k,some (.int way),none,none,none,none,none]),3
 ·(nofun; repeat (dsimp only [ig];nofun));exact ⟨TB.same e1 lT,by decide,by decide,by decide,bQ _ _ ⟨rfl,_,rfl⟩⟩
 rintro kO fa ⟨rfl,way,rfl⟩;subst aT;exists (fun au I=>I=fa/\au=[~~~a,some (.int n),~~~wl,~~~dO,~~~g9,some (.str d.name),some (.int z),~~~k,some (.int way),some (.int (-1)),none,none,none,none]),3
 .nofun;exact bQ _ _ ⟨rfl,rfl⟩
 rintro sM iC ⟨rfl,rfl⟩;subst aT;exists (fun au I=>I=iC/\au=[~~~a,some (.int n),~~~wl,~~~dO,~~~g9,some (.str d.name),some (.int z),~~~k,some (.int way),some (.int (-1)),some (.bo false),none,none,none]),3
 .nofun;exact bQ _ _ ⟨rfl,rfl⟩
 rintro agD VC ⟨rfl,rfl⟩;subst aT;simp only [dG];refine s9 (fun au I=>True) (fun f3 bQ nh _ _=>?_) ?_
 .nofun;have aeL:aK (j6 ck) VC:=(Ox ck).trans e1;have QD:j6 ck k=none:=bv ju;have Og:j6 ck aD=none:=bv g4;have O4:j6 ck a4=none:=bv hX;have Tv:j6 ck mK=none:=Yg NW;have als:=Ms.ni (En ck);have ai7:=iy.ni (En ck);have abt:Sc K a ns (j6 ck):=Qo TB (En ck) (fun b u e=>ei b u (Ox ck _ _ e));have gX:(ds.map (·.name)).Nodup:=D.aI;have g0:(cf ds b1).length ≠ 1->∀ ys,Dz (d0 ds (cf ds b1) g) ys->ih (My.gG n ds (cf ds b1)) (eA ds (cf ds b1) g) ys <= z:=fun hm ys a6=>by
   rcases aN with ⟨af,_⟩ | ⟨_,b5,ch,pj,_,_,rf⟩
   .exact absurd af hm
   .exact rf ys ((pj ys).mpr a6)
  refine ⟨by decide,by decide,?_⟩;refine dZ.range (fun j σ I=>aJ I/\aK (j6 ck) I/\nk mK I/\∃ s since y6,e4 t I k g9 aD a4 s/\jA ds (cf ds b1) s/\nV n ds (cf ds b1) s/\Z3 n ds (cf ds b1) g d.name s since j/\∃ U9 Pz AN,σ=[~~~a,some (.int n),~~~wl,~~~dO,~~~g9,some (.str d.name),some (.int z),~~~k,some (.int way),some (.int since),some (.bo y6),U9,Pz,AN]) ?_ ?_ ?_
  .have aR:∀ q:Prop,∀ [Decidable q],(-1 <= (if q then (0:Int) else -1)/\(if q then (0:Int) else -1) < (cf ds b1).length)/\(-1 <= (if q then (-1:Int) else 0)/\(if q then (-1:Int) else 0) < (cf ds b1).length):=fun q _=>by rw [hlen];split <;> omega
   refine ⟨lT,aeL,NW.step e1,_,-1,false,EK,⟨RQ,fun x h=>(by cases h),fun i h=>(by cases h;exact ⟨by rw [hlen];exact cj,fun x h=>(by cases h)⟩),fun h=>(by cases h)⟩,⟨(aR _).1,(aR _).2,fun i h=>?_,fun h=>(by cases h)⟩,.inl rfl,_,_,_,rfl⟩;cases h;refine ⟨?_,rr 1⟩;unfold fy;have eK:b_ ds (cf ds b1) 0=c6 ds (ke ds b1[0]):=by unfold b_;rw [Ln TJ];rfl
   rw [eK];show (if c6 ds (ke ds b1[0])=dd then (if c6 ds (ke ds b1[0])=dd then (0:Int) else -1) else (if c6 ds (ke ds b1[0])=dd then -1 else 0))=0;split <;> rfl
  .rintro j σ I aG a_;ac_rfl
   obtain ⟨akc,h2,PW,sK,since,y6,Ny,l1,uB,Vx,U9,Pz,AN,rfl⟩:=a_;have aG:j < 70:=aG;obtain ⟨anS,ah1,M0,ade,aj4⟩:=id Ny;subst aT;simp only [gL,dG,jJ,jM,p8];refine yN (fun au H1=>aK I H1/\aJ H1/\∃ ap xs,I ap=none/\H1 ap=some (.lst (aY xs))/\xs.length <= 13/\(∀ x ∈ xs,x ∈ ds.map (·.name))/\au=[~~~a,some (.int n),~~~wl,~~~dO,~~~g9,some (.str d.name),some (.int z),~~~k,some (.int way),some (.int since),some (.bo y6),some (.int j),~~~ap,AN]) (fun f3 cY=>?_) ?_
   .nofun;exact ⟨_,wl,ds,rfl,abt.same h2 akc,by omega,ai7.same h2,by omega,fun p xs H1 bq nm ar qo gN h1=>cY _ _ ⟨bq,nm,p,xs,ar,qo,gN,h1,rfl⟩⟩
   rintro cw mE a_;ac_rfl
   obtain ⟨t1,Wq,ap,xs,rO,IQ,gN,h1,rfl⟩:=a_;subst aT;simp only [dG];refine yN (fun au H1=>aK I H1/\aJ H1/\∃ xs,H1 ap=some (.lst (aY xs))/\xs.length <= 14/\(∀ x ∈ xs,x ∈ ds.map (·.name))/\au=[~~~a,some (.int n),~~~wl,~~~dO,~~~g9,some (.str d.name),some (.int z),~~~k,some (.int way),some (.int since),some (.bo y6),some (.int j),~~~ap,AN]) (fun f3 cY=>?_) ?_
   .refine F4 (fun b av=>av=mE) (fun Q aV=>?_) ?_ ?_
    .nofun;split
     .refine ⟨by decide,?_⟩;split
      .exact aV _ _ rfl
      .split <;> exact aV _ _ rfl
     .split <;> exact aV _ _ rfl
    .rintro av rfl;nofun;refine ⟨.inl ⟨_,ay.of IQ⟩,_,IQ,gD (show (aY xs).length <= 13 by rw [fK];exact gN) (by decide),?_⟩;refine cY _ _ ⟨fun b u e=>by rw [aM (dm e rO)];exact t1 _ _ e,Wq.upd,xs ++ [d.name],by rw [aQ];unfold aY;rw [ed];rfl,by rw [cZ,pa];omega,fun x ah=>?_,rfl⟩;rcases eR.mp ah with ah | ah
     .exact h1 x ah
     .rw [eY.mp ah];exact cc.mpr ⟨d,b9 hd,rfl⟩
    .rintro av rfl;simp only [gQ];exact cY _ _ ⟨t1,Wq,xs,IQ,by omega,h1,rfl⟩
   rintro fI pn a_;ac_rfl
   obtain ⟨dJ,aik,xs,vH,gN,h1,rfl⟩:=a_;have Co:=Ny.same dJ;subst aT;simp only [dG];refine yN (fun au av=>∃ fN aj,vP n ds (cf ds b1) (pG (cf ds b1) sK xs) (xs.any (js (cf ds b1) sK)) aj/\Es k aD a4 mK pn av/\pn fN=none/\av fN=some (.bW (jj ds (iG n ds (cf ds b1) sK)))/\aJ av/\nk mK av/\e4 t av k g9 aD a4 aj/\au=[~~~a,some (.int n),~~~wl,~~~dO,~~~g9,some (.str d.name),some (.int z),~~~k,some (.int way),some (.int since),some (.bo y6),some (.int j),~~~ap,~~~fN]) (fun f3 cY=>?_) ?_
   .nofun;exact ⟨ah1,_,dJ _ _ M0,nG _ _ _ _ _ _ _ _ (by ac_nf),j6 ck,k,g9,aD,a4,sK,c,n,ds,cf ds b1,ap,xs,rfl,Co,als,h2.trans dJ,QD,Og,O4,Tv,R,l1,vH,by omega,h1,PW.step dJ,aik,fun p aj av wF B5 ar qo rn qc rC=>cY _ _ ⟨p,aj,wF,B5,ar,qo,rn,qc,rC,rfl⟩⟩
   rintro jE n_ a_;ac_rfl
   obtain ⟨fN,aj,wF,B5,tB,alA,q0,Qi,rC,rfl⟩:=a_;obtain ⟨aoY,aaW,anc⟩:=PW.step dJ;have YC:n_ ap=some (.lst (aY xs)):=B5 _ _ (cx vH (dJ _ _ M0) (by intro z;cases z)) (cx vH (dJ _ _ ade) (by intro z;cases z)) (cx vH (dJ _ _ aj4) (by intro z;cases z)) (cx vH aaW (by intro z;cases z)) vH;have ai5:aK (j6 ck) n_:=fun b u e=>B5 _ _ (dm e QD) (dm e Og) (dm e O4) (dm e Tv) ((h2.trans dJ) _ _ e)
   have P9:=ij.k (k:=cy d.name) alA;subst aT;rw [QY (f:=iG n ds (cf ds b1) sK) gX hd] at P9;simp only [dG];refine yN (fun au av=>av=n_/\au=[~~~a,some (.int n),~~~wl,~~~dO,~~~g9,some (.str d.name),some (.int z),~~~k,some (.int way),some (.int since),some (.bo (js (cf ds b1) sK d.name)),some (.int j),~~~ap,~~~fN]) (fun f3 cY=>?_) ?_
   .nofun;rw [<- TM n ds (cf ds b1) sK d] at cY;exact ⟨_,P9,rfl,cY _ _ ⟨rfl,rfl⟩⟩
   rintro qY n3 ⟨rfl,rfl⟩;have Gw:=UO h1 l1;have r6:js (cf ds b1) sK d.name=decide (sK.bI=some g):=by
    unfold js;cases sK.bI with
    | none=>simp
    | some i=>
     show decide (jS (cf ds b1) d.name=some i)=_;rw [UN];exact decide_eq_decide.mpr ⟨fun z=>z.symm,fun z=>z.symm⟩
   simp only [dG];refine yN (fun au av=>av=n3/\∃ s2:Int,(sK.bI=some g->s2 = -1)/\(sK.bI ≠ some g->(since < 0/\d.name ∈ xs/\s2=j)\/(¬ (since < 0/\d.name ∈ xs)/\s2=since))/\au=[~~~a,some (.int n),~~~wl,~~~dO,~~~g9,some (.str d.name),some (.int z),~~~k,some (.int way),some (.int s2),some (.bo (js (cf ds b1) sK d.name)),some (.int j),~~~ap,~~~fN]) (fun f3 cY=>?_) ?_
   .refine dh (js (cf ds b1) sK d.name) (fun Q aV=>?_) (fun aa=>?_) (fun aa=>?_)
    .nofun;exact aV
    .nofun;exact cY _ _ ⟨rfl,-1,fun _=>rfl,fun aX=>absurd (by rw [r6] at aa;exact of_decide_eq_true aa) aX,rfl⟩
    .have aX:sK.bI ≠ some g:=fun e=>by rw [r6,decide_eq_true e] at aa;cases aa
     refine dh (decide (since < 0) && decide (d.name ∈ xs)) (fun Q aV=>?_) (fun aa=>?_) (fun aa=>?_)
     .nofun;by_cases c:since < 0
      .rw [if_pos (decide_eq_true c)];refine ⟨_,.inl (ay.of YC),rfl,xE xs,?_⟩;rw [wq];rw [decide_eq_true c,lU] at aV;exact aV
      .rw [if_neg (by simpa using c)];rw [decide_eq_false c,mv] at aV;exact aV
     .rw [iF,decide_eq_true_eq,decide_eq_true_eq] at aa;nofun;exact cY _ _ ⟨rfl,j,fun h=>absurd h aX,fun _=>.inl ⟨aa.1,aa.2,rfl⟩,rfl⟩
     .simp only [gQ];refine cY _ _ ⟨rfl,since,fun h=>absurd h aX,fun _=>.inr ⟨fun h=>?_,rfl⟩,rfl⟩;rw [decide_eq_true h.1,decide_eq_true h.2] at aa;cases aa
   rintro mQ rL a_;ac_rfl
   obtain ⟨rfl,s2,Fg,h9,rfl⟩:=a_;have R2:nV n ds (cf ds b1) (pG (cf ds b1) sK xs):=⟨uB.t0,uB.o0,uB.bI,uB.ch⟩;have yo:sK.bI ≠ some g->(cf ds b1).length ≠ 1:=fun aX e=>by
    cases ax:sK.bI with
    | some i=>have:=(l1.bI i ax).1;exact aX (by rw [ax,show i=g by omega])
    | none=>have:=l1.ch ax;omega
   have key:sK.bI ≠ some g->0 <= s2->(j:Int) - s2 < z/\d.name ∈ (pG (cf ds b1) sK xs).wt/\∃ pre p sp,oc n ds (cf ds b1) g (pG (cf ds b1) sK xs) pre p sp ((j:Int) - s2):=fun aX h0=>by
    have Pf:js (cf ds b1) sK d.name=false:=by rw [r6];exact decide_eq_false aX
    have fin:∀ {pre:List Nat} {p:Nat} {sp:Int},d.name ∈ (pG (cf ds b1) sK xs).wt->oc n ds (cf ds b1) g sK pre p sp ((j:Int) - s2)->(j:Int) - s2 < z/\d.name ∈ (pG (cf ds b1) sK xs).wt/\∃ pre p sp,oc n ds (cf ds b1) g (pG (cf ds b1) sK xs) pre p sp ((j:Int) - s2):=fun ah A=>⟨adA W gm gU uB A (g0 (yo aX)),ah,_,_,_,A.keep rfl rfl rfl rfl rfl rfl rfl⟩
    rcases h9 aX with ⟨af,ak,a5⟩ | ⟨af,a5⟩
    .obtain ⟨pre,p,sp,A⟩:=akU W gm gU l1 uB aX;refine fin (pre:=pre) (p:=p) (sp:=sp) (F6 Pf _ _ (.inr ak)) ?_;rw [show (j:Int) - s2=0 by omega];exact A
    .rcases Vx with h | h | ⟨_,bN,pre,p,sp,A⟩
     .omega
     .exact absurd h aX
     .refine fin (pre:=pre) (p:=p) (sp:=sp) (F6 Pf _ _ (.inl bN)) ?_;rw [a5];exact A
   subst aT;dsimp only;refine dh false (fun Q aV=>?_) (fun aa=>by cases aa) (fun _=>?_)
   .nofun;by_cases c:0 <= s2
    .rw [if_pos (decide_eq_true c),decide_eq_false]
     .exact aV
     .by_cases aX:sK.bI=some g
      .have:=Fg aX;omega
      .have:=(key aX c).1;omega
    .rw [if_neg (by simpa using c)];exact aV
   .simp only [gQ];refine ⟨q0,ai5,Qi,aj,s2,_,rC,WZ R Gw wF,aaa W R Gw R2 wF,?_,_,_,_,rfl⟩;by_cases aX:sK.bI=some g
    .exact .inl (Fg aX)
    by_cases h0:0 <= s2
    .obtain ⟨_,ah,pre,p,sp,A⟩:=key aX h0;rcases aca W R gm gU Gw R2 ah UN (fun _ _ af ak=>X.one hd lK af ak) A wF with h | ⟨dW,aee,hO,jT,ab7⟩
     .exact .inr (.inl h)
     .refine .inr (.inr ⟨h0,dW,aee,hO,jT,?_⟩);rw [show (((j + 1:Nat):Int)) - s2=(j:Int) - s2 + 1 by omega];exact ab7
    .rcases h9 aX with ⟨_,_,a5⟩ | ⟨af,a5⟩
     .omega
     .rcases Vx with h | h | ⟨h,_⟩
      .exact .inl (by omega)
      .exact absurd h aX
      .omega
  .rintro σ I _;exact bQ _ _ trivial
 rintro aod aoF _;nofun;exact q _
end My
structure PySem.W.Fast:Prop where(tw11082223548727250862 tw11672877114719857955 tw1193503952190166985 tw9012528149245554956 tw9024889705959892693 tw10291999026927574369 tw2640998353137145810 tw15802367315178927503 tw13414596407924972300 tw14300601366942301662 tw9972267066129627306 tw10443131850497790087 tw14400222498235380863 tw11250512043507203690 tw16755484034311376684 tw15063231591623516831 tw11617859911363611237 tw11917183639283265657 tw10049476931333431956 tw10914462385139431963 tw2519501234533342265 tw16803992169015982947 tw7654101352370401707 tw7403508743136988814 tw4265618109351775293 tw17908375193240881329 tw8859313429261407841 tw6391386197116508902 tw4587875485565249295 tw15644618654103279260 tw1238640186315319826 tw17666623530214272438 tw832021876647304040 tw2224475753437614339 tw11365802917487662807 tw8987215156994523051 tw8466593518988585172 tw6132997225206082626 tw4553445992385761946 tw16237560589208541886 tw1834549915039339705 tw4865477308341342094 tw8762128333306945846 tw8902669377087361774 tw12820888135278353163 tw9838173593335365582 tw2263881493673565080 tw7107077569339091474 tw12228061770878517260 tw10769714964493325845 tw293749791403317327 tw1151443302593657235 tw333694455359009658 tw17067656981556443608 tw14770834196365807612 tw1875044951924451701 tw12773660323744824575 tw14019092226633029446 tw7413342511630762650 tw2509264596042712434 tw16209099613786814655 tw1159796842881370542 tw8972333586887092124 tw10654688976228277735 tw9651590697970203614 tw10223176693138083233 tw6960697835937358040 tw2958123542490680712 tw10733829965294379111 tw4027966797738923169 tw16872080409929315568 tw9436442472403447678 tw17123875548534819947 tw3267373100483353464 tw17572739212503874446 tw14896308855961018264 tw7600170379048939381 tw6280403746493790044 tw547353612881643320 tw16322218105387536776 tw3122705272080664957 tw15480551411155024891 tw712374213073243835 tw14709024775266356990 tw15407679410395523676 tw2183774677997991973 tw13186050330963862131 tw7530937112052821761 tw11052231720161352069 tw5062666879103131918 tw4240649252642636033 tw12207125822830679902 tw7261912464124747107 tw7895854828642976258 tw3607404854753205682 tw10757905552942672017 tw8619210978983088754 tw10735448391269562485 tw15613052845233345200 tw1198449688845711558 tw1653112113758628288 tw15252982393706970217 tw1124019763528510021 tw10909607057163610598 tw1854881770752498076 tw5767926820223673278 tw17720446508384674889 tw11283712184542960770 tw13502340065793988838 tw17396028556642855452 tw5387629022415729839 tw11281894880196884570 tw2232902295287456728 tw3867699493479592186 tw16954671296786576477 tw1005848621363580600 tw9128307654401242281 tw4652783964042122251 tw16349885365204774057 tw4755383906116619626 tw2251928622474358883 tw16719200540692425379 tw10246010549321497461 tw15631128285787285209 tw17658609191382876320 tw7945132557955565999 tw17439793609527542481 tw17394732255638655624 tw3959367260329285371 tw6026970694568650931 tw3762234169937738808 tw1849881010143792302 tw7841178353787574691 tw16857120068251227516 tw11214622973706330725 tw7224803571488058086 tw14830012305482513946 tw13332137300054584590 tw12877482308712583023 tw6802809237017330259 tw12691664541635475071 tw14238027619113152874 tw7106873314743651523 tw5413594681943729716 tw13314075705816239516 tw7435670051867148648 tw2992438728216780761 tw12372725874462031831 tw2731515882507283220 tw15040100424019465855 tw14984255323964377075 tw3192203927801817385 tw14748147638582807869 tw7264304533428501865 tw9940090390993129122 tw4795616317874646680 tw8957237028826311710 tw1304331042246905550 tw3555813474098823211 tw16696041801500617037 tw15675874939442352872 tw12862106776495009553 tw16984616608232112498 tw14657027382872323125 tw10924517100857352950 tw4342562088134717101 tw18032291684424606531 tw11344134420580914735 tw6690760081461830117 tw15460941126840200198 tw5749293876687448054 tw12295009444575170543 tw9998180780597782902 tw4137974154848907661 tw7030014579728244639 tw7717515444760175729 tw3179687402145045134 tw14821972589308891282 tw6482930100384164593 tw7888564823805786604 tw16060591744405183968 tw18335938410721705696 tw2837105123446695162 tw5714685890205594967 tw12559186291023523839 tw5063312407956638430 tw4512934271487242730 tw11102094807867902789 tw12421652838817776094 tw7263154447142745908 tw1259548543513848319 tw16473238403864067477 tw13025074264213945479 tw7702833986197421576 tw6667612105593680433 tw2037576823355837281 tw3479714565007139374 tw11145128255706014804 tw8487082366139853887 tw16462810716518530820 tw15010784387741032839 tw5476385098095413100 tw967176575410843601 tw3662895999761782895 tw6158214700027563719 tw14663426900129444539 tw5624948887004572304 tw2813165344908176222 tw2153476126605083368 tw901336129566789993 tw5374063299657400795 tw10267335726725082785 tw14207932584974009532 tw14746502395929706042 tw17640874154044417665 tw11197672636931716776 tw16222825704369633024 tw10395289514144006674 tw6591492626089002113 tw695577937219614892 tw17643561146524169152 tw2126103314294998553 tw859608964381805541 tw1135448992892160133 tw15636243140699118341 tw13309356082521099268 tw17594334955700641946 tw1206441828704629978 tw3281265135212135665 tw7414806403432840053 tw15256894436482517222 tw3945904021226454365 tw11874794401811404832 tw328462695694914512 tw17661633493844133833 tw13418131647309151842 tw12194710776107616935 tw251659582912877306 tw7992711503962143815 tw12463841236504074431 tw13289170292417463336 tw1286720748925280530 tw13893087475029577027 tw14355184708515987326 tw2512612731916437700 tw18357904160064061486 tw6712308560638876231 tw2344530572700546345 tw1650825096843266406 tw17426037345931285952 tw12488348953151874555 tw7770890080190259109 tw1837319126354038563 tw9049377953033586190 tw12125383522250217061 tw10439057456587332341 tw13255379176323396967 tw5069148231896529907 tw5883966938277913113 tw2112756110779809480 tw14395496915350249361 tw17406613167965288278 tw3060606878523880858 tw13416630321330200940 tw14819518108031722406 tw1374252859240507592 tw12904421721805591786 tw2048700685259372782 tw394129916064100279 tw2063527575894689826 tw17821411759232468271 tw6264879738042633931 tw10435436227678954911 tw1175712286955769987 tw14997919003603455085 tw3818585896823837863 tw10724140079453660622 tw16839984005420012761 tw10254100326642438480 tw885498224247868474 tw14103203122913581630 tw1243933237801896357 tw15793964815258150352 tw7380533768971842538 tw3426993498798475597 tw16333499047364050419 tw14717145967317680704 tw14363802207826308549 tw4594428128992984101 tw10387818293580565167 tw8795017446768617103 tw165849998640761838 tw15119009143035407062 tw6902979081693823236 tw10234419617197453042 tw10845571425350307107 tw930784521241151466 tw14199544688456474390 tw2544348372343962207 tw4863378784507265666 tw3424246571780737455 tw3299071173722493316 tw3073732027856400720 tw305148971893959354 tw11646011576291218108 tw3937375841134330334 tw16657893592092430980 tw8733420535339734282 tw12786363355484319304 tw11976791082196430522 tw13076760026442199735 tw3160385633325539704 tw13027808418144596993 tw4990489888930809389 tw8676367128790917312 tw8260680179628420974 tw16811690159265735085 tw16571159861384045665 tw4764792676025630455 tw16004601173484733615 tw7599700173128168328 tw526153587053589496 tw4789418503774167430 tw7698771463722707628 tw13687436894314587124 tw1207444122540499126 tw3360296823977264619 tw5150616408283160578 tw10155861992687175461 tw2770614634974334758 tw7357543922012573912 tw3895693184771552739 tw1449848805736747247 tw1447247142060880188 tw8424996170521882005 tw4866484902398317090 tw3526776584491056338 tw18021531448515531137 tw18272962198979086283 tw1037919986098629810 tw14700124084009476910 tw5406123406352638419 tw8383234096612870867 tw7750995814630240953 tw11320875101557714472 tw17603469658239148448 tw4824957453049489617 tw9187123977801584891 tw8638774237905528076 tw7781850163484920982 tw5466316120811586841 tw9450443395806151624 tw6024924581017539552 tw4488352834280236863 tw16578346514538759677 tw13878805254932906172 tw11590628048730282407 tw3984230841044904546 tw8145486824336566894 tw4034107819910606275 tw17780756582556970307 tw10194124418337118244 tw9212966288395561737 tw8265099901840379378 tw4929276961510950159 tw12733626198082406143 tw10352134735099006799 tw10209677811146890902 tw9870860426896646391 tw6607974021586117867 tw4514350150388964857 tw393782216550358379 tw2266044670886665539 tw14418083043314382254 tw13763898707481155156 tw9962383498355803024 tw16154044044357613646 tw14726752342039780272 tw885164405164369995 tw7925865718307199018 tw6413456836518441403 tw6213068414679062229 tw4358171646613048961 tw3884143271417459443 tw1939478356137215925 tw17797589301993575519 tw10586714133475707830 tw5952734239699921908 tw5924515251855859961 tw5602874877009105435 tw4580059477665553789 tw15116220983032796558 tw10401720391801449774 tw14270777191133275583 tw6612529891352497604 tw12647894360879556858 tw17391162664241820697 tw1254006559480758052 tw8380123904006257982 tw17158679732558995076 tw9170729199276671001 tw12313738284420861205 tw17409347068493412078 tw14082355051375509771 tw2839946857949397626 tw15406191787496708246 tw8408443492960416961 tw5329855189623643713 tw15655265343782283459 tw10366088344425726403 tw15379895291623607995 tw13496471198428229882 tw10225768421154384861 tw13249410632775534689 tw5309936869504417040 tw2050443269761652845 tw8490833654452770896 tw7735462604446332268 tw1921327936862321645 tw2702957551340038008 tw2433930771321625026 tw15270668920133048538 tw12880673415402408055 tw289485919250427191 tw8750230190872490737 tw16177677633147747022 tw15065258031638169666 tw1358422451361694414 tw11714413950670594381 tw9152748110715975481 tw4971713185576313260 tw2297177232817980102 tw2060413060631587598 tw13493248970545726353 tw13063547366135496744 tw9666646495194882172 tw42837233691015953 tw2586986071011885063 tw1684636541518202452 tw8821117741133091605 tw14932470511740891743 tw4582857136419681593 tw16903698863919844496 tw17043168072087743707 tw14320085942493263999 tw1074461141150506085 tw6067743085859443249 tw11689792175730618062 tw4043071652455615431 tw2735022991506496880 tw9126522246642656243 tw9605817055738792924 tw16006884245044231492 tw1281973256300886244 tw10074540064683258761 tw16265259395051563688 tw2094502201386563791 tw15298348169626006298 tw14134911534511198172 tw9843167658779576005 tw6007768843923981200 tw2541570302791390953 tw12008601164722029706 tw6310932841669671587 tw5163284144569426201 tw15168704875666754944 tw3149295259634726477 tw17647380586559112159 tw12288097944550357132 tw9065004548004427763 tw2288912383925985392 tw9298766748595604131 tw8870303643913845424 tw14519594449265073380 tw14075412637603046497 tw11443886867275620214 tw10518945252753026090 tw8995685565469983886 tw11063083999348999800 tw13166403274805638413 tw370636166878242658 tw2185178489024928063 tw4895098202326545146 tw6202453995545969565 tw8987260068936258005 tw16869114966882786500 tw6826815792090493871 tw16761731546574601318 tw2360632476217374603 tw13248777728289598877 tw6269304134073361330 tw17033657325014246095 tw9734661971399586844 tw583517699953989732 tw5613932424440873057 tw15383280516578232227 tw865790099844084631 tw2723170269807434241 tw12109155032282821703 tw11285258723165596133 tw9519770609956905525 tw18216541725950012330 tw4230587392738708411 tw10062022157609740603 tw12230214444377024169 tw6869969920140552260 tw6443329972615418254 tw6260953271320908660 tw4595708538846765513 tw17184583292848104159 tw16674349863611023502 tw13464192475554801668 tw11309016399742105048 tw11146190501780856894 tw10662899018807939564 tw3908537047129603484 tw12798419099015538330 tw16543812301822683998 tw11076421472940227006 tw9656655316003540370 tw8523256538549085330 tw8132426295509251072 tw6573835899214641335 tw4277926030416366986 tw376826067317424102 tw2201816875721693998 tw15746689251542031915 tw12937564224625728753 tw12301618889039657879 tw10401326066875947721 tw3635685507041644651 tw9324339432532176502 tw7078722314488977513 tw6777262940551419381 tw4675049557503838425 tw3315987156168485608 tw1685245244383952110 tw15975152787465173764 tw8030680876916746671 tw5161030437811602642 tw17674433300026534349 tw16633306686798552626 tw14212954983613686295 tw10989296611755522772 tw8875995452374756341 tw8266854529307016349 tw6062854962610458135 tw1952142411193455955 tw16123912743109560371 tw15542007607427143111 tw15413313184221343552 tw1042717600445394225 tw11560881394849999350 tw8065036495533887723 tw5024379704866821687 tw13246586070073805356 tw10871368785191129621 tw7523184518571336526 tw16444154211059077729 tw4959880174254488355 tw1017010612966605096 tw8066311338706015164 tw8034640680906278671 tw6738755961825906972 tw6382195851368540650 tw630217501699242978 tw560895568701929295 tw3514432698308142567 tw2988051283154230707 tw2968716731105134693 tw2826047638025041786 tw18405367871447112956 tw15921355400276350820 tw14289740257846459519 tw13787432308403082063 tw11432627067605650515 tw10399582500986643533 tw10081545222765844697 tw8694955465727733971 tw2640661908165911887 tw458194466932828141 tw9505156691782109716 tw6708852071697160085 tw4636926999652551590 tw4544525591181884195 tw2125127261327235167 tw1833003733535016980 tw17307450570300270796 tw16939068179139370368 tw16615537943185894704 tw16380165144473367015 tw15624011502952061302 tw14820873831172559318 tw14502103692883352578 tw14409802959213712000 tw10326386799551588496 tw9385487243447641453 tw9002207660681277517 tw8494475328973781013 tw8201399882930989957 tw6045993904245192137 tw3344471889602510367 tw17899052797654688981 tw17595353021962087985 tw1603183623432157863 tw14331662183210881321 tw12849781101926772206 tw1267787334008870120 tw12554797151147069091 tw11676953090622319263 tw11112725776220916131 tw9325601052937082288 tw6206695965978032523 tw18027368650988753479 tw1626025217504314210 tw1528025295835944214 tw14517155737429547268 tw12127129317241464646 tw11168907250023742328:True)
open PySem PySem.W PyProof.Rows
set_option tactic.hygienic true
set_option maxRecDepth 100000 in
set_option maxHeartbeats 0 in
theorem PySem.Challenge.cw_lampway_k42_whole_nobody_waits_longer_holds : PySem.Challenge.rw_lampway_k42_whole_nobody_waits_longer.Holds := by
 w_on;o_law;k_head;(case hw=>w_witness2)
 k_fill
 refine My.af4 (l:=PySem.Challenge.rw_lampway_k42_whole_nobody_waits_longer) (n:=63) (k:=21) (x := "_law_script") (CX:=L2.dk) (sp:=My.P1) rfl (by decide) rfl ⟨rfl,by decide,by decide⟩ (fun w h Y=>PySem.W.km_in_of Y) (fun w h Y=>⟨amk Y _ (ZJ _),amk Y _ (List.Mem.tail _ (ZJ _))⟩) (by decide) (by intro p;kernel_rfl) ?F ?S ?C
 case F=>
  intro w mg gf h kk G wU ar fV;have T:∃ t,My.Txt w (L2.Dr kk) mg t/\EN (L2.Dr kk) t.Re (L2.L8 ar)=true/\EN (L2.Dr kk) t.xv (L2.L8 fV)=true:=by
   dsimp only [L2.Dr,L2.L8];refine' ⟨My.bK.mk,⟨⟨?mqaa,?Fqab,?mqac,?Fqad,?mqae,?Fqaf,?mqag,?Fqah,?mqai,?Fqaj,?mqak,?Fqal,?mqam,?Fqan,?mqao,?Fqap,?mqaq,?Fqar,?mqas,?Fqat⟩,⟨?mqau,?Fqav,?mqaw,?Fqax,?mqay,?Fqaz,?mqba,?Fqbb,?mqbc,?Fqbd,?mqbe,?Fqbf,?mqbg,?Fqbh,?mqbi,?Fqbj,?mqbk,?Fqbl,?mqbm,?Fqbn⟩,⟨?mqbo,?Fqbp,?mqbq,?Fqbr,?mqbs,?Fqbt,?mqbu,?Fqbv,?mqbw,?Fqbx,?mqby,?Fqbz,?mqca,?Fqcb,?mqcc,?Fqcd,?mqce,?Fqcf,?mqcg,?Fqch⟩,⟨?mqci,?Fqcj,?mqck,?Fqcl,?mqcm,?Fqcn,?mqco,?Fqcp,?mqcq,?Fqcr,?mqcs,?Fqct,?mqcu,?Fqcv,?mqcw,?Fqcx,?mqcy,?Fqcz,?mqda,?Fqdb⟩,⟨?mqdc,?Fqdd,?mqde,?Fqdf,?mqdg,?Fqdh,?mqdi,?Fqdj,?mqdk,?Fqdl,?mqdm,?Fqdn,?mqdo,?Fqdp,?mqdq,?Fqdr,?mqds,?Fqdt,?mqdu,?eqdv⟩,⟨?Fqdw,?eqdx,?Fqdy,?eqdz,?Fqea,?eqeb,?Fqec,?eqed,?Fqee,?eqef,?Fqeg,?eqeh,?Fqei,?mqej,?eqek,?Fqel,?mqem,?eqen,?Fqeo,?mqep⟩,⟨?eqeq,?Fqer,?eqes,?Fqet,?eqeu,?Fqev,?mqew,?eqex,?Fqey,?eqez,?Fqfa,?eqfb,?Fqfc,?mqfd,?eqfe,?Fqff,?eqfg,?Fqfh,?eqfi,?Fqfj⟩,⟨?mqfk,?eqfl,?Fqfm,?eqfn,?Fqfo,?eqfp,?Fqfq,?eqfr,?Fqfs,?mqft,?eqfu,?Fqfv,?eqfw,?Fqfx,?eqfy,?Fqfz,?eqga,?Fqgb,?eqgc,?Fqgd⟩,⟨?eqge,?Fqgf,?eqgg,?Fqgh,?eqgi,?Fqgj,?eqgk,?Fqgl,?eqgm,?Fqgn,?eqgo,?Fqgp,?eqgq,?Fqgr,?sqgs,?sqgt,?sqgu,?sqgv,?sqgw,?sqgx⟩,⟨?sqgy,?sqgz,?nqha,?nqhb,?nqhc,?sqhd,?sqhe,?nqhf,?nqhg,?nqhh,?nqhi,?nqhj,?nqhk,?nqhl,?nqhm,?sqhn,?sqho,?sqhp,?sqhq,?sqhr⟩,⟨?nqhs,?nqht,?nqhu,?nqhv,?nqhw,?nqhx,?nqhy,?sqhz,?sqia,?sqib,?sqic,?nqid,?nqie,?nqif,?nqig,?nqih,?nqii,?nqij,?sqik,?sqil⟩,⟨?sqim,?sqin,?nqio,?nqip,?nqiq,?nqir,?nqis,?nqit,?nqiu,?sqiv,?sqiw,?sqix,?sqiy,?sqiz,?nqja,?nqjb,?nqjc,?sqjd,?sqje,?sqjf⟩,⟨?sqjg,?sqjh,?sqji,?sqjj,?sqjk,?sqjl,?sqjm,?sqjn,?sqjo,?sqjp,?nqjq,?nqjr,?nqjs,?nqjt,?nqju,?nqjv,?nqjw,?nqjx,?dqjy,?dqjz⟩,⟨?dqka,?sqkb,?mqkc,?vqkd,?mqke,?vqkf,?mqkg,?vqkh,?mqki,?vqkj,?mqkk,?vqkl,?mqkm,?vqkn,?mqko,?vqkp,?mqkq,?vqkr,?mqks,?vqkt⟩,⟨?mqku,?vqkv,?mqkw,?vqkx,?mqky,?vqkz,?bqla,?bqlb,?bqlc,?bqld,?bqle,?bqlf,?bqlg,?bqlh,?bqli,?bqlj,?bqlk,?bqll,?cqlm,?cqln⟩,?lqlo⟩,?zcc,?zcd⟩
   case mqaa | mqac | mqae | mqag | mqai | mqak | mqam | mqao | mqaq | mqas | mqau | mqaw | mqay | mqba | mqbc | mqbe | mqbg | mqbi | mqbk | mqbm | mqbo | mqbq | mqbs | mqbu | mqbw | mqby | mqca | mqcc | mqce | mqcg | mqci | mqck | mqcm | mqco | mqcq | mqcs | mqcu | mqcw | mqcy | mqda | mqdc | mqde | mqdg | mqdi | mqdk | mqdm | mqdo | mqdq | mqds | mqdu | mqej | mqem | mqep | mqew | mqfd | mqfk | mqft | mqkc | mqke | mqkg | mqki | mqkk | mqkm | mqko | mqkq | mqks | mqku | mqkw | mqky=>(try dsimp only);refine' PySem.W.mg_of kk G ?z;case z=>k_is
   case eqdv | eqdx | eqdz | eqeb | eqed | eqef | eqeh | eqek | eqen | eqeq | eqes | eqeu | eqex | eqez | eqfb | eqfe | eqfg | eqfi | eqfl | eqfn | eqfp | eqfr | eqfu | eqfw | eqfy | eqga | eqgc | eqge | eqgg | eqgi | eqgk | eqgm | eqgo | eqgq=>(try dsimp only);k_is
   case sqgs | sqgt | sqgu | sqgv | sqgw | sqgx | sqgy | sqgz | sqhd | sqhe | sqhn | sqho | sqhp | sqhq | sqhr | sqhz | sqia | sqib | sqic | sqik | sqil | sqim | sqin | sqiv | sqiw | sqix | sqiy | sqiz | sqjd | sqje | sqjf | sqjg | sqjh | sqji | sqjj | sqjk | sqjl | sqjm | sqjn | sqjo | sqjp | sqkb=>(try dsimp only);constructor <;> k_is
   case Fqab | Fqad | Fqaf | Fqah | Fqaj | Fqal | Fqan | Fqap | Fqar | Fqat | Fqav | Fqax | Fqaz | Fqbb | Fqbd | Fqbf | Fqbh | Fqbj | Fqbl | Fqbn | Fqbp | Fqbr | Fqbt | Fqbv | Fqbx | Fqbz | Fqcb | Fqcd | Fqcf | Fqch | Fqcj | Fqcl | Fqcn | Fqcp | Fqcr | Fqct | Fqcv | Fqcx | Fqcz | Fqdb | Fqdd | Fqdf | Fqdh | Fqdj | Fqdl | Fqdn | Fqdp | Fqdr | Fqdt | Fqdw | Fqdy | Fqea | Fqec | Fqee | Fqeg | Fqei | Fqel | Fqeo | Fqer | Fqet | Fqev | Fqey | Fqfa | Fqfc | Fqff | Fqfh | Fqfj | Fqfm | Fqfo | Fqfq | Fqfs | Fqfv | Fqfx | Fqfz | Fqgb | Fqgd | Fqgf | Fqgh | Fqgj | Fqgl | Fqgn | Fqgp | Fqgr=>(try dsimp only);refine' L2.ae_ ?x ?y ?z;(case x=>k_is);(case y=>k_is);(case z=>k_is)
   case cqlm | cqln=>(try dsimp only);(try rfl)
   case nqha | nqhb | nqhc | nqhf | nqhg | nqhh | nqhi | nqhj | nqhk | nqhl | nqhm | nqhs | nqht | nqhu | nqhv | nqhw | nqhx | nqhy | nqid | nqie | nqif | nqig | nqih | nqii | nqij | nqio | nqip | nqiq | nqir | nqis | nqit | nqiu | nqja | nqjb | nqjc | nqjq | nqjr | nqjs | nqjt | nqju | nqjv | nqjw | nqjx=>(try dsimp only);unfold L2.dD;k_is
   case dqjy | dqjz | dqka=>(try dsimp only);decide
   case vqkd | vqkf | vqkh | vqkj | vqkl | vqkn | vqkp | vqkr | vqkt | vqkv | vqkx | vqkz=>(try dsimp only);exact ⟨_,rfl⟩
   case bqla | bqlb | bqlc | bqld | bqle | bqlf | bqlg | bqlh | bqli | bqlj | bqlk | bqll=>(try dsimp only);refine' PySem.W.mg_none_of kk G ?z;case z=>k_is
   case lqlo=>(try dsimp only);exact fun _ _=>.of_eq rfl
   case zcc=>(try dsimp only);kernel_rfl
   case zcd=>(try dsimp only);kernel_rfl
  obtain ⟨t,T,uF,jh⟩:=T;have eK:=wU.symm.trans T.ad_;cases eK;exact ⟨t.AO,t.Re,t.xv,T.ac1,uF,jh,fun base Uq nb dg hB Jp Gz=>My.amI T dg hB Jp Gz⟩
 case S=>exact fun K H a hF jb ns aL kJ lG dE=>⟨a,ns,rfl,My.aiO lG dE,aL,⟨#[],lG.1 _ (.head _),.inl rfl⟩,⟨#[],lG.1 _ (.tail _ (.head _)),.inl rfl⟩,kJ,fun _=>rfl⟩
 case C=>exact fun _ _ _ _ z=>z
