import PyProof.Rows.All
import Wide.All
import OpenK.AllK
import Wide.FinOn
import Lean
import PyProof.EqAt
import PyProof.EqKinds
import PyProof.TupleCall
import KE.KTryMore
import PyProof.NsDelKeeps
import PySem.Challenge.RW_lampway_k52_a_road_asks
set_option compiler.extract_closed false
set_option Elab.async false
set_option linter.all false
set_option autoImplicit true
set_option maxRecDepth 100000
local macro_rules | `(tactic| ac_nf)=>`(tactic| decide +kernel)
open Array renaming append_assoc→aci,getElem?_eq_none→YP,getElem?_toList→Hg,length_toList→A3,toList→acf,toList_append→oT,toList_inj→T'
open Bool renaming and_eq_true→jF,and_false→aap,eq_iff_iff→lp,false_and→nJ,false_eq_true→LV,false_ne_true→fY,false_or→lF,not_true→YM,or_eq_false_iff→Aa,or_eq_true→yH,or_false→Pb,or_true→Sy,true_and→mA,true_or→tI
open Char renaming toNat→we
open Except renaming ok→rB
open False renaming elim→jh
open ForInStep renaming yield→y'
open Int renaming emod_eq_of_lt→x9,emod_lt_of_pos→C0,emod_nonneg→BY,le_refl→yt,mul_lt_mul'→afP,mul_nonneg→akV,toNat_natCast→rq,toNat_of_nonneg→rP,zero_add→rJ
open List renaming all_cons→aeP,all_eq_true→pE,any_cons→zl,any_eq_false→Kt,any_eq_true→tl,any_map→ae1,append_assoc→q_,append_nil→vJ,cons_append→xn,contains_cons→VU,drop_eq_getElem_cons→sT,drop_length→y8,drop_zero→ajc,exists_cons_of_ne_nil→v3,filterMap_cons→Oe,filter_congr→ain,filter_cons→YY,filter_cons_of_neg→ahA,filter_cons_of_pos→aal,filter_eq_nil_iff→PF,find?→aln,find?_cons→o_,find?_eq_none→Zo,findIdx?_eq_some_iff_getElem→WX,findSome?_cons→E4,findSome?_eq_none_iff→H7,flatMap_append→Ec,flatMap_cons→yg,flatMap_nil→aaM,flatten_append→aml,flatten_cons→uN,foldl_append→zR,getD→Bf,getD_eq_getElem?_getD→j_,getElem?_append_left→n8,getElem?_append_right→mK,getElem?_cons_succ→xd,getElem?_eq_getElem→bo,getElem?_eq_none→VC,getElem?_eq_none_iff→IP,getElem?_eq_some_iff→cb,getElem?_map→dO,getElem?_of_mem→iG,getElem?_set_ne→H',getElem?_set_self→NU,getElem?_take_of_lt→rO,getElem_inj→tP,getElem_map→pP,getElem_mem→kT,getElem_of_mem→LL,head?_eq_none_iff→akl,length→ru,length_append→dS,length_cons→hT,length_drop→t8,length_filter_le→um,length_map→aO,length_nil→wz,length_pos_iff→SX,length_pos_of_mem→afo,length_range→uY,length_set→OW,length_singleton→tb,length_take→gK,lookup→pU,lookup_cons→kQ,map→oJ,map_append→fx,map_congr_left→HT,map_cons→eu,map_map→nr,map_nil→q2,map_take→acs,mem_append→gU,mem_append_left→wY,mem_append_right→kI,mem_cons→eZ,mem_cons_of_mem→iu,mem_cons_self→m9,mem_filter→lE,mem_filterMap→Ya,mem_flatten→RA,mem_iff_getElem→agE,mem_map→cw,mem_of_getElem?→cQ,mem_of_mem_drop→acu,mem_of_mem_take→yM,mem_or_eq_of_mem_set→R_,mem_range→sq,mem_singleton→fG,nil_append→Hm,nodup_append→Af,nodup_cons→rX,nodup_nil→IH,not_mem_nil→qD,of_mem_zip→Qw,pairwise_iff_getElem→ad',perm_append_comm→agT,perm_middle→aav,range→fW,range_succ→y5,replicate→Ur,reverse_cons→afs,set_cons_succ→jD,set_cons_zero→jn,size_toArray→d8,sublist_flatten_of_mem→ae7,sum_cons→G3,take_add_one→pw,take_append_drop→M8,take_length→hB,take_of_length_le→Fm,take_zero→sM
open List.Pairwise renaming imp_of_mem→ap5,nil→apy
open List.Perm renaming append_left→YU
open List.cons renaming inj→xk
open Nat renaming le_of_eq→acT,le_of_lt→ni,le_refl→bR,le_succ→BN,le_trans→c7,log2_lt→aj4,lt_irrefl→l_,lt_of_le_of_lt→f5,lt_of_lt_of_le→h6,lt_of_not_le→Jg,lt_or_ge→MN,lt_succ_self→LW,lt_trans→Sr,lt_trichotomy→ahs,min_eq_left→ad5,mod_add_div→afx,mul_le_mul_left→Yb,mul_succ→YW,ne_of_gt→BR,ne_of_lt→fX,reduceAdd→akr,reduceSub→aa1,sub_self→Fe,succ_le_succ→Ry,succ_mul→anr,toDigits→vT,zero_add→ZU,zero_le→e5
open Ne renaming symm→cX
open Option renaming bind_some→yL,getD_none→adz,isSome_iff_exists→ajT,isSome_map→Yk,map_eq_some_iff→zS,map_some→Ep,none→vm,toList→DP
open Option.some renaming inj→dX
open Or renaming inl→mx,inr→nX
open Prod.mk renaming inj→SR
open PyProof.Rows renaming callWith_builtin1→apx,callWith_type1→Sd,iadd_int→aoH,isub_int→anS,slot_tuple_getitem→Wd,split_weight→amE
open PySem renaming Within→GG,call→al7,mem_of_lookup→uj
open PySem.Around renaming frames_deeper→agR,under→SS,under_plainId→M3
open PySem.Builtin.Builtins renaming bindParams→aky
open PySem.Builtin.Dict renaming dictSlotNone→anF,showsAll→afr
open PySem.Builtin.Dict_items renaming ownsTuple→aft
open PySem.Builtin.List renaming listTooLong→PE
open PySem.Builtin.Range renaming rangeSize→anQ
open PySem.Builtin.Slice renaming sliceAdjust→Uy,sliceApplied→alJ,sliceFields→aqy,slicePartIndex→aoG,slicePlaces→Hh
open PySem.Builtin.Str renaming occurrences→tr,partsBetween→adp,strKind→ajX
open PySem.Builtin.Tuple renaming tupleExact→L0,tupleItemsOf→aoz
open PySem.Calls renaming Name_function_global→agq,callWith_builtin→Si,evalArgs_plain→acr,spliced_cons→RN,spliced_nil→ad3
open PySem.CmpOp renaming NotIn→afO
open PySem.Code renaming frames→X_,isFrame→V1
open PySem.Data renaming cell→Wf,fields→N9
open PySem.EqMixed renaming eq_bool_str→apV,eq_int_str→anK,eq_str_bool→ao9,eq_str_int→anD,ne_bool_str→aqC,ne_int_str→aow,ne_str_bool→apr,ne_str_int→apW
open PySem.EqNone renaming eq_bool_none→apT,eq_int_none→anE,eq_none_bool→aql,eq_none_int→anI,eq_none_none→apt,eq_none_str→aoP,eq_str_none→apq,ne_bool_none→anU,ne_int_none→aod,ne_none_bool→apZ,ne_none_int→aon,ne_none_none→aqB,ne_none_str→an2,ne_str_none→aoJ
open PySem.F renaming args_dict_keyiterator_next_1→ac2,args_dict_pop_3→YN,args_str_split_2→NF,entry_dict_keyiterator_next→acV,entry_dict_pop→abL,entry_min_loop→SO,entry_str_split→SE,plainAttrs_dict→qC,plainAttrs_list→ja,plainAttrs_str→t5,plain_min_loop→uJ,slot_dict_getitem→ajY,slot_dict_items→sx,slot_dict_iter→Yj,slot_dict_keyiterator_next→A',slot_dict_pop→Pz,slot_dict_values→afL,slot_list_append→mc,slot_list_extend→DW,slot_list_insert→Us,slot_list_pop→Z5,slot_str_join→Bq,slot_str_split→Bz,type_dict_items→vR,type_list_append→ng,type_list_extend→Gj,type_list_insert→aji,type_str_join→CK,type_str_split→aj8
open PySem.Heap renaming SameBut→uH,get?_push_of_some→eP,get?_push_size→hp,get?_update_other→vA,get?_update_self→abz,lt_size→ek,size_push→P1
open PySem.Heap.IsSliceOf renaming new→apb
open PySem.Heap.SameBut renaming update→ad9
open PySem.NameKind renaming cell→N6,free→q6
open PySem.NumText renaming digitsVal→Vg
open PySem.Obj renaming data_mapFields→aex,mapFields→ZH,mapSeq→qJ
open PySem.Paired renaming length→Ii,snoc→Wi
open PySem.PassesOwn renaming never→fj
open PySem.SeqAt renaming EqAt→Kb,RcAt→KZ
open PySem.SeqAt.EqAt renaming int_str→afN,of_refs→WT,same→TP,str_int→aaW
open PySem.SeqAt.RcNeAt renaming lists→apc,lists_lengths→aoR,tuples→aqG
open PySem.Str renaming cps_append→o5,join→d7,length→uC,ofString→ab
open PySem.StrLaws renaming glued_eq_join→w8,sliceText→uh
open PySem.Txt renaming join→pI,slice→lI,slice_le→v7,split→iY
open PySem.Value renaming bool→kE,bytes→adA,float→ai1,int→nz,isInt→ai7,isStrOf→amk,none→td,ref→fi,str→y6,type→XS
open PySem.W renaming CodeHd→pL,Frag→ba,callWith_K→Ay,callWith_K0→afa,cellsFrom_some→amC,clsIn→aij,codeHdIn→aeC,codeIn→Nb,emptyDict→qV,envX→Jc,findCls→aho,findIn→c3,fnOf→zg,handedIn→ZP,hasDictIn→zu,instObj→r4,isFn→Qc,keepIn→sN,kla_fn→abJ,kla_obj→wD,lookIn→Ko,makesIn→aha,methodCall_KW→zA,methodObj→OC,mroIn→E8,noTabs→aaA,plainGet→MM,plainGet_of→VA,plainOver→adM,readsIn→Yf,specialIn→vo,tabObj→Vx,takerIn→UO,takesIn→Hd,typeIn→ani
open PySem.W.KIN renaming signs_num→aeh
open PySem.W.Looks renaming here→ap1
open PySem.W.WData renaming int→Xq
open PySem.W.WShape renaming has→aht
open PySem.Walks renaming list→A2
open PySem.Within renaming cons→an0
open Sum renaming inl→qH,inr→bD
open Sum.inr renaming inj→qx
open True renaming intro→lr
namespace L2
open PySem PySem.Spec PyProof.Rows
noncomputable abbrev Key:=Sum Int Str
noncomputable def uO:Key->Value->Bool
 | .inl k,v=>ai7 k v
 | .inr x,v=>amk x v
noncomputable def aeu (w:World):Key->Int
 | .inl k=>hashInt k
 | .inr x=>hashStr w x
theorem n_:∀ {k:Key} {v:Value},uO k v=true->(∃ i t,k=qH i/\v=nz i t)\/(∃ x t,k=bD x/\v=y6 x t)
 | .inl i,v,h=>by
  obtain ⟨t,e⟩:=Value.isInt_shape (k:=i) (v:=v) h;exact .inl ⟨i,t,rfl,e⟩
 | .inr x,v,h=>by
  obtain ⟨t,e⟩:=Value.isStrOf_shape (x:=x) (v:=v) h;exact .inr ⟨x,t,rfl,e⟩
theorem abV (i:Int) (t:Tok):uO (.inl i) (.int i t)=true:=by simp [uO,ai7]
theorem ajR (x:Str) (t:Tok):uO (.inr x) (.str x t)=true:=by simp [uO,amk]
theorem ahz (a b:Int):decide ((qH a:Key)=qH b)=(a == b):=by
 by_cases e:a=b
 .subst e;simp
 .have h:¬ (qH a:Key)=qH b:=fun q=>e (Sum.inl.inj q)
  rw [decide_eq_false h];exact (beq_eq_false_iff_ne.mpr e).symm
theorem ag5 (a b:Str):decide ((bD a:Key)=bD b)=decide (a=b):=by
 by_cases e:a=b
 .subst e;simp
 .have h:¬ (bD a:Key)=bD b:=fun q=>e (qx q)
  rw [decide_eq_false h,decide_eq_false e]
theorem am7 (a:Int) (b:Str):decide ((qH a:Key)=bD b)=false:=decide_eq_false (fun q=>nomatch q)
theorem ahB (a:Str) (b:Int):decide ((bD a:Key)=qH b)=false:=decide_eq_false (fun q=>nomatch q)
noncomputable def gJ (prog:Program) (w:World):PySem.KeyKind prog w Key where
 is:=uO
 hash:=aeu w
 inj:=fun v a b aZ aa=>by
  rcases n_ aZ with ⟨i,t,rfl,rfl⟩ | ⟨x,t,rfl,rfl⟩
  .rcases n_ aa with ⟨j,u,rfl,e⟩ | ⟨y,u,rfl,e⟩
   .injection e with aw _;rw [aw]
   .exact nomatch e
  .rcases n_ aa with ⟨j,u,rfl,e⟩ | ⟨y,u,rfl,e⟩
   .exact nomatch e
   .injection e with aw _;rw [aw]
 byValue:=fun k v h=>by
  rcases n_ h with ⟨i,t,rfl,rfl⟩ | ⟨x,t,rfl,rfl⟩ <;> rfl
 pyHash:=fun aJ h=>by
  rcases n_ aJ with ⟨i,t,rfl,rfl⟩ | ⟨x,t,rfl,rfl⟩
  .exact wpAny_pyHash_int h
  .exact wpAny_pyHash_str h
 eqBool:=fun bt aJ h=>by
  rcases n_ bt with ⟨i,t,rfl,rfl⟩ | ⟨x,t,rfl,rfl⟩
  .rcases n_ aJ with ⟨j,u,rfl,rfl⟩ | ⟨y,u,rfl,rfl⟩
   .rw [ahz] at h;exact wpAny_eqBool_int h
   .rw [am7] at h;exact afN i t y u _ _ _ _ h
  .rcases n_ aJ with ⟨j,u,rfl,rfl⟩ | ⟨y,u,rfl,rfl⟩
   .rw [ahB] at h;exact aaW x t j u _ _ _ _ h
   .rw [ag5] at h;exact wpAny_eqBool_str h
 «strs»:=fun k x t v h=>by
  rcases n_ h with ⟨i,u,rfl,e⟩ | ⟨y,u,rfl,e⟩
  .exact nomatch e
  .injection e with aw _;subst aw;cases v <;> rfl
theorem ajA (prog:Program) (w:World) (i:Int) (t:Tok):(gJ prog w).is (.inl i) (.int i t)=true:=abV i t
theorem aaf (prog:Program) (w:World) (x:Str) (t:Tok):(gJ prog w).is (.inr x) (.str x t)=true:=ajR x t
inductive V where
 | b' | bB (b:Bool) | int (i:Int) | str (x:Str) | k5 (b:Array UInt8) | vt (b:UInt64) | ref (a:Addr) | ty (n:String)
 deriving DecidableEq
noncomputable def bK:V->Value->Prop
 | .b',u=>u=td
 | .bB b,u=>u=kE b
 | .int i,u=>∃ t,u=nz i t
 | .str x,u=>∃ t,u=y6 x t
 | .k5 b,u=>∃ t,u=adA b t
 | .vt b,u=>∃ t,u=ai1 b t
 | .ref a,u=>u=fi a
 | .ty n,u=>u=XS n
noncomputable abbrev b1:List V->List Value->Prop:=Paired bK
theorem b1.length (r:b1 xs us):xs.length=us.length:=Ii r
theorem b1.get:∀ {xs:List V} {us:List Value} {i:Nat} {x:V},b1 xs us->xs[i]? = some x->∃ u,us[i]? = some u/\bK x u
 | _,_,_,_,.nil,e=>by simp at e
 | _,_,0,_,.cons r _,e=>by simp at e;subst e;exact ⟨_,rfl,r⟩
 | _,_,i + 1,x,.cons _ t,e=>by
  obtain ⟨u,af,ak⟩:=b1.get (i:=i) (x:=x) t (by simpa using e);exact ⟨u,by simpa using af,ak⟩
theorem b1.set {x:V} (r:bK x u):∀ {xs:List V} {us:List Value} (i:Nat),b1 xs us->b1 (xs.set i x) (us.set i u)
 | _,_,_,.nil=>.nil
 | _,_,0,.cons _ t=>.cons r t
 | _,_,i + 1,.cons q t=>.cons q (b1.set r i t)
theorem b1.append:∀ {xs ys:List V} {us ws:List Value},b1 xs us->b1 ys ws->b1 (xs ++ ys) (us ++ ws)
 | _,_,_,_,.nil,s=>s
 | _,_,_,_,.cons r t,s=>.cons r (b1.append t s)
theorem b1.take:∀ {xs:List V} {us:List Value} (n:Nat),b1 xs us->b1 (xs.take n) (us.take n)
 | _,_,0,_=>.nil
 | _,_,_ + 1,.nil=>.nil
 | _,_,n + 1,.cons r t=>.cons r (b1.take n t)
theorem b1.drop:∀ {xs:List V} {us:List Value} (n:Nat),b1 xs us->b1 (xs.drop n) (us.drop n)
 | _,_,0,r=>r
 | _,_,_ + 1,.nil=>.nil
 | _,_,n + 1,.cons _ t=>b1.drop n t
theorem b1.none_of:∀ {xs:List V} {us:List Value} {i:Nat},b1 xs us->xs[i]? = none->us[i]? = none:=fun {xs us i} r e=>by
 have af:=r.length;have ak:xs.length <= i:=IP.mp e;exact IP.mpr (by omega)
noncomputable def h_:Option V->Option Value->Prop
 | some v,some u=>bK v u
 | none,none=>True
 | _,_=>False
noncomputable def eE {eC:Type}:List (eC × V)->List (eC × Value)->Prop:=Paired fun (p:eC × V) (q:eC × Value)=>p.1=q.1/\bK p.2 q.2
noncomputable def c9:Key->V
 | .inl i=>.int i
 | .inr x=>.str x
inductive dU where
  | lst (xs:List V)
  | tup (xs:List V)
  | a5 (kvs:List (Key × V)) | gq (kvs:List (List Key × V))
  | set (S:Int->Bool) (n:Nat)
  | ins (C ar:Addr) (aR:List (Str × V))
  | own (x:Addr)
  | Bs (aR:List (Str × V))
  | met (f x:Addr)
  | zG (lo ah:Int)
  | dx (o:Obj) (u:dU)
  | gQ (ps:Array Value)
  | ext (vG:Heap->Prop)
noncomputable abbrev au:=Addr->Option dU
noncomputable def upd (H:au) (a:Addr) (o:dU):au:=fun b=>if b=a then some o else H b
theorem db:upd H a o a=some o:=by unfold upd;rw [if_pos rfl]
theorem aA (h:b ≠ a):upd H a o b=H b:=by unfold upd;rw [if_neg h]
theorem tp:upd (upd H a o) a u=upd H a u:=by
 funext b;unfold upd;split <;> rfl
theorem br {H:au} {a b:Addr} {o u:dU} (h:H a=some o) (h':H b=some u) (d:o ≠ u):a ≠ b:=by
 intro e;subst e;rw [h] at h';exact d (dX h')
theorem dj {H:au} {a b:Addr} {o:dU} (h:H a=some o) (h':H b=none):a ≠ b:=by
 intro e;subst e;rw [h] at h';cases h'
section
variable (P:Program) (w:World)
noncomputable def d9 (H:au) (h:Heap) (a:Addr):dU->Prop
 | .lst xs=>xs.length <= sizeLine/\∃ (a4:List Value) (n:Nat),b1 xs a4/\h.get? a=some { cls:=.type "list",data:=.seq a4.toArray n }
 | .tup xs=>xs.length <= sizeLine/\∃ a4:List Value,b1 xs a4/\IsTup h a a4.toArray
 | .a5 kvs=>kvs.length <= sizeLine/\(a == sysModules)=false/\∃ vs,eE kvs vs/\h.DictOf (gJ P w) a vs
 | .gq kvs=>kvs.length <= sizeLine/\(a == sysModules)=false/\∃ xs:List (List Key × Addr × Value),
   Paired (fun (p:List Key × V) (q:List Key × Addr × Value)=>p.1=q.1/\H q.2.1=some (.tup (p.1.map c9))/\bK p.2 q.2.2) kvs xs /\
   ∃ o a0 ep,h.get? a=some o/\o.ExactDict/\o.data=.dict a0 ep/\a0.toList=xs.map (entryOfKey (tupleKind (gJ P w)))/\(xs.map (·.1)).Nodup
 | .set S n=>h.SetOf (intKind P w) a S n
 | .ins C ar aR=>H ar=some (.own a)/\aR.length <= 1000/\ar ≠ a/\h.get? a=some (r4 C ar) /\
   ∃ d6,h.Ns1 ar d6/\(∀ f,h_ (aR.lookup f) (d6 f))/\GG d6 (aR.map (·.1))
 | .own _=>∃ o,h.get? a=some o
 | .Bs aR=>∃ d6,h.Ns1 a d6/\∀ f,h_ (aR.lookup f) (d6 f)
 | .zG lo ah=>∃ t u v,h.get? a=some { cls:=.type "range",data:=.fields #[.int lo t,.int ah u,.int 1 v] }
 | .dx o u=>h.get? a=some o/\d9 H h a u
 | .gQ ps=>h.get? a=some { cls:=.none,data:=.fields ps }
 | .met f x=>h.get? a=some (OC (.ref f) (.ref x))
 | .ext vG=>vG h/\(∃ o,h.get? a=some o)/\∀ af ak:Heap,vG af->(∀ o,af.get? a=some o->ak.get? a=some o)->vG ak
def ej (H:au) (h:Heap):Prop:=∀ a o,H a=some o->d9 P w H h a o
end
section
variable {P:Program} {w:World} {H I:au} {h h':Heap} {a:Addr} {o:dU}
theorem d9.lt (x:d9 P w H h a o):a < h.objs.size:=by
 cases o with
 | lst xs=>obtain ⟨_,_,_,_,e⟩:=x;exact ek e
 | tup xs=>obtain ⟨_,_,_,p⟩:=x;exact p.lt
 | a5 kvs=>obtain ⟨_,_,_,_,o,_,_,e,_⟩:=x;exact ek e
 | gq kvs=>obtain ⟨_,_,_,_,o,_,_,e,_⟩:=x;exact ek e
 | set S n=>obtain ⟨o,_,_,_,e,_⟩:=x;exact ek e
 | ins C ar aR=>obtain ⟨_,_,_,e,_⟩:=x;exact ek e
 | own y=>obtain ⟨_,e⟩:=x;exact ek e
 | Bs aR=>obtain ⟨_,⟨_,_,_,e,_⟩,_⟩:=x;exact ek e
 | zG lo ah=>obtain ⟨_,_,_,e⟩:=x;exact ek e
 | dx bI u=>obtain ⟨e,_⟩:=x;exact ek e
 | gQ ps=>exact ek (show h.get? a=some _ from x)
 | met f y=>exact ek (show h.get? a=some _ from x)
 | ext vG=>obtain ⟨_,⟨_,e⟩,_⟩:=x;exact ek e
theorem Paired.ri:∀ {l₁:List α} {l₂:List β},Paired F l₁ l₂->(∀ a b,F a b->G a b)->Paired G l₁ l₂
 | _,_,.nil,_=>.nil
 | _,_,.cons r t,f=>.cons (f _ _ r) (Paired.ri t f)
theorem d9.og (x:d9 P w H h a o) (k:∀ b u,(b=a\/H b=some (.own a))->h.get? b=some u->h'.get? b=some u)
  (aS:∀ b,H b=some (.own a)->I b=some (.own a)) (cZ:∀ b xs,H b=some (.tup xs)->I b=some (.tup xs)):d9 P w I h' a o:=by
 induction o with
 | lst xs=>obtain ⟨z,a4,n,r,e⟩:=x;exact ⟨z,a4,n,r,k _ _ (.inl rfl) e⟩
 | tup xs=>obtain ⟨z,a4,r,bI,e,c⟩:=x;exact ⟨z,a4,r,bI,k _ _ (.inl rfl) e,c⟩
 | a5 kvs=>obtain ⟨z,y,vs,r,bI,a0,ep,e,c⟩:=x;exact ⟨z,y,vs,r,bI,a0,ep,k _ _ (.inl rfl) e,c⟩
 | gq kvs=>
  obtain ⟨z,y,xs,r,bI,a0,ep,e,c⟩:=x;exact ⟨z,y,xs,Paired.ri r fun p q z=>⟨z.1,cZ _ _ z.2.1,z.2.2⟩,bI,a0,ep,k _ _ (.inl rfl) e,c⟩
 | set S n=>obtain ⟨bI,a0,ep,t,e,c⟩:=x;exact ⟨bI,a0,ep,t,k _ _ (.inl rfl) e,c⟩
 | ins C ar aR=>
  obtain ⟨d,z,ne,e,d6,⟨dH,a0,ep,aG,c⟩,r⟩:=x;exact ⟨aS _ d,z,ne,k _ _ (.inl rfl) e,d6,⟨dH,a0,ep,k _ _ (.inr d) aG,c⟩,r⟩
 | own y=>obtain ⟨bI,e⟩:=x;exact ⟨bI,k _ _ (.inl rfl) e⟩
 | Bs aR=>obtain ⟨d6,⟨dH,a0,ep,e,c⟩,r⟩:=x;exact ⟨d6,⟨dH,a0,ep,k _ _ (.inl rfl) e,c⟩,r⟩
 | zG lo ah=>obtain ⟨t,u,v,e⟩:=x;exact ⟨t,u,v,k _ _ (.inl rfl) e⟩
 | dx bI u b7=>obtain ⟨e,q⟩:=x;exact ⟨k _ _ (.inl rfl) e,b7 q⟩
 | gQ ps=>
  have e:h.get? a=some { cls:=.none,data:=.fields ps }:=x;show h'.get? a=some { cls:=.none,data:=.fields ps };exact k a _ (.inl rfl) e
 | met f y=>
  have e:h.get? a=some (OC (.ref f) (.ref y)):=x;show h'.get? a=some (OC (.ref f) (.ref y));exact k a _ (.inl rfl) e
 | ext vG=>obtain ⟨p,⟨o,e⟩,st⟩:=x;exact ⟨st _ _ p fun o q=>k _ _ (.inl rfl) q,⟨o,k _ _ (.inl rfl) e⟩,st⟩
theorem ej.lt (x:ej P w H h) (e:H a=some o):a < h.objs.size:=(x a o e).lt
theorem ej.fresh (x:ej P w H h) (e:h.objs.size <= a):H a=none:=by
 cases q:H a with
 | none=>rfl
 | some u=>exact absurd (h6 (x.lt q) e) (l_ _)
theorem ej.kept (x:ej P w H h) (k:∀ b u,h.get? b=some u->h'.get? b=some u):ej P w H h':=fun a o e=>
 (x a o e).og (fun b u _ q=>k b u q) (fun _ q=>q) fun _ _ q=>q
theorem ej.laid (x:ej P w H h) (k:∀ b u,h.get? b=some u->h'.get? b=some u) (aq:h.objs.size <= a) (new:d9 P w (upd H a o) h' a o):ej P w (upd H a o) h':=fun b u e=>by
 have a3:=x.fresh aq;by_cases aa:b=a
 .subst aa;rw [db] at e;cases e;exact new
 .rw [aA aa] at e;exact (x b u e).og (fun c v _ q=>k c v q) (fun c q=>by rw [aA (dj q a3)];exact q) fun c xs q=>by rw [aA (dj q a3)];exact q
end
def jR (H:au) (a:Addr) (u:dU):Prop:=H a=some u\/∃ o,H a=some (.dx o u)
theorem jR.of (h:H a=some u):jR H a u:=.inl h
theorem jR.ok {w:World} {h:Heap} (r:jR H a u) (x:ej P w H h):d9 P w H h a u:=by
 rcases r with r | ⟨o,r⟩
 .exact x a u r
 .obtain ⟨_,q⟩:=x a _ r;exact q
noncomputable def pg:Option dU->Prop
 | some (.lst _)=>True
 | some (.a5 _)=>True
 | some (.gq _)=>True
 | some (.set _ _)=>True
 | some (.ins _ _ _)=>True
 | some (.ext _)=>True
 | _=>False
section
variable {P:Program} {w:World} {H:au} {h h':Heap} {x e:Addr} {ei:dU}
theorem ej.write (ok:ej P w H h) (gI:pg (H x)) (he:e=x\/H e=some (.own x)) (k:∀ b u,b ≠ e->h.get? b=some u->h'.get? b=some u) (u4:∃ u,h'.get? e=some u)
  (new:d9 P w (upd H x ei) h' x ei):ej P w (upd H x ei) h':=fun b u q=>by
 have wC:∀ c y,H c=some (.own y)->c ≠ x:=fun c y r z=>by subst z;rw [r] at gI;exact gI
 have KX:∀ c xs,H c=some (.tup xs)->c ≠ x:=fun c xs r z=>by subst z;rw [r] at gI;exact gI
 by_cases aa:b=x
 .subst aa;rw [db] at q;cases q;exact new
 .rw [aA aa] at q;by_cases rY:b=e
  .have dV:H b=some (.own x):=by
    rcases he with z | z
    .exact absurd (rY.trans z) aa
    .rw [rY];exact z
   rw [q] at dV;cases dV;obtain ⟨v,aJ⟩:=u4;exact ⟨v,by rw [rY];exact aJ⟩
  .refine (ok b u q).og (fun c v ay r=>k c v ?_ r) (fun c r=>by rw [aA (wC c b r)];exact r) fun c xs r=>by rw [aA (KX c xs r)];exact r
   rcases ay with rfl | ay
   .exact rY
   .rintro rfl;rcases he with z | z
    .exact wC c b ay z
    .rw [ay] at z;cases z;exact aa rfl
end
structure e2 (aR ex:List Addr) (H I:au) (h h':Heap):Prop where
 keep:∀ b o,h.get? b=some o->H b=none->b ∉ aR->b ∉ ex->h'.get? b=some o
 slot:∀ b o,h.get? b=some o->H b=none->b ∈ aR->b ∉ ex->∃ cf,h'.get? b=some { o with slots:=cf }
 free:∀ b o,h.get? b=some o->H b=none->b ∉ ex->I b=none
 there:∀ b o,h.get? b=some o->b ∉ ex->∃ ei,h'.get? b=some ei
 lj:∀ b xs,H b=some (.tup xs)->I b=some (.tup xs)
 jS:∀ b o u,H b=some (.dx o u)->I b=some (.dx o u)
 kB:∀ b ps,H b=some (.gQ ps)->∃ more,I b=some (.gQ (ps ++ more))
section
variable {aR mG ex N7:List Addr} {H H1 av:au} {h af ak h':Heap} {a x e:Addr} {o:dU}
theorem e2.any (u:e2 aR ex H H1 h af) (q:h.get? b=some bI) (n:H b=none) (ag:b ∉ ex):∃ cf,af.get? b=some { bI with slots:=cf }:=by
 by_cases aa:b ∈ aR
 .exact u.slot b bI q n aa ag
 .exact ⟨bI.slots,u.keep b bI q n aa ag⟩
theorem e2.trans (a:e2 aR ex H H1 h af) (b:e2 aR ex H1 av af ak):e2 aR ex H av h ak where
 keep:=fun c bI q n ay ag=>b.keep c bI (a.keep c bI q n ay ag) (a.free c bI q n ag) ay ag
 slot:=fun c bI q n ay ag=>by
  obtain ⟨cf,aw⟩:=a.slot c bI q n ay ag;obtain ⟨L6,aG⟩:=b.slot c _ aw (a.free c bI q n ag) ay ag;exact ⟨L6,aG⟩
 free:=fun c bI q n ag=>by
  obtain ⟨ei,aw⟩:=a.there c bI q ag;exact b.free c ei aw (a.free c bI q n ag) ag
 there:=fun c bI q ag=>by
  obtain ⟨ei,aw⟩:=a.there c bI q ag;exact b.there c ei aw ag
 lj:=fun c xs q=>b.lj c xs (a.lj c xs q)
 jS:=fun c bI xs q=>b.jS c bI xs (a.jS c bI xs q)
 kB:=fun c ps q=>by
  obtain ⟨hJ,aw⟩:=a.kB c ps q;obtain ⟨hv,aG⟩:=b.kB c _ aw;exact ⟨hJ ++ hv,by rw [aG,aci]⟩
theorem e2.kept (k:∀ b u,h.get? b=some u->h'.get? b=some u):e2 aR ex H H h h':=
 ⟨fun b bI q _ _ _=>k b bI q,fun b bI q _ _ _=>⟨bI.slots,k b bI q⟩,fun _ _ _ n _=>n,fun b bI q _=>⟨bI,k b bI q⟩,fun _ _ q=>q,fun _ _ _ q=>q,fun _ ps q=>⟨#[],by rw [q];simp⟩⟩
theorem e2.refl:e2 aR ex H H h h:=e2.kept fun _ _ q=>q
theorem e2.laid (k:∀ b u,h.get? b=some u->h'.get? b=some u) (aq:h.objs.size <= a) (a3:H a=none):e2 aR ex H (upd H a o) h h' where
 keep:=fun b u q _ _ _=>k b u q
 slot:=fun b u q _ _ _=>⟨u.slots,k b u q⟩
 free:=fun b u q n _=>by rw [aA (fX (h6 (ek q) aq))];exact n
 there:=fun b u q _=>⟨u,k b u q⟩
 lj:=fun b xs q=>by rw [aA (dj q a3)];exact q
 jS:=fun b u xs q=>by rw [aA (dj q a3)];exact q
 kB:=fun b ps q=>⟨#[],by rw [aA (dj q a3),q];simp⟩
theorem e2.write (gI:pg (H x)) (he:e=x\/H e=some (.own x)) (k:∀ b u,b ≠ e->h.get? b=some u->h'.get? b=some u) (u4:∃ u,h'.get? e=some u):e2 aR ex H (upd H x o) h h':=by
 have ag:∀ b,H b=none->b ≠ x:=fun b n z=>by subst z;rw [n] at gI;exact gI
 have aa:∀ b,H b=none->b ≠ e:=fun b n z=>by
  subst z;rcases he with r | r
  .exact ag b n r
  .rw [n] at r;cases r
 have hm:∀ b u,H b=some u->¬ pg (some u)->b ≠ x:=fun b u q nm z=>by subst z;rw [q] at gI;exact nm gI
 refine ⟨fun b u q n _ _=>k b u (aa b n) q,fun b u q n _ _=>⟨u.slots,k b u (aa b n) q⟩,fun b u q n _=>by rw [aA (ag b n)];exact n,fun b u q _=>?_,
  fun b xs q=>by rw [aA (hm b _ q fun z=>z)];exact q,fun b u xs q=>by rw [aA (hm b _ q fun z=>z)];exact q,fun b ps q=>⟨#[],by rw [aA (hm b _ q fun z=>z),q];simp⟩⟩
 by_cases rY:b=e
 .subst rY;exact u4
 .exact ⟨u,k b u rY q⟩
theorem e2.mono (u:e2 aR ex H H1 h af) (aB:∀ b ∈ aR,b ∈ mG) (ag:∀ b ∈ ex,b ∈ N7):e2 mG N7 H H1 h af:=
 ⟨fun b bI q n aa he=>u.keep b bI q n (fun z=>aa (aB b z)) fun z=>he (ag b z),fun _ _ q n _ he=>u.any q n fun z=>he (ag _ z),fun b bI q n he=>u.free b bI q n fun z=>he (ag b z),fun b bI q he=>u.there b bI q fun z=>he (ag b z),u.lj,u.jS,u.kB⟩
end
noncomputable def CN (h:Heap) (H:au):List Addr:=(fW h.objs.size).filter fun a=>(H a).isSome
noncomputable def nS (h:Heap) (H:au):Heap:=PySem.W.hideAll h (CN h H)
theorem abO (h:Heap) (H:au):(nS h H).objs.size=h.objs.size:=PySem.W.hideAll_size _ _
theorem Mf {h:Heap} (e:h.get? b=some o) (n:H b=none):(nS h H).get? b=some o:=
 PySem.W.hideAll_get _ e fun hm=>by
  have q:(H b).isSome=true:=(lE.mp hm).2;rw [n] at q;simp at q
theorem aas {h:Heap} (e:(nS h H).get? b=some o):h.get? b=some o/\H b=none:=by
 have bM:h.get? b=some o:=PySem.W.of_hideAll (CN h H) e;refine ⟨bM,?_⟩;cases q:H b with
 | none=>rfl
 | some x=>
  have hm:b ∈ CN h H:=lE.mpr ⟨sq.mpr (ek bM),by simp [q]⟩;have z:(nS h H).get? b=none:=PySem.W.hideAll_none (CN h H) hm;rw [z] at e;cases e
noncomputable def alU (g h:Heap) (L:Addr):List (Addr × Obj):=(fW h.objs.size).filterMap fun a=>if a=L\/(g.get? a).isSome=true then none else (h.get? a).map fun o=>(a,o)
noncomputable def ju (g h:Heap) (L d:Addr):List (Addr × Obj):=(alU g h L).filter fun p=>decide (p.1 ≠ d)
structure Mod (K:ba) (mg:Str->Option Value) (base:Heap):Prop where
 sH:K.In base
 glob:base.Ns mainGlobals mg
 blt:∃ mL,base.Ns builtinsNs mL/\∀ x:Str,x ≠ "__name__" -> mL x=bootBuiltins x
 nolimit:base.NoLimit
structure a8 where
 prog:Program
 w:World
 K:ba
 mg:Str->Option Value
 base:Heap
 A:Around
 N:List Str
 fQ:Shared
 rU:au
 env:Env
 outer:List Env
 stack:List Env
 ex:List Addr
 fn:Str->Bool
 calm:Bool
 da:List (Addr × Obj)
 dI:Value->Shared->Prop
noncomputable def lL (l:List Env):List Addr:=l.filterMap (·.frame)
noncomputable abbrev a8.aR (X:a8):List Addr:=lL X.outer
def xc (sc:Scope) (x:Str):Prop:=sc.names.lookup x=some .local\/sc.names.lookup x=some .cell\/sc.names.lookup x=some .free
def Loc (sc:Scope) (x:Str):Prop:=sc.names.lookup x=some .local\/sc.names.lookup x=some .cell
def YS (env:Env) (h:Heap) (m:Str->Option Value) (x:Str) (u:Value):Prop:=
 (env.kindOf x=some .local/\m x=some u)\/((env.kindOf x=some .cell\/env.kindOf x=some .free)/\∃ c,env.cells.lookup x=some c/\h.IsCell c (some u))
structure a8.Ok (X:a8):Prop where
 mod:Mod X.K X.mg X.base
 kind:X.env.scope.kind=.function
 glob:X.env.globals=mainGlobals
 blt:X.env.builtins=builtinsNs
 above:X.fQ.heap.objs.size <= X.env.locals
 inj:∀ x y c,X.env.cells.lookup x=some c->X.env.cells.lookup y=some c->x=y
 has:∀ x,(X.env.kindOf x=some .cell\/X.env.kindOf x=some .free)->∃ c,X.env.cells.lookup x=some c
 qI:∀ x c,X.fn x=true->X.env.cells.lookup x=some c->X.fQ.heap.objs.size <= c
 hd:X.calm=true->X.A.handled=none
 frames:X.A.frames=some X.stack
 sa:X.stack=X.outer\/(X.stack=X.env :: X.outer/\X.env.frame=some X.env.locals)
 zo:∀ b ∈ X.ex,b ≠ X.env.locals/\∀ x c,X.env.cells.lookup x=some c->c ≠ b
 bs:∀ b o,X.base.get? b=some o->X.fQ.heap.get? b=some o/\X.rU b=none
 kk:X.base.objs.size <= X.fQ.heap.objs.size
 rl:∀ b o,X.base.get? b=some o->b ∉ X.ex
 qK:∀ b ∈ X.ex,b ∉ X.aR
 j8:X.fQ.heap.FunFrames X.base X.outer
 nY:∀ b ∈ X.aR,X.rU b=none
structure Inv (X:a8) (ae:List (Addr × Obj)) (σ:List (Option V)) (H:au) (s:Shared):Prop where
 ok:X.Ok
 os:s.os=X.fQ.os
 bare:AllBare s.gens
 base:e2 X.aR X.ex X.rU H X.fQ.heap s.heap
 loc:∃ m,s.heap.Ns X.env.locals m/\∀ (i:Nat) (x:Str) (v:V),X.N[i]? = some x->σ[i]? = some (some v)->xc X.env.scope x->∃ u,bK v u/\YS X.env s.heap m x u
 cell:∀ x c,X.env.cells.lookup x=some c->∃ v,s.heap.IsCell c v
 free:H X.env.locals=none
 jm:∀ x c,X.env.cells.lookup x=some c->H c=none
 pin:∀ p ∈ X.da ++ ae,s.heap.get? p.1=some p.2/\H p.1=none/\p.1 ≠ X.env.locals/\p.1 ∉ X.aR/\∀ v,p.2.data ≠ .cell v
 bh:ej X.prog X.w H s.heap
 len:σ.length=X.N.length
section
variable {X:a8} {ae:List (Addr × Obj)} {σ:List (Option V)} {H I:au} {s:Shared} {h':Heap}
theorem a8.Ok.TR (ok:X.Ok) (e:X.base.get? b=some o):b ∉ X.aR:=fun aa=>by
 have:=(ok.j8.mem aa).1;rw [e] at this;cases this
theorem Inv.bs (J:Inv X ae σ H s):∀ b o,X.base.get? b=some o->s.heap.get? b=some o/\H b=none:=fun b o e=>
 ⟨J.base.keep b o (J.ok.bs b o e).1 (J.ok.bs b o e).2 (J.ok.TR e) (J.ok.rl b o e),J.base.free b o (J.ok.bs b o e).1 (J.ok.bs b o e).2 (J.ok.rl b o e)⟩
theorem Inv.cI (J:Inv X ae σ H s):∀ b o,X.base.get? b=some o->s.heap.get? b=some o:=fun b o e=>(J.bs b o e).1
theorem Inv.mod (J:Inv X ae σ H s):Mod X.K X.mg X.base:=J.ok.mod
theorem Inv.jb (J:Inv X ae σ H s):X.K.In s.heap:=J.ok.mod.sH.keeps J.cI
theorem Inv.nolimit (J:Inv X ae σ H s):s.heap.NoLimit:=J.ok.mod.nolimit.keeps J.cI
theorem Inv.fr (J:Inv X ae σ H s):∃ m,Fr X.base X.env.locals s.heap m:=
 let ⟨m,a3,_⟩:=J.loc
 ⟨m,a3,J.cI,c7 J.ok.kk J.ok.above⟩
theorem Inv.lt (J:Inv X ae σ H s):X.env.locals < s.heap.objs.size:=let ⟨_,a3,_⟩:=J.loc;a3.lt
theorem Inv.nZ (J:Inv X ae σ H s):X.fQ.heap.objs.size <= s.heap.objs.size:=c7 J.ok.above (ni J.lt)
theorem Inv.FY (J:Inv X ae σ H s) (h:s.heap.objs.size <= a):a ∉ X.aR:=fun aa=>by
 obtain ⟨_,o,aS,_⟩:=J.ok.j8.mem aa;exact absurd (h6 (ek aS) (c7 J.nZ h)) (l_ _)
theorem Inv.tf (J:Inv X ae σ H s):∀ x c,X.env.cells.lookup x=some c->c ≠ X.env.locals:=fun x c e z=>by
 obtain ⟨v,o,aS,hd⟩:=J.cell x c e;obtain ⟨m,⟨ei,a0,ep,rn,yI,_⟩,_⟩:=J.loc;rw [z,rn] at aS;cases aS;rw [yI] at hd;cases hd
theorem Inv.j8 (J:Inv X ae σ H s):s.heap.FunFrames X.base X.outer:=by
 have all:∀ (l:List Env),(∀ b ∈ lL l,b ∈ X.aR)->X.fQ.heap.FunFrames X.base l->s.heap.FunFrames X.base l:=by
  intro l
  induction l with
  | nil=>intro _ _;trivial
  | cons env r b7=>
   intro aB aK;obtain ⟨aC,⟨L,o,hf,a3,aS,hd⟩,ao⟩:=aK;have fb:L ∈ X.aR:=aB L (by unfold lL;rw [Oe,hf];exact m9);obtain ⟨cf,e⟩:=J.base.slot L o aS (J.ok.nY L fb) fb fun z=>J.ok.qK L z fb
   exact ⟨aC,⟨L,_,hf,a3,e,hd⟩,b7 (fun b aa=>aB b (by unfold lL;rw [Oe,hf];exact iu _ aa)) ao⟩
 exact all X.outer (fun _ aa=>aa) J.ok.j8
theorem Inv.stack (J:Inv X ae σ H s):s.heap.FunFrames X.base X.stack:=by
 rcases J.ok.sa with e | ⟨e,hf⟩
 .rw [e];exact J.j8
 .rw [e];obtain ⟨m,a3,_⟩:=J.loc;refine .cons (by rw [J.ok.kind];decide) hf a3 ?_ J.j8;exact Heap.get?_none_of_le (c7 J.ok.kk J.ok.above)
theorem Inv.Bk (J:Inv X ae σ H s):∀ b ∈ lL X.stack,b ∈ X.env.locals :: X.aR:=fun b aa=>by
 rcases J.ok.sa with e | ⟨e,hf⟩
 .rw [e] at aa;exact iu _ aa
 .rw [e] at aa;unfold lL at aa;rw [Oe,hf] at aa;exact aa
theorem Inv.G' (J:Inv X ae σ H s):∀ b ∈ lL X.stack,H b=none:=fun b aa=>by
 rcases eZ.mp (J.Bk b aa) with e | aa
 .rw [e];exact J.free
 .obtain ⟨_,o,aS,_⟩:=J.ok.j8.mem aa;exact J.base.free b o aS (J.ok.nY b aa) fun z=>J.ok.qK b z aa
theorem Inv.step {g':Array GenState} {t':Nat} {d':Drawn} {ch:List Addr} (J:Inv X ae σ H s)
  (hO:∀ b ∈ ch,(b ∈ X.ex\/X.fQ.heap.objs.size <= b)/\b ≠ X.env.locals/\(∀ x c,X.env.cells.lookup x=some c->c ≠ b)/\∀ p ∈ X.da ++ ae,p.1 ≠ b)
  (keep:∀ b o,b ≠ X.env.locals->b ∉ X.aR->b ∉ ch->s.heap.get? b=some o->H b=none->h'.get? b=some o)
  (slot:∀ b o,b ≠ X.env.locals->b ∈ X.aR->b ∉ ch->s.heap.get? b=some o->H b=none->∃ cf,h'.get? b=some { o with slots:=cf }) (free:∀ b o,b ∉ ch->s.heap.get? b=some o->H b=none->I b=none)
  (there:∀ b o,b ∉ ch->s.heap.get? b=some o->∃ ei,h'.get? b=some ei)
  (lj:∀ b xs,H b=some (.tup xs)->I b=some (.tup xs)) (jS:∀ b o u,H b=some (.dx o u)->I b=some (.dx o u)) (kB:∀ b ps,H b=some (.gQ ps)->∃ more,I b=some (.gQ (ps ++ more)))
  (ns:∀ m,s.heap.Ns X.env.locals m->h'.Ns X.env.locals m) (bh:ej X.prog X.w I h') (bj:AllBare g') :
  Inv X ae σ I { s with heap:=h',gens:=g',drawn:=d',toks:=t' }:=by
 have Rf:∀ b o,X.fQ.heap.get? b=some o->b ≠ X.env.locals:=fun b o e=>fX (h6 (ek e) J.ok.above)
 have D5:∀ b o,X.fQ.heap.get? b=some o->b ∉ X.ex->b ∉ ch:=fun b o e ag aa=>by
  rcases (hO b aa).1 with z | z
  .exact ag z
  .exact absurd (h6 (ek e) z) (l_ _)
 have cellK:∀ x c,X.env.cells.lookup x=some c->∀ v,s.heap.IsCell c v->h'.IsCell c v:=fun x c e v ⟨o,aS,hd⟩=>by
  have zj:c ∉ ch:=fun z=>(hO c z).2.2.1 x c e rfl
  by_cases ay:c ∈ X.aR
  .obtain ⟨cf,q⟩:=slot c o (J.tf x c e) ay zj aS (J.jm x c e);exact ⟨_,q,hd⟩
  .exact ⟨o,keep c o (J.tf x c e) ay zj aS (J.jm x c e),hd⟩
 refine ⟨J.ok,J.os,bj,⟨fun b o e n aa ag=>?_,fun b o e n aa ag=>?_,fun b o e n ag=>?_,fun b o e ag=>?_,fun b xs e=>lj b xs (J.base.lj b xs e),fun b o xs e=>jS b o xs (J.base.jS b o xs e),fun b ps e=>?_⟩,?_,fun x c e=>?_,?_,fun x c e=>?_,fun p aq=>?_,bh,J.len⟩
 .exact keep b o (Rf b o e) aa (D5 b o e ag) (J.base.keep b o e n aa ag) (J.base.free b o e n ag)
 .obtain ⟨cf,aw⟩:=J.base.slot b o e n aa ag;obtain ⟨L6,aG⟩:=slot b _ (Rf b o e) aa (D5 b o e ag) aw (J.base.free b o e n ag);exact ⟨L6,aG⟩
 .obtain ⟨ei,aw⟩:=J.base.there b o e ag;exact free b ei (D5 b o e ag) aw (J.base.free b o e n ag)
 .obtain ⟨ei,aw⟩:=J.base.there b o e ag;exact there b ei (D5 b o e ag) aw
 .obtain ⟨hJ,aw⟩:=J.base.kB b ps e;obtain ⟨hv,aG⟩:=kB b _ aw;exact ⟨hJ ++ hv,by rw [aG,aci]⟩
 .obtain ⟨m,a3,aK⟩:=J.loc;refine ⟨m,ns m a3,fun i x v aw aG bS=>?_⟩;obtain ⟨u,r,l⟩:=aK i x v aw aG bS;refine ⟨u,r,?_⟩;rcases l with l | ⟨k,c,e,z⟩
  .exact .inl l
  .exact .inr ⟨k,c,e,cellK x c e _ z⟩
 .obtain ⟨v,z⟩:=J.cell x c e;exact ⟨v,cellK x c e v z⟩
 .obtain ⟨m,⟨o,_,_,aS,_⟩,_⟩:=J.loc;exact free _ o (fun z=>(hO _ z).2.1 rfl) aS J.free
 .obtain ⟨v,o,aS,hd⟩:=J.cell x c e;exact free c o (fun z=>(hO c z).2.2.1 x c e rfl) aS (J.jm x c e)
 .obtain ⟨e,n,ne,hh,d⟩:=J.pin p aq;have zj:p.1 ∉ ch:=fun z=>(hO p.1 z).2.2.2 p aq rfl
  exact ⟨keep p.1 p.2 ne hh zj e n,free p.1 p.2 zj e n,ne,hh,d⟩
theorem Inv.un {t':Nat} (J:Inv X ae σ H s) (u:e2 X.aR [] H I s.heap h') (bh:ej X.prog X.w I h'):Inv X ae σ I { s with heap:=h',toks:=t' }:=by
 obtain ⟨m,⟨o,a0,ep,aS,r⟩,_⟩:=id J.loc;obtain ⟨cf,fb⟩:=u.any aS J.free (by simp);exact J.step (g':=s.gens) (d':=s.drawn) (ch:=[]) (fun _ z=>nomatch z) (fun b o _ aa _ e n=>u.keep b o e n aa (by simp)) (fun b o _ aa _ e n=>u.slot b o e n aa (by simp)) (fun b o _ e n=>u.free b o e n (by simp)) (fun b o _ e=>u.there b o e (by simp)) u.lj u.jS u.kB (fun c6 hm=>by
  obtain ⟨ei,yo,Ir,rn,dM⟩:=hm;rw [aS] at rn;cases rn;exact ⟨_,yo,Ir,fb,dM⟩) bh J.bare
theorem Inv.call {g':Array GenState} {t':Nat} {d':Drawn} {ch:List Addr} (J:Inv X ae σ H s) (u:e2 (lL X.stack) ch H I s.heap h') (bh:ej X.prog X.w I h') (bj:AllBare g')
  (hO:∀ b ∈ ch,(b ∈ X.ex\/X.fQ.heap.objs.size <= b)/\b ≠ X.env.locals/\(∀ x c,X.env.cells.lookup x=some c->c ≠ b)/\∀ p ∈ X.da ++ ae,p.1 ≠ b) :
  Inv X ae σ I { s with heap:=h',gens:=g',drawn:=d',toks:=t' }:=by
 obtain ⟨m,⟨o,a0,ep,aS,r⟩,_⟩:=id J.loc;obtain ⟨cf,fb⟩:=u.any aS J.free fun z=>(hO _ z).2.1 rfl
 exact J.step (ch:=ch) hO (fun b o fb aa ay e n=>u.keep b o e n (fun z=>(eZ.mp (J.Bk b z)).elim fb aa) ay) (fun b o _ _ ay e n=>u.any e n ay) (fun b o ay e n=>u.free b o e n ay) (fun b o ay e=>u.there b o e ay) u.lj u.jS u.kB (fun c6 hm=>by
  obtain ⟨ei,yo,Ir,rn,dM⟩:=hm;rw [aS] at rn;cases rn;exact ⟨_,yo,Ir,fb,dM⟩) bh bj
theorem Inv.turned {t':Nat} {it:Addr} (J:Inv X ae σ H s) (k:∀ b o,b ≠ it->s.heap.get? b=some o->h'.get? b=some o) (a3:H it=none) (fb:it ≠ X.env.locals)
  (af:it ∈ X.ex\/X.fQ.heap.objs.size <= it) (ak:∀ x c,X.env.cells.lookup x=some c->c ≠ it) (bc:∀ p ∈ X.da ++ ae,p.1 ≠ it):Inv X ae σ H { s with heap:=h',toks:=t' }:=by
 have nit:∀ b u,H b=some u->b ≠ it:=fun b u e z=>by rw [z,a3] at e;cases e
 refine J.step (g':=s.gens) (d':=s.drawn) (ch:=[it]) (fun b aa=>?_) (fun b o _ _ ay e _=>k b o (fun z=>ay (by simp [z])) e) (fun b o _ _ ay e _=>⟨o.slots,k b o (fun z=>ay (by simp [z])) e⟩) (fun _ _ _ _ n=>n)
  (fun b o ay e=>⟨o,k b o (fun z=>ay (by simp [z])) e⟩) (fun _ _ e=>e) (fun _ _ _ e=>e) (fun b ps e=>⟨#[],by rw [e];simp⟩) (fun m hm=>?_) (fun b u e=>?_) J.bare
 .have e:b=it:=by simpa using aa
  subst e;exact ⟨af,fb,ak,bc⟩
 .obtain ⟨o,a0,ep,aS,r⟩:=hm;exact ⟨o,a0,ep,k _ o (cX fb) aS,r⟩
 .refine (J.bh b u e).og (fun c v ay q=>k c v ?_ q) (fun _ q=>q) fun _ _ q=>q
  rcases ay with z | z
  .rw [z];exact nit b u e
  .exact nit c _ z
theorem Inv.tok (J:Inv X ae σ H s) (t:Nat):Inv X ae σ H { s with toks:=t }:=J.un (h':=s.heap) (t':=t) e2.refl J.bh
theorem Inv.kept (J:Inv X ae σ H s) (k:∀ b u,s.heap.get? b=some u->h'.get? b=some u):Inv X ae σ H { s with heap:=h',toks:=t' }:=J.un (e2.kept k) (J.bh.kept k)
theorem Inv.laid (J:Inv X ae σ H s) (k:∀ b u,s.heap.get? b=some u->h'.get? b=some u) (aq:s.heap.objs.size <= a) (new:d9 X.prog X.w (upd H a o) h' a o) :
  Inv X ae σ (upd H a o) { s with heap:=h',toks:=t' }:=J.un (e2.laid k aq (J.bh.fresh aq)) (J.bh.laid k aq new)
theorem Inv.write {x e:Addr} {o:dU} {t':Nat} (J:Inv X ae σ H s) (gI:pg (H x)) (he:e=x\/H e=some (.own x)) (k:∀ b u,b ≠ e->s.heap.get? b=some u->h'.get? b=some u) (u4:∃ u,h'.get? e=some u)
  (new:d9 X.prog X.w (upd H x o) h' x o):Inv X ae σ (upd H x o) { s with heap:=h',toks:=t' }:=J.un (e2.write gI he k u4) (J.bh.write gI he k u4 new)
theorem Inv.weak (J:Inv X ae σ H s) (aK:ax.length=σ.length) (w:∀ (i:Nat) v,ax[i]? = some (some v)->σ[i]? = some (some v)):Inv X ae ax H s:=
 ⟨J.ok,J.os,J.bare,J.base,let ⟨m,a3,DN⟩:=J.loc;⟨m,a3,fun i x v aw aG bS=>DN i x v aw (w i v aG) bS⟩,J.cell,J.free,J.jm,J.pin,J.bh,aK.trans J.len⟩
theorem Inv.tu (J:Inv X ae σ H s) (h:∀ p ∈ Rj,s.heap.get? p.1=some p.2/\H p.1=none/\p.1 ≠ X.env.locals/\p.1 ∉ X.aR/\∀ v,p.2.data ≠ .cell v):Inv X Rj σ H s:=
 ⟨J.ok,J.os,J.bare,J.base,J.loc,J.cell,J.free,J.jm,fun p aq=>(gU.mp aq).elim (fun z=>J.pin p (wY _ z)) (h p),J.bh,J.len⟩
theorem Wj {N:List Str} (bu:N.Nodup) {i j:Nat} {x:Str} (a:N[i]? = some x) (b:N[j]? = some x):i=j:=by
 obtain ⟨af,aw⟩:=cb.mp a;obtain ⟨ak,aG⟩:=cb.mp b;exact (tP bu).mp (aw.trans aG.symm)
theorem V3 {M:Model} {A:Around} {E:Value->Shared->Prop} {i:Nat} {x:Str} {v:V} {u:Value} {Q:Unit->Shared->Prop} (J:Inv X ae σ H s) (bu:X.N.Nodup) (ah:X.N[i]? = some x) (ag:Loc X.env.scope x) (r:bK v u)
  (h:∀ aj,Inv X ae (σ.set i (some v)) H aj->(∃ a,uH a s.heap aj.heap/\(a=X.env.locals\/X.env.cells.lookup x=some a))->Q () aj) (hf:X.fn x=true\/X.env.scope.names.lookup x=some .local:=by first | exact .inl rfl | exact .inr rfl | assumption):wpAny M A (storeName X.env x u) Q E s:=by
 obtain ⟨m,a3,aK⟩:=id J.loc;have ZW:(X.env.scope.kind == .class || (X.env.scope.kind == .module && X.env.locals != X.env.globals))=false:=by rw [J.ok.kind];rfl
 have QU:i < σ.length:=by rw [J.len];exact (cb.mp ah).1
 have tf:=J.tf;have tracked:∀ {a:Addr} {h':Heap},(∃ o,s.heap.get? a=some o/\H a=none)->uH a s.heap h'->ej X.prog X.w H h':=fun {a h'} aZ aB b bI e=>by
  obtain ⟨_,_,W_⟩:=aZ;refine (J.bh b bI e).og (fun c eH ay q=>(aB.2 c ?_).trans q) (fun _ q=>q) fun _ _ q=>q
  rintro rfl;rcases ay with rfl | ay
  .rw [W_] at e;cases e
  .rw [W_] at ay;cases ay
 rcases ag with aC | aC
 .refine wpAny_storeName_local aC a3 (fun h' QJ aB=>?_) ZW;obtain ⟨aiH,_,_,Yd,_⟩:=id a3;refine h _ ⟨J.ok,J.os,J.bare,⟨fun b o e n aa ag=>?_,fun b o e n aa ag=>?_,J.base.free,fun b o e ag=>?_,J.base.lj,J.base.jS,J.base.kB⟩,⟨_,QJ,fun j y jk aw aG bS=>?_⟩,fun y c e=>?_,J.free,J.jm,fun p aq=>?_,tracked ⟨aiH,Yd,J.free⟩ aB,by simpa using J.len⟩ ⟨_,aB,.inl rfl⟩
  .exact (aB.2 b (fX (h6 (ek e) J.ok.above))).trans (J.base.keep b o e n aa ag)
  .obtain ⟨cf,aw⟩:=J.base.slot b o e n aa ag;exact ⟨cf,(aB.2 b (fX (h6 (ek e) J.ok.above))).trans aw⟩
  .obtain ⟨ei,aw⟩:=J.base.there b o e ag;exact ⟨ei,(aB.2 b (fX (h6 (ek e) J.ok.above))).trans aw⟩
  .by_cases aL:j=i
   .subst aL;rw [ah] at aw;cases aw;rw [NU QU] at aG;cases aG;exact ⟨u,r,.inl ⟨aC,by simp⟩⟩
   .rw [H' (cX aL)] at aG;obtain ⟨tv,dM,q⟩:=aK j y jk aw aG bS;refine ⟨tv,dM,?_⟩;rcases q with ⟨k,e⟩ | ⟨k,c,e,z⟩
    .refine .inl ⟨k,?_⟩;have:y ≠ x:=fun e=>aL (Wj bu aw (e ▸ ah))
     simp [this,e]
    .exact .inr ⟨k,c,e,z.sameBut aB (tf y c e)⟩
  .obtain ⟨eH,z⟩:=J.cell y c e;exact ⟨eH,z.sameBut aB (tf y c e)⟩
  .obtain ⟨e,n,ne,hh,d⟩:=J.pin p aq;exact ⟨(aB.2 p.1 ne).trans e,n,ne,hh,d⟩
 .have Kn:X.fn x=true:=by
   rcases hf with z | z
   .exact z
   .rw [z] at aC;cases aC
  obtain ⟨c,ay⟩:=J.ok.has x (.inl aC);obtain ⟨eH,z⟩:=J.cell x c ay;refine wpAny_storeName_cell J.ok.kind aC ay z (fun h' Cz aB=>?_);obtain ⟨n5,tw,ame⟩:=id z;refine h { s with heap:=h' } ⟨J.ok,J.os,J.bare,⟨fun b o e n aa ag=>?_,fun b o e n aa ag=>?_,J.base.free,fun b o e ag=>?_,J.base.lj,J.base.jS,J.base.kB⟩,⟨m,a3.sameBut aB (cX (tf x c ay)),fun j y jk aw aG bS=>?_⟩,fun y c' e=>?_,J.free,J.jm,fun p aq=>?_,tracked ⟨n5,tw,J.jm x c ay⟩ aB,by simpa using J.len⟩ ⟨c,aB,.inr ay⟩
  .exact (aB.2 b (fX (h6 (ek e) (J.ok.qI x c Kn ay)))).trans (J.base.keep b o e n aa ag)
  .obtain ⟨cf,aw⟩:=J.base.slot b o e n aa ag;exact ⟨cf,(aB.2 b (fX (h6 (ek e) (J.ok.qI x c Kn ay)))).trans aw⟩
  .obtain ⟨ei,aw⟩:=J.base.there b o e ag;exact ⟨ei,(aB.2 b (fX (h6 (ek e) (J.ok.qI x c Kn ay)))).trans aw⟩
  .by_cases aL:j=i
   .subst aL;rw [ah] at aw;cases aw;rw [NU QU] at aG;cases aG;exact ⟨u,r,.inr ⟨.inl aC,c,ay,Cz⟩⟩
   .rw [H' (cX aL)] at aG;obtain ⟨tv,dM,q⟩:=aK j y jk aw aG bS;refine ⟨tv,dM,?_⟩;rcases q with q | ⟨k,c',e,ih⟩
    .exact .inl q
    .refine .inr ⟨k,c',e,ih.sameBut aB ?_⟩;rintro rfl;exact aL (Wj bu aw (J.ok.inj _ _ _ e ay ▸ ah))
  .by_cases tZ:c'=c
   .subst tZ;exact ⟨_,Cz⟩
   .obtain ⟨eh,es⟩:=J.cell y c' e;exact ⟨eh,es.sameBut aB tZ⟩
  .obtain ⟨e,n,ne,hh,d⟩:=J.pin p aq;refine ⟨(aB.2 p.1 ?_).trans e,n,ne,hh,d⟩;intro q;rw [q,tw] at e;have dV:n5=p.2:=dX e;exact d eH (by rw [<- dV];exact ame)
theorem xz {A:Around} {x:Str} (J:Inv X ae σ H s) (bu:X.N.Nodup) (ah:X.N[i]? = some x) (ag:Loc X.env.scope x) (r:bK v u)
  (h:∀ aj,Inv X ae (σ.set i (some v)) H aj->Q () aj) (hf:X.fn x=true\/X.env.scope.names.lookup x=some .local:=by first | exact .inl rfl | exact .inr rfl | assumption):wpAny M A (storeName X.env x u) Q E s:=
 V3 J bu ah ag r (fun aj gz _=>h aj gz) hf
theorem Inv.aa_ (J:Inv X ae σ H s) (aS:aj.os=s.os) (u:e2 (lL X.stack) ch H I s.heap aj.heap) (bh:ej X.prog X.w I aj.heap) (bj:AllBare aj.gens)
  (hO:∀ b ∈ ch,(b ∈ X.ex\/X.fQ.heap.objs.size <= b)/\b ≠ X.env.locals/\(∀ x c,X.env.cells.lookup x=some c->c ≠ b)/\∀ p ∈ X.da ++ ae,p.1 ≠ b):Inv X ae σ I aj:=by
 obtain ⟨h',g',d',t',ei⟩:=aj;have e:ei=s.os:=aS;subst e;exact J.call (g':=g') (t':=t') (d':=d') u bh bj hO
end
noncomputable abbrev gp:=Value->Option Addr->au->Prop
noncomputable abbrev St:=List (Option V)
noncomputable abbrev cN:=V->au->Prop
noncomputable abbrev TE:=St->au->cN->Prop
noncomputable abbrev TT:=St->au->(Bool->au->Prop)->Prop
noncomputable abbrev f3:=St->au->(List V->au->Prop)->Prop
structure ho where
 b8:St->au->Prop
 k3:cN
 cI:St->au->Prop:=fun _ _=>False
 e_:St->au->Prop:=fun _ _=>False
noncomputable abbrev ea:=ho->St->au->Prop
def gL (X:a8) (ae:List (Addr × Obj)) (σ:St) (Q:cN) (u:Value) (aj:Shared):Prop:=∃ v I,Inv X ae σ I aj/\bK v u/\Q v I
theorem d1 {X:a8} {ae:List (Addr × Obj)} {σ:St} {Q:cN} {u:Value} {aj:Shared} {C:Prop} (h:gL X ae σ Q u aj) (k:∀ v I,Inv X ae σ I aj->bK v u->Q v I->C):C:=by
 obtain ⟨v,I,J,r,q⟩:=h;exact k v I J r q
def A6 (X:a8) (ae:List (Addr × Obj)) (σ:St) (Q:Bool->au->Prop) (b:Bool) (aj:Shared):Prop:=∃ I,Inv X ae σ I aj/\Q b I
def ahc (X:a8) (ae:List (Addr × Obj)) (σ:St) (Q:List V->au->Prop) (us:List Value) (aj:Shared):Prop:=∃ vs I,Inv X ae σ I aj/\b1 vs us/\Q vs I
def rK (X:a8) (ae:List (Addr × Obj)) (D:ho) (f:Flow) (aj:Shared):Prop:=
 match f with
 | .next=>∃ ax I,Inv X ae ax I aj/\D.b8 ax I
 | .brk=>∃ ax I,Inv X ae ax I aj/\D.cI ax I
 | .cont=>∃ ax I,Inv X ae ax I aj/\D.e_ ax I
 | .ret u=>∃ v ax I,Inv X ae ax I aj/\bK v u/\D.k3 v I
def bw (X:a8) (e:Expr) (t:TE):Prop:=
 ∀ (ae:List (Addr × Obj)) (s:Shared) (σ:St) (H:au) (Q:cN),Inv X ae σ H s->t σ H Q->wpAny (model X.prog X.w) X.A (eval e X.env) (gL X ae σ Q) X.dI s
def jt (X:a8) (e:Expr) (t:TT):Prop:=
 ∀ (ae:List (Addr × Obj)) (s:Shared) (σ:St) (H:au) (Q:Bool->au->Prop),Inv X ae σ H s->t σ H Q->wpAny (model X.prog X.w) X.A (isTrue e X.env (eval e X.env)) (A6 X ae σ Q) X.dI s
def iC (X:a8) (e:Expr) (t:TT):Prop:=
 ∀ (whole:Sem Value) (ae:List (Addr × Obj)) (s:Shared) (σ:St) (H:au) (Q:Bool->au->Prop),Inv X ae σ H s->t σ H Q->wpAny (model X.prog X.w) X.A (isTrue e X.env whole) (A6 X ae σ Q) X.dI s
theorem iC.pt {e:Expr} {t:TT} (h:iC X e t):jt X e t:=h _
def jI (X:a8) (a0:List Expr) (t:f3):Prop:=
 ∀ (pos:Pos) (ae:List (Addr × Obj)) (s:Shared) (σ:St) (H:au) (Q:List V->au->Prop),Inv X ae σ H s->t σ H Q->wpAny (model X.prog X.w) X.A (spliced (backTo pos (starEach a0 X.env))) (ahc X ae σ Q) X.dI s
def hr (X:a8) (st:Stmt) (t:ea):Prop:=
 ∀ (ae:List (Addr × Obj)) (s:Shared) (σ:St) (H:au) (D:ho),Inv X ae σ H s->t D σ H->wpAny (model X.prog X.w) X.A (exec st X.env) (rK X ae D) X.dI s
def kZ (X:a8) (st:List Stmt) (t:ea):Prop:=
 ∀ (ae:List (Addr × Obj)) (s:Shared) (σ:St) (H:au) (D:ho),Inv X ae σ H s->t D σ H->wpAny (model X.prog X.w) X.A (execs st X.env) (rK X ae D) X.dI s
theorem bF {t:Sem α} {A:Around} (h:wpAny M A t Q E s) (a9:∀ a s,Q a s->kL a s):wpAny M A t kL E s:=wpAny_mono h a9 fun _ _ x=>x
section
variable {X:a8}
noncomputable def tJ (H:au) (Q:cN):Option (Option V)->Prop
 | some (some v)=>Q v H
 | _=>False
theorem RC (H:au) (Q:cN) (v:V):tJ H Q (some (some v))=Q v H:=rfl
theorem tJ.out:∀ {o:Option (Option V)},tJ H Q o->∃ v,o=some (some v)/\Q v H
 | some (some v),h=>⟨v,rfl,h⟩
 | some none,h=>h.elim
 | none,h=>h.elim
theorem abX (H:au) (Q:cN) (o:Option (Option V)):tJ H Q o = ∃ v,o=some (some v)/\Q v H:=propext ⟨tJ.out,fun ⟨_,e,h⟩=>e ▸ h⟩
def gA (x:V) (k:Int->Prop):Prop:=match x with
 | .int i=>k i
 | _=>False
theorem V2 (i:Int) (k:Int->Prop):gA (.int i) k=k i:=rfl
theorem gA.out {x:V} {k:Int->Prop} (h:gA x k):∃ i,x=.int i/\k i:=by
 cases x with
 | int i=>exact ⟨i,rfl,h⟩
 | _=>exact h.elim
theorem XB (x:V) (k:Int->Prop):gA x k = ∃ i,x=.int i/\k i:=propext ⟨gA.out,fun ⟨_,e,h⟩=>e ▸ h⟩
def ka (x:V) (k:Bool->Prop):Prop:=match x with
 | .bB i=>k i
 | _=>False
theorem MT (i:Bool) (k:Bool->Prop):ka (.bB i) k=k i:=rfl
theorem ka.out {x:V} {k:Bool->Prop} (h:ka x k):∃ i,x=.bB i/\k i:=by
 cases x with
 | bB i=>exact ⟨i,rfl,h⟩
 | _=>exact h.elim
theorem acK (x:V) (k:Bool->Prop):ka x k = ∃ i,x=.bB i/\k i:=propext ⟨ka.out,fun ⟨_,e,h⟩=>e ▸ h⟩
def fl (x:V) (k:Addr->Prop):Prop:=match x with
 | .ref i=>k i
 | _=>False
theorem Vl (i:Addr) (k:Addr->Prop):fl (.ref i) k=k i:=rfl
theorem fl.out {x:V} {k:Addr->Prop} (h:fl x k):∃ i,x=.ref i/\k i:=by
 cases x with
 | ref i=>exact ⟨i,rfl,h⟩
 | _=>exact h.elim
theorem ale (x:V) (k:Addr->Prop):fl x k = ∃ i,x=.ref i/\k i:=propext ⟨fl.out,fun ⟨_,e,h⟩=>e ▸ h⟩
def nf (xs:List V) (k:V->Prop):Prop:=match xs with
 | [y]=>k y
 | _=>False
theorem We (y:V) (k:V->Prop):nf [y] k=k y:=rfl
theorem nf.out:∀ {xs:List V} {k:V->Prop},nf xs k->∃ y,xs=[y]/\k y
 | [y],_,h=>⟨y,rfl,h⟩
 | [],_,h=>h.elim
 | _ :: _ :: _,_,h=>h.elim
theorem anh (xs:List V) (k:V->Prop):nf xs k = ∃ y,xs=[y]/\k y:=propext ⟨nf.out,fun ⟨_,e,h⟩=>e ▸ h⟩
noncomputable def z7 (i:Nat):TE:=fun σ H Q=>tJ H Q σ[i]?
noncomputable def r9 (v:V):TE:=fun _ H Q=>Q v H
theorem aah {x:Str} (bu:X.N[i]? = some x) (aJ:xc X.env.scope x) (hd:(x == ("__debug__" : Str))=false:=by decide) (kN:(x == ("__classdict__" : Str))=false:=by decide):bw X (.Name x pos) (z7 i):=by
 intro ae s σ H Q J h;obtain ⟨v,e,h⟩:=tJ.out h;obtain ⟨m,a3,aK⟩:=J.loc;obtain ⟨u,r,l⟩:=aK i x v bu e aJ;have fin:gL X ae σ Q u s:=⟨v,H,J,r,h⟩;rcases l with ⟨aC,hm⟩ | ⟨aC,c,ay,vx⟩
 .exact wpAny_Name (wpAny_loadName_local J.ok.kind aC a3 hm fin) hd
 .rcases aC with aC | aC
  .exact wpAny_Name (wpAny_loadName_cell J.ok.kind aC ay vx fin) hd
  .exact wpAny_Name (wpAny_loadName_free J.ok.kind aC ay vx fin kN) hd
theorem aM {i j pos}:bw X (.Constant (.int i) j pos) (r9 (.int i)):=fun _ _ _ H _ J h=>wpAny_Constant_int ⟨.int i,H,J.tok _,⟨_,rfl⟩,h⟩
theorem ox {b j pos}:bw X (.Constant (.bool b) j pos) (r9 (.bB b)):=fun _ _ _ H _ J h=>Constant_bool ⟨.bB b,H,J,rfl,h⟩
theorem r8 {j pos}:bw X (.Constant .none j pos) (r9 .b'):=fun _ _ _ H _ J h=>Constant_none ⟨.b',H,J,rfl,h⟩
theorem dD {x j pos}:bw X (.Constant (.str x) j pos) (r9 (.str x)):=fun _ _ _ H _ J h=>Calls.Constant_str ⟨.str x,H,J.tok _,⟨_,rfl⟩,h⟩
def mj (X:a8) (x:Str):Prop:=X.env.kindOf x=some .globalImplicit
theorem Dx {x:Str} (J:Inv X ae σ H s) (bj:mj X x) (hm:X.mg x=some u) (h:Q u s)
  (hd:(x == ("__debug__" : Str))=false:=by decide):wpAny (model X.prog X.w) X.A (eval (.Name x pos) X.env) Q E s:=
 agq J.ok.kind bj (Calls.loadGlobal_global (by rw [J.ok.glob];exact J.mod.glob.keeps J.cI) hm h) hd
theorem wd {x:Str} (J:Inv X ae σ H s) (bj:mj X x) (hm:X.mg x=none) (aJ:bootBuiltins x=some u) (h:Q u s)
  (a3:x ≠ "__name__" := by decide) (hd:(x == ("__debug__" : Str))=false:=by decide):wpAny (model X.prog X.w) X.A (eval (.Name x pos) X.env) Q E s:=by
 obtain ⟨mL,af,ak⟩:=J.mod.blt;exact agq J.ok.kind bj (Calls.loadGlobal_builtin (by rw [J.ok.glob];exact J.mod.glob.keeps J.cI) hm (by rw [J.ok.blt];exact af.keeps J.cI) ((ak x a3).trans aJ) h) hd
theorem me {x:Str} (bj:mj X x) (hm:X.mg x=some u) (r:bK v u) (hd:(x == ("__debug__" : Str))=false:=by decide):bw X (.Name x pos) (r9 v):=
 fun _ _ _ H _ J h=>Dx J bj hm ⟨v,H,J,r,h⟩ hd
variable {a b:Expr} {a' bT:TE} {pos:Pos}
def O6 (X:a8) (op:CmpOp) (a b:Expr) (t:TE):Prop:=
 ∀ (ae:List (Addr × Obj)) (s:Shared) (σ:St) (H:au) (Q:cN),Inv X ae σ H s->t σ H Q ->
  wpAny (model X.prog X.w) X.A (eval a X.env) (fun v dk=>wpAny (model X.prog X.w) X.A (eval b X.env) (fun u d0=>wpAny (model X.prog X.w) X.A (compareOp op v u) (gL X ae σ Q) X.dI d0) X.dI dk) X.dI s
theorem acQ (b:Expr) (h:op ≠ .In) (ak:op ≠ .NotIn):behindInMarks op b=false:=by
 have aw:(op == CmpOp.In)=false:=by cases op <;> first | rfl | exact absurd rfl h
 have aG:(op == afO)=false:=by cases op <;> first | rfl | exact absurd rfl ak
 cases b <;> simp [behindInMarks,aw,aG]
noncomputable def zE (t:TE):TT:=fun σ H Q=>t σ H fun x H1=>ka x fun c=>Q c H1
theorem M' {t:TE} (h:O6 X op a b t) (af:behindInMarks op b=false:=by first | exact acQ _ (by decide) (by decide) | rfl):jt X (.Compare a [op] [b] pos) (zE t):=by
 intro ae s σ H Q J hw;refine wpAny_isTrue_Compare1 (bF (h ae s σ H _ J hw) fun v s1 af=>bF af fun u s2 ak=>bF ak fun c s3 b4=>d1 b4 fun x H1 aU bC bO=>?_) af;obtain ⟨d,rfl,q⟩:=ka.out bO;cases bC;exact wpAny_truthy_bool ⟨H1,aU,q⟩
theorem qd {e:Expr} {t:TE} (h:bw X e t) (he:∀ whole,isTrue e X.env whole=(do let v <- whole;standAt e.pos;holding [v] (truthy v)):=by intro _;rfl):jt X e (zE t):=by
 intro ae s σ H Q J hw;refine isTrue_plain (bF (h ae s σ H _ J hw) fun v s1 b4=>d1 b4 fun x H1 aU bC bO=>?_) (he _);obtain ⟨d,rfl,q⟩:=ka.out bO;cases bC;exact wpAny_truthy_bool ⟨H1,aU,q⟩
variable {mW z':TT} {ju:List Expr}
noncomputable def Fj (t u:TT):TT:=fun σ H Q=>t σ H fun c H1=>if c=true then u σ H1 Q else Q false H1
noncomputable def Mq (t u:TT):TT:=fun σ H Q=>t σ H fun c H1=>if c=true then Q true H1 else u σ H1 Q
noncomputable def G9 (t:TT):TT:=fun σ H Q=>t σ H fun c H1=>Q (!c) H1
theorem ts (aZ:jt X a mW):iC X (.BoolOp .And [a] pos) mW:=by
 intro yR ae s σ H Q J h;refine isTrue_and (bF (aZ ae s σ H Q J h) fun c s1 e=>?_);cases c with
 | true=>exact isTrue_and_nil e
 | false=>exact e
theorem t9 (aZ:jt X a mW):iC X (.BoolOp .Or [a] pos) mW:=by
 intro yR ae s σ H Q J h;refine isTrue_or (bF (aZ ae s σ H Q J h) fun c s1 e=>?_);cases c with
 | false=>exact isTrue_or_nil e
 | true=>exact e
theorem r3 (aZ:jt X a mW) (aa:iC X (.BoolOp .And (b :: ju) pos) z'):iC X (.BoolOp .And (a :: b :: ju) pos) (Fj mW z'):=by
 intro yR ae s σ H Q J h;refine isTrue_and (bF (aZ ae s σ H _ J h) fun c s1 cS=>?_);obtain ⟨H1,aU,bO⟩:=cS;cases c with
 | true=>exact aa yR ae s1 σ H1 Q aU bO
 | false=>exact ⟨H1,aU,bO⟩
theorem sv (aZ:jt X a mW) (aa:iC X (.BoolOp .Or (b :: ju) pos) z'):iC X (.BoolOp .Or (a :: b :: ju) pos) (Mq mW z'):=by
 intro yR ae s σ H Q J h;refine isTrue_or (bF (aZ ae s σ H _ J h) fun c s1 cS=>?_);obtain ⟨H1,aU,bO⟩:=cS;cases c with
 | true=>exact ⟨H1,aU,bO⟩
 | false=>exact aa yR ae s1 σ H1 Q aU bO
theorem xY (aZ:jt X a mW):jt X (.UnaryOp .Not a pos) (G9 mW):=by
 intro ae s σ H Q J h;exact isTrue_not (aZ ae s σ H (fun c H1=>Q (!c) H1) J h)
noncomputable def Hv (a' bT:TE):TE:=fun σ H Q=>a' σ H fun x H1=>ka x fun c=>if c=true then bT σ H1 Q else Q (.bB false) H1
noncomputable def Ht (a' bT:TE):TE:=fun σ H Q=>a' σ H fun x H1=>ka x fun c=>if c=true then Q (.bB true) H1 else bT σ H1 Q
noncomputable def KS (a':TE):TE:=fun σ H Q=>a' σ H fun x H1=>ka x fun c=>Q (.bB (!c)) H1
theorem u7 {op} {t:TE} (h:bw X a t):bw X (.BoolOp op [a] pos) t:=fun ae s σ H Q J hw=>BoolOp_one (h ae s σ H Q J hw)
theorem y9 (aZ:bw X a a') (aa:bw X (.BoolOp .And (b :: ju) pos) bT):bw X (.BoolOp .And (a :: b :: ju) pos) (Hv a' bT):=by
 intro ae s σ H Q J h;refine BoolOp_and (bF (aZ ae s σ H _ J h) fun v s1 b4=>d1 b4 fun x H1 aU bC bO=>?_);obtain ⟨c,rfl,g5⟩:=ka.out bO;cases bC;refine wpAny_truthy_bool ?_;cases c with
 | true=>exact aa ae s1 σ H1 Q aU g5
 | false=>exact ⟨.bB false,H1,aU,rfl,g5⟩
theorem Uh (aZ:bw X a a') (aa:bw X (.BoolOp .Or (b :: ju) pos) bT):bw X (.BoolOp .Or (a :: b :: ju) pos) (Ht a' bT):=by
 intro ae s σ H Q J h;refine BoolOp_or (bF (aZ ae s σ H _ J h) fun v s1 b4=>d1 b4 fun x H1 aU bC bO=>?_);obtain ⟨c,rfl,g5⟩:=ka.out bO;cases bC;refine wpAny_truthy_bool ?_;cases c with
 | false=>exact aa ae s1 σ H1 Q aU g5
 | true=>exact ⟨.bB true,H1,aU,rfl,g5⟩
theorem Uu (aZ:bw X a a'):bw X (.UnaryOp .Not a pos) (KS a'):=by
 intro ae s σ H Q J h;refine UnaryOp_ (bF (aZ ae s σ H _ J h) fun v s1 b4=>d1 b4 fun x H1 aU bC bO=>?_);obtain ⟨c,rfl,g5⟩:=ka.out bO;cases bC;exact not_of (wpAny_truthy_bool ⟨.bB (!c),H1,aU,rfl,g5⟩)
noncomputable def Jj (t:TT) (a' bT:TE):TE:=fun σ H Q=>t σ H fun c H1=>if c=true then a' σ H1 Q else bT σ H1 Q
theorem vq (ay:jt X c mW) (aZ:bw X a a') (aa:bw X b bT):bw X (.IfExp c a b pos) (Jj mW a' bT):=by
 intro ae s σ H Q J h;refine wpAny_IfExp (bF (ay ae s σ H _ J h) fun d s1 cS=>?_);obtain ⟨H1,aU,bO⟩:=cS;cases d with
 | true=>exact aZ ae s1 σ H1 Q aU bO
 | false=>exact aa ae s1 σ H1 Q aU bO
end
def aF (K:ba) (H:au) (a:Addr) (xs:List V):Prop:=
 jR H a (.lst xs) \/
  ∃ (o:Obj) (a4:Array Value) (n:Nat),K.lookup a=some o/\o.cls=.type "list" /\ o.dict=none/\o.data=.seq a4 n/\a4.size <= sizeLine/\b1 xs a4.toList
def de (K:ba) (H:au) (a:Addr) (xs:List V):Prop:=
 jR H a (.tup xs) \/
  ∃ (o:Obj) (a4:Array Value) (n:Nat),K.lookup a=some o/\o.cls=.type "tuple" /\ o.data=.seq a4 n/\a4.size <= sizeLine/\b1 xs a4.toList
noncomputable def acw:Value->Option V
 | .none=>some .b'
 | .bool b=>some (.bB b)
 | .int i _=>some (.int i)
 | .str x _=>some (.str x)
 | .bytes b _=>some (.k5 b)
 | .float b _=>some (.vt b)
 | .ref a=>some (.ref a)
 | .type n=>some (.ty n)
 | _=>none
theorem bK.abs {x:V} (r:bK x u):acw u=some x:=by
 cases x with
 | b'=>cases r;rfl
 | bB _=>cases r;rfl
 | int _=>obtain ⟨t,rfl⟩:=r;rfl
 | str _=>obtain ⟨t,rfl⟩:=r;rfl
 | k5 _=>obtain ⟨t,rfl⟩:=r;rfl
 | vt _=>obtain ⟨t,rfl⟩:=r;rfl
 | ref _=>cases r;rfl
 | ty _=>cases r;rfl
theorem bK.inj {x y:V} (r:bK x u) (q:bK y u):x=y:=dX (r.abs.symm.trans q.abs)
theorem b1.inj:∀ {xs ys:List V} {us:List Value},b1 xs us->b1 ys us->xs=ys
 | _,_,_,.nil,.nil=>rfl
 | _,_,_,.cons r t,.cons dM t'=>by rw [r.inj dM,b1.inj t t']
section
variable {X:a8} {ae:List (Addr × Obj)} {σ:St} {H:au} {s:Shared} {a:Addr} {xs ys:List V}
theorem aF.of {K:ba} (h:H a=some (.lst xs)):aF K H a xs:=.inl (.inl h)
theorem de.of {K:ba} (h:H a=some (.tup xs)):de K H a xs:=.inl (.inl h)
theorem Inv.list (J:Inv X ae σ H s) (h:aF X.K H a xs):∃ a4:List Value,b1 xs a4/\PlainL s.heap a a4.toArray/\xs.length <= sizeLine:=by
 rcases h with h | ⟨o,a4,n,aC,ay,hd,aB,aW,r⟩
 .obtain ⟨z,a4,n,r,e⟩:=h.ok J.bh;exact ⟨a4,r,⟨_,n,e,rfl,rfl,rfl⟩,z⟩
 .refine ⟨a4.toList,r,⟨o,n,J.jb a o aC,ay,hd,by simpa using aB⟩,?_⟩;have e:=r.length;simp only [A3] at e;omega
theorem Inv.tuple (J:Inv X ae σ H s) (h:de X.K H a xs):∃ a4:List Value,b1 xs a4/\IsTup s.heap a a4.toArray/\xs.length <= sizeLine:=by
 rcases h with h | ⟨o,a4,n,aC,ay,aB,aW,r⟩
 .obtain ⟨z,a4,r,p⟩:=h.ok J.bh;exact ⟨a4,r,p,z⟩
 .refine ⟨a4.toList,r,⟨o,J.jb a o aC,ay,n,by simpa using aB⟩,?_⟩;have e:=r.length;simp only [A3] at e;omega
theorem Inv.yk (J:Inv X ae σ H s) (h:aF X.K H a xs) (h':aF X.K H a ys):xs=ys:=by
 obtain ⟨a4,r,⟨o,n,e,_,_,d⟩,_⟩:=J.list h;obtain ⟨its',dM,⟨ei,g9,bM,_,_,d'⟩,_⟩:=J.list h';rw [e] at bM;cases bM;rw [d] at d';injection d' with ec _;have:a4=its':=by simpa using congrArg acf ec
 subst this;exact r.inj dM
theorem Inv.Vw (J:Inv X ae σ H s) (h:de X.K H a xs) (h':de X.K H a ys):xs=ys:=by
 obtain ⟨a4,r,⟨o,e,_,n,d⟩,_⟩:=J.tuple h;obtain ⟨its',dM,⟨ei,bM,_,g9,d'⟩,_⟩:=J.tuple h';rw [e] at bM;cases bM;rw [d] at d';injection d' with ec _;have:a4=its':=by simpa using congrArg acf ec
 subst this;exact r.inj dM
end
noncomputable abbrev a8.iX (X:a8) (E:Value->Shared->Prop):a8:={ X with dI:=E }
noncomputable abbrev a8.l4 (X:a8):a8:=X.iX fun _ _=>False
theorem a8.Ok.iX {X:a8} (ok:X.Ok) (E:Value->Shared->Prop):(X.iX E).Ok:=
 ⟨ok.mod,ok.kind,ok.glob,ok.blt,ok.above,ok.inj,ok.has,ok.qI,ok.hd,ok.frames,ok.sa,ok.zo,ok.bs,ok.kk,ok.rl,ok.qK,ok.j8,ok.nY⟩
theorem a8.Ok.nA {X:a8} {E:Value->Shared->Prop} (ok:(X.iX E).Ok):X.Ok:=
 ⟨ok.mod,ok.kind,ok.glob,ok.blt,ok.above,ok.inj,ok.has,ok.qI,ok.hd,ok.frames,ok.sa,ok.zo,ok.bs,ok.kk,ok.rl,ok.qK,ok.j8,ok.nY⟩
section
variable {X:a8} {ae:List (Addr × Obj)} {σ:St} {H:au} {s:Shared} {E:Value->Shared->Prop}
theorem Inv.iX (J:Inv X ae σ H s) (E:Value->Shared->Prop):Inv (X.iX E) ae σ H s:=⟨J.ok.iX E,J.os,J.bare,J.base,J.loc,J.cell,J.free,J.jm,J.pin,J.bh,J.len⟩
theorem Inv.nA (J:Inv (X.iX E) ae σ H s):Inv X ae σ H s:=⟨J.ok.nA,J.os,J.bare,J.base,J.loc,J.cell,J.free,J.jm,J.pin,J.bh,J.len⟩
theorem rK.nA (h:rK (X.iX E) ae D f aj):rK X ae D f aj:=by
 cases f with
 | next=>obtain ⟨ax,I,J,q⟩:=h;exact ⟨ax,I,J.nA,q⟩
 | brk=>obtain ⟨ax,I,J,q⟩:=h;exact ⟨ax,I,J.nA,q⟩
 | cont=>obtain ⟨ax,I,J,q⟩:=h;exact ⟨ax,I,J.nA,q⟩
 | ret u=>obtain ⟨v,ax,I,J,r,q⟩:=h;exact ⟨v,ax,I,J.nA,r,q⟩
theorem bw.l4 {e:Expr} {t:TE} (h:bw X.l4 e t):bw X e t:=fun ae s σ H Q J hw=>
 wpAny_mono (h ae s σ H Q (J.iX _) hw) (fun _ _ b4=>d1 b4 fun v I gz r q=>⟨v,I,gz.nA,r,q⟩) fun _ _ z=>jh z
theorem jt.l4 {e:Expr} {t:TT} (h:jt X.l4 e t):jt X e t:=fun ae s σ H Q J hw=>
 wpAny_mono (h ae s σ H Q (J.iX _) hw) (fun _ _ ⟨I,gz,q⟩=>⟨I,gz.nA,q⟩) fun _ _ z=>jh z
theorem kZ.l4 {st:List Stmt} {t:ea} (h:kZ X.l4 st t):kZ X st t:=fun ae s σ H D J hw=>
 wpAny_mono (h ae s σ H D (J.iX _) hw) (fun _ _ q=>q.nA) fun _ _ z=>jh z
end
section
variable {X:a8} {st:Stmt} {ju:List Stmt} {t u:ea} {e:Expr} {bV:TE} {pos:Pos}
noncomputable def jf:ea:=fun D σ H=>D.b8 σ H
noncomputable def aiS:Nat:=0
noncomputable def Eg:Nat:=aiS
noncomputable def WV:Nat:=Eg
noncomputable def DI:Nat:=WV
noncomputable def aat:Nat:=DI
noncomputable def akT:Nat:=aat
noncomputable def ama:Nat:=akT
noncomputable def ahR:Nat:=ama
noncomputable def alA:Nat:=ahR
noncomputable def ae4:Nat:=alA
noncomputable def agn:Nat:=ae4
noncomputable def aj_:Nat:=agn
noncomputable def aaP:Nat:=aj_
noncomputable def GY (t u:ea):ea:=fun D σ H=>(fun _:Nat=>t { D with b8:=u D } σ H) aaP
theorem fe:kZ X [] jf:=fun _ _ σ H _ J h=>wpAny_execs_nil ⟨σ,H,J,h⟩
theorem aP (af:hr X st t) (ak:kZ X ju u):kZ X (st :: ju) (GY t u):=by
 intro ae s σ H D J h;refine wpAny_execs_cons (bF (af ae s σ H { D with b8:=u D } J h) fun f s1 q=>?_);cases f with
 | next=>
  obtain ⟨ax,I,gz,q⟩:=q;exact ak ae s1 ax I D gz q
 | ret v=>exact q
 | brk=>exact q
 | cont=>exact q
theorem a6 (af:hr X st t):kZ X [st] t:=by
 intro ae s σ H D J h;refine wpAny_execs_cons (bF (af ae s σ H D J h) fun f s1 q=>?_);cases f with
 | next=>exact wpAny_execs_nil q
 | ret v=>exact q
 | brk=>exact q
 | cont=>exact q
theorem Inv.quiet (J:Inv X ae σ H s):interactive X.env=false:=by simp [interactive,J.ok.kind]
noncomputable def Mu (bV:TE):ea:=fun D σ H=>bV σ H fun _ H1=>D.b8 σ H1
theorem eo (he:bw X e bV) (aB:swapsWith e none pos.line X.env=pure false:=by rfl):hr X (.Expr e pos) (Mu bV):=by
 intro ae s σ H D J h;exact wpAny_Expr_any (bF (he ae s σ H _ J h) fun v s1 b4=>d1 b4 fun x H1 aU bC bO=>⟨σ,H1,aU,bO⟩) J.quiet aB
noncomputable def B5 (bV:TE):ea:=fun D σ H=>bV σ H D.k3
theorem cz (he:bw X e bV):hr X (.Return (some e) pos) (B5 bV):=by
 intro ae s σ H D J h;exact wpAny_Return_some (bF (he ae s σ H _ J h) fun v s1 b4=>d1 b4 fun x H1 aU bC bO=>⟨x,σ,H1,aU,bC,bO⟩)
noncomputable def KU:ea:=fun D _ H=>D.k3 .b' H
theorem ahS:hr X (.Return none pos) KU:=fun _ _ σ H _ J h=>wpAny_Return_none ⟨.b',σ,H,J,rfl,h⟩
noncomputable def Lo (c:TT) (t u:ea):ea:=fun D σ H=>c σ H fun b H1=>if b=true then t D σ H1 else u D σ H1
theorem en (ay:jt X c dv) (aZ:kZ X a t) (aa:kZ X b u):hr X (.If c a b pos) (Lo dv t u):=by
 intro ae s σ H D J h;refine wpAny_If (bF (ay ae s σ H _ J h) fun d s1 cS=>?_);obtain ⟨H1,aU,bO⟩:=cS;cases d with
 | true=>exact aZ ae s1 σ H1 D aU bO
 | false=>exact aa ae s1 σ H1 D aU bO
noncomputable def Km:ea:=fun _ _ _=>False
theorem oF:hr X st Km:=fun _ _ _ _ _ _ h=>h.elim
end
noncomputable abbrev gH:=V->St->au->(St->au->Prop)->Prop
noncomputable abbrev tA:=List V->St->au->(St->au->Prop)->Prop
def mE (X:a8) (y3:Expr) (t:gH):Prop:=
 ∀ (ae:List (Addr × Obj)) (s:Shared) (σ:St) (H:au) (v:V) (u:Value) (Q:St->au->Prop),Inv X ae σ H s->bK v u->t v σ H Q ->
  wpAny (model X.prog X.w) X.A (assign y3 X.env u) (fun _ aj=>∃ ax I,Inv X ae ax I aj/\Q ax I) X.dI s
def yP (X:a8) (vF:List Expr) (t:tA):Prop:=
 ∀ (ae:List (Addr × Obj)) (s:Shared) (σ:St) (H:au) (vs:List V) (us:List Value) (Q:St->au->Prop),Inv X ae σ H s->b1 vs us->t vs σ H Q ->
  wpAny (model X.prog X.w) X.A (assignInOrder ((assignEach vF X.env).map (·.2)) us) (fun _ aj=>∃ ax I,Inv X ae ax I aj/\Q ax I) X.dI s
noncomputable abbrev Kd:=V->V->V->au->(au->Prop)->Prop
def M0 (X:a8) (t:Kd):Prop:=
 ∀ (ae:List (Addr × Obj)) (s:Shared) (σ:St) (H:au) (o i v:V) (dN gN u:Value) (Q:au->Prop),Inv X ae σ H s->bK o dN->bK i gN->bK v u->t o i v H Q ->
  wpAny (model X.prog X.w) X.A (setItem dN gN u) (fun _ aj=>∃ I,Inv X ae σ I aj/\Q I) X.dI s
noncomputable abbrev Kl:=V->V->au->cN->Prop
def VD (X:a8) (op:Operator) (t:Kl):Prop:=
 ∀ (ae:List (Addr × Obj)) (s:Shared) (σ:St) (H:au) (x y:V) (v u:Value) (Q:cN),Inv X ae σ H s->bK x v->bK y u->t x y H Q ->
  wpAny (model X.prog X.w) X.A (inplaceOp op v u) (gL X ae σ Q) X.dI s
section
variable {X:a8} {pos:Pos}
noncomputable def gj (i:Nat):gH:=fun v σ H Q=>Q (σ.set i (some v)) H
theorem RG {x:Str} (bu:X.N.Nodup) (ah:X.N[i]? = some x) (ag:Loc X.env.scope x) (hf:X.fn x=true\/X.env.scope.names.lookup x=some .local:=by first | exact .inl rfl | exact .inr rfl | assumption):mE X (.Name x pos) (gj i):=by
 intro ae s σ H v u Q J r h;exact wpAny_assign_Name (xz J bu ah ag r (fun aj gz=>⟨_,H,gz,h⟩) hf)
noncomputable def xx:tA:=fun vs σ H Q=>vs=[]/\Q σ H
noncomputable def r7 (t:gH) (u:tA):tA:=fun vs σ H Q=>∃ v r,vs=v :: r/\t v σ H fun ax I=>u r ax I Q
theorem k8:yP X [] xx:=by
 intro ae s σ H vs us Q J r h;obtain ⟨e,h⟩:=h;subst e;cases r;exact assignInOrder_nil ⟨σ,H,J,h⟩
theorem fc {e:Expr} {t:gH} (af:mE X e t) (ak:yP X a0 u)
  (aB:(assignEach (e :: a0) X.env).map (·.2)=assign e X.env :: (assignEach a0 X.env).map (·.2):=by rfl):yP X (e :: a0) (r7 t u):=by
 intro ae s σ H vs us Q J r h;obtain ⟨v,aqf,aw,h⟩:=h;subst aw;cases r with
 | cons r tx=>
  rw [aB];refine assignInOrder_cons (bF (af ae s σ H _ _ _ J r h) fun _ s1 cS=>?_);obtain ⟨gf,H1,aU,bO⟩:=cS;exact ak ae s1 gf H1 _ _ Q aU tx bO
noncomputable def uW (K:ba) (n:Nat) (t:tA):gH:=fun v σ H Q=>∃ a xs,v=.ref a/\de K H a xs/\xs.length=n/\t xs σ H Q
theorem acy {k:Nat} {t:tA} (ay:X.calm=true) (h:yP X a0 t)
  (a3:(assignEach a0 X.env).length=n:=by rfl) (gd:(assignEach a0 X.env).findIdx? (·.1)=none:=by rfl):mE X (.Tuple a0 k pos) (uW X.K n t):=by
 intro ae s σ H v u Q J r hw;obtain ⟨a,xs,aw,aD,aK,hw⟩:=hw;subst aw;cases r;obtain ⟨a4,cL,cZ,aW⟩:=J.tuple aD;refine assign_Tuple_tuple (J.ok.hd ay) cZ (by simp [a3,<- aK,cL.length]) gd fun h' ag=>?_
 have aU:Inv X ae σ H { s with heap:=h' }:=J.kept (t':=s.toks) fun b o e=>ag b o (fX (ek e)) e
 exact h ae _ σ H xs _ Q aU (by simpa using cL) hw
noncomputable def G4 (to ro:TE) (t:Kd):gH:=fun v σ H Q=>to σ H fun o H1=>ro σ H1 fun i av=>t o i v av fun bk=>Q σ bk
theorem alO {to ro:TE} {t:Kd} (aS:bw X o to) (ah:bw X i ro) (aB:M0 X t)
  (aZ:∀ v,assign (.Subscript o i pos) X.env v=(do
   let dN <- holding [v] (eval o X.env)
   let gN <- holding [v,dN] (eval i X.env)
   standAt pos
   holding [v,dN,gN] (setItem dN gN v)
   release [v,dN,gN] []):=by intro _;rfl):mE X (.Subscript o i pos) (G4 to ro t):=by
 intro ae s σ H v u Q J r h;rw [aZ];refine wpAny_bind (wpAny_holding (bF (aS ae s σ H _ J h) fun dN s1 b4=>d1 b4 fun x H1 aU bC bO=>?_));refine wpAny_bind (wpAny_holding (bF (ah ae s1 σ H1 _ aU bO) fun gN s2 b4=>d1 b4 fun y av bN c0 dC=>?_));refine wpAny_bind (wpAny_standAt (wpAny_bind (wpAny_holding (bF (aB ae s2 σ av x y v dN gN u _ bN bC c0 r dC) fun _ s3 cS=>?_))));obtain ⟨bk,eI,hn⟩:=cS;exact wpAny_release ⟨σ,bk,eI,hn⟩
noncomputable def ue (bV:TE) (g:gH):ea:=fun D σ H=>bV σ H fun x H1=>g x σ H1 D.b8
theorem Mr {dm e:Expr} (he:bw X e bV) (bj:mE X dm g) (aB:swapsWithSole [dm] e pos.line X.env=pure false:=by rfl) (hw:swappedStores [dm] e X.env=pure none:=by rfl)
  (af:(assignEach [dm] X.env).map (·.2)=[assign dm X.env]:=by rfl):hr X (.Assign [dm] e pos) (ue bV g):=by
 intro ae s σ H D J h;refine wpAny_Assign_stores (bF (he ae s σ H _ J h) fun v s1 b4=>d1 b4 fun x H1 aU bC bO=>?_) aB hw;rw [af];exact bF (bj ae s1 σ H1 x v _ aU bC bO) fun _ s2 q=>q
theorem qv {x:Str} {e:Expr} (bu:X.N.Nodup) (ah:X.N[i]? = some x) (ag:Loc X.env.scope x) (he:bw X e bV) (aB:swapsWith e (some (.Name x pos')) pos.line X.env=pure false:=by rfl) (hf:X.fn x=true\/X.env.scope.names.lookup x=some .local:=by first | exact .inl rfl | exact .inr rfl | assumption) :
  hr X (.Assign [.Name x pos'] e pos) (ue bV (gj i)):=by
 intro ae s σ H D J h;refine wpAny_Assign_Name (bF (he ae s σ H _ J h) fun v s1 b4=>d1 b4 fun y H1 aU bC bO=>?_) aB;exact xz aU bu ah ag bC (fun s2 bN=>⟨_,H1,bN,bO⟩) hf
noncomputable def FS (i:Nat) (bV:TE) (ro:Kl):ea:=fun D σ H=>∃ x,σ[i]? = some (some x)/\bV σ H fun y H1=>ro x y H1 fun z av=>D.b8 (σ.set i (some z)) av
theorem XY {x:Str} {e:Expr} (bu:X.N.Nodup) (ah:X.N[i]? = some x) (ag:Loc X.env.scope x) (he:bw X e bV) (aS:VD X op ro) (hf:X.fn x=true\/X.env.scope.names.lookup x=some .local:=by first | exact .inl rfl | exact .inr rfl | assumption) :
  hr X (.AugAssign (.Name x pos') op e pos) (FS i bV ro):=by
 intro ae s σ H D J h;obtain ⟨v,aw,h⟩:=h;obtain ⟨m,a3,aK⟩:=J.loc;have al5:xc X.env.scope x:=by rcases ag with k | k;exact .inl k;exact .inr (.inl k)
 obtain ⟨u,r,l⟩:=aK i x v ah aw al5;refine wpAny_AugAssign_Name ?_;have go:wpAny (model X.prog X.w) X.A (eval e X.env) (fun w d0=>wpAny (model X.prog X.w) X.A (inplaceOp op u w) (fun r k_=>wpAny (model X.prog X.w) X.A (storeName X.env x r) (fun _=>rK X ae D .next) X.dI k_) X.dI d0) X.dI s:=by
  refine bF (he ae s σ H _ J h) fun w s1 b4=>d1 b4 fun y H1 aU bC bO=>?_
  refine bF (aS ae s1 σ H1 v y u w _ aU r bC bO) fun z s2 b4=>d1 b4 fun apL av bN c0 dC=>?_
  exact xz bN bu ah ag c0 (fun s3 eI=>⟨_,av,eI,dC⟩) hf
 rcases l with ⟨aC,hm⟩ | ⟨aC,c,ay,vx⟩
 .exact wpAny_loadName_local J.ok.kind aC a3 hm go
 .rcases aC with aC | aC
  .exact wpAny_loadName_cell J.ok.kind aC ay vx go
  .rcases ag with k | k
   .have:X.env.scope.names.lookup x=some .free:=aC;rw [k] at this;cases this
   .have:X.env.scope.names.lookup x=some .free:=aC;rw [k] at this;cases this
noncomputable def NR (f:Int->Int->Int):Kl:=fun x y H Q=>∃ i j,x=.int i/\y=.int j/\Q (.int (f i j)) H
theorem afu:VD X .Sub (NR fun i j=>i - j):=by
 intro ae s σ H x y v u Q J bC c0 h;obtain ⟨i,j,aw,aG,q⟩:=h;subst aw;subst aG;obtain ⟨t,rfl⟩:=bC;obtain ⟨t',rfl⟩:=c0;exact isub_int ⟨.int _,H,J.tok _,⟨_,rfl⟩,q⟩
noncomputable def U' (c:TT) (bT:ea):ea:=fun D σ H=>∃ W:Nat->St->au->Prop,(∃ m,W m σ H)/\∀ m σ H,W m σ H ->
 c σ H fun b H1=>if b=true then ∃ N:St->au->Prop,(∀ ax I,N ax I->∃ c6,c6 < m/\W c6 ax I)/\bT { D with b8:=N,e_:=N,cI:=D.b8 } σ H1 else D.b8 σ H1
theorem WM (aq:PassesOwn (model X.prog X.w) X.A X.env X.dI) (ay:jt X c dv) (aa:kZ X body bT):hr X (.While c body [] pos) (U' dv bT):=by
 intro ae s σ H D J h;obtain ⟨W,⟨m0,nW⟩,turn⟩:=h;refine wpAny_While (codeAny_whileLoop (fun n aj=>∃ ax I,Inv X ae ax I aj/\W n ax I) ?_ m0 ⟨σ,H,J,nW⟩);rintro n s1 ⟨gf,H1,aU,dJ⟩;refine wpAny_passesOwn aq (bF (ay ae s1 gf H1 _ aU (turn n gf H1 dJ)) fun b s2 cS=>?_);obtain ⟨av,bN,dC⟩:=cS;cases b with
 | true=>
  obtain ⟨N,bu,dC⟩:=dC;rw [if_pos rfl];refine wpAny_passesOwn aq (bF (aa ae s2 gf av _ bN dC) fun f s3 hn=>?_);cases f with
  | next=>
   obtain ⟨fT,bk,eI,dy⟩:=hn;obtain ⟨c6,hm,hL⟩:=bu fT bk dy;exact ⟨c6,hm,fT,bk,eI,hL⟩
  | cont=>
   obtain ⟨fT,bk,eI,dy⟩:=hn;obtain ⟨c6,hm,hL⟩:=bu fT bk dy;exact ⟨c6,hm,fT,bk,eI,hL⟩
  | brk=>exact hn
  | ret v=>exact hn
 | false=>
  rw [if_neg fY];exact wpAny_execs_nil ⟨gf,av,bN,dC⟩
end
structure jC where
 go:Nat->au->Prop
 pR:Nat->au->V->au->Prop
 stop:Nat->au->Prop
def jx (X:a8) (ae:List (Addr × Obj)) (H:au) (b:Addr):Prop:=
 H b=none/\b ≠ X.env.locals/\b ∉ X.aR/\(b ∈ X.ex\/X.fQ.heap.objs.size <= b)/\(∀ x c,X.env.cells.lookup x=some c->c ≠ b)/\∀ p ∈ X.da ++ ae,p.1 ≠ b
theorem Inv.oq (J:Inv X ae σ H s) (aa:s.heap.objs.size <= b) (a3:I b=none):jx X ae I b:=by
 refine ⟨a3,BR (h6 J.lt aa),J.FY aa,.inr (c7 J.nZ aa),fun x c e z=>?_,fun p aq z=>?_⟩
 .obtain ⟨v,q⟩:=J.cell x c e;exact absurd (h6 q.lt (by rw [z];exact aa)) (l_ _)
 .exact absurd (h6 (ek (J.pin p aq).1) (by rw [z];exact aa)) (l_ _)
structure pC (P:Program) (w:World) (K:ba) (dm:Expr) (b3:jC) (bp:List Addr) (it:Addr) (cc:Nat->Heap->Prop):Prop where
 mem:it ∈ bp
 obj:∀ i h,cc i h->∀ b ∈ bp,∃ o,h.get? b=some o/\∀ v,o.data ≠ .cell v
 keep:∀ i h h',cc i h->(∀ b ∈ bp,∀ o,h.get? b=some o->h'.get? b=some o)->cc i h'
 item:∀ (X:a8),X.prog=P->X.w=w->X.K=K->X.calm=true->∀ (i:Nat) (ae:List (Addr × Obj)) (s:Shared) (σ:St) (H:au) (E:Value->Shared->Prop),Inv X ae σ H s->(∀ b ∈ bp,jx X ae H b)->cc i s.heap->b3.go i H ->
  wpAny (model P w) X.A (pyNext (.ref it)) (fun r s1=>∃ u,r=some u /\
   wpAny (model P w) X.A (letOwnedTupleGo dm (.ref it) u) (fun _ s2=>∃ x I,Inv X ae σ I s2/\bK x u/\b3.pR i H x I/\cc (i + 1) s2.heap/\∀ b ∈ bp,I b=none) E s1) E s
 done:∀ (X:a8),X.prog=P->X.w=w->X.K=K->X.calm=true->∀ (i:Nat) (ae:List (Addr × Obj)) (s:Shared) (σ:St) (H:au) (E:Value->Shared->Prop),Inv X ae σ H s->(∀ b ∈ bp,jx X ae H b)->cc i s.heap->b3.stop i H ->
  wpAny (model P w) X.A (pyNext (.ref it)) (fun r s1=>r=none/\Inv X ae σ H s1) E s
 self:∀ (A:Around) (i:Nat) (s:Shared) (Q:Value->Shared->Prop) (E:Value->Shared->Prop),cc i s.heap->Q (.ref it) s->wpAny (model P w) A (pyIter (.ref it)) Q E s
noncomputable abbrev TI:=St->au->(jC->au->Prop)->Prop
def Vy (X:a8) (ae:List (Addr × Obj)) (σ:St) (dm:Expr) (R:jC->au->Prop) (Aq:Value) (s2:Shared):Prop:=
 ∃ (it:Addr) (bp:List Addr) (cc:Nat->Heap->Prop) (b3:jC) (I:au),Aq=.ref it/\Inv X ae σ I s2/\pC X.prog X.w X.K dm b3 bp it cc/\cc 0 s2.heap/\(∀ b ∈ bp,jx X ae I b)/\R b3 I
def o7 (X:a8) (dm iter:Expr) (hN:TI):Prop:=
 ∀ (ae:List (Addr × Obj)) (s:Shared) (σ:St) (H:au) (R:jC->au->Prop),Inv X ae σ H s->hN σ H R ->
  wpAny (model X.prog X.w) X.A (eval iter X.env) (fun v s1=>wpAny (model X.prog X.w) X.A (pyIter v) (Vy X ae σ dm R) X.dI s1) X.dI s
theorem yJ {A:Around} {it:Addr} (aS:s.heap.get? it=some o) (ay:o.cls=.type n) (hd:o.data=.fields vs)
    (a3:["enumerate","zip","dict_itemiterator","dict_reverseitemiterator","odict_iterator","itertools.zip_longest","itertools.pairwise"].contains n=false) (a9:Q () s):wpAny M A (letOwnedTupleGo dm (.ref it) u) Q E s:=by
  unfold letOwnedTupleGo;cases dm <;> first
    | exact wpAny_pure a9
    | (cases u <;> first
        | exact wpAny_pure a9
        | (refine wpAny_bind (wpAny_load aS ?_)
           rw [ay,hd];show wpAny M A (if (["enumerate","zip","dict_itemiterator","dict_reverseitemiterator","odict_iterator","itertools.zip_longest","itertools.pairwise"].contains n && vs[0]? == some (rawInt _))=true then _ else _) Q E s;rw [if_neg (by intro h;rw [a3,nJ] at h;cases h)];exact wpAny_pure a9))
noncomputable def nG (K:ba) (a:Addr):jC:=
 ⟨fun i H=>∃ xs x,aF K H a xs/\xs[i]? = some x,fun i H x I=>I=H/\∀ xs,aF K H a xs->xs[i]? = some x,fun i H=>∃ xs,aF K H a xs/\xs.length <= i⟩
noncomputable def EF (K:ba) (a:Addr):jC:=
 ⟨fun i H=>∃ xs x,de K H a xs/\xs[i]? = some x,fun i H x I=>I=H/\∀ xs,de K H a xs->xs[i]? = some x,fun i H=>∃ xs,de K H a xs/\xs.length <= i⟩
noncomputable def oa (lo:Int) (n:Nat):jC:=⟨fun i _=>i < n,fun i H x I=>I=H/\x=.int (lo + i),fun i _=>n <= i⟩
theorem ajW {w:World} {K:ba} (a it:Addr):pC P w K dm (nG K a) [it] it (fun i h=>h.IsListIter it a i) where
 mem:=by simp
 obj:=fun i h st b aa=>by
  have e:b=it:=by simpa using aa
  subst e;obtain ⟨o,e,c,d⟩:=st;exact ⟨o,e,fun v z=>by rw [d] at z;cases z⟩
 keep:=fun i h h' st k=>st.at fun o e=>k it (by simp) o e
 item:=by
  intro X cD hw fB ay i ae s σ H E J hf st bj;subst cD hw fB;obtain ⟨xs,x,aD,ag⟩:=bj;obtain ⟨a4,cL,p,aW⟩:=J.list aD;obtain ⟨u,bt,eG⟩:=cL.get ag;obtain ⟨f0,f1,f2,eM,f4,e7⟩:=hf it (by simp);refine wpAny_pyNext_list_item st p.isList (x:=u) (by simpa using bt) fun h' kR oV=>?_
  have aU:Inv X ae σ H { s with heap:=h' }:=J.turned (t':=s.toks) (fun b o aa e=>(oV.2 b aa).trans e) f0 f1 eM f4 e7;obtain ⟨o,e,c,d⟩:=id kR;exact ⟨u,rfl,yJ (s:={ s with heap:=h' }) e c d (by decide) ⟨x,H,aU,eG,⟨rfl,fun ys aY=>by rw [J.yk aY aD];exact ag⟩,kR,fun b aa=>(hf b aa).1⟩⟩
 done:=by
  intro X cD hw fB ay i ae s σ H E J hf st bj;subst cD hw fB;obtain ⟨xs,aD,ag⟩:=bj;obtain ⟨a4,cL,p,aW⟩:=J.list aD;obtain ⟨f0,f1,f2,eM,f4,e7⟩:=hf it (by simp);have aK:=cL.length;exact wpAny_pyNext_list_end (J.ok.hd ay) st p.isList (by simp;omega) fun h' bz=>⟨rfl,J.turned (t':=s.toks) (fun b o aa e=>bz b o aa e) f0 f1 eM f4 e7⟩
 self:=fun _ _ _ _ _ st h=>wpAny_pyIter_listiter st h
theorem UF {w:World} {K:ba} (a it:Addr):pC P w K dm (EF K a) [it] it (fun i h=>h.IsTupleIter it a i) where
 mem:=by simp
 obj:=fun i h st b aa=>by
  have e:b=it:=by simpa using aa
  subst e;obtain ⟨o,e,c,d⟩:=st;exact ⟨o,e,fun v z=>by rw [d] at z;cases z⟩
 keep:=fun i h h' st k=>st.at fun o e=>k it (by simp) o e
 item:=by
  intro X cD hw fB ay i ae s σ H E J hf st bj;subst cD hw fB;obtain ⟨xs,x,aD,ag⟩:=bj;obtain ⟨a4,cL,p,aW⟩:=J.tuple aD;obtain ⟨u,bt,eG⟩:=cL.get ag;obtain ⟨f0,f1,f2,eM,f4,e7⟩:=hf it (by simp);refine wpAny_pyNext_tuple_item st (show s.heap.IsTuple a a4.toArray from p) (x:=u) (by simpa using bt) fun h' kR oV=>?_
  have aU:Inv X ae σ H { s with heap:=h' }:=J.turned (t':=s.toks) (fun b o aa e=>(oV.2 b aa).trans e) f0 f1 eM f4 e7;obtain ⟨o,e,c,d⟩:=id kR;exact ⟨u,rfl,yJ (s:={ s with heap:=h' }) e c d (by decide) ⟨x,H,aU,eG,⟨rfl,fun ys aY=>by rw [J.Vw aY aD];exact ag⟩,kR,fun b aa=>(hf b aa).1⟩⟩
 done:=by
  intro X cD hw fB ay i ae s σ H E J hf st bj;subst cD hw fB;obtain ⟨xs,aD,ag⟩:=bj;obtain ⟨a4,cL,p,aW⟩:=J.tuple aD;obtain ⟨f0,f1,f2,eM,f4,e7⟩:=hf it (by simp);have aK:=cL.length;exact wpAny_pyNext_tuple_end (J.ok.hd ay) st (show s.heap.IsTuple a a4.toArray from p) (by simp;omega) fun h' bz=>⟨rfl,J.turned (t':=s.toks) (fun b o aa e=>bz b o aa e) f0 f1 eM f4 e7⟩
 self:=fun _ _ _ _ _ st h=>wpAny_pyIter_tupleiter st h
theorem acD {w:World} {K:ba} (it:Addr) (lo:Int) (n:Nat):pC P w K dm (oa lo n) [it] it (fun i h=>IsRangeIter h it (lo + (i:Nat) * 1) ((n:Int) - (i:Nat)) 1) where
 mem:=by simp
 obj:=fun i h st b aa=>by
  have e:b=it:=by simpa using aa
  subst e;exact ⟨_,st,fun v z=>by
   have ih:N9 _=Wf v:=z;cases ih⟩
 keep:=fun i h h' st k=>k it (by simp) _ st
 item:=by
  intro X cD hw fB ay i ae s σ H E J hf st bj;subst cD hw fB;obtain ⟨f0,f1,f2,eM,f4,e7⟩:=hf it (by simp);have W:=Walks.range (prog:=X.prog) (w:=X.w) (J.ok.hd ay) it lo 1 n;refine W.item i s _ _ bj st fun v h' tk aJ kR jX=>?_
  obtain ⟨t,rfl⟩:=aJ;have aU:Inv X ae σ H { s with heap:=h',toks:=tk }:=J.turned (fun b o aa e=>jX b o (by simpa using aa) e) f0 f1 eM f4 e7;refine ⟨_,rfl,yJ (s:={ s with heap:=h',toks:=tk }) (n := "range_iterator") kR rfl rfl (by decide) ⟨.int (lo + i),H,aU,⟨t,?_⟩,⟨rfl,rfl⟩,kR,fun b aa=>(hf b aa).1⟩⟩;rw [Int.mul_one]
 done:=by
  intro X cD hw fB ay i ae s σ H E J hf st bj;subst cD hw fB;obtain ⟨f0,f1,f2,eM,f4,e7⟩:=hf it (by simp);exact wpAny_pyNext_range_end (J.ok.hd ay) st (by have:n <= i:=bj;omega) fun h' bz=>⟨rfl,J.turned (t':=s.toks) (fun b o aa e=>bz b o aa e) f0 f1 eM f4 e7⟩
 self:=fun _ _ _ _ _ st h=>wpAny_pyIter_rangeiter st h
section
variable {X:a8} {dm:Expr}
noncomputable def JT (K:ba) (dq:TE):TI:=fun σ H R=>dq σ H fun x H1=>fl x fun a=>(∃ xs,aF K H1 a xs)/\R (nG K a) H1
noncomputable def KP (K:ba) (dq:TE):TI:=fun σ H R=>dq σ H fun x H1=>fl x fun a=>(∃ xs,de K H1 a xs)/\R (EF K a) H1
theorem eS (aK:bw X l dq):o7 X dm l (JT X.K dq):=by
 intro ae s σ H R J h;refine bF (aK ae s σ H _ J h) fun v s1 b4=>d1 b4 fun x H1 aU bC bO=>?_
 obtain ⟨a,e,⟨xs,aD⟩,q⟩:=fl.out bO;subst e;cases bC;obtain ⟨a4,cL,p,aW⟩:=aU.list aD;refine wpAny_pyIter_list p.isList ?_;refine ⟨s1.heap.objs.size,[s1.heap.objs.size],_,_,H1,rfl,aU.kept (t':=s1.toks) fun b o e=>eP _ e,ajW a _,⟨_,hp _ rfl,rfl,rfl⟩,fun b aa=>?_,q⟩;have e:b=s1.heap.objs.size:=by simpa using aa
 subst e;exact aU.oq (bR _) (aU.bh.fresh (bR _))
theorem X8 (aK:bw X l dq):o7 X dm l (KP X.K dq):=by
 intro ae s σ H R J h;refine bF (aK ae s σ H _ J h) fun v s1 b4=>d1 b4 fun x H1 aU bC bO=>?_
 obtain ⟨a,e,⟨xs,aD⟩,q⟩:=fl.out bO;subst e;cases bC;obtain ⟨a4,cL,p,aW⟩:=aU.tuple aD;refine wpAny_pyIter_tuple (show s1.heap.IsTuple a a4.toArray from p) ?_;refine ⟨s1.heap.objs.size,[s1.heap.objs.size],_,_,H1,rfl,aU.kept (t':=s1.toks) fun b o e=>eP _ e,UF a _,⟨_,hp _ rfl,rfl,rfl⟩,fun b aa=>?_,q⟩;have e:b=s1.heap.objs.size:=by simpa using aa
 subst e;exact aU.oq (bR _) (aU.bh.fresh (bR _))
theorem amu {ae:List (Addr × Obj)} {σ:St} {H:au} {s:Shared} {R:jC->au->Prop} {E:Value->Shared->Prop} {lo ah:Int} {t u v:Tok} {tk:Nat} (J:Inv X ae σ H s) (af:-(2 ^ 62) <= lo) (ak:lo < 2 ^ 62) (bc:-(2 ^ 62) <= ah) (c4:ah < 2 ^ 62)
  (q:R (oa lo (ah - lo).toNat) H):wpAny (model X.prog X.w) X.A (pyIter (.ref s.heap.objs.size)) (Vy X ae σ dm R) E { s with heap:=s.heap.push { cls:=.type "range",data:=.fields #[.int lo t,.int ah u,.int 1 v] },toks:=tk }:=by
 refine wpAny_pyIter_range (IsRange.new ..) (small_one af ak bc c4) ?_;have aU:Inv X ae σ H { s with heap:=s.heap.push { cls:=.type "range",data:=.fields #[.int lo t,.int ah u,.int 1 v] },toks:=tk }:=J.kept fun b o e=>eP _ e
 refine ⟨(s.heap.push { cls:=.type "range",data:=.fields #[.int lo t,.int ah u,.int 1 v] }).objs.size,[(s.heap.push { cls:=.type "range",data:=.fields #[.int lo t,.int ah u,.int 1 v] }).objs.size],_,_,H,rfl,
  aU.kept (t':=tk) fun b o e=>eP _ e,acD _ lo (ah - lo).toNat,?_,fun b aa=>?_,q⟩
 .have aw:lo + ((0:Nat):Int) * 1=lo:=by simp
  have aG:(((ah - lo).toNat:Nat):Int) - ((0:Nat):Int)=anQ lo ah 1:=by rw [rangeSize_one];split <;> omega
  show IsRangeIter _ _ (lo + ((0:Nat):Int) * 1) ((((ah - lo).toNat:Nat):Int) - ((0:Nat):Int)) 1;rw [aw,aG];exact hp _ rfl
 .have e:b=(s.heap.push { cls:=.type "range",data:=.fields #[.int lo t,.int ah u,.int 1 v] }).objs.size:=by simpa using aa
  subst e;exact aU.oq (bR _) (aU.bh.fresh (bR _))
noncomputable def SK (a':f3):TI:=fun σ H R=>a' σ H fun vs H1=>nf vs fun x=>gA x fun j=>-(2 ^ 62) <= j/\j < 2 ^ 62/\R (oa 0 j.toNat) H1
theorem pe {a:Expr} {a':f3} {p pos:Pos} (bj:mj X "range") (hm:X.mg "range"=none) (aZ:jI X [a] a') (aB:starEach [a] X.env=[(false,eval a X.env)]:=by rfl):o7 X dm (.Call (.Name "range" p) [a] [] pos) (SK a'):=by
 intro ae s σ H R J h;refine Call_ (wd J bj hm boot_range (Sd (bF (aZ pos ae s σ H _ J h) fun us s1 cS=>?_) aB rfl));obtain ⟨vs,H1,aU,bC,bO⟩:=cS;obtain ⟨ajb,acM,g5⟩:=nf.out bO;obtain ⟨j,LD,ajN,dC,q⟩:=gA.out g5;have e:=acM.trans (congrArg (fun z=>[z]) LD);subst e;cases bC with
 | cons r tx=>
  cases tx;obtain ⟨t,rfl⟩:=r;exact call_range_1 (amu aU (by omega) (by omega) ajN dC (by simpa using q))
noncomputable def OL (hN:TI) (g:gH) (bT:ea):ea:=fun D σ H=>hN σ H fun b3 H1=>∃ W:Nat->Nat->St->au->Prop,(∃ m,W 0 m σ H1)/\∀ i m σ H,W i m σ H ->
 (b3.stop i H/\D.b8 σ H)\/(b3.go i H/\∃ N:St->au->Prop,(∀ ax I,N ax I->∃ c6,c6 < m/\W (i + 1) c6 ax I)/\∀ x I,b3.pR i H x I->g x σ I fun cn av=>bT { D with b8:=N,e_:=N,cI:=D.b8 } cn av)
noncomputable def x' (bp:List Addr) (h:Heap):List (Addr × Obj):=bp.filterMap fun b=>(h.get? b).map fun o=>(b,o)
theorem DM {h:Heap} (aa:b ∈ bp) (e:h.get? b=some o):(b,o) ∈ x' bp h:=Ya.mpr ⟨b,aa,by rw [e];rfl⟩
theorem afB {h:Heap} {p:Addr × Obj} (aq:p ∈ x' bp h):p.1 ∈ bp/\h.get? p.1=some p.2:=by
 obtain ⟨b,aa,e⟩:=Ya.mp aq;cases q:h.get? b with
 | none=>rw [q] at e;cases e
 | some o=>
  rw [q] at e;have bM:(b,o)=p:=dX e;subst bM;exact ⟨aa,q⟩
theorem Inv.pinned (J:Inv X ae σ H s) (hf:∀ b ∈ bp,jx X ae H b) (aS:∀ b ∈ bp,∃ o,s.heap.get? b=some o/\∀ v,o.data ≠ .cell v):Inv X (ae ++ x' bp s.heap) σ H s:=
 J.tu fun p aq=>(gU.mp aq).elim (fun z=>J.pin p (kI _ z)) fun z=>by
  obtain ⟨aa,e⟩:=afB z;obtain ⟨f0,f1,f2,_⟩:=hf p.1 aa;obtain ⟨o,bM,d⟩:=aS p.1 aa;rw [e] at bM;cases bM;exact ⟨e,f0,f1,f2,d⟩
theorem Inv.Aw (J:Inv X (ae ++ pl) σ H s):Inv X ae σ H s:=J.tu fun p aq=>J.pin p (kI _ (wY _ aq))
theorem fp (aq:PassesOwn (model X.prog X.w) X.A X.env X.dI) (ay:X.calm=true) (ah:o7 X dm iter hN) (bj:mE X dm g) (aa:kZ X body bT)
  (aB:∀ x,foldedSetIterable iter X.env x=pure x:=by intro _;rfl):hr X (.For dm iter body [] pos) (OL hN g bT):=by
 intro ae s σ H D J h;refine wpAny_For (bF (ah ae s σ H _ J h) fun v s1 af=>bF af fun Aq s2 ak=>?_) aB;obtain ⟨it,bp,cc,b3,av,e,bN,T,rC,f2,W,⟨m0,nW⟩,turn⟩:=ak;subst e;have stat:∀ {I:au},(∀ b ∈ bp,I b=none)->∀ b ∈ bp,jx X ae I b:=fun a3 b aa=>⟨a3 b aa,(f2 b aa).2⟩
 refine codeAny_forLoop_any (fun n aj=>∃ i ax I,Inv X ae ax I aj/\cc i aj.heap/\(∀ b ∈ bp,I b=none)/\W i n ax I) ?_ m0 ⟨0,σ,av,bN,rC,fun b aa=>(f2 b aa).1,nW⟩;rintro n s3 ⟨i,fT,bk,eI,UJ,W6,hL⟩;rcases turn i n fT bk hL with ⟨stop,MD⟩ | ⟨go,N,bu,step⟩
 .refine wpAny_passesOwn aq (bF (T.done X rfl rfl rfl ay i ae s3 fT bk X.dI eI (stat W6) UJ stop) fun r s4 cS=>?_);obtain ⟨ao,hU⟩:=cS;subst ao;exact wpAny_execs_nil ⟨fT,bk,hU,MD⟩
 .refine wpAny_passesOwn aq (bF (T.item X rfl rfl rfl ay i ae s3 fT bk X.dI eI (stat W6) UJ go) fun r s4 cS=>?_);obtain ⟨u,ao,c4⟩:=cS;subst ao;refine wpAny_passesOwn aq (bF c4 fun _ s5 cS=>?_);obtain ⟨x,cP,tM,GC,jN,tF,Fn⟩:=cS;have Jr:=tM.pinned (stat Fn) (T.obj _ _ tF);refine wpAny_passesOwn aq (bF (bj _ s5 fT cP x u _ Jr GC (step x cP jN)) fun _ g6 cS=>?_);obtain ⟨mS,fS,wA,Jt⟩:=cS;refine wpAny_passesOwn aq (bF (aa _ g6 mS fS _ wA Jt) fun f nT n0=>?_);have again:∀ {kg:St} {gE:au},Inv X (ae ++ x' bp s5.heap) kg gE nT->N kg gE->∃ m,m < n/\∃ i ax I,Inv X ae ax I nT/\cc i nT.heap/\(∀ b ∈ bp,I b=none)/\W i m ax I:=fun {kg gE} kF jE=>by
   obtain ⟨c6,hm,oi⟩:=bu kg gE jE;refine ⟨c6,hm,i + 1,kg,gE,kF.Aw,T.keep _ _ _ tF fun b aa o e=>(kF.pin (b,o) (kI _ (kI _ (DM aa e)))).1,fun b aa=>?_,oi⟩;obtain ⟨o,e,d⟩:=T.obj _ _ tF b aa;exact (kF.pin (b,o) (kI _ (kI _ (DM aa e)))).2.1
  cases f with
  | next=>obtain ⟨kg,gE,kF,jE⟩:=n0;exact again kF jE
  | cont=>obtain ⟨kg,gE,kF,jE⟩:=n0;exact again kF jE
  | brk=>obtain ⟨kg,gE,kF,n0⟩:=n0;exact ⟨kg,gE,kF.Aw,n0⟩
  | ret v=>obtain ⟨d5,kg,gE,kF,abl,n0⟩:=n0;exact ⟨d5,kg,gE,kF.Aw,abl,n0⟩
end
theorem ajt {K:ba} {a:Addr} {xs:List V} {g:gH} {bT:ea} {D:ho} {σ:St} {H:au} (Pv:Nat->St->au->Prop) (h0:Pv 0 σ H) (aK:∀ i σ H,i <= xs.length->Pv i σ H->aF K H a xs)
  (aB:∀ i x σ H,xs[i]? = some x->Pv i σ H->g x σ H fun cn av=>bT { D with b8:=Pv (i + 1),e_:=Pv (i + 1),cI:=D.b8 } cn av) (hd:∀ σ H,Pv xs.length σ H->D.b8 σ H) :
  ∃ W:Nat->Nat->St->au->Prop,(∃ m,W 0 m σ H)/\∀ i m σ H,W i m σ H ->
   ((nG K a).stop i H/\D.b8 σ H)\/((nG K a).go i H/\∃ N:St->au->Prop,(∀ ax I,N ax I->∃ c6,c6 < m/\W (i + 1) c6 ax I)/\∀ x I,(nG K a).pR i H x I->g x σ I fun cn av=>bT { D with b8:=N,e_:=N,cI:=D.b8 } cn av):=by
 refine ⟨fun i m σ H=>m=xs.length - i/\i <= xs.length/\Pv i σ H,⟨xs.length,by simp,e5 _,h0⟩,?_⟩;rintro i m σ H ⟨rfl,ah,p⟩;have q:=aK i σ H ah p;by_cases dW:i < xs.length
 .refine .inr ⟨⟨xs,xs[i],q,by simp [dW]⟩,Pv (i + 1),fun ax I iv=>⟨xs.length - (i + 1),by omega,rfl,dW,iv⟩,fun x I y=>?_⟩;obtain ⟨e,y⟩:=y;subst e;exact aB i x σ _ (y xs q) p
 .have e:i=xs.length:=by omega
  subst e;exact .inl ⟨⟨xs,q,bR _⟩,hd σ H p⟩
theorem YO {lo:Int} {n:Nat} {g:gH} {bT:ea} {D:ho} {σ:St} {H:au} (Pv:Nat->St->au->Prop) (h0:Pv 0 σ H)
  (aB:∀ i σ H,i < n->Pv i σ H->g (.int (lo + i)) σ H fun cn av=>bT { D with b8:=Pv (i + 1),e_:=Pv (i + 1),cI:=D.b8 } cn av) (hd:∀ σ H,Pv n σ H->D.b8 σ H) :
  ∃ W:Nat->Nat->St->au->Prop,(∃ m,W 0 m σ H)/\∀ i m σ H,W i m σ H ->
   ((oa lo n).stop i H/\D.b8 σ H)\/((oa lo n).go i H/\∃ N:St->au->Prop,(∀ ax I,N ax I->∃ c6,c6 < m/\W (i + 1) c6 ax I)/\∀ x I,(oa lo n).pR i H x I->g x σ I fun cn av=>bT { D with b8:=N,e_:=N,cI:=D.b8 } cn av):=by
 refine ⟨fun i m σ H=>m=n - i/\i <= n/\Pv i σ H,⟨n,by simp,e5 _,h0⟩,?_⟩;rintro i m σ H ⟨rfl,ah,p⟩;by_cases dW:i < n
 .refine .inr ⟨dW,Pv (i + 1),fun ax I iv=>⟨n - (i + 1),by omega,rfl,dW,iv⟩,fun x I y=>?_⟩;obtain ⟨e,y⟩:=y;subst e y;exact aB i σ _ dW p
 .have e:i=n:=by omega
  subst e;exact .inl ⟨bR _,hd σ H p⟩
noncomputable abbrev e':=V->V->au->cN->Prop
def hH (X:a8) (f:Value->Value->Sem Value) (r:e'):Prop:=
 ∀ (ae:List (Addr × Obj)) (s:Shared) (σ:St) (H:au) (x y:V) (v u:Value) (Q:cN),Inv X ae σ H s->bK x v->bK y u->r x y H Q ->
  wpAny (model X.prog X.w) X.A (f v u) (gL X ae σ Q) X.dI s
def FR (X:a8) (f:Value->Sem Value) (r:V->au->cN->Prop):Prop:=
 ∀ (ae:List (Addr × Obj)) (s:Shared) (σ:St) (H:au) (x:V) (v:Value) (Q:cN),Inv X ae σ H s->bK x v->r x H Q ->
  wpAny (model X.prog X.w) X.A (f v) (gL X ae σ Q) X.dI s
def ki (X:a8) (f:Value) (r:List V->au->cN->Prop):Prop:=
 ∀ (ae:List (Addr × Obj)) (s:Shared) (σ:St) (H:au) (xs:List V) (us:List Value) (Q:cN),Inv X ae σ H s->b1 xs us->r xs H Q ->
  wpAny (model X.prog X.w) X.A (call f us) (gL X ae σ Q) X.dI s
def ZM (X:a8) (r:V->au->(Bool->au->Prop)->Prop):Prop:=
 ∀ (ae:List (Addr × Obj)) (s:Shared) (σ:St) (H:au) (x:V) (v:Value) (Q:Bool->au->Prop),Inv X ae σ H s->bK x v->r x H Q ->
  wpAny (model X.prog X.w) X.A (truthy v) (A6 X ae σ Q) X.dI s
noncomputable def so (r:e') (a' bT:TE):TE:=fun σ H Q=>a' σ H fun x H1=>bT σ H1 fun y av=>r x y av Q
noncomputable def Jl (r:V->au->cN->Prop) (a':TE):TE:=fun σ H Q=>a' σ H fun x H1=>r x H1 Q
noncomputable def vc (C:Int->Int->Prop) (g:Int->Int->V):e':=fun x y H Q=>gA x fun i=>gA y fun j=>C i j/\Q (g i j) H
noncomputable def pD (g:Int->Int->V):e':=fun x y H Q=>gA x fun i=>gA y fun j=>Q (g i j) H
noncomputable def Co (g:Int->V):V->au->cN->Prop:=fun x H Q=>gA x fun i=>Q (g i) H
section
variable {X:a8} {a b c:Expr} {a' bT dv:TE} {pos:Pos}
theorem L5 (aZ:bw X a a') (aa:bw X b bT) {ae:List (Addr × Obj)} {s:Shared} {σ:St} {H:au} {R:V->V->au->Prop} (J:Inv X ae σ H s)
  (h:a' σ H fun x H1=>bT σ H1 fun y av=>R x y av) {Q:Value->Shared->Prop} {f:Value->Value->Sem Value}
  (hf:∀ v u s2 x y av,Inv X ae σ av s2->bK x v->bK y u->R x y av->wpAny (model X.prog X.w) X.A (f v u) Q X.dI s2) :
  wpAny (model X.prog X.w) X.A (eval a X.env) (fun v dk=>wpAny (model X.prog X.w) X.A (eval b X.env) (fun u d0=>wpAny (model X.prog X.w) X.A (f v u) Q X.dI d0) X.dI dk) X.dI s:=by
 refine bF (aZ ae s σ H _ J h) fun v s1 b4=>d1 b4 fun x H1 aU bC bO=>?_
 refine bF (aa ae s1 σ H1 _ aU bO) fun u s2 b4=>d1 b4 fun y av bN c0 dC=>?_
 exact hf v u s2 x y av bN bC c0 dC
theorem bP {op:Operator} {r:e'} (aS:hH X (binaryOp op) r) (aZ:bw X a a') (aa:bw X b bT):bw X (.BinOp a op b pos) (so r a' bT):=by
 intro ae s σ H Q J h;exact wpAny_BinOp (L5 aZ aa J h fun v u s2 x y av bN a_ bq q=>aS ae s2 σ av x y v u Q bN a_ bq q)
theorem TC (aS:FR X (unaryOp op) r) (aZ:bw X a a'):bw X (.UnaryOp op a pos) (Jl r a'):=by
 intro ae s σ H Q J h;exact UnaryOp_ (bF (aZ ae s σ H _ J h) fun v s1 b4=>d1 b4 fun x H1 aU bC bO=>aS ae s1 σ H1 x v Q aU bC bO)
theorem Mh {f:Value->Value->Sem Value} {C:Int->Int->Prop} {g:Int->Int->Int}
  (rule:∀ (i j:Int) (t u:Tok) (s:Shared) (Q:Value->Shared->Prop) (E:Value->Shared->Prop),C i j->Q (.int (g i j) s.toks) { s with toks:=s.toks + 1 }->wpAny (model X.prog X.w) X.A (f (.int i t) (.int j u)) Q E s) :
  hH X f (vc C fun i j=>.int (g i j)):=by
 intro ae s σ H x y v u Q J a_ bq h;obtain ⟨i,rfl,iB⟩:=gA.out h;obtain ⟨j,rfl,ay,q⟩:=gA.out iB;obtain ⟨t,rfl⟩:=a_;obtain ⟨t',rfl⟩:=bq;exact rule i j t t' s _ _ ay ⟨.int (g i j),H,J.tok _,⟨_,rfl⟩,q⟩
theorem PK {f:Value->Value->Sem Value} {g:Int->Int->Int}
  (rule:∀ (i j:Int) (t u:Tok) (s:Shared) (Q:Value->Shared->Prop) (E:Value->Shared->Prop),Q (.int (g i j) s.toks) { s with toks:=s.toks + 1 }->wpAny (model X.prog X.w) X.A (f (.int i t) (.int j u)) Q E s) :
  hH X f (pD fun i j=>.int (g i j)):=by
 intro ae s σ H x y v u Q J a_ bq h;obtain ⟨i,rfl,iB⟩:=gA.out h;obtain ⟨j,rfl,q⟩:=gA.out iB;obtain ⟨t,rfl⟩:=a_;obtain ⟨t',rfl⟩:=bq;exact rule i j t t' s _ _ ⟨.int (g i j),H,J.tok _,⟨_,rfl⟩,q⟩
theorem FA {f:Value->Value->Sem Value} {g:Int->Int->Bool}
  (rule:∀ (i j:Int) (t u:Tok) (s:Shared) (Q:Value->Shared->Prop) (E:Value->Shared->Prop),Q (.bool (g i j)) s->wpAny (model X.prog X.w) X.A (f (.int i t) (.int j u)) Q E s) :
  hH X f (pD fun i j=>.bB (g i j)):=by
 intro ae s σ H x y v u Q J a_ bq h;obtain ⟨i,rfl,iB⟩:=gA.out h;obtain ⟨j,rfl,q⟩:=gA.out iB;obtain ⟨t,rfl⟩:=a_;obtain ⟨t',rfl⟩:=bq;exact rule i j t t' s _ _ ⟨.bB (g i j),H,J,rfl,q⟩
def aaK (i j:Int):Prop:=0 <= j/\j <= 1000000/\i.natAbs < 2 ^ 64
def nE (i j:Int):Prop:=(-(2 ^ 64) < i/\i < 2 ^ 64)\/(-(2 ^ 64) < j/\j < 2 ^ 64)
theorem nE.ok (h:nE i j):IntMulOk i j:=by
 rcases h with ⟨af,ak⟩ | ⟨af,ak⟩
 .exact .of_left (intBits_le_64 af ak)
 .exact .of_right (intBits_le_64 af ak)
theorem ez:hH X (binaryOp .Add) (pD fun i j=>.int (i + j)):=PK fun _ _ _ _ _ _ _ q=>add_int q
theorem lA:hH X (binaryOp .Sub) (pD fun i j=>.int (i - j)):=PK fun _ _ _ _ _ _ _ q=>sub_int q
theorem jG:hH X (binaryOp .Mult) (vc nE fun i j=>.int (i * j)):=Mh fun _ _ _ _ _ _ _ ay q=>mul_int q ay.ok
theorem i':hH X (binaryOp .Mod) (vc (fun _ j=>0 < j) fun i j=>.int (i % j)):=Mh fun i j _ _ _ _ _ ay q=>by
 have af:(0:Int) < j:=ay;exact mod_int' (by omega) (by rw [Int.fmod_eq_emod_of_nonneg i (by omega)];exact q)
theorem Ze:hH X (binaryOp .Pow) (vc aaK fun i j=>.int (i ^ j.toNat)):=Mh fun _ _ _ _ _ _ _ ay q=>pow_int_small ay.1 ay.2.1 ay.2.2 q
theorem aju {f:Value->Sem Value} {g:Int->Int}
  (rule:∀ (i:Int) (t:Tok) (s:Shared) (Q:Value->Shared->Prop) (E:Value->Shared->Prop),Q (.int (g i) s.toks) { s with toks:=s.toks + 1 }->wpAny (model X.prog X.w) X.A (f (.int i t)) Q E s) :
  FR X f (Co fun i=>.int (g i)):=by
 intro ae s σ H x v Q J a_ h;obtain ⟨i,rfl,q⟩:=gA.out h;obtain ⟨t,rfl⟩:=a_;exact rule i t s _ _ ⟨.int (g i),H,J.tok _,⟨_,rfl⟩,q⟩
theorem Wy:FR X (unaryOp .USub) (Co fun i=>.int (-i)):=aju fun _ _ _ _ _ q=>neg_int q
end
noncomputable def Gm:V->V->Bool
 | .b',.b'=>true | .b',.int _=>true | .int _,.b'=>true | .b',.bB _=>true | .bB _,.b'=>true | .b',.str _=>true | .str _,.b'=>true
 | .int _,.int _=>true | .bB _,.bB _=>true | .str _,.str _=>true | .k5 _,.k5 _=>true
 | .int _,.str _=>true | .str _,.int _=>true | .bB _,.str _=>true | .str _,.bB _=>true
 | _,_=>false
noncomputable def K0:e':=fun x y H Q=>Gm x y=true/\Q (.bB (decide (x=y))) H
noncomputable def I5:e':=fun x y H Q=>Gm x y=true/\Q (.bB (!decide (x=y))) H
theorem V6:decide (V.int i=V.int j)=(i == j):=by
 rw [lp];simp
theorem PG:decide (V.bB i=V.bB j)=(i == j):=by
 rw [lp];simp
theorem Wu:decide (V.str i=V.str j)=(i == j):=by
 rw [lp];simp
theorem Rr:decide (V.k5 i=V.k5 j)=(i.toList == j.toList):=by
 rw [lp];cases i;cases j;simp
section
variable {X:a8} {a b c:Expr} {a' bT dv:TE} {pos:Pos}
theorem fy {k mU:Bool} (J:Inv X ae σ H s) (q:Q (.bB k) H) (e:k=mU):gL X ae σ Q (.bool mU) s:=by
 subst e;exact ⟨.bB k,H,J,rfl,q⟩
theorem fA:hH X (compareOp .Eq) K0:=by
 intro ae s σ H x y v u Q J a_ bq h;obtain ⟨aB,q⟩:=h;cases x with
 | b'=>
  cases a_;cases y with
  | b'=>cases bq;exact apt (fy J q (by simp))
  | bB j=>cases bq;exact aql (fy J q (by simp))
  | int j=>obtain ⟨t',rfl⟩:=bq;exact anI (fy J q (by simp))
  | str j=>obtain ⟨t',rfl⟩:=bq;exact aoP (fy J q (by simp))
  | _=>exact absurd (show false=true from aB) fY
 | bB i=>
  cases a_;cases y with
  | b'=>cases bq;exact apT (fy J q (by simp))
  | bB j=>cases bq;exact eq_bool (fy J q PG)
  | str j=>obtain ⟨t',rfl⟩:=bq;exact apV (fy J q (by simp))
  | _=>exact absurd (show false=true from aB) fY
 | int i=>
  obtain ⟨t,rfl⟩:=a_;cases y with
  | b'=>cases bq;exact anE (fy J q (by simp))
  | int j=>obtain ⟨t',rfl⟩:=bq;exact eq_int (fy J q V6)
  | str j=>obtain ⟨t',rfl⟩:=bq;exact anK (fy J q (by simp))
  | _=>exact absurd (show false=true from aB) fY
 | str i=>
  obtain ⟨t,rfl⟩:=a_;cases y with
  | b'=>cases bq;exact apq (fy J q (by simp))
  | bB j=>cases bq;exact ao9 (fy J q (by simp))
  | int j=>obtain ⟨t',rfl⟩:=bq;exact anD (fy J q (by simp))
  | str j=>obtain ⟨t',rfl⟩:=bq;exact eq_str (fy J q Wu)
  | _=>exact absurd (show false=true from aB) fY
 | k5 i=>
  obtain ⟨t,rfl⟩:=a_;cases y with
  | k5 j=>obtain ⟨t',rfl⟩:=bq;exact PySem.W.eq_bytes (fy J q Rr)
  | _=>exact absurd (show false=true from aB) fY
 | _=>cases y <;> exact absurd (show false=true from aB) fY
theorem sR:hH X (compareOp .NotEq) I5:=by
 intro ae s σ H x y v u Q J a_ bq h;obtain ⟨aB,q⟩:=h;cases x with
 | b'=>
  cases a_;cases y with
  | b'=>cases bq;exact aqB (fy J q (by simp))
  | bB j=>cases bq;exact apZ (fy J q (by simp))
  | int j=>obtain ⟨t',rfl⟩:=bq;exact aon (fy J q (by simp))
  | str j=>obtain ⟨t',rfl⟩:=bq;exact an2 (fy J q (by simp))
  | _=>exact absurd (show false=true from aB) fY
 | bB i=>
  cases a_;cases y with
  | b'=>cases bq;exact anU (fy J q (by simp))
  | bB j=>cases bq;exact ne_bool (fy J q (congrArg not PG))
  | str j=>obtain ⟨t',rfl⟩:=bq;exact aqC (fy J q (by simp))
  | _=>exact absurd (show false=true from aB) fY
 | int i=>
  obtain ⟨t,rfl⟩:=a_;cases y with
  | b'=>cases bq;exact aod (fy J q (by simp))
  | int j=>obtain ⟨t',rfl⟩:=bq;exact ne_int (fy J q (congrArg not V6))
  | str j=>obtain ⟨t',rfl⟩:=bq;exact aow (fy J q (by simp))
  | _=>exact absurd (show false=true from aB) fY
 | str i=>
  obtain ⟨t,rfl⟩:=a_;cases y with
  | b'=>cases bq;exact aoJ (fy J q (by simp))
  | bB j=>cases bq;exact apr (fy J q (by simp))
  | int j=>obtain ⟨t',rfl⟩:=bq;exact apW (fy J q (by simp))
  | str j=>obtain ⟨t',rfl⟩:=bq;exact ne_str (fy J q (congrArg not Wu))
  | _=>exact absurd (show false=true from aB) fY
 | k5 i=>
  obtain ⟨t,rfl⟩:=a_;cases y with
  | k5 j=>obtain ⟨t',rfl⟩:=bq;exact PySem.W.ne_bytes (fy J q (congrArg not Rr))
  | _=>exact absurd (show false=true from aB) fY
 | _=>cases y <;> exact absurd (show false=true from aB) fY
theorem lV:hH X (compareOp .Lt) (pD fun i j=>.bB (decide (i < j))):=FA fun _ _ _ _ _ _ _ q=>lt_int q
theorem XZ:hH X (compareOp .LtE) (pD fun i j=>.bB (decide (i <= j))):=FA fun _ _ _ _ _ _ _ q=>le_int q
theorem ot:hH X (compareOp .Gt) (pD fun i j=>.bB (decide (j < i))):=FA fun _ _ _ _ _ _ _ q=>gt_int q
theorem adl:hH X (compareOp .In) (fun x y H Q=>∃ i j,x=.str i/\y=.str j/\Q (.bB (!(tr j i 0 j.length 1).isEmpty)) H):=by
 intro ae s σ H x y v u Q J a_ bq h;obtain ⟨i,j,rfl,rfl,q⟩:=h;obtain ⟨t,rfl⟩:=a_;obtain ⟨t',rfl⟩:=bq;exact in_str (fy J q rfl)
theorem ag':hH X (compareOp .Is) (fun x y H Q=>y=.b'/\Q (.bB (decide (x=.b'))) H):=by
 intro ae s σ H x y v u Q J a_ bq h;obtain ⟨rfl,q⟩:=h;cases bq;refine is_none_gen (fy J q ?_);cases x <;> first
  | (cases a_;rfl)
  | (obtain ⟨t,rfl⟩:=a_;rfl)
theorem PN:hH X (compareOp .IsNot) (fun x y H Q=>y=.b'/\Q (.bB (!decide (x=.b'))) H):=by
 intro ae s σ H x y v u Q J a_ bq h;obtain ⟨rfl,q⟩:=h;cases bq;refine isnot_none_gen (fy J q ?_);cases x <;> first
  | (cases a_;rfl)
  | (obtain ⟨t,rfl⟩:=a_;rfl)
theorem cR (b:Expr) (h:op ≠ .In:=by decide) (ak:op ≠ .NotIn:=by decide):behindInMarks op b=false:=by
 have aw:(op == CmpOp.In)=false:=by cases op <;> first | rfl | exact absurd rfl h
 have aG:(op == afO)=false:=by cases op <;> first | rfl | exact absurd rfl ak
 cases b <;> simp [behindInMarks,aw,aG]
theorem ie (aS:hH X (compareOp op) r) (aZ:bw X a a') (aa:bw X b bT) (hm:behindInMarks op b=false):bw X (.Compare a [op] [b] pos) (so r a' bT):=by
 intro ae s σ H Q J h;exact wpAny_Compare1 (L5 aZ aa J h fun v u s2 x y av bN a_ bq q=>aS ae s2 σ av x y v u Q bN a_ bq q) hm
noncomputable def HD (t:TE):TT:=fun σ H Q=>t σ H fun x I=>ka x fun k=>Q k I
theorem du (aS:hH X (compareOp op) r) (aZ:bw X a a') (aa:bw X b bT) (hm:behindInMarks op b=false):jt X (.Compare a [op] [b] pos) (HD (so r a' bT)):=by
 intro ae s σ H Q J h;refine wpAny_isTrue_Compare1 (bF (aZ ae s σ H _ J h) fun v s1 b4=>d1 b4 fun x H1 aU bC bO=>bF (aa ae s1 σ H1 _ aU bO) fun u s2 ⟨y,av,bN,c0,dC⟩=>
  bF (aS ae s2 σ av x y v u _ bN bC c0 dC) fun c s3 b4=>d1 b4 fun z bk eI GS g5=>?_) hm
 obtain ⟨k,e,hn⟩:=ka.out g5;subst e;cases GS;exact wpAny_truthy_bool ⟨bk,eI,hn⟩
def V_ (K:ba) (x:V) (H:au) (k:Bool):Prop:=
 match x with
 | .b'=>k=false
 | .bB b=>k=b
 | .int i=>k=(i != 0)
 | .str y=>y.length <= sizeLine/\k=((y.length:Int) != 0)
 | .k5 y=>y.size <= sizeLine/\k=((y.size:Int) != 0)
 | .ref p=>(∃ xs,aF K H p xs/\k = !xs.isEmpty)\/(∃ xs,de K H p xs/\k = !xs.isEmpty)\/∃ kvs,H p=some (.a5 kvs)/\k = !kvs.isEmpty
 | _=>False
theorem adw (r:eE kvs vs):(!vs.isEmpty) = !kvs.isEmpty:=by
 cases r <;> rfl
theorem T9 {a4:List Value} (r:b1 xs a4):(!a4.toArray.isEmpty) = !xs.isEmpty:=by
 cases r <;> simp
theorem r':(sizeLine:Nat) < 2 ^ 63:=by rw [sizeLine_eq];decide
theorem agS:ZM X (fun x H Q=>∃ k,V_ X.K x H k/\Q k H):=by
 intro ae s σ H x v Q J a_ h;obtain ⟨k,e,q⟩:=h;have aK:=r';have aB:sizeLine=16777216:=sizeLine_eq;cases x with
 | b'=>
  cases a_;have bM:k=false:=e;subst bM;exact truthy_none ⟨H,J,q⟩
 | bB b=>
  cases a_;have bM:k=b:=e;subst bM;exact wpAny_truthy_bool ⟨H,J,q⟩
 | int i=>
  obtain ⟨t,rfl⟩:=a_;have bM:k=(i != 0):=e;subst bM;exact PySem.P.truthy_int ⟨H,J,q⟩
 | str y=>
  obtain ⟨t,rfl⟩:=a_;obtain ⟨aY,bM⟩:y.length <= sizeLine/\k=((y.length:Int) != 0):=e;subst bM;exact PySem.P.truthy_str (by omega) ⟨H,J.tok _,q⟩
 | k5 y=>
  obtain ⟨t,rfl⟩:=a_;obtain ⟨aY,bM⟩:y.size <= sizeLine/\k=((y.size:Int) != 0):=e;subst bM;exact PySem.W.truthy_bytes (by omega) ⟨H,J.tok _,q⟩
 | ref p=>
  cases a_;have bM:(∃ xs,aF X.K H p xs/\k = !xs.isEmpty)\/(∃ xs,de X.K H p xs/\k = !xs.isEmpty)\/∃ kvs,H p=some (.a5 kvs)/\k = !kvs.isEmpty:=e;rcases bM with ⟨xs,ag,bM⟩ | ⟨xs,ag,bM⟩ | ⟨kvs,ag,bM⟩
  .subst bM;obtain ⟨a4,r,pl,aW⟩:=J.list ag;have hlen:=r.length;exact wpAny_truthy_list pl.isList (by simp only [d8];omega) ⟨H,J.tok _,by rw [T9 r];exact q⟩
  .subst bM;obtain ⟨a4,r,pl,aW⟩:=J.tuple ag;have hlen:=r.length;exact truthy_tuple pl (by simp only [d8];omega) ⟨H,J.tok _,by rw [T9 r];exact q⟩
  .subst bM;obtain ⟨aW,d2,vs,r,m⟩:kvs.length <= sizeLine/\(p == sysModules)=false/\∃ vs,eE kvs vs/\s.heap.DictOf (gJ X.prog X.w) p vs:=J.bh p _ ag;have hlen:kvs.length=vs.length:=Ii r;exact wpAny_truthy_dict d2 m (by omega) ⟨H,J.tok _,by rw [adw r];exact q⟩
 | _=>exact (show False from e).elim
theorem D6 (aZ:bw X a a') (he:∀ whole,isTrue a X.env whole=(do let v <- whole;standAt a.pos;holding [v] (truthy v))) :
  jt X a (fun σ H Q=>a' σ H fun x I=>∃ k,V_ X.K x I k/\Q k I):=by
 intro ae s σ H Q J h;exact isTrue_plain (bF (aZ ae s σ H _ J h) fun v s1 b4=>d1 b4 fun x H1 aU bC bO=>agS ae s1 σ H1 x v Q aU bC bO) (he _)
theorem lK:hH X (binaryOp .Add) (fun x y H Q=>∃ i j,x=.str i/\y=.str j/\i.length + j.length <= sizeLine/\Q (.str (i ++ j)) H):=by
 intro ae s σ H x y v u Q J a_ bq h;obtain ⟨i,j,rfl,rfl,aW,q⟩:=h;obtain ⟨t,rfl⟩:=a_;obtain ⟨t',rfl⟩:=bq;exact add_str (fun t' tk=>⟨.str (i ++ j),H,J.tok _,⟨_,rfl⟩,q⟩) aW
theorem kp {x:V} (r:b1 [x] us):∃ u,us=[u]/\bK x u:=by
 cases r with
 | cons bC c0=>cases c0;exact ⟨_,rfl,bC⟩
theorem Wc {x y:V} (r:b1 [x,y] us):∃ u eH,us=[u,eH]/\bK x u/\bK y eH:=by
 cases r with
 | cons bC c0=>
  cases c0 with
  | cons GS abt=>cases abt;exact ⟨_,_,rfl,bC,GS⟩
theorem ai2 (ay:X.calm=true):ki X (.builtin "max") (fun xs H Q=>∃ i j,xs=[.int i,.int j]/\Q (.int (if j > i then j else i)) H):=by
 intro ae s σ H xs us Q J r h;obtain ⟨i,j,rfl,q⟩:=h;obtain ⟨u,eH,rfl,⟨t,rfl⟩,⟨t',rfl⟩⟩:=Wc r;refine max_two_ints (J.ok.hd ay) fun h' tk k=>⟨_,H,J.kept k,?_,q⟩
 by_cases aL:j > i
 .rw [if_pos aL,if_pos aL];exact ⟨_,rfl⟩
 .rw [if_neg aL,if_neg aL];exact ⟨_,rfl⟩
theorem bv (ay:X.calm=true):ki X (.builtin "min") (fun xs H Q=>∃ i j,xs=[.int i,.int j]/\Q (.int (if j < i then j else i)) H):=by
 intro ae s σ H xs us Q J r h;obtain ⟨i,j,rfl,q⟩:=h;obtain ⟨u,eH,rfl,⟨t,rfl⟩,⟨t',rfl⟩⟩:=Wc r;refine min_two_ints (J.ok.hd ay) fun h' tk k=>⟨_,H,J.kept k,?_,q⟩
 by_cases aL:j < i
 .rw [if_pos aL,if_pos aL];exact ⟨_,rfl⟩
 .rw [if_neg aL,if_neg aL];exact ⟨_,rfl⟩
theorem WN:ki X (.type "int") (fun xs H Q=>(∃ i,xs=[.int i]/\Q (.int i) H)\/∃ k,xs=[.bB k]/\Q (.int (if k then 1 else 0)) H):=by
 intro ae s σ H xs us Q J r h;rcases h with ⟨i,rfl,q⟩ | ⟨k,rfl,q⟩
 .obtain ⟨u,rfl,t,rfl⟩:=kp r;exact call_int_int ⟨.int i,H,J,⟨_,rfl⟩,q⟩
 .obtain ⟨u,rfl,bC⟩:=kp r;cases bC;exact call_int_bool ⟨.int (if k then 1 else 0),H,J.tok _,⟨_,rfl⟩,q⟩
theorem yb:ki X (.type "str") (fun xs H Q=>∃ i,xs=[.int i]/\i.natAbs.log2 < 1920/\Q (.str (toString i)) H):=by
 intro ae s σ H xs us Q J r h;obtain ⟨i,rfl,aW,q⟩:=h;obtain ⟨u,rfl,t,rfl⟩:=kp r;exact PySem.P.str_of_int aW ⟨.str _,H,J.tok _,⟨_,rfl⟩,q⟩
end
structure sh (h:Heap) (x ar C:Addr) (d6:Str->Option Value):Prop where
 obj:h.get? x=some (r4 C ar)
 ns:h.Ns1 ar d6
 ne:ar ≠ x
theorem ajg {h:Heap} (n:h.Ns1 ar d6):∃ dH,h.get? ar=some dH/\∀ name,Ko name dH=some (d6 name):=by
 obtain ⟨o,a0,ep,aS,hd,aC,_,hm⟩:=n;refine ⟨o,aS,fun name=>?_⟩;have e:=hm name;unfold nsFind findBy at e;rw [<- Array.find?_toList] at e;unfold Ko;rw [hd];dsimp only;split
 .rename_i y q;rw [q] at e;exact congrArg some e
 .rename_i q;rw [q] at e;have a:a0.toList.any (·.refKey)=false:=by
   rw [Kt];intro y aY;obtain ⟨z,t,E3⟩:=aC y (Array.mem_toList_iff.mp aY);simp [DictEntry.refKey,E3]
  have vX:¬ a0.toList.any (·.refKey)=true:=by rw [a];exact fY
  rw [if_neg vX];exact congrArg some e
theorem sh.look {h:Heap} {x ar C:Addr} (J:sh h x ar C d6):∃ dH,PySem.W.InstAt h x (r4 C ar) C (some dH)/\∀ name,Ko name dH=some (d6 name):=
 let ⟨dH,aS,aK⟩:=ajg J.ns
 ⟨dH,⟨J.obj,rfl,rfl,aS⟩,aK⟩
section
variable {prog:Program} {w:World} {A:Around} {E:Value->Shared->Prop} {s:Shared} {K:ba} {x ar C f:Addr} {d6:Str->Option Value} {name:Str} {v:Value}
theorem Z4 (X:K.In s.heap) (J:sh s.heap x ar C d6) (bj:MM K C name=true) (gg:zu K C=true)
  (aZ:c3 K (.ref C) name=some none) (aJ:d6 name=some v) (Yu:ZP v=true) (h:Q v { s with toks:=s.toks + 1 }) :
  wpAny (model prog w) A (getAttr (.ref x) name expr) Q E s:=by
 obtain ⟨dH,b3,aK⟩:=J.look;exact PySem.W.get_value X b3 (VA bj).1 (PySem.W.findObj_own gg aZ rfl (by rw [aK,aJ])) Yu h
theorem ajO (X:K.In s.heap) (J:sh s.heap x ar C d6) (bj:MM K C name=true)
  (hf:c3 K (.ref C) name=some (some (.ref f))) (cZ:Qc K (.ref f)=true) (aJ:d6 name=none) (h:Q (.ref f,[.ref x]) s) :
  wpAny (model prog w) A (getMethod (.ref x) name pl) Q E s:=by
 obtain ⟨dH,b3,aK⟩:=J.look;exact PySem.W.method_fn X b3 (VA bj).1 (VA bj).2 hf (beq_iff_eq.mp cZ) (by show (Ko name dH).map (·.isSome)=some false;rw [aK,aJ];rfl) h
theorem akX {ns:List Str} (X:K.In s.heap) (J:sh s.heap x ar C d6)
  (aB:c3 K (.ref C) "__setattr__"=some (some (.builtin "object.__setattr__"))) (aq:adM K C=true) (cZ:UO K C name=some none) (gg:zu K C=true)
  (hw:GG d6 ns) (hsz:ns.length <= sizeLine)
  (h:∀ h',sh h' x ar C (fun y=>if y=name then some v else d6 y)->uH ar s.heap h'->Q () { s with heap:=h',toks:=s.toks + 2 }) :
  wpAny (model prog w) A (setAttr (.ref x) name v) Q E s:=by
 obtain ⟨dH,b3,aK⟩:=J.look;refine PySem.W.set_plain X b3 aB (PySem.W.osa_open (s:={ s with toks:=s.toks + 1 }) (r:=none) X b3 aq cZ fun b=>?_);obtain ⟨cd,ay,yI⟩:=PySem.W.any_some gg;have ag:s.heap.get? x=some ⟨.ref C,some ar,.plain,#[]⟩:=J.obj;refine wpAny_bind (wpAny_pure (wpAny_bind (wpAny_bind (wpAny_loadPart ag (wpAny_bind (ap1 (s:={ s with toks:=s.toks + 1 }) (PySem.W.looks_clsIn X ay) ?_))))));rw [yI];refine wpAny_pure (a:=some ar) (wpAny_bind (wpAny_pure (wpAny_bind ?_)));refine wpAny_nsSet1 (s:={ s with toks:=s.toks + 1 }) J.ns fun h' q1 hW=>?_
 obtain ⟨apO,aoA,aqq,Yr,XP,aeJ⟩:=q1.count (an0 name v hw);refine wpAny_bind (wpAny_lookBehind Yr (by rw [XP];exact pastItsLine_dict (c7 aeJ (by rw [hT];omega))) ?_);exact wpAny_pure (h _ ⟨(hW.2 _ (cX J.ne)).trans J.obj,q1,J.ne⟩ hW)
theorem SL (X:K.In s.heap) (hm:aha K C=true)
  (ah:c3 K (.ref C) "__init__"=some (some (.ref f))) (hf:ani K (.ref f)=some (.type "function"))
  (h:codeAny (model prog w) (A.under (.builtin "type.__call__" ⟨.ref C :: vs,kw⟩)) (.call (.ref f) ⟨.ref (s.heap.objs.size + 1) :: vs,kw⟩) (PySem.W.InitBack (s.heap.objs.size + 1) R)
   { s with heap:=(s.heap.push qV).push (r4 C s.heap.objs.size) }) :
  codeAny (model prog w) A (.call (.ref C) ⟨vs,kw⟩) R s:=by
 obtain ⟨gg,g,d,t,os⟩:=s;exact PySem.W.make_core (PySem.W.makes_of X hm) (PySem.W.looks_findIn X ah) (fun self=>PySem.W.bind_fn X self hf) (.inl rfl) h
end
noncomputable def cT (f:Str) (v:V):List (Str × V)->List (Str × V)
 | []=>[(f,v)]
 | (g,x) :: r=>if g=f then (g,v) :: r else (g,x) :: cT f v r
theorem N1 (f g:Str) (v:V):∀ aR:List (Str × V),(cT f v aR).lookup g=if g=f then some v else aR.lookup g
 | []=>by
  show pU g [(f,v)]=_;by_cases h:g=f
  .have aa:(g == f)=true:=beq_iff_eq.mpr h;simp only [pU,aa,if_pos h]
  .have aa:(g == f)=false:=beq_eq_false_iff_ne.mpr h;simp only [pU,aa,if_neg h]
 | (k,x) :: r=>by
  have b7:=N1 f g v r;rw [show cT f v ((k,x) :: r)=(if k=f then (k,v) :: r else (k,x) :: cT f v r) from rfl];by_cases aC:k=f
  .rw [if_pos aC];by_cases h:g=k
   .have aa:(g == k)=true:=beq_iff_eq.mpr h;simp only [pU,aa,if_pos (h.trans aC)]
   .have aa:(g == k)=false:=beq_eq_false_iff_ne.mpr h;simp only [pU,aa,if_neg (fun e:g=f=>h (e.trans aC.symm))]
  .rw [if_neg aC];by_cases h:g=k
   .have aa:(g == k)=true:=beq_iff_eq.mpr h;simp only [pU,aa,if_neg (fun e:g=f=>aC (h.symm.trans e))]
   .have aa:(g == k)=false:=beq_eq_false_iff_ne.mpr h;simp only [pU,aa];exact b7
theorem Ml (f:Str) (v:V):∀ aR:List (Str × V),f ∈ (cT f v aR).map (·.1)/\∀ g,g ∈ aR.map (·.1)->g ∈ (cT f v aR).map (·.1)
 | []=>⟨by simp [cT],fun g h=>by simp at h⟩
 | (k,x) :: r=>by
  obtain ⟨i1,i2⟩:=Ml f v r;rw [show cT f v ((k,x) :: r)=(if k=f then (k,v) :: r else (k,x) :: cT f v r) from rfl];by_cases aC:k=f
  .rw [if_pos aC];subst aC;exact ⟨by simp,fun g h=>by simpa using h⟩
  .rw [if_neg aC];refine ⟨?_,fun g h=>?_⟩
   .rw [eu];exact iu _ i1
   .rw [eu] at h ⊢;rcases eZ.mp h with e | e
    .exact eZ.mpr (.inl e)
    .exact iu _ (i2 g e)
theorem Iy (f:Str) (v:V):∀ aR:List (Str × V),(cT f v aR).length <= aR.length + 1
 | []=>by simp [cT]
 | (k,x) :: r=>by
  have b7:=Iy f v r;rw [show cT f v ((k,x) :: r)=(if k=f then (k,v) :: r else (k,x) :: cT f v r) from rfl];by_cases aC:k=f
  .rw [if_pos aC,hT,hT];omega
  .rw [if_neg aC,hT,hT];omega
theorem h_.some_of (r:h_ (some v) o):∃ u,o=some u/\bK v u:=by
 cases o with
 | none=>exact (show False from r).elim
 | some u=>exact ⟨u,rfl,r⟩
theorem h_.none_of (r:h_ none o):o=none:=by
 cases o with
 | none=>rfl
 | some u=>exact (show False from r).elim
theorem anb (r:bK v u):ZP u=true:=by
 cases v with
 | b'=>cases (show u=td from r);rfl
 | bB b=>cases (show u=kE b from r);rfl
 | int i=>obtain ⟨t,e⟩:=(show ∃ t,u=nz i t from r);cases e;rfl
 | str x=>obtain ⟨t,e⟩:=(show ∃ t,u=y6 x t from r);cases e;rfl
 | k5 b=>obtain ⟨t,e⟩:=(show ∃ t,u=adA b t from r);cases e;rfl
 | vt b=>obtain ⟨t,e⟩:=(show ∃ t,u=ai1 b t from r);cases e;rfl
 | ref a=>cases (show u=fi a from r);rfl
 | ty n=>cases (show u=XS n from r);rfl
section
variable {P:Program} {w:World} {H I:au} {h h':Heap} {a C ar:Addr} {aR mG:List (Str × V)}
theorem v_ (bh:ej P w H h) (e:H a=some (.ins C ar aR)):∃ d6,sh h a ar C d6/\(∀ f,h_ (aR.lookup f) (d6 f))/\GG d6 (aR.map (·.1))/\aR.length <= 1000/\H ar=some (.own a):=by
 obtain ⟨d,z,ne,bI,d6,n,r,q⟩:=(show d9 P w H h a (.ins C ar aR) from bh a _ e);exact ⟨d6,⟨bI,n,ne⟩,r,q,z,d⟩
end
structure hl (K:ba) (C:Addr):Prop where
 YG:MM K C Str.empty=true
 hd:zu K C=true
 po:adM K C=true
 aT:c3 K (.ref C) "__setattr__"=some (some (.builtin "object.__setattr__"))
theorem hl.get {K:ba} (c:hl K C) (f:Str):MM K C f=true:=c.YG
def cY (K:ba) (C:Addr) (f:Str):Prop:=c3 K (.ref C) f=some none
theorem cY.adX {K:ba} (n:cY K C f):UO K C f=some none:=by
 unfold UO;rw [show c3 K (.ref C) f=some none from n];rfl
structure anO (K:ba) (C:Addr) (f:Str) (v:V) (u:Value):Prop where
 at_:c3 K (.ref C) f=some (some u)
 rel:bK v u
 get:vo K u "__get__"=some none
 i5:PySem.W.copiedNames.contains f=false
structure eW (K:ba) (C:Addr) (m:Str) (f:Addr):Prop where
 at_:c3 K (.ref C) m=some (some (.ref f))
 fn:Qc K (.ref f)=true
 bJ:sN K (.ref f)=true
section
variable {X:a8} {ae:List (Addr × Obj)} {σ:St} {H:au} {s:Shared} {a C ar:Addr} {aR:List (Str × V)} {f:Str} {v:V} {A:Around} {E:Value->Shared->Prop}
theorem Pj (J:Inv X ae σ H s) (e:H a=some (.ins C ar aR)) (c:hl X.K C) (n:cY X.K C f) (l:aR.lookup f=some v)
  (h:∀ u aj,Inv X ae σ H aj->bK v u->Q u aj):wpAny (model X.prog X.w) A (getAttr (.ref a) f b) Q E s:=by
 obtain ⟨d6,O,r,_,_,_⟩:=v_ J.bh e;obtain ⟨u,bt,eG⟩:=h_.some_of (v:=v) (o:=d6 f) (by rw [<- l];exact r f);exact Z4 J.jb O (c.get f) c.hd n bt (anb eG) (h u _ (J.tok _) eG)
theorem Ae (J:Inv X ae σ H s) (e:H a=some (.ins C ar aR)) (c:hl X.K C) (k:eW X.K C m g) (l:aR.lookup m=none)
  (h:Q (.ref g,[.ref a]) s):wpAny (model X.prog X.w) A (getMethod (.ref a) m pl) Q E s:=by
 obtain ⟨d6,O,r,_,_,_⟩:=v_ J.bh e;have a3:d6 m=none:=h_.none_of (by rw [<- l];exact r m);exact ajO J.jb O (c.get m) k.at_ k.fn a3 h
theorem Vp (J:Inv X ae σ H s) (e:H a=some (.ins C ar aR)) (c:hl X.K C) (n:cY X.K C f) (aK:aR.length < 1000) (bq:bK y u)
  (h:∀ aj,Inv X ae σ (upd H a (.ins C ar (cT f y aR))) aj->Q () aj):wpAny (model X.prog X.w) A (setAttr (.ref a) f u) Q E s:=by
 obtain ⟨d6,O,r,hN,_,aS⟩:=v_ J.bh e;have aW:(aR.map (·.1)).length <= sizeLine:=by rw [aO,sizeLine_eq];omega
 refine akX J.jb O c.aT c.po n.adX c.hd hN aW fun h' x7 oV=>h _ ?_
 have hd:∃ o,h'.get? ar=some o:=let ⟨o,_,_,bM,_⟩:=x7.ns;⟨o,bM⟩;refine J.write (x:=a) (e:=ar) (by rw [e];exact lr) (.inr aS) (fun b q aa z=>(oV.2 b aa).trans z) hd ?_;refine ⟨by rw [aA O.ne];exact aS,?_,O.ne,x7.obj,_,x7.ns,fun g=>?_,fun g bj=>?_⟩
 .have:=Iy f y aR;omega
 .show h_ ((cT f y aR).lookup g) (if g=f then some u else d6 g);rw [N1];by_cases q:g=f
  .rw [if_pos q,if_pos q];exact bq
  .rw [if_neg q,if_neg q];exact r g
 .by_cases q:g=f
  .rw [q];exact (Ml f y aR).1
  .refine (Ml f y aR).2 g (hN g fun z=>bj ?_);show (if g=f then some u else d6 g)=none;rw [if_neg q];exact z
theorem Inv.made (J:Inv X ae σ H s):Inv X ae σ (upd (upd H s.heap.objs.size (.own (s.heap.objs.size + 1))) (s.heap.objs.size + 1) (.ins C s.heap.objs.size []))
  { s with heap:=(s.heap.push qV).push (r4 C s.heap.objs.size) }:=by
 have aw:(s.heap.push qV).get? s.heap.objs.size=some qV:=hp s.heap rfl;have aG:((s.heap.push qV).push (r4 C s.heap.objs.size)).get? (s.heap.objs.size + 1)=some (r4 C s.heap.objs.size):=by
  have:=hp (s.heap.push qV) (o:=r4 C s.heap.objs.size) rfl;rwa [P1] at this
 have bS:(s.heap.push qV).Ns s.heap.objs.size (fun _=>none):=⟨qV,#[],_,aw,rfl,(fun e he=>absurd he (by simp)),fun _=>rfl⟩;have aU:=J.laid (a:=s.heap.objs.size) (o:=.own (s.heap.objs.size + 1)) (h':=s.heap.push qV) (t':=s.toks) (fun b u q=>eP _ q) (bR _) ⟨_,aw⟩;refine aU.laid (a:=s.heap.objs.size + 1) (o:=.ins C s.heap.objs.size []) (t':=s.toks) (fun b u q=>eP _ q) (acT (P1 _ _)) ?_;have ne:s.heap.objs.size ≠ s.heap.objs.size + 1:=fX (LW _);refine ⟨by rw [aA ne,db],e5 _,ne,aG,fun _=>none,(Heap.Ns1.of_empty bS).at fun o q=>eP _ q,fun _=>lr,fun y aY=>absurd rfl aY⟩
theorem amQ {prog:Program} {w:World} {env:Env} {e:Expr} (aa:attributeBase e f env (eval e env)=eval e env)
  (h:wpAny (model prog w) A (eval e env) (fun o dk=>wpAny (model prog w) A (getAttr o f true) Q E dk) E s):wpAny (model prog w) A (eval (.Attribute e f pos) env) Q E s:=
 Attribute_any_ h (by rw [arm_eval_Attribute,aa])
end
def fa (K:ba) (H:au) (a:Addr) (f:Str) (v:V):Prop:=∃ C ar aR,H a=some (.ins C ar aR)/\hl K C/\cY K C f/\aR.lookup f=some v
noncomputable def IE (K:ba) (a':TE) (f:Str):TE:=fun σ H Q=>a' σ H fun x H1=>fl x fun a=>∃ v,fa K H1 a f v/\Q v H1
noncomputable def Rb (K:ba) (a' e9:TE) (f:Str):ea:=fun D σ H=>e9 σ H fun y H1=>a' σ H1 fun x av=>fl x fun a=>∃ C ar aR,av a=some (.ins C ar aR)/\hl K C/\cY K C f/\aR.length < 1000 /\
 D.b8 σ (upd av a (.ins C ar (cT f y aR)))
def C2 (X:a8) (op:Operator) (ia:V->V->au->cN->Prop):Prop:=
 ∀ (ae:List (Addr × Obj)) (s:Shared) (σ:St) (H:au) (x y:V) (u v:Value) (Q:cN),Inv X ae σ H s->bK x u->bK y v->ia x y H Q->wpAny (model X.prog X.w) X.A (inplaceOp op u v) (gL X ae σ Q) X.dI s
noncomputable def Rm (K:ba) (a' e9:TE) (ia:V->V->au->cN->Prop) (f:Str):ea:=fun D σ H=>a' σ H fun x H1=>∃ a C ar aR v,x=.ref a/\H1 a=some (.ins C ar aR)/\hl K C/\cY K C f/\aR.lookup f=some v /\
 e9 σ H1 fun y av=>ia v y av fun z bk=>∃ ht mG,bk a=some (.ins C ht mG)/\mG.length < 1000/\D.b8 σ (upd bk a (.ins C ht (cT f z mG)))
section
variable {X:a8} {o e value:Expr} {f:Str} {pos pos' t2:Pos} {a' e9:TE}
theorem bx (he:bw X e a') (aa:attributeBase e f X.env (eval e X.env)=eval e X.env):bw X (.Attribute e f pos) (IE X.K a' f):=by
 intro ae s σ H Q J h;refine amQ aa (bF (he ae s σ H _ J h) fun u s1 b4=>d1 b4 fun x H1 aU a_ g5=>?_);obtain ⟨a,ex,v,⟨C,ar,aR,gS,c,n,l⟩,q⟩:=fl.out g5;subst ex;obtain rfl:u=fi a:=a_;exact Pj aU gS c n l fun tv s2 bN eG=>⟨v,H1,bN,eG,q⟩
theorem eF (aZ:bw X o a') (aJ:bw X value e9) (aB:swapsWith value (some (.Attribute o f pos')) pos.line X.env=pure false):hr X (.Assign [.Attribute o f pos'] value pos) (Rb X.K a' e9 f):=by
 intro ae s σ H D J h;refine plainObj_wpAny_Assign_Attribute (bF (aJ ae s σ H _ J h) fun u s1 b4=>d1 b4 fun y H1 aU bq q=>bF (aZ ae s1 σ H1 _ aU q) fun dN s2 b4=>d1 b4 fun x av bN a_ g5=>?_) aB;obtain ⟨a,ex,C,ar,aR,gS,c,n,l,dC⟩:=fl.out g5;subst ex;obtain rfl:dN=fi a:=a_;exact Vp bN gS c n l bq fun s3 eI=>⟨σ,_,eI,dC⟩
theorem Dy {ia:V->V->au->cN->Prop} (aZ:bw X o a') (aJ:bw X value e9) (Ij:C2 X op ia):hr X (.AugAssign (.Attribute o f t2) op value pos) (Rm X.K a' e9 ia f):=by
 intro ae s σ H D J h;refine wpAny_AugAssign_AttributeAny (bF (aZ ae s σ H _ J h) fun dN s1 cS=>?_);obtain ⟨x,H1,aU,a_,a,C,ar,aR,v,ex,gS,c,n,l,q⟩:=cS;subst ex;obtain rfl:dN=fi a:=a_;refine Pj aU gS c n l fun u s2 bN eG=>bF (aJ ae s2 σ H1 _ bN q) fun hL s3 b4=>d1 b4 fun y av eI bq hn=>bF (Ij ae s3 σ av v y u hL _ eI eG bq hn) fun gx s4 cS=>?_
 obtain ⟨z,bk,hU,yD,ht,mG,af9,l',w9⟩:=cS;exact Vp hU af9 c n l' yD fun s5 tM=>⟨σ,_,tM,w9⟩
noncomputable def MC:V->V->au->cN->Prop:=fun x y H Q=>∃ i j,x=.int i/\y=.int j/\Q (.int (i + j)) H
noncomputable def I7:V->V->au->cN->Prop:=fun x y H Q=>∃ i j,x=.int i/\y=.int j/\Q (.int (i - j)) H
theorem wL:C2 X .Add MC:=by
 rintro ae s σ H x y u v Q J a_ bq ⟨i,j,rfl,rfl,q⟩;obtain ⟨t,rfl⟩:=(show ∃ t,u=nz i t from a_);obtain ⟨t',rfl⟩:=(show ∃ t',v=nz j t' from bq);exact aoH ⟨.int (i + j),H,J.tok _,⟨_,rfl⟩,q⟩
theorem aeR:C2 X .Sub I7:=by
 rintro ae s σ H x y u v Q J a_ bq ⟨i,j,rfl,rfl,q⟩;obtain ⟨t,rfl⟩:=(show ∃ t,u=nz i t from a_);obtain ⟨t',rfl⟩:=(show ∃ t',v=nz j t' from bq);exact anS ⟨.int (i - j),H,J.tok _,⟨_,rfl⟩,q⟩
end
section
variable {X:a8} {ae:List (Addr × Obj)} {σ:St} {H:au} {s:Shared} {A:Around} {E:Value->Shared->Prop} {Q:Value->Shared->Prop} {c:Value} {b:Bool}
inductive mD (K:ba) (H:au):V->Value->Prop where
 | b':mD K H .b' (.type "NoneType")
 | bB (x:Bool):mD K H (.bB x) (.type "bool")
 | int (i:Int):mD K H (.int i) (.type "int")
 | str (x:Str):mD K H (.str x) (.type "str")
 | vt (x:UInt64):mD K H (.vt x) (.type "float")
 | lst {a:Addr} {xs:List V} (e:H a=some (.lst xs)):mD K H (.ref a) (.type "list")
 | dx {a:Addr} {o:Obj} {xs:List V} (e:H a=some (.dx o (.lst xs))):mD K H (.ref a) (.type "list")
 | tup {a:Addr} {xs:List V} (e:H a=some (.tup xs)):mD K H (.ref a) (.type "tuple")
 | a5 {a:Addr} {kvs:List (Key × V)} (e:H a=some (.a5 kvs)):mD K H (.ref a) (.type "dict")
 | gq {a:Addr} {kvs:List (List Key × V)} (e:H a=some (.gq kvs)):mD K H (.ref a) (.type "dict")
 | ins {a C ar:Addr} {aR:List (Str × V)} (e:H a=some (.ins C ar aR)) (cl:hl K C) (aZ:c3 K (.ref C) "__class__"=some (some (.builtin "object.__class__")))
   (a3:vo K (.builtin "object.__class__") "__get__"=some (some (.builtin "getset_descriptor.__get__"))) (An:Hd K (.builtin "object.__class__")=some true)
   (hm:E8 K C (.type "object")=some true):mD K H (.ref a) (.ref C)
end
structure eA (k:Nat) (A:Around):Prop where
 hd:A.handled=none
 hy:A.depth + 3 * k + 5 < recursionLimit
 un:A.units + 16 * k + 200 < cLine
theorem eA.mono {j k:Nat} {A:Around} (r:eA k A) (h:j <= k):eA j A:=⟨r.hd,by have:=r.hy;omega,by have:=r.un;omega⟩
theorem eA.deeper {k:Nat} {A:Around} (r:eA (k + 1) A) (env:Env):eA k (A.deeper env):=
 ⟨r.hd,by have:=r.hy;show A.depth + 1 + 3 * k + 5 < _;omega,by have:=r.un;show A.units + 3 + 16 * k + 200 < _;omega⟩
theorem eA.in1 {k:Nat} {A:Around} (r:eA (k + 1) A):eA k A.in1:=
 ⟨r.hd,by have:=r.hy;show A.depth + 3 * k + 5 < _;omega,by have:=r.un;show A.units + 1 + 16 * k + 200 < _;omega⟩
theorem akw {A:Around}:(A.under (.builtin "type.__call__" ⟨.ref C :: us,kw⟩)).depth=A.depth + 1:=by
 first | rfl | simp [SS,Code.weight,Code.isCreation,Code.isGuard,Code.isCaller,X_,V1,guardIds]
theorem agl {A:Around}:(A.under (.builtin "type.__call__" ⟨.ref C :: us,kw⟩)).units=A.units + 1:=by
 first | rfl | simp [SS,Code.cUnits,X_,V1]
theorem eA.make {k:Nat} {A:Around} (r:eA (k + 1) A) (C:Addr) (us:List Value) (kw:List (Str × Value)):eA k (A.under (.builtin "type.__call__" ⟨.ref C :: us,kw⟩)):=
 ⟨r.hd,by have:=r.hy;rw [akw];omega,by have:=r.un;rw [agl];omega⟩
theorem eA.depth {k:Nat} {A:Around} (r:eA k A):A.depth < recursionLimit:=by have:=r.hy;omega
theorem eA.units {k:Nat} {A:Around} (r:eA k A):A.units + 64 < cLine:=by have:=r.un;omega
noncomputable def xb:f3:=fun _ H Q=>Q [] H
noncomputable def wP (a':TE) (q4:f3):f3:=fun σ H Q=>a' σ H fun x H1=>q4 σ H1 fun xs av=>Q (x :: xs) av
section
variable {X:a8} {e:Expr} {a0:List Expr} {bV:TE} {t:f3} {pos:Pos}
theorem aE:jI X [] xb:=fun _ _ _ _ H Q J h=>ad3 ⟨[],H,J,.nil,h⟩
theorem ai (aZ:bw X e bV) (ao:jI X a0 t) (aB:starEach (e :: a0) X.env=(false,eval e X.env) :: starEach a0 X.env:=by rfl):jI X (e :: a0) (wP bV t):=by
 intro pos ae s σ H Q J h;rw [aB];show wpAny _ _ (spliced ((false,eval e X.env) :: backTo pos (starEach a0 X.env))) _ _ s;refine RN (bF (aZ ae s σ H _ J h) fun u s1 b4=>d1 b4 fun x H1 aU bC bO=>?_);exact bF (ao pos ae s1 σ H1 _ aU bO) fun us s2 ⟨xs,av,bN,c0,dC⟩=>⟨x :: xs,av,bN,.cons bC c0,dC⟩
noncomputable def G7 (t:f3):TE:=fun σ H Q=>t σ H fun xs H1=>xs.length <= sizeLine/\∀ p,H1 p=none->Q (.ref p) (upd H1 p (.tup xs))
noncomputable def JG (t:f3):TE:=fun σ H Q=>t σ H fun xs H1=>xs.length <= sizeLine/\∀ p,H1 p=none->Q (.ref p) (upd H1 p (.lst xs))
theorem pQ {cp} (h:jI X a0 t):bw X (.Tuple a0 cp pos) (G7 t):=by
 intro ae s σ H Q J aD;refine wpAny_Tuple_spliced (bF (h pos ae s σ H _ J aD) fun us s1 ⟨xs,H1,aU,r,z,q⟩=>⟨by rw [<- r.length];exact z,?_⟩);have hf:H1 s1.heap.objs.size=none:=aU.bh.fresh (bR _);refine ⟨.ref s1.heap.objs.size,upd H1 s1.heap.objs.size (.tup xs),aU.laid (t':=s1.toks) (fun b u e=>eP _ e) (bR _) ?_,rfl,q _ hf⟩;exact ⟨z,us,r,⟨_,hp _ rfl,rfl,_,rfl⟩⟩
theorem gC (h:jI X a0 t):bw X (.List a0 pos) (JG t):=by
 intro ae s σ H Q J aD;refine wpAny_List_spliced (bF (h pos ae s σ H _ J aD) fun us s1 ⟨xs,H1,aU,r,z,q⟩=>⟨by rw [<- r.length];exact z,?_⟩);have hf:H1 s1.heap.objs.size=none:=aU.bh.fresh (bR _);refine ⟨.ref s1.heap.objs.size,upd H1 s1.heap.objs.size (.lst xs),aU.laid (t':=s1.toks) (fun b u e=>eP _ e) (bR _) ?_,rfl,q _ hf⟩;exact ⟨z,us,0,r,hp _ rfl⟩
end
noncomputable abbrev bX:=List V->au->cN->gp->Prop
noncomputable abbrev j1:=List Env->au->Shared->gp->Value->Shared->Prop
structure ny (P:Program) (w:World) (K:ba) (mg:Str->Option Value) (base:Heap) (A:Around) (outer:List Env) (s:Shared) (H:au):Prop where
 frames:A.frames=some outer
 mod:Mod K mg base
 bs:∀ b o,base.get? b=some o->s.heap.get? b=some o/\H b=none
 kk:base.objs.size <= s.heap.objs.size
 j8:s.heap.FunFrames base outer
 nY:∀ b ∈ lL outer,H b=none
 bh:ej P w H s.heap
 bare:AllBare s.gens
def HC (outer:List Env) (P:Program) (w:World) (H:au) (s:Shared) (Q:cN) (u:Value) (aj:Shared):Prop:=
 ∃ v I,aj.os=s.os/\AllBare aj.gens/\e2 (lL outer) [] H I s.heap aj.heap/\ej P w I aj.heap/\bK v u/\Q v I
def GI (CX:j1) (outer:List Env) (P:Program) (w:World) (H:au) (s:Shared) (Q:cN) (E:gp) (r:Result) (aj:Shared):Prop:=
 match r with
 | .ok (.ret u)=>HC outer P w H s Q u aj
 | .ok _=>False
 | .error e=>CX outer H s E e aj
structure cJ (P:Program) (w:World) (K:ba) (mg:Str->Option Value) (base:Heap) (CX:j1) (k:Nat) (f:Addr) (fd:FuncData) (ps:List Str) (sp:bX):Prop where
 len:∀ vs H Q E,sp vs H Q E->vs.length=ps.length
 run:∀ (A:Around) (outer:List Env) (s:Shared) (H:au) (args:Args) (us:List Value) (vs:List V) (Q:cN) (E:gp),eA k A->ny P w K mg base A outer s H->BindsTo s fd args (ps.zip us)->b1 vs us->sp vs H Q E ->
  codeAny (model P w) A (.call (.ref f) args) (GI CX outer P w H s Q E) s
theorem cJ.mono {w:World} {K:ba} {mg:Str->Option Value} {base:Heap} {j k:Nat} {fd:FuncData} (F:cJ P w K mg base CX j f fd ps sp) (h:j <= k) :
  cJ P w K mg base CX k f fd ps sp:=⟨F.len,fun A outer s H args us vs Q E ao=>F.run A outer s H args us vs Q E (ao.mono h)⟩
theorem cJ.imp {w:World} {K:ba} {mg:Str->Option Value} {base:Heap} {k:Nat} {fd:FuncData} (F:cJ P w K mg base CX k f fd ps sp)
  (h:∀ vs H Q E,mR vs H Q E->sp vs H Q E):cJ P w K mg base CX k f fd ps mR:=
 ⟨fun vs H Q E q=>F.len vs H Q E (h _ _ _ _ q),fun A outer s H args us vs Q E ao he aa aJ aB=>F.run A outer s H args us vs Q E ao he aa aJ (h _ _ _ _ aB)⟩
theorem ny.make {w:World} {K:ba} {mg:Str->Option Value} {base:Heap} {A:Around} {outer:List Env} (e:ny P w K mg base A outer s H) (C:Addr) (us:List Value) (kw:List (Str × Value)) :
  ny P w K mg base (A.under (.builtin "type.__call__" ⟨.ref C :: us,kw⟩)) outer s H:=⟨by first | exact e.frames | (simpa [SS,Code.envs,V1,pushEnvs] using e.frames),e.mod,e.bs,e.kk,e.j8,e.nY,e.bh,e.bare⟩
theorem ny.in1 {w:World} {K:ba} {mg:Str->Option Value} {base:Heap} {A:Around} {outer:List Env} (e:ny P w K mg base A outer s H) :
  ny P w K mg base A.in1 outer s H:=⟨e.frames,e.mod,e.bs,e.kk,e.j8,e.nY,e.bh,e.bare⟩
section
variable {X:a8} {ae:List (Addr × Obj)} {σ:St} {H:au} {s aj:Shared}
theorem Inv.R' (J:Inv X ae σ H s):ny X.prog X.w X.K X.mg X.base X.A X.stack s H:=
 ⟨J.ok.frames,J.ok.mod,J.bs,c7 J.ok.kk J.nZ,J.stack,J.G',J.bh,J.bare⟩
theorem Inv.after (J:Inv X ae σ H s) (h:HC X.stack X.prog X.w H s Q u aj):gL X ae σ Q u aj:=by
 obtain ⟨v,I,os,bare,un,bh,r,q⟩:=h;obtain ⟨gg,g,d,t,alF⟩:=aj;obtain rfl:alF=s.os:=os;exact ⟨v,I,J.call (h':=gg) (g':=g) (d':=d) (t':=t) (ch:=[]) un bh bare (fun b z=>absurd z (by simp)),r,q⟩
end
noncomputable def xo (sp:bX) (dvs:List V) (E:gp) (t:f3):TE:=fun σ H Q=>t σ H fun vs H1=>sp (vs ++ dvs) H1 Q E
noncomputable def F8 (C:Addr) (m:Str) (sp:bX) (dvs:List V) (E:gp) (a':TE) (t:f3):TE:=fun σ H Q=>a' σ H fun x H1=>fl x fun a=>∃ ar aR,H1 a=some (.ins C ar aR)/\aR.lookup m=none /\
 t σ H1 fun vs av=>sp (x :: (vs ++ dvs)) av Q E
noncomputable def Wm (C:Addr) (sp:bX) (dvs:List V) (E:gp) (t:f3):TE:=fun σ H Q=>t σ H fun vs H1=>∀ x ar,H1 x=none->H1 ar=none->ar ≠ x ->
 sp (.ref x :: (vs ++ dvs)) (upd (upd H1 ar (.own x)) x (.ins C ar [])) (fun v av=>v=.b'/\Q (.ref x) av) E
def b6 (K:ba) (fd:FuncData) (ps:List Str) (ds:List Value):Prop:=
 ∀ (s:Shared) (us:List Value),K.In s.heap->(us ++ ds).length=ps.length->BindsTo s fd ⟨us,[]⟩ (ps.zip (us ++ ds))
theorem b6.all {K:ba} {fd:FuncData} (h:∀ us:List Value,us.length=ps.length->bindArgs fd ⟨us,[]⟩=pure (ps.zip us)):b6 K fd ps []:=fun s us _ aK=>by
 rw [vJ] at aK ⊢;exact .of_eq (h us aK)
def pd (CX:j1) (X:a8) (E:gp):Prop:=∀ (ae:List (Addr × Obj)) (σ:St) (H:au) (s:Shared) (e:Value) (aj:Shared),Inv X ae σ H s->CX X.stack H s E e aj->X.dI e aj
section
variable {X:a8} {CX:j1} {k:Nat} {f C:Addr} {fd:FuncData} {ps:List Str} {sp:bX} {dvs:List V} {ds:List Value} {E:gp} {x m:Str} {p pos fu:Pos} {e o:Expr} {a0:List Expr} {a':TE} {t:f3}
theorem vw (F:cJ X.prog X.w X.K X.mg X.base CX k f fd ps sp) (ao:eA k X.A) (aa:b6 X.K fd ps ds) (hd:b1 dvs ds) (ag:pd CX X E)
  (J:Inv X ae σ H s) (r:b1 vs us) (h:sp (vs ++ dvs) H Q E):wpAny (model X.prog X.w) X.A (call (.ref f) us) (gL X ae σ Q) X.dI s:=by
 have c0:b1 (vs ++ dvs) (us ++ ds):=r.append hd;have aK:(us ++ ds).length=ps.length:=by rw [<- c0.length];exact F.len _ _ _ _ h
 refine wpAny_call (codeAny_mono (F.run X.A X.stack s H ⟨us,[]⟩ (us ++ ds) (vs ++ dvs) Q E ao J.R' (aa s us J.jb aK) c0 h) fun r aj aD=>?_);cases r with
 | error e=>exact ag ae σ H s e aj J aD
 | ok et=>
  cases et with
  | ret u=>exact J.after aD
  | next=>exact jh aD
  | brk=>exact jh aD
  | cont=>exact jh aD
theorem amb (F:cJ X.prog X.w X.K X.mg X.base CX k f fd ps sp) (ao:eA k X.A) (bj:mj X x) (hm:X.mg x=some (.ref f)) (aC:sN X.K (.ref f)=true) (aa:b6 X.K fd ps ds) (hd:b1 dvs ds) (ag:pd CX X E)
  (aZ:jI X (e :: a0) t) (nM:(x == ("__debug__" : Str))=false:=by decide) (he:starEach (e :: a0) X.env=(false,eval e X.env) :: starEach a0 X.env:=by rfl) (cG:(backTo pos (starEach a0 X.env)).any (·.1)=false:=by rfl) :
  bw X (.Call (.Name x p) (e :: a0) [] pos) (xo sp dvs E t):=by
 intro ae s σ H Q J h;refine wpAny_Call_Name_kw (Dx J bj hm ?_ nM);refine Ay (h₀:=X.base) J.ok.mod.sH aC (bF (aZ pos ae s σ H _ J h) fun us s1 ⟨vs,H1,aU,r,q⟩=>⟨aU.jb,?_⟩) he cG;exact vw F ao aa hd ag aU r q
theorem Gc (he:bw X o a') (c:hl X.K C) (hm:eW X.K C m f) (F:cJ X.prog X.w X.K X.mg X.base CX k f fd ps sp) (ao:eA k X.A) (aa:b6 X.K fd ps ds) (hd:b1 dvs ds) (ag:pd CX X E) (aZ:jI X (e :: a0) t)
  (gd:starEach (e :: a0) X.env=(false,eval e X.env) :: starEach a0 X.env:=by rfl) (cG:(backTo pos (starEach a0 X.env)).any (·.1)=false:=by rfl)
  (cZ:eval (.Call (.Attribute o m fu) (e :: a0) [] pos) X.env=(do
   let dN <- eval o X.env
   standAt fu.atName
   let (f,first) <- holding [dN] (getMethod dN m pl)
   callWith pos f first (backTo pos (starEach (e :: a0) X.env)) (backToKw pos (keywordEach [] X.env))):=by rfl) :
  bw X (.Call (.Attribute o m fu) (e :: a0) [] pos) (F8 C m sp dvs E a' t):=by
 intro ae s σ H Q J h;refine zA (pl:=pl) (bF (he ae s σ H _ J h) fun u s1 b4=>d1 b4 fun x H1 aU a_ g5=>?_) cZ;obtain ⟨a,ex,ar,aR,gS,l,q⟩:=fl.out g5;subst ex;obtain rfl:u=fi a:=a_;refine Ae aU gS c hm l ?_;refine Ay (first:=[.ref a]) (h₀:=X.base) J.ok.mod.sH hm.bJ (bF (aZ pos ae s1 σ H1 _ aU q) fun us s2 ⟨vs,av,bN,r,dC⟩=>⟨bN.jb,?_⟩) gd cG;exact vw (us:=.ref a :: us) (vs:=.ref a :: vs) F ao aa hd ag bN (.cons rfl r) dC
theorem gw (he:bw X o a') (c:hl X.K C) (hm:eW X.K C m f) (F:cJ X.prog X.w X.K X.mg X.base CX k f fd ps sp) (ao:eA k X.A) (aa:b6 X.K fd ps ds) (hd:b1 dvs ds) (ag:pd CX X E)
  (cZ:eval (.Call (.Attribute o m fu) [] [] pos) X.env=(do
   let dN <- eval o X.env
   standAt fu.atName
   let (f,first) <- holding [dN] (getMethod dN m pl)
   callWith pos f first (backTo pos (starEach [] X.env)) (backToKw pos (keywordEach [] X.env))):=by rfl) :
  bw X (.Call (.Attribute o m fu) [] [] pos) (F8 C m sp dvs E a' xb):=by
 intro ae s σ H Q J h;refine zA (pl:=pl) (bF (he ae s σ H _ J h) fun u s1 b4=>d1 b4 fun x H1 aU a_ g5=>?_) cZ;obtain ⟨a,ex,ar,aR,gS,l,q⟩:=fl.out g5;subst ex;obtain rfl:u=fi a:=a_;refine Ae aU gS c hm l ?_;exact afa (first:=[.ref a]) aU.jb hm.bJ (vw (us:=[.ref a]) (vs:=[.ref a]) F ao aa hd ag aU (.cons rfl .nil) q)
structure pn (K:ba) (C f:Addr):Prop where
 makes:aha K C=true
 init:c3 K (.ref C) "__init__"=some (some (.ref f))
 fn:Qc K (.ref f)=true
 bJ:sN K (.ref C)=true
theorem YH (M:pn X.K C f) (F:cJ X.prog X.w X.K X.mg X.base CX k f fd ps sp) (ao:eA (k + 1) X.A) (aa:b6 X.K fd ps ds) (hd:b1 dvs ds)
  (ag:pd CX X E) (J:Inv X ae σ H s) (r:b1 vs us)
  (h:∀ x ar,H x=none->H ar=none->ar ≠ x->sp (.ref x :: (vs ++ dvs)) (upd (upd H ar (.own x)) x (.ins C ar [])) (fun v av=>v=.b'/\Q (.ref x) av) E) :
  wpAny (model X.prog X.w) X.A (call (.ref C) us) (gL X ae σ Q) X.dI s:=by
 have aD:=h (s.heap.objs.size + 1) s.heap.objs.size (J.bh.fresh (BN _)) (J.bh.fresh (bR _)) (fX (LW _));have bN:=Inv.made (C:=C) J;have c0:b1 (V.ref (s.heap.objs.size + 1) :: (vs ++ dvs)) (fi (s.heap.objs.size + 1) :: (us ++ ds)):=.cons rfl (r.append hd);have aK:(fi (s.heap.objs.size + 1) :: us ++ ds).length=ps.length:=by
  have e:=c0.length;rw [F.len _ _ _ _ aD] at e;exact e.symm
 refine wpAny_call (SL (f:=f) J.jb M.makes M.init (beq_iff_eq.mp M.fn) (codeAny_mono (F.run _ X.stack _ _ ⟨fi (s.heap.objs.size + 1) :: us,[]⟩ (fi (s.heap.objs.size + 1) :: (us ++ ds)) _ _ E (ao.make C us [])
  (bN.R'.make C us []) (aa _ (fi (s.heap.objs.size + 1) :: us) bN.jb aK) c0 aD) fun r aj ma=>?_))
 cases r with
 | error e=>exact ag ae σ _ _ e aj bN ma
 | ok et=>
  cases et with
  | ret u=>
   obtain ⟨v,I,eI,cL,ev,hn⟩:=bN.after ma;subst ev;exact ⟨cL,⟨V.ref (s.heap.objs.size + 1),I,eI,rfl,hn⟩⟩
  | next=>exact jh ma
  | brk=>exact jh ma
  | cont=>exact jh ma
theorem oC (M:pn X.K C f) (F:cJ X.prog X.w X.K X.mg X.base CX k f fd ps sp) (ao:eA (k + 1) X.A) (bj:mj X x) (hm:X.mg x=some (.ref C)) (aa:b6 X.K fd ps ds) (hd:b1 dvs ds) (ag:pd CX X E)
  (aZ:jI X (e :: a0) t) (nM:(x == ("__debug__" : Str))=false:=by decide) (he:starEach (e :: a0) X.env=(false,eval e X.env) :: starEach a0 X.env:=by rfl) (cG:(backTo pos (starEach a0 X.env)).any (·.1)=false:=by rfl) :
  bw X (.Call (.Name x p) (e :: a0) [] pos) (Wm C sp dvs E t):=by
 intro ae s σ H Q J h;refine wpAny_Call_Name_kw (Dx J bj hm ?_ nM);refine Ay (h₀:=X.base) J.ok.mod.sH M.bJ (bF (aZ pos ae s σ H _ J h) fun us s1 ⟨vs,H1,aU,r,q⟩=>⟨aU.jb,?_⟩) he cG;exact YH M F ao aa hd ag aU r q
end
section
variable {X:a8} {CX:j1} {k:Nat} {f C:Addr} {fd:FuncData} {ps bW:List Str} {sp:bX} {E:gp} {x m:Str} {p pos fu anR:Pos} {e o:Expr} {a0:List Expr} {ao4:List Keyword} {bV a':TE} {t tk:f3} {nm:Option Str}
structure ao7 (K:ba) (fd:FuncData) (ps bW:List Str) (g:List Value->List Value->List Value) (T_:List V->List V->List V):Prop where
 to:∀ (s:Shared) (us ws:List Value),K.In s.heap->(g us ws).length=ps.length->BindsTo s fd ⟨us,bW.zip ws⟩ (ps.zip (g us ws))
 rel:∀ {vs:List V} {us:List Value} {zs:List V} {ws:List Value},b1 vs us->b1 zs ws->b1 (T_ vs zs) (g us ws)
variable {g:List Value->List Value->List Value} {T_:List V->List V->List V}
end
structure cq (N P:List Str) (sc:Scope):Prop where
 kind:sc.kind=.function
 co:sc.isCoroutine=false
 gen:sc.isGenerator=false
 aH:N.Nodup
 pre:N.take P.length=P
 par:∀ x ∈ P,sc.names.lookup x=some .local\/sc.names.lookup x=some .cell
 agj:∀ y ∈ sc.names,y.2 ≠ .free
theorem Q1 {kindOf:Str->Option NameKind} {x:Str}:∀ {binds:List (Str × Value)} {m:Str->Option Value},(∀ v,(x,v) ∉ binds)->bindL kindOf binds m x=m x
 | [],_,_=>rfl
 | (n,v) :: r,m,h=>by
  unfold bindL;rw [Q1 fun w hw=>h w (iu _ hw)];split
  .have:x ≠ n:=by rintro rfl;exact h v m9
   simp [this]
  .rfl
theorem WA {kindOf:Str->Option NameKind} {x:Str}:∀ {binds:List (Str × Value)} {m:Str->Option Value},(∀ v,(x,v) ∉ binds)->bindC kindOf binds m x=m x
 | [],_,_=>rfl
 | (n,v) :: r,m,h=>by
  unfold bindC;rw [WA fun w hw=>h w (iu _ hw)];split
  .rfl
  .have:x ≠ n:=by rintro rfl;exact h v m9
   simp [this]
theorem UM {kindOf:Str->Option NameKind} {x:Str} {v:Value}:∀ {P:List Str} {vs:List Value} {i:Nat} {m:Str->Option Value},P.Nodup->P[i]? = some x->vs[i]? = some v->kindOf x=some .local ->
  bindL kindOf (P.zip vs) m x=some v
 | [],_,_,_,_,h,_,_=>by simp at h
 | _ :: _,[],_,_,_,_,h,_=>by simp at h
 | p :: P,w :: vs,0,m,aH,af,ak,aC=>by
  simp at af ak;subst af;subst ak;show bindL kindOf ((p,w) :: P.zip vs) m p=_;unfold bindL;rw [Q1 fun v aJ=>(rX.mp aH).1 (Qw aJ).1,if_pos aC];simp
 | p :: P,w :: vs,i + 1,m,aH,af,ak,aC=>by
  show bindL kindOf ((p,w) :: P.zip vs) m x=_;unfold bindL;exact UM (i:=i) (rX.mp aH).2 (by simpa using af) (by simpa using ak) aC
theorem RH {kindOf:Str->Option NameKind} {x:Str} {v:Value}:∀ {P:List Str} {vs:List Value} {i:Nat} {m:Str->Option Value},P.Nodup->P[i]? = some x->vs[i]? = some v->kindOf x ≠ some .local ->
  bindC kindOf (P.zip vs) m x=some v
 | [],_,_,_,_,h,_,_=>by simp at h
 | _ :: _,[],_,_,_,_,h,_=>by simp at h
 | p :: P,w :: vs,0,m,aH,af,ak,aC=>by
  simp at af ak;subst af;subst ak;show bindC kindOf ((p,w) :: P.zip vs) m p=_;unfold bindC;rw [WA fun v aJ=>(rX.mp aH).1 (Qw aJ).1,if_neg aC];simp
 | p :: P,w :: vs,i + 1,m,aH,af,ak,aC=>by
  show bindC kindOf ((p,w) :: P.zip vs) m x=_;unfold bindC;exact RH (i:=i) (rX.mp aH).2 (by simpa using af) (by simpa using ak) aC
noncomputable def start (N:List Str) (vs:List V):St:=vs.map some ++ Ur (N.length - vs.length) none
noncomputable def qN (CX:j1) (P:Program) (w:World) (K:ba) (mg:Str->Option Value) (base:Heap) (N:List Str) (qual:Str) (scope:Scope) (f:Addr) (cd:Value) (A:Around) (outer:List Env) (s:Shared) (H:au) (E:gp):a8 where
 prog:=P
 w:=w
 K:=K
 mg:=mg
 base:=base
 A:=A.deeper (envOfC qual scope s.heap.objs.size f cd)
 N:=N
 fQ:=s
 rU:=H
 env:=envOfC qual scope s.heap.objs.size f cd
 outer:=outer
 stack:=envOfC qual scope s.heap.objs.size f cd :: outer
 ex:=[]
 calm:=true
 fn:=fun _=>true
 da:=[]
 dI:=fun e aj=>wpAny (model P w) (A.deeper (envOfC qual scope s.heap.objs.size f cd)) (leaving (envOfC qual scope s.heap.objs.size f cd) e) (fun _ oZ=>CX outer H s E e oZ) (fun bM oZ=>CX outer H s E bM oZ) aj
theorem M5 {sc:Scope} {n:Nat} {x:Str} (h:sc.names.lookup x=some .cell):∃ c,(cellsFrom n sc.names []).lookup x=some c:=by
 have q:=amC sc.names n [] (.inl h);exact ajT.mp q
theorem Yp {CX:j1} {P:Program} {w:World} {K:ba} {mg:Str->Option Value} {base:Heap} {N ps:List Str} {qual:Str} {scope:Scope} {f:Addr} {cd:Value} {A:Around} {outer:List Env} {s s1:Shared} {H:au} {E:gp} {us:List Value} {vs:List V}
  (S:cq N ps scope) (hd:A.handled=none) (fJ:ny P w K mg base A outer s H) (aK:vs.length=ps.length) (r:b1 vs us)
  (x:InCallC s s.heap.objs.size (bindL (envOfC qual scope s.heap.objs.size f cd).kindOf (ps.zip us) fun _=>none) (cellsFrom (s.heap.objs.size + 1) scope.names []) (bindC (envOfC qual scope s.heap.objs.size f cd).kindOf (ps.zip us) fun _=>none) s1) :
  Inv (qN CX P w K mg base N qual scope f cd A outer s H E) [] (start N vs) H s1:=by
 have cG:ps.length <= N.length:=by have:=congrArg ru S.pre;rw [gK] at this;omega
 obtain ⟨af,tk,rfl,aC⟩:=x.done;have sd:∀ b:Addr,b ∉ (qN CX P w K mg base N qual scope f cd A outer s H E).ex:=fun b z=>absurd (show b ∈ ([]:List Addr) from z) (by simp)
 refine ⟨⟨fJ.mod,S.kind,rfl,rfl,bR _,fun y z c af ak=>?_,fun y aY=>?_,fun y c _ h=>?_,fun _=>hd,agR fJ.frames,.inr ⟨rfl,rfl⟩,fun b z=>absurd z (sd b),fJ.bs,fJ.kk,fun b _ _=>sd b,fun b z=>absurd z (sd b),fJ.j8,fJ.nY⟩,
  rfl,fJ.bare,e2.kept aC,⟨_,x.toInCall.ns,fun i y v af ak bc=>?_⟩,fun y c h=>⟨_,x.cell y c h⟩,fJ.bh.fresh (bR _),fun y c h=>?_,fun p aq=>absurd (show p ∈ ([]:List (Addr × Obj)) from aq) (by simp),fJ.bh.kept aC,?_⟩
 .exact name_of_addr x.apart (uj af) (uj ak)
 .have aY:scope.names.lookup y=some .cell\/scope.names.lookup y=some .free:=aY;rcases aY with aY | aY
  .exact M5 aY
  .exact absurd rfl (S.agj _ (uj aY))
 .exact ni (x.above y c (uj h))
 .have ah:i < vs.length:=by
   unfold start at ak;by_cases ah:i < vs.length
   .exact ah
   .rw [mK (by simpa using ah)] at ak;rw [List.getElem?_replicate] at ak;split at ak <;> cases ak
  have aZ:vs[i]? = some v:=by
   unfold start at ak;rw [n8 (by simpa using ah),dO] at ak;cases e:vs[i]? with
   | none=>rw [e] at ak;cases ak
   | some a=>rw [e] at ak;cases ak;rfl
  obtain ⟨u,bt,cL⟩:=r.get aZ;have aq:ps[i]? = some y:=by
   rw [<- S.pre,rO (by omega)];exact af
  have RD:ps.Nodup:=by rw [<- S.pre];exact S.aH.sublist (List.take_sublist _ _)
  refine ⟨u,cL,?_⟩;rcases S.par y (cQ aq) with k | k
  .exact .inl ⟨k,UM RD aq bt k⟩
  .obtain ⟨c,e⟩:=M5 (n:=s.heap.objs.size + 1) k;refine .inr ⟨.inl k,c,e,?_⟩;have q:=x.cell y c e;rw [RH RD aq bt (by show scope.names.lookup y ≠ _;rw [k];decide)] at q;exact q
 .exact fJ.bh.fresh (ni (x.above y c (uj h)))
 .unfold start;show _=N.length;rw [dS,aO,List.length_replicate];omega
theorem QA {w:World} {K:ba} {mg:Str->Option Value} {base:Heap} {k:Nat} {name qual:Str} {Ez c9 doc pm fU e_ n5:Value}
 {N ps:List Str} (lk:K.lookup f=some ⟨n5,dH,.func (zg name qual params body scope Ez c9 doc pm an fU e_),tN⟩) (kN:Nb K fU qual=true) (S:cq N ps scope)
    (len:∀ vs H Q E,sp vs H Q E->vs.length=ps.length)
    (pz:∀ (A:Around) (outer:List Env) (s:Shared) (H:au) (vs:List V) (Q:cN) (E:gp),eA k (A.deeper (envOfC qual scope s.heap.objs.size f fU))->sp vs H Q E ->
      ∃ t,kZ (qN CX P w K mg base N qual scope f fU A outer s H E) body t/\t { b8:=fun _ I=>Q .b' I,k3:=Q } (start N vs) H) :
    cJ P w K mg base CX (k + 1) f (zg name qual params body scope Ez c9 doc pm an fU e_) ps sp:=by
  refine ⟨len,fun A outer s H args us vs Q E ao fJ aa r iE=>?_⟩;have aK:=len _ _ _ _ iE;have kP:K.In s.heap:=fJ.mod.sH.keeps fun b o e=>(fJ.bs b o e).1
  have lim:s.heap.NoLimit:=fJ.mod.nolimit.keeps fun b o e=>(fJ.bs b o e).1
  have akd:∀ y ∈ ps.zip us,scope.names.lookup y.1=some .local\/(scope.names.lookup y.1=some .cell/\((cellsFrom (s.heap.objs.size + 1) scope.names []).lookup y.1).isSome=true):=fun ⟨n,v⟩ aY=>by
    rcases S.par n (Qw aY).1 with q | q
    · exact .inl q
    · exact .inr ⟨q,amC _ _ _ (.inl q)⟩
  refine codeAny_call_function ao.depth (kP _ _ lk) rfl S.co S.gen rfl (PySem.W.codeRec_of kP kN) (aa _ _ _ _ ?_);refine wpAny_newFunctionEnv_cells S.kind akd fun env he s1 x=>?_
  subst he;refine ⟨lim.keeps x.toInCall.keep,codeAny_func ?_⟩;obtain ⟨t,cZ,aD⟩:=pz A outer s H vs Q E (ao.deeper _) iE;have J:Inv (qN CX P w K mg base N qual scope f fU A outer s H E) [] (start N vs) H s1:=Yp S ao.hd fJ aK r x;refine wpAny_mono (cZ [] s1 (start N vs) H _ J aD) (fun et aj aB=>?_) fun e aj aB=>aB
  have fin:∀ {ax:St} {I:au} {v:V} {u:Value},Inv (qN CX P w K mg base N qual scope f fU A outer s H E) [] ax I aj->bK v u->Q v I->HC outer P w H s Q u aj:=
    fun {ax I v u} b3 cL q=>⟨v,I,b3.os,b3.bare,b3.base,b3.bh,cL,q⟩
  cases et with
  | ret u=>
    obtain ⟨v,ax,I,b3,cL,q⟩:=aB;exact fin b3 cL q
  | next=>
    obtain ⟨ax,I,b3,q⟩:=aB;exact fin (v:=V.b') (u:=td) b3 rfl q
  | brk=>
    obtain ⟨_,_,_,q⟩:=aB;exact jh q
  | cont=>
    obtain ⟨_,_,_,q⟩:=aB;exact jh q
section
variable {X:a8} {x:Str} {p pos:Pos} {e:Expr} {a0:List Expr} {t:f3} {id T:String} {r:List V->au->cN->Prop}
noncomputable def D8 (r:List V->au->cN->Prop) (t:f3):TE:=fun σ H Q=>t σ H fun vs H1=>r vs H1 Q
theorem gi (ay:ki X (.builtin id) r) (bj:mj X x) (hm:X.mg x=none) (aJ:bootBuiltins x=some (.builtin id)) (aZ:jI X (e :: a0) t) (a3:x ≠ "__name__" := by decide) (nM:(x == ("__debug__" : Str))=false:=by decide)
  (he:starEach (e :: a0) X.env=(false,eval e X.env) :: starEach a0 X.env:=by rfl) (cG:(backTo pos (starEach a0 X.env)).any (·.1)=false:=by rfl):bw X (.Call (.Name x p) (e :: a0) [] pos) (D8 r t):=by
 intro ae s σ H Q J h;refine wpAny_Call_Name_kw (wd J bj hm aJ ?_ a3 nM);exact apx (bF (aZ pos ae s σ H _ J h) fun us s1 ⟨vs,H1,aU,bC,bO⟩=>ay ae s1 σ H1 vs us Q aU bC bO) he cG
theorem j' (ay:ki X (.type T) r) (bj:mj X x) (hm:X.mg x=none) (aJ:bootBuiltins x=some (.type T)) (aZ:jI X (e :: a0) t) (a3:x ≠ "__name__" := by decide) (nM:(x == ("__debug__" : Str))=false:=by decide)
  (he:starEach (e :: a0) X.env=(false,eval e X.env) :: starEach a0 X.env:=by rfl) (cG:(backTo pos (starEach a0 X.env)).any (·.1)=false:=by rfl):bw X (.Call (.Name x p) (e :: a0) [] pos) (D8 r t):=by
 intro ae s σ H Q J h;refine wpAny_Call_Name_kw (wd J bj hm aJ ?_ a3 nM);exact Sd (bF (aZ pos ae s σ H _ J h) fun us s1 ⟨vs,H1,aU,bC,bO⟩=>ay ae s1 σ H1 vs us Q aU bC bO) he cG
end
end L2
namespace gn
open PySem PyProof.Rows
section
open PySem.SeqAt
open PySem.AutoSeq1 (wpAny_loadPart')
open PySem.MeetsSeq PySem.MeetsSeq2 PySem.MeetsSeq3
end
section
variable {prog:Program} {w:World} {A:Around} {E:Value->Shared->Prop} {s:Shared}
noncomputable def dh (n d:Nat):Option Int->Nat
 | none=>d
 | some v=>if v < 0 then (v + (n:Int)).toNat else min v.toNat n
theorem YC (n d:Nat):dh n d none=d:=rfl
theorem XW (n d k:Nat):dh n d (some (k:Int))=min k n:=by
 show (if (k:Int) < 0 then ((k:Int) + (n:Int)).toNat else min (k:Int).toNat n)=min k n;rw [if_neg (by omega),rq]
theorem acY (n d:Nat) (hd:d <= n) (o:Option Int):dh n d o <= n:=by
 cases o with
 | none=>exact hd
 | some v=>
  show (if v < 0 then (v + (n:Int)).toNat else min v.toNat n) <= n;by_cases aJ:v < 0
  .rw [if_pos aJ];omega
  .rw [if_neg aJ];exact Nat.min_le_right _ _
theorem U7 (v:Int) (n d:Nat):(if v < 0 then max (v + (n:Int)) 0 else min v (n:Int))=((dh n d (some v):Nat):Int):=by
 show (if v < 0 then max (v + (n:Int)) 0 else min v (n:Int))=(((if v < 0 then (v + (n:Int)).toNat else min v.toNat n):Nat):Int);by_cases aJ:v < 0
 .simp only [if_pos aJ];omega
 .simp only [if_neg aJ];omega
theorem alr (lo ah:Option Int) (n:Nat):Uy lo ah 1 (n:Int)=(((dh n 0 lo:Nat):Int),((dh n n ah:Nat):Int)):=by
 have af:¬ ((1:Int) < 0):=by omega
 unfold Uy;simp only [af,if_false];refine Prod.ext ?_ ?_
 .cases lo with
  | none=>rfl
  | some v=>exact U7 v n 0
 .cases ah with
  | none=>rfl
  | some v=>exact U7 v n n
theorem ac5 (i j:Nat):Hh (i:Int) (j:Int) 1=j - i:=by
 unfold Hh;have af:(1:Int) > 0:=by omega
 simp only [af,if_true,Int.ediv_one];split <;> omega
theorem Rp (p:IsPart v o) (h:Q o s):wpAny (model prog w) A (aoG v) Q E s:=by
 cases p with
 | none=>exact slicePart_none h
 | int i t=>exact slicePart_int h
theorem ahm {cf:Addr} {jU jW:Value} {lo ah:Option Int} {n:Nat} {Q:Int × Int × Nat->Shared->Prop} (aB:s.heap.IsSliceOf cf jU jW .none) (pl:IsPart jU lo) (pu:IsPart jW ah)
  (h:Q (((dh n 0 lo:Nat):Int),1,dh n n ah - dh n 0 lo) s):wpAny (model prog w) A (alJ (.ref cf) (pure (n:Int))) Q E s:=by
 obtain ⟨os,yV,Sw,Bl⟩:=id aB;unfold alJ aqy;refine wpAny_bind (wpAny_bind (wpAny_field yV Bl (x:=jU) rfl (wpAny_bind (wpAny_field yV Bl (x:=jW) rfl (wpAny_bind (wpAny_field yV Bl (x:=.none) rfl (wpAny_pure ?_)))))));refine wpAny_bind (slicePart_none ?_);show wpAny _ _ (if ((1:Int) == 0)=true then _ else _) _ _ s;rw [if_neg (by decide)];refine wpAny_bind (Rp pl (wpAny_bind (Rp pu (wpAny_bind (wpAny_pure ?_)))));show wpAny _ _ (match Uy lo ah 1 (n:Int) with | (lo,ah)=>pure (lo,(1:Int),Hh lo ah 1)) _ _ s;rw [alr lo ah n];show wpAny _ _ (pure (((dh n 0 lo:Nat):Int),(1:Int),Hh ((dh n 0 lo:Nat):Int) ((dh n n ah:Nat):Int) 1)) _ _ s;rw [ac5];exact wpAny_pure h
theorem am9 (xs:Array Value) (i k:Nat):((fW k).filterMap fun (m:Nat)=>xs[((i:Int) + (m:Int) * 1).toNat]?).toArray=((xs.toList.drop i).take k).toArray:=by
 have e:(fun (m:Nat)=>xs[((i:Int) + (m:Int) * 1).toNat]?)=fun m=>xs[i + m]?:=by
  funext m;have:((i:Int) + (m:Int) * 1).toNat=i + m:=by omega
  rw [this]
 rw [e];have:=pick_run xs i k;rw [List.filterMap_map] at this;have aG:((fun x=>xs[x]?) ∘ fun x=>i + x)=fun m=>xs[i + m]?:=rfl
 rw [aG] at this;rw [this]
theorem al1 {t cf:Addr} {items:Array Value} {jU jW:Value} {lo ah:Option Int} {Q:Value->Shared->Prop} (cZ:IsTup s.heap t items) (aB:s.heap.IsSliceOf cf jU jW .none) (pl:IsPart jU lo) (pu:IsPart jW ah)
  (hw:¬ (dh items.size 0 lo=0/\dh items.size items.size ah=items.size))
  (h:Q (.ref s.heap.objs.size) { s with heap:=s.heap.push { cls:=.type "tuple",data:=.seq ((items.toList.drop (dh items.size 0 lo)).take (dh items.size items.size ah - dh items.size 0 lo)).toArray } })
  (hsz:items.size <= sizeLine):wpAny (model prog w) A (getItem (.ref t) (.ref cf)) Q E s:=by
 have A4:sizeOk (.seq ((items.toList.drop (dh items.size 0 lo)).take (dh items.size items.size ah - dh items.size 0 lo)).toArray):=by
  show ((items.toList.drop (dh items.size 0 lo)).take (dh items.size items.size ah - dh items.size 0 lo)).toArray.size <= sizeLine;rw [d8,gK,t8,A3];omega
 have aL:dh items.size items.size ah <= items.size:=acY _ _ (bR _) ah;obtain ⟨os,yV,Sw,Bl⟩:=id aB;have agJ:s.TypeIs (.ref cf) "slice" := ⟨os,yV,Sw⟩;unfold getItem
 try with_reducible refine wpAny_holding ?_
 first | refine wpAny_bind (wpAny_pure ?_) | skip
 refine wpAny_bind (wpAny_sequenceKey cZ.typeIs (by decide) ?_);refine wpAny_bind (wpAny_callSpecial?_slot (name:=ab "__getitem__") cZ.typeIs Wd
  (wpAny_call_entry Wd cZ.typeIs entry_tuple_getitem ?_ (args_tuple_getitem _ _)))
 show wpAny _ _ (aoz (.ref t) >>= _) _ _ s;refine wpAny_bind (tupleItemsOf_ cZ ?_);refine wpAny_bind (wpAny_typeOf agJ ?_);rw [if_pos (by decide)];refine wpAny_bind (ahm aB pl pu ?_);have ob:¬ ((((dh items.size 0 lo:Nat):Int) == 0 && (1:Int) == 1 && (dh items.size items.size ah - dh items.size 0 lo) == items.size)=true):=by
  intro q;rw [jF,jF] at q;have bO:((dh items.size 0 lo:Nat):Int)=0:=eq_of_beq q.1.1;have dC:dh items.size items.size ah - dh items.size 0 lo=items.size:=eq_of_beq q.2;exact hw ⟨by omega,by omega⟩
 show wpAny _ _ (if (((dh items.size 0 lo:Nat):Int) == 0 && (1:Int) == 1 && (dh items.size items.size ah - dh items.size 0 lo) == items.size)=true then _ else _) _ _ s;rw [if_neg ob,am9]
 first
  | exact wpAny_bind (m:=L0 _) (wpAny_newObj_type (wpAny_pure ⟨_,rfl,wpAny_pure h⟩) A4)
  | exact wpAny_bind (m:=L0 _) (wpAny_newObj_type (wpAny_bind (wpAny_pure (wpAny_pure ⟨_,rfl,wpAny_pure h⟩))) A4)
  | exact wpAny_bind (wpAny_bind (m:=L0 _) (wpAny_newObj_type (wpAny_pure (wpAny_pure ⟨_,rfl,wpAny_pure h⟩)) A4))
  | exact wpAny_bind (wpAny_bind (m:=L0 _) (wpAny_newObj_type (wpAny_pure ⟨_,rfl,wpAny_pure h⟩) A4))
end
end gn
namespace L2
open PySem PySem.Spec PyProof.Rows
noncomputable abbrev wR:=St->au->(Option Int->au->Prop)->Prop
def Cb (X:a8) (e:Option Expr) (t:wR):Prop:=
 ∀ (ae:List (Addr × Obj)) (s:Shared) (σ:St) (H:au) (Q:Option Int->au->Prop),Inv X ae σ H s->t σ H Q ->
  wpAny (model X.prog X.w) X.A (evalPart e X.env) (fun u aj=>∃ o I,Inv X ae σ I aj/\IsPart u o/\Q o I) X.dI s
noncomputable def JM:wR:=fun _ H Q=>Q none H
noncomputable def JD (t:TE):wR:=fun σ H Q=>t σ H fun x H1=>gA x fun i=>Q (some i) H1
section
variable {X:a8} {e:Expr} {bV:TE} {lo ah:Option Expr} {dq xD:wR} {pos d3:Pos}
theorem sS:Cb X none JM:=by
 intro ae s σ H Q J h;rw [evalPart_none];exact wpAny_pure ⟨none,H,J,.none,h⟩
theorem sD (h:bw X e bV):Cb X (some e) (JD bV):=by
 intro ae s σ H Q J hw;rw [evalPart_some];refine bF (h ae s σ H _ J hw) fun u s1 b4=>d1 b4 fun x H1 aU bC bO=>?_
 obtain ⟨i,rfl,q⟩:=gA.out bO;obtain ⟨t,rfl⟩:=bC;exact ⟨some i,H1,aU,.int i t,q⟩
def Cx (X:a8) (r:V->Option Int->Option Int->au->cN->Prop):Prop:=
 ∀ (ae:List (Addr × Obj)) (s:Shared) (σ:St) (H:au) (x:V) (v jU jW:Value) (lo ah:Option Int) (cf:Addr) (Q:cN),Inv X ae σ H s->bK x v->s.heap.IsSliceOf cf jU jW .none->IsPart jU lo->IsPart jW ah->r x lo ah H Q ->
  ∃ T id,typeLookup (.type T) "__getitem__"=pure (some (.builtin id))/\s.TypeIs v T/\wpAny (model X.prog X.w) X.A (getItem v (.ref cf)) (gL X ae σ Q) X.dI s
noncomputable def Mo (r:V->Option Int->Option Int->au->cN->Prop) (bV:TE) (dq xD:wR):TE:=fun σ H Q=>bV σ H fun x H1=>dq σ H1 fun l av=>xD σ av fun u bk=>r x l u bk Q
theorem s7 (ao:Cx X r) (he:bw X e bV) (aK:Cb X lo dq) (bt:Cb X ah xD):bw X (.Subscript e (.Slice lo ah none d3) pos) (Mo r bV dq xD):=by
 intro ae s σ H Q J h;refine Subscript_ (bF (he ae s σ H _ J h) fun v s1 b4=>d1 b4 fun x H1 aU bC bO=>?_);refine wpAny_Slice (bF (aK ae s1 σ H1 _ aU bO) fun jU s2 ⟨l,av,bN,pl,dC⟩=>bF (bt ae s2 σ av _ bN dC) fun jW s3 cS=>?_);obtain ⟨u,bk,eI,pu,hn⟩:=cS;rw [evalPart_none];refine wpAny_pure ?_;have hU:Inv X ae σ bk { s3 with heap:=s3.heap.push { cls:=.type "slice",data:=.fields #[jU,jW,.none] } }:=eI.kept (t':=s3.toks) fun b bI q=>eP _ q
 obtain ⟨T,id,hG,cZ,bj⟩:=ao ae { s3 with heap:=s3.heap.push { cls:=.type "slice",data:=.fields #[jU,jW,.none] } } σ bk x v jU jW l u s3.heap.objs.size Q hU bC (apb ..) pl pu hn;show wpAny (model X.prog X.w) X.A (subscriptTail e (.Slice lo ah none d3) v (.ref s3.heap.objs.size)) (gL X ae σ Q) X.dI { s3 with heap:=s3.heap.push { cls:=.type "slice",data:=.fields #[jU,jW,.none] } };exact tail_any (ops:=[.ref s3.heap.objs.size,v]) cZ hG bj (by with_unfolding_all rfl)
noncomputable def m2 (xs:List V) (lo ah:Option Int):List V:=(xs.drop (gn.dh xs.length 0 lo)).take (gn.dh xs.length xs.length ah - gn.dh xs.length 0 lo)
theorem UY (xs:List V) (lo ah:Option Int):(m2 xs lo ah).length <= xs.length:=by
 unfold m2;rw [gK,t8];omega
noncomputable def QV (K:ba):V->Option Int->Option Int->au->cN->Prop:=fun x lo ah H Q=>∃ a xs,x=.ref a/\de K H a xs /\
 ¬ (gn.dh xs.length 0 lo=0/\gn.dh xs.length xs.length ah=xs.length)/\∀ p,H p=none->Q (.ref p) (upd H p (.tup (m2 xs lo ah)))
theorem aa6:Cx X (QV X.K):=by
 intro ae s σ H x v jU jW lo ah cf Q J a_ aB pl pu h;obtain ⟨a,xs,rfl,ag,hw,q⟩:=h;cases a_;obtain ⟨a4,r,cZ,aW⟩:=J.tuple ag;have hlen:a4.toArray.size=xs.length:=by rw [d8];exact r.length.symm
 refine ⟨"tuple",_,Wd.lookup,cZ.typeIs,?_⟩;refine gn.al1 cZ aB pl pu (by rw [hlen];exact hw) ?_ (by rw [hlen];exact aW);rw [hlen];refine ⟨.ref s.heap.objs.size,_,J.laid (t':=s.toks) (o:=.tup (m2 xs lo ah)) (fun b bI q=>eP _ q) (bR _) ?_,rfl,q _ (J.bh.fresh (bR _))⟩;exact ⟨c7 (UY xs lo ah) aW,_,(r.drop (gn.dh xs.length 0 lo)).take (gn.dh xs.length xs.length ah - gn.dh xs.length 0 lo),IsTup.new _ _⟩
end
noncomputable def qU (n:Nat) (i:Int):Option Nat:=if 0 <= i then (if i < n then some i.toNat else none) else if -(n:Int) <= i then some (i + n).toNat else none
noncomputable def hq {α:Type} (xs:List α) (i:Int):Option α:=(qU xs.length i).bind fun j=>xs[j]?
theorem TQ (h:qU n i=some j):seqIndex? i n=some j/\j < n/\-(n:Int) <= i/\i < n:=by
 unfold qU at h;by_cases h0:0 <= i
 .rw [if_pos h0] at h;by_cases af:i < n
  .rw [if_pos af] at h;have e:i.toNat=j:=dX h;exact ⟨by rw [seqIndex_of h0 af,e],by omega,by omega,af⟩
  .rw [if_neg af] at h;cases h
 .rw [if_neg h0] at h;by_cases af:-(n:Int) <= i
  .rw [if_pos af] at h;have e:(i + n).toNat=j:=dX h;exact ⟨by rw [seqIndex_neg (by omega) af,e],by omega,af,by omega⟩
  .rw [if_neg af] at h;cases h
theorem Mt (h:hq xs i=some v):∃ j,seqIndex? i xs.length=some j/\xs[j]? = some v/\j < xs.length/\-(xs.length:Int) <= i/\i < xs.length:=by
 unfold hq at h;cases e:qU xs.length i with
 | none=>rw [e] at h;cases h
 | some j=>
  rw [e] at h;obtain ⟨af,ak,bc,c4⟩:=TQ e;exact ⟨j,af,h,ak,bc,c4⟩
theorem cy {α:Type} {xs:List α} {j:Nat} {v:α} (h:xs[j]? = some v):hq xs (j:Int)=some v:=by
 have aL:j < xs.length:=(cb.mp h).1;have e:qU xs.length (j:Int)=some j:=by
  unfold qU;rw [if_pos (by omega),if_pos (by omega)];simp
 unfold hq;rw [e];exact h
def UX (b:Expr):Prop:=∀ o i,subscripted b false o i=operate [o,i] (getItem o i)
def x8 (X:a8) (r:e'):Prop:=
 ∀ (value slice:Expr) (ae:List (Addr × Obj)) (s:Shared) (σ:St) (H:au) (x y:V) (v u:Value) (Q:cN),Inv X ae σ H s->bK x v->bK y u->r x y H Q ->
  subscripted slice false v u=operate [v,u] (getItem v u)->wpAny (model X.prog X.w) X.A (subscriptTail value slice v u) (gL X ae σ Q) X.dI s
def uI (X:a8) (id:String) (r:V->List V->au->cN->Prop):Prop:=
 ∀ (ae:List (Addr × Obj)) (s:Shared) (σ:St) (H:au) (x:V) (xs:List V) (v:Value) (us:List Value) (Q:cN),Inv X ae σ H s->bK x v->b1 xs us->r x xs H Q ->
  wpAny (model X.prog X.w) X.A (call (.builtin id) (v :: us)) (gL X ae σ Q) X.dI s
section
variable {X:a8} {a b:Expr} {a' bT:TE} {pos:Pos}
theorem agZ (ao:x8 X r) (aZ:bw X a a') (aa:bw X b bT) (aB:UX b):bw X (.Subscript a b pos) (so r a' bT):=by
 intro ae s σ H Q J h;exact Subscript_ (L5 aZ aa J h fun v u s2 x y av bN a_ bq q=>ao a b ae s2 σ av x y v u Q bN a_ bq q (aB _ _))
noncomputable def JY (K:ba):e':=fun x y H Q=>fl x fun p=>∃ xs,gA y fun i=>aF K H p xs/\∃ v,hq xs i=some v/\Q v H
noncomputable def Ld (K:ba):e':=fun x y H Q=>fl x fun p=>∃ xs,gA y fun i=>de K H p xs/\∃ v,hq xs i=some v/\Q v H
noncomputable def GN:e':=fun x y H Q=>∃ z i c,x=.str z/\y=.int i/\z.length <= sizeLine/\hq z.cps.toList i=some c/\Q (.str ⟨#[c]⟩) H
theorem ed:x8 X (JY X.K):=by
 intro value slice ae s σ H x y v u Q J a_ bq h aB;obtain ⟨p,rfl,xs,iB⟩:=fl.out h;obtain ⟨i,rfl,aD,z,he,q⟩:=gA.out iB;cases a_;obtain ⟨t,rfl⟩:=bq;obtain ⟨a4,r,pl,aW⟩:=J.list aD;obtain ⟨j,af,ak,bc,c4,e3⟩:=Mt he;obtain ⟨w,pj,hb⟩:=r.get ak;have aK:=r.length;have a3:=r';have fin:gL X ae σ Q w s:=⟨z,H,J,hb,q⟩;by_cases h0:0 <= i
 .have aL:i.toNat=j:=by
   rw [seqIndex_of h0 e3] at af;exact dX af
  exact item_listR pl.isList h0 (by omega) (by rw [aL];simpa using pj) fin aB
 .have aL:(i + (a4.toArray.size:Int)).toNat=j:=by
   rw [seqIndex_neg (by omega) c4] at af;rw [d8,<- aK];exact dX af
  exact subscriptTail_builtinR (x:=w) pl.isList.typeIs slot_list_getitem.lookup
   (wpAny_getItem_list_neg (Q:=fun r aj=>r=w/\gL X ae σ Q r aj) pl.isList (by omega) (by rw [d8] <;> omega) (by omega) (by rw [aL];simpa using pj) ⟨rfl,fin⟩) aB
theorem re:x8 X (Ld X.K):=by
 intro value slice ae s σ H x y v u Q J a_ bq h aB;obtain ⟨p,rfl,xs,iB⟩:=fl.out h;obtain ⟨i,rfl,aD,z,he,q⟩:=gA.out iB;cases a_;obtain ⟨t,rfl⟩:=bq;obtain ⟨a4,r,pl,aW⟩:=J.tuple aD;obtain ⟨j,af,ak,bc,c4,e3⟩:=Mt he;obtain ⟨w,pj,hb⟩:=r.get ak;have aK:=r.length;have a3:=r';have fin:gL X ae σ Q w s:=⟨z,H,J,hb,q⟩;exact subscriptTail_builtinR (x:=w) pl.typeIs slot_tuple_getitem.lookup
  (getItem_tuple (j:=j) (Q:=fun r aj=>r=w/\gL X ae σ Q r aj) pl (by omega) (by omega) (by rw [d8,<- aK];exact af) (by simpa using pj) ⟨rfl,fin⟩) aB
theorem HY:x8 X GN:=by
 intro value slice ae s σ H x y v u Q J a_ bq h aB;obtain ⟨z,i,c,rfl,rfl,aW,he,q⟩:=h;obtain ⟨t,rfl⟩:=a_;obtain ⟨t',rfl⟩:=bq;obtain ⟨j,af,ak,bc,c4,e3⟩:=Mt he;have aK:z.cps.toList.length=z.length:=by simp [uC]
 rw [aK] at af c4 e3;have a3:=r';exact tail_any (typeIs_str s z t) slot_str_getitem.lookup (getItem_str (c:=c) (by
  have aw:decide (i < -(2 ^ 63:Int))=false:=decide_eq_false (by omega);have aG:decide (i ≥ 2 ^ 63)=false:=decide_eq_false (by omega);rw [aw,aG,Pb]) (by rw [af];simpa using ak) ⟨.str ⟨#[c]⟩,H,J.tok _,⟨_,rfl⟩,q⟩) aB
theorem agz (a4:List Value) (n j:Nat) (u:Value):qJ (·.setIfInBounds j u) { cls:=.type "list",data:=.seq a4.toArray n } = { cls:=.type "list",data:=.seq (a4.set j u).toArray n }:=by
 simp [qJ]
theorem Inv.lst {p:Addr} (J:Inv X ae σ H s) (h:H p=some (.lst xs)) :
  ∃ (a4:List Value) (n:Nat),b1 xs a4/\s.heap.get? p=some { cls:=.type "list",data:=.seq a4.toArray n }/\xs.length <= sizeLine:=by
 obtain ⟨z,a4,n,r,e⟩:=J.bh p _ h;exact ⟨a4,n,r,e,z⟩
theorem Inv.amZ {p:Addr} {a4 its':List Value} (J:Inv X ae σ H s) (h:H p=some (.lst xs))
  (aS:s.heap.get? p=some { cls:=.type "list",data:=.seq a4.toArray n }) (hf:f { cls:=.type "list",data:=.seq a4.toArray n } = { cls:=.type "list",data:=.seq its'.toArray g9 }) (r:b1 ys its') (aW:ys.length <= sizeLine) (t:Nat) :
  Inv X ae σ (upd H p (.lst ys)) { s with heap:=s.heap.update p f,toks:=t }:=by
 have e:(s.heap.update p f).get? p=some { cls:=.type "list",data:=.seq its'.toArray g9 }:=by
  rw [abz f aS (by rw [hf] <;> rfl),hf]
 refine J.write (x:=p) (e:=p) (by rw [h];trivial) (.inl rfl) (fun b u aa q=>(vA _ _ (cX aa)).trans q) ⟨_,e⟩ ?_;exact ⟨aW,its',g9,r,e⟩
noncomputable def HH:V->V->V->au->(au->Prop)->Prop:=fun o i v H Q=>fl o fun p=>∃ xs,gA i fun k=>H p=some (.lst xs)/\∃ j,qU xs.length k=some j/\Q (upd H p (.lst (xs.set j v)))
theorem ahw:M0 X HH:=by
 intro ae s σ H o i v dN gN u Q J agX Df cL h;obtain ⟨p,rfl,xs,iB⟩:=fl.out h;obtain ⟨k,rfl,aq,j,aL,q⟩:=gA.out iB;cases agX;obtain ⟨t,rfl⟩:=Df;obtain ⟨a4,n,r,aS,aW⟩:=J.lst aq;obtain ⟨af,ak,bc,c4⟩:=TQ aL;have aK:=r.length;have a3:=r';have gz:Inv X ae σ (upd H p (.lst (xs.set j v))) { s with heap:=s.heap.update p (qJ (·.setIfInBounds j u)) }:=
  J.amZ aq aS (agz a4 n j u) (r.set cL j) (by rw [OW];exact aW) s.toks
 by_cases h0:0 <= k
 .have aC:k.toNat=j:=by
   rw [seqIndex_of h0 c4] at af;exact dX af
  exact PySem.W.ki_setAt aS h0 (by omega) (by rw [d8,<- aK];exact c4) (by rw [aC];exact ⟨_,gz,q⟩)
 .have aC:(k + (a4.toArray.size:Int)).toNat=j:=by
   rw [seqIndex_neg (by omega) bc] at af;rw [d8,<- aK];exact dX af
  exact PySem.W.ki_setBack aS (by omega) (by rw [d8,<- aK];exact bc) (by omega) (by rw [aC];exact ⟨_,gz,q⟩)
theorem akE (lo ah:Option Int) (n:Nat):(sliceBounds lo ah none n).1=((gn.dh n 0 lo:Nat):Int)/\(sliceBounds lo ah none n).2.1=((gn.dh n n ah:Nat):Int)/\(sliceBounds lo ah none n).2.2=1:=by
 refine ⟨?_,?_,rfl⟩
 .cases lo with
  | none=>simp [sliceBounds,gn.dh]
  | some i=>
   simp only [sliceBounds,gn.dh,adz,show (1:Int) > 0 by decide,if_true];by_cases h:i < 0
   .simp only [h,if_true] <;> omega
   .simp only [h,if_false] <;> omega
 .cases ah with
  | none=>simp [sliceBounds,gn.dh]
  | some i=>
   simp only [sliceBounds,gn.dh,adz,show (1:Int) > 0 by decide,if_true];by_cases h:i < 0
   .simp only [h,if_true] <;> omega
   .simp only [h,if_false] <;> omega
theorem adU (a4:List Value) (lo ah:Option Int):slicePick a4.toArray lo ah none=((a4.drop (gn.dh a4.length 0 lo)).take (gn.dh a4.length a4.length ah - gn.dh a4.length 0 lo)).toArray:=by
 obtain ⟨af,ak,bc⟩:=akE lo ah a4.toArray.size;unfold slicePick;rw [af,ak,bc];simp only [sliceRange_one,pick_run,d8] <;> rfl
noncomputable def LI (K:ba):V->Option Int->Option Int->au->cN->Prop:=fun x lo ah H Q=>∃ a xs,x=.ref a/\aF K H a xs/\∀ p,H p=none->Q (.ref p) (upd H p (.lst (m2 xs lo ah)))
theorem SJ:Cx X (LI X.K):=by
 intro ae s σ H x v jU jW lo ah cf Q J a_ aB pl pu h;obtain ⟨a,xs,rfl,ag,q⟩:=h;cases a_;obtain ⟨a4,r,cZ,aW⟩:=J.list ag;have hlen:=r.length;refine ⟨"list",_,slot_list_getitem.lookup,cZ.isList.typeIs,?_⟩;refine wpAny_getItem_list_slice cZ.isList aB pl pu .none (by simp) ?_ (by rw [d8] <;> omega);rw [adU,<- hlen];refine ⟨.ref s.heap.objs.size,_,J.laid (t':=s.toks) (o:=.lst (m2 xs lo ah)) (fun b bI q=>eP _ q) (bR _) ?_,rfl,q _ (J.bh.fresh (bR _))⟩;exact ⟨c7 (UY xs lo ah) aW,_,0,(r.drop (gn.dh xs.length 0 lo)).take (gn.dh xs.length xs.length ah - gn.dh xs.length 0 lo),hp _ rfl⟩
noncomputable def lH:V->Bool
 | .b'=>true
 | .bB _=>true
 | .int _=>true
 | .str _=>true
 | _=>false
noncomputable def kv:V->V->Bool
 | .b',.b'=>true
 | .bB a,.bB b=>a == b
 | .bB a,.int b=>(if a then 1 else 0) == b
 | .int a,.bB b=>a == (if b then 1 else 0)
 | .int a,.int b=>a == b
 | .str a,.str b=>a == b
 | _,_=>false
theorem OK {A:Around} {y x:V} (bq:bK y u) (a_:bK x v) (af7:lH y=true) (lT:lH x=true):Kb A s u v (kv y x):=by
 cases y with
 | b'=>
  cases bq;cases x with
  | b'=>cases a_;exact TP _
  | bB b=>cases a_;exact SeqAt.EqAt.none_bool b
  | int b=>obtain ⟨t,rfl⟩:=a_;exact SeqAt.EqAt.none_int b t
  | str b=>obtain ⟨t,rfl⟩:=a_;exact SeqAt.EqAt.none_str b t
  | _=>exact absurd (show false=true from lT) fY
 | bB a=>
  cases bq;cases x with
  | b'=>cases a_;exact SeqAt.EqAt.bool_none a
  | bB b=>cases a_;exact SeqAt.EqAt.bool_bool a b
  | int b=>obtain ⟨t,rfl⟩:=a_;exact SeqAt.EqAt.bool_int a b t
  | str b=>obtain ⟨t,rfl⟩:=a_;exact SeqAt.EqAt.bool_str a b t
  | _=>exact absurd (show false=true from lT) fY
 | int a=>
  obtain ⟨t',rfl⟩:=bq;cases x with
  | b'=>cases a_;exact SeqAt.EqAt.int_none a t'
  | bB b=>cases a_;exact SeqAt.EqAt.int_bool a t' b
  | int b=>obtain ⟨t,rfl⟩:=a_;exact SeqAt.EqAt.int_int a t' b t
  | str b=>obtain ⟨t,rfl⟩:=a_;exact afN a t' b t
  | _=>exact absurd (show false=true from lT) fY
 | str a=>
  obtain ⟨t',rfl⟩:=bq;cases x with
  | b'=>cases a_;exact SeqAt.EqAt.str_none a t'
  | bB b=>cases a_;exact SeqAt.EqAt.str_bool a t' b
  | int b=>obtain ⟨t,rfl⟩:=a_;exact aaW a t' b t
  | str b=>obtain ⟨t,rfl⟩:=a_;exact SeqAt.EqAt.str_str a t' b t
  | _=>exact absurd (show false=true from lT) fY
 | _=>exact absurd (show false=true from af7) fY
noncomputable def kq (x:V) (u:Value):Bool:=match u with
 | .none=>kv .b' x
 | .bool b=>kv (.bB b) x
 | .int i _=>kv (.int i) x
 | .str z _=>kv (.str z) x
 | _=>false
theorem Ru {x y:V} (r:bK y u) (f:lH y=true):kq x u=kv y x:=by
 cases y with
 | b'=>cases r;rfl
 | bB b=>cases r;rfl
 | int i=>obtain ⟨t,rfl⟩:=r;rfl
 | str z=>obtain ⟨t,rfl⟩:=r;rfl
 | _=>exact absurd (show false=true from f) fY
theorem y7 {x:V}:∀ {xs:List V} {us:List Value},b1 xs us->xs.all lH=true->us.any (kq x)=xs.any fun y=>kv y x
 | _,_,.nil,_=>rfl
 | y :: xs,u :: us,.cons r t,f=>by
  rw [aeP,jF] at f;rw [zl,zl,Ru r f.1,y7 t f.2]
theorem yp {A:Around} {x:V} (a_:bK x v) (lT:lH x=true):∀ {xs:List V} {us:List Value},b1 xs us->xs.all lH=true->∀ u ∈ us,Kb A s u v (kq x u)
 | _,_,.nil,_=>fun u bt=>by cases bt
 | y :: xs,u :: us,.cons r t,f=>fun tv bt=>by
  rw [aeP,jF] at f;rcases eZ.mp bt with rfl | bt
  .rw [Ru r f.1];exact OK r a_ f.1 lT
  .exact yp a_ lT t f.2 tv bt
noncomputable def t7 (x:V) (xs:List V):Bool:=xs.any fun y=>kv y x
noncomputable def zD (K:ba) (neg:Bool):e':=fun x y H Q=>∃ p xs,y=.ref p/\(aF K H p xs\/de K H p xs)/\lH x=true/\xs.all lH=true/\Q (.bB (if neg then !t7 x xs else t7 x xs)) H
theorem HE:hH X (compareOp .In) (zD X.K false):=by
 intro ae s σ H x y v u Q J a_ bq h;obtain ⟨p,xs,rfl,aD,lT,aR,q⟩:=h;cases bq;rcases aD with aD | aD
 .obtain ⟨a4,r,pl,aW⟩:=J.list aD;refine SeqAt.in_listAt (kq x) pl.isList (fun w hw=>yp a_ lT r aR w (by simpa using hw)) ⟨.bB _,H,J,rfl,?_⟩;rw [show a4.toArray.any (kq x)=a4.any (kq x) by simp,y7 r aR];exact q
 .obtain ⟨a4,r,pl,aW⟩:=J.tuple aD;refine SeqAt.in_tupleAt (kq x) pl (fun w hw=>yp a_ lT r aR w (by simpa using hw)) ⟨.bB _,H,J,rfl,?_⟩;rw [show a4.toArray.any (kq x)=a4.any (kq x) by simp,y7 r aR];exact q
theorem F7:hH X (compareOp .NotIn) (zD X.K true):=by
 intro ae s σ H x y v u Q J a_ bq h;obtain ⟨p,xs,rfl,aD,lT,aR,q⟩:=h;cases bq;rcases aD with aD | aD
 .obtain ⟨a4,r,pl,aW⟩:=J.list aD;refine SeqAt.notIn_listAt (kq x) pl.isList (fun w hw=>yp a_ lT r aR w (by simpa using hw)) ⟨.bB _,H,J,rfl,?_⟩;rw [show a4.toArray.any (kq x)=a4.any (kq x) by simp,y7 r aR];exact q
 .obtain ⟨a4,r,pl,aW⟩:=J.tuple aD;refine SeqAt.notIn_tupleAt (kq x) pl (fun w hw=>yp a_ lT r aR w (by simpa using hw)) ⟨.bB _,H,J,rfl,?_⟩;rw [show a4.toArray.any (kq x)=a4.any (kq x) by simp,y7 r aR];exact q
theorem i9:ki X (.builtin "len") (fun xs H Q=>nf xs fun x=>fl x fun p=>∃ ys,(aF X.K H p ys\/de X.K H p ys)/\Q (.int ys.length) H):=by
 intro ae s σ H xs us Q J r h;obtain ⟨ajb,rfl,iB⟩:=nf.out h;obtain ⟨p,rfl,ys,aD,q⟩:=fl.out iB;obtain ⟨u,rfl,a_⟩:=kp r;cases a_;have a3:=r';rcases aD with aD | aD
 .obtain ⟨a4,dM,pl,aW⟩:=J.list aD;have hlen:=dM.length;exact Calls.call_len_list pl.isList (by simp only [d8] <;> omega) ⟨.int ys.length,H,J.tok _,⟨s.toks + 1,by rw [d8,hlen]⟩,q⟩
 .obtain ⟨a4,dM,pl,aW⟩:=J.tuple aD;have hlen:=dM.length;exact len_tuple pl (by simp only [d8] <;> omega) ⟨.int ys.length,H,J.tok _,⟨s.toks + 1,by rw [d8,hlen]⟩,q⟩
theorem KB:ki X (.builtin "len") (fun xs H Q=>∃ z,xs=[.str z]/\z.length <= sizeLine/\Q (.int z.length) H):=by
 intro ae s σ H xs us Q J r h;obtain ⟨z,rfl,aW,q⟩:=h;obtain ⟨u,rfl,t,rfl⟩:=kp r;have a3:=r';exact len_str (by omega) ⟨.int z.length,H,J.tok _,⟨_,rfl⟩,q⟩
def zM (K:ba) (T:String) (x:V) (H:au):Prop:=match x with
 | .str _=>T = "str"
 | .int _=>T = "int"
 | .ref p=>(T = "list" /\ ∃ xs,aF K H p xs)\/(T = "tuple" /\ ∃ o,K.lookup p=some o/\o.cls=.type "tuple" /\ o.dict=none) \/
   (T = "dict" /\ ((∃ kvs,H p=some (.a5 kvs))\/∃ kvs,H p=some (.gq kvs)))\/(T = "set" /\ ∃ S n,H p=some (.set S n))
 | _=>False
theorem Uv {x:V} (J:Inv X ae σ H s) (r:bK x v) (ty:zM X.K T x H) :
  s.TypeIs v T/\∀ a,v=.ref a->∃ bI,s.heap.get? a=some bI/\bI.dict=none:=by
 cases x with
 | str z=>
  obtain ⟨t,rfl⟩:=r;cases (show T = "str" from ty);exact ⟨typeIs_str s z t,fun _ e=>nomatch e⟩
 | int i=>
  obtain ⟨t,rfl⟩:=r;cases (show T = "int" from ty);exact ⟨typeIs_int s i t,fun _ e=>nomatch e⟩
 | ref p=>
  cases r;rcases ty with ⟨rfl,xs,aD⟩ | ⟨rfl,o,aC,ay,hd⟩ | ⟨rfl,aC⟩ | ⟨rfl,S,n,aC⟩
  .obtain ⟨a4,_,pl,_⟩:=J.list aD;refine ⟨pl.isList.typeIs,fun a e=>?_⟩;cases e;obtain ⟨o,n,e,c,hd,_⟩:=pl;exact ⟨o,e,hd⟩
  .refine ⟨⟨o,J.jb p o aC,ay⟩,fun a e=>?_⟩;cases e;exact ⟨o,J.jb _ o aC,hd⟩
  .have z:∃ o,s.heap.get? p=some o/\o.ExactDict:=by
    rcases aC with ⟨kvs,aC⟩ | ⟨kvs,aC⟩
    .obtain ⟨_,_,_,_,o,_,_,e,ex,_⟩:=J.bh p _ aC;exact ⟨o,e,ex⟩
    .obtain ⟨_,_,_,_,o,_,_,e,ex,_⟩:=J.bh p _ aC;exact ⟨o,e,ex⟩
   obtain ⟨o,e,ex⟩:=z;refine ⟨⟨o,e,ex.1⟩,fun a aG=>?_⟩;cases aG;exact ⟨o,e,ex.2.1⟩
  .obtain ⟨o,_,_,_,e,ex,_⟩:=J.bh p _ aC;refine ⟨⟨o,e,ex.1⟩,fun a aG=>?_⟩;cases aG;exact ⟨o,e,ex.2.1⟩
 | _=>exact jh ty
noncomputable def Hl (K:ba) (T:String) (r:V->List V->au->cN->Prop) (to:TE):TE:=fun σ H Q=>to σ H fun x H1=>zM K T x H1/\r x [] H1 Q
noncomputable def HI (K:ba) (T:String) (r:V->List V->au->cN->Prop) (to:TE) (t:f3):TE:=fun σ H Q=>to σ H fun x H1=>zM K T x H1/\t σ H1 fun xs av=>r x xs av Q
variable {o e:Expr} {a0:List Expr} {to:TE} {t:f3} {name:Str} {fu h7:Pos} {T id:String} {r:V->List V->au->cN->Prop}
theorem rH (el:PlainAttrs T) (slot:Slot T name id) (HN:typeOf (.builtin id)=pure (.type "method_descriptor")) (hm:uI X id r) (aS:bw X o to)
  (IA:attributeBase o name X.env (eval o X.env)=eval o X.env:=by rfl) (EY:(fu.endLine == h7.line)=true:=by rfl):bw X (.Call (.Attribute o name fu) [] [] h7) (Hl X.K T r to):=by
 intro ae s σ H Q J h;refine wpAny_Call_method0_late IA EY (bF (aS ae s σ H _ J h) fun v s1 cS=>?_);obtain ⟨x,H1,aU,bC,ty,bO⟩:=cS;obtain ⟨af,ak⟩:=Uv aU bC ty;exact ⟨T,id,el,slot,HN,af,ak,Si rfl (PySem.evalArgs_none (hm ae s1 σ H1 x [] v [] Q aU bC .nil bO))⟩
theorem gF (el:PlainAttrs T) (slot:Slot T name id) (HN:typeOf (.builtin id)=pure (.type "method_descriptor")) (hm:uI X id r) (aS:bw X o to) (aZ:jI X (e :: a0) t)
  (IA:attributeBase o name X.env (eval o X.env)=eval o X.env:=by rfl)
  (aen:((backTo h7 (starEach (e :: a0) X.env)).all (fun x=>!x.1) && (backToKw h7 (keywordEach [] X.env)).all (fun x=>x.1.isSome)
   && decide ((e :: a0).length + ([]:List Keyword).length + (if ([]:List Keyword).isEmpty then 0 else 1) < 30))=true:=by rfl)
  (EY:(fu.endLine == h7.line)=true:=by rfl) (aB:starEach (e :: a0) X.env=(false,eval e X.env) :: starEach a0 X.env:=by rfl) (hplain:(backTo h7 (starEach a0 X.env)).any (·.1)=false:=by rfl) :
  bw X (.Call (.Attribute o name fu) (e :: a0) [] h7) (HI X.K T r to t):=by
 intro ae s σ H Q J h;refine wpAny_Call_method_late IA aen EY rfl (bF (aS ae s σ H _ J h) fun v s1 cS=>?_);obtain ⟨x,H1,aU,bC,ty,bO⟩:=cS;obtain ⟨af,ak⟩:=Uv aU bC ty;refine ⟨T,id,el,slot,HN,af,ak,?_⟩;have jZ:=aZ h7 ae s1 σ H1 _ aU bO;rw [aB] at jZ ⊢;refine Si (by show (false || (backTo h7 (starEach a0 X.env)).any (·.1))=false;rw [hplain] <;> rfl) (acr ?_);exact bF jZ fun us s2 ⟨vs,av,bN,c0,dC⟩=>hm ae s2 σ av x vs v us Q bN bC c0 dC
end
def Cj (X:a8) (id:String) (r:V->List V->au->cN->Prop):Prop:=
 ∀ (ae:List (Addr × Obj)) (s:Shared) (σ:St) (H:au) (x:V) (xs:List V) (v:Value) (us:List Value) (Q:cN),Inv X ae σ H s->bK x v->b1 xs us->r x xs H Q ->
  wpAny (model X.prog X.w) X.A (call (.builtin id) (v :: us)) (gL X ae σ Q) X.dI s
theorem b1.one:∀ {x:V} {us:List Value},b1 [x] us->∃ u,us=[u]/\bK x u
 | _,_,.cons r .nil=>⟨_,rfl,r⟩
theorem b1.two:∀ {x y:V} {us:List Value},b1 [x,y] us->∃ u v,us=[u,v]/\bK x u/\bK y v
 | _,_,_,.cons r (.cons q .nil)=>⟨_,_,rfl,r,q⟩
theorem b1.zero:∀ {us:List Value},b1 [] us->us=[]
 | _,.nil=>rfl
theorem b1.eraseIdx:∀ {xs:List V} {us:List Value} (i:Nat),b1 xs us->b1 (xs.eraseIdx i) (us.eraseIdx i)
 | _,_,_,.nil=>.nil
 | _,_,0,.cons _ t=>t
 | _,_,i + 1,.cons r t=>.cons r (b1.eraseIdx i t)
theorem b1.reverse (h:b1 xs us):b1 xs.reverse us.reverse:=by
 induction h with
 | nil=>exact .nil
 | cons r t b7=>rw [afs,afs];exact b1.append b7 (.cons r .nil)
theorem U_:∀ (l:List α) (i:Nat),(l.eraseIdx i).length <= l.length
 | [],_=>bR _
 | _ :: _,0=>BN _
 | _ :: r,i + 1=>Ry (U_ r i)
section
variable {X:a8} {ae:List (Addr × Obj)} {σ:St} {H:au} {s:Shared} {l b:Addr} {xs ys zs:List V}
theorem Inv.EG {a4 its':List Value} (J:Inv X ae σ H s) (jT:H l=some (.lst xs))
  (e:s.heap.get? l=some { cls:=.type "list",data:=.seq a4.toArray n }) (hf:f a4.toArray=its'.toArray) (aJ:b1 ys its') (aW:ys.length <= sizeLine) :
  Inv X ae σ (upd H l (.lst ys)) { s with heap:=s.heap.update l (qJ f),toks:=t' }:=by
 have q:=PySem.IsL.update e f;rw [hf] at q;refine J.write (x:=l) (e:=l) (by rw [jT];exact trivial) (.inl rfl) (fun rb u aa bt=>(vA s.heap (qJ f) (cX aa)).trans bt) ⟨_,q⟩ ?_;exact ⟨aW,its',_,aJ,q⟩
theorem Inv.fresh (J:Inv X ae σ H s):H s.heap.objs.size=none:=J.bh.fresh (bR _)
theorem Inv.y0 (J:Inv X ae σ H s) (jT:H l=some (.lst xs)):xs.length <= sizeLine/\∃ (a4:List Value) (n:Nat),b1 xs a4/\xs.length=a4.length/\s.heap.get? l=some { cls:=.type "list",data:=.seq a4.toArray n }:=by
 obtain ⟨z,a4,n,r,e⟩:=J.bh l _ jT;exact ⟨z,a4,n,r,r.length,e⟩
theorem al9 (h:n <= sizeLine):PE n=false:=by
 unfold PE;exact decide_eq_false (by omega)
end
section
variable {X:a8}
noncomputable def Lz:V->List V->au->cN->Prop:=fun x vs H Q=>fl x fun l=>nf vs fun y=>∃ xs,H l=some (.lst xs)/\xs.length < sizeLine/\Q .b' (upd H l (.lst (xs ++ [y])))
theorem Re:Cj X "list.append" Lz:=by
 intro ae s σ H x vs v us Q J a_ cL h;obtain ⟨l,rfl,iB⟩:=fl.out h;obtain ⟨y,rfl,xs,jT,aW,q⟩:=nf.out iB;cases a_;obtain ⟨u,rfl,eG⟩:=cL.one;obtain ⟨z,a4,n,r,aK,e⟩:=J.y0 jT;refine call_meets mc ⟨_,e,rfl⟩ F.entry_list_append (F.args_list_append_2 _ _) (PySem.list_append l a4.toArray n u (by rw [d8];omega)) ⟨e,?_⟩;refine ⟨.b',_,J.EG (its':=a4 ++ [u]) jT e (by simp) (r.append (.cons eG .nil)) ?_,rfl,q⟩;rw [dS,tb];omega
noncomputable def LH:V->List V->au->cN->Prop:=fun x vs H Q=>∃ l b xs zs,x=.ref l/\vs=[.ref b]/\H l=some (.lst xs)/\H b=some (.lst zs)/\xs.length + zs.length <= sizeLine/\Q .b' (upd H l (.lst (xs ++ zs)))
theorem z5:Cj X "list.extend" LH:=by
 intro ae s σ H x vs v us Q J a_ cL h;obtain ⟨l,b,xs,zs,rfl,rfl,jT,iD,aW,q⟩:=h;cases a_;obtain ⟨u,rfl,eG⟩:=cL.one;cases eG;obtain ⟨z,a4,n,r,aK,e⟩:=J.y0 jT;obtain ⟨es,CI,ck,c0,Fo,aG⟩:=J.y0 iD;have hsz:a4.toArray.size + CI.toArray.size <= sizeLine:=by rw [d8,d8];omega
 have XE:¬ (!a4.toArray.isEmpty && PE (a4.toArray.size + CI.toArray.size))=true:=by
  rw [al9 hsz,aap];exact fY
 refine call_meets DW ⟨_,e,rfl⟩ F.entry_list_extend (F.args_list_extend_2 _ _)
  (AutoSeq1.list_extend_list_list_0 l a4.toArray n b CI.toArray ck XE (by rw [d8];omega) (by omega)) ⟨e,aG,?_⟩
 refine ⟨.b',_,J.EG (its':=a4 ++ CI) jT e (by simp) (r.append c0) ?_,rfl,q⟩;rw [dS];omega
noncomputable def Mm:V->List V->au->cN->Prop:=fun x vs H Q=>∃ l xs i k y,x=.ref l/\vs=[.int i]/\H l=some (.lst xs)/\-(2 ^ 63) <= i/\i < 2 ^ 63/\seqIndex? i xs.length=some k/\xs[k]? = some y/\Q y (upd H l (.lst (xs.eraseIdx k)))
theorem aa5:Cj X "list.pop" Mm:=by
 intro ae s σ H x vs v us Q J a_ cL h;obtain ⟨l,xs,i,k,y,rfl,rfl,jT,af,ak,aC,aY,q⟩:=h;cases a_;obtain ⟨u,rfl,eG⟩:=cL.one;obtain ⟨t,rfl⟩:=eG;obtain ⟨z,a4,n,r,aK,e⟩:=J.y0 jT;obtain ⟨w,hw,hb⟩:=r.get aY;refine call_meets Z5 ⟨_,e,rfl⟩ F.entry_list_pop (F.args_list_pop_2 _ _)
  (MeetsSeq.list_pop_at l a4.toArray n i t k w (fitsIndex_both af ak) (by rw [d8,<- aK];exact aC) (by rw [<- Hg];exact hw) (by rw [d8];omega)) ⟨e,?_⟩
 refine ⟨y,_,J.EG (its':=a4.eraseIdx k) jT e ?_ (r.eraseIdx k) ?_,hb,q⟩
 .show a4.toArray.eraseIdxIfInBounds k=(a4.eraseIdx k).toArray;rw [List.eraseIdxIfInBounds_toArray]
 .have:=U_ xs k;omega
end
section
variable {prog:Program} {w:World} {A:Around} {E:Value->Shared->Prop} {s:Shared}
end
section
variable {X:a8}
end
section
variable {eC:Type} [DecidableEq eC]
noncomputable def c1 (kvs:List (eC × V)) (k:eC):Option V:=(kvs.find? fun c_=>decide (c_.1=k)).map (·.2)
noncomputable def ci (kvs:List (eC × V)) (k:eC) (v:V):List (eC × V):=
 if (kvs.any fun c_=>decide (c_.1=k))=true then kvs.map (fun c_=>if c_.1=k then (c_.1,v) else c_) else kvs ++ [(k,v)]
noncomputable def q3 (kvs:List (eC × V)) (k:eC):List (eC × V):=kvs.filter fun c_=>decide (c_.1 ≠ k)
theorem oe {p:eC × V} {k:eC} (e:p.1=k):c1 (p :: r) k=some p.2:=by simp [c1,o_,e]
theorem n9 {p:eC × V} {k:eC} (e:¬ p.1=k):c1 (p :: r) k=c1 r k:=by simp [c1,o_,e]
theorem xt (k:eC):∀ kvs:List (eC × V),(kvs.any fun c_=>decide (c_.1=k))=(c1 kvs k).isSome
 | []=>rfl
 | p :: r=>by
  rw [zl];by_cases e:p.1=k
  .simp only [oe e,decide_eq_true e,tI,Option.isSome_some]
  .rw [n9 e,decide_eq_false e,lF];exact xt k r
theorem QP (k j:eC) (y:V):∀ kvs:List (eC × V),c1 (kvs.map fun c_=>if c_.1=k then (c_.1,y) else c_) j=(c1 kvs j).map fun x=>if j=k then y else x
 | []=>rfl
 | p :: r=>by
  have b7:=QP k j y r;rw [eu];by_cases h:p.1=k
  .rw [if_pos h];by_cases e:p.1=j
   .rw [oe (p:=(p.1,y)) e,oe e,Ep,if_pos (e.symm.trans h)]
   .rw [n9 (p:=(p.1,y)) e,n9 e,b7]
  .rw [if_neg h];by_cases e:p.1=j
   .rw [oe (p:=p) e,oe e,Ep,if_neg (fun z=>h (e.trans z))]
   .rw [n9 (p:=p) e,n9 e,b7]
theorem OA (k j:eC) (y:V):∀ kvs:List (eC × V),c1 kvs k=none->c1 (kvs ++ [(k,y)]) j=if j=k then some y else c1 kvs j
 | [],_=>by
  by_cases e:k=j
  .rw [if_pos e.symm];exact oe (p:=(k,y)) e
  .rw [if_neg (fun z=>e z.symm)];exact n9 (p:=(k,y)) e
 | p :: r,a3=>by
  rw [xn];have aC:¬ p.1=k:=fun z=>by rw [oe z] at a3;cases a3
  rw [n9 aC] at a3;have b7:=OA k j y r a3;by_cases e:p.1=j
  .rw [oe e,oe e,if_neg (fun z=>aC (e.trans z))]
  .rw [n9 e,n9 e,b7]
theorem Ua (kvs:List (eC × V)) (k j:eC) (y:V):c1 (ci kvs k y) j=if j=k then some y else c1 kvs j:=by
 unfold ci;by_cases a:(kvs.any fun c_=>decide (c_.1=k))=true
 .rw [if_pos a,QP];rw [xt] at a;by_cases e:j=k
  .obtain ⟨x,ag⟩:=ajT.mp a;rw [if_pos e,e,ag,Ep,if_pos rfl]
  .rw [if_neg e];cases c1 kvs j with
   | none=>rfl
   | some x=>rw [Ep,if_neg e]
 .rw [if_neg a];refine OA k j y kvs ?_;rw [xt] at a;cases q:c1 kvs k with
  | none=>rfl
  | some x=>rw [q] at a;exact (a rfl).elim
theorem Lm (kvs:List (eC × V)) (k:eC) (v:V):(ci kvs k v).length <= kvs.length + 1:=by
 unfold ci;split
 .rw [aO];omega
 .rw [dS,hT,wz];omega
theorem Xu {k:eC} (v:V) (h:c1 kvs k=none):ci kvs k v=kvs ++ [(k,v)]:=by
 unfold ci;rw [xt,h];exact if_neg (by decide)
theorem h_.Ge (r:h_ o u):o.isSome=u.isSome:=by
 cases o with
 | none=>cases u with
  | none=>rfl
  | some _=>exact (show False from r).elim
 | some _=>cases u with
  | none=>exact (show False from r).elim
  | some _=>rfl
theorem h_.getD (r:h_ o u) (ia:bK d d'):bK (o.getD d) (u.getD d'):=by
 cases o with
 | none=>cases u with
  | none=>exact ia
  | some _=>exact (show False from r).elim
 | some _=>cases u with
  | none=>exact (show False from r).elim
  | some _=>exact r
theorem eE.val (r:eE kvs vs) (k:eC):h_ (c1 kvs k) (valueAt vs k):=by
 unfold eE at r
 induction r with
 | nil=>exact lr
 | @cons p q ps qs h t b7=>
  obtain ⟨af,ak⟩:=h;by_cases e:p.1=k
  .have bM:q.1=k:=af.symm.trans e;have b:valueAt (q :: qs) k=some q.2:=by simp [valueAt,o_,bM]
   rw [oe e,b];exact ak
  .have bM:¬ q.1=k:=fun z=>e (af.trans z)
   have b:valueAt (q :: qs) k=valueAt qs k:=by simp [valueAt,o_,bM]
   rw [n9 e,b];exact b7
theorem eE.any (r:eE kvs vs) (k:eC):(kvs.any fun c_=>decide (c_.1=k))=vs.any fun c_=>decide (c_.1=k):=by
 unfold eE at r
 induction r with
 | nil=>rfl
 | cons h t b7=>rw [zl,zl,b7,h.1]
theorem eE.FO (r:eE kvs vs) (k:eC) (bq:bK y u) :
  eE (kvs.map fun c_=>if c_.1=k then (c_.1,y) else c_) (vs.map fun c_=>if c_.1=k then (c_.1,u) else c_):=by
 unfold eE at r ⊢
 induction r with
 | nil=>exact .nil
 | @cons p q ps qs h t b7=>
  rw [eu,eu];refine .cons ?_ b7;obtain ⟨af,ak⟩:=h;by_cases e:p.1=k
  .rw [if_pos e,if_pos (af.symm.trans e)];exact ⟨af,bq⟩
  .rw [if_neg e,if_neg (fun z=>e (af.trans z))];exact ⟨af,ak⟩
theorem eE.put (r:eE kvs vs) (k:eC) (bq:bK y u):eE (ci kvs k y) (stored vs k u):=by
 unfold ci stored;rw [r.any k];by_cases e:(vs.any fun c_=>decide (c_.1=k))=true
 .rw [if_pos e,if_pos e];exact r.FO k bq
 .rw [if_neg e,if_neg e];exact Wi r ⟨rfl,bq⟩
theorem eE.drop (r:eE kvs vs) (k:eC):eE (q3 kvs k) (without vs k):=by
 unfold eE at r ⊢;unfold q3 without
 induction r with
 | nil=>exact .nil
 | @cons p q ps qs h t b7=>
  obtain ⟨af,ak⟩:=h;rw [YY,YY];by_cases e:p.1=k
  .have a:¬ decide (p.1 ≠ k)=true:=by simp [e]
   have b:¬ decide (q.1 ≠ k)=true:=by simp [af.symm.trans e]
   rw [if_neg a,if_neg b];exact b7
  .have bM:¬ q.1=k:=fun z=>e (af.trans z)
   have a:decide (p.1 ≠ k)=true:=by simp [e]
   have b:decide (q.1 ≠ k)=true:=by simp [bM]
   rw [if_pos a,if_pos b];exact .cons ⟨af,ak⟩ b7
theorem eE.keys {kvs:List (eC × V)} {vs:List (eC × Value)} (r:eE kvs vs):kvs.map (·.1)=vs.map (·.1):=by
 unfold eE at r
 induction r with
 | nil=>rfl
 | cons h t b7=>rw [eu,eu,b7,h.1]
theorem eE.length (r:eE kvs vs):kvs.length=vs.length:=Ii r
theorem ack (kvs:List (eC × V)) (k:eC):(q3 kvs k).length <= kvs.length:=um _ _
end
theorem s9 {w:World} {k:Key} (r:bK (c9 k) u):(gJ P w).is k u=true:=by
 cases k with
 | inl i=>obtain ⟨t,e⟩:=(show ∃ t,u=nz i t from r);subst e;exact ajA P w i t
 | inr x=>obtain ⟨t,e⟩:=(show ∃ t,u=y6 x t from r);subst e;exact aaf P w x t
theorem TX {w:World}:∀ {bW:List Key} {us:List Value},b1 (bW.map c9) us->ItemsAre (gJ P w) bW us
 | [],_,r=>by rw [q2] at r;cases r;exact .nil
 | k :: bW,_,r=>by
  rw [eu] at r;cases r with
  | cons h t=>exact .cons (s9 h) (TX t)
noncomputable abbrev KT (H:au):List (List Key × V)->List (List Key × Addr × Value)->Prop:=Paired fun p q=>p.1=q.1/\H q.2.1=some (.tup (p.1.map c9))/\bK p.2 q.2.2
theorem KT.val (r:KT H kvs xs) (k:List Key):h_ (c1 kvs k) ((atKey xs k).map (·.2)):=by
 induction r with
 | nil=>exact lr
 | @cons p q ps qs h t b7=>
  obtain ⟨af,_,ak⟩:=h;by_cases e:p.1=k
  .have bM:q.1=k:=af.symm.trans e;have b:atKey (q :: qs) k=some q.2:=by simp [atKey,o_,bM]
   rw [oe e,b];exact ak
  .have bM:¬ q.1=k:=fun z=>e (af.trans z)
   have b:atKey (q :: qs) k=atKey qs k:=by simp [atKey,o_,bM]
   rw [n9 e,b];exact b7
theorem KT.FO (r:KT H kvs xs) (k:List Key) (bq:bK y u) :
  KT H (kvs.map fun c_=>if c_.1=k then (c_.1,y) else c_) (xs.map (putAt k u)):=by
 induction r with
 | nil=>exact .nil
 | @cons p q ps qs h t b7=>
  rw [eu,eu];refine .cons ?_ b7;obtain ⟨af,ak,bc⟩:=h;unfold putAt;by_cases e:p.1=k
  .rw [if_pos e,if_pos (af.symm.trans e)];exact ⟨af,ak,bq⟩
  .rw [if_neg e,if_neg (fun z=>e (af.trans z))];exact ⟨af,ak,bc⟩
theorem KT.put (r:KT H kvs xs) (k:List Key) (aa:H b=some (.tup (k.map c9))) (bq:bK y u) :
  KT H (ci kvs k y) (storedH xs k b u):=by
 have e:(kvs.any fun c_=>decide (c_.1=k))=(atKey xs k).isSome:=by
  rw [xt,(r.val k).Ge,Yk]
 unfold ci storedH;rw [e];by_cases q:(atKey xs k).isSome=true
 .rw [if_pos q,if_pos q];exact r.FO k bq
 .rw [if_neg q,if_neg q];exact Wi r ⟨rfl,aa,bq⟩
theorem KT.keeps (r:KT H kvs xs) (cZ:∀ b ys,H b=some (.tup ys)->I b=some (.tup ys)):KT I kvs xs:=
 Paired.ri r fun _ _ z=>⟨z.1,cZ _ _ z.2.1,z.2.2⟩
section
variable {P:Program} {w:World} {H:au} {h:Heap} {a:Addr}
theorem Q8 (ok:ej P w H h) (e:jR H a u):d9 P w H h a u:=e.ok ok
theorem vN (ok:ej P w H h) (e:jR H a (.a5 kvs)):kvs.length <= sizeLine/\(a == sysModules)=false/\∃ vs,eE kvs vs/\h.DictOf (gJ P w) a vs:=
 show d9 P w H h a (.a5 kvs) from Q8 ok e
theorem pq (ok:ej P w H h) (e:H a=some (.a5 kvs)):kvs.length <= sizeLine/\(a == sysModules)=false/\∃ vs,eE kvs vs/\h.DictOf (gJ P w) a vs:=vN ok (.inl e)
theorem ZB {bW:List Key} (ok:ej P w H h) (e:H a=some (.tup (bW.map c9))):(tupleKind (gJ P w)).is h bW a:=by
 obtain ⟨_,a4,r,o,af,ak,n,bc⟩:=(show d9 P w H h a (.tup (bW.map c9)) from ok a _ e);exact ⟨o,a4.toArray,n,af,ak,bc,by simpa using TX r⟩
theorem yA (ok:ej P w H h) (e:jR H a (.gq kvs)):kvs.length <= sizeLine/\(a == sysModules)=false /\
  ∃ xs,KT H kvs xs/\h.DictOfH (tupleKind (gJ P w)) a xs:=by
 obtain ⟨z,y,xs,r,o,a0,ep,af,ak,bc,c4,e3⟩:=(show d9 P w H h a (.gq kvs) from Q8 ok e);refine ⟨z,y,xs,r,o,a0,ep,af,ak,bc,c4,fun x ag=>?_,e3⟩;have all:∀ {l:List (List Key × V)} {m:List (List Key × Addr × Value)},KT H l m->∀ x ∈ m,(tupleKind (gJ P w)).is h x.1 x.2.1:=by
  intro l m q
  induction q with
  | nil=>intro x ag;exact nomatch ag
  | @cons p q ps qs aD t b7=>
   intro x ag;rcases eZ.mp ag with e | ag
   .subst e;exact ZB ok (by rw [<- aD.1];exact aD.2.1)
   .exact b7 x ag
 exact all r x ag
theorem TV (ok:ej P w H h) (e:H a=some (.gq kvs)):kvs.length <= sizeLine/\(a == sysModules)=false /\
  ∃ xs,KT H kvs xs/\h.DictOfH (tupleKind (gJ P w)) a xs:=yA ok (.inl e)
end
def fm (H:au) (a:Addr) (y:V) (r:Option V):Prop:=
 (∃ kvs k,jR H a (.a5 kvs)/\y=c9 k/\r=c1 kvs k)\/∃ kvs k b,jR H a (.gq kvs)/\y=.ref b/\H b=some (.tup (k.map c9))/\r=c1 kvs k
def hC (H:au) (a:Addr) (y v:V) (I:au):Prop:=
 (∃ kvs k,H a=some (.a5 kvs)/\y=c9 k/\kvs.length < sizeLine/\I=upd H a (.a5 (ci kvs k v))) \/
 ∃ kvs k b,H a=some (.gq kvs)/\y=.ref b/\H b=some (.tup (k.map c9))/\kvs.length < sizeLine/\I=upd H a (.gq (ci kvs k v))
theorem fm.k {k:Key} (e:H a=some (.a5 kvs)):fm H a (c9 k) (c1 kvs k):=.inl ⟨kvs,k,.inl e,rfl,rfl⟩
theorem fm.t {k:List Key} (e:H a=some (.gq kvs)) (bz:H b=some (.tup (k.map c9))):fm H a (.ref b) (c1 kvs k):=.inr ⟨kvs,k,b,.inl e,rfl,bz,rfl⟩
theorem hC.k {k:Key} (e:H a=some (.a5 kvs)) (aK:kvs.length < sizeLine):hC H a (c9 k) v (upd H a (.a5 (ci kvs k v))):=.inl ⟨kvs,k,e,rfl,aK,rfl⟩
theorem hC.t {k:List Key} (e:H a=some (.gq kvs)) (bz:H b=some (.tup (k.map c9))) (aK:kvs.length < sizeLine) :
  hC H a (.ref b) v (upd H a (.gq (ci kvs k v))):=.inr ⟨kvs,k,b,e,rfl,bz,aK,rfl⟩
section
variable {X:a8} {ae:List (Addr × Obj)} {σ:St} {H:au} {s:Shared} {a:Addr} {y v:V} {u r:Value} {o:Option V} {A:Around} {E:Value->Shared->Prop}
theorem Inv.big (J:Inv X ae σ H s):sysModules < s.heap.objs.size:=by
 have h:mainGlobals < s.heap.objs.size:=(J.mod.glob.keeps J.cI).lt;exact Sr (by decide) h
theorem Q_ (bt:A.units + 1 < cLine) (J:Inv X ae σ H s) (g:fm H a y (some v)) (bq:bK y u) (h:∀ eH aj,Inv X ae σ H aj->bK v eH->Q eH aj) :
  wpAny (model X.prog X.w) A (getItem (.ref a) u) Q E s:=by
 rcases g with ⟨kvs,k,e,j0,l⟩ | ⟨kvs,k,b,e,j0,bz,l⟩
 .subst j0;obtain ⟨z,hd,vs,rel,cF⟩:=vN J.bh e;obtain ⟨eH,hw,hb⟩:=h_.some_of (v:=v) (o:=valueAt vs k) (by rw [l];exact rel.val k);exact wpAny_getItem_of (s9 bq) cF.mapOf hw (h eH _ (J.tok _) hb)
 .subst j0;cases (show u=fi b from bq);obtain ⟨z,hd,xs,rel,cF⟩:=yA J.bh e;obtain ⟨eH,hw,hb⟩:=h_.some_of (v:=v) (o:=(atKey xs k).map (·.2)) (by rw [l];exact rel.val k);obtain ⟨p,aq,hY⟩:=zS.mp hw;refine wpAny_getItem_heap (tupleKind_room_in1 bt) (ZB J.bh bz) cF aq ?_;rw [hY];exact h eH _ (J.tok _) hb
theorem aeo (bt:A.units + 1 < cLine) (J:Inv X ae σ H s) (g:fm H a y o) (bq:bK y u) (h:∀ aj,Inv X ae σ H aj->Q (.bool (!o.isSome)) aj) :
  wpAny (model X.prog X.w) A (compareOp .NotIn u (.ref a)) Q E s:=by
 rcases g with ⟨kvs,k,e,j0,l⟩ | ⟨kvs,k,b,e,j0,bz,l⟩
 .subst j0;obtain ⟨z,hd,vs,rel,cF⟩:=vN J.bh e;refine wpAny_notIn_of (s9 bq) hd cF.mapOf ?_;rw [<- (rel.val k).Ge,<- l];exact h _ (J.tok _)
 .subst j0;cases (show u=fi b from bq);obtain ⟨z,hd,xs,rel,cF⟩:=yA J.bh e;refine wpAny_notIn_heap (tupleKind_room_in1 bt) (ZB J.bh bz) hd cF ?_;have q:=(rel.val k).Ge;rw [Yk] at q;rw [<- q,<- l];exact h _ (J.tok _)
theorem CV (J:Inv X ae σ H s) (gI:pg (H a)) (aB:uH a s.heap h') (he:∃ q,h'.get? a=some q) (new:d9 X.prog X.w (upd H a bI) h' a bI) :
  Inv X ae σ (upd H a bI) { s with heap:=h',toks:=t' }:=
 J.write (x:=a) (e:=a) gI (.inl rfl) (fun b q aa z=>(aB.2 b aa).trans z) he new
theorem Ba {w:World} (z:kvs.length <= sizeLine) (hd:(a == sysModules)=false) (rel:eE kvs vs) (cF:h'.DictOf (gJ P w) a vs) :
  d9 P w I h' a (.a5 kvs):=⟨z,hd,vs,rel,cF⟩
theorem IJ (bt:A.units + 1 < cLine) (J:Inv X ae σ H s) (g:hC H a y v I) (bq:bK y u) (cL:bK v r) (h:∀ aj,Inv X ae σ I aj->Q () aj) :
  wpAny (model X.prog X.w) A (setItem (.ref a) u r) Q E s:=by
 rcases g with ⟨kvs,k,e,j0,l,wx⟩ | ⟨kvs,k,b,e,j0,bz,l,wx⟩
 .subst j0 wx;obtain ⟨z,hd,vs,rel,cF⟩:=pq J.bh e;have aW:vs.length <= sizeLine:=by rw [<- rel.length];exact z
  have aK:(ci kvs k v).length <= sizeLine:=by have:=Lm kvs k v;omega
  refine wpAny_setItem_pairs (hsz:=aW) (s9 bq) cF fun h' mZ aB=>h _ ?_
  have he:∃ q,h'.get? a=some q:=let ⟨q,_,_,aD,_⟩:=mZ;⟨q,aD⟩;exact CV J (by rw [e];exact lr) aB he (Ba aK hd (rel.put k cL) mZ)
 .subst j0 wx;cases (show u=fi b from bq);obtain ⟨z,hd,xs,rel,cF⟩:=TV J.bh e;have aW:xs.length <= sizeLine:=by rw [<- Ii rel];exact z
  have aK:(ci kvs k v).length <= sizeLine:=by have:=Lm kvs k v;omega
  refine wpAny_setItem_heap (hsz:=aW) (tupleKind_room_in1 bt) (ZB J.bh bz) cF fun h' mZ aB=>h _ ?_
  obtain ⟨q,a0,ep,aD,ak,bc,c4,_,e3⟩:=mZ;refine CV J (by rw [e];exact lr) aB ⟨q,aD⟩ ⟨aK,hd,_,(rel.put k bz cL).keeps fun c ys ks=>?_,q,a0,ep,aD,ak,bc,c4,e3⟩;rw [aA (br ks e (fun z=>nomatch z))];exact ks
end
section
variable {X:a8} {ae:List (Addr × Obj)} {σ:St} {H:au} {s:Shared} {a:Addr} {kvs:List (Key × V)} {k:Key} {u:Value} {A:Around} {E:Value->Shared->Prop}
theorem alN (J:Inv X ae σ H s) (e:H a=some (.a5 kvs)) (bq:bK (c9 k) u) (l:c1 kvs k=some v) (hm:more=[]\/∃ x,more=[x])
  (h:∀ eH aj,Inv X ae σ (upd H a (.a5 (q3 kvs k))) aj->bK v eH->Q eH aj):wpAny (model X.prog X.w) A (call (.builtin "dict.pop") (.ref a :: u :: more)) Q E s:=by
 obtain ⟨z,hd,vs,rel,cF⟩:=pq J.bh e;obtain ⟨eH,hw,hb⟩:=h_.some_of (v:=v) (o:=valueAt vs k) (by rw [<- l];exact rel.val k);have aq:(keyPart u).isSome=true:=by
  cases k with
  | inl i=>obtain ⟨t,q⟩:=(show ∃ t,u=nz i t from bq);subst q;rfl
  | inr x=>obtain ⟨t,q⟩:=(show ∃ t,u=y6 x t from bq);subst q;rfl
 have aZ:argsOk "dict.pop" ⟨.ref a :: u :: more,[]⟩:=by
  rcases hm with q | ⟨x,q⟩
  .subst q;exact PySem.F.args_dict_pop_2 _ _
  .subst q;exact YN _ _ _
 refine call_meetsIn Pz cF.typeIs abL aZ (meets_dict_pop_there (gJ X.prog X.w) a (s9 bq) more hm aq)
  ⟨vs,eH,cF,by rw [<- rel.length];exact z,hw,fun h' mZ aB=>h eH _ ?_ hb⟩
 have he:∃ q,h'.get? a=some q:=let ⟨q,_,_,aD,_⟩:=mZ;⟨q,aD⟩;exact CV J (by rw [e];exact lr) aB he (Ba (c7 (ack kvs k) z) hd (rel.drop k) mZ)
theorem abD (J:Inv X ae σ H s) (e:H a=some (.a5 kvs)) (bq:bK (c9 k) u) (l:c1 kvs k=none) (h:∀ aj,Inv X ae σ H aj->Q r aj) :
  wpAny (model X.prog X.w) A (call (.builtin "dict.pop") [.ref a,u,r]) Q E s:=by
 obtain ⟨z,hd,vs,rel,cF⟩:=pq J.bh e;have a3:valueAt vs k=none:=h_.none_of (by rw [<- l];exact rel.val k);have aq:(keyPart u).isSome=true:=by
  cases k with
  | inl i=>obtain ⟨t,q⟩:=(show ∃ t,u=nz i t from bq);subst q;rfl
  | inr x=>obtain ⟨t,q⟩:=(show ∃ t,u=y6 x t from bq);subst q;rfl
 exact call_meetsIn Pz cF.typeIs abL (YN _ _ _) (meets_dict_pop_default (gJ X.prog X.w) a (s9 bq) hd aq r) ⟨vs,cF,a3,h _ (J.tok _)⟩
end
def KR (i:Expr):Prop:=∀ dN gN,subscripted i false dN gN=operate [dN,gN] (getItem dN gN)
theorem UK {prog:Program} {w:World} {A:Around} {E:Value->Shared->Prop} {s:Shared} {env:Env} {value slice:Expr} {pos:Pos} {T id:String} {Q:Value->Shared->Prop}
  (aK:typeLookup (.type T) "__getitem__"=pure (some (.builtin id))) (aB:KR slice)
  (h:wpAny (model prog w) A (eval value env) (fun o dk=>wpAny (model prog w) A (eval slice env) (fun i d0=>d0.TypeIs o T/\wpAny (model prog w) A (getItem o i) Q E d0) E dk) E s) :
  wpAny (model prog w) A (eval (.Subscript value slice pos) env) Q E s:=by
 refine Subscript_ (wpAny_mono h (fun o dk h₁=>wpAny_mono h₁ (fun i d0 yC=>?_) fun _ _ x=>x) fun _ _ x=>x);obtain ⟨hG,yC⟩:=yC;unfold subscriptTail;refine wpAny_bind ?_;rw [getitemInPython_of_ne hG.not_modules];refine wpAny_bind (wpAny_specialOf hG aK ?_);have fin:wpAny (model prog w) A (subscripted slice false o i) (fun r k_=>wpAny (model prog w) A (letTemporaryGo value o r >>= fun _=>pure r) Q E k_) E d0:=by
  rw [aB o i];exact wpAny_operating (wpAny_mono yC (fun r k_ zW=>wpAny_bind (wpAny_letTemporaryGo (wpAny_pure zW))) fun _ _ x=>x)
 first
  | exact wpAny_pure (wpAny_bind fin)
  | exact wpAny_bind (wpAny_pure (wpAny_bind fin))
  | exact wpAny_bind fin
theorem adn (J:Inv X ae σ H s) (g:fm H a y o):s.TypeIs (.ref a) "dict" := by
 rcases g with ⟨kvs,k,e,_,_⟩ | ⟨kvs,k,b,e,_,_,_⟩
 .obtain ⟨_,_,vs,_,cF⟩:=vN J.bh e;exact cF.typeIs
 .obtain ⟨_,_,xs,_,cF⟩:=yA J.bh e;exact cF.typeIs
noncomputable def HX (e8 ty:TE):TE:=fun σ H Q=>e8 σ H fun x H1=>ty σ H1 fun y av=>fl x fun a=>∃ v,fm av a y (some v)/\Q v av
noncomputable def Fh (ty e8:TE):TE:=fun σ H Q=>ty σ H fun y H1=>e8 σ H1 fun x av=>fl x fun a=>∃ o,fm av a y o/\Q (.bB (!o.isSome)) av
noncomputable def Lu (e8 ty e9:TE):ea:=fun D σ H=>e9 σ H fun v H1=>e8 σ H1 fun x av=>ty σ av fun y bk=>fl x fun a=>∃ b5,hC bk a y v b5/\D.b8 σ b5
noncomputable def Wk (e8 ty e9:TE) (ia:V->V->au->cN->Prop):ea:=fun D σ H=>e8 σ H fun x H1=>ty σ H1 fun y av=>∃ a v,x=.ref a/\fm av a y (some v) /\
 e9 σ av fun iP bk=>ia v iP bk fun z b5=>∃ cP,hC b5 a y z cP/\D.b8 σ cP
section
variable {X:a8} {o i e value:Expr} {pos pos' t2:Pos} {e8 ty e9:TE}
theorem jM (bt:X.A.units + 1 < cLine) (aS:bw X o e8) (ah:bw X i ty) (aB:KR i):bw X (.Subscript o i pos) (HX e8 ty):=by
 intro ae s σ H Q J h;refine UK ajY.lookup aB (bF (aS ae s σ H _ J h) fun u s1 b4=>d1 b4 fun x H1 aU a_ bO=>bF (ah ae s1 σ H1 _ aU bO) fun gN s2 b4=>d1 b4 fun y av bN bq g5=>?_);obtain ⟨a,ex,v,g,dC⟩:=fl.out g5;subst ex;obtain rfl:u=fi a:=a_;exact ⟨adn bN g,Q_ bt bN g bq fun eH s3 eI hb=>⟨v,av,eI,hb,dC⟩⟩
theorem SY (bt:X.A.units + 1 < cLine) (ah:bw X i ty) (aS:bw X o e8):O6 X .NotIn i o (Fh ty e8):=by
 intro ae s σ H Q J h;refine bF (ah ae s σ H _ J h) fun gN s1 b4=>d1 b4 fun y H1 aU bq bO=>bF (aS ae s1 σ H1 _ aU bO) fun u s2 b4=>d1 b4 fun x av bN a_ g5=>?_
 obtain ⟨a,ex,dN,g,dC⟩:=fl.out g5;subst ex;obtain rfl:u=fi a:=a_;exact aeo bt bN g bq fun s3 eI=>⟨.bB (!dN.isSome),av,eI,rfl,dC⟩
theorem mf (bt:X.A.units + 1 < cLine) (aS:bw X o e8) (ah:bw X i ty) (aJ:bw X value e9) (aB:swapsWith value (some (.Subscript o i pos')) pos.line X.env=pure false) :
  hr X (.Assign [.Subscript o i pos'] value pos) (Lu e8 ty e9):=by
 intro ae s σ H D J h;refine wpAny_Assign_Subscript (bF (aJ ae s σ H _ J h) fun r s1 b4=>d1 b4 fun v H1 aU cL bO=>bF (aS ae s1 σ H1 _ aU bO) fun u s2 b4=>d1 b4 fun x av bN a_ dC=>bF (ah ae s2 σ av _ bN dC) fun gN s3 b4=>d1 b4 fun y bk eI bq g5=>?_) aB;obtain ⟨a,ex,b5,g,hn⟩:=fl.out g5;subst ex;obtain rfl:u=fi a:=a_;exact IJ bt eI g bq cL fun s4 hU=>⟨σ,b5,hU,hn⟩
theorem O9 {ia:V->V->au->cN->Prop} (bt:X.A.units + 1 < cLine) (aS:bw X o e8) (ah:bw X i ty) (aJ:bw X value e9) (Ij:C2 X op ia)
  (aZ:∀ dN gN new,augStore i dN gN new=(do holding [new,dN,gN] (setItem dN gN new);release [new,dN,gN] [];pure .next)):hr X (.AugAssign (.Subscript o i t2) op value pos) (Wk e8 ty e9 ia):=by
 intro ae s σ H D J h;refine wpAny_AugAssign_SubscriptAny (bF (aS ae s σ H _ J h) fun u s1 b4=>d1 b4 fun x H1 aU a_ bO=>bF (ah ae s1 σ H1 _ aU bO) fun gN s2 cS=>?_) aZ;obtain ⟨y,av,bN,bq,a,v,ex,g,dC⟩:=cS;subst ex;obtain rfl:u=fi a:=a_;refine Q_ bt bN g bq fun eH s3 eI hb=>bF (aJ ae s3 σ av _ eI dC) fun eh s4 b4=>d1 b4 fun iP bk hU abH hn=>bF (Ij ae s4 σ bk v iP eH eh _ hU hb abH hn) fun hL s5 cS=>?_
 obtain ⟨z,b5,tM,yD,cP,Ef,w9⟩:=cS;exact IJ bt tM Ef bq yD fun g6 wA=>⟨σ,cP,wA,w9⟩
end
theorem Pe {w:World} (h:Heap) (aa:sysModules < h.objs.size):d9 P w H (h.push { cls:=.type "dict",data:=.dict #[] }) h.objs.size (.a5 []):=
 ⟨e5 _,beq_eq_false_iff_ne.mpr (cX (fX aa)),[],.nil,Heap.DictOf.new h⟩
theorem XL {w:World} (h:Heap) (aa:sysModules < h.objs.size):d9 P w H (h.push { cls:=.type "dict",data:=.dict #[] }) h.objs.size (.gq []):=
 ⟨e5 _,beq_eq_false_iff_ne.mpr (cX (fX aa)),[],.nil,_,#[],0,hp _ rfl,⟨rfl,rfl,rfl⟩,rfl,rfl,IH⟩
noncomputable def Mp:TE:=fun _ H Q=>∀ p,H p=none->Q (.ref p) (upd H p (.a5 []))
noncomputable def Jy:TE:=fun _ H Q=>∀ p,H p=none->Q (.ref p) (upd H p (.gq []))
section
variable {X:a8} {pos:Pos}
theorem q7:bw X (.Dict [] [] pos) Mp:=fun ae s σ H Q J h=>
 wpAny_Dict_empty ⟨.ref s.heap.objs.size,_,J.laid (a:=s.heap.objs.size) (o:=.a5 []) (t':=s.toks) (fun _ _ q=>eP _ q) (bR _) (Pe s.heap J.big),rfl,h _ (J.bh.fresh (bR _))⟩
theorem abC:bw X (.Dict [] [] pos) Jy:=fun ae s σ H Q J h=>
 wpAny_Dict_empty ⟨.ref s.heap.objs.size,_,J.laid (a:=s.heap.objs.size) (o:=.gq []) (t':=s.toks) (fun _ _ q=>eP _ q) (bR _) (XL s.heap J.big),rfl,h _ (J.bh.fresh (bR _))⟩
end
noncomputable def AS:List (TE × TE)->St->au->(List (V × V)->au->Prop)->Prop
 | [],_,H,Q=>Q [] H
 | (tk,e9) :: r,σ,H,Q=>tk σ H fun x H1=>e9 σ H1 fun y av=>AS r σ av fun ps bk=>Q ((x,y) :: ps) bk
noncomputable abbrev P9:List (V × V)->List (Value × Value)->Prop:=Paired fun p q=>bK p.1 q.1/\bK p.2 q.2
def D9 (X:a8) (pos:Pos) (keys:List (Option Expr)) (values:List Expr) (sk:List (TE × TE)):Prop:=
 ∀ (ae:List (Addr × Obj)) (s:Shared) (σ:St) (H:au) (Q:List (V × V)->au->Prop),Inv X ae σ H s->AS sk σ H Q ->
  wpAny (model X.prog X.w) X.A (evalPairs (pairTrees keys values X.env pos)) (fun vs aj=>∃ ps I,Inv X ae σ I aj/\P9 ps vs/\Q ps I) X.dI s
theorem aii:D9 X pos [] [] []:=fun ae s σ H Q J h=>pairTrees_nil_walk ⟨[],H,J,.nil,h⟩
theorem Ug {k v:Expr} {bW:List (Option Expr)} (aC:bw X k tk) (aJ:bw X v e9) (ao:D9 X pos bW vs sk) :
  D9 X pos (some k :: bW) (v :: vs) ((tk,e9) :: sk):=fun ae s σ H Q J h=>
 pairTrees_cons_walk (bF (aC ae s σ H _ J h) fun u s1 b4=>d1 b4 fun x H1 aU a_ bO=>bF (aJ ae s1 σ H1 _ aU bO) fun eh s2 ⟨y,av,bN,bq,dC⟩=>
  bF (ao ae s2 σ av _ bN dC) fun ws s3 ⟨ps,bk,eI,rel,hn⟩=>⟨(x,y) :: ps,bk,eI,.cons ⟨a_,bq⟩ rel,hn⟩)
noncomputable def tO (kvs more:List (Key × V)):List (Key × V):=more.foldl (fun acc c_=>ci acc c_.1 c_.2) kvs
theorem eE.merge:∀ {more:List (Key × V)} {rs:List (Key × Value)} {kvs:List (Key × V)} {vs:List (Key × Value)},eE more rs->eE kvs vs->eE (tO kvs more) (merged vs rs):=by
 intro more rs kvs vs r;unfold eE at r
 induction r generalizing kvs vs with
 | nil=>intro q;exact q
 | @cons p q ps qs h t b7=>
  intro kW;have e:eE (ci kvs p.1 p.2) (stored vs q.1 q.2):=by
   have:=kW.put p.1 h.2;rw [<- h.1];exact this
  exact b7 e
theorem Se:∀ (more kvs:List (Key × V)),(tO kvs more).length <= kvs.length + more.length
 | [],kvs=>by show kvs.length <= kvs.length + 0;omega
 | p :: r,kvs=>by
  have af:=Se r (ci kvs p.1 p.2);have ak:=Lm kvs p.1 p.2;show (tO (ci kvs p.1 p.2) r).length <= _;rw [hT];omega
theorem PQ {w:World}:∀ {kvs:List (Key × V)} {ws:List (Value × Value)},P9 (kvs.map fun c_=>(c9 c_.1,c_.2)) ws->∃ rs,Carries (gJ P w) ws rs/\eE kvs rs
 | [],_,r=>by rw [q2] at r;cases r;exact ⟨[],lr,.nil⟩
 | p :: kvs,_,r=>by
  rw [eu] at r;cases r with
  | @cons a b as bs h t=>
   obtain ⟨rs,c,q⟩:=PQ (P:=P) (w:=w) t;obtain ⟨hi,gD⟩:=b;exact ⟨(p.1,gD) :: rs,⟨s9 h.1,rfl,c⟩,.cons ⟨rfl,h.2⟩ q⟩
noncomputable def IK (sk:List (TE × TE)):TE:=fun σ H Q=>∀ p,H p=none->AS sk σ (upd H p (.a5 [])) fun ps av=>av p=some (.a5 [])/\∃ kvs:List (Key × V),ps=kvs.map (fun c_=>(c9 c_.1,c_.2))/\kvs.length <= 15/\Q (.ref p) (upd av p (.a5 (tO [] kvs)))
theorem adQ {keys:List (Option Expr)} (h:D9 X pos keys values sk) (qj:keys.all (·.isSome)=true) (aK:keys.length=values.length) (h0:keys ≠ [])
  (Xy:keys.length <= 15):bw X (.Dict keys values pos) (IK sk):=by
 intro ae s σ H Q J q;have a3:=J.bh.fresh (bR s.heap.objs.size);have aU:=J.laid (a:=s.heap.objs.size) (o:=.a5 []) (h':=s.heap.push { cls:=.type "dict",data:=.dict #[] }) (t':=s.toks) (fun _ _ q=>eP _ q) (bR _) (Pe s.heap J.big);refine wpAny_Dict_walk (knd:=gJ X.prog X.w) qj aK h0 Xy (bF (h ae _ σ _ _ aU (q _ a3)) fun ws s2 cS=>?_);obtain ⟨ps,av,bN,rel,e,kvs,ep,lk,dC⟩:=cS;subst ep;obtain ⟨rs,c,IF⟩:=PQ (P:=X.prog) (w:=X.w) rel;obtain ⟨z,hd,ZO,kW,cF⟩:=pq bN.bh e;cases kW;refine ⟨rs,c,cF,fun h' mZ aB=>⟨.ref s.heap.objs.size,_,?_,rfl,dC⟩⟩;have aW:(tO [] kvs).length <= sizeLine:=by
  have af:=Se kvs [];rw [wz] at af;rw [sizeLine_eq];omega
 have he:∃ q,h'.get? s.heap.objs.size=some q:=let ⟨q,_,_,aD,_⟩:=mZ;⟨q,aD⟩;exact CV bN (by rw [e];exact lr) aB he (Ba aW hd (IF.merge .nil) mZ)
structure aof (X:a8) (o:Expr) (m:Str) (fu:Pos) (e:Expr) (h7:Pos):Prop where
 base:attributeBase o m X.env (eval o X.env)=eval o X.env
 N8:((backTo h7 (starEach [e] X.env)).all (fun x=>!x.1) && (backToKw h7 (keywordEach [] X.env)).all (fun x=>x.1.isSome)
  && decide (([e]:List Expr).length + ([]:List Keyword).length + (if ([]:List Keyword).isEmpty then 0 else 1) < 30))=true
 line:(fu.endLine == h7.line)=true
 trees:backTo h7 (starEach [e] X.env)=[(false,eval e X.env)]
structure M2 (X:a8) (o:Expr) (m:Str) (fu:Pos) (e f:Expr) (h7:Pos):Prop where
 base:attributeBase o m X.env (eval o X.env)=eval o X.env
 N8:((backTo h7 (starEach [e,f] X.env)).all (fun x=>!x.1) && (backToKw h7 (keywordEach [] X.env)).all (fun x=>x.1.isSome)
  && decide (([e,f]:List Expr).length + ([]:List Keyword).length + (if ([]:List Keyword).isEmpty then 0 else 1) < 30))=true
 line:(fu.endLine == h7.line)=true
 trees:backTo h7 (starEach [e,f] X.env)=[(false,eval e X.env),(false,eval f X.env)]
def K6 (H:au) (a:Addr):Prop:=(∃ kvs,jR H a (.a5 kvs))\/∃ kvs,jR H a (.gq kvs)
theorem aa9 (J:Inv X ae σ H s) (d:K6 H a) :
  s.TypeIs (.ref a) "dict" /\ (∀ b,fi a=.ref b->∃ bI,s.heap.get? b=some bI/\bI.dict=none)/\(a == sysModules)=false:=by
 rcases d with ⟨kvs,e⟩ | ⟨kvs,e⟩
 .obtain ⟨_,hd,vs,_,cF⟩:=vN J.bh e;refine ⟨cF.typeIs,fun b q=>?_,hd⟩;cases q;obtain ⟨bI,_,_,af,ak,_⟩:=cF;exact ⟨bI,af,ak.2.1⟩
 .obtain ⟨_,hd,xs,_,cF⟩:=yA J.bh e;refine ⟨cF.typeIs,fun b q=>?_,hd⟩;cases q;obtain ⟨bI,_,_,af,ak,_⟩:=cF;exact ⟨bI,af,ak.2.1⟩
section
variable {X:a8} {ae:List (Addr × Obj)} {σ:St} {H:au} {s:Shared} {a:Addr} {y d:V} {u r:Value} {o:Option V} {A:Around} {E:Value->Shared->Prop}
end
noncomputable def Ui (e8 ty tG:TE):TE:=fun σ H Q=>e8 σ H fun x H1=>∃ a,x=.ref a/\K6 H1 a/\ty σ H1 fun y av=>tG σ av fun z bk=>∃ kvs k,bk a=some (.a5 kvs)/\y=c9 k /\
 (∀ v,c1 kvs k=some v->Q v (upd bk a (.a5 (q3 kvs k))))/\(c1 kvs k=none->Q z bk)
section
variable {X:a8} {o e f:Expr} {fu h7:Pos} {e8 ty tG:TE}
theorem abG (aS:bw X o e8) (he:bw X e ty) (hf:bw X f tG) (m:M2 X o "pop" fu e f h7):bw X (.Call (.Attribute o "pop" fu) [e,f] [] h7) (Ui e8 ty tG):=by
 intro ae s σ H Q J h;refine wpAny_Call_method m.base m.N8 m.line qC Pz PySem.F.type_dict_pop (bF (aS ae s σ H _ J h) fun u s1 cS=>?_);obtain ⟨x,H1,aU,a_,a,ex,d,bO⟩:=cS;subst ex;obtain rfl:u=fi a:=a_;obtain ⟨t1,gr,_⟩:=aa9 aU d;refine ⟨t1,gr,?_⟩;rw [m.trees];refine Si rfl (acr (RN (bF (he ae s1 σ H1 _ aU bO) fun gN s2 ⟨y,av,bN,bq,dC⟩=>
  RN (bF (hf ae s2 σ av _ bN dC) fun Yy s3 ⟨z,bk,eI,yD,kvs,k,gS,j0,hn,w9⟩=>ad3 ?_))))
 subst j0;cases l:c1 kvs k with
 | some v=>exact alN eI gS bq l (.inr ⟨Yy,rfl⟩) fun eH s4 hU hb=>⟨v,_,hU,hb,hn v l⟩
 | none=>exact abD eI gS bq l fun s4 hU=>⟨z,bk,hU,yD,w9 l⟩
end
section
variable {X:a8} {ae:List (Addr × Obj)} {σ:St} {H:au} {s:Shared} {a:Addr} {kvs:List (Key × V)} {A:Around} {E:Value->Shared->Prop}
theorem agP (J:Inv X ae σ H s) (e:jR H a (.a5 kvs)) (h:∀ p aj,H p=none->Inv X ae σ (upd H p (.a5 kvs)) aj->Q (.ref p) aj):wpAny (model X.prog X.w) A (call (.type "dict") [.ref a]) Q E s:=by
 obtain ⟨z,hd,vs,rel,cF⟩:=vN J.bh e;refine kt_call_dict hd cF (by rw [<- rel.length];exact z) fun h' mZ aB=>?_
 refine h _ _ (J.bh.fresh (bR _)) (J.laid (a:=s.heap.objs.size) (o:=.a5 kvs) (t':=s.toks) (fun b q aD=>?_) (bR _) (Ba z (beq_eq_false_iff_ne.mpr (cX (fX J.big))) rel mZ));exact (aB.2 b (fX (ek aD))).trans (eP _ aD)
end
section
variable {X:a8} {ae:List (Addr × Obj)} {σ:St} {H:au} {s:Shared} {a:Addr} {y:V} {u:Value} {A:Around} {E:Value->Shared->Prop}
end
end L2
namespace NB
open PySem PySem.W PySem.Calls PyProof.Rows
theorem alZ {h:Heap}:∀ (ns:List Int) (vs:List Value),WellAll P h vs (ns.map Xq)->IntsAre vs ns:=by
 intro ns
 induction ns with
 | nil=>
  intro vs w;rw [q2] at w;cases w;exact .nil
 | cons n ns b7=>
  intro vs w;rw [eu] at w;cases w with
  | cons a b=>
   cases a;exact .cons _ _ (b7 _ b)
theorem anx {l:OpenLaw} {n:Nat} (a3:l.most=some n) {P:Params} {h:Heap} {args:List WData} {I0:List Value}
  (Ac:l.row.toRowW.claim.pre args=true) (gu:WellAll P h I0 args) :
  ∃ a vs ns,I0=[fi a]/\args=[WData.list (ns.map Xq)]/\h.get? a=some { cls:=.type "list",data:=.seq vs.toArray }/\IntsAre vs ns/\ns.length <= n:=by
 have gG:WShape.hasAll [] args [.list .int]=true:=(pre_splitW Ac).1;have ay:l.pre.holds [] { args:=args }=true:=(pre_splitW Ac).2;obtain ⟨d,r,rfl,af,ak⟩:=hasAllW_cons gG;obtain rfl:=hasAllW_nil ak;obtain ⟨xs,rfl,bc⟩:=hasW_list af;obtain ⟨ns,rfl⟩:=items_int bc;have hlen:ns.length <= n:=by
  unfold OpenLaw.pre at ay;have c4:(WTm.not (.lt (.lit (.int (n:Int))) (.len (.arg 0)))).holds [] { args:=[.list (ns.map .int)] }=true:=by
   have c4:=(holds_andW ay).1;rw [a3] at c4;exact c4
  have e3:=condW_of c4 (w_not (w_lt w_lit (w_len_list (w_arg rfl))));rw [aO] at e3;refine Nat.le_of_not_lt fun q=>?_
  have dV:(n:Int) < ((ns.length:Nat):Int):=by omega
  first
   | (rw [decide_eq_true dV] at e3;exact absurd e3 (by decide))
   | (simp at e3;omega)
 cases gu with
 | cons dJ eh=>
  cases eh;cases dJ with
  | list aS qj=>exact ⟨_,_,ns,rfl,rfl,aS,alZ ns _ qj,hlen⟩
theorem ahM (l:OpenLaw) (args:List WData):l.row.toRowW.claim.post args (.bool true) args=true:=
 postW_of (r:=l.row.toRowW) (X:=(true == true))
  (show aht [] (.bool true) .bool=true by first | rfl | decide | simp [aht,WShape.arms,WShape.armsAll])
  (show (WTm.eq .res (.lit (.bool true))).value [] { args:=args,res:=some (.bool true),after:=args }=some (.bool (true == true)) from w_eq_bool (w_res rfl) w_lit) rfl
theorem amP {l:OpenLaw} {n:Nat} {q:Program} {loose:List Str} {CR:(Str->Option Value)->Heap->Prop} {vz:World->Heap->Prop} {d:DefRec}
  (a3:l.most=some n) (GJ:d.params.defaults=[])
  (call:∀ (w:World) (fQ dk:Shared) (mg mL:Str->Option Value) (gB:Addr) (o:Obj) (pm cd doc:Value) (a:Addr) (vs:List Value) (ns:List Int),
   Ground q loose [] CR w fQ mg mL dk.heap->vz w dk.heap ->
   dk.heap.get? gB=some o->o.data=.func (docDef d.name d.params d.body d.scope pm cd doc)->dk.heap.CodeRec cd d.name->mg d.name=some (.ref gB) ->
   dk.heap.get? a=some { cls:=.type "list",data:=.seq vs.toArray }->IntsAre vs ns->ns.length <= n->dk.gens=#[] ->
   codeAny (model l.prog w) callerA (.call (.ref gB) ⟨[.ref a],[]⟩) (fun r aj=>r=.ok (.ret (.bool true))/\OldK dk.heap aj.heap/\aj.os=dk.os/\AllBare aj.gens) dk) :
  WalkO q loose CR vz l.row.toRowW d [] (fun f vs=>al7 f vs):=by
 intro w fQ dk mg mL G Y gB o pm cd doc Ez c9 aS hd kN cC yT bj args I0 as Ac anT ap6 gu uM;obtain rfl:Ez=.none:=Dflts.none cC GJ;obtain rfl:c9=.none:=Dflts.noKw cC;obtain ⟨a,vs,ns,rfl,rfl,HO,hints,hlen⟩:=anx a3 Ac gu;refine enter_call (codeAny_mono (call w fQ dk mg mL gB o pm cd doc a vs ns G Y aS (fd_plain hd) kN yT HO hints hlen bj) fun r aj aD=>?_);obtain ⟨rfl,ak,bc,c4⟩:=aD;exact ⟨.inl ⟨.bool true,.bool true,[],rfl,fun _=>rfl,.bool true,ahM l _,fun _=>⟨apy,fun _ hm=>(nomatch hm)⟩⟩,ak,bc,c4⟩
section
variable {prog:Program} {w:World} {A:Around} {E:Value->Shared->Prop} {s:Shared} {K:Frag}
end
end NB
namespace L2
open PySem PySem.Spec PyProof.Rows
theorem Q9:∀ {vs:List Value} {ns:List Int},IntsAre vs ns->b1 (ns.map V.int) vs
 | _,_,.nil=>.nil
 | _,_,.cons n t h=>.cons ⟨t,rfl⟩ (Q9 h)
noncomputable abbrev FJ {K:ba} {h:Heap} (_:K.In h):ba:=K
noncomputable def ef (s:Stmt) (j:Nat):Stmt:=match s with
 | .ClassDef _ _ _ body _ _ _ _ _ _ _=>body.getD j (.Pass ⟨0,0,0,0⟩)
 | _=>.Pass ⟨0,0,0,0⟩
noncomputable def zL (s:Stmt):Arguments:=match s with
 | .FunctionDef _ a _ _ _ _ _ _ _ _=>a
 | _=>{ posonlyargs:=[],args:=[],vararg:=none,kwonlyargs:=[],kw_defaults:=[],kwarg:=none,defaults:=[] }
noncomputable def sy (s:Stmt):List Stmt:=match s with
 | .FunctionDef _ _ b _ _ _ _ _ _ _=>b
 | _=>[]
noncomputable def bE (s:Stmt):Scope:=match s with
 | .FunctionDef _ _ _ _ _ _ sc _ _ _=>sc
 | _=>{ kind:=.function,names:=[],isGenerator:=false,isCoroutine:=false }
noncomputable abbrev dt:j1:=fun _ _ _ _ _ _=>False
noncomputable abbrev Hu:gp:=fun _ _ _=>False
theorem cj:pd dt X Hu:=fun _ _ _ _ _ _ _ h=>h.elim
structure b_ (K:ba) (x qual:Str) (st:Stmt) (f:Addr) (fd:FuncData):Prop where
 ex:∃ (n5:Value) (dH:Option Addr) (c9 doc pm:Value) (an:Option Addr) (fU e_:Value) (tN:Array (Option Value)),
  fd=zg x qual (zL st) (sy st) (bE st) .none c9 doc pm an fU e_/\K.lookup f=some ⟨n5,dH,.func fd,tN⟩/\Nb K fU qual=true
 bJ:sN K (.ref f)=true
section
variable {P:Program} {w:World} {K:ba} {mg:Str->Option Value} {base:Heap}
theorem b_.ok {x qual:Str} {st:Stmt} {fd:FuncData} {N ps:List Str} {k:Nat} (F:b_ K x qual st f fd) (S:cq N ps (bE st)) (len:∀ vs H Q E,sp vs H Q E->vs.length=ps.length)
  (pz:∀ (fU:Value) (A:Around) (outer:List Env) (s:Shared) (H:au) (vs:List V) (Q:cN) (E:gp),eA k (A.deeper (envOfC qual (bE st) s.heap.objs.size f fU))->sp vs H Q E ->
   ∃ t,kZ (qN dt P w K mg base N qual (bE st) f fU A outer s H E).l4 (sy st) t/\t { b8:=fun _ I=>Q .b' I,k3:=Q } (start N vs) H):cJ P w K mg base dt (k + 1) f fd ps sp:=by
 obtain ⟨n5,dH,c9,doc,pm,an,fU,e_,tN,rfl,lk,kN⟩:=F.ex;refine QA lk kN S len fun A outer s H vs Q E ao iE=>?_
 obtain ⟨t,h,q⟩:=pz fU A outer s H vs Q E ao iE;exact ⟨t,h.l4,q⟩
theorem b_.binds {x qual:Str} {st:Stmt} {fd:FuncData} (F:b_ K x qual st f fd)
  (h:∀ (c9 doc pm:Value) (an:Option Addr) (fU e_:Value) (us:List Value),us.length=ps.length->bindArgs (zg x qual (zL st) (sy st) (bE st) .none c9 doc pm an fU e_) ⟨us,[]⟩=pure (ps.zip us)):b6 K fd ps []:=by
 obtain ⟨n5,dH,c9,doc,pm,an,fU,e_,tN,rfl,lk,kN⟩:=F.ex;exact .all (h c9 doc pm an fU e_)
theorem aet {x qual:Str} {st:Stmt} {c9 doc pm fU e_:Value} (l:K.lookup f=some ⟨n5,dH,.func (zg x qual (zL st) (sy st) (bE st) .none c9 doc pm an fU e_),tN⟩)
  (c:Nb K fU qual=true) (k:sN K (.ref f)=true):b_ K x qual st f (zg x qual (zL st) (sy st) (bE st) .none c9 doc pm an fU e_):=⟨⟨n5,dH,c9,doc,pm,an,fU,e_,tN,rfl,l,c⟩,k⟩
end
def aiu (A:Around):Prop:=A.units + 1 < cLine
def afE (A:Around):Prop:=A.units + 64 < cLine
theorem agK {A:Around} {k:Nat} (ao:eA k A):afE A:=ao.units
theorem gT {A:Around} {k:Nat} (ao:eA k A):aiu A:=f5 (Nat.add_le_add_left (by decide:1 <= 64) _) ao.units
section
variable {X:a8}
theorem U (i:Nat) {x:Str} (bu:X.N[i]? = some x:=by rfl) (aJ:xc X.env.scope x:=by first | exact mx rfl | exact nX (mx rfl) | exact nX (nX rfl)) (hd:(x == ("__debug__" : Str))=false:=by decide)
  (kN:(x == ("__classdict__" : Str))=false:=by decide):bw X (.Name x pos) (z7 i):=aah bu aJ hd kN
end
def aN (H I:au):Prop:=∀ b o,H b=some o->I b=some o
theorem aN.refl (H:au):aN H H:=fun _ _ h=>h
theorem aN.trans (a:aN H H1) (b:aN H1 av):aN H av:=fun c o h=>b c o (a c o h)
theorem aN.free (e:aN H I) (h:I l=vm):H l=vm:=by
 cases q:H l with
 | none=>rfl
 | some o=>
  rw [e l o q] at h;cases h
theorem aN.seq {K:ba} (e:aN H I) (h:aF K H a xs):aF K I a xs:=by
 rcases h with (h | ⟨o,h⟩) | h
 .exact .inl (.inl (e _ _ h))
 .exact .inl (.inr ⟨o,e _ _ h⟩)
 .exact .inr h
section
variable {eC:Type} [DecidableEq eC]
end
end L2
set_option maxHeartbeats 4000000
namespace L2
open PySem PySem.Spec PyProof.Rows
noncomputable def js (cells:List (Str × Addr)):List (Str × NameKind)->List (Str × Addr)->List (Str × Addr)
 | [],acc=>acc
 | (n,k) :: r,acc=>if k == .free then (match cells.lookup n with | some c=>js cells r ((n,c) :: acc) | none=>js cells r acc) else js cells r acc
theorem Gs {env:Env}:∀ (names:List (Str × NameKind)) (acc:List (Str × Addr)),(∀ y ∈ names,y.2=.free->∃ c,env.cells.lookup y.1=some c) ->
  (forIn names acc (fun (x:Str × NameKind) (cs:List (Str × Addr))=>(if (x.2 == .free)=true then do let a <- cellOf env x.1;pure (y' ((x.1,a) :: cs)) else pure (y' cs):Sem (ForInStep (List (Str × Addr))))))=pure (js env.cells names acc)
 | [],acc,_=>rfl
 | (n,k) :: r,acc,h=>by
  have ao:∀ y ∈ r,y.2=.free->∃ c,env.cells.lookup y.1=some c:=fun y aY=>h y (iu _ aY)
  rw [List.forIn_cons];by_cases aC:(k == q6)=true
  .have e:k=.free:=by simpa using aC
   obtain ⟨c,ay⟩:=h (n,k) m9 e;have Cz:env.cells.lookup n=some c:=ay;simp only [js,aC,if_true,Cz,cellOf];exact Gs r _ ao
  .simp only [js,aC];exact Gs r _ ao
theorem Vh {env:Env} (h:∀ y ∈ scope.names,y.2=.free->∃ c,env.cells.lookup y.1=some c):closureFor scope env=pure (js env.cells scope.names []):=by
 unfold closureFor;exact congrArg (fun t=>t >>= pure) (Gs scope.names [] h)
theorem Br {cells:List (Str × Addr)}:∀ (names:List (Str × NameKind)) (acc:List (Str × Addr)) {x:Str} {c:Addr},(js cells names acc).lookup x=some c->acc.lookup x=some c\/cells.lookup x=some c
 | [],acc,x,c,h=>.inl h
 | (n,k) :: r,acc,x,c,h=>by
  unfold js at h;split at h
  .cases q:cells.lookup n with
   | none=>rw [q] at h;exact Br r acc h
   | some d=>
    rw [q] at h;rcases Br r _ h with z | z
    .rw [kQ] at z;by_cases ag:(x == n)=true
     .rw [ag] at z;have e:x=n:=by simpa using ag
      subst e
      right;rw [q];exact z
     .have d_:(x == n)=false:=by simpa using ag
      rw [d_] at z;exact .inl z
    .exact .inr z
  .exact Br r acc h
theorem D0 {cells:List (Str × Addr)}:∀ (names:List (Str × NameKind)) (acc:List (Str × Addr)) {x:Str} {c:Addr},acc.lookup x=some c->cells.lookup x=some c->(js cells names acc).lookup x=some c
 | [],acc,x,c,h,_=>h
 | (n,k) :: r,acc,x,c,h,ay=>by
  unfold js;split
  .cases q:cells.lookup n with
   | none=>exact D0 r acc h ay
   | some d=>
    refine D0 r _ ?_ ay;rw [kQ];by_cases ag:(x == n)=true
    .have e:x=n:=by simpa using ag
     subst e;rw [ag];rw [q] at ay;exact ay
    .have d_:(x == n)=false:=by simpa using ag
     rw [d_];exact h
  .exact D0 r acc h ay
theorem wZ {cells:List (Str × Addr)}:∀ (names:List (Str × NameKind)) (acc:List (Str × Addr)) {x:Str} {c:Addr},(x,q6) ∈ names->cells.lookup x=some c->(js cells names acc).lookup x=some c
 | [],_,_,_,h,_=>nomatch h
 | (n,k) :: r,acc,x,c,h,ay=>by
  rcases eZ.mp h with e | h
  .cases e;unfold js;rw [if_pos (by decide),ay];refine D0 r _ ?_ ay;rw [kQ];simp
  .unfold js;split
   .cases q:cells.lookup n with
    | none=>exact wZ r acc h ay
    | some d=>exact wZ r _ h ay
   .exact wZ r acc h ay
theorem MB:∀ {l:List (Str × α)} {x:Str} {a:α},l.lookup x=some a->(x,a) ∈ l
 | [],_,_,h=>by simp at h
 | (n,b) :: r,x,a,h=>by
  rw [kQ] at h;by_cases ag:(x == n)=true
  .have e:x=n:=by simpa using ag
   subst e;rw [ag] at h;have aG:b=a:=dX h;subst aG;exact m9
  .have d_:(x == n)=false:=by simpa using ag
   rw [d_] at h;exact iu _ (MB h)
theorem aeM {env:Env} {x:Str} {k:NameKind} (h:(relabel scope env).names.lookup x=some k) (aC:k=.cell\/k=.free) (ay:∀ y ∈ scope.names,y.2 ≠ .cell):(x,q6) ∈ scope.names:=by
 have af:=MB h;obtain ⟨⟨n,j⟩,hm,e⟩:=cw.mp af;have bM:(if (j == q6 && env.scope.kind == .function && env.kindOf n == some .cell)=true then (n,N6) else (n,j))=(x,k):=e;split at bM
 .rename_i Ot;have aw:n=x:=(SR bM).1;subst aw;have aL:j=.free:=by
   simp only [jF] at Ot;simpa using Ot.1.1
  subst aL;exact hm
 .have aw:n=x:=(SR bM).1;have aG:j=k:=(SR bM).2;subst aw;subst aG;rcases aC with z | z
  .exact absurd z (ay _ hm)
  .subst z;exact hm
theorem agB {env:Env} {x:Str} (h:scope.names.lookup x=some .free):(relabel scope env).names.lookup x=some .cell\/(relabel scope env).names.lookup x=some .free:=by
 have all:∀ (names:List (Str × NameKind)),names.lookup x=some .free ->
   (names.map fun (n,k)=>if (k == q6 && env.scope.kind == .function && env.kindOf n == some .cell) then (n,N6) else (n,k)).lookup x=some .cell \/
   (names.map fun (n,k)=>if (k == q6 && env.scope.kind == .function && env.kindOf n == some .cell) then (n,N6) else (n,k)).lookup x=some .free:=by
  intro names
  induction names with
  | nil=>intro h;simp at h
  | cons p r b7=>
   obtain ⟨n,k⟩:=p;intro h;rw [eu];by_cases ag:(x == n)=true
   .simp only [kQ,ag] at h;have aC:k=.free:=dX h;subst aC;by_cases ay:(q6 == q6 && env.scope.kind == .function && env.kindOf n == some .cell)=true
    .left;simp only [if_pos ay,kQ,ag]
    .right;simp only [if_neg ay,kQ,ag]
   .have d_:(x == n)=false:=by simpa using ag
    simp only [kQ,d_] at h;by_cases ay:(k == q6 && env.scope.kind == .function && env.kindOf n == some .cell)=true
    .simp only [if_pos ay,kQ,d_];exact b7 h
    .simp only [if_neg ay,kQ,d_];exact b7 h
 exact all scope.names h
noncomputable abbrev a8.block (X:a8) (scope:Scope) (C:Addr) (N:List Str) (s:Shared) (H:au) (bp:List Addr):a8 where
 prog:=X.prog
 w:=X.w
 K:=X.K
 mg:=X.mg
 base:=X.base
 A:=X.A
 N:=N
 fQ:=s
 rU:=H
 env:=compEnvC scope (js X.env.cells scope.names []) C X.env
 outer:=X.stack
 stack:=X.stack
 ex:=bp
 fn:=fun _=>false
 calm:=X.calm
 da:=[]
 dI:=fun _ _=>False
structure qM (env:Env) (scope:Scope):Prop where
 kind:scope.kind=.function
 uP:∀ y ∈ scope.names,y.2 ≠ .cell
 fr:∀ y ∈ scope.names,y.2=.free->env.kindOf y.1=some .cell\/env.kindOf y.1=some .free
 loc:∀ x ∈ scope.names,x.2=.local->scope.names.lookup x.1=some .local
noncomputable def mY (sel:List (Option Nat)) (σ:St):St:=sel.map fun o=>o.bind fun j=>(σ[j]?).join
def zp (M:List Str) (scope:Scope) (N:List Str) (sel:List (Option Nat)):Prop:=
 sel.length=N.length/\∀ (i j:Nat) (x:Str),sel[i]? = some (some j)->N[i]? = some x->M[j]? = some x/\scope.names.lookup x=some .free
section
variable {X:a8} {ae:List (Addr × Obj)} {σ:St} {H:au} {s:Shared} {scope:Scope} {bp:List Addr} {C:Addr} {N:List Str}
theorem qM.cells (S:qM X.env scope) (ok:X.Ok):∀ y ∈ scope.names,y.2=.free->∃ c,X.env.cells.lookup y.1=some c:=fun y aY e=>ok.has y.1 (S.fr y aY e)
theorem vd {x:Str} (h:(js X.env.cells scope.names []).lookup x=some c):X.env.cells.lookup x=some c:=by
 rcases Br _ _ h with z | z
 .simp at z
 .exact z
theorem Vs (J:Inv X ae σ H s) (S:qM X.env scope) (hf:∀ b ∈ bp,jx X ae H b) (aB:∀ b ∈ bp,b < s.heap.objs.size) (cV:s.heap.objs.size <= C):(X.block scope C N s H bp).Ok where
 mod:=J.ok.mod
 kind:=S.kind
 glob:=J.ok.glob
 blt:=J.ok.blt
 above:=cV
 inj:=fun x y c af ak=>J.ok.inj x y c (vd af) (vd ak)
 has:=fun x h=>by
  have aC:∃ k,(relabel scope X.env).names.lookup x=some k/\(k=.cell\/k=.free):=by
   rcases h with h | h
   .exact ⟨_,h,.inl rfl⟩
   .exact ⟨_,h,.inr rfl⟩
  obtain ⟨k,af,ak⟩:=aC;have hm:=aeM af ak S.uP;obtain ⟨c,ay⟩:=S.cells J.ok _ hm rfl;exact ⟨c,wZ _ _ hm ay⟩
 qI:=fun _ _ h _=>nomatch h
 hd:=J.ok.hd
 frames:=J.ok.frames
 sa:=.inl rfl
 zo:=fun b aa=>⟨fX (h6 (aB b aa) cV),fun x c e=>(hf b aa).2.2.2.2.1 x c (vd e)⟩
 bs:=J.bs
 kk:=c7 J.ok.kk J.nZ
 rl:=fun b o e aa=>by
  rcases (hf b aa).2.2.2.1 with z | z
  .exact J.ok.rl b o e z
  .exact absurd (h6 (h6 (ek e) J.ok.kk) z) (l_ _)
 qK:=fun b aa aW=>by
  rcases eZ.mp (J.Bk b aW) with z | z
  .exact (hf b aa).2.1 z
  .exact (hf b aa).2.2.1 z
 j8:=J.stack
 nY:=J.G'
theorem aiV (J:Inv X ae σ H s) (S:qM X.env scope) (hf:∀ b ∈ bp,jx X ae H b) (aB:∀ b ∈ bp,b < s.heap.objs.size) (cV:s.heap.objs.size <= C)
  (k:∀ b o,s.heap.get? b=some o->h'.get? b=some o) (a3:h'.Ns C m) (rS:zp X.N scope N sel):Inv (X.block scope C N s H bp) [] (mY sel σ) H { s with heap:=h',toks:=t' } where
 ok:=Vs J S hf aB cV
 os:=rfl
 bare:=J.bare
 base:=e2.kept k
 loc:=by
  refine ⟨m,a3,fun i x v aw aG bS=>?_⟩;obtain ⟨m0,qa,aK⟩:=J.loc;obtain ⟨j,I_,aar⟩:∃ j,sel[i]? = some (some j)/\σ[j]? = some (some v):=by
   unfold mY at aG;rw [dO] at aG;cases q:sel[i]? with
   | none=>rw [q] at aG;cases aG
   | some o=>
    rw [q] at aG;cases o with
    | none=>cases aG
    | some j=>
     refine ⟨j,rfl,?_⟩;have AH:(σ[j]?).join=some v:=dX aG;cases r:σ[j]? with
     | none=>rw [r] at AH;cases AH
     | some z=>rw [r] at AH;exact congrArg some AH
  obtain ⟨ZR,Et⟩:=rS.2 i j x I_ aw;have hm:=MB Et;have aC:=S.fr _ hm rfl;have aJ:xc X.env.scope x:=aC.elim (fun z=>.inr (.inl z)) fun z=>.inr (.inr z)
  obtain ⟨u,r,l⟩:=aK j x v ZR aar aJ;refine ⟨u,r,?_⟩;rcases l with ⟨Y9,_⟩ | ⟨_,c,ay,vx⟩
  .rcases aC with z | z <;> (have ih:X.env.kindOf x=_:=z;rw [Y9] at ih;cases ih)
  .refine .inr ⟨?_,c,wZ _ _ hm ay,?_⟩
   .exact agB Et
   .obtain ⟨o,aS,hd⟩:=vx;exact ⟨o,k _ _ aS,hd⟩
 cell:=fun x c e=>by
  obtain ⟨v,o,aS,hd⟩:=J.cell x c (vd e);exact ⟨v,o,k _ _ aS,hd⟩
 free:=J.bh.fresh cV
 jm:=fun x c e=>J.jm x c (vd e)
 pin:=fun p aq=>nomatch aq
 bh:=J.bh.kept k
 len:=by unfold mY;rw [aO];exact rS.1
theorem Inv.adopt (J:Inv X ae σ H s) (hD:jx X ae H a) (new:d9 X.prog X.w (upd H a o) s.heap a o):Inv X ae σ (upd H a o) s:=by
 obtain ⟨a3,fb,uf,hex,o8,hc⟩:=hD;refine J.step (g':=s.gens) (d':=s.drawn) (t':=s.toks) (h':=s.heap) (ch:=[a]) (fun b aa=>?_) (fun b o _ _ _ e _=>e) (fun b o _ _ _ e _=>⟨o.slots,e⟩) (fun b o aa e n=>?_) (fun b o _ e=>⟨o,e⟩)
  (fun b xs e=>?_) (fun b o u e=>?_) (fun b ps e=>⟨#[],?_⟩) (fun m hm=>hm) (fun b u e=>?_) J.bare
 .have e:b=a:=by simpa using aa
  subst e;exact ⟨hex,fb,o8,hc⟩
 .rw [aA (fun z=>aa (by simp [z]))];exact n
 .rw [aA (dj e a3)];exact e
 .rw [aA (dj e a3)];exact e
 .rw [aA (dj e a3),e];simp
 .by_cases aa:b=a
  .subst aa;rw [db] at e;cases e;exact new
  .rw [aA aa] at e;exact (J.bh b u e).og (fun c v _ q=>q) (fun c q=>by rw [aA (dj q a3)];exact q) fun c xs q=>by rw [aA (dj q a3)];exact q
end
theorem acL {prog:Program} {w:World} {A:Around} {it acc:Value} {env:Env} (J:Nat->Shared->Prop)
  (turn:∀ n s,J n s->wpAny (model prog w) A (pyNext it) (fun r dk=>match r with
   | none=>R (.ok .next) dk
   | some v=>wpAny (model prog w) A (letOwnedTupleGo y3 it v) (fun _ fQ=>wpAny (model prog w) A (assign y3 env v) (fun _ d0=>
     wpAny (model prog w) A (forIn ifs true fun c r=>if r=true then do let ok <- isTrue c env (eval c env);pure (y' ok) else pure (y' r)) (fun ok k_=>
      if ok=true then wpAny (model prog w) A (eval elt env) (fun x BC=>
       wpAny (model prog w) A (call (.builtin "list.append") [acc,x]) (fun _ M6=>∃ m,m < n/\J m M6) (fun _ _=>False) BC) (fun _ _=>False) k_
      else ∃ m,m < n/\J m k_) (fun _ _=>False) d0) (fun _ _=>False) fQ) (fun _ _=>False) dk) (fun _ _=>False) s)
  (n:Nat) (h:J n s) :
  codeAny (model prog w) A (.compLoop (.ListComp elt [⟨y3,iter,ifs,0⟩] scope pos) 0 it acc env) R s:=by
 refine codeAny_loop rfl J (fun n s Mx=>?_) n h;show wpAny _ A ((compTurn (.ListComp elt [⟨y3,iter,ifs,0⟩] scope pos) 0 it acc env).onRaise (fun x=>do noteFrame x env;theTreesLotGoes x)) _ _ s;refine wpAny_noted (wpAny_noRaise ?_);rw [compTurn_list];refine wpAny_bind (wpAny_standAt (wpAny_bind (wpAny_mono (turn n s Mx) (fun r dk h₁=>?_) fun _ _ h'=>h')));cases r with
 | none=>exact wpAny_pure h₁
 | some v=>
  refine wpAny_bind (wpAny_mono h₁ (fun _ fQ h₀=>?_) fun _ _ h'=>h');refine wpAny_bind (wpAny_mono h₀ (fun _ d0 yC=>wpAny_bind (wpAny_mono yC (fun ok k_ zW=>?_) fun _ _ h'=>h')) fun _ _ h'=>h');cases ok with
  | false=>exact wpAny_pure ⟨rfl,zW⟩
  | true=>
   exact wpAny_bind (wpAny_bind (wpAny_mono zW (fun x BC aid=>wpAny_bind (wpAny_mono aid (fun _ M6 Yq=>wpAny_pure (wpAny_pure ⟨rfl,Yq⟩)) fun _ _ h'=>h')) fun _ _ h'=>h'))
def uZ (X:a8) (ifs:List Expr) (t:TT):Prop:=
 ∀ (ae:List (Addr × Obj)) (s:Shared) (σ:St) (H:au) (Q:Bool->au->Prop),Inv X ae σ H s->t σ H Q ->
  wpAny (model X.prog X.w) X.A (forIn ifs true fun c r=>if r=true then do let ok <- isTrue c X.env (eval c X.env);pure (y' ok) else pure (y' r)) (A6 X ae σ Q) X.dI s
noncomputable def pZ:TT:=fun _ H Q=>Q true H
theorem i0:uZ X [] pZ:=fun _ _ _ H _ J h=>wpAny_tests_nil ⟨H,J,h⟩
theorem sI {t:TT} (h:jt X c t):uZ X [c] t:=fun ae s σ H Q J q=>wpAny_tests_one (h ae s σ H Q J q)
def Sub (σ ax:St):Prop:=ax.length=σ.length/\∀ (i:Nat) (v:V),σ[i]? = some (some v)->ax[i]? = some (some v)
theorem Sub.refl (σ:St):Sub σ σ:=⟨rfl,fun _ _ h=>h⟩
theorem Sub.set {x:Option V} (h:Sub σ ax) (e:σ[i]? = some none):Sub σ (ax.set i x):=by
 refine ⟨by rw [OW];exact h.1,fun j v q=>?_⟩;have aL:i ≠ j:=fun z=>by subst z;rw [e] at q;cases q
 rw [H' aL];exact h.2 j v q
def te (b3:jC) (g:gH) (dv:TT) (bV:TE) (dG:St) (Q:cN) (W:Nat->Nat->List V->au->Prop):Prop:=∀ i m ys H,W i m ys H ->
 (b3.stop i H/\∀ p,H p=none->Q (.ref p) (upd H p (.lst ys))) \/
 (b3.go i H/\ys.length < sizeLine/\∀ x I,b3.pR i H x I->g x dG I fun cn av=>Sub dG cn/\dv cn av fun c bk=>if c=true then bV cn bk fun y b5=>∃ c6,c6 < m/\W (i + 1) c6 (ys ++ [y]) b5 else ∃ c6,c6 < m/\W (i + 1) c6 ys bk)
noncomputable def Je (hN:TI) (g:gH) (dv:TT) (bV:TE) (sel:List (Option Nat)):TE:=fun σ H Q=>hN σ H fun b3 H1=>∃ W:Nat->Nat->List V->au->Prop,(∃ m,W 0 m [] H1)/\te b3 g dv bV (mY sel σ) Q W
section
variable {X:a8} {elt dm iter:Expr} {ifs:List Expr} {scope:Scope} {pos:Pos} {hN:TI} {g:gH} {dv:TT} {bV:TE} {N:List Str} {sel:List (Option Nat)}
structure fP (X:a8) (scope:Scope) (N:List Str) (dm elt:Expr) (ifs:List Expr) (g:gH) (dv:TT) (bV:TE):Prop where
 Vm:∀ C s H bp,mE (X.block scope C N s H bp) dm g
 tests:∀ C s H bp,uZ (X.block scope C N s H bp) ifs dv
 elem:∀ C s H bp,bw (X.block scope C N s H bp) elt bV
theorem fP.of {N:List Str} (af:∀ C s H bp,mE (X.block scope C N s H bp) dm g)
  (ak:∀ C s H bp,∃ t,uZ (X.block scope C N s H bp) ifs t/\t=dv) (bc:∀ C s H bp,∃ t,bw (X.block scope C N s H bp) elt t/\t=bV):fP X scope N dm elt ifs g dv bV:=
 ⟨af,fun C s H bp=>by obtain ⟨t,h,rfl⟩:=ak C s H bp;exact h,fun C s H bp=>by obtain ⟨t,h,rfl⟩:=bc C s H bp;exact h⟩
theorem O5 {ae:List (Addr × Obj)} {d0:Shared} {σ:St} {iJ:au} {Q:cN} {it:Addr} {bp:List Addr} {cc:Nat->Heap->Prop} {b3:jC} {W:Nat->Nat->List V->au->Prop} {E:Value->Shared->Prop} {RR:Value->Addr->Result->Shared->Prop}
  (ay:X.calm=true) (S:qM X.env scope) (rS:zp X.N scope N sel) (B:fP X scope N dm elt ifs g dv bV) (bN:Inv X ae σ iJ d0) (T:pC X.prog X.w X.K dm b3 bp it cc) (rC:cc 0 d0.heap) (f2:∀ b ∈ bp,jx X ae iJ b)
  (nW:∃ m,W 0 m [] iJ) (gk:te b3 g dv bV (mY sel σ) Q W)
  (fin:∀ D C ys I aj,Inv X ae σ (upd I D (.lst ys)) aj->(∃ m,aj.heap.Ns C m)->jx X ae (upd I D (.lst ys)) C->Q (.ref D) (upd I D (.lst ys))->RR (.ref D) C (.ok .next) aj) :
  wpAny (model X.prog X.w) X.A (newList []) (fun acc k_=>wpAny (model X.prog X.w) X.A (newFunctionEnv scope X.env.globals (js X.env.cells scope.names []) [] X.env.qual none .none (some X.env)) (fun QN BC=>
   codeAny (model X.prog X.w) X.A (.compStart (.ListComp elt [⟨dm,iter,ifs,0⟩] scope pos) 0 (.ref it) acc { QN with scope:=relabel scope X.env }) (RR acc QN.locals) BC) E k_) E d0:=by
 refine wpAny_newObj_type (wpAny_newFunctionEnv S.uP (by intro y aY;simp at aY) (fun h₁ GB Ap=>?_) S.kind);dsimp only at GB Ap ⊢;generalize qp:d0.heap.push { cls:=.type "list",dict:=none,data:=.seq ([]:List Value).toArray }=av at GB Ap ⊢;have cV:av.objs.size=d0.heap.objs.size + 1:=by rw [<- qp,P1]
 have wi:d0.heap.objs.size ≠ av.objs.size:=by rw [cV];exact fX (LW _)
 have HM:d0.heap.objs.size <= av.objs.size:=by rw [cV];exact BN _
 have below:∀ b,b < d0.heap.objs.size->b ≠ av.objs.size/\b ≠ d0.heap.objs.size:=fun b aa=>⟨by rw [cV];exact fX (Nat.lt_succ_of_lt aa),fX aa⟩
 have old:∀ b o,d0.heap.get? b=some o->h₁.get? b=some o:=fun b o e=>Ap.extBut b o (below b (ek e)).1 (eP _ (qp ▸ eP _ e))
 have x6:h₁.get? d0.heap.objs.size=some { cls:=.type "list",data:=.seq ([]:List Value).toArray }:=Ap.extBut _ _ wi (eP _ (qp ▸ hp _ rfl));have rp:∀ b ∈ bp,b < d0.heap.objs.size:=fun b aa=>by
  obtain ⟨o,e,_⟩:=T.obj _ _ rC b aa;exact ek e
 generalize aqc:av.objs.size=C at *;generalize oN:d0.heap.objs.size=D at *;have VS:cc 0 h₁:=T.keep _ _ _ rC fun b _ o e=>old b o e
 have XN:Inv (X.block scope C N d0 iJ bp) [] (mY sel σ) iJ { d0 with heap:=h₁,toks:=d0.toks + ([]:List (Str × Value)).length }:=
  aiV bN S f2 (fun b aa=>by rw [oN];exact rp b aa) (by rw [oN];exact HM) old GB rS
 have FW:D ∉ (X.block scope C N d0 iJ bp).aR:=fun z=>by
  have ih:=bN.Bk D z;rcases eZ.mp ih with e | e
  .exact absurd bN.lt (by rw [<- e,oN];exact l_ _)
  .exact bN.FY (by rw [oN];exact bR _) e
 have loop:∀ k_:Shared,k_ = { d0 with heap:=h₁,toks:=d0.toks + ([]:List (Str × Value)).length } ->
   codeAny (model X.prog X.w) X.A (.compLoop (.ListComp elt [⟨dm,iter,ifs,0⟩] scope pos) 0 (.ref it) (.ref D) (compEnvC scope (js X.env.cells scope.names []) C X.env)) (RR (.ref D) C) k_:=by
  rintro k_ rfl;obtain ⟨m0,nW⟩:=nW;refine acL (fun k aj=>∃ i ys us n I,Inv (X.block scope C N d0 iJ bp) [(D,{ cls:=.type "list",data:=.seq us n })] (mY sel σ) I aj/\(∃ vs:List Value,us=vs.toArray/\b1 ys vs)/\ys.length <= sizeLine/\cc i aj.heap/\(∀ b ∈ bp,I b=none)/\W i k ys I) ?_ m0
   ⟨0,[],_,0,iJ,XN.tu fun p aq=>?_,⟨[],rfl,.nil⟩,e5 _,VS,fun b aa=>(f2 b aa).1,nW⟩
  .rintro k aj ⟨i,ys,us,n,I,F5,⟨vs,rfl,cL⟩,VY,st,fr,w⟩;have GD:∀ {pl:List (Addr × Obj)} {h2:au},(∀ p ∈ pl,p.1=D)->(∀ b ∈ bp,h2 b=none)->∀ b ∈ bp,jx (X.block scope C N d0 iJ bp) pl h2 b:=fun {pl h2} aq a3 b aa=>
    ⟨a3 b aa,(below b (rp b aa)).1,(Vs (N:=N) (C:=C) bN S f2 (fun b aa=>by rw [oN];exact rp b aa) (by rw [oN];exact HM)).qK b aa,.inl aa,fun x c e=>(f2 b aa).2.2.2.2.1 x c (vd e),fun p Ce z=>by
     have ajU:p ∈ pl:=by simpa using Ce
     exact (below b (rp b aa)).2 (by rw [<- z];exact aq p ajU)⟩
   have Js:∀ p ∈ [((D,{ cls:=.type "list",data:=.seq vs.toArray n }):Addr × Obj)],p.1=D:=fun p aq=>by
    have e:p=(D,{ cls:=.type "list",data:=.seq vs.toArray n }):=by simpa using aq
    rw [e]
   rcases gk i k ys I w with ⟨stop,MD⟩ | ⟨go,hlen,step⟩
   .refine bF (T.done (X.block scope C N d0 iJ bp) rfl rfl rfl ay i _ aj _ I _ F5 (GD Js fr) st stop) fun r s4 cS=>?_
    obtain ⟨ao,hU⟩:=cS;subst ao;have tL:=hU.pin (D,{ cls:=.type "list",data:=.seq vs.toArray n }) (by simp);have Wo:I D=none:=tL.2.1;have akm:Inv X ae σ I s4:=bN.aa_ (ch:=bp) hU.os hU.base hU.bh hU.bare fun b aa=>⟨(f2 b aa).2.2.2.1,(f2 b aa).2.1,(f2 b aa).2.2.2.2.1,(f2 b aa).2.2.2.2.2⟩
    have th:jx X ae I D:=bN.oq (by rw [oN];exact bR _) Wo;have ab7:Inv X ae σ (upd I D (.lst ys)) s4:=akm.adopt th ⟨VY,vs,n,cL,tL.1⟩;obtain ⟨YK,afj,_⟩:=hU.loc;refine fin D C ys I s4 ab7 ⟨YK,afj⟩ (bN.oq (by rw [oN];exact HM) ?_) (MD D Wo);rw [aA (cX wi)];exact hU.free
   .refine bF (T.item (X.block scope C N d0 iJ bp) rfl rfl rfl ay i _ aj _ I _ F5 (GD Js fr) st go) fun r s4 cS=>?_
    obtain ⟨u,ao,c4⟩:=cS;subst ao;refine bF c4 fun _ s5 cS=>?_
    obtain ⟨x,cP,tM,GC,jN,tF,Fn⟩:=cS;have Jr:=tM.pinned (GD Js Fn) (T.obj _ _ tF);refine bF (B.Vm C d0 iJ bp _ s5 _ cP x u _ Jr GC (step x cP jN)) fun _ g6 cS=>?_
    obtain ⟨mS,fS,wA,oV,Jt⟩:=cS;refine bF (B.tests C d0 iJ bp _ g6 mS fS _ wA Jt) fun c nT cS=>?_
    obtain ⟨gE,kF,n0⟩:=cS;have again:∀ {sF:St} {hz:au} {h8:Shared},Inv (X.block scope C N d0 iJ bp) ([(D,{ cls:=.type "list",data:=.seq vs.toArray n })] ++ x' bp s5.heap) sF hz h8->cc (i + 1) h8.heap/\(∀ b ∈ bp,hz b=none):=fun {sF hz h8} pS=>by
     refine ⟨T.keep _ _ _ tF fun b aa o e=>(pS.pin (b,o) (kI _ (kI _ (DM aa e)))).1,fun b aa=>?_⟩;obtain ⟨o,e,d⟩:=T.obj _ _ tF b aa;exact (pS.pin (b,o) (kI _ (kI _ (DM aa e)))).2.1
    have back:∀ {hz:au} {h8:Shared} {pl:List (Addr × Obj)},Inv (X.block scope C N d0 iJ bp) pl mS hz h8->Inv (X.block scope C N d0 iJ bp) pl (mY sel σ) hz h8:=fun {hz h8 pl} pS=>pS.weak oV.1.symm oV.2
    cases c with
    | false=>
     obtain ⟨c6,hm,eH⟩:=n0;obtain ⟨t1,gr⟩:=again kF;exact ⟨c6,hm,i + 1,ys,_,n,gE,back kF.Aw,⟨vs,rfl,cL⟩,VY,t1,gr,eH⟩
    | true=>
     refine bF (B.elem C d0 iJ bp _ nT mS gE _ kF n0) fun v h8 cS=>?_
     obtain ⟨y,hz,pS,aic,c6,hm,eH⟩:=cS;obtain ⟨t1,gr⟩:=again pS;have tL:=pS.pin (D,{ cls:=.type "list",data:=.seq vs.toArray n }) (by simp);refine append_at (hsz:=by have:=cL.length;rw [d8];omega) tL.1 fun yr WR adR=>?_
     have ak1:Inv (X.block scope C N d0 iJ bp) [] (mY sel σ) hz h8:=(back pS).tu fun p aq=>nomatch aq
     have th:jx (X.block scope C N d0 iJ bp) [] hz D:=⟨tL.2.1,wi,FW,.inr (by show d0.heap.objs.size <= D;rw [oN];exact bR _),(fun x c e z=>by
      obtain ⟨bH,o,aS,hd⟩:=pS.cell x c e;rw [z,tL.1] at aS;cases aS;cases hd),(fun p aq=>nomatch aq)⟩
     have abu:Inv (X.block scope C N d0 iJ bp) [] (mY sel σ) hz { h8 with heap:=yr }:=ak1.turned (t':=h8.toks) (it:=D) (fun b o aa e=>(WR.2 b aa).trans e) th.1 th.2.1 th.2.2.2.1 th.2.2.2.2.1 th.2.2.2.2.2;refine ⟨c6,hm,i + 1,ys ++ [y],vs.toArray.push v,n + 1,hz,abu.tu fun p aq=>?_,⟨vs ++ [v],by simp,Wi cL aic⟩,by rw [dS,tb];omega,T.keep _ _ _ t1 fun b aa o e=>(WR.2 b (below b (rp b aa)).2).trans e,gr,eH⟩;have e:p=(D,{ cls:=.type "list",data:=.seq (vs.toArray.push v) (n + 1) }):=by simpa using aq
     subst e;exact ⟨adR,tL.2.1,wi,FW,fun v z=>by cases z⟩
  .have e:p=(D,{ cls:=.type "list",data:=.seq ([]:List Value).toArray }):=by simpa using aq
   subst e;exact ⟨x6,bN.bh.fresh (by rw [oN];exact bR _),wi,FW,fun v z=>by cases z⟩
 exact codeAny_compStart_list (loop _ rfl) (T.self _ 0 _ _ _ VS (loop _ rfl))
theorem ij (ay:X.calm=true) (ah:o7 X dm iter hN) (S:qM X.env scope) (rS:zp X.N scope N sel) (B:fP X scope N dm elt ifs g dv bV)
  (aB:∀ x,foldedSetIterable iter X.env x=pure x:=by intro _;rfl):bw X (.ListComp elt [⟨dm,iter,ifs,0⟩] scope pos) (Je hN g dv bV sel):=by
 intro ae s σ H Q J h;rw [eval_ListComp];refine wpAny_comprehension_free (use:=none) rfl aB (Vh (S.cells J.ok)) S.kind S.loc ?_;refine bF (ah ae s σ H _ J h) fun v s1 af=>bF af fun Aq s2 ak=>?_
 obtain ⟨it,bp,cc,b3,av,e,bN,T,rC,f2,W,nW,gk⟩:=ak;subst e;refine O5 (RR:=fun acc C=>compPost (model X.prog X.w) X.A X.dI none (gL X ae σ Q) acc C) ay S rS B bN T rC f2 nW gk fun D C ys I aj gz ⟨m,hm⟩ hD q=>?_
 exact ⟨m,hm,fun h' vZ=>⟨.ref D,_,gz.turned (t':=aj.toks) (it:=C) (fun b o aa e=>(vZ.2 b aa).trans e) hD.1 hD.2.1 hD.2.2.2.1 hD.2.2.2.2.1 hD.2.2.2.2.2,rfl,q⟩⟩
theorem Cc {i:Nat} {y:Str} {py Sx:Pos} (bu:X.N.Nodup) (ah:X.N[i]? = some y) (ag:Loc X.env.scope y) (ay:X.calm=true) (hit:o7 X dm iter hN) (S:qM X.env scope) (rS:zp X.N scope N sel) (B:fP X scope N dm elt ifs g dv bV)
  (Dw:swapsWith (.ListComp elt [⟨dm,iter,ifs,0⟩] scope pos) (some (.Name y py)) Sx.line X.env=pure true) (hf:X.fn y=true\/X.env.scope.names.lookup y=some .local:=by first | exact .inl rfl | exact .inr rfl | assumption)
  (aB:∀ x,foldedSetIterable iter X.env x=pure x:=by intro _;rfl):hr X (.Assign [.Name y py] (.ListComp elt [⟨dm,iter,ifs,0⟩] scope pos) Sx) (ue (Je hN g dv bV sel) (gj i)):=by
 intro ae s σ H D J h;rw [exec_Assign_Name_used _ _ _ _ Dw];refine wpAny_bind (wpAny_standAt (wpAny_bind ?_));show wpAny _ X.A (do let _ <- comprehension (.ListComp elt [⟨dm,iter,ifs,0⟩] scope pos) scope X.env _ (newList []) false (eval iter X.env) (some (assign (.Name y py) X.env))) _ _ s;refine wpAny_bind (wpAny_mono (wpAny_comprehension_free (use:=some (assign (.Name y py) X.env)) (Q:=fun _ aj=>rK X ae D .next aj) rfl aB (Vh (S.cells J.ok)) S.kind S.loc ?_) (fun _ aj aD=>wpAny_pure (wpAny_pure aD)) fun _ _ e=>e);refine bF (hit ae s σ H _ J h) fun v s1 af=>bF af fun Aq s2 ak=>?_
 obtain ⟨it,bp,cc,b3,av,e,bN,T,rC,f2,W,nW,gk⟩:=ak;subst e;refine O5 (RR:=fun acc C=>compPost (model X.prog X.w) X.A X.dI (some (assign (.Name y py) X.env)) (fun _ aj=>rK X ae D .next aj) acc C) ay S rS B bN T rC f2 nW gk fun Da C ys I aj gz ⟨m,hm⟩ hD q=>?_
 show wpAny _ X.A (assign (.Name y py) X.env (.ref Da)) _ _ _;refine wpAny_assign_Name (V3 gz bu ah ag (show bK (.ref Da) (.ref Da) from rfl) (fun s3 eI cS=>?_) hf);obtain ⟨a,vZ,aZ⟩:=cS;have afG:C ≠ a:=by
  rcases aZ with z | z
  .rw [z];exact hD.2.1
  .exact fun w=>hD.2.2.2.2.1 y a z w.symm
 refine ⟨m,hm.sameBut vZ afG,fun h' alb=>⟨_,_,eI.turned (t':=s3.toks) (it:=C) (fun b o aa e=>(alb.2 b aa).trans e) hD.1 hD.2.1 hD.2.2.2.1 hD.2.2.2.2.1 hD.2.2.2.2.2,q⟩⟩
end
def p2 (Pv:Nat->List V->au->Prop) (g:gH) (dv:TT) (bV:TE) (dG:St) (i:Nat) (x:V) (ys:List V) (H:au):Prop:=
 ∀ N:List V->au->Prop,(∀ jO I,Pv (i + 1) jO I->N jO I)->g x dG H fun cn av=>Sub dG cn/\dv cn av fun c bk=>if c=true then bV cn bk fun y b5=>N (ys ++ [y]) b5 else N ys bk
theorem Xr {K:ba} (Pv:Nat->List V->au->Prop) (aW:xs.length <= sizeLine) (h0:Pv 0 [] H) (aK:∀ i ys H,i <= xs.length->Pv i ys H->aF K H a xs/\ys.length <= i)
  (aB:∀ i x ys H,xs[i]? = some x->Pv i ys H->p2 Pv g dv bV dG i x ys H) (hd:∀ ys H,Pv xs.length ys H->∀ p,H p=none->Q (.ref p) (upd H p (.lst ys))) :
  ∃ W:Nat->Nat->List V->au->Prop,(∃ m,W 0 m [] H)/\te (nG K a) g dv bV dG Q W:=by
 refine ⟨fun i m ys H=>m=xs.length - i/\i <= xs.length/\Pv i ys H,⟨xs.length,by simp,e5 _,h0⟩,?_⟩;rintro i m ys H ⟨rfl,ah,p⟩;have q:=(aK i ys H ah p).1;have B8:=(aK i ys H ah p).2;by_cases dW:i < xs.length
 .refine .inr ⟨⟨xs,xs[i],q,by simp [dW]⟩,by omega,fun x I y=>?_⟩;obtain ⟨e,y⟩:=y;subst e;exact aB i x ys _ (y xs q) p (fun jO I=>∃ c6,c6 < xs.length - i/\c6=xs.length - (i + 1)/\i + 1 <= xs.length/\Pv (i + 1) jO I) fun jO I r=>⟨xs.length - (i + 1),by omega,rfl,dW,r⟩
 .have e:i=xs.length:=by omega
  subst e;exact .inl ⟨⟨xs,q,bR _⟩,hd ys H p⟩
theorem ajS {K:ba} (Pv:Nat->List V->au->Prop) (aW:xs.length <= sizeLine) (h0:Pv 0 [] H) (aK:∀ i ys H,i <= xs.length->Pv i ys H->de K H a xs/\ys.length <= i)
  (aB:∀ i x ys H,xs[i]? = some x->Pv i ys H->p2 Pv g dv bV dG i x ys H) (hd:∀ ys H,Pv xs.length ys H->∀ p,H p=none->Q (.ref p) (upd H p (.lst ys))) :
  ∃ W:Nat->Nat->List V->au->Prop,(∃ m,W 0 m [] H)/\te (EF K a) g dv bV dG Q W:=by
 refine ⟨fun i m ys H=>m=xs.length - i/\i <= xs.length/\Pv i ys H,⟨xs.length,by simp,e5 _,h0⟩,?_⟩;rintro i m ys H ⟨rfl,ah,p⟩;have q:=(aK i ys H ah p).1;have B8:=(aK i ys H ah p).2;by_cases dW:i < xs.length
 .refine .inr ⟨⟨xs,xs[i],q,by simp [dW]⟩,by omega,fun x I y=>?_⟩;obtain ⟨e,y⟩:=y;subst e;exact aB i x ys _ (y xs q) p (fun jO I=>∃ c6,c6 < xs.length - i/\c6=xs.length - (i + 1)/\i + 1 <= xs.length/\Pv (i + 1) jO I) fun jO I r=>⟨xs.length - (i + 1),by omega,rfl,dW,r⟩
 .have e:i=xs.length:=by omega
  subst e;exact .inl ⟨⟨xs,q,bR _⟩,hd ys H p⟩
theorem Zq {lo:Int} {n:Nat} {g:gH} {dv:TT} {bV:TE} {dG:St} {Q:cN} {H:au} (Pv:Nat->List V->au->Prop) (aW:n <= sizeLine) (h0:Pv 0 [] H) (aK:∀ i ys H,i <= n->Pv i ys H->ys.length <= i)
  (aB:∀ i ys H,i < n->Pv i ys H->p2 Pv g dv bV dG i (.int (lo + i)) ys H) (hd:∀ ys H,Pv n ys H->∀ p,H p=none->Q (.ref p) (upd H p (.lst ys))) :
  ∃ W:Nat->Nat->List V->au->Prop,(∃ m,W 0 m [] H)/\te (oa lo n) g dv bV dG Q W:=by
 refine ⟨fun i m ys H=>m=n - i/\i <= n/\Pv i ys H,⟨n,by simp,e5 _,h0⟩,?_⟩;rintro i m ys H ⟨rfl,ah,p⟩;have B8:=aK i ys H ah p;by_cases dW:i < n
 .refine .inr ⟨dW,by omega,fun x I y=>?_⟩;obtain ⟨e,y⟩:=y;subst e y;exact aB i ys _ dW p (fun jO I=>∃ c6,c6 < n - i/\c6=n - (i + 1)/\i + 1 <= n/\Pv (i + 1) jO I) fun jO I r=>⟨n - (i + 1),by omega,rfl,dW,r⟩
 .have e:i=n:=by omega
  subst e;exact .inl ⟨bR _,hd ys H p⟩
noncomputable def qy (xs:List V):jC:=⟨fun i _=>i < xs.length,fun i H x I=>I=H/\xs[i]? = some x,fun i _=>xs.length <= i⟩
theorem P0 {w:World} {K:ba} {it:Addr} {St:Nat->Heap->Prop} (gk:∀ A:Around,A.handled=none->Walks P w A it [it] [it] xs.length ac1 St)
  (cD:∀ i v,ac1 i v->∃ x,xs[i]? = some x/\bK x v)
  (uv:∀ i h,St i h->∃ o n vs,h.get? it=some o/\o.cls=.type n/\o.data=.fields vs/\["enumerate","zip","dict_itemiterator","dict_reverseitemiterator","odict_iterator","itertools.zip_longest","itertools.pairwise"].contains n=false)
  (Et:∀ i h h',St i h->(∀ o,h.get? it=some o->h'.get? it=some o)->St i h')
  (Y5:∀ (A:Around) (i:Nat) (s:Shared) (Q:Value->Shared->Prop) (E:Value->Shared->Prop),St i s.heap->Q (.ref it) s->wpAny (model P w) A (pyIter (.ref it)) Q E s) :
  pC P w K dm (qy xs) [it] it (fun i h=>i <= xs.length/\St i h) where
 mem:=by simp
 obj:=fun i h st b aa=>by
  have e:b=it:=by simpa using aa
  subst e;obtain ⟨o,n,vs,e,_,d,_⟩:=uv i h st.2;exact ⟨o,e,fun v z=>by rw [d] at z;cases z⟩
 keep:=fun i h h' st k=>⟨st.1,Et i h h' st.2 fun o e=>k it (by simp) o e⟩
 item:=by
  intro X ME hw fB ay i ae s σ H E J hf st bj;subst ME hw fB;obtain ⟨f0,f1,f2,eM,f4,e7⟩:=hf it (by simp);refine (gk X.A (J.ok.hd ay)).item i s _ _ bj st.2 fun v h' tk aJ kR jX=>?_
  obtain ⟨x,ag,a_⟩:=cD i v aJ;have aU:Inv X ae σ H { s with heap:=h',toks:=tk }:=J.turned (fun b o aa e=>jX b o (by simpa using aa) e) f0 f1 eM f4 e7;obtain ⟨o,n,vs,e,c,d,nm⟩:=uv _ _ kR;exact ⟨v,rfl,yJ (s:={ s with heap:=h',toks:=tk }) e c d nm ⟨x,H,aU,a_,⟨rfl,ag⟩,⟨bj,kR⟩,fun b aa=>(hf b aa).1⟩⟩
 done:=by
  intro X ME hw fB ay i ae s σ H E J hf st bj;subst ME hw fB;obtain ⟨f0,f1,f2,eM,f4,e7⟩:=hf it (by simp);have e:i=xs.length:=Nat.le_antisymm st.1 bj;subst e;exact (gk X.A (J.ok.hd ay)).done s _ _ st.2 fun h' tk jX=>⟨rfl,J.turned (fun b o aa e=>jX b o (by simpa using aa) e) f0 f1 eM f4 e7⟩
 self:=fun A i s Q E st h=>Y5 A i s Q E st.2 h
noncomputable def jq (c:Nat):Str:=⟨#[c]⟩
noncomputable def nU (x:Str):List V:=x.cps.toList.map fun c=>V.str (jq c)
theorem RM (x:Str):(nU x).length=x.cps.size:=by unfold nU;simp
theorem anA {x:Str} {i c:Nat} (h:x.cps[i]? = some c):(nU x)[i]? = some (.str (jq c)):=by
 unfold nU;rw [dO,Hg,h];rfl
theorem WO {x:Str} {i:Nat} {v:Value} (h:SignAt x i v):∃ y,(nU x)[i]? = some y/\bK y v:=by
 obtain ⟨c,u,ay,rfl⟩:=h;exact ⟨.str (jq c),anA ay,u,rfl⟩
section
variable {X:a8} {dm:Expr}
noncomputable def HL (dq:TE):TI:=fun σ H R=>dq σ H fun x H1=>∃ z,x=.str z/\R (qy (nU z)) H1
theorem ahX (aK:bw X l dq):o7 X dm l (HL dq):=by
 intro ae s σ H R J h;refine bF (aK ae s σ H _ J h) fun v s1 b4=>d1 b4 fun x H1 aU bC bO=>?_
 obtain ⟨z,e,q⟩:=bO;subst e;obtain ⟨t,rfl⟩:=bC;have hD:∀ b ∈ [s1.heap.objs.size],jx X ae H1 b:=fun b aa=>by
  have e:b=s1.heap.objs.size:=by simpa using aa
  subst e;exact aU.oq (bR _) (aU.bh.fresh (bR _))
 have aW:=RM z;cases aZ:z.cps.all (· < 128) with
 | false=>
  refine wpAny_pyIter_wide aZ ⟨s1.heap.objs.size,[s1.heap.objs.size],fun i h=>i <= (nU z).length/\h.IsStrIter s1.heap.objs.size "str_iterator" z t i,_,H1,rfl,aU.kept (t':=s1.toks) fun b o e=>eP _ e,
   P0 (fun A jZ=>by rw [aW];exact Walks.strWide jZ _ z t) (fun i v=>WO) (fun i h ⟨o,e,c,d⟩=>⟨o,_,_,e,c,d,by decide⟩) (fun i h h' ⟨o,e,r⟩ k=>⟨o,k o e,r⟩) (fun A i s Q E st q=>wpAny_pyIter_striter_wide st q),
   ⟨e5 _,_,hp _ rfl,rfl,rfl⟩,hD,q⟩
 | true=>
  refine wpAny_pyIter_ascii aZ ⟨s1.heap.objs.size,[s1.heap.objs.size],fun i h=>i <= (nU z).length/\h.IsStrIter s1.heap.objs.size "str_ascii_iterator" z t i,_,H1,rfl,aU.kept (t':=s1.toks) fun b o e=>eP _ e,
   P0 (fun A jZ=>by rw [aW];exact Walks.strAscii jZ _ z t) (fun i v=>WO) (fun i h ⟨o,e,c,d⟩=>⟨o,_,_,e,c,d,by decide⟩) (fun i h h' ⟨o,e,r⟩ k=>⟨o,k o e,r⟩) (fun A i s Q E st q=>wpAny_pyIter_striter_ascii st q),
   ⟨e5 _,_,hp _ rfl,rfl,rfl⟩,hD,q⟩
end
theorem ak' {xs:List V} {g:gH} {bT:ea} {D:ho} {σ:St} {H:au} (Pv:Nat->St->au->Prop) (h0:Pv 0 σ H)
  (aB:∀ i x σ H,xs[i]? = some x->Pv i σ H->g x σ H fun cn av=>bT { D with b8:=Pv (i + 1),e_:=Pv (i + 1),cI:=D.b8 } cn av) (hd:∀ σ H,Pv xs.length σ H->D.b8 σ H) :
  ∃ W:Nat->Nat->St->au->Prop,(∃ m,W 0 m σ H)/\∀ i m σ H,W i m σ H ->
   ((qy xs).stop i H/\D.b8 σ H)\/((qy xs).go i H/\∃ N:St->au->Prop,(∀ ax I,N ax I->∃ c6,c6 < m/\W (i + 1) c6 ax I)/\∀ x I,(qy xs).pR i H x I->g x σ I fun cn av=>bT { D with b8:=N,e_:=N,cI:=D.b8 } cn av):=by
 refine ⟨fun i m σ H=>m=xs.length - i/\i <= xs.length/\Pv i σ H,⟨xs.length,by simp,e5 _,h0⟩,?_⟩;rintro i m σ H ⟨rfl,ah,p⟩;by_cases dW:i < xs.length
 .refine .inr ⟨dW,Pv (i + 1),fun ax I iv=>⟨xs.length - (i + 1),by omega,rfl,dW,iv⟩,fun x I y=>?_⟩;obtain ⟨e,y⟩:=y;subst e;exact aB i x σ _ y p
 .have e:i=xs.length:=by omega
  subst e;exact .inl ⟨bR _,hd σ H p⟩
theorem amo (Pv:Nat->List V->au->Prop) (aW:xs.length <= sizeLine) (h0:Pv 0 [] H) (aK:∀ i ys H,i <= xs.length->Pv i ys H->ys.length <= i)
  (aB:∀ i x ys H,xs[i]? = some x->Pv i ys H->p2 Pv g dv bV dG i x ys H) (hd:∀ ys H,Pv xs.length ys H->∀ p,H p=none->Q (.ref p) (upd H p (.lst ys))) :
  ∃ W:Nat->Nat->List V->au->Prop,(∃ m,W 0 m [] H)/\te (qy xs) g dv bV dG Q W:=by
 refine ⟨fun i m ys H=>m=xs.length - i/\i <= xs.length/\Pv i ys H,⟨xs.length,by simp,e5 _,h0⟩,?_⟩;rintro i m ys H ⟨rfl,ah,p⟩;have B8:=aK i ys H ah p;by_cases dW:i < xs.length
 .refine .inr ⟨dW,by omega,fun x I y=>?_⟩;obtain ⟨e,y⟩:=y;subst e;exact aB i x ys _ y p (fun jO I=>∃ c6,c6 < xs.length - i/\c6=xs.length - (i + 1)/\i + 1 <= xs.length/\Pv (i + 1) jO I) fun jO I r=>⟨xs.length - (i + 1),by omega,rfl,dW,r⟩
 .have e:i=xs.length:=by omega
  subst e;exact .inl ⟨bR _,hd ys H p⟩
section
variable {X:a8}
noncomputable def GT:V->Option Int->Option Int->au->cN->Prop:=fun x lo ah H Q=>∃ z,x=.str z/\z.length <= sizeLine/\Q (.str (lI z lo ah)) H
theorem AD:Cx X GT:=by
 intro ae s σ H x v jU jW lo ah cf Q J a_ aB pl pu h;obtain ⟨z,rfl,aW,q⟩:=h;obtain ⟨t,rfl⟩:=a_;refine ⟨"str",_,F.slot_str_getitem.lookup,typeIs_str s z t,?_⟩;have fin:∀ t' k,gL X ae σ Q (.str (lI z lo ah) t') { s with toks:=k }:=fun t' k=>⟨.str _,H,J.tok _,⟨_,rfl⟩,q⟩
 cases pl with
 | none=>
  cases pu with
  | none=>exact wpAny_getItem_str_slice (l:=none) (u:=none) (st:=none) aB rfl (post_val_or_str ⟨c7 (v7 z _ _) aW,fin⟩)
  | int j Ja=>exact wpAny_getItem_str_slice (l:=none) (u:=some (j,Ja)) (st:=none) aB rfl (post_val_or_str ⟨c7 (v7 z _ _) aW,fin⟩)
 | int i VX=>
  cases pu with
  | none=>exact wpAny_getItem_str_slice (l:=some (i,VX)) (u:=none) (st:=none) aB rfl (post_val_or_str ⟨c7 (v7 z _ _) aW,fin⟩)
  | int j Ja=>exact wpAny_getItem_str_slice (l:=some (i,VX)) (u:=some (j,Ja)) (st:=none) aB rfl (post_val_or_str ⟨c7 (v7 z _ _) aW,fin⟩)
noncomputable def aX (ys:List Str):List V:=ys.map V.str
theorem anj:∀ {ys:List Str} {us:List Value},b1 (aX ys) us->StrsAre us ys:=by
 intro ys
 induction ys with
 | nil=>intro us r;cases r;exact .nil
 | cons y ys b7=>
  intro us r;cases r with
  | cons bC c0=>
   obtain ⟨t,rfl⟩:=bC;exact .cons y t (b7 c0)
theorem Ol:∀ (l:List (Str × Tok)),b1 (aX (l.map (·.1))) (strValues l)
 | []=>.nil
 | (x,t) :: r=>.cons ⟨t,rfl⟩ (Ol r)
noncomputable def GQ (K:ba):V->List V->au->cN->Prop:=fun x vs H Q=>∃ sep p ys,x=.str sep/\vs=[.ref p]/\aF K H p (aX ys)/\(ys.map (·.length)).sum + ys.length * sep.length <= 16777216/\Q (.str (pI sep ys)) H
theorem xS:uI X "str.join" (GQ X.K):=by
 intro ae s σ H x xs v us Q J a_ cL h;obtain ⟨sep,p,ys,rfl,rfl,aD,aW,q⟩:=h;obtain ⟨t,rfl⟩:=a_;obtain ⟨u,rfl,eG⟩:=kp cL;cases eG;obtain ⟨a4,r,pl,_⟩:=J.list aD;exact join_list pl.isList (by simpa using anj r) aW fun t' k=>⟨.str _,H,J.tok _,⟨_,rfl⟩,q⟩
end
theorem ahD {prog:Program} {w:World} {A:Around} {x y:Str} {t u:Tok} (aY:(y.length == 0)=false)
  (h:∀ l k,l.map (·.1)=iY x y->Q (.ref s.heap.objs.size) { s with heap:=s.heap.push { cls:=.type "list",data:=.seq (strValues l).toArray },toks:=k }) (hsz:x.length + 2 <= sizeLine) :
  wpAny (model prog w) A (call (.builtin "str.split") [.str x t,.str y u]) Q E s:=by
 have a3:(adp x (tr x y 0 x.length (x.length + 1)) y.length).length <= sizeLine:=by
  have aw:=StrLaws.occ_length_le x y 0 x.length (x.length + 1);rw [length_partsBetween];omega
 cases af:(decide (x.length < y.length) || decide (ajX x < ajX y))
 .cases hf:(tr x y 0 x.length (x.length + 1)).isEmpty
  .refine call_meets Bz (typeIs_str _ _ _) SE (NF _ _) (meets_str_split_sep x y t u af aY hf (by omega) a3) ?_;show wants Q E _ { s with toks:=_,heap:=s.heap.push { cls:=.type "list",data:=.seq (strsFrom s.toks (adp x (tr x y 0 x.length (x.length + 1)) y.length)).toArray } };rw [strsFrom_eq];exact h (numbered s.toks _) _ ((numbered_texts _ _).trans ((if_neg (ne_true_of_eq_false af)).trans (if_neg (ne_true_of_eq_false hf))).symm)
  .exact call_meets Bz (typeIs_str _ _ _) SE (NF _ _) (meets_str_split_not_found x y t u af aY hf)
    (h [(x,t)] s.toks ((if_neg (ne_true_of_eq_false af)).trans (if_pos hf)).symm)
 .exact call_meets Bz (typeIs_str _ _ _) SE (NF _ _) (meets_str_split_cannot_occur x y t u af)
   (h [(x,t)] s.toks (if_pos af).symm)
section
variable {X:a8}
noncomputable def Ll:V->List V->au->cN->Prop:=fun x vs H Q=>∃ z y,x=.str z/\vs=[.str y]/\y.length ≠ 0/\z.length + 2 <= sizeLine/\(iY z y).length <= sizeLine/\∀ p,H p=none->Q (.ref p) (upd H p (.lst (aX (iY z y))))
theorem Sv:uI X "str.split" Ll:=by
 intro ae s σ H x xs v us Q J a_ cL h;obtain ⟨z,y,rfl,rfl,aY,aW,a3,q⟩:=h;obtain ⟨t,rfl⟩:=a_;obtain ⟨u,rfl,eG⟩:=kp cL;obtain ⟨apN,rfl⟩:=eG;refine ahD (by simpa using aY) (fun l k aK=>?_) aW;refine ⟨.ref s.heap.objs.size,_,J.laid (t':=k) (o:=.lst (aX (iY z y))) (fun b o e=>eP _ e) (bR _) ⟨by unfold aX;rw [aO];exact a3,strValues l,0,by rw [<- aK];exact Ol l,hp _ rfl⟩,rfl,q _ (J.bh.fresh (bR _))⟩
theorem aj3:ki X (.type "int") (fun xs H Q=>∃ z n,xs=[.str z]/\intText? z=some n/\z.length <= 640/\Q (.int n) H):=by
 intro ae s σ H xs us Q J r h;obtain ⟨z,n,rfl,a3,aW,q⟩:=h;obtain ⟨u,rfl,t,rfl⟩:=kp r;exact PySem.W.KIN.call_text a3 aW ⟨.int n,H,J.tok _,⟨_,rfl⟩,q⟩
theorem Kq:∀ {bs:List Bool} {us:List Value},b1 (bs.map V.bB) us->us=bs.map kE
 | [],_,.nil=>rfl
 | b :: bs,_,.cons r t=>by
  have e:_=kE b:=r;rw [e,Kq t];rfl
theorem Nr {A:Around} (bs:List Bool):TruthOf X.prog X.w A (fun i v=>(bs.map kE).toArray[i]? = some v) (fun i=>bs.getD i true):=by
 intro i v s Q E cD a9;have e:(bs.map kE)[i]? = some v:=by simpa using cD
 rw [dO] at e;cases q:bs[i]? with
 | none=>rw [q] at e;cases e
 | some b=>
  rw [q] at e;have bM:kE b=v:=dX e;subst bM;refine wpAny_truthy_bool ?_;have:bs.getD i true=b:=by simp [Bf,q]
  have CM:Q (bs.getD i true) s:=a9;rw [this] at CM;exact CM
theorem am_ (bs:List Bool):(fW bs.length).all (fun i=>bs.getD i true)=bs.all id:=by
 rw [lp];simp only [pE,sq,id];constructor
 .intro h b aa;obtain ⟨i,ah,e⟩:=agE.mp aa;have:=h i ah;simp [Bf,ah,e] at this;exact this
 .intro h i ah;simp [Bf,ah];exact h _ (kT ah)
theorem ZF (bs:List Bool):(fW bs.length).any (fun i=>bs.getD i true)=bs.any id:=by
 rw [lp];simp only [tl,sq,id];constructor
 .rintro ⟨i,ah,h⟩;refine ⟨bs[i],kT ah,?_⟩;simp [Bf,ah] at h;exact h
 .rintro ⟨b,aa,h⟩;obtain ⟨i,ah,e⟩:=agE.mp aa;refine ⟨i,ah,?_⟩;simp [Bf,ah,e];exact h
theorem GM (ay:X.calm=true):ki X (.builtin "all") (fun xs H Q=>∃ (p:Addr) (bs:List Bool),xs=[.ref p]/\aF X.K H p (bs.map V.bB)/\Q (.bB (bs.all id)) H):=by
 intro ae s σ H xs us Q J r h;obtain ⟨p,bs,rfl,aD,q⟩:=h;obtain ⟨u,rfl,eG⟩:=kp r;cases eG;obtain ⟨a4,cL,pl,_⟩:=J.list aD;have e:=Kq cL;subst e;refine call_all_walk (wpAny_pyIter_list pl.isList ?_);have cx:p ≠ s.heap.objs.size:=fX (by obtain ⟨o,_,aS,_⟩:=pl;exact ek aS);refine ⟨s.heap.objs.size,_,_,_,_,_,fun i=>bs.getD i true,rfl,A2 (show X.A.in1.handled=none from J.ok.hd ay) _ p cx (bs.map kE).toArray,⟨⟨_,hp _ rfl,rfl,rfl⟩,pl.isList.at fun o e=>eP _ e⟩,Nr bs,fun h' tk jX=>?_⟩;refine ⟨.bB (bs.all id),H,J.kept fun b o e=>jX b o (by simpa using fX (ek e)) (eP _ e),?_,q⟩;show kE _=kE _;rw [show (bs.map kE).toArray.size=bs.length by simp,am_]
theorem amt (ay:X.calm=true):ki X (.builtin "any") (fun xs H Q=>∃ (p:Addr) (bs:List Bool),xs=[.ref p]/\aF X.K H p (bs.map V.bB)/\Q (.bB (bs.any id)) H):=by
 intro ae s σ H xs us Q J r h;obtain ⟨p,bs,rfl,aD,q⟩:=h;obtain ⟨u,rfl,eG⟩:=kp r;cases eG;obtain ⟨a4,cL,pl,_⟩:=J.list aD;have e:=Kq cL;subst e;refine call_any_walk (wpAny_pyIter_list pl.isList ?_);have cx:p ≠ s.heap.objs.size:=fX (by obtain ⟨o,_,aS,_⟩:=pl;exact ek aS);refine ⟨s.heap.objs.size,_,_,_,_,_,fun i=>bs.getD i true,rfl,A2 (show X.A.in1.handled=none from J.ok.hd ay) _ p cx (bs.map kE).toArray,⟨⟨_,hp _ rfl,rfl,rfl⟩,pl.isList.at fun o e=>eP _ e⟩,Nr bs,fun h' tk jX=>?_⟩;refine ⟨.bB (bs.any id),H,J.kept fun b o e=>jX b o (by simpa using fX (ek e)) (eP _ e),?_,q⟩;show kE _=kE _;rw [show (bs.map kE).toArray.size=bs.length by simp,ZF]
end
theorem eJ {X:a8} {N:List Str} (h:N.Nodup) (e:X.N=N):X.N.Nodup:=e ▸ h
noncomputable def Qx (sc scope:Scope):Bool:=
 (scope.kind == .function) && scope.names.all (fun y=>y.2 != .cell) && scope.names.all (fun y=>y.2 != .free || sc.names.lookup y.1 == some .cell || sc.names.lookup y.1 == some .free) &&
  scope.names.all (fun y=>y.2 != .local || scope.names.lookup y.1 == some .local)
theorem g0 {env:Env} (he:env.scope=sc) (h:Qx sc scope=true):qM env scope:=by
 subst he;unfold Qx at h;simp only [jF,pE] at h;obtain ⟨⟨⟨af,ak⟩,bc⟩,c4⟩:=h;refine ⟨by simpa using af,fun y aY e=>?_,fun y aY e=>?_,fun y aY e=>?_⟩
 .have:=ak y aY;rw [e] at this;exact absurd this (by decide)
 .have:=bc y aY;rw [e] at this;simp only [yH] at this;rcases this with (z | z) | z
  .exact absurd z (by decide)
  .exact .inl (show env.scope.names.lookup y.1=some .cell by simpa using z)
  .exact .inr (show env.scope.names.lookup y.1=some .free by simpa using z)
 .have:=c4 y aY;rw [e] at this;simp only [yH] at this;rcases this with z | z
  .exact absurd z (by decide)
  .simpa using z
noncomputable def Vv (M:List Str) (scope:Scope) (N:List Str) (sel:List (Option Nat)):Bool:=
 sel.length == N.length && (sel.zip N).all fun p=>match p.1 with | none=>true | some j=>M[j]? == some p.2 && scope.names.lookup p.2 == some .free
theorem gO {N:List Str} (h:Vv M scope N sel=true):zp M scope N sel:=by
 unfold Vv at h;simp only [jF,pE] at h;refine ⟨by simpa using h.1,fun i j x aw aG=>?_⟩;have hm:(some j,x) ∈ sel.zip N:=by
  rw [List.mem_iff_getElem?];exact ⟨i,by rw [List.getElem?_zip_eq_some];exact ⟨aw,aG⟩⟩
 have:=h.2 _ hm;simp only [jF] at this;exact ⟨by simpa using this.1,by simpa using this.2⟩
noncomputable def pM:dU->Bool
 | .gq _=>false
 | .dx _ u=>pM u
 | _=>true
def aI (H:au):Prop:=∀ b o,H b=some o->pM o=true
theorem d9.back {w:World} {h h':Heap}:∀ (o:dU),pM o=true->d9 P w I h' a o->d9 P w H h a o->d9 P w H h' a o
 | .lst _,_,x,_=>x
 | .tup _,_,x,_=>x
 | .a5 _,_,x,_=>x
 | .gq _,e,_,_=>absurd e (by unfold pM;decide)
 | .set _ _,_,x,_=>x
 | .ins _ _ _,_,x,y=>⟨y.1,x.2⟩
 | .own _,_,x,_=>x
 | .Bs _,_,x,_=>x
 | .met _ _,_,x,_=>x
 | .zG _ _,_,x,_=>x
 | .dx bI u,e,x,y=>⟨x.1,d9.back u (by unfold pM at e;exact e) x.2 y.2⟩
 | .gQ _,_,x,_=>x
 | .ext _,_,x,_=>x
section
variable {P:Program} {w:World} {K:ba} {mg:Str->Option Value} {base:Heap}
theorem cJ.forget {k:Nat} {fd:FuncData} (F:cJ P w K mg base dt k f fd ps sp)
  (h:∀ vs H Q E,mR vs H Q E->aI H/\sp vs H (fun v I=>aN H I/\Q v H) E):cJ P w K mg base dt k f fd ps mR:=by
 refine ⟨fun vs H Q E q=>F.len vs H _ E (h vs H Q E q).2,fun A outer s H args us vs Q E ao he aa aJ aB=>?_⟩;obtain ⟨bG,q⟩:=h vs H Q E aB;refine codeAny_mono (F.run A outer s H args us vs _ E ao he aa aJ q) fun r aj aD=>?_
 cases r with
 | error e=>exact aD
 | ok et=>
  cases et with
  | next=>exact aD
  | brk=>exact aD
  | cont=>exact aD
  | ret u=>
   obtain ⟨v,I,os,bare,un,bh,cL,bg,dV⟩:=aD;exact ⟨v,H,os,bare,⟨un.keep,un.slot,fun _ _ _ n _=>n,un.there,fun _ _ z=>z,fun _ _ _ z=>z,fun _ ps z=>⟨#[],by rw [z];simp⟩⟩,fun a o e=>(bh a o (bg a o e)).back o (bG a o e) (he.bh a o e),cL,dV⟩
end
theorem bf {p:Addr} (h:H p=none):aN H (upd H p o):=fun b u q=>by rw [aA (dj q h)];exact q
theorem aN.gW {p:Addr} (s:aN H H1) (h:H p=none):aN H (upd H1 p o):=fun b u q=>by rw [aA (dj q h)];exact s b u q
structure Sc (K:ba) (a:Addr) (ns:List Int) (H:au):Prop where
 yd:(∃ o,H a=some (.dx o (.lst (ns.map V.int))))\/∃ (o:Obj) (a4:Array Value) (n:Nat),K.lookup a=some o/\o.cls=.type "list" /\ o.dict=none/\o.data=.seq a4 n/\a4.size <= sizeLine/\b1 (ns.map V.int) a4.toList
 bG:aI H
section
variable {K:ba} {a p:Addr} {ns:List Int} {H I:au} {o:dU}
theorem Sc.seq (s:Sc K a ns H):aF K H a (ns.map V.int):=by
 rcases s.yd with ⟨o,h⟩ | h
 .exact .inl (.inr ⟨o,h⟩)
 .exact .inr h
theorem Sc.new (s:Sc K a ns H) (aq:H p=none) (aS:pM o=true:=by rfl):Sc K a ns (upd H p o):=by
 refine ⟨?_,fun b u e=>?_⟩
 .rcases s.yd with ⟨bI,h⟩ | h
  .exact .inl ⟨bI,by rw [aA (dj h aq)];exact h⟩
  .exact .inr h
 .by_cases aa:b=p
  .subst aa;rw [db] at e;cases e;exact aS
  .rw [aA aa] at e;exact s.bG b u e
theorem Sc.set (s:Sc K a ns H) (aq:H p=some u) (bt:∀ bI z,u ≠ .dx bI z) (aS:pM o=true:=by rfl):Sc K a ns (upd H p o):=by
 refine ⟨?_,fun b x e=>?_⟩
 .rcases s.yd with ⟨bI,h⟩ | h
  .refine .inl ⟨bI,?_⟩;have cx:a ≠ p:=fun z=>by subst z;rw [aq] at h;exact bt _ _ (dX h)
   rw [aA cx];exact h
  .exact .inr h
 .by_cases aa:b=p
  .subst aa;rw [db] at e;cases e;exact aS
  .rw [aA aa] at e;exact s.bG b x e
end
theorem iT:bootBuiltins "len"=some (.builtin "len"):=PySem.boot_len
theorem afb:bootBuiltins "all"=some (.builtin "all"):=by ac_nf
theorem aew:bootBuiltins "any"=some (.builtin "any"):=by ac_nf
theorem J':bootBuiltins "min"=some (.builtin "min"):=by ac_nf
theorem Ka:bootBuiltins "max"=some (.builtin "max"):=by ac_nf
theorem aaH:bootBuiltins "sum"=some (.builtin "sum"):=by ac_nf
theorem Jh:bootBuiltins "int"=some (.type "int"):=by ac_nf
theorem yy:bootBuiltins "str"=some (.type "str"):=by ac_nf
theorem sE:bootBuiltins "list"=some (.type "list"):=by ac_nf
theorem alp:bootBuiltins "dict"=some (.type "dict"):=by ac_nf
theorem jR.same (h:jR H a o) (s:aN H I):jR I a o:=by
 rcases h with h | ⟨bI,h⟩
 .exact .inl (s _ _ h)
 .exact .inr ⟨bI,s _ _ h⟩
theorem aF.same {K:ba} (h:aF K H a xs) (s:aN H I):aF K I a xs:=by
 rcases h with h | h
 .exact .inl (h.same s)
 .exact .inr h
theorem de.same {K:ba} (h:de K H a xs) (s:aN H I):de K I a xs:=by
 rcases h with h | h
 .exact .inl (h.same s)
 .exact .inr h
theorem aI.upd {p:Addr} (h:aI H) (aS:pM o=true:=by rfl):aI (upd H p o):=fun b u e=>by
 by_cases aa:b=p
 .subst aa;rw [db] at e;cases e;exact aS
 .rw [aA aa] at e;exact h b u e
theorem Sc.same {K:ba} {ns:List Int} (s:Sc K a ns H) (bg:aN H I) (bG:aI I):Sc K a ns I:=by
 refine ⟨?_,bG⟩;rcases s.yd with ⟨o,h⟩ | h
 .exact .inl ⟨o,bg _ _ h⟩
 .exact .inr h
structure W0 (K:ba) (C:Addr) (m:Str) (f:Addr):Prop where
 ia:Yf K C (.type "type")=true
 fd:aho K (.ref C) (.type "type") m=some (.val (.ref f))
 ga:vo K (.ref C) "__getattribute__"=some (some (.builtin "type.__getattribute__"))
 bJ:sN K (.ref f)=true
structure mN (P:Program) (w:World) (K:ba) (mg:Str->Option Value) (base:Heap) (CX:j1) (k:Nat) (mI:Addr->Prop) (m:Str) (ps:List Str) (my:Addr->bX):Prop where
 ok:∀ C,mI C->∃ f fd,hl K C/\eW K C m f/\cJ P w K mg base CX k f fd ps (my C)/\b6 K fd ps []
noncomputable def MH (mI:Addr->Prop) (m:Str) (my:Addr->bX) (E:gp) (a':TE) (t:f3):TE:=fun σ H Q=>a' σ H fun x H1=>∃ a C ar aR,x=.ref a/\H1 a=some (.ins C ar aR)/\mI C/\aR.lookup m=none /\
 t σ H1 fun vs av=>my C (x :: vs) av Q E
section
variable {X:a8} {CX:j1} {k:Nat} {f C:Addr} {fd:FuncData} {ps:List Str} {sp:bX} {dvs:List V} {ds:List Value} {E:gp} {x m:Str} {p pos fu:Pos} {e o:Expr} {a0:List Expr} {a':TE} {t:f3}
theorem G0 (bj:mj X x) (hm:X.mg x=some (.ref C)) (c:W0 X.K C m f) (F:cJ X.prog X.w X.K X.mg X.base CX k f fd ps sp) (ao:eA k X.A) (aa:b6 X.K fd ps ds) (hd:b1 dvs ds) (ag:pd CX X E) (aZ:jI X (e :: a0) t)
  (nM:(x == ("__debug__" : Str))=false:=by decide) (gd:starEach (e :: a0) X.env=(false,eval e X.env) :: starEach a0 X.env:=by rfl) (cG:(backTo pos (starEach a0 X.env)).any (·.1)=false:=by rfl)
  (cZ:eval (.Call (.Attribute (.Name x p) m fu) (e :: a0) [] pos) X.env=(do
   let dN <- eval (.Name x p) X.env
   standAt fu.atName
   let (f,first) <- holding [dN] (getMethod dN m pl)
   callWith pos f first (backTo pos (starEach (e :: a0) X.env)) (backToKw pos (keywordEach [] X.env))):=by rfl) :
  bw X (.Call (.Attribute (.Name x p) m fu) (e :: a0) [] pos) (xo sp dvs E t):=by
 intro ae s σ H Q J h;refine zA (pl:=pl) (Dx J bj hm ?_ nM) cZ;refine PySem.W.method_cls J.jb c.ga (PySem.W.cls_value J.jb c.ia c.fd rfl ?_);have aU:=J.tok (s.toks + 1);refine Ay (first:=[]) (h₀:=X.base) J.ok.mod.sH c.bJ (bF (aZ pos ae _ σ H _ aU h) fun us s2 ⟨vs,av,bN,r,dC⟩=>⟨bN.jb,?_⟩) gd cG;exact vw F ao aa hd ag bN r dC
variable {mI:Addr->Prop} {my:Addr->bX}
theorem am1 (he:bw X o a') (V:mN X.prog X.w X.K X.mg X.base CX k mI m ps my) (ao:eA k X.A) (ag:pd CX X E) (aZ:jI X (e :: a0) t)
  (gd:starEach (e :: a0) X.env=(false,eval e X.env) :: starEach a0 X.env:=by rfl) (cG:(backTo pos (starEach a0 X.env)).any (·.1)=false:=by rfl)
  (cZ:eval (.Call (.Attribute o m fu) (e :: a0) [] pos) X.env=(do
   let dN <- eval o X.env
   standAt fu.atName
   let (f,first) <- holding [dN] (getMethod dN m pl)
   callWith pos f first (backTo pos (starEach (e :: a0) X.env)) (backToKw pos (keywordEach [] X.env))):=by rfl) :
  bw X (.Call (.Attribute o m fu) (e :: a0) [] pos) (MH mI m my E a' t):=by
 intro ae s σ H Q J h;refine zA (pl:=pl) (bF (he ae s σ H _ J h) fun u s1 cS=>?_) cZ;obtain ⟨x,H1,aU,a_,a,C,ar,aR,ex,gS,ok,l,q⟩:=cS;subst ex;obtain rfl:u=fi a:=a_;obtain ⟨f,fd,c,hm,F,aa⟩:=V.ok C ok;refine Ae aU gS c hm l ?_;refine Ay (first:=[.ref a]) (h₀:=X.base) J.ok.mod.sH hm.bJ (bF (aZ pos ae s1 σ H1 _ aU q) fun us s2 ⟨vs,av,bN,r,dC⟩=>⟨bN.jb,?_⟩) gd cG;exact vw (us:=.ref a :: us) (vs:=.ref a :: vs) (dvs:=[]) F ao aa .nil ag bN (.cons rfl r) (by rw [vJ];exact dC)
theorem EE (he:bw X o a') (V:mN X.prog X.w X.K X.mg X.base CX k mI m ps my) (ao:eA k X.A) (ag:pd CX X E)
  (cZ:eval (.Call (.Attribute o m fu) [] [] pos) X.env=(do
   let dN <- eval o X.env
   standAt fu.atName
   let (f,first) <- holding [dN] (getMethod dN m pl)
   callWith pos f first (backTo pos (starEach [] X.env)) (backToKw pos (keywordEach [] X.env))):=by rfl) :
  bw X (.Call (.Attribute o m fu) [] [] pos) (MH mI m my E a' xb):=by
 intro ae s σ H Q J h;refine zA (pl:=pl) (bF (he ae s σ H _ J h) fun u s1 cS=>?_) cZ;obtain ⟨x,H1,aU,a_,a,C,ar,aR,ex,gS,ok,l,q⟩:=cS;subst ex;obtain rfl:u=fi a:=a_;obtain ⟨f,fd,c,hm,F,aa⟩:=V.ok C ok;refine Ae aU gS c hm l ?_;exact afa (first:=[.ref a]) aU.jb hm.bJ (vw (us:=[.ref a]) (vs:=[.ref a]) (dvs:=[]) F ao aa .nil ag aU (.cons rfl .nil) q)
end
section
variable {X:a8} {x:Str} {p pos:Pos} {i:Expr} {ty:TE} {u:Value} {kvs:List (Str × V)}
end
theorem fw:∀ {aR:List (Str × V)} (bW:List Str),aR.map (·.1)=bW->bW.contains f=false->cT f v aR=aR ++ [(f,v)]
 | [],_,_,_=>rfl
 | (g,y) :: r,bW,e,h=>by
  cases e;rw [eu,VU] at h;have af:=(Aa.mp h);have cx:¬ g=f:=fun z=>by
   have:=af.1;rw [z] at this;simp at this
  show (if g=f then _ else _)=_;rw [if_neg cx,fw _ rfl af.2];rfl
theorem g7 {aR:List (Str × V)} (h:aR.length < n):(cT f v aR).length < n + 1:=f5 (Iy f v aR) (by omega)
theorem ac:∀ {aR:List (Str × V)} (bW:List Str) (i:Nat),aR.map (·.1)=bW->bW.findIdx? (· == f)=some i->aR[i]? = some (f,v)->aR.lookup f=some v
 | [],_,_,_,_,h=>by simp at h
 | (g,y) :: r,bW,i,e,h,aJ=>by
  cases e;rw [eu,List.findIdx?_cons] at h;rw [pU];by_cases e:g=f
  .subst e;rw [beq_self_eq_true,if_pos rfl] at h;cases h;have:(g,y)=(g,v):=by simpa using aJ
   cases this;rw [beq_self_eq_true]
  .rw [beq_eq_false_iff_ne.mpr e,if_neg (by decide)] at h;obtain ⟨j,aL,rfl⟩:=zS.mp h;rw [beq_eq_false_iff_ne.mpr (fun z=>e z.symm)];exact ac _ j rfl aL (by simpa using aJ)
theorem t6:∀ {aR:List (Str × V)} (bW:List Str),aR.map (·.1)=bW->bW.contains f=false->aR.lookup f=none
 | [],_,_,_=>rfl
 | (g,y) :: r,bW,e,h=>by
  cases e;rw [eu,VU] at h;have af:=(Aa.mp h);rw [pU,af.1];exact t6 _ rfl af.2
theorem Inv.Ad {X:a8} {ae:List (Addr × Obj)} {σ:St} {H:au} {s:Shared} {h':Heap} {t':Nat} {bp:List Addr} (J:Inv X ae σ H s) (k:∀ b o,b ∉ bp->s.heap.get? b=some o->h'.get? b=some o)
  (hf:∀ b ∈ bp,jx X ae H b):Inv X ae σ H { s with heap:=h',toks:=t' }:=by
 have nit:∀ b u,H b=some u->b ∉ bp:=fun b u e z=>by rw [(hf b z).1] at e;cases e
 refine J.step (g':=s.gens) (d':=s.drawn) (ch:=bp) (fun b aa=>?_) (fun b o _ _ ay e _=>k b o ay e) (fun b o _ _ ay e _=>⟨o.slots,k b o ay e⟩) (fun _ _ _ _ n=>n)
  (fun b o ay e=>⟨o,k b o ay e⟩) (fun _ _ e=>e) (fun _ _ _ e=>e) (fun b ps e=>⟨#[],by rw [e];simp⟩) (fun m hm=>?_) (fun b u e=>?_) J.bare
 .obtain ⟨f0,f1,f2,eM,f4,e7⟩:=hf b aa;exact ⟨eM,f1,f4,e7⟩
 .obtain ⟨o,a0,ep,aS,r⟩:=hm;exact ⟨o,a0,ep,k _ o (fun z=>(hf _ z).2.1 rfl) aS,r⟩
 .refine (J.bh b u e).og (fun c v ay q=>k c v ?_ q) (fun _ q=>q) fun _ _ q=>q
  rcases ay with z | z
  .rw [z];exact nit b u e
  .exact nit c _ z
noncomputable def Cg (K:ba) (a:Addr):jC:=
 ⟨fun i H=>∃ xs x,aF K H a xs/\xs[i]? = some x,fun i H v I=>∃ p y,H p=none/\v=.ref p/\(∀ xs,aF K H a xs->xs[i]? = some y)/\I=upd H p (.tup [.int i,y]),fun i H=>∃ xs,aF K H a xs/\xs.length <= i⟩
theorem aba {P:Program} {w:World} {K:ba} {a0:List Expr} {k} {pos:Pos} (a e it:Addr) (cx:e ≠ it) :
  pC P w K (.Tuple a0 k pos) (Cg K a) [e,it] e (fun i h=>∃ old,IsEnum h e it ((i:Nat):Int) old/\h.IsListIter it a i) where
 mem:=by simp
 obj:=fun i h ⟨old,he,ah⟩ b aa=>by
  simp only [eZ,qD,or_false] at aa;rcases aa with rfl | rfl
  .exact ⟨_,he,fun v z=>by
    have ih:N9 _=Wf v:=z;cases ih⟩
  .obtain ⟨o,q,c,d⟩:=ah;exact ⟨o,q,fun v z=>by rw [d] at z;cases z⟩
 keep:=fun i h h' ⟨old,he,ah⟩ k=>⟨old,k e (by simp) _ he,ah.at fun o q=>k it (by simp) o q⟩
 item:=by
  intro X cD hw fB ay i ae s σ H E J hf ⟨old,he,ah⟩ bj;subst cD hw fB;obtain ⟨xs,x,aD,ag⟩:=bj;obtain ⟨a4,cL,p,aW⟩:=J.list aD;obtain ⟨u,bt,eG⟩:=cL.get ag;refine wpAny_pyNext_enum_item he ah p.isList (x:=u) (by simpa using bt) cx fun af HR ant DQ Eg yZ=>⟨_,rfl,?_⟩
  refine wpAny_letOwnedTupleGo_enum HR fun ak I8 hW=>?_
  replace hW:uH e af ak:=hW;have xC:e < s.heap.objs.size:=ek he;have aC:∀ b o,b ∉ [e,it]->s.heap.get? b=some o->ak.get? b=some o:=fun b o aa q=>by
   simp only [eZ,qD,or_false,not_or] at aa;exact hW.extBut _ _ aa.1 (yZ b o aa.1 aa.2 q)
  have aU:Inv X ae σ H { s with heap:=ak,toks:=s.toks + 1 }:=J.Ad aC hf;have hD:jx X ae H s.heap.objs.size:=J.oq (bR _) (J.bh.fresh (bR _));have xJ:ak.get? s.heap.objs.size=some { cls:=.type "tuple",data:=.seq #[.int i s.toks,u] }:=(hW.2 _ (BR xC)).trans DQ;have bN:=aU.adopt (o:=.tup [.int i,x]) hD ⟨by show 2 <= sizeLine;decide,[.int i s.toks,u],.cons ⟨_,rfl⟩ (.cons eG .nil),⟨_,xJ,rfl,_,rfl⟩⟩;refine ⟨.ref s.heap.objs.size,_,bN,rfl,⟨_,x,hD.1,rfl,fun ys aY=>by rw [J.yk aY aD];exact ag,rfl⟩,⟨u,?_,?_⟩,fun b aa=>?_⟩
  .have aw:((i + 1:Nat):Int)=(i:Int) + 1:=by omega
   rw [aw];exact I8
  .exact ant.extBut hW.extBut (cX cx)
  .have dW:b < s.heap.objs.size:=by
    simp only [eZ,qD,or_false] at aa;rcases aa with rfl | rfl
    .exact xC
    .obtain ⟨o,q,_⟩:=ah;exact ek q
   rw [aA (fX dW)];exact (hf b aa).1
 done:=by
  intro X cD hw fB ay i ae s σ H E J hf ⟨old,he,ah⟩ bj;subst cD hw fB;obtain ⟨xs,aD,ag⟩:=bj;obtain ⟨a4,cL,p,aW⟩:=J.list aD;have aK:=cL.length;exact wpAny_pyNext_enum_end (J.ok.hd ay) he ah p.isList (by simp;omega) fun h' bz=>⟨rfl,J.Ad (t':=s.toks) (fun b o aa q=>bz b o (fun z=>aa (by simp [z])) q) hf⟩
 self:=fun _ _ _ _ _ ⟨_,he,_⟩ h=>wpAny_pyIter_enum he h
theorem aac:bootBuiltins "enumerate"=some (.type "enumerate"):=by ac_nf
noncomputable def X' (K:ba) (a b:Addr):jC:=
  ⟨fun i H=>∃ xs ys x y,aF K H a xs/\aF K H b ys/\xs[i]? = some x/\ys[i]? = some y,
   fun i H v I=>∃ p x y,H p=none/\v=.ref p/\(∀ xs,aF K H a xs->xs[i]? = some x)/\(∀ ys,aF K H b ys->ys[i]? = some y)/\I=upd H p (.tup [x,y]),
   fun i H=>∃ xs ys,aF K H a xs/\aF K H b ys/\(xs.length <= i\/ys.length <= i)⟩
section
variable {X:a8}
noncomputable def K8 (K:ba) (a':f3):TI:=fun σ H R=>a' σ H fun vs H1=>∃ a,vs=[.ref a]/\(∃ xs,aF K H1 a xs)/\R (Cg K a) H1
theorem Ty {k} {p pos:Pos} (bj:mj X "enumerate") (hm:X.mg "enumerate"=none) (aZ:jI X [a] a') (aB:starEach [a] X.env=[(false,eval a X.env)]:=by rfl) :
  o7 X (.Tuple a0 k t2) (.Call (.Name "enumerate" p) [a] [] pos) (K8 X.K a'):=by
 intro ae s σ H R J h;refine Call_ (wd J bj hm aac (Sd (bF (aZ pos ae s σ H _ J h) fun us s1 cS=>?_) aB rfl));obtain ⟨vs,H1,aU,bC,bO⟩:=cS;obtain ⟨a,e,⟨xs,aD⟩,q⟩:=bO;subst e;cases bC with
 | cons r tx=>
  cases tx;cases r;obtain ⟨a4,cL,pl,aW⟩:=aU.list aD;refine call_enumerate_list pl.isList fun h' vQ Mx hsz aC=>wpAny_pyIter_enum vQ ?_
  refine ⟨s1.heap.objs.size + 1,[s1.heap.objs.size + 1,s1.heap.objs.size],_,_,H1,rfl,aU.kept (t':=s1.toks) aC,aba a _ _ (Nat.succ_ne_self _),⟨_,vQ,Mx⟩,fun b aa=>?_,q⟩;have fF:s1.heap.objs.size <= b:=by
   simp only [eZ,qD,or_false] at aa;rcases aa with rfl | rfl
   .exact BN _
   .exact bR _
  exact aU.oq fF (aU.bh.fresh fF)
end
theorem la {k:Nat} {t:tA} {K:ba} (fB:X.K=K) (ay:X.calm=true) (h:yP X a0 t)
  (a3:(assignEach a0 X.env).length=n:=by rfl) (gd:(assignEach a0 X.env).findIdx? (·.1)=none:=by rfl):mE X (.Tuple a0 k pos) (uW K n t):=by
 subst fB;exact acy ay h a3 gd
section
variable {X:a8}
noncomputable def KW:V->List V->au->cN->Prop:=fun x vs H Q=>∃ l xs i y,x=.ref l/\vs=[.int i,y]/\H l=some (.lst xs)/\0 <= i/\i < 2 ^ 62/\i <= (xs.length:Int)/\xs.length < sizeLine/\Q .b' (upd H l (.lst (xs.take i.toNat ++ y :: xs.drop i.toNat)))
theorem S3:Cj X "list.insert" KW:=by
 intro ae s σ H x vs v us Q J a_ cL h;obtain ⟨l,xs,i,y,rfl,rfl,jT,h0,af,ak,aW,q⟩:=h;cases a_;cases cL with
 | cons jV rr=>
  cases rr with
  | @cons _ w _ _ hb rc=>
   cases rc;obtain ⟨t,rfl⟩:=jV;obtain ⟨z,a4,n,r,aK,e⟩:=J.y0 jT;refine call_meets Us ⟨_,e,rfl⟩ F.entry_list_insert (F.args_list_insert_3 _ _ _) (AutoListH.list_insert_list_int_val_1 l a4.toArray n i t w (by rw [fitsIndex_both (k:=i) (by omega) (by omega)];decide) (by rw [d8];omega)) ⟨e,?_⟩;refine ⟨.b',_,J.EG (its':=a4.take i.toNat ++ w :: a4.drop i.toNat) jT e ?_ ((r.take i.toNat).append (.cons hb (r.drop i.toNat))) ?_,rfl,q⟩
   .have aC:(if i < 0 then (i + ((a4.toArray.size:Nat):Int)).toNat else min i.toNat a4.toArray.size)=i.toNat:=by
     rw [if_neg (by omega),d8];omega
    show (a4.toArray.extract 0 (if i < 0 then (i + ((a4.toArray.size:Nat):Int)).toNat else min i.toNat a4.toArray.size)).push w ++ a4.toArray.extract (if i < 0 then (i + ((a4.toArray.size:Nat):Int)).toNat else min i.toNat a4.toArray.size)=_;rw [aC];apply T'.mp;simp;exact Fm (by rw [t8];exact bR _)
   .rw [dS,hT,gK,t8];omega
theorem Nz {P:Nat->Value->Prop} {f:Nat->V} (cD:∀ i v,P i v->bK (f i) v):∀ (l:List Value) (k:Nat),(∀ j v,l[j]? = some v->P (k + j) v)->b1 ((fW l.length).map fun i=>f (k + i)) l
 | [],_,_=>.nil
 | v :: r,k,h=>by
  rw [hT,List.range_succ_eq_map,eu,nr];refine .cons (cD _ _ (h 0 v rfl)) ?_;have:=Nz cD r (k + 1) fun j w aL=>by
   have:=h (j + 1) w (by simpa using aL);rwa [show k + 1 + j=k + (j + 1) by omega]
  have e:(fun i=>f (k + 1 + i))=((fun i=>f (k + i)) ∘ Nat.succ):=funext fun i=>by
   show f (k + 1 + i)=f (k + (i + 1));rw [show k + 1 + i=k + (i + 1) by omega]
  rwa [e] at this
theorem Zr {P:Nat->Value->Prop} {f:Nat->V} (cD:∀ i v,P i v->bK (f i) v) {acc:Array Value} {n:Nat} (h:ItemsOf P acc n):b1 ((fW n).map f) acc.toList:=by
 have:=Nz cD acc.toList 0 fun j v aL=>by
  rw [ZU];exact h.2 j v (by rw [<- Hg];exact aL)
 rw [show acc.toList.length=n by rw [A3];exact h.1] at this;simpa using this
end
inductive h1 (K:ba) (H:au):Nat->V->V->Bool->Prop
 | flat {k:Nat} {x y:V} (ag:lH x=true) (aY:lH y=true):h1 K H k x y (kv x y)
 | lst {k:Nat} {p q:Addr} {xs ys:List V} {e:Nat->Bool} (aq:aF K H p xs) (aD:aF K H q ys) (aK:xs.length=ys.length) (he:∀ (j:Nat) (x y:V),xs[j]? = some x->ys[j]? = some y->h1 K H k x y (e j)):h1 K H (k + 1) (.ref p) (.ref q) ((fW xs.length).all e)
 | xG {k:Nat} {p q:Addr} {xs ys:List V} (aq:aF K H p xs) (aD:aF K H q ys) (aK:xs.length ≠ ys.length):h1 K H (k + 1) (.ref p) (.ref q) false
 | tup {k:Nat} {p q:Addr} {xs ys:List V} {e:Nat->Bool} (aq:de K H p xs) (aD:de K H q ys) (he:∀ (j:Nat) (x y:V),xs[j]? = some x->ys[j]? = some y->h1 K H k x y (e j)):h1 K H (k + 1) (.ref p) (.ref q) ((fW (min xs.length ys.length)).all e && xs.length == ys.length)
theorem Zy {x:V} (h:lH x=true):kv x x=true:=by
 cases x <;> first | rfl | (simp [kv];done) | cases h
theorem VJ {e:Nat->Bool} (h:∀ j,j < n->e j=true):(fW n).all e=true:=by
 rw [pE];exact fun j aL=>h j (sq.mp aL)
section
variable {X:a8} {ae:List (Addr × Obj)} {σ:St} {H:au} {s:Shared}
theorem h1.self (J:Inv X ae σ H s) {k:Nat} {x y:V} (h:h1 X.K H k x y b) (e:x=y):b=true:=by
 induction h with
 | flat ag aY=>subst e;exact Zy ag
 | @lst k p q xs ys f aq aD aK he b7=>
  injection e with e;subst e;have:=J.yk aq aD;subst this;refine VJ fun j aL=>?_
  exact b7 j xs[j] xs[j] (bo aL) (bo aL) rfl
 | xG aq aD aK=>
  injection e with e;subst e;have:=J.yk aq aD;subst this;exact absurd rfl aK
 | @tup k p q xs ys f aq aD he b7=>
  injection e with e;subst e;have:=J.Vw aq aD;subst this;rw [jF];refine ⟨VJ fun j aL=>?_,by simp⟩;have hs:j < xs.length:=by omega
  exact b7 j xs[j] xs[j] (bo hs) (bo hs) rfl
theorem DK (A:Around):A.in1.units=A.units + 1:=rfl
theorem T7 (J:Inv X ae σ H s) {k:Nat} {x y:V} (h:h1 X.K H k x y b):∀ (A:Around) (v u:Value),A.units + k < cLine->bK x v->bK y u ->
  Kb A s v u b/\(∀ p q,x=.ref p->y=.ref q->KZ A s v u b):=by
 induction h with
 | flat ag aY=>
  intro A v u bt a_ bq;refine ⟨OK a_ bq ag aY,fun p q e _=>?_⟩;subst e;cases ag
 | @lst k p q xs ys f aq aD aK he b7=>
  intro A v u bt a_ bq;cases a_;cases bq;obtain ⟨a4,r,pl,aW⟩:=J.list aq;obtain ⟨mM,dM,om,gY⟩:=J.list aD;have cA:=r.length;have cW:=dM.length;have rc:KZ A s (.ref p) (.ref q) ((fW xs.length).all f):=by
   have:=SeqAt.RcAt.lists (A:=A) (e:=f) pl.isList om.isList (by simp only [d8];omega) (by omega) fun j af ak=>by
    simp only [d8] at af ak;have aL:j < xs.length:=by omega
    have hs:j < ys.length:=by omega
    obtain ⟨a,aZ,jV⟩:=r.get (bo aL);obtain ⟨c,ay,rc⟩:=dM.get (bo hs);have gS:a4.toArray[j]=a:=by
     have:=bo af;rw [aZ] at this;simpa using (dX this).symm
    have ks:mM.toArray[j]=c:=by
     have:=bo ak;rw [ay] at this;simpa using (dX this).symm
    rw [gS,ks];exact (b7 j _ _ (bo aL) (bo hs) A.in1 a c (by rw [DK];omega) jV rc).1
   rwa [d8,<- cA] at this
  refine ⟨?_,fun _ _ _ _=>rc⟩;by_cases cx:p=q
  .have aa:=(h1.lst aq aD aK he).self J (congrArg V.ref cx);rw [aa,cx];exact TP _
  .exact WT cx rc
 | @xG k p q xs ys aq aD aK=>
  intro A v u bt a_ bq;cases a_;cases bq;obtain ⟨a4,r,pl,aW⟩:=J.list aq;obtain ⟨mM,dM,om,gY⟩:=J.list aD;have cA:=r.length;have cW:=dM.length;have rc:KZ A s (.ref p) (.ref q) false:=SeqAt.RcAt.lists_lengths pl.isList om.isList (by simp only [d8,bne_iff_ne,ne_eq];omega) (by omega);refine ⟨WT (fun e=>aK ?_) rc,fun _ _ _ _=>rc⟩;subst e;rw [J.yk aq aD]
 | @tup k p q xs ys f aq aD he b7=>
  intro A v u bt a_ bq;cases a_;cases bq;obtain ⟨a4,r,pl,aW⟩:=J.tuple aq;obtain ⟨mM,dM,om,gY⟩:=J.tuple aD;have cA:=r.length;have cW:=dM.length;have rc:KZ A s (.ref p) (.ref q) ((fW (min xs.length ys.length)).all f && xs.length == ys.length):=by
   have:=SeqAt.RcAt.tuples (A:=A) (e:=f) pl om (by omega) fun j af ak=>by
    simp only [d8] at af ak;have aL:j < xs.length:=by omega
    have hs:j < ys.length:=by omega
    obtain ⟨a,aZ,jV⟩:=r.get (bo aL);obtain ⟨c,ay,rc⟩:=dM.get (bo hs);have gS:a4.toArray[j]=a:=by
     have:=bo af;rw [aZ] at this;simpa using (dX this).symm
    have ks:mM.toArray[j]=c:=by
     have:=bo ak;rw [ay] at this;simpa using (dX this).symm
    rw [gS,ks];exact (b7 j _ _ (bo aL) (bo hs) A.in1 a c (by rw [DK];omega) jV rc).1
   rwa [d8,d8,<- cA,<- cW] at this
  refine ⟨?_,fun _ _ _ _=>rc⟩;by_cases cx:p=q
  .have aa:=(h1.tup aq aD he).self J (congrArg V.ref cx);rw [aa,cx];exact TP _
  .exact WT cx rc
theorem Ra (J:Inv X ae σ H s) {k:Nat} {A:Around} {xs ys:List V} {a4 mM:List Value} {f:Nat->Bool} (bt:A.units + k < cLine) (r:b1 xs a4) (dM:b1 ys mM)
  (he:∀ (j:Nat) (x y:V),xs[j]? = some x->ys[j]? = some y->h1 X.K H k x y (f j)):∀ j (af:j < a4.toArray.size) (ak:j < mM.toArray.size),Kb A s a4.toArray[j] mM.toArray[j] (f j):=fun j af ak=>by
 simp only [d8] at af ak;have cA:=r.length;have cW:=dM.length;have aL:j < xs.length:=by omega
 have hs:j < ys.length:=by omega
 obtain ⟨a,aZ,jV⟩:=r.get (bo aL);obtain ⟨c,ay,rc⟩:=dM.get (bo hs);have gS:a4.toArray[j]=a:=by
  have:=bo af;rw [aZ] at this;simpa using (dX this).symm
 have ks:mM.toArray[j]=c:=by
  have:=bo ak;rw [ay] at this;simpa using (dX this).symm
 rw [gS,ks];exact (T7 J (he j _ _ (bo aL) (bo hs)) A a c bt jV rc).1
theorem adb (J:Inv X ae σ H s) {k:Nat} {p q:Addr} (h:h1 X.K H k (.ref p) (.ref q) b) (A:Around) (bt:A.units + k < cLine):SeqAt.RcNeAt A s (.ref p) (.ref q) (!b):=by
 cases h with
 | flat ag aY=>cases ag
 | @lst k _ _ xs ys f aq aD aK he=>
  obtain ⟨a4,r,pl,aW⟩:=J.list aq;obtain ⟨mM,dM,om,gY⟩:=J.list aD;have cA:=r.length;have cW:=dM.length;have:=apc (A:=A) (e:=f) pl.isList om.isList (by simp only [d8];omega) (by omega) (Ra J (A:=A.in1) (k:=k) (by rw [DK];omega) r dM he);rwa [d8,<- cA] at this
 | @xG k _ _ xs ys aq aD aK=>
  obtain ⟨a4,r,pl,aW⟩:=J.list aq;obtain ⟨mM,dM,om,gY⟩:=J.list aD;have cA:=r.length;have cW:=dM.length;exact aoR pl.isList om.isList (by simp only [d8,bne_iff_ne,ne_eq];omega) (by omega)
 | @tup k _ _ xs ys f aq aD he=>
  obtain ⟨a4,r,pl,aW⟩:=J.tuple aq;obtain ⟨mM,dM,om,gY⟩:=J.tuple aD;have cA:=r.length;have cW:=dM.length;have:=aqG (A:=A) (e:=f) pl om (by omega) (Ra J (A:=A.in1) (k:=k) (by rw [DK];omega) r dM he);rwa [d8,d8,<- cA,<- cW] at this
end
section
variable {X:a8}
noncomputable def JB (K:ba):e':=fun x y H Q=>∃ p q b,x=.ref p/\y=.ref q/\h1 K H 8 (.ref p) (.ref q) b/\Q (.bB (!b)) H
theorem Rq (zi:X.A.units + 64 < cLine):hH X (compareOp .NotEq) (JB X.K):=by
 intro ae s σ H x y v u Q J a_ bq h;obtain ⟨p,q,b,rfl,rfl,vQ,dV⟩:=h;cases a_;cases bq;exact adb J vQ X.A (by omega) _ _ _ _ ⟨.bB (!b),H,J,rfl,dV⟩
noncomputable def LK (K:ba):e':=fun x y H Q=>∃ p q b,x=.ref p/\y=.ref q/\h1 K H 8 (.ref p) (.ref q) b/\Q (.bB b) H
theorem ag2 (zi:X.A.units + 64 < cLine):hH X (compareOp .Eq) (LK X.K):=by
 intro ae s σ H x y v u Q J a_ bq h;obtain ⟨p,q,b,rfl,rfl,vQ,dV⟩:=h;exact (T7 J vQ X.A v u (by omega) a_ bq).2 p q rfl rfl _ _ _ _ ⟨.bB b,H,J,rfl,dV⟩
end
theorem h1.mono {K:ba} {j k:Nat} {x y:V} (h:h1 K H j x y b):j <= k->h1 K H k x y b:=by
 induction h generalizing k with
 | flat ag aY=>exact fun _=>.flat ag aY
 | lst aq aD aK he b7=>
  intro aC;obtain ⟨m,rfl⟩:∃ m,k=m + 1:=⟨k - 1,by omega⟩;exact .lst aq aD aK fun j x y af ak=>b7 j x y af ak (by omega)
 | xG aq aD aK=>
  intro aC;obtain ⟨m,rfl⟩:∃ m,k=m + 1:=⟨k - 1,by omega⟩;exact .xG aq aD aK
 | tup aq aD he b7=>
  intro aC;obtain ⟨m,rfl⟩:∃ m,k=m + 1:=⟨k - 1,by omega⟩;exact .tup aq aD fun j x y af ak=>b7 j x y af ak (by omega)
end L2
namespace L2
open PySem PySem.Spec PyProof.Rows PySem.Builtin PySem.Builtin.ObjectAttr
noncomputable abbrev MS:List Value:=[.type "ValueError",.type "Exception",.type "BaseException",.type "object"]
noncomputable def Q6 (K:ba) (C tj:Addr):Bool:=
 match K.lookup C with
 | some ⟨.type "type",_,.cls cd,cf⟩=>
  match cd.mro,cf.toList with
  | .ref D :: dq,[_,_,_,_,some (.builtin n),_]=>
   (D == C) && (n == "ValueError.__new__") && (cd.hasDel == false) && (cd.hasDict == true) && PySem.W.tailIn K MS dq && PySem.W.nsOkIn K cd.ns && (PySem.W.nsIn K cd.ns "__init__" == some (some (.ref tj)))
  | _,_=>false
 | _=>false
section
variable {P:Program} {w:World} {A:Around} {h:Heap} {g:Array GenState} {d:Drawn} {t:Nat} {os:OsState} {K:ba} {C tj:Addr} {R:Result->Shared->Prop}
end
noncomputable def Gh:List Value->Bool
 | .ref _ :: r=>Gh r
 | l=>l == MS
structure ajd (K:ba) (C:Addr):Prop where
 hd:zu K C=true
 dN:((aij K C).any fun cd=>Gh cd.mro)=true
 aT:c3 K (.ref C) "__setattr__"=some (some (.builtin "object.__setattr__"))
 ga:c3 K (.ref C) "__getattribute__"=some (some (.builtin "BaseException.__getattribute__"))
 gt:c3 K (.ref C) "__getattr__"=some none
 ex:∃ tj,Q6 K C tj=true
noncomputable def vb (x C:Addr) (dH:Option Addr):Heap->Prop:=fun h=>∃ vs cf,h.get? x=some ⟨.ref C,dH,.fields vs,cf⟩/\1 < vs.size/\vs[1]? = some .none
noncomputable def vk (ar:Addr) (aR:List (Str × V)):Heap->Prop:=fun h=>∃ d6,h.Ns1 ar d6/\(∀ f,h_ (aR.lookup f) (d6 f))/\GG d6 (aR.map (·.1))
theorem vb.at {x C:Addr} {h h':Heap} (z:vb x C dH h) (k:∀ o,h.get? x=some o->h'.get? x=some o):vb x C dH h':=let ⟨vs,cf,e,r⟩:=z;⟨vs,cf,k _ e,r⟩
theorem vk.at {aR:List (Str × V)} {h h':Heap} (z:vk ar aR h) (k:∀ o,h.get? ar=some o->h'.get? ar=some o):vk ar aR h':=let ⟨d6,e,r⟩:=z;⟨d6,e.at k,r⟩
theorem vb.ok {w:World} {h:Heap} {x C:Addr} (z:vb x C dH h):d9 P w H h x (.ext (vb x C dH)):=by
 obtain ⟨vs,cf,e,r⟩:=id z;exact ⟨z,⟨_,e⟩,fun af ak q k=>q.at k⟩
theorem vk.ok {w:World} {h:Heap} {aR:List (Str × V)} (z:vk ar aR h):d9 P w H h ar (.ext (vk ar aR)):=by
 obtain ⟨d6,⟨o,a0,ep,e,_⟩,_⟩:=id z;exact ⟨z,⟨_,e⟩,fun af ak q k=>q.at k⟩
section
variable {prog:Program} {w:World} {A:Around} {E:Value->Shared->Prop} {K:ba} {C x:Addr} {s:Shared} {R:Result->Shared->Prop}
end
section
variable {X:a8} {ae:List (Addr × Obj)} {σ:St} {H:au} {s:Shared} {x C ar:Addr} {aR:List (Str × V)} {f:Str} {y:V} {u:Value} {A:Around} {E:Value->Shared->Prop} {Q:Unit->Shared->Prop}
noncomputable def oB (x C:Addr) (dH:Option Addr):Heap->Prop:=fun h=>∃ vs cf,h.get? x=some ⟨.ref C,dH,.fields vs,cf⟩
theorem oB.at {x C:Addr} {h h':Heap} (z:oB x C dH h) (k:∀ o,h.get? x=some o->h'.get? x=some o):oB x C dH h':=let ⟨vs,cf,e⟩:=z;⟨vs,cf,k _ e⟩
theorem oB.ok {w:World} {h:Heap} {x C:Addr} (z:oB x C dH h):d9 P w H h x (.ext (oB x C dH)):=by
 obtain ⟨vs,cf,e⟩:=id z;exact ⟨z,⟨_,e⟩,fun af ak q k=>q.at k⟩
end
noncomputable abbrev aaq:=St->au->(au->Prop)->Prop
section
variable {X:a8} {e:Expr} {a0:List Expr} {n:Nat} {t:aaq} {bV:TE} {pos:Pos}
end
structure aps (K:ba) (L:Addr) (m:Str):Prop where
 ia:Yf K L (.type "type")=true
 fd:aho K (.ref L) (.type "type") m=some (.val (.builtin "ValueError.__init__"))
 ga:vo K (.ref L) "__getattribute__"=some (some (.builtin "type.__getattribute__"))
section
variable {X:a8} {L:Addr} {x:Str} {p pos fu:Pos} {e:Expr} {a0:List Expr} {t:f3}
end
structure apw (K:ba) (C tj:Addr):Prop where
 e:Q6 K C tj=true
 fn:ani K (.ref tj)=some (.type "function")
 bJ:sN K (.ref C)=true
section
variable {X:a8} {k:Nat} {f C:Addr} {fd:FuncData} {ps:List Str} {sp:bX} {x g:Str} {p pos pos' fu:Pos} {e o value:Expr} {a0:List Expr} {a' e9:TE} {t:f3}
end
def x3 (x C:Addr) (dH:Option Addr) (T:Addr) (et:Value) (h:Heap):Prop:=
 T ≠ x/\∃ vs cf Az vF,h.get? x=some ⟨.ref C,dH,.fields vs,cf⟩/\vs[1]? = some (.ref T)/\h.get? T=some Az/\Az.data=.fields vF/\vF[3]? = some et
structure C7 (aR:List Addr) (x:Addr) (r0:Option Addr) (h h':Heap):Prop where
 keep:∀ b o,h.get? b=some o->b ∉ aR->b ≠ x->some b ≠ r0->h'.get? b=some o
 slot:∀ b o,h.get? b=some o->b ∈ aR->∃ cf,h'.get? b=some { o with slots:=cf }
 there:∀ b o,h.get? b=some o->∃ ei,h'.get? b=some ei
section
variable {M:Model} {A:Around} {E:Value->Shared->Prop} {s:Shared}
theorem TR {base h:Heap} (aK:h.FunFrames base l) (e:h.get? b=some o) (d:o.data=.fields vs):b ∉ lL l:=fun hm=>by
 obtain ⟨_,ei,bM,hh⟩:=aK.mem hm;rw [e] at bM;cases bM;exact hh vs d
end
section
variable {P:Program} {w:World} {H:au} {h h':Heap} {aR:List Addr} {x C T:Addr} {dH:Option Addr} {et:Value} {r0:Option Addr} {o:dU}
theorem C7.bh (k:C7 aR x r0 h h') (ok:ej P w H h) (uf:∀ b ∈ aR,H b=none) (hG:∀ t,r0=some t->H t=none) (gI:pg (H x)) (new:oB x C dH h'):ej P w (upd H x (.ext (oB x C dH))) h':=fun b u q=>by
 have wC:∀ c y,H c=some (.own y)->c ≠ x:=fun c y r z=>by subst z;rw [r] at gI;exact gI
 have KX:∀ c xs,H c=some (.tup xs)->c ≠ x:=fun c xs r z=>by subst z;rw [r] at gI;exact gI
 have jX:∀ c v,c ≠ x->H c ≠ none->h.get? c=some v->h'.get? c=some v:=fun c v b9 ck r=>k.keep c v r (fun z=>ck (uf c z)) b9 fun z=>ck (hG c z.symm)
 by_cases aa:b=x
 .subst aa;rw [db] at q;cases q;exact new.ok
 .rw [aA aa] at q;refine (ok b u q).og (fun c v ay r=>?_) (fun c r=>by rw [aA (wC c b r)];exact r) fun c xs r=>by rw [aA (KX c xs r)];exact r
  rcases ay with rfl | ay
  .exact jX c v aa (by rw [q];exact fun z=>by cases z) r
  .exact jX c v (wC c b ay) (by rw [ay];exact fun z=>by cases z) r
theorem C7.un (k:C7 aR x r0 h h') (hG:∀ t,r0=some t->H t=none) (gI:pg (H x)):e2 aR r0.toList H (upd H x o) h h':=by
 have ag:∀ b,H b=none->b ≠ x:=fun b n z=>by subst z;rw [n] at gI;exact gI
 have hm:∀ b u,H b=some u->¬ pg (some u)->b ≠ x:=fun b u q nm z=>by subst z;rw [q] at gI;exact nm gI
 refine ⟨fun b u q n b9 ck=>k.keep b u q b9 (ag b n) fun z=>ck (by rw [<- z];simp),fun b u q n b9 ck=>k.slot b u q b9,fun b u q n _=>by rw [aA (ag b n)];exact n,fun b u q _=>k.there b u q,
  fun b xs q=>by rw [aA (hm b _ q fun z=>z)];exact q,fun b u xs q=>by rw [aA (hm b _ q fun z=>z)];exact q,fun b ps q=>⟨#[],by rw [aA (hm b _ q fun z=>z),q];simp⟩⟩
end
noncomputable def ab' (P:Program) (w:World):j1:=fun outer H s E e aj=>
 ∃ x C dH I T,e=.ref x/\aj.os=s.os/\AllBare aj.gens/\e2 (lL outer) [] H I s.heap aj.heap/\ej P w I aj.heap/\I x=some (.ext (oB x C dH))/\s.heap.objs.size <= T/\I T=none/\x3 x C dH T .none aj.heap/\E (.ref C) dH I
structure anW (X:a8):Prop where
 st:X.stack=X.env :: X.outer
 fr:X.env.frame=some X.env.locals
def afS (X:a8) (ae:List (Addr × Obj)) (T:Addr):Prop:=(T ∈ X.ex\/X.fQ.heap.objs.size <= T)/\T ≠ X.env.locals/\(∀ x c,X.env.cells.lookup x=some c->c ≠ T)/\∀ p ∈ X.da ++ ae,p.1 ≠ T
section
variable {X:a8} {ae:List (Addr × Obj)} {σ:St} {H:au} {s:Shared} {T x C:Addr} {dH:Option Addr} {E:St->gp} {M:Model} {A:Around} {aoT:Value->Shared->Prop} {Q:Unit->Shared->Prop} {e et:Value} {h':Heap}
end
section
variable {P:Program} {w:World} {K:ba} {mg:Str->Option Value} {base:Heap} {N:List Str} {qual:Str} {scope:Scope} {f:Addr} {cd:Value} {A:Around} {outer:List Env} {s:Shared} {H:au} {E:gp}
end
section
variable {X:a8} {CX:j1} {k:Nat} {f C:Addr} {fd:FuncData} {ps:List Str} {sp:bX} {dvs:List V} {ds:List Value} {E:St->gp} {x m:Str} {p pos fu:Pos} {e o:Expr} {a0:List Expr} {a':TE} {t:f3}
end
noncomputable abbrev a8.q4 (X:a8) (da:List (Addr × Obj)) (E:Value->Shared->Prop):a8:={ X with da:=X.da ++ da,dI:=E }
noncomputable abbrev a8.a3 (X:a8) (e:Value):a8:={ X with A:=X.A.mark (some e),calm:=false,dI:=fun _ _=>False }
section
variable {X:a8} {ae Rj:List (Addr × Obj)} {σ:St} {H:au} {s:Shared} {E:Value->Shared->Prop} {e:Value}
theorem a8.Ok.q4 (ok:X.Ok) (da:List (Addr × Obj)) (E:Value->Shared->Prop):(X.q4 da E).Ok:=
 ⟨ok.mod,ok.kind,ok.glob,ok.blt,ok.above,ok.inj,ok.has,ok.qI,ok.hd,ok.frames,ok.sa,ok.zo,ok.bs,ok.kk,ok.rl,ok.qK,ok.j8,ok.nY⟩
theorem a8.Ok.a3 (ok:X.Ok) (e:Value):(X.a3 e).Ok:=
 ⟨ok.mod,ok.kind,ok.glob,ok.blt,ok.above,ok.inj,ok.has,ok.qI,(fun z=>Bool.noConfusion z),ok.frames,ok.sa,ok.zo,ok.bs,ok.kk,ok.rl,ok.qK,ok.j8,ok.nY⟩
theorem Inv.q4 (J:Inv X ae σ H s) (E:Value->Shared->Prop):Inv (X.q4 ae E) [] σ H s:=⟨J.ok.q4 ae E,J.os,J.bare,J.base,J.loc,J.cell,J.free,J.jm,fun p aq=>J.pin p (by simpa using aq),J.bh,J.len⟩
theorem Inv.a3 (J:Inv X ae σ H s) (e:Value):Inv (X.a3 e) ae σ H s:=⟨J.ok.a3 e,J.os,J.bare,J.base,J.loc,J.cell,J.free,J.jm,J.pin,J.bh,J.len⟩
end
noncomputable def ho.gone (D:ho) (i:Nat):ho:={ b8:=fun σ H=>D.b8 (σ.set i none) H,k3:=D.k3,cI:=fun σ H=>D.cI (σ.set i none) H,e_:=fun σ H=>D.e_ (σ.set i none) H }
section
variable {X:a8} {body an5:List Stmt} {anL:Stmt} {x n:Str} {c:Addr} {i:Nat} {bT:(St->gp)->ea} {xD:ea} {aqb aq pos:Pos}
end
theorem WC (D:ho) (i:Nat) (σ:St) (H:au):(D.gone i).b8 σ H=D.b8 (σ.set i none) H:=rfl
theorem Qb (D:ho) (i:Nat) (v:V) (H:au):(D.gone i).k3 v H=D.k3 v H:=rfl
theorem OwnTail.has {h:Heap} {bm dq:List Value} (T:OwnTail h bm dq) (e:bm.contains v=true):dq.contains v=true:=by
 induction T with
 | base=>exact e
 | own _ _ _ _ b7=>rw [VU,b7,Sy]
section
variable {X:a8} {e:Expr} {bV:TE} {pos:Pos} {E:St->gp}
theorem hr.l4 {st:Stmt} {t:ea} (h:hr X.l4 st t):hr X st t:=fun ae s σ H D J hw=>
 wpAny_mono (h ae s σ H D (J.iX _) hw) (fun _ _ q=>q.nA) fun _ _ z=>jh z
end
def vi (B:a8) (E:gp) (e:Value) (aj:Shared):Prop:=
 ∃ ae et ax I x C dH T,e=.ref x/\Inv B ae ax I aj/\I x=some (.ext (oB x C dH))/\I T=none/\afS B ae T/\B.fQ.heap.objs.size <= T/\x3 x C dH T et aj.heap/\E (.ref C) dH I
structure Tg (X:a8) (scope:Scope) (N:List Str) (dm elt:Expr) (ifs:List Expr) (g:gH) (dv:TT) (bV:gp->TE):Prop where
 Vm:∀ E C s H bp,mE ((X.block scope C N s H bp).iX (vi (X.block scope C N s H bp) E)) dm g
 tests:∀ E C s H bp,uZ ((X.block scope C N s H bp).iX (vi (X.block scope C N s H bp) E)) ifs dv
 elem:∀ E C s H bp,bw ((X.block scope C N s H bp).iX (vi (X.block scope C N s H bp) E)) elt (bV E)
theorem Tg.of {N:List Str} (af:∀ E C s H bp,mE ((X.block scope C N s H bp).iX (vi (X.block scope C N s H bp) E)) dm g)
  (ak:∀ E C s H bp,∃ t,uZ ((X.block scope C N s H bp).iX (vi (X.block scope C N s H bp) E)) ifs t/\t=dv) (bc:∀ E C s H bp,∃ t,bw ((X.block scope C N s H bp).iX (vi (X.block scope C N s H bp) E)) elt t/\t=bV E):Tg X scope N dm elt ifs g dv bV:=
 ⟨af,fun E C s H bp=>by obtain ⟨t,h,rfl⟩:=ak E C s H bp;exact h,fun E C s H bp=>by obtain ⟨t,h,e⟩:=bc E C s H bp;rw [<- e];exact h⟩
section
variable {X:a8} {elt dm iter:Expr} {ifs:List Expr} {scope:Scope} {pos:Pos} {hN:TI} {g:gH} {dv:TT} {bV:gp->TE} {N:List Str} {sel:List (Option Nat)}
theorem x3.but {x C T c:Addr} {h h':Heap} (z:x3 x C dH T et h) (b9:x ≠ c) (ck:T ≠ c) (k:∀ b,b ≠ c->h'.get? b=h.get? b):x3 x C dH T et h':=by
 obtain ⟨ne,vs,cf,Az,vF,he,af,hG,hd,bc⟩:=z;exact ⟨ne,vs,cf,Az,vF,(k _ b9).trans he,af,(k _ ck).trans hG,hd,bc⟩
end
structure V0 (K:ba) (C:Addr):Prop where
 cl:hl K C
 aZ:c3 K (.ref C) "__class__"=some (some (.builtin "object.__class__"))
 a3:vo K (.builtin "object.__class__") "__get__"=some (some (.builtin "getset_descriptor.__get__"))
 An:Hd K (.builtin "object.__class__")=some true
 hm:E8 K C (.type "object")=some true
theorem V0.ty {K:ba} {aR:List (Str × V)} (c:V0 K C) (e:H a=some (.ins C ar aR)):mD K H (.ref a) (.ref C):=.ins e c.cl c.aZ c.a3 c.An c.hm
end L2
namespace L2
open PySem PySem.Spec PyProof.Rows
section
variable {X:a8} {dm:Expr}
end
section
variable {prog:Program} {w:World} {A:Around} {E:Value->Shared->Prop} {s:Shared} {it l:Addr} {items:Array Value}
end
section
variable {X:a8}
end
section
variable {prog:Program} {w:World} {A:Around} {R:Result->Shared->Prop} {J:Addr} {bp wr:List Addr} {n:Nat} {P:Nat->Value->Prop} {St:Nat->Heap->Prop}
end
section
variable {prog:Program} {w:World} {A:Around} {E:Value->Shared->Prop} {s:Shared}
end
section
variable {X:a8}
end
structure aoC (K:ba) (C:Addr):Prop where
 x:ajd K C
 aZ:c3 K (.ref C) "__class__"=some (some (.builtin "object.__class__"))
 a3:vo K (.builtin "object.__class__") "__get__"=some (some (.builtin "getset_descriptor.__get__"))
 An:Hd K (.builtin "object.__class__")=some true
 hm:E8 K C (.type "object")=some true
section
variable {prog:Program} {w:World} {A:Around} {E:Value->Shared->Prop} {s:Shared} {K:ba} {x C:Addr} {dH:Obj} {ar:Addr} {vs:Array Value} {cf:Array (Option Value)}
end
section
variable {X:a8}
end
theorem cJ.quiet {w:World} {K:ba} {mg:Str->Option Value} {base:Heap} {k:Nat} {fd:FuncData} (F:cJ P w K mg base (ab' P w) k f fd ps sp)
  (h:∀ vs H Q E,mR vs H Q E->sp vs H Q (fun _ _ _=>False)):cJ P w K mg base dt k f fd ps mR:=by
 refine ⟨fun vs H Q E q=>F.len vs H _ _ (h vs H Q E q),fun A outer s H args us vs Q E ao he aa aJ aB=>?_⟩;refine codeAny_mono (F.run A outer s H args us vs Q _ ao he aa aJ (h vs H Q E aB)) fun r aj aD=>?_
 cases r with
 | error e=>
  obtain ⟨x,C,dH,I,T,_,_,_,_,_,_,_,_,_,z⟩:=aD;exact z.elim
 | ok et=>cases et <;> exact aD
structure l8 (k:Nat) (A:Around):Prop where
 hy:A.depth + 3 * k + 5 < recursionLimit
 un:A.units + 16 * k + 200 < cLine
theorem eA.h {k:Nat} {A:Around} (r:eA k A):l8 k A:=⟨r.hy,r.un⟩
theorem l8.mono {j k:Nat} {A:Around} (r:l8 k A) (h:j <= k):l8 j A:=⟨by have:=r.hy;omega,by have:=r.un;omega⟩
theorem l8.deeper {k:Nat} {A:Around} (r:l8 (k + 1) A) (env:Env):l8 k (A.deeper env):=
 ⟨by have:=r.hy;show A.depth + 1 + 3 * k + 5 < _;omega,by have:=r.un;show A.units + 3 + 16 * k + 200 < _;omega⟩
theorem l8.depth {k:Nat} {A:Around} (r:l8 k A):A.depth < recursionLimit:=by have:=r.hy;omega
theorem l8.units {k:Nat} {A:Around} (r:l8 k A):A.units + 64 < cLine:=by have:=r.un;omega
theorem eA.a3 {k:Nat} {X:a8} {e:Value} (r:eA k X.A):l8 k (X.a3 e).A:=⟨r.hy,r.un⟩
structure LB (P:Program) (w:World) (K:ba) (mg:Str->Option Value) (base:Heap) (CX:j1) (k:Nat) (f:Addr) (fd:FuncData) (ps:List Str) (sp:bX):Prop where
 len:∀ vs H Q E,sp vs H Q E->vs.length=ps.length
 run:∀ (A:Around) (outer:List Env) (s:Shared) (H:au) (args:Args) (us:List Value) (vs:List V) (Q:cN) (E:gp),l8 k A->ny P w K mg base A outer s H->BindsTo s fd args (ps.zip us)->b1 vs us->sp vs H Q E ->
  codeAny (model P w) A (.call (.ref f) args) (GI CX outer P w H s Q E) s
theorem LB.mono {w:World} {K:ba} {mg:Str->Option Value} {base:Heap} {j k:Nat} {fd:FuncData} (F:LB P w K mg base CX j f fd ps sp) (h:j <= k) :
  LB P w K mg base CX k f fd ps sp:=⟨F.len,fun A outer s H args us vs Q E ao=>F.run A outer s H args us vs Q E (ao.mono h)⟩
section
variable {X:a8} {CX:j1} {k:Nat} {f C:Addr} {fd:FuncData} {ps:List Str} {sp:bX} {dvs:List V} {ds:List Value} {E:gp} {x m:Str} {p pos fu:Pos} {e o:Expr} {a0:List Expr} {a':TE} {t:f3}
end
noncomputable def akz (CX:j1) (P:Program) (w:World) (K:ba) (mg:Str->Option Value) (base:Heap) (N:List Str) (qual:Str) (scope:Scope) (f:Addr) (cd:Value) (A:Around) (outer:List Env) (s:Shared) (H:au) (E:gp):a8 where
 prog:=P
 w:=w
 K:=K
 mg:=mg
 base:=base
 A:=A.deeper (envOfC qual scope s.heap.objs.size f cd)
 N:=N
 fQ:=s
 rU:=H
 env:=envOfC qual scope s.heap.objs.size f cd
 outer:=outer
 stack:=envOfC qual scope s.heap.objs.size f cd :: outer
 ex:=[]
 calm:=false
 fn:=fun _=>true
 da:=[]
 dI:=fun e aj=>wpAny (model P w) (A.deeper (envOfC qual scope s.heap.objs.size f cd)) (leaving (envOfC qual scope s.heap.objs.size f cd) e) (fun _ oZ=>CX outer H s E e oZ) (fun bM oZ=>CX outer H s E bM oZ) aj
section
variable {P:Program} {w:World} {K:ba} {mg:Str->Option Value} {base:Heap}
end
section
variable {X:a8}
end
section
variable {α:Type} {M:List α->Prop}
theorem h9 (h:∀ a,M [a]):∀ us:List α,us.length=1->M us | [a],_=>h a
theorem gv (h:∀ a b,M [a,b]):∀ us:List α,us.length=2->M us | [a,b],_=>h a b
theorem ib (h:∀ a b c,M [a,b,c]):∀ us:List α,us.length=3->M us | [a,b,c],_=>h a b c
theorem BV (h:∀ a b c d e f g,M [a,b,c,d,e,f,g]):∀ us:List α,us.length=7->M us | [a,b,c,d,e,f,g],_=>h a b c d e f g
theorem acp (h:∀ a b c d e f g i,M [a,b,c,d,e,f,g,i]):∀ us:List α,us.length=8->M us | [a,b,c,d,e,f,g,i],_=>h a b c d e f g i
end
structure anP (K:ba) (C:Addr):Prop where
 hd:zu K C=true
 dN:((aij K C).any fun cd=>Gh cd.mro)=true
 aT:c3 K (.ref C) "__setattr__"=some (some (.builtin "object.__setattr__"))
 ga:c3 K (.ref C) "__getattribute__"=some (some (.builtin "BaseException.__getattribute__"))
 gt:c3 K (.ref C) "__getattr__"=some none
structure F5 (K:ba) (C:Addr):Prop where
 aZ:c3 K (.ref C) "__class__"=some (some (.builtin "object.__class__"))
 a3:vo K (.builtin "object.__class__") "__get__"=some (some (.builtin "getset_descriptor.__get__"))
 An:Hd K (.builtin "object.__class__")=some true
 hm:E8 K C (.type "object")=some true
theorem QL {bW:List Int}:∀ {a4:List Value},b1 (bW.map V.int) a4->∃ xs:List (Int × Tok),a4=xs.map (fun p=>nz p.1 p.2)/\xs.map (·.1)=bW:=by
 induction bW with
 | nil=>intro a4 r;cases r;exact ⟨[],rfl,rfl⟩
 | cons k bW b7=>
  intro a4 r;cases r with
  | cons h t=>
   obtain ⟨xs,aw,aG⟩:=b7 t;obtain ⟨tk,rfl⟩:=(show ∃ t,_=nz k t from h);exact ⟨(k,tk) :: xs,by rw [eu,<- aw],by rw [eu,aG]⟩
section
variable {X:a8}
theorem Vf (ay:X.calm=true):ki X (.builtin "max") (fun xs H Q=>∃ l bW m,xs=[.ref l]/\aF X.K H l (oJ V.int bW)/\(m ∈ bW/\∀ k ∈ bW,k <= m)/\Q (.int m) H):=by
 intro ae s σ H xs us Q J r h;obtain ⟨l,bW,m,rfl,aD,hm,q⟩:=h;obtain ⟨u,rfl,eG⟩:=kp r;cases eG;obtain ⟨a4,cL,pl,aW⟩:=J.list aD;obtain ⟨xs,aw,aG⟩:=QL cL;have g4:a4.toArray=intItems xs.toArray:=by rw [aw];unfold intItems;simp
 have l2:s.heap.IsList l (intItems xs.toArray):=by rw [<- g4];exact pl.isList
 have lJ:xs.length=bW.length:=by rw [<- aG,aO]
 have cx:0 < xs.toArray.size:=by
  rw [d8,lJ];exact afo hm.1
 refine max_intList (J.ok.hd ay) l2 cx fun v h' tk aJ aC=>⟨.int m,H,J.kept aC,?_,q⟩
 obtain ⟨e9,rfl⟩:=intItems_at aJ;refine ⟨e9,?_⟩;have aa:=argBest_gt (numAt xs.toArray) (xs.toArray.size - 1);generalize argBest (fun i j=>decide (numAt xs.toArray i > numAt xs.toArray j)) (xs.toArray.size - 1)=j at aa ⊢;have a3:∀ i,i < bW.length->bW[i]? = some (numAt xs.toArray i):=fun i ah=>by
  rw [numAt_eq,j_];show bW[i]? = some (((xs.map (·.1))[i]?).getD 0);rw [aG,bo ah];rfl
 rw [d8] at aa cx;have af:=hm.2 _ (cQ (a3 j (by omega)));obtain ⟨i,ah⟩:=iG hm.1;have g4:i < bW.length:=(cb.mp ah).1;have ak:=aa.2 i (by omega);have bc:m=numAt xs.toArray i:=dX (ah.symm.trans (a3 i g4));rw [show numAt xs.toArray j=m by omega]
end
noncomputable def Bv (p d:Addr):Heap->Prop:=fun h=>PySem.W.KdlKeysView h p d
noncomputable def qn (p d:Addr):Heap->Prop:=fun h=>h.IsValuesView p d
theorem Bv.ok {w:World} {h:Heap} {p d:Addr} (z:Bv p d h):d9 P w H h p (.ext (Bv p d)):=
 ⟨z,let ⟨o,aS,_⟩:=z;⟨o,aS⟩,fun _ _ eV k=>let ⟨o,aS,x⟩:=eV;⟨o,k o aS,x⟩⟩
theorem qn.ok {w:World} {h:Heap} {p d:Addr} (z:qn p d h):d9 P w H h p (.ext (qn p d)):=
 ⟨z,let ⟨o,aS,_⟩:=z;⟨o,aS⟩,fun _ _ eV k=>let ⟨o,aS,x⟩:=eV;⟨o,k o aS,x⟩⟩
theorem BT {w:World} {k:Key} (h:(gJ P w).is k u=true):bK (c9 k) u:=by
 rcases n_ h with ⟨i,t,rfl,rfl⟩ | ⟨x,t,rfl,rfl⟩
 .exact ⟨t,rfl⟩
 .exact ⟨t,rfl⟩
theorem Ha:∀ {l₁:List α} {l₂:List β},Paired F l₁ l₂->∀ {i:Nat} {b:β},l₂[i]? = some b->∃ a,l₁[i]? = some a/\F a b
 | [],[],_,i,b,h=>by simp at h
 | a :: l₁,c :: l₂,r,i,b,h=>by
  cases r with
  | cons f r=>
   cases i with
   | zero=>exact ⟨a,rfl,by rw [show b=c by simpa using h.symm];exact f⟩
   | succ i=>
    rw [xd] at h ⊢;exact Ha r h
section
variable {X:a8}
noncomputable def tz:V->List V->au->cN->Prop:=fun x vs H Q=>∃ d kvs,x=.ref d/\vs=[]/\H d=some (.a5 kvs)/\∀ p,H p=none->Q (.ref p) (upd H p (.ext (Bv p d)))
noncomputable def Fw:V->List V->au->cN->Prop:=fun x vs H Q=>∃ d kvs,x=.ref d/\vs=[]/\H d=some (.a5 kvs)/\∀ p,H p=none->Q (.ref p) (upd H p (.ext (qn p d)))
theorem Z2:uI X "dict.values" Fw:=by
 intro ae s σ H x xs v us Q J a_ cL h;obtain ⟨d,kvs,rfl,rfl,e,q⟩:=h;cases (show v=fi d from a_);cases cL;obtain ⟨z,hd,vs,rel,cF⟩:=pq J.bh e;refine call_meetsIn afL cF.typeIs PySem.F.entry_dict_values (PySem.F.args_dict_values_1 _) (meets_dict_values (gJ X.prog X.w) d hd) ⟨⟨_,cF⟩,?_⟩;exact ⟨.ref _,_,J.laid (o:=.ext (qn _ d)) (t':=s.toks) (fun b u e=>eP _ e) (bR _) (qn.ok ⟨_,hp _ rfl,rfl,rfl⟩),rfl,q _ (J.bh.fresh (bR _))⟩
theorem WF (ay:X.calm=true):ki X (.type "list") (fun xs H Q=>∃ p d kvs,xs=[.ref p]/\H p=some (.ext (qn p d))/\H d=some (.a5 kvs)/\∀ l,H l=none->Q (.ref l) (upd H l (.lst (kvs.map fun q=>q.2)))):=by
 intro ae s σ H xs us Q J r h;obtain ⟨p,d,kvs,rfl,ep,hX,q⟩:=h;obtain ⟨u,rfl,eG⟩:=kp r;cases eG;obtain ⟨z,hd,vs,rel,cF⟩:=pq J.bh hX;have aJ:qn p d s.heap:=(show d9 X.prog X.w H s.heap p (.ext (qn p d)) from J.bh _ _ ep).1;obtain ⟨B',uU⟩:=cF.dictAt;have hlen:=rel.length;refine PySem.W.kdl_call (PySem.W.kdl_values (knd:=gJ X.prog X.w) (kvs:=vs) (ep:=B')) (J.ok.hd ay) ⟨aJ,uU⟩ (by omega) fun h' tk acc c aC d2 x6=>?_
 refine ⟨.ref _,_,J.laid (o:=.lst (kvs.map fun q=>q.2)) (t':=tk) aC (bR _) ⟨by rw [aO];exact z,acc.toList,c,?_,d2⟩,rfl,q _ (J.bh.fresh (bR _))⟩;have aJ:=Zr (f:=fun i=>((kvs[i]?).map fun q=>q.2).getD .b') (fun i v aJ=>by
  obtain ⟨k,aw⟩:=aJ;obtain ⟨a,bS,_,er⟩:=Ha rel aw;rw [bS];exact er) x6
 have l7:(fW vs.length).map (fun i=>((kvs[i]?).map fun q=>q.2).getD .b')=kvs.map fun q=>q.2:=by
  rw [<- hlen];refine List.ext_getElem (by simp) fun i af ak=>?_
  rw [pP,List.getElem_range,pP,bo (by simpa using ak)];rfl
 rw [l7] at aJ;exact aJ
end
noncomputable abbrev acC:=St->au->Str->(Str->au->Prop)->Prop
section
variable {X:a8} {e:Expr} {a0:List Expr} {t:acC} {bV:TE} {pos:Pos}
end
noncomputable def Ls (p:Addr) (a b c:Int):Heap->Prop:=fun h=>∃ t u v,IsRange h p a b c t u v
theorem Ls.ok {w:World} {h:Heap} {p:Addr} (z:Ls p a b c h):d9 P w H h p (.ext (Ls p a b c)):=
 ⟨z,let ⟨_,_,_,e⟩:=z;⟨_,e⟩,fun _ _ eV k=>let ⟨t,u,v,e⟩:=eV;⟨t,u,v,k _ e⟩⟩
section
variable {X:a8}
end
noncomputable def l6 (f:Addr) (qual:Str) (params:Arguments) (body:Expr) (scope:Scope) (iF:List (Str × Addr)) (c':Addr):Heap->Prop:=
 fun h=>∃ pm kh,h.get? f=some (wD "<lambda>" qual params body scope iF pm c' kh)
noncomputable def mr (c:Addr) (qual:Str):Heap->Prop:=fun h=>h.CodeRec (.ref c) qual
def Tab (H:au) (Pt:Addr) (pos:Pos) (qual:Str):Prop:=
 ∃ ps,H Pt=some (.gQ ps)/\(ps=#[]\/∃ c',ps=#[rawInt pos.line,rawInt pos.col,.ref c']/\H c'=some (.ext (mr c' qual)))
def lO (Pt:Addr) (H I:au):Prop:=∀ b o,b ≠ Pt->H b=some o->I b=some o
theorem lO.refl (Pt:Addr) (H:au):lO Pt H H:=fun _ _ _ h=>h
theorem lO.trans (a:lO Pt H H1) (b:lO Pt H1 av):lO Pt H av:=fun c o n h=>b c o n (a c o n h)
theorem aN.p (s:aN H I):lO Pt H I:=fun b o _ h=>s b o h
theorem Tab.ne (t:Tab H Pt pos qual) (h:H b=some o) (aS:∀ ps,o ≠ .gQ ps):b ≠ Pt:=fun e=>by
 obtain ⟨ps,aw,_⟩:=t;subst e;rw [aw] at h;exact aS ps (dX h).symm
theorem Tab.step (t:Tab H Pt pos qual) (s:aN H I):Tab I Pt pos qual:=by
 obtain ⟨ps,e,d⟩:=t;refine ⟨ps,s _ _ e,?_⟩;rcases d with d | ⟨c',d,bM⟩
 .exact .inl d
 .exact .inr ⟨c',d,s _ _ bM⟩
theorem Rt {w:World} {h:Heap}
  (e:h.get? f=some (wD "<lambda>" qual params body scope iF pm c' kh)):d9 P w H h f (.ext (l6 f qual params body scope iF c')):=
 ⟨⟨pm,kh,e⟩,⟨_,e⟩,fun _ _ ⟨p,c,aw⟩ k=>⟨p,c,k _ aw⟩⟩
theorem afW {w:World} {h:Heap} (e:h.CodeRec (.ref c) qual):d9 P w H h c (.ext (mr c qual)):=by
 refine ⟨e,?_,fun af ak x k=>?_⟩
 .obtain ⟨ct,o,vs,t,aw,aG,_⟩:=e;cases aw;exact ⟨o,aG⟩
 .obtain ⟨ct,o,vs,t,aw,aG,bS,er⟩:=x;cases aw;exact ⟨_,o,vs,t,rfl,k o aG,bS,er⟩
structure QW (X:a8) (c Pt:Addr):Prop where
 code:X.env.code=.ref c
 hd:pL X.base c Pt
 bm:X.base.BuiltinsAt X.mg Pt
theorem aax:TriplesOk [rawInt a,rawInt b,v]:=lr
theorem ah7:codeAmong pos [rawInt pos.line,rawInt pos.col,v]=some v:=by
 have:=codeAmong_snoc (pos:=pos) (c:=v) [] lr rfl;simpa using this
section
variable {X:a8} {ae:List (Addr × Obj)} {σ:St} {H:au} {s:Shared} {params:Arguments} {body:Expr} {scope:Scope} {pos:Pos} {c Pt:Addr} {iF:List (Str × Addr)} {Q:Value->Shared->Prop}
theorem agi (J:Inv X ae σ H s) (T:QW X c Pt) (bT:Tab H Pt pos (X.env.qual ++ "<lambda>")) (o8:closureFor scope X.env=pure iF) (L':defaultsOf params X.env=([],[]))
  (h:∀ f c' H1 s1,Inv X ae σ H1 s1->lO Pt H H1->(aI H->aI H1)->Tab H1 Pt pos (X.env.qual ++ "<lambda>")->H1 f=some (.ext (l6 f (X.env.qual ++ "<lambda>") params body scope iF c'))->H1 c'=some (.ext (mr c' (X.env.qual ++ "<lambda>")))->H f=none->Q (.ref f) s1) :
  wpAny (model X.prog X.w) X.A (eval (.Lambda params body scope pos) X.env) Q X.dI s:=by
 refine PySem.W.kla_eval L' ?_;obtain ⟨ps,hx,d⟩:=bT;have cD:s.heap.get? Pt=some (Vx ps):=J.bh _ _ hx;have n':s.heap.Ns mainGlobals X.mg:=J.mod.glob.keeps J.cI;have cV:=T.hd.keeps J.cI;have akK:mainGlobals ≠ Pt:=fun q=>by
  obtain ⟨o,a0,ep,e,hd,_⟩:=n';rw [q,cD] at e;cases e;cases hd
 have iD:s.heap.BuiltinsAt X.mg Pt:=by
  obtain ⟨bm,o,af,ak,bc,c4,e3,iO⟩:=T.bm;exact ⟨bm,o,af,ak,bc,c4,J.cI _ _ e3,iO⟩
 rcases d with rfl | ⟨c',rfl,ks⟩
 .refine PySem.W.kla_makeFunction (mg:=X.mg) o8 J.ok.glob n' T.code cV cD lr rfl akK iD fun c' kh h' tk ag Bc dW ajB Pk=>?_
  have EJ:H c'=none:=J.bh.fresh Bc;have hh:H h'.objs.size=none:=J.bh.fresh (c7 Bc (ni dW));have X2:c' ≠ h'.objs.size:=fX dW;have aeZ:Pt ≠ c':=fun z=>by rw [z,EJ] at hx;cases hx
  have anp:Pt ≠ h'.objs.size:=fun z=>by rw [z,hh] at hx;cases hx
  have put:∀ b o,b ≠ Pt->H b=some o->upd (upd (upd H Pt (.gQ (#[] ++ #[rawInt pos.line,rawInt pos.col,.ref c']))) c' (.ext (mr c' (X.env.qual ++ "<lambda>")))) h'.objs.size (.ext (l6 h'.objs.size (X.env.qual ++ "<lambda>") params body scope iF c')) b=some o:=fun b o n e=>by
   rw [aA (fun z=>by rw [z,hh] at e;cases e),aA (fun z=>by rw [z,EJ] at e;cases e),aA n];exact e
  have CJ:upd (upd (upd H Pt (.gQ (#[] ++ #[rawInt pos.line,rawInt pos.col,.ref c']))) c' (.ext (mr c' (X.env.qual ++ "<lambda>")))) h'.objs.size (.ext (l6 h'.objs.size (X.env.qual ++ "<lambda>") params body scope iF c')) Pt=some (.gQ (#[] ++ #[rawInt pos.line,rawInt pos.col,.ref c'])):=by
   rw [aA anp,aA aeZ,db]
  have C8:upd (upd (upd H Pt (.gQ (#[] ++ #[rawInt pos.line,rawInt pos.col,.ref c']))) c' (.ext (mr c' (X.env.qual ++ "<lambda>")))) h'.objs.size (.ext (l6 h'.objs.size (X.env.qual ++ "<lambda>") params body scope iF c')) c'=some (.ext (mr c' (X.env.qual ++ "<lambda>"))):=by
   rw [aA X2,db]
  have MO:upd (upd (upd H Pt (.gQ (#[] ++ #[rawInt pos.line,rawInt pos.col,.ref c']))) c' (.ext (mr c' (X.env.qual ++ "<lambda>")))) h'.objs.size (.ext (l6 h'.objs.size (X.env.qual ++ "<lambda>") params body scope iF c')) h'.objs.size=some (.ext (l6 h'.objs.size (X.env.qual ++ "<lambda>") params body scope iF c')):=db;have b':∀ b,b ≠ Pt->b ≠ c'->b ≠ h'.objs.size->upd (upd (upd H Pt (.gQ (#[] ++ #[rawInt pos.line,rawInt pos.col,.ref c']))) c' (.ext (mr c' (X.env.qual ++ "<lambda>")))) h'.objs.size (.ext (l6 h'.objs.size (X.env.qual ++ "<lambda>") params body scope iF c')) b=H b:=fun b b9 ck dy=>by
   rw [aA dy,aA ck,aA b9]
  have jJ:aI H->aI (upd (upd (upd H Pt (.gQ (#[] ++ #[rawInt pos.line,rawInt pos.col,.ref c']))) c' (.ext (mr c' (X.env.qual ++ "<lambda>")))) h'.objs.size (.ext (l6 h'.objs.size (X.env.qual ++ "<lambda>") params body scope iF c'))):=fun n=>n.upd.upd.upd
  generalize upd (upd (upd H Pt (.gQ (#[] ++ #[rawInt pos.line,rawInt pos.col,.ref c']))) c' (.ext (mr c' (X.env.qual ++ "<lambda>")))) h'.objs.size (.ext (l6 h'.objs.size (X.env.qual ++ "<lambda>") params body scope iF c'))=H1 at put CJ C8 MO b' jJ;have bJ:∀ b o,b ≠ Pt->s.heap.get? b=some o->(h'.push (wD "<lambda>" (X.env.qual ++ "<lambda>") params body scope iF ((X.mg "__name__").getD .none) c' kh)).get? b=some o:=fun b o n e=>eP _ (ag b o n e)
  have HW:∀ b,H b=none->b ≠ Pt:=fun b n z=>by rw [z,hx] at n;cases n
  have u:e2 X.aR [] H H1 s.heap (h'.push (wD "<lambda>" (X.env.qual ++ "<lambda>") params body scope iF ((X.mg "__name__").getD .none) c' kh)):=by
   refine ⟨fun b o e n _ _=>bJ b o (HW b n) e,fun b o e n _ _=>⟨o.slots,bJ b o (HW b n) e⟩,fun b o e n _=>?_,fun b o e _=>?_,fun b xs e=>put b _ (fun z=>by rw [z,hx] at e;cases e) e,fun b o x e=>put b _ (fun z=>by rw [z,hx] at e;cases e) e,fun b ps e=>?_⟩
   .have aa:=ek e;rw [b' b (HW b n) (fX (h6 aa Bc)) (fX (h6 aa (c7 Bc (ni dW))))];exact n
   .by_cases aa:b=Pt
    .subst aa;exact ⟨_,eP _ Pk⟩
    .exact ⟨o,bJ b o aa e⟩
   .by_cases aa:b=Pt
    .subst aa;rw [hx] at e;cases e;exact ⟨_,CJ⟩
    .exact ⟨#[],by rw [put b _ aa e];simp⟩
  have bh:ej X.prog X.w H1 (h'.push (wD "<lambda>" (X.env.qual ++ "<lambda>") params body scope iF ((X.mg "__name__").getD .none) c' kh)):=fun b o e=>by
   by_cases af:b=Pt
   .subst af;rw [CJ] at e;cases e;exact eP _ Pk
   by_cases ak:b=c'
   .subst ak;rw [C8] at e;cases e;refine afW ?_;obtain ⟨ct,o,vs,t,aw,aG,bS⟩:=ajB;exact ⟨ct,o,vs,t,aw,eP _ aG,bS⟩
   by_cases bc:b=h'.objs.size
   .subst bc;rw [MO] at e;cases e;exact Rt (hp _ rfl)
   rw [b' b af ak bc] at e;refine (J.bh b o e).og (fun d v hd q=>bJ d v ?_ q) (fun d q=>put d _ (fun z=>by rw [z,hx] at q;cases q) q) fun d xs q=>put d _ (fun z=>by rw [z,hx] at q;cases q) q
   rcases hd with z | z
   .rw [z];exact af
   .intro es;rw [es,hx] at z;cases z
  exact h _ c' H1 _ (J.un (t':=tk) u bh) (fun b o n e=>put b o n e) jJ ⟨_,CJ,.inr ⟨c',by simp,C8⟩⟩ MO C8 hh
 .refine PySem.W.kla_makeFunctionHit (mg:=X.mg) o8 J.ok.glob n' T.code cV cD aax ah7 iD fun kh h' tk aC hsz=>?_
  have hh:H h'.objs.size=none:=J.bh.fresh hsz;have aU:Inv X ae σ (upd H h'.objs.size (.ext (l6 h'.objs.size (X.env.qual ++ "<lambda>") params body scope iF c'))) { s with heap:=h'.push (wD "<lambda>" (X.env.qual ++ "<lambda>") params body scope iF ((X.mg "__name__").getD .none) c' kh),toks:=tk }:=
   J.laid (t':=tk) (fun b o e=>eP _ (aC b o e)) hsz (Rt (hp _ rfl))
  have bg:=bf (o:=.ext (l6 h'.objs.size (X.env.qual ++ "<lambda>") params body scope iF c')) hh;exact h _ c' _ _ aU bg.p (fun n=>n.upd) ⟨_,bg _ _ hx,.inr ⟨c',rfl,bg _ _ ks⟩⟩ db (bg _ _ ks) hh
end
section
variable {P:Program} {w:World} {K:ba} {mg:Str->Option Value} {base:Heap}
end
structure ao5 (p y:Str) (sc:Scope):Prop where
 kind:sc.kind=.function
 co:sc.isCoroutine=false
 gen:sc.isGenerator=false
 ne:p ≠ y
 par:sc.names.lookup p=some .local
 PW:sc.names.lookup y=some .free
 uP:∀ z ∈ sc.names,z.2 ≠ .cell
 one:∀ z ∈ sc.names,z.2=.free->z.1=y
section
variable {X:a8} {ae:List (Addr × Obj)} {σ:St} {H:au} {s:Shared} {k:Nat} {f c' cl:Addr} {q p y:Str} {params:Arguments} {body:Expr} {scope:Scope} {v:V} {t:TE}
end
noncomputable def ai4:Expr->Scope
 | .Lambda _ _ s _=>s
 | _=>{ kind:=.function,names:=[],isGenerator:=false,isCoroutine:=false }
noncomputable def aka:Expr->Pos
 | .Lambda _ _ _ p=>p
 | _=>⟨0,0,0,0⟩
def AU (Pt:Addr) (H:au):Prop:=H Pt=some (.gQ #[])/\∀ b,H b=none\/b=Pt\/∃ o xs,H b=some (.dx o (.lst xs))
theorem Sc.aec {K:ba} {ns:List Int} (lR:AU Pt H) (d2:aF K H a (ns.map V.int)):Sc K a ns H:=by
 refine ⟨?_,fun b u e=>?_⟩
 .rcases d2 with (h | ⟨o,h⟩) | h
  .rcases lR.2 a with z | z | ⟨bI,xs,z⟩
   .rw [h] at z;cases z
   .rw [z,lR.1] at h;cases h
   .rw [h] at z;cases z
  .exact .inl ⟨o,h⟩
  .exact .inr h
 .rcases lR.2 b with z | z | ⟨o,xs,z⟩
  .rw [e] at z;cases z
  .rw [z,lR.1] at e;cases e;rfl
  .rw [e] at z;cases z;rfl
theorem ajr {w:World} {K:ba} {mg mL:Str->Option Value} {k:Nat} {fd:FuncData} {x:Str} {ns:List Int}
  (kP:K.In dk.heap) (fB:aaA K=true) (n':dk.heap.Ns mainGlobals mg) (aa:dk.heap.Ns builtinsNs mL) (qT:∀ x:Str,x ≠ "__name__" -> mL x=bootBuiltins x) (akC:dk.heap.NoLimit) (bj:dk.gens=#[])
  (acz:∃ bm bI,mg "__builtins__"=some (.ref bm)/\bm ≠ builtinsNs/\dk.heap.get? bm=some bI/\bI.cls=.type "module" /\ bI.dict=some builtinsNs/\bI.data=.plain)
  (cV:pL dk.heap c Pt) (cD:dk.heap.get? Pt=some (Vx #[]))
  (aZ:dk.heap.get? a=some { cls:=.type "list",data:=.seq vs.toArray }) (ah:IntsAre vs ns) (aK:ns.length <= sizeLine) (ao:eA k callerA)
  (F:∀ base:Heap,K.In base->base.Ns mainGlobals mg->pL base c Pt->base.BuiltinsAt mg Pt->cJ P w K mg base CX k gB fd [x] sp) (ab3:∀ (s:Shared) (u:Value),BindsTo s fd ⟨[u],[]⟩ [(x,u)])
  (iE:∀ H:au,AU Pt H->aF K H a (ns.map V.int)->sp [.ref a] H (fun v _=>v=.bB true) fun _ _ _=>False)
  (Gq:∀ H e aj,CX [] H dk (fun _ _ _=>False) e aj->False) :
  codeAny (model P w) callerA (.call (.ref gB) ⟨[.ref a],[]⟩) (fun r aj=>r=.ok (.ret (.bool true))/\OldK dk.heap aj.heap/\aj.os=dk.os/\AllBare aj.gens) dk:=by
 have cL:=Q9 ah;have aeN:=ah.length;have UU:Pt ≠ a:=fun z=>by rw [z,aZ] at cD;cases cD
 have Xh:∀ o,K.lookup Pt=some o->False:=fun o e=>by
  have aw:=kP _ _ e;rw [cD] at aw;cases aw;have:=pE.mp fB _ (PySem.W.mem_of_lookupK e);exact absurd (show false=true from this) fY
 have core:∀ H:au,AU Pt H->aF K H a (ns.map V.int)->ej P w H dk.heap->(∀ b,H b ≠ none->b=Pt\/b=a)->(H a ≠ none->K.lookup a=none) ->
   codeAny (model P w) callerA (.call (.ref gB) ⟨[.ref a],[]⟩) (fun r aj=>r=.ok (.ret (.bool true))/\OldK dk.heap aj.heap/\aj.os=dk.os/\AllBare aj.gens) dk:=by
  intro H lR d2 bh jZ aeF;have O4:∀ {b:Addr} {o:Obj},dk.heap.get? b=some o->o.cls ≠ .none->(∀ a4 n,o.data ≠ .seq a4 n)->(nS dk.heap H).get? b=some o:=fun {b o} e af ak=>by
   refine Mf e ?_;cases q:H b with
   | none=>rfl
   | some u=>
    rcases jZ b (by rw [q];simp) with z | z
    .subst z;rw [cD] at e;cases e;exact absurd rfl af
    .subst z;rw [aZ] at e;cases e;exact absurd rfl (ak _ _)
  have Ag:∀ {b:Addr} {m:Str->Option Value},dk.heap.Ns b m->(nS dk.heap H).Ns b m:=fun {b m} ⟨o,a0,ep,e,d,r⟩=>⟨o,a0,ep,(by
   refine Mf e ?_;cases q:H b with
   | none=>rfl
   | some u=>
    rcases jZ b (by rw [q];simp) with z | z
    .subst z;rw [cD] at e;cases e;cases d
    .subst z;rw [aZ] at e;cases e;cases d),d,r⟩
  have WJ:K.In (nS dk.heap H):=fun b o e=>Mf (kP b o e) (by
   cases q:H b with
   | none=>rfl
   | some u=>
    rcases jZ b (by rw [q];simp) with z | z
    .subst z;exact (Xh o e).elim
    .subst z;rw [aeF (by rw [q];simp)] at e;cases e)
  have abo:Mod K mg (nS dk.heap H):=⟨WJ,Ag n',⟨mL,Ag aa,qT⟩,let ⟨alM,af,ak⟩:=akC;⟨alM,Ag af,ak⟩⟩;have alY:pL (nS dk.heap H) c Pt:=by
   obtain ⟨o,aj',file,akR,flags,dm,ais,text,tt,aw,aG,bS,r⟩:=cV;exact ⟨o,aj',file,akR,flags,dm,ais,text,tt,O4 aw (by rw [aG];intro z;cases z) (fun _ _ z=>by rw [bS] at z;cases z),aG,bS,r⟩
  have ak8:(nS dk.heap H).BuiltinsAt mg Pt:=by
   obtain ⟨bm,bI,af,ak,bc,c4,e3,iO⟩:=acz;refine ⟨bm,bI,af,ak,fun z=>?_,fun z=>?_,O4 bc (by rw [c4];intro z;cases z) (fun _ _ z=>by rw [iO] at z;cases z),c4,e3,iO⟩
   .obtain ⟨o,a0,ep,e,d,_⟩:=n';rw [z,e] at bc;cases bc;rw [d] at iO;cases iO
   .rw [z,cD] at bc;cases bc;cases c4
  have fJ:ny P w K mg (nS dk.heap H) callerA [] dk H:=⟨rfl,abo,fun b o e=>aas e,acT (abO _ _),trivial,fun b aa=>absurd (show b ∈ ([]:List Addr) from aa) (by simp),bh,.of_eq bj⟩;refine codeAny_mono ((F _ WJ (Ag n') alY ak8).run callerA [] dk H ⟨[.ref a],[]⟩ [.ref a] [.ref a] _ _ ao fJ (ab3 dk (.ref a)) (.cons rfl .nil) (iE H lR d2)) fun r aj h=>?_
  cases r with
  | error e=>exact (Gq H e aj h).elim
  | ok et=>
   cases et with
   | next=>exact jh h
   | brk=>exact jh h
   | cont=>exact jh h
   | ret u=>
    obtain ⟨v,I,os,bare,un,SG,dM,q⟩:=h;have dV:v=.bB true:=q;subst dV;obtain rfl:u=kE true:=dM;obtain ⟨more,hx⟩:=un.kB Pt _ lR.1;have WQ:aj.heap.get? Pt=some { cls:=.none,data:=.fields (#[] ++ more) }:=SG _ _ hx;have bJ:∀ b o,b ≠ Pt->dk.heap.get? b=some o->aj.heap.get? b=some o:=fun b o nb e=>by
     rcases lR.2 b with z | z | ⟨bI,xs,z⟩
     .exact un.keep b o e z (by intro z;exact absurd (show b ∈ ([]:List Addr) from z) (by simp)) (by simp)
     .exact absurd z nb
     .have es:=un.jS b bI _ z;obtain ⟨aw,_⟩:=bh b _ z;obtain ⟨aG,_⟩:=SG b _ es;rw [e] at aw;cases aw;exact aG
    refine ⟨rfl,⟨fun b o e=>?_,fun b o e=>?_⟩,os,bare⟩
    .by_cases wg:b=Pt
     .subst wg;rw [cD] at e;cases e;exact .inr (.inl ⟨(cV.tab cD).isCodeTable,rfl,#[],more,rfl,WQ⟩)
     .exact .inl (bJ b o wg e)
    .by_cases wg:b=Pt
     .subst wg;exact ⟨_,WQ⟩
     .exact ⟨o,bJ b o wg e⟩
 have Ql:∀ H:au,d9 P w H dk.heap Pt (.gQ #[]):=fun _=>cD
 cases aC:K.lookup a with
 | some o=>
  have e:=kP a o aC;rw [aZ] at e;cases e;refine core (fun b=>if b=Pt then some (.gQ #[]) else none) ⟨if_pos rfl,fun b=>?_⟩ (.inr ⟨_,vs.toArray,_,aC,rfl,rfl,rfl,by rw [d8,aeN];exact aK,by simpa using cL⟩) (fun b u z=>?_) (fun b z=>?_) fun z=>absurd (if_neg (cX UU)) z
  .by_cases aa:b=Pt
   .exact .inr (.inl aa)
   .exact .inl (if_neg aa)
  .by_cases aa:b=Pt
   .have ih:=(if_pos aa).symm.trans z;cases ih;subst aa;exact Ql _
   .have ih:=(if_neg aa).symm.trans z;cases ih
  .by_cases aa:b=Pt
   .exact .inl aa
   .exact absurd (if_neg aa) z
 | none=>
  have gS:(fun b=>if b=Pt then some (dU.gQ #[]) else if b=a then some (.dx { cls:=.type "list",data:=.seq vs.toArray } (.lst (ns.map V.int))) else none) a=some (.dx { cls:=.type "list",data:=.seq vs.toArray } (.lst (ns.map V.int))):=by
   show (if a=Pt then _ else if a=a then _ else _)=_;rw [if_neg (cX UU),if_pos rfl]
  refine core (fun b=>if b=Pt then some (.gQ #[]) else if b=a then some (.dx { cls:=.type "list",data:=.seq vs.toArray } (.lst (ns.map V.int))) else none) ⟨if_pos rfl,fun b=>?_⟩ (.inl (.inr ⟨_,gS⟩)) (fun b u z=>?_) (fun b z=>?_) fun _=>aC
  .by_cases aa:b=Pt
   .exact .inr (.inl aa)
   .by_cases j2:b=a
    .exact .inr (.inr ⟨_,_,by rw [j2];exact gS⟩)
    .exact .inl ((if_neg aa).trans (if_neg j2))
  .by_cases aa:b=Pt
   .have ih:=(if_pos aa).symm.trans z;cases ih;subst aa;exact Ql _
   .by_cases j2:b=a
    .subst j2;rw [gS] at z;cases z;exact ⟨aZ,by rw [aO];exact aK,vs,_,cL,aZ⟩
    .have ih:=((if_neg aa).trans (if_neg j2)).symm.trans z;cases ih
  .by_cases aa:b=Pt
   .exact .inl aa
   .by_cases j2:b=a
    .exact .inr j2
    .exact absurd ((if_neg aa).trans (if_neg j2)) z
section
variable {P:Program} {w:World} {A:Around} {E:Value->Shared->Prop} {s:Shared}
structure tc (h:Heap) (d:Addr) (o:Obj) (a0:Array DictEntry) (ep:Nat):Prop where
 at_:h.get? d=some o
 ex:o.ExactDict
 dat:o.data=.dict a0 ep
theorem Wr (r:tc s.heap d o a0 ep):s.TypeIs (.ref d) "dict" := ⟨o,r.at_,r.ex.1⟩
theorem akH (hd:(d == sysModules)=false) (r:tc s.heap d o a0 ep)
  (a9:Q (.ref s.heap.objs.size) { s with heap:=s.heap.push { cls:=.type "dict_keyiterator",data:=.fields #[.ref d,.int 0 0,.int a0.size 0,.int ep 0] } }) :
  wpAny (model P w) A (pyIter (.ref d)) Q E s:=by
 have hG:=Wr r;refine wpAny_pyIter_slot hG Yj (wpAny_call_entry Yj hG F.entry_dict_iter ?_ (F.args_dict_iter_1 _));unfold Builtin.«dict.__iter__» anF;refine wpAny_bind (wpAny_bind (wpAny_notOrdered_dict hG (wpAny_pure ?_)));show wpAny _ _ (afr d >>= _) _ _ s;unfold afr;rw [if_neg (by rw [hd];exact fY)];refine wpAny_bind (wpAny_pure (wpAny_bind (wpAny_dictEntries r.at_ r.dat (wpAny_bind (wpAny_dictEpoch r.at_ r.dat ?_)))));refine wpAny_bind (wpAny_newObj_type (wpAny_pure ⟨_,rfl,"dict_keyiterator",_,⟨_,hp _ rfl,rfl⟩,A'.lookup,?_⟩));simpa [rawInt] using a9
theorem amz {it d:Addr} {e:DictEntry} (hit:s.heap.IsKeyIter it d i a0.size ep) (r:tc s.heap d o a0 ep) (ag:a0[i]? = some e)
  (a9:∀ h',h'.IsKeyIter it d (i + 1) a0.size ep->uH it s.heap h'->Q (some e.key) { s with heap:=h' }):wpAny (model P w) A (pyNext (.ref it)) Q E s:=by
 obtain ⟨aaR,aS,ay,hd⟩:=id hit;have tB:aft "dict_keyiterator"=false:=by decide
 have dW:i < a0.size:=by
  rcases MN i a0.size with h | h
  .exact h
  .rw [YP h] at ag;cases ag
 unfold pyNext;refine wpAny_bind (wpAny_attempt (wpAny_callSpecial?_slot (name:=ab "__next__") hit.typeIs A'
  (wpAny_call_entry A' hit.typeIs acV ?_ (ac2 _))))
 refine wpAny_bind (wpAny_pure (wpAny_bind (wpAny_bind ?_)))
 first | refine wpAny_bind (wpAny_typeNameOfWhole_keyiter hit.typeIs (wpAny_pure ?_)) | refine wpAny_bind (wpAny_typeNameOf_keyiter hit.typeIs (wpAny_pure ?_))
 refine wpAny_bind (wpAny_fieldsOf aS hd ?_);simp only [tB,LV,if_false];show wpAny _ _ (if (fi d == td)=true then _ else _) _ _ s;rw [if_neg (show ¬ ((fi d == td)=true) from fY)];refine wpAny_bind (wpAny_pure (wpAny_bind (wpAny_dictEntries r.at_ r.dat ?_)));rw [if_neg (by simp)];refine wpAny_bind (wpAny_pure (wpAny_bind (wpAny_dictEpoch r.at_ r.dat ?_)));rw [if_neg (by simp)];refine wpAny_pure ?_;simp only [show ¬ ((i:Int) < 0) from by omega,if_false,rq,ag];refine wpAny_bind ?_
 first | refine wpAny_bind (wpAny_typeNameOfWhole_keyiter hit.typeIs (wpAny_pure ?_)) | refine wpAny_bind (wpAny_typeNameOf_keyiter hit.typeIs (wpAny_pure ?_))
 refine wpAny_bind (wpAny_isOneOf_keyiter hit.typeIs ?_);show wpAny _ _ (setField (.ref it) 1 (rawInt ((i:Int) + 1)) >>= _) _ _ s;refine wpAny_bind (wpAny_setField aS hd (by simp) ?_);have NC:(s.heap.update it (ZH (·.setIfInBounds 1 (rawInt ((i:Int) + 1))))).IsKeyIter it d (i + 1) a0.size ep:=
  ⟨_,abz _ aS (Obj.isFreed_of_fields (aex hd _)),(Obj.cls_mapFields ..).trans ay,by rw [aex hd];simp [rawInt]⟩
 refine wpAny_bind (wpAny_holding (wpAny_bind (wpAny_isOneOf_keyiter (s:={ s with heap:=s.heap.update it (ZH (·.setIfInBounds 1 (rawInt ((i:Int) + 1)))) }) NC.typeIs ?_)));show wpAny _ _ (pure e.key) _ _ _;exact wpAny_pure (wpAny_pure ⟨_,rfl,wpAny_pure (a9 _ NC (ad9 ..))⟩)
theorem aeO {it d:Addr} (gg:A.handled=none) (hit:s.heap.IsKeyIter it d i a0.size ep) (r:tc s.heap d o a0 ep) (ag:a0.size <= i)
  (a9:∀ h',Heap.ExtBut it s.heap h'->Q none { s with heap:=h' }):wpAny (model P w) A (pyNext (.ref it)) Q E s:=by
 obtain ⟨aaR,aS,ay,hd⟩:=id hit;have tB:aft "dict_keyiterator"=false:=by decide
 unfold pyNext;refine wpAny_bind (wpAny_attempt (wpAny_callSpecial?_slot (name:=ab "__next__") hit.typeIs A'
  (wpAny_call_entry A' hit.typeIs acV ?_ (ac2 _))))
 refine wpAny_bind (wpAny_pure (wpAny_bind (wpAny_bind ?_)))
 first | refine wpAny_bind (wpAny_typeNameOfWhole_keyiter hit.typeIs (wpAny_pure ?_)) | refine wpAny_bind (wpAny_typeNameOf_keyiter hit.typeIs (wpAny_pure ?_))
 refine wpAny_bind (wpAny_fieldsOf aS hd ?_);simp only [tB,LV,if_false];show wpAny _ _ (if (fi d == td)=true then _ else _) _ _ s;rw [if_neg (show ¬ ((fi d == td)=true) from fY)];refine wpAny_bind (wpAny_pure (wpAny_bind (wpAny_dictEntries r.at_ r.dat ?_)));rw [if_neg (by simp)];refine wpAny_bind (wpAny_pure (wpAny_bind (wpAny_dictEpoch r.at_ r.dat ?_)));rw [if_neg (by simp)];refine wpAny_pure ?_;simp only [show ¬ ((i:Int) < 0) from by omega,if_false,rq,YP ag];refine wpAny_bind ?_
 first | refine wpAny_bind (wpAny_typeNameOfWhole_keyiter hit.typeIs (wpAny_pure ?_)) | refine wpAny_bind (wpAny_typeNameOf_keyiter hit.typeIs (wpAny_pure ?_))
 show wpAny _ _ (setField (.ref it) 0 .none >>= _) _ _ s;refine wpAny_bind (wpAny_setField aS hd (by simp) ?_);show wpAny _ _ (newExc (.type "StopIteration") [] >>= _) _ _ _;refine wpAny_bind ?_;simp only [newExc,newTuple];refine wpAny_bind (wpAny_newObj_type ?_ (by size_fits));refine wpAny_bind (m:=firstArgMember _ _) (wpAny_of_eq (a:=td) (by first | rfl | (simp only [firstArgMember];rfl)) ?_);refine wpAny_newObj_type ?_ (by size_fits);simp only [raiseNew];refine wpAny_bind (wpAny_handled ?_);rw [show A.in1.handled=none from gg];refine wpAny_bind (wpAny_pure (wpAny_throw ?_));refine wpAny_bind (wpAny_isInstance (T := "StopIteration") (b:=true) ⟨_,hp _ rfl,rfl⟩ isSubtype_stop ?_);exact wpAny_pure (a9 _ (((ad9 ..).extBut.push _).push _))
end
noncomputable def oU (a:Addr) (o:Obj):Heap->Prop:=fun h=>h.get? a=some o
structure Ov (P:Program) (w:World) (H:au) (a:Addr) (kvs:List (List Key × V)) (o:Obj) (a0:Array DictEntry) (ep:Nat) (xs:List (List Key × Addr × Value)):Prop where
 at_:H a=some (.ext (oU a o))
 ex:o.ExactDict
 dat:o.data=.dict a0 ep
 ent:a0.toList=xs.map (entryOfKey (tupleKind (gJ P w)))
 aH:(xs.map (·.1)).Nodup
 bW:Paired (fun (p:List Key × V) (q:List Key × Addr × Value)=>p.1=q.1/\H q.2.1=some (.tup (p.1.map c9))/\bK p.2 q.2.2) kvs xs
 nZ:kvs.length <= sizeLine
 ns:(a == sysModules)=false
def iZ (P:Program) (w:World) (H:au) (a:Addr) (kvs:List (List Key × V)):Prop:=∃ o a0 ep xs,Ov P w H a kvs o a0 ep xs
section
variable {P:Program} {w:World} {H I:au} {h:Heap} {a:Addr} {kvs:List (List Key × V)}
theorem Io (d:iZ P w H a kvs) (s:aN H I):iZ P w I a kvs:=by
 obtain ⟨o,a0,ep,xs,r⟩:=d;exact ⟨o,a0,ep,xs,s _ _ r.at_,r.ex,r.dat,r.ent,r.aH,Paired.ri r.bW fun p q z=>⟨z.1,s _ _ z.2.1,z.2.2⟩,r.nZ,r.ns⟩
theorem aiQ {p:Addr} (d:iZ P w H a kvs) (aq:p ≠ a) (cZ:∀ xs,H p ≠ some (.tup xs)):iZ P w (upd H p u) a kvs:=by
 obtain ⟨o,a0,ep,xs,r⟩:=d;exact ⟨o,a0,ep,xs,by rw [aA (cX aq)];exact r.at_,r.ex,r.dat,r.ent,r.aH,Paired.ri r.bW fun q dV z=>⟨z.1,by rw [aA (fun e=>cZ _ (e ▸ z.2.1))];exact z.2.1,z.2.2⟩,r.nZ,r.ns⟩
theorem VG (ok:ej P w H h) (r:Ov P w H a kvs o a0 ep xs):tc h a o a0 ep:=
 ⟨(ok a _ r.at_).1,r.ex,r.dat⟩
theorem S7 (ok:ej P w H h) (d:iZ P w H a kvs):pg (H a)/\(∃ u,h.get? a=some u)/\d9 P w (upd H a (.gq kvs)) h a (.gq kvs):=by
 obtain ⟨o,a0,ep,xs,r⟩:=d;have e:=(VG ok r).at_;refine ⟨by rw [r.at_];exact lr,⟨o,e⟩,r.nZ,r.ns,xs,Paired.ri r.bW fun q dV z=>⟨z.1,?_,z.2.2⟩,o,a0,ep,e,r.ex,r.dat,r.ent,r.aH⟩;rw [aA (fun e=>by have:=z.2.1;rw [e,r.at_] at this;cases this)];exact z.2.1
theorem ajP (ok:ej P w H h) (d:iZ P w H a kvs):ej P w (upd H a (.gq kvs)) h:=
 have z:=S7 ok d
 ok.write z.1 (.inl rfl) (fun _ _ _ q=>q) z.2.1 z.2.2
theorem ahP (d:iZ P w H a kvs) (e:H b=some (.tup xs)):b ≠ a:=fun z=>by
 obtain ⟨o,a0,ep,ys,r⟩:=d;have:=r.at_;rw [<- z,e] at this;cases this
end
section
variable {X:a8} {ae:List (Addr × Obj)} {σ:St} {H:au} {s:Shared} {a b:Addr} {kvs:List (List Key × V)} {k:List Key} {v:V} {r:Value} {A:Around} {E:Value->Shared->Prop}
theorem H8 (J:Inv X ae σ H s) (gI:pg (H a)) (ex:∃ u,s.heap.get? a=some u) (new:d9 X.prog X.w (upd H a ei) s.heap a ei):Inv X ae σ (upd H a ei) s:=
 J.un (t':=s.toks) (h':=s.heap) (e2.write gI (.inl rfl) (fun _ _ _ q=>q) ex) (J.bh.write gI (.inl rfl) (fun _ _ _ q=>q) ex new)
theorem ajw (J:Inv X ae σ H s) (d:iZ X.prog X.w H a kvs):Inv X ae σ (upd H a (.gq kvs)) s:=
 have z:=S7 J.bh d
 H8 J z.1 z.2.1 z.2.2
theorem Pc (J:Inv X ae σ H s) (e:H a=some (.gq kvs)):∃ o,Inv X ae σ (upd H a (.ext (oU a o))) s/\iZ X.prog X.w (upd H a (.ext (oU a o))) a kvs:=by
 obtain ⟨z,y,xs,r,o,a0,ep,af,ak,bc,c4,e3⟩:=(show d9 X.prog X.w H s.heap a (.gq kvs) from J.bh a _ e);refine ⟨o,H8 J (by rw [e];exact lr) ⟨o,af⟩ ⟨af,⟨o,af⟩,fun _ _ q k=>k o q⟩,o,a0,ep,xs,db ..,ak,bc,c4,e3,Paired.ri r fun p q z=>⟨z.1,?_,z.2.2⟩,z,y⟩;rw [aA (fun q=>by have:=z.2.1;rw [q,e] at this;cases this)];exact z.2.1
theorem ZQ (bt:A.units + 1 < cLine) (J:Inv X ae σ H s) (d:iZ X.prog X.w H a kvs) (bz:H b=some (.tup (k.map c9))) (l:c1 kvs k=some v) (h:∀ eH aj,Inv X ae σ H aj->bK v eH->Q eH aj) :
  wpAny (model X.prog X.w) A (getItem (.ref a) (.ref b)) Q E s:=by
 obtain ⟨z,hd,xs,rel,cF⟩:=TV (ajP J.bh d) (db ..);obtain ⟨eH,hw,hb⟩:=h_.some_of (v:=v) (o:=(atKey xs k).map (·.2)) (by rw [<- l];exact rel.val k);obtain ⟨p,aq,hY⟩:=zS.mp hw;refine wpAny_getItem_heap (tupleKind_room_in1 bt) (ZB J.bh bz) cF aq ?_;rw [hY];exact h eH _ (J.tok _) hb
theorem ae0 (bt:A.units + 1 < cLine) (J:Inv X ae σ H s) (d:iZ X.prog X.w H a kvs) (bz:H b=some (.tup (k.map c9))) (aK:kvs.length < sizeLine) (cL:bK v r)
  (h:∀ o aj,Inv X ae σ (upd H a (.ext (oU a o))) aj->iZ X.prog X.w (upd H a (.ext (oU a o))) a (ci kvs k v)->Q () aj):wpAny (model X.prog X.w) A (setItem (.ref a) (.ref b) r) Q E s:=by
 refine IJ bt (ajw J d) (hC.t (db ..) (by rw [aA (ahP d bz)];exact bz) aK) (show bK (.ref b) (.ref b) from rfl) cL fun aj gz=>?_
 rw [tp] at gz;obtain ⟨o,bN,eX⟩:=Pc gz (db ..);rw [tp] at bN eX;exact h o aj bN eX
end
noncomputable def Fs (P:Program) (w:World) (e8 ty:TE):TE:=fun σ H Q=>e8 σ H fun x H1=>ty σ H1 fun y av=>∃ a b kvs k v,x=.ref a/\y=.ref b/\iZ P w av a kvs/\av b=some (.tup (k.map c9))/\c1 kvs k=some v/\Q v av
noncomputable def Ki (P:Program) (w:World) (e8 ty e9:TE):ea:=fun D σ H=>e9 σ H fun v H1=>e8 σ H1 fun x av=>ty σ av fun y bk=>∃ a b kvs k,x=.ref a/\y=.ref b/\iZ P w bk a kvs/\bk b=some (.tup (k.map c9))/\kvs.length < sizeLine/\∀ o,iZ P w (upd bk a (.ext (oU a o))) a (ci kvs k v)->D.b8 σ (upd bk a (.ext (oU a o)))
noncomputable def Lc (P:Program) (w:World):TE:=fun _ H Q=>∀ p o,H p=none->iZ P w (upd H p (.ext (oU p o))) p []->Q (.ref p) (upd H p (.ext (oU p o)))
section
variable {X:a8} {o i e value:Expr} {pos pos' t2:Pos} {e8 ty e9:TE}
theorem aim (bt:X.A.units + 1 < cLine) (aS:bw X o e8) (ah:bw X i ty) (aB:KR i):bw X (.Subscript o i pos) (Fs X.prog X.w e8 ty):=by
 intro ae s σ H Q J h;refine UK ajY.lookup aB (bF (aS ae s σ H _ J h) fun u s1 b4=>d1 b4 fun x H1 aU a_ bO=>bF (ah ae s1 σ H1 _ aU bO) fun gN s2 cS=>?_);obtain ⟨y,av,bN,bq,a,b,kvs,k,v,ex,j0,d,bz,l,dC⟩:=cS;subst ex j0;obtain rfl:u=fi a:=a_;obtain rfl:gN=fi b:=bq;refine ⟨?_,ZQ bt bN d bz l fun eH s3 eI hb=>⟨v,av,eI,hb,dC⟩⟩;obtain ⟨bI,a0,ep,xs,r⟩:=d;exact Wr (VG bN.bh r)
theorem age (bt:X.A.units + 1 < cLine) (aS:bw X o e8) (ah:bw X i ty) (aJ:bw X value e9) (aB:swapsWith value (some (.Subscript o i pos')) pos.line X.env=pure false) :
  hr X (.Assign [.Subscript o i pos'] value pos) (Ki X.prog X.w e8 ty e9):=by
 intro ae s σ H D J h;refine wpAny_Assign_Subscript (bF (aJ ae s σ H _ J h) fun r s1 b4=>d1 b4 fun v H1 aU cL bO=>bF (aS ae s1 σ H1 _ aU bO) fun u s2 b4=>d1 b4 fun x av bN a_ dC=>bF (ah ae s2 σ av _ bN dC) fun gN s3 cS=>?_) aB;obtain ⟨y,bk,eI,bq,a,b,kvs,k,ex,j0,d,bz,aK,hn⟩:=cS;subst ex j0;obtain rfl:u=fi a:=a_;obtain rfl:gN=fi b:=bq;exact ae0 bt eI d bz aK cL fun bI s4 hU p1=>⟨σ,_,hU,hn bI p1⟩
theorem abp:bw X (.Dict [] [] pos) (Lc X.prog X.w):=fun ae s σ H Q J h=>by
 refine bF (abC ae s σ H (fun x H1=>∃ p,x=.ref p/\H p=none/\H1=upd H p (.gq [])) J fun p aq=>⟨p,rfl,aq,rfl⟩) fun v s1 cS=>?_
 obtain ⟨x,H1,aU,bC,p,ex,aq,wx⟩:=cS;subst ex wx;obtain ⟨o,bN,eX⟩:=Pc aU (db ..);rw [tp] at bN eX;exact ⟨.ref p,_,bN,bC,h p o aq eX⟩
end
section
variable {X:a8} {dm:Expr}
end
noncomputable def k4 (p d:Addr):Heap->Prop:=fun h=>h.IsItemsView p d
theorem k4.ok {w:World} {h:Heap} {p d:Addr} (z:k4 p d h):d9 P w H h p (.ext (k4 p d)):=
 ⟨z,let ⟨o,aS,_⟩:=z;⟨o,aS⟩,fun _ _ eV k=>let ⟨o,aS,x⟩:=eV;⟨o,k o aS,x⟩⟩
theorem ej.wu {w:World} {h h':Heap} (x:ej P w H h) (k:∀ b u,h.get? b=some u->h'.get? b=some u) (lo:∀ b,b < h.objs.size->I b=H b)
  (new:∀ b o,h.objs.size <= b->I b=some o->d9 P w I h' b o):ej P w I h':=fun b u e=>by
 rcases MN b h.objs.size with aa | aa
 .rw [lo b aa] at e;have up:∀ {c:Addr} {v:dU},H c=some v->I c=some v:=fun {c v} q=>by
   rcases MN c h.objs.size with ay | ay
   .rw [lo c ay];exact q
   .rw [x.fresh ay] at q;cases q
  exact (x b u e).og (fun c v _ q=>k c v q) (fun c q=>up q) fun c xs q=>up q
 .exact new b u aa e
theorem e2.wu {aR:List Addr} {ex:List Addr} {w:World} {h h':Heap} (x:ej P w H h) (k:∀ b u,h.get? b=some u->h'.get? b=some u) (lo:∀ b,b < h.objs.size->I b=H b):e2 aR ex H I h h' where
 keep:=fun b u q _ _ _=>k b u q
 slot:=fun b u q _ _ _=>⟨u.slots,k b u q⟩
 free:=fun b u q n _=>by rw [lo b (ek q)];exact n
 there:=fun b u q _=>⟨u,k b u q⟩
 lj:=fun b xs q=>by
  rw [lo b (Jg fun z=>by rw [x.fresh z] at q;cases q)];exact q
 jS:=fun b u xs q=>by
  rw [lo b (Jg fun z=>by rw [x.fresh z] at q;cases q)];exact q
 kB:=fun b ps q=>⟨#[],by rw [lo b (Jg fun z=>by rw [x.fresh z] at q;cases q),q];simp⟩
theorem Inv.wu (J:Inv X ae σ H s) (k:∀ b u,s.heap.get? b=some u->h'.get? b=some u) (lo:∀ b,b < s.heap.objs.size->I b=H b)
  (new:∀ b o,s.heap.objs.size <= b->I b=some o->d9 X.prog X.w I h' b o):Inv X ae σ I { s with heap:=h',toks:=t' }:=J.un (e2.wu J.bh k lo) (J.bh.wu k lo new)
theorem OI:∀ as:List Addr,b1 (as.map V.ref) (as.map fi)
 | []=>.nil
 | _ :: as=>.cons rfl (OI as)
structure Iq (H I:au) (l:Addr) (as:List Addr) (kvs:List (Key × V)):Prop where
 same:∀ b o,H b=some o->I b=some o
 fresh:H l=none
 aqk:∀ a ∈ as,H a=none
 at_:I l=some (.lst (as.map V.ref))
 len:as.length=kvs.length
 al:∀ (j:Nat) (a:Addr) (q:Key × V),as[j]? = some a->kvs[j]? = some q->I a=some (.tup [c9 q.1,q.2])
 only:∀ b o,I b=some o->H b=some o\/o=.lst (as.map V.ref)\/∃ q ∈ kvs,o=.tup [c9 q.1,q.2]
section
variable {X:a8}
noncomputable def Ik:V->List V->au->cN->Prop:=fun x vs H Q=>∃ d kvs,x=.ref d/\vs=[]/\H d=some (.a5 kvs)/\∀ p,H p=none->Q (.ref p) (upd H p (.ext (k4 p d)))
theorem sZ:uI X "dict.items" Ik:=by
 intro ae s σ H x xs v us Q J a_ cL h;obtain ⟨d,kvs,rfl,rfl,e,q⟩:=h;cases (show v=fi d from a_);cases cL;obtain ⟨z,hd,vs,rel,cF⟩:=pq J.bh e;refine call_meetsIn sx cF.typeIs PySem.F.entry_dict_items (PySem.F.args_dict_items_1 _) (meets_dict_items (gJ X.prog X.w) d hd) ⟨⟨_,cF⟩,?_⟩;exact ⟨.ref _,_,J.laid (o:=.ext (k4 _ d)) (t':=s.toks) (fun b u e=>eP _ e) (bR _) (k4.ok ⟨_,hp _ rfl,rfl,rfl⟩),rfl,q _ (J.bh.fresh (bR _))⟩
theorem u3 (ay:X.calm=true):ki X (.type "list") (fun xs H Q=>∃ p d kvs,xs=[.ref p]/\H p=some (.ext (k4 p d))/\H d=some (.a5 kvs)/\∀ l as I,Iq H I l as kvs->Q (.ref l) I):=by
 intro ae s σ H xs us Q J r h;obtain ⟨p,d,kvs,rfl,ep,hX,q⟩:=h;obtain ⟨u,rfl,eG⟩:=kp r;cases eG;obtain ⟨z,hd,vs,rel,cF⟩:=pq J.bh hX;have aJ:k4 p d s.heap:=(show d9 X.prog X.w H s.heap p (.ext (k4 p d)) from J.bh _ _ ep).1;obtain ⟨B',uU⟩:=cF.dictAt;have hlen:=rel.length;refine PySem.W.kdx_call (knd:=gJ X.prog X.w) (kvs:=vs) (ep:=B') (J.ok.hd ay) aJ uU (by omega) fun h' tk acc c as aC d2 rA Ao x6=>?_
 have ff:∀ {i j:Nat} {a:Addr},as[i]? = some a->as[j]? = some a->i=j:=fun {i j a} aw aG=>by
  have af:=(cb.mp aw);have ak:=(cb.mp aG);have VN:=ad'.mp Ao.rise;rcases ahs i j with c | c | c
  .have:=VN i j af.1 ak.1 c;rw [af.2,ak.2] at this;exact absurd this (l_ _)
  .exact c
  .have:=VN j i ak.1 af.1 c;rw [af.2,ak.2] at this;exact absurd this (l_ _)
 let F:au:=fun b=>if b < s.heap.objs.size then H b else if b=s.heap.objs.size then some (.lst (as.map V.ref)) else match as.findIdx? (· = b) with
  | some j=>(kvs[j]?).map fun q:Key × V=>dU.tup [c9 q.1,q.2]
  | none=>none
 have ES:∀ b,b < s.heap.objs.size->F b=H b:=fun b aa=>if_pos aa
 have PX:F s.heap.objs.size=some (.lst (as.map V.ref)):=(if_neg (l_ _)).trans (if_pos rfl);have Fa:∀ (j:Nat) (a:Addr),as[j]? = some a->F a=(kvs[j]?).map fun q:Key × V=>dU.tup [c9 q.1,q.2]:=fun j a e=>by
  have aZ:=Ao.above a (cQ e);have af:as.findIdx? (· = a)=some j:=by
   rw [WX];obtain ⟨aL,bM⟩:=cb.mp e;refine ⟨aL,by simp [bM],fun i ah=>?_⟩;have:=fun z:as[i]=a=>fX ah (ff (cb.mpr ⟨by omega,z⟩) e)
   simpa using this
  show (if a < s.heap.objs.size then H a else if a=s.heap.objs.size then some (.lst (as.map V.ref)) else match as.findIdx? (· = a) with
   | some j=>(kvs[j]?).map fun q:Key × V=>dU.tup [c9 q.1,q.2]
   | none=>none)=_
  rw [if_neg (Nat.not_lt.mpr (ni aZ)),if_neg (BR aZ),af]
 have NN:∀ b o,s.heap.objs.size <= b->F b=some o->(b=s.heap.objs.size/\o=.lst (as.map V.ref))\/∃ (j:Nat) (q:Key × V),as[j]? = some b/\kvs[j]? = some q/\o=.tup [c9 q.1,q.2]:=fun b o aa e=>by
  by_cases FN:b=s.heap.objs.size
  .rw [FN,PX] at e;exact .inl ⟨FN,(dX e).symm⟩
  .have bM:(match as.findIdx? (· = b) with
    | some j=>(kvs[j]?).map fun q:Key × V=>dU.tup [c9 q.1,q.2]
    | none=>none)=some o:=by
    have:F b=_:=(if_neg (Nat.not_lt.mpr aa)).trans (if_neg FN);rw [<- this];exact e
   cases hf:as.findIdx? (· = b) with
   | none=>rw [hf] at bM;cases bM
   | some j=>
    rw [hf] at bM;obtain ⟨q,aw,aG⟩:=zS.mp bM;obtain ⟨aL,fF,_⟩:=WX.mp hf;exact .inr ⟨j,q,cb.mpr ⟨aL,by simpa using fF⟩,aw,aG.symm⟩
 have aK:as.length=kvs.length:=by omega
 refine ⟨.ref _,F,J.wu (t':=tk) aC ES fun b o aa e=>?_,rfl,q _ as F ⟨fun b o e=>?_,J.bh.fresh (bR _),fun a aZ=>J.bh.fresh (ni (Ao.above a aZ)),PX,aK,fun j a dV aw aG=>by rw [Fa j a aw,aG];rfl,fun b o e=>?_⟩⟩
 .rcases NN b o aa e with ⟨rfl,rfl⟩ | ⟨j,dV,aw,aG,rfl⟩
  .refine ⟨by rw [aO];omega,acc.toList,c,?_,d2⟩;rw [x6];exact OI as
  .obtain ⟨key,k,x,bS,er,gh⟩:=Ao.pairs j b aw;obtain ⟨vX,dZ,hE,j7⟩:=Ha rel bS;rw [aG] at dZ;cases dZ;refine ⟨show 2 <= sizeLine by decide,[key,x],.cons ?_ (.cons j7 .nil),?_⟩
   .rw [hE];exact BT er
   .exact ⟨_,gh,rfl,0,rfl⟩
 .rw [ES b (Jg fun z=>by rw [J.bh.fresh z] at e;cases e)];exact e
 .rcases MN b s.heap.objs.size with aa | aa
  .rw [ES b aa] at e;exact .inl e
  .rcases NN b o aa e with ⟨rfl,rfl⟩ | ⟨j,dV,aw,aG,rfl⟩
   .exact .inr (.inl rfl)
   .exact .inr (.inr ⟨dV,cQ aG,rfl⟩)
end
section
open AutoSeq1 (wpAny_loadPart')
open MeetsSeq MeetsSeq2 MeetsSeq3 SeqRoads2
variable {P:Program} {w:World} {l b:Addr} {xs ys:Array Value} {n m:Nat} {cF aot:Option Addr} {cf bg:Array (Option Value)}
end
section
variable {X:a8} {ae:List (Addr × Obj)} {σ:St} {H:au} {s:Shared}
structure apd (H:au) (p:Addr) (ps:List Addr) (bW:List (List (Key × V))):Prop where
 at_:H p=some (.lst (ps.map V.ref))
 len:ps.length=bW.length
 al:∀ (j:Nat) (a:Addr) (kvs:List (Key × V)),ps[j]? = some a->bW[j]? = some kvs->H a=some (.a5 kvs)
end
section
variable {X:a8}
end
section
variable {X:a8} {ae:List (Addr × Obj)} {σ:St} {H:au} {s:Shared} {d:Addr} {o:Obj} {kvs:List (Key × V)}
theorem ON (J:Inv X ae σ H s) (e:H d=some (.a5 kvs)) (g:s.heap.get? d=some o):Inv X ae σ (upd H d (.dx o (.a5 kvs))) s:=
 H8 J (by rw [e];exact lr) ⟨o,g⟩ ⟨g,J.bh d _ e⟩
theorem Un (J:Inv X ae σ H s) (e:H d=some (.dx o (.a5 kvs))) (hh:∀ o u,X.rU d ≠ some (.dx o u)):Inv X ae σ (upd H d (.a5 kvs)) s:=by
 have ne:∀ {b:Addr} {u:Option dU},H b=u->(∀ ei,u ≠ some (.dx ei (.a5 kvs)))->b ≠ d:=fun {b u} q h z=>h o (by rw [<- q,z];exact e)
 refine ⟨J.ok,J.os,J.bare,⟨J.base.keep,J.base.slot,fun b ei q n ag=>?_,J.base.there,fun b xs q=>?_,fun b ei u q=>?_,fun b ps q=>?_⟩,J.loc,J.cell,?_,fun x c q=>?_,fun p aq=>?_,fun b u q=>?_,J.len⟩
 .have h:=J.base.free b ei q n ag;rw [aA (ne h (fun _ z=>by cases z))];exact h
 .have h:=J.base.lj b xs q;rw [aA (ne h (fun _ z=>by cases z))];exact h
 .have h:=J.base.jS b ei u q;rw [aA (fun z=>hh ei u (by rw [<- z];exact q))];exact h
 .obtain ⟨m,h⟩:=J.base.kB b ps q;exact ⟨m,by rw [aA (ne h (fun _ z=>by cases z))];exact h⟩
 .rw [aA (ne J.free (fun _ z=>by cases z))];exact J.free
 .rw [aA (ne (J.jm x c q) (fun _ z=>by cases z))];exact J.jm x c q
 .obtain ⟨af,ak,bc⟩:=J.pin p aq;exact ⟨af,by rw [aA (ne ak (fun _ z=>by cases z))];exact ak,bc⟩
 .by_cases aa:b=d
  .subst aa;rw [db] at q;cases q;exact (J.bh b _ e).2
  .rw [aA aa] at q;refine (J.bh b u q).og (fun _ _ _ r=>r) (fun c r=>?_) (fun c xs r=>?_)
   .rw [aA (ne r (fun _ z=>by cases z))];exact r
   .rw [aA (ne r (fun _ z=>by cases z))];exact r
end
noncomputable def F6 (d:Addr) (o:Obj) (kvs:List (Key × V)):jC:=
 ⟨fun i H=>H d=some (.dx o (.a5 kvs))/\i < kvs.length,fun i H x I=>I=H/\∃ k v,kvs[i]? = some (k,v)/\x=c9 k,fun i H=>H d=some (.dx o (.a5 kvs))/\kvs.length <= i⟩
theorem PP {w:World} {K:ba} {d it:Addr} (ex:o.ExactDict) (aS:o.data=.dict a0 ep)
  (aK:a0.size=kvs.length) (bW:∀ (i:Nat) (e:DictEntry),a0[i]? = some e->∃ k v,kvs[i]? = some (k,v)/\bK (c9 k) e.key):pC P w K dm (F6 d o kvs) [it] it (fun i h=>h.IsKeyIter it d i a0.size ep) where
 mem:=by simp
 obj:=fun i h st b aa=>by
  have e:b=it:=by simpa using aa
  subst e;obtain ⟨o,e,c,d⟩:=st;exact ⟨o,e,fun v z=>by rw [d] at z;cases z⟩
 keep:=fun i h h' st k=>st.at fun o e=>k it (by simp) o e
 item:=by
  intro X cD hw fB ay i ae s σ H E J hf st bj;subst cD hw fB;obtain ⟨aD,ag⟩:=bj;have r:tc s.heap d o a0 ep:=⟨(J.bh d _ aD).1,ex,aS⟩;obtain ⟨f0,f1,f2,eM,f4,e7⟩:=hf it (by simp);obtain ⟨q,tq⟩:∃ q,a0[i]? = some q:=⟨_,Array.getElem?_eq_getElem (show i < a0.size by omega)⟩;obtain ⟨k,v,o4,IF⟩:=bW i q tq;refine amz st r tq fun h' kR oV=>?_
  have aU:Inv X ae σ H { s with heap:=h' }:=J.turned (t':=s.toks) (fun b o aa e=>(oV.2 b aa).trans e) f0 f1 eM f4 e7;obtain ⟨f_,e,c,cF⟩:=id kR;exact ⟨_,rfl,yJ (s:={ s with heap:=h' }) e c cF (by decide) ⟨c9 k,H,aU,IF,⟨rfl,k,v,o4,rfl⟩,kR,fun b aa=>(hf b aa).1⟩⟩
 done:=by
  intro X cD hw fB ay i ae s σ H E J hf st bj;subst cD hw fB;obtain ⟨aD,ag⟩:=bj;have r:tc s.heap d o a0 ep:=⟨(J.bh d _ aD).1,ex,aS⟩;obtain ⟨f0,f1,f2,eM,f4,e7⟩:=hf it (by simp);exact aeO (J.ok.hd ay) st r (by omega) fun h' bz=>⟨rfl,J.turned (t':=s.toks) (fun b o aa e=>bz b o aa e) f0 f1 eM f4 e7⟩
 self:=fun _ _ _ _ _ st h=>wpAny_pyIter_keyiter st h
theorem N0 {w:World} {k:Key} (h:(gJ P w).is k v=true):bK (c9 k) v:=by
 rcases n_ (k:=k) (v:=v) h with ⟨i,t,rfl,rfl⟩ | ⟨x,t,rfl,rfl⟩
 .exact ⟨t,rfl⟩
 .exact ⟨t,rfl⟩
theorem Ny {w:World}:∀ {a0:List DictEntry} {vs:List (Key × Value)} {kvs:List (Key × V)},Pairs (gJ P w) a0 vs->eE kvs vs->a0.length=kvs.length/\∀ (i:Nat) (e:DictEntry),a0[i]? = some e->∃ k v,kvs[i]? = some (k,v)/\bK (c9 k) e.key
 | _,_,_,.nil,r=>by
  unfold eE at r;cases r;exact ⟨rfl,fun i e h=>by simp at h⟩
 | _,_,_,.cons aC _ t,r=>by
  unfold eE at r;cases r with
  | @cons p q ps qs h dM=>
   obtain ⟨l,al⟩:=Ny t (kvs:=ps) dM;refine ⟨by rw [hT,hT,l],fun i e he=>?_⟩;cases i with
   | zero=>
    cases he;refine ⟨p.1,p.2,rfl,N0 (P:=P) (w:=w) ?_⟩;rw [h.1];exact aC
   | succ i=>exact al i e he
section
variable {X:a8} {dm:Expr}
noncomputable def Kg (dq:TE):TI:=fun σ H R=>dq σ H fun x H1=>∃ d kvs,x=.ref d/\H1 d=some (.a5 kvs)/\∀ o,R (F6 d o kvs) (upd H1 d (.dx o (.a5 kvs)))
theorem Ee (aK:bw X l dq):o7 X dm l (Kg dq):=by
 intro ae s σ H R J h;refine bF (aK ae s σ H _ J h) fun v s1 b4=>d1 b4 fun x H1 aU bC bO=>?_
 obtain ⟨d,kvs,e,hX,q⟩:=bO;subst e;cases bC;obtain ⟨_,hd,vs,rel,o,a0,ep,g,ex,dat,_,pr,_⟩:=pq aU.bh hX;obtain ⟨aK,bW⟩:=Ny pr rel;have bN:=ON aU hX g;refine akH hd ⟨g,ex,dat⟩ ?_;refine ⟨s1.heap.objs.size,[s1.heap.objs.size],_,_,_,rfl,bN.kept (t':=s1.toks) fun b o e=>eP _ e,PP ex dat (by rw [<- aK];exact A3.symm) (fun i e h=>bW i e (by rw [<- Hg] at h;exact h)),⟨_,hp _ rfl,rfl,rfl⟩,fun b aa=>?_,q o⟩;have e:b=s1.heap.objs.size:=by simpa using aa
 subst e;exact bN.oq (bR _) (bN.bh.fresh (bR _))
noncomputable def Ff (t:TE):TE:=fun σ H Q=>∃ d kvs,H d=some (.a5 kvs)/\t σ H fun v I=>∃ o,I d=some (.dx o (.a5 kvs))/\Q v (upd I d (.a5 kvs))
theorem akg {e:Expr} {t:TE} (h:bw X e t):bw X e (Ff t):=by
 intro ae s σ H Q J q;obtain ⟨d,kvs,hX,q⟩:=q;refine bF (h ae s σ H _ J q) fun v s1 ⟨x,H1,aU,bC,o,aw,bO⟩=>⟨x,_,Un aU aw (fun ei u z=>?_),bC,bO⟩
 have:=J.base.jS d ei u z;rw [hX] at this;cases this
theorem ahv:ki X (.type "dict") (fun xs H Q=>∃ d kvs,xs=[.ref d]/\H d=some (.a5 kvs)/\∀ p,H p=none->Q (.ref p) (upd H p (.a5 kvs))):=by
 intro ae s σ H xs us Q J r h;obtain ⟨d,kvs,rfl,hX,q⟩:=h;obtain ⟨u,rfl,eG⟩:=kp r;cases eG;exact agP J (.inl hX) fun p aj aq gz=>⟨.ref p,_,gz,rfl,q p aq⟩
end
structure KK (X:a8) (ae:List (Addr × Obj)) (H:au) (S:Addr):Prop where
 nn:H S=none
 nl:S ≠ X.env.locals
 ge:X.fQ.heap.objs.size <= S
 EJ:∀ x c,X.env.cells.lookup x=some c->c ≠ S
 np:∀ p ∈ X.da ++ ae,p.1 ≠ S
 hh:S ∉ X.aR
theorem KK.of (J:Inv X ae σ H s) (h:s.heap.objs.size <= S):KK X ae H S:=
 ⟨J.bh.fresh h,fun z=>absurd (h6 J.lt h) (by rw [z];exact l_ _),c7 J.nZ h,fun x c e z=>by
  obtain ⟨v,o,aS,_⟩:=J.cell x c e;exact absurd (h6 (ek aS) h) (by rw [z];exact l_ _),fun p aq z=>by
  have aS:=(J.pin p aq).1;exact absurd (h6 (ek aS) h) (by rw [z];exact l_ _),J.FY h⟩
theorem KK.turn (o:KK X ae H S) (J:Inv X ae σ H s) (k:∀ b o,b ≠ S->s.heap.get? b=some o->h'.get? b=some o):Inv X ae σ H { s with heap:=h',toks:=t' }:=
 J.turned k o.nn o.nl (.inr o.ge) o.EJ o.np
section
variable {X:a8} {A:Around} {ae:List (Addr × Obj)} {σ:St} {H:au} {l q J S:Addr} {n:Nat} {P:Nat->Value->Prop} {R:Result->Shared->Prop}
theorem NO (b3:Inv X ae σ H s) (n7:KK X ae H S) (nQ:KK X ae H J) (akB:s.heap.get? S=some Ud) (ajF:s.heap.get? J=some OM) (aiy:∀ v,Ud.data ≠ .cell v) (ZX:∀ v,OM.data ≠ .cell v):Inv X ((S,Ud) :: (J,OM) :: ae) σ H s:=
 b3.tu fun p aq=>by
  rcases eZ.mp aq with rfl | aq
  .exact ⟨akB,n7.nn,n7.nl,n7.hh,aiy⟩
  rcases eZ.mp aq with rfl | aq
  .exact ⟨ajF,nQ.nn,nQ.nl,nQ.hh,ZX⟩
  exact b3.pin p (kI _ aq)
theorem V4 (b3:Inv X (K5 :: HV :: ae) σ H s):Inv X ae σ H s/\s.heap.get? K5.1=some K5.2/\s.heap.get? HV.1=some HV.2:=
 ⟨b3.tu fun p aq=>b3.pin p (kI _ (.tail _ (.tail _ aq))),(b3.pin K5 (kI _ (.head _))).1,(b3.pin HV (kI _ (.tail _ (.head _)))).1⟩
theorem aeb (ee:Nat->Int) (gg:A.handled=none) (aK:∀ s,Inv X ae σ H s->∃ vs:List Value,vs.length=n/\(∀ i v,vs[i]? = some v->P i v)/\s.heap.IsList l vs.toArray) (xQ:l ≠ J) (s6:S ≠ J) (n7:KK X ae H S) (nQ:KK X ae H J)
  (turn:∀ (i:Nat) (v:Value),i < n->P i v->∀ (ae:List (Addr × Obj)) (s:Shared),Inv X ae σ H s ->
   wpAny (model X.prog X.w) A.in1 (call (.ref q) [v]) (gL X ae σ fun x I=>x=.int (ee i)/\I=H) (fun _ _=>False) s)
  (hV:∀ i v aj,i < n->P i v->(∀ j,j < n->ee i <= ee j/\(j < i->ee i < ee j))->Inv X ae σ H aj->R (.ok (.ret v)) aj) :
  ∀ (r j i:Nat) (s:Shared) (uK:Value) (bT:Tok) (c:Nat),n - (j + 1)=r->j + 1 <= n->Inv X ae σ H s ->
   s.heap.get? S=some (seqObj "list" #[uK,.int (ee i) bT] c)->s.heap.IsListIter J l (j + 1)->P i uK->i <= j->(∀ iU,iU <= j->ee i <= ee iU/\(iU < i->ee i < ee iU)) ->
   codeAny (model X.prog X.w) A (.builtin "min.loop" ⟨[.ref J,.ref q,.ref S],[]⟩) R s:=by
 have wB:(toString "min" ++ toString ".loop" : String) = "min.loop" := by decide
 intro r
 induction r with
 | zero=>
  intro j i s uK bT c ao aL b3 d2 hit Ic oQ ua;obtain ⟨vs,AN,AG,zc⟩:=aK s b3;have W:=A2 (prog:=X.prog) (w:=X.w) (A:=A.in1) gg J l xQ vs.toArray;have hsz:vs.toArray.size=vs.length:=d8 ..;have ic:j + 1=vs.length:=by omega
  refine codeAny_builtin SO ?_;rw [M3 uJ _];show wpAny _ A.in1 (seqItems? (.ref S) >>= _) _ _ _;refine wpAny_bind (wpAny_seqItems d2 rfl ?_);show wpAny _ A.in1 (tryCatch (pyNext (.ref J)) _ >>= _) _ _ _;refine wpAny_bind (wpAny_tryCatch (W.done _ _ _ ⟨by rw [hsz,<- ic];exact hit,zc⟩ fun h' xm gP=>?_));have k7:Inv X ae σ H { s with heap:=h',toks:=xm }:=nQ.turn b3 fun b o n e=>gP b o (by simpa using n) e
  have wH:=gP S _ (by simpa using s6) d2;show wpAny _ A.in1 (updateSeq S (fun _=>#[]) >>= _) _ _ _;refine wpAny_bind ?_;refine wpAny_updateSeq wH rfl (wpAny_bind (wpAny_letGo (wpAny_pure ?_)));exact hV i uK _ (by omega) Ic (fun iU hs=>ua iU (by omega)) (n7.turn k7 fun b o n e=>(vA _ _ (cX n)).trans e)
 | succ r b7=>
  intro j i s uK bT c ao aL b3 d2 hit Ic oQ ua;obtain ⟨vs,AN,AG,zc⟩:=aK s b3;have W:=A2 (prog:=X.prog) (w:=X.w) (A:=A.in1) gg J l xQ vs.toArray;have hsz:vs.toArray.size=vs.length:=d8 ..;have dW:j + 1 < n:=by omega
  refine codeAny_builtin SO ?_;rw [M3 uJ _];show wpAny _ A.in1 (seqItems? (.ref S) >>= _) _ _ _;refine wpAny_bind (wpAny_seqItems d2 rfl ?_);show wpAny _ A.in1 (tryCatch (pyNext (.ref J)) _ >>= _) _ _ _;refine wpAny_bind (wpAny_tryCatch (W.item (j + 1) _ _ _ (by rw [hsz,AN];exact dW) ⟨hit,zc⟩ fun v h' xm cD pX gP=>?_));have aJ:P (j + 1) v:=AG _ _ (by simpa using cD);obtain ⟨BG,Kr,tw,uA⟩:=id pX.1;have k7:Inv X ae σ H { s with heap:=h',toks:=xm }:=nQ.turn b3 fun b o n e=>gP b o (by simpa using n) e
  have wH:=gP S _ (by simpa using s6) d2;have kS:=NO k7 n7 nQ wH Kr (fun _ z=>by cases z) (fun _ z=>by rw [uA] at z;cases z);show wpAny _ A.in1 (tryCatch (holding [v] (call (.ref q) [v])) _ >>= _) _ _ _;refine wpAny_bind (wpAny_tryCatch (wpAny_holding (wpAny_mono (turn (j + 1) v dW aJ _ _ kS) (fun x s2 he=>?_) fun _ _ xj=>xj.elim)));obtain ⟨fH,I,wm,a_,rfl,rfl⟩:=he;obtain ⟨gr,rfl⟩:=a_;obtain ⟨D3,u_,Bo⟩:=V4 wm;have ajk:s2.heap.IsListIter J l (j + 1 + 1):=⟨BG,Bo,tw,uA⟩;show wpAny _ A.in1 (tryCatch (holding [v,.int (ee (j + 1)) gr] (richCompare .Lt (.int (ee (j + 1)) gr) (.int (ee i) bT) >>= _)) _ >>= _) _ _ _;refine wpAny_bind (wpAny_tryCatch (wpAny_holding (wpAny_bind (CmpOf.ints_lt (prog:=X.prog) (w:=X.w) (A:=A.in1) (P:=fun i v=>∃ t,v=.int (ee i) t) ee (fun i v h=>h) (j + 1) i _ _ _ _ _ ⟨gr,rfl⟩ ⟨bT,rfl⟩ ?_))));refine wpAny_bind (wpAny_holding (wpAny_truthy_bool ?_));refine wpAny_bind (wpAny_letGo (wpAny_pure ?_));by_cases fF:ee (j + 1) < ee i
  .obtain ⟨ct,v9⟩:∃ ct,(s2.heap.update S (qJ fun _=>#[v,.int (ee (j + 1)) gr])).get? S=some (seqObj "list" #[v,.int (ee (j + 1)) gr] ct):=⟨_,get?_update_seq u_ fun _=>#[v,.int (ee (j + 1)) gr]⟩;simp only [fF,decide_true,if_true];refine wpAny_bind ?_;refine wpAny_updateSeq u_ rfl (wpAny_bind (wpAny_letGo ?_));rw [wB];have o2:=n7.turn (t':=s2.toks) D3 (h':=s2.heap.update S (qJ fun _=>#[v,.int (ee (j + 1)) gr])) fun b o n e=>(vA _ _ (cX n)).trans e
   refine wpAny_pure ⟨plainId_quiet uJ _,b7 (j + 1) (j + 1) _ v gr ct (by omega) dW o2 v9 ⟨BG,(vA _ _ s6).trans Bo,tw,uA⟩ aJ (bR _) fun iU hs=>?_⟩;by_cases e:iU=j + 1
   .subst e;exact ⟨by omega,fun _=>by omega⟩
   .have AQ:=ua iU (by omega);have j2:=AQ.1;exact ⟨by omega,fun _=>by omega⟩
  .simp only [fF,decide_false,LV,if_false];refine wpAny_bind (wpAny_letGo ?_);rw [wB];refine wpAny_pure ⟨plainId_quiet uJ _,b7 (j + 1) i _ uK bT c (by omega) dW D3 u_ ajk Ic (by omega) fun iU hs=>?_⟩;by_cases e:iU=j + 1
   .subst e;exact ⟨by omega,fun _=>by omega⟩
   .exact ua iU (by omega)
theorem ZZ (ee:Nat->Int) (gg:A.handled=none) (b3:Inv X ae σ H s) (aK:∀ ae s,Inv X ae σ H s->∃ vs:List Value,vs.length=n/\(∀ i v,vs[i]? = some v->P i v)/\s.heap.IsList l vs.toArray) (cx:0 < n)
  (turn:∀ (i:Nat) (v:Value),i < n->P i v->∀ (ae:List (Addr × Obj)) (s:Shared),Inv X ae σ H s ->
   wpAny (model X.prog X.w) A.in1 (call (.ref q) [v]) (gL X ae σ fun x I=>x=.int (ee i)/\I=H) (fun _ _=>False) s)
  (a9:∀ i v aj,i < n->P i v->(∀ j,j < n->ee i <= ee j/\(j < i->ee i < ee j))->Inv X ae σ H aj->Q v aj) :
  wpAny (model X.prog X.w) A (call (.builtin "min") [.ref l] [(ab "key",.ref q)]) Q E s:=by
 have wB:(toString "min" ++ toString ".loop" : String) = "min.loop" := by decide
 obtain ⟨ZO,_,_,l2⟩:=aK _ s b3;obtain ⟨ol,akF,_⟩:=id l2;have tV:l < s.heap.objs.size:=ek akF;refine kmk_tree PySem.F.kind_min PySem.F.plain_min PySem.F.entry_min (kmk_min_key _ _) ?_;show wpAny _ A.in1 (aky "min" ["key","default"] 0 ⟨[],[(ab "key",.ref q)]⟩ >>= _) _ _ s;refine wpAny_bind (wpAny_of_eq (show aky "min" ["key","default"] 0 ⟨[],[(ab "key",.ref q)]⟩=pure [some (.ref q),none] from rfl) ?_);refine wpAny_bind (wpAny_pure ?_);refine wpAny_bind (wpAny_pyIter_list l2 ?_);refine wpAny_bind (wpAny_newList ?_ (e5 _));rw [wB];have d2:(s.heap.push { cls:=.type "list_iterator",data:=.fields #[.ref l,.int 0 0] }).objs.size=s.heap.objs.size + 1:=size_push' ..;have xQ:l ≠ s.heap.objs.size:=fX tV;have s6:(s.heap.push { cls:=.type "list_iterator",data:=.fields #[.ref l,.int 0 0] }).objs.size ≠ s.heap.objs.size:=by rw [d2];exact BR (LW _)
 refine wpAny_pure ⟨plainId_quiet uJ _,?_⟩;have nQ:KK X ae H s.heap.objs.size:=.of b3 (bR _);have n7:KK X ae H (s.heap.push { cls:=.type "list_iterator",data:=.fields #[.ref l,.int 0 0] }).objs.size:=.of b3 (by rw [d2];exact BN _);have alm:((s.heap.push { cls:=.type "list_iterator",data:=.fields #[.ref l,.int 0 0] }).push (seqObj "list" #[] 0)).get? s.heap.objs.size=some { cls:=.type "list_iterator",data:=.fields #[.ref l,.int 0 0] }:=
  eP _ (hp _ rfl)
 have QE:((s.heap.push { cls:=.type "list_iterator",data:=.fields #[.ref l,.int 0 0] }).push (seqObj "list" #[] 0)).get? (s.heap.push { cls:=.type "list_iterator",data:=.fields #[.ref l,.int 0 0] }).objs.size=some (seqObj "list" #[] 0):=hp _ rfl;have R0:Inv X ae σ H { s with heap:=(s.heap.push { cls:=.type "list_iterator",data:=.fields #[.ref l,.int 0 0] }).push (seqObj "list" #[] 0) }:=b3.kept (t':=s.toks) fun b o e=>eP _ (eP _ e)
 obtain ⟨vs,AN,AG,zc⟩:=aK _ _ R0;have W:=A2 (prog:=X.prog) (w:=X.w) (A:=A.in1) gg s.heap.objs.size l xQ vs.toArray;have hsz:vs.toArray.size=vs.length:=d8 ..;refine codeAny_builtin SO ?_;rw [M3 uJ _];show wpAny _ A.in1 (seqItems? (.ref _) >>= _) _ _ _;refine wpAny_bind (wpAny_seqItems QE rfl ?_);show wpAny _ A.in1 (tryCatch (pyNext (.ref s.heap.objs.size)) _ >>= _) _ _ _;refine wpAny_bind (wpAny_tryCatch (W.item 0 _ _ _ (by rw [hsz,AN];exact cx) ⟨⟨_,alm,rfl,rfl⟩,zc⟩ fun v h' xm cD pX gP=>?_));have aJ:P 0 v:=AG _ _ (by simpa using cD);obtain ⟨BG,Kr,tw,uA⟩:=id pX.1;have k7:=nQ.turn (h':=h') (t':=xm) R0 fun b o n e=>gP b o (by simpa using n) e
 have wH:=gP _ _ (by simpa using s6) QE;have kS:=NO k7 n7 nQ wH Kr (fun _ z=>by cases z) (fun _ z=>by rw [uA] at z;cases z);show wpAny _ A.in1 (tryCatch (holding [v] (call (.ref q) [v])) _ >>= _) _ _ _;refine wpAny_bind (wpAny_tryCatch (wpAny_holding (wpAny_mono (turn 0 v cx aJ _ _ kS) (fun x s2 he=>?_) fun _ _ xj=>xj.elim)));obtain ⟨fH,I,wm,a_,rfl,rfl⟩:=he;obtain ⟨gr,rfl⟩:=a_;obtain ⟨D3,u_,Bo⟩:=V4 wm;obtain ⟨ct,v9⟩:∃ ct,(s2.heap.update (s.heap.push { cls:=.type "list_iterator",data:=.fields #[.ref l,.int 0 0] }).objs.size (qJ fun _=>#[v,.int (ee 0) gr])).get? (s.heap.push { cls:=.type "list_iterator",data:=.fields #[.ref l,.int 0 0] }).objs.size=some (seqObj "list" #[v,.int (ee 0) gr] ct):=⟨_,get?_update_seq u_ fun _=>#[v,.int (ee 0) gr]⟩;show wpAny _ A.in1 (updateSeq (s.heap.push { cls:=.type "list_iterator",data:=.fields #[.ref l,.int 0 0] }).objs.size (fun _=>#[v,.int (ee 0) gr]) >>= _) _ _ _;refine wpAny_bind ?_;refine wpAny_updateSeq u_ rfl ?_;rw [wB];have o2:=n7.turn (t':=s2.toks) D3 (h':=s2.heap.update (s.heap.push { cls:=.type "list_iterator",data:=.fields #[.ref l,.int 0 0] }).objs.size (qJ fun _=>#[v,.int (ee 0) gr])) fun b o n e=>(vA _ _ (cX n)).trans e
 refine wpAny_pure ⟨plainId_quiet uJ _,aeb ee gg (fun s b3=>aK _ s b3) xQ s6 n7 nQ turn a9 _ 0 0 _ v gr ct rfl cx o2 v9 ⟨BG,(vA _ _ s6).trans Bo,tw,uA⟩ aJ (bR _) fun iU hs=>?_⟩;have e:iU=0:=by omega
 subst e;exact ⟨by omega,fun h=>absurd h (l_ _)⟩
end
structure zw (p y z:Str) (sc:Scope):Prop where
 kind:sc.kind=.function
 co:sc.isCoroutine=false
 gen:sc.isGenerator=false
 ne:y ≠ z
 par:sc.names.lookup p=some .local
 PW:sc.names.lookup y=some .free
 LD:sc.names.lookup z=some .free
 uP:∀ z ∈ sc.names,z.2 ≠ .cell
 two:∀ b ∈ sc.names,b.2=.free->b.1=y\/b.1=z
noncomputable def sG (X:a8) (A:Around) (N:List Str) (q:Str) (scope:Scope) (f c':Addr) (cl:List (Str × Addr)) (s:Shared) (H:au):a8 where
 prog:=X.prog
 w:=X.w
 K:=X.K
 mg:=X.mg
 base:=X.base
 A:=A.deeper (Jc q scope s.heap.objs.size f (.ref c') cl)
 N:=N
 fQ:=s
 rU:=H
 env:=Jc q scope s.heap.objs.size f (.ref c') cl
 outer:=X.stack
 stack:=Jc q scope s.heap.objs.size f (.ref c') cl :: X.stack
 ex:=[]
 fn:=fun _=>false
 calm:=true
 da:=[]
 dI:=fun _ _=>False
section
variable {X:a8} {A:Around} {ae:List (Addr × Obj)} {σ:St} {H:au} {s:Shared} {k:Nat} {f c' bZ ct:Addr} {q p y z:Str} {params:Arguments} {body:Expr} {scope:Scope} {v1 v2:V} {t:TE}
theorem Ex {x:Str} (e:([(y,bZ),(z,ct)]:List (Str × Addr)).lookup x=some c):(x=y/\c=bZ)\/(x=z/\c=ct):=by
 rw [kQ] at e;cases aa:x == y with
 | true=>rw [aa] at e;cases e;exact .inl ⟨eq_of_beq aa,rfl⟩
 | false=>
  rw [aa] at e;simp only [kQ] at e;cases j2:x == z with
  | true=>rw [j2] at e;cases e;exact .inr ⟨eq_of_beq j2,rfl⟩
  | false=>rw [j2] at e;cases e
theorem aiq (S:zw p y z scope) (ao:eA k A) (jZ:A.frames=some X.stack) (J:Inv X ae σ H s) (ne:bZ ≠ ct) (b9:H bZ=none) (ck:H ct=none)
  (cA:∃ u,bK v1 u/\s.heap.IsCell bZ (some u)) (cW:∃ u,bK v2 u/\s.heap.IsCell ct (some u)) (jV:bK a u)
  (n':af.Ns s.heap.objs.size (fun x=>[(p,u)].reverse.lookup x)) (aC:∀ b o,s.heap.get? b=some o->af.get? b=some o) :
  Inv (sG X A [p,y,z] q scope f c' [(y,bZ),(z,ct)] s H) [] [some a,some v1,some v2] H { s with heap:=af,toks:=tk }:=by
 obtain ⟨akP,bC,eU,NW,Tp⟩:=cA;obtain ⟨Zx,c0,f_,PL,R7⟩:=cW;have RT:([(y,bZ),(z,ct)]:List (Str × Addr)).lookup y=some bZ:=by rw [kQ,beq_self_eq_true]
 have T1:([(y,bZ),(z,ct)]:List (Str × Addr)).lookup z=some ct:=by
  rw [kQ,show (z == y)=false from by simpa using cX S.ne];simp only [kQ,beq_self_eq_true]
 have sd:∀ b:Addr,b ∉ (sG X A [p,y,z] q scope f c' [(y,bZ),(z,ct)] s H).ex:=fun b z=>absurd (show b ∈ ([]:List Addr) from z) (by simp)
 refine ⟨⟨J.ok.mod,S.kind,rfl,rfl,bR _,fun x w c aw aG=>?_,fun x ag=>?_,fun x c hf e=>?_,fun _=>ao.hd,agR jZ,.inr ⟨rfl,rfl⟩,fun b z=>absurd z (sd b),J.bs,c7 J.ok.kk J.nZ,fun b _ _=>sd b,fun b z=>absurd z (sd b),J.stack,J.G'⟩,
  rfl,J.bare,e2.kept aC,⟨_,n',fun i x xa aw aG bS=>?_⟩,fun x c e=>?_,J.bh.fresh (bR _),fun x c e=>?_,fun z aW=>absurd (show z ∈ ([]:List (Addr × Obj)) from aW) (by simp),J.bh.kept aC,rfl⟩
 .rcases Ex aw with ⟨rfl,rfl⟩ | ⟨rfl,rfl⟩ <;> rcases Ex aG with ⟨rfl,h⟩ | ⟨rfl,h⟩
  .rfl
  .exact absurd h ne
  .exact absurd h.symm ne
  .rfl
 .have ag:scope.names.lookup x=some .cell\/scope.names.lookup x=some .free:=ag;rcases ag with ag | ag
  .exact absurd rfl (S.uP _ (uj ag))
  .rcases S.two _ (uj ag) rfl with h | h
   .have h:x=y:=h;exact ⟨bZ,by rw [h];exact RT⟩
   .have h:x=z:=h;exact ⟨ct,by rw [h];exact T1⟩
 .cases hf
 .match i,aw,aG with
  | 0,aw,aG=>
   cases aw;cases aG;exact ⟨u,jV,.inl ⟨S.par,by show pU p [(p,u)]=some u;rw [kQ,beq_self_eq_true]⟩⟩
  | 1,aw,aG=>
   cases aw;cases aG;exact ⟨akP,bC,.inr ⟨.inr S.PW,bZ,RT,⟨eU,aC _ _ NW,Tp⟩⟩⟩
  | 2,aw,aG=>
   cases aw;cases aG;exact ⟨Zx,c0,.inr ⟨.inr S.LD,ct,T1,⟨f_,aC _ _ PL,R7⟩⟩⟩
  | i + 3,aw,_=>simp [sG] at aw
 .rcases Ex e with ⟨_,rfl⟩ | ⟨_,rfl⟩
  .exact ⟨_,eU,aC _ _ NW,Tp⟩
  .exact ⟨_,f_,aC _ _ PL,R7⟩
 .rcases Ex e with ⟨_,rfl⟩ | ⟨_,rfl⟩
  .exact b9
  .exact ck
theorem aiC (S:zw p y z scope) (ao:eA k A) (jZ:A.frames=some X.stack) (J:Inv X ae σ H s) (ne:bZ ≠ ct) (b9:H bZ=none) (ck:H ct=none)
  (cA:∃ u,bK v1 u/\s.heap.IsCell bZ (some u)) (cW:∃ u,bK v2 u/\s.heap.IsCell ct (some u))
  (Gr:H f=some (.ext (l6 f q params body scope [(y,bZ),(z,ct)] c'))) (ks:H c'=some (.ext (mr c' q)))
  (aa:∀ pm kh,bindArgs (abJ "<lambda>" q params body scope [(y,bZ),(z,ct)] pm (.ref c') kh) ⟨[u],[]⟩=pure [(p,u)]) (jV:bK a u)
  (pz:bw (sG X A [p,y,z] q scope f c' [(y,bZ),(z,ct)] s H) body t) (h:t [some a,some v1,some v2] H Q) :
  wpAny (model X.prog X.w) A (call (.ref f) [u]) (gL X ae σ Q) E s:=by
 have inner:codeAny (model X.prog X.w) A (.call (.ref f) ⟨[u],[]⟩) (GI dt X.stack X.prog X.w H s Q Hu) s:=by
  obtain ⟨⟨pm,kh,aS⟩,_⟩:=J.bh _ _ Gr;refine PySem.W.kla_callFunE ao.depth aS rfl S.co S.gen rfl (J.bh _ _ ks).1 ?_;rw [aa];refine wpAny_pure (wpAny_newFunctionEnv S.uP (fun z aW=>by rw [fG.mp aW];exact S.par) (fun af n' vZ=>⟨J.nolimit.fresh _ vZ,?_⟩) S.kind);have aC:∀ b o,s.heap.get? b=some o->af.get? b=some o:=fun b o e=>vZ.extBut b o (fX (ek e)) (eP _ e)
  show codeAny _ _ (.expr body (Jc q scope s.heap.objs.size f (.ref c') [(y,bZ),(z,ct)])) _ _;have b3:=aiq (f:=f) (c':=c') (q:=q) (tk:=s.toks + [(p,u)].length) S ao jZ J ne b9 ck cA cW jV n' aC;refine PySem.W.kla_codeExpr (wpAny_mono (pz [] _ _ _ _ b3 h) (fun an3 aj aD=>?_) fun _ _ z=>jh z);obtain ⟨x,I,CW,a_,dV⟩:=aD;exact ⟨x,I,CW.os,CW.bare,CW.base,CW.bh,a_,dV⟩
 refine wpAny_call (codeAny_mono inner fun r aj aD=>?_);cases r with
 | error e=>exact aD.elim
 | ok et=>
  cases et with
  | ret u=>exact J.after aD
  | next=>exact jh aD
  | brk=>exact jh aD
  | cont=>exact jh aD
end
theorem aF.p {K:ba} (s:lO Pt H I) (t:Tab H Pt pos q) (h:aF K H a xs):aF K I a xs:=by
 rcases h with (h | ⟨o,h⟩) | h
 .exact .inl (.inl (s _ _ (t.ne h (fun _ z=>by cases z)) h))
 .exact .inl (.inr ⟨o,s _ _ (t.ne h (fun _ z=>by cases z)) h⟩)
 .exact .inr h
noncomputable def RB (K:ba) (Pt:Addr) (qF:Pos) (q:Str) (i1 i2:Nat) (t:TE) (a':f3):TE:=fun σ H Q=>a' σ H fun vs H1=>∃ l bW v1 v2,∃ g:Int->Int,vs=[.ref l]/\aF K H1 l (oJ V.int bW)/\bW ≠ [] /\
 σ[i1]? = some (some v1)/\σ[i2]? = some (some v2)/\Tab H1 Pt qF q/\∀ av,lO Pt H1 av->(aI H1->aI av)->Tab av Pt qF q ->
  (∀ n ∈ bW,t [some (.int n),some v1,some v2] av fun x I=>x=.int (g n)/\I=av)/\∀ (i:Nat) m,bW[i]? = some m->(∀ (j:Nat) n,bW[j]? = some n->g m <= g n/\(j < i->g m < g n))->Q (.int m) av
theorem ahK {k:Nat} {t:TE} {p bJ pos qF:Pos}
  (ay:X.calm=true) (bj:mj X "min") (hm:X.mg "min"=none) (aZ:jI X [a] a') (T:QW X c Pt) (ao:eA (k + 1) X.A) (S:zw pr y z scope) (af:X.env.cells.lookup y=some bZ) (ak:X.env.cells.lookup z=some ct) (L':defaultsOf params X.env=([],[])) (o8:closureFor scope X.env=pure [(y,bZ),(z,ct)])
  (b2:X.env.scope.names.lookup y=some .cell) (di:X.env.scope.names.lookup z=some .cell) (adN:X.N[i1]? = some y) (ak4:X.N[i2]? = some z)
  (aa:∀ c' pm kh u,bindArgs (abJ "<lambda>" (X.env.qual ++ "<lambda>") params body scope [(y,bZ),(z,ct)] pm (.ref c') kh) ⟨[u],[]⟩=pure [(pr,u)])
  (pz:∀ f c' s H,∃ t',bw (sG X X.A.in1 [pr,y,z] (X.env.qual ++ "<lambda>") scope f c' [(y,bZ),(z,ct)] s H) body t'/\t'=t)
  (he:∀ pos,backTo pos (starEach [a] X.env)=(false,eval a X.env) :: backTo pos (starEach [] X.env):=by intro _;rfl) (cG:∀ pos,(backTo pos (starEach [a] X.env)).any (·.1)=false:=by intro _;rfl) :
  bw X (.Call (.Name "min" p) [a] [⟨some "key",.Lambda params body scope qF,bJ⟩] pos) (RB X.K Pt qF (X.env.qual ++ "<lambda>") i1 i2 t a'):=by
 intro ae s σ H Q J h;refine wpAny_Call_Name_kw (wd J bj hm (show bootBuiltins "min"=some (.builtin "min") by ac_nf) ?_);refine callWith_kw (id := "min") (bF (aZ pos ae s σ H _ J h) fun us s1 cS=>?_) (he:=he pos) (hplain:=cG pos);obtain ⟨vs,H1,aU,bC,bO⟩:=cS;obtain ⟨l,bW,v1,v2,g,rfl,aD,cx,aw,aG,bT,q⟩:=bO;refine kws_cons (agi aU T bT o8 L' fun f c' av s2 bN bg bG nk Gr ks hh=>kws_nil ?_);obtain ⟨k1,ajJ⟩:=q av bg bG nk;have tq:=aD.p bg bT;have cell:∀ {ae:List (Addr × Obj)} {s:Shared} (b3:Inv X ae σ av s) {i:Nat} {x:Str} {v:V} {cl:Addr},X.N[i]? = some x->σ[i]? = some (some v)->X.env.scope.names.lookup x=some .cell->X.env.cells.lookup x=some cl->∃ u,bK v u/\s.heap.IsCell cl (some u):=by
  intro ae s b3 i x v cl bu ev ag r5;obtain ⟨m,a3,ag7⟩:=b3.loc;obtain ⟨u,eG,lo⟩:=ag7 i x v bu ev (.inr (.inl ag));have aC:X.env.kindOf x=some .cell:=ag;rcases lo with ⟨w,_⟩ | ⟨_,apY,dJ,eh⟩
  .rw [aC] at w;cases w
  .rw [r5] at dJ;cases dJ;exact ⟨u,eG,eh⟩
 have adt:bZ ≠ ct:=fun w=>S.ne (J.ok.inj _ _ _ af (by rw [w];exact ak))
 cases bC with
 | cons r tx=>
  cases tx;cases r;have xP:0 < bW.length:=SX.mpr cx;refine ZZ (n:=bW.length) (P:=fun i v=>∃ t,v=.int (bW.getD i 0) t) (fun i=>g (bW.getD i 0)) (aU.ok.hd ay) bN (fun ae s b3=>?_) xP (fun i v ah aJ ae s b3=>?_) fun i v aj ah aJ ua b3=>?_
  .obtain ⟨a4,cL,pl,aW⟩:=b3.list tq;have aK:=cL.length;rw [aO] at aK;refine ⟨a4,aK.symm,fun i v aJ=>?_,pl.isList⟩;have ah:i < bW.length:=by have:=(cb.mp aJ).1;omega
   obtain ⟨w,hw,hb⟩:=cL.get (show (bW.map V.int)[i]? = some (.int bW[i]) by rw [dO,bo ah];rfl);rw [aJ] at hw;cases hw;rw [j_,bo ah];exact hb
  .obtain ⟨t',AQ,rfl⟩:=pz f c' s av;have hm:bW.getD i 0 ∈ bW:=by rw [j_,bo ah];exact kT ah
   exact aiC (a:=.int (bW.getD i 0)) S ao.in1 aU.ok.frames b3 adt (b3.jm _ _ af) (b3.jm _ _ ak) (cell b3 adN aw b2 af) (cell b3 ak4 aG di ak) Gr ks (fun pm kh=>aa c' pm kh v) aJ AQ (k1 _ hm)
  .obtain ⟨tk,rfl⟩:=aJ;refine ⟨.int (bW.getD i 0),av,b3,⟨tk,rfl⟩,ajJ i _ (by rw [j_,bo ah];rfl) fun j n aL=>?_⟩;have o6:j < bW.length:=(cb.mp aL).1;have e:bW.getD j 0=n:=by rw [j_,aL];rfl
   have:=ua j o6;rw [e] at this;exact this
theorem b_.ans {w:World} {K:ba} {mg:Str->Option Value} {base:Heap} {x qual:Str} {st:Stmt} {fd:FuncData} {N ps:List Str} {k:Nat} (F:b_ K x qual st f fd) (S:cq N ps (bE st)) (len:∀ vs H Q E,sp vs H Q E->vs.length=ps.length)
  (pz:∀ (fU:Value),fd.code=fU->∀ (A:Around) (outer:List Env) (s:Shared) (H:au) (vs:List V) (Q:cN) (E:gp),eA k (A.deeper (envOfC qual (bE st) s.heap.objs.size f fU))->sp vs H Q E ->
   ∃ t,kZ (qN dt P w K mg base N qual (bE st) f fU A outer s H E).l4 (sy st) t/\t { b8:=fun _ I=>Q .b' I,k3:=Q } (start N vs) H):cJ P w K mg base dt (k + 1) f fd ps sp:=by
 obtain ⟨n5,dH,c9,doc,pm,an,fU,e_,tN,rfl,lk,kN⟩:=F.ex;refine QA lk kN S len fun A outer s H vs Q E ao iE=>?_
 obtain ⟨t,h,q⟩:=pz fU rfl A outer s H vs Q E ao iE;exact ⟨t,h.l4,q⟩
def M4 (_:Addr):Prop:=True
noncomputable abbrev TH {P:Addr} (_:M4 P):Addr:=P
theorem afU {l:PySem.W.OpenLaw} {n k:Nat} {q:Program} {loose:List Str} {CR:(Str->Option Value)->Heap->Prop} {vz:World->Heap->Prop} {d:DefRec} {K:Params->ba} {CX:j1} {sp:ba->Addr->bX} {x:Str} {Pt:Addr}
  (a3:l.most=some n) (q1:n <= sizeLine) (GJ:d.params.defaults=[]) (ao:eA k callerA)
  (ZG:∀ (w:World) (h:Heap),vz w h->(K w.params).In h) (hG:∀ (w:World) (h:Heap),vz w h->h.get? Pt=some (Vx #[])) (fB:∀ p,aaA (K p)=true)
  (F:∀ (w:World) (mg:Str->Option Value) (gB:Addr) (h:Heap),(K w.params).In h->h.Ns mainGlobals mg->mg d.name=some (.ref gB)->M4 Pt ->
   ∃ (fd:FuncData) (c:Addr),(∀ (s:Shared) (u:Value),BindsTo s fd ⟨[u],[]⟩ [(x,u)])/\aeC (K w.params) c Pt=true /\
    ∀ (base:Heap),(K w.params).In base->base.Ns mainGlobals mg->pL base c Pt->base.BuiltinsAt mg Pt->cJ l.prog w (K w.params) mg base CX k gB fd [x] (sp (K w.params) Pt))
  (iE:∀ (K:ba) (H:au) (a Pt:Addr) (ns:List Int),ns.length <= n->AU Pt H->aF K H a (ns.map V.int)->sp K Pt [.ref a] H (fun v _=>v=.bB true) fun _ _ _=>False)
  (Gq:∀ (H:au) (s:Shared) (e:Value) (aj:Shared),CX [] H s (fun _ _ _=>False) e aj->False) :
  PySem.W.WalkO q loose CR vz l.row.toRowW d [] (fun f vs=>al7 f vs):=by
 refine NB.amP a3 GJ fun w fQ dk mg mL gB o pm cd doc a vs ns G Y aS hd kN yT HO hints hlen bj=>?_
 have kP:=ZG w _ Y;obtain ⟨fd,c,aa,ay,xj⟩:=F w mg gB _ kP G.T.g yT trivial;exact ajr (c:=c) (Pt:=Pt) kP (fB w.params) G.T.g G.T.b G.T.builtins G.T.nolimit bj G.T.bmain (PySem.W.codeHd_of_K kP ay) (hG w _ Y) HO hints (c7 hlen q1) ao xj aa (fun H lR d2=>iE (K w.params) H a Pt ns hlen lR d2) fun H e aj=>Gq H dk e aj
noncomputable def PA (st:Stmt):Expr:=match (sy st).getLast? with
 | some (.Return (some (.Call _ _ [⟨_,e,_⟩] _)) _)=>e
 | _=>.Constant .none 0 ⟨0,0,0,0⟩
noncomputable def LU (t:ea):ea:=fun D σ H=>∃ d kvs,H d=some (.a5 kvs)/\t { b8:=fun ax I=>∃ o,I d=some (.dx o (.a5 kvs))/\D.b8 ax (upd I d (.a5 kvs)),k3:=fun _ _=>False } σ H
theorem BD {st:Stmt} {t:ea} (h:hr X st t):hr X st (LU t):=by
 intro ae s σ H D J q;obtain ⟨d,kvs,hX,q⟩:=q;refine bF (h ae s σ H _ J q) fun f s1 aD=>?_
 cases f with
 | next=>
  obtain ⟨gf,H1,aU,o,aw,bO⟩:=aD;refine ⟨gf,_,Un aU aw (fun ei u z=>?_),bO⟩;have:=J.base.jS d ei u z;rw [hX] at this;cases this
 | ret u=>obtain ⟨_,_,_,_,_,z⟩:=aD;exact z.elim
 | brk=>obtain ⟨_,_,_,z⟩:=aD;exact z.elim
 | cont=>obtain ⟨_,_,_,z⟩:=aD;exact z.elim
theorem dT (t u:ea) (D:ho) (σ:St) (H:au):GY t u D σ H=(t { D with b8:=u D } σ H):=rfl
theorem Vn (K:ba):Rb K a' e9 f D σ H=(e9 σ H fun y H1=>a' σ H1 fun x av=>fl x fun a=>∃ C ar aR,av a=some (.ins C ar aR)/\hl K C/\cY K C f/\aR.length < 1000 /\
 D.b8 σ (upd av a (.ins C ar (cT f y aR)))):=rfl
theorem Nf (K:ba) (ia:V->V->au->cN->Prop):Rm K a' e9 ia f D σ H=(a' σ H fun x H1=>∃ a C ar aR v,x=.ref a/\H1 a=some (.ins C ar aR)/\hl K C/\cY K C f/\aR.lookup f=some v /\
 e9 σ H1 fun y av=>ia v y av fun z bk=>∃ ht mG,bk a=some (.ins C ht mG)/\mG.length < 1000/\D.b8 σ (upd bk a (.ins C ht (cT f z mG)))):=rfl
theorem WG (t:f3):F8 C m sp dvs E a' t σ H Q=(a' σ H fun x H1=>fl x fun a=>∃ ar aR,H1 a=some (.ins C ar aR)/\aR.lookup m=none /\
 t σ H1 fun vs av=>sp (x :: (vs ++ dvs)) av Q E):=rfl
theorem QR (t:f3):Wm C sp dvs E t σ H Q=(t σ H fun vs H1=>∀ x ar,H1 x=none->H1 ar=none->ar ≠ x ->
 sp (.ref x :: (vs ++ dvs)) (upd (upd H1 ar (.own x)) x (.ins C ar [])) (fun v av=>v=.b'/\Q (.ref x) av) E):=rfl
theorem Pq (K:ba) (x:V) (lo:Option Int) (ah:Option Int) (H:au) (Q:cN):QV K x lo ah H Q=(∃ a xs,x=.ref a/\de K H a xs /\
 ¬ (gn.dh xs.length 0 lo=0/\gn.dh xs.length xs.length ah=xs.length)/\∀ p,H p=none->Q (.ref p) (upd H p (.tup (m2 xs lo ah)))):=rfl
theorem Py (e8 ty e9:TE) (ia:V->V->au->cN->Prop):Wk e8 ty e9 ia D σ H=(e8 σ H fun x H1=>ty σ H1 fun y av=>∃ a v,x=.ref a/\fm av a y (some v) /\
 e9 σ av fun iP bk=>ia v iP bk fun z b5=>∃ cP,hC b5 a y z cP/\D.b8 σ cP):=rfl
theorem Ws (e8 ty tG:TE):Ui e8 ty tG σ H Q=(e8 σ H fun x H1=>∃ a,x=.ref a/\K6 H1 a/\ty σ H1 fun y av=>tG σ av fun z bk=>∃ kvs k,bk a=some (.a5 kvs)/\y=c9 k /\
 (∀ v,c1 kvs k=some v->Q v (upd bk a (.a5 (q3 kvs k))))/\(c1 kvs k=none->Q z bk)):=rfl
theorem P8 (t:f3):MH mI m my E a' t σ H Q=(a' σ H fun x H1=>∃ a C ar aR,x=.ref a/\H1 a=some (.ins C ar aR)/\mI C/\aR.lookup m=none /\
 t σ H1 fun vs av=>my C (x :: vs) av Q E):=rfl
theorem P4 (K:ba) (t:TE):RB K Pt qF q i1 i2 t a' σ H Q=(a' σ H fun vs H1=>∃ l bW v1 v2,∃ g:Int->Int,vs=[.ref l]/\aF K H1 l (oJ V.int bW)/\bW ≠ [] /\
 σ[i1]? = some (some v1)/\σ[i2]? = some (some v2)/\Tab H1 Pt qF q/\∀ av,lO Pt H1 av->(aI H1->aI av)->Tab av Pt qF q ->
  (∀ n ∈ bW,t [some (.int n),some v1,some v2] av fun x I=>x=.int (g n)/\I=av)/\∀ (i:Nat) m,bW[i]? = some m->(∀ (j:Nat) n,bW[j]? = some n->g m <= g n/\(j < i->g m < g n))->Q (.int m) av):=rfl
def dY (b3:jC) (g:gH) (bT:ea) (D:ho) (σ:St) (H:au):Prop:=∃ W:Nat->Nat->St->au->Prop,(∃ m,W 0 m σ H)/\∀ i m σ H,W i m σ H ->
 (b3.stop i H/\D.b8 σ H)\/(b3.go i H/\∃ N:St->au->Prop,(∀ ax I,N ax I->∃ c6,c6 < m/\W (i + 1) c6 ax I)/\∀ x I,b3.pR i H x I->g x σ I fun cn av=>bT { D with b8:=N,e_:=N,cI:=D.b8 } cn av)
theorem OD:OL hN g bT D σ H=hN σ H fun b3 H1=>dY b3 g bT D σ H1:=rfl
def dg (b3:jC) (g:gH) (dv:TT) (bV:TE) (dG:St) (Q:cN) (H:au):Prop:=∃ W:Nat->Nat->List V->au->Prop,(∃ m,W 0 m [] H)/\te b3 g dv bV dG Q W
theorem QF:Je hN g dv bV sel σ H Q=hN σ H fun b3 H1=>dg b3 g dv bV (mY sel σ) Q H1:=rfl
theorem W2:SK a' σ H R=(a' σ H fun vs H1=>nf vs fun x=>gA x fun j=>-4611686018427387904 <= j/\j < 4611686018427387904/\R (oa 0 j.toNat) H1):=rfl
theorem abe (f:α->β):[].map f=[]:=rfl
theorem Zl (f:α->β) (a:α) (l:List α):(a :: l).map f=f a :: l.map f:=rfl
theorem al3 (l:List α):[] ++ l=l:=rfl
theorem acn (a:α) (l r:List α):(a :: l) ++ r=a :: (l ++ r):=rfl
theorem ajy (a b:α) (l:List α):(a :: l).set 0 b=b :: l:=rfl
theorem aaE (a b:α) (l:List α) (n:Nat):(a :: l).set (n + 1) b=a :: l.set n b:=rfl
theorem ajE (a:α) (l:List α):(a :: l)[0]? = some a:=rfl
theorem aaY (a:α) (l:List α) (n:Nat):(a :: l)[n + 1]? = l[n]?:=rfl
theorem ac9:([]:List α).length=0:=rfl
theorem af' (a:α) (l:List α):(a :: l).length=l.length + 1:=rfl
theorem ajG (f:α->Option β):(none:Option α).bind f=none:=rfl
theorem alR (f:α->Option β) (a:α):(some a).bind f=f a:=rfl
theorem aaJ (a:Option α):(some a).join=a:=rfl
theorem ai5:(none:Option (Option α)).join=none:=rfl
theorem NY (sel:List (Option Nat)) (σ:St):mY sel σ=sel.map fun o=>o.bind fun j=>(σ[j]?).join:=rfl
theorem eg {t u:ea} (b:Bool) (ay:∀ Q:Bool->au->Prop,Q b H->c σ H Q) (af:b=true->t D σ H) (ak:b=false->u D σ H):Lo c t u D σ H:=by
 refine ay _ ?_;cases b with
 | true=>exact af rfl
 | false=>exact ak rfl
theorem DT {t u:ea} (R:Bool->au->Prop) (ay:∀ Q:Bool->au->Prop,(∀ b I,R b I->Q b I)->c σ H Q) (af:∀ I,R true I->t D σ I) (ak:∀ I,R false I->u D σ I):Lo c t u D σ H:=by
 refine ay _ fun b I r=>?_
 cases b with
 | true=>exact af I r
 | false=>exact ak I r
theorem Db {t:ea} {D:ho} {σ:St} {H:au} (R:St->au->Prop) (h:∀ gm:ho,(∀ σ H,R σ H->gm.b8 σ H)->gm.k3=D.k3->gm.cI=D.cI->gm.e_=D.e_->t gm σ H) (hV:∀ σ H,R σ H->D.b8 σ H):t D σ H:=h D hV rfl rfl rfl
theorem F1 {t:ea} {D:ho} {σ:St} {H:au} (R:St->au->Prop) (h:∀ gm:ho,(∀ σ H,R σ H->gm.b8 σ H)->t gm σ H) (hV:∀ M,M=D.b8->∀ σ H,R σ H->M σ H):t D σ H:=h D (hV _ rfl)
theorem WI {p:Prop} (h:∀ q,q=p->q):p:=h p rfl
theorem CY {t:ea} {D:ho} {σ:St} {H:au} (R:St->au->Prop) (h:∀ gm:ho,(∀ σ H,R σ H->gm.b8 σ H)->t gm σ H) (hV:∀ σ H,R σ H->D.b8 σ H):t D σ H:=h D hV
theorem Ln {t u:ea} {D:ho} {σ:St} {H:au} (R:St->au->Prop) (h:∀ gm:ho,(∀ σ H,R σ H->gm.b8 σ H)->t gm σ H) (hV:∀ M,M=u D->∀ σ H,R σ H->M σ H):GY t u D σ H:=h { D with b8:=u D } (hV _ rfl)
theorem XD (v:V) (ay:∀ Q:cN,Q v H->bV σ H Q) (h:D.k3 v H):B5 bV D σ H:=ay _ h
theorem o9 (x y:Str):(x ++ y).length=x.length + y.length:=by
 show (x.cps ++ y.cps).size=_;rw [Array.size_append];rfl
theorem dY.range {lo:Int} {n:Nat} {g:gH} {bT:ea} {D:ho} {σ:St} {H:au} (Pv:Nat->St->au->Prop) (h0:Pv 0 σ H)
  (aB:∀ i σ H,i < n->Pv i σ H->g (.int (lo + i)) σ H fun cn av=>bT { D with b8:=Pv (i + 1),e_:=Pv (i + 1),cI:=D.b8 } cn av) (hd:∀ σ H,Pv n σ H->D.b8 σ H):dY (oa lo n) g bT D σ H:=YO Pv h0 aB hd
theorem dY.list {K:ba} (Pv:Nat->St->au->Prop) (h0:Pv 0 σ H) (aK:∀ i σ H,i <= xs.length->Pv i σ H->aF K H a xs)
  (aB:∀ i x σ H,xs[i]? = some x->Pv i σ H->g x σ H fun cn av=>bT { D with b8:=Pv (i + 1),e_:=Pv (i + 1),cI:=D.b8 } cn av) (hd:∀ σ H,Pv xs.length σ H->D.b8 σ H):dY (nG K a) g bT D σ H:=ajt Pv h0 aK aB hd
theorem dY.a4 (Pv:Nat->St->au->Prop) (h0:Pv 0 σ H)
  (aB:∀ i x σ H,xs[i]? = some x->Pv i σ H->g x σ H fun cn av=>bT { D with b8:=Pv (i + 1),e_:=Pv (i + 1),cI:=D.b8 } cn av) (hd:∀ σ H,Pv xs.length σ H->D.b8 σ H):dY (qy xs) g bT D σ H:=ak' Pv h0 aB hd
theorem dg.list {K:ba} (Pv:Nat->List V->au->Prop) (aW:xs.length <= sizeLine) (h0:Pv 0 [] H) (aK:∀ i ys H,i <= xs.length->Pv i ys H->aF K H a xs/\ys.length <= i)
  (aB:∀ i x ys H,xs[i]? = some x->Pv i ys H->p2 Pv g dv bV dG i x ys H) (hd:∀ ys H,Pv xs.length ys H->∀ p,H p=none->Q (.ref p) (upd H p (.lst ys))):dg (nG K a) g dv bV dG Q H:=Xr Pv aW h0 aK aB hd
theorem dg.a4 (Pv:Nat->List V->au->Prop) (aW:xs.length <= sizeLine) (h0:Pv 0 [] H) (aK:∀ i ys H,i <= xs.length->Pv i ys H->ys.length <= i)
  (aB:∀ i x ys H,xs[i]? = some x->Pv i ys H->p2 Pv g dv bV dG i x ys H) (hd:∀ ys H,Pv xs.length ys H->∀ p,H p=none->Q (.ref p) (upd H p (.lst ys))):dg (qy xs) g dv bV dG Q H:=amo Pv aW h0 aK aB hd
theorem dg.range {lo:Int} {n:Nat} {g:gH} {dv:TT} {bV:TE} {dG:St} {Q:cN} {H:au} (Pv:Nat->List V->au->Prop) (aW:n <= sizeLine) (h0:Pv 0 [] H) (aK:∀ i ys H,i <= n->Pv i ys H->ys.length <= i)
  (aB:∀ i ys H,i < n->Pv i ys H->p2 Pv g dv bV dG i (.int (lo + i)) ys H) (hd:∀ ys H,Pv n ys H->∀ p,H p=none->Q (.ref p) (upd H p (.lst ys))):dg (oa lo n) g dv bV dG Q H:=Zq Pv aW h0 aK aB hd
theorem ae5 {α β:Type} {xs:List α} {i:Nat} {x:α} (f:α->β) (h:xs[i]? = some x):(xs.take (i + 1)).map f=(xs.take i).map f ++ [f x]:=by
 rw [pw,h,fx];rfl
theorem dg.ady {xs:List V} {g:gH} {bV:TE} {dG:St} {Q:cN} {H:au} (f:V->V) (aW:xs.length <= sizeLine) (aB:∀ (i:Nat) (x:V) (N:V->au->Prop),xs[i]? = some x->N (f x) H->g x dG H fun cn av=>Sub dG cn/\bV cn av N)
  (hd:∀ p,H p=none->Q (.ref p) (upd H p (.lst (xs.map f)))):dg (qy xs) g pZ bV dG Q H:=by
 refine dg.a4 (fun i ys I=>I=H/\ys=(xs.take i).map f) aW ⟨rfl,rfl⟩ (fun i ys I ah ⟨_,e⟩=>?_) (fun i x ys I ag ⟨aw,aG⟩ N bu=>?_) (fun ys I ⟨aw,aG⟩ p aq=>?_)
 .rw [e,aO,gK];omega
 .subst aw;exact aB i x (fun y b5=>N (ys ++ [y]) b5) ag (bu _ _ ⟨rfl,by rw [aG,ae5 f ag]⟩)
 .subst aw;rw [aG,hB];exact hd p aq
theorem dg.XF {lo:Int} {n:Nat} {g:gH} {bV:TE} {dG:St} {Q:cN} {H:au} (f:Nat->V) (aW:n <= sizeLine) (aB:∀ (i:Nat) (N:V->au->Prop),i < n->N (f i) H->g (.int (lo + i)) dG H fun cn av=>Sub dG cn/\bV cn av N)
  (hd:∀ p,H p=none->Q (.ref p) (upd H p (.lst ((fW n).map f)))):dg (oa lo n) g pZ bV dG Q H:=by
 refine dg.range (fun i ys I=>I=H/\ys=(fW i).map f) aW ⟨rfl,rfl⟩ (fun i ys I ah ⟨_,e⟩=>?_) (fun i ys I ah ⟨aw,aG⟩ N bu=>?_) (fun ys I ⟨aw,aG⟩ p aq=>?_)
 .rw [e,aO,uY];exact bR _
 .subst aw;exact aB i (fun y b5=>N (ys ++ [y]) b5) ah (bu _ _ ⟨rfl,by rw [aG,y5,fx];rfl⟩)
 .subst aw;rw [aG];exact hd p aq
theorem dg.adx {K:ba} (f:V->dU) (aK:aF K H a xs) (aW:xs.length <= sizeLine) (a3:∀ x,pM (f x)=true)
  (aB:∀ (i:Nat) (x:V) (H1:au) (N:V->au->Prop),xs[i]? = some x->aN H H1->(aI H->aI H1)->(∀ q,H1 q=none->N (.ref q) (upd H1 q (f x)))->g x dG H1 fun cn av=>Sub dG cn/\bV cn av N)
  (hd:∀ (qs:List Addr) (H1:au),aN H H1->(aI H->aI H1)->qs.length=xs.length->(∀ (j:Nat) (q:Addr) (x:V),qs[j]? = some q->xs[j]? = some x->H1 q=some (f x)/\H q=none)->∀ p,H1 p=none->Q (.ref p) (upd H1 p (.lst (qs.map V.ref)))):dg (nG K a) g pZ bV dG Q H:=by
 refine dg.list (fun i ys I=>∃ qs:List Addr,ys=qs.map V.ref/\qs.length=i/\aN H I/\(aI H->aI I)/\∀ (j:Nat) (q:Addr) (x:V),qs[j]? = some q->xs[j]? = some x->I q=some (f x)/\H q=none) aW
  ⟨[],rfl,rfl,aN.refl H,id,fun j q x h _=>by simp at h⟩ ?_ ?_ ?_
 .rintro i ys I ah bb;refine WI fun tE aV=>?_
  obtain ⟨qs,e,aG,bg,_,_⟩:=bb;subst aV;exact ⟨aK.same bg,by rw [e,aO];omega⟩
 .rintro i x ys I ag ⟨qs,aw,aG,bg,bG,al⟩ N bu;refine aB i x I (fun y b5=>N (ys ++ [y]) b5) ag bg bG fun q aD=>bu _ _ ⟨qs ++ [q],by rw [aw,fx];rfl,by rw [dS,aG];rfl,bg.gW (bg.free aD),fun n=>(bG n).upd (a3 x),fun j dV fH af ak=>?_⟩
  by_cases aL:j < qs.length
  .rw [n8 aL] at af;obtain ⟨eV,es⟩:=al j dV fH af ak;exact ⟨by rw [aA (dj eV aD)];exact eV,es⟩
  .rw [mK (by omega)] at af;have pF:j - qs.length=0:=by
    cases gg:j - qs.length with
    | zero=>rfl
    | succ n=>rw [gg] at af;simp at af
   rw [pF] at af;have bS:q=dV:=by simpa using af
   subst bS;have er:j=i:=by omega
   subst er;rw [ag] at ak;cases ak;exact ⟨db,bg.free aD⟩
 .rintro ys I ⟨qs,aw,aG,bg,bG,al⟩ p aq;subst aw;exact hd qs I bg bG aG al p aq
theorem dY.of (Pv:Nat->St->au->Prop) (h0:Pv 0 σ H) (uv:∀ i σ H,i < n->Pv i σ H->b3.go i H) (gd:∀ σ H,Pv n σ H->b3.stop n H)
  (aB:∀ i σ H x I,i < n->Pv i σ H->b3.pR i H x I->g x σ I fun cn av=>bT { D with b8:=Pv (i + 1),e_:=Pv (i + 1),cI:=D.b8 } cn av) (hd:∀ σ H,Pv n σ H->D.b8 σ H):dY b3 g bT D σ H:=by
 refine ⟨fun i m σ H=>m=n - i/\i <= n/\Pv i σ H,⟨n,by simp,e5 _,h0⟩,?_⟩;rintro i m σ H ⟨rfl,ah,p⟩;by_cases dW:i < n
 .exact .inr ⟨uv i σ H dW p,Pv (i + 1),fun ax I iv=>⟨n - (i + 1),by omega,rfl,dW,iv⟩,fun x I y=>aB i σ H x I dW p y⟩
 .have e:i=n:=by omega
  subst e;exact .inl ⟨gd σ H p,hd σ H p⟩
theorem dg.of (Pv:Nat->List V->au->Prop) (aW:n <= sizeLine) (h0:Pv 0 [] H) (uv:∀ i ys H,i < n->Pv i ys H->b3.go i H) (gd:∀ ys H,Pv n ys H->b3.stop n H) (aK:∀ i ys H,i < n->Pv i ys H->ys.length <= i)
  (aB:∀ i ys H x I,i < n->Pv i ys H->b3.pR i H x I->p2 Pv g dv bV dG i x ys I) (hd:∀ ys H,Pv n ys H->∀ p,H p=none->Q (.ref p) (upd H p (.lst ys))):dg b3 g dv bV dG Q H:=by
 refine ⟨fun i m ys H=>m=n - i/\i <= n/\Pv i ys H,⟨n,by simp,e5 _,h0⟩,?_⟩;rintro i m ys H ⟨rfl,ah,p⟩;by_cases dW:i < n
 .have B8:=aK i ys H dW p;refine .inr ⟨uv i ys H dW p,by omega,fun x I y=>?_⟩;exact aB i ys H x I dW p y (fun jO I=>∃ c6,c6 < n - i/\c6=n - (i + 1)/\i + 1 <= n/\Pv (i + 1) jO I) fun jO I r=>⟨n - (i + 1),by omega,rfl,dW,r⟩
 .have e:i=n:=by omega
  subst e;exact .inl ⟨gd ys H p,hd ys H p⟩
section
variable {K:ba} {a b:Addr} {xs ys:List V} {g:gH} {bT:ea} {D:ho} {σ dG:St} {H:au} {dv:TT} {bV:TE} {Q:cN}
theorem dY.enum (Pv:Nat->St->au->Prop) (h0:Pv 0 σ H) (aK:∀ i σ H,i <= xs.length->Pv i σ H->aF K H a xs)
  (aB:∀ i x σ H p,xs[i]? = some x->Pv i σ H->H p=none->g (.ref p) σ (upd H p (.tup [.int i,x])) fun cn av=>bT { D with b8:=Pv (i + 1),e_:=Pv (i + 1),cI:=D.b8 } cn av) (hd:∀ σ H,Pv xs.length σ H->D.b8 σ H):dY (Cg K a) g bT D σ H:=by
 refine dY.of (n:=xs.length) Pv h0 (fun i σ H ah p=>⟨xs,xs[i],aK i σ H (ni ah) p,by simp [ah]⟩) (fun σ H p=>⟨xs,aK _ σ H (bR _) p,bR _⟩) (fun i σ H v I ah p y=>?_) hd;obtain ⟨q,x,aD,rfl,ag,rfl⟩:=y;exact aB i x σ H q (ag xs (aK i σ H (ni ah) p)) p aD
theorem dY.zip (Pv:Nat->St->au->Prop) (h0:Pv 0 σ H) (aK:∀ i σ H,i <= xs.length->Pv i σ H->aF K H a xs/\aF K H b ys) (n:Nat) (a3:n=min xs.length ys.length)
  (aB:∀ i x y σ H p,xs[i]? = some x->ys[i]? = some y->Pv i σ H->H p=none->g (.ref p) σ (upd H p (.tup [x,y])) fun cn av=>bT { D with b8:=Pv (i + 1),e_:=Pv (i + 1),cI:=D.b8 } cn av) (hd:∀ σ H,Pv n σ H->D.b8 σ H):dY (X' K a b) g bT D σ H:=by
 subst a3;refine dY.of (n:=min xs.length ys.length) Pv h0 (fun i σ H ah p=>?_) (fun σ H p=>?_) (fun i σ H v I ah p y=>?_) hd
 .obtain ⟨eV,es⟩:=aK i σ H (by omega) p;exact ⟨xs,ys,xs[i],ys[i],eV,es,by rw [bo (by omega)],by rw [bo (by omega)]⟩
 .obtain ⟨eV,es⟩:=aK _ σ H (by omega) p;exact ⟨xs,ys,eV,es,by omega⟩
 .obtain ⟨q,x,y,aD,rfl,ag,aY,rfl⟩:=y;obtain ⟨eV,es⟩:=aK i σ H (by omega) p;exact aB i x y σ H q (ag xs eV) (aY ys es) p aD
theorem dg.enum (Pv:Nat->List V->au->Prop) (aW:xs.length <= sizeLine) (h0:Pv 0 [] H) (aK:∀ i ys H,i <= xs.length->Pv i ys H->aF K H a xs/\ys.length <= i)
  (aB:∀ i x ys H p,xs[i]? = some x->Pv i ys H->H p=none->p2 Pv g dv bV dG i (.ref p) ys (upd H p (.tup [.int i,x]))) (hd:∀ ys H,Pv xs.length ys H->∀ p,H p=none->Q (.ref p) (upd H p (.lst ys))):dg (Cg K a) g dv bV dG Q H:=by
 refine dg.of (n:=xs.length) Pv aW h0 (fun i ys H ah p=>⟨xs,xs[i],(aK i ys H (ni ah) p).1,by simp [ah]⟩) (fun ys H p=>⟨xs,(aK _ ys H (bR _) p).1,bR _⟩) (fun i ys H ah p=>(aK i ys H (ni ah) p).2) (fun i zs H v I ah p y=>?_) hd;obtain ⟨q,x,aD,rfl,ag,rfl⟩:=y;exact aB i x zs H q (ag xs (aK i zs H (ni ah) p).1) p aD
theorem aeA {p:Addr} {x y:V} (h:de K H p [x,y]) (q:R ((σ.set i (some x)).set j (some y)) H):uW K 2 (r7 (gj i) (r7 (gj j) xx)) (.ref p) σ H R:=
 ⟨p,_,rfl,h,rfl,x,_,rfl,y,_,rfl,rfl,q⟩
theorem Dv {p:Addr} {x y:V} (q:R ((σ.set i (some x)).set j (some y)) (upd H p (.tup [x,y]))):uW K 2 (r7 (gj i) (r7 (gj j) xx)) (.ref p) σ (upd H p (.tup [x,y])) R:=
 aeA (.inl (.inl db)) q
end
theorem Sub.aaN {v w:Option V}:Sub (none :: none :: r) (v :: w :: r):=by
 refine ⟨rfl,fun i u h=>?_⟩
 match i with
 | 0=>cases h
 | 1=>cases h
 | i + 2=>exact h
theorem Sub.vP {v w z:Option V}:Sub (none :: none :: none :: r) (v :: w :: z :: r):=by
 refine ⟨rfl,fun i u h=>?_⟩
 match i with
 | 0=>cases h
 | 1=>cases h
 | 2=>cases h
 | i + 3=>exact h
theorem dg.mB {K:ba} (aK:aF K H a xs) (aW:xs.length <= sizeLine) (he:zs.length=xs.length)
  (aB:∀ (i:Nat) (x z:V) (N:V->au->Prop),xs[i]? = some x->zs[i]? = some z->N z H->g x dG H fun cn av=>Sub dG cn/\bV cn av N) (hd:∀ p,H p=none->Q (.ref p) (upd H p (.lst zs))):dg (nG K a) g pZ bV dG Q H:=by
 refine dg.list (fun i ys I=>I=H/\ys=zs.take i) aW ⟨rfl,rfl⟩ (fun i ys I ah ⟨fJ,e⟩=>?_) (fun i x ys I ag ⟨aw,aG⟩ N bu=>?_) (fun ys I ⟨aw,aG⟩ p aq=>?_)
 .subst fJ;exact ⟨aK,by rw [e,gK];omega⟩
 .subst aw;have ah:i < zs.length:=by rw [he];exact (cb.mp ag).1
  have gY:zs[i]? = some zs[i]:=bo ah;exact aB i x zs[i] (fun y b5=>N (ys ++ [y]) b5) ag gY (bu _ _ ⟨rfl,by rw [aG,pw,gY];rfl⟩)
 .subst aw;rw [aG,<- he,hB];exact hd p aq
theorem dg.alB {K:ba} (aK:de K H a xs) (aW:xs.length <= sizeLine) (he:zs.length=xs.length)
  (aB:∀ (i:Nat) (x z:V) (N:V->au->Prop),xs[i]? = some x->zs[i]? = some z->N z H->g x dG H fun cn av=>Sub dG cn/\bV cn av N) (hd:∀ p,H p=none->Q (.ref p) (upd H p (.lst zs))):dg (EF K a) g pZ bV dG Q H:=by
 refine ajS (xs:=xs) (fun i ys I=>I=H/\ys=zs.take i) aW ⟨rfl,rfl⟩ (fun i ys I ah ⟨fJ,e⟩=>?_) (fun i x ys I ag ⟨aw,aG⟩ N bu=>?_) (fun ys I ⟨aw,aG⟩ p aq=>?_)
 .subst fJ;exact ⟨aK,by rw [e,gK];omega⟩
 .subst aw;have ah:i < zs.length:=by rw [he];exact (cb.mp ag).1
  have gY:zs[i]? = some zs[i]:=bo ah;exact aB i x zs[i] (fun y b5=>N (ys ++ [y]) b5) ag gY (bu _ _ ⟨rfl,by rw [aG,pw,gY];rfl⟩)
 .subst aw;rw [aG,<- he,hB];exact hd p aq
theorem dg.r_ {K:ba} {a:Addr} {xs:List V} {ss:List (Option V)} {g:gH} {dv:TT} {bV:TE} {dG:St} {Q:cN} {H:au} (aK:aF K H a xs) (aW:xs.length <= sizeLine) (he:ss.length=xs.length)
  (aB:∀ (i:Nat) (x:V) (o:Option V) (ys:List V) (N:List V->au->Prop),xs[i]? = some x->ss[i]? = some o->N (ys ++ o.toList) H->g x dG H fun cn av=>Sub dG cn/\dv cn av fun c bk=>if c=true then bV cn bk fun y b5=>N (ys ++ [y]) b5 else N ys bk)
  (hd:∀ p,H p=none->Q (.ref p) (upd H p (.lst (ss.flatMap DP)))):dg (nG K a) g dv bV dG Q H:=by
 refine dg.list (fun i ys I=>I=H/\ys=(ss.take i).flatMap DP/\ys.length <= i) aW ⟨rfl,rfl,bR _⟩ (fun i ys I ah ⟨fJ,e,bM⟩=>?_) (fun i x ys I ag ⟨aw,aG,bS⟩ N bu=>?_) (fun ys I ⟨aw,aG,_⟩ p aq=>?_)
 .subst fJ;exact ⟨aK,bM⟩
 .subst aw;have ah:i < ss.length:=by rw [he];exact (cb.mp ag).1
  have gY:ss[i]? = some ss[i]:=bo ah;refine aB i x ss[i] ys N ag gY (bu _ _ ⟨rfl,by rw [aG,pw,gY,Ec];simp,?_⟩);rw [dS];cases ss[i] <;> simp <;> omega
 .subst aw;rw [aG,<- he,hB];exact hd p aq
theorem UZ (Pv:St->au->Prop) (xw:St->au->Nat) (h0:Pv σ H)
  (aB:∀ σ H,Pv σ H->∃ b:Bool,(∀ Q:Bool->au->Prop,Q b H->c σ H Q)/\(b=true->bT { D with b8:=fun ax I=>Pv ax I/\xw ax I < xw σ H,e_:=fun ax I=>Pv ax I/\xw ax I < xw σ H,cI:=D.b8 } σ H)/\(b=false->D.b8 σ H)):U' c bT D σ H:=by
 refine ⟨fun m σ H=>m=xw σ H/\Pv σ H,⟨_,rfl,h0⟩,?_⟩;rintro m σ H ⟨rfl,p⟩;obtain ⟨b,ay,af,ak⟩:=aB σ H p;refine ay _ ?_;cases b with
 | true=>exact ⟨_,fun ax I ⟨iv,l⟩=>⟨_,l,rfl,iv⟩,af rfl⟩
 | false=>exact ak rfl
theorem Sub.name:Sub (none :: r) (v :: r):=by
 refine ⟨rfl,fun i w h=>?_⟩;cases i with
 | zero=>cases h
 | succ i=>exact h
theorem cg {x:Str} {e:Expr} (bu:X.N.Nodup) (he:bw X e bV) (ah:X.N[i]? = some x:=by rfl) (ag:Loc X.env.scope x:=by exact mx rfl) (aB:swapsWith e (some (.Name x pos')) pos.line X.env=pure false:=by rfl) (hf:X.fn x=true\/X.env.scope.names.lookup x=some .local:=by first | exact .inl rfl | exact .inr rfl | assumption):hr X (.Assign [.Name x pos'] e pos) (ue bV (gj i)):=qv bu ah ag he aB hf
theorem cu {x:Str} (bu:X.N.Nodup) (ah:X.N[i]? = some x:=by rfl) (ag:Loc X.env.scope x:=by exact mx rfl) (hf:X.fn x=true\/X.env.scope.names.lookup x=some .local:=by first | exact .inl rfl | exact .inr rfl | assumption):mE X (.Name x pos) (gj i):=RG bu ah ag hf
theorem cE (ao:x8 X r) (aZ:bw X a a') (aa:bw X b bT) (aB:UX b:=by exact fun _ _=>rfl):bw X (.Subscript a b pos) (so r a' bT):=agZ ao aZ aa aB
theorem cH {k:Nat} {fd:FuncData} {x:Str} {p pos:Pos} {e:Expr} {t:f3} (F:cJ X.prog X.w X.K X.mg X.base dt k f fd ps sp) (ao:eA k X.A) (hm:X.mg x=some (.ref f)) (aC:sN X.K (.ref f)=true) (aa:b6 X.K fd ps []) (aZ:jI X (e :: a0) t) (bj:mj X x:=by rfl) (nM:(x == ("__debug__" : Str))=false:=by decide) (he:starEach (e :: a0) X.env=(false,eval e X.env) :: starEach a0 X.env:=by rfl) (cG:(backTo pos (starEach a0 X.env)).any (·.1)=false:=by rfl):bw X (.Call (.Name x p) (e :: a0) [] pos) (xo sp [] Hu t):=amb F ao bj hm aC aa .nil cj aZ nM he cG
end L2
local macro_rules|`(tactic|nofun)=>do let f(s:String):=(s.splitOn " ").toArray.map fun x=>Lean.mkCIdent x.toName;let c:=f "L2.z7 L2.r9 L2.zE L2.Fj L2.Mq L2.G9 L2.Hv L2.Ht L2.KS L2.Jj L2.jf L2.dT L2.Mu L2.B5 L2.KU L2.Km L2.gj L2.xx L2.r7 L2.uW L2.G4 L2.ue L2.FS L2.JT L2.KP L2.so L2.Jl L2.vc L2.pD L2.Co L2.K0 L2.I5 L2.HD L2.IE L2.Vn L2.Nf L2.MC L2.I7 L2.xb L2.wP L2.G7 L2.JG L2.xo L2.WG L2.QR L2.D8 L2.JM L2.JD L2.Mo L2.Pq L2.JY L2.Ld L2.GN L2.HH L2.LI L2.zD L2.Hl L2.HI L2.Lz L2.LH L2.Mm L2.HX L2.Fh L2.Lu L2.Py L2.Mp L2.Jy L2.IK L2.Ws L2.pZ L2.HL L2.GT L2.GQ L2.Ll L2.P8 L2.K8 L2.KW L2.JB L2.LK L2.tz L2.Fw L2.Fs L2.Ki L2.Lc L2.Ik L2.Kg L2.Ff L2.P4 L2.LU L2.OD L2.QF L2.W2 L2.WC L2.Qb L2.RC L2.V2 L2.MT L2.Vl L2.We L2.start L2.NY Nat.reduceAdd Nat.reduceSub List.replicate";let a:=f "L2.qN L2.akz L2.a8.l4 L2.a8.iX L2.a8.block L2.a8.q4 L2.a8.a3 L2.abe L2.Zl L2.al3 L2.acn L2.ajy L2.aaE L2.ajE L2.aaY L2.ac9 L2.af' L2.ajG L2.alR L2.aaJ L2.ai5"++c;let b:=c++f "L2.abX L2.XB L2.acK L2.ale L2.anh List.map_cons List.map_nil Option.bind_none Option.bind_some Option.join_some Option.join_none List.length_cons List.length_nil Nat.zero_add List.cons_append List.nil_append List.append_nil List.set_cons_zero List.set_cons_succ List.getElem?_cons_zero List.getElem?_cons_succ Option.some.injEq L2.V.int.injEq L2.V.bB.injEq L2.V.str.injEq L2.V.ref.injEq L2.V.ty.injEq exists_eq_left' exists_eq_left exists_and_left List.cons.injEq and_true true_and and_assoc Int.zero_add reduceCtorEq false_and exists_false and_false ite_true ite_false if_true if_false Bool.false_eq_true L2.Gm L2.zM false_or or_false Bool.not_true Bool.not_false decide_true decide_false";`(tactic|((try dsimp only [$[$a:ident],*]);(try simp only [$[$b:ident],*])))
local macro_rules | `(tactic| walk_at "B")=>`(tactic| first | rfl | (dsimp only [L2.a8.block];done) | (dsimp only [L2.a8.block];exact rfl))
local macro_rules | `(tactic| walk_at "F")=>`(tactic| exact ⟨rfl,rfl,rfl,by ac_nf,rfl,by ac_nf,by ac_nf⟩)
namespace L2
open PySem
theorem cB {P:Program} {w:World} {K:ba} {mg:Str->Option Value} {base:Heap} {C:j1} {m n:Nat} {f a:Addr} {fd b:FuncData} {ps q:List Str} {sp S:bX} (h:cJ P w K mg base C m f fd ps sp) (g:cJ P w K mg base C n f fd ps sp->cJ P w K mg base C (n+1) a b q S) (hm:m<=n:=by decide):cJ P w K mg base C (n+1) a b q S:=g (h.mono hm)
end L2
set_option hygiene false
local macro_rules | `(tactic| walk_at "O")=>`(tactic| (intro vs H Q E h;repeat (first | (obtain ⟨rfl,_⟩:=h;rfl) | (obtain ⟨_,h⟩:=h))))
set_option hygiene true
set_option hygiene false
local macro_rules | `(tactic| ac_rfl)=>`(tactic| refine WI fun tE aV=>?_)
local macro_rules | `(tactic| exists $e,0)=>`(tactic| refine F1 $e (fun gm cC=>?_) fun tE aV=>?_)
local macro_rules | `(tactic| exists $e,2)=>`(tactic| refine F1 $e (fun gm cM=>?_) fun tE aV=>?_)
local macro_rules | `(tactic| exists $e,3)=>`(tactic| refine Ln $e (fun gm cC=>?_) fun tE aV=>?_)
local macro_rules | `(tactic| exists $e,4)=>`(tactic| refine Ln $e (fun D cC=>?_) fun tE aV=>?_)
local macro_rules | `(tactic| exists $e,5)=>`(tactic| refine Ln $e (fun gm cM=>?_) fun tE aV=>?_)
local macro_rules | `(tactic| exists $e,9)=>`(tactic| refine ($e) (by walk_at "O") (fun _ _ _ s H vs Q E ao h=>?_))
set_option hygiene true
namespace My
open PySem L2
local macro_rules|`(~~~$x)=>`(some (L2.V.ref $x))
abbrev iN:List Str:=["self","name"]
abbrev iQ:List Str:=["least","most","members"]
abbrev kn:List Str:=["crossing","rows"]
abbrev kG:List Str:=["self","name","start","end","off","near","least"]
abbrev lb:List Str:=["self","many"]
abbrev pv:List Str:=["self","stages"]
abbrev rF:List Str:=["self","own_asked"]
abbrev rT:List Str:=["crossing","one","other"]
abbrev D2:List Str:=["_law_script","_law_k","_law_many"]
abbrev zq:List Str:=["word","signs","most"]
abbrev Bx:List Str:=["self","good"]
abbrev F4:List Str:=["self","choices"]
abbrev Ig:List Str:=["self","low","high"]
abbrev zK:List Str:=["self","kind","name","start","end","off","near","least"]
abbrev CB:List Str:=["crossing","name"]
abbrev AM:List Str:=["stages","one","other"]
abbrev uz:List Str:=["name","self"]
abbrev D1:List Str:=["places","way","second"]
abbrev Cn:List Str:=["word","most_figures"]
abbrev xO:List Str:=["crossing","text"]
abbrev AX:List Str:=["reader","places","start"]
abbrev z0:List Str:=["sort","name","start","end","off","near","least"]
abbrev xT:List Str:=["self","row","told"]
abbrev xV:List Str:=["self","crossing","rows","one","other"]
abbrev zv:List Str:=["self","asks"]
abbrev zz:List Str:=["self","number"]
abbrev z8:List Str:=["self","name","many"]
abbrev Er:List Str:=["places","way","place"]
abbrev FC:List Str:=["word","low","high"]
abbrev Dn:List Str:=["crossing","first","second","turns","one"]
abbrev Hc:List Str:=["crossing","first","second"]
abbrev Iw:List Str:=["reader","crossing","left"]
abbrev B0:List Str:=["reader","crossing","rows"]
abbrev JU:List Str:=["reader","ways"]
abbrev Dg:List Str:=["reader","places","ways"]
abbrev LA:List Str:=["_law_script","_law_many"]
abbrev CA:List Str:=["_law_script","_law_most"]
abbrev Aj:List Str:=["_law_places","_law_ways_here"]
abbrev JR:List Str:=["_law_one","_law_other","_law_places"]
abbrev IW:List Str:=["_law_ways_here","_law_one","_law_other"]
abbrev B7:List Str:=["_law_script","_law_places","_law_ways_here"]
abbrev En:List Str:=["_law_ways_here","_law_stages_here"]
abbrev Dr:List Str:=["_law_script","_law_turn","_law_ways_here"]
abbrev DG:List Str:=["self","crossing","rows"]
abbrev zU:List Str:=["self","comings"]
abbrev EA:List Str:=["self","places","ways"]
abbrev DA:List Str:=["name","crossing"]
abbrev AP:List Str:=["least","most","members","crossing"]
abbrev z4:List Str:=["_law_i","_law_ways_here"]
abbrev HZ:List Str:=["crossing","rows","told"]
abbrev I6:List Str:=["reader","crossing","left","first","members","alike"]
abbrev Jk:List Str:=["self","waited","same","others","choices","last","many"]
noncomputable def top (i:Nat):Stmt:=PySem.Challenge.pw_lampway_k52_a_road_asks.main.body.getD i (.Pass ⟨0,0,0,0⟩)
noncomputable abbrev RF:Stmt:=top 9
theorem Sl:cq ["places","way","place","steps"] Er (bE RF):=(by walk_at "F")
noncomputable abbrev R5:Stmt:=top 10
theorem aaS:cq D1 D1 (bE R5):=(by walk_at "F")
noncomputable abbrev PR:Stmt:=top 11
theorem HS:cq ["crossing","one","other","way","second"] rT (bE PR):=(by walk_at "F")
noncomputable abbrev Qu:Stmt:=top 12
theorem JQ:cq ["crossing","one","other","way","second"] rT (bE Qu):=(by walk_at "F")
noncomputable abbrev HA:Stmt:=top 18
theorem Zf:cq ["text"] ["text"] (bE HA):=(by walk_at "F")
noncomputable abbrev Tm:Stmt:=top 19
theorem ane:cq zq zq (bE Tm):=(by walk_at "F")
noncomputable abbrev Ng:Stmt:=top 20
theorem alP:cq Cn Cn (bE Ng):=(by walk_at "F")
noncomputable abbrev WE:Stmt:=top 21
theorem Uj:cq ["word","low","high","number"] FC (bE WE):=(by walk_at "F")
noncomputable abbrev Wg:Stmt:=top 22
theorem ZI:cq ["word"] ["word"] (bE Wg):=(by walk_at "F")
noncomputable abbrev GO:Stmt:=top 25
theorem afM:cq ["text"] ["text"] (bE GO):=(by walk_at "F")
noncomputable abbrev U0:Stmt:=top 30
theorem ah3:cq CB CB (bE U0):=(by walk_at "F")
noncomputable abbrev OX:Stmt:=top 31
theorem wQ:cq ["members","homes","number","names","name"] ["members"] (bE OX):=(by walk_at "F")
noncomputable abbrev xF:Stmt:=top 32
theorem LR:cq Dn Hc (bE xF):=(by walk_at "F")
noncomputable abbrev Am:Stmt:=top 33
theorem R9:cq HZ kn (bE Am):=(by walk_at "F")
noncomputable abbrev CC:Stmt:=top 34
theorem Ds:cq I6 Iw (bE CC):=(by walk_at "F")
noncomputable abbrev Tu:Stmt:=top 35
theorem Kv:cq ["reader","crossing","rows","least","most"] B0 (bE Tu):=(by walk_at "F")
noncomputable abbrev S5:Stmt:=top 36
theorem Pd:cq ["crossing","rows","left"] kn (bE S5):=(by walk_at "F")
noncomputable abbrev FQ:Stmt:=top 37
theorem Dh:cq ["crossing","rows","homes","name","number"] kn (bE FQ):=(by walk_at "F")
noncomputable abbrev RW:Stmt:=top 38
theorem x_:cq ["crossing","rows","number","row","one","other"] kn (bE RW):=(by walk_at "F")
noncomputable abbrev P6:Stmt:=top 39
theorem J_:cq ["crossing","text","rows","reader"] xO (bE P6):=(by walk_at "F")
noncomputable abbrev KF:Stmt:=top 40
theorem aj5:cq AM AM (bE KF):=(by walk_at "F")
noncomputable abbrev Wb:Stmt:=top 58
theorem MZ:cq ["reader","places"] ["reader"] (bE Wb):=(by walk_at "F")
noncomputable abbrev Ie:Stmt:=top 59
theorem Vq:cq ["reader","ways","name"] JU (bE Ie):=(by walk_at "F")
noncomputable abbrev MX:Stmt:=top 60
theorem aiP:cq AX AX (bE MX):=(by walk_at "F")
noncomputable abbrev QT:Stmt:=top 61
theorem ab_:cq z0 z0 (bE QT):=(by walk_at "F")
noncomputable abbrev VL:Stmt:=top 62
theorem rt:cq ["reader","places","ways","sort","name","start","end","off","near","least"] Dg (bE VL):=(by walk_at "F")
noncomputable abbrev Ow:Stmt:=top 63
theorem wV:cq ["text","rows","places","ways","reader"] ["text"] (bE Ow):=(by walk_at "F")
noncomputable abbrev Tq:Stmt:=top 65
theorem uB:cq ["_law_script","_law_k","_law_many","_law_cell","_law_seed"] D2 (bE Tq):=(by walk_at "F")
noncomputable abbrev KL:Stmt:=top 66
theorem qX:cq ["_law_script","_law_many","_law_letters","_law_base","_law_way","_law_at","_law_names_here","_law_k","_law_sign"] LA (bE KL):=(by walk_at "F")
noncomputable abbrev Nj:Stmt:=top 67
theorem m8:cq ["_law_script","_law_most","_law_places","_law_names_here","_law_ways_here","_law_k","_law_start","_law_end","_law_sort","_law_off","_law_near"] CA (bE Nj):=(by walk_at "F")
noncomputable abbrev FT:Stmt:=top 68
theorem sn:cq ["_law_places","_law_ways_here","_law_rows","_law_way"] Aj (bE FT):=(by walk_at "F")
noncomputable abbrev V8:Stmt:=top 69
theorem Av:cq ["_law_one","_law_other","_law_places","_law_length","_law_start","_law_end"] JR (bE V8):=(by walk_at "F")
noncomputable abbrev VK:Stmt:=top 70
theorem RV:cq ["_law_ways_here","_law_one","_law_other","_law_tram"] IW (bE VK):=(by walk_at "F")
noncomputable abbrev J0:Stmt:=top 71
theorem k9:cq ["_law_script","_law_places","_law_ways_here","_law_some","_law_k","_law_fits","_law_j","_law_good","_law_i","_law_stages_here","_law_low","_law_more"] B7 (bE J0):=(by walk_at "F")
noncomputable abbrev Lg:Stmt:=top 72
theorem yF:cq ["_law_ways_here","_law_stages_here","_law_rows","_law_low","_law_high","_law_some"] En (bE Lg):=(by walk_at "F")
noncomputable abbrev T6:Stmt:=top 73
theorem uR:cq ["_law_script","_law_turn","_law_ways_here","_law_rate","_law_comings_here","_law_k","_law_name","_law_most"] Dr (bE T6):=(by walk_at "F")
noncomputable abbrev H3:Stmt:=top 74
theorem jH:cq ["_law_script","_law_places","_law_ways_here","_law_stages_here","_law_plan","_law_road","_law_other","_law_keeper","_law_first","_law_stood","_law_way","_law_turn","_law_comings_here","_law_name","_law_many","_law_asks","_law_one"] ["_law_script"] (bE H3):=(by walk_at "F")
noncomputable abbrev RL:Stmt:=ef (top 24) 0
theorem ams:cq xT xT (bE RL):=(by walk_at "F")
noncomputable abbrev NS:Stmt:=ef (top 24) 1
theorem aeD:cq ["self"] ["self"] (bE NS):=(by walk_at "F")
noncomputable abbrev OQ:Stmt:=ef (top 24) 2
theorem ak2:cq ["self"] ["self"] (bE OQ):=(by walk_at "F")
noncomputable abbrev Ti:Stmt:=ef (top 24) 4
theorem afg:cq Bx Bx (bE Ti):=(by walk_at "F")
noncomputable abbrev Th:Stmt:=ef (top 24) 5
theorem Qm:cq ["self","choices","found"] F4 (bE Th):=(by walk_at "F")
noncomputable abbrev Sa:Stmt:=ef (top 24) 6
theorem Qy:cq ["self","low","high","found"] Ig (bE Sa):=(by walk_at "F")
noncomputable abbrev Qq:Stmt:=ef (top 24) 7
theorem afJ:cq ["self"] ["self"] (bE Qq):=(by walk_at "F")
noncomputable abbrev wa:Stmt:=ef (top 29) 0
theorem GK:cq xV DG (bE wa):=(by walk_at "F")
noncomputable abbrev VR:Stmt:=ef (top 42) 0
theorem XJ:cq pv pv (bE VR):=(by walk_at "F")
noncomputable abbrev anc:Stmt:=ef (top 42) 1
noncomputable abbrev Oo:Stmt:=ef (top 42) 3
theorem Gw:cq ["self","colours","name"] ["self"] (bE Oo):=(by walk_at "F")
noncomputable abbrev Rc:Stmt:=ef (top 42) 4
theorem Xi:cq iN iN (bE Rc):=(by walk_at "F")
noncomputable abbrev Tx:Stmt:=ef (top 42) 5
theorem LC:cq ["self","name","way","home"] iN (bE Tx):=(by walk_at "F")
noncomputable abbrev OO:Stmt:=ef (top 42) 6
theorem uV:cq ["self","asks","name","colours","own_asked"] zv (bE OO):=(by walk_at "F")
noncomputable abbrev Od:Stmt:=ef (top 42) 7
theorem YI:cq rF rF (bE Od):=(by walk_at "F")
noncomputable abbrev U8:Stmt:=ef (top 42) 8
theorem afy:cq rF rF (bE U8):=(by walk_at "F")
noncomputable abbrev JN:Stmt:=ef (top 42) 9
theorem ab8:cq ["self"] ["self"] (bE JN):=(by walk_at "F")
noncomputable abbrev uQ:Stmt:=ef (top 42) 10
theorem tn:cq Jk ["self"] (bE uQ):=(by walk_at "F")
noncomputable abbrev O0:Stmt:=ef (top 42) 11
theorem akZ:cq zz zz (bE O0):=(by walk_at "F")
noncomputable abbrev VE:Stmt:=ef (top 42) 12
theorem PC:cq iN ["self"] (bE VE):=(by walk_at "F")
noncomputable abbrev SV:Stmt:=ef (top 44) 0
theorem O':cq ["self","stages","name"] pv (bE SV):=(by walk_at "F")
noncomputable abbrev RO:Stmt:=ef (top 44) 1
theorem afh:cq ["self"] ["self"] (bE RO):=(by walk_at "F")
noncomputable abbrev M_:Stmt:=ef (top 44) 2
theorem ak6:cq ["self"] ["self"] (bE M_):=(by walk_at "F")
noncomputable abbrev LZ:Stmt:=ef (top 44) 3
theorem uF:cq ["self","comings","name","colours","went"] zU (bE LZ):=(by walk_at "F")
noncomputable abbrev TY:Stmt:=ef (top 44) 4
theorem XX:cq z8 z8 (bE TY):=(by walk_at "F")
noncomputable abbrev Oz:Stmt:=ef (top 44) 5
theorem rg:cq ["self","name","left","lots","went","came","many","some"] iN (bE Oz):=(by walk_at "F")
noncomputable abbrev TG:Stmt:=ef (top 46) 0
theorem am4:cq zK zK (bE TG):=(by walk_at "F")
noncomputable abbrev ir:Stmt:=ef (top 47) 0
theorem abQ:cq kG kG (bE ir):=(by walk_at "F")
noncomputable abbrev O7:Stmt:=ef (top 47) 1
theorem ZC:cq ["self"] ["self"] (bE O7):=(by walk_at "F")
noncomputable abbrev Ts:Stmt:=ef (top 47) 2
theorem aiw:cq ["self"] ["self"] (bE Ts):=(by walk_at "F")
noncomputable abbrev Rn:Stmt:=ef (top 47) 3
theorem aev:cq lb lb (bE Rn):=(by walk_at "F")
noncomputable abbrev Qj:Stmt:=ef (top 48) 0
theorem abM:cq kG kG (bE Qj):=(by walk_at "F")
noncomputable abbrev T2:Stmt:=ef (top 48) 1
theorem ajo:cq ["self"] ["self"] (bE T2):=(by walk_at "F")
noncomputable abbrev QC:Stmt:=ef (top 48) 2
theorem aaa:cq ["self"] ["self"] (bE QC):=(by walk_at "F")
noncomputable abbrev NZ:Stmt:=ef (top 48) 3
theorem am6:cq lb lb (bE NZ):=(by walk_at "F")
noncomputable abbrev Nh:Stmt:=ef (top 49) 0
theorem ak3:cq kG kG (bE Nh):=(by walk_at "F")
noncomputable abbrev Q':Stmt:=ef (top 49) 1
theorem adg:cq ["self"] ["self"] (bE Q'):=(by walk_at "F")
noncomputable abbrev VT:Stmt:=ef (top 49) 2
theorem abI:cq ["self"] ["self"] (bE VT):=(by walk_at "F")
noncomputable abbrev Ox:Stmt:=ef (top 49) 3
theorem ajz:cq lb lb (bE Ox):=(by walk_at "F")
noncomputable abbrev R4:Stmt:=ef (top 57) 0
theorem KI:cq ["self","places","ways","number","way"] EA (bE R4):=(by walk_at "F")
noncomputable abbrev Ly:Stmt:=ef (top 57) 1
theorem Z_:cq ["self"] ["self"] (bE Ly):=(by walk_at "F")
noncomputable abbrev Oi:Stmt:=ef (top 57) 2
theorem als:cq iN iN (bE Oi):=(by walk_at "F")
noncomputable abbrev Of:Stmt:=ef (top 57) 3
theorem cr:cq iN iN (bE Of):=(by walk_at "F")
set_option genInjectivity false in
set_option genInjectivity false in
structure bQ where
 {AE Fb As zJ D7 JI KH Hk J3 ya Hz Fv ET KC Gf CL zN Cd A8 xR F2 Ah Hr L3 GA B6 Ei EK E1 Di BE LQ Lv AJ BU Ck JE yl ad zO DH Cf BZ EB y2 vE Ks yc C_ zY zf wf Bj Ai AR CO C4 xK yY xB x1 Dj Dl AV x2 zB Bg DJ Uf Em Dz zH xh D4 Bw Ak wJ uL Ab y4 g8 fD dd fg ly iz ix iy hQ q8:Addr}
 {BM ID B3 Ew zX Me Cl L1 I1 wG Li Hp Fu GW Ch Bd El C5 Ci xN It B4 H5 Ji IM BF z6 DS Mj im am L7 GX Cr AK Ea FM Bu Mg EN E5 Kw IG MP C6 yE Ix Dk Fz Lp Eo Ma LS Le A1 Kj G1 AW z2 Bt BS LY Jf EW zy IB JV HU DF H6 IV Mk AF H9 K3 E9 Ca wN Gg Eh:FuncData}
 {To Oa UI So ut OS O3 RE MV Nn At NP:Value}
structure Txt (w:World) (K:ba) (mg:Str->Option Value) (t:bQ):Prop where
 GE:mg "in_bow"=some (.ref t.AE)
 C3:b_ K "in_bow" "in_bow" RF t.AE t.BM
 ae_:mg "bows_cross"=some (.ref t.Fb)
 Lf:b_ K "bows_cross" "bows_cross" R5 t.Fb t.ID
 IN:mg "meet"=some (.ref t.As)
 B1:b_ K "meet" "meet" PR t.As t.B3
 amc:mg "gap"=some (.ref t.zJ)
 ML:b_ K "gap" "gap" Qu t.zJ t.Ew
 aaC:mg "words"=some (.ref t.D7)
 H2:b_ K "words" "words" HA t.D7 t.zX
 VM:mg "is_made_of"=some (.ref t.JI)
 A0:b_ K "is_made_of" "is_made_of" Tm t.JI t.Me
 aai:mg "is_number"=some (.ref t.KH)
 Wp:b_ K "is_number" "is_number" Ng t.KH t.Cl
 X4:mg "figured"=some (.ref t.Hk)
 LX:b_ K "figured" "figured" WE t.Hk t.L1
 Zz:mg "is_name"=some (.ref t.J3)
 G6:b_ K "is_name" "is_name" Wg t.J3 t.I1
 Pl:mg "readers"=some (.ref t.ya)
 DX:b_ K "readers" "readers" GO t.ya t.wG
 Hs:mg "sort_of"=some (.ref t.Hz)
 wU:b_ K "sort_of" "sort_of" U0 t.Hz t.Li
 Ft:mg "homes_in"=some (.ref t.Fv)
 xv:b_ K "homes_in" "homes_in" OX t.Fv t.Hp
 aan:mg "change_turns"=some (.ref t.ET)
 FH:b_ K "change_turns" "change_turns" xF t.ET t.Fu
 N4:mg "names_left"=some (.ref t.KC)
 Bm:b_ K "names_left" "names_left" Am t.KC t.GW
 alu:mg "read_members"=some (.ref t.Gf)
 LO:b_ K "read_members" "read_members" CC t.Gf t.Ch
 ael:mg "read_stage"=some (.ref t.CL)
 GL:b_ K "read_stage" "read_stage" Tu t.CL t.Bd
 abi:mg "refuse_never"=some (.ref t.zN)
 Lh:b_ K "refuse_never" "refuse_never" S5 t.zN t.El
 akv:mg "refuse_short"=some (.ref t.Cd)
 Kk:b_ K "refuse_short" "refuse_short" FQ t.Cd t.C5
 ZE:mg "refuse_clash"=some (.ref t.A8)
 Hq:b_ K "refuse_clash" "refuse_clash" RW t.A8 t.Ci
 ai6:mg "read_stages"=some (.ref t.xR)
 J2:b_ K "read_stages" "read_stages" P6 t.xR t.xN
 OB:mg "change"=some (.ref t.F2)
 D_:b_ K "change" "change" KF t.F2 t.It
 aby:mg "read_ring"=some (.ref t.Ah)
 jp:b_ K "read_ring" "read_ring" Wb t.Ah t.B4
 wv:mg "read_new_name"=some (.ref t.Hr)
 Jo:b_ K "read_new_name" "read_new_name" Ie t.Hr t.H5
 agD:mg "read_end"=some (.ref t.L3)
 G_:b_ K "read_end" "read_end" MX t.L3 t.Ji
 Yg:mg "made_way"=some (.ref t.GA)
 F3:b_ K "made_way" "made_way" QT t.GA t.IM
 X0:mg "read_way"=some (.ref t.B6)
 E':b_ K "read_way" "read_way" VL t.B6 t.BF
 Zm:mg "read_crossing"=some (.ref t.Ei)
 Hy:b_ K "read_crossing" "read_crossing" Ow t.Ei t.z6
 f6:mg "_law_draw"=some (.ref t.EK)
 fE:b_ K "_law_draw" "_law_draw" Tq t.EK t.DS
 al2:mg "_law_names"=some (.ref t.E1)
 EP:b_ K "_law_names" "_law_names" KL t.E1 t.Mj
 alC:mg "_law_ways"=some (.ref t.Di)
 Ga:b_ K "_law_ways" "_law_ways" Nj t.Di t.im
 afK:mg "_law_text"=some (.ref t.BE)
 F9:b_ K "_law_text" "_law_text" FT t.BE t.am
 Y4:mg "_law_meet"=some (.ref t.LQ)
 Lk:b_ K "_law_meet" "_law_meet" V8 t.LQ t.L7
 SB:mg "_law_alike"=some (.ref t.Lv)
 Kz:b_ K "_law_alike" "_law_alike" VK t.Lv t.GX
 acA:mg "_law_stages"=some (.ref t.AJ)
 Tl:b_ K "_law_stages" "_law_stages" J0 t.AJ t.Cr
 af8:mg "_law_stages_text"=some (.ref t.BU)
 KD:b_ K "_law_stages_text" "_law_stages_text" Lg t.BU t.AK
 amK:mg "_law_comings"=some (.ref t.Ck)
 Fk:b_ K "_law_comings" "_law_comings" T6 t.Ck t.Ea
 AT:mg "law"=some (.ref t.JE)
 akt:b_ K "law" "law" H3 t.JE t.FM
 X9:mg "RowReader"=some (.ref t.g8)
 aqH:c3 K (.ref t.g8) "__init__"=some (some (.ref t.yl))
 RJ:b_ K "__init__" "RowReader.__init__" RL t.yl t.Bu
 aqt:c3 K (.ref t.g8) "ahead"=some (some (.ref t.ad))
 S8:b_ K "ahead" "RowReader.ahead" NS t.ad t.Mg
 aou:c3 K (.ref t.g8) "has_more"=some (some (.ref t.zO))
 Ta:b_ K "has_more" "RowReader.has_more" OQ t.zO t.EN
 aog:c3 K (.ref t.g8) "take"=some (some (.ref t.DH))
 OE:b_ K "take" "RowReader.take" Ti t.DH t.E5
 apG:c3 K (.ref t.g8) "one_of"=some (some (.ref t.Cf))
 PJ:b_ K "one_of" "RowReader.one_of" Th t.Cf t.Kw
 anJ:c3 K (.ref t.g8) "figures"=some (some (.ref t.BZ))
 Uw:b_ K "figures" "RowReader.figures" Sa t.BZ t.IG
 anG:c3 K (.ref t.g8) "finish"=some (some (.ref t.EB))
 N5:b_ K "finish" "RowReader.finish" Qq t.EB t.MP
 dL:mg "Stages"=some (.ref t.fD)
 aov:c3 K (.ref t.fD) "__init__"=some (some (.ref t.y2))
 Xb:b_ K "__init__" "Stages.__init__" wa t.y2 t.C6
 U9:mg "Keeper"=some (.ref t.dd)
 aqm:c3 K (.ref t.dd) "__init__"=some (some (.ref t.vE))
 SN:b_ K "__init__" "Keeper.__init__" VR t.vE t.yE
 aoX:c3 K (.ref t.dd) "stage"=some (some (.ref t.Ks))
 aoo:b_ K "stage" "Keeper.stage" anc t.Ks t.Ix
 aoe:c3 K (.ref t.dd) "shown"=some (some (.ref t.yc))
 Do:b_ K "shown" "Keeper.shown" Oo t.yc t.Dk
 apD:c3 K (.ref t.dd) "stage_colour"=some (some (.ref t.C_))
 Q3:b_ K "stage_colour" "Keeper.stage_colour" Rc t.C_ t.Fz
 ao':c3 K (.ref t.dd) "change_colour"=some (some (.ref t.zY))
 TF:b_ K "change_colour" "Keeper.change_colour" Tx t.zY t.Lp
 aoi:c3 K (.ref t.dd) "pass_turn"=some (some (.ref t.zf))
 R2:b_ K "pass_turn" "Keeper.pass_turn" OO t.zf t.Eo
 an7:c3 K (.ref t.dd) "settle"=some (some (.ref t.wf))
 WW:b_ K "settle" "Keeper.settle" Od t.wf t.Ma
 aqh:c3 K (.ref t.dd) "stays"=some (some (.ref t.Bj))
 P_:b_ K "stays" "Keeper.stays" U8 t.Bj t.LS
 ap0:c3 K (.ref t.dd) "tram_waits"=some (some (.ref t.Ai))
 Pi:b_ K "tram_waits" "Keeper.tram_waits" JN t.Ai t.Le
 an6:c3 K (.ref t.dd) "pick"=some (some (.ref t.AR))
 PH:b_ K "pick" "Keeper.pick" uQ t.AR t.A1
 aqs:c3 K (.ref t.dd) "leave_for"=some (some (.ref t.CO))
 Px:b_ K "leave_for" "Keeper.leave_for" O0 t.CO t.Kj
 anZ:c3 K (.ref t.dd) "show_sought"=some (some (.ref t.C4))
 ii:b_ K "show_sought" "Keeper.show_sought" VE t.C4 t.G1
 Po:mg "Road"=some (.ref t.fg)
 aqo:c3 K (.ref t.fg) "__init__"=some (some (.ref t.xK))
 sw:b_ K "__init__" "Road.__init__" SV t.xK t.AW
 apo:c3 K (.ref t.fg) "shown"=some (some (.ref t.yY))
 V':b_ K "shown" "Road.shown" RO t.yY t.z2
 aoW:c3 K (.ref t.fg) "queues"=some (some (.ref t.xB))
 NI:b_ K "queues" "Road.queues" M_ t.xB t.Bt
 ap7:c3 K (.ref t.fg) "pass_turn"=some (some (.ref t.x1))
 lm:b_ K "pass_turn" "Road.pass_turn" LZ t.x1 t.BS
 aqw:c3 K (.ref t.fg) "come"=some (some (.ref t.Dj))
 Nt:b_ K "come" "Road.come" TY t.Dj t.LY
 KM:c3 K (.ref t.fg) "let_go"=some (some (.ref t.Dl))
 Q2:b_ K "let_go" "Road.let_go" Oz t.Dl t.Jf
 GF:mg "Way"=some (.ref t.ly)
 apB:c3 K (.ref t.ly) "__init__"=some (some (.ref t.AV))
 Sb:b_ K "__init__" "Way.__init__" TG t.AV t.EW
 ai9:mg "CarWay"=some (.ref t.iz)
 aox:c3 K (.ref t.iz) "__init__"=some (some (.ref t.x2))
 S4:b_ K "__init__" "CarWay.__init__" ir t.x2 t.zy
 apa:c3 K (.ref t.iz) "ready"=some (some (.ref t.zB))
 O_:b_ K "ready" "CarWay.ready" O7 t.zB t.IB
 apU:c3 K (.ref t.iz) "fade"=some (some (.ref t.Bg))
 VV:b_ K "fade" "CarWay.fade" Ts t.Bg t.JV
 ao0:c3 K (.ref t.iz) "goes"=some (some (.ref t.DJ))
 T3:b_ K "goes" "CarWay.goes" Rn t.DJ t.HU
 amv:mg "FootWay"=some (.ref t.ix)
 apP:c3 K (.ref t.ix) "__init__"=some (some (.ref t.Uf))
 Rl:b_ K "__init__" "FootWay.__init__" Qj t.Uf t.DF
 ap3:c3 K (.ref t.ix) "ready"=some (some (.ref t.Em))
 Xe:b_ K "ready" "FootWay.ready" T2 t.Em t.H6
 apH:c3 K (.ref t.ix) "fade"=some (some (.ref t.Dz))
 Vi:b_ K "fade" "FootWay.fade" QC t.Dz t.IV
 aoK:c3 K (.ref t.ix) "goes"=some (some (.ref t.zH))
 Sk:b_ K "goes" "FootWay.goes" NZ t.zH t.Mk
 ag1:mg "TramWay"=some (.ref t.iy)
 an9:c3 K (.ref t.iy) "__init__"=some (some (.ref t.xh))
 Go:b_ K "__init__" "TramWay.__init__" Nh t.xh t.AF
 aoB:c3 K (.ref t.iy) "ready"=some (some (.ref t.D4))
 Qg:b_ K "ready" "TramWay.ready" Q' t.D4 t.H9
 apJ:c3 K (.ref t.iy) "fade"=some (some (.ref t.Bw))
 Su:b_ K "fade" "TramWay.fade" VT t.Bw t.K3
 aph:c3 K (.ref t.iy) "goes"=some (some (.ref t.Ak))
 Wq:b_ K "goes" "TramWay.goes" Ox t.Ak t.E9
 aam:mg "Crossing"=some (.ref t.hQ)
 apQ:c3 K (.ref t.hQ) "__init__"=some (some (.ref t.wJ))
 PM:b_ K "__init__" "Crossing.__init__" R4 t.wJ t.Ca
 ao1:c3 K (.ref t.hQ) "names"=some (some (.ref t.uL))
 Q4:b_ K "names" "Crossing.names" Ly t.uL t.wN
 aoE:c3 K (.ref t.hQ) "number"=some (some (.ref t.Ab))
 WK:b_ K "number" "Crossing.number" Oi t.Ab t.Gg
 aqv:c3 K (.ref t.hQ) "called"=some (some (.ref t.y4))
 VF:b_ K "called" "Crossing.called" Of t.y4 t.Eh
 f9:hl K t.g8
 acq:pn K t.g8 t.yl
 BJ:eW K t.g8 "ahead" t.ad
 VQ:eW K t.g8 "has_more" t.zO
 J8:eW K t.g8 "take" t.DH
 wF:eW K t.g8 "one_of" t.Cf
 q0:eW K t.g8 "figures" t.BZ
 VW:eW K t.g8 "finish" t.EB
 ahr:cY K t.g8 "row"
 W4:cY K t.g8 "told"
 FF:cY K t.g8 "place"
 jK:hl K t.fD
 ahi:pn K t.fD t.y2
 OF:cY K t.fD "crossing"
 OY:cY K t.fD "many"
 OH:cY K t.fD "leasts"
 zn:cY K t.fD "mosts"
 KQ:cY K t.fD "members"
 Qz:cY K t.fD "sorts"
 SI:cY K t.fD "homes"
 Uq:cY K t.fD "changes"
 eN:hl K t.dd
 MQ:pn K t.dd t.vE
 apF:eW K t.dd "stage" t.Ks
 CP:eW K t.dd "shown" t.yc
 agr:eW K t.dd "stage_colour" t.C_
 agF:eW K t.dd "change_colour" t.zY
 UB:eW K t.dd "pass_turn" t.zf
 acv:eW K t.dd "settle" t.wf
 Xz:eW K t.dd "stays" t.Bj
 aaT:eW K t.dd "tram_waits" t.Ai
 ahd:eW K t.dd "pick" t.AR
 Ym:eW K t.dd "leave_for" t.CO
 S':eW K t.dd "show_sought" t.C4
 Ri:cY K t.dd "stages"
 A_:cY K t.dd "showing"
 z9:cY K t.dd "lasted"
 GU:cY K t.dd "left"
 KJ:cY K t.dd "sought"
 Cs:cY K t.dd "gone"
 Tk:cY K t.dd "waiting"
 WB:cY K t.dd "picked"
 jl:hl K t.fg
 QZ:pn K t.fg t.xK
 BB:eW K t.fg "shown" t.yY
 amr:eW K t.fg "queues" t.xB
 ah6:eW K t.fg "pass_turn" t.x1
 amT:eW K t.fg "come" t.Dj
 XC:eW K t.fg "let_go" t.Dl
 NJ:cY K t.fg "crossing"
 Tt:cY K t.fg "keeper"
 Gb:cY K t.fg "turn"
 SW:cY K t.fg "standing"
 Nm:cY K t.fg "lots"
 an8:hl K t.ly
 aqF:cY K t.ly "kind"
 aqD:cY K t.ly "name"
 aoM:cY K t.ly "start"
 ap4:cY K t.ly "end"
 aqx:cY K t.ly "off"
 aoQ:cY K t.ly "near"
 ao8:cY K t.ly "least"
 BL:hl K t.iz
 aiU:pn K t.iz t.x2
 akj:eW K t.iz "ready" t.zB
 XM:eW K t.iz "fade" t.Bg
 abR:eW K t.iz "goes" t.DJ
 adm:cY K t.iz "kind"
 afq:cY K t.iz "name"
 af_:cY K t.iz "start"
 ae6:cY K t.iz "end"
 agt:cY K t.iz "off"
 anf:cY K t.iz "near"
 adK:cY K t.iz "least"
 Cp:hl K t.ix
 Y3:pn K t.ix t.Uf
 afT:eW K t.ix "ready" t.Em
 ak7:eW K t.ix "fade" t.Dz
 abN:eW K t.ix "goes" t.zH
 aeE:cY K t.ix "kind"
 amM:cY K t.ix "name"
 YE:cY K t.ix "start"
 aj9:cY K t.ix "end"
 amO:cY K t.ix "off"
 akQ:cY K t.ix "near"
 ahh:cY K t.ix "least"
 z_:hl K t.iy
 agI:pn K t.iy t.xh
 YZ:eW K t.iy "ready" t.D4
 al0:eW K t.iy "fade" t.Bw
 ac0:eW K t.iy "goes" t.Ak
 ai8:cY K t.iy "kind"
 lv:cY K t.iy "name"
 YR:cY K t.iy "start"
 aaO:cY K t.iy "end"
 Xw:cY K t.iy "off"
 XG:cY K t.iy "near"
 YT:cY K t.iy "least"
 gZ:hl K t.hQ
 amw:pn K t.hQ t.wJ
 sO:eW K t.hQ "names" t.uL
 ade:eW K t.hQ "number" t.Ab
 lc:eW K t.hQ "called" t.y4
 Xf:cY K t.hQ "places"
 Ve:cY K t.hQ "ways"
 PT:cY K t.hQ "numbers"
 aqI:t.ly ≠ t.iz
 apg:t.ly ≠ t.ix
 aqp:t.ly ≠ t.iy
 Pu:t.iz ≠ t.ix
 R6:t.iz ≠ t.iy
 UN:t.ix ≠ t.iy
 L4:W0 K t.ly "__init__" t.AV
 amG:mg "FIGURES"=some t.To
 aeW:bK (.str (ab "0123456789")) t.To
 aa4:mg "LEAST_PLACES"=some t.Oa
 adE:bK (.int 2) t.Oa
 sK:mg "LETTERS"=some t.UI
 XR:bK (.str (ab "abcdefghijklmnopqrstuvwxyz")) t.UI
 amA:mg "MOST_FIGURES"=some t.So
 anq:bK (.int 3) t.So
 anw:mg "MOST_LEAST"=some t.ut
 amI:bK (.int 60) t.ut
 agH:mg "MOST_LETTERS"=some t.OS
 af2:bK (.int 8) t.OS
 ahQ:mg "MOST_NEAR"=some t.O3
 afp:bK (.int 30) t.O3
 akb:mg "MOST_OFF"=some t.RE
 X3:bK (.int 30) t.RE
 aih:mg "MOST_PLACES"=some t.MV
 aa':bK (.int 99) t.MV
 aef:mg "MOST_STAGES"=some t.Nn
 ahW:bK (.int 6) t.Nn
 PS:mg "MOST_TURNS"=some t.At
 Sm:bK (.int 60) t.At
 Xl:mg "MOST_WAYS"=some t.NP
 amD:bK (.int 12) t.NP
 Za:mg "all"=none
 ag8:mg "any"=none
 adq:mg "dict"=none
 Bh:mg "enumerate"=none
 Jz:mg "int"=none
 iI:mg "len"=none
 se:mg "list"=none
 J7:mg "max"=none
 C9:mg "min"=none
 o':mg "range"=none
 w2:mg "str"=none
 ZT:mg "sum"=none
 ahk:t.A1.code=.ref t.q8
 aiY:∀ (s:Shared) (u:Value),BindsTo s t.FM ⟨[u],[]⟩ [("_law_script",u)]
section
variable {w:World} {K:ba} {mg:Str->Option Value} {t:bQ} (T:Txt w K mg t)
include T
theorem Txt.QX:b6 K t.BM Er []:=T.C3.binds fun _ _ _ _ _ _=>ib fun _ _ _=>rfl
theorem Txt.al8:b6 K t.ID D1 []:=T.Lf.binds fun _ _ _ _ _ _=>ib fun _ _ _=>rfl
theorem Txt.SU:b6 K t.B3 rT []:=T.B1.binds fun _ _ _ _ _ _=>ib fun _ _ _=>rfl
theorem Txt.wS:b6 K t.Ew rT []:=T.ML.binds fun _ _ _ _ _ _=>ib fun _ _ _=>rfl
theorem Txt.akS:b6 K t.zX ["text"] []:=T.H2.binds fun _ _ _ _ _ _=>h9 fun _=>rfl
theorem Txt.TK:b6 K t.Me zq []:=T.A0.binds fun _ _ _ _ _ _=>ib fun _ _ _=>rfl
theorem Txt.aeS:b6 K t.Cl Cn []:=T.Wp.binds fun _ _ _ _ _ _=>gv fun _ _=>rfl
theorem Txt.af0:b6 K t.L1 FC []:=T.LX.binds fun _ _ _ _ _ _=>ib fun _ _ _=>rfl
theorem Txt.abd:b6 K t.I1 ["word"] []:=T.G6.binds fun _ _ _ _ _ _=>h9 fun _=>rfl
theorem Txt.OZ:b6 K t.wG ["text"] []:=T.DX.binds fun _ _ _ _ _ _=>h9 fun _=>rfl
theorem Txt.Hx:b6 K t.Li CB []:=T.wU.binds fun _ _ _ _ _ _=>gv fun _ _=>rfl
theorem Txt.EM:b6 K t.Hp ["members"] []:=T.xv.binds fun _ _ _ _ _ _=>h9 fun _=>rfl
theorem Txt.Z8:b6 K t.Fu Hc []:=T.FH.binds fun _ _ _ _ _ _=>ib fun _ _ _=>rfl
theorem Txt.US:b6 K t.GW kn []:=T.Bm.binds fun _ _ _ _ _ _=>gv fun _ _=>rfl
theorem Txt.X5:b6 K t.Ch Iw []:=T.LO.binds fun _ _ _ _ _ _=>ib fun _ _ _=>rfl
theorem Txt.amU:b6 K t.Bd B0 []:=T.GL.binds fun _ _ _ _ _ _=>ib fun _ _ _=>rfl
theorem Txt.YQ:b6 K t.El kn []:=T.Lh.binds fun _ _ _ _ _ _=>gv fun _ _=>rfl
theorem Txt.aj0:b6 K t.C5 kn []:=T.Kk.binds fun _ _ _ _ _ _=>gv fun _ _=>rfl
theorem Txt.akL:b6 K t.Ci kn []:=T.Hq.binds fun _ _ _ _ _ _=>gv fun _ _=>rfl
theorem Txt.aiZ:b6 K t.xN xO []:=T.J2.binds fun _ _ _ _ _ _=>gv fun _ _=>rfl
theorem Txt.Ou:b6 K t.It AM []:=T.D_.binds fun _ _ _ _ _ _=>ib fun _ _ _=>rfl
theorem Txt.aj7:b6 K t.B4 ["reader"] []:=T.jp.binds fun _ _ _ _ _ _=>h9 fun _=>rfl
theorem Txt.aeV:b6 K t.H5 JU []:=T.Jo.binds fun _ _ _ _ _ _=>gv fun _ _=>rfl
theorem Txt.akJ:b6 K t.Ji AX []:=T.G_.binds fun _ _ _ _ _ _=>ib fun _ _ _=>rfl
theorem Txt.ahq:b6 K t.IM z0 []:=T.F3.binds fun _ _ _ _ _ _=>BV fun _ _ _ _ _ _ _=>rfl
theorem Txt.Xn:b6 K t.BF Dg []:=T.E'.binds fun _ _ _ _ _ _=>ib fun _ _ _=>rfl
theorem Txt.ac6:b6 K t.z6 ["text"] []:=T.Hy.binds fun _ _ _ _ _ _=>h9 fun _=>rfl
theorem Txt.f7:b6 K t.DS D2 []:=T.fE.binds fun _ _ _ _ _ _=>ib fun _ _ _=>rfl
theorem Txt.amW:b6 K t.Mj LA []:=T.EP.binds fun _ _ _ _ _ _=>gv fun _ _=>rfl
theorem Txt.adv:b6 K t.im CA []:=T.Ga.binds fun _ _ _ _ _ _=>gv fun _ _=>rfl
theorem Txt.amq:b6 K t.am Aj []:=T.F9.binds fun _ _ _ _ _ _=>gv fun _ _=>rfl
theorem Txt.TD:b6 K t.L7 JR []:=T.Lk.binds fun _ _ _ _ _ _=>ib fun _ _ _=>rfl
theorem Txt.Z1:b6 K t.GX IW []:=T.Kz.binds fun _ _ _ _ _ _=>ib fun _ _ _=>rfl
theorem Txt.abF:b6 K t.Cr B7 []:=T.Tl.binds fun _ _ _ _ _ _=>ib fun _ _ _=>rfl
theorem Txt.ach:b6 K t.AK En []:=T.KD.binds fun _ _ _ _ _ _=>gv fun _ _=>rfl
theorem Txt.ac':b6 K t.Ea Dr []:=T.Fk.binds fun _ _ _ _ _ _=>ib fun _ _ _=>rfl
theorem Txt.ad6:b6 K t.Bu xT []:=T.RJ.binds fun _ _ _ _ _ _=>ib fun _ _ _=>rfl
theorem Txt.Ey:b6 K t.Mg ["self"] []:=T.S8.binds fun _ _ _ _ _ _=>h9 fun _=>rfl
theorem Txt.TU:b6 K t.EN ["self"] []:=T.Ta.binds fun _ _ _ _ _ _=>h9 fun _=>rfl
theorem Txt.FZ:b6 K t.E5 Bx []:=T.OE.binds fun _ _ _ _ _ _=>gv fun _ _=>rfl
theorem Txt.ze:b6 K t.Kw F4 []:=T.PJ.binds fun _ _ _ _ _ _=>gv fun _ _=>rfl
theorem Txt.rv:b6 K t.IG Ig []:=T.Uw.binds fun _ _ _ _ _ _=>ib fun _ _ _=>rfl
theorem Txt.QO:b6 K t.MP ["self"] []:=T.N5.binds fun _ _ _ _ _ _=>h9 fun _=>rfl
theorem Txt.air:b6 K t.C6 DG []:=T.Xb.binds fun _ _ _ _ _ _=>ib fun _ _ _=>rfl
theorem Txt.UR:b6 K t.yE pv []:=T.SN.binds fun _ _ _ _ _ _=>gv fun _ _=>rfl
theorem Txt.zV:b6 K t.Dk ["self"] []:=T.Do.binds fun _ _ _ _ _ _=>h9 fun _=>rfl
theorem Txt.adP:b6 K t.Fz iN []:=T.Q3.binds fun _ _ _ _ _ _=>gv fun _ _=>rfl
theorem Txt.ahJ:b6 K t.Lp iN []:=T.TF.binds fun _ _ _ _ _ _=>gv fun _ _=>rfl
theorem Txt.W8:b6 K t.Eo zv []:=T.R2.binds fun _ _ _ _ _ _=>gv fun _ _=>rfl
theorem Txt.ahI:b6 K t.Ma rF []:=T.WW.binds fun _ _ _ _ _ _=>gv fun _ _=>rfl
theorem Txt.al':b6 K t.LS rF []:=T.P_.binds fun _ _ _ _ _ _=>gv fun _ _=>rfl
theorem Txt.ad8:b6 K t.Le ["self"] []:=T.Pi.binds fun _ _ _ _ _ _=>h9 fun _=>rfl
theorem Txt.akW:b6 K t.A1 ["self"] []:=T.PH.binds fun _ _ _ _ _ _=>h9 fun _=>rfl
theorem Txt.afQ:b6 K t.Kj zz []:=T.Px.binds fun _ _ _ _ _ _=>gv fun _ _=>rfl
theorem Txt.PB:b6 K t.G1 ["self"] []:=T.ii.binds fun _ _ _ _ _ _=>h9 fun _=>rfl
theorem Txt.Sf:b6 K t.AW pv []:=T.sw.binds fun _ _ _ _ _ _=>gv fun _ _=>rfl
theorem Txt.DR:b6 K t.z2 ["self"] []:=T.V'.binds fun _ _ _ _ _ _=>h9 fun _=>rfl
theorem Txt.Y0:b6 K t.Bt ["self"] []:=T.NI.binds fun _ _ _ _ _ _=>h9 fun _=>rfl
theorem Txt.adk:b6 K t.BS zU []:=T.lm.binds fun _ _ _ _ _ _=>gv fun _ _=>rfl
theorem Txt.alo:b6 K t.LY z8 []:=T.Nt.binds fun _ _ _ _ _ _=>ib fun _ _ _=>rfl
theorem Txt.agC:b6 K t.Jf iN []:=T.Q2.binds fun _ _ _ _ _ _=>gv fun _ _=>rfl
theorem Txt.Os:b6 K t.EW zK []:=T.Sb.binds fun _ _ _ _ _ _=>acp fun _ _ _ _ _ _ _ _=>rfl
theorem Txt.alf:b6 K t.zy kG []:=T.S4.binds fun _ _ _ _ _ _=>BV fun _ _ _ _ _ _ _=>rfl
theorem Txt.alh:b6 K t.IB ["self"] []:=T.O_.binds fun _ _ _ _ _ _=>h9 fun _=>rfl
theorem Txt.ami:b6 K t.JV ["self"] []:=T.VV.binds fun _ _ _ _ _ _=>h9 fun _=>rfl
theorem Txt.aez:b6 K t.HU lb []:=T.T3.binds fun _ _ _ _ _ _=>gv fun _ _=>rfl
theorem Txt.ah_:b6 K t.DF kG []:=T.Rl.binds fun _ _ _ _ _ _=>BV fun _ _ _ _ _ _ _=>rfl
theorem Txt.amm:b6 K t.H6 ["self"] []:=T.Xe.binds fun _ _ _ _ _ _=>h9 fun _=>rfl
theorem Txt.aib:b6 K t.IV ["self"] []:=T.Vi.binds fun _ _ _ _ _ _=>h9 fun _=>rfl
theorem Txt.Zi:b6 K t.Mk lb []:=T.Sk.binds fun _ _ _ _ _ _=>gv fun _ _=>rfl
theorem Txt.afR:b6 K t.AF kG []:=T.Go.binds fun _ _ _ _ _ _=>BV fun _ _ _ _ _ _ _=>rfl
theorem Txt.Ev:b6 K t.H9 ["self"] []:=T.Qg.binds fun _ _ _ _ _ _=>h9 fun _=>rfl
theorem Txt.aks:b6 K t.K3 ["self"] []:=T.Su.binds fun _ _ _ _ _ _=>h9 fun _=>rfl
theorem Txt.ajC:b6 K t.E9 lb []:=T.Wq.binds fun _ _ _ _ _ _=>gv fun _ _=>rfl
theorem Txt.ai':b6 K t.Ca EA []:=T.PM.binds fun _ _ _ _ _ _=>ib fun _ _ _=>rfl
theorem Txt.su:b6 K t.wN ["self"] []:=T.Q4.binds fun _ _ _ _ _ _=>h9 fun _=>rfl
theorem Txt.aaX:b6 K t.Gg iN []:=T.WK.binds fun _ _ _ _ _ _=>gv fun _ _=>rfl
theorem Txt.mh:b6 K t.Eh iN []:=T.VF.binds fun _ _ _ _ _ _=>gv fun _ _=>rfl
end
noncomputable def dF (ns:List Int) (k m:Int):Int:=
 ((((if 0 < (ns.length:Int) then ns.getD (k % (ns.length:Int)).toNat 0 else 0) % 1000003 + 31 * k * k + 1) * 48271 % 999983 * 7919) % 524287) % m
theorem be (ns:List Int) (k:Int) (h:0 < m):0 <= dF ns k m:=BY _ (by omega)
theorem hK (ns:List Int) (k:Int) (h:0 < m):dF ns k m < m:=C0 _ h
def jc (K:ba) (a:Addr) (ns:List Int):bX:=fun vs H Q _=>∃ k m,vs=[.ref a,.int k,.int m]/\Sc K a ns H/\(0 <= k/\k < 1000000)/\0 < m/\Q (.int (dF ns k m)) H
variable {P:Program} {w:World} {K:ba} {mg:Str->Option Value} {base:Heap} {t:bQ}
abbrev cv (P:Program) (base:Heap) {w:World} {K:ba} {mg:Str->Option Value} {t:bQ} (_:Txt w K mg t):=cJ P w K mg base dt
variable (T:Txt w K mg t)
theorem Md (a:Addr) (ns:List Int) (hZ:ns.length <= 63):cv P base T 1 t.EK t.DS D2 (jc K a ns):=by
 exists T.fE.ok uB,9
 obtain ⟨k,m,rfl,S,⟨h0,af⟩,hm,q⟩:=h;refine ⟨_,(aP (cg (i:=3) uB.aH (vq (du ot (gi i9 rfl T.iI iT (ai (U 0) aE)) aM (cR _)) (cE ed (U 0) (bP i' (U 1) (gi i9 rfl T.iI iT (ai (U 0) aE)))) aM))
   (aP (cg (i:=4) uB.aH (bP ez (bP ez (bP i' (U 3) aM) (bP jG (bP jG aM (U 1)) (U 1))) aM))
   (a6 (cz (bP i' (bP i' (bP jG (bP i' (bP jG (U 4) aM) aM) aM) aM) (U 2)))))),?_⟩
 nofun;refine ⟨_,.inl S.seq,?_⟩;rw [aO];have ah':(0:Int) <= k * k/\k * k < 1000000 * 1000000:=⟨akV h0 h0,afP (by omega) af h0 (by decide)⟩;have fin:∀ i:Int,(0:Int) < 1000003/\nE 31 k/\nE (31 * k) k/\nE (i % 1000003 + 31 * k * k + 1) 48271/\(0:Int) < 999983/\nE ((i % 1000003 + 31 * k * k + 1) * 48271 % 999983) 7919/\(0:Int) < 524287/\0 < m:=by
  intro i;refine ⟨by decide,.inl (by decide),.inr (by omega),.inr (by decide),by decide,.inr (by decide),by decide,hm⟩
 by_cases c:(0:Int) < (ns.length:Int)
 .rw [if_pos (decide_eq_true c)];have aC:0 <= k % (ns.length:Int)/\k % (ns.length:Int) < (ns.length:Int):=⟨BY _ (by omega),C0 _ c⟩;refine ⟨_,.inl S.seq,by rw [aO];exact c,_,S.seq,?_⟩;rw [aO];have aL:(k % (ns.length:Int)).toNat < ns.length:=by omega
  refine ⟨.int ns[(k % (ns.length:Int)).toNat],?_,_,rfl,?_⟩
  .have e:=cy (xs:=ns.map V.int) (j:=(k % (ns.length:Int)).toNat) (v:=.int ns[(k % (ns.length:Int)).toNat]) (by rw [dO,bo aL] <;> rfl);rwa [rP aC.1] at e
  .obtain ⟨f1,f2,eM,f4,e7,nR,lY,f8⟩:=fin ns[(k % (ns.length:Int)).toNat];refine ⟨f1,f2,eM,f4,e7,nR,lY,f8,?_⟩;have e:dF ns k m=(((ns[(k % (ns.length:Int)).toNat] % 1000003 + 31 * k * k + 1) * 48271 % 999983 * 7919) % 524287) % m:=by
    unfold dF;rw [if_pos c,j_,bo aL];rfl
   rw [<- e];exact q
 .rw [if_neg (by simpa using c)];obtain ⟨f1,f2,eM,f4,e7,nR,lY,f8⟩:=fin 0;refine ⟨f1,f2,eM,f4,e7,nR,lY,f8,?_⟩;have e:dF ns k m=(((0 % 1000003 + 31 * k * k + 1) * 48271 % 999983 * 7919) % 524287) % m:=by
   unfold dF;rw [if_neg c]
  rw [<- e];exact q
theorem DU {w:Str}:w=ab "" ↔ w.length=0:=by
 constructor
 .rintro rfl;ac_nf
 .intro h;have e:w.cps=#[]:=Array.eq_empty_of_size_eq_zero h;have aG:(ab "").cps=#[]:=by ac_nf
  cases w;cases ak:ab "";rw [ak] at aG;simp only at e aG;rw [e,aG]
noncomputable def vS (bL:Str) (c:Nat):Bool:=!(tr bL (jq c) 0 bL.length 1).isEmpty
theorem FP (bL:Str) (c:Nat):vS bL c=decide (c ∈ bL.cps.toList):=StrLaws.found_one bL c
noncomputable def made (w bL:Str) (m:Int):Bool:=if w=ab "" then false else if m < (w.length:Int) then false else w.cps.toList.all (vS bL)
def Gk:bX:=fun vs H Q _=>∃ w bL m,vs=[.str w,.str bL,.int m]/\w.length <= 1000/\aI H/\Q (.bB (made w bL m)) H
def xL:bX:=fun vs H Q _=>∃ w bL m,vs=[.str w,.str bL,.int m]/\w.length <= 1000/\∀ I,aN H I->Q (.bB (made w bL m)) I
theorem TL:cv P base T 1 t.JI t.Me zq Gk:=by
 refine cJ.forget (sp:=xL) ?_ fun vs H Q E h=>?_
 .exists T.A0.ok ane,9
  obtain ⟨w,bL,m,rfl,aW,q⟩:=h;have gY:w.length <= sizeLine:=c7 aW (by decide);refine ⟨_,(aP (en (iC.pt (sv (du fA (U 0) dD (cR _)) (t9 (du ot (gi KB rfl T.iI iT (ai (U 0) aE)) (U 2) (cR _))))) (a6 (cz ox)) fe)
   (a6 (cz (gi (GM rfl) rfl T.Za afb (ai (ij rfl (ahX (U 0)) (g0 (sc:=bE Tm) rfl (by ac_nf)) (N:=["sign","signs"]) (sel:=[none,some 1]) (gO (M:=zq) (by ac_nf)) (fP.of (fun _ _ _ _=>(cu (i:=0) (eJ (N:=["sign","signs"]) (by ac_nf) rfl))) (fun _ _ _ _=>⟨_,i0,by walk_at "B"⟩) (fun _ _ _ _=>⟨_,(ie adl (U 0) (U 1) (by with_unfolding_all rfl)),by walk_at "B"⟩))) aE))))),?_⟩
  nofun;refine eg (decide (w=ab "") || decide (m < (w.length:Int))) (fun Q a9=>?_) (fun aa=>?_) (fun aa=>?_)
  .nofun;by_cases c:w=ab ""
   .rw [if_pos (decide_eq_true c)];rw [decide_eq_true c,tI] at a9;exact a9
   .rw [if_neg (by simpa using c)];rw [decide_eq_false c,lF] at a9;exact ⟨gY,a9⟩
  .nofun;have e:made w bL m=false:=by
    unfold made;simp only [yH,decide_eq_true_eq] at aa;by_cases c:w=ab ""
    .rw [if_pos c]
    .rw [if_neg c,if_pos (aa.resolve_left c)]
   have:=q H (aN.refl H);rw [e] at this;exact this
  .nofun;have e:made w bL m=w.cps.toList.all (vS bL):=by
    unfold made;simp only [Aa,decide_eq_false_iff_not] at aa;rw [if_neg aa.1,if_neg aa.2]
   refine dg.ady (fun x=>match x with | .str y=>.bB (!(tr bL y 0 bL.length 1).isEmpty) | _=>.b') (by rw [RM];exact gY) (fun i x N ag bu=>?_) (fun p aq=>?_)
   .unfold nU at ag;rw [dO] at ag;cases ay:w.cps.toList[i]? with
    | none=>rw [ay] at ag;cases ag
    | some c=>
     rw [ay] at ag;have d_:V.str (jq c)=x:=dX ag;subst d_;nofun;exact ⟨Sub.name,bu⟩
   .refine ⟨p,rfl,w.cps.toList.map (vS bL),aF.of ?_,?_⟩
    .rw [db];unfold nU;rw [nr,nr];rfl
    .have:=q (upd H p (.lst (oJ (fun x=>match x with | .str y=>.bB (!(tr bL y 0 bL.length 1).isEmpty) | _=>.b') (nU w)))) (bf aq);rw [e] at this;rw [List.all_map];exact this
 .obtain ⟨w,bL,m,e,aW,bG,q⟩:=h;exact ⟨bG,w,bL,m,e,aW,fun I bg=>⟨bg,q⟩⟩
noncomputable abbrev s8:Str:=ab "0123456789"
noncomputable def mn (c:Nat):Bool:=decide (48 <= c/\c <= 57)
theorem XK:s8.cps.toList=[48,49,50,51,52,53,54,55,56,57]:=by ac_nf
theorem abU (c:Nat):vS s8 c=mn c:=by
 rw [FP,XK];unfold mn;rw [lp];simp only [decide_eq_true_eq,eZ,qD,or_false];omega
noncomputable abbrev cs (w:Str):List Nat:=w.cps.toList
theorem F0 (w:Str):(cs w).length=w.length:=by simp [cs,uC]
noncomputable def ke (w:Str):Bool:=decide (1 <= (cs w).length) && decide ((cs w).length <= 3) && (cs w).all mn && (decide ((cs w).length <= 1) || decide ((cs w).headD 0 ≠ 48))
noncomputable abbrev val (w:Str):Int:=((Vg (cs w):Nat):Int)
noncomputable def i6 (w:Str) (lo ah:Int):V:=if ke w && !(decide (val w < lo) || decide (ah < val w)) then .int (val w) else .b'
theorem Vz {w:Str} {c:Nat}:w=⟨#[c]⟩↔cs w=[c]:=by
 constructor
 .rintro rfl;rfl
 .intro h;cases w with
  | mk a=>
   have e:a=#[c]:=T'.mp h;rw [e]
theorem KV:ab "0"=⟨#[48]⟩:=by ac_nf
theorem Tw (w:Str):made w s8 3=(decide (1 <= (cs w).length) && decide ((cs w).length <= 3) && (cs w).all mn):=by
 unfold made;have e:(vS s8)=mn:=funext abU;rw [e];by_cases af:w=ab ""
 .have ak:=DU.mp af;rw [if_pos af,F0,ak];rfl
 .have ak:¬ w.length=0:=fun z=>af (DU.mpr z)
  rw [if_neg af,F0];by_cases bc:(3:Int) < (w.length:Int)
  .rw [if_pos bc,decide_eq_false (show ¬ w.length <= 3 by omega),aap,nJ]
  .rw [if_neg bc,decide_eq_true (show 1 <= w.length by omega),decide_eq_true (show w.length <= 3 by omega)];rfl
theorem adG (h:l.all mn=true):NumText.AllDigits l:=fun c ay=>by
 have:=pE.mp h c ay;simpa [mn] using this
theorem afH {w:Str} (h:ke w=true):(1 <= (cs w).length/\(cs w).length <= 3)/\(cs w).all mn=true:=by
 unfold ke at h;simp only [jF,decide_eq_true_eq] at h;exact h.1
def VI:bX:=fun vs H Q _=>∃ w,vs=[.str w,.int 3]/\w.length <= 1000/\aI H/\Q (.bB (ke w)) H
def ah0:bX:=fun vs H Q _=>∃ w lo ah,vs=[.str w,.int lo,.int ah]/\w.length <= 1000/\aI H/\Q (i6 w lo ah) H
theorem ads:cv P base T 2 t.KH t.Cl Cn VI:=by
 refine cB (TL T) fun JW=>?_;exists T.Wp.ok alP,9
 obtain ⟨w,rfl,aW,bG,q⟩:=h;have gY:w.length <= sizeLine:=c7 aW (by decide);refine ⟨_,(aP (en (xY (qd (cH JW ao T.VM T.A0.bJ T.TK (ai (U 0) (ai (me rfl T.amG T.aeW) (ai (U 1) aE)))))) (a6 (cz ox)) fe)
   (a6 (cz (Uh (ie fA (U 0) dD (cR _)) (u7 (ie sR (cE HY (U 0) aM) dD (cR _))))))),?_⟩
 refine eg (!made w s8 3) (fun Q a9=>?_) (fun aa=>?_) (fun aa=>?_)
 ·(nofun; repeat (dsimp only [Gk];nofun));exact ⟨aW,bG,a9⟩
 .nofun;have e:ke w=false:=by
   have fF:made w s8 3=false:=by simpa using aa
   rw [Tw] at fF;unfold ke;rw [fF];rfl
  rw [e] at q;exact q
 .have fF:made w s8 3=true:=by simpa using aa
  rw [Tw] at fF;rw [jf];dsimp only;refine XD (.bB (ke w)) (fun Q a9=>?_) ?_
  case refine_2=>exact q
  nofun;have j2:(1 <= (cs w).length/\(cs w).length <= 3)/\(cs w).all mn=true:=by
   simpa only [jF,decide_eq_true_eq] using fF
  obtain ⟨c,r,HK⟩:∃ c r,cs w=c :: r:=by
   cases h:cs w with
   | nil=>rw [h] at j2;exact absurd j2.1.1 (by decide)
   | cons c r=>exact ⟨c,r,rfl⟩
  have ok:ke w=(decide ((cs w).length <= 1) || decide ((cs w).headD 0 ≠ 48)):=by
   unfold ke;rw [fF,mA]
  by_cases cO:w=ab "0"
  .rw [if_pos (decide_eq_true cO)];have e:cs w=[48]:=by rw [cO,KV]
   rw [ok,e] at a9;exact a9
  .rw [if_neg (by simpa using cO)];refine ⟨gY,c,?_,?_⟩
   .have:=cy (xs:=cs w) (j:=0) (v:=c) (by rw [HK];rfl);exact this
   .have aG:decide ((⟨#[c]⟩:Str)=ab "0")=decide (c=48):=by
     rw [KV];by_cases rx:c=48
     .rw [rx];simp
     .rw [decide_eq_false rx,decide_eq_false];intro z;have es:=Vz.mp z;exact rx (xk es).1
    rw [aG];have bS:ke w = !decide (c=48):=by
     rw [ok,HK];show (decide ((c :: r).length <= 1) || decide (c ≠ 48))=_;by_cases rx:c=48
     .have ao:r ≠ []:=fun z=>cO (by rw [KV];exact Vz.mpr (by rw [HK,z,rx]))
      have:¬ (c :: r).length <= 1:=by
       cases r with
       | nil=>exact absurd rfl ao
       | cons d r=>simp
      rw [decide_eq_false this,rx];rfl
     .rw [decide_eq_true rx,Sy,decide_eq_false rx];rfl
    rw [<- bS];exact a9
theorem ak0:cv P base T 3 t.Hk t.L1 FC ah0:=by
 refine cB (ads T) fun abc=>?_;exists T.LX.ok Uj,9
 obtain ⟨w,lo,ah,rfl,aW,bG,q⟩:=h;refine ⟨_,(aP (en (xY (qd (cH abc ao T.aai T.Wp.bJ T.aeS (ai (U 0) (ai (me rfl T.amA T.anq) aE))))) (a6 (cz r8)) fe)
   (aP (cg (i:=3) Uj.aH (j' aj3 rfl T.Jz Jh (ai (U 0) aE)))
   (aP (en (iC.pt (sv (du lV (U 3) (U 1) (cR _)) (t9 (du ot (U 3) (U 2) (cR _))))) (a6 (cz r8)) fe)
   (a6 (cz (U 3)))))),?_⟩
 refine eg (!ke w) (fun Q a9=>?_) (fun aa=>?_) (fun aa=>?_)
 ·(nofun; repeat (dsimp only [VI];nofun));exact ⟨aW,bG,a9⟩
 .nofun;have fF:ke w=false:=by simpa using aa
  have e:i6 w lo ah=.b':=by unfold i6;rw [fF];rfl
  rw [e] at q;exact q
 .have fF:ke w=true:=by simpa using aa
  have bc:(1 <= (cs w).length/\(cs w).length <= 3)/\(cs w).all mn=true:=by
   have:=fF;unfold ke at this;simp only [jF,decide_eq_true_eq] at this;exact this.1
  have aK:=F0 w;have fR:intText? w=some (val w):=intText_digits (adG bc.2) (fun z=>by have ih:cs w=[]:=z;rw [ih] at bc;exact absurd bc.1.1 (by decide)) (by omega);nofun;refine ⟨val w,fR,by omega,?_⟩;refine eg (decide (val w < lo) || decide (ah < val w)) (fun Q a9=>?_) (fun ay=>?_) (fun ay=>?_)
  .nofun;by_cases c:val w < lo
   .rw [if_pos (decide_eq_true c)];rw [decide_eq_true c,tI] at a9;exact a9
   .rw [if_neg (by simpa using c)];rw [decide_eq_false c,lF] at a9;exact a9
  .nofun;have e:i6 w lo ah=.b':=by unfold i6;rw [fF,ay];rfl
   rw [e] at q;exact q
  .nofun;have e:i6 w lo ah=.int (val w):=by unfold i6;rw [fF,ay];rfl
   rw [e] at q;exact q
theorem Mw (h:n < 1000):n.log2 < 1920:=by
 by_cases h0:n=0
 .subst h0;decide
 .rw [aj4 h0];exact h6 h (c7 (show 1000 <= 2 ^ 10 by decide) (Nat.pow_le_pow_right (by decide) (by decide)))
theorem aag:∀ n,n < 1000->(vT 10 n).length <= 3:=by ac_nf
theorem zd {n:Int} (h0:0 <= n) (af:n <= 999):(ab (toString n)).length <= 3:=by
 have e:=aeh n.toNat;rw [rP h0] at e;have l:(ab (toString n)).length=(ab (toString n)).cps.toList.length:=by simp [uC]
 rw [l,e,aO];exact aag _ (by omega)
noncomputable abbrev oc:Str:=ab "abcdefghijklmnopqrstuvwxyz"
def abj:bX:=fun vs H Q _=>∃ w,vs=[.str w]/\w.length <= 1000/\aI H/\Q (.bB (made w oc 8)) H
theorem Xo:cv P base T 2 t.J3 t.I1 ["word"] abj:=by
 refine cB (TL T) fun JW=>?_;exists T.G6.ok ZI,9
 obtain ⟨w,rfl,aW,bG,q⟩:=h;refine ⟨_,(a6 (cz (cH JW ao T.VM T.A0.bJ T.TK (ai (U 0) (ai (me rfl T.sK T.XR) (ai (me rfl T.agH T.af2) aE)))))),?_⟩;(nofun; repeat (dsimp only [Gk];nofun));exact ⟨aW,bG,q⟩
noncomputable abbrev nl:Str:=ab "\n"
noncomputable abbrev cI:Str:=ab " "
theorem wT:nl=⟨#[10]⟩:=by ac_nf
theorem CE:cI=⟨#[32]⟩:=by ac_nf
noncomputable def hu (x:Str):List (List Str):=(iY x nl).map fun r=>iY r cI
theorem Xa:∀ {ys:List Str} {y:Str},y ∈ ys->y.length <= (ys.map (·.length)).sum
 | [],_,h=>nomatch h
 | a :: r,y,h=>by
  rw [eu,G3];rcases eZ.mp h with rfl | h
  .omega
  .have:=Xa h;omega
theorem ag6 {x y r:Str} (aY:1 <= y.length) (h:r ∈ iY x y):r.length <= x.length + 1:=by
 have af:=amE x y aY;have ak:=Xa h;omega
theorem lw {x y:Str} (aY:1 <= y.length):(iY x y).length <= x.length + 1:=by
 have af:=amE x y aY;omega
theorem acj (x y:Str):iY x y ≠ []:=by
 unfold iY;split
 .simp
 .split
  .simp
  .rw [StrLaws.partsBetween_eq];obtain ⟨p,r,e⟩:=StrLaws.partsFrom_ne x y.length 0 (tr x y 0 x.length (x.length + 1));rw [e];simp
def ags (bU H:au) (p:Addr) (rows:List (List Str)):Prop:=∃ qs:List Addr,H p=some (.lst (qs.map V.ref))/\bU p=none/\p ∉ qs/\qs.length=rows.length/\∀ (i:Nat) (q:Addr) (r:List Str),qs[i]? = some q->rows[i]? = some r->H q=some (.lst (aX r))/\bU q=none
def U6:bX:=fun vs H Q _=>∃ x,vs=[.str x]/\x.length <= 20000/\aI H/\∀ p I,aN H I->aI I->ags H I p (hu x)->Q (.ref p) I
theorem FB:nl.length=1:=by ac_nf
theorem q':cI.length=1:=by ac_nf
theorem aaV:cv P base T 1 t.D7 t.zX ["text"] U6:=by
 exists T.H2.ok Zf,9
 obtain ⟨x,rfl,aW,bG,q⟩:=h;have iB:∀ n:Nat,n <= 40000->n <= sizeLine:=fun n h=>c7 h (by decide)
 refine ⟨_,(a6 (cz (ij rfl (eS (gF t5 Bz aj8 Sv (U 0) (ai dD aE))) (g0 (sc:=bE HA) rfl (by ac_nf)) (N:=["row"]) (sel:=[none]) (gO (M:=["text"]) (by ac_nf)) (fP.of (fun _ _ _ _=>(cu (i:=0) (eJ (N:=["row"]) (by ac_nf) rfl))) (fun _ _ _ _=>⟨_,i0,by walk_at "B"⟩) (fun _ _ _ _=>⟨_,(gF t5 Bz aj8 Sv (U 0) (ai dD aE)),by walk_at "B"⟩))))),?_⟩;nofun;have aY:1 <= nl.length:=by rw [FB];exact bR _
 have amn:1 <= cI.length:=by rw [q'];exact bR _
 have aB:=lw (x:=x) aY;have jw:(aX (iY x nl)).length <= sizeLine:=by unfold aX;rw [aO];exact iB _ (by omega)
 refine ⟨by rw [FB];decide,iB _ (by omega),iB _ (show (iY x nl).length <= 40000 by omega),fun p aq=>⟨⟨_,aF.of db⟩,?_⟩⟩;refine dg.adx (xs:=aX (iY x nl)) (fun v=>match v with | .str r=>.lst (aX (iY r cI)) | _=>.lst []) (aF.of db) jw (fun v=>by cases v <;> rfl) (fun i v H1 N ag bg jJ bu=>?_) (fun qs H1 bg jJ aK al d3 hY=>?_)
 .unfold aX at ag;rw [dO] at ag;cases ao:(iY x nl)[i]? with
  | none=>rw [ao] at ag;cases ag
  | some r=>
   rw [ao] at ag;have e:=dX ag;subst e;have hm:=ag6 aY (cQ ao);have hW:=lw (x:=r) amn;nofun;exact ⟨Sub.name,by rw [q'];decide,iB _ (by omega),iB _ (show (iY r cI).length <= 40000 by omega),bu⟩
 .have FX:aN H H1:=(bf aq).trans bg;refine q _ _ (FX.gW (FX.free hY)) ((jJ (bG.upd)).upd) ⟨qs,db,FX.free hY,fun hm=>?_,?_,fun i dV r af ak=>?_⟩
  .obtain ⟨j,aL,e⟩:=LL hm;have ad_:j < (aX (iY x nl)).length:=by omega
   have:=al j d3 _ (by rw [bo aL,e]) (bo ad_);rw [hY] at this;cases this.1
  .rw [aK];unfold hu aX;rw [aO,aO]
  .unfold hu at ak;rw [dO] at ak;cases ao:(iY x nl)[i]? with
   | none=>rw [ao] at ak;cases ak
   | some kW=>
    rw [ao] at ak;have e:=dX ak;subst e;have z:=al i dV (.str kW) af (by unfold aX;rw [dO,ao];rfl);refine ⟨by rw [aA (dj z.1 hY)];exact z.1,?_⟩;have:=z.2;by_cases aD:dV=p
    .rw [aD];exact aq
    .rwa [aA aD] at this
structure bl where
 k:Nat
 name:Str
 start:Int
 fin:Int
 off:Int
 near:Int
 least:Int
noncomputable def eR:Nat->Str
 | 0=>ab "car"
 | 1=>ab "foot"
 | _=>ab "tram"
noncomputable def bQ.fO (t:bQ):Nat->Addr
 | 0=>t.iz
 | 1=>t.ix
 | _=>t.iy
noncomputable def oX (d:bl):List (Str × V):=[(ab "kind",.str (eR d.k)),(ab "name",.str d.name),(ab "start",.int d.start),(ab "end",.int d.fin),(ab "off",.int d.off),(ab "near",.int d.near),(ab "least",.int d.least)]
noncomputable abbrev oP:List Str:=[ab "kind",ab "name",ab "start",ab "end",ab "off",ab "near",ab "least"]
theorem W5 (d:bl):(oX d).map (·.1)=oP:=rfl
def eT (t:bQ) (H:au) (p:Addr) (d:bl):Prop:=d.k < 3/\∃ ar,H p=some (.ins (t.fO d.k) ar (oX d))
theorem eT.same {t:bQ} {p:Addr} (h:eT t H p d) (s:aN H I):eT t I p d:=⟨h.1,h.2.imp fun ar e=>s _ _ e⟩
def qL (t:bQ) (C:Addr):Prop:=∃ k,k < 3/\C=t.fO k
noncomputable def mv (d:bl):Int:=match d.k with | 0=>1 | 1=>0 | _=>2
noncomputable def mP (d:bl):Int:=match d.k with | 0=>2 | 1=>d.off | _=>1
noncomputable def jy (d:bl) (n:Int):Int:=match d.k with | 1=>n | _=>if 1 < n then 1 else n
section
variable {w:World} {K:ba} {mg:Str->Option Value} {t:bQ}
theorem Txt.qP (T:Txt w K mg t):∀ k,hl K (t.fO k)
 | 0=>T.BL
 | 1=>T.Cp
 | _ + 2=>T.z_
theorem Txt.SH (T:Txt w K mg t) (hf:f ∈ oP):∀ k,cY K (t.fO k) f:=by
 intro k;simp only [oP,eZ,qD,or_false] at hf;rcases hf with rfl | rfl | rfl | rfl | rfl | rfl | rfl
 .match k with
  | 0=>exact T.adm
  | 1=>exact T.aeE
  | _ + 2=>exact T.ai8
 .match k with
  | 0=>exact T.afq
  | 1=>exact T.amM
  | _ + 2=>exact T.lv
 .match k with
  | 0=>exact T.af_
  | 1=>exact T.YE
  | _ + 2=>exact T.YR
 .match k with
  | 0=>exact T.ae6
  | 1=>exact T.aj9
  | _ + 2=>exact T.aaO
 .match k with
  | 0=>exact T.agt
  | 1=>exact T.amO
  | _ + 2=>exact T.Xw
 .match k with
  | 0=>exact T.anf
  | 1=>exact T.akQ
  | _ + 2=>exact T.XG
 .match k with
  | 0=>exact T.adK
  | 1=>exact T.ahh
  | _ + 2=>exact T.YT
theorem Txt.cw_inj (T:Txt w K mg t) {j k:Nat} (aL:j < 3) (aC:k < 3) (e:t.fO j=t.fO k):j=k:=by
 match j,k,aL,aC with
 | 0,0,_,_=>rfl
 | 0,1,_,_=>exact absurd e T.Pu
 | 0,2,_,_=>exact absurd e T.R6
 | 1,0,_,_=>exact absurd e.symm T.Pu
 | 1,1,_,_=>rfl
 | 1,2,_,_=>exact absurd e T.UN
 | 2,0,_,_=>exact absurd e.symm T.R6
 | 2,1,_,_=>exact absurd e.symm T.UN
 | 2,2,_,_=>rfl
 | j + 3,_,h,_=>omega
 | _,k + 3,_,h=>omega
theorem eT.fld (T:Txt w K mg t) {p:Addr} (h:eT t H p d) (i:Nat) (ah:oP.findIdx? (· == f)=some i) (aJ:(oX d)[i]? = some (f,v)):fa K H p f v:=by
 obtain ⟨_,ar,e⟩:=h;have hm:f ∈ oP:=by
  obtain ⟨dW,af,_⟩:=WX.mp ah;have:oP[i]=f:=by simpa using af
  rw [<- this];exact kT dW
 exact ⟨_,ar,_,e,T.qP _,T.SH hm _,ac oP i (W5 d) ah aJ⟩
theorem eT.ae2 (T:Txt w K mg t) {p:Addr} (h:eT t H p d):fa K H p (ab "kind") (.str (eR d.k)):=h.fld T 0 (by ac_nf) rfl
theorem eT.IX (T:Txt w K mg t) {p:Addr} (h:eT t H p d):fa K H p (ab "name") (.str d.name):=h.fld T 1 (by ac_nf) rfl
theorem eT.ur (T:Txt w K mg t) {p:Addr} (h:eT t H p d):fa K H p (ab "start") (.int d.start):=h.fld T 2 (by ac_nf) rfl
theorem eT.tU (T:Txt w K mg t) {p:Addr} (h:eT t H p d):fa K H p (ab "end") (.int d.fin):=h.fld T 3 (by ac_nf) rfl
theorem eT.Oy (T:Txt w K mg t) {p:Addr} (h:eT t H p d):fa K H p (ab "off") (.int d.off):=h.fld T 4 (by ac_nf) rfl
theorem eT.af3 (T:Txt w K mg t) {p:Addr} (h:eT t H p d):fa K H p (ab "near") (.int d.near):=h.fld T 5 (by ac_nf) rfl
theorem eT.alI (T:Txt w K mg t) {p:Addr} (h:eT t H p d):fa K H p (ab "least") (.int d.least):=h.fld T 6 (by ac_nf) rfl
end
def akU (t:bQ):bX:=fun vs H Q _=>∃ (p ar:Addr) (d:bl),vs=[.ref p,.str (eR d.k),.str d.name,.int d.start,.int d.fin,.int d.off,.int d.near,.int d.least]/\d.k < 3/\H p=some (.ins (t.fO d.k) ar [])/\Q .b' (upd H p (.ins (t.fO d.k) ar (oX d)))
def uy (t:bQ) (k:Nat):bX:=fun vs H Q _=>∃ (p ar:Addr) (d:bl),vs=[.ref p,.str d.name,.int d.start,.int d.fin,.int d.off,.int d.near,.int d.least]/\d.k=k/\H p=some (.ins (t.fO d.k) ar [])/\Q .b' (upd H p (.ins (t.fO d.k) ar (oX d)))
theorem H_:cv P base T 1 t.AV t.EW zK (akU t):=by
 exists T.Sb.ok am4,9
 obtain ⟨p,ar,d,rfl,aC,aq,q⟩:=h;refine ⟨_,(aP (eF (U 0) (U 1) rfl)
   (aP (eF (U 0) (U 2) rfl)
   (aP (eF (U 0) (U 3) rfl)
   (aP (eF (U 0) (U 4) rfl)
   (aP (eF (U 0) (U 5) rfl)
   (aP (eF (U 0) (U 6) rfl)
   (a6 (eF (U 0) (U 7) rfl)))))))),?_⟩
 nofun;have na:∀ {f:Str},f ∈ oP->cY K (t.fO d.k) f:=fun hf=>T.SH hf d.k
 refine ⟨_,_,_,aq,T.qP _,na (by ac_nf),by decide,?_⟩;refine ⟨_,_,_,db,T.qP _,na (by ac_nf),g7 (n:=999) (by decide),?_⟩;refine ⟨_,_,_,db,T.qP _,na (by ac_nf),g7 (n:=999) (g7 (n:=998) (by decide)),?_⟩;refine ⟨_,_,_,db,T.qP _,na (by ac_nf),g7 (n:=999) (g7 (n:=998) (g7 (n:=997) (by decide))),?_⟩;refine ⟨_,_,_,db,T.qP _,na (by ac_nf),g7 (n:=999) (g7 (n:=998) (g7 (n:=997) (g7 (n:=996) (by decide)))),?_⟩;refine ⟨_,_,_,db,T.qP _,na (by ac_nf),g7 (n:=999) (g7 (n:=998) (g7 (n:=997) (g7 (n:=996) (g7 (n:=995) (by decide))))),?_⟩;refine ⟨_,_,_,db,T.qP _,na (by ac_nf),g7 (n:=999) (g7 (n:=998) (g7 (n:=997) (g7 (n:=996) (g7 (n:=995) (g7 (n:=994) (by decide)))))),?_⟩;simp only [tp];rw [show cT (ab "kind") (V.str (eR d.k)) ([]:List (Str × V))=[(ab "kind",V.str (eR d.k))] from fw [] rfl (by ac_nf),
  show cT (ab "name") (V.str d.name) ([(ab "kind",V.str (eR d.k))]:List (Str × V))=[(ab "kind",V.str (eR d.k)),(ab "name",V.str d.name)] from fw [ab "kind"] rfl (by ac_nf),
  show cT (ab "start") (V.int d.start) ([(ab "kind",V.str (eR d.k)),(ab "name",V.str d.name)]:List (Str × V))=[(ab "kind",V.str (eR d.k)),(ab "name",V.str d.name),(ab "start",V.int d.start)] from fw [ab "kind",ab "name"] rfl (by ac_nf),
  show cT (ab "end") (V.int d.fin) ([(ab "kind",V.str (eR d.k)),(ab "name",V.str d.name),(ab "start",V.int d.start)]:List (Str × V))=[(ab "kind",V.str (eR d.k)),(ab "name",V.str d.name),(ab "start",V.int d.start),(ab "end",V.int d.fin)] from fw [ab "kind",ab "name",ab "start"] rfl (by ac_nf),
  show cT (ab "off") (V.int d.off) ([(ab "kind",V.str (eR d.k)),(ab "name",V.str d.name),(ab "start",V.int d.start),(ab "end",V.int d.fin)]:List (Str × V))=[(ab "kind",V.str (eR d.k)),(ab "name",V.str d.name),(ab "start",V.int d.start),(ab "end",V.int d.fin),(ab "off",V.int d.off)] from fw [ab "kind",ab "name",ab "start",ab "end"] rfl (by ac_nf),
  show cT (ab "near") (V.int d.near) ([(ab "kind",V.str (eR d.k)),(ab "name",V.str d.name),(ab "start",V.int d.start),(ab "end",V.int d.fin),(ab "off",V.int d.off)]:List (Str × V))=[(ab "kind",V.str (eR d.k)),(ab "name",V.str d.name),(ab "start",V.int d.start),(ab "end",V.int d.fin),(ab "off",V.int d.off),(ab "near",V.int d.near)] from fw [ab "kind",ab "name",ab "start",ab "end",ab "off"] rfl (by ac_nf),
  show cT (ab "least") (V.int d.least) ([(ab "kind",V.str (eR d.k)),(ab "name",V.str d.name),(ab "start",V.int d.start),(ab "end",V.int d.fin),(ab "off",V.int d.off),(ab "near",V.int d.near)]:List (Str × V))=[(ab "kind",V.str (eR d.k)),(ab "name",V.str d.name),(ab "start",V.int d.start),(ab "end",V.int d.fin),(ab "off",V.int d.off),(ab "near",V.int d.near),(ab "least",V.int d.least)] from fw [ab "kind",ab "name",ab "start",ab "end",ab "off",ab "near"] rfl (by ac_nf)]
 exact q
theorem akD:cv P base T 2 t.x2 t.zy kG (uy t 0):=by
 refine cB (H_ T) fun xE=>?_;exists T.S4.ok abQ,9
 obtain ⟨p,ar,d,rfl,aC,aq,q⟩:=h;refine ⟨_,(a6 (eo (G0 rfl T.GF T.L4 xE ao T.Os .nil cj (ai (U 0) (ai dD (ai (U 1) (ai (U 2) (ai (U 3) (ai (U 4) (ai (U 5) (ai (U 6) aE))))))))))),?_⟩;nofun;exact ⟨p,ar,d,by rw [aC];rfl,by omega,aq,q⟩
theorem adB:cv P base T 2 t.Uf t.DF kG (uy t 1):=by
 refine cB (H_ T) fun xE=>?_;exists T.Rl.ok abM,9
 obtain ⟨p,ar,d,rfl,aC,aq,q⟩:=h;refine ⟨_,(a6 (eo (G0 rfl T.GF T.L4 xE ao T.Os .nil cj (ai (U 0) (ai dD (ai (U 1) (ai (U 2) (ai (U 3) (ai (U 4) (ai (U 5) (ai (U 6) aE))))))))))),?_⟩;nofun;exact ⟨p,ar,d,by rw [aC];rfl,by omega,aq,q⟩
theorem aiM:cv P base T 2 t.xh t.AF kG (uy t 2):=by
 refine cB (H_ T) fun xE=>?_;exists T.Go.ok ak3,9
 obtain ⟨p,ar,d,rfl,aC,aq,q⟩:=h;refine ⟨_,(a6 (eo (G0 rfl T.GF T.L4 xE ao T.Os .nil cj (ai (U 0) (ai dD (ai (U 1) (ai (U 2) (ai (U 3) (ai (U 4) (ai (U 5) (ai (U 6) aE))))))))))),?_⟩;nofun;exact ⟨p,ar,d,by rw [aC];rfl,by omega,aq,q⟩
def tX (t:bQ) (C:Addr):bX:=fun vs H Q _=>∃ p d,vs=[.ref p]/\eT t H p d/\C=t.fO d.k/\Q (.int (mv d)) H
def uG (t:bQ) (C:Addr):bX:=fun vs H Q _=>∃ p d,vs=[.ref p]/\eT t H p d/\C=t.fO d.k/\Q (.int (mP d)) H
theorem alL:cv P base T 1 t.zB t.IB ["self"] (tX t (t.fO 0)):=by
 exists T.O_.ok ZC,9
 obtain ⟨p,d,rfl,W,cV,q⟩:=h;have aC:=(T.cw_inj (by decide) W.1 cV).symm;refine ⟨_,(a6 (cz aM)),?_⟩;rw [show mv d=1 by unfold mv;simp only [aC]] at q;nofun;exact q
theorem afw:cv P base T 1 t.Em t.H6 ["self"] (tX t (t.fO 1)):=by
 exists T.Xe.ok ajo,9
 obtain ⟨p,d,rfl,W,cV,q⟩:=h;have aC:=(T.cw_inj (by decide) W.1 cV).symm;refine ⟨_,(a6 (cz aM)),?_⟩;rw [show mv d=0 by unfold mv;simp only [aC]] at q;nofun;exact q
theorem agd:cv P base T 1 t.D4 t.H9 ["self"] (tX t (t.fO 2)):=by
 exists T.Qg.ok adg,9
 obtain ⟨p,d,rfl,W,cV,q⟩:=h;have aC:=(T.cw_inj (by decide) W.1 cV).symm;refine ⟨_,(a6 (cz aM)),?_⟩;rw [show mv d=2 by unfold mv;simp only [aC]] at q;nofun;exact q
theorem ND (T:Txt w K mg t):mN P w K mg base dt 1 (qL t) "ready" ["self"] (tX t):=by
 refine ⟨fun C cV=>?_⟩;obtain ⟨k,aC,rfl⟩:=cV
 match k,aC with
 | 0,_=>exact ⟨_,_,T.BL,T.akj,alL T,T.alh⟩
 | 1,_=>exact ⟨_,_,T.Cp,T.afT,afw T,T.amm⟩
 | 2,_=>exact ⟨_,_,T.z_,T.YZ,agd T,T.Ev⟩
theorem ajm:cv P base T 1 t.Bg t.JV ["self"] (uG t (t.fO 0)):=by
 exists T.VV.ok aiw,9
 obtain ⟨p,d,rfl,W,cV,q⟩:=h;have aC:=(T.cw_inj (by decide) W.1 cV).symm;refine ⟨_,(a6 (cz aM)),?_⟩;rw [show mP d=2 by unfold mP;simp only [aC]] at q;nofun;exact q
theorem adD:cv P base T 1 t.Dz t.IV ["self"] (uG t (t.fO 1)):=by
 exists T.Vi.ok aaa,9
 obtain ⟨p,d,rfl,W,cV,q⟩:=h;have aC:=(T.cw_inj (by decide) W.1 cV).symm;refine ⟨_,(a6 (cz (bx (U 0) rfl))),?_⟩;rw [show mP d=d.off by unfold mP;simp only [aC]] at q;nofun;exact ⟨_,W.Oy T,q⟩
theorem ano:cv P base T 1 t.Bw t.K3 ["self"] (uG t (t.fO 2)):=by
 exists T.Su.ok abI,9
 obtain ⟨p,d,rfl,W,cV,q⟩:=h;have aC:=(T.cw_inj (by decide) W.1 cV).symm;refine ⟨_,(a6 (cz aM)),?_⟩;rw [show mP d=1 by unfold mP;simp only [aC]] at q;nofun;exact q
theorem Nu (T:Txt w K mg t):mN P w K mg base dt 1 (qL t) "fade" ["self"] (uG t):=by
 refine ⟨fun C cV=>?_⟩;obtain ⟨k,aC,rfl⟩:=cV
 match k,aC with
 | 0,_=>exact ⟨_,_,T.BL,T.XM,ajm T,T.ami⟩
 | 1,_=>exact ⟨_,_,T.Cp,T.ak7,adD T,T.aib⟩
 | 2,_=>exact ⟨_,_,T.z_,T.al0,ano T,T.aks⟩
noncomputable def k0 (c:Nat):List (List Nat)->List Nat
 | []=>[]
 | [a]=>a
 | a :: b :: r=>a ++ c :: k0 c (b :: r)
theorem OP {c:Nat}:∀ {a b X Y:List Nat},c ∉ a->c ∉ b->a ++ c :: X=b ++ c :: Y->a=b/\X=Y
 | [],[],X,Y,_,_,h=>⟨rfl,(xk h).2⟩
 | [],d :: b,X,Y,_,aa,h=>absurd (xk h).1 (fun z=>aa (by simp [<- z]))
 | d :: a,[],X,Y,aZ,_,h=>absurd (xk h).1 (fun z=>aZ (by simp [z]))
 | d :: a,e :: b,X,Y,aZ,aa,h=>by
  obtain ⟨af,ak⟩:=xk h;obtain ⟨aw,aG⟩:=OP (fun z=>aZ (iu _ z)) (fun z=>aa (iu _ z)) ak;exact ⟨by rw [af,aw],aG⟩
theorem Ut {c:Nat}:∀ {ps qs:List (List Nat)},(∀ p ∈ ps,c ∉ p)->(∀ q ∈ qs,c ∉ q)->ps ≠ []->qs ≠ []->k0 c ps=k0 c qs->ps=qs
 | [a],[b],_,_,_,_,h=>by rw [show a=b from h]
 | [a],b :: rb :: r,aZ,_,_,_,h=>absurd (show c ∈ a by rw [show a=b ++ c :: k0 c (rb :: r) from h];simp) (aZ a (by simp))
 | a :: vX :: r,[b],_,aa,_,_,h=>absurd (show c ∈ b by rw [show b=a ++ c :: k0 c (vX :: r) from h.symm];simp) (aa b (by simp))
 | a :: vX :: r,b :: rb :: s,aZ,aa,_,_,h=>by
  obtain ⟨aw,aG⟩:=OP (aZ a (by simp)) (aa b (by simp)) (show a ++ c :: k0 c (vX :: r)=b ++ c :: k0 c (rb :: s) from h);rw [aw,Ut (fun p aq=>aZ p (iu _ aq)) (fun q aD=>aa q (iu _ aD)) (by simp) (by simp) aG]
 | [],_,_,_,h,_,_=>absurd rfl h
 | _ :: _,[],_,_,_,h,_=>absurd rfl h
theorem Nl {c d:Nat}:∀ {ps:List (List Nat)},d ∈ k0 c ps->d=c\/∃ p ∈ ps,d ∈ p
 | [],h=>nomatch h
 | [a],h=>.inr ⟨a,by simp,h⟩
 | a :: b :: r,h=>by
  rcases gU.mp (show d ∈ a ++ c :: k0 c (b :: r) from h) with h | h
  .exact .inr ⟨a,by simp,h⟩
  .rcases eZ.mp h with h | h
   .exact .inl h
   .rcases Nl h with h | ⟨p,aq,h⟩
    .exact .inl h
    .exact .inr ⟨p,iu _ aq,h⟩
theorem rk (c:Nat):∀ ys:List Str,(d7 ⟨#[c]⟩ ys).cps.toList=k0 c (ys.map (·.cps.toList))
 | []=>rfl
 | [a]=>rfl
 | a :: b :: r=>by
  show (a ++ ⟨#[c]⟩ ++ d7 ⟨#[c]⟩ (b :: r)).cps.toList=_;rw [o5,oT,o5,oT,rk c (b :: r)];simp [k0]
theorem zC {x y:Str} (h:x.cps.toList=y.cps.toList):x=y:=by
 cases x;cases y;exact congrArg Str.mk (T'.mp h)
theorem Qv {c:Nat} (a3:ys ≠ []) (hf:∀ y ∈ ys,c ∉ y.cps.toList):iY (d7 ⟨#[c]⟩ ys) ⟨#[c]⟩=ys:=by
 have e:=congrArg (·.cps.toList) (StrLaws.join_split (d7 ⟨#[c]⟩ ys) ⟨#[c]⟩);simp only [rk] at e;have aG:=Ut (c:=c) (ps:=(iY (d7 ⟨#[c]⟩ ys) ⟨#[c]⟩).map (·.cps.toList)) (qs:=ys.map (·.cps.toList)) (fun p aq=>by
  obtain ⟨y,aY,rfl⟩:=cw.mp aq;exact StrLaws.split_free _ c y aY) (fun p aq=>by
  obtain ⟨y,aY,rfl⟩:=cw.mp aq;exact hf y aY) (by simp [acj]) (by simpa using a3) e
 exact (List.map_inj_right fun x y h=>zC h).mp aG
noncomputable abbrev num (v:Int):Str:=ab (toString v)
theorem agA:∀ n,n < 1000->(decide (1 <= ((vT 10 n).map we).length) && decide (((vT 10 n).map we).length <= 3) && ((vT 10 n).map we).all mn && (decide (((vT 10 n).map we).length <= 1) || decide (((vT 10 n).map we).headD 0 ≠ 48)) &&
  decide (Vg ((vT 10 n).map we)=n))=true:=by ac_nf
theorem wE (h0:0 <= v) (af:v < 1000):ke (num v)=true/\val (num v)=v:=by
 have e:=aeh v.toNat;rw [rP h0] at e;have a:=agA v.toNat (by omega);rw [<- e,jF,decide_eq_true_eq] at a;exact ⟨a.1,by show ((Vg (cs (num v)):Nat):Int)=v;rw [a.2];omega⟩
theorem rG {v lo ah:Int} (h0:0 <= v) (af:v < 1000) (aK:lo <= v) (gg:v <= ah):i6 (num v) lo ah=.int v:=by
 obtain ⟨a,b⟩:=wE h0 af;unfold i6;rw [a,b,decide_eq_false (by omega:¬ v < lo),decide_eq_false (by omega:¬ ah < v)];rfl
theorem amh (h0:0 <= u) (af:u < 1000) (ak:0 <= v) (bc:v < 1000) (e:num u=num v):u=v:=by
 rw [<- (wE h0 af).2,e,(wE ak bc).2]
theorem VZ (h0:0 <= v) (af:v < 1000):∀ c ∈ (num v).cps.toList,48 <= c/\c <= 57:=fun c ay=>by
 have:=pE.mp (afH (wE h0 af).1).2 c ay;simpa [mn] using this
theorem ahy:∀ c ∈ oc.cps.toList,97 <= c/\c <= 122:=by ac_nf
theorem Zv:∀ k,k < 26->97 + k ∈ oc.cps.toList:=by ac_nf
theorem u6 {x:Str} (h:made x oc 8=true):(1 <= x.length/\x.length <= 8)/\∀ c ∈ x.cps.toList,97 <= c/\c <= 122:=by
 unfold made at h;split at h
 .cases h
 .rename_i af;split at h
  .cases h
  .rename_i ak;have bc:¬ x.length=0:=fun z=>af (DU.mpr z)
   refine ⟨by omega,fun c ay=>?_⟩;have:=pE.mp h c ay;rw [FP] at this;exact ahy c (of_decide_eq_true this)
theorem ahC {x:Str} (h0:1 <= x.length) (af:x.length <= 8) (h:∀ c ∈ x.cps.toList,97 <= c/\c <= 122):made x oc 8=true:=by
 unfold made;rw [if_neg (fun z=>by have:=DU.mp z;omega),if_neg (by omega)];refine pE.mpr fun c ay=>?_
 have:=h c ay;rw [FP];have e:=Zv (c - 97) (by omega);rw [show 97 + (c - 97)=c by omega] at e;exact decide_eq_true e
structure p4 (n:Int) (d:bl):Prop where
 k:d.k < 3
 nm:made d.name oc 8=true
 st:0 <= d.start/\d.start < n
 fs:0 <= d.fin/\d.fin < n
 ne:d.start ≠ d.fin
 of:0 <= d.off/\d.off <= 30
 JO:0 <= d.near/\d.near <= 30
 le:1 <= d.least/\d.least <= 60
structure sJ (n:Int) (ds:List bl):Prop where
 nn:2 <= n/\n <= 99
 ln:1 <= ds.length/\ds.length <= 12
 al:∀ d ∈ ds,p4 n d
 aH:(ds.map (·.name)).Nodup
noncomputable def bn (d:bl):List Str:=[eR d.k,d.name,num d.start,num d.fin,num d.off,num d.near,num d.least]
noncomputable def iw (n:Int) (ds:List bl):List (List Str):=[ab "ring",num n] :: ds.map bn
noncomputable def pG (n:Int) (ds:List bl):Str:=d7 nl ((iw n ds).map (d7 cI))
def qg (x:Str):Prop:=x.length <= 8/\(32:Nat) ∉ x.cps.toList/\(10:Nat) ∉ x.cps.toList
theorem PU (k:Nat):qg (eR k):=by
 match k with
 | 0=>exact ⟨by ac_nf,by ac_nf,by ac_nf⟩
 | 1=>exact ⟨by ac_nf,by ac_nf,by ac_nf⟩
 | _ + 2=>exact ⟨show (ab "tram").length <= 8 by ac_nf,show (32:Nat) ∉ (ab "tram").cps.toList by ac_nf,show (10:Nat) ∉ (ab "tram").cps.toList by ac_nf⟩
theorem k6 (h0:0 <= v) (af:v < 1000):qg (num v):=
 ⟨c7 (zd h0 (by omega)) (by decide),fun z=>by have:=VZ h0 af _ z;omega,fun z=>by have:=VZ h0 af _ z;omega⟩
theorem Mz {x:Str} (h:made x oc 8=true):qg x:=
 ⟨(u6 h).1.2,fun z=>by have:=(u6 h).2 _ z;omega,fun z=>by have:=(u6 h).2 _ z;omega⟩
theorem p4.plain (h:p4 n d) (a3:n <= 99):∀ x ∈ bn d,qg x:=fun x ag=>by
 have af:=h.st;have ak:=h.fs;have bc:=h.of;have c4:=h.JO;have e3:=h.le;simp only [bn,eZ,qD,or_false] at ag;rcases ag with rfl | rfl | rfl | rfl | rfl | rfl | rfl
 .exact PU _
 .exact Mz h.nm
 .exact k6 (by omega) (by omega)
 .exact k6 (by omega) (by omega)
 .exact k6 (by omega) (by omega)
 .exact k6 (by omega) (by omega)
 .exact k6 (by omega) (by omega)
theorem sJ.plain (h:sJ n ds):∀ r ∈ iw n ds,∀ x ∈ r,qg x:=fun r ao x ag=>by
 have a3:=h.nn;rcases eZ.mp ao with rfl | ao
 .simp only [eZ,qD,or_false] at ag;rcases ag with rfl | rfl
  .exact ⟨by ac_nf,by ac_nf,by ac_nf⟩
  .exact k6 (by omega) (by omega)
 .obtain ⟨d,hd,rfl⟩:=cw.mp ao;exact (h.al d hd).plain a3.2 x ag
theorem Tj (h0:rs ≠ []) (af:∀ r ∈ rs,r ≠ []) (ak:∀ r ∈ rs,∀ x ∈ r,qg x):hu (d7 nl (rs.map (d7 cI)))=rs:=by
 unfold hu;rw [wT,CE];rw [Qv (by simpa using h0) (fun y aY=>by
  obtain ⟨r,ao,rfl⟩:=cw.mp aY;rw [rk];intro z;rcases Nl z with z | ⟨p,aq,z⟩
  .cases z
  .obtain ⟨x,ag,rfl⟩:=cw.mp aq;exact (ak r ao x ag).2.2 z)]
 rw [nr];have:∀ r ∈ rs,((fun r=>iY r ⟨#[32]⟩) ∘ d7 ⟨#[32]⟩) r=r:=fun r ao=>Qv (af r ao) fun x ag=>(ak r ao x ag).2.1
 exact (HT this).trans (List.map_id rs)
theorem alT (h:sJ n ds):hu (pG n ds)=iw n ds:=Tj (by simp [iw]) (fun r ao=>by
 rcases eZ.mp ao with rfl | ao
 .simp
 .obtain ⟨d,hd,rfl⟩:=cw.mp ao;simp [bn]) h.plain
theorem p8 (sep:Str) (B:Nat):∀ ys:List Str,(∀ y ∈ ys,y.length <= B)->(d7 sep ys).length <= ys.length * (B + sep.length)
 | [],_=>by show (Str.empty).length <= _;exact e5 _
 | [a],h=>by
  have:=h a (by simp);show a.length <= _;simp only [hT,wz];omega
 | a :: b :: r,h=>by
  have af:=h a (by simp);have ak:=p8 sep B (b :: r) fun y aY=>h y (iu _ aY)
  show (a ++ sep ++ d7 sep (b :: r)).length <= _;rw [o9,o9,hT,anr];omega
theorem acd (h:sJ n ds):(pG n ds).length <= 1000:=by
 have af:∀ y ∈ (iw n ds).map (d7 cI),y.length <= 63:=fun y aY=>by
  obtain ⟨r,ao,rfl⟩:=cw.mp aY;have:=p8 cI 8 r fun x ag=>(h.plain r ao x ag).1
  rw [q'] at this;have aK:r.length <= 7:=by
   rcases eZ.mp ao with rfl | ao
   .simp
   .obtain ⟨d,hd,rfl⟩:=cw.mp ao;simp [bn]
  omega
 have ak:=p8 nl 63 _ af;rw [FB] at ak;have bc:((iw n ds).map (d7 cI)).length <= 13:=by
  have:=h.ln;simp [iw];omega
 unfold pG;omega
noncomputable abbrev tz:List Str:=[ab "row",ab "told",ab "place"]
noncomputable def mm (row:Int) (a':Addr) (pl:Int):List (Str × V):=[(ab "row",.int row),(ab "told",.ref a'),(ab "place",.int pl)]
theorem xA (row:Int) (a':Addr) (pl:Int):(mm row a' pl).map (·.1)=tz:=rfl
theorem anz (row:Int) (a':Addr) (pl v:Int):cT (ab "place") (.int v) (mm row a' pl)=mm row a' v:=by
 unfold mm;simp only [cT];rw [if_neg (by ac_nf),if_neg (by ac_nf)];rfl
def dc (t:bQ) (H:au) (p:Addr) (row:Int) (ws:List Str) (pl:Nat):Prop:=
 (ws.length <= 1000/\∀ x ∈ ws,x.length <= 1000)/\∃ ar a',H p=some (.ins t.g8 ar (mm row a' pl))/\H a'=some (.lst (aX ws))
def cK (p:Addr) (H I:au):Prop:=∀ b u,b ≠ p->H b=some u->I b=some u
theorem cK.trans {p:Addr} (a:cK p H H1) (b:cK p H1 av):cK p H av:=fun c u n e=>b c u n (a c u n e)
theorem cK.of {p:Addr} (a:aN H H1):cK p H H1:=fun c u _ e=>a c u e
theorem cK.put {p:Addr}:cK p H (upd H p o):=fun c u n e=>by rw [aA n];exact e
theorem fz (ws:List Str):(aX ws).length=ws.length:=by unfold aX;rw [aO]
theorem sC {ws:List Str} {i:Nat} {x:Str} (h:ws[i]? = some x):(aX ws)[i]? = some (.str x):=by unfold aX;rw [dO,h];rfl
theorem De (ws:List Str):(aX ws).all lH=true:=by unfold aX;simp [lH]
theorem CG (x:Str) (xs:List Str):t7 (.str x) (aX xs)=decide (x ∈ xs):=by
 unfold t7 aX;rw [ae1,lp];simp only [tl,Function.comp,kv,beq_iff_eq,decide_eq_true_eq];constructor
 .rintro ⟨y,aY,rfl⟩;exact aY
 .intro h;exact ⟨x,h,rfl⟩
section
variable {w:World} {K:ba} {mg:Str->Option Value} {t:bQ} {H I:au} {p:Addr} {row:Int} {ws:List Str} {pl:Nat}
theorem dc.same (h:dc t H p row ws pl) (s:aN H I):dc t I p row ws pl:=by
 obtain ⟨aW,ar,a',aw,aG⟩:=h;exact ⟨aW,ar,a',s _ _ aw,s _ _ aG⟩
theorem dc.wI (h:dc t H p row ws pl) (s:cK q H I) (n:p ≠ q) (k:∃ C ar aR,H q=some (.ins C ar aR)):dc t I p row ws pl:=by
 obtain ⟨aW,ar,a',aw,aG⟩:=h;obtain ⟨C,DC,aR,bS⟩:=k;exact ⟨aW,ar,a',s _ _ n aw,s _ _ (br aG bS (by intro z;cases z)) aG⟩
theorem dc.ins (h:dc t H p row ws pl):∃ C ar aR,H p=some (.ins C ar aR):=by
 obtain ⟨aW,ar,a',aw,aG⟩:=h;exact ⟨_,_,_,aw⟩
theorem dc.no (row:Int) (a':Addr) (pl:Int) (h:tz.contains m=false):(mm row a' pl).lookup m=none:=t6 tz (xA ..) h
theorem K1 (T:Txt w K mg t) (e:H p=some (.ins t.g8 ar (mm row a' pl))):fa K H p (ab "place") (.int pl):=
 ⟨_,ar,_,e,T.f9,T.FF,ac tz 2 (xA ..) (by ac_nf) rfl⟩
theorem Ho (T:Txt w K mg t) (e:H p=some (.ins t.g8 ar (mm row a' pl))):fa K H p (ab "told") (.ref a'):=
 ⟨_,ar,_,e,T.f9,T.W4,ac tz 1 (xA ..) (by ac_nf) rfl⟩
end
def Qo (t:bQ):bX:=fun vs H Q _=>∃ (p ar a':Addr) (row:Int),vs=[.ref p,.int row,.ref a']/\H p=some (.ins t.g8 ar [])/\Q .b' (upd H p (.ins t.g8 ar (mm row a' 0)))
def afi (t:bQ):bX:=fun vs H Q _=>∃ p row ws pl,vs=[.ref p]/\dc t H p row ws pl/\pl <= ws.length/\Q (.str (ws.getD pl (ab ""))) H
def agw (t:bQ):bX:=fun vs H Q _=>∃ p row ws pl,vs=[.ref p]/\dc t H p row ws pl/\Q (.bB (decide (pl < ws.length))) H
def IL (t:bQ) (H:au) (p:Addr) (row:Int) (ws:List Str) (pl:Nat) (R:au->Prop):Prop:=∀ I,cK p H I->(aI H->aI I)->dc t I p row ws pl->R I
def amH (t:bQ):bX:=fun vs H Q _=>∃ p row ws pl,vs=[.ref p,.bB true]/\dc t H p row ws pl/\IL t H p row ws (pl + 1) (Q .b')
def aiX (K:ba) (t:bQ):bX:=fun vs H Q _=>∃ p row ws pl x c xs,vs=[.ref p,.ref c]/\dc t H p row ws pl/\ws[pl]? = some x/\aF K H c (aX xs)/\x ∈ xs/\IL t H p row ws (pl + 1) (Q (.str x))
def aj2 (t:bQ):bX:=fun vs H Q _=>∃ p row ws pl x lo ah v,vs=[.ref p,.int lo,.int ah]/\dc t H p row ws pl/\ws[pl]? = some x/\i6 x lo ah=.int v/\aI H/\IL t H p row ws (pl + 1) (Q (.int v))
def aiD (t:bQ):bX:=fun vs H Q _=>∃ p row ws pl,vs=[.ref p]/\dc t H p row ws pl/\pl=ws.length/\Q .b' H
theorem ahG:cv P base T 1 t.yl t.Bu xT (Qo t):=by
 exists T.RJ.ok ams,9
 obtain ⟨p,ar,a',row,rfl,aq,q⟩:=h;refine ⟨_,(aP (eF (U 0) (U 1) rfl)
   (aP (eF (U 0) (U 2) rfl)
   (a6 (eF (U 0) aM rfl)))),?_⟩
 nofun;refine ⟨_,_,_,aq,T.f9,T.ahr,by decide,?_⟩;refine ⟨_,_,_,db,T.f9,T.W4,g7 (n:=999) (by decide),?_⟩;refine ⟨_,_,_,db,T.f9,T.FF,g7 (n:=999) (g7 (n:=998) (by decide)),?_⟩;simp only [tp];rw [show cT (ab "row") (V.int row) ([]:List (Str × V))=[(ab "row",V.int row)] from fw [] rfl (by ac_nf),
  show cT (ab "told") (V.ref a') ([(ab "row",V.int row)]:List (Str × V))=[(ab "row",V.int row),(ab "told",V.ref a')] from fw [ab "row"] rfl (by ac_nf),
  show cT (ab "place") (V.int 0) ([(ab "row",V.int row),(ab "told",V.ref a')]:List (Str × V))=[(ab "row",V.int row),(ab "told",V.ref a'),(ab "place",V.int 0)] from fw [ab "row",ab "told"] rfl (by ac_nf)]
 exact q
theorem DB:cv P base T 1 t.ad t.Mg ["self"] (afi t):=by
 exists T.S8.ok aeD,9
 obtain ⟨p,row,ws,pl,rfl,⟨aW,ar,a',aw,aG⟩,hle,q⟩:=h;refine ⟨_,(aP (en (du fA (bx (U 0) rfl) (gi i9 rfl T.iI iT (ai (bx (U 0) rfl) aE)) (cR _)) (a6 (cz dD)) fe)
   (a6 (cz (cE ed (bx (U 0) rfl) (bx (U 0) rfl))))),?_⟩
 nofun;refine eg (decide ((pl:Int)=(ws.length:Int))) (fun Q a9=>?_) (fun c=>?_) (fun c=>?_)
 .nofun;refine ⟨_,K1 T aw,_,Ho T aw,_,rfl,_,.inl (aF.of aG),rfl,?_⟩;rw [fz];nofun;exact a9
 .nofun;have c':pl=ws.length:=by have:=of_decide_eq_true c;omega
  rw [show ws.getD pl (ab "")=ab "" by rw [j_,VC (by omega)];rfl] at q;exact q
 .nofun;have c':pl < ws.length:=by have:=of_decide_eq_false c;omega
  have ag:ws[pl]? = some ws[pl]:=bo c';rw [j_,ag] at q;exact ⟨_,Ho T aw,_,K1 T aw,_,rfl,_,_,rfl,aF.of aG,_,cy (sC ag),q⟩
theorem O1:cv P base T 1 t.zO t.EN ["self"] (agw t):=by
 exists T.Ta.ok ak2,9
 obtain ⟨p,row,ws,pl,rfl,⟨aW,ar,a',aw,aG⟩,q⟩:=h;refine ⟨_,(a6 (cz (ie lV (bx (U 0) rfl) (gi i9 rfl T.iI iT (ai (bx (U 0) rfl) aE)) (cR _)))),?_⟩;nofun;have e:decide (pl < ws.length)=decide ((pl:Int) < (ws.length:Int)):=by rw [lp];simp
 rw [e] at q;refine ⟨_,K1 T aw,_,Ho T aw,_,rfl,_,.inl (aF.of aG),?_⟩;rw [fz];exact ⟨_,rfl,q⟩
theorem II:cv P base T 1 t.DH t.E5 Bx (amH t):=by
 exists T.OE.ok afg,9
 obtain ⟨p,row,ws,pl,rfl,⟨aW,ar,a',aw,aG⟩,q⟩:=h;refine ⟨_,(aP (en (xY (qd (U 1))) (a6 oF) fe)
   (a6 (Dy (U 0) aM wL))),?_⟩
 nofun;refine eg false (fun Q a9=>?_) (fun ay=>nomatch ay) (fun _=>?_)
 .nofun;exact a9
 .nofun;refine ⟨_,_,_,aw,T.f9,T.FF,_,ac tz 2 (xA ..) (by ac_nf) rfl,_,rfl,_,_,aw,by rw [<- aO (f:=(·.1)),xA];decide,?_⟩;rw [anz];exact q _ cK.put (fun n=>n.upd) ⟨aW,ar,a',db,by rw [aA (br aG aw (by intro z;cases z))];exact aG⟩
theorem Be:cv P base T 2 t.Cf t.Kw F4 (aiX K t):=by
 refine cB (DB T) fun tR=>cB (II T) fun w_=>?_;exists T.PJ.ok Qm,9
 obtain ⟨p,row,ws,pl,x,c,xs,rfl,R,ag,ay,hm,q⟩:=h;refine ⟨_,(aP (cg (i:=2) Qm.aH (gw (U 0) T.f9 T.BJ tR ao T.Ey .nil cj))
   (aP (eo (Gc (U 0) T.f9 T.J8 w_ ao T.FZ .nil cj (ai (ie HE (U 2) (U 1) (by with_unfolding_all rfl)) aE)))
   (a6 (cz (U 2))))),?_⟩
 have dW:pl < ws.length:=(cb.mp ag).1;have bj:ws.getD pl (ab "")=x:=by rw [j_,ag];rfl
 obtain ⟨_,ar,a',aw,aG⟩:=id R;nofun;refine ⟨_,_,aw,dc.no _ _ _ (by ac_nf),⟨p,row,ws,pl,rfl,R,by omega,?_⟩⟩;rw [bj];nofun;refine ⟨_,_,aw,dc.no _ _ _ (by ac_nf),_,.inl ay,rfl,De xs,?_⟩;rw [CG,decide_eq_true hm];refine ⟨p,row,ws,pl,rfl,R,fun I s1 s2 s3=>?_⟩;nofun;exact q I s1 s2 s3
theorem BI:cv P base T 4 t.BZ t.IG Ig (aj2 t):=by
 refine cB (DB T) fun tR=>cB (II T) fun w_=>cB (ak0 T) fun am2=>?_;exists T.Uw.ok Qy,9
 obtain ⟨p,row,ws,pl,x,lo,ah,v,rfl,R,ag,aJ,bG,q⟩:=h;refine ⟨_,(aP (cg (i:=3) Qy.aH (cH am2 ao T.X4 T.LX.bJ T.af0 (ai (gw (U 0) T.f9 T.BJ tR ao T.Ey .nil cj) (ai (U 1) (ai (U 2) aE)))))
   (aP (eo (Gc (U 0) T.f9 T.J8 w_ ao T.FZ .nil cj (ai (ie PN (U 3) r8 (cR _)) aE)))
   (a6 (cz (U 3))))),?_⟩
 have dW:pl < ws.length:=(cb.mp ag).1;have bj:ws.getD pl (ab "")=x:=by rw [j_,ag];rfl
 obtain ⟨aW,ar,a',aw,aG⟩:=id R;nofun;refine ⟨_,_,aw,dc.no _ _ _ (by ac_nf),⟨p,row,ws,pl,rfl,R,by omega,?_⟩⟩;rw [bj];nofun;refine ⟨x,lo,ah,rfl,aW.2 x (cQ ag),bG,?_⟩;rw [aJ];nofun;refine ⟨_,_,aw,dc.no _ _ _ (by ac_nf),?_⟩;refine ⟨p,row,ws,pl,rfl,R,fun I s1 s2 s3=>?_⟩;nofun;exact q I s1 s2 s3
theorem UQ:cv P base T 2 t.EB t.MP ["self"] (aiD t):=by
 refine cB (O1 T) fun Fl=>?_;exists T.N5.ok afJ,9
 obtain ⟨p,row,ws,pl,rfl,R,aK,q⟩:=h;obtain ⟨aW,ar,a',aw,aG⟩:=id R;refine ⟨_,(a6 (en (qd (gw (U 0) T.f9 T.VQ Fl ao T.TU .nil cj)) (a6 oF) fe)),?_⟩;nofun;refine eg false (fun Q a9=>?_) (fun ay=>nomatch ay) (fun _=>?_)
 .nofun;refine ⟨_,_,aw,dc.no _ _ _ (by ac_nf),⟨p,row,ws,pl,rfl,R,?_⟩⟩;rw [decide_eq_false (by omega)];exact ⟨_,rfl,a9⟩
 .nofun;exact q
noncomputable abbrev az (ws:List Str) (k:Nat):Str:=ws.getD k (ab "")
theorem L8 {k:Nat} (h:az ws k ≠ ab ""):k < ws.length:=by
 refine Classical.byContradiction fun z=>h ?_
 unfold az;rw [j_,VC (by omega)];rfl
theorem XI (w:Str) (lo ah:Int):(∃ v,i6 w lo ah=.int v/\lo <= v/\v <= ah/\w ≠ ab "")\/i6 w lo ah=.b':=by
 unfold i6;split
 .rename_i h;rw [jF] at h;refine .inl ⟨val w,rfl,?_,?_,fun z=>?_⟩
  .have:=h.2;simp at this;omega
  .have:=h.2;simp at this;omega
  .have af:=h.1;rw [z] at af;exact absurd af (by ac_nf)
 .exact .inr rfl
def afc (x:Str):Prop:=x.length <= 1000/\∀ c ∈ x.cps.toList,c < 16 ^ 8
noncomputable def iL (ds:List bl) (x:Str):Option bl:=ds.find? fun d=>decide (d.name=x)
theorem xI {w:World} {K:ba} {mg:Str->Option Value} {base:Heap} {j k:Nat} (V:mN P w K mg base CX j mI m ps my) (h:j <= k):mN P w K mg base CX k mI m ps my:=⟨fun C cV=>by
 obtain ⟨f,fd,af,ak,bc,c4⟩:=V.ok C cV;exact ⟨f,fd,af,ak,bc.mono h,c4⟩⟩
noncomputable def kz (x:Str) (lo ah:Int):Option Int:=if ke x && !(decide (val x < lo) || decide (ah < val x)) then some (val x) else none
theorem JC (x:Str) (lo ah:Int):i6 x lo ah=(kz x lo ah).elim .b' .int:=by
 unfold i6 kz;split <;> rfl
theorem SA {x:Str} {lo ah v:Int} (h:i6 x lo ah=.int v):kz x lo ah=some v:=by
 rw [JC] at h;cases e:kz x lo ah with
 | none=>rw [e] at h;cases h
 | some u=>rw [e] at h;injection h with h;rw [h]
theorem Fx {k:Nat} {lo ah v:Int} (h:i6 (az ws k) lo ah=.int v):k + 1 <= ws.length/\lo <= v/\v <= ah:=by
 rcases XI (az ws k) lo ah with ⟨u,bt,af,ak,bc⟩ | a3
 .rw [bt] at h;injection h with h;subst h;exact ⟨L8 bc,af,ak⟩
 .rw [a3] at h;cases h
theorem nt {a x:α} (h:(l ++ [a])[i]? = some x):(i < l.length/\l[i]? = some x)\/(i=l.length/\x=a):=by
 by_cases ah:i < l.length
 .rw [n8 ah] at h;exact .inl ⟨ah,h⟩
 .rw [mK (by omega)] at h;have h0:i - l.length=0:=by
   cases gg:i - l.length with
   | zero=>rfl
   | succ m=>rw [gg] at h;simp at h
  rw [h0] at h;exact .inr ⟨by omega,(by simpa using h:a=x).symm⟩
theorem zt {k:Nat} (h:k < ws.length):ws[k]? = some (az ws k):=by
 unfold az;rw [j_,bo h];rfl
theorem cm {α β:Type} {f:α->β} {l:List α} {i:Nat} {y:β} (h:(l.map f)[i]? = some y):∃ x,l[i]? = some x/\y=f x:=by
 rw [dO] at h;cases e:l[i]? with
 | none=>rw [e] at h;cases h
 | some x=>rw [e] at h;exact ⟨x,rfl,(dX h).symm⟩
def abK (t:bQ) (bU H:au) (p:Addr) (rows:List (List Str)):Prop:=∃ qs:List Addr,H p=some (.lst (qs.map V.ref))/\bU p=none/\qs.length=rows.length/\∀ (i:Nat) (q:Addr) (r:List Str),qs[i]? = some q->rows[i]? = some r->dc t H q i r 0/\bU q=none
def Ps (t:bQ):bX:=fun vs H Q _=>∃ x,vs=[.str x]/\x.length <= 20000/\(∀ r ∈ hu x,r.length <= 1000/\∀ y ∈ r,y.length <= 1000)/\aI H/\∀ p I,aN H I->aI I->abK t H I p (hu x)->Q (.ref p) I
theorem NG:cv P base T 3 t.ya t.wG ["text"] (Ps t):=by
 have agM:cJ P w K mg base dt 2 t.D7 t.zX ["text"] U6:=(aaV T).mono (by decide);have aiv:cJ P w K mg base dt 1 t.yl t.Bu xT (Qo t):=ahG T;exists T.DX.ok afM,9
 obtain ⟨x,rfl,aW,v',bG,q⟩:=h;refine ⟨_,(a6 (cz (ij rfl (Ty rfl T.Bh (ai (cH agM ao T.aaC T.H2.bJ T.akS (ai (U 0) aE)) aE)) (g0 (sc:=bE GO) rfl (by ac_nf)) (N:=["row","told"]) (sel:=[none,none]) (gO (M:=["text"]) (by ac_nf)) (fP.of (fun _ _ _ _=>(la (K:=K) (n:=2) rfl rfl (fc (cu (i:=0) (eJ (N:=["row","told"]) (by ac_nf) rfl)) (fc (cu (i:=1) (eJ (N:=["row","told"]) (by ac_nf) rfl)) k8)))) (fun _ _ _ _=>⟨_,i0,by walk_at "B"⟩) (fun _ _ _ _=>⟨_,(oC T.acq aiv ao rfl T.X9 T.ad6 .nil cj (ai (U 0) (ai (U 1) aE))),by walk_at "B"⟩))))),?_⟩;nofun;refine ⟨x,rfl,aW,bG,fun p H1 mw jJ ⟨ps,aq,gc,hc,cG,pH⟩=>?_⟩;nofun;refine ⟨⟨_,aF.of aq⟩,?_⟩;have hlen:ps.length <= sizeLine:=by
  rw [cG];unfold hu;rw [aO];have:=lw (x:=x) (y:=nl) (by rw [FB];exact bR _);exact c7 (show _ <= 40000 by omega) (by decide)
 refine dg.enum (xs:=ps.map V.ref) (fun i ys av=>aN H1 av/\aI av/\∃ qs:List Addr,ys=qs.map V.ref/\qs.length=i/\∀ (j:Nat) (q:Addr) (r:List Str),qs[j]? = some q->(hu x)[j]? = some r->dc t av q j r 0/\H1 q=none)
  (by rw [aO];exact hlen) ⟨aN.refl H1,jJ,[],rfl,rfl,fun j q r h _=>by simp at h⟩ ?_ ?_ ?_
 .rintro i ys av ah bb;ac_rfl
  obtain ⟨s2,ck,qs,rfl,aD,_⟩:=bb;subst aV;exact ⟨aF.of (s2 _ _ aq),by rw [aO];omega⟩
 .rintro i v ys av d3 aJ ⟨s2,ck,qs,rfl,aD,al⟩ hY N bu;rw [dO] at aJ;cases DL:ps[i]? with
  | none=>rw [DL] at aJ;cases aJ
  | some pi=>
   rw [DL] at aJ;have e:=(dX aJ).symm;subst e;refine Dv ?_;nofun;refine ⟨Sub.aaN,fun a ar aZ hd cx=>?_⟩;refine ⟨a,ar,pi,i,rfl,db,rfl,?_⟩;rw [tp];have s3:aN av (upd (upd (upd av d3 (.tup [.int i,.ref pi])) ar (.own a)) a (.ins t.g8 ar (mm i pi 0))):=by
    have aj:aN av (upd av d3 (.tup [.int i,.ref pi])):=bf hY;exact ((aN.trans aj (bf hd)).gW (aj.free aZ))
   obtain ⟨r,ao⟩:∃ r,(hu x)[i]? = some r:=⟨(hu x)[i]'(by rw [<- cG];exact (cb.mp DL).1),bo _⟩;have ag9:av a=none:=(bf hY).free aZ;refine bu _ _ ⟨s2.trans s3,((ck.upd).upd).upd,qs ++ [a],by rw [fx];rfl,by rw [dS,aD];rfl,fun j dV dM af ak=>?_⟩;by_cases aL:j < qs.length
   .rw [n8 aL] at af;obtain ⟨eV,es⟩:=al j dV dM af ak;exact ⟨eV.same s3,es⟩
   .rw [mK (by omega)] at af;have pF:j - qs.length=0:=by
     cases gg:j - qs.length with
     | zero=>rfl
     | succ n=>rw [gg] at af;simp at af
    rw [pF] at af;have bS:a=dV:=by simpa using af
    subst bS;have er:j=i:=by omega
    subst er;rw [ao] at ak;cases ak;refine ⟨⟨v' r (cQ ao),ar,pi,db,?_⟩,s2.free ag9⟩;exact s3 _ _ (s2 _ _ (pH j pi r DL ao).1)
 .rintro ys av ⟨s2,ck,qs,rfl,aD,al⟩ d3 hY;refine q d3 _ ((mw.trans s2).gW ((mw.trans s2).free hY)) (ck.upd) ⟨qs,db,(mw.trans s2).free hY,by rw [aD,aO,cG],fun i dV r af ak=>?_⟩;obtain ⟨eV,es⟩:=al i dV r af ak;exact ⟨eV.same (bf hY),mw.free es⟩
def af1 (q:Addr) (H:au) (R:au->Prop):Prop:=∀ I,cK q H I->aI I->R I
def OU (t:bQ):bX:=fun vs H Q _=>∃ q row n,vs=[.ref q]/\dc t H q row [ab "ring",num n] 0/\(2 <= n/\n <= 99)/\aI H/\af1 q H (Q (.int n))
def od (t:bQ) (H:au) (wl:Addr) (ds:List bl):Prop:=∃ as:List Addr,H wl=some (.lst (as.map V.ref))/\as.length=ds.length/\∀ (i:Nat) (a:Addr) (d:bl),as[i]? = some a->ds[i]? = some d->eT t H a d
def ahH (t:bQ):bX:=fun vs H Q _=>∃ q row ws pl wl ds x,vs=[.ref q,.ref wl]/\dc t H q row ws pl/\ws[pl]? = some x/\made x oc 8=true/\od t H wl ds/\ds.length <= 12/\(∀ d ∈ ds,d.name ≠ x)/\aI H /\
 ∀ I,cK q H I->aI I->dc t I q row ws (pl + 1)->Q (.str x) I
def agk (t:bQ):bX:=fun vs H Q _=>∃ q row ws pl n st fs,vs=[.ref q,.int n,.int st]/\dc t H q row ws pl/\ws[pl]? = some (num fs)/\(0 <= st/\st < n)/\(0 <= fs/\fs < n)/\st ≠ fs/\n <= 99/\aI H /\
 ∀ I,cK q H I->aI I->dc t I q row ws (pl + 1)->Q (.int fs) I
def ZV (t:bQ):bX:=fun vs H Q _=>∃ d:bl,vs=[.str (eR d.k),.str d.name,.int d.start,.int d.fin,.int d.off,.int d.near,.int d.least]/\d.k < 3/\∀ x I,aN H I->(aI H->aI I)->eT t I x d->H x=none->Q (.ref x) I
def UL (t:bQ):bX:=fun vs H Q _=>∃ q row n wl ds d,vs=[.ref q,.int n,.ref wl]/\dc t H q row (bn d) 0/\p4 n d/\(2 <= n/\n <= 99)/\od t H wl ds/\ds.length <= 12/\(∀ e ∈ ds,e.name ≠ d.name)/\aI H /\
 ∀ x I,cK q H I->aI I->eT t I x d->H x=none->Q (.ref x) I
theorem od.wI {t:bQ} (h:od t H wl ds) (s:cK q H I) (r:dc t H q row ws pl):od t I wl ds:=by
 obtain ⟨as,aw,aG,al⟩:=h;obtain ⟨aW,ar,a',bS,er⟩:=r;refine ⟨as,s _ _ (br aw bS (by intro z;cases z)) aw,aG,fun i a d af ak=>?_⟩;obtain ⟨aC,ht,gh⟩:=al i a d af ak;refine ⟨aC,ht,s _ _ (fun z=>?_) gh⟩;subst z;rw [gh] at bS;have dZ:=dX bS;injection dZ with _ _ j7;have kH:(7:Nat)=3:=congrArg ru j7;omega
theorem od.same {t:bQ} (h:od t H wl ds) (s:aN H I):od t I wl ds:=by
 obtain ⟨as,aw,aG,al⟩:=h;exact ⟨as,s _ _ aw,aG,fun i a d af ak=>(al i a d af ak).same s⟩
theorem Yo:cv P base T 5 t.Ah t.B4 ["reader"] (OU t):=by
 refine cB (Be T) fun rW=>cB (BI T) fun nI=>cB (UQ T) fun H4=>?_;exists T.jp.ok MZ,9
 obtain ⟨q,row,n,rfl,R,a3,bG,ku⟩:=h;refine ⟨_,(aP (eo (Gc (U 0) T.f9 T.wF rW ao T.ze .nil cj (ai (gC (ai dD aE)) aE)))
   (aP (cg (i:=1) MZ.aH (Gc (U 0) T.f9 T.q0 nI ao T.rv .nil cj (ai (me rfl T.aa4 T.adE) (ai (me rfl T.aih T.aa') aE))))
   (aP (eo (gw (U 0) T.f9 T.VW H4 ao T.QO .nil cj))
   (a6 (cz (U 1)))))),?_⟩
 obtain ⟨_,ar,a',aw,aG⟩:=id R;nofun;refine ⟨_,_,aw,dc.no _ _ _ (by ac_nf),by decide,fun p aq=>?_⟩;have s0:aN H (upd H p (.lst [V.str (ab "ring")])):=bf aq;refine ⟨q,row,_,0,ab "ring",p,[ab "ring"],rfl,R.same s0,rfl,aF.of db,by simp,fun H1 s1 b9 j4=>?_⟩;obtain ⟨_,Hw,PI,f1,f2⟩:=id j4;nofun;refine ⟨_,_,f1,dc.no _ _ _ (by ac_nf),?_⟩;have jJ:=b9 bG.upd;refine ⟨q,row,_,1,num n,2,99,n,rfl,j4,rfl,rG (by omega) (by omega) a3.1 a3.2,jJ,fun av s2 ck e'=>?_⟩;obtain ⟨_,tg,E6,g1,g2⟩:=id e';nofun;refine ⟨_,_,g1,dc.no _ _ _ (by ac_nf),?_⟩;refine ⟨q,row,_,2,rfl,e',rfl,?_⟩;nofun;exact ku av (((cK.of s0).trans s1).trans s2) (ck jJ)
theorem ahF:cv P base T 3 t.Hr t.H5 JU (ahH t):=by
 refine cB (DB T) fun tR=>cB (II T) fun w_=>cB (Xo T) fun akN=>?_;exists T.Jo.ok Vq,9
 obtain ⟨q,row,ws,pl,wl,ds,x,rfl,R,ag,hm,gk,fq,vW,bG,ku⟩:=h;refine ⟨_,(aP (cg (i:=2) Vq.aH (gw (U 0) T.f9 T.BJ tR ao T.Ey .nil cj))
   (aP (eo (Gc (U 0) T.f9 T.J8 w_ ao T.FZ .nil cj (ai (y9 (cH akN ao T.Zz T.G6.bJ T.abd (ai (U 2) aE)) (u7 (ie F7 (U 2) (ij rfl (eS (U 1)) (g0 (sc:=bE Ie) rfl (by ac_nf)) (N:=["way"]) (sel:=[none]) (gO (M:=["reader","ways","name"]) (by ac_nf)) (fP.of (fun _ _ _ _=>(cu (i:=0) (eJ (N:=["way"]) (by ac_nf) rfl))) (fun _ _ _ _=>⟨_,i0,by walk_at "B"⟩) (fun _ _ _ _=>⟨_,(bx (U 0) rfl),by walk_at "B"⟩))) (by with_unfolding_all rfl)))) aE)))
   (a6 (cz (U 2))))),?_⟩
 have dW:pl < ws.length:=(cb.mp ag).1;have bj:ws.getD pl (ab "")=x:=by rw [j_,ag];rfl
 obtain ⟨aW,ar,a',aw,aG⟩:=id R;nofun;refine ⟨_,_,aw,dc.no _ _ _ (by ac_nf),⟨q,row,ws,pl,rfl,R,by omega,?_⟩⟩;rw [bj];nofun;refine ⟨_,_,aw,dc.no _ _ _ (by ac_nf),?_⟩;refine ⟨x,rfl,aW.2 x (cQ ag),bG,?_⟩;rw [hm];nofun;obtain ⟨as,dJ,eh,al⟩:=gk;refine ⟨⟨_,aF.of dJ⟩,?_⟩;have hle:(as.map V.ref).length <= sizeLine:=by rw [aO,eh];exact c7 fq (by decide)
 refine dg.mB (xs:=as.map V.ref) (zs:=ds.map fun d=>V.str d.name) (aF.of dJ) hle (by rw [aO,aO,eh]) (fun i v z N aJ gY bu=>?_) (fun p aq=>?_)
 .obtain ⟨a,aZ,rfl⟩:=cm aJ;obtain ⟨d,hd,rfl⟩:=cm gY;nofun;exact ⟨Sub.name,_,(al i a d aZ hd).IX T,bu⟩
 .nofun;have fJ:(ds.map fun d=>V.str d.name)=aX (ds.map (·.name)):=by unfold aX;rw [nr];rfl
  rw [fJ];refine ⟨_,.inl (aF.of db),rfl,De _,?_⟩;rw [CG,decide_eq_false (fun z=>by
   obtain ⟨d,hd,e⟩:=cw.mp z;exact vW d hd e)]
  have s0:aN H (upd H p (.lst (aX (ds.map (·.name))))):=bf aq;exact ⟨q,row,ws,pl,rfl,R.same s0,fun I s1 b9 j4=>ku I ((cK.of s0).trans s1) (b9 bG.upd) j4⟩
theorem aj1:cv P base T 5 t.L3 t.Ji AX (agk t):=by
 refine cB (DB T) fun tR=>cB (BI T) fun nI=>?_;exists T.G_.ok aiP,9
 obtain ⟨q,row,ws,pl,n,st,fs,rfl,R,ag,gd,FU,cx,a3,bG,ku⟩:=h;refine ⟨_,(aP (en (du fA (gw (U 0) T.f9 T.BJ tR ao T.Ey .nil cj) (j' yb rfl T.w2 yy (ai (U 2) aE)) (cR _)) (a6 oF) fe)
   (a6 (cz (Gc (U 0) T.f9 T.q0 nI ao T.rv .nil cj (ai aM (ai (bP lA (U 1) aM) aE)))))),?_⟩
 have dW:pl < ws.length:=(cb.mp ag).1;have bj:ws.getD pl (ab "")=num fs:=by rw [j_,ag];rfl
 obtain ⟨aW,ar,a',aw,aG⟩:=id R;nofun;refine eg false (fun Q a9=>?_) (fun ay=>nomatch ay) (fun _=>?_)
 .nofun;refine ⟨_,_,aw,dc.no _ _ _ (by ac_nf),⟨q,row,ws,pl,rfl,R,by omega,?_⟩⟩;rw [bj];nofun;refine ⟨Mw (by omega),?_⟩;rw [decide_eq_false (fun z=>cx (amh (by omega) (by omega) (by omega) (by omega) z).symm)];exact a9
 .nofun;refine ⟨_,_,aw,dc.no _ _ _ (by ac_nf),⟨q,row,ws,pl,num fs,0,n - 1,fs,rfl,R,ag,rG (by omega) (by omega) (by omega) (by omega),bG,fun H1 s1 b9 j4=>?_⟩⟩;exact ku H1 s1 (b9 bG) j4
theorem alx {t:bQ} {x ar:Addr} (ag:H x=none) (hd:H ar=none) (aC:d.k < 3) :
  aN H (upd (upd (upd H ar (.own x)) x (.ins (t.fO d.k) ar [])) x (.ins (t.fO d.k) ar (oX d)))/\(aI H->aI (upd (upd (upd H ar (.own x)) x (.ins (t.fO d.k) ar [])) x (.ins (t.fO d.k) ar (oX d)))) /\
   eT t (upd (upd (upd H ar (.own x)) x (.ins (t.fO d.k) ar [])) x (.ins (t.fO d.k) ar (oX d))) x d:=
 ⟨(((aN.refl H).gW hd).gW ag).gW ag,fun n=>((n.upd).upd).upd,aC,ar,db⟩
theorem agQ:cv P base T 4 t.GA t.IM z0 (ZV t):=by
 have am5:cJ P w K mg base dt 2 t.x2 t.zy kG (uy t 0):=akD T;have amX:cJ P w K mg base dt 2 t.Uf t.DF kG (uy t 1):=adB T;have aio:cJ P w K mg base dt 2 t.xh t.AF kG (uy t 2):=aiM T;exists T.F3.ok ab_,9
 obtain ⟨d,rfl,aC,q⟩:=h;refine ⟨_,(aP (en (du fA (U 0) dD (cR _)) (a6 (cz (oC T.aiU am5 ao rfl T.ai9 T.alf .nil cj (ai (U 1) (ai (U 2) (ai (U 3) (ai (U 4) (ai (U 5) (ai (U 6) aE))))))))) fe)
   (aP (en (du fA (U 0) dD (cR _)) (a6 (cz (oC T.Y3 amX ao rfl T.amv T.ah_ .nil cj (ai (U 1) (ai (U 2) (ai (U 3) (ai (U 4) (ai (U 5) (ai (U 6) aE))))))))) fe)
   (a6 (cz (oC T.agI aio ao rfl T.ag1 T.afR .nil cj (ai (U 1) (ai (U 2) (ai (U 3) (ai (U 4) (ai (U 5) (ai (U 6) aE))))))))))),?_⟩
 have fin:∀ (x ar:Addr),H x=none->H ar=none->Q (.ref x) (upd (upd (upd H ar (.own x)) x (.ins (t.fO d.k) ar [])) x (.ins (t.fO d.k) ar (oX d))):=fun x ar ag hd=>by
  obtain ⟨hJ,hv,l3⟩:=alx (t:=t) (d:=d) ag hd aC;exact q x _ hJ hv l3 ag
 obtain ⟨k,name,start,fs,off,near,least⟩:=d
 match k,aC with
 | 0,_=>
  (nofun; repeat (dsimp only [eR];nofun));refine eg true (fun Q a9=>?_) (fun _=>?_) (fun ay=>nomatch ay)
  .nofun;exact a9
  .nofun;exact fun x ar ag hd cx=>⟨x,ar,⟨0,name,start,fs,off,near,least⟩,rfl,rfl,db,rfl,fin x ar ag hd⟩
 | 1,_=>
  (nofun; repeat (dsimp only [eR];nofun));refine eg false (fun Q a9=>?_) (fun ay=>nomatch ay) (fun _=>?_)
  .nofun;rw [decide_eq_false (by ac_nf)];exact a9
  .nofun;refine eg true (fun Q a9=>?_) (fun _=>?_) (fun ay=>nomatch ay)
   .nofun;exact a9
   .nofun;exact fun x ar ag hd cx=>⟨x,ar,⟨1,name,start,fs,off,near,least⟩,rfl,rfl,db,rfl,fin x ar ag hd⟩
 | 2,_=>
  (nofun; repeat (dsimp only [eR];nofun));refine eg false (fun Q a9=>?_) (fun ay=>nomatch ay) (fun _=>?_)
  .nofun;rw [decide_eq_false (by ac_nf)];exact a9
  .nofun;refine eg false (fun Q a9=>?_) (fun ay=>nomatch ay) (fun _=>?_)
   .nofun;rw [decide_eq_false (by ac_nf)];exact a9
   .nofun;exact fun x ar ag hd cx=>⟨x,ar,⟨2,name,start,fs,off,near,least⟩,rfl,rfl,db,rfl,fin x ar ag hd⟩
theorem aeU:cv P base T 6 t.B6 t.BF Dg (UL t):=by
 refine cB (Be T) fun rW=>cB (BI T) fun nI=>cB (UQ T) fun H4=>cB (ahF T) fun ZJ=>cB (aj1 T) fun abm=>cB (agQ T) fun Zu=>?_;exists T.E'.ok rt,9
 obtain ⟨q,row,n,wl,ds,d,rfl,R,hd,a3,gk,fq,vW,bG,ku⟩:=h;refine ⟨_,(aP (cg (i:=3) rt.aH (Gc (U 0) T.f9 T.wF rW ao T.ze .nil cj (ai (gC (ai dD (ai dD (ai dD aE)))) aE)))
   (aP (cg (i:=4) rt.aH (cH ZJ ao T.wv T.Jo.bJ T.aeV (ai (U 0) (ai (U 2) aE))))
   (aP (cg (i:=5) rt.aH (Gc (U 0) T.f9 T.q0 nI ao T.rv .nil cj (ai aM (ai (bP lA (U 1) aM) aE))))
   (aP (cg (i:=6) rt.aH (cH abm ao T.agD T.G_.bJ T.akJ (ai (U 0) (ai (U 1) (ai (U 5) aE)))))
   (aP (cg (i:=7) rt.aH (Gc (U 0) T.f9 T.q0 nI ao T.rv .nil cj (ai aM (ai (me rfl T.akb T.X3) aE))))
   (aP (cg (i:=8) rt.aH (Gc (U 0) T.f9 T.q0 nI ao T.rv .nil cj (ai aM (ai (me rfl T.ahQ T.afp) aE))))
   (aP (cg (i:=9) rt.aH (Gc (U 0) T.f9 T.q0 nI ao T.rv .nil cj (ai aM (ai (me rfl T.anw T.amI) aE))))
   (aP (eo (gw (U 0) T.f9 T.VW H4 ao T.QO .nil cj))
   (a6 (cz (cH Zu ao T.Yg T.F3.bJ T.ahq (ai (U 3) (ai (U 4) (ai (U 5) (ai (U 6) (ai (U 7) (ai (U 8) (ai (U 9) aE)))))))))))))))))),?_⟩
 have hi:=hd.st;have gD:=hd.fs;have m7:=hd.of;have oh:=hd.JO;have rL:=hd.le;obtain ⟨_,ar,a',aw,aG⟩:=id R;nofun;refine ⟨_,_,aw,dc.no _ _ _ (by ac_nf),by decide,fun p aq=>?_⟩;have s0:aN H (upd H p (.lst [V.str (ab "car"),V.str (ab "foot"),V.str (ab "tram")])):=bf aq;have ic:eR d.k ∈ [ab "car",ab "foot",ab "tram"]:=by
  have:=hd.k
  match d.k,this with
  | 0,_=>simp [eR]
  | 1,_=>simp [eR]
  | 2,_=>simp [eR]
 refine ⟨q,row,_,0,eR d.k,p,[ab "car",ab "foot",ab "tram"],rfl,R.same s0,rfl,aF.of db,ic,fun H1 s1 b9 j4=>?_⟩;have cp:cK q H H1:=(cK.of s0).trans s1;have hJ:=b9 bG.upd;nofun;refine ⟨q,row,_,1,wl,ds,d.name,rfl,j4,rfl,hd.nm,gk.wI cp R,fq,vW,hJ,fun av s2 hv e'=>?_⟩;obtain ⟨_,tg,E6,f2,g2⟩:=id e';have e1:=cp.trans s2;nofun;refine ⟨_,_,f2,dc.no _ _ _ (by ac_nf),⟨q,row,_,2,num d.start,0,n - 1,d.start,rfl,e',rfl,rG (by omega) (by omega) (by omega) (by omega),hv,fun bk s3 dy mu=>?_⟩⟩;have fh:=e1.trans s3;have l3:=dy hv;nofun;refine ⟨q,row,_,3,n,d.start,d.fin,rfl,mu,rfl,hi,gD,hd.ne,a3.2,l3,fun b5 s4 SD mV=>?_⟩;obtain ⟨_,vu,aob,f4,ux⟩:=id mV;have dw:=fh.trans s4;nofun;refine ⟨_,_,f4,dc.no _ _ _ (by ac_nf),⟨q,row,_,4,num d.off,0,30,d.off,rfl,mV,rfl,rG (by omega) (by omega) (by omega) (by omega),SD,fun cP s5 e6 qY=>?_⟩⟩;obtain ⟨_,Ed,an',e7,Ef⟩:=id qY;have ey:=dw.trans s5;have Qs:=e6 SD;nofun;refine ⟨_,_,e7,dc.no _ _ _ (by ac_nf),⟨q,row,_,5,num d.near,0,30,d.near,rfl,qY,rfl,rG (by omega) (by omega) (by omega) (by omega),Qs,fun fS g6 fN CU=>?_⟩⟩;obtain ⟨_,ape,aom,nR,Nk⟩:=id CU;have dB:=ey.trans g6;have SP:=fN Qs;nofun;refine ⟨_,_,nR,dc.no _ _ _ (by ac_nf),⟨q,row,_,6,num d.least,1,60,d.least,rfl,CU,rfl,rG (by omega) (by omega) (by omega) (by omega),SP,fun gE nT jE S9=>?_⟩⟩;obtain ⟨_,aoc,apC,lY,K7⟩:=id S9;have d5:=dB.trans nT;have adW:=jE SP;nofun;refine ⟨_,_,lY,dc.no _ _ _ (by ac_nf),⟨q,row,_,7,rfl,S9,rfl,?_⟩⟩;nofun;refine ⟨d,rfl,hd.k,fun x hz h8 qq J1 DZ=>?_⟩;refine ku x hz (d5.trans (cK.of h8)) (qq adW) J1 ?_;cases jT:H x with
 | none=>rfl
 | some u=>
  by_cases Pp:x=q
  .subst Pp;rw [lY] at DZ;cases DZ
  .rw [d5 x u Pp jT] at DZ;cases DZ
noncomputable abbrev u':List Str:=[ab "places",ab "ways",ab "numbers"]
noncomputable def oR (n:Int) (wl aH:Addr):List (Str × V):=[(ab "places",.int n),(ab "ways",.ref wl),(ab "numbers",.ref aH)]
theorem ED (n:Int) (wl aH:Addr):(oR n wl aH).map (·.1)=u':=rfl
noncomputable def nm (ds:List bl) (i:Nat):Str:=((ds[i]?).map (·.name)).getD (ab "")
noncomputable def m5 (ds:List bl) (i:Nat):List (Key × V):=(fW i).map fun j=>(bD (nm ds j),V.int j)
theorem mq (h:ds[i]? = some d):nm ds i=d.name:=by unfold nm;rw [h];rfl
theorem uo (h:(ds.map (·.name)).Nodup) (ah:i < ds.length) (aL:j < ds.length) (e:nm ds i=nm ds j):i=j:=by
 rw [mq (bo ah),mq (bo aL)] at e;have:=(tP (xs:=ds.map (·.name)) (i:=i) (j:=j) (h₀:=by rw [aO];exact ah) (h₁:=by rw [aO];exact aL) h).mp (by rw [pP,pP];exact e);exact this
theorem aeX (h:(ds.map (·.name)).Nodup):∀ {n:Nat},i < n->n <= ds.length->c1 (m5 ds n) (bD (nm ds i))=some (.int i):=by
 intro n
 induction n with
 | zero=>intro ah _;omega
 | succ n b7=>
  intro ah a3;unfold m5 c1;rw [y5,fx,List.find?_append];by_cases c:i < n
  .have:=b7 c (by omega);unfold m5 c1 at this;cases e:aln (fun c_=>decide (c_.fst=bD (nm ds i))) (oJ (fun j=>((bD (nm ds j):Key),V.int j)) (fW n)) with
   | none=>rw [e] at this;cases this
   | some p=>rw [e] at this;exact this
  .have e:i=n:=by omega
   subst e;have no:aln (fun c_=>decide (c_.fst=bD (nm ds i))) (oJ (fun j=>((bD (nm ds j):Key),V.int j)) (fW i))=none:=by
    rw [Zo];intro p aq;obtain ⟨j,aL,rfl⟩:=cw.mp aq;have hs:=sq.mp aL;simp only [decide_eq_true_eq];intro z;have:=uo h (by omega) (by omega) (qx z);omega
   rw [no];simp
theorem ahg (h:(ds.map (·.name)).Nodup) (a3:n < ds.length):ci (m5 ds n) (bD (nm ds n)) (.int n)=m5 ds (n + 1):=by
 unfold ci;have no:((m5 ds n).any fun c_=>decide (c_.1=bD (nm ds n)))=false:=by
  rw [Kt];intro p aq;obtain ⟨j,aL,rfl⟩:=cw.mp aq;have hs:=sq.mp aL;simp only [decide_eq_true_eq];intro z;have:=uo h (by omega) a3 (qx z);omega
 rw [no];unfold m5;rw [y5,fx];rfl
theorem wb (a:aN H H1) (b:cK q H1 av) (n:H q=none):aN H av:=fun c u e=>b c u (dj e n) (a c u e)
theorem Kh {t:bQ} {p q:Addr} {k l:Nat} (a:dc t H p i ws k) (b:dc t H q j vs l) (n:i ≠ j):p ≠ q:=fun z=>by
 subst z;obtain ⟨_,ar,a',aw,_⟩:=a;obtain ⟨_,ht,aeQ,aG,_⟩:=b;rw [aw] at aG;have bS:=dX aG;injection bS with _ _ er;unfold mm at er;injection er with gh _;injection gh with _ dZ;injection dZ with hE;exact n hE
theorem OG {t:bQ} {p q:Addr} (a:eT t H p d) (b:dc t H q j vs l):p ≠ q:=fun z=>by
 subst z;obtain ⟨_,ar,aw⟩:=a;obtain ⟨_,ht,aeQ,aG,_⟩:=b;rw [aw] at aG;have bS:=dX aG;injection bS with _ _ er;exact absurd (congrArg ru er) (by show ¬ (7:Nat)=3;decide)
def fC (t:bQ) (H:au) (c:Addr) (n:Int) (ds:List bl):Prop:=
 ((ds.map (·.name)).Nodup/\ds.length <= 12)/\∃ ar wl aH,H c=some (.ins t.hQ ar (oR n wl aH))/\od t H wl ds/\H aH=some (.a5 (m5 ds ds.length))
theorem fC.same {t:bQ} {c:Addr} (h:fC t H c n ds) (s:aN H I):fC t I c n ds:=by
 obtain ⟨h0,ar,wl,aH,aw,aG,bS⟩:=h;exact ⟨h0,ar,wl,aH,s _ _ aw,aG.same s,s _ _ bS⟩
theorem iR (n:Int) (wl aH:Addr) (h:u'.contains m=false):(oR n wl aH).lookup m=none:=t6 u' (ED ..) h
section
variable {w:World} {K:ba} {mg:Str->Option Value} {t:bQ} {H:au} {c ar wl aH:Addr} {n:Int}
theorem alW (T:Txt w K mg t) (e:H c=some (.ins t.hQ ar (oR n wl aH))):fa K H c (ab "places") (.int n):=⟨_,ar,_,e,T.gZ,T.Xf,ac u' 0 (ED ..) (by ac_nf) rfl⟩
theorem Wx (T:Txt w K mg t) (e:H c=some (.ins t.hQ ar (oR n wl aH))):fa K H c (ab "ways") (.ref wl):=⟨_,ar,_,e,T.gZ,T.Ve,ac u' 1 (ED ..) (by ac_nf) rfl⟩
theorem Iu (T:Txt w K mg t) (e:H c=some (.ins t.hQ ar (oR n wl aH))):fa K H c (ab "numbers") (.ref aH):=⟨_,ar,_,e,T.gZ,T.PT,ac u' 2 (ED ..) (by ac_nf) rfl⟩
end
def Rz (t:bQ):bX:=fun vs H Q _=>∃ c ar n wl ds,vs=[.ref c,.int n,.ref wl]/\H c=some (.ins t.hQ ar [])/\od t H wl ds/\(ds.map (·.name)).Nodup/\ds.length <= 12/\aI H /\
 ∀ I,cK c H I->aI I->fC t I c n ds->Q .b' I
def Sp (t:bQ):bX:=fun vs H Q _=>∃ n ds,vs=[.str (pG n ds)]/\sJ n ds/\aI H/\∀ c I,aN H I->aI I->fC t I c n ds->Q (.ref c) I
def G2 (t:bQ):bX:=fun vs H Q _=>∃ c n ds,vs=[.ref c]/\fC t H c n ds/\∀ p,H p=none->Q (.ref p) (upd H p (.lst (aX (ds.map (·.name)))))
def aix (t:bQ):bX:=fun vs H Q _=>∃ c n ds,∃ i:Nat,∃ d,vs=[.ref c,.str d.name]/\fC t H c n ds/\ds[i]? = some d/\Q (.int (i:Nat)) H
def NK (t:bQ):bX:=fun vs H Q _=>∃ c n ds,∃ i:Nat,∃ d,vs=[.ref c,.str d.name]/\fC t H c n ds/\ds[i]? = some d/\∀ a,eT t H a d->Q (.ref a) H
theorem XO:cv P base T 1 t.wJ t.Ca EA (Rz t):=by
 exists T.PM.ok KI,9
 obtain ⟨c,ar,n,wl,ds,rfl,ay,gk,ff,fq,bG,q⟩:=h;have bt:=gT ao;refine ⟨_,(aP (eF (U 0) (U 1) rfl)
   (aP (eF (U 0) (U 2) rfl)
   (aP (eF (U 0) q7 rfl)
   (a6 (fp fj rfl (Ty rfl T.Bh (ai (U 2) aE)) (la (K:=K) (n:=2) rfl rfl (fc (cu (i:=3) KI.aH) (fc (cu (i:=4) KI.aH) k8))) (a6 (mf bt (bx (U 0) rfl) (bx (U 4) rfl) (U 3) rfl))))))),?_⟩
 nofun;refine ⟨_,_,_,ay,T.gZ,T.Xf,by decide,?_⟩;refine ⟨_,_,_,db,T.gZ,T.Ve,g7 (n:=999) (by decide),fun aH a3=>?_⟩;simp only [tp] at a3 ⊢;rw [show cT (ab "places") (V.int n) ([]:List (Str × V))=[(ab "places",V.int n)] from rfl,show cT (ab "ways") (V.ref wl) [(ab "places",V.int n)]=[(ab "places",V.int n),(ab "ways",V.ref wl)] from fw [ab "places"] rfl (by ac_nf)] at a3 ⊢;have Cu:c ≠ aH:=fun z=>by subst z;rw [db] at a3;cases a3
 refine ⟨t.hQ,ar,[(ab "places",V.int n),(ab "ways",V.ref wl)],by rw [aA Cu];exact db,T.gZ,T.PT,show (2:Nat) < 1000 by decide,?_⟩;rw [show cT (ab "numbers") (V.ref aH) [(ab "places",V.int n),(ab "ways",V.ref wl)]=oR n wl aH from fw [ab "places",ab "ways"] rfl (by ac_nf)];obtain ⟨as,dJ,eh,al⟩:=gk;have NX:H aH=none:=by rw [aA (cX Cu)] at a3;exact a3
 have j3:cK c H (upd (upd (upd H c (.ins t.hQ ar [(ab "places",V.int n),(ab "ways",V.ref wl)])) aH (.a5 [])) c (.ins t.hQ ar (oR n wl aH))):=fun b u aa e=>by
  rw [aA aa,aA (dj e NX),aA aa];exact e
 have Hj:wl ≠ c:=br dJ ay (by intro z;cases z);refine ⟨⟨_,aF.of (j3 _ _ Hj dJ)⟩,?_⟩;refine dY.enum (xs:=as.map V.ref) (fun i σ I=>(∃ x y,σ=[some (V.ref c),some (V.int n),some (V.ref wl),x,y])/\I c=some (.ins t.hQ ar (oR n wl aH))/\I aH=some (.a5 (m5 ds i))/\cK c H I/\aI I) ?_ ?_ ?_ ?_
 .exact ⟨⟨_,_,rfl⟩,db,by rw [aA (cX Cu),db];rfl,j3,((bG.upd).upd).upd⟩
 .rintro i σ I ah bb;ac_rfl
  obtain ⟨_,_,_,rj,_⟩:=bb;subst aV;exact aF.of (rj _ _ Hj dJ)
 .rintro i v σ I p aJ ⟨⟨x,y,rfl⟩,af,ak,rj,lu⟩ aq;obtain ⟨a,aZ,rfl⟩:=cm aJ;obtain ⟨ah,_⟩:=cb.mp aZ;have l9:i < ds.length:=by omega
  have hd:ds[i]? = some ds[i]:=bo l9;have jj:eT t H a ds[i]:=al i a _ aZ hd;have Fq:a ≠ c:=by
   obtain ⟨_,ht,e⟩:=jj;intro z;subst z;rw [ay] at e;have aG:=dX e;injection aG with _ _ bS;exact absurd (congrArg ru bS) (by show ¬ (0:Nat)=7;decide)
  have aiK:eT t I a ds[i]:=⟨jj.1,jj.2.imp fun ht e=>rj _ _ Fq e⟩;have sp:aN I (upd I p (.tup [.int i,.ref a])):=bf aq;refine Dv ?_;nofun;refine ⟨_,Iu T (sp _ _ af),_,(aiK.same sp).IX T,_,rfl,_,hC.k (k:=bD ds[i].name) (sp _ _ ak) (f5 (show (m5 ds i).length <= 12 by unfold m5;rw [aO,uY];omega) (by decide)),?_⟩;rw [<- mq hd,ahg ff l9];refine ⟨⟨_,rfl⟩,?_,db,fun b u aa e=>?_,(lu.upd).upd⟩
  .rw [aA Cu];exact sp _ _ af
  .rw [aA (dj e NX)];exact sp _ _ (rj b u aa e)
 .rintro σ I bb;ac_rfl
  obtain ⟨⟨x,y,rfl⟩,af,ak,rj,lu⟩:=bb;subst aV;nofun;rw [aO,eh] at ak;refine q I rj lu ⟨⟨ff,fq⟩,ar,wl,aH,af,⟨as,rj _ _ Hj dJ,eh,fun i a d bc c4=>?_⟩,ak⟩;have jj:=al i a d bc c4;have Fq:a ≠ c:=by
   obtain ⟨_,ht,e⟩:=jj;intro z;subst z;rw [ay] at e;have aG:=dX e;injection aG with _ _ bS;exact absurd (congrArg ru bS) (by show ¬ (0:Nat)=7;decide)
  exact ⟨jj.1,jj.2.imp fun ht e=>rj _ _ Fq e⟩
theorem aak:cv P base T 1 t.Ab t.Gg iN (aix t):=by
 exists T.WK.ok als,9
 obtain ⟨c,n,ds,i,d,rfl,⟨⟨ff,fq⟩,ar,wl,aH,aw,aG,bS⟩,hd,q⟩:=h;have bt:=gT ao;have aJ:c1 (m5 ds ds.length) (bD d.name)=some (.int i):=by
  rw [<- mq hd];exact aeX ff (cb.mp hd).1 (bR _)
 have bj:fm H aH (.str d.name) (some (.int i)):=by rw [<- aJ];exact fm.k (k:=bD d.name) bS
 refine ⟨_,(aP (en (M' (SY bt (U 1) (bx (U 0) rfl))) (a6 oF) fe)
   (a6 (cz (jM bt (bx (U 0) rfl) (U 1) (fun _ _=>rfl))))),?_⟩
 nofun;refine eg false (fun Q a9=>?_) (fun ay=>nomatch ay) (fun _=>?_)
 .nofun;refine ⟨_,Iu T aw,_,rfl,_,bj,?_⟩;exact a9
 .nofun;exact ⟨_,Iu T aw,_,rfl,_,bj,q⟩
theorem p_:cv P base T 2 t.y4 t.Eh iN (NK t):=by
 refine cB (aak T) fun adS=>?_;exists T.VF.ok cr,9
 obtain ⟨c,n,ds,i,d,rfl,C,hd,q⟩:=h;obtain ⟨⟨ff,fq⟩,ar,wl,aH,aw,⟨as,dJ,eh,al⟩,bS⟩:=id C;refine ⟨_,(a6 (cz (cE ed (bx (U 0) rfl) (Gc (U 0) T.gZ T.ade adS ao T.aaX .nil cj (ai (U 1) aE))))),?_⟩;nofun;refine ⟨_,Wx T aw,_,_,aw,iR _ _ _ (by ac_nf),⟨c,n,ds,i,d,rfl,C,hd,?_⟩⟩;have ah:i < as.length:=by rw [eh];exact (cb.mp hd).1
 have aZ:as[i]? = some as[i]:=bo ah;nofun;refine ⟨_,aF.of dJ,_,cy (show (as.map V.ref)[i]? = some (V.ref as[i]) by rw [dO,aZ];rfl),?_⟩;exact q as[i] (al i _ d aZ hd)
theorem amF:cv P base T 7 t.Ei t.z6 ["text"] (Sp t):=by
 have EU:cJ P w K mg base dt 6 t.ya t.wG ["text"] (Ps t):=(NG T).mono (by decide);have Y7:cJ P w K mg base dt 6 t.Ah t.B4 ["reader"] (OU t):=(Yo T).mono (by decide);have aa8:cJ P w K mg base dt 6 t.B6 t.BF Dg (UL t):=aeU T;have ae8:cJ P w K mg base dt 5 t.wJ t.Ca EA (Rz t):=(XO T).mono (by decide);exists T.Hy.ok wV,9
 obtain ⟨n,ds,rfl,cV,bG,ku⟩:=h;refine ⟨_,(aP (cg (i:=1) wV.aH (cH EU ao T.Pl T.DX.bJ T.OZ (ai (U 0) aE)))
   (aP (cg (i:=2) wV.aH (cH Y7 ao T.aby T.jp.bJ T.aj7 (ai (cE ed (U 1) aM) aE)))
   (aP (cg (i:=3) wV.aH (gC aE))
   (aP (fp fj rfl (eS (s7 SJ (U 1) (sD aM) sS)) (cu (i:=4) wV.aH) (aP (en (du fA (gi i9 rfl T.iI iT (ai (U 3) aE)) (me rfl T.Xl T.amD) (cR _)) (a6 oF) fe)
   (a6 (eo (gF ja mc ng Re (U 3) (ai (cH aa8 ao T.X0 T.E'.bJ T.Xn (ai (U 4) (ai (U 2) (ai (U 3) aE)))) aE))))))
   (aP (en (xY (D6 (U 3) (fun _=>rfl))) (a6 oF) fe)
   (a6 (cz (oC T.amw ae8 ao rfl T.aam T.ai' .nil cj (ai (U 2) (ai (U 3) aE)))))))))),?_⟩
 have v':=alT cV;have hlen:=acd cV;have QB:=cV.nn;have am3:=cV.ln;nofun;refine ⟨pG n ds,rfl,by omega,?_,bG,fun p H1 mw jJ R=>?_⟩
 .rw [v'];intro r ao;refine ⟨?_,fun x ag=>c7 (cV.plain r ao x ag).1 (by decide)⟩;rcases eZ.mp ao with rfl | ao
  .show (2:Nat) <= 1000;decide
  .obtain ⟨d,hd,rfl⟩:=cw.mp ao;show (7:Nat) <= 1000;decide
 rw [v'] at R;obtain ⟨qs,aq,gc,nq,mb⟩:=R;have QG:qs.length=ds.length + 1:=by rw [nq];simp [iw]
 obtain ⟨kO,lg,rfl⟩:∃ kO lg,qs=kO :: lg:=by
  cases qs with
  | nil=>simp at QG
  | cons a b=>exact ⟨a,b,rfl⟩
 obtain ⟨A9,yN⟩:=mb 0 kO _ rfl rfl;nofun;refine ⟨_,aF.of aq,_,cy (j:=0) rfl,⟨kO,_,n,rfl,A9,QB,jJ,fun av s2 vy=>⟨e5 _,fun wl gu=>?_⟩⟩⟩;obtain ⟨ao_,apA,ao6,ac7⟩:=A9.ins;have aiO:p ≠ kO:=br aq ac7 (by intro z;cases z);have hY:av p=some (.lst ((kO :: lg).map V.ref)):=s2 _ _ aiO aq;have K2:aN av (upd av wl (.lst [])):=bf gu;have Lw:m2 ((kO :: lg).map V.ref) (some 1) none=lg.map V.ref:=by
  unfold m2;simp [gn.dh];exact Fm (by rw [aO];exact bR _)
 refine ⟨_,aF.of (K2 _ _ hY),fun pc Fi=>?_⟩;rw [Lw];have hM:pc ≠ wl:=fun z=>by subst z;rw [db] at Fi;cases Fi
 have JH:aN (upd av wl (.lst [])) (upd (upd av wl (.lst [])) pc (.lst (lg.map V.ref))):=bf Fi;refine ⟨⟨_,aF.of db⟩,?_⟩;have SM:aN H av:=wb mw s2 yN;have Xm:lg.length=ds.length:=by simpa using QG
 refine dY.list (xs:=lg.map V.ref) (fun i σ I=>(∃ x,σ=[some (V.str (pG n ds)),some (V.ref p),some (V.int n),some (V.ref wl),x])/\aI I/\aN H I/\I pc=some (.lst (lg.map V.ref))/\H wl=none/\od t I wl (ds.take i) /\
  ∀ (j:Nat) (q:Addr) (d:bl),i <= j->lg[j]? = some q->ds[j]? = some d->dc t I q ((j + 1:Nat):Int) (bn d) 0/\H q=none) ?_ ?_ ?_ ?_
 .refine ⟨⟨_,rfl⟩,(vy.upd).upd,(SM.trans K2).trans JH,db,SM.free gu,⟨[],JH _ _ db,rfl,fun j a d h=>by simp at h⟩,fun j q d _ af ak=>?_⟩;have ao:(iw n ds)[j + 1]? = some (bn d):=by
   unfold iw;rw [xd,dO,ak];rfl
  obtain ⟨oY,eY⟩:=mb (j + 1) q _ (by rw [xd];exact af) ao;refine ⟨((oY.wI s2 (Kh oY A9 (by omega)) A9.ins).same K2).same JH,eY⟩
 .rintro i σ I ah bb;ac_rfl
  obtain ⟨_,_,_,h,_⟩:=bb;subst aV;exact aF.of h
 .rintro i v σ I aJ bb;ac_rfl
  obtain ⟨⟨x,rfl⟩,lu,pO,Ju,Gx,W,Rs⟩:=bb;obtain ⟨q,aD,rfl⟩:=cm aJ;obtain ⟨ah,_⟩:=cb.mp aD;have l9:i < ds.length:=by omega
  have hd:ds[i]? = some ds[i]:=bo l9;obtain ⟨nP,ji⟩:=Rs i q _ (bR _) aD hd;have mX:(ds.take i).length=i:=by rw [gK];omega
  obtain ⟨as,dJ,eh,al⟩:=id W;subst aV;nofun;refine eg false (fun Q a9=>?_) (fun ay=>nomatch ay) (fun _=>?_)
  .nofun;refine ⟨_,.inl (aF.of dJ),?_⟩;rw [aO,eh,mX];rw [decide_eq_false (by omega)] <;> exact a9
  .nofun;refine ⟨.inl ⟨_,aF.of dJ⟩,?_⟩;refine ⟨q,_,n,wl,ds.take i,ds[i],rfl,nP,cV.al _ (kT l9),QB,W,by omega,fun e he z=>?_,lu,fun y bk s3 FK hL Wa=>?_⟩
   .obtain ⟨j,aL,rfl⟩:=LL he;rw [List.getElem_take] at z;have hs:j < i:=by omega
    have:=uo cV.aH (i:=j) (j:=i) (by omega) l9 (by rw [mq (bo (by omega)),mq hd];exact z);omega
   .nofun;obtain ⟨an4,DC,aol,ha⟩:=nP.ins;have ajq:wl ≠ q:=br dJ ha (by intro z;cases z);have IQ:bk wl=some (.lst (as.map V.ref)):=s3 _ _ ajq dJ;have adF:aN H bk:=wb pO s3 ji;refine ⟨_,IQ,f5 (show (as.map V.ref).length <= 12 by rw [aO];omega) (by decide),?_⟩;have alS:y ≠ wl:=fun z=>by
     subst z;rw [dJ] at Wa;cases Wa
    refine ⟨⟨_,rfl⟩,FK.upd,fun b u e=>?_,?_,Gx,⟨as ++ [y],by rw [db,fx];rfl,?_,fun j a d af ak=>?_⟩,fun j dV d aL af ak=>?_⟩
    .rw [aA (dj e Gx)];exact adF _ _ e
    .rw [aA hM];exact s3 _ _ (br Ju ha (by intro z;cases z)) Ju
    .rw [dS,eh,mX,gK];show i + 1=_;omega
    .by_cases aL:j < as.length
     .rw [n8 aL] at af;have abv:(ds.take i)[j]? = some d:=by
       rw [rO (by omega)];rw [rO (by omega)] at ak;exact ak
      obtain ⟨aC,ht,e⟩:=al j a d af abv;have Y':a ≠ q:=OG ⟨aC,ht,e⟩ nP;have ajM:a ≠ wl:=br e dJ (by intro z;cases z);exact ⟨aC,ht,by rw [aA ajM];exact s3 _ _ Y' e⟩
     .rw [mK (by omega)] at af;have pF:j - as.length=0:=by
       cases gg:j - as.length with
       | zero=>rfl
       | succ m=>rw [gg] at af;simp at af
      rw [pF] at af;have bS:y=a:=by simpa using af
      subst bS;have er:j=i:=by omega
      subst er;rw [rO (by omega),hd] at ak;cases ak;exact ⟨hL.1,hL.2.imp fun ht e=>by rw [aA alS];exact e⟩
    .obtain ⟨oY,eY⟩:=Rs j dV d (by omega) af ak;have mu:=oY.wI s3 (Kh oY nP (by omega)) nP.ins;refine ⟨?_,eY⟩;obtain ⟨aW,ht,a',aw,aG⟩:=mu;refine ⟨aW,ht,a',by rw [aA (br aw IQ (by intro z;cases z))];exact aw,?_⟩;rw [aA (fun z=>by
      subst z;rw [IQ] at aG;have gh:=dX aG;injection gh with dZ;cases as with
      | nil=>exact absurd (congrArg ru dZ) (by show ¬ (0:Nat)=7;decide)
      | cons a r=>injection dZ with hE _;cases hE)]
     exact aG
 .rintro σ I bb;ac_rfl
  obtain ⟨⟨x,rfl⟩,lu,pO,Ju,Gx,W,Rs⟩:=bb;subst aV;rw [aO,Xm,hB] at W;obtain ⟨as,dJ,eh,al⟩:=id W;nofun;refine eg false (fun Q a9=>?_) (fun ay=>nomatch ay) (fun _=>?_)
  .nofun;refine ⟨true,.inl ⟨_,aF.of dJ,?_⟩,a9⟩;cases as with
   | nil=>simp at eh;omega
   | cons a r=>rfl
  .nofun;intro c ar ay sf cx;have sc:aN I (upd (upd I ar (.own c)) c (.ins t.hQ ar [])):=((aN.refl I).gW sf).gW ay;refine ⟨c,ar,n,wl,ds,rfl,db,W.same sc,cV.aH,am3.2,(lu.upd).upd,fun cP s5 HJ va=>⟨rfl,?_⟩⟩;exact ku c cP (wb (pO.trans sc) s5 (pO.free ay)) HJ va
theorem On:cv P base T 1 t.uL t.wN ["self"] (G2 t):=by
 exists T.Q4.ok Z_,9
 obtain ⟨c,n,ds,rfl,⟨⟨ff,fq⟩,ar,wl,aH,aw,⟨as,dJ,eh,al⟩,bS⟩,q⟩:=h;refine ⟨_,(a6 (cz (ij rfl (eS (bx (U 0) rfl)) (g0 (sc:=bE Ly) rfl (by ac_nf)) (N:=["way"]) (sel:=[none]) (gO (M:=["self"]) (by ac_nf)) (fP.of (fun _ _ _ _=>(cu (i:=0) (eJ (N:=["way"]) (by ac_nf) rfl))) (fun _ _ _ _=>⟨_,i0,by walk_at "B"⟩) (fun _ _ _ _=>⟨_,(bx (U 0) rfl),by walk_at "B"⟩))))),?_⟩;nofun;refine ⟨_,Wx T aw,_,rfl,⟨_,aF.of dJ⟩,?_⟩;refine dg.mB (xs:=as.map V.ref) (zs:=aX (ds.map (·.name))) (aF.of dJ) (by rw [aO,eh];exact c7 fq (by decide)) (by rw [fz,aO,aO,eh]) (fun i v z N aJ gY bu=>?_) (fun p aq=>q p aq);obtain ⟨a,aZ,rfl⟩:=cm aJ;obtain ⟨x,ag,rfl⟩:=cm gY;obtain ⟨d,hd,rfl⟩:=cm ag;nofun;exact ⟨Sub.name,_,(al i a d aZ hd).IX T,bu⟩
theorem Ax {n s p:Int} (h0:0 <= s) (af:s < n) (ak:0 <= p) (bc:p < n):(p - s) % n=if s <= p then p - s else p - s + n:=by
 split
 .rename_i h;exact x9 (by omega) (by omega)
 .rename_i h;have e:(p - s) % n=(p - s + n) % n:=(Int.add_emod_right ..).symm;rw [e];exact x9 (by omega) (by omega)
noncomputable def kM (n s f p:Int):Bool:=decide (0 < (p - s) % n) && decide ((p - s) % n < (f - s) % n)
noncomputable def ti (n s f s2 f2:Int):Bool:=decide (f=f2) || (if (s2=s\/s2=f)\/(f2=s\/f2=f) then false else (kM n s f s2 != kM n s f f2))
theorem DO {s f p:Int} (af:p ≠ s) (ak:p ≠ f) (bc:s ≠ f):((decide (s < f) && decide (f < p) && !decide (s < p)) || (!decide (s < f) && !decide (f < p) && decide (s < p)))=false:=by
 by_cases a:s < f <;> by_cases b:f < p
 .rw [decide_eq_true a,decide_eq_true b,decide_eq_true (show s < p by omega)];rfl
 .rw [decide_eq_true a,decide_eq_false b];rfl
 .rw [decide_eq_false a,decide_eq_true b];rfl
 .rw [decide_eq_false a,decide_eq_false b,decide_eq_false (show ¬ s < p by omega)];rfl
theorem vp {s p:Int} (h:s ≠ p):decide (p < s) = !decide (s < p):=by
 by_cases a:s < p
 .rw [decide_eq_true a,decide_eq_false (by omega)];rfl
 .rw [decide_eq_false a,decide_eq_true (by omega)];rfl
theorem Es {n s f p:Int} (aB:0 <= s/\s < n) (hf:0 <= f/\f < n) (aq:0 <= p/\p < n) (af:p ≠ s) (ak:p ≠ f) (bc:s ≠ f):kM n s f p=((decide (s < p) && decide (p < f)) || (decide (p < f) && decide (f < s)) || (decide (f < s) && decide (s < p))):=by
 unfold kM;rw [Ax aB.1 aB.2 aq.1 aq.2,Ax aB.1 aB.2 hf.1 hf.2,decide_eq_true (show 0 < (if s <= p then p - s else p - s + n) by split <;> omega),mA,vp bc];by_cases a:s < p <;> by_cases b:s < f
 .rw [if_pos (by omega),if_pos (by omega),decide_eq_true a,decide_eq_true b,show decide (p - s < f - s)=decide (p < f) from decide_eq_decide.mpr (by omega)];cases decide (p < f) <;> rfl
 .rw [if_pos (by omega),if_neg (by omega),decide_eq_true a,decide_eq_false b,decide_eq_true (show p - s < f - s + n by omega)];cases decide (p < f) <;> rfl
 .rw [if_neg (by omega),if_pos (by omega),decide_eq_false a,decide_eq_true b,decide_eq_false (show ¬ p - s + n < f - s by omega)];cases decide (p < f) <;> rfl
 .rw [if_neg (by omega),if_neg (by omega),decide_eq_false a,decide_eq_false b,show decide (p - s + n < f - s + n)=decide (p < f) from decide_eq_decide.mpr (by omega)];cases decide (p < f) <;> rfl
theorem Zb:∀ a b c d e g:Bool,((a && d && !b) || (!a && !d && b))=false->((a && e && !c) || (!a && !e && c))=false->((b && g && !c) || (!b && !g && c))=false->((d && g && !e) || (!d && !g && e))=false ->
  (((b && !d) || (!d && !a) || (!a && b)) != ((c && !e) || (!e && !a) || (!a && c)))=(((!b && c) || (c && !g) || (!g && !b)) != ((!d && e) || (e && !g) || (!g && !d))):=by ac_nf
theorem aiN (aB:0 <= s/\s < n) (hf:0 <= f/\f < n) (hW:0 <= s2/\s2 < n) (Jv:0 <= f2/\f2 < n) (cx:s ≠ f) (wK:s2 ≠ f2):ti n s f s2 f2=ti n s2 f2 s f:=by
 unfold ti;by_cases e:f=f2
 .rw [decide_eq_true e,decide_eq_true e.symm];rfl
 .rw [decide_eq_false e,decide_eq_false (cX e)];by_cases c:(s2=s\/s2=f)\/(f2=s\/f2=f)
  .have c':(s=s2\/s=f2)\/(f=s2\/f=f2):=by omega
   rw [if_pos c,if_pos c']
  .have c':¬ ((s=s2\/s=f2)\/(f=s2\/f=f2)):=by omega
   rw [if_neg c,if_neg c'];have b9:s2 ≠ s:=by omega
   have ck:s2 ≠ f:=by omega
   have dy:f2 ≠ s:=by omega
   have df:f2 ≠ f:=by omega
   rw [lF,lF,Es aB hf hW b9 ck cx,Es aB hf Jv dy df cx,Es hW Jv aB b9.symm dy.symm wK,Es hW Jv hf ck.symm df.symm wK,vp b9.symm,vp ck.symm,vp df.symm,vp cx,vp wK];exact Zb _ _ _ _ _ _ (DO b9 ck cx) (DO dy df cx) (DO dy wK.symm b9.symm) (DO df wK.symm ck.symm)
noncomputable abbrev mt (n:Int) (d e:bl):Bool:=ti n d.start d.fin e.start e.fin
def Tb (t:bQ):bX:=fun vs H Q _=>∃ a d n p,vs=[.int n,.ref a,.int p]/\eT t H a d/\0 < n/\Q (.bB (kM n d.start d.fin p)) H
noncomputable def yU (n:Int) (d e:bl):Bool:=if (e.start=d.start\/e.start=d.fin)\/(e.fin=d.start\/e.fin=d.fin) then false else (kM n d.start d.fin e.start != kM n d.start d.fin e.fin)
def akq (t:bQ):bX:=fun vs H Q _=>∃ a b d e n,vs=[.int n,.ref a,.ref b]/\eT t H a d/\eT t H b e/\0 < n/\aI H/\Q (.bB (yU n d e)) H
def ahN (t:bQ):bX:=fun vs H Q _=>∃ a b d e n,vs=[.int n,.ref a,.ref b]/\eT t H a d/\eT t H b e/\0 < n/\∀ I,aN H I->Q (.bB (yU n d e)) I
def Oq (t:bQ):bX:=fun vs H Q _=>∃ c n ds,∃ i j:Nat,∃ d e,vs=[.ref c,.str d.name,.str e.name]/\fC t H c n ds/\0 < n/\ds[i]? = some d/\ds[j]? = some e/\aI H/\Q (.bB (mt n d e)) H
theorem alz:cv P base T 1 t.AE t.BM Er (Tb t):=by
 exists T.C3.ok Sl,9
 obtain ⟨a,d,n,p,rfl,W,a3,q⟩:=h;refine ⟨_,(aP (cg (i:=3) Sl.aH (bP i' (bP lA (U 2) (bx (U 1) rfl)) (U 0)))
   (a6 (cz (y9 (ie lV aM (U 3) (cR _)) (u7 (ie lV (U 3) (bP i' (bP lA (bx (U 1) rfl) (bx (U 1) rfl)) (U 0)) (cR _))))))),?_⟩
 nofun;refine ⟨_,W.ur T,_,rfl,a3,?_⟩;unfold kM at q;by_cases c:0 < (p - d.start) % n
 .rw [if_pos (decide_eq_true c)];rw [decide_eq_true c,mA] at q;exact ⟨_,W.tU T,_,W.ur T,_,rfl,_,rfl,a3,q⟩
 .rw [if_neg (by simpa using c)];rw [decide_eq_false c,nJ] at q;exact q
theorem P' (x a b:Int):t7 (.int x) [.int a,.int b]=decide (x=a\/x=b):=by
 unfold t7;simp only [zl,List.any_nil,kv,Pb];rw [lp];simp only [yH,beq_iff_eq,decide_eq_true_eq];omega
theorem aaZ:cv P base T 2 t.Fb t.ID D1 (akq t):=by
 refine cJ.forget (sp:=ahN t) ?_ fun vs H Q E h=>?_
 .have Td:cJ P w K mg base dt 1 t.AE t.BM Er (Tb t):=alz T;exists T.Lf.ok aaS,9
  obtain ⟨a,b,d,e,n,rfl,jj,qm,a3,q⟩:=h;refine ⟨_,(aP (en (iC.pt (sv (du HE (bx (U 2) rfl) (gC (ai (bx (U 1) rfl) (ai (bx (U 1) rfl) aE))) (by with_unfolding_all rfl)) (t9 (du HE (bx (U 2) rfl) (gC (ai (bx (U 1) rfl) (ai (bx (U 1) rfl) aE))) (by with_unfolding_all rfl))))) (a6 (cz ox)) fe)
   (a6 (cz (ie sR (cH Td ao T.GE T.C3.bJ T.QX (ai (U 0) (ai (U 1) (ai (bx (U 2) rfl) aE)))) (cH Td ao T.GE T.C3.bJ T.QX (ai (U 0) (ai (U 1) (ai (bx (U 2) rfl) aE)))) (cR _))))),?_⟩
  nofun;refine DT (fun b I=>aN H I/\b=decide ((e.start=d.start\/e.start=d.fin)\/(e.fin=d.start\/e.fin=d.fin))) (fun Q a9=>?_) (fun I ⟨bg,aa⟩=>?_) (fun I ⟨bg,aa⟩=>?_)
  .nofun;refine ⟨_,qm.ur T,_,jj.ur T,_,jj.tU T,by decide,fun p aq=>⟨_,.inl (aF.of db),rfl,rfl,?_⟩⟩;have s1:aN H (upd H p (.lst [.int d.start,.int d.fin])):=bf aq;rw [P'];by_cases bZ:e.start=d.start\/e.start=d.fin
   .rw [if_pos (decide_eq_true bZ)];exact a9 _ _ ⟨s1,(decide_eq_true (.inl bZ)).symm⟩
   .rw [if_neg (by simpa using bZ)];refine ⟨_,(qm.same s1).tU T,_,(jj.same s1).ur T,_,(jj.same s1).tU T,by decide,fun d3 hY=>⟨_,.inl (aF.of db),rfl,rfl,?_⟩⟩;rw [P'];refine a9 _ _ ⟨s1.trans (bf hY),?_⟩;rw [lp,decide_eq_true_eq,decide_eq_true_eq];exact ⟨.inr,fun z=>z.resolve_left bZ⟩
  .nofun;have fF:=of_decide_eq_true aa.symm;have:=q I bg;unfold yU at this;rw [if_pos fF] at this;exact this
  .nofun;have fF:=of_decide_eq_false aa.symm;refine ⟨_,(qm.same bg).ur T,⟨a,d,n,_,rfl,jj.same bg,a3,?_⟩⟩;refine ⟨_,(qm.same bg).tU T,⟨a,d,n,_,rfl,jj.same bg,a3,?_⟩⟩;refine ⟨rfl,?_⟩;have:=q I bg;unfold yU at this;rw [if_neg fF] at this;rw [show (!decide (V.bB (kM n d.start d.fin e.start)=V.bB (kM n d.start d.fin e.fin)))=(kM n d.start d.fin e.start != kM n d.start d.fin e.fin) by
    cases kM n d.start d.fin e.start <;> cases kM n d.start d.fin e.fin <;> rfl]
   exact this
 .obtain ⟨a,b,d,e,n,af,ak,bc,c4,bG,q⟩:=h;exact ⟨bG,a,b,d,e,n,af,ak,bc,c4,fun I bg=>⟨bg,q⟩⟩
theorem abE (n:Int) (d e:bl):mt n d e=(decide (d.fin=e.fin) || yU n d e):=rfl
theorem RK:cv P base T 3 t.As t.B3 rT (Oq t):=by
 refine cB (p_ T) fun iV=>cB (aaZ T) fun akf=>?_;exists T.B1.ok HS,9
 obtain ⟨c,n,ds,i,j,d,e,rfl,C,a3,hd,he,bG,q⟩:=h;obtain ⟨_,ar,wl,aH,aw,aG,bS⟩:=id C;refine ⟨_,(aP (cg (i:=3) HS.aH (Gc (U 0) T.gZ T.lc iV ao T.mh .nil cj (ai (U 1) aE)))
   (aP (cg (i:=4) HS.aH (Gc (U 0) T.gZ T.lc iV ao T.mh .nil cj (ai (U 2) aE)))
   (a6 (cz (Uh (ie fA (bx (U 3) rfl) (bx (U 4) rfl) (cR _)) (u7 (cH akf ao T.ae_ T.Lf.bJ T.al8 (ai (bx (U 0) rfl) (ai (U 3) (ai (U 4) aE)))))))))),?_⟩
 rw [abE] at q;nofun;refine ⟨_,_,aw,iR _ _ _ (by ac_nf),⟨c,n,ds,i,d,rfl,C,hd,fun a jj=>?_⟩⟩;nofun;refine ⟨_,_,aw,iR _ _ _ (by ac_nf),⟨c,n,ds,j,e,rfl,C,he,fun b qm=>?_⟩⟩;nofun;refine ⟨_,jj.tU T,_,qm.tU T,rfl,?_⟩;nofun;by_cases bZ:d.fin=e.fin
 .rw [if_pos (decide_eq_true bZ)];rw [decide_eq_true bZ,tI] at q;exact q
 .rw [if_neg (by simpa using bZ)];rw [decide_eq_false bZ,lF] at q;exact ⟨_,alW T aw,⟨a,b,d,e,n,rfl,jj,qm,a3,bG,q⟩⟩
def WY (t:bQ):bX:=fun vs H Q _=>∃ c n ds,∃ i j:Nat,∃ d e,vs=[.ref c,.str d.name,.str e.name]/\fC t H c n ds/\ds[i]? = some d/\ds[j]? = some e/\Q (.int (if d.off - e.near > 0 then d.off - e.near else 0)) H
theorem ac_:cv P base T 3 t.zJ t.Ew rT (WY t):=by
 refine cB (p_ T) fun iV=>?_;exists T.ML.ok JQ,9
 obtain ⟨c,n,ds,i,j,d,e,rfl,C,hd,he,q⟩:=h;obtain ⟨_,ar,wl,aH,aw,aG,bS⟩:=id C;refine ⟨_,(aP (cg (i:=3) JQ.aH (Gc (U 0) T.gZ T.lc iV ao T.mh .nil cj (ai (U 1) aE)))
   (aP (cg (i:=4) JQ.aH (Gc (U 0) T.gZ T.lc iV ao T.mh .nil cj (ai (U 2) aE)))
   (a6 (cz (gi (ai2 rfl) rfl T.J7 Ka (ai aM (ai (bP lA (bx (U 3) rfl) (bx (U 4) rfl)) aE))))))),?_⟩
 nofun;refine ⟨_,_,aw,iR _ _ _ (by ac_nf),⟨c,n,ds,i,d,rfl,C,hd,fun a jj=>?_⟩⟩;nofun;refine ⟨_,_,aw,iR _ _ _ (by ac_nf),⟨c,n,ds,j,e,rfl,C,he,fun b qm=>?_⟩⟩;nofun;refine ⟨_,jj.Oy T,_,qm.af3 T,?_⟩;nofun;exact q
theorem iH {α:Type} {xs:List α} {i:Nat} {x:α} (h:xs[i]? = some x):xs.take (i + 1)=xs.take i ++ [x]:=by
 rw [pw,h];rfl
structure ST where
 lo:Int
 ah:Int
 mem:List Str
noncomputable def Ku (r:ST) (m:Addr):dU:=.tup [.int r.lo,.int r.ah,.ref m]
structure iM (H:au) (p:Addr) (qs ms:List Addr) (rows:List ST):Prop where
 at_:H p=some (.lst (qs.map V.ref))
 cA:qs.length=rows.length
 cW:ms.length=rows.length
 al:∀ (i:Nat) (q m:Addr) (r:ST),qs[i]? = some q->ms[i]? = some m->rows[i]? = some r->H q=some (Ku r m)/\H m=some (.lst (aX r.mem))
theorem iM.same {p:Addr} {rows:List ST} (h:iM H p qs ms rows) (s:aN H I):iM I p qs ms rows:=
 ⟨s _ _ h.at_,h.cA,h.cW,fun i q m r a b c=>⟨s _ _ (h.al i q m r a b c).1,s _ _ (h.al i q m r a b c).2⟩⟩
structure md (H:au) (p:Addr) (ms:List Addr) (dp:List (List Str)):Prop where
 at_:H p=some (.lst (ms.map V.ref))
 ln:ms.length=dp.length
 al:∀ (i:Nat) (m:Addr) (x:List Str),ms[i]? = some m->dp[i]? = some x->H m=some (.lst (aX x))
theorem md.same {p:Addr} (h:md H p ms dp) (s:aN H I):md I p ms dp:=
 ⟨s _ _ h.at_,h.ln,fun i m x a b=>s _ _ (h.al i m x a b)⟩
noncomputable def nd (i:Nat) (kvs:List (Key × V)) (ms:List Str):List (Key × V):=ms.foldl (fun kvs x=>ci kvs (bD x) (.int i)) kvs
noncomputable def hg (dp:List (List Str)):List (Key × V):=dp.zipIdx.foldl (fun kvs e=>nd e.2 kvs e.1) []
theorem XH (kvs:List (Key × V)) (k:Key) (v:V):(ci kvs k v).length <= kvs.length + 1:=by
 unfold ci;split
 .rw [aO];omega
 .rw [dS];exact bR _
theorem TO (i:Nat) (kvs:List (Key × V)) (ms:List Str) (x:Str):nd i kvs (ms ++ [x])=ci (nd i kvs ms) (bD x) (.int i):=by
 unfold nd;rw [zR];rfl
theorem Y8 (dp:List (List Str)) (ms:List Str):hg (dp ++ [ms])=nd dp.length (hg dp) ms:=by
 unfold hg;rw [List.zipIdx_append,zR];simp
theorem Ib (i:Nat) (x:Str):∀ (ms:List Str) (kvs:List (Key × V)),c1 (nd i kvs ms) (bD x)=if x ∈ ms then some (.int i) else c1 kvs (bD x)
 | [],kvs=>by simp [nd]
 | y :: ms,kvs=>by
  show c1 (nd i (ci kvs (bD y) (.int i)) ms) (bD x)=_;rw [Ib i x ms,Ua];by_cases c:x ∈ ms
  .rw [if_pos c,if_pos (iu _ c)]
  .rw [if_neg c];by_cases d:x=y
   .subst d;rw [if_pos rfl,if_pos (m9 ..)]
   .rw [if_neg (fun e=>d (qx e)),if_neg (fun e=>by
     rcases eZ.mp e with e | e
     .exact d e
     .exact c e)]
theorem I2 {dp:List (List Str)} {i:Nat} {ms:List Str} (h:dp[i]? = some ms):hg (dp.take (i + 1))=nd i (hg (dp.take i)) ms:=by
 rw [iH h,Y8,gK,ad5 (ni (cb.mp h).1)]
theorem N2 {x:Str}:∀ (n:Nat) (dp:List (List Str)),n <= dp.length->((c1 (hg (dp.take n)) (bD x)).isSome=true↔∃ ms ∈ dp.take n,x ∈ ms)
 | 0,dp,_=>by simp [hg,c1]
 | n + 1,dp,a3=>by
  have h:dp[n]? = some dp[n]:=bo (by omega);rw [I2 h,Ib,iH h];have b7:=N2 (x:=x) n dp (by omega);by_cases c:x ∈ dp[n]
  .rw [if_pos c];exact ⟨fun _=>⟨_,kI _ (fG.mpr rfl),c⟩,fun _=>rfl⟩
  .rw [if_neg c,b7];constructor
   .rintro ⟨ms,af,ak⟩;exact ⟨ms,wY _ af,ak⟩
   .rintro ⟨ms,af,ak⟩;rcases gU.mp af with af | af
    .exact ⟨ms,af,ak⟩
    .rw [fG.mp af] at ak;exact absurd ak c
theorem u2 (p:Str->Bool):∀ xs:List Str,((xs.map fun x=>if p x=true then some (V.str x) else none).flatMap DP)=aX (xs.filter p)
 | []=>rfl
 | x :: xs=>by
  rw [eu,yg,u2 p xs];by_cases c:p x=true
  .rw [if_pos c,aal c];rfl
  .rw [if_neg c,ahA c];rfl
noncomputable def told (rows:List ST) (x:Str):Bool:=rows.any fun r=>r.mem.contains x
noncomputable def bi (ds:List bl) (rows:List ST):List Str:=(ds.map (·.name)).filter fun x=>!told rows x
theorem PV (rows:List ST) (x:Str):(c1 (hg (rows.map (·.mem))) (bD x)).isSome=told rows x:=by
 rw [lp];have:=N2 (x:=x) (rows.map (·.mem)).length (rows.map (·.mem)) (bR _);rw [hB] at this;rw [this];unfold told;rw [tl];constructor
 .rintro ⟨ms,af,ak⟩;obtain ⟨r,ao,rfl⟩:=cw.mp af;exact ⟨r,ao,by simpa using ak⟩
 .rintro ⟨r,ao,h⟩;exact ⟨_,cw.mpr ⟨r,ao,rfl⟩,by simpa using h⟩
noncomputable def iA (d:bl):Str:=if d.k=2 then ab "trams" else ab "others"
def abW (t:bQ):bX:=fun vs H Q _=>∃ c n ds,∃ i:Nat,∃ d,vs=[.ref c,.str d.name]/\fC t H c n ds/\ds[i]? = some d/\d.k < 3/\Q (.str (iA d)) H
def ZL:bX:=fun vs H Q _=>∃ p ms dp,vs=[.ref p]/\md H p ms dp/\dp.length <= 6/\(∀ x ∈ dp,x.length <= 12)/\∀ h I,aN H I->(aI H->aI I)->H h=none->I h=some (.a5 (hg dp))->Q (.ref h) I
def Zh (t:bQ):bX:=fun vs H Q _=>∃ c n ds p qs ms rows,vs=[.ref c,.ref p]/\fC t H c n ds/\iM H p qs ms rows/\rows.length <= 6/\(∀ r ∈ rows,r.mem.length <= 12)/\∀ l I,aN H I->(aI H->aI I)->H l=none->I l=some (.lst (aX (bi ds rows)))->Q (.ref l) I
theorem Vk:cv P base T 3 t.Hz t.Li CB (abW t):=by
 refine cB (p_ T) fun iV=>?_;exists T.wU.ok ah3,9
 obtain ⟨c,n,ds,i,d,rfl,C,hd,aC,q⟩:=h;obtain ⟨_,ar,wl,aH,aw,_,_⟩:=id C;refine ⟨_,(a6 (cz (vq (du fA (bx (Gc (U 0) T.gZ T.lc iV ao T.mh .nil cj (ai (U 1) aE)) rfl) dD (cR _)) dD dD))),?_⟩;nofun;refine ⟨_,_,aw,iR _ _ _ (by ac_nf),c,n,ds,i,d,rfl,C,hd,fun a W=>⟨a,rfl,_,W.ae2 T,rfl,?_⟩⟩;unfold iA at q;have ab0:∀ k,k < 3->decide (V.str (eR k)=V.str (ab "tram"))=decide (k=2):=by ac_nf
 rw [ab0 d.k aC];by_cases ct:d.k=2
 .rw [if_pos (decide_eq_true ct)];rw [if_pos ct] at q;exact q
 .rw [if_neg (by simpa using ct)];rw [if_neg ct] at q;exact q
theorem L9:cv P base T 1 t.Fv t.Hp ["members"] ZL:=by
 exists T.xv.ok wQ,9
 obtain ⟨p,ms,dp,rfl,M,nj,DY,q⟩:=h;have bt:=gT ao;refine ⟨_,(aP (cg (i:=1) wQ.aH q7)
   (aP (fp fj rfl (Ty rfl T.Bh (ai (U 0) aE)) (la (K:=K) (n:=2) rfl rfl (fc (cu (i:=2) wQ.aH) (fc (cu (i:=3) wQ.aH) k8))) (a6 (fp fj rfl (eS (U 3)) (cu (i:=4) wQ.aH) (a6 (mf bt (U 1) (U 4) (U 2) rfl)))))
   (a6 (cz (U 1))))),?_⟩
 nofun;intro h gg;have s0:aN H (upd H h (.a5 [])):=bf gg;refine ⟨⟨_,aF.of (s0 _ _ M.at_)⟩,?_⟩;refine dY.enum (xs:=ms.map V.ref) (fun i σ I=>(∃ x y z,σ=[~~~p,~~~h,x,y,z])/\aN H I/\(aI H->aI I)/\I h=some (.a5 (hg (dp.take i)))/\(hg (dp.take i)).length <= 12 * i) ?_ ?_ ?_ ?_
 .exact ⟨⟨_,_,_,rfl⟩,s0,fun n=>n.upd,by rw [sM];exact db,by rw [sM];simp [hg]⟩
 .rintro i σ I ah ⟨_,s1,_⟩;exact aF.of (s1 _ _ M.at_)
 .rintro i v σ I jB aJ ⟨⟨x,y,z,rfl⟩,s1,b9,af,JX⟩ px;obtain ⟨m,hm,rfl⟩:=cm aJ;have AZ:i < dp.length:=by rw [<- M.ln];exact (cb.mp hm).1
  have ye:dp[i]? = some dp[i]:=bo AZ;have em:=M.al i m _ hm ye;have lJ:=DY _ (cQ ye);have s2:aN I (upd I jB (.tup [.int i,.ref m])):=bf px;refine Dv ?_;nofun;have Om:=s2 _ _ (s1 _ _ em);have ak:=s2 _ _ af;have nb:aI H->aI (upd I jB (.tup [.int i,.ref m])):=fun n=>(b9 n).upd
  have Qi:=s1.trans s2;generalize upd I jB (.tup [.int i,.ref m])=ew at Om ak nb Qi s2 ⊢;refine ⟨⟨_,aF.of Om⟩,?_⟩;refine dY.list (xs:=aX dp[i]) (fun j σ av=>(∃ z,σ=[~~~p,~~~h,some (.int (i:Nat)),~~~m,z])/\aN H av/\(aI H->aI av)/\av h=some (.a5 (nd i (hg (dp.take i)) (dp[i].take j)))/\(nd i (hg (dp.take i)) (dp[i].take j)).length <= 12 * i + j) ?_ ?_ ?_ ?_
  .exact ⟨⟨_,rfl⟩,Qi,nb,by rw [sM];exact ak,by rw [sM];exact JX⟩
  .rintro j σ av aL ⟨_,s3,_⟩;exact aF.of (s3 _ _ em)
  .rintro j v σ av aJ bb;ac_rfl
   obtain ⟨⟨z,rfl⟩,s3,dy,bc,N_⟩:=bb;subst aV;unfold aX at aJ;obtain ⟨x,ag,rfl⟩:=cm aJ;have aL:j < dp[i].length:=(cb.mp ag).1;have cG:=XH (nd i (hg (dp.take i)) (dp[i].take j)) (bD x) (.int i);nofun;refine ⟨_,hC.k (k:=bD x) bc (f5 (show _ <= 1000 by omega) (by decide)),⟨_,rfl⟩,s3.gW gg,fun n=>(dy n).upd,?_,?_⟩
   .rw [db,iH ag,TO]
   .rw [iH ag,TO];omega
  .rintro σ av bb;ac_rfl
   obtain ⟨⟨z,rfl⟩,s3,dy,bc,N_⟩:=bb;subst aV;rw [fz,hB,<- I2 ye] at bc N_;exact ⟨⟨_,_,_,rfl⟩,s3,dy,bc,by omega⟩
 .rintro σ I bb;ac_rfl
  obtain ⟨⟨x,y,z,rfl⟩,s1,b9,af,_⟩:=bb;subst aV;rw [aO,M.ln,hB] at af;nofun;exact q h I s1 b9 gg af
theorem T4:cv P base T 2 t.KC t.GW kn (Zh t):=by
 refine cB (L9 T) fun ym=>cB (On T) fun m4=>?_;exists T.Bm.ok R9,9
 obtain ⟨c,n,ds,p,qs,ms,rows,rfl,C,R,hk,vD,q⟩:=h;have bt:=gT ao;obtain ⟨⟨_,fq⟩,ar,wl,aH,aw,_,_⟩:=id C;refine ⟨_,(aP (qv (i:=2) R9.aH rfl (nX rfl) (cH ym ao T.Ft T.xv.bJ T.EM (ai (ij rfl (eS (U 1)) (g0 (sc:=bE Am) rfl (by ac_nf)) (N:=iQ) (sel:=[none,none,none]) (gO (M:=HZ) (by ac_nf)) (fP.of (fun _ _ _ _=>(la (K:=K) (n:=3) rfl rfl (fc (cu (i:=0) (eJ (N:=iQ) (by ac_nf) rfl)) (fc (cu (i:=1) (eJ (N:=iQ) (by ac_nf) rfl)) (fc (cu (i:=2) (eJ (N:=iQ) (by ac_nf) rfl)) k8))))) (fun _ _ _ _=>⟨_,i0,by walk_at "B"⟩) (fun _ _ _ _=>⟨_,(U 2),by walk_at "B"⟩))) aE)))
   (a6 (cz (ij rfl (eS (gw (U 0) T.gZ T.sO m4 ao T.su .nil cj)) (g0 (sc:=bE Am) rfl (by ac_nf)) (N:=["name","told"]) (sel:=[none,some 2]) (gO (M:=HZ) (by ac_nf)) (fP.of (fun _ _ _ _=>(cu (i:=0) (eJ (N:=["name","told"]) (by ac_nf) rfl))) (fun _ _ _ _=>⟨_,(sI (M' (SY bt (U 0) (U 1)))),by walk_at "B"⟩) (fun _ _ _ _=>⟨_,(U 0),by walk_at "B"⟩)))))),?_⟩
 simp only [dT];nofun;have ji:(qs.map V.ref).length=rows.length:=by rw [aO,R.cA]
 refine ⟨⟨_,aF.of R.at_⟩,?_⟩;refine dg.mB (xs:=qs.map V.ref) (zs:=ms.map V.ref) (aF.of R.at_) (by rw [ji];exact c7 hk (by decide)) (by rw [ji,aO,R.cW]) (fun j v z N aJ aW bu=>?_) (fun pm mC=>?_)
 .obtain ⟨kc,eY,rfl⟩:=cm aJ;obtain ⟨Kf,kl,rfl⟩:=cm aW;have aL:j < rows.length:=by rw [<- R.cA];exact (cb.mp eY).1
  have e:=(R.al j kc Kf _ eY kl (bo aL)).1;nofun;exact ⟨_,de.of e,rfl,_,_,rfl,_,_,rfl,_,_,rfl,rfl,Sub.vP,bu⟩
 .have sp:aN H (upd H pm (.lst (ms.map V.ref))):=bf mC;have np:aI H->aI (upd H pm (.lst (ms.map V.ref))):=fun n=>n.upd
  have ep:(upd H pm (.lst (ms.map V.ref))) pm=some (.lst (ms.map V.ref)):=db;generalize upd H pm (.lst (ms.map V.ref))=ew at sp np ep ⊢;refine ⟨pm,ms,rows.map (·.mem),rfl,⟨ep,by rw [R.cW,aO],fun i m x hm ag=>?_⟩,by rw [aO];exact hk,fun x ag=>?_,fun h H1 s1 b9 gg af=>?_⟩
  .obtain ⟨r,d4,rfl⟩:=cm ag;have ha:qs[i]? = some (qs[i]'(by rw [R.cA];exact (cb.mp d4).1)):=bo _;exact sp _ _ (R.al i _ m r ha hm d4).2
  .obtain ⟨r,d4,rfl⟩:=cw.mp ag;exact vD r d4
  .have nD:=sp.trans s1;have wq:=C.same nD;refine ⟨_,_,nD _ _ aw,iR _ _ _ (by ac_nf),c,n,ds,rfl,wq,fun da hc=>⟨da,rfl,⟨_,aF.of db⟩,?_⟩⟩;have sB:=nD.trans (bf (o:=.lst (aX (ds.map (·.name)))) hc);have ak:=(bf (o:=.lst (aX (ds.map (·.name)))) hc) _ _ af;have jP:aI H->aI (upd H1 da (.lst (aX (ds.map (·.name))))):=fun n=>(b9 (np n)).upd
   have mT:(upd H1 da (.lst (aX (ds.map (·.name))))) da=some (.lst (aX (ds.map (·.name)))):=db;generalize upd H1 da (.lst (aX (ds.map (·.name))))=ik at sB ak jP mT ⊢;refine dg.r_ (xs:=aX (ds.map (·.name))) (ss:=(ds.map (·.name)).map fun x=>if (!told rows x)=true then some (V.str x) else none) (aF.of mT) (by rw [fz,aO];exact c7 fq (by decide)) (by rw [fz,aO]) (fun i v o ys N aJ aS bu=>?_) (fun l aK=>?_)
   .unfold aX at aJ;obtain ⟨x,ag,rfl⟩:=cm aJ;obtain ⟨fH,d_,rfl⟩:=cm aS;rw [ag] at d_;cases d_;have bj:fm ik h (.str x) (c1 (hg (rows.map (·.mem))) (bD x)):=fm.k (k:=bD x) ak;have cZ:=PV rows x;nofun;refine ⟨Sub.name,_,bj,?_⟩;rw [cZ];by_cases cO:(!told rows x)=true
    .rw [if_pos cO];rw [if_pos cO] at bu;exact bu
    .rw [if_neg cO];rw [if_neg cO] at bu;simpa using bu
   .rw [u2];exact q l _ (sB.trans (bf aK)) (fun n=>(jP n).upd) (sB.free aK) db
noncomputable def xu (ds:List bl) (left:List Str) (f:Str):List Str:=left.filter fun x=>decide ((iL ds x).map iA=(iL ds f).map iA)
noncomputable def rN (alike:List Str):List Str->Nat->List Str->Except Nat (List Str)
 | [],_,ms=>.ok ms
 | x :: r,j,ms=>if x ∈ alike/\x ∉ ms then rN alike r (j + 1) (ms ++ [x]) else .error j
noncomputable def l0 (ds:List bl) (left ws:List Str):Except Nat (List Str):=if az ws 3 ∈ left then rN (xu ds left (az ws 3)) (ws.drop 4) 4 [az ws 3] else .error 3
noncomputable def qr (ds:List bl) (rows:List ST) (ws:List Str):Except Nat ST:=if az ws 0 ∈ [ab "stage"] then
 (kz (az ws 1) 1 60).elim (.error 1) fun lo=>(kz (az ws 2) lo 60).elim (.error 2) fun ah=>match l0 ds (bi ds rows) ws with
  | .error k=>.error k
  | .ok ms=>.ok ⟨lo,ah,ms⟩ else .error 0
theorem SF:∀ {r:List Str} {j:Nat} {ms p0:List Str},rN alike r j ms=.ok p0->ms.Nodup->p0.Nodup/\(∃ more,p0=ms ++ more)/\∀ x ∈ p0,x ∈ ms\/x ∈ alike
 | [],j,ms,p0,h,aH=>by
  have h:rB ms=rB (ε:=Nat) p0:=h;cases h;exact ⟨aH,⟨[],by simp⟩,fun x ag=>.inl ag⟩
 | y :: r,j,ms,p0,h,aH=>by
  unfold rN at h;split at h
  .rename_i c;obtain ⟨af,⟨more,ak⟩,bc⟩:=SF h (Af.mpr ⟨aH,by simp,fun a aZ b aa e=>by
    rw [fG.mp aa] at e;rw [e] at aZ;exact c.2 aZ⟩)
   refine ⟨af,⟨y :: more,by rw [ak,q_];rfl⟩,fun x ag=>?_⟩;rcases bc x ag with z | z
   .rcases gU.mp z with z | z
    .exact .inl z
    .rw [fG.mp z];exact .inr c.1
   .exact .inr z
  .cases h
def ajf (t:bQ):bX:=fun vs H Q _=>∃ q row ws c n ds l left ms,vs=[.ref q,.ref c,.ref l]/\dc t H q row ws 3/\fC t H c n ds/\(∀ d ∈ ds,d.k < 3/\d.name ≠ ab "")/\H l=some (.lst (aX left))/\left.length <= 12/\(∀ x ∈ left,∃ d ∈ ds,d.name=x)/\aI H/\l0 ds left ws=.ok ms /\
 ∀ m I,cK q H I->aI I->(∃ u,I q=some u)->I m=some (.lst (aX ms))->H m=none->Q (.ref m) I
def Pw (t:bQ):bX:=fun vs H Q _=>∃ q row ws c n ds p qs ms rows s,vs=[.ref q,.ref c,.ref p]/\dc t H q row ws 0/\fC t H c n ds/\(∀ d ∈ ds,d.k < 3/\d.name ≠ ab "")/\iM H p qs ms rows/\rows.length <= 6/\(∀ r ∈ rows,r.mem.length <= 12)/\aI H/\qr ds rows ws=.ok s /\
 ∀ x m I,cK q H I->aI I->I x=some (Ku s m)->I m=some (.lst (aX s.mem))->H x=none->H m=none->Q (.ref x) I
theorem ul {ds:List bl} (aH:(ds.map (·.name)).Nodup) {i:Nat} {d:bl} (h:ds[i]? = some d):iL ds d.name=some d:=by
 unfold iL;cases e:ds.find? fun x=>decide (x.name=d.name) with
 | none=>
  have:=Zo.mp e d (cQ h);simp at this
 | some x=>
  have af:x.name=d.name:=by simpa using List.find?_some e
  obtain ⟨j,aL⟩:=iG (List.mem_of_find?_eq_some e);have:=uo aH (cb.mp aL).1 (cb.mp h).1 (by rw [mq aL,mq h,af]);subst this;rw [aL] at h;exact h
theorem fC.xe {t:bQ} {q c:Addr} {k:Nat} (h:fC t H c n ds) (s:cK q H I) (R:dc t H q row ws k):fC t I c n ds:=by
 obtain ⟨h0,ht,wl,aH,aw,⟨as,dJ,eh,al⟩,bS⟩:=h;obtain ⟨_,DC,a',f1,f2⟩:=id R;refine ⟨h0,ht,wl,aH,s _ _ (fun z=>?_) aw,⟨as,s _ _ (br dJ f1 (by intro z;cases z)) dJ,eh,fun i b d aa hd=>?_⟩,s _ _ (br bS f1 (by intro z;cases z)) bS⟩
 .subst z;rw [aw] at f1;have e:=dX f1;injection e with _ _ er;unfold oR mm at er;injection er with gh _;injection gh with dZ _;exact absurd dZ (by ac_nf)
 .have W:=al i b d aa hd;have a3:=OG W R;exact ⟨W.1,W.2.imp fun ar e=>s _ _ a3 e⟩
theorem X7 (h:j < ws.length):ws.drop j=az ws j :: ws.drop (j + 1):=by
 rw [sT h];unfold az;rw [j_,bo h];rfl
theorem iM.xe {t:bQ} {q p:Addr} {rows:List ST} {k:Nat} (h:iM H p qs ms rows) (s:cK q H I) (R:dc t H q row ws k):iM I p qs ms rows:=by
 obtain ⟨_,DC,a',f1,f2⟩:=id R;refine ⟨s _ _ (br h.at_ f1 (by intro z;cases z)) h.at_,h.cA,h.cW,fun i q m r a b c=>?_⟩;obtain ⟨aw,aG⟩:=h.al i q m r a b c;exact ⟨s _ _ (br aw f1 (by intro z;cases z)) aw,s _ _ (br aG f1 (by intro z;cases z)) aG⟩
theorem aep:cv P base T 4 t.Gf t.Ch Iw (ajf t):=by
 refine cB (Be T) fun rW=>cB (O1 T) fun Fl=>cB (Vk T) fun CS=>?_;exists T.LO.ok Ds,9
 obtain ⟨q,row,ws,c,n,ds,l,left,O2,rfl,R,C,aC,aK,tV,Rk,bG,cD,ku⟩:=h;refine ⟨_,(aP (qv (i:=3) Ds.aH rfl (nX rfl) (Gc (U 0) T.f9 T.wF rW ao T.ze .nil cj (ai (U 2) aE)))
   (aP (qv (i:=4) Ds.aH rfl (nX rfl) (gC (ai (U 3) aE)))
   (aP (Cc (i:=5) Ds.aH rfl (mx rfl) rfl (eS (U 2)) (g0 (sc:=bE CC) rfl (by ac_nf)) (N:=["name","crossing","first"]) (sel:=[none,some 1,some 3]) (gO (M:=I6) (by ac_nf)) (fP.of (fun _ _ _ _=>(cu (i:=0) (eJ (N:=["name","crossing","first"]) (by ac_nf) rfl))) (fun _ _ _ _=>⟨_,(sI (du fA (cH CS ao T.Hs T.wU.bJ T.Hx (ai (U 1) (ai (U 0) aE))) (cH CS ao T.Hs T.wU.bJ T.Hx (ai (U 1) (ai (U 2) aE))) (cR _))),by walk_at "B"⟩) (fun _ _ _ _=>⟨_,(U 0),by walk_at "B"⟩)) rfl)
   (aP (WM fj (qd (gw (U 0) T.f9 T.VQ Fl ao T.TU .nil cj)) (a6 (eo (gF ja mc ng Re (U 4) (ai (Gc (U 0) T.f9 T.wF rW ao T.ze .nil cj (ai (ij rfl (eS (U 5)) (g0 (sc:=bE CC) rfl (by ac_nf)) (N:=["name","members"]) (sel:=[none,some 4]) (gO (M:=I6) (by ac_nf)) (fP.of (fun _ _ _ _=>(cu (i:=0) (eJ (N:=["name","members"]) (by ac_nf) rfl))) (fun _ _ _ _=>⟨_,(sI (du F7 (U 0) (U 1) (by with_unfolding_all rfl))),by walk_at "B"⟩) (fun _ _ _ _=>⟨_,(U 0),by walk_at "B"⟩))) aE)) aE)))))
   (a6 (cz (U 4))))))),?_⟩
 obtain ⟨aW,ar,a',aw,aG⟩:=id R;unfold l0 at cD;split at cD
 case isFalse=>cases cD
 rename_i ic;obtain ⟨kd,nN,qa⟩:=Rk _ ic;have afn:4 <= ws.length:=L8 (k:=3) (by rw [<- qa];exact (aC kd nN).2);nofun;refine ⟨_,_,aw,dc.no _ _ _ (by ac_nf),⟨q,row,ws,3,_,l,left,rfl,R,zt (by omega),aF.of aK,ic,fun H1 s1 b9 j4=>?_⟩⟩;have jJ:=b9 bG;have wq:=C.xe s1 R;have JX:H1 l=some (.lst (aX left)):=s1 _ _ (br aK aw (by intro z;cases z)) aK;generalize hf:az ws 3=f0 at cD ic qa ⊢;obtain ⟨Ej,OR⟩:=iG nN;nofun;refine ⟨by decide,fun gy nj=>?_⟩;obtain ⟨Eg,Hw,PI,f1,f2⟩:=id j4;have UG:H gy=none:=by
  cases e:H gy with
  | none=>rfl
  | some u=>
   by_cases z:gy=q
   .rw [z,f1] at nj;cases nj
   .rw [s1 _ _ z e] at nj;cases nj
 have sB:aN H1 (upd H1 gy (.lst [V.str f0])):=bf nj;have LP:(upd H1 gy (.lst [V.str f0])) gy=some (.lst [V.str f0]):=db;have jP:aI (upd H1 gy (.lst [V.str f0])):=jJ.upd;generalize upd H1 gy (.lst [V.str f0])=ik at sB LP jP ⊢;have Rv:=wq.same sB;have Sj:=sB _ _ JX;have ff:=C.1.1;refine ⟨⟨_,aF.of Sj⟩,?_⟩;refine dg.r_ (xs:=aX left) (ss:=left.map fun x=>if decide ((iL ds x).map iA=(iL ds f0).map iA)=true then some (V.str x) else none) (aF.of Sj) (by rw [fz];exact c7 tV (by decide)) (by rw [fz,aO]) (fun i v o ys N aJ aS bu=>?_) (fun al rA=>?_)
 .unfold aX at aJ;obtain ⟨x,ag,rfl⟩:=cm aJ;obtain ⟨fH,d_,rfl⟩:=cm aS;rw [ag] at d_;cases d_;obtain ⟨ec,w0,rfl⟩:=Rk x (cQ ag);obtain ⟨j,aL⟩:=iG w0;rw [<- qa,ul ff aL,ul ff OR] at bu;nofun;refine ⟨Sub.name,c,n,ds,j,ec,rfl,Rv,aL,(aC ec w0).1,c,n,ds,Ej,kd,by rw [qa],Rv,OR,(aC kd nN).1,rfl,?_⟩;by_cases cO:iA ec=iA kd
  .simp [cO] at bu ⊢;exact bu
  .simp [cO] at bu ⊢;exact bu
 rw [u2];rw [show left.filter (fun x=>decide ((iL ds x).map iA=(iL ds f0).map iA))=xu ds left f0 from rfl];have qj:(xu ds left f0).length <= 12:=by
  unfold xu;exact c7 (um ..) tV
 generalize xu ds left f0=alike at cD qj ⊢;have fV:aN ik (upd ik al (.lst (aX alike))):=bf rA;have MY:(upd ik al (.lst (aX alike))) al=some (.lst (aX alike)):=db;have z3:aI (upd ik al (.lst (aX alike))):=jP.upd;have aly:al ≠ gy:=fun z=>by rw [z,LP] at rA;cases rA
 generalize upd ik al (.lst (aX alike))=nC at fV MY z3 ⊢;have aeY:cK q H nC:=s1.trans (cK.of (sB.trans fV));refine UZ (fun σ I=>∃ ms:List Str,σ=[~~~q,~~~c,~~~l,some (.str f0),~~~gy,~~~al]/\cK q H I/\aI I/\dc t I q row ws (3 + ms.length)/\I gy=some (.lst (aX ms))/\I al=some (.lst (aX alike))/\3 + ms.length <= ws.length/\rN alike (ws.drop (3 + ms.length)) (3 + ms.length) ms=.ok O2) (fun σ I=>match I gy with | some (.lst xs)=>ws.length - xs.length | _=>0) ?_ ?_
 .exact ⟨[f0],rfl,aeY,z3,j4.same (sB.trans fV),fV _ _ LP,MY,afn,cD⟩
 rintro σ I bb;ac_rfl
 obtain ⟨ms,rfl,e1,ck,e',hv,a2,Fo,gk⟩:=bb;obtain ⟨WV,tg,E6,g1,g2⟩:=id e';have U2:gy ≠ q:=br hv g1 (by intro z;cases z);have akk:al ≠ q:=br a2 g1 (by intro z;cases z);subst aV;refine ⟨decide (3 + ms.length < ws.length),fun kL a9=>?_,fun r1=>?_,fun r1=>?_⟩
 .nofun;exact ⟨_,_,g1,dc.no _ _ _ (by ac_nf),⟨q,row,ws,_,rfl,e',_,rfl,a9⟩⟩
 .have r1:=of_decide_eq_true r1;rw [X7 r1] at gk;unfold rN at gk;nofun;refine ⟨.inl ⟨_,aF.of hv⟩,?_⟩;refine ⟨_,_,g1,dc.no _ _ _ (by ac_nf),⟨_,aF.of a2⟩,?_⟩;refine dg.r_ (xs:=aX alike) (ss:=alike.map fun x=>if (!decide (x ∈ ms))=true then some (V.str x) else none) (aF.of a2) (by rw [fz];exact c7 qj (by decide)) (by rw [fz,aO]) (fun i v o ys N aJ aS bu=>?_) (fun cl o8=>?_)
  .unfold aX at aJ;obtain ⟨x,ag,rfl⟩:=cm aJ;obtain ⟨fH,d_,rfl⟩:=cm aS;rw [ag] at d_;cases d_;nofun;refine ⟨Sub.name,_,.inl (aF.of hv),rfl,De ms,?_⟩;rw [CG];by_cases cO:x ∈ ms
   .simp [cO] at bu ⊢;exact bu
   .simp [cO] at bu ⊢;exact bu
  rw [u2];have j9:aN I (upd I cl (.lst (aX (alike.filter fun x=>!decide (x ∈ ms))))):=bf o8;have Nw:(upd I cl (.lst (aX (alike.filter fun x=>!decide (x ∈ ms))))) cl=some (.lst (aX (alike.filter fun x=>!decide (x ∈ ms)))):=db;have Cm:aI (upd I cl (.lst (aX (alike.filter fun x=>!decide (x ∈ ms))))):=ck.upd;generalize upd I cl (.lst (aX (alike.filter fun x=>!decide (x ∈ ms))))=yi at j9 Nw Cm ⊢;split at gk
  case isFalse=>cases gk
  rename_i ay;refine ⟨q,row,ws,3 + ms.length,_,cl,_,rfl,e'.same j9,zt r1,aF.of Nw,lE.mpr ⟨ay.1,by simpa using ay.2⟩,fun av s2 dy mu=>?_⟩
  .have l3:av gy=some (.lst (aX ms)):=s2 _ _ U2 (j9 _ _ hv);have fM:av al=some (.lst (aX alike)):=s2 _ _ akk (j9 _ _ a2);obtain ⟨DI,Wh,SQ,b2,di⟩:=id mu;have ph:SQ ≠ gy:=fun z=>by
    rw [z,l3] at di;have e:=dX di;injection e with e;have:=congrArg ru e;rw [fz,fz] at this;omega
   refine ⟨_,l3,f5 (show (aX ms).length <= 1000 by rw [fz];have:=DI.1;omega) (by decide),fun b u aa e=>?_,(dy Cm).upd,⟨ms ++ [az ws (3 + ms.length)],⟨DI,Wh,SQ,?_,?_⟩,?_,?_,?_,?_⟩,?_⟩
   .rw [aA (dj e UG)];exact s2 _ _ aa (j9 _ _ (e1 _ _ aa e))
   .rw [aA (cX U2),dS];exact b2
   .rw [aA ph];exact di
   .rw [db];unfold aX;rw [fx];rfl
   .rw [aA aly];exact fM
   .rw [dS];show 3 + (ms.length + 1) <= _;omega
   .rw [dS];exact gk
   .rw [db,hv];show ws.length - (aX ms ++ [V.str (az ws (3 + ms.length))]).length < ws.length - (aX ms).length;rw [dS,fz];show ws.length - (ms.length + 1) < _;omega
 .have r1:=of_decide_eq_false r1;rw [List.drop_of_length_le (by omega)] at gk;replace gk:(rB ms:Except Nat (List Str))=.ok O2:=gk;cases gk;nofun;exact ku gy I e1 ck ⟨_,g1⟩ hv UG
theorem agu:cv P base T 6 t.CL t.Bd B0 (Pw t):=by
 refine cB (Be T) fun rW=>cB (BI T) fun nI=>cB (aep T) fun ajl=>cB (T4 T) fun Mn=>?_;exists T.GL.ok Kv,9
 obtain ⟨q,row,ws,c,n,ds,p,qs,ms,rows,lW,rfl,R,C,aC,am0,hk,vD,bG,cD,ku⟩:=h;refine ⟨_,(aP (eo (Gc (U 0) T.f9 T.wF rW ao T.ze .nil cj (ai (gC (ai dD aE)) aE)))
   (aP (cg (i:=3) Kv.aH (Gc (U 0) T.f9 T.q0 nI ao T.rv .nil cj (ai aM (ai (me rfl T.PS T.Sm) aE))))
   (aP (cg (i:=4) Kv.aH (Gc (U 0) T.f9 T.q0 nI ao T.rv .nil cj (ai (U 3) (ai (me rfl T.PS T.Sm) aE))))
   (a6 (cz (pQ (ai (U 3) (ai (U 4) (ai (cH ajl ao T.alu T.LO.bJ T.X5 (ai (U 0) (ai (U 1) (ai (cH Mn ao T.N4 T.Bm.bJ T.US (ai (U 1) (ai (U 2) aE))) aE)))) aE))))))))),?_⟩
 obtain ⟨_,ar,a',aw,aG⟩:=id R;unfold qr at cD;split at cD
 case isFalse=>cases cD
 rename_i ic;have cA:1 <= ws.length:=L8 (k:=0) (by rw [fG.mp ic];ac_nf);cases EH:kz (az ws 1) 1 60 with
 | none=>rw [EH] at cD;cases cD
 | some lo=>
 have uM:i6 (az ws 1) 1 60=.int lo:=by rw [JC,EH];rfl
 rw [EH] at cD;replace cD:((kz (az ws 2) lo 60).elim (.error 2) fun ah=>match l0 ds (bi ds rows) ws with | .error k=>.error k | .ok ms=>.ok ⟨lo,ah,ms⟩:Except Nat ST)=.ok lW:=cD;cases KN:kz (az ws 2) lo 60 with
 | none=>rw [KN] at cD;cases cD
 | some ah=>
 have HB:i6 (az ws 2) lo 60=.int ah:=by rw [JC,KN];rfl
 rw [KN] at cD;replace cD:(match l0 ds (bi ds rows) ws with | .error k=>.error k | .ok ms=>.ok (⟨lo,ah,ms⟩:ST):Except Nat ST)=.ok lW:=cD;cases hm:l0 ds (bi ds rows) ws with
 | error k=>rw [hm] at cD;cases cD
 | ok ah2=>
 rw [hm] at cD;cases cD;have cW:=(Fx uM).1;nofun;refine ⟨_,_,aw,dc.no _ _ _ (by ac_nf),by decide,fun eQ gc=>?_⟩;have s0:aN H (upd H eQ (.lst [V.str (ab "stage")])):=bf gc;refine ⟨q,row,ws,0,_,eQ,[ab "stage"],rfl,R.same s0,zt cA,aF.of db,ic,fun H1 s1 b9 j4=>?_⟩;obtain ⟨_,Hw,PI,f1,f2⟩:=id j4;have jJ:=b9 bG.upd;have cp:cK q H H1:=(cK.of s0).trans s1;nofun;refine ⟨_,_,f1,dc.no _ _ _ (by ac_nf),⟨q,row,ws,1,_,1,60,lo,rfl,j4,zt cW,uM,jJ,fun av s2 ck e'=>?_⟩⟩;have vy:=ck jJ;have e1:cK q H av:=cp.trans s2;obtain ⟨_,tg,E6,g1,g2⟩:=id e';nofun;refine ⟨_,_,g1,dc.no _ _ _ (by ac_nf),⟨q,row,ws,2,_,lo,60,ah,rfl,e',zt (Fx HB).1,HB,vy,fun bk s3 dy mu=>?_⟩⟩;have ana:=(Fx HB).1;have FK:=dy vy;have fh:cK q H bk:=e1.trans s3;have v8:=C.xe fh R;have ae':=am0.xe fh R;nofun;refine ⟨c,n,ds,p,qs,ms,rows,rfl,v8,ae',hk,vD,fun l b5 s4 df aK Eu=>?_⟩;have dw:cK q H b5:=fh.trans (cK.of s4);have EZ:=df FK;have pY:(bi ds rows).length <= 12:=by
  unfold bi;exact c7 (um ..) (by rw [aO];exact C.1.2)
 refine ⟨q,row,ws,c,n,ds,l,bi ds rows,ah2,rfl,mu.same s4,v8.same s4,aC,Eu,pY,fun x ag=>?_,EZ,hm,fun m cP s5 HJ aiT X6 H0=>?_⟩
 .obtain ⟨d,hd,e⟩:=cw.mp (lE.mp ag).1;exact ⟨d,hd,e⟩
 obtain ⟨_,_,_,aed,_⟩:=mu.same s4;nofun;refine ⟨by decide,fun x ag=>?_⟩;have back:∀ {y:Addr} {G:au},cK q H G->G y=none->(∃ u,G q=some u)->H y=none:=fun {y G} j3 aY ⟨u,bt⟩=>by
  cases e:H y with
  | none=>rfl
  | some v=>
   by_cases c:y=q
   .subst c;rw [bt] at aY;cases aY
   .rw [j3 _ _ c e] at aY;cases aY
 exact ku x m _ (dw.trans (s5.trans (cK.of (bf ag)))) HJ.upd db ((bf ag) _ _ X6) (back (dw.trans s5) ag aiT) (back dw H0 ⟨_,aed⟩)
theorem TB [DecidableEq α]:∀ {l l':List α},l.Nodup->(∀ x ∈ l,x ∈ l')->l.length <= l'.length
 | [],_,_,_=>e5 _
 | a :: l,l',h,aB=>by
  have aZ:=aB a (m9 ..);have ak:=rX.mp h;have:=TB (l':=l'.erase a) ak.2 (fun x ag=>(List.mem_erase_of_ne (fun e=>ak.1 (by rw [<- e];exact ag))).mpr (aB x (iu _ ag)));rw [List.length_erase_of_mem aZ] at this;have aq:=afo aZ;rw [hT];omega
noncomputable def lx (rows:List ST) (x:Str):Option Nat:=match c1 (hg (rows.map (·.mem))) (bD x) with
 | some (.int k)=>some k.toNat
 | _=>none
theorem RP {x:Str}:∀ (n:Nat) (dp:List (List Str)),n <= dp.length->(∃ ms ∈ dp.take n,x ∈ ms)->∃ (k:Nat) (ms:List Str),c1 (hg (dp.take n)) (bD x)=some (.int (k:Int))/\dp[k]? = some ms/\x ∈ ms
 | 0,dp,_,h=>by
  obtain ⟨ms,af,_⟩:=h;simp at af
 | n + 1,dp,a3,h=>by
  have bj:dp[n]? = some dp[n]:=bo (by omega);rw [I2 bj,Ib];by_cases c:x ∈ dp[n]
  .rw [if_pos c];exact ⟨n,_,rfl,bj,c⟩
  .rw [if_neg c];refine RP n dp (by omega) ?_;obtain ⟨ms,af,ak⟩:=h;rw [iH bj] at af;rcases gU.mp af with af | af
   .exact ⟨ms,af,ak⟩
   .rw [fG.mp af] at ak;exact absurd ak c
theorem ql {rows:List ST} {x:Str} (h:told rows x=true):∃ (k:Nat) (r:ST),c1 (hg (rows.map (·.mem))) (bD x)=some (.int (k:Int))/\lx rows x=some k/\rows[k]? = some r/\x ∈ r.mem:=by
 unfold told at h;obtain ⟨r,ao,ag⟩:=tl.mp h;have:=RP (x:=x) (rows.map (·.mem)).length (rows.map (·.mem)) (bR _) ⟨r.mem,by rw [hB];exact cw.mpr ⟨r,ao,rfl⟩,by simpa using ag⟩;rw [hB] at this;obtain ⟨k,ms,af,ak,bc⟩:=this;obtain ⟨dM,d4,rfl⟩:=cm ak;exact ⟨k,dM,af,by unfold lx;rw [af];rfl,d4,bc⟩
noncomputable def wW (rows:List ST) (d:bl):Option (bl × Nat):=(lx rows d.name).bind fun k=>(rows[k]?).bind fun r=>if r.lo < d.least then some (d,k) else none
noncomputable def vg (ds:List bl) (rows:List ST):Option (bl × Nat):=ds.findSome? (wW rows)
noncomputable def oH (n:Int) (ds:List bl) (x y:Str):Bool:=match iL ds x,iL ds y with
 | some d,some e=>mt n d e
 | _,_=>false
noncomputable def No (n:Int) (ds:List bl) (k:Nat) (x y:Str):Option (Str × Str × Nat):=if x ≠ y/\oH n ds x y=true then some (x,y,k) else none
noncomputable def s_ (n:Int) (ds:List bl) (e:ST × Nat):Option (Str × Str × Nat):=e.1.mem.findSome? fun x=>e.1.mem.findSome? fun y=>No n ds e.2 x y
noncomputable def ve (n:Int) (ds:List bl) (rows:List ST):Option (Str × Str × Nat):=rows.zipIdx.findSome? (s_ n ds)
def w1 (ds:List bl):Prop:=∀ d ∈ ds,afc d.name/\d.k < 3/\(0 <= d.off/\d.off <= 1000)
structure qk (ds:List bl) (rows:List ST):Prop where
 ln:rows.length <= 6
 gy:∀ r ∈ rows,r.mem.length <= 12
 yv:∀ r ∈ rows,∀ x ∈ r.mem,∃ d ∈ ds,d.name=x
def P2 (t:bQ):bX:=fun vs H Q _=>∃ c n ds p qs ms rows,vs=[.ref c,.ref p]/\fC t H c n ds/\iM H p qs ms rows/\qk ds rows/\bi ds rows=[]/\∀ I,aN H I->(aI H->aI I)->Q .b' I
def R3 (t:bQ):bX:=fun vs H Q _=>∃ c n ds p qs ms rows,vs=[.ref c,.ref p]/\fC t H c n ds/\iM H p qs ms rows/\qk ds rows/\bi ds rows=[]/\vg ds rows=none/\∀ I,aN H I->(aI H->aI I)->Q .b' I
def M9 (t:bQ):bX:=fun vs H Q _=>∃ c n ds p qs ms rows,vs=[.ref c,.ref p]/\fC t H c n ds/\0 < n/\iM H p qs ms rows/\qk ds rows/\aI H/\ve n ds rows=none/\∀ I,aN H I->(aI H->aI I)->Q .b' I
def tC (l:List Int) (v:Int):Prop:=v ∈ l/\∀ k ∈ l,k <= v
noncomputable def sA (ds:List bl) (x:Str):Int:=((iL ds x).map mP).getD 0
noncomputable def tY (ds:List bl) (x:Str):Int:=((iL ds x).map mv).getD 0
noncomputable def ui (ds:List bl) (x y:Str):Int:=match iL ds x,iL ds y with
 | some d,some e=>if d.off - e.near > 0 then d.off - e.near else 0
 | _,_=>0
noncomputable def ry (n:Int) (ds:List bl) (s:List Str) (x:Str):List Int:=if x ∈ s then [] else (s.filter fun y=>oH n ds x y).map (ui ds x)
noncomputable def lQ (n:Int) (ds:List bl) (f s:List Str):List Int:=[0] ++ f.map (sA ds) ++ s.map (tY ds) ++ (ds.map (·.name)).flatMap (ry n ds s)
theorem yq (h:oP.contains m=false):(oX d).lookup m=none:=t6 oP (W5 _) h
theorem TZ (p:Str->Bool) (g:Str->Int):∀ xs:List Str,((xs.map fun x=>if p x=true then some (V.int (g x)) else none).flatMap DP)=((xs.filter p).map g).map V.int
 | []=>rfl
 | x :: xs=>by
  rw [eu,yg,TZ p g xs];by_cases c:p x=true
  .rw [if_pos c,aal c];rfl
  .rw [if_neg c,ahA c];rfl
theorem Il:∀ bW:List Int,bW ≠ []->∃ m,m ∈ bW/\∀ k ∈ bW,k <= m
 | [],h=>absurd rfl h
 | [x],_=>⟨x,by simp,fun k aC=>by rw [fG.mp aC];exact yt _⟩
 | x :: y :: r,_=>by
  obtain ⟨m,hm,al⟩:=Il (y :: r) (by simp);by_cases c:x <= m
  .refine ⟨m,iu _ hm,fun k aC=>?_⟩;rcases eZ.mp aC with rfl | aC
   .exact c
   .exact al k aC
  .refine ⟨x,by simp,fun k aC=>?_⟩;rcases eZ.mp aC with rfl | aC
   .exact yt _
   .exact Int.le_trans (al k aC) (by omega)
def aiJ (t:bQ):bX:=fun vs H Q _=>∃ c n ds gB aT f s,vs=[.ref c,.ref gB,.ref aT]/\fC t H c n ds/\0 < n/\w1 ds/\H gB=some (.lst (aX f))/\H aT=some (.lst (aX s))/\(∀ x ∈ f,∃ d ∈ ds,d.name=x)/\(∀ x ∈ s,∃ d ∈ ds,d.name=x)/\f.length <= 12/\s.length <= 12/\aI H/\∀ v,tC (lQ n ds f s) v->Q (.int v) H
def ai3 (t:bQ):bX:=fun vs H Q _=>∃ c n ds gB aT f s,vs=[.ref c,.ref gB,.ref aT]/\fC t H c n ds/\0 < n/\w1 ds/\H gB=some (.lst (aX f))/\H aT=some (.lst (aX s))/\(∀ x ∈ f,∃ d ∈ ds,d.name=x)/\(∀ x ∈ s,∃ d ∈ ds,d.name=x)/\f.length <= 12/\s.length <= 12/\aI H/\∀ v I,aN H I->tC (lQ n ds f s) v->Q (.int v) I
theorem ag4:cv P base T 3 t.zN t.El kn (P2 t):=by
 refine cB (T4 T) fun Mn=>?_;exists T.Lh.ok Pd,9
 obtain ⟨c,n,ds,p,qs,ms,rows,rfl,C,R,J,fb,q⟩:=h;refine ⟨_,(aP (cg (i:=2) Pd.aH (cH Mn ao T.N4 T.Bm.bJ T.US (ai (U 0) (ai (U 1) aE))))
   (a6 (en (D6 (U 2) (fun _=>rfl)) (a6 oF) fe))),?_⟩
 nofun;refine ⟨c,n,ds,p,qs,ms,rows,rfl,C,R,J.ln,J.gy,fun l H1 s1 b9 aK cA=>?_⟩;dsimp only;rw [fb] at cA;refine eg false (fun Q a9=>?_) (fun z=>nomatch z) (fun _=>?_)
 .exact ⟨_,rfl,_,.inl ⟨_,aF.of cA,rfl⟩,a9⟩
 .simp only [jf];exact q H1 s1 b9
theorem Y_:cv P base T 3 t.Cd t.C5 kn (R3 t):=by
 refine cB (L9 T) fun ym=>cB (On T) fun m4=>cB (p_ T) fun iV=>?_;exists T.Kk.ok Dh,9
 obtain ⟨c,n,ds,p,qs,ms,rows,rfl,C,R,J,Pg,zh,q⟩:=h;have bt:=gT ao;obtain ⟨⟨ff,fq⟩,ar,wl,aH,aw,_,_⟩:=id C;refine ⟨_,(aP (cg (i:=2) Dh.aH (cH ym ao T.Ft T.xv.bJ T.EM (ai (ij rfl (eS (U 1)) (g0 (sc:=bE FQ) rfl (by ac_nf)) (N:=iQ) (sel:=[none,none,none]) (gO (M:=["crossing","rows","homes","name","number"]) (by ac_nf)) (fP.of (fun _ _ _ _=>(la (K:=K) (n:=3) rfl rfl (fc (cu (i:=0) (eJ (N:=iQ) (by ac_nf) rfl)) (fc (cu (i:=1) (eJ (N:=iQ) (by ac_nf) rfl)) (fc (cu (i:=2) (eJ (N:=iQ) (by ac_nf) rfl)) k8))))) (fun _ _ _ _=>⟨_,i0,by walk_at "B"⟩) (fun _ _ _ _=>⟨_,(U 2),by walk_at "B"⟩))) aE)))
   (a6 (fp fj rfl (eS (gw (U 0) T.gZ T.sO m4 ao T.su .nil cj)) (cu (i:=3) Dh.aH) (aP (cg (i:=4) Dh.aH (jM bt (U 2) (U 3) (fun _ _=>rfl)))
   (a6 (en (du lV (cE re (cE ed (U 1) (U 4)) aM) (bx (Gc (U 0) T.gZ T.lc iV ao T.mh .nil cj (ai (U 3) aE)) rfl) (cR _)) (a6 oF) fe)))))),?_⟩
 nofun;have ji:(qs.map V.ref).length=rows.length:=by rw [aO,R.cA]
 refine ⟨⟨_,aF.of R.at_⟩,?_⟩;refine dg.mB (xs:=qs.map V.ref) (zs:=ms.map V.ref) (aF.of R.at_) (by rw [ji];exact c7 J.ln (by decide)) (by rw [ji,aO,R.cW]) (fun j v z N aJ aW bu=>?_) (fun pm mC=>?_)
 .obtain ⟨kc,eY,rfl⟩:=cm aJ;obtain ⟨Kf,kl,rfl⟩:=cm aW;have aL:j < rows.length:=by rw [<- R.cA];exact (cb.mp eY).1
  have e:=(R.al j kc Kf _ eY kl (bo aL)).1;nofun;exact ⟨_,de.of e,rfl,_,_,rfl,_,_,rfl,_,_,rfl,rfl,Sub.vP,bu⟩
 .have sp:aN H (upd H pm (.lst (ms.map V.ref))):=bf mC;have np:aI H->aI (upd H pm (.lst (ms.map V.ref))):=fun n=>n.upd
  have ep:(upd H pm (.lst (ms.map V.ref))) pm=some (.lst (ms.map V.ref)):=db;generalize upd H pm (.lst (ms.map V.ref))=ew at sp np ep ⊢;refine ⟨pm,ms,rows.map (·.mem),rfl,⟨ep,by rw [R.cW,aO],fun i m x hm ag=>?_⟩,by rw [aO];exact J.ln,fun x ag=>?_,fun h H1 s1 b9 gg af=>?_⟩
  .obtain ⟨r,d4,rfl⟩:=cm ag;have ha:qs[i]? = some (qs[i]'(by rw [R.cA];exact (cb.mp d4).1)):=bo _;exact sp _ _ (R.al i _ m r ha hm d4).2
  .obtain ⟨r,d4,rfl⟩:=cw.mp ag;exact J.gy r d4
  .have nD:=sp.trans s1;have wq:=C.same nD;refine ⟨_,_,nD _ _ aw,iR _ _ _ (by ac_nf),c,n,ds,rfl,wq,fun da hc=>⟨da,rfl,⟨_,aF.of db⟩,?_⟩⟩;have sB:=nD.trans (bf (o:=.lst (aX (ds.map (·.name)))) hc);have ak:=(bf (o:=.lst (aX (ds.map (·.name)))) hc) _ _ af;have jP:aI H->aI (upd H1 da (.lst (aX (ds.map (·.name))))):=fun n=>(b9 (np n)).upd
   have mT:(upd H1 da (.lst (aX (ds.map (·.name))))) da=some (.lst (aX (ds.map (·.name)))):=db;generalize upd H1 da (.lst (aX (ds.map (·.name))))=ik at sB ak jP mT ⊢;refine dY.list (xs:=aX (ds.map (·.name))) (fun i σ I=>(∃ x y,σ=[~~~c,~~~p,~~~h,x,y])/\I=ik/\vg ds rows=(ds.drop i).findSome? (wW rows)) ?_ ?_ ?_ ?_
   .exact ⟨⟨_,_,rfl⟩,rfl,rfl⟩
   .rintro i σ I ah ⟨_,rfl,_⟩;exact aF.of mT
   .rintro i v σ I aJ bb;ac_rfl
    obtain ⟨⟨x,y,rfl⟩,rfl,d2⟩:=bb;subst aV;unfold aX at aJ;obtain ⟨nm,lG,rfl⟩:=cm aJ;obtain ⟨d,hd,rfl⟩:=cm lG;obtain ⟨ah,sg⟩:=cb.mp hd;have EI:=cQ hd;have cZ:told rows d.name=true:=by
     have:=PF.mp Pg d.name (cw.mpr ⟨d,EI,rfl⟩);simpa using this
    obtain ⟨k,r,abA,yZ,kr,lz⟩:=ql cZ;have mH:k < rows.length:=(cb.mp kr).1;have nB:wW rows d=if r.lo < d.least then some (d,k) else none:=by
     unfold wW;rw [yZ,yL,kr,yL]
    rw [sT ah,E4,sg,nB] at d2;have bj:fm I h (.str d.name) (some (.int (k:Int))):=by rw [<- abA];exact fm.k (k:=bD d.name) ak
    have V5:qs[k]? = some (qs[k]'(by rw [R.cA];exact mH)):=bo _;have ah8:ms[k]? = some (ms[k]'(by rw [R.cW];exact mH)):=bo _;have aja:=sB _ _ (R.al k _ _ r V5 ah8 kr).1;simp only [gj,dT,jD,jn];exists (fun ax av=>av=I/\ax=[~~~c,~~~p,~~~h,some (.str d.name),some (.int (k:Int))]),2
    .nofun;exact ⟨_,bj,cM _ _ ⟨rfl,rfl⟩⟩
    rintro cn av ⟨rfl,rfl⟩;subst aV;dsimp only;refine eg (decide (r.lo < d.least)) (fun Q a9=>?_) (fun aa=>?_) (fun aa=>?_)
    .nofun;exact ⟨_,aF.of (sB _ _ R.at_),_,cy (by rw [dO,V5];rfl),_,rfl,_,de.of aja,_,cy (j:=0) rfl,_,_,sB _ _ aw,iR _ _ _ (by ac_nf),c,n,ds,i,d,rfl,C.same sB,hd,fun a W=>⟨a,rfl,_,W.alI T,_,rfl,_,rfl,a9⟩⟩
    .have aa:=of_decide_eq_true aa;rw [if_pos aa] at d2;replace d2:vg ds rows=some (d,k):=d2;rw [d2] at zh;cases zh
    .have aa:=of_decide_eq_false aa;rw [if_neg aa] at d2;simp only [jf];exact ⟨⟨_,_,rfl⟩,trivial,d2⟩
   .rintro σ I bb;ac_rfl
    obtain ⟨⟨x,y,rfl⟩,rfl,d2⟩:=bb;subst aV;rw [fz,aO,y8] at d2;exact q _ sB jP
theorem akI:cv P base T 4 t.A8 t.Ci kn (M9 t):=by
 refine cB (RK T) fun J5=>?_;exists T.Hq.ok x_,9
 obtain ⟨c,n,ds,p,qs,ms,rows,rfl,C,a3,R,J,bG,zh,q⟩:=h;obtain ⟨⟨ff,fq⟩,ar,wl,aH,aw,_,_⟩:=id C;refine ⟨_,(a6 (fp fj rfl (Ty rfl T.Bh (ai (U 1) aE)) (la (K:=K) (n:=2) rfl rfl (fc (cu (i:=2) x_.aH) (fc (cu (i:=3) x_.aH) k8))) (a6 (fp fj rfl (eS (cE re (U 3) aM)) (cu (i:=4) x_.aH) (a6 (fp fj rfl (eS (cE re (U 3) aM)) (cu (i:=5) x_.aH) (a6 (en (iC.pt (r3 (du sR (U 4) (U 5) (cR _)) (ts (qd (cH J5 ao T.IN T.B1.bJ T.SU (ai (U 0) (ai (U 4) (ai (U 5) aE)))))))) (a6 oF) fe)))))))),?_⟩;nofun;have sm:∀ {x:Str},(∃ d ∈ ds,d.name=x)->∃ (i:Nat) (d:bl),ds[i]? = some d/\d.name=x/\iL ds x=some d:=fun ⟨d,hd,e⟩=>by
  obtain ⟨i,ah⟩:=iG hd;exact ⟨i,d,ah,e,by rw [<- e];exact ul ff ah⟩
 refine ⟨⟨_,aF.of R.at_⟩,?_⟩;refine dY.enum (xs:=qs.map V.ref) (fun i σ I=>(∃ x y z u,σ=[~~~c,~~~p,x,y,z,u])/\aN H I/\aI I/\ve n ds rows=((rows.drop i).zipIdx i).findSome? (s_ n ds)) ?_ ?_ ?_ ?_
 .exact ⟨⟨_,_,_,_,rfl⟩,aN.refl _,bG,rfl⟩
 .rintro i σ I ah ⟨_,bg,_⟩;exact aF.of (bg _ _ R.at_)
 .rintro i v σ I jB aJ ⟨⟨x,y,z,u,rfl⟩,bg,b9,d2⟩ px;obtain ⟨rd,ha,rfl⟩:=cm aJ;have ah:i < rows.length:=by rw [<- R.cA];exact (cb.mp ha).1
  have jz:rows[i]? = some rows[i]:=bo ah;have rf:ms[i]? = some (ms[i]'(by rw [R.cW];exact ah)):=bo _;obtain ⟨l7,em⟩:=R.al i rd _ _ ha rf jz;generalize ms[i]'(by rw [R.cW];exact ah)=m at rf l7 em;have vD:=cQ jz;have ic:=J.yv _ vD;have nj:=J.gy _ vD;rw [sT ah,List.zipIdx_cons,E4] at d2;generalize apu:rows[i]=r at l7 em ic nj d2;have s2:aN I (upd I jB (.tup [.int i,.ref rd])):=bf px;have sB:=bg.trans s2;have jP:aI (upd I jB (.tup [.int i,.ref rd])):=b9.upd;refine Dv ?_;generalize upd I jB (.tup [.int i,.ref rd])=ik at s2 sB jP ⊢;have Qr:=sB _ _ l7;have CD:=sB _ _ em;nofun;refine ⟨_,de.of Qr,_,cy (j:=2) rfl,m,rfl,⟨_,aF.of CD⟩,?_⟩;generalize aoS:((rows.drop (i + 1)).zipIdx (i + 1)).findSome? (s_ n ds)=ju at d2;refine dY.list (xs:=aX r.mem) (fun j σ av=>(∃ z u,σ=[~~~c,~~~p,some (.int (i:Int)),~~~rd,z,u])/\av=ik/\s_ n ds (r,i)=(r.mem.drop j).findSome? (fun x=>r.mem.findSome? fun y=>No n ds i x y)) ?_ ?_ ?_ ?_
  .exact ⟨⟨_,_,rfl⟩,rfl,rfl⟩
  .rintro j σ av aL ⟨_,rfl,_⟩;exact aF.of CD
  .rintro j v σ av aJ bb;ac_rfl
   obtain ⟨⟨z,u,rfl⟩,rfl,hV⟩:=bb;subst aV;unfold aX at aJ;obtain ⟨cp,Og,rfl⟩:=cm aJ;obtain ⟨aL,ake⟩:=cb.mp Og;rw [sT aL,E4,ake] at hV;obtain ⟨i1,ec,w0,JF,yO⟩:=sm (ic cp (cQ Og));generalize anM:(r.mem.drop (j + 1)).findSome? (fun x=>r.mem.findSome? fun y=>No n ds i x y)=apm at hV;nofun;refine ⟨_,de.of Qr,_,cy (j:=2) rfl,m,rfl,⟨_,aF.of CD⟩,?_⟩;refine dY.list (xs:=aX r.mem) (fun l σ bk=>(∃ u,σ=[~~~c,~~~p,some (.int (i:Int)),~~~rd,some (.str cp),u])/\bk=av/\(r.mem.findSome? fun y=>No n ds i cp y)=(r.mem.drop l).findSome? (fun y=>No n ds i cp y)) ?_ ?_ ?_ ?_
   .exact ⟨⟨_,rfl⟩,rfl,rfl⟩
   .rintro l σ bk aK ⟨_,rfl,_⟩;exact aF.of CD
   .rintro l v σ bk aJ bb;ac_rfl
    obtain ⟨⟨u,rfl⟩,rfl,fb⟩:=bb;subst aV;unfold aX at aJ;obtain ⟨e1,yQ,rfl⟩:=cm aJ;obtain ⟨aK,lJ⟩:=cb.mp yQ;rw [sT aK,E4,lJ] at fb;obtain ⟨i2,eX,hd2,q1,akx⟩:=sm (ic e1 (cQ yQ));have Al:oH n ds cp e1=mt n ec eX:=by unfold oH;rw [yO,akx]
    have Zs:No n ds i cp e1=if cp ≠ e1/\mt n ec eX=true then some (cp,e1,i) else none:=by unfold No;rw [Al]
    rw [Zs] at fb;simp only [gj,jD,jn];refine eg (decide (cp ≠ e1) && mt n ec eX) (fun Q a9=>?_) (fun aa=>?_) (fun aa=>?_)
    .nofun;by_cases cO:cp=e1
     .rw [if_neg (by simp [cO])];rw [decide_eq_false (fun z=>z cO),nJ] at a9;exact a9
     .rw [if_pos (by simpa using cO)];rw [decide_eq_true cO,mA] at a9;exact ⟨c,n,ds,i1,i2,ec,eX,by rw [JF,q1],C.same sB,a3,w0,hd2,jP,_,rfl,a9⟩
    .rw [jF,decide_eq_true_eq] at aa;rw [if_pos aa] at fb;replace fb:(r.mem.findSome? fun y=>No n ds i cp y)=some (cp,e1,i):=fb;rw [fb] at hV;replace hV:s_ n ds (r,i)=some (cp,e1,i):=hV;rw [hV] at d2;replace d2:ve n ds rows=some (cp,e1,i):=d2;rw [d2] at zh;cases zh
    .have aa:¬ (cp ≠ e1/\mt n ec eX=true):=fun z=>by
      rw [decide_eq_true z.1,z.2] at aa;exact nomatch aa
     rw [if_neg aa] at fb;simp only [jf];exact ⟨⟨_,rfl⟩,trivial,fb⟩
   .rintro σ bk bb;ac_rfl
    obtain ⟨⟨u,rfl⟩,rfl,fb⟩:=bb;subst aV;rw [fz,y8] at fb;replace fb:(r.mem.findSome? fun y=>No n ds i cp y)=none:=fb;rw [fb] at hV;exact ⟨⟨_,_,rfl⟩,rfl,hV⟩
  .rintro σ av bb;ac_rfl
   obtain ⟨⟨z,u,rfl⟩,rfl,hV⟩:=bb;subst aV;rw [fz,y8] at hV;replace hV:s_ n ds (r,i)=none:=hV;rw [hV] at d2;exact ⟨⟨_,_,_,_,rfl⟩,sB,jP,d2⟩
 .rintro σ I bb;ac_rfl
  obtain ⟨⟨x,y,z,u,rfl⟩,bg,b9,d2⟩:=bb;subst aV;rw [aO,R.cA,y8] at d2;exact q _ bg (fun _=>b9)
theorem ajQ:cv P base T 4 t.ET t.Fu Hc (aiJ t):=by
 refine cJ.forget (sp:=ai3 t) ?_ fun vs H Q E h=>?_
 .have J5:cJ P w K mg base dt 3 t.As t.B3 rT (Oq t):=RK T;have ah1:cJ P w K mg base dt 3 t.zJ t.Ew rT (WY t):=ac_ T;have m4:cJ P w K mg base dt 3 t.uL t.wN ["self"] (G2 t):=(On T).mono (by decide);have iV:cJ P w K mg base dt 3 t.y4 t.Eh iN (NK t):=(p_ T).mono (by decide);have Gy:mN P w K mg base dt 3 (qL t) "ready" ["self"] (tX t):=xI (ND T) (by decide);have JJ:mN P w K mg base dt 3 (qL t) "fade" ["self"] (uG t):=xI (Nu T) (by decide);exists T.FH.ok LR,9
  obtain ⟨c,n,ds,gB,aT,f,s,rfl,C,a3,cC,hf,aB,fin,sin,nV,jg,bG,q⟩:=h;obtain ⟨⟨ff,fq⟩,ar,wl,aH,aw,_,_⟩:=id C;refine ⟨_,(aP (cg (i:=3) LR.aH (gC (ai aM aE)))
   (aP (eo (gF ja DW Gj z5 (U 3) (ai (ij rfl (eS (U 1)) (g0 (sc:=bE xF) rfl (by ac_nf)) (N:=DA) (sel:=[none,some 0]) (gO (M:=Dn) (by ac_nf)) (fP.of (fun _ _ _ _=>(cu (i:=0) (eJ (N:=DA) (by ac_nf) rfl))) (fun _ _ _ _=>⟨_,i0,by walk_at "B"⟩) (fun _ _ _ _=>⟨_,(EE (Gc (U 1) T.gZ T.lc iV ao T.mh .nil cj (ai (U 0) aE)) JJ ao cj),by walk_at "B"⟩))) aE)))
   (aP (eo (gF ja DW Gj z5 (U 3) (ai (ij rfl (eS (U 2)) (g0 (sc:=bE xF) rfl (by ac_nf)) (N:=DA) (sel:=[none,some 0]) (gO (M:=Dn) (by ac_nf)) (fP.of (fun _ _ _ _=>(cu (i:=0) (eJ (N:=DA) (by ac_nf) rfl))) (fun _ _ _ _=>⟨_,i0,by walk_at "B"⟩) (fun _ _ _ _=>⟨_,(EE (Gc (U 1) T.gZ T.lc iV ao T.mh .nil cj (ai (U 0) aE)) Gy ao cj),by walk_at "B"⟩))) aE)))
   (aP (fp fj rfl (eS (gw (U 0) T.gZ T.sO m4 ao T.su .nil cj)) (RG (i:=4) LR.aH rfl (nX rfl)) (a6 (en (du F7 (U 4) (U 2) (by with_unfolding_all rfl)) (a6 (eo (gF ja DW Gj z5 (U 3) (ai (ij rfl (eS (U 2)) (g0 (sc:=bE xF) rfl (by ac_nf)) (N:=["other","crossing","one"]) (sel:=[none,some 0,some 4]) (gO (M:=Dn) (by ac_nf)) (fP.of (fun _ _ _ _=>(cu (i:=0) (eJ (N:=["other","crossing","one"]) (by ac_nf) rfl))) (fun _ _ _ _=>⟨_,(sI (qd (cH J5 ao T.IN T.B1.bJ T.SU (ai (U 1) (ai (U 2) (ai (U 0) aE)))))),by walk_at "B"⟩) (fun _ _ _ _=>⟨_,(cH ah1 ao T.amc T.ML.bJ T.wS (ai (U 1) (ai (U 2) (ai (U 0) aE)))),by walk_at "B"⟩))) aE)))) fe)))
   (a6 (cz (gi (Vf rfl) rfl T.J7 Ka (ai (U 3) aE)))))))),?_⟩
  exists (fun ax I=>aN H I/\aI I/\∃ dq,H dq=none/\I dq=some (.lst ([(0:Int)].map V.int))/\ax=[~~~c,~~~gB,~~~aT,~~~dq,none]),3
  .nofun;exact ⟨by decide,fun dq mX=>cC _ _ ⟨bf mX,bG.upd,dq,mX,db,rfl⟩⟩
  rintro gf H1 ⟨s1,b9,dq,mX,dJ,rfl⟩;subst aV;exists (fun ax I=>aN H I/\aI I/\I dq=some (.lst (([0] ++ f.map (sA ds)).map V.int))/\ax=[~~~c,~~~gB,~~~aT,~~~dq,none]),5
  .nofun;refine ⟨.inl ⟨_,aF.of dJ⟩,⟨_,aF.of (s1 _ _ hf)⟩,?_⟩;refine dg.mB (xs:=aX f) (zs:=(f.map (sA ds)).map V.int) (aF.of (s1 _ _ hf)) (by rw [fz];exact c7 nV (by decide)) (by rw [fz,aO,aO]) (fun j v z N aJ aW bu=>?_) (fun pl cG=>?_)
   .unfold aX at aJ;obtain ⟨x,ag,rfl⟩:=cm aJ;obtain ⟨y,aY,rfl⟩:=cm aW;obtain ⟨fH,d_,rfl⟩:=cm aY;rw [ag] at d_;cases d_;obtain ⟨d,hd,rfl⟩:=fin x (cQ ag);obtain ⟨i,ah⟩:=iG hd;have GH:sA ds d.name=mP d:=by unfold sA;rw [ul ff ah];rfl
    rw [GH] at bu;nofun;refine ⟨Sub.name,_,_,s1 _ _ aw,iR _ _ _ (by ac_nf),c,n,ds,i,d,rfl,C.same s1,ah,fun a W=>?_⟩;obtain ⟨g_,LG,pf⟩:=id W;exact ⟨a,rfl,_,_,_,pf,⟨_,g_,rfl⟩,yq (by ac_nf),a,d,rfl,W,rfl,bu⟩
   .refine ⟨pl,rfl,_,(bf cG) _ _ dJ,_,db,?_,cM _ _ ⟨(s1.trans (bf cG)).gW mX,(b9.upd).upd,by rw [db,fx],rfl⟩⟩;rw [aO,aO,aO];exact c7 (show _ <= 13 by show 1 + f.length <= 13;omega) (by decide)
  rintro cn av ⟨s2,ck,eh,rfl⟩;subst aV;exists (fun ax I=>aN H I/\aI I/\I dq=some (.lst (([0] ++ f.map (sA ds) ++ s.map (tY ds)).map V.int))/\ax=[~~~c,~~~gB,~~~aT,~~~dq,none]),5
  .nofun;refine ⟨.inl ⟨_,aF.of eh⟩,⟨_,aF.of (s2 _ _ aB)⟩,?_⟩;refine dg.mB (xs:=aX s) (zs:=(s.map (tY ds)).map V.int) (aF.of (s2 _ _ aB)) (by rw [fz];exact c7 jg (by decide)) (by rw [fz,aO,aO]) (fun j v z N aJ aW bu=>?_) (fun pl cG=>?_)
   .unfold aX at aJ;obtain ⟨x,ag,rfl⟩:=cm aJ;obtain ⟨y,aY,rfl⟩:=cm aW;obtain ⟨fH,d_,rfl⟩:=cm aY;rw [ag] at d_;cases d_;obtain ⟨d,hd,rfl⟩:=sin x (cQ ag);obtain ⟨i,ah⟩:=iG hd;have GH:tY ds d.name=mv d:=by unfold tY;rw [ul ff ah];rfl
    rw [GH] at bu;nofun;refine ⟨Sub.name,_,_,s2 _ _ aw,iR _ _ _ (by ac_nf),c,n,ds,i,d,rfl,C.same s2,ah,fun a W=>?_⟩;obtain ⟨g_,LG,pf⟩:=id W;exact ⟨a,rfl,_,_,_,pf,⟨_,g_,rfl⟩,yq (by ac_nf),a,d,rfl,W,rfl,bu⟩
   .refine ⟨pl,rfl,_,(bf cG) _ _ eh,_,db,?_,cM _ _ ⟨(s2.trans (bf cG)).gW mX,(ck.upd).upd,by rw [db,<- fx],rfl⟩⟩;rw [aO,aO,aO,dS,aO];exact c7 (show _ <= 25 by show 1 + f.length + s.length <= 25;omega) (by decide)
  rintro fT bk ⟨s3,dy,hL,rfl⟩;subst aV;exists (fun ax I=>aN H I/\aI I/\I dq=some (.lst ((lQ n ds f s).map V.int))/\∃ dw,ax=[~~~c,~~~gB,~~~aT,~~~dq,dw]),5
  .nofun;have v8:=C.same s3;refine ⟨_,_,s3 _ _ aw,iR _ _ _ (by ac_nf),c,n,ds,rfl,v8,fun da hc=>⟨da,rfl,⟨_,aF.of db⟩,?_⟩⟩;have sB:=s3.trans (bf (o:=.lst (aX (ds.map (·.name)))) hc);have jP:aI (upd bk da (.lst (aX (ds.map (·.name))))):=dy.upd;have mT:(upd bk da (.lst (aX (ds.map (·.name))))) da=some (.lst (aX (ds.map (·.name)))):=db;have Tz:=(bf (o:=.lst (aX (ds.map (·.name)))) hc) _ _ hL;have Y2:da ≠ dq:=fun z=>by rw [z,hL] at hc;cases hc
   generalize upd bk da (.lst (aX (ds.map (·.name))))=ik at sB jP mT Tz ⊢;refine dY.list (xs:=aX (ds.map (·.name))) (fun i σ I=>(∃ x,σ=[~~~c,~~~gB,~~~aT,~~~dq,x])/\aN H I/\aI I/\I da=some (.lst (aX (ds.map (·.name))))/\I dq=some (.lst (([(0:Int)] ++ f.map (sA ds) ++ s.map (tY ds) ++ ((ds.map fun d:bl=>d.name).take i).flatMap (ry n ds s)).map V.int))/\(((ds.map fun d:bl=>d.name).take i).flatMap (ry n ds s)).length <= 12 * i) ?_ ?_ ?_ ?_
   .exact ⟨⟨_,rfl⟩,sB,jP,mT,by rw [sM,aaM,vJ];exact Tz,by simp⟩
   .rintro i σ I ah bb;ac_rfl
    obtain ⟨_,_,_,e,_⟩:=bb;subst aV;exact aF.of e
   .rintro i v σ I aJ bb;ac_rfl
    obtain ⟨⟨dw,rfl⟩,bg,df,NV,gx,Eu⟩:=bb;subst aV;unfold aX at aJ;obtain ⟨nm,lG,rfl⟩:=cm aJ;have agU:=lG;obtain ⟨d,hd,rfl⟩:=cm agU;have aqe:i < 12:=by have:=(cb.mp hd).1;omega
    have m_:=ul ff hd;simp only [gj,jD,jn];refine eg (!decide (d.name ∈ s)) (fun Q a9=>?_) (fun aa=>?_) (fun aa=>?_)
    .nofun;refine ⟨_,.inl (aF.of (bg _ _ aB)),rfl,De s,?_⟩;rw [CG];exact a9
    .have aa:d.name ∉ s:=by simpa using aa
     have r5:ry n ds s d.name=(s.filter fun y=>oH n ds d.name y).map (ui ds d.name):=by unfold ry;rw [if_neg aa]
     nofun;refine ⟨.inl ⟨_,aF.of gx⟩,⟨_,aF.of (bg _ _ aB)⟩,?_⟩;refine dg.r_ (xs:=aX s) (ss:=s.map fun y=>if oH n ds d.name y=true then some (V.int (ui ds d.name y)) else none) (aF.of (bg _ _ aB)) (by rw [fz];exact c7 jg (by decide)) (by rw [fz,aO]) (fun l v o ys N aJ aS bu=>?_) (fun pl cG=>?_)
     .unfold aX at aJ;obtain ⟨e1,yQ,rfl⟩:=cm aJ;obtain ⟨fH,d_,rfl⟩:=cm aS;rw [yQ] at d_;cases d_;obtain ⟨e,he,rfl⟩:=sin e1 (cQ yQ);obtain ⟨j,aL⟩:=iG he;have yu:=ul ff aL;have By:oH n ds d.name e.name=mt n d e:=by unfold oH;rw [m_,yu]
      have ahE:ui ds d.name e.name=if d.off - e.near > 0 then d.off - e.near else 0:=by unfold ui;rw [m_,yu]
      rw [By,ahE] at bu;nofun;refine ⟨Sub.name,c,n,ds,i,j,d,e,rfl,C.same bg,a3,hd,aL,df,_,rfl,?_⟩;cases Al:mt n d e with
      | true=>
       rw [if_pos rfl];rw [Al,if_pos rfl] at bu;exact ⟨c,n,ds,i,j,d,e,rfl,C.same bg,hd,aL,bu⟩
      | false=>
       rw [if_neg (by decide)];rw [Al,if_neg (by decide)] at bu;simpa using bu
     .rw [TZ (fun y=>oH n ds d.name y) (ui ds d.name),<- r5];have o8:(ry n ds s d.name).length <= 12:=by rw [r5,aO];exact c7 (um ..) jg
      refine ⟨pl,rfl,_,(bf cG) _ _ gx,_,db,?_,⟨_,rfl⟩,(bg.trans (bf cG)).gW mX,(df.upd).upd,by rw [aA Y2];exact (bf cG) _ _ NV,?_,?_⟩
      .rw [aO,aO,dS,dS,dS,aO,aO];exact c7 (show _ <= 500 by show 1 + f.length + s.length + _ + _ <= 500;omega) (by decide)
      .rw [db,iH lG,Ec,<- fx];simp
      .rw [iH lG,Ec,dS,yg,aaM,vJ];omega
    .have aa:d.name ∈ s:=by simpa using aa
     have r5:ry n ds s d.name=[]:=by unfold ry;rw [if_pos aa]
     simp only [jf];refine ⟨⟨_,rfl⟩,bg,df,NV,?_,?_⟩
     .rw [iH lG,Ec,yg,r5];simpa using gx
     .rw [iH lG,Ec,dS,yg,r5];show _ + 0 <= _;omega
   .rintro σ I bb;ac_rfl
    obtain ⟨⟨dw,rfl⟩,bg,df,_,gx,_⟩:=bb;subst aV;rw [fz,hB] at gx;exact cM _ _ ⟨bg,df,gx,_,rfl⟩
  rintro kj b5 ⟨s4,df,gx,dw,rfl⟩;subst aV;nofun;obtain ⟨pV,af,ak⟩:=Il (lQ n ds f s) (by unfold lQ;simp);exact ⟨_,aF.of gx,pV,af,ak,q pV b5 s4 ⟨af,ak⟩⟩
 .obtain ⟨c,n,ds,gB,aT,f,s,rfl,C,a3,cC,hf,aB,fin,sin,nV,jg,bG,q⟩:=h;exact ⟨bG,c,n,ds,gB,aT,f,s,rfl,C,a3,cC,hf,aB,fin,sin,nV,jg,bG,fun v I bg aJ=>⟨bg,q v aJ⟩⟩
noncomputable abbrev qc:List Str:=[ab "crossing",ab "many",ab "leasts",ab "mosts",ab "members",ab "sorts",ab "homes",ab "changes"]
noncomputable def kX (c:Addr) (k:Nat) (le mo c8 cU aS ch:Addr):List (Str × V):=[(ab "crossing",V.ref c),(ab "many",V.int k),(ab "leasts",V.ref le),(ab "mosts",V.ref mo),(ab "members",V.ref c8),(ab "sorts",V.ref cU),(ab "homes",V.ref aS),(ab "changes",V.ref ch)]
theorem rz (c:Addr) (k:Nat) (le mo c8 cU aS ch:Addr):(kX c k le mo c8 cU aS ch).map (·.1)=qc:=rfl
noncomputable def dQ (ds:List bl) (r:ST):Str:=((r.mem.head?.bind (iL ds)).map iA).getD (ab "")
noncomputable def stK (i j:Nat):List Key:=[qH (i:Int),qH (j:Int)]
def kD (n:Int) (ds:List bl) (rows:List ST) (i j:Nat) (kvs:List (List Key × V)):Prop:=kvs.length <= 6 * i + j/\∀ (a b:Nat) (r s:ST),rows[a]? = some r->rows[b]? = some s->a ≠ b->a < i\/(a=i/\b < j)->∃ v,c1 kvs (stK a b)=some (.int v)/\tC (lQ n ds r.mem s.mem) v
section
variable (P:Program) (w:World)
def gV (t:bQ) (H:au) (a c:Addr) (n:Int) (ds:List bl) (rows:List ST):Prop:=∃ ar le mo c8 cU aS ch ms kvs,H a=some (.ins t.fD ar (kX c rows.length le mo c8 cU aS ch))/\fC t H c n ds/\H le=some (.lst (rows.map fun r=>V.int r.lo))/\H mo=some (.lst (rows.map fun r=>V.int r.ah))/\md H c8 ms (rows.map (·.mem))/\H cU=some (.lst (aX (rows.map (dQ ds))))/\H aS=some (.a5 (hg (rows.map (·.mem))))/\iZ P w H ch kvs/\kD n ds rows rows.length 0 kvs
def Tf (t:bQ):bX:=fun vs H Q _=>∃ a ar c n ds p qs ms rows,vs=[.ref a,.ref c,.ref p]/\H a=some (.ins t.fD ar [])/\fC t H c n ds/\0 < n/\w1 ds/\iM H p qs ms rows/\qk ds rows/\(∀ r ∈ rows,r.mem ≠ [])/\aI H /\
 ∀ I,cK a H I->aI I->gV P w t I a c n ds rows->Q .b' I
end
theorem aj6 (h:stK a b=stK i j):a=i/\b=j:=by
 unfold stK at h;simp at h;omega
theorem kD.nil (n:Int) (ds:List bl) (rows:List ST):kD n ds rows 0 0 []:=⟨e5 _,fun a b r s _ _ _ h=>by omega⟩
theorem kD.skip {rows:List ST} (h:kD n ds rows i i kvs):kD n ds rows i (i + 1) kvs:=⟨by have:=h.1;omega,fun a b r s ao aB p9 ay=>h.2 a b r s ao aB p9 (by omega)⟩
theorem kD.next {rows:List ST} (aK:rows.length <= 6) (h:kD n ds rows i rows.length kvs):kD n ds rows (i + 1) 0 kvs:=⟨by have:=h.1;omega,fun a b r s ao aB p9 ay=>h.2 a b r s ao aB p9 (by
 have:=(cb.mp aB).1
 omega)⟩
theorem amx (kvs:List (List Key × V)) (k:List Key) (v:V):(ci kvs k v).length <= kvs.length + 1:=by
 unfold ci;split
 .rw [aO];omega
 .rw [dS];exact bR _
theorem kD.put {rows:List ST} (h:kD n ds rows i j kvs) (ao:rows[i]? = some r) (aB:rows[j]? = some s) (aJ:tC (lQ n ds r.mem s.mem) v):kD n ds rows i (j + 1) (ci kvs (stK i j) (.int v)):=by
 refine ⟨by have:=h.1;have:=amx kvs (stK i j) (.int v);omega,fun a b dM aj d4 jw p9 ay=>?_⟩;rw [Ua];by_cases c:stK a b=stK i j
 .rw [if_pos c];obtain ⟨rfl,rfl⟩:=aj6 c;rw [ao] at d4;rw [aB] at jw;cases d4;cases jw;exact ⟨v,rfl,aJ⟩
 .rw [if_neg c];exact h.2 a b dM aj d4 jw p9 (by
   rcases ay with z | ⟨eV,es⟩
   .exact .inl z
   .by_cases z:b=j
    .exact absurd (by rw [eV,z]) c
    .exact .inr ⟨eV,by omega⟩)
theorem iM.vL {a p C ar:Addr} {rows:List ST} (h:iM H p qs ms rows) (s:cK a H I) (aZ:H a=some (.ins C ar [])):iM I p qs ms rows:=by
 refine ⟨s _ _ (br h.at_ aZ (by intro z;cases z)) h.at_,h.cA,h.cW,fun i q m r x y z=>?_⟩;obtain ⟨aw,aG⟩:=h.al i q m r x y z;exact ⟨s _ _ (br aw aZ (by intro z;cases z)) aw,s _ _ (br aG aZ (by intro z;cases z)) aG⟩
theorem Kx {H:au} {p b C D ar jY:Addr} {x:Str × V} {aR:List (Str × V)} (aq:H p=some (.ins C ar [])) (aa:H b=some (.ins D jY (x :: aR))):b ≠ p:=fun z=>by
 subst z;rw [aq] at aa;cases aa
theorem aiF {t:bQ} {H I:au} {p a C ar:Addr} {d:bl} (aq:H p=some (.ins C ar [])) (j3:cK p H I) (h:eT t H a d):eT t I a d:=by
 obtain ⟨af,jY,e⟩:=h;exact ⟨af,jY,j3 _ _ (Kx aq e) e⟩
theorem Jd {t:bQ} {H I:au} {p c C ar:Addr} {n:Int} {ds:List bl} (aq:H p=some (.ins C ar [])) (j3:cK p H I) (h:fC t H c n ds):fC t I c n ds:=by
 obtain ⟨h0,jY,wl,aH,aw,⟨as,dJ,eh,hL⟩,bS⟩:=h;exact ⟨h0,jY,wl,aH,j3 _ _ (Kx aq aw) aw,⟨as,j3 _ _ (br dJ aq (by intro z;cases z)) dJ,eh,fun i a d af ak=>aiF aq j3 (hL i a d af ak)⟩,j3 _ _ (br bS aq (by intro z;cases z)) bS⟩
theorem md.upd {b p:Addr} (h:md H p ms dp) (aa:H b=some u) (bt:∀ xs,u ≠ .lst xs):md (upd H b o) p ms dp:=by
 refine ⟨by rw [aA (br h.at_ aa (fun z=>bt _ z.symm))];exact h.at_,h.ln,fun i m x a c=>?_⟩;have e:=h.al i m x a c;rw [aA (br e aa (fun z=>bt _ z.symm))];exact e
section
variable {w:World} {K:ba} {mg:Str->Option Value} {t:bQ} {H:au} {a c ar le mo c8 cU aS ch:Addr} {k:Nat}
theorem E2 (T:Txt w K mg t) (e:H a=some (.ins t.fD ar (kX c k le mo c8 cU aS ch))):fa K H a (ab "many") (.int k):=⟨_,ar,_,e,T.jK,T.OY,ac qc 1 (rz ..) (by ac_nf) rfl⟩
theorem FV (T:Txt w K mg t) (e:H a=some (.ins t.fD ar (kX c k le mo c8 cU aS ch))):fa K H a (ab "members") (.ref c8):=⟨_,ar,_,e,T.jK,T.KQ,ac qc 4 (rz ..) (by ac_nf) rfl⟩
theorem Oc (T:Txt w K mg t) (e:H a=some (.ins t.fD ar (kX c k le mo c8 cU aS ch))):fa K H a (ab "changes") (.ref ch):=⟨_,ar,_,e,T.jK,T.Uq,ac qc 7 (rz ..) (by ac_nf) rfl⟩
end
theorem aiR:cv P base T 5 t.y2 t.C6 DG (Tf P w t):=by
 refine cB (Vk T) fun CS=>cB (L9 T) fun ym=>cB (ajQ T) fun adJ=>?_;exists T.Xb.ok GK,9
 obtain ⟨a,ar,c,n,ds,p,qs,ms,rows,rfl,aZ,C,a3,cC,R,J,cx,bG,q⟩:=h;have bt:=gT ao;have ff:=C.1.1;have ji:(qs.map V.ref).length=rows.length:=by rw [aO,R.cA]
 have nq:(qs.map V.ref).length <= sizeLine:=by rw [ji];exact c7 J.ln (by decide)
 refine ⟨_,(aP (eF (U 0) (U 1) rfl)
   (aP (eF (U 0) (gi i9 rfl T.iI iT (ai (U 2) aE)) rfl)
   (aP (eF (U 0) (ij rfl (eS (U 2)) (g0 (sc:=bE wa) rfl (by ac_nf)) (N:=iQ) (sel:=[none,none,none]) (gO (M:=xV) (by ac_nf)) (fP.of (fun _ _ _ _=>(la (K:=K) (n:=3) rfl rfl (fc (cu (i:=0) (eJ (N:=iQ) (by ac_nf) rfl)) (fc (cu (i:=1) (eJ (N:=iQ) (by ac_nf) rfl)) (fc (cu (i:=2) (eJ (N:=iQ) (by ac_nf) rfl)) k8))))) (fun _ _ _ _=>⟨_,i0,by walk_at "B"⟩) (fun _ _ _ _=>⟨_,(U 0),by walk_at "B"⟩))) rfl)
   (aP (eF (U 0) (ij rfl (eS (U 2)) (g0 (sc:=bE wa) rfl (by ac_nf)) (N:=iQ) (sel:=[none,none,none]) (gO (M:=xV) (by ac_nf)) (fP.of (fun _ _ _ _=>(la (K:=K) (n:=3) rfl rfl (fc (cu (i:=0) (eJ (N:=iQ) (by ac_nf) rfl)) (fc (cu (i:=1) (eJ (N:=iQ) (by ac_nf) rfl)) (fc (cu (i:=2) (eJ (N:=iQ) (by ac_nf) rfl)) k8))))) (fun _ _ _ _=>⟨_,i0,by walk_at "B"⟩) (fun _ _ _ _=>⟨_,(U 1),by walk_at "B"⟩))) rfl)
   (aP (eF (U 0) (ij rfl (eS (U 2)) (g0 (sc:=bE wa) rfl (by ac_nf)) (N:=iQ) (sel:=[none,none,none]) (gO (M:=xV) (by ac_nf)) (fP.of (fun _ _ _ _=>(la (K:=K) (n:=3) rfl rfl (fc (cu (i:=0) (eJ (N:=iQ) (by ac_nf) rfl)) (fc (cu (i:=1) (eJ (N:=iQ) (by ac_nf) rfl)) (fc (cu (i:=2) (eJ (N:=iQ) (by ac_nf) rfl)) k8))))) (fun _ _ _ _=>⟨_,i0,by walk_at "B"⟩) (fun _ _ _ _=>⟨_,(U 2),by walk_at "B"⟩))) rfl)
   (aP (eF (U 0) (ij rfl (eS (U 2)) (g0 (sc:=bE wa) rfl (by ac_nf)) (N:=AP) (sel:=[none,none,none,some 1]) (gO (M:=xV) (by ac_nf)) (fP.of (fun _ _ _ _=>(la (K:=K) (n:=3) rfl rfl (fc (cu (i:=0) (eJ (N:=AP) (by ac_nf) rfl)) (fc (cu (i:=1) (eJ (N:=AP) (by ac_nf) rfl)) (fc (cu (i:=2) (eJ (N:=AP) (by ac_nf) rfl)) k8))))) (fun _ _ _ _=>⟨_,i0,by walk_at "B"⟩) (fun _ _ _ _=>⟨_,(cH CS ao T.Hs T.wU.bJ T.Hx (ai (U 3) (ai (cE ed (U 2) aM) aE))),by walk_at "B"⟩))) rfl)
   (aP (eF (U 0) (cH ym ao T.Ft T.xv.bJ T.EM (ai (bx (U 0) rfl) aE)) rfl)
   (aP (eF (U 0) abp rfl)
   (a6 (fp fj rfl (pe rfl T.o' (ai (bx (U 0) rfl) aE)) (cu (i:=3) GK.aH) (a6 (fp fj rfl (pe rfl T.o' (ai (bx (U 0) rfl) aE)) (cu (i:=4) GK.aH) (a6 (en (du sR (U 3) (U 4) (cR _)) (a6 (age bt (bx (U 0) rfl) (pQ (ai (U 3) (ai (U 4) aE))) (cH adJ ao T.aan T.FH.bJ T.Z8 (ai (U 1) (ai (cE ed (bx (U 0) rfl) (U 3)) (ai (cE ed (bx (U 0) rfl) (U 4)) aE)))) rfl)) fe)))))))))))))),?_⟩
 exists (fun ax I=>cK a H I/\aI I/\I a=some (.ins t.fD ar [(ab "crossing",V.ref c)])/\ax=[~~~a,~~~c,~~~p,none,none]),5
 .nofun;exact ⟨_,_,_,aZ,T.jK,T.OF,by decide,cM _ _ ⟨fun b u aa e=>by rw [aA aa];exact e,bG.upd,db,rfl⟩⟩
 rintro gf H1 ⟨cp,b9,a1,rfl⟩;have j4:=R.vL cp aZ;subst aV;exists (fun ax I=>cK a H I/\aI I/\I a=some (.ins t.fD ar [(ab "crossing",V.ref c),(ab "many",V.int (rows.length:Int))])/\ax=[~~~a,~~~c,~~~p,none,none]),5
 .nofun;refine ⟨_,.inl (aF.of j4.at_),_,_,_,a1,T.jK,T.OY,(show (1:Nat) < 1000 by decide),?_⟩;rw [ji,show cT (ab "many") (V.int (rows.length:Int)) [(ab "crossing",V.ref c)]=[(ab "crossing",V.ref c),(ab "many",V.int (rows.length:Int))] from fw [ab "crossing"] rfl (by ac_nf)];exact cM _ _ ⟨fun b u aa e=>by rw [aA aa];exact cp _ _ aa e,b9.upd,db,rfl⟩
 rintro cn av ⟨e1,ck,a2,rfl⟩;have e':=R.vL e1 aZ;subst aV;exists (fun ax I=>cK a H I/\aI I/\∃ le,I a=some (.ins t.fD ar [(ab "crossing",V.ref c),(ab "many",V.int (rows.length:Int)),(ab "leasts",V.ref le)])/\I le=some (.lst (rows.map fun r=>V.int r.lo))/\ax=[~~~a,~~~c,~~~p,none,none]),5
 .nofun;refine ⟨⟨_,aF.of e'.at_⟩,?_⟩;refine dg.mB (xs:=qs.map V.ref) (zs:=rows.map fun r=>V.int r.lo) (aF.of e'.at_) nq (by rw [ji,aO]) (fun j v z N aJ aW bu=>?_) (fun pl cG=>?_)
  .obtain ⟨kc,eY,rfl⟩:=cm aJ;have aL:j < rows.length:=by rw [<- R.cA];exact (cb.mp eY).1
   have kl:ms[j]? = some (ms[j]'(by rw [R.cW];exact aL)):=bo _;have hS:rows[j]? = some rows[j]:=bo aL;obtain ⟨e,em⟩:=e'.al j kc _ _ eY kl hS;obtain ⟨r,d4,rfl⟩:=cm aW;rw [hS] at d4;cases d4;nofun;exact ⟨_,de.of e,rfl,_,_,rfl,_,_,rfl,_,_,rfl,rfl,Sub.vP,bu⟩
  .have pH:pl ≠ a:=fun z=>by rw [z,a2] at cG;cases cG
   refine ⟨_,_,_,(bf cG) _ _ a2,T.jK,T.OH,(show (2:Nat) < 1000 by decide),?_⟩;rw [show cT (ab "leasts") (V.ref pl) [(ab "crossing",V.ref c),(ab "many",V.int (rows.length:Int))]=[(ab "crossing",V.ref c),(ab "many",V.int (rows.length:Int)),(ab "leasts",V.ref pl)] from fw [ab "crossing",ab "many"] rfl (by ac_nf)];exact cM _ _ ⟨fun b u aa e=>by rw [aA aa];exact (bf cG) _ _ (e1 _ _ aa e),(ck.upd).upd,pl,db,by rw [aA pH];exact db,rfl⟩
 rintro fT bk ⟨fh,dy,le,fM,eM,rfl⟩;have hle:le ≠ a:=br eM fM (by intro z;cases z);have mu:=R.vL fh aZ;subst aV;exists (fun ax I=>cK a H I/\aI I/\∃ mo,I a=some (.ins t.fD ar [(ab "crossing",V.ref c),(ab "many",V.int (rows.length:Int)),(ab "leasts",V.ref le),(ab "mosts",V.ref mo)])/\I le=some (.lst (rows.map fun r=>V.int r.lo))/\I mo=some (.lst (rows.map fun r=>V.int r.ah))/\ax=[~~~a,~~~c,~~~p,none,none]),5
 .nofun;refine ⟨⟨_,aF.of mu.at_⟩,?_⟩;refine dg.mB (xs:=qs.map V.ref) (zs:=rows.map fun r=>V.int r.ah) (aF.of mu.at_) nq (by rw [ji,aO]) (fun j v z N aJ aW bu=>?_) (fun pl cG=>?_)
  .obtain ⟨kc,eY,rfl⟩:=cm aJ;have aL:j < rows.length:=by rw [<- R.cA];exact (cb.mp eY).1
   have kl:ms[j]? = some (ms[j]'(by rw [R.cW];exact aL)):=bo _;have hS:rows[j]? = some rows[j]:=bo aL;obtain ⟨e,em⟩:=mu.al j kc _ _ eY kl hS;obtain ⟨r,d4,rfl⟩:=cm aW;rw [hS] at d4;cases d4;nofun;exact ⟨_,de.of e,rfl,_,_,rfl,_,_,rfl,_,_,rfl,rfl,Sub.vP,bu⟩
  .have pH:pl ≠ a:=fun z=>by rw [z,fM] at cG;cases cG
   refine ⟨_,_,_,(bf cG) _ _ fM,T.jK,T.zn,(show (3:Nat) < 1000 by decide),?_⟩;rw [show cT (ab "mosts") (V.ref pl) [(ab "crossing",V.ref c),(ab "many",V.int (rows.length:Int)),(ab "leasts",V.ref le)]=[(ab "crossing",V.ref c),(ab "many",V.int (rows.length:Int)),(ab "leasts",V.ref le),(ab "mosts",V.ref pl)] from fw [ab "crossing",ab "many",ab "leasts"] rfl (by ac_nf)];exact cM _ _ ⟨fun b u aa e=>by rw [aA aa];exact (bf cG) _ _ (fh _ _ aa e),(dy.upd).upd,pl,db,by rw [aA hle];exact (bf cG) _ _ eM,by rw [aA pH];exact db,rfl⟩
 rintro kj b5 ⟨dw,df,mo,lP,f4,ux,rfl⟩;have rD:mo ≠ a:=br ux lP (by intro z;cases z);have mV:=R.vL dw aZ;subst aV;exists (fun ax I=>cK a H I/\aI I/\∃ c8,I a=some (.ins t.fD ar [(ab "crossing",V.ref c),(ab "many",V.int (rows.length:Int)),(ab "leasts",V.ref le),(ab "mosts",V.ref mo),(ab "members",V.ref c8)])/\I le=some (.lst (rows.map fun r=>V.int r.lo))/\I mo=some (.lst (rows.map fun r=>V.int r.ah))/\I c8=some (.lst (ms.map V.ref))/\ax=[~~~a,~~~c,~~~p,none,none]),5
 .nofun;refine ⟨⟨_,aF.of mV.at_⟩,?_⟩;refine dg.mB (xs:=qs.map V.ref) (zs:=ms.map V.ref) (aF.of mV.at_) nq (by rw [ji,aO,R.cW]) (fun j v z N aJ aW bu=>?_) (fun pl cG=>?_)
  .obtain ⟨kc,eY,rfl⟩:=cm aJ;have aL:j < rows.length:=by rw [<- R.cA];exact (cb.mp eY).1
   have kl:ms[j]? = some (ms[j]'(by rw [R.cW];exact aL)):=bo _;have hS:rows[j]? = some rows[j]:=bo aL;obtain ⟨e,em⟩:=mV.al j kc _ _ eY kl hS;obtain ⟨c6,sY,rfl⟩:=cm aW;rw [kl] at sY;cases sY;nofun;exact ⟨_,de.of e,rfl,_,_,rfl,_,_,rfl,_,_,rfl,rfl,Sub.vP,bu⟩
  .have pH:pl ≠ a:=fun z=>by rw [z,lP] at cG;cases cG
   refine ⟨_,_,_,(bf cG) _ _ lP,T.jK,T.KQ,(show (4:Nat) < 1000 by decide),?_⟩;rw [show cT (ab "members") (V.ref pl) [(ab "crossing",V.ref c),(ab "many",V.int (rows.length:Int)),(ab "leasts",V.ref le),(ab "mosts",V.ref mo)]=[(ab "crossing",V.ref c),(ab "many",V.int (rows.length:Int)),(ab "leasts",V.ref le),(ab "mosts",V.ref mo),(ab "members",V.ref pl)] from fw [ab "crossing",ab "many",ab "leasts",ab "mosts"] rfl (by ac_nf)];exact cM _ _ ⟨fun b u aa e=>by rw [aA aa];exact (bf cG) _ _ (dw _ _ aa e),(df.upd).upd,pl,db,by rw [aA hle];exact (bf cG) _ _ f4,by rw [aA rD];exact (bf cG) _ _ ux,by rw [aA pH];exact db,rfl⟩
 rintro n4 cP ⟨ey,e6,c8,oA,e7,Ef,e3,rfl⟩;have qW:c8 ≠ a:=br e3 oA (by intro z;cases z);have va:=Jd aZ ey C;have qY:=R.vL ey aZ;subst aV;exists (fun ax I=>cK a H I/\aI I/\∃ cU,I a=some (.ins t.fD ar [(ab "crossing",V.ref c),(ab "many",V.int (rows.length:Int)),(ab "leasts",V.ref le),(ab "mosts",V.ref mo),(ab "members",V.ref c8),(ab "sorts",V.ref cU)])/\I le=some (.lst (rows.map fun r=>V.int r.lo))/\I mo=some (.lst (rows.map fun r=>V.int r.ah))/\I c8=some (.lst (ms.map V.ref))/\I cU=some (.lst (aX (rows.map (dQ ds))))/\ax=[~~~a,~~~c,~~~p,none,none]),5
 .nofun;refine ⟨⟨_,aF.of qY.at_⟩,?_⟩;refine dg.mB (xs:=qs.map V.ref) (zs:=aX (rows.map (dQ ds))) (aF.of qY.at_) nq (by rw [ji,fz,aO]) (fun j v z N aJ aW bu=>?_) (fun pl cG=>?_)
  .obtain ⟨kc,eY,rfl⟩:=cm aJ;have aL:j < rows.length:=by rw [<- R.cA];exact (cb.mp eY).1
   have kl:ms[j]? = some (ms[j]'(by rw [R.cW];exact aL)):=bo _;have hS:rows[j]? = some rows[j]:=bo aL;obtain ⟨e,em⟩:=qY.al j kc _ _ eY kl hS;unfold aX at aW;obtain ⟨y,aY,rfl⟩:=cm aW;obtain ⟨r,d4,rfl⟩:=cm aY;rw [hS] at d4;cases d4;obtain ⟨nm,aqu,k'⟩:=v3 (cx _ (cQ hS));obtain ⟨d,hd,RZ⟩:=J.yv _ (cQ hS) nm (by rw [k'];exact m9 ..);obtain ⟨i,ah⟩:=iG hd;have qb:dQ ds rows[j]=iA d:=by
    unfold dQ;rw [k'];show ((iL ds nm).map iA).getD _=_;rw [<- RZ,ul ff ah];rfl
   rw [qb] at bu;rw [k'] at em;nofun;exact ⟨_,de.of e,rfl,_,_,rfl,_,_,rfl,_,_,rfl,rfl,Sub.vP,_,rfl,_,aF.of em,_,cy (j:=0) rfl,c,n,ds,i,d,by rw [RZ],va,ah,(cC d hd).2.1,bu⟩
  .have pH:pl ≠ a:=fun z=>by rw [z,oA] at cG;cases cG
   refine ⟨_,_,_,(bf cG) _ _ oA,T.jK,T.Qz,(show (5:Nat) < 1000 by decide),?_⟩;rw [show cT (ab "sorts") (V.ref pl) [(ab "crossing",V.ref c),(ab "many",V.int (rows.length:Int)),(ab "leasts",V.ref le),(ab "mosts",V.ref mo),(ab "members",V.ref c8)]=[(ab "crossing",V.ref c),(ab "many",V.int (rows.length:Int)),(ab "leasts",V.ref le),(ab "mosts",V.ref mo),(ab "members",V.ref c8),(ab "sorts",V.ref pl)] from fw [ab "crossing",ab "many",ab "leasts",ab "mosts",ab "members"] rfl (by ac_nf)];exact cM _ _ ⟨fun b u aa e=>by rw [aA aa];exact (bf cG) _ _ (ey _ _ aa e),(e6.upd).upd,pl,db,by rw [aA hle];exact (bf cG) _ _ e7,by rw [aA rD];exact (bf cG) _ _ Ef,by rw [aA qW];exact (bf cG) _ _ e3,by rw [aA pH];exact db,rfl⟩
 rintro mS fS ⟨dB,fN,cU,k2,nR,Nk,iO,oy,rfl⟩;have lh:cU ≠ a:=br oy k2 (by intro z;cases z);have CU:=R.vL dB aZ;have Te:md fS c8 ms (rows.map (·.mem)):=⟨iO,by rw [R.cW,aO],fun i m x hm ag=>by
  obtain ⟨r,d4,rfl⟩:=cm ag;have ha:qs[i]? = some (qs[i]'(by rw [R.cA];exact (cb.mp d4).1)):=bo _;exact (CU.al i _ m r ha hm d4).2⟩
 subst aV;exists (fun ax I=>cK a H I/\aI I/\∃ aS,I a=some (.ins t.fD ar [(ab "crossing",V.ref c),(ab "many",V.int (rows.length:Int)),(ab "leasts",V.ref le),(ab "mosts",V.ref mo),(ab "members",V.ref c8),(ab "sorts",V.ref cU),(ab "homes",V.ref aS)])/\I le=some (.lst (rows.map fun r=>V.int r.lo))/\I mo=some (.lst (rows.map fun r=>V.int r.ah))/\md I c8 ms (rows.map (·.mem))/\I cU=some (.lst (aX (rows.map (dQ ds))))/\I aS=some (.a5 (hg (rows.map (·.mem))))/\ax=[~~~a,~~~c,~~~p,none,none]),5
 .nofun;refine ⟨_,⟨_,ar,_,k2,T.jK,T.KQ,ac [ab "crossing",ab "many",ab "leasts",ab "mosts",ab "members",ab "sorts"] 4 rfl (by ac_nf) rfl⟩,c8,ms,rows.map (·.mem),rfl,Te,by rw [aO];exact J.ln,fun x ag=>?_,fun h H1 s1 anl gg af=>?_⟩
  .obtain ⟨r,d4,rfl⟩:=cw.mp ag;exact J.gy r d4
  .have Kc:h ≠ a:=br af (s1 _ _ k2) (by intro z;cases z);refine ⟨_,_,_,s1 _ _ k2,T.jK,T.SI,(show (6:Nat) < 1000 by decide),?_⟩;rw [show cT (ab "homes") (V.ref h) [(ab "crossing",V.ref c),(ab "many",V.int (rows.length:Int)),(ab "leasts",V.ref le),(ab "mosts",V.ref mo),(ab "members",V.ref c8),(ab "sorts",V.ref cU)]=[(ab "crossing",V.ref c),(ab "many",V.int (rows.length:Int)),(ab "leasts",V.ref le),(ab "mosts",V.ref mo),(ab "members",V.ref c8),(ab "sorts",V.ref cU),(ab "homes",V.ref h)] from fw [ab "crossing",ab "many",ab "leasts",ab "mosts",ab "members",ab "sorts"] rfl (by ac_nf)];exact cM _ _ ⟨fun b u aa e=>by rw [aA aa];exact s1 _ _ (dB _ _ aa e),(anl fN).upd,h,db,by rw [aA hle];exact s1 _ _ nR,by rw [aA rD];exact s1 _ _ Nk,(Te.same s1).upd (s1 _ _ k2) (by intro xs z;cases z),by rw [aA lh];exact s1 _ _ oy,by rw [aA Kc];exact af,rfl⟩
 rintro kg gE ⟨d5,jE,aS,mz,lY,K7,z1,S1,IC,rfl⟩;subst aV;exists (fun ax I=>cK a H I/\aI I/\∃ ch,H ch=none/\I a=some (.ins t.fD ar (kX c rows.length le mo c8 cU aS ch))/\I le=some (.lst (rows.map fun r=>V.int r.lo))/\I mo=some (.lst (rows.map fun r=>V.int r.ah))/\md I c8 ms (rows.map (·.mem))/\I cU=some (.lst (aX (rows.map (dQ ds))))/\I aS=some (.a5 (hg (rows.map (·.mem))))/\iZ P w I ch []/\(ch ≠ a/\ch ≠ le/\ch ≠ mo/\ch ≠ c8/\ch ≠ cU/\ch ≠ aS/\ch ∉ ms)/\ax=[~~~a,~~~c,~~~p,none,none]),5
 .nofun;intro ch o hO al4;have je:ch ≠ a:=fun z=>by rw [z,mz] at hO;cases hO
  have acN:H ch=none:=by
   cases e:H ch with
   | none=>rfl
   | some u=>rw [d5 _ _ je e] at hO;cases hO
  have vY:∀ {b:Addr} {u:dU},gE b=some u->ch ≠ b:=fun e z=>by rw [<- z,hO] at e;cases e
  have ad2:ch ∉ ms:=fun z=>by
   obtain ⟨i,ah⟩:=iG z;have g4:i < (rows.map (·.mem)).length:=by rw [<- z1.ln];exact (cb.mp ah).1
   exact vY (z1.al i ch _ ah (bo g4)) rfl
  have fV:aN gE (upd gE ch (.ext (oU ch o))):=bf hO;refine ⟨_,_,_,fV _ _ mz,T.jK,T.Uq,(show (7:Nat) < 1000 by decide),?_⟩;rw [show cT (ab "changes") (V.ref ch) [(ab "crossing",V.ref c),(ab "many",V.int (rows.length:Int)),(ab "leasts",V.ref le),(ab "mosts",V.ref mo),(ab "members",V.ref c8),(ab "sorts",V.ref cU),(ab "homes",V.ref aS)]=kX c rows.length le mo c8 cU aS ch from fw [ab "crossing",ab "many",ab "leasts",ab "mosts",ab "members",ab "sorts",ab "homes"] rfl (by ac_nf)];have Kc:aS ≠ a:=br IC mz (by intro z;cases z);exact cM _ _ ⟨fun b u aa e=>by rw [aA aa];exact fV _ _ (d5 _ _ aa e),(jE.upd).upd,ch,acN,db,by rw [aA hle];exact fV _ _ lY,by rw [aA rD];exact fV _ _ K7,(z1.same fV).upd (fV _ _ mz) (by intro xs z;cases z),by rw [aA lh];exact fV _ _ S1,by rw [aA Kc];exact fV _ _ IC,aiQ al4 (cX je) (fun xs z=>by rw [fV _ _ mz] at z;cases z),⟨je,vY lY,vY K7,vY z1.at_,vY S1,vY IC,ad2⟩,rfl⟩
 rintro sF hz ⟨dA,qq,ch,hO,vU,f8,Yv,aa2,aiI,AY,anm,tZ,rfl⟩;subst aV;nofun;have hk:=J.ln;refine ⟨_,E2 T vU,_,rfl,by omega,by omega,?_⟩;rw [rq];refine dY.range (fun i σ I=>(∃ x y,σ=[~~~a,~~~c,~~~p,x,y])/\cK a H I/\aI I/\I a=some (.ins t.fD ar (kX c rows.length le mo c8 cU aS ch))/\I le=some (.lst (rows.map fun r=>V.int r.lo))/\I mo=some (.lst (rows.map fun r=>V.int r.ah))/\md I c8 ms (rows.map (·.mem))/\I cU=some (.lst (aX (rows.map (dQ ds))))/\I aS=some (.a5 (hg (rows.map (·.mem))))/\∃ kvs,iZ P w I ch kvs/\kD n ds rows i 0 kvs) ⟨⟨_,_,rfl⟩,dA,qq,vU,f8,Yv,aa2,aiI,AY,[],anm,kD.nil n ds rows⟩ ?_ ?_
 .rintro i σ I ah bb;ac_rfl
  obtain ⟨⟨x,y,rfl⟩,nK,Jq,BX,E_,HQ,yr,Lb,Ip,kvs,EV,Fd⟩:=bb;have jz:rows[i]? = some rows[i]:=bo ah;have rf:ms[i]? = some (ms[i]'(by rw [R.cW];exact ah)):=bo _;subst aV;nofun;refine ⟨_,E2 T BX,_,rfl,by omega,by omega,?_⟩;rw [rq];refine dY.range (fun j σ av=>(∃ y,σ=[~~~a,~~~c,~~~p,some (.int (i:Int)),y])/\cK a H av/\aI av/\av a=some (.ins t.fD ar (kX c rows.length le mo c8 cU aS ch))/\av le=some (.lst (rows.map fun r=>V.int r.lo))/\av mo=some (.lst (rows.map fun r=>V.int r.ah))/\md av c8 ms (rows.map (·.mem))/\av cU=some (.lst (aX (rows.map (dQ ds))))/\av aS=some (.a5 (hg (rows.map (·.mem))))/\∃ kvs,iZ P w av ch kvs/\kD n ds rows i j kvs) ⟨⟨_,rfl⟩,nK,Jq,BX,E_,HQ,yr,Lb,Ip,kvs,EV,Fd⟩ ?_ ?_
  .rintro j σ av aL bb;ac_rfl
   obtain ⟨⟨y,rfl⟩,iS,w6,tT,vB,Eb,oK,zI,BW,kvs,C',xX⟩:=bb;have hS:rows[j]? = some rows[j]:=bo aL;have kl:ms[j]? = some (ms[j]'(by rw [R.cW];exact aL)):=bo _;have aaB:=oK.al i _ _ rf (by rw [dO,jz];rfl);have abP:=oK.al j _ _ kl (by rw [dO,hS];rfl);have ta:=cy (xs:=ms.map V.ref) (j:=i) (by rw [dO,rf];rfl);have J6:=cy (xs:=ms.map V.ref) (j:=j) (by rw [dO,kl];rfl);subst aV;simp only [gj,jD,jn,rJ];by_cases oQ:i=j
   .refine eg false (fun Q a9=>?_) (fun z=>nomatch z) (fun _=>?_)
    .nofun;rw [decide_eq_true (by omega)];exact a9
    .simp only [jf];subst oQ;exact ⟨⟨_,rfl⟩,iS,w6,tT,vB,Eb,oK,zI,BW,kvs,C',xX.skip⟩
   .refine eg true (fun Q a9=>?_) (fun _=>?_) (fun z=>nomatch z)
    .nofun;rw [decide_eq_false (by omega)];exact a9
    .nofun;obtain ⟨je,aiW,ala,abr,abf,ac8,ag3⟩:=tZ;refine ⟨_,FV T tT,_,rfl,_,aF.of oK.at_,_,ta,_,FV T tT,_,rfl,_,aF.of oK.at_,_,J6,c,n,ds,_,_,_,_,rfl,Jd aZ iS C,a3,cC,aaB,abP,J.yv _ (cQ jz),J.yv _ (cQ hS),J.gy _ (cQ jz),J.gy _ (cQ hS),w6,fun v aJ=>?_⟩;refine ⟨_,Oc T tT,by decide,fun jB px=>⟨ch,rfl,kvs,Io C' (bf px),stK i j,(show upd av jB (.tup [V.int (i:Int),V.int (j:Int)]) jB=some (dU.tup [V.int (i:Int),V.int (j:Int)]) from db),f5 (show kvs.length <= 100 by have:=xX.1;omega) (by decide),fun o EO=>?_⟩⟩;have rV:aN av (upd av jB (.tup [V.int (i:Int),V.int (j:Int)])):=bf px;refine ⟨⟨_,rfl⟩,fun b u aa e=>by rw [aA (dj e hO)];exact rV _ _ (iS _ _ aa e),(w6.upd).upd,by rw [aA (cX je)];exact rV _ _ tT,by rw [aA (cX aiW)];exact rV _ _ vB,by rw [aA (cX ala)];exact rV _ _ Eb,⟨by rw [aA (cX abr)];exact rV _ _ oK.at_,oK.ln,fun k m x hm ag=>by rw [aA (fun z=>ag3 (by rw [<- z];exact cQ hm))];exact rV _ _ (oK.al k m x hm ag)⟩,by rw [aA (cX abf)];exact rV _ _ zI,by rw [aA (cX ac8)];exact rV _ _ BW,_,EO,xX.put jz hS aJ⟩
  .rintro σ av bb;ac_rfl
   obtain ⟨⟨y,rfl⟩,iS,w6,tT,vB,Eb,oK,zI,BW,kvs,C',xX⟩:=bb;subst aV;exact ⟨⟨_,_,rfl⟩,iS,w6,tT,vB,Eb,oK,zI,BW,kvs,C',xX.next hk⟩
 .rintro σ I bb;ac_rfl
  obtain ⟨⟨x,y,rfl⟩,nK,Jq,BX,E_,HQ,yr,Lb,Ip,kvs,EV,Fd⟩:=bb;subst aV;exact q _ nK Jq ⟨ar,le,mo,c8,cU,aS,ch,ms,kvs,BX,Jd aZ nK C,E_,HQ,yr,Lb,Ip,EV,Fd⟩
noncomputable def tm (ds:List bl):List (List Str)->Nat->List ST->Except (Nat × Nat) (List ST)
 | [],_,rows=>.ok rows
 | ws :: r,i,rows=>if rows.length=6 then .error (i,0) else match qr ds rows ws with
  | .error k=>.error (i,k)
  | .ok s=>tm ds r (i + 1) (rows ++ [s])
def Xv (P:Program) (w:World) (t:bQ):bX:=fun vs H Q _=>∃ c n ds x rows,vs=[.ref c,.str x]/\fC t H c n ds/\0 < n/\w1 ds/\(∀ d ∈ ds,d.name ≠ ab "")/\x.length <= 20000/\(hu x).length <= 100/\(∀ r ∈ hu x,r ≠ []/\r.length <= 1000/\∀ y ∈ r,y.length <= 1000)/\aI H /\
 tm ds (hu x) 0 []=.ok rows/\bi ds rows=[]/\vg ds rows=none/\ve n ds rows=none/\∀ a I,aN H I->aI I->gV P w t I a c n ds rows->Q (.ref a) I
theorem alq {left ws ms:List Str} (h:l0 ds left ws=.ok ms):ms ≠ []/\ms.Nodup/\∀ x ∈ ms,x ∈ left:=by
 unfold l0 at h;split at h
 .rename_i ic;obtain ⟨af,⟨more,ak⟩,bc⟩:=SF h (by simp);refine ⟨by rw [ak];simp,af,fun x ag=>?_⟩;rcases bc x ag with z | z
  .rw [fG.mp z];exact ic
  .exact (lE.mp z).1
 .cases h
theorem AC {rows:List ST} (h:qr ds rows ws=.ok s):s.mem ≠ []/\s.mem.Nodup/\∀ x ∈ s.mem,x ∈ bi ds rows:=by
 unfold qr at h;split at h
 .cases aw:kz (az ws 1) 1 60 with
  | none=>rw [aw] at h;cases h
  | some lo=>
   rw [aw] at h;replace h:((kz (az ws 2) lo 60).elim (.error 2) fun ah=>match l0 ds (bi ds rows) ws with | .error k=>.error k | .ok ms=>.ok (⟨lo,ah,ms⟩:ST))=rB s:=h;cases aG:kz (az ws 2) lo 60 with
   | none=>rw [aG] at h;cases h
   | some ah=>
    rw [aG] at h;replace h:(match l0 ds (bi ds rows) ws with | .error k=>.error k | .ok ms=>.ok (⟨lo,ah,ms⟩:ST))=rB s:=h;cases bS:l0 ds (bi ds rows) ws with
    | error k=>rw [bS] at h;cases h
    | ok ms=>
     rw [bS] at h;replace h:rB (⟨lo,ah,ms⟩:ST)=rB (ε:=Nat) s:=h;cases h;exact alq bS
 .cases h
theorem qk.snoc {rows:List ST} (J:qk ds rows) (aK:ds.length <= 12) (iO:rows.length ≠ 6) (h:qr ds rows ws=.ok s):qk ds (rows ++ [s])/\s.mem.length <= 12:=by
 obtain ⟨af,ak,bc⟩:=AC h;have Qn:s.mem.length <= 12:=by
  have:=TB ak bc;have c4:(bi ds rows).length <= ds.length:=by
   unfold bi;exact c7 (um ..) (by rw [aO];exact bR _)
  omega
 refine ⟨⟨?_,fun r ao=>?_,fun r ao x ag=>?_⟩,Qn⟩
 .have:=J.ln;rw [dS];show rows.length + 1 <= 6;omega
 .rcases gU.mp ao with z | z
  .exact J.gy r z
  .rw [fG.mp z];exact Qn
 .rcases gU.mp ao with z | z
  .exact J.yv r z x ag
  .rw [fG.mp z] at ag;obtain ⟨d,hd,e⟩:=cw.mp (lE.mp (bc x ag)).1;exact ⟨d,hd,e⟩
theorem PD {xs:List Str} {qs:List Addr} (h:xs ≠ []):aX xs ≠ qs.map V.ref:=fun e=>by
 obtain ⟨y,r,rfl⟩:=v3 h;cases qs with
 | nil=>cases e
 | cons a b=>injection e with aw _;cases aw
theorem iM.snoc {p x m:Addr} {rows:List ST} (R:iM H p qs ms rows) (ag:H x=some (Ku s m)) (hm:H m=some (.lst (aX s.mem))) (cx:∀ r ∈ rows,r.mem ≠ []) (aB:s.mem ≠ []):iM (upd H p (.lst (qs.map V.ref ++ [V.ref x]))) p (qs ++ [x]) (ms ++ [m]) (rows ++ [s]):=by
 have kt:∀ {b:Addr} {xs:List V},H b=some (.tup xs)->upd H p (.lst (qs.map V.ref ++ [V.ref x])) b=some (.tup xs):=fun e=>by rw [aA (br e R.at_ (by intro z;cases z))];exact e
 have Nq:∀ {b:Addr} {xs:List Str},H b=some (.lst (aX xs))->xs ≠ []->upd H p (.lst (qs.map V.ref ++ [V.ref x])) b=some (.lst (aX xs)):=fun e h=>by
  rw [aA (br e R.at_ (fun z=>by injection z with z;exact PD h z))];exact e
 refine ⟨by rw [db,fx];rfl,by rw [dS,dS,R.cA];rfl,by rw [dS,dS,R.cW];rfl,fun i q c6 r a b c=>?_⟩;have cA:=R.cA;have cW:=R.cW;rcases nt c with ⟨bZ,ct⟩ | ⟨bZ,rfl⟩
 .rcases nt a with ⟨_,a2⟩ | ⟨a1,_⟩
  .rcases nt b with ⟨_,gD⟩ | ⟨hi,_⟩
   .obtain ⟨aw,aG⟩:=R.al i q c6 r a2 gD ct;exact ⟨kt aw,Nq aG (cx r (cQ ct))⟩
   .omega
  .omega
 .rcases nt a with ⟨a1,_⟩ | ⟨_,rfl⟩
  .omega
  .rcases nt b with ⟨hi,_⟩ | ⟨_,rfl⟩
   .omega
   .exact ⟨kt ag,Nq hm aB⟩
theorem amV:cv P base T 7 t.xR t.xN xO (Xv P w t):=by
 have EU:cJ P w K mg base dt 6 t.ya t.wG ["text"] (Ps t):=(NG T).mono (by decide);have akG:cJ P w K mg base dt 6 t.CL t.Bd B0 (Pw t):=agu T;have ad7:cJ P w K mg base dt 6 t.zN t.El kn (P2 t):=(ag4 T).mono (by decide);have ago:cJ P w K mg base dt 6 t.Cd t.C5 kn (R3 t):=(Y_ T).mono (by decide);have alE:cJ P w K mg base dt 6 t.A8 t.Ci kn (M9 t):=(akI T).mono (by decide);have af4:cJ P w K mg base dt 5 t.y2 t.C6 DG (Tf P w t):=aiR T;exists T.J2.ok J_,9
 obtain ⟨c,n,ds,x,CT,rfl,C,a3,cC,cx,lJ,hk,qj,bG,ahY,hle,d2,cV,ku⟩:=h;have akc:∀ d ∈ ds,d.k < 3/\d.name ≠ ab "" := fun d hd=>⟨(cC d hd).2.1,cx d hd⟩
 refine ⟨_,(aP (cg (i:=2) J_.aH (gC aE))
   (aP (fp fj rfl (eS (cH EU ao T.Pl T.DX.bJ T.OZ (ai (U 1) aE))) (cu (i:=3) J_.aH) (aP (en (du fA (gi i9 rfl T.iI iT (ai (U 2) aE)) (me rfl T.aef T.ahW) (cR _)) (a6 oF) fe)
   (a6 (eo (gF ja mc ng Re (U 2) (ai (cH akG ao T.ael T.GL.bJ T.amU (ai (U 3) (ai (U 0) (ai (U 2) aE)))) aE))))))
   (aP (eo (cH ad7 ao T.abi T.Lh.bJ T.YQ (ai (U 0) (ai (U 2) aE))))
   (aP (eo (cH ago ao T.akv T.Kk.bJ T.aj0 (ai (U 0) (ai (U 2) aE))))
   (aP (eo (cH alE ao T.ZE T.Hq.bJ T.akL (ai (U 0) (ai (U 2) aE))))
   (a6 (cz (oC T.ahi af4 ao rfl T.dL T.air .nil cj (ai (U 0) (ai (U 2) aE)))))))))),?_⟩
 exists (fun ax I=>aN H I/\aI I/\∃ dK,H dK=none/\I dK=some (.lst [])/\ax=[~~~c,some (.str x),~~~dK,none]),5
 .nofun;exact ⟨e5 _,fun dK hk=>cM _ _ ⟨bf hk,bG.upd,dK,hk,db,rfl⟩⟩
 rintro gf H1 ⟨s1,b9,dK,C1,dJ,rfl⟩;subst aV;simp only [dT];refine Db (fun ax I=>aN H I/\aI I/\(∃ qs ms rows,iM I dK qs ms rows/\qk ds rows/\(∀ r ∈ rows,r.mem ≠ [])/\rows=CT)/\∃ fh,ax=[~~~c,some (.str x),~~~dK,fh]) (fun gm cM nu _ _=>?_) ?_
 .nofun;refine ⟨x,rfl,lJ,fun r ao=>(qj r ao).2,b9,fun p av oI vy RR=>?_⟩;obtain ⟨lg,aq,gc,nq,mb⟩:=RR;refine ⟨p,rfl,⟨_,aF.of aq⟩,?_⟩;have Zc:p ≠ dK:=fun z=>by rw [z,dJ] at gc;cases gc
  refine dY.list (xs:=lg.map V.ref) (fun i σ I=>(∃ y,σ=[~~~c,some (.str x),~~~dK,y])/\aI I/\aN H I/\I p=some (.lst (lg.map V.ref)) /\
   (∃ qs ms rows,iM I dK qs ms rows/\qk ds rows/\(∀ r ∈ rows,r.mem ≠ [])/\tm ds ((hu x).drop i) i rows=.ok CT) /\
   ∀ (j:Nat) (q:Addr) (r:List Str),i <= j->lg[j]? = some q->(hu x)[j]? = some r->dc t I q ((j:Nat):Int) r 0/\H q=none) ?_ ?_ ?_ ?_
  .refine ⟨⟨_,rfl⟩,vy,s1.trans oI,aq,⟨[],[],[],⟨oI _ _ dJ,rfl,rfl,fun i q m r h=>by simp at h⟩,⟨e5 _,fun r h=>by simp at h,fun r h=>by simp at h⟩,fun r h=>by simp at h,ahY⟩,fun j q r _ af ak=>?_⟩;obtain ⟨oY,eY⟩:=mb j q r af ak;exact ⟨oY,s1.free eY⟩
  .rintro i σ I ah bb;ac_rfl
   obtain ⟨_,_,_,h,_⟩:=bb;subst aV;exact aF.of h
  .rintro i v σ I aJ bb;ac_rfl
   obtain ⟨⟨y,rfl⟩,lu,pO,gb,⟨qs,ms,rows,sr,gz,qW,c5⟩,Rs⟩:=bb;obtain ⟨q,aD,rfl⟩:=cm aJ;obtain ⟨ah,_⟩:=cb.mp aD;have l9:i < (hu x).length:=by omega
   have ao:(hu x)[i]? = some (hu x)[i]:=bo l9;obtain ⟨nP,ji⟩:=Rs i q _ (bR _) aD ao;obtain ⟨_,DC,aok,ha,AL⟩:=id nP;subst aV;rw [sT l9] at c5;unfold tm at c5;simp only [gj,dT,jD,jn];refine F1 (fun ax bk=>bk=I/\rows.length ≠ 6/\ax=[~~~c,some (.str x),~~~dK,~~~q]) (fun aoq EO=>?_) fun tE aV=>?_
   .refine eg (decide (rows.length=6)) (fun kL a9=>?_) (fun aa=>?_) (fun aa=>?_)
    .nofun;refine ⟨_,.inl (aF.of sr.at_),?_⟩;rw [aO,sr.cA];rw [show decide ((rows.length:Int)=6)=decide (rows.length=6) from decide_eq_decide.mpr (by omega)];exact a9
    .have aa:=of_decide_eq_true aa;rw [if_pos aa] at c5;cases c5
    .simp only [jf];exact EO _ _ ⟨rfl,of_decide_eq_false aa,rfl⟩
   rintro fT bk ⟨rfl,iO,rfl⟩;subst aV;rw [if_neg iO] at c5;cases pj:qr ds rows (hu x)[i] with
   | error k=>rw [pj] at c5;cases c5
   | ok s=>
    rw [pj] at c5;replace c5:tm ds ((hu x).drop (i + 1)) (i + 1) (rows ++ [s])=.ok CT:=c5;nofun;refine ⟨.inl ⟨_,aF.of sr.at_⟩,q,_,(hu x)[i],c,n,ds,dK,qs,ms,rows,s,rfl,nP,C.same pO,akc,sr,gz.ln,gz.gy,lu,pj,?_⟩;intro fH m b5 s4 EZ ajx H0 aor aoV;have V9:=(AC pj).1;have mV:=sr.xe s4 nP;have abh:aN H b5:=wb pO s4 ji;have afz:=gz.snoc C.1.2 iO pj;have Eu:=gz.ln;refine ⟨_,mV.at_,f5 (show (qs.map V.ref).length <= 6 by rw [aO,mV.cA];exact Eu) (by decide),⟨_,rfl⟩,EZ.upd,abh.gW C1,by rw [aA Zc];exact s4 _ _ (br gb ha (by intro z;cases z)) gb,⟨qs ++ [fH],ms ++ [m],rows ++ [s],mV.snoc ajx H0 qW V9,afz.1,fun r d4=>?_,c5⟩,fun j dV r aL af ak=>?_⟩
    .rcases gU.mp d4 with z | z
     .exact qW r z
     .rw [fG.mp z];exact V9
    .obtain ⟨oY,eY⟩:=Rs j dV r (by omega) af ak;have qY:=oY.wI s4 (Kh oY nP (by omega)) nP.ins;refine ⟨?_,eY⟩;obtain ⟨aW,ht,a',aw,aG⟩:=qY;exact ⟨aW,ht,a',by rw [aA (br aw mV.at_ (by intro z;cases z))];exact aw,by rw [aA (br aG mV.at_ (fun z=>by injection z with z;exact PD (qj r (cQ ak)).1 z))];exact aG⟩
  .rintro σ I bb;ac_rfl
   obtain ⟨⟨y,rfl⟩,lu,pO,gb,⟨qs,ms,rows,sr,gz,qW,c5⟩,Rs⟩:=bb;subst aV;rw [aO,nq,y8] at c5;replace c5:(rB rows:Except (Nat × Nat) (List ST))=.ok CT:=c5;exact cM _ _ ⟨pO,lu,⟨qs,ms,rows,sr,gz,qW,Except.ok.inj c5⟩,_,rfl⟩
 rintro cn av bb;ac_rfl
 obtain ⟨s2,ck,⟨qs,ms,rows,e',bN,qW,gk⟩,fh,rfl⟩:=bb;subst aV;subst gk;have Cq:=C.same s2;nofun;refine ⟨c,n,ds,dK,qs,ms,rows,rfl,Cq,e',bN,hle,fun bk s3 ZS=>?_⟩;have dy:=ZS ck;have aeq:=s2.trans s3;refine ⟨c,n,ds,dK,qs,ms,rows,rfl,Cq.same s3,e'.same s3,bN,hle,d2,fun b5 s4 acS=>?_⟩;have df:=acS dy;have Um:=aeq.trans s4;refine ⟨c,n,ds,dK,qs,ms,rows,rfl,C.same Um,a3,(e'.same s3).same s4,bN,df,cV,fun cP s5 Z' a ar aZ sf aqa=>?_⟩;have e6:=Z' df;have MI:=Um.trans s5;have sc:aN cP (upd (upd cP ar (.own a)) a (.ins t.fD ar [])):=((aN.refl cP).gW sf).gW aZ;refine ⟨a,ar,c,n,ds,dK,qs,ms,rows,rfl,db,(C.same MI).same sc,a3,cC,(((e'.same s3).same s4).same s5).same sc,bN,qW,(e6.upd).upd,fun fS g6 fN dR=>⟨rfl,?_⟩⟩;exact ku a fS (wb (MI.trans sc) g6 (MI.free aZ)) fN dR
def ahl (P:Program) (w:World) (t:bQ):bX:=fun vs H Q _=>∃ a c n ds rows,∃ i j:Nat,∃ r s,vs=[.ref a,.int i,.int j]/\gV P w t H a c n ds rows/\rows[i]? = some r/\rows[j]? = some s/\i ≠ j/\aI H/\∀ v,tC (lQ n ds r.mem s.mem) v->Q (.int v) H
def ac4 (P:Program) (w:World) (t:bQ):bX:=fun vs H Q _=>∃ a c n ds rows,∃ i j:Nat,∃ r s,vs=[.ref a,.int i,.int j]/\gV P w t H a c n ds rows/\rows[i]? = some r/\rows[j]? = some s/\i ≠ j/\∀ v I,aN H I->tC (lQ n ds r.mem s.mem) v->Q (.int v) I
theorem TS:cv P base T 1 t.F2 t.It AM (ahl P w t):=by
 refine cJ.forget (sp:=ac4 P w t) ?_ fun vs H Q E h=>?_
 .exists T.D_.ok aj5,9
  obtain ⟨a,c,n,ds,rows,i,j,r,aj,rfl,⟨ar,le,mo,c8,cU,aS,ch,ms,kvs,aw,_,_,_,_,_,_,afC,af5⟩,ah,aL,oQ,q⟩:=h;have bt:=gT ao;obtain ⟨v,aJ,DY⟩:=af5.2 i j r aj ah aL oQ (.inl (cb.mp ah).1);refine ⟨_,(a6 (cz (aim bt (bx (U 0) rfl) (pQ (ai (U 1) (ai (U 2) aE))) (fun _ _=>rfl)))),?_⟩;nofun;exact ⟨_,Oc T aw,by decide,fun p aq=>⟨ch,rfl,kvs,Io afC (bf aq),stK i j,db,_,aJ,q v _ (bf aq) DY⟩⟩
 .obtain ⟨a,c,n,ds,rows,i,j,r,aj,rfl,dR,ah,aL,oQ,bG,q⟩:=h;exact ⟨bG,a,c,n,ds,rows,i,j,r,aj,rfl,dR,ah,aL,oQ,fun v I bg aJ=>⟨bg,q v aJ⟩⟩
noncomputable abbrev lS:List Str:=[ab "stages",ab "showing",ab "lasted",ab "left",ab "sought",ab "gone",ab "waiting",ab "picked"]
noncomputable def fv (aT:Addr) (c2:V) (bA lf bL dr:Int) (az aQ:Addr):List (Str × V):=[(ab "stages",V.ref aT),(ab "showing",c2),(ab "lasted",V.int bA),(ab "left",V.int lf),(ab "sought",V.int bL),(ab "gone",V.int dr),(ab "waiting",V.ref az),(ab "picked",V.ref aQ)]
theorem ce (aT:Addr) (c2:V) (bA lf bL dr:Int) (az aQ:Addr):(fv aT c2 bA lf bL dr az aQ).map (·.1)=lS:=rfl
theorem Pf (aT:Addr) (c2:V) (bA lf bL dr:Int) (az aQ:Addr) (v:V):cT (ab "showing") v (fv aT c2 bA lf bL dr az aQ)=fv aT v bA lf bL dr az aQ:=by
 unfold fv;simp only [cT];rw [if_neg (by ac_nf)];rfl
theorem Wl (aT:Addr) (c2:V) (bA lf bL dr:Int) (az aQ:Addr) (v:Int):cT (ab "lasted") (.int v) (fv aT c2 bA lf bL dr az aQ)=fv aT c2 v lf bL dr az aQ:=by
 unfold fv;simp only [cT];rw [if_neg (by ac_nf),if_neg (by ac_nf)];rfl
theorem Yl (aT:Addr) (c2:V) (bA lf bL dr:Int) (az aQ:Addr) (v:Int):cT (ab "left") (.int v) (fv aT c2 bA lf bL dr az aQ)=fv aT c2 bA v bL dr az aQ:=by
 unfold fv;simp only [cT];rw [if_neg (by ac_nf),if_neg (by ac_nf),if_neg (by ac_nf)];rfl
theorem afV (aT:Addr) (c2:V) (bA lf bL dr:Int) (az aQ:Addr) (v:Int):cT (ab "sought") (.int v) (fv aT c2 bA lf bL dr az aQ)=fv aT c2 bA lf v dr az aQ:=by
 unfold fv;simp only [cT];rw [if_neg (by ac_nf),if_neg (by ac_nf),if_neg (by ac_nf),if_neg (by ac_nf)];rfl
theorem Qk (aT:Addr) (c2:V) (bA lf bL dr:Int) (az aQ:Addr) (v:Int):cT (ab "gone") (.int v) (fv aT c2 bA lf bL dr az aQ)=fv aT c2 bA lf bL v az aQ:=by
 unfold fv;simp only [cT];rw [if_neg (by ac_nf),if_neg (by ac_nf),if_neg (by ac_nf),if_neg (by ac_nf),if_neg (by ac_nf)];rfl
section
variable {w:World} {K:ba} {mg:Str->Option Value} {t:bQ} {H:au} {a c ar le mo c8 cU aS ch:Addr} {k:Nat}
theorem A7 (T:Txt w K mg t) (e:H a=some (.ins t.fD ar (kX c k le mo c8 cU aS ch))):fa K H a (ab "crossing") (.ref c):=⟨_,ar,_,e,T.jK,T.OF,ac qc 0 (rz ..) (by ac_nf) rfl⟩
theorem io (T:Txt w K mg t) (e:H a=some (.ins t.fD ar (kX c k le mo c8 cU aS ch))):fa K H a (ab "sorts") (.ref cU):=⟨_,ar,_,e,T.jK,T.Qz,ac qc 5 (rz ..) (by ac_nf) rfl⟩
theorem Bp (T:Txt w K mg t) (e:H a=some (.ins t.fD ar (kX c k le mo c8 cU aS ch))):fa K H a (ab "homes") (.ref aS):=⟨_,ar,_,e,T.jK,T.SI,ac qc 6 (rz ..) (by ac_nf) rfl⟩
end
theorem Op (aT:Addr) (c2:V) (bA lf bL dr:Int) (az aQ:Addr) (h:lS.contains m=false):(fv aT c2 bA lf bL dr az aQ).lookup m=none:=t6 lS (ce ..) h
section
variable {w:World} {K:ba} {mg:Str->Option Value} {t:bQ} {H:au} {k aT ar az aQ:Addr} {c2:V} {bA lf bL dr:Int}
theorem jA (T:Txt w K mg t) (e:H k=some (.ins t.dd ar (fv aT c2 bA lf bL dr az aQ))):fa K H k (ab "stages") (.ref aT):=⟨_,ar,_,e,T.eN,T.Ri,ac lS 0 (ce ..) (by ac_nf) rfl⟩
theorem q9 (T:Txt w K mg t) (e:H k=some (.ins t.dd ar (fv aT c2 bA lf bL dr az aQ))):fa K H k (ab "showing") c2:=⟨_,ar,_,e,T.eN,T.A_,ac lS 1 (ce ..) (by ac_nf) rfl⟩
theorem wc (T:Txt w K mg t) (e:H k=some (.ins t.dd ar (fv aT c2 bA lf bL dr az aQ))):fa K H k (ab "waiting") (.ref az):=⟨_,ar,_,e,T.eN,T.Tk,ac lS 6 (ce ..) (by ac_nf) rfl⟩
theorem Gv (T:Txt w K mg t) (e:H k=some (.ins t.dd ar (fv aT c2 bA lf bL dr az aQ))):fa K H k (ab "picked") (.ref aQ):=⟨_,ar,_,e,T.eN,T.WB,ac lS 7 (ce ..) (by ac_nf) rfl⟩
theorem Ue (T:Txt w K mg t) (e:H k=some (.ins t.dd ar (fv aT c2 bA lf bL dr az aQ))):fa K H k (ab "lasted") (.int bA):=⟨_,ar,_,e,T.eN,T.z9,ac lS 2 (ce ..) (by ac_nf) rfl⟩
theorem KO (T:Txt w K mg t) (e:H k=some (.ins t.dd ar (fv aT c2 bA lf bL dr az aQ))):fa K H k (ab "left") (.int lf):=⟨_,ar,_,e,T.eN,T.GU,ac lS 3 (ce ..) (by ac_nf) rfl⟩
theorem xl (T:Txt w K mg t) (e:H k=some (.ins t.dd ar (fv aT c2 bA lf bL dr az aQ))):fa K H k (ab "sought") (.int bL):=⟨_,ar,_,e,T.eN,T.KJ,ac lS 4 (ce ..) (by ac_nf) rfl⟩
theorem KA (T:Txt w K mg t) (e:H k=some (.ins t.dd ar (fv aT c2 bA lf bL dr az aQ))):fa K H k (ab "gone") (.int dr):=⟨_,ar,_,e,T.eN,T.Cs,ac lS 5 (ce ..) (by ac_nf) rfl⟩
end
section
variable {w:World} {K:ba} {mg:Str->Option Value} {t:bQ} {H:au} {a c ar le mo c8 cU aS ch:Addr} {k:Nat}
theorem ae3 (T:Txt w K mg t) (e:H a=some (.ins t.fD ar (kX c k le mo c8 cU aS ch))):fa K H a (ab "leasts") (.ref le):=⟨_,ar,_,e,T.jK,T.OH,ac qc 2 (rz ..) (by ac_nf) rfl⟩
theorem agG (T:Txt w K mg t) (e:H a=some (.ins t.fD ar (kX c k le mo c8 cU aS ch))):fa K H a (ab "mosts") (.ref mo):=⟨_,ar,_,e,T.jK,T.zn,ac qc 3 (rz ..) (by ac_nf) rfl⟩
end
theorem gV.same {w:World} {t:bQ} {a c:Addr} {rows:List ST} (h:gV P w t H a c n ds rows) (s:aN H I):gV P w t I a c n ds rows:=by
 obtain ⟨ar,le,mo,c8,cU,aS,ch,ms,kvs,aw,aG,bS,er,gh,dZ,hE,j7,kH⟩:=h;exact ⟨ar,le,mo,c8,cU,aS,ch,ms,kvs,s _ _ aw,aG.same s,s _ _ bS,s _ _ er,gh.same s,s _ _ dZ,s _ _ hE,Io j7 s,kH⟩
noncomputable abbrev eb:Str:=ab "trams"
noncomputable abbrev kJ:Str:=ab "others"
structure fK where
 c2:Option Nat
 bA:Int
 lf:Nat
 bL:Nat
 dr:Int
 wt:List Str
 pt:Int
 po:Int
noncomputable def pT:Option Nat->V
 | none=>.b'
 | some i=>.int (i:Nat)
noncomputable def gs (xs:List Str):List (Key × V):=xs.map fun x=>(bD x,V.bB true)
noncomputable def lM (a b:Int):List (Key × V):=[(bD eb,.int a),(bD kJ,.int b)]
def eD (t:bQ) (H:au) (k aT az aQ:Addr) (s:fK):Prop:=az ≠ aQ/\∃ ar,H k=some (.ins t.dd ar (fv aT (pT s.c2) s.bA s.lf s.bL s.dr az aQ))/\H az=some (.a5 (gs s.wt))/\H aQ=some (.a5 (lM s.pt s.po))
theorem eD.same {t:bQ} {k aT az aQ:Addr} (h:eD t H k aT az aQ s) (e:aN H I):eD t I k aT az aQ s:=by
 obtain ⟨h0,ar,af,ak,bc⟩:=h;exact ⟨h0,ar,e _ _ af,e _ _ ak,e _ _ bc⟩
def hj (k az aQ:Addr) (H I:au):Prop:=∀ b u,b ≠ k->b ≠ az->b ≠ aQ->H b=some u->I b=some u
theorem hj.trans {k az aQ:Addr} (a:hj k az aQ H H1) (b:hj k az aQ H1 av):hj k az aQ H av:=fun c u x y z e=>b c u x y z (a c u x y z e)
theorem hj.of {k az aQ:Addr} (a:aN H H1):hj k az aQ H H1:=fun c u _ _ _ e=>a c u e
theorem hj.x5 {k az aQ:Addr} (a:hj k az aQ H H1) (s:aN bU H) (af:bU k=none) (ak:bU az=none) (bc:bU aQ=none):aN bU H1:=fun c u e=>a c u (dj e af) (dj e ak) (dj e bc) (s c u e)
theorem acU:tO [] [(bD eb,V.int (-1)),(bD kJ,V.int (-1))]=lM (-1) (-1):=by
 have h:(bD eb:Key) ≠ bD kJ:=fun z=>absurd (qx z) (by ac_nf)
 simp [tO,ci,lM,h]
theorem UT (h:s=eb\/s=kJ):ci (lM a b) (bD s) (.int v)=lM (if s=eb then v else a) (if s=eb then b else v):=by
 have af:eb ≠ kJ:=by ac_nf
 rcases h with rfl | rfl
 .simp [ci,lM,af,af.symm]
 .simp [ci,lM,af,af.symm]
theorem Xs (h:s=eb\/s=kJ):c1 (lM a b) (bD s)=some (.int (if s=eb then a else b)):=by
 have af:eb ≠ kJ:=by ac_nf
 rcases h with rfl | rfl
 .simp [c1,lM,af,af.symm]
 .simp [c1,lM,af,af.symm]
theorem Yn (xs:List Str) (x:Str):(c1 (gs xs) (bD x)).isSome=decide (x ∈ xs):=by
 rw [lp,decide_eq_true_eq]
 induction xs with
 | nil=>simp [gs,c1]
 | cons y ys b7=>
  by_cases c:y=x
  .simp [gs,c1,c]
  .have c':x ≠ y:=fun z=>c z.symm
   simp only [gs,c1,eu,o_] at b7 ⊢;simp [c,c'] at b7 ⊢
   try exact b7
noncomputable def lC (ds:List bl) (r:ST):fK:=⟨some 0,1,0,0,0,[],if dQ ds r=eb then 0 else -1,if dQ ds r=eb then -1 else 0⟩
noncomputable def u1 (rows:List ST) (i:Nat) (x:Str):Str:=if lx rows x=some i then ab "free" else ab "stop"
section
variable (P:Program) (w:World)
def GP (t:bQ):bX:=fun vs H Q _=>∃ k ar aT c n ds rows r,vs=[.ref k,.ref aT]/\H k=some (.ins t.dd ar [])/\gV P w t H aT c n ds rows/\rows[0]? = some r/\(dQ ds r=eb\/dQ ds r=kJ)/\aI H/\∀ az aQ I,cK k H I->aI I->H az=none->H aQ=none->eD t I k aT az aQ (lC ds r)->Q .b' I
def alD (t:bQ):bX:=fun vs H Q _=>∃ k aT az aQ s,∃ i:Nat,∃ c n ds rows,∃ d:bl,vs=[.ref k,.str d.name]/\eD t H k aT az aQ s/\s.c2=some i/\gV P w t H aT c n ds rows/\told rows d.name=true/\Q (.str (u1 rows i d.name)) H
end
theorem EQ:cv P base T 1 t.vE t.yE pv (GP P w t):=by
 exists T.SN.ok XJ,9
 obtain ⟨k,ar,aT,c,n,ds,rows,r,rfl,aC,dR,h0,lh,bG,q⟩:=h;obtain ⟨jY,le,mo,c8,cU,aS,ch,ms,kvs,aw,C,bS,er,gh,dZ,hE,j7,kH⟩:=dR;have bt:=gT ao;refine ⟨_,(aP (eF (U 0) (U 1) rfl)
   (aP (eF (U 0) aM rfl)
   (aP (eF (U 0) aM rfl)
   (aP (eF (U 0) aM rfl)
   (aP (eF (U 0) aM rfl)
   (aP (eF (U 0) aM rfl)
   (aP (eF (U 0) q7 rfl)
   (aP (eF (U 0) (adQ (Ug dD (TC Wy aM) (Ug dD (TC Wy aM) aii)) rfl rfl (by simp) (by decide)) rfl)
   (a6 (mf bt (bx (U 0) rfl) (cE ed (bx (U 1) rfl) aM) aM rfl)))))))))),?_⟩
 exists (fun ax I=>cK k H I/\aI I/\I k=some (.ins t.dd ar [(ab "stages",V.ref aT)])/\ax=[~~~k,~~~aT]),5
 .nofun;refine ⟨_,_,_,aC,T.eN,T.Ri,(show (0:Nat) < 1000 by decide),?_⟩;rw [show cT (ab "stages") (V.ref aT) ([]:List (Str × V))=[(ab "stages",V.ref aT)] from fw [] rfl (by ac_nf)];exact cM _ _ ⟨fun b u aa e=>by rw [aA aa];exact e,bG.upd,db,rfl⟩
 rintro gf H1 ⟨cp,b9,a1,rfl⟩;subst aV;exists (fun ax I=>cK k H I/\aI I/\I k=some (.ins t.dd ar [(ab "stages",V.ref aT),(ab "showing",V.int 0)])/\ax=[~~~k,~~~aT]),5
 .nofun;refine ⟨_,_,_,a1,T.eN,T.A_,(show (1:Nat) < 1000 by decide),?_⟩;rw [show cT (ab "showing") (V.int 0) ([(ab "stages",V.ref aT)]:List (Str × V))=[(ab "stages",V.ref aT),(ab "showing",V.int 0)] from fw [ab "stages"] rfl (by ac_nf)];exact cM _ _ ⟨fun b u aa e=>by rw [aA aa];exact cp _ _ aa e,b9.upd,db,rfl⟩
 rintro cn av ⟨e1,ck,a2,rfl⟩;subst aV;exists (fun ax I=>cK k H I/\aI I/\I k=some (.ins t.dd ar [(ab "stages",V.ref aT),(ab "showing",V.int 0),(ab "lasted",V.int 1)])/\ax=[~~~k,~~~aT]),5
 .nofun;refine ⟨_,_,_,a2,T.eN,T.z9,(show (2:Nat) < 1000 by decide),?_⟩;rw [show cT (ab "lasted") (V.int 1) ([(ab "stages",V.ref aT),(ab "showing",V.int 0)]:List (Str × V))=[(ab "stages",V.ref aT),(ab "showing",V.int 0),(ab "lasted",V.int 1)] from fw [ab "stages",ab "showing"] rfl (by ac_nf)];exact cM _ _ ⟨fun b u aa e=>by rw [aA aa];exact e1 _ _ aa e,ck.upd,db,rfl⟩
 rintro fT bk ⟨fh,dy,fM,rfl⟩;subst aV;exists (fun ax I=>cK k H I/\aI I/\I k=some (.ins t.dd ar [(ab "stages",V.ref aT),(ab "showing",V.int 0),(ab "lasted",V.int 1),(ab "left",V.int 0)])/\ax=[~~~k,~~~aT]),5
 .nofun;refine ⟨_,_,_,fM,T.eN,T.GU,(show (3:Nat) < 1000 by decide),?_⟩;rw [show cT (ab "left") (V.int 0) ([(ab "stages",V.ref aT),(ab "showing",V.int 0),(ab "lasted",V.int 1)]:List (Str × V))=[(ab "stages",V.ref aT),(ab "showing",V.int 0),(ab "lasted",V.int 1),(ab "left",V.int 0)] from fw [ab "stages",ab "showing",ab "lasted"] rfl (by ac_nf)];exact cM _ _ ⟨fun b u aa e=>by rw [aA aa];exact fh _ _ aa e,dy.upd,db,rfl⟩
 rintro kj b5 ⟨dw,df,lP,rfl⟩;subst aV;exists (fun ax I=>cK k H I/\aI I/\I k=some (.ins t.dd ar [(ab "stages",V.ref aT),(ab "showing",V.int 0),(ab "lasted",V.int 1),(ab "left",V.int 0),(ab "sought",V.int 0)])/\ax=[~~~k,~~~aT]),5
 .nofun;refine ⟨_,_,_,lP,T.eN,T.KJ,(show (4:Nat) < 1000 by decide),?_⟩;rw [show cT (ab "sought") (V.int 0) ([(ab "stages",V.ref aT),(ab "showing",V.int 0),(ab "lasted",V.int 1),(ab "left",V.int 0)]:List (Str × V))=[(ab "stages",V.ref aT),(ab "showing",V.int 0),(ab "lasted",V.int 1),(ab "left",V.int 0),(ab "sought",V.int 0)] from fw [ab "stages",ab "showing",ab "lasted",ab "left"] rfl (by ac_nf)];exact cM _ _ ⟨fun b u aa e=>by rw [aA aa];exact dw _ _ aa e,df.upd,db,rfl⟩
 rintro n4 cP ⟨ey,e6,oA,rfl⟩;subst aV;exists (fun ax I=>cK k H I/\aI I/\I k=some (.ins t.dd ar [(ab "stages",V.ref aT),(ab "showing",V.int 0),(ab "lasted",V.int 1),(ab "left",V.int 0),(ab "sought",V.int 0),(ab "gone",V.int 0)])/\ax=[~~~k,~~~aT]),5
 .nofun;refine ⟨_,_,_,oA,T.eN,T.Cs,(show (5:Nat) < 1000 by decide),?_⟩;rw [show cT (ab "gone") (V.int 0) ([(ab "stages",V.ref aT),(ab "showing",V.int 0),(ab "lasted",V.int 1),(ab "left",V.int 0),(ab "sought",V.int 0)]:List (Str × V))=[(ab "stages",V.ref aT),(ab "showing",V.int 0),(ab "lasted",V.int 1),(ab "left",V.int 0),(ab "sought",V.int 0),(ab "gone",V.int 0)] from fw [ab "stages",ab "showing",ab "lasted",ab "left",ab "sought"] rfl (by ac_nf)];exact cM _ _ ⟨fun b u aa e=>by rw [aA aa];exact ey _ _ aa e,e6.upd,db,rfl⟩
 rintro mS fS ⟨dB,fN,k2,rfl⟩;subst aV;exists (fun ax I=>cK k H I/\aI I/\∃ az,H az=none/\I k=some (.ins t.dd ar [(ab "stages",V.ref aT),(ab "showing",V.int 0),(ab "lasted",V.int 1),(ab "left",V.int 0),(ab "sought",V.int 0),(ab "gone",V.int 0),(ab "waiting",V.ref az)])/\I az=some (.a5 [])/\ax=[~~~k,~~~aT]),5
 .nofun;intro az m_;have Nd:az ≠ k:=fun z=>by rw [z,k2] at m_;cases m_
  have fZ:H az=none:=by
   cases e:H az with
   | none=>rfl
   | some u=>have:=dB _ _ Nd e;rw [m_] at this;cases this
  refine ⟨_,_,_,(bf m_) _ _ k2,T.eN,T.Tk,(show (6:Nat) < 1000 by decide),?_⟩;rw [show cT (ab "waiting") (V.ref az) ([(ab "stages",V.ref aT),(ab "showing",V.int 0),(ab "lasted",V.int 1),(ab "left",V.int 0),(ab "sought",V.int 0),(ab "gone",V.int 0)]:List (Str × V))=[(ab "stages",V.ref aT),(ab "showing",V.int 0),(ab "lasted",V.int 1),(ab "left",V.int 0),(ab "sought",V.int 0),(ab "gone",V.int 0),(ab "waiting",V.ref az)] from fw [ab "stages",ab "showing",ab "lasted",ab "left",ab "sought",ab "gone"] rfl (by ac_nf)];exact cM _ _ ⟨fun b u aa e=>by rw [aA aa];exact (bf m_) _ _ (dB _ _ aa e),fN.upd.upd,az,fZ,db,by rw [aA Nd];exact db,rfl⟩
 rintro kg gE ⟨d5,jE,az,fZ,mz,Lr,rfl⟩;subst aV;exists (fun ax I=>cK k H I/\aI I/\∃ aQ,I k=some (.ins t.dd ar (fv aT (.int 0) 1 0 0 0 az aQ))/\I az=some (.a5 [])/\I aQ=some (.a5 (lM (-1) (-1)))/\aQ ≠ az/\H aQ=none/\ax=[~~~k,~~~aT]),5
 .nofun;simp only [AS];nofun;intro aQ kU;have vO:aQ ≠ k:=fun z=>by rw [z,mz] at kU;cases kU
  have hM:aQ ≠ az:=fun z=>by rw [z,Lr] at kU;cases kU
  have gc:H aQ=none:=by
   cases e:H aQ with
   | none=>rfl
   | some u=>have:=d5 _ _ vO e;rw [kU] at this;cases this
  refine ⟨db,[(bD (ab "trams"),.int (-1)),(bD (ab "others"),.int (-1))],rfl,by show 2 <= 15;decide,_,_,_,(aA vO.symm).trans ((aA vO.symm).trans mz),T.eN,T.WB,(show (7:Nat) < 1000 by decide),?_⟩;rw [show cT (ab "picked") (V.ref aQ) ([(ab "stages",V.ref aT),(ab "showing",V.int 0),(ab "lasted",V.int 1),(ab "left",V.int 0),(ab "sought",V.int 0),(ab "gone",V.int 0),(ab "waiting",V.ref az)]:List (Str × V))=fv aT (.int 0) 1 0 0 0 az aQ from fw [ab "stages",ab "showing",ab "lasted",ab "left",ab "sought",ab "gone",ab "waiting"] rfl (by ac_nf)];refine cM _ _ ⟨fun b u aa e=>?_,jE.upd.upd.upd,aQ,db,?_,(aA vO).trans (db.trans (congrArg (fun x=>some (dU.a5 x)) (acU))),hM,gc,rfl⟩
  .have:=d5 _ _ aa e;rw [aA aa,aA (dj this kU),aA (dj this kU)];exact this
  .rw [aA (br Lr mz (by intro z;cases z)),aA hM.symm,aA hM.symm];exact Lr
 rintro sF hz ⟨dA,qq,aQ,vU,afd,Nx,hM,kU,rfl⟩;subst aV;nofun;refine ⟨_,Gv T vU,_,io T (dA _ _ (Kx aC aw) aw),_,rfl,_,aF.of (dA _ _ (br dZ aC (by intro z;cases z)) dZ),_,cy (j:=0) (sC (by rw [dO,h0];rfl)),_,rfl,_,hC.k (k:=bD (dQ ds r)) Nx (f5 (show (lM (-1) (-1)).length <= 2 from bR 2) (by decide)),q az aQ _ (fun b u aa e=>?_) qq.upd fZ kU ⟨hM.symm,ar,?_,?_,?_⟩⟩
 .rw [aA (dj e kU)];exact dA _ _ aa e
 .rw [aA (br vU Nx (by intro z;cases z))];exact vU
 .rw [aA hM.symm];exact afd
 .rw [db,UT lh];rfl
theorem akM:cv P base T 1 t.C_ t.Fz iN (alD P w t):=by
 exists T.Q3.ok Xi,9
 obtain ⟨k,aT,az,aQ,aj,i,c,n,ds,rows,d,rfl,⟨_,ar,b2,di,eB⟩,gG,⟨jY,le,mo,c8,cU,aS,ch,ms,kvs,aw,C,bS,er,gh,dZ,hE,j7,kH⟩,cZ,q⟩:=h;have bt:=gT ao;obtain ⟨j,r,aL,aC,kr,_⟩:=ql cZ;refine ⟨_,(a6 (cz (vq (du fA (jM bt (bx (bx (U 0) rfl) rfl) (U 1) (fun _ _=>rfl)) (bx (U 0) rfl) (cR _)) dD dD))),?_⟩;rw [gG] at b2;nofun;have bj:=fm.k (k:=bD d.name) hE;rw [aL] at bj;refine ⟨_,jA T b2,_,rfl,_,Bp T aw,_,rfl,_,bj,_,q9 T b2,rfl,?_⟩;unfold u1 at q;rw [aC] at q;by_cases hm:j=i
 .rw [if_pos (by rw [hm])] at q;rw [hm,if_pos (show decide (V.int ((i:Nat):Int)=pT (some i))=true from decide_eq_true rfl)];exact q
 .rw [if_neg (fun z=>hm (dX z))] at q;rw [if_neg (show ¬ decide (V.int ((j:Nat):Int)=pT (some i))=true from fun z=>hm (by have z:=of_decide_eq_true z;injection z with z;omega))];exact q
noncomputable def q5 (n:Int) (ds:List bl) (rows:List ST) (i j:Nat):Int:=match rows[i]?,rows[j]? with
 | some r,some s=>((lQ n ds r.mem s.mem).max?).getD 0
 | _,_=>0
theorem VO {rows:List ST} (ah:rows[i]? = some r) (aL:rows[j]? = some s) (h:tC (lQ n ds r.mem s.mem) v):q5 n ds rows i j=v:=by
 unfold q5;rw [ah,aL];show ((lQ n ds r.mem s.mem).max?).getD 0=v;rw [(List.max?_eq_some_iff (xs:=lQ n ds r.mem s.mem) (a:=v)).mpr ⟨h.1,h.2⟩];rfl
noncomputable def t_ (n:Int) (ds:List bl) (rows:List ST) (s:fK) (d:bl):Str:=if lx rows d.name=some s.lf/\s.dr < mP d then ab "fade" else if lx rows d.name=some s.bL/\q5 n ds rows s.lf s.bL - s.dr <= mv d then ab "ready" else ab "stop"
noncomputable def gR (n:Int) (ds:List bl) (rows:List ST) (s:fK) (d:bl):Str:=match s.c2 with
 | some i=>u1 rows i d.name
 | none=>t_ n ds rows s d
section
variable (P:Program) (w:World)
def agL (t:bQ):bX:=fun vs H Q _=>∃ k aT az aQ s c n ds rows,∃ i:Nat,∃ d:bl,vs=[.ref k,.str d.name]/\eD t H k aT az aQ s/\gV P w t H aT c n ds rows/\told rows d.name=true/\ds[i]? = some d/\s.lf < rows.length/\s.bL < rows.length/\s.lf ≠ s.bL/\aI H/\Q (.str (t_ n ds rows s d)) H
end
theorem ajD:cv P base T 3 t.zY t.Lp iN (agL P w t):=by
 refine cB (p_ T) fun iV=>cB (TS T) fun JS=>?_;have Gy:mN P w K mg base dt 2 (qL t) "ready" ["self"] (tX t):=xI (ND T) (by decide);have JJ:mN P w K mg base dt 2 (qL t) "fade" ["self"] (uG t):=xI (Nu T) (by decide);exists T.TF.ok LC,9
 obtain ⟨k,aT,az,aQ,aj,c,n,ds,rows,i,d,rfl,⟨_,ar,b2,di,eB⟩,dR,cZ,hd,pY,Ro,cx,bG,q⟩:=h;obtain ⟨jY,le,mo,c8,cU,aS,ch,ms,kvs,aw,C,bS,er,gh,dZ,hE,j7,kH⟩:=id dR;have bt:=gT ao;obtain ⟨⟨ff,fq⟩,za,wl,aH,bZ,_,_⟩:=id C;obtain ⟨j,r,aL,aC,kr,_⟩:=ql cZ;have bj:=fm.k (k:=bD d.name) hE;rw [aL] at bj;refine ⟨_,(aP (cg (i:=2) LC.aH (Gc (bx (bx (U 0) rfl) rfl) T.gZ T.lc iV ao T.mh .nil cj (ai (U 1) aE)))
   (aP (cg (i:=3) LC.aH (jM bt (bx (bx (U 0) rfl) rfl) (U 1) (fun _ _=>rfl)))
   (aP (en (iC.pt (r3 (du fA (U 3) (bx (U 0) rfl) (cR _)) (ts (du lV (bx (U 0) rfl) (EE (U 2) JJ ao cj) (cR _))))) (a6 (cz dD)) fe)
   (aP (en (iC.pt (r3 (du fA (U 3) (bx (U 0) rfl) (cR _)) (ts (du XZ (bP lA (cH JS ao T.OB T.D_.bJ T.Ou (ai (bx (U 0) rfl) (ai (bx (U 0) rfl) (ai (bx (U 0) rfl) aE)))) (bx (U 0) rfl)) (EE (U 2) Gy ao cj) (cR _))))) (a6 (cz dD)) fe)
   (a6 (cz dD)))))),?_⟩
 exists (fun ax I=>I=H/\∃ a,eT t H a d/\ax=[~~~k,some (.str d.name),~~~a,none]),5
 .nofun;exact ⟨_,jA T b2,_,rfl,_,A7 T aw,_,rfl,_,_,bZ,iR _ _ _ (by ac_nf),c,n,ds,i,d,rfl,C,hd,fun a W=>cM _ _ ⟨rfl,a,W,rfl⟩⟩
 rintro gf H1 ⟨rfl,a,W,rfl⟩;subst aV;exists (fun ax I=>I=H1/\ax=[~~~k,some (.str d.name),~~~a,some (.int (j:Nat))]),5
 .nofun;exact ⟨_,jA T b2,_,rfl,_,Bp T aw,_,rfl,_,bj,cM _ _ ⟨rfl,rfl⟩⟩
 rintro cn av ⟨rfl,rfl⟩;obtain ⟨g_,LG,pf⟩:=id W;subst aV;unfold t_ at q;rw [aC] at q;simp only [dT];refine Db (fun ax I=>I=av/\¬ (some j=some aj.lf/\aj.dr < mP d)/\ax=[~~~k,some (.str d.name),~~~a,some (.int (j:Nat))]) (fun gm cM nu _ _=>?_) ?_
 .refine eg (decide (j=aj.lf) && decide (aj.dr < mP d)) (fun kL a9=>?_) (fun aa=>?_) (fun aa=>?_)
  .nofun;refine ⟨_,KO T b2,rfl,?_⟩;by_cases cO:j=aj.lf
   .rw [decide_eq_true cO,mA] at a9;rw [if_pos (show decide (V.int ((j:Nat):Int)=V.int ((aj.lf:Nat):Int))=true from decide_eq_true (by rw [cO]))];exact ⟨_,KA T b2,_,_,_,pf,⟨_,g_,rfl⟩,yq (by ac_nf),a,d,rfl,W,rfl,_,rfl,_,rfl,a9⟩
   .rw [decide_eq_false cO,nJ] at a9;rw [if_neg (show ¬ decide (V.int ((j:Nat):Int)=V.int ((aj.lf:Nat):Int))=true from fun z=>cO (by have z:=of_decide_eq_true z;injection z with z;omega))];exact a9
  .rw [jF,decide_eq_true_eq,decide_eq_true_eq] at aa;rw [if_pos ⟨by rw [aa.1],aa.2⟩] at q;nofun;rw [nu];exact q
  .simp only [jf];refine cM _ _ ⟨rfl,fun z=>?_,rfl⟩;rw [decide_eq_true (dX z.1),decide_eq_true z.2] at aa;cases aa
 rintro fT bk ⟨rfl,JF,rfl⟩;rw [if_neg JF] at q;simp only [dT];refine Db (fun ax I=>I=bk/\¬ (some j=some aj.bL/\q5 n ds rows aj.lf aj.bL - aj.dr <= mv d)/\ax=[~~~k,some (.str d.name),~~~a,some (.int (j:Nat))]) (fun gm cM nu _ _=>?_) ?_
 .refine eg (decide (j=aj.bL) && decide (q5 n ds rows aj.lf aj.bL - aj.dr <= mv d)) (fun kL a9=>?_) (fun aa=>?_) (fun aa=>?_)
  .nofun;refine ⟨_,xl T b2,rfl,?_⟩;by_cases cO:j=aj.bL
   .rw [decide_eq_true cO,mA] at a9;rw [if_pos (show decide (V.int ((j:Nat):Int)=V.int ((aj.bL:Nat):Int))=true from decide_eq_true (by rw [cO]))];refine ⟨_,jA T b2,_,KO T b2,_,xl T b2,aT,c,n,ds,rows,aj.lf,aj.bL,_,_,rfl,dR,bo pY,bo Ro,cx,bG,fun v aJ=>⟨_,KA T b2,_,rfl,_,rfl,_,_,_,pf,⟨_,g_,rfl⟩,yq (by ac_nf),a,d,rfl,W,rfl,_,rfl,?_⟩⟩;rw [VO (bo pY) (bo Ro) aJ] at a9;exact a9
   .rw [decide_eq_false cO,nJ] at a9;rw [if_neg (show ¬ decide (V.int ((j:Nat):Int)=V.int ((aj.bL:Nat):Int))=true from fun z=>cO (by have z:=of_decide_eq_true z;injection z with z;omega))];exact a9
  .rw [jF,decide_eq_true_eq,decide_eq_true_eq] at aa;rw [if_pos ⟨by rw [aa.1],aa.2⟩] at q;nofun;rw [nu];exact q
  .simp only [jf];refine cM _ _ ⟨rfl,fun z=>?_,rfl⟩;rw [decide_eq_true (dX z.1),decide_eq_true z.2] at aa;cases aa
 rintro kj b5 ⟨rfl,q1,rfl⟩;rw [if_neg q1] at q;nofun;exact q
theorem aad {ds:List bl} (h:(ds.map (·.name)).Nodup) {i j:Nat} {d e:bl} (ah:ds[i]? = some d) (aL:ds[j]? = some e) (z:d.name=e.name):i=j:=by
 obtain ⟨af,aw⟩:=cb.mp ah;obtain ⟨ak,aG⟩:=cb.mp aL;have e:(ds.map (·.name))[i]'(by simpa using af)=(ds.map (·.name))[j]'(by simpa using ak):=by
  rw [pP,pP,aw,aG];exact z
 exact (tP h).mp e
noncomputable def hF (ds:List bl) (f:bl->Str):List (Key × V):=ds.map fun d=>(bD d.name,V.str (f d))
theorem ahL {ds:List bl} {f:bl->Str} (h:(ds.map (·.name)).Nodup) {i:Nat} {d:bl} (hd:ds[i]? = some d):ci (hF (ds.take i) f) (bD d.name) (.str (f d))=hF (ds.take (i + 1)) f:=by
 unfold ci;have no:((hF (ds.take i) f).any fun c_=>decide (c_.1=bD d.name))=false:=by
  rw [Kt];intro p aq;unfold hF at aq;obtain ⟨e,he,rfl⟩:=cw.mp aq;obtain ⟨j,aL⟩:=iG he;have o6:=(cb.mp aL).1;rw [gK] at o6;rw [rO (by omega)] at aL;simp only [decide_eq_true_eq];intro z;have:=aad h aL hd (qx z);omega
 rw [if_neg (by rw [no];exact fY),iH hd];unfold hF;rw [fx];rfl
theorem Vr {ds:List bl} {f:bl->Str} (h:(ds.map (·.name)).Nodup) {i:Nat} {d:bl} (hd:ds[i]? = some d):c1 (hF ds f) (bD d.name)=some (.str (f d)):=by
 have:∀ (l:List bl),(l.map (·.name)).Nodup->d ∈ l->c1 (hF l f) (bD d.name)=some (.str (f d)):=fun l=>by
  induction l with
  | nil=>intro _ h;cases h
  | cons x l b7=>
   intro a3 hm;by_cases c:x.name=d.name
   .have:x=d:=by
     rcases eZ.mp hm with e | e
     .exact e.symm
     .exact absurd (cw.mpr ⟨d,e,c.symm⟩) (rX.mp a3).1
    subst this;simp [c1,hF]
   .have sY:d ∈ l:=by
     rcases eZ.mp hm with e | e
     .exact absurd (by rw [e]) c
     .exact e
    have:=b7 (rX.mp a3).2 sY;simp only [c1,hF,eu,o_] at this ⊢;simp [c] at this ⊢;exact this
 exact this ds h (cQ hd)
def Dc (rows:List ST) (s:fK):Prop:=s.c2=none->s.lf < rows.length/\s.bL < rows.length/\s.lf ≠ s.bL
def RU (P:Program) (w:World) (t:bQ):bX:=fun vs H Q _=>∃ k aT az aQ s c n ds rows,vs=[.ref k]/\eD t H k aT az aQ s/\gV P w t H aT c n ds rows/\(∀ d ∈ ds,told rows d.name=true)/\Dc rows s/\aI H/\∀ p I,aN H I->aI I->H p=none->I p=some (.a5 (hF ds (gR n ds rows s)))->Q (.ref p) I
theorem K':cv P base T 4 t.yc t.Dk ["self"] (RU P w t):=by
 refine cB (On T) fun m4=>cB (akM T) fun ada=>cB (ajD T) fun Yw=>?_;exists T.Do.ok Gw,9
 obtain ⟨k,aT,az,aQ,aj,c,n,ds,rows,rfl,f',dR,mX,afA,bG,q⟩:=h;have bt:=gT ao;obtain ⟨_,ar,b2,di,eB⟩:=id f';obtain ⟨jY,le,mo,c8,cU,aS,ch,ms,kvs,aw,C,_⟩:=id dR;obtain ⟨⟨ff,fq⟩,za,wl,aH,bZ,_,_⟩:=id C;refine ⟨_,(aP (cg (i:=1) Gw.aH q7)
   (aP (fp fj rfl (eS (gw (bx (bx (U 0) rfl) rfl) T.gZ T.sO m4 ao T.su .nil cj)) (cu (i:=2) Gw.aH) (a6 (mf bt (U 1) (U 2) (vq (du PN (bx (U 0) rfl) r8 (cR _)) (Gc (U 0) T.eN T.agr ada ao T.adP .nil cj (ai (U 2) aE)) (Gc (U 0) T.eN T.agF Yw ao T.ahJ .nil cj (ai (U 2) aE))) rfl)))
   (a6 (cz (U 1))))),?_⟩
 exists (fun ax I=>aN H I/\aI I/\∃ hy,H hy=none/\I hy=some (.a5 [])/\ax=[~~~k,~~~hy,none]),4
 .nofun;exact fun hy uX=>cC _ _ ⟨bf uX,bG.upd,hy,uX,db,rfl⟩
 rintro gf H1 ⟨s1,b9,hy,uX,dJ,rfl⟩;subst aV;nofun;refine ⟨_,jA T (s1 _ _ b2),_,rfl,_,A7 T (s1 _ _ aw),_,rfl,_,_,s1 _ _ bZ,iR _ _ _ (by ac_nf),c,n,ds,rfl,C.same s1,fun da hc=>⟨da,rfl,⟨_,aF.of db⟩,?_⟩⟩;refine dY.list (xs:=aX (ds.map (·.name))) (fun i σ I=>aN H I/\aI I/\I da=some (.lst (aX (ds.map (·.name))))/\I hy=some (.a5 (hF (ds.take i) (gR n ds rows aj)))/\∃ y,σ=[~~~k,~~~hy,y]) ?_ ?_ ?_ ?_
 .exact ⟨s1.trans (bf hc),b9.upd,db,(bf hc) _ _ dJ,_,rfl⟩
 .rintro i σ I ah bb;ac_rfl
  obtain ⟨_,_,h,_⟩:=bb;subst aV;exact aF.of h
 .rintro i v σ I aJ bb;ac_rfl
  obtain ⟨s2,ck,Hf,vI,y,rfl⟩:=bb;obtain ⟨x,ag,rfl⟩:=cm aJ;obtain ⟨d,hd,rfl⟩:=cm ag;have EI:=cQ hd;have hlen:(hF (ds.take i) (gR n ds rows aj)).length <= 12:=by unfold hF;rw [aO,gK];omega
  have CQ:upd I hy (.a5 (ci (hF (ds.take i) (gR n ds rows aj)) (bD d.name) (.str (gR n ds rows aj d)))) da=some (.lst (aX (ds.map (·.name)))):=by
   rw [aA (br Hf vI (by intro z;cases z))];exact Hf
  have Cy:upd I hy (.a5 (ci (hF (ds.take i) (gR n ds rows aj)) (bD d.name) (.str (gR n ds rows aj d)))) hy=some (.a5 (hF (ds.take (i + 1)) (gR n ds rows aj))):=by
   rw [db,ahL (f:=gR n ds rows aj) ff hd]
  subst aV;nofun;refine ⟨_,q9 T (s2 _ _ b2),?_⟩;cases gG:aj.c2 with
  | some Ej=>
   have KG:gR n ds rows aj d=u1 rows Ej d.name:=by unfold gR;rw [gG]
   rw [KG] at CQ Cy;rw [if_pos (by rfl)];exact ⟨_,_,s2 _ _ b2,Op _ _ _ _ _ _ _ _ (by ac_nf),k,aT,az,aQ,aj,Ej,c,n,ds,rows,d,rfl,f'.same s2,gG,dR.same s2,mX d EI,_,hC.k (k:=bD d.name) vI (f5 hlen (by decide)),s2.gW uX,ck.upd,CQ,Cy,_,rfl⟩
  | none=>
   have KG:gR n ds rows aj d=t_ n ds rows aj d:=by unfold gR;rw [gG]
   rw [KG] at CQ Cy;obtain ⟨g1,g2,g3⟩:=afA gG;rw [if_neg (by intro z;cases z)];exact ⟨_,_,s2 _ _ b2,Op _ _ _ _ _ _ _ _ (by ac_nf),k,aT,az,aQ,aj,c,n,ds,rows,i,d,rfl,f'.same s2,dR.same s2,mX d EI,hd,g1,g2,g3,ck,_,hC.k (k:=bD d.name) vI (f5 hlen (by decide)),s2.gW uX,ck.upd,CQ,Cy,_,rfl⟩
 .rintro σ I bb;ac_rfl
  obtain ⟨s2,ck,Hf,vI,y,rfl⟩:=bb;have jg:(aX (ds.map (·.name))).length=ds.length:=by unfold aX;simp
  subst aV;rw [jg,hB] at vI;nofun;exact q hy I s2 ck uX vI
theorem dg.Pa (hf:H d=some (.dx o (.a5 kvs))) (aW:kvs.length <= sizeLine) (he:zs.length=kvs.length)
  (aB:∀ (i:Nat) (k:Key) (v z:V) (N:V->au->Prop),kvs[i]? = some (k,v)->zs[i]? = some z->N z H->g (c9 k) dG H fun cn av=>Sub dG cn/\bV cn av N) (hd:∀ p,H p=none->Q (.ref p) (upd H p (.lst zs))):dg (F6 d o kvs) g pZ bV dG Q H:=by
 refine dg.of (n:=kvs.length) (fun i ys I=>I=H/\ys=zs.take i) aW ⟨rfl,rfl⟩ (fun i ys I ah ⟨fJ,_⟩=>by subst fJ;exact ⟨hf,ah⟩) (fun ys I ⟨fJ,_⟩=>by subst fJ;exact ⟨hf,bR _⟩) (fun i ys I ah ⟨_,e⟩=>by rw [e,gK];omega) (fun i ys I x av ah ⟨aw,aG⟩ y=>?_) (fun ys I ⟨aw,aG⟩ p aq=>?_)
 .obtain ⟨bS,k,v,aC,er⟩:=y;subst aw bS er;intro N bu;have fR:i < zs.length:=by omega
  have gY:zs[i]? = some zs[i]:=bo fR;exact aB i k v zs[i] (fun y b5=>N (ys ++ [y]) b5) aC gY (bu _ _ ⟨rfl,by rw [aG,pw,gY];rfl⟩)
 .subst aw;rw [aG,<- he,hB];exact hd p aq
noncomputable def yK (ds:List bl) (rows:List ST) (x:Str):Str:=(((lx rows x).bind fun j=>rows[j]?).map (dQ ds)).getD (ab "")
noncomputable def BA (ds:List bl) (rows:List ST) (xs:List Str):Bool:=xs.any fun x=>decide (yK ds rows x=eb)
section
variable (P:Program) (w:World)
def abZ (t:bQ):bX:=fun vs H Q _=>∃ bU k aT az aQ s c n ds rows,vs=[.ref k]/\eD t H k aT az aQ s/\gV P w t bU aT c n ds rows/\aN bU H/\bU az=none/\(∀ x ∈ s.wt,told rows x=true)/\s.wt.length <= 12/\∀ I,aN H I->(aI H->aI I)->Q (.bB (BA ds rows s.wt)) I
end
theorem adi:cv P base T 1 t.Ai t.Le ["self"] (abZ P w t):=by
 exists T.Pi.ok ab8,9
 obtain ⟨bU,k,aT,az,aQ,aj,c,n,ds,rows,rfl,⟨_,ar,b2,di,eB⟩,dR,s0,fZ,cZ,aK,q⟩:=h;obtain ⟨jY,le,mo,c8,cU,aS,ch,ms,kvs,aw,C,bS,er,gh,dZ,hE,j7,kH⟩:=id dR;have bt:=gT ao;refine ⟨_,(a6 (cz (gi (amt rfl) rfl T.ag8 aew (ai (akg (ij rfl (Ee (bx (U 0) rfl)) (g0 (sc:=bE JN) rfl (by ac_nf)) (N:=uz) (sel:=[none,some 0]) (gO (M:=["self"]) (by ac_nf)) (fP.of (fun _ _ _ _=>(cu (i:=0) (eJ (N:=uz) (by ac_nf) rfl))) (fun _ _ _ _=>⟨_,i0,by walk_at "B"⟩) (fun _ _ _ _=>⟨_,(ie fA (cE ed (bx (bx (U 1) rfl) rfl) (jM bt (bx (bx (U 1) rfl) rfl) (U 0) (fun _ _=>rfl))) dD (cR _)),by walk_at "B"⟩)))) aE)))),?_⟩;nofun;refine ⟨az,_,di,_,wc T b2,_,rfl,_,di,fun o=>?_⟩;have gu:(gs aj.wt).length=aj.wt.length:=by unfold gs;rw [aO]
 have lW:aN bU (upd H az (.dx o (.a5 (gs aj.wt)))):=fun b u e=>by rw [aA (dj e fZ)];exact s0 _ _ e
 have zP:(upd H az (.dx o (.a5 (gs aj.wt)))) k=some (.ins t.dd ar (fv aT (pT aj.c2) aj.bA aj.lf aj.bL aj.dr az aQ)):=by rw [aA (br b2 di (by intro z;cases z))];exact b2
 have n2:(upd H az (.dx o (.a5 (gs aj.wt)))) az=some (.dx o (.a5 (gs aj.wt))):=db;refine dg.Pa (zs:=(aj.wt.map fun x=>decide (yK ds rows x=eb)).map V.bB) n2 (by rw [gu];exact c7 aK (by decide)) (by rw [aO,aO,gu]) (fun i abT v z N aC aW bu=>?_) (fun p aq=>?_)
 .unfold gs at aC;obtain ⟨x,ag,ex⟩:=cm aC;cases ex;obtain ⟨b,aa,rfl⟩:=cm aW;obtain ⟨fH,d_,rfl⟩:=cm aa;rw [ag] at d_;cases d_;obtain ⟨j,r,aL,gP,kr,_⟩:=ql (cZ x (cQ ag));have aB:yK ds rows x=dQ ds r:=by unfold yK;rw [gP,yL,kr];rfl
  rw [aB] at bu;have bj:=fm.k (k:=bD x) (lW _ _ hE);rw [aL] at bj;nofun;refine ⟨Sub.name,_,jA T zP,_,rfl,_,io T (lW _ _ aw),_,jA T zP,_,rfl,_,Bp T (lW _ _ aw),_,rfl,_,bj,_,rfl,_,_,rfl,aF.of (lW _ _ dZ),_,cy (sC (by rw [dO,kr];rfl)),rfl,?_⟩;rw [show decide (V.str (dQ ds r)=V.str (ab "trams"))=decide (dQ ds r=eb) from decide_eq_decide.mpr ⟨fun z=>by injection z,fun z=>by rw [z]⟩];exact bu
 .have hM:p ≠ az:=fun z=>by rw [z,n2] at aq;cases aq
  have Bb:H p=none:=by rw [aA hM] at aq;exact aq
  refine ⟨o,by rw [aA (cX hM)];exact n2,p,rfl,_,aF.of (by rw [aA hM];exact db),?_⟩;have he:((aj.wt.map fun x=>decide (yK ds rows x=eb)).any id)=BA ds rows aj.wt:=by unfold BA;rw [ae1];rfl
  rw [he];refine q _ (fun b u e=>?_) (fun z=>((z.upd).upd).upd);by_cases cO:b=az
  .subst cO;rw [di] at e;cases e;exact db
  .rw [aA cO,aA (dj e Bb),aA cO];exact e
noncomputable def si (ds:List bl) (rows:List ST) (s:fK) (r:ST) (own:Bool):Bool:=s.wt.isEmpty || decide (s.bA < r.lo) || (decide (s.bA < r.ah) && own && !BA ds rows s.wt)
def aiA (P:Program) (w:World) (t:bQ):bX:=fun vs H Q _=>∃ bU k aT az aQ s c n ds rows,∃ i:Nat,∃ r own,vs=[.ref k,.bB own]/\eD t H k aT az aQ s/\s.c2=some i/\rows[i]? = some r/\gV P w t bU aT c n ds rows/\aN bU H/\bU az=none/\(∀ x ∈ s.wt,told rows x=true)/\s.wt.length <= 12/\∀ I,aN H I->(aI H->aI I)->Q (.bB (si ds rows s r own)) I
theorem aaj:cv P base T 2 t.Bj t.LS rF (aiA P w t):=by
 refine cB (adi T) fun ahZ=>?_;exists T.P_.ok afy,9
 obtain ⟨bU,k,aT,az,aQ,aj,c,n,ds,rows,i,r,own,rfl,f',gG,jz,dR,s0,fZ,cZ,aK,q⟩:=h;obtain ⟨_,ar,b2,di,eB⟩:=id f';obtain ⟨jY,le,mo,c8,cU,aS,ch,ms,kvs,aw,C,bS,er,gh,dZ,hE,j7,kH⟩:=id (dR.same s0);have bt:=gT ao;have lZ:=b2;rw [gG] at lZ;refine ⟨_,(aP (en (iC.pt (sv (xY (D6 (bx (U 0) rfl) (fun _=>rfl))) (t9 (du lV (bx (U 0) rfl) (cE ed (bx (bx (U 0) rfl) rfl) (bx (U 0) rfl)) (cR _))))) (a6 (cz ox)) fe)
   (a6 (cz (y9 (ie lV (bx (U 0) rfl) (cE ed (bx (bx (U 0) rfl) rfl) (bx (U 0) rfl)) (cR _)) (y9 (U 1) (u7 (Uu (gw (U 0) T.eN T.aaT ahZ ao T.ad8 .nil cj)))))))),?_⟩
 simp only [dT];refine Db (fun ax I=>I=H/\(aj.wt.isEmpty || decide (aj.bA < r.lo))=false/\ax=[~~~k,some (.bB own)]) (fun gm cM nu _ _=>?_) ?_
 .refine eg (aj.wt.isEmpty || decide (aj.bA < r.lo)) (fun kL a9=>?_) (fun aa=>?_) (fun aa=>?_)
  .nofun;refine ⟨_,wc T b2,!aj.wt.isEmpty,.inr (.inr ⟨_,di,?_⟩),?_⟩
   .cases aj.wt <;> rfl
   .cases yu:aj.wt.isEmpty with
    | true=>
     rw [yu] at a9;exact a9
    | false=>
     rw [yu,lF] at a9;exact ⟨_,Ue T b2,_,jA T b2,_,rfl,_,ae3 T aw,_,q9 T lZ,_,rfl,_,_,rfl,aF.of bS,_,cy (by rw [dO,jz];rfl),_,rfl,_,rfl,a9⟩
  .nofun;rw [nu];have:=q H (aN.refl H) (fun z=>z);unfold si at this;rw [aa,tI] at this;exact this
  .simp only [jf];exact cM _ _ ⟨rfl,aa,rfl⟩
 rintro gf H1 ⟨rfl,aa,rfl⟩;unfold si at q;rw [aa] at q;nofun;refine ⟨_,Ue T b2,_,jA T b2,_,rfl,_,agG T aw,_,q9 T lZ,_,rfl,_,_,rfl,aF.of er,_,cy (by rw [dO,jz];rfl),_,rfl,_,rfl,?_⟩;by_cases cO:aj.bA < r.ah
 .rw [if_pos (decide_eq_true cO)];rw [decide_eq_true cO,mA,lF] at q;cases own with
  | true=>
   rw [if_pos rfl];rw [mA] at q;exact ⟨_,_,b2,Op _ _ _ _ _ _ _ _ (by ac_nf),bU,k,aT,az,aQ,aj,c,n,ds,rows,rfl,f',dR,s0,fZ,cZ,aK,fun I s1 b9=>⟨_,rfl,q I s1 b9⟩⟩
  | false=>
   rw [if_neg fY];rw [nJ] at q;exact q _ (aN.refl _) (fun z=>z)
 .rw [if_neg (by simpa using cO)];rw [decide_eq_false cO,nJ,nJ,lF] at q;exact q _ (aN.refl _) (fun z=>z)
noncomputable def oO (n:Int) (ds:List bl) (rows:List ST) (s:fK) (m:List Str):fK:=if s.dr < q5 n ds rows s.lf s.bL then s else { s with c2:=some s.bL,bA:=1,wt:=s.wt.filter fun x=>!decide (x ∈ m) }
theorem anB (ys:List Str) (x:Str):q3 (gs ys) (bD x)=gs (ys.filter fun y=>decide (y ≠ x)):=by
 unfold q3 gs;rw [List.filter_map];congr 1;refine ain fun y _=>?_
 show decide ((bD y:Key) ≠ bD x)=decide (y ≠ x);exact decide_eq_decide.mpr ⟨fun z e=>z (by rw [e]),fun z e=>z (qx e)⟩
theorem WP {ms wt:List Str} {x:Str} (ag:ms[i]? = some x):(wt.filter fun y=>!decide (y ∈ ms.take (i + 1)))=(wt.filter fun y=>!decide (y ∈ ms.take i)).filter fun y=>decide (y ≠ x):=by
 rw [iH ag,List.filter_filter];refine ain fun y _=>?_
 rw [lp];simp;exact ⟨fun z=>⟨z.2,z.1⟩,fun z=>⟨z.2,z.1⟩⟩
def ah5 (P:Program) (w:World) (t:bQ):bX:=fun vs H Q _=>∃ bU k aT az aQ s c n ds rows r,vs=[.ref k]/\eD t H k aT az aQ s/\gV P w t bU aT c n ds rows/\aN bU H/\bU k=none/\bU az=none/\bU aQ=none/\s.lf < rows.length/\rows[s.bL]? = some r/\s.lf ≠ s.bL/\r.mem.length <= 12/\aI H/\∀ I,hj k az aQ H I->aI I->eD t I k aT az aQ (oO n ds rows s r.mem)->Q .b' I
theorem W7:cv P base T 2 t.C4 t.G1 ["self"] (ah5 P w t):=by
 refine cB (TS T) fun JS=>?_;exists T.ii.ok PC,9
 obtain ⟨bU,k,aT,az,aQ,aj,c,n,ds,rows,r,rfl,f',dR,s0,h4,fZ,gc,pY,jz,cx,nj,bG,q⟩:=h;obtain ⟨c5,ar,b2,di,eB⟩:=id f';obtain ⟨jY,le,mo,c8,cU,aS,ch,ms,kvs,aw,C,bS,er,gh,dZ,hE,j7,kH⟩:=id (dR.same s0);have bt:=gT ao;refine ⟨_,(aP (en (du lV (bx (U 0) rfl) (cH JS ao T.OB T.D_.bJ T.Ou (ai (bx (U 0) rfl) (ai (bx (U 0) rfl) (ai (bx (U 0) rfl) aE)))) (cR _)) (a6 ahS) fe)
   (aP (eF (U 0) (bx (U 0) rfl) rfl)
   (aP (eF (U 0) aM rfl)
   (a6 (fp fj rfl (eS (cE ed (bx (bx (U 0) rfl) rfl) (bx (U 0) rfl))) (cu (i:=1) PC.aH) (a6 (eo (abG (bx (U 0) rfl) (U 1) r8 ⟨rfl,rfl,rfl,rfl⟩)))))))),?_⟩
 simp only [dT];refine Db (fun ax I=>I=H/\¬ aj.dr < q5 n ds rows aj.lf aj.bL/\ax=[~~~k,none]) (fun gm cM nu _ _=>?_) ?_
 .refine eg (decide (aj.dr < q5 n ds rows aj.lf aj.bL)) (fun kL a9=>?_) (fun aa=>?_) (fun aa=>?_)
  .nofun;refine ⟨_,KA T b2,_,jA T b2,_,KO T b2,_,xl T b2,aT,c,n,ds,rows,aj.lf,aj.bL,_,_,rfl,dR.same s0,bo pY,jz,cx,bG,fun v aJ=>⟨_,rfl,_,rfl,?_⟩⟩;rw [VO (bo pY) jz aJ] at a9;exact a9
  .nofun;rw [nu];refine q H (hj.of (aN.refl H)) bG ?_;unfold oO;rw [if_pos (of_decide_eq_true aa)];exact f'
  .simp only [jf];exact cM _ _ ⟨rfl,of_decide_eq_false aa,rfl⟩
 rintro gf H1 ⟨rfl,aa,rfl⟩;unfold oO at q;rw [if_neg aa] at q;simp only [dT];exists (fun ax I=>hj k az aQ H1 I/\aI I/\eD t I k aT az aQ { aj with c2:=some aj.bL }/\ax=[~~~k,none]),2
 .nofun;refine ⟨_,xl T b2,_,_,_,b2,T.eN,T.A_,by rw [<- aO (f:=(·.1)),ce];decide,?_⟩;rw [Pf];exact cM _ _ ⟨fun b u af _ _ e=>by rw [aA af];exact e,bG.upd,⟨c5,ar,db,by rw [aA (br di b2 (by intro z;cases z))];exact di,by rw [aA (br eB b2 (by intro z;cases z))];exact eB⟩,rfl⟩
 rintro cn av ⟨e1,ck,⟨_,tg,a1,a2,fM⟩,rfl⟩;subst aV;simp only [dT];exists (fun ax I=>hj k az aQ H1 I/\aI I/\eD t I k aT az aQ { aj with c2:=some aj.bL,bA:=1 }/\ax=[~~~k,none]),2
 .nofun;refine ⟨_,_,_,a1,T.eN,T.z9,by rw [<- aO (f:=(·.1)),ce];decide,?_⟩;rw [Wl];exact cM _ _ ⟨fun b u af ak bc e=>by rw [aA af];exact e1 _ _ af ak bc e,ck.upd,⟨c5,tg,db,by rw [aA (br a2 a1 (by intro z;cases z))];exact a2,by rw [aA (br fM a1 (by intro z;cases z))];exact fM⟩,rfl⟩
 rintro fT bk ⟨fh,dy,Dt,rfl⟩;obtain ⟨_,Wh,hi,gD,m7⟩:=id Dt;have s3:aN bU bk:=fh.x5 s0 h4 fZ gc;obtain ⟨aqz,apK,aqE,aoa,vr,rn,apI,p0,aoF,vB,_,_,_,Sg,_⟩:=id dR;have f1:=s3 _ _ vB;have e7:=Sg.same s3;have Oj:(rows.map (·.mem))[aj.bL]? = some r.mem:=by rw [dO,jz];rfl
 have ye:aj.bL < p0.length:=by rw [e7.ln];exact (cb.mp Oj).1
 have hm:=bo ye;have Tv:=Sg.al _ _ _ hm Oj;have em:=s3 _ _ Tv;subst aV;nofun;refine ⟨_,jA T hi,_,rfl,_,FV T f1,_,xl T hi,_,rfl,_,_,rfl,aF.of e7.at_,_,cy (by rw [dO,hm];rfl),_,rfl,⟨_,aF.of em⟩,?_⟩;refine dY.list (xs:=aX r.mem) (fun i σ I=>hj k az aQ H1 I/\aI I/\eD t I k aT az aQ { aj with c2:=some aj.bL,bA:=1,wt:=aj.wt.filter fun y=>!decide (y ∈ r.mem.take i) }/\∃ y,σ=[~~~k,y]) ?_ ?_ ?_ ?_
 .refine ⟨fh,dy,?_,_,rfl⟩;rw [show (aj.wt.filter fun y=>!decide (y ∈ r.mem.take 0))=aj.wt by simp];exact Dt
 .rintro i σ I ah bb;ac_rfl
  obtain ⟨dw,_,_,_⟩:=bb;subst aV;exact aF.of (dw.x5 s0 h4 fZ gc _ _ Tv)
 .rintro i v σ I aJ bb;ac_rfl
  obtain ⟨dw,df,⟨_,vu,bZ,ct,oD⟩,y,rfl⟩:=bb;subst aV;unfold aX at aJ;obtain ⟨x,ag,rfl⟩:=cm aJ;have M1:=WP (wt:=aj.wt) ag;nofun;refine ⟨_,wc T bZ,_,rfl,.inl ⟨_,.inl ct⟩,_,ct,bD x,rfl,fun v aJ=>?_,fun aJ=>?_⟩
  .refine ⟨fun b u af ak bc e=>by rw [aA ak];exact dw _ _ af ak bc e,df.upd,?_,_,rfl⟩;refine ⟨c5,vu,by rw [aA (br bZ ct (by intro z;cases z))];exact bZ,?_,by rw [aA (cX c5)];exact oD⟩;rw [db,anB,<- M1]
  .refine ⟨dw,df,?_,_,rfl⟩;have ob:x ∉ aj.wt.filter fun y=>!decide (y ∈ r.mem.take i):=fun z=>by
    have:=Yn (aj.wt.filter fun y=>!decide (y ∈ r.mem.take i)) x;rw [aJ,decide_eq_true z] at this;cases this
   have l9:(aj.wt.filter fun y=>!decide (y ∈ r.mem.take i)).filter (fun y=>decide (y ≠ x))=aj.wt.filter fun y=>!decide (y ∈ r.mem.take i):=List.filter_eq_self.mpr fun y aY=>decide_eq_true (show y ≠ x from fun z=>ob (by rw [<- z];exact aY))
   rw [M1,l9];exact ⟨c5,vu,bZ,ct,oD⟩
 .rintro σ I bb;ac_rfl
  obtain ⟨dw,df,tH,y,rfl⟩:=bb;subst aV;rw [fz,hB] at tH;nofun;exact q I dw df tH
noncomputable def zx (s:fK) (i j:Nat) (cU:Str):fK:={ s with c2:=none,lf:=i,bL:=j,dr:=0,pt:=if cU=eb then (j:Int) else s.pt,po:=if cU=eb then s.po else (j:Int) }
def aiB (P:Program) (w:World) (t:bQ):bX:=fun vs H Q _=>∃ bU k aT az aQ s c n ds rows,∃ i j:Nat,∃ r,vs=[.ref k,.int (j:Nat)]/\eD t H k aT az aQ s/\s.c2=some i/\gV P w t bU aT c n ds rows/\aN bU H/\bU k=none/\bU az=none/\bU aQ=none/\i < rows.length/\rows[j]? = some r/\i ≠ j/\r.mem.length <= 12/\(dQ ds r=eb\/dQ ds r=kJ)/\aI H/\∀ I,hj k az aQ H I->aI I->eD t I k aT az aQ (oO n ds rows (zx s i j (dQ ds r)) r.mem)->Q .b' I
theorem YF:cv P base T 3 t.CO t.Kj zz (aiB P w t):=by
 refine cB (W7 T) fun MJ=>?_;exists T.Px.ok akZ,9
 obtain ⟨bU,k,aT,az,aQ,aj,c,n,ds,rows,i,j,r,rfl,f',gG,dR,s0,h4,fZ,gc,g4,hS,oQ,nj,lh,bG,q⟩:=h;obtain ⟨c5,ar,b2,di,eB⟩:=id f';obtain ⟨jY,le,mo,c8,cU,aS,ch,ms,kvs,aw,C,bS,er,gh,dZ,hE,j7,kH⟩:=id (dR.same s0);have bt:=gT ao;refine ⟨_,(aP (mf bt (bx (U 0) rfl) (cE ed (bx (bx (U 0) rfl) rfl) (U 1)) (U 1) rfl)
   (aP (eF (U 0) (bx (U 0) rfl) rfl)
   (aP (eF (U 0) (U 1) rfl)
   (aP (eF (U 0) aM rfl)
   (aP (eF (U 0) r8 rfl)
   (a6 (eo (gw (U 0) T.eN T.S' MJ ao T.PB .nil cj)))))))),?_⟩
 exists (fun ax I=>hj k az aQ H I/\aI I/\eD t I k aT az aQ { aj with pt:=if dQ ds r=eb then (j:Int) else aj.pt,po:=if dQ ds r=eb then aj.po else (j:Int) }/\ax=[~~~k,some (.int (j:Nat))]),5
 .nofun;refine ⟨_,Gv T b2,_,jA T b2,_,rfl,_,io T aw,_,rfl,_,aF.of dZ,_,cy (sC (by rw [dO,hS];rfl)),_,rfl,_,hC.k (k:=bD (dQ ds r)) eB (f5 (show (lM aj.pt aj.po).length <= 2 from bR 2) (by decide)),cM _ _ ⟨fun b u _ _ bc e=>by rw [aA bc];exact e,bG.upd,⟨c5,ar,by rw [aA (br b2 eB (by intro z;cases z))];exact b2,by rw [aA c5];exact di,by rw [db,UT lh]⟩,rfl⟩⟩
 rintro gf H1 ⟨cp,b9,⟨_,ec,a1,hi,bZ⟩,rfl⟩;have Qp:=a1;subst aV;rw [show ({ aj with pt:=if dQ ds r=eb then (j:Int) else aj.pt,po:=if dQ ds r=eb then aj.po else (j:Int) }:fK).c2=some i from gG] at Qp;exists (fun ax I=>hj k az aQ H I/\aI I/\eD t I k aT az aQ { aj with pt:=if dQ ds r=eb then (j:Int) else aj.pt,po:=if dQ ds r=eb then aj.po else (j:Int),lf:=i }/\ax=[~~~k,some (.int (j:Nat))]),5
 .nofun;refine ⟨_,q9 T Qp,_,_,_,a1,T.eN,T.GU,by rw [<- aO (f:=(·.1)),ce];decide,?_⟩;rw [show pT (some i)=V.int (i:Nat) from rfl,Yl];exact cM _ _ ⟨fun b u af ak bc e=>by rw [aA af];exact cp _ _ af ak bc e,b9.upd,⟨c5,ec,db,by rw [aA (br hi a1 (by intro z;cases z))];exact hi,by rw [aA (br bZ a1 (by intro z;cases z))];exact bZ⟩,rfl⟩
 rintro cn av ⟨e1,ck,⟨_,eX,a2,gD,ct⟩,rfl⟩;subst aV;exists (fun ax I=>hj k az aQ H I/\aI I/\eD t I k aT az aQ { aj with pt:=if dQ ds r=eb then (j:Int) else aj.pt,po:=if dQ ds r=eb then aj.po else (j:Int),lf:=i,bL:=j }/\ax=[~~~k,some (.int (j:Nat))]),5
 .nofun;refine ⟨_,_,_,a2,T.eN,T.KJ,by rw [<- aO (f:=(·.1)),ce];decide,?_⟩;rw [afV];exact cM _ _ ⟨fun b u af ak bc e=>by rw [aA af];exact e1 _ _ af ak bc e,ck.upd,⟨c5,eX,db,by rw [aA (br gD a2 (by intro z;cases z))];exact gD,by rw [aA (br ct a2 (by intro z;cases z))];exact ct⟩,rfl⟩
 rintro fT bk ⟨fh,dy,⟨_,qw,fM,m7,oD⟩,rfl⟩;subst aV;exists (fun ax I=>hj k az aQ H I/\aI I/\eD t I k aT az aQ { aj with pt:=if dQ ds r=eb then (j:Int) else aj.pt,po:=if dQ ds r=eb then aj.po else (j:Int),lf:=i,bL:=j,dr:=0 }/\ax=[~~~k,some (.int (j:Nat))]),5
 .nofun;refine ⟨_,_,_,fM,T.eN,T.Cs,by rw [<- aO (f:=(·.1)),ce];decide,?_⟩;rw [Qk];exact cM _ _ ⟨fun b u af ak bc e=>by rw [aA af];exact fh _ _ af ak bc e,dy.upd,⟨c5,qw,db,by rw [aA (br m7 fM (by intro z;cases z))];exact m7,by rw [aA (br oD fM (by intro z;cases z))];exact oD⟩,rfl⟩
 rintro kj b5 ⟨dw,df,⟨_,p1,lP,oh,xi⟩,rfl⟩;subst aV;exists (fun ax I=>hj k az aQ H I/\aI I/\eD t I k aT az aQ { aj with pt:=if dQ ds r=eb then (j:Int) else aj.pt,po:=if dQ ds r=eb then aj.po else (j:Int),lf:=i,bL:=j,dr:=0,c2:=none }/\ax=[~~~k,some (.int (j:Nat))]),5
 .nofun;refine ⟨_,_,_,lP,T.eN,T.A_,by rw [<- aO (f:=(·.1)),ce];decide,?_⟩;rw [Pf];exact cM _ _ ⟨fun b u af ak bc e=>by rw [aA af];exact dw _ _ af ak bc e,df.upd,⟨c5,p1,db,by rw [aA (br oh lP (by intro z;cases z))];exact oh,by rw [aA (br xi lP (by intro z;cases z))];exact xi⟩,rfl⟩
 rintro n4 cP ⟨ey,e6,qt,rfl⟩;obtain ⟨_,anH,agh,_,_⟩:=id qt;subst aV;nofun;exact ⟨_,_,agh,Op _ _ _ _ _ _ _ _ (by ac_nf),bU,k,aT,az,aQ,_,c,n,ds,rows,r,rfl,qt,dR,ey.x5 s0 h4 fZ gc,h4,fZ,gc,g4,hS,oQ,nj,e6,fun I fH g9 sP=>q I (ey.trans fH) g9 sP⟩
noncomputable abbrev alc:Str:=ab "Keeper.pick" ++ ab ".<locals>." ++ ab "<lambda>"
theorem ZA:zw "number" "many" "last" (ai4 (PA uQ)):=⟨rfl,rfl,rfl,by ac_nf,rfl,rfl,rfl,by ac_nf,by ac_nf⟩
noncomputable abbrev j5 (Pt:Addr) (H:au):Prop:=Tab H Pt (aka (PA uQ)) alc
noncomputable def il (ds:List bl) (rows:List ST) (j:Nat):Str:=((rows[j]?).map (dQ ds)).getD (ab "")
noncomputable def uD (rows:List ST) (x:Str):Nat:=(lx rows x).getD 0
noncomputable def mO (rows:List ST) (s:fK):List Nat:=s.wt.map (uD rows)
noncomputable def uu (ds:List bl) (rows:List ST) (s:fK) (i:Nat):List Nat:=(mO rows s).filter fun j=>!decide (il ds rows j=il ds rows i)
noncomputable def i4 (ds:List bl) (rows:List ST) (s:fK) (i:Nat):List Nat:=if (uu ds rows s i).isEmpty then mO rows s else uu ds rows s i
noncomputable def p6 (ds:List bl) (rows:List ST) (s:fK) (ch:List Nat):Int:=if il ds rows (ch.headD 0)=eb then s.pt else s.po
noncomputable def pJ (last many m:Int):Int:=(m - last - 1) % many
def OJ (ds:List bl) (rows:List ST) (s:fK) (i j:Nat):Prop:=j ∈ i4 ds rows s i/\∀ iU ∈ i4 ds rows s i,pJ (p6 ds rows s (i4 ds rows s i)) rows.length j <= pJ (p6 ds rows s (i4 ds rows s i)) rows.length iU
def ae9 (P:Program) (w:World) (t:bQ) (Pt:Addr):bX:=fun vs H Q _=>∃ bU k aT az aQ s c n ds rows,∃ i:Nat,vs=[.ref k]/\eD t H k aT az aQ s/\s.c2=some i/\i < rows.length/\gV P w t bU aT c n ds rows/\aN bU H/\bU az=none/\(∀ x ∈ s.wt,told rows x=true)/\s.wt ≠ []/\s.wt.length <= 12/\(∀ r ∈ rows,dQ ds r=eb\/dQ ds r=kJ)/\j5 Pt H/\aI H /\
 ∀ (j:Nat) I,lO Pt H I->aI I->j5 Pt I->OJ ds rows s i j->Q (.int j) I
theorem aia {rows:List ST} {x:Str} (h:told rows x=true):uD rows x < rows.length:=by
 obtain ⟨j,r,aL,aC,kr,_⟩:=ql h;unfold uD;rw [aC];exact (cb.mp kr).1
theorem Lq {rows:List ST} (h:∀ x ∈ s.wt,told rows x=true):∀ j ∈ mO rows s,j < rows.length:=fun j aL=>by
 obtain ⟨x,ag,rfl⟩:=cw.mp aL;exact aia (h x ag)
theorem Ct {rows:List ST} (h:∀ x ∈ s.wt,told rows x=true):∀ j ∈ i4 ds rows s i,j < rows.length:=fun j aL=>by
 unfold i4 at aL;split at aL
 .exact Lq h j aL
 .exact Lq h j (lE.mp aL).1
theorem Vb {rows:List ST} (h:s.wt ≠ []):i4 ds rows s i ≠ []:=by
 unfold i4;split
 .unfold mO;simpa using h
 .rename_i af;simpa using af
theorem Ih {rows:List ST} (h:j < rows.length):(rows.map (dQ ds))[j]? = some (il ds rows j):=by
 unfold il;rw [dO,bo h];rfl
noncomputable def ky (EC:List Nat):List V:=EC.map fun j=>V.int (j:Nat)
theorem amd (EC:List Nat):ky EC=oJ V.int (EC.map fun j=>((j:Nat):Int)):=by
 unfold ky;rw [nr];rfl
theorem NL (p:Nat->Bool):∀ xs:List Nat,((xs.map fun x=>if p x=true then some (V.int (x:Nat)) else none).flatMap DP)=ky (xs.filter p)
 | []=>rfl
 | x :: xs=>by
  rw [eu,yg,NL p xs];cases h:p x <;> simp [ky,h]
theorem aeT (cV:pL base t.q8 Pt) (iD:base.BuiltinsAt mg Pt):cv P base T 2 t.AR t.A1 ["self"] (ae9 P w t Pt):=by
 have ait:=T.ahk;refine T.PH.ans tn (fun vs H Q E h=>?_) (fun fU kN A outer s H vs Q E ao h=>?_)
 .obtain ⟨bU,k,aT,az,aQ,aj,c,n,ds,rows,i,rfl,_⟩:=h;rfl
 obtain ⟨bU,k,aT,az,aQ,aj,c,n,ds,rows,i,rfl,⟨c5,ar,b2,di,eB⟩,gG,g4,dR,s0,fZ,cZ,cx,aK,lh,bT,bG,q⟩:=h;obtain ⟨jY,le,mo,c8,cU,aS,ch,ms,kvs,aw,C,bS,er,gh,dZ,hE,j7,kH⟩:=id dR;have bt:=gT ao;refine ⟨_,(aP (BD (Cc (i:=1) tn.aH rfl (mx rfl) rfl (Ee (bx (U 0) rfl)) (g0 (sc:=bE uQ) rfl (by ac_nf)) (N:=uz) (sel:=[none,some 0]) (gO (M:=Jk) (by ac_nf)) (fP.of (fun _ _ _ _=>(cu (i:=0) (eJ (N:=uz) (by ac_nf) rfl))) (fun _ _ _ _=>⟨_,i0,by walk_at "B"⟩) (fun _ _ _ _=>⟨_,(jM bt (bx (bx (U 1) rfl) rfl) (U 0) (fun _ _=>rfl)),by walk_at "B"⟩)) rfl))
   (aP (qv (i:=2) tn.aH rfl (nX rfl) (cE ed (bx (bx (U 0) rfl) rfl) (bx (U 0) rfl)))
   (aP (Cc (i:=3) tn.aH rfl (mx rfl) rfl (eS (U 1)) (g0 (sc:=bE uQ) rfl (by ac_nf)) (N:=["number","self","same"]) (sel:=[none,some 0,some 2]) (gO (M:=Jk) (by ac_nf)) (fP.of (fun _ _ _ _=>(cu (i:=0) (eJ (N:=["number","self","same"]) (by ac_nf) rfl))) (fun _ _ _ _=>⟨_,(sI (du sR (cE ed (bx (bx (U 1) rfl) rfl) (U 0)) (U 2) (cR _))),by walk_at "B"⟩) (fun _ _ _ _=>⟨_,(U 0),by walk_at "B"⟩)) rfl)
   (aP (cg (i:=4) tn.aH (vq (D6 (U 3) (fun _=>rfl)) (U 3) (U 1)))
   (aP (qv (i:=5) tn.aH rfl (nX rfl) (jM bt (bx (U 0) rfl) (cE ed (bx (bx (U 0) rfl) rfl) (cE ed (U 4) aM)) (fun _ _=>rfl)))
   (aP (qv (i:=6) tn.aH rfl (nX rfl) (bx (bx (U 0) rfl) rfl))
   (a6 (cz (ahK (pr := "number") (y := "many") (z := "last") (i1:=6) (i2:=5) rfl rfl T.C9 (ai (U 4) aE) ⟨kN.symm.trans ait,cV,iD⟩ ao ZA rfl rfl rfl rfl rfl rfl rfl rfl (fun _ _ _ _=>rfl) (fun _ _ _ _=>⟨_,(bP i' (bP lA (bP lA (U 0) (U 2)) aM) (U 1)),by first | rfl | (dsimp only [sG];done) | (dsimp only [sG];exact rfl)⟩)))))))))),?_⟩
 simp only [dT];exists (fun ax I=>aN H I/\aI I/\∃ wp,H wp=none/\I wp=some (.lst (ky (mO rows aj)))/\ax=[~~~k,~~~wp,none,none,none,none,none]),2
 .nofun;refine ⟨az,_,di,_,wc T b2,_,rfl,_,di,fun o=>?_⟩;have gu:(gs aj.wt).length=aj.wt.length:=by unfold gs;rw [aO]
  have lW:aN bU (upd H az (.dx o (.a5 (gs aj.wt)))):=fun b u e=>by rw [aA (dj e fZ)];exact s0 _ _ e
  have zP:(upd H az (.dx o (.a5 (gs aj.wt)))) k=some (.ins t.dd ar (fv aT (pT aj.c2) aj.bA aj.lf aj.bL aj.dr az aQ)):=by rw [aA (br b2 di (by intro z;cases z))];exact b2
  have n2:(upd H az (.dx o (.a5 (gs aj.wt)))) az=some (.dx o (.a5 (gs aj.wt))):=db;refine dg.Pa (zs:=ky (mO rows aj)) n2 (by rw [gu];exact c7 aK (by decide)) (by unfold ky mO;rw [aO,aO,gu]) (fun iW abT v z N aC aW bu=>?_) (fun p aq=>?_)
  .unfold gs at aC;obtain ⟨x,ag,ex⟩:=cm aC;cases ex;unfold ky mO at aW;obtain ⟨iU,aa,rfl⟩:=cm aW;obtain ⟨fH,d_,rfl⟩:=cm aa;rw [ag] at d_;cases d_;obtain ⟨j,r,aL,gP,kr,_⟩:=ql (cZ x (cQ ag));have bj:=fm.k (k:=bD x) (lW _ _ hE);rw [aL] at bj;have he:uD rows x=j:=by unfold uD;rw [gP];rfl
   rw [he] at bu;nofun;exact ⟨Sub.name,_,jA T zP,_,rfl,_,Bp T (lW _ _ aw),_,rfl,_,bj,bu⟩
  .have hM:p ≠ az:=fun z=>by rw [z,n2] at aq;cases aq
   have Bb:H p=none:=by rw [aA hM] at aq;exact aq
   refine ⟨o,by rw [aA (cX hM)];exact n2,cM _ _ ⟨fun b u e=>?_,bG.upd.upd.upd,p,Bb,by rw [aA hM];exact db,rfl⟩⟩;by_cases cO:b=az
   .subst cO;rw [di] at e;cases e;exact db
   .rw [aA cO,aA (dj e Bb),aA cO];exact e
 rintro gf H1 ⟨s1,b9,wp,aoL,dJ,rfl⟩;subst aV;simp only [dT];exists (fun ax I=>I=H1/\ax=[~~~k,~~~wp,some (.str (il ds rows i)),none,none,none,none]),2
 .nofun;have lZ:=s1 _ _ b2;rw [gG] at lZ;exact ⟨_,jA T lZ,_,rfl,_,io T (s1 _ _ (s0 _ _ aw)),_,q9 T lZ,_,rfl,_,_,rfl,aF.of (s1 _ _ (s0 _ _ dZ)),_,cy (sC (Ih g4)),cM _ _ ⟨rfl,rfl⟩⟩
 rintro cn av ⟨rfl,rfl⟩;subst aV;simp only [dT];exists (fun ax I=>aN av I/\aI I/\∃ op,av op=none/\I op=some (.lst (ky (uu ds rows aj i)))/\ax=[~~~k,~~~wp,some (.str (il ds rows i)),~~~op,none,none,none]),2
 .nofun;refine ⟨⟨_,aF.of dJ⟩,?_⟩;refine dg.r_ (xs:=ky (mO rows aj)) (ss:=(mO rows aj).map fun j=>if (!decide (il ds rows j=il ds rows i))=true then some (V.int (j:Nat)) else none) (aF.of dJ) (by unfold ky mO;rw [aO,aO];exact c7 aK (by decide)) (by unfold ky;rw [aO,aO]) (fun iW v o ys N aJ aS bu=>?_) (fun l DN=>?_)
  .unfold ky at aJ;obtain ⟨j,aL,rfl⟩:=cm aJ;obtain ⟨iU,hs,rfl⟩:=cm aS;rw [aL] at hs;cases hs;have o6:=Lq cZ j (cQ aL);nofun;refine ⟨Sub.name,_,jA T (s1 _ _ b2),_,rfl,_,io T (s1 _ _ (s0 _ _ aw)),_,rfl,_,aF.of (s1 _ _ (s0 _ _ dZ)),_,cy (sC (Ih o6)),rfl,?_⟩;by_cases cO:il ds rows j=il ds rows i
   .rw [if_neg (by rw [cO,decide_eq_true rfl];exact fY)];simp [cO] at bu;exact bu
   .rw [if_pos (by rw [decide_eq_false (fun z=>cO (by injection z))];rfl)];simp [cO] at bu;exact bu
  .rw [NL];exact cM _ _ ⟨bf DN,b9.upd,l,DN,db,rfl⟩
 rintro fT bk ⟨s3,dy,op,ap2,TA,rfl⟩;have hL:=s3 _ _ dJ;subst aV;simp only [dT];exists (fun ax I=>I=bk/\∃ i5,bk i5=some (.lst (ky (i4 ds rows aj i)))/\ax=[~~~k,~~~wp,some (.str (il ds rows i)),~~~op,~~~i5,none,none]),2
 .nofun;refine ⟨!(uu ds rows aj i).isEmpty,.inl ⟨_,aF.of TA,?_⟩,?_⟩
  .unfold ky;cases uu ds rows aj i <;> rfl
  .cases Sz:(uu ds rows aj i).isEmpty with
   | true=>
    rw [if_neg (by rw [YM];exact fY)];exact cM _ _ ⟨rfl,wp,by unfold i4;rw [if_pos Sz];exact hL,rfl⟩
   | false=>
    rw [if_pos (by rfl)];exact cM _ _ ⟨rfl,op,by unfold i4;rw [if_neg (by rw [Sz];exact fY)];exact TA,rfl⟩
 rintro kj b5 ⟨rfl,i5,xi,rfl⟩;subst aV;simp only [dT];exists (fun ax I=>I=b5/\ax=[~~~k,~~~wp,some (.str (il ds rows i)),~~~op,~~~i5,some (.int (p6 ds rows aj (i4 ds rows aj i))),none]),2
 .nofun;have Uo:=s3 _ _ (s1 _ _ b2);have ux:∀ {b u},bU b=some u->b5 b=some u:=fun e=>s3 _ _ (s1 _ _ (s0 _ _ e))
  obtain ⟨wX,ju,hO⟩:=v3 (Vb (ds:=ds) (rows:=rows) (i:=i) cx);have pF:wX < rows.length:=Ct cZ wX (by rw [hO];exact .head _);have xM:=Ih (ds:=ds) pF;have ahb:il ds rows wX=eb\/il ds rows wX=kJ:=by
   unfold il;rw [bo pF];exact lh _ (kT pF)
  have vO:=Xs (a:=aj.pt) (b:=aj.po) ahb;have bj:=fm.k (k:=bD (il ds rows wX)) (s3 _ _ (s1 _ _ eB));rw [vO] at bj;refine ⟨_,Gv T Uo,_,jA T Uo,_,rfl,_,io T (ux aw),_,aF.of xi,_,cy (j:=0) (by rw [hO];rfl),_,rfl,_,_,rfl,aF.of (ux dZ),_,cy (sC xM),_,rfl,_,bj,cM _ _ ⟨rfl,?_⟩⟩;unfold p6;rw [hO];rfl
 rintro n4 cP ⟨rfl,rfl⟩;subst aV;simp only [dT];exists (fun ax I=>I=cP/\ax=[~~~k,~~~wp,some (.str (il ds rows i)),~~~op,~~~i5,some (.int (p6 ds rows aj (i4 ds rows aj i))),some (.int rows.length)]),2
 .nofun;exact ⟨_,jA T (s3 _ _ (s1 _ _ b2)),_,rfl,_,E2 T (s3 _ _ (s1 _ _ (s0 _ _ aw))),cM _ _ ⟨rfl,rfl⟩⟩
 rintro mS fS ⟨rfl,rfl⟩;subst aV;nofun;have Mc:j5 Pt fS:=(bT.step s1).step s3;refine ⟨(i4 ds rows aj i).map fun j=>((j:Nat):Int),aF.of (by rw [<- amd];exact xi),by simpa using Vb (ds:=ds) (rows:=rows) (i:=i) cx,Mc,pJ (p6 ds rows aj (i4 ds rows aj i)) rows.length,fun av bg ace nk=>⟨fun n a3=>⟨by omega,rfl⟩,fun iW m hm aa=>?_⟩⟩;rw [dO] at hm;obtain ⟨j,aL,rfl⟩:=zS.mp hm;refine q j av (fun b u fF e=>bg _ _ fF (s3 _ _ (s1 _ _ e))) (ace dy) nk ⟨cQ aL,fun iU hs=>?_⟩;obtain ⟨x,ag,ex⟩:=LL hs;exact (aa x (iU:Int) (by rw [dO,bo ag,ex];rfl)).1
def iK (H I:au):Prop:=∀ b o,(∀ ps,o ≠ dU.gQ ps)->H b=some o->I b=some o
theorem ald {pos:Pos} (bT:Tab H Pt pos q) (s:lO Pt H I):iK H I:=fun b o n e=>s b o (bT.ne e n) e
theorem iK.trans (a:iK H H1) (b:iK H1 av):iK H av:=fun c o n h=>b c o n (a c o n h)
theorem iK.lst (s:iK H I) (e:H b=some (.lst xs)):I b=some (.lst xs):=s b _ (fun _ z=>by cases z) e
theorem iK.tup (s:iK H I) (e:H b=some (.tup xs)):I b=some (.tup xs):=s b _ (fun _ z=>by cases z) e
theorem iK.ins (s:iK H I) {aR:List (Str × V)} (e:H b=some (.ins C ar aR)):I b=some (.ins C ar aR):=s b _ (fun _ z=>by cases z) e
theorem iK.a5 (s:iK H I) (e:H b=some (.a5 kvs)):I b=some (.a5 kvs):=s b _ (fun _ z=>by cases z) e
theorem alg {K:ba} {ns:List Int} (S:Sc K a ns H) (s:iK H I) (bG:aI I):Sc K a ns I:=by
 refine ⟨?_,bG⟩;rcases S.yd with ⟨o,h⟩ | h
 .exact .inl ⟨o,s _ _ (fun _ z=>by cases z) h⟩
 .exact .inr h
theorem fC.qE {t:bQ} {c:Addr} (h:fC t H c n ds) (s:iK H I):fC t I c n ds:=by
 obtain ⟨h0,ar,wl,aH,aw,⟨as,dJ,eh,al⟩,bS⟩:=h;refine ⟨h0,ar,wl,aH,s.ins aw,⟨as,s.lst dJ,eh,fun i b d aa hd=>?_⟩,s.a5 bS⟩;obtain ⟨k,Z0,bz⟩:=al i b d aa hd;exact ⟨k,Z0,s.ins bz⟩
theorem gV.qE {w:World} {t:bQ} {a c:Addr} {rows:List ST} (h:gV P w t H a c n ds rows) (s:iK H I):gV P w t I a c n ds rows:=by
 obtain ⟨ar,le,mo,c8,cU,aS,ch,ms,kvs,aw,aG,bS,er,gh,dZ,hE,⟨o,a0,ep,xs,r⟩,kH⟩:=h;exact ⟨ar,le,mo,c8,cU,aS,ch,ms,kvs,s.ins aw,aG.qE s,s.lst bS,s.lst er,⟨s.lst gh.at_,gh.ln,fun i m x a b=>s.lst (gh.al i m x a b)⟩,s.lst dZ,s.a5 hE,
  ⟨o,a0,ep,xs,s _ _ (fun _ z=>by cases z) r.at_,r.ex,r.dat,r.ent,r.aH,Paired.ri r.bW fun p q z=>⟨z.1,s.tup z.2.1,z.2.2⟩,r.nZ,r.ns⟩,kH⟩
noncomputable def ig (H:au):au:=fun b=>match H b with
 | some (.gQ _)=>none
 | o=>o
theorem amf {pos:Pos} (bT:Tab H Pt pos q):ig H Pt=none:=by
 obtain ⟨ps,e,_⟩:=bT;unfold ig;rw [e]
theorem w3 (h:H b=none):ig H b=none:=by
 unfold ig;rw [h]
theorem Q7 (H:au):aN (ig H) H:=fun b u e=>by
 unfold ig at e;split at e
 .cases e
 .exact e
theorem HG (H:au):iK H (ig H):=fun b u n e=>by
 unfold ig;split
 .rename_i ps h;rw [h] at e;cases e;exact absurd rfl (n ps)
 .exact e
structure qh (ds:List bl) (rows:List ST):Prop where
 dq:∀ d ∈ ds,told rows d.name=true
 gy:∀ r ∈ rows,r.mem.length <= 12
 cU:∀ r ∈ rows,dQ ds r=eb\/dQ ds r=kJ
 dl:ds.length <= 12
structure jr (ds:List bl) (rows:List ST) (s:fK):Prop where
 wn:s.wt.Nodup
 az:∀ x ∈ s.wt,x ∈ ds.map (·.name)
 c2:∀ i,s.c2=some i->i < rows.length/\∀ x ∈ s.wt,lx rows x ≠ some i
 ch:s.c2=none->s.lf < rows.length/\s.bL < rows.length/\s.lf ≠ s.bL
theorem jr.told {rows:List ST} (k:jr ds rows s) (R:qh ds rows):∀ x ∈ s.wt,told rows x=true:=fun x ag=>by
 obtain ⟨d,hd,rfl⟩:=cw.mp (k.az x ag);exact R.dq d hd
theorem jr.len {rows:List ST} (k:jr ds rows s) (R:qh ds rows):s.wt.length <= 12:=by
 have:=k.wn.length_le_of_subset (l₂:=ds.map (·.name)) fun x ag=>k.az x ag
 rw [aO] at this;have:=R.dl;omega
def qi (n:Int) (ds:List bl) (rows:List ST) (s:fK) (own:Bool) (aj:fK):Prop:=
 (s.c2=none/\∃ r,rows[s.bL]? = some r/\aj=oO n ds rows { s with dr:=s.dr + 1 } r.mem) \/
 (∃ i r,s.c2=some i/\rows[i]? = some r/\si ds rows s r own=true/\aj = { s with bA:=s.bA + 1 }) \/
 (∃ i r j wj,s.c2=some i/\rows[i]? = some r/\si ds rows s r own=false/\OJ ds rows s i j/\rows[j]? = some wj/\aj=oO n ds rows (zx s i j (dQ ds wj)) wj.mem)
theorem Rx {rows:List ST} (cZ:∀ x ∈ s.wt,told rows x=true) (h:j ∈ i4 ds rows s i):∃ x ∈ s.wt,lx rows x=some j:=by
 have hm:j ∈ mO rows s:=by
  unfold i4 at h;split at h
  .exact h
  .exact (lE.mp h).1
 obtain ⟨x,ag,rfl⟩:=cw.mp hm;obtain ⟨j,r,aL,aC,kr,_⟩:=ql (cZ x ag);refine ⟨x,ag,?_⟩;unfold uD;rw [aC];rfl
theorem U5 {rows:List ST} (R:qh ds rows) (wn:s.wt.Nodup) (az:∀ x ∈ s.wt,x ∈ ds.map (·.name)) (aB:s.c2=none) (aK:s.lf < rows.length) (ao:rows[s.bL]? = some r) (cx:s.lf ≠ s.bL):jr ds rows (oO n ds rows s r.mem):=by
 have jg:s.bL < rows.length:=(cb.mp ao).1;unfold oO;split
 .exact ⟨wn,az,fun i h=>(by rw [aB] at h;cases h),fun _=>⟨aK,jg,cx⟩⟩
 .refine ⟨wn.filter _,fun x ag=>az x (lE.mp ag).1,fun i h=>?_,fun h=>by cases h⟩;cases h;refine ⟨jg,fun x ag e=>?_⟩;have d_:=lE.mp ag;obtain ⟨d,hd,hX⟩:=cw.mp (az x d_.1);obtain ⟨j,dM,aL,aC,kr,hm⟩:=ql (R.dq d hd);rw [hX] at aC hm;rw [aC] at e;cases e;rw [ao] at kr;cases kr;have:=d_.2;simp [hm] at this
theorem aei {rows:List ST} (R:qh ds rows) (k:jr ds rows s) (h:qi n ds rows s own aj):jr ds rows aj:=by
 rcases h with ⟨af,r,ao,rfl⟩ | ⟨i,r,af,ao,_,rfl⟩ | ⟨i,r,j,wj,af,ao,_,aq,aL,rfl⟩
 .obtain ⟨a,b,c⟩:=k.ch af;exact U5 (s:={ s with dr:=s.dr + 1 }) R k.wn k.az af a ao c
 .exact ⟨k.wn,k.az,k.c2,k.ch⟩
 .obtain ⟨a,b⟩:=k.c2 i af;obtain ⟨x,ag,aC⟩:=Rx (k.told R) aq.1;refine U5 (s:=zx s i j (dQ ds wj)) R k.wn k.az rfl a aL (fun e=>?_);have e:i=j:=e;subst e;exact b x ag aC
def T8 (k az aQ Pt:Addr) (H I:au):Prop:=∀ b u,b ≠ k->b ≠ az->b ≠ aQ->b ≠ Pt->H b=some u->I b=some u
theorem yf {t:bQ} {k aT az aQ Pt:Addr} {pos:Pos} (f':eD t H k aT az aQ s) (bT:Tab H Pt pos q) (x:hj k az aQ H I):Tab I Pt pos q:=by
 obtain ⟨_,ar,b2,di,eB⟩:=f';obtain ⟨ps,e,d⟩:=bT;refine ⟨ps,x _ _ (br e b2 (by intro z;cases z)) (br e di (by intro z;cases z)) (br e eB (by intro z;cases z)) e,?_⟩;rcases d with d | ⟨c',d,bM⟩
 .exact .inl d
 .exact .inr ⟨c',d,x _ _ (br bM b2 (by intro z;cases z)) (br bM di (by intro z;cases z)) (br bM eB (by intro z;cases z)) bM⟩
theorem eD.qE {t:bQ} {k aT az aQ:Addr} (h:eD t H k aT az aQ s) (x:iK H I):eD t I k aT az aQ s:=by
 obtain ⟨h0,ar,b2,di,eB⟩:=h;exact ⟨h0,ar,x.ins b2,x.a5 di,x.a5 eB⟩
def ag0 (P:Program) (w:World) (t:bQ) (Pt:Addr):bX:=fun vs H Q _=>∃ bU k aT az aQ s c n ds rows own,vs=[.ref k,.bB own]/\eD t H k aT az aQ s/\gV P w t bU aT c n ds rows/\aN bU H/\bU k=none/\bU az=none/\bU aQ=none/\bU Pt=none/\qh ds rows/\jr ds rows s/\j5 Pt H/\aI H /\
 ∀ aj I,qi n ds rows s own aj->T8 k az aQ Pt H I->aI I->j5 Pt I->eD t I k aT az aQ aj->Q .b' I
theorem alv (cV:pL base t.q8 Pt) (iD:base.BuiltinsAt mg Pt):cv P base T 4 t.wf t.Ma rF (ag0 P w t Pt):=by
 refine cB (W7 T) fun MJ=>cB (aaj T) fun Yi=>cB (YF T) fun YV=>cB (aeT T cV iD) fun acm=>?_;exists T.WW.ok YI,9
 obtain ⟨bU,k,aT,az,aQ,aj,c,n,ds,rows,own,rfl,f',dR,s0,h4,fZ,gc,Dm,R,pa,bT,bG,q⟩:=h;obtain ⟨c5,ar,b2,di,eB⟩:=id f';have bt:=gT ao;refine ⟨_,(a6 (en (du ag' (bx (U 0) rfl) r8 (cR _)) (aP (Dy (U 0) aM wL)
   (a6 (eo (gw (U 0) T.eN T.S' MJ ao T.PB .nil cj)))) (a6 (en (qd (Gc (U 0) T.eN T.Xz Yi ao T.al' .nil cj (ai (U 1) aE))) (a6 (Dy (U 0) aM wL)) (a6 (eo (Gc (U 0) T.eN T.Ym YV ao T.afQ .nil cj (ai (gw (U 0) T.eN T.ahd acm ao T.akW .nil cj) aE)))))))),?_⟩
 cases gG:aj.c2 with
 | none=>
  rw [gG] at b2;obtain ⟨g1,g2,g3⟩:=pa.ch gG;have Jm:=bo g2;nofun;refine eg true (fun Q a9=>?_) (fun _=>?_) (fun ay=>nomatch ay)
  .nofun;exact ⟨_,q9 T b2,a9⟩
  simp only [dT];exists (fun ax I=>hj k az aQ H I/\aI I/\eD t I k aT az aQ { aj with dr:=aj.dr + 1 }/\ax=[~~~k,some (.bB own)]),2
  .nofun;refine ⟨_,_,_,b2,T.eN,T.Cs,_,ac lS 5 (ce ..) (by ac_nf) rfl,_,rfl,_,_,b2,by rw [<- aO (f:=(·.1)),ce];decide,?_⟩;rw [Qk];exact cM _ _ ⟨fun b u af _ _ e=>by rw [aA af];exact e,bG.upd,⟨c5,ar,by rw [db];exact congrArg (fun z=>some (dU.ins t.dd ar (fv aT (pT z) aj.bA aj.lf aj.bL (aj.dr + 1) az aQ))) gG.symm,by rw [aA (br di b2 (by intro z;cases z))];exact di,by rw [aA (br eB b2 (by intro z;cases z))];exact eB⟩,rfl⟩
  rintro gf H1 ⟨cp,b9,LN,rfl⟩;obtain ⟨_,ec,a1,hi,bZ⟩:=id LN;subst aV;nofun;exact ⟨_,_,a1,Op _ _ _ _ _ _ _ _ (by ac_nf),bU,k,aT,az,aQ,_,c,n,ds,rows,_,rfl,LN,dR,cp.x5 s0 h4 fZ gc,h4,fZ,gc,g1,Jm,g3,R.gy _ (kT g2),b9,fun I fH g9 sP=>q _ I (.inl ⟨gG,_,Jm,rfl⟩) (fun b u af ak bc _ e=>fH _ _ af ak bc (cp _ _ af ak bc e)) g9 (yf LN (yf f' bT cp) fH) sP⟩
 | some i=>
  rw [gG] at b2;obtain ⟨g1,g2⟩:=pa.c2 i gG;have jz:=bo g1;nofun;refine eg false (fun Q a9=>?_) (fun ay=>nomatch ay) (fun _=>?_)
  .nofun;exact ⟨_,q9 T b2,a9⟩
  have cZ:=pa.told R;have aK:=pa.len R;refine DT (fun b I=>aN H I/\aI I/\b=si ds rows aj rows[i] own) (fun kL CM=>?_) ?_ ?_
  .nofun;exact ⟨_,_,b2,Op _ _ _ _ _ _ _ _ (by ac_nf),bU,k,aT,az,aQ,aj,c,n,ds,rows,i,_,own,rfl,f',gG,jz,dR,s0,fZ,cZ,aK,fun I s1 b9=>⟨_,rfl,CM _ _ ⟨s1,b9 bG,rfl⟩⟩⟩
  .rintro H1 ⟨s1,b9,aa⟩;have lZ:=s1 _ _ b2;nofun;refine ⟨_,_,_,lZ,T.eN,T.z9,_,ac lS 2 (ce ..) (by ac_nf) rfl,_,rfl,_,_,lZ,by rw [<- aO (f:=(·.1)),ce];decide,?_⟩;rw [Wl];have cp:hj k az aQ H (upd H1 k (.ins t.dd ar (fv aT (pT (some i)) (aj.bA + 1) aj.lf aj.bL aj.dr az aQ))):=fun b u af _ _ e=>by rw [aA af];exact s1 _ _ e
   exact q { aj with bA:=aj.bA + 1 } _ (.inr (.inl ⟨i,_,gG,jz,aa.symm,rfl⟩)) (fun b u af ak bc _ e=>cp _ _ af ak bc e) b9.upd (yf f' bT cp) ⟨c5,ar,by rw [db];exact congrArg (fun z=>some (dU.ins t.dd ar (fv aT (pT z) (aj.bA + 1) aj.lf aj.bL aj.dr az aQ))) gG.symm,by rw [aA (br di b2 (by intro z;cases z))];exact s1 _ _ di,by rw [aA (br eB b2 (by intro z;cases z))];exact s1 _ _ eB⟩
  .rintro H1 ⟨s1,b9,aa⟩;have lZ:=s1 _ _ b2;have cx:aj.wt ≠ []:=fun z=>by
    unfold si at aa;rw [z] at aa;simp at aa
   nofun;refine ⟨_,_,lZ,Op _ _ _ _ _ _ _ _ (by ac_nf),_,_,lZ,Op _ _ _ _ _ _ _ _ (by ac_nf),bU,k,aT,az,aQ,aj,c,n,ds,rows,i,rfl,f'.same s1,gG,g1,dR,s0.trans s1,fZ,cZ,cx,aK,R.cU,bT.step s1,b9,fun j av bg ck nk aq=>?_⟩;have s':=(f'.same s1).qE (ald (bT.step s1) bg);obtain ⟨x,ag,aC⟩:=Rx cZ aq.1;have o6:=Ct cZ j aq.1;have hS:=bo o6;exact ⟨bU,k,aT,az,aQ,aj,c,n,ds,rows,i,j,_,rfl,s',gG,dR,fun b u e=>bg _ _ (dj e Dm) ((s0.trans s1) _ _ e),h4,fZ,gc,g1,hS,fun e=>g2 x ag (by rw [aC,e]),R.gy _ (kT o6),R.cU _ (kT o6),ck,fun I fH g9 sP=>q _ I (.inr (.inr ⟨i,_,j,_,gG,jz,aa.symm,aq,hS,rfl⟩)) (fun b u af ak bc c4 e=>fH _ _ af ak bc (bg _ _ c4 (s1 _ _ e))) g9 (yf s' nk fH) sP⟩
noncomputable def ko (rows:List ST) (s:fK) (x:Str):Bool:=match s.c2 with
 | some i=>decide (lx rows x=some i)
 | none=>false
theorem Sq (n:Int) (ds:List bl) (rows:List ST) (s:fK) (d:bl):decide (V.str (gR n ds rows s d)=V.str (ab "free"))=ko rows s d.name:=by
 have af:(V.str (ab "stop"):V) ≠ V.str (ab "free"):=fun z=>absurd (V.str.inj z) (by ac_nf)
 have ak:(V.str (ab "fade"):V) ≠ V.str (ab "free"):=fun z=>absurd (V.str.inj z) (by ac_nf)
 have bc:(V.str (ab "ready"):V) ≠ V.str (ab "free"):=fun z=>absurd (V.str.inj z) (by ac_nf)
 unfold gR ko;cases s.c2 with
 | none=>
  show decide (V.str (t_ n ds rows s d)=_)=false;unfold t_;split
  .exact decide_eq_false ak
  .split
   .exact decide_eq_false bc
   .exact decide_eq_false af
 | some i=>
  show decide (V.str (u1 rows i d.name)=_)=decide (lx rows d.name=some i);unfold u1;split
  .rename_i h;rw [decide_eq_true rfl,decide_eq_true h]
  .rename_i h;rw [decide_eq_false af,decide_eq_false h]
noncomputable def qB (rows:List ST) (s:fK) (wt:List Str) (x:Str):List Str:=if ko rows s x=true\/x ∈ wt then wt else wt ++ [x]
noncomputable def oE (rows:List ST) (s:fK) (wt:List Str) (xs:List Str):List Str:=xs.foldl (qB rows s) wt
noncomputable def tK (rows:List ST) (s:fK) (xs:List Str):fK:={ s with wt:=oE rows s s.wt xs }
theorem aej (wt:List Str) (x:Str):ci (gs wt) (bD x) (.bB true)=gs (if x ∈ wt then wt else wt ++ [x]):=by
 unfold ci;have BQ:((gs wt).any fun c_=>decide (c_.1=bD x))=decide (x ∈ wt):=by
  rw [lp,decide_eq_true_eq,tl];constructor
  .rintro ⟨p,aq,ag⟩;obtain ⟨y,aY,rfl⟩:=cw.mp aq;have:=qx (of_decide_eq_true ag);rw [<- this];exact aY
  .exact fun h=>⟨(bD x,V.bB true),cw.mpr ⟨x,h,rfl⟩,decide_eq_true rfl⟩
 by_cases h:x ∈ wt
 .rw [if_pos (by rw [BQ];exact decide_eq_true h),if_pos h];unfold gs;rw [nr];refine HT fun y _=>?_
  show (if (bD y:Key)=bD x then ((bD y:Key),V.bB true) else (bD y,V.bB true))=_;split <;> rfl
 .rw [if_neg (by rw [BQ,decide_eq_false h];exact fY),if_neg h];unfold gs;rw [fx];rfl
theorem ZD {ds:List bl} {rows:List ST} {s:fK} {wt:List Str} {x:Str} (ag:x ∈ ds.map (·.name)) (k:jr ds rows { s with wt:=wt }):jr ds rows { s with wt:=qB rows s wt x }:=by
 unfold qB;split
 .exact k
 .rename_i h;have af:x ∉ wt:=fun z=>h (.inr z)
  refine ⟨?_,fun y aY=>?_,fun i ah=>⟨(k.c2 i ah).1,fun y aY=>?_⟩,k.ch⟩
  .show (wt ++ [x]).Nodup;rw [Af];exact ⟨k.wn,by simp,fun a aZ b aa e=>by rw [fG.mp aa] at e;exact af (e ▸ aZ)⟩
  .rcases gU.mp aY with aY | aY
   .exact k.az y aY
   .rw [fG.mp aY];exact ag
  .rcases gU.mp aY with aY | aY
   .exact (k.c2 i ah).2 y aY
   .rw [fG.mp aY];intro e;refine h (.inl ?_);have ah:s.c2=some i:=ah;unfold ko;rw [ah];exact decide_eq_true e
theorem He {ds:List bl} {rows:List ST} {s:fK}:∀ (xs wt:List Str),(∀ x ∈ xs,x ∈ ds.map (·.name))->jr ds rows { s with wt:=wt }->jr ds rows { s with wt:=oE rows s wt xs }
 | [],_,_,k=>k
 | x :: xs,wt,h,k=>He xs (qB rows s wt x) (fun y aY=>h y (.tail _ aY)) (ZD (h x (.head _)) k)
theorem RS {rows:List ST} (h:∀ x ∈ xs,x ∈ ds.map (·.name)) (k:jr ds rows s):jr ds rows (tK rows s xs):=He xs s.wt h k
theorem aeG (rows:List ST) (s:fK) (wt xs:List Str) (x:Str):oE rows s wt (xs ++ [x])=qB rows s (oE rows s wt xs) x:=by
 unfold oE;rw [zR];rfl
def Qa (P:Program) (w:World) (K:ba) (t:bQ) (Pt:Addr):bX:=fun vs H Q _=>∃ bU k aT az aQ s c n ds rows a xs,vs=[.ref k,.ref a]/\eD t H k aT az aQ s/\gV P w t bU aT c n ds rows/\aN bU H/\bU k=none/\bU az=none/\bU aQ=none/\bU Pt=none/\qh ds rows/\jr ds rows s/\H a=some (.lst (aX xs))/\xs.length <= 1000/\(∀ x ∈ xs,x ∈ ds.map (·.name))/\j5 Pt H/\aI H /\
 ∀ p aj I,qi n ds rows (tK rows s xs) (xs.any (ko rows s)) aj->T8 k az aQ Pt H I->H p=none->I p=some (.a5 (hF ds (gR n ds rows s)))->aI I->j5 Pt I->eD t I k aT az aQ aj->Q (.ref p) I
theorem S2 (cV:pL base t.q8 Pt) (iD:base.BuiltinsAt mg Pt):cv P base T 5 t.zf t.Eo zv (Qa P w K t Pt):=by
 refine cB (p_ T) fun iV=>cB (K' T) fun uw=>cB (alv T cV iD) fun YD=>?_;exists T.R2.ok uV,9
 obtain ⟨bU,k,aT,az,aQ,aj,c,n,ds,rows,a,xs,rfl,f',dR,s0,h4,fZ,gc,Dm,R,pa,aZ,lJ,GV,bT,bG,q⟩:=h;obtain ⟨c5,ar,b2,di,eB⟩:=id f';obtain ⟨jY,le,mo,c8,cU,aS,ch,ms,kvs,aw,C,bS,er,gh,dZ,hE,j7,kH⟩:=id (dR.same s0);obtain ⟨⟨ff,fq⟩,za,wl,aH,bZ,_,_⟩:=id C;have bt:=gT ao;have ow:∀ {i:Nat} {x:Str},xs[i]? = some x->∃ (j:Nat) (d:bl),ds[j]? = some d/\d.name=x:=fun {i x} ag=>by
  obtain ⟨d,hd,e⟩:=cw.mp (GV x (cQ ag));obtain ⟨j,aL⟩:=iG hd;exact ⟨j,d,aL,e⟩
 refine ⟨_,(aP (fp fj rfl (eS (U 1)) (cu (i:=2) uV.aH) (a6 (eo (Gc (bx (bx (U 0) rfl) rfl) T.gZ T.lc iV ao T.mh .nil cj (ai (U 2) aE)))))
   (aP (cg (i:=3) uV.aH (gw (U 0) T.eN T.CP uw ao T.zV .nil cj))
   (aP (cg (i:=4) uV.aH ox)
   (aP (fp fj rfl (eS (U 1)) (cu (i:=2) uV.aH) (a6 (en (du fA (jM bt (U 3) (U 2) (fun _ _=>rfl)) dD (cR _)) (a6 (cg (i:=4) uV.aH ox)) (a6 (mf bt (bx (U 0) rfl) (U 2) ox rfl)))))
   (aP (eo (Gc (U 0) T.eN T.acv YD ao T.ahI .nil cj (ai (U 4) aE)))
   (a6 (cz (U 3)))))))),?_⟩
 exists (fun ax I=>I=H/\∃ y,ax=[~~~k,~~~a,y,none,none]),5
 .nofun;refine ⟨⟨_,aF.of aZ⟩,?_⟩;refine dY.list (xs:=aX xs) (fun i σ I=>I=H/\∃ y,σ=[~~~k,~~~a,y,none,none]) ?_ ?_ ?_ ?_
  .exact ⟨rfl,_,rfl⟩
  .rintro i σ I ah ⟨rfl,_⟩;exact aF.of aZ
  .rintro i v σ I aJ ⟨rfl,y,rfl⟩;unfold aX at aJ;obtain ⟨x,ag,rfl⟩:=cm aJ;obtain ⟨j,d,hd,rfl⟩:=ow ag;nofun;exact ⟨_,jA T b2,_,rfl,_,A7 T aw,_,rfl,_,_,bZ,iR _ _ _ (by ac_nf),c,n,ds,j,d,rfl,C,hd,fun _ _=>⟨rfl,_,rfl⟩⟩
  .rintro σ I ⟨rfl,y,rfl⟩;exact cM _ _ ⟨rfl,_,rfl⟩
 rintro gf H1 ⟨rfl,mJ,rfl⟩;subst aV;exists (fun ax I=>aN H1 I/\aI I/\∃ p,H1 p=none/\I p=some (.a5 (hF ds (gR n ds rows aj)))/\ax=[~~~k,~~~a,mJ,~~~p,none]),5
 .nofun;exact ⟨_,_,b2,Op _ _ _ _ _ _ _ _ (by ac_nf),k,aT,az,aQ,aj,c,n,ds,rows,rfl,f',dR.same s0,R.dq,pa.ch,bG,fun p I s2 ck aq gb=>cM _ _ ⟨s2,ck,p,aq,gb,rfl⟩⟩
 rintro cn av ⟨s2,ck,p,n6,d3,rfl⟩;subst aV;exists (fun ax I=>I=av/\ax=[~~~k,~~~a,mJ,~~~p,some (.bB false)]),5
 .nofun;exact cM _ _ ⟨rfl,rfl⟩
 rintro fT bk ⟨rfl,rfl⟩;subst aV;exists (fun ax I=>hj k az aQ bk I/\aI I/\eD t I k aT az aQ (tK rows aj xs)/\∃ y,ax=[~~~k,~~~a,y,~~~p,some (.bB (xs.any (ko rows aj)))]),5
 .have fM:=s2 _ _ aZ;have hi:=s2 _ _ b2;have gD:=s2 _ _ di;have m7:=s2 _ _ eB;nofun;refine ⟨⟨_,aF.of fM⟩,?_⟩;refine dY.list (xs:=aX xs) (fun i σ I=>hj k az aQ bk I/\aI I/\eD t I k aT az aQ { aj with wt:=oE rows aj aj.wt (xs.take i) }/\∃ y,σ=[~~~k,~~~a,y,~~~p,some (.bB ((xs.take i).any (ko rows aj)))]) ?_ ?_ ?_ ?_
  .exact ⟨hj.of (aN.refl bk),ck,f'.same s2,_,rfl⟩
  .rintro i σ I ah ⟨fH,_⟩;exact aF.of (fH _ _ (br fM hi (by intro z;cases z)) (br fM gD (by intro z;cases z)) (br fM m7 (by intro z;cases z)) fM)
  .rintro i v σ I aJ bb;ac_rfl
   obtain ⟨fH,g9,⟨_,d',f1,f2,eM⟩,y,rfl⟩:=bb;subst aV;unfold aX at aJ;obtain ⟨x,ag,rfl⟩:=cm aJ;obtain ⟨j,d,hd,rfl⟩:=ow ag;have o1:=fH _ _ (br d3 hi (by intro z;cases z)) (fun e=>by rw [e,di] at n6;cases n6) (fun e=>by rw [e,eB] at n6;cases n6) d3;have bj:=fm.k (k:=bD d.name) o1;rw [Vr (f:=gR n ds rows aj) ff hd] at bj;have fb:(gs (oE rows aj aj.wt (xs.take i))).length <= 12:=by
    have:=(He (xs.take i) aj.wt (fun x ag=>GV x (yM ag)) pa).len R;unfold gs;rw [aO];exact this
   have gk:oE rows aj aj.wt (xs.take (i + 1))=qB rows aj (oE rows aj aj.wt (xs.take i)) d.name:=by rw [iH ag,aeG]
   have jZ:(xs.take (i + 1)).any (ko rows aj)=((xs.take i).any (ko rows aj) || ko rows aj d.name):=by rw [iH ag,List.any_append];simp
   nofun;refine eg (ko rows aj d.name) (fun kL a9=>?_) (fun aa=>?_) (fun aa=>?_)
   .nofun;rw [<- Sq n ds rows aj d] at a9;exact ⟨_,bj,rfl,a9⟩
   .nofun;refine ⟨fH,g9,⟨c5,d',f1,?_,eM⟩,?_⟩
    .rw [gk];unfold qB;rw [if_pos (.inl aa)];exact f2
    .rw [jZ,aa,Sy]
   .nofun;refine ⟨_,wc T f1,_,rfl,_,hC.k (k:=bD d.name) f2 (f5 fb (by decide)),fun b u af ak bc e=>by rw [aA ak];exact fH _ _ af ak bc e,g9.upd,⟨c5,d',by rw [aA (br f1 f2 (by intro z;cases z))];exact f1,?_,by rw [aA (cX c5)];exact eM⟩,?_⟩
    .rw [db,aej,gk];unfold qB;by_cases h:d.name ∈ oE rows aj aj.wt (xs.take i)
     .rw [if_pos h,if_pos (.inr h)]
     .rw [if_neg h,if_neg (fun z=>z.elim (fun z=>by rw [aa] at z;cases z) h)]
    .rw [jZ,aa,Pb]
  .rintro σ I bb;ac_rfl
   obtain ⟨fH,g9,sP,y,rfl⟩:=bb;subst aV;rw [fz,hB] at *;exact cM _ _ ⟨fH,g9,sP,y,rfl⟩
 rintro kj b5 ⟨dw,df,tH,aoD,rfl⟩;obtain ⟨_,p1,f1,f2,eM⟩:=id tH;have Dt:=f'.same s2;have hi:=s2 _ _ b2;subst aV;nofun;refine ⟨_,_,f1,Op _ _ _ _ _ _ _ _ (by ac_nf),bU,k,aT,az,aQ,_,c,n,ds,rows,_,rfl,tH,dR,dw.x5 (s0.trans s2) h4 fZ gc,h4,fZ,gc,Dm,R,RS GV pa,yf Dt (bT.step s2) dw,df,fun s5 cP aB ey e6 u5 qt=>?_⟩;have WD:p ≠ k:=br d3 hi (by intro z;cases z);have nw:p ≠ az:=fun e=>by rw [e,di] at n6;cases n6
 have np:p ≠ aQ:=fun e=>by rw [e,eB] at n6;cases n6
 have adL:p ≠ Pt:=fun e=>by
  obtain ⟨ps,bM,_⟩:=bT;rw [e,bM] at n6;cases n6
 exact q p s5 cP aB (fun b u af ak bc c4 e=>ey _ _ af ak bc c4 (dw _ _ af ak bc (s2 _ _ e))) n6 (ey _ _ WD nw np adL (dw _ _ WD nw np d3)) e6 u5 qt
theorem Ub {i:Int} (h:i.natAbs < 100000):i.natAbs.log2 < 1920:=by
 by_cases h0:i.natAbs=0
 .rw [h0];decide
 .exact (aj4 h0).mpr (Sr h (by decide))
def alV (K:ba):bX:=fun vs H Q _=>∃ (a:Addr) (ns:List Int) (k m:Int),vs=[.ref a,.int k,.int m]/\ns.length <= 63/\aF K H a (ns.map V.int)/\(0 <= k/\k < 1000000)/\0 < m/\Q (.int (dF ns k m)) H
theorem ajh:cv P base T 1 t.EK t.DS D2 (alV K):=by
 exists T.fE.ok uB,9
 obtain ⟨a,ns,k,m,rfl,hZ,S,⟨h0,af⟩,hm,q⟩:=h;refine ⟨_,(aP (cg (i:=3) uB.aH (vq (du ot (gi i9 rfl T.iI iT (ai (U 0) aE)) aM (cR _)) (cE ed (U 0) (bP i' (U 1) (gi i9 rfl T.iI iT (ai (U 0) aE)))) aM))
   (aP (cg (i:=4) uB.aH (bP ez (bP ez (bP i' (U 3) aM) (bP jG (bP jG aM (U 1)) (U 1))) aM))
   (a6 (cz (bP i' (bP i' (bP jG (bP i' (bP jG (U 4) aM) aM) aM) aM) (U 2)))))),?_⟩
 nofun;refine ⟨_,.inl S,?_⟩;rw [aO];have ah':(0:Int) <= k * k/\k * k < 1000000 * 1000000:=⟨akV h0 h0,afP (by omega) af h0 (by decide)⟩;have fin:∀ i:Int,(0:Int) < 1000003/\nE 31 k/\nE (31 * k) k/\nE (i % 1000003 + 31 * k * k + 1) 48271/\(0:Int) < 999983/\nE ((i % 1000003 + 31 * k * k + 1) * 48271 % 999983) 7919/\(0:Int) < 524287/\0 < m:=by
  intro i;refine ⟨by decide,.inl (by decide),.inr (by omega),.inr (by decide),by decide,.inr (by decide),by decide,hm⟩
 by_cases c:(0:Int) < (ns.length:Int)
 .rw [if_pos (decide_eq_true c)];have aC:0 <= k % (ns.length:Int)/\k % (ns.length:Int) < (ns.length:Int):=⟨BY _ (by omega),C0 _ c⟩;refine ⟨_,.inl S,by rw [aO];exact c,_,S,?_⟩;rw [aO];have aL:(k % (ns.length:Int)).toNat < ns.length:=by omega
  refine ⟨.int ns[(k % (ns.length:Int)).toNat],?_,_,rfl,?_⟩
  .have e:=cy (xs:=ns.map V.int) (j:=(k % (ns.length:Int)).toNat) (v:=.int ns[(k % (ns.length:Int)).toNat]) (by rw [dO,bo aL] <;> rfl);rwa [rP aC.1] at e
  .obtain ⟨f1,f2,eM,f4,e7,nR,lY,f8⟩:=fin ns[(k % (ns.length:Int)).toNat];refine ⟨f1,f2,eM,f4,e7,nR,lY,f8,?_⟩;have e:dF ns k m=(((ns[(k % (ns.length:Int)).toNat] % 1000003 + 31 * k * k + 1) * 48271 % 999983 * 7919) % 524287) % m:=by
    unfold dF;rw [if_pos c,j_,bo aL];rfl
   rw [<- e];exact q
 .rw [if_neg (by simpa using c)];obtain ⟨f1,f2,eM,f4,e7,nR,lY,f8⟩:=fin 0;refine ⟨f1,f2,eM,f4,e7,nR,lY,f8,?_⟩;have e:dF ns k m=(((0 % 1000003 + 31 * k * k + 1) * 48271 % 999983 * 7919) % 524287) % m:=by
   unfold dF;rw [if_neg c]
  rw [<- e];exact q
noncomputable def ins {α:Type} (l:List α) (i:Nat) (a:α):List α:=l.take i ++ a :: l.drop i
theorem v_ (ah:i <= l.length) (j:Nat):(ins l i a)[j]? = if j < i then l[j]? else if j=i then some a else l[j - 1]?:=by
 unfold ins;have cZ:(l.take i).length=i:=by rw [gK];omega
 by_cases af:j < i
 .rw [if_pos af,n8 (by omega),rO af]
 .rw [if_neg af,mK (by omega),cZ];by_cases ak:j=i
  .subst ak;rw [if_pos rfl];simp
  .rw [if_neg ak,show j - i=(j - 1 - i) + 1 by omega,xd,List.getElem?_drop,show i + (j - 1 - i)=j - 1 by omega]
theorem Tn (ah:i <= l.length):(ins l i a).length=l.length + 1:=by
 unfold ins;rw [dS,hT,gK,t8];omega
theorem aee (h:l.Nodup) (n:a ∉ l):(ins l i a).Nodup:=by
 unfold ins;rw [(aav).nodup_iff,rX,M8];exact ⟨n,h⟩
theorem n1 {a x:α} (h:x ∈ ins l i a):x=a\/x ∈ l:=by
 unfold ins at h;rcases gU.mp h with z | z
 .exact .inr (yM z)
 .rcases eZ.mp z with z | z
  .exact .inl z
  .exact .inr (acu z)
theorem R8 (f:α->β) (l:List α) (i:Nat) (a:α):(ins l i a).map f=ins (l.map f) i (f a):=by
 unfold ins;rw [fx,eu,acs,List.map_drop]
theorem Ul (x:Str) (p9:a <= b) (aa:b <= x.cps.toList.length):(lI x (some (a:Int)) (some (b:Int))).cps.toList=(x.cps.toList.drop a).take (b - a):=by
 have ag:x.length=x.cps.toList.length:=by simp [uC]
 have e:=StrLaws.sliceText_nat x p9 (by rw [ag];exact aa);rw [show lI x (some (a:Int)) (some (b:Int))=uh x (some (a:Int)) (some (b:Int)) from rfl,e]
theorem Iz (x:Str) (aa:b <= x.cps.toList.length):(lI x none (some (b:Int))).cps.toList=x.cps.toList.take b:=by
 have:lI x none (some (b:Int))=lI x (some ((0:Nat):Int)) (some (b:Int)):=by
  show uh x none (some (b:Int))=uh x (some ((0:Nat):Int)) (some (b:Int));unfold uh;rw [StrLaws.sliceIdx_none_lo];rfl
 rw [this,Ul x (e5 _) aa,ajc,Nat.sub_zero]
theorem aaU (x:Str) (aZ:a <= x.cps.toList.length):(lI x (some (a:Int)) none).cps.toList=x.cps.toList.drop a:=by
 have ag:x.length=x.cps.toList.length:=by simp [uC]
 have:lI x (some (a:Int)) none=lI x (some (a:Int)) (some ((x.cps.toList.length:Nat):Int)):=by
  show uh x (some (a:Int)) none=uh x (some (a:Int)) (some ((x.cps.toList.length:Nat):Int));unfold uh;rw [StrLaws.sliceIdx_none_hi,<- ag]
 rw [this,Ul x aZ (bR _)];exact Fm (by rw [t8];exact bR _)
noncomputable def xg (l:List Nat) (k:Nat):List Nat:=l.take (k + 1)
noncomputable def oW (l:List Nat) (at_ f k:Nat):List Nat:=l.take at_ ++ [97 + (f + k) % 26] ++ l.drop (at_ + 1)
noncomputable def oM (l:List Nat) (f k j:Nat):List Nat:=[97 + (f + k) % 26] ++ l.take j
theorem Ke (aK:l.length=8) (al:∀ c ∈ l,97 <= c/\c <= 122) {k:Nat} (aC:k < 8):(xg l k).length=k + 1/\∀ c ∈ xg l k,97 <= c/\c <= 122:=by
 unfold xg;exact ⟨by rw [gK];omega,fun c ay=>al c (yM ay)⟩
theorem Yz (aK:l.length=8) (al:∀ c ∈ l,97 <= c/\c <= 122) {a f k:Nat} (aZ:a < 8):(oW l a f k).length=8/\∀ c ∈ oW l a f k,97 <= c/\c <= 122:=by
 unfold oW;refine ⟨by rw [dS,dS,gK,t8,tb];omega,fun c ay=>?_⟩;rcases gU.mp ay with ay | ay
 .rcases gU.mp ay with ay | ay
  .exact al c (yM ay)
  .rw [fG.mp ay];omega
 .exact al c (acu ay)
theorem abS (aK:l.length=8) (al:∀ c ∈ l,97 <= c/\c <= 122) {f k j:Nat} (aL:j < 8):(1 <= (oM l f k j).length/\(oM l f k j).length <= 8)/\∀ c ∈ oM l f k j,97 <= c/\c <= 122:=by
 unfold oM;refine ⟨by rw [dS,gK,tb];omega,fun c ay=>?_⟩;rcases gU.mp ay with ay | ay
 .rw [fG.mp ay];omega
 .exact al c (yM ay)
theorem akO (aK:l.length=8) (aZ:a < 8) (ah:i < 8) (aL:j < 8) (e:oW l a f i=oW l a f j):i=j:=by
 have af:∀ k,(oW l a f k)[a]? = some (97 + (f + k) % 26):=fun k=>by
  unfold oW;rw [q_,mK (by rw [gK];omega),gK,show a - min a l.length=0 by omega];rfl
 have ak:=af i;rw [e,af j] at ak;have:=dX ak;omega
theorem ai0 (ah:i < 8) (aL:j < 8) (e:oM l f i u=oM l f j v):i=j:=by
 unfold oM at e;have:=(xk e).1;omega
theorem Y1 {k:Nat} (h:k <= xs.length):m2 xs none (some ((k:Nat):Int))=xs.take k:=by
 unfold m2;rw [gn.XW,ad5 h,gn.YC];simp
noncomputable def six:List Str:=[ab "stage",ab "tram",ab "car",ab "foot",ab "ring",ab "free"]
theorem ah9 {x:Str} (e:x.cps.toList=l) (h0:1 <= l.length) (af:l.length <= 8) (al:∀ c ∈ l,97 <= c/\c <= 122):made x oc 8=true:=by
 have ag:x.length=x.cps.toList.length:=by simp [uC]
 exact ahC (by rw [ag,e];exact h0) (by rw [ag,e];exact af) (by rw [e];exact al)
def Fg (m:Nat) (xs:List Str):Prop:=xs.length=m/\xs.Nodup/\∀ x ∈ xs,made x oc 8=true
theorem Wn (h0:0 <= i) (af:i < 26):∃ c:Nat,hq (ab "abcdefghijklmnopqrstuvwxyz").cps.toList i=some c/\c=97 + i.toNat:=by
 have:∀ k,k < 26->hq (ab "abcdefghijklmnopqrstuvwxyz").cps.toList ((k:Nat):Int)=some (97 + k):=by ac_nf
 refine ⟨97 + i.toNat,?_,rfl⟩;have e:=this i.toNat (by omega);rwa [rP h0] at e
theorem Qe:∀ ys:List Str,(d7 ⟨#[]⟩ ys).cps.toList=(ys.map (·.cps.toList)).flatten
 | []=>rfl
 | [a]=>by
  show a.cps.toList=_;simp
 | a :: b :: r=>by
  show (a ++ ⟨#[]⟩ ++ d7 ⟨#[]⟩ (b :: r)).cps.toList=_;rw [o5,oT,o5,oT,Qe (b :: r)];simp
theorem P7 (f:Nat->Nat) (n:Nat):(pI (ab "") ((fW n).map fun i=>jq (f i))).cps.toList=(fW n).map f:=by
 rw [show pI (ab "") ((fW n).map fun i=>jq (f i))=d7 ⟨#[]⟩ ((fW n).map fun i=>jq (f i)) from w8 _ _,Qe,nr];have:((fun x:Str=>x.cps.toList) ∘ fun i=>jq (f i))=fun i=>[f i]:=rfl
 rw [this]
 induction (fW n) with
 | nil=>rfl
 | cons a l b7=>rw [eu,uN,b7];rfl
theorem aje:∀ m,m < 7->(six.take m).length=m/\(six.take m).Nodup/\∀ x ∈ six.take m,made x oc 8=true:=by ac_nf
def ab9 (K:ba) (a:Addr) (ns:List Int):bX:=fun vs H Q _=>∃ m:Nat,vs=[.ref a,.int m]/\Sc K a ns H/\(1 <= m/\m <= 8)/\∀ p xs I,aN H I->Sc K a ns I->H p=none->I p=some (.lst (aX xs))->Fg m xs->Q (.ref p) I
theorem YB (a:Addr) (ns:List Int) (hZ:ns.length <= 63):cv P base T 2 t.E1 t.Mj LA (ab9 K a ns):=by
 refine cB (Md T a ns hZ) fun ft=>?_;exists T.EP.ok qX,9
 obtain ⟨m,rfl,S,hm,q⟩:=h;have fb:(ab "abcdefghijklmnopqrstuvwxyz").length=26:=by ac_nf
 refine ⟨_,(aP (qv (i:=2) qX.aH rfl (nX rfl) dD)
   (aP (cg (i:=3) qX.aH (gF t5 Bq CK xS dD (ai (ij rfl (pe rfl T.o' (ai aM aE)) (g0 (sc:=bE KL) rfl (by ac_nf)) (N:=["_law_k","_law_letters","_law_script"]) (sel:=[none,some 2,some 0]) (gO (M:=["_law_script","_law_many","_law_letters","_law_base","_law_way","_law_at","_law_names_here","_law_k","_law_sign"]) (by ac_nf)) (fP.of (fun _ _ _ _=>(cu (i:=0) (eJ (N:=["_law_k","_law_letters","_law_script"]) (by ac_nf) rfl))) (fun _ _ _ _=>⟨_,i0,by walk_at "B"⟩) (fun _ _ _ _=>⟨_,(cE HY (U 1) (cH ft ao T.f6 T.fE.bJ T.f7 (ai (U 2) (ai (bP ez aM (U 0)) (ai aM aE))))),by walk_at "B"⟩))) aE)))
   (aP (cg (i:=4) qX.aH (cH ft ao T.f6 T.fE.bJ T.f7 (ai (U 0) (ai aM (ai aM aE)))))
   (aP (cg (i:=5) qX.aH (cH ft ao T.f6 T.fE.bJ T.f7 (ai (U 0) (ai aM (ai aM aE)))))
   (aP (cg (i:=6) qX.aH (gC aE))
   (aP (en (iC.pt (r3 (du fA (cH ft ao T.f6 T.fE.bJ T.f7 (ai (U 0) (ai aM (ai aM aE)))) aM (cR _)) (ts (du lV (U 1) aM (cR _))))) (a6 (cz (s7 SJ (gC (ai dD (ai dD (ai dD (ai dD (ai dD (ai dD aE))))))) sS (sD (U 1))))) fe)
   (aP (fp fj rfl (pe rfl T.o' (ai (U 1) aE)) (cu (i:=7) qX.aH) (aP (cg (i:=8) qX.aH (cE HY (U 2) (bP i' (bP ez (cH ft ao T.f6 T.fE.bJ T.f7 (ai (U 0) (ai aM (ai aM aE)))) (U 7)) aM)))
   (a6 (en (du fA (U 4) aM (cR _)) (a6 (eo (gF ja mc ng Re (U 6) (ai (bP lK (bP lK (s7 AD (U 3) sS (sD (U 5))) (U 8)) (s7 AD (U 3) (sD (bP ez (U 5) aM)) sS)) aE)))) (a6 (en (iC.pt (r3 (du fA (U 4) aM (cR _)) (ts (du lV (U 1) aM (cR _))))) (a6 (eo (gF ja mc ng Re (U 6) (ai (s7 AD (U 3) sS (sD (bP ez (U 7) aM))) aE)))) (a6 (eo (gF ja mc ng Re (U 6) (ai (bP lK (U 8) (s7 AD (U 3) sS (sD (cH ft ao T.f6 T.fE.bJ T.f7 (ai (U 0) (ai (bP ez aM (U 7)) (ai aM aE))))))) aE))))))))))
   (a6 (cz (U 6)))))))))),?_⟩
 exists (fun ax I=>I=H/\ax=[~~~a,some (.int m),some (.str (ab "abcdefghijklmnopqrstuvwxyz")),none,none,none,none,none,none]),3
 .nofun;exact cC _ _ ⟨rfl,rfl⟩
 rintro gf H1 ⟨rfl,rfl⟩;subst aV;exists (fun ax I=>aN H1 I/\Sc K a ns I/\∃ az:Str,az.cps.toList.length=8/\(∀ c ∈ az.cps.toList,97 <= c/\c <= 122)/\ax=[~~~a,some (.int m),some (.str (ab "abcdefghijklmnopqrstuvwxyz")),some (.str az),none,none,none,none,none]),3
 .nofun;refine ⟨by decide,by decide,?_⟩;refine dg.XF (n:=8) (fun i=>V.str (jq (97 + (dF ns (300 + (i:Int)) 26).toNat))) (by decide) (fun i N ah bu=>?_) (fun p aq=>?_)
  .have ec:=be ns (300 + (i:Int)) (m:=26) (by decide);have eX:=hK ns (300 + (i:Int)) (m:=26) (by decide);obtain ⟨c,ay,rfl⟩:=Wn ec eX;(nofun; repeat (dsimp only [jc];nofun));exact ⟨Sub.name,S,by omega,by omega,by decide,by rw [fb];decide,_,ay,bu⟩
  .have e:(fW 8).map (fun i:Nat=>V.str (jq (97 + (dF ns (300 + (i:Int)) 26).toNat)))=aX ((fW 8).map fun i:Nat=>jq (97 + (dF ns (300 + (i:Int)) 26).toNat)):=by unfold aX;rw [nr];rfl
   refine ⟨p,rfl,(fW 8).map fun i:Nat=>jq (97 + (dF ns (300 + (i:Int)) 26).toNat),by rw [<- e];exact aF.of db,?_,?_⟩
   .have af:(oJ (fun x:Str=>x.length) ((fW 8).map fun i:Nat=>jq (97 + (dF ns (300 + (i:Int)) 26).toNat))).sum=8:=by
     rw [nr];rfl
    rw [af,aO,uY];ac_nf
   .refine cC _ _ ⟨bf aq,S.new aq,_,?_,fun c ay=>?_,rfl⟩
    .rw [P7 (fun i:Nat=>97 + (dF ns (300 + (i:Int)) 26).toNat) 8,aO,uY]
    .rw [P7 (fun i:Nat=>97 + (dF ns (300 + (i:Int)) 26).toNat) 8] at ay;obtain ⟨i,_,rfl⟩:=cw.mp ay;have ec:=be ns (300 + (i:Int)) (m:=26) (by decide);have eX:=hK ns (300 + (i:Int)) (m:=26) (by decide);omega
 rintro cn av ⟨s2,qu,az,gu,zb,rfl⟩;have Ek:az.length=8:=by
  have:az.length=az.cps.toList.length:=by simp [uC]
  omega
 have adf:=be ns 310 (m:=3) (by decide);have amS:=hK ns 310 (m:=3) (by decide);subst aV;generalize pf:dF ns 310 3=way at adf amS;exists (fun ax I=>I=av/\ax=[~~~a,some (.int m),some (.str (ab "abcdefghijklmnopqrstuvwxyz")),some (.str az),some (.int way),none,none,none,none]),3
 ·(nofun; repeat (dsimp only [jc];nofun));rw [pf];exact ⟨qu,by omega,by omega,by decide,cC _ _ ⟨rfl,rfl⟩⟩
 rintro fT bk ⟨rfl,rfl⟩;obtain ⟨at_,ow,W9⟩:∃ at_:Nat,dF ns 311 8=(at_:Nat)/\at_ < 8:=by
  have ec:=be ns 311 (m:=8) (by decide);have eX:=hK ns 311 (m:=8) (by decide);exact ⟨(dF ns 311 8).toNat,by omega,by omega⟩
 subst aV;exists (fun ax I=>I=bk/\ax=[~~~a,some (.int m),some (.str (ab "abcdefghijklmnopqrstuvwxyz")),some (.str az),some (.int way),some (.int (at_:Nat)),none,none,none]),3
 ·(nofun; repeat (dsimp only [jc];nofun));rw [ow];exact ⟨qu,by omega,by omega,by omega,cC _ _ ⟨rfl,rfl⟩⟩
 rintro kj b5 ⟨rfl,rfl⟩;obtain ⟨f,hf,aoZ⟩:∃ f:Nat,dF ns 312 26=(f:Nat)/\f < 26:=by
  have ec:=be ns 312 (m:=26) (by decide);have eX:=hK ns 312 (m:=26) (by decide);exact ⟨(dF ns 312 26).toNat,by omega,by omega⟩
 subst aV;exists (fun ax I=>Sc K a ns I/\aN b5 I/\∃ dK,b5 dK=none/\I dK=some (.lst [])/\ax=[~~~a,some (.int m),some (.str (ab "abcdefghijklmnopqrstuvwxyz")),some (.str az),some (.int way),some (.int (at_:Nat)),~~~dK,none,none]),3
 .nofun;exact ⟨e5 _,fun dK hk=>cC _ _ ⟨qu.new hk,bf hk,dK,hk,db,rfl⟩⟩
 rintro mS fS ⟨yx,g6,dK,hk,oo,rfl⟩;subst aV;simp only [dT];refine Db (fun ax I=>I=fS/\ax=[~~~a,some (.int m),some (.str (ab "abcdefghijklmnopqrstuvwxyz")),some (.str az),some (.int way),some (.int (at_:Nat)),~~~dK,none,none]) (fun gm cC nu _ _=>?_) ?_
 .refine eg (decide (dF ns 313 8=0) && decide (m < 7)) (fun Q a9=>?_) (fun aa=>?_) (fun aa=>?_)
  ·(nofun; repeat (dsimp only [jc];nofun));refine ⟨yx,by decide,by decide,by decide,?_⟩;by_cases cO:dF ns 313 8=0
   .rw [if_pos (decide_eq_true cO),show decide ((m:Int) < 7)=decide (m < 7) from decide_eq_decide.mpr (by omega)];rw [decide_eq_true cO,mA] at a9;exact a9
   .rw [if_neg (by simpa using cO)];rw [decide_eq_false cO,nJ] at a9;exact a9
  .rw [jF,decide_eq_true_eq,decide_eq_true_eq] at aa;obtain ⟨b2,di,eB⟩:=aje m aa.2;nofun;refine ⟨by decide,fun p aq=>⟨_,aF.of db,fun dP ll=>?_⟩⟩;rw [nu];refine q dP (six.take m) _ (s2.trans (g6.trans ((bf aq).trans (bf ll)))) ((yx.new aq).new ll) ((s2.trans (g6.trans (bf aq))).free ll) ?_ ⟨b2,di,eB⟩;rw [db,Y1 (show m <= 6 by omega)];unfold aX six;rw [acs];rfl
  .simp only [jf];exact cC _ _ ⟨rfl,rfl⟩
 rintro kg gE ⟨rfl,rfl⟩;obtain ⟨g,bj⟩:∃ g:Nat->List Nat,g=fun k=>if way=0 then oW az.cps.toList at_ f k else if way=1 then xg az.cps.toList k else oM az.cps.toList f k (dF ns (320 + (k:Int)) 8).toNat:=⟨_,rfl⟩
 simp only [dT];exists (fun ax I=>Sc K a ns I/\aN b5 I/\(∃ xs:List Str,I dK=some (.lst (aX xs))/\xs.map (·.cps.toList)=(fW m).map g)/\∃ d5 dA,ax=[~~~a,some (.int m),some (.str (ab "abcdefghijklmnopqrstuvwxyz")),some (.str az),some (.int way),some (.int (at_:Nat)),~~~dK,d5,dA]),0
 .nofun;refine ⟨by omega,by omega,?_⟩;refine dY.range (fun i σ I=>Sc K a ns I/\aN b5 I/\(∃ xs:List Str,I dK=some (.lst (aX xs))/\xs.map (·.cps.toList)=(fW i).map g)/\∃ d5 dA,σ=[~~~a,some (.int m),some (.str (ab "abcdefghijklmnopqrstuvwxyz")),some (.str az),some (.int way),some (.int (at_:Nat)),~~~dK,d5,dA]) ⟨yx,g6,⟨[],oo,rfl⟩,_,_,rfl⟩ ?_ ?_
  .rintro i σ I ah bb;ac_rfl
   obtain ⟨y1,nT,⟨xs,oi,sz⟩,d5,dA,rfl⟩:=bb;have aop:i < 8:=by have:i < (m:Int).toNat:=ah;omega
   have lJ:xs.length=i:=by have:=congrArg ru sz;rwa [aO,aO,uY] at this
   obtain ⟨c,ay,rfl⟩:=Wn (i:=((f:Int) + (i:Int)) % 26) (BY _ (by decide)) (C0 _ (by decide));have XT:(((f:Int) + (i:Int)) % 26).toNat=(f + i) % 26:=by omega
   subst aV;rw [XT] at ay;simp only [gj,dT,jD,jn,rJ];exists (fun ax h2=>h2=I/\ax=[~~~a,some (.int m),some (.str (ab "abcdefghijklmnopqrstuvwxyz")),some (.str az),some (.int way),some (.int (at_:Nat)),~~~dK,some (.int (i:Nat)),some (.str (jq (97 + (f + i) % 26)))]),0
   ·(nofun; repeat (dsimp only [jc];nofun));rw [hf];exact ⟨y1,by decide,by decide,by decide,by decide,by rw [fb];decide,_,ay,cC _ _ ⟨rfl,rfl⟩⟩
   rintro ajs ew ⟨rfl,rfl⟩;have o3:∀ k:Nat,k <= 1000->k <= sizeLine:=fun k h=>c7 h (by decide)
   have ana:(jq (97 + (f + i) % 26)).length=1:=rfl;have put:∀ nm:Str,nm.cps.toList=g i->Sc K a ns (upd ew dK (.lst (aX xs ++ [.str nm])))/\aN b5 (upd ew dK (.lst (aX xs ++ [.str nm])))/\(∃ ys:List Str,(upd ew dK (.lst (aX xs ++ [.str nm]))) dK=some (.lst (aX ys))/\ys.map (·.cps.toList)=(fW (i + 1)).map g):=fun nm lG=>by
    refine ⟨y1.set oi (fun _ _ z=>by cases z),nT.gW hk,xs ++ [nm],?_,?_⟩
    .rw [db];unfold aX;rw [fx];rfl
    .rw [fx,sz,y5,fx,eu,q2,lG];rfl
   have JP:(aX xs).length < sizeLine:=f5 (show (aX xs).length <= 8 by unfold aX;rw [aO];omega) (by decide);subst aV;dsimp only;refine eg (decide (way=0)) (fun Q a9=>?_) (fun Lx=>?_) (fun J9=>?_)
   .nofun;exact a9
   .have hw:=of_decide_eq_true Lx;have tQ:g i=oW az.cps.toList at_ f i:=by rw [bj];exact if_pos hw
    have cA:=v7 az none (some (at_:Int));have cW:=v7 az (some ((at_:Int) + 1)) none;nofun;refine ⟨.inl ⟨_,aF.of oi⟩,by rw [Ek];decide,o3 _ (by omega),by rw [Ek];decide,o3 _ (by rw [o9];omega),_,oi,JP,?_⟩;obtain ⟨dP,d3,o1⟩:=put (lI az none (some (at_:Int)) ++ jq (97 + (f + i) % 26) ++ lI az (some ((at_:Int) + 1)) none) (by
     rw [tQ];unfold oW;rw [o5,oT,o5,oT,Iz az (by omega),show ((at_:Int) + 1)=((at_ + 1:Nat):Int) by omega,aaU az (by omega)]
     rfl)
    exact ⟨dP,d3,o1,_,rfl⟩
   .have hw:=of_decide_eq_false J9;refine eg (decide (way=1)) (fun Q a9=>?_) (fun Lx=>?_) (fun J9=>?_)
    .nofun;by_cases bZ:way=1
     .rw [if_pos (decide_eq_true bZ),decide_eq_true (show (m:Int) < 9 by omega)];rw [decide_eq_true bZ] at a9;exact a9
     .rw [if_neg (by simpa using bZ)];rw [decide_eq_false bZ] at a9;exact a9
    .have yO:=of_decide_eq_true Lx;have tQ:g i=xg az.cps.toList i:=by rw [bj];exact (if_neg hw).trans (if_pos yO)
     nofun;refine ⟨.inl ⟨_,aF.of oi⟩,by rw [Ek];decide,_,oi,JP,?_⟩;obtain ⟨dP,d3,o1⟩:=put (lI az none (some ((i:Int) + 1))) (by
      rw [tQ,show ((i:Int) + 1)=((i + 1:Nat):Int) by omega,Iz az (by omega)]
      rfl)
     exact ⟨dP,d3,o1,_,rfl⟩
    .have yO:=of_decide_eq_false J9;have tQ:g i=oM az.cps.toList f i (dF ns (320 + (i:Int)) 8).toNat:=by rw [bj];exact (if_neg hw).trans (if_neg yO)
     have ec:=be ns (320 + (i:Int)) (m:=8) (by decide);have eX:=hK ns (320 + (i:Int)) (m:=8) (by decide);(nofun; repeat (dsimp only [jc];nofun));obtain ⟨CH,TJ⟩:∃ CH:Nat,dF ns (320 + (i:Int)) 8=(CH:Int):=⟨_,(rP ec).symm⟩;rw [TJ] at tQ eX;rw [TJ];rw [rq] at tQ;have cA:=v7 az none (some (CH:Int));refine ⟨.inl ⟨_,aF.of oi⟩,y1,by omega,by omega,by decide,by rw [Ek];decide,o3 _ (by omega),_,oi,JP,?_⟩;obtain ⟨dP,d3,o1⟩:=put (jq (97 + (f + i) % 26) ++ lI az none (some (CH:Int))) (by
      rw [tQ];unfold oM;rw [o5,oT,Iz az (by omega)]
      rfl)
     exact ⟨dP,d3,o1,_,rfl⟩
  .rintro σ I bb;ac_rfl
   obtain ⟨y1,nT,⟨xs,oi,sz⟩,d5,dA,rfl⟩:=bb;subst aV;exact cC _ _ ⟨y1,nT,⟨xs,oi,by rw [sz,show (m:Int).toNat=m by omega]⟩,d5,dA,rfl⟩
 rintro sF hz ⟨acb,h8,⟨xs,J1,sz⟩,d5,dA,rfl⟩;have lJ:xs.length=m:=by have:=congrArg ru sz;rwa [aO,aO,uY] at this
 have aaF:∀ k:Nat,(dF ns (320 + (k:Int)) 8).toNat < 8:=fun k=>by
  have ec:=be ns (320 + (k:Int)) (m:=8) (by decide);have eX:=hK ns (320 + (k:Int)) (m:=8) (by decide);omega
 have ak9:∀ k,k < m->(1 <= (g k).length/\(g k).length <= 8)/\∀ c ∈ g k,97 <= c/\c <= 122:=fun k aC=>by
  rw [bj];dsimp only;split
  .have:=Yz gu zb (f:=f) (k:=k) W9;exact ⟨by omega,this.2⟩
  .split
   .have:=Ke gu zb (k:=k) (by omega);exact ⟨by omega,this.2⟩
   .exact abS gu zb (aaF k)
 have adu:∀ i j,i < m->j < m->g i=g j->i=j:=fun i j ah aL e=>by
  rw [bj] at e;dsimp only at e;by_cases cO:way=0
  .rw [if_pos cO,if_pos cO] at e;exact akO gu W9 (by omega) (by omega) e
  .rw [if_neg cO,if_neg cO] at e;by_cases bZ:way=1
   .rw [if_pos bZ,if_pos bZ] at e;have af:=Ke gu zb (k:=i) (by omega);have ak:=Ke gu zb (k:=j) (by omega);rw [e] at af;omega
   .rw [if_neg bZ,if_neg bZ] at e;exact ai0 (by omega) (by omega) e
 have I4:∀ (i:Nat) (x:Str),xs[i]? = some x->i < m/\x.cps.toList=g i:=fun i x ag=>by
  have ah:i < m:=by rw [<- lJ];exact (cb.mp ag).1
  have e:=congrArg (fun l=>l[i]?) sz
  try dsimp only at e
  rw [dO,ag,dO,List.getElem?_range ah] at e;exact ⟨ah,dX e⟩
 have N:Fg m xs:=by
  refine ⟨lJ,ad'.mpr fun i j ah aL oQ e=>?_,fun x ag=>?_⟩
  .obtain ⟨a1,a2⟩:=I4 i _ (bo ah);obtain ⟨hi,gD⟩:=I4 j _ (bo aL);rw [e,gD] at a2;have:=adu i j a1 hi a2.symm;omega
  .obtain ⟨i,ah⟩:=iG ag;obtain ⟨a1,a2⟩:=I4 i _ ah;have:=ak9 i a1;exact ah9 a2 this.1.1 this.1.2 this.2
 subst aV;nofun;exact q dK xs hz (s2.trans h8) acb (s2.free hk) J1 N
noncomputable abbrev kx (d:bl):List V:=[.str (eR d.k),.str d.name,.int d.start,.int d.fin,.int d.off,.int d.near,.int d.least]
def i3 (H:au) (wl:Addr) (ds:List bl):Prop:=∃ qs:List Addr,H wl=some (.lst (qs.map V.ref))/\qs.length=ds.length/\∀ (i:Nat) (q:Addr) (d:bl),qs[i]? = some q->ds[i]? = some d->H q=some (.tup (kx d))
theorem i3.same (h:i3 H wl ds) (s:aN H I):i3 I wl ds:=by
 obtain ⟨qs,aw,aG,al⟩:=h;exact ⟨qs,s _ _ aw,aG,fun i q d af ak=>s _ _ (al i q d af ak)⟩
theorem i3.snoc {H:au} {wl p:Addr} {ds:List bl} {d:bl} {qs:List Addr} (cA:H wl=some (.lst (qs.map V.ref))) (cW:qs.length=ds.length)
  (al:∀ (i:Nat) (q:Addr) (d:bl),qs[i]? = some q->ds[i]? = some d->H q=some (.tup (kx d))) (aq:H p=none) :
  i3 (upd (upd H p (.tup (kx d))) wl (.lst (qs.map V.ref ++ [.ref p]))) wl (ds ++ [d]):=by
 have hM:p ≠ wl:=(dj cA aq).symm;refine ⟨qs ++ [p],by rw [db,fx];rfl,by rw [dS,dS,cW];rfl,fun i q e af ak=>?_⟩;rcases nt af with ⟨eV,es⟩ | ⟨eV,rfl⟩
 .rcases nt ak with ⟨mJ,iP⟩ | ⟨mJ,_⟩
  .have:=al i q e es iP;rw [aA (br this cA (by intro z;cases z)),aA (dj this aq)];exact this
  .omega
 .rcases nt ak with ⟨mJ,iP⟩ | ⟨mJ,rfl⟩
  .omega
  .rw [aA hM,db]
theorem XQ {n s j:Int} (h0:0 <= s) (af:s < n) (ak:0 <= j) (bc:j < n - 1):s ≠ (s + 1 + j) % n:=by
 by_cases c:s + 1 + j < n
 .rw [x9 (by omega) c];omega
 .rw [show s + 1 + j=(s + 1 + j - n) + n * 1 by omega,Int.add_mul_emod_self_left,x9 (by omega) (by omega)];omega
structure tD (n:Int) (ds:List bl):Prop where
 al:∀ d ∈ ds,p4 n d/\True
 aH:(ds.map (·.name)).Nodup
theorem tD.Np (h:tD n ds) (a3:2 <= n/\n <= 99) (aK:1 <= ds.length/\ds.length <= 12):sJ n ds:=⟨a3,aK,fun d hd=>(h.al d hd).1,h.aH⟩
def Va (K:ba) (a:Addr) (ns:List Int):bX:=fun vs H Q _=>∃ most:Int,vs=[.ref a,.int most]/\(1 <= most/\most <= 8)/\Sc K a ns H /\
 ∀ jB wl n ds I,aN H I->Sc K a ns I->I jB=some (.tup [.int n,.ref wl])->i3 I wl ds->tD n ds->(∀ d ∈ ds,d.least <= 4)->(4 <= n/\n <= 99)->(1 <= ds.length/\(ds.length:Int) <= most)->Q (.ref jB) I
theorem adO (h0:0 <= i) (af:i < 4):∃ k:Nat,k < 3/\hq [V.str (ab "car"),V.str (ab "car"),V.str (ab "foot"),V.str (ab "tram")] i=some (.str (eR k)):=by
 have:i=0\/i=1\/i=2\/i=3:=by omega
 rcases this with rfl | rfl | rfl | rfl
 .exact ⟨0,by decide,cy (j:=0) rfl⟩
 .exact ⟨0,by decide,cy (j:=1) rfl⟩
 .exact ⟨1,by decide,cy (j:=2) rfl⟩
 .exact ⟨2,by decide,cy (j:=3) rfl⟩
theorem at2 (x y:V) (c:Bool):hq [x,y] (if c=true then 1 else 0)=some (if c=true then y else x):=by
 cases c with
 | true=>exact cy (j:=1) rfl
 | false=>exact cy (j:=0) rfl
theorem afF (a:Addr) (ns:List Int) (hZ:ns.length <= 63):cv P base T 3 t.Di t.im CA (Va K a ns):=by
 refine cB (Md T a ns hZ) fun ft=>cB (YB T a ns hZ) fun aku=>?_;exists T.Ga.ok m8,9
 obtain ⟨most,rfl,aoI,S,q⟩:=h;refine ⟨_,(aP (cg (i:=2) m8.aH (cE ed (gC (ai (bP ez aM (cH ft ao T.f6 T.fE.bJ T.f7 (ai (U 0) (ai aM (ai aM aE))))) (ai aM aE))) (j' WN rfl T.Jz Jh (ai (ie fA (cH ft ao T.f6 T.fE.bJ T.f7 (ai (U 0) (ai aM (ai aM aE)))) aM (cR _)) aE))))
   (aP (cg (i:=3) m8.aH (cH aku ao T.al2 T.EP.bJ T.amW (ai (U 0) (ai (bP ez aM (cH ft ao T.f6 T.fE.bJ T.f7 (ai (U 0) (ai aM (ai (U 1) aE))))) aE))))
   (aP (cg (i:=4) m8.aH (gC aE))
   (aP (fp fj rfl (pe rfl T.o' (ai (gi i9 rfl T.iI iT (ai (U 3) aE)) aE)) (cu (i:=5) m8.aH) (aP (cg (i:=6) m8.aH (cH ft ao T.f6 T.fE.bJ T.f7 (ai (U 0) (ai (bP ez aM (bP jG aM (U 5))) (ai (U 2) aE)))))
   (aP (cg (i:=7) m8.aH (bP i' (bP ez (bP ez (U 6) aM) (cH ft ao T.f6 T.fE.bJ T.f7 (ai (U 0) (ai (bP ez aM (bP jG aM (U 5))) (ai (bP lA (U 2) aM) aE))))) (U 2)))
   (aP (cg (i:=8) m8.aH (cE ed (gC (ai dD (ai dD (ai dD (ai dD aE))))) (cH ft ao T.f6 T.fE.bJ T.f7 (ai (U 0) (ai (bP ez aM (bP jG aM (U 5))) (ai aM aE))))))
   (aP (cg (i:=9) m8.aH (cE ed (gC (ai (cH ft ao T.f6 T.fE.bJ T.f7 (ai (U 0) (ai (bP ez aM (bP jG aM (U 5))) (ai aM aE)))) (ai aM aE))) (j' WN rfl T.Jz Jh (ai (ie fA (cH ft ao T.f6 T.fE.bJ T.f7 (ai (U 0) (ai (bP ez aM (bP jG aM (U 5))) (ai aM aE)))) aM (cR _)) aE))))
   (aP (cg (i:=10) m8.aH (cH ft ao T.f6 T.fE.bJ T.f7 (ai (U 0) (ai (bP ez aM (bP jG aM (U 5))) (ai aM aE)))))
   (aP (en (iC.pt (r3 (du fA (cH ft ao T.f6 T.fE.bJ T.f7 (ai (U 0) (ai aM (ai aM aE)))) aM (cR _)) (ts (du ot (cH ft ao T.f6 T.fE.bJ T.f7 (ai (U 0) (ai (bP ez aM (U 5)) (ai aM aE)))) aM (cR _))))) (aP (cg (i:=8) m8.aH dD)
   (a6 (cg (i:=9) m8.aH aM))) fe)
   (a6 (eo (gF ja mc ng Re (U 4) (ai (pQ (ai (U 8) (ai (cE ed (U 3) (U 5)) (ai (U 6) (ai (U 7) (ai (U 9) (ai (U 10) (ai (bP ez aM (cH ft ao T.f6 T.fE.bJ T.f7 (ai (U 0) (ai (bP ez aM (bP jG aM (U 5))) (ai aM aE))))) aE)))))))) aE)))))))))))
   (a6 (cz (pQ (ai (U 2) (ai (U 4) aE))))))))),?_⟩
 exists (fun ax I=>aN H I/\Sc K a ns I/\∃ n:Int,(4 <= n/\n <= 99)/\ax=[~~~a,some (.int most),some (.int n),none,none,none,none,none,none,none,none]),3
 .have ec:=be ns 2 (m:=13) (by decide);have eX:=hK ns 2 (m:=13) (by decide);(nofun; repeat (dsimp only [jc];nofun));obtain ⟨n,a3,uS⟩:∃ n:Int,(4 <= n/\n <= 99)/\(if decide (dF ns 3 6=0)=true then V.int 99 else V.int (4 + dF ns 2 13))=V.int n:=by
   split
   .exact ⟨99,by decide,rfl⟩
   .exact ⟨_,by omega,rfl⟩
  refine ⟨S,by decide,by decide,by decide,by decide,fun p aq=>⟨S.new aq,by decide,by decide,by decide,_,aF.of db,_,at2 _ _ _,?_⟩⟩;rw [uS];exact cC _ _ ⟨bf aq,S.new aq,n,a3,rfl⟩
 rintro aqj bU ⟨s0,Du,n,a3,rfl⟩;obtain ⟨m,ahe,hm⟩:∃ m:Nat,1 + dF ns 1 most=(m:Nat)/\(1 <= m/\m <= 8/\(m:Int) <= most):=by
  have ec:=be ns 1 (m:=most) (by omega);have eX:=hK ns 1 (m:=most) (by omega);exact ⟨(1 + dF ns 1 most).toNat,by omega,by omega⟩
 subst aV;exists (fun ax I=>aN bU I/\Sc K a ns I/\∃ nl xs,I nl=some (.lst (aX xs))/\Fg m xs/\ax=[~~~a,some (.int most),some (.int n),~~~nl,none,none,none,none,none,none,none]),3
 .nofun;refine ⟨_,_,rfl,Du,by decide,by omega,_,rfl,?_⟩;rw [ahe];exact ⟨m,rfl,Du,by omega,fun p xs I s1 n3 _ e N=>cC _ _ ⟨s1,n3,p,xs,e,N,rfl⟩⟩
 rintro gf H1 ⟨s1,n3,nl,xs,uS,N,rfl⟩;subst aV;exists (fun ax I=>Sc K a ns I/\aN H1 I/\∃ wl,H1 wl=none/\I wl=some (.lst [])/\ax=[~~~a,some (.int most),some (.int n),~~~nl,~~~wl,none,none,none,none,none,none]),3
 .nofun;exact ⟨e5 _,fun wl gu=>cC _ _ ⟨n3.new gu,bf gu,wl,gu,db,rfl⟩⟩
 rintro fT bk ⟨Fp,s3,wl,gu,hL,rfl⟩;have VH:(aX xs).length=m:=by unfold aX;rw [aO,N.1]
 subst aV;nofun;refine ⟨_,.inl (aF.of (s3 _ _ uS)),by omega,by rw [VH];omega,?_⟩;rw [show (((aX xs).length:Nat):Int).toNat=m by rw [VH];rfl];refine dY.range (fun i σ I=>Sc K a ns I/\aN H1 I/\(∃ ds,i3 I wl ds/\ds.length=i/\(∀ d ∈ ds,p4 n d/\d.least <= 4)/\∀ (j:Nat) (d:bl),ds[j]? = some d->xs[j]? = some d.name)/\∃ ey dB d5 dA nK iS,σ=[~~~a,some (.int most),some (.int n),~~~nl,~~~wl,ey,dB,d5,dA,nK,iS]) ⟨Fp,s3,⟨[],⟨[],hL,rfl,fun i q d h=>by simp at h⟩,rfl,fun d h=>by simp at h,fun j d h=>by simp at h⟩,_,_,_,_,_,_,rfl⟩ ?_ ?_
 .rintro i σ I ah bb;ac_rfl
  obtain ⟨jQ,s4,⟨ds,w',fq,bh,lG⟩,ey,dB,d5,dA,nK,iS,rfl⟩:=bb;have AZ:i < m:=ah;have Bi:xs[i]? = some (xs[i]'(by rw [N.1];exact AZ)):=bo _;subst aV;generalize xs[i]'(by rw [N.1];exact AZ)=nm at Bi;have ad0:=s4 _ _ uS;have ad1:hq (aX xs) ((i:Nat):Int)=some (.str nm):=cy (by unfold aX;rw [dO,Bi];rfl);simp only [gj,dT,jD,jn,rJ];exists (fun ax h2=>h2=I/\∃ st:Int,(0 <= st/\st < n)/\ax=[~~~a,some (.int most),some (.int n),~~~nl,~~~wl,some (.int (i:Nat)),some (.int st),d5,dA,nK,iS]),0
  .have ec:=be ns (10 + 7 * (i:Int)) (m:=n) (by omega);have eX:=hK ns (10 + 7 * (i:Int)) (m:=n) (by omega);(nofun; repeat (dsimp only [jc];nofun));exact ⟨.inl ⟨by decide,by decide⟩,jQ,by omega,by omega,by omega,cC _ _ ⟨rfl,_,⟨ec,eX⟩,rfl⟩⟩
  rintro ajs ew ⟨rfl,st,gd,rfl⟩;subst aV;simp only [dT];exists (fun ax h2=>h2=ew/\∃ fs:Int,(0 <= fs/\fs < n)/\st ≠ fs/\ax=[~~~a,some (.int most),some (.int n),~~~nl,~~~wl,some (.int (i:Nat)),some (.int st),some (.int fs),dA,nK,iS]),0
  .have ec:=be ns (11 + 7 * (i:Int)) (m:=n - 1) (by omega);have eX:=hK ns (11 + 7 * (i:Int)) (m:=n - 1) (by omega);have m0:=BY (st + 1 + dF ns (11 + 7 * (i:Int)) (n - 1)) (show n ≠ 0 by omega);have hJ:=C0 (st + 1 + dF ns (11 + 7 * (i:Int)) (n - 1)) (show 0 < n by omega);(nofun; repeat (dsimp only [jc];nofun));exact ⟨.inl ⟨by decide,by decide⟩,jQ,by omega,by omega,by omega,by omega,cC _ _ ⟨rfl,_,⟨m0,hJ⟩,XQ gd.1 gd.2 ec (by omega),rfl⟩⟩
  rintro aos ik ⟨rfl,fs,FU,cx,rfl⟩;subst aV;simp only [dT];exists (fun ax h2=>aN ik h2/\Sc K a ns h2/\∃ k:Nat,k < 3/\ax=[~~~a,some (.int most),some (.int n),~~~nl,~~~wl,some (.int (i:Nat)),some (.int st),some (.int fs),some (.str (eR k)),nK,iS]),0
  .have ec:=be ns (12 + 7 * (i:Int)) (m:=4) (by decide);have eX:=hK ns (12 + 7 * (i:Int)) (m:=4) (by decide);obtain ⟨k,aC,ow⟩:=adO ec eX;(nofun; repeat (dsimp only [jc];nofun));exact ⟨by decide,fun p aq=>⟨.inl ⟨by decide,by decide⟩,jQ.new aq,by omega,by omega,by decide,_,aF.of db,_,ow,cC _ _ ⟨bf aq,jQ.new aq,k,aC,rfl⟩⟩⟩
  rintro aoh nC ⟨fV,SC,nc,h4,rfl⟩;subst aV;simp only [dT];exists (fun ax h2=>aN nC h2/\Sc K a ns h2/\∃ r6:Int,(0 <= r6/\r6 <= 30)/\ax=[~~~a,some (.int most),some (.int n),~~~nl,~~~wl,some (.int (i:Nat)),some (.int st),some (.int fs),some (.str (eR nc)),some (.int r6),iS]),0
  .have ec:=be ns (13 + 7 * (i:Int)) (m:=9) (by decide);have eX:=hK ns (13 + 7 * (i:Int)) (m:=9) (by decide);(nofun; repeat (dsimp only [jc];nofun));obtain ⟨v,aJ,uS⟩:∃ v:Int,(0 <= v/\v <= 30)/\(if decide (dF ns (14 + 7 * (i:Int)) 12=0)=true then V.int 30 else V.int (dF ns (13 + 7 * (i:Int)) 9))=V.int v:=by
    split
    .exact ⟨30,by decide,rfl⟩
    .exact ⟨_,by omega,rfl⟩
   refine ⟨.inl ⟨by decide,by decide⟩,SC,by omega,by omega,by decide,by decide,fun p aq=>⟨.inl ⟨by decide,by decide⟩,SC.new aq,by omega,by omega,by decide,_,aF.of db,_,at2 _ _ _,?_⟩⟩;rw [uS];exact cC _ _ ⟨bf aq,SC.new aq,v,aJ,rfl⟩
  rintro apl yi ⟨j9,w4,NA,agg,rfl⟩;subst aV;simp only [dT];exists (fun ax h2=>h2=yi/\∃ Jn:Int,(0 <= Jn/\Jn <= 5)/\ax=[~~~a,some (.int most),some (.int n),~~~nl,~~~wl,some (.int (i:Nat)),some (.int st),some (.int fs),some (.str (eR nc)),some (.int NA),some (.int Jn)]),0
  .have ec:=be ns (15 + 7 * (i:Int)) (m:=6) (by decide);have eX:=hK ns (15 + 7 * (i:Int)) (m:=6) (by decide);(nofun; repeat (dsimp only [jc];nofun));exact ⟨.inl ⟨by decide,by decide⟩,w4,by omega,by omega,by decide,cC _ _ ⟨rfl,_,by omega,rfl⟩⟩
  rintro apS w7 ⟨rfl,ne1,acZ,rfl⟩;subst aV;simp only [dT];exists (fun ax h2=>h2=w7/\∃ (k:Nat) (r6:Int),k < 3/\(0 <= r6/\r6 <= 30)/\ax=[~~~a,some (.int most),some (.int n),~~~nl,~~~wl,some (.int (i:Nat)),some (.int st),some (.int fs),some (.str (eR k)),some (.int r6),some (.int ne1)]),0
  .refine eg (decide (dF ns 9 6=0) && decide (0 < dF ns (60 + (i:Int)) 4)) (fun Q a9=>?_) (fun _=>?_) (fun _=>?_)
   ·(nofun; repeat (dsimp only [jc];nofun));refine ⟨w4,by omega,by omega,by decide,?_⟩;by_cases cO:dF ns 9 6=0
    .rw [if_pos (decide_eq_true cO)];rw [decide_eq_true cO,mA] at a9;exact ⟨w4,by omega,by omega,by decide,a9⟩
    .rw [if_neg (by simpa using cO)];rw [decide_eq_false cO,nJ] at a9;exact a9
   .nofun;exact cC _ _ ⟨rfl,1,0,by decide,by decide,rfl⟩
   .nofun;exact cC _ _ ⟨rfl,nc,NA,h4,agg,rfl⟩
  rintro ap' Gi ⟨rfl,k,of2,aC,Z9,rfl⟩;have jL:=fV.trans j9;have ahT:=jL _ _ ad0;have amL:=w'.same jL;have ec:=be ns (16 + 7 * (i:Int)) (m:=4) (by decide);have eX:=hK ns (16 + 7 * (i:Int)) (m:=4) (by decide);obtain ⟨ud,X1,hle⟩:∃ ud:Int,1 + dF ns (16 + 7 * (i:Int)) 4=ud/\1 <= ud/\ud <= 4:=⟨_,rfl,by omega,by omega⟩;obtain ⟨qs,cA,cW,al⟩:=amL;subst aV;(nofun; repeat (dsimp only [jc];nofun));rw [X1];refine ⟨.inl ⟨_,aF.of cA⟩,_,aF.of ahT,_,ad1,.inl ⟨by decide,by decide⟩,w4,by omega,by omega,by decide,by decide,fun p aq=>?_⟩;have c5:wl ≠ p:=dj cA aq;have ag_:=i3.snoc (d:=⟨k,nm,st,fs,of2,ne1,ud⟩) cA cW al aq;refine ⟨_,by rw [aA c5];exact cA,f5 (show (qs.map V.ref).length <= 8 by rw [aO];omega) (by decide),(w4.new aq).set (by rw [aA c5];exact cA) (fun _ _ z=>by cases z),((s4.trans jL).trans (bf aq)).gW gu,⟨ds ++ [⟨k,nm,st,fs,of2,ne1,ud⟩],ag_,by rw [dS,fq];rfl,fun d hd=>?_,fun j d hd=>?_⟩,?_⟩
  .rcases gU.mp hd with hd | hd
   .exact bh d hd
   .rw [fG.mp hd];exact ⟨⟨aC,N.2.2 nm (cQ Bi),⟨gd.1,gd.2⟩,⟨FU.1,FU.2⟩,cx,Z9,⟨acZ.1,by dsimp only;omega⟩,⟨hle.1,by dsimp only;omega⟩⟩,hle.2⟩
  .rcases nt hd with ⟨_,z⟩ | ⟨z,rfl⟩
   .exact lG j d z
   .rw [z,fq];exact Bi
  .repeat (first | exact ⟨_,rfl⟩ | refine ⟨⟨_,rfl⟩,?_⟩)
 .rintro σ I bb;ac_rfl
  obtain ⟨jQ,s4,⟨ds,w',fq,bh,lG⟩,ey,dB,d5,dA,nK,iS,rfl⟩:=bb;subst aV;nofun;refine ⟨by decide,fun jB px=>?_⟩;refine q jB wl n ds _ (((s0.trans s1).trans s4).trans (bf px)) (jQ.new px) db (w'.same (bf px)) ⟨fun d hd=>⟨(bh d hd).1,trivial⟩,?_⟩ (fun d hd=>(bh d hd).2) a3 (by omega);have e:ds.map (·.name)=xs:=by
   refine List.ext_getElem? fun j=>?_
   rw [dO];cases h:ds[j]? with
   | some d=>exact (lG j d h).symm
   | none=>
    have:ds.length <= j:=IP.mp h;exact (IP.mpr (by rw [N.1];omega)).symm
  rw [e];exact N.2.1
theorem agm (d:bl):((((eR d.k ++ ab " ") ++ d.name) ++ ab " ") ++ pI (ab " ") [num d.start,num d.fin,num d.off,num d.near,num d.least])=d7 cI (bn d):=by
 apply zC;have gh:(ab " ").cps.toList=[32]:=by ac_nf
 rw [show pI (ab " ") [num d.start,num d.fin,num d.off,num d.near,num d.least]=d7 cI [num d.start,num d.fin,num d.off,num d.near,num d.least] from w8 _ _];rw [o5,oT,CE,rk,rk];unfold bn;simp only [o5,oT,eu,q2,k0,gh,q_,xn,Hm]
theorem abb (n:Int):ab "ring " ++ num n=d7 cI [ab "ring",num n]:=by
 apply zC;have aw:(ab "ring ").cps.toList=[114,105,110,103,32]:=by ac_nf
 have aG:(ab "ring").cps.toList=[114,105,110,103]:=by ac_nf
 rw [CE,rk];simp only [o5,oT,eu,q2,k0,aw,aG,xn,Hm]
theorem zF:∀ {ys:List Str},(∀ y ∈ ys,y.length <= B)->(ys.map (·.length)).sum <= ys.length * B
 | [],_=>by simp
 | a :: r,h=>by
  have af:=h a (by simp);have ak:=zF (B:=B) (ys:=r) fun y aY=>h y (iu _ aY)
  rw [eu,G3,hT,anr];omega
theorem afD (h:sJ n ds):∀ y ∈ (iw n ds).map (d7 cI),y.length <= 63:=fun y aY=>by
 obtain ⟨r,ao,rfl⟩:=cw.mp aY;have:=p8 cI 8 r fun x ag=>(h.plain r ao x ag).1
 rw [q'] at this;have aK:r.length <= 7:=by
  rcases eZ.mp ao with rfl | ao
  .simp
  .obtain ⟨d,hd,rfl⟩:=cw.mp ao;simp [bn]
 omega
def UD (K:ba):bX:=fun vs H Q _=>∃ n wl ds,vs=[.int n,.ref wl]/\i3 H wl ds/\tD n ds/\(2 <= n/\n <= 99)/\(1 <= ds.length/\ds.length <= 12)/\aI H/\Q (.str (pG n ds)) H
def ZN (K:ba):bX:=fun vs H Q _=>∃ n wl ds,vs=[.int n,.ref wl]/\i3 H wl ds/\tD n ds/\(2 <= n/\n <= 99)/\(1 <= ds.length/\ds.length <= 12)/\∀ I,aN H I->Q (.str (pG n ds)) I
theorem afX:cv P base T 1 t.BE t.am Aj (UD K):=by
 refine cJ.forget (sp:=ZN K) ?_ fun vs H Q E h=>?_
 .exists T.F9.ok sn,9
  obtain ⟨n,wl,ds,rfl,L,D,a3,aK,q⟩:=h;refine ⟨_,(aP (cg (i:=2) sn.aH (gC (ai (bP lK dD (j' yb rfl T.w2 yy (ai (U 0) aE))) aE)))
   (aP (fp fj rfl (eS (U 1)) (cu (i:=3) sn.aH) (a6 (eo (gF ja mc ng Re (U 2) (ai (bP lK (bP lK (bP lK (bP lK (cE re (U 3) aM) dD) (cE re (U 3) aM)) dD) (gF t5 Bq CK xS dD (ai (ij rfl (X8 (s7 aa6 (U 3) (sD aM) sS)) (g0 (sc:=bE FT) rfl (by ac_nf)) (N:=["_law_number"]) (sel:=[none]) (gO (M:=["_law_places","_law_ways_here","_law_rows","_law_way"]) (by ac_nf)) (fP.of (fun _ _ _ _=>(cu (i:=0) (eJ (N:=["_law_number"]) (by ac_nf) rfl))) (fun _ _ _ _=>⟨_,i0,by walk_at "B"⟩) (fun _ _ _ _=>⟨_,(j' yb rfl T.w2 yy (ai (U 0) aE)),by walk_at "B"⟩))) aE))) aE)))))
   (a6 (cz (gF t5 Bq CK xS dD (ai (U 2) aE)))))),?_⟩
  have cV:=D.Np a3 aK;obtain ⟨qs,cA,cW,al⟩:=L;have hlen:∀ x:Str,qg x->x.length <= 8:=fun x h=>h.1
  have o3:∀ k:Nat,k <= 1000->k <= sizeLine:=fun k h=>c7 h (by decide)
  have al_:(ab "ring ").length=5:=by ac_nf
  have AQ:(ab " ").length=1:=by ac_nf
  nofun;have aoy:(ab (toString n)).length <= 8:=(k6 (v:=n) (by omega) (by omega)).1;refine ⟨Mw (by omega),o3 _ (by rw [al_];omega),by decide,fun dK C1=>?_⟩;rw [abb];have s0:aN H (upd H dK (.lst [V.str (d7 cI [ab "ring",num n])])):=bf C1;refine ⟨⟨_,aF.of (s0 _ _ cA)⟩,?_⟩;refine dY.list (xs:=qs.map V.ref) (fun i σ I=>aN H I/\I dK=some (.lst (aX ((iw n (ds.take i)).map (d7 cI))))/\∃ x,σ=[some (.int n),~~~wl,~~~dK,x]) ?_ ?_ ?_ ?_
  .exact ⟨s0,db,none,rfl⟩
  .rintro i σ I ah ⟨bg,_,_⟩;exact aF.of (bg _ _ cA)
  .rintro i v σ I aJ bb;ac_rfl
   obtain ⟨bg,ao,x,rfl⟩:=bb;obtain ⟨dV,aD,rfl⟩:=cm aJ;have l9:i < ds.length:=by rw [<- cW];exact (cb.mp aD).1
   have hd:ds[i]? = some ds[i]:=bo l9;have hG:de K I dV (kx ds[i]):=de.of (bg _ _ (al i dV _ aD hd));have hw:=(D.al _ (cQ hd)).1;have hi:=hw.st;have gD:=hw.fs;have m7:=hw.of;have oh:=hw.JO;have rL:=hw.le;have eV:=hlen _ (PU ds[i].k);have es:=hlen _ (Mz hw.nm);have qe:(num ds[i].start).length <= 8:=hlen _ (k6 (v:=ds[i].start) (by omega) (by omega));have pN:(num ds[i].fin).length <= 8:=hlen _ (k6 (v:=ds[i].fin) (by omega) (by omega));have qz:(num ds[i].off).length <= 8:=hlen _ (k6 (v:=ds[i].off) (by omega) (by omega));have apE:(num ds[i].least).length <= 8:=hlen _ (k6 (v:=ds[i].least) (by omega) (by omega));have apv:(num ds[i].near).length <= 8:=hlen _ (k6 (v:=ds[i].near) (by omega) (by omega));subst aV;nofun;refine ⟨.inl ⟨_,aF.of ao⟩,?_⟩;have acR:hq (kx ds[i]) 0=some (.str (eR ds[i].k)):=cy (j:=0) rfl;have YA:hq (kx ds[i]) 1=some (.str ds[i].name):=cy (j:=1) rfl;refine ⟨_,hG,_,acR,_,rfl,o3 _ (by omega),_,hG,_,YA,_,rfl,o3 _ (by rw [o9];omega),o3 _ (by simp only [o9];omega),?_⟩;have Lw:m2 (kx ds[i]) (some 2) none=[.int ds[i].start,.int ds[i].fin,.int ds[i].off,.int ds[i].near,.int ds[i].least]:=rfl;refine ⟨_,hG,?_,fun p aq=>⟨⟨_,de.of db⟩,?_⟩⟩
   .show ¬ (gn.dh 7 0 (some 2)=0/\gn.dh 7 7 none=7);decide
   rw [Lw];have apn:(pI (ab " ") [num ds[i].start,num ds[i].fin,num ds[i].off,num ds[i].near,num ds[i].least]).length <= 50:=by
    rw [show pI (ab " ") [num ds[i].start,num ds[i].fin,num ds[i].off,num ds[i].near,num ds[i].least]=d7 cI [num ds[i].start,num ds[i].fin,num ds[i].off,num ds[i].near,num ds[i].least] from w8 _ _];have:=p8 cI 8 [num ds[i].start,num ds[i].fin,num ds[i].off,num ds[i].near,num ds[i].least] (fun y aY=>by
     simp only [eZ,qD,or_false] at aY;rcases aY with rfl | rfl | rfl | rfl | rfl <;> assumption)
    rw [q'] at this;simp only [hT,wz] at this;omega
   refine dg.alB (xs:=[.int ds[i].start,.int ds[i].fin,.int ds[i].off,.int ds[i].near,.int ds[i].least]) (zs:=aX [num ds[i].start,num ds[i].fin,num ds[i].off,num ds[i].near,num ds[i].least]) (de.of db) (o3 _ (show 5 <= 1000 by decide)) rfl (fun j v z N aJ aW bu=>?_) (fun d3 hY=>?_)
   .have key:∃ a:Int,v=.int a/\z=.str (num a)/\0 <= a/\a < 100:=by
     match j,aJ,aW with
     | 0,aJ,aW=>cases aJ;cases aW;exact ⟨_,rfl,rfl,hi.1,by omega⟩
     | 1,aJ,aW=>cases aJ;cases aW;exact ⟨_,rfl,rfl,gD.1,by omega⟩
     | 2,aJ,aW=>cases aJ;cases aW;exact ⟨_,rfl,rfl,m7.1,by omega⟩
     | 3,aJ,aW=>cases aJ;cases aW;exact ⟨_,rfl,rfl,oh.1,by omega⟩
     | 4,aJ,aW=>cases aJ;cases aW;exact ⟨_,rfl,rfl,by omega,by omega⟩
     | k + 5,aJ,aW=>simp at aJ
    obtain ⟨a,rfl,rfl,apR,an_⟩:=key;nofun;exact ⟨Sub.name,Mw (by omega),bu⟩
   .nofun;have al6:dK ≠ d3:=by
     rintro rfl;rw [aA (dj ao aq)] at hY;rw [hY] at ao;cases ao
    have hk:(upd (upd I p (.tup [.int ds[i].start,.int ds[i].fin,.int ds[i].off,.int ds[i].near,.int ds[i].least])) d3 (.lst (aX [num ds[i].start,num ds[i].fin,num ds[i].off,num ds[i].near,num ds[i].least]))) dK=some (.lst (aX ((iw n (ds.take i)).map (d7 cI)))):=by
     rw [aA al6,aA (dj ao aq)];exact ao
    have oI:aN I (upd (upd I p (.tup [.int ds[i].start,.int ds[i].fin,.int ds[i].off,.int ds[i].near,.int ds[i].least])) d3 (.lst (aX [num ds[i].start,num ds[i].fin,num ds[i].off,num ds[i].near,num ds[i].least]))):=(bf aq).trans (bf hY);have UC:=aF.of (K:=K) (H:=upd (upd I p (.tup [.int ds[i].start,.int ds[i].fin,.int ds[i].off,.int ds[i].near,.int ds[i].least])) d3 (.lst (aX [num ds[i].start,num ds[i].fin,num ds[i].off,num ds[i].near,num ds[i].least]))) (a:=d3) db;generalize upd (upd I p (.tup [.int ds[i].start,.int ds[i].fin,.int ds[i].off,.int ds[i].near,.int ds[i].least])) d3 (.lst (aX [num ds[i].start,num ds[i].fin,num ds[i].off,num ds[i].near,num ds[i].least]))=av at hk oI UC ⊢;refine ⟨_,UC,?_,o3 _ (by simp only [o9];omega),_,hk,?_,?_,?_,_,rfl⟩
    .simp only [eu,q2,G3,List.sum_nil,hT,wz];omega
    .rw [fz,aO];exact f5 (show (iw n (ds.take i)).length <= 13 by unfold iw;rw [hT,aO,gK];omega) (by decide)
    .exact fun b u e=>by rw [aA (dj e C1)];exact oI _ _ (bg _ _ e)
    .rw [db,agm ds[i]];congr 2;unfold iw aX;simp;rw [pw,dO,hd];rfl
  .rintro σ I bb;ac_rfl
   obtain ⟨bg,ao,x,rfl⟩:=bb;subst aV;nofun;rw [aO,cW,hB] at ao;refine ⟨_,aF.of ao,?_,?_⟩
   .have hZ:∀ y ∈ (iw n ds).map (d7 cI),y.length <= 63:=afD cV;have apM:((iw n ds).map (d7 cI)).length <= 13:=by
     unfold iw;rw [aO,hT,aO];omega
    have:=zF hZ;rw [show (ab "\n").length=1 by ac_nf];omega
   .have:=q I bg;unfold pG at this;rw [show pI (ab "\n") ((iw n ds).map (d7 cI))=d7 nl ((iw n ds).map (d7 cI)) from w8 _ _];exact this
 .obtain ⟨n,wl,ds,af,ak,bc,c4,e3,bG,q⟩:=h;exact ⟨bG,n,wl,ds,af,ak,bc,c4,e3,fun I bg=>⟨bg,q⟩⟩
def alX (K:ba):bX:=fun vs H Q _=>∃ n a b d e,vs=[.ref a,.ref b,.int n]/\de K H a (kx d)/\de K H b (kx e)/\p4 n d/\p4 n e/\Q (.bB (mt n d e)) H
noncomputable def h3 (d e:bl):Bool:=decide (d.k=2) == decide (e.k=2)
def akn (K:ba):bX:=fun vs H Q _=>∃ wl ds,∃ i j:Nat,∃ d e,vs=[.ref wl,.int i,.int j]/\i3 H wl ds/\ds[i]? = some d/\ds[j]? = some e/\d.k < 3/\e.k < 3/\Q (.bB (h3 d e)) H
theorem aaG:cv P base T 1 t.LQ t.L7 JR (alX K):=by
 exists T.Lk.ok Av,9
 obtain ⟨n,a,b,d,e,rfl,rM,uT,hd,he,q⟩:=h;refine ⟨_,(aP (en (du fA (cE re (U 0) aM) (cE re (U 1) aM) (cR _)) (a6 (cz ox)) fe)
   (aP (en (iC.pt (sv (du fA (cE re (U 0) aM) (cE re (U 1) aM) (cR _)) (sv (du fA (cE re (U 0) aM) (cE re (U 1) aM) (cR _)) (t9 (du fA (cE re (U 0) aM) (cE re (U 1) aM) (cR _)))))) (a6 (cz ox)) fe)
   (aP (cg (i:=3) Av.aH (bP i' (bP lA (cE re (U 0) aM) (cE re (U 0) aM)) (U 2)))
   (aP (cg (i:=4) Av.aH (bP i' (bP lA (cE re (U 1) aM) (cE re (U 0) aM)) (U 2)))
   (aP (cg (i:=5) Av.aH (bP i' (bP lA (cE re (U 1) aM) (cE re (U 0) aM)) (U 2)))
   (a6 (cz (ie sR (ie lV (U 4) (U 3) (cR _)) (ie lV (U 5) (U 3) (cR _)) (cR _))))))))),?_⟩
 have a2:hq (kx d) 2=some (.int d.start):=cy (j:=2) rfl;have fM:hq (kx d) 3=some (.int d.fin):=cy (j:=3) rfl;have gD:hq (kx e) 2=some (.int e.start):=cy (j:=2) rfl;have m7:hq (kx e) 3=some (.int e.fin):=cy (j:=3) rfl;have f1:=hd.st;have f2:=hd.fs;have eM:=he.st;have f4:=he.fs;refine eg (decide (d.fin=e.fin)) (fun Q a9=>?_) (fun c=>?_) (fun c=>?_)
 .nofun;refine ⟨_,rM,_,fM,_,uT,_,m7,rfl,?_⟩;nofun;exact a9
 .nofun;unfold mt ti at q;rw [c,tI] at q;exact q
 .have c':=of_decide_eq_false c;nofun;refine eg (decide (d.start=e.start) || (decide (d.start=e.fin) || decide (d.fin=e.start))) (fun Q a9=>?_) (fun aa=>?_) (fun aa=>?_)
  .nofun;refine ⟨_,rM,_,a2,_,uT,_,gD,rfl,?_⟩;by_cases bZ:d.start=e.start
   .rw [if_pos (by simp [bZ])];rw [decide_eq_true bZ,tI] at a9;exact a9
   .rw [if_neg (by simpa using bZ)];refine ⟨_,rM,_,a2,_,uT,_,m7,rfl,?_⟩;by_cases ct:d.start=e.fin
    .rw [if_pos (by simp [ct])];rw [decide_eq_false bZ,decide_eq_true ct,lF,tI] at a9;exact a9
    .rw [if_neg (by simpa using ct)];refine ⟨_,rM,_,fM,_,uT,_,gD,rfl,?_⟩;rw [decide_eq_false bZ,decide_eq_false ct,lF,lF] at a9;rw [show decide (V.int d.fin=V.int e.start)=decide (d.fin=e.start) from decide_eq_decide.mpr (by simp)];exact a9
  .nofun;unfold mt ti at q;rw [c,lF,if_pos (by
    rw [yH,yH,decide_eq_true_eq,decide_eq_true_eq,decide_eq_true_eq] at aa
    omega)] at q
   exact q
  .rw [Aa,Aa,decide_eq_false_iff_not,decide_eq_false_iff_not,decide_eq_false_iff_not] at aa;have qa:0 < n:=by omega
   have dP:0 < (e.start - d.start) % n:=by rw [Ax f1.1 f1.2 eM.1 eM.2];split <;> omega
   have d3:0 < (e.fin - d.start) % n:=by rw [Ax f1.1 f1.2 f4.1 f4.2];split <;> omega
   unfold mt ti kM at q;rw [c,lF,if_neg (by omega),decide_eq_true dP,decide_eq_true d3,mA,mA] at q;nofun;refine ⟨_,rM,_,fM,_,rM,_,a2,_,rfl,_,rfl,qa,_,uT,_,gD,_,rM,_,a2,_,rfl,_,rfl,qa,_,uT,_,m7,_,rM,_,a2,_,rfl,_,rfl,qa,?_⟩;generalize decide ((e.start - d.start) % n < (d.fin - d.start) % n)=X at q ⊢;generalize decide ((e.fin - d.start) % n < (d.fin - d.start) % n)=Y at q ⊢;cases X <;> cases Y <;> exact q
theorem ajZ:cv P base T 1 t.Lv t.GX IW (akn K):=by
 exists T.Kz.ok RV,9
 obtain ⟨wl,ds,i,j,d,e,rfl,⟨qs,cA,cW,al⟩,ah,aL,aC,gP,q⟩:=h;have ha:qs[i]? = some (qs[i]'(by rw [cW];exact (cb.mp ah).1)):=bo _;have eY:qs[j]? = some (qs[j]'(by rw [cW];exact (cb.mp aL).1)):=bo _;have DE:=al i _ d ha ah;have I_:=al j _ e eY aL;have ta:=cy (xs:=qs.map V.ref) (j:=i) (by rw [dO,ha];rfl);have J6:=cy (xs:=qs.map V.ref) (j:=j) (by rw [dO,eY];rfl);refine ⟨_,(aP (cg (i:=3) RV.aH (ie fA (cE re (cE ed (U 0) (U 1)) aM) dD (cR _)))
   (a6 (cz (ie fA (U 3) (ie fA (cE re (cE ed (U 0) (U 2)) aM) dD (cR _)) (cR _))))),?_⟩
 nofun;refine ⟨_,aF.of cA,_,ta,_,rfl,_,de.of DE,_,cy (j:=0) rfl,rfl,_,aF.of cA,_,J6,_,rfl,_,de.of I_,_,cy (j:=0) rfl,rfl,?_⟩;have af:∀ k,k < 3->decide (V.str (eR k)=V.str (ab "tram"))=decide (k=2):=by ac_nf
 rw [af d.k aC,af e.k gP];unfold h3 at q;rw [show decide (decide (d.k=2)=decide (e.k=2))=(decide (d.k=2) == decide (e.k=2)) from rfl];exact q
structure j6 (bU H:au) (gl:Addr) (qs:List Addr) (bY:List (List Nat)):Prop where
 af:H gl=some (.lst (qs.map V.ref))
 ak:qs.length=bY.length
 bc:qs.Nodup
 c4:gl ∉ qs
 e3:∀ (i:Nat) (q:Addr) (g:List Nat),qs[i]? = some q->bY[i]? = some g->H q=some (.lst (g.map fun k:Nat=>V.int k))
 iO:∀ q ∈ qs,bU q=none
theorem j6.same (h:j6 bU H gl qs bY) (s:aN H I):j6 bU I gl qs bY:=
 ⟨s _ _ h.af,h.ak,h.bc,h.c4,fun i q g a b=>s _ _ (h.e3 i q g a b),h.iO⟩
structure jv (n:Int) (ds:List bl) (m:Nat) (bY:List (List Nat)):Prop where
 ne:∀ g ∈ bY,g ≠ []
 pm:bY.flatten.Perm (fW m)
 Bn:∀ g ∈ bY,∀ i ∈ g,∀ j ∈ g,i ≠ j->∀ d e,ds[i]? = some d->ds[j]? = some e->mt n d e=false
 al:∀ g ∈ bY,∀ i ∈ g,∀ j ∈ g,∀ d e,ds[i]? = some d->ds[j]? = some e->h3 d e=true
theorem jv.nil (n:Int) (ds:List bl):jv n ds 0 []:=⟨by simp,by simp,by simp,by simp⟩
theorem vC:h3 y z=true↔(y.k=2↔z.k=2):=by
 unfold h3;simp
theorem agV (h:h3 y z=true):h3 z y=true:=vC.mpr (vC.mp h).symm
theorem aem {x y z:bl} (h:h3 x y=true) (h':h3 y z=true):h3 x z=true:=vC.mpr ((vC.mp h).trans (vC.mp h'))
theorem j6.off {gl x:Addr} (h:j6 bU H gl qs bY) (ag:x ≠ gl) (aD:x ∉ qs):j6 bU (upd H x o) gl qs bY:=
 ⟨by rw [aA (cX ag)];exact h.af,h.ak,h.bc,h.c4,fun i q g a b=>by rw [aA (fun z=>aD (by rw [<- z];exact cQ a))];exact h.e3 i q g a b,h.iO⟩
theorem RQ (l:List α) (i:Nat) (a:α):(ins l i a).Perm (l ++ [a]):=by
 unfold ins;refine aav.trans ?_;rw [M8];exact (agT (l₁:=[a]) (l₂:=l))
theorem amN:∀ {l l':List (List α)},l.Perm l'->l.flatten.Perm l'.flatten:=fun h=>h.flatten
theorem Vd:∀ {bY:List (List Nat)} {j:Nat} {g g':List Nat} {k:Nat},bY[j]? = some g->g'.Perm (g ++ [k])->(bY.set j g').flatten.Perm (bY.flatten ++ [k])
 | [],j,g,g',k,h,_=>by simp at h
 | pb :: bY,0,g,g',k,h,p=>by
  cases (show pb=g by simpa using h);show (g' :: bY).flatten.Perm _;rw [uN,uN,q_];refine (p.append_right _).trans ?_;rw [q_];exact YU pb agT
 | pb :: bY,j + 1,g,g',k,h,p=>by
  rw [xd] at h;show (pb :: bY.set j g').flatten.Perm _;rw [uN,uN,q_];exact YU pb (Vd h p)
theorem jv.put (S:jv n ds m bY) {j p:Nat} (bj:bY[j]? = some g) (hd:ds[m]? = some d)
  (A5:∀ i ∈ g,∀ e,ds[i]? = some e->mt n e d=false/\mt n d e=false/\h3 e d=true):jv n ds (m + 1) (bY.set j (ins g p m)):=by
 have oz:=cQ bj;refine ⟨fun x ag=>?_,?_,fun x ag i ah iW fR cx e bM he hP=>?_,fun x ag i ah iW fR e bM he hP=>?_⟩
 .rcases R_ ag with z | z
  .exact S.ne x z
  .rw [z];unfold ins;simp
 .rw [y5];exact (Vd bj (RQ g p m)).trans (S.pm.append_right [m])
 .rcases R_ ag with z | z
  .exact S.Bn x z i ah iW fR cx e bM he hP
  .rw [z] at ah fR;rcases n1 ah with u | u
   .subst u;rw [hd] at he;cases he;rcases n1 fR with v | v
    .exact absurd v.symm cx
    .exact (A5 iW v bM hP).2.1
   .rcases n1 fR with v | v
    .subst v;rw [hd] at hP;cases hP;exact (A5 i u e he).1
    .exact S.Bn g oz i u iW v cx e bM he hP
 .rcases R_ ag with z | z
  .exact S.al x z i ah iW fR e bM he hP
  .rw [z] at ah fR;have self:∀ y:bl,h3 y y=true:=fun y=>by unfold h3;simp
   have sym:∀ y z:bl,h3 y z=true->h3 z y=true:=fun y z h=>agV h
   rcases n1 ah with u | u
   .subst u;rw [hd] at he;cases he;rcases n1 fR with v | v
    .subst v;rw [hd] at hP;cases hP;exact self _
    .exact sym _ _ (A5 iW v bM hP).2.2
   .rcases n1 fR with v | v
    .subst v;rw [hd] at hP;cases hP;exact (A5 i u e he).2.2
    .exact S.al g oz i u iW v e bM he hP
theorem jv.new (S:jv n ds m bY) (p:Nat):jv n ds (m + 1) (ins bY p [m]):=by
 have self:∀ y:bl,h3 y y=true:=fun y=>by unfold h3;simp
 refine ⟨fun x ag=>?_,?_,fun x ag i ah iW fR cx e bM he hP=>?_,fun x ag i ah iW fR e bM he hP=>?_⟩
 .rcases n1 ag with z | z
  .rw [z];simp
  .exact S.ne x z
 .rw [y5];refine (amN (RQ bY p [m])).trans ?_;rw [aml];simpa using S.pm.append_right [m]
 .rcases n1 ag with z | z
  .rw [z] at ah fR;exact absurd ((fG.mp ah).trans (fG.mp fR).symm) cx
  .exact S.Bn x z i ah iW fR cx e bM he hP
 .rcases n1 ag with z | z
  .rw [z] at ah fR;rw [fG.mp ah] at he;rw [fG.mp fR,he] at hP;cases hP;exact self _
  .exact S.al x z i ah iW fR e bM he hP
theorem j6.put (h:j6 bU H gl qs bY) (aD:qs[j]? = some q) (aL:j < bY.length) :
  j6 bU (upd H q (.lst (g'.map fun k:Nat=>V.int k))) gl qs (bY.set j g'):=by
 obtain ⟨af,ak,bc,c4,e3,iO⟩:=h;have lX:gl ≠ q:=fun z=>c4 (by rw [z];exact cQ aD)
 refine ⟨by rw [aA lX];exact af,by rw [OW];exact ak,bc,c4,fun i r g a b=>?_,iO⟩;by_cases c:i=j
 .subst c;rw [aD] at a;cases a;rw [NU aL] at b;cases b;exact db
 .rw [H' (fun e=>c e.symm)] at b;have cx:r ≠ q:=fun e=>by
   subst e;obtain ⟨a1,hi⟩:=cb.mp a;obtain ⟨a2,gD⟩:=cb.mp aD;exact c ((tP bc).mp (hi.trans gD.symm))
  rw [aA cx];exact e3 i r g a b
theorem j6.new {gl p:Addr} {k:Nat} (h:j6 bU H gl qs bY) (h0:aN bU H) (aq:H p=none) (aC:k <= bY.length) :
  j6 bU (upd (upd H p (.lst (g.map fun k:Nat=>V.int k))) gl (.lst ((ins qs k p).map V.ref))) gl (ins qs k p) (ins bY k g):=by
 have RX:gl ≠ p:=dj h.af aq;have Yc:p ∉ qs:=fun z=>by
  obtain ⟨i,ah⟩:=iG z;have L_:i < bY.length:=by rw [<- h.ak];exact (cb.mp ah).1
  have e:=h.e3 i p _ ah (bo L_);rw [aq] at e;cases e
 have Xd:k <= qs.length:=by rw [h.ak];exact aC
 refine ⟨db,by rw [Tn Xd,Tn aC,h.ak],aee h.bc Yc,fun z=>?_,fun i q g' a b=>?_,fun q aD=>?_⟩
 .rcases n1 z with z | z
  .exact RX z
  .exact h.c4 z
 .rw [v_ Xd] at a;rw [v_ aC] at b;have keep:∀ {i:Nat} {q:Addr} {g':List Nat},qs[i]? = some q->bY[i]? = some g'->upd (upd H p (.lst (g.map fun k:Nat=>V.int k))) gl (.lst ((ins qs k p).map V.ref)) q=some (.lst (g'.map fun k:Nat=>V.int k)):=fun {i q g'} a b=>by
   have e:=h.e3 i q g' a b;have lX:q ≠ gl:=fun z=>h.c4 (by rw [<- z];exact cQ a)
   rw [aA lX,aA (dj e aq)];exact e
  by_cases bZ:i < k
  .rw [if_pos bZ] at a b;exact keep a b
  .rw [if_neg bZ] at a b;by_cases ct:i=k
   .rw [if_pos ct] at a b;cases a;cases b;rw [aA (cX RX),db]
   .rw [if_neg ct] at a b;exact keep a b
 .rcases n1 aD with z | z
  .rw [z];exact h0.free aq
  .exact h.iO q z
structure hI where
 lo:Int
 ah:Int
 fI:List Nat
structure ou (H:au) (cf:Addr) (qs ms:List Addr) (a7:List hI):Prop where
 at_:H cf=some (.lst (qs.map V.ref))
 cA:qs.length=a7.length
 cW:ms.length=a7.length
 al:∀ (i:Nat) (q m:Addr) (s:hI),qs[i]? = some q->ms[i]? = some m->a7[i]? = some s->H q=some (.tup [.int s.lo,.int s.ah,.ref m])/\H m=some (.lst (s.fI.map fun k:Nat=>V.int k))
theorem ou.same (h:ou H cf qs ms a7) (s:aN H I):ou I cf qs ms a7:=
 ⟨s _ _ h.at_,h.cA,h.cW,fun i q m r a b c=>⟨s _ _ (h.al i q m r a b c).1,s _ _ (h.al i q m r a b c).2⟩⟩
structure AI (n:Int) (ds:List bl) (a7:List hI):Prop where
 bL:jv n ds ds.length (a7.map (·.fI))
 le:∀ s ∈ a7,∀ i ∈ s.fI,∀ d,ds[i]? = some d->d.least <= s.lo
 bd:∀ s ∈ a7,1 <= s.lo/\s.lo <= 21/\s.lo <= s.ah/\s.ah <= 40
theorem jv.len (S:jv n ds m bY):bY.length <= m/\bY.flatten.length=m:=by
 have af:=S.pm.length_eq;rw [uY] at af;have:∀ {bY:List (List Nat)},(∀ g ∈ bY,g ≠ [])->bY.length <= bY.flatten.length:=fun {bY}=>by
  induction bY with
  | nil=>intro _;simp
  | cons g bY b7=>
   intro h;have a1:=b7 fun x ag=>h x (iu _ ag)
   have a2:=SX.mpr (h g (by simp));rw [uN,dS,hT];omega
 have:=this S.ne;omega
theorem jv.lt (S:jv n ds m bY) (bj:g ∈ bY) (ah:i ∈ g):i < m:=sq.mp (S.pm.mem_iff.mp (RA.mpr ⟨g,bj,ah⟩))
theorem jv.FL (S:jv n ds m bY) (bj:g ∈ bY):g.length <= m:=by
 have af:=(ae7 bj).length_le;have:=S.len.2;omega
theorem Xp (h0:0 <= i) (af:i < 6):∃ mo:Int,(1 <= mo/\mo <= 20)/\hq [V.int 4,V.int 4,V.int 4,V.int 4,V.int 4,V.int 20] i=some (.int mo):=by
 have:i=0\/i=1\/i=2\/i=3\/i=4\/i=5:=by omega
 rcases this with rfl | rfl | rfl | rfl | rfl | rfl
 .exact ⟨4,by decide,cy (j:=0) rfl⟩
 .exact ⟨4,by decide,cy (j:=1) rfl⟩
 .exact ⟨4,by decide,cy (j:=2) rfl⟩
 .exact ⟨4,by decide,cy (j:=3) rfl⟩
 .exact ⟨4,by decide,cy (j:=4) rfl⟩
 .exact ⟨20,by decide,cy (j:=5) rfl⟩
def Tr (K:ba):bX:=fun vs H Q _=>∃ (a:Addr) (ns:List Int) (n:Int) (wl:Addr) (ds:List bl),vs=[.ref a,.int n,.ref wl]/\ns.length <= 63/\aF K H a (ns.map V.int)/\aI H/\i3 H wl ds/\tD n ds/\(∀ d ∈ ds,d.least <= 4)/\(1 <= ds.length/\ds.length <= 8) /\
 ∀ cf qs ms a7 I,aN H I->aI I->ou I cf qs ms a7->AI n ds a7->Q (.ref cf) I
theorem ahV:cv P base T 2 t.AJ t.Cr B7 (Tr K):=by
 refine cB (ajh T) fun ft=>cB (aaG T) fun aaw=>cB (ajZ T) fun aey=>?_;exists T.Tl.ok k9,9
 obtain ⟨a,ns,n,wl,ds,rfl,hZ,S,bG,L,D,hle,fq,q⟩:=h;obtain ⟨qo,cA,cW,IY⟩:=id L;have ji:(qo.map V.ref).length=ds.length:=by rw [aO,cW]
 have xp:∀ (i:Nat) (d:bl),ds[i]? = some d->∃ qO,hq (qo.map V.ref) (i:Int)=some (.ref qO)/\H qO=some (.tup (kx d)):=fun i d hd=>by
  have ha:qo[i]? = some (qo[i]'(by rw [cW];exact (cb.mp hd).1)):=bo _;exact ⟨_,cy (by rw [dO,ha];rfl),IY i _ d ha hd⟩
 refine ⟨_,(aP (cg (i:=3) k9.aH (gC aE))
   (aP (fp fj rfl (pe rfl T.o' (ai (gi i9 rfl T.iI iT (ai (U 2) aE)) aE)) (cu (i:=4) k9.aH) (aP (cg (i:=5) k9.aH (gC aE))
   (aP (fp fj rfl (pe rfl T.o' (ai (gi i9 rfl T.iI iT (ai (U 3) aE)) aE)) (cu (i:=6) k9.aH) (aP (cg (i:=7) k9.aH (cH aey ao T.SB T.Kz.bJ T.Z1 (ai (U 2) (ai (cE ed (cE ed (U 3) (U 6)) aM) (ai (U 4) aE)))))
   (aP (fp fj rfl (eS (cE ed (U 3) (U 6))) (cu (i:=8) k9.aH) (a6 (cg (i:=7) k9.aH (y9 (U 7) (u7 (Uu (cH aaw ao T.Y4 T.Lk.bJ T.TD (ai (cE ed (U 2) (U 8)) (ai (cE ed (U 2) (U 4)) (ai (U 1) aE))))))))))
   (a6 (en (qd (U 7)) (a6 (eo (gF ja mc ng Re (U 5) (ai (U 6) aE)))) fe)))))
   (a6 (en (iC.pt (r3 (du ot (gi i9 rfl T.iI iT (ai (U 5) aE)) aM (cR _)) (ts (du ot (cH ft ao T.f6 T.fE.bJ T.f7 (ai (U 0) (ai (bP ez aM (U 4)) (ai aM aE)))) aM (cR _))))) (aP (cg (i:=6) k9.aH (cE ed (U 5) (cH ft ao T.f6 T.fE.bJ T.f7 (ai (U 0) (ai (bP ez aM (U 4)) (ai (gi i9 rfl T.iI iT (ai (U 5) aE)) aE))))))
   (a6 (eo (gF ja Us aji S3 (cE ed (U 3) (U 6)) (ai (cH ft ao T.f6 T.fE.bJ T.f7 (ai (U 0) (ai (bP ez aM (U 4)) (ai (bP ez (gi i9 rfl T.iI iT (ai (cE ed (U 3) (U 6)) aE)) aM) aE)))) (ai (U 4) aE)))))) (a6 (eo (gF ja Us aji S3 (U 3) (ai (cH ft ao T.f6 T.fE.bJ T.f7 (ai (U 0) (ai (bP ez aM (U 4)) (ai (bP ez (gi i9 rfl T.iI iT (ai (U 3) aE)) aM) aE)))) (ai (gC (ai (U 4) aE)) aE))))))))))
   (aP (cg (i:=9) k9.aH (gC aE))
   (aP (fp fj rfl (pe rfl T.o' (ai (gi i9 rfl T.iI iT (ai (U 3) aE)) aE)) (cu (i:=6) k9.aH) (aP (cg (i:=10) k9.aH (bP ez (gi (Vf rfl) rfl T.J7 Ka (ai (ij rfl (eS (cE ed (U 3) (U 6))) (g0 (sc:=bE J0) rfl (by ac_nf)) (N:=z4) (sel:=[none,some 2]) (gO (M:=["_law_script","_law_places","_law_ways_here","_law_some","_law_k","_law_fits","_law_j","_law_good","_law_i","_law_stages_here","_law_low","_law_more"]) (by ac_nf)) (fP.of (fun _ _ _ _=>(cu (i:=0) (eJ (N:=z4) (by ac_nf) rfl))) (fun _ _ _ _=>⟨_,i0,by walk_at "B"⟩) (fun _ _ _ _=>⟨_,(cE re (cE ed (U 1) (U 0)) aM),by walk_at "B"⟩))) aE)) (cH ft ao T.f6 T.fE.bJ T.f7 (ai (U 0) (ai (bP ez aM (U 6)) (ai aM aE))))))
   (aP (en (du fA (cH ft ao T.f6 T.fE.bJ T.f7 (ai (U 0) (ai (bP ez aM (U 6)) (ai aM aE)))) aM (cR _)) (a6 (cg (i:=10) k9.aH (bP ez (U 10) aM))) fe)
   (aP (cg (i:=11) k9.aH (cE ed (gC (ai aM (ai aM (ai aM (ai aM (ai aM (ai aM aE))))))) (cH ft ao T.f6 T.fE.bJ T.f7 (ai (U 0) (ai (bP ez aM (U 6)) (ai aM aE))))))
   (a6 (eo (gF ja mc ng Re (U 9) (ai (pQ (ai (U 10) (ai (bP ez (U 10) (cH ft ao T.f6 T.fE.bJ T.f7 (ai (U 0) (ai (bP ez aM (U 6)) (ai (U 11) aE))))) (ai (cE ed (U 3) (U 6)) aE)))) aE))))))))
   (a6 (cz (U 9))))))),?_⟩
 exists (fun ax I=>aN H I/\aI I/\∃ gl,H gl=none/\I gl=some (.lst [])/\ax=[~~~a,some (.int n),~~~wl,~~~gl,none,none,none,none,none,none,none,none]),3
 .nofun;exact ⟨e5 _,fun gl xf=>cC _ _ ⟨bf xf,bG.upd,gl,xf,db,rfl⟩⟩
 rintro gf H1 ⟨s1,b9,gl,xf,dJ,rfl⟩;subst aV;exists (fun ax I=>aN H I/\aI I/\(∃ qs bY,j6 H I gl qs bY/\jv n ds ds.length bY)/\∃ dw ey dB d5 dA,ax=[~~~a,some (.int n),~~~wl,~~~gl,dw,ey,dB,d5,dA,none,none,none]),3
 .nofun;refine ⟨_,.inl (aF.of (s1 _ _ cA)),by omega,by rw [ji];omega,?_⟩;rw [show (((qo.map V.ref).length:Nat):Int).toNat=ds.length by rw [ji];rfl];refine dY.range (fun k σ I=>aN H I/\aI I/\(∃ qs bY,j6 H I gl qs bY/\jv n ds k bY)/\∃ dw ey dB d5 dA,σ=[~~~a,some (.int n),~~~wl,~~~gl,dw,ey,dB,d5,dA,none,none,none]) ⟨s1,b9,⟨[],[],⟨dJ,rfl,IH,by simp,fun i q g h=>by simp at h,fun q h=>by simp at h⟩,jv.nil n ds⟩,_,_,_,_,_,rfl⟩ ?_ ?_
  .rintro k σ I aC bb;ac_rfl
   obtain ⟨s2,ck,⟨qs,bY,G,km⟩,dw,ey,dB,d5,dA,rfl⟩:=bb;have p5:ds[k]? = some ds[k]:=bo aC;subst aV;generalize anN:ds[k]=d at p5;have hd:=(D.al d (cQ p5)).1;have abk:=km.len;simp only [gj,dT,jD,jn,rJ];exists (fun ax av=>aN I av/\aI av/\∃ et,I et=none/\av et=some (.lst [])/\ax=[~~~a,some (.int n),~~~wl,~~~gl,some (.int (k:Nat)),~~~et,dB,d5,dA,none,none,none]),0
   .nofun;exact ⟨e5 _,fun et nV=>cC _ _ ⟨bf nV,ck.upd,et,nV,db,rfl⟩⟩
   rintro cn av ⟨s3,dy,et,nV,hL,rfl⟩;have adC:et ≠ gl:=fun e=>by rw [e,G.af] at nV;cases nV
   have aeB:et ∉ qs:=fun z=>by
    obtain ⟨i,ah⟩:=iG z;have L_:i < bY.length:=by rw [<- G.ak];exact (cb.mp ah).1
    have e:=G.e3 i et _ ah (bo L_);rw [nV] at e;cases e
   subst aV;simp only [dT];exists (fun ax bk=>aN I bk/\aI bk/\j6 H bk gl qs bY/\(∃ aR:List Nat,bk et=some (.lst (aR.map fun k:Nat=>V.int k))/\aR.length <= bY.length/\∀ f ∈ aR,∃ g,bY[f]? = some g/\∀ i ∈ g,∀ e,ds[i]? = some e->mt n e d=false/\mt n d e=false/\h3 e d=true)/\∃ dB d5 dA,ax=[~~~a,some (.int n),~~~wl,~~~gl,some (.int (k:Nat)),~~~et,dB,d5,dA,none,none,none]),0
   .nofun;have lX:(qs.map V.ref).length=bY.length:=by rw [aO,G.ak]
    refine ⟨_,.inl (aF.of (s3 _ _ G.af)),by omega,by rw [lX];omega,?_⟩;rw [show (((qs.map V.ref).length:Nat):Int).toNat=bY.length by rw [lX];rfl];refine dY.range (fun j σ bk=>aN I bk/\aI bk/\j6 H bk gl qs bY/\(∃ aR:List Nat,bk et=some (.lst (aR.map fun k:Nat=>V.int k))/\aR.length <= j/\∀ f ∈ aR,∃ g,bY[f]? = some g/\∀ i ∈ g,∀ e,ds[i]? = some e->mt n e d=false/\mt n d e=false/\h3 e d=true)/\∃ dB d5 dA,σ=[~~~a,some (.int n),~~~wl,~~~gl,some (.int (k:Int)),~~~et,dB,d5,dA,none,none,none]) ⟨s3,dy,G.same s3,⟨[],hL,bR _,fun f h=>by simp at h⟩,_,_,_,rfl⟩ ?_ ?_
    .rintro j σ bk aL bb;ac_rfl
     obtain ⟨s4,df,hR,⟨aR,gx,uf,uq⟩,dB,d5,dA,rfl⟩:=bb;have p3:bY[j]? = some bY[j]:=bo aL;have eY:qs[j]? = some (qs[j]'(by rw [G.ak];exact aL)):=bo _;subst aV;generalize qs[j]'(by rw [G.ak];exact aL)=kc at eY;generalize Jb:bY[j]=g at p3;have oz:=cQ p3;obtain ⟨pb,ao3,NT⟩:=v3 (km.ne g oz);have ic:∀ i ∈ g,∃ e,ds[i]? = some e:=fun i ah=>⟨_,bo (Sr (km.lt oz ah) aC)⟩
     have rI:pb ∈ g:=by rw [NT];exact m9 ..
     obtain ⟨kd,nN⟩:=ic pb rI;have v5:=hR.e3 j kc g eY p3;have xq:=cy (xs:=qs.map V.ref) (j:=j) (by rw [dO,eY];rfl);have jL:=s2.trans s4;have w':=L.same jL;have Cv:=jL _ _ cA;simp only [gj,dT,jD,jn,rJ];exists (fun ax b5=>b5=bk/\ax=[~~~a,some (.int n),~~~wl,~~~gl,some (.int (k:Int)),~~~et,some (.int (j:Int)),some (.bB (h3 kd d)),dA,none,none,none]),0
     .nofun;exact ⟨_,aF.of hR.af,_,xq,_,rfl,_,aF.of v5,_,by rw [NT];exact cy (j:=0) rfl,wl,ds,pb,k,kd,d,rfl,w',nN,p5,(D.al kd (cQ nN)).1.k,hd.k,cC _ _ ⟨rfl,rfl⟩⟩
     rintro kj b5 ⟨rfl,rfl⟩;subst aV;simp only [dT];exists (fun ax cP=>cP=b5/\∃ (ml:Bool) (dA:Option V),(ml=true->h3 kd d=true/\∀ i ∈ g,∀ e,ds[i]? = some e->mt n e d=false)/\ax=[~~~a,some (.int n),~~~wl,~~~gl,some (.int (k:Int)),~~~et,some (.int (j:Int)),some (.bB ml),dA,none,none,none]),0
     .nofun;refine ⟨_,aF.of hR.af,_,xq,_,rfl,⟨_,aF.of v5⟩,?_⟩;refine dY.list (xs:=g.map fun k:Nat=>V.int k) (fun l σ cP=>cP=b5/\∃ (ml:Bool) (dA:Option V),(ml=true->h3 kd d=true/\∀ i ∈ g.take l,∀ e,ds[i]? = some e->mt n e d=false)/\σ=[~~~a,some (.int n),~~~wl,~~~gl,some (.int (k:Int)),~~~et,some (.int (j:Int)),some (.bB ml),dA,none,none,none]) ?_ ?_ ?_ ?_
      .exact ⟨rfl,_,_,fun z=>⟨z,fun i h=>by simp at h⟩,rfl⟩
      .rintro l σ cP aK ⟨rfl,_⟩;exact aF.of v5
      .rintro l v σ cP aJ bb;ac_rfl
       obtain ⟨rfl,ml,dA,qT,rfl⟩:=bb;obtain ⟨i,ah,rfl⟩:=cm aJ;obtain ⟨e,he⟩:=ic i (cQ ah);obtain ⟨hN,ta,FG⟩:=xp i e he;obtain ⟨alH,Zn,afl⟩:=xp k d p5;have step:∀ gD:Bool,(gD=true->ml=true/\mt n e d=false)->(gD=true->h3 kd d=true/\∀ i ∈ g.take (l + 1),∀ e,ds[i]? = some e->mt n e d=false):=fun gD h z=>by
        obtain ⟨eV,es⟩:=h z;obtain ⟨mJ,iP⟩:=qT eV;refine ⟨mJ,fun iW fR bM hP=>?_⟩;rw [pw,ah] at fR;rcases gU.mp fR with u | u
        .exact iP iW u bM hP
        .rw [show iW=i by simpa using u,he] at hP;cases hP;exact es
       subst aV;nofun;cases ml with
       | true=>
        rw [if_pos rfl];refine ⟨_,aF.of Cv,_,ta,_,aF.of Cv,_,Zn,n,hN,alH,e,d,rfl,de.of (jL _ _ FG),de.of (jL _ _ afl),(D.al e (cQ he)).1,hd,_,rfl,?_⟩;exact ⟨rfl,_,step _ (fun z=>⟨rfl,by simpa using z⟩),rfl,_,rfl⟩
       | false=>
        rw [if_neg (by decide)];exact ⟨false,(fun z=>nomatch z),rfl,_,rfl⟩
      .rintro σ cP bb;ac_rfl
       obtain ⟨rfl,ml,dA,qT,rfl⟩:=bb;subst aV;rw [aO,hB] at qT;exact cC _ _ ⟨rfl,ml,dA,qT,rfl⟩
     rintro n4 cP ⟨rfl,ml,dA,qT,rfl⟩;subst aV;dsimp only;refine eg ml (fun Q a9=>?_) (fun aa=>?_) (fun aa=>?_)
     .nofun;exact a9
     .obtain ⟨mJ,iP⟩:=qT aa;nofun;refine ⟨.inl ⟨_,aF.of gx⟩,_,gx,f5 (show (aR.map fun k:Nat=>V.int k).length <= 8 by rw [aO];omega) (by decide),s4.gW nV,df.upd,hR.off adC aeB,⟨aR ++ [j],by rw [db,fx];rfl,by rw [dS];show aR.length + 1 <= j + 1;omega,fun f hf=>?_⟩,?_⟩
      .rcases gU.mp hf with z | z
       .exact uq f z
       .rw [fG.mp z];refine ⟨g,p3,fun i ah e he=>⟨iP i ah e he,?_,aem (km.al g oz i ah pb rI e kd he nN) mJ⟩⟩;have eU:=(D.al e (cQ he)).1;have:=aiN eU.st eU.fs hd.st hd.fs eU.ne hd.ne;exact (this.symm.trans (iP i ah e he):mt n d e=false)
      .exact ⟨_,rfl⟩
     .simp only [jf];exact ⟨s4,df,hR,⟨aR,gx,by omega,uq⟩,_,_,_,rfl⟩
    .rintro σ bk bb;ac_rfl
     obtain ⟨s4,df,hR,⟨aR,gx,uf,uq⟩,dB,d5,dA,rfl⟩:=bb;subst aV;exact cC _ _ ⟨s4,df,hR,⟨aR,gx,uf,uq⟩,_,_,_,rfl⟩
   rintro fT bk ⟨s4,df,hR,⟨aR,gx,uf,uq⟩,dB,d5,dA,rfl⟩;have jL:=s2.trans s4;have jQ:=S.same jL;have lX:(qs.map V.ref).length=bY.length:=by rw [aO,G.ak]
   subst aV;dsimp only;refine eg (decide (0 < aR.length) && decide (0 < dF ns (100 + (k:Int)) 3)) (fun Q a9=>?_) (fun aa=>?_) (fun aa=>?_)
   .nofun;refine ⟨_,.inl (aF.of gx),?_⟩;rw [aO];by_cases cO:0 < aR.length
    .rw [if_pos (decide_eq_true (by omega))];rw [decide_eq_true cO,mA] at a9;exact ⟨a,ns,_,_,rfl,hZ,jQ,⟨by omega,by omega⟩,by decide,_,rfl,a9⟩
    .rw [if_neg (by rw [decide_eq_true_eq];omega)];rw [decide_eq_false cO,nJ] at a9;exact a9
   .rw [jF,decide_eq_true_eq] at aa;have aw:=be ns (110 + (k:Int)) (m:=(aR.length:Int)) (by omega);have aG:=hK ns (110 + (k:Int)) (m:=(aR.length:Int)) (by omega);obtain ⟨u,bt⟩:∃ u:Nat,dF ns (110 + (k:Int)) (aR.length:Int)=(u:Int):=⟨_,(rP aw).symm⟩;have ang:u < aR.length:=by omega
    have I9:aR[u]? = some aR[u]:=bo ang;generalize ap_:aR[u]=f at I9;obtain ⟨g,Dq,Zg⟩:=uq f (cQ I9);have Fy:f < bY.length:=(cb.mp Dq).1;have x4:qs[f]? = some (qs[f]'(by rw [G.ak];exact Fy)):=bo _;generalize qs[f]'(by rw [G.ak];exact Fy)=MF at x4;have IU:=hR.e3 f MF g x4 Dq;have QS:=cy (xs:=qs.map V.ref) (j:=f) (by rw [dO,x4];rfl);have ahn:=cy (xs:=aR.map fun k:Nat=>V.int k) (j:=u) (v:=.int (f:Int)) (by rw [dO,I9];rfl);have apk:=km.FL (cQ Dq);have dP:=be ns (160 + (k:Int)) (m:=(g.length:Int) + 1) (by omega);have d3:=hK ns (160 + (k:Int)) (m:=(g.length:Int) + 1) (by omega);nofun;obtain ⟨v,aJ⟩:∃ v:Nat,dF ns (160 + (k:Int)) ((g.length:Int) + 1)=(v:Int):=⟨_,(rP dP).symm⟩;refine ⟨_,.inl (aF.of gx),?_⟩;rw [aO];refine ⟨a,ns,_,_,rfl,hZ,jQ,⟨by omega,by omega⟩,by omega,?_⟩;rw [bt];refine ⟨_,_,rfl,aF.of gx,_,ahn,_,_,rfl,aF.of hR.af,_,QS,.inl ⟨_,aF.of IU⟩,_,_,rfl,aF.of hR.af,_,QS,_,rfl,_,.inl (aF.of IU),?_⟩;rw [aO];refine ⟨a,ns,_,_,rfl,hZ,jQ,⟨by omega,by omega⟩,by omega,MF,rfl,_,_,rfl,IU,?_⟩;rw [aJ,rq];have QY:v <= g.length:=by omega
    have em:(g.map fun k:Nat=>V.int k).take v ++ V.int (k:Int) :: (g.map fun k:Nat=>V.int k).drop v=(ins g v k).map fun k:Nat=>V.int k:=(R8 (fun k:Nat=>V.int k) g v k).symm
    refine ⟨by omega,by omega,by rw [aO];omega,f5 (show (g.map fun k:Nat=>V.int k).length <= 8 by rw [aO];omega) (by decide),jL.gW (hR.iO MF (cQ x4)),df.upd,?_,_,rfl⟩;rw [em];exact ⟨qs,_,hR.put x4 Fy,km.put Dq p5 Zg⟩
   .have dP:=be ns (120 + (k:Int)) (m:=(bY.length:Int) + 1) (by omega);have d3:=hK ns (120 + (k:Int)) (m:=(bY.length:Int) + 1) (by omega);nofun;obtain ⟨v,aJ⟩:∃ v:Nat,dF ns (120 + (k:Int)) ((bY.length:Int) + 1)=(v:Int):=⟨_,(rP dP).symm⟩;refine ⟨.inl ⟨_,aF.of hR.af⟩,_,.inl (aF.of hR.af),?_⟩;rw [lX];refine ⟨a,ns,_,_,rfl,hZ,jQ,⟨by omega,by omega⟩,by omega,by decide,fun p aq=>⟨_,_,rfl,(bf aq) _ _ hR.af,?_⟩⟩;rw [aJ,rq];have QY:v <= bY.length:=by omega
    have em:(qs.map V.ref).take v ++ V.ref p :: (qs.map V.ref).drop v=(ins qs v p).map V.ref:=(R8 V.ref qs v p).symm;refine ⟨by omega,by omega,by rw [lX];omega,f5 (show (qs.map V.ref).length <= 8 by rw [lX];omega) (by decide),(jL.trans (bf aq)).gW xf,(df.upd).upd,?_,_,rfl⟩;rw [em];exact ⟨_,_,hR.new (g:=[k]) jL aq QY,km.new v⟩
  .rintro σ I bb;ac_rfl
   obtain ⟨s2,ck,⟨qs,bY,G,km⟩,dw,ey,dB,d5,dA,rfl⟩:=bb;subst aV;exact cC _ _ ⟨s2,ck,⟨qs,bY,G,km⟩,_,_,_,_,_,rfl⟩
 rintro cn av ⟨s2,ck,⟨qs,bY,G,km⟩,dw,ey,dB,d5,dA,rfl⟩;subst aV;exists (fun ax I=>aN av I/\aI I/\∃ cf,av cf=none/\I cf=some (.lst [])/\ax=[~~~a,some (.int n),~~~wl,~~~gl,dw,ey,dB,d5,dA,~~~cf,none,none]),3
 .nofun;exact ⟨e5 _,fun cf jg=>cC _ _ ⟨bf jg,ck.upd,cf,jg,db,rfl⟩⟩
 rintro fT bk ⟨s3,dy,cf,jg,hL,rfl⟩;have abk:=km.len;have lX:(qs.map V.ref).length=bY.length:=by rw [aO,G.ak]
 subst aV;exists (fun ax I=>aN av I/\aI I/\(∃ k1 a7,ou I cf k1 qs a7/\AI n ds a7)/\∃ dB dA iS rm,ax=[~~~a,some (.int n),~~~wl,~~~gl,dw,ey,dB,d5,dA,~~~cf,iS,rm]),3
 .nofun;refine ⟨_,.inl (aF.of (s3 _ _ G.af)),by omega,by rw [lX];omega,?_⟩;rw [show (((qs.map V.ref).length:Nat):Int).toNat=bY.length by rw [lX];rfl];refine dY.range (fun j σ I=>aN av I/\aI I/\(∃ (k1:List Addr) (a7:List hI),I cf=some (.lst (k1.map V.ref))/\k1.length=j/\a7.length=j/\(∀ (i:Nat) (q:Addr) (s:hI),k1[i]? = some q->a7[i]? = some s->∃ m,qs[i]? = some m/\I q=some (.tup [.int s.lo,.int s.ah,.ref m]))/\a7.map (·.fI)=bY.take j/\∀ s ∈ a7,(∀ i ∈ s.fI,∀ d,ds[i]? = some d->d.least <= s.lo)/\1 <= s.lo/\s.lo <= 21/\s.lo <= s.ah/\s.ah <= 40)/\∃ dB dA iS rm,σ=[~~~a,some (.int n),~~~wl,~~~gl,dw,ey,dB,d5,dA,~~~cf,iS,rm]) ⟨s3,dy,⟨[],[],hL,rfl,rfl,fun i q s h=>by simp at h,by rw [sM];rfl,fun s h=>by simp at h⟩,_,_,_,_,rfl⟩ ?_ ?_
  .rintro j σ I aL bb;ac_rfl
   obtain ⟨s4,df,⟨k1,a7,gx,AL,gd,rA,xr,B9⟩,dB,dA,iS,rm,rfl⟩:=bb;have p3:bY[j]? = some bY[j]:=bo aL;have eY:qs[j]? = some (qs[j]'(by rw [G.ak];exact aL)):=bo _;subst aV;generalize qs[j]'(by rw [G.ak];exact aL)=kc at eY;generalize Jb:bY[j]=g at p3;have oz:=cQ p3;have ic:∀ i ∈ g,∃ e,ds[i]? = some e:=fun i ah=>⟨_,bo (km.lt oz ah)⟩
   have hR:=G.same s4;have v5:=hR.e3 j kc g eY p3;have xq:=cy (xs:=qs.map V.ref) (j:=j) (by rw [dO,eY];rfl);have jL:=s2.trans s4;have jQ:=S.same jL;have Cv:=jL _ _ cA;have aoN:=km.FL oz;obtain ⟨bA,ZK⟩:∃ bA:Nat->Int,bA=fun i=>((ds[i]?).map (·.least)).getD 0:=⟨_,rfl⟩
   have Mb:∀ i e,ds[i]? = some e->bA i=e.least:=fun i e he=>by rw [ZK];show ((ds[i]?).map (·.least)).getD 0=_;rw [he];rfl
   obtain ⟨pV,Wt,By⟩:=Il (g.map bA) (fun z=>km.ne g oz (List.map_eq_nil_iff.mp z));have DY:1 <= pV/\pV <= 4:=by
    obtain ⟨i,ah,rfl⟩:=cw.mp Wt;obtain ⟨e,he⟩:=ic i ah;rw [Mb i e he];exact ⟨(D.al e (cQ he)).1.le.1,hle e (cQ he)⟩
   have ec:=be ns (130 + (j:Int)) (m:=3) (by decide);have eX:=hK ns (130 + (j:Int)) (m:=3) (by decide);simp only [gj,dT,jD,jn,rJ];exists (fun ax b5=>aN I b5/\aI b5/\∃ lo:Int,(pV <= lo/\lo <= pV + 2)/\ax=[~~~a,some (.int n),~~~wl,~~~gl,dw,ey,some (.int (j:Int)),d5,dA,~~~cf,some (.int lo),rm]),0
   .nofun;refine ⟨_,aF.of hR.af,_,xq,_,rfl,⟨_,aF.of v5⟩,?_⟩;refine dg.mB (xs:=g.map fun k:Nat=>V.int k) (zs:=(g.map bA).map V.int) (aF.of v5) (c7 (show (g.map fun k:Nat=>V.int k).length <= 8 by rw [aO];omega) (by decide)) (by rw [aO,aO,aO]) (fun l v z N aJ aW bu=>?_) (fun pl cG=>?_)
    .obtain ⟨i,ah,rfl⟩:=cm aJ;obtain ⟨y,aY,rfl⟩:=cm aW;obtain ⟨iW,fR,rfl⟩:=cm aY;rw [ah] at fR;cases fR;obtain ⟨e,he⟩:=ic i (cQ ah);obtain ⟨hN,ta,FG⟩:=xp i e he;rw [Mb i e he] at bu;nofun;exact ⟨Sub.name,_,aF.of Cv,_,ta,_,rfl,_,de.of (jL _ _ FG),_,cy (j:=6) rfl,bu⟩
    .have OV:=bf (o:=.lst ((g.map bA).map V.int)) cG;refine ⟨_,rfl,_,aF.of db,pV,Wt,By,a,ns,_,_,rfl,hZ,jQ.same OV,⟨by omega,by omega⟩,by decide,_,rfl,cC _ _ ⟨OV,df.upd,_,⟨by omega,by omega⟩,rfl⟩⟩
   rintro kj b5 ⟨s5,e6,aqn,EH,rfl⟩;have EL:=jQ.same s5;subst aV;simp only [dT];exists (fun ax cP=>cP=b5/\∃ lo:Int,(pV <= lo/\lo <= 21)/\ax=[~~~a,some (.int n),~~~wl,~~~gl,dw,ey,some (.int (j:Int)),d5,dA,~~~cf,some (.int lo),rm]),0
   .refine eg (decide (dF ns (150 + (j:Int)) 12=0)) (fun Q a9=>?_) (fun _=>?_) (fun _=>?_)
    .nofun;refine ⟨a,ns,_,_,rfl,hZ,EL,⟨by omega,by omega⟩,by decide,rfl,?_⟩;rw [show decide (V.int (dF ns (150 + (j:Int)) 12)=V.int 0)=decide (dF ns (150 + (j:Int)) 12=0) from decide_eq_decide.mpr (by simp)];exact a9
    .nofun;exact cC _ _ ⟨rfl,_,by omega,rfl⟩
    .simp only [jf];exact cC _ _ ⟨rfl,_,by omega,rfl⟩
   rintro n4 cP ⟨rfl,lo,uM,rfl⟩;have hJ:=be ns (180 + (j:Int)) (m:=6) (by decide);have hv:=hK ns (180 + (j:Int)) (m:=6) (by decide);subst aV;simp only [dT];exists (fun ax fS=>aN cP fS/\aI fS/\∃ mo:Int,(1 <= mo/\mo <= 20)/\ax=[~~~a,some (.int n),~~~wl,~~~gl,dw,ey,some (.int (j:Int)),d5,dA,~~~cf,some (.int lo),some (.int mo)]),0
   .obtain ⟨mo,rD,ow⟩:=Xp hJ hv;nofun;exact ⟨by decide,fun p aq=>⟨a,ns,_,_,rfl,hZ,EL.same (bf aq),⟨by omega,by omega⟩,by decide,_,_,rfl,aF.of db,_,ow,cC _ _ ⟨bf aq,e6.upd,mo,rD,rfl⟩⟩⟩
   rintro mS fS ⟨g6,fN,mo,rD,rfl⟩;have DD:=s5.trans g6;have yx:=EL.same g6;have oo:=DD _ _ gx;have mJ:=be ns (140 + (j:Int)) (m:=mo) (by omega);have iP:=hK ns (140 + (j:Int)) (m:=mo) (by omega);subst aV;nofun;refine ⟨.inl ⟨_,aF.of oo⟩,a,ns,_,_,rfl,hZ,yx,⟨by omega,by omega⟩,by omega,_,rfl,_,aF.of (DD _ _ hR.af),_,xq,by decide,fun p aq=>⟨_,(bf aq) _ _ oo,f5 (show (k1.map V.ref).length <= 8 by rw [aO];omega) (by decide),((s4.trans DD).trans (bf aq)).gW jg,(fN.upd).upd,⟨k1 ++ [p],by rw [db,fx];rfl,by rw [dS,AL];rfl,a7 ++ [⟨lo,lo + dF ns (140 + (j:Int)) mo,g⟩],by rw [dS,gd];rfl,fun i q s a1 a2=>?_,?_,fun s aB=>?_⟩,?_⟩⟩
   .have pK:cf ≠ p:=dj oo aq;rcases nt a1 with ⟨hi,gD⟩ | ⟨hi,rfl⟩
    .rcases nt a2 with ⟨bZ,ct⟩ | ⟨bZ,_⟩
     .obtain ⟨m,hm,e⟩:=rA i q s gD ct;have dZ:=DD _ _ e;refine ⟨m,hm,?_⟩;rw [aA (br dZ oo (by intro z;cases z)),aA (dj dZ aq)];exact dZ
     .omega
    .rcases nt a2 with ⟨bZ,_⟩ | ⟨_,rfl⟩
     .omega
     .refine ⟨kc,by rw [hi,AL];exact eY,?_⟩;rw [aA (cX pK),db]
   .rw [fx,xr,pw,p3];rfl
   .rcases gU.mp aB with z | z
    .exact B9 s z
    .rw [fG.mp z];refine ⟨fun i ah e he=>?_,by show 1 <= lo;omega,uM.2,by show lo <= lo + dF ns (140 + (j:Int)) mo;omega,by show lo + dF ns (140 + (j:Int)) mo <= 40;omega⟩;have:=By (bA i) (cw.mpr ⟨i,ah,rfl⟩);rw [Mb i e he] at this;show e.least <= lo;omega
   .repeat (first | exact ⟨_,rfl⟩ | refine ⟨⟨_,rfl⟩,?_⟩)
  .rintro σ I bb;ac_rfl
   obtain ⟨s4,df,⟨k1,a7,gx,AL,gd,rA,xr,B9⟩,dB,dA,iS,rm,rfl⟩:=bb;subst aV;rw [hB] at xr;have hR:=G.same s4;refine cC _ _ ⟨s4,df,⟨k1,a7,⟨gx,by omega,by rw [G.ak];omega,fun i q m s a1 a2 fM=>?_⟩,⟨by rw [xr];exact km,fun s aB=>(B9 s aB).1,fun s aB=>(B9 s aB).2⟩⟩,_,_,_,_,rfl⟩;obtain ⟨c6,sY,e⟩:=rA i q s a1 fM;rw [a2] at sY;cases sY;refine ⟨e,hR.e3 i m s.fI a2 ?_⟩;rw [<- xr,dO,fM];rfl
 rintro kj b5 ⟨s4,df,⟨k1,a7,ov,aaI⟩,dB,dA,iS,rm,rfl⟩;subst aV;nofun;exact q cf k1 qs a7 b5 (s2.trans s4) df ov aaI
noncomputable def jo (ds:List bl) (i:Nat):Str:=((ds[i]?).map (·.name)).getD (ab "")
noncomputable def fk (ds:List bl) (s:hI):List Str:=s.fI.map (jo ds)
noncomputable def h5 (ds:List bl) (s:hI):List Str:=[ab "stage",num s.lo,num s.ah] ++ fk ds s
noncomputable def gX (ds:List bl) (a7:List hI):List (List Str):=a7.map (h5 ds)
noncomputable def rZ (ds:List bl) (a7:List hI):Str:=d7 nl ((gX ds a7).map (d7 cI))
structure MG (ds:List bl) (a7:List hI):Prop where
 ln:a7.length <= 8
 bd:∀ s ∈ a7,(0 <= s.lo/\s.lo < 1000)/\(0 <= s.ah/\s.ah < 1000)/\s.fI ≠ []/\s.fI.length <= 8/\∀ i ∈ s.fI,∃ d,ds[i]? = some d
 nm:∀ d ∈ ds,d.name.length <= 8
theorem amg (ds:List bl) (s:hI) (h:s.fI ≠ []):ab "stage " ++ num s.lo ++ ab " " ++ num s.ah ++ ab " " ++ d7 cI (fk ds s)=d7 cI (h5 ds s):=by
 apply zC;have aw:(ab "stage ").cps.toList=[115,116,97,103,101,32]:=by ac_nf
 have aG:(ab "stage").cps.toList=[115,116,97,103,101]:=by ac_nf
 have bS:(ab " ").cps.toList=[32]:=by ac_nf
 unfold h5 fk;obtain ⟨i,r,ay⟩:=v3 h;rw [ay,CE,rk];simp only [o5,oT,rk,eu,q2,xn,Hm,k0,aw,aG,bS,q_]
def Qh:bX:=fun vs H Q _=>∃ wl ds cf qs ms a7,vs=[.ref wl,.ref cf]/\i3 H wl ds/\ou H cf qs ms a7/\MG ds a7/\aI H/\Q (.str (rZ ds a7)) H
def aki:bX:=fun vs H Q _=>∃ wl ds cf qs ms a7,vs=[.ref wl,.ref cf]/\i3 H wl ds/\ou H cf qs ms a7/\MG ds a7/\∀ I,aN H I->Q (.str (rZ ds a7)) I
theorem abB:cv P base T 1 t.BU t.AK En Qh:=by
 refine cJ.forget (sp:=aki) ?_ fun vs H Q E h=>?_
 .exists T.KD.ok yF,9
  obtain ⟨wl,ds,cf,qs,ms,a7,rfl,⟨qo,cA,cW,IY⟩,ov,X,q⟩:=h;have ajn:=X.ln;have xp:∀ (i:Nat) (d:bl),ds[i]? = some d->∃ qO,hq (qo.map V.ref) (i:Int)=some (.ref qO)/\H qO=some (.tup (kx d)):=fun i d hd=>by
   have ha:qo[i]? = some (qo[i]'(by rw [cW];exact (cb.mp hd).1)):=bo _;exact ⟨_,cy (by rw [dO,ha];rfl),IY i _ d ha hd⟩
  have zk:∀ k:Nat,k <= 1000->k <= sizeLine:=fun k h=>c7 h (by decide)
  refine ⟨_,(aP (cg (i:=2) yF.aH (gC aE))
   (aP (fp fj rfl (eS (U 1)) (la (K:=K) (n:=3) rfl rfl (fc (cu (i:=3) yF.aH) (fc (cu (i:=4) yF.aH) (fc (cu (i:=5) yF.aH) k8)))) (a6 (eo (gF ja mc ng Re (U 2) (ai (bP lK (bP lK (bP lK (bP lK (bP lK dD (j' yb rfl T.w2 yy (ai (U 3) aE))) dD) (j' yb rfl T.w2 yy (ai (U 4) aE))) dD) (gF t5 Bq CK xS dD (ai (ij rfl (eS (U 5)) (g0 (sc:=bE Lg) rfl (by ac_nf)) (N:=z4) (sel:=[none,some 0]) (gO (M:=["_law_ways_here","_law_stages_here","_law_rows","_law_low","_law_high","_law_some"]) (by ac_nf)) (fP.of (fun _ _ _ _=>(cu (i:=0) (eJ (N:=z4) (by ac_nf) rfl))) (fun _ _ _ _=>⟨_,i0,by walk_at "B"⟩) (fun _ _ _ _=>⟨_,(cE re (cE ed (U 1) (U 0)) aM),by walk_at "B"⟩))) aE))) aE)))))
   (a6 (cz (gF t5 Bq CK xS dD (ai (U 2) aE)))))),?_⟩
  exists (fun ax I=>aN H I/\∃ dK,H dK=none/\I dK=some (.lst (aX []))/\ax=[~~~wl,~~~cf,~~~dK,none,none,none]),3
  .nofun;exact ⟨e5 _,fun dK hk=>cC _ _ ⟨bf hk,dK,hk,db,rfl⟩⟩
  rintro gf H1 ⟨s1,dK,hk,dJ,rfl⟩;subst aV;exists (fun ax I=>aN H I/\I dK=some (.lst (aX ((gX ds a7).map (d7 cI))))/\∃ fh dw ey,ax=[~~~wl,~~~cf,~~~dK,fh,dw,ey]),3
  .nofun;refine ⟨⟨_,aF.of (s1 _ _ ov.at_)⟩,?_⟩;refine dY.list (xs:=qs.map V.ref) (fun i σ I=>aN H I/\I dK=some (.lst (aX ((gX ds (a7.take i)).map (d7 cI))))/\∃ fh dw ey,σ=[~~~wl,~~~cf,~~~dK,fh,dw,ey]) ?_ ?_ ?_ ?_
   .exact ⟨s1,by rw [sM];exact dJ,_,_,_,rfl⟩
   .rintro i σ I ah ⟨bg,_⟩;exact aF.of (bg _ _ ov.at_)
   .rintro i v σ I aJ bb;ac_rfl
    obtain ⟨bg,eh,fh,dw,ey,rfl⟩:=bb;obtain ⟨rd,ha,rfl⟩:=cm aJ;have ah:i < a7.length:=by rw [<- ov.cA];exact (cb.mp ha).1
    have uc:a7[i]? = some a7[i]:=bo ah;have rf:ms[i]? = some (ms[i]'(by rw [ov.cW];exact ah)):=bo _;obtain ⟨aw,aG⟩:=ov.al i rd _ _ ha rf uc;subst aV;generalize ms[i]'(by rw [ov.cW];exact ah)=m at rf aw aG;generalize anV:a7[i]=s at uc aw aG;obtain ⟨Uz,Qd,bne,Cw,tW⟩:=X.bd s (cQ uc);have af:=zd (n:=s.lo) (by omega) (by omega);have ak:=zd (n:=s.ah) (by omega) (by omega);have t1:(ab "stage ").length=6:=by ac_nf
    have gr:(ab " ").length=1:=by ac_nf
    have k':∀ y ∈ fk ds s,y.length <= 8:=fun y aY=>by
     obtain ⟨k,aC,rfl⟩:=cw.mp aY;obtain ⟨d,hd⟩:=tW k aC;unfold jo;rw [hd];exact X.nm d (cQ hd)
    have o6:(d7 cI (fk ds s)).length <= 100:=by
     have:=p8 cI 8 (fk ds s) k';rw [q'] at this;have aK:(fk ds s).length=s.fI.length:=by unfold fk;rw [aO]
     have:(fk ds s).length * 9 <= 72:=by omega
     omega
    nofun;refine ⟨_,de.of (bg _ _ aw),rfl,_,_,rfl,_,_,rfl,_,_,rfl,rfl,.inl ⟨_,aF.of eh⟩,_,rfl,Ub (by omega),zk _ (by rw [t1];omega),zk _ (by simp only [o9,t1,gr];omega),_,rfl,Ub (by omega),zk _ (by simp only [o9,t1,gr];omega),zk _ (by simp only [o9,t1,gr];omega),m,rfl,⟨_,aF.of (bg _ _ aG)⟩,?_⟩;refine dg.mB (xs:=s.fI.map fun k:Nat=>V.int k) (zs:=aX (fk ds s)) (aF.of (bg _ _ aG)) (c7 (show (s.fI.map fun k:Nat=>V.int k).length <= 8 by rw [aO];exact Cw) (by decide)) (by rw [fz,aO];unfold fk;rw [aO]) (fun l v z N aJ aW bu=>?_) (fun pl cG=>?_)
    .obtain ⟨k,aC,rfl⟩:=cm aJ;unfold aX fk at aW;obtain ⟨y,aY,rfl⟩:=cm aW;obtain ⟨mU,gP,rfl⟩:=cm aY;rw [aC] at gP;cases gP;obtain ⟨d,hd⟩:=tW k (cQ aC);obtain ⟨qO,agb,eq⟩:=xp k d hd;have Xg:jo ds k=d.name:=by unfold jo;rw [hd];rfl
     rw [Xg] at bu;nofun;exact ⟨Sub.name,_,aF.of (bg _ _ cA),_,agb,_,rfl,_,de.of (bg _ _ eq),_,cy (j:=1) rfl,bu⟩
    .have nj:(fk ds s).length <= 8:=by unfold fk;rw [aO];exact Cw
     refine ⟨pl,rfl,fk ds s,aF.of db,?_,?_⟩
     .have:=zF k';rw [gr];omega
     .rw [show pI (ab " ") (fk ds s)=d7 cI (fk ds s) from w8 _ _];have v':=amg ds s bne;have g4:(aX ((gX ds (a7.take i)).map (d7 cI))).length <= 8:=by
       unfold aX gX;rw [aO,aO,aO,gK];omega
      refine ⟨zk _ (by simp only [o9,t1,gr];omega),_,(bf cG) _ _ eh,f5 g4 (by decide),(bg.trans (bf cG)).gW hk,?_,?_⟩
      .rw [db,v',pw,uc];unfold gX aX;rw [fx,fx,fx];rfl
      .repeat (first | exact ⟨_,rfl⟩ | refine ⟨⟨_,rfl⟩,?_⟩)
   .rintro σ I bb;ac_rfl
    obtain ⟨bg,eh,fh,dw,ey,rfl⟩:=bb;subst aV;rw [aO,ov.cA,hB] at eh;exact cC _ _ ⟨bg,eh,_,_,_,rfl⟩
  rintro cn av ⟨s2,eh,fh,dw,ey,rfl⟩;subst aV;nofun;have iD:∀ y ∈ (gX ds a7).map (d7 cI),y.length <= 200:=fun y aY=>by
   obtain ⟨r,d4,rfl⟩:=cw.mp aY;obtain ⟨s,aB,rfl⟩:=cw.mp d4;obtain ⟨Uz,Qd,bne,Cw,tW⟩:=X.bd s aB;have af:=zd (n:=s.lo) (by omega) (by omega);have ak:=zd (n:=s.ah) (by omega) (by omega);have k':∀ y ∈ h5 ds s,y.length <= 8:=fun y aY=>by
    unfold h5 at aY;rcases gU.mp aY with z | z
    .have z:y=ab "stage" \/ y=num s.lo\/y=num s.ah:=by simpa using z
     rcases z with rfl | rfl | rfl
     .ac_nf
     .exact c7 af (by decide)
     .exact c7 ak (by decide)
    .obtain ⟨k,aC,rfl⟩:=cw.mp z;obtain ⟨d,hd⟩:=tW k aC;unfold jo;rw [hd];exact X.nm d (cQ hd)
   have:=p8 cI 8 (h5 ds s) k';rw [q'] at this;have aK:(h5 ds s).length <= 11:=by
    unfold h5 fk;rw [dS,aO];show 3 + s.fI.length <= 11;omega
   omega
  refine ⟨_,aF.of eh,?_,?_⟩
  .have:=zF iD;rw [show (ab "\n").length=1 by ac_nf];have aK:((gX ds a7).map (d7 cI)).length <= 8:=by
    unfold gX;rw [aO,aO];exact ajn
   omega
  .rw [show pI (ab "\n") ((gX ds a7).map (d7 cI))=d7 nl ((gX ds a7).map (d7 cI)) from w8 _ _];exact q _ s2
 .obtain ⟨wl,ds,cf,qs,ms,a7,rfl,L,ov,X,bG,q⟩:=h;exact ⟨bG,wl,ds,cf,qs,ms,a7,rfl,L,ov,X,fun I bg=>⟨bg,q⟩⟩
noncomputable def i7 (ds:List bl) (s:hI):ST:=⟨s.lo,s.ah,fk ds s⟩
noncomputable def dz (ds:List bl) (a7:List hI):List ST:=a7.map (i7 ds)
theorem nx (h:ds[i]? = some d):jo ds i=d.name:=by unfold jo;rw [h];rfl
theorem Ni (aH:(ds.map (·.name)).Nodup) (ah:i < ds.length) (aL:j < ds.length) (e:jo ds i=jo ds j):i=j:=by
 rw [nx (bo ah),nx (bo aL)] at e;exact uo aH ah aL (by rw [mq (bo ah),mq (bo aL)];exact e)
structure eL (n:Int) (ds:List bl) (a7:List hI):Prop where
 aH:(ds.map (·.name)).Nodup
 lN:AI n ds a7
 Mv:ds.length <= 6
 cA:1 <= ds.length
 ok:∀ d ∈ ds,p4 n d
theorem eL.et (h:eL n ds a7):(a7.map (·.fI)).flatten.Nodup:=h.lN.bL.pm.nodup_iff.mpr List.nodup_range
theorem eL.lt (h:eL n ds a7) (aB:s ∈ a7) (ah:i ∈ s.fI):i < ds.length:=h.lN.bL.lt (cw.mpr ⟨s,aB,rfl⟩) ah
theorem eL.len (h:eL n ds a7):a7.length <= 6:=by
 have:=h.lN.bL.len.1;rw [aO] at this;have:=h.Mv;omega
theorem eL.j3 (h:eL n ds a7):MG ds a7:=by
 refine ⟨by have:=h.len;omega,fun s aB=>?_,fun d hd=>((u6 (h.ok d hd).nm).1).2⟩;have b:=h.lN.bd s aB;have hm:s.fI ∈ a7.map (·.fI):=cw.mpr ⟨s,aB,rfl⟩;have bj:=h.lN.bL.FL hm;have:=h.Mv;exact ⟨⟨by omega,by omega⟩,⟨by omega,by omega⟩,h.lN.bL.ne _ hm,by omega,fun i ah=>⟨_,bo (h.lt aB ah)⟩⟩
theorem eL.ahu (h:eL n ds a7) (aB:s ∈ a7):(fk ds s).Nodup:=by
 have ag:s.fI.Nodup:=h.et.sublist (ae7 (cw.mpr ⟨s,aB,rfl⟩));unfold fk;refine List.pairwise_map.mpr (ap5 (fun {a b} aZ aa p9 e=>?_) ag);exact p9 (Ni h.aH (h.lt aB aZ) (h.lt aB aa) e)
theorem eL.told (h:eL n ds a7) (aB:a7[i]? = some s) {x:Str} (ag:x ∈ fk ds s):told (dz ds (a7.take i)) x=false:=by
 cases e:My.told (dz ds (a7.take i)) x with
 | false=>rfl
 | true=>
  exfalso;unfold My.told at e;obtain ⟨r,ao,ay⟩:=tl.mp e;obtain ⟨aj,jw,rfl⟩:=cw.mp ao;have ay:x ∈ fk ds aj:=by simpa [i7] using ay
  obtain ⟨k,aC,rfl⟩:=cw.mp ag;obtain ⟨mU,gP,afv⟩:=cw.mp ay;have:=Ni h.aH (h.lt (yM jw) gP) (h.lt (cQ aB) aC) afv;subst this;obtain ⟨ah,uc⟩:=cb.mp aB;have hf:=h.et;rw [<- M8 i a7,fx,aml,sT ah,uc,eu,uN] at hf;exact (Af.mp hf).2.2 mU (RA.mpr ⟨aj.fI,cw.mpr ⟨aj,jw,rfl⟩,gP⟩) mU (wY _ aC) rfl
theorem P5:∀ {r:List Str} {j:Nat} {ms:List Str},(∀ x ∈ r,x ∈ alike)->(ms ++ r).Nodup->rN alike r j ms=.ok (ms ++ r)
 | [],j,ms,_,_=>by
  show rB ms=_;rw [vJ]
 | x :: r,j,ms,aZ,a3=>by
  unfold rN;have ag:x ∉ ms:=fun z=>(Af.mp a3).2.2 x z x (m9 ..) rfl
  rw [if_pos ⟨aZ x (m9 ..),ag⟩,P5 (fun y aY=>aZ y (iu _ aY)) (by rw [q_];exact a3),q_];rfl
theorem eL.left (h:eL n ds a7) (aB:a7[i]? = some s) {x:Str} (ag:x ∈ fk ds s):x ∈ bi ds (dz ds (a7.take i)):=by
 unfold bi;refine lE.mpr ⟨?_,by rw [h.told aB ag];rfl⟩;obtain ⟨k,aC,rfl⟩:=cw.mp ag;have gP:=h.lt (cQ aB) aC;rw [nx (bo gP)];exact cw.mpr ⟨_,kT gP,rfl⟩
theorem eL.ank (h:eL n ds a7) (aB:a7[i]? = some s):qr ds (dz ds (a7.take i)) (h5 ds s)=.ok (i7 ds s):=by
 have hm:=cQ aB;have b:=h.lN.bd s hm;have cx:=h.lN.bL.ne s.fI (cw.mpr ⟨s,hm,rfl⟩);obtain ⟨k,r,ay⟩:=v3 cx;have k':fk ds s=jo ds k :: r.map (jo ds):=by unfold fk;rw [ay];rfl
 have hw:h5 ds s=ab "stage" :: num s.lo :: num s.ah :: jo ds k :: r.map (jo ds):=by unfold h5;rw [k'];rfl
 have cD:l0 ds (bi ds (dz ds (a7.take i))) (h5 ds s)=.ok (fk ds s):=by
  have hf:jo ds k ∈ fk ds s:=by rw [k'];exact m9 ..
  have bc:az (h5 ds s) 3=jo ds k:=by rw [hw];rfl
  have c4:(h5 ds s).drop 4=r.map (jo ds):=by rw [hw];rfl
  unfold l0;rw [bc,c4,if_pos (h.left aB hf),P5 (fun x ag=>?_) (by have:=h.ahu hm;rw [k'] at this;exact this),k']
  .rfl
  .have lz:x ∈ fk ds s:=by rw [k'];exact iu _ ag
   refine lE.mpr ⟨h.left aB lz,decide_eq_true ?_⟩;obtain ⟨di,agv,rfl⟩:=cw.mp ag;have Fc:di ∈ s.fI:=by rw [ay];exact iu _ agv
   have Qt:k ∈ s.fI:=by rw [ay];exact m9 ..
   have cA:=bo (h.lt hm Qt);have cW:=bo (h.lt hm Fc);have al:=h.lN.bL.al s.fI (cw.mpr ⟨s,hm,rfl⟩) di Fc k Qt _ _ cW cA;show (iL ds (jo ds di)).map iA=(iL ds (jo ds k)).map iA;rw [nx cA,nx cW,ul h.aH cA,ul h.aH cW];have:=vC.mp al;show some (iA _)=some (iA _);unfold iA;by_cases c:(ds[di]'(h.lt hm Fc)).k=2
   .rw [if_pos c,if_pos (this.mp c)]
   .rw [if_neg c,if_neg (fun z=>c (this.mpr z))]
 have h0:az (h5 ds s) 0=ab "stage" := by rw [hw];rfl
 have af:az (h5 ds s) 1=num s.lo:=by rw [hw];rfl
 have ak:az (h5 ds s) 2=num s.ah:=by rw [hw];rfl
 have aw:kz (num s.lo) 1 60=some s.lo:=SA (rG (by omega) (by omega) (by omega) (by omega));have aG:kz (num s.ah) s.lo 60=some s.ah:=SA (rG (by omega) (by omega) (by omega) (by omega));unfold qr;rw [h0,af,ak,cD,if_pos (fG.mpr rfl),aw];show (kz (num s.ah) s.lo 60).elim _ _=_;rw [aG];rfl
theorem eL.parse (h:eL n ds a7):∀ (m i:Nat),a7.length - i=m->i <= a7.length->tm ds ((gX ds a7).drop i) i (dz ds (a7.take i))=.ok (dz ds a7)
 | 0,i,hm,ah=>by
  have:i=a7.length:=by omega
  subst this;have aK:(gX ds a7).length=a7.length:=by unfold gX;rw [aO]
  rw [<- aK,y8,aK,hB];rfl
 | m + 1,i,hm,ah=>by
  have fR:i < a7.length:=by omega
  have aB:a7[i]? = some a7[i]:=bo fR;have aK:i < (gX ds a7).length:=by unfold gX;rw [aO];exact fR
  have bj:(gX ds a7)[i]=h5 ds a7[i]:=(cb.mp (show (gX ds a7)[i]? = some (h5 ds a7[i]) by unfold gX;rw [dO,aB];rfl)).2;rw [sT aK,bj];unfold tm;have iO:=h.len;rw [if_neg (by unfold dz;rw [aO,gK];omega),h.ank aB];have b7:=h.parse m (i + 1) (by omega) fR;rw [iH aB] at b7;unfold dz at b7 ⊢;rw [fx] at b7;exact b7
theorem eL.none (h:eL n ds a7):(bi ds (dz ds a7)).head? = vm/\vg ds (dz ds a7)=vm/\ve n ds (dz ds a7)=vm:=by
 refine ⟨?_,?_,?_⟩
 .have:bi ds (dz ds a7)=[]:=by
   unfold bi;refine PF.mpr fun x ag=>?_
   obtain ⟨d,hd,rfl⟩:=cw.mp ag;obtain ⟨k,aC⟩:=iG hd;have mH:=(cb.mp aC).1;have hf:=h.lN.bL.pm.mem_iff.mpr (sq.mpr mH);obtain ⟨g,bj,agN⟩:=RA.mp hf;obtain ⟨s,aB,rfl⟩:=cw.mp bj;have:My.told (dz ds a7) d.name=true:=by
    unfold My.told;refine tl.mpr ⟨i7 ds s,cw.mpr ⟨s,aB,rfl⟩,?_⟩;have:d.name ∈ fk ds s:=cw.mpr ⟨k,agN,nx aC⟩;simpa [i7] using this
   rw [this];simp
  rw [this];rfl
 .unfold vg;refine H7.mpr fun d hd=>?_
  unfold wW;cases aC:lx (dz ds a7) d.name with
  | none=>rfl
  | some k=>
   rw [yL];cases ao:(dz ds a7)[k]? with
   | none=>rfl
   | some r=>
    rw [yL];have ag:My.told (dz ds a7) d.name=true:=by
     have:=PV (dz ds a7) d.name;rw [<- this];unfold lx at aC;cases e:c1 (hg ((dz ds a7).map (·.mem))) (bD d.name) with
     | none=>rw [e] at aC;cases aC
     | some v=>rfl
    obtain ⟨mU,dM,_,gP,d4,hm⟩:=ql ag;rw [aC] at gP;cases gP;rw [ao] at d4;cases d4;obtain ⟨s,aB,rfl⟩:=cm ao;obtain ⟨i,ah,DE⟩:=cw.mp hm;have vn:=cQ aB;have g4:=h.lt vn ah;rw [nx (bo g4)] at DE;obtain ⟨j,aL⟩:=iG hd;have:i=j:=uo h.aH g4 (cb.mp aL).1 (by rw [mq (bo g4),mq aL,DE]);subst this;have:=h.lN.le s vn i ah d aL;show (if s.lo < d.least then some (d,k) else vm)=vm;rw [if_neg (show ¬ s.lo < d.least by omega)]
 .unfold ve;refine H7.mpr fun e he=>?_
  obtain ⟨r,k⟩:=e;have ao:r ∈ dz ds a7:=List.fst_mem_of_mem_zipIdx he;obtain ⟨s,aB,rfl⟩:=cw.mp ao;unfold s_;refine H7.mpr fun x ag=>H7.mpr fun y aY=>?_
  obtain ⟨i,ah,rfl⟩:=cw.mp ag;obtain ⟨j,aL,rfl⟩:=cw.mp aY;unfold No;rw [if_neg];rintro ⟨eV,es⟩;have li:=bo (h.lt aB ah);have Gp:=bo (h.lt aB aL);unfold oH at es;rw [nx li,nx Gp,ul h.aH li,ul h.aH Gp] at es;have:=h.lN.bL.Bn s.fI (cw.mpr ⟨s,aB,rfl⟩) i ah j aL (fun z=>eV (by rw [z])) _ _ li Gp;replace es:mt n _ _=true:=es;rw [this] at es;cases es
def MU (P:Program) (w:World) (t:bQ):bX:=fun vs H Q _=>∃ c n ds a7,vs=[.ref c,.str (rZ ds a7)]/\fC t H c n ds/\(4 <= n/\n <= 99)/\eL n ds a7/\aI H/\∀ a I,aN H I->aI I->gV P w t I a c n ds (dz ds a7)->Q (.ref a) I
theorem eL.plain (h:eL n ds a7):∀ r ∈ gX ds a7,r ≠ []/\r.length <= 11/\∀ x ∈ r,qg x:=fun r ao=>by
 obtain ⟨s,aB,rfl⟩:=cw.mp ao;obtain ⟨Uz,Qd,bne,Cw,tW⟩:=h.j3.bd s aB;refine ⟨by unfold h5;simp,?_,fun x ag=>?_⟩
 .unfold h5 fk;rw [dS,aO];show 3 + s.fI.length <= 11;omega
 .unfold h5 at ag;rcases gU.mp ag with z | z
  .have z:x=ab "stage" \/ x=num s.lo\/x=num s.ah:=by simpa using z
   rcases z with rfl | rfl | rfl
   .unfold qg;ac_nf
   .exact k6 (by omega) (by omega)
   .exact k6 (by omega) (by omega)
  .obtain ⟨k,aC,rfl⟩:=cw.mp z;obtain ⟨d,hd⟩:=tW k aC;rw [nx hd];exact Mz (h.ok d (cQ hd)).nm
theorem eL.rows (h:eL n ds a7) (cx:a7 ≠ []):hu (rZ ds a7)=gX ds a7:=by
 unfold rZ;exact Tj (by unfold gX;simpa using cx) (fun r ao=>(h.plain r ao).1) (fun r ao=>(h.plain r ao).2.2)
theorem eL.ne (h:eL n ds a7):a7 ≠ []:=fun e=>by
 have:=h.lN.bL.len.2;rw [e] at this;simp at this;have:=h.cA;omega
theorem eL.txt (h:eL n ds a7):(rZ ds a7).length <= 20000:=by
 have iD:∀ y ∈ (gX ds a7).map (d7 cI),y.length <= 200:=fun y aY=>by
  obtain ⟨r,ao,rfl⟩:=cw.mp aY;obtain ⟨_,ak,bc⟩:=h.plain r ao;have:=p8 cI 8 r fun x ag=>(bc x ag).1
  rw [q'] at this;omega
 have:=p8 nl 200 _ iD;rw [FB,aO] at this;have aK:(gX ds a7).length <= 6:=by unfold gX;rw [aO];exact h.len
 unfold rZ;omega
theorem agy:cv P base T 7 t.xR t.xN xO (MU P w t):=by
 refine (amV T).imp fun vs H Q E h=>?_
 obtain ⟨c,n,ds,a7,rfl,C,a3,X,bG,q⟩:=h;obtain ⟨eV,es,qe⟩:=X.none;have cx:∀ d ∈ ds,d.name ≠ ab "" := fun d hd e=>by
  have h:=(u6 (X.ok d hd).nm).1.1;rw [e] at h;exact absurd h (by ac_nf)
 have cC:w1 ds:=fun d hd=>by
  obtain ⟨af,ak⟩:=u6 (X.ok d hd).nm;exact ⟨⟨c7 af.2 (by decide),fun c ay=>by have:=ak c ay;omega⟩,(X.ok d hd).k,(X.ok d hd).of.1,by have:=(X.ok d hd).of;omega⟩
 have aq:=X.parse a7.length 0 rfl (e5 _);rw [ajc,sM,show dz ds []=[] from rfl] at aq;refine ⟨c,n,ds,_,_,rfl,C,by omega,cC,cx,X.txt,by rw [X.rows X.ne];unfold gX;rw [aO];have:=X.len;omega,fun r ao=>?_,bG,by rw [X.rows X.ne];exact aq,akl.mp eV,es,qe,fun a I aj g9 dR=>q a I aj g9 dR⟩;rw [X.rows X.ne] at ao;obtain ⟨af,ak,bc⟩:=X.plain r ao;exact ⟨af,by omega,fun y aY=>c7 (bc y aY).1 (by decide)⟩
noncomputable def J4 (a7:List hI) (j:Nat):List Nat:=((a7[j]?).map (·.fI)).getD []
theorem aek {x:hI} (h:a7[j]? = some x):J4 a7 j=x.fI:=by unfold J4;rw [h];rfl
noncomputable def Pr (ds:List bl) (i:Nat):Bool:=decide ((ds[i]?).map (·.k)=some 2)
noncomputable def PY (ds:List bl) (a7:List hI) (j:Nat):Bool:=Pr ds ((J4 a7 j).headD 0)
theorem eL.six {n:Int} {ds:List bl} {a7:List hI} (h:eL n ds a7) {j:Nat} (aL:j < a7.length):a7[j].fI ≠ []/\a7[j].fI.length <= 8:=by
 obtain ⟨_,_,a,b,_⟩:=h.j3.bd _ (kT aL);exact ⟨a,b⟩
section
variable {n:Int} {ds:List bl} {a7:List hI}
theorem eL.tell (X:eL n ds a7) {d:bl} (hd:d ∈ ds):My.told (dz ds a7) d.name=true:=by
 have h:bi ds (dz ds a7)=[]:=akl.mp X.none.1;unfold bi at h;have:=PF.mp h d.name (cw.mpr ⟨d,hd,rfl⟩);simpa using this
theorem eL.sort (X:eL n ds a7) {j:Nat} (aL:j < a7.length):il ds (dz ds a7) j=if PY ds a7 j=true then eb else kJ:=by
 have ag:=bo aL;obtain ⟨nc,r,e⟩:=v3 (X.six aL).1;have h4:nc ∈ a7[j].fI:=by rw [e];exact .head _
 have kd:=bo (X.lt (kT aL) h4);unfold il dz;rw [dO,ag];show dQ ds (i7 ds a7[j])=_;unfold dQ i7 fk;rw [e,eu,nx kd];show (((iL ds _).map iA).getD _)=_;rw [ul X.aH kd];show iA _=_;unfold iA PY Pr;rw [aek ag,e];show _=if decide ((ds[nc]?).map (·.k)=some 2)=true then eb else kJ;rw [kd,Ep];by_cases h:(ds[nc]'(X.lt (kT aL) h4)).k=2
 .rw [if_pos h,if_pos (decide_eq_true (congrArg some h))]
 .rw [if_neg h,if_neg (fun z=>h (dX (of_decide_eq_true z)))]
end
theorem AA {ds:List bl} {a7:List hI} {j:Nat} {x:hI} (h:a7[j]? = some x):(dz ds a7)[j]? = some (i7 ds x):=by unfold dz;rw [dO,h];rfl
theorem i3.qE {H I:au} {wl:Addr} {ds:List bl} (h:i3 H wl ds) (s:iK H I):i3 I wl ds:=by
 obtain ⟨qs,aw,aG,bS⟩:=h;exact ⟨qs,s.lst aw,aG,fun i q d a b=>s.tup (bS i q d a b)⟩
theorem ou.qE {H I:au} {cf:Addr} {qs ms:List Addr} {a7:List hI} (h:ou H cf qs ms a7) (s:iK H I):ou I cf qs ms a7:=
 ⟨s.lst h.at_,h.cA,h.cW,fun i q m x a b c=>⟨s.tup (h.al i q m x a b c).1,s.lst (h.al i q m x a b c).2⟩⟩
theorem eL.ajv {n:Int} {ds:List bl} {a7:List hI} (X:eL n ds a7):qh ds (dz ds a7):=by
 refine ⟨fun d hd=>X.tell hd,fun r ao=>?_,fun r ao=>?_,by have:=X.Mv;omega⟩
 .obtain ⟨x,ag,rfl⟩:=cw.mp ao;show (fk ds x).length <= 12;unfold fk;rw [aO];have:=(X.j3.bd x ag).2.2.2.1;omega
 .obtain ⟨x,ag,rfl⟩:=cw.mp ao;obtain ⟨j,aL,e⟩:=LL ag;have:=X.sort aL;unfold il at this;rw [AA (bo aL),e] at this;have this:dQ ds (i7 ds x)=_:=this;rw [this];split
  .exact .inl rfl
  .exact .inr rfl
theorem Dp {last m v:Int} (af:-1 <= last) (ak:last < v) (bc:v < m):pJ last m v=v - last - 1:=by
 unfold pJ;exact x9 (by omega) (by omega)
theorem D' {last m v:Int} (af:last < m) (ak:0 <= v) (bc:v <= last):pJ last m v=v - last - 1 + m:=by
 unfold pJ;have e:(v - last - 1) % m=(v - last - 1 + m) % m:=by simp
 rw [e];exact x9 (by omega) (by omega)
theorem aes {last:Int} {m a b:Nat} (af:-1 <= last) (ak:last < m) (aZ:a < m) (aa:b < m) (h:pJ last m a=pJ last m b):a=b:=by
 by_cases ca:last < (a:Int) <;> by_cases UW:last < (b:Int)
 .rw [Dp af ca (by omega),Dp af UW (by omega)] at h;omega
 .rw [Dp af ca (by omega),D' ak (by omega) (by omega)] at h;omega
 .rw [D' ak (by omega) (by omega),Dp af UW (by omega)] at h;omega
 .rw [D' ak (by omega) (by omega),D' ak (by omega) (by omega)] at h;omega
section
open PySem.Spec PyProof.Rows
noncomputable def Itm (d:Addr) (o:Obj) (kvs:List (Key × V)):jC:=
 ⟨fun i H=>H d=some (.dx o (.a5 kvs))/\i < kvs.length,fun i H v I=>∃ p k x,H p=none/\v=.ref p/\kvs[i]? = some (k,x)/\I=upd H p (.tup [c9 k,x]),fun i H=>H d=some (.dx o (.a5 kvs))/\kvs.length <= i⟩
theorem akA {kvs:List (Key × V)} {vs:List (Key × Value)} (r:eE kvs vs) {i:Nat} {k:Key} {x:V} (h:kvs[i]? = some (k,x)):∃ u,vs[i]? = some (k,u)/\bK x u:=by
 induction r generalizing i with
 | nil=>simp at h
 | cons aq _ b7=>
  cases i with
  | zero=>
   cases h;exact ⟨_,congrArg some (Prod.ext aq.1.symm rfl),aq.2⟩
  | succ i=>exact b7 h
theorem akY {P:Program} {w:World} {K:ba} {a0:List Expr} {jX} {pos:Pos} {d it:Addr} {o:Obj} {ep:Nat} {kvs:List (Key × V)} {vs:List (Key × Value)} (cx:d ≠ it) (rel:eE kvs vs)
  (uU:∀ h:Heap,h.get? d=some o->h.DictAt (gJ P w) d vs ep):pC P w K (.Tuple a0 jX pos) (Itm d o kvs) [it] it (fun i h=>∃ ok dN,IsItemIter h it d i vs.length ep ok dN) where
 mem:=by simp
 obj:=fun i h ⟨ok,dN,he⟩ b aa=>by
  have e:b=it:=by simpa using aa
  subst e;exact ⟨_,he,fun v z=>by
   have ih:N9 _=Wf v:=z;cases ih⟩
 keep:=fun i h h' ⟨ok,dN,he⟩ k=>⟨ok,dN,k it (by simp) _ he⟩
 item:=by
  intro X cD hw fB ay i ae s σ H E J hf ⟨ok,dN,he⟩ bj;subst cD hw fB;obtain ⟨aD,ag⟩:=bj;have nN:s.heap.get? d=some o:=(J.bh d _ aD).1;obtain ⟨⟨k,x⟩,WZ⟩:∃ q,kvs[i]? = some q:=⟨_,bo ag⟩;obtain ⟨u,bt,eG⟩:=akA rel WZ;refine wpAny_pyNext_items_item he (uU _ nN) bt fun key af E3 HR DQ Eg yZ=>⟨_,rfl,?_⟩
  refine wpAny_letOwnedTupleGo_items HR fun ak I8 hW=>?_
  replace hW:uH it af ak:=hW;have xC:it < s.heap.objs.size:=ek he;have aC:∀ b o,b ∉ [it]->s.heap.get? b=some o->ak.get? b=some o:=fun b o aa q=>by
   have fF:b ≠ it:=fun z=>aa (by simp [z])
   exact hW.extBut _ _ fF (yZ b o fF q)
  have aU:Inv X ae σ H { s with heap:=ak,toks:=s.toks }:=J.Ad aC hf;have hD:jx X ae H s.heap.objs.size:=J.oq (bR _) (J.bh.fresh (bR _));have xJ:ak.get? s.heap.objs.size=some { cls:=.type "tuple",data:=.seq #[key,u] }:=(hW.2 _ (BR xC)).trans DQ;have bN:=aU.adopt (o:=.tup [c9 k,x]) hD ⟨by show 2 <= sizeLine;decide,[key,u],.cons (N0 E3) (.cons eG .nil),⟨_,xJ,rfl,_,rfl⟩⟩;refine ⟨.ref s.heap.objs.size,_,bN,rfl,⟨_,k,x,hD.1,rfl,WZ,rfl⟩,⟨_,_,I8⟩,fun b aa=>?_⟩;have e:b=it:=by simpa using aa
  subst e;rw [aA (fX xC)];exact (hf b aa).1
 done:=by
  intro X cD hw fB ay i ae s σ H E J hf ⟨ok,dN,he⟩ bj;subst cD hw fB;obtain ⟨aD,ag⟩:=bj;have nN:s.heap.get? d=some o:=(J.bh d _ aD).1;exact wpAny_pyNext_items_end (J.ok.hd ay) he (uU _ nN) (by rw [VC];rw [<- rel.length];exact ag) fun h' bz=>⟨rfl,J.Ad (t':=s.toks) (fun b o aa q=>bz b o (fun z=>aa (by simp [z])) q) hf⟩
 self:=fun _ _ _ _ _ ⟨_,_,he⟩ h=>PySem.W.kcp_self he h
noncomputable def R1 (dq:TE):TI:=fun σ H R=>dq σ H fun x H1=>∃ p d kvs,x=.ref p/\H1 p=some (.ext (k4 p d))/\H1 d=some (.a5 kvs)/\∀ o,R (Itm d o kvs) (upd H1 d (.dx o (.a5 kvs)))
theorem ah4 {jX} {dq:TE} (aK:bw X l dq):o7 X (.Tuple a0 jX t2) l (R1 dq):=by
 intro ae s σ H R J h;refine bF (aK ae s σ H _ J h) fun v s1 ⟨x,H1,aU,bC,bO⟩=>?_
 obtain ⟨p,d,kvs,e,ep,hX,q⟩:=bO;subst e;cases bC;obtain ⟨_,hd,vs,rel,cF⟩:=pq aU.bh hX;obtain ⟨B',dat⟩:=cF.dictAt;obtain ⟨o,yo,g,ju⟩:=id dat;have bN:=ON aU hX g;have aJ:s1.heap.IsItemsView p d:=(aU.bh p _ ep).1;refine wpAny_pyIter_items aJ dat ?_;refine ⟨s1.heap.objs.size,[s1.heap.objs.size],_,_,_,rfl,bN.kept (t':=s1.toks) fun b o e=>eP _ e,akY (fX (ek g)) rel (fun h e=>⟨o,yo,e,ju⟩),⟨_,_,hp _ rfl⟩,fun b aa=>?_,q o⟩;have e:b=s1.heap.objs.size:=by simpa using aa
 subst e;exact bN.oq (bR _) (bN.bh.fresh (bR _))
end
def yB (t:bQ) (C:Addr):bX:=fun vs H Q _=>∃ p d n,vs=[.ref p,.int n]/\eT t H p d/\C=t.fO d.k/\Q (.int (jy d n)) H
theorem Xx:cv P base T 1 t.DJ t.HU lb (yB t (t.fO 0)):=by
 exists T.T3.ok aev,9
 obtain ⟨p,d,n,rfl,W,cV,q⟩:=h;have aC:=(T.cw_inj (by decide) W.1 cV).symm;refine ⟨_,(a6 (cz (gi (bv rfl) rfl T.C9 J' (ai (U 1) (ai aM aE))))),?_⟩;rw [show jy d n=(if 1 < n then 1 else n) by unfold jy;simp only [aC]] at q;nofun;exact q
theorem acg:cv P base T 1 t.zH t.Mk lb (yB t (t.fO 1)):=by
 exists T.Sk.ok am6,9
 obtain ⟨p,d,n,rfl,W,cV,q⟩:=h;have aC:=(T.cw_inj (by decide) W.1 cV).symm;refine ⟨_,(a6 (cz (U 1))),?_⟩;rw [show jy d n=n by unfold jy;simp only [aC]] at q;nofun;exact q
theorem agO:cv P base T 1 t.Ak t.E9 lb (yB t (t.fO 2)):=by
 exists T.Wq.ok ajz,9
 obtain ⟨p,d,n,rfl,W,cV,q⟩:=h;have aC:=(T.cw_inj (by decide) W.1 cV).symm;refine ⟨_,(a6 (cz (gi (bv rfl) rfl T.C9 J' (ai (U 1) (ai aM aE))))),?_⟩;rw [show jy d n=(if 1 < n then 1 else n) by unfold jy;simp only [aC]] at q;nofun;exact q
theorem ab4 (T:Txt w K mg t):mN P w K mg base dt 1 (qL t) "goes" lb (yB t):=by
 refine ⟨fun C cV=>?_⟩;obtain ⟨k,aC,rfl⟩:=cV
 match k,aC with
 | 0,_=>exact ⟨_,_,T.BL,T.abR,Xx T,T.aez⟩
 | 1,_=>exact ⟨_,_,T.Cp,T.abN,acg T,T.Zi⟩
 | 2,_=>exact ⟨_,_,T.z_,T.ac0,agO T,T.ajC⟩
noncomputable def dE (ns:List Str) (f:Str->V):List (Key × V):=ns.map fun x=>(bD x,f x)
theorem qS {ns:List Str} {x:Str} (h:x ∈ ns):c1 (dE ns f) (bD x)=some (f x):=by
 induction ns with
 | nil=>cases h
 | cons y ys b7=>
  by_cases c:y=x
  .subst c;simp [dE,c1]
  .have hm:x ∈ ys:=by
    rcases eZ.mp h with e | e
    .exact absurd e.symm c
    .exact e
   have:=b7 hm;simp only [dE,c1,eu,o_] at this ⊢;simp [c] at this ⊢;exact this
theorem ahU {ns:List Str} {x:Str} (h:x ∉ ns):c1 (dE ns f) (bD x)=none:=by
 induction ns with
 | nil=>rfl
 | cons y ys b7=>
  have c:¬ y=x:=fun z=>h (z ▸ .head _)
  have:=b7 (fun z=>h (.tail _ z));simp only [dE,c1,eu,o_] at this ⊢;simp [c] at this ⊢;exact this
noncomputable def dn {α:Type} (f:Str->α) (x:Str) (a:α):Str->α:=fun y=>if y=x then a else f y
theorem lq (f:Str->α) (x:Str) (a:α):dn f x a x=a:=if_pos rfl
theorem kC {x y:Str} (h:y ≠ x):dn f x a y=f y:=if_neg h
theorem Mi {ns:List Str} {x:Str} (h:x ∉ ns):ci (dE ns f) (bD x) (f x)=dE (ns ++ [x]) f:=by
 rw [Xu _ (ahU h)];unfold dE;rw [fx];rfl
theorem Au {ns:List Str} {x:Str} (h:x ∈ ns) (bj:∀ y ∈ ns,g y=if y=x then v else f y):ci (dE ns f) (bD x) v=dE ns g:=by
 unfold ci;have BQ:((dE ns f).any fun c_=>decide (c_.1=bD x))=true:=tl.mpr ⟨(bD x,f x),cw.mpr ⟨x,h,rfl⟩,decide_eq_true rfl⟩;rw [if_pos BQ];unfold dE;rw [nr];refine HT fun y aY=>?_
 show (if (bD y:Key)=bD x then ((bD y:Key),v) else (bD y,f y))=(bD y,g y);rw [bj y aY];by_cases c:y=x
 .rw [if_pos (by rw [c]),if_pos c]
 .rw [if_neg (fun z=>c (qx z)),if_neg c]
noncomputable def eO:List (Int × Int)->Int
 | []=>0
 | p :: ps=>p.2 + eO ps
theorem V7:∀ (a b:List (Int × Int)),eO (a ++ b)=eO a + eO b
 | [],b=>by simp [eO]
 | p :: a,b=>by rw [xn,eO,eO,V7 a b];omega
theorem Ia:∀ {l:List (Int × Int)},(∀ p ∈ l,0 < p.2)->0 <= eO l
 | [],_=>yt _
 | p :: l,h=>by
  have:=h p (.head _);have:=Ia (l:=l) fun q aD=>h q (.tail _ aD)
  rw [eO];omega
noncomputable def fL:Int->List (Int × Int)->List (Int × Int) × List (Int × Int)
 | _,[]=>([],[])
 | left,p :: ps=>if left <= 0 then ([],p :: ps) else if p.2 <= left then (p :: (fL (left - p.2) ps).1,(fL (left - p.2) ps).2) else ([(p.1,left)],(p.1,p.2 - left) :: ps)
theorem T5 (l:List (Int × Int)):fL 0 l=([],l):=by
 cases l with
 | nil=>rfl
 | cons p l=>unfold fL;rw [if_pos (yt _)]
theorem CZ:∀ (l:List (Int × Int)) (left:Int),(∀ p ∈ l,0 < p.2)->0 <= left->left <= eO l->eO (fL left l).1=left/\eO (fL left l).2=eO l - left/\(∀ p ∈ (fL left l).1,0 < p.2)/\(∀ p ∈ (fL left l).2,0 < p.2)/\(fL left l).1.length <= l.length/\(fL left l).2.length <= l.length
 | [],left,_,h0,af=>by
  rw [eO] at af;have:left=0:=by omega
  subst this;exact ⟨rfl,rfl,(fun p h=>by cases h),(fun p h=>by cases h),bR _,bR _⟩
 | p :: l,left,aq,h0,af=>by
  have gc:=aq p (.head _);have cG:∀ q ∈ l,0 < q.2:=fun q aD=>aq q (.tail _ aD)
  rw [eO] at af;unfold fL;by_cases c:left <= 0
  .have:left=0:=by omega
   subst this;rw [if_pos c];exact ⟨rfl,by simp,(fun p h=>by cases h),aq,e5 _,bR _⟩
  .rw [if_neg c];by_cases ct:p.2 <= left
   .rw [if_pos ct];obtain ⟨a,b,oD,d,e,f⟩:=CZ l (left - p.2) cG (by omega) (by omega);refine ⟨?_,?_,fun q aD=>?_,d,?_,?_⟩
    .show p.2 + eO (fL (left - p.2) l).1=left;omega
    .show eO (fL (left - p.2) l).2=eO (p :: l) - left;rw [eO];omega
    .rcases eZ.mp aD with z | z
     .rw [z];exact gc
     .exact oD q z
    .exact Ry e
    .exact Nat.le_succ_of_le f
   .rw [if_neg ct];refine ⟨?_,?_,fun q aD=>?_,fun q aD=>?_,?_,bR _⟩
    .show left + 0=left;omega
    .show p.2 - left + eO l=eO (p :: l) - left;rw [eO];omega
    .rw [fG.mp aD];show 0 < left;omega
    .rcases eZ.mp aD with z | z
     .rw [z];show 0 < p.2 - left;omega
     .exact cG q z
    .exact Ry (e5 _)
noncomputable abbrev pW:List Str:=[ab "crossing",ab "keeper",ab "turn",ab "standing",ab "lots"]
noncomputable def kV (c k:Addr) (cc:Int) (b0 ld:Addr):List (Str × V):=[(ab "crossing",V.ref c),(ab "keeper",V.ref k),(ab "turn",V.int cc),(ab "standing",V.ref b0),(ab "lots",V.ref ld)]
theorem sU (c k:Addr) (cc:Int) (b0 ld:Addr):(kV c k cc b0 ld).map (·.1)=pW:=rfl
theorem afe (c k:Addr) (cc:Int) (b0 ld:Addr) (v:Int):cT (ab "turn") (.int v) (kV c k cc b0 ld)=kV c k v b0 ld:=by
 unfold kV;simp only [cT];rw [if_neg (by ac_nf),if_neg (by ac_nf)];rfl
theorem qQ (c k:Addr) (cc:Int) (b0 ld:Addr) (h:pW.contains m=false):(kV c k cc b0 ld).lookup m=none:=t6 pW (sU ..) h
section
variable {w:World} {K:ba} {mg:Str->Option Value} {t:bQ} {H:au} {r c k ar b0 ld:Addr} {cc:Int}
theorem yh (T:Txt w K mg t) (e:H r=some (.ins t.fg ar (kV c k cc b0 ld))):fa K H r (ab "crossing") (.ref c):=⟨_,ar,_,e,T.jl,T.NJ,ac pW 0 (sU ..) (by ac_nf) rfl⟩
theorem Xc (T:Txt w K mg t) (e:H r=some (.ins t.fg ar (kV c k cc b0 ld))):fa K H r (ab "keeper") (.ref k):=⟨_,ar,_,e,T.jl,T.Tt,ac pW 1 (sU ..) (by ac_nf) rfl⟩
theorem am8 (T:Txt w K mg t) (e:H r=some (.ins t.fg ar (kV c k cc b0 ld))):fa K H r (ab "turn") (.int cc):=⟨_,ar,_,e,T.jl,T.Gb,ac pW 2 (sU ..) (by ac_nf) rfl⟩
theorem uk (T:Txt w K mg t) (e:H r=some (.ins t.fg ar (kV c k cc b0 ld))):fa K H r (ab "standing") (.ref b0):=⟨_,ar,_,e,T.jl,T.SW,ac pW 3 (sU ..) (by ac_nf) rfl⟩
theorem ER (T:Txt w K mg t) (e:H r=some (.ins t.fg ar (kV c k cc b0 ld))):fa K H r (ab "lots") (.ref ld):=⟨_,ar,_,e,T.jl,T.Nm,ac pW 4 (sU ..) (by ac_nf) rfl⟩
end
def NE (H:au) (l:Addr) (qs:List Addr) (ls:List (Int × Int)):Prop:=H l=some (.lst (qs.map V.ref))/\qs.length=ls.length/\∀ (i:Nat) (q:Addr) (x:Int × Int),qs[i]? = some q->ls[i]? = some x->H q=some (.tup [.int x.1,.int x.2])
structure wM where
 c:Addr
 k:Addr
 aT:Addr
 az:Addr
 aQ:Addr
 b0:Addr
 ld:Addr
 bA:Str->Addr
structure oS where
 cc:Int
 st:Str->Int
 lo:Str->List (Int × Int)
structure e4 (t:bQ) (ns:List Str) (H:au) (r:Addr) (o:wM) (s:fK) (v:oS):Prop where
 at_:∃ ar,H r=some (.ins t.fg ar (kV o.c o.k v.cc o.b0 o.ld))
 bJ:eD t H o.k o.aT o.az o.aQ s
 b0:H o.b0=some (.a5 (dE ns fun x=>.int (v.st x)))
 ld:H o.ld=some (.a5 (dE ns fun x=>.ref (o.bA x)))
 ra:∀ x ∈ ns,∃ qs,NE H (o.bA x) qs (v.lo x)
 b9:o.b0 ≠ o.ld
 ck:o.b0 ≠ o.az
 dy:o.b0 ≠ o.aQ
 df:o.ld ≠ o.az
 e6:o.ld ≠ o.aQ
 fN:r ≠ o.k
 inj:∀ x ∈ ns,∀ y ∈ ns,o.bA x=o.bA y->x=y
def Own (ns:List Str) (r:Addr) (o:wM) (b:Addr):Prop:=b=r\/b=o.k\/b=o.az\/b=o.aQ\/b=o.b0\/b=o.ld\/∃ x ∈ ns,b=o.bA x
def hA (O:Addr->Prop) (H I:au):Prop:=∀ b u,¬ O b->H b=some u->I b=some u
section
variable {t:bQ} {ns:List Str} {H I:au} {r:Addr} {o:wM} {s:fK} {v:oS}
theorem NE.keep (h:NE H l qs ls) (af:∀ u,H l=some u->I l=some u) (ak:∀ q xs,H q=some (.tup xs)->I q=some (.tup xs)):NE I l qs ls:=
 ⟨af _ h.1,h.2.1,fun i q x a b=>ak _ _ (h.2.2 i q x a b)⟩
theorem e4.keep (h:e4 t ns H r o s v) (af:∀ b u,Own ns r o b->H b=some u->I b=some u) (ak:∀ q xs,H q=some (.tup xs)->I q=some (.tup xs)):e4 t ns I r o s v:=by
 obtain ⟨ar,e⟩:=h.at_;obtain ⟨nc,g_,b2,di,eB⟩:=h.bJ;refine ⟨⟨ar,af _ _ (.inl rfl) e⟩,⟨nc,g_,af _ _ (.inr (.inl rfl)) b2,af _ _ (.inr (.inr (.inl rfl))) di,af _ _ (.inr (.inr (.inr (.inl rfl)))) eB⟩,af _ _ (.inr (.inr (.inr (.inr (.inl rfl))))) h.b0,af _ _ (.inr (.inr (.inr (.inr (.inr (.inl rfl)))))) h.ld,fun x ag=>?_,h.b9,h.ck,h.dy,h.df,h.e6,h.fN,h.inj⟩;obtain ⟨qs,L⟩:=h.ra x ag;exact ⟨qs,L.keep (fun u e=>af _ _ (.inr (.inr (.inr (.inr (.inr (.inr ⟨x,ag,rfl⟩)))))) e) ak⟩
theorem e4.same (h:e4 t ns H r o s v) (e:aN H I):e4 t ns I r o s v:=h.keep (fun b u _=>e b u) (fun q xs=>e q _)
theorem e4.has (h:e4 t ns H r o s v) (aa:Own ns r o b):∃ u,H b=some u/\((∃ a b c,u=.ins a b c)\/(∃ k,u=.a5 k)\/∃ xs,u=.lst xs):=by
 obtain ⟨ar,e⟩:=h.at_;obtain ⟨nc,g_,b2,di,eB⟩:=h.bJ;rcases aa with rfl | rfl | rfl | rfl | rfl | rfl | ⟨x,ag,rfl⟩
 .exact ⟨_,e,.inl ⟨_,_,_,rfl⟩⟩
 .exact ⟨_,b2,.inl ⟨_,_,_,rfl⟩⟩
 .exact ⟨_,di,.inr (.inl ⟨_,rfl⟩)⟩
 .exact ⟨_,eB,.inr (.inl ⟨_,rfl⟩)⟩
 .exact ⟨_,h.b0,.inr (.inl ⟨_,rfl⟩)⟩
 .exact ⟨_,h.ld,.inr (.inl ⟨_,rfl⟩)⟩
 .obtain ⟨qs,L⟩:=h.ra x ag;exact ⟨_,L.1,.inr (.inr ⟨_,rfl⟩)⟩
theorem e4.off (h:e4 t ns H r o s v) (e:H b=some u) (af:∀ a b c,u ≠ .ins a b c) (ak:∀ k,u ≠ .a5 k) (bc:∀ xs,u ≠ .lst xs):¬ Own ns r o b:=fun aa=>by
 obtain ⟨tv,bM,k⟩:=h.has aa;rw [e] at bM;cases bM;rcases k with ⟨a,b,c,z⟩ | ⟨k,z⟩ | ⟨xs,z⟩
 .exact af _ _ _ z
 .exact ak _ z
 .exact bc _ z
theorem hA.trans (a:hA O H1 av) (b:hA O av bk):hA O H1 bk:=fun x u h e=>b x u h (a x u h e)
theorem hA.wide (a:hA O H1 av) (h:∀ b,O b->x7 b):hA x7 H1 av:=fun x u ag e=>a x u (fun z=>ag (h x z)) e
end
noncomputable def pB (v:oS) (x:Str) (m:Int):oS:=if 0 < m then { v with st:=dn v.st x (v.st x + m),lo:=dn v.lo x (v.lo x ++ [(v.cc,m)]) } else v
noncomputable def Uk (v:oS) (x:Str) (left:Int):oS:={ v with st:=dn v.st x (v.st x - left),lo:=dn v.lo x (fL left (v.lo x)).2 }
theorem ak_ (left:Int) (p:Int × Int) (ps:List (Int × Int)):fL left (p :: ps)=if left <= 0 then ([],p :: ps) else if p.2 <= left then (p :: (fL (left - p.2) ps).1,(fL (left - p.2) ps).2) else ([(p.1,left)],(p.1,p.2 - left) :: ps):=by rw [fL]
def agc (t:bQ):bX:=fun vs H Q _=>∃ ns r o s v x m,vs=[.ref r,.str x,.int m]/\e4 t ns H r o s v/\x ∈ ns/\ns.length <= 12/\(v.lo x).length <= 1000/\aI H/\∀ I,hA (fun b=>b=o.b0\/b=o.bA x) H I->aI I->e4 t ns I r o s (pB v x m)->Q .b' I
def rR (H:au) (p:Addr) (x:Str) (qs:List Addr) (ls:List (Int × Int)):Prop:=H p=some (.lst (qs.map V.ref))/\qs.length=ls.length/\∀ (i:Nat) (q:Addr) (y:Int × Int),qs[i]? = some q->ls[i]? = some y->H q=some (.tup [.str x,.int y.1,.int y.2])
theorem acE (h:NE H l qs ls) (aw:I l=some (.lst (qs.map V.ref ++ [V.ref q]))) (aG:I q=some (.tup [.int y.1,.int y.2])) (bS:∀ b xs,H b=some (.tup xs)->I b=some (.tup xs)):NE I l (qs ++ [q]) (ls ++ [y]):=by
 refine ⟨by rw [aw,fx];rfl,by rw [dS,dS,h.2.1];rfl,fun i dV x aD ag=>?_⟩;by_cases bZ:i < qs.length
 .rw [n8 bZ] at aD;rw [n8 (by rw [<- h.2.1];exact bZ)] at ag;exact bS _ _ (h.2.2 i dV x aD ag)
 .have ah:i=qs.length:=by
   have:=(cb.mp aD).1;rw [dS,tb] at this;omega
  subst ah;rw [mK (bR _),Fe] at aD;rw [h.2.1,mK (bR _),Fe] at ag;cases aD;cases ag;exact aG
theorem abY {x:Str} (h:rR H l x qs ls) (aw:I l=some (.lst (qs.map V.ref ++ [V.ref q]))) (aG:I q=some (.tup [.str x,.int y.1,.int y.2])) (bS:∀ b xs,H b=some (.tup xs)->I b=some (.tup xs)):rR I l x (qs ++ [q]) (ls ++ [y]):=by
 refine ⟨by rw [aw,fx];rfl,by rw [dS,dS,h.2.1];rfl,fun i dV z aD ag=>?_⟩;by_cases bZ:i < qs.length
 .rw [n8 bZ] at aD;rw [n8 (by rw [<- h.2.1];exact bZ)] at ag;exact bS _ _ (h.2.2 i dV z aD ag)
 .have ah:i=qs.length:=by
   have:=(cb.mp aD).1;rw [dS,tb] at this;omega
  subst ah;rw [mK (bR _),Fe] at aD;rw [h.2.1,mK (bR _),Fe] at ag;cases aD;cases ag;exact aG
theorem e4.WH {t:bQ} {ns:List Str} (h:e4 t ns H r o s v) {x:Str} (ag:x ∈ ns) (aw:I o.b0=some (.a5 (dE ns fun y=>.int (dn v.st x a y)))) (aG:NE I (o.bA x) qs ls) (bS:hA (fun b=>b=o.b0\/b=o.bA x) H I):e4 t ns I r o s { v with st:=dn v.st x a,lo:=dn v.lo x ls }:=by
 obtain ⟨ar,e⟩:=h.at_;obtain ⟨nc,g_,b2,di,eB⟩:=h.bJ;obtain ⟨aoY,WU⟩:=h.ra x ag;have sb:∀ {b:Addr} {u:dU},H b=some u->(∀ kvs,u ≠ .a5 kvs)->(∀ xs,u ≠ .lst xs)->I b=some u:=fun {b u} bz af ak=>bS b u (fun z=>by
  rcases z with rfl | rfl
  .rw [h.b0] at bz;exact af _ (dX bz).symm
  .rw [WU.1] at bz;exact ak _ (dX bz).symm) bz
 have MK:∀ {b:Addr} {kvs:List (Key × V)},H b=some (.a5 kvs)->b ≠ o.b0->I b=some (.a5 kvs):=fun {b kvs} bz aa=>bS b _ (fun z=>by
  rcases z with z | rfl
  .exact aa z
  .rw [WU.1] at bz;cases bz) bz
 refine ⟨⟨ar,sb e (fun _ z=>by cases z) (fun _ z=>by cases z)⟩,⟨nc,g_,sb b2 (fun _ z=>by cases z) (fun _ z=>by cases z),MK di (cX h.ck),MK eB (cX h.dy)⟩,aw,MK h.ld (cX h.b9),fun y aY=>?_,h.b9,h.ck,h.dy,h.df,h.e6,h.fN,h.inj⟩;by_cases c:y=x
 .subst c;refine ⟨qs,?_⟩;show NE I (o.bA y) qs (dn v.lo y ls y);rw [lq];exact aG
 .obtain ⟨Up,Vj⟩:=h.ra y aY;refine ⟨Up,?_⟩;show NE I (o.bA y) Up (dn v.lo x ls y);rw [kC c];refine Vj.keep (fun u fo=>bS _ _ (fun z=>?_) fo) (fun q xs eq=>sb eq (fun _ z=>by cases z) (fun _ z=>by cases z));rcases z with z | z
  .have:=Vj.1;rw [z,h.b0] at this;cases this
  .exact c (h.inj y aY x ag z)
def acx (P:Program) (w:World) (t:bQ):bX:=fun vs H Q _=>∃ n ds r o s v,∃ i:Nat,∃ d:bl,vs=[.ref r,.str d.name]/\e4 t (ds.map (·.name)) H r o s v/\fC t H o.c n ds/\ds[i]? = some d/\ds.length <= 12/\(v.lo d.name).length <= 1000/\(∀ p ∈ v.lo d.name,0 < p.2)/\eO (v.lo d.name)=v.st d.name/\aI H /\
 ∀ p qs I,hA (fun b=>b=o.b0\/b=o.bA d.name) H I->aI I->H p=none->rR I p d.name qs (fL (jy d (v.st d.name)) (v.lo d.name)).1->e4 t (ds.map (·.name)) I r o s (Uk v d.name (jy d (v.st d.name)))->Q (.ref p) I
theorem ajL:cv P base T 1 t.Dj t.LY z8 (agc t):=by
 exists T.Nt.ok XX,9
 obtain ⟨ns,r,o,aj,v,x,m,rfl,e0,ag,vv,tV,bG,q⟩:=h;have bt:=gT ao;refine ⟨_,(a6 (en (du ot (U 2) aM (cR _)) (aP (eo (gF ja mc ng Re (jM bt (bx (U 0) rfl) (U 1) (fun _ _=>rfl)) (ai (pQ (ai (bx (U 0) rfl) (ai (U 2) aE))) aE)))
   (a6 (O9 bt (bx (U 0) rfl) (U 1) (U 2) wL (fun _ _ _=>rfl)))) fe)),?_⟩
 obtain ⟨ar,e⟩:=e0.at_;obtain ⟨qs,L⟩:=e0.ra x ag;have gl:=fm.k (k:=bD x) e0.ld;rw [qS ag] at gl;refine eg (decide (0 < m)) (fun kL a9=>?_) (fun aa=>?_) (fun aa=>?_)
 .nofun;exact a9
 .have hm:=of_decide_eq_true aa;have l2:o.bA x ≠ o.b0:=fun z=>by have:=L.1;rw [z,e0.b0] at this;cases this
  have sV:r ≠ o.bA x:=fun z=>by have:=L.1;rw [<- z,e] at this;cases this
  have I3:ci (dE ns fun y=>.int (v.st y)) (bD x) (.int (v.st x + m))=dE ns fun y=>.int (dn v.st x (v.st x + m) y):=Au ag (fun y aY=>by unfold dn;split <;> rfl)
  nofun;refine ⟨_,ER T e,_,rfl,_,gl,mx ⟨_,aF.of L.1⟩,_,am8 T e,by decide,fun p aq=>?_⟩;have np:∀ {b:Addr} {u:dU},H b=some u->b ≠ p:=fun {b u} e z=>by rw [z,aq] at e;cases e
  have oL:∀ {b:Addr} {u a1 a2:dU},b ≠ o.bA x->H b=some u->upd (upd H p a1) (o.bA x) a2 b=some u:=fun {b u a1 a2} af e=>by rw [aA af,aA (np e)];exact e
  refine ⟨_,rfl,_,by rw [aA (np L.1)];exact L.1,by rw [aO,L.2.1];exact f5 tV (by decide),_,uk T (oL sV e),_,rfl,_,by have:=fm.k (k:=bD x) (oL (cX l2) e0.b0 (a1:=.tup [.int v.cc,.int m]) (a2:=.lst (qs.map V.ref ++ [V.ref p])));rw [qS ag] at this;exact this,_,rfl,_,hC.k (k:=bD x) (oL (cX l2) e0.b0) (by unfold dE;rw [aO];exact f5 vv (by decide)),?_⟩;rw [I3];have cU:hA (fun b=>b=o.b0\/b=o.bA x) H (upd (upd (upd H p (.tup [.int v.cc,.int m])) (o.bA x) (.lst (qs.map V.ref ++ [V.ref p]))) o.b0 (.a5 (dE ns fun y=>.int (dn v.st x (v.st x + m) y)))):=fun b u aa bz=>by
   rw [aA (fun z=>aa (.inl z))];exact oL (fun z=>aa (.inr z)) bz
  refine q _ cU bG.upd.upd.upd ?_;unfold pB;rw [if_pos hm];have pK:p ≠ o.b0:=fun z=>by rw [z,e0.b0] at aq;cases aq
  have cG:p ≠ o.bA x:=fun z=>by rw [z,L.1] at aq;cases aq
  exact e0.WH ag db (acE (y:=(v.cc,m)) L (by rw [aA l2];exact db) (by rw [aA pK,aA cG];exact db) (fun b xs bz=>cU b _ (fun z=>by
   rcases z with rfl | rfl
   .rw [e0.b0] at bz;cases bz
   .rw [L.1] at bz;cases bz) bz)) cU
 .have hm:=of_decide_eq_false aa;nofun;refine q H (fun _ _ _ e=>e) bG ?_;unfold pB;rw [if_neg hm];exact e0
theorem ali:cv P base T 3 t.Dl t.Jf iN (acx P w t):=by
 refine cB (p_ T) fun iV=>?_;have acX:mN P w K mg base dt 2 (qL t) "goes" lb (yB t):=xI (ab4 T) (by decide);exists T.Q2.ok rg,9
 obtain ⟨n,ds,r,o,aj,v,i,d,rfl,e0,C,hd,fq,tV,xP,Q5,bG,q⟩:=h;have bt:=gT ao;refine ⟨_,(aP (cg (i:=2) rg.aH (am1 (Gc (bx (U 0) rfl) T.gZ T.lc iV ao T.mh .nil cj (ai (U 1) aE)) acX ao cj (ai (jM bt (bx (U 0) rfl) (U 1) (fun _ _=>rfl)) aE)))
   (aP (O9 bt (bx (U 0) rfl) (U 1) (U 2) aeR (fun _ _ _=>rfl))
   (aP (cg (i:=3) rg.aH (jM bt (bx (U 0) rfl) (U 1) (fun _ _=>rfl)))
   (aP (cg (i:=4) rg.aH (gC aE))
   (aP (WM fj (du ot (U 2) aM (cR _)) (aP (Mr (cE ed (U 3) aM) (la (K:=K) (n:=2) rfl rfl (fc (cu (i:=5) rg.aH) (fc (cu (i:=6) rg.aH) k8))))
   (aP (cg (i:=7) rg.aH (gi (bv rfl) rfl T.C9 J' (ai (U 6) (ai (U 2) aE))))
   (aP (eo (gF ja mc ng Re (U 4) (ai (pQ (ai (U 1) (ai (U 5) (ai (U 7) aE)))) aE)))
   (aP (en (du fA (U 7) (U 6) (cR _)) (a6 (eo (gF ja Z5 PySem.F.type_list_pop aa5 (U 3) (ai aM aE)))) (a6 (Mr (pQ (ai (U 5) (ai (bP lA (U 6) (U 7)) aE))) (alO (U 3) aM ahw))))
   (a6 (XY (i:=2) rg.aH rfl (mx rfl) (U 7) afu)))))))
   (a6 (cz (U 4)))))))),?_⟩
 have ag:d.name ∈ ds.map (·.name):=cw.mpr ⟨d,cQ hd,rfl⟩;obtain ⟨ar,e⟩:=e0.at_;obtain ⟨qs,L⟩:=e0.ra _ ag;have bY:=fm.k (k:=bD d.name) e0.b0;rw [qS ag] at bY;obtain ⟨⟨ff,aoj⟩,za,wl,aH,bZ,_,_⟩:=id C;exists (fun ax I=>I=H/\ax=[~~~r,some (.str d.name),some (.int (jy d (v.st d.name))),none,none,none,none,none]),3
 .nofun;refine ⟨_,yh T e,_,rfl,_,_,bZ,iR _ _ _ (by ac_nf),o.c,n,ds,i,d,rfl,C,hd,fun a W=>?_⟩;obtain ⟨g_,LG,pf⟩:=id W;exact ⟨a,rfl,_,_,_,pf,⟨_,g_,rfl⟩,yq (by ac_nf),_,uk T e,_,rfl,_,bY,a,d,_,rfl,W,rfl,cC _ _ ⟨rfl,rfl⟩⟩
 rintro gf H1 ⟨rfl,rfl⟩;have amy:0 <= v.st d.name:=by rw [<- Q5];exact Ia xP
 have rI:0 <= jy d (v.st d.name)/\jy d (v.st d.name) <= eO (v.lo d.name):=by
  rw [Q5];unfold jy;split
  .omega
  .split <;> omega
 subst aV;generalize Pg:jy d (v.st d.name)=left at q rI ⊢;have I3:ci (dE (ds.map (·.name)) fun y=>.int (v.st y)) (bD d.name) (.int (v.st d.name - left))=dE (ds.map (·.name)) fun y=>.int (dn v.st d.name (v.st d.name - left) y):=Au ag (fun y aY=>by unfold dn;split <;> rfl)
 have l2:o.bA d.name ≠ o.b0:=fun z=>by have:=L.1;rw [z,e0.b0] at this;cases this
 exists (fun ax I=>I=upd H1 o.b0 (.a5 (dE (ds.map (·.name)) fun y=>.int (dn v.st d.name (v.st d.name - left) y)))/\ax=[~~~r,some (.str d.name),some (.int left),none,none,none,none,none]),3
 .nofun;exact ⟨_,uk T e,_,rfl,_,bY,_,rfl,_,hC.k (k:=bD d.name) e0.b0 (by unfold dE;rw [aO,aO];exact f5 fq (by decide)),cC _ _ ⟨by rw [I3],rfl⟩⟩
 rintro cn av ⟨qp,rfl⟩;have qR:hA (fun b=>b=o.b0\/b=o.bA d.name) H1 av:=fun b u aa bz=>by rw [qp,aA (fun z=>aa (.inl z))];exact bz
 have ck:aI av:=by rw [qp];exact bG.upd
 have OT:av o.b0=some (.a5 (dE (ds.map (·.name)) fun y=>.int (dn v.st d.name (v.st d.name - left) y))):=by rw [qp];exact db
 have oL:∀ {b:Addr} {u:dU},b ≠ o.b0->H1 b=some u->av b=some u:=fun {b u} aa bz=>by rw [qp,aA aa];exact bz
 have L2:NE av (o.bA d.name) qs (v.lo d.name):=L.keep (fun u fo=>oL l2 fo) (fun q xs eq=>oL (fun z=>by rw [z,e0.b0] at eq;cases eq) eq);have aG:=oL (fun z=>by rw [z,e0.b0] at e;cases e) e;have gl:=fm.k (k:=bD d.name) (oL (cX e0.b9) e0.ld);subst aV;rw [qS ag] at gl;clear qp;exists (fun ax I=>I=av/\ax=[~~~r,some (.str d.name),some (.int left),some (.ref (o.bA d.name)),none,none,none,none]),3
 .nofun;exact ⟨_,ER T aG,_,rfl,_,gl,cC _ _ ⟨rfl,rfl⟩⟩
 rintro fT bk ⟨rfl,rfl⟩;subst aV;exists (fun ax I=>aN bk I/\aI I/\∃ wp,bk wp=none/\I wp=some (.lst [])/\ax=[~~~r,some (.str d.name),some (.int left),some (.ref (o.bA d.name)),~~~wp,none,none,none]),3
 .nofun;exact ⟨e5 _,fun wp c5=>cC _ _ ⟨bf c5,ck.upd,wp,c5,db,rfl⟩⟩
 rintro kj b5 ⟨s4,df,wp,c5,gx,rfl⟩;have gu:wp ≠ o.bA d.name:=fun z=>by rw [z,L2.1] at c5;cases c5
 have DV:wp ≠ o.b0:=fun z=>by rw [z,OT] at c5;cases c5
 subst aV;exists (fun ax I=>hA (fun b=>b=o.bA d.name\/b=wp) b5 I/\aI I/\(∃ qs m',NE I (o.bA d.name) qs (fL left (v.lo d.name)).2/\rR I wp d.name m' (fL left (v.lo d.name)).1)/\∃ iP jN mQ lD,ax=[~~~r,some (.str d.name),iP,some (.ref (o.bA d.name)),~~~wp,jN,mQ,lD]),3
 .refine UZ (fun ax I=>hA (fun b=>b=o.bA d.name\/b=wp) b5 I/\aI I/\∃ (lf:Int) (ls ws:List (Int × Int)) (qs m':List Addr),NE I (o.bA d.name) qs ls/\rR I wp d.name m' ws/\0 <= lf/\lf <= eO ls/\(∀ p ∈ ls,0 < p.2)/\fL left (v.lo d.name)=(ws ++ (fL lf ls).1,(fL lf ls).2)/\∃ jN mQ lD,ax=[~~~r,some (.str d.name),some (.int lf),some (.ref (o.bA d.name)),~~~wp,jN,mQ,lD]) (fun ax _=>match ax[2]? with | some (some (V.int y))=>y.toNat | _=>0) ⟨fun _ _ _ e=>e,df,left,v.lo d.name,[],qs,[],L2.keep (fun u fo=>s4 _ _ fo) (fun q xs eq=>s4 _ _ eq),⟨gx,rfl,fun i q y h=>(by simp at h)⟩,rI.1,rI.2,xP,rfl,_,_,_,rfl⟩ ?_;rintro ax I bb;ac_rfl
  obtain ⟨cU,lu,lf,ls,ws,yn,m',yS,jd,h0,af,gb,hG,jN,mQ,lD,rfl⟩:=bb;subst aV;refine ⟨decide (0 < lf),fun Q a9=>?_,fun c=>?_,fun c=>?_⟩
  .nofun;exact a9
  .have pY:=of_decide_eq_true c;obtain ⟨eQ,rh,rfl⟩:∃ eQ rh,ls=eQ :: rh:=by
    cases ls with
    | nil=>rw [eO] at af;omega
    | cons eQ rh=>exact ⟨eQ,rh,rfl⟩
   obtain ⟨kO,qA,rfl⟩:∃ kO qA,yn=kO :: qA:=by
    cases yn with
    | nil=>have:=yS.2.1;cases this
    | cons kO qA=>exact ⟨kO,qA,rfl⟩
   have yN:=yS.2.2 0 kO eQ rfl rfl;have gc:=gb eQ (.head _);have alw:ws.length <= 1000:=by
    have h:=(CZ (v.lo d.name) left xP rI.1 rI.2).2.2.2.2.1;rw [hG,dS] at h;omega
   rw [eO] at af;simp only [dT];exists (fun cn av=>av=I/\cn=[~~~r,some (.str d.name),some (.int lf),some (.ref (o.bA d.name)),~~~wp,some (.int eQ.1),some (.int eQ.2),lD]),2
   .nofun;exact ⟨_,aF.of yS.1,_,cy (j:=0) rfl,_,rfl,_,de.of yN,rfl,_,_,rfl,_,_,rfl,rfl,cM _ _ ⟨rfl,rfl⟩⟩
   rintro n4 cP ⟨rfl,rfl⟩;subst aV;simp only [dT];exists (fun cn av=>av=cP/\cn=[~~~r,some (.str d.name),some (.int lf),some (.ref (o.bA d.name)),~~~wp,some (.int eQ.1),some (.int eQ.2),some (.int (if lf < eQ.2 then lf else eQ.2))]),2
   .nofun;exact cM _ _ ⟨rfl,rfl⟩
   rintro mS fS ⟨rfl,rfl⟩;subst aV;generalize vn:(if lf < eQ.2 then lf else eQ.2)=bg;have apz:0 < bg/\bg <= lf/\bg <= eQ.2/\(bg=eQ.2\/bg=lf):=by
    rw [<- vn];split <;> omega
   simp only [dT];exists (fun cn av=>hA (fun b=>b=wp) fS av/\aI av/\(∃ m',rR av wp d.name m' (ws ++ [(eQ.1,bg)]))/\cn=[~~~r,some (.str d.name),some (.int lf),some (.ref (o.bA d.name)),~~~wp,some (.int eQ.1),some (.int eQ.2),some (.int bg)]),2
   .nofun;refine ⟨mx ⟨_,aF.of jd.1⟩,by decide,fun p aq=>?_⟩;have hM:p ≠ wp:=fun z=>by rw [z,jd.1] at aq;cases aq
    have up:∀ b u,b ≠ wp->fS b=some u->upd (upd fS p (.tup [.str d.name,.int eQ.1,.int bg])) wp (.lst (m'.map V.ref ++ [V.ref p])) b=some u:=fun b u aa bz=>by rw [aA aa,aA (fun z=>by rw [z,aq] at bz;cases bz)];exact bz
    exact ⟨_,by rw [aA (cX hM)];exact jd.1,by rw [aO,jd.2.1];exact f5 alw (by decide),cM _ _ ⟨up,lu.upd.upd,⟨_,abY (y:=(eQ.1,bg)) jd db (by rw [aA hM];exact db) (fun b xs bz=>up b _ (fun z=>by rw [z,jd.1] at bz;cases bz) bz)⟩,rfl⟩⟩
   rintro kg gE ⟨Gn,jE,⟨Ww,IZ⟩,rfl⟩;have nF:NE gE (o.bA d.name) (kO :: qA) (eQ :: rh):=yS.keep (fun u fo=>Gn _ _ (fun z=>gu z.symm) fo) (fun q xs eq=>Gn _ _ (fun z=>by rw [z,jd.1] at eq;cases eq) eq);have agx:hA (fun b=>b=o.bA d.name\/b=wp) b5 gE:=cU.trans (Gn.wide fun b z=>.inr z);subst aV;simp only [dT];exists (fun cn av=>hA (fun b=>b=o.bA d.name) gE av/\aI av/\(∃ qs,NE av (o.bA d.name) qs (if bg=eQ.2 then rh else (eQ.1,eQ.2 - bg) :: rh))/\cn=[~~~r,some (.str d.name),some (.int lf),some (.ref (o.bA d.name)),~~~wp,some (.int eQ.1),some (.int eQ.2),some (.int bg)]),2
   .refine eg (decide (bg=eQ.2)) (fun kL a9=>?_) (fun aa=>?_) (fun aa=>?_)
    .nofun;exact a9
    .nofun;refine ⟨mx ⟨_,aF.of nF.1⟩,_,nF.1,by decide,by decide,0,seqIndex_of (by decide) (by rw [aO,hT];omega),_,rfl,cM _ _ ⟨fun b u aa bz=>by rw [aA aa];exact bz,jE.upd,⟨qA,?_⟩,rfl⟩⟩;rw [if_pos (of_decide_eq_true aa)];exact ⟨db,Nat.succ.inj nF.2.1,fun i q x aD ag=>by
      have:=nF.2.2 (i + 1) q x aD ag;rw [aA (br this nF.1 (by intro z;cases z))];exact this⟩
    .nofun;refine ⟨by decide,fun p aq=>?_⟩;have cG:p ≠ o.bA d.name:=fun z=>by rw [z,nF.1] at aq;cases aq
     have up:∀ b u,b ≠ o.bA d.name->gE b=some u->upd (upd gE p (.tup [.int eQ.1,.int (eQ.2 - bg)])) (o.bA d.name) (.lst (((kO :: qA).map V.ref).set 0 (V.ref p))) b=some u:=fun b u aa bz=>by rw [aA aa,aA (fun z=>by rw [z,aq] at bz;cases bz)];exact bz
     refine ⟨_,by rw [aA (cX cG)];exact nF.1,0,?_,cM _ _ ⟨up,jE.upd.upd,⟨p :: qA,?_⟩,rfl⟩⟩
     .unfold qU;rw [if_pos (by decide),if_pos (by rw [aO,hT];omega)];rfl
     .rw [if_neg (of_decide_eq_false aa)];refine ⟨db,nF.2.1,fun i q x aD ag=>?_⟩;cases i with
      | zero=>
       cases aD;cases ag;rw [aA cG];exact db
      | succ i=>
       have:=nF.2.2 (i + 1) q x aD ag;exact up _ _ (br this nF.1 (by intro z;cases z)) this
   rintro sF hz ⟨JZ,qq,⟨abn,afY⟩,rfl⟩;subst aV;nofun;have ahO:rR hz wp d.name Ww (ws ++ [(eQ.1,bg)]):=⟨JZ _ _ gu IZ.1,IZ.2.1,fun i q y aD aY=>by
    have:=IZ.2.2 i q y aD aY;exact JZ _ _ (br this nF.1 (by intro z;cases z)) this⟩
   unfold NR;refine ⟨_,_,rfl,rfl,agx.trans (JZ.wide fun b z=>.inl z),qq,⟨lf - bg,_,_,abn,afY,Ww,ahO,by omega,?_,?_,?_,rfl,_,rfl⟩,?_⟩
   .split
    .omega
    .rw [eO];show lf - bg <= eQ.2 - bg + eO rh;omega
   .split
    .exact fun p aq=>gb p (.tail _ aq)
    .intro p aq;rcases eZ.mp aq with z | z
     .rw [z];show 0 < eQ.2 - bg;omega
     .exact gb p (.tail _ z)
   .rw [hG,ak_,if_neg (by omega)];by_cases ct:eQ.2 <= lf
    .have hW:bg=eQ.2:=by rw [<- vn];split <;> omega
     rw [if_pos ct,if_pos hW,hW];simp
    .have hW:bg=lf:=by rw [<- vn];split <;> omega
     rw [if_neg ct,if_neg (by omega),hW,Int.sub_self,T5];simp
   .show (lf - bg).toNat < lf.toNat;omega
  .have pY:=of_decide_eq_false c;have:lf=0:=by omega
   subst this;rw [T5,vJ] at hG;rw [hG] at cC;exact cC _ _ ⟨cU,lu,⟨yn,m',yS,jd⟩,_,_,_,_,rfl⟩
 rintro n4 cP ⟨kb,e6,⟨aqg,aa0,ab1,lB⟩,iP,jN,mQ,lD,rfl⟩;have Ob:hA (fun b=>b=o.b0\/b=o.bA d.name) H1 cP:=fun b u aa bz=>by
  have bS:=qR b u aa bz;exact kb b u (fun z=>by
   rcases z with z | z
   .exact aa (.inr z)
   .rw [z,c5] at bS;cases bS) (s4 _ _ bS)
 subst aV;nofun;refine q wp aa0 cP Ob e6 ?_ lB (e0.WH ag (kb _ _ (fun z=>by
  rcases z with z | z
  .exact l2 z.symm
  .exact DV z.symm) (s4 _ _ OT)) ab1 Ob)
 cases z:H1 wp with
 | none=>rfl
 | some u=>
  have:=oL DV z;rw [c5] at this;cases this
section
variable (P:Program) (w:World)
def NH (t:bQ):bX:=fun vs H Q _=>∃ bU r ar aT c n ds rows kW,vs=[.ref r,.ref aT]/\H r=some (.ins t.fg ar [])/\gV P w t bU aT c n ds rows/\aN bU H/\bU r=none/\rows[0]? = some kW/\(dQ ds kW=eb\/dQ ds kW=kJ)/\aI H/\∀ o I,cK r H I->aI I->(∀ b,Own (ds.map (·.name)) r o b->b ≠ r->H b=none)->o.aT=aT->o.c=c->e4 t (ds.map (·.name)) I r o (lC ds kW) ⟨0,fun _=>0,fun _=>[]⟩->Q .b' I
def VB (t:bQ):bX:=fun vs H Q _=>∃ ns r o s v n ds rows,vs=[.ref r]/\e4 t ns H r o s v/\gV P w t H o.aT o.c n ds rows/\(∀ d ∈ ds,told rows d.name=true)/\Dc rows s/\aI H/\∀ p I,aN H I->aI I->H p=none->I p=some (.a5 (hF ds (gR n ds rows s)))->Q (.ref p) I
end
def NQ (t:bQ):bX:=fun vs H Q _=>∃ ns r o s v,vs=[.ref r]/\e4 t ns H r o s v/\ns.length <= 12/\∀ p I,aN H I->(aI H->aI I)->H p=none->I p=some (.a5 (dE ns fun x=>.int (v.st x)))->Q (.ref p) I
theorem adZ:cv P base T 5 t.yY t.z2 ["self"] (VB P w t):=by
 refine cB (K' T) fun uw=>?_;exists T.V'.ok afh,9
 obtain ⟨ns,r,o,aj,v,n,ds,rows,rfl,e0,dR,cZ,aC,bG,q⟩:=h;have bt:=gT ao;obtain ⟨ar,e⟩:=e0.at_;obtain ⟨_,g_,b2,_,_⟩:=id e0.bJ;refine ⟨_,(a6 (cz (gw (bx (U 0) rfl) T.eN T.CP uw ao T.zV .nil cj))),?_⟩;nofun;exact ⟨_,Xc T e,_,rfl,_,_,b2,Op _ _ _ _ _ _ _ _ (by ac_nf),o.k,o.aT,o.az,o.aQ,aj,o.c,n,ds,rows,rfl,e0.bJ,dR,cZ,aC,bG,fun p I bg nm aq gb=>q p I bg nm aq gb⟩
theorem ajj:cv P base T 1 t.xB t.Bt ["self"] (NQ t):=by
 exists T.NI.ok ak6,9
 obtain ⟨ns,r,o,aj,v,rfl,e0,vv,q⟩:=h;have bt:=gT ao;obtain ⟨ar,e⟩:=e0.at_;refine ⟨_,(a6 (cz (j' ahv rfl T.adq alp (ai (bx (U 0) rfl) aE)))),?_⟩;nofun;exact ⟨_,uk T e,_,rfl,_,e0.b0,fun p aq=>q p _ (bf aq) (fun n=>n.upd) aq db⟩
theorem aa7:cv P base T 3 t.xK t.AW pv (NH P w t):=by
 have Ms:cJ P w K mg base dt 1 t.vE t.yE pv (GP P w t):=EQ T;have m4:cJ P w K mg base dt 2 t.uL t.wN ["self"] (G2 t):=(On T).mono (by decide);exists T.sw.ok O',9
 obtain ⟨bU,r,ar,aT,c,n,ds,rows,kW,rfl,xM,dR,s0,UE,h0,lh,bG,q⟩:=h;obtain ⟨jY,le,mo,c8,cU,aS,ch,ms,kvs,aw,C,bS,er,gh,dZ,hE,j7,kH⟩:=id dR;have bt:=gT ao;refine ⟨_,(aP (eF (U 0) (bx (U 1) rfl) rfl)
   (aP (eF (U 0) (oC T.MQ Ms ao rfl T.U9 T.UR .nil cj (ai (U 1) aE)) rfl)
   (aP (eF (U 0) aM rfl)
   (aP (eF (U 0) q7 rfl)
   (aP (eF (U 0) q7 rfl)
   (a6 (fp fj rfl (eS (gw (bx (U 0) rfl) T.gZ T.sO m4 ao T.su .nil cj)) (cu (i:=2) O'.aH) (aP (mf bt (bx (U 0) rfl) (U 2) aM rfl)
   (a6 (mf bt (bx (U 0) rfl) (U 2) (gC aE) rfl)))))))))),?_⟩
 exists (fun ax I=>cK r H I/\aI I/\I r=some (.ins t.fg ar [(ab "crossing",V.ref c)])/\ax=[~~~r,~~~aT,none]),5
 .nofun;refine ⟨_,A7 T (s0 _ _ aw),?_⟩;refine ⟨_,_,_,xM,T.jl,T.NJ,(show (0:Nat) < 1000 by decide),?_⟩;rw [show cT (ab "crossing") (V.ref c) ([]:List (Str × V))=[(ab "crossing",V.ref c)] from fw [] rfl (by ac_nf)];exact cM _ _ ⟨fun b u aa e=>by rw [aA aa];exact e,bG.upd,db,rfl⟩
 rintro gf H1 ⟨cp,b9,a1,rfl⟩;subst aV;exists (fun ax I=>cK r H I/\aI I/\∃ k az aQ,H k=none/\H az=none/\H aQ=none/\k ≠ r/\I r=some (.ins t.fg ar [(ab "crossing",V.ref c),(ab "keeper",V.ref k)])/\eD t I k aT az aQ (lC ds kW)/\ax=[~~~r,~~~aT,none]),5
 .nofun;intro k g_ aC p5 E7;have kA:k ≠ r:=fun z=>by rw [z,a1] at aC;cases aC
  have B2:∀ {b:Addr},b ≠ r->H1 b=none->H b=none:=fun {b} aa e=>by
   cases z:H b with
   | none=>rfl
   | some u=>have:=cp _ _ aa z;rw [e] at this;cases this
  have bg:aN H1 (upd (upd H1 g_ (.own k)) k (.ins t.dd g_ [])):=(bf p5).trans (bf (by rw [aA (cX E7)];exact aC));have amY:aN bU H1:=fun b u e=>cp _ _ (dj e UE) (s0 _ _ e)
  refine ⟨k,g_,aT,c,n,ds,rows,kW,rfl,db,dR.same (amY.trans bg),h0,lh,b9.upd.upd,fun az aQ av e1 ck m_ kU f'=>⟨rfl,_,_,_,e1 _ _ (cX kA) (bg _ _ a1),T.jl,T.Tt,(show (1:Nat) < 1000 by decide),?_⟩⟩;rw [show cT (ab "keeper") (V.ref k) ([(ab "crossing",V.ref c)]:List (Str × V))=[(ab "crossing",V.ref c),(ab "keeper",V.ref k)] from fw [ab "crossing"] rfl (by ac_nf)];have u9:=e1 _ _ (cX kA) (bg _ _ a1);obtain ⟨eV,es,qe,pN,qz⟩:=f';have r2:az ≠ r:=fun z=>by rw [z,u9] at pN;cases pN
  have sX:aQ ≠ r:=fun z=>by rw [z,u9] at qz;cases qz
  exact cM _ _ ⟨fun b u aa e=>by rw [aA aa];exact e1 _ _ (fun z=>by rw [z] at e;rw [B2 kA aC] at e;cases e) (bg _ _ (cp _ _ aa e)),ck.upd,k,az,aQ,B2 kA aC,B2 r2 (bg.free m_),B2 sX (bg.free kU),kA,db,⟨eV,es,by rw [aA kA];exact qe,by rw [aA r2];exact pN,by rw [aA sX];exact qz⟩,rfl⟩
 rintro cn av ⟨e1,ck,k,az,aQ,h4,fZ,gc,kA,a2,s',rfl⟩;subst aV;exists (fun ax I=>cK r av I/\aI I/\I r=some (.ins t.fg ar [(ab "crossing",V.ref c),(ab "keeper",V.ref k),(ab "turn",V.int 0)])/\ax=[~~~r,~~~aT,none]),5
 .nofun;refine ⟨_,_,_,a2,T.jl,T.Gb,(show (2:Nat) < 1000 by decide),?_⟩;rw [show cT (ab "turn") (V.int 0) ([(ab "crossing",V.ref c),(ab "keeper",V.ref k)]:List (Str × V))=[(ab "crossing",V.ref c),(ab "keeper",V.ref k),(ab "turn",V.int 0)] from fw [ab "crossing",ab "keeper"] rfl (by ac_nf)];exact cM _ _ ⟨fun b u aa e=>by rw [aA aa];exact e,ck.upd,db,rfl⟩
 rintro fT bk ⟨fh,dy,fM,rfl⟩;subst aV;exists (fun ax I=>cK r bk I/\aI I/\∃ b0,bk b0=none/\I b0=some (.a5 [])/\I r=some (.ins t.fg ar [(ab "crossing",V.ref c),(ab "keeper",V.ref k),(ab "turn",V.int 0),(ab "standing",V.ref b0)])/\ax=[~~~r,~~~aT,none]),5
 .nofun;intro b0 nB;have qb:b0 ≠ r:=fun z=>by rw [z,fM] at nB;cases nB
  refine ⟨_,_,_,(bf nB) _ _ fM,T.jl,T.SW,(show (3:Nat) < 1000 by decide),?_⟩;rw [show cT (ab "standing") (V.ref b0) ([(ab "crossing",V.ref c),(ab "keeper",V.ref k),(ab "turn",V.int 0)]:List (Str × V))=[(ab "crossing",V.ref c),(ab "keeper",V.ref k),(ab "turn",V.int 0),(ab "standing",V.ref b0)] from fw [ab "crossing",ab "keeper",ab "turn"] rfl (by ac_nf)];exact cM _ _ ⟨fun b u aa e=>by rw [aA aa];exact (bf nB) _ _ e,dy.upd.upd,b0,nB,by rw [aA qb];exact db,db,rfl⟩
 rintro kj b5 ⟨dw,df,b0,nB,oh,lP,rfl⟩;subst aV;exists (fun ax I=>cK r b5 I/\aI I/\∃ ld,b5 ld=none/\I ld=some (.a5 [])/\I r=some (.ins t.fg ar (kV c k 0 b0 ld))/\ax=[~~~r,~~~aT,none]),5
 .nofun;intro ld oG;have sV:ld ≠ r:=fun z=>by rw [z,lP] at oG;cases oG
  refine ⟨_,_,_,(bf oG) _ _ lP,T.jl,T.Nm,(show (4:Nat) < 1000 by decide),?_⟩;rw [show cT (ab "lots") (V.ref ld) ([(ab "crossing",V.ref c),(ab "keeper",V.ref k),(ab "turn",V.int 0),(ab "standing",V.ref b0)]:List (Str × V))=kV c k 0 b0 ld from fw [ab "crossing",ab "keeper",ab "turn",ab "standing"] rfl (by ac_nf)];exact cM _ _ ⟨fun b u aa e=>by rw [aA aa];exact (bf oG) _ _ e,df.upd.upd,ld,oG,by rw [aA sV];exact db,db,rfl⟩
 rintro n4 cP ⟨ey,e6,ld,oG,rL,oA,rfl⟩;have qb:b0 ≠ r:=fun z=>by rw [z,lP] at oh;cases oh
 have jg:b0 ≠ ld:=fun z=>by rw [z,oG] at oh;cases oh
 have s5:=ey _ _ qb oh;have LM:cK r H cP:=fun b u aa e=>ey _ _ aa (dw _ _ aa (fh _ _ aa (e1 _ _ aa e)))
 have EX:cK r av cP:=fun b u aa e=>ey _ _ aa (dw _ _ aa (fh _ _ aa e))
 obtain ⟨c5,g_,b2,di,eB⟩:=id s';have r2:az ≠ r:=fun z=>by rw [z,a2] at di;cases di
 have sX:aQ ≠ r:=fun z=>by rw [z,a2] at eB;cases eB
 have qt:eD t cP k aT az aQ (lC ds kW):=⟨c5,g_,EX _ _ kA b2,EX _ _ r2 di,EX _ _ sX eB⟩;have free:∀ {b:Addr},b ≠ r->cP b=none->H b=none:=fun {b} aa e=>by
  cases z:H b with
  | none=>rfl
  | some u=>have:=LM _ _ aa z;rw [e] at this;cases this
 have va:fC t cP c n ds:=C.same (fun b u e=>LM _ _ (dj e UE) (s0 _ _ e));obtain ⟨⟨ff,fq⟩,za,wl,aH,bZ,_,_⟩:=id va;have QM:H b0=none:=by
  cases z:H b0 with
  | none=>rfl
  | some u=>have:=fh _ _ qb (e1 _ _ qb z);rw [nB] at this;cases this
 have sV:ld ≠ r:=fun z=>by rw [z,oA] at rL;cases rL
 have QK:H ld=none:=by
  cases z:H ld with
  | none=>rfl
  | some u=>have:=dw _ _ sV (fh _ _ sV (e1 _ _ sV z));rw [oG] at this;cases this
 have Dw:b0 ≠ az:=fun z=>by have:=fh _ _ r2 di;rw [<- z,nB] at this;cases this
 have iE:b0 ≠ aQ:=fun z=>by have:=fh _ _ sX eB;rw [<- z,nB] at this;cases this
 have QQ:ld ≠ az:=fun z=>by have:=dw _ _ r2 (fh _ _ r2 di);rw [<- z,oG] at this;cases this
 have TM:ld ≠ aQ:=fun z=>by have:=dw _ _ sX (fh _ _ sX eB);rw [<- z,oG] at this;cases this
 subst aV;nofun;refine ⟨_,yh T oA,_,rfl,_,_,bZ,iR _ _ _ (by ac_nf),c,n,ds,rfl,va,fun da hc=>⟨_,rfl,⟨_,aF.of db⟩,?_⟩⟩;have g6:=bf (o:=.lst (aX (ds.map (·.name)))) hc;have fN:aI (upd cP da (.lst (aX (ds.map (·.name))))):=e6.upd;have IS:upd cP da (.lst (aX (ds.map (·.name)))) da=some (.lst (aX (ds.map (·.name)))):=db;generalize upd cP da (.lst (aX (ds.map (·.name))))=fS at *;have k2:=g6 _ _ oA;refine dY.list (xs:=aX (ds.map (·.name))) (fun i σ I=>(∀ b u,b ≠ b0->b ≠ ld->fS b=some u->I b=some u)/\aI I/\(∃ bA:Str->Addr,I b0=some (.a5 (dE ((ds.map (·.name)).take i) fun _=>.int 0))/\I ld=some (.a5 (dE ((ds.map (·.name)).take i) fun x=>.ref (bA x)))/\(∀ x ∈ (ds.map (·.name)).take i,fS (bA x)=none/\I (bA x)=some (.lst []))/\∀ x ∈ (ds.map (·.name)).take i,∀ y ∈ (ds.map (·.name)).take i,bA x=bA y->x=y)/\∃ y,σ=[~~~r,~~~aT,y]) ?_ ?_ ?_ ?_
 .exact ⟨fun b u _ _ e=>e,fN,⟨fun _=>0,g6 _ _ s5,g6 _ _ rL,(fun x h=>by simp at h),(fun x h=>by simp at h)⟩,_,rfl⟩
 .rintro i σ I ah ⟨oy,_⟩;exact aF.of (oy _ _ (br IS (g6 _ _ s5) (by intro z;cases z)) (br IS (g6 _ _ rL) (by intro z;cases z)) IS)
 .rintro i QH σ I wy bb;ac_rfl
  obtain ⟨oy,jE,⟨bA,ec,eX,qw,p1⟩,y,rfl⟩:=bb;subst aV;unfold aX at wy;obtain ⟨x,ag,rfl⟩:=cm wy;have ob:x ∉ (ds.map (·.name)).take i:=fun z=>by
   obtain ⟨j,aL⟩:=iG z;have w5:j < i:=by
    have:=(cb.mp aL).1;rw [gK] at this;omega
   rw [rO w5] at aL;obtain ⟨dP,d3⟩:=cb.mp aL;obtain ⟨bO,dC⟩:=cb.mp ag;have:=(tP (h₀:=dP) (h₁:=bO) ff).mp (d3.trans dC.symm);omega
  have b8:∀ {y:Str},y ∈ (ds.map (·.name)).take i->y ≠ x:=fun {y} aY z=>ob (z ▸ aY)
  have g4:((ds.map (·.name)).take i).length <= 12:=by rw [gK,aO];omega
  have mz:=oy _ _ (fun z=>by rw [z,g6 _ _ s5] at k2;cases k2) (fun z=>by rw [z,g6 _ _ rL] at k2;cases k2) k2;rw [iH ag];simp only [gj,dT,jD,jn];have dP:ci (dE ((ds.map (·.name)).take i) fun _=>V.int 0) (bD x) (V.int 0)=dE ((ds.map (·.name)).take i ++ [x]) fun _=>V.int 0:=Mi (f:=fun _=>V.int 0) ob
  nofun;refine ⟨_,uk T mz,_,rfl,_,hC.k (k:=bD x) ec (by unfold dE;rw [aO];exact f5 g4 (by decide)),e5 _,fun p aq=>?_⟩;rw [dP] at aq ⊢;have h8:∀ {b:Addr} {u:dU},b ≠ b0->I b=some u->upd I b0 (.a5 (dE ((ds.map (·.name)).take i ++ [x]) fun _=>V.int 0)) b=some u:=fun {b u} aa e=>by rw [aA aa];exact e
  have S0:upd I b0 (.a5 (dE ((ds.map (·.name)).take i ++ [x]) fun _=>V.int 0)) b0=some (.a5 (dE ((ds.map (·.name)).take i ++ [x]) fun _=>V.int 0)):=db;have qq:aI (upd I b0 (.a5 (dE ((ds.map (·.name)).take i ++ [x]) fun _=>V.int 0))):=jE.upd;generalize upd I b0 (.a5 (dE ((ds.map (·.name)).take i ++ [x]) fun _=>V.int 0))=hz at *;have np:∀ {b:Addr} {u:dU},hz b=some u->b ≠ p:=fun {b u} e z=>by rw [z,aq] at e;cases e
  have AY:=h8 (cX jg) eX;have d3:ci (dE ((ds.map (·.name)).take i) fun y=>V.ref (bA y)) (bD x) (V.ref p)=dE ((ds.map (·.name)).take i ++ [x]) fun y=>V.ref (dn bA x p y):=by
   have eq:(dE ((ds.map (·.name)).take i) fun y=>V.ref (bA y))=dE ((ds.map (·.name)).take i) fun y=>V.ref (dn bA x p y):=by
    unfold dE;exact HT fun y aY=>by
     show ((bD y:Key),V.ref (bA y))=(bD y,V.ref (dn bA x p y));rw [kC (b8 aY)]
   have:=Mi (f:=fun y=>V.ref (dn bA x p y)) ob;rw [eq];rw [show (V.ref (dn bA x p x))=V.ref p by rw [lq]] at this;exact this
  have cG:p ≠ ld:=fun z=>np AY z.symm
  have pK:p ≠ b0:=fun z=>np S0 z.symm
  have acJ:fS p=none:=by
   cases z:fS p with
   | none=>rfl
   | some u=>have:=h8 pK (oy _ _ pK cG z);rw [aq] at this;cases this
  have fin:∀ {b:Addr} {u eU f_:dU},b ≠ ld->hz b=some u->upd (upd hz p eU) ld f_ b=some u:=fun {b u eU f_} af e=>by rw [aA af,aA (np e)];exact e
  refine ⟨_,ER T (bf aq _ _ (h8 (cX qb) mz)),_,rfl,_,hC.k (k:=bD x) (bf aq _ _ AY) (by unfold dE;rw [aO];exact f5 g4 (by decide)),fun b u af ak e=>fin ak (h8 af (oy _ _ af ak e)),qq.upd.upd,fin jg S0,⟨dn bA x p,by rw [db,d3],fun y aY=>?_,fun y aY z aW e=>?_⟩,_,rfl⟩
  .rcases gU.mp aY with m | m
   .rw [kC (b8 m)];obtain ⟨f1,f2⟩:=qw y m;exact ⟨f1,fin (br f2 eX (by intro z;cases z)) (h8 (br f2 ec (by intro z;cases z)) f2)⟩
   .rw [fG.mp m,lq];exact ⟨acJ,by rw [aA cG];exact db⟩
  .have old:∀ y ∈ (ds.map (·.name)).take i,bA y ≠ p:=fun y aY=>np (h8 (br (qw y aY).2 ec (by intro z;cases z)) (qw y aY).2)
   rcases gU.mp aY with m | m <;> rcases gU.mp aW with c6 | c6
   .rw [kC (b8 m),kC (b8 c6)] at e;exact p1 y m z c6 e
   .rw [kC (b8 m),fG.mp c6,lq] at e;exact absurd e (old y m)
   .rw [kC (b8 c6),fG.mp m,lq] at e;exact absurd e.symm (old z c6)
   .rw [fG.mp m,fG.mp c6]
 .rintro σ I bb;ac_rfl
  obtain ⟨oy,jE,⟨bA,ec,eX,qw,p1⟩,y,rfl⟩:=bb;subst aV;rw [fz,hB] at ec eX qw p1;have BP:∀ {b:Addr} {u:dU},b ≠ b0->b ≠ ld->cP b=some u->I b=some u:=fun {b u} af ak e=>oy _ _ af ak (g6 _ _ e)
  have acW:∀ x ∈ ds.map (·.name),cP (bA x)=none:=fun x ag=>g6.free (qw x ag).1
  have Jm:r ≠ b0:=cX qb;obtain ⟨_,B_,akh,aeK,ako⟩:=id qt;have knd:∀ {b:Addr} {u:dU},cP b=some u->(∀ kvs,u ≠ .a5 kvs)->I b=some u:=fun {b u} e af=>BP (fun z=>by rw [z,s5] at e;exact af _ (dX e).symm) (fun z=>by rw [z,rL] at e;exact af _ (dX e).symm) e
  nofun;refine q ⟨c,k,aT,az,aQ,b0,ld,bA⟩ I (fun b u aa e=>?_) jE (fun b aa Hi=>?_) rfl rfl ⟨⟨ar,knd oA (fun _ z=>by cases z)⟩,⟨c5,B_,knd akh (fun _ z=>by cases z),BP (cX Dw) (cX QQ) aeK,BP (cX iE) (cX TM) ako⟩,ec,eX,fun x ag=>⟨[],(qw x ag).2,rfl,fun i q y h=>(by simp at h)⟩,jg,Dw,iE,QQ,TM,cX kA,p1⟩
  .exact BP (dj e QM) (dj e QK) (LM _ _ aa e)
  .rcases aa with z | z | z | z | z | z | ⟨x,ag,z⟩
   .exact absurd z Hi
   .rw [z];exact h4
   .rw [z];exact fZ
   .rw [z];exact gc
   .rw [z];exact QM
   .rw [z];exact QK
   .rw [z] at Hi ⊢;exact free Hi (acW x ag)
noncomputable def stC (st:Str->Int) (bH:List (Str × Int)):Str->Int:=bH.foldl (fun st p=>dn st p.1 (st p.1 + p.2)) st
noncomputable def m1 (st:Str->Int) (ws:List (Str × Int × Int)):Str->Int:=ws.foldl (fun st p=>dn st p.1 (st p.1 - p.2.2)) st
theorem Rd (st:Str->Int) (bH:List (Str × Int)) (p:Str × Int):stC st (bH ++ [p])=dn (stC st bH) p.1 (stC st bH p.1 + p.2):=by unfold stC;rw [zR];rfl
theorem Nc (st:Str->Int) (a b:List (Str × Int × Int)):m1 st (a ++ b)=m1 (m1 st a) b:=by unfold m1;rw [zR]
theorem S6 {x:Str}:∀ (ls:List (Int × Int)) (st:Str->Int),m1 st (ls.map fun y=>(x,y))=dn st x (st x - eO ls)
 | [],st=>by
  funext y;show st y=dn st x (st x - eO []) y;unfold dn;rw [eO];split
  .rename_i e;rw [e];omega
  .rfl
 | p :: ls,st=>by
  rw [eu];show m1 (dn st x (st x - p.2)) (ls.map fun y=>(x,y))=_;rw [S6 ls,lq];funext y;unfold dn;rw [eO];split
  .omega
  .rfl
structure xy (ns:List Str) (cc:Int) (v:oS):Prop where
 pos:∀ x ∈ ns,∀ p ∈ v.lo x,0 < p.2
 sum:∀ x ∈ ns,eO (v.lo x)=v.st x
 len:∀ x ∈ ns,((v.lo x).length:Int) <= cc
structure lU (ns:List Str) (v:oS) (done:List Str):Prop where
 pos:∀ x ∈ ns,∀ p ∈ v.lo x,0 < p.2
 sum:∀ x ∈ ns,eO (v.lo x)=v.st x
 len:∀ x ∈ ns,((v.lo x).length:Int) <= v.cc + 1/\(x ∉ done->((v.lo x).length:Int) <= v.cc)
theorem lU.zero {ns:List Str} (h:xy ns v.cc v):lU ns v []:=⟨h.pos,h.sum,fun x ag=>⟨by have:=h.len x ag;omega,fun _=>h.len x ag⟩⟩
theorem lU.aeH {ns:List Str} {done:List Str} (h:lU ns v done) {x:Str} (ag:x ∉ done):lU ns (pB v x m) (done ++ [x]):=by
 unfold pB;split
 .rename_i hm;refine ⟨fun y aY p aq=>?_,fun y aY=>?_,fun y aY=>?_⟩
  .by_cases c:y=x
   .subst c;have aq:p ∈ dn v.lo y (v.lo y ++ [(v.cc,m)]) y:=aq;rw [lq] at aq;rcases gU.mp aq with z | z
    .exact h.pos y aY p z
    .rw [fG.mp z];exact hm
   .have aq:p ∈ dn v.lo x (v.lo x ++ [(v.cc,m)]) y:=aq;rw [kC c] at aq;exact h.pos y aY p aq
  .by_cases c:y=x
   .subst c;show eO (dn v.lo y (v.lo y ++ [(v.cc,m)]) y)=dn v.st y (v.st y + m) y;rw [lq,lq,V7,h.sum y aY];show v.st y + (m + 0)=_;omega
   .show eO (dn v.lo x (v.lo x ++ [(v.cc,m)]) y)=dn v.st x (v.st x + m) y;rw [kC c,kC c];exact h.sum y aY
  .by_cases c:y=x
   .subst c;show ((dn v.lo y (v.lo y ++ [(v.cc,m)]) y).length:Int) <= v.cc + 1/\_;rw [lq,dS,tb];have:=(h.len y aY).2 ag;exact ⟨by omega,fun z=>absurd (kI _ (fG.mpr rfl)) z⟩
   .show ((dn v.lo x (v.lo x ++ [(v.cc,m)]) y).length:Int) <= v.cc + 1/\(y ∉ done ++ [x]->((dn v.lo x (v.lo x ++ [(v.cc,m)]) y).length:Int) <= v.cc);rw [kC c];exact ⟨(h.len y aY).1,fun z=>(h.len y aY).2 fun u=>z (wY _ u)⟩
 .exact ⟨h.pos,h.sum,fun y aY=>⟨(h.len y aY).1,fun z=>(h.len y aY).2 fun u=>z (wY _ u)⟩⟩
theorem acI {x:Str} (hm:0 <= m):(pB v x m).st=dn v.st x (v.st x + m):=by
 unfold pB;split
 .rfl
 .funext y;unfold dn;split
  .rename_i e;rw [e];omega
  .rfl
theorem XU (v:oS) (x:Str) (m:Int):(pB v x m).cc=v.cc:=by unfold pB;split <;> rfl
theorem lU.go {ns:List Str} {done:List Str} (h:lU ns v done) {x:Str} (ag:x ∈ ns) {left:Int} (h0:0 <= left) (af:left <= v.st x):lU ns (Uk v x left) done:=by
 obtain ⟨a,b,c,d,e,f⟩:=CZ (v.lo x) left (h.pos x ag) h0 (by rw [h.sum x ag];exact af);refine ⟨fun y aY p aq=>?_,fun y aY=>?_,fun y aY=>?_⟩
 .by_cases ct:y=x
  .subst ct;have aq:p ∈ dn v.lo y (fL left (v.lo y)).2 y:=aq;rw [lq] at aq;exact d p aq
  .have aq:p ∈ dn v.lo x (fL left (v.lo x)).2 y:=aq;rw [kC ct] at aq;exact h.pos y aY p aq
 .by_cases ct:y=x
  .subst ct;show eO (dn v.lo y (fL left (v.lo y)).2 y)=dn v.st y (v.st y - left) y;rw [lq,lq,b,h.sum y aY]
  .show eO (dn v.lo x (fL left (v.lo x)).2 y)=dn v.st x (v.st x - left) y;rw [kC ct,kC ct];exact h.sum y aY
 .by_cases ct:y=x
  .subst ct;show ((dn v.lo y (fL left (v.lo y)).2 y).length:Int) <= v.cc + 1/\(y ∉ done->((dn v.lo y (fL left (v.lo y)).2 y).length:Int) <= v.cc);rw [lq];obtain ⟨cA,cW⟩:=h.len y aY;exact ⟨by omega,fun z=>by have:=cW z;omega⟩
  .show ((dn v.lo x (fL left (v.lo x)).2 y).length:Int) <= v.cc + 1/\(y ∉ done->((dn v.lo x (fL left (v.lo x)).2 y).length:Int) <= v.cc);rw [kC ct];exact h.len y aY
noncomputable def eK (bH:List (Str × Int)):List (Key × V):=bH.map fun p=>(bD p.1,V.int p.2)
theorem ado (aH:(bH.map (·.1)).Nodup) {p:Str × Int} (h:p ∈ bH):c1 (eK bH) (bD p.1)=some (.int p.2):=by
 induction bH with
 | nil=>cases h
 | cons y ys b7=>
  rw [eu,rX] at aH;rcases eZ.mp h with e | e
  .subst e;simp [eK,c1]
  .have c:¬ y.1=p.1:=fun z=>aH.1 (z ▸ cw.mpr ⟨p,e,rfl⟩)
   have:=b7 aH.2 e;simp only [eK,c1,eu,o_] at this ⊢;simp [c] at this ⊢;exact this
def u0 (H:au) (p:Addr) (qs:List Addr) (ws:List (Str × Int × Int)):Prop:=H p=some (.lst (qs.map V.ref))/\qs.length=ws.length/\∀ (i:Nat) (q:Addr) (y:Str × Int × Int),qs[i]? = some q->ws[i]? = some y->H q=some (.tup [.str y.1,.int y.2.1,.int y.2.2])
theorem acP {p b:Addr} {x:Str} (h:u0 H p qs ws) (g:rR H b x m' ls) (aw:I p=some (.lst (qs.map V.ref ++ m'.map V.ref))) (bS:∀ b xs,H b=some (.tup xs)->I b=some (.tup xs)):u0 I p (qs ++ m') (ws ++ ls.map fun y=>(x,y)):=by
 refine ⟨by rw [aw,fx],by rw [dS,dS,aO,h.2.1,g.2.1],fun i q y aD aY=>?_⟩;by_cases bZ:i < qs.length
 .rw [n8 bZ] at aD;rw [n8 (by rw [<- h.2.1];exact bZ)] at aY;exact bS _ _ (h.2.2 i q y aD aY)
 .rw [mK (by omega)] at aD;rw [mK (by rw [<- h.2.1];omega),<- h.2.1] at aY;obtain ⟨z,aW,rfl⟩:=cm aY;exact bS _ _ (g.2.2 _ q z aD aW)
noncomputable def nL (ns:List Str) (st:Str->Int):List Str:=ns.filter fun x=>decide (0 < st x)
def Ph (P:Program) (w:World) (K:ba) (t:bQ) (Pt:Addr):bX:=fun vs H Q _=>∃ bU r o s v n ds rows ca bH,vs=[.ref r,.ref ca]/\e4 t (ds.map (·.name)) H r o s v/\gV P w t bU o.aT o.c n ds rows/\aN bU H/\(∀ b,Own (ds.map (·.name)) r o b->bU b=none)/\bU Pt=none/\qh ds rows/\jr ds rows s/\xy (ds.map (·.name)) v.cc v/\0 <= v.cc/\v.cc <= 100/\H ca=some (.a5 (eK bH))/\(bH.map (·.1)).Nodup/\(∀ p ∈ bH,p.1 ∈ ds.map (·.name)/\0 <= p.2)/\¬ Own (ds.map (·.name)) r o ca/\bU ca=none/\j5 Pt H/\aI H /\
 ∀ p qs ws aj jk I,qi n ds rows (tK rows s (nL (ds.map (·.name)) (stC v.st bH))) ((nL (ds.map (·.name)) (stC v.st bH)).any (ko rows s)) aj->hA (fun b=>Own (ds.map (·.name)) r o b\/b=Pt) H I->aI I->j5 Pt I->u0 I p qs ws->(∀ y ∈ ws,y.1 ∈ ds.map (·.name))->ws.length <= 2000->jk.cc=v.cc + 1->jk.st=m1 (stC v.st bH) ws->xy (ds.map (·.name)) jk.cc jk->e4 t (ds.map (·.name)) I r o aj jk->Q (.ref p) I
theorem adV (cV:pL base t.q8 Pt) (iD:base.BuiltinsAt mg Pt):cv P base T 6 t.x1 t.BS zU (Ph P w K t Pt):=by
 refine cB (p_ T) fun iV=>cB (On T) fun m4=>cB (ajL T) fun aaz=>cB (ali T) fun alQ=>cB (S2 T cV iD) fun KY=>?_;exists T.lm.ok uF,9
 obtain ⟨bU,r,o,aj,v,n,ds,rows,ca,bH,rfl,e0,dR,s0,Ar,Q0,R,pa,y_,Dm,DQ,je,kY,iq,sW,Kp,bT,bG,q⟩:=h;have bt:=gT ao;obtain ⟨jY,le,mo,c8,cU,aS,ch,ms,kvs,aw,C,bS,er,gh,dZ,hE,j7,kH⟩:=id dR;obtain ⟨⟨ff,fq⟩,za,wl,aH,bZ,_,_⟩:=id C;have o8:bH.length <= 12:=by
  have:=kY.length_le_of_subset (l₂:=ds.map (·.name)) fun x ag=>by
   obtain ⟨p,aq,rfl⟩:=cw.mp ag;exact (iq p aq).1
  rw [aO,aO] at this;omega
 obtain ⟨ar,e⟩:=e0.at_;refine ⟨_,(aP (BD (fp fj rfl (Ee (U 1)) (cu (i:=2) uF.aH) (a6 (eo (Gc (bx (U 0) rfl) T.gZ T.lc iV ao T.mh .nil cj (ai (U 2) aE))))))
   (aP (BD (fp fj rfl (Ee (U 1)) (cu (i:=2) uF.aH) (a6 (eo (Gc (U 0) T.jl T.amT aaz ao T.alo .nil cj (ai (U 2) (ai (jM bt (U 1) (U 2) (fun _ _=>rfl)) aE)))))))
   (aP (cg (i:=3) uF.aH (Gc (bx (U 0) rfl) T.eN T.UB KY ao T.W8 .nil cj (ai (ij rfl (eS (gw (bx (U 0) rfl) T.gZ T.sO m4 ao T.su .nil cj)) (g0 (sc:=bE LZ) rfl (by ac_nf)) (N:=uz) (sel:=[none,some 0]) (gO (M:=["self","comings","name","colours","went"]) (by ac_nf)) (fP.of (fun _ _ _ _=>(cu (i:=0) (eJ (N:=uz) (by ac_nf) rfl))) (fun _ _ _ _=>⟨_,(sI (du ot (jM bt (bx (U 1) rfl) (U 0) (fun _ _=>rfl)) aM (cR _))),by walk_at "B"⟩) (fun _ _ _ _=>⟨_,(U 0),by walk_at "B"⟩))) aE)))
   (aP (cg (i:=4) uF.aH (gC aE))
   (aP (fp fj rfl (eS (gw (bx (U 0) rfl) T.gZ T.sO m4 ao T.su .nil cj)) (cu (i:=2) uF.aH) (a6 (en (du fA (jM bt (U 3) (U 2) (fun _ _=>rfl)) dD (cR _)) (a6 (eo (gF ja DW Gj z5 (U 4) (ai (Gc (U 0) T.jl T.XC alQ ao T.agC .nil cj (ai (U 2) aE)) aE)))) fe)))
   (aP (Dy (U 0) aM wL)
   (a6 (cz (U 4))))))))),?_⟩
 have ow:∀ {x:Str},x ∈ ds.map (·.name)->∃ (j:Nat) (d:bl),ds[j]? = some d/\d.name=x:=fun {x} h=>by
  obtain ⟨d,hd,e⟩:=cw.mp h;obtain ⟨j,aL⟩:=iG hd;exact ⟨j,d,aL,e⟩
 have mH:(eK bH).length=bH.length:=by unfold eK;rw [aO]
 exists (fun ax I=>I=H/\∃ y,ax=[~~~r,~~~ca,y,none,none]),3
 .nofun;refine ⟨ca,_,je,_,je,fun bI=>?_⟩;have Y6:upd (upd H ca (.dx bI (.a5 (eK bH)))) ca (.a5 (eK bH))=H:=by
   funext b;by_cases c:b=ca
   .rw [c,db,je]
   .rw [aA c,aA c]
  have ee:∀ {b:Addr} {u:dU},b ≠ ca->H b=some u->upd H ca (.dx bI (.a5 (eK bH))) b=some u:=fun {b u} aa e=>by rw [aA aa];exact e
  have WS:aN bU (upd H ca (.dx bI (.a5 (eK bH)))):=fun b u e=>ee (dj e Kp) (s0 _ _ e)
  have m3:upd H ca (.dx bI (.a5 (eK bH))) ca=some (.dx bI (.a5 (eK bH))):=db;generalize upd H ca (.dx bI (.a5 (eK bH)))=BO at *;refine dY.of (n:=bH.length) (fun i σ I=>I=BO/\∃ y,σ=[~~~r,~~~ca,y,none,none]) ⟨rfl,_,rfl⟩ (fun i σ I ah h=>?_) (fun σ I h=>?_) ?_ ?_
  .rw [h.1];exact ⟨m3,by rw [mH];exact ah⟩
  .rw [h.1];exact ⟨m3,by rw [mH];exact bR _⟩
  .rintro i σ I x h2 ah ⟨rfl,y,rfl⟩ ⟨rfl,k,xa,o4,rfl⟩;unfold eK at o4;obtain ⟨p,aq,ep⟩:=cm o4;cases ep;obtain ⟨j,d,hd,hX⟩:=ow (iq p (cQ aq)).1;simp only [gj,jD,jn];nofun;refine ⟨_,yh T (ee (fun z=>sW (.inl z.symm)) e),_,rfl,_,_,WS _ _ bZ,iR _ _ _ (by ac_nf),o.c,n,ds,j,d,by rw [hX];rfl,C.same WS,hd,fun a W=>⟨rfl,_,rfl⟩⟩
  .rintro σ I ⟨rfl,y,rfl⟩;refine ⟨bI,m3,?_⟩;rw [Y6];exact cC _ _ ⟨rfl,y,rfl⟩
 rintro gf H1 ⟨rfl,mJ,rfl⟩;subst aV;exists (fun ax I=>hA (Own (ds.map (·.name)) r o) H1 I/\aI I/\(∃ v1,e4 t (ds.map (·.name)) I r o aj v1/\lU (ds.map (·.name)) v1 (bH.map (·.1))/\v1.cc=v.cc/\v1.st=stC v.st bH)/\∃ y,ax=[~~~r,~~~ca,y,none,none]),3
 .nofun;refine ⟨ca,_,je,_,je,fun bI=>?_⟩;have ee:∀ {b:Addr} {u:dU},b ≠ ca->H1 b=some u->upd H1 ca (.dx bI (.a5 (eK bH))) b=some u:=fun {b u} aa e=>by rw [aA aa];exact e
  have m3:upd H1 ca (.dx bI (.a5 (eK bH))) ca=some (.dx bI (.a5 (eK bH))):=db;have hh:aI (upd H1 ca (.dx bI (.a5 (eK bH)))):=bG.upd;generalize upd H1 ca (.dx bI (.a5 (eK bH)))=BO at *;have aaD:e4 t (ds.map (·.name)) BO r o aj v:=e0.keep (fun b u aa e=>ee (fun z=>sW (by rw [<- z];exact aa)) e) (fun q xs e=>ee (fun z=>by rw [z,je] at e;cases e) e);refine dY.of (n:=bH.length) (fun i σ I=>hA (Own (ds.map (·.name)) r o) BO I/\aI I/\(∃ v1,e4 t (ds.map (·.name)) I r o aj v1/\lU (ds.map (·.name)) v1 ((bH.take i).map (·.1))/\v1.cc=v.cc/\v1.st=stC v.st (bH.take i))/\∃ y,σ=[~~~r,~~~ca,y,none,none]) ⟨fun _ _ _ e=>e,hh,⟨v,aaD,lU.zero y_,rfl,rfl⟩,_,rfl⟩ (fun i σ I ah h=>?_) (fun σ I h=>?_) ?_ ?_
  .exact ⟨h.1 _ _ sW m3,by rw [mH];exact ah⟩
  .exact ⟨h.1 _ _ sW m3,by rw [mH];exact bR _⟩
  .rintro i σ I x h2 ah ⟨vr,g9,⟨v1,sj,zr,G5,Dd⟩,y,rfl⟩ ⟨rfl,k,xa,o4,rfl⟩;unfold eK at o4;obtain ⟨p,aq,ep⟩:=cm o4;cases ep;have mC:=cQ aq;have am':p.1 ∉ (bH.take i).map (·.1):=fun z=>by
    obtain ⟨iv,gb,bM⟩:=cw.mp z;obtain ⟨j,aL⟩:=iG gb;have w5:j < i:=by
     have:=(cb.mp aL).1;rw [gK] at this;omega
    rw [rO w5] at aL;obtain ⟨dP,d3⟩:=cb.mp aL;obtain ⟨bO,dC⟩:=cb.mp aq;have:=(tP (xs:=bH.map (·.1)) (i:=j) (j:=i) (h₀:=by rw [aO];exact dP) (h₁:=by rw [aO];exact bO) kY).mp (by rw [pP,pP,d3,dC,bM]);omega
   obtain ⟨Hw,aau⟩:=sj.at_;have ahp:fm h2 ca (.str p.1) (some (.int p.2)):=.inl ⟨eK bH,bD p.1,.inr ⟨bI,vr _ _ sW m3⟩,rfl,(ado kY mC).symm⟩;have hlen:=zr.len p.1 (iq p mC).1;simp only [gj,jD,jn];nofun;refine ⟨_,_,aau,qQ _ _ _ _ _ (by ac_nf),_,ahp,ds.map (·.name),r,o,aj,v1,p.1,p.2,rfl,sj,(iq p mC).1,by rw [aO];exact fq,by omega,g9,fun av qR ck mF=>⟨vr.trans (qR.wide fun b z=>?_),ck,⟨_,mF,?_,by rw [XU];exact G5,?_⟩,_,rfl⟩⟩
   .rcases z with z | z
    .exact .inr (.inr (.inr (.inr (.inl z))))
    .exact .inr (.inr (.inr (.inr (.inr (.inr ⟨p.1,(iq p mC).1,z⟩)))))
   .rw [iH aq,fx];exact zr.aeH am'
   .rw [acI (iq p mC).2,iH aq,Rd,Dd]
  .rintro σ I bb;ac_rfl
   obtain ⟨vr,g9,⟨v1,sj,zr,G5,Dd⟩,y,rfl⟩:=bb;subst aV;rw [hB] at zr Dd;have Rg:=vr _ _ sW m3;refine ⟨bI,Rg,cC _ _ ⟨fun b u aa bz=>?_,g9.upd,⟨v1,sj.keep (fun b u aa bz=>?_) (fun q xs bz=>?_),zr,G5,Dd⟩,y,rfl⟩⟩
   .by_cases c:b=ca
    .rw [c,db];rw [c,je] at bz;exact bz
    .rw [aA c];exact vr _ _ aa (ee c bz)
   .rw [aA (fun z=>sW (by rw [<- z];exact aa))];exact bz
   .rw [aA (fun z=>by rw [z,Rg] at bz;cases bz)];exact bz
 rintro cn av ⟨qR,ck,⟨v1,mF,agf,xJ,Vu⟩,iP,rfl⟩;have AO:aN bU av:=fun b u bz=>qR _ _ (fun z=>by rw [Ar b z] at bz;cases bz) (s0 _ _ bz)
 obtain ⟨tg,aG⟩:=mF.at_;obtain ⟨apX,apj,Z6,apf,aoO⟩:=id mF.bJ;have Cq:=C.same AO;have Wz:¬ Own (ds.map (·.name)) r o Pt:=by
  obtain ⟨ps,e,cF⟩:=bT;exact e0.off e (fun _ _ _ z=>by cases z) (fun _ z=>by cases z) (fun _ z=>by cases z)
 have nk:j5 Pt av:=by
  obtain ⟨ps,e,cF⟩:=bT;refine ⟨ps,qR _ _ Wz e,?_⟩;rcases cF with cF | ⟨c',cF,bM⟩
  .exact .inl cF
  .exact .inr ⟨c',cF,qR _ _ (e0.off bM (fun _ _ _ z=>by cases z) (fun _ z=>by cases z) (fun _ z=>by cases z)) bM⟩
 have tB:∀ {b:Addr},Own (ds.map (·.name)) r o b->bU b=none:=fun {b} aa=>Ar b aa
 subst aV;exists (fun ax I=>hA (fun b=>Own (ds.map (·.name)) r o b\/b=Pt) av I/\aI I/\j5 Pt I/\(∃ p' i5,qi n ds rows (tK rows aj (nL (ds.map (·.name)) (stC v.st bH))) ((nL (ds.map (·.name)) (stC v.st bH)).any (ko rows aj)) p'/\e4 t (ds.map (·.name)) I r o p' v1/\av i5=none/\I i5=some (.a5 (hF ds (gR n ds rows aj)))/\ax=[~~~r,~~~ca,iP,~~~i5,none])),3
 .have bY:∀ x ∈ ds.map (·.name),∀ I,aN av I->fm I o.b0 (.str x) (some (.int (v1.st x))):=fun x ag I bg=>by
   have:=fm.k (k:=bD x) (bg _ _ mF.b0);rw [qS ag] at this;exact this
  nofun;refine ⟨_,Xc T aG,_,rfl,_,_,Z6,Op _ _ _ _ _ _ _ _ (by ac_nf),_,yh T aG,_,rfl,_,_,AO _ _ bZ,iR _ _ _ (by ac_nf),o.c,n,ds,rfl,Cq,fun da hc=>⟨_,rfl,⟨_,aF.of db⟩,?_⟩⟩;have pA:=bf (o:=.lst (aX (ds.map (·.name)))) hc;have mT:upd av da (.lst (aX (ds.map (·.name)))) da=some (.lst (aX (ds.map (·.name)))):=db;have FE:aI (upd av da (.lst (aX (ds.map (·.name))))):=ck.upd;generalize upd av da (.lst (aX (ds.map (·.name))))=bk at *;refine dg.r_ (xs:=aX (ds.map (·.name))) (ss:=(ds.map (·.name)).map fun x=>if decide (0 < stC v.st bH x)=true then some (V.str x) else none) (aF.of mT) (by rw [fz,aO];exact c7 fq (by decide)) (by rw [fz,aO]) (fun i xa dN ys N aJ aS bu=>?_) (fun l aK=>?_)
  .unfold aX at aJ;obtain ⟨x,ag,rfl⟩:=cm aJ;obtain ⟨fH,d_,rfl⟩:=cm aS;rw [ag] at d_;cases d_;nofun;refine ⟨Sub.name,_,uk T (pA _ _ aG),_,rfl,_,bY x (cQ ag) _ pA,_,rfl,?_⟩;rw [Vu];by_cases cO:0 < stC v.st bH x
   .simp [cO] at bu ⊢;exact bu
   .simp [cO] at bu ⊢;exact bu
  .rw [u2];have sL:=pA.trans (bf (o:=.lst (aX ((ds.map (·.name)).filter fun x=>decide (0 < stC v.st bH x)))) aK);refine ⟨bU,o.k,o.aT,o.az,o.aQ,aj,o.c,n,ds,rows,l,nL (ds.map (·.name)) (stC v.st bH),rfl,mF.bJ.same sL,dR,AO.trans sL,tB (.inr (.inl rfl)),tB (.inr (.inr (.inl rfl))),tB (.inr (.inr (.inr (.inl rfl)))),Q0,R,pa,db,?_,fun x ag=>(lE.mp ag).1,nk.step sL,FE.upd,fun i5 p' b5 qf p7 yG aaL df aik tH=>cC _ _ ⟨fun b u aa bz=>?_,df,aik,⟨p',i5,qf,?_,sL.free yG,aaL,rfl⟩⟩⟩
   .refine c7 (um _ _) ?_;rw [aO];omega
   .have fF:¬ Own (ds.map (·.name)) r o b:=fun z=>aa (.inl z)
    exact p7 _ _ (fun z=>fF (.inr (.inl z))) (fun z=>fF (.inr (.inr (.inl z)))) (fun z=>fF (.inr (.inr (.inr (.inl z))))) (fun z=>aa (.inr z)) (sL _ _ bz)
   .have i8:=mF.same sL;obtain ⟨adH,alK,_⟩:=nk.step sL;have wo:∀ {b:Addr} {u:dU},b ≠ o.k->b ≠ o.az->b ≠ o.aQ->(∀ ps,u ≠ .gQ ps)->upd bk l (.lst (aX ((ds.map (·.name)).filter fun x=>decide (0 < stC v.st bH x)))) b=some u->b5 b=some u:=fun {b u} af ak bc c4 bz=>p7 _ _ af ak bc (fun z=>by rw [z,alK] at bz;exact c4 _ (dX bz).symm) bz
    obtain ⟨vu,er⟩:=i8.at_;obtain ⟨_,aqi,hJ,hv,l3⟩:=id i8.bJ;refine ⟨⟨vu,wo i8.fN (br er hv (by intro z;cases z)) (br er l3 (by intro z;cases z)) (fun _ z=>by cases z) er⟩,tH,wo (br i8.b0 hJ (by intro z;cases z)) i8.ck i8.dy (fun _ z=>by cases z) i8.b0,wo (br i8.ld hJ (by intro z;cases z)) i8.df i8.e6 (fun _ z=>by cases z) i8.ld,fun x ag=>?_,i8.b9,i8.ck,i8.dy,i8.df,i8.e6,i8.fN,i8.inj⟩;obtain ⟨qs,L⟩:=i8.ra x ag;exact ⟨qs,L.keep (fun u fo=>wo (br L.1 hJ (by intro z;cases z)) (br L.1 hv (by intro z;cases z)) (br L.1 l3 (by intro z;cases z)) (fun ps z=>by rw [L.1,z] at fo;cases fo) fo) (fun q xs eq=>wo (br eq hJ (by intro z;cases z)) (br eq hv (by intro z;cases z)) (br eq l3 (by intro z;cases z)) (fun ps z=>by cases z) eq)⟩
 rintro fT bk ⟨Vc,dy,anu,p',i5,qf,F',Zt,yG,rfl⟩;have Rw:aN bU bk:=fun b u bz=>Vc _ _ (fun z=>by
  rcases z with z | z
  .rw [Ar b z] at bz;cases bz
  .rw [z,Q0] at bz;cases bz) (AO _ _ bz)
 have ajH:¬ Own (ds.map (·.name)) r o i5:=fun z=>by
  obtain ⟨u,fo,_⟩:=mF.has z;rw [Zt] at fo;cases fo
 subst aV;exists (fun ax I=>aN bk I/\aI I/\∃ wp,bk wp=none/\I wp=some (.lst [])/\ax=[~~~r,~~~ca,iP,~~~i5,~~~wp]),3
 .nofun;exact ⟨e5 _,fun wp c5=>cC _ _ ⟨bf c5,dy.upd,wp,c5,db,rfl⟩⟩
 rintro kj b5 ⟨s4,df,wp,c5,gx,rfl⟩;have wpOwn:¬ Own (ds.map (·.name)) r o wp:=fun z=>by
  obtain ⟨u,fo,_⟩:=F'.has z;rw [c5] at fo;cases fo
 have Gu:aN bU b5:=Rw.trans s4;have qZ:=F'.same s4;obtain ⟨vu,afm⟩:=qZ.at_;subst aV;exists (fun ax I=>hA (fun b=>Own (ds.map (·.name)) r o b\/b=wp) b5 I/\aI I/\(∃ v2 ws qs,e4 t (ds.map (·.name)) I r o p' v2/\lU (ds.map (·.name)) v2 (bH.map (·.1))/\v2.cc=v.cc/\v2.st=m1 (stC v.st bH) ws/\u0 I wp qs ws/\(∀ y ∈ ws,y.1 ∈ ds.map (·.name))/\ws.length <= 2000)/\∃ y,ax=[~~~r,~~~ca,y,~~~i5,~~~wp]),3
 .nofun;refine ⟨_,yh T afm,_,rfl,_,_,Gu _ _ bZ,iR _ _ _ (by ac_nf),o.c,n,ds,rfl,C.same Gu,fun da hc=>⟨_,rfl,⟨_,aF.of db⟩,?_⟩⟩;have pA:=bf (o:=.lst (aX (ds.map (·.name)))) hc;have mT:upd b5 da (.lst (aX (ds.map (·.name)))) da=some (.lst (aX (ds.map (·.name)))):=db;have FE:aI (upd b5 da (.lst (aX (ds.map (·.name))))):=df.upd;have Xk:¬ Own (ds.map (·.name)) r o da:=fun z=>by
   obtain ⟨u,fo,_⟩:=qZ.has z;rw [hc] at fo;cases fo
  have hM:da ≠ wp:=fun z=>by rw [z,gx] at hc;cases hc
  have aea:i5 ≠ wp:=fun z=>by rw [z,c5] at yG;cases yG
  generalize upd b5 da (.lst (aX (ds.map (·.name))))=cP at *;refine dY.list (xs:=aX (ds.map (·.name))) (fun i σ I=>hA (fun b=>Own (ds.map (·.name)) r o b\/b=wp) cP I/\aI I/\(∃ v2 ws qs,e4 t (ds.map (·.name)) I r o p' v2/\lU (ds.map (·.name)) v2 (bH.map (·.1))/\v2.cc=v.cc/\v2.st=m1 (stC v.st bH) ws/\u0 I wp qs ws/\(∀ y ∈ ws,y.1 ∈ ds.map (·.name))/\ws.length <= 101 * i)/\∃ y,σ=[~~~r,~~~ca,y,~~~i5,~~~wp]) ?_ ?_ ?_ ?_
  .exact ⟨fun _ _ _ e=>e,FE,⟨v1,[],[],qZ.same pA,agf,xJ,Vu,⟨pA _ _ gx,rfl,fun i q y h=>(by simp at h)⟩,(fun y h=>by cases h),e5 _⟩,_,rfl⟩
  .rintro i σ I ah ⟨kb,_⟩;exact aF.of (kb _ _ (fun z=>by
    rcases z with z | z
    .exact Xk z
    .exact hM z) mT)
  .rintro i QH σ I wy bb;ac_rfl
   obtain ⟨kb,e6,⟨v2,ws,qs,gM,kK,vf,t4,lB,vl,AB⟩,y,rfl⟩:=bb;subst aV;unfold aX at wy;obtain ⟨x,ag,rfl⟩:=cm wy;have lz:=cQ ag;have g4:i < 12:=by have:=(cb.mp ag).1;rw [aO] at this;omega
   obtain ⟨j,d,hd,rfl⟩:=ow lz;have aeL:I i5=some (.a5 (hF ds (gR n ds rows aj))):=kb _ _ (fun z=>by
    rcases z with z | z
    .exact ajH z
    .exact aea z) (pA _ _ (s4 _ _ yG))
   have M7:=fm.k (k:=bD d.name) aeL;rw [Vr (f:=gR n ds rows aj) ff hd] at M7;have aao:aN bU I:=fun b u bz=>kb _ _ (fun z=>by
    rcases z with z | z
    .rw [Ar b z] at bz;cases bz
    .have:=Rw _ _ bz;rw [z,c5] at this;cases this) (pA _ _ (Gu _ _ bz))
   simp only [gj,jD,jn];refine eg (ko rows aj d.name) (fun kL a9=>?_) (fun aa=>?_) (fun aa=>?_)
   .nofun;refine ⟨_,M7,rfl,?_⟩;rw [Sq];exact a9
   .have amy:0 <= v2.st d.name:=by rw [<- kK.sum d.name lz];exact Ia (kK.pos d.name lz)
    have bj:0 <= jy d (v2.st d.name)/\jy d (v2.st d.name) <= v2.st d.name:=by
     unfold jy;split
     .omega
     .split <;> omega
    have uM:=(kK.len d.name lz).1;obtain ⟨t1,_,_,_,ao2,_⟩:=CZ (v2.lo d.name) (jy d (v2.st d.name)) (kK.pos d.name lz) bj.1 (by rw [kK.sum d.name lz];exact bj.2);obtain ⟨Ed,nv⟩:=gM.at_;nofun;refine ⟨mx ⟨_,aF.of lB.1⟩,_,_,nv,qQ _ _ _ _ _ (by ac_nf),n,ds,r,o,p',v2,j,d,rfl,gM,C.same aao,hd,fq,by omega,kK.pos d.name lz,kK.sum d.name lz,e6,fun p m' fS Jp fN aq jd ab6=>?_⟩;have sb:∀ b,(b=o.b0\/b=o.bA d.name)->Own (ds.map (·.name)) r o b:=fun b z=>by
     rcases z with z | z
     .exact .inr (.inr (.inr (.inr (.inl z))))
     .exact .inr (.inr (.inr (.inr (.inr (.inr ⟨d.name,lz,z⟩)))))
    have oo:=Jp _ _ (fun z=>wpOwn (sb _ z)) lB.1;have ai_:u0 fS wp qs ws:=⟨oo,lB.2.1,fun i q y aD aY=>by
     have:=lB.2.2 i q y aD aY;exact Jp _ _ (fun z=>gM.off this (fun _ _ _ z=>by cases z) (fun _ z=>by cases z) (fun _ z=>by cases z) (sb _ z)) this⟩
    refine ⟨p,rfl,_,oo,_,jd.1,?_,fun b u aa bz=>?_,fN.upd,⟨_,ab6.keep (fun b u aa bz=>?_) (fun q xs bz=>?_),kK.go lz bj.1 bj.2,vf,_,?_,_,acP ai_ jd db (fun b xs bz=>?_),fun y aY=>?_,?_⟩,_,rfl⟩
    .rw [aO,aO,lB.2.1,jd.2.1];exact c7 (show _ <= 5000 by omega) (by decide)
    .rw [aA (fun z=>aa (.inr z))];exact Jp _ _ (fun z=>aa (.inl (sb _ z))) (kb _ _ aa bz)
    .rw [aA (fun z=>wpOwn (by rw [<- z];exact aa))];exact bz
    .rw [aA (br bz oo (by intro z;cases z))];exact bz
    .rw [Nc,<- t4,S6,t1];rfl
    .rw [aA (br bz oo (by intro z;cases z))];exact bz
    .rcases gU.mp aY with z | z
     .exact vl y z
     .obtain ⟨ap9,_,rfl⟩:=cw.mp z;exact lz
    .rw [dS,aO];omega
   .nofun;exact ⟨kb,e6,⟨v2,gM,kK,vf,ws,t4,qs,lB,vl,by omega⟩,_,rfl⟩
  .rintro σ I bb;ac_rfl
   obtain ⟨kb,e6,⟨v2,ws,qs,gM,kK,vf,t4,lB,vl,AB⟩,y,rfl⟩:=bb;subst aV;rw [fz,aO] at AB;exact cC _ _ ⟨fun b u aa bz=>kb _ _ aa (pA _ _ bz),e6,⟨v2,ws,qs,gM,kK,vf,t4,lB,vl,by omega⟩,y,rfl⟩
 rintro n4 cP ⟨kb,e6,⟨v2,ws,qs,gM,kK,vf,t4,lB,vl,AB⟩,jN,rfl⟩;obtain ⟨Ed,nv⟩:=gM.at_;obtain ⟨_,B_,hJ,hv,l3⟩:=id gM.bJ;have fin:∀ {b:Addr} {u:dU},¬ Own (ds.map (·.name)) r o b->bk b=some u->upd cP r (.ins t.fg Ed (kV o.c o.k (v2.cc + 1) o.b0 o.ld)) b=some u:=fun {b u} aa bz=>by
  rw [aA (fun z=>aa (.inl z))];exact kb _ _ (fun z=>by
   rcases z with z | z
   .exact aa z
   .rw [z,c5] at bz;cases bz) (s4 _ _ bz)
 subst aV;nofun;refine ⟨_,_,_,nv,T.jl,T.Gb,_,ac pW 2 (sU ..) (by ac_nf) rfl,_,rfl,_,_,nv,(show (5:Nat) < 1000 by decide),?_⟩;rw [afe];have wr:wp ≠ r:=fun z=>wpOwn (.inl z)
 refine q wp qs ws p' { v2 with cc:=v2.cc + 1 } _ qf (fun b u aa bz=>fin (fun z=>aa (.inl z)) (Vc _ _ aa (qR _ _ (fun z=>aa (.inl z)) bz))) e6.upd ?_ ⟨by rw [aA wr];exact lB.1,lB.2.1,fun i q y aD aY=>?_⟩ vl AB (by rw [vf]) t4 ⟨kK.pos,kK.sum,fun x ag=>(kK.len x ag).1⟩ ⟨⟨Ed,db⟩,⟨(gM.bJ).1,B_,?_,?_,?_⟩,?_,?_,fun x ag=>?_,gM.b9,gM.ck,gM.dy,gM.df,gM.e6,gM.fN,gM.inj⟩
 .obtain ⟨ps,e,cF⟩:=anu;refine ⟨ps,fin Wz e,?_⟩;rcases cF with cF | ⟨c',cF,bM⟩
  .exact .inl cF
  .exact .inr ⟨c',cF,fin (F'.off bM (fun _ _ _ z=>by cases z) (fun _ z=>by cases z) (fun _ z=>by cases z)) bM⟩
 .have:=lB.2.2 i q y aD aY;rw [aA (br this nv (by intro z;cases z))];exact this
 .rw [aA (cX gM.fN)];exact hJ
 .rw [aA (br hv nv (by intro z;cases z))];exact hv
 .rw [aA (br l3 nv (by intro z;cases z))];exact l3
 .rw [aA (br gM.b0 nv (by intro z;cases z))];exact gM.b0
 .rw [aA (br gM.ld nv (by intro z;cases z))];exact gM.ld
 .obtain ⟨yn,L⟩:=gM.ra x ag;exact ⟨yn,L.keep (fun u fo=>by rw [aA (br L.1 nv (by intro z;cases z))];exact fo) (fun q xs eq=>by rw [aA (br eq nv (by intro z;cases z))];exact eq)⟩
theorem ail (h0:0 <= i) (af:i < 4):∃ r:Int,(2 <= r/\r <= 20)/\hq [V.int 2,V.int 4,V.int 9,V.int 20] i=some (.int r):=by
 have:i=0\/i=1\/i=2\/i=3:=by omega
 rcases this with rfl | rfl | rfl | rfl
 .exact ⟨2,by decide,cy (j:=0) rfl⟩
 .exact ⟨4,by decide,cy (j:=1) rfl⟩
 .exact ⟨9,by decide,cy (j:=2) rfl⟩
 .exact ⟨20,by decide,cy (j:=3) rfl⟩
theorem acO (h0:0 <= i) (af:i < 4):∃ r:Int,(5 <= r/\r <= 6)/\hq [V.int 5,V.int 5,V.int 5,V.int 6] i=some (.int r):=by
 have:i=0\/i=1\/i=2\/i=3:=by omega
 rcases this with rfl | rfl | rfl | rfl
 .exact ⟨5,by decide,cy (j:=0) rfl⟩
 .exact ⟨5,by decide,cy (j:=1) rfl⟩
 .exact ⟨5,by decide,cy (j:=2) rfl⟩
 .exact ⟨6,by decide,cy (j:=3) rfl⟩
theorem ahj (h0:0 <= i) (af:i < 6) (aW:0 <= z):∃ r:Int,0 <= r/\hq [V.int 0,V.int 1,V.int 1,V.int 2,V.int 3,V.int z] i=some (.int r):=by
 have:i=0\/i=1\/i=2\/i=3\/i=4\/i=5:=by omega
 rcases this with rfl | rfl | rfl | rfl | rfl | rfl
 .exact ⟨0,by decide,cy (j:=0) rfl⟩
 .exact ⟨1,by decide,cy (j:=1) rfl⟩
 .exact ⟨1,by decide,cy (j:=2) rfl⟩
 .exact ⟨2,by decide,cy (j:=3) rfl⟩
 .exact ⟨3,by decide,cy (j:=4) rfl⟩
 .exact ⟨z,aW,cy (j:=5) rfl⟩
theorem Zw {x:Str} (h:x ∉ bH.map (·.1)):ci (eK bH) (bD x) (.int m)=eK (bH ++ [(x,m)]):=by
 have ob:((eK bH).any fun c_=>decide (c_.1=bD x))=false:=by
  rw [Kt];intro p aq z;obtain ⟨b,aa,rfl⟩:=cw.mp aq;exact h (cw.mpr ⟨b,aa,qx (of_decide_eq_true z)⟩)
 unfold ci;rw [if_neg (by rw [ob];exact fY)];unfold eK;rw [fx];rfl
def Uc (K:ba) (a:Addr) (ns:List Int):bX:=fun vs H Q _=>∃ (turn:Nat) (wl:Addr) (ds:List bl),vs=[.ref a,.int turn,.ref wl]/\Sc K a ns H/\turn <= 100/\i3 H wl ds/\(ds.map (·.name)).Nodup/\1 <= ds.length/\ds.length <= 12 /\
 ∀ p bH I,aN H I->aI I->H p=none->I p=some (.a5 (eK bH))->(bH.map (·.1)).Nodup->(∀ q ∈ bH,q.1 ∈ ds.map (·.name)/\0 <= q.2)->Q (.ref p) I
theorem aif (a:Addr) (ns:List Int) (hZ:ns.length <= 63):cv P base T 2 t.Ck t.Ea Dr (Uc K a ns):=by
 refine cB (Md T a ns hZ) fun ft=>?_;exists T.Fk.ok uR,9
 obtain ⟨turn,wl,ds,rfl,S,CF,aab,ff,w0,fq,q⟩:=h;obtain ⟨qs,uE,G8,HF⟩:=aab;have bt:=gT ao;refine ⟨_,(aP (cg (i:=3) uR.aH (cE ed (gC (ai aM (ai aM (ai aM (ai aM aE))))) (cH ft ao T.f6 T.fE.bJ T.f7 (ai (U 0) (ai aM (ai aM aE))))))
   (aP (cg (i:=4) uR.aH q7)
   (aP (fp fj rfl (pe rfl T.o' (ai (gi i9 rfl T.iI iT (ai (U 2) aE)) aE)) (cu (i:=5) uR.aH) (aP (cg (i:=6) uR.aH (cE re (cE ed (U 2) (bP i' (bP ez (U 5) (U 1)) (gi i9 rfl T.iI iT (ai (U 2) aE)))) aM))
   (a6 (en (du fA (cH ft ao T.f6 T.fE.bJ T.f7 (ai (U 0) (ai (bP ez (bP ez aM (bP jG aM (U 1))) (U 5)) (ai (U 3) aE)))) aM (cR _)) (aP (cg (i:=7) uR.aH (cE ed (gC (ai aM (ai aM (ai aM (ai aM aE))))) (cH ft ao T.f6 T.fE.bJ T.f7 (ai (U 0) (ai aM (ai aM aE))))))
   (a6 (mf bt (U 4) (U 6) (cE ed (gC (ai aM (ai aM (ai aM (ai aM (ai aM (ai (bP Ze aM aM) aE))))))) (cH ft ao T.f6 T.fE.bJ T.f7 (ai (U 0) (ai (bP ez (bP ez aM (bP jG aM (U 1))) (U 5)) (ai (U 7) aE))))) rfl))) fe))))
   (a6 (cz (U 4)))))),?_⟩
 exists (fun ax I=>aN H I/\Sc K a ns I/\∃ pk:Int,(2 <= pk/\pk <= 20)/\ax=[~~~a,some (.int turn),~~~wl,some (.int pk),none,none,none,none]),3
 ·(nofun; repeat (dsimp only [jc];nofun));refine ⟨by decide,fun p aq=>⟨S.new aq,by decide,by decide,by decide,?_⟩⟩;obtain ⟨r,wO,u9⟩:=ail (be ns 4 (m:=4) (by decide)) (hK ns 4 (m:=4) (by decide));exact ⟨_,aF.of db,_,u9,cC _ _ ⟨bf aq,S.new aq,r,wO,rfl⟩⟩
 rintro gf H1 ⟨s1,n3,pk,nu,rfl⟩;subst aV;exists (fun ax I=>aN H I/\Sc K a ns I/\∃ p,H p=none/\I p=some (.a5 [])/\ax=[~~~a,some (.int turn),~~~wl,some (.int pk),~~~p,none,none,none]),3
 .nofun;exact fun p aq=>cC _ _ ⟨s1.trans (bf aq),n3.new aq,p,s1.free aq,db,rfl⟩
 rintro cn av ⟨s2,qu,p,aq,d3,rfl⟩;subst aV;simp only [dT];have nq:(qs.map V.ref).length=ds.length:=by rw [aO,G8]
 exists (fun ax I=>aN H I/\Sc K a ns I/\∃ bH,I p=some (.a5 (eK bH))/\(bH.map (·.1)).Nodup/\(∀ q ∈ bH,q.1 ∈ ds.map (·.name)/\0 <= q.2)/\∃ jN mQ lD,ax=[~~~a,some (.int turn),~~~wl,some (.int pk),~~~p,jN,mQ,lD]),0
 .have eh:=s2 _ _ uE;nofun;refine ⟨_,.inl (aF.of eh),by omega,by omega,?_⟩;rw [nq,rq];refine dY.range (fun i σ I=>aN H I/\Sc K a ns I/\∃ bH,I p=some (.a5 (eK bH))/\(bH.map (·.1)).Nodup/\bH.length <= i/\(∀ q ∈ bH,0 <= q.2/\∃ j,j < i/\∃ d,ds[(j + turn) % ds.length]? = some d/\d.name=q.1)/\∃ jN mQ lD,σ=[~~~a,some (.int turn),~~~wl,some (.int pk),~~~p,jN,mQ,lD]) ⟨s2,qu,[],d3,IH,e5 _,(fun q h=>by cases h),_,_,_,rfl⟩ ?_ ?_
  .rintro i σ I ah bb;ac_rfl
   obtain ⟨aj,vj,bH,iv,kY,XA,iq,jN,mQ,lD,rfl⟩:=bb;have ah:i < ds.length:=ah;have hm:(i + turn) % ds.length < ds.length:=Nat.mod_lt _ (by omega);have hd:=bo hm;have aD:=bo (show (i + turn) % ds.length < qs.length by omega);have abq:=aj _ _ (HF _ _ _ aD hd);have eH:=aj _ _ uE;have vW:ds[(i + turn) % ds.length].name ∉ bH.map (·.1):=fun z=>by
    obtain ⟨dV,ma,bM⟩:=cw.mp z;obtain ⟨_,j,aL,d,yI,hX⟩:=iq dV ma;obtain ⟨dP,d3⟩:=cb.mp yI;have:=(tP (xs:=ds.map (·.name)) (i:=(j + turn) % ds.length) (j:=(i + turn) % ds.length) (h₀:=by rw [aO];exact dP) (h₁:=by rw [aO];exact hm) ff).mp (by rw [pP,pP,d3,hX,bM]);have hs:j < ds.length:=by omega
    have aw:=afx (j + turn) ds.length;have aG:=afx (i + turn) ds.length;rw [this] at aw;generalize (j + turn) / ds.length=sl at aw;generalize (i + turn) / ds.length=Hn at aG;rcases ahs sl Hn with c | c | c
    .have:ds.length * (sl + 1) <= ds.length * Hn:=Yb _ c;rw [YW] at this;omega
    .subst c;omega
    .have:ds.length * (Hn + 1) <= ds.length * sl:=Yb _ c;rw [YW] at this;omega
   subst aV;simp only [gj,dT,jD,jn,rJ];exists (fun ax H1=>H1=I/\ax=[~~~a,some (.int turn),~~~wl,some (.int pk),~~~p,some (.int i),some (.str ds[(i + turn) % ds.length].name),lD]),2
   .nofun;refine ⟨_,.inl (aF.of eH),by rw [nq];omega,_,aF.of eH,_,?_,_,rfl,_,de.of abq,_,cy (j:=1) rfl,cM _ _ ⟨rfl,rfl⟩⟩;rw [nq,show ((i:Int) + (turn:Int)) % (ds.length:Int)=(((i + turn) % ds.length:Nat):Int) from rfl];exact cy (by rw [dO,aD];rfl)
   rintro fT bk ⟨rfl,rfl⟩;subst aV;dsimp only;refine eg (decide (dF ns (400 + 17 * turn + (i:Int)) pk=0)) (fun kL a9=>?_) (fun aa=>?_) (fun aa=>?_)
   ·(nofun; repeat (dsimp only [jc];nofun));exact ⟨.inr ⟨by omega,by omega⟩,vj,by omega,by omega,by omega,a9⟩
   .simp only [dT];exists (fun ax H1=>aN H H1/\Sc K a ns H1/\H1 p=some (.a5 (eK bH))/\∃ mo:Int,(5 <= mo/\mo <= 6)/\ax=[~~~a,some (.int turn),~~~wl,some (.int pk),~~~p,some (.int i),some (.str ds[(i + turn) % ds.length].name),some (.int mo)]),2
    ·(nofun; repeat (dsimp only [jc];nofun));refine ⟨by decide,fun dP ll=>⟨vj.new ll,by decide,by decide,by decide,?_⟩⟩;obtain ⟨r,wO,u9⟩:=acO (be ns 6 (m:=4) (by decide)) (hK ns 6 (m:=4) (by decide));exact ⟨_,aF.of db,_,u9,cM _ _ ⟨aj.trans (bf ll),vj.new ll,(bf ll) _ _ iv,r,wO,rfl⟩⟩
    rintro kj b5 ⟨s4,jQ,Vo,mo,rD,rfl⟩;subst aV;(nofun; repeat (dsimp only [jc];nofun));refine ⟨?_,by decide,fun dP ll=>⟨.inr ⟨by omega,by omega⟩,jQ.new ll,by omega,by omega,by omega,?_⟩⟩
    .exact ⟨by decide,by decide,by decide⟩
    have g1:=be ns (900 + 11 * (turn:Int) + (i:Int)) (m:=mo) (by omega);have g2:=hK ns (900 + 11 * (turn:Int) + (i:Int)) (m:=mo) (by omega);obtain ⟨r,xM,wO⟩:=ahj (z:=10 ^ Int.toNat 9) g1 (by omega) (by decide);refine ⟨_,aF.of db,_,wO,_,hC.k (k:=bD ds[(i + turn) % ds.length].name) (bf ll _ _ Vo) (by unfold eK;rw [aO];exact f5 (show bH.length <= 12 by omega) (by decide)),(s4.trans (bf ll)).gW aq,(jQ.new ll).set (bf ll _ _ Vo) (by intro _ _ z;cases z),bH ++ [(ds[(i + turn) % ds.length].name,r)],by rw [db,Zw vW],?_,by rw [dS,tb];omega,fun q aD=>?_,_,rfl⟩
    .rw [fx,Af];refine ⟨kY,by simp,fun x ag y aY e=>?_⟩;have aY:y=ds[(i + turn) % ds.length].name:=by simpa using aY
     exact vW (aY ▸ e ▸ ag)
    .rcases gU.mp aD with z | z
     .obtain ⟨h0,j,aL,ju⟩:=iq q z;exact ⟨h0,j,by omega,ju⟩
     .rw [fG.mp z];exact ⟨xM,i,by omega,_,hd,rfl⟩
   .nofun;exact ⟨aj,vj,bH,iv,kY,by omega,fun q aD=>⟨(iq q aD).1,by obtain ⟨j,aL,r⟩:=(iq q aD).2;exact ⟨j,by omega,r⟩⟩,_,rfl⟩
  .rintro σ I bb;ac_rfl
   obtain ⟨aj,vj,bH,iv,kY,XA,iq,jN,mQ,lD,rfl⟩:=bb;subst aV;refine cC _ _ ⟨aj,vj,bH,iv,kY,fun q aD=>?_,_,_,_,rfl⟩;obtain ⟨h0,j,_,d,hd,hX⟩:=iq q aD;exact ⟨hX ▸ cw.mpr ⟨d,cQ hd,rfl⟩,h0⟩
 rintro fT bk ⟨s3,Fp,bH,o1,kY,iq,jN,mQ,lD,rfl⟩;subst aV;nofun;exact q p bH bk s3 Fp.2 aq o1 kY iq
section
open PySem.Spec PyProof.Rows
theorem afI (ay:X.calm=true):ki X (.builtin "sum") (fun xs H Q=>∃ l bW,xs=[.ref l]/\aF X.K H l (oJ V.int bW)/\(∀ k ∈ bW,0 <= k/\k <= 1000000000)/\bW.length <= 1000/\Q (.int bW.sum) H):=by
 intro ae s σ H xs us Q J r h;obtain ⟨l,bW,rfl,aD,aC,aK,q⟩:=h;obtain ⟨u,rfl,eG⟩:=kp r;cases eG;obtain ⟨a4,cL,pl,aW⟩:=J.list aD;obtain ⟨xs,aw,aG⟩:=QL cL;have g4:a4.toArray=intItems xs.toArray:=by rw [aw];unfold intItems;simp
 have l2:s.heap.IsList l (intItems xs.toArray):=by rw [<- g4];exact pl.isList
 have lJ:xs.length=bW.length:=by rw [<- aG,aO]
 have a3:∀ i,i < bW.length->bW[i]? = some (numAt xs.toArray i):=fun i ah=>by
  rw [numAt_eq,j_];show bW[i]? = some (((xs.map (·.1))[i]?).getD 0);rw [aG,bo ah];rfl
 have pK:∀ n,n <= bW.length->preSum (numAt xs.toArray) n=(bW.take n).sum/\0 <= (bW.take n).sum/\(bW.take n).sum <= 1000000000 * (n:Int):=fun n=>by
  induction n with
  | zero=>intro _;exact ⟨by simp [preSum],by simp,by simp⟩
  | succ n b7=>
   intro QJ;obtain ⟨i1,i2,ap8⟩:=b7 (by omega);have e:=a3 n (by omega);have aJ:=aC _ (cQ e);have a0:(bW.take (n + 1)).sum=(bW.take n).sum + numAt xs.toArray n:=by
    rw [pw,e,List.sum_append];simp
   refine ⟨?_,by omega,by omega⟩;show preSum (numAt xs.toArray) n + numAt xs.toArray n=_;rw [i1,a0]
 have hsz:xs.toArray.size=bW.length:=by rw [d8,lJ]
 refine sum_intList (J.ok.hd ay) l2 (fun j aL=>?_) fun h' tk t' k=>⟨.int bW.sum,H,J.kept k,⟨t',?_⟩,q⟩
 .rw [hsz] at aL;have e:=a3 j aL;have aJ:=aC _ (cQ e);obtain ⟨dP,d3,o1⟩:=pK (j + 1) (by omega);unfold InLong;rw [dP];omega
 .rw [hsz,(pK _ (bR _)).1,hB]
end
def sQ (rows:List ST) (s:fK):Prop:=(-1 <= s.pt/\s.pt < rows.length)/\(-1 <= s.po/\s.po < rows.length)
theorem TN {rows:List ST} (h:sQ rows s):sQ rows (oO n ds rows s m):=by
 unfold oO;split
 .exact h
 .exact h
theorem aer {rows:List ST} (h:sQ rows s) (aB:qi n ds rows s own aj):sQ rows aj:=by
 rcases aB with ⟨_,r,ao,rfl⟩ | ⟨i,r,_,ao,gd,rfl⟩ | ⟨i,r,g,wh,_,ao,gd,P,bj,rfl⟩
 .exact TN (s:={ s with dr:=s.dr + 1 }) h
 .exact h
 .have xf:=(cb.mp bj).1;refine TN ?_;unfold zx;refine ⟨?_,?_⟩
  .show -1 <= (if dQ ds wh=eb then (g:Int) else s.pt)/\(if dQ ds wh=eb then (g:Int) else s.pt) < rows.length;split
   .omega
   .exact h.1
  .show -1 <= (if dQ ds wh=eb then s.po else (g:Int))/\(if dQ ds wh=eb then s.po else (g:Int)) < rows.length;split
   .exact h.2
   .omega
theorem aff {rows:List ST} (R:qh ds rows) (k:jr ds rows s) (L:sQ rows s) (aZ:qi n ds rows s own a) (aa:qi n ds rows s own b):a=b:=by
 have cZ:=k.told R;have no:∀ {i:Nat},s.c2=none->s.c2=some i->False:=fun {i} aw aG=>by rw [aw] at aG;cases aG
 rcases aZ with ⟨h0,r,ao,rfl⟩ | ⟨i,r,aB,ao,gd,rfl⟩ | ⟨i,r,g,wh,aB,ao,gd,P,bj,rfl⟩ <;> rcases aa with ⟨QI,dM,d4,rfl⟩ | ⟨iW,dM,jw,d4,pX,rfl⟩ | ⟨iW,dM,g',aoU,jw,d4,pX,IT,RY,rfl⟩
 .rw [ao] at d4;cases d4;rfl
 .exact (no h0 jw).elim
 .exact (no h0 jw).elim
 .exact (no QI aB).elim
 .rfl
 .rw [aB] at jw;cases jw;rw [ao] at d4;cases d4;rw [gd] at pX;cases pX
 .exact (no QI aB).elim
 .rw [aB] at jw;cases jw;rw [ao] at d4;cases d4;rw [gd] at pX;cases pX
 .rw [aB] at jw;cases jw;have e:=Int.le_antisymm (P.2 g' IT.1) (IT.2 g P.1);have aK:-1 <= p6 ds rows s (i4 ds rows s i)/\p6 ds rows s (i4 ds rows s i) < rows.length:=by
   unfold p6;split
   .exact L.1
   .exact L.2
  have Jb:g=g':=aes aK.1 aK.2 (Ct cZ g P.1) (Ct cZ g' IT.1) e;subst Jb;rw [bj] at RY;cases RY;rfl
theorem eq_str {K:ba} {H:au} {k:Nat} (x:Str):h1 K H k (.str x) (.str x) true:=by
 have:=h1.flat (K:=K) (H:=H) (k:=k) (x:=.str x) (y:=.str x) rfl rfl;rwa [show kv (.str x) (.str x)=true by simp [kv]] at this
theorem yW {H I:au} {l:Addr} {as:List Addr} {kvs:List (Key × V)} (h:Iq H I l as kvs) (bG:aI H):aI I:=fun b o e=>by
 rcases h.only b o e with z | rfl | ⟨q,_,rfl⟩
 .exact bG b o z
 .rfl
 .rfl
def ip (H:au) (l:Addr) (ds:List bl) (f:bl->Str):Prop:=∃ as:List Addr,H l=some (.lst (as.map V.ref))/\as.length=ds.length/\∀ (m:Nat) (a:Addr) (d:bl),as[m]? = some a->ds[m]? = some d->H a=some (.tup [.str d.name,.str (f d)])
theorem ip.of (h:Iq H I l as (hF ds f)):ip I l ds f:=
 ⟨as,h.at_,by rw [h.len];unfold hF;rw [aO],fun m a d aZ hd=>h.al m a (bD d.name,.str (f d)) aZ (by unfold hF;rw [dO,hd];rfl)⟩
theorem ip.keep (h:ip H l ds f) (af:∀ u,H l=some u->I l=some u) (ak:∀ q xs,H q=some (.tup xs)->I q=some (.tup xs)):ip I l ds f:=by
 obtain ⟨as,a1,a2,fM⟩:=h;exact ⟨as,af _ a1,a2,fun m a d aZ hd=>ak _ _ (fM m a d aZ hd)⟩
theorem ip.eq {K:ba} {l cW:Addr} (h:ip H l ds f) (g:ip H cW ds f):h1 K H 8 (.ref l) (.ref cW) true:=by
 obtain ⟨as,aw,af,a1⟩:=h;obtain ⟨qs,aG,ak,a2⟩:=g;have:=h1.lst (k:=7) (e:=fun _=>true) (aF.of (K:=K) aw) (aF.of aG) (by rw [aO,aO,af,ak]) (fun j x y ag aY=>by
  obtain ⟨a,aZ,rfl⟩:=cm ag;obtain ⟨q,aD,rfl⟩:=cm aY;have aL:j < ds.length:=by rw [<- af];exact (cb.mp aZ).1
  have hd:ds[j]? = some ds[j]:=bo aL;have:=h1.tup (k:=6) (e:=fun _=>true) (de.of (K:=K) (a1 j a _ aZ hd)) (de.of (a2 j q _ aD hd)) (fun j x y af ak=>by
   match j,af,ak with
   | 0,af,ak=>cases af;cases ak;exact eq_str _
   | 1,af,ak=>cases af;cases ak;exact eq_str _
   | j + 2,af,_=>simp at af)
  exact this)
 rwa [show ((fW (as.map V.ref).length).all fun _=>true)=true from pE.mpr fun _ _=>rfl] at this
theorem adT (l:List Str):(l.map fun _=>(0:Int)).sum=0:=by
 induction l with
 | nil=>rfl
 | cons x l b7=>rw [eu,G3,b7];rfl
structure yX (P:Program) (w:World) (t:bQ) (n:Int) (ds:List bl) (rows:List ST) (ew:au) (el Pt bC:Addr) (eU:wM) (c0:Addr) (f_:wM) (k az aQ bp sp:Addr) (s0 s:fK) (v:oS) (H:au):Prop where
 bG:aI H
 bg:aN (ig ew) H
 bT:j5 Pt H
 jV:e4 t (ds.map (·.name)) H bC eU s v
 rr:e4 t (ds.map (·.name)) H c0 f_ s0 ⟨0,fun _=>0,fun _=>[]⟩
 bJ:eD t H k el az aQ s
 it:ip H bp ds (gR n ds rows s0)
 sp:H sp=some (.a5 (dE (ds.map (·.name)) fun x=>.int (v.st x)))
 Df:xy (ds.map (·.name)) v.cc v
 t0:0 <= v.cc
 vH:jr ds rows s
 Gl:sQ rows s
theorem yX.same {w:World} {t:bQ} {rows:List ST} {k az aQ bp sp:Addr} (h:yX P w t n ds rows ew el Pt bC eU c0 f_ k az aQ bp sp s0 s v H) (e:aN H I) (bG:aI I):yX P w t n ds rows ew el Pt bC eU c0 f_ k az aQ bp sp s0 s v I:=
 ⟨bG,h.bg.trans e,h.bT.step e,h.jV.same e,h.rr.same e,h.bJ.same e,h.it.keep (fun u x=>e _ _ x) (fun q xs x=>e _ _ x),e _ _ h.sp,h.Df,h.t0,h.vH,h.Gl⟩
def NM (K:ba) (Pt:Addr):bX:=fun vs H Q _=>∃ a ns,vs=[.ref a]/\Sc K a ns H/\ns.length <= 63/\j5 Pt H/\∀ I,Q (.bB true) I
theorem aae {Pt:Addr} (cV:pL base t.q8 Pt) (iD:base.BuiltinsAt mg Pt):cv P base T 12 t.JE t.FM ["_law_script"] (NM K Pt):=by
 exists T.akt.ok jH,9
 obtain ⟨a,ns,rfl,Du,hZ,aip,q⟩:=h;have bt:=gT ao;have zi:=agK ao;have agp:cJ P w K mg base dt 11 t.Di t.im CA (Va K a ns):=(afF T a ns hZ).mono (by decide);have Zj:cJ P w K mg base dt 11 t.BE t.am Aj (UD K):=(afX T).mono (by decide);have ab5:cJ P w K mg base dt 11 t.Ei t.z6 ["text"] (Sp t):=(amF T).mono (by decide);have aga:cJ P w K mg base dt 11 t.AJ t.Cr B7 (Tr K):=(ahV T).mono (by decide);have aeg:cJ P w K mg base dt 11 t.BU t.AK En Qh:=(abB T).mono (by decide);have abg:cJ P w K mg base dt 11 t.xR t.xN xO (MU P w t):=(agy T).mono (by decide);have Ms:cJ P w K mg base dt 10 t.vE t.yE pv (GP P w t):=(EQ T).mono (by decide);have KY:cJ P w K mg base dt 11 t.zf t.Eo zv (Qa P w K t Pt):=(S2 T cV iD).mono (by decide);have ZY:cJ P w K mg base dt 11 t.Ck t.Ea Dr (Uc K a ns):=(aif T a ns hZ).mono (by decide);have UH:cJ P w K mg base dt 10 t.xK t.AW pv (NH P w t):=(aa7 T).mono (by decide);have zZ:cJ P w K mg base dt 11 t.yY t.z2 ["self"] (VB P w t):=(adZ T).mono (by decide);have Yh:cJ P w K mg base dt 11 t.xB t.Bt ["self"] (NQ t):=(ajj T).mono (by decide);have akp:cJ P w K mg base dt 11 t.x1 t.BS zU (Ph P w K t Pt):=(adV T cV iD).mono (by decide);have uw:cJ P w K mg base dt 11 t.yc t.Dk ["self"] (RU P w t):=(K' T).mono (by decide);refine ⟨_,(aP (Mr (cH agp ao T.alC T.Ga.bJ T.adv (ai (U 0) (ai aM aE))) (la (K:=K) (n:=2) rfl rfl (fc (cu (i:=1) jH.aH) (fc (cu (i:=2) jH.aH) k8))))
   (aP (cg (i:=3) jH.aH (cH aga ao T.acA T.Tl.bJ T.abF (ai (U 0) (ai (U 1) (ai (U 2) aE)))))
   (aP (cg (i:=4) jH.aH (cH abg ao T.ai6 T.J2.bJ T.aiZ (ai (cH ab5 ao T.Zm T.Hy.bJ T.ac6 (ai (cH Zj ao T.afK T.F9.bJ T.amq (ai (U 1) (ai (U 2) aE))) aE)) (ai (cH aeg ao T.af8 T.KD.bJ T.ach (ai (U 2) (ai (U 3) aE))) aE))))
   (aP (cg (i:=5) jH.aH (oC T.QZ UH ao rfl T.Po T.Sf .nil cj (ai (U 4) aE)))
   (aP (cg (i:=6) jH.aH (oC T.QZ UH ao rfl T.Po T.Sf .nil cj (ai (U 4) aE)))
   (aP (cg (i:=7) jH.aH (oC T.MQ Ms ao rfl T.U9 T.UR .nil cj (ai (U 4) aE)))
   (aP (cg (i:=8) jH.aH (j' (u3 rfl) rfl T.se sE (ai (rH qC sx vR sZ (gw (U 6) T.jl T.BB zZ ao T.DR .nil cj)) aE)))
   (aP (qv (i:=9) jH.aH rfl (nX rfl) q7)
   (aP (fp fj rfl (eS (U 2)) (cu (i:=10) jH.aH) (a6 (mf bt (U 9) (cE re (U 10) aM) aM rfl)))
   (aP (fp fj rfl (pe rfl T.o' (ai aM aE)) (cu (i:=11) jH.aH) (aP (cg (i:=12) jH.aH (cH ZY ao T.amK T.Fk.bJ T.ac' (ai (U 0) (ai (U 11) (ai (U 2) aE)))))
   (aP (BD (fp fj rfl (ah4 (rH qC sx vR sZ (U 12))) (la (K:=K) (n:=2) rfl rfl (fc (cu (i:=13) jH.aH) (fc (cu (i:=14) jH.aH) k8))) (a6 (mf bt (U 9) (U 13) (bP ez (jM bt (U 9) (U 13) (fun _ _=>rfl)) (U 14)) rfl))))
   (aP (Cc (i:=15) jH.aH rfl (mx rfl) rfl (eS (U 2)) (g0 (sc:=bE H3) rfl (by ac_nf)) (N:=["_law_way","_law_stood"]) (sel:=[none,some 9]) (gO (M:=["_law_script","_law_places","_law_ways_here","_law_stages_here","_law_plan","_law_road","_law_other","_law_keeper","_law_first","_law_stood","_law_way","_law_turn","_law_comings_here","_law_name","_law_many","_law_asks","_law_one"]) (by ac_nf)) (fP.of (fun _ _ _ _=>(cu (i:=0) (eJ (N:=["_law_way","_law_stood"]) (by ac_nf) rfl))) (fun _ _ _ _=>⟨_,(sI (du ot (jM bt (U 1) (cE re (U 0) aM) (fun _ _=>rfl)) aM (cR _))),by walk_at "B"⟩) (fun _ _ _ _=>⟨_,(cE re (U 0) aM),by walk_at "B"⟩)) rfl)
   (aP (en (du (Rq zi) (j' (u3 rfl) rfl T.se sE (ai (rH qC sx vR sZ (gw (U 5) T.jl T.BB zZ ao T.DR .nil cj)) aE)) (j' (u3 rfl) rfl T.se sE (ai (rH qC sx vR sZ (gw (U 7) T.eN T.CP uw ao T.zV .nil cj)) aE)) (cR _)) (a6 (cz ox)) fe)
   (aP (fp fj rfl (eS (Gc (U 5) T.jl T.ah6 akp ao T.adk .nil cj (ai (U 12) aE))) (cu (i:=16) jH.aH) (a6 (mf bt (U 9) (cE re (U 16) aM) (bP lA (jM bt (U 9) (cE re (U 16) aM) (fun _ _=>rfl)) (cE re (U 16) aM)) rfl)))
   (a6 (eo (Gc (U 7) T.eN T.UB KY ao T.W8 .nil cj (ai (U 15) aE))))))))))
   (aP (en (iC.pt (sv (du (Rq zi) (j' (u3 rfl) rfl T.se sE (ai (rH qC sx vR sZ (gw (U 6) T.jl T.BB zZ ao T.DR .nil cj)) aE)) (U 8) (cR _)) (t9 (du sR (gi (afI rfl) rfl T.ZT aaH (ai (j' (WF rfl) rfl T.se sE (ai (rH qC afL PySem.F.type_dict_values Z2 (gw (U 6) T.jl T.amr Yh ao T.Y0 .nil cj)) aE)) aE)) aM (cR _))))) (a6 (cz ox)) fe)
   (a6 (cz (ie (ag2 zi) (j' (u3 rfl) rfl T.se sE (ai (rH qC sx vR sZ (gw (U 5) T.jl T.BB zZ ao T.DR .nil cj)) aE)) (j' (u3 rfl) rfl T.se sE (ai (rH qC sx vR sZ (gw (U 7) T.eN T.CP uw ao T.zV .nil cj)) aE)) (cR _))))))))))))))),?_⟩
 exists (fun ax I=>aN H I/\Sc K a ns I/\∃ wl n ds,i3 I wl ds/\tD n ds/\(∀ d ∈ ds,d.least <= 4)/\(4 <= n/\n <= 99)/\(1 <= ds.length/\ds.length <= 6)/\ax=[~~~a,some (.int n),~~~wl,none,none,none,none,none,none,none,none,none,none,none,none,none,none]),3
 .nofun;exact ⟨5,rfl,by decide,Du,fun jB wl n ds I s1 n3 aw L D hle a3 aK=>⟨jB,rfl,_,de.of aw,rfl,_,_,rfl,_,_,rfl,rfl,cC _ _ ⟨s1,n3,wl,n,ds,L,D,hle,a3,by omega,rfl⟩⟩⟩
 rintro gf H1 ⟨s1,n3,wl,n,ds,L,D,hle,a3,fq,rfl⟩;have YL:∀ {a7:List hI},AI n ds a7->eL n ds a7:=fun h=>⟨D.aH,h,fq.2,fq.1,fun d hd=>(D.al d hd).1⟩
 subst aV;exists (fun ax I=>aN H1 I/\Sc K a ns I/\∃ dP bO hJ cp,ou I dP bO hJ cp/\eL n ds cp/\ax=[~~~a,some (.int n),~~~wl,~~~dP,none,none,none,none,none,none,none,none,none,none,none,none,none]),3
 .nofun;exact ⟨a,ns,n,wl,ds,rfl,hZ,n3.seq,n3.bG,L,D,hle,by omega,fun dP bO hJ cp I s3 dy MA amJ=>cC _ _ ⟨s3,n3.same s3 dy,dP,bO,hJ,cp,MA,YL amJ,rfl⟩⟩
 rintro cn av ⟨s2,qu,dP,bO,hJ,cp,MA,X,rfl⟩;have L2:=L.same s2;have R:=X.ajv;have cx:0 < cp.length:=SX.mpr X.ne;have GZ:=bo cx;have lh:=R.cU _ (cw.mpr ⟨_,kT cx,rfl⟩);subst aV;exists (fun ax I=>∃ el c,aN av I/\Sc K a ns I/\gV P w t I el c n ds (dz ds cp)/\ax=[~~~a,some (.int n),~~~wl,~~~dP,~~~el,none,none,none,none,none,none,none,none,none,none,none,none]),3
 .nofun;exact ⟨n,wl,ds,rfl,L2,D,by omega,by omega,qu.bG,n,ds,rfl,D.Np (by omega) (by omega),qu.bG,fun c I s3 dy v8=>⟨wl,ds,dP,bO,hJ,cp,rfl,L2.same s3,MA.same s3,X.j3,dy,c,n,ds,cp,rfl,v8,a3,X,dy,fun el cP s5 e6 ak5=>cC _ _ ⟨el,c,s3.trans s5,qu.same (s3.trans s5) e6,ak5,rfl⟩⟩⟩
 rintro fT ew ⟨el,c,nD,Jw,dR,rfl⟩;subst aV;exists (fun ax I=>∃ bC eU,aN ew I/\aI I/\(∀ b,Own (ds.map (·.name)) bC eU b->ew b=none)/\eU.aT=el/\eU.c=c/\e4 t (ds.map (·.name)) I bC eU (lC ds (i7 ds cp[0])) ⟨0,fun _=>0,fun _=>[]⟩/\ax=[~~~a,some (.int n),~~~wl,~~~dP,~~~el,~~~bC,none,none,none,none,none,none,none,none,none,none,none]),3
 .nofun;intro r oj ao sf LJ;have bg:aN ew (upd (upd ew oj (.own r)) r (.ins t.fg oj [])):=(bf sf).trans (bf (by rw [aA (cX LJ)];exact ao));refine ⟨ew,r,oj,el,c,n,ds,_,_,rfl,db,dR,bg,ao,AA GZ,lh,Jw.bG.upd.upd,fun o I La Jx fr K9 ay e0=>⟨rfl,cC _ _ ⟨r,o,fun b u e=>La _ _ (dj e ao) (bg _ _ e),Jx,fun b aa=>?_,K9,ay,e0,rfl⟩⟩⟩;by_cases z:b=r
  .rw [z];exact ao
  .exact bg.free (fr b aa z)
 rintro kj ik ⟨bC,eU,sB,jP,Pm,JA,Im,sj,rfl⟩;subst aV;exists (fun ax I=>∃ c0 f_,aN ik I/\aI I/\(∀ b,Own (ds.map (·.name)) c0 f_ b->ik b=none)/\f_.aT=el/\f_.c=c/\e4 t (ds.map (·.name)) I c0 f_ (lC ds (i7 ds cp[0])) ⟨0,fun _=>0,fun _=>[]⟩/\ax=[~~~a,some (.int n),~~~wl,~~~dP,~~~el,~~~bC,~~~c0,none,none,none,none,none,none,none,none,none,none]),3
 .nofun;intro r oj ao sf LJ;have bg:aN ik (upd (upd ik oj (.own r)) r (.ins t.fg oj [])):=(bf sf).trans (bf (by rw [aA (cX LJ)];exact ao));refine ⟨ik,r,oj,el,c,n,ds,_,_,rfl,db,dR.same sB,bg,ao,AA GZ,lh,jP.upd.upd,fun o I La Jx fr K9 ay e0=>⟨rfl,cC _ _ ⟨r,o,fun b u e=>La _ _ (dj e ao) (bg _ _ e),Jx,fun b aa=>?_,K9,ay,e0,rfl⟩⟩⟩;by_cases z:b=r
  .rw [z];exact ao
  .exact bg.free (fr b aa z)
 rintro n4 nC ⟨c0,f_,fV,z3,abx,Ux,v9,mF,rfl⟩;subst aV;exists (fun ax I=>∃ k az aQ,nC k=none/\nC az=none/\nC aQ=none/\aN nC I/\aI I/\eD t I k el az aQ (lC ds (i7 ds cp[0]))/\ax=[~~~a,some (.int n),~~~wl,~~~dP,~~~el,~~~bC,~~~c0,~~~k,none,none,none,none,none,none,none,none,none]),3
 .nofun;intro k g_ aC p5 E7;have bg:aN nC (upd (upd nC g_ (.own k)) k (.ins t.dd g_ [])):=(bf p5).trans (bf (by rw [aA (cX E7)];exact aC));exact ⟨k,g_,el,c,n,ds,_,_,rfl,db,dR.same ((sB.trans fV).trans bg),AA GZ,lh,z3.upd.upd,fun az aQ fS dB fN m_ kU HP=>⟨rfl,cC _ _ ⟨k,az,aQ,aC,bg.free m_,bg.free kU,fun b u e=>dB _ _ (dj e aC) (bg _ _ e),fN,HP,rfl⟩⟩⟩
 rintro mS yi ⟨k,az,aQ,h4,fZ,gc,j9,Cm,f',rfl⟩;subst aV;exists (fun ax I=>∃ bp,yi bp=none/\aN yi I/\aI I/\ip I bp ds (gR n ds (dz ds cp) (lC ds (i7 ds cp[0])))/\ax=[~~~a,some (.int n),~~~wl,~~~dP,~~~el,~~~bC,~~~c0,~~~k,~~~bp,none,none,none,none,none,none,none,none]),3
 .nofun;have QD:=mF.same j9;obtain ⟨tg,aG⟩:=QD.at_;refine ⟨_,_,aG,qQ _ _ _ _ _ (by ac_nf),(ds.map (·.name)),c0,f_,_,_,n,ds,dz ds cp,rfl,QD,by rw [Ux,v9];exact dR.same ((sB.trans fV).trans j9),R.dq,(fun h=>by cases h),Cm,fun p H1 bg nm aq gb=>⟨.inr (.inr (.inl (.inl ⟨_,gb⟩))),p,rfl,_,gb,fun q aD=>⟨_,db,_,(bf aD) _ _ gb,fun l as I kf=>cC _ _ ⟨l,bg.free ((bf aD).free kf.fresh),(bg.trans (bf aD)).trans kf.same,yW kf nm.upd,ip.of kf,rfl⟩⟩⟩⟩
 rintro kg w7 ⟨bp,agY,ug,amR,UA,rfl⟩;subst aV;exists (fun ax I=>∃ sp,w7 sp=none/\aN w7 I/\aI I/\I sp=some (.a5 [])/\ax=[~~~a,some (.int n),~~~wl,~~~dP,~~~el,~~~bC,~~~c0,~~~k,~~~bp,~~~sp,none,none,none,none,none,none,none]),3
 .nofun;exact fun sp iE=>cC _ _ ⟨sp,iE,bf iE,amR.upd,db,rfl⟩
 rintro sF Gi ⟨sp,iE,lW,ahf,n2,rfl⟩;have YX:aN ew Gi:=(((sB.trans fV).trans j9).trans ug).trans lW;obtain ⟨qO,uE,G8,HF⟩:=(L2.same nD).same YX;subst aV;exists (fun ax I=>aN w7 I/\aI I/\I sp=some (.a5 (dE (ds.map (·.name)) fun _=>V.int 0))/\∃ i_,ax=[~~~a,some (.int n),~~~wl,~~~dP,~~~el,~~~bC,~~~c0,~~~k,~~~bp,~~~sp,i_,none,none,none,none,none,none]),3
 .nofun;refine ⟨⟨_,aF.of uE⟩,?_⟩;refine dY.list (xs:=qO.map V.ref) (fun i σ I=>cK sp Gi I/\aI I/\I sp=some (.a5 (dE ((ds.map (·.name)).take i) fun _=>V.int 0))/\∃ i_,σ=[~~~a,some (.int n),~~~wl,~~~dP,~~~el,~~~bC,~~~c0,~~~k,~~~bp,~~~sp,i_,none,none,none,none,none,none]) ⟨fun _ _ _ e=>e,ahf,n2,_,rfl⟩ ?_ ?_ ?_
  .rintro i σ I ah ⟨dB,_⟩;exact aF.of (dB _ _ (br uE n2 (by intro z;cases z)) uE)
  .rintro i v σ I aJ bb;ac_rfl
   obtain ⟨dB,fN,dZ,i_,rfl⟩:=bb;obtain ⟨sl,mb,rfl⟩:=cm aJ;have g4:i < ds.length:=by have:=(cb.mp mb).1;omega
   have sg:=bo g4;have ph:=HF i _ _ mb sg;have ag:(ds.map (·.name))[i]? = some ds[i].name:=by rw [dO,sg];rfl
   have ob:ds[i].name ∉ (ds.map (·.name)).take i:=fun z=>by
    obtain ⟨j,aL⟩:=iG z;have w5:j < i:=by
     have:=(cb.mp aL).1;rw [gK] at this;omega
    rw [rO w5] at aL;obtain ⟨dP,d3⟩:=cb.mp aL;obtain ⟨bO,dC⟩:=cb.mp ag;have:=(tP (h₀:=dP) (h₁:=bO) D.aH).mp (d3.trans dC.symm);omega
   subst aV;simp only [gj,jD,jn];nofun;refine ⟨_,de.of (dB _ _ (br ph n2 (by intro z;cases z)) ph),_,cy (j:=1) rfl,_,hC.k (k:=bD ds[i].name) dZ (by unfold dE;rw [aO,gK,aO];exact f5 (show _ <= 12 by omega) (by decide)),fun b u aa e=>by rw [aA aa];exact dB _ _ aa e,fN.upd,?_,_,rfl⟩;rw [db,iH ag];exact congrArg (fun x=>some (dU.a5 x)) (Mi (f:=fun _=>V.int 0) ob)
  .rintro σ I bb;ac_rfl
   obtain ⟨dB,fN,dZ,i_,rfl⟩:=bb;subst aV;rw [aO,G8,Fm (by rw [aO];exact bR _)] at dZ;exact cC _ _ ⟨fun b u e=>dB _ _ (dj e iE) (lW _ _ e),fN,dZ,i_,rfl⟩
 rintro anC Sh ⟨ub,Ys,Ye,i_,rfl⟩;have N':aN ew Sh:=(((sB.trans fV).trans j9).trans ug).trans ub;have JK:j5 Pt ew:=aip.step ((s1.trans s2).trans nD);have Zd:aN (ig ew) Sh:=(Q7 ew).trans N';have BH:ig ew Pt=none:=amf JK;have hlen:(dz ds cp).length=cp.length:=by unfold dz;rw [aO]
 have zm:=dR.qE (HG ew);have Sn:=(L2.same nD).qE (HG ew);have Z3:Sc K a ns (ig ew):=alg Jw (HG ew) (fun b u e=>Jw.2 b u (Q7 ew _ _ e));have b9:∀ {b:Addr},ik b=none->¬ Own (ds.map (·.name)) bC eU b:=fun {b} e aa=>by
  obtain ⟨u,fo,_⟩:=sj.has aa;rw [e] at fo;cases fo
 have ck:∀ {b:Addr},nC b=none->¬ Own (ds.map (·.name)) c0 f_ b:=fun {b} e aa=>by
  obtain ⟨u,fo,_⟩:=mF.has aa;rw [e] at fo;cases fo
 have alj:=j9.free agY;have tS:=ug.free iE;have Gz:=j9.free tS;have N3:¬ Own (ds.map (·.name)) bC eU k:=b9 (fV.free h4);have Rh:¬ Own (ds.map (·.name)) bC eU az:=b9 (fV.free fZ);have Ss:¬ Own (ds.map (·.name)) bC eU aQ:=b9 (fV.free gc);have acF:¬ Own (ds.map (·.name)) bC eU bp:=b9 (fV.free alj);have Gd:¬ Own (ds.map (·.name)) bC eU sp:=b9 (fV.free Gz);have ad4:∀ {b:Addr},Own (ds.map (·.name)) c0 f_ b->¬ Own (ds.map (·.name)) bC eU b:=fun {b} aa=>b9 (abx b aa)
 have aiE:¬ Own (ds.map (·.name)) c0 f_ k:=ck h4;have Yx:¬ Own (ds.map (·.name)) c0 f_ az:=ck fZ;have acB:¬ Own (ds.map (·.name)) c0 f_ aQ:=ck gc;have Qf:¬ Own (ds.map (·.name)) c0 f_ sp:=ck Gz;obtain ⟨c5,g_,YJ,ab2,Xt⟩:=id f';have Iv:sp ≠ k:=fun z=>by rw [z,YJ] at tS;cases tS
 have I':sp ≠ az:=fun z=>by rw [z,ab2] at tS;cases tS
 have K4:sp ≠ aQ:=fun z=>by rw [z,Xt] at tS;cases tS
 have rp:bp ≠ sp:=fun z=>by
  obtain ⟨as,a1,_⟩:=UA;rw [z,iE] at a1;cases a1
 have adj:¬ Own (ds.map (·.name)) bC eU Pt:=by
  obtain ⟨ps,e,_⟩:=JK;exact fun z=>by rw [Pm _ z] at e;cases e
 have Wv:∀ b,Own (ds.map (·.name)) bC eU b->ig ew b=none:=fun b aa=>w3 (Pm b aa)
 have WL:ig ew k=none:=w3 (sB.free (fV.free h4));have Nv:ig ew az=none:=w3 (sB.free (fV.free fZ));have Oh:ig ew aQ=none:=w3 (sB.free (fV.free gc));have U3:ig ew sp=none:=w3 (sB.free (fV.free Gz));have ff:(ds.map (·.name)).Nodup:=D.aH;have vv:(ds.map (·.name)).length <= 12:=by rw [aO];omega
 subst aV;simp only [dT];refine Db (fun ax I=>(∃ s v,yX P w t n ds (dz ds cp) ew el Pt bC eU c0 f_ k az aQ bp sp (lC ds (i7 ds cp[0])) s v I)/\∃ i_ yw yj mi m6 qG l5,ax=[~~~a,some (.int n),~~~wl,~~~dP,~~~el,~~~bC,~~~c0,~~~k,~~~bp,~~~sp,i_,yw,yj,mi,m6,qG,l5]) (fun gm cC nu _ _=>?_) ?_
 .nofun;refine ⟨by decide,by decide,?_⟩;refine dY.range (fun j σ I=>(∃ s v,yX P w t n ds (dz ds cp) ew el Pt bC eU c0 f_ k az aQ bp sp (lC ds (i7 ds cp[0])) s v I/\v.cc=j)/\∃ i_ yw yj mi m6 qG l5,σ=[~~~a,some (.int n),~~~wl,~~~dP,~~~el,~~~bC,~~~c0,~~~k,~~~bp,~~~sp,i_,yw,yj,mi,m6,qG,l5]) ?_ ?_ ?_
  .have yN:∀ q:Prop,∀ [Decidable q],-1 <= (if q then (0:Int) else -1)/\(if q then (0:Int) else -1) < (dz ds cp).length:=fun q _=>by rw [hlen];split <;> omega
   have af6:∀ q:Prop,∀ [Decidable q],-1 <= (if q then (-1:Int) else 0)/\(if q then (-1:Int) else 0) < (dz ds cp).length:=fun q _=>by rw [hlen];split <;> omega
   refine ⟨⟨_,⟨0,fun _=>0,fun _=>[]⟩,⟨Ys,Zd,JK.step N',sj.same (((fV.trans j9).trans ug).trans ub),mF.same ((j9.trans ug).trans ub),f'.same (ug.trans ub),UA.keep (fun u e=>ub _ _ e) (fun q xs e=>ub _ _ e),Ye,⟨(fun x ag p aq=>by cases aq),(fun x ag=>rfl),(fun x ag=>yt _)⟩,yt _,⟨IH,fun x h=>(by cases h),fun i h=>(by cases h;exact ⟨by rw [hlen];exact cx,fun x h=>(by cases h)⟩),fun h=>(by cases h)⟩,yN _,af6 _⟩,rfl⟩,_,_,_,_,_,_,_,rfl⟩
  .rintro j σ I aL bb;ac_rfl
   obtain ⟨⟨s,v,J,acG⟩,i_,yw,yj,mi,m6,qG,l5,rfl⟩:=bb;have aL:j < 60:=aL;subst aV;simp only [gj,dT,jD,jn,rJ];refine CY (fun ax H1=>aN I H1/\aI H1/\∃ ca bH,I ca=none/\H1 ca=some (.a5 (eK bH))/\(bH.map (·.1)).Nodup/\(∀ q ∈ bH,q.1 ∈ (ds.map (·.name))/\0 <= q.2)/\ax=[~~~a,some (.int n),~~~wl,~~~dP,~~~el,~~~bC,~~~c0,~~~k,~~~bp,~~~sp,i_,some (.int j),~~~ca,mi,m6,qG,l5]) (fun gm cM=>?_) ?_
   .nofun;exact ⟨j,wl,ds,rfl,Z3.same J.bg J.bG,by omega,Sn.same J.bg,ff,by omega,by omega,fun ca bH H1 bg nm je ajp kY iq=>cM _ _ ⟨bg,nm,ca,bH,je,ajp,kY,iq,rfl⟩⟩
   rintro gf k7 bb;ac_rfl
   obtain ⟨t1,PZ,ca,bH,je,vV,kY,iq,rfl⟩:=bb;have aU:=J.same t1 PZ;have vM:ca ≠ sp:=fun z=>by have:=J.sp;rw [<- z,je] at this;cases this
   subst aV;simp only [dT];refine CY (fun ax av=>(∀ b u,b ≠ sp->k7 b=some u->av b=some u)/\aI av/\av sp=some (.a5 (dE (ds.map (·.name)) fun x=>V.int (stC v.st bH x)))/\∃ mi m6,ax=[~~~a,some (.int n),~~~wl,~~~dP,~~~el,~~~bC,~~~c0,~~~k,~~~bp,~~~sp,i_,some (.int j),~~~ca,mi,m6,qG,l5]) (fun gm cM=>?_) ?_
   .nofun;refine ⟨ca,_,vV,?_⟩;simp only [R1];nofun;refine ⟨.inr (.inr (.inl (.inl ⟨_,vV⟩))),_,vV,fun q aD=>⟨_,db,_,(bf aD) _ _ vV,fun bI=>?_⟩⟩;have ee:∀ {b:Addr} {u:dU},b ≠ ca->k7 b=some u->upd (upd k7 q (.ext (k4 q ca))) ca (.dx bI (.a5 (eK bH))) b=some u:=fun {b u} aa e=>by rw [aA aa];exact (bf aD) _ _ e
    have m3:upd (upd k7 q (.ext (k4 q ca))) ca (.dx bI (.a5 (eK bH))) ca=some (.dx bI (.a5 (eK bH))):=db;have hh:aI (upd (upd k7 q (.ext (k4 q ca))) ca (.dx bI (.a5 (eK bH)))):=PZ.upd.upd;generalize upd (upd k7 q (.ext (k4 q ca))) ca (.dx bI (.a5 (eK bH)))=amj at *;have mH:(eK bH).length=bH.length:=by unfold eK;rw [aO]
    refine dY.of (n:=bH.length) (fun i σ I=>(∀ b u,b ≠ sp->amj b=some u->I b=some u)/\aI I/\I sp=some (.a5 (dE (ds.map (·.name)) fun x=>V.int (stC v.st (bH.take i) x)))/\∃ mi m6,σ=[~~~a,some (.int n),~~~wl,~~~dP,~~~el,~~~bC,~~~c0,~~~k,~~~bp,~~~sp,i_,some (.int j),~~~ca,mi,m6,qG,l5]) ⟨fun _ _ _ e=>e,hh,ee (cX vM) aU.sp,_,_,rfl⟩ (fun i σ I ah h=>⟨h.1 _ _ vM m3,by rw [mH];exact ah⟩) (fun σ I h=>⟨h.1 _ _ vM m3,by rw [mH];exact bR _⟩) ?_ ?_
    .rintro i σ I x h2 ah ⟨mU,g9,mR,mi,m6,rfl⟩ ⟨pt,jX,QH,FI,rfl,o4,rfl⟩;unfold eK at o4;obtain ⟨pp,Ce,ep⟩:=cm o4;cases ep;have mC:=cQ Ce;have LF:=bf (o:=.tup [c9 (bD pp.1),V.int pp.2]) FI;have bY:=fm.k (k:=bD pp.1) (LF _ _ mR);rw [qS (iq pp mC).1] at bY;have aqr:sp ≠ pt:=fun z=>by rw [<- z,mR] at FI;cases FI
     nofun;refine ⟨_,de.of db,rfl,_,_,rfl,_,_,rfl,rfl,_,bY,_,rfl,_,rfl,_,hC.k (k:=bD pp.1) (LF _ _ mR) (by unfold dE;rw [aO];exact f5 vv (by decide)),fun b u aa e=>?_,g9.upd.upd,?_,_,rfl⟩
     .rw [aA aa];exact LF _ _ (mU _ _ aa e)
     .rw [db,iH Ce,Rd];exact congrArg (fun x=>some (dU.a5 x)) (Au (iq pp mC).1 (fun y aY=>by unfold dn;split <;> rfl))
    .rintro σ I bb;ac_rfl
     obtain ⟨mU,g9,mR,mi,m6,rfl⟩:=bb;subst aV;rw [hB] at mR;refine ⟨bI,mU _ _ vM m3,cM _ _ ⟨fun b u aa e=>?_,g9.upd,by rw [aA (cX vM)];exact mR,_,_,rfl⟩⟩;by_cases c:b=ca
     .rw [c,db];rw [c,vV] at e;exact e
     .rw [aA c];exact mU _ _ aa (ee c e)
   rintro cn kS bb;ac_rfl
   obtain ⟨gr,aeI,zT,Hb,JL,rfl⟩:=bb;have nO:∀ {b:Addr} {u:dU},b ≠ sp->k7 b=some u->kS b=some u:=fun {b u} aa e=>gr b u aa e
   have ajI:=nO vM vV;have oI:aN (ig ew) kS:=fun b u e=>nO (dj e U3) (aU.bg _ _ e)
   have tupK:∀ {q:Addr} {xs:List V},k7 q=some (.tup xs)->kS q=some (.tup xs):=fun {q xs} e=>nO (br e aU.sp (by intro z;cases z)) e
   have xZ:e4 t (ds.map (·.name)) kS bC eU s v:=aU.jV.keep (fun b u aa e=>nO (fun z=>Gd (by rw [<- z];exact aa)) e) (fun q xs e=>tupK e);have alG:e4 t (ds.map (·.name)) kS c0 f_ (lC ds (i7 ds cp[0])) ⟨0,fun _=>0,fun _=>[]⟩:=aU.rr.keep (fun b u aa e=>nO (fun z=>Qf (by rw [<- z];exact aa)) e) (fun q xs e=>tupK e);have s':eD t kS k el az aQ s:=by
    obtain ⟨eV,es,qe,pN,qz⟩:=aU.bJ;exact ⟨eV,es,nO (cX Iv) qe,nO (cX I') pN,nO (cX K4) qz⟩
   have ajK:ip kS bp ds (gR n ds (dz ds cp) (lC ds (i7 ds cp[0]))):=aU.it.keep (fun u e=>nO rp e) (fun q xs e=>tupK e);have nk:j5 Pt kS:=by
    obtain ⟨ps,e,cF⟩:=aU.bT;refine ⟨ps,nO (br e aU.sp (by intro z;cases z)) e,?_⟩;rcases cF with cF | ⟨c',cF,bM⟩
    .exact .inl cF
    .exact .inr ⟨c',cF,nO (br bM aU.sp (by intro z;cases z)) bM⟩
   subst aV;simp only [dT];refine CY (fun ax bk=>aN kS bk/\aI bk/\∃ ap,kS ap=none/\bk ap=some (.lst (aX (nL (ds.map (·.name)) (stC v.st bH))))/\ax=[~~~a,some (.int n),~~~wl,~~~dP,~~~el,~~~bC,~~~c0,~~~k,~~~bp,~~~sp,i_,some (.int j),~~~ca,Hb,JL,~~~ap,l5]) (fun gm cM=>?_) ?_
   .obtain ⟨acH,PO,agW,Zp⟩:=Sn.same oI;nofun;refine ⟨⟨_,aF.of PO⟩,?_⟩;refine dg.r_ (xs:=acH.map V.ref) (ss:=(ds.map (·.name)).map fun x=>if decide (0 < stC v.st bH x)=true then some (V.str x) else none) (aF.of PO) (by rw [aO];exact c7 (show _ <= 12 by omega) (by decide)) (by rw [aO,aO,aO,agW]) (fun i xa dN ys N aJ aS bu=>?_) (fun l aK=>?_)
    .obtain ⟨sl,mb,rfl⟩:=cm aJ;have g4:i < ds.length:=by have:=(cb.mp mb).1;omega
     have sg:=bo g4;have ph:=Zp i _ _ mb sg;obtain ⟨fH,d_,rfl⟩:=cm aS;have aiL:fH=ds[i].name:=by rw [dO,sg] at d_;exact (dX d_).symm
     subst aiL;have bY:=fm.k (k:=bD ds[i].name) zT;rw [qS (cw.mpr ⟨_,kT g4,rfl⟩)] at bY;nofun;refine ⟨Sub.name,_,de.of ph,_,cy (j:=1) rfl,_,bY,_,rfl,?_⟩;by_cases cO:0 < stC v.st bH ds[i].name
     .simp only [cO,decide_true,if_true] at bu ⊢;exact ⟨_,de.of ph,_,cy (j:=1) rfl,bu⟩
     .simp [cO] at bu ⊢;exact bu
    .rw [u2];exact cM _ _ ⟨bf aK,aeI.upd,l,aK,db,rfl⟩
   rintro fT wm bb;ac_rfl
   obtain ⟨t3,amB,ap,Z7,aay,rfl⟩:=bb;have MR:=zm.same (oI.trans t3);have kA:Dc (dz ds cp) s:=fun h=>J.vH.ch h
   subst aV;simp only [dT];refine DT (fun rb b5=>rb=false/\aN wm b5/\aI b5) (fun kL a9=>?_) (fun b5 r=>(by cases r.1)) (fun b5 r=>?_)
   .nofun;obtain ⟨oj,l7⟩:=(xZ.same t3).at_;refine ⟨_,_,l7,qQ _ _ _ _ _ (by ac_nf),(ds.map (·.name)),bC,eU,s,v,n,ds,dz ds cp,rfl,xZ.same t3,by rw [JA,Im];exact MR,R.dq,kA,amB,fun p H1 mw wk aq gb=>⟨.inr (.inr (.inl (.inl ⟨_,gb⟩))),p,rfl,_,gb,fun q aD=>⟨_,db,_,(bf aD) _ _ gb,fun l as av kf=>?_⟩⟩⟩;have nh:=(mw.trans (bf aD)).trans kf.same;have xW:=yW kf wk.upd;have yz:=s'.same (t3.trans nh);obtain ⟨_,aiz,F_,Xj,afk⟩:=id yz;refine ⟨_,_,F_,Op _ _ _ _ _ _ _ _ (by ac_nf),k,el,az,aQ,s,c,n,ds,dz ds cp,rfl,yz,MR.same nh,R.dq,kA,xW,fun iv bk xU sm W' nH=>⟨.inr (.inr (.inl (.inl ⟨_,nH⟩))),iv,rfl,_,nH,fun dV ma=>⟨_,db,_,(bf ma) _ _ nH,fun l' aa3 b5 vK=>?_⟩⟩⟩;have vh:=(xU.trans (bf ma)).trans vK.same;exact ⟨_,ip.eq ((ip.of kf).keep (fun u e=>vh _ _ e) (fun q xs e=>vh _ _ e)) (ip.of vK),a9 _ _ ⟨rfl,nh.trans vh,yW vK sm.upd⟩⟩
   obtain ⟨_,Tc,adh⟩:=r;have l1:=t3.trans Tc;simp only [jf,dT];refine CY (fun ax cP=>(∃ aj jk,qi n ds (dz ds cp) (tK (dz ds cp) s (nL (ds.map (·.name)) (stC v.st bH))) ((nL (ds.map (·.name)) (stC v.st bH)).any (ko (dz ds cp) s)) aj/\(∀ b u,¬ Own (ds.map (·.name)) bC eU b->b ≠ Pt->b ≠ sp->b5 b=some u->cP b=some u)/\aI cP/\j5 Pt cP/\jk.cc=v.cc + 1/\xy (ds.map (·.name)) jk.cc jk/\e4 t (ds.map (·.name)) cP bC eU aj jk/\cP sp=some (.a5 (dE (ds.map (·.name)) fun x=>V.int (jk.st x))))/\∃ l5,ax=[~~~a,some (.int n),~~~wl,~~~dP,~~~el,~~~bC,~~~c0,~~~k,~~~bp,~~~sp,i_,some (.int j),~~~ca,Hb,JL,~~~ap,l5]) (fun gm cM=>?_) ?_
   .nofun;have qZ:=xZ.same l1;obtain ⟨oj,l7⟩:=qZ.at_;have Kp:ig ew ca=none:=J.bg.free je;have aca:¬ Own (ds.map (·.name)) bC eU ca:=fun z=>by
     obtain ⟨u,fo,_⟩:=J.jV.has z;rw [je] at fo;cases fo
    refine ⟨_,_,l7,qQ _ _ _ _ _ (by ac_nf),ig ew,bC,eU,s,v,n,ds,dz ds cp,ca,bH,rfl,qZ,by rw [JA,Im];exact zm,oI.trans l1,Wv,BH,R,J.vH,J.Df,J.t0,by omega,l1 _ _ ajI,kY,iq,aca,Kp,nk.step l1,adh,fun wp qs ws aj jk cP qf kb e6 u5 jd DV gu CF gd y_ gM=>⟨wp,rfl,⟨_,aF.of jd.1⟩,?_⟩⟩;have Ky:sp ≠ Pt:=fun z=>by
     obtain ⟨ps,e,_⟩:=nk;rw [<- z,zT] at e;cases e
    have rQ:cP sp=some (.a5 (dE (ds.map (·.name)) fun x=>V.int (stC v.st bH x))):=kb _ _ (fun z=>by
     rcases z with z | z
     .exact Gd z
     .exact Ky z) (l1 _ _ zT)
    refine dY.list (xs:=qs.map V.ref) (fun i σ I=>cK sp cP I/\aI I/\I sp=some (.a5 (dE (ds.map (·.name)) fun x=>V.int (m1 (stC v.st bH) (ws.take i) x)))/\∃ l5,σ=[~~~a,some (.int n),~~~wl,~~~dP,~~~el,~~~bC,~~~c0,~~~k,~~~bp,~~~sp,i_,some (.int j),~~~ca,Hb,JL,~~~ap,l5]) ⟨fun _ _ _ e=>e,e6,rQ,_,rfl⟩ ?_ ?_ ?_
    .rintro i σ I ah ⟨dB,_⟩;exact aF.of (dB _ _ (br jd.1 rQ (by intro z;cases z)) jd.1)
    .rintro i xa σ I aJ bb;ac_rfl
     obtain ⟨dB,fN,dZ,Lj,rfl⟩:=bb;obtain ⟨sl,mb,rfl⟩:=cm aJ;obtain ⟨ww,E0⟩:∃ ww,ws[i]? = some ww:=⟨_,bo (by rw [<- jd.2.1];exact (cb.mp mb).1)⟩;have ph:=jd.2.2 i sl ww mb E0;have FD:=dB _ _ (br ph rQ (by intro z;cases z)) ph;have UP:=DV ww (cQ E0);have bY:=fm.k (k:=bD ww.1) dZ;subst aV;rw [qS UP] at bY;simp only [gj,jD,jn];nofun;refine ⟨_,de.of FD,_,cy (j:=0) rfl,_,bY,_,de.of FD,_,cy (j:=2) rfl,_,rfl,_,rfl,_,de.of FD,_,cy (j:=0) rfl,_,hC.k (k:=bD ww.1) dZ (by unfold dE;rw [aO];exact f5 vv (by decide)),fun b u aa e=>by rw [aA aa];exact dB _ _ aa e,fN.upd,?_,_,rfl⟩;rw [db,iH E0,Nc];exact congrArg (fun x=>some (dU.a5 x)) (Au UP (fun y aY=>by
      show V.int (dn (m1 (stC v.st bH) (ws.take i)) ww.1 (m1 (stC v.st bH) (ws.take i) ww.1 - ww.2.2) y)=_;unfold dn;split <;> rfl))
    .rintro σ I bb;ac_rfl
     obtain ⟨dB,fN,dZ,Lj,rfl⟩:=bb;subst aV;rw [aO,jd.2.1,hB,<- gd] at dZ;have xH:∀ {q:Addr} {xs:List V},cP q=some (.tup xs)->I q=some (.tup xs):=fun {q xs} e=>dB _ _ (br e rQ (by intro z;cases z)) e
     refine cM _ _ ⟨⟨aj,jk,qf,fun b u af ak bc e=>dB _ _ bc (kb _ _ (fun z=>by
      rcases z with z | z
      .exact af z
      .exact ak z) e),fN,?_,CF,y_,gM.keep (fun b u aa e=>dB _ _ (fun z=>Gd (by rw [<- z];exact aa)) e) (fun q xs e=>xH e),dZ⟩,Lj,rfl⟩
     obtain ⟨ps,e,cF⟩:=u5;refine ⟨ps,dB _ _ (br e rQ (by intro z;cases z)) e,?_⟩;rcases cF with cF | ⟨c',cF,bM⟩
     .exact .inl cF
     .exact .inr ⟨c',cF,dB _ _ (br bM rQ (by intro z;cases z)) bM⟩
   rintro n4 o2 bb;ac_rfl
   obtain ⟨⟨aj,jk,qf,rE,e6,u5,CF,y_,gM,rQ⟩,Lj,rfl⟩:=bb;subst aV;nofun;have qZ:=xZ.same l1;have VP:=alG.same l1;have Pn:=ajK.keep (fun u e=>l1 _ _ e) (fun q xs e=>l1 _ _ e);obtain ⟨eV,es,qe,pN,qz⟩:=s'.same l1;obtain ⟨adH,hx,_⟩:=nk.step l1;have K_:=l1 _ _ zT;have ajV:=u5;obtain ⟨aqd,aaQ,_⟩:=ajV;have qt:eD t o2 k el az aQ s:=⟨eV,es,rE _ _ N3 (br qe hx (by intro z;cases z)) (cX Iv) qe,rE _ _ Rh (br pN hx (by intro z;cases z)) (cX I') pN,rE _ _ Ss (br qz hx (by intro z;cases z)) (cX K4) qz⟩;obtain ⟨_,B_,bZ,ct,oD⟩:=id qt;have U1:aN (ig ew) o2:=fun b u e=>rE _ _ (fun z=>by rw [Wv b z] at e;cases e) (dj e BH) (dj e U3) ((oI.trans l1) _ _ e)
   have aco:¬ Own (ds.map (·.name)) bC eU ap:=fun z=>by
    obtain ⟨u,fo,_⟩:=xZ.has z;rw [Z7] at fo;cases fo
   have GR:=Tc _ _ aay;have aiG:=rE _ _ aco (br GR hx (by intro z;cases z)) (br GR K_ (by intro z;cases z)) GR;have Vt:∀ {q:Addr} {xs:List V},b5 q=some (.tup xs)->o2 q=some (.tup xs):=fun {q xs} e=>rE _ _ (qZ.off e (fun _ _ _ z=>by cases z) (fun _ z=>by cases z) (fun _ z=>by cases z)) (br e hx (by intro z;cases z)) (br e K_ (by intro z;cases z)) e
   have O8:¬ Own (ds.map (·.name)) c0 f_ Pt:=VP.off hx (fun _ _ _ z=>by cases z) (fun _ z=>by cases z) (fun _ z=>by cases z);have ac3:e4 t (ds.map (·.name)) o2 c0 f_ (lC ds (i7 ds cp[0])) ⟨0,fun _=>0,fun _=>[]⟩:=VP.keep (fun b u aa e=>rE _ _ (ad4 aa) (fun z=>O8 (by rw [<- z];exact aa)) (fun z=>Qf (by rw [<- z];exact aa)) e) (fun q xs e=>Vt e);have S_:bp ≠ Pt:=fun z=>by
    obtain ⟨as,a1,_⟩:=Pn;rw [z,hx] at a1;cases a1
   have BK:ip o2 bp ds (gR n ds (dz ds cp) (lC ds (i7 ds cp[0]))):=Pn.keep (fun u e=>rE _ _ acF S_ rp e) (fun q xs e=>Vt e);have U4:∀ x ∈ nL (ds.map (·.name)) (stC v.st bH),x ∈ (ds.map (·.name)):=fun x ag=>(lE.mp ag).1
   have MW:=RS U4 J.vH;refine ⟨_,_,bZ,Op _ _ _ _ _ _ _ _ (by ac_nf),ig ew,k,el,az,aQ,s,c,n,ds,dz ds cp,ap,nL (ds.map (·.name)) (stC v.st bH),rfl,qt,zm,U1,WL,Nv,Oh,BH,R,J.vH,aiG,c7 (um _ _) (by omega),U4,u5,e6,fun p oZ fS adY p7 aq gb fN Mc HP=>?_⟩;have a0:oZ=aj:=aff R MW J.Gl adY qf;subst a0;have xH:∀ {q:Addr} {xs:List V},o2 q=some (.tup xs)->fS q=some (.tup xs):=fun {q xs} e=>p7 _ _ (br e bZ (by intro z;cases z)) (br e ct (by intro z;cases z)) (br e oD (by intro z;cases z)) (br e aaQ (by intro z;cases z)) e
   have Ky:sp ≠ Pt:=br K_ hx (by intro z;cases z);refine ⟨⟨oZ,jk,⟨fN,fun b u e=>p7 _ _ (dj e WL) (dj e Nv) (dj e Oh) (dj e BH) (U1 _ _ e),Mc,gM.keep (fun b u aa e=>p7 _ _ (fun z=>N3 (by rw [<- z];exact aa)) (fun z=>Rh (by rw [<- z];exact aa)) (fun z=>Ss (by rw [<- z];exact aa)) (fun z=>adj (by rw [<- z];exact aa)) e) (fun q xs e=>xH e),ac3.keep (fun b u aa e=>p7 _ _ (fun z=>aiE (by rw [<- z];exact aa)) (fun z=>Yx (by rw [<- z];exact aa)) (fun z=>acB (by rw [<- z];exact aa)) (fun z=>O8 (by rw [<- z];exact aa)) e) (fun q xs e=>xH e),HP,BK.keep (fun u e=>p7 _ _ ?_ ?_ ?_ S_ e) (fun q xs e=>xH e),p7 _ _ Iv I' K4 Ky rQ,y_,by have:=J.t0;omega,aei R MW qf,aer (show sQ (dz ds cp) (tK (dz ds cp) s (nL (ds.map (·.name)) (stC v.st bH))) from J.Gl) qf⟩,by rw [CF,acG];rfl⟩,_,rfl⟩
   .obtain ⟨as,a1,_⟩:=BK;exact br a1 bZ (by intro z;cases z)
   .obtain ⟨as,a1,_⟩:=BK;exact br a1 ct (by intro z;cases z)
   .obtain ⟨as,a1,_⟩:=BK;exact br a1 oD (by intro z;cases z)
  .rintro σ I bb;ac_rfl
   obtain ⟨⟨s,v,J,_⟩,i_,yw,yj,mi,m6,qG,l5,rfl⟩:=bb;subst aV;exact cC _ _ ⟨⟨s,v,J⟩,_,_,_,_,_,_,_,rfl⟩
 rintro aqJ Na bb;ac_rfl
 obtain ⟨⟨s,v,J⟩,anv,alk,afZ,Yt,aie,adI,Zk,rfl⟩:=bb;have abw:=zm.same J.bg;have kA:Dc (dz ds cp) s:=fun h=>J.vH.ch h
 subst aV;simp only [dT];exists (fun ax I=>aN Na I/\aI I/\ax=[~~~a,some (.int n),~~~wl,~~~dP,~~~el,~~~bC,~~~c0,~~~k,~~~bp,~~~sp,anv,alk,afZ,Yt,aie,adI,Zk]),0
 .refine DT (fun rb b5=>rb=false/\aN Na b5/\aI b5) (fun kL a9=>?_) (fun b5 r=>(by cases r.1)) (fun b5 r=>?_)
  .nofun;obtain ⟨oj,l7⟩:=J.rr.at_;refine ⟨_,_,l7,qQ _ _ _ _ _ (by ac_nf),(ds.map (·.name)),c0,f_,_,_,n,ds,dz ds cp,rfl,J.rr,by rw [Ux,v9];exact abw,R.dq,(fun h=>by cases h),J.bG,fun p H1 mw wk aq gb=>⟨.inr (.inr (.inl (.inl ⟨_,gb⟩))),p,rfl,_,gb,fun dV aD=>⟨_,db,_,(bf aD) _ _ gb,fun l as av kf=>?_⟩⟩⟩;have nh:=(mw.trans (bf aD)).trans kf.same;have xW:=yW kf wk.upd;refine ⟨_,ip.eq (ip.of kf) (J.it.keep (fun u e=>nh _ _ e) (fun q xs e=>nh _ _ e)),?_⟩;rw [if_neg (by decide)];obtain ⟨an1,eq⟩:=(J.rr.same nh).at_;refine ⟨_,_,eq,qQ _ _ _ _ _ (by ac_nf),(ds.map (·.name)),c0,f_,_,_,rfl,J.rr.same nh,vv,fun iv bk xU sm W' nH=>?_⟩;have emap:oJ (fun q=>q.snd) (dE (ds.map (·.name)) fun _=>V.int 0)=oJ V.int ((ds.map (·.name)).map fun _=>(0:Int)):=by
    unfold dE;rw [nr,nr (f:=fun _=>(0:Int))];rfl
   refine ⟨.inr (.inr (.inl (.inl ⟨_,nH⟩))),iv,rfl,_,nH,fun dC tq=>⟨_,db,_,(bf tq) _ _ nH,fun cW Fo=>⟨(ds.map (·.name)).map fun _=>(0:Int),aF.of (by rw [db,emap]),fun x ag=>?_,by rw [aO];omega,?_⟩⟩⟩
   .obtain ⟨_,_,rfl⟩:=cw.mp ag;exact ⟨by decide,by decide⟩
   .rw [adT];exact a9 _ _ ⟨rfl,(nh.trans xU).trans ((bf tq).trans (bf Fo)),(sm xW).upd.upd⟩
  .simp only [jf];exact cC _ _ ⟨r.2.1,r.2.2,rfl⟩
 rintro dG api ⟨ahx,W3,rfl⟩;subst aV;nofun;have zQ:=J.same ahx W3;have RI:=zm.same zQ.bg;obtain ⟨oj,l7⟩:=zQ.jV.at_;refine ⟨_,_,l7,qQ _ _ _ _ _ (by ac_nf),(ds.map (·.name)),bC,eU,s,v,n,ds,dz ds cp,rfl,zQ.jV,by rw [JA,Im];exact RI,R.dq,kA,W3,fun p H1 mw wk aq gb=>⟨.inr (.inr (.inl (.inl ⟨_,gb⟩))),p,rfl,_,gb,fun dV aD=>⟨_,db,_,(bf aD) _ _ gb,fun l as av kf=>?_⟩⟩⟩;have nh:=(mw.trans (bf aD)).trans kf.same;have xW:=yW kf wk.upd;have yz:=zQ.bJ.same nh;obtain ⟨_,aiz,F_,Xj,afk⟩:=id yz;refine ⟨_,_,F_,Op _ _ _ _ _ _ _ _ (by ac_nf),k,el,az,aQ,s,c,n,ds,dz ds cp,rfl,yz,RI.same nh,R.dq,kA,xW,fun iv bk xU sm W' nH=>⟨.inr (.inr (.inl (.inl ⟨_,nH⟩))),iv,rfl,_,nH,fun aqA ma=>⟨_,db,_,(bf ma) _ _ nH,fun l' aa3 b5 vK=>?_⟩⟩⟩;have vh:=(xU.trans (bf ma)).trans vK.same;exact ⟨_,ip.eq ((ip.of kf).keep (fun u e=>vh _ _ e) (fun q xs e=>vh _ _ e)) (ip.of vK),q _⟩
end My
structure PySem.W.Fast:Prop where(tw6316571193902810105 tw4483433105937898158 tw6902051582464693833 tw6842448707467375697 tw271308236551794429 tw8568597789197993463 tw6498075351125381984 tw1242947908261818 tw5276372173696915701 tw829223834759174790 tw10035306297797658597 tw1314797120763657782 tw13643285481876605607 tw13947048982504443790 tw4383639062720589651 tw17213224061965869995 tw982369850595778078 tw13453461476044537515 tw3828992844604099389 tw12982948766704752443 tw1996903236177599957 tw12234807868149739385 tw5879985587758944947 tw4217520574488625515 tw1551576625793557685 tw16860040362396642617 tw6303070544161762735 tw7187493166041173777 tw6220777370179538191 tw11686623830132926925 tw1669779000868838483 tw5089741822899375154 tw15644561610477070405 tw8683650717621365886 tw14533260654349844496 tw12862045350799094125 tw13334022671118898516 tw11868240836456421245 tw4525407614342704211 tw12009131581441364377 tw17045855570871002162 tw16304639725149619178 tw6973889359559687957 tw13374954199986752567 tw926057222738804958 tw16057259814328146132 tw50164765463344541 tw6661534025968680671 tw3417439594494999410 tw6010224054184535750 tw17484361819163805327 tw3997929350629352001 tw8363028226398781642 tw6213334887022250651 tw17148180427035740601 tw8663564582392762596 tw1577038913211774553 tw527603484403151933 tw5964093986393808064 tw3186782022402083007 tw529615230543498390 tw12199717791555248084 tw4134603623264164917 tw4191281738157242406 tw8568545916772313797 tw15545686932484820026 tw2698747997330784378 tw15025373899887304861 tw11800780973137685116 tw13378564141540487384 tw3517981495723204081 tw14864364324711172783 tw1256600863901391264 tw4884753221264503428 tw1010366883031564754 tw813259581323417315 tw15918889028123152721 tw12008284147211680299 tw1951584142458735401 tw5438342991286581119 tw4294343172992365882 tw14888753822544015768 tw7270073817969175314 tw524568836185919882 tw16767319455035386612 tw7576856249272733295 tw7968216360769785198 tw16587878675091729423 tw7557855514711665221 tw15821348310567276358 tw373100223443383208 tw5676012875633668282 tw5620315172380733812 tw12870341085933547795 tw5924052774597605441 tw15423366974946855683 tw452900920322374904 tw2890317841148557420 tw2481318667764857404 tw9148237894932622812 tw14606983554366573954 tw17552724123819958074 tw3215564515833982855 tw15576659927651029057 tw16971747638241292633 tw10681742788189507478 tw14264454672513156861 tw9570123996601567283 tw8218371927665990070 tw1427695662498321890 tw17241578690102067385 tw12268268646524066086 tw17926506968708062522 tw16977112275305169544 tw7661343431983314109 tw4189186022136029002 tw8740353706003435496 tw10800225550433806534 tw7285147263490940570 tw723076601073935132 tw14042801007087752211 tw11240062019687089767 tw9606173713007261296 tw18059254111357802214 tw8952746686454125884 tw4272805571678216093 tw15586657861585722369 tw5136361063466442747 tw15467802296473474148 tw13745443588680224068 tw1712337660852990058 tw7111630216849455916 tw16726152741610074246 tw4257014067427669378 tw695580074120822133 tw9985428417193955712 tw9084440732014597123 tw16852922488433834041 tw10486479101263620557 tw10566829667086644414 tw1913704809153729437 tw12157605308777402565 tw4399767216702010973 tw1905299873050575854 tw8832147759200492603 tw14796429924074436410 tw5315757154396880972 tw12929256525180611921 tw13154567233841159116 tw15463383847281764902 tw1982138942154141993 tw5410349332721625876 tw1608074140686403858 tw15767044202652798460 tw9701339531163714222 tw5911106637864906158 tw3832762318084985375 tw9967925351518135608 tw11239442841971640323 tw4964735706408570 tw4051165497320366804 tw1273028591446141801 tw14138106317912002015 tw1587927772384705520 tw3097146350674654124 tw247353208525382871 tw5450821528051357129 tw14334479539245075756 tw4735597857225847618 tw2944411600878293552 tw5981556038885404799 tw8496254919319746617 tw11563052357171838865 tw10172013322927796712 tw9556315098416422583 tw7875650592269163111 tw11343132662654461836 tw9245934539340414000 tw5271054791940914906 tw11237961090882478157 tw7953546842120124144 tw8660245159266400581 tw6676010285808953630 tw13075570190750435351 tw4793778930995456195 tw3735358325372597100 tw11079753810430276641 tw8155159053873996977 tw6695625551148197451 tw13117010092582940710 tw9679335602052371730 tw3586206216910018831 tw15330215490304329064 tw1862551022578184960 tw16776992484740421242 tw9869153666190219852 tw1811261806347026906 tw14757996326481671574 tw14345751168389422132 tw2086448657030749752 tw1635250740456213437 tw4318487744481283442 tw15050653060014149478 tw12371225992404115502 tw2498520301972786751 tw11446046833044656539 tw15507327653930853716 tw1410241443230452529 tw17357847441828905736 tw8449560502750879709 tw18247417461416001440 tw15903066187852604132 tw6339900580053681223 tw15045018218455079405 tw18147269019712547193 tw14519120196836673153 tw18393891912260272996 tw8999317215087520565 tw12429940653071655886 tw16813378991223316989 tw2675332279329858565 tw17090543631478097614 tw17003936543564084661 tw14831889126468087534 tw956533491480524696 tw14778206419218239765 tw14393262118199754236 tw17743882015843259299 tw16670187160355151384 tw8947585494078334768 tw14532059249703903594 tw16583726447517706940 tw12599069533810317683 tw5871595672057949345 tw14091230400733937194 tw10014846812988567750 tw14818502646267389249 tw15654164572185717405 tw16069972422208155467 tw8465231105729253669 tw4262064162399145242 tw15905431321442537715 tw10944436597316023106 tw10195738877908528942 tw18416472838133478903 tw12090000626302506210 tw6649146476083017357 tw59612536847270537 tw12071008312889283848 tw10391089732485544603 tw13375815970510883395 tw17565273690885259594 tw9921001146197057834 tw7740085148395742090 tw2313491860564122524 tw1137875204051948091 tw6019441620220651369 tw6477910357508979714 tw13706790606177291133 tw4259764565590966607 tw1742811052803812387 tw7606262138954558443 tw8216050532944746557 tw10520634964520917206 tw17208164962235957061 tw13616891769148344510 tw8791653496902845378 tw2049524443530339482 tw17844901848742337848 tw1021571897233706316 tw11146815828245506931 tw4612263976861758796 tw9943096749780784558 tw13593269065411639847 tw10776039662319987027 tw11483378182938206138 tw15926519810864871191 tw10348607760817068836 tw6462811046807507842 tw3349040457558869404 tw13687701645724072723 tw2215780985352203752 tw9279140125454265740 tw7791653456451661228 tw9006986431033147844 tw5294379555426229347 tw5724031738772703519 tw10933429688789131266 tw14756744165618495653 tw11830579156844062113 tw12578075444240186268 tw14844079423377173727 tw7246752551377431321 tw10049302707572387650 tw8819640474189350787 tw12288496813288373685 tw8251471010755113826 tw14738612861487812568 tw17325347937608751337 tw3358474507763426122 tw1876126116906109156 tw8115460393309165725 tw13325988339251748789 tw3243593516594103861 tw13443368718840578029 tw2178739173236221770 tw12308863065345158386 tw10800714879341878978 tw3616606021517702899 tw3260417580523375648 tw9574077413321971475 tw7099428471686203030 tw3463408196764835394 tw15092871179735307034 tw12867782940360581772 tw16549242438910672481 tw14376918518519696730 tw13387832844482658107 tw10091306109738252306 tw8847456483118553647 tw14419100224687409089 tw7568513180626065844 tw11295632323053588012 tw8480813547993353153 tw14606512650318160585 tw14005990468698158173 tw15650331772671012529 tw14536572863502899216 tw13714341738595600788 tw9662440976744243870 tw4601748818071297636 tw6112538297858636028 tw9500894249057699758 tw5835649442821450634 tw16027800474421779655 tw500356376799016232 tw16335301348805450134 tw2169722975306729548 tw59772990380754198 tw7206440416411784127 tw2141119559085696792 tw765206391396845574 tw16089884650085147043 tw2789001956985643801 tw15124037057400573282 tw11113363799987363764 tw16776603517685896668 tw18256541577022099869 tw9548364618522156651 tw6955275005664279603 tw8647210894812895087 tw6043951036900580614 tw12412331132553518410 tw2366601839999880791 tw7366221428045323917 tw13112744230956050982 tw1710573101363186156 tw9620086167998316694 tw14548638517822644272 tw820651355178823432 tw6311921613494349403 tw7686119429964538154 tw317603062360937073 tw14845341683926146352 tw3005176260032279051 tw4612921941349074091 tw13279937726780583071 tw2665132287321090288 tw15535279019202562500 tw3117943753377932151 tw1150749809741393208 tw7036883333720804554 tw391985303483640892 tw13790323065043369456 tw1097198164381179981 tw17189131411427626806 tw16192794111589843598 tw13764374606218334693 tw12588083981999597035 tw12880462755771559486 tw11811240646088100113 tw2728838442687366522 tw13387487109810172059 tw13099202815810053674 tw12661439304394845301 tw13217182838401780778 tw8930670535354356227 tw1595814158417896774 tw6168383637119547644 tw10241640368132285026 tw11993628445397541553 tw6493541776750625053 tw286005288150979349 tw3409239269159128699 tw14412955617995622900 tw3423243228194979142 tw7718535639722444642 tw12412822635328228950 tw4375746340669607148 tw133210094086822141 tw14879464981586186053 tw218506432495751220 tw14862676535008963609 tw17750622419881526552 tw7862140561196570876 tw12236746147083202844 tw15261798040428331905 tw14698724003314098923 tw10629283452649979787 tw9961710539468984352 tw10112631155862674060 tw691182634131879651 tw14554716471303569056 tw9628345369806297310 tw10143605610149889497 tw3279922277801414700 tw12617775035544152963 tw1161316375842350284 tw17314578660958027543 tw4535029431415909965 tw9157968896989649189 tw17889850177526261789 tw4247786347612771155 tw5732647924933786701 tw16265074091205215505 tw5792688668402889992 tw2174499634574369669 tw6055144282756337341 tw9077403246303147026 tw16679290943829693831 tw7551815661211558599 tw2078427510393942004 tw9842953378892808454 tw14261218766032646490 tw17293853278144467388 tw1842197123827761215 tw10221022221106377375 tw9916090877294213575 tw16026660910353835053 tw11493809019784000911 tw14695805421304806385 tw6066878097136813143 tw12849047104024182281 tw15587199867917790046 tw8582072184589045479 tw9588162502601842128 tw4112083400392823506 tw7628671911071470044 tw17204509337102501553 tw9643465339132483709 tw15863705838326777167 tw5222641000719342006 tw14701667525621182942 tw926630823835440044 tw12899458023892153040 tw2158877139823211144 tw8821629969773285192 tw15003802820104090714 tw17723717769835841607 tw3748854373351404485 tw8255153981781655219 tw9416572632469238436 tw6133839553984076949 tw17182274969540559416 tw3070537966304453198 tw2490581492434527560 tw10967221643838031462 tw9256204227486730192 tw3501272065375672632 tw2587351974873613595 tw6103987350814154573 tw15169107126596115165 tw13122282470873277588 tw3052612586173819763 tw10397106173032898869 tw1363701947923608828 tw7158932011417387671 tw13706216378262296564 tw16356133431279544184 tw4161822406075030505 tw8531945843270833737 tw4567432706492454171 tw2757109718148153387 tw13330695021628061039 tw7704711662856109880 tw2288354527877484698 tw1765939278742582860 tw12419884480192835702 tw4108509625710094603 tw11150149908810835761 tw174580579652254824 tw2879180624410595097 tw5715410786502359232 tw6979695839791846798 tw406540428445921663 tw14633804526420659157 tw355459303660636034 tw7085988745820987736 tw9140944141577602148 tw8188732145083467037 tw6566962340686836353 tw7291139294687152706 tw2270242854226243964 tw2867058591742323894 tw13695921799484079365 tw11363092216829448499 tw5661947238720474219 tw2851808202097662400 tw10515640794431900123 tw5213565108549121111 tw9359270511990799015 tw7554958019523662850 tw17041486428829896482 tw5959178713453041327 tw5514085439891592310 tw3246305240241144392 tw14635122139197443590 tw4042382297899979565 tw3918894949724756341 tw2858779351043150235 tw1536734581755145503 tw11648946084868638615 tw10425636822137972276 tw9300715440365033820 tw11106668637291513514 tw16976776289416634429 tw9199794433067511473 tw3146124901512590013 tw4432830190962650187 tw15469174960569069347 tw6572498860895667609 tw8362041050828994811 tw10817944924704634419 tw7596336596605850004 tw3772164917283763497 tw3978754419243356156 tw576714339446545679 tw17682012024728608990 tw15002521905654404956 tw2458385706279706815 tw17942978845131390927 tw5263407098279288704 tw906397268882191123 tw15835942360380864195 tw2711057869264023528 tw16651201168791002585 tw9548351260296153069 tw15534025184617161546 tw11591678317399359742 tw12311281956803617706 tw8573828673086247491 tw2600866119218766508 tw6229446982446539374 tw13804428312868241457 tw10350091240291332724 tw343259548235471901 tw1115350707246669961 tw16168640495038518898 tw2610213357555191570 tw11627092622177999826 tw16309186824569964255 tw2921787656313035290 tw3369751997414924406 tw7189628922604052487:True)
open PySem PySem.W PyProof.Rows
set_option maxRecDepth 100000 in
set_option maxHeartbeats 0 in
theorem PySem.Challenge.cw_lampway_k52_a_road_asks_holds : PySem.Challenge.rw_lampway_k52_a_road_asks.Holds := by
 w_on;o_law;k_head;(case hw=>w_witness2)
 k_fill
 refine L2.afU (l:=PySem.Challenge.rw_lampway_k52_a_road_asks) (n:=63) (k:=12) (x := "_law_script") (CX:=L2.dt) (sp:=My.NM) rfl (by decide) rfl ⟨rfl,by decide,by decide⟩ (fun w h Y=>PySem.W.km_in_of Y) (fun w h Y=>PySem.W.km_tabs_of Y _ (List.Mem.head _)) (by intro p;kernel_rfl) ?F ?S ?C
 case F=>
  intro w mg gB h kP G yT aq;have T:∃ t,My.Txt w (L2.FJ kP) mg t/\aeC (L2.FJ kP) t.q8 (L2.TH aq)=true:=by
   dsimp only [L2.FJ,L2.TH];refine' ⟨My.bQ.mk,⟨?maa,?Fab,?mac,?Fad,?mae,?Faf,?mag,?Fah,?mai,?Faj,?mak,?Fal,?mam,?Fan,?mao,?Fap,?maq,?Far,?mas,?Fat,?mau,?Fav,?maw,?Fax,?may,?Faz,?mba,?Fbb,?mbc,?Fbd,?mbe,?Fbf,?mbg,?Fbh,?mbi,?Fbj,?mbk,?Fbl,?mbm,?Fbn,?mbo,?Fbp,?mbq,?Fbr,?mbs,?Fbt,?mbu,?Fbv,?mbw,?Fbx,?mby,?Fbz,?mca,?Fcb,?mcc,?Fcd,?mce,?Fcf,?mcg,?Fch,?mci,?Fcj,?mck,?Fcl,?mcm,?Fcn,?mco,?Fcp,?mcq,?Fcr,?mcs,?Fct,?mcu,?Fcv,?mcw,?ecx,?Fcy,?ecz,?Fda,?edb,?Fdc,?edd,?Fde,?edf,?Fdg,?edh,?Fdi,?edj,?Fdk,?mdl,?edm,?Fdn,?mdo,?edp,?Fdq,?edr,?Fds,?edt,?Fdu,?edv,?Fdw,?edx,?Fdy,?edz,?Fea,?eeb,?Fec,?eed,?Fee,?eef,?Feg,?eeh,?Fei,?eej,?Fek,?eel,?Fem,?men,?eeo,?Fep,?eeq,?Fer,?ees,?Fet,?eeu,?Fev,?eew,?Fex,?eey,?Fez,?mfa,?efb,?Ffc,?mfd,?efe,?Fff,?efg,?Ffh,?efi,?Ffj,?efk,?Ffl,?mfm,?efn,?Ffo,?efp,?Ffq,?efr,?Ffs,?eft,?Ffu,?mfv,?efw,?Ffx,?efy,?Ffz,?ega,?Fgb,?egc,?Fgd,?mge,?egf,?Fgg,?egh,?Fgi,?egj,?Fgk,?egl,?Fgm,?sgn,?sgo,?sgp,?sgq,?sgr,?sgs,?sgt,?sgu,?ngv,?ngw,?ngx,?sgy,?sgz,?nha,?nhb,?nhc,?nhd,?nhe,?nhf,?nhg,?nhh,?shi,?shj,?shk,?shl,?shm,?shn,?sho,?shp,?shq,?shr,?shs,?sht,?shu,?nhv,?nhw,?nhx,?nhy,?nhz,?nia,?nib,?nic,?sid,?sie,?sif,?sig,?sih,?sii,?sij,?nik,?nil,?nim,?nin,?nio,?sip,?niq,?nir,?nis,?nit,?niu,?niv,?niw,?six,?siy,?siz,?sja,?sjb,?njc,?njd,?nje,?njf,?njg,?njh,?nji,?sjj,?sjk,?sjl,?sjm,?sjn,?njo,?njp,?njq,?njr,?njs,?njt,?nju,?sjv,?sjw,?sjx,?sjy,?sjz,?nka,?nkb,?nkc,?nkd,?nke,?nkf,?nkg,?skh,?ski,?skj,?skk,?skl,?nkm,?nkn,?nko,?dkp,?dkq,?dkr,?dks,?dkt,?dku,?skv,?mkw,?vkx,?mky,?vkz,?mla,?vlb,?mlc,?vld,?mle,?vlf,?mlg,?vlh,?mli,?vlj,?mlk,?vll,?mlm,?vln,?mlo,?vlp,?mlq,?vlr,?mls,?vlt,?blu,?blv,?blw,?blx,?bly,?blz,?bma,?bmb,?bmc,?bmd,?bme,?bmf,?cmg,?lmh⟩,?zcc⟩
   case maa | mac | mae | mag | mai | mak | mam | mao | maq | mas | mau | maw | may | mba | mbc | mbe | mbg | mbi | mbk | mbm | mbo | mbq | mbs | mbu | mbw | mby | mca | mcc | mce | mcg | mci | mck | mcm | mco | mcq | mcs | mcu | mcw | mdl | mdo | men | mfa | mfd | mfm | mfv | mge | mkw | mky | mla | mlc | mle | mlg | mli | mlk | mlm | mlo | mlq | mls=>(try dsimp only);refine' PySem.W.mg_of kP G ?z;case z=>k_is
   case ecx | ecz | edb | edd | edf | edh | edj | edm | edp | edr | edt | edv | edx | edz | eeb | eed | eef | eeh | eej | eel | eeo | eeq | ees | eeu | eew | eey | efb | efe | efg | efi | efk | efn | efp | efr | eft | efw | efy | ega | egc | egf | egh | egj | egl=>(try dsimp only);k_is
   case sgn | sgo | sgp | sgq | sgr | sgs | sgt | sgu | sgy | sgz | shi | shj | shk | shl | shm | shn | sho | shp | shq | shr | shs | sht | shu | sid | sie | sif | sig | sih | sii | sij | sip | six | siy | siz | sja | sjb | sjj | sjk | sjl | sjm | sjn | sjv | sjw | sjx | sjy | sjz | skh | ski | skj | skk | skl | skv=>(try dsimp only);constructor <;> k_is
   case Fab | Fad | Faf | Fah | Faj | Fal | Fan | Fap | Far | Fat | Fav | Fax | Faz | Fbb | Fbd | Fbf | Fbh | Fbj | Fbl | Fbn | Fbp | Fbr | Fbt | Fbv | Fbx | Fbz | Fcb | Fcd | Fcf | Fch | Fcj | Fcl | Fcn | Fcp | Fcr | Fct | Fcv | Fcy | Fda | Fdc | Fde | Fdg | Fdi | Fdk | Fdn | Fdq | Fds | Fdu | Fdw | Fdy | Fea | Fec | Fee | Feg | Fei | Fek | Fem | Fep | Fer | Fet | Fev | Fex | Fez | Ffc | Fff | Ffh | Ffj | Ffl | Ffo | Ffq | Ffs | Ffu | Ffx | Ffz | Fgb | Fgd | Fgg | Fgi | Fgk | Fgm=>(try dsimp only);refine' L2.aet ?x ?y ?z;(case x=>k_is);(case y=>k_is);(case z=>k_is)
   case cmg=>(try dsimp only);(try rfl)
   case ngv | ngw | ngx | nha | nhb | nhc | nhd | nhe | nhf | nhg | nhh | nhv | nhw | nhx | nhy | nhz | nia | nib | nic | nik | nil | nim | nin | nio | niq | nir | nis | nit | niu | niv | niw | njc | njd | nje | njf | njg | njh | nji | njo | njp | njq | njr | njs | njt | nju | nka | nkb | nkc | nkd | nke | nkf | nkg | nkm | nkn | nko=>(try dsimp only);unfold L2.cY;k_is
   case dkp | dkq | dkr | dks | dkt | dku=>(try dsimp only);decide
   case vkx | vkz | vlb | vld | vlf | vlh | vlj | vll | vln | vlp | vlr | vlt=>(try dsimp only);exact ⟨_,rfl⟩
   case blu | blv | blw | blx | bly | blz | bma | bmb | bmc | bmd | bme | bmf=>(try dsimp only);refine' PySem.W.mg_none_of kP G ?z;case z=>k_is
   case lmh=>(try dsimp only);exact fun _ _=>.of_eq rfl
   case zcc=>(try dsimp only);kernel_rfl
  obtain ⟨t,T,tZ⟩:=T;have fJ:=yT.symm.trans T.AT;cases fJ;exact ⟨t.FM,t.q8,T.aiY,tZ,fun base anY nb cV iD=>My.aae T cV iD⟩
 case S=>exact fun K H a Pt ns aK lR d2=>⟨a,ns,rfl,L2.Sc.aec lR d2,aK,⟨#[],lR.1,.inl rfl⟩,fun _=>rfl⟩
 case C=>exact fun _ _ _ _ z=>z
