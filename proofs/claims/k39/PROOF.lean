import PyProof.Rows.All
import Wide.All
import OpenK.AllK
import Wide.FinOn
import Lean
import PyProof.EqAt
import PyProof.EqKinds
import PyProof.TupleCall
import KE.KTryMore
import PyProof.NsDelKeeps
import PySem.Challenge.RW_lampway_k39_turn_about
set_option compiler.extract_closed false
set_option Elab.async false
set_option linter.all false
set_option autoImplicit true
set_option maxRecDepth 100000
local macro_rules | `(tactic| ac_nf)=>`(tactic| decide +kernel)
local macro_rules | `(tactic| omega)=>`(tactic| first | with_reducible assumption | with_reducible exact Nat.le_of_lt (by assumption) | with_reducible exact Int.le_of_lt (by assumption) | with_reducible exact Int.natCast_nonneg _ | with_reducible exact Nat.zero_le _ | omega (splitDisjunctions := true))
open Array renaming append_assoc→YV,getElem?_eq_none→TP,getElem?_toList→YO,length_toList→G0,toList→Yx,toList_append→n3,toList_inj→NY
open Bool renaming and_eq_true→hX,and_false→TY,eq_iff_iff→jC,false_and→mu,false_eq_true→HA,false_ne_true→fm,false_or→lj,not_true→SX,or_eq_false_iff→s7,or_eq_true→rg,or_false→OH,or_true→LD,true_and→lF,true_or→qS
open Char renaming toNat→vk
open Except renaming ok→pR
open False renaming elim→iz
open ForInStep renaming yield→vm
open Function renaming comp→ac7
open Int renaming add_mul_emod_self_left→aaG,emod_add_mul_ediv→agp,emod_eq_of_lt→sJ,emod_lt_of_pos→wX,emod_nonneg→tr,le_refl→Jj,le_trans→aeK,mul_lt_mul'→Wg,mul_nonneg→WT,toNat_natCast→nL,toNat_of_nonneg→qx,zero_add→o8
open List renaming all_cons→XD,all_eq_true→oT,all_map→VS,any_cons→u2,any_eq_false→IL,any_eq_true→qi,any_map→QR,append_assoc→oV,append_nil→su,cons_append→BC,contains_cons→LH,drop_eq_getElem_cons→rj,drop_length→uE,drop_zero→PA,exists_cons_of_ne_nil→qM,filterMap_cons→RO,filter_congr→TN,filter_cons→TF,filter_cons_of_neg→aag,filter_cons_of_pos→VO,filter_eq_nil_iff→Mi,filter_sublist→aeN,find?→agj,find?_cons→pn,find?_eq_none→aej,findSome?_cons→HN,findSome?_eq_none_iff→FZ,flatMap_append→xZ,flatMap_cons→vJ,flatMap_nil→acV,flatten_append→ZH,flatten_cons→tf,foldl_append→Mx,getD→yV,getD_eq_getElem?_getD→jZ,getElem?_append_left→qq,getElem?_append_right→qP,getElem?_cons_succ→Bs,getElem?_eq_getElem→bo,getElem?_eq_none→SR,getElem?_eq_none_iff→I2,getElem?_eq_some_iff→b',getElem?_map→c5,getElem?_of_mem→hH,getElem?_range→LV,getElem?_set_ne→Cc,getElem?_set_self→LS,getElem?_take_of_lt→o4,getElem_inj→x2,getElem_map→Ff,getElem_mem→iM,getElem_of_mem→G_,head?_eq_none_iff→ab1,isEmpty_iff→SD,length→qa,length_append→dY,length_cons→iu,length_drop→sm,length_filter_le→Aq,length_map→aZ,length_nil→vB,length_pos_iff→Rk,length_pos_of_mem→W3,length_range→rP,length_set→aaa,length_singleton→w1,length_take→gD,lookup→oW,lookup_cons→jT,map→rq,map_append→eZ,map_congr_left→zS,map_cons→er,map_map→m6,map_nil→p6,map_take→Q8,mem_append→eG,mem_append_left→rz,mem_append_right→jP,mem_cons→eJ,mem_cons_of_mem→hM,mem_cons_self→l6,mem_filter→iY,mem_filterMap→acU,mem_flatten→HM,mem_iff_getElem→W_,mem_map→bK,mem_of_getElem?→cC,mem_of_mem_drop→aeg,mem_of_mem_take→qu,mem_or_eq_of_mem_set→KG,mem_range→qg,mem_singleton→d8,nil_append→wk,nodup_append→wV,nodup_cons→o2,nodup_nil→Bi,not_mem_nil→qw,of_mem_zip→J9,pairwise_iff_getElem→XA,pairwise_singleton→acm,perm_append_comm→UW,perm_middle→Us,range→gx,range_succ→uI,replicate→Kn,reverse_cons→XS,set_cons_succ→kG,set_cons_zero→kp,size_toArray→gQ,sublist_flatten_of_mem→Yp,sum_cons→Pm,take_add_one→pf,take_append_drop→Ki,take_length→hB,take_of_length_le→QK,take_zero→oJ
open List.Pairwise renaming imp_of_mem→ako,nil→ad1
open List.Perm renaming append_left→ab2
open List.cons renaming inj→uU
open Nat renaming le_of_eq→Xt,le_of_lt→nF,le_refl→cn,le_succ→E6,le_trans→c_,log2_lt→agm,lt_irrefl→nv,lt_of_le_of_lt→gW,lt_of_lt_of_le→hC,lt_succ_self→Dz,lt_trans→M_,min_eq_left→Kp,ne_of_gt→KX,ne_of_lt→gv,reduceAdd→af4,reduceSub→Uo,sub_zero→agI,succ_le_succ→Wf,succ_mul→VG,toDigits→tx,zero_le→fi
open Ne renaming symm→dW
open Option renaming bind_some→vz,getD_none→ahW,isSome_iff_exists→acq,isSome_map→acL,map_eq_some_iff→vr,map_some→Aa,none→tR,toList→B2
open Option.some renaming inj→d1
open Or renaming inl→pq,inr→mG
open Prod.mk renaming inj→Pk
open PyProof.Rows renaming callWith_builtin1→aj2,callWith_type1→K6,iadd_int→ak7,slot_tuple_getitem→P',split_weight→adl
open PySem renaming Within→Gn,call→Tv,mem_of_lookup→t5
open PySem.Around renaming frames_deeper→Vo,under→Qh,under_plainId→Sk
open PySem.Builtin.Builtins renaming bindParams→acS
open PySem.Builtin.Dict renaming dictSlotNone→akG,showsAll→ahp
open PySem.Builtin.Dict_items renaming ownsTuple→adm
open PySem.Builtin.List renaming listTooLong→M'
open PySem.Builtin.Range renaming rangeSize→aiK
open PySem.Builtin.Slice renaming sliceAdjust→Pn,sliceApplied→adk,sliceFields→akA,slicePartIndex→ajZ,slicePlaces→Ij
open PySem.Builtin.Str renaming occurrences→qI,partsBetween→Uz,strKind→adY
open PySem.Builtin.Tuple renaming tupleExact→JF,tupleItemsOf→ajP
open PySem.Calls renaming Name_function_global→aaE,callWith_builtin→Pb,evalArgs_plain→P9,spliced_cons→Cj,spliced_nil→MP
open PySem.CmpOp renaming NotIn→abr
open PySem.Code renaming frames→abA,isFrame→Qz
open PySem.Data renaming fields→agb
open PySem.EqMixed renaming eq_bool_str→aj',eq_int_str→aje,eq_str_bool→alo,eq_str_int→als,ne_bool_str→aku,ne_int_str→ai2,ne_str_bool→ak9,ne_str_int→akZ
open PySem.EqNone renaming eq_bool_none→aly,eq_int_none→ai4,eq_none_bool→alm,eq_none_int→ajC,eq_none_none→akS,eq_none_str→aiN,eq_str_none→ajd,ne_bool_none→alf,ne_int_none→aj7,ne_none_bool→akw,ne_none_int→akg,ne_none_none→alj,ne_none_str→ajb,ne_str_none→ajh
open PySem.F renaming args_dict_keyiterator_next_1→aiG,args_dict_pop_3→To,args_str_split_2→Sq,entry_dict_keyiterator_next→WA,entry_dict_pop→aiv,entry_min_loop→K0,entry_str_split→P5,plainAttrs_dict→agR,plainAttrs_list→iW,plainAttrs_str→tv,plain_min_loop→sF,slot_dict_getitem→ahm,slot_dict_iter→Um,slot_dict_keyiterator_next→xD,slot_dict_pop→E_,slot_list_append→lh,slot_list_extend→B',slot_list_insert→JG,slot_str_join→xR,slot_str_split→Bl,type_dict_pop→Ua,type_list_append→mi,type_list_extend→OF,type_list_insert→L5,type_str_join→BW,type_str_split→aiq
open PySem.Heap renaming SameBut→vb,get?_push_of_some→eU,get?_push_size→hI,get?_update_other→vA,lt_size→es,size_push→N8
open PySem.Heap.IsSliceOf renaming new→ajr
open PySem.Heap.SameBut renaming update→ad3
open PySem.NameKind renaming cell→QM,free→pS
open PySem.NumText renaming digitsVal→Lh
open PySem.Obj renaming data_mapFields→ahR,mapFields→Vr,mapSeq→u_
open PySem.Paired renaming length→EN,snoc→KR
open PySem.PassesOwn renaming never→fH
open PySem.SeqAt renaming EqAt→V8
open PySem.SeqAt.EqAt renaming int_str→ah2,str_int→U5
open PySem.Str renaming cps_append→n8,join→dS,length→tM,ofString→ab
open PySem.StrLaws renaming glued_eq_join→uN,sliceText→sq
open PySem.Txt renaming join→oU,slice→lp,slice_le→tA,split→il
open PySem.Value renaming bool→kj,bytes→ab0,float→adq,int→od,isInt→XI,isStrOf→WO,none→rI,ref→fC,str→vM,type→ais
open PySem.W renaming CodeHd→pE,Frag→ba,callWith_K→EY,callWith_K0→Vb,cellsFrom_some→ahs,clsIn→aak,codeHdIn→Vn,codeIn→Lk,emptyDict→pO,envX→ER,findCls→aaF,findIn→dp,fnOf→u4,handedIn→Xq,hasDictIn→B4,instObj→qT,isFn→J4,keepIn→qV,kla_fn→ab_,kla_obj→vE,lookIn→C_,makesIn→acF,methodCall_KW→CG,methodObj→NZ,mroIn→Du,noTabs→adL,plainGet→Fp,plainGet_of→OA,plainOver→V0,readsIn→Vy,specialIn→sf,tabObj→Mk,takerIn→Nl,takesIn→CR,typeIn→U4
open PySem.W.KIN renaming signs_num→Vm
open PySem.W.Looks renaming here→ajc
open PySem.W.WData renaming int→Tg
open PySem.W.WShape renaming has→aes
open PySem.Walks renaming list→Bt
open PySem.Within renaming cons→ajg
open Sum renaming inl→qr,inr→bY
open Sum.inr renaming inj→p'
open True renaming intro→kO
namespace L2
open PySem PySem.Spec PyProof.Rows
noncomputable abbrev Key:=Sum Int Str
noncomputable def t_:Key->Value->Bool
 | .inl k,v=>XI k v
 | .inr x,v=>WO x v
noncomputable def acn (w:World):Key->Int
 | .inl k=>hashInt k
 | .inr x=>hashStr w x
theorem n2:∀ {k:Key} {v:Value},t_ k v=true->(∃ i t,k=qr i/\v=od i t)\/(∃ x t,k=bY x/\v=vM x t)
 | .inl i,v,h=>by
  obtain ⟨t,e⟩:=Value.isInt_shape (k:=i) (v:=v) h;exact .inl ⟨i,t,rfl,e⟩
 | .inr x,v,h=>by
  obtain ⟨t,e⟩:=Value.isStrOf_shape (x:=x) (v:=v) h;exact .inr ⟨x,t,rfl,e⟩
theorem ZC (i:Int) (t:Tok):t_ (.inl i) (.int i t)=true:=by simp [t_,XI]
theorem abR (x:Str) (t:Tok):t_ (.inr x) (.str x t)=true:=by simp [t_,WO]
theorem aaA (a b:Int):decide ((qr a:Key)=qr b)=(a == b):=by
 by_cases e:a=b
 .subst e;simp
 .have h:¬ (qr a:Key)=qr b:=fun q=>e (Sum.inl.inj q)
  rw [decide_eq_false h];exact (beq_eq_false_iff_ne.mpr e).symm
theorem VF (a b:Str):decide ((bY a:Key)=bY b)=decide (a=b):=by
 by_cases e:a=b
 .subst e;simp
 .have h:¬ (bY a:Key)=bY b:=fun q=>e (p' q)
  rw [decide_eq_false h,decide_eq_false e]
theorem VK (a:Int) (b:Str):decide ((qr a:Key)=bY b)=false:=decide_eq_false (fun q=>nomatch q)
theorem adH (a:Str) (b:Int):decide ((bY a:Key)=qr b)=false:=decide_eq_false (fun q=>nomatch q)
noncomputable def re (prog:Program) (w:World):PySem.KeyKind prog w Key where
 is:=t_
 hash:=acn w
 inj:=fun v a b aS aa=>by
  rcases n2 aS with ⟨i,t,rfl,rfl⟩ | ⟨x,t,rfl,rfl⟩
  .rcases n2 aa with ⟨j,u,rfl,e⟩ | ⟨y,u,rfl,e⟩
   .injection e with au _;rw [au]
   .exact nomatch e
  .rcases n2 aa with ⟨j,u,rfl,e⟩ | ⟨y,u,rfl,e⟩
   .exact nomatch e
   .injection e with au _;rw [au]
 byValue:=fun k v h=>by
  rcases n2 h with ⟨i,t,rfl,rfl⟩ | ⟨x,t,rfl,rfl⟩ <;> rfl
 pyHash:=fun aI h=>by
  rcases n2 aI with ⟨i,t,rfl,rfl⟩ | ⟨x,t,rfl,rfl⟩
  .exact wpAny_pyHash_int h
  .exact wpAny_pyHash_str h
 eqBool:=fun bx aI h=>by
  rcases n2 bx with ⟨i,t,rfl,rfl⟩ | ⟨x,t,rfl,rfl⟩
  .rcases n2 aI with ⟨j,u,rfl,rfl⟩ | ⟨y,u,rfl,rfl⟩
   .rw [aaA] at h;exact wpAny_eqBool_int h
   .rw [VK] at h;exact ah2 i t y u _ _ _ _ h
  .rcases n2 aI with ⟨j,u,rfl,rfl⟩ | ⟨y,u,rfl,rfl⟩
   .rw [adH] at h;exact U5 x t j u _ _ _ _ h
   .rw [VF] at h;exact wpAny_eqBool_str h
 «strs»:=fun k x t v h=>by
  rcases n2 h with ⟨i,u,rfl,e⟩ | ⟨y,u,rfl,e⟩
  .exact nomatch e
  .injection e with au _;subst au;cases v <;> rfl
theorem aeq (prog:Program) (w:World) (i:Int) (t:Tok):(re prog w).is (.inl i) (.int i t)=true:=ZC i t
theorem ac3 (prog:Program) (w:World) (x:Str) (t:Tok):(re prog w).is (.inr x) (.str x t)=true:=abR x t
inductive V where
 | b6 | bk (b:Bool) | int (i:Int) | str (x:Str) | kH (b:Array UInt8) | sa (b:UInt64) | ref (a:Addr) | ty (n:String)
 deriving DecidableEq
noncomputable def bI:V->Value->Prop
 | .b6,u=>u=rI
 | .bk b,u=>u=kj b
 | .int i,u=>∃ t,u=od i t
 | .str x,u=>∃ t,u=vM x t
 | .kH b,u=>∃ t,u=ab0 b t
 | .sa b,u=>∃ t,u=adq b t
 | .ref a,u=>u=fC a
 | .ty n,u=>u=ais n
noncomputable abbrev b8:List V->List Value->Prop:=Paired bI
theorem b8.length (r:b8 xs us):xs.length=us.length:=EN r
theorem b8.get:∀ {xs:List V} {us:List Value} {i:Nat} {x:V},b8 xs us->xs[i]? = some x->∃ u,us[i]? = some u/\bI x u
 | _,_,_,_,.nil,e=>by simp at e
 | _,_,0,_,.cons r _,e=>by simp at e;subst e;exact ⟨_,rfl,r⟩
 | _,_,i + 1,x,.cons _ t,e=>by
  obtain ⟨u,af,ak⟩:=b8.get (i:=i) (x:=x) t (by simpa using e);exact ⟨u,by simpa using af,ak⟩
theorem b8.set {x:V} (r:bI x u):∀ {xs:List V} {us:List Value} (i:Nat),b8 xs us->b8 (xs.set i x) (us.set i u)
 | _,_,_,.nil=>.nil
 | _,_,0,.cons _ t=>.cons r t
 | _,_,i + 1,.cons q t=>.cons q (b8.set r i t)
theorem b8.append:∀ {xs ys:List V} {us ws:List Value},b8 xs us->b8 ys ws->b8 (xs ++ ys) (us ++ ws)
 | _,_,_,_,.nil,s=>s
 | _,_,_,_,.cons r t,s=>.cons r (b8.append t s)
theorem b8.take:∀ {xs:List V} {us:List Value} (n:Nat),b8 xs us->b8 (xs.take n) (us.take n)
 | _,_,0,_=>.nil
 | _,_,_ + 1,.nil=>.nil
 | _,_,n + 1,.cons r t=>.cons r (b8.take n t)
theorem b8.drop:∀ {xs:List V} {us:List Value} (n:Nat),b8 xs us->b8 (xs.drop n) (us.drop n)
 | _,_,0,r=>r
 | _,_,_ + 1,.nil=>.nil
 | _,_,n + 1,.cons _ t=>b8.drop n t
theorem b8.none_of:∀ {xs:List V} {us:List Value} {i:Nat},b8 xs us->xs[i]? = none->us[i]? = none:=fun {xs us i} r e=>by
 have af:=r.length;have ak:xs.length <= i:=I2.mp e;exact I2.mpr (by omega)
noncomputable def hF:Option V->Option Value->Prop
 | some v,some u=>bI v u
 | none,none=>True
 | _,_=>False
noncomputable def en {ek:Type}:List (ek × V)->List (ek × Value)->Prop:=Paired fun (p:ek × V) (q:ek × Value)=>p.1=q.1/\bI p.2 q.2
noncomputable def dz:Key->V
 | .inl i=>.int i
 | .inr x=>.str x
inductive gj where
  | lst (xs:List V)
  | tup (xs:List V)
  | bu (kvs:List (Key × V)) | fL (kvs:List (List Key × V))
  | set (S:Int->Bool) (n:Nat)
  | ins (C aq:Addr) (aN:List (Str × V))
  | own (x:Addr)
  | BP (aN:List (Str × V))
  | met (f x:Addr)
  | y8 (lo ag:Int)
  | eM (o:Obj) (u:gj)
  | gL (ps:Array Value)
  | ext (sr:Heap->Prop)
noncomputable abbrev ar:=Addr->Option gj
noncomputable def upd (H:ar) (a:Addr) (o:gj):ar:=fun b=>if b=a then some o else H b
theorem aV:upd H a o a=some o:=by unfold upd;rw [if_pos rfl]
theorem aE (h:b ≠ a):upd H a o b=H b:=by unfold upd;rw [if_neg h]
theorem r_:upd (upd H a o) a u=upd H a u:=by
 funext b;unfold upd;split <;> rfl
theorem bZ {H:ar} {a b:Addr} {o u:gj} (h:H a=some o) (h':H b=some u) (d:o ≠ u):a ≠ b:=by
 intro e;subst e;rw [h] at h';exact d (d1 h')
theorem dy {H:ar} {a b:Addr} {o:gj} (h:H a=some o) (h':H b=none):a ≠ b:=by
 intro e;subst e;rw [h] at h';cases h'
section
variable (P:Program) (w:World)
noncomputable def ed (H:ar) (h:Heap) (a:Addr):gj->Prop
 | .lst xs=>xs.length <= sizeLine/\∃ (a':List Value) (n:Nat),b8 xs a'/\h.get? a=some { cls:=.type "list",data:=.seq a'.toArray n }
 | .tup xs=>xs.length <= sizeLine/\∃ a':List Value,b8 xs a'/\IsTup h a a'.toArray
 | .bu kvs=>kvs.length <= sizeLine/\(a == sysModules)=false/\∃ vs,en kvs vs/\h.DictOf (re P w) a vs
 | .fL kvs=>kvs.length <= sizeLine/\(a == sysModules)=false/\∃ xs:List (List Key × Addr × Value),
   Paired (fun (p:List Key × V) (q:List Key × Addr × Value)=>p.1=q.1/\H q.2.1=some (.tup (p.1.map dz))/\bI p.2 q.2.2) kvs xs /\
   ∃ o a3 cG,h.get? a=some o/\o.ExactDict/\o.data=.dict a3 cG/\a3.toList=xs.map (entryOfKey (tupleKind (re P w)))/\(xs.map (·.1)).Nodup
 | .set S n=>h.SetOf (intKind P w) a S n
 | .ins C aq aN=>H aq=some (.own a)/\aN.length <= 1000/\aq ≠ a/\h.get? a=some (qT C aq) /\
   ∃ dR,h.Ns1 aq dR/\(∀ f,hF (aN.lookup f) (dR f))/\Gn dR (aN.map (·.1))
 | .own _=>∃ o,h.get? a=some o
 | .BP aN=>∃ dR,h.Ns1 a dR/\∀ f,hF (aN.lookup f) (dR f)
 | .y8 lo ag=>∃ t u v,h.get? a=some { cls:=.type "range",data:=.fields #[.int lo t,.int ag u,.int 1 v] }
 | .eM o u=>h.get? a=some o/\ed H h a u
 | .gL ps=>h.get? a=some { cls:=.none,data:=.fields ps }
 | .met f x=>h.get? a=some (NZ (.ref f) (.ref x))
 | .ext sr=>sr h/\(∃ o,h.get? a=some o)/\∀ af ak:Heap,sr af->(∀ o,af.get? a=some o->ak.get? a=some o)->sr ak
def et (H:ar) (h:Heap):Prop:=∀ a o,H a=some o->ed P w H h a o
end
section
variable {P:Program} {w:World} {H I:ar} {h h':Heap} {a:Addr} {o:gj}
theorem ed.lt (x:ed P w H h a o):a < h.objs.size:=by
 cases o with
 | lst xs=>obtain ⟨_,_,_,_,e⟩:=x;exact es e
 | tup xs=>obtain ⟨_,_,_,p⟩:=x;exact p.lt
 | bu kvs=>obtain ⟨_,_,_,_,o,_,_,e,_⟩:=x;exact es e
 | fL kvs=>obtain ⟨_,_,_,_,o,_,_,e,_⟩:=x;exact es e
 | set S n=>obtain ⟨o,_,_,_,e,_⟩:=x;exact es e
 | ins C aq aN=>obtain ⟨_,_,_,e,_⟩:=x;exact es e
 | own y=>obtain ⟨_,e⟩:=x;exact es e
 | BP aN=>obtain ⟨_,⟨_,_,_,e,_⟩,_⟩:=x;exact es e
 | y8 lo ag=>obtain ⟨_,_,_,e⟩:=x;exact es e
 | eM b0 u=>obtain ⟨e,_⟩:=x;exact es e
 | gL ps=>exact es (show h.get? a=some _ from x)
 | met f y=>exact es (show h.get? a=some _ from x)
 | ext sr=>obtain ⟨_,⟨_,e⟩,_⟩:=x;exact es e
theorem Paired.qv:∀ {l₁:List α} {l₂:List β},Paired F l₁ l₂->(∀ a b,F a b->G a b)->Paired G l₁ l₂
 | _,_,.nil,_=>.nil
 | _,_,.cons r t,f=>.cons (f _ _ r) (Paired.qv t f)
theorem ed.kU (x:ed P w H h a o) (k:∀ b u,(b=a\/H b=some (.own a))->h.get? b=some u->h'.get? b=some u)
  (aY:∀ b,H b=some (.own a)->I b=some (.own a)) (cq:∀ b xs,H b=some (.tup xs)->I b=some (.tup xs)):ed P w I h' a o:=by
 induction o with
 | lst xs=>obtain ⟨z,a',n,r,e⟩:=x;exact ⟨z,a',n,r,k _ _ (.inl rfl) e⟩
 | tup xs=>obtain ⟨z,a',r,b0,e,c⟩:=x;exact ⟨z,a',r,b0,k _ _ (.inl rfl) e,c⟩
 | bu kvs=>obtain ⟨z,y,vs,r,b0,a3,cG,e,c⟩:=x;exact ⟨z,y,vs,r,b0,a3,cG,k _ _ (.inl rfl) e,c⟩
 | fL kvs=>
  obtain ⟨z,y,xs,r,b0,a3,cG,e,c⟩:=x;exact ⟨z,y,xs,Paired.qv r fun p q z=>⟨z.1,cq _ _ z.2.1,z.2.2⟩,b0,a3,cG,k _ _ (.inl rfl) e,c⟩
 | set S n=>obtain ⟨b0,a3,cG,t,e,c⟩:=x;exact ⟨b0,a3,cG,t,k _ _ (.inl rfl) e,c⟩
 | ins C aq aN=>
  obtain ⟨d,z,ne,e,dR,⟨dn,a3,cG,aH,c⟩,r⟩:=x;exact ⟨aY _ d,z,ne,k _ _ (.inl rfl) e,dR,⟨dn,a3,cG,k _ _ (.inr d) aH,c⟩,r⟩
 | own y=>obtain ⟨b0,e⟩:=x;exact ⟨b0,k _ _ (.inl rfl) e⟩
 | BP aN=>obtain ⟨dR,⟨dn,a3,cG,e,c⟩,r⟩:=x;exact ⟨dR,⟨dn,a3,cG,k _ _ (.inl rfl) e,c⟩,r⟩
 | y8 lo ag=>obtain ⟨t,u,v,e⟩:=x;exact ⟨t,u,v,k _ _ (.inl rfl) e⟩
 | eM b0 u b4=>obtain ⟨e,q⟩:=x;exact ⟨k _ _ (.inl rfl) e,b4 q⟩
 | gL ps=>
  have e:h.get? a=some { cls:=.none,data:=.fields ps }:=x;show h'.get? a=some { cls:=.none,data:=.fields ps };exact k a _ (.inl rfl) e
 | met f y=>
  have e:h.get? a=some (NZ (.ref f) (.ref y)):=x;show h'.get? a=some (NZ (.ref f) (.ref y));exact k a _ (.inl rfl) e
 | ext sr=>obtain ⟨p,⟨o,e⟩,st⟩:=x;exact ⟨st _ _ p fun o q=>k _ _ (.inl rfl) q,⟨o,k _ _ (.inl rfl) e⟩,st⟩
theorem et.lt (x:et P w H h) (e:H a=some o):a < h.objs.size:=(x a o e).lt
theorem et.fresh (x:et P w H h) (e:h.objs.size <= a):H a=none:=by
 cases q:H a with
 | none=>rfl
 | some u=>exact absurd (hC (x.lt q) e) (nv _)
theorem et.kept (x:et P w H h) (k:∀ b u,h.get? b=some u->h'.get? b=some u):et P w H h':=fun a o e=>
 (x a o e).kU (fun b u _ q=>k b u q) (fun _ q=>q) fun _ _ q=>q
theorem et.laid (x:et P w H h) (k:∀ b u,h.get? b=some u->h'.get? b=some u) (ax:h.objs.size <= a) (new:ed P w (upd H a o) h' a o):et P w (upd H a o) h':=fun b u e=>by
 have a4:=x.fresh ax;by_cases aa:b=a
 .subst aa;rw [aV] at e;cases e;exact new
 .rw [aE aa] at e;exact (x b u e).kU (fun c v _ q=>k c v q) (fun c q=>by rw [aE (dy q a4)];exact q) fun c xs q=>by rw [aE (dy q a4)];exact q
end
def i3 (H:ar) (a:Addr) (u:gj):Prop:=H a=some u\/∃ o,H a=some (.eM o u)
theorem i3.of (h:H a=some u):i3 H a u:=.inl h
theorem i3.ok {w:World} {h:Heap} (r:i3 H a u) (x:et P w H h):ed P w H h a u:=by
 rcases r with r | ⟨o,r⟩
 .exact x a u r
 .obtain ⟨_,q⟩:=x a _ r;exact q
noncomputable def n4:Option gj->Prop
 | some (.lst _)=>True
 | some (.bu _)=>True
 | some (.fL _)=>True
 | some (.set _ _)=>True
 | some (.ins _ _ _)=>True
 | some (.ext _)=>True
 | _=>False
section
variable {P:Program} {w:World} {H:ar} {h h':Heap} {x e:Addr} {dZ:gj}
theorem et.write (ok:et P w H h) (f6:n4 (H x)) (he:e=x\/H e=some (.own x)) (k:∀ b u,b ≠ e->h.get? b=some u->h'.get? b=some u) (sd:∃ u,h'.get? e=some u)
  (new:ed P w (upd H x dZ) h' x dZ):et P w (upd H x dZ) h':=fun b u q=>by
 have vQ:∀ c y,H c=some (.own y)->c ≠ x:=fun c y r z=>by subst z;rw [r] at f6;exact f6
 have H0:∀ c xs,H c=some (.tup xs)->c ≠ x:=fun c xs r z=>by subst z;rw [r] at f6;exact f6
 by_cases aa:b=x
 .subst aa;rw [aV] at q;cases q;exact new
 .rw [aE aa] at q;by_cases rT:b=e
  .have e9:H b=some (.own x):=by
    rcases he with z | z
    .exact absurd (rT.trans z) aa
    .rw [rT];exact z
   rw [q] at e9;cases e9;obtain ⟨v,aI⟩:=sd;exact ⟨v,by rw [rT];exact aI⟩
  .refine (ok b u q).kU (fun c v ay r=>k c v ?_ r) (fun c r=>by rw [aE (vQ c b r)];exact r) fun c xs r=>by rw [aE (H0 c xs r)];exact r
   rcases ay with rfl | ay
   .exact rT
   .rintro rfl;rcases he with z | z
    .exact vQ c b ay z
    .rw [ay] at z;cases z;exact aa rfl
end
structure eY (aN ex:List Addr) (H I:ar) (h h':Heap):Prop where
 keep:∀ b o,h.get? b=some o->H b=none->b ∉ aN->b ∉ ex->h'.get? b=some o
 slot:∀ b o,h.get? b=some o->H b=none->b ∈ aN->b ∉ ex->∃ bS,h'.get? b=some { o with slots:=bS }
 free:∀ b o,h.get? b=some o->H b=none->b ∉ ex->I b=none
 there:∀ b o,h.get? b=some o->b ∉ ex->∃ dZ,h'.get? b=some dZ
 kY:∀ b xs,H b=some (.tup xs)->I b=some (.tup xs)
 jz:∀ b o u,H b=some (.eM o u)->I b=some (.eM o u)
 ku:∀ b ps,H b=some (.gL ps)->∃ more,I b=some (.gL (ps ++ more))
section
variable {aN mc ex RL:List Addr} {H H1 aw:ar} {h af ak h':Heap} {a x e:Addr} {o:gj}
theorem eY.any (u:eY aN ex H H1 h af) (q:h.get? b=some b0) (n:H b=none) (ah:b ∉ ex):∃ bS,af.get? b=some { b0 with slots:=bS }:=by
 by_cases aa:b ∈ aN
 .exact u.slot b b0 q n aa ah
 .exact ⟨b0.slots,u.keep b b0 q n aa ah⟩
theorem eY.trans (a:eY aN ex H H1 h af) (b:eY aN ex H1 aw af ak):eY aN ex H aw h ak where
 keep:=fun c b0 q n ay ah=>b.keep c b0 (a.keep c b0 q n ay ah) (a.free c b0 q n ah) ay ah
 slot:=fun c b0 q n ay ah=>by
  obtain ⟨bS,au⟩:=a.slot c b0 q n ay ah;obtain ⟨Im,aH⟩:=b.slot c _ au (a.free c b0 q n ah) ay ah;exact ⟨Im,aH⟩
 free:=fun c b0 q n ah=>by
  obtain ⟨dZ,au⟩:=a.there c b0 q ah;exact b.free c dZ au (a.free c b0 q n ah) ah
 there:=fun c b0 q ah=>by
  obtain ⟨dZ,au⟩:=a.there c b0 q ah;exact b.there c dZ au ah
 kY:=fun c xs q=>b.kY c xs (a.kY c xs q)
 jz:=fun c b0 xs q=>b.jz c b0 xs (a.jz c b0 xs q)
 ku:=fun c ps q=>by
  obtain ⟨hR,au⟩:=a.ku c ps q;obtain ⟨iy,aH⟩:=b.ku c _ au;exact ⟨hR ++ iy,by rw [aH,YV]⟩
theorem eY.kept (k:∀ b u,h.get? b=some u->h'.get? b=some u):eY aN ex H H h h':=
 ⟨fun b b0 q _ _ _=>k b b0 q,fun b b0 q _ _ _=>⟨b0.slots,k b b0 q⟩,fun _ _ _ n _=>n,fun b b0 q _=>⟨b0,k b b0 q⟩,fun _ _ q=>q,fun _ _ _ q=>q,fun _ ps q=>⟨#[],by rw [q];simp⟩⟩
theorem eY.refl:eY aN ex H H h h:=eY.kept fun _ _ q=>q
theorem eY.laid (k:∀ b u,h.get? b=some u->h'.get? b=some u) (ax:h.objs.size <= a) (a4:H a=none):eY aN ex H (upd H a o) h h' where
 keep:=fun b u q _ _ _=>k b u q
 slot:=fun b u q _ _ _=>⟨u.slots,k b u q⟩
 free:=fun b u q n _=>by rw [aE (gv (hC (es q) ax))];exact n
 there:=fun b u q _=>⟨u,k b u q⟩
 kY:=fun b xs q=>by rw [aE (dy q a4)];exact q
 jz:=fun b u xs q=>by rw [aE (dy q a4)];exact q
 ku:=fun b ps q=>⟨#[],by rw [aE (dy q a4),q];simp⟩
theorem eY.write (f6:n4 (H x)) (he:e=x\/H e=some (.own x)) (k:∀ b u,b ≠ e->h.get? b=some u->h'.get? b=some u) (sd:∃ u,h'.get? e=some u):eY aN ex H (upd H x o) h h':=by
 have ah:∀ b,H b=none->b ≠ x:=fun b n z=>by subst z;rw [n] at f6;exact f6
 have aa:∀ b,H b=none->b ≠ e:=fun b n z=>by
  subst z;rcases he with r | r
  .exact ah b n r
  .rw [n] at r;cases r
 have hm:∀ b u,H b=some u->¬ n4 (some u)->b ≠ x:=fun b u q nm z=>by subst z;rw [q] at f6;exact nm f6
 refine ⟨fun b u q n _ _=>k b u (aa b n) q,fun b u q n _ _=>⟨u.slots,k b u (aa b n) q⟩,fun b u q n _=>by rw [aE (ah b n)];exact n,fun b u q _=>?_,
  fun b xs q=>by rw [aE (hm b _ q fun z=>z)];exact q,fun b u xs q=>by rw [aE (hm b _ q fun z=>z)];exact q,fun b ps q=>⟨#[],by rw [aE (hm b _ q fun z=>z),q];simp⟩⟩
 by_cases rT:b=e
 .subst rT;exact sd
 .exact ⟨u,k b u rT q⟩
theorem eY.mono (u:eY aN ex H H1 h af) (av:∀ b ∈ aN,b ∈ mc) (ah:∀ b ∈ ex,b ∈ RL):eY mc RL H H1 h af:=
 ⟨fun b b0 q n aa he=>u.keep b b0 q n (fun z=>aa (av b z)) fun z=>he (ah b z),fun _ _ q n _ he=>u.any q n fun z=>he (ah _ z),fun b b0 q n he=>u.free b b0 q n fun z=>he (ah b z),fun b b0 q he=>u.there b b0 q fun z=>he (ah b z),u.kY,u.jz,u.ku⟩
end
noncomputable def AS (h:Heap) (H:ar):List Addr:=(gx h.objs.size).filter fun a=>(H a).isSome
noncomputable def mz (h:Heap) (H:ar):Heap:=PySem.W.hideAll h (AS h H)
theorem ahV (h:Heap) (H:ar):(mz h H).objs.size=h.objs.size:=PySem.W.hideAll_size _ _
theorem Ix {h:Heap} (e:h.get? b=some o) (n:H b=none):(mz h H).get? b=some o:=
 PySem.W.hideAll_get _ e fun hm=>by
  have q:(H b).isSome=true:=(iY.mp hm).2;rw [n] at q;simp at q
theorem afX {h:Heap} (e:(mz h H).get? b=some o):h.get? b=some o/\H b=none:=by
 have bT:h.get? b=some o:=PySem.W.of_hideAll (AS h H) e;refine ⟨bT,?_⟩;cases q:H b with
 | none=>rfl
 | some x=>
  have hm:b ∈ AS h H:=iY.mpr ⟨qg.mpr (es bT),by simp [q]⟩;have z:(mz h H).get? b=none:=PySem.W.hideAll_none (AS h H) hm;rw [z] at e;cases e
noncomputable def U6 (g h:Heap) (L:Addr):List (Addr × Obj):=(gx h.objs.size).filterMap fun a=>if a=L\/(g.get? a).isSome=true then none else (h.get? a).map fun o=>(a,o)
noncomputable def kC (g h:Heap) (L d:Addr):List (Addr × Obj):=(U6 g h L).filter fun p=>decide (p.1 ≠ d)
structure Mod (K:ba) (mg:Str->Option Value) (base:Heap):Prop where
 sN:K.In base
 glob:base.Ns mainGlobals mg
 blt:∃ lN,base.Ns builtinsNs lN/\∀ x:Str,x ≠ "__name__" -> lN x=bootBuiltins x
 nolimit:base.NoLimit
structure a7 where
 prog:Program
 w:World
 K:ba
 mg:Str->Option Value
 base:Heap
 A:Around
 N:List Str
 fk:Shared
 qm:ar
 env:Env
 outer:List Env
 stack:List Env
 ex:List Addr
 fn:Str->Bool
 calm:Bool
 dN:List (Addr × Obj)
 dK:Value->Shared->Prop
noncomputable def lu (l:List Env):List Addr:=l.filterMap (·.frame)
noncomputable abbrev a7.aN (X:a7):List Addr:=lu X.outer
def yg (sc:Scope) (x:Str):Prop:=sc.names.lookup x=some .local\/sc.names.lookup x=some .cell\/sc.names.lookup x=some .free
def Loc (sc:Scope) (x:Str):Prop:=sc.names.lookup x=some .local\/sc.names.lookup x=some .cell
def adP (env:Env) (h:Heap) (m:Str->Option Value) (x:Str) (u:Value):Prop:=
 (env.kindOf x=some .local/\m x=some u)\/((env.kindOf x=some .cell\/env.kindOf x=some .free)/\∃ c,env.cells.lookup x=some c/\h.IsCell c (some u))
structure a7.Ok (X:a7):Prop where
 mod:Mod X.K X.mg X.base
 kind:X.env.scope.kind=.function
 glob:X.env.globals=mainGlobals
 blt:X.env.builtins=builtinsNs
 above:X.fk.heap.objs.size <= X.env.locals
 inj:∀ x y c,X.env.cells.lookup x=some c->X.env.cells.lookup y=some c->x=y
 has:∀ x,(X.env.kindOf x=some .cell\/X.env.kindOf x=some .free)->∃ c,X.env.cells.lookup x=some c
 p1:∀ x c,X.fn x=true->X.env.cells.lookup x=some c->X.fk.heap.objs.size <= c
 hd:X.calm=true->X.A.handled=none
 frames:X.A.frames=some X.stack
 q4:X.stack=X.outer\/(X.stack=X.env :: X.outer/\X.env.frame=some X.env.locals)
 wO:∀ b ∈ X.ex,b ≠ X.env.locals/\∀ x c,X.env.cells.lookup x=some c->c ≠ b
 bs:∀ b o,X.base.get? b=some o->X.fk.heap.get? b=some o/\X.qm b=none
 jW:X.base.objs.size <= X.fk.heap.objs.size
 pT:∀ b o,X.base.get? b=some o->b ∉ X.ex
 pA:∀ b ∈ X.ex,b ∉ X.aN
 jJ:X.fk.heap.FunFrames X.base X.outer
 mS:∀ b ∈ X.aN,X.qm b=none
structure Inv (X:a7) (ae:List (Addr × Obj)) (σ:List (Option V)) (H:ar) (s:Shared):Prop where
 ok:X.Ok
 os:s.os=X.fk.os
 bare:AllBare s.gens
 base:eY X.aN X.ex X.qm H X.fk.heap s.heap
 loc:∃ m,s.heap.Ns X.env.locals m/\∀ (i:Nat) (x:Str) (v:V),X.N[i]? = some x->σ[i]? = some (some v)->yg X.env.scope x->∃ u,bI v u/\adP X.env s.heap m x u
 cell:∀ x c,X.env.cells.lookup x=some c->∃ v,s.heap.IsCell c v
 free:H X.env.locals=none
 i4:∀ x c,X.env.cells.lookup x=some c->H c=none
 pin:∀ p ∈ X.dN ++ ae,s.heap.get? p.1=some p.2/\H p.1=none/\p.1 ≠ X.env.locals/\p.1 ∉ X.aN/\∀ v,p.2.data ≠ .cell v
 bl:et X.prog X.w H s.heap
 len:σ.length=X.N.length
section
variable {X:a7} {ae:List (Addr × Obj)} {σ:List (Option V)} {H I:ar} {s:Shared} {h':Heap}
theorem a7.Ok.Qv (ok:X.Ok) (e:X.base.get? b=some o):b ∉ X.aN:=fun aa=>by
 have:=(ok.jJ.mem aa).1;rw [e] at this;cases this
theorem Inv.bs (J:Inv X ae σ H s):∀ b o,X.base.get? b=some o->s.heap.get? b=some o/\H b=none:=fun b o e=>
 ⟨J.base.keep b o (J.ok.bs b o e).1 (J.ok.bs b o e).2 (J.ok.Qv e) (J.ok.pT b o e),J.base.free b o (J.ok.bs b o e).1 (J.ok.bs b o e).2 (J.ok.pT b o e)⟩
theorem Inv.cw (J:Inv X ae σ H s):∀ b o,X.base.get? b=some o->s.heap.get? b=some o:=fun b o e=>(J.bs b o e).1
theorem Inv.mod (J:Inv X ae σ H s):Mod X.K X.mg X.base:=J.ok.mod
theorem Inv.iV (J:Inv X ae σ H s):X.K.In s.heap:=J.ok.mod.sN.keeps J.cw
theorem Inv.nolimit (J:Inv X ae σ H s):s.heap.NoLimit:=J.ok.mod.nolimit.keeps J.cw
theorem Inv.fr (J:Inv X ae σ H s):∃ m,Fr X.base X.env.locals s.heap m:=
 let ⟨m,a4,_⟩:=J.loc
 ⟨m,a4,J.cw,c_ J.ok.jW J.ok.above⟩
theorem Inv.lt (J:Inv X ae σ H s):X.env.locals < s.heap.objs.size:=let ⟨_,a4,_⟩:=J.loc;a4.lt
theorem Inv.m' (J:Inv X ae σ H s):X.fk.heap.objs.size <= s.heap.objs.size:=c_ J.ok.above (nF J.lt)
theorem Inv.Jd (J:Inv X ae σ H s) (h:s.heap.objs.size <= a):a ∉ X.aN:=fun aa=>by
 obtain ⟨_,o,aY,_⟩:=J.ok.jJ.mem aa;exact absurd (hC (es aY) (c_ J.m' h)) (nv _)
theorem Inv.qY (J:Inv X ae σ H s):∀ x c,X.env.cells.lookup x=some c->c ≠ X.env.locals:=fun x c e z=>by
 obtain ⟨v,o,aY,hd⟩:=J.cell x c e;obtain ⟨m,⟨dZ,a3,cG,pL,FV,_⟩,_⟩:=J.loc;rw [z,pL] at aY;cases aY;rw [FV] at hd;cases hd
theorem Inv.jJ (J:Inv X ae σ H s):s.heap.FunFrames X.base X.outer:=by
 have all:∀ (l:List Env),(∀ b ∈ lu l,b ∈ X.aN)->X.fk.heap.FunFrames X.base l->s.heap.FunFrames X.base l:=by
  intro l
  induction l with
  | nil=>intro _ _;trivial
  | cons env r b4=>
   intro av aL;obtain ⟨az,⟨L,o,hf,a4,aY,hd⟩,ao⟩:=aL;have eB:L ∈ X.aN:=av L (by unfold lu;rw [RO,hf];exact l6);obtain ⟨bS,e⟩:=J.base.slot L o aY (J.ok.mS L eB) eB fun z=>J.ok.pA L z eB
   exact ⟨az,⟨L,_,hf,a4,e,hd⟩,b4 (fun b aa=>av b (by unfold lu;rw [RO,hf];exact hM _ aa)) ao⟩
 exact all X.outer (fun _ aa=>aa) J.ok.jJ
theorem Inv.stack (J:Inv X ae σ H s):s.heap.FunFrames X.base X.stack:=by
 rcases J.ok.q4 with e | ⟨e,hf⟩
 .rw [e];exact J.jJ
 .rw [e];obtain ⟨m,a4,_⟩:=J.loc;refine .cons (by rw [J.ok.kind];decide) hf a4 ?_ J.jJ;exact Heap.get?_none_of_le (c_ J.ok.jW J.ok.above)
theorem Inv.ye (J:Inv X ae σ H s):∀ b ∈ lu X.stack,b ∈ X.env.locals :: X.aN:=fun b aa=>by
 rcases J.ok.q4 with e | ⟨e,hf⟩
 .rw [e] at aa;exact hM _ aa
 .rw [e] at aa;unfold lu at aa;rw [RO,hf] at aa;exact aa
theorem Inv.IP (J:Inv X ae σ H s):∀ b ∈ lu X.stack,H b=none:=fun b aa=>by
 rcases eJ.mp (J.ye b aa) with e | aa
 .rw [e];exact J.free
 .obtain ⟨_,o,aY,_⟩:=J.ok.jJ.mem aa;exact J.base.free b o aY (J.ok.mS b aa) fun z=>J.ok.pA b z aa
theorem Inv.step {g':Array GenState} {t':Nat} {d':Drawn} {ch:List Addr} (J:Inv X ae σ H s)
  (hn:∀ b ∈ ch,(b ∈ X.ex\/X.fk.heap.objs.size <= b)/\b ≠ X.env.locals/\(∀ x c,X.env.cells.lookup x=some c->c ≠ b)/\∀ p ∈ X.dN ++ ae,p.1 ≠ b)
  (keep:∀ b o,b ≠ X.env.locals->b ∉ X.aN->b ∉ ch->s.heap.get? b=some o->H b=none->h'.get? b=some o)
  (slot:∀ b o,b ≠ X.env.locals->b ∈ X.aN->b ∉ ch->s.heap.get? b=some o->H b=none->∃ bS,h'.get? b=some { o with slots:=bS }) (free:∀ b o,b ∉ ch->s.heap.get? b=some o->H b=none->I b=none)
  (there:∀ b o,b ∉ ch->s.heap.get? b=some o->∃ dZ,h'.get? b=some dZ)
  (kY:∀ b xs,H b=some (.tup xs)->I b=some (.tup xs)) (jz:∀ b o u,H b=some (.eM o u)->I b=some (.eM o u)) (ku:∀ b ps,H b=some (.gL ps)->∃ more,I b=some (.gL (ps ++ more)))
  (ns:∀ m,s.heap.Ns X.env.locals m->h'.Ns X.env.locals m) (bl:et X.prog X.w I h') (aQ:AllBare g') :
  Inv X ae σ I { s with heap:=h',gens:=g',drawn:=d',toks:=t' }:=by
 have Li:∀ b o,X.fk.heap.get? b=some o->b ≠ X.env.locals:=fun b o e=>gv (hC (es e) J.ok.above)
 have BM:∀ b o,X.fk.heap.get? b=some o->b ∉ X.ex->b ∉ ch:=fun b o e ah aa=>by
  rcases (hn b aa).1 with z | z
  .exact ah z
  .exact absurd (hC (es e) z) (nv _)
 have cellK:∀ x c,X.env.cells.lookup x=some c->∀ v,s.heap.IsCell c v->h'.IsCell c v:=fun x c e v ⟨o,aY,hd⟩=>by
  have vw:c ∉ ch:=fun z=>(hn c z).2.2.1 x c e rfl
  by_cases ay:c ∈ X.aN
  .obtain ⟨bS,q⟩:=slot c o (J.qY x c e) ay vw aY (J.i4 x c e);exact ⟨_,q,hd⟩
  .exact ⟨o,keep c o (J.qY x c e) ay vw aY (J.i4 x c e),hd⟩
 refine ⟨J.ok,J.os,aQ,⟨fun b o e n aa ah=>?_,fun b o e n aa ah=>?_,fun b o e n ah=>?_,fun b o e ah=>?_,fun b xs e=>kY b xs (J.base.kY b xs e),fun b o xs e=>jz b o xs (J.base.jz b o xs e),fun b ps e=>?_⟩,?_,fun x c e=>?_,?_,fun x c e=>?_,fun p ax=>?_,bl,J.len⟩
 .exact keep b o (Li b o e) aa (BM b o e ah) (J.base.keep b o e n aa ah) (J.base.free b o e n ah)
 .obtain ⟨bS,au⟩:=J.base.slot b o e n aa ah;obtain ⟨Im,aH⟩:=slot b _ (Li b o e) aa (BM b o e ah) au (J.base.free b o e n ah);exact ⟨Im,aH⟩
 .obtain ⟨dZ,au⟩:=J.base.there b o e ah;exact free b dZ (BM b o e ah) au (J.base.free b o e n ah)
 .obtain ⟨dZ,au⟩:=J.base.there b o e ah;exact there b dZ (BM b o e ah) au
 .obtain ⟨hR,au⟩:=J.base.ku b ps e;obtain ⟨iy,aH⟩:=ku b _ au;exact ⟨hR ++ iy,by rw [aH,YV]⟩
 .obtain ⟨m,a4,aL⟩:=J.loc;refine ⟨m,ns m a4,fun i x v au aH bX=>?_⟩;obtain ⟨u,r,l⟩:=aL i x v au aH bX;refine ⟨u,r,?_⟩;rcases l with l | ⟨k,c,e,z⟩
  .exact .inl l
  .exact .inr ⟨k,c,e,cellK x c e _ z⟩
 .obtain ⟨v,z⟩:=J.cell x c e;exact ⟨v,cellK x c e v z⟩
 .obtain ⟨m,⟨o,_,_,aY,_⟩,_⟩:=J.loc;exact free _ o (fun z=>(hn _ z).2.1 rfl) aY J.free
 .obtain ⟨v,o,aY,hd⟩:=J.cell x c e;exact free c o (fun z=>(hn c z).2.2.1 x c e rfl) aY (J.i4 x c e)
 .obtain ⟨e,n,ne,hK,d⟩:=J.pin p ax;have vw:p.1 ∉ ch:=fun z=>(hn p.1 z).2.2.2 p ax rfl
  exact ⟨keep p.1 p.2 ne hK vw e n,free p.1 p.2 vw e n,ne,hK,d⟩
theorem Inv.un {t':Nat} (J:Inv X ae σ H s) (u:eY X.aN [] H I s.heap h') (bl:et X.prog X.w I h'):Inv X ae σ I { s with heap:=h',toks:=t' }:=by
 obtain ⟨m,⟨o,a3,cG,aY,r⟩,_⟩:=id J.loc;obtain ⟨bS,eB⟩:=u.any aY J.free (by simp);exact J.step (g':=s.gens) (d':=s.drawn) (ch:=[]) (fun _ z=>nomatch z) (fun b o _ aa _ e n=>u.keep b o e n aa (by simp)) (fun b o _ aa _ e n=>u.slot b o e n aa (by simp)) (fun b o _ e n=>u.free b o e n (by simp)) (fun b o _ e=>u.there b o e (by simp)) u.kY u.jz u.ku (fun dm hm=>by
  obtain ⟨dZ,Ce,D7,pL,ei⟩:=hm;rw [aY] at pL;cases pL;exact ⟨_,Ce,D7,eB,ei⟩) bl J.bare
theorem Inv.call {g':Array GenState} {t':Nat} {d':Drawn} {ch:List Addr} (J:Inv X ae σ H s) (u:eY (lu X.stack) ch H I s.heap h') (bl:et X.prog X.w I h') (aQ:AllBare g')
  (hn:∀ b ∈ ch,(b ∈ X.ex\/X.fk.heap.objs.size <= b)/\b ≠ X.env.locals/\(∀ x c,X.env.cells.lookup x=some c->c ≠ b)/\∀ p ∈ X.dN ++ ae,p.1 ≠ b) :
  Inv X ae σ I { s with heap:=h',gens:=g',drawn:=d',toks:=t' }:=by
 obtain ⟨m,⟨o,a3,cG,aY,r⟩,_⟩:=id J.loc;obtain ⟨bS,eB⟩:=u.any aY J.free fun z=>(hn _ z).2.1 rfl
 exact J.step (ch:=ch) hn (fun b o eB aa ay e n=>u.keep b o e n (fun z=>(eJ.mp (J.ye b z)).elim eB aa) ay) (fun b o _ _ ay e n=>u.any e n ay) (fun b o ay e n=>u.free b o e n ay) (fun b o ay e=>u.there b o e ay) u.kY u.jz u.ku (fun dm hm=>by
  obtain ⟨dZ,Ce,D7,pL,ei⟩:=hm;rw [aY] at pL;cases pL;exact ⟨_,Ce,D7,eB,ei⟩) bl aQ
theorem Inv.turned {t':Nat} {it:Addr} (J:Inv X ae σ H s) (k:∀ b o,b ≠ it->s.heap.get? b=some o->h'.get? b=some o) (a4:H it=none) (eB:it ≠ X.env.locals)
  (af:it ∈ X.ex\/X.fk.heap.objs.size <= it) (ak:∀ x c,X.env.cells.lookup x=some c->c ≠ it) (a9:∀ p ∈ X.dN ++ ae,p.1 ≠ it):Inv X ae σ H { s with heap:=h',toks:=t' }:=by
 have w6:∀ b u,H b=some u->b ≠ it:=fun b u e z=>by rw [z,a4] at e;cases e
 refine J.step (g':=s.gens) (d':=s.drawn) (ch:=[it]) (fun b aa=>?_) (fun b o _ _ ay e _=>k b o (fun z=>ay (by simp [z])) e) (fun b o _ _ ay e _=>⟨o.slots,k b o (fun z=>ay (by simp [z])) e⟩) (fun _ _ _ _ n=>n)
  (fun b o ay e=>⟨o,k b o (fun z=>ay (by simp [z])) e⟩) (fun _ _ e=>e) (fun _ _ _ e=>e) (fun b ps e=>⟨#[],by rw [e];simp⟩) (fun m hm=>?_) (fun b u e=>?_) J.bare
 .have e:b=it:=by simpa using aa
  subst e;exact ⟨af,eB,ak,a9⟩
 .obtain ⟨o,a3,cG,aY,r⟩:=hm;exact ⟨o,a3,cG,k _ o (dW eB) aY,r⟩
 .refine (J.bl b u e).kU (fun c v ay q=>k c v ?_ q) (fun _ q=>q) fun _ _ q=>q
  rcases ay with z | z
  .rw [z];exact w6 b u e
  .exact w6 c _ z
theorem Inv.tok (J:Inv X ae σ H s) (t:Nat):Inv X ae σ H { s with toks:=t }:=J.un (h':=s.heap) (t':=t) eY.refl J.bl
theorem Inv.kept (J:Inv X ae σ H s) (k:∀ b u,s.heap.get? b=some u->h'.get? b=some u):Inv X ae σ H { s with heap:=h',toks:=t' }:=J.un (eY.kept k) (J.bl.kept k)
theorem Inv.laid (J:Inv X ae σ H s) (k:∀ b u,s.heap.get? b=some u->h'.get? b=some u) (ax:s.heap.objs.size <= a) (new:ed X.prog X.w (upd H a o) h' a o) :
  Inv X ae σ (upd H a o) { s with heap:=h',toks:=t' }:=J.un (eY.laid k ax (J.bl.fresh ax)) (J.bl.laid k ax new)
theorem Inv.write {x e:Addr} {o:gj} {t':Nat} (J:Inv X ae σ H s) (f6:n4 (H x)) (he:e=x\/H e=some (.own x)) (k:∀ b u,b ≠ e->s.heap.get? b=some u->h'.get? b=some u) (sd:∃ u,h'.get? e=some u)
  (new:ed X.prog X.w (upd H x o) h' x o):Inv X ae σ (upd H x o) { s with heap:=h',toks:=t' }:=J.un (eY.write f6 he k sd) (J.bl.write f6 he k sd new)
theorem Inv.weak (J:Inv X ae σ H s) (aL:aB.length=σ.length) (w:∀ (i:Nat) v,aB[i]? = some (some v)->σ[i]? = some (some v)):Inv X ae aB H s:=
 ⟨J.ok,J.os,J.bare,J.base,let ⟨m,a4,yS⟩:=J.loc;⟨m,a4,fun i x v au aH bX=>yS i x v au (w i v aH) bX⟩,J.cell,J.free,J.i4,J.pin,J.bl,aL.trans J.len⟩
theorem Inv.rY (J:Inv X ae σ H s) (h:∀ p ∈ Ll,s.heap.get? p.1=some p.2/\H p.1=none/\p.1 ≠ X.env.locals/\p.1 ∉ X.aN/\∀ v,p.2.data ≠ .cell v):Inv X Ll σ H s:=
 ⟨J.ok,J.os,J.bare,J.base,J.loc,J.cell,J.free,J.i4,fun p ax=>(eG.mp ax).elim (fun z=>J.pin p (rz _ z)) (h p),J.bl,J.len⟩
theorem AC {N:List Str} (br:N.Nodup) {i j:Nat} {x:Str} (a:N[i]? = some x) (b:N[j]? = some x):i=j:=by
 obtain ⟨af,au⟩:=b'.mp a;obtain ⟨ak,aH⟩:=b'.mp b;exact (x2 br).mp (au.trans aH.symm)
theorem K1 {M:Model} {A:Around} {E:Value->Shared->Prop} {i:Nat} {x:Str} {v:V} {u:Value} {Q:Unit->Shared->Prop} (J:Inv X ae σ H s) (br:X.N.Nodup) (ag:X.N[i]? = some x) (ah:Loc X.env.scope x) (r:bI v u)
  (h:∀ ai,Inv X ae (σ.set i (some v)) H ai->(∃ a,vb a s.heap ai.heap/\(a=X.env.locals\/X.env.cells.lookup x=some a))->Q () ai) (hf:X.fn x=true\/X.env.scope.names.lookup x=some .local:=by first | exact .inl rfl | exact .inr rfl | assumption):wpAny M A (storeName X.env x u) Q E s:=by
 obtain ⟨m,a4,aL⟩:=id J.loc;have aga:(X.env.scope.kind == .class || (X.env.scope.kind == .module && X.env.locals != X.env.globals))=false:=by rw [J.ok.kind];rfl
 have Nw:i < σ.length:=by rw [J.len];exact (b'.mp ag).1
 have qY:=J.qY;have tracked:∀ {a:Addr} {h':Heap},(∃ o,s.heap.get? a=some o/\H a=none)->vb a s.heap h'->et X.prog X.w H h':=fun {a h'} aS av b b0 e=>by
  obtain ⟨_,_,QC⟩:=aS;refine (J.bl b b0 e).kU (fun c eN ay q=>(av.2 c ?_).trans q) (fun _ q=>q) fun _ _ q=>q
  rintro rfl;rcases ay with rfl | ay
  .rw [QC] at e;cases e
  .rw [QC] at ay;cases ay
 rcases ah with az | az
 .refine wpAny_storeName_local az a4 (fun h' adF av=>?_) aga;obtain ⟨abc,_,_,adU,_⟩:=id a4;refine h _ ⟨J.ok,J.os,J.bare,⟨fun b o e n aa ah=>?_,fun b o e n aa ah=>?_,J.base.free,fun b o e ah=>?_,J.base.kY,J.base.jz,J.base.ku⟩,⟨_,adF,fun j y Dh au aH bX=>?_⟩,fun y c e=>?_,J.free,J.i4,fun p ax=>?_,tracked ⟨abc,adU,J.free⟩ av,by simpa using J.len⟩ ⟨_,av,.inl rfl⟩
  .exact (av.2 b (gv (hC (es e) J.ok.above))).trans (J.base.keep b o e n aa ah)
  .obtain ⟨bS,au⟩:=J.base.slot b o e n aa ah;exact ⟨bS,(av.2 b (gv (hC (es e) J.ok.above))).trans au⟩
  .obtain ⟨dZ,au⟩:=J.base.there b o e ah;exact ⟨dZ,(av.2 b (gv (hC (es e) J.ok.above))).trans au⟩
  .by_cases aJ:j=i
   .subst aJ;rw [ag] at au;cases au;rw [LS Nw] at aH;cases aH;exact ⟨u,r,.inl ⟨az,by simp⟩⟩
   .rw [Cc (dW aJ)] at aH;obtain ⟨sh,ei,q⟩:=aL j y Dh au aH bX;refine ⟨sh,ei,?_⟩;rcases q with ⟨k,e⟩ | ⟨k,c,e,z⟩
    .refine .inl ⟨k,?_⟩;have:y ≠ x:=fun e=>aJ (AC br au (e ▸ ag))
     simp [this,e]
    .exact .inr ⟨k,c,e,z.sameBut av (qY y c e)⟩
  .obtain ⟨eN,z⟩:=J.cell y c e;exact ⟨eN,z.sameBut av (qY y c e)⟩
  .obtain ⟨e,n,ne,hK,d⟩:=J.pin p ax;exact ⟨(av.2 p.1 ne).trans e,n,ne,hK,d⟩
 .have JA:X.fn x=true:=by
   rcases hf with z | z
   .exact z
   .rw [z] at az;cases az
  obtain ⟨c,ay⟩:=J.ok.has x (.inl az);obtain ⟨eN,z⟩:=J.cell x c ay;refine wpAny_storeName_cell J.ok.kind az ay z (fun h' Bf av=>?_);obtain ⟨nf,rr,Xb⟩:=id z;refine h { s with heap:=h' } ⟨J.ok,J.os,J.bare,⟨fun b o e n aa ah=>?_,fun b o e n aa ah=>?_,J.base.free,fun b o e ah=>?_,J.base.kY,J.base.jz,J.base.ku⟩,⟨m,a4.sameBut av (dW (qY x c ay)),fun j y Dh au aH bX=>?_⟩,fun y c' e=>?_,J.free,J.i4,fun p ax=>?_,tracked ⟨nf,rr,J.i4 x c ay⟩ av,by simpa using J.len⟩ ⟨c,av,.inr ay⟩
  .exact (av.2 b (gv (hC (es e) (J.ok.p1 x c JA ay)))).trans (J.base.keep b o e n aa ah)
  .obtain ⟨bS,au⟩:=J.base.slot b o e n aa ah;exact ⟨bS,(av.2 b (gv (hC (es e) (J.ok.p1 x c JA ay)))).trans au⟩
  .obtain ⟨dZ,au⟩:=J.base.there b o e ah;exact ⟨dZ,(av.2 b (gv (hC (es e) (J.ok.p1 x c JA ay)))).trans au⟩
  .by_cases aJ:j=i
   .subst aJ;rw [ag] at au;cases au;rw [LS Nw] at aH;cases aH;exact ⟨u,r,.inr ⟨.inl az,c,ay,Bf⟩⟩
   .rw [Cc (dW aJ)] at aH;obtain ⟨sh,ei,q⟩:=aL j y Dh au aH bX;refine ⟨sh,ei,?_⟩;rcases q with q | ⟨k,c',e,ik⟩
    .exact .inl q
    .refine .inr ⟨k,c',e,ik.sameBut av ?_⟩;rintro rfl;exact aJ (AC br au (J.ok.inj _ _ _ e ay ▸ ag))
  .by_cases sy:c'=c
   .subst sy;exact ⟨_,Bf⟩
   .obtain ⟨eb,eS⟩:=J.cell y c' e;exact ⟨eb,eS.sameBut av sy⟩
  .obtain ⟨e,n,ne,hK,d⟩:=J.pin p ax;refine ⟨(av.2 p.1 ?_).trans e,n,ne,hK,d⟩;intro q;rw [q,rr] at e;have e9:nf=p.2:=d1 e;exact d eN (by rw [<- e9];exact Xb)
theorem Rn {A:Around} {x:Str} (J:Inv X ae σ H s) (br:X.N.Nodup) (ag:X.N[i]? = some x) (ah:Loc X.env.scope x) (r:bI v u)
  (h:∀ ai,Inv X ae (σ.set i (some v)) H ai->Q () ai) (hf:X.fn x=true\/X.env.scope.names.lookup x=some .local:=by first | exact .inl rfl | exact .inr rfl | assumption):wpAny M A (storeName X.env x u) Q E s:=
 K1 J br ag ah r (fun ai gS _=>h ai gS) hf
theorem Inv.acx (J:Inv X ae σ H s) (aY:ai.os=s.os) (u:eY (lu X.stack) ch H I s.heap ai.heap) (bl:et X.prog X.w I ai.heap) (aQ:AllBare ai.gens)
  (hn:∀ b ∈ ch,(b ∈ X.ex\/X.fk.heap.objs.size <= b)/\b ≠ X.env.locals/\(∀ x c,X.env.cells.lookup x=some c->c ≠ b)/\∀ p ∈ X.dN ++ ae,p.1 ≠ b):Inv X ae σ I ai:=by
 obtain ⟨h',g',d',t',dZ⟩:=ai;have e:dZ=s.os:=aY;subst e;exact J.call (g':=g') (t':=t') (d':=d') u bl aQ hn
end
noncomputable abbrev fS:=Value->Option Addr->ar->Prop
noncomputable abbrev St:=List (Option V)
noncomputable abbrev cX:=V->ar->Prop
noncomputable abbrev TE:=St->ar->cX->Prop
noncomputable abbrev TT:=St->ar->(Bool->ar->Prop)->Prop
noncomputable abbrev fE:=St->ar->(List V->ar->Prop)->Prop
structure g8 where
 cf:St->ar->Prop
 kK:cX
 cw:St->ar->Prop:=fun _ _=>False
 ez:St->ar->Prop:=fun _ _=>False
noncomputable abbrev d6:=g8->St->ar->Prop
def gJ (X:a7) (ae:List (Addr × Obj)) (σ:St) (Q:cX) (u:Value) (ai:Shared):Prop:=∃ v I,Inv X ae σ I ai/\bI v u/\Q v I
def yl (X:a7) (ae:List (Addr × Obj)) (σ:St) (Q:Bool->ar->Prop) (b:Bool) (ai:Shared):Prop:=∃ I,Inv X ae σ I ai/\Q b I
def Yu (X:a7) (ae:List (Addr × Obj)) (σ:St) (Q:List V->ar->Prop) (us:List Value) (ai:Shared):Prop:=∃ vs I,Inv X ae σ I ai/\b8 vs us/\Q vs I
def qK (X:a7) (ae:List (Addr × Obj)) (D:g8) (f:Flow) (ai:Shared):Prop:=
 match f with
 | .next=>∃ aB I,Inv X ae aB I ai/\D.cf aB I
 | .brk=>∃ aB I,Inv X ae aB I ai/\D.cw aB I
 | .cont=>∃ aB I,Inv X ae aB I ai/\D.ez aB I
 | .ret u=>∃ v aB I,Inv X ae aB I ai/\bI v u/\D.kK v I
def bq (X:a7) (e:Expr) (t:TE):Prop:=
 ∀ (ae:List (Addr × Obj)) (s:Shared) (σ:St) (H:ar) (Q:cX),Inv X ae σ H s->t σ H Q->wpAny (model X.prog X.w) X.A (eval e X.env) (gJ X ae σ Q) X.dK s
def iX (X:a7) (e:Expr) (t:TT):Prop:=
 ∀ (ae:List (Addr × Obj)) (s:Shared) (σ:St) (H:ar) (Q:Bool->ar->Prop),Inv X ae σ H s->t σ H Q->wpAny (model X.prog X.w) X.A (isTrue e X.env (eval e X.env)) (yl X ae σ Q) X.dK s
def fW (X:a7) (e:Expr) (t:TT):Prop:=
 ∀ (whole:Sem Value) (ae:List (Addr × Obj)) (s:Shared) (σ:St) (H:ar) (Q:Bool->ar->Prop),Inv X ae σ H s->t σ H Q->wpAny (model X.prog X.w) X.A (isTrue e X.env whole) (yl X ae σ Q) X.dK s
theorem fW.pt {e:Expr} {t:TT} (h:fW X e t):iX X e t:=h _
def jN (X:a7) (a3:List Expr) (t:fE):Prop:=
 ∀ (pos:Pos) (ae:List (Addr × Obj)) (s:Shared) (σ:St) (H:ar) (Q:List V->ar->Prop),Inv X ae σ H s->t σ H Q->wpAny (model X.prog X.w) X.A (spliced (backTo pos (starEach a3 X.env))) (Yu X ae σ Q) X.dK s
def hy (X:a7) (st:Stmt) (t:d6):Prop:=
 ∀ (ae:List (Addr × Obj)) (s:Shared) (σ:St) (H:ar) (D:g8),Inv X ae σ H s->t D σ H->wpAny (model X.prog X.w) X.A (exec st X.env) (qK X ae D) X.dK s
def kQ (X:a7) (st:List Stmt) (t:d6):Prop:=
 ∀ (ae:List (Addr × Obj)) (s:Shared) (σ:St) (H:ar) (D:g8),Inv X ae σ H s->t D σ H->wpAny (model X.prog X.w) X.A (execs st X.env) (qK X ae D) X.dK s
theorem bC {t:Sem α} {A:Around} (h:wpAny M A t Q E s) (aR:∀ a s,Q a s->gM a s):wpAny M A t gM E s:=wpAny_mono h aR fun _ _ x=>x
section
variable {X:a7}
noncomputable def q2 (H:ar) (Q:cX):Option (Option V)->Prop
 | some (some v)=>Q v H
 | _=>False
theorem Sa (H:ar) (Q:cX) (v:V):q2 H Q (some (some v))=Q v H:=rfl
theorem q2.out:∀ {o:Option (Option V)},q2 H Q o->∃ v,o=some (some v)/\Q v H
 | some (some v),h=>⟨v,rfl,h⟩
 | some none,h=>h.elim
 | none,h=>h.elim
theorem xL (H:ar) (Q:cX) (o:Option (Option V)):q2 H Q o = ∃ v,o=some (some v)/\Q v H:=propext ⟨q2.out,fun ⟨_,e,h⟩=>e ▸ h⟩
def gg (x:V) (k:Int->Prop):Prop:=match x with
 | .int i=>k i
 | _=>False
theorem PB (i:Int) (k:Int->Prop):gg (.int i) k=k i:=rfl
theorem gg.out {x:V} {k:Int->Prop} (h:gg x k):∃ i,x=.int i/\k i:=by
 cases x with
 | int i=>exact ⟨i,rfl,h⟩
 | _=>exact h.elim
theorem TU (x:V) (k:Int->Prop):gg x k = ∃ i,x=.int i/\k i:=propext ⟨gg.out,fun ⟨_,e,h⟩=>e ▸ h⟩
def jw (x:V) (k:Bool->Prop):Prop:=match x with
 | .bk i=>k i
 | _=>False
theorem K5 (i:Bool) (k:Bool->Prop):jw (.bk i) k=k i:=rfl
theorem jw.out {x:V} {k:Bool->Prop} (h:jw x k):∃ i,x=.bk i/\k i:=by
 cases x with
 | bk i=>exact ⟨i,rfl,h⟩
 | _=>exact h.elim
theorem aai (x:V) (k:Bool->Prop):jw x k = ∃ i,x=.bk i/\k i:=propext ⟨jw.out,fun ⟨_,e,h⟩=>e ▸ h⟩
def fe (x:V) (k:Addr->Prop):Prop:=match x with
 | .ref i=>k i
 | _=>False
theorem Ql (i:Addr) (k:Addr->Prop):fe (.ref i) k=k i:=rfl
theorem fe.out {x:V} {k:Addr->Prop} (h:fe x k):∃ i,x=.ref i/\k i:=by
 cases x with
 | ref i=>exact ⟨i,rfl,h⟩
 | _=>exact h.elim
theorem adW (x:V) (k:Addr->Prop):fe x k = ∃ i,x=.ref i/\k i:=propext ⟨fe.out,fun ⟨_,e,h⟩=>e ▸ h⟩
def lO (xs:List V) (k:V->Prop):Prop:=match xs with
 | [y]=>k y
 | _=>False
theorem Qw (y:V) (k:V->Prop):lO [y] k=k y:=rfl
theorem lO.out:∀ {xs:List V} {k:V->Prop},lO xs k->∃ y,xs=[y]/\k y
 | [y],_,h=>⟨y,rfl,h⟩
 | [],_,h=>h.elim
 | _ :: _ :: _,_,h=>h.elim
theorem adZ (xs:List V) (k:V->Prop):lO xs k = ∃ y,xs=[y]/\k y:=propext ⟨lO.out,fun ⟨_,e,h⟩=>e ▸ h⟩
noncomputable def Bq (i:Nat):TE:=fun σ H Q=>q2 H Q σ[i]?
noncomputable def rR (v:V):TE:=fun _ H Q=>Q v H
theorem abi {x:Str} (br:X.N[i]? = some x) (aI:yg X.env.scope x) (hd:(x == ("__debug__" : Str))=false:=by decide) (ki:(x == ("__classdict__" : Str))=false:=by decide):bq X (.Name x pos) (Bq i):=by
 intro ae s σ H Q J h;obtain ⟨v,e,h⟩:=q2.out h;obtain ⟨m,a4,aL⟩:=J.loc;obtain ⟨u,r,l⟩:=aL i x v br e aI;have fin:gJ X ae σ Q u s:=⟨v,H,J,r,h⟩;rcases l with ⟨az,hm⟩ | ⟨az,c,ay,yq⟩
 .exact wpAny_Name (wpAny_loadName_local J.ok.kind az a4 hm fin) hd
 .rcases az with az | az
  .exact wpAny_Name (wpAny_loadName_cell J.ok.kind az ay yq fin) hd
  .exact wpAny_Name (wpAny_loadName_free J.ok.kind az ay yq fin ki) hd
theorem aM {i j pos}:bq X (.Constant (.int i) j pos) (rR (.int i)):=fun _ _ _ H _ J h=>wpAny_Constant_int ⟨.int i,H,J.tok _,⟨_,rfl⟩,h⟩
theorem ju {b j pos}:bq X (.Constant (.bool b) j pos) (rR (.bk b)):=fun _ _ _ H _ J h=>Constant_bool ⟨.bk b,H,J,rfl,h⟩
theorem nX {j pos}:bq X (.Constant .none j pos) (rR .b6):=fun _ _ _ H _ J h=>Constant_none ⟨.b6,H,J,rfl,h⟩
theorem dh {x j pos}:bq X (.Constant (.str x) j pos) (rR (.str x)):=fun _ _ _ H _ J h=>Calls.Constant_str ⟨.str x,H,J.tok _,⟨_,rfl⟩,h⟩
def lS (X:a7) (x:Str):Prop:=X.env.kindOf x=some .globalImplicit
theorem y4 {x:Str} (J:Inv X ae σ H s) (aQ:lS X x) (hm:X.mg x=some u) (h:Q u s)
  (hd:(x == ("__debug__" : Str))=false:=by decide):wpAny (model X.prog X.w) X.A (eval (.Name x pos) X.env) Q E s:=
 aaE J.ok.kind aQ (Calls.loadGlobal_global (by rw [J.ok.glob];exact J.mod.glob.keeps J.cw) hm h) hd
theorem vK {x:Str} (J:Inv X ae σ H s) (aQ:lS X x) (hm:X.mg x=none) (aI:bootBuiltins x=some u) (h:Q u s)
  (a4:x ≠ "__name__" := by decide) (hd:(x == ("__debug__" : Str))=false:=by decide):wpAny (model X.prog X.w) X.A (eval (.Name x pos) X.env) Q E s:=by
 obtain ⟨lN,af,ak⟩:=J.mod.blt;exact aaE J.ok.kind aQ (Calls.loadGlobal_builtin (by rw [J.ok.glob];exact J.mod.glob.keeps J.cw) hm (by rw [J.ok.blt];exact af.keeps J.cw) ((ak x a4).trans aI) h) hd
theorem lA {x:Str} (aQ:lS X x) (hm:X.mg x=some u) (r:bI v u) (hd:(x == ("__debug__" : Str))=false:=by decide):bq X (.Name x pos) (rR v):=
 fun _ _ _ H _ J h=>y4 J aQ hm ⟨v,H,J,r,h⟩ hd
variable {a b:Expr} {a_ bP:TE} {pos:Pos}
def LI (X:a7) (op:CmpOp) (a b:Expr) (t:TE):Prop:=
 ∀ (ae:List (Addr × Obj)) (s:Shared) (σ:St) (H:ar) (Q:cX),Inv X ae σ H s->t σ H Q ->
  wpAny (model X.prog X.w) X.A (eval a X.env) (fun v dd=>wpAny (model X.prog X.w) X.A (eval b X.env) (fun u dP=>wpAny (model X.prog X.w) X.A (compareOp op v u) (gJ X ae σ Q) X.dK dP) X.dK dd) X.dK s
theorem W' (b:Expr) (h:op ≠ .In) (ak:op ≠ .NotIn):behindInMarks op b=false:=by
 have au:(op == CmpOp.In)=false:=by cases op <;> first | rfl | exact absurd rfl h
 have aH:(op == abr)=false:=by cases op <;> first | rfl | exact absurd rfl ak
 cases b <;> simp [behindInMarks,au,aH]
noncomputable def y1 (t:TE):TT:=fun σ H Q=>t σ H fun x H1=>jw x fun c=>Q c H1
theorem A8 {t:TE} (h:LI X op a b t) (af:behindInMarks op b=false:=by first | exact W' _ (by decide) (by decide) | rfl):iX X (.Compare a [op] [b] pos) (y1 t):=by
 intro ae s σ H Q J hw;refine wpAny_isTrue_Compare1 (bC (h ae s σ H _ J hw) fun v s1 af=>bC af fun u s2 ak=>bC ak fun c s3 bw=>?_) af;obtain ⟨x,H1,a5,cQ,bG⟩:=bw;obtain ⟨d,rfl,q⟩:=jw.out bG;cases cQ;exact wpAny_truthy_bool ⟨H1,a5,q⟩
theorem lY {e:Expr} {t:TE} (h:bq X e t) (he:∀ whole,isTrue e X.env whole=(do let v <- whole;standAt e.pos;holding [v] (truthy v)):=by intro _;rfl):iX X e (y1 t):=by
 intro ae s σ H Q J hw;refine isTrue_plain (bC (h ae s σ H _ J hw) fun v s1 bw=>?_) (he _);obtain ⟨x,H1,a5,cQ,bG⟩:=bw;obtain ⟨d,rfl,q⟩:=jw.out bG;cases cQ;exact wpAny_truthy_bool ⟨H1,a5,q⟩
variable {mf Az:TT} {kC:List Expr}
noncomputable def Cr (t u:TT):TT:=fun σ H Q=>t σ H fun c H1=>if c=true then u σ H1 Q else Q false H1
noncomputable def E0 (t u:TT):TT:=fun σ H Q=>t σ H fun c H1=>if c=true then Q true H1 else u σ H1 Q
noncomputable def DP (t:TT):TT:=fun σ H Q=>t σ H fun c H1=>Q (!c) H1
theorem kN (aS:iX X a mf):fW X (.BoolOp .And [a] pos) mf:=by
 intro xe ae s σ H Q J h;refine isTrue_and (bC (aS ae s σ H Q J h) fun c s1 e=>?_);cases c with
 | true=>exact isTrue_and_nil e
 | false=>exact e
theorem ti (aS:iX X a mf):fW X (.BoolOp .Or [a] pos) mf:=by
 intro xe ae s σ H Q J h;refine isTrue_or (bC (aS ae s σ H Q J h) fun c s1 e=>?_);cases c with
 | false=>exact isTrue_or_nil e
 | true=>exact e
theorem j0 (aS:iX X a mf) (aa:fW X (.BoolOp .And (b :: kC) pos) Az):fW X (.BoolOp .And (a :: b :: kC) pos) (Cr mf Az):=by
 intro xe ae s σ H Q J h;refine isTrue_and (bC (aS ae s σ H _ J h) fun c s1 bw=>?_);obtain ⟨H1,a5,bG⟩:=bw;cases c with
 | true=>exact aa xe ae s1 σ H1 Q a5 bG
 | false=>exact ⟨H1,a5,bG⟩
theorem rG (aS:iX X a mf) (aa:fW X (.BoolOp .Or (b :: kC) pos) Az):fW X (.BoolOp .Or (a :: b :: kC) pos) (E0 mf Az):=by
 intro xe ae s σ H Q J h;refine isTrue_or (bC (aS ae s σ H _ J h) fun c s1 bw=>?_);obtain ⟨H1,a5,bG⟩:=bw;cases c with
 | true=>exact ⟨H1,a5,bG⟩
 | false=>exact aa xe ae s1 σ H1 Q a5 bG
theorem qB (aS:iX X a mf):iX X (.UnaryOp .Not a pos) (DP mf):=by
 intro ae s σ H Q J h;exact isTrue_not (aS ae s σ H (fun c H1=>Q (!c) H1) J h)
noncomputable def Dq (a_ bP:TE):TE:=fun σ H Q=>a_ σ H fun x H1=>jw x fun c=>if c=true then bP σ H1 Q else Q (.bk false) H1
noncomputable def GC (a_ bP:TE):TE:=fun σ H Q=>a_ σ H fun x H1=>jw x fun c=>if c=true then Q (.bk true) H1 else bP σ H1 Q
noncomputable def C2 (a_:TE):TE:=fun σ H Q=>a_ σ H fun x H1=>jw x fun c=>Q (.bk (!c)) H1
theorem sV {op} {t:TE} (h:bq X a t):bq X (.BoolOp op [a] pos) t:=fun ae s σ H Q J hw=>BoolOp_one (h ae s σ H Q J hw)
theorem xd (aS:bq X a a_) (aa:bq X (.BoolOp .And (b :: kC) pos) bP):bq X (.BoolOp .And (a :: b :: kC) pos) (Dq a_ bP):=by
 intro ae s σ H Q J h;refine BoolOp_and (bC (aS ae s σ H _ J h) fun v s1 bw=>?_);obtain ⟨x,H1,a5,cQ,bG⟩:=bw;obtain ⟨c,rfl,gP⟩:=jw.out bG;cases cQ;refine wpAny_truthy_bool ?_;cases c with
 | true=>exact aa ae s1 σ H1 Q a5 gP
 | false=>exact ⟨.bk false,H1,a5,rfl,gP⟩
theorem KN (aS:bq X a a_) (aa:bq X (.BoolOp .Or (b :: kC) pos) bP):bq X (.BoolOp .Or (a :: b :: kC) pos) (GC a_ bP):=by
 intro ae s σ H Q J h;refine BoolOp_or (bC (aS ae s σ H _ J h) fun v s1 bw=>?_);obtain ⟨x,H1,a5,cQ,bG⟩:=bw;obtain ⟨c,rfl,gP⟩:=jw.out bG;cases cQ;refine wpAny_truthy_bool ?_;cases c with
 | false=>exact aa ae s1 σ H1 Q a5 gP
 | true=>exact ⟨.bk true,H1,a5,rfl,gP⟩
theorem Ob (aS:bq X a a_):bq X (.UnaryOp .Not a pos) (C2 a_):=by
 intro ae s σ H Q J h;refine UnaryOp_ (bC (aS ae s σ H _ J h) fun v s1 bw=>?_);obtain ⟨x,H1,a5,cQ,bG⟩:=bw;obtain ⟨c,rfl,gP⟩:=jw.out bG;cases cQ;exact not_of (wpAny_truthy_bool ⟨.bk (!c),H1,a5,rfl,gP⟩)
noncomputable def Co (t:TT) (a_ bP:TE):TE:=fun σ H Q=>t σ H fun c H1=>if c=true then a_ σ H1 Q else bP σ H1 Q
theorem tC (ay:iX X c mf) (aS:bq X a a_) (aa:bq X b bP):bq X (.IfExp c a b pos) (Co mf a_ bP):=by
 intro ae s σ H Q J h;refine wpAny_IfExp (bC (ay ae s σ H _ J h) fun d s1 bw=>?_);obtain ⟨H1,a5,bG⟩:=bw;cases d with
 | true=>exact aS ae s1 σ H1 Q a5 bG
 | false=>exact aa ae s1 σ H1 Q a5 bG
end
def aC (K:ba) (H:ar) (a:Addr) (xs:List V):Prop:=
 i3 H a (.lst xs) \/
  ∃ (o:Obj) (a':Array Value) (n:Nat),K.lookup a=some o/\o.cls=.type "list" /\ o.dict=none/\o.data=.seq a' n/\a'.size <= sizeLine/\b8 xs a'.toList
def di (K:ba) (H:ar) (a:Addr) (xs:List V):Prop:=
 i3 H a (.tup xs) \/
  ∃ (o:Obj) (a':Array Value) (n:Nat),K.lookup a=some o/\o.cls=.type "tuple" /\ o.data=.seq a' n/\a'.size <= sizeLine/\b8 xs a'.toList
noncomputable def aeE:Value->Option V
 | .none=>some .b6
 | .bool b=>some (.bk b)
 | .int i _=>some (.int i)
 | .str x _=>some (.str x)
 | .bytes b _=>some (.kH b)
 | .float b _=>some (.sa b)
 | .ref a=>some (.ref a)
 | .type n=>some (.ty n)
 | _=>none
theorem bI.abs {x:V} (r:bI x u):aeE u=some x:=by
 cases x with
 | b6=>cases r;rfl
 | bk _=>cases r;rfl
 | int _=>obtain ⟨t,rfl⟩:=r;rfl
 | str _=>obtain ⟨t,rfl⟩:=r;rfl
 | kH _=>obtain ⟨t,rfl⟩:=r;rfl
 | sa _=>obtain ⟨t,rfl⟩:=r;rfl
 | ref _=>cases r;rfl
 | ty _=>cases r;rfl
theorem bI.inj {x y:V} (r:bI x u) (q:bI y u):x=y:=d1 (r.abs.symm.trans q.abs)
theorem b8.inj:∀ {xs ys:List V} {us:List Value},b8 xs us->b8 ys us->xs=ys
 | _,_,_,.nil,.nil=>rfl
 | _,_,_,.cons r t,.cons ei t'=>by rw [r.inj ei,b8.inj t t']
section
variable {X:a7} {ae:List (Addr × Obj)} {σ:St} {H:ar} {s:Shared} {a:Addr} {xs ys:List V}
theorem aC.of {K:ba} (h:H a=some (.lst xs)):aC K H a xs:=.inl (.inl h)
theorem di.of {K:ba} (h:H a=some (.tup xs)):di K H a xs:=.inl (.inl h)
theorem Inv.list (J:Inv X ae σ H s) (h:aC X.K H a xs):∃ a':List Value,b8 xs a'/\PlainL s.heap a a'.toArray/\xs.length <= sizeLine:=by
 rcases h with h | ⟨o,a',n,az,ay,hd,av,aT,r⟩
 .obtain ⟨z,a',n,r,e⟩:=h.ok J.bl;exact ⟨a',r,⟨_,n,e,rfl,rfl,rfl⟩,z⟩
 .refine ⟨a'.toList,r,⟨o,n,J.iV a o az,ay,hd,by simpa using av⟩,?_⟩;have e:=r.length;simp only [G0] at e;omega
theorem Inv.tuple (J:Inv X ae σ H s) (h:di X.K H a xs):∃ a':List Value,b8 xs a'/\IsTup s.heap a a'.toArray/\xs.length <= sizeLine:=by
 rcases h with h | ⟨o,a',n,az,ay,av,aT,r⟩
 .obtain ⟨z,a',r,p⟩:=h.ok J.bl;exact ⟨a',r,p,z⟩
 .refine ⟨a'.toList,r,⟨o,J.iV a o az,ay,n,by simpa using av⟩,?_⟩;have e:=r.length;simp only [G0] at e;omega
theorem Inv.Aj (J:Inv X ae σ H s) (h:aC X.K H a xs) (h':aC X.K H a ys):xs=ys:=by
 obtain ⟨a',r,⟨o,n,e,_,_,d⟩,_⟩:=J.list h;obtain ⟨its',ei,⟨dZ,kE,bT,_,_,d'⟩,_⟩:=J.list h';rw [e] at bT;cases bT;rw [d] at d';injection d' with eg _;have:a'=its':=by simpa using congrArg Yx eg
 subst this;exact r.inj ei
theorem Inv.N6 (J:Inv X ae σ H s) (h:di X.K H a xs) (h':di X.K H a ys):xs=ys:=by
 obtain ⟨a',r,⟨o,e,_,n,d⟩,_⟩:=J.tuple h;obtain ⟨its',ei,⟨dZ,bT,_,kE,d'⟩,_⟩:=J.tuple h';rw [e] at bT;cases bT;rw [d] at d';injection d' with eg _;have:a'=its':=by simpa using congrArg Yx eg
 subst this;exact r.inj ei
end
noncomputable abbrev a7.ih (X:a7) (E:Value->Shared->Prop):a7:={ X with dK:=E }
noncomputable abbrev a7.kT (X:a7):a7:=X.ih fun _ _=>False
theorem a7.Ok.ih {X:a7} (ok:X.Ok) (E:Value->Shared->Prop):(X.ih E).Ok:=
 ⟨ok.mod,ok.kind,ok.glob,ok.blt,ok.above,ok.inj,ok.has,ok.p1,ok.hd,ok.frames,ok.q4,ok.wO,ok.bs,ok.jW,ok.pT,ok.pA,ok.jJ,ok.mS⟩
theorem a7.Ok.mU {X:a7} {E:Value->Shared->Prop} (ok:(X.ih E).Ok):X.Ok:=
 ⟨ok.mod,ok.kind,ok.glob,ok.blt,ok.above,ok.inj,ok.has,ok.p1,ok.hd,ok.frames,ok.q4,ok.wO,ok.bs,ok.jW,ok.pT,ok.pA,ok.jJ,ok.mS⟩
section
variable {X:a7} {ae:List (Addr × Obj)} {σ:St} {H:ar} {s:Shared} {E:Value->Shared->Prop}
theorem Inv.ih (J:Inv X ae σ H s) (E:Value->Shared->Prop):Inv (X.ih E) ae σ H s:=⟨J.ok.ih E,J.os,J.bare,J.base,J.loc,J.cell,J.free,J.i4,J.pin,J.bl,J.len⟩
theorem Inv.mU (J:Inv (X.ih E) ae σ H s):Inv X ae σ H s:=⟨J.ok.mU,J.os,J.bare,J.base,J.loc,J.cell,J.free,J.i4,J.pin,J.bl,J.len⟩
theorem qK.mU (h:qK (X.ih E) ae D f ai):qK X ae D f ai:=by
 cases f with
 | next=>obtain ⟨aB,I,J,q⟩:=h;exact ⟨aB,I,J.mU,q⟩
 | brk=>obtain ⟨aB,I,J,q⟩:=h;exact ⟨aB,I,J.mU,q⟩
 | cont=>obtain ⟨aB,I,J,q⟩:=h;exact ⟨aB,I,J.mU,q⟩
 | ret u=>obtain ⟨v,aB,I,J,r,q⟩:=h;exact ⟨v,aB,I,J.mU,r,q⟩
theorem bq.kT {e:Expr} {t:TE} (h:bq X.kT e t):bq X e t:=fun ae s σ H Q J hw=>
 wpAny_mono (h ae s σ H Q (J.ih _) hw) (fun _ _ ⟨v,I,gS,r,q⟩=>⟨v,I,gS.mU,r,q⟩) fun _ _ z=>iz z
theorem iX.kT {e:Expr} {t:TT} (h:iX X.kT e t):iX X e t:=fun ae s σ H Q J hw=>
 wpAny_mono (h ae s σ H Q (J.ih _) hw) (fun _ _ ⟨I,gS,q⟩=>⟨I,gS.mU,q⟩) fun _ _ z=>iz z
theorem kQ.kT {st:List Stmt} {t:d6} (h:kQ X.kT st t):kQ X st t:=fun ae s σ H D J hw=>
 wpAny_mono (h ae s σ H D (J.ih _) hw) (fun _ _ q=>q.mU) fun _ _ z=>iz z
end
section
variable {X:a7} {st:Stmt} {kC:List Stmt} {t u:d6} {e:Expr} {bL:TE} {pos:Pos}
noncomputable def i9:d6:=fun D σ H=>D.cf σ H
noncomputable def XW:Nat:=0
noncomputable def JE:Nat:=XW
noncomputable def Ky:Nat:=JE
noncomputable def zE:Nat:=Ky
noncomputable def aey:Nat:=zE
noncomputable def Zs:Nat:=aey
noncomputable def Ya:Nat:=Zs
noncomputable def adg:Nat:=Ya
noncomputable def Yl:Nat:=adg
noncomputable def VW:Nat:=Yl
noncomputable def Yf:Nat:=VW
noncomputable def XK:Nat:=Yf
noncomputable def ac6:Nat:=XK
noncomputable def IW (t u:d6):d6:=fun D σ H=>(fun _:Nat=>t { D with cf:=u D } σ H) ac6
theorem d2:kQ X [] i9:=fun _ _ σ H _ J h=>wpAny_execs_nil ⟨σ,H,J,h⟩
theorem db (af:hy X st t) (ak:kQ X kC u):kQ X (st :: kC) (IW t u):=by
 intro ae s σ H D J h;refine wpAny_execs_cons (bC (af ae s σ H { D with cf:=u D } J h) fun f s1 q=>?_);cases f with
 | next=>
  obtain ⟨aB,I,gS,q⟩:=q;exact ak ae s1 aB I D gS q
 | ret v=>exact q
 | brk=>exact q
 | cont=>exact q
theorem a6 (af:hy X st t):kQ X [st] t:=by
 intro ae s σ H D J h;refine wpAny_execs_cons (bC (af ae s σ H D J h) fun f s1 q=>?_);cases f with
 | next=>exact wpAny_execs_nil q
 | ret v=>exact q
 | brk=>exact q
 | cont=>exact q
noncomputable def Fm:d6:=fun D σ H=>D.ez σ H
theorem Jm:hy X (.Continue pos) Fm:=fun _ _ σ H _ J h=>wpAny_Continue ⟨σ,H,J,h⟩
theorem Inv.quiet (J:Inv X ae σ H s):interactive X.env=false:=by simp [interactive,J.ok.kind]
noncomputable def Hi (bL:TE):d6:=fun D σ H=>bL σ H fun _ H1=>D.cf σ H1
theorem eo (he:bq X e bL) (av:swapsWith e none pos.line X.env=pure false:=by rfl):hy X (.Expr e pos) (Hi bL):=by
 intro ae s σ H D J h;exact wpAny_Expr_any (bC (he ae s σ H _ J h) fun v s1 ⟨x,H1,a5,cQ,bG⟩=>⟨σ,H1,a5,bG⟩) J.quiet av
noncomputable def AK (bL:TE):d6:=fun D σ H=>bL σ H D.kK
theorem cg (he:bq X e bL):hy X (.Return (some e) pos) (AK bL):=by
 intro ae s σ H D J h;exact wpAny_Return_some (bC (he ae s σ H _ J h) fun v s1 ⟨x,H1,a5,cQ,bG⟩=>⟨x,σ,H1,a5,cQ,bG⟩)
noncomputable def Gw:d6:=fun D _ H=>D.kK .b6 H
theorem aec:hy X (.Return none pos) Gw:=fun _ _ σ H _ J h=>wpAny_Return_none ⟨.b6,σ,H,J,rfl,h⟩
noncomputable def CY (c:TT) (t u:d6):d6:=fun D σ H=>c σ H fun b H1=>if b=true then t D σ H1 else u D σ H1
theorem dI (ay:iX X c dj) (aS:kQ X a t) (aa:kQ X b u):hy X (.If c a b pos) (CY dj t u):=by
 intro ae s σ H D J h;refine wpAny_If (bC (ay ae s σ H _ J h) fun d s1 bw=>?_);obtain ⟨H1,a5,bG⟩:=bw;cases d with
 | true=>exact aS ae s1 σ H1 D a5 bG
 | false=>exact aa ae s1 σ H1 D a5 bG
noncomputable def Gz:d6:=fun _ _ _=>False
theorem nG:hy X st Gz:=fun _ _ _ _ _ _ h=>h.elim
end
noncomputable abbrev gw:=V->St->ar->(St->ar->Prop)->Prop
noncomputable abbrev ri:=List V->St->ar->(St->ar->Prop)->Prop
def mZ (X:a7) (wQ:Expr) (t:gw):Prop:=
 ∀ (ae:List (Addr × Obj)) (s:Shared) (σ:St) (H:ar) (v:V) (u:Value) (Q:St->ar->Prop),Inv X ae σ H s->bI v u->t v σ H Q ->
  wpAny (model X.prog X.w) X.A (assign wQ X.env u) (fun _ ai=>∃ aB I,Inv X ae aB I ai/\Q aB I) X.dK s
def wC (X:a7) (sX:List Expr) (t:ri):Prop:=
 ∀ (ae:List (Addr × Obj)) (s:Shared) (σ:St) (H:ar) (vs:List V) (us:List Value) (Q:St->ar->Prop),Inv X ae σ H s->b8 vs us->t vs σ H Q ->
  wpAny (model X.prog X.w) X.A (assignInOrder ((assignEach sX X.env).map (·.2)) us) (fun _ ai=>∃ aB I,Inv X ae aB I ai/\Q aB I) X.dK s
section
variable {X:a7} {pos:Pos}
noncomputable def gU (i:Nat):gw:=fun v σ H Q=>Q (σ.set i (some v)) H
theorem HF {x:Str} (br:X.N.Nodup) (ag:X.N[i]? = some x) (ah:Loc X.env.scope x) (hf:X.fn x=true\/X.env.scope.names.lookup x=some .local:=by first | exact .inl rfl | exact .inr rfl | assumption):mZ X (.Name x pos) (gU i):=by
 intro ae s σ H v u Q J r h;exact wpAny_assign_Name (Rn J br ag ah r (fun ai gS=>⟨_,H,gS,h⟩) hf)
noncomputable def wy:ri:=fun vs σ H Q=>vs=[]/\Q σ H
noncomputable def rn (t:gw) (u:ri):ri:=fun vs σ H Q=>∃ v r,vs=v :: r/\t v σ H fun aB I=>u r aB I Q
theorem Ch:wC X [] wy:=by
 intro ae s σ H vs us Q J r h;obtain ⟨e,h⟩:=h;subst e;cases r;exact assignInOrder_nil ⟨σ,H,J,h⟩
theorem fq {e:Expr} {t:gw} (af:mZ X e t) (ak:wC X a3 u)
  (av:(assignEach (e :: a3) X.env).map (·.2)=assign e X.env :: (assignEach a3 X.env).map (·.2):=by rfl):wC X (e :: a3) (rn t u):=by
 intro ae s σ H vs us Q J r h;obtain ⟨v,ajL,au,h⟩:=h;subst au;cases r with
 | cons r ru=>
  rw [av];refine assignInOrder_cons (bC (af ae s σ H _ _ _ J r h) fun _ s1 bw=>?_);obtain ⟨f_,H1,a5,bG⟩:=bw;exact ak ae s1 f_ H1 _ _ Q a5 ru bG
noncomputable def sP (K:ba) (n:Nat) (t:ri):gw:=fun v σ H Q=>∃ a xs,v=.ref a/\di K H a xs/\xs.length=n/\t xs σ H Q
theorem ahq {k:Nat} {t:ri} (ay:X.calm=true) (h:wC X a3 t)
  (a4:(assignEach a3 X.env).length=n:=by rfl) (d0:(assignEach a3 X.env).findIdx? (·.1)=none:=by rfl):mZ X (.Tuple a3 k pos) (sP X.K n t):=by
 intro ae s σ H v u Q J r hw;obtain ⟨a,xs,au,a0,aL,hw⟩:=hw;subst au;cases r;obtain ⟨a',cT,cq,aT⟩:=J.tuple a0;refine assign_Tuple_tuple (J.ok.hd ay) cq (by simp [a4,<- aL,cT.length]) d0 fun h' ah=>?_
 have a5:Inv X ae σ H { s with heap:=h' }:=J.kept (t':=s.toks) fun b o e=>ah b o (gv (es e)) e
 exact h ae _ σ H xs _ Q a5 (by simpa using cT) hw
noncomputable def sI (bL:TE) (g:gw):d6:=fun D σ H=>bL σ H fun x H1=>g x σ H1 D.cf
theorem Zz {da e:Expr} (he:bq X e bL) (aQ:mZ X da g) (av:swapsWithSole [da] e pos.line X.env=pure false:=by rfl) (hw:swappedStores [da] e X.env=pure none:=by rfl)
  (af:(assignEach [da] X.env).map (·.2)=[assign da X.env]:=by rfl):hy X (.Assign [da] e pos) (sI bL g):=by
 intro ae s σ H D J h;refine wpAny_Assign_stores (bC (he ae s σ H _ J h) fun v s1 bw=>?_) av hw;obtain ⟨x,H1,a5,cQ,bG⟩:=bw;rw [af];exact bC (aQ ae s1 σ H1 x v _ a5 cQ bG) fun _ s2 q=>q
theorem px {x:Str} {e:Expr} (br:X.N.Nodup) (ag:X.N[i]? = some x) (ah:Loc X.env.scope x) (he:bq X e bL) (av:swapsWith e (some (.Name x pos')) pos.line X.env=pure false:=by rfl) (hf:X.fn x=true\/X.env.scope.names.lookup x=some .local:=by first | exact .inl rfl | exact .inr rfl | assumption) :
  hy X (.Assign [.Name x pos'] e pos) (sI bL (gU i)):=by
 intro ae s σ H D J h;refine wpAny_Assign_Name (bC (he ae s σ H _ J h) fun v s1 bw=>?_) av;obtain ⟨y,H1,a5,cQ,bG⟩:=bw;exact Rn a5 br ag ah cQ (fun s2 bR=>⟨_,H1,bR,bG⟩) hf
noncomputable def OO (c:TT) (bP:d6):d6:=fun D σ H=>∃ W:Nat->St->ar->Prop,(∃ m,W m σ H)/\∀ m σ H,W m σ H ->
 c σ H fun b H1=>if b=true then ∃ N:St->ar->Prop,(∀ aB I,N aB I->∃ dm,dm < m/\W dm aB I)/\bP { D with cf:=N,ez:=N,cw:=D.cf } σ H1 else D.cf σ H1
theorem Vd (ax:PassesOwn (model X.prog X.w) X.A X.env X.dK) (ay:iX X c dj) (aa:kQ X body bP):hy X (.While c body [] pos) (OO dj bP):=by
 intro ae s σ H D J h;obtain ⟨W,⟨m0,m3⟩,turn⟩:=h;refine wpAny_While (codeAny_whileLoop (fun n ai=>∃ aB I,Inv X ae aB I ai/\W n aB I) ?_ m0 ⟨σ,H,J,m3⟩);rintro n s1 ⟨f_,H1,a5,dx⟩;refine wpAny_passesOwn ax (bC (ay ae s1 f_ H1 _ a5 (turn n f_ H1 dx)) fun b s2 bw=>?_);obtain ⟨aw,bR,dM⟩:=bw;cases b with
 | true=>
  obtain ⟨N,br,dM⟩:=dM;rw [if_pos rfl];refine wpAny_passesOwn ax (bC (aa ae s2 f_ aw _ bR dM) fun f s3 hZ=>?_);cases f with
  | next=>
   obtain ⟨gc,bf,eQ,dw⟩:=hZ;obtain ⟨dm,hm,hu⟩:=br gc bf dw;exact ⟨dm,hm,gc,bf,eQ,hu⟩
  | cont=>
   obtain ⟨gc,bf,eQ,dw⟩:=hZ;obtain ⟨dm,hm,hu⟩:=br gc bf dw;exact ⟨dm,hm,gc,bf,eQ,hu⟩
  | brk=>exact hZ
  | ret v=>exact hZ
 | false=>
  rw [if_neg fm];exact wpAny_execs_nil ⟨f_,aw,bR,dM⟩
end
structure ji where
 go:Nat->ar->Prop
 oL:Nat->ar->V->ar->Prop
 stop:Nat->ar->Prop
def jr (X:a7) (ae:List (Addr × Obj)) (H:ar) (b:Addr):Prop:=
 H b=none/\b ≠ X.env.locals/\b ∉ X.aN/\(b ∈ X.ex\/X.fk.heap.objs.size <= b)/\(∀ x c,X.env.cells.lookup x=some c->c ≠ b)/\∀ p ∈ X.dN ++ ae,p.1 ≠ b
theorem Inv.oX (J:Inv X ae σ H s) (aa:s.heap.objs.size <= b) (a4:I b=none):jr X ae I b:=by
 refine ⟨a4,KX (hC J.lt aa),J.Jd aa,.inr (c_ J.m' aa),fun x c e z=>?_,fun p ax z=>?_⟩
 .obtain ⟨v,q⟩:=J.cell x c e;exact absurd (hC q.lt (by rw [z];exact aa)) (nv _)
 .exact absurd (hC (es (J.pin p ax).1) (by rw [z];exact aa)) (nv _)
structure p8 (P:Program) (w:World) (K:ba) (da:Expr) (bF:ji) (bB:List Addr) (it:Addr) (dQ:Nat->Heap->Prop):Prop where
 mem:it ∈ bB
 obj:∀ i h,dQ i h->∀ b ∈ bB,∃ o,h.get? b=some o/\∀ v,o.data ≠ .cell v
 keep:∀ i h h',dQ i h->(∀ b ∈ bB,∀ o,h.get? b=some o->h'.get? b=some o)->dQ i h'
 item:∀ (X:a7),X.prog=P->X.w=w->X.K=K->X.calm=true->∀ (i:Nat) (ae:List (Addr × Obj)) (s:Shared) (σ:St) (H:ar) (E:Value->Shared->Prop),Inv X ae σ H s->(∀ b ∈ bB,jr X ae H b)->dQ i s.heap->bF.go i H ->
  wpAny (model P w) X.A (pyNext (.ref it)) (fun r s1=>∃ u,r=some u /\
   wpAny (model P w) X.A (letOwnedTupleGo da (.ref it) u) (fun _ s2=>∃ x I,Inv X ae σ I s2/\bI x u/\bF.oL i H x I/\dQ (i + 1) s2.heap/\∀ b ∈ bB,I b=none) E s1) E s
 done:∀ (X:a7),X.prog=P->X.w=w->X.K=K->X.calm=true->∀ (i:Nat) (ae:List (Addr × Obj)) (s:Shared) (σ:St) (H:ar) (E:Value->Shared->Prop),Inv X ae σ H s->(∀ b ∈ bB,jr X ae H b)->dQ i s.heap->bF.stop i H ->
  wpAny (model P w) X.A (pyNext (.ref it)) (fun r s1=>r=none/\Inv X ae σ H s1) E s
 self:∀ (A:Around) (i:Nat) (s:Shared) (Q:Value->Shared->Prop) (E:Value->Shared->Prop),dQ i s.heap->Q (.ref it) s->wpAny (model P w) A (pyIter (.ref it)) Q E s
noncomputable abbrev TI:=St->ar->(ji->ar->Prop)->Prop
def Ms (X:a7) (ae:List (Addr × Obj)) (σ:St) (da:Expr) (R:ji->ar->Prop) (x5:Value) (s2:Shared):Prop:=
 ∃ (it:Addr) (bB:List Addr) (dQ:Nat->Heap->Prop) (bF:ji) (I:ar),x5=.ref it/\Inv X ae σ I s2/\p8 X.prog X.w X.K da bF bB it dQ/\dQ 0 s2.heap/\(∀ b ∈ bB,jr X ae I b)/\R bF I
def pg (X:a7) (da iter:Expr) (hk:TI):Prop:=
 ∀ (ae:List (Addr × Obj)) (s:Shared) (σ:St) (H:ar) (R:ji->ar->Prop),Inv X ae σ H s->hk σ H R ->
  wpAny (model X.prog X.w) X.A (eval iter X.env) (fun v s1=>wpAny (model X.prog X.w) X.A (pyIter v) (Ms X ae σ da R) X.dK s1) X.dK s
theorem u6 {A:Around} {it:Addr} (aY:s.heap.get? it=some o) (ay:o.cls=.type n) (hd:o.data=.fields vs)
    (a4:["enumerate","zip","dict_itemiterator","dict_reverseitemiterator","odict_iterator","itertools.zip_longest","itertools.pairwise"].contains n=false) (aR:Q () s):wpAny M A (letOwnedTupleGo da (.ref it) u) Q E s:=by
  unfold letOwnedTupleGo;cases da <;> first
    | exact wpAny_pure aR
    | (cases u <;> first
        | exact wpAny_pure aR
        | (refine wpAny_bind (wpAny_load aY ?_)
           rw [ay,hd];show wpAny M A (if (["enumerate","zip","dict_itemiterator","dict_reverseitemiterator","odict_iterator","itertools.zip_longest","itertools.pairwise"].contains n && vs[0]? == some (rawInt _))=true then _ else _) Q E s;rw [if_neg (by intro h;rw [a4,mu] at h;cases h)];exact wpAny_pure aR))
noncomputable def mO (K:ba) (a:Addr):ji:=
 ⟨fun i H=>∃ xs x,aC K H a xs/\xs[i]? = some x,fun i H x I=>I=H/\∀ xs,aC K H a xs->xs[i]? = some x,fun i H=>∃ xs,aC K H a xs/\xs.length <= i⟩
noncomputable def zc (K:ba) (a:Addr):ji:=
 ⟨fun i H=>∃ xs x,di K H a xs/\xs[i]? = some x,fun i H x I=>I=H/\∀ xs,di K H a xs->xs[i]? = some x,fun i H=>∃ xs,di K H a xs/\xs.length <= i⟩
noncomputable def mI (lo:Int) (n:Nat):ji:=⟨fun i _=>i < n,fun i H x I=>I=H/\x=.int (lo + i),fun i _=>n <= i⟩
theorem Vc {w:World} {K:ba} (a it:Addr):p8 P w K da (mO K a) [it] it (fun i h=>h.IsListIter it a i) where
 mem:=by simp
 obj:=fun i h st b aa=>by
  have e:b=it:=by simpa using aa
  subst e;obtain ⟨o,e,c,d⟩:=st;exact ⟨o,e,fun v z=>by rw [d] at z;cases z⟩
 keep:=fun i h h' st k=>st.at fun o e=>k it (by simp) o e
 item:=by
  intro X cJ hw fR ay i ae s σ H E J hf st aQ;subst cJ hw fR;obtain ⟨xs,x,a0,ah⟩:=aQ;obtain ⟨a',cT,p,aT⟩:=J.list a0;obtain ⟨u,bx,fw⟩:=cT.get ah;obtain ⟨f0,f1,f2,eh,f4,eI⟩:=hf it (by simp);refine wpAny_pyNext_list_item st p.isList (x:=u) (by simpa using bx) fun h' ko nA=>?_
  have a5:Inv X ae σ H { s with heap:=h' }:=J.turned (t':=s.toks) (fun b o aa e=>(nA.2 b aa).trans e) f0 f1 eh f4 eI;obtain ⟨o,e,c,d⟩:=id ko;exact ⟨u,rfl,u6 (s:={ s with heap:=h' }) e c d (by decide) ⟨x,H,a5,fw,⟨rfl,fun ys bg=>by rw [J.Aj bg a0];exact ah⟩,ko,fun b aa=>(hf b aa).1⟩⟩
 done:=by
  intro X cJ hw fR ay i ae s σ H E J hf st aQ;subst cJ hw fR;obtain ⟨xs,a0,ah⟩:=aQ;obtain ⟨a',cT,p,aT⟩:=J.list a0;obtain ⟨f0,f1,f2,eh,f4,eI⟩:=hf it (by simp);have aL:=cT.length;exact wpAny_pyNext_list_end (J.ok.hd ay) st p.isList (by simp;omega) fun h' fl=>⟨rfl,J.turned (t':=s.toks) (fun b o aa e=>fl b o aa e) f0 f1 eh f4 eI⟩
 self:=fun _ _ _ _ _ st h=>wpAny_pyIter_listiter st h
theorem UC {w:World} {K:ba} (a it:Addr):p8 P w K da (zc K a) [it] it (fun i h=>h.IsTupleIter it a i) where
 mem:=by simp
 obj:=fun i h st b aa=>by
  have e:b=it:=by simpa using aa
  subst e;obtain ⟨o,e,c,d⟩:=st;exact ⟨o,e,fun v z=>by rw [d] at z;cases z⟩
 keep:=fun i h h' st k=>st.at fun o e=>k it (by simp) o e
 item:=by
  intro X cJ hw fR ay i ae s σ H E J hf st aQ;subst cJ hw fR;obtain ⟨xs,x,a0,ah⟩:=aQ;obtain ⟨a',cT,p,aT⟩:=J.tuple a0;obtain ⟨u,bx,fw⟩:=cT.get ah;obtain ⟨f0,f1,f2,eh,f4,eI⟩:=hf it (by simp);refine wpAny_pyNext_tuple_item st (show s.heap.IsTuple a a'.toArray from p) (x:=u) (by simpa using bx) fun h' ko nA=>?_
  have a5:Inv X ae σ H { s with heap:=h' }:=J.turned (t':=s.toks) (fun b o aa e=>(nA.2 b aa).trans e) f0 f1 eh f4 eI;obtain ⟨o,e,c,d⟩:=id ko;exact ⟨u,rfl,u6 (s:={ s with heap:=h' }) e c d (by decide) ⟨x,H,a5,fw,⟨rfl,fun ys bg=>by rw [J.N6 bg a0];exact ah⟩,ko,fun b aa=>(hf b aa).1⟩⟩
 done:=by
  intro X cJ hw fR ay i ae s σ H E J hf st aQ;subst cJ hw fR;obtain ⟨xs,a0,ah⟩:=aQ;obtain ⟨a',cT,p,aT⟩:=J.tuple a0;obtain ⟨f0,f1,f2,eh,f4,eI⟩:=hf it (by simp);have aL:=cT.length;exact wpAny_pyNext_tuple_end (J.ok.hd ay) st (show s.heap.IsTuple a a'.toArray from p) (by simp;omega) fun h' fl=>⟨rfl,J.turned (t':=s.toks) (fun b o aa e=>fl b o aa e) f0 f1 eh f4 eI⟩
 self:=fun _ _ _ _ _ st h=>wpAny_pyIter_tupleiter st h
theorem TD {w:World} {K:ba} (it:Addr) (lo:Int) (n:Nat):p8 P w K da (mI lo n) [it] it (fun i h=>IsRangeIter h it (lo + (i:Nat) * 1) ((n:Int) - (i:Nat)) 1) where
 mem:=by simp
 obj:=fun i h st b aa=>by
  have e:b=it:=by simpa using aa
  subst e;exact ⟨_,st,fun v z=>by
   have ik:agb _=Data.cell v:=z;cases ik⟩
 keep:=fun i h h' st k=>k it (by simp) _ st
 item:=by
  intro X cJ hw fR ay i ae s σ H E J hf st aQ;subst cJ hw fR;obtain ⟨f0,f1,f2,eh,f4,eI⟩:=hf it (by simp);have W:=Walks.range (prog:=X.prog) (w:=X.w) (J.ok.hd ay) it lo 1 n;refine W.item i s _ _ aQ st fun v h' tk aI ko fI=>?_
  obtain ⟨t,rfl⟩:=aI;have a5:Inv X ae σ H { s with heap:=h',toks:=tk }:=J.turned (fun b o aa e=>fI b o (by simpa using aa) e) f0 f1 eh f4 eI;refine ⟨_,rfl,u6 (s:={ s with heap:=h',toks:=tk }) (n := "range_iterator") ko rfl rfl (by decide) ⟨.int (lo + i),H,a5,⟨t,?_⟩,⟨rfl,rfl⟩,ko,fun b aa=>(hf b aa).1⟩⟩;rw [Int.mul_one]
 done:=by
  intro X cJ hw fR ay i ae s σ H E J hf st aQ;subst cJ hw fR;obtain ⟨f0,f1,f2,eh,f4,eI⟩:=hf it (by simp);exact wpAny_pyNext_range_end (J.ok.hd ay) st (by have:n <= i:=aQ;omega) fun h' fl=>⟨rfl,J.turned (t':=s.toks) (fun b o aa e=>fl b o aa e) f0 f1 eh f4 eI⟩
 self:=fun _ _ _ _ _ st h=>wpAny_pyIter_rangeiter st h
section
variable {X:a7} {da:Expr}
noncomputable def Hr (K:ba) (cB:TE):TI:=fun σ H R=>cB σ H fun x H1=>fe x fun a=>(∃ xs,aC K H1 a xs)/\R (mO K a) H1
noncomputable def Jq (K:ba) (cB:TE):TI:=fun σ H R=>cB σ H fun x H1=>fe x fun a=>(∃ xs,di K H1 a xs)/\R (zc K a) H1
theorem eT (aL:bq X l cB):pg X da l (Hr X.K cB):=by
 intro ae s σ H R J h;refine bC (aL ae s σ H _ J h) fun v s1 bw=>?_
 obtain ⟨x,H1,a5,cQ,bG⟩:=bw;obtain ⟨a,e,⟨xs,a0⟩,q⟩:=fe.out bG;subst e;cases cQ;obtain ⟨a',cT,p,aT⟩:=a5.list a0;refine wpAny_pyIter_list p.isList ?_;refine ⟨s1.heap.objs.size,[s1.heap.objs.size],_,_,H1,rfl,a5.kept (t':=s1.toks) fun b o e=>eU _ e,Vc a _,⟨_,hI _ rfl,rfl,rfl⟩,fun b aa=>?_,q⟩;have e:b=s1.heap.objs.size:=by simpa using aa
 subst e;exact a5.oX (cn _) (a5.bl.fresh (cn _))
theorem UH (aL:bq X l cB):pg X da l (Jq X.K cB):=by
 intro ae s σ H R J h;refine bC (aL ae s σ H _ J h) fun v s1 bw=>?_
 obtain ⟨x,H1,a5,cQ,bG⟩:=bw;obtain ⟨a,e,⟨xs,a0⟩,q⟩:=fe.out bG;subst e;cases cQ;obtain ⟨a',cT,p,aT⟩:=a5.tuple a0;refine wpAny_pyIter_tuple (show s1.heap.IsTuple a a'.toArray from p) ?_;refine ⟨s1.heap.objs.size,[s1.heap.objs.size],_,_,H1,rfl,a5.kept (t':=s1.toks) fun b o e=>eU _ e,UC a _,⟨_,hI _ rfl,rfl,rfl⟩,fun b aa=>?_,q⟩;have e:b=s1.heap.objs.size:=by simpa using aa
 subst e;exact a5.oX (cn _) (a5.bl.fresh (cn _))
theorem ahF {ae:List (Addr × Obj)} {σ:St} {H:ar} {s:Shared} {R:ji->ar->Prop} {E:Value->Shared->Prop} {lo ag:Int} {t u v:Tok} {tk:Nat} (J:Inv X ae σ H s) (af:-(2 ^ 62) <= lo) (ak:lo < 2 ^ 62) (a9:-(2 ^ 62) <= ag) (cW:ag < 2 ^ 62)
  (q:R (mI lo (ag - lo).toNat) H):wpAny (model X.prog X.w) X.A (pyIter (.ref s.heap.objs.size)) (Ms X ae σ da R) E { s with heap:=s.heap.push { cls:=.type "range",data:=.fields #[.int lo t,.int ag u,.int 1 v] },toks:=tk }:=by
 refine wpAny_pyIter_range (IsRange.new ..) (small_one af ak a9 cW) ?_;have a5:Inv X ae σ H { s with heap:=s.heap.push { cls:=.type "range",data:=.fields #[.int lo t,.int ag u,.int 1 v] },toks:=tk }:=J.kept fun b o e=>eU _ e
 refine ⟨(s.heap.push { cls:=.type "range",data:=.fields #[.int lo t,.int ag u,.int 1 v] }).objs.size,[(s.heap.push { cls:=.type "range",data:=.fields #[.int lo t,.int ag u,.int 1 v] }).objs.size],_,_,H,rfl,
  a5.kept (t':=tk) fun b o e=>eU _ e,TD _ lo (ag - lo).toNat,?_,fun b aa=>?_,q⟩
 .have au:lo + ((0:Nat):Int) * 1=lo:=by simp
  have aH:(((ag - lo).toNat:Nat):Int) - ((0:Nat):Int)=aiK lo ag 1:=by rw [rangeSize_one];split <;> omega
  show IsRangeIter _ _ (lo + ((0:Nat):Int) * 1) ((((ag - lo).toNat:Nat):Int) - ((0:Nat):Int)) 1;rw [au,aH];exact hI _ rfl
 .have e:b=(s.heap.push { cls:=.type "range",data:=.fields #[.int lo t,.int ag u,.int 1 v] }).objs.size:=by simpa using aa
  subst e;exact a5.oX (cn _) (a5.bl.fresh (cn _))
noncomputable def Mw (a_:fE):TI:=fun σ H R=>a_ σ H fun vs H1=>lO vs fun x=>gg x fun j=>-(2 ^ 62) <= j/\j < 2 ^ 62/\R (mI 0 j.toNat) H1
theorem lU {a:Expr} {a_:fE} {p pos:Pos} (aQ:lS X "range") (hm:X.mg "range"=none) (aS:jN X [a] a_) (av:starEach [a] X.env=[(false,eval a X.env)]:=by rfl):pg X da (.Call (.Name "range" p) [a] [] pos) (Mw a_):=by
 intro ae s σ H R J h;refine Call_ (vK J aQ hm boot_range (K6 (bC (aS pos ae s σ H _ J h) fun us s1 bw=>?_) av rfl));obtain ⟨vs,H1,a5,cQ,bG⟩:=bw;obtain ⟨afi,aeh,gP⟩:=lO.out bG;obtain ⟨j,Ci,Zk,dM,q⟩:=gg.out gP;have e:=aeh.trans (congrArg (fun z=>[z]) Ci);subst e;cases cQ with
 | cons r ru=>
  cases ru;obtain ⟨t,rfl⟩:=r;exact call_range_1 (ahF a5 (by omega) (by omega) Zk dM (by simpa using q))
noncomputable def NH (hk:TI) (g:gw) (bP:d6):d6:=fun D σ H=>hk σ H fun bF H1=>∃ W:Nat->Nat->St->ar->Prop,(∃ m,W 0 m σ H1)/\∀ i m σ H,W i m σ H ->
 (bF.stop i H/\D.cf σ H)\/(bF.go i H/\∃ N:St->ar->Prop,(∀ aB I,N aB I->∃ dm,dm < m/\W (i + 1) dm aB I)/\∀ x I,bF.oL i H x I->g x σ I fun cv aw=>bP { D with cf:=N,ez:=N,cw:=D.cf } cv aw)
noncomputable def wH (bB:List Addr) (h:Heap):List (Addr × Obj):=bB.filterMap fun b=>(h.get? b).map fun o=>(b,o)
theorem AU {h:Heap} (aa:b ∈ bB) (e:h.get? b=some o):(b,o) ∈ wH bB h:=acU.mpr ⟨b,aa,by rw [e];rfl⟩
theorem aeP {h:Heap} {p:Addr × Obj} (ax:p ∈ wH bB h):p.1 ∈ bB/\h.get? p.1=some p.2:=by
 obtain ⟨b,aa,e⟩:=acU.mp ax;cases q:h.get? b with
 | none=>rw [q] at e;cases e
 | some o=>
  rw [q] at e;have bT:(b,o)=p:=d1 e;subst bT;exact ⟨aa,q⟩
theorem Inv.pinned (J:Inv X ae σ H s) (hf:∀ b ∈ bB,jr X ae H b) (aY:∀ b ∈ bB,∃ o,s.heap.get? b=some o/\∀ v,o.data ≠ .cell v):Inv X (ae ++ wH bB s.heap) σ H s:=
 J.rY fun p ax=>(eG.mp ax).elim (fun z=>J.pin p (jP _ z)) fun z=>by
  obtain ⟨aa,e⟩:=aeP z;obtain ⟨f0,f1,f2,_⟩:=hf p.1 aa;obtain ⟨o,bT,d⟩:=aY p.1 aa;rw [e] at bT;cases bT;exact ⟨e,f0,f1,f2,d⟩
theorem Inv.A' (J:Inv X (ae ++ pl) σ H s):Inv X ae σ H s:=J.rY fun p ax=>J.pin p (jP _ (rz _ ax))
theorem fz (ax:PassesOwn (model X.prog X.w) X.A X.env X.dK) (ay:X.calm=true) (ag:pg X da iter hk) (aQ:mZ X da g) (aa:kQ X body bP)
  (av:∀ x,foldedSetIterable iter X.env x=pure x:=by intro _;rfl):hy X (.For da iter body [] pos) (NH hk g bP):=by
 intro ae s σ H D J h;refine wpAny_For (bC (ag ae s σ H _ J h) fun v s1 af=>bC af fun x5 s2 ak=>?_) av;obtain ⟨it,bB,dQ,bF,aw,e,bR,T,p9,f2,W,⟨m0,m3⟩,turn⟩:=ak;subst e;have stat:∀ {I:ar},(∀ b ∈ bB,I b=none)->∀ b ∈ bB,jr X ae I b:=fun a4 b aa=>⟨a4 b aa,(f2 b aa).2⟩
 refine codeAny_forLoop_any (fun n ai=>∃ i aB I,Inv X ae aB I ai/\dQ i ai.heap/\(∀ b ∈ bB,I b=none)/\W i n aB I) ?_ m0 ⟨0,σ,aw,bR,p9,fun b aa=>(f2 b aa).1,m3⟩;rintro n s3 ⟨i,gc,bf,eQ,Sg,Sj,hu⟩;rcases turn i n gc bf hu with ⟨stop,HI⟩ | ⟨go,N,br,step⟩
 .refine wpAny_passesOwn ax (bC (T.done X rfl rfl rfl ay i ae s3 gc bf X.dK eQ (stat Sj) Sg stop) fun r s4 bw=>?_);obtain ⟨ao,hS⟩:=bw;subst ao;exact wpAny_execs_nil ⟨gc,bf,hS,HI⟩
 .refine wpAny_passesOwn ax (bC (T.item X rfl rfl rfl ay i ae s3 gc bf X.dK eQ (stat Sj) Sg go) fun r s4 bw=>?_);obtain ⟨u,ao,cW⟩:=bw;subst ao;refine wpAny_passesOwn ax (bC cW fun _ s5 bw=>?_);obtain ⟨x,dJ,xa,CW,DY,rW,Ed⟩:=bw;have Gg:=xa.pinned (stat Ed) (T.obj _ _ rW);refine wpAny_passesOwn ax (bC (aQ _ s5 gc dJ x u _ Gg CW (step x dJ DY)) fun _ kr bw=>?_);obtain ⟨mq,iQ,FI,Cp⟩:=bw;refine wpAny_passesOwn ax (bC (aa _ kr mq iQ _ FI Cp) fun f mY m2=>?_);have again:∀ {ka:St} {hL:ar},Inv X (ae ++ wH bB s5.heap) ka hL mY->N ka hL->∃ m,m < n/\∃ i aB I,Inv X ae aB I mY/\dQ i mY.heap/\(∀ b ∈ bB,I b=none)/\W i m aB I:=fun {ka hL} j5 mK=>by
   obtain ⟨dm,hm,mA⟩:=br ka hL mK;refine ⟨dm,hm,i + 1,ka,hL,j5.A',T.keep _ _ _ rW fun b aa o e=>(j5.pin (b,o) (jP _ (jP _ (AU aa e)))).1,fun b aa=>?_,mA⟩;obtain ⟨o,e,d⟩:=T.obj _ _ rW b aa;exact (j5.pin (b,o) (jP _ (jP _ (AU aa e)))).2.1
  cases f with
  | next=>obtain ⟨ka,hL,j5,mK⟩:=m2;exact again j5 mK
  | cont=>obtain ⟨ka,hL,j5,mK⟩:=m2;exact again j5 mK
  | brk=>obtain ⟨ka,hL,j5,m2⟩:=m2;exact ⟨ka,hL,j5.A',m2⟩
  | ret v=>obtain ⟨dV,ka,hL,j5,aiJ,m2⟩:=m2;exact ⟨dV,ka,hL,j5.A',aiJ,m2⟩
end
theorem aca {K:ba} {a:Addr} {xs:List V} {g:gw} {bP:d6} {D:g8} {σ:St} {H:ar} (Pv:Nat->St->ar->Prop) (h0:Pv 0 σ H) (aL:∀ i σ H,i <= xs.length->Pv i σ H->aC K H a xs)
  (av:∀ i x σ H,xs[i]? = some x->Pv i σ H->g x σ H fun cv aw=>bP { D with cf:=Pv (i + 1),ez:=Pv (i + 1),cw:=D.cf } cv aw) (hd:∀ σ H,Pv xs.length σ H->D.cf σ H) :
  ∃ W:Nat->Nat->St->ar->Prop,(∃ m,W 0 m σ H)/\∀ i m σ H,W i m σ H ->
   ((mO K a).stop i H/\D.cf σ H)\/((mO K a).go i H/\∃ N:St->ar->Prop,(∀ aB I,N aB I->∃ dm,dm < m/\W (i + 1) dm aB I)/\∀ x I,(mO K a).oL i H x I->g x σ I fun cv aw=>bP { D with cf:=N,ez:=N,cw:=D.cf } cv aw):=by
 refine ⟨fun i m σ H=>m=xs.length - i/\i <= xs.length/\Pv i σ H,⟨xs.length,by simp,fi _,h0⟩,?_⟩;rintro i m σ H ⟨rfl,ag,p⟩;have q:=aL i σ H ag p;by_cases dG:i < xs.length
 .refine .inr ⟨⟨xs,xs[i],q,by simp [dG]⟩,Pv (i + 1),fun aB I jn=>⟨xs.length - (i + 1),by omega,rfl,dG,jn⟩,fun x I y=>?_⟩;obtain ⟨e,y⟩:=y;subst e;exact av i x σ _ (y xs q) p
 .have e:i=xs.length:=by omega
  subst e;exact .inl ⟨⟨xs,q,cn _⟩,hd σ H p⟩
theorem TL {lo:Int} {n:Nat} {g:gw} {bP:d6} {D:g8} {σ:St} {H:ar} (Pv:Nat->St->ar->Prop) (h0:Pv 0 σ H)
  (av:∀ i σ H,i < n->Pv i σ H->g (.int (lo + i)) σ H fun cv aw=>bP { D with cf:=Pv (i + 1),ez:=Pv (i + 1),cw:=D.cf } cv aw) (hd:∀ σ H,Pv n σ H->D.cf σ H) :
  ∃ W:Nat->Nat->St->ar->Prop,(∃ m,W 0 m σ H)/\∀ i m σ H,W i m σ H ->
   ((mI lo n).stop i H/\D.cf σ H)\/((mI lo n).go i H/\∃ N:St->ar->Prop,(∀ aB I,N aB I->∃ dm,dm < m/\W (i + 1) dm aB I)/\∀ x I,(mI lo n).oL i H x I->g x σ I fun cv aw=>bP { D with cf:=N,ez:=N,cw:=D.cf } cv aw):=by
 refine ⟨fun i m σ H=>m=n - i/\i <= n/\Pv i σ H,⟨n,by simp,fi _,h0⟩,?_⟩;rintro i m σ H ⟨rfl,ag,p⟩;by_cases dG:i < n
 .refine .inr ⟨dG,Pv (i + 1),fun aB I jn=>⟨n - (i + 1),by omega,rfl,dG,jn⟩,fun x I y=>?_⟩;obtain ⟨e,y⟩:=y;subst e y;exact av i σ _ dG p
 .have e:i=n:=by omega
  subst e;exact .inl ⟨cn _,hd σ H p⟩
noncomputable abbrev e0:=V->V->ar->cX->Prop
def hA (X:a7) (f:Value->Value->Sem Value) (r:e0):Prop:=
 ∀ (ae:List (Addr × Obj)) (s:Shared) (σ:St) (H:ar) (x y:V) (v u:Value) (Q:cX),Inv X ae σ H s->bI x v->bI y u->r x y H Q ->
  wpAny (model X.prog X.w) X.A (f v u) (gJ X ae σ Q) X.dK s
def IY (X:a7) (f:Value->Sem Value) (r:V->ar->cX->Prop):Prop:=
 ∀ (ae:List (Addr × Obj)) (s:Shared) (σ:St) (H:ar) (x:V) (v:Value) (Q:cX),Inv X ae σ H s->bI x v->r x H Q ->
  wpAny (model X.prog X.w) X.A (f v) (gJ X ae σ Q) X.dK s
def ma (X:a7) (f:Value) (r:List V->ar->cX->Prop):Prop:=
 ∀ (ae:List (Addr × Obj)) (s:Shared) (σ:St) (H:ar) (xs:List V) (us:List Value) (Q:cX),Inv X ae σ H s->b8 xs us->r xs H Q ->
  wpAny (model X.prog X.w) X.A (call f us) (gJ X ae σ Q) X.dK s
def adx (X:a7) (r:V->ar->(Bool->ar->Prop)->Prop):Prop:=
 ∀ (ae:List (Addr × Obj)) (s:Shared) (σ:St) (H:ar) (x:V) (v:Value) (Q:Bool->ar->Prop),Inv X ae σ H s->bI x v->r x H Q ->
  wpAny (model X.prog X.w) X.A (truthy v) (yl X ae σ Q) X.dK s
noncomputable def qX (r:e0) (a_ bP:TE):TE:=fun σ H Q=>a_ σ H fun x H1=>bP σ H1 fun y aw=>r x y aw Q
noncomputable def HS (r:V->ar->cX->Prop) (a_:TE):TE:=fun σ H Q=>a_ σ H fun x H1=>r x H1 Q
noncomputable def u' (C:Int->Int->Prop) (g:Int->Int->V):e0:=fun x y H Q=>gg x fun i=>gg y fun j=>C i j/\Q (g i j) H
noncomputable def nN (g:Int->Int->V):e0:=fun x y H Q=>gg x fun i=>gg y fun j=>Q (g i j) H
noncomputable def Bn (g:Int->V):V->ar->cX->Prop:=fun x H Q=>gg x fun i=>Q (g i) H
section
variable {X:a7} {a b c:Expr} {a_ bP dj:TE} {pos:Pos}
theorem HB (aS:bq X a a_) (aa:bq X b bP) {ae:List (Addr × Obj)} {s:Shared} {σ:St} {H:ar} {R:V->V->ar->Prop} (J:Inv X ae σ H s)
  (h:a_ σ H fun x H1=>bP σ H1 fun y aw=>R x y aw) {Q:Value->Shared->Prop} {f:Value->Value->Sem Value}
  (hf:∀ v u s2 x y aw,Inv X ae σ aw s2->bI x v->bI y u->R x y aw->wpAny (model X.prog X.w) X.A (f v u) Q X.dK s2) :
  wpAny (model X.prog X.w) X.A (eval a X.env) (fun v dd=>wpAny (model X.prog X.w) X.A (eval b X.env) (fun u dP=>wpAny (model X.prog X.w) X.A (f v u) Q X.dK dP) X.dK dd) X.dK s:=by
 refine bC (aS ae s σ H _ J h) fun v s1 bw=>?_
 obtain ⟨x,H1,a5,cQ,bG⟩:=bw;refine bC (aa ae s1 σ H1 _ a5 bG) fun u s2 bw=>?_
 obtain ⟨y,aw,bR,hx,dM⟩:=bw;exact hf v u s2 x y aw bR cQ hx dM
theorem bD {op:Operator} {r:e0} (aY:hA X (binaryOp op) r) (aS:bq X a a_) (aa:bq X b bP):bq X (.BinOp a op b pos) (qX r a_ bP):=by
 intro ae s σ H Q J h;exact wpAny_BinOp (HB aS aa J h fun v u s2 x y aw bR bj bp q=>aY ae s2 σ aw x y v u Q bR bj bp q)
theorem Js (aY:IY X (unaryOp op) r) (aS:bq X a a_):bq X (.UnaryOp op a pos) (HS r a_):=by
 intro ae s σ H Q J h;exact UnaryOp_ (bC (aS ae s σ H _ J h) fun v s1 ⟨x,H1,a5,cQ,bG⟩=>aY ae s1 σ H1 x v Q a5 cQ bG)
theorem NT {f:Value->Value->Sem Value} {C:Int->Int->Prop} {g:Int->Int->Int}
  (rule:∀ (i j:Int) (t u:Tok) (s:Shared) (Q:Value->Shared->Prop) (E:Value->Shared->Prop),C i j->Q (.int (g i j) s.toks) { s with toks:=s.toks + 1 }->wpAny (model X.prog X.w) X.A (f (.int i t) (.int j u)) Q E s) :
  hA X f (u' C fun i j=>.int (g i j)):=by
 intro ae s σ H x y v u Q J bj bp h;obtain ⟨i,rfl,iL⟩:=gg.out h;obtain ⟨j,rfl,ay,q⟩:=gg.out iL;obtain ⟨t,rfl⟩:=bj;obtain ⟨t',rfl⟩:=bp;exact rule i j t t' s _ _ ay ⟨.int (g i j),H,J.tok _,⟨_,rfl⟩,q⟩
theorem MT {f:Value->Value->Sem Value} {g:Int->Int->Int}
  (rule:∀ (i j:Int) (t u:Tok) (s:Shared) (Q:Value->Shared->Prop) (E:Value->Shared->Prop),Q (.int (g i j) s.toks) { s with toks:=s.toks + 1 }->wpAny (model X.prog X.w) X.A (f (.int i t) (.int j u)) Q E s) :
  hA X f (nN fun i j=>.int (g i j)):=by
 intro ae s σ H x y v u Q J bj bp h;obtain ⟨i,rfl,iL⟩:=gg.out h;obtain ⟨j,rfl,q⟩:=gg.out iL;obtain ⟨t,rfl⟩:=bj;obtain ⟨t',rfl⟩:=bp;exact rule i j t t' s _ _ ⟨.int (g i j),H,J.tok _,⟨_,rfl⟩,q⟩
theorem yK {f:Value->Value->Sem Value} {g:Int->Int->Bool}
  (rule:∀ (i j:Int) (t u:Tok) (s:Shared) (Q:Value->Shared->Prop) (E:Value->Shared->Prop),Q (.bool (g i j)) s->wpAny (model X.prog X.w) X.A (f (.int i t) (.int j u)) Q E s) :
  hA X f (nN fun i j=>.bk (g i j)):=by
 intro ae s σ H x y v u Q J bj bp h;obtain ⟨i,rfl,iL⟩:=gg.out h;obtain ⟨j,rfl,q⟩:=gg.out iL;obtain ⟨t,rfl⟩:=bj;obtain ⟨t',rfl⟩:=bp;exact rule i j t t' s _ _ ⟨.bk (g i j),H,J,rfl,q⟩
def nd (i j:Int):Prop:=(-(2 ^ 64) < i/\i < 2 ^ 64)\/(-(2 ^ 64) < j/\j < 2 ^ 64)
theorem nd.ok (h:nd i j):IntMulOk i j:=by
 rcases h with ⟨af,ak⟩ | ⟨af,ak⟩
 .exact .of_left (intBits_le_64 af ak)
 .exact .of_right (intBits_le_64 af ak)
theorem d7:hA X (binaryOp .Add) (nN fun i j=>.int (i + j)):=MT fun _ _ _ _ _ _ _ q=>add_int q
theorem k1:hA X (binaryOp .Sub) (nN fun i j=>.int (i - j)):=MT fun _ _ _ _ _ _ _ q=>sub_int q
theorem jd:hA X (binaryOp .Mult) (u' nd fun i j=>.int (i * j)):=NT fun _ _ _ _ _ _ _ ay q=>mul_int q ay.ok
theorem i0:hA X (binaryOp .Mod) (u' (fun _ j=>0 < j) fun i j=>.int (i % j)):=NT fun i j _ _ _ _ _ ay q=>by
 have af:(0:Int) < j:=ay;exact mod_int' (by omega) (by rw [Int.fmod_eq_emod_of_nonneg i (by omega)];exact q)
theorem Wo {f:Value->Sem Value} {g:Int->Int}
  (rule:∀ (i:Int) (t:Tok) (s:Shared) (Q:Value->Shared->Prop) (E:Value->Shared->Prop),Q (.int (g i) s.toks) { s with toks:=s.toks + 1 }->wpAny (model X.prog X.w) X.A (f (.int i t)) Q E s) :
  IY X f (Bn fun i=>.int (g i)):=by
 intro ae s σ H x v Q J bj h;obtain ⟨i,rfl,q⟩:=gg.out h;obtain ⟨t,rfl⟩:=bj;exact rule i t s _ _ ⟨.int (g i),H,J.tok _,⟨_,rfl⟩,q⟩
theorem HQ:IY X (unaryOp .USub) (Bn fun i=>.int (-i)):=Wo fun _ _ _ _ _ q=>neg_int q
end
noncomputable def B9:V->V->Bool
 | .b6,.b6=>true | .b6,.int _=>true | .int _,.b6=>true | .b6,.bk _=>true | .bk _,.b6=>true | .b6,.str _=>true | .str _,.b6=>true
 | .int _,.int _=>true | .bk _,.bk _=>true | .str _,.str _=>true | .kH _,.kH _=>true
 | .int _,.str _=>true | .str _,.int _=>true | .bk _,.str _=>true | .str _,.bk _=>true
 | _,_=>false
noncomputable def Dx:e0:=fun x y H Q=>B9 x y=true/\Q (.bk (decide (x=y))) H
noncomputable def G1:e0:=fun x y H Q=>B9 x y=true/\Q (.bk (!decide (x=y))) H
theorem Om:decide (V.int i=V.int j)=(i == j):=by
 rw [jC];simp
theorem LP:decide (V.bk i=V.bk j)=(i == j):=by
 rw [jC];simp
theorem Rd:decide (V.str i=V.str j)=(i == j):=by
 rw [jC];simp
theorem MQ:decide (V.kH i=V.kH j)=(i.toList == j.toList):=by
 rw [jC];cases i;cases j;simp
section
variable {X:a7} {a b c:Expr} {a_ bP dj:TE} {pos:Pos}
theorem e_ {k ky:Bool} (J:Inv X ae σ H s) (q:Q (.bk k) H) (e:k=ky):gJ X ae σ Q (.bool ky) s:=by
 subst e;exact ⟨.bk k,H,J,rfl,q⟩
theorem ep:hA X (compareOp .Eq) Dx:=by
 intro ae s σ H x y v u Q J bj bp h;obtain ⟨av,q⟩:=h;cases x with
 | b6=>
  cases bj;cases y with
  | b6=>cases bp;exact akS (e_ J q (by simp))
  | bk j=>cases bp;exact alm (e_ J q (by simp))
  | int j=>obtain ⟨t',rfl⟩:=bp;exact ajC (e_ J q (by simp))
  | str j=>obtain ⟨t',rfl⟩:=bp;exact aiN (e_ J q (by simp))
  | _=>exact absurd (show false=true from av) fm
 | bk i=>
  cases bj;cases y with
  | b6=>cases bp;exact aly (e_ J q (by simp))
  | bk j=>cases bp;exact eq_bool (e_ J q LP)
  | str j=>obtain ⟨t',rfl⟩:=bp;exact aj' (e_ J q (by simp))
  | _=>exact absurd (show false=true from av) fm
 | int i=>
  obtain ⟨t,rfl⟩:=bj;cases y with
  | b6=>cases bp;exact ai4 (e_ J q (by simp))
  | int j=>obtain ⟨t',rfl⟩:=bp;exact eq_int (e_ J q Om)
  | str j=>obtain ⟨t',rfl⟩:=bp;exact aje (e_ J q (by simp))
  | _=>exact absurd (show false=true from av) fm
 | str i=>
  obtain ⟨t,rfl⟩:=bj;cases y with
  | b6=>cases bp;exact ajd (e_ J q (by simp))
  | bk j=>cases bp;exact alo (e_ J q (by simp))
  | int j=>obtain ⟨t',rfl⟩:=bp;exact als (e_ J q (by simp))
  | str j=>obtain ⟨t',rfl⟩:=bp;exact eq_str (e_ J q Rd)
  | _=>exact absurd (show false=true from av) fm
 | kH i=>
  obtain ⟨t,rfl⟩:=bj;cases y with
  | kH j=>obtain ⟨t',rfl⟩:=bp;exact PySem.W.eq_bytes (e_ J q MQ)
  | _=>exact absurd (show false=true from av) fm
 | _=>cases y <;> exact absurd (show false=true from av) fm
theorem o6:hA X (compareOp .NotEq) G1:=by
 intro ae s σ H x y v u Q J bj bp h;obtain ⟨av,q⟩:=h;cases x with
 | b6=>
  cases bj;cases y with
  | b6=>cases bp;exact alj (e_ J q (by simp))
  | bk j=>cases bp;exact akw (e_ J q (by simp))
  | int j=>obtain ⟨t',rfl⟩:=bp;exact akg (e_ J q (by simp))
  | str j=>obtain ⟨t',rfl⟩:=bp;exact ajb (e_ J q (by simp))
  | _=>exact absurd (show false=true from av) fm
 | bk i=>
  cases bj;cases y with
  | b6=>cases bp;exact alf (e_ J q (by simp))
  | bk j=>cases bp;exact ne_bool (e_ J q (congrArg not LP))
  | str j=>obtain ⟨t',rfl⟩:=bp;exact aku (e_ J q (by simp))
  | _=>exact absurd (show false=true from av) fm
 | int i=>
  obtain ⟨t,rfl⟩:=bj;cases y with
  | b6=>cases bp;exact aj7 (e_ J q (by simp))
  | int j=>obtain ⟨t',rfl⟩:=bp;exact ne_int (e_ J q (congrArg not Om))
  | str j=>obtain ⟨t',rfl⟩:=bp;exact ai2 (e_ J q (by simp))
  | _=>exact absurd (show false=true from av) fm
 | str i=>
  obtain ⟨t,rfl⟩:=bj;cases y with
  | b6=>cases bp;exact ajh (e_ J q (by simp))
  | bk j=>cases bp;exact ak9 (e_ J q (by simp))
  | int j=>obtain ⟨t',rfl⟩:=bp;exact akZ (e_ J q (by simp))
  | str j=>obtain ⟨t',rfl⟩:=bp;exact ne_str (e_ J q (congrArg not Rd))
  | _=>exact absurd (show false=true from av) fm
 | kH i=>
  obtain ⟨t,rfl⟩:=bj;cases y with
  | kH j=>obtain ⟨t',rfl⟩:=bp;exact PySem.W.ne_bytes (e_ J q (congrArg not MQ))
  | _=>exact absurd (show false=true from av) fm
 | _=>cases y <;> exact absurd (show false=true from av) fm
theorem kn:hA X (compareOp .Lt) (nN fun i j=>.bk (decide (i < j))):=yK fun _ _ _ _ _ _ _ q=>lt_int q
theorem aaU:hA X (compareOp .LtE) (nN fun i j=>.bk (decide (i <= j))):=yK fun _ _ _ _ _ _ _ q=>le_int q
theorem n5:hA X (compareOp .Gt) (nN fun i j=>.bk (decide (j < i))):=yK fun _ _ _ _ _ _ _ q=>gt_int q
theorem abl:hA X (compareOp .GtE) (nN fun i j=>.bk (decide (j <= i))):=yK fun _ _ _ _ _ _ _ q=>ge_int q
theorem ZV:hA X (compareOp .In) (fun x y H Q=>∃ i j,x=.str i/\y=.str j/\Q (.bk (!(qI j i 0 j.length 1).isEmpty)) H):=by
 intro ae s σ H x y v u Q J bj bp h;obtain ⟨i,j,rfl,rfl,q⟩:=h;obtain ⟨t,rfl⟩:=bj;obtain ⟨t',rfl⟩:=bp;exact in_str (e_ J q rfl)
theorem D5:hA X (compareOp .Is) (fun x y H Q=>y=.b6/\Q (.bk (decide (x=.b6))) H):=by
 intro ae s σ H x y v u Q J bj bp h;obtain ⟨rfl,q⟩:=h;cases bp;refine is_none_gen (e_ J q ?_);cases x <;> first
  | (cases bj;rfl)
  | (obtain ⟨t,rfl⟩:=bj;rfl)
theorem DF:hA X (compareOp .IsNot) (fun x y H Q=>y=.b6/\Q (.bk (!decide (x=.b6))) H):=by
 intro ae s σ H x y v u Q J bj bp h;obtain ⟨rfl,q⟩:=h;cases bp;refine isnot_none_gen (e_ J q ?_);cases x <;> first
  | (cases bj;rfl)
  | (obtain ⟨t,rfl⟩:=bj;rfl)
theorem cc (b:Expr) (h:op ≠ .In:=by decide) (ak:op ≠ .NotIn:=by decide):behindInMarks op b=false:=by
 have au:(op == CmpOp.In)=false:=by cases op <;> first | rfl | exact absurd rfl h
 have aH:(op == abr)=false:=by cases op <;> first | rfl | exact absurd rfl ak
 cases b <;> simp [behindInMarks,au,aH]
theorem gH (aY:hA X (compareOp op) r) (aS:bq X a a_) (aa:bq X b bP) (hm:behindInMarks op b=false):bq X (.Compare a [op] [b] pos) (qX r a_ bP):=by
 intro ae s σ H Q J h;exact wpAny_Compare1 (HB aS aa J h fun v u s2 x y aw bR bj bp q=>aY ae s2 σ aw x y v u Q bR bj bp q) hm
noncomputable def CL (t:TE):TT:=fun σ H Q=>t σ H fun x I=>jw x fun k=>Q k I
theorem cU (aY:hA X (compareOp op) r) (aS:bq X a a_) (aa:bq X b bP) (hm:behindInMarks op b=false):iX X (.Compare a [op] [b] pos) (CL (qX r a_ bP)):=by
 intro ae s σ H Q J h;refine wpAny_isTrue_Compare1 (bC (aS ae s σ H _ J h) fun v s1 ⟨x,H1,a5,cQ,bG⟩=>bC (aa ae s1 σ H1 _ a5 bG) fun u s2 ⟨y,aw,bR,hx,dM⟩=>
  bC (aY ae s2 σ aw x y v u _ bR cQ hx dM) fun c s3 ⟨z,bf,eQ,CU,gP⟩=>?_) hm
 obtain ⟨k,e,hZ⟩:=jw.out gP;subst e;cases CU;exact wpAny_truthy_bool ⟨bf,eQ,hZ⟩
def L6 (K:ba) (x:V) (H:ar) (k:Bool):Prop:=
 match x with
 | .b6=>k=false
 | .bk b=>k=b
 | .int i=>k=(i != 0)
 | .str y=>y.length <= sizeLine/\k=((y.length:Int) != 0)
 | .kH y=>y.size <= sizeLine/\k=((y.size:Int) != 0)
 | .ref p=>(∃ xs,aC K H p xs/\k = !xs.isEmpty)\/(∃ xs,di K H p xs/\k = !xs.isEmpty)\/∃ kvs,H p=some (.bu kvs)/\k = !kvs.isEmpty
 | _=>False
theorem ack (r:en kvs vs):(!vs.isEmpty) = !kvs.isEmpty:=by
 cases r <;> rfl
theorem Ro {a':List Value} (r:b8 xs a'):(!a'.toArray.isEmpty) = !xs.isEmpty:=by
 cases r <;> simp
theorem tb:(sizeLine:Nat) < 2 ^ 63:=by rw [sizeLine_eq];decide
theorem S5:adx X (fun x H Q=>∃ k,L6 X.K x H k/\Q k H):=by
 intro ae s σ H x v Q J bj h;obtain ⟨k,e,q⟩:=h;have aL:=tb;have av:sizeLine=16777216:=sizeLine_eq;cases x with
 | b6=>
  cases bj;have bT:k=false:=e;subst bT;exact truthy_none ⟨H,J,q⟩
 | bk b=>
  cases bj;have bT:k=b:=e;subst bT;exact wpAny_truthy_bool ⟨H,J,q⟩
 | int i=>
  obtain ⟨t,rfl⟩:=bj;have bT:k=(i != 0):=e;subst bT;exact PySem.P.truthy_int ⟨H,J,q⟩
 | str y=>
  obtain ⟨t,rfl⟩:=bj;obtain ⟨bg,bT⟩:y.length <= sizeLine/\k=((y.length:Int) != 0):=e;subst bT;exact PySem.P.truthy_str (by omega) ⟨H,J.tok _,q⟩
 | kH y=>
  obtain ⟨t,rfl⟩:=bj;obtain ⟨bg,bT⟩:y.size <= sizeLine/\k=((y.size:Int) != 0):=e;subst bT;exact PySem.W.truthy_bytes (by omega) ⟨H,J.tok _,q⟩
 | ref p=>
  cases bj;have bT:(∃ xs,aC X.K H p xs/\k = !xs.isEmpty)\/(∃ xs,di X.K H p xs/\k = !xs.isEmpty)\/∃ kvs,H p=some (.bu kvs)/\k = !kvs.isEmpty:=e;rcases bT with ⟨xs,ah,bT⟩ | ⟨xs,ah,bT⟩ | ⟨kvs,ah,bT⟩
  .subst bT;obtain ⟨a',r,pl,aT⟩:=J.list ah;have hlen:=r.length;exact wpAny_truthy_list pl.isList (by simp only [gQ];omega) ⟨H,J.tok _,by rw [Ro r];exact q⟩
  .subst bT;obtain ⟨a',r,pl,aT⟩:=J.tuple ah;have hlen:=r.length;exact truthy_tuple pl (by simp only [gQ];omega) ⟨H,J.tok _,by rw [Ro r];exact q⟩
  .subst bT;obtain ⟨aT,d4,vs,r,m⟩:kvs.length <= sizeLine/\(p == sysModules)=false/\∃ vs,en kvs vs/\s.heap.DictOf (re X.prog X.w) p vs:=J.bl p _ ah;have hlen:kvs.length=vs.length:=EN r;exact wpAny_truthy_dict d4 m (by omega) ⟨H,J.tok _,by rw [ack r];exact q⟩
 | _=>exact (show False from e).elim
theorem zr (aS:bq X a a_) (he:∀ whole,isTrue a X.env whole=(do let v <- whole;standAt a.pos;holding [v] (truthy v))) :
  iX X a (fun σ H Q=>a_ σ H fun x I=>∃ k,L6 X.K x I k/\Q k I):=by
 intro ae s σ H Q J h;exact isTrue_plain (bC (aS ae s σ H _ J h) fun v s1 ⟨x,H1,a5,cQ,bG⟩=>S5 ae s1 σ H1 x v Q a5 cQ bG) (he _)
theorem lL:hA X (binaryOp .Add) (fun x y H Q=>∃ i j,x=.str i/\y=.str j/\i.length + j.length <= sizeLine/\Q (.str (i ++ j)) H):=by
 intro ae s σ H x y v u Q J bj bp h;obtain ⟨i,j,rfl,rfl,aT,q⟩:=h;obtain ⟨t,rfl⟩:=bj;obtain ⟨t',rfl⟩:=bp;exact add_str (fun t' tk=>⟨.str (i ++ j),H,J.tok _,⟨_,rfl⟩,q⟩) aT
theorem lZ {x:V} (r:b8 [x] us):∃ u,us=[u]/\bI x u:=by
 cases r with
 | cons cQ hx=>cases hx;exact ⟨_,rfl,cQ⟩
theorem Vw {x y:V} (r:b8 [x,y] us):∃ u eN,us=[u,eN]/\bI x u/\bI y eN:=by
 cases r with
 | cons cQ hx=>
  cases hx with
  | cons CU aeF=>cases aeF;exact ⟨_,_,rfl,cQ,CU⟩
theorem WZ (ay:X.calm=true):ma X (.builtin "max") (fun xs H Q=>∃ i j,xs=[.int i,.int j]/\Q (.int (if j > i then j else i)) H):=by
 intro ae s σ H xs us Q J r h;obtain ⟨i,j,rfl,q⟩:=h;obtain ⟨u,eN,rfl,⟨t,rfl⟩,⟨t',rfl⟩⟩:=Vw r;refine max_two_ints (J.ok.hd ay) fun h' tk k=>⟨_,H,J.kept k,?_,q⟩
 by_cases aJ:j > i
 .rw [if_pos aJ,if_pos aJ];exact ⟨_,rfl⟩
 .rw [if_neg aJ,if_neg aJ];exact ⟨_,rfl⟩
theorem Nk:ma X (.type "int") (fun xs H Q=>(∃ i,xs=[.int i]/\Q (.int i) H)\/∃ k,xs=[.bk k]/\Q (.int (if k then 1 else 0)) H):=by
 intro ae s σ H xs us Q J r h;rcases h with ⟨i,rfl,q⟩ | ⟨k,rfl,q⟩
 .obtain ⟨u,rfl,t,rfl⟩:=lZ r;exact call_int_int ⟨.int i,H,J,⟨_,rfl⟩,q⟩
 .obtain ⟨u,rfl,cQ⟩:=lZ r;cases cQ;exact call_int_bool ⟨.int (if k then 1 else 0),H,J.tok _,⟨_,rfl⟩,q⟩
theorem wa:ma X (.type "str") (fun xs H Q=>∃ i,xs=[.int i]/\i.natAbs.log2 < 1920/\Q (.str (toString i)) H):=by
 intro ae s σ H xs us Q J r h;obtain ⟨i,rfl,aT,q⟩:=h;obtain ⟨u,rfl,t,rfl⟩:=lZ r;exact PySem.P.str_of_int aT ⟨.str _,H,J.tok _,⟨_,rfl⟩,q⟩
end
structure q6 (h:Heap) (x aq C:Addr) (dR:Str->Option Value):Prop where
 obj:h.get? x=some (qT C aq)
 ns:h.Ns1 aq dR
 ne:aq ≠ x
theorem Xm {h:Heap} (n:h.Ns1 aq dR):∃ dn,h.get? aq=some dn/\∀ name,C_ name dn=some (dR name):=by
 obtain ⟨o,a3,cG,aY,hd,az,_,hm⟩:=n;refine ⟨o,aY,fun name=>?_⟩;have e:=hm name;unfold nsFind findBy at e;rw [<- Array.find?_toList] at e;unfold C_;rw [hd];dsimp only;split
 .rename_i y q;rw [q] at e;exact congrArg some e
 .rename_i q;rw [q] at e;have a:a3.toList.any (·.refKey)=false:=by
   rw [IL];intro y bg;obtain ⟨z,t,aau⟩:=az y (Array.mem_toList_iff.mp bg);simp [DictEntry.refKey,aau]
  have uv:¬ a3.toList.any (·.refKey)=true:=by rw [a];exact fm
  rw [if_neg uv];exact congrArg some e
theorem q6.look {h:Heap} {x aq C:Addr} (J:q6 h x aq C dR):∃ dn,PySem.W.InstAt h x (qT C aq) C (some dn)/\∀ name,C_ name dn=some (dR name):=
 let ⟨dn,aY,aL⟩:=Xm J.ns
 ⟨dn,⟨J.obj,rfl,rfl,aY⟩,aL⟩
section
variable {prog:Program} {w:World} {A:Around} {E:Value->Shared->Prop} {s:Shared} {K:ba} {x aq C f:Addr} {dR:Str->Option Value} {name:Str} {v:Value}
theorem SW (X:K.In s.heap) (J:q6 s.heap x aq C dR) (aQ:Fp K C name=true) (dr:B4 K C=true)
  (aS:dp K (.ref C) name=some none) (aI:dR name=some v) (U7:Xq v=true) (h:Q v { s with toks:=s.toks + 1 }) :
  wpAny (model prog w) A (getAttr (.ref x) name expr) Q E s:=by
 obtain ⟨dn,bF,aL⟩:=J.look;exact PySem.W.get_value X bF (OA aQ).1 (PySem.W.findObj_own dr aS rfl (by rw [aL,aI])) U7 h
theorem U3 (X:K.In s.heap) (J:q6 s.heap x aq C dR) (aQ:Fp K C name=true)
  (hf:dp K (.ref C) name=some (some (.ref f))) (cq:J4 K (.ref f)=true) (aI:dR name=none) (h:Q (.ref f,[.ref x]) s) :
  wpAny (model prog w) A (getMethod (.ref x) name pl) Q E s:=by
 obtain ⟨dn,bF,aL⟩:=J.look;exact PySem.W.method_fn X bF (OA aQ).1 (OA aQ).2 hf (beq_iff_eq.mp cq) (by show (C_ name dn).map (·.isSome)=some false;rw [aL,aI];rfl) h
theorem XQ {ns:List Str} (X:K.In s.heap) (J:q6 s.heap x aq C dR)
  (av:dp K (.ref C) "__setattr__"=some (some (.builtin "object.__setattr__"))) (ax:V0 K C=true) (cq:Nl K C name=some none) (dr:B4 K C=true)
  (hw:Gn dR ns) (hsz:ns.length <= sizeLine)
  (h:∀ h',q6 h' x aq C (fun y=>if y=name then some v else dR y)->vb aq s.heap h'->Q () { s with heap:=h',toks:=s.toks + 2 }) :
  wpAny (model prog w) A (setAttr (.ref x) name v) Q E s:=by
 obtain ⟨dn,bF,aL⟩:=J.look;refine PySem.W.set_plain X bF av (PySem.W.osa_open (s:={ s with toks:=s.toks + 1 }) (r:=none) X bF ax cq fun b=>?_);obtain ⟨cd,ay,FV⟩:=PySem.W.any_some dr;have ah:s.heap.get? x=some ⟨.ref C,some aq,.plain,#[]⟩:=J.obj;refine wpAny_bind (wpAny_pure (wpAny_bind (wpAny_bind (wpAny_loadPart ah (wpAny_bind (ajc (s:={ s with toks:=s.toks + 1 }) (PySem.W.looks_clsIn X ay) ?_))))));rw [FV];refine wpAny_pure (a:=some aq) (wpAny_bind (wpAny_pure (wpAny_bind ?_)));refine wpAny_nsSet1 (s:={ s with toks:=s.toks + 1 }) J.ns fun h' pB la=>?_
 obtain ⟨aiS,aka,alp,aaL,acH,UY⟩:=pB.count (ajg name v hw);refine wpAny_bind (wpAny_lookBehind aaL (by rw [acH];exact pastItsLine_dict (c_ UY (by rw [iu];omega))) ?_);exact wpAny_pure (h _ ⟨(la.2 _ (dW J.ne)).trans J.obj,pB,J.ne⟩ la)
theorem aad (X:K.In s.heap) (hm:acF K C=true)
  (ag:dp K (.ref C) "__init__"=some (some (.ref f))) (hf:U4 K (.ref f)=some (.type "function"))
  (h:codeAny (model prog w) (A.under (.builtin "type.__call__" ⟨.ref C :: vs,kw⟩)) (.call (.ref f) ⟨.ref (s.heap.objs.size + 1) :: vs,kw⟩) (PySem.W.InitBack (s.heap.objs.size + 1) R)
   { s with heap:=(s.heap.push pO).push (qT C s.heap.objs.size) }) :
  codeAny (model prog w) A (.call (.ref C) ⟨vs,kw⟩) R s:=by
 obtain ⟨dr,g,d,t,os⟩:=s;exact PySem.W.make_core (PySem.W.makes_of X hm) (PySem.W.looks_findIn X ag) (fun self=>PySem.W.bind_fn X self hf) (.inl rfl) h
end
noncomputable def cZ (f:Str) (v:V):List (Str × V)->List (Str × V)
 | []=>[(f,v)]
 | (g,x) :: r=>if g=f then (g,v) :: r else (g,x) :: cZ f v r
theorem LO (f g:Str) (v:V):∀ aN:List (Str × V),(cZ f v aN).lookup g=if g=f then some v else aN.lookup g
 | []=>by
  show oW g [(f,v)]=_;by_cases h:g=f
  .have aa:(g == f)=true:=beq_iff_eq.mpr h;simp only [oW,aa,if_pos h]
  .have aa:(g == f)=false:=beq_eq_false_iff_ne.mpr h;simp only [oW,aa,if_neg h]
 | (k,x) :: r=>by
  have b4:=LO f g v r;rw [show cZ f v ((k,x) :: r)=(if k=f then (k,v) :: r else (k,x) :: cZ f v r) from rfl];by_cases az:k=f
  .rw [if_pos az];by_cases h:g=k
   .have aa:(g == k)=true:=beq_iff_eq.mpr h;simp only [oW,aa,if_pos (h.trans az)]
   .have aa:(g == k)=false:=beq_eq_false_iff_ne.mpr h;simp only [oW,aa,if_neg (fun e:g=f=>h (e.trans az.symm))]
  .rw [if_neg az];by_cases h:g=k
   .have aa:(g == k)=true:=beq_iff_eq.mpr h;simp only [oW,aa,if_neg (fun e:g=f=>az (h.symm.trans e))]
   .have aa:(g == k)=false:=beq_eq_false_iff_ne.mpr h;simp only [oW,aa];exact b4
theorem HX (f:Str) (v:V):∀ aN:List (Str × V),f ∈ (cZ f v aN).map (·.1)/\∀ g,g ∈ aN.map (·.1)->g ∈ (cZ f v aN).map (·.1)
 | []=>⟨by simp [cZ],fun g h=>by simp at h⟩
 | (k,x) :: r=>by
  obtain ⟨i1,i2⟩:=HX f v r;rw [show cZ f v ((k,x) :: r)=(if k=f then (k,v) :: r else (k,x) :: cZ f v r) from rfl];by_cases az:k=f
  .rw [if_pos az];subst az;exact ⟨by simp,fun g h=>by simpa using h⟩
  .rw [if_neg az];refine ⟨?_,fun g h=>?_⟩
   .rw [er];exact hM _ i1
   .rw [er] at h ⊢;rcases eJ.mp h with e | e
    .exact eJ.mpr (.inl e)
    .exact hM _ (i2 g e)
theorem I6 (f:Str) (v:V):∀ aN:List (Str × V),(cZ f v aN).length <= aN.length + 1
 | []=>by simp [cZ]
 | (k,x) :: r=>by
  have b4:=I6 f v r;rw [show cZ f v ((k,x) :: r)=(if k=f then (k,v) :: r else (k,x) :: cZ f v r) from rfl];by_cases az:k=f
  .rw [if_pos az,iu,iu];omega
  .rw [if_neg az,iu,iu];omega
theorem hF.some_of (r:hF (some v) o):∃ u,o=some u/\bI v u:=by
 cases o with
 | none=>exact (show False from r).elim
 | some u=>exact ⟨u,rfl,r⟩
theorem hF.none_of (r:hF none o):o=none:=by
 cases o with
 | none=>rfl
 | some u=>exact (show False from r).elim
theorem WF (r:bI v u):Xq u=true:=by
 cases v with
 | b6=>cases (show u=rI from r);rfl
 | bk b=>cases (show u=kj b from r);rfl
 | int i=>obtain ⟨t,e⟩:=(show ∃ t,u=od i t from r);cases e;rfl
 | str x=>obtain ⟨t,e⟩:=(show ∃ t,u=vM x t from r);cases e;rfl
 | kH b=>obtain ⟨t,e⟩:=(show ∃ t,u=ab0 b t from r);cases e;rfl
 | sa b=>obtain ⟨t,e⟩:=(show ∃ t,u=adq b t from r);cases e;rfl
 | ref a=>cases (show u=fC a from r);rfl
 | ty n=>cases (show u=ais n from r);rfl
section
variable {P:Program} {w:World} {H I:ar} {h h':Heap} {a C aq:Addr} {aN mc:List (Str × V)}
theorem sv (bl:et P w H h) (e:H a=some (.ins C aq aN)):∃ dR,q6 h a aq C dR/\(∀ f,hF (aN.lookup f) (dR f))/\Gn dR (aN.map (·.1))/\aN.length <= 1000/\H aq=some (.own a):=by
 obtain ⟨d,z,ne,b0,dR,n,r,q⟩:=(show ed P w H h a (.ins C aq aN) from bl a _ e);exact ⟨dR,⟨b0,n,ne⟩,r,q,z,d⟩
end
structure gX (K:ba) (C:Addr):Prop where
 Uu:Fp K C Str.empty=true
 hd:B4 K C=true
 po:V0 K C=true
 aX:dp K (.ref C) "__setattr__"=some (some (.builtin "object.__setattr__"))
theorem gX.get {K:ba} (c:gX K C) (f:Str):Fp K C f=true:=c.Uu
def ac (K:ba) (C:Addr) (f:Str):Prop:=dp K (.ref C) f=some none
theorem ac.S' {K:ba} (n:ac K C f):Nl K C f=some none:=by
 unfold Nl;rw [show dp K (.ref C) f=some none from n];rfl
structure ake (K:ba) (C:Addr) (f:Str) (v:V) (u:Value):Prop where
 at_:dp K (.ref C) f=some (some u)
 rel:bI v u
 get:sf K u "__get__"=some none
 tm:PySem.W.copiedNames.contains f=false
structure fD (K:ba) (C:Addr) (m:Str) (f:Addr):Prop where
 at_:dp K (.ref C) m=some (some (.ref f))
 fn:J4 K (.ref f)=true
 bN:qV K (.ref f)=true
section
variable {X:a7} {ae:List (Addr × Obj)} {σ:St} {H:ar} {s:Shared} {a C aq:Addr} {aN:List (Str × V)} {f:Str} {v:V} {A:Around} {E:Value->Shared->Prop}
theorem PQ (J:Inv X ae σ H s) (e:H a=some (.ins C aq aN)) (c:gX X.K C) (n:ac X.K C f) (l:aN.lookup f=some v)
  (h:∀ u ai,Inv X ae σ H ai->bI v u->Q u ai):wpAny (model X.prog X.w) A (getAttr (.ref a) f b) Q E s:=by
 obtain ⟨dR,O,r,_,_,_⟩:=sv J.bl e;obtain ⟨u,bx,fw⟩:=hF.some_of (v:=v) (o:=dR f) (by rw [<- l];exact r f);exact SW J.iV O (c.get f) c.hd n bx (WF fw) (h u _ (J.tok _) fw)
theorem D3 (J:Inv X ae σ H s) (e:H a=some (.ins C aq aN)) (c:gX X.K C) (k:fD X.K C m g) (l:aN.lookup m=none)
  (h:Q (.ref g,[.ref a]) s):wpAny (model X.prog X.w) A (getMethod (.ref a) m pl) Q E s:=by
 obtain ⟨dR,O,r,_,_,_⟩:=sv J.bl e;have a4:dR m=none:=hF.none_of (by rw [<- l];exact r m);exact U3 J.iV O (c.get m) k.at_ k.fn a4 h
theorem lw (J:Inv X ae σ H s) (e:H a=some (.ins C aq aN)) (c:gX X.K C) (n:ac X.K C f) (aL:aN.length < 1000) (bp:bI y u)
  (h:∀ ai,Inv X ae σ (upd H a (.ins C aq (cZ f y aN))) ai->Q () ai):wpAny (model X.prog X.w) A (setAttr (.ref a) f u) Q E s:=by
 obtain ⟨dR,O,r,hk,_,aY⟩:=sv J.bl e;have aT:(aN.map (·.1)).length <= sizeLine:=by rw [aZ,sizeLine_eq];omega
 refine XQ J.iV O c.aX c.po n.S' c.hd hk aT fun h' Gb nA=>h _ ?_
 have hd:∃ o,h'.get? aq=some o:=let ⟨o,_,_,bT,_⟩:=Gb.ns;⟨o,bT⟩;refine J.write (x:=a) (e:=aq) (by rw [e];exact kO) (.inr aY) (fun b q aa z=>(nA.2 b aa).trans z) hd ?_;refine ⟨by rw [aE O.ne];exact aY,?_,O.ne,Gb.obj,_,Gb.ns,fun g=>?_,fun g aQ=>?_⟩
 .have:=I6 f y aN;omega
 .show hF ((cZ f y aN).lookup g) (if g=f then some u else dR g);rw [LO];by_cases q:g=f
  .rw [if_pos q,if_pos q];exact bp
  .rw [if_neg q,if_neg q];exact r g
 .by_cases q:g=f
  .rw [q];exact (HX f y aN).1
  .refine (HX f y aN).2 g (hk g fun z=>aQ ?_);show (if g=f then some u else dR g)=none;rw [if_neg q];exact z
theorem Inv.made (J:Inv X ae σ H s):Inv X ae σ (upd (upd H s.heap.objs.size (.own (s.heap.objs.size + 1))) (s.heap.objs.size + 1) (.ins C s.heap.objs.size []))
  { s with heap:=(s.heap.push pO).push (qT C s.heap.objs.size) }:=by
 have au:(s.heap.push pO).get? s.heap.objs.size=some pO:=hI s.heap rfl;have aH:((s.heap.push pO).push (qT C s.heap.objs.size)).get? (s.heap.objs.size + 1)=some (qT C s.heap.objs.size):=by
  have:=hI (s.heap.push pO) (o:=qT C s.heap.objs.size) rfl;rwa [N8] at this
 have bX:(s.heap.push pO).Ns s.heap.objs.size (fun _=>none):=⟨pO,#[],_,au,rfl,(fun e he=>absurd he (by simp)),fun _=>rfl⟩;have a5:=J.laid (a:=s.heap.objs.size) (o:=.own (s.heap.objs.size + 1)) (h':=s.heap.push pO) (t':=s.toks) (fun b u q=>eU _ q) (cn _) ⟨_,au⟩;refine a5.laid (a:=s.heap.objs.size + 1) (o:=.ins C s.heap.objs.size []) (t':=s.toks) (fun b u q=>eU _ q) (Xt (N8 _ _)) ?_;have ne:s.heap.objs.size ≠ s.heap.objs.size + 1:=gv (Dz _);refine ⟨by rw [aE ne,aV],fi _,ne,aH,fun _=>none,(Heap.Ns1.of_empty bX).at fun o q=>eU _ q,fun _=>kO,fun y bg=>absurd rfl bg⟩
theorem aat {prog:Program} {w:World} {env:Env} {e:Expr} (aa:attributeBase e f env (eval e env)=eval e env)
  (h:wpAny (model prog w) A (eval e env) (fun o dd=>wpAny (model prog w) A (getAttr o f true) Q E dd) E s):wpAny (model prog w) A (eval (.Attribute e f pos) env) Q E s:=
 Attribute_any_ h (by rw [arm_eval_Attribute,aa])
end
def fA (K:ba) (H:ar) (a:Addr) (f:Str) (v:V):Prop:=∃ C aq aN,H a=some (.ins C aq aN)/\gX K C/\ac K C f/\aN.lookup f=some v
noncomputable def PP (K:ba) (a_:TE) (f:Str):TE:=fun σ H Q=>a_ σ H fun x H1=>fe x fun a=>∃ v,fA K H1 a f v/\Q v H1
noncomputable def Kt (K:ba) (a_ fK:TE) (f:Str):d6:=fun D σ H=>fK σ H fun y H1=>a_ σ H1 fun x aw=>fe x fun a=>∃ C aq aN,aw a=some (.ins C aq aN)/\gX K C/\ac K C f/\aN.length < 1000 /\
 D.cf σ (upd aw a (.ins C aq (cZ f y aN)))
def MH (X:a7) (op:Operator) (kk:V->V->ar->cX->Prop):Prop:=
 ∀ (ae:List (Addr × Obj)) (s:Shared) (σ:St) (H:ar) (x y:V) (u v:Value) (Q:cX),Inv X ae σ H s->bI x u->bI y v->kk x y H Q->wpAny (model X.prog X.w) X.A (inplaceOp op u v) (gJ X ae σ Q) X.dK s
noncomputable def Kl (K:ba) (a_ fK:TE) (kk:V->V->ar->cX->Prop) (f:Str):d6:=fun D σ H=>a_ σ H fun x H1=>∃ a C aq aN v,x=.ref a/\H1 a=some (.ins C aq aN)/\gX K C/\ac K C f/\aN.lookup f=some v /\
 fK σ H1 fun y aw=>kk v y aw fun z bf=>∃ g9 mc,bf a=some (.ins C g9 mc)/\mc.length < 1000/\D.cf σ (upd bf a (.ins C g9 (cZ f z mc)))
section
variable {X:a7} {o e value:Expr} {f:Str} {pos pos' xH:Pos} {a_ fK:TE}
theorem bA (he:bq X e a_) (aa:attributeBase e f X.env (eval e X.env)=eval e X.env):bq X (.Attribute e f pos) (PP X.K a_ f):=by
 intro ae s σ H Q J h;refine aat aa (bC (he ae s σ H _ J h) fun u s1 bw=>?_);obtain ⟨x,H1,a5,bj,gP⟩:=bw;obtain ⟨a,ex,v,⟨C,aq,aN,h6,c,n,l⟩,q⟩:=fe.out gP;subst ex;obtain rfl:u=fC a:=bj;exact PQ a5 h6 c n l fun sh s2 bR fw=>⟨v,H1,bR,fw,q⟩
theorem eR (aS:bq X o a_) (aI:bq X value fK) (av:swapsWith value (some (.Attribute o f pos')) pos.line X.env=pure false):hy X (.Assign [.Attribute o f pos'] value pos) (Kt X.K a_ fK f):=by
 intro ae s σ H D J h;refine plainObj_wpAny_Assign_Attribute (bC (aI ae s σ H _ J h) fun u s1 ⟨y,H1,a5,bp,q⟩=>bC (aS ae s1 σ H1 _ a5 q) fun ht s2 bw=>?_) av;obtain ⟨x,aw,bR,bj,gP⟩:=bw;obtain ⟨a,ex,C,aq,aN,h6,c,n,l,dM⟩:=fe.out gP;subst ex;obtain rfl:ht=fC a:=bj;exact lw bR h6 c n l bp fun s3 eQ=>⟨σ,_,eQ,dM⟩
theorem Ew {kk:V->V->ar->cX->Prop} (aS:bq X o a_) (aI:bq X value fK) (Uc:MH X op kk):hy X (.AugAssign (.Attribute o f xH) op value pos) (Kl X.K a_ fK kk f):=by
 intro ae s σ H D J h;refine wpAny_AugAssign_AttributeAny (bC (aS ae s σ H _ J h) fun ht s1 bw=>?_);obtain ⟨x,H1,a5,bj,a,C,aq,aN,v,ex,h6,c,n,l,q⟩:=bw;subst ex;obtain rfl:ht=fC a:=bj;refine PQ a5 h6 c n l fun u s2 bR fw=>bC (aI ae s2 σ H1 _ bR q) fun hu s3 ⟨y,aw,eQ,bp,hZ⟩=>bC (Uc ae s3 σ aw v y u hu _ eQ fw bp hZ) fun hr s4 bw=>?_
 obtain ⟨z,bf,hS,Ie,g9,mc,afQ,l',I1⟩:=bw;exact lw hS afQ c n l' Ie fun s5 xa=>⟨σ,_,xa,I1⟩
noncomputable def Cy:V->V->ar->cX->Prop:=fun x y H Q=>∃ i j,x=.int i/\y=.int j/\Q (.int (i + j)) H
theorem EK:MH X .Add Cy:=by
 rintro ae s σ H x y u v Q J bj bp ⟨i,j,rfl,rfl,q⟩;obtain ⟨t,rfl⟩:=(show ∃ t,u=od i t from bj);obtain ⟨t',rfl⟩:=(show ∃ t',v=od j t' from bp);exact ak7 ⟨.int (i + j),H,J.tok _,⟨_,rfl⟩,q⟩
end
section
variable {X:a7} {ae:List (Addr × Obj)} {σ:St} {H:ar} {s:Shared} {A:Around} {E:Value->Shared->Prop} {Q:Value->Shared->Prop} {c:Value} {b:Bool}
inductive l3 (K:ba) (H:ar):V->Value->Prop where
 | b6:l3 K H .b6 (.type "NoneType")
 | bk (x:Bool):l3 K H (.bk x) (.type "bool")
 | int (i:Int):l3 K H (.int i) (.type "int")
 | str (x:Str):l3 K H (.str x) (.type "str")
 | sa (x:UInt64):l3 K H (.sa x) (.type "float")
 | lst {a:Addr} {xs:List V} (e:H a=some (.lst xs)):l3 K H (.ref a) (.type "list")
 | eM {a:Addr} {o:Obj} {xs:List V} (e:H a=some (.eM o (.lst xs))):l3 K H (.ref a) (.type "list")
 | tup {a:Addr} {xs:List V} (e:H a=some (.tup xs)):l3 K H (.ref a) (.type "tuple")
 | bu {a:Addr} {kvs:List (Key × V)} (e:H a=some (.bu kvs)):l3 K H (.ref a) (.type "dict")
 | fL {a:Addr} {kvs:List (List Key × V)} (e:H a=some (.fL kvs)):l3 K H (.ref a) (.type "dict")
 | ins {a C aq:Addr} {aN:List (Str × V)} (e:H a=some (.ins C aq aN)) (cl:gX K C) (aS:dp K (.ref C) "__class__"=some (some (.builtin "object.__class__")))
   (a4:sf K (.builtin "object.__class__") "__get__"=some (some (.builtin "getset_descriptor.__get__"))) (z_:CR K (.builtin "object.__class__")=some true)
   (hm:Du K C (.type "object")=some true):l3 K H (.ref a) (.ref C)
end
structure ec (k:Nat) (A:Around):Prop where
 hd:A.handled=none
 g0:A.depth + 3 * k + 5 < recursionLimit
 un:A.units + 16 * k + 200 < cLine
theorem ec.mono {j k:Nat} {A:Around} (r:ec k A) (h:j <= k):ec j A:=⟨r.hd,by have:=r.g0;omega,by have:=r.un;omega⟩
theorem ec.deeper {k:Nat} {A:Around} (r:ec (k + 1) A) (env:Env):ec k (A.deeper env):=
 ⟨r.hd,by have:=r.g0;show A.depth + 1 + 3 * k + 5 < _;omega,by have:=r.un;show A.units + 3 + 16 * k + 200 < _;omega⟩
theorem ec.in1 {k:Nat} {A:Around} (r:ec (k + 1) A):ec k A.in1:=
 ⟨r.hd,by have:=r.g0;show A.depth + 3 * k + 5 < _;omega,by have:=r.un;show A.units + 1 + 16 * k + 200 < _;omega⟩
theorem ae3 {A:Around}:(A.under (.builtin "type.__call__" ⟨.ref C :: us,kw⟩)).depth=A.depth + 1:=by
 first | rfl | simp [Qh,Code.weight,Code.isCreation,Code.isGuard,Code.isCaller,abA,Qz,guardIds]
theorem ahX {A:Around}:(A.under (.builtin "type.__call__" ⟨.ref C :: us,kw⟩)).units=A.units + 1:=by
 first | rfl | simp [Qh,Code.cUnits,abA,Qz]
theorem ec.make {k:Nat} {A:Around} (r:ec (k + 1) A) (C:Addr) (us:List Value) (kw:List (Str × Value)):ec k (A.under (.builtin "type.__call__" ⟨.ref C :: us,kw⟩)):=
 ⟨r.hd,by have:=r.g0;rw [ae3];omega,by have:=r.un;rw [ahX];omega⟩
theorem ec.depth {k:Nat} {A:Around} (r:ec k A):A.depth < recursionLimit:=by have:=r.g0;omega
theorem ec.units {k:Nat} {A:Around} (r:ec k A):A.units + 64 < cLine:=by have:=r.un;omega
noncomputable def w9:fE:=fun _ H Q=>Q [] H
noncomputable def De (a_:TE) (qo:fE):fE:=fun σ H Q=>a_ σ H fun x H1=>qo σ H1 fun xs aw=>Q (x :: xs) aw
section
variable {X:a7} {e:Expr} {a3:List Expr} {bL:TE} {t:fE} {pos:Pos}
theorem aG:jN X [] w9:=fun _ _ _ _ H Q J h=>MP ⟨[],H,J,.nil,h⟩
theorem aj (aS:bq X e bL) (ao:jN X a3 t) (av:starEach (e :: a3) X.env=(false,eval e X.env) :: starEach a3 X.env:=by rfl):jN X (e :: a3) (De bL t):=by
 intro pos ae s σ H Q J h;rw [av];show wpAny _ _ (spliced ((false,eval e X.env) :: backTo pos (starEach a3 X.env))) _ _ s;refine Cj (bC (aS ae s σ H _ J h) fun u s1 bw=>?_);obtain ⟨x,H1,a5,cQ,bG⟩:=bw;exact bC (ao pos ae s1 σ H1 _ a5 bG) fun us s2 ⟨xs,aw,bR,hx,dM⟩=>⟨x :: xs,aw,bR,.cons cQ hx,dM⟩
noncomputable def Ih (t:fE):TE:=fun σ H Q=>t σ H fun xs H1=>xs.length <= sizeLine/\∀ p,H1 p=none->Q (.ref p) (upd H1 p (.tup xs))
noncomputable def DU (t:fE):TE:=fun σ H Q=>t σ H fun xs H1=>xs.length <= sizeLine/\∀ p,H1 p=none->Q (.ref p) (upd H1 p (.lst xs))
theorem tE {bH} (h:jN X a3 t):bq X (.Tuple a3 bH pos) (Ih t):=by
 intro ae s σ H Q J a0;refine wpAny_Tuple_spliced (bC (h pos ae s σ H _ J a0) fun us s1 ⟨xs,H1,a5,r,z,q⟩=>⟨by rw [<- r.length];exact z,?_⟩);have hf:H1 s1.heap.objs.size=none:=a5.bl.fresh (cn _);refine ⟨.ref s1.heap.objs.size,upd H1 s1.heap.objs.size (.tup xs),a5.laid (t':=s1.toks) (fun b u e=>eU _ e) (cn _) ?_,rfl,q _ hf⟩;exact ⟨z,us,r,⟨_,hI _ rfl,rfl,_,rfl⟩⟩
theorem gK (h:jN X a3 t):bq X (.List a3 pos) (DU t):=by
 intro ae s σ H Q J a0;refine wpAny_List_spliced (bC (h pos ae s σ H _ J a0) fun us s1 ⟨xs,H1,a5,r,z,q⟩=>⟨by rw [<- r.length];exact z,?_⟩);have hf:H1 s1.heap.objs.size=none:=a5.bl.fresh (cn _);refine ⟨.ref s1.heap.objs.size,upd H1 s1.heap.objs.size (.lst xs),a5.laid (t':=s1.toks) (fun b u e=>eU _ e) (cn _) ?_,rfl,q _ hf⟩;exact ⟨z,us,0,r,hI _ rfl⟩
end
noncomputable abbrev bU:=List V->ar->cX->fS->Prop
noncomputable abbrev jl:=List Env->ar->Shared->fS->Value->Shared->Prop
structure mM (P:Program) (w:World) (K:ba) (mg:Str->Option Value) (base:Heap) (A:Around) (outer:List Env) (s:Shared) (H:ar):Prop where
 frames:A.frames=some outer
 mod:Mod K mg base
 bs:∀ b o,base.get? b=some o->s.heap.get? b=some o/\H b=none
 jW:base.objs.size <= s.heap.objs.size
 jJ:s.heap.FunFrames base outer
 mS:∀ b ∈ lu outer,H b=none
 bl:et P w H s.heap
 bare:AllBare s.gens
def Iu (outer:List Env) (P:Program) (w:World) (H:ar) (s:Shared) (Q:cX) (u:Value) (ai:Shared):Prop:=
 ∃ v I,ai.os=s.os/\AllBare ai.gens/\eY (lu outer) [] H I s.heap ai.heap/\et P w I ai.heap/\bI v u/\Q v I
def DW (CX:jl) (outer:List Env) (P:Program) (w:World) (H:ar) (s:Shared) (Q:cX) (E:fS) (r:Result) (ai:Shared):Prop:=
 match r with
 | .ok (.ret u)=>Iu outer P w H s Q u ai
 | .ok _=>False
 | .error e=>CX outer H s E e ai
structure cH (P:Program) (w:World) (K:ba) (mg:Str->Option Value) (base:Heap) (CX:jl) (k:Nat) (f:Addr) (fd:FuncData) (ps:List Str) (sp:bU):Prop where
 len:∀ vs H Q E,sp vs H Q E->vs.length=ps.length
 run:∀ (A:Around) (outer:List Env) (s:Shared) (H:ar) (args:Args) (us:List Value) (vs:List V) (Q:cX) (E:fS),ec k A->mM P w K mg base A outer s H->BindsTo s fd args (ps.zip us)->b8 vs us->sp vs H Q E ->
  codeAny (model P w) A (.call (.ref f) args) (DW CX outer P w H s Q E) s
theorem cH.mono {w:World} {K:ba} {mg:Str->Option Value} {base:Heap} {j k:Nat} {fd:FuncData} (F:cH P w K mg base CX j f fd ps sp) (h:j <= k) :
  cH P w K mg base CX k f fd ps sp:=⟨F.len,fun A outer s H args us vs Q E ao=>F.run A outer s H args us vs Q E (ao.mono h)⟩
theorem cH.imp {w:World} {K:ba} {mg:Str->Option Value} {base:Heap} {k:Nat} {fd:FuncData} (F:cH P w K mg base CX k f fd ps sp)
  (h:∀ vs H Q E,u5 vs H Q E->sp vs H Q E):cH P w K mg base CX k f fd ps u5:=
 ⟨fun vs H Q E q=>F.len vs H Q E (h _ _ _ _ q),fun A outer s H args us vs Q E ao he aa aI av=>F.run A outer s H args us vs Q E ao he aa aI (h _ _ _ _ av)⟩
theorem mM.make {w:World} {K:ba} {mg:Str->Option Value} {base:Heap} {A:Around} {outer:List Env} (e:mM P w K mg base A outer s H) (C:Addr) (us:List Value) (kw:List (Str × Value)) :
  mM P w K mg base (A.under (.builtin "type.__call__" ⟨.ref C :: us,kw⟩)) outer s H:=⟨by first | exact e.frames | (simpa [Qh,Code.envs,Qz,pushEnvs] using e.frames),e.mod,e.bs,e.jW,e.jJ,e.mS,e.bl,e.bare⟩
theorem mM.in1 {w:World} {K:ba} {mg:Str->Option Value} {base:Heap} {A:Around} {outer:List Env} (e:mM P w K mg base A outer s H) :
  mM P w K mg base A.in1 outer s H:=⟨e.frames,e.mod,e.bs,e.jW,e.jJ,e.mS,e.bl,e.bare⟩
section
variable {X:a7} {ae:List (Addr × Obj)} {σ:St} {H:ar} {s ai:Shared}
theorem Inv.R3 (J:Inv X ae σ H s):mM X.prog X.w X.K X.mg X.base X.A X.stack s H:=
 ⟨J.ok.frames,J.ok.mod,J.bs,c_ J.ok.jW J.m',J.stack,J.IP,J.bl,J.bare⟩
theorem Inv.after (J:Inv X ae σ H s) (h:Iu X.stack X.prog X.w H s Q u ai):gJ X ae σ Q u ai:=by
 obtain ⟨v,I,os,bare,un,bl,r,q⟩:=h;obtain ⟨dr,g,d,t,ah3⟩:=ai;obtain rfl:ah3=s.os:=os;exact ⟨v,I,J.call (h':=dr) (g':=g) (d':=d) (t':=t) (ch:=[]) un bl bare (fun b z=>absurd z (by simp)),r,q⟩
end
noncomputable def uY (sp:bU) (dvs:List V) (E:fS) (t:fE):TE:=fun σ H Q=>t σ H fun vs H1=>sp (vs ++ dvs) H1 Q E
noncomputable def HR (C:Addr) (m:Str) (sp:bU) (dvs:List V) (E:fS) (a_:TE) (t:fE):TE:=fun σ H Q=>a_ σ H fun x H1=>fe x fun a=>∃ aq aN,H1 a=some (.ins C aq aN)/\aN.lookup m=none /\
 t σ H1 fun vs aw=>sp (x :: (vs ++ dvs)) aw Q E
noncomputable def M9 (C:Addr) (sp:bU) (dvs:List V) (E:fS) (t:fE):TE:=fun σ H Q=>t σ H fun vs H1=>∀ x aq,H1 x=none->H1 aq=none->aq ≠ x ->
 sp (.ref x :: (vs ++ dvs)) (upd (upd H1 aq (.own x)) x (.ins C aq [])) (fun v aw=>v=.b6/\Q (.ref x) aw) E
def b5 (K:ba) (fd:FuncData) (ps:List Str) (ds:List Value):Prop:=
 ∀ (s:Shared) (us:List Value),K.In s.heap->(us ++ ds).length=ps.length->BindsTo s fd ⟨us,[]⟩ (ps.zip (us ++ ds))
theorem b5.all {K:ba} {fd:FuncData} (h:∀ us:List Value,us.length=ps.length->bindArgs fd ⟨us,[]⟩=pure (ps.zip us)):b5 K fd ps []:=fun s us _ aL=>by
 rw [su] at aL ⊢;exact .of_eq (h us aL)
def o7 (CX:jl) (X:a7) (E:fS):Prop:=∀ (ae:List (Addr × Obj)) (σ:St) (H:ar) (s:Shared) (e:Value) (ai:Shared),Inv X ae σ H s->CX X.stack H s E e ai->X.dK e ai
section
variable {X:a7} {CX:jl} {k:Nat} {f C:Addr} {fd:FuncData} {ps:List Str} {sp:bU} {dvs:List V} {ds:List Value} {E:fS} {x m:Str} {p pos fs:Pos} {e o:Expr} {a3:List Expr} {a_:TE} {t:fE}
theorem wR (F:cH X.prog X.w X.K X.mg X.base CX k f fd ps sp) (ao:ec k X.A) (aa:b5 X.K fd ps ds) (hd:b8 dvs ds) (ah:o7 CX X E)
  (J:Inv X ae σ H s) (r:b8 vs us) (h:sp (vs ++ dvs) H Q E):wpAny (model X.prog X.w) X.A (call (.ref f) us) (gJ X ae σ Q) X.dK s:=by
 have hx:b8 (vs ++ dvs) (us ++ ds):=r.append hd;have aL:(us ++ ds).length=ps.length:=by rw [<- hx.length];exact F.len _ _ _ _ h
 refine wpAny_call (codeAny_mono (F.run X.A X.stack s H ⟨us,[]⟩ (us ++ ds) (vs ++ dvs) Q E ao J.R3 (aa s us J.iV aL) hx h) fun r ai a0=>?_);cases r with
 | error e=>exact ah ae σ H s e ai J a0
 | ok d3=>
  cases d3 with
  | ret u=>exact J.after a0
  | next=>exact iz a0
  | brk=>exact iz a0
  | cont=>exact iz a0
theorem afH (F:cH X.prog X.w X.K X.mg X.base CX k f fd ps sp) (ao:ec k X.A) (aQ:lS X x) (hm:X.mg x=some (.ref f)) (az:qV X.K (.ref f)=true) (aa:b5 X.K fd ps ds) (hd:b8 dvs ds) (ah:o7 CX X E)
  (aS:jN X (e :: a3) t) (mE:(x == ("__debug__" : Str))=false:=by decide) (he:starEach (e :: a3) X.env=(false,eval e X.env) :: starEach a3 X.env:=by rfl) (cR:(backTo pos (starEach a3 X.env)).any (·.1)=false:=by rfl) :
  bq X (.Call (.Name x p) (e :: a3) [] pos) (uY sp dvs E t):=by
 intro ae s σ H Q J h;refine wpAny_Call_Name_kw (y4 J aQ hm ?_ mE);refine EY (h₀:=X.base) J.ok.mod.sN az (bC (aS pos ae s σ H _ J h) fun us s1 ⟨vs,H1,a5,r,q⟩=>⟨a5.iV,?_⟩) he cR;exact wR F ao aa hd ah a5 r q
theorem e4 (he:bq X o a_) (c:gX X.K C) (hm:fD X.K C m f) (F:cH X.prog X.w X.K X.mg X.base CX k f fd ps sp) (ao:ec k X.A) (aa:b5 X.K fd ps ds) (hd:b8 dvs ds) (ah:o7 CX X E) (aS:jN X (e :: a3) t)
  (d0:starEach (e :: a3) X.env=(false,eval e X.env) :: starEach a3 X.env:=by rfl) (cR:(backTo pos (starEach a3 X.env)).any (·.1)=false:=by rfl)
  (cq:eval (.Call (.Attribute o m fs) (e :: a3) [] pos) X.env=(do
   let ht <- eval o X.env
   standAt fs.atName
   let (f,first) <- holding [ht] (getMethod ht m pl)
   callWith pos f first (backTo pos (starEach (e :: a3) X.env)) (backToKw pos (keywordEach [] X.env))):=by rfl) :
  bq X (.Call (.Attribute o m fs) (e :: a3) [] pos) (HR C m sp dvs E a_ t):=by
 intro ae s σ H Q J h;refine CG (pl:=pl) (bC (he ae s σ H _ J h) fun u s1 bw=>?_) cq;obtain ⟨x,H1,a5,bj,gP⟩:=bw;obtain ⟨a,ex,aq,aN,h6,l,q⟩:=fe.out gP;subst ex;obtain rfl:u=fC a:=bj;refine D3 a5 h6 c hm l ?_;refine EY (first:=[.ref a]) (h₀:=X.base) J.ok.mod.sN hm.bN (bC (aS pos ae s1 σ H1 _ a5 q) fun us s2 ⟨vs,aw,bR,r,dM⟩=>⟨bR.iV,?_⟩) d0 cR;exact wR (us:=.ref a :: us) (vs:=.ref a :: vs) F ao aa hd ah bR (.cons rfl r) dM
theorem hT (he:bq X o a_) (c:gX X.K C) (hm:fD X.K C m f) (F:cH X.prog X.w X.K X.mg X.base CX k f fd ps sp) (ao:ec k X.A) (aa:b5 X.K fd ps ds) (hd:b8 dvs ds) (ah:o7 CX X E)
  (cq:eval (.Call (.Attribute o m fs) [] [] pos) X.env=(do
   let ht <- eval o X.env
   standAt fs.atName
   let (f,first) <- holding [ht] (getMethod ht m pl)
   callWith pos f first (backTo pos (starEach [] X.env)) (backToKw pos (keywordEach [] X.env))):=by rfl) :
  bq X (.Call (.Attribute o m fs) [] [] pos) (HR C m sp dvs E a_ w9):=by
 intro ae s σ H Q J h;refine CG (pl:=pl) (bC (he ae s σ H _ J h) fun u s1 bw=>?_) cq;obtain ⟨x,H1,a5,bj,gP⟩:=bw;obtain ⟨a,ex,aq,aN,h6,l,q⟩:=fe.out gP;subst ex;obtain rfl:u=fC a:=bj;refine D3 a5 h6 c hm l ?_;exact Vb (first:=[.ref a]) a5.iV hm.bN (wR (us:=[.ref a]) (vs:=[.ref a]) F ao aa hd ah a5 (.cons rfl .nil) q)
structure oG (K:ba) (C f:Addr):Prop where
 makes:acF K C=true
 init:dp K (.ref C) "__init__"=some (some (.ref f))
 fn:J4 K (.ref f)=true
 bN:qV K (.ref C)=true
theorem aaj (M:oG X.K C f) (F:cH X.prog X.w X.K X.mg X.base CX k f fd ps sp) (ao:ec (k + 1) X.A) (aa:b5 X.K fd ps ds) (hd:b8 dvs ds)
  (ah:o7 CX X E) (J:Inv X ae σ H s) (r:b8 vs us)
  (h:∀ x aq,H x=none->H aq=none->aq ≠ x->sp (.ref x :: (vs ++ dvs)) (upd (upd H aq (.own x)) x (.ins C aq [])) (fun v aw=>v=.b6/\Q (.ref x) aw) E) :
  wpAny (model X.prog X.w) X.A (call (.ref C) us) (gJ X ae σ Q) X.dK s:=by
 have a0:=h (s.heap.objs.size + 1) s.heap.objs.size (J.bl.fresh (E6 _)) (J.bl.fresh (cn _)) (gv (Dz _));have bR:=Inv.made (C:=C) J;have hx:b8 (V.ref (s.heap.objs.size + 1) :: (vs ++ dvs)) (fC (s.heap.objs.size + 1) :: (us ++ ds)):=.cons rfl (r.append hd);have aL:(fC (s.heap.objs.size + 1) :: us ++ ds).length=ps.length:=by
  have e:=hx.length;rw [F.len _ _ _ _ a0] at e;exact e.symm
 refine wpAny_call (aad (f:=f) J.iV M.makes M.init (beq_iff_eq.mp M.fn) (codeAny_mono (F.run _ X.stack _ _ ⟨fC (s.heap.objs.size + 1) :: us,[]⟩ (fC (s.heap.objs.size + 1) :: (us ++ ds)) _ _ E (ao.make C us [])
  (bR.R3.make C us []) (aa _ (fC (s.heap.objs.size + 1) :: us) bR.iV aL) hx a0) fun r ai ox=>?_))
 cases r with
 | error e=>exact ah ae σ _ _ e ai bR ox
 | ok d3=>
  cases d3 with
  | ret u=>
   obtain ⟨v,I,eQ,cT,ev,hZ⟩:=bR.after ox;subst ev;exact ⟨cT,⟨V.ref (s.heap.objs.size + 1),I,eQ,rfl,hZ⟩⟩
  | next=>exact iz ox
  | brk=>exact iz ox
  | cont=>exact iz ox
theorem rS (M:oG X.K C f) (F:cH X.prog X.w X.K X.mg X.base CX k f fd ps sp) (ao:ec (k + 1) X.A) (aQ:lS X x) (hm:X.mg x=some (.ref C)) (aa:b5 X.K fd ps ds) (hd:b8 dvs ds) (ah:o7 CX X E)
  (aS:jN X (e :: a3) t) (mE:(x == ("__debug__" : Str))=false:=by decide) (he:starEach (e :: a3) X.env=(false,eval e X.env) :: starEach a3 X.env:=by rfl) (cR:(backTo pos (starEach a3 X.env)).any (·.1)=false:=by rfl) :
  bq X (.Call (.Name x p) (e :: a3) [] pos) (M9 C sp dvs E t):=by
 intro ae s σ H Q J h;refine wpAny_Call_Name_kw (y4 J aQ hm ?_ mE);refine EY (h₀:=X.base) J.ok.mod.sN M.bN (bC (aS pos ae s σ H _ J h) fun us s1 ⟨vs,H1,a5,r,q⟩=>⟨a5.iV,?_⟩) he cR;exact aaj M F ao aa hd ah a5 r q
end
section
variable {X:a7} {CX:jl} {k:Nat} {f C:Addr} {fd:FuncData} {ps b9:List Str} {sp:bU} {E:fS} {x m:Str} {p pos fs aj9:Pos} {e o:Expr} {a3:List Expr} {akO:List Keyword} {bL a_:TE} {t tk:fE} {nm:Option Str}
structure ale (K:ba) (fd:FuncData) (ps b9:List Str) (g:List Value->List Value->List Value) (KI:List V->List V->List V):Prop where
 to:∀ (s:Shared) (us ws:List Value),K.In s.heap->(g us ws).length=ps.length->BindsTo s fd ⟨us,b9.zip ws⟩ (ps.zip (g us ws))
 rel:∀ {vs:List V} {us:List Value} {zs:List V} {ws:List Value},b8 vs us->b8 zs ws->b8 (KI vs zs) (g us ws)
variable {g:List Value->List Value->List Value} {KI:List V->List V->List V}
end
structure ck (N P:List Str) (sc:Scope):Prop where
 kind:sc.kind=.function
 co:sc.isCoroutine=false
 gen:sc.isGenerator=false
 aD:N.Nodup
 pre:N.take P.length=P
 par:∀ x ∈ P,sc.names.lookup x=some .local\/sc.names.lookup x=some .cell
 abY:∀ y ∈ sc.names,y.2 ≠ .free
theorem QJ {kindOf:Str->Option NameKind} {x:Str}:∀ {binds:List (Str × Value)} {m:Str->Option Value},(∀ v,(x,v) ∉ binds)->bindL kindOf binds m x=m x
 | [],_,_=>rfl
 | (n,v) :: r,m,h=>by
  unfold bindL;rw [QJ fun w hw=>h w (hM _ hw)];split
  .have:x ≠ n:=by rintro rfl;exact h v l6
   simp [this]
  .rfl
theorem L0 {kindOf:Str->Option NameKind} {x:Str}:∀ {binds:List (Str × Value)} {m:Str->Option Value},(∀ v,(x,v) ∉ binds)->bindC kindOf binds m x=m x
 | [],_,_=>rfl
 | (n,v) :: r,m,h=>by
  unfold bindC;rw [L0 fun w hw=>h w (hM _ hw)];split
  .rfl
  .have:x ≠ n:=by rintro rfl;exact h v l6
   simp [this]
theorem Qg {kindOf:Str->Option NameKind} {x:Str} {v:Value}:∀ {P:List Str} {vs:List Value} {i:Nat} {m:Str->Option Value},P.Nodup->P[i]? = some x->vs[i]? = some v->kindOf x=some .local ->
  bindL kindOf (P.zip vs) m x=some v
 | [],_,_,_,_,h,_,_=>by simp at h
 | _ :: _,[],_,_,_,_,h,_=>by simp at h
 | p :: P,w :: vs,0,m,aD,af,ak,az=>by
  simp at af ak;subst af;subst ak;show bindL kindOf ((p,w) :: P.zip vs) m p=_;unfold bindL;rw [QJ fun v aI=>(o2.mp aD).1 (J9 aI).1,if_pos az];simp
 | p :: P,w :: vs,i + 1,m,aD,af,ak,az=>by
  show bindL kindOf ((p,w) :: P.zip vs) m x=_;unfold bindL;exact Qg (i:=i) (o2.mp aD).2 (by simpa using af) (by simpa using ak) az
theorem N9 {kindOf:Str->Option NameKind} {x:Str} {v:Value}:∀ {P:List Str} {vs:List Value} {i:Nat} {m:Str->Option Value},P.Nodup->P[i]? = some x->vs[i]? = some v->kindOf x ≠ some .local ->
  bindC kindOf (P.zip vs) m x=some v
 | [],_,_,_,_,h,_,_=>by simp at h
 | _ :: _,[],_,_,_,_,h,_=>by simp at h
 | p :: P,w :: vs,0,m,aD,af,ak,az=>by
  simp at af ak;subst af;subst ak;show bindC kindOf ((p,w) :: P.zip vs) m p=_;unfold bindC;rw [L0 fun v aI=>(o2.mp aD).1 (J9 aI).1,if_neg az];simp
 | p :: P,w :: vs,i + 1,m,aD,af,ak,az=>by
  show bindC kindOf ((p,w) :: P.zip vs) m x=_;unfold bindC;exact N9 (i:=i) (o2.mp aD).2 (by simpa using af) (by simpa using ak) az
noncomputable def start (N:List Str) (vs:List V):St:=vs.map some ++ Kn (N.length - vs.length) none
noncomputable def KK (CX:jl) (P:Program) (w:World) (K:ba) (mg:Str->Option Value) (base:Heap) (N:List Str) (qual:Str) (scope:Scope) (f:Addr) (cd:Value) (A:Around) (outer:List Env) (s:Shared) (H:ar) (E:fS):a7 where
 prog:=P
 w:=w
 K:=K
 mg:=mg
 base:=base
 A:=A.deeper (envOfC qual scope s.heap.objs.size f cd)
 N:=N
 fk:=s
 qm:=H
 env:=envOfC qual scope s.heap.objs.size f cd
 outer:=outer
 stack:=envOfC qual scope s.heap.objs.size f cd :: outer
 ex:=[]
 calm:=true
 fn:=fun _=>true
 dN:=[]
 dK:=fun e ai=>wpAny (model P w) (A.deeper (envOfC qual scope s.heap.objs.size f cd)) (leaving (envOfC qual scope s.heap.objs.size f cd) e) (fun _ rV=>CX outer H s E e rV) (fun bT rV=>CX outer H s E bT rV) ai
theorem Kf {sc:Scope} {n:Nat} {x:Str} (h:sc.names.lookup x=some .cell):∃ c,(cellsFrom n sc.names []).lookup x=some c:=by
 have q:=ahs sc.names n [] (.inl h);exact acq.mp q
theorem YW {CX:jl} {P:Program} {w:World} {K:ba} {mg:Str->Option Value} {base:Heap} {N ps:List Str} {qual:Str} {scope:Scope} {f:Addr} {cd:Value} {A:Around} {outer:List Env} {s s1:Shared} {H:ar} {E:fS} {us:List Value} {vs:List V}
  (S:ck N ps scope) (hd:A.handled=none) (fg:mM P w K mg base A outer s H) (aL:vs.length=ps.length) (r:b8 vs us)
  (x:InCallC s s.heap.objs.size (bindL (envOfC qual scope s.heap.objs.size f cd).kindOf (ps.zip us) fun _=>none) (cellsFrom (s.heap.objs.size + 1) scope.names []) (bindC (envOfC qual scope s.heap.objs.size f cd).kindOf (ps.zip us) fun _=>none) s1) :
  Inv (KK CX P w K mg base N qual scope f cd A outer s H E) [] (start N vs) H s1:=by
 have cR:ps.length <= N.length:=by have:=congrArg qa S.pre;rw [gD] at this;omega
 obtain ⟨af,tk,rfl,az⟩:=x.done;have rJ:∀ b:Addr,b ∉ (KK CX P w K mg base N qual scope f cd A outer s H E).ex:=fun b z=>absurd (show b ∈ ([]:List Addr) from z) (by simp)
 refine ⟨⟨fg.mod,S.kind,rfl,rfl,cn _,fun y z c af ak=>?_,fun y bg=>?_,fun y c _ h=>?_,fun _=>hd,Vo fg.frames,.inr ⟨rfl,rfl⟩,fun b z=>absurd z (rJ b),fg.bs,fg.jW,fun b _ _=>rJ b,fun b z=>absurd z (rJ b),fg.jJ,fg.mS⟩,
  rfl,fg.bare,eY.kept az,⟨_,x.toInCall.ns,fun i y v af ak a9=>?_⟩,fun y c h=>⟨_,x.cell y c h⟩,fg.bl.fresh (cn _),fun y c h=>?_,fun p ax=>absurd (show p ∈ ([]:List (Addr × Obj)) from ax) (by simp),fg.bl.kept az,?_⟩
 .exact name_of_addr x.apart (t5 af) (t5 ak)
 .have bg:scope.names.lookup y=some .cell\/scope.names.lookup y=some .free:=bg;rcases bg with bg | bg
  .exact Kf bg
  .exact absurd rfl (S.abY _ (t5 bg))
 .exact nF (x.above y c (t5 h))
 .have ag:i < vs.length:=by
   unfold start at ak;by_cases ag:i < vs.length
   .exact ag
   .rw [qP (by simpa using ag)] at ak;rw [List.getElem?_replicate] at ak;split at ak <;> cases ak
  have aS:vs[i]? = some v:=by
   unfold start at ak;rw [qq (by simpa using ag),c5] at ak;cases e:vs[i]? with
   | none=>rw [e] at ak;cases ak
   | some a=>rw [e] at ak;cases ak;rfl
  obtain ⟨u,bx,cT⟩:=r.get aS;have ax:ps[i]? = some y:=by
   rw [<- S.pre,o4 (by omega)];exact af
  have LJ:ps.Nodup:=by rw [<- S.pre];exact S.aD.sublist (List.take_sublist _ _)
  refine ⟨u,cT,?_⟩;rcases S.par y (cC ax) with k | k
  .exact .inl ⟨k,Qg LJ ax bx k⟩
  .obtain ⟨c,e⟩:=Kf (n:=s.heap.objs.size + 1) k;refine .inr ⟨.inl k,c,e,?_⟩;have q:=x.cell y c e;rw [N9 LJ ax bx (by show scope.names.lookup y ≠ _;rw [k];decide)] at q;exact q
 .exact fg.bl.fresh (nF (x.above y c (t5 h)))
 .unfold start;show _=N.length;rw [dY,aZ,List.length_replicate];omega
theorem IN {w:World} {K:ba} {mg:Str->Option Value} {base:Heap} {k:Nat} {name qual:Str} {AF dz doc pm fo ez nf:Value}
 {N ps:List Str} (lk:K.lookup f=some ⟨nf,dn,.func (u4 name qual params body scope AF dz doc pm an fo ez),qH⟩) (ki:Lk K fo qual=true) (S:ck N ps scope)
    (len:∀ vs H Q E,sp vs H Q E->vs.length=ps.length)
    (oD:∀ (A:Around) (outer:List Env) (s:Shared) (H:ar) (vs:List V) (Q:cX) (E:fS),ec k (A.deeper (envOfC qual scope s.heap.objs.size f fo))->sp vs H Q E ->
      ∃ t,kQ (KK CX P w K mg base N qual scope f fo A outer s H E) body t/\t { cf:=fun _ I=>Q .b6 I,kK:=Q } (start N vs) H) :
    cH P w K mg base CX (k + 1) f (u4 name qual params body scope AF dz doc pm an fo ez) ps sp:=by
  refine ⟨len,fun A outer s H args us vs Q E ao fg aa r nI=>?_⟩;have aL:=len _ _ _ _ nI;have jU:K.In s.heap:=fg.mod.sN.keeps fun b o e=>(fg.bs b o e).1
  have lim:s.heap.NoLimit:=fg.mod.nolimit.keeps fun b o e=>(fg.bs b o e).1
  have W8:∀ y ∈ ps.zip us,scope.names.lookup y.1=some .local\/(scope.names.lookup y.1=some .cell/\((cellsFrom (s.heap.objs.size + 1) scope.names []).lookup y.1).isSome=true):=fun ⟨n,v⟩ bg=>by
    rcases S.par n (J9 bg).1 with q | q
    · exact .inl q
    · exact .inr ⟨q,ahs _ _ _ (.inl q)⟩
  refine codeAny_call_function ao.depth (jU _ _ lk) rfl S.co S.gen rfl (PySem.W.codeRec_of jU ki) (aa _ _ _ _ ?_);refine wpAny_newFunctionEnv_cells S.kind W8 fun env he s1 x=>?_
  subst he;refine ⟨lim.keeps x.toInCall.keep,codeAny_func ?_⟩;obtain ⟨t,cq,a0⟩:=oD A outer s H vs Q E (ao.deeper _) nI;have J:Inv (KK CX P w K mg base N qual scope f fo A outer s H E) [] (start N vs) H s1:=YW S ao.hd fg aL r x;refine wpAny_mono (cq [] s1 (start N vs) H _ J a0) (fun d3 ai av=>?_) fun e ai av=>av
  have fin:∀ {aB:St} {I:ar} {v:V} {u:Value},Inv (KK CX P w K mg base N qual scope f fo A outer s H E) [] aB I ai->bI v u->Q v I->Iu outer P w H s Q u ai:=
    fun {aB I v u} bF cT q=>⟨v,I,bF.os,bF.bare,bF.base,bF.bl,cT,q⟩
  cases d3 with
  | ret u=>
    obtain ⟨v,aB,I,bF,cT,q⟩:=av;exact fin bF cT q
  | next=>
    obtain ⟨aB,I,bF,q⟩:=av;exact fin (v:=V.b6) (u:=rI) bF rfl q
  | brk=>
    obtain ⟨_,_,_,q⟩:=av;exact iz q
  | cont=>
    obtain ⟨_,_,_,q⟩:=av;exact iz q
section
variable {X:a7} {x:Str} {p pos:Pos} {e:Expr} {a3:List Expr} {t:fE} {id T:String} {r:List V->ar->cX->Prop}
noncomputable def yH (r:List V->ar->cX->Prop) (t:fE):TE:=fun σ H Q=>t σ H fun vs H1=>r vs H1 Q
theorem fJ (ay:ma X (.builtin id) r) (aQ:lS X x) (hm:X.mg x=none) (aI:bootBuiltins x=some (.builtin id)) (aS:jN X (e :: a3) t) (a4:x ≠ "__name__" := by decide) (mE:(x == ("__debug__" : Str))=false:=by decide)
  (he:starEach (e :: a3) X.env=(false,eval e X.env) :: starEach a3 X.env:=by rfl) (cR:(backTo pos (starEach a3 X.env)).any (·.1)=false:=by rfl):bq X (.Call (.Name x p) (e :: a3) [] pos) (yH r t):=by
 intro ae s σ H Q J h;refine wpAny_Call_Name_kw (vK J aQ hm aI ?_ a4 mE);exact aj2 (bC (aS pos ae s σ H _ J h) fun us s1 ⟨vs,H1,a5,cQ,bG⟩=>ay ae s1 σ H1 vs us Q a5 cQ bG) he cR
theorem pC (ay:ma X (.type T) r) (aQ:lS X x) (hm:X.mg x=none) (aI:bootBuiltins x=some (.type T)) (aS:jN X (e :: a3) t) (a4:x ≠ "__name__" := by decide) (mE:(x == ("__debug__" : Str))=false:=by decide)
  (he:starEach (e :: a3) X.env=(false,eval e X.env) :: starEach a3 X.env:=by rfl) (cR:(backTo pos (starEach a3 X.env)).any (·.1)=false:=by rfl):bq X (.Call (.Name x p) (e :: a3) [] pos) (yH r t):=by
 intro ae s σ H Q J h;refine wpAny_Call_Name_kw (vK J aQ hm aI ?_ a4 mE);exact K6 (bC (aS pos ae s σ H _ J h) fun us s1 ⟨vs,H1,a5,cQ,bG⟩=>ay ae s1 σ H1 vs us Q a5 cQ bG) he cR
end
end L2
namespace eV
open PySem PyProof.Rows
section
open PySem.SeqAt
open PySem.AutoSeq1 (wpAny_loadPart')
open PySem.MeetsSeq PySem.MeetsSeq2 PySem.MeetsSeq3
end
section
variable {prog:Program} {w:World} {A:Around} {E:Value->Shared->Prop} {s:Shared}
noncomputable def c1 (n d:Nat):Option Int->Nat
 | none=>d
 | some v=>if v < 0 then (v + (n:Int)).toNat else min v.toNat n
theorem Hp (n d:Nat):c1 n d none=d:=rfl
theorem Kg (n d k:Nat):c1 n d (some (k:Int))=min k n:=by
 show (if (k:Int) < 0 then ((k:Int) + (n:Int)).toNat else min (k:Int).toNat n)=min k n;rw [if_neg (by omega),nL]
theorem XR (n d:Nat) (hd:d <= n) (o:Option Int):c1 n d o <= n:=by
 cases o with
 | none=>exact hd
 | some v=>
  show (if v < 0 then (v + (n:Int)).toNat else min v.toNat n) <= n;by_cases aI:v < 0
  .rw [if_pos aI];omega
  .rw [if_neg aI];exact Nat.min_le_right _ _
theorem Pl (v:Int) (n d:Nat):(if v < 0 then max (v + (n:Int)) 0 else min v (n:Int))=((c1 n d (some v):Nat):Int):=by
 show (if v < 0 then max (v + (n:Int)) 0 else min v (n:Int))=(((if v < 0 then (v + (n:Int)).toNat else min v.toNat n):Nat):Int);by_cases aI:v < 0
 .simp only [if_pos aI];omega
 .simp only [if_neg aI];omega
theorem abD (lo ag:Option Int) (n:Nat):Pn lo ag 1 (n:Int)=(((c1 n 0 lo:Nat):Int),((c1 n n ag:Nat):Int)):=by
 have af:¬ ((1:Int) < 0):=by omega
 unfold Pn;simp only [af,if_false];refine Prod.ext ?_ ?_
 .cases lo with
  | none=>rfl
  | some v=>exact Pl v n 0
 .cases ag with
  | none=>rfl
  | some v=>exact Pl v n n
theorem acy (i j:Nat):Ij (i:Int) (j:Int) 1=j - i:=by
 unfold Ij;have af:(1:Int) > 0:=by omega
 simp only [af,if_true,Int.ediv_one];split <;> omega
theorem Lb (p:IsPart v o) (h:Q o s):wpAny (model prog w) A (ajZ v) Q E s:=by
 cases p with
 | none=>exact slicePart_none h
 | int i t=>exact slicePart_int h
theorem Xh {bS:Addr} {jq je:Value} {lo ag:Option Int} {n:Nat} {Q:Int × Int × Nat->Shared->Prop} (av:s.heap.IsSliceOf bS jq je .none) (pl:IsPart jq lo) (pu:IsPart je ag)
  (h:Q (((c1 n 0 lo:Nat):Int),1,c1 n n ag - c1 n 0 lo) s):wpAny (model prog w) A (adk (.ref bS) (pure (n:Int))) Q E s:=by
 obtain ⟨os,xc,KA,ov⟩:=id av;unfold adk akA;refine wpAny_bind (wpAny_bind (wpAny_field xc ov (x:=jq) rfl (wpAny_bind (wpAny_field xc ov (x:=je) rfl (wpAny_bind (wpAny_field xc ov (x:=.none) rfl (wpAny_pure ?_)))))));refine wpAny_bind (slicePart_none ?_);show wpAny _ _ (if ((1:Int) == 0)=true then _ else _) _ _ s;rw [if_neg (by decide)];refine wpAny_bind (Lb pl (wpAny_bind (Lb pu (wpAny_bind (wpAny_pure ?_)))));show wpAny _ _ (match Pn lo ag 1 (n:Int) with | (lo,ag)=>pure (lo,(1:Int),Ij lo ag 1)) _ _ s;rw [abD lo ag n];show wpAny _ _ (pure (((c1 n 0 lo:Nat):Int),(1:Int),Ij ((c1 n 0 lo:Nat):Int) ((c1 n n ag:Nat):Int) 1)) _ _ s;rw [acy];exact wpAny_pure h
theorem UX (xs:Array Value) (i k:Nat):((gx k).filterMap fun (m:Nat)=>xs[((i:Int) + (m:Int) * 1).toNat]?).toArray=((xs.toList.drop i).take k).toArray:=by
 have e:(fun (m:Nat)=>xs[((i:Int) + (m:Int) * 1).toNat]?)=fun m=>xs[i + m]?:=by
  funext m;have:((i:Int) + (m:Int) * 1).toNat=i + m:=by omega
  rw [this]
 rw [e];have:=pick_run xs i k;rw [List.filterMap_map] at this;have aH:((fun x=>xs[x]?) ∘ fun x=>i + x)=fun m=>xs[i + m]?:=rfl
 rw [aH] at this;rw [this]
theorem Z4 {t bS:Addr} {items:Array Value} {jq je:Value} {lo ag:Option Int} {Q:Value->Shared->Prop} (cq:IsTup s.heap t items) (av:s.heap.IsSliceOf bS jq je .none) (pl:IsPart jq lo) (pu:IsPart je ag)
  (hw:¬ (c1 items.size 0 lo=0/\c1 items.size items.size ag=items.size))
  (h:Q (.ref s.heap.objs.size) { s with heap:=s.heap.push { cls:=.type "tuple",data:=.seq ((items.toList.drop (c1 items.size 0 lo)).take (c1 items.size items.size ag - c1 items.size 0 lo)).toArray } })
  (hsz:items.size <= sizeLine):wpAny (model prog w) A (getItem (.ref t) (.ref bS)) Q E s:=by
 have AQ:sizeOk (.seq ((items.toList.drop (c1 items.size 0 lo)).take (c1 items.size items.size ag - c1 items.size 0 lo)).toArray):=by
  show ((items.toList.drop (c1 items.size 0 lo)).take (c1 items.size items.size ag - c1 items.size 0 lo)).toArray.size <= sizeLine;rw [gQ,gD,sm,G0];omega
 have aJ:c1 items.size items.size ag <= items.size:=XR _ _ (cn _) ag;obtain ⟨os,xc,KA,ov⟩:=id av;have agg:s.TypeIs (.ref bS) "slice" := ⟨os,xc,KA⟩;unfold getItem
 try with_reducible refine wpAny_holding ?_
 first | refine wpAny_bind (wpAny_pure ?_) | skip
 refine wpAny_bind (wpAny_sequenceKey cq.typeIs (by decide) ?_);refine wpAny_bind (wpAny_callSpecial?_slot (name:=ab "__getitem__") cq.typeIs P'
  (wpAny_call_entry P' cq.typeIs entry_tuple_getitem ?_ (args_tuple_getitem _ _)))
 show wpAny _ _ (ajP (.ref t) >>= _) _ _ s;refine wpAny_bind (tupleItemsOf_ cq ?_);refine wpAny_bind (wpAny_typeOf agg ?_);rw [if_pos (by decide)];refine wpAny_bind (Xh av pl pu ?_);have Cg:¬ ((((c1 items.size 0 lo:Nat):Int) == 0 && (1:Int) == 1 && (c1 items.size items.size ag - c1 items.size 0 lo) == items.size)=true):=by
  intro q;rw [hX,hX] at q;have bG:((c1 items.size 0 lo:Nat):Int)=0:=eq_of_beq q.1.1;have dM:c1 items.size items.size ag - c1 items.size 0 lo=items.size:=eq_of_beq q.2;exact hw ⟨by omega,by omega⟩
 show wpAny _ _ (if (((c1 items.size 0 lo:Nat):Int) == 0 && (1:Int) == 1 && (c1 items.size items.size ag - c1 items.size 0 lo) == items.size)=true then _ else _) _ _ s;rw [if_neg Cg,UX]
 first
  | exact wpAny_bind (m:=JF _) (wpAny_newObj_type (wpAny_pure ⟨_,rfl,wpAny_pure h⟩) AQ)
  | exact wpAny_bind (m:=JF _) (wpAny_newObj_type (wpAny_bind (wpAny_pure (wpAny_pure ⟨_,rfl,wpAny_pure h⟩))) AQ)
  | exact wpAny_bind (wpAny_bind (m:=JF _) (wpAny_newObj_type (wpAny_pure (wpAny_pure ⟨_,rfl,wpAny_pure h⟩)) AQ))
  | exact wpAny_bind (wpAny_bind (m:=JF _) (wpAny_newObj_type (wpAny_pure ⟨_,rfl,wpAny_pure h⟩) AQ))
end
end eV
namespace L2
open PySem PySem.Spec PyProof.Rows
noncomputable abbrev vo:=St->ar->(Option Int->ar->Prop)->Prop
def zK (X:a7) (e:Option Expr) (t:vo):Prop:=
 ∀ (ae:List (Addr × Obj)) (s:Shared) (σ:St) (H:ar) (Q:Option Int->ar->Prop),Inv X ae σ H s->t σ H Q ->
  wpAny (model X.prog X.w) X.A (evalPart e X.env) (fun u ai=>∃ o I,Inv X ae σ I ai/\IsPart u o/\Q o I) X.dK s
noncomputable def HU:vo:=fun _ H Q=>Q none H
noncomputable def DJ (t:TE):vo:=fun σ H Q=>t σ H fun x H1=>gg x fun i=>Q (some i) H1
section
variable {X:a7} {e:Expr} {bL:TE} {lo ag:Option Expr} {cB wx:vo} {pos eH:Pos}
theorem oy:zK X none HU:=by
 intro ae s σ H Q J h;rw [evalPart_none];exact wpAny_pure ⟨none,H,J,.none,h⟩
theorem ou (h:bq X e bL):zK X (some e) (DJ bL):=by
 intro ae s σ H Q J hw;rw [evalPart_some];refine bC (h ae s σ H _ J hw) fun u s1 bw=>?_
 obtain ⟨x,H1,a5,cQ,bG⟩:=bw;obtain ⟨i,rfl,q⟩:=gg.out bG;obtain ⟨t,rfl⟩:=cQ;exact ⟨some i,H1,a5,.int i t,q⟩
def Bp (X:a7) (r:V->Option Int->Option Int->ar->cX->Prop):Prop:=
 ∀ (ae:List (Addr × Obj)) (s:Shared) (σ:St) (H:ar) (x:V) (v jq je:Value) (lo ag:Option Int) (bS:Addr) (Q:cX),Inv X ae σ H s->bI x v->s.heap.IsSliceOf bS jq je .none->IsPart jq lo->IsPart je ag->r x lo ag H Q ->
  ∃ T id,typeLookup (.type T) "__getitem__"=pure (some (.builtin id))/\s.TypeIs v T/\wpAny (model X.prog X.w) X.A (getItem v (.ref bS)) (gJ X ae σ Q) X.dK s
noncomputable def Ir (r:V->Option Int->Option Int->ar->cX->Prop) (bL:TE) (cB wx:vo):TE:=fun σ H Q=>bL σ H fun x H1=>cB σ H1 fun l aw=>wx σ aw fun u bf=>r x l u bf Q
theorem oB (ao:Bp X r) (he:bq X e bL) (aL:zK X lo cB) (bx:zK X ag wx):bq X (.Subscript e (.Slice lo ag none eH) pos) (Ir r bL cB wx):=by
 intro ae s σ H Q J h;refine Subscript_ (bC (he ae s σ H _ J h) fun v s1 bw=>?_);obtain ⟨x,H1,a5,cQ,bG⟩:=bw;refine wpAny_Slice (bC (aL ae s1 σ H1 _ a5 bG) fun jq s2 ⟨l,aw,bR,pl,dM⟩=>bC (bx ae s2 σ aw _ bR dM) fun je s3 bw=>?_);obtain ⟨u,bf,eQ,pu,hZ⟩:=bw;rw [evalPart_none];refine wpAny_pure ?_;have hS:Inv X ae σ bf { s3 with heap:=s3.heap.push { cls:=.type "slice",data:=.fields #[jq,je,.none] } }:=eQ.kept (t':=s3.toks) fun b b0 q=>eU _ q
 obtain ⟨T,id,hQ,cq,aQ⟩:=ao ae { s3 with heap:=s3.heap.push { cls:=.type "slice",data:=.fields #[jq,je,.none] } } σ bf x v jq je l u s3.heap.objs.size Q hS cQ (ajr ..) pl pu hZ;show wpAny (model X.prog X.w) X.A (subscriptTail e (.Slice lo ag none eH) v (.ref s3.heap.objs.size)) (gJ X ae σ Q) X.dK { s3 with heap:=s3.heap.push { cls:=.type "slice",data:=.fields #[jq,je,.none] } };exact tail_any (ops:=[.ref s3.heap.objs.size,v]) cq hQ aQ (by with_unfolding_all rfl)
noncomputable def iU (xs:List V) (lo ag:Option Int):List V:=(xs.drop (eV.c1 xs.length 0 lo)).take (eV.c1 xs.length xs.length ag - eV.c1 xs.length 0 lo)
theorem MA (xs:List V) (lo ag:Option Int):(iU xs lo ag).length <= xs.length:=by
 unfold iU;rw [gD,sm];omega
noncomputable def Qy (K:ba):V->Option Int->Option Int->ar->cX->Prop:=fun x lo ag H Q=>∃ a xs,x=.ref a/\di K H a xs /\
 ¬ (eV.c1 xs.length 0 lo=0/\eV.c1 xs.length xs.length ag=xs.length)/\∀ p,H p=none->Q (.ref p) (upd H p (.tup (iU xs lo ag)))
theorem YE:Bp X (Qy X.K):=by
 intro ae s σ H x v jq je lo ag bS Q J bj av pl pu h;obtain ⟨a,xs,rfl,ah,hw,q⟩:=h;cases bj;obtain ⟨a',r,cq,aT⟩:=J.tuple ah;have hlen:a'.toArray.size=xs.length:=by rw [gQ];exact r.length.symm
 refine ⟨"tuple",_,P'.lookup,cq.typeIs,?_⟩;refine eV.Z4 cq av pl pu (by rw [hlen];exact hw) ?_ (by rw [hlen];exact aT);rw [hlen];refine ⟨.ref s.heap.objs.size,_,J.laid (t':=s.toks) (o:=.tup (iU xs lo ag)) (fun b b0 q=>eU _ q) (cn _) ?_,rfl,q _ (J.bl.fresh (cn _))⟩;exact ⟨c_ (MA xs lo ag) aT,_,(r.drop (eV.c1 xs.length 0 lo)).take (eV.c1 xs.length xs.length ag - eV.c1 xs.length 0 lo),IsTup.new _ _⟩
end
noncomputable def tL (n:Nat) (i:Int):Option Nat:=if 0 <= i then (if i < n then some i.toNat else none) else if -(n:Int) <= i then some (i + n).toNat else none
noncomputable def gi {α:Type} (xs:List α) (i:Int):Option α:=(tL xs.length i).bind fun j=>xs[j]?
theorem abt (h:tL n i=some j):seqIndex? i n=some j/\j < n/\-(n:Int) <= i/\i < n:=by
 unfold tL at h;by_cases h0:0 <= i
 .rw [if_pos h0] at h;by_cases af:i < n
  .rw [if_pos af] at h;have e:i.toNat=j:=d1 h;exact ⟨by rw [seqIndex_of h0 af,e],by omega,by omega,af⟩
  .rw [if_neg af] at h;cases h
 .rw [if_neg h0] at h;by_cases af:-(n:Int) <= i
  .rw [if_pos af] at h;have e:(i + n).toNat=j:=d1 h;exact ⟨by rw [seqIndex_neg (by omega) af,e],by omega,af,by omega⟩
  .rw [if_neg af] at h;cases h
theorem Fu (h:gi xs i=some v):∃ j,seqIndex? i xs.length=some j/\xs[j]? = some v/\j < xs.length/\-(xs.length:Int) <= i/\i < xs.length:=by
 unfold gi at h;cases e:tL xs.length i with
 | none=>rw [e] at h;cases h
 | some j=>
  rw [e] at h;obtain ⟨af,ak,a9,cW⟩:=abt e;exact ⟨j,af,h,ak,a9,cW⟩
theorem Db {α:Type} {xs:List α} {j:Nat} {v:α} (h:xs[j]? = some v):gi xs (j:Int)=some v:=by
 have aJ:j < xs.length:=(b'.mp h).1;have e:tL xs.length (j:Int)=some j:=by
  unfold tL;rw [if_pos (by omega),if_pos (by omega)];simp
 unfold gi;rw [e];exact h
def Na (b:Expr):Prop:=∀ o i,subscripted b false o i=operate [o,i] (getItem o i)
def wz (X:a7) (r:e0):Prop:=
 ∀ (value slice:Expr) (ae:List (Addr × Obj)) (s:Shared) (σ:St) (H:ar) (x y:V) (v u:Value) (Q:cX),Inv X ae σ H s->bI x v->bI y u->r x y H Q ->
  subscripted slice false v u=operate [v,u] (getItem v u)->wpAny (model X.prog X.w) X.A (subscriptTail value slice v u) (gJ X ae σ Q) X.dK s
def JD (X:a7) (id:String) (r:V->List V->ar->cX->Prop):Prop:=
 ∀ (ae:List (Addr × Obj)) (s:Shared) (σ:St) (H:ar) (x:V) (xs:List V) (v:Value) (us:List Value) (Q:cX),Inv X ae σ H s->bI x v->b8 xs us->r x xs H Q ->
  wpAny (model X.prog X.w) X.A (call (.builtin id) (v :: us)) (gJ X ae σ Q) X.dK s
section
variable {X:a7} {a b:Expr} {a_ bP:TE} {pos:Pos}
theorem Zg (ao:wz X r) (aS:bq X a a_) (aa:bq X b bP) (av:Na b):bq X (.Subscript a b pos) (qX r a_ bP):=by
 intro ae s σ H Q J h;exact Subscript_ (HB aS aa J h fun v u s2 x y aw bR bj bp q=>ao a b ae s2 σ aw x y v u Q bR bj bp q (av _ _))
noncomputable def F4 (K:ba):e0:=fun x y H Q=>fe x fun p=>∃ xs,gg y fun i=>aC K H p xs/\∃ v,gi xs i=some v/\Q v H
noncomputable def H8 (K:ba):e0:=fun x y H Q=>fe x fun p=>∃ xs,gg y fun i=>di K H p xs/\∃ v,gi xs i=some v/\Q v H
noncomputable def WP:e0:=fun x y H Q=>∃ z i c,x=.str z/\y=.int i/\z.length <= sizeLine/\gi z.cps.toList i=some c/\Q (.str ⟨#[c]⟩) H
theorem c8:wz X (F4 X.K):=by
 intro value slice ae s σ H x y v u Q J bj bp h av;obtain ⟨p,rfl,xs,iL⟩:=fe.out h;obtain ⟨i,rfl,a0,z,he,q⟩:=gg.out iL;cases bj;obtain ⟨t,rfl⟩:=bp;obtain ⟨a',r,pl,aT⟩:=J.list a0;obtain ⟨j,af,ak,a9,cW,eF⟩:=Fu he;obtain ⟨w,n_,hh⟩:=r.get ak;have aL:=r.length;have a4:=tb;have fin:gJ X ae σ Q w s:=⟨z,H,J,hh,q⟩;by_cases h0:0 <= i
 .have aJ:i.toNat=j:=by
   rw [seqIndex_of h0 eF] at af;exact d1 af
  exact item_listR pl.isList h0 (by omega) (by rw [aJ];simpa using n_) fin av
 .have aJ:(i + (a'.toArray.size:Int)).toNat=j:=by
   rw [seqIndex_neg (by omega) cW] at af;rw [gQ,<- aL];exact d1 af
  exact subscriptTail_builtinR (x:=w) pl.isList.typeIs slot_list_getitem.lookup
   (wpAny_getItem_list_neg (Q:=fun r ai=>r=w/\gJ X ae σ Q r ai) pl.isList (by omega) (by rw [gQ] <;> omega) (by omega) (by rw [aJ];simpa using n_) ⟨rfl,fin⟩) av
theorem fv:wz X (H8 X.K):=by
 intro value slice ae s σ H x y v u Q J bj bp h av;obtain ⟨p,rfl,xs,iL⟩:=fe.out h;obtain ⟨i,rfl,a0,z,he,q⟩:=gg.out iL;cases bj;obtain ⟨t,rfl⟩:=bp;obtain ⟨a',r,pl,aT⟩:=J.tuple a0;obtain ⟨j,af,ak,a9,cW,eF⟩:=Fu he;obtain ⟨w,n_,hh⟩:=r.get ak;have aL:=r.length;have a4:=tb;have fin:gJ X ae σ Q w s:=⟨z,H,J,hh,q⟩;exact subscriptTail_builtinR (x:=w) pl.typeIs slot_tuple_getitem.lookup
  (getItem_tuple (j:=j) (Q:=fun r ai=>r=w/\gJ X ae σ Q r ai) pl (by omega) (by omega) (by rw [gQ,<- aL];exact af) (by simpa using n_) ⟨rfl,fin⟩) av
theorem E':wz X WP:=by
 intro value slice ae s σ H x y v u Q J bj bp h av;obtain ⟨z,i,c,rfl,rfl,aT,he,q⟩:=h;obtain ⟨t,rfl⟩:=bj;obtain ⟨t',rfl⟩:=bp;obtain ⟨j,af,ak,a9,cW,eF⟩:=Fu he;have aL:z.cps.toList.length=z.length:=by simp [tM]
 rw [aL] at af cW eF;have a4:=tb;exact tail_any (typeIs_str s z t) slot_str_getitem.lookup (getItem_str (c:=c) (by
  have au:decide (i < -(2 ^ 63:Int))=false:=decide_eq_false (by omega);have aH:decide (i ≥ 2 ^ 63)=false:=decide_eq_false (by omega);rw [au,aH,OH]) (by rw [af];simpa using ak) ⟨.str ⟨#[c]⟩,H,J.tok _,⟨_,rfl⟩,q⟩) av
theorem Inv.lst {p:Addr} (J:Inv X ae σ H s) (h:H p=some (.lst xs)) :
  ∃ (a':List Value) (n:Nat),b8 xs a'/\s.heap.get? p=some { cls:=.type "list",data:=.seq a'.toArray n }/\xs.length <= sizeLine:=by
 obtain ⟨z,a',n,r,e⟩:=J.bl p _ h;exact ⟨a',n,r,e,z⟩
theorem aae (lo ag:Option Int) (n:Nat):(sliceBounds lo ag none n).1=((eV.c1 n 0 lo:Nat):Int)/\(sliceBounds lo ag none n).2.1=((eV.c1 n n ag:Nat):Int)/\(sliceBounds lo ag none n).2.2=1:=by
 refine ⟨?_,?_,rfl⟩
 .cases lo with
  | none=>simp [sliceBounds,eV.c1]
  | some i=>
   simp only [sliceBounds,eV.c1,ahW,show (1:Int) > 0 by decide,if_true];by_cases h:i < 0
   .simp only [h,if_true] <;> omega
   .simp only [h,if_false] <;> omega
 .cases ag with
  | none=>simp [sliceBounds,eV.c1]
  | some i=>
   simp only [sliceBounds,eV.c1,ahW,show (1:Int) > 0 by decide,if_true];by_cases h:i < 0
   .simp only [h,if_true] <;> omega
   .simp only [h,if_false] <;> omega
theorem af5 (a':List Value) (lo ag:Option Int):slicePick a'.toArray lo ag none=((a'.drop (eV.c1 a'.length 0 lo)).take (eV.c1 a'.length a'.length ag - eV.c1 a'.length 0 lo)).toArray:=by
 obtain ⟨af,ak,a9⟩:=aae lo ag a'.toArray.size;unfold slicePick;rw [af,ak,a9];simp only [sliceRange_one,pick_run,gQ] <;> rfl
noncomputable def EF (K:ba):V->Option Int->Option Int->ar->cX->Prop:=fun x lo ag H Q=>∃ a xs,x=.ref a/\aC K H a xs/\∀ p,H p=none->Q (.ref p) (upd H p (.lst (iU xs lo ag)))
theorem zU:Bp X (EF X.K):=by
 intro ae s σ H x v jq je lo ag bS Q J bj av pl pu h;obtain ⟨a,xs,rfl,ah,q⟩:=h;cases bj;obtain ⟨a',r,cq,aT⟩:=J.list ah;have hlen:=r.length;refine ⟨"list",_,slot_list_getitem.lookup,cq.isList.typeIs,?_⟩;refine wpAny_getItem_list_slice cq.isList av pl pu .none (by simp) ?_ (by rw [gQ] <;> omega);rw [af5,<- hlen];refine ⟨.ref s.heap.objs.size,_,J.laid (t':=s.toks) (o:=.lst (iU xs lo ag)) (fun b b0 q=>eU _ q) (cn _) ?_,rfl,q _ (J.bl.fresh (cn _))⟩;exact ⟨c_ (MA xs lo ag) aT,_,0,(r.drop (eV.c1 xs.length 0 lo)).take (eV.c1 xs.length xs.length ag - eV.c1 xs.length 0 lo),hI _ rfl⟩
noncomputable def lG:V->Bool
 | .b6=>true
 | .bk _=>true
 | .int _=>true
 | .str _=>true
 | _=>false
noncomputable def kP:V->V->Bool
 | .b6,.b6=>true
 | .bk a,.bk b=>a == b
 | .bk a,.int b=>(if a then 1 else 0) == b
 | .int a,.bk b=>a == (if b then 1 else 0)
 | .int a,.int b=>a == b
 | .str a,.str b=>a == b
 | _,_=>false
theorem af2 {A:Around} {y x:V} (bp:bI y u) (bj:bI x v) (YR:lG y=true) (lM:lG x=true):V8 A s u v (kP y x):=by
 cases y with
 | b6=>
  cases bp;cases x with
  | b6=>cases bj;exact SeqAt.EqAt.same _
  | bk b=>cases bj;exact SeqAt.EqAt.none_bool b
  | int b=>obtain ⟨t,rfl⟩:=bj;exact SeqAt.EqAt.none_int b t
  | str b=>obtain ⟨t,rfl⟩:=bj;exact SeqAt.EqAt.none_str b t
  | _=>exact absurd (show false=true from lM) fm
 | bk a=>
  cases bp;cases x with
  | b6=>cases bj;exact SeqAt.EqAt.bool_none a
  | bk b=>cases bj;exact SeqAt.EqAt.bool_bool a b
  | int b=>obtain ⟨t,rfl⟩:=bj;exact SeqAt.EqAt.bool_int a b t
  | str b=>obtain ⟨t,rfl⟩:=bj;exact SeqAt.EqAt.bool_str a b t
  | _=>exact absurd (show false=true from lM) fm
 | int a=>
  obtain ⟨t',rfl⟩:=bp;cases x with
  | b6=>cases bj;exact SeqAt.EqAt.int_none a t'
  | bk b=>cases bj;exact SeqAt.EqAt.int_bool a t' b
  | int b=>obtain ⟨t,rfl⟩:=bj;exact SeqAt.EqAt.int_int a t' b t
  | str b=>obtain ⟨t,rfl⟩:=bj;exact ah2 a t' b t
  | _=>exact absurd (show false=true from lM) fm
 | str a=>
  obtain ⟨t',rfl⟩:=bp;cases x with
  | b6=>cases bj;exact SeqAt.EqAt.str_none a t'
  | bk b=>cases bj;exact SeqAt.EqAt.str_bool a t' b
  | int b=>obtain ⟨t,rfl⟩:=bj;exact U5 a t' b t
  | str b=>obtain ⟨t,rfl⟩:=bj;exact SeqAt.EqAt.str_str a t' b t
  | _=>exact absurd (show false=true from lM) fm
 | _=>exact absurd (show false=true from YR) fm
noncomputable def jS (x:V) (u:Value):Bool:=match u with
 | .none=>kP .b6 x
 | .bool b=>kP (.bk b) x
 | .int i _=>kP (.int i) x
 | .str z _=>kP (.str z) x
 | _=>false
theorem RA {x y:V} (r:bI y u) (f:lG y=true):jS x u=kP y x:=by
 cases y with
 | b6=>cases r;rfl
 | bk b=>cases r;rfl
 | int i=>obtain ⟨t,rfl⟩:=r;rfl
 | str z=>obtain ⟨t,rfl⟩:=r;rfl
 | _=>exact absurd (show false=true from f) fm
theorem uC {x:V}:∀ {xs:List V} {us:List Value},b8 xs us->xs.all lG=true->us.any (jS x)=xs.any fun y=>kP y x
 | _,_,.nil,_=>rfl
 | y :: xs,u :: us,.cons r t,f=>by
  rw [XD,hX] at f;rw [u2,u2,RA r f.1,uC t f.2]
theorem xj {A:Around} {x:V} (bj:bI x v) (lM:lG x=true):∀ {xs:List V} {us:List Value},b8 xs us->xs.all lG=true->∀ u ∈ us,V8 A s u v (jS x u)
 | _,_,.nil,_=>fun u bx=>by cases bx
 | y :: xs,u :: us,.cons r t,f=>fun sh bx=>by
  rw [XD,hX] at f;rcases eJ.mp bx with rfl | bx
  .rw [RA r f.1];exact af2 r bj f.1 lM
  .exact xj bj lM t f.2 sh bx
noncomputable def pX (x:V) (xs:List V):Bool:=xs.any fun y=>kP y x
noncomputable def A5 (K:ba) (neg:Bool):e0:=fun x y H Q=>∃ p xs,y=.ref p/\(aC K H p xs\/di K H p xs)/\lG x=true/\xs.all lG=true/\Q (.bk (if neg then !pX x xs else pX x xs)) H
theorem yD:hA X (compareOp .In) (A5 X.K false):=by
 intro ae s σ H x y v u Q J bj bp h;obtain ⟨p,xs,rfl,a0,lM,aN,q⟩:=h;cases bp;rcases a0 with a0 | a0
 .obtain ⟨a',r,pl,aT⟩:=J.list a0;refine SeqAt.in_listAt (jS x) pl.isList (fun w hw=>xj bj lM r aN w (by simpa using hw)) ⟨.bk _,H,J,rfl,?_⟩;rw [show a'.toArray.any (jS x)=a'.any (jS x) by simp,uC r aN];exact q
 .obtain ⟨a',r,pl,aT⟩:=J.tuple a0;refine SeqAt.in_tupleAt (jS x) pl (fun w hw=>xj bj lM r aN w (by simpa using hw)) ⟨.bk _,H,J,rfl,?_⟩;rw [show a'.toArray.any (jS x)=a'.any (jS x) by simp,uC r aN];exact q
theorem am:hA X (compareOp .NotIn) (A5 X.K true):=by
 intro ae s σ H x y v u Q J bj bp h;obtain ⟨p,xs,rfl,a0,lM,aN,q⟩:=h;cases bp;rcases a0 with a0 | a0
 .obtain ⟨a',r,pl,aT⟩:=J.list a0;refine SeqAt.notIn_listAt (jS x) pl.isList (fun w hw=>xj bj lM r aN w (by simpa using hw)) ⟨.bk _,H,J,rfl,?_⟩;rw [show a'.toArray.any (jS x)=a'.any (jS x) by simp,uC r aN];exact q
 .obtain ⟨a',r,pl,aT⟩:=J.tuple a0;refine SeqAt.notIn_tupleAt (jS x) pl (fun w hw=>xj bj lM r aN w (by simpa using hw)) ⟨.bk _,H,J,rfl,?_⟩;rw [show a'.toArray.any (jS x)=a'.any (jS x) by simp,uC r aN];exact q
theorem hD:ma X (.builtin "len") (fun xs H Q=>lO xs fun x=>fe x fun p=>∃ ys,(aC X.K H p ys\/di X.K H p ys)/\Q (.int ys.length) H):=by
 intro ae s σ H xs us Q J r h;obtain ⟨afi,rfl,iL⟩:=lO.out h;obtain ⟨p,rfl,ys,a0,q⟩:=fe.out iL;obtain ⟨u,rfl,bj⟩:=lZ r;cases bj;have a4:=tb;rcases a0 with a0 | a0
 .obtain ⟨a',ei,pl,aT⟩:=J.list a0;have hlen:=ei.length;exact Calls.call_len_list pl.isList (by simp only [gQ] <;> omega) ⟨.int ys.length,H,J.tok _,⟨s.toks + 1,by rw [gQ,hlen]⟩,q⟩
 .obtain ⟨a',ei,pl,aT⟩:=J.tuple a0;have hlen:=ei.length;exact len_tuple pl (by simp only [gQ] <;> omega) ⟨.int ys.length,H,J.tok _,⟨s.toks + 1,by rw [gQ,hlen]⟩,q⟩
theorem UA:ma X (.builtin "len") (fun xs H Q=>∃ z,xs=[.str z]/\z.length <= sizeLine/\Q (.int z.length) H):=by
 intro ae s σ H xs us Q J r h;obtain ⟨z,rfl,aT,q⟩:=h;obtain ⟨u,rfl,t,rfl⟩:=lZ r;have a4:=tb;exact len_str (by omega) ⟨.int z.length,H,J.tok _,⟨_,rfl⟩,q⟩
def DL (K:ba) (T:String) (x:V) (H:ar):Prop:=match x with
 | .str _=>T = "str"
 | .int _=>T = "int"
 | .ref p=>(T = "list" /\ ∃ xs,aC K H p xs)\/(T = "tuple" /\ ∃ o,K.lookup p=some o/\o.cls=.type "tuple" /\ o.dict=none) \/
   (T = "dict" /\ ((∃ kvs,H p=some (.bu kvs))\/∃ kvs,H p=some (.fL kvs)))\/(T = "set" /\ ∃ S n,H p=some (.set S n))
 | _=>False
theorem agP {x:V} (J:Inv X ae σ H s) (r:bI x v) (ty:DL X.K T x H) :
  s.TypeIs v T/\∀ a,v=.ref a->∃ b0,s.heap.get? a=some b0/\b0.dict=none:=by
 cases x with
 | str z=>
  obtain ⟨t,rfl⟩:=r;cases (show T = "str" from ty);exact ⟨typeIs_str s z t,fun _ e=>nomatch e⟩
 | int i=>
  obtain ⟨t,rfl⟩:=r;cases (show T = "int" from ty);exact ⟨typeIs_int s i t,fun _ e=>nomatch e⟩
 | ref p=>
  cases r;rcases ty with ⟨rfl,xs,a0⟩ | ⟨rfl,o,az,ay,hd⟩ | ⟨rfl,az⟩ | ⟨rfl,S,n,az⟩
  .obtain ⟨a',_,pl,_⟩:=J.list a0;refine ⟨pl.isList.typeIs,fun a e=>?_⟩;cases e;obtain ⟨o,n,e,c,hd,_⟩:=pl;exact ⟨o,e,hd⟩
  .refine ⟨⟨o,J.iV p o az,ay⟩,fun a e=>?_⟩;cases e;exact ⟨o,J.iV _ o az,hd⟩
  .have z:∃ o,s.heap.get? p=some o/\o.ExactDict:=by
    rcases az with ⟨kvs,az⟩ | ⟨kvs,az⟩
    .obtain ⟨_,_,_,_,o,_,_,e,ex,_⟩:=J.bl p _ az;exact ⟨o,e,ex⟩
    .obtain ⟨_,_,_,_,o,_,_,e,ex,_⟩:=J.bl p _ az;exact ⟨o,e,ex⟩
   obtain ⟨o,e,ex⟩:=z;refine ⟨⟨o,e,ex.1⟩,fun a aH=>?_⟩;cases aH;exact ⟨o,e,ex.2.1⟩
  .obtain ⟨o,_,_,_,e,ex,_⟩:=J.bl p _ az;refine ⟨⟨o,e,ex.1⟩,fun a aH=>?_⟩;cases aH;exact ⟨o,e,ex.2.1⟩
 | _=>exact iz ty
noncomputable def FO (K:ba) (T:String) (r:V->List V->ar->cX->Prop) (to:TE) (t:fE):TE:=fun σ H Q=>to σ H fun x H1=>DL K T x H1/\t σ H1 fun xs aw=>r x xs aw Q
variable {o e:Expr} {a3:List Expr} {to:TE} {t:fE} {name:Str} {fs hG:Pos} {T id:String} {r:V->List V->ar->cX->Prop}
theorem gq (jF:PlainAttrs T) (slot:Slot T name id) (ZG:typeOf (.builtin id)=pure (.type "method_descriptor")) (hm:JD X id r) (aY:bq X o to) (aS:jN X (e :: a3) t)
  (ag2:attributeBase o name X.env (eval o X.env)=eval o X.env:=by rfl)
  (Xs:((backTo hG (starEach (e :: a3) X.env)).all (fun x=>!x.1) && (backToKw hG (keywordEach [] X.env)).all (fun x=>x.1.isSome)
   && decide ((e :: a3).length + ([]:List Keyword).length + (if ([]:List Keyword).isEmpty then 0 else 1) < 30))=true:=by rfl)
  (abM:(fs.endLine == hG.line)=true:=by rfl) (av:starEach (e :: a3) X.env=(false,eval e X.env) :: starEach a3 X.env:=by rfl) (hplain:(backTo hG (starEach a3 X.env)).any (·.1)=false:=by rfl) :
  bq X (.Call (.Attribute o name fs) (e :: a3) [] hG) (FO X.K T r to t):=by
 intro ae s σ H Q J h;refine wpAny_Call_method_late ag2 Xs abM rfl (bC (aY ae s σ H _ J h) fun v s1 bw=>?_);obtain ⟨x,H1,a5,cQ,ty,bG⟩:=bw;obtain ⟨af,ak⟩:=agP a5 cQ ty;refine ⟨T,id,jF,slot,ZG,af,ak,?_⟩;have jg:=aS hG ae s1 σ H1 _ a5 bG;rw [av] at jg ⊢;refine Pb (by show (false || (backTo hG (starEach a3 X.env)).any (·.1))=false;rw [hplain] <;> rfl) (P9 ?_);exact bC jg fun us s2 ⟨vs,aw,bR,hx,dM⟩=>hm ae s2 σ aw x vs v us Q bR cQ hx dM
end
def E4 (X:a7) (id:String) (r:V->List V->ar->cX->Prop):Prop:=
 ∀ (ae:List (Addr × Obj)) (s:Shared) (σ:St) (H:ar) (x:V) (xs:List V) (v:Value) (us:List Value) (Q:cX),Inv X ae σ H s->bI x v->b8 xs us->r x xs H Q ->
  wpAny (model X.prog X.w) X.A (call (.builtin id) (v :: us)) (gJ X ae σ Q) X.dK s
theorem b8.one:∀ {x:V} {us:List Value},b8 [x] us->∃ u,us=[u]/\bI x u
 | _,_,.cons r .nil=>⟨_,rfl,r⟩
theorem b8.two:∀ {x y:V} {us:List Value},b8 [x,y] us->∃ u v,us=[u,v]/\bI x u/\bI y v
 | _,_,_,.cons r (.cons q .nil)=>⟨_,_,rfl,r,q⟩
theorem b8.zero:∀ {us:List Value},b8 [] us->us=[]
 | _,.nil=>rfl
theorem b8.reverse (h:b8 xs us):b8 xs.reverse us.reverse:=by
 induction h with
 | nil=>exact .nil
 | cons r t b4=>rw [XS,XS];exact b8.append b4 (.cons r .nil)
section
variable {X:a7} {ae:List (Addr × Obj)} {σ:St} {H:ar} {s:Shared} {l b:Addr} {xs ys zs:List V}
theorem Inv.Fo {a' its':List Value} (J:Inv X ae σ H s) (ks:H l=some (.lst xs))
  (e:s.heap.get? l=some { cls:=.type "list",data:=.seq a'.toArray n }) (hf:f a'.toArray=its'.toArray) (aI:b8 ys its') (aT:ys.length <= sizeLine) :
  Inv X ae σ (upd H l (.lst ys)) { s with heap:=s.heap.update l (u_ f),toks:=t' }:=by
 have q:=PySem.IsL.update e f;rw [hf] at q;refine J.write (x:=l) (e:=l) (by rw [ks];exact trivial) (.inl rfl) (fun ip u aa bx=>(vA s.heap (u_ f) (dW aa)).trans bx) ⟨_,q⟩ ?_;exact ⟨aT,its',_,aI,q⟩
theorem Inv.fresh (J:Inv X ae σ H s):H s.heap.objs.size=none:=J.bl.fresh (cn _)
theorem Inv.xG (J:Inv X ae σ H s) (ks:H l=some (.lst xs)):xs.length <= sizeLine/\∃ (a':List Value) (n:Nat),b8 xs a'/\xs.length=a'.length/\s.heap.get? l=some { cls:=.type "list",data:=.seq a'.toArray n }:=by
 obtain ⟨z,a',n,r,e⟩:=J.bl l _ ks;exact ⟨z,a',n,r,r.length,e⟩
theorem Z2 (h:n <= sizeLine):M' n=false:=by
 unfold M';exact decide_eq_false (by omega)
end
section
variable {X:a7}
noncomputable def GZ:V->List V->ar->cX->Prop:=fun x vs H Q=>fe x fun l=>lO vs fun y=>∃ xs,H l=some (.lst xs)/\xs.length < sizeLine/\Q .b6 (upd H l (.lst (xs ++ [y])))
theorem lD:E4 X "list.append" GZ:=by
 intro ae s σ H x vs v us Q J bj cT h;obtain ⟨l,rfl,iL⟩:=fe.out h;obtain ⟨y,rfl,xs,ks,aT,q⟩:=lO.out iL;cases bj;obtain ⟨u,rfl,fw⟩:=cT.one;obtain ⟨z,a',n,r,aL,e⟩:=J.xG ks;refine call_meets lh ⟨_,e,rfl⟩ F.entry_list_append (F.args_list_append_2 _ _) (PySem.list_append l a'.toArray n u (by rw [gQ];omega)) ⟨e,?_⟩;refine ⟨.b6,_,J.Fo (its':=a' ++ [u]) ks e (by simp) (r.append (.cons fw .nil)) ?_,rfl,q⟩;rw [dY,w1];omega
noncomputable def DD:V->List V->ar->cX->Prop:=fun x vs H Q=>∃ l b xs zs,x=.ref l/\vs=[.ref b]/\H l=some (.lst xs)/\H b=some (.lst zs)/\xs.length + zs.length <= sizeLine/\Q .b6 (upd H l (.lst (xs ++ zs)))
theorem Jy:E4 X "list.extend" DD:=by
 intro ae s σ H x vs v us Q J bj cT h;obtain ⟨l,b,xs,zs,rfl,rfl,ks,h1,aT,q⟩:=h;cases bj;obtain ⟨u,rfl,fw⟩:=cT.one;cases fw;obtain ⟨z,a',n,r,aL,e⟩:=J.xG ks;obtain ⟨eS,yr,cO,hx,aiu,aH⟩:=J.xG h1;have hsz:a'.toArray.size + yr.toArray.size <= sizeLine:=by rw [gQ,gQ];omega
 have VU:¬ (!a'.toArray.isEmpty && M' (a'.toArray.size + yr.toArray.size))=true:=by
  rw [Z2 hsz,TY];exact fm
 refine call_meets B' ⟨_,e,rfl⟩ F.entry_list_extend (F.args_list_extend_2 _ _)
  (AutoSeq1.list_extend_list_list_0 l a'.toArray n b yr.toArray cO VU (by rw [gQ];omega) (by omega)) ⟨e,aH,?_⟩
 refine ⟨.b6,_,J.Fo (its':=a' ++ yr) ks e (by simp) (r.append hx) ?_,rfl,q⟩;rw [dY];omega
end
section
variable {prog:Program} {w:World} {A:Around} {E:Value->Shared->Prop} {s:Shared}
end
section
variable {X:a7}
end
section
variable {ek:Type} [DecidableEq ek]
noncomputable def cM (kvs:List (ek × V)) (k:ek):Option V:=(kvs.find? fun c7=>decide (c7.1=k)).map (·.2)
noncomputable def d5 (kvs:List (ek × V)) (k:ek) (v:V):List (ek × V):=
 if (kvs.any fun c7=>decide (c7.1=k))=true then kvs.map (fun c7=>if c7.1=k then (c7.1,v) else c7) else kvs ++ [(k,v)]
noncomputable def k7 (kvs:List (ek × V)) (k:ek):List (ek × V):=kvs.filter fun c7=>decide (c7.1 ≠ k)
theorem my {p:ek × V} {k:ek} (e:p.1=k):cM (p :: r) k=some p.2:=by simp [cM,pn,e]
theorem nc {p:ek × V} {k:ek} (e:¬ p.1=k):cM (p :: r) k=cM r k:=by simp [cM,pn,e]
theorem z0 (k:ek):∀ kvs:List (ek × V),(kvs.any fun c7=>decide (c7.1=k))=(cM kvs k).isSome
 | []=>rfl
 | p :: r=>by
  rw [u2];by_cases e:p.1=k
  .simp only [my e,decide_eq_true e,qS,Option.isSome_some]
  .rw [nc e,decide_eq_false e,lj];exact z0 k r
theorem Qp (k j:ek) (y:V):∀ kvs:List (ek × V),cM (kvs.map fun c7=>if c7.1=k then (c7.1,y) else c7) j=(cM kvs j).map fun x=>if j=k then y else x
 | []=>rfl
 | p :: r=>by
  have b4:=Qp k j y r;rw [er];by_cases h:p.1=k
  .rw [if_pos h];by_cases e:p.1=j
   .rw [my (p:=(p.1,y)) e,my e,Aa,if_pos (e.symm.trans h)]
   .rw [nc (p:=(p.1,y)) e,nc e,b4]
  .rw [if_neg h];by_cases e:p.1=j
   .rw [my (p:=p) e,my e,Aa,if_neg (fun z=>h (e.trans z))]
   .rw [nc (p:=p) e,nc e,b4]
theorem Le (k j:ek) (y:V):∀ kvs:List (ek × V),cM kvs k=none->cM (kvs ++ [(k,y)]) j=if j=k then some y else cM kvs j
 | [],_=>by
  by_cases e:k=j
  .rw [if_pos e.symm];exact my (p:=(k,y)) e
  .rw [if_neg (fun z=>e z.symm)];exact nc (p:=(k,y)) e
 | p :: r,a4=>by
  rw [BC];have az:¬ p.1=k:=fun z=>by rw [my z] at a4;cases a4
  rw [nc az] at a4;have b4:=Le k j y r a4;by_cases e:p.1=j
  .rw [my e,my e,if_neg (fun z=>az (e.trans z))]
  .rw [nc e,nc e,b4]
theorem LM (kvs:List (ek × V)) (k j:ek) (y:V):cM (d5 kvs k y) j=if j=k then some y else cM kvs j:=by
 unfold d5;by_cases a:(kvs.any fun c7=>decide (c7.1=k))=true
 .rw [if_pos a,Qp];rw [z0] at a;by_cases e:j=k
  .obtain ⟨x,ah⟩:=acq.mp a;rw [if_pos e,e,ah,Aa,if_pos rfl]
  .rw [if_neg e];cases cM kvs j with
   | none=>rfl
   | some x=>rw [Aa,if_neg e]
 .rw [if_neg a];refine Le k j y kvs ?_;rw [z0] at a;cases q:cM kvs k with
  | none=>rfl
  | some x=>rw [q] at a;exact (a rfl).elim
theorem EU (kvs:List (ek × V)) (k:ek) (v:V):(d5 kvs k v).length <= kvs.length + 1:=by
 unfold d5;split
 .rw [aZ];omega
 .rw [dY,iu,vB];omega
theorem hF.Ex (r:hF o u):o.isSome=u.isSome:=by
 cases o with
 | none=>cases u with
  | none=>rfl
  | some _=>exact (show False from r).elim
 | some _=>cases u with
  | none=>exact (show False from r).elim
  | some _=>rfl
theorem hF.getD (r:hF o u) (kk:bI d d'):bI (o.getD d) (u.getD d'):=by
 cases o with
 | none=>cases u with
  | none=>exact kk
  | some _=>exact (show False from r).elim
 | some _=>cases u with
  | none=>exact (show False from r).elim
  | some _=>exact r
theorem en.val (r:en kvs vs) (k:ek):hF (cM kvs k) (valueAt vs k):=by
 unfold en at r
 induction r with
 | nil=>exact kO
 | @cons p q ps qs h t b4=>
  obtain ⟨af,ak⟩:=h;by_cases e:p.1=k
  .have bT:q.1=k:=af.symm.trans e;have b:valueAt (q :: qs) k=some q.2:=by simp [valueAt,pn,bT]
   rw [my e,b];exact ak
  .have bT:¬ q.1=k:=fun z=>e (af.trans z)
   have b:valueAt (q :: qs) k=valueAt qs k:=by simp [valueAt,pn,bT]
   rw [nc e,b];exact b4
theorem en.any (r:en kvs vs) (k:ek):(kvs.any fun c7=>decide (c7.1=k))=vs.any fun c7=>decide (c7.1=k):=by
 unfold en at r
 induction r with
 | nil=>rfl
 | cons h t b4=>rw [u2,u2,b4,h.1]
theorem en.Ez (r:en kvs vs) (k:ek) (bp:bI y u) :
  en (kvs.map fun c7=>if c7.1=k then (c7.1,y) else c7) (vs.map fun c7=>if c7.1=k then (c7.1,u) else c7):=by
 unfold en at r ⊢
 induction r with
 | nil=>exact .nil
 | @cons p q ps qs h t b4=>
  rw [er,er];refine .cons ?_ b4;obtain ⟨af,ak⟩:=h;by_cases e:p.1=k
  .rw [if_pos e,if_pos (af.symm.trans e)];exact ⟨af,bp⟩
  .rw [if_neg e,if_neg (fun z=>e (af.trans z))];exact ⟨af,ak⟩
theorem en.put (r:en kvs vs) (k:ek) (bp:bI y u):en (d5 kvs k y) (stored vs k u):=by
 unfold d5 stored;rw [r.any k];by_cases e:(vs.any fun c7=>decide (c7.1=k))=true
 .rw [if_pos e,if_pos e];exact r.Ez k bp
 .rw [if_neg e,if_neg e];exact KR r ⟨rfl,bp⟩
theorem en.drop (r:en kvs vs) (k:ek):en (k7 kvs k) (without vs k):=by
 unfold en at r ⊢;unfold k7 without
 induction r with
 | nil=>exact .nil
 | @cons p q ps qs h t b4=>
  obtain ⟨af,ak⟩:=h;rw [TF,TF];by_cases e:p.1=k
  .have a:¬ decide (p.1 ≠ k)=true:=by simp [e]
   have b:¬ decide (q.1 ≠ k)=true:=by simp [af.symm.trans e]
   rw [if_neg a,if_neg b];exact b4
  .have bT:¬ q.1=k:=fun z=>e (af.trans z)
   have a:decide (p.1 ≠ k)=true:=by simp [e]
   have b:decide (q.1 ≠ k)=true:=by simp [bT]
   rw [if_pos a,if_pos b];exact .cons ⟨af,ak⟩ b4
theorem en.keys {kvs:List (ek × V)} {vs:List (ek × Value)} (r:en kvs vs):kvs.map (·.1)=vs.map (·.1):=by
 unfold en at r
 induction r with
 | nil=>rfl
 | cons h t b4=>rw [er,er,b4,h.1]
theorem en.length (r:en kvs vs):kvs.length=vs.length:=EN r
theorem ahU (kvs:List (ek × V)) (k:ek):(k7 kvs k).length <= kvs.length:=Aq _ _
end
theorem q8 {w:World} {k:Key} (r:bI (dz k) u):(re P w).is k u=true:=by
 cases k with
 | inl i=>obtain ⟨t,e⟩:=(show ∃ t,u=od i t from r);subst e;exact aeq P w i t
 | inr x=>obtain ⟨t,e⟩:=(show ∃ t,u=vM x t from r);subst e;exact ac3 P w x t
theorem Ou {w:World}:∀ {b9:List Key} {us:List Value},b8 (b9.map dz) us->ItemsAre (re P w) b9 us
 | [],_,r=>by rw [p6] at r;cases r;exact .nil
 | k :: b9,_,r=>by
  rw [er] at r;cases r with
  | cons h t=>exact .cons (q8 h) (Ou t)
noncomputable abbrev KT (H:ar):List (List Key × V)->List (List Key × Addr × Value)->Prop:=Paired fun p q=>p.1=q.1/\H q.2.1=some (.tup (p.1.map dz))/\bI p.2 q.2.2
theorem KT.val (r:KT H kvs xs) (k:List Key):hF (cM kvs k) ((atKey xs k).map (·.2)):=by
 induction r with
 | nil=>exact kO
 | @cons p q ps qs h t b4=>
  obtain ⟨af,_,ak⟩:=h;by_cases e:p.1=k
  .have bT:q.1=k:=af.symm.trans e;have b:atKey (q :: qs) k=some q.2:=by simp [atKey,pn,bT]
   rw [my e,b];exact ak
  .have bT:¬ q.1=k:=fun z=>e (af.trans z)
   have b:atKey (q :: qs) k=atKey qs k:=by simp [atKey,pn,bT]
   rw [nc e,b];exact b4
theorem KT.Ez (r:KT H kvs xs) (k:List Key) (bp:bI y u) :
  KT H (kvs.map fun c7=>if c7.1=k then (c7.1,y) else c7) (xs.map (putAt k u)):=by
 induction r with
 | nil=>exact .nil
 | @cons p q ps qs h t b4=>
  rw [er,er];refine .cons ?_ b4;obtain ⟨af,ak,a9⟩:=h;unfold putAt;by_cases e:p.1=k
  .rw [if_pos e,if_pos (af.symm.trans e)];exact ⟨af,ak,bp⟩
  .rw [if_neg e,if_neg (fun z=>e (af.trans z))];exact ⟨af,ak,a9⟩
theorem KT.put (r:KT H kvs xs) (k:List Key) (aa:H b=some (.tup (k.map dz))) (bp:bI y u) :
  KT H (d5 kvs k y) (storedH xs k b u):=by
 have e:(kvs.any fun c7=>decide (c7.1=k))=(atKey xs k).isSome:=by
  rw [z0,(r.val k).Ex,acL]
 unfold d5 storedH;rw [e];by_cases q:(atKey xs k).isSome=true
 .rw [if_pos q,if_pos q];exact r.Ez k bp
 .rw [if_neg q,if_neg q];exact KR r ⟨rfl,aa,bp⟩
theorem KT.keeps (r:KT H kvs xs) (cq:∀ b ys,H b=some (.tup ys)->I b=some (.tup ys)):KT I kvs xs:=
 Paired.qv r fun _ _ z=>⟨z.1,cq _ _ z.2.1,z.2.2⟩
section
variable {P:Program} {w:World} {H:ar} {h:Heap} {a:Addr}
theorem Rx (ok:et P w H h) (e:i3 H a u):ed P w H h a u:=e.ok ok
theorem sE (ok:et P w H h) (e:i3 H a (.bu kvs)):kvs.length <= sizeLine/\(a == sysModules)=false/\∃ vs,en kvs vs/\h.DictOf (re P w) a vs:=
 show ed P w H h a (.bu kvs) from Rx ok e
theorem w7 (ok:et P w H h) (e:H a=some (.bu kvs)):kvs.length <= sizeLine/\(a == sysModules)=false/\∃ vs,en kvs vs/\h.DictOf (re P w) a vs:=sE ok (.inl e)
theorem wg {b9:List Key} (ok:et P w H h) (e:H a=some (.tup (b9.map dz))):(tupleKind (re P w)).is h b9 a:=by
 obtain ⟨_,a',r,o,af,ak,n,a9⟩:=(show ed P w H h a (.tup (b9.map dz)) from ok a _ e);exact ⟨o,a'.toArray,n,af,ak,a9,by simpa using Ou r⟩
theorem wd (ok:et P w H h) (e:i3 H a (.fL kvs)):kvs.length <= sizeLine/\(a == sysModules)=false /\
  ∃ xs,KT H kvs xs/\h.DictOfH (tupleKind (re P w)) a xs:=by
 obtain ⟨z,y,xs,r,o,a3,cG,af,ak,a9,cW,eF⟩:=(show ed P w H h a (.fL kvs) from Rx ok e);refine ⟨z,y,xs,r,o,a3,cG,af,ak,a9,cW,fun x ah=>?_,eF⟩;have all:∀ {l:List (List Key × V)} {m:List (List Key × Addr × Value)},KT H l m->∀ x ∈ m,(tupleKind (re P w)).is h x.1 x.2.1:=by
  intro l m q
  induction q with
  | nil=>intro x ah;exact nomatch ah
  | @cons p q ps qs a0 t b4=>
   intro x ah;rcases eJ.mp ah with e | ah
   .subst e;exact wg ok (by rw [<- a0.1];exact a0.2.1)
   .exact b4 x ah
 exact all r x ah
theorem Rb (ok:et P w H h) (e:H a=some (.fL kvs)):kvs.length <= sizeLine/\(a == sysModules)=false /\
  ∃ xs,KT H kvs xs/\h.DictOfH (tupleKind (re P w)) a xs:=wd ok (.inl e)
end
def gI (H:ar) (a:Addr) (y:V) (r:Option V):Prop:=
 (∃ kvs k,i3 H a (.bu kvs)/\y=dz k/\r=cM kvs k)\/∃ kvs k b,i3 H a (.fL kvs)/\y=.ref b/\H b=some (.tup (k.map dz))/\r=cM kvs k
def j7 (H:ar) (a:Addr) (y v:V) (I:ar):Prop:=
 (∃ kvs k,H a=some (.bu kvs)/\y=dz k/\kvs.length < sizeLine/\I=upd H a (.bu (d5 kvs k v))) \/
 ∃ kvs k b,H a=some (.fL kvs)/\y=.ref b/\H b=some (.tup (k.map dz))/\kvs.length < sizeLine/\I=upd H a (.fL (d5 kvs k v))
theorem gI.k {k:Key} (e:H a=some (.bu kvs)):gI H a (dz k) (cM kvs k):=.inl ⟨kvs,k,.inl e,rfl,rfl⟩
theorem gI.t {k:List Key} (e:H a=some (.fL kvs)) (fl:H b=some (.tup (k.map dz))):gI H a (.ref b) (cM kvs k):=.inr ⟨kvs,k,b,.inl e,rfl,fl,rfl⟩
theorem j7.k {k:Key} (e:H a=some (.bu kvs)) (aL:kvs.length < sizeLine):j7 H a (dz k) v (upd H a (.bu (d5 kvs k v))):=.inl ⟨kvs,k,e,rfl,aL,rfl⟩
theorem j7.t {k:List Key} (e:H a=some (.fL kvs)) (fl:H b=some (.tup (k.map dz))) (aL:kvs.length < sizeLine) :
  j7 H a (.ref b) v (upd H a (.fL (d5 kvs k v))):=.inr ⟨kvs,k,b,e,rfl,fl,aL,rfl⟩
section
variable {X:a7} {ae:List (Addr × Obj)} {σ:St} {H:ar} {s:Shared} {a:Addr} {y v:V} {u r:Value} {o:Option V} {A:Around} {E:Value->Shared->Prop}
theorem Inv.big (J:Inv X ae σ H s):sysModules < s.heap.objs.size:=by
 have h:mainGlobals < s.heap.objs.size:=(J.mod.glob.keeps J.cw).lt;exact M_ (by decide) h
theorem abJ (bx:A.units + 1 < cLine) (J:Inv X ae σ H s) (g:gI H a y (some v)) (bp:bI y u) (h:∀ eN ai,Inv X ae σ H ai->bI v eN->Q eN ai) :
  wpAny (model X.prog X.w) A (getItem (.ref a) u) Q E s:=by
 rcases g with ⟨kvs,k,e,iC,l⟩ | ⟨kvs,k,b,e,iC,fl,l⟩
 .subst iC;obtain ⟨z,hd,vs,rel,dB⟩:=sE J.bl e;obtain ⟨eN,hw,hh⟩:=hF.some_of (v:=v) (o:=valueAt vs k) (by rw [l];exact rel.val k);exact wpAny_getItem_of (q8 bp) dB.mapOf hw (h eN _ (J.tok _) hh)
 .subst iC;cases (show u=fC b from bp);obtain ⟨z,hd,xs,rel,dB⟩:=wd J.bl e;obtain ⟨eN,hw,hh⟩:=hF.some_of (v:=v) (o:=(atKey xs k).map (·.2)) (by rw [l];exact rel.val k);obtain ⟨p,ax,hv⟩:=vr.mp hw;refine wpAny_getItem_heap (tupleKind_room_in1 bx) (wg J.bl fl) dB ax ?_;rw [hv];exact h eN _ (J.tok _) hh
theorem Z1 (bx:A.units + 1 < cLine) (J:Inv X ae σ H s) (g:gI H a y o) (bp:bI y u) (h:∀ ai,Inv X ae σ H ai->Q (.bool (!o.isSome)) ai) :
  wpAny (model X.prog X.w) A (compareOp .NotIn u (.ref a)) Q E s:=by
 rcases g with ⟨kvs,k,e,iC,l⟩ | ⟨kvs,k,b,e,iC,fl,l⟩
 .subst iC;obtain ⟨z,hd,vs,rel,dB⟩:=sE J.bl e;refine wpAny_notIn_of (q8 bp) hd dB.mapOf ?_;rw [<- (rel.val k).Ex,<- l];exact h _ (J.tok _)
 .subst iC;cases (show u=fC b from bp);obtain ⟨z,hd,xs,rel,dB⟩:=wd J.bl e;refine wpAny_notIn_heap (tupleKind_room_in1 bx) (wg J.bl fl) hd dB ?_;have q:=(rel.val k).Ex;rw [acL] at q;rw [<- q,<- l];exact h _ (J.tok _)
theorem xK (J:Inv X ae σ H s) (f6:n4 (H a)) (av:vb a s.heap h') (he:∃ q,h'.get? a=some q) (new:ed X.prog X.w (upd H a b0) h' a b0) :
  Inv X ae σ (upd H a b0) { s with heap:=h',toks:=t' }:=
 J.write (x:=a) (e:=a) f6 (.inl rfl) (fun b q aa z=>(av.2 b aa).trans z) he new
theorem Hs {w:World} (z:kvs.length <= sizeLine) (hd:(a == sysModules)=false) (rel:en kvs vs) (dB:h'.DictOf (re P w) a vs) :
  ed P w I h' a (.bu kvs):=⟨z,hd,vs,rel,dB⟩
theorem Nj (bx:A.units + 1 < cLine) (J:Inv X ae σ H s) (g:j7 H a y v I) (bp:bI y u) (cT:bI v r) (h:∀ ai,Inv X ae σ I ai->Q () ai) :
  wpAny (model X.prog X.w) A (setItem (.ref a) u r) Q E s:=by
 rcases g with ⟨kvs,k,e,iC,l,vt⟩ | ⟨kvs,k,b,e,iC,fl,l,vt⟩
 .subst iC vt;obtain ⟨z,hd,vs,rel,dB⟩:=w7 J.bl e;have aT:vs.length <= sizeLine:=by rw [<- rel.length];exact z
  have aL:(d5 kvs k v).length <= sizeLine:=by have:=EU kvs k v;omega
  refine wpAny_setItem_pairs (hsz:=aT) (q8 bp) dB fun h' nx av=>h _ ?_
  have he:∃ q,h'.get? a=some q:=let ⟨q,_,_,a0,_⟩:=nx;⟨q,a0⟩;exact xK J (by rw [e];exact kO) av he (Hs aL hd (rel.put k cT) nx)
 .subst iC vt;cases (show u=fC b from bp);obtain ⟨z,hd,xs,rel,dB⟩:=Rb J.bl e;have aT:xs.length <= sizeLine:=by rw [<- EN rel];exact z
  have aL:(d5 kvs k v).length <= sizeLine:=by have:=EU kvs k v;omega
  refine wpAny_setItem_heap (hsz:=aT) (tupleKind_room_in1 bx) (wg J.bl fl) dB fun h' nx av=>h _ ?_
  obtain ⟨q,a3,cG,a0,ak,a9,cW,_,eF⟩:=nx;refine xK J (by rw [e];exact kO) av ⟨q,a0⟩ ⟨aL,hd,_,(rel.put k fl cT).keeps fun c ys mT=>?_,q,a3,cG,a0,ak,a9,cW,eF⟩;rw [aE (bZ mT e (fun z=>nomatch z))];exact mT
end
section
variable {X:a7} {ae:List (Addr × Obj)} {σ:St} {H:ar} {s:Shared} {a:Addr} {kvs:List (Key × V)} {k:Key} {u:Value} {A:Around} {E:Value->Shared->Prop}
theorem QD (J:Inv X ae σ H s) (e:H a=some (.bu kvs)) (bp:bI (dz k) u) (l:cM kvs k=some v) (hm:more=[]\/∃ x,more=[x])
  (h:∀ eN ai,Inv X ae σ (upd H a (.bu (k7 kvs k))) ai->bI v eN->Q eN ai):wpAny (model X.prog X.w) A (call (.builtin "dict.pop") (.ref a :: u :: more)) Q E s:=by
 obtain ⟨z,hd,vs,rel,dB⟩:=w7 J.bl e;obtain ⟨eN,hw,hh⟩:=hF.some_of (v:=v) (o:=valueAt vs k) (by rw [<- l];exact rel.val k);have ax:(keyPart u).isSome=true:=by
  cases k with
  | inl i=>obtain ⟨t,q⟩:=(show ∃ t,u=od i t from bp);subst q;rfl
  | inr x=>obtain ⟨t,q⟩:=(show ∃ t,u=vM x t from bp);subst q;rfl
 have aS:argsOk "dict.pop" ⟨.ref a :: u :: more,[]⟩:=by
  rcases hm with q | ⟨x,q⟩
  .subst q;exact PySem.F.args_dict_pop_2 _ _
  .subst q;exact To _ _ _
 refine call_meetsIn E_ dB.typeIs aiv aS (meets_dict_pop_there (re X.prog X.w) a (q8 bp) more hm ax)
  ⟨vs,eN,dB,by rw [<- rel.length];exact z,hw,fun h' nx av=>h eN _ ?_ hh⟩
 have he:∃ q,h'.get? a=some q:=let ⟨q,_,_,a0,_⟩:=nx;⟨q,a0⟩;exact xK J (by rw [e];exact kO) av he (Hs (c_ (ahU kvs k) z) hd (rel.drop k) nx)
theorem TA (J:Inv X ae σ H s) (e:H a=some (.bu kvs)) (bp:bI (dz k) u) (l:cM kvs k=none) (h:∀ ai,Inv X ae σ H ai->Q r ai) :
  wpAny (model X.prog X.w) A (call (.builtin "dict.pop") [.ref a,u,r]) Q E s:=by
 obtain ⟨z,hd,vs,rel,dB⟩:=w7 J.bl e;have a4:valueAt vs k=none:=hF.none_of (by rw [<- l];exact rel.val k);have ax:(keyPart u).isSome=true:=by
  cases k with
  | inl i=>obtain ⟨t,q⟩:=(show ∃ t,u=od i t from bp);subst q;rfl
  | inr x=>obtain ⟨t,q⟩:=(show ∃ t,u=vM x t from bp);subst q;rfl
 exact call_meetsIn E_ dB.typeIs aiv (To _ _ _) (meets_dict_pop_default (re X.prog X.w) a (q8 bp) hd ax r) ⟨vs,dB,a4,h _ (J.tok _)⟩
theorem ahL (J:Inv X ae σ H s) (e:i3 H a (.bu kvs)) (h:∀ t ai,Inv X ae σ H ai->Q (.int kvs.length t) ai):wpAny (model X.prog X.w) A (call (.builtin "len") [.ref a]) Q E s:=by
 obtain ⟨z,hd,vs,rel,dB⟩:=sE J.bl e;refine call_len_dict hd dB (by rw [<- rel.length];rw [sizeLine_eq] at z;omega) ?_;rw [<- rel.length];exact h _ _ (J.tok _)
end
def B_ (i:Expr):Prop:=∀ ht lR,subscripted i false ht lR=operate [ht,lR] (getItem ht lR)
theorem LF {prog:Program} {w:World} {A:Around} {E:Value->Shared->Prop} {s:Shared} {env:Env} {value slice:Expr} {pos:Pos} {T id:String} {Q:Value->Shared->Prop}
  (aL:typeLookup (.type T) "__getitem__"=pure (some (.builtin id))) (av:B_ slice)
  (h:wpAny (model prog w) A (eval value env) (fun o dd=>wpAny (model prog w) A (eval slice env) (fun i dP=>dP.TypeIs o T/\wpAny (model prog w) A (getItem o i) Q E dP) E dd) E s) :
  wpAny (model prog w) A (eval (.Subscript value slice pos) env) Q E s:=by
 refine Subscript_ (wpAny_mono h (fun o dd h₁=>wpAny_mono h₁ (fun i dP uZ=>?_) fun _ _ x=>x) fun _ _ x=>x);obtain ⟨hQ,uZ⟩:=uZ;unfold subscriptTail;refine wpAny_bind ?_;rw [getitemInPython_of_ne hQ.not_modules];refine wpAny_bind (wpAny_specialOf hQ aL ?_);have fin:wpAny (model prog w) A (subscripted slice false o i) (fun r mb=>wpAny (model prog w) A (letTemporaryGo value o r >>= fun _=>pure r) Q E mb) E dP:=by
  rw [av o i];exact wpAny_operating (wpAny_mono uZ (fun r mb AJ=>wpAny_bind (wpAny_letTemporaryGo (wpAny_pure AJ))) fun _ _ x=>x)
 first
  | exact wpAny_pure (wpAny_bind fin)
  | exact wpAny_bind (wpAny_pure (wpAny_bind fin))
  | exact wpAny_bind fin
theorem Ut (J:Inv X ae σ H s) (g:gI H a y o):s.TypeIs (.ref a) "dict" := by
 rcases g with ⟨kvs,k,e,_,_⟩ | ⟨kvs,k,b,e,_,_,_⟩
 .obtain ⟨_,_,vs,_,dB⟩:=sE J.bl e;exact dB.typeIs
 .obtain ⟨_,_,xs,_,dB⟩:=wd J.bl e;exact dB.typeIs
noncomputable def Ea (fa ty:TE):TE:=fun σ H Q=>fa σ H fun x H1=>ty σ H1 fun y aw=>fe x fun a=>∃ v,gI aw a y (some v)/\Q v aw
noncomputable def FD (ty fa:TE):TE:=fun σ H Q=>ty σ H fun y H1=>fa σ H1 fun x aw=>fe x fun a=>∃ o,gI aw a y o/\Q (.bk (!o.isSome)) aw
noncomputable def CD (fa ty fK:TE):d6:=fun D σ H=>fK σ H fun v H1=>fa σ H1 fun x aw=>ty σ aw fun y bf=>fe x fun a=>∃ cN,j7 bf a y v cN/\D.cf σ cN
section
variable {X:a7} {o i e value:Expr} {pos pos' xH:Pos} {fa ty fK:TE}
theorem n6 (bx:X.A.units + 1 < cLine) (aY:bq X o fa) (ag:bq X i ty) (av:B_ i):bq X (.Subscript o i pos) (Ea fa ty):=by
 intro ae s σ H Q J h;refine LF ahm.lookup av (bC (aY ae s σ H _ J h) fun u s1 ⟨x,H1,a5,bj,bG⟩=>bC (ag ae s1 σ H1 _ a5 bG) fun lR s2 bw=>?_);obtain ⟨y,aw,bR,bp,gP⟩:=bw;obtain ⟨a,ex,v,g,dM⟩:=fe.out gP;subst ex;obtain rfl:u=fC a:=bj;exact ⟨Ut bR g,abJ bx bR g bp fun eN s3 eQ hh=>⟨v,aw,eQ,hh,dM⟩⟩
theorem B3 (bx:X.A.units + 1 < cLine) (ag:bq X i ty) (aY:bq X o fa):LI X .NotIn i o (FD ty fa):=by
 intro ae s σ H Q J h;refine bC (ag ae s σ H _ J h) fun lR s1 ⟨y,H1,a5,bp,bG⟩=>bC (aY ae s1 σ H1 _ a5 bG) fun u s2 bw=>?_
 obtain ⟨x,aw,bR,bj,gP⟩:=bw;obtain ⟨a,ex,ht,g,dM⟩:=fe.out gP;subst ex;obtain rfl:u=fC a:=bj;exact Z1 bx bR g bp fun s3 eQ=>⟨.bk (!ht.isSome),aw,eQ,rfl,dM⟩
theorem r9 (bx:X.A.units + 1 < cLine) (aY:bq X o fa) (ag:bq X i ty) (aI:bq X value fK) (av:swapsWith value (some (.Subscript o i pos')) pos.line X.env=pure false) :
  hy X (.Assign [.Subscript o i pos'] value pos) (CD fa ty fK):=by
 intro ae s σ H D J h;refine wpAny_Assign_Subscript (bC (aI ae s σ H _ J h) fun r s1 ⟨v,H1,a5,cT,bG⟩=>bC (aY ae s1 σ H1 _ a5 bG) fun u s2 ⟨x,aw,bR,bj,dM⟩=>bC (ag ae s2 σ aw _ bR dM) fun lR s3 bw=>?_) av;obtain ⟨y,bf,eQ,bp,gP⟩:=bw;obtain ⟨a,ex,cN,g,hZ⟩:=fe.out gP;subst ex;obtain rfl:u=fC a:=bj;exact Nj bx eQ g bp cT fun s4 hS=>⟨σ,cN,hS,hZ⟩
end
theorem JU {w:World} (h:Heap) (aa:sysModules < h.objs.size):ed P w H (h.push { cls:=.type "dict",data:=.dict #[] }) h.objs.size (.bu []):=
 ⟨fi _,beq_eq_false_iff_ne.mpr (dW (gv aa)),[],.nil,Heap.DictOf.new h⟩
theorem Tt {w:World} (h:Heap) (aa:sysModules < h.objs.size):ed P w H (h.push { cls:=.type "dict",data:=.dict #[] }) h.objs.size (.fL []):=
 ⟨fi _,beq_eq_false_iff_ne.mpr (dW (gv aa)),[],.nil,_,#[],0,hI _ rfl,⟨rfl,rfl,rfl⟩,rfl,rfl,Bi⟩
noncomputable def H2:TE:=fun _ H Q=>∀ p,H p=none->Q (.ref p) (upd H p (.bu []))
noncomputable def HK:TE:=fun _ H Q=>∀ p,H p=none->Q (.ref p) (upd H p (.fL []))
section
variable {X:a7} {pos:Pos}
theorem vF:bq X (.Dict [] [] pos) H2:=fun ae s σ H Q J h=>
 wpAny_Dict_empty ⟨.ref s.heap.objs.size,_,J.laid (a:=s.heap.objs.size) (o:=.bu []) (t':=s.toks) (fun _ _ q=>eU _ q) (cn _) (JU s.heap J.big),rfl,h _ (J.bl.fresh (cn _))⟩
theorem acR:bq X (.Dict [] [] pos) HK:=fun ae s σ H Q J h=>
 wpAny_Dict_empty ⟨.ref s.heap.objs.size,_,J.laid (a:=s.heap.objs.size) (o:=.fL []) (t':=s.toks) (fun _ _ q=>eU _ q) (cn _) (Tt s.heap J.big),rfl,h _ (J.bl.fresh (cn _))⟩
end
noncomputable def zp:List (TE × TE)->St->ar->(List (V × V)->ar->Prop)->Prop
 | [],_,H,Q=>Q [] H
 | (tk,fK) :: r,σ,H,Q=>tk σ H fun x H1=>fK σ H1 fun y aw=>zp r σ aw fun ps bf=>Q ((x,y) :: ps) bf
noncomputable abbrev KZ:List (V × V)->List (Value × Value)->Prop:=Paired fun p q=>bI p.1 q.1/\bI p.2 q.2
def zN (X:a7) (pos:Pos) (keys:List (Option Expr)) (values:List Expr) (qJ:List (TE × TE)):Prop:=
 ∀ (ae:List (Addr × Obj)) (s:Shared) (σ:St) (H:ar) (Q:List (V × V)->ar->Prop),Inv X ae σ H s->zp qJ σ H Q ->
  wpAny (model X.prog X.w) X.A (evalPairs (pairTrees keys values X.env pos)) (fun vs ai=>∃ ps I,Inv X ae σ I ai/\KZ ps vs/\Q ps I) X.dK s
theorem Wz:zN X pos [] [] []:=fun ae s σ H Q J h=>pairTrees_nil_walk ⟨[],H,J,.nil,h⟩
theorem Oc {k v:Expr} {b9:List (Option Expr)} (az:bq X k tk) (aI:bq X v fK) (ao:zN X pos b9 vs qJ) :
  zN X pos (some k :: b9) (v :: vs) ((tk,fK) :: qJ):=fun ae s σ H Q J h=>
 pairTrees_cons_walk (bC (az ae s σ H _ J h) fun u s1 ⟨x,H1,a5,bj,bG⟩=>bC (aI ae s1 σ H1 _ a5 bG) fun eb s2 ⟨y,aw,bR,bp,dM⟩=>
  bC (ao ae s2 σ aw _ bR dM) fun ws s3 ⟨ps,bf,eQ,rel,hZ⟩=>⟨(x,y) :: ps,bf,eQ,.cons ⟨bj,bp⟩ rel,hZ⟩)
noncomputable def rf (kvs more:List (Key × V)):List (Key × V):=more.foldl (fun acc c7=>d5 acc c7.1 c7.2) kvs
theorem en.merge:∀ {more:List (Key × V)} {rs:List (Key × Value)} {kvs:List (Key × V)} {vs:List (Key × Value)},en more rs->en kvs vs->en (rf kvs more) (merged vs rs):=by
 intro more rs kvs vs r;unfold en at r
 induction r generalizing kvs vs with
 | nil=>intro q;exact q
 | @cons p q ps qs h t b4=>
  intro vL;have e:en (d5 kvs p.1 p.2) (stored vs q.1 q.2):=by
   have:=vL.put p.1 h.2;rw [<- h.1];exact this
  exact b4 e
theorem La:∀ (more kvs:List (Key × V)),(rf kvs more).length <= kvs.length + more.length
 | [],kvs=>by show kvs.length <= kvs.length + 0;omega
 | p :: r,kvs=>by
  have af:=La r (d5 kvs p.1 p.2);have ak:=EU kvs p.1 p.2;show (rf (d5 kvs p.1 p.2) r).length <= _;rw [iu];omega
theorem JY {w:World}:∀ {kvs:List (Key × V)} {ws:List (Value × Value)},KZ (kvs.map fun c7=>(dz c7.1,c7.2)) ws->∃ rs,Carries (re P w) ws rs/\en kvs rs
 | [],_,r=>by rw [p6] at r;cases r;exact ⟨[],kO,.nil⟩
 | p :: kvs,_,r=>by
  rw [er] at r;cases r with
  | @cons a b as bs h t=>
   obtain ⟨rs,c,q⟩:=JY (P:=P) (w:=w) t;obtain ⟨f5,fT⟩:=b;exact ⟨(p.1,fT) :: rs,⟨q8 h.1,rfl,c⟩,.cons ⟨rfl,h.2⟩ q⟩
noncomputable def I5 (qJ:List (TE × TE)):TE:=fun σ H Q=>∀ p,H p=none->zp qJ σ (upd H p (.bu [])) fun ps aw=>aw p=some (.bu [])/\∃ kvs:List (Key × V),ps=kvs.map (fun c7=>(dz c7.1,c7.2))/\kvs.length <= 15/\Q (.ref p) (upd aw p (.bu (rf [] kvs)))
theorem aiB {keys:List (Option Expr)} (h:zN X pos keys values qJ) (m4:keys.all (·.isSome)=true) (aL:keys.length=values.length) (h0:keys ≠ [])
  (ad4:keys.length <= 15):bq X (.Dict keys values pos) (I5 qJ):=by
 intro ae s σ H Q J q;have a4:=J.bl.fresh (cn s.heap.objs.size);have a5:=J.laid (a:=s.heap.objs.size) (o:=.bu []) (h':=s.heap.push { cls:=.type "dict",data:=.dict #[] }) (t':=s.toks) (fun _ _ q=>eU _ q) (cn _) (JU s.heap J.big);refine wpAny_Dict_walk (knd:=re X.prog X.w) m4 aL h0 ad4 (bC (h ae _ σ _ _ a5 (q _ a4)) fun ws s2 bw=>?_);obtain ⟨ps,aw,bR,rel,e,kvs,cG,lk,dM⟩:=bw;subst cG;obtain ⟨rs,c,Ib⟩:=JY (P:=X.prog) (w:=X.w) rel;obtain ⟨z,hd,UD,vL,dB⟩:=w7 bR.bl e;cases vL;refine ⟨rs,c,dB,fun h' nx av=>⟨.ref s.heap.objs.size,_,?_,rfl,dM⟩⟩;have aT:(rf [] kvs).length <= sizeLine:=by
  have af:=La kvs [];rw [vB] at af;rw [sizeLine_eq];omega
 have he:∃ q,h'.get? s.heap.objs.size=some q:=let ⟨q,_,_,a0,_⟩:=nx;⟨q,a0⟩;exact xK bR (by rw [e];exact kO) av he (Hs aT hd (Ib.merge .nil) nx)
structure aeS (X:a7) (o:Expr) (m:Str) (fs:Pos) (e:Expr) (hG:Pos):Prop where
 base:attributeBase o m X.env (eval o X.env)=eval o X.env
 Fh:((backTo hG (starEach [e] X.env)).all (fun x=>!x.1) && (backToKw hG (keywordEach [] X.env)).all (fun x=>x.1.isSome)
  && decide (([e]:List Expr).length + ([]:List Keyword).length + (if ([]:List Keyword).isEmpty then 0 else 1) < 30))=true
 line:(fs.endLine == hG.line)=true
 trees:backTo hG (starEach [e] X.env)=[(false,eval e X.env)]
structure M2 (X:a7) (o:Expr) (m:Str) (fs:Pos) (e f:Expr) (hG:Pos):Prop where
 base:attributeBase o m X.env (eval o X.env)=eval o X.env
 Fh:((backTo hG (starEach [e,f] X.env)).all (fun x=>!x.1) && (backToKw hG (keywordEach [] X.env)).all (fun x=>x.1.isSome)
  && decide (([e,f]:List Expr).length + ([]:List Keyword).length + (if ([]:List Keyword).isEmpty then 0 else 1) < 30))=true
 line:(fs.endLine == hG.line)=true
 trees:backTo hG (starEach [e,f] X.env)=[(false,eval e X.env),(false,eval f X.env)]
def Bc (H:ar) (a:Addr):Prop:=(∃ kvs,i3 H a (.bu kvs))\/∃ kvs,i3 H a (.fL kvs)
theorem K9 (J:Inv X ae σ H s) (d:Bc H a) :
  s.TypeIs (.ref a) "dict" /\ (∀ b,fC a=.ref b->∃ b0,s.heap.get? b=some b0/\b0.dict=none)/\(a == sysModules)=false:=by
 rcases d with ⟨kvs,e⟩ | ⟨kvs,e⟩
 .obtain ⟨_,hd,vs,_,dB⟩:=sE J.bl e;refine ⟨dB.typeIs,fun b q=>?_,hd⟩;cases q;obtain ⟨b0,_,_,af,ak,_⟩:=dB;exact ⟨b0,af,ak.2.1⟩
 .obtain ⟨_,hd,xs,_,dB⟩:=wd J.bl e;refine ⟨dB.typeIs,fun b q=>?_,hd⟩;cases q;obtain ⟨b0,_,_,af,ak,_⟩:=dB;exact ⟨b0,af,ak.2.1⟩
section
variable {X:a7} {ae:List (Addr × Obj)} {σ:St} {H:ar} {s:Shared} {a:Addr} {y d:V} {u r:Value} {o:Option V} {A:Around} {E:Value->Shared->Prop}
end
noncomputable def HV (fa ty:TE):TE:=fun σ H Q=>fa σ H fun x H1=>∃ a,x=.ref a/\Bc H1 a/\ty σ H1 fun y aw=>∃ kvs k v,aw a=some (.bu kvs)/\y=dz k/\cM kvs k=some v/\Q v (upd aw a (.bu (k7 kvs k)))
noncomputable def Kv (fa ty qZ:TE):TE:=fun σ H Q=>fa σ H fun x H1=>∃ a,x=.ref a/\Bc H1 a/\ty σ H1 fun y aw=>qZ σ aw fun z bf=>∃ kvs k,bf a=some (.bu kvs)/\y=dz k /\
 (∀ v,cM kvs k=some v->Q v (upd bf a (.bu (k7 kvs k))))/\(cM kvs k=none->Q z bf)
section
variable {X:a7} {o e f:Expr} {fs hG:Pos} {fa ty qZ:TE}
theorem agQ (aY:bq X o fa) (he:bq X e ty) (m:aeS X o "pop" fs e hG):bq X (.Call (.Attribute o "pop" fs) [e] [] hG) (HV fa ty):=by
 intro ae s σ H Q J h;refine wpAny_Call_method m.base m.Fh m.line agR E_ Ua (bC (aY ae s σ H _ J h) fun u s1 bw=>?_);obtain ⟨x,H1,a5,bj,a,ex,d,bG⟩:=bw;subst ex;obtain rfl:u=fC a:=bj;obtain ⟨t1,fO,_⟩:=K9 a5 d;refine ⟨t1,fO,?_⟩;rw [m.trees];refine Pb rfl (P9 (Cj (bC (he ae s1 σ H1 _ a5 bG) fun lR s2 ⟨y,aw,bR,bp,kvs,k,v,h6,iC,l,dM⟩=>MP ?_)));subst iC;exact QD bR h6 bp l (.inl rfl) fun eN s3 eQ hh=>⟨v,_,eQ,hh,dM⟩
theorem acB (aY:bq X o fa) (he:bq X e ty) (hf:bq X f qZ) (m:M2 X o "pop" fs e f hG):bq X (.Call (.Attribute o "pop" fs) [e,f] [] hG) (Kv fa ty qZ):=by
 intro ae s σ H Q J h;refine wpAny_Call_method m.base m.Fh m.line agR E_ Ua (bC (aY ae s σ H _ J h) fun u s1 bw=>?_);obtain ⟨x,H1,a5,bj,a,ex,d,bG⟩:=bw;subst ex;obtain rfl:u=fC a:=bj;obtain ⟨t1,fO,_⟩:=K9 a5 d;refine ⟨t1,fO,?_⟩;rw [m.trees];refine Pb rfl (P9 (Cj (bC (he ae s1 σ H1 _ a5 bG) fun lR s2 ⟨y,aw,bR,bp,dM⟩=>
  Cj (bC (hf ae s2 σ aw _ bR dM) fun afJ s3 ⟨z,bf,eQ,Ie,kvs,k,h6,iC,hZ,I1⟩=>MP ?_))))
 subst iC;cases l:cM kvs k with
 | some v=>exact QD eQ h6 bp l (.inr ⟨afJ,rfl⟩) fun eN s4 hS hh=>⟨v,_,hS,hh,hZ v l⟩
 | none=>exact TA eQ h6 bp l fun s4 hS=>⟨z,bf,hS,Ie,I1 l⟩
end
section
variable {X:a7} {ae:List (Addr × Obj)} {σ:St} {H:ar} {s:Shared} {a:Addr} {kvs:List (Key × V)} {A:Around} {E:Value->Shared->Prop}
end
section
variable {X:a7} {ae:List (Addr × Obj)} {σ:St} {H:ar} {s:Shared} {a:Addr} {y:V} {u:Value} {A:Around} {E:Value->Shared->Prop}
end
end L2
namespace MD
open PySem PySem.W PySem.Calls PyProof.Rows
theorem Os {h:Heap}:∀ (ns:List Int) (vs:List Value),WellAll P h vs (ns.map Tg)->IntsAre vs ns:=by
 intro ns
 induction ns with
 | nil=>
  intro vs w;rw [p6] at w;cases w;exact .nil
 | cons n ns b4=>
  intro vs w;rw [er] at w;cases w with
  | cons a b=>
   cases a;exact .cons _ _ (b4 _ b)
theorem Ub {l:OpenLaw} {n:Nat} (a4:l.most=some n) {P:Params} {h:Heap} {args:List WData} {Gu:List Value}
  (Bw:l.row.toRowW.claim.pre args=true) (gT:WellAll P h Gu args) :
  ∃ a vs ns,Gu=[fC a]/\args=[WData.list (ns.map Tg)]/\h.get? a=some { cls:=.type "list",data:=.seq vs.toArray }/\IntsAre vs ns/\ns.length <= n:=by
 have gb:WShape.hasAll [] args [.list .int]=true:=(pre_splitW Bw).1;have ay:l.pre.holds [] { args:=args }=true:=(pre_splitW Bw).2;obtain ⟨d,r,rfl,af,ak⟩:=hasAllW_cons gb;obtain rfl:=hasAllW_nil ak;obtain ⟨xs,rfl,a9⟩:=hasW_list af;obtain ⟨ns,rfl⟩:=items_int a9;have hlen:ns.length <= n:=by
  unfold OpenLaw.pre at ay;have cW:(WTm.not (.lt (.lit (.int (n:Int))) (.len (.arg 0)))).holds [] { args:=[.list (ns.map .int)] }=true:=by
   have cW:=(holds_andW ay).1;rw [a4] at cW;exact cW
  have eF:=condW_of cW (w_not (w_lt w_lit (w_len_list (w_arg rfl))));rw [aZ] at eF;refine Nat.le_of_not_lt fun q=>?_
  have e9:(n:Int) < ((ns.length:Nat):Int):=by omega
  first
   | (rw [decide_eq_true e9] at eF;exact absurd eF (by decide))
   | (simp at eF;omega)
 cases gT with
 | cons dx eb=>
  cases eb;cases dx with
  | list aY m4=>exact ⟨_,_,ns,rfl,rfl,aY,Os ns _ m4,hlen⟩
theorem Vx (l:OpenLaw) (args:List WData):l.row.toRowW.claim.post args (.bool true) args=true:=
 postW_of (r:=l.row.toRowW) (X:=(true == true))
  (show aes [] (.bool true) .bool=true by first | rfl | decide | simp [aes,WShape.arms,WShape.armsAll])
  (show (WTm.eq .res (.lit (.bool true))).value [] { args:=args,res:=some (.bool true),after:=args }=some (.bool (true == true)) from w_eq_bool (w_res rfl) w_lit) rfl
theorem adp {l:OpenLaw} {n:Nat} {q:Program} {loose:List Str} {BL:(Str->Option Value)->Heap->Prop} {s_:World->Heap->Prop} {d:DefRec}
  (a4:l.most=some n) (CA:d.params.defaults=[])
  (call:∀ (w:World) (fk dd:Shared) (mg lN:Str->Option Value) (f3:Addr) (o:Obj) (pm cd doc:Value) (a:Addr) (vs:List Value) (ns:List Int),
   Ground q loose [] BL w fk mg lN dd.heap->s_ w dd.heap ->
   dd.heap.get? f3=some o->o.data=.func (docDef d.name d.params d.body d.scope pm cd doc)->dd.heap.CodeRec cd d.name->mg d.name=some (.ref f3) ->
   dd.heap.get? a=some { cls:=.type "list",data:=.seq vs.toArray }->IntsAre vs ns->ns.length <= n->dd.gens=#[] ->
   codeAny (model l.prog w) callerA (.call (.ref f3) ⟨[.ref a],[]⟩) (fun r ai=>r=.ok (.ret (.bool true))/\OldK dd.heap ai.heap/\ai.os=dd.os/\AllBare ai.gens) dd) :
  WalkO q loose BL s_ l.row.toRowW d [] (fun f vs=>Tv f vs):=by
 intro w fk dd mg lN G Y f3 o pm cd doc AF dz aY hd ki bW ur aQ args Gu as Bw ajq ajY gT qQ;obtain rfl:AF=.none:=Dflts.none bW CA;obtain rfl:dz=.none:=Dflts.noKw bW;obtain ⟨a,vs,ns,rfl,rfl,Fj,hints,hlen⟩:=Ub a4 Bw gT;refine enter_call (codeAny_mono (call w fk dd mg lN f3 o pm cd doc a vs ns G Y aY (fd_plain hd) ki ur Fj hints hlen aQ) fun r ai a0=>?_);obtain ⟨rfl,ak,a9,cW⟩:=a0;exact ⟨.inl ⟨.bool true,.bool true,[],rfl,fun _=>rfl,.bool true,Vx l _,fun _=>⟨ad1,fun _ hm=>(nomatch hm)⟩⟩,ak,a9,cW⟩
section
variable {prog:Program} {w:World} {A:Around} {E:Value->Shared->Prop} {s:Shared} {K:Frag}
end
end MD
namespace L2
open PySem PySem.Spec PyProof.Rows
theorem P2:∀ {vs:List Value} {ns:List Int},IntsAre vs ns->b8 (ns.map V.int) vs
 | _,_,.nil=>.nil
 | _,_,.cons n t h=>.cons ⟨t,rfl⟩ (P2 h)
noncomputable abbrev Dr {K:ba} {h:Heap} (_:K.In h):ba:=K
noncomputable def eX (s:Stmt) (j:Nat):Stmt:=match s with
 | .ClassDef _ _ _ body _ _ _ _ _ _ _=>body.getD j (.Pass ⟨0,0,0,0⟩)
 | _=>.Pass ⟨0,0,0,0⟩
noncomputable def zz (s:Stmt):Arguments:=match s with
 | .FunctionDef _ a _ _ _ _ _ _ _ _=>a
 | _=>{ posonlyargs:=[],args:=[],vararg:=none,kwonlyargs:=[],kw_defaults:=[],kwarg:=none,defaults:=[] }
noncomputable def rl (s:Stmt):List Stmt:=match s with
 | .FunctionDef _ _ b _ _ _ _ _ _ _=>b
 | _=>[]
noncomputable def bt (s:Stmt):Scope:=match s with
 | .FunctionDef _ _ _ _ _ _ sc _ _ _=>sc
 | _=>{ kind:=.function,names:=[],isGenerator:=false,isCoroutine:=false }
noncomputable abbrev dC:jl:=fun _ _ _ _ _ _=>False
noncomputable abbrev IZ:fS:=fun _ _ _=>False
theorem cI:o7 dC X IZ:=fun _ _ _ _ _ _ _ h=>h.elim
structure b_ (K:ba) (x qual:Str) (st:Stmt) (f:Addr) (fd:FuncData):Prop where
 ex:∃ (nf:Value) (dn:Option Addr) (dz doc pm:Value) (an:Option Addr) (fo ez:Value) (qH:Array (Option Value)),
  fd=u4 x qual (zz st) (rl st) (bt st) .none dz doc pm an fo ez/\K.lookup f=some ⟨nf,dn,.func fd,qH⟩/\Lk K fo qual=true
 bN:qV K (.ref f)=true
section
variable {P:Program} {w:World} {K:ba} {mg:Str->Option Value} {base:Heap}
theorem b_.ok {x qual:Str} {st:Stmt} {fd:FuncData} {N ps:List Str} {k:Nat} (F:b_ K x qual st f fd) (S:ck N ps (bt st)) (len:∀ vs H Q E,sp vs H Q E->vs.length=ps.length)
  (oD:∀ (fo:Value) (A:Around) (outer:List Env) (s:Shared) (H:ar) (vs:List V) (Q:cX) (E:fS),ec k (A.deeper (envOfC qual (bt st) s.heap.objs.size f fo))->sp vs H Q E ->
   ∃ t,kQ (KK dC P w K mg base N qual (bt st) f fo A outer s H E).kT (rl st) t/\t { cf:=fun _ I=>Q .b6 I,kK:=Q } (start N vs) H):cH P w K mg base dC (k + 1) f fd ps sp:=by
 obtain ⟨nf,dn,dz,doc,pm,an,fo,ez,qH,rfl,lk,ki⟩:=F.ex;refine IN lk ki S len fun A outer s H vs Q E ao nI=>?_
 obtain ⟨t,h,q⟩:=oD fo A outer s H vs Q E ao nI;exact ⟨t,h.kT,q⟩
theorem b_.binds {x qual:Str} {st:Stmt} {fd:FuncData} (F:b_ K x qual st f fd)
  (h:∀ (dz doc pm:Value) (an:Option Addr) (fo ez:Value) (us:List Value),us.length=ps.length->bindArgs (u4 x qual (zz st) (rl st) (bt st) .none dz doc pm an fo ez) ⟨us,[]⟩=pure (ps.zip us)):b5 K fd ps []:=by
 obtain ⟨nf,dn,dz,doc,pm,an,fo,ez,qH,rfl,lk,ki⟩:=F.ex;exact .all (h dz doc pm an fo ez)
theorem ah1 {x qual:Str} {st:Stmt} {dz doc pm fo ez:Value} (l:K.lookup f=some ⟨nf,dn,.func (u4 x qual (zz st) (rl st) (bt st) .none dz doc pm an fo ez),qH⟩)
  (c:Lk K fo qual=true) (k:qV K (.ref f)=true):b_ K x qual st f (u4 x qual (zz st) (rl st) (bt st) .none dz doc pm an fo ez):=⟨⟨nf,dn,dz,doc,pm,an,fo,ez,qH,rfl,l,c⟩,k⟩
end
def afh (A:Around):Prop:=A.units + 1 < cLine
def ahG (A:Around):Prop:=A.units + 64 < cLine
theorem aab {A:Around} {k:Nat} (ao:ec k A):ahG A:=ao.units
theorem iF {A:Around} {k:Nat} (ao:ec k A):afh A:=gW (Nat.add_le_add_left (by decide:1 <= 64) _) ao.units
section
variable {X:a7}
theorem U (i:Nat) {x:Str} (br:X.N[i]? = some x:=by rfl) (aI:yg X.env.scope x:=by first | exact pq rfl | exact mG (pq rfl) | exact mG (mG rfl)) (hd:(x == ("__debug__" : Str))=false:=by decide)
  (ki:(x == ("__classdict__" : Str))=false:=by decide):bq X (.Name x pos) (Bq i):=abi br aI hd ki
theorem NE:ma X (.builtin "len") (fun xs H Q=>∃ a kvs,xs=[V.ref a]/\H a=some (.bu kvs)/\Q (.int kvs.length) H):=by
 intro ae s σ H xs us Q J r h;obtain ⟨a,kvs,rfl,aS,q⟩:=h;obtain ⟨u,rfl,fw⟩:=lZ r;cases fw;exact ahL J (.inl aS) fun t ai gS=>⟨.int kvs.length,H,gS,⟨t,rfl⟩,q⟩
end
def aO (H I:ar):Prop:=∀ b o,H b=some o->I b=some o
theorem aO.refl (H:ar):aO H H:=fun _ _ h=>h
theorem aO.trans (a:aO H H1) (b:aO H1 aw):aO H aw:=fun c o h=>b c o (a c o h)
theorem aO.free (e:aO H I) (h:I l=tR):H l=tR:=by
 cases q:H l with
 | none=>rfl
 | some o=>
  rw [e l o q] at h;cases h
theorem aO.seq {K:ba} (e:aO H I) (h:aC K H a xs):aC K I a xs:=by
 rcases h with (h | ⟨o,h⟩) | h
 .exact .inl (.inl (e _ _ h))
 .exact .inl (.inr ⟨o,e _ _ h⟩)
 .exact .inr h
section
variable {ek:Type} [DecidableEq ek]
end
end L2
set_option maxHeartbeats 4000000
namespace L2
open PySem PySem.Spec PyProof.Rows
noncomputable def i6 (cells:List (Str × Addr)):List (Str × NameKind)->List (Str × Addr)->List (Str × Addr)
 | [],acc=>acc
 | (n,k) :: r,acc=>if k == .free then (match cells.lookup n with | some c=>i6 cells r ((n,c) :: acc) | none=>i6 cells r acc) else i6 cells r acc
theorem FK {env:Env}:∀ (names:List (Str × NameKind)) (acc:List (Str × Addr)),(∀ y ∈ names,y.2=.free->∃ c,env.cells.lookup y.1=some c) ->
  (forIn names acc (fun (x:Str × NameKind) (cs:List (Str × Addr))=>(if (x.2 == .free)=true then do let a <- cellOf env x.1;pure (vm ((x.1,a) :: cs)) else pure (vm cs):Sem (ForInStep (List (Str × Addr))))))=pure (i6 env.cells names acc)
 | [],acc,_=>rfl
 | (n,k) :: r,acc,h=>by
  have ao:∀ y ∈ r,y.2=.free->∃ c,env.cells.lookup y.1=some c:=fun y bg=>h y (hM _ bg)
  rw [List.forIn_cons];by_cases az:(k == pS)=true
  .have e:k=.free:=by simpa using az
   obtain ⟨c,ay⟩:=h (n,k) l6 e;have Bf:env.cells.lookup n=some c:=ay;simp only [i6,az,if_true,Bf,cellOf];exact FK r _ ao
  .simp only [i6,az];exact FK r _ ao
theorem MR {env:Env} (h:∀ y ∈ scope.names,y.2=.free->∃ c,env.cells.lookup y.1=some c):closureFor scope env=pure (i6 env.cells scope.names []):=by
 unfold closureFor;exact congrArg (fun t=>t >>= pure) (FK scope.names [] h)
theorem yo {cells:List (Str × Addr)}:∀ (names:List (Str × NameKind)) (acc:List (Str × Addr)) {x:Str} {c:Addr},(i6 cells names acc).lookup x=some c->acc.lookup x=some c\/cells.lookup x=some c
 | [],acc,x,c,h=>.inl h
 | (n,k) :: r,acc,x,c,h=>by
  unfold i6 at h;split at h
  .cases q:cells.lookup n with
   | none=>rw [q] at h;exact yo r acc h
   | some d=>
    rw [q] at h;rcases yo r _ h with z | z
    .rw [jT] at z;by_cases ah:(x == n)=true
     .rw [ah] at z;have e:x=n:=by simpa using ah
      subst e
      right;rw [q];exact z
     .have ew:(x == n)=false:=by simpa using ah
      rw [ew] at z;exact .inl z
    .exact .inr z
  .exact yo r acc h
theorem yU {cells:List (Str × Addr)}:∀ (names:List (Str × NameKind)) (acc:List (Str × Addr)) {x:Str} {c:Addr},acc.lookup x=some c->cells.lookup x=some c->(i6 cells names acc).lookup x=some c
 | [],acc,x,c,h,_=>h
 | (n,k) :: r,acc,x,c,h,ay=>by
  unfold i6;split
  .cases q:cells.lookup n with
   | none=>exact yU r acc h ay
   | some d=>
    refine yU r _ ?_ ay;rw [jT];by_cases ah:(x == n)=true
    .have e:x=n:=by simpa using ah
     subst e;rw [ah];rw [q] at ay;exact ay
    .have ew:(x == n)=false:=by simpa using ah
     rw [ew];exact h
  .exact yU r acc h ay
theorem w0 {cells:List (Str × Addr)}:∀ (names:List (Str × NameKind)) (acc:List (Str × Addr)) {x:Str} {c:Addr},(x,pS) ∈ names->cells.lookup x=some c->(i6 cells names acc).lookup x=some c
 | [],_,_,_,h,_=>nomatch h
 | (n,k) :: r,acc,x,c,h,ay=>by
  rcases eJ.mp h with e | h
  .cases e;unfold i6;rw [if_pos (by decide),ay];refine yU r _ ?_ ay;rw [jT];simp
  .unfold i6;split
   .cases q:cells.lookup n with
    | none=>exact w0 r acc h ay
    | some d=>exact w0 r _ h ay
   .exact w0 r acc h ay
theorem Fl:∀ {l:List (Str × α)} {x:Str} {a:α},l.lookup x=some a->(x,a) ∈ l
 | [],_,_,h=>by simp at h
 | (n,b) :: r,x,a,h=>by
  rw [jT] at h;by_cases ah:(x == n)=true
  .have e:x=n:=by simpa using ah
   subst e;rw [ah] at h;have aH:b=a:=d1 h;subst aH;exact l6
  .have ew:(x == n)=false:=by simpa using ah
   rw [ew] at h;exact hM _ (Fl h)
theorem af6 {env:Env} {x:Str} {k:NameKind} (h:(relabel scope env).names.lookup x=some k) (az:k=.cell\/k=.free) (ay:∀ y ∈ scope.names,y.2 ≠ .cell):(x,pS) ∈ scope.names:=by
 have af:=Fl h;obtain ⟨⟨n,j⟩,hm,e⟩:=bK.mp af;have bT:(if (j == pS && env.scope.kind == .function && env.kindOf n == some .cell)=true then (n,QM) else (n,j))=(x,k):=e;split at bT
 .rename_i RQ;have au:n=x:=(Pk bT).1;subst au;have aJ:j=.free:=by
   simp only [hX] at RQ;simpa using RQ.1.1
  subst aJ;exact hm
 .have au:n=x:=(Pk bT).1;have aH:j=k:=(Pk bT).2;subst au;subst aH;rcases az with z | z
  .exact absurd z (ay _ hm)
  .subst z;exact hm
theorem aaN {env:Env} {x:Str} (h:scope.names.lookup x=some .free):(relabel scope env).names.lookup x=some .cell\/(relabel scope env).names.lookup x=some .free:=by
 have all:∀ (names:List (Str × NameKind)),names.lookup x=some .free ->
   (names.map fun (n,k)=>if (k == pS && env.scope.kind == .function && env.kindOf n == some .cell) then (n,QM) else (n,k)).lookup x=some .cell \/
   (names.map fun (n,k)=>if (k == pS && env.scope.kind == .function && env.kindOf n == some .cell) then (n,QM) else (n,k)).lookup x=some .free:=by
  intro names
  induction names with
  | nil=>intro h;simp at h
  | cons p r b4=>
   obtain ⟨n,k⟩:=p;intro h;rw [er];by_cases ah:(x == n)=true
   .simp only [jT,ah] at h;have az:k=.free:=d1 h;subst az;by_cases ay:(pS == pS && env.scope.kind == .function && env.kindOf n == some .cell)=true
    .left;simp only [if_pos ay,jT,ah]
    .right;simp only [if_neg ay,jT,ah]
   .have ew:(x == n)=false:=by simpa using ah
    simp only [jT,ew] at h;by_cases ay:(k == pS && env.scope.kind == .function && env.kindOf n == some .cell)=true
    .simp only [if_pos ay,jT,ew];exact b4 h
    .simp only [if_neg ay,jT,ew];exact b4 h
 exact all scope.names h
noncomputable abbrev a7.block (X:a7) (scope:Scope) (C:Addr) (N:List Str) (s:Shared) (H:ar) (bB:List Addr):a7 where
 prog:=X.prog
 w:=X.w
 K:=X.K
 mg:=X.mg
 base:=X.base
 A:=X.A
 N:=N
 fk:=s
 qm:=H
 env:=compEnvC scope (i6 X.env.cells scope.names []) C X.env
 outer:=X.stack
 stack:=X.stack
 ex:=bB
 fn:=fun _=>false
 calm:=X.calm
 dN:=[]
 dK:=fun _ _=>False
structure qd (env:Env) (scope:Scope):Prop where
 kind:scope.kind=.function
 sQ:∀ y ∈ scope.names,y.2 ≠ .cell
 fr:∀ y ∈ scope.names,y.2=.free->env.kindOf y.1=some .cell\/env.kindOf y.1=some .free
 loc:∀ x ∈ scope.names,x.2=.local->scope.names.lookup x.1=some .local
noncomputable def l0 (sel:List (Option Nat)) (σ:St):St:=sel.map fun o=>o.bind fun j=>(σ[j]?).join
def KF (M:List Str) (scope:Scope) (N:List Str) (sel:List (Option Nat)):Prop:=
 sel.length=N.length/\∀ (i j:Nat) (x:Str),sel[i]? = some (some j)->N[i]? = some x->M[j]? = some x/\scope.names.lookup x=some .free
section
variable {X:a7} {ae:List (Addr × Obj)} {σ:St} {H:ar} {s:Shared} {scope:Scope} {bB:List Addr} {C:Addr} {N:List Str}
theorem qd.cells (S:qd X.env scope) (ok:X.Ok):∀ y ∈ scope.names,y.2=.free->∃ c,X.env.cells.lookup y.1=some c:=fun y bg e=>ok.has y.1 (S.fr y bg e)
theorem sz {x:Str} (h:(i6 X.env.cells scope.names []).lookup x=some c):X.env.cells.lookup x=some c:=by
 rcases yo _ _ h with z | z
 .simp at z
 .exact z
theorem Nv (J:Inv X ae σ H s) (S:qd X.env scope) (hf:∀ b ∈ bB,jr X ae H b) (av:∀ b ∈ bB,b < s.heap.objs.size) (de:s.heap.objs.size <= C):(X.block scope C N s H bB).Ok where
 mod:=J.ok.mod
 kind:=S.kind
 glob:=J.ok.glob
 blt:=J.ok.blt
 above:=de
 inj:=fun x y c af ak=>J.ok.inj x y c (sz af) (sz ak)
 has:=fun x h=>by
  have az:∃ k,(relabel scope X.env).names.lookup x=some k/\(k=.cell\/k=.free):=by
   rcases h with h | h
   .exact ⟨_,h,.inl rfl⟩
   .exact ⟨_,h,.inr rfl⟩
  obtain ⟨k,af,ak⟩:=az;have hm:=af6 af ak S.sQ;obtain ⟨c,ay⟩:=S.cells J.ok _ hm rfl;exact ⟨c,w0 _ _ hm ay⟩
 p1:=fun _ _ h _=>nomatch h
 hd:=J.ok.hd
 frames:=J.ok.frames
 q4:=.inl rfl
 wO:=fun b aa=>⟨gv (hC (av b aa) de),fun x c e=>(hf b aa).2.2.2.2.1 x c (sz e)⟩
 bs:=J.bs
 jW:=c_ J.ok.jW J.m'
 pT:=fun b o e aa=>by
  rcases (hf b aa).2.2.2.1 with z | z
  .exact J.ok.pT b o e z
  .exact absurd (hC (hC (es e) J.ok.jW) z) (nv _)
 pA:=fun b aa aT=>by
  rcases eJ.mp (J.ye b aT) with z | z
  .exact (hf b aa).2.1 z
  .exact (hf b aa).2.2.1 z
 jJ:=J.stack
 mS:=J.IP
theorem af1 (J:Inv X ae σ H s) (S:qd X.env scope) (hf:∀ b ∈ bB,jr X ae H b) (av:∀ b ∈ bB,b < s.heap.objs.size) (de:s.heap.objs.size <= C)
  (k:∀ b o,s.heap.get? b=some o->h'.get? b=some o) (a4:h'.Ns C m) (pF:KF X.N scope N sel):Inv (X.block scope C N s H bB) [] (l0 sel σ) H { s with heap:=h',toks:=t' } where
 ok:=Nv J S hf av de
 os:=rfl
 bare:=J.bare
 base:=eY.kept k
 loc:=by
  refine ⟨m,a4,fun i x v au aH bX=>?_⟩;obtain ⟨m0,oZ,aL⟩:=J.loc;obtain ⟨j,HW,WC⟩:∃ j,sel[i]? = some (some j)/\σ[j]? = some (some v):=by
   unfold l0 at aH;rw [c5] at aH;cases q:sel[i]? with
   | none=>rw [q] at aH;cases aH
   | some o=>
    rw [q] at aH;cases o with
    | none=>cases aH
    | some j=>
     refine ⟨j,rfl,?_⟩;have Bz:(σ[j]?).join=some v:=d1 aH;cases r:σ[j]? with
     | none=>rw [r] at Bz;cases Bz
     | some z=>rw [r] at Bz;exact congrArg some Bz
  obtain ⟨aer,rt⟩:=pF.2 i j x HW au;have hm:=Fl rt;have az:=S.fr _ hm rfl;have aI:yg X.env.scope x:=az.elim (fun z=>.inr (.inl z)) fun z=>.inr (.inr z)
  obtain ⟨u,r,l⟩:=aL j x v aer WC aI;refine ⟨u,r,?_⟩;rcases l with ⟨age,_⟩ | ⟨_,c,ay,yq⟩
  .rcases az with z | z <;> (have ik:X.env.kindOf x=_:=z;rw [age] at ik;cases ik)
  .refine .inr ⟨?_,c,w0 _ _ hm ay,?_⟩
   .exact aaN rt
   .obtain ⟨o,aY,hd⟩:=yq;exact ⟨o,k _ _ aY,hd⟩
 cell:=fun x c e=>by
  obtain ⟨v,o,aY,hd⟩:=J.cell x c (sz e);exact ⟨v,o,k _ _ aY,hd⟩
 free:=J.bl.fresh de
 i4:=fun x c e=>J.i4 x c (sz e)
 pin:=fun p ax=>nomatch ax
 bl:=J.bl.kept k
 len:=by unfold l0;rw [aZ];exact pF.1
theorem Inv.adopt (J:Inv X ae σ H s) (hN:jr X ae H a) (new:ed X.prog X.w (upd H a o) s.heap a o):Inv X ae σ (upd H a o) s:=by
 obtain ⟨a4,eB,tD,hex,o_,jI⟩:=hN;refine J.step (g':=s.gens) (d':=s.drawn) (t':=s.toks) (h':=s.heap) (ch:=[a]) (fun b aa=>?_) (fun b o _ _ _ e _=>e) (fun b o _ _ _ e _=>⟨o.slots,e⟩) (fun b o aa e n=>?_) (fun b o _ e=>⟨o,e⟩)
  (fun b xs e=>?_) (fun b o u e=>?_) (fun b ps e=>⟨#[],?_⟩) (fun m hm=>hm) (fun b u e=>?_) J.bare
 .have e:b=a:=by simpa using aa
  subst e;exact ⟨hex,eB,o_,jI⟩
 .rw [aE (fun z=>aa (by simp [z]))];exact n
 .rw [aE (dy e a4)];exact e
 .rw [aE (dy e a4)];exact e
 .rw [aE (dy e a4),e];simp
 .by_cases aa:b=a
  .subst aa;rw [aV] at e;cases e;exact new
  .rw [aE aa] at e;exact (J.bl b u e).kU (fun c v _ q=>q) (fun c q=>by rw [aE (dy q a4)];exact q) fun c xs q=>by rw [aE (dy q a4)];exact q
end
theorem afL {prog:Program} {w:World} {A:Around} {it acc:Value} {env:Env} (J:Nat->Shared->Prop)
  (turn:∀ n s,J n s->wpAny (model prog w) A (pyNext it) (fun r dd=>match r with
   | none=>R (.ok .next) dd
   | some v=>wpAny (model prog w) A (letOwnedTupleGo wQ it v) (fun _ fk=>wpAny (model prog w) A (assign wQ env v) (fun _ dP=>
     wpAny (model prog w) A (forIn ifs true fun c r=>if r=true then do let ok <- isTrue c env (eval c env);pure (vm ok) else pure (vm r)) (fun ok mb=>
      if ok=true then wpAny (model prog w) A (eval elt env) (fun x xk=>
       wpAny (model prog w) A (call (.builtin "list.append") [acc,x]) (fun _ Pc=>∃ m,m < n/\J m Pc) (fun _ _=>False) xk) (fun _ _=>False) mb
      else ∃ m,m < n/\J m mb) (fun _ _=>False) dP) (fun _ _=>False) fk) (fun _ _=>False) dd) (fun _ _=>False) s)
  (n:Nat) (h:J n s) :
  codeAny (model prog w) A (.compLoop (.ListComp elt [⟨wQ,iter,ifs,0⟩] scope pos) 0 it acc env) R s:=by
 refine codeAny_loop rfl J (fun n s GG=>?_) n h;show wpAny _ A ((compTurn (.ListComp elt [⟨wQ,iter,ifs,0⟩] scope pos) 0 it acc env).onRaise (fun x=>do noteFrame x env;theTreesLotGoes x)) _ _ s;refine wpAny_noted (wpAny_noRaise ?_);rw [compTurn_list];refine wpAny_bind (wpAny_standAt (wpAny_bind (wpAny_mono (turn n s GG) (fun r dd h₁=>?_) fun _ _ h'=>h')));cases r with
 | none=>exact wpAny_pure h₁
 | some v=>
  refine wpAny_bind (wpAny_mono h₁ (fun _ fk h₀=>?_) fun _ _ h'=>h');refine wpAny_bind (wpAny_mono h₀ (fun _ dP uZ=>wpAny_bind (wpAny_mono uZ (fun ok mb AJ=>?_) fun _ _ h'=>h')) fun _ _ h'=>h');cases ok with
  | false=>exact wpAny_pure ⟨rfl,AJ⟩
  | true=>
   exact wpAny_bind (wpAny_bind (wpAny_mono AJ (fun x xk Y5=>wpAny_bind (wpAny_mono Y5 (fun _ Pc ahk=>wpAny_pure (wpAny_pure ⟨rfl,ahk⟩)) fun _ _ h'=>h')) fun _ _ h'=>h'))
def sj (X:a7) (ifs:List Expr) (t:TT):Prop:=
 ∀ (ae:List (Addr × Obj)) (s:Shared) (σ:St) (H:ar) (Q:Bool->ar->Prop),Inv X ae σ H s->t σ H Q ->
  wpAny (model X.prog X.w) X.A (forIn ifs true fun c r=>if r=true then do let ok <- isTrue c X.env (eval c X.env);pure (vm ok) else pure (vm r)) (yl X ae σ Q) X.dK s
noncomputable def oo:TT:=fun _ H Q=>Q true H
theorem h4:sj X [] oo:=fun _ _ _ H _ J h=>wpAny_tests_nil ⟨H,J,h⟩
theorem v' {t:TT} (h:iX X c t):sj X [c] t:=fun ae s σ H Q J q=>wpAny_tests_one (h ae s σ H Q J q)
def Sub (σ aB:St):Prop:=aB.length=σ.length/\∀ (i:Nat) (v:V),σ[i]? = some (some v)->aB[i]? = some (some v)
theorem Sub.refl (σ:St):Sub σ σ:=⟨rfl,fun _ _ h=>h⟩
theorem Sub.set {x:Option V} (h:Sub σ aB) (e:σ[i]? = some none):Sub σ (aB.set i x):=by
 refine ⟨by rw [aaa];exact h.1,fun j v q=>?_⟩;have aJ:i ≠ j:=fun z=>by subst z;rw [e] at q;cases q
 rw [Cc aJ];exact h.2 j v q
def rL (bF:ji) (g:gw) (dj:TT) (bL:TE) (du:St) (Q:cX) (W:Nat->Nat->List V->ar->Prop):Prop:=∀ i m ys H,W i m ys H ->
 (bF.stop i H/\∀ p,H p=none->Q (.ref p) (upd H p (.lst ys))) \/
 (bF.go i H/\ys.length < sizeLine/\∀ x I,bF.oL i H x I->g x du I fun cv aw=>Sub du cv/\dj cv aw fun c bf=>if c=true then bL cv bf fun y cN=>∃ dm,dm < m/\W (i + 1) dm (ys ++ [y]) cN else ∃ dm,dm < m/\W (i + 1) dm ys bf)
noncomputable def KM (hk:TI) (g:gw) (dj:TT) (bL:TE) (sel:List (Option Nat)):TE:=fun σ H Q=>hk σ H fun bF H1=>∃ W:Nat->Nat->List V->ar->Prop,(∃ m,W 0 m [] H1)/\rL bF g dj bL (l0 sel σ) Q W
section
variable {X:a7} {elt da iter:Expr} {ifs:List Expr} {scope:Scope} {pos:Pos} {hk:TI} {g:gw} {dj:TT} {bL:TE} {N:List Str} {sel:List (Option Nat)}
structure fx (X:a7) (scope:Scope) (N:List Str) (da elt:Expr) (ifs:List Expr) (g:gw) (dj:TT) (bL:TE):Prop where
 LU:∀ C s H bB,mZ (X.block scope C N s H bB) da g
 tests:∀ C s H bB,sj (X.block scope C N s H bB) ifs dj
 elem:∀ C s H bB,bq (X.block scope C N s H bB) elt bL
theorem fx.of {N:List Str} (af:∀ C s H bB,mZ (X.block scope C N s H bB) da g)
  (ak:∀ C s H bB,∃ t,sj (X.block scope C N s H bB) ifs t/\t=dj) (a9:∀ C s H bB,∃ t,bq (X.block scope C N s H bB) elt t/\t=bL):fx X scope N da elt ifs g dj bL:=
 ⟨af,fun C s H bB=>by obtain ⟨t,h,rfl⟩:=ak C s H bB;exact h,fun C s H bB=>by obtain ⟨t,h,rfl⟩:=a9 C s H bB;exact h⟩
theorem Ow {ae:List (Addr × Obj)} {dP:Shared} {σ:St} {ie:ar} {Q:cX} {it:Addr} {bB:List Addr} {dQ:Nat->Heap->Prop} {bF:ji} {W:Nat->Nat->List V->ar->Prop} {E:Value->Shared->Prop} {RR:Value->Addr->Result->Shared->Prop}
  (ay:X.calm=true) (S:qd X.env scope) (pF:KF X.N scope N sel) (B:fx X scope N da elt ifs g dj bL) (bR:Inv X ae σ ie dP) (T:p8 X.prog X.w X.K da bF bB it dQ) (p9:dQ 0 dP.heap) (f2:∀ b ∈ bB,jr X ae ie b)
  (m3:∃ m,W 0 m [] ie) (fj:rL bF g dj bL (l0 sel σ) Q W)
  (fin:∀ D C ys I ai,Inv X ae σ (upd I D (.lst ys)) ai->(∃ m,ai.heap.Ns C m)->jr X ae (upd I D (.lst ys)) C->Q (.ref D) (upd I D (.lst ys))->RR (.ref D) C (.ok .next) ai) :
  wpAny (model X.prog X.w) X.A (newList []) (fun acc mb=>wpAny (model X.prog X.w) X.A (newFunctionEnv scope X.env.globals (i6 X.env.cells scope.names []) [] X.env.qual none .none (some X.env)) (fun N0 xk=>
   codeAny (model X.prog X.w) X.A (.compStart (.ListComp elt [⟨da,iter,ifs,0⟩] scope pos) 0 (.ref it) acc { N0 with scope:=relabel scope X.env }) (RR acc N0.locals) xk) E mb) E dP:=by
 refine wpAny_newObj_type (wpAny_newFunctionEnv S.sQ (by intro y bg;simp at bg) (fun h₁ Il y_=>?_) S.kind);dsimp only at Il y_ ⊢;generalize JB:dP.heap.push { cls:=.type "list",dict:=none,data:=.seq ([]:List Value).toArray }=aw at Il y_ ⊢;have de:aw.objs.size=dP.heap.objs.size + 1:=by rw [<- JB,N8]
 have wi:dP.heap.objs.size ≠ aw.objs.size:=by rw [de];exact gv (Dz _)
 have DQ:dP.heap.objs.size <= aw.objs.size:=by rw [de];exact E6 _
 have below:∀ b,b < dP.heap.objs.size->b ≠ aw.objs.size/\b ≠ dP.heap.objs.size:=fun b aa=>⟨by rw [de];exact gv (Nat.lt_succ_of_lt aa),gv aa⟩
 have old:∀ b o,dP.heap.get? b=some o->h₁.get? b=some o:=fun b o e=>y_.extBut b o (below b (es e)).1 (eU _ (JB ▸ eU _ e))
 have Tn:h₁.get? dP.heap.objs.size=some { cls:=.type "list",data:=.seq ([]:List Value).toArray }:=y_.extBut _ _ wi (eU _ (JB ▸ hI _ rfl));have vl:∀ b ∈ bB,b < dP.heap.objs.size:=fun b aa=>by
  obtain ⟨o,e,_⟩:=T.obj _ _ p9 b aa;exact es e
 generalize alq:aw.objs.size=C at *;generalize n':dP.heap.objs.size=D at *;have P_:dQ 0 h₁:=T.keep _ _ _ p9 fun b _ o e=>old b o e
 have Vj:Inv (X.block scope C N dP ie bB) [] (l0 sel σ) ie { dP with heap:=h₁,toks:=dP.toks + ([]:List (Str × Value)).length }:=
  af1 bR S f2 (fun b aa=>by rw [n'];exact vl b aa) (by rw [n'];exact DQ) old Il pF
 have C0:D ∉ (X.block scope C N dP ie bB).aN:=fun z=>by
  have ik:=bR.ye D z;rcases eJ.mp ik with e | e
  .exact absurd bR.lt (by rw [<- e,n'];exact nv _)
  .exact bR.Jd (by rw [n'];exact cn _) e
 have loop:∀ mb:Shared,mb = { dP with heap:=h₁,toks:=dP.toks + ([]:List (Str × Value)).length } ->
   codeAny (model X.prog X.w) X.A (.compLoop (.ListComp elt [⟨da,iter,ifs,0⟩] scope pos) 0 (.ref it) (.ref D) (compEnvC scope (i6 X.env.cells scope.names []) C X.env)) (RR (.ref D) C) mb:=by
  rintro mb rfl;obtain ⟨m0,m3⟩:=m3;refine afL (fun k ai=>∃ i ys us n I,Inv (X.block scope C N dP ie bB) [(D,{ cls:=.type "list",data:=.seq us n })] (l0 sel σ) I ai/\(∃ vs:List Value,us=vs.toArray/\b8 ys vs)/\ys.length <= sizeLine/\dQ i ai.heap/\(∀ b ∈ bB,I b=none)/\W i k ys I) ?_ m0
   ⟨0,[],_,0,ie,Vj.rY fun p ax=>?_,⟨[],rfl,.nil⟩,fi _,P_,fun b aa=>(f2 b aa).1,m3⟩
  .rintro k ai ⟨i,ys,us,n,I,Hq,⟨vs,rfl,cT⟩,M3,st,fr,w⟩;have HL:∀ {pl:List (Addr × Obj)} {ix:ar},(∀ p ∈ pl,p.1=D)->(∀ b ∈ bB,ix b=none)->∀ b ∈ bB,jr (X.block scope C N dP ie bB) pl ix b:=fun {pl ix} ax a4 b aa=>
    ⟨a4 b aa,(below b (vl b aa)).1,(Nv (N:=N) (C:=C) bR S f2 (fun b aa=>by rw [n'];exact vl b aa) (by rw [n'];exact DQ)).pA b aa,.inl aa,fun x c e=>(f2 b aa).2.2.2.2.1 x c (sz e),fun p ahj z=>by
     have afG:p ∈ pl:=by simpa using ahj
     exact (below b (vl b aa)).2 (by rw [<- z];exact ax p afG)⟩
   have GF:∀ p ∈ [((D,{ cls:=.type "list",data:=.seq vs.toArray n }):Addr × Obj)],p.1=D:=fun p ax=>by
    have e:p=(D,{ cls:=.type "list",data:=.seq vs.toArray n }):=by simpa using ax
    rw [e]
   rcases fj i k ys I w with ⟨stop,HI⟩ | ⟨go,hlen,step⟩
   .refine bC (T.done (X.block scope C N dP ie bB) rfl rfl rfl ay i _ ai _ I _ Hq (HL GF fr) st stop) fun r s4 bw=>?_
    obtain ⟨ao,hS⟩:=bw;subst ao;have rK:=hS.pin (D,{ cls:=.type "list",data:=.seq vs.toArray n }) (by simp);have LR:I D=none:=rK.2.1;have Xr:Inv X ae σ I s4:=bR.acx (ch:=bB) hS.os hS.base hS.bl hS.bare fun b aa=>⟨(f2 b aa).2.2.2.1,(f2 b aa).2.1,(f2 b aa).2.2.2.2.1,(f2 b aa).2.2.2.2.2⟩
    have r1:jr X ae I D:=bR.oX (by rw [n'];exact cn _) LR;have ab4:Inv X ae σ (upd I D (.lst ys)) s4:=Xr.adopt r1 ⟨M3,vs,n,cT,rK.1⟩;obtain ⟨agv,agw,_⟩:=hS.loc;refine fin D C ys I s4 ab4 ⟨agv,agw⟩ (bR.oX (by rw [n'];exact DQ) ?_) (HI D LR);rw [aE (dW wi)];exact hS.free
   .refine bC (T.item (X.block scope C N dP ie bB) rfl rfl rfl ay i _ ai _ I _ Hq (HL GF fr) st go) fun r s4 bw=>?_
    obtain ⟨u,ao,cW⟩:=bw;subst ao;refine bC cW fun _ s5 bw=>?_
    obtain ⟨x,dJ,xa,CW,DY,rW,Ed⟩:=bw;have Gg:=xa.pinned (HL GF Ed) (T.obj _ _ rW);refine bC (B.LU C dP ie bB _ s5 _ dJ x u _ Gg CW (step x dJ DY)) fun _ kr bw=>?_
    obtain ⟨mq,iQ,FI,nA,Cp⟩:=bw;refine bC (B.tests C dP ie bB _ kr mq iQ _ FI Cp) fun c mY bw=>?_
    obtain ⟨hL,j5,m2⟩:=bw;have again:∀ {t4:St} {iT:ar} {kg:Shared},Inv (X.block scope C N dP ie bB) ([(D,{ cls:=.type "list",data:=.seq vs.toArray n })] ++ wH bB s5.heap) t4 iT kg->dQ (i + 1) kg.heap/\(∀ b ∈ bB,iT b=none):=fun {t4 iT kg} oe=>by
     refine ⟨T.keep _ _ _ rW fun b aa o e=>(oe.pin (b,o) (jP _ (jP _ (AU aa e)))).1,fun b aa=>?_⟩;obtain ⟨o,e,d⟩:=T.obj _ _ rW b aa;exact (oe.pin (b,o) (jP _ (jP _ (AU aa e)))).2.1
    have back:∀ {iT:ar} {kg:Shared} {pl:List (Addr × Obj)},Inv (X.block scope C N dP ie bB) pl mq iT kg->Inv (X.block scope C N dP ie bB) pl (l0 sel σ) iT kg:=fun {iT kg pl} oe=>oe.weak nA.1.symm nA.2
    cases c with
    | false=>
     obtain ⟨dm,hm,eN⟩:=m2;obtain ⟨t1,fO⟩:=again j5;exact ⟨dm,hm,i + 1,ys,_,n,hL,back j5.A',⟨vs,rfl,cT⟩,M3,t1,fO,eN⟩
    | true=>
     refine bC (B.elem C dP ie bB _ mY mq hL _ j5 m2) fun v kg bw=>?_
     obtain ⟨y,iT,oe,Wj,dm,hm,eN⟩:=bw;obtain ⟨t1,fO⟩:=again oe;have rK:=oe.pin (D,{ cls:=.type "list",data:=.seq vs.toArray n }) (by simp);refine append_at (hsz:=by have:=cT.length;rw [gQ];omega) rK.1 fun w5 Ly agY=>?_
     have Ui:Inv (X.block scope C N dP ie bB) [] (l0 sel σ) iT kg:=(back oe).rY fun p ax=>nomatch ax
     have r1:jr (X.block scope C N dP ie bB) [] iT D:=⟨rK.2.1,wi,C0,.inr (by show dP.heap.objs.size <= D;rw [n'];exact cn _),(fun x c e z=>by
      obtain ⟨aiR,o,aY,hd⟩:=oe.cell x c e;rw [z,rK.1] at aY;cases aY;cases hd),(fun p ax=>nomatch ax)⟩
     have VP:Inv (X.block scope C N dP ie bB) [] (l0 sel σ) iT { kg with heap:=w5 }:=Ui.turned (t':=kg.toks) (it:=D) (fun b o aa e=>(Ly.2 b aa).trans e) r1.1 r1.2.1 r1.2.2.2.1 r1.2.2.2.2.1 r1.2.2.2.2.2;refine ⟨dm,hm,i + 1,ys ++ [y],vs.toArray.push v,n + 1,iT,VP.rY fun p ax=>?_,⟨vs ++ [v],by simp,KR cT Wj⟩,by rw [dY,w1];omega,T.keep _ _ _ t1 fun b aa o e=>(Ly.2 b (below b (vl b aa)).2).trans e,fO,eN⟩;have e:p=(D,{ cls:=.type "list",data:=.seq (vs.toArray.push v) (n + 1) }):=by simpa using ax
     subst e;exact ⟨agY,rK.2.1,wi,C0,fun v z=>by cases z⟩
  .have e:p=(D,{ cls:=.type "list",data:=.seq ([]:List Value).toArray }):=by simpa using ax
   subst e;exact ⟨Tn,bR.bl.fresh (by rw [n'];exact cn _),wi,C0,fun v z=>by cases z⟩
 exact codeAny_compStart_list (loop _ rfl) (T.self _ 0 _ _ _ P_ (loop _ rfl))
theorem hP (ay:X.calm=true) (ag:pg X da iter hk) (S:qd X.env scope) (pF:KF X.N scope N sel) (B:fx X scope N da elt ifs g dj bL)
  (av:∀ x,foldedSetIterable iter X.env x=pure x:=by intro _;rfl):bq X (.ListComp elt [⟨da,iter,ifs,0⟩] scope pos) (KM hk g dj bL sel):=by
 intro ae s σ H Q J h;rw [eval_ListComp];refine wpAny_comprehension_free (use:=none) rfl av (MR (S.cells J.ok)) S.kind S.loc ?_;refine bC (ag ae s σ H _ J h) fun v s1 af=>bC af fun x5 s2 ak=>?_
 obtain ⟨it,bB,dQ,bF,aw,e,bR,T,p9,f2,W,m3,fj⟩:=ak;subst e;refine Ow (RR:=fun acc C=>compPost (model X.prog X.w) X.A X.dK none (gJ X ae σ Q) acc C) ay S pF B bR T p9 f2 m3 fj fun D C ys I ai gS ⟨m,hm⟩ hN q=>?_
 exact ⟨m,hm,fun h' sW=>⟨.ref D,_,gS.turned (t':=ai.toks) (it:=C) (fun b o aa e=>(sW.2 b aa).trans e) hN.1 hN.2.1 hN.2.2.2.1 hN.2.2.2.2.1 hN.2.2.2.2.2,rfl,q⟩⟩
theorem xn {i:Nat} {y:Str} {py PV:Pos} (br:X.N.Nodup) (ag:X.N[i]? = some y) (ah:Loc X.env.scope y) (ay:X.calm=true) (hit:pg X da iter hk) (S:qd X.env scope) (pF:KF X.N scope N sel) (B:fx X scope N da elt ifs g dj bL)
  (agJ:swapsWith (.ListComp elt [⟨da,iter,ifs,0⟩] scope pos) (some (.Name y py)) PV.line X.env=pure true) (hf:X.fn y=true\/X.env.scope.names.lookup y=some .local:=by first | exact .inl rfl | exact .inr rfl | assumption)
  (av:∀ x,foldedSetIterable iter X.env x=pure x:=by intro _;rfl):hy X (.Assign [.Name y py] (.ListComp elt [⟨da,iter,ifs,0⟩] scope pos) PV) (sI (KM hk g dj bL sel) (gU i)):=by
 intro ae s σ H D J h;rw [exec_Assign_Name_used _ _ _ _ agJ];refine wpAny_bind (wpAny_standAt (wpAny_bind ?_));show wpAny _ X.A (do let _ <- comprehension (.ListComp elt [⟨da,iter,ifs,0⟩] scope pos) scope X.env _ (newList []) false (eval iter X.env) (some (assign (.Name y py) X.env))) _ _ s;refine wpAny_bind (wpAny_mono (wpAny_comprehension_free (use:=some (assign (.Name y py) X.env)) (Q:=fun _ ai=>qK X ae D .next ai) rfl av (MR (S.cells J.ok)) S.kind S.loc ?_) (fun _ ai a0=>wpAny_pure (wpAny_pure a0)) fun _ _ e=>e);refine bC (hit ae s σ H _ J h) fun v s1 af=>bC af fun x5 s2 ak=>?_
 obtain ⟨it,bB,dQ,bF,aw,e,bR,T,p9,f2,W,m3,fj⟩:=ak;subst e;refine Ow (RR:=fun acc C=>compPost (model X.prog X.w) X.A X.dK (some (assign (.Name y py) X.env)) (fun _ ai=>qK X ae D .next ai) acc C) ay S pF B bR T p9 f2 m3 fj fun Da C ys I ai gS ⟨m,hm⟩ hN q=>?_
 show wpAny _ X.A (assign (.Name y py) X.env (.ref Da)) _ _ _;refine wpAny_assign_Name (K1 gS br ag ah (show bI (.ref Da) (.ref Da) from rfl) (fun s3 eQ bw=>?_) hf);obtain ⟨a,sW,aS⟩:=bw;have agE:C ≠ a:=by
  rcases aS with z | z
  .rw [z];exact hN.2.1
  .exact fun w=>hN.2.2.2.2.1 y a z w.symm
 refine ⟨m,hm.sameBut sW agE,fun h' adb=>⟨_,_,eQ.turned (t':=s3.toks) (it:=C) (fun b o aa e=>(adb.2 b aa).trans e) hN.1 hN.2.1 hN.2.2.2.1 hN.2.2.2.2.1 hN.2.2.2.2.2,q⟩⟩
end
def oj (Pv:Nat->List V->ar->Prop) (g:gw) (dj:TT) (bL:TE) (du:St) (i:Nat) (x:V) (ys:List V) (H:ar):Prop:=
 ∀ N:List V->ar->Prop,(∀ js I,Pv (i + 1) js I->N js I)->g x du H fun cv aw=>Sub du cv/\dj cv aw fun c bf=>if c=true then bL cv bf fun y cN=>N (ys ++ [y]) cN else N ys bf
theorem Z' {K:ba} (Pv:Nat->List V->ar->Prop) (aT:xs.length <= sizeLine) (h0:Pv 0 [] H) (aL:∀ i ys H,i <= xs.length->Pv i ys H->aC K H a xs/\ys.length <= i)
  (av:∀ i x ys H,xs[i]? = some x->Pv i ys H->oj Pv g dj bL du i x ys H) (hd:∀ ys H,Pv xs.length ys H->∀ p,H p=none->Q (.ref p) (upd H p (.lst ys))) :
  ∃ W:Nat->Nat->List V->ar->Prop,(∃ m,W 0 m [] H)/\rL (mO K a) g dj bL du Q W:=by
 refine ⟨fun i m ys H=>m=xs.length - i/\i <= xs.length/\Pv i ys H,⟨xs.length,by simp,fi _,h0⟩,?_⟩;rintro i m ys H ⟨rfl,ag,p⟩;have q:=(aL i ys H ag p).1;have Bx:=(aL i ys H ag p).2;by_cases dG:i < xs.length
 .refine .inr ⟨⟨xs,xs[i],q,by simp [dG]⟩,by omega,fun x I y=>?_⟩;obtain ⟨e,y⟩:=y;subst e;exact av i x ys _ (y xs q) p (fun js I=>∃ dm,dm < xs.length - i/\dm=xs.length - (i + 1)/\i + 1 <= xs.length/\Pv (i + 1) js I) fun js I r=>⟨xs.length - (i + 1),by omega,rfl,dG,r⟩
 .have e:i=xs.length:=by omega
  subst e;exact .inl ⟨⟨xs,q,cn _⟩,hd ys H p⟩
theorem ZA {K:ba} (Pv:Nat->List V->ar->Prop) (aT:xs.length <= sizeLine) (h0:Pv 0 [] H) (aL:∀ i ys H,i <= xs.length->Pv i ys H->di K H a xs/\ys.length <= i)
  (av:∀ i x ys H,xs[i]? = some x->Pv i ys H->oj Pv g dj bL du i x ys H) (hd:∀ ys H,Pv xs.length ys H->∀ p,H p=none->Q (.ref p) (upd H p (.lst ys))) :
  ∃ W:Nat->Nat->List V->ar->Prop,(∃ m,W 0 m [] H)/\rL (zc K a) g dj bL du Q W:=by
 refine ⟨fun i m ys H=>m=xs.length - i/\i <= xs.length/\Pv i ys H,⟨xs.length,by simp,fi _,h0⟩,?_⟩;rintro i m ys H ⟨rfl,ag,p⟩;have q:=(aL i ys H ag p).1;have Bx:=(aL i ys H ag p).2;by_cases dG:i < xs.length
 .refine .inr ⟨⟨xs,xs[i],q,by simp [dG]⟩,by omega,fun x I y=>?_⟩;obtain ⟨e,y⟩:=y;subst e;exact av i x ys _ (y xs q) p (fun js I=>∃ dm,dm < xs.length - i/\dm=xs.length - (i + 1)/\i + 1 <= xs.length/\Pv (i + 1) js I) fun js I r=>⟨xs.length - (i + 1),by omega,rfl,dG,r⟩
 .have e:i=xs.length:=by omega
  subst e;exact .inl ⟨⟨xs,q,cn _⟩,hd ys H p⟩
theorem wE {lo:Int} {n:Nat} {g:gw} {dj:TT} {bL:TE} {du:St} {Q:cX} {H:ar} (Pv:Nat->List V->ar->Prop) (aT:n <= sizeLine) (h0:Pv 0 [] H) (aL:∀ i ys H,i <= n->Pv i ys H->ys.length <= i)
  (av:∀ i ys H,i < n->Pv i ys H->oj Pv g dj bL du i (.int (lo + i)) ys H) (hd:∀ ys H,Pv n ys H->∀ p,H p=none->Q (.ref p) (upd H p (.lst ys))) :
  ∃ W:Nat->Nat->List V->ar->Prop,(∃ m,W 0 m [] H)/\rL (mI lo n) g dj bL du Q W:=by
 refine ⟨fun i m ys H=>m=n - i/\i <= n/\Pv i ys H,⟨n,by simp,fi _,h0⟩,?_⟩;rintro i m ys H ⟨rfl,ag,p⟩;have Bx:=aL i ys H ag p;by_cases dG:i < n
 .refine .inr ⟨dG,by omega,fun x I y=>?_⟩;obtain ⟨e,y⟩:=y;subst e y;exact av i ys _ dG p (fun js I=>∃ dm,dm < n - i/\dm=n - (i + 1)/\i + 1 <= n/\Pv (i + 1) js I) fun js I r=>⟨n - (i + 1),by omega,rfl,dG,r⟩
 .have e:i=n:=by omega
  subst e;exact .inl ⟨cn _,hd ys H p⟩
noncomputable def o' (xs:List V):ji:=⟨fun i _=>i < xs.length,fun i H x I=>I=H/\xs[i]? = some x,fun i _=>xs.length <= i⟩
theorem QT {w:World} {K:ba} {it:Addr} {St:Nat->Heap->Prop} (fj:∀ A:Around,A.handled=none->Walks P w A it [it] [it] xs.length X' St)
  (cJ:∀ i v,X' i v->∃ x,xs[i]? = some x/\bI x v)
  (tw:∀ i h,St i h->∃ o n vs,h.get? it=some o/\o.cls=.type n/\o.data=.fields vs/\["enumerate","zip","dict_itemiterator","dict_reverseitemiterator","odict_iterator","itertools.zip_longest","itertools.pairwise"].contains n=false)
  (rt:∀ i h h',St i h->(∀ o,h.get? it=some o->h'.get? it=some o)->St i h')
  (YA:∀ (A:Around) (i:Nat) (s:Shared) (Q:Value->Shared->Prop) (E:Value->Shared->Prop),St i s.heap->Q (.ref it) s->wpAny (model P w) A (pyIter (.ref it)) Q E s) :
  p8 P w K da (o' xs) [it] it (fun i h=>i <= xs.length/\St i h) where
 mem:=by simp
 obj:=fun i h st b aa=>by
  have e:b=it:=by simpa using aa
  subst e;obtain ⟨o,n,vs,e,_,d,_⟩:=tw i h st.2;exact ⟨o,e,fun v z=>by rw [d] at z;cases z⟩
 keep:=fun i h h' st k=>⟨st.1,rt i h h' st.2 fun o e=>k it (by simp) o e⟩
 item:=by
  intro X FE hw fR ay i ae s σ H E J hf st aQ;subst FE hw fR;obtain ⟨f0,f1,f2,eh,f4,eI⟩:=hf it (by simp);refine (fj X.A (J.ok.hd ay)).item i s _ _ aQ st.2 fun v h' tk aI ko fI=>?_
  obtain ⟨x,ah,bj⟩:=cJ i v aI;have a5:Inv X ae σ H { s with heap:=h',toks:=tk }:=J.turned (fun b o aa e=>fI b o (by simpa using aa) e) f0 f1 eh f4 eI;obtain ⟨o,n,vs,e,c,d,nm⟩:=tw _ _ ko;exact ⟨v,rfl,u6 (s:={ s with heap:=h',toks:=tk }) e c d nm ⟨x,H,a5,bj,⟨rfl,ah⟩,⟨aQ,ko⟩,fun b aa=>(hf b aa).1⟩⟩
 done:=by
  intro X FE hw fR ay i ae s σ H E J hf st aQ;subst FE hw fR;obtain ⟨f0,f1,f2,eh,f4,eI⟩:=hf it (by simp);have e:i=xs.length:=Nat.le_antisymm st.1 aQ;subst e;exact (fj X.A (J.ok.hd ay)).done s _ _ st.2 fun h' tk fI=>⟨rfl,J.turned (fun b o aa e=>fI b o (by simpa using aa) e) f0 f1 eh f4 eI⟩
 self:=fun A i s Q E st h=>YA A i s Q E st.2 h
noncomputable def i5 (c:Nat):Str:=⟨#[c]⟩
noncomputable def mQ (x:Str):List V:=x.cps.toList.map fun c=>V.str (i5 c)
theorem R' (x:Str):(mQ x).length=x.cps.size:=by unfold mQ;simp
theorem Ud {x:Str} {i c:Nat} (h:x.cps[i]? = some c):(mQ x)[i]? = some (.str (i5 c)):=by
 unfold mQ;rw [c5,YO,h];rfl
theorem PI {x:Str} {i:Nat} {v:Value} (h:SignAt x i v):∃ y,(mQ x)[i]? = some y/\bI y v:=by
 obtain ⟨c,u,ay,rfl⟩:=h;exact ⟨.str (i5 c),Ud ay,u,rfl⟩
section
variable {X:a7} {da:Expr}
noncomputable def Cv (cB:TE):TI:=fun σ H R=>cB σ H fun x H1=>∃ z,x=.str z/\R (o' (mQ z)) H1
theorem aeY (aL:bq X l cB):pg X da l (Cv cB):=by
 intro ae s σ H R J h;refine bC (aL ae s σ H _ J h) fun v s1 bw=>?_
 obtain ⟨x,H1,a5,cQ,bG⟩:=bw;obtain ⟨z,e,q⟩:=bG;subst e;obtain ⟨t,rfl⟩:=cQ;have hN:∀ b ∈ [s1.heap.objs.size],jr X ae H1 b:=fun b aa=>by
  have e:b=s1.heap.objs.size:=by simpa using aa
  subst e;exact a5.oX (cn _) (a5.bl.fresh (cn _))
 have aT:=R' z;cases aS:z.cps.all (· < 128) with
 | false=>
  refine wpAny_pyIter_wide aS ⟨s1.heap.objs.size,[s1.heap.objs.size],fun i h=>i <= (mQ z).length/\h.IsStrIter s1.heap.objs.size "str_iterator" z t i,_,H1,rfl,a5.kept (t':=s1.toks) fun b o e=>eU _ e,
   QT (fun A jg=>by rw [aT];exact Walks.strWide jg _ z t) (fun i v=>PI) (fun i h ⟨o,e,c,d⟩=>⟨o,_,_,e,c,d,by decide⟩) (fun i h h' ⟨o,e,r⟩ k=>⟨o,k o e,r⟩) (fun A i s Q E st q=>wpAny_pyIter_striter_wide st q),
   ⟨fi _,_,hI _ rfl,rfl,rfl⟩,hN,q⟩
 | true=>
  refine wpAny_pyIter_ascii aS ⟨s1.heap.objs.size,[s1.heap.objs.size],fun i h=>i <= (mQ z).length/\h.IsStrIter s1.heap.objs.size "str_ascii_iterator" z t i,_,H1,rfl,a5.kept (t':=s1.toks) fun b o e=>eU _ e,
   QT (fun A jg=>by rw [aT];exact Walks.strAscii jg _ z t) (fun i v=>PI) (fun i h ⟨o,e,c,d⟩=>⟨o,_,_,e,c,d,by decide⟩) (fun i h h' ⟨o,e,r⟩ k=>⟨o,k o e,r⟩) (fun A i s Q E st q=>wpAny_pyIter_striter_ascii st q),
   ⟨fi _,_,hI _ rfl,rfl,rfl⟩,hN,q⟩
end
theorem Yj {xs:List V} {g:gw} {bP:d6} {D:g8} {σ:St} {H:ar} (Pv:Nat->St->ar->Prop) (h0:Pv 0 σ H)
  (av:∀ i x σ H,xs[i]? = some x->Pv i σ H->g x σ H fun cv aw=>bP { D with cf:=Pv (i + 1),ez:=Pv (i + 1),cw:=D.cf } cv aw) (hd:∀ σ H,Pv xs.length σ H->D.cf σ H) :
  ∃ W:Nat->Nat->St->ar->Prop,(∃ m,W 0 m σ H)/\∀ i m σ H,W i m σ H ->
   ((o' xs).stop i H/\D.cf σ H)\/((o' xs).go i H/\∃ N:St->ar->Prop,(∀ aB I,N aB I->∃ dm,dm < m/\W (i + 1) dm aB I)/\∀ x I,(o' xs).oL i H x I->g x σ I fun cv aw=>bP { D with cf:=N,ez:=N,cw:=D.cf } cv aw):=by
 refine ⟨fun i m σ H=>m=xs.length - i/\i <= xs.length/\Pv i σ H,⟨xs.length,by simp,fi _,h0⟩,?_⟩;rintro i m σ H ⟨rfl,ag,p⟩;by_cases dG:i < xs.length
 .refine .inr ⟨dG,Pv (i + 1),fun aB I jn=>⟨xs.length - (i + 1),by omega,rfl,dG,jn⟩,fun x I y=>?_⟩;obtain ⟨e,y⟩:=y;subst e;exact av i x σ _ y p
 .have e:i=xs.length:=by omega
  subst e;exact .inl ⟨cn _,hd σ H p⟩
theorem UE (Pv:Nat->List V->ar->Prop) (aT:xs.length <= sizeLine) (h0:Pv 0 [] H) (aL:∀ i ys H,i <= xs.length->Pv i ys H->ys.length <= i)
  (av:∀ i x ys H,xs[i]? = some x->Pv i ys H->oj Pv g dj bL du i x ys H) (hd:∀ ys H,Pv xs.length ys H->∀ p,H p=none->Q (.ref p) (upd H p (.lst ys))) :
  ∃ W:Nat->Nat->List V->ar->Prop,(∃ m,W 0 m [] H)/\rL (o' xs) g dj bL du Q W:=by
 refine ⟨fun i m ys H=>m=xs.length - i/\i <= xs.length/\Pv i ys H,⟨xs.length,by simp,fi _,h0⟩,?_⟩;rintro i m ys H ⟨rfl,ag,p⟩;have Bx:=aL i ys H ag p;by_cases dG:i < xs.length
 .refine .inr ⟨dG,by omega,fun x I y=>?_⟩;obtain ⟨e,y⟩:=y;subst e;exact av i x ys _ y p (fun js I=>∃ dm,dm < xs.length - i/\dm=xs.length - (i + 1)/\i + 1 <= xs.length/\Pv (i + 1) js I) fun js I r=>⟨xs.length - (i + 1),by omega,rfl,dG,r⟩
 .have e:i=xs.length:=by omega
  subst e;exact .inl ⟨cn _,hd ys H p⟩
section
variable {X:a7}
noncomputable def Hz:V->Option Int->Option Int->ar->cX->Prop:=fun x lo ag H Q=>∃ z,x=.str z/\z.length <= sizeLine/\Q (.str (lp z lo ag)) H
theorem xU:Bp X Hz:=by
 intro ae s σ H x v jq je lo ag bS Q J bj av pl pu h;obtain ⟨z,rfl,aT,q⟩:=h;obtain ⟨t,rfl⟩:=bj;refine ⟨"str",_,F.slot_str_getitem.lookup,typeIs_str s z t,?_⟩;have fin:∀ t' k,gJ X ae σ Q (.str (lp z lo ag) t') { s with toks:=k }:=fun t' k=>⟨.str _,H,J.tok _,⟨_,rfl⟩,q⟩
 cases pl with
 | none=>
  cases pu with
  | none=>exact wpAny_getItem_str_slice (l:=none) (u:=none) (st:=none) av rfl (post_val_or_str ⟨c_ (tA z _ _) aT,fin⟩)
  | int j G5=>exact wpAny_getItem_str_slice (l:=none) (u:=some (j,G5)) (st:=none) av rfl (post_val_or_str ⟨c_ (tA z _ _) aT,fin⟩)
 | int i PX=>
  cases pu with
  | none=>exact wpAny_getItem_str_slice (l:=some (i,PX)) (u:=none) (st:=none) av rfl (post_val_or_str ⟨c_ (tA z _ _) aT,fin⟩)
  | int j G5=>exact wpAny_getItem_str_slice (l:=some (i,PX)) (u:=some (j,G5)) (st:=none) av rfl (post_val_or_str ⟨c_ (tA z _ _) aT,fin⟩)
noncomputable def aW (ys:List Str):List V:=ys.map V.str
theorem agy:∀ {ys:List Str} {us:List Value},b8 (aW ys) us->StrsAre us ys:=by
 intro ys
 induction ys with
 | nil=>intro us r;cases r;exact .nil
 | cons y ys b4=>
  intro us r;cases r with
  | cons cQ hx=>
   obtain ⟨t,rfl⟩:=cQ;exact .cons y t (b4 hx)
theorem NS:∀ (l:List (Str × Tok)),b8 (aW (l.map (·.1))) (strValues l)
 | []=>.nil
 | (x,t) :: r=>.cons ⟨t,rfl⟩ (NS r)
noncomputable def XL (K:ba):V->List V->ar->cX->Prop:=fun x vs H Q=>∃ sep p ys,x=.str sep/\vs=[.ref p]/\aC K H p (aW ys)/\(ys.map (·.length)).sum + ys.length * sep.length <= 16777216/\Q (.str (oU sep ys)) H
theorem vj:JD X "str.join" (XL X.K):=by
 intro ae s σ H x xs v us Q J bj cT h;obtain ⟨sep,p,ys,rfl,rfl,a0,aT,q⟩:=h;obtain ⟨t,rfl⟩:=bj;obtain ⟨u,rfl,fw⟩:=lZ cT;cases fw;obtain ⟨a',r,pl,_⟩:=J.list a0;exact join_list pl.isList (by simpa using agy r) aT fun t' k=>⟨.str _,H,J.tok _,⟨_,rfl⟩,q⟩
end
theorem VM {prog:Program} {w:World} {A:Around} {x y:Str} {t u:Tok} (bg:(y.length == 0)=false)
  (h:∀ l k,l.map (·.1)=il x y->Q (.ref s.heap.objs.size) { s with heap:=s.heap.push { cls:=.type "list",data:=.seq (strValues l).toArray },toks:=k }) (hsz:x.length + 2 <= sizeLine) :
  wpAny (model prog w) A (call (.builtin "str.split") [.str x t,.str y u]) Q E s:=by
 have a4:(Uz x (qI x y 0 x.length (x.length + 1)) y.length).length <= sizeLine:=by
  have au:=StrLaws.occ_length_le x y 0 x.length (x.length + 1);rw [length_partsBetween];omega
 cases af:(decide (x.length < y.length) || decide (adY x < adY y))
 .cases hf:(qI x y 0 x.length (x.length + 1)).isEmpty
  .refine call_meets Bl (typeIs_str _ _ _) P5 (Sq _ _) (meets_str_split_sep x y t u af bg hf (by omega) a4) ?_;show wants Q E _ { s with toks:=_,heap:=s.heap.push { cls:=.type "list",data:=.seq (strsFrom s.toks (Uz x (qI x y 0 x.length (x.length + 1)) y.length)).toArray } };rw [strsFrom_eq];exact h (numbered s.toks _) _ ((numbered_texts _ _).trans ((if_neg (ne_true_of_eq_false af)).trans (if_neg (ne_true_of_eq_false hf))).symm)
  .exact call_meets Bl (typeIs_str _ _ _) P5 (Sq _ _) (meets_str_split_not_found x y t u af bg hf)
    (h [(x,t)] s.toks ((if_neg (ne_true_of_eq_false af)).trans (if_pos hf)).symm)
 .exact call_meets Bl (typeIs_str _ _ _) P5 (Sq _ _) (meets_str_split_cannot_occur x y t u af)
   (h [(x,t)] s.toks (if_pos af).symm)
section
variable {X:a7}
noncomputable def GN:V->List V->ar->cX->Prop:=fun x vs H Q=>∃ z y,x=.str z/\vs=[.str y]/\y.length ≠ 0/\z.length + 2 <= sizeLine/\(il z y).length <= sizeLine/\∀ p,H p=none->Q (.ref p) (upd H p (.lst (aW (il z y))))
theorem NV:JD X "str.split" GN:=by
 intro ae s σ H x xs v us Q J bj cT h;obtain ⟨z,y,rfl,rfl,bg,aT,a4,q⟩:=h;obtain ⟨t,rfl⟩:=bj;obtain ⟨u,rfl,fw⟩:=lZ cT;obtain ⟨akI,rfl⟩:=fw;refine VM (by simpa using bg) (fun l k aL=>?_) aT;refine ⟨.ref s.heap.objs.size,_,J.laid (t':=k) (o:=.lst (aW (il z y))) (fun b o e=>eU _ e) (cn _) ⟨by unfold aW;rw [aZ];exact a4,strValues l,0,by rw [<- aL];exact NS l,hI _ rfl⟩,rfl,q _ (J.bl.fresh (cn _))⟩
theorem UL:ma X (.type "int") (fun xs H Q=>∃ z n,xs=[.str z]/\intText? z=some n/\z.length <= 640/\Q (.int n) H):=by
 intro ae s σ H xs us Q J r h;obtain ⟨z,n,rfl,a4,aT,q⟩:=h;obtain ⟨u,rfl,t,rfl⟩:=lZ r;exact PySem.W.KIN.call_text a4 aT ⟨.int n,H,J.tok _,⟨_,rfl⟩,q⟩
theorem HJ:∀ {bs:List Bool} {us:List Value},b8 (bs.map V.bk) us->us=bs.map kj
 | [],_,.nil=>rfl
 | b :: bs,_,.cons r t=>by
  have e:_=kj b:=r;rw [e,HJ t];rfl
theorem O_ {A:Around} (bs:List Bool):TruthOf X.prog X.w A (fun i v=>(bs.map kj).toArray[i]? = some v) (fun i=>bs.getD i true):=by
 intro i v s Q E cJ aR;have e:(bs.map kj)[i]? = some v:=by simpa using cJ
 rw [c5] at e;cases q:bs[i]? with
 | none=>rw [q] at e;cases e
 | some b=>
  rw [q] at e;have bT:kj b=v:=d1 e;subst bT;refine wpAny_truthy_bool ?_;have:bs.getD i true=b:=by simp [yV,q]
  have ym:Q (bs.getD i true) s:=aR;rw [this] at ym;exact ym
theorem VZ (bs:List Bool):(gx bs.length).all (fun i=>bs.getD i true)=bs.all id:=by
 rw [jC];simp only [oT,qg,id];constructor
 .intro h b aa;obtain ⟨i,ag,e⟩:=W_.mp aa;have:=h i ag;simp [yV,ag,e] at this;exact this
 .intro h i ag;simp [yV,ag];exact h _ (iM ag)
theorem abh (bs:List Bool):(gx bs.length).any (fun i=>bs.getD i true)=bs.any id:=by
 rw [jC];simp only [qi,qg,id];constructor
 .rintro ⟨i,ag,h⟩;refine ⟨bs[i],iM ag,?_⟩;simp [yV,ag] at h;exact h
 .rintro ⟨b,aa,h⟩;obtain ⟨i,ag,e⟩:=W_.mp aa;refine ⟨i,ag,?_⟩;simp [yV,ag,e];exact h
theorem WE (ay:X.calm=true):ma X (.builtin "all") (fun xs H Q=>∃ (p:Addr) (bs:List Bool),xs=[.ref p]/\aC X.K H p (bs.map V.bk)/\Q (.bk (bs.all id)) H):=by
 intro ae s σ H xs us Q J r h;obtain ⟨p,bs,rfl,a0,q⟩:=h;obtain ⟨u,rfl,fw⟩:=lZ r;cases fw;obtain ⟨a',cT,pl,_⟩:=J.list a0;have e:=HJ cT;subst e;refine call_all_walk (wpAny_pyIter_list pl.isList ?_);have cj:p ≠ s.heap.objs.size:=gv (by obtain ⟨o,_,aY,_⟩:=pl;exact es aY);refine ⟨s.heap.objs.size,_,_,_,_,_,fun i=>bs.getD i true,rfl,Bt (show X.A.in1.handled=none from J.ok.hd ay) _ p cj (bs.map kj).toArray,⟨⟨_,hI _ rfl,rfl,rfl⟩,pl.isList.at fun o e=>eU _ e⟩,O_ bs,fun h' tk fI=>?_⟩;refine ⟨.bk (bs.all id),H,J.kept fun b o e=>fI b o (by simpa using gv (es e)) (eU _ e),?_,q⟩;show kj _=kj _;rw [show (bs.map kj).toArray.size=bs.length by simp,VZ]
theorem WD (ay:X.calm=true):ma X (.builtin "any") (fun xs H Q=>∃ (p:Addr) (bs:List Bool),xs=[.ref p]/\aC X.K H p (bs.map V.bk)/\Q (.bk (bs.any id)) H):=by
 intro ae s σ H xs us Q J r h;obtain ⟨p,bs,rfl,a0,q⟩:=h;obtain ⟨u,rfl,fw⟩:=lZ r;cases fw;obtain ⟨a',cT,pl,_⟩:=J.list a0;have e:=HJ cT;subst e;refine call_any_walk (wpAny_pyIter_list pl.isList ?_);have cj:p ≠ s.heap.objs.size:=gv (by obtain ⟨o,_,aY,_⟩:=pl;exact es aY);refine ⟨s.heap.objs.size,_,_,_,_,_,fun i=>bs.getD i true,rfl,Bt (show X.A.in1.handled=none from J.ok.hd ay) _ p cj (bs.map kj).toArray,⟨⟨_,hI _ rfl,rfl,rfl⟩,pl.isList.at fun o e=>eU _ e⟩,O_ bs,fun h' tk fI=>?_⟩;refine ⟨.bk (bs.any id),H,J.kept fun b o e=>fI b o (by simpa using gv (es e)) (eU _ e),?_,q⟩;show kj _=kj _;rw [show (bs.map kj).toArray.size=bs.length by simp,abh]
end
theorem eu {X:a7} {N:List Str} (h:N.Nodup) (e:X.N=N):X.N.Nodup:=e ▸ h
noncomputable def Nt (sc scope:Scope):Bool:=
 (scope.kind == .function) && scope.names.all (fun y=>y.2 != .cell) && scope.names.all (fun y=>y.2 != .free || sc.names.lookup y.1 == some .cell || sc.names.lookup y.1 == some .free) &&
  scope.names.all (fun y=>y.2 != .local || scope.names.lookup y.1 == some .local)
theorem gA {env:Env} (he:env.scope=sc) (h:Nt sc scope=true):qd env scope:=by
 subst he;unfold Nt at h;simp only [hX,oT] at h;obtain ⟨⟨⟨af,ak⟩,a9⟩,cW⟩:=h;refine ⟨by simpa using af,fun y bg e=>?_,fun y bg e=>?_,fun y bg e=>?_⟩
 .have:=ak y bg;rw [e] at this;exact absurd this (by decide)
 .have:=a9 y bg;rw [e] at this;simp only [rg] at this;rcases this with (z | z) | z
  .exact absurd z (by decide)
  .exact .inl (show env.scope.names.lookup y.1=some .cell by simpa using z)
  .exact .inr (show env.scope.names.lookup y.1=some .free by simpa using z)
 .have:=cW y bg;rw [e] at this;simp only [rg] at this;rcases this with z | z
  .exact absurd z (by decide)
  .simpa using z
noncomputable def Mp (M:List Str) (scope:Scope) (N:List Str) (sel:List (Option Nat)):Bool:=
 sel.length == N.length && (sel.zip N).all fun p=>match p.1 with | none=>true | some j=>M[j]? == some p.2 && scope.names.lookup p.2 == some .free
theorem gC {N:List Str} (h:Mp M scope N sel=true):KF M scope N sel:=by
 unfold Mp at h;simp only [hX,oT] at h;refine ⟨by simpa using h.1,fun i j x au aH=>?_⟩;have hm:(some j,x) ∈ sel.zip N:=by
  rw [List.mem_iff_getElem?];exact ⟨i,by rw [List.getElem?_zip_eq_some];exact ⟨au,aH⟩⟩
 have:=h.2 _ hm;simp only [hX] at this;exact ⟨by simpa using this.1,by simpa using this.2⟩
noncomputable def oY:gj->Bool
 | .fL _=>false
 | .eM _ u=>oY u
 | _=>true
def aP (H:ar):Prop:=∀ b o,H b=some o->oY o=true
theorem ed.back {w:World} {h h':Heap}:∀ (o:gj),oY o=true->ed P w I h' a o->ed P w H h a o->ed P w H h' a o
 | .lst _,_,x,_=>x
 | .tup _,_,x,_=>x
 | .bu _,_,x,_=>x
 | .fL _,e,_,_=>absurd e (by unfold oY;decide)
 | .set _ _,_,x,_=>x
 | .ins _ _ _,_,x,y=>⟨y.1,x.2⟩
 | .own _,_,x,_=>x
 | .BP _,_,x,_=>x
 | .met _ _,_,x,_=>x
 | .y8 _ _,_,x,_=>x
 | .eM b0 u,e,x,y=>⟨x.1,ed.back u (by unfold oY at e;exact e) x.2 y.2⟩
 | .gL _,_,x,_=>x
 | .ext _,_,x,_=>x
section
variable {P:Program} {w:World} {K:ba} {mg:Str->Option Value} {base:Heap}
theorem cH.forget {k:Nat} {fd:FuncData} (F:cH P w K mg base dC k f fd ps sp)
  (h:∀ vs H Q E,u5 vs H Q E->aP H/\sp vs H (fun v I=>aO H I/\Q v H) E):cH P w K mg base dC k f fd ps u5:=by
 refine ⟨fun vs H Q E q=>F.len vs H _ E (h vs H Q E q).2,fun A outer s H args us vs Q E ao he aa aI av=>?_⟩;obtain ⟨bM,q⟩:=h vs H Q E av;refine codeAny_mono (F.run A outer s H args us vs _ E ao he aa aI q) fun r ai a0=>?_
 cases r with
 | error e=>exact a0
 | ok d3=>
  cases d3 with
  | next=>exact a0
  | brk=>exact a0
  | cont=>exact a0
  | ret u=>
   obtain ⟨v,I,os,bare,un,bl,cT,bO,e9⟩:=a0;exact ⟨v,H,os,bare,⟨un.keep,un.slot,fun _ _ _ n _=>n,un.there,fun _ _ z=>z,fun _ _ _ z=>z,fun _ ps z=>⟨#[],by rw [z];simp⟩⟩,fun a o e=>(bl a o (bO a o e)).back o (bM a o e) (he.bl a o e),cT,e9⟩
end
theorem bE {p:Addr} (h:H p=none):aO H (upd H p o):=fun b u q=>by rw [aE (dy q h)];exact q
theorem aO.gf {p:Addr} (s:aO H H1) (h:H p=none):aO H (upd H1 p o):=fun b u q=>by rw [aE (dy q h)];exact s b u q
structure Sc (K:ba) (a:Addr) (ns:List Int) (H:ar):Prop where
 pk:(∃ o,H a=some (.eM o (.lst (ns.map V.int))))\/∃ (o:Obj) (a':Array Value) (n:Nat),K.lookup a=some o/\o.cls=.type "list" /\ o.dict=none/\o.data=.seq a' n/\a'.size <= sizeLine/\b8 (ns.map V.int) a'.toList
 bM:aP H
section
variable {K:ba} {a p:Addr} {ns:List Int} {H I:ar} {o:gj}
theorem Sc.seq (s:Sc K a ns H):aC K H a (ns.map V.int):=by
 rcases s.pk with ⟨o,h⟩ | h
 .exact .inl (.inr ⟨o,h⟩)
 .exact .inr h
theorem Sc.new (s:Sc K a ns H) (ax:H p=none) (aY:oY o=true:=by rfl):Sc K a ns (upd H p o):=by
 refine ⟨?_,fun b u e=>?_⟩
 .rcases s.pk with ⟨b0,h⟩ | h
  .exact .inl ⟨b0,by rw [aE (dy h ax)];exact h⟩
  .exact .inr h
 .by_cases aa:b=p
  .subst aa;rw [aV] at e;cases e;exact aY
  .rw [aE aa] at e;exact s.bM b u e
theorem Sc.set (s:Sc K a ns H) (ax:H p=some u) (bx:∀ b0 z,u ≠ .eM b0 z) (aY:oY o=true:=by rfl):Sc K a ns (upd H p o):=by
 refine ⟨?_,fun b x e=>?_⟩
 .rcases s.pk with ⟨b0,h⟩ | h
  .refine .inl ⟨b0,?_⟩;have cj:a ≠ p:=fun z=>by subst z;rw [ax] at h;exact bx _ _ (d1 h)
   rw [aE cj];exact h
  .exact .inr h
 .by_cases aa:b=p
  .subst aa;rw [aV] at e;cases e;exact aY
  .rw [aE aa] at e;exact s.bM b x e
end
theorem g4:bootBuiltins "len"=some (.builtin "len"):=PySem.boot_len
theorem Tq:bootBuiltins "all"=some (.builtin "all"):=by ac_nf
theorem VB:bootBuiltins "any"=some (.builtin "any"):=by ac_nf
theorem Ju:bootBuiltins "max"=some (.builtin "max"):=by ac_nf
theorem I':bootBuiltins "int"=some (.type "int"):=by ac_nf
theorem uj:bootBuiltins "str"=some (.type "str"):=by ac_nf
theorem i3.same (h:i3 H a o) (s:aO H I):i3 I a o:=by
 rcases h with h | ⟨b0,h⟩
 .exact .inl (s _ _ h)
 .exact .inr ⟨b0,s _ _ h⟩
theorem aC.same {K:ba} (h:aC K H a xs) (s:aO H I):aC K I a xs:=by
 rcases h with h | h
 .exact .inl (h.same s)
 .exact .inr h
theorem di.same {K:ba} (h:di K H a xs) (s:aO H I):di K I a xs:=by
 rcases h with h | h
 .exact .inl (h.same s)
 .exact .inr h
theorem aP.upd {p:Addr} (h:aP H) (aY:oY o=true:=by rfl):aP (upd H p o):=fun b u e=>by
 by_cases aa:b=p
 .subst aa;rw [aV] at e;cases e;exact aY
 .rw [aE aa] at e;exact h b u e
theorem Sc.same {K:ba} {ns:List Int} (s:Sc K a ns H) (bO:aO H I) (bM:aP I):Sc K a ns I:=by
 refine ⟨?_,bM⟩;rcases s.pk with ⟨o,h⟩ | h
 .exact .inl ⟨o,bO _ _ h⟩
 .exact .inr h
structure Kk (K:ba) (C:Addr) (m:Str) (f:Addr):Prop where
 kk:Vy K C (.type "type")=true
 fd:aaF K (.ref C) (.type "type") m=some (.val (.ref f))
 ga:sf K (.ref C) "__getattribute__"=some (some (.builtin "type.__getattribute__"))
 bN:qV K (.ref f)=true
structure oK (P:Program) (w:World) (K:ba) (mg:Str->Option Value) (base:Heap) (CX:jl) (k:Nat) (nu:Addr->Prop) (m:Str) (ps:List Str) (nD:Addr->bU):Prop where
 ok:∀ C,nu C->∃ f fd,gX K C/\fD K C m f/\cH P w K mg base CX k f fd ps (nD C)/\b5 K fd ps []
noncomputable def MJ (nu:Addr->Prop) (m:Str) (nD:Addr->bU) (E:fS) (a_:TE) (t:fE):TE:=fun σ H Q=>a_ σ H fun x H1=>∃ a C aq aN,x=.ref a/\H1 a=some (.ins C aq aN)/\nu C/\aN.lookup m=none /\
 t σ H1 fun vs aw=>nD C (x :: vs) aw Q E
section
variable {X:a7} {CX:jl} {k:Nat} {f C:Addr} {fd:FuncData} {ps:List Str} {sp:bU} {dvs:List V} {ds:List Value} {E:fS} {x m:Str} {p pos fs:Pos} {e o:Expr} {a3:List Expr} {a_:TE} {t:fE}
theorem IE (aQ:lS X x) (hm:X.mg x=some (.ref C)) (c:Kk X.K C m f) (F:cH X.prog X.w X.K X.mg X.base CX k f fd ps sp) (ao:ec k X.A) (aa:b5 X.K fd ps ds) (hd:b8 dvs ds) (ah:o7 CX X E) (aS:jN X (e :: a3) t)
  (mE:(x == ("__debug__" : Str))=false:=by decide) (d0:starEach (e :: a3) X.env=(false,eval e X.env) :: starEach a3 X.env:=by rfl) (cR:(backTo pos (starEach a3 X.env)).any (·.1)=false:=by rfl)
  (cq:eval (.Call (.Attribute (.Name x p) m fs) (e :: a3) [] pos) X.env=(do
   let ht <- eval (.Name x p) X.env
   standAt fs.atName
   let (f,first) <- holding [ht] (getMethod ht m pl)
   callWith pos f first (backTo pos (starEach (e :: a3) X.env)) (backToKw pos (keywordEach [] X.env))):=by rfl) :
  bq X (.Call (.Attribute (.Name x p) m fs) (e :: a3) [] pos) (uY sp dvs E t):=by
 intro ae s σ H Q J h;refine CG (pl:=pl) (y4 J aQ hm ?_ mE) cq;refine PySem.W.method_cls J.iV c.ga (PySem.W.cls_value J.iV c.kk c.fd rfl ?_);have a5:=J.tok (s.toks + 1);refine EY (first:=[]) (h₀:=X.base) J.ok.mod.sN c.bN (bC (aS pos ae _ σ H _ a5 h) fun us s2 ⟨vs,aw,bR,r,dM⟩=>⟨bR.iV,?_⟩) d0 cR;exact wR F ao aa hd ah bR r dM
variable {nu:Addr->Prop} {nD:Addr->bU}
theorem AX (he:bq X o a_) (V:oK X.prog X.w X.K X.mg X.base CX k nu m ps nD) (ao:ec k X.A) (ah:o7 CX X E)
  (cq:eval (.Call (.Attribute o m fs) [] [] pos) X.env=(do
   let ht <- eval o X.env
   standAt fs.atName
   let (f,first) <- holding [ht] (getMethod ht m pl)
   callWith pos f first (backTo pos (starEach [] X.env)) (backToKw pos (keywordEach [] X.env))):=by rfl) :
  bq X (.Call (.Attribute o m fs) [] [] pos) (MJ nu m nD E a_ w9):=by
 intro ae s σ H Q J h;refine CG (pl:=pl) (bC (he ae s σ H _ J h) fun u s1 bw=>?_) cq;obtain ⟨x,H1,a5,bj,a,C,aq,aN,ex,h6,ok,l,q⟩:=bw;subst ex;obtain rfl:u=fC a:=bj;obtain ⟨f,fd,c,hm,F,aa⟩:=V.ok C ok;refine D3 a5 h6 c hm l ?_;exact Vb (first:=[.ref a]) a5.iV hm.bN (wR (us:=[.ref a]) (vs:=[.ref a]) (dvs:=[]) F ao aa .nil ah a5 (.cons rfl .nil) q)
end
section
variable {X:a7} {x:Str} {p pos:Pos} {i:Expr} {ty:TE} {u:Value} {kvs:List (Str × V)}
end
theorem fV:∀ {aN:List (Str × V)} (b9:List Str),aN.map (·.1)=b9->b9.contains f=false->cZ f v aN=aN ++ [(f,v)]
 | [],_,_,_=>rfl
 | (g,y) :: r,b9,e,h=>by
  cases e;rw [er,LH] at h;have af:=(s7.mp h);have cj:¬ g=f:=fun z=>by
   have:=af.1;rw [z] at this;simp at this
  show (if g=f then _ else _)=_;rw [if_neg cj,fV _ rfl af.2];rfl
theorem gF {aN:List (Str × V)} (h:aN.length < n):(cZ f v aN).length < n + 1:=gW (I6 f v aN) (by omega)
theorem f':∀ {aN:List (Str × V)} (b9:List Str) (i:Nat),aN.map (·.1)=b9->b9.findIdx? (· == f)=some i->aN[i]? = some (f,v)->aN.lookup f=some v
 | [],_,_,_,_,h=>by simp at h
 | (g,y) :: r,b9,i,e,h,aI=>by
  cases e;rw [er,List.findIdx?_cons] at h;rw [oW];by_cases e:g=f
  .subst e;rw [beq_self_eq_true,if_pos rfl] at h;cases h;have:(g,y)=(g,v):=by simpa using aI
   cases this;rw [beq_self_eq_true]
  .rw [beq_eq_false_iff_ne.mpr e,if_neg (by decide)] at h;obtain ⟨j,aJ,rfl⟩:=vr.mp h;rw [beq_eq_false_iff_ne.mpr (fun z=>e z.symm)];exact f' _ j rfl aJ (by simpa using aI)
theorem wu:∀ {aN:List (Str × V)} (b9:List Str),aN.map (·.1)=b9->b9.contains f=false->aN.lookup f=none
 | [],_,_,_=>rfl
 | (g,y) :: r,b9,e,h=>by
  cases e;rw [er,LH] at h;have af:=(s7.mp h);rw [oW,af.1];exact wu _ rfl af.2
theorem Inv.Ny {X:a7} {ae:List (Addr × Obj)} {σ:St} {H:ar} {s:Shared} {h':Heap} {t':Nat} {bB:List Addr} (J:Inv X ae σ H s) (k:∀ b o,b ∉ bB->s.heap.get? b=some o->h'.get? b=some o)
  (hf:∀ b ∈ bB,jr X ae H b):Inv X ae σ H { s with heap:=h',toks:=t' }:=by
 have w6:∀ b u,H b=some u->b ∉ bB:=fun b u e z=>by rw [(hf b z).1] at e;cases e
 refine J.step (g':=s.gens) (d':=s.drawn) (ch:=bB) (fun b aa=>?_) (fun b o _ _ ay e _=>k b o ay e) (fun b o _ _ ay e _=>⟨o.slots,k b o ay e⟩) (fun _ _ _ _ n=>n)
  (fun b o ay e=>⟨o,k b o ay e⟩) (fun _ _ e=>e) (fun _ _ _ e=>e) (fun b ps e=>⟨#[],by rw [e];simp⟩) (fun m hm=>?_) (fun b u e=>?_) J.bare
 .obtain ⟨f0,f1,f2,eh,f4,eI⟩:=hf b aa;exact ⟨eh,f1,f4,eI⟩
 .obtain ⟨o,a3,cG,aY,r⟩:=hm;exact ⟨o,a3,cG,k _ o (fun z=>(hf _ z).2.1 rfl) aY,r⟩
 .refine (J.bl b u e).kU (fun c v ay q=>k c v ?_ q) (fun _ q=>q) fun _ _ q=>q
  rcases ay with z | z
  .rw [z];exact w6 b u e
  .exact w6 c _ z
noncomputable def Ak (K:ba) (a:Addr):ji:=
 ⟨fun i H=>∃ xs x,aC K H a xs/\xs[i]? = some x,fun i H v I=>∃ p y,H p=none/\v=.ref p/\(∀ xs,aC K H a xs->xs[i]? = some y)/\I=upd H p (.tup [.int i,y]),fun i H=>∃ xs,aC K H a xs/\xs.length <= i⟩
theorem ab8 {P:Program} {w:World} {K:ba} {a3:List Expr} {k} {pos:Pos} (a e it:Addr) (cj:e ≠ it) :
  p8 P w K (.Tuple a3 k pos) (Ak K a) [e,it] e (fun i h=>∃ old,IsEnum h e it ((i:Nat):Int) old/\h.IsListIter it a i) where
 mem:=by simp
 obj:=fun i h ⟨old,he,ag⟩ b aa=>by
  simp only [eJ,qw,or_false] at aa;rcases aa with rfl | rfl
  .exact ⟨_,he,fun v z=>by
    have ik:agb _=Data.cell v:=z;cases ik⟩
  .obtain ⟨o,q,c,d⟩:=ag;exact ⟨o,q,fun v z=>by rw [d] at z;cases z⟩
 keep:=fun i h h' ⟨old,he,ag⟩ k=>⟨old,k e (by simp) _ he,ag.at fun o q=>k it (by simp) o q⟩
 item:=by
  intro X cJ hw fR ay i ae s σ H E J hf ⟨old,he,ag⟩ aQ;subst cJ hw fR;obtain ⟨xs,x,a0,ah⟩:=aQ;obtain ⟨a',cT,p,aT⟩:=J.list a0;obtain ⟨u,bx,fw⟩:=cT.get ah;refine wpAny_pyNext_enum_item he ag p.isList (x:=u) (by simpa using bx) cj fun af Xy aeW aa8 JE vf=>⟨_,rfl,?_⟩
  refine wpAny_letOwnedTupleGo_enum Xy fun ak afM la=>?_
  replace la:vb e af ak:=la;have Nd:e < s.heap.objs.size:=es he;have az:∀ b o,b ∉ [e,it]->s.heap.get? b=some o->ak.get? b=some o:=fun b o aa q=>by
   simp only [eJ,qw,or_false,not_or] at aa;exact la.extBut _ _ aa.1 (vf b o aa.1 aa.2 q)
  have a5:Inv X ae σ H { s with heap:=ak,toks:=s.toks + 1 }:=J.Ny az hf;have hN:jr X ae H s.heap.objs.size:=J.oX (cn _) (J.bl.fresh (cn _));have adA:ak.get? s.heap.objs.size=some { cls:=.type "tuple",data:=.seq #[.int i s.toks,u] }:=(la.2 _ (KX Nd)).trans aa8;have bR:=a5.adopt (o:=.tup [.int i,x]) hN ⟨by show 2 <= sizeLine;decide,[.int i s.toks,u],.cons ⟨_,rfl⟩ (.cons fw .nil),⟨_,adA,rfl,_,rfl⟩⟩;refine ⟨.ref s.heap.objs.size,_,bR,rfl,⟨_,x,hN.1,rfl,fun ys bg=>by rw [J.Aj bg a0];exact ah,rfl⟩,⟨u,?_,?_⟩,fun b aa=>?_⟩
  .have au:((i + 1:Nat):Int)=(i:Int) + 1:=by omega
   rw [au];exact afM
  .exact aeW.extBut la.extBut (dW cj)
  .have dG:b < s.heap.objs.size:=by
    simp only [eJ,qw,or_false] at aa;rcases aa with rfl | rfl
    .exact Nd
    .obtain ⟨o,q,_⟩:=ag;exact es q
   rw [aE (gv dG)];exact (hf b aa).1
 done:=by
  intro X cJ hw fR ay i ae s σ H E J hf ⟨old,he,ag⟩ aQ;subst cJ hw fR;obtain ⟨xs,a0,ah⟩:=aQ;obtain ⟨a',cT,p,aT⟩:=J.list a0;have aL:=cT.length;exact wpAny_pyNext_enum_end (J.ok.hd ay) he ag p.isList (by simp;omega) fun h' fl=>⟨rfl,J.Ny (t':=s.toks) (fun b o aa q=>fl b o (fun z=>aa (by simp [z])) q) hf⟩
 self:=fun _ _ _ _ _ ⟨_,he,_⟩ h=>wpAny_pyIter_enum he h
theorem agA:bootBuiltins "enumerate"=some (.type "enumerate"):=by ac_nf
noncomputable def Xp (K:ba) (a b:Addr):ji:=
  ⟨fun i H=>∃ xs ys x y,aC K H a xs/\aC K H b ys/\xs[i]? = some x/\ys[i]? = some y,
   fun i H v I=>∃ p x y,H p=none/\v=.ref p/\(∀ xs,aC K H a xs->xs[i]? = some x)/\(∀ ys,aC K H b ys->ys[i]? = some y)/\I=upd H p (.tup [x,y]),
   fun i H=>∃ xs ys,aC K H a xs/\aC K H b ys/\(xs.length <= i\/ys.length <= i)⟩
section
variable {X:a7}
noncomputable def GM (K:ba) (a_:fE):TI:=fun σ H R=>a_ σ H fun vs H1=>∃ a,vs=[.ref a]/\(∃ xs,aC K H1 a xs)/\R (Ak K a) H1
theorem zg {k} {p pos:Pos} (aQ:lS X "enumerate") (hm:X.mg "enumerate"=none) (aS:jN X [a] a_) (av:starEach [a] X.env=[(false,eval a X.env)]:=by rfl) :
  pg X (.Tuple a3 k xH) (.Call (.Name "enumerate" p) [a] [] pos) (GM X.K a_):=by
 intro ae s σ H R J h;refine Call_ (vK J aQ hm agA (K6 (bC (aS pos ae s σ H _ J h) fun us s1 bw=>?_) av rfl));obtain ⟨vs,H1,a5,cQ,bG⟩:=bw;obtain ⟨a,e,⟨xs,a0⟩,q⟩:=bG;subst e;cases cQ with
 | cons r ru=>
  cases ru;cases r;obtain ⟨a',cT,pl,aT⟩:=a5.list a0;refine call_enumerate_list pl.isList fun h' Mo GG hsz az=>wpAny_pyIter_enum Mo ?_
  refine ⟨s1.heap.objs.size + 1,[s1.heap.objs.size + 1,s1.heap.objs.size],_,_,H1,rfl,a5.kept (t':=s1.toks) az,ab8 a _ _ (Nat.succ_ne_self _),⟨_,Mo,GG⟩,fun b aa=>?_,q⟩;have fY:s1.heap.objs.size <= b:=by
   simp only [eJ,qw,or_false] at aa;rcases aa with rfl | rfl
   .exact E6 _
   .exact cn _
  exact a5.oX fY (a5.bl.fresh fY)
end
theorem l_ {k:Nat} {t:ri} {K:ba} (fR:X.K=K) (ay:X.calm=true) (h:wC X a3 t)
  (a4:(assignEach a3 X.env).length=n:=by rfl) (d0:(assignEach a3 X.env).findIdx? (·.1)=none:=by rfl):mZ X (.Tuple a3 k pos) (sP K n t):=by
 subst fR;exact ahq ay h a4 d0
section
variable {X:a7}
noncomputable def Fi:V->List V->ar->cX->Prop:=fun x vs H Q=>∃ l xs i y,x=.ref l/\vs=[.int i,y]/\H l=some (.lst xs)/\0 <= i/\i < 2 ^ 62/\i <= (xs.length:Int)/\xs.length < sizeLine/\Q .b6 (upd H l (.lst (xs.take i.toNat ++ y :: xs.drop i.toNat)))
theorem CO:E4 X "list.insert" Fi:=by
 intro ae s σ H x vs v us Q J bj cT h;obtain ⟨l,xs,i,y,rfl,rfl,ks,h0,af,ak,aT,q⟩:=h;cases bj;cases cT with
 | cons r3 Xd=>
  cases Xd with
  | @cons _ w _ _ hh rc=>
   cases rc;obtain ⟨t,rfl⟩:=r3;obtain ⟨z,a',n,r,aL,e⟩:=J.xG ks;refine call_meets JG ⟨_,e,rfl⟩ F.entry_list_insert (F.args_list_insert_3 _ _ _) (AutoListH.list_insert_list_int_val_1 l a'.toArray n i t w (by rw [fitsIndex_both (k:=i) (by omega) (by omega)];decide) (by rw [gQ];omega)) ⟨e,?_⟩;refine ⟨.b6,_,J.Fo (its':=a'.take i.toNat ++ w :: a'.drop i.toNat) ks e ?_ ((r.take i.toNat).append (.cons hh (r.drop i.toNat))) ?_,rfl,q⟩
   .have az:(if i < 0 then (i + ((a'.toArray.size:Nat):Int)).toNat else min i.toNat a'.toArray.size)=i.toNat:=by
     rw [if_neg (by omega),gQ];omega
    show (a'.toArray.extract 0 (if i < 0 then (i + ((a'.toArray.size:Nat):Int)).toNat else min i.toNat a'.toArray.size)).push w ++ a'.toArray.extract (if i < 0 then (i + ((a'.toArray.size:Nat):Int)).toNat else min i.toNat a'.toArray.size)=_;rw [az];apply NY.mp;simp;exact QK (by rw [sm];exact cn _)
   .rw [dY,iu,gD,sm];omega
end
inductive mX (K:ba) (H:ar):Nat->V->V->Bool->Prop
 | flat {k:Nat} {x y:V} (ah:lG x=true) (bg:lG y=true):mX K H k x y (kP x y)
 | lst {k:Nat} {p q:Addr} {xs ys:List V} {e:Nat->Bool} (ax:aC K H p xs) (a0:aC K H q ys) (aL:xs.length=ys.length) (he:∀ (j:Nat) (x y:V),xs[j]? = some x->ys[j]? = some y->mX K H k x y (e j)):mX K H (k + 1) (.ref p) (.ref q) ((gx xs.length).all e)
 | Cb {k:Nat} {p q:Addr} {xs ys:List V} (ax:aC K H p xs) (a0:aC K H q ys) (aL:xs.length ≠ ys.length):mX K H (k + 1) (.ref p) (.ref q) false
 | tup {k:Nat} {p q:Addr} {xs ys:List V} {e:Nat->Bool} (ax:di K H p xs) (a0:di K H q ys) (he:∀ (j:Nat) (x y:V),xs[j]? = some x->ys[j]? = some y->mX K H k x y (e j)):mX K H (k + 1) (.ref p) (.ref q) ((gx (min xs.length ys.length)).all e && xs.length == ys.length)
theorem Tp {x:V} (h:lG x=true):kP x x=true:=by
 cases x <;> first | rfl | (simp [kP];done) | cases h
theorem J1 {e:Nat->Bool} (h:∀ j,j < n->e j=true):(gx n).all e=true:=by
 rw [oT];exact fun j aJ=>h j (qg.mp aJ)
section
variable {X:a7} {ae:List (Addr × Obj)} {σ:St} {H:ar} {s:Shared}
theorem mX.self (J:Inv X ae σ H s) {k:Nat} {x y:V} (h:mX X.K H k x y b) (e:x=y):b=true:=by
 induction h with
 | flat ah bg=>subst e;exact Tp ah
 | @lst k p q xs ys f ax a0 aL he b4=>
  injection e with e;subst e;have:=J.Aj ax a0;subst this;refine J1 fun j aJ=>?_
  exact b4 j xs[j] xs[j] (bo aJ) (bo aJ) rfl
 | Cb ax a0 aL=>
  injection e with e;subst e;have:=J.Aj ax a0;subst this;exact absurd rfl aL
 | @tup k p q xs ys f ax a0 he b4=>
  injection e with e;subst e;have:=J.N6 ax a0;subst this;rw [hX];refine ⟨J1 fun j aJ=>?_,by simp⟩;have h3:j < xs.length:=by omega
  exact b4 j xs[j] xs[j] (bo h3) (bo h3) rfl
end
section
variable {X:a7}
end
theorem mX.mono {K:ba} {j k:Nat} {x y:V} (h:mX K H j x y b):j <= k->mX K H k x y b:=by
 induction h generalizing k with
 | flat ah bg=>exact fun _=>.flat ah bg
 | lst ax a0 aL he b4=>
  intro az;obtain ⟨m,rfl⟩:∃ m,k=m + 1:=⟨k - 1,by omega⟩;exact .lst ax a0 aL fun j x y af ak=>b4 j x y af ak (by omega)
 | Cb ax a0 aL=>
  intro az;obtain ⟨m,rfl⟩:∃ m,k=m + 1:=⟨k - 1,by omega⟩;exact .Cb ax a0 aL
 | tup ax a0 he b4=>
  intro az;obtain ⟨m,rfl⟩:∃ m,k=m + 1:=⟨k - 1,by omega⟩;exact .tup ax a0 fun j x y af ak=>b4 j x y af ak (by omega)
end L2
namespace L2
open PySem PySem.Spec PyProof.Rows PySem.Builtin PySem.Builtin.ObjectAttr
noncomputable abbrev Q2:List Value:=[.type "ValueError",.type "Exception",.type "BaseException",.type "object"]
noncomputable def J5 (K:ba) (C rh:Addr):Bool:=
 match K.lookup C with
 | some ⟨.type "type",_,.cls cd,bS⟩=>
  match cd.mro,bS.toList with
  | .ref D :: cB,[_,_,_,_,some (.builtin n),_]=>
   (D == C) && (n == "ValueError.__new__") && (cd.hasDel == false) && (cd.hasDict == true) && PySem.W.tailIn K Q2 cB && PySem.W.nsOkIn K cd.ns && (PySem.W.nsIn K cd.ns "__init__" == some (some (.ref rh)))
  | _,_=>false
 | _=>false
section
variable {P:Program} {w:World} {A:Around} {h:Heap} {g:Array GenState} {d:Drawn} {t:Nat} {os:OsState} {K:ba} {C rh:Addr} {R:Result->Shared->Prop}
end
noncomputable def Gq:List Value->Bool
 | .ref _ :: r=>Gq r
 | l=>l == Q2
structure Tz (K:ba) (C:Addr):Prop where
 hd:B4 K C=true
 ht:((aak K C).any fun cd=>Gq cd.mro)=true
 aX:dp K (.ref C) "__setattr__"=some (some (.builtin "object.__setattr__"))
 ga:dp K (.ref C) "__getattribute__"=some (some (.builtin "BaseException.__getattribute__"))
 gt:dp K (.ref C) "__getattr__"=some none
 ex:∃ rh,J5 K C rh=true
noncomputable def tn (x C:Addr) (dn:Option Addr):Heap->Prop:=fun h=>∃ vs bS,h.get? x=some ⟨.ref C,dn,.fields vs,bS⟩/\1 < vs.size/\vs[1]? = some .none
noncomputable def sb (aq:Addr) (aN:List (Str × V)):Heap->Prop:=fun h=>∃ dR,h.Ns1 aq dR/\(∀ f,hF (aN.lookup f) (dR f))/\Gn dR (aN.map (·.1))
theorem tn.at {x C:Addr} {h h':Heap} (z:tn x C dn h) (k:∀ o,h.get? x=some o->h'.get? x=some o):tn x C dn h':=let ⟨vs,bS,e,r⟩:=z;⟨vs,bS,k _ e,r⟩
theorem sb.at {aN:List (Str × V)} {h h':Heap} (z:sb aq aN h) (k:∀ o,h.get? aq=some o->h'.get? aq=some o):sb aq aN h':=let ⟨dR,e,r⟩:=z;⟨dR,e.at k,r⟩
theorem tn.ok {w:World} {h:Heap} {x C:Addr} (z:tn x C dn h):ed P w H h x (.ext (tn x C dn)):=by
 obtain ⟨vs,bS,e,r⟩:=id z;exact ⟨z,⟨_,e⟩,fun af ak q k=>q.at k⟩
theorem sb.ok {w:World} {h:Heap} {aN:List (Str × V)} (z:sb aq aN h):ed P w H h aq (.ext (sb aq aN)):=by
 obtain ⟨dR,⟨o,a3,cG,e,_⟩,_⟩:=id z;exact ⟨z,⟨_,e⟩,fun af ak q k=>q.at k⟩
section
variable {prog:Program} {w:World} {A:Around} {E:Value->Shared->Prop} {K:ba} {C x:Addr} {s:Shared} {R:Result->Shared->Prop}
end
section
variable {X:a7} {ae:List (Addr × Obj)} {σ:St} {H:ar} {s:Shared} {x C aq:Addr} {aN:List (Str × V)} {f:Str} {y:V} {u:Value} {A:Around} {E:Value->Shared->Prop} {Q:Unit->Shared->Prop}
noncomputable def nO (x C:Addr) (dn:Option Addr):Heap->Prop:=fun h=>∃ vs bS,h.get? x=some ⟨.ref C,dn,.fields vs,bS⟩
theorem nO.at {x C:Addr} {h h':Heap} (z:nO x C dn h) (k:∀ o,h.get? x=some o->h'.get? x=some o):nO x C dn h':=let ⟨vs,bS,e⟩:=z;⟨vs,bS,k _ e⟩
theorem nO.ok {w:World} {h:Heap} {x C:Addr} (z:nO x C dn h):ed P w H h x (.ext (nO x C dn)):=by
 obtain ⟨vs,bS,e⟩:=id z;exact ⟨z,⟨_,e⟩,fun af ak q k=>q.at k⟩
end
noncomputable abbrev afu:=St->ar->(ar->Prop)->Prop
section
variable {X:a7} {e:Expr} {a3:List Expr} {n:Nat} {t:afu} {bL:TE} {pos:Pos}
end
structure akC (K:ba) (L:Addr) (m:Str):Prop where
 kk:Vy K L (.type "type")=true
 fd:aaF K (.ref L) (.type "type") m=some (.val (.builtin "ValueError.__init__"))
 ga:sf K (.ref L) "__getattribute__"=some (some (.builtin "type.__getattribute__"))
section
variable {X:a7} {L:Addr} {x:Str} {p pos fs:Pos} {e:Expr} {a3:List Expr} {t:fE}
end
structure akX (K:ba) (C rh:Addr):Prop where
 e:J5 K C rh=true
 fn:U4 K (.ref rh)=some (.type "function")
 bN:qV K (.ref C)=true
section
variable {X:a7} {k:Nat} {f C:Addr} {fd:FuncData} {ps:List Str} {sp:bU} {x g:Str} {p pos pos' fs:Pos} {e o value:Expr} {a3:List Expr} {a_ fK:TE} {t:fE}
end
def uS (x C:Addr) (dn:Option Addr) (T:Addr) (d3:Value) (h:Heap):Prop:=
 T ≠ x/\∃ vs bS y9 sX,h.get? x=some ⟨.ref C,dn,.fields vs,bS⟩/\vs[1]? = some (.ref T)/\h.get? T=some y9/\y9.data=.fields sX/\sX[3]? = some d3
structure xA (aN:List Addr) (x:Addr) (q9:Option Addr) (h h':Heap):Prop where
 keep:∀ b o,h.get? b=some o->b ∉ aN->b ≠ x->some b ≠ q9->h'.get? b=some o
 slot:∀ b o,h.get? b=some o->b ∈ aN->∃ bS,h'.get? b=some { o with slots:=bS }
 there:∀ b o,h.get? b=some o->∃ dZ,h'.get? b=some dZ
section
variable {M:Model} {A:Around} {E:Value->Shared->Prop} {s:Shared}
theorem Qv {base h:Heap} (aL:h.FunFrames base l) (e:h.get? b=some o) (d:o.data=.fields vs):b ∉ lu l:=fun hm=>by
 obtain ⟨_,dZ,bT,hK⟩:=aL.mem hm;rw [e] at bT;cases bT;exact hK vs d
end
section
variable {P:Program} {w:World} {H:ar} {h h':Heap} {aN:List Addr} {x C T:Addr} {dn:Option Addr} {d3:Value} {q9:Option Addr} {o:gj}
theorem xA.bl (k:xA aN x q9 h h') (ok:et P w H h) (tD:∀ b ∈ aN,H b=none) (hQ:∀ t,q9=some t->H t=none) (f6:n4 (H x)) (new:nO x C dn h'):et P w (upd H x (.ext (nO x C dn))) h':=fun b u q=>by
 have vQ:∀ c y,H c=some (.own y)->c ≠ x:=fun c y r z=>by subst z;rw [r] at f6;exact f6
 have H0:∀ c xs,H c=some (.tup xs)->c ≠ x:=fun c xs r z=>by subst z;rw [r] at f6;exact f6
 have fI:∀ c v,c ≠ x->H c ≠ none->h.get? c=some v->h'.get? c=some v:=fun c v cp cO r=>k.keep c v r (fun z=>cO (tD c z)) cp fun z=>cO (hQ c z.symm)
 by_cases aa:b=x
 .subst aa;rw [aV] at q;cases q;exact new.ok
 .rw [aE aa] at q;refine (ok b u q).kU (fun c v ay r=>?_) (fun c r=>by rw [aE (vQ c b r)];exact r) fun c xs r=>by rw [aE (H0 c xs r)];exact r
  rcases ay with rfl | ay
  .exact fI c v aa (by rw [q];exact fun z=>by cases z) r
  .exact fI c v (vQ c b ay) (by rw [ay];exact fun z=>by cases z) r
theorem xA.un (k:xA aN x q9 h h') (hQ:∀ t,q9=some t->H t=none) (f6:n4 (H x)):eY aN q9.toList H (upd H x o) h h':=by
 have ah:∀ b,H b=none->b ≠ x:=fun b n z=>by subst z;rw [n] at f6;exact f6
 have hm:∀ b u,H b=some u->¬ n4 (some u)->b ≠ x:=fun b u q nm z=>by subst z;rw [q] at f6;exact nm f6
 refine ⟨fun b u q n cp cO=>k.keep b u q cp (ah b n) fun z=>cO (by rw [<- z];simp),fun b u q n cp cO=>k.slot b u q cp,fun b u q n _=>by rw [aE (ah b n)];exact n,fun b u q _=>k.there b u q,
  fun b xs q=>by rw [aE (hm b _ q fun z=>z)];exact q,fun b u xs q=>by rw [aE (hm b _ q fun z=>z)];exact q,fun b ps q=>⟨#[],by rw [aE (hm b _ q fun z=>z),q];simp⟩⟩
end
noncomputable def Th (P:Program) (w:World):jl:=fun outer H s E e ai=>
 ∃ x C dn I T,e=.ref x/\ai.os=s.os/\AllBare ai.gens/\eY (lu outer) [] H I s.heap ai.heap/\et P w I ai.heap/\I x=some (.ext (nO x C dn))/\s.heap.objs.size <= T/\I T=none/\uS x C dn T .none ai.heap/\E (.ref C) dn I
structure akR (X:a7):Prop where
 st:X.stack=X.env :: X.outer
 fr:X.env.frame=some X.env.locals
def aew (X:a7) (ae:List (Addr × Obj)) (T:Addr):Prop:=(T ∈ X.ex\/X.fk.heap.objs.size <= T)/\T ≠ X.env.locals/\(∀ x c,X.env.cells.lookup x=some c->c ≠ T)/\∀ p ∈ X.dN ++ ae,p.1 ≠ T
section
variable {X:a7} {ae:List (Addr × Obj)} {σ:St} {H:ar} {s:Shared} {T x C:Addr} {dn:Option Addr} {E:St->fS} {M:Model} {A:Around} {ald:Value->Shared->Prop} {Q:Unit->Shared->Prop} {e d3:Value} {h':Heap}
end
section
variable {P:Program} {w:World} {K:ba} {mg:Str->Option Value} {base:Heap} {N:List Str} {qual:Str} {scope:Scope} {f:Addr} {cd:Value} {A:Around} {outer:List Env} {s:Shared} {H:ar} {E:fS}
end
section
variable {X:a7} {CX:jl} {k:Nat} {f C:Addr} {fd:FuncData} {ps:List Str} {sp:bU} {dvs:List V} {ds:List Value} {E:St->fS} {x m:Str} {p pos fs:Pos} {e o:Expr} {a3:List Expr} {a_:TE} {t:fE}
end
noncomputable abbrev a7.qo (X:a7) (dN:List (Addr × Obj)) (E:Value->Shared->Prop):a7:={ X with dN:=X.dN ++ dN,dK:=E }
noncomputable abbrev a7.a4 (X:a7) (e:Value):a7:={ X with A:=X.A.mark (some e),calm:=false,dK:=fun _ _=>False }
section
variable {X:a7} {ae Ll:List (Addr × Obj)} {σ:St} {H:ar} {s:Shared} {E:Value->Shared->Prop} {e:Value}
theorem a7.Ok.qo (ok:X.Ok) (dN:List (Addr × Obj)) (E:Value->Shared->Prop):(X.qo dN E).Ok:=
 ⟨ok.mod,ok.kind,ok.glob,ok.blt,ok.above,ok.inj,ok.has,ok.p1,ok.hd,ok.frames,ok.q4,ok.wO,ok.bs,ok.jW,ok.pT,ok.pA,ok.jJ,ok.mS⟩
theorem a7.Ok.a4 (ok:X.Ok) (e:Value):(X.a4 e).Ok:=
 ⟨ok.mod,ok.kind,ok.glob,ok.blt,ok.above,ok.inj,ok.has,ok.p1,(fun z=>Bool.noConfusion z),ok.frames,ok.q4,ok.wO,ok.bs,ok.jW,ok.pT,ok.pA,ok.jJ,ok.mS⟩
theorem Inv.qo (J:Inv X ae σ H s) (E:Value->Shared->Prop):Inv (X.qo ae E) [] σ H s:=⟨J.ok.qo ae E,J.os,J.bare,J.base,J.loc,J.cell,J.free,J.i4,fun p ax=>J.pin p (by simpa using ax),J.bl,J.len⟩
theorem Inv.a4 (J:Inv X ae σ H s) (e:Value):Inv (X.a4 e) ae σ H s:=⟨J.ok.a4 e,J.os,J.bare,J.base,J.loc,J.cell,J.free,J.i4,J.pin,J.bl,J.len⟩
end
noncomputable def g8.gone (D:g8) (i:Nat):g8:={ cf:=fun σ H=>D.cf (σ.set i none) H,kK:=D.kK,cw:=fun σ H=>D.cw (σ.set i none) H,ez:=fun σ H=>D.ez (σ.set i none) H }
section
variable {X:a7} {body alx:List Stmt} {ajn:Stmt} {x n:Str} {c:Addr} {i:Nat} {bP:(St->fS)->d6} {wx:d6} {ajz ax pos:Pos}
end
theorem Ln (D:g8) (i:Nat) (σ:St) (H:ar):(D.gone i).cf σ H=D.cf (σ.set i none) H:=rfl
theorem QX (D:g8) (i:Nat) (v:V) (H:ar):(D.gone i).kK v H=D.kK v H:=rfl
theorem OwnTail.has {h:Heap} {bm cB:List Value} (T:OwnTail h bm cB) (e:bm.contains v=true):cB.contains v=true:=by
 induction T with
 | base=>exact e
 | own _ _ _ _ b4=>rw [LH,b4,LD]
section
variable {X:a7} {e:Expr} {bL:TE} {pos:Pos} {E:St->fS}
theorem hy.kT {st:Stmt} {t:d6} (h:hy X.kT st t):hy X st t:=fun ae s σ H D J hw=>
 wpAny_mono (h ae s σ H D (J.ih _) hw) (fun _ _ q=>q.mU) fun _ _ z=>iz z
end
def t7 (B:a7) (E:fS) (e:Value) (ai:Shared):Prop:=
 ∃ ae d3 aB I x C dn T,e=.ref x/\Inv B ae aB I ai/\I x=some (.ext (nO x C dn))/\I T=none/\aew B ae T/\B.fk.heap.objs.size <= T/\uS x C dn T d3 ai.heap/\E (.ref C) dn I
structure RI (X:a7) (scope:Scope) (N:List Str) (da elt:Expr) (ifs:List Expr) (g:gw) (dj:TT) (bL:fS->TE):Prop where
 LU:∀ E C s H bB,mZ ((X.block scope C N s H bB).ih (t7 (X.block scope C N s H bB) E)) da g
 tests:∀ E C s H bB,sj ((X.block scope C N s H bB).ih (t7 (X.block scope C N s H bB) E)) ifs dj
 elem:∀ E C s H bB,bq ((X.block scope C N s H bB).ih (t7 (X.block scope C N s H bB) E)) elt (bL E)
theorem RI.of {N:List Str} (af:∀ E C s H bB,mZ ((X.block scope C N s H bB).ih (t7 (X.block scope C N s H bB) E)) da g)
  (ak:∀ E C s H bB,∃ t,sj ((X.block scope C N s H bB).ih (t7 (X.block scope C N s H bB) E)) ifs t/\t=dj) (a9:∀ E C s H bB,∃ t,bq ((X.block scope C N s H bB).ih (t7 (X.block scope C N s H bB) E)) elt t/\t=bL E):RI X scope N da elt ifs g dj bL:=
 ⟨af,fun E C s H bB=>by obtain ⟨t,h,rfl⟩:=ak E C s H bB;exact h,fun E C s H bB=>by obtain ⟨t,h,e⟩:=a9 E C s H bB;rw [<- e];exact h⟩
section
variable {X:a7} {elt da iter:Expr} {ifs:List Expr} {scope:Scope} {pos:Pos} {hk:TI} {g:gw} {dj:TT} {bL:fS->TE} {N:List Str} {sel:List (Option Nat)}
theorem uS.but {x C T c:Addr} {h h':Heap} (z:uS x C dn T d3 h) (cp:x ≠ c) (cO:T ≠ c) (k:∀ b,b ≠ c->h'.get? b=h.get? b):uS x C dn T d3 h':=by
 obtain ⟨ne,vs,bS,y9,sX,he,af,hQ,hd,a9⟩:=z;exact ⟨ne,vs,bS,y9,sX,(k _ cp).trans he,af,(k _ cO).trans hQ,hd,a9⟩
end
structure JN (K:ba) (C:Addr):Prop where
 cl:gX K C
 aS:dp K (.ref C) "__class__"=some (some (.builtin "object.__class__"))
 a4:sf K (.builtin "object.__class__") "__get__"=some (some (.builtin "getset_descriptor.__get__"))
 z_:CR K (.builtin "object.__class__")=some true
 hm:Du K C (.type "object")=some true
theorem JN.ty {K:ba} {aN:List (Str × V)} (c:JN K C) (e:H a=some (.ins C aq aN)):l3 K H (.ref a) (.ref C):=.ins e c.cl c.aS c.a4 c.z_ c.hm
end L2
namespace L2
open PySem PySem.Spec PyProof.Rows
section
variable {X:a7} {da:Expr}
end
section
variable {prog:Program} {w:World} {A:Around} {E:Value->Shared->Prop} {s:Shared} {it l:Addr} {items:Array Value}
end
section
variable {X:a7}
end
section
variable {prog:Program} {w:World} {A:Around} {R:Result->Shared->Prop} {J:Addr} {bB wr:List Addr} {n:Nat} {P:Nat->Value->Prop} {St:Nat->Heap->Prop}
end
section
variable {prog:Program} {w:World} {A:Around} {E:Value->Shared->Prop} {s:Shared}
end
section
variable {X:a7}
end
structure ajf (K:ba) (C:Addr):Prop where
 x:Tz K C
 aS:dp K (.ref C) "__class__"=some (some (.builtin "object.__class__"))
 a4:sf K (.builtin "object.__class__") "__get__"=some (some (.builtin "getset_descriptor.__get__"))
 z_:CR K (.builtin "object.__class__")=some true
 hm:Du K C (.type "object")=some true
section
variable {prog:Program} {w:World} {A:Around} {E:Value->Shared->Prop} {s:Shared} {K:ba} {x C:Addr} {dn:Obj} {aq:Addr} {vs:Array Value} {bS:Array (Option Value)}
end
section
variable {X:a7}
end
theorem cH.quiet {w:World} {K:ba} {mg:Str->Option Value} {base:Heap} {k:Nat} {fd:FuncData} (F:cH P w K mg base (Th P w) k f fd ps sp)
  (h:∀ vs H Q E,u5 vs H Q E->sp vs H Q (fun _ _ _=>False)):cH P w K mg base dC k f fd ps u5:=by
 refine ⟨fun vs H Q E q=>F.len vs H _ _ (h vs H Q E q),fun A outer s H args us vs Q E ao he aa aI av=>?_⟩;refine codeAny_mono (F.run A outer s H args us vs Q _ ao he aa aI (h vs H Q E av)) fun r ai a0=>?_
 cases r with
 | error e=>
  obtain ⟨x,C,dn,I,T,_,_,_,_,_,_,_,_,_,z⟩:=a0;exact z.elim
 | ok d3=>cases d3 <;> exact a0
structure lK (k:Nat) (A:Around):Prop where
 g0:A.depth + 3 * k + 5 < recursionLimit
 un:A.units + 16 * k + 200 < cLine
theorem ec.h {k:Nat} {A:Around} (r:ec k A):lK k A:=⟨r.g0,r.un⟩
theorem lK.mono {j k:Nat} {A:Around} (r:lK k A) (h:j <= k):lK j A:=⟨by have:=r.g0;omega,by have:=r.un;omega⟩
theorem lK.deeper {k:Nat} {A:Around} (r:lK (k + 1) A) (env:Env):lK k (A.deeper env):=
 ⟨by have:=r.g0;show A.depth + 1 + 3 * k + 5 < _;omega,by have:=r.un;show A.units + 3 + 16 * k + 200 < _;omega⟩
theorem lK.depth {k:Nat} {A:Around} (r:lK k A):A.depth < recursionLimit:=by have:=r.g0;omega
theorem lK.units {k:Nat} {A:Around} (r:lK k A):A.units + 64 < cLine:=by have:=r.un;omega
theorem ec.a4 {k:Nat} {X:a7} {e:Value} (r:ec k X.A):lK k (X.a4 e).A:=⟨r.g0,r.un⟩
structure JH (P:Program) (w:World) (K:ba) (mg:Str->Option Value) (base:Heap) (CX:jl) (k:Nat) (f:Addr) (fd:FuncData) (ps:List Str) (sp:bU):Prop where
 len:∀ vs H Q E,sp vs H Q E->vs.length=ps.length
 run:∀ (A:Around) (outer:List Env) (s:Shared) (H:ar) (args:Args) (us:List Value) (vs:List V) (Q:cX) (E:fS),lK k A->mM P w K mg base A outer s H->BindsTo s fd args (ps.zip us)->b8 vs us->sp vs H Q E ->
  codeAny (model P w) A (.call (.ref f) args) (DW CX outer P w H s Q E) s
theorem JH.mono {w:World} {K:ba} {mg:Str->Option Value} {base:Heap} {j k:Nat} {fd:FuncData} (F:JH P w K mg base CX j f fd ps sp) (h:j <= k) :
  JH P w K mg base CX k f fd ps sp:=⟨F.len,fun A outer s H args us vs Q E ao=>F.run A outer s H args us vs Q E (ao.mono h)⟩
section
variable {X:a7} {CX:jl} {k:Nat} {f C:Addr} {fd:FuncData} {ps:List Str} {sp:bU} {dvs:List V} {ds:List Value} {E:fS} {x m:Str} {p pos fs:Pos} {e o:Expr} {a3:List Expr} {a_:TE} {t:fE}
end
noncomputable def WK (CX:jl) (P:Program) (w:World) (K:ba) (mg:Str->Option Value) (base:Heap) (N:List Str) (qual:Str) (scope:Scope) (f:Addr) (cd:Value) (A:Around) (outer:List Env) (s:Shared) (H:ar) (E:fS):a7 where
 prog:=P
 w:=w
 K:=K
 mg:=mg
 base:=base
 A:=A.deeper (envOfC qual scope s.heap.objs.size f cd)
 N:=N
 fk:=s
 qm:=H
 env:=envOfC qual scope s.heap.objs.size f cd
 outer:=outer
 stack:=envOfC qual scope s.heap.objs.size f cd :: outer
 ex:=[]
 calm:=false
 fn:=fun _=>true
 dN:=[]
 dK:=fun e ai=>wpAny (model P w) (A.deeper (envOfC qual scope s.heap.objs.size f cd)) (leaving (envOfC qual scope s.heap.objs.size f cd) e) (fun _ rV=>CX outer H s E e rV) (fun bT rV=>CX outer H s E bT rV) ai
section
variable {P:Program} {w:World} {K:ba} {mg:Str->Option Value} {base:Heap}
end
section
variable {X:a7}
end
section
variable {α:Type} {M:List α->Prop}
theorem hJ (h:∀ a,M [a]):∀ us:List α,us.length=1->M us | [a],_=>h a
theorem hb (h:∀ a b,M [a,b]):∀ us:List α,us.length=2->M us | [a,b],_=>h a b
theorem hE (h:∀ a b c,M [a,b,c]):∀ us:List α,us.length=3->M us | [a,b,c],_=>h a b c
theorem agG (h:∀ a b c d e,M [a,b,c,d,e]):∀ us:List α,us.length=5->M us | [a,b,c,d,e],_=>h a b c d e
theorem xS (h:∀ a b c d e f g,M [a,b,c,d,e,f,g]):∀ us:List α,us.length=7->M us | [a,b,c,d,e,f,g],_=>h a b c d e f g
theorem V_ (h:∀ a b c d e f g i,M [a,b,c,d,e,f,g,i]):∀ us:List α,us.length=8->M us | [a,b,c,d,e,f,g,i],_=>h a b c d e f g i
end
structure aj8 (K:ba) (C:Addr):Prop where
 hd:B4 K C=true
 ht:((aak K C).any fun cd=>Gq cd.mro)=true
 aX:dp K (.ref C) "__setattr__"=some (some (.builtin "object.__setattr__"))
 ga:dp K (.ref C) "__getattribute__"=some (some (.builtin "BaseException.__getattribute__"))
 gt:dp K (.ref C) "__getattr__"=some none
structure Hq (K:ba) (C:Addr):Prop where
 aS:dp K (.ref C) "__class__"=some (some (.builtin "object.__class__"))
 a4:sf K (.builtin "object.__class__") "__get__"=some (some (.builtin "getset_descriptor.__get__"))
 z_:CR K (.builtin "object.__class__")=some true
 hm:Du K C (.type "object")=some true
theorem afy {b9:List Int}:∀ {a':List Value},b8 (b9.map V.int) a'->∃ xs:List (Int × Tok),a'=xs.map (fun p=>od p.1 p.2)/\xs.map (·.1)=b9:=by
 induction b9 with
 | nil=>intro a' r;cases r;exact ⟨[],rfl,rfl⟩
 | cons k b9 b4=>
  intro a' r;cases r with
  | cons h t=>
   obtain ⟨xs,au,aH⟩:=b4 t;obtain ⟨tk,rfl⟩:=(show ∃ t,_=od k t from h);exact ⟨(k,tk) :: xs,by rw [er,<- au],by rw [er,aH]⟩
section
variable {X:a7}
theorem tz (ay:X.calm=true):ma X (.builtin "max") (fun xs H Q=>∃ l b9 m,xs=[.ref l]/\aC X.K H l (rq V.int b9)/\(m ∈ b9/\∀ k ∈ b9,k <= m)/\Q (.int m) H):=by
 intro ae s σ H xs us Q J r h;obtain ⟨l,b9,m,rfl,a0,hm,q⟩:=h;obtain ⟨u,rfl,fw⟩:=lZ r;cases fw;obtain ⟨a',cT,pl,aT⟩:=J.list a0;obtain ⟨xs,au,aH⟩:=afy cT;have jY:a'.toArray=intItems xs.toArray:=by rw [au];unfold intItems;simp
 have AB:s.heap.IsList l (intItems xs.toArray):=by rw [<- jY];exact pl.isList
 have hV:xs.length=b9.length:=by rw [<- aH,aZ]
 have cj:0 < xs.toArray.size:=by
  rw [gQ,hV];exact W3 hm.1
 refine max_intList (J.ok.hd ay) AB cj fun v h' tk aI az=>⟨.int m,H,J.kept az,?_,q⟩
 obtain ⟨fK,rfl⟩:=intItems_at aI;refine ⟨fK,?_⟩;have aa:=argBest_gt (numAt xs.toArray) (xs.toArray.size - 1);generalize argBest (fun i j=>decide (numAt xs.toArray i > numAt xs.toArray j)) (xs.toArray.size - 1)=j at aa ⊢;have a4:∀ i,i < b9.length->b9[i]? = some (numAt xs.toArray i):=fun i ag=>by
  rw [numAt_eq,jZ];show b9[i]? = some (((xs.map (·.1))[i]?).getD 0);rw [aH,bo ag];rfl
 rw [gQ] at aa cj;have af:=hm.2 _ (cC (a4 j (by omega)));obtain ⟨i,ag⟩:=hH hm.1;have jY:i < b9.length:=(b'.mp ag).1;have ak:=aa.2 i (by omega);have a9:m=numAt xs.toArray i:=d1 (ag.symm.trans (a4 i jY));rw [show numAt xs.toArray j=m by omega]
end
noncomputable def zu (p d:Addr):Heap->Prop:=fun h=>PySem.W.KdlKeysView h p d
noncomputable def Gs (p d:Addr):Heap->Prop:=fun h=>h.IsValuesView p d
theorem zu.ok {w:World} {h:Heap} {p d:Addr} (z:zu p d h):ed P w H h p (.ext (zu p d)):=
 ⟨z,let ⟨o,aY,_⟩:=z;⟨o,aY⟩,fun _ _ fh k=>let ⟨o,aY,x⟩:=fh;⟨o,k o aY,x⟩⟩
theorem Gs.ok {w:World} {h:Heap} {p d:Addr} (z:Gs p d h):ed P w H h p (.ext (Gs p d)):=
 ⟨z,let ⟨o,aY,_⟩:=z;⟨o,aY⟩,fun _ _ fh k=>let ⟨o,aY,x⟩:=fh;⟨o,k o aY,x⟩⟩
section
variable {X:a7}
noncomputable def oH:V->List V->ar->cX->Prop:=fun x vs H Q=>∃ d kvs,x=.ref d/\vs=[]/\H d=some (.bu kvs)/\∀ p,H p=none->Q (.ref p) (upd H p (.ext (zu p d)))
end
noncomputable abbrev abT:=St->ar->Str->(Str->ar->Prop)->Prop
section
variable {X:a7} {e:Expr} {a3:List Expr} {t:abT} {bL:TE} {pos:Pos}
end
noncomputable def IM (p:Addr) (a b c:Int):Heap->Prop:=fun h=>∃ t u v,IsRange h p a b c t u v
theorem IM.ok {w:World} {h:Heap} {p:Addr} (z:IM p a b c h):ed P w H h p (.ext (IM p a b c)):=
 ⟨z,let ⟨_,_,_,e⟩:=z;⟨_,e⟩,fun _ _ fh k=>let ⟨t,u,v,e⟩:=fh;⟨t,u,v,k _ e⟩⟩
section
variable {X:a7}
end
noncomputable def lH (f:Addr) (qual:Str) (params:Arguments) (body:Expr) (scope:Scope) (h_:List (Str × Addr)) (c':Addr):Heap->Prop:=
 fun h=>∃ pm jH,h.get? f=some (vE "<lambda>" qual params body scope h_ pm c' jH)
noncomputable def mr (c:Addr) (qual:Str):Heap->Prop:=fun h=>h.CodeRec (.ref c) qual
def Tab (H:ar) (Pt:Addr) (pos:Pos) (qual:Str):Prop:=
 ∃ ps,H Pt=some (.gL ps)/\(ps=#[]\/∃ c',ps=#[rawInt pos.line,rawInt pos.col,.ref c']/\H c'=some (.ext (mr c' qual)))
def kZ (Pt:Addr) (H I:ar):Prop:=∀ b o,b ≠ Pt->H b=some o->I b=some o
theorem kZ.refl (Pt:Addr) (H:ar):kZ Pt H H:=fun _ _ _ h=>h
theorem kZ.trans (a:kZ Pt H H1) (b:kZ Pt H1 aw):kZ Pt H aw:=fun c o n h=>b c o n (a c o n h)
theorem aO.p (s:aO H I):kZ Pt H I:=fun b o _ h=>s b o h
theorem Tab.ne (t:Tab H Pt pos qual) (h:H b=some o) (aY:∀ ps,o ≠ .gL ps):b ≠ Pt:=fun e=>by
 obtain ⟨ps,au,_⟩:=t;subst e;rw [au] at h;exact aY ps (d1 h).symm
theorem Tab.step (t:Tab H Pt pos qual) (s:aO H I):Tab I Pt pos qual:=by
 obtain ⟨ps,e,d⟩:=t;refine ⟨ps,s _ _ e,?_⟩;rcases d with d | ⟨c',d,bT⟩
 .exact .inl d
 .exact .inr ⟨c',d,s _ _ bT⟩
theorem Kd {w:World} {h:Heap}
  (e:h.get? f=some (vE "<lambda>" qual params body scope h_ pm c' jH)):ed P w H h f (.ext (lH f qual params body scope h_ c')):=
 ⟨⟨pm,jH,e⟩,⟨_,e⟩,fun _ _ ⟨p,c,au⟩ k=>⟨p,c,k _ au⟩⟩
theorem Wv {w:World} {h:Heap} (e:h.CodeRec (.ref c) qual):ed P w H h c (.ext (mr c qual)):=by
 refine ⟨e,?_,fun af ak x k=>?_⟩
 .obtain ⟨cS,o,vs,t,au,aH,_⟩:=e;cases au;exact ⟨o,aH⟩
 .obtain ⟨cS,o,vs,t,au,aH,bX,ff⟩:=x;cases au;exact ⟨_,o,vs,t,rfl,k o aH,bX,ff⟩
structure QL (X:a7) (c Pt:Addr):Prop where
 code:X.env.code=.ref c
 hd:pE X.base c Pt
 bm:X.base.BuiltinsAt X.mg Pt
theorem ahO:TriplesOk [rawInt a,rawInt b,v]:=kO
theorem Xu:codeAmong pos [rawInt pos.line,rawInt pos.col,v]=some v:=by
 have:=codeAmong_snoc (pos:=pos) (c:=v) [] kO rfl;simpa using this
section
variable {X:a7} {ae:List (Addr × Obj)} {σ:St} {H:ar} {s:Shared} {params:Arguments} {body:Expr} {scope:Scope} {pos:Pos} {c Pt:Addr} {h_:List (Str × Addr)} {Q:Value->Shared->Prop}
theorem aeJ (J:Inv X ae σ H s) (T:QL X c Pt) (bP:Tab H Pt pos (X.env.qual ++ "<lambda>")) (o_:closureFor scope X.env=pure h_) (Gd:defaultsOf params X.env=([],[]))
  (h:∀ f c' H1 s1,Inv X ae σ H1 s1->kZ Pt H H1->(aP H->aP H1)->Tab H1 Pt pos (X.env.qual ++ "<lambda>")->H1 f=some (.ext (lH f (X.env.qual ++ "<lambda>") params body scope h_ c'))->H1 c'=some (.ext (mr c' (X.env.qual ++ "<lambda>")))->H f=none->Q (.ref f) s1) :
  wpAny (model X.prog X.w) X.A (eval (.Lambda params body scope pos) X.env) Q X.dK s:=by
 refine PySem.W.kla_eval Gd ?_;obtain ⟨ps,j4,d⟩:=bP;have cJ:s.heap.get? Pt=some (Mk ps):=J.bl _ _ j4;have ng:s.heap.Ns mainGlobals X.mg:=J.mod.glob.keeps J.cw;have de:=T.hd.keeps J.cw;have aev:mainGlobals ≠ Pt:=fun q=>by
  obtain ⟨o,a3,cG,e,hd,_⟩:=ng;rw [q,cJ] at e;cases e;cases hd
 have h1:s.heap.BuiltinsAt X.mg Pt:=by
  obtain ⟨bm,o,af,ak,a9,cW,eF,h5⟩:=T.bm;exact ⟨bm,o,af,ak,a9,cW,J.cw _ _ eF,h5⟩
 rcases d with rfl | ⟨c',rfl,mT⟩
 .refine PySem.W.kla_makeFunction (mg:=X.mg) o_ J.ok.glob ng T.code de cJ kO rfl aev h1 fun c' jH h' tk ah y0 dG WY RU=>?_
  have y7:H c'=none:=J.bl.fresh y0;have hK:H h'.objs.size=none:=J.bl.fresh (c_ y0 (nF dG));have aha:c' ≠ h'.objs.size:=gv dG;have ada:Pt ≠ c':=fun z=>by rw [z,y7] at j4;cases j4
  have Uw:Pt ≠ h'.objs.size:=fun z=>by rw [z,hK] at j4;cases j4
  have put:∀ b o,b ≠ Pt->H b=some o->upd (upd (upd H Pt (.gL (#[] ++ #[rawInt pos.line,rawInt pos.col,.ref c']))) c' (.ext (mr c' (X.env.qual ++ "<lambda>")))) h'.objs.size (.ext (lH h'.objs.size (X.env.qual ++ "<lambda>") params body scope h_ c')) b=some o:=fun b o n e=>by
   rw [aE (fun z=>by rw [z,hK] at e;cases e),aE (fun z=>by rw [z,y7] at e;cases e),aE n];exact e
  have yn:upd (upd (upd H Pt (.gL (#[] ++ #[rawInt pos.line,rawInt pos.col,.ref c']))) c' (.ext (mr c' (X.env.qual ++ "<lambda>")))) h'.objs.size (.ext (lH h'.objs.size (X.env.qual ++ "<lambda>") params body scope h_ c')) Pt=some (.gL (#[] ++ #[rawInt pos.line,rawInt pos.col,.ref c'])):=by
   rw [aE Uw,aE ada,aV]
  have Ag:upd (upd (upd H Pt (.gL (#[] ++ #[rawInt pos.line,rawInt pos.col,.ref c']))) c' (.ext (mr c' (X.env.qual ++ "<lambda>")))) h'.objs.size (.ext (lH h'.objs.size (X.env.qual ++ "<lambda>") params body scope h_ c')) c'=some (.ext (mr c' (X.env.qual ++ "<lambda>"))):=by
   rw [aE aha,aV]
  have I9:upd (upd (upd H Pt (.gL (#[] ++ #[rawInt pos.line,rawInt pos.col,.ref c']))) c' (.ext (mr c' (X.env.qual ++ "<lambda>")))) h'.objs.size (.ext (lH h'.objs.size (X.env.qual ++ "<lambda>") params body scope h_ c')) h'.objs.size=some (.ext (lH h'.objs.size (X.env.qual ++ "<lambda>") params body scope h_ c')):=aV;have b6:∀ b,b ≠ Pt->b ≠ c'->b ≠ h'.objs.size->upd (upd (upd H Pt (.gL (#[] ++ #[rawInt pos.line,rawInt pos.col,.ref c']))) c' (.ext (mr c' (X.env.qual ++ "<lambda>")))) h'.objs.size (.ext (lH h'.objs.size (X.env.qual ++ "<lambda>") params body scope h_ c')) b=H b:=fun b cp cO dw=>by
   rw [aE dw,aE cO,aE cp]
  have jj:aP H->aP (upd (upd (upd H Pt (.gL (#[] ++ #[rawInt pos.line,rawInt pos.col,.ref c']))) c' (.ext (mr c' (X.env.qual ++ "<lambda>")))) h'.objs.size (.ext (lH h'.objs.size (X.env.qual ++ "<lambda>") params body scope h_ c'))):=fun n=>n.upd.upd.upd
  generalize upd (upd (upd H Pt (.gL (#[] ++ #[rawInt pos.line,rawInt pos.col,.ref c']))) c' (.ext (mr c' (X.env.qual ++ "<lambda>")))) h'.objs.size (.ext (lH h'.objs.size (X.env.qual ++ "<lambda>") params body scope h_ c'))=H1 at put yn Ag I9 b6 jj;have bN:∀ b o,b ≠ Pt->s.heap.get? b=some o->(h'.push (vE "<lambda>" (X.env.qual ++ "<lambda>") params body scope h_ ((X.mg "__name__").getD .none) c' jH)).get? b=some o:=fun b o n e=>eU _ (ah b o n e)
  have Iq:∀ b,H b=none->b ≠ Pt:=fun b n z=>by rw [z,j4] at n;cases n
  have u:eY X.aN [] H H1 s.heap (h'.push (vE "<lambda>" (X.env.qual ++ "<lambda>") params body scope h_ ((X.mg "__name__").getD .none) c' jH)):=by
   refine ⟨fun b o e n _ _=>bN b o (Iq b n) e,fun b o e n _ _=>⟨o.slots,bN b o (Iq b n) e⟩,fun b o e n _=>?_,fun b o e _=>?_,fun b xs e=>put b _ (fun z=>by rw [z,j4] at e;cases e) e,fun b o x e=>put b _ (fun z=>by rw [z,j4] at e;cases e) e,fun b ps e=>?_⟩
   .have aa:=es e;rw [b6 b (Iq b n) (gv (hC aa y0)) (gv (hC aa (c_ y0 (nF dG))))];exact n
   .by_cases aa:b=Pt
    .subst aa;exact ⟨_,eU _ RU⟩
    .exact ⟨o,bN b o aa e⟩
   .by_cases aa:b=Pt
    .subst aa;rw [j4] at e;cases e;exact ⟨_,yn⟩
    .exact ⟨#[],by rw [put b _ aa e];simp⟩
  have bl:et X.prog X.w H1 (h'.push (vE "<lambda>" (X.env.qual ++ "<lambda>") params body scope h_ ((X.mg "__name__").getD .none) c' jH)):=fun b o e=>by
   by_cases af:b=Pt
   .subst af;rw [yn] at e;cases e;exact eU _ RU
   by_cases ak:b=c'
   .subst ak;rw [Ag] at e;cases e;refine Wv ?_;obtain ⟨cS,o,vs,t,au,aH,bX⟩:=WY;exact ⟨cS,o,vs,t,au,eU _ aH,bX⟩
   by_cases a9:b=h'.objs.size
   .subst a9;rw [I9] at e;cases e;exact Kd (hI _ rfl)
   rw [b6 b af ak a9] at e;refine (J.bl b o e).kU (fun d v hd q=>bN d v ?_ q) (fun d q=>put d _ (fun z=>by rw [z,j4] at q;cases q) q) fun d xs q=>put d _ (fun z=>by rw [z,j4] at q;cases q) q
   rcases hd with z | z
   .rw [z];exact af
   .intro eS;rw [eS,j4] at z;cases z
  exact h _ c' H1 _ (J.un (t':=tk) u bl) (fun b o n e=>put b o n e) jj ⟨_,yn,.inr ⟨c',by simp,Ag⟩⟩ I9 Ag hK
 .refine PySem.W.kla_makeFunctionHit (mg:=X.mg) o_ J.ok.glob ng T.code de cJ ahO Xu h1 fun jH h' tk az hsz=>?_
  have hK:H h'.objs.size=none:=J.bl.fresh hsz;have a5:Inv X ae σ (upd H h'.objs.size (.ext (lH h'.objs.size (X.env.qual ++ "<lambda>") params body scope h_ c'))) { s with heap:=h'.push (vE "<lambda>" (X.env.qual ++ "<lambda>") params body scope h_ ((X.mg "__name__").getD .none) c' jH),toks:=tk }:=
   J.laid (t':=tk) (fun b o e=>eU _ (az b o e)) hsz (Kd (hI _ rfl))
  have bO:=bE (o:=.ext (lH h'.objs.size (X.env.qual ++ "<lambda>") params body scope h_ c')) hK;exact h _ c' _ _ a5 bO.p (fun n=>n.upd) ⟨_,bO _ _ j4,.inr ⟨c',rfl,bO _ _ mT⟩⟩ aV (bO _ _ mT) hK
end
section
variable {P:Program} {w:World} {K:ba} {mg:Str->Option Value} {base:Heap}
end
structure akU (p y:Str) (sc:Scope):Prop where
 kind:sc.kind=.function
 co:sc.isCoroutine=false
 gen:sc.isGenerator=false
 ne:p ≠ y
 par:sc.names.lookup p=some .local
 Nr:sc.names.lookup y=some .free
 sQ:∀ z ∈ sc.names,z.2 ≠ .cell
 one:∀ z ∈ sc.names,z.2=.free->z.1=y
section
variable {X:a7} {ae:List (Addr × Obj)} {σ:St} {H:ar} {s:Shared} {k:Nat} {f c' cl:Addr} {q p y:Str} {params:Arguments} {body:Expr} {scope:Scope} {v:V} {t:TE}
end
noncomputable def T9:Expr->Scope
 | .Lambda _ _ s _=>s
 | _=>{ kind:=.function,names:=[],isGenerator:=false,isCoroutine:=false }
noncomputable def EQ:Expr->Pos
 | .Lambda _ _ _ p=>p
 | _=>⟨0,0,0,0⟩
def BR (Pt:Addr) (H:ar):Prop:=H Pt=some (.gL #[])/\∀ b,H b=none\/b=Pt\/∃ o xs,H b=some (.eM o (.lst xs))
theorem Sc.ah9 {K:ba} {ns:List Int} (lx:BR Pt H) (d4:aC K H a (ns.map V.int)):Sc K a ns H:=by
 refine ⟨?_,fun b u e=>?_⟩
 .rcases d4 with (h | ⟨o,h⟩) | h
  .rcases lx.2 a with z | z | ⟨b0,xs,z⟩
   .rw [h] at z;cases z
   .rw [z,lx.1] at h;cases h
   .rw [h] at z;cases z
  .exact .inl ⟨o,h⟩
  .exact .inr h
 .rcases lx.2 b with z | z | ⟨o,xs,z⟩
  .rw [e] at z;cases z
  .rw [z,lx.1] at e;cases e;rfl
  .rw [e] at z;cases z;rfl
theorem XM {w:World} {K:ba} {mg lN:Str->Option Value} {k:Nat} {fd:FuncData} {x:Str} {ns:List Int}
  (jU:K.In dd.heap) (fR:adL K=true) (ng:dd.heap.Ns mainGlobals mg) (aa:dd.heap.Ns builtinsNs lN) (pM:∀ x:Str,x ≠ "__name__" -> lN x=bootBuiltins x) (T_:dd.heap.NoLimit) (aQ:dd.gens=#[])
  (oP:∃ bm b0,mg "__builtins__"=some (.ref bm)/\bm ≠ builtinsNs/\dd.heap.get? bm=some b0/\b0.cls=.type "module" /\ b0.dict=some builtinsNs/\b0.data=.plain)
  (de:pE dd.heap c Pt) (cJ:dd.heap.get? Pt=some (Mk #[]))
  (aS:dd.heap.get? a=some { cls:=.type "list",data:=.seq vs.toArray }) (ag:IntsAre vs ns) (aL:ns.length <= sizeLine) (ao:ec k callerA)
  (F:∀ base:Heap,K.In base->base.Ns mainGlobals mg->pE base c Pt->base.BuiltinsAt mg Pt->cH P w K mg base CX k f3 fd [x] sp) (WL:∀ (s:Shared) (u:Value),BindsTo s fd ⟨[u],[]⟩ [(x,u)])
  (nI:∀ H:ar,BR Pt H->aC K H a (ns.map V.int)->sp [.ref a] H (fun v _=>v=.bk true) fun _ _ _=>False)
  (FH:∀ H e ai,CX [] H dd (fun _ _ _=>False) e ai->False) :
  codeAny (model P w) callerA (.call (.ref f3) ⟨[.ref a],[]⟩) (fun r ai=>r=.ok (.ret (.bool true))/\OldK dd.heap ai.heap/\ai.os=dd.os/\AllBare ai.gens) dd:=by
 have cT:=P2 ag;have abK:=ag.length;have P1:Pt ≠ a:=fun z=>by rw [z,aS] at cJ;cases cJ
 have afk:∀ o,K.lookup Pt=some o->False:=fun o e=>by
  have au:=jU _ _ e;rw [cJ] at au;cases au;have:=oT.mp fR _ (PySem.W.mem_of_lookupK e);exact absurd (show false=true from this) fm
 have core:∀ H:ar,BR Pt H->aC K H a (ns.map V.int)->et P w H dd.heap->(∀ b,H b ≠ none->b=Pt\/b=a)->(H a ≠ none->K.lookup a=none) ->
   codeAny (model P w) callerA (.call (.ref f3) ⟨[.ref a],[]⟩) (fun r ai=>r=.ok (.ret (.bool true))/\OldK dd.heap ai.heap/\ai.os=dd.os/\AllBare ai.gens) dd:=by
  intro H lx d4 bl jg Z9;have Su:∀ {b:Addr} {o:Obj},dd.heap.get? b=some o->o.cls ≠ .none->(∀ a' n,o.data ≠ .seq a' n)->(mz dd.heap H).get? b=some o:=fun {b o} e af ak=>by
   refine Ix e ?_;cases q:H b with
   | none=>rfl
   | some u=>
    rcases jg b (by rw [q];simp) with z | z
    .subst z;rw [cJ] at e;cases e;exact absurd rfl af
    .subst z;rw [aS] at e;cases e;exact absurd rfl (ak _ _)
  have AD:∀ {b:Addr} {m:Str->Option Value},dd.heap.Ns b m->(mz dd.heap H).Ns b m:=fun {b m} ⟨o,a3,cG,e,d,r⟩=>⟨o,a3,cG,(by
   refine Ix e ?_;cases q:H b with
   | none=>rfl
   | some u=>
    rcases jg b (by rw [q];simp) with z | z
    .subst z;rw [cJ] at e;cases e;cases d
    .subst z;rw [aS] at e;cases e;cases d),d,r⟩
  have R8:K.In (mz dd.heap H):=fun b o e=>Ix (jU b o e) (by
   cases q:H b with
   | none=>rfl
   | some u=>
    rcases jg b (by rw [q];simp) with z | z
    .subst z;exact (afk o e).elim
    .subst z;rw [Z9 (by rw [q];simp)] at e;cases e)
  have abF:Mod K mg (mz dd.heap H):=⟨R8,AD ng,⟨lN,AD aa,pM⟩,let ⟨ady,af,ak⟩:=T_;⟨ady,AD af,ak⟩⟩;have YX:pE (mz dd.heap H) c Pt:=by
   obtain ⟨o,XU,file,YM,flags,da,Xg,text,tt,au,aH,bX,r⟩:=de;exact ⟨o,XU,file,YM,flags,da,Xg,text,tt,Su au (by rw [aH];intro z;cases z) (fun _ _ z=>by rw [bX] at z;cases z),aH,bX,r⟩
  have Uv:(mz dd.heap H).BuiltinsAt mg Pt:=by
   obtain ⟨bm,b0,af,ak,a9,cW,eF,h5⟩:=oP;refine ⟨bm,b0,af,ak,fun z=>?_,fun z=>?_,Su a9 (by rw [cW];intro z;cases z) (fun _ _ z=>by rw [h5] at z;cases z),cW,eF,h5⟩
   .obtain ⟨o,a3,cG,e,d,_⟩:=ng;rw [z,e] at a9;cases a9;rw [d] at h5;cases h5
   .rw [z,cJ] at a9;cases a9;cases cW
  have fg:mM P w K mg (mz dd.heap H) callerA [] dd H:=⟨rfl,abF,fun b o e=>afX e,Xt (ahV _ _),trivial,fun b aa=>absurd (show b ∈ ([]:List Addr) from aa) (by simp),bl,.of_eq aQ⟩;refine codeAny_mono ((F _ R8 (AD ng) YX Uv).run callerA [] dd H ⟨[.ref a],[]⟩ [.ref a] [.ref a] _ _ ao fg (WL dd (.ref a)) (.cons rfl .nil) (nI H lx d4)) fun r ai h=>?_
  cases r with
  | error e=>exact (FH H e ai h).elim
  | ok d3=>
   cases d3 with
   | next=>exact iz h
   | brk=>exact iz h
   | cont=>exact iz h
   | ret u=>
    obtain ⟨v,I,os,bare,un,Pj,ei,q⟩:=h;have e9:v=.bk true:=q;subst e9;obtain rfl:u=kj true:=ei;obtain ⟨more,j4⟩:=un.ku Pt _ lx.1;have Pu:ai.heap.get? Pt=some { cls:=.none,data:=.fields (#[] ++ more) }:=Pj _ _ j4;have bN:∀ b o,b ≠ Pt->dd.heap.get? b=some o->ai.heap.get? b=some o:=fun b o nb e=>by
     rcases lx.2 b with z | z | ⟨b0,xs,z⟩
     .exact un.keep b o e z (by intro z;exact absurd (show b ∈ ([]:List Addr) from z) (by simp)) (by simp)
     .exact absurd z nb
     .have eS:=un.jz b b0 _ z;obtain ⟨au,_⟩:=bl b _ z;obtain ⟨aH,_⟩:=Pj b _ eS;rw [e] at au;cases au;exact aH
    refine ⟨rfl,⟨fun b o e=>?_,fun b o e=>?_⟩,os,bare⟩
    .by_cases uk:b=Pt
     .subst uk;rw [cJ] at e;cases e;exact .inr (.inl ⟨(de.tab cJ).isCodeTable,rfl,#[],more,rfl,Pu⟩)
     .exact .inl (bN b o uk e)
    .by_cases uk:b=Pt
     .subst uk;exact ⟨_,Pu⟩
     .exact ⟨o,bN b o uk e⟩
 have Px:∀ H:ar,ed P w H dd.heap Pt (.gL #[]):=fun _=>cJ
 cases az:K.lookup a with
 | some o=>
  have e:=jU a o az;rw [aS] at e;cases e;refine core (fun b=>if b=Pt then some (.gL #[]) else none) ⟨if_pos rfl,fun b=>?_⟩ (.inr ⟨_,vs.toArray,_,az,rfl,rfl,rfl,by rw [gQ,abK];exact aL,by simpa using cT⟩) (fun b u z=>?_) (fun b z=>?_) fun z=>absurd (if_neg (dW P1)) z
  .by_cases aa:b=Pt
   .exact .inr (.inl aa)
   .exact .inl (if_neg aa)
  .by_cases aa:b=Pt
   .have ik:=(if_pos aa).symm.trans z;cases ik;subst aa;exact Px _
   .have ik:=(if_neg aa).symm.trans z;cases ik
  .by_cases aa:b=Pt
   .exact .inl aa
   .exact absurd (if_neg aa) z
 | none=>
  have h6:(fun b=>if b=Pt then some (gj.gL #[]) else if b=a then some (.eM { cls:=.type "list",data:=.seq vs.toArray } (.lst (ns.map V.int))) else none) a=some (.eM { cls:=.type "list",data:=.seq vs.toArray } (.lst (ns.map V.int))):=by
   show (if a=Pt then _ else if a=a then _ else _)=_;rw [if_neg (dW P1),if_pos rfl]
  refine core (fun b=>if b=Pt then some (.gL #[]) else if b=a then some (.eM { cls:=.type "list",data:=.seq vs.toArray } (.lst (ns.map V.int))) else none) ⟨if_pos rfl,fun b=>?_⟩ (.inl (.inr ⟨_,h6⟩)) (fun b u z=>?_) (fun b z=>?_) fun _=>az
  .by_cases aa:b=Pt
   .exact .inr (.inl aa)
   .by_cases jL:b=a
    .exact .inr (.inr ⟨_,_,by rw [jL];exact h6⟩)
    .exact .inl ((if_neg aa).trans (if_neg jL))
  .by_cases aa:b=Pt
   .have ik:=(if_pos aa).symm.trans z;cases ik;subst aa;exact Px _
   .by_cases jL:b=a
    .subst jL;rw [h6] at z;cases z;exact ⟨aS,by rw [aZ];exact aL,vs,_,cT,aS⟩
    .have ik:=((if_neg aa).trans (if_neg jL)).symm.trans z;cases ik
  .by_cases aa:b=Pt
   .exact .inl aa
   .by_cases jL:b=a
    .exact .inr jL
    .exact absurd ((if_neg aa).trans (if_neg jL)) z
section
variable {P:Program} {w:World} {A:Around} {E:Value->Shared->Prop} {s:Shared}
structure rv (h:Heap) (d:Addr) (o:Obj) (a3:Array DictEntry) (cG:Nat):Prop where
 at_:h.get? d=some o
 ex:o.ExactDict
 dat:o.data=.dict a3 cG
theorem Sf (r:rv s.heap d o a3 cG):s.TypeIs (.ref d) "dict" := ⟨o,r.at_,r.ex.1⟩
theorem ah8 (hd:(d == sysModules)=false) (r:rv s.heap d o a3 cG)
  (aR:Q (.ref s.heap.objs.size) { s with heap:=s.heap.push { cls:=.type "dict_keyiterator",data:=.fields #[.ref d,.int 0 0,.int a3.size 0,.int cG 0] } }) :
  wpAny (model P w) A (pyIter (.ref d)) Q E s:=by
 have hQ:=Sf r;refine wpAny_pyIter_slot hQ Um (wpAny_call_entry Um hQ F.entry_dict_iter ?_ (F.args_dict_iter_1 _));unfold Builtin.«dict.__iter__» akG;refine wpAny_bind (wpAny_bind (wpAny_notOrdered_dict hQ (wpAny_pure ?_)));show wpAny _ _ (ahp d >>= _) _ _ s;unfold ahp;rw [if_neg (by rw [hd];exact fm)];refine wpAny_bind (wpAny_pure (wpAny_bind (wpAny_dictEntries r.at_ r.dat (wpAny_bind (wpAny_dictEpoch r.at_ r.dat ?_)))));refine wpAny_bind (wpAny_newObj_type (wpAny_pure ⟨_,rfl,"dict_keyiterator",_,⟨_,hI _ rfl,rfl⟩,xD.lookup,?_⟩));simpa [rawInt] using aR
theorem afm {it d:Addr} {e:DictEntry} (hit:s.heap.IsKeyIter it d i a3.size cG) (r:rv s.heap d o a3 cG) (ah:a3[i]? = some e)
  (aR:∀ h',h'.IsKeyIter it d (i + 1) a3.size cG->vb it s.heap h'->Q (some e.key) { s with heap:=h' }):wpAny (model P w) A (pyNext (.ref it)) Q E s:=by
 obtain ⟨af9,aY,ay,hd⟩:=id hit;have Gp:adm "dict_keyiterator"=false:=by decide
 have dG:i < a3.size:=by
  rcases Nat.lt_or_ge i a3.size with h | h
  .exact h
  .rw [TP h] at ah;cases ah
 unfold pyNext;refine wpAny_bind (wpAny_attempt (wpAny_callSpecial?_slot (name:=ab "__next__") hit.typeIs xD
  (wpAny_call_entry xD hit.typeIs WA ?_ (aiG _))))
 refine wpAny_bind (wpAny_pure (wpAny_bind (wpAny_bind ?_)))
 first | refine wpAny_bind (wpAny_typeNameOfWhole_keyiter hit.typeIs (wpAny_pure ?_)) | refine wpAny_bind (wpAny_typeNameOf_keyiter hit.typeIs (wpAny_pure ?_))
 refine wpAny_bind (wpAny_fieldsOf aY hd ?_);simp only [Gp,HA,if_false];show wpAny _ _ (if (fC d == rI)=true then _ else _) _ _ s;rw [if_neg (show ¬ ((fC d == rI)=true) from fm)];refine wpAny_bind (wpAny_pure (wpAny_bind (wpAny_dictEntries r.at_ r.dat ?_)));rw [if_neg (by simp)];refine wpAny_bind (wpAny_pure (wpAny_bind (wpAny_dictEpoch r.at_ r.dat ?_)));rw [if_neg (by simp)];refine wpAny_pure ?_;simp only [show ¬ ((i:Int) < 0) from by omega,if_false,nL,ah];refine wpAny_bind ?_
 first | refine wpAny_bind (wpAny_typeNameOfWhole_keyiter hit.typeIs (wpAny_pure ?_)) | refine wpAny_bind (wpAny_typeNameOf_keyiter hit.typeIs (wpAny_pure ?_))
 refine wpAny_bind (wpAny_isOneOf_keyiter hit.typeIs ?_);show wpAny _ _ (setField (.ref it) 1 (rawInt ((i:Int) + 1)) >>= _) _ _ s;refine wpAny_bind (wpAny_setField aY hd (by simp) ?_);have RG:(s.heap.update it (Vr (·.setIfInBounds 1 (rawInt ((i:Int) + 1))))).IsKeyIter it d (i + 1) a3.size cG:=
  ⟨_,Heap.get?_update_self _ aY (Obj.isFreed_of_fields (ahR hd _)),(Obj.cls_mapFields ..).trans ay,by rw [ahR hd];simp [rawInt]⟩
 refine wpAny_bind (wpAny_holding (wpAny_bind (wpAny_isOneOf_keyiter (s:={ s with heap:=s.heap.update it (Vr (·.setIfInBounds 1 (rawInt ((i:Int) + 1)))) }) RG.typeIs ?_)));show wpAny _ _ (pure e.key) _ _ _;exact wpAny_pure (wpAny_pure ⟨_,rfl,wpAny_pure (aR _ RG (ad3 ..))⟩)
theorem ae2 {it d:Addr} (dr:A.handled=none) (hit:s.heap.IsKeyIter it d i a3.size cG) (r:rv s.heap d o a3 cG) (ah:a3.size <= i)
  (aR:∀ h',Heap.ExtBut it s.heap h'->Q none { s with heap:=h' }):wpAny (model P w) A (pyNext (.ref it)) Q E s:=by
 obtain ⟨af9,aY,ay,hd⟩:=id hit;have Gp:adm "dict_keyiterator"=false:=by decide
 unfold pyNext;refine wpAny_bind (wpAny_attempt (wpAny_callSpecial?_slot (name:=ab "__next__") hit.typeIs xD
  (wpAny_call_entry xD hit.typeIs WA ?_ (aiG _))))
 refine wpAny_bind (wpAny_pure (wpAny_bind (wpAny_bind ?_)))
 first | refine wpAny_bind (wpAny_typeNameOfWhole_keyiter hit.typeIs (wpAny_pure ?_)) | refine wpAny_bind (wpAny_typeNameOf_keyiter hit.typeIs (wpAny_pure ?_))
 refine wpAny_bind (wpAny_fieldsOf aY hd ?_);simp only [Gp,HA,if_false];show wpAny _ _ (if (fC d == rI)=true then _ else _) _ _ s;rw [if_neg (show ¬ ((fC d == rI)=true) from fm)];refine wpAny_bind (wpAny_pure (wpAny_bind (wpAny_dictEntries r.at_ r.dat ?_)));rw [if_neg (by simp)];refine wpAny_bind (wpAny_pure (wpAny_bind (wpAny_dictEpoch r.at_ r.dat ?_)));rw [if_neg (by simp)];refine wpAny_pure ?_;simp only [show ¬ ((i:Int) < 0) from by omega,if_false,nL,TP ah];refine wpAny_bind ?_
 first | refine wpAny_bind (wpAny_typeNameOfWhole_keyiter hit.typeIs (wpAny_pure ?_)) | refine wpAny_bind (wpAny_typeNameOf_keyiter hit.typeIs (wpAny_pure ?_))
 show wpAny _ _ (setField (.ref it) 0 .none >>= _) _ _ s;refine wpAny_bind (wpAny_setField aY hd (by simp) ?_);show wpAny _ _ (newExc (.type "StopIteration") [] >>= _) _ _ _;refine wpAny_bind ?_;simp only [newExc,newTuple];refine wpAny_bind (wpAny_newObj_type ?_ (by size_fits));refine wpAny_bind (m:=firstArgMember _ _) (wpAny_of_eq (a:=rI) (by first | rfl | (simp only [firstArgMember];rfl)) ?_);refine wpAny_newObj_type ?_ (by size_fits);simp only [raiseNew];refine wpAny_bind (wpAny_handled ?_);rw [show A.in1.handled=none from dr];refine wpAny_bind (wpAny_pure (wpAny_throw ?_));refine wpAny_bind (wpAny_isInstance (T := "StopIteration") (b:=true) ⟨_,hI _ rfl,rfl⟩ isSubtype_stop ?_);exact wpAny_pure (aR _ (((ad3 ..).extBut.push _).push _))
end
noncomputable def nT (a:Addr) (o:Obj):Heap->Prop:=fun h=>h.get? a=some o
structure PO (P:Program) (w:World) (H:ar) (a:Addr) (kvs:List (List Key × V)) (o:Obj) (a3:Array DictEntry) (cG:Nat) (xs:List (List Key × Addr × Value)):Prop where
 at_:H a=some (.ext (nT a o))
 ex:o.ExactDict
 dat:o.data=.dict a3 cG
 ent:a3.toList=xs.map (entryOfKey (tupleKind (re P w)))
 aD:(xs.map (·.1)).Nodup
 b9:Paired (fun (p:List Key × V) (q:List Key × Addr × Value)=>p.1=q.1/\H q.2.1=some (.tup (p.1.map dz))/\bI p.2 q.2.2) kvs xs
 m':kvs.length <= sizeLine
 ns:(a == sysModules)=false
def ic (P:Program) (w:World) (H:ar) (a:Addr) (kvs:List (List Key × V)):Prop:=∃ o a3 cG xs,PO P w H a kvs o a3 cG xs
section
variable {P:Program} {w:World} {H I:ar} {h:Heap} {a:Addr} {kvs:List (List Key × V)}
theorem Gl (d:ic P w H a kvs) (s:aO H I):ic P w I a kvs:=by
 obtain ⟨o,a3,cG,xs,r⟩:=d;exact ⟨o,a3,cG,xs,s _ _ r.at_,r.ex,r.dat,r.ent,r.aD,Paired.qv r.b9 fun p q z=>⟨z.1,s _ _ z.2.1,z.2.2⟩,r.m',r.ns⟩
theorem agl {p:Addr} (d:ic P w H a kvs) (ax:p ≠ a) (cq:∀ xs,H p ≠ some (.tup xs)):ic P w (upd H p u) a kvs:=by
 obtain ⟨o,a3,cG,xs,r⟩:=d;exact ⟨o,a3,cG,xs,by rw [aE (dW ax)];exact r.at_,r.ex,r.dat,r.ent,r.aD,Paired.qv r.b9 fun q e9 z=>⟨z.1,by rw [aE (fun e=>cq _ (e ▸ z.2.1))];exact z.2.1,z.2.2⟩,r.m',r.ns⟩
theorem ZB (ok:et P w H h) (r:PO P w H a kvs o a3 cG xs):rv h a o a3 cG:=
 ⟨(ok a _ r.at_).1,r.ex,r.dat⟩
theorem OG (ok:et P w H h) (d:ic P w H a kvs):n4 (H a)/\(∃ u,h.get? a=some u)/\ed P w (upd H a (.fL kvs)) h a (.fL kvs):=by
 obtain ⟨o,a3,cG,xs,r⟩:=d;have e:=(ZB ok r).at_;refine ⟨by rw [r.at_];exact kO,⟨o,e⟩,r.m',r.ns,xs,Paired.qv r.b9 fun q e9 z=>⟨z.1,?_,z.2.2⟩,o,a3,cG,e,r.ex,r.dat,r.ent,r.aD⟩;rw [aE (fun e=>by have:=z.2.1;rw [e,r.at_] at this;cases this)];exact z.2.1
theorem acd (ok:et P w H h) (d:ic P w H a kvs):et P w (upd H a (.fL kvs)) h:=
 have z:=OG ok d
 ok.write z.1 (.inl rfl) (fun _ _ _ q=>q) z.2.1 z.2.2
theorem afE (d:ic P w H a kvs) (e:H b=some (.tup xs)):b ≠ a:=fun z=>by
 obtain ⟨o,a3,cG,ys,r⟩:=d;have:=r.at_;rw [<- z,e] at this;cases this
end
section
variable {X:a7} {ae:List (Addr × Obj)} {σ:St} {H:ar} {s:Shared} {a b:Addr} {kvs:List (List Key × V)} {k:List Key} {v:V} {r:Value} {A:Around} {E:Value->Shared->Prop}
theorem I4 (J:Inv X ae σ H s) (f6:n4 (H a)) (ex:∃ u,s.heap.get? a=some u) (new:ed X.prog X.w (upd H a dZ) s.heap a dZ):Inv X ae σ (upd H a dZ) s:=
 J.un (t':=s.toks) (h':=s.heap) (eY.write f6 (.inl rfl) (fun _ _ _ q=>q) ex) (J.bl.write f6 (.inl rfl) (fun _ _ _ q=>q) ex new)
theorem V9 (J:Inv X ae σ H s) (d:ic X.prog X.w H a kvs):Inv X ae σ (upd H a (.fL kvs)) s:=
 have z:=OG J.bl d
 I4 J z.1 z.2.1 z.2.2
theorem Qj (J:Inv X ae σ H s) (e:H a=some (.fL kvs)):∃ o,Inv X ae σ (upd H a (.ext (nT a o))) s/\ic X.prog X.w (upd H a (.ext (nT a o))) a kvs:=by
 obtain ⟨z,y,xs,r,o,a3,cG,af,ak,a9,cW,eF⟩:=(show ed X.prog X.w H s.heap a (.fL kvs) from J.bl a _ e);refine ⟨o,I4 J (by rw [e];exact kO) ⟨o,af⟩ ⟨af,⟨o,af⟩,fun _ _ q k=>k o q⟩,o,a3,cG,xs,aV ..,ak,a9,cW,eF,Paired.qv r fun p q z=>⟨z.1,?_,z.2.2⟩,z,y⟩;rw [aE (fun q=>by have:=z.2.1;rw [q,e] at this;cases this)];exact z.2.1
theorem TX (bx:A.units + 1 < cLine) (J:Inv X ae σ H s) (d:ic X.prog X.w H a kvs) (fl:H b=some (.tup (k.map dz))) (l:cM kvs k=some v) (h:∀ eN ai,Inv X ae σ H ai->bI v eN->Q eN ai) :
  wpAny (model X.prog X.w) A (getItem (.ref a) (.ref b)) Q E s:=by
 obtain ⟨z,hd,xs,rel,dB⟩:=Rb (acd J.bl d) (aV ..);obtain ⟨eN,hw,hh⟩:=hF.some_of (v:=v) (o:=(atKey xs k).map (·.2)) (by rw [<- l];exact rel.val k);obtain ⟨p,ax,hv⟩:=vr.mp hw;refine wpAny_getItem_heap (tupleKind_room_in1 bx) (wg J.bl fl) dB ax ?_;rw [hv];exact h eN _ (J.tok _) hh
theorem agX (bx:A.units + 1 < cLine) (J:Inv X ae σ H s) (d:ic X.prog X.w H a kvs) (fl:H b=some (.tup (k.map dz))) (aL:kvs.length < sizeLine) (cT:bI v r)
  (h:∀ o ai,Inv X ae σ (upd H a (.ext (nT a o))) ai->ic X.prog X.w (upd H a (.ext (nT a o))) a (d5 kvs k v)->Q () ai):wpAny (model X.prog X.w) A (setItem (.ref a) (.ref b) r) Q E s:=by
 refine Nj bx (V9 J d) (j7.t (aV ..) (by rw [aE (afE d fl)];exact fl) aL) (show bI (.ref b) (.ref b) from rfl) cT fun ai gS=>?_
 rw [r_] at gS;obtain ⟨o,bR,eW⟩:=Qj gS (aV ..);rw [r_] at bR eW;exact h o ai bR eW
end
noncomputable def Fn (P:Program) (w:World) (fa ty:TE):TE:=fun σ H Q=>fa σ H fun x H1=>ty σ H1 fun y aw=>∃ a b kvs k v,x=.ref a/\y=.ref b/\ic P w aw a kvs/\aw b=some (.tup (k.map dz))/\cM kvs k=some v/\Q v aw
noncomputable def JC (P:Program) (w:World) (fa ty fK:TE):d6:=fun D σ H=>fK σ H fun v H1=>fa σ H1 fun x aw=>ty σ aw fun y bf=>∃ a b kvs k,x=.ref a/\y=.ref b/\ic P w bf a kvs/\bf b=some (.tup (k.map dz))/\kvs.length < sizeLine/\∀ o,ic P w (upd bf a (.ext (nT a o))) a (d5 kvs k v)->D.cf σ (upd bf a (.ext (nT a o)))
noncomputable def G2 (P:Program) (w:World):TE:=fun _ H Q=>∀ p o,H p=none->ic P w (upd H p (.ext (nT p o))) p []->Q (.ref p) (upd H p (.ext (nT p o)))
section
variable {X:a7} {o i e value:Expr} {pos pos' xH:Pos} {fa ty fK:TE}
theorem abj (bx:X.A.units + 1 < cLine) (aY:bq X o fa) (ag:bq X i ty) (av:B_ i):bq X (.Subscript o i pos) (Fn X.prog X.w fa ty):=by
 intro ae s σ H Q J h;refine LF ahm.lookup av (bC (aY ae s σ H _ J h) fun u s1 ⟨x,H1,a5,bj,bG⟩=>bC (ag ae s1 σ H1 _ a5 bG) fun lR s2 bw=>?_);obtain ⟨y,aw,bR,bp,a,b,kvs,k,v,ex,iC,d,fl,l,dM⟩:=bw;subst ex iC;obtain rfl:u=fC a:=bj;obtain rfl:lR=fC b:=bp;refine ⟨?_,TX bx bR d fl l fun eN s3 eQ hh=>⟨v,aw,eQ,hh,dM⟩⟩;obtain ⟨b0,a3,cG,xs,r⟩:=d;exact Sf (ZB bR.bl r)
theorem afj (bx:X.A.units + 1 < cLine) (aY:bq X o fa) (ag:bq X i ty) (aI:bq X value fK) (av:swapsWith value (some (.Subscript o i pos')) pos.line X.env=pure false) :
  hy X (.Assign [.Subscript o i pos'] value pos) (JC X.prog X.w fa ty fK):=by
 intro ae s σ H D J h;refine wpAny_Assign_Subscript (bC (aI ae s σ H _ J h) fun r s1 ⟨v,H1,a5,cT,bG⟩=>bC (aY ae s1 σ H1 _ a5 bG) fun u s2 ⟨x,aw,bR,bj,dM⟩=>bC (ag ae s2 σ aw _ bR dM) fun lR s3 bw=>?_) av;obtain ⟨y,bf,eQ,bp,a,b,kvs,k,ex,iC,d,fl,aL,hZ⟩:=bw;subst ex iC;obtain rfl:u=fC a:=bj;obtain rfl:lR=fC b:=bp;exact agX bx eQ d fl aL cT fun b0 s4 hS Bk=>⟨σ,_,hS,hZ b0 Bk⟩
theorem acv:bq X (.Dict [] [] pos) (G2 X.prog X.w):=fun ae s σ H Q J h=>by
 refine bC (acR ae s σ H (fun x H1=>∃ p,x=.ref p/\H p=none/\H1=upd H p (.fL [])) J fun p ax=>⟨p,rfl,ax,rfl⟩) fun v s1 bw=>?_
 obtain ⟨x,H1,a5,cQ,p,ex,ax,vt⟩:=bw;subst ex vt;obtain ⟨o,bR,eW⟩:=Qj a5 (aV ..);rw [r_] at bR eW;exact ⟨.ref p,_,bR,cQ,h p o ax eW⟩
end
section
variable {X:a7} {da:Expr}
end
noncomputable def Cz (p d:Addr):Heap->Prop:=fun h=>h.IsItemsView p d
theorem Cz.ok {w:World} {h:Heap} {p d:Addr} (z:Cz p d h):ed P w H h p (.ext (Cz p d)):=
 ⟨z,let ⟨o,aY,_⟩:=z;⟨o,aY⟩,fun _ _ fh k=>let ⟨o,aY,x⟩:=fh;⟨o,k o aY,x⟩⟩
structure aiZ (H I:ar) (l:Addr) (as:List Addr) (kvs:List (Key × V)):Prop where
 same:∀ b o,H b=some o->I b=some o
 fresh:H l=none
 alc:∀ a ∈ as,H a=none
 at_:I l=some (.lst (as.map V.ref))
 len:as.length=kvs.length
 al:∀ (j:Nat) (a:Addr) (q:Key × V),as[j]? = some a->kvs[j]? = some q->I a=some (.tup [dz q.1,q.2])
 only:∀ b o,I b=some o->H b=some o\/o=.lst (as.map V.ref)\/∃ q ∈ kvs,o=.tup [dz q.1,q.2]
section
variable {X:a7}
end
section
open AutoSeq1 (wpAny_loadPart')
open MeetsSeq MeetsSeq2 MeetsSeq3 SeqRoads2
variable {P:Program} {w:World} {l b:Addr} {xs ys:Array Value} {n m:Nat} {dB akT:Option Addr} {bS bO:Array (Option Value)}
end
section
variable {X:a7} {ae:List (Addr × Obj)} {σ:St} {H:ar} {s:Shared}
structure ajW (H:ar) (p:Addr) (ps:List Addr) (b9:List (List (Key × V))):Prop where
 at_:H p=some (.lst (ps.map V.ref))
 len:ps.length=b9.length
 al:∀ (j:Nat) (a:Addr) (kvs:List (Key × V)),ps[j]? = some a->b9[j]? = some kvs->H a=some (.bu kvs)
end
section
variable {X:a7}
end
section
variable {X:a7} {ae:List (Addr × Obj)} {σ:St} {H:ar} {s:Shared} {d:Addr} {o:Obj} {kvs:List (Key × V)}
theorem afW (J:Inv X ae σ H s) (e:H d=some (.bu kvs)) (g:s.heap.get? d=some o):Inv X ae σ (upd H d (.eM o (.bu kvs))) s:=
 I4 J (by rw [e];exact kO) ⟨o,g⟩ ⟨g,J.bl d _ e⟩
theorem Nf (J:Inv X ae σ H s) (e:H d=some (.eM o (.bu kvs))) (hK:∀ o u,X.qm d ≠ some (.eM o u)):Inv X ae σ (upd H d (.bu kvs)) s:=by
 have ne:∀ {b:Addr} {u:Option gj},H b=u->(∀ dZ,u ≠ some (.eM dZ (.bu kvs)))->b ≠ d:=fun {b u} q h z=>h o (by rw [<- q,z];exact e)
 refine ⟨J.ok,J.os,J.bare,⟨J.base.keep,J.base.slot,fun b dZ q n ah=>?_,J.base.there,fun b xs q=>?_,fun b dZ u q=>?_,fun b ps q=>?_⟩,J.loc,J.cell,?_,fun x c q=>?_,fun p ax=>?_,fun b u q=>?_,J.len⟩
 .have h:=J.base.free b dZ q n ah;rw [aE (ne h (fun _ z=>by cases z))];exact h
 .have h:=J.base.kY b xs q;rw [aE (ne h (fun _ z=>by cases z))];exact h
 .have h:=J.base.jz b dZ u q;rw [aE (fun z=>hK dZ u (by rw [<- z];exact q))];exact h
 .obtain ⟨m,h⟩:=J.base.ku b ps q;exact ⟨m,by rw [aE (ne h (fun _ z=>by cases z))];exact h⟩
 .rw [aE (ne J.free (fun _ z=>by cases z))];exact J.free
 .rw [aE (ne (J.i4 x c q) (fun _ z=>by cases z))];exact J.i4 x c q
 .obtain ⟨af,ak,a9⟩:=J.pin p ax;exact ⟨af,by rw [aE (ne ak (fun _ z=>by cases z))];exact ak,a9⟩
 .by_cases aa:b=d
  .subst aa;rw [aV] at q;cases q;exact (J.bl b _ e).2
  .rw [aE aa] at q;refine (J.bl b u q).kU (fun _ _ _ r=>r) (fun c r=>?_) (fun c xs r=>?_)
   .rw [aE (ne r (fun _ z=>by cases z))];exact r
   .rw [aE (ne r (fun _ z=>by cases z))];exact r
end
noncomputable def Gj (d:Addr) (o:Obj) (kvs:List (Key × V)):ji:=
 ⟨fun i H=>H d=some (.eM o (.bu kvs))/\i < kvs.length,fun i H x I=>I=H/\∃ k v,kvs[i]? = some (k,v)/\x=dz k,fun i H=>H d=some (.eM o (.bu kvs))/\kvs.length <= i⟩
theorem aex {w:World} {K:ba} {d it:Addr} (ex:o.ExactDict) (aY:o.data=.dict a3 cG)
  (aL:a3.size=kvs.length) (b9:∀ (i:Nat) (e:DictEntry),a3[i]? = some e->∃ k v,kvs[i]? = some (k,v)/\bI (dz k) e.key):p8 P w K da (Gj d o kvs) [it] it (fun i h=>h.IsKeyIter it d i a3.size cG) where
 mem:=by simp
 obj:=fun i h st b aa=>by
  have e:b=it:=by simpa using aa
  subst e;obtain ⟨o,e,c,d⟩:=st;exact ⟨o,e,fun v z=>by rw [d] at z;cases z⟩
 keep:=fun i h h' st k=>st.at fun o e=>k it (by simp) o e
 item:=by
  intro X cJ hw fR ay i ae s σ H E J hf st aQ;subst cJ hw fR;obtain ⟨a0,ah⟩:=aQ;have r:rv s.heap d o a3 cG:=⟨(J.bl d _ a0).1,ex,aY⟩;obtain ⟨f0,f1,f2,eh,f4,eI⟩:=hf it (by simp);obtain ⟨q,yz⟩:∃ q,a3[i]? = some q:=⟨_,Array.getElem?_eq_getElem (show i < a3.size by omega)⟩;obtain ⟨k,v,ago,Ib⟩:=b9 i q yz;refine afm st r yz fun h' ko nA=>?_
  have a5:Inv X ae σ H { s with heap:=h' }:=J.turned (t':=s.toks) (fun b o aa e=>(nA.2 b aa).trans e) f0 f1 eh f4 eI;obtain ⟨HZ,e,c,dB⟩:=id ko;exact ⟨_,rfl,u6 (s:={ s with heap:=h' }) e c dB (by decide) ⟨dz k,H,a5,Ib,⟨rfl,k,v,ago,rfl⟩,ko,fun b aa=>(hf b aa).1⟩⟩
 done:=by
  intro X cJ hw fR ay i ae s σ H E J hf st aQ;subst cJ hw fR;obtain ⟨a0,ah⟩:=aQ;have r:rv s.heap d o a3 cG:=⟨(J.bl d _ a0).1,ex,aY⟩;obtain ⟨f0,f1,f2,eh,f4,eI⟩:=hf it (by simp);exact ae2 (J.ok.hd ay) st r (by omega) fun h' fl=>⟨rfl,J.turned (t':=s.toks) (fun b o aa e=>fl b o aa e) f0 f1 eh f4 eI⟩
 self:=fun _ _ _ _ _ st h=>wpAny_pyIter_keyiter st h
theorem Z7 {w:World} {k:Key} (h:(re P w).is k v=true):bI (dz k) v:=by
 rcases n2 (k:=k) (v:=v) h with ⟨i,t,rfl,rfl⟩ | ⟨x,t,rfl,rfl⟩
 .exact ⟨t,rfl⟩
 .exact ⟨t,rfl⟩
theorem QQ {w:World}:∀ {a3:List DictEntry} {vs:List (Key × Value)} {kvs:List (Key × V)},Pairs (re P w) a3 vs->en kvs vs->a3.length=kvs.length/\∀ (i:Nat) (e:DictEntry),a3[i]? = some e->∃ k v,kvs[i]? = some (k,v)/\bI (dz k) e.key
 | _,_,_,.nil,r=>by
  unfold en at r;cases r;exact ⟨rfl,fun i e h=>by simp at h⟩
 | _,_,_,.cons az _ t,r=>by
  unfold en at r;cases r with
  | @cons p q ps qs h ei=>
   obtain ⟨l,al⟩:=QQ t (kvs:=ps) ei;refine ⟨by rw [iu,iu,l],fun i e he=>?_⟩;cases i with
   | zero=>
    cases he;refine ⟨p.1,p.2,rfl,Z7 (P:=P) (w:=w) ?_⟩;rw [h.1];exact az
   | succ i=>exact al i e he
section
variable {X:a7} {da:Expr}
noncomputable def El (cB:TE):TI:=fun σ H R=>cB σ H fun x H1=>∃ d kvs,x=.ref d/\H1 d=some (.bu kvs)/\∀ o,R (Gj d o kvs) (upd H1 d (.eM o (.bu kvs)))
theorem Oi (aL:bq X l cB):pg X da l (El cB):=by
 intro ae s σ H R J h;refine bC (aL ae s σ H _ J h) fun v s1 bw=>?_
 obtain ⟨x,H1,a5,cQ,bG⟩:=bw;obtain ⟨d,kvs,e,p7,q⟩:=bG;subst e;cases cQ;obtain ⟨_,hd,vs,rel,o,a3,cG,g,ex,dat,_,pr,_⟩:=w7 a5.bl p7;obtain ⟨aL,b9⟩:=QQ pr rel;have bR:=afW a5 p7 g;refine ah8 hd ⟨g,ex,dat⟩ ?_;refine ⟨s1.heap.objs.size,[s1.heap.objs.size],_,_,_,rfl,bR.kept (t':=s1.toks) fun b o e=>eU _ e,aex ex dat (by rw [<- aL];exact G0.symm) (fun i e h=>b9 i e (by rw [<- YO] at h;exact h)),⟨_,hI _ rfl,rfl,rfl⟩,fun b aa=>?_,q o⟩;have e:b=s1.heap.objs.size:=by simpa using aa
 subst e;exact bR.oX (cn _) (bR.bl.fresh (cn _))
noncomputable def EO (t:TE):TE:=fun σ H Q=>∃ d kvs,H d=some (.bu kvs)/\t σ H fun v I=>∃ o,I d=some (.eM o (.bu kvs))/\Q v (upd I d (.bu kvs))
theorem acb {e:Expr} {t:TE} (h:bq X e t):bq X e (EO t):=by
 intro ae s σ H Q J q;obtain ⟨d,kvs,p7,q⟩:=q;refine bC (h ae s σ H _ J q) fun v s1 ⟨x,H1,a5,cQ,o,au,bG⟩=>⟨x,_,Nf a5 au (fun dZ u z=>?_),cQ,bG⟩
 have:=J.base.jz d dZ u z;rw [p7] at this;cases this
end
structure nR (X:a7) (ae:List (Addr × Obj)) (H:ar) (S:Addr):Prop where
 nn:H S=none
 nl:S ≠ X.env.locals
 ge:X.fk.heap.objs.size <= S
 y7:∀ x c,X.env.cells.lookup x=some c->c ≠ S
 np:∀ p ∈ X.dN ++ ae,p.1 ≠ S
 hK:S ∉ X.aN
theorem nR.of (J:Inv X ae σ H s) (h:s.heap.objs.size <= S):nR X ae H S:=
 ⟨J.bl.fresh h,fun z=>absurd (hC J.lt h) (by rw [z];exact nv _),c_ J.m' h,fun x c e z=>by
  obtain ⟨v,o,aY,_⟩:=J.cell x c e;exact absurd (hC (es aY) h) (by rw [z];exact nv _),fun p ax z=>by
  have aY:=(J.pin p ax).1;exact absurd (hC (es aY) h) (by rw [z];exact nv _),J.Jd h⟩
theorem nR.turn (o:nR X ae H S) (J:Inv X ae σ H s) (k:∀ b o,b ≠ S->s.heap.get? b=some o->h'.get? b=some o):Inv X ae σ H { s with heap:=h',toks:=t' }:=
 J.turned k o.nn o.nl (.inr o.ge) o.y7 o.np
section
variable {X:a7} {A:Around} {ae:List (Addr × Obj)} {σ:St} {H:ar} {l q J S:Addr} {n:Nat} {P:Nat->Value->Prop} {R:Result->Shared->Prop}
theorem P6 (bF:Inv X ae σ H s) (m1:nR X ae H S) (mD:nR X ae H J) (ad7:s.heap.get? S=some Qf) (UI:s.heap.get? J=some Ld) (YY:∀ v,Qf.data ≠ .cell v) (acT:∀ v,Ld.data ≠ .cell v):Inv X ((S,Qf) :: (J,Ld) :: ae) σ H s:=
 bF.rY fun p ax=>by
  rcases eJ.mp ax with rfl | ax
  .exact ⟨ad7,m1.nn,m1.nl,m1.hK,YY⟩
  rcases eJ.mp ax with rfl | ax
  .exact ⟨UI,mD.nn,mD.nl,mD.hK,acT⟩
  exact bF.pin p (jP _ ax)
theorem LC (bF:Inv X (F7 :: GB :: ae) σ H s):Inv X ae σ H s/\s.heap.get? F7.1=some F7.2/\s.heap.get? GB.1=some GB.2:=
 ⟨bF.rY fun p ax=>bF.pin p (jP _ (.tail _ (.tail _ ax))),(bF.pin F7 (jP _ (.head _))).1,(bF.pin GB (jP _ (.tail _ (.head _)))).1⟩
theorem adj (e5:Nat->Int) (dr:A.handled=none) (aL:∀ s,Inv X ae σ H s->∃ vs:List Value,vs.length=n/\(∀ i v,vs[i]? = some v->P i v)/\s.heap.IsList l vs.toArray) (wY:l ≠ J) (r7:S ≠ J) (m1:nR X ae H S) (mD:nR X ae H J)
  (turn:∀ (i:Nat) (v:Value),i < n->P i v->∀ (ae:List (Addr × Obj)) (s:Shared),Inv X ae σ H s ->
   wpAny (model X.prog X.w) A.in1 (call (.ref q) [v]) (gJ X ae σ fun x I=>x=.int (e5 i)/\I=H) (fun _ _=>False) s)
  (hq:∀ i v ai,i < n->P i v->(∀ j,j < n->e5 i <= e5 j/\(j < i->e5 i < e5 j))->Inv X ae σ H ai->R (.ok (.ret v)) ai) :
  ∀ (r j i:Nat) (s:Shared) (s9:Value) (bP:Tok) (c:Nat),n - (j + 1)=r->j + 1 <= n->Inv X ae σ H s ->
   s.heap.get? S=some (seqObj "list" #[s9,.int (e5 i) bP] c)->s.heap.IsListIter J l (j + 1)->P i s9->i <= j->(∀ gZ,gZ <= j->e5 i <= e5 gZ/\(gZ < i->e5 i < e5 gZ)) ->
   codeAny (model X.prog X.w) A (.builtin "min.loop" ⟨[.ref J,.ref q,.ref S],[]⟩) R s:=by
 have wA:(toString "min" ++ toString ".loop" : String) = "min.loop" := by decide
 intro r
 induction r with
 | zero=>
  intro j i s s9 bP c ao aJ bF d4 hit DN nV sS;obtain ⟨vs,zi,zA,vU⟩:=aL s bF;have W:=Bt (prog:=X.prog) (w:=X.w) (A:=A.in1) dr J l wY vs.toArray;have hsz:vs.toArray.size=vs.length:=gQ ..;have gp:j + 1=vs.length:=by omega
  refine codeAny_builtin K0 ?_;rw [Sk sF _];show wpAny _ A.in1 (seqItems? (.ref S) >>= _) _ _ _;refine wpAny_bind (wpAny_seqItems d4 rfl ?_);show wpAny _ A.in1 (tryCatch (pyNext (.ref J)) _ >>= _) _ _ _;refine wpAny_bind (wpAny_tryCatch (W.done _ _ _ ⟨by rw [hsz,<- gp];exact hit,vU⟩ fun h' vn e1=>?_));have oF:Inv X ae σ H { s with heap:=h',toks:=vn }:=mD.turn bF fun b o n e=>e1 b o (by simpa using n) e
  have vg:=e1 S _ (by simpa using r7) d4;show wpAny _ A.in1 (updateSeq S (fun _=>#[]) >>= _) _ _ _;refine wpAny_bind ?_;refine wpAny_updateSeq vg rfl (wpAny_bind (wpAny_letGo (wpAny_pure ?_)));exact hq i s9 _ (by omega) DN (fun gZ h3=>sS gZ (by omega)) (m1.turn oF fun b o n e=>(vA _ _ (dW n)).trans e)
 | succ r b4=>
  intro j i s s9 bP c ao aJ bF d4 hit DN nV sS;obtain ⟨vs,zi,zA,vU⟩:=aL s bF;have W:=Bt (prog:=X.prog) (w:=X.w) (A:=A.in1) dr J l wY vs.toArray;have hsz:vs.toArray.size=vs.length:=gQ ..;have dG:j + 1 < n:=by omega
  refine codeAny_builtin K0 ?_;rw [Sk sF _];show wpAny _ A.in1 (seqItems? (.ref S) >>= _) _ _ _;refine wpAny_bind (wpAny_seqItems d4 rfl ?_);show wpAny _ A.in1 (tryCatch (pyNext (.ref J)) _ >>= _) _ _ _;refine wpAny_bind (wpAny_tryCatch (W.item (j + 1) _ _ _ (by rw [hsz,zi];exact dG) ⟨hit,vU⟩ fun v h' vn cJ EG e1=>?_));have aI:P (j + 1) v:=zA _ _ (by simpa using cJ);obtain ⟨xI,C5,rr,sU⟩:=id EG.1;have oF:Inv X ae σ H { s with heap:=h',toks:=vn }:=mD.turn bF fun b o n e=>e1 b o (by simpa using n) e
  have vg:=e1 S _ (by simpa using r7) d4;have qA:=P6 oF m1 mD vg C5 (fun _ z=>by cases z) (fun _ z=>by rw [sU] at z;cases z);show wpAny _ A.in1 (tryCatch (holding [v] (call (.ref q) [v])) _ >>= _) _ _ _;refine wpAny_bind (wpAny_tryCatch (wpAny_holding (wpAny_mono (turn (j + 1) v dG aI _ _ qA) (fun x s2 he=>?_) fun _ _ oz=>oz.elim)));obtain ⟨fN,I,q5,bj,rfl,rfl⟩:=he;obtain ⟨fO,rfl⟩:=bj;obtain ⟨th,sL,xu⟩:=LC q5;have aed:s2.heap.IsListIter J l (j + 1 + 1):=⟨xI,xu,rr,sU⟩;show wpAny _ A.in1 (tryCatch (holding [v,.int (e5 (j + 1)) fO] (richCompare .Lt (.int (e5 (j + 1)) fO) (.int (e5 i) bP) >>= _)) _ >>= _) _ _ _;refine wpAny_bind (wpAny_tryCatch (wpAny_holding (wpAny_bind (CmpOf.ints_lt (prog:=X.prog) (w:=X.w) (A:=A.in1) (P:=fun i v=>∃ t,v=.int (e5 i) t) e5 (fun i v h=>h) (j + 1) i _ _ _ _ _ ⟨fO,rfl⟩ ⟨bP,rfl⟩ ?_))));refine wpAny_bind (wpAny_holding (wpAny_truthy_bool ?_));refine wpAny_bind (wpAny_letGo (wpAny_pure ?_));by_cases fY:e5 (j + 1) < e5 i
  .obtain ⟨cS,Fs⟩:∃ cS,(s2.heap.update S (u_ fun _=>#[v,.int (e5 (j + 1)) fO])).get? S=some (seqObj "list" #[v,.int (e5 (j + 1)) fO] cS):=⟨_,get?_update_seq sL fun _=>#[v,.int (e5 (j + 1)) fO]⟩;simp only [fY,decide_true,if_true];refine wpAny_bind ?_;refine wpAny_updateSeq sL rfl (wpAny_bind (wpAny_letGo ?_));rw [wA];have pH:=m1.turn (t':=s2.toks) th (h':=s2.heap.update S (u_ fun _=>#[v,.int (e5 (j + 1)) fO])) fun b o n e=>(vA _ _ (dW n)).trans e
   refine wpAny_pure ⟨plainId_quiet sF _,b4 (j + 1) (j + 1) _ v fO cS (by omega) dG pH Fs ⟨xI,(vA _ _ r7).trans xu,rr,sU⟩ aI (cn _) fun gZ h3=>?_⟩;by_cases e:gZ=j + 1
   .subst e;exact ⟨by omega,fun _=>by omega⟩
   .have yv:=sS gZ (by omega);have jL:=yv.1;exact ⟨by omega,fun _=>by omega⟩
  .simp only [fY,decide_false,HA,if_false];refine wpAny_bind (wpAny_letGo ?_);rw [wA];refine wpAny_pure ⟨plainId_quiet sF _,b4 (j + 1) i _ s9 bP c (by omega) dG th sL aed DN (by omega) fun gZ h3=>?_⟩;by_cases e:gZ=j + 1
   .subst e;exact ⟨by omega,fun _=>by omega⟩
   .exact sS gZ (by omega)
theorem ahn (e5:Nat->Int) (dr:A.handled=none) (bF:Inv X ae σ H s) (aL:∀ ae s,Inv X ae σ H s->∃ vs:List Value,vs.length=n/\(∀ i v,vs[i]? = some v->P i v)/\s.heap.IsList l vs.toArray) (cj:0 < n)
  (turn:∀ (i:Nat) (v:Value),i < n->P i v->∀ (ae:List (Addr × Obj)) (s:Shared),Inv X ae σ H s ->
   wpAny (model X.prog X.w) A.in1 (call (.ref q) [v]) (gJ X ae σ fun x I=>x=.int (e5 i)/\I=H) (fun _ _=>False) s)
  (aR:∀ i v ai,i < n->P i v->(∀ j,j < n->e5 i <= e5 j/\(j < i->e5 i < e5 j))->Inv X ae σ H ai->Q v ai) :
  wpAny (model X.prog X.w) A (call (.builtin "min") [.ref l] [(ab "key",.ref q)]) Q E s:=by
 have wA:(toString "min" ++ toString ".loop" : String) = "min.loop" := by decide
 obtain ⟨UD,_,_,AB⟩:=aL _ s bF;obtain ⟨ol,Xz,_⟩:=id AB;have t2:l < s.heap.objs.size:=es Xz;refine kmk_tree PySem.F.kind_min PySem.F.plain_min PySem.F.entry_min (kmk_min_key _ _) ?_;show wpAny _ A.in1 (acS "min" ["key","default"] 0 ⟨[],[(ab "key",.ref q)]⟩ >>= _) _ _ s;refine wpAny_bind (wpAny_of_eq (show acS "min" ["key","default"] 0 ⟨[],[(ab "key",.ref q)]⟩=pure [some (.ref q),none] from rfl) ?_);refine wpAny_bind (wpAny_pure ?_);refine wpAny_bind (wpAny_pyIter_list AB ?_);refine wpAny_bind (wpAny_newList ?_ (fi _));rw [wA];have d4:(s.heap.push { cls:=.type "list_iterator",data:=.fields #[.ref l,.int 0 0] }).objs.size=s.heap.objs.size + 1:=size_push' ..;have wY:l ≠ s.heap.objs.size:=gv t2;have r7:(s.heap.push { cls:=.type "list_iterator",data:=.fields #[.ref l,.int 0 0] }).objs.size ≠ s.heap.objs.size:=by rw [d4];exact KX (Dz _)
 refine wpAny_pure ⟨plainId_quiet sF _,?_⟩;have mD:nR X ae H s.heap.objs.size:=.of bF (cn _);have m1:nR X ae H (s.heap.push { cls:=.type "list_iterator",data:=.fields #[.ref l,.int 0 0] }).objs.size:=.of bF (by rw [d4];exact E6 _);have Zi:((s.heap.push { cls:=.type "list_iterator",data:=.fields #[.ref l,.int 0 0] }).push (seqObj "list" #[] 0)).get? s.heap.objs.size=some { cls:=.type "list_iterator",data:=.fields #[.ref l,.int 0 0] }:=
  eU _ (hI _ rfl)
 have Ml:((s.heap.push { cls:=.type "list_iterator",data:=.fields #[.ref l,.int 0 0] }).push (seqObj "list" #[] 0)).get? (s.heap.push { cls:=.type "list_iterator",data:=.fields #[.ref l,.int 0 0] }).objs.size=some (seqObj "list" #[] 0):=hI _ rfl;have vv:Inv X ae σ H { s with heap:=(s.heap.push { cls:=.type "list_iterator",data:=.fields #[.ref l,.int 0 0] }).push (seqObj "list" #[] 0) }:=bF.kept (t':=s.toks) fun b o e=>eU _ (eU _ e)
 obtain ⟨vs,zi,zA,vU⟩:=aL _ _ vv;have W:=Bt (prog:=X.prog) (w:=X.w) (A:=A.in1) dr s.heap.objs.size l wY vs.toArray;have hsz:vs.toArray.size=vs.length:=gQ ..;refine codeAny_builtin K0 ?_;rw [Sk sF _];show wpAny _ A.in1 (seqItems? (.ref _) >>= _) _ _ _;refine wpAny_bind (wpAny_seqItems Ml rfl ?_);show wpAny _ A.in1 (tryCatch (pyNext (.ref s.heap.objs.size)) _ >>= _) _ _ _;refine wpAny_bind (wpAny_tryCatch (W.item 0 _ _ _ (by rw [hsz,zi];exact cj) ⟨⟨_,Zi,rfl,rfl⟩,vU⟩ fun v h' vn cJ EG e1=>?_));have aI:P 0 v:=zA _ _ (by simpa using cJ);obtain ⟨xI,C5,rr,sU⟩:=id EG.1;have oF:=mD.turn (h':=h') (t':=vn) vv fun b o n e=>e1 b o (by simpa using n) e
 have vg:=e1 _ _ (by simpa using r7) Ml;have qA:=P6 oF m1 mD vg C5 (fun _ z=>by cases z) (fun _ z=>by rw [sU] at z;cases z);show wpAny _ A.in1 (tryCatch (holding [v] (call (.ref q) [v])) _ >>= _) _ _ _;refine wpAny_bind (wpAny_tryCatch (wpAny_holding (wpAny_mono (turn 0 v cj aI _ _ qA) (fun x s2 he=>?_) fun _ _ oz=>oz.elim)));obtain ⟨fN,I,q5,bj,rfl,rfl⟩:=he;obtain ⟨fO,rfl⟩:=bj;obtain ⟨th,sL,xu⟩:=LC q5;obtain ⟨cS,Fs⟩:∃ cS,(s2.heap.update (s.heap.push { cls:=.type "list_iterator",data:=.fields #[.ref l,.int 0 0] }).objs.size (u_ fun _=>#[v,.int (e5 0) fO])).get? (s.heap.push { cls:=.type "list_iterator",data:=.fields #[.ref l,.int 0 0] }).objs.size=some (seqObj "list" #[v,.int (e5 0) fO] cS):=⟨_,get?_update_seq sL fun _=>#[v,.int (e5 0) fO]⟩;show wpAny _ A.in1 (updateSeq (s.heap.push { cls:=.type "list_iterator",data:=.fields #[.ref l,.int 0 0] }).objs.size (fun _=>#[v,.int (e5 0) fO]) >>= _) _ _ _;refine wpAny_bind ?_;refine wpAny_updateSeq sL rfl ?_;rw [wA];have pH:=m1.turn (t':=s2.toks) th (h':=s2.heap.update (s.heap.push { cls:=.type "list_iterator",data:=.fields #[.ref l,.int 0 0] }).objs.size (u_ fun _=>#[v,.int (e5 0) fO])) fun b o n e=>(vA _ _ (dW n)).trans e
 refine wpAny_pure ⟨plainId_quiet sF _,adj e5 dr (fun s bF=>aL _ s bF) wY r7 m1 mD turn aR _ 0 0 _ v fO cS rfl cj pH Fs ⟨xI,(vA _ _ r7).trans xu,rr,sU⟩ aI (cn _) fun gZ h3=>?_⟩;have e:gZ=0:=by omega
 subst e;exact ⟨by omega,fun h=>absurd h (nv _)⟩
end
structure Ay (p y z:Str) (sc:Scope):Prop where
 kind:sc.kind=.function
 co:sc.isCoroutine=false
 gen:sc.isGenerator=false
 ne:y ≠ z
 par:sc.names.lookup p=some .local
 Nr:sc.names.lookup y=some .free
 Ci:sc.names.lookup z=some .free
 sQ:∀ z ∈ sc.names,z.2 ≠ .cell
 two:∀ b ∈ sc.names,b.2=.free->b.1=y\/b.1=z
noncomputable def rO (X:a7) (A:Around) (N:List Str) (q:Str) (scope:Scope) (f c':Addr) (cl:List (Str × Addr)) (s:Shared) (H:ar):a7 where
 prog:=X.prog
 w:=X.w
 K:=X.K
 mg:=X.mg
 base:=X.base
 A:=A.deeper (ER q scope s.heap.objs.size f (.ref c') cl)
 N:=N
 fk:=s
 qm:=H
 env:=ER q scope s.heap.objs.size f (.ref c') cl
 outer:=X.stack
 stack:=ER q scope s.heap.objs.size f (.ref c') cl :: X.stack
 ex:=[]
 fn:=fun _=>false
 calm:=true
 dN:=[]
 dK:=fun _ _=>False
section
variable {X:a7} {A:Around} {ae:List (Addr × Obj)} {σ:St} {H:ar} {s:Shared} {k:Nat} {f c' cu cS:Addr} {q p y z:Str} {params:Arguments} {body:Expr} {scope:Scope} {v1 v2:V} {t:TE}
theorem x4 {x:Str} (e:([(y,cu),(z,cS)]:List (Str × Addr)).lookup x=some c):(x=y/\c=cu)\/(x=z/\c=cS):=by
 rw [jT] at e;cases aa:x == y with
 | true=>rw [aa] at e;cases e;exact .inl ⟨eq_of_beq aa,rfl⟩
 | false=>
  rw [aa] at e;simp only [jT] at e;cases jL:x == z with
  | true=>rw [jL] at e;cases e;exact .inr ⟨eq_of_beq jL,rfl⟩
  | false=>rw [jL] at e;cases e
theorem afd (S:Ay p y z scope) (ao:ec k A) (jg:A.frames=some X.stack) (J:Inv X ae σ H s) (ne:cu ≠ cS) (cp:H cu=none) (cO:H cS=none)
  (cE:∃ u,bI v1 u/\s.heap.IsCell cu (some u)) (dq:∃ u,bI v2 u/\s.heap.IsCell cS (some u)) (r3:bI a u)
  (ng:af.Ns s.heap.objs.size (fun x=>[(p,u)].reverse.lookup x)) (az:∀ b o,s.heap.get? b=some o->af.get? b=some o) :
  Inv (rO X A [p,y,z] q scope f c' [(y,cu),(z,cS)] s H) [] [some a,some v1,some v2] H { s with heap:=af,toks:=tk }:=by
 obtain ⟨aar,cQ,sH,QS,Mb⟩:=cE;obtain ⟨aax,hx,HZ,MX,J0⟩:=dq;have Kh:([(y,cu),(z,cS)]:List (Str × Addr)).lookup y=some cu:=by rw [jT,beq_self_eq_true]
 have MF:([(y,cu),(z,cS)]:List (Str × Addr)).lookup z=some cS:=by
  rw [jT,show (z == y)=false from by simpa using dW S.ne];simp only [jT,beq_self_eq_true]
 have rJ:∀ b:Addr,b ∉ (rO X A [p,y,z] q scope f c' [(y,cu),(z,cS)] s H).ex:=fun b z=>absurd (show b ∈ ([]:List Addr) from z) (by simp)
 refine ⟨⟨J.ok.mod,S.kind,rfl,rfl,cn _,fun x w c au aH=>?_,fun x ah=>?_,fun x c hf e=>?_,fun _=>ao.hd,Vo jg,.inr ⟨rfl,rfl⟩,fun b z=>absurd z (rJ b),J.bs,c_ J.ok.jW J.m',fun b _ _=>rJ b,fun b z=>absurd z (rJ b),J.stack,J.IP⟩,
  rfl,J.bare,eY.kept az,⟨_,ng,fun i x ajA au aH bX=>?_⟩,fun x c e=>?_,J.bl.fresh (cn _),fun x c e=>?_,fun z aT=>absurd (show z ∈ ([]:List (Addr × Obj)) from aT) (by simp),J.bl.kept az,rfl⟩
 .rcases x4 au with ⟨rfl,rfl⟩ | ⟨rfl,rfl⟩ <;> rcases x4 aH with ⟨rfl,h⟩ | ⟨rfl,h⟩
  .rfl
  .exact absurd h ne
  .exact absurd h.symm ne
  .rfl
 .have ah:scope.names.lookup x=some .cell\/scope.names.lookup x=some .free:=ah;rcases ah with ah | ah
  .exact absurd rfl (S.sQ _ (t5 ah))
  .rcases S.two _ (t5 ah) rfl with h | h
   .have h:x=y:=h;exact ⟨cu,by rw [h];exact Kh⟩
   .have h:x=z:=h;exact ⟨cS,by rw [h];exact MF⟩
 .cases hf
 .match i,au,aH with
  | 0,au,aH=>
   cases au;cases aH;exact ⟨u,r3,.inl ⟨S.par,by show oW p [(p,u)]=some u;rw [jT,beq_self_eq_true]⟩⟩
  | 1,au,aH=>
   cases au;cases aH;exact ⟨aar,cQ,.inr ⟨.inr S.Nr,cu,Kh,⟨sH,az _ _ QS,Mb⟩⟩⟩
  | 2,au,aH=>
   cases au;cases aH;exact ⟨aax,hx,.inr ⟨.inr S.Ci,cS,MF,⟨HZ,az _ _ MX,J0⟩⟩⟩
  | i + 3,au,_=>simp [rO] at au
 .rcases x4 e with ⟨_,rfl⟩ | ⟨_,rfl⟩
  .exact ⟨_,sH,az _ _ QS,Mb⟩
  .exact ⟨_,HZ,az _ _ MX,J0⟩
 .rcases x4 e with ⟨_,rfl⟩ | ⟨_,rfl⟩
  .exact cp
  .exact cO
theorem adf (S:Ay p y z scope) (ao:ec k A) (jg:A.frames=some X.stack) (J:Inv X ae σ H s) (ne:cu ≠ cS) (cp:H cu=none) (cO:H cS=none)
  (cE:∃ u,bI v1 u/\s.heap.IsCell cu (some u)) (dq:∃ u,bI v2 u/\s.heap.IsCell cS (some u))
  (Iz:H f=some (.ext (lH f q params body scope [(y,cu),(z,cS)] c'))) (mT:H c'=some (.ext (mr c' q)))
  (aa:∀ pm jH,bindArgs (ab_ "<lambda>" q params body scope [(y,cu),(z,cS)] pm (.ref c') jH) ⟨[u],[]⟩=pure [(p,u)]) (r3:bI a u)
  (oD:bq (rO X A [p,y,z] q scope f c' [(y,cu),(z,cS)] s H) body t) (h:t [some a,some v1,some v2] H Q) :
  wpAny (model X.prog X.w) A (call (.ref f) [u]) (gJ X ae σ Q) E s:=by
 have inner:codeAny (model X.prog X.w) A (.call (.ref f) ⟨[u],[]⟩) (DW dC X.stack X.prog X.w H s Q IZ) s:=by
  obtain ⟨⟨pm,jH,aY⟩,_⟩:=J.bl _ _ Iz;refine PySem.W.kla_callFunE ao.depth aY rfl S.co S.gen rfl (J.bl _ _ mT).1 ?_;rw [aa];refine wpAny_pure (wpAny_newFunctionEnv S.sQ (fun z aT=>by rw [d8.mp aT];exact S.par) (fun af ng sW=>⟨J.nolimit.fresh _ sW,?_⟩) S.kind);have az:∀ b o,s.heap.get? b=some o->af.get? b=some o:=fun b o e=>sW.extBut b o (gv (es e)) (eU _ e)
  show codeAny _ _ (.expr body (ER q scope s.heap.objs.size f (.ref c') [(y,cu),(z,cS)])) _ _;have bF:=afd (f:=f) (c':=c') (q:=q) (tk:=s.toks + [(p,u)].length) S ao jg J ne cp cO cE dq r3 ng az;refine PySem.W.kla_codeExpr (wpAny_mono (oD [] _ _ _ _ bF h) (fun akJ ai a0=>?_) fun _ _ z=>iz z);obtain ⟨x,I,yy,bj,e9⟩:=a0;exact ⟨x,I,yy.os,yy.bare,yy.base,yy.bl,bj,e9⟩
 refine wpAny_call (codeAny_mono inner fun r ai a0=>?_);cases r with
 | error e=>exact a0.elim
 | ok d3=>
  cases d3 with
  | ret u=>exact J.after a0
  | next=>exact iz a0
  | brk=>exact iz a0
  | cont=>exact iz a0
end
theorem aC.p {K:ba} (s:kZ Pt H I) (t:Tab H Pt pos q) (h:aC K H a xs):aC K I a xs:=by
 rcases h with (h | ⟨o,h⟩) | h
 .exact .inl (.inl (s _ _ (t.ne h (fun _ z=>by cases z)) h))
 .exact .inl (.inr ⟨o,s _ _ (t.ne h (fun _ z=>by cases z)) h⟩)
 .exact .inr h
noncomputable def R7 (K:ba) (Pt:Addr) (p3:Pos) (q:Str) (i1 i2:Nat) (t:TE) (a_:fE):TE:=fun σ H Q=>a_ σ H fun vs H1=>∃ l b9 v1 v2,∃ g:Int->Int,vs=[.ref l]/\aC K H1 l (rq V.int b9)/\b9 ≠ [] /\
 σ[i1]? = some (some v1)/\σ[i2]? = some (some v2)/\Tab H1 Pt p3 q/\∀ aw,kZ Pt H1 aw->(aP H1->aP aw)->Tab aw Pt p3 q ->
  (∀ n ∈ b9,t [some (.int n),some v1,some v2] aw fun x I=>x=.int (g n)/\I=aw)/\∀ (i:Nat) m,b9[i]? = some m->(∀ (j:Nat) n,b9[j]? = some n->g m <= g n/\(j < i->g m < g n))->Q (.int m) aw
theorem Uk {k:Nat} {t:TE} {p bN pos p3:Pos}
  (ay:X.calm=true) (aQ:lS X "min") (hm:X.mg "min"=none) (aS:jN X [a] a_) (T:QL X c Pt) (ao:ec (k + 1) X.A) (S:Ay pr y z scope) (af:X.env.cells.lookup y=some cu) (ak:X.env.cells.lookup z=some cS) (Gd:defaultsOf params X.env=([],[])) (o_:closureFor scope X.env=pure [(y,cu),(z,cS)])
  (b1:X.env.scope.names.lookup y=some .cell) (dH:X.env.scope.names.lookup z=some .cell) (TV:X.N[i1]? = some y) (V1:X.N[i2]? = some z)
  (aa:∀ c' pm jH u,bindArgs (ab_ "<lambda>" (X.env.qual ++ "<lambda>") params body scope [(y,cu),(z,cS)] pm (.ref c') jH) ⟨[u],[]⟩=pure [(pr,u)])
  (oD:∀ f c' s H,∃ t',bq (rO X X.A.in1 [pr,y,z] (X.env.qual ++ "<lambda>") scope f c' [(y,cu),(z,cS)] s H) body t'/\t'=t)
  (he:∀ pos,backTo pos (starEach [a] X.env)=(false,eval a X.env) :: backTo pos (starEach [] X.env):=by intro _;rfl) (cR:∀ pos,(backTo pos (starEach [a] X.env)).any (·.1)=false:=by intro _;rfl) :
  bq X (.Call (.Name "min" p) [a] [⟨some "key",.Lambda params body scope p3,bN⟩] pos) (R7 X.K Pt p3 (X.env.qual ++ "<lambda>") i1 i2 t a_):=by
 intro ae s σ H Q J h;refine wpAny_Call_Name_kw (vK J aQ hm (show bootBuiltins "min"=some (.builtin "min") by ac_nf) ?_);refine callWith_kw (id := "min") (bC (aS pos ae s σ H _ J h) fun us s1 bw=>?_) (he:=he pos) (hplain:=cR pos);obtain ⟨vs,H1,a5,cQ,bG⟩:=bw;obtain ⟨l,b9,v1,v2,g,rfl,a0,cj,au,aH,bP,q⟩:=bG;refine kws_cons (aeJ a5 T bP o_ Gd fun f c' aw s2 bR bO bM pj Iz mT hK=>kws_nil ?_);obtain ⟨kL,abx⟩:=q aw bO bM pj;have yz:=a0.p bO bP;have cell:∀ {ae:List (Addr × Obj)} {s:Shared} (bF:Inv X ae σ aw s) {i:Nat} {x:Str} {v:V} {cl:Addr},X.N[i]? = some x->σ[i]? = some (some v)->X.env.scope.names.lookup x=some .cell->X.env.cells.lookup x=some cl->∃ u,bI v u/\s.heap.IsCell cl (some u):=by
  intro ae s bF i x v cl br ev ah q7;obtain ⟨m,a4,aiw⟩:=bF.loc;obtain ⟨u,fw,lo⟩:=aiw i x v br ev (.inr (.inl ah));have az:X.env.kindOf x=some .cell:=ah;rcases lo with ⟨w,_⟩ | ⟨_,ai8,dx,eb⟩
  .rw [az] at w;cases w
  .rw [q7] at dx;cases dx;exact ⟨u,fw,eb⟩
 have Wh:cu ≠ cS:=fun w=>S.ne (J.ok.inj _ _ _ af (by rw [w];exact ak))
 cases cQ with
 | cons r ru=>
  cases ru;cases r;have aff:0 < b9.length:=Rk.mpr cj;refine ahn (n:=b9.length) (P:=fun i v=>∃ t,v=.int (b9.getD i 0) t) (fun i=>g (b9.getD i 0)) (a5.ok.hd ay) bR (fun ae s bF=>?_) aff (fun i v ag aI ae s bF=>?_) fun i v ai ag aI sS bF=>?_
  .obtain ⟨a',cT,pl,aT⟩:=bF.list yz;have aL:=cT.length;rw [aZ] at aL;refine ⟨a',aL.symm,fun i v aI=>?_,pl.isList⟩;have ag:i < b9.length:=by have:=(b'.mp aI).1;omega
   obtain ⟨w,hw,hh⟩:=cT.get (show (b9.map V.int)[i]? = some (.int b9[i]) by rw [c5,bo ag];rfl);rw [aI] at hw;cases hw;rw [jZ,bo ag];exact hh
  .obtain ⟨t',yv,rfl⟩:=oD f c' s aw;have hm:b9.getD i 0 ∈ b9:=by rw [jZ,bo ag];exact iM ag
   exact adf (a:=.int (b9.getD i 0)) S ao.in1 a5.ok.frames bF Wh (bF.i4 _ _ af) (bF.i4 _ _ ak) (cell bF TV au b1 af) (cell bF V1 aH dH ak) Iz mT (fun pm jH=>aa c' pm jH v) aI yv (kL _ hm)
  .obtain ⟨tk,rfl⟩:=aI;refine ⟨.int (b9.getD i 0),aw,bF,⟨tk,rfl⟩,abx i _ (by rw [jZ,bo ag];rfl) fun j n aJ=>?_⟩;have jv:j < b9.length:=(b'.mp aJ).1;have e:b9.getD j 0=n:=by rw [jZ,aJ];rfl
   have:=sS j jv;rw [e] at this;exact this
theorem b_.ahN {w:World} {K:ba} {mg:Str->Option Value} {base:Heap} {x qual:Str} {st:Stmt} {fd:FuncData} {N ps:List Str} {k:Nat} (F:b_ K x qual st f fd) (S:ck N ps (bt st)) (len:∀ vs H Q E,sp vs H Q E->vs.length=ps.length)
  (oD:∀ (fo:Value),fd.code=fo->∀ (A:Around) (outer:List Env) (s:Shared) (H:ar) (vs:List V) (Q:cX) (E:fS),ec k (A.deeper (envOfC qual (bt st) s.heap.objs.size f fo))->sp vs H Q E ->
   ∃ t,kQ (KK dC P w K mg base N qual (bt st) f fo A outer s H E).kT (rl st) t/\t { cf:=fun _ I=>Q .b6 I,kK:=Q } (start N vs) H):cH P w K mg base dC (k + 1) f fd ps sp:=by
 obtain ⟨nf,dn,dz,doc,pm,an,fo,ez,qH,rfl,lk,ki⟩:=F.ex;refine IN lk ki S len fun A outer s H vs Q E ao nI=>?_
 obtain ⟨t,h,q⟩:=oD fo rfl A outer s H vs Q E ao nI;exact ⟨t,h.kT,q⟩
def PJ (_:Addr):Prop:=True
noncomputable abbrev Rf {P:Addr} (_:PJ P):Addr:=P
theorem TO {l:PySem.W.OpenLaw} {n k:Nat} {q:Program} {loose:List Str} {BL:(Str->Option Value)->Heap->Prop} {s_:World->Heap->Prop} {d:DefRec} {K:Params->ba} {CX:jl} {sp:ba->Addr->bU} {x:Str} {Pt:Addr}
  (a4:l.most=some n) (pB:n <= sizeLine) (CA:d.params.defaults=[]) (ao:ec k callerA)
  (afU:∀ (w:World) (h:Heap),s_ w h->(K w.params).In h) (hQ:∀ (w:World) (h:Heap),s_ w h->h.get? Pt=some (Mk #[])) (fR:∀ p,adL (K p)=true)
  (F:∀ (w:World) (mg:Str->Option Value) (f3:Addr) (h:Heap),(K w.params).In h->h.Ns mainGlobals mg->mg d.name=some (.ref f3)->PJ Pt ->
   ∃ (fd:FuncData) (c:Addr),(∀ (s:Shared) (u:Value),BindsTo s fd ⟨[u],[]⟩ [(x,u)])/\Vn (K w.params) c Pt=true /\
    ∀ (base:Heap),(K w.params).In base->base.Ns mainGlobals mg->pE base c Pt->base.BuiltinsAt mg Pt->cH l.prog w (K w.params) mg base CX k f3 fd [x] (sp (K w.params) Pt))
  (nI:∀ (K:ba) (H:ar) (a Pt:Addr) (ns:List Int),ns.length <= n->BR Pt H->aC K H a (ns.map V.int)->sp K Pt [.ref a] H (fun v _=>v=.bk true) fun _ _ _=>False)
  (FH:∀ (H:ar) (s:Shared) (e:Value) (ai:Shared),CX [] H s (fun _ _ _=>False) e ai->False) :
  PySem.W.WalkO q loose BL s_ l.row.toRowW d [] (fun f vs=>Tv f vs):=by
 refine MD.adp a4 CA fun w fk dd mg lN f3 o pm cd doc a vs ns G Y aY hd ki ur Fj hints hlen aQ=>?_
 have jU:=afU w _ Y;obtain ⟨fd,c,aa,ay,oz⟩:=F w mg f3 _ jU G.T.g ur trivial;exact XM (c:=c) (Pt:=Pt) jU (fR w.params) G.T.g G.T.b G.T.builtins G.T.nolimit aQ G.T.bmain (PySem.W.codeHd_of_K jU ay) (hQ w _ Y) Fj hints (c_ hlen pB) ao oz aa (fun H lx d4=>nI (K w.params) H a Pt ns hlen lx d4) fun H e ai=>FH H dd e ai
noncomputable def RW (st:Stmt):Expr:=match (rl st).getLast? with
 | some (.Return (some (.Call _ _ [⟨_,e,_⟩] _)) _)=>e
 | _=>.Constant .none 0 ⟨0,0,0,0⟩
noncomputable def Cs (t:d6):d6:=fun D σ H=>∃ d kvs,H d=some (.bu kvs)/\t { cf:=fun aB I=>∃ o,I d=some (.eM o (.bu kvs))/\D.cf aB (upd I d (.bu kvs)),kK:=fun _ _=>False } σ H
theorem ae5 {st:Stmt} {t:d6} (h:hy X st t):hy X st (Cs t):=by
 intro ae s σ H D J q;obtain ⟨d,kvs,p7,q⟩:=q;refine bC (h ae s σ H _ J q) fun f s1 a0=>?_
 cases f with
 | next=>
  obtain ⟨f_,H1,a5,o,au,bG⟩:=a0;refine ⟨f_,_,Nf a5 au (fun dZ u z=>?_),bG⟩;have:=J.base.jz d dZ u z;rw [p7] at this;cases this
 | ret u=>obtain ⟨_,_,_,_,_,z⟩:=a0;exact z.elim
 | brk=>obtain ⟨_,_,_,z⟩:=a0;exact z.elim
 | cont=>obtain ⟨_,_,_,z⟩:=a0;exact z.elim
theorem dE (t u:d6) (D:g8) (σ:St) (H:ar):IW t u D σ H=(t { D with cf:=u D } σ H):=rfl
theorem MW (K:ba):Kt K a_ fK f D σ H=(fK σ H fun y H1=>a_ σ H1 fun x aw=>fe x fun a=>∃ C aq aN,aw a=some (.ins C aq aN)/\gX K C/\ac K C f/\aN.length < 1000 /\
 D.cf σ (upd aw a (.ins C aq (cZ f y aN)))):=rfl
theorem LQ (K:ba) (kk:V->V->ar->cX->Prop):Kl K a_ fK kk f D σ H=(a_ σ H fun x H1=>∃ a C aq aN v,x=.ref a/\H1 a=some (.ins C aq aN)/\gX K C/\ac K C f/\aN.lookup f=some v /\
 fK σ H1 fun y aw=>kk v y aw fun z bf=>∃ g9 mc,bf a=some (.ins C g9 mc)/\mc.length < 1000/\D.cf σ (upd bf a (.ins C g9 (cZ f z mc)))):=rfl
theorem LY (t:fE):HR C m sp dvs E a_ t σ H Q=(a_ σ H fun x H1=>fe x fun a=>∃ aq aN,H1 a=some (.ins C aq aN)/\aN.lookup m=none /\
 t σ H1 fun vs aw=>sp (x :: (vs ++ dvs)) aw Q E):=rfl
theorem O1 (t:fE):M9 C sp dvs E t σ H Q=(t σ H fun vs H1=>∀ x aq,H1 x=none->H1 aq=none->aq ≠ x ->
 sp (.ref x :: (vs ++ dvs)) (upd (upd H1 aq (.own x)) x (.ins C aq [])) (fun v aw=>v=.b6/\Q (.ref x) aw) E):=rfl
theorem Rh (K:ba) (x:V) (lo:Option Int) (ag:Option Int) (H:ar) (Q:cX):Qy K x lo ag H Q=(∃ a xs,x=.ref a/\di K H a xs /\
 ¬ (eV.c1 xs.length 0 lo=0/\eV.c1 xs.length xs.length ag=xs.length)/\∀ p,H p=none->Q (.ref p) (upd H p (.tup (iU xs lo ag)))):=rfl
theorem Of (fa ty qZ:TE):Kv fa ty qZ σ H Q=(fa σ H fun x H1=>∃ a,x=.ref a/\Bc H1 a/\ty σ H1 fun y aw=>qZ σ aw fun z bf=>∃ kvs k,bf a=some (.bu kvs)/\y=dz k /\
 (∀ v,cM kvs k=some v->Q v (upd bf a (.bu (k7 kvs k))))/\(cM kvs k=none->Q z bf)):=rfl
theorem Mt (t:fE):MJ nu m nD E a_ t σ H Q=(a_ σ H fun x H1=>∃ a C aq aN,x=.ref a/\H1 a=some (.ins C aq aN)/\nu C/\aN.lookup m=none /\
 t σ H1 fun vs aw=>nD C (x :: vs) aw Q E):=rfl
theorem N5 (K:ba) (t:TE):R7 K Pt p3 q i1 i2 t a_ σ H Q=(a_ σ H fun vs H1=>∃ l b9 v1 v2,∃ g:Int->Int,vs=[.ref l]/\aC K H1 l (rq V.int b9)/\b9 ≠ [] /\
 σ[i1]? = some (some v1)/\σ[i2]? = some (some v2)/\Tab H1 Pt p3 q/\∀ aw,kZ Pt H1 aw->(aP H1->aP aw)->Tab aw Pt p3 q ->
  (∀ n ∈ b9,t [some (.int n),some v1,some v2] aw fun x I=>x=.int (g n)/\I=aw)/\∀ (i:Nat) m,b9[i]? = some m->(∀ (j:Nat) n,b9[j]? = some n->g m <= g n/\(j < i->g m < g n))->Q (.int m) aw):=rfl
def dO (bF:ji) (g:gw) (bP:d6) (D:g8) (σ:St) (H:ar):Prop:=∃ W:Nat->Nat->St->ar->Prop,(∃ m,W 0 m σ H)/\∀ i m σ H,W i m σ H ->
 (bF.stop i H/\D.cf σ H)\/(bF.go i H/\∃ N:St->ar->Prop,(∀ aB I,N aB I->∃ dm,dm < m/\W (i + 1) dm aB I)/\∀ x I,bF.oL i H x I->g x σ I fun cv aw=>bP { D with cf:=N,ez:=N,cw:=D.cf } cv aw)
theorem KO:NH hk g bP D σ H=hk σ H fun bF H1=>dO bF g bP D σ H1:=rfl
def c9 (bF:ji) (g:gw) (dj:TT) (bL:TE) (du:St) (Q:cX) (H:ar):Prop:=∃ W:Nat->Nat->List V->ar->Prop,(∃ m,W 0 m [] H)/\rL bF g dj bL du Q W
theorem OP:KM hk g dj bL sel σ H Q=hk σ H fun bF H1=>c9 bF g dj bL (l0 sel σ) Q H1:=rfl
theorem M8:Mw a_ σ H R=(a_ σ H fun vs H1=>lO vs fun x=>gg x fun j=>-4611686018427387904 <= j/\j < 4611686018427387904/\R (mI 0 j.toNat) H1):=rfl
theorem Yw (f:α->β):[].map f=[]:=rfl
theorem aco (f:α->β) (a:α) (l:List α):(a :: l).map f=f a :: l.map f:=rfl
theorem aeM (l:List α):[] ++ l=l:=rfl
theorem aeA (a:α) (l r:List α):(a :: l) ++ r=a :: (l ++ r):=rfl
theorem ac_ (a b:α) (l:List α):(a :: l).set 0 b=b :: l:=rfl
theorem VD (a b:α) (l:List α) (n:Nat):(a :: l).set (n + 1) b=a :: l.set n b:=rfl
theorem SU (a:α) (l:List α):(a :: l)[0]? = some a:=rfl
theorem ahe (a:α) (l:List α) (n:Nat):(a :: l)[n + 1]? = l[n]?:=rfl
theorem ZM:([]:List α).length=0:=rfl
theorem adn (a:α) (l:List α):(a :: l).length=l.length + 1:=rfl
theorem XJ (f:α->Option β):(none:Option α).bind f=none:=rfl
theorem aeO (f:α->Option β) (a:α):(some a).bind f=f a:=rfl
theorem aay (a:Option α):(some a).join=a:=rfl
theorem ZW:(none:Option (Option α)).join=none:=rfl
theorem QE (sel:List (Option Nat)) (σ:St):l0 sel σ=sel.map fun o=>o.bind fun j=>(σ[j]?).join:=rfl
theorem dt {t u:d6} (b:Bool) (ay:∀ Q:Bool->ar->Prop,Q b H->c σ H Q) (af:b=true->t D σ H) (ak:b=false->u D σ H):CY c t u D σ H:=by
 refine ay _ ?_;cases b with
 | true=>exact af rfl
 | false=>exact ak rfl
theorem B6 {t u:d6} (R:Bool->ar->Prop) (ay:∀ Q:Bool->ar->Prop,(∀ b I,R b I->Q b I)->c σ H Q) (af:∀ I,R true I->t D σ I) (ak:∀ I,R false I->u D σ I):CY c t u D σ H:=by
 refine ay _ fun b I r=>?_
 cases b with
 | true=>exact af I r
 | false=>exact ak I r
theorem ra {t:d6} {D:g8} {σ:St} {H:ar} (R:St->ar->Prop) (h:∀ b2:g8,(∀ σ H,R σ H->b2.cf σ H)->b2.kK=D.kK->b2.cw=D.cw->b2.ez=D.ez->t b2 σ H) (hq:∀ σ H,R σ H->D.cf σ H):t D σ H:=h D hq rfl rfl rfl
theorem G6 {t:d6} {D:g8} {σ:St} {H:ar} (R:St->ar->Prop) (h:∀ b2:g8,(∀ σ H,R σ H->b2.cf σ H)->t b2 σ H) (hq:∀ M,M=D.cf->∀ σ H,R σ H->M σ H):t D σ H:=h D (hq _ rfl)
theorem Sd {p:Prop} (h:∀ q,q=p->q):p:=h p rfl
theorem tW {t:d6} {D:g8} {σ:St} {H:ar} (R:St->ar->Prop) (h:∀ b2:g8,(∀ σ H,R σ H->b2.cf σ H)->t b2 σ H) (hq:∀ σ H,R σ H->D.cf σ H):t D σ H:=h D hq
theorem dc {t u:d6} {D:g8} {σ:St} {H:ar} (R:St->ar->Prop) (h:∀ b2:g8,(∀ σ H,R σ H->b2.cf σ H)->t b2 σ H) (hq:∀ M,M=u D->∀ σ H,R σ H->M σ H):IW t u D σ H:=h { D with cf:=u D } (hq _ rfl)
theorem agq (v:V) (ay:∀ Q:cX,Q v H->bL σ H Q) (h:D.kK v H):AK bL D σ H:=ay _ h
theorem nW (x y:Str):(x ++ y).length=x.length + y.length:=by
 show (x.cps ++ y.cps).size=_;rw [Array.size_append];rfl
theorem dO.range {lo:Int} {n:Nat} {g:gw} {bP:d6} {D:g8} {σ:St} {H:ar} (Pv:Nat->St->ar->Prop) (h0:Pv 0 σ H)
  (av:∀ i σ H,i < n->Pv i σ H->g (.int (lo + i)) σ H fun cv aw=>bP { D with cf:=Pv (i + 1),ez:=Pv (i + 1),cw:=D.cf } cv aw) (hd:∀ σ H,Pv n σ H->D.cf σ H):dO (mI lo n) g bP D σ H:=TL Pv h0 av hd
theorem dO.list {K:ba} (Pv:Nat->St->ar->Prop) (h0:Pv 0 σ H) (aL:∀ i σ H,i <= xs.length->Pv i σ H->aC K H a xs)
  (av:∀ i x σ H,xs[i]? = some x->Pv i σ H->g x σ H fun cv aw=>bP { D with cf:=Pv (i + 1),ez:=Pv (i + 1),cw:=D.cf } cv aw) (hd:∀ σ H,Pv xs.length σ H->D.cf σ H):dO (mO K a) g bP D σ H:=aca Pv h0 aL av hd
theorem dO.a' (Pv:Nat->St->ar->Prop) (h0:Pv 0 σ H)
  (av:∀ i x σ H,xs[i]? = some x->Pv i σ H->g x σ H fun cv aw=>bP { D with cf:=Pv (i + 1),ez:=Pv (i + 1),cw:=D.cf } cv aw) (hd:∀ σ H,Pv xs.length σ H->D.cf σ H):dO (o' xs) g bP D σ H:=Yj Pv h0 av hd
theorem c9.list {K:ba} (Pv:Nat->List V->ar->Prop) (aT:xs.length <= sizeLine) (h0:Pv 0 [] H) (aL:∀ i ys H,i <= xs.length->Pv i ys H->aC K H a xs/\ys.length <= i)
  (av:∀ i x ys H,xs[i]? = some x->Pv i ys H->oj Pv g dj bL du i x ys H) (hd:∀ ys H,Pv xs.length ys H->∀ p,H p=none->Q (.ref p) (upd H p (.lst ys))):c9 (mO K a) g dj bL du Q H:=Z' Pv aT h0 aL av hd
theorem c9.a' (Pv:Nat->List V->ar->Prop) (aT:xs.length <= sizeLine) (h0:Pv 0 [] H) (aL:∀ i ys H,i <= xs.length->Pv i ys H->ys.length <= i)
  (av:∀ i x ys H,xs[i]? = some x->Pv i ys H->oj Pv g dj bL du i x ys H) (hd:∀ ys H,Pv xs.length ys H->∀ p,H p=none->Q (.ref p) (upd H p (.lst ys))):c9 (o' xs) g dj bL du Q H:=UE Pv aT h0 aL av hd
theorem c9.range {lo:Int} {n:Nat} {g:gw} {dj:TT} {bL:TE} {du:St} {Q:cX} {H:ar} (Pv:Nat->List V->ar->Prop) (aT:n <= sizeLine) (h0:Pv 0 [] H) (aL:∀ i ys H,i <= n->Pv i ys H->ys.length <= i)
  (av:∀ i ys H,i < n->Pv i ys H->oj Pv g dj bL du i (.int (lo + i)) ys H) (hd:∀ ys H,Pv n ys H->∀ p,H p=none->Q (.ref p) (upd H p (.lst ys))):c9 (mI lo n) g dj bL du Q H:=wE Pv aT h0 aL av hd
theorem ZL {α β:Type} {xs:List α} {i:Nat} {x:α} (f:α->β) (h:xs[i]? = some x):(xs.take (i + 1)).map f=(xs.take i).map f ++ [f x]:=by
 rw [pf,h,eZ];rfl
theorem c9.WB {xs:List V} {g:gw} {bL:TE} {du:St} {Q:cX} {H:ar} (f:V->V) (aT:xs.length <= sizeLine) (av:∀ (i:Nat) (x:V) (N:V->ar->Prop),xs[i]? = some x->N (f x) H->g x du H fun cv aw=>Sub du cv/\bL cv aw N)
  (hd:∀ p,H p=none->Q (.ref p) (upd H p (.lst (xs.map f)))):c9 (o' xs) g oo bL du Q H:=by
 refine c9.a' (fun i ys I=>I=H/\ys=(xs.take i).map f) aT ⟨rfl,rfl⟩ (fun i ys I ag ⟨_,e⟩=>?_) (fun i x ys I ah ⟨au,aH⟩ N br=>?_) (fun ys I ⟨au,aH⟩ p ax=>?_)
 .rw [e,aZ,gD];omega
 .subst au;exact av i x (fun y cN=>N (ys ++ [y]) cN) ah (br _ _ ⟨rfl,by rw [aH,ZL f ah]⟩)
 .subst au;rw [aH,hB];exact hd p ax
theorem c9.afo {lo:Int} {n:Nat} {g:gw} {bL:TE} {du:St} {Q:cX} {H:ar} (f:Nat->V) (aT:n <= sizeLine) (av:∀ (i:Nat) (N:V->ar->Prop),i < n->N (f i) H->g (.int (lo + i)) du H fun cv aw=>Sub du cv/\bL cv aw N)
  (hd:∀ p,H p=none->Q (.ref p) (upd H p (.lst ((gx n).map f)))):c9 (mI lo n) g oo bL du Q H:=by
 refine c9.range (fun i ys I=>I=H/\ys=(gx i).map f) aT ⟨rfl,rfl⟩ (fun i ys I ag ⟨_,e⟩=>?_) (fun i ys I ag ⟨au,aH⟩ N br=>?_) (fun ys I ⟨au,aH⟩ p ax=>?_)
 .rw [e,aZ,rP];exact cn _
 .subst au;exact av i (fun y cN=>N (ys ++ [y]) cN) ag (br _ _ ⟨rfl,by rw [aH,uI,eZ];rfl⟩)
 .subst au;rw [aH];exact hd p ax
theorem c9.Zl {K:ba} (f:V->gj) (aL:aC K H a xs) (aT:xs.length <= sizeLine) (a4:∀ x,oY (f x)=true)
  (av:∀ (i:Nat) (x:V) (H1:ar) (N:V->ar->Prop),xs[i]? = some x->aO H H1->(aP H->aP H1)->(∀ q,H1 q=none->N (.ref q) (upd H1 q (f x)))->g x du H1 fun cv aw=>Sub du cv/\bL cv aw N)
  (hd:∀ (qs:List Addr) (H1:ar),aO H H1->(aP H->aP H1)->qs.length=xs.length->(∀ (j:Nat) (q:Addr) (x:V),qs[j]? = some q->xs[j]? = some x->H1 q=some (f x)/\H q=none)->∀ p,H1 p=none->Q (.ref p) (upd H1 p (.lst (qs.map V.ref)))):c9 (mO K a) g oo bL du Q H:=by
 refine c9.list (fun i ys I=>∃ qs:List Addr,ys=qs.map V.ref/\qs.length=i/\aO H I/\(aP H->aP I)/\∀ (j:Nat) (q:Addr) (x:V),qs[j]? = some q->xs[j]? = some x->I q=some (f x)/\H q=none) aT
  ⟨[],rfl,rfl,aO.refl H,id,fun j q x h _=>by simp at h⟩ ?_ ?_ ?_
 .rintro i ys I ag bb;refine Sd fun cY aK=>?_
  obtain ⟨qs,e,aH,bO,_,_⟩:=bb;subst aK;exact ⟨aL.same bO,by rw [e,aZ];omega⟩
 .rintro i x ys I ah ⟨qs,au,aH,bO,bM,al⟩ N br;refine av i x I (fun y cN=>N (ys ++ [y]) cN) ah bO bM fun q a0=>br _ _ ⟨qs ++ [q],by rw [au,eZ];rfl,by rw [dY,aH];rfl,bO.gf (bO.free a0),fun n=>(bM n).upd (a4 x),fun j e9 fN af ak=>?_⟩
  by_cases aJ:j < qs.length
  .rw [qq aJ] at af;obtain ⟨fh,eS⟩:=al j e9 fN af ak;exact ⟨by rw [aE (dy fh a0)];exact fh,eS⟩
  .rw [qP (by omega)] at af;have oI:j - qs.length=0:=by
    cases dr:j - qs.length with
    | zero=>rfl
    | succ n=>rw [dr] at af;simp at af
   rw [oI] at af;have bX:q=e9:=by simpa using af
   subst bX;have ff:j=i:=by omega
   subst ff;rw [ah] at ak;cases ak;exact ⟨aV,bO.free a0⟩
 .rintro ys I ⟨qs,au,aH,bO,bM,al⟩ p ax;subst au;exact hd qs I bO bM aH al p ax
theorem dO.of (Pv:Nat->St->ar->Prop) (h0:Pv 0 σ H) (tw:∀ i σ H,i < n->Pv i σ H->bF.go i H) (d0:∀ σ H,Pv n σ H->bF.stop n H)
  (av:∀ i σ H x I,i < n->Pv i σ H->bF.oL i H x I->g x σ I fun cv aw=>bP { D with cf:=Pv (i + 1),ez:=Pv (i + 1),cw:=D.cf } cv aw) (hd:∀ σ H,Pv n σ H->D.cf σ H):dO bF g bP D σ H:=by
 refine ⟨fun i m σ H=>m=n - i/\i <= n/\Pv i σ H,⟨n,by simp,fi _,h0⟩,?_⟩;rintro i m σ H ⟨rfl,ag,p⟩;by_cases dG:i < n
 .exact .inr ⟨tw i σ H dG p,Pv (i + 1),fun aB I jn=>⟨n - (i + 1),by omega,rfl,dG,jn⟩,fun x I y=>av i σ H x I dG p y⟩
 .have e:i=n:=by omega
  subst e;exact .inl ⟨d0 σ H p,hd σ H p⟩
theorem c9.of (Pv:Nat->List V->ar->Prop) (aT:n <= sizeLine) (h0:Pv 0 [] H) (tw:∀ i ys H,i < n->Pv i ys H->bF.go i H) (d0:∀ ys H,Pv n ys H->bF.stop n H) (aL:∀ i ys H,i < n->Pv i ys H->ys.length <= i)
  (av:∀ i ys H x I,i < n->Pv i ys H->bF.oL i H x I->oj Pv g dj bL du i x ys I) (hd:∀ ys H,Pv n ys H->∀ p,H p=none->Q (.ref p) (upd H p (.lst ys))):c9 bF g dj bL du Q H:=by
 refine ⟨fun i m ys H=>m=n - i/\i <= n/\Pv i ys H,⟨n,by simp,fi _,h0⟩,?_⟩;rintro i m ys H ⟨rfl,ag,p⟩;by_cases dG:i < n
 .have Bx:=aL i ys H dG p;refine .inr ⟨tw i ys H dG p,by omega,fun x I y=>?_⟩;exact av i ys H x I dG p y (fun js I=>∃ dm,dm < n - i/\dm=n - (i + 1)/\i + 1 <= n/\Pv (i + 1) js I) fun js I r=>⟨n - (i + 1),by omega,rfl,dG,r⟩
 .have e:i=n:=by omega
  subst e;exact .inl ⟨d0 ys H p,hd ys H p⟩
section
variable {K:ba} {a b:Addr} {xs ys:List V} {g:gw} {bP:d6} {D:g8} {σ du:St} {H:ar} {dj:TT} {bL:TE} {Q:cX}
theorem dO.enum (Pv:Nat->St->ar->Prop) (h0:Pv 0 σ H) (aL:∀ i σ H,i <= xs.length->Pv i σ H->aC K H a xs)
  (av:∀ i x σ H p,xs[i]? = some x->Pv i σ H->H p=none->g (.ref p) σ (upd H p (.tup [.int i,x])) fun cv aw=>bP { D with cf:=Pv (i + 1),ez:=Pv (i + 1),cw:=D.cf } cv aw) (hd:∀ σ H,Pv xs.length σ H->D.cf σ H):dO (Ak K a) g bP D σ H:=by
 refine dO.of (n:=xs.length) Pv h0 (fun i σ H ag p=>⟨xs,xs[i],aL i σ H (nF ag) p,by simp [ag]⟩) (fun σ H p=>⟨xs,aL _ σ H (cn _) p,cn _⟩) (fun i σ H v I ag p y=>?_) hd;obtain ⟨q,x,a0,rfl,ah,rfl⟩:=y;exact av i x σ H q (ah xs (aL i σ H (nF ag) p)) p a0
theorem dO.zip (Pv:Nat->St->ar->Prop) (h0:Pv 0 σ H) (aL:∀ i σ H,i <= xs.length->Pv i σ H->aC K H a xs/\aC K H b ys) (n:Nat) (a4:n=min xs.length ys.length)
  (av:∀ i x y σ H p,xs[i]? = some x->ys[i]? = some y->Pv i σ H->H p=none->g (.ref p) σ (upd H p (.tup [x,y])) fun cv aw=>bP { D with cf:=Pv (i + 1),ez:=Pv (i + 1),cw:=D.cf } cv aw) (hd:∀ σ H,Pv n σ H->D.cf σ H):dO (Xp K a b) g bP D σ H:=by
 subst a4;refine dO.of (n:=min xs.length ys.length) Pv h0 (fun i σ H ag p=>?_) (fun σ H p=>?_) (fun i σ H v I ag p y=>?_) hd
 .obtain ⟨fh,eS⟩:=aL i σ H (by omega) p;exact ⟨xs,ys,xs[i],ys[i],fh,eS,by rw [bo (by omega)],by rw [bo (by omega)]⟩
 .obtain ⟨fh,eS⟩:=aL _ σ H (by omega) p;exact ⟨xs,ys,fh,eS,by omega⟩
 .obtain ⟨q,x,y,a0,rfl,ah,bg,rfl⟩:=y;obtain ⟨fh,eS⟩:=aL i σ H (by omega) p;exact av i x y σ H q (ah xs fh) (bg ys eS) p a0
theorem c9.enum (Pv:Nat->List V->ar->Prop) (aT:xs.length <= sizeLine) (h0:Pv 0 [] H) (aL:∀ i ys H,i <= xs.length->Pv i ys H->aC K H a xs/\ys.length <= i)
  (av:∀ i x ys H p,xs[i]? = some x->Pv i ys H->H p=none->oj Pv g dj bL du i (.ref p) ys (upd H p (.tup [.int i,x]))) (hd:∀ ys H,Pv xs.length ys H->∀ p,H p=none->Q (.ref p) (upd H p (.lst ys))):c9 (Ak K a) g dj bL du Q H:=by
 refine c9.of (n:=xs.length) Pv aT h0 (fun i ys H ag p=>⟨xs,xs[i],(aL i ys H (nF ag) p).1,by simp [ag]⟩) (fun ys H p=>⟨xs,(aL _ ys H (cn _) p).1,cn _⟩) (fun i ys H ag p=>(aL i ys H (nF ag) p).2) (fun i zs H v I ag p y=>?_) hd;obtain ⟨q,x,a0,rfl,ah,rfl⟩:=y;exact av i x zs H q (ah xs (aL i zs H (nF ag) p).1) p a0
theorem aim {p:Addr} {x y:V} (h:di K H p [x,y]) (q:R ((σ.set i (some x)).set j (some y)) H):sP K 2 (rn (gU i) (rn (gU j) wy)) (.ref p) σ H R:=
 ⟨p,_,rfl,h,rfl,x,_,rfl,y,_,rfl,rfl,q⟩
theorem yj {p:Addr} {x y:V} (q:R ((σ.set i (some x)).set j (some y)) (upd H p (.tup [x,y]))):sP K 2 (rn (gU i) (rn (gU j) wy)) (.ref p) σ (upd H p (.tup [x,y])) R:=
 aim (.inl (.inl aV)) q
end
theorem Sub.Xc {v w:Option V}:Sub (none :: none :: r) (v :: w :: r):=by
 refine ⟨rfl,fun i u h=>?_⟩
 match i with
 | 0=>cases h
 | 1=>cases h
 | i + 2=>exact h
theorem Sub.ub {v w z:Option V}:Sub (none :: none :: none :: r) (v :: w :: z :: r):=by
 refine ⟨rfl,fun i u h=>?_⟩
 match i with
 | 0=>cases h
 | 1=>cases h
 | 2=>cases h
 | i + 3=>exact h
theorem c9.ly {K:ba} (aL:aC K H a xs) (aT:xs.length <= sizeLine) (he:zs.length=xs.length)
  (av:∀ (i:Nat) (x z:V) (N:V->ar->Prop),xs[i]? = some x->zs[i]? = some z->N z H->g x du H fun cv aw=>Sub du cv/\bL cv aw N) (hd:∀ p,H p=none->Q (.ref p) (upd H p (.lst zs))):c9 (mO K a) g oo bL du Q H:=by
 refine c9.list (fun i ys I=>I=H/\ys=zs.take i) aT ⟨rfl,rfl⟩ (fun i ys I ag ⟨fg,e⟩=>?_) (fun i x ys I ah ⟨au,aH⟩ N br=>?_) (fun ys I ⟨au,aH⟩ p ax=>?_)
 .subst fg;exact ⟨aL,by rw [e,gD];omega⟩
 .subst au;have ag:i < zs.length:=by rw [he];exact (b'.mp ah).1
  have ia:zs[i]? = some zs[i]:=bo ag;exact av i x zs[i] (fun y cN=>N (ys ++ [y]) cN) ah ia (br _ _ ⟨rfl,by rw [aH,pf,ia];rfl⟩)
 .subst au;rw [aH,<- he,hB];exact hd p ax
theorem c9.T1 {K:ba} (aL:di K H a xs) (aT:xs.length <= sizeLine) (he:zs.length=xs.length)
  (av:∀ (i:Nat) (x z:V) (N:V->ar->Prop),xs[i]? = some x->zs[i]? = some z->N z H->g x du H fun cv aw=>Sub du cv/\bL cv aw N) (hd:∀ p,H p=none->Q (.ref p) (upd H p (.lst zs))):c9 (zc K a) g oo bL du Q H:=by
 refine ZA (xs:=xs) (fun i ys I=>I=H/\ys=zs.take i) aT ⟨rfl,rfl⟩ (fun i ys I ag ⟨fg,e⟩=>?_) (fun i x ys I ah ⟨au,aH⟩ N br=>?_) (fun ys I ⟨au,aH⟩ p ax=>?_)
 .subst fg;exact ⟨aL,by rw [e,gD];omega⟩
 .subst au;have ag:i < zs.length:=by rw [he];exact (b'.mp ah).1
  have ia:zs[i]? = some zs[i]:=bo ag;exact av i x zs[i] (fun y cN=>N (ys ++ [y]) cN) ah ia (br _ _ ⟨rfl,by rw [aH,pf,ia];rfl⟩)
 .subst au;rw [aH,<- he,hB];exact hd p ax
theorem c9.um {K:ba} {a:Addr} {xs:List V} {ss:List (Option V)} {g:gw} {dj:TT} {bL:TE} {du:St} {Q:cX} {H:ar} (aL:aC K H a xs) (aT:xs.length <= sizeLine) (he:ss.length=xs.length)
  (av:∀ (i:Nat) (x:V) (o:Option V) (ys:List V) (N:List V->ar->Prop),xs[i]? = some x->ss[i]? = some o->N (ys ++ o.toList) H->g x du H fun cv aw=>Sub du cv/\dj cv aw fun c bf=>if c=true then bL cv bf fun y cN=>N (ys ++ [y]) cN else N ys bf)
  (hd:∀ p,H p=none->Q (.ref p) (upd H p (.lst (ss.flatMap B2)))):c9 (mO K a) g dj bL du Q H:=by
 refine c9.list (fun i ys I=>I=H/\ys=(ss.take i).flatMap B2/\ys.length <= i) aT ⟨rfl,rfl,cn _⟩ (fun i ys I ag ⟨fg,e,bT⟩=>?_) (fun i x ys I ah ⟨au,aH,bX⟩ N br=>?_) (fun ys I ⟨au,aH,_⟩ p ax=>?_)
 .subst fg;exact ⟨aL,bT⟩
 .subst au;have ag:i < ss.length:=by rw [he];exact (b'.mp ah).1
  have ia:ss[i]? = some ss[i]:=bo ag;refine av i x ss[i] ys N ah ia (br _ _ ⟨rfl,by rw [aH,pf,ia,xZ];simp,?_⟩);rw [dY];cases ss[i] <;> simp <;> omega
 .subst au;rw [aH,<- he,hB];exact hd p ax
theorem abQ (Pv:St->ar->Prop) (uw:St->ar->Nat) (h0:Pv σ H)
  (av:∀ σ H,Pv σ H->∃ b:Bool,(∀ Q:Bool->ar->Prop,Q b H->c σ H Q)/\(b=true->bP { D with cf:=fun aB I=>Pv aB I/\uw aB I < uw σ H,ez:=fun aB I=>Pv aB I/\uw aB I < uw σ H,cw:=D.cf } σ H)/\(b=false->D.cf σ H)):OO c bP D σ H:=by
 refine ⟨fun m σ H=>m=uw σ H/\Pv σ H,⟨_,rfl,h0⟩,?_⟩;rintro m σ H ⟨rfl,p⟩;obtain ⟨b,ay,af,ak⟩:=av σ H p;refine ay _ ?_;cases b with
 | true=>exact ⟨_,fun aB I ⟨jn,l⟩=>⟨_,l,rfl,jn⟩,af rfl⟩
 | false=>exact ak rfl
theorem Sub.name:Sub (none :: r) (v :: r):=by
 refine ⟨rfl,fun i w h=>?_⟩;cases i with
 | zero=>cases h
 | succ i=>exact h
theorem b7 {x:Str} {e:Expr} (br:X.N.Nodup) (he:bq X e bL) (ag:X.N[i]? = some x:=by rfl) (ah:Loc X.env.scope x:=by exact pq rfl) (av:swapsWith e (some (.Name x pos')) pos.line X.env=pure false:=by rfl) (hf:X.fn x=true\/X.env.scope.names.lookup x=some .local:=by first | exact .inl rfl | exact .inr rfl | assumption):hy X (.Assign [.Name x pos'] e pos) (sI bL (gU i)):=px br ag ah he av hf
theorem cA {x:Str} (br:X.N.Nodup) (ag:X.N[i]? = some x:=by rfl) (ah:Loc X.env.scope x:=by exact pq rfl) (hf:X.fn x=true\/X.env.scope.names.lookup x=some .local:=by first | exact .inl rfl | exact .inr rfl | assumption):mZ X (.Name x pos) (gU i):=HF br ag ah hf
theorem bV (ao:wz X r) (aS:bq X a a_) (aa:bq X b bP) (av:Na b:=by exact fun _ _=>rfl):bq X (.Subscript a b pos) (qX r a_ bP):=Zg ao aS aa av
theorem cm {k:Nat} {fd:FuncData} {x:Str} {p pos:Pos} {e:Expr} {t:fE} (F:cH X.prog X.w X.K X.mg X.base dC k f fd ps sp) (ao:ec k X.A) (hm:X.mg x=some (.ref f)) (az:qV X.K (.ref f)=true) (aa:b5 X.K fd ps []) (aS:jN X (e :: a3) t) (aQ:lS X x:=by rfl) (mE:(x == ("__debug__" : Str))=false:=by decide) (he:starEach (e :: a3) X.env=(false,eval e X.env) :: starEach a3 X.env:=by rfl) (cR:(backTo pos (starEach a3 X.env)).any (·.1)=false:=by rfl):bq X (.Call (.Name x p) (e :: a3) [] pos) (uY sp [] IZ t):=afH F ao aQ hm az aa .nil cI aS mE he cR
end L2
local macro_rules | `(tactic| nofun)=>`(tactic| ((try dsimp only [L2.KK,L2.WK,L2.a7.kT,L2.a7.ih,L2.a7.block,L2.a7.qo,L2.a7.a4,L2.Bq,L2.rR,L2.y1,L2.Cr,L2.E0,L2.DP,L2.Dq,L2.GC,L2.C2,L2.Co,L2.i9,L2.dE,L2.Fm,L2.Hi,L2.AK,L2.Gw,L2.Gz,L2.gU,L2.wy,L2.rn,L2.sP,L2.sI,L2.Hr,L2.Jq,L2.qX,L2.HS,L2.u',L2.nN,L2.Bn,L2.Dx,L2.G1,L2.CL,L2.PP,L2.MW,L2.LQ,L2.Cy,L2.w9,L2.De,L2.Ih,L2.DU,L2.uY,L2.LY,L2.O1,L2.yH,L2.HU,L2.DJ,L2.Ir,L2.Rh,L2.F4,L2.H8,L2.WP,L2.EF,L2.A5,L2.FO,L2.GZ,L2.DD,L2.Ea,L2.FD,L2.CD,L2.H2,L2.HK,L2.I5,L2.HV,L2.Of,L2.oo,L2.Cv,L2.Hz,L2.XL,L2.GN,L2.Mt,L2.GM,L2.Fi,L2.oH,L2.Fn,L2.JC,L2.G2,L2.El,L2.EO,L2.N5,L2.Cs,L2.KO,L2.OP,L2.M8,L2.Ln,L2.QX,L2.Sa,L2.PB,L2.K5,L2.Ql,L2.Qw,L2.start,L2.QE,L2.Yw,L2.aco,L2.aeM,L2.aeA,L2.ac_,L2.VD,L2.SU,L2.ahe,L2.ZM,L2.adn,L2.XJ,L2.aeO,L2.aay,L2.ZW,af4,Uo,Kn]);(try simp only [L2.Bq,L2.rR,L2.y1,L2.Cr,L2.E0,L2.DP,L2.Dq,L2.GC,L2.C2,L2.Co,L2.i9,L2.dE,L2.Fm,L2.Hi,L2.AK,L2.Gw,L2.Gz,L2.gU,L2.wy,L2.rn,L2.sP,L2.sI,L2.Hr,L2.Jq,L2.qX,L2.HS,L2.u',L2.nN,L2.Bn,L2.Dx,L2.G1,L2.CL,L2.PP,L2.MW,L2.LQ,L2.Cy,L2.w9,L2.De,L2.Ih,L2.DU,L2.uY,L2.LY,L2.O1,L2.yH,L2.HU,L2.DJ,L2.Ir,L2.Rh,L2.F4,L2.H8,L2.WP,L2.EF,L2.A5,L2.FO,L2.GZ,L2.DD,L2.Ea,L2.FD,L2.CD,L2.H2,L2.HK,L2.I5,L2.HV,L2.Of,L2.oo,L2.Cv,L2.Hz,L2.XL,L2.GN,L2.Mt,L2.GM,L2.Fi,L2.oH,L2.Fn,L2.JC,L2.G2,L2.El,L2.EO,L2.N5,L2.Cs,L2.KO,L2.OP,L2.M8,L2.Ln,L2.QX,L2.Sa,L2.PB,L2.K5,L2.Ql,L2.Qw,L2.xL,L2.TU,L2.aai,L2.adW,L2.adZ,L2.start,L2.QE,er,p6,Option.bind_none,vz,Option.join_some,Option.join_none,iu,vB,af4,Uo,Nat.zero_add,Kn,BC,wk,su,kp,kG,List.getElem?_cons_zero,Bs,Option.some.injEq,L2.V.int.injEq,L2.V.bk.injEq,L2.V.str.injEq,L2.V.ref.injEq,L2.V.ty.injEq,exists_eq_left',exists_eq_left,exists_and_left,List.cons.injEq,and_true,true_and,and_assoc,o8,reduceCtorEq,false_and,exists_false,and_false,ite_true,ite_false,if_true,if_false,HA,L2.B9,L2.DL,false_or,or_false,SX,Bool.not_false,decide_true,decide_false])))
local macro_rules | `(tactic| walk_at "B")=>`(tactic| first | rfl | (dsimp only [L2.a7.block];done) | (dsimp only [L2.a7.block];exact rfl))
local macro_rules | `(tactic| walk_at "F")=>`(tactic| exact ⟨rfl,rfl,rfl,by ac_nf,rfl,by ac_nf,by ac_nf⟩)
namespace L2
open PySem
theorem cF {P:Program} {w:World} {K:ba} {mg:Str->Option Value} {base:Heap} {C:jl} {m n:Nat} {f a:Addr} {fd b:FuncData} {ps q:List Str} {sp S:bU} (h:cH P w K mg base C m f fd ps sp) (g:cH P w K mg base C n f fd ps sp->cH P w K mg base C (n+1) a b q S) (hm:m<=n:=by decide):cH P w K mg base C (n+1) a b q S:=g (h.mono hm)
end L2
set_option hygiene false
local macro_rules | `(tactic| walk_at "O")=>`(tactic| (intro vs H Q E h;repeat (first | (obtain ⟨rfl,_⟩:=h;rfl) | (obtain ⟨_,h⟩:=h))))
set_option hygiene true
set_option hygiene false
local macro_rules | `(tactic| ac_rfl)=>`(tactic| refine Sd fun cY aK=>?_)
local macro_rules | `(tactic| exists $e,0)=>`(tactic| refine G6 $e (fun b2 bW=>?_) fun cY aK=>?_)
local macro_rules | `(tactic| exists $e,2)=>`(tactic| refine G6 $e (fun b2 bJ=>?_) fun cY aK=>?_)
local macro_rules | `(tactic| exists $e,9)=>`(tactic| refine ($e) (by walk_at "O") (fun _ _ _ s H vs Q E ao h=>?_))
set_option hygiene true
namespace My
open PySem L2
local macro_rules|`(~~~$x)=>`(some (L2.V.ref $x))
abbrev jb:List Str:=["self","name"]
abbrev ij:List Str:=["least","most","members"]
abbrev ke:List Str:=["crossing","rows"]
abbrev j6:List Str:=["self","name","start","end","off","near","least"]
abbrev pN:List Str:=["self","own_asked"]
abbrev p5:List Str:=["crossing","one","other"]
abbrev BQ:List Str:=["_law_script","_law_k","_law_many"]
abbrev uQ:List Str:=["word","signs","most"]
abbrev AZ:List Str:=["self","good"]
abbrev F2:List Str:=["self","choices"]
abbrev HG:List Str:=["self","low","high"]
abbrev x7:List Str:=["self","kind","name","start","end","off","near","least"]
abbrev B8:List Str:=["crossing","name"]
abbrev zq:List Str:=["stages","one","other"]
abbrev y5:List Str:=["places","way","second"]
abbrev yM:List Str:=["word","most_figures"]
abbrev vT:List Str:=["crossing","text"]
abbrev yN:List Str:=["reader","places","start"]
abbrev xy:List Str:=["sort","name","start","end","off","near","least"]
abbrev u9:List Str:=["_law_keeper","_law_stages_here","_law_here","_law_lasted","_law_asked"]
abbrev v7:List Str:=["self","row","told"]
abbrev vC:List Str:=["self","crossing","rows","one","other"]
abbrev vD:List Str:=["self","stages"]
abbrev zP:List Str:=["self","number"]
abbrev ya:List Str:=["places","way","place"]
abbrev Hw:List Str:=["word","low","high"]
abbrev yx:List Str:=["crossing","first","second","turns","one"]
abbrev Fg:List Str:=["crossing","first","second"]
abbrev F5:List Str:=["reader","crossing","left"]
abbrev Ab:List Str:=["reader","crossing","rows"]
abbrev Gh:List Str:=["reader","ways"]
abbrev zV:List Str:=["reader","places","ways"]
abbrev II:List Str:=["_law_script","_law_many"]
abbrev y3:List Str:=["_law_script","_law_most"]
abbrev z7:List Str:=["_law_places","_law_ways_here"]
abbrev E8:List Str:=["_law_one","_law_other","_law_places"]
abbrev CH:List Str:=["_law_ways_here","_law_one","_law_other"]
abbrev BI:List Str:=["_law_script","_law_places","_law_ways_here"]
abbrev zO:List Str:=["_law_ways_here","_law_stages_here"]
abbrev Bg:List Str:=["_law_script","_law_turn","_law_ways_here"]
abbrev Bo:List Str:=["_law_trams","_law_goal","_law_begun"]
abbrev BJ:List Str:=["self","crossing","rows"]
abbrev yX:List Str:=["self","asks"]
abbrev BX:List Str:=["self","places","ways"]
abbrev yt:List Str:=["name","crossing"]
abbrev Bu:List Str:=["least","most","members","crossing"]
abbrev zx:List Str:=["name","self"]
abbrev x9:List Str:=["_law_i","_law_ways_here"]
abbrev D1:List Str:=["crossing","rows","told"]
abbrev Hd:List Str:=["reader","crossing","left","first","members","alike"]
abbrev Eb:List Str:=["self","waited","same","others","choices","last","many"]
noncomputable def top (i:Nat):Stmt:=PySem.Challenge.pw_lampway_k39_turn_about.main.body.getD i (.Pass ⟨0,0,0,0⟩)
noncomputable abbrev Ph:Stmt:=top 9
theorem NN:ck ["places","way","place","steps"] ya (bt Ph):=(by walk_at "F")
noncomputable abbrev Qn:Stmt:=top 10
theorem SY:ck y5 y5 (bt Qn):=(by walk_at "F")
noncomputable abbrev PE:Stmt:=top 11
theorem DX:ck ["crossing","one","other","way","second"] p5 (bt PE):=(by walk_at "F")
noncomputable abbrev O3:Stmt:=top 12
theorem Ge:ck ["crossing","one","other","way","second"] p5 (bt O3):=(by walk_at "F")
noncomputable abbrev Ha:Stmt:=top 18
theorem abB:ck ["text"] ["text"] (bt Ha):=(by walk_at "F")
noncomputable abbrev FJ:Stmt:=top 19
theorem Z8:ck uQ uQ (bt FJ):=(by walk_at "F")
noncomputable abbrev Mz:Stmt:=top 20
theorem T8:ck yM yM (bt Mz):=(by walk_at "F")
noncomputable abbrev RD:Stmt:=top 21
theorem R1:ck ["word","low","high","number"] Hw (bt RD):=(by walk_at "F")
noncomputable abbrev MI:Stmt:=top 22
theorem agC:ck ["word"] ["word"] (bt MI):=(by walk_at "F")
noncomputable abbrev Fe:Stmt:=top 25
theorem ags:ck ["text"] ["text"] (bt Fe):=(by walk_at "F")
noncomputable abbrev Nb:Stmt:=top 30
theorem ad9:ck B8 B8 (bt Nb):=(by walk_at "F")
noncomputable abbrev ww:Stmt:=top 31
theorem uP:ck ["members","homes","number","names","name"] ["members"] (bt ww):=(by walk_at "F")
noncomputable abbrev vq:Stmt:=top 32
theorem GO:ck yx Fg (bt vq):=(by walk_at "F")
noncomputable abbrev yC:Stmt:=top 33
theorem pp:ck D1 ke (bt yC):=(by walk_at "F")
noncomputable abbrev AY:Stmt:=top 34
theorem Au:ck Hd F5 (bt AY):=(by walk_at "F")
noncomputable abbrev Q7:Stmt:=top 35
theorem D0:ck ["reader","crossing","rows","least","most"] Ab (bt Q7):=(by walk_at "F")
noncomputable abbrev Oh:Stmt:=top 36
theorem im:ck ["crossing","rows","left"] ke (bt Oh):=(by walk_at "F")
noncomputable abbrev Jf:Stmt:=top 37
theorem zL:ck ["crossing","rows","homes","name","number"] ke (bt Jf):=(by walk_at "F")
noncomputable abbrev JT:Stmt:=top 38
theorem wo:ck ["crossing","rows","number","row","one","other"] ke (bt JT):=(by walk_at "F")
noncomputable abbrev Rg:Stmt:=top 39
theorem CQ:ck ["crossing","text","rows","reader"] vT (bt Rg):=(by walk_at "F")
noncomputable abbrev NW:Stmt:=top 40
theorem XY:ck zq zq (bt NW):=(by walk_at "F")
noncomputable abbrev LZ:Stmt:=top 56
theorem Sh:ck ["reader","places"] ["reader"] (bt LZ):=(by walk_at "F")
noncomputable abbrev HD:Stmt:=top 57
theorem Ka:ck ["reader","ways","name"] Gh (bt HD):=(by walk_at "F")
noncomputable abbrev K4:Stmt:=top 58
theorem ae':ck yN yN (bt K4):=(by walk_at "F")
noncomputable abbrev Oq:Stmt:=top 59
theorem TB:ck xy xy (bt Oq):=(by walk_at "F")
noncomputable abbrev OU:Stmt:=top 60
theorem qf:ck ["reader","places","ways","sort","name","start","end","off","near","least"] zV (bt OU):=(by walk_at "F")
noncomputable abbrev QF:Stmt:=top 61
theorem wj:ck ["text","rows","places","ways","reader"] ["text"] (bt QF):=(by walk_at "F")
noncomputable abbrev Pp:Stmt:=top 63
theorem td:ck ["_law_script","_law_k","_law_many","_law_cell","_law_seed"] BQ (bt Pp):=(by walk_at "F")
noncomputable abbrev Ck:Stmt:=top 64
theorem p4:ck ["_law_script","_law_many","_law_letters","_law_base","_law_way","_law_at","_law_names_here","_law_k","_law_sign"] II (bt Ck):=(by walk_at "F")
noncomputable abbrev NU:Stmt:=top 65
theorem ld:ck ["_law_script","_law_most","_law_places","_law_names_here","_law_ways_here","_law_k","_law_start","_law_end","_law_sort","_law_off","_law_near"] y3 (bt NU):=(by walk_at "F")
noncomputable abbrev Jr:Stmt:=top 66
theorem EI:ck ["_law_places","_law_ways_here","_law_rows","_law_way"] z7 (bt Jr):=(by walk_at "F")
noncomputable abbrev Ps:Stmt:=top 67
theorem zY:ck ["_law_one","_law_other","_law_places","_law_length","_law_start","_law_end"] E8 (bt Ps):=(by walk_at "F")
noncomputable abbrev O0:Stmt:=top 68
theorem KC:ck ["_law_ways_here","_law_one","_law_other","_law_tram"] CH (bt O0):=(by walk_at "F")
noncomputable abbrev Hg:Stmt:=top 69
theorem kq:ck ["_law_script","_law_places","_law_ways_here","_law_some","_law_k","_law_fits","_law_j","_law_good","_law_i","_law_stages_here","_law_low","_law_more"] BI (bt Hg):=(by walk_at "F")
noncomputable abbrev JL:Stmt:=top 70
theorem uy:ck ["_law_ways_here","_law_stages_here","_law_rows","_law_low","_law_high","_law_some"] zO (bt JL):=(by walk_at "F")
noncomputable abbrev JZ:Stmt:=top 71
theorem zT:ck ["_law_script","_law_turn","_law_ways_here","_law_rate","_law_asks_here","_law_k"] Bg (bt JZ):=(by walk_at "F")
noncomputable abbrev Mn:Stmt:=top 72
theorem Lz:ck ["_law_trams","_law_goal","_law_begun","_law_k"] Bo (bt Mn):=(by walk_at "F")
noncomputable abbrev MN:Stmt:=top 73
theorem abn:ck u9 u9 (bt MN):=(by walk_at "F")
noncomputable abbrev En:Stmt:=top 74
theorem iD:ck ["_law_script","_law_places","_law_ways_here","_law_stages_here","_law_trams","_law_keeper","_law_begun","_law_lasted","_law_turn","_law_here","_law_asks_here","_law_row","_law_name","_law_now","_law_j","_law_i"] ["_law_script"] (bt En):=(by walk_at "F")
noncomputable abbrev ul:Stmt:=eX (top 24) 0
theorem SV:ck v7 v7 (bt ul):=(by walk_at "F")
noncomputable abbrev Sm:Stmt:=eX (top 24) 1
theorem aaq:ck ["self"] ["self"] (bt Sm):=(by walk_at "F")
noncomputable abbrev L9:Stmt:=eX (top 24) 2
theorem XO:ck ["self"] ["self"] (bt L9):=(by walk_at "F")
noncomputable abbrev Cl:Stmt:=eX (top 24) 4
theorem XN:ck AZ AZ (bt Cl):=(by walk_at "F")
noncomputable abbrev Lo:Stmt:=eX (top 24) 5
theorem MU:ck ["self","choices","found"] F2 (bt Lo):=(by walk_at "F")
noncomputable abbrev Q0:Stmt:=eX (top 24) 6
theorem QP:ck ["self","low","high","found"] HG (bt Q0):=(by walk_at "F")
noncomputable abbrev QN:Stmt:=eX (top 24) 7
theorem aip:ck ["self"] ["self"] (bt QN):=(by walk_at "F")
noncomputable abbrev tY:Stmt:=eX (top 29) 0
theorem Dg:ck vC BJ (bt tY):=(by walk_at "F")
noncomputable abbrev Q3:Stmt:=eX (top 42) 0
theorem aeL:ck vD vD (bt Q3):=(by walk_at "F")
noncomputable abbrev KP:Stmt:=eX (top 42) 1
theorem XH:ck ["self"] ["self"] (bt KP):=(by walk_at "F")
noncomputable abbrev PL:Stmt:=eX (top 42) 3
theorem Jw:ck ["self","colours","name"] ["self"] (bt PL):=(by walk_at "F")
noncomputable abbrev Rv:Stmt:=eX (top 42) 4
theorem U8:ck jb jb (bt Rv):=(by walk_at "F")
noncomputable abbrev OJ:Stmt:=eX (top 42) 5
theorem CM:ck ["self","name","way","home"] jb (bt OJ):=(by walk_at "F")
noncomputable abbrev RE:Stmt:=eX (top 42) 6
theorem tT:ck ["self","asks","name","colours","own_asked"] yX (bt RE):=(by walk_at "F")
noncomputable abbrev K':Stmt:=eX (top 42) 7
theorem ab3:ck pN pN (bt K'):=(by walk_at "F")
noncomputable abbrev QH:Stmt:=eX (top 42) 8
theorem Yc:ck pN pN (bt QH):=(by walk_at "F")
noncomputable abbrev DO:Stmt:=eX (top 42) 9
theorem Tm:ck ["self"] ["self"] (bt DO):=(by walk_at "F")
noncomputable abbrev tq:Stmt:=eX (top 42) 10
theorem rx:ck Eb ["self"] (bt tq):=(by walk_at "F")
noncomputable abbrev JS:Stmt:=eX (top 42) 11
theorem Ue:ck zP zP (bt JS):=(by walk_at "F")
noncomputable abbrev Sl:Stmt:=eX (top 42) 12
theorem Ra:ck jb ["self"] (bt Sl):=(by walk_at "F")
noncomputable abbrev RZ:Stmt:=eX (top 44) 0
theorem abf:ck x7 x7 (bt RZ):=(by walk_at "F")
noncomputable abbrev PF:Stmt:=eX (top 45) 0
theorem TC:ck j6 j6 (bt PF):=(by walk_at "F")
noncomputable abbrev P8:Stmt:=eX (top 45) 1
theorem VJ:ck ["self"] ["self"] (bt P8):=(by walk_at "F")
noncomputable abbrev SF:Stmt:=eX (top 45) 2
theorem bv:ck ["self"] ["self"] (bt SF):=(by walk_at "F")
noncomputable abbrev MK:Stmt:=eX (top 46) 0
theorem afw:ck j6 j6 (bt MK):=(by walk_at "F")
noncomputable abbrev Oa:Stmt:=eX (top 46) 1
theorem aee:ck ["self"] ["self"] (bt Oa):=(by walk_at "F")
noncomputable abbrev Rr:Stmt:=eX (top 46) 2
theorem ahJ:ck ["self"] ["self"] (bt Rr):=(by walk_at "F")
noncomputable abbrev OM:Stmt:=eX (top 47) 0
theorem On:ck j6 j6 (bt OM):=(by walk_at "F")
noncomputable abbrev RJ:Stmt:=eX (top 47) 1
theorem VI:ck ["self"] ["self"] (bt RJ):=(by walk_at "F")
noncomputable abbrev Sx:Stmt:=eX (top 47) 2
theorem ZO:ck ["self"] ["self"] (bt Sx):=(by walk_at "F")
noncomputable abbrev Qe:Stmt:=eX (top 55) 0
theorem Gv:ck ["self","places","ways","number","way"] BX (bt Qe):=(by walk_at "F")
noncomputable abbrev FC:Stmt:=eX (top 55) 1
theorem Yg:ck ["self"] ["self"] (bt FC):=(by walk_at "F")
noncomputable abbrev Nm:Stmt:=eX (top 55) 2
theorem YN:ck jb jb (bt Nm):=(by walk_at "F")
noncomputable abbrev Nu:Stmt:=eX (top 55) 3
theorem ahc:ck jb jb (bt Nu):=(by walk_at "F")
set_option genInjectivity false in
set_option genInjectivity false in
structure bQ where
 {AA Dl Br x' An Cw I7 FG Go uL FR Em Jp DI DA xT zh z3 A2 Uf Do BO Jv EH Iv yh xo xC Ep zG yc IU HO Ah z9 Fk xX xQ JI wW zd A0 xq zw Bv Be uV wL vZ wf BE yp v8 x3 BN xP zQ zk ad yE uh A_ bi wc AN zt xb Af xO u7 wq yG uA gG e' c6 kR iN iO iS lc rE:Addr}
 {zf H_ Am A4 BH Dc Di Ip Dw wB Dy CZ FU C7 G4 z6 Ac zW BA ug IT zl HE Gx Jk yI xB x1 Ct xY BK JJ H5 zJ BS z5 Bm zZ BF BY EZ IS ce Ef GK CN x_ zM A7 GQ ES D4 A1 F' Jz HY yQ Ei Eo ci yP GH Hf Av Cn GR z1 GX F3 Ap xJ Dp z4:FuncData}
 {xz K8 J6 MM R2 sn Qu Sv RN jp Kr Og:Value}
structure Txt (w:World) (K:ba) (mg:Str->Option Value) (t:bQ):Prop where
 KL:mg "in_bow"=some (.ref t.AA)
 AI:b_ K "in_bow" "in_bow" Ph t.AA t.zf
 aby:mg "bows_cross"=some (.ref t.Dl)
 I_:b_ K "bows_cross" "bows_cross" Qn t.Dl t.H_
 LK:mg "meet"=some (.ref t.Br)
 BZ:b_ K "meet" "meet" PE t.Br t.Am
 Vh:mg "gap"=some (.ref t.x')
 FM:b_ K "gap" "gap" O3 t.x' t.A4
 ZS:mg "words"=some (.ref t.An)
 DS:b_ K "words" "words" Ha t.An t.BH
 M4:mg "is_made_of"=some (.ref t.Cw)
 yB:b_ K "is_made_of" "is_made_of" FJ t.Cw t.Dc
 UO:mg "is_number"=some (.ref t.I7)
 F9:b_ K "is_number" "is_number" Mz t.I7 t.Di
 adh:mg "figured"=some (.ref t.FG)
 IB:b_ K "figured" "figured" RD t.FG t.Ip
 agL:mg "is_name"=some (.ref t.Go)
 F6:b_ K "is_name" "is_name" MI t.Go t.Dw
 Lc:mg "readers"=some (.ref t.uL)
 Op:b_ K "readers" "readers" Fe t.uL t.wB
 Cd:mg "sort_of"=some (.ref t.FR)
 ux:b_ K "sort_of" "sort_of" Nb t.FR t.Dy
 Jg:mg "homes_in"=some (.ref t.Em)
 wM:b_ K "homes_in" "homes_in" ww t.Em t.CZ
 acI:mg "change_turns"=some (.ref t.Jp)
 GA:b_ K "change_turns" "change_turns" vq t.Jp t.FU
 KJ:mg "names_left"=some (.ref t.DI)
 AP:b_ K "names_left" "names_left" yC t.DI t.C7
 Ev:mg "read_members"=some (.ref t.DA)
 DG:b_ K "read_members" "read_members" AY t.DA t.G4
 aiH:mg "read_stage"=some (.ref t.xT)
 Tl:b_ K "read_stage" "read_stage" Q7 t.xT t.z6
 W7:mg "refuse_never"=some (.ref t.zh)
 Hb:b_ K "refuse_never" "refuse_never" Oh t.zh t.Ac
 Yn:mg "refuse_short"=some (.ref t.z3)
 IV:b_ K "refuse_short" "refuse_short" Jf t.z3 t.zW
 abe:mg "refuse_clash"=some (.ref t.A2)
 Eg:b_ K "refuse_clash" "refuse_clash" JT t.A2 t.BA
 XE:mg "read_stages"=some (.ref t.Uf)
 F_:b_ K "read_stages" "read_stages" Rg t.Uf t.ug
 L7:mg "change"=some (.ref t.Do)
 AW:b_ K "change" "change" NW t.Do t.IT
 XX:mg "read_ring"=some (.ref t.BO)
 EP:b_ K "read_ring" "read_ring" LZ t.BO t.zl
 aeB:mg "read_new_name"=some (.ref t.Jv)
 Cu:b_ K "read_new_name" "read_new_name" HD t.Jv t.HE
 aaV:mg "read_end"=some (.ref t.EH)
 Es:b_ K "read_end" "read_end" K4 t.EH t.Gx
 aan:mg "made_way"=some (.ref t.Iv)
 I8:b_ K "made_way" "made_way" Oq t.Iv t.Jk
 afO:mg "read_way"=some (.ref t.yh)
 Fd:b_ K "read_way" "read_way" OU t.yh t.yI
 aaP:mg "read_crossing"=some (.ref t.xo)
 CC:b_ K "read_crossing" "read_crossing" QF t.xo t.xB
 fy:mg "_law_draw"=some (.ref t.xC)
 e8:b_ K "_law_draw" "_law_draw" Pp t.xC t.x1
 aa5:mg "_law_names"=some (.ref t.Ep)
 HP:b_ K "_law_names" "_law_names" Ck t.Ep t.Ct
 Zn:mg "_law_ways"=some (.ref t.zG)
 D9:b_ K "_law_ways" "_law_ways" NU t.zG t.xY
 We:mg "_law_text"=some (.ref t.yc)
 io:b_ K "_law_text" "_law_text" Jr t.yc t.BK
 T2:mg "_law_meet"=some (.ref t.IU)
 Ft:b_ K "_law_meet" "_law_meet" Ps t.IU t.JJ
 Vu:mg "_law_alike"=some (.ref t.HO)
 Dv:b_ K "_law_alike" "_law_alike" O0 t.HO t.H5
 aid:mg "_law_stages"=some (.ref t.Ah)
 CV:b_ K "_law_stages" "_law_stages" Hg t.Ah t.zJ
 Xa:mg "_law_stages_text"=some (.ref t.z9)
 Fq:b_ K "_law_stages_text" "_law_stages_text" JL t.z9 t.BS
 afa:mg "_law_asks"=some (.ref t.Fk)
 G8:b_ K "_law_asks" "_law_asks" JZ t.Fk t.z5
 S2:mg "_law_fair"=some (.ref t.xX)
 CF:b_ K "_law_fair" "_law_fair" Mn t.xX t.Bm
 agx:mg "_law_long"=some (.ref t.xQ)
 Et:b_ K "_law_long" "_law_long" MN t.xQ t.zZ
 aa_:mg "law"=some (.ref t.JI)
 W6:b_ K "law" "law" En t.JI t.BF
 acQ:mg "RowReader"=some (.ref t.gG)
 aiT:dp K (.ref t.gG) "__init__"=some (some (.ref t.wW))
 Lp:b_ K "__init__" "RowReader.__init__" ul t.wW t.BY
 ajl:dp K (.ref t.gG) "ahead"=some (some (.ref t.zd))
 OQ:b_ K "ahead" "RowReader.ahead" Sm t.zd t.EZ
 akb:dp K (.ref t.gG) "has_more"=some (some (.ref t.A0))
 QW:b_ K "has_more" "RowReader.has_more" L9 t.A0 t.IS
 GE:dp K (.ref t.gG) "take"=some (some (.ref t.xq))
 NB:b_ K "take" "RowReader.take" Cl t.xq t.ce
 ajS:dp K (.ref t.gG) "one_of"=some (some (.ref t.zw))
 NL:b_ K "one_of" "RowReader.one_of" Lo t.zw t.Ef
 aiU:dp K (.ref t.gG) "figures"=some (some (.ref t.Bv))
 NM:b_ K "figures" "RowReader.figures" Q0 t.Bv t.GK
 aiQ:dp K (.ref t.gG) "finish"=some (some (.ref t.Be))
 Np:b_ K "finish" "RowReader.finish" QN t.Be t.CN
 Ze:mg "Stages"=some (.ref t.e')
 ajH:dp K (.ref t.e') "__init__"=some (some (.ref t.uV))
 Ri:b_ K "__init__" "Stages.__init__" tY t.uV t.x_
 Yb:mg "Keeper"=some (.ref t.c6)
 akl:dp K (.ref t.c6) "__init__"=some (some (.ref t.wL))
 QG:b_ K "__init__" "Keeper.__init__" Q3 t.wL t.zM
 akj:dp K (.ref t.c6) "stage"=some (some (.ref t.vZ))
 PS:b_ K "stage" "Keeper.stage" KP t.vZ t.A7
 ai9:dp K (.ref t.c6) "shown"=some (some (.ref t.wf))
 bn:b_ K "shown" "Keeper.shown" PL t.wf t.GQ
 akp:dp K (.ref t.c6) "stage_colour"=some (some (.ref t.BE))
 MO:b_ K "stage_colour" "Keeper.stage_colour" Rv t.BE t.ES
 ajp:dp K (.ref t.c6) "change_colour"=some (some (.ref t.yp))
 K7:b_ K "change_colour" "Keeper.change_colour" OJ t.yp t.D4
 aiL:dp K (.ref t.c6) "pass_turn"=some (some (.ref t.v8))
 Mg:b_ K "pass_turn" "Keeper.pass_turn" RE t.v8 t.A1
 alr:dp K (.ref t.c6) "settle"=some (some (.ref t.x3))
 LW:b_ K "settle" "Keeper.settle" K' t.x3 t.F'
 ajQ:dp K (.ref t.c6) "stays"=some (some (.ref t.BN))
 LL:b_ K "stays" "Keeper.stays" QH t.BN t.Jz
 ajI:dp K (.ref t.c6) "tram_waits"=some (some (.ref t.xP))
 Sz:b_ K "tram_waits" "Keeper.tram_waits" DO t.xP t.HY
 ai1:dp K (.ref t.c6) "pick"=some (some (.ref t.zQ))
 OC:b_ K "pick" "Keeper.pick" tq t.zQ t.yQ
 akd:dp K (.ref t.c6) "leave_for"=some (some (.ref t.zk))
 Mm:b_ K "leave_for" "Keeper.leave_for" JS t.zk t.Ei
 ala:dp K (.ref t.c6) "show_sought"=some (some (.ref t.ad))
 QU:b_ K "show_sought" "Keeper.show_sought" Sl t.ad t.Eo
 Jc:mg "Way"=some (.ref t.kR)
 aj5:dp K (.ref t.kR) "__init__"=some (some (.ref t.yE))
 Md:b_ K "__init__" "Way.__init__" RZ t.yE t.ci
 ac4:mg "CarWay"=some (.ref t.iN)
 ajJ:dp K (.ref t.iN) "__init__"=some (some (.ref t.uh))
 No:b_ K "__init__" "CarWay.__init__" PF t.uh t.yP
 ajE:dp K (.ref t.iN) "ready"=some (some (.ref t.A_))
 R5:b_ K "ready" "CarWay.ready" P8 t.A_ t.GH
 ajX:dp K (.ref t.iN) "fade"=some (some (.ref t.bi))
 NP:b_ K "fade" "CarWay.fade" SF t.bi t.Hf
 ahH:mg "FootWay"=some (.ref t.iO)
 aks:dp K (.ref t.iO) "__init__"=some (some (.ref t.wc))
 RY:b_ K "__init__" "FootWay.__init__" MK t.wc t.Av
 aki:dp K (.ref t.iO) "ready"=some (some (.ref t.AN))
 lm:b_ K "ready" "FootWay.ready" Oa t.AN t.Cn
 ajK:dp K (.ref t.iO) "fade"=some (some (.ref t.zt))
 Ke:b_ K "fade" "FootWay.fade" Rr t.zt t.GR
 afl:mg "TramWay"=some (.ref t.iS)
 ajk:dp K (.ref t.iS) "__init__"=some (some (.ref t.xb))
 Pd:b_ K "__init__" "TramWay.__init__" OM t.xb t.z1
 ai_:dp K (.ref t.iS) "ready"=some (some (.ref t.Af))
 KU:b_ K "ready" "TramWay.ready" RJ t.Af t.GX
 akL:dp K (.ref t.iS) "fade"=some (some (.ref t.xO))
 zn:b_ K "fade" "TramWay.fade" Sx t.xO t.F3
 YJ:mg "Crossing"=some (.ref t.lc)
 alv:dp K (.ref t.lc) "__init__"=some (some (.ref t.u7))
 LX:b_ K "__init__" "Crossing.__init__" Qe t.u7 t.Ap
 ajy:dp K (.ref t.lc) "names"=some (some (.ref t.wq))
 Nx:b_ K "names" "Crossing.names" FC t.wq t.xJ
 akW:dp K (.ref t.lc) "number"=some (some (.ref t.yG))
 KD:b_ K "number" "Crossing.number" Nm t.yG t.Dp
 ajG:dp K (.ref t.lc) "called"=some (some (.ref t.uA))
 Lw:b_ K "called" "Crossing.called" Nu t.uA t.z4
 fG:gX K t.gG
 T':oG K t.gG t.wW
 B5:fD K t.gG "ahead" t.zd
 Kq:fD K t.gG "has_more" t.A0
 GS:fD K t.gG "take" t.xq
 vV:fD K t.gG "one_of" t.zw
 pz:fD K t.gG "figures" t.Bv
 N1:fD K t.gG "finish" t.Be
 Tb:ac K t.gG "row"
 OD:ac K t.gG "told"
 D':ac K t.gG "place"
 jf:gX K t.e'
 ZI:oG K t.e' t.uV
 J2:ac K t.e' "crossing"
 NQ:ac K t.e' "many"
 RX:ac K t.e' "leasts"
 L1:ac K t.e' "mosts"
 C9:ac K t.e' "members"
 LG:ac K t.e' "sorts"
 Sr:ac K t.e' "homes"
 PW:ac K t.e' "changes"
 el:gX K t.c6
 Tx:oG K t.c6 t.wL
 BB:fD K t.c6 "stage" t.vZ
 acr:fD K t.c6 "shown" t.wf
 TQ:fD K t.c6 "stage_colour" t.BE
 Z5:fD K t.c6 "change_colour" t.yp
 Wp:fD K t.c6 "pass_turn" t.v8
 agN:fD K t.c6 "settle" t.x3
 Wa:fD K t.c6 "stays" t.BN
 abW:fD K t.c6 "tram_waits" t.xP
 Wy:fD K t.c6 "pick" t.zQ
 acK:fD K t.c6 "leave_for" t.zk
 PG:fD K t.c6 "show_sought" t.ad
 Pq:ac K t.c6 "stages"
 BV:ac K t.c6 "showing"
 zy:ac K t.c6 "lasted"
 Jh:ac K t.c6 "left"
 Ic:ac K t.c6 "sought"
 Bj:ac K t.c6 "gone"
 ML:ac K t.c6 "waiting"
 J7:ac K t.c6 "picked"
 ajB:gX K t.kR
 ajF:ac K t.kR "kind"
 ajO:ac K t.kR "name"
 akY:ac K t.kR "start"
 akQ:ac K t.kR "end"
 ak2:ac K t.kR "off"
 akP:ac K t.kR "near"
 aju:ac K t.kR "least"
 GI:gX K t.iN
 afg:oG K t.iN t.uh
 YB:fD K t.iN "ready" t.A_
 Wb:fD K t.iN "fade" t.bi
 aaD:ac K t.iN "kind"
 VE:ac K t.iN "name"
 aaH:ac K t.iN "start"
 agn:ac K t.iN "end"
 ahS:ac K t.iN "off"
 WV:ac K t.iN "near"
 agu:ac K t.iN "least"
 H4:gX K t.iO
 ZF:oG K t.iO t.wc
 Zo:fD K t.iO "ready" t.AN
 ac5:fD K t.iO "fade" t.zt
 Zv:ac K t.iO "kind"
 ach:ac K t.iO "name"
 S7:ac K t.iO "start"
 UR:ac K t.iO "end"
 Yv:ac K t.iO "off"
 ag1:ac K t.iO "near"
 W9:ac K t.iO "least"
 Jo:gX K t.iS
 aas:oG K t.iS t.xb
 agd:fD K t.iS "ready" t.Af
 aei:fD K t.iS "fade" t.xO
 aa7:ac K t.iS "kind"
 At:ac K t.iS "name"
 Ww:ac K t.iS "start"
 agF:ac K t.iS "end"
 TJ:ac K t.iS "off"
 afY:ac K t.iS "near"
 ac':ac K t.iS "least"
 hU:gX K t.lc
 ZN:oG K t.lc t.u7
 za:fD K t.lc "names" t.wq
 Wn:fD K t.lc "number" t.yG
 nE:fD K t.lc "called" t.uA
 Pi:ac K t.lc "places"
 So:ac K t.lc "ways"
 Nh:ac K t.lc "numbers"
 alk:t.kR ≠ t.iN
 akv:t.kR ≠ t.iO
 alz:t.kR ≠ t.iS
 Qx:t.iN ≠ t.iO
 K2:t.iN ≠ t.iS
 Ko:t.iO ≠ t.iS
 DE:Kk K t.kR "__init__" t.yE
 XZ:mg "FIGURES"=some t.xz
 adQ:bI (.str (ab "0123456789")) t.xz
 WQ:mg "LEAST_PLACES"=some t.K8
 adI:bI (.int 2) t.K8
 aem:mg "LETTERS"=some t.J6
 afp:bI (.str (ab "abcdefghijklmnopqrstuvwxyz")) t.J6
 acw:mg "MOST_FIGURES"=some t.MM
 aeV:bI (.int 3) t.MM
 aeG:mg "MOST_LEAST"=some t.R2
 aft:bI (.int 60) t.R2
 abH:mg "MOST_LETTERS"=some t.sn
 adK:bI (.int 8) t.sn
 aa6:mg "MOST_NEAR"=some t.Qu
 ZY:bI (.int 30) t.Qu
 Wm:mg "MOST_OFF"=some t.Sv
 afv:bI (.int 30) t.Sv
 aaX:mg "MOST_PLACES"=some t.RN
 SS:bI (.int 99) t.RN
 aik:mg "MOST_STAGES"=some t.jp
 Vq:bI (.int 6) t.jp
 Q':mg "MOST_TURNS"=some t.Kr
 L4:bI (.int 60) t.Kr
 U1:mg "MOST_WAYS"=some t.Og
 Zd:bI (.int 12) t.Og
 WN:mg "all"=none
 afN:mg "any"=none
 zR:mg "enumerate"=none
 DR:mg "int"=none
 g5:mg "len"=none
 Gy:mg "max"=none
 WH:mg "min"=none
 l1:mg "range"=none
 uR:mg "str"=none
 ain:t.yQ.code=.ref t.rE
 ZU:∀ (s:Shared) (u:Value),BindsTo s t.BF ⟨[u],[]⟩ [("_law_script",u)]
section
variable {w:World} {K:ba} {mg:Str->Option Value} {t:bQ} (T:Txt w K mg t)
include T
theorem Txt.QZ:b5 K t.zf ya []:=T.AI.binds fun _ _ _ _ _ _=>hE fun _ _ _=>rfl
theorem Txt.aam:b5 K t.H_ y5 []:=T.I_.binds fun _ _ _ _ _ _=>hE fun _ _ _=>rfl
theorem Txt.Rm:b5 K t.Am p5 []:=T.BZ.binds fun _ _ _ _ _ _=>hE fun _ _ _=>rfl
theorem Txt.abw:b5 K t.A4 p5 []:=T.FM.binds fun _ _ _ _ _ _=>hE fun _ _ _=>rfl
theorem Txt.Zr:b5 K t.BH ["text"] []:=T.DS.binds fun _ _ _ _ _ _=>hJ fun _=>rfl
theorem Txt.ir:b5 K t.Dc uQ []:=T.yB.binds fun _ _ _ _ _ _=>hE fun _ _ _=>rfl
theorem Txt.aav:b5 K t.Di yM []:=T.F9.binds fun _ _ _ _ _ _=>hb fun _ _=>rfl
theorem Txt.T4:b5 K t.Ip Hw []:=T.IB.binds fun _ _ _ _ _ _=>hE fun _ _ _=>rfl
theorem Txt.UJ:b5 K t.Dw ["word"] []:=T.F6.binds fun _ _ _ _ _ _=>hJ fun _=>rfl
theorem Txt.O7:b5 K t.wB ["text"] []:=T.Op.binds fun _ _ _ _ _ _=>hJ fun _=>rfl
theorem Txt.Ik:b5 K t.Dy B8 []:=T.ux.binds fun _ _ _ _ _ _=>hb fun _ _=>rfl
theorem Txt.DK:b5 K t.CZ ["members"] []:=T.wM.binds fun _ _ _ _ _ _=>hJ fun _=>rfl
theorem Txt.aaQ:b5 K t.FU Fg []:=T.GA.binds fun _ _ _ _ _ _=>hE fun _ _ _=>rfl
theorem Txt.cr:b5 K t.C7 ke []:=T.AP.binds fun _ _ _ _ _ _=>hb fun _ _=>rfl
theorem Txt.Ul:b5 K t.G4 F5 []:=T.DG.binds fun _ _ _ _ _ _=>hE fun _ _ _=>rfl
theorem Txt.TH:b5 K t.z6 Ab []:=T.Tl.binds fun _ _ _ _ _ _=>hE fun _ _ _=>rfl
theorem Txt.WR:b5 K t.Ac ke []:=T.Hb.binds fun _ _ _ _ _ _=>hb fun _ _=>rfl
theorem Txt.aiy:b5 K t.zW ke []:=T.IV.binds fun _ _ _ _ _ _=>hb fun _ _=>rfl
theorem Txt.SP:b5 K t.BA ke []:=T.Eg.binds fun _ _ _ _ _ _=>hb fun _ _=>rfl
theorem Txt.Wl:b5 K t.ug vT []:=T.F_.binds fun _ _ _ _ _ _=>hb fun _ _=>rfl
theorem Txt.OE:b5 K t.IT zq []:=T.AW.binds fun _ _ _ _ _ _=>hE fun _ _ _=>rfl
theorem Txt.UT:b5 K t.zl ["reader"] []:=T.EP.binds fun _ _ _ _ _ _=>hJ fun _=>rfl
theorem Txt.aia:b5 K t.HE Gh []:=T.Cu.binds fun _ _ _ _ _ _=>hb fun _ _=>rfl
theorem Txt.acN:b5 K t.Gx yN []:=T.Es.binds fun _ _ _ _ _ _=>hE fun _ _ _=>rfl
theorem Txt.aix:b5 K t.Jk xy []:=T.I8.binds fun _ _ _ _ _ _=>xS fun _ _ _ _ _ _ _=>rfl
theorem Txt.agV:b5 K t.yI zV []:=T.Fd.binds fun _ _ _ _ _ _=>hE fun _ _ _=>rfl
theorem Txt.aie:b5 K t.xB ["text"] []:=T.CC.binds fun _ _ _ _ _ _=>hJ fun _=>rfl
theorem Txt.ft:b5 K t.x1 BQ []:=T.e8.binds fun _ _ _ _ _ _=>hE fun _ _ _=>rfl
theorem Txt.ZZ:b5 K t.Ct II []:=T.HP.binds fun _ _ _ _ _ _=>hb fun _ _=>rfl
theorem Txt.X9:b5 K t.xY y3 []:=T.D9.binds fun _ _ _ _ _ _=>hb fun _ _=>rfl
theorem Txt.air:b5 K t.BK z7 []:=T.io.binds fun _ _ _ _ _ _=>hb fun _ _=>rfl
theorem Txt.abP:b5 K t.JJ E8 []:=T.Ft.binds fun _ _ _ _ _ _=>hE fun _ _ _=>rfl
theorem Txt.YK:b5 K t.H5 CH []:=T.Dv.binds fun _ _ _ _ _ _=>hE fun _ _ _=>rfl
theorem Txt.aeU:b5 K t.zJ BI []:=T.CV.binds fun _ _ _ _ _ _=>hE fun _ _ _=>rfl
theorem Txt.aiC:b5 K t.BS zO []:=T.Fq.binds fun _ _ _ _ _ _=>hb fun _ _=>rfl
theorem Txt.Xi:b5 K t.z5 Bg []:=T.G8.binds fun _ _ _ _ _ _=>hE fun _ _ _=>rfl
theorem Txt.Ts:b5 K t.Bm Bo []:=T.CF.binds fun _ _ _ _ _ _=>hE fun _ _ _=>rfl
theorem Txt.ag0:b5 K t.zZ u9 []:=T.Et.binds fun _ _ _ _ _ _=>agG fun _ _ _ _ _=>rfl
theorem Txt.af':b5 K t.BY v7 []:=T.Lp.binds fun _ _ _ _ _ _=>hE fun _ _ _=>rfl
theorem Txt.Ao:b5 K t.EZ ["self"] []:=T.OQ.binds fun _ _ _ _ _ _=>hJ fun _=>rfl
theorem Txt.PT:b5 K t.IS ["self"] []:=T.QW.binds fun _ _ _ _ _ _=>hJ fun _=>rfl
theorem Txt.Gm:b5 K t.ce AZ []:=T.NB.binds fun _ _ _ _ _ _=>hb fun _ _=>rfl
theorem Txt.uF:b5 K t.Ef F2 []:=T.NL.binds fun _ _ _ _ _ _=>hb fun _ _=>rfl
theorem Txt.Gc:b5 K t.GK HG []:=T.NM.binds fun _ _ _ _ _ _=>hE fun _ _ _=>rfl
theorem Txt.Rc:b5 K t.CN ["self"] []:=T.Np.binds fun _ _ _ _ _ _=>hJ fun _=>rfl
theorem Txt.agh:b5 K t.x_ BJ []:=T.Ri.binds fun _ _ _ _ _ _=>hE fun _ _ _=>rfl
theorem Txt.VH:b5 K t.zM vD []:=T.QG.binds fun _ _ _ _ _ _=>hb fun _ _=>rfl
theorem Txt.xw:b5 K t.A7 ["self"] []:=T.PS.binds fun _ _ _ _ _ _=>hJ fun _=>rfl
theorem Txt.wv:b5 K t.GQ ["self"] []:=T.bn.binds fun _ _ _ _ _ _=>hJ fun _=>rfl
theorem Txt.U_:b5 K t.ES jb []:=T.MO.binds fun _ _ _ _ _ _=>hb fun _ _=>rfl
theorem Txt.Ve:b5 K t.D4 jb []:=T.K7.binds fun _ _ _ _ _ _=>hb fun _ _=>rfl
theorem Txt.acz:b5 K t.A1 yX []:=T.Mg.binds fun _ _ _ _ _ _=>hb fun _ _=>rfl
theorem Txt.Wd:b5 K t.F' pN []:=T.LW.binds fun _ _ _ _ _ _=>hb fun _ _=>rfl
theorem Txt.Wk:b5 K t.Jz pN []:=T.LL.binds fun _ _ _ _ _ _=>hb fun _ _=>rfl
theorem Txt.agZ:b5 K t.HY ["self"] []:=T.Sz.binds fun _ _ _ _ _ _=>hJ fun _=>rfl
theorem Txt.Y0:b5 K t.yQ ["self"] []:=T.OC.binds fun _ _ _ _ _ _=>hJ fun _=>rfl
theorem Txt.Y1:b5 K t.Ei zP []:=T.Mm.binds fun _ _ _ _ _ _=>hb fun _ _=>rfl
theorem Txt.Oz:b5 K t.Eo ["self"] []:=T.QU.binds fun _ _ _ _ _ _=>hJ fun _=>rfl
theorem Txt.DB:b5 K t.ci x7 []:=T.Md.binds fun _ _ _ _ _ _=>V_ fun _ _ _ _ _ _ _ _=>rfl
theorem Txt.adw:b5 K t.yP j6 []:=T.No.binds fun _ _ _ _ _ _=>xS fun _ _ _ _ _ _ _=>rfl
theorem Txt.aaZ:b5 K t.GH ["self"] []:=T.R5.binds fun _ _ _ _ _ _=>hJ fun _=>rfl
theorem Txt.VC:b5 K t.Hf ["self"] []:=T.NP.binds fun _ _ _ _ _ _=>hJ fun _=>rfl
theorem Txt.ae1:b5 K t.Av j6 []:=T.RY.binds fun _ _ _ _ _ _=>xS fun _ _ _ _ _ _ _=>rfl
theorem Txt.Y_:b5 K t.Cn ["self"] []:=T.lm.binds fun _ _ _ _ _ _=>hJ fun _=>rfl
theorem Txt.lv:b5 K t.GR ["self"] []:=T.Ke.binds fun _ _ _ _ _ _=>hJ fun _=>rfl
theorem Txt.afT:b5 K t.z1 j6 []:=T.Pd.binds fun _ _ _ _ _ _=>xS fun _ _ _ _ _ _ _=>rfl
theorem Txt.Yh:b5 K t.GX ["self"] []:=T.KU.binds fun _ _ _ _ _ _=>hJ fun _=>rfl
theorem Txt.ahB:b5 K t.F3 ["self"] []:=T.zn.binds fun _ _ _ _ _ _=>hJ fun _=>rfl
theorem Txt.agc:b5 K t.Ap BX []:=T.LX.binds fun _ _ _ _ _ _=>hE fun _ _ _=>rfl
theorem Txt.y6:b5 K t.xJ ["self"] []:=T.Nx.binds fun _ _ _ _ _ _=>hJ fun _=>rfl
theorem Txt.SQ:b5 K t.Dp jb []:=T.KD.binds fun _ _ _ _ _ _=>hb fun _ _=>rfl
theorem Txt.n0:b5 K t.z4 jb []:=T.Lw.binds fun _ _ _ _ _ _=>hb fun _ _=>rfl
end
noncomputable def dg (ns:List Int) (k m:Int):Int:=
 ((((if 0 < (ns.length:Int) then ns.getD (k % (ns.length:Int)).toNat 0 else 0) % 1000003 + 31 * k * k + 1) * 48271 % 999983 * 7919) % 524287) % m
theorem hg (ns:List Int) (k:Int) (h:0 < m):0 <= dg ns k m:=tr _ (by omega)
theorem hi (ns:List Int) (k:Int) (h:0 < m):dg ns k m < m:=wX _ h
def iJ (K:ba) (a:Addr) (ns:List Int):bU:=fun vs H Q _=>∃ k m,vs=[.ref a,.int k,.int m]/\Sc K a ns H/\(0 <= k/\k < 1000000)/\0 < m/\Q (.int (dg ns k m)) H
variable {P:Program} {w:World} {K:ba} {mg:Str->Option Value} {base:Heap} {t:bQ}
abbrev ct (P:Program) (base:Heap) {w:World} {K:ba} {mg:Str->Option Value} {t:bQ} (_:Txt w K mg t):=cH P w K mg base dC
variable (T:Txt w K mg t)
theorem H9 (a:Addr) (ns:List Int) (hl:ns.length <= 63):ct P base T 1 t.xC t.x1 BQ (iJ K a ns):=by
 exists T.e8.ok td,9
 obtain ⟨k,m,rfl,S,⟨h0,af⟩,hm,q⟩:=h;refine ⟨_,(db (b7 (i:=3) td.aD (tC (cU n5 (fJ hD rfl T.g5 g4 (aj (U 0) aG)) aM (cc _)) (bV c8 (U 0) (bD i0 (U 1) (fJ hD rfl T.g5 g4 (aj (U 0) aG)))) aM))
   (db (b7 (i:=4) td.aD (bD d7 (bD d7 (bD i0 (U 3) aM) (bD jd (bD jd aM (U 1)) (U 1))) aM))
   (a6 (cg (bD i0 (bD i0 (bD jd (bD i0 (bD jd (U 4) aM) aM) aM) aM) (U 2)))))),?_⟩
 nofun;refine ⟨_,.inl S.seq,?_⟩;rw [aZ];have sO:(0:Int) <= k * k/\k * k < 1000000 * 1000000:=⟨WT h0 h0,Wg (by omega) af h0 (by decide)⟩;have fin:∀ i:Int,(0:Int) < 1000003/\nd 31 k/\nd (31 * k) k/\nd (i % 1000003 + 31 * k * k + 1) 48271/\(0:Int) < 999983/\nd ((i % 1000003 + 31 * k * k + 1) * 48271 % 999983) 7919/\(0:Int) < 524287/\0 < m:=by
  intro i;refine ⟨by decide,.inl (by decide),.inr (by omega),.inr (by decide),by decide,.inr (by decide),by decide,hm⟩
 by_cases c:(0:Int) < (ns.length:Int)
 .rw [if_pos (decide_eq_true c)];have az:0 <= k % (ns.length:Int)/\k % (ns.length:Int) < (ns.length:Int):=⟨tr _ (by omega),wX _ c⟩;refine ⟨_,.inl S.seq,by rw [aZ];exact c,_,S.seq,?_⟩;rw [aZ];have aJ:(k % (ns.length:Int)).toNat < ns.length:=by omega
  refine ⟨.int ns[(k % (ns.length:Int)).toNat],?_,_,rfl,?_⟩
  .have e:=Db (xs:=ns.map V.int) (j:=(k % (ns.length:Int)).toNat) (v:=.int ns[(k % (ns.length:Int)).toNat]) (by rw [c5,bo aJ] <;> rfl);rwa [qx az.1] at e
  .obtain ⟨f1,f2,eh,f4,eI,m8,kX,f8⟩:=fin ns[(k % (ns.length:Int)).toNat];refine ⟨f1,f2,eh,f4,eI,m8,kX,f8,?_⟩;have e:dg ns k m=(((ns[(k % (ns.length:Int)).toNat] % 1000003 + 31 * k * k + 1) * 48271 % 999983 * 7919) % 524287) % m:=by
    unfold dg;rw [if_pos c,jZ,bo aJ];rfl
   rw [<- e];exact q
 .rw [if_neg (by simpa using c)];obtain ⟨f1,f2,eh,f4,eI,m8,kX,f8⟩:=fin 0;refine ⟨f1,f2,eh,f4,eI,m8,kX,f8,?_⟩;have e:dg ns k m=(((0 % 1000003 + 31 * k * k + 1) * 48271 % 999983 * 7919) % 524287) % m:=by
   unfold dg;rw [if_neg c]
  rw [<- e];exact q
theorem xm {w:Str}:w=ab "" ↔ w.length=0:=by
 constructor
 .rintro rfl;ac_nf
 .intro h;have e:w.cps=#[]:=Array.eq_empty_of_size_eq_zero h;have aH:(ab "").cps=#[]:=by ac_nf
  cases w;cases ak:ab "";rw [ak] at aH;simp only at e aH;rw [e,aH]
noncomputable def se (bh:Str) (c:Nat):Bool:=!(qI bh (i5 c) 0 bh.length 1).isEmpty
theorem Ht (bh:Str) (c:Nat):se bh c=decide (c ∈ bh.cps.toList):=StrLaws.found_one bh c
noncomputable def made (w bh:Str) (m:Int):Bool:=if w=ab "" then false else if m < (w.length:Int) then false else w.cps.toList.all (se bh)
def Hj:bU:=fun vs H Q _=>∃ w bh m,vs=[.str w,.str bh,.int m]/\w.length <= 1000/\aP H/\Q (.bk (made w bh m)) H
def acs:bU:=fun vs H Q _=>∃ w bh m,vs=[.str w,.str bh,.int m]/\w.length <= 1000/\∀ I,aO H I->Q (.bk (made w bh m)) I
theorem R_:ct P base T 1 t.Cw t.Dc uQ Hj:=by
 refine cH.forget (sp:=acs) ?_ fun vs H Q E h=>?_
 .exists T.yB.ok Z8,9
  obtain ⟨w,bh,m,rfl,aT,q⟩:=h;have ia:w.length <= sizeLine:=c_ aT (by decide);refine ⟨_,(db (dI (fW.pt (rG (cU ep (U 0) dh (cc _)) (ti (cU n5 (fJ UA rfl T.g5 g4 (aj (U 0) aG)) (U 2) (cc _))))) (a6 (cg ju)) d2)
   (a6 (cg (fJ (WE rfl) rfl T.WN Tq (aj (hP rfl (aeY (U 0)) (gA (sc:=bt FJ) rfl (by ac_nf)) (N:=["sign","signs"]) (sel:=[none,some 1]) (gC (M:=uQ) (by ac_nf)) (fx.of (fun _ _ _ _=>(cA (i:=0) (eu (N:=["sign","signs"]) (by ac_nf) rfl))) (fun _ _ _ _=>⟨_,h4,by walk_at "B"⟩) (fun _ _ _ _=>⟨_,(gH ZV (U 0) (U 1) (by with_unfolding_all rfl)),by walk_at "B"⟩))) aG))))),?_⟩
  nofun;refine dt (decide (w=ab "") || decide (m < (w.length:Int))) (fun Q aR=>?_) (fun aa=>?_) (fun aa=>?_)
  .nofun;by_cases c:w=ab ""
   .rw [if_pos (decide_eq_true c)];rw [decide_eq_true c,qS] at aR;exact aR
   .rw [if_neg (by simpa using c)];rw [decide_eq_false c,lj] at aR;exact ⟨ia,aR⟩
  .nofun;have e:made w bh m=false:=by
    unfold made;simp only [rg,decide_eq_true_eq] at aa;by_cases c:w=ab ""
    .rw [if_pos c]
    .rw [if_neg c,if_pos (aa.resolve_left c)]
   have:=q H (aO.refl H);rw [e] at this;exact this
  .nofun;have e:made w bh m=w.cps.toList.all (se bh):=by
    unfold made;simp only [s7,decide_eq_false_iff_not] at aa;rw [if_neg aa.1,if_neg aa.2]
   refine c9.WB (fun x=>match x with | .str y=>.bk (!(qI bh y 0 bh.length 1).isEmpty) | _=>.b6) (by rw [R'];exact ia) (fun i x N ah br=>?_) (fun p ax=>?_)
   .unfold mQ at ah;rw [c5] at ah;cases ay:w.cps.toList[i]? with
    | none=>rw [ay] at ah;cases ah
    | some c=>
     rw [ay] at ah;have ew:V.str (i5 c)=x:=d1 ah;subst ew;nofun;exact ⟨Sub.name,br⟩
   .refine ⟨p,rfl,w.cps.toList.map (se bh),aC.of ?_,?_⟩
    .rw [aV];unfold mQ;rw [m6,m6];rfl
    .have:=q (upd H p (.lst (rq (fun x=>match x with | .str y=>.bk (!(qI bh y 0 bh.length 1).isEmpty) | _=>.b6) (mQ w)))) (bE ax);rw [e] at this;rw [VS];exact this
 .obtain ⟨w,bh,m,e,aT,bM,q⟩:=h;exact ⟨bM,w,bh,m,e,aT,fun I bO=>⟨bO,q⟩⟩
noncomputable abbrev rD:Str:=ab "0123456789"
noncomputable def mw (c:Nat):Bool:=decide (48 <= c/\c <= 57)
theorem aen:rD.cps.toList=[48,49,50,51,52,53,54,55,56,57]:=by ac_nf
theorem YS (c:Nat):se rD c=mw c:=by
 rw [Ht,aen];unfold mw;rw [jC];simp only [decide_eq_true_eq,eJ,qw,or_false];omega
noncomputable abbrev cs (w:Str):List Nat:=w.cps.toList
theorem Df (w:Str):(cs w).length=w.length:=by simp [cs,tM]
noncomputable def jR (w:Str):Bool:=decide (1 <= (cs w).length) && decide ((cs w).length <= 3) && (cs w).all mw && (decide ((cs w).length <= 1) || decide ((cs w).headD 0 ≠ 48))
noncomputable abbrev val (w:Str):Int:=((Lh (cs w):Nat):Int)
noncomputable def iw (w:Str) (lo ag:Int):V:=if jR w && !(decide (val w < lo) || decide (ag < val w)) then .int (val w) else .b6
theorem Oy {w:Str}:w=⟨#[c]⟩↔cs w=[c]:=by
 constructor
 .rintro rfl;rfl
 .intro h;cases w with
  | mk a=>
   have e:a=#[c]:=NY.mp h;rw [e]
theorem FB:ab "0"=⟨#[48]⟩:=by ac_nf
theorem Qb (w:Str):made w rD 3=(decide (1 <= (cs w).length) && decide ((cs w).length <= 3) && (cs w).all mw):=by
 unfold made;have e:(se rD)=mw:=funext YS;rw [e];by_cases af:w=ab ""
 .have ak:=xm.mp af;rw [if_pos af,Df,ak];rfl
 .have ak:¬ w.length=0:=fun z=>af (xm.mpr z)
  rw [if_neg af,Df];by_cases a9:(3:Int) < (w.length:Int)
  .rw [if_pos a9,decide_eq_false (show ¬ w.length <= 3 by omega),TY,mu]
  .rw [if_neg a9,decide_eq_true (show 1 <= w.length by omega),decide_eq_true (show w.length <= 3 by omega)];rfl
theorem ae0 (h:l.all mw=true):NumText.AllDigits l:=fun c ay=>by
 have:=oT.mp h c ay;simpa [mw] using this
theorem UU {w:Str} (h:jR w=true):(1 <= (cs w).length/\(cs w).length <= 3)/\(cs w).all mw=true:=by
 unfold jR at h;simp only [hX,decide_eq_true_eq] at h;exact h.1
def Q6:bU:=fun vs H Q _=>∃ w,vs=[.str w,.int 3]/\w.length <= 1000/\aP H/\Q (.bk (jR w)) H
def adR:bU:=fun vs H Q _=>∃ w lo ag,vs=[.str w,.int lo,.int ag]/\w.length <= 1000/\aP H/\Q (iw w lo ag) H
theorem Td:ct P base T 2 t.I7 t.Di yM Q6:=by
 refine cF (R_ T) fun DC=>?_;exists T.F9.ok T8,9
 obtain ⟨w,rfl,aT,bM,q⟩:=h;have ia:w.length <= sizeLine:=c_ aT (by decide);refine ⟨_,(db (dI (qB (lY (cm DC ao T.M4 T.yB.bN T.ir (aj (U 0) (aj (lA rfl T.XZ T.adQ) (aj (U 1) aG)))))) (a6 (cg ju)) d2)
   (a6 (cg (KN (gH ep (U 0) dh (cc _)) (sV (gH o6 (bV E' (U 0) aM) dh (cc _))))))),?_⟩
 refine dt (!made w rD 3) (fun Q aR=>?_) (fun aa=>?_) (fun aa=>?_)
 ·(nofun; repeat (dsimp only [Hj];nofun));exact ⟨aT,bM,aR⟩
 .nofun;have e:jR w=false:=by
   have fY:made w rD 3=false:=by simpa using aa
   rw [Qb] at fY;unfold jR;rw [fY];rfl
  rw [e] at q;exact q
 .have fY:made w rD 3=true:=by simpa using aa
  rw [Qb] at fY;rw [i9];dsimp only;refine agq (.bk (jR w)) (fun Q aR=>?_) ?_
  case refine_2=>exact q
  nofun;have jL:(1 <= (cs w).length/\(cs w).length <= 3)/\(cs w).all mw=true:=by
   simpa only [hX,decide_eq_true_eq] using fY
  obtain ⟨c,r,Dn⟩:∃ c r,cs w=c :: r:=by
   cases h:cs w with
   | nil=>rw [h] at jL;exact absurd jL.1.1 (by decide)
   | cons c r=>exact ⟨c,r,rfl⟩
  have ok:jR w=(decide ((cs w).length <= 1) || decide ((cs w).headD 0 ≠ 48)):=by
   unfold jR;rw [fY,lF]
  by_cases cD:w=ab "0"
  .rw [if_pos (decide_eq_true cD)];have e:cs w=[48]:=by rw [cD,FB]
   rw [ok,e] at aR;exact aR
  .rw [if_neg (by simpa using cD)];refine ⟨ia,c,?_,?_⟩
   .have:=Db (xs:=cs w) (j:=0) (v:=c) (by rw [Dn];rfl);exact this
   .have aH:decide ((⟨#[c]⟩:Str)=ab "0")=decide (c=48):=by
     rw [FB];by_cases ql:c=48
     .rw [ql];simp
     .rw [decide_eq_false ql,decide_eq_false];intro z;have eS:=Oy.mp z;exact ql (uU eS).1
    rw [aH];have bX:jR w = !decide (c=48):=by
     rw [ok,Dn];show (decide ((c :: r).length <= 1) || decide (c ≠ 48))=_;by_cases ql:c=48
     .have ao:r ≠ []:=fun z=>cD (by rw [FB];exact Oy.mpr (by rw [Dn,z,ql]))
      have:¬ (c :: r).length <= 1:=by
       cases r with
       | nil=>exact absurd rfl ao
       | cons d r=>simp
      rw [decide_eq_false this,ql];rfl
     .rw [decide_eq_true ql,LD,decide_eq_false ql];rfl
    rw [<- bX];exact aR
theorem Te:ct P base T 3 t.FG t.Ip Hw adR:=by
 refine cF (Td T) fun aaJ=>?_;exists T.IB.ok R1,9
 obtain ⟨w,lo,ag,rfl,aT,bM,q⟩:=h;refine ⟨_,(db (dI (qB (lY (cm aaJ ao T.UO T.F9.bN T.aav (aj (U 0) (aj (lA rfl T.acw T.aeV) aG))))) (a6 (cg nX)) d2)
   (db (b7 (i:=3) R1.aD (pC UL rfl T.DR I' (aj (U 0) aG)))
   (db (dI (fW.pt (rG (cU kn (U 3) (U 1) (cc _)) (ti (cU n5 (U 3) (U 2) (cc _))))) (a6 (cg nX)) d2)
   (a6 (cg (U 3)))))),?_⟩
 refine dt (!jR w) (fun Q aR=>?_) (fun aa=>?_) (fun aa=>?_)
 ·(nofun; repeat (dsimp only [Q6];nofun));exact ⟨aT,bM,aR⟩
 .nofun;have fY:jR w=false:=by simpa using aa
  have e:iw w lo ag=.b6:=by unfold iw;rw [fY];rfl
  rw [e] at q;exact q
 .have fY:jR w=true:=by simpa using aa
  have a9:(1 <= (cs w).length/\(cs w).length <= 3)/\(cs w).all mw=true:=by
   have:=fY;unfold jR at this;simp only [hX,decide_eq_true_eq] at this;exact this.1
  have aL:=Df w;have e7:intText? w=some (val w):=intText_digits (ae0 a9.2) (fun z=>by have ik:cs w=[]:=z;rw [ik] at a9;exact absurd a9.1.1 (by decide)) (by omega);nofun;refine ⟨val w,e7,by omega,?_⟩;refine dt (decide (val w < lo) || decide (ag < val w)) (fun Q aR=>?_) (fun ay=>?_) (fun ay=>?_)
  .nofun;by_cases c:val w < lo
   .rw [if_pos (decide_eq_true c)];rw [decide_eq_true c,qS] at aR;exact aR
   .rw [if_neg (by simpa using c)];rw [decide_eq_false c,lj] at aR;exact aR
  .nofun;have e:iw w lo ag=.b6:=by unfold iw;rw [fY,ay];rfl
   rw [e] at q;exact q
  .nofun;have e:iw w lo ag=.int (val w):=by unfold iw;rw [fY,ay];rfl
   rw [e] at q;exact q
theorem Jl (h:n < 1000):n.log2 < 1920:=by
 by_cases h0:n=0
 .subst h0;decide
 .rw [agm h0];exact hC h (c_ (show 1000 <= 2 ^ 10 by decide) (Nat.pow_le_pow_right (by decide) (by decide)))
theorem aic:∀ n,n < 1000->(tx 10 n).length <= 3:=by ac_nf
theorem ut {n:Int} (h0:0 <= n) (af:n <= 999):(ab (toString n)).length <= 3:=by
 have e:=Vm n.toNat;rw [qx h0] at e;have l:(ab (toString n)).length=(ab (toString n)).cps.toList.length:=by simp [tM]
 rw [l,e,aZ];exact aic _ (by omega)
noncomputable abbrev mB:Str:=ab "abcdefghijklmnopqrstuvwxyz"
def Vg:bU:=fun vs H Q _=>∃ w,vs=[.str w]/\w.length <= 1000/\aP H/\Q (.bk (made w mB 8)) H
theorem agr:ct P base T 2 t.Go t.Dw ["word"] Vg:=by
 refine cF (R_ T) fun DC=>?_;exists T.F6.ok agC,9
 obtain ⟨w,rfl,aT,bM,q⟩:=h;refine ⟨_,(a6 (cg (cm DC ao T.M4 T.yB.bN T.ir (aj (U 0) (aj (lA rfl T.aem T.afp) (aj (lA rfl T.abH T.adK) aG)))))),?_⟩;(nofun; repeat (dsimp only [Hj];nofun));exact ⟨aT,bM,q⟩
noncomputable abbrev nl:Str:=ab "\n"
noncomputable abbrev cw:Str:=ab " "
theorem wP:nl=⟨#[10]⟩:=by ac_nf
theorem yb:cw=⟨#[32]⟩:=by ac_nf
noncomputable def g6 (x:Str):List (List Str):=(il x nl).map fun r=>il r cw
theorem Q1:∀ {ys:List Str} {y:Str},y ∈ ys->y.length <= (ys.map (·.length)).sum
 | [],_,h=>nomatch h
 | a :: r,y,h=>by
  rw [er,Pm];rcases eJ.mp h with rfl | h
  .omega
  .have:=Q1 h;omega
theorem ab' {x y r:Str} (bg:1 <= y.length) (h:r ∈ il x y):r.length <= x.length + 1:=by
 have af:=adl x y bg;have ak:=Q1 h;omega
theorem Gi {x y:Str} (bg:1 <= y.length):(il x y).length <= x.length + 1:=by
 have af:=adl x y bg;omega
theorem Xn (x y:Str):il x y ≠ []:=by
 unfold il;split
 .simp
 .split
  .simp
  .rw [StrLaws.partsBetween_eq];obtain ⟨p,r,e⟩:=StrLaws.partsFrom_ne x y.length 0 (qI x y 0 x.length (x.length + 1));rw [e];simp
def Y2 (bz H:ar) (p:Addr) (rows:List (List Str)):Prop:=∃ qs:List Addr,H p=some (.lst (qs.map V.ref))/\bz p=none/\p ∉ qs/\qs.length=rows.length/\∀ (i:Nat) (q:Addr) (r:List Str),qs[i]? = some q->rows[i]? = some r->H q=some (.lst (aW r))/\bz q=none
def Rq:bU:=fun vs H Q _=>∃ x,vs=[.str x]/\x.length <= 20000/\aP H/\∀ p I,aO H I->aP I->Y2 H I p (g6 x)->Q (.ref p) I
theorem u0:nl.length=1:=by ac_nf
theorem qt:cw.length=1:=by ac_nf
theorem ag6:ct P base T 1 t.An t.BH ["text"] Rq:=by
 exists T.DS.ok abB,9
 obtain ⟨x,rfl,aT,bM,q⟩:=h;have iL:∀ n:Nat,n <= 40000->n <= sizeLine:=fun n h=>c_ h (by decide)
 refine ⟨_,(a6 (cg (hP rfl (eT (gq tv Bl aiq NV (U 0) (aj dh aG))) (gA (sc:=bt Ha) rfl (by ac_nf)) (N:=["row"]) (sel:=[none]) (gC (M:=["text"]) (by ac_nf)) (fx.of (fun _ _ _ _=>(cA (i:=0) (eu (N:=["row"]) (by ac_nf) rfl))) (fun _ _ _ _=>⟨_,h4,by walk_at "B"⟩) (fun _ _ _ _=>⟨_,(gq tv Bl aiq NV (U 0) (aj dh aG)),by walk_at "B"⟩))))),?_⟩;nofun;have bg:1 <= nl.length:=by rw [u0];exact cn _
 have agO:1 <= cw.length:=by rw [qt];exact cn _
 have av:=Gi (x:=x) bg;have eP:(aW (il x nl)).length <= sizeLine:=by unfold aW;rw [aZ];exact iL _ (by omega)
 refine ⟨by rw [u0];decide,iL _ (by omega),iL _ (show (il x nl).length <= 40000 by omega),fun p ax=>⟨⟨_,aC.of aV⟩,?_⟩⟩;refine c9.Zl (xs:=aW (il x nl)) (fun v=>match v with | .str r=>.lst (aW (il r cw)) | _=>.lst []) (aC.of aV) eP (fun v=>by cases v <;> rfl) (fun i v H1 N ah bO jj br=>?_) (fun qs H1 bO jj aL al eH hv=>?_)
 .unfold aW at ah;rw [c5] at ah;cases ao:(il x nl)[i]? with
  | none=>rw [ao] at ah;cases ah
  | some r=>
   rw [ao] at ah;have e:=d1 ah;subst e;have hm:=ab' bg (cC ao);have la:=Gi (x:=r) agO;nofun;exact ⟨Sub.name,by rw [qt];decide,iL _ (by omega),iL _ (show (il r cw).length <= 40000 by omega),br⟩
 .have DM:aO H H1:=(bE ax).trans bO;refine q _ _ (DM.gf (DM.free hv)) ((jj (bM.upd)).upd) ⟨qs,aV,DM.free hv,fun hm=>?_,?_,fun i e9 r af ak=>?_⟩
  .obtain ⟨j,aJ,e⟩:=G_ hm;have agt:j < (aW (il x nl)).length:=by omega
   have:=al j eH _ (by rw [bo aJ,e]) (bo agt);rw [hv] at this;cases this.1
  .rw [aL];unfold g6 aW;rw [aZ,aZ]
  .unfold g6 at ak;rw [c5] at ak;cases ao:(il x nl)[i]? with
   | none=>rw [ao] at ak;cases ak
   | some vL=>
    rw [ao] at ak;have e:=d1 ak;subst e;have z:=al i e9 (.str vL) af (by unfold aW;rw [c5,ao];rfl);refine ⟨by rw [aE (dy z.1 hv)];exact z.1,?_⟩;have:=z.2;by_cases a0:e9=p
    .rw [a0];exact ax
    .rwa [aE a0] at this
structure a8 where
 k:Nat
 name:Str
 start:Int
 fin:Int
 off:Int
 near:Int
 least:Int
noncomputable def d_:Nat->Str
 | 0=>ab "car"
 | 1=>ab "foot"
 | _=>ab "tram"
noncomputable def bQ.f9 (t:bQ):Nat->Addr
 | 0=>t.iN
 | 1=>t.iO
 | _=>t.iS
noncomputable def nJ (d:a8):List (Str × V):=[(ab "kind",.str (d_ d.k)),(ab "name",.str d.name),(ab "start",.int d.start),(ab "end",.int d.fin),(ab "off",.int d.off),(ab "near",.int d.near),(ab "least",.int d.least)]
noncomputable abbrev nq:List Str:=[ab "kind",ab "name",ab "start",ab "end",ab "off",ab "near",ab "least"]
theorem O5 (d:a8):(nJ d).map (·.1)=nq:=rfl
def Re (t:bQ) (H:ar) (p:Addr) (d:a8):Prop:=d.k < 3/\∃ aq,H p=some (.ins (t.f9 d.k) aq (nJ d))
theorem Re.same {t:bQ} {p:Addr} (h:Re t H p d) (s:aO H I):Re t I p d:=⟨h.1,h.2.imp fun aq e=>s _ _ e⟩
def sC (t:bQ) (C:Addr):Prop:=∃ k,k < 3/\C=t.f9 k
noncomputable def me (d:a8):Int:=match d.k with | 0=>1 | 1=>0 | _=>2
noncomputable def l2 (d:a8):Int:=match d.k with | 0=>2 | 1=>d.off | _=>1
section
variable {w:World} {K:ba} {mg:Str->Option Value} {t:bQ}
theorem Txt.qz (T:Txt w K mg t):∀ k,gX K (t.f9 k)
 | 0=>T.GI
 | 1=>T.H4
 | _ + 2=>T.Jo
theorem Txt.Po (T:Txt w K mg t) (hf:f ∈ nq):∀ k,ac K (t.f9 k) f:=by
 intro k;simp only [nq,eJ,qw,or_false] at hf;rcases hf with rfl | rfl | rfl | rfl | rfl | rfl | rfl
 .match k with
  | 0=>exact T.aaD
  | 1=>exact T.Zv
  | _ + 2=>exact T.aa7
 .match k with
  | 0=>exact T.VE
  | 1=>exact T.ach
  | _ + 2=>exact T.At
 .match k with
  | 0=>exact T.aaH
  | 1=>exact T.S7
  | _ + 2=>exact T.Ww
 .match k with
  | 0=>exact T.agn
  | 1=>exact T.UR
  | _ + 2=>exact T.agF
 .match k with
  | 0=>exact T.ahS
  | 1=>exact T.Yv
  | _ + 2=>exact T.TJ
 .match k with
  | 0=>exact T.WV
  | 1=>exact T.ag1
  | _ + 2=>exact T.afY
 .match k with
  | 0=>exact T.agu
  | 1=>exact T.W9
  | _ + 2=>exact T.ac'
theorem Txt.cw_inj (T:Txt w K mg t) {j k:Nat} (aJ:j < 3) (az:k < 3) (e:t.f9 j=t.f9 k):j=k:=by
 match j,k,aJ,az with
 | 0,0,_,_=>rfl
 | 0,1,_,_=>exact absurd e T.Qx
 | 0,2,_,_=>exact absurd e T.K2
 | 1,0,_,_=>exact absurd e.symm T.Qx
 | 1,1,_,_=>rfl
 | 1,2,_,_=>exact absurd e T.Ko
 | 2,0,_,_=>exact absurd e.symm T.K2
 | 2,1,_,_=>exact absurd e.symm T.Ko
 | 2,2,_,_=>rfl
 | j + 3,_,h,_=>omega
 | _,k + 3,_,h=>omega
theorem Re.fld (T:Txt w K mg t) {p:Addr} (h:Re t H p d) (i:Nat) (ag:nq.findIdx? (· == f)=some i) (aI:(nJ d)[i]? = some (f,v)):fA K H p f v:=by
 obtain ⟨_,aq,e⟩:=h;have hm:f ∈ nq:=by
  obtain ⟨dG,af,_⟩:=List.findIdx?_eq_some_iff_getElem.mp ag;have:nq[i]=f:=by simpa using af
  rw [<- this];exact iM dG
 exact ⟨_,aq,_,e,T.qz _,T.Po hm _,f' nq i (O5 d) ag aI⟩
theorem Re.ad8 (T:Txt w K mg t) {p:Addr} (h:Re t H p d):fA K H p (ab "kind") (.str (d_ d.k)):=h.fld T 0 (by ac_nf) rfl
theorem Re.GW (T:Txt w K mg t) {p:Addr} (h:Re t H p d):fA K H p (ab "name") (.str d.name):=h.fld T 1 (by ac_nf) rfl
theorem Re.tQ (T:Txt w K mg t) {p:Addr} (h:Re t H p d):fA K H p (ab "start") (.int d.start):=h.fld T 2 (by ac_nf) rfl
theorem Re.rQ (T:Txt w K mg t) {p:Addr} (h:Re t H p d):fA K H p (ab "end") (.int d.fin):=h.fld T 3 (by ac_nf) rfl
theorem Re.SO (T:Txt w K mg t) {p:Addr} (h:Re t H p d):fA K H p (ab "off") (.int d.off):=h.fld T 4 (by ac_nf) rfl
theorem Re.aeT (T:Txt w K mg t) {p:Addr} (h:Re t H p d):fA K H p (ab "near") (.int d.near):=h.fld T 5 (by ac_nf) rfl
theorem Re.Za (T:Txt w K mg t) {p:Addr} (h:Re t H p d):fA K H p (ab "least") (.int d.least):=h.fld T 6 (by ac_nf) rfl
end
def WJ (t:bQ):bU:=fun vs H Q _=>∃ (p aq:Addr) (d:a8),vs=[.ref p,.str (d_ d.k),.str d.name,.int d.start,.int d.fin,.int d.off,.int d.near,.int d.least]/\d.k < 3/\H p=some (.ins (t.f9 d.k) aq [])/\Q .b6 (upd H p (.ins (t.f9 d.k) aq (nJ d)))
def tK (t:bQ) (k:Nat):bU:=fun vs H Q _=>∃ (p aq:Addr) (d:a8),vs=[.ref p,.str d.name,.int d.start,.int d.fin,.int d.off,.int d.near,.int d.least]/\d.k=k/\H p=some (.ins (t.f9 d.k) aq [])/\Q .b6 (upd H p (.ins (t.f9 d.k) aq (nJ d)))
theorem DV:ct P base T 1 t.yE t.ci x7 (WJ t):=by
 exists T.Md.ok abf,9
 obtain ⟨p,aq,d,rfl,az,ax,q⟩:=h;refine ⟨_,(db (eR (U 0) (U 1) rfl)
   (db (eR (U 0) (U 2) rfl)
   (db (eR (U 0) (U 3) rfl)
   (db (eR (U 0) (U 4) rfl)
   (db (eR (U 0) (U 5) rfl)
   (db (eR (U 0) (U 6) rfl)
   (a6 (eR (U 0) (U 7) rfl)))))))),?_⟩
 nofun;have na:∀ {f:Str},f ∈ nq->ac K (t.f9 d.k) f:=fun hf=>T.Po hf d.k
 refine ⟨_,_,_,ax,T.qz _,na (by ac_nf),by decide,?_⟩;refine ⟨_,_,_,aV,T.qz _,na (by ac_nf),gF (n:=999) (by decide),?_⟩;refine ⟨_,_,_,aV,T.qz _,na (by ac_nf),gF (n:=999) (gF (n:=998) (by decide)),?_⟩;refine ⟨_,_,_,aV,T.qz _,na (by ac_nf),gF (n:=999) (gF (n:=998) (gF (n:=997) (by decide))),?_⟩;refine ⟨_,_,_,aV,T.qz _,na (by ac_nf),gF (n:=999) (gF (n:=998) (gF (n:=997) (gF (n:=996) (by decide)))),?_⟩;refine ⟨_,_,_,aV,T.qz _,na (by ac_nf),gF (n:=999) (gF (n:=998) (gF (n:=997) (gF (n:=996) (gF (n:=995) (by decide))))),?_⟩;refine ⟨_,_,_,aV,T.qz _,na (by ac_nf),gF (n:=999) (gF (n:=998) (gF (n:=997) (gF (n:=996) (gF (n:=995) (gF (n:=994) (by decide)))))),?_⟩;simp only [r_];rw [show cZ (ab "kind") (V.str (d_ d.k)) ([]:List (Str × V))=[(ab "kind",V.str (d_ d.k))] from fV [] rfl (by ac_nf),
  show cZ (ab "name") (V.str d.name) ([(ab "kind",V.str (d_ d.k))]:List (Str × V))=[(ab "kind",V.str (d_ d.k)),(ab "name",V.str d.name)] from fV [ab "kind"] rfl (by ac_nf),
  show cZ (ab "start") (V.int d.start) ([(ab "kind",V.str (d_ d.k)),(ab "name",V.str d.name)]:List (Str × V))=[(ab "kind",V.str (d_ d.k)),(ab "name",V.str d.name),(ab "start",V.int d.start)] from fV [ab "kind",ab "name"] rfl (by ac_nf),
  show cZ (ab "end") (V.int d.fin) ([(ab "kind",V.str (d_ d.k)),(ab "name",V.str d.name),(ab "start",V.int d.start)]:List (Str × V))=[(ab "kind",V.str (d_ d.k)),(ab "name",V.str d.name),(ab "start",V.int d.start),(ab "end",V.int d.fin)] from fV [ab "kind",ab "name",ab "start"] rfl (by ac_nf),
  show cZ (ab "off") (V.int d.off) ([(ab "kind",V.str (d_ d.k)),(ab "name",V.str d.name),(ab "start",V.int d.start),(ab "end",V.int d.fin)]:List (Str × V))=[(ab "kind",V.str (d_ d.k)),(ab "name",V.str d.name),(ab "start",V.int d.start),(ab "end",V.int d.fin),(ab "off",V.int d.off)] from fV [ab "kind",ab "name",ab "start",ab "end"] rfl (by ac_nf),
  show cZ (ab "near") (V.int d.near) ([(ab "kind",V.str (d_ d.k)),(ab "name",V.str d.name),(ab "start",V.int d.start),(ab "end",V.int d.fin),(ab "off",V.int d.off)]:List (Str × V))=[(ab "kind",V.str (d_ d.k)),(ab "name",V.str d.name),(ab "start",V.int d.start),(ab "end",V.int d.fin),(ab "off",V.int d.off),(ab "near",V.int d.near)] from fV [ab "kind",ab "name",ab "start",ab "end",ab "off"] rfl (by ac_nf),
  show cZ (ab "least") (V.int d.least) ([(ab "kind",V.str (d_ d.k)),(ab "name",V.str d.name),(ab "start",V.int d.start),(ab "end",V.int d.fin),(ab "off",V.int d.off),(ab "near",V.int d.near)]:List (Str × V))=[(ab "kind",V.str (d_ d.k)),(ab "name",V.str d.name),(ab "start",V.int d.start),(ab "end",V.int d.fin),(ab "off",V.int d.off),(ab "near",V.int d.near),(ab "least",V.int d.least)] from fV [ab "kind",ab "name",ab "start",ab "end",ab "off",ab "near"] rfl (by ac_nf)]
 exact q
theorem dL:ct P base T 2 t.uh t.yP j6 (tK t 0):=by
 refine cF (DV T) fun w8=>?_;exists T.No.ok TC,9
 obtain ⟨p,aq,d,rfl,az,ax,q⟩:=h;refine ⟨_,(a6 (eo (IE rfl T.Jc T.DE w8 ao T.DB .nil cI (aj (U 0) (aj dh (aj (U 1) (aj (U 2) (aj (U 3) (aj (U 4) (aj (U 5) (aj (U 6) aG))))))))))),?_⟩;nofun;exact ⟨p,aq,d,by rw [az];rfl,by omega,ax,q⟩
theorem ahh:ct P base T 2 t.wc t.Av j6 (tK t 1):=by
 refine cF (DV T) fun w8=>?_;exists T.RY.ok afw,9
 obtain ⟨p,aq,d,rfl,az,ax,q⟩:=h;refine ⟨_,(a6 (eo (IE rfl T.Jc T.DE w8 ao T.DB .nil cI (aj (U 0) (aj dh (aj (U 1) (aj (U 2) (aj (U 3) (aj (U 4) (aj (U 5) (aj (U 6) aG))))))))))),?_⟩;nofun;exact ⟨p,aq,d,by rw [az];rfl,by omega,ax,q⟩
theorem aiD:ct P base T 2 t.xb t.z1 j6 (tK t 2):=by
 refine cF (DV T) fun w8=>?_;exists T.Pd.ok On,9
 obtain ⟨p,aq,d,rfl,az,ax,q⟩:=h;refine ⟨_,(a6 (eo (IE rfl T.Jc T.DE w8 ao T.DB .nil cI (aj (U 0) (aj dh (aj (U 1) (aj (U 2) (aj (U 3) (aj (U 4) (aj (U 5) (aj (U 6) aG))))))))))),?_⟩;nofun;exact ⟨p,aq,d,by rw [az];rfl,by omega,ax,q⟩
def sD (t:bQ) (C:Addr):bU:=fun vs H Q _=>∃ p d,vs=[.ref p]/\Re t H p d/\C=t.f9 d.k/\Q (.int (me d)) H
def tZ (t:bQ) (C:Addr):bU:=fun vs H Q _=>∃ p d,vs=[.ref p]/\Re t H p d/\C=t.f9 d.k/\Q (.int (l2 d)) H
theorem ahQ:ct P base T 1 t.A_ t.GH ["self"] (sD t (t.f9 0)):=by
 exists T.R5.ok VJ,9
 obtain ⟨p,d,rfl,W,de,q⟩:=h;have az:=(T.cw_inj (by decide) W.1 de).symm;refine ⟨_,(a6 (cg aM)),?_⟩;rw [show me d=1 by unfold me;simp only [az]] at q;nofun;exact q
theorem Z6:ct P base T 1 t.AN t.Cn ["self"] (sD t (t.f9 1)):=by
 exists T.lm.ok aee,9
 obtain ⟨p,d,rfl,W,de,q⟩:=h;have az:=(T.cw_inj (by decide) W.1 de).symm;refine ⟨_,(a6 (cg aM)),?_⟩;rw [show me d=0 by unfold me;simp only [az]] at q;nofun;exact q
theorem V4:ct P base T 1 t.Af t.GX ["self"] (sD t (t.f9 2)):=by
 exists T.KU.ok VI,9
 obtain ⟨p,d,rfl,W,de,q⟩:=h;have az:=(T.cw_inj (by decide) W.1 de).symm;refine ⟨_,(a6 (cg aM)),?_⟩;rw [show me d=2 by unfold me;simp only [az]] at q;nofun;exact q
theorem RH (T:Txt w K mg t):oK P w K mg base dC 1 (sC t) "ready" ["self"] (sD t):=by
 refine ⟨fun C de=>?_⟩;obtain ⟨k,az,rfl⟩:=de
 match k,az with
 | 0,_=>exact ⟨_,_,T.GI,T.YB,ahQ T,T.aaZ⟩
 | 1,_=>exact ⟨_,_,T.H4,T.Zo,Z6 T,T.Y_⟩
 | 2,_=>exact ⟨_,_,T.Jo,T.agd,V4 T,T.Yh⟩
theorem ahZ:ct P base T 1 t.bi t.Hf ["self"] (tZ t (t.f9 0)):=by
 exists T.NP.ok bv,9
 obtain ⟨p,d,rfl,W,de,q⟩:=h;have az:=(T.cw_inj (by decide) W.1 de).symm;refine ⟨_,(a6 (cg aM)),?_⟩;rw [show l2 d=2 by unfold l2;simp only [az]] at q;nofun;exact q
theorem adG:ct P base T 1 t.zt t.GR ["self"] (tZ t (t.f9 1)):=by
 exists T.Ke.ok ahJ,9
 obtain ⟨p,d,rfl,W,de,q⟩:=h;have az:=(T.cw_inj (by decide) W.1 de).symm;refine ⟨_,(a6 (cg (bA (U 0) rfl))),?_⟩;rw [show l2 d=d.off by unfold l2;simp only [az]] at q;nofun;exact ⟨_,W.SO T,q⟩
theorem adN:ct P base T 1 t.xO t.F3 ["self"] (tZ t (t.f9 2)):=by
 exists T.zn.ok ZO,9
 obtain ⟨p,d,rfl,W,de,q⟩:=h;have az:=(T.cw_inj (by decide) W.1 de).symm;refine ⟨_,(a6 (cg aM)),?_⟩;rw [show l2 d=1 by unfold l2;simp only [az]] at q;nofun;exact q
theorem Nz (T:Txt w K mg t):oK P w K mg base dC 1 (sC t) "fade" ["self"] (tZ t):=by
 refine ⟨fun C de=>?_⟩;obtain ⟨k,az,rfl⟩:=de
 match k,az with
 | 0,_=>exact ⟨_,_,T.GI,T.Wb,ahZ T,T.VC⟩
 | 1,_=>exact ⟨_,_,T.H4,T.ac5,adG T,T.lv⟩
 | 2,_=>exact ⟨_,_,T.Jo,T.aei,adN T,T.ahB⟩
noncomputable def km (c:Nat):List (List Nat)->List Nat
 | []=>[]
 | [a]=>a
 | a :: b :: r=>a ++ c :: km c (b :: r)
theorem Pr:∀ {a b X Y:List Nat},c ∉ a->c ∉ b->a ++ c :: X=b ++ c :: Y->a=b/\X=Y
 | [],[],X,Y,_,_,h=>⟨rfl,(uU h).2⟩
 | [],d :: b,X,Y,_,aa,h=>absurd (uU h).1 (fun z=>aa (by simp [<- z]))
 | d :: a,[],X,Y,aS,_,h=>absurd (uU h).1 (fun z=>aS (by simp [z]))
 | d :: a,e :: b,X,Y,aS,aa,h=>by
  obtain ⟨af,ak⟩:=uU h;obtain ⟨au,aH⟩:=Pr (fun z=>aS (hM _ z)) (fun z=>aa (hM _ z)) ak;exact ⟨by rw [af,au],aH⟩
theorem PN:∀ {ps qs:List (List Nat)},(∀ p ∈ ps,c ∉ p)->(∀ q ∈ qs,c ∉ q)->ps ≠ []->qs ≠ []->km c ps=km c qs->ps=qs
 | [a],[b],_,_,_,_,h=>by rw [show a=b from h]
 | [a],b :: ip :: r,aS,_,_,_,h=>absurd (show c ∈ a by rw [show a=b ++ c :: km c (ip :: r) from h];simp) (aS a (by simp))
 | a :: uv :: r,[b],_,aa,_,_,h=>absurd (show c ∈ b by rw [show b=a ++ c :: km c (uv :: r) from h.symm];simp) (aa b (by simp))
 | a :: uv :: r,b :: ip :: s,aS,aa,_,_,h=>by
  obtain ⟨au,aH⟩:=Pr (aS a (by simp)) (aa b (by simp)) (show a ++ c :: km c (uv :: r)=b ++ c :: km c (ip :: s) from h);rw [au,PN (fun p ax=>aS p (hM _ ax)) (fun q a0=>aa q (hM _ a0)) (by simp) (by simp) aH]
 | [],_,_,_,h,_,_=>absurd rfl h
 | _ :: _,[],_,_,_,h,_=>absurd rfl h
theorem Qc:∀ {ps:List (List Nat)},d ∈ km c ps->d=c\/∃ p ∈ ps,d ∈ p
 | [],h=>nomatch h
 | [a],h=>.inr ⟨a,by simp,h⟩
 | a :: b :: r,h=>by
  rcases eG.mp (show d ∈ a ++ c :: km c (b :: r) from h) with h | h
  .exact .inr ⟨a,by simp,h⟩
  .rcases eJ.mp h with h | h
   .exact .inl h
   .rcases Qc h with h | ⟨p,ax,h⟩
    .exact .inl h
    .exact .inr ⟨p,hM _ ax,h⟩
theorem qn (c:Nat):∀ ys:List Str,(dS ⟨#[c]⟩ ys).cps.toList=km c (ys.map (·.cps.toList))
 | []=>rfl
 | [a]=>rfl
 | a :: b :: r=>by
  show (a ++ ⟨#[c]⟩ ++ dS ⟨#[c]⟩ (b :: r)).cps.toList=_;rw [n8,n3,n8,n3,qn c (b :: r)];simp [km]
theorem Al {x y:Str} (h:x.cps.toList=y.cps.toList):x=y:=by
 cases x;cases y;exact congrArg Str.mk (NY.mp h)
theorem J' (a4:ys ≠ []) (hf:∀ y ∈ ys,c ∉ y.cps.toList):il (dS ⟨#[c]⟩ ys) ⟨#[c]⟩=ys:=by
 have e:=congrArg (·.cps.toList) (StrLaws.join_split (dS ⟨#[c]⟩ ys) ⟨#[c]⟩);simp only [qn] at e;have aH:=PN (c:=c) (ps:=(il (dS ⟨#[c]⟩ ys) ⟨#[c]⟩).map (·.cps.toList)) (qs:=ys.map (·.cps.toList)) (fun p ax=>by
  obtain ⟨y,bg,rfl⟩:=bK.mp ax;exact StrLaws.split_free _ c y bg) (fun p ax=>by
  obtain ⟨y,bg,rfl⟩:=bK.mp ax;exact hf y bg) (by simp [Xn]) (by simpa using a4) e
 exact (List.map_inj_right fun x y h=>Al h).mp aH
noncomputable abbrev num (v:Int):Str:=ab (toString v)
theorem VR:∀ n,n < 1000->(decide (1 <= ((tx 10 n).map vk).length) && decide (((tx 10 n).map vk).length <= 3) && ((tx 10 n).map vk).all mw && (decide (((tx 10 n).map vk).length <= 1) || decide (((tx 10 n).map vk).headD 0 ≠ 48)) &&
  decide (Lh ((tx 10 n).map vk)=n))=true:=by ac_nf
theorem A6 (h0:0 <= v) (af:v < 1000):jR (num v)=true/\val (num v)=v:=by
 have e:=Vm v.toNat;rw [qx h0] at e;have a:=VR v.toNat (by omega);rw [<- e,hX,decide_eq_true_eq] at a;exact ⟨a.1,by show ((Lh (cs (num v)):Nat):Int)=v;rw [a.2];omega⟩
theorem pW {v lo ag:Int} (h0:0 <= v) (af:v < 1000) (aL:lo <= v) (dr:v <= ag):iw (num v) lo ag=.int v:=by
 obtain ⟨a,b⟩:=A6 h0 af;unfold iw;rw [a,b,decide_eq_false (by omega:¬ v < lo),decide_eq_false (by omega:¬ ag < v)];rfl
theorem abk (h0:0 <= u) (af:u < 1000) (ak:0 <= v) (a9:v < 1000) (e:num u=num v):u=v:=by
 rw [<- (A6 h0 af).2,e,(A6 ak a9).2]
theorem Qo (h0:0 <= v) (af:v < 1000):∀ c ∈ (num v).cps.toList,48 <= c/\c <= 57:=fun c ay=>by
 have:=oT.mp (UU (A6 h0 af).1).2 c ay;simpa [mw] using this
theorem ac1:∀ c ∈ mB.cps.toList,97 <= c/\c <= 122:=by ac_nf
theorem Z0:∀ k,k < 26->97 + k ∈ mB.cps.toList:=by ac_nf
theorem tO {x:Str} (h:made x mB 8=true):(1 <= x.length/\x.length <= 8)/\∀ c ∈ x.cps.toList,97 <= c/\c <= 122:=by
 unfold made at h;split at h
 .cases h
 .rename_i af;split at h
  .cases h
  .rename_i ak;have a9:¬ x.length=0:=fun z=>af (xm.mpr z)
   refine ⟨by omega,fun c ay=>?_⟩;have:=oT.mp h c ay;rw [Ht] at this;exact ac1 c (of_decide_eq_true this)
theorem aa0 {x:Str} (h0:1 <= x.length) (af:x.length <= 8) (h:∀ c ∈ x.cps.toList,97 <= c/\c <= 122):made x mB 8=true:=by
 unfold made;rw [if_neg (fun z=>by have:=xm.mp z;omega),if_neg (by omega)];refine oT.mpr fun c ay=>?_
 have:=h c ay;rw [Ht];have e:=Z0 (c - 97) (by omega);rw [show 97 + (c - 97)=c by omega] at e;exact decide_eq_true e
structure o1 (n:Int) (d:a8):Prop where
 k:d.k < 3
 nm:made d.name mB 8=true
 st:0 <= d.start/\d.start < n
 e6:0 <= d.fin/\d.fin < n
 ne:d.start ≠ d.fin
 of:0 <= d.off/\d.off <= 30
 H6:0 <= d.near/\d.near <= 30
 le:1 <= d.least/\d.least <= 60
structure qW (n:Int) (ds:List a8):Prop where
 nn:2 <= n/\n <= 99
 ln:1 <= ds.length/\ds.length <= 12
 al:∀ d ∈ ds,o1 n d
 aD:(ds.map (·.name)).Nodup
noncomputable def mV (d:a8):List Str:=[d_ d.k,d.name,num d.start,num d.fin,num d.off,num d.near,num d.least]
noncomputable def hW (n:Int) (ds:List a8):List (List Str):=[ab "ring",num n] :: ds.map mV
noncomputable def oh (n:Int) (ds:List a8):Str:=dS nl ((hW n ds).map (dS cw))
def oO (x:Str):Prop:=x.length <= 8/\(32:Nat) ∉ x.cps.toList/\(10:Nat) ∉ x.cps.toList
theorem Mc (k:Nat):oO (d_ k):=by
 match k with
 | 0=>exact ⟨by ac_nf,by ac_nf,by ac_nf⟩
 | 1=>exact ⟨by ac_nf,by ac_nf,by ac_nf⟩
 | _ + 2=>exact ⟨show (ab "tram").length <= 8 by ac_nf,show (32:Nat) ∉ (ab "tram").cps.toList by ac_nf,show (10:Nat) ∉ (ab "tram").cps.toList by ac_nf⟩
theorem kI (h0:0 <= v) (af:v < 1000):oO (num v):=
 ⟨c_ (ut h0 (by omega)) (by decide),fun z=>by have:=Qo h0 af _ z;omega,fun z=>by have:=Qo h0 af _ z;omega⟩
theorem Jn {x:Str} (h:made x mB 8=true):oO x:=
 ⟨(tO h).1.2,fun z=>by have:=(tO h).2 _ z;omega,fun z=>by have:=(tO h).2 _ z;omega⟩
theorem o1.plain (h:o1 n d) (a4:n <= 99):∀ x ∈ mV d,oO x:=fun x ah=>by
 have af:=h.st;have ak:=h.e6;have a9:=h.of;have cW:=h.H6;have eF:=h.le;simp only [mV,eJ,qw,or_false] at ah;rcases ah with rfl | rfl | rfl | rfl | rfl | rfl | rfl
 .exact Mc _
 .exact Jn h.nm
 .exact kI (by omega) (by omega)
 .exact kI (by omega) (by omega)
 .exact kI (by omega) (by omega)
 .exact kI (by omega) (by omega)
 .exact kI (by omega) (by omega)
theorem qW.plain (h:qW n ds):∀ r ∈ hW n ds,∀ x ∈ r,oO x:=fun r ao x ah=>by
 have a4:=h.nn;rcases eJ.mp ao with rfl | ao
 .simp only [eJ,qw,or_false] at ah;rcases ah with rfl | rfl
  .exact ⟨by ac_nf,by ac_nf,by ac_nf⟩
  .exact kI (by omega) (by omega)
 .obtain ⟨d,hd,rfl⟩:=bK.mp ao;exact (h.al d hd).plain a4.2 x ah
theorem N_ (h0:rs ≠ []) (af:∀ r ∈ rs,r ≠ []) (ak:∀ r ∈ rs,∀ x ∈ r,oO x):g6 (dS nl (rs.map (dS cw)))=rs:=by
 unfold g6;rw [wP,yb];rw [J' (by simpa using h0) (fun y bg=>by
  obtain ⟨r,ao,rfl⟩:=bK.mp bg;rw [qn];intro z;rcases Qc z with z | ⟨p,ax,z⟩
  .cases z
  .obtain ⟨x,ah,rfl⟩:=bK.mp ax;exact (ak r ao x ah).2.2 z)]
 rw [m6];have:∀ r ∈ rs,((fun r=>il r ⟨#[32]⟩) ∘ dS ⟨#[32]⟩) r=r:=fun r ao=>J' (af r ao) fun x ah=>(ak r ao x ah).2.1
 exact (zS this).trans (List.map_id rs)
theorem X6 (h:qW n ds):g6 (oh n ds)=hW n ds:=N_ (by simp [hW]) (fun r ao=>by
 rcases eJ.mp ao with rfl | ao
 .simp
 .obtain ⟨d,hd,rfl⟩:=bK.mp ao;simp [mV]) h.plain
theorem Tk (sep:Str) (B:Nat):∀ ys:List Str,(∀ y ∈ ys,y.length <= B)->(dS sep ys).length <= ys.length * (B + sep.length)
 | [],_=>by show (Str.empty).length <= _;exact fi _
 | [a],h=>by
  have:=h a (by simp);show a.length <= _;simp only [iu,vB];omega
 | a :: b :: r,h=>by
  have af:=h a (by simp);have ak:=Tk sep B (b :: r) fun y bg=>h y (hM _ bg)
  show (a ++ sep ++ dS sep (b :: r)).length <= _;rw [nW,nW,iu,VG];omega
theorem Zy (h:qW n ds):(oh n ds).length <= 1000:=by
 have af:∀ y ∈ (hW n ds).map (dS cw),y.length <= 63:=fun y bg=>by
  obtain ⟨r,ao,rfl⟩:=bK.mp bg;have:=Tk cw 8 r fun x ah=>(h.plain r ao x ah).1
  rw [qt] at this;have aL:r.length <= 7:=by
   rcases eJ.mp ao with rfl | ao
   .simp
   .obtain ⟨d,hd,rfl⟩:=bK.mp ao;simp [mV]
  omega
 have ak:=Tk nl 63 _ af;rw [u0] at ak;have a9:((hW n ds).map (dS cw)).length <= 13:=by
  have:=h.ln;simp [hW];omega
 unfold oh;omega
noncomputable abbrev oH:List Str:=[ab "row",ab "told",ab "place"]
noncomputable def mn (row:Int) (a_:Addr) (pl:Int):List (Str × V):=[(ab "row",.int row),(ab "told",.ref a_),(ab "place",.int pl)]
theorem uu (row:Int) (a_:Addr) (pl:Int):(mn row a_ pl).map (·.1)=oH:=rfl
theorem V3 (row:Int) (a_:Addr) (pl v:Int):cZ (ab "place") (.int v) (mn row a_ pl)=mn row a_ v:=by
 unfold mn;simp only [cZ];rw [if_neg (by ac_nf),if_neg (by ac_nf)];rfl
def c3 (t:bQ) (H:ar) (p:Addr) (row:Int) (ws:List Str) (pl:Nat):Prop:=
 (ws.length <= 1000/\∀ x ∈ ws,x.length <= 1000)/\∃ aq a_,H p=some (.ins t.gG aq (mn row a_ pl))/\H a_=some (.lst (aW ws))
def cP (p:Addr) (H I:ar):Prop:=∀ b u,b ≠ p->H b=some u->I b=some u
theorem cP.trans {p:Addr} (a:cP p H H1) (b:cP p H1 aw):cP p H aw:=fun c u n e=>b c u n (a c u n e)
theorem cP.of {p:Addr} (a:aO H H1):cP p H H1:=fun c u _ e=>a c u e
theorem cP.put {p:Addr}:cP p H (upd H p o):=fun c u n e=>by rw [aE n];exact e
theorem fb (ws:List Str):(aW ws).length=ws.length:=by unfold aW;rw [aZ]
theorem r8 {ws:List Str} {i:Nat} {x:Str} (h:ws[i]? = some x):(aW ws)[i]? = some (.str x):=by unfold aW;rw [c5,h];rfl
theorem yO (ws:List Str):(aW ws).all lG=true:=by unfold aW;simp [lG]
theorem BD (x:Str) (xs:List Str):pX (.str x) (aW xs)=decide (x ∈ xs):=by
 unfold pX aW;rw [QR,jC];simp only [qi,ac7,kP,beq_iff_eq,decide_eq_true_eq];constructor
 .rintro ⟨y,bg,rfl⟩;exact bg
 .intro h;exact ⟨x,h,rfl⟩
section
variable {w:World} {K:ba} {mg:Str->Option Value} {t:bQ} {H I:ar} {p:Addr} {row:Int} {ws:List Str} {pl:Nat}
theorem c3.same (h:c3 t H p row ws pl) (s:aO H I):c3 t I p row ws pl:=by
 obtain ⟨aT,aq,a_,au,aH⟩:=h;exact ⟨aT,aq,a_,s _ _ au,s _ _ aH⟩
theorem c3.w2 (h:c3 t H p row ws pl) (s:cP q H I) (n:p ≠ q) (k:∃ C aq aN,H q=some (.ins C aq aN)):c3 t I p row ws pl:=by
 obtain ⟨aT,aq,a_,au,aH⟩:=h;obtain ⟨C,B7,aN,bX⟩:=k;exact ⟨aT,aq,a_,s _ _ n au,s _ _ (bZ aH bX (by intro z;cases z)) aH⟩
theorem c3.ins (h:c3 t H p row ws pl):∃ C aq aN,H p=some (.ins C aq aN):=by
 obtain ⟨aT,aq,a_,au,aH⟩:=h;exact ⟨_,_,_,au⟩
theorem c3.no (row:Int) (a_:Addr) (pl:Int) (h:oH.contains m=false):(mn row a_ pl).lookup m=none:=wu oH (uu ..) h
theorem IH (T:Txt w K mg t) (e:H p=some (.ins t.gG aq (mn row a_ pl))):fA K H p (ab "place") (.int pl):=
 ⟨_,aq,_,e,T.fG,T.D',f' oH 2 (uu ..) (by ac_nf) rfl⟩
theorem Ec (T:Txt w K mg t) (e:H p=some (.ins t.gG aq (mn row a_ pl))):fA K H p (ab "told") (.ref a_):=
 ⟨_,aq,_,e,T.fG,T.OD,f' oH 1 (uu ..) (by ac_nf) rfl⟩
end
def J8 (t:bQ):bU:=fun vs H Q _=>∃ (p aq a_:Addr) (row:Int),vs=[.ref p,.int row,.ref a_]/\H p=some (.ins t.gG aq [])/\Q .b6 (upd H p (.ins t.gG aq (mn row a_ 0)))
def Yk (t:bQ):bU:=fun vs H Q _=>∃ p row ws pl,vs=[.ref p]/\c3 t H p row ws pl/\pl <= ws.length/\Q (.str (ws.getD pl (ab ""))) H
def abV (t:bQ):bU:=fun vs H Q _=>∃ p row ws pl,vs=[.ref p]/\c3 t H p row ws pl/\Q (.bk (decide (pl < ws.length))) H
def Cq (t:bQ) (H:ar) (p:Addr) (row:Int) (ws:List Str) (pl:Nat) (R:ar->Prop):Prop:=∀ I,cP p H I->(aP H->aP I)->c3 t I p row ws pl->R I
def ad6 (t:bQ):bU:=fun vs H Q _=>∃ p row ws pl,vs=[.ref p,.bk true]/\c3 t H p row ws pl/\Cq t H p row ws (pl + 1) (Q .b6)
def acX (K:ba) (t:bQ):bU:=fun vs H Q _=>∃ p row ws pl x c xs,vs=[.ref p,.ref c]/\c3 t H p row ws pl/\ws[pl]? = some x/\aC K H c (aW xs)/\x ∈ xs/\Cq t H p row ws (pl + 1) (Q (.str x))
def Ug (t:bQ):bU:=fun vs H Q _=>∃ p row ws pl x lo ag v,vs=[.ref p,.int lo,.int ag]/\c3 t H p row ws pl/\ws[pl]? = some x/\iw x lo ag=.int v/\aP H/\Cq t H p row ws (pl + 1) (Q (.int v))
def U9 (t:bQ):bU:=fun vs H Q _=>∃ p row ws pl,vs=[.ref p]/\c3 t H p row ws pl/\pl=ws.length/\Q .b6 H
theorem UK:ct P base T 1 t.wW t.BY v7 (J8 t):=by
 exists T.Lp.ok SV,9
 obtain ⟨p,aq,a_,row,rfl,ax,q⟩:=h;refine ⟨_,(db (eR (U 0) (U 1) rfl)
   (db (eR (U 0) (U 2) rfl)
   (a6 (eR (U 0) aM rfl)))),?_⟩
 nofun;refine ⟨_,_,_,ax,T.fG,T.Tb,by decide,?_⟩;refine ⟨_,_,_,aV,T.fG,T.OD,gF (n:=999) (by decide),?_⟩;refine ⟨_,_,_,aV,T.fG,T.D',gF (n:=999) (gF (n:=998) (by decide)),?_⟩;simp only [r_];rw [show cZ (ab "row") (V.int row) ([]:List (Str × V))=[(ab "row",V.int row)] from fV [] rfl (by ac_nf),
  show cZ (ab "told") (V.ref a_) ([(ab "row",V.int row)]:List (Str × V))=[(ab "row",V.int row),(ab "told",V.ref a_)] from fV [ab "row"] rfl (by ac_nf),
  show cZ (ab "place") (V.int 0) ([(ab "row",V.int row),(ab "told",V.ref a_)]:List (Str × V))=[(ab "row",V.int row),(ab "told",V.ref a_),(ab "place",V.int 0)] from fV [ab "row",ab "told"] rfl (by ac_nf)]
 exact q
theorem xx:ct P base T 1 t.zd t.EZ ["self"] (Yk t):=by
 exists T.OQ.ok aaq,9
 obtain ⟨p,row,ws,pl,rfl,⟨aT,aq,a_,au,aH⟩,hle,q⟩:=h;refine ⟨_,(db (dI (cU ep (bA (U 0) rfl) (fJ hD rfl T.g5 g4 (aj (bA (U 0) rfl) aG)) (cc _)) (a6 (cg dh)) d2)
   (a6 (cg (bV c8 (bA (U 0) rfl) (bA (U 0) rfl))))),?_⟩
 nofun;refine dt (decide ((pl:Int)=(ws.length:Int))) (fun Q aR=>?_) (fun c=>?_) (fun c=>?_)
 .nofun;refine ⟨_,IH T au,_,Ec T au,_,rfl,_,.inl (aC.of aH),rfl,?_⟩;rw [fb];nofun;exact aR
 .nofun;have c':pl=ws.length:=by have:=of_decide_eq_true c;omega
  rw [show ws.getD pl (ab "")=ab "" by rw [jZ,SR (by omega)];rfl] at q;exact q
 .nofun;have c':pl < ws.length:=by have:=of_decide_eq_false c;omega
  have ah:ws[pl]? = some ws[pl]:=bo c';rw [jZ,ah] at q;exact ⟨_,Ec T au,_,IH T au,_,rfl,_,_,rfl,aC.of aH,_,Db (r8 ah),q⟩
theorem Lu:ct P base T 1 t.A0 t.IS ["self"] (abV t):=by
 exists T.QW.ok XO,9
 obtain ⟨p,row,ws,pl,rfl,⟨aT,aq,a_,au,aH⟩,q⟩:=h;refine ⟨_,(a6 (cg (gH kn (bA (U 0) rfl) (fJ hD rfl T.g5 g4 (aj (bA (U 0) rfl) aG)) (cc _)))),?_⟩;nofun;have e:decide (pl < ws.length)=decide ((pl:Int) < (ws.length:Int)):=by rw [jC];simp
 rw [e] at q;refine ⟨_,IH T au,_,Ec T au,_,rfl,_,.inl (aC.of aH),?_⟩;rw [fb];exact ⟨_,rfl,q⟩
theorem F1:ct P base T 1 t.xq t.ce AZ (ad6 t):=by
 exists T.NB.ok XN,9
 obtain ⟨p,row,ws,pl,rfl,⟨aT,aq,a_,au,aH⟩,q⟩:=h;refine ⟨_,(db (dI (qB (lY (U 1))) (a6 nG) d2)
   (a6 (Ew (U 0) aM EK))),?_⟩
 nofun;refine dt false (fun Q aR=>?_) (fun ay=>nomatch ay) (fun _=>?_)
 .nofun;exact aR
 .nofun;refine ⟨_,_,_,au,T.fG,T.D',_,f' oH 2 (uu ..) (by ac_nf) rfl,_,rfl,_,_,au,by rw [<- aZ (f:=(·.1)),uu];decide,?_⟩;rw [V3];exact q _ cP.put (fun n=>n.upd) ⟨aT,aq,a_,aV,by rw [aE (bZ aH au (by intro z;cases z))];exact aH⟩
theorem yR:ct P base T 2 t.zw t.Ef F2 (acX K t):=by
 refine cF (xx T) fun q_=>cF (F1 T) fun uJ=>?_;exists T.NL.ok MU,9
 obtain ⟨p,row,ws,pl,x,c,xs,rfl,R,ah,ay,hm,q⟩:=h;refine ⟨_,(db (b7 (i:=2) MU.aD (hT (U 0) T.fG T.B5 q_ ao T.Ao .nil cI))
   (db (eo (e4 (U 0) T.fG T.GS uJ ao T.Gm .nil cI (aj (gH yD (U 2) (U 1) (by with_unfolding_all rfl)) aG)))
   (a6 (cg (U 2))))),?_⟩
 have dG:pl < ws.length:=(b'.mp ah).1;have aQ:ws.getD pl (ab "")=x:=by rw [jZ,ah];rfl
 obtain ⟨_,aq,a_,au,aH⟩:=id R;nofun;refine ⟨_,_,au,c3.no _ _ _ (by ac_nf),⟨p,row,ws,pl,rfl,R,by omega,?_⟩⟩;rw [aQ];nofun;refine ⟨_,_,au,c3.no _ _ _ (by ac_nf),_,.inl ay,rfl,yO xs,?_⟩;rw [BD,decide_eq_true hm];refine ⟨p,row,ws,pl,rfl,R,fun I s1 s2 s3=>?_⟩;nofun;exact q I s1 s2 s3
theorem xp:ct P base T 4 t.Bv t.GK HG (Ug t):=by
 refine cF (xx T) fun q_=>cF (F1 T) fun uJ=>cF (Te T) fun af3=>?_;exists T.NM.ok QP,9
 obtain ⟨p,row,ws,pl,x,lo,ag,v,rfl,R,ah,aI,bM,q⟩:=h;refine ⟨_,(db (b7 (i:=3) QP.aD (cm af3 ao T.adh T.IB.bN T.T4 (aj (hT (U 0) T.fG T.B5 q_ ao T.Ao .nil cI) (aj (U 1) (aj (U 2) aG)))))
   (db (eo (e4 (U 0) T.fG T.GS uJ ao T.Gm .nil cI (aj (gH DF (U 3) nX (cc _)) aG)))
   (a6 (cg (U 3))))),?_⟩
 have dG:pl < ws.length:=(b'.mp ah).1;have aQ:ws.getD pl (ab "")=x:=by rw [jZ,ah];rfl
 obtain ⟨aT,aq,a_,au,aH⟩:=id R;nofun;refine ⟨_,_,au,c3.no _ _ _ (by ac_nf),⟨p,row,ws,pl,rfl,R,by omega,?_⟩⟩;rw [aQ];nofun;refine ⟨x,lo,ag,rfl,aT.2 x (cC ah),bM,?_⟩;rw [aI];nofun;refine ⟨_,_,au,c3.no _ _ _ (by ac_nf),?_⟩;refine ⟨p,row,ws,pl,rfl,R,fun I s1 s2 s3=>?_⟩;nofun;exact q I s1 s2 s3
theorem NX:ct P base T 2 t.Be t.CN ["self"] (U9 t):=by
 refine cF (Lu T) fun Hm=>?_;exists T.Np.ok aip,9
 obtain ⟨p,row,ws,pl,rfl,R,aL,q⟩:=h;obtain ⟨aT,aq,a_,au,aH⟩:=id R;refine ⟨_,(a6 (dI (lY (hT (U 0) T.fG T.Kq Hm ao T.PT .nil cI)) (a6 nG) d2)),?_⟩;nofun;refine dt false (fun Q aR=>?_) (fun ay=>nomatch ay) (fun _=>?_)
 .nofun;refine ⟨_,_,au,c3.no _ _ _ (by ac_nf),⟨p,row,ws,pl,rfl,R,?_⟩⟩;rw [decide_eq_false (by omega)];exact ⟨_,rfl,aR⟩
 .nofun;exact q
noncomputable abbrev aA (ws:List Str) (k:Nat):Str:=ws.getD k (ab "")
theorem Eu {k:Nat} (h:aA ws k ≠ ab ""):k < ws.length:=by
 refine Classical.byContradiction fun z=>h ?_
 unfold aA;rw [jZ,SR (by omega)];rfl
theorem ahr (w:Str) (lo ag:Int):(∃ v,iw w lo ag=.int v/\lo <= v/\v <= ag/\w ≠ ab "")\/iw w lo ag=.b6:=by
 unfold iw;split
 .rename_i h;rw [hX] at h;refine .inl ⟨val w,rfl,?_,?_,fun z=>?_⟩
  .have:=h.2;simp at this;omega
  .have:=h.2;simp at this;omega
  .have af:=h.1;rw [z] at af;exact absurd af (by ac_nf)
 .exact .inr rfl
def TZ (x:Str):Prop:=x.length <= 1000/\∀ c ∈ x.cps.toList,c < 16 ^ 8
noncomputable def ib (ds:List a8) (x:Str):Option a8:=ds.find? fun d=>decide (d.name=x)
theorem Ba {w:World} {K:ba} {mg:Str->Option Value} {base:Heap} {j k:Nat} (V:oK P w K mg base CX j nu m ps nD) (h:j <= k):oK P w K mg base CX k nu m ps nD:=⟨fun C de=>by
 obtain ⟨f,fd,af,ak,a9,cW⟩:=V.ok C de;exact ⟨f,fd,af,ak,a9.mono h,cW⟩⟩
noncomputable def kd (x:Str) (lo ag:Int):Option Int:=if jR x && !(decide (val x < lo) || decide (ag < val x)) then some (val x) else none
theorem Hy (x:Str) (lo ag:Int):iw x lo ag=(kd x lo ag).elim .b6 .int:=by
 unfold iw kd;split <;> rfl
theorem Oo {x:Str} {lo ag v:Int} (h:iw x lo ag=.int v):kd x lo ag=some v:=by
 rw [Hy] at h;cases e:kd x lo ag with
 | none=>rw [e] at h;cases h
 | some u=>rw [e] at h;injection h with h;rw [h]
theorem Dd {k:Nat} {lo ag v:Int} (h:iw (aA ws k) lo ag=.int v):k + 1 <= ws.length/\lo <= v/\v <= ag:=by
 rcases ahr (aA ws k) lo ag with ⟨u,bx,af,ak,a9⟩ | a4
 .rw [bx] at h;injection h with h;subst h;exact ⟨Eu a9,af,ak⟩
 .rw [a4] at h;cases h
theorem lW {a x:α} (h:(l ++ [a])[i]? = some x):(i < l.length/\l[i]? = some x)\/(i=l.length/\x=a):=by
 by_cases ag:i < l.length
 .rw [qq ag] at h;exact .inl ⟨ag,h⟩
 .rw [qP (by omega)] at h;have h0:i - l.length=0:=by
   cases dr:i - l.length with
   | zero=>rfl
   | succ m=>rw [dr] at h;simp at h
  rw [h0] at h;exact .inr ⟨by omega,(by simpa using h:a=x).symm⟩
theorem v3 {k:Nat} (h:k < ws.length):ws[k]? = some (aA ws k):=by
 unfold aA;rw [jZ,bo h];rfl
theorem cy {α β:Type} {f:α->β} {l:List α} {i:Nat} {y:β} (h:(l.map f)[i]? = some y):∃ x,l[i]? = some x/\y=f x:=by
 rw [c5] at h;cases e:l[i]? with
 | none=>rw [e] at h;cases h
 | some x=>rw [e] at h;exact ⟨x,rfl,(d1 h).symm⟩
def aaY (t:bQ) (bz H:ar) (p:Addr) (rows:List (List Str)):Prop:=∃ qs:List Addr,H p=some (.lst (qs.map V.ref))/\bz p=none/\qs.length=rows.length/\∀ (i:Nat) (q:Addr) (r:List Str),qs[i]? = some q->rows[i]? = some r->c3 t H q i r 0/\bz q=none
def Cx (t:bQ):bU:=fun vs H Q _=>∃ x,vs=[.str x]/\x.length <= 20000/\(∀ r ∈ g6 x,r.length <= 1000/\∀ y ∈ r,y.length <= 1000)/\aP H/\∀ p I,aO H I->aP I->aaY t H I p (g6 x)->Q (.ref p) I
theorem SK:ct P base T 3 t.uL t.wB ["text"] (Cx t):=by
 have VL:cH P w K mg base dC 2 t.An t.BH ["text"] Rq:=(ag6 T).mono (by decide);have aiI:cH P w K mg base dC 1 t.wW t.BY v7 (J8 t):=UK T;exists T.Op.ok ags,9
 obtain ⟨x,rfl,aT,sT,bM,q⟩:=h;refine ⟨_,(a6 (cg (hP rfl (zg rfl T.zR (aj (cm VL ao T.ZS T.DS.bN T.Zr (aj (U 0) aG)) aG)) (gA (sc:=bt Fe) rfl (by ac_nf)) (N:=["row","told"]) (sel:=[none,none]) (gC (M:=["text"]) (by ac_nf)) (fx.of (fun _ _ _ _=>(l_ (K:=K) (n:=2) rfl rfl (fq (cA (i:=0) (eu (N:=["row","told"]) (by ac_nf) rfl)) (fq (cA (i:=1) (eu (N:=["row","told"]) (by ac_nf) rfl)) Ch)))) (fun _ _ _ _=>⟨_,h4,by walk_at "B"⟩) (fun _ _ _ _=>⟨_,(rS T.T' aiI ao rfl T.acQ T.af' .nil cI (aj (U 0) (aj (U 1) aG))),by walk_at "B"⟩))))),?_⟩;nofun;refine ⟨x,rfl,aT,bM,fun p H1 sZ jj ⟨ps,ax,g_,jI,cR,pb⟩=>?_⟩;nofun;refine ⟨⟨_,aC.of ax⟩,?_⟩;have hlen:ps.length <= sizeLine:=by
  rw [cR];unfold g6;rw [aZ];have:=Gi (x:=x) (y:=nl) (by rw [u0];exact cn _);exact c_ (show _ <= 40000 by omega) (by decide)
 refine c9.enum (xs:=ps.map V.ref) (fun i ys aw=>aO H1 aw/\aP aw/\∃ qs:List Addr,ys=qs.map V.ref/\qs.length=i/\∀ (j:Nat) (q:Addr) (r:List Str),qs[j]? = some q->(g6 x)[j]? = some r->c3 t aw q j r 0/\H1 q=none)
  (by rw [aZ];exact hlen) ⟨aO.refl H1,jj,[],rfl,rfl,fun j q r h _=>by simp at h⟩ ?_ ?_ ?_
 .rintro i ys aw ag bb;ac_rfl
  obtain ⟨s2,cO,qs,rfl,a0,_⟩:=bb;subst aK;exact ⟨aC.of (s2 _ _ ax),by rw [aZ];omega⟩
 .rintro i v ys aw eH aI ⟨s2,cO,qs,rfl,a0,al⟩ hv N br;rw [c5] at aI;cases yu:ps[i]? with
  | none=>rw [yu] at aI;cases aI
  | some pi=>
   rw [yu] at aI;have e:=(d1 aI).symm;subst e;refine yj ?_;nofun;refine ⟨Sub.Xc,fun a aq aS hd cj=>?_⟩;refine ⟨a,aq,pi,i,rfl,aV,rfl,?_⟩;rw [r_];have s3:aO aw (upd (upd (upd aw eH (.tup [.int i,.ref pi])) aq (.own a)) a (.ins t.gG aq (mn i pi 0))):=by
    have ai:aO aw (upd aw eH (.tup [.int i,.ref pi])):=bE hv;exact ((aO.trans ai (bE hd)).gf (ai.free aS))
   obtain ⟨r,ao⟩:∃ r,(g6 x)[i]? = some r:=⟨(g6 x)[i]'(by rw [<- cR];exact (b'.mp yu).1),bo _⟩;have afe:aw a=none:=(bE hv).free aS;refine br _ _ ⟨s2.trans s3,((cO.upd).upd).upd,qs ++ [a],by rw [eZ];rfl,by rw [dY,a0];rfl,fun j e9 ei af ak=>?_⟩;by_cases aJ:j < qs.length
   .rw [qq aJ] at af;obtain ⟨fh,eS⟩:=al j e9 ei af ak;exact ⟨fh.same s3,eS⟩
   .rw [qP (by omega)] at af;have oI:j - qs.length=0:=by
     cases dr:j - qs.length with
     | zero=>rfl
     | succ n=>rw [dr] at af;simp at af
    rw [oI] at af;have bX:a=e9:=by simpa using af
    subst bX;have ff:j=i:=by omega
    subst ff;rw [ao] at ak;cases ak;refine ⟨⟨sT r (cC ao),aq,pi,aV,?_⟩,s2.free afe⟩;exact s3 _ _ (s2 _ _ (pb j pi r yu ao).1)
 .rintro ys aw ⟨s2,cO,qs,rfl,a0,al⟩ eH hv;refine q eH _ ((sZ.trans s2).gf ((sZ.trans s2).free hv)) (cO.upd) ⟨qs,aV,(sZ.trans s2).free hv,by rw [a0,aZ,cR],fun i e9 r af ak=>?_⟩;obtain ⟨fh,eS⟩:=al i e9 r af ak;exact ⟨fh.same (bE hv),sZ.free eS⟩
def WI (q:Addr) (H:ar) (R:ar->Prop):Prop:=∀ I,cP q H I->aP I->R I
def JX (t:bQ):bU:=fun vs H Q _=>∃ q row n,vs=[.ref q]/\c3 t H q row [ab "ring",num n] 0/\(2 <= n/\n <= 99)/\aP H/\WI q H (Q (.int n))
def mJ (t:bQ) (H:ar) (wl:Addr) (ds:List a8):Prop:=∃ as:List Addr,H wl=some (.lst (as.map V.ref))/\as.length=ds.length/\∀ (i:Nat) (a:Addr) (d:a8),as[i]? = some a->ds[i]? = some d->Re t H a d
def afb (t:bQ):bU:=fun vs H Q _=>∃ q row ws pl wl ds x,vs=[.ref q,.ref wl]/\c3 t H q row ws pl/\ws[pl]? = some x/\made x mB 8=true/\mJ t H wl ds/\ds.length <= 12/\(∀ d ∈ ds,d.name ≠ x)/\aP H /\
 ∀ I,cP q H I->aP I->c3 t I q row ws (pl + 1)->Q (.str x) I
def Zh (t:bQ):bU:=fun vs H Q _=>∃ q row ws pl n st e6,vs=[.ref q,.int n,.int st]/\c3 t H q row ws pl/\ws[pl]? = some (num e6)/\(0 <= st/\st < n)/\(0 <= e6/\e6 < n)/\st ≠ e6/\n <= 99/\aP H /\
 ∀ I,cP q H I->aP I->c3 t I q row ws (pl + 1)->Q (.int e6) I
def adv (t:bQ):bU:=fun vs H Q _=>∃ d:a8,vs=[.str (d_ d.k),.str d.name,.int d.start,.int d.fin,.int d.off,.int d.near,.int d.least]/\d.k < 3/\∀ x I,aO H I->(aP H->aP I)->Re t I x d->H x=none->Q (.ref x) I
def Ov (t:bQ):bU:=fun vs H Q _=>∃ q row n wl ds d,vs=[.ref q,.int n,.ref wl]/\c3 t H q row (mV d) 0/\o1 n d/\(2 <= n/\n <= 99)/\mJ t H wl ds/\ds.length <= 12/\(∀ e ∈ ds,e.name ≠ d.name)/\aP H /\
 ∀ x I,cP q H I->aP I->Re t I x d->H x=none->Q (.ref x) I
theorem mJ.w2 {t:bQ} (h:mJ t H wl ds) (s:cP q H I) (r:c3 t H q row ws pl):mJ t I wl ds:=by
 obtain ⟨as,au,aH,al⟩:=h;obtain ⟨aT,aq,a_,bX,ff⟩:=r;refine ⟨as,s _ _ (bZ au bX (by intro z;cases z)) au,aH,fun i a d af ak=>?_⟩;obtain ⟨az,g9,gd⟩:=al i a d af ak;refine ⟨az,g9,s _ _ (fun z=>?_) gd⟩;subst z;rw [gd] at bX;have fc:=d1 bX;injection fc with _ _ l8;have lz:(7:Nat)=3:=congrArg qa l8;omega
theorem mJ.same {t:bQ} (h:mJ t H wl ds) (s:aO H I):mJ t I wl ds:=by
 obtain ⟨as,au,aH,al⟩:=h;exact ⟨as,s _ _ au,aH,fun i a d af ak=>(al i a d af ak).same s⟩
theorem abC:ct P base T 5 t.BO t.zl ["reader"] (JX t):=by
 refine cF (yR T) fun qy=>cF (xp T) fun m7=>cF (NX T) fun Je=>?_;exists T.EP.ok Sh,9
 obtain ⟨q,row,n,rfl,R,a4,bM,j9⟩:=h;refine ⟨_,(db (eo (e4 (U 0) T.fG T.vV qy ao T.uF .nil cI (aj (gK (aj dh aG)) aG)))
   (db (b7 (i:=1) Sh.aD (e4 (U 0) T.fG T.pz m7 ao T.Gc .nil cI (aj (lA rfl T.WQ T.adI) (aj (lA rfl T.aaX T.SS) aG))))
   (db (eo (hT (U 0) T.fG T.N1 Je ao T.Rc .nil cI))
   (a6 (cg (U 1)))))),?_⟩
 obtain ⟨_,aq,a_,au,aH⟩:=id R;nofun;refine ⟨_,_,au,c3.no _ _ _ (by ac_nf),by decide,fun p ax=>?_⟩;have s0:aO H (upd H p (.lst [V.str (ab "ring")])):=bE ax;refine ⟨q,row,_,0,ab "ring",p,[ab "ring"],rfl,R.same s0,rfl,aC.of aV,by simp,fun H1 s1 cp jx=>?_⟩;obtain ⟨_,Qi,Nn,f1,f2⟩:=id jx;nofun;refine ⟨_,_,f1,c3.no _ _ _ (by ac_nf),?_⟩;have jj:=cp bM.upd;refine ⟨q,row,_,1,num n,2,99,n,rfl,jx,rfl,pW (by omega) (by omega) a4.1 a4.2,jj,fun aw s2 cO e0=>?_⟩;obtain ⟨_,r0,EM,g1,g2⟩:=id e0;nofun;refine ⟨_,_,g1,c3.no _ _ _ (by ac_nf),?_⟩;refine ⟨q,row,_,2,rfl,e0,rfl,?_⟩;nofun;exact j9 aw (((cP.of s0).trans s1).trans s2) (cO jj)
theorem ahA:ct P base T 3 t.Jv t.HE Gh (afb t):=by
 refine cF (xx T) fun q_=>cF (F1 T) fun uJ=>cF (agr T) fun afF=>?_;exists T.Cu.ok Ka,9
 obtain ⟨q,row,ws,pl,wl,ds,x,rfl,R,ah,hm,fj,gn,Hl,bM,j9⟩:=h;refine ⟨_,(db (b7 (i:=2) Ka.aD (hT (U 0) T.fG T.B5 q_ ao T.Ao .nil cI))
   (db (eo (e4 (U 0) T.fG T.GS uJ ao T.Gm .nil cI (aj (xd (cm afF ao T.agL T.F6.bN T.UJ (aj (U 2) aG)) (sV (gH am (U 2) (hP rfl (eT (U 1)) (gA (sc:=bt HD) rfl (by ac_nf)) (N:=["way"]) (sel:=[none]) (gC (M:=["reader","ways","name"]) (by ac_nf)) (fx.of (fun _ _ _ _=>(cA (i:=0) (eu (N:=["way"]) (by ac_nf) rfl))) (fun _ _ _ _=>⟨_,h4,by walk_at "B"⟩) (fun _ _ _ _=>⟨_,(bA (U 0) rfl),by walk_at "B"⟩))) (by with_unfolding_all rfl)))) aG)))
   (a6 (cg (U 2))))),?_⟩
 have dG:pl < ws.length:=(b'.mp ah).1;have aQ:ws.getD pl (ab "")=x:=by rw [jZ,ah];rfl
 obtain ⟨aT,aq,a_,au,aH⟩:=id R;nofun;refine ⟨_,_,au,c3.no _ _ _ (by ac_nf),⟨q,row,ws,pl,rfl,R,by omega,?_⟩⟩;rw [aQ];nofun;refine ⟨_,_,au,c3.no _ _ _ (by ac_nf),?_⟩;refine ⟨x,rfl,aT.2 x (cC ah),bM,?_⟩;rw [hm];nofun;obtain ⟨as,dx,eb,al⟩:=fj;refine ⟨⟨_,aC.of dx⟩,?_⟩;have hle:(as.map V.ref).length <= sizeLine:=by rw [aZ,eb];exact c_ gn (by decide)
 refine c9.ly (xs:=as.map V.ref) (zs:=ds.map fun d=>V.str d.name) (aC.of dx) hle (by rw [aZ,aZ,eb]) (fun i v z N aI ia br=>?_) (fun p ax=>?_)
 .obtain ⟨a,aS,rfl⟩:=cy aI;obtain ⟨d,hd,rfl⟩:=cy ia;nofun;exact ⟨Sub.name,_,(al i a d aS hd).GW T,br⟩
 .nofun;have fg:(ds.map fun d=>V.str d.name)=aW (ds.map (·.name)):=by unfold aW;rw [m6];rfl
  rw [fg];refine ⟨_,.inl (aC.of aV),rfl,yO _,?_⟩;rw [BD,decide_eq_false (fun z=>by
   obtain ⟨d,hd,e⟩:=bK.mp z;exact Hl d hd e)]
  have s0:aO H (upd H p (.lst (aW (ds.map (·.name))))):=bE ax;exact ⟨q,row,ws,pl,rfl,R.same s0,fun I s1 cp jx=>j9 I ((cP.of s0).trans s1) (cp bM.upd) jx⟩
theorem Vf:ct P base T 5 t.EH t.Gx yN (Zh t):=by
 refine cF (xx T) fun q_=>cF (xp T) fun m7=>?_;exists T.Es.ok ae',9
 obtain ⟨q,row,ws,pl,n,st,e6,rfl,R,ah,d0,Ji,cj,a4,bM,j9⟩:=h;refine ⟨_,(db (dI (cU ep (hT (U 0) T.fG T.B5 q_ ao T.Ao .nil cI) (pC wa rfl T.uR uj (aj (U 2) aG)) (cc _)) (a6 nG) d2)
   (a6 (cg (e4 (U 0) T.fG T.pz m7 ao T.Gc .nil cI (aj aM (aj (bD k1 (U 1) aM) aG)))))),?_⟩
 have dG:pl < ws.length:=(b'.mp ah).1;have aQ:ws.getD pl (ab "")=num e6:=by rw [jZ,ah];rfl
 obtain ⟨aT,aq,a_,au,aH⟩:=id R;nofun;refine dt false (fun Q aR=>?_) (fun ay=>nomatch ay) (fun _=>?_)
 .nofun;refine ⟨_,_,au,c3.no _ _ _ (by ac_nf),⟨q,row,ws,pl,rfl,R,by omega,?_⟩⟩;rw [aQ];nofun;refine ⟨Jl (by omega),?_⟩;rw [decide_eq_false (fun z=>cj (abk (by omega) (by omega) (by omega) (by omega) z).symm)];exact aR
 .nofun;refine ⟨_,_,au,c3.no _ _ _ (by ac_nf),⟨q,row,ws,pl,num e6,0,n - 1,e6,rfl,R,ah,pW (by omega) (by omega) (by omega) (by omega),bM,fun H1 s1 cp jx=>?_⟩⟩;exact j9 H1 s1 (cp bM) jx
theorem Zw {t:bQ} {x aq:Addr} (ah:H x=none) (hd:H aq=none) (az:d.k < 3) :
  aO H (upd (upd (upd H aq (.own x)) x (.ins (t.f9 d.k) aq [])) x (.ins (t.f9 d.k) aq (nJ d)))/\(aP H->aP (upd (upd (upd H aq (.own x)) x (.ins (t.f9 d.k) aq [])) x (.ins (t.f9 d.k) aq (nJ d)))) /\
   Re t (upd (upd (upd H aq (.own x)) x (.ins (t.f9 d.k) aq [])) x (.ins (t.f9 d.k) aq (nJ d))) x d:=
 ⟨(((aO.refl H).gf hd).gf ah).gf ah,fun n=>((n.upd).upd).upd,az,aq,aV⟩
theorem ah4:ct P base T 4 t.Iv t.Jk xy (adv t):=by
 have ag_:cH P w K mg base dC 2 t.uh t.yP j6 (tK t 0):=dL T;have aeI:cH P w K mg base dC 2 t.wc t.Av j6 (tK t 1):=ahh T;have YT:cH P w K mg base dC 2 t.xb t.z1 j6 (tK t 2):=aiD T;exists T.I8.ok TB,9
 obtain ⟨d,rfl,az,q⟩:=h;refine ⟨_,(db (dI (cU ep (U 0) dh (cc _)) (a6 (cg (rS T.afg ag_ ao rfl T.ac4 T.adw .nil cI (aj (U 1) (aj (U 2) (aj (U 3) (aj (U 4) (aj (U 5) (aj (U 6) aG))))))))) d2)
   (db (dI (cU ep (U 0) dh (cc _)) (a6 (cg (rS T.ZF aeI ao rfl T.ahH T.ae1 .nil cI (aj (U 1) (aj (U 2) (aj (U 3) (aj (U 4) (aj (U 5) (aj (U 6) aG))))))))) d2)
   (a6 (cg (rS T.aas YT ao rfl T.afl T.afT .nil cI (aj (U 1) (aj (U 2) (aj (U 3) (aj (U 4) (aj (U 5) (aj (U 6) aG))))))))))),?_⟩
 have fin:∀ (x aq:Addr),H x=none->H aq=none->Q (.ref x) (upd (upd (upd H aq (.own x)) x (.ins (t.f9 d.k) aq [])) x (.ins (t.f9 d.k) aq (nJ d))):=fun x aq ah hd=>by
  obtain ⟨hR,iy,qc⟩:=Zw (t:=t) (d:=d) ah hd az;exact q x _ hR iy qc ah
 obtain ⟨k,name,start,e6,off,near,least⟩:=d
 match k,az with
 | 0,_=>
  (nofun; repeat (dsimp only [d_];nofun));refine dt true (fun Q aR=>?_) (fun _=>?_) (fun ay=>nomatch ay)
  .nofun;exact aR
  .nofun;exact fun x aq ah hd cj=>⟨x,aq,⟨0,name,start,e6,off,near,least⟩,rfl,rfl,aV,rfl,fin x aq ah hd⟩
 | 1,_=>
  (nofun; repeat (dsimp only [d_];nofun));refine dt false (fun Q aR=>?_) (fun ay=>nomatch ay) (fun _=>?_)
  .nofun;rw [decide_eq_false (by ac_nf)];exact aR
  .nofun;refine dt true (fun Q aR=>?_) (fun _=>?_) (fun ay=>nomatch ay)
   .nofun;exact aR
   .nofun;exact fun x aq ah hd cj=>⟨x,aq,⟨1,name,start,e6,off,near,least⟩,rfl,rfl,aV,rfl,fin x aq ah hd⟩
 | 2,_=>
  (nofun; repeat (dsimp only [d_];nofun));refine dt false (fun Q aR=>?_) (fun ay=>nomatch ay) (fun _=>?_)
  .nofun;rw [decide_eq_false (by ac_nf)];exact aR
  .nofun;refine dt false (fun Q aR=>?_) (fun ay=>nomatch ay) (fun _=>?_)
   .nofun;rw [decide_eq_false (by ac_nf)];exact aR
   .nofun;exact fun x aq ah hd cj=>⟨x,aq,⟨2,name,start,e6,off,near,least⟩,rfl,rfl,aV,rfl,fin x aq ah hd⟩
theorem aao:ct P base T 6 t.yh t.yI zV (Ov t):=by
 refine cF (yR T) fun qy=>cF (xp T) fun m7=>cF (NX T) fun Je=>cF (ahA T) fun X7=>cF (Vf T) fun acY=>cF (ah4 T) fun abS=>?_;exists T.Fd.ok qf,9
 obtain ⟨q,row,n,wl,ds,d,rfl,R,hd,a4,fj,gn,Hl,bM,j9⟩:=h;refine ⟨_,(db (b7 (i:=3) qf.aD (e4 (U 0) T.fG T.vV qy ao T.uF .nil cI (aj (gK (aj dh (aj dh (aj dh aG)))) aG)))
   (db (b7 (i:=4) qf.aD (cm X7 ao T.aeB T.Cu.bN T.aia (aj (U 0) (aj (U 2) aG))))
   (db (b7 (i:=5) qf.aD (e4 (U 0) T.fG T.pz m7 ao T.Gc .nil cI (aj aM (aj (bD k1 (U 1) aM) aG))))
   (db (b7 (i:=6) qf.aD (cm acY ao T.aaV T.Es.bN T.acN (aj (U 0) (aj (U 1) (aj (U 5) aG)))))
   (db (b7 (i:=7) qf.aD (e4 (U 0) T.fG T.pz m7 ao T.Gc .nil cI (aj aM (aj (lA rfl T.Wm T.afv) aG))))
   (db (b7 (i:=8) qf.aD (e4 (U 0) T.fG T.pz m7 ao T.Gc .nil cI (aj aM (aj (lA rfl T.aa6 T.ZY) aG))))
   (db (b7 (i:=9) qf.aD (e4 (U 0) T.fG T.pz m7 ao T.Gc .nil cI (aj aM (aj (lA rfl T.aeG T.aft) aG))))
   (db (eo (hT (U 0) T.fG T.N1 Je ao T.Rc .nil cI))
   (a6 (cg (cm abS ao T.aan T.I8.bN T.aix (aj (U 3) (aj (U 4) (aj (U 5) (aj (U 6) (aj (U 7) (aj (U 8) (aj (U 9) aG)))))))))))))))))),?_⟩
 have f5:=hd.st;have fT:=hd.e6;have mm:=hd.of;have rk:=hd.H6;have WU:=hd.le;obtain ⟨_,aq,a_,au,aH⟩:=id R;nofun;refine ⟨_,_,au,c3.no _ _ _ (by ac_nf),by decide,fun p ax=>?_⟩;have s0:aO H (upd H p (.lst [V.str (ab "car"),V.str (ab "foot"),V.str (ab "tram")])):=bE ax;have gp:d_ d.k ∈ [ab "car",ab "foot",ab "tram"]:=by
  have:=hd.k
  match d.k,this with
  | 0,_=>simp [d_]
  | 1,_=>simp [d_]
  | 2,_=>simp [d_]
 refine ⟨q,row,_,0,d_ d.k,p,[ab "car",ab "foot",ab "tram"],rfl,R.same s0,rfl,aC.of aV,gp,fun H1 s1 cp jx=>?_⟩;have bH:cP q H H1:=(cP.of s0).trans s1;have hR:=cp bM.upd;nofun;refine ⟨q,row,_,1,wl,ds,d.name,rfl,jx,rfl,hd.nm,fj.w2 bH R,gn,Hl,hR,fun aw s2 iy e0=>?_⟩;obtain ⟨_,r0,EM,f2,g2⟩:=id e0;have fQ:=bH.trans s2;nofun;refine ⟨_,_,f2,c3.no _ _ _ (by ac_nf),⟨q,row,_,2,num d.start,0,n - 1,d.start,rfl,e0,rfl,pW (by omega) (by omega) (by omega) (by omega),iy,fun bf s3 dw mh=>?_⟩⟩;have ea:=fQ.trans s3;have qc:=dw iy;nofun;refine ⟨q,row,_,3,n,d.start,d.fin,rfl,mh,rfl,f5,fT,hd.ne,a4.2,qc,fun cN s4 OK l9=>?_⟩;obtain ⟨_,JM,aiV,f4,tl⟩:=id l9;have dF:=ea.trans s4;nofun;refine ⟨_,_,f4,c3.no _ _ _ (by ac_nf),⟨q,row,_,4,num d.off,0,30,d.off,rfl,l9,rfl,pW (by omega) (by omega) (by omega) (by omega),OK,fun dJ s5 iH pU=>?_⟩⟩;obtain ⟨_,ajw,aj1,eI,Q5⟩:=id pU;have eA:=dF.trans s5;have Ru:=iH OK;nofun;refine ⟨_,_,eI,c3.no _ _ _ (by ac_nf),⟨q,row,_,5,num d.near,0,30,d.near,rfl,pU,rfl,pW (by omega) (by omega) (by omega) (by omega),Ru,fun iQ kr m5 AM=>?_⟩⟩;obtain ⟨_,ai6,aj_,m8,NO⟩:=id AM;have ey:=eA.trans kr;have Mq:=m5 Ru;nofun;refine ⟨_,_,m8,c3.no _ _ _ (by ac_nf),⟨q,row,_,6,num d.least,1,60,d.least,rfl,AM,rfl,pW (by omega) (by omega) (by omega) (by omega),Mq,fun hL mY mK KW=>?_⟩⟩;obtain ⟨_,alu,ak0,kX,Eh⟩:=id KW;have dV:=ey.trans mY;have acJ:=mK Mq;nofun;refine ⟨_,_,kX,c3.no _ _ _ (by ac_nf),⟨q,row,_,7,rfl,KW,rfl,?_⟩⟩;nofun;refine ⟨d,rfl,hd.k,fun x iT kg xh G9 Bd=>?_⟩;refine j9 x iT (dV.trans (cP.of kg)) (xh acJ) G9 ?_;cases ks:H x with
 | none=>rfl
 | some u=>
  by_cases QV:x=q
  .subst QV;rw [kX] at Bd;cases Bd
  .rw [dV x u QV ks] at Bd;cases Bd
noncomputable abbrev tc:List Str:=[ab "places",ab "ways",ab "numbers"]
noncomputable def nZ (n:Int) (wl aD:Addr):List (Str × V):=[(ab "places",.int n),(ab "ways",.ref wl),(ab "numbers",.ref aD)]
theorem y' (n:Int) (wl aD:Addr):(nZ n wl aD).map (·.1)=tc:=rfl
noncomputable def nm (ds:List a8) (i:Nat):Str:=((ds[i]?).map (·.name)).getD (ab "")
noncomputable def mj (ds:List a8) (i:Nat):List (Key × V):=(gx i).map fun j=>(bY (nm ds j),V.int j)
theorem lV (h:ds[i]? = some d):nm ds i=d.name:=by unfold nm;rw [h];rfl
theorem tj (h:(ds.map (·.name)).Nodup) (ag:i < ds.length) (aJ:j < ds.length) (e:nm ds i=nm ds j):i=j:=by
 rw [lV (bo ag),lV (bo aJ)] at e;have:=(x2 (xs:=ds.map (·.name)) (i:=i) (j:=j) (h₀:=by rw [aZ];exact ag) (h₁:=by rw [aZ];exact aJ) h).mp (by rw [Ff,Ff];exact e);exact this
theorem Vt (h:(ds.map (·.name)).Nodup):∀ {n:Nat},i < n->n <= ds.length->cM (mj ds n) (bY (nm ds i))=some (.int i):=by
 intro n
 induction n with
 | zero=>intro ag _;omega
 | succ n b4=>
  intro ag a4;unfold mj cM;rw [uI,eZ,List.find?_append];by_cases c:i < n
  .have:=b4 c (by omega);unfold mj cM at this;cases e:agj (fun c7=>decide (c7.fst=bY (nm ds i))) (rq (fun j=>((bY (nm ds j):Key),V.int j)) (gx n)) with
   | none=>rw [e] at this;cases this
   | some p=>rw [e] at this;exact this
  .have e:i=n:=by omega
   subst e;have no:agj (fun c7=>decide (c7.fst=bY (nm ds i))) (rq (fun j=>((bY (nm ds j):Key),V.int j)) (gx i))=none:=by
    rw [aej];intro p ax;obtain ⟨j,aJ,rfl⟩:=bK.mp ax;have h3:=qg.mp aJ;simp only [decide_eq_true_eq];intro z;have:=tj h (by omega) (by omega) (p' z);omega
   rw [no];simp
theorem ah7 (h:(ds.map (·.name)).Nodup) (a4:n < ds.length):d5 (mj ds n) (bY (nm ds n)) (.int n)=mj ds (n + 1):=by
 unfold d5;have no:((mj ds n).any fun c7=>decide (c7.1=bY (nm ds n)))=false:=by
  rw [IL];intro p ax;obtain ⟨j,aJ,rfl⟩:=bK.mp ax;have h3:=qg.mp aJ;simp only [decide_eq_true_eq];intro z;have:=tj h (by omega) a4 (p' z);omega
 rw [no];unfold mj;rw [uI,eZ];rfl
theorem uB (a:aO H H1) (b:cP q H1 aw) (n:H q=none):aO H aw:=fun c u e=>b c u (dy e n) (a c u e)
theorem GY {t:bQ} {p q:Addr} {k l:Nat} (a:c3 t H p i ws k) (b:c3 t H q j vs l) (n:i ≠ j):p ≠ q:=fun z=>by
 subst z;obtain ⟨_,aq,a_,au,_⟩:=a;obtain ⟨_,g9,acP,aH,_⟩:=b;rw [au] at aH;have bX:=d1 aH;injection bX with _ _ ff;unfold mn at ff;injection ff with gd _;injection gd with _ fc;injection fc with h9;exact n h9
theorem JP {t:bQ} {p q:Addr} (a:Re t H p d) (b:c3 t H q j vs l):p ≠ q:=fun z=>by
 subst z;obtain ⟨_,aq,au⟩:=a;obtain ⟨_,g9,acP,aH,_⟩:=b;rw [au] at aH;have bX:=d1 aH;injection bX with _ _ ff;exact absurd (congrArg qa ff) (by show ¬ (7:Nat)=3;decide)
def fp (t:bQ) (H:ar) (c:Addr) (n:Int) (ds:List a8):Prop:=
 ((ds.map (·.name)).Nodup/\ds.length <= 12)/\∃ aq wl aD,H c=some (.ins t.lc aq (nZ n wl aD))/\mJ t H wl ds/\H aD=some (.bu (mj ds ds.length))
theorem fp.same {t:bQ} (h:fp t H c n ds) (s:aO H I):fp t I c n ds:=by
 obtain ⟨h0,aq,wl,aD,au,aH,bX⟩:=h;exact ⟨h0,aq,wl,aD,s _ _ au,aH.same s,s _ _ bX⟩
theorem KB (n:Int) (wl aD:Addr) (h:tc.contains m=false):(nZ n wl aD).lookup m=none:=wu tc (y' ..) h
section
variable {w:World} {K:ba} {mg:Str->Option Value} {t:bQ} {H:ar} {c aq wl aD:Addr} {n:Int}
theorem ZK (T:Txt w K mg t) (e:H c=some (.ins t.lc aq (nZ n wl aD))):fA K H c (ab "places") (.int n):=⟨_,aq,_,e,T.hU,T.Pi,f' tc 0 (y' ..) (by ac_nf) rfl⟩
theorem Sw (T:Txt w K mg t) (e:H c=some (.ins t.lc aq (nZ n wl aD))):fA K H c (ab "ways") (.ref wl):=⟨_,aq,_,e,T.hU,T.So,f' tc 1 (y' ..) (by ac_nf) rfl⟩
theorem FN (T:Txt w K mg t) (e:H c=some (.ins t.lc aq (nZ n wl aD))):fA K H c (ab "numbers") (.ref aD):=⟨_,aq,_,e,T.hU,T.Nh,f' tc 2 (y' ..) (by ac_nf) rfl⟩
end
def KS (t:bQ):bU:=fun vs H Q _=>∃ c aq n wl ds,vs=[.ref c,.int n,.ref wl]/\H c=some (.ins t.lc aq [])/\mJ t H wl ds/\(ds.map (·.name)).Nodup/\ds.length <= 12/\aP H /\
 ∀ I,cP c H I->aP I->fp t I c n ds->Q .b6 I
def Qq (t:bQ):bU:=fun vs H Q _=>∃ n ds,vs=[.str (oh n ds)]/\qW n ds/\aP H/\∀ c I,aO H I->aP I->fp t I c n ds->Q (.ref c) I
def R4 (t:bQ):bU:=fun vs H Q _=>∃ c n ds,vs=[.ref c]/\fp t H c n ds/\∀ p,H p=none->Q (.ref p) (upd H p (.lst (aW (ds.map (·.name)))))
def aio (t:bQ):bU:=fun vs H Q _=>∃ c n ds,∃ i:Nat,∃ d,vs=[.ref c,.str d.name]/\fp t H c n ds/\ds[i]? = some d/\Q (.int (i:Nat)) H
def Ox (t:bQ):bU:=fun vs H Q _=>∃ c n ds,∃ i:Nat,∃ d,vs=[.ref c,.str d.name]/\fp t H c n ds/\ds[i]? = some d/\∀ a,Re t H a d->Q (.ref a) H
theorem agf:ct P base T 1 t.u7 t.Ap BX (KS t):=by
 exists T.LX.ok Gv,9
 obtain ⟨c,aq,n,wl,ds,rfl,ay,fj,gh,gn,bM,q⟩:=h;have bx:=iF ao;refine ⟨_,(db (eR (U 0) (U 1) rfl)
   (db (eR (U 0) (U 2) rfl)
   (db (eR (U 0) vF rfl)
   (a6 (fz fH rfl (zg rfl T.zR (aj (U 2) aG)) (l_ (K:=K) (n:=2) rfl rfl (fq (cA (i:=3) Gv.aD) (fq (cA (i:=4) Gv.aD) Ch))) (a6 (r9 bx (bA (U 0) rfl) (bA (U 4) rfl) (U 3) rfl))))))),?_⟩
 nofun;refine ⟨_,_,_,ay,T.hU,T.Pi,by decide,?_⟩;refine ⟨_,_,_,aV,T.hU,T.So,gF (n:=999) (by decide),fun aD a4=>?_⟩;simp only [r_] at a4 ⊢;rw [show cZ (ab "places") (V.int n) ([]:List (Str × V))=[(ab "places",V.int n)] from rfl,show cZ (ab "ways") (V.ref wl) [(ab "places",V.int n)]=[(ab "places",V.int n),(ab "ways",V.ref wl)] from fV [ab "places"] rfl (by ac_nf)] at a4 ⊢;have yi:c ≠ aD:=fun z=>by subst z;rw [aV] at a4;cases a4
 refine ⟨t.lc,aq,[(ab "places",V.int n),(ab "ways",V.ref wl)],by rw [aE yi];exact aV,T.hU,T.Nh,show (2:Nat) < 1000 by decide,?_⟩;rw [show cZ (ab "numbers") (V.ref aD) [(ab "places",V.int n),(ab "ways",V.ref wl)]=nZ n wl aD from fV [ab "places",ab "ways"] rfl (by ac_nf)];obtain ⟨as,dx,eb,al⟩:=fj;have Ku:H aD=none:=by rw [aE (dW yi)] at a4;exact a4
 have jO:cP c H (upd (upd (upd H c (.ins t.lc aq [(ab "places",V.int n),(ab "ways",V.ref wl)])) aD (.bu [])) c (.ins t.lc aq (nZ n wl aD))):=fun b u aa e=>by
  rw [aE aa,aE (dy e Ku),aE aa];exact e
 have Dt:wl ≠ c:=bZ dx ay (by intro z;cases z);refine ⟨⟨_,aC.of (jO _ _ Dt dx)⟩,?_⟩;refine dO.enum (xs:=as.map V.ref) (fun i σ I=>(∃ x y,σ=[some (V.ref c),some (V.int n),some (V.ref wl),x,y])/\I c=some (.ins t.lc aq (nZ n wl aD))/\I aD=some (.bu (mj ds i))/\cP c H I/\aP I) ?_ ?_ ?_ ?_
 .exact ⟨⟨_,_,rfl⟩,aV,by rw [aE (dW yi),aV];rfl,jO,((bM.upd).upd).upd⟩
 .rintro i σ I ag bb;ac_rfl
  obtain ⟨_,_,_,qh,_⟩:=bb;subst aK;exact aC.of (qh _ _ Dt dx)
 .rintro i v σ I p aI ⟨⟨x,y,rfl⟩,af,ak,qh,mC⟩ ax;obtain ⟨a,aS,rfl⟩:=cy aI;obtain ⟨ag,_⟩:=b'.mp aS;have k_:i < ds.length:=by omega
  have hd:ds[i]? = some ds[i]:=bo k_;have iI:Re t H a ds[i]:=al i a _ aS hd;have Fz:a ≠ c:=by
   obtain ⟨_,g9,e⟩:=iI;intro z;subst z;rw [ay] at e;have aH:=d1 e;injection aH with _ _ bX;exact absurd (congrArg qa bX) (by show ¬ (0:Nat)=7;decide)
  have ahP:Re t I a ds[i]:=⟨iI.1,iI.2.imp fun g9 e=>qh _ _ Fz e⟩;have sp:aO I (upd I p (.tup [.int i,.ref a])):=bE ax;refine yj ?_;nofun;refine ⟨_,FN T (sp _ _ af),_,(ahP.same sp).GW T,_,rfl,_,j7.k (k:=bY ds[i].name) (sp _ _ ak) (gW (show (mj ds i).length <= 12 by unfold mj;rw [aZ,rP];omega) (by decide)),?_⟩;rw [<- lV hd,ah7 gh k_];refine ⟨⟨_,rfl⟩,?_,aV,fun b u aa e=>?_,(mC.upd).upd⟩
  .rw [aE yi];exact sp _ _ af
  .rw [aE (dy e Ku)];exact sp _ _ (qh b u aa e)
 .rintro σ I bb;ac_rfl
  obtain ⟨⟨x,y,rfl⟩,af,ak,qh,mC⟩:=bb;subst aK;nofun;rw [aZ,eb] at ak;refine q I qh mC ⟨⟨gh,gn⟩,aq,wl,aD,af,⟨as,qh _ _ Dt dx,eb,fun i a d a9 cW=>?_⟩,ak⟩;have iI:=al i a d a9 cW;have Fz:a ≠ c:=by
   obtain ⟨_,g9,e⟩:=iI;intro z;subst z;rw [ay] at e;have aH:=d1 e;injection aH with _ _ bX;exact absurd (congrArg qa bX) (by show ¬ (0:Nat)=7;decide)
  exact ⟨iI.1,iI.2.imp fun g9 e=>qh _ _ Fz e⟩
theorem VN:ct P base T 1 t.yG t.Dp jb (aio t):=by
 exists T.KD.ok YN,9
 obtain ⟨c,n,ds,i,d,rfl,⟨⟨gh,gn⟩,aq,wl,aD,au,aH,bX⟩,hd,q⟩:=h;have bx:=iF ao;have aI:cM (mj ds ds.length) (bY d.name)=some (.int i):=by
  rw [<- lV hd];exact Vt gh (b'.mp hd).1 (cn _)
 have aQ:gI H aD (.str d.name) (some (.int i)):=by rw [<- aI];exact gI.k (k:=bY d.name) bX
 refine ⟨_,(db (dI (A8 (B3 bx (U 1) (bA (U 0) rfl))) (a6 nG) d2)
   (a6 (cg (n6 bx (bA (U 0) rfl) (U 1) (fun _ _=>rfl))))),?_⟩
 nofun;refine dt false (fun Q aR=>?_) (fun ay=>nomatch ay) (fun _=>?_)
 .nofun;refine ⟨_,FN T au,_,rfl,_,aQ,?_⟩;exact aR
 .nofun;exact ⟨_,FN T au,_,rfl,_,aQ,q⟩
theorem qO:ct P base T 2 t.uA t.z4 jb (Ox t):=by
 refine cF (VN T) fun aeH=>?_;exists T.Lw.ok ahc,9
 obtain ⟨c,n,ds,i,d,rfl,C,hd,q⟩:=h;obtain ⟨⟨gh,gn⟩,aq,wl,aD,au,⟨as,dx,eb,al⟩,bX⟩:=id C;refine ⟨_,(a6 (cg (bV c8 (bA (U 0) rfl) (e4 (U 0) T.hU T.Wn aeH ao T.SQ .nil cI (aj (U 1) aG))))),?_⟩;nofun;refine ⟨_,Sw T au,_,_,au,KB _ _ _ (by ac_nf),⟨c,n,ds,i,d,rfl,C,hd,?_⟩⟩;have ag:i < as.length:=by rw [eb];exact (b'.mp hd).1
 have aS:as[i]? = some as[i]:=bo ag;nofun;refine ⟨_,aC.of dx,_,Db (show (as.map V.ref)[i]? = some (V.ref as[i]) by rw [c5,aS];rfl),?_⟩;exact q as[i] (al i _ d aS hd)
theorem Yz:ct P base T 7 t.xo t.xB ["text"] (Qq t):=by
 have Hh:cH P w K mg base dC 6 t.uL t.wB ["text"] (Cx t):=(SK T).mono (by decide);have Y7:cH P w K mg base dC 6 t.BO t.zl ["reader"] (JX t):=(abC T).mono (by decide);have Vz:cH P w K mg base dC 6 t.yh t.yI zV (Ov t):=aao T;have Z_:cH P w K mg base dC 5 t.u7 t.Ap BX (KS t):=(agf T).mono (by decide);exists T.CC.ok wj,9
 obtain ⟨n,ds,rfl,de,bM,j9⟩:=h;refine ⟨_,(db (b7 (i:=1) wj.aD (cm Hh ao T.Lc T.Op.bN T.O7 (aj (U 0) aG)))
   (db (b7 (i:=2) wj.aD (cm Y7 ao T.XX T.EP.bN T.UT (aj (bV c8 (U 1) aM) aG)))
   (db (b7 (i:=3) wj.aD (gK aG))
   (db (fz fH rfl (eT (oB zU (U 1) (ou aM) oy)) (cA (i:=4) wj.aD) (db (dI (cU ep (fJ hD rfl T.g5 g4 (aj (U 3) aG)) (lA rfl T.U1 T.Zd) (cc _)) (a6 nG) d2)
   (a6 (eo (gq iW lh mi lD (U 3) (aj (cm Vz ao T.afO T.Fd.bN T.agV (aj (U 4) (aj (U 2) (aj (U 3) aG)))) aG))))))
   (db (dI (qB (zr (U 3) (fun _=>rfl))) (a6 nG) d2)
   (a6 (cg (rS T.ZN Z_ ao rfl T.YJ T.agc .nil cI (aj (U 2) (aj (U 3) aG)))))))))),?_⟩
 have sT:=X6 de;have hlen:=Zy de;have NF:=de.nn;have S1:=de.ln;nofun;refine ⟨oh n ds,rfl,by omega,?_,bM,fun p H1 sZ jj R=>?_⟩
 .rw [sT];intro r ao;refine ⟨?_,fun x ah=>c_ (de.plain r ao x ah).1 (by decide)⟩;rcases eJ.mp ao with rfl | ao
  .show (2:Nat) <= 1000;decide
  .obtain ⟨d,hd,rfl⟩:=bK.mp ao;show (7:Nat) <= 1000;decide
 rw [sT] at R;obtain ⟨qs,ax,g_,nU,Bb⟩:=R;have Od:qs.length=ds.length + 1:=by rw [nU];simp [hW]
 obtain ⟨rA,kD,rfl⟩:∃ rA kD,qs=rA :: kD:=by
  cases qs with
  | nil=>simp at Od
  | cons a b=>exact ⟨a,b,rfl⟩
 obtain ⟨yd,IX⟩:=Bb 0 rA _ rfl rfl;nofun;refine ⟨_,aC.of ax,_,Db (j:=0) rfl,⟨rA,_,n,rfl,yd,NF,jj,fun aw s2 n7=>⟨fi _,fun wl gT=>?_⟩⟩⟩;obtain ⟨ajT,akf,ai7,adu⟩:=yd.ins;have aet:p ≠ rA:=bZ ax adu (by intro z;cases z);have hv:aw p=some (.lst ((rA :: kD).map V.ref)):=s2 _ _ aet ax;have FW:aO aw (upd aw wl (.lst [])):=bE gT;have EJ:iU ((rA :: kD).map V.ref) (some 1) none=kD.map V.ref:=by
  unfold iU;simp [eV.c1];exact QK (by rw [aZ];exact cn _)
 refine ⟨_,aC.of (FW _ _ hv),fun pc CS=>?_⟩;rw [EJ];have i_:pc ≠ wl:=fun z=>by subst z;rw [aV] at CS;cases CS
 have Jb:aO (upd aw wl (.lst [])) (upd (upd aw wl (.lst [])) pc (.lst (kD.map V.ref))):=bE CS;refine ⟨⟨_,aC.of aV⟩,?_⟩;have M6:aO H aw:=uB sZ s2 IX;have YP:kD.length=ds.length:=by simpa using Od
 refine dO.list (xs:=kD.map V.ref) (fun i σ I=>(∃ x,σ=[some (V.str (oh n ds)),some (V.ref p),some (V.int n),some (V.ref wl),x])/\aP I/\aO H I/\I pc=some (.lst (kD.map V.ref))/\H wl=none/\mJ t I wl (ds.take i) /\
  ∀ (j:Nat) (q:Addr) (d:a8),i <= j->kD[j]? = some q->ds[j]? = some d->c3 t I q ((j + 1:Nat):Int) (mV d) 0/\H q=none) ?_ ?_ ?_ ?_
 .refine ⟨⟨_,rfl⟩,(n7.upd).upd,(M6.trans FW).trans Jb,aV,M6.free gT,⟨[],Jb _ _ aV,rfl,fun j a d h=>by simp at h⟩,fun j q d _ af ak=>?_⟩;have ao:(hW n ds)[j + 1]? = some (mV d):=by
   unfold hW;rw [Bs,c5,ak];rfl
  obtain ⟨nk,eC⟩:=Bb (j + 1) q _ (by rw [Bs];exact af) ao;refine ⟨((nk.w2 s2 (GY nk yd (by omega)) yd.ins).same FW).same Jb,eC⟩
 .rintro i σ I ag bb;ac_rfl
  obtain ⟨_,_,_,h,_⟩:=bb;subst aK;exact aC.of h
 .rintro i v σ I aI bb;ac_rfl
  obtain ⟨⟨x,rfl⟩,mC,ph,Dj,GL,W,Rs⟩:=bb;obtain ⟨q,a0,rfl⟩:=cy aI;obtain ⟨ag,_⟩:=b'.mp a0;have k_:i < ds.length:=by omega
  have hd:ds[i]? = some ds[i]:=bo k_;obtain ⟨mL,iG⟩:=Rs i q _ (cn _) a0 hd;have jD:(ds.take i).length=i:=by rw [gD];omega
  obtain ⟨as,dx,eb,al⟩:=id W;subst aK;nofun;refine dt false (fun Q aR=>?_) (fun ay=>nomatch ay) (fun _=>?_)
  .nofun;refine ⟨_,.inl (aC.of dx),?_⟩;rw [aZ,eb,jD];rw [decide_eq_false (by omega)] <;> exact aR
  .nofun;refine ⟨.inl ⟨_,aC.of dx⟩,?_⟩;refine ⟨q,_,n,wl,ds.take i,ds[i],rfl,mL,de.al _ (iM k_),NF,W,by omega,fun e he z=>?_,mC,fun y bf s3 FP hu Q9=>?_⟩
   .obtain ⟨j,aJ,rfl⟩:=G_ he;rw [List.getElem_take] at z;have h3:j < i:=by omega
    have:=tj de.aD (i:=j) (j:=i) (by omega) k_ (by rw [lV (bo (by omega)),lV hd];exact z);omega
   .nofun;obtain ⟨aiX,B7,aky,gV⟩:=mL.ins;have rm:wl ≠ q:=bZ dx gV (by intro z;cases z);have Hk:bf wl=some (.lst (as.map V.ref)):=s3 _ _ rm dx;have aeQ:aO H bf:=uB ph s3 iG;refine ⟨_,Hk,gW (show (as.map V.ref).length <= 12 by rw [aZ];omega) (by decide),?_⟩;have acp:y ≠ wl:=fun z=>by
     subst z;rw [dx] at Q9;cases Q9
    refine ⟨⟨_,rfl⟩,FP.upd,fun b u e=>?_,?_,GL,⟨as ++ [y],by rw [aV,eZ];rfl,?_,fun j a d af ak=>?_⟩,fun j e9 d aJ af ak=>?_⟩
    .rw [aE (dy e GL)];exact aeQ _ _ e
    .rw [aE i_];exact s3 _ _ (bZ Dj gV (by intro z;cases z)) Dj
    .rw [dY,eb,jD,gD];show i + 1=_;omega
    .by_cases aJ:j < as.length
     .rw [qq aJ] at af;have U2:(ds.take i)[j]? = some d:=by
       rw [o4 (by omega)];rw [o4 (by omega)] at ak;exact ak
      obtain ⟨az,g9,e⟩:=al j a d af U2;have acj:a ≠ q:=JP ⟨az,g9,e⟩ mL;have Va:a ≠ wl:=bZ e dx (by intro z;cases z);exact ⟨az,g9,by rw [aE Va];exact s3 _ _ acj e⟩
     .rw [qP (by omega)] at af;have oI:j - as.length=0:=by
       cases dr:j - as.length with
       | zero=>rfl
       | succ m=>rw [dr] at af;simp at af
      rw [oI] at af;have bX:y=a:=by simpa using af
      subst bX;have ff:j=i:=by omega
      subst ff;rw [o4 (by omega),hd] at ak;cases ak;exact ⟨hu.1,hu.2.imp fun g9 e=>by rw [aE acp];exact e⟩
    .obtain ⟨nk,eC⟩:=Rs j e9 d (by omega) af ak;have mh:=nk.w2 s3 (GY nk mL (by omega)) mL.ins;refine ⟨?_,eC⟩;obtain ⟨aT,g9,a_,au,aH⟩:=mh;refine ⟨aT,g9,a_,by rw [aE (bZ au Hk (by intro z;cases z))];exact au,?_⟩;rw [aE (fun z=>by
      subst z;rw [Hk] at aH;have gd:=d1 aH;injection gd with fc;cases as with
      | nil=>exact absurd (congrArg qa fc) (by show ¬ (0:Nat)=7;decide)
      | cons a r=>injection fc with h9 _;cases h9)]
     exact aH
 .rintro σ I bb;ac_rfl
  obtain ⟨⟨x,rfl⟩,mC,ph,Dj,GL,W,Rs⟩:=bb;subst aK;rw [aZ,YP,hB] at W;obtain ⟨as,dx,eb,al⟩:=id W;nofun;refine dt false (fun Q aR=>?_) (fun ay=>nomatch ay) (fun _=>?_)
  .nofun;refine ⟨true,.inl ⟨_,aC.of dx,?_⟩,aR⟩;cases as with
   | nil=>simp at eb;omega
   | cons a r=>rfl
  .nofun;intro c aq ay wh cj;have sc:aO I (upd (upd I aq (.own c)) c (.ins t.lc aq [])):=((aO.refl I).gf wh).gf ay;refine ⟨c,aq,n,wl,ds,rfl,aV,W.same sc,de.aD,S1.2,(mC.upd).upd,fun dJ s5 DH Ig=>⟨rfl,?_⟩⟩;exact j9 c dJ (uB (ph.trans sc) s5 (ph.free ay)) DH Ig
theorem xv:ct P base T 1 t.wq t.xJ ["self"] (R4 t):=by
 exists T.Nx.ok Yg,9
 obtain ⟨c,n,ds,rfl,⟨⟨gh,gn⟩,aq,wl,aD,au,⟨as,dx,eb,al⟩,bX⟩,q⟩:=h;refine ⟨_,(a6 (cg (hP rfl (eT (bA (U 0) rfl)) (gA (sc:=bt FC) rfl (by ac_nf)) (N:=["way"]) (sel:=[none]) (gC (M:=["self"]) (by ac_nf)) (fx.of (fun _ _ _ _=>(cA (i:=0) (eu (N:=["way"]) (by ac_nf) rfl))) (fun _ _ _ _=>⟨_,h4,by walk_at "B"⟩) (fun _ _ _ _=>⟨_,(bA (U 0) rfl),by walk_at "B"⟩))))),?_⟩;nofun;refine ⟨_,Sw T au,_,rfl,⟨_,aC.of dx⟩,?_⟩;refine c9.ly (xs:=as.map V.ref) (zs:=aW (ds.map (·.name))) (aC.of dx) (by rw [aZ,eb];exact c_ gn (by decide)) (by rw [fb,aZ,aZ,eb]) (fun i v z N aI ia br=>?_) (fun p ax=>q p ax);obtain ⟨a,aS,rfl⟩:=cy aI;obtain ⟨x,ah,rfl⟩:=cy ia;obtain ⟨d,hd,rfl⟩:=cy ah;nofun;exact ⟨Sub.name,_,(al i a d aS hd).GW T,br⟩
theorem yY {n s p:Int} (h0:0 <= s) (af:s < n) (ak:0 <= p) (a9:p < n):(p - s) % n=if s <= p then p - s else p - s + n:=by
 split
 .rename_i h;exact sJ (by omega) (by omega)
 .rename_i h;have e:(p - s) % n=(p - s + n) % n:=(Int.add_emod_right ..).symm;rw [e];exact sJ (by omega) (by omega)
noncomputable def kf (n s f p:Int):Bool:=decide (0 < (p - s) % n) && decide ((p - s) % n < (f - s) % n)
noncomputable def rB (n s f s2 f2:Int):Bool:=decide (f=f2) || (if (s2=s\/s2=f)\/(f2=s\/f2=f) then false else (kf n s f s2 != kf n s f f2))
theorem BU {s f p:Int} (af:p ≠ s) (ak:p ≠ f) (a9:s ≠ f):((decide (s < f) && decide (f < p) && !decide (s < p)) || (!decide (s < f) && !decide (f < p) && decide (s < p)))=false:=by
 by_cases a:s < f <;> by_cases b:f < p
 .rw [decide_eq_true a,decide_eq_true b,decide_eq_true (show s < p by omega)];rfl
 .rw [decide_eq_true a,decide_eq_false b];rfl
 .rw [decide_eq_false a,decide_eq_true b];rfl
 .rw [decide_eq_false a,decide_eq_false b,decide_eq_false (show ¬ s < p by omega)];rfl
theorem ta {s p:Int} (h:s ≠ p):decide (p < s) = !decide (s < p):=by
 by_cases a:s < p
 .rw [decide_eq_true a,decide_eq_false (by omega)];rfl
 .rw [decide_eq_false a,decide_eq_true (by omega)];rfl
theorem Aw {n s f p:Int} (av:0 <= s/\s < n) (hf:0 <= f/\f < n) (ax:0 <= p/\p < n) (af:p ≠ s) (ak:p ≠ f) (a9:s ≠ f):kf n s f p=((decide (s < p) && decide (p < f)) || (decide (p < f) && decide (f < s)) || (decide (f < s) && decide (s < p))):=by
 unfold kf;rw [yY av.1 av.2 ax.1 ax.2,yY av.1 av.2 hf.1 hf.2,decide_eq_true (show 0 < (if s <= p then p - s else p - s + n) by split <;> omega),lF,ta a9];by_cases a:s < p <;> by_cases b:s < f
 .rw [if_pos (by omega),if_pos (by omega),decide_eq_true a,decide_eq_true b,show decide (p - s < f - s)=decide (p < f) from decide_eq_decide.mpr (by omega)];cases decide (p < f) <;> rfl
 .rw [if_pos (by omega),if_neg (by omega),decide_eq_true a,decide_eq_false b,decide_eq_true (show p - s < f - s + n by omega)];cases decide (p < f) <;> rfl
 .rw [if_neg (by omega),if_pos (by omega),decide_eq_false a,decide_eq_true b,decide_eq_false (show ¬ p - s + n < f - s by omega)];cases decide (p < f) <;> rfl
 .rw [if_neg (by omega),if_neg (by omega),decide_eq_false a,decide_eq_false b,show decide (p - s + n < f - s + n)=decide (p < f) from decide_eq_decide.mpr (by omega)];cases decide (p < f) <;> rfl
theorem Xw:∀ a b c d e g:Bool,((a && d && !b) || (!a && !d && b))=false->((a && e && !c) || (!a && !e && c))=false->((b && g && !c) || (!b && !g && c))=false->((d && g && !e) || (!d && !g && e))=false ->
  (((b && !d) || (!d && !a) || (!a && b)) != ((c && !e) || (!e && !a) || (!a && c)))=(((!b && c) || (c && !g) || (!g && !b)) != ((!d && e) || (e && !g) || (!g && !d))):=by ac_nf
theorem X1 (av:0 <= s/\s < n) (hf:0 <= f/\f < n) (la:0 <= s2/\s2 < n) (GV:0 <= f2/\f2 < n) (cj:s ≠ f) (vp:s2 ≠ f2):rB n s f s2 f2=rB n s2 f2 s f:=by
 unfold rB;by_cases e:f=f2
 .rw [decide_eq_true e,decide_eq_true e.symm];rfl
 .rw [decide_eq_false e,decide_eq_false (dW e)];by_cases c:(s2=s\/s2=f)\/(f2=s\/f2=f)
  .have c':(s=s2\/s=f2)\/(f=s2\/f=f2):=by omega
   rw [if_pos c,if_pos c']
  .have c':¬ ((s=s2\/s=f2)\/(f=s2\/f=f2)):=by omega
   rw [if_neg c,if_neg c'];have cp:s2 ≠ s:=by omega
   have cO:s2 ≠ f:=by omega
   have dw:f2 ≠ s:=by omega
   have dT:f2 ≠ f:=by omega
   rw [lj,lj,Aw av hf la cp cO cj,Aw av hf GV dw dT cj,Aw la GV av cp.symm dw.symm vp,Aw la GV hf cO.symm dT.symm vp,ta cp.symm,ta cO.symm,ta dT.symm,ta cj,ta vp];exact Xw _ _ _ _ _ _ (BU cp cO cj) (BU dw dT cj) (BU dw vp.symm cp.symm) (BU dT vp.symm cO.symm)
noncomputable abbrev mt (n:Int) (d e:a8):Bool:=rB n d.start d.fin e.start e.fin
def PC (t:bQ):bU:=fun vs H Q _=>∃ a d n p,vs=[.int n,.ref a,.int p]/\Re t H a d/\0 < n/\Q (.bk (kf n d.start d.fin p)) H
noncomputable def xi (n:Int) (d e:a8):Bool:=if (e.start=d.start\/e.start=d.fin)\/(e.fin=d.start\/e.fin=d.fin) then false else (kf n d.start d.fin e.start != kf n d.start d.fin e.fin)
def agU (t:bQ):bU:=fun vs H Q _=>∃ a b d e n,vs=[.int n,.ref a,.ref b]/\Re t H a d/\Re t H b e/\0 < n/\aP H/\Q (.bk (xi n d e)) H
def ads (t:bQ):bU:=fun vs H Q _=>∃ a b d e n,vs=[.int n,.ref a,.ref b]/\Re t H a d/\Re t H b e/\0 < n/\∀ I,aO H I->Q (.bk (xi n d e)) I
def Oe (t:bQ):bU:=fun vs H Q _=>∃ c n ds,∃ i j:Nat,∃ d e,vs=[.ref c,.str d.name,.str e.name]/\fp t H c n ds/\0 < n/\ds[i]? = some d/\ds[j]? = some e/\aP H/\Q (.bk (mt n d e)) H
theorem adB:ct P base T 1 t.AA t.zf ya (PC t):=by
 exists T.AI.ok NN,9
 obtain ⟨a,d,n,p,rfl,W,a4,q⟩:=h;refine ⟨_,(db (b7 (i:=3) NN.aD (bD i0 (bD k1 (U 2) (bA (U 1) rfl)) (U 0)))
   (a6 (cg (xd (gH kn aM (U 3) (cc _)) (sV (gH kn (U 3) (bD i0 (bD k1 (bA (U 1) rfl) (bA (U 1) rfl)) (U 0)) (cc _))))))),?_⟩
 nofun;refine ⟨_,W.tQ T,_,rfl,a4,?_⟩;unfold kf at q;by_cases c:0 < (p - d.start) % n
 .rw [if_pos (decide_eq_true c)];rw [decide_eq_true c,lF] at q;exact ⟨_,W.rQ T,_,W.tQ T,_,rfl,_,rfl,a4,q⟩
 .rw [if_neg (by simpa using c)];rw [decide_eq_false c,mu] at q;exact q
theorem NI (x a b:Int):pX (.int x) [.int a,.int b]=decide (x=a\/x=b):=by
 unfold pX;simp only [u2,List.any_nil,kP,OH];rw [jC];simp only [rg,beq_iff_eq,decide_eq_true_eq];omega
theorem Zu:ct P base T 2 t.Dl t.H_ y5 (agU t):=by
 refine cH.forget (sp:=ads t) ?_ fun vs H Q E h=>?_
 .have ME:cH P w K mg base dC 1 t.AA t.zf ya (PC t):=adB T;exists T.I_.ok SY,9
  obtain ⟨a,b,d,e,n,rfl,iI,og,a4,q⟩:=h;refine ⟨_,(db (dI (fW.pt (rG (cU yD (bA (U 2) rfl) (gK (aj (bA (U 1) rfl) (aj (bA (U 1) rfl) aG))) (by with_unfolding_all rfl)) (ti (cU yD (bA (U 2) rfl) (gK (aj (bA (U 1) rfl) (aj (bA (U 1) rfl) aG))) (by with_unfolding_all rfl))))) (a6 (cg ju)) d2)
   (a6 (cg (gH o6 (cm ME ao T.KL T.AI.bN T.QZ (aj (U 0) (aj (U 1) (aj (bA (U 2) rfl) aG)))) (cm ME ao T.KL T.AI.bN T.QZ (aj (U 0) (aj (U 1) (aj (bA (U 2) rfl) aG)))) (cc _))))),?_⟩
  nofun;refine B6 (fun b I=>aO H I/\b=decide ((e.start=d.start\/e.start=d.fin)\/(e.fin=d.start\/e.fin=d.fin))) (fun Q aR=>?_) (fun I ⟨bO,aa⟩=>?_) (fun I ⟨bO,aa⟩=>?_)
  .nofun;refine ⟨_,og.tQ T,_,iI.tQ T,_,iI.rQ T,by decide,fun p ax=>⟨_,.inl (aC.of aV),rfl,rfl,?_⟩⟩;have s1:aO H (upd H p (.lst [.int d.start,.int d.fin])):=bE ax;rw [NI];by_cases cu:e.start=d.start\/e.start=d.fin
   .rw [if_pos (decide_eq_true cu)];exact aR _ _ ⟨s1,(decide_eq_true (.inl cu)).symm⟩
   .rw [if_neg (by simpa using cu)];refine ⟨_,(og.same s1).rQ T,_,(iI.same s1).tQ T,_,(iI.same s1).rQ T,by decide,fun eH hv=>⟨_,.inl (aC.of aV),rfl,rfl,?_⟩⟩;rw [NI];refine aR _ _ ⟨s1.trans (bE hv),?_⟩;rw [jC,decide_eq_true_eq,decide_eq_true_eq];exact ⟨.inr,fun z=>z.resolve_left cu⟩
  .nofun;have fY:=of_decide_eq_true aa.symm;have:=q I bO;unfold xi at this;rw [if_pos fY] at this;exact this
  .nofun;have fY:=of_decide_eq_false aa.symm;refine ⟨_,(og.same bO).tQ T,⟨a,d,n,_,rfl,iI.same bO,a4,?_⟩⟩;refine ⟨_,(og.same bO).rQ T,⟨a,d,n,_,rfl,iI.same bO,a4,?_⟩⟩;refine ⟨rfl,?_⟩;have:=q I bO;unfold xi at this;rw [if_neg fY] at this;rw [show (!decide (V.bk (kf n d.start d.fin e.start)=V.bk (kf n d.start d.fin e.fin)))=(kf n d.start d.fin e.start != kf n d.start d.fin e.fin) by
    cases kf n d.start d.fin e.start <;> cases kf n d.start d.fin e.fin <;> rfl]
   exact this
 .obtain ⟨a,b,d,e,n,af,ak,a9,cW,bM,q⟩:=h;exact ⟨bM,a,b,d,e,n,af,ak,a9,cW,fun I bO=>⟨bO,q⟩⟩
theorem V7 (n:Int) (d e:a8):mt n d e=(decide (d.fin=e.fin) || xi n d e):=rfl
theorem Lr:ct P base T 3 t.Br t.Am p5 (Oe t):=by
 refine cF (qO T) fun jB=>cF (Zu T) fun YH=>?_;exists T.BZ.ok DX,9
 obtain ⟨c,n,ds,i,j,d,e,rfl,C,a4,hd,he,bM,q⟩:=h;obtain ⟨_,aq,wl,aD,au,aH,bX⟩:=id C;refine ⟨_,(db (b7 (i:=3) DX.aD (e4 (U 0) T.hU T.nE jB ao T.n0 .nil cI (aj (U 1) aG)))
   (db (b7 (i:=4) DX.aD (e4 (U 0) T.hU T.nE jB ao T.n0 .nil cI (aj (U 2) aG)))
   (a6 (cg (KN (gH ep (bA (U 3) rfl) (bA (U 4) rfl) (cc _)) (sV (cm YH ao T.aby T.I_.bN T.aam (aj (bA (U 0) rfl) (aj (U 3) (aj (U 4) aG)))))))))),?_⟩
 rw [V7] at q;nofun;refine ⟨_,_,au,KB _ _ _ (by ac_nf),⟨c,n,ds,i,d,rfl,C,hd,fun a iI=>?_⟩⟩;nofun;refine ⟨_,_,au,KB _ _ _ (by ac_nf),⟨c,n,ds,j,e,rfl,C,he,fun b og=>?_⟩⟩;nofun;refine ⟨_,iI.rQ T,_,og.rQ T,rfl,?_⟩;nofun;by_cases cu:d.fin=e.fin
 .rw [if_pos (decide_eq_true cu)];rw [decide_eq_true cu,qS] at q;exact q
 .rw [if_neg (by simpa using cu)];rw [decide_eq_false cu,lj] at q;exact ⟨_,ZK T au,⟨a,b,d,e,n,rfl,iI,og,a4,bM,q⟩⟩
def LA (t:bQ):bU:=fun vs H Q _=>∃ c n ds,∃ i j:Nat,∃ d e,vs=[.ref c,.str d.name,.str e.name]/\fp t H c n ds/\ds[i]? = some d/\ds[j]? = some e/\Q (.int (if d.off - e.near > 0 then d.off - e.near else 0)) H
theorem V2:ct P base T 3 t.x' t.A4 p5 (LA t):=by
 refine cF (qO T) fun jB=>?_;exists T.FM.ok Ge,9
 obtain ⟨c,n,ds,i,j,d,e,rfl,C,hd,he,q⟩:=h;obtain ⟨_,aq,wl,aD,au,aH,bX⟩:=id C;refine ⟨_,(db (b7 (i:=3) Ge.aD (e4 (U 0) T.hU T.nE jB ao T.n0 .nil cI (aj (U 1) aG)))
   (db (b7 (i:=4) Ge.aD (e4 (U 0) T.hU T.nE jB ao T.n0 .nil cI (aj (U 2) aG)))
   (a6 (cg (fJ (WZ rfl) rfl T.Gy Ju (aj aM (aj (bD k1 (bA (U 3) rfl) (bA (U 4) rfl)) aG))))))),?_⟩
 nofun;refine ⟨_,_,au,KB _ _ _ (by ac_nf),⟨c,n,ds,i,d,rfl,C,hd,fun a iI=>?_⟩⟩;nofun;refine ⟨_,_,au,KB _ _ _ (by ac_nf),⟨c,n,ds,j,e,rfl,C,he,fun b og=>?_⟩⟩;nofun;refine ⟨_,iI.SO T,_,og.aeT T,?_⟩;nofun;exact q
theorem jt {α:Type} {xs:List α} {i:Nat} {x:α} (h:xs[i]? = some x):xs.take (i + 1)=xs.take i ++ [x]:=by
 rw [pf,h];rfl
structure ST where
 lo:Int
 ag:Int
 mem:List Str
noncomputable def D6 (r:ST) (m:Addr):gj:=.tup [.int r.lo,.int r.ag,.ref m]
structure iv (H:ar) (p:Addr) (qs ms:List Addr) (rows:List ST):Prop where
 at_:H p=some (.lst (qs.map V.ref))
 cE:qs.length=rows.length
 dq:ms.length=rows.length
 al:∀ (i:Nat) (q m:Addr) (r:ST),qs[i]? = some q->ms[i]? = some m->rows[i]? = some r->H q=some (D6 r m)/\H m=some (.lst (aW r.mem))
theorem iv.same {p:Addr} {rows:List ST} (h:iv H p qs ms rows) (s:aO H I):iv I p qs ms rows:=
 ⟨s _ _ h.at_,h.cE,h.dq,fun i q m r a b c=>⟨s _ _ (h.al i q m r a b c).1,s _ _ (h.al i q m r a b c).2⟩⟩
structure kV (H:ar) (p:Addr) (ms:List Addr) (df:List (List Str)):Prop where
 at_:H p=some (.lst (ms.map V.ref))
 ln:ms.length=df.length
 al:∀ (i:Nat) (m:Addr) (x:List Str),ms[i]? = some m->df[i]? = some x->H m=some (.lst (aW x))
theorem kV.same {p:Addr} (h:kV H p ms df) (s:aO H I):kV I p ms df:=
 ⟨s _ _ h.at_,h.ln,fun i m x a b=>s _ _ (h.al i m x a b)⟩
noncomputable def lQ (i:Nat) (kvs:List (Key × V)) (ms:List Str):List (Key × V):=ms.foldl (fun kvs x=>d5 kvs (bY x) (.int i)) kvs
noncomputable def gN (df:List (List Str)):List (Key × V):=df.zipIdx.foldl (fun kvs e=>lQ e.2 kvs e.1) []
theorem S3 (kvs:List (Key × V)) (k:Key) (v:V):(d5 kvs k v).length <= kvs.length + 1:=by
 unfold d5;split
 .rw [aZ];omega
 .rw [dY];exact cn _
theorem OI (i:Nat) (kvs:List (Key × V)) (ms:List Str) (x:Str):lQ i kvs (ms ++ [x])=d5 (lQ i kvs ms) (bY x) (.int i):=by
 unfold lQ;rw [Mx];rfl
theorem ail (df:List (List Str)) (ms:List Str):gN (df ++ [ms])=lQ df.length (gN df) ms:=by
 unfold gN;rw [List.zipIdx_append,Mx];simp
theorem FX (i:Nat) (x:Str):∀ (ms:List Str) (kvs:List (Key × V)),cM (lQ i kvs ms) (bY x)=if x ∈ ms then some (.int i) else cM kvs (bY x)
 | [],kvs=>by simp [lQ]
 | y :: ms,kvs=>by
  show cM (lQ i (d5 kvs (bY y) (.int i)) ms) (bY x)=_;rw [FX i x ms,LM];by_cases c:x ∈ ms
  .rw [if_pos c,if_pos (hM _ c)]
  .rw [if_neg c];by_cases d:x=y
   .subst d;rw [if_pos rfl,if_pos (l6 ..)]
   .rw [if_neg (fun e=>d (p' e)),if_neg (fun e=>by
     rcases eJ.mp e with e | e
     .exact d e
     .exact c e)]
theorem Fv {df:List (List Str)} {i:Nat} {ms:List Str} (h:df[i]? = some ms):gN (df.take (i + 1))=lQ i (gN (df.take i)) ms:=by
 rw [jt h,ail,gD,Kp (nF (b'.mp h).1)]
theorem LN {x:Str}:∀ (n:Nat) (df:List (List Str)),n <= df.length->((cM (gN (df.take n)) (bY x)).isSome=true↔∃ ms ∈ df.take n,x ∈ ms)
 | 0,df,_=>by simp [gN,cM]
 | n + 1,df,a4=>by
  have h:df[n]? = some df[n]:=bo (by omega);rw [Fv h,FX,jt h];have b4:=LN (x:=x) n df (by omega);by_cases c:x ∈ df[n]
  .rw [if_pos c];exact ⟨fun _=>⟨_,jP _ (d8.mpr rfl),c⟩,fun _=>rfl⟩
  .rw [if_neg c,b4];constructor
   .rintro ⟨ms,af,ak⟩;exact ⟨ms,rz _ af,ak⟩
   .rintro ⟨ms,af,ak⟩;rcases eG.mp af with af | af
    .exact ⟨ms,af,ak⟩
    .rw [d8.mp af] at ak;exact absurd ak c
theorem z' (p:Str->Bool):∀ xs:List Str,((xs.map fun x=>if p x=true then some (V.str x) else none).flatMap B2)=aW (xs.filter p)
 | []=>rfl
 | x :: xs=>by
  rw [er,vJ,z' p xs];by_cases c:p x=true
  .rw [if_pos c,VO c];rfl
  .rw [if_neg c,aag c];rfl
noncomputable def told (rows:List ST) (x:Str):Bool:=rows.any fun r=>r.mem.contains x
noncomputable def gE (ds:List a8) (rows:List ST):List Str:=(ds.map (·.name)).filter fun x=>!told rows x
theorem sw (rows:List ST) (x:Str):(cM (gN (rows.map (·.mem))) (bY x)).isSome=told rows x:=by
 rw [jC];have:=LN (x:=x) (rows.map (·.mem)).length (rows.map (·.mem)) (cn _);rw [hB] at this;rw [this];unfold told;rw [qi];constructor
 .rintro ⟨ms,af,ak⟩;obtain ⟨r,ao,rfl⟩:=bK.mp af;exact ⟨r,ao,by simpa using ak⟩
 .rintro ⟨r,ao,h⟩;exact ⟨_,bK.mpr ⟨r,ao,rfl⟩,by simpa using h⟩
noncomputable def h2 (d:a8):Str:=if d.k=2 then ab "trams" else ab "others"
def ae4 (t:bQ):bU:=fun vs H Q _=>∃ c n ds,∃ i:Nat,∃ d,vs=[.ref c,.str d.name]/\fp t H c n ds/\ds[i]? = some d/\d.k < 3/\Q (.str (h2 d)) H
def abX:bU:=fun vs H Q _=>∃ p ms df,vs=[.ref p]/\kV H p ms df/\df.length <= 6/\(∀ x ∈ df,x.length <= 12)/\∀ h I,aO H I->(aP H->aP I)->H h=none->I h=some (.bu (gN df))->Q (.ref h) I
def aaz (t:bQ):bU:=fun vs H Q _=>∃ c n ds p qs ms rows,vs=[.ref c,.ref p]/\fp t H c n ds/\iv H p qs ms rows/\rows.length <= 6/\(∀ r ∈ rows,r.mem.length <= 12)/\∀ l I,aO H I->(aP H->aP I)->H l=none->I l=some (.lst (aW (gE ds rows)))->Q (.ref l) I
theorem Qr:ct P base T 3 t.FR t.Dy B8 (ae4 t):=by
 refine cF (qO T) fun jB=>?_;exists T.ux.ok ad9,9
 obtain ⟨c,n,ds,i,d,rfl,C,hd,az,q⟩:=h;obtain ⟨_,aq,wl,aD,au,_,_⟩:=id C;refine ⟨_,(a6 (cg (tC (cU ep (bA (e4 (U 0) T.hU T.nE jB ao T.n0 .nil cI (aj (U 1) aG)) rfl) dh (cc _)) dh dh))),?_⟩;nofun;refine ⟨_,_,au,KB _ _ _ (by ac_nf),c,n,ds,i,d,rfl,C,hd,fun a W=>⟨a,rfl,_,W.ad8 T,rfl,?_⟩⟩;unfold h2 at q;have adX:∀ k,k < 3->decide (V.str (d_ k)=V.str (ab "tram"))=decide (k=2):=by ac_nf
 rw [adX d.k az];by_cases cS:d.k=2
 .rw [if_pos (decide_eq_true cS)];rw [if_pos cS] at q;exact q
 .rw [if_neg (by simpa using cS)];rw [if_neg cS] at q;exact q
theorem E5:ct P base T 1 t.Em t.CZ ["members"] abX:=by
 exists T.wM.ok uP,9
 obtain ⟨p,ms,df,rfl,M,ml,AE,q⟩:=h;have bx:=iF ao;refine ⟨_,(db (b7 (i:=1) uP.aD vF)
   (db (fz fH rfl (zg rfl T.zR (aj (U 0) aG)) (l_ (K:=K) (n:=2) rfl rfl (fq (cA (i:=2) uP.aD) (fq (cA (i:=3) uP.aD) Ch))) (a6 (fz fH rfl (eT (U 3)) (cA (i:=4) uP.aD) (a6 (r9 bx (U 1) (U 4) (U 2) rfl)))))
   (a6 (cg (U 1))))),?_⟩
 nofun;intro h dr;have s0:aO H (upd H h (.bu [])):=bE dr;refine ⟨⟨_,aC.of (s0 _ _ M.at_)⟩,?_⟩;refine dO.enum (xs:=ms.map V.ref) (fun i σ I=>(∃ x y z,σ=[~~~p,~~~h,x,y,z])/\aO H I/\(aP H->aP I)/\I h=some (.bu (gN (df.take i)))/\(gN (df.take i)).length <= 12 * i) ?_ ?_ ?_ ?_
 .exact ⟨⟨_,_,_,rfl⟩,s0,fun n=>n.upd,by rw [oJ];exact aV,by rw [oJ];simp [gN]⟩
 .rintro i σ I ag ⟨_,s1,_⟩;exact aC.of (s1 _ _ M.at_)
 .rintro i v σ I i' aI ⟨⟨x,y,z,rfl⟩,s1,cp,af,C8⟩ nC;obtain ⟨m,hm,rfl⟩:=cy aI;have xE:i < df.length:=by rw [<- M.ln];exact (b'.mp hm).1
  have uM:df[i]? = some df[i]:=bo xE;have em:=M.al i m _ hm uM;have hV:=AE _ (cC uM);have s2:aO I (upd I i' (.tup [.int i,.ref m])):=bE nC;refine yj ?_;nofun;have Nq:=s2 _ _ (s1 _ _ em);have ak:=s2 _ _ af;have nb:aP H->aP (upd I i' (.tup [.int i,.ref m])):=fun n=>(cp n).upd
  have Ks:=s1.trans s2;generalize upd I i' (.tup [.int i,.ref m])=dX at Nq ak nb Ks s2 ⊢;refine ⟨⟨_,aC.of Nq⟩,?_⟩;refine dO.list (xs:=aW df[i]) (fun j σ aw=>(∃ z,σ=[~~~p,~~~h,some (.int (i:Nat)),~~~m,z])/\aO H aw/\(aP H->aP aw)/\aw h=some (.bu (lQ i (gN (df.take i)) (df[i].take j)))/\(lQ i (gN (df.take i)) (df[i].take j)).length <= 12 * i + j) ?_ ?_ ?_ ?_
  .exact ⟨⟨_,rfl⟩,Ks,nb,by rw [oJ];exact ak,by rw [oJ];exact C8⟩
  .rintro j σ aw aJ ⟨_,s3,_⟩;exact aC.of (s3 _ _ em)
  .rintro j v σ aw aI bb;ac_rfl
   obtain ⟨⟨z,rfl⟩,s3,dw,a9,Qd⟩:=bb;subst aK;unfold aW at aI;obtain ⟨x,ah,rfl⟩:=cy aI;have aJ:j < df[i].length:=(b'.mp ah).1;have cR:=S3 (lQ i (gN (df.take i)) (df[i].take j)) (bY x) (.int i);nofun;refine ⟨_,j7.k (k:=bY x) a9 (gW (show _ <= 1000 by omega) (by decide)),⟨_,rfl⟩,s3.gf dr,fun n=>(dw n).upd,?_,?_⟩
   .rw [aV,jt ah,OI]
   .rw [jt ah,OI];omega
  .rintro σ aw bb;ac_rfl
   obtain ⟨⟨z,rfl⟩,s3,dw,a9,Qd⟩:=bb;subst aK;rw [fb,hB,<- Fv uM] at a9 Qd;exact ⟨⟨_,_,_,rfl⟩,s3,dw,a9,by omega⟩
 .rintro σ I bb;ac_rfl
  obtain ⟨⟨x,y,z,rfl⟩,s1,cp,af,_⟩:=bb;subst aK;rw [aZ,M.ln,hB] at af;nofun;exact q h I s1 cp dr af
theorem N3:ct P base T 2 t.DI t.C7 ke (aaz t):=by
 refine cF (E5 T) fun wZ=>cF (xv T) fun q3=>?_;exists T.AP.ok pp,9
 obtain ⟨c,n,ds,p,qs,ms,rows,rfl,C,R,gy,sM,q⟩:=h;have bx:=iF ao;obtain ⟨⟨_,gn⟩,aq,wl,aD,au,_,_⟩:=id C;refine ⟨_,(db (px (i:=2) pp.aD rfl (mG rfl) (cm wZ ao T.Jg T.wM.bN T.DK (aj (hP rfl (eT (U 1)) (gA (sc:=bt yC) rfl (by ac_nf)) (N:=ij) (sel:=[none,none,none]) (gC (M:=D1) (by ac_nf)) (fx.of (fun _ _ _ _=>(l_ (K:=K) (n:=3) rfl rfl (fq (cA (i:=0) (eu (N:=ij) (by ac_nf) rfl)) (fq (cA (i:=1) (eu (N:=ij) (by ac_nf) rfl)) (fq (cA (i:=2) (eu (N:=ij) (by ac_nf) rfl)) Ch))))) (fun _ _ _ _=>⟨_,h4,by walk_at "B"⟩) (fun _ _ _ _=>⟨_,(U 2),by walk_at "B"⟩))) aG)))
   (a6 (cg (hP rfl (eT (hT (U 0) T.hU T.za q3 ao T.y6 .nil cI)) (gA (sc:=bt yC) rfl (by ac_nf)) (N:=["name","told"]) (sel:=[none,some 2]) (gC (M:=D1) (by ac_nf)) (fx.of (fun _ _ _ _=>(cA (i:=0) (eu (N:=["name","told"]) (by ac_nf) rfl))) (fun _ _ _ _=>⟨_,(v' (A8 (B3 bx (U 0) (U 1)))),by walk_at "B"⟩) (fun _ _ _ _=>⟨_,(U 0),by walk_at "B"⟩)))))),?_⟩
 simp only [dE];nofun;have iG:(qs.map V.ref).length=rows.length:=by rw [aZ,R.cE]
 refine ⟨⟨_,aC.of R.at_⟩,?_⟩;refine c9.ly (xs:=qs.map V.ref) (zs:=ms.map V.ref) (aC.of R.at_) (by rw [iG];exact c_ gy (by decide)) (by rw [iG,aZ,R.dq]) (fun j v z N aI aT br=>?_) (fun pm IF=>?_)
 .obtain ⟨jK,eC,rfl⟩:=cy aI;obtain ⟨Fx,kc,rfl⟩:=cy aT;have aJ:j < rows.length:=by rw [<- R.cE];exact (b'.mp eC).1
  have e:=(R.al j jK Fx _ eC kc (bo aJ)).1;nofun;exact ⟨_,di.of e,rfl,_,_,rfl,_,_,rfl,_,_,rfl,rfl,Sub.ub,br⟩
 .have sp:aO H (upd H pm (.lst (ms.map V.ref))):=bE IF;have np:aP H->aP (upd H pm (.lst (ms.map V.ref))):=fun n=>n.upd
  have cG:(upd H pm (.lst (ms.map V.ref))) pm=some (.lst (ms.map V.ref)):=aV;generalize upd H pm (.lst (ms.map V.ref))=dX at sp np cG ⊢;refine ⟨pm,ms,rows.map (·.mem),rfl,⟨cG,by rw [R.dq,aZ],fun i m x hm ah=>?_⟩,by rw [aZ];exact gy,fun x ah=>?_,fun h H1 s1 cp dr af=>?_⟩
  .obtain ⟨r,dD,rfl⟩:=cy ah;have gV:qs[i]? = some (qs[i]'(by rw [R.cE];exact (b'.mp dD).1)):=bo _;exact sp _ _ (R.al i _ m r gV hm dD).2
  .obtain ⟨r,dD,rfl⟩:=bK.mp ah;exact sM r dD
  .have lq:=sp.trans s1;have oQ:=C.same lq;refine ⟨_,_,lq _ _ au,KB _ _ _ (by ac_nf),c,n,ds,rfl,oQ,fun dN jI=>⟨dN,rfl,⟨_,aC.of aV⟩,?_⟩⟩;have sB:=lq.trans (bE (o:=.lst (aW (ds.map (·.name)))) jI);have ak:=(bE (o:=.lst (aW (ds.map (·.name)))) jI) _ _ af;have j8:aP H->aP (upd H1 dN (.lst (aW (ds.map (·.name))))):=fun n=>(cp (np n)).upd
   have p2:(upd H1 dN (.lst (aW (ds.map (·.name))))) dN=some (.lst (aW (ds.map (·.name)))):=aV;generalize upd H1 dN (.lst (aW (ds.map (·.name))))=kB at sB ak j8 p2 ⊢;refine c9.um (xs:=aW (ds.map (·.name))) (ss:=(ds.map (·.name)).map fun x=>if (!told rows x)=true then some (V.str x) else none) (aC.of p2) (by rw [fb,aZ];exact c_ gn (by decide)) (by rw [fb,aZ]) (fun i v o ys N aI aY br=>?_) (fun l aL=>?_)
   .unfold aW at aI;obtain ⟨x,ah,rfl⟩:=cy aI;obtain ⟨fN,ew,rfl⟩:=cy aY;rw [ah] at ew;cases ew;have aQ:gI kB h (.str x) (cM (gN (rows.map (·.mem))) (bY x)):=gI.k (k:=bY x) ak;have cq:=sw rows x;nofun;refine ⟨Sub.name,_,aQ,?_⟩;rw [cq];by_cases cD:(!told rows x)=true
    .rw [if_pos cD];rw [if_pos cD] at br;exact br
    .rw [if_neg cD];rw [if_neg cD] at br;simpa using br
   .rw [z'];exact q l _ (sB.trans (bE aL)) (fun n=>(j8 n).upd) (sB.free aL) aV
noncomputable def uq (ds:List a8) (left:List Str) (f:Str):List Str:=left.filter fun x=>decide ((ib ds x).map h2=(ib ds f).map h2)
noncomputable def pI (alike:List Str):List Str->Nat->List Str->Except Nat (List Str)
 | [],_,ms=>.ok ms
 | x :: r,j,ms=>if x ∈ alike/\x ∉ ms then pI alike r (j + 1) (ms ++ [x]) else .error j
noncomputable def lg (ds:List a8) (left ws:List Str):Except Nat (List Str):=if aA ws 3 ∈ left then pI (uq ds left (aA ws 3)) (ws.drop 4) 4 [aA ws 3] else .error 3
noncomputable def pa (ds:List a8) (rows:List ST) (ws:List Str):Except Nat ST:=if aA ws 0 ∈ [ab "stage"] then
 (kd (aA ws 1) 1 60).elim (.error 1) fun lo=>(kd (aA ws 2) lo 60).elim (.error 2) fun ag=>match lg ds (gE ds rows) ws with
  | .error k=>.error k
  | .ok ms=>.ok ⟨lo,ag,ms⟩ else .error 0
theorem ON:∀ {r:List Str} {j:Nat} {ms oE:List Str},pI alike r j ms=.ok oE->ms.Nodup->oE.Nodup/\(∃ more,oE=ms ++ more)/\∀ x ∈ oE,x ∈ ms\/x ∈ alike
 | [],j,ms,oE,h,aD=>by
  have h:pR ms=pR (ε:=Nat) oE:=h;cases h;exact ⟨aD,⟨[],by simp⟩,fun x ah=>.inl ah⟩
 | y :: r,j,ms,oE,h,aD=>by
  unfold pI at h;split at h
  .rename_i c;obtain ⟨af,⟨more,ak⟩,a9⟩:=ON h (wV.mpr ⟨aD,by simp,fun a aS b aa e=>by
    rw [d8.mp aa] at e;rw [e] at aS;exact c.2 aS⟩)
   refine ⟨af,⟨y :: more,by rw [ak,oV];rfl⟩,fun x ah=>?_⟩;rcases a9 x ah with z | z
   .rcases eG.mp z with z | z
    .exact .inl z
    .rw [d8.mp z];exact .inr c.1
   .exact .inr z
  .cases h
def UP (t:bQ):bU:=fun vs H Q _=>∃ q row ws c n ds l left ms,vs=[.ref q,.ref c,.ref l]/\c3 t H q row ws 3/\fp t H c n ds/\(∀ d ∈ ds,d.k < 3/\d.name ≠ ab "")/\H l=some (.lst (aW left))/\left.length <= 12/\(∀ x ∈ left,∃ d ∈ ds,d.name=x)/\aP H/\lg ds left ws=.ok ms /\
 ∀ m I,cP q H I->aP I->(∃ u,I q=some u)->I m=some (.lst (aW ms))->H m=none->Q (.ref m) I
def OV (t:bQ):bU:=fun vs H Q _=>∃ q row ws c n ds p qs ms rows s,vs=[.ref q,.ref c,.ref p]/\c3 t H q row ws 0/\fp t H c n ds/\(∀ d ∈ ds,d.k < 3/\d.name ≠ ab "")/\iv H p qs ms rows/\rows.length <= 6/\(∀ r ∈ rows,r.mem.length <= 12)/\aP H/\pa ds rows ws=.ok s /\
 ∀ x m I,cP q H I->aP I->I x=some (D6 s m)->I m=some (.lst (aW s.mem))->H x=none->H m=none->Q (.ref x) I
theorem lJ {ds:List a8} (aD:(ds.map (·.name)).Nodup) {i:Nat} {d:a8} (h:ds[i]? = some d):ib ds d.name=some d:=by
 unfold ib;cases e:ds.find? fun x=>decide (x.name=d.name) with
 | none=>
  have:=aej.mp e d (cC h);simp at this
 | some x=>
  have af:x.name=d.name:=by simpa using List.find?_some e
  obtain ⟨j,aJ⟩:=hH (List.mem_of_find?_eq_some e);have:=tj aD (b'.mp aJ).1 (b'.mp h).1 (by rw [lV aJ,lV h,af]);subst this;rw [aJ] at h;exact h
theorem fp.uH {t:bQ} {k:Nat} (h:fp t H c n ds) (s:cP q H I) (R:c3 t H q row ws k):fp t I c n ds:=by
 obtain ⟨h0,g9,wl,aD,au,⟨as,dx,eb,al⟩,bX⟩:=h;obtain ⟨_,B7,a_,f1,f2⟩:=id R;refine ⟨h0,g9,wl,aD,s _ _ (fun z=>?_) au,⟨as,s _ _ (bZ dx f1 (by intro z;cases z)) dx,eb,fun i b d aa hd=>?_⟩,s _ _ (bZ bX f1 (by intro z;cases z)) bX⟩
 .subst z;rw [au] at f1;have e:=d1 f1;injection e with _ _ ff;unfold nZ mn at ff;injection ff with gd _;injection gd with fc _;exact absurd fc (by ac_nf)
 .have W:=al i b d aa hd;have a4:=JP W R;exact ⟨W.1,W.2.imp fun aq e=>s _ _ a4 e⟩
theorem Xx (h:j < ws.length):ws.drop j=aA ws j :: ws.drop (j + 1):=by
 rw [rj h];unfold aA;rw [jZ,bo h];rfl
theorem iv.uH {t:bQ} {q p:Addr} {rows:List ST} {k:Nat} (h:iv H p qs ms rows) (s:cP q H I) (R:c3 t H q row ws k):iv I p qs ms rows:=by
 obtain ⟨_,B7,a_,f1,f2⟩:=id R;refine ⟨s _ _ (bZ h.at_ f1 (by intro z;cases z)) h.at_,h.cE,h.dq,fun i q m r a b c=>?_⟩;obtain ⟨au,aH⟩:=h.al i q m r a b c;exact ⟨s _ _ (bZ au f1 (by intro z;cases z)) au,s _ _ (bZ aH f1 (by intro z;cases z)) aH⟩
theorem abg:ct P base T 4 t.DA t.G4 F5 (UP t):=by
 refine cF (yR T) fun qy=>cF (Lu T) fun Hm=>cF (Qr T) fun Bh=>?_;exists T.DG.ok Au,9
 obtain ⟨q,row,ws,c,n,ds,l,left,Rj,rfl,R,C,az,aL,t2,Kb,bM,cJ,j9⟩:=h;refine ⟨_,(db (px (i:=3) Au.aD rfl (mG rfl) (e4 (U 0) T.fG T.vV qy ao T.uF .nil cI (aj (U 2) aG)))
   (db (px (i:=4) Au.aD rfl (mG rfl) (gK (aj (U 3) aG)))
   (db (xn (i:=5) Au.aD rfl (pq rfl) rfl (eT (U 2)) (gA (sc:=bt AY) rfl (by ac_nf)) (N:=["name","crossing","first"]) (sel:=[none,some 1,some 3]) (gC (M:=Hd) (by ac_nf)) (fx.of (fun _ _ _ _=>(cA (i:=0) (eu (N:=["name","crossing","first"]) (by ac_nf) rfl))) (fun _ _ _ _=>⟨_,(v' (cU ep (cm Bh ao T.Cd T.ux.bN T.Ik (aj (U 1) (aj (U 0) aG))) (cm Bh ao T.Cd T.ux.bN T.Ik (aj (U 1) (aj (U 2) aG))) (cc _))),by walk_at "B"⟩) (fun _ _ _ _=>⟨_,(U 0),by walk_at "B"⟩)) rfl)
   (db (Vd fH (lY (hT (U 0) T.fG T.Kq Hm ao T.PT .nil cI)) (a6 (eo (gq iW lh mi lD (U 4) (aj (e4 (U 0) T.fG T.vV qy ao T.uF .nil cI (aj (hP rfl (eT (U 5)) (gA (sc:=bt AY) rfl (by ac_nf)) (N:=["name","members"]) (sel:=[none,some 4]) (gC (M:=Hd) (by ac_nf)) (fx.of (fun _ _ _ _=>(cA (i:=0) (eu (N:=["name","members"]) (by ac_nf) rfl))) (fun _ _ _ _=>⟨_,(v' (cU am (U 0) (U 1) (by with_unfolding_all rfl))),by walk_at "B"⟩) (fun _ _ _ _=>⟨_,(U 0),by walk_at "B"⟩))) aG)) aG)))))
   (a6 (cg (U 4))))))),?_⟩
 obtain ⟨aT,aq,a_,au,aH⟩:=id R;unfold lg at cJ;split at cJ
 case isFalse=>cases cJ
 rename_i gp;obtain ⟨jA,rX,oZ⟩:=Kb _ gp;have acC:4 <= ws.length:=Eu (k:=3) (by rw [<- oZ];exact (az jA rX).2);nofun;refine ⟨_,_,au,c3.no _ _ _ (by ac_nf),⟨q,row,ws,3,_,l,left,rfl,R,v3 (by omega),aC.of aL,gp,fun H1 s1 cp jx=>?_⟩⟩;have jj:=cp bM;have oQ:=C.uH s1 R;have C8:H1 l=some (.lst (aW left)):=s1 _ _ (bZ aL au (by intro z;cases z)) aL;generalize hf:aA ws 3=f0 at cJ gp oZ ⊢;obtain ⟨A9,Pe⟩:=hH rX;nofun;refine ⟨by decide,fun fU ml=>?_⟩;obtain ⟨JE,Qi,Nn,f1,f2⟩:=id jx;have NC:H fU=none:=by
  cases e:H fU with
  | none=>rfl
  | some u=>
   by_cases z:fU=q
   .rw [z,f1] at ml;cases ml
   .rw [s1 _ _ z e] at ml;cases ml
 have sB:aO H1 (upd H1 fU (.lst [V.str f0])):=bE ml;have GJ:(upd H1 fU (.lst [V.str f0])) fU=some (.lst [V.str f0]):=aV;have j8:aP (upd H1 fU (.lst [V.str f0])):=jj.upd;generalize upd H1 fU (.lst [V.str f0])=kB at sB GJ j8 ⊢;have Qt:=oQ.same sB;have Kc:=sB _ _ C8;have gh:=C.1.1;refine ⟨⟨_,aC.of Kc⟩,?_⟩;refine c9.um (xs:=aW left) (ss:=left.map fun x=>if decide ((ib ds x).map h2=(ib ds f0).map h2)=true then some (V.str x) else none) (aC.of Kc) (by rw [fb];exact c_ t2 (by decide)) (by rw [fb,aZ]) (fun i v o ys N aI aY br=>?_) (fun al qR=>?_)
 .unfold aW at aI;obtain ⟨x,ah,rfl⟩:=cy aI;obtain ⟨fN,ew,rfl⟩:=cy aY;rw [ah] at ew;cases ew;obtain ⟨eg,yJ,rfl⟩:=Kb x (cC ah);obtain ⟨j,aJ⟩:=hH yJ;rw [<- oZ,lJ gh aJ,lJ gh Pe] at br;nofun;refine ⟨Sub.name,c,n,ds,j,eg,rfl,Qt,aJ,(az eg yJ).1,c,n,ds,A9,jA,by rw [oZ],Qt,Pe,(az jA rX).1,rfl,?_⟩;by_cases cD:h2 eg=h2 jA
  .simp [cD] at br ⊢;exact br
  .simp [cD] at br ⊢;exact br
 rw [z'];rw [show left.filter (fun x=>decide ((ib ds x).map h2=(ib ds f0).map h2))=uq ds left f0 from rfl];have m4:(uq ds left f0).length <= 12:=by
  unfold uq;exact c_ (Aq ..) t2
 generalize uq ds left f0=alike at cJ m4 ⊢;have jM:aO kB (upd kB al (.lst (aW alike))):=bE qR;have Pz:(upd kB al (.lst (aW alike))) al=some (.lst (aW alike)):=aV;have K_:aP (upd kB al (.lst (aW alike))):=j8.upd;have Zb:al ≠ fU:=fun z=>by rw [z,GJ] at qR;cases qR
 generalize upd kB al (.lst (aW alike))=G3 at jM Pz K_ ⊢;have Wr:cP q H G3:=s1.trans (cP.of (sB.trans jM));refine abQ (fun σ I=>∃ ms:List Str,σ=[~~~q,~~~c,~~~l,some (.str f0),~~~fU,~~~al]/\cP q H I/\aP I/\c3 t I q row ws (3 + ms.length)/\I fU=some (.lst (aW ms))/\I al=some (.lst (aW alike))/\3 + ms.length <= ws.length/\pI alike (ws.drop (3 + ms.length)) (3 + ms.length) ms=.ok Rj) (fun σ I=>match I fU with | some (.lst xs)=>ws.length - xs.length | _=>0) ?_ ?_
 .exact ⟨[f0],rfl,Wr,K_,jx.same (sB.trans jM),jM _ _ GJ,Pz,acC,cJ⟩
 rintro σ I bb;ac_rfl
 obtain ⟨ms,rfl,fQ,cO,e0,iy,a2,aiu,fj⟩:=bb;obtain ⟨Ky,r0,EM,g1,g2⟩:=id e0;have JQ:fU ≠ q:=bZ iy g1 (by intro z;cases z);have adT:al ≠ q:=bZ a2 g1 (by intro z;cases z);subst aK;refine ⟨decide (3 + ms.length < ws.length),fun gM aR=>?_,fun rp=>?_,fun rp=>?_⟩
 .nofun;exact ⟨_,_,g1,c3.no _ _ _ (by ac_nf),⟨q,row,ws,_,rfl,e0,_,rfl,aR⟩⟩
 .have rp:=of_decide_eq_true rp;rw [Xx rp] at fj;unfold pI at fj;nofun;refine ⟨.inl ⟨_,aC.of iy⟩,?_⟩;refine ⟨_,_,g1,c3.no _ _ _ (by ac_nf),⟨_,aC.of a2⟩,?_⟩;refine c9.um (xs:=aW alike) (ss:=alike.map fun x=>if (!decide (x ∈ ms))=true then some (V.str x) else none) (aC.of a2) (by rw [fb];exact c_ m4 (by decide)) (by rw [fb,aZ]) (fun i v o ys N aI aY br=>?_) (fun cl o_=>?_)
  .unfold aW at aI;obtain ⟨x,ah,rfl⟩:=cy aI;obtain ⟨fN,ew,rfl⟩:=cy aY;rw [ah] at ew;cases ew;nofun;refine ⟨Sub.name,_,.inl (aC.of iy),rfl,yO ms,?_⟩;rw [BD];by_cases cD:x ∈ ms
   .simp [cD] at br ⊢;exact br
   .simp [cD] at br ⊢;exact br
  rw [z'];have rF:aO I (upd I cl (.lst (aW (alike.filter fun x=>!decide (x ∈ ms))))):=bE o_;have SI:(upd I cl (.lst (aW (alike.filter fun x=>!decide (x ∈ ms))))) cl=some (.lst (aW (alike.filter fun x=>!decide (x ∈ ms)))):=aV;have MC:aP (upd I cl (.lst (aW (alike.filter fun x=>!decide (x ∈ ms))))):=cO.upd;generalize upd I cl (.lst (aW (alike.filter fun x=>!decide (x ∈ ms))))=Sp at rF SI MC ⊢;split at fj
  case isFalse=>cases fj
  rename_i ay;refine ⟨q,row,ws,3 + ms.length,_,cl,_,rfl,e0.same rF,v3 rp,aC.of SI,iY.mpr ⟨ay.1,by simpa using ay.2⟩,fun aw s2 dw mh=>?_⟩
  .have qc:aw fU=some (.lst (aW ms)):=s2 _ _ JQ (rF _ _ iy);have f7:aw al=some (.lst (aW alike)):=s2 _ _ adT (rF _ _ a2);obtain ⟨zE,Iw,Lg,b1,dH⟩:=id mh;have XT:Lg ≠ fU:=fun z=>by
    rw [z,qc] at dH;have e:=d1 dH;injection e with e;have:=congrArg qa e;rw [fb,fb] at this;omega
   refine ⟨_,qc,gW (show (aW ms).length <= 1000 by rw [fb];have:=zE.1;omega) (by decide),fun b u aa e=>?_,(dw MC).upd,⟨ms ++ [aA ws (3 + ms.length)],⟨zE,Iw,Lg,?_,?_⟩,?_,?_,?_,?_⟩,?_⟩
   .rw [aE (dy e NC)];exact s2 _ _ aa (rF _ _ (fQ _ _ aa e))
   .rw [aE (dW JQ),dY];exact b1
   .rw [aE XT];exact dH
   .rw [aV];unfold aW;rw [eZ];rfl
   .rw [aE Zb];exact f7
   .rw [dY];show 3 + (ms.length + 1) <= _;omega
   .rw [dY];exact fj
   .rw [aV,iy];show ws.length - (aW ms ++ [V.str (aA ws (3 + ms.length))]).length < ws.length - (aW ms).length;rw [dY,fb];show ws.length - (ms.length + 1) < _;omega
 .have rp:=of_decide_eq_false rp;rw [List.drop_of_length_le (by omega)] at fj;replace fj:(pR ms:Except Nat (List Str))=.ok Rj:=fj;cases fj;nofun;exact j9 fU I fQ cO ⟨_,g1⟩ iy NC
theorem Zj:ct P base T 6 t.xT t.z6 Ab (OV t):=by
 refine cF (yR T) fun qy=>cF (xp T) fun m7=>cF (abg T) fun Ym=>cF (N3 T) fun IC=>?_;exists T.Tl.ok D0,9
 obtain ⟨q,row,ws,c,n,ds,p,qs,ms,rows,nh,rfl,R,C,az,adt,gy,sM,bM,cJ,j9⟩:=h;refine ⟨_,(db (eo (e4 (U 0) T.fG T.vV qy ao T.uF .nil cI (aj (gK (aj dh aG)) aG)))
   (db (b7 (i:=3) D0.aD (e4 (U 0) T.fG T.pz m7 ao T.Gc .nil cI (aj aM (aj (lA rfl T.Q' T.L4) aG))))
   (db (b7 (i:=4) D0.aD (e4 (U 0) T.fG T.pz m7 ao T.Gc .nil cI (aj (U 3) (aj (lA rfl T.Q' T.L4) aG))))
   (a6 (cg (tE (aj (U 3) (aj (U 4) (aj (cm Ym ao T.Ev T.DG.bN T.Ul (aj (U 0) (aj (U 1) (aj (cm IC ao T.KJ T.AP.bN T.cr (aj (U 1) (aj (U 2) aG))) aG)))) aG))))))))),?_⟩
 obtain ⟨_,aq,a_,au,aH⟩:=id R;unfold pa at cJ;split at cJ
 case isFalse=>cases cJ
 rename_i gp;have cE:1 <= ws.length:=Eu (k:=0) (by rw [d8.mp gp];ac_nf);cases xt:kd (aA ws 1) 1 60 with
 | none=>rw [xt] at cJ;cases cJ
 | some lo=>
 have qQ:iw (aA ws 1) 1 60=.int lo:=by rw [Hy,xt];rfl
 rw [xt] at cJ;replace cJ:((kd (aA ws 2) lo 60).elim (.error 2) fun ag=>match lg ds (gE ds rows) ws with | .error k=>.error k | .ok ms=>.ok ⟨lo,ag,ms⟩:Except Nat ST)=.ok nh:=cJ;cases EC:kd (aA ws 2) lo 60 with
 | none=>rw [EC] at cJ;cases cJ
 | some ag=>
 have wF:iw (aA ws 2) lo 60=.int ag:=by rw [Hy,EC];rfl
 rw [EC] at cJ;replace cJ:(match lg ds (gE ds rows) ws with | .error k=>.error k | .ok ms=>.ok (⟨lo,ag,ms⟩:ST):Except Nat ST)=.ok nh:=cJ;cases hm:lg ds (gE ds rows) ws with
 | error k=>rw [hm] at cJ;cases cJ
 | ok aih=>
 rw [hm] at cJ;cases cJ;have dq:=(Dd qQ).1;nofun;refine ⟨_,_,au,c3.no _ _ _ (by ac_nf),by decide,fun QA g_=>?_⟩;have s0:aO H (upd H QA (.lst [V.str (ab "stage")])):=bE g_;refine ⟨q,row,ws,0,_,QA,[ab "stage"],rfl,R.same s0,v3 cE,aC.of aV,gp,fun H1 s1 cp jx=>?_⟩;obtain ⟨_,Qi,Nn,f1,f2⟩:=id jx;have jj:=cp bM.upd;have bH:cP q H H1:=(cP.of s0).trans s1;nofun;refine ⟨_,_,f1,c3.no _ _ _ (by ac_nf),⟨q,row,ws,1,_,1,60,lo,rfl,jx,v3 dq,qQ,jj,fun aw s2 cO e0=>?_⟩⟩;have n7:=cO jj;have fQ:cP q H aw:=bH.trans s2;obtain ⟨_,r0,EM,g1,g2⟩:=id e0;nofun;refine ⟨_,_,g1,c3.no _ _ _ (by ac_nf),⟨q,row,ws,2,_,lo,60,ag,rfl,e0,v3 (Dd wF).1,wF,n7,fun bf s3 dw mh=>?_⟩⟩;have acE:=(Dd wF).1;have FP:=dw n7;have ea:cP q H bf:=fQ.trans s3;have tg:=C.uH ea R;have WS:=adt.uH ea R;nofun;refine ⟨c,n,ds,p,qs,ms,rows,rfl,tg,WS,gy,sM,fun l cN s4 dT aL By=>?_⟩;have dF:cP q H cN:=ea.trans (cP.of s4);have Ek:=dT FP;have qU:(gE ds rows).length <= 12:=by
  unfold gE;exact c_ (Aq ..) (by rw [aZ];exact C.1.2)
 refine ⟨q,row,ws,c,n,ds,l,gE ds rows,aih,rfl,mh.same s4,tg.same s4,az,By,qU,fun x ah=>?_,Ek,hm,fun m dJ s5 DH aeu Up IQ=>?_⟩
 .obtain ⟨d,hd,e⟩:=bK.mp (iY.mp ah).1;exact ⟨d,hd,e⟩
 obtain ⟨_,_,_,aaS,_⟩:=mh.same s4;nofun;refine ⟨by decide,fun x ah=>?_⟩;have back:∀ {y:Addr} {G:ar},cP q H G->G y=none->(∃ u,G q=some u)->H y=none:=fun {y G} jO bg ⟨u,bx⟩=>by
  cases e:H y with
  | none=>rfl
  | some v=>
   by_cases c:y=q
   .subst c;rw [bx] at bg;cases bg
   .rw [jO _ _ c e] at bg;cases bg
 exact j9 x m _ (dF.trans (s5.trans (cP.of (bE ah)))) DH.upd aV ((bE ah) _ _ Up) (back (dF.trans s5) ah aeu) (back dF IQ ⟨_,aaS⟩)
theorem SN [DecidableEq α]:∀ {l l':List α},l.Nodup->(∀ x ∈ l,x ∈ l')->l.length <= l'.length
 | [],_,_,_=>fi _
 | a :: l,l',h,av=>by
  have aS:=av a (l6 ..);have ak:=o2.mp h;have:=SN (l':=l'.erase a) ak.2 (fun x ah=>(List.mem_erase_of_ne (fun e=>ak.1 (by rw [<- e];exact ah))).mpr (av x (hM _ ah)));rw [List.length_erase_of_mem aS] at this;have ax:=W3 aS;rw [iu];omega
noncomputable def fu (rows:List ST) (x:Str):Option Nat:=match cM (gN (rows.map (·.mem))) (bY x) with
 | some (.int k)=>some k.toNat
 | _=>none
theorem SJ {x:Str}:∀ (n:Nat) (df:List (List Str)),n <= df.length->(∃ ms ∈ df.take n,x ∈ ms)->∃ (k:Nat) (ms:List Str),cM (gN (df.take n)) (bY x)=some (.int (k:Int))/\df[k]? = some ms/\x ∈ ms
 | 0,df,_,h=>by
  obtain ⟨ms,af,_⟩:=h;simp at af
 | n + 1,df,a4,h=>by
  have aQ:df[n]? = some df[n]:=bo (by omega);rw [Fv aQ,FX];by_cases c:x ∈ df[n]
  .rw [if_pos c];exact ⟨n,_,rfl,aQ,c⟩
  .rw [if_neg c];refine SJ n df (by omega) ?_;obtain ⟨ms,af,ak⟩:=h;rw [jt aQ] at af;rcases eG.mp af with af | af
   .exact ⟨ms,af,ak⟩
   .rw [d8.mp af] at ak;exact absurd ak c
theorem nY {rows:List ST} {x:Str} (h:told rows x=true):∃ (k:Nat) (r:ST),cM (gN (rows.map (·.mem))) (bY x)=some (.int (k:Int))/\fu rows x=some k/\rows[k]? = some r/\x ∈ r.mem:=by
 unfold told at h;obtain ⟨r,ao,ah⟩:=qi.mp h;have:=SJ (x:=x) (rows.map (·.mem)).length (rows.map (·.mem)) (cn _) ⟨r.mem,by rw [hB];exact bK.mpr ⟨r,ao,rfl⟩,by simpa using ah⟩;rw [hB] at this;obtain ⟨k,ms,af,ak,a9⟩:=this;obtain ⟨ei,dD,rfl⟩:=cy ak;exact ⟨k,ei,af,by unfold fu;rw [af];rfl,dD,a9⟩
noncomputable def uT (rows:List ST) (d:a8):Option (a8 × Nat):=(fu rows d.name).bind fun k=>(rows[k]?).bind fun r=>if r.lo < d.least then some (d,k) else none
noncomputable def tV (ds:List a8) (rows:List ST):Option (a8 × Nat):=ds.findSome? (uT rows)
noncomputable def oa (n:Int) (ds:List a8) (x y:Str):Bool:=match ib ds x,ib ds y with
 | some d,some e=>mt n d e
 | _,_=>false
noncomputable def n1 (n:Int) (ds:List a8) (k:Nat) (x y:Str):Option (Str × Str × Nat):=if x ≠ y/\oa n ds x y=true then some (x,y,k) else none
noncomputable def q0 (n:Int) (ds:List a8) (e:ST × Nat):Option (Str × Str × Nat):=e.1.mem.findSome? fun x=>e.1.mem.findSome? fun y=>n1 n ds e.2 x y
noncomputable def sg (n:Int) (ds:List a8) (rows:List ST):Option (Str × Str × Nat):=rows.zipIdx.findSome? (q0 n ds)
def vN (ds:List a8):Prop:=∀ d ∈ ds,TZ d.name/\d.k < 3/\(0 <= d.off/\d.off <= 1000)
structure pv (ds:List a8) (rows:List ST):Prop where
 ln:rows.length <= 6
 fU:∀ r ∈ rows,r.mem.length <= 12
 vd:∀ r ∈ rows,∀ x ∈ r.mem,∃ d ∈ ds,d.name=x
def MG (t:bQ):bU:=fun vs H Q _=>∃ c n ds p qs ms rows,vs=[.ref c,.ref p]/\fp t H c n ds/\iv H p qs ms rows/\pv ds rows/\gE ds rows=[]/\∀ I,aO H I->(aP H->aP I)->Q .b6 I
def Sb (t:bQ):bU:=fun vs H Q _=>∃ c n ds p qs ms rows,vs=[.ref c,.ref p]/\fp t H c n ds/\iv H p qs ms rows/\pv ds rows/\gE ds rows=[]/\tV ds rows=none/\∀ I,aO H I->(aP H->aP I)->Q .b6 I
def NK (t:bQ):bU:=fun vs H Q _=>∃ c n ds p qs ms rows,vs=[.ref c,.ref p]/\fp t H c n ds/\0 < n/\iv H p qs ms rows/\pv ds rows/\aP H/\sg n ds rows=none/\∀ I,aO H I->(aP H->aP I)->Q .b6 I
def rZ (l:List Int) (v:Int):Prop:=v ∈ l/\∀ k ∈ l,k <= v
noncomputable def ry (ds:List a8) (x:Str):Int:=((ib ds x).map l2).getD 0
noncomputable def tB (ds:List a8) (x:Str):Int:=((ib ds x).map me).getD 0
noncomputable def s8 (ds:List a8) (x y:Str):Int:=match ib ds x,ib ds y with
 | some d,some e=>if d.off - e.near > 0 then d.off - e.near else 0
 | _,_=>0
noncomputable def pV (n:Int) (ds:List a8) (s:List Str) (x:Str):List Int:=if x ∈ s then [] else (s.filter fun y=>oa n ds x y).map (s8 ds x)
noncomputable def k2 (n:Int) (ds:List a8) (f s:List Str):List Int:=[0] ++ f.map (ry ds) ++ s.map (tB ds) ++ (ds.map (·.name)).flatMap (pV n ds s)
theorem ze (h:nq.contains m=false):(nJ d).lookup m=none:=wu nq (O5 _) h
theorem P7 (p:Str->Bool) (g:Str->Int):∀ xs:List Str,((xs.map fun x=>if p x=true then some (V.int (g x)) else none).flatMap B2)=((xs.filter p).map g).map V.int
 | []=>rfl
 | x :: xs=>by
  rw [er,vJ,P7 p g xs];by_cases c:p x=true
  .rw [if_pos c,VO c];rfl
  .rw [if_neg c,aag c];rfl
theorem Ia:∀ b9:List Int,b9 ≠ []->∃ m,m ∈ b9/\∀ k ∈ b9,k <= m
 | [],h=>absurd rfl h
 | [x],_=>⟨x,by simp,fun k az=>by rw [d8.mp az];exact Jj _⟩
 | x :: y :: r,_=>by
  obtain ⟨m,hm,al⟩:=Ia (y :: r) (by simp);by_cases c:x <= m
  .refine ⟨m,hM _ hm,fun k az=>?_⟩;rcases eJ.mp az with rfl | az
   .exact c
   .exact al k az
  .refine ⟨x,by simp,fun k az=>?_⟩;rcases eJ.mp az with rfl | az
   .exact Jj _
   .exact aeK (al k az) (by omega)
def aeR (t:bQ):bU:=fun vs H Q _=>∃ c n ds f3 aX f s,vs=[.ref c,.ref f3,.ref aX]/\fp t H c n ds/\0 < n/\vN ds/\H f3=some (.lst (aW f))/\H aX=some (.lst (aW s))/\(∀ x ∈ f,∃ d ∈ ds,d.name=x)/\(∀ x ∈ s,∃ d ∈ ds,d.name=x)/\f.length <= 12/\s.length <= 12/\aP H/\∀ v,rZ (k2 n ds f s) v->Q (.int v) H
def S8 (t:bQ):bU:=fun vs H Q _=>∃ c n ds f3 aX f s,vs=[.ref c,.ref f3,.ref aX]/\fp t H c n ds/\0 < n/\vN ds/\H f3=some (.lst (aW f))/\H aX=some (.lst (aW s))/\(∀ x ∈ f,∃ d ∈ ds,d.name=x)/\(∀ x ∈ s,∃ d ∈ ds,d.name=x)/\f.length <= 12/\s.length <= 12/\aP H/\∀ v I,aO H I->rZ (k2 n ds f s) v->Q (.int v) I
theorem agH:ct P base T 3 t.zh t.Ac ke (MG t):=by
 refine cF (N3 T) fun IC=>?_;exists T.Hb.ok im,9
 obtain ⟨c,n,ds,p,qs,ms,rows,rfl,C,R,J,eB,q⟩:=h;refine ⟨_,(db (b7 (i:=2) im.aD (cm IC ao T.KJ T.AP.bN T.cr (aj (U 0) (aj (U 1) aG))))
   (a6 (dI (zr (U 2) (fun _=>rfl)) (a6 nG) d2))),?_⟩
 nofun;refine ⟨c,n,ds,p,qs,ms,rows,rfl,C,R,J.ln,J.fU,fun l H1 s1 cp aL cE=>?_⟩;dsimp only;rw [eB] at cE;refine dt false (fun Q aR=>?_) (fun z=>nomatch z) (fun _=>?_)
 .exact ⟨_,rfl,_,.inl ⟨_,aC.of cE,rfl⟩,aR⟩
 .simp only [i9];exact q H1 s1 cp
theorem Tr:ct P base T 3 t.z3 t.zW ke (Sb t):=by
 refine cF (E5 T) fun wZ=>cF (xv T) fun q3=>cF (qO T) fun jB=>?_;exists T.IV.ok zL,9
 obtain ⟨c,n,ds,p,qs,ms,rows,rfl,C,R,J,abv,vP,q⟩:=h;have bx:=iF ao;obtain ⟨⟨gh,gn⟩,aq,wl,aD,au,_,_⟩:=id C;refine ⟨_,(db (b7 (i:=2) zL.aD (cm wZ ao T.Jg T.wM.bN T.DK (aj (hP rfl (eT (U 1)) (gA (sc:=bt Jf) rfl (by ac_nf)) (N:=ij) (sel:=[none,none,none]) (gC (M:=["crossing","rows","homes","name","number"]) (by ac_nf)) (fx.of (fun _ _ _ _=>(l_ (K:=K) (n:=3) rfl rfl (fq (cA (i:=0) (eu (N:=ij) (by ac_nf) rfl)) (fq (cA (i:=1) (eu (N:=ij) (by ac_nf) rfl)) (fq (cA (i:=2) (eu (N:=ij) (by ac_nf) rfl)) Ch))))) (fun _ _ _ _=>⟨_,h4,by walk_at "B"⟩) (fun _ _ _ _=>⟨_,(U 2),by walk_at "B"⟩))) aG)))
   (a6 (fz fH rfl (eT (hT (U 0) T.hU T.za q3 ao T.y6 .nil cI)) (cA (i:=3) zL.aD) (db (b7 (i:=4) zL.aD (n6 bx (U 2) (U 3) (fun _ _=>rfl)))
   (a6 (dI (cU kn (bV fv (bV c8 (U 1) (U 4)) aM) (bA (e4 (U 0) T.hU T.nE jB ao T.n0 .nil cI (aj (U 3) aG)) rfl) (cc _)) (a6 nG) d2)))))),?_⟩
 nofun;have iG:(qs.map V.ref).length=rows.length:=by rw [aZ,R.cE]
 refine ⟨⟨_,aC.of R.at_⟩,?_⟩;refine c9.ly (xs:=qs.map V.ref) (zs:=ms.map V.ref) (aC.of R.at_) (by rw [iG];exact c_ J.ln (by decide)) (by rw [iG,aZ,R.dq]) (fun j v z N aI aT br=>?_) (fun pm IF=>?_)
 .obtain ⟨jK,eC,rfl⟩:=cy aI;obtain ⟨Fx,kc,rfl⟩:=cy aT;have aJ:j < rows.length:=by rw [<- R.cE];exact (b'.mp eC).1
  have e:=(R.al j jK Fx _ eC kc (bo aJ)).1;nofun;exact ⟨_,di.of e,rfl,_,_,rfl,_,_,rfl,_,_,rfl,rfl,Sub.ub,br⟩
 .have sp:aO H (upd H pm (.lst (ms.map V.ref))):=bE IF;have np:aP H->aP (upd H pm (.lst (ms.map V.ref))):=fun n=>n.upd
  have cG:(upd H pm (.lst (ms.map V.ref))) pm=some (.lst (ms.map V.ref)):=aV;generalize upd H pm (.lst (ms.map V.ref))=dX at sp np cG ⊢;refine ⟨pm,ms,rows.map (·.mem),rfl,⟨cG,by rw [R.dq,aZ],fun i m x hm ah=>?_⟩,by rw [aZ];exact J.ln,fun x ah=>?_,fun h H1 s1 cp dr af=>?_⟩
  .obtain ⟨r,dD,rfl⟩:=cy ah;have gV:qs[i]? = some (qs[i]'(by rw [R.cE];exact (b'.mp dD).1)):=bo _;exact sp _ _ (R.al i _ m r gV hm dD).2
  .obtain ⟨r,dD,rfl⟩:=bK.mp ah;exact J.fU r dD
  .have lq:=sp.trans s1;have oQ:=C.same lq;refine ⟨_,_,lq _ _ au,KB _ _ _ (by ac_nf),c,n,ds,rfl,oQ,fun dN jI=>⟨dN,rfl,⟨_,aC.of aV⟩,?_⟩⟩;have sB:=lq.trans (bE (o:=.lst (aW (ds.map (·.name)))) jI);have ak:=(bE (o:=.lst (aW (ds.map (·.name)))) jI) _ _ af;have j8:aP H->aP (upd H1 dN (.lst (aW (ds.map (·.name))))):=fun n=>(cp (np n)).upd
   have p2:(upd H1 dN (.lst (aW (ds.map (·.name))))) dN=some (.lst (aW (ds.map (·.name)))):=aV;generalize upd H1 dN (.lst (aW (ds.map (·.name))))=kB at sB ak j8 p2 ⊢;refine dO.list (xs:=aW (ds.map (·.name))) (fun i σ I=>(∃ x y,σ=[~~~c,~~~p,~~~h,x,y])/\I=kB/\tV ds rows=(ds.drop i).findSome? (uT rows)) ?_ ?_ ?_ ?_
   .exact ⟨⟨_,_,rfl⟩,rfl,rfl⟩
   .rintro i σ I ag ⟨_,rfl,_⟩;exact aC.of p2
   .rintro i v σ I aI bb;ac_rfl
    obtain ⟨⟨x,y,rfl⟩,rfl,d4⟩:=bb;subst aK;unfold aW at aI;obtain ⟨nm,ll,rfl⟩:=cy aI;obtain ⟨d,hd,rfl⟩:=cy ll;obtain ⟨ag,ac9⟩:=b'.mp hd;have zo:=cC hd;have cq:told rows d.name=true:=by
     have:=Mi.mp abv d.name (bK.mpr ⟨d,zo,rfl⟩);simpa using this
    obtain ⟨k,r,UN,vf,iB,tF⟩:=nY cq;have lC:k < rows.length:=(b'.mp iB).1;have S6:uT rows d=if r.lo < d.least then some (d,k) else none:=by
     unfold uT;rw [vf,vz,iB,vz]
    rw [rj ag,HN,ac9,S6] at d4;have aQ:gI I h (.str d.name) (some (.int (k:Int))):=by rw [<- UN];exact gI.k (k:=bY d.name) ak
    have Qm:qs[k]? = some (qs[k]'(by rw [R.cE];exact lC)):=bo _;have ag3:ms[k]? = some (ms[k]'(by rw [R.dq];exact lC)):=bo _;have abZ:=sB _ _ (R.al k _ _ r Qm ag3 iB).1;simp only [gU,dE,kG,kp];exists (fun aB aw=>aw=I/\aB=[~~~c,~~~p,~~~h,some (.str d.name),some (.int (k:Int))]),2
    .nofun;exact ⟨_,aQ,bJ _ _ ⟨rfl,rfl⟩⟩
    rintro cv aw ⟨rfl,rfl⟩;subst aK;dsimp only;refine dt (decide (r.lo < d.least)) (fun Q aR=>?_) (fun aa=>?_) (fun aa=>?_)
    .nofun;exact ⟨_,aC.of (sB _ _ R.at_),_,Db (by rw [c5,Qm];rfl),_,rfl,_,di.of abZ,_,Db (j:=0) rfl,_,_,sB _ _ au,KB _ _ _ (by ac_nf),c,n,ds,i,d,rfl,C.same sB,hd,fun a W=>⟨a,rfl,_,W.Za T,_,rfl,_,rfl,aR⟩⟩
    .have aa:=of_decide_eq_true aa;rw [if_pos aa] at d4;replace d4:tV ds rows=some (d,k):=d4;rw [d4] at vP;cases vP
    .have aa:=of_decide_eq_false aa;rw [if_neg aa] at d4;simp only [i9];exact ⟨⟨_,_,rfl⟩,trivial,d4⟩
   .rintro σ I bb;ac_rfl
    obtain ⟨⟨x,y,rfl⟩,rfl,d4⟩:=bb;subst aK;rw [fb,aZ,uE] at d4;exact q _ sB j8
theorem UF:ct P base T 4 t.A2 t.BA ke (NK t):=by
 refine cF (Lr T) fun Jx=>?_;exists T.Eg.ok wo,9
 obtain ⟨c,n,ds,p,qs,ms,rows,rfl,C,a4,R,J,bM,vP,q⟩:=h;obtain ⟨⟨gh,gn⟩,aq,wl,aD,au,_,_⟩:=id C;refine ⟨_,(a6 (fz fH rfl (zg rfl T.zR (aj (U 1) aG)) (l_ (K:=K) (n:=2) rfl rfl (fq (cA (i:=2) wo.aD) (fq (cA (i:=3) wo.aD) Ch))) (a6 (fz fH rfl (eT (bV fv (U 3) aM)) (cA (i:=4) wo.aD) (a6 (fz fH rfl (eT (bV fv (U 3) aM)) (cA (i:=5) wo.aD) (a6 (dI (fW.pt (j0 (cU o6 (U 4) (U 5) (cc _)) (kN (lY (cm Jx ao T.LK T.BZ.bN T.Rm (aj (U 0) (aj (U 4) (aj (U 5) aG)))))))) (a6 nG) d2)))))))),?_⟩;nofun;have PD:∀ {x:Str},(∃ d ∈ ds,d.name=x)->∃ (i:Nat) (d:a8),ds[i]? = some d/\d.name=x/\ib ds x=some d:=fun ⟨d,hd,e⟩=>by
  obtain ⟨i,ag⟩:=hH hd;exact ⟨i,d,ag,e,by rw [<- e];exact lJ gh ag⟩
 refine ⟨⟨_,aC.of R.at_⟩,?_⟩;refine dO.enum (xs:=qs.map V.ref) (fun i σ I=>(∃ x y z u,σ=[~~~c,~~~p,x,y,z,u])/\aO H I/\aP I/\sg n ds rows=((rows.drop i).zipIdx i).findSome? (q0 n ds)) ?_ ?_ ?_ ?_
 .exact ⟨⟨_,_,_,_,rfl⟩,aO.refl _,bM,rfl⟩
 .rintro i σ I ag ⟨_,bO,_⟩;exact aC.of (bO _ _ R.at_)
 .rintro i v σ I i' aI ⟨⟨x,y,z,u,rfl⟩,bO,cp,d4⟩ nC;obtain ⟨qb,gV,rfl⟩:=cy aI;have ag:i < rows.length:=by rw [<- R.cE];exact (b'.mp gV).1
  have i7:rows[i]? = some rows[i]:=bo ag;have pG:ms[i]? = some (ms[i]'(by rw [R.dq];exact ag)):=bo _;obtain ⟨Hu,em⟩:=R.al i qb _ _ gV pG i7;generalize ms[i]'(by rw [R.dq];exact ag)=m at pG Hu em;have sM:=cC i7;have gp:=J.vd _ sM;have ml:=J.fU _ sM;rw [rj ag,List.zipIdx_cons,HN] at d4;generalize akD:rows[i]=r at Hu em gp ml d4;have s2:aO I (upd I i' (.tup [.int i,.ref qb])):=bE nC;have sB:=bO.trans s2;have j8:aP (upd I i' (.tup [.int i,.ref qb])):=cp.upd;refine yj ?_;generalize upd I i' (.tup [.int i,.ref qb])=kB at s2 sB j8 ⊢;have Mu:=sB _ _ Hu;have B1:=sB _ _ em;nofun;refine ⟨_,di.of Mu,_,Db (j:=2) rfl,m,rfl,⟨_,aC.of B1⟩,?_⟩;generalize aiY:((rows.drop (i + 1)).zipIdx (i + 1)).findSome? (q0 n ds)=kC at d4;refine dO.list (xs:=aW r.mem) (fun j σ aw=>(∃ z u,σ=[~~~c,~~~p,some (.int (i:Int)),~~~qb,z,u])/\aw=kB/\q0 n ds (r,i)=(r.mem.drop j).findSome? (fun x=>r.mem.findSome? fun y=>n1 n ds i x y)) ?_ ?_ ?_ ?_
  .exact ⟨⟨_,_,rfl⟩,rfl,rfl⟩
  .rintro j σ aw aJ ⟨_,rfl,_⟩;exact aC.of B1
  .rintro j v σ aw aI bb;ac_rfl
   obtain ⟨⟨z,u,rfl⟩,rfl,hq⟩:=bb;subst aK;unfold aW at aI;obtain ⟨bH,Pa,rfl⟩:=cy aI;obtain ⟨aJ,abp⟩:=b'.mp Pa;rw [rj aJ,HN,abp] at hq;obtain ⟨i1,eg,yJ,FQ,wU⟩:=PD (gp bH (cC Pa));generalize akH:(r.mem.drop (j + 1)).findSome? (fun x=>r.mem.findSome? fun y=>n1 n ds i x y)=akr at hq;nofun;refine ⟨_,di.of Mu,_,Db (j:=2) rfl,m,rfl,⟨_,aC.of B1⟩,?_⟩;refine dO.list (xs:=aW r.mem) (fun l σ bf=>(∃ u,σ=[~~~c,~~~p,some (.int (i:Int)),~~~qb,some (.str bH),u])/\bf=aw/\(r.mem.findSome? fun y=>n1 n ds i bH y)=(r.mem.drop l).findSome? (fun y=>n1 n ds i bH y)) ?_ ?_ ?_ ?_
   .exact ⟨⟨_,rfl⟩,rfl,rfl⟩
   .rintro l σ bf aL ⟨_,rfl,_⟩;exact aC.of B1
   .rintro l v σ bf aI bb;ac_rfl
    obtain ⟨⟨u,rfl⟩,rfl,eB⟩:=bb;subst aK;unfold aW at aI;obtain ⟨fQ,v9,rfl⟩:=cy aI;obtain ⟨aL,hV⟩:=b'.mp v9;rw [rj aL,HN,hV] at eB;obtain ⟨i2,eW,hd2,pB,Yd⟩:=PD (gp fQ (cC v9));have AO:oa n ds bH fQ=mt n eg eW:=by unfold oa;rw [wU,Yd]
    have Ws:n1 n ds i bH fQ=if bH ≠ fQ/\mt n eg eW=true then some (bH,fQ,i) else none:=by unfold n1;rw [AO]
    rw [Ws] at eB;simp only [gU,kG,kp];refine dt (decide (bH ≠ fQ) && mt n eg eW) (fun Q aR=>?_) (fun aa=>?_) (fun aa=>?_)
    .nofun;by_cases cD:bH=fQ
     .rw [if_neg (by simp [cD])];rw [decide_eq_false (fun z=>z cD),mu] at aR;exact aR
     .rw [if_pos (by simpa using cD)];rw [decide_eq_true cD,lF] at aR;exact ⟨c,n,ds,i1,i2,eg,eW,by rw [FQ,pB],C.same sB,a4,yJ,hd2,j8,_,rfl,aR⟩
    .rw [hX,decide_eq_true_eq] at aa;rw [if_pos aa] at eB;replace eB:(r.mem.findSome? fun y=>n1 n ds i bH y)=some (bH,fQ,i):=eB;rw [eB] at hq;replace hq:q0 n ds (r,i)=some (bH,fQ,i):=hq;rw [hq] at d4;replace d4:sg n ds rows=some (bH,fQ,i):=d4;rw [d4] at vP;cases vP
    .have aa:¬ (bH ≠ fQ/\mt n eg eW=true):=fun z=>by
      rw [decide_eq_true z.1,z.2] at aa;exact nomatch aa
     rw [if_neg aa] at eB;simp only [i9];exact ⟨⟨_,rfl⟩,trivial,eB⟩
   .rintro σ bf bb;ac_rfl
    obtain ⟨⟨u,rfl⟩,rfl,eB⟩:=bb;subst aK;rw [fb,uE] at eB;replace eB:(r.mem.findSome? fun y=>n1 n ds i bH y)=none:=eB;rw [eB] at hq;exact ⟨⟨_,_,rfl⟩,rfl,hq⟩
  .rintro σ aw bb;ac_rfl
   obtain ⟨⟨z,u,rfl⟩,rfl,hq⟩:=bb;subst aK;rw [fb,uE] at hq;replace hq:q0 n ds (r,i)=none:=hq;rw [hq] at d4;exact ⟨⟨_,_,_,_,rfl⟩,sB,j8,d4⟩
 .rintro σ I bb;ac_rfl
  obtain ⟨⟨x,y,z,u,rfl⟩,bO,cp,d4⟩:=bb;subst aK;rw [aZ,R.cE,uE] at d4;exact q _ bO (fun _=>cp)
theorem ahT:ct P base T 4 t.Jp t.FU Fg (aeR t):=by
 refine cH.forget (sp:=S8 t) ?_ fun vs H Q E h=>?_
 .have Jx:cH P w K mg base dC 3 t.Br t.Am p5 (Oe t):=Lr T;have agT:cH P w K mg base dC 3 t.x' t.A4 p5 (LA t):=V2 T;have q3:cH P w K mg base dC 3 t.wq t.xJ ["self"] (R4 t):=(xv T).mono (by decide);have jB:cH P w K mg base dC 3 t.uA t.z4 jb (Ox t):=(qO T).mono (by decide);have CJ:oK P w K mg base dC 3 (sC t) "ready" ["self"] (sD t):=Ba (RH T) (by decide);have GU:oK P w K mg base dC 3 (sC t) "fade" ["self"] (tZ t):=Ba (Nz T) (by decide);exists T.GA.ok GO,9
  obtain ⟨c,n,ds,f3,aX,f,s,rfl,C,a4,bW,hf,av,fin,sin,mN,j3,bM,q⟩:=h;obtain ⟨⟨gh,gn⟩,aq,wl,aD,au,_,_⟩:=id C;refine ⟨_,(db (b7 (i:=3) GO.aD (gK (aj aM aG)))
   (db (eo (gq iW B' OF Jy (U 3) (aj (hP rfl (eT (U 1)) (gA (sc:=bt vq) rfl (by ac_nf)) (N:=yt) (sel:=[none,some 0]) (gC (M:=yx) (by ac_nf)) (fx.of (fun _ _ _ _=>(cA (i:=0) (eu (N:=yt) (by ac_nf) rfl))) (fun _ _ _ _=>⟨_,h4,by walk_at "B"⟩) (fun _ _ _ _=>⟨_,(AX (e4 (U 1) T.hU T.nE jB ao T.n0 .nil cI (aj (U 0) aG)) GU ao cI),by walk_at "B"⟩))) aG)))
   (db (eo (gq iW B' OF Jy (U 3) (aj (hP rfl (eT (U 2)) (gA (sc:=bt vq) rfl (by ac_nf)) (N:=yt) (sel:=[none,some 0]) (gC (M:=yx) (by ac_nf)) (fx.of (fun _ _ _ _=>(cA (i:=0) (eu (N:=yt) (by ac_nf) rfl))) (fun _ _ _ _=>⟨_,h4,by walk_at "B"⟩) (fun _ _ _ _=>⟨_,(AX (e4 (U 1) T.hU T.nE jB ao T.n0 .nil cI (aj (U 0) aG)) CJ ao cI),by walk_at "B"⟩))) aG)))
   (db (fz fH rfl (eT (hT (U 0) T.hU T.za q3 ao T.y6 .nil cI)) (HF (i:=4) GO.aD rfl (mG rfl)) (a6 (dI (cU am (U 4) (U 2) (by with_unfolding_all rfl)) (a6 (eo (gq iW B' OF Jy (U 3) (aj (hP rfl (eT (U 2)) (gA (sc:=bt vq) rfl (by ac_nf)) (N:=["other","crossing","one"]) (sel:=[none,some 0,some 4]) (gC (M:=yx) (by ac_nf)) (fx.of (fun _ _ _ _=>(cA (i:=0) (eu (N:=["other","crossing","one"]) (by ac_nf) rfl))) (fun _ _ _ _=>⟨_,(v' (lY (cm Jx ao T.LK T.BZ.bN T.Rm (aj (U 1) (aj (U 2) (aj (U 0) aG)))))),by walk_at "B"⟩) (fun _ _ _ _=>⟨_,(cm agT ao T.Vh T.FM.bN T.abw (aj (U 1) (aj (U 2) (aj (U 0) aG)))),by walk_at "B"⟩))) aG)))) d2)))
   (a6 (cg (fJ (tz rfl) rfl T.Gy Ju (aj (U 3) aG)))))))),?_⟩
  refine dc (fun aB I=>aO H I/\aP I/\∃ cB,H cB=none/\I cB=some (.lst ([(0:Int)].map V.int))/\aB=[~~~c,~~~f3,~~~aX,~~~cB,none]) (fun b2 bW=>?_) fun cY aK=>?_
  .nofun;exact ⟨by decide,fun cB jD=>bW _ _ ⟨bE jD,bM.upd,cB,jD,aV,rfl⟩⟩
  rintro f_ H1 ⟨s1,cp,cB,jD,dx,rfl⟩;subst aK;refine dc (fun aB I=>aO H I/\aP I/\I cB=some (.lst (([0] ++ f.map (ry ds)).map V.int))/\aB=[~~~c,~~~f3,~~~aX,~~~cB,none]) (fun b2 bJ=>?_) fun cY aK=>?_
  .nofun;refine ⟨.inl ⟨_,aC.of dx⟩,⟨_,aC.of (s1 _ _ hf)⟩,?_⟩;refine c9.ly (xs:=aW f) (zs:=(f.map (ry ds)).map V.int) (aC.of (s1 _ _ hf)) (by rw [fb];exact c_ mN (by decide)) (by rw [fb,aZ,aZ]) (fun j v z N aI aT br=>?_) (fun pl cR=>?_)
   .unfold aW at aI;obtain ⟨x,ah,rfl⟩:=cy aI;obtain ⟨y,bg,rfl⟩:=cy aT;obtain ⟨fN,ew,rfl⟩:=cy bg;rw [ah] at ew;cases ew;obtain ⟨d,hd,rfl⟩:=fin x (cC ah);obtain ⟨i,ag⟩:=hH hd;have EA:ry ds d.name=l2 d:=by unfold ry;rw [lJ gh ag];rfl
    rw [EA] at br;nofun;refine ⟨Sub.name,_,_,s1 _ _ au,KB _ _ _ (by ac_nf),c,n,ds,i,d,rfl,C.same s1,ag,fun a W=>?_⟩;obtain ⟨t9,PK,qF⟩:=id W;exact ⟨a,rfl,_,_,_,qF,⟨_,t9,rfl⟩,ze (by ac_nf),a,d,rfl,W,rfl,br⟩
   .refine ⟨pl,rfl,_,(bE cR) _ _ dx,_,aV,?_,bJ _ _ ⟨(s1.trans (bE cR)).gf jD,(cp.upd).upd,by rw [aV,eZ],rfl⟩⟩;rw [aZ,aZ,aZ];exact c_ (show _ <= 13 by show 1 + f.length <= 13;omega) (by decide)
  rintro cv aw ⟨s2,cO,eb,rfl⟩;subst aK;refine dc (fun aB I=>aO H I/\aP I/\I cB=some (.lst (([0] ++ f.map (ry ds) ++ s.map (tB ds)).map V.int))/\aB=[~~~c,~~~f3,~~~aX,~~~cB,none]) (fun b2 bJ=>?_) fun cY aK=>?_
  .nofun;refine ⟨.inl ⟨_,aC.of eb⟩,⟨_,aC.of (s2 _ _ av)⟩,?_⟩;refine c9.ly (xs:=aW s) (zs:=(s.map (tB ds)).map V.int) (aC.of (s2 _ _ av)) (by rw [fb];exact c_ j3 (by decide)) (by rw [fb,aZ,aZ]) (fun j v z N aI aT br=>?_) (fun pl cR=>?_)
   .unfold aW at aI;obtain ⟨x,ah,rfl⟩:=cy aI;obtain ⟨y,bg,rfl⟩:=cy aT;obtain ⟨fN,ew,rfl⟩:=cy bg;rw [ah] at ew;cases ew;obtain ⟨d,hd,rfl⟩:=sin x (cC ah);obtain ⟨i,ag⟩:=hH hd;have EA:tB ds d.name=me d:=by unfold tB;rw [lJ gh ag];rfl
    rw [EA] at br;nofun;refine ⟨Sub.name,_,_,s2 _ _ au,KB _ _ _ (by ac_nf),c,n,ds,i,d,rfl,C.same s2,ag,fun a W=>?_⟩;obtain ⟨t9,PK,qF⟩:=id W;exact ⟨a,rfl,_,_,_,qF,⟨_,t9,rfl⟩,ze (by ac_nf),a,d,rfl,W,rfl,br⟩
   .refine ⟨pl,rfl,_,(bE cR) _ _ eb,_,aV,?_,bJ _ _ ⟨(s2.trans (bE cR)).gf jD,(cO.upd).upd,by rw [aV,<- eZ],rfl⟩⟩;rw [aZ,aZ,aZ,dY,aZ];exact c_ (show _ <= 25 by show 1 + f.length + s.length <= 25;omega) (by decide)
  rintro gc bf ⟨s3,dw,hu,rfl⟩;subst aK;refine dc (fun aB I=>aO H I/\aP I/\I cB=some (.lst ((k2 n ds f s).map V.int))/\∃ dF,aB=[~~~c,~~~f3,~~~aX,~~~cB,dF]) (fun b2 bJ=>?_) fun cY aK=>?_
  .nofun;have tg:=C.same s3;refine ⟨_,_,s3 _ _ au,KB _ _ _ (by ac_nf),c,n,ds,rfl,tg,fun dN jI=>⟨dN,rfl,⟨_,aC.of aV⟩,?_⟩⟩;have sB:=s3.trans (bE (o:=.lst (aW (ds.map (·.name)))) jI);have j8:aP (upd bf dN (.lst (aW (ds.map (·.name))))):=dw.upd;have p2:(upd bf dN (.lst (aW (ds.map (·.name))))) dN=some (.lst (aW (ds.map (·.name)))):=aV;have KQ:=(bE (o:=.lst (aW (ds.map (·.name)))) jI) _ _ hu;have aiA:dN ≠ cB:=fun z=>by rw [z,hu] at jI;cases jI
   generalize upd bf dN (.lst (aW (ds.map (·.name))))=kB at sB j8 p2 KQ ⊢;refine dO.list (xs:=aW (ds.map (·.name))) (fun i σ I=>(∃ x,σ=[~~~c,~~~f3,~~~aX,~~~cB,x])/\aO H I/\aP I/\I dN=some (.lst (aW (ds.map (·.name))))/\I cB=some (.lst (([(0:Int)] ++ f.map (ry ds) ++ s.map (tB ds) ++ ((ds.map fun d:a8=>d.name).take i).flatMap (pV n ds s)).map V.int))/\(((ds.map fun d:a8=>d.name).take i).flatMap (pV n ds s)).length <= 12 * i) ?_ ?_ ?_ ?_
   .exact ⟨⟨_,rfl⟩,sB,j8,p2,by rw [oJ,acV,su];exact KQ,by simp⟩
   .rintro i σ I ag bb;ac_rfl
    obtain ⟨_,_,_,e,_⟩:=bb;subst aK;exact aC.of e
   .rintro i v σ I aI bb;ac_rfl
    obtain ⟨⟨dF,rfl⟩,bO,dT,Si,hr,By⟩:=bb;subst aK;unfold aW at aI;obtain ⟨nm,ll,rfl⟩:=cy aI;have abm:=ll;obtain ⟨d,hd,rfl⟩:=cy abm;have ak1:i < 12:=by have:=(b'.mp hd).1;omega
    have ni:=lJ gh hd;simp only [gU,kG,kp];refine dt (!decide (d.name ∈ s)) (fun Q aR=>?_) (fun aa=>?_) (fun aa=>?_)
    .nofun;refine ⟨_,.inl (aC.of (bO _ _ av)),rfl,yO s,?_⟩;rw [BD];exact aR
    .have aa:d.name ∉ s:=by simpa using aa
     have q7:pV n ds s d.name=(s.filter fun y=>oa n ds d.name y).map (s8 ds d.name):=by unfold pV;rw [if_neg aa]
     nofun;refine ⟨.inl ⟨_,aC.of hr⟩,⟨_,aC.of (bO _ _ av)⟩,?_⟩;refine c9.um (xs:=aW s) (ss:=s.map fun y=>if oa n ds d.name y=true then some (V.int (s8 ds d.name y)) else none) (aC.of (bO _ _ av)) (by rw [fb];exact c_ j3 (by decide)) (by rw [fb,aZ]) (fun l v o ys N aI aY br=>?_) (fun pl cR=>?_)
     .unfold aW at aI;obtain ⟨fQ,v9,rfl⟩:=cy aI;obtain ⟨fN,ew,rfl⟩:=cy aY;rw [v9] at ew;cases ew;obtain ⟨e,he,rfl⟩:=sin fQ (cC v9);obtain ⟨j,aJ⟩:=hH he;have vG:=lJ gh aJ;have B0:oa n ds d.name e.name=mt n d e:=by unfold oa;rw [ni,vG]
      have Ye:s8 ds d.name e.name=if d.off - e.near > 0 then d.off - e.near else 0:=by unfold s8;rw [ni,vG]
      rw [B0,Ye] at br;nofun;refine ⟨Sub.name,c,n,ds,i,j,d,e,rfl,C.same bO,a4,hd,aJ,dT,_,rfl,?_⟩;cases AO:mt n d e with
      | true=>
       rw [if_pos rfl];rw [AO,if_pos rfl] at br;exact ⟨c,n,ds,i,j,d,e,rfl,C.same bO,hd,aJ,br⟩
      | false=>
       rw [if_neg (by decide)];rw [AO,if_neg (by decide)] at br;simpa using br
     .rw [P7 (fun y=>oa n ds d.name y) (s8 ds d.name),<- q7];have o_:(pV n ds s d.name).length <= 12:=by rw [q7,aZ];exact c_ (Aq ..) j3
      refine ⟨pl,rfl,_,(bE cR) _ _ hr,_,aV,?_,⟨_,rfl⟩,(bO.trans (bE cR)).gf jD,(dT.upd).upd,by rw [aE aiA];exact (bE cR) _ _ Si,?_,?_⟩
      .rw [aZ,aZ,dY,dY,dY,aZ,aZ];exact c_ (show _ <= 500 by show 1 + f.length + s.length + _ + _ <= 500;omega) (by decide)
      .rw [aV,jt ll,xZ,<- eZ];simp
      .rw [jt ll,xZ,dY,vJ,acV,su];omega
    .have aa:d.name ∈ s:=by simpa using aa
     have q7:pV n ds s d.name=[]:=by unfold pV;rw [if_pos aa]
     simp only [i9];refine ⟨⟨_,rfl⟩,bO,dT,Si,?_,?_⟩
     .rw [jt ll,xZ,vJ,q7];simpa using hr
     .rw [jt ll,xZ,dY,vJ,q7];show _ + 0 <= _;omega
   .rintro σ I bb;ac_rfl
    obtain ⟨⟨dF,rfl⟩,bO,dT,_,hr,_⟩:=bb;subst aK;rw [fb,hB] at hr;exact bJ _ _ ⟨bO,dT,hr,_,rfl⟩
  rintro k8 cN ⟨s4,dT,hr,dF,rfl⟩;subst aK;nofun;obtain ⟨oC,af,ak⟩:=Ia (k2 n ds f s) (by unfold k2;simp);exact ⟨_,aC.of hr,oC,af,ak,q oC cN s4 ⟨af,ak⟩⟩
 .obtain ⟨c,n,ds,f3,aX,f,s,rfl,C,a4,bW,hf,av,fin,sin,mN,j3,bM,q⟩:=h;exact ⟨bM,c,n,ds,f3,aX,f,s,rfl,C,a4,bW,hf,av,fin,sin,mN,j3,bM,fun v I bO aI=>⟨bO,q v aI⟩⟩
noncomputable abbrev pe:List Str:=[ab "crossing",ab "many",ab "leasts",ab "mosts",ab "members",ab "sorts",ab "homes",ab "changes"]
noncomputable def kz (c:Addr) (k:Nat) (le mo c0 cx aY ch:Addr):List (Str × V):=[(ab "crossing",V.ref c),(ab "many",V.int k),(ab "leasts",V.ref le),(ab "mosts",V.ref mo),(ab "members",V.ref c0),(ab "sorts",V.ref cx),(ab "homes",V.ref aY),(ab "changes",V.ref ch)]
theorem pZ (c:Addr) (k:Nat) (le mo c0 cx aY ch:Addr):(kz c k le mo c0 cx aY ch).map (·.1)=pe:=rfl
noncomputable def cV (ds:List a8) (r:ST):Str:=((r.mem.head?.bind (ib ds)).map h2).getD (ab "")
noncomputable def stK (i j:Nat):List Key:=[qr (i:Int),qr (j:Int)]
def jX (n:Int) (ds:List a8) (rows:List ST) (i j:Nat) (kvs:List (List Key × V)):Prop:=kvs.length <= 6 * i + j/\∀ (a b:Nat) (r s:ST),rows[a]? = some r->rows[b]? = some s->a ≠ b->a < i\/(a=i/\b < j)->∃ v,cM kvs (stK a b)=some (.int v)/\rZ (k2 n ds r.mem s.mem) v
section
variable (P:Program) (w:World)
def hs (t:bQ) (H:ar) (a c:Addr) (n:Int) (ds:List a8) (rows:List ST):Prop:=∃ aq le mo c0 cx aY ch ms kvs,H a=some (.ins t.e' aq (kz c rows.length le mo c0 cx aY ch))/\fp t H c n ds/\H le=some (.lst (rows.map fun r=>V.int r.lo))/\H mo=some (.lst (rows.map fun r=>V.int r.ag))/\kV H c0 ms (rows.map (·.mem))/\H cx=some (.lst (aW (rows.map (cV ds))))/\H aY=some (.bu (gN (rows.map (·.mem))))/\ic P w H ch kvs/\jX n ds rows rows.length 0 kvs
def JR (t:bQ):bU:=fun vs H Q _=>∃ a aq c n ds p qs ms rows,vs=[.ref a,.ref c,.ref p]/\H a=some (.ins t.e' aq [])/\fp t H c n ds/\0 < n/\vN ds/\iv H p qs ms rows/\pv ds rows/\(∀ r ∈ rows,r.mem ≠ [])/\aP H /\
 ∀ I,cP a H I->aP I->hs P w t I a c n ds rows->Q .b6 I
end
theorem ag7 (h:stK a b=stK i j):a=i/\b=j:=by
 unfold stK at h;simp at h;omega
theorem jX.nil (n:Int) (ds:List a8) (rows:List ST):jX n ds rows 0 0 []:=⟨fi _,fun a b r s _ _ _ h=>by omega⟩
theorem jX.skip {rows:List ST} (h:jX n ds rows i i kvs):jX n ds rows i (i + 1) kvs:=⟨by have:=h.1;omega,fun a b r s ao av m9 ay=>h.2 a b r s ao av m9 (by omega)⟩
theorem jX.next {rows:List ST} (aL:rows.length <= 6) (h:jX n ds rows i rows.length kvs):jX n ds rows (i + 1) 0 kvs:=⟨by have:=h.1;omega,fun a b r s ao av m9 ay=>h.2 a b r s ao av m9 (by
 have:=(b'.mp av).1
 omega)⟩
theorem aij (kvs:List (List Key × V)) (k:List Key) (v:V):(d5 kvs k v).length <= kvs.length + 1:=by
 unfold d5;split
 .rw [aZ];omega
 .rw [dY];exact cn _
theorem jX.put {rows:List ST} (h:jX n ds rows i j kvs) (ao:rows[i]? = some r) (av:rows[j]? = some s) (aI:rZ (k2 n ds r.mem s.mem) v):jX n ds rows i (j + 1) (d5 kvs (stK i j) (.int v)):=by
 refine ⟨by have:=h.1;have:=aij kvs (stK i j) (.int v);omega,fun a b ei ai dD eP m9 ay=>?_⟩;rw [LM];by_cases c:stK a b=stK i j
 .rw [if_pos c];obtain ⟨rfl,rfl⟩:=ag7 c;rw [ao] at dD;rw [av] at eP;cases dD;cases eP;exact ⟨v,rfl,aI⟩
 .rw [if_neg c];exact h.2 a b ei ai dD eP m9 (by
   rcases ay with z | ⟨fh,eS⟩
   .exact .inl z
   .by_cases z:b=j
    .exact absurd (by rw [fh,z]) c
    .exact .inr ⟨fh,by omega⟩)
theorem iv.t6 {a p C aq:Addr} {rows:List ST} (h:iv H p qs ms rows) (s:cP a H I) (aS:H a=some (.ins C aq [])):iv I p qs ms rows:=by
 refine ⟨s _ _ (bZ h.at_ aS (by intro z;cases z)) h.at_,h.cE,h.dq,fun i q m r x y z=>?_⟩;obtain ⟨au,aH⟩:=h.al i q m r x y z;exact ⟨s _ _ (bZ au aS (by intro z;cases z)) au,s _ _ (bZ aH aS (by intro z;cases z)) aH⟩
theorem Hv {H:ar} {p b C D aq kh:Addr} {x:Str × V} {aN:List (Str × V)} (ax:H p=some (.ins C aq [])) (aa:H b=some (.ins D kh (x :: aN))):b ≠ p:=fun z=>by
 subst z;rw [ax] at aa;cases aa
theorem Yy {t:bQ} {H I:ar} {p a C aq:Addr} {d:a8} (ax:H p=some (.ins C aq [])) (jO:cP p H I) (h:Re t H a d):Re t I a d:=by
 obtain ⟨af,kh,e⟩:=h;exact ⟨af,kh,jO _ _ (Hv ax e) e⟩
theorem F8 {t:bQ} {H I:ar} {p c C aq:Addr} {n:Int} {ds:List a8} (ax:H p=some (.ins C aq [])) (jO:cP p H I) (h:fp t H c n ds):fp t I c n ds:=by
 obtain ⟨h0,kh,wl,aD,au,⟨as,dx,eb,hu⟩,bX⟩:=h;exact ⟨h0,kh,wl,aD,jO _ _ (Hv ax au) au,⟨as,jO _ _ (bZ dx ax (by intro z;cases z)) dx,eb,fun i a d af ak=>Yy ax jO (hu i a d af ak)⟩,jO _ _ (bZ bX ax (by intro z;cases z)) bX⟩
theorem kV.upd {b p:Addr} (h:kV H p ms df) (aa:H b=some u) (bx:∀ xs,u ≠ .lst xs):kV (upd H b o) p ms df:=by
 refine ⟨by rw [aE (bZ h.at_ aa (fun z=>bx _ z.symm))];exact h.at_,h.ln,fun i m x a c=>?_⟩;have e:=h.al i m x a c;rw [aE (bZ e aa (fun z=>bx _ z.symm))];exact e
section
variable {w:World} {K:ba} {mg:Str->Option Value} {t:bQ} {H:ar} {a c aq le mo c0 cx aY ch:Addr} {k:Nat}
theorem Hc (T:Txt w K mg t) (e:H a=some (.ins t.e' aq (kz c k le mo c0 cx aY ch))):fA K H a (ab "many") (.int k):=⟨_,aq,_,e,T.jf,T.NQ,f' pe 1 (pZ ..) (by ac_nf) rfl⟩
theorem FA (T:Txt w K mg t) (e:H a=some (.ins t.e' aq (kz c k le mo c0 cx aY ch))):fA K H a (ab "members") (.ref c0):=⟨_,aq,_,e,T.jf,T.C9,f' pe 4 (pZ ..) (by ac_nf) rfl⟩
theorem Rz (T:Txt w K mg t) (e:H a=some (.ins t.e' aq (kz c k le mo c0 cx aY ch))):fA K H a (ab "changes") (.ref ch):=⟨_,aq,_,e,T.jf,T.PW,f' pe 7 (pZ ..) (by ac_nf) rfl⟩
end
theorem aba:ct P base T 5 t.uV t.x_ BJ (JR P w t):=by
 refine cF (Qr T) fun Bh=>cF (E5 T) fun wZ=>cF (ahT T) fun aah=>?_;exists T.Ri.ok Dg,9
 obtain ⟨a,aq,c,n,ds,p,qs,ms,rows,rfl,aS,C,a4,bW,R,J,cj,bM,q⟩:=h;have bx:=iF ao;have gh:=C.1.1;have iG:(qs.map V.ref).length=rows.length:=by rw [aZ,R.cE]
 have nU:(qs.map V.ref).length <= sizeLine:=by rw [iG];exact c_ J.ln (by decide)
 refine ⟨_,(db (eR (U 0) (U 1) rfl)
   (db (eR (U 0) (fJ hD rfl T.g5 g4 (aj (U 2) aG)) rfl)
   (db (eR (U 0) (hP rfl (eT (U 2)) (gA (sc:=bt tY) rfl (by ac_nf)) (N:=ij) (sel:=[none,none,none]) (gC (M:=vC) (by ac_nf)) (fx.of (fun _ _ _ _=>(l_ (K:=K) (n:=3) rfl rfl (fq (cA (i:=0) (eu (N:=ij) (by ac_nf) rfl)) (fq (cA (i:=1) (eu (N:=ij) (by ac_nf) rfl)) (fq (cA (i:=2) (eu (N:=ij) (by ac_nf) rfl)) Ch))))) (fun _ _ _ _=>⟨_,h4,by walk_at "B"⟩) (fun _ _ _ _=>⟨_,(U 0),by walk_at "B"⟩))) rfl)
   (db (eR (U 0) (hP rfl (eT (U 2)) (gA (sc:=bt tY) rfl (by ac_nf)) (N:=ij) (sel:=[none,none,none]) (gC (M:=vC) (by ac_nf)) (fx.of (fun _ _ _ _=>(l_ (K:=K) (n:=3) rfl rfl (fq (cA (i:=0) (eu (N:=ij) (by ac_nf) rfl)) (fq (cA (i:=1) (eu (N:=ij) (by ac_nf) rfl)) (fq (cA (i:=2) (eu (N:=ij) (by ac_nf) rfl)) Ch))))) (fun _ _ _ _=>⟨_,h4,by walk_at "B"⟩) (fun _ _ _ _=>⟨_,(U 1),by walk_at "B"⟩))) rfl)
   (db (eR (U 0) (hP rfl (eT (U 2)) (gA (sc:=bt tY) rfl (by ac_nf)) (N:=ij) (sel:=[none,none,none]) (gC (M:=vC) (by ac_nf)) (fx.of (fun _ _ _ _=>(l_ (K:=K) (n:=3) rfl rfl (fq (cA (i:=0) (eu (N:=ij) (by ac_nf) rfl)) (fq (cA (i:=1) (eu (N:=ij) (by ac_nf) rfl)) (fq (cA (i:=2) (eu (N:=ij) (by ac_nf) rfl)) Ch))))) (fun _ _ _ _=>⟨_,h4,by walk_at "B"⟩) (fun _ _ _ _=>⟨_,(U 2),by walk_at "B"⟩))) rfl)
   (db (eR (U 0) (hP rfl (eT (U 2)) (gA (sc:=bt tY) rfl (by ac_nf)) (N:=Bu) (sel:=[none,none,none,some 1]) (gC (M:=vC) (by ac_nf)) (fx.of (fun _ _ _ _=>(l_ (K:=K) (n:=3) rfl rfl (fq (cA (i:=0) (eu (N:=Bu) (by ac_nf) rfl)) (fq (cA (i:=1) (eu (N:=Bu) (by ac_nf) rfl)) (fq (cA (i:=2) (eu (N:=Bu) (by ac_nf) rfl)) Ch))))) (fun _ _ _ _=>⟨_,h4,by walk_at "B"⟩) (fun _ _ _ _=>⟨_,(cm Bh ao T.Cd T.ux.bN T.Ik (aj (U 3) (aj (bV c8 (U 2) aM) aG))),by walk_at "B"⟩))) rfl)
   (db (eR (U 0) (cm wZ ao T.Jg T.wM.bN T.DK (aj (bA (U 0) rfl) aG)) rfl)
   (db (eR (U 0) acv rfl)
   (a6 (fz fH rfl (lU rfl T.l1 (aj (bA (U 0) rfl) aG)) (cA (i:=3) Dg.aD) (a6 (fz fH rfl (lU rfl T.l1 (aj (bA (U 0) rfl) aG)) (cA (i:=4) Dg.aD) (a6 (dI (cU o6 (U 3) (U 4) (cc _)) (a6 (afj bx (bA (U 0) rfl) (tE (aj (U 3) (aj (U 4) aG))) (cm aah ao T.acI T.GA.bN T.aaQ (aj (U 1) (aj (bV c8 (bA (U 0) rfl) (U 3)) (aj (bV c8 (bA (U 0) rfl) (U 4)) aG)))) rfl)) d2)))))))))))))),?_⟩
 refine dc (fun aB I=>cP a H I/\aP I/\I a=some (.ins t.e' aq [(ab "crossing",V.ref c)])/\aB=[~~~a,~~~c,~~~p,none,none]) (fun b2 bJ=>?_) fun cY aK=>?_
 .nofun;exact ⟨_,_,_,aS,T.jf,T.J2,by decide,bJ _ _ ⟨fun b u aa e=>by rw [aE aa];exact e,bM.upd,aV,rfl⟩⟩
 rintro f_ H1 ⟨bH,cp,a1,rfl⟩;have jx:=R.t6 bH aS;subst aK;refine dc (fun aB I=>cP a H I/\aP I/\I a=some (.ins t.e' aq [(ab "crossing",V.ref c),(ab "many",V.int (rows.length:Int))])/\aB=[~~~a,~~~c,~~~p,none,none]) (fun b2 bJ=>?_) fun cY aK=>?_
 .nofun;refine ⟨_,.inl (aC.of jx.at_),_,_,_,a1,T.jf,T.NQ,(show (1:Nat) < 1000 by decide),?_⟩;rw [iG,show cZ (ab "many") (V.int (rows.length:Int)) [(ab "crossing",V.ref c)]=[(ab "crossing",V.ref c),(ab "many",V.int (rows.length:Int))] from fV [ab "crossing"] rfl (by ac_nf)];exact bJ _ _ ⟨fun b u aa e=>by rw [aE aa];exact bH _ _ aa e,cp.upd,aV,rfl⟩
 rintro cv aw ⟨fQ,cO,a2,rfl⟩;have e0:=R.t6 fQ aS;subst aK;refine dc (fun aB I=>cP a H I/\aP I/\∃ le,I a=some (.ins t.e' aq [(ab "crossing",V.ref c),(ab "many",V.int (rows.length:Int)),(ab "leasts",V.ref le)])/\I le=some (.lst (rows.map fun r=>V.int r.lo))/\aB=[~~~a,~~~c,~~~p,none,none]) (fun b2 bJ=>?_) fun cY aK=>?_
 .nofun;refine ⟨⟨_,aC.of e0.at_⟩,?_⟩;refine c9.ly (xs:=qs.map V.ref) (zs:=rows.map fun r=>V.int r.lo) (aC.of e0.at_) nU (by rw [iG,aZ]) (fun j v z N aI aT br=>?_) (fun pl cR=>?_)
  .obtain ⟨jK,eC,rfl⟩:=cy aI;have aJ:j < rows.length:=by rw [<- R.cE];exact (b'.mp eC).1
   have kc:ms[j]? = some (ms[j]'(by rw [R.dq];exact aJ)):=bo _;have hp:rows[j]? = some rows[j]:=bo aJ;obtain ⟨e,em⟩:=e0.al j jK _ _ eC kc hp;obtain ⟨r,dD,rfl⟩:=cy aT;rw [hp] at dD;cases dD;nofun;exact ⟨_,di.of e,rfl,_,_,rfl,_,_,rfl,_,_,rfl,rfl,Sub.ub,br⟩
  .have pb:pl ≠ a:=fun z=>by rw [z,a2] at cR;cases cR
   refine ⟨_,_,_,(bE cR) _ _ a2,T.jf,T.RX,(show (2:Nat) < 1000 by decide),?_⟩;rw [show cZ (ab "leasts") (V.ref pl) [(ab "crossing",V.ref c),(ab "many",V.int (rows.length:Int))]=[(ab "crossing",V.ref c),(ab "many",V.int (rows.length:Int)),(ab "leasts",V.ref pl)] from fV [ab "crossing",ab "many"] rfl (by ac_nf)];exact bJ _ _ ⟨fun b u aa e=>by rw [aE aa];exact (bE cR) _ _ (fQ _ _ aa e),(cO.upd).upd,pl,aV,by rw [aE pb];exact aV,rfl⟩
 rintro gc bf ⟨ea,dw,le,f7,eh,rfl⟩;have hle:le ≠ a:=bZ eh f7 (by intro z;cases z);have mh:=R.t6 ea aS;subst aK;refine dc (fun aB I=>cP a H I/\aP I/\∃ mo,I a=some (.ins t.e' aq [(ab "crossing",V.ref c),(ab "many",V.int (rows.length:Int)),(ab "leasts",V.ref le),(ab "mosts",V.ref mo)])/\I le=some (.lst (rows.map fun r=>V.int r.lo))/\I mo=some (.lst (rows.map fun r=>V.int r.ag))/\aB=[~~~a,~~~c,~~~p,none,none]) (fun b2 bJ=>?_) fun cY aK=>?_
 .nofun;refine ⟨⟨_,aC.of mh.at_⟩,?_⟩;refine c9.ly (xs:=qs.map V.ref) (zs:=rows.map fun r=>V.int r.ag) (aC.of mh.at_) nU (by rw [iG,aZ]) (fun j v z N aI aT br=>?_) (fun pl cR=>?_)
  .obtain ⟨jK,eC,rfl⟩:=cy aI;have aJ:j < rows.length:=by rw [<- R.cE];exact (b'.mp eC).1
   have kc:ms[j]? = some (ms[j]'(by rw [R.dq];exact aJ)):=bo _;have hp:rows[j]? = some rows[j]:=bo aJ;obtain ⟨e,em⟩:=mh.al j jK _ _ eC kc hp;obtain ⟨r,dD,rfl⟩:=cy aT;rw [hp] at dD;cases dD;nofun;exact ⟨_,di.of e,rfl,_,_,rfl,_,_,rfl,_,_,rfl,rfl,Sub.ub,br⟩
  .have pb:pl ≠ a:=fun z=>by rw [z,f7] at cR;cases cR
   refine ⟨_,_,_,(bE cR) _ _ f7,T.jf,T.L1,(show (3:Nat) < 1000 by decide),?_⟩;rw [show cZ (ab "mosts") (V.ref pl) [(ab "crossing",V.ref c),(ab "many",V.int (rows.length:Int)),(ab "leasts",V.ref le)]=[(ab "crossing",V.ref c),(ab "many",V.int (rows.length:Int)),(ab "leasts",V.ref le),(ab "mosts",V.ref pl)] from fV [ab "crossing",ab "many",ab "leasts"] rfl (by ac_nf)];exact bJ _ _ ⟨fun b u aa e=>by rw [aE aa];exact (bE cR) _ _ (ea _ _ aa e),(dw.upd).upd,pl,aV,by rw [aE hle];exact (bE cR) _ _ eh,by rw [aE pb];exact aV,rfl⟩
 rintro k8 cN ⟨dF,dT,mo,oi,f4,tl,rfl⟩;have q1:mo ≠ a:=bZ tl oi (by intro z;cases z);have l9:=R.t6 dF aS;subst aK;refine dc (fun aB I=>cP a H I/\aP I/\∃ c0,I a=some (.ins t.e' aq [(ab "crossing",V.ref c),(ab "many",V.int (rows.length:Int)),(ab "leasts",V.ref le),(ab "mosts",V.ref mo),(ab "members",V.ref c0)])/\I le=some (.lst (rows.map fun r=>V.int r.lo))/\I mo=some (.lst (rows.map fun r=>V.int r.ag))/\I c0=some (.lst (ms.map V.ref))/\aB=[~~~a,~~~c,~~~p,none,none]) (fun b2 bJ=>?_) fun cY aK=>?_
 .nofun;refine ⟨⟨_,aC.of l9.at_⟩,?_⟩;refine c9.ly (xs:=qs.map V.ref) (zs:=ms.map V.ref) (aC.of l9.at_) nU (by rw [iG,aZ,R.dq]) (fun j v z N aI aT br=>?_) (fun pl cR=>?_)
  .obtain ⟨jK,eC,rfl⟩:=cy aI;have aJ:j < rows.length:=by rw [<- R.cE];exact (b'.mp eC).1
   have kc:ms[j]? = some (ms[j]'(by rw [R.dq];exact aJ)):=bo _;have hp:rows[j]? = some rows[j]:=bo aJ;obtain ⟨e,em⟩:=l9.al j jK _ _ eC kc hp;obtain ⟨dm,rd,rfl⟩:=cy aT;rw [kc] at rd;cases rd;nofun;exact ⟨_,di.of e,rfl,_,_,rfl,_,_,rfl,_,_,rfl,rfl,Sub.ub,br⟩
  .have pb:pl ≠ a:=fun z=>by rw [z,oi] at cR;cases cR
   refine ⟨_,_,_,(bE cR) _ _ oi,T.jf,T.C9,(show (4:Nat) < 1000 by decide),?_⟩;rw [show cZ (ab "members") (V.ref pl) [(ab "crossing",V.ref c),(ab "many",V.int (rows.length:Int)),(ab "leasts",V.ref le),(ab "mosts",V.ref mo)]=[(ab "crossing",V.ref c),(ab "many",V.int (rows.length:Int)),(ab "leasts",V.ref le),(ab "mosts",V.ref mo),(ab "members",V.ref pl)] from fV [ab "crossing",ab "many",ab "leasts",ab "mosts"] rfl (by ac_nf)];exact bJ _ _ ⟨fun b u aa e=>by rw [aE aa];exact (bE cR) _ _ (dF _ _ aa e),(dT.upd).upd,pl,aV,by rw [aE hle];exact (bE cR) _ _ f4,by rw [aE q1];exact (bE cR) _ _ tl,by rw [aE pb];exact aV,rfl⟩
 rintro qN dJ ⟨eA,iH,c0,vx,eI,Q5,eF,rfl⟩;have p_:c0 ≠ a:=bZ eF vx (by intro z;cases z);have Ig:=F8 aS eA C;have pU:=R.t6 eA aS;subst aK;refine dc (fun aB I=>cP a H I/\aP I/\∃ cx,I a=some (.ins t.e' aq [(ab "crossing",V.ref c),(ab "many",V.int (rows.length:Int)),(ab "leasts",V.ref le),(ab "mosts",V.ref mo),(ab "members",V.ref c0),(ab "sorts",V.ref cx)])/\I le=some (.lst (rows.map fun r=>V.int r.lo))/\I mo=some (.lst (rows.map fun r=>V.int r.ag))/\I c0=some (.lst (ms.map V.ref))/\I cx=some (.lst (aW (rows.map (cV ds))))/\aB=[~~~a,~~~c,~~~p,none,none]) (fun b2 bJ=>?_) fun cY aK=>?_
 .nofun;refine ⟨⟨_,aC.of pU.at_⟩,?_⟩;refine c9.ly (xs:=qs.map V.ref) (zs:=aW (rows.map (cV ds))) (aC.of pU.at_) nU (by rw [iG,fb,aZ]) (fun j v z N aI aT br=>?_) (fun pl cR=>?_)
  .obtain ⟨jK,eC,rfl⟩:=cy aI;have aJ:j < rows.length:=by rw [<- R.cE];exact (b'.mp eC).1
   have kc:ms[j]? = some (ms[j]'(by rw [R.dq];exact aJ)):=bo _;have hp:rows[j]? = some rows[j]:=bo aJ;obtain ⟨e,em⟩:=pU.al j jK _ _ eC kc hp;unfold aW at aT;obtain ⟨y,bg,rfl⟩:=cy aT;obtain ⟨r,dD,rfl⟩:=cy bg;rw [hp] at dD;cases dD;obtain ⟨nm,alb,kM⟩:=qM (cj _ (cC hp));obtain ⟨d,hd,s'⟩:=J.vd _ (cC hp) nm (by rw [kM];exact l6 ..);obtain ⟨i,ag⟩:=hH hd;have afD:cV ds rows[j]=h2 d:=by
    unfold cV;rw [kM];show ((ib ds nm).map h2).getD _=_;rw [<- s',lJ gh ag];rfl
   rw [afD] at br;rw [kM] at em;nofun;exact ⟨_,di.of e,rfl,_,_,rfl,_,_,rfl,_,_,rfl,rfl,Sub.ub,_,rfl,_,aC.of em,_,Db (j:=0) rfl,c,n,ds,i,d,by rw [s'],Ig,ag,(bW d hd).2.1,br⟩
  .have pb:pl ≠ a:=fun z=>by rw [z,vx] at cR;cases cR
   refine ⟨_,_,_,(bE cR) _ _ vx,T.jf,T.LG,(show (5:Nat) < 1000 by decide),?_⟩;rw [show cZ (ab "sorts") (V.ref pl) [(ab "crossing",V.ref c),(ab "many",V.int (rows.length:Int)),(ab "leasts",V.ref le),(ab "mosts",V.ref mo),(ab "members",V.ref c0)]=[(ab "crossing",V.ref c),(ab "many",V.int (rows.length:Int)),(ab "leasts",V.ref le),(ab "mosts",V.ref mo),(ab "members",V.ref c0),(ab "sorts",V.ref pl)] from fV [ab "crossing",ab "many",ab "leasts",ab "mosts",ab "members"] rfl (by ac_nf)];exact bJ _ _ ⟨fun b u aa e=>by rw [aE aa];exact (bE cR) _ _ (eA _ _ aa e),(iH.upd).upd,pl,aV,by rw [aE hle];exact (bE cR) _ _ eI,by rw [aE q1];exact (bE cR) _ _ Q5,by rw [aE p_];exact (bE cR) _ _ eF,by rw [aE pb];exact aV,rfl⟩
 rintro mq iQ ⟨ey,m5,cx,qD,m8,NO,h5,M7,rfl⟩;have nt:cx ≠ a:=bZ M7 qD (by intro z;cases z);have AM:=R.t6 ey aS;have Lq:kV iQ c0 ms (rows.map (·.mem)):=⟨h5,by rw [R.dq,aZ],fun i m x hm ah=>by
  obtain ⟨r,dD,rfl⟩:=cy ah;have gV:qs[i]? = some (qs[i]'(by rw [R.cE];exact (b'.mp dD).1)):=bo _;exact (AM.al i _ m r gV hm dD).2⟩
 subst aK;refine dc (fun aB I=>cP a H I/\aP I/\∃ aY,I a=some (.ins t.e' aq [(ab "crossing",V.ref c),(ab "many",V.int (rows.length:Int)),(ab "leasts",V.ref le),(ab "mosts",V.ref mo),(ab "members",V.ref c0),(ab "sorts",V.ref cx),(ab "homes",V.ref aY)])/\I le=some (.lst (rows.map fun r=>V.int r.lo))/\I mo=some (.lst (rows.map fun r=>V.int r.ag))/\kV I c0 ms (rows.map (·.mem))/\I cx=some (.lst (aW (rows.map (cV ds))))/\I aY=some (.bu (gN (rows.map (·.mem))))/\aB=[~~~a,~~~c,~~~p,none,none]) (fun b2 bJ=>?_) fun cY aK=>?_
 .nofun;refine ⟨_,⟨_,aq,_,qD,T.jf,T.C9,f' [ab "crossing",ab "many",ab "leasts",ab "mosts",ab "members",ab "sorts"] 4 rfl (by ac_nf) rfl⟩,c0,ms,rows.map (·.mem),rfl,Lq,by rw [aZ];exact J.ln,fun x ah=>?_,fun h H1 s1 adS dr af=>?_⟩
  .obtain ⟨r,dD,rfl⟩:=bK.mp ah;exact J.fU r dD
  .have CP:h ≠ a:=bZ af (s1 _ _ qD) (by intro z;cases z);refine ⟨_,_,_,s1 _ _ qD,T.jf,T.Sr,(show (6:Nat) < 1000 by decide),?_⟩;rw [show cZ (ab "homes") (V.ref h) [(ab "crossing",V.ref c),(ab "many",V.int (rows.length:Int)),(ab "leasts",V.ref le),(ab "mosts",V.ref mo),(ab "members",V.ref c0),(ab "sorts",V.ref cx)]=[(ab "crossing",V.ref c),(ab "many",V.int (rows.length:Int)),(ab "leasts",V.ref le),(ab "mosts",V.ref mo),(ab "members",V.ref c0),(ab "sorts",V.ref cx),(ab "homes",V.ref h)] from fV [ab "crossing",ab "many",ab "leasts",ab "mosts",ab "members",ab "sorts"] rfl (by ac_nf)];exact bJ _ _ ⟨fun b u aa e=>by rw [aE aa];exact s1 _ _ (ey _ _ aa e),(adS m5).upd,h,aV,by rw [aE hle];exact s1 _ _ m8,by rw [aE q1];exact s1 _ _ NO,(Lq.same s1).upd (s1 _ _ qD) (by intro xs z;cases z),by rw [aE nt];exact s1 _ _ M7,by rw [aE CP];exact af,rfl⟩
 rintro ka hL ⟨dV,mK,aY,o3,kX,Eh,z8,MZ,D8,rfl⟩;subst aK;refine dc (fun aB I=>cP a H I/\aP I/\∃ ch,H ch=none/\I a=some (.ins t.e' aq (kz c rows.length le mo c0 cx aY ch))/\I le=some (.lst (rows.map fun r=>V.int r.lo))/\I mo=some (.lst (rows.map fun r=>V.int r.ag))/\kV I c0 ms (rows.map (·.mem))/\I cx=some (.lst (aW (rows.map (cV ds))))/\I aY=some (.bu (gN (rows.map (·.mem))))/\ic P w I ch []/\(ch ≠ a/\ch ≠ le/\ch ≠ mo/\ch ≠ c0/\ch ≠ cx/\ch ≠ aY/\ch ∉ ms)/\aB=[~~~a,~~~c,~~~p,none,none]) (fun b2 bJ=>?_) fun cY aK=>?_
 .nofun;intro ch o hn ahC;have wJ:ch ≠ a:=fun z=>by rw [z,o3] at hn;cases hn
  have ahK:H ch=none:=by
   cases e:H ch with
   | none=>rfl
   | some u=>rw [dV _ _ wJ e] at hn;cases hn
  have tN:∀ {b:Addr} {u:gj},hL b=some u->ch ≠ b:=fun e z=>by rw [<- z,hn] at e;cases e
  have ab5:ch ∉ ms:=fun z=>by
   obtain ⟨i,ag⟩:=hH z;have jY:i < (rows.map (·.mem)).length:=by rw [<- z8.ln];exact (b'.mp ag).1
   exact tN (z8.al i ch _ ag (bo jY)) rfl
  have jM:aO hL (upd hL ch (.ext (nT ch o))):=bE hn;refine ⟨_,_,_,jM _ _ o3,T.jf,T.PW,(show (7:Nat) < 1000 by decide),?_⟩;rw [show cZ (ab "changes") (V.ref ch) [(ab "crossing",V.ref c),(ab "many",V.int (rows.length:Int)),(ab "leasts",V.ref le),(ab "mosts",V.ref mo),(ab "members",V.ref c0),(ab "sorts",V.ref cx),(ab "homes",V.ref aY)]=kz c rows.length le mo c0 cx aY ch from fV [ab "crossing",ab "many",ab "leasts",ab "mosts",ab "members",ab "sorts",ab "homes"] rfl (by ac_nf)];have CP:aY ≠ a:=bZ D8 o3 (by intro z;cases z);exact bJ _ _ ⟨fun b u aa e=>by rw [aE aa];exact jM _ _ (dV _ _ aa e),(mK.upd).upd,ch,ahK,aV,by rw [aE hle];exact jM _ _ kX,by rw [aE q1];exact jM _ _ Eh,(z8.same jM).upd (jM _ _ o3) (by intro xs z;cases z),by rw [aE nt];exact jM _ _ MZ,by rw [aE CP];exact jM _ _ D8,agl ahC (dW wJ) (fun xs z=>by rw [jM _ _ o3] at z;cases z),⟨wJ,tN kX,tN Eh,tN z8.at_,tN MZ,tN D8,ab5⟩,rfl⟩
 rintro t4 iT ⟨dk,xh,ch,hn,sA,f8,YC,Xl,ab7,aiz,X4,sy,rfl⟩;subst aK;nofun;have gy:=J.ln;refine ⟨_,Hc T sA,_,rfl,by omega,by omega,?_⟩;rw [nL];refine dO.range (fun i σ I=>(∃ x y,σ=[~~~a,~~~c,~~~p,x,y])/\cP a H I/\aP I/\I a=some (.ins t.e' aq (kz c rows.length le mo c0 cx aY ch))/\I le=some (.lst (rows.map fun r=>V.int r.lo))/\I mo=some (.lst (rows.map fun r=>V.int r.ag))/\kV I c0 ms (rows.map (·.mem))/\I cx=some (.lst (aW (rows.map (cV ds))))/\I aY=some (.bu (gN (rows.map (·.mem))))/\∃ kvs,ic P w I ch kvs/\jX n ds rows i 0 kvs) ⟨⟨_,_,rfl⟩,dk,xh,sA,f8,YC,Xl,ab7,aiz,[],X4,jX.nil n ds rows⟩ ?_ ?_
 .rintro i σ I ag bb;ac_rfl
  obtain ⟨⟨x,y,rfl⟩,mR,CE,zI,CI,Fy,w5,E3,JK,kvs,Gf,Gk⟩:=bb;have i7:rows[i]? = some rows[i]:=bo ag;have pG:ms[i]? = some (ms[i]'(by rw [R.dq];exact ag)):=bo _;subst aK;nofun;refine ⟨_,Hc T zI,_,rfl,by omega,by omega,?_⟩;rw [nL];refine dO.range (fun j σ aw=>(∃ y,σ=[~~~a,~~~c,~~~p,some (.int (i:Int)),y])/\cP a H aw/\aP aw/\aw a=some (.ins t.e' aq (kz c rows.length le mo c0 cx aY ch))/\aw le=some (.lst (rows.map fun r=>V.int r.lo))/\aw mo=some (.lst (rows.map fun r=>V.int r.ag))/\kV aw c0 ms (rows.map (·.mem))/\aw cx=some (.lst (aW (rows.map (cV ds))))/\aw aY=some (.bu (gN (rows.map (·.mem))))/\∃ kvs,ic P w aw ch kvs/\jX n ds rows i j kvs) ⟨⟨_,rfl⟩,mR,CE,zI,CI,Fy,w5,E3,JK,kvs,Gf,Gk⟩ ?_ ?_
  .rintro j σ aw aJ bb;ac_rfl
   obtain ⟨⟨y,rfl⟩,h7,v_,r',sk,x6,nH,zH,xr,kvs,xF,vR⟩:=bb;have hp:rows[j]? = some rows[j]:=bo aJ;have kc:ms[j]? = some (ms[j]'(by rw [R.dq];exact aJ)):=bo _;have afc:=nH.al i _ _ pG (by rw [c5,i7];rfl);have afI:=nH.al j _ _ kc (by rw [c5,hp];rfl);have r2:=Db (xs:=ms.map V.ref) (j:=i) (by rw [c5,pG];rfl);have FT:=Db (xs:=ms.map V.ref) (j:=j) (by rw [c5,kc];rfl);subst aK;simp only [gU,kG,kp,o8];by_cases nV:i=j
   .refine dt false (fun Q aR=>?_) (fun z=>nomatch z) (fun _=>?_)
    .nofun;rw [decide_eq_true (by omega)];exact aR
    .simp only [i9];subst nV;exact ⟨⟨_,rfl⟩,h7,v_,r',sk,x6,nH,zH,xr,kvs,xF,vR.skip⟩
   .refine dt true (fun Q aR=>?_) (fun _=>?_) (fun z=>nomatch z)
    .nofun;rw [decide_eq_false (by omega)];exact aR
    .nofun;obtain ⟨wJ,Ur,ZE,T6,U0,Zt,afq⟩:=sy;refine ⟨_,FA T r',_,rfl,_,aC.of nH.at_,_,r2,_,FA T r',_,rfl,_,aC.of nH.at_,_,FT,c,n,ds,_,_,_,_,rfl,F8 aS h7 C,a4,bW,afc,afI,J.vd _ (cC i7),J.vd _ (cC hp),J.fU _ (cC i7),J.fU _ (cC hp),v_,fun v aI=>?_⟩;refine ⟨_,Rz T r',by decide,fun i' nC=>⟨ch,rfl,kvs,Gl xF (bE nC),stK i j,(show upd aw i' (.tup [V.int (i:Int),V.int (j:Int)]) i'=some (gj.tup [V.int (i:Int),V.int (j:Int)]) from aV),gW (show kvs.length <= 100 by have:=vR.1;omega) (by decide),fun o Fb=>?_⟩⟩;have pD:aO aw (upd aw i' (.tup [V.int (i:Int),V.int (j:Int)])):=bE nC;refine ⟨⟨_,rfl⟩,fun b u aa e=>by rw [aE (dy e hn)];exact pD _ _ (h7 _ _ aa e),(v_.upd).upd,by rw [aE (dW wJ)];exact pD _ _ r',by rw [aE (dW Ur)];exact pD _ _ sk,by rw [aE (dW ZE)];exact pD _ _ x6,⟨by rw [aE (dW T6)];exact pD _ _ nH.at_,nH.ln,fun k m x hm ah=>by rw [aE (fun z=>afq (by rw [<- z];exact cC hm))];exact pD _ _ (nH.al k m x hm ah)⟩,by rw [aE (dW U0)];exact pD _ _ zH,by rw [aE (dW Zt)];exact pD _ _ xr,_,Fb,vR.put i7 hp aI⟩
  .rintro σ aw bb;ac_rfl
   obtain ⟨⟨y,rfl⟩,h7,v_,r',sk,x6,nH,zH,xr,kvs,xF,vR⟩:=bb;subst aK;exact ⟨⟨_,_,rfl⟩,h7,v_,r',sk,x6,nH,zH,xr,kvs,xF,vR.next gy⟩
 .rintro σ I bb;ac_rfl
  obtain ⟨⟨x,y,rfl⟩,mR,CE,zI,CI,Fy,w5,E3,JK,kvs,Gf,Gk⟩:=bb;subst aK;exact q _ mR CE ⟨aq,le,mo,c0,cx,aY,ch,ms,kvs,zI,F8 aS mR C,CI,Fy,w5,E3,JK,Gf,Gk⟩
noncomputable def rb (ds:List a8):List (List Str)->Nat->List ST->Except (Nat × Nat) (List ST)
 | [],_,rows=>.ok rows
 | ws :: r,i,rows=>if rows.length=6 then .error (i,0) else match pa ds rows ws with
  | .error k=>.error (i,k)
  | .ok s=>rb ds r (i + 1) (rows ++ [s])
def Zq (P:Program) (w:World) (t:bQ):bU:=fun vs H Q _=>∃ c n ds x rows,vs=[.ref c,.str x]/\fp t H c n ds/\0 < n/\vN ds/\(∀ d ∈ ds,d.name ≠ ab "")/\x.length <= 20000/\(g6 x).length <= 100/\(∀ r ∈ g6 x,r ≠ []/\r.length <= 1000/\∀ y ∈ r,y.length <= 1000)/\aP H /\
 rb ds (g6 x) 0 []=.ok rows/\gE ds rows=[]/\tV ds rows=none/\sg n ds rows=none/\∀ a I,aO H I->aP I->hs P w t I a c n ds rows->Q (.ref a) I
theorem aeb {left ws ms:List Str} (h:lg ds left ws=.ok ms):ms ≠ []/\ms.Nodup/\∀ x ∈ ms,x ∈ left:=by
 unfold lg at h;split at h
 .rename_i gp;obtain ⟨af,⟨more,ak⟩,a9⟩:=ON h (by simp);refine ⟨by rw [ak];simp,af,fun x ah=>?_⟩;rcases a9 x ah with z | z
  .rw [d8.mp z];exact gp
  .exact (iY.mp z).1
 .cases h
theorem N7 {rows:List ST} (h:pa ds rows ws=.ok s):s.mem ≠ []/\s.mem.Nodup/\∀ x ∈ s.mem,x ∈ gE ds rows:=by
 unfold pa at h;split at h
 .cases au:kd (aA ws 1) 1 60 with
  | none=>rw [au] at h;cases h
  | some lo=>
   rw [au] at h;replace h:((kd (aA ws 2) lo 60).elim (.error 2) fun ag=>match lg ds (gE ds rows) ws with | .error k=>.error k | .ok ms=>.ok (⟨lo,ag,ms⟩:ST))=pR s:=h;cases aH:kd (aA ws 2) lo 60 with
   | none=>rw [aH] at h;cases h
   | some ag=>
    rw [aH] at h;replace h:(match lg ds (gE ds rows) ws with | .error k=>.error k | .ok ms=>.ok (⟨lo,ag,ms⟩:ST))=pR s:=h;cases bX:lg ds (gE ds rows) ws with
    | error k=>rw [bX] at h;cases h
    | ok ms=>
     rw [bX] at h;replace h:pR (⟨lo,ag,ms⟩:ST)=pR (ε:=Nat) s:=h;cases h;exact aeb bX
 .cases h
theorem pv.snoc {rows:List ST} (J:pv ds rows) (aL:ds.length <= 12) (h5:rows.length ≠ 6) (h:pa ds rows ws=.ok s):pv ds (rows ++ [s])/\s.mem.length <= 12:=by
 obtain ⟨af,ak,a9⟩:=N7 h;have om:s.mem.length <= 12:=by
  have:=SN ak a9;have cW:(gE ds rows).length <= ds.length:=by
   unfold gE;exact c_ (Aq ..) (by rw [aZ];exact cn _)
  omega
 refine ⟨⟨?_,fun r ao=>?_,fun r ao x ah=>?_⟩,om⟩
 .have:=J.ln;rw [dY];show rows.length + 1 <= 6;omega
 .rcases eG.mp ao with z | z
  .exact J.fU r z
  .rw [d8.mp z];exact om
 .rcases eG.mp ao with z | z
  .exact J.vd r z x ah
  .rw [d8.mp z] at ah;obtain ⟨d,hd,e⟩:=bK.mp (iY.mp (a9 x ah)).1;exact ⟨d,hd,e⟩
theorem JO {xs:List Str} {qs:List Addr} (h:xs ≠ []):aW xs ≠ qs.map V.ref:=fun e=>by
 obtain ⟨y,r,rfl⟩:=qM h;cases qs with
 | nil=>cases e
 | cons a b=>injection e with au _;cases au
theorem iv.snoc {p x m:Addr} {rows:List ST} (R:iv H p qs ms rows) (ah:H x=some (D6 s m)) (hm:H m=some (.lst (aW s.mem))) (cj:∀ r ∈ rows,r.mem ≠ []) (av:s.mem ≠ []):iv (upd H p (.lst (qs.map V.ref ++ [V.ref x]))) p (qs ++ [x]) (ms ++ [m]) (rows ++ [s]):=by
 have kt:∀ {b:Addr} {xs:List V},H b=some (.tup xs)->upd H p (.lst (qs.map V.ref ++ [V.ref x])) b=some (.tup xs):=fun e=>by rw [aE (bZ e R.at_ (by intro z;cases z))];exact e
 have OT:∀ {b:Addr} {xs:List Str},H b=some (.lst (aW xs))->xs ≠ []->upd H p (.lst (qs.map V.ref ++ [V.ref x])) b=some (.lst (aW xs)):=fun e h=>by
  rw [aE (bZ e R.at_ (fun z=>by injection z with z;exact JO h z))];exact e
 refine ⟨by rw [aV,eZ];rfl,by rw [dY,dY,R.cE];rfl,by rw [dY,dY,R.dq];rfl,fun i q dm r a b c=>?_⟩;have cE:=R.cE;have dq:=R.dq;rcases lW c with ⟨cu,cS⟩ | ⟨cu,rfl⟩
 .rcases lW a with ⟨_,a2⟩ | ⟨a1,_⟩
  .rcases lW b with ⟨_,fT⟩ | ⟨f5,_⟩
   .obtain ⟨au,aH⟩:=R.al i q dm r a2 fT cS;exact ⟨kt au,OT aH (cj r (cC cS))⟩
   .omega
  .omega
 .rcases lW a with ⟨a1,_⟩ | ⟨_,rfl⟩
  .omega
  .rcases lW b with ⟨f5,_⟩ | ⟨_,rfl⟩
   .omega
   .exact ⟨kt ah,OT hm av⟩
theorem Xk:ct P base T 7 t.Uf t.ug vT (Zq P w t):=by
 have Hh:cH P w K mg base dC 6 t.uL t.wB ["text"] (Cx t):=(SK T).mono (by decide);have aa2:cH P w K mg base dC 6 t.xT t.z6 Ab (OV t):=Zj T;have US:cH P w K mg base dC 6 t.zh t.Ac ke (MG t):=(agH T).mono (by decide);have Wx:cH P w K mg base dC 6 t.z3 t.zW ke (Sb t):=(Tr T).mono (by decide);have XP:cH P w K mg base dC 6 t.A2 t.BA ke (NK t):=(UF T).mono (by decide);have aea:cH P w K mg base dC 5 t.uV t.x_ BJ (JR P w t):=aba T;exists T.F_.ok CQ,9
 obtain ⟨c,n,ds,x,yT,rfl,C,a4,bW,cj,hV,gy,m4,bM,ZQ,hle,d4,de,j9⟩:=h;have TR:∀ d ∈ ds,d.k < 3/\d.name ≠ ab "" := fun d hd=>⟨(bW d hd).2.1,cj d hd⟩
 refine ⟨_,(db (b7 (i:=2) CQ.aD (gK aG))
   (db (fz fH rfl (eT (cm Hh ao T.Lc T.Op.bN T.O7 (aj (U 1) aG))) (cA (i:=3) CQ.aD) (db (dI (cU ep (fJ hD rfl T.g5 g4 (aj (U 2) aG)) (lA rfl T.aik T.Vq) (cc _)) (a6 nG) d2)
   (a6 (eo (gq iW lh mi lD (U 2) (aj (cm aa2 ao T.aiH T.Tl.bN T.TH (aj (U 3) (aj (U 0) (aj (U 2) aG)))) aG))))))
   (db (eo (cm US ao T.W7 T.Hb.bN T.WR (aj (U 0) (aj (U 2) aG))))
   (db (eo (cm Wx ao T.Yn T.IV.bN T.aiy (aj (U 0) (aj (U 2) aG))))
   (db (eo (cm XP ao T.abe T.Eg.bN T.SP (aj (U 0) (aj (U 2) aG))))
   (a6 (cg (rS T.ZI aea ao rfl T.Ze T.agh .nil cI (aj (U 0) (aj (U 2) aG)))))))))),?_⟩
 refine dc (fun aB I=>aO H I/\aP I/\∃ dv,H dv=none/\I dv=some (.lst [])/\aB=[~~~c,some (.str x),~~~dv,none]) (fun b2 bJ=>?_) fun cY aK=>?_
 .nofun;exact ⟨fi _,fun dv gy=>bJ _ _ ⟨bE gy,bM.upd,dv,gy,aV,rfl⟩⟩
 rintro f_ H1 ⟨s1,cp,dv,xl,dx,rfl⟩;subst aK;simp only [dE];refine ra (fun aB I=>aO H I/\aP I/\(∃ qs ms rows,iv I dv qs ms rows/\pv ds rows/\(∀ r ∈ rows,r.mem ≠ [])/\rows=yT)/\∃ ea,aB=[~~~c,some (.str x),~~~dv,ea]) (fun b2 bJ md _ _=>?_) ?_
 .nofun;refine ⟨x,rfl,hV,fun r ao=>(m4 r ao).2,cp,fun p aw vy n7 RR=>?_⟩;obtain ⟨kD,ax,g_,nU,Bb⟩:=RR;refine ⟨p,rfl,⟨_,aC.of ax⟩,?_⟩;have W0:p ≠ dv:=fun z=>by rw [z,dx] at g_;cases g_
  refine dO.list (xs:=kD.map V.ref) (fun i σ I=>(∃ y,σ=[~~~c,some (.str x),~~~dv,y])/\aP I/\aO H I/\I p=some (.lst (kD.map V.ref)) /\
   (∃ qs ms rows,iv I dv qs ms rows/\pv ds rows/\(∀ r ∈ rows,r.mem ≠ [])/\rb ds ((g6 x).drop i) i rows=.ok yT) /\
   ∀ (j:Nat) (q:Addr) (r:List Str),i <= j->kD[j]? = some q->(g6 x)[j]? = some r->c3 t I q ((j:Nat):Int) r 0/\H q=none) ?_ ?_ ?_ ?_
  .refine ⟨⟨_,rfl⟩,n7,s1.trans vy,ax,⟨[],[],[],⟨vy _ _ dx,rfl,rfl,fun i q m r h=>by simp at h⟩,⟨fi _,fun r h=>by simp at h,fun r h=>by simp at h⟩,fun r h=>by simp at h,ZQ⟩,fun j q r _ af ak=>?_⟩;obtain ⟨nk,eC⟩:=Bb j q r af ak;exact ⟨nk,s1.free eC⟩
  .rintro i σ I ag bb;ac_rfl
   obtain ⟨_,_,_,h,_⟩:=bb;subst aK;exact aC.of h
  .rintro i v σ I aI bb;ac_rfl
   obtain ⟨⟨y,rfl⟩,mC,ph,oR,⟨qs,ms,rows,r6,gS,p_,d9⟩,Rs⟩:=bb;obtain ⟨q,a0,rfl⟩:=cy aI;obtain ⟨ag,_⟩:=b'.mp a0;have k_:i < (g6 x).length:=by omega
   have ao:(g6 x)[i]? = some (g6 x)[i]:=bo k_;obtain ⟨mL,iG⟩:=Rs i q _ (cn _) a0 ao;obtain ⟨_,B7,ajV,gV,xM⟩:=id mL;subst aK;rw [rj k_] at d9;unfold rb at d9;simp only [gU,dE,kG,kp];refine G6 (fun aB bf=>bf=I/\rows.length ≠ 6/\aB=[~~~c,some (.str x),~~~dv,~~~q]) (fun akm Fb=>?_) fun cY aK=>?_
   .refine dt (decide (rows.length=6)) (fun gM aR=>?_) (fun aa=>?_) (fun aa=>?_)
    .nofun;refine ⟨_,.inl (aC.of r6.at_),?_⟩;rw [aZ,r6.cE];rw [show decide ((rows.length:Int)=6)=decide (rows.length=6) from decide_eq_decide.mpr (by omega)];exact aR
    .have aa:=of_decide_eq_true aa;rw [if_pos aa] at d9;cases d9
    .simp only [i9];exact Fb _ _ ⟨rfl,of_decide_eq_false aa,rfl⟩
   rintro gc bf ⟨rfl,h5,rfl⟩;subst aK;rw [if_neg h5] at d9;cases n_:pa ds rows (g6 x)[i] with
   | error k=>rw [n_] at d9;cases d9
   | ok s=>
    rw [n_] at d9;replace d9:rb ds ((g6 x).drop (i + 1)) (i + 1) (rows ++ [s])=.ok yT:=d9;nofun;refine ⟨.inl ⟨_,aC.of r6.at_⟩,q,_,(g6 x)[i],c,n,ds,dv,qs,ms,rows,s,rfl,mL,C.same ph,TR,r6,gS.ln,gS.fU,mC,n_,?_⟩;intro fN m cN s4 Ek Wq IQ aj4 ai0;have M5:=(N7 n_).1;have l9:=r6.uH s4 mL;have UQ:aO H cN:=uB ph s4 iG;have afz:=gS.snoc C.1.2 h5 n_;have By:=gS.ln;refine ⟨_,l9.at_,gW (show (qs.map V.ref).length <= 6 by rw [aZ,l9.cE];exact By) (by decide),⟨_,rfl⟩,Ek.upd,UQ.gf xl,by rw [aE W0];exact s4 _ _ (bZ oR gV (by intro z;cases z)) oR,⟨qs ++ [fN],ms ++ [m],rows ++ [s],l9.snoc Wq IQ p_ M5,afz.1,fun r dD=>?_,d9⟩,fun j e9 r aJ af ak=>?_⟩
    .rcases eG.mp dD with z | z
     .exact p_ r z
     .rw [d8.mp z];exact M5
    .obtain ⟨nk,eC⟩:=Rs j e9 r (by omega) af ak;have pU:=nk.w2 s4 (GY nk mL (by omega)) mL.ins;refine ⟨?_,eC⟩;obtain ⟨aT,g9,a_,au,aH⟩:=pU;exact ⟨aT,g9,a_,by rw [aE (bZ au l9.at_ (by intro z;cases z))];exact au,by rw [aE (bZ aH l9.at_ (fun z=>by injection z with z;exact JO (m4 r (cC ak)).1 z))];exact aH⟩
  .rintro σ I bb;ac_rfl
   obtain ⟨⟨y,rfl⟩,mC,ph,oR,⟨qs,ms,rows,r6,gS,p_,d9⟩,Rs⟩:=bb;subst aK;rw [aZ,nU,uE] at d9;replace d9:(pR rows:Except (Nat × Nat) (List ST))=.ok yT:=d9;exact bJ _ _ ⟨ph,mC,⟨qs,ms,rows,r6,gS,p_,Except.ok.inj d9⟩,_,rfl⟩
 rintro cv aw bb;ac_rfl
 obtain ⟨s2,cO,⟨qs,ms,rows,e0,bR,p_,fj⟩,ea,rfl⟩:=bb;subst aK;subst fj;have ts:=C.same s2;nofun;refine ⟨c,n,ds,dv,qs,ms,rows,rfl,ts,e0,bR,hle,fun bf s3 agz=>?_⟩;have dw:=agz cO;have T3:=s2.trans s3;refine ⟨c,n,ds,dv,qs,ms,rows,rfl,ts.same s3,e0.same s3,bR,hle,d4,fun cN s4 ZT=>?_⟩;have dT:=ZT dw;have OY:=T3.trans s4;refine ⟨c,n,ds,dv,qs,ms,rows,rfl,C.same OY,a4,(e0.same s3).same s4,bR,dT,de,fun dJ s5 X2 a aq aS wh ajx=>?_⟩;have iH:=X2 dT;have Cm:=OY.trans s5;have sc:aO dJ (upd (upd dJ aq (.own a)) a (.ins t.e' aq [])):=((aO.refl dJ).gf wh).gf aS;refine ⟨a,aq,c,n,ds,dv,qs,ms,rows,rfl,aV,(C.same Cm).same sc,a4,bW,(((e0.same s3).same s4).same s5).same sc,bR,p_,(iH.upd).upd,fun iQ kr m5 ej=>⟨rfl,?_⟩⟩;exact j9 a iQ (uB (Cm.trans sc) kr (Cm.free aS)) m5 ej
def Tw (P:Program) (w:World) (t:bQ):bU:=fun vs H Q _=>∃ a c n ds rows,∃ i j:Nat,∃ r s,vs=[.ref a,.int i,.int j]/\hs P w t H a c n ds rows/\rows[i]? = some r/\rows[j]? = some s/\i ≠ j/\aP H/\∀ v,rZ (k2 n ds r.mem s.mem) v->Q (.int v) H
def adD (P:Program) (w:World) (t:bQ):bU:=fun vs H Q _=>∃ a c n ds rows,∃ i j:Nat,∃ r s,vs=[.ref a,.int i,.int j]/\hs P w t H a c n ds rows/\rows[i]? = some r/\rows[j]? = some s/\i ≠ j/\∀ v I,aO H I->rZ (k2 n ds r.mem s.mem) v->Q (.int v) I
theorem PH:ct P base T 1 t.Do t.IT zq (Tw P w t):=by
 refine cH.forget (sp:=adD P w t) ?_ fun vs H Q E h=>?_
 .exists T.AW.ok XY,9
  obtain ⟨a,c,n,ds,rows,i,j,r,ai,rfl,⟨aq,le,mo,c0,cx,aY,ch,ms,kvs,au,_,_,_,_,_,_,WM,ad_⟩,ag,aJ,nV,q⟩:=h;have bx:=iF ao;obtain ⟨v,aI,AE⟩:=ad_.2 i j r ai ag aJ nV (.inl (b'.mp ag).1);refine ⟨_,(a6 (cg (abj bx (bA (U 0) rfl) (tE (aj (U 1) (aj (U 2) aG))) (fun _ _=>rfl)))),?_⟩;nofun;exact ⟨_,Rz T au,by decide,fun p ax=>⟨ch,rfl,kvs,Gl WM (bE ax),stK i j,aV,_,aI,q v _ (bE ax) AE⟩⟩
 .obtain ⟨a,c,n,ds,rows,i,j,r,ai,rfl,ej,ag,aJ,nV,bM,q⟩:=h;exact ⟨bM,a,c,n,ds,rows,i,j,r,ai,rfl,ej,ag,aJ,nV,fun v I bO aI=>⟨bO,q v aI⟩⟩
noncomputable abbrev lE:List Str:=[ab "stages",ab "showing",ab "lasted",ab "left",ab "sought",ab "gone",ab "waiting",ab "picked"]
noncomputable def e3 (aX:Addr) (bc:V) (cL lf bh c2:Int) (aA aU:Addr):List (Str × V):=[(ab "stages",V.ref aX),(ab "showing",bc),(ab "lasted",V.int cL),(ab "left",V.int lf),(ab "sought",V.int bh),(ab "gone",V.int c2),(ab "waiting",V.ref aA),(ab "picked",V.ref aU)]
theorem iK (aX:Addr) (bc:V) (cL lf bh c2:Int) (aA aU:Addr):(e3 aX bc cL lf bh c2 aA aU).map (·.1)=lE:=rfl
theorem Ls (aX:Addr) (bc:V) (cL lf bh c2:Int) (aA aU:Addr) (v:V):cZ (ab "showing") v (e3 aX bc cL lf bh c2 aA aU)=e3 aX v cL lf bh c2 aA aU:=by
 unfold e3;simp only [cZ];rw [if_neg (by ac_nf)];rfl
theorem RB (aX:Addr) (bc:V) (cL lf bh c2:Int) (aA aU:Addr) (v:Int):cZ (ab "lasted") (.int v) (e3 aX bc cL lf bh c2 aA aU)=e3 aX bc v lf bh c2 aA aU:=by
 unfold e3;simp only [cZ];rw [if_neg (by ac_nf),if_neg (by ac_nf)];rfl
theorem abd (aX:Addr) (bc:V) (cL lf bh c2:Int) (aA aU:Addr) (v:Int):cZ (ab "left") (.int v) (e3 aX bc cL lf bh c2 aA aU)=e3 aX bc cL v bh c2 aA aU:=by
 unfold e3;simp only [cZ];rw [if_neg (by ac_nf),if_neg (by ac_nf),if_neg (by ac_nf)];rfl
theorem Y4 (aX:Addr) (bc:V) (cL lf bh c2:Int) (aA aU:Addr) (v:Int):cZ (ab "sought") (.int v) (e3 aX bc cL lf bh c2 aA aU)=e3 aX bc cL lf v c2 aA aU:=by
 unfold e3;simp only [cZ];rw [if_neg (by ac_nf),if_neg (by ac_nf),if_neg (by ac_nf),if_neg (by ac_nf)];rfl
theorem Kw (aX:Addr) (bc:V) (cL lf bh c2:Int) (aA aU:Addr) (v:Int):cZ (ab "gone") (.int v) (e3 aX bc cL lf bh c2 aA aU)=e3 aX bc cL lf bh v aA aU:=by
 unfold e3;simp only [cZ];rw [if_neg (by ac_nf),if_neg (by ac_nf),if_neg (by ac_nf),if_neg (by ac_nf),if_neg (by ac_nf)];rfl
section
variable {w:World} {K:ba} {mg:Str->Option Value} {t:bQ} {H:ar} {a c aq le mo c0 cx aY ch:Addr} {k:Nat}
theorem IK (T:Txt w K mg t) (e:H a=some (.ins t.e' aq (kz c k le mo c0 cx aY ch))):fA K H a (ab "crossing") (.ref c):=⟨_,aq,_,e,T.jf,T.J2,f' pe 0 (pZ ..) (by ac_nf) rfl⟩
theorem tI (T:Txt w K mg t) (e:H a=some (.ins t.e' aq (kz c k le mo c0 cx aY ch))):fA K H a (ab "sorts") (.ref cx):=⟨_,aq,_,e,T.jf,T.LG,f' pe 5 (pZ ..) (by ac_nf) rfl⟩
theorem yA (T:Txt w K mg t) (e:H a=some (.ins t.e' aq (kz c k le mo c0 cx aY ch))):fA K H a (ab "homes") (.ref aY):=⟨_,aq,_,e,T.jf,T.Sr,f' pe 6 (pZ ..) (by ac_nf) rfl⟩
end
theorem kb (aX:Addr) (bc:V) (cL lf bh c2:Int) (aA aU:Addr) (h:lE.contains m=false):(e3 aX bc cL lf bh c2 aA aU).lookup m=none:=wu lE (iK ..) h
section
variable {w:World} {K:ba} {mg:Str->Option Value} {t:bQ} {H:ar} {k aX aq aA aU:Addr} {bc:V} {cL lf bh c2:Int}
theorem iZ (T:Txt w K mg t) (e:H k=some (.ins t.c6 aq (e3 aX bc cL lf bh c2 aA aU))):fA K H k (ab "stages") (.ref aX):=⟨_,aq,_,e,T.el,T.Pq,f' lE 0 (iK ..) (by ac_nf) rfl⟩
theorem oM (T:Txt w K mg t) (e:H k=some (.ins t.c6 aq (e3 aX bc cL lf bh c2 aA aU))):fA K H k (ab "showing") bc:=⟨_,aq,_,e,T.el,T.BV,f' lE 1 (iK ..) (by ac_nf) rfl⟩
theorem wG (T:Txt w K mg t) (e:H k=some (.ins t.c6 aq (e3 aX bc cL lf bh c2 aA aU))):fA K H k (ab "waiting") (.ref aA):=⟨_,aq,_,e,T.el,T.ML,f' lE 6 (iK ..) (by ac_nf) rfl⟩
theorem Ii (T:Txt w K mg t) (e:H k=some (.ins t.c6 aq (e3 aX bc cL lf bh c2 aA aU))):fA K H k (ab "picked") (.ref aU):=⟨_,aq,_,e,T.el,T.J7,f' lE 7 (iK ..) (by ac_nf) rfl⟩
theorem SH (T:Txt w K mg t) (e:H k=some (.ins t.c6 aq (e3 aX bc cL lf bh c2 aA aU))):fA K H k (ab "lasted") (.int cL):=⟨_,aq,_,e,T.el,T.zy,f' lE 2 (iK ..) (by ac_nf) rfl⟩
theorem Iy (T:Txt w K mg t) (e:H k=some (.ins t.c6 aq (e3 aX bc cL lf bh c2 aA aU))):fA K H k (ab "left") (.int lf):=⟨_,aq,_,e,T.el,T.Jh,f' lE 3 (iK ..) (by ac_nf) rfl⟩
theorem wD (T:Txt w K mg t) (e:H k=some (.ins t.c6 aq (e3 aX bc cL lf bh c2 aA aU))):fA K H k (ab "sought") (.int bh):=⟨_,aq,_,e,T.el,T.Ic,f' lE 4 (iK ..) (by ac_nf) rfl⟩
theorem SB (T:Txt w K mg t) (e:H k=some (.ins t.c6 aq (e3 aX bc cL lf bh c2 aA aU))):fA K H k (ab "gone") (.int c2):=⟨_,aq,_,e,T.el,T.Bj,f' lE 5 (iK ..) (by ac_nf) rfl⟩
end
section
variable {w:World} {K:ba} {mg:Str->Option Value} {t:bQ} {H:ar} {a c aq le mo c0 cx aY ch:Addr} {k:Nat}
theorem aaW (T:Txt w K mg t) (e:H a=some (.ins t.e' aq (kz c k le mo c0 cx aY ch))):fA K H a (ab "leasts") (.ref le):=⟨_,aq,_,e,T.jf,T.RX,f' pe 2 (pZ ..) (by ac_nf) rfl⟩
theorem aeo (T:Txt w K mg t) (e:H a=some (.ins t.e' aq (kz c k le mo c0 cx aY ch))):fA K H a (ab "mosts") (.ref mo):=⟨_,aq,_,e,T.jf,T.L1,f' pe 3 (pZ ..) (by ac_nf) rfl⟩
end
theorem hs.same {w:World} {t:bQ} {rows:List ST} (h:hs P w t H a c n ds rows) (s:aO H I):hs P w t I a c n ds rows:=by
 obtain ⟨aq,le,mo,c0,cx,aY,ch,ms,kvs,au,aH,bX,ff,gd,fc,h9,l8,lz⟩:=h;exact ⟨aq,le,mo,c0,cx,aY,ch,ms,kvs,s _ _ au,aH.same s,s _ _ bX,s _ _ ff,gd.same s,s _ _ fc,s _ _ h9,Gl l8 s,lz⟩
noncomputable abbrev c4:Str:=ab "trams"
noncomputable abbrev iA:Str:=ab "others"
structure eK where
 bc:Option Nat
 cL:Int
 lf:Nat
 bh:Nat
 c2:Int
 wt:List Str
 pt:Int
 po:Int
noncomputable def eE:Option Nat->V
 | none=>.b6
 | some i=>.int (i:Nat)
noncomputable def fM (xs:List Str):List (Key × V):=xs.map fun x=>(bY x,V.bk true)
noncomputable def lb (a b:Int):List (Key × V):=[(bY c4,.int a),(bY iA,.int b)]
def ee (t:bQ) (H:ar) (k aX aA aU:Addr) (s:eK):Prop:=aA ≠ aU/\∃ aq,H k=some (.ins t.c6 aq (e3 aX (eE s.bc) s.cL s.lf s.bh s.c2 aA aU))/\H aA=some (.bu (fM s.wt))/\H aU=some (.bu (lb s.pt s.po))
theorem ee.same {t:bQ} {k aX aA aU:Addr} (h:ee t H k aX aA aU s) (e:aO H I):ee t I k aX aA aU s:=by
 obtain ⟨h0,aq,af,ak,a9⟩:=h;exact ⟨h0,aq,e _ _ af,e _ _ ak,e _ _ a9⟩
def gR (k aA aU:Addr) (H I:ar):Prop:=∀ b u,b ≠ k->b ≠ aA->b ≠ aU->H b=some u->I b=some u
theorem gR.trans {k aA aU:Addr} (a:gR k aA aU H H1) (b:gR k aA aU H1 aw):gR k aA aU H aw:=fun c u x y z e=>b c u x y z (a c u x y z e)
theorem gR.of {k aA aU:Addr} (a:aO H H1):gR k aA aU H H1:=fun c u _ _ _ e=>a c u e
theorem gR.u3 {k aA aU:Addr} (a:gR k aA aU H H1) (s:aO bz H) (af:bz k=none) (ak:bz aA=none) (a9:bz aU=none):aO bz H1:=fun c u e=>a c u (dy e af) (dy e ak) (dy e a9) (s c u e)
theorem Ta:rf [] [(bY c4,V.int (-1)),(bY iA,V.int (-1))]=lb (-1) (-1):=by
 have h:(bY c4:Key) ≠ bY iA:=fun z=>absurd (p' z) (by ac_nf)
 simp [rf,d5,lb,h]
theorem NR (h:s=c4\/s=iA):d5 (lb a b) (bY s) (.int v)=lb (if s=c4 then v else a) (if s=c4 then b else v):=by
 have af:c4 ≠ iA:=by ac_nf
 rcases h with rfl | rfl
 .simp [d5,lb,af,af.symm]
 .simp [d5,lb,af,af.symm]
theorem ahd (h:s=c4\/s=iA):cM (lb a b) (bY s)=some (.int (if s=c4 then a else b)):=by
 have af:c4 ≠ iA:=by ac_nf
 rcases h with rfl | rfl
 .simp [cM,lb,af,af.symm]
 .simp [cM,lb,af,af.symm]
theorem acu (xs:List Str) (x:Str):(cM (fM xs) (bY x)).isSome=decide (x ∈ xs):=by
 rw [jC,decide_eq_true_eq]
 induction xs with
 | nil=>simp [fM,cM]
 | cons y ys b4=>
  by_cases c:y=x
  .simp [fM,cM,c]
  .have c':x ≠ y:=fun z=>c z.symm
   simp only [fM,cM,er,pn] at b4 ⊢;simp [c,c'] at b4 ⊢
   try exact b4
noncomputable def C' (ds:List a8) (r:ST):eK:=⟨some 0,1,0,0,0,[],if cV ds r=c4 then 0 else -1,if cV ds r=c4 then -1 else 0⟩
noncomputable def tX (rows:List ST) (i:Nat) (x:Str):Str:=if fu rows x=some i then ab "free" else ab "stop"
section
variable (P:Program) (w:World)
def P4 (t:bQ):bU:=fun vs H Q _=>∃ k aq aX c n ds rows r,vs=[.ref k,.ref aX]/\H k=some (.ins t.c6 aq [])/\hs P w t H aX c n ds rows/\rows[0]? = some r/\(cV ds r=c4\/cV ds r=iA)/\aP H/\∀ aA aU I,cP k H I->aP I->H aA=none->H aU=none->ee t I k aX aA aU (C' ds r)->Q .b6 I
def OB (t:bQ):bU:=fun vs H Q _=>∃ k aX aA aU s,vs=[.ref k]/\ee t H k aX aA aU s/\Q (eE s.bc) H
def abu (t:bQ):bU:=fun vs H Q _=>∃ k aX aA aU s,∃ i:Nat,∃ c n ds rows,∃ d:a8,vs=[.ref k,.str d.name]/\ee t H k aX aA aU s/\s.bc=some i/\hs P w t H aX c n ds rows/\told rows d.name=true/\Q (.str (tX rows i d.name)) H
end
theorem adE:ct P base T 1 t.wL t.zM vD (P4 P w t):=by
 exists T.QG.ok aeL,9
 obtain ⟨k,aq,aX,c,n,ds,rows,r,rfl,az,ej,h0,nt,bM,q⟩:=h;obtain ⟨kh,le,mo,c0,cx,aY,ch,ms,kvs,au,C,bX,ff,gd,fc,h9,l8,lz⟩:=ej;have bx:=iF ao;refine ⟨_,(db (eR (U 0) (U 1) rfl)
   (db (eR (U 0) aM rfl)
   (db (eR (U 0) aM rfl)
   (db (eR (U 0) aM rfl)
   (db (eR (U 0) aM rfl)
   (db (eR (U 0) aM rfl)
   (db (eR (U 0) vF rfl)
   (db (eR (U 0) (aiB (Oc dh (Js HQ aM) (Oc dh (Js HQ aM) Wz)) rfl rfl (by simp) (by decide)) rfl)
   (a6 (r9 bx (bA (U 0) rfl) (bV c8 (bA (U 1) rfl) aM) aM rfl)))))))))),?_⟩
 refine dc (fun aB I=>cP k H I/\aP I/\I k=some (.ins t.c6 aq [(ab "stages",V.ref aX)])/\aB=[~~~k,~~~aX]) (fun b2 bJ=>?_) fun cY aK=>?_
 .nofun;refine ⟨_,_,_,az,T.el,T.Pq,(show (0:Nat) < 1000 by decide),?_⟩;rw [show cZ (ab "stages") (V.ref aX) ([]:List (Str × V))=[(ab "stages",V.ref aX)] from fV [] rfl (by ac_nf)];exact bJ _ _ ⟨fun b u aa e=>by rw [aE aa];exact e,bM.upd,aV,rfl⟩
 rintro f_ H1 ⟨bH,cp,a1,rfl⟩;subst aK;refine dc (fun aB I=>cP k H I/\aP I/\I k=some (.ins t.c6 aq [(ab "stages",V.ref aX),(ab "showing",V.int 0)])/\aB=[~~~k,~~~aX]) (fun b2 bJ=>?_) fun cY aK=>?_
 .nofun;refine ⟨_,_,_,a1,T.el,T.BV,(show (1:Nat) < 1000 by decide),?_⟩;rw [show cZ (ab "showing") (V.int 0) ([(ab "stages",V.ref aX)]:List (Str × V))=[(ab "stages",V.ref aX),(ab "showing",V.int 0)] from fV [ab "stages"] rfl (by ac_nf)];exact bJ _ _ ⟨fun b u aa e=>by rw [aE aa];exact bH _ _ aa e,cp.upd,aV,rfl⟩
 rintro cv aw ⟨fQ,cO,a2,rfl⟩;subst aK;refine dc (fun aB I=>cP k H I/\aP I/\I k=some (.ins t.c6 aq [(ab "stages",V.ref aX),(ab "showing",V.int 0),(ab "lasted",V.int 1)])/\aB=[~~~k,~~~aX]) (fun b2 bJ=>?_) fun cY aK=>?_
 .nofun;refine ⟨_,_,_,a2,T.el,T.zy,(show (2:Nat) < 1000 by decide),?_⟩;rw [show cZ (ab "lasted") (V.int 1) ([(ab "stages",V.ref aX),(ab "showing",V.int 0)]:List (Str × V))=[(ab "stages",V.ref aX),(ab "showing",V.int 0),(ab "lasted",V.int 1)] from fV [ab "stages",ab "showing"] rfl (by ac_nf)];exact bJ _ _ ⟨fun b u aa e=>by rw [aE aa];exact fQ _ _ aa e,cO.upd,aV,rfl⟩
 rintro gc bf ⟨ea,dw,f7,rfl⟩;subst aK;refine dc (fun aB I=>cP k H I/\aP I/\I k=some (.ins t.c6 aq [(ab "stages",V.ref aX),(ab "showing",V.int 0),(ab "lasted",V.int 1),(ab "left",V.int 0)])/\aB=[~~~k,~~~aX]) (fun b2 bJ=>?_) fun cY aK=>?_
 .nofun;refine ⟨_,_,_,f7,T.el,T.Jh,(show (3:Nat) < 1000 by decide),?_⟩;rw [show cZ (ab "left") (V.int 0) ([(ab "stages",V.ref aX),(ab "showing",V.int 0),(ab "lasted",V.int 1)]:List (Str × V))=[(ab "stages",V.ref aX),(ab "showing",V.int 0),(ab "lasted",V.int 1),(ab "left",V.int 0)] from fV [ab "stages",ab "showing",ab "lasted"] rfl (by ac_nf)];exact bJ _ _ ⟨fun b u aa e=>by rw [aE aa];exact ea _ _ aa e,dw.upd,aV,rfl⟩
 rintro k8 cN ⟨dF,dT,oi,rfl⟩;subst aK;refine dc (fun aB I=>cP k H I/\aP I/\I k=some (.ins t.c6 aq [(ab "stages",V.ref aX),(ab "showing",V.int 0),(ab "lasted",V.int 1),(ab "left",V.int 0),(ab "sought",V.int 0)])/\aB=[~~~k,~~~aX]) (fun b2 bJ=>?_) fun cY aK=>?_
 .nofun;refine ⟨_,_,_,oi,T.el,T.Ic,(show (4:Nat) < 1000 by decide),?_⟩;rw [show cZ (ab "sought") (V.int 0) ([(ab "stages",V.ref aX),(ab "showing",V.int 0),(ab "lasted",V.int 1),(ab "left",V.int 0)]:List (Str × V))=[(ab "stages",V.ref aX),(ab "showing",V.int 0),(ab "lasted",V.int 1),(ab "left",V.int 0),(ab "sought",V.int 0)] from fV [ab "stages",ab "showing",ab "lasted",ab "left"] rfl (by ac_nf)];exact bJ _ _ ⟨fun b u aa e=>by rw [aE aa];exact dF _ _ aa e,dT.upd,aV,rfl⟩
 rintro qN dJ ⟨eA,iH,vx,rfl⟩;subst aK;refine dc (fun aB I=>cP k H I/\aP I/\I k=some (.ins t.c6 aq [(ab "stages",V.ref aX),(ab "showing",V.int 0),(ab "lasted",V.int 1),(ab "left",V.int 0),(ab "sought",V.int 0),(ab "gone",V.int 0)])/\aB=[~~~k,~~~aX]) (fun b2 bJ=>?_) fun cY aK=>?_
 .nofun;refine ⟨_,_,_,vx,T.el,T.Bj,(show (5:Nat) < 1000 by decide),?_⟩;rw [show cZ (ab "gone") (V.int 0) ([(ab "stages",V.ref aX),(ab "showing",V.int 0),(ab "lasted",V.int 1),(ab "left",V.int 0),(ab "sought",V.int 0)]:List (Str × V))=[(ab "stages",V.ref aX),(ab "showing",V.int 0),(ab "lasted",V.int 1),(ab "left",V.int 0),(ab "sought",V.int 0),(ab "gone",V.int 0)] from fV [ab "stages",ab "showing",ab "lasted",ab "left",ab "sought"] rfl (by ac_nf)];exact bJ _ _ ⟨fun b u aa e=>by rw [aE aa];exact eA _ _ aa e,iH.upd,aV,rfl⟩
 rintro mq iQ ⟨ey,m5,qD,rfl⟩;subst aK;refine dc (fun aB I=>cP k H I/\aP I/\∃ aA,H aA=none/\I k=some (.ins t.c6 aq [(ab "stages",V.ref aX),(ab "showing",V.int 0),(ab "lasted",V.int 1),(ab "left",V.int 0),(ab "sought",V.int 0),(ab "gone",V.int 0),(ab "waiting",V.ref aA)])/\I aA=some (.bu [])/\aB=[~~~k,~~~aX]) (fun b2 bJ=>?_) fun cY aK=>?_
 .nofun;intro aA ni;have O4:aA ≠ k:=fun z=>by rw [z,qD] at ni;cases ni
  have gs:H aA=none:=by
   cases e:H aA with
   | none=>rfl
   | some u=>have:=ey _ _ O4 e;rw [ni] at this;cases this
  refine ⟨_,_,_,(bE ni) _ _ qD,T.el,T.ML,(show (6:Nat) < 1000 by decide),?_⟩;rw [show cZ (ab "waiting") (V.ref aA) ([(ab "stages",V.ref aX),(ab "showing",V.int 0),(ab "lasted",V.int 1),(ab "left",V.int 0),(ab "sought",V.int 0),(ab "gone",V.int 0)]:List (Str × V))=[(ab "stages",V.ref aX),(ab "showing",V.int 0),(ab "lasted",V.int 1),(ab "left",V.int 0),(ab "sought",V.int 0),(ab "gone",V.int 0),(ab "waiting",V.ref aA)] from fV [ab "stages",ab "showing",ab "lasted",ab "left",ab "sought",ab "gone"] rfl (by ac_nf)];exact bJ _ _ ⟨fun b u aa e=>by rw [aE aa];exact (bE ni) _ _ (ey _ _ aa e),m5.upd.upd,aA,gs,aV,by rw [aE O4];exact aV,rfl⟩
 rintro ka hL ⟨dV,mK,aA,gs,o3,DT,rfl⟩;subst aK;refine dc (fun aB I=>cP k H I/\aP I/\∃ aU,I k=some (.ins t.c6 aq (e3 aX (.int 0) 1 0 0 0 aA aU))/\I aA=some (.bu [])/\I aU=some (.bu (lb (-1) (-1)))/\aU ≠ aA/\H aU=none/\aB=[~~~k,~~~aX]) (fun b2 bJ=>?_) fun cY aK=>?_
 .nofun;simp only [zp];nofun;intro aU l5;have sR:aU ≠ k:=fun z=>by rw [z,o3] at l5;cases l5
  have i_:aU ≠ aA:=fun z=>by rw [z,DT] at l5;cases l5
  have g_:H aU=none:=by
   cases e:H aU with
   | none=>rfl
   | some u=>have:=dV _ _ sR e;rw [l5] at this;cases this
  refine ⟨aV,[(bY (ab "trams"),.int (-1)),(bY (ab "others"),.int (-1))],rfl,by show 2 <= 15;decide,_,_,_,(aE sR.symm).trans ((aE sR.symm).trans o3),T.el,T.J7,(show (7:Nat) < 1000 by decide),?_⟩;rw [show cZ (ab "picked") (V.ref aU) ([(ab "stages",V.ref aX),(ab "showing",V.int 0),(ab "lasted",V.int 1),(ab "left",V.int 0),(ab "sought",V.int 0),(ab "gone",V.int 0),(ab "waiting",V.ref aA)]:List (Str × V))=e3 aX (.int 0) 1 0 0 0 aA aU from fV [ab "stages",ab "showing",ab "lasted",ab "left",ab "sought",ab "gone",ab "waiting"] rfl (by ac_nf)];refine bJ _ _ ⟨fun b u aa e=>?_,mK.upd.upd.upd,aU,aV,?_,(aE sR).trans (aV.trans (congrArg (fun x=>some (gj.bu x)) (Ta))),i_,g_,rfl⟩
  .have:=dV _ _ aa e;rw [aE aa,aE (dy this l5),aE (dy this l5)];exact this
  .rw [aE (bZ DT o3 (by intro z;cases z)),aE i_.symm,aE i_.symm];exact DT
 rintro t4 iT ⟨dk,xh,aU,sA,Y8,P0,i_,l5,rfl⟩;subst aK;nofun;refine ⟨_,Ii T sA,_,tI T (dk _ _ (Hv az au) au),_,rfl,_,aC.of (dk _ _ (bZ fc az (by intro z;cases z)) fc),_,Db (j:=0) (r8 (by rw [c5,h0];rfl)),_,rfl,_,j7.k (k:=bY (cV ds r)) P0 (gW (show (lb (-1) (-1)).length <= 2 from cn 2) (by decide)),q aA aU _ (fun b u aa e=>?_) xh.upd gs l5 ⟨i_.symm,aq,?_,?_,?_⟩⟩
 .rw [aE (dy e l5)];exact dk _ _ aa e
 .rw [aE (bZ sA P0 (by intro z;cases z))];exact sA
 .rw [aE i_.symm];exact Y8
 .rw [aV,NR nt];rfl
theorem ND:ct P base T 1 t.vZ t.A7 ["self"] (OB t):=by
 exists T.PS.ok XH,9
 obtain ⟨k,aX,aA,aU,ai,rfl,⟨_,aq,b1,dH,fB⟩,q⟩:=h;refine ⟨_,(a6 (cg (bA (U 0) rfl))),?_⟩;nofun;exact ⟨_,oM T b1,q⟩
theorem Uq:ct P base T 1 t.BE t.ES jb (abu P w t):=by
 exists T.MO.ok U8,9
 obtain ⟨k,aX,aA,aU,ai,i,c,n,ds,rows,d,rfl,⟨_,aq,b1,dH,fB⟩,gb,⟨kh,le,mo,c0,cx,aY,ch,ms,kvs,au,C,bX,ff,gd,fc,h9,l8,lz⟩,cq,q⟩:=h;have bx:=iF ao;obtain ⟨j,r,aJ,az,iB,_⟩:=nY cq;refine ⟨_,(a6 (cg (tC (cU ep (n6 bx (bA (bA (U 0) rfl) rfl) (U 1) (fun _ _=>rfl)) (bA (U 0) rfl) (cc _)) dh dh))),?_⟩;rw [gb] at b1;nofun;have aQ:=gI.k (k:=bY d.name) h9;rw [aJ] at aQ;refine ⟨_,iZ T b1,_,rfl,_,yA T au,_,rfl,_,aQ,_,oM T b1,rfl,?_⟩;unfold tX at q;rw [az] at q;by_cases hm:j=i
 .rw [if_pos (by rw [hm])] at q;rw [hm,if_pos (show decide (V.int ((i:Nat):Int)=eE (some i))=true from decide_eq_true rfl)];exact q
 .rw [if_neg (fun z=>hm (d1 z))] at q;rw [if_neg (show ¬ decide (V.int ((j:Nat):Int)=eE (some i))=true from fun z=>hm (by have z:=of_decide_eq_true z;injection z with z;omega))];exact q
noncomputable def pQ (n:Int) (ds:List a8) (rows:List ST) (i j:Nat):Int:=match rows[i]?,rows[j]? with
 | some r,some s=>((k2 n ds r.mem s.mem).max?).getD 0
 | _,_=>0
theorem N2 {rows:List ST} (ag:rows[i]? = some r) (aJ:rows[j]? = some s) (h:rZ (k2 n ds r.mem s.mem) v):pQ n ds rows i j=v:=by
 unfold pQ;rw [ag,aJ];show ((k2 n ds r.mem s.mem).max?).getD 0=v;rw [(List.max?_eq_some_iff (xs:=k2 n ds r.mem s.mem) (a:=v)).mpr ⟨h.1,h.2⟩];rfl
noncomputable def tJ (n:Int) (ds:List a8) (rows:List ST) (s:eK) (d:a8):Str:=if fu rows d.name=some s.lf/\s.c2 < l2 d then ab "fade" else if fu rows d.name=some s.bh/\pQ n ds rows s.lf s.bh - s.c2 <= me d then ab "ready" else ab "stop"
noncomputable def ig (n:Int) (ds:List a8) (rows:List ST) (s:eK) (d:a8):Str:=match s.bc with
 | some i=>tX rows i d.name
 | none=>tJ n ds rows s d
section
variable (P:Program) (w:World)
def ad2 (t:bQ):bU:=fun vs H Q _=>∃ k aX aA aU s c n ds rows,∃ i:Nat,∃ d:a8,vs=[.ref k,.str d.name]/\ee t H k aX aA aU s/\hs P w t H aX c n ds rows/\told rows d.name=true/\ds[i]? = some d/\s.lf < rows.length/\s.bh < rows.length/\s.lf ≠ s.bh/\aP H/\Q (.str (tJ n ds rows s d)) H
end
theorem afS:ct P base T 3 t.yp t.D4 jb (ad2 P w t):=by
 refine cF (qO T) fun jB=>cF (PH T) fun Dm=>?_;have CJ:oK P w K mg base dC 2 (sC t) "ready" ["self"] (sD t):=Ba (RH T) (by decide);have GU:oK P w K mg base dC 2 (sC t) "fade" ["self"] (tZ t):=Ba (Nz T) (by decide);exists T.K7.ok CM,9
 obtain ⟨k,aX,aA,aU,ai,c,n,ds,rows,i,d,rfl,⟨_,aq,b1,dH,fB⟩,ej,cq,hd,qU,Ry,cj,bM,q⟩:=h;obtain ⟨kh,le,mo,c0,cx,aY,ch,ms,kvs,au,C,bX,ff,gd,fc,h9,l8,lz⟩:=id ej;have bx:=iF ao;obtain ⟨⟨gh,gn⟩,KH,wl,aD,cu,_,_⟩:=id C;obtain ⟨j,r,aJ,az,iB,_⟩:=nY cq;have aQ:=gI.k (k:=bY d.name) h9;rw [aJ] at aQ;refine ⟨_,(db (b7 (i:=2) CM.aD (e4 (bA (bA (U 0) rfl) rfl) T.hU T.nE jB ao T.n0 .nil cI (aj (U 1) aG)))
   (db (b7 (i:=3) CM.aD (n6 bx (bA (bA (U 0) rfl) rfl) (U 1) (fun _ _=>rfl)))
   (db (dI (fW.pt (j0 (cU ep (U 3) (bA (U 0) rfl) (cc _)) (kN (cU kn (bA (U 0) rfl) (AX (U 2) GU ao cI) (cc _))))) (a6 (cg dh)) d2)
   (db (dI (fW.pt (j0 (cU ep (U 3) (bA (U 0) rfl) (cc _)) (kN (cU aaU (bD k1 (cm Dm ao T.L7 T.AW.bN T.OE (aj (bA (U 0) rfl) (aj (bA (U 0) rfl) (aj (bA (U 0) rfl) aG)))) (bA (U 0) rfl)) (AX (U 2) CJ ao cI) (cc _))))) (a6 (cg dh)) d2)
   (a6 (cg dh)))))),?_⟩
 refine dc (fun aB I=>I=H/\∃ a,Re t H a d/\aB=[~~~k,some (.str d.name),~~~a,none]) (fun b2 bJ=>?_) fun cY aK=>?_
 .nofun;exact ⟨_,iZ T b1,_,rfl,_,IK T au,_,rfl,_,_,cu,KB _ _ _ (by ac_nf),c,n,ds,i,d,rfl,C,hd,fun a W=>bJ _ _ ⟨rfl,a,W,rfl⟩⟩
 rintro f_ H1 ⟨rfl,a,W,rfl⟩;subst aK;refine dc (fun aB I=>I=H1/\aB=[~~~k,some (.str d.name),~~~a,some (.int (j:Nat))]) (fun b2 bJ=>?_) fun cY aK=>?_
 .nofun;exact ⟨_,iZ T b1,_,rfl,_,yA T au,_,rfl,_,aQ,bJ _ _ ⟨rfl,rfl⟩⟩
 rintro cv aw ⟨rfl,rfl⟩;obtain ⟨t9,PK,qF⟩:=id W;subst aK;unfold tJ at q;rw [az] at q;simp only [dE];refine ra (fun aB I=>I=aw/\¬ (some j=some ai.lf/\ai.c2 < l2 d)/\aB=[~~~k,some (.str d.name),~~~a,some (.int (j:Nat))]) (fun b2 bJ md _ _=>?_) ?_
 .refine dt (decide (j=ai.lf) && decide (ai.c2 < l2 d)) (fun gM aR=>?_) (fun aa=>?_) (fun aa=>?_)
  .nofun;refine ⟨_,Iy T b1,rfl,?_⟩;by_cases cD:j=ai.lf
   .rw [decide_eq_true cD,lF] at aR;rw [if_pos (show decide (V.int ((j:Nat):Int)=V.int ((ai.lf:Nat):Int))=true from decide_eq_true (by rw [cD]))];exact ⟨_,SB T b1,_,_,_,qF,⟨_,t9,rfl⟩,ze (by ac_nf),a,d,rfl,W,rfl,_,rfl,_,rfl,aR⟩
   .rw [decide_eq_false cD,mu] at aR;rw [if_neg (show ¬ decide (V.int ((j:Nat):Int)=V.int ((ai.lf:Nat):Int))=true from fun z=>cD (by have z:=of_decide_eq_true z;injection z with z;omega))];exact aR
  .rw [hX,decide_eq_true_eq,decide_eq_true_eq] at aa;rw [if_pos ⟨by rw [aa.1],aa.2⟩] at q;nofun;rw [md];exact q
  .simp only [i9];refine bJ _ _ ⟨rfl,fun z=>?_,rfl⟩;rw [decide_eq_true (d1 z.1),decide_eq_true z.2] at aa;cases aa
 rintro gc bf ⟨rfl,FQ,rfl⟩;rw [if_neg FQ] at q;simp only [dE];refine ra (fun aB I=>I=bf/\¬ (some j=some ai.bh/\pQ n ds rows ai.lf ai.bh - ai.c2 <= me d)/\aB=[~~~k,some (.str d.name),~~~a,some (.int (j:Nat))]) (fun b2 bJ md _ _=>?_) ?_
 .refine dt (decide (j=ai.bh) && decide (pQ n ds rows ai.lf ai.bh - ai.c2 <= me d)) (fun gM aR=>?_) (fun aa=>?_) (fun aa=>?_)
  .nofun;refine ⟨_,wD T b1,rfl,?_⟩;by_cases cD:j=ai.bh
   .rw [decide_eq_true cD,lF] at aR;rw [if_pos (show decide (V.int ((j:Nat):Int)=V.int ((ai.bh:Nat):Int))=true from decide_eq_true (by rw [cD]))];refine ⟨_,iZ T b1,_,Iy T b1,_,wD T b1,aX,c,n,ds,rows,ai.lf,ai.bh,_,_,rfl,ej,bo qU,bo Ry,cj,bM,fun v aI=>⟨_,SB T b1,_,rfl,_,rfl,_,_,_,qF,⟨_,t9,rfl⟩,ze (by ac_nf),a,d,rfl,W,rfl,_,rfl,?_⟩⟩;rw [N2 (bo qU) (bo Ry) aI] at aR;exact aR
   .rw [decide_eq_false cD,mu] at aR;rw [if_neg (show ¬ decide (V.int ((j:Nat):Int)=V.int ((ai.bh:Nat):Int))=true from fun z=>cD (by have z:=of_decide_eq_true z;injection z with z;omega))];exact aR
  .rw [hX,decide_eq_true_eq,decide_eq_true_eq] at aa;rw [if_pos ⟨by rw [aa.1],aa.2⟩] at q;nofun;rw [md];exact q
  .simp only [i9];refine bJ _ _ ⟨rfl,fun z=>?_,rfl⟩;rw [decide_eq_true (d1 z.1),decide_eq_true z.2] at aa;cases aa
 rintro k8 cN ⟨rfl,pB,rfl⟩;rw [if_neg pB] at q;nofun;exact q
theorem ade {ds:List a8} (h:(ds.map (·.name)).Nodup) {i j:Nat} {d e:a8} (ag:ds[i]? = some d) (aJ:ds[j]? = some e) (z:d.name=e.name):i=j:=by
 obtain ⟨af,au⟩:=b'.mp ag;obtain ⟨ak,aH⟩:=b'.mp aJ;have e:(ds.map (·.name))[i]'(by simpa using af)=(ds.map (·.name))[j]'(by simpa using ak):=by
  rw [Ff,Ff,au,aH];exact z
 exact (x2 h).mp e
noncomputable def iP (ds:List a8) (f:a8->Str):List (Key × V):=ds.map fun d=>(bY d.name,V.str (f d))
theorem ahi {ds:List a8} {f:a8->Str} (h:(ds.map (·.name)).Nodup) {i:Nat} {d:a8} (hd:ds[i]? = some d):d5 (iP (ds.take i) f) (bY d.name) (.str (f d))=iP (ds.take (i + 1)) f:=by
 unfold d5;have no:((iP (ds.take i) f).any fun c7=>decide (c7.1=bY d.name))=false:=by
  rw [IL];intro p ax;unfold iP at ax;obtain ⟨e,he,rfl⟩:=bK.mp ax;obtain ⟨j,aJ⟩:=hH he;have jv:=(b'.mp aJ).1;rw [gD] at jv;rw [o4 (by omega)] at aJ;simp only [decide_eq_true_eq];intro z;have:=ade h aJ hd (p' z);omega
 rw [if_neg (by rw [no];exact fm),jt hd];unfold iP;rw [eZ];rfl
theorem Mh {ds:List a8} {f:a8->Str} (h:(ds.map (·.name)).Nodup) {i:Nat} {d:a8} (hd:ds[i]? = some d):cM (iP ds f) (bY d.name)=some (.str (f d)):=by
 have:∀ (l:List a8),(l.map (·.name)).Nodup->d ∈ l->cM (iP l f) (bY d.name)=some (.str (f d)):=fun l=>by
  induction l with
  | nil=>intro _ h;cases h
  | cons x l b4=>
   intro a4 hm;by_cases c:x.name=d.name
   .have:x=d:=by
     rcases eJ.mp hm with e | e
     .exact e.symm
     .exact absurd (bK.mpr ⟨d,e,c.symm⟩) (o2.mp a4).1
    subst this;simp [cM,iP]
   .have rd:d ∈ l:=by
     rcases eJ.mp hm with e | e
     .exact absurd (by rw [e]) c
     .exact e
    have:=b4 (o2.mp a4).2 rd;simp only [cM,iP,er,pn] at this ⊢;simp [c] at this ⊢;exact this
 exact this ds h (cC hd)
def Vs (rows:List ST) (s:eK):Prop:=s.bc=none->s.lf < rows.length/\s.bh < rows.length/\s.lf ≠ s.bh
def aap (P:Program) (w:World) (t:bQ):bU:=fun vs H Q _=>∃ k aX aA aU s c n ds rows,vs=[.ref k]/\ee t H k aX aA aU s/\hs P w t H aX c n ds rows/\(∀ d ∈ ds,told rows d.name=true)/\Vs rows s/\aP H/\∀ p I,aO H I->aP I->H p=none->I p=some (.bu (iP ds (ig n ds rows s)))->Q (.ref p) I
theorem TK:ct P base T 4 t.wf t.GQ ["self"] (aap P w t):=by
 refine cF (xv T) fun q3=>cF (Uq T) fun Xe=>cF (afS T) fun WG=>?_;exists T.bn.ok Jw,9
 obtain ⟨k,aX,aA,aU,ai,c,n,ds,rows,rfl,fP,ej,jD,adC,bM,q⟩:=h;have bx:=iF ao;obtain ⟨_,aq,b1,dH,fB⟩:=id fP;obtain ⟨kh,le,mo,c0,cx,aY,ch,ms,kvs,au,C,_⟩:=id ej;obtain ⟨⟨gh,gn⟩,KH,wl,aD,cu,_,_⟩:=id C;refine ⟨_,(db (b7 (i:=1) Jw.aD vF)
   (db (fz fH rfl (eT (hT (bA (bA (U 0) rfl) rfl) T.hU T.za q3 ao T.y6 .nil cI)) (cA (i:=2) Jw.aD) (a6 (r9 bx (U 1) (U 2) (tC (cU DF (bA (U 0) rfl) nX (cc _)) (e4 (U 0) T.el T.TQ Xe ao T.U_ .nil cI (aj (U 2) aG)) (e4 (U 0) T.el T.Z5 WG ao T.Ve .nil cI (aj (U 2) aG))) rfl)))
   (a6 (cg (U 1))))),?_⟩
 refine dc (fun aB I=>aO H I/\aP I/\∃ g0,H g0=none/\I g0=some (.bu [])/\aB=[~~~k,~~~g0,none]) (fun D bW=>?_) fun cY aK=>?_
 .nofun;exact fun g0 ud=>bW _ _ ⟨bE ud,bM.upd,g0,ud,aV,rfl⟩
 rintro f_ H1 ⟨s1,cp,g0,ud,dx,rfl⟩;subst aK;nofun;refine ⟨_,iZ T (s1 _ _ b1),_,rfl,_,IK T (s1 _ _ au),_,rfl,_,_,s1 _ _ cu,KB _ _ _ (by ac_nf),c,n,ds,rfl,C.same s1,fun dN jI=>⟨dN,rfl,⟨_,aC.of aV⟩,?_⟩⟩;refine dO.list (xs:=aW (ds.map (·.name))) (fun i σ I=>aO H I/\aP I/\I dN=some (.lst (aW (ds.map (·.name))))/\I g0=some (.bu (iP (ds.take i) (ig n ds rows ai)))/\∃ y,σ=[~~~k,~~~g0,y]) ?_ ?_ ?_ ?_
 .exact ⟨s1.trans (bE jI),cp.upd,aV,(bE jI) _ _ dx,_,rfl⟩
 .rintro i σ I ag bb;ac_rfl
  obtain ⟨_,_,h,_⟩:=bb;subst aK;exact aC.of h
 .rintro i v σ I aI bb;ac_rfl
  obtain ⟨s2,cO,F0,te,y,rfl⟩:=bb;obtain ⟨x,ah,rfl⟩:=cy aI;obtain ⟨d,hd,rfl⟩:=cy ah;have zo:=cC hd;have hlen:(iP (ds.take i) (ig n ds rows ai)).length <= 12:=by unfold iP;rw [aZ,gD];omega
  have Ax:upd I g0 (.bu (d5 (iP (ds.take i) (ig n ds rows ai)) (bY d.name) (.str (ig n ds rows ai d)))) dN=some (.lst (aW (ds.map (·.name)))):=by
   rw [aE (bZ F0 te (by intro z;cases z))];exact F0
  have z2:upd I g0 (.bu (d5 (iP (ds.take i) (ig n ds rows ai)) (bY d.name) (.str (ig n ds rows ai d)))) g0=some (.bu (iP (ds.take (i + 1)) (ig n ds rows ai))):=by
   rw [aV,ahi (f:=ig n ds rows ai) gh hd]
  subst aK;nofun;refine ⟨_,oM T (s2 _ _ b1),?_⟩;cases gb:ai.bc with
  | some A9=>
   have G7:ig n ds rows ai d=tX rows A9 d.name:=by unfold ig;rw [gb]
   rw [G7] at Ax z2;rw [if_pos (by rfl)];exact ⟨_,_,s2 _ _ b1,kb _ _ _ _ _ _ _ _ (by ac_nf),k,aX,aA,aU,ai,A9,c,n,ds,rows,d,rfl,fP.same s2,gb,ej.same s2,jD d zo,_,j7.k (k:=bY d.name) te (gW hlen (by decide)),s2.gf ud,cO.upd,Ax,z2,_,rfl⟩
  | none=>
   have G7:ig n ds rows ai d=tJ n ds rows ai d:=by unfold ig;rw [gb]
   rw [G7] at Ax z2;obtain ⟨g1,g2,g3⟩:=adC gb;rw [if_neg (by intro z;cases z)];exact ⟨_,_,s2 _ _ b1,kb _ _ _ _ _ _ _ _ (by ac_nf),k,aX,aA,aU,ai,c,n,ds,rows,i,d,rfl,fP.same s2,ej.same s2,jD d zo,hd,g1,g2,g3,cO,_,j7.k (k:=bY d.name) te (gW hlen (by decide)),s2.gf ud,cO.upd,Ax,z2,_,rfl⟩
 .rintro σ I bb;ac_rfl
  obtain ⟨s2,cO,F0,te,y,rfl⟩:=bb;have j3:(aW (ds.map (·.name))).length=ds.length:=by unfold aW;simp
  subst aK;rw [j3,hB] at te;nofun;exact q g0 I s2 cO ud te
theorem c9.Lf (hf:H d=some (.eM o (.bu kvs))) (aT:kvs.length <= sizeLine) (he:zs.length=kvs.length)
  (av:∀ (i:Nat) (k:Key) (v z:V) (N:V->ar->Prop),kvs[i]? = some (k,v)->zs[i]? = some z->N z H->g (dz k) du H fun cv aw=>Sub du cv/\bL cv aw N) (hd:∀ p,H p=none->Q (.ref p) (upd H p (.lst zs))):c9 (Gj d o kvs) g oo bL du Q H:=by
 refine c9.of (n:=kvs.length) (fun i ys I=>I=H/\ys=zs.take i) aT ⟨rfl,rfl⟩ (fun i ys I ag ⟨fg,_⟩=>by subst fg;exact ⟨hf,ag⟩) (fun ys I ⟨fg,_⟩=>by subst fg;exact ⟨hf,cn _⟩) (fun i ys I ag ⟨_,e⟩=>by rw [e,gD];omega) (fun i ys I x aw ag ⟨au,aH⟩ y=>?_) (fun ys I ⟨au,aH⟩ p ax=>?_)
 .obtain ⟨bX,k,v,az,ff⟩:=y;subst au bX ff;intro N br;have e7:i < zs.length:=by omega
  have ia:zs[i]? = some zs[i]:=bo e7;exact av i k v zs[i] (fun y cN=>N (ys ++ [y]) cN) az ia (br _ _ ⟨rfl,by rw [aH,pf,ia];rfl⟩)
 .subst au;rw [aH,<- he,hB];exact hd p ax
noncomputable def vH (ds:List a8) (rows:List ST) (x:Str):Str:=(((fu rows x).bind fun j=>rows[j]?).map (cV ds)).getD (ab "")
noncomputable def AV (ds:List a8) (rows:List ST) (xs:List Str):Bool:=xs.any fun x=>decide (vH ds rows x=c4)
section
variable (P:Program) (w:World)
def Yo (t:bQ):bU:=fun vs H Q _=>∃ bz k aX aA aU s c n ds rows,vs=[.ref k]/\ee t H k aX aA aU s/\hs P w t bz aX c n ds rows/\aO bz H/\bz aA=none/\(∀ x ∈ s.wt,told rows x=true)/\s.wt.length <= 12/\∀ I,aO H I->(aP H->aP I)->Q (.bk (AV ds rows s.wt)) I
end
theorem V6:ct P base T 1 t.xP t.HY ["self"] (Yo P w t):=by
 exists T.Sz.ok Tm,9
 obtain ⟨bz,k,aX,aA,aU,ai,c,n,ds,rows,rfl,⟨_,aq,b1,dH,fB⟩,ej,s0,gs,cq,aL,q⟩:=h;obtain ⟨kh,le,mo,c0,cx,aY,ch,ms,kvs,au,C,bX,ff,gd,fc,h9,l8,lz⟩:=id ej;have bx:=iF ao;refine ⟨_,(a6 (cg (fJ (WD rfl) rfl T.afN VB (aj (acb (hP rfl (Oi (bA (U 0) rfl)) (gA (sc:=bt DO) rfl (by ac_nf)) (N:=zx) (sel:=[none,some 0]) (gC (M:=["self"]) (by ac_nf)) (fx.of (fun _ _ _ _=>(cA (i:=0) (eu (N:=zx) (by ac_nf) rfl))) (fun _ _ _ _=>⟨_,h4,by walk_at "B"⟩) (fun _ _ _ _=>⟨_,(gH ep (bV c8 (bA (bA (U 1) rfl) rfl) (n6 bx (bA (bA (U 1) rfl) rfl) (U 0) (fun _ _=>rfl))) dh (cc _)),by walk_at "B"⟩)))) aG)))),?_⟩;nofun;refine ⟨aA,_,dH,_,wG T b1,_,rfl,_,dH,fun o=>?_⟩;have gT:(fM ai.wt).length=ai.wt.length:=by unfold fM;rw [aZ]
 have nh:aO bz (upd H aA (.eM o (.bu (fM ai.wt)))):=fun b u e=>by rw [aE (dy e gs)];exact s0 _ _ e
 have zX:(upd H aA (.eM o (.bu (fM ai.wt)))) k=some (.ins t.c6 aq (e3 aX (eE ai.bc) ai.cL ai.lf ai.bh ai.c2 aA aU)):=by rw [aE (bZ b1 dH (by intro z;cases z))];exact b1
 have rN:(upd H aA (.eM o (.bu (fM ai.wt)))) aA=some (.eM o (.bu (fM ai.wt))):=aV;refine c9.Lf (zs:=(ai.wt.map fun x=>decide (vH ds rows x=c4)).map V.bk) rN (by rw [gT];exact c_ aL (by decide)) (by rw [aZ,aZ,gT]) (fun i ae8 v z N az aT br=>?_) (fun p ax=>?_)
 .unfold fM at az;obtain ⟨x,ah,ex⟩:=cy az;cases ex;obtain ⟨b,aa,rfl⟩:=cy aT;obtain ⟨fN,ew,rfl⟩:=cy aa;rw [ah] at ew;cases ew;obtain ⟨j,r,aJ,e1,iB,_⟩:=nY (cq x (cC ah));have av:vH ds rows x=cV ds r:=by unfold vH;rw [e1,vz,iB];rfl
  rw [av] at br;have aQ:=gI.k (k:=bY x) (nh _ _ h9);rw [aJ] at aQ;nofun;refine ⟨Sub.name,_,iZ T zX,_,rfl,_,tI T (nh _ _ au),_,iZ T zX,_,rfl,_,yA T (nh _ _ au),_,rfl,_,aQ,_,rfl,_,_,rfl,aC.of (nh _ _ fc),_,Db (r8 (by rw [c5,iB];rfl)),rfl,?_⟩;rw [show decide (V.str (cV ds r)=V.str (ab "trams"))=decide (cV ds r=c4) from decide_eq_decide.mpr ⟨fun z=>by injection z,fun z=>by rw [z]⟩];exact br
 .have i_:p ≠ aA:=fun z=>by rw [z,rN] at ax;cases ax
  have zB:H p=none:=by rw [aE i_] at ax;exact ax
  refine ⟨o,by rw [aE (dW i_)];exact rN,p,rfl,_,aC.of (by rw [aE i_];exact aV),?_⟩;have he:((ai.wt.map fun x=>decide (vH ds rows x=c4)).any id)=AV ds rows ai.wt:=by unfold AV;rw [QR];rfl
  rw [he];refine q _ (fun b u e=>?_) (fun z=>((z.upd).upd).upd);by_cases cD:b=aA
  .subst cD;rw [dH] at e;cases e;exact aV
  .rw [aE cD,aE (dy e zB),aE cD];exact e
noncomputable def oN (ds:List a8) (rows:List ST) (s:eK) (r:ST) (own:Bool):Bool:=s.wt.isEmpty || decide (s.cL < r.lo) || (decide (s.cL < r.ag) && own && !AV ds rows s.wt)
def ahM (P:Program) (w:World) (t:bQ):bU:=fun vs H Q _=>∃ bz k aX aA aU s c n ds rows,∃ i:Nat,∃ r own,vs=[.ref k,.bk own]/\ee t H k aX aA aU s/\s.bc=some i/\rows[i]? = some r/\hs P w t bz aX c n ds rows/\aO bz H/\bz aA=none/\(∀ x ∈ s.wt,told rows x=true)/\s.wt.length <= 12/\∀ I,aO H I->(aP H->aP I)->Q (.bk (oN ds rows s r own)) I
theorem aep:ct P base T 2 t.BN t.Jz pN (ahM P w t):=by
 refine cF (V6 T) fun aiE=>?_;exists T.LL.ok Yc,9
 obtain ⟨bz,k,aX,aA,aU,ai,c,n,ds,rows,i,r,own,rfl,fP,gb,i7,ej,s0,gs,cq,aL,q⟩:=h;obtain ⟨_,aq,b1,dH,fB⟩:=id fP;obtain ⟨kh,le,mo,c0,cx,aY,ch,ms,kvs,au,C,bX,ff,gd,fc,h9,l8,lz⟩:=id (ej.same s0);have bx:=iF ao;have k':=b1;rw [gb] at k';refine ⟨_,(db (dI (fW.pt (rG (qB (zr (bA (U 0) rfl) (fun _=>rfl))) (ti (cU kn (bA (U 0) rfl) (bV c8 (bA (bA (U 0) rfl) rfl) (bA (U 0) rfl)) (cc _))))) (a6 (cg ju)) d2)
   (a6 (cg (xd (gH kn (bA (U 0) rfl) (bV c8 (bA (bA (U 0) rfl) rfl) (bA (U 0) rfl)) (cc _)) (xd (U 1) (sV (Ob (hT (U 0) T.el T.abW aiE ao T.agZ .nil cI)))))))),?_⟩
 simp only [dE];refine ra (fun aB I=>I=H/\(ai.wt.isEmpty || decide (ai.cL < r.lo))=false/\aB=[~~~k,some (.bk own)]) (fun b2 bJ md _ _=>?_) ?_
 .refine dt (ai.wt.isEmpty || decide (ai.cL < r.lo)) (fun gM aR=>?_) (fun aa=>?_) (fun aa=>?_)
  .nofun;refine ⟨_,wG T b1,!ai.wt.isEmpty,.inr (.inr ⟨_,dH,?_⟩),?_⟩
   .cases ai.wt <;> rfl
   .cases vG:ai.wt.isEmpty with
    | true=>
     rw [vG] at aR;exact aR
    | false=>
     rw [vG,lj] at aR;exact ⟨_,SH T b1,_,iZ T b1,_,rfl,_,aaW T au,_,oM T k',_,rfl,_,_,rfl,aC.of bX,_,Db (by rw [c5,i7];rfl),_,rfl,_,rfl,aR⟩
  .nofun;rw [md];have:=q H (aO.refl H) (fun z=>z);unfold oN at this;rw [aa,qS] at this;exact this
  .simp only [i9];exact bJ _ _ ⟨rfl,aa,rfl⟩
 rintro f_ H1 ⟨rfl,aa,rfl⟩;unfold oN at q;rw [aa] at q;nofun;refine ⟨_,SH T b1,_,iZ T b1,_,rfl,_,aeo T au,_,oM T k',_,rfl,_,_,rfl,aC.of ff,_,Db (by rw [c5,i7];rfl),_,rfl,_,rfl,?_⟩;by_cases cD:ai.cL < r.ag
 .rw [if_pos (decide_eq_true cD)];rw [decide_eq_true cD,lF,lj] at q;cases own with
  | true=>
   rw [if_pos rfl];rw [lF] at q;exact ⟨_,_,b1,kb _ _ _ _ _ _ _ _ (by ac_nf),bz,k,aX,aA,aU,ai,c,n,ds,rows,rfl,fP,ej,s0,gs,cq,aL,fun I s1 cp=>⟨_,rfl,q I s1 cp⟩⟩
  | false=>
   rw [if_neg fm];rw [mu] at q;exact q _ (aO.refl _) (fun z=>z)
 .rw [if_neg (by simpa using cD)];rw [decide_eq_false cD,mu,mu,lj] at q;exact q _ (aO.refl _) (fun z=>z)
noncomputable def gz (n:Int) (ds:List a8) (rows:List ST) (s:eK) (m:List Str):eK:=if s.c2 < pQ n ds rows s.lf s.bh then s else { s with bc:=some s.bh,cL:=1,wt:=s.wt.filter fun x=>!decide (x ∈ m) }
theorem af7 (ys:List Str) (x:Str):k7 (fM ys) (bY x)=fM (ys.filter fun y=>decide (y ≠ x)):=by
 unfold k7 fM;rw [List.filter_map];congr 1;refine TN fun y _=>?_
 show decide ((bY y:Key) ≠ bY x)=decide (y ≠ x);exact decide_eq_decide.mpr ⟨fun z e=>z (by rw [e]),fun z e=>z (p' e)⟩
theorem Ux {ms wt:List Str} {x:Str} (ah:ms[i]? = some x):(wt.filter fun y=>!decide (y ∈ ms.take (i + 1)))=(wt.filter fun y=>!decide (y ∈ ms.take i)).filter fun y=>decide (y ≠ x):=by
 rw [jt ah,List.filter_filter];refine TN fun y _=>?_
 rw [jC];simp;exact ⟨fun z=>⟨z.2,z.1⟩,fun z=>⟨z.2,z.1⟩⟩
def abb (P:Program) (w:World) (t:bQ):bU:=fun vs H Q _=>∃ bz k aX aA aU s c n ds rows r,vs=[.ref k]/\ee t H k aX aA aU s/\hs P w t bz aX c n ds rows/\aO bz H/\bz k=none/\bz aA=none/\bz aU=none/\s.lf < rows.length/\rows[s.bh]? = some r/\s.lf ≠ s.bh/\r.mem.length <= 12/\aP H/\∀ I,gR k aA aU H I->aP I->ee t I k aX aA aU (gz n ds rows s r.mem)->Q .b6 I
theorem KV:ct P base T 2 t.ad t.Eo ["self"] (abb P w t):=by
 refine cF (PH T) fun Dm=>?_;exists T.QU.ok Ra,9
 obtain ⟨bz,k,aX,aA,aU,ai,c,n,ds,rows,r,rfl,fP,ej,s0,iR,gs,g_,qU,i7,cj,ml,bM,q⟩:=h;obtain ⟨d9,aq,b1,dH,fB⟩:=id fP;obtain ⟨kh,le,mo,c0,cx,aY,ch,ms,kvs,au,C,bX,ff,gd,fc,h9,l8,lz⟩:=id (ej.same s0);have bx:=iF ao;refine ⟨_,(db (dI (cU kn (bA (U 0) rfl) (cm Dm ao T.L7 T.AW.bN T.OE (aj (bA (U 0) rfl) (aj (bA (U 0) rfl) (aj (bA (U 0) rfl) aG)))) (cc _)) (a6 aec) d2)
   (db (eR (U 0) (bA (U 0) rfl) rfl)
   (db (eR (U 0) aM rfl)
   (a6 (fz fH rfl (eT (bV c8 (bA (bA (U 0) rfl) rfl) (bA (U 0) rfl))) (cA (i:=1) Ra.aD) (a6 (eo (acB (bA (U 0) rfl) (U 1) nX ⟨rfl,rfl,rfl,rfl⟩)))))))),?_⟩
 simp only [dE];refine ra (fun aB I=>I=H/\¬ ai.c2 < pQ n ds rows ai.lf ai.bh/\aB=[~~~k,none]) (fun b2 bJ md _ _=>?_) ?_
 .refine dt (decide (ai.c2 < pQ n ds rows ai.lf ai.bh)) (fun gM aR=>?_) (fun aa=>?_) (fun aa=>?_)
  .nofun;refine ⟨_,SB T b1,_,iZ T b1,_,Iy T b1,_,wD T b1,aX,c,n,ds,rows,ai.lf,ai.bh,_,_,rfl,ej.same s0,bo qU,i7,cj,bM,fun v aI=>⟨_,rfl,_,rfl,?_⟩⟩;rw [N2 (bo qU) i7 aI] at aR;exact aR
  .nofun;rw [md];refine q H (gR.of (aO.refl H)) bM ?_;unfold gz;rw [if_pos (of_decide_eq_true aa)];exact fP
  .simp only [i9];exact bJ _ _ ⟨rfl,of_decide_eq_false aa,rfl⟩
 rintro f_ H1 ⟨rfl,aa,rfl⟩;unfold gz at q;rw [if_neg aa] at q;simp only [dE];exists (fun aB I=>gR k aA aU H1 I/\aP I/\ee t I k aX aA aU { ai with bc:=some ai.bh }/\aB=[~~~k,none]),2
 .nofun;refine ⟨_,wD T b1,_,_,_,b1,T.el,T.BV,by rw [<- aZ (f:=(·.1)),iK];decide,?_⟩;rw [Ls];exact bJ _ _ ⟨fun b u af _ _ e=>by rw [aE af];exact e,bM.upd,⟨d9,aq,aV,by rw [aE (bZ dH b1 (by intro z;cases z))];exact dH,by rw [aE (bZ fB b1 (by intro z;cases z))];exact fB⟩,rfl⟩
 rintro cv aw ⟨fQ,cO,⟨_,r0,a1,a2,f7⟩,rfl⟩;subst aK;simp only [dE];exists (fun aB I=>gR k aA aU H1 I/\aP I/\ee t I k aX aA aU { ai with bc:=some ai.bh,cL:=1 }/\aB=[~~~k,none]),2
 .nofun;refine ⟨_,_,_,a1,T.el,T.zy,by rw [<- aZ (f:=(·.1)),iK];decide,?_⟩;rw [RB];exact bJ _ _ ⟨fun b u af ak a9 e=>by rw [aE af];exact fQ _ _ af ak a9 e,cO.upd,⟨d9,r0,aV,by rw [aE (bZ a2 a1 (by intro z;cases z))];exact a2,by rw [aE (bZ f7 a1 (by intro z;cases z))];exact f7⟩,rfl⟩
 rintro gc bf ⟨ea,dw,q',rfl⟩;obtain ⟨_,Iw,f5,fT,mm⟩:=id q';have s3:aO bz bf:=ea.u3 s0 iR gs g_;obtain ⟨ak',ajD,aj6,ajM,aj0,pL,ali,oE,akM,sk,_,_,_,Se,_⟩:=id ej;have f1:=s3 _ _ sk;have eI:=Se.same s3;have Pg:(rows.map (·.mem))[ai.bh]? = some r.mem:=by rw [c5,i7];rfl
 have uM:ai.bh < oE.length:=by rw [eI.ln];exact (b'.mp Pg).1
 have hm:=bo uM;have R0:=Se.al _ _ _ hm Pg;have em:=s3 _ _ R0;subst aK;nofun;refine ⟨_,iZ T f5,_,rfl,_,FA T f1,_,wD T f5,_,rfl,_,_,rfl,aC.of eI.at_,_,Db (by rw [c5,hm];rfl),_,rfl,⟨_,aC.of em⟩,?_⟩;refine dO.list (xs:=aW r.mem) (fun i σ I=>gR k aA aU H1 I/\aP I/\ee t I k aX aA aU { ai with bc:=some ai.bh,cL:=1,wt:=ai.wt.filter fun y=>!decide (y ∈ r.mem.take i) }/\∃ y,σ=[~~~k,y]) ?_ ?_ ?_ ?_
 .refine ⟨ea,dw,?_,_,rfl⟩;rw [show (ai.wt.filter fun y=>!decide (y ∈ r.mem.take 0))=ai.wt by simp];exact q'
 .rintro i σ I ag bb;ac_rfl
  obtain ⟨dF,_,_,_⟩:=bb;subst aK;exact aC.of (dF.u3 s0 iR gs g_ _ _ R0)
 .rintro i v σ I aI bb;ac_rfl
  obtain ⟨dF,dT,⟨_,JM,cu,cS,uX⟩,y,rfl⟩:=bb;subst aK;unfold aW at aI;obtain ⟨x,ah,rfl⟩:=cy aI;have OR:=Ux (wt:=ai.wt) ah;nofun;refine ⟨_,wG T cu,_,rfl,.inl ⟨_,.inl cS⟩,_,cS,bY x,rfl,fun v aI=>?_,fun aI=>?_⟩
  .refine ⟨fun b u af ak a9 e=>by rw [aE ak];exact dF _ _ af ak a9 e,dT.upd,?_,_,rfl⟩;refine ⟨d9,JM,by rw [aE (bZ cu cS (by intro z;cases z))];exact cu,?_,by rw [aE (dW d9)];exact uX⟩;rw [aV,af7,<- OR]
  .refine ⟨dF,dT,?_,_,rfl⟩;have Cg:x ∉ ai.wt.filter fun y=>!decide (y ∈ r.mem.take i):=fun z=>by
    have:=acu (ai.wt.filter fun y=>!decide (y ∈ r.mem.take i)) x;rw [aI,decide_eq_true z] at this;cases this
   have k_:(ai.wt.filter fun y=>!decide (y ∈ r.mem.take i)).filter (fun y=>decide (y ≠ x))=ai.wt.filter fun y=>!decide (y ∈ r.mem.take i):=List.filter_eq_self.mpr fun y bg=>decide_eq_true (show y ≠ x from fun z=>Cg (by rw [<- z];exact bg))
   rw [OR,k_];exact ⟨d9,JM,cu,cS,uX⟩
 .rintro σ I bb;ac_rfl
  obtain ⟨dF,dT,xg,y,rfl⟩:=bb;subst aK;rw [fb,hB] at xg;nofun;exact q I dF dT xg
noncomputable def mx (s:eK) (i j:Nat) (cx:Str):eK:={ s with bc:=none,lf:=i,bh:=j,c2:=0,pt:=if cx=c4 then (j:Int) else s.pt,po:=if cx=c4 then s.po else (j:Int) }
def X0 (P:Program) (w:World) (t:bQ):bU:=fun vs H Q _=>∃ bz k aX aA aU s c n ds rows,∃ i j:Nat,∃ r,vs=[.ref k,.int (j:Nat)]/\ee t H k aX aA aU s/\s.bc=some i/\hs P w t bz aX c n ds rows/\aO bz H/\bz k=none/\bz aA=none/\bz aU=none/\i < rows.length/\rows[j]? = some r/\i ≠ j/\r.mem.length <= 12/\(cV ds r=c4\/cV ds r=iA)/\aP H/\∀ I,gR k aA aU H I->aP I->ee t I k aX aA aU (gz n ds rows (mx s i j (cV ds r)) r.mem)->Q .b6 I
theorem adV:ct P base T 3 t.zk t.Ei zP (X0 P w t):=by
 refine cF (KV T) fun E7=>?_;exists T.Mm.ok Ue,9
 obtain ⟨bz,k,aX,aA,aU,ai,c,n,ds,rows,i,j,r,rfl,fP,gb,ej,s0,iR,gs,g_,jY,hp,nV,ml,nt,bM,q⟩:=h;obtain ⟨d9,aq,b1,dH,fB⟩:=id fP;obtain ⟨kh,le,mo,c0,cx,aY,ch,ms,kvs,au,C,bX,ff,gd,fc,h9,l8,lz⟩:=id (ej.same s0);have bx:=iF ao;refine ⟨_,(db (r9 bx (bA (U 0) rfl) (bV c8 (bA (bA (U 0) rfl) rfl) (U 1)) (U 1) rfl)
   (db (eR (U 0) (bA (U 0) rfl) rfl)
   (db (eR (U 0) (U 1) rfl)
   (db (eR (U 0) aM rfl)
   (db (eR (U 0) nX rfl)
   (a6 (eo (hT (U 0) T.el T.PG E7 ao T.Oz .nil cI)))))))),?_⟩
 refine dc (fun aB I=>gR k aA aU H I/\aP I/\ee t I k aX aA aU { ai with pt:=if cV ds r=c4 then (j:Int) else ai.pt,po:=if cV ds r=c4 then ai.po else (j:Int) }/\aB=[~~~k,some (.int (j:Nat))]) (fun b2 bJ=>?_) fun cY aK=>?_
 .nofun;refine ⟨_,Ii T b1,_,iZ T b1,_,rfl,_,tI T au,_,rfl,_,aC.of fc,_,Db (r8 (by rw [c5,hp];rfl)),_,rfl,_,j7.k (k:=bY (cV ds r)) fB (gW (show (lb ai.pt ai.po).length <= 2 from cn 2) (by decide)),bJ _ _ ⟨fun b u _ _ a9 e=>by rw [aE a9];exact e,bM.upd,⟨d9,aq,by rw [aE (bZ b1 fB (by intro z;cases z))];exact b1,by rw [aE d9];exact dH,by rw [aV,NR nt]⟩,rfl⟩⟩
 rintro f_ H1 ⟨bH,cp,⟨_,eg,a1,f5,cu⟩,rfl⟩;have R6:=a1;subst aK;rw [show ({ ai with pt:=if cV ds r=c4 then (j:Int) else ai.pt,po:=if cV ds r=c4 then ai.po else (j:Int) }:eK).bc=some i from gb] at R6;refine dc (fun aB I=>gR k aA aU H I/\aP I/\ee t I k aX aA aU { ai with pt:=if cV ds r=c4 then (j:Int) else ai.pt,po:=if cV ds r=c4 then ai.po else (j:Int),lf:=i }/\aB=[~~~k,some (.int (j:Nat))]) (fun b2 bJ=>?_) fun cY aK=>?_
 .nofun;refine ⟨_,oM T R6,_,_,_,a1,T.el,T.Jh,by rw [<- aZ (f:=(·.1)),iK];decide,?_⟩;rw [show eE (some i)=V.int (i:Nat) from rfl,abd];exact bJ _ _ ⟨fun b u af ak a9 e=>by rw [aE af];exact bH _ _ af ak a9 e,cp.upd,⟨d9,eg,aV,by rw [aE (bZ f5 a1 (by intro z;cases z))];exact f5,by rw [aE (bZ cu a1 (by intro z;cases z))];exact cu⟩,rfl⟩
 rintro cv aw ⟨fQ,cO,⟨_,eW,a2,fT,cS⟩,rfl⟩;subst aK;refine dc (fun aB I=>gR k aA aU H I/\aP I/\ee t I k aX aA aU { ai with pt:=if cV ds r=c4 then (j:Int) else ai.pt,po:=if cV ds r=c4 then ai.po else (j:Int),lf:=i,bh:=j }/\aB=[~~~k,some (.int (j:Nat))]) (fun b2 bJ=>?_) fun cY aK=>?_
 .nofun;refine ⟨_,_,_,a2,T.el,T.Ic,by rw [<- aZ (f:=(·.1)),iK];decide,?_⟩;rw [Y4];exact bJ _ _ ⟨fun b u af ak a9 e=>by rw [aE af];exact fQ _ _ af ak a9 e,cO.upd,⟨d9,eW,aV,by rw [aE (bZ fT a2 (by intro z;cases z))];exact fT,by rw [aE (bZ cS a2 (by intro z;cases z))];exact cS⟩,rfl⟩
 rintro gc bf ⟨ea,dw,⟨_,Wt,f7,mm,uX⟩,rfl⟩;subst aK;refine dc (fun aB I=>gR k aA aU H I/\aP I/\ee t I k aX aA aU { ai with pt:=if cV ds r=c4 then (j:Int) else ai.pt,po:=if cV ds r=c4 then ai.po else (j:Int),lf:=i,bh:=j,c2:=0 }/\aB=[~~~k,some (.int (j:Nat))]) (fun b2 bJ=>?_) fun cY aK=>?_
 .nofun;refine ⟨_,_,_,f7,T.el,T.Bj,by rw [<- aZ (f:=(·.1)),iK];decide,?_⟩;rw [Kw];exact bJ _ _ ⟨fun b u af ak a9 e=>by rw [aE af];exact ea _ _ af ak a9 e,dw.upd,⟨d9,Wt,aV,by rw [aE (bZ mm f7 (by intro z;cases z))];exact mm,by rw [aE (bZ uX f7 (by intro z;cases z))];exact uX⟩,rfl⟩
 rintro k8 cN ⟨dF,dT,⟨_,Bk,oi,rk,uW⟩,rfl⟩;subst aK;refine dc (fun aB I=>gR k aA aU H I/\aP I/\ee t I k aX aA aU { ai with pt:=if cV ds r=c4 then (j:Int) else ai.pt,po:=if cV ds r=c4 then ai.po else (j:Int),lf:=i,bh:=j,c2:=0,bc:=none }/\aB=[~~~k,some (.int (j:Nat))]) (fun b2 bJ=>?_) fun cY aK=>?_
 .nofun;refine ⟨_,_,_,oi,T.el,T.BV,by rw [<- aZ (f:=(·.1)),iK];decide,?_⟩;rw [Ls];exact bJ _ _ ⟨fun b u af ak a9 e=>by rw [aE af];exact dF _ _ af ak a9 e,dT.upd,⟨d9,Bk,aV,by rw [aE (bZ rk oi (by intro z;cases z))];exact rk,by rw [aE (bZ uW oi (by intro z;cases z))];exact uW⟩,rfl⟩
 rintro qN dJ ⟨eA,iH,tS,rfl⟩;obtain ⟨_,akF,aaT,_,_⟩:=id tS;subst aK;nofun;exact ⟨_,_,aaT,kb _ _ _ _ _ _ _ _ (by ac_nf),bz,k,aX,aA,aU,_,c,n,ds,rows,r,rfl,tS,ej,eA.u3 s0 iR gs g_,iR,gs,g_,jY,hp,nV,ml,iH,fun I fN kE rU=>q I (eA.trans fN) kE rU⟩
noncomputable abbrev ab9:Str:=ab "Keeper.pick" ++ ab ".<locals>." ++ ab "<lambda>"
theorem acM:Ay "number" "many" "last" (T9 (RW tq)):=⟨rfl,rfl,rfl,by ac_nf,rfl,rfl,rfl,by ac_nf,by ac_nf⟩
noncomputable abbrev kS (Pt:Addr) (H:ar):Prop:=Tab H Pt (EQ (RW tq)) ab9
noncomputable def b3 (ds:List a8) (rows:List ST) (j:Nat):Str:=((rows[j]?).map (cV ds)).getD (ab "")
noncomputable def qG (rows:List ST) (x:Str):Nat:=(fu rows x).getD 0
noncomputable def jh (rows:List ST) (s:eK):List Nat:=s.wt.map (qG rows)
noncomputable def k5 (ds:List a8) (rows:List ST) (s:eK) (i:Nat):List Nat:=(jh rows s).filter fun j=>!decide (b3 ds rows j=b3 ds rows i)
noncomputable def gY (ds:List a8) (rows:List ST) (s:eK) (i:Nat):List Nat:=if (k5 ds rows s i).isEmpty then jh rows s else k5 ds rows s i
noncomputable def qE (ds:List a8) (rows:List ST) (s:eK) (ch:List Nat):Int:=if b3 ds rows (ch.headD 0)=c4 then s.pt else s.po
noncomputable def gr (last many m:Int):Int:=(m - last - 1) % many
def AR (ds:List a8) (rows:List ST) (s:eK) (i j:Nat):Prop:=j ∈ gY ds rows s i/\∀ gZ ∈ gY ds rows s i,gr (qE ds rows s (gY ds rows s i)) rows.length j <= gr (qE ds rows s (gY ds rows s i)) rows.length gZ
def Wc (P:Program) (w:World) (t:bQ) (Pt:Addr):bU:=fun vs H Q _=>∃ bz k aX aA aU s c n ds rows,∃ i:Nat,vs=[.ref k]/\ee t H k aX aA aU s/\s.bc=some i/\i < rows.length/\hs P w t bz aX c n ds rows/\aO bz H/\bz aA=none/\(∀ x ∈ s.wt,told rows x=true)/\s.wt ≠ []/\s.wt.length <= 12/\(∀ r ∈ rows,cV ds r=c4\/cV ds r=iA)/\kS Pt H/\aP H /\
 ∀ (j:Nat) I,kZ Pt H I->aP I->kS Pt I->AR ds rows s i j->Q (.int j) I
theorem VV {rows:List ST} {x:Str} (h:told rows x=true):qG rows x < rows.length:=by
 obtain ⟨j,r,aJ,az,iB,_⟩:=nY h;unfold qG;rw [az];exact (b'.mp iB).1
theorem vY {rows:List ST} (h:∀ x ∈ s.wt,told rows x=true):∀ j ∈ jh rows s,j < rows.length:=fun j aJ=>by
 obtain ⟨x,ah,rfl⟩:=bK.mp aJ;exact VV (h x ah)
theorem zv {rows:List ST} (h:∀ x ∈ s.wt,told rows x=true):∀ j ∈ gY ds rows s i,j < rows.length:=fun j aJ=>by
 unfold gY at aJ;split at aJ
 .exact vY h j aJ
 .exact vY h j (iY.mp aJ).1
theorem JW {rows:List ST} (h:s.wt ≠ []):gY ds rows s i ≠ []:=by
 unfold gY;split
 .unfold jh;simpa using h
 .rename_i af;simpa using af
theorem Hx {rows:List ST} (h:j < rows.length):(rows.map (cV ds))[j]? = some (b3 ds rows j):=by
 unfold b3;rw [c5,bo h];rfl
noncomputable def eL (A3:List Nat):List V:=A3.map fun j=>V.int (j:Nat)
theorem aaM (A3:List Nat):eL A3=rq V.int (A3.map fun j=>((j:Nat):Int)):=by
 unfold eL;rw [m6];rfl
theorem L3 (p:Nat->Bool):∀ xs:List Nat,((xs.map fun x=>if p x=true then some (V.int (x:Nat)) else none).flatMap B2)=eL (xs.filter p)
 | []=>rfl
 | x :: xs=>by
  rw [er,vJ,L3 p xs];cases h:p x <;> simp [eL,h]
theorem Vp (de:pE base t.rE Pt) (h1:base.BuiltinsAt mg Pt):ct P base T 2 t.zQ t.yQ ["self"] (Wc P w t Pt):=by
 have ag4:=T.ain;refine T.OC.ahN rx (fun vs H Q E h=>?_) (fun fo ki A outer s H vs Q E ao h=>?_)
 .obtain ⟨bz,k,aX,aA,aU,ai,c,n,ds,rows,i,rfl,_⟩:=h;rfl
 obtain ⟨bz,k,aX,aA,aU,ai,c,n,ds,rows,i,rfl,⟨d9,aq,b1,dH,fB⟩,gb,jY,ej,s0,gs,cq,cj,aL,nt,bP,bM,q⟩:=h;obtain ⟨kh,le,mo,c0,cx,aY,ch,ms,kvs,au,C,bX,ff,gd,fc,h9,l8,lz⟩:=id ej;have bx:=iF ao;refine ⟨_,(db (ae5 (xn (i:=1) rx.aD rfl (pq rfl) rfl (Oi (bA (U 0) rfl)) (gA (sc:=bt tq) rfl (by ac_nf)) (N:=zx) (sel:=[none,some 0]) (gC (M:=Eb) (by ac_nf)) (fx.of (fun _ _ _ _=>(cA (i:=0) (eu (N:=zx) (by ac_nf) rfl))) (fun _ _ _ _=>⟨_,h4,by walk_at "B"⟩) (fun _ _ _ _=>⟨_,(n6 bx (bA (bA (U 1) rfl) rfl) (U 0) (fun _ _=>rfl)),by walk_at "B"⟩)) rfl))
   (db (px (i:=2) rx.aD rfl (mG rfl) (bV c8 (bA (bA (U 0) rfl) rfl) (bA (U 0) rfl)))
   (db (xn (i:=3) rx.aD rfl (pq rfl) rfl (eT (U 1)) (gA (sc:=bt tq) rfl (by ac_nf)) (N:=["number","self","same"]) (sel:=[none,some 0,some 2]) (gC (M:=Eb) (by ac_nf)) (fx.of (fun _ _ _ _=>(cA (i:=0) (eu (N:=["number","self","same"]) (by ac_nf) rfl))) (fun _ _ _ _=>⟨_,(v' (cU o6 (bV c8 (bA (bA (U 1) rfl) rfl) (U 0)) (U 2) (cc _))),by walk_at "B"⟩) (fun _ _ _ _=>⟨_,(U 0),by walk_at "B"⟩)) rfl)
   (db (b7 (i:=4) rx.aD (tC (zr (U 3) (fun _=>rfl)) (U 3) (U 1)))
   (db (px (i:=5) rx.aD rfl (mG rfl) (n6 bx (bA (U 0) rfl) (bV c8 (bA (bA (U 0) rfl) rfl) (bV c8 (U 4) aM)) (fun _ _=>rfl)))
   (db (px (i:=6) rx.aD rfl (mG rfl) (bA (bA (U 0) rfl) rfl))
   (a6 (cg (Uk (pr := "number") (y := "many") (z := "last") (i1:=6) (i2:=5) rfl rfl T.WH (aj (U 4) aG) ⟨ki.symm.trans ag4,de,h1⟩ ao acM rfl rfl rfl rfl rfl rfl rfl rfl (fun _ _ _ _=>rfl) (fun _ _ _ _=>⟨_,(bD i0 (bD k1 (bD k1 (U 0) (U 2)) aM) (U 1)),by first | rfl | (dsimp only [rO];done) | (dsimp only [rO];exact rfl)⟩)))))))))),?_⟩
 simp only [dE];exists (fun aB I=>aO H I/\aP I/\∃ wp,H wp=none/\I wp=some (.lst (eL (jh rows ai)))/\aB=[~~~k,~~~wp,none,none,none,none,none]),2
 .nofun;refine ⟨aA,_,dH,_,wG T b1,_,rfl,_,dH,fun o=>?_⟩;have gT:(fM ai.wt).length=ai.wt.length:=by unfold fM;rw [aZ]
  have nh:aO bz (upd H aA (.eM o (.bu (fM ai.wt)))):=fun b u e=>by rw [aE (dy e gs)];exact s0 _ _ e
  have zX:(upd H aA (.eM o (.bu (fM ai.wt)))) k=some (.ins t.c6 aq (e3 aX (eE ai.bc) ai.cL ai.lf ai.bh ai.c2 aA aU)):=by rw [aE (bZ b1 dH (by intro z;cases z))];exact b1
  have rN:(upd H aA (.eM o (.bu (fM ai.wt)))) aA=some (.eM o (.bu (fM ai.wt))):=aV;refine c9.Lf (zs:=eL (jh rows ai)) rN (by rw [gT];exact c_ aL (by decide)) (by unfold eL jh;rw [aZ,aZ,gT]) (fun fF ae8 v z N az aT br=>?_) (fun p ax=>?_)
  .unfold fM at az;obtain ⟨x,ah,ex⟩:=cy az;cases ex;unfold eL jh at aT;obtain ⟨gZ,aa,rfl⟩:=cy aT;obtain ⟨fN,ew,rfl⟩:=cy aa;rw [ah] at ew;cases ew;obtain ⟨j,r,aJ,e1,iB,_⟩:=nY (cq x (cC ah));have aQ:=gI.k (k:=bY x) (nh _ _ h9);rw [aJ] at aQ;have he:qG rows x=j:=by unfold qG;rw [e1];rfl
   rw [he] at br;nofun;exact ⟨Sub.name,_,iZ T zX,_,rfl,_,yA T (nh _ _ au),_,rfl,_,aQ,br⟩
  .have i_:p ≠ aA:=fun z=>by rw [z,rN] at ax;cases ax
   have zB:H p=none:=by rw [aE i_] at ax;exact ax
   refine ⟨o,by rw [aE (dW i_)];exact rN,bJ _ _ ⟨fun b u e=>?_,bM.upd.upd.upd,p,zB,by rw [aE i_];exact aV,rfl⟩⟩;by_cases cD:b=aA
   .subst cD;rw [dH] at e;cases e;exact aV
   .rw [aE cD,aE (dy e zB),aE cD];exact e
 rintro f_ H1 ⟨s1,cp,wp,akt,dx,rfl⟩;subst aK;simp only [dE];exists (fun aB I=>I=H1/\aB=[~~~k,~~~wp,some (.str (b3 ds rows i)),none,none,none,none]),2
 .nofun;have k':=s1 _ _ b1;rw [gb] at k';exact ⟨_,iZ T k',_,rfl,_,tI T (s1 _ _ (s0 _ _ au)),_,oM T k',_,rfl,_,_,rfl,aC.of (s1 _ _ (s0 _ _ fc)),_,Db (r8 (Hx jY)),bJ _ _ ⟨rfl,rfl⟩⟩
 rintro cv aw ⟨rfl,rfl⟩;subst aK;simp only [dE];exists (fun aB I=>aO aw I/\aP I/\∃ op,aw op=none/\I op=some (.lst (eL (k5 ds rows ai i)))/\aB=[~~~k,~~~wp,some (.str (b3 ds rows i)),~~~op,none,none,none]),2
 .nofun;refine ⟨⟨_,aC.of dx⟩,?_⟩;refine c9.um (xs:=eL (jh rows ai)) (ss:=(jh rows ai).map fun j=>if (!decide (b3 ds rows j=b3 ds rows i))=true then some (V.int (j:Nat)) else none) (aC.of dx) (by unfold eL jh;rw [aZ,aZ];exact c_ aL (by decide)) (by unfold eL;rw [aZ,aZ]) (fun fF v o ys N aI aY br=>?_) (fun l yS=>?_)
  .unfold eL at aI;obtain ⟨j,aJ,rfl⟩:=cy aI;obtain ⟨gZ,h3,rfl⟩:=cy aY;rw [aJ] at h3;cases h3;have jv:=vY cq j (cC aJ);nofun;refine ⟨Sub.name,_,iZ T (s1 _ _ b1),_,rfl,_,tI T (s1 _ _ (s0 _ _ au)),_,rfl,_,aC.of (s1 _ _ (s0 _ _ fc)),_,Db (r8 (Hx jv)),rfl,?_⟩;by_cases cD:b3 ds rows j=b3 ds rows i
   .rw [if_neg (by rw [cD,decide_eq_true rfl];exact fm)];simp [cD] at br;exact br
   .rw [if_pos (by rw [decide_eq_false (fun z=>cD (by injection z))];rfl)];simp [cD] at br;exact br
  .rw [L3];exact bJ _ _ ⟨bE yS,cp.upd,l,yS,aV,rfl⟩
 rintro gc bf ⟨s3,dw,op,ajN,Km,rfl⟩;have hu:=s3 _ _ dx;subst aK;simp only [dE];exists (fun aB I=>I=bf/\∃ tm,bf tm=some (.lst (eL (gY ds rows ai i)))/\aB=[~~~k,~~~wp,some (.str (b3 ds rows i)),~~~op,~~~tm,none,none]),2
 .nofun;refine ⟨!(k5 ds rows ai i).isEmpty,.inl ⟨_,aC.of Km,?_⟩,?_⟩
  .unfold eL;cases k5 ds rows ai i <;> rfl
  .cases PU:(k5 ds rows ai i).isEmpty with
   | true=>
    rw [if_neg (by rw [SX];exact fm)];exact bJ _ _ ⟨rfl,wp,by unfold gY;rw [if_pos PU];exact hu,rfl⟩
   | false=>
    rw [if_pos (by rfl)];exact bJ _ _ ⟨rfl,op,by unfold gY;rw [if_neg (by rw [PU];exact fm)];exact Km,rfl⟩
 rintro k8 cN ⟨rfl,tm,uW,rfl⟩;subst aK;simp only [dE];exists (fun aB I=>I=cN/\aB=[~~~k,~~~wp,some (.str (b3 ds rows i)),~~~op,~~~tm,some (.int (qE ds rows ai (gY ds rows ai i))),none]),2
 .nofun;have Sn:=s3 _ _ (s1 _ _ b1);have tl:∀ {b u},bz b=some u->cN b=some u:=fun e=>s3 _ _ (s1 _ _ (s0 _ _ e))
  obtain ⟨vh,kC,hn⟩:=qM (JW (ds:=ds) (rows:=rows) (i:=i) cj);have oI:vh < rows.length:=zv cq vh (by rw [hn];exact .head _);have Y3:=Hx (ds:=ds) oI;have agK:b3 ds rows vh=c4\/b3 ds rows vh=iA:=by
   unfold b3;rw [bo oI];exact nt _ (iM oI)
  have sR:=ahd (a:=ai.pt) (b:=ai.po) agK;have aQ:=gI.k (k:=bY (b3 ds rows vh)) (s3 _ _ (s1 _ _ fB));rw [sR] at aQ;refine ⟨_,Ii T Sn,_,iZ T Sn,_,rfl,_,tI T (tl au),_,aC.of uW,_,Db (j:=0) (by rw [hn];rfl),_,rfl,_,_,rfl,aC.of (tl fc),_,Db (r8 Y3),_,rfl,_,aQ,bJ _ _ ⟨rfl,?_⟩⟩;unfold qE;rw [hn];rfl
 rintro qN dJ ⟨rfl,rfl⟩;subst aK;simp only [dE];exists (fun aB I=>I=dJ/\aB=[~~~k,~~~wp,some (.str (b3 ds rows i)),~~~op,~~~tm,some (.int (qE ds rows ai (gY ds rows ai i))),some (.int rows.length)]),2
 .nofun;exact ⟨_,iZ T (s3 _ _ (s1 _ _ b1)),_,rfl,_,Hc T (s3 _ _ (s1 _ _ (s0 _ _ au))),bJ _ _ ⟨rfl,rfl⟩⟩
 rintro mq iQ ⟨rfl,rfl⟩;subst aK;nofun;have adz:kS Pt iQ:=(bP.step s1).step s3;refine ⟨(gY ds rows ai i).map fun j=>((j:Nat):Int),aC.of (by rw [<- aaM];exact uW),by simpa using JW (ds:=ds) (rows:=rows) (i:=i) cj,adz,gr (qE ds rows ai (gY ds rows ai i)) rows.length,fun aw bO Tj pj=>⟨fun n a4=>⟨by omega,rfl⟩,fun fF m hm aa=>?_⟩⟩;rw [c5] at hm;obtain ⟨j,aJ,rfl⟩:=vr.mp hm;refine q j aw (fun b u fY e=>bO _ _ fY (s3 _ _ (s1 _ _ e))) (Tj dw) pj ⟨cC aJ,fun gZ h3=>?_⟩;obtain ⟨x,ah,ex⟩:=G_ h3;exact (aa x (gZ:Int) (by rw [c5,bo ah,ex];rfl)).1
def iq (H I:ar):Prop:=∀ b o,(∀ ps,o ≠ gj.gL ps)->H b=some o->I b=some o
theorem ahf (bP:Tab H Pt pos q) (s:kZ Pt H I):iq H I:=fun b o n e=>s b o (bP.ne e n) e
theorem iq.trans (a:iq H H1) (b:iq H1 aw):iq H aw:=fun c o n h=>b c o n (a c o n h)
theorem iq.lst (s:iq H I) (e:H b=some (.lst xs)):I b=some (.lst xs):=s b _ (fun _ z=>by cases z) e
theorem iq.tup (s:iq H I) (e:H b=some (.tup xs)):I b=some (.tup xs):=s b _ (fun _ z=>by cases z) e
theorem iq.ins (s:iq H I) {aN:List (Str × V)} (e:H b=some (.ins C aq aN)):I b=some (.ins C aq aN):=s b _ (fun _ z=>by cases z) e
theorem iq.bu (s:iq H I) (e:H b=some (.bu kvs)):I b=some (.bu kvs):=s b _ (fun _ z=>by cases z) e
theorem S4 {K:ba} {ns:List Int} (S:Sc K a ns H) (s:iq H I) (bM:aP I):Sc K a ns I:=by
 refine ⟨?_,bM⟩;rcases S.pk with ⟨o,h⟩ | h
 .exact .inl ⟨o,s _ _ (fun _ z=>by cases z) h⟩
 .exact .inr h
theorem fp.o5 {t:bQ} (h:fp t H c n ds) (s:iq H I):fp t I c n ds:=by
 obtain ⟨h0,aq,wl,aD,au,⟨as,dx,eb,al⟩,bX⟩:=h;refine ⟨h0,aq,wl,aD,s.ins au,⟨as,s.lst dx,eb,fun i b d aa hd=>?_⟩,s.bu bX⟩;obtain ⟨k,ahg,fl⟩:=al i b d aa hd;exact ⟨k,ahg,s.ins fl⟩
theorem hs.o5 {w:World} {t:bQ} {rows:List ST} (h:hs P w t H a c n ds rows) (s:iq H I):hs P w t I a c n ds rows:=by
 obtain ⟨aq,le,mo,c0,cx,aY,ch,ms,kvs,au,aH,bX,ff,gd,fc,h9,⟨o,a3,cG,xs,r⟩,lz⟩:=h;exact ⟨aq,le,mo,c0,cx,aY,ch,ms,kvs,s.ins au,aH.o5 s,s.lst bX,s.lst ff,⟨s.lst gd.at_,gd.ln,fun i m x a b=>s.lst (gd.al i m x a b)⟩,s.lst fc,s.bu h9,
  ⟨o,a3,cG,xs,s _ _ (fun _ z=>by cases z) r.at_,r.ex,r.dat,r.ent,r.aD,Paired.qv r.b9 fun p q z=>⟨z.1,s.tup z.2.1,z.2.2⟩,r.m',r.ns⟩,lz⟩
noncomputable def fX (H:ar):ar:=fun b=>match H b with
 | some (.gL _)=>none
 | o=>o
theorem VQ (bP:Tab H Pt pos q):fX H Pt=none:=by
 obtain ⟨ps,e,_⟩:=bP;unfold fX;rw [e]
theorem FF (h:H b=none):fX H b=none:=by
 unfold fX;rw [h]
theorem Ng (H:ar):aO (fX H) H:=fun b u e=>by
 unfold fX at e;split at e
 .cases e
 .exact e
theorem wK (H:ar):iq H (fX H):=fun b u n e=>by
 unfold fX;split
 .rename_i ps h;rw [h] at e;cases e;exact absurd rfl (n ps)
 .exact e
structure mv (ds:List a8) (rows:List ST):Prop where
 cB:∀ d ∈ ds,told rows d.name=true
 fU:∀ r ∈ rows,r.mem.length <= 12
 cx:∀ r ∈ rows,cV ds r=c4\/cV ds r=iA
 dl:ds.length <= 12
structure h8 (ds:List a8) (rows:List ST) (s:eK):Prop where
 wn:s.wt.Nodup
 aA:∀ x ∈ s.wt,x ∈ ds.map (·.name)
 bc:∀ i,s.bc=some i->i < rows.length/\∀ x ∈ s.wt,fu rows x ≠ some i
 ch:s.bc=none->s.lf < rows.length/\s.bh < rows.length/\s.lf ≠ s.bh
theorem h8.told {rows:List ST} (k:h8 ds rows s) (R:mv ds rows):∀ x ∈ s.wt,told rows x=true:=fun x ah=>by
 obtain ⟨d,hd,rfl⟩:=bK.mp (k.aA x ah);exact R.cB d hd
theorem h8.len {rows:List ST} (k:h8 ds rows s) (R:mv ds rows):s.wt.length <= 12:=by
 have:=k.wn.length_le_of_subset (l₂:=ds.map (·.name)) fun x ah=>k.aA x ah
 rw [aZ] at this;have:=R.dl;omega
def nM (n:Int) (ds:List a8) (rows:List ST) (s:eK) (own:Bool) (ai:eK):Prop:=
 (s.bc=none/\∃ r,rows[s.bh]? = some r/\ai=gz n ds rows { s with c2:=s.c2 + 1 } r.mem) \/
 (∃ i r,s.bc=some i/\rows[i]? = some r/\oN ds rows s r own=true/\ai = { s with cL:=s.cL + 1 }) \/
 (∃ i r j u1,s.bc=some i/\rows[i]? = some r/\oN ds rows s r own=false/\AR ds rows s i j/\rows[j]? = some u1/\ai=gz n ds rows (mx s i j (cV ds u1)) u1.mem)
theorem va {rows:List ST} (cq:∀ x ∈ s.wt,told rows x=true) (h:j ∈ gY ds rows s i):∃ x ∈ s.wt,fu rows x=some j:=by
 have hm:j ∈ jh rows s:=by
  unfold gY at h;split at h
  .exact h
  .exact (iY.mp h).1
 obtain ⟨x,ah,rfl⟩:=bK.mp hm;obtain ⟨j,r,aJ,az,iB,_⟩:=nY (cq x ah);refine ⟨x,ah,?_⟩;unfold qG;rw [az];rfl
theorem Ty {rows:List ST} (R:mv ds rows) (wn:s.wt.Nodup) (aA:∀ x ∈ s.wt,x ∈ ds.map (·.name)) (av:s.bc=none) (aL:s.lf < rows.length) (ao:rows[s.bh]? = some r) (cj:s.lf ≠ s.bh):h8 ds rows (gz n ds rows s r.mem):=by
 have j3:s.bh < rows.length:=(b'.mp ao).1;unfold gz;split
 .exact ⟨wn,aA,fun i h=>(by rw [av] at h;cases h),fun _=>⟨aL,j3,cj⟩⟩
 .refine ⟨wn.filter _,fun x ah=>aA x (iY.mp ah).1,fun i h=>?_,fun h=>by cases h⟩;cases h;refine ⟨j3,fun x ah e=>?_⟩;have ew:=iY.mp ah;obtain ⟨d,hd,p7⟩:=bK.mp (aA x ew.1);obtain ⟨j,ei,aJ,az,iB,hm⟩:=nY (R.cB d hd);rw [p7] at az hm;rw [az] at e;cases e;rw [ao] at iB;cases iB;have:=ew.2;simp [hm] at this
theorem agW {rows:List ST} (R:mv ds rows) (k:h8 ds rows s) (h:nM n ds rows s own ai):h8 ds rows ai:=by
 rcases h with ⟨af,r,ao,rfl⟩ | ⟨i,r,af,ao,_,rfl⟩ | ⟨i,r,j,u1,af,ao,_,ax,aJ,rfl⟩
 .obtain ⟨a,b,c⟩:=k.ch af;exact Ty (s:={ s with c2:=s.c2 + 1 }) R k.wn k.aA af a ao c
 .exact ⟨k.wn,k.aA,k.bc,k.ch⟩
 .obtain ⟨a,b⟩:=k.bc i af;obtain ⟨x,ah,az⟩:=va (k.told R) ax.1;refine Ty (s:=mx s i j (cV ds u1)) R k.wn k.aA rfl a aJ (fun e=>?_);have e:i=j:=e;subst e;exact b x ah az
def I0 (k aA aU Pt:Addr) (H I:ar):Prop:=∀ b u,b ≠ k->b ≠ aA->b ≠ aU->b ≠ Pt->H b=some u->I b=some u
theorem ve {t:bQ} {k aX aA aU Pt:Addr} (fP:ee t H k aX aA aU s) (bP:Tab H Pt pos q) (x:gR k aA aU H I):Tab I Pt pos q:=by
 obtain ⟨_,aq,b1,dH,fB⟩:=fP;obtain ⟨ps,e,d⟩:=bP;refine ⟨ps,x _ _ (bZ e b1 (by intro z;cases z)) (bZ e dH (by intro z;cases z)) (bZ e fB (by intro z;cases z)) e,?_⟩;rcases d with d | ⟨c',d,bT⟩
 .exact .inl d
 .exact .inr ⟨c',d,x _ _ (bZ bT b1 (by intro z;cases z)) (bZ bT dH (by intro z;cases z)) (bZ bT fB (by intro z;cases z)) bT⟩
theorem ee.o5 {t:bQ} {k aX aA aU:Addr} (h:ee t H k aX aA aU s) (x:iq H I):ee t I k aX aA aU s:=by
 obtain ⟨h0,aq,b1,dH,fB⟩:=h;exact ⟨h0,aq,x.ins b1,x.bu dH,x.bu fB⟩
def WX (P:Program) (w:World) (t:bQ) (Pt:Addr):bU:=fun vs H Q _=>∃ bz k aX aA aU s c n ds rows own,vs=[.ref k,.bk own]/\ee t H k aX aA aU s/\hs P w t bz aX c n ds rows/\aO bz H/\bz k=none/\bz aA=none/\bz aU=none/\bz Pt=none/\mv ds rows/\h8 ds rows s/\kS Pt H/\aP H /\
 ∀ ai I,nM n ds rows s own ai->I0 k aA aU Pt H I->aP I->kS Pt I->ee t I k aX aA aU ai->Q .b6 I
theorem ahE (de:pE base t.rE Pt) (h1:base.BuiltinsAt mg Pt):ct P base T 4 t.x3 t.F' pN (WX P w t Pt):=by
 refine cF (KV T) fun E7=>cF (aep T) fun ahw=>cF (adV T) fun Vk=>cF (Vp T de h1) fun ahI=>?_;exists T.LW.ok ab3,9
 obtain ⟨bz,k,aX,aA,aU,ai,c,n,ds,rows,own,rfl,fP,ej,s0,iR,gs,g_,EL,R,lr,bP,bM,q⟩:=h;obtain ⟨d9,aq,b1,dH,fB⟩:=id fP;have bx:=iF ao;refine ⟨_,(a6 (dI (cU D5 (bA (U 0) rfl) nX (cc _)) (db (Ew (U 0) aM EK)
   (a6 (eo (hT (U 0) T.el T.PG E7 ao T.Oz .nil cI)))) (a6 (dI (lY (e4 (U 0) T.el T.Wa ahw ao T.Wk .nil cI (aj (U 1) aG))) (a6 (Ew (U 0) aM EK)) (a6 (eo (e4 (U 0) T.el T.acK Vk ao T.Y1 .nil cI (aj (hT (U 0) T.el T.Wy ahI ao T.Y0 .nil cI) aG)))))))),?_⟩
 cases gb:ai.bc with
 | none=>
  rw [gb] at b1;obtain ⟨g1,g2,g3⟩:=lr.ch gb;have PR:=bo g2;nofun;refine dt true (fun Q aR=>?_) (fun _=>?_) (fun ay=>nomatch ay)
  .nofun;exact ⟨_,oM T b1,aR⟩
  simp only [dE];exists (fun aB I=>gR k aA aU H I/\aP I/\ee t I k aX aA aU { ai with c2:=ai.c2 + 1 }/\aB=[~~~k,some (.bk own)]),2
  .nofun;refine ⟨_,_,_,b1,T.el,T.Bj,_,f' lE 5 (iK ..) (by ac_nf) rfl,_,rfl,_,_,b1,by rw [<- aZ (f:=(·.1)),iK];decide,?_⟩;rw [Kw];exact bJ _ _ ⟨fun b u af _ _ e=>by rw [aE af];exact e,bM.upd,⟨d9,aq,by rw [aV];exact congrArg (fun z=>some (gj.ins t.c6 aq (e3 aX (eE z) ai.cL ai.lf ai.bh (ai.c2 + 1) aA aU))) gb.symm,by rw [aE (bZ dH b1 (by intro z;cases z))];exact dH,by rw [aE (bZ fB b1 (by intro z;cases z))];exact fB⟩,rfl⟩
  rintro f_ H1 ⟨bH,cp,uo,rfl⟩;obtain ⟨_,eg,a1,f5,cu⟩:=id uo;subst aK;nofun;exact ⟨_,_,a1,kb _ _ _ _ _ _ _ _ (by ac_nf),bz,k,aX,aA,aU,_,c,n,ds,rows,_,rfl,uo,ej,bH.u3 s0 iR gs g_,iR,gs,g_,g1,PR,g3,R.fU _ (iM g2),cp,fun I fN kE rU=>q _ I (.inl ⟨gb,_,PR,rfl⟩) (fun b u af ak a9 _ e=>fN _ _ af ak a9 (bH _ _ af ak a9 e)) kE (ve uo (ve fP bP bH) fN) rU⟩
 | some i=>
  rw [gb] at b1;obtain ⟨g1,g2⟩:=lr.bc i gb;have i7:=bo g1;nofun;refine dt false (fun Q aR=>?_) (fun ay=>nomatch ay) (fun _=>?_)
  .nofun;exact ⟨_,oM T b1,aR⟩
  have cq:=lr.told R;have aL:=lr.len R;refine B6 (fun b I=>aO H I/\aP I/\b=oN ds rows ai rows[i] own) (fun gM ym=>?_) ?_ ?_
  .nofun;exact ⟨_,_,b1,kb _ _ _ _ _ _ _ _ (by ac_nf),bz,k,aX,aA,aU,ai,c,n,ds,rows,i,_,own,rfl,fP,gb,i7,ej,s0,gs,cq,aL,fun I s1 cp=>⟨_,rfl,ym _ _ ⟨s1,cp bM,rfl⟩⟩⟩
  .rintro H1 ⟨s1,cp,aa⟩;have k':=s1 _ _ b1;nofun;refine ⟨_,_,_,k',T.el,T.zy,_,f' lE 2 (iK ..) (by ac_nf) rfl,_,rfl,_,_,k',by rw [<- aZ (f:=(·.1)),iK];decide,?_⟩;rw [RB];have bH:gR k aA aU H (upd H1 k (.ins t.c6 aq (e3 aX (eE (some i)) (ai.cL + 1) ai.lf ai.bh ai.c2 aA aU))):=fun b u af _ _ e=>by rw [aE af];exact s1 _ _ e
   exact q { ai with cL:=ai.cL + 1 } _ (.inr (.inl ⟨i,_,gb,i7,aa.symm,rfl⟩)) (fun b u af ak a9 _ e=>bH _ _ af ak a9 e) cp.upd (ve fP bP bH) ⟨d9,aq,by rw [aV];exact congrArg (fun z=>some (gj.ins t.c6 aq (e3 aX (eE z) (ai.cL + 1) ai.lf ai.bh ai.c2 aA aU))) gb.symm,by rw [aE (bZ dH b1 (by intro z;cases z))];exact s1 _ _ dH,by rw [aE (bZ fB b1 (by intro z;cases z))];exact s1 _ _ fB⟩
  .rintro H1 ⟨s1,cp,aa⟩;have k':=s1 _ _ b1;have cj:ai.wt ≠ []:=fun z=>by
    unfold oN at aa;rw [z] at aa;simp at aa
   nofun;refine ⟨_,_,k',kb _ _ _ _ _ _ _ _ (by ac_nf),_,_,k',kb _ _ _ _ _ _ _ _ (by ac_nf),bz,k,aX,aA,aU,ai,c,n,ds,rows,i,rfl,fP.same s1,gb,g1,ej,s0.trans s1,gs,cq,cj,aL,R.cx,bP.step s1,cp,fun j aw bO cO pj ax=>?_⟩;have sY:=(fP.same s1).o5 (ahf (bP.step s1) bO);obtain ⟨x,ah,az⟩:=va cq ax.1;have jv:=zv cq j ax.1;have hp:=bo jv;exact ⟨bz,k,aX,aA,aU,ai,c,n,ds,rows,i,j,_,rfl,sY,gb,ej,fun b u e=>bO _ _ (dy e EL) ((s0.trans s1) _ _ e),iR,gs,g_,g1,hp,fun e=>g2 x ah (by rw [az,e]),R.fU _ (iM jv),R.cx _ (iM jv),cO,fun I fN kE rU=>q _ I (.inr (.inr ⟨i,_,j,_,gb,i7,aa.symm,ax,hp,rfl⟩)) (fun b u af ak a9 cW e=>fN _ _ af ak a9 (bO _ _ cW (s1 _ _ e))) kE (ve sY pj fN) rU⟩
noncomputable def jm (rows:List ST) (s:eK) (x:Str):Bool:=match s.bc with
 | some i=>decide (fu rows x=some i)
 | none=>false
theorem Pw (n:Int) (ds:List a8) (rows:List ST) (s:eK) (d:a8):decide (V.str (ig n ds rows s d)=V.str (ab "free"))=jm rows s d.name:=by
 have af:(V.str (ab "stop"):V) ≠ V.str (ab "free"):=fun z=>absurd (V.str.inj z) (by ac_nf)
 have ak:(V.str (ab "fade"):V) ≠ V.str (ab "free"):=fun z=>absurd (V.str.inj z) (by ac_nf)
 have a9:(V.str (ab "ready"):V) ≠ V.str (ab "free"):=fun z=>absurd (V.str.inj z) (by ac_nf)
 unfold ig jm;cases s.bc with
 | none=>
  show decide (V.str (tJ n ds rows s d)=_)=false;unfold tJ;split
  .exact decide_eq_false ak
  .split
   .exact decide_eq_false a9
   .exact decide_eq_false af
 | some i=>
  show decide (V.str (tX rows i d.name)=_)=decide (fu rows d.name=some i);unfold tX;split
  .rename_i h;rw [decide_eq_true rfl,decide_eq_true h]
  .rename_i h;rw [decide_eq_false af,decide_eq_false h]
noncomputable def mP (rows:List ST) (s:eK) (wt:List Str) (x:Str):List Str:=if jm rows s x=true\/x ∈ wt then wt else wt ++ [x]
noncomputable def k4 (rows:List ST) (s:eK) (wt:List Str) (xs:List Str):List Str:=xs.foldl (mP rows s) wt
noncomputable def n9 (rows:List ST) (s:eK) (xs:List Str):eK:={ s with wt:=k4 rows s s.wt xs }
theorem abO (wt:List Str) (x:Str):d5 (fM wt) (bY x) (.bk true)=fM (if x ∈ wt then wt else wt ++ [x]):=by
 unfold d5;have zm:((fM wt).any fun c7=>decide (c7.1=bY x))=decide (x ∈ wt):=by
  rw [jC,decide_eq_true_eq,qi];constructor
  .rintro ⟨p,ax,ah⟩;obtain ⟨y,bg,rfl⟩:=bK.mp ax;have:=p' (of_decide_eq_true ah);rw [<- this];exact bg
  .exact fun h=>⟨(bY x,V.bk true),bK.mpr ⟨x,h,rfl⟩,decide_eq_true rfl⟩
 by_cases h:x ∈ wt
 .rw [if_pos (by rw [zm];exact decide_eq_true h),if_pos h];unfold fM;rw [m6];refine zS fun y _=>?_
  show (if (bY y:Key)=bY x then ((bY y:Key),V.bk true) else (bY y,V.bk true))=_;split <;> rfl
 .rw [if_neg (by rw [zm,decide_eq_false h];exact fm),if_neg h];unfold fM;rw [eZ];rfl
theorem ag5 {ds:List a8} {rows:List ST} {s:eK} {wt:List Str} {x:Str} (ah:x ∈ ds.map (·.name)) (k:h8 ds rows { s with wt:=wt }):h8 ds rows { s with wt:=mP rows s wt x }:=by
 unfold mP;split
 .exact k
 .rename_i h;have af:x ∉ wt:=fun z=>h (.inr z)
  refine ⟨?_,fun y bg=>?_,fun i ag=>⟨(k.bc i ag).1,fun y bg=>?_⟩,k.ch⟩
  .show (wt ++ [x]).Nodup;rw [wV];exact ⟨k.wn,by simp,fun a aS b aa e=>by rw [d8.mp aa] at e;exact af (e ▸ aS)⟩
  .rcases eG.mp bg with bg | bg
   .exact k.aA y bg
   .rw [d8.mp bg];exact ah
  .rcases eG.mp bg with bg | bg
   .exact (k.bc i ag).2 y bg
   .rw [d8.mp bg];intro e;refine h (.inl ?_);have ag:s.bc=some i:=ag;unfold jm;rw [ag];exact decide_eq_true e
theorem xW {ds:List a8} {rows:List ST} {s:eK}:∀ (xs wt:List Str),(∀ x ∈ xs,x ∈ ds.map (·.name))->h8 ds rows { s with wt:=wt }->h8 ds rows { s with wt:=k4 rows s wt xs }
 | [],_,_,k=>k
 | x :: xs,wt,h,k=>xW xs (mP rows s wt x) (fun y bg=>h y (.tail _ bg)) (ag5 (h x (.head _)) k)
theorem L8 {rows:List ST} (h:∀ x ∈ xs,x ∈ ds.map (·.name)) (k:h8 ds rows s):h8 ds rows (n9 rows s xs):=xW xs s.wt h k
theorem RK (rows:List ST) (s:eK) (wt xs:List Str) (x:Str):k4 rows s wt (xs ++ [x])=mP rows s (k4 rows s wt xs) x:=by
 unfold k4;rw [Mx];rfl
def Lm (P:Program) (w:World) (K:ba) (t:bQ) (Pt:Addr):bU:=fun vs H Q _=>∃ bz k aX aA aU s c n ds rows a xs,vs=[.ref k,.ref a]/\ee t H k aX aA aU s/\hs P w t bz aX c n ds rows/\aO bz H/\bz k=none/\bz aA=none/\bz aU=none/\bz Pt=none/\mv ds rows/\h8 ds rows s/\H a=some (.lst (aW xs))/\xs.length <= 1000/\(∀ x ∈ xs,x ∈ ds.map (·.name))/\kS Pt H/\aP H /\
 ∀ p ai I,nM n ds rows (n9 rows s xs) (xs.any (jm rows s)) ai->I0 k aA aU Pt H I->H p=none->I p=some (.bu (iP ds (ig n ds rows s)))->aP I->kS Pt I->ee t I k aX aA aU ai->Q (.ref p) I
theorem aa4 (de:pE base t.rE Pt) (h1:base.BuiltinsAt mg Pt):ct P base T 5 t.v8 t.A1 yX (Lm P w K t Pt):=by
 refine cF (qO T) fun jB=>cF (TK T) fun abI=>cF (ahE T de h1) fun ae6=>?_;exists T.Mg.ok tT,9
 obtain ⟨bz,k,aX,aA,aU,ai,c,n,ds,rows,a,xs,rfl,fP,ej,s0,iR,gs,g_,EL,R,lr,aS,hV,hO,bP,bM,q⟩:=h;obtain ⟨d9,aq,b1,dH,fB⟩:=id fP;obtain ⟨kh,le,mo,c0,cx,aY,ch,ms,kvs,au,C,bX,ff,gd,fc,h9,l8,lz⟩:=id (ej.same s0);obtain ⟨⟨gh,gn⟩,KH,wl,aD,cu,_,_⟩:=id C;have bx:=iF ao;have nj:∀ {i:Nat} {x:Str},xs[i]? = some x->∃ (j:Nat) (d:a8),ds[j]? = some d/\d.name=x:=fun {i x} ah=>by
  obtain ⟨d,hd,e⟩:=bK.mp (hO x (cC ah));obtain ⟨j,aJ⟩:=hH hd;exact ⟨j,d,aJ,e⟩
 refine ⟨_,(db (fz fH rfl (eT (U 1)) (cA (i:=2) tT.aD) (a6 (eo (e4 (bA (bA (U 0) rfl) rfl) T.hU T.nE jB ao T.n0 .nil cI (aj (U 2) aG)))))
   (db (b7 (i:=3) tT.aD (hT (U 0) T.el T.acr abI ao T.wv .nil cI))
   (db (b7 (i:=4) tT.aD ju)
   (db (fz fH rfl (eT (U 1)) (cA (i:=2) tT.aD) (a6 (dI (cU ep (n6 bx (U 3) (U 2) (fun _ _=>rfl)) dh (cc _)) (a6 (b7 (i:=4) tT.aD ju)) (a6 (r9 bx (bA (U 0) rfl) (U 2) ju rfl)))))
   (db (eo (e4 (U 0) T.el T.agN ae6 ao T.Wd .nil cI (aj (U 4) aG)))
   (a6 (cg (U 3)))))))),?_⟩
 refine dc (fun aB I=>I=H/\∃ y,aB=[~~~k,~~~a,y,none,none]) (fun b2 bJ=>?_) fun cY aK=>?_
 .nofun;refine ⟨⟨_,aC.of aS⟩,?_⟩;refine dO.list (xs:=aW xs) (fun i σ I=>I=H/\∃ y,σ=[~~~k,~~~a,y,none,none]) ?_ ?_ ?_ ?_
  .exact ⟨rfl,_,rfl⟩
  .rintro i σ I ag ⟨rfl,_⟩;exact aC.of aS
  .rintro i v σ I aI ⟨rfl,y,rfl⟩;unfold aW at aI;obtain ⟨x,ah,rfl⟩:=cy aI;obtain ⟨j,d,hd,rfl⟩:=nj ah;nofun;exact ⟨_,iZ T b1,_,rfl,_,IK T au,_,rfl,_,_,cu,KB _ _ _ (by ac_nf),c,n,ds,j,d,rfl,C,hd,fun _ _=>⟨rfl,_,rfl⟩⟩
  .rintro σ I ⟨rfl,y,rfl⟩;exact bJ _ _ ⟨rfl,_,rfl⟩
 rintro f_ H1 ⟨rfl,mW,rfl⟩;subst aK;refine dc (fun aB I=>aO H1 I/\aP I/\∃ p,H1 p=none/\I p=some (.bu (iP ds (ig n ds rows ai)))/\aB=[~~~k,~~~a,mW,~~~p,none]) (fun b2 bJ=>?_) fun cY aK=>?_
 .nofun;exact ⟨_,_,b1,kb _ _ _ _ _ _ _ _ (by ac_nf),k,aX,aA,aU,ai,c,n,ds,rows,rfl,fP,ej.same s0,R.cB,lr.ch,bM,fun p I s2 cO ax oR=>bJ _ _ ⟨s2,cO,p,ax,oR,rfl⟩⟩
 rintro cv aw ⟨s2,cO,p,m_,eH,rfl⟩;subst aK;refine dc (fun aB I=>I=aw/\aB=[~~~k,~~~a,mW,~~~p,some (.bk false)]) (fun b2 bJ=>?_) fun cY aK=>?_
 .nofun;exact bJ _ _ ⟨rfl,rfl⟩
 rintro gc bf ⟨rfl,rfl⟩;subst aK;refine dc (fun aB I=>gR k aA aU bf I/\aP I/\ee t I k aX aA aU (n9 rows ai xs)/\∃ y,aB=[~~~k,~~~a,y,~~~p,some (.bk (xs.any (jm rows ai)))]) (fun b2 bJ=>?_) fun cY aK=>?_
 .have f7:=s2 _ _ aS;have f5:=s2 _ _ b1;have fT:=s2 _ _ dH;have mm:=s2 _ _ fB;nofun;refine ⟨⟨_,aC.of f7⟩,?_⟩;refine dO.list (xs:=aW xs) (fun i σ I=>gR k aA aU bf I/\aP I/\ee t I k aX aA aU { ai with wt:=k4 rows ai ai.wt (xs.take i) }/\∃ y,σ=[~~~k,~~~a,y,~~~p,some (.bk ((xs.take i).any (jm rows ai)))]) ?_ ?_ ?_ ?_
  .exact ⟨gR.of (aO.refl bf),cO,fP.same s2,_,rfl⟩
  .rintro i σ I ag ⟨fN,_⟩;exact aC.of (fN _ _ (bZ f7 f5 (by intro z;cases z)) (bZ f7 fT (by intro z;cases z)) (bZ f7 mm (by intro z;cases z)) f7)
  .rintro i v σ I aI bb;ac_rfl
   obtain ⟨fN,kE,⟨_,d',f1,f2,eh⟩,y,rfl⟩:=bb;subst aK;unfold aW at aI;obtain ⟨x,ah,rfl⟩:=cy aI;obtain ⟨j,d,hd,rfl⟩:=nj ah;have kF:=fN _ _ (bZ eH f5 (by intro z;cases z)) (fun e=>by rw [e,dH] at m_;cases m_) (fun e=>by rw [e,fB] at m_;cases m_) eH;have aQ:=gI.k (k:=bY d.name) kF;rw [Mh (f:=ig n ds rows ai) gh hd] at aQ;have eB:(fM (k4 rows ai ai.wt (xs.take i))).length <= 12:=by
    have:=(xW (xs.take i) ai.wt (fun x ah=>hO x (qu ah)) lr).len R;unfold fM;rw [aZ];exact this
   have fj:k4 rows ai ai.wt (xs.take (i + 1))=mP rows ai (k4 rows ai ai.wt (xs.take i)) d.name:=by rw [jt ah,RK]
   have jg:(xs.take (i + 1)).any (jm rows ai)=((xs.take i).any (jm rows ai) || jm rows ai d.name):=by rw [jt ah,List.any_append];simp
   nofun;refine dt (jm rows ai d.name) (fun gM aR=>?_) (fun aa=>?_) (fun aa=>?_)
   .nofun;rw [<- Pw n ds rows ai d] at aR;exact ⟨_,aQ,rfl,aR⟩
   .nofun;refine ⟨fN,kE,⟨d9,d',f1,?_,eh⟩,?_⟩
    .rw [fj];unfold mP;rw [if_pos (.inl aa)];exact f2
    .rw [jg,aa,LD]
   .nofun;refine ⟨_,wG T f1,_,rfl,_,j7.k (k:=bY d.name) f2 (gW eB (by decide)),fun b u af ak a9 e=>by rw [aE ak];exact fN _ _ af ak a9 e,kE.upd,⟨d9,d',by rw [aE (bZ f1 f2 (by intro z;cases z))];exact f1,?_,by rw [aE (dW d9)];exact eh⟩,?_⟩
    .rw [aV,abO,fj];unfold mP;by_cases h:d.name ∈ k4 rows ai ai.wt (xs.take i)
     .rw [if_pos h,if_pos (.inr h)]
     .rw [if_neg h,if_neg (fun z=>z.elim (fun z=>by rw [aa] at z;cases z) h)]
    .rw [jg,aa,OH]
  .rintro σ I bb;ac_rfl
   obtain ⟨fN,kE,rU,y,rfl⟩:=bb;subst aK;rw [fb,hB] at *;exact bJ _ _ ⟨fN,kE,rU,y,rfl⟩
 rintro k8 cN ⟨dF,dT,xg,ajm,rfl⟩;obtain ⟨_,Bk,f1,f2,eh⟩:=id xg;have q':=fP.same s2;have f5:=s2 _ _ b1;subst aK;nofun;refine ⟨_,_,f1,kb _ _ _ _ _ _ _ _ (by ac_nf),bz,k,aX,aA,aU,_,c,n,ds,rows,_,rfl,xg,ej,dF.u3 (s0.trans s2) iR gs g_,iR,gs,g_,EL,R,L8 hO lr,ve q' (bP.step s2) dF,dT,fun s5 dJ av eA iH Ho tS=>?_⟩;have QO:p ≠ k:=bZ eH f5 (by intro z;cases z);have nw:p ≠ aA:=fun e=>by rw [e,dH] at m_;cases m_
 have np:p ≠ aU:=fun e=>by rw [e,fB] at m_;cases m_
 have ah_:p ≠ Pt:=fun e=>by
  obtain ⟨ps,bT,_⟩:=bP;rw [e,bT] at m_;cases m_
 exact q p s5 dJ av (fun b u af ak a9 cW e=>eA _ _ af ak a9 cW (dF _ _ af ak a9 (s2 _ _ e))) m_ (eA _ _ QO nw np ah_ (dF _ _ QO nw np eH)) iH Ho tS
theorem O8 {i:Int} (h:i.natAbs < 100000):i.natAbs.log2 < 1920:=by
 by_cases h0:i.natAbs=0
 .rw [h0];decide
 .exact (agm h0).mpr (M_ h (by decide))
def ado (K:ba):bU:=fun vs H Q _=>∃ (a:Addr) (ns:List Int) (k m:Int),vs=[.ref a,.int k,.int m]/\ns.length <= 63/\aC K H a (ns.map V.int)/\(0 <= k/\k < 1000000)/\0 < m/\Q (.int (dg ns k m)) H
theorem Zc:ct P base T 1 t.xC t.x1 BQ (ado K):=by
 exists T.e8.ok td,9
 obtain ⟨a,ns,k,m,rfl,hl,S,⟨h0,af⟩,hm,q⟩:=h;refine ⟨_,(db (b7 (i:=3) td.aD (tC (cU n5 (fJ hD rfl T.g5 g4 (aj (U 0) aG)) aM (cc _)) (bV c8 (U 0) (bD i0 (U 1) (fJ hD rfl T.g5 g4 (aj (U 0) aG)))) aM))
   (db (b7 (i:=4) td.aD (bD d7 (bD d7 (bD i0 (U 3) aM) (bD jd (bD jd aM (U 1)) (U 1))) aM))
   (a6 (cg (bD i0 (bD i0 (bD jd (bD i0 (bD jd (U 4) aM) aM) aM) aM) (U 2)))))),?_⟩
 nofun;refine ⟨_,.inl S,?_⟩;rw [aZ];have sO:(0:Int) <= k * k/\k * k < 1000000 * 1000000:=⟨WT h0 h0,Wg (by omega) af h0 (by decide)⟩;have fin:∀ i:Int,(0:Int) < 1000003/\nd 31 k/\nd (31 * k) k/\nd (i % 1000003 + 31 * k * k + 1) 48271/\(0:Int) < 999983/\nd ((i % 1000003 + 31 * k * k + 1) * 48271 % 999983) 7919/\(0:Int) < 524287/\0 < m:=by
  intro i;refine ⟨by decide,.inl (by decide),.inr (by omega),.inr (by decide),by decide,.inr (by decide),by decide,hm⟩
 by_cases c:(0:Int) < (ns.length:Int)
 .rw [if_pos (decide_eq_true c)];have az:0 <= k % (ns.length:Int)/\k % (ns.length:Int) < (ns.length:Int):=⟨tr _ (by omega),wX _ c⟩;refine ⟨_,.inl S,by rw [aZ];exact c,_,S,?_⟩;rw [aZ];have aJ:(k % (ns.length:Int)).toNat < ns.length:=by omega
  refine ⟨.int ns[(k % (ns.length:Int)).toNat],?_,_,rfl,?_⟩
  .have e:=Db (xs:=ns.map V.int) (j:=(k % (ns.length:Int)).toNat) (v:=.int ns[(k % (ns.length:Int)).toNat]) (by rw [c5,bo aJ] <;> rfl);rwa [qx az.1] at e
  .obtain ⟨f1,f2,eh,f4,eI,m8,kX,f8⟩:=fin ns[(k % (ns.length:Int)).toNat];refine ⟨f1,f2,eh,f4,eI,m8,kX,f8,?_⟩;have e:dg ns k m=(((ns[(k % (ns.length:Int)).toNat] % 1000003 + 31 * k * k + 1) * 48271 % 999983 * 7919) % 524287) % m:=by
    unfold dg;rw [if_pos c,jZ,bo aJ];rfl
   rw [<- e];exact q
 .rw [if_neg (by simpa using c)];obtain ⟨f1,f2,eh,f4,eI,m8,kX,f8⟩:=fin 0;refine ⟨f1,f2,eh,f4,eI,m8,kX,f8,?_⟩;have e:dg ns k m=(((0 % 1000003 + 31 * k * k + 1) * 48271 % 999983 * 7919) % 524287) % m:=by
   unfold dg;rw [if_neg c]
  rw [<- e];exact q
noncomputable def ins {α:Type} (l:List α) (i:Nat) (a:α):List α:=l.take i ++ a :: l.drop i
theorem sv (ag:i <= l.length) (j:Nat):(ins l i a)[j]? = if j < i then l[j]? else if j=i then some a else l[j - 1]?:=by
 unfold ins;have cq:(l.take i).length=i:=by rw [gD];omega
 by_cases af:j < i
 .rw [if_pos af,qq (by omega),o4 af]
 .rw [if_neg af,qP (by omega),cq];by_cases ak:j=i
  .subst ak;rw [if_pos rfl];simp
  .rw [if_neg ak,show j - i=(j - 1 - i) + 1 by omega,Bs,List.getElem?_drop,show i + (j - 1 - i)=j - 1 by omega]
theorem FY (ag:i <= l.length):(ins l i a).length=l.length + 1:=by
 unfold ins;rw [dY,iu,gD,sm];omega
theorem ahz (h:l.Nodup) (n:a ∉ l):(ins l i a).Nodup:=by
 unfold ins;rw [(Us).nodup_iff,o2,Ki];exact ⟨n,h⟩
theorem l4 {a x:α} (h:x ∈ ins l i a):x=a\/x ∈ l:=by
 unfold ins at h;rcases eG.mp h with z | z
 .exact .inr (qu z)
 .rcases eJ.mp z with z | z
  .exact .inl z
  .exact .inr (aeg z)
theorem It (f:α->β) (l:List α) (i:Nat) (a:α):(ins l i a).map f=ins (l.map f) i (f a):=by
 unfold ins;rw [eZ,er,Q8,List.map_drop]
theorem Mv (x:Str) (m9:a <= b) (aa:b <= x.cps.toList.length):(lp x (some (a:Int)) (some (b:Int))).cps.toList=(x.cps.toList.drop a).take (b - a):=by
 have ah:x.length=x.cps.toList.length:=by simp [tM]
 have e:=StrLaws.sliceText_nat x m9 (by rw [ah];exact aa);rw [show lp x (some (a:Int)) (some (b:Int))=sq x (some (a:Int)) (some (b:Int)) from rfl,e]
theorem IA (x:Str) (aa:b <= x.cps.toList.length):(lp x none (some (b:Int))).cps.toList=x.cps.toList.take b:=by
 have:lp x none (some (b:Int))=lp x (some ((0:Nat):Int)) (some (b:Int)):=by
  show sq x none (some (b:Int))=sq x (some ((0:Nat):Int)) (some (b:Int));unfold sq;rw [StrLaws.sliceIdx_none_lo];rfl
 rw [this,Mv x (fi _) aa,PA,agI]
theorem Ys (x:Str) (aS:a <= x.cps.toList.length):(lp x (some (a:Int)) none).cps.toList=x.cps.toList.drop a:=by
 have ah:x.length=x.cps.toList.length:=by simp [tM]
 have:lp x (some (a:Int)) none=lp x (some (a:Int)) (some ((x.cps.toList.length:Nat):Int)):=by
  show sq x (some (a:Int)) none=sq x (some (a:Int)) (some ((x.cps.toList.length:Nat):Int));unfold sq;rw [StrLaws.sliceIdx_none_hi,<- ah]
 rw [this,Mv x aS (cn _)];exact QK (by rw [sm];exact cn _)
noncomputable def w3 (l:List Nat) (k:Nat):List Nat:=l.take (k + 1)
noncomputable def nP (l:List Nat) (at_ f k:Nat):List Nat:=l.take at_ ++ [97 + (f + k) % 26] ++ l.drop (at_ + 1)
noncomputable def nK (l:List Nat) (f k j:Nat):List Nat:=[97 + (f + k) % 26] ++ l.take j
theorem E2 (aL:l.length=8) (al:∀ c ∈ l,97 <= c/\c <= 122) {k:Nat} (az:k < 8):(w3 l k).length=k + 1/\∀ c ∈ w3 l k,97 <= c/\c <= 122:=by
 unfold w3;exact ⟨by rw [gD];omega,fun c ay=>al c (qu ay)⟩
theorem V' (aL:l.length=8) (al:∀ c ∈ l,97 <= c/\c <= 122) {a f k:Nat} (aS:a < 8):(nP l a f k).length=8/\∀ c ∈ nP l a f k,97 <= c/\c <= 122:=by
 unfold nP;refine ⟨by rw [dY,dY,gD,sm,w1];omega,fun c ay=>?_⟩;rcases eG.mp ay with ay | ay
 .rcases eG.mp ay with ay | ay
  .exact al c (qu ay)
  .rw [d8.mp ay];omega
 .exact al c (aeg ay)
theorem Xo (aL:l.length=8) (al:∀ c ∈ l,97 <= c/\c <= 122) {f k j:Nat} (aJ:j < 8):(1 <= (nK l f k j).length/\(nK l f k j).length <= 8)/\∀ c ∈ nK l f k j,97 <= c/\c <= 122:=by
 unfold nK;refine ⟨by rw [dY,gD,w1];omega,fun c ay=>?_⟩;rcases eG.mp ay with ay | ay
 .rw [d8.mp ay];omega
 .exact al c (qu ay)
theorem U' (aL:l.length=8) (aS:a < 8) (ag:i < 8) (aJ:j < 8) (e:nP l a f i=nP l a f j):i=j:=by
 have af:∀ k,(nP l a f k)[a]? = some (97 + (f + k) % 26):=fun k=>by
  unfold nP;rw [oV,qP (by rw [gD];omega),gD,show a - min a l.length=0 by omega];rfl
 have ak:=af i;rw [e,af j] at ak;have:=d1 ak;omega
theorem abz (ag:i < 8) (aJ:j < 8) (e:nK l f i u=nK l f j v):i=j:=by
 unfold nK at e;have:=(uU e).1;omega
theorem ZP {k:Nat} (h:k <= xs.length):iU xs none (some ((k:Nat):Int))=xs.take k:=by
 unfold iU;rw [eV.Kg,Kp h,eV.Hp];simp
noncomputable def six:List Str:=[ab "stage",ab "tram",ab "car",ab "foot",ab "ring",ab "free"]
theorem VY {x:Str} (e:x.cps.toList=l) (h0:1 <= l.length) (af:l.length <= 8) (al:∀ c ∈ l,97 <= c/\c <= 122):made x mB 8=true:=by
 have ah:x.length=x.cps.toList.length:=by simp [tM]
 exact aa0 (by rw [ah,e];exact h0) (by rw [ah,e];exact af) (by rw [e];exact al)
def IJ (m:Nat) (xs:List Str):Prop:=xs.length=m/\xs.Nodup/\∀ x ∈ xs,made x mB 8=true
theorem Qk (h0:0 <= i) (af:i < 26):∃ c:Nat,gi (ab "abcdefghijklmnopqrstuvwxyz").cps.toList i=some c/\c=97 + i.toNat:=by
 have:∀ k,k < 26->gi (ab "abcdefghijklmnopqrstuvwxyz").cps.toList ((k:Nat):Int)=some (97 + k):=by ac_nf
 refine ⟨97 + i.toNat,?_,rfl⟩;have e:=this i.toNat (by omega);rwa [qx h0] at e
theorem OZ:∀ ys:List Str,(dS ⟨#[]⟩ ys).cps.toList=(ys.map (·.cps.toList)).flatten
 | []=>rfl
 | [a]=>by
  show a.cps.toList=_;simp
 | a :: b :: r=>by
  show (a ++ ⟨#[]⟩ ++ dS ⟨#[]⟩ (b :: r)).cps.toList=_;rw [n8,n3,n8,n3,OZ (b :: r)];simp
theorem N4 (f:Nat->Nat) (n:Nat):(oU (ab "") ((gx n).map fun i=>i5 (f i))).cps.toList=(gx n).map f:=by
 rw [show oU (ab "") ((gx n).map fun i=>i5 (f i))=dS ⟨#[]⟩ ((gx n).map fun i=>i5 (f i)) from uN _ _,OZ,m6];have:((fun x:Str=>x.cps.toList) ∘ fun i=>i5 (f i))=fun i=>[f i]:=rfl
 rw [this]
 induction (gx n) with
 | nil=>rfl
 | cons a l b4=>rw [er,tf,b4];rfl
theorem TS:∀ m,m < 7->(six.take m).length=m/\(six.take m).Nodup/\∀ x ∈ six.take m,made x mB 8=true:=by ac_nf
def VT (K:ba) (a:Addr) (ns:List Int):bU:=fun vs H Q _=>∃ m:Nat,vs=[.ref a,.int m]/\Sc K a ns H/\(1 <= m/\m <= 8)/\∀ p xs I,aO H I->Sc K a ns I->H p=none->I p=some (.lst (aW xs))->IJ m xs->Q (.ref p) I
theorem ae9 (a:Addr) (ns:List Int) (hl:ns.length <= 63):ct P base T 2 t.Ep t.Ct II (VT K a ns):=by
 refine cF (H9 T a ns hl) fun e2=>?_;exists T.HP.ok p4,9
 obtain ⟨m,rfl,S,hm,q⟩:=h;have eB:(ab "abcdefghijklmnopqrstuvwxyz").length=26:=by ac_nf
 refine ⟨_,(db (px (i:=2) p4.aD rfl (mG rfl) dh)
   (db (b7 (i:=3) p4.aD (gq tv xR BW vj dh (aj (hP rfl (lU rfl T.l1 (aj aM aG)) (gA (sc:=bt Ck) rfl (by ac_nf)) (N:=["_law_k","_law_letters","_law_script"]) (sel:=[none,some 2,some 0]) (gC (M:=["_law_script","_law_many","_law_letters","_law_base","_law_way","_law_at","_law_names_here","_law_k","_law_sign"]) (by ac_nf)) (fx.of (fun _ _ _ _=>(cA (i:=0) (eu (N:=["_law_k","_law_letters","_law_script"]) (by ac_nf) rfl))) (fun _ _ _ _=>⟨_,h4,by walk_at "B"⟩) (fun _ _ _ _=>⟨_,(bV E' (U 1) (cm e2 ao T.fy T.e8.bN T.ft (aj (U 2) (aj (bD d7 aM (U 0)) (aj aM aG))))),by walk_at "B"⟩))) aG)))
   (db (b7 (i:=4) p4.aD (cm e2 ao T.fy T.e8.bN T.ft (aj (U 0) (aj aM (aj aM aG)))))
   (db (b7 (i:=5) p4.aD (cm e2 ao T.fy T.e8.bN T.ft (aj (U 0) (aj aM (aj aM aG)))))
   (db (b7 (i:=6) p4.aD (gK aG))
   (db (dI (fW.pt (j0 (cU ep (cm e2 ao T.fy T.e8.bN T.ft (aj (U 0) (aj aM (aj aM aG)))) aM (cc _)) (kN (cU kn (U 1) aM (cc _))))) (a6 (cg (oB zU (gK (aj dh (aj dh (aj dh (aj dh (aj dh (aj dh aG))))))) oy (ou (U 1))))) d2)
   (db (fz fH rfl (lU rfl T.l1 (aj (U 1) aG)) (cA (i:=7) p4.aD) (db (b7 (i:=8) p4.aD (bV E' (U 2) (bD i0 (bD d7 (cm e2 ao T.fy T.e8.bN T.ft (aj (U 0) (aj aM (aj aM aG)))) (U 7)) aM)))
   (a6 (dI (cU ep (U 4) aM (cc _)) (a6 (eo (gq iW lh mi lD (U 6) (aj (bD lL (bD lL (oB xU (U 3) oy (ou (U 5))) (U 8)) (oB xU (U 3) (ou (bD d7 (U 5) aM)) oy)) aG)))) (a6 (dI (fW.pt (j0 (cU ep (U 4) aM (cc _)) (kN (cU kn (U 1) aM (cc _))))) (a6 (eo (gq iW lh mi lD (U 6) (aj (oB xU (U 3) oy (ou (bD d7 (U 7) aM))) aG)))) (a6 (eo (gq iW lh mi lD (U 6) (aj (bD lL (U 8) (oB xU (U 3) oy (ou (cm e2 ao T.fy T.e8.bN T.ft (aj (U 0) (aj (bD d7 aM (U 7)) (aj aM aG))))))) aG))))))))))
   (a6 (cg (U 6)))))))))),?_⟩
 refine dc (fun aB I=>I=H/\aB=[~~~a,some (.int m),some (.str (ab "abcdefghijklmnopqrstuvwxyz")),none,none,none,none,none,none]) (fun b2 bW=>?_) fun cY aK=>?_
 .nofun;exact bW _ _ ⟨rfl,rfl⟩
 rintro f_ H1 ⟨rfl,rfl⟩;subst aK;refine dc (fun aB I=>aO H1 I/\Sc K a ns I/\∃ aA:Str,aA.cps.toList.length=8/\(∀ c ∈ aA.cps.toList,97 <= c/\c <= 122)/\aB=[~~~a,some (.int m),some (.str (ab "abcdefghijklmnopqrstuvwxyz")),some (.str aA),none,none,none,none,none]) (fun b2 bW=>?_) fun cY aK=>?_
 .nofun;refine ⟨by decide,by decide,?_⟩;refine c9.afo (n:=8) (fun i=>V.str (i5 (97 + (dg ns (300 + (i:Int)) 26).toNat))) (by decide) (fun i N ag br=>?_) (fun p ax=>?_)
  .have eg:=hg ns (300 + (i:Int)) (m:=26) (by decide);have eW:=hi ns (300 + (i:Int)) (m:=26) (by decide);obtain ⟨c,ay,rfl⟩:=Qk eg eW;(nofun; repeat (dsimp only [iJ];nofun));exact ⟨Sub.name,S,by omega,by omega,by decide,by rw [eB];decide,_,ay,br⟩
  .have e:(gx 8).map (fun i:Nat=>V.str (i5 (97 + (dg ns (300 + (i:Int)) 26).toNat)))=aW ((gx 8).map fun i:Nat=>i5 (97 + (dg ns (300 + (i:Int)) 26).toNat)):=by unfold aW;rw [m6];rfl
   refine ⟨p,rfl,(gx 8).map fun i:Nat=>i5 (97 + (dg ns (300 + (i:Int)) 26).toNat),by rw [<- e];exact aC.of aV,?_,?_⟩
   .have af:(rq (fun x:Str=>x.length) ((gx 8).map fun i:Nat=>i5 (97 + (dg ns (300 + (i:Int)) 26).toNat))).sum=8:=by
     rw [m6];rfl
    rw [af,aZ,rP];ac_nf
   .refine bW _ _ ⟨bE ax,S.new ax,_,?_,fun c ay=>?_,rfl⟩
    .rw [N4 (fun i:Nat=>97 + (dg ns (300 + (i:Int)) 26).toNat) 8,aZ,rP]
    .rw [N4 (fun i:Nat=>97 + (dg ns (300 + (i:Int)) 26).toNat) 8] at ay;obtain ⟨i,_,rfl⟩:=bK.mp ay;have eg:=hg ns (300 + (i:Int)) (m:=26) (by decide);have eW:=hi ns (300 + (i:Int)) (m:=26) (by decide);omega
 rintro cv aw ⟨s2,qL,aA,gT,uD,rfl⟩;have Ad:aA.length=8:=by
  have:aA.length=aA.cps.toList.length:=by simp [tM]
  omega
 have ac2:=hg ns 310 (m:=3) (by decide);have adJ:=hi ns 310 (m:=3) (by decide);subst aK;generalize qF:dg ns 310 3=way at ac2 adJ;refine dc (fun aB I=>I=aw/\aB=[~~~a,some (.int m),some (.str (ab "abcdefghijklmnopqrstuvwxyz")),some (.str aA),some (.int way),none,none,none,none]) (fun b2 bW=>?_) fun cY aK=>?_
 ·(nofun; repeat (dsimp only [iJ];nofun));rw [qF];exact ⟨qL,by omega,by omega,by decide,bW _ _ ⟨rfl,rfl⟩⟩
 rintro gc bf ⟨rfl,rfl⟩;obtain ⟨at_,nj,Rw⟩:∃ at_:Nat,dg ns 311 8=(at_:Nat)/\at_ < 8:=by
  have eg:=hg ns 311 (m:=8) (by decide);have eW:=hi ns 311 (m:=8) (by decide);exact ⟨(dg ns 311 8).toNat,by omega,by omega⟩
 subst aK;refine dc (fun aB I=>I=bf/\aB=[~~~a,some (.int m),some (.str (ab "abcdefghijklmnopqrstuvwxyz")),some (.str aA),some (.int way),some (.int (at_:Nat)),none,none,none]) (fun b2 bW=>?_) fun cY aK=>?_
 ·(nofun; repeat (dsimp only [iJ];nofun));rw [nj];exact ⟨qL,by omega,by omega,by omega,bW _ _ ⟨rfl,rfl⟩⟩
 rintro k8 cN ⟨rfl,rfl⟩;obtain ⟨f,hf,akN⟩:∃ f:Nat,dg ns 312 26=(f:Nat)/\f < 26:=by
  have eg:=hg ns 312 (m:=26) (by decide);have eW:=hi ns 312 (m:=26) (by decide);exact ⟨(dg ns 312 26).toNat,by omega,by omega⟩
 subst aK;refine dc (fun aB I=>Sc K a ns I/\aO cN I/\∃ dv,cN dv=none/\I dv=some (.lst [])/\aB=[~~~a,some (.int m),some (.str (ab "abcdefghijklmnopqrstuvwxyz")),some (.str aA),some (.int way),some (.int (at_:Nat)),~~~dv,none,none]) (fun b2 bW=>?_) fun cY aK=>?_
 .nofun;exact ⟨fi _,fun dv gy=>bW _ _ ⟨qL.new gy,bE gy,dv,gy,aV,rfl⟩⟩
 rintro mq iQ ⟨uz,kr,dv,gy,tU,rfl⟩;subst aK;simp only [dE];refine ra (fun aB I=>I=iQ/\aB=[~~~a,some (.int m),some (.str (ab "abcdefghijklmnopqrstuvwxyz")),some (.str aA),some (.int way),some (.int (at_:Nat)),~~~dv,none,none]) (fun b2 bW md _ _=>?_) ?_
 .refine dt (decide (dg ns 313 8=0) && decide (m < 7)) (fun Q aR=>?_) (fun aa=>?_) (fun aa=>?_)
  ·(nofun; repeat (dsimp only [iJ];nofun));refine ⟨uz,by decide,by decide,by decide,?_⟩;by_cases cD:dg ns 313 8=0
   .rw [if_pos (decide_eq_true cD),show decide ((m:Int) < 7)=decide (m < 7) from decide_eq_decide.mpr (by omega)];rw [decide_eq_true cD,lF] at aR;exact aR
   .rw [if_neg (by simpa using cD)];rw [decide_eq_false cD,mu] at aR;exact aR
  .rw [hX,decide_eq_true_eq,decide_eq_true_eq] at aa;obtain ⟨b1,dH,fB⟩:=TS m aa.2;nofun;refine ⟨by decide,fun p ax=>⟨_,aC.of aV,fun ef C3=>?_⟩⟩;rw [md];refine q ef (six.take m) _ (s2.trans (kr.trans ((bE ax).trans (bE C3)))) ((uz.new ax).new C3) ((s2.trans (kr.trans (bE ax))).free C3) ?_ ⟨b1,dH,fB⟩;rw [aV,ZP (show m <= 6 by omega)];unfold aW six;rw [Q8];rfl
  .simp only [i9];exact bW _ _ ⟨rfl,rfl⟩
 rintro ka hL ⟨rfl,rfl⟩;obtain ⟨g,aQ⟩:∃ g:Nat->List Nat,g=fun k=>if way=0 then nP aA.cps.toList at_ f k else if way=1 then w3 aA.cps.toList k else nK aA.cps.toList f k (dg ns (320 + (k:Int)) 8).toNat:=⟨_,rfl⟩
 simp only [dE];exists (fun aB I=>Sc K a ns I/\aO cN I/\(∃ xs:List Str,I dv=some (.lst (aW xs))/\xs.map (·.cps.toList)=(gx m).map g)/\∃ dV dk,aB=[~~~a,some (.int m),some (.str (ab "abcdefghijklmnopqrstuvwxyz")),some (.str aA),some (.int way),some (.int (at_:Nat)),~~~dv,dV,dk]),0
 .nofun;refine ⟨by omega,by omega,?_⟩;refine dO.range (fun i σ I=>Sc K a ns I/\aO cN I/\(∃ xs:List Str,I dv=some (.lst (aW xs))/\xs.map (·.cps.toList)=(gx i).map g)/\∃ dV dk,σ=[~~~a,some (.int m),some (.str (ab "abcdefghijklmnopqrstuvwxyz")),some (.str aA),some (.int way),some (.int (at_:Nat)),~~~dv,dV,dk]) ⟨uz,kr,⟨[],tU,rfl⟩,_,_,rfl⟩ ?_ ?_
  .rintro i σ I ag bb;ac_rfl
   obtain ⟨we,mY,⟨xs,mA,r5⟩,dV,dk,rfl⟩:=bb;have akh:i < 8:=by have:i < (m:Int).toNat:=ag;omega
   have hV:xs.length=i:=by have:=congrArg qa r5;rwa [aZ,aZ,rP] at this
   obtain ⟨c,ay,rfl⟩:=Qk (i:=((f:Int) + (i:Int)) % 26) (tr _ (by decide)) (wX _ (by decide));have UM:(((f:Int) + (i:Int)) % 26).toNat=(f + i) % 26:=by omega
   subst aK;rw [UM] at ay;simp only [gU,dE,kG,kp,o8];exists (fun aB ix=>ix=I/\aB=[~~~a,some (.int m),some (.str (ab "abcdefghijklmnopqrstuvwxyz")),some (.str aA),some (.int way),some (.int (at_:Nat)),~~~dv,some (.int (i:Nat)),some (.str (i5 (97 + (f + i) % 26)))]),0
   ·(nofun; repeat (dsimp only [iJ];nofun));rw [hf];exact ⟨we,by decide,by decide,by decide,by decide,by rw [eB];decide,_,ay,bW _ _ ⟨rfl,rfl⟩⟩
   rintro YD dX ⟨rfl,rfl⟩;have nS:∀ k:Nat,k <= 1000->k <= sizeLine:=fun k h=>c_ h (by decide)
   have acE:(i5 (97 + (f + i) % 26)).length=1:=rfl;have put:∀ nm:Str,nm.cps.toList=g i->Sc K a ns (upd dX dv (.lst (aW xs ++ [.str nm])))/\aO cN (upd dX dv (.lst (aW xs ++ [.str nm])))/\(∃ ys:List Str,(upd dX dv (.lst (aW xs ++ [.str nm]))) dv=some (.lst (aW ys))/\ys.map (·.cps.toList)=(gx (i + 1)).map g):=fun nm ll=>by
    refine ⟨we.set mA (fun _ _ z=>by cases z),mY.gf gy,xs ++ [nm],?_,?_⟩
    .rw [aV];unfold aW;rw [eZ];rfl
    .rw [eZ,r5,uI,eZ,er,p6,ll];rfl
   have HT:(aW xs).length < sizeLine:=gW (show (aW xs).length <= 8 by unfold aW;rw [aZ];omega) (by decide);subst aK;dsimp only;refine dt (decide (way=0)) (fun Q aR=>?_) (fun ED=>?_) (fun D2=>?_)
   .nofun;exact aR
   .have hw:=of_decide_eq_true ED;have lB:g i=nP aA.cps.toList at_ f i:=by rw [aQ];exact if_pos hw
    have cE:=tA aA none (some (at_:Int));have dq:=tA aA (some ((at_:Int) + 1)) none;nofun;refine ⟨.inl ⟨_,aC.of mA⟩,by rw [Ad];decide,nS _ (by omega),by rw [Ad];decide,nS _ (by rw [nW];omega),_,mA,HT,?_⟩;obtain ⟨ef,eH,kF⟩:=put (lp aA none (some (at_:Int)) ++ i5 (97 + (f + i) % 26) ++ lp aA (some ((at_:Int) + 1)) none) (by
     rw [lB];unfold nP;rw [n8,n3,n8,n3,IA aA (by omega),show ((at_:Int) + 1)=((at_ + 1:Nat):Int) by omega,Ys aA (by omega)]
     rfl)
    exact ⟨ef,eH,kF,_,rfl⟩
   .have hw:=of_decide_eq_false D2;refine dt (decide (way=1)) (fun Q aR=>?_) (fun ED=>?_) (fun D2=>?_)
    .nofun;by_cases cu:way=1
     .rw [if_pos (decide_eq_true cu),decide_eq_true (show (m:Int) < 9 by omega)];rw [decide_eq_true cu] at aR;exact aR
     .rw [if_neg (by simpa using cu)];rw [decide_eq_false cu] at aR;exact aR
    .have wU:=of_decide_eq_true ED;have lB:g i=w3 aA.cps.toList i:=by rw [aQ];exact (if_neg hw).trans (if_pos wU)
     nofun;refine ⟨.inl ⟨_,aC.of mA⟩,by rw [Ad];decide,_,mA,HT,?_⟩;obtain ⟨ef,eH,kF⟩:=put (lp aA none (some ((i:Int) + 1))) (by
      rw [lB,show ((i:Int) + 1)=((i + 1:Nat):Int) by omega,IA aA (by omega)]
      rfl)
     exact ⟨ef,eH,kF,_,rfl⟩
    .have wU:=of_decide_eq_false D2;have lB:g i=nK aA.cps.toList f i (dg ns (320 + (i:Int)) 8).toNat:=by rw [aQ];exact (if_neg hw).trans (if_neg wU)
     have eg:=hg ns (320 + (i:Int)) (m:=8) (by decide);have eW:=hi ns (320 + (i:Int)) (m:=8) (by decide);(nofun; repeat (dsimp only [iJ];nofun));obtain ⟨gm,qC⟩:∃ gm:Nat,dg ns (320 + (i:Int)) 8=(gm:Int):=⟨_,(qx eg).symm⟩;rw [qC] at lB eW;rw [qC];rw [nL] at lB;have cE:=tA aA none (some (gm:Int));refine ⟨.inl ⟨_,aC.of mA⟩,we,by omega,by omega,by decide,by rw [Ad];decide,nS _ (by omega),_,mA,HT,?_⟩;obtain ⟨ef,eH,kF⟩:=put (i5 (97 + (f + i) % 26) ++ lp aA none (some (gm:Int))) (by
      rw [lB];unfold nK;rw [n8,n3,IA aA (by omega)]
      rfl)
     exact ⟨ef,eH,kF,_,rfl⟩
  .rintro σ I bb;ac_rfl
   obtain ⟨we,mY,⟨xs,mA,r5⟩,dV,dk,rfl⟩:=bb;subst aK;exact bW _ _ ⟨we,mY,⟨xs,mA,by rw [r5,show (m:Int).toNat=m by omega]⟩,dV,dk,rfl⟩
 rintro t4 iT ⟨ace,kg,⟨xs,G9,r5⟩,dV,dk,rfl⟩;have hV:xs.length=m:=by have:=congrArg qa r5;rwa [aZ,aZ,rP] at this
 have ah0:∀ k:Nat,(dg ns (320 + (k:Int)) 8).toNat < 8:=fun k=>by
  have eg:=hg ns (320 + (k:Int)) (m:=8) (by decide);have eW:=hi ns (320 + (k:Int)) (m:=8) (by decide);omega
 have acf:∀ k,k < m->(1 <= (g k).length/\(g k).length <= 8)/\∀ c ∈ g k,97 <= c/\c <= 122:=fun k az=>by
  rw [aQ];dsimp only;split
  .have:=V' gT uD (f:=f) (k:=k) Rw;exact ⟨by omega,this.2⟩
  .split
   .have:=E2 gT uD (k:=k) (by omega);exact ⟨by omega,this.2⟩
   .exact Xo gT uD (ah0 k)
 have YF:∀ i j,i < m->j < m->g i=g j->i=j:=fun i j ag aJ e=>by
  rw [aQ] at e;dsimp only at e;by_cases cD:way=0
  .rw [if_pos cD,if_pos cD] at e;exact U' gT Rw (by omega) (by omega) e
  .rw [if_neg cD,if_neg cD] at e;by_cases cu:way=1
   .rw [if_pos cu,if_pos cu] at e;have af:=E2 gT uD (k:=i) (by omega);have ak:=E2 gT uD (k:=j) (by omega);rw [e] at af;omega
   .rw [if_neg cu,if_neg cu] at e;exact abz (by omega) (by omega) e
 have FL:∀ (i:Nat) (x:Str),xs[i]? = some x->i < m/\x.cps.toList=g i:=fun i x ah=>by
  have ag:i < m:=by rw [<- hV];exact (b'.mp ah).1
  have e:=congrArg (fun l=>l[i]?) r5
  try dsimp only at e
  rw [c5,ah,c5,LV ag] at e;exact ⟨ag,d1 e⟩
 have N:IJ m xs:=by
  refine ⟨hV,XA.mpr fun i j ag aJ nV e=>?_,fun x ah=>?_⟩
  .obtain ⟨a1,a2⟩:=FL i _ (bo ag);obtain ⟨f5,fT⟩:=FL j _ (bo aJ);rw [e,fT] at a2;have:=YF i j a1 f5 a2.symm;omega
  .obtain ⟨i,ag⟩:=hH ah;obtain ⟨a1,a2⟩:=FL i _ ag;have:=acf i a1;exact VY a2 this.1.1 this.1.2 this.2
 subst aK;nofun;exact q dv xs iT (s2.trans kg) ace (s2.free gy) G9 N
noncomputable abbrev j_ (d:a8):List V:=[.str (d_ d.k),.str d.name,.int d.start,.int d.fin,.int d.off,.int d.near,.int d.least]
def iE (H:ar) (wl:Addr) (ds:List a8):Prop:=∃ qs:List Addr,H wl=some (.lst (qs.map V.ref))/\qs.length=ds.length/\∀ (i:Nat) (q:Addr) (d:a8),qs[i]? = some q->ds[i]? = some d->H q=some (.tup (j_ d))
theorem iE.same (h:iE H wl ds) (s:aO H I):iE I wl ds:=by
 obtain ⟨qs,au,aH,al⟩:=h;exact ⟨qs,s _ _ au,aH,fun i q d af ak=>s _ _ (al i q d af ak)⟩
theorem iE.snoc {H:ar} {wl p:Addr} {ds:List a8} {d:a8} {qs:List Addr} (cE:H wl=some (.lst (qs.map V.ref))) (dq:qs.length=ds.length)
  (al:∀ (i:Nat) (q:Addr) (d:a8),qs[i]? = some q->ds[i]? = some d->H q=some (.tup (j_ d))) (ax:H p=none) :
  iE (upd (upd H p (.tup (j_ d))) wl (.lst (qs.map V.ref ++ [.ref p]))) wl (ds ++ [d]):=by
 have i_:p ≠ wl:=(dy cE ax).symm;refine ⟨qs ++ [p],by rw [aV,eZ];rfl,by rw [dY,dY,dq];rfl,fun i q e af ak=>?_⟩;rcases lW af with ⟨fh,eS⟩ | ⟨fh,rfl⟩
 .rcases lW ak with ⟨mW,pJ⟩ | ⟨mW,_⟩
  .have:=al i q e eS pJ;rw [aE (bZ this cE (by intro z;cases z)),aE (dy this ax)];exact this
  .omega
 .rcases lW ak with ⟨mW,pJ⟩ | ⟨mW,rfl⟩
  .omega
  .rw [aE i_,aV]
theorem aaf {n s j:Int} (h0:0 <= s) (af:s < n) (ak:0 <= j) (a9:j < n - 1):s ≠ (s + 1 + j) % n:=by
 by_cases c:s + 1 + j < n
 .rw [sJ (by omega) c];omega
 .rw [show s + 1 + j=(s + 1 + j - n) + n * 1 by omega,aaG,sJ (by omega) (by omega)];omega
structure rC (n:Int) (ds:List a8):Prop where
 al:∀ d ∈ ds,o1 n d/\True
 aD:(ds.map (·.name)).Nodup
theorem rC.NA (h:rC n ds) (a4:2 <= n/\n <= 99) (aL:1 <= ds.length/\ds.length <= 12):qW n ds:=⟨a4,aL,fun d hd=>(h.al d hd).1,h.aD⟩
def RV (K:ba) (a:Addr) (ns:List Int):bU:=fun vs H Q _=>∃ most:Int,vs=[.ref a,.int most]/\(1 <= most/\most <= 8)/\Sc K a ns H /\
 ∀ i' wl n ds I,aO H I->Sc K a ns I->I i'=some (.tup [.int n,.ref wl])->iE I wl ds->rC n ds->(∀ d ∈ ds,d.least <= 4)->(4 <= n/\n <= 99)->(1 <= ds.length/\(ds.length:Int) <= most)->Q (.ref i') I
theorem afB (h0:0 <= i) (af:i < 4):∃ k:Nat,k < 3/\gi [V.str (ab "car"),V.str (ab "car"),V.str (ab "foot"),V.str (ab "tram")] i=some (.str (d_ k)):=by
 have:i=0\/i=1\/i=2\/i=3:=by omega
 rcases this with rfl | rfl | rfl | rfl
 .exact ⟨0,by decide,Db (j:=0) rfl⟩
 .exact ⟨0,by decide,Db (j:=1) rfl⟩
 .exact ⟨1,by decide,Db (j:=2) rfl⟩
 .exact ⟨2,by decide,Db (j:=3) rfl⟩
theorem at2 (x y:V) (c:Bool):gi [x,y] (if c=true then 1 else 0)=some (if c=true then y else x):=by
 cases c with
 | true=>exact Db (j:=1) rfl
 | false=>exact Db (j:=0) rfl
theorem ahx (a:Addr) (ns:List Int) (hl:ns.length <= 63):ct P base T 3 t.zG t.xY y3 (RV K a ns):=by
 refine cF (H9 T a ns hl) fun e2=>cF (ae9 T a ns hl) fun Zm=>?_;exists T.D9.ok ld,9
 obtain ⟨most,rfl,ajo,S,q⟩:=h;refine ⟨_,(db (b7 (i:=2) ld.aD (bV c8 (gK (aj (bD d7 aM (cm e2 ao T.fy T.e8.bN T.ft (aj (U 0) (aj aM (aj aM aG))))) (aj aM aG))) (pC Nk rfl T.DR I' (aj (gH ep (cm e2 ao T.fy T.e8.bN T.ft (aj (U 0) (aj aM (aj aM aG)))) aM (cc _)) aG))))
   (db (b7 (i:=3) ld.aD (cm Zm ao T.aa5 T.HP.bN T.ZZ (aj (U 0) (aj (bD d7 aM (cm e2 ao T.fy T.e8.bN T.ft (aj (U 0) (aj aM (aj (U 1) aG))))) aG))))
   (db (b7 (i:=4) ld.aD (gK aG))
   (db (fz fH rfl (lU rfl T.l1 (aj (fJ hD rfl T.g5 g4 (aj (U 3) aG)) aG)) (cA (i:=5) ld.aD) (db (b7 (i:=6) ld.aD (cm e2 ao T.fy T.e8.bN T.ft (aj (U 0) (aj (bD d7 aM (bD jd aM (U 5))) (aj (U 2) aG)))))
   (db (b7 (i:=7) ld.aD (bD i0 (bD d7 (bD d7 (U 6) aM) (cm e2 ao T.fy T.e8.bN T.ft (aj (U 0) (aj (bD d7 aM (bD jd aM (U 5))) (aj (bD k1 (U 2) aM) aG))))) (U 2)))
   (db (b7 (i:=8) ld.aD (bV c8 (gK (aj dh (aj dh (aj dh (aj dh aG))))) (cm e2 ao T.fy T.e8.bN T.ft (aj (U 0) (aj (bD d7 aM (bD jd aM (U 5))) (aj aM aG))))))
   (db (b7 (i:=9) ld.aD (bV c8 (gK (aj (cm e2 ao T.fy T.e8.bN T.ft (aj (U 0) (aj (bD d7 aM (bD jd aM (U 5))) (aj aM aG)))) (aj aM aG))) (pC Nk rfl T.DR I' (aj (gH ep (cm e2 ao T.fy T.e8.bN T.ft (aj (U 0) (aj (bD d7 aM (bD jd aM (U 5))) (aj aM aG)))) aM (cc _)) aG))))
   (db (b7 (i:=10) ld.aD (cm e2 ao T.fy T.e8.bN T.ft (aj (U 0) (aj (bD d7 aM (bD jd aM (U 5))) (aj aM aG)))))
   (db (dI (fW.pt (j0 (cU ep (cm e2 ao T.fy T.e8.bN T.ft (aj (U 0) (aj aM (aj aM aG)))) aM (cc _)) (kN (cU n5 (cm e2 ao T.fy T.e8.bN T.ft (aj (U 0) (aj (bD d7 aM (U 5)) (aj aM aG)))) aM (cc _))))) (db (b7 (i:=8) ld.aD dh)
   (a6 (b7 (i:=9) ld.aD aM))) d2)
   (a6 (eo (gq iW lh mi lD (U 4) (aj (tE (aj (U 8) (aj (bV c8 (U 3) (U 5)) (aj (U 6) (aj (U 7) (aj (U 9) (aj (U 10) (aj (bD d7 aM (cm e2 ao T.fy T.e8.bN T.ft (aj (U 0) (aj (bD d7 aM (bD jd aM (U 5))) (aj aM aG))))) aG)))))))) aG)))))))))))
   (a6 (cg (tE (aj (U 2) (aj (U 4) aG))))))))),?_⟩
 refine dc (fun aB I=>aO H I/\Sc K a ns I/\∃ n:Int,(4 <= n/\n <= 99)/\aB=[~~~a,some (.int most),some (.int n),none,none,none,none,none,none,none,none]) (fun b2 bW=>?_) fun cY aK=>?_
 .have eg:=hg ns 2 (m:=13) (by decide);have eW:=hi ns 2 (m:=13) (by decide);(nofun; repeat (dsimp only [iJ];nofun));obtain ⟨n,a4,ua⟩:∃ n:Int,(4 <= n/\n <= 99)/\(if decide (dg ns 3 6=0)=true then V.int 99 else V.int (4 + dg ns 2 13))=V.int n:=by
   split
   .exact ⟨99,by decide,rfl⟩
   .exact ⟨_,by omega,rfl⟩
  refine ⟨S,by decide,by decide,by decide,by decide,fun p ax=>⟨S.new ax,by decide,by decide,by decide,_,aC.of aV,_,at2 _ _ _,?_⟩⟩;rw [ua];exact bW _ _ ⟨bE ax,S.new ax,n,a4,rfl⟩
 rintro ajs bz ⟨s0,zj,n,a4,rfl⟩;obtain ⟨m,afP,hm⟩:∃ m:Nat,1 + dg ns 1 most=(m:Nat)/\(1 <= m/\m <= 8/\(m:Int) <= most):=by
  have eg:=hg ns 1 (m:=most) (by omega);have eW:=hi ns 1 (m:=most) (by omega);exact ⟨(1 + dg ns 1 most).toNat,by omega,by omega⟩
 subst aK;refine dc (fun aB I=>aO bz I/\Sc K a ns I/\∃ nl xs,I nl=some (.lst (aW xs))/\IJ m xs/\aB=[~~~a,some (.int most),some (.int n),~~~nl,none,none,none,none,none,none,none]) (fun b2 bW=>?_) fun cY aK=>?_
 .nofun;refine ⟨_,_,rfl,zj,by decide,by omega,_,rfl,?_⟩;rw [afP];exact ⟨m,rfl,zj,by omega,fun p xs I s1 mH _ e N=>bW _ _ ⟨s1,mH,p,xs,e,N,rfl⟩⟩
 rintro f_ H1 ⟨s1,mH,nl,xs,ua,N,rfl⟩;subst aK;refine dc (fun aB I=>Sc K a ns I/\aO H1 I/\∃ wl,H1 wl=none/\I wl=some (.lst [])/\aB=[~~~a,some (.int most),some (.int n),~~~nl,~~~wl,none,none,none,none,none,none]) (fun b2 bW=>?_) fun cY aK=>?_
 .nofun;exact ⟨fi _,fun wl gT=>bW _ _ ⟨mH.new gT,bE gT,wl,gT,aV,rfl⟩⟩
 rintro gc bf ⟨oA,s3,wl,gT,hu,rfl⟩;have Ma:(aW xs).length=m:=by unfold aW;rw [aZ,N.1]
 subst aK;nofun;refine ⟨_,.inl (aC.of (s3 _ _ ua)),by omega,by rw [Ma];omega,?_⟩;rw [show (((aW xs).length:Nat):Int).toNat=m by rw [Ma];rfl];refine dO.range (fun i σ I=>Sc K a ns I/\aO H1 I/\(∃ ds,iE I wl ds/\ds.length=i/\(∀ d ∈ ds,o1 n d/\d.least <= 4)/\∀ (j:Nat) (d:a8),ds[j]? = some d->xs[j]? = some d.name)/\∃ eA ey dV dk mR h7,σ=[~~~a,some (.int most),some (.int n),~~~nl,~~~wl,eA,ey,dV,dk,mR,h7]) ⟨oA,s3,⟨[],⟨[],hu,rfl,fun i q d h=>by simp at h⟩,rfl,fun d h=>by simp at h,fun j d h=>by simp at h⟩,_,_,_,_,_,_,rfl⟩ ?_ ?_
 .rintro i σ I ag bb;ac_rfl
  obtain ⟨ja,s4,⟨ds,w',gn,bl,ll⟩,eA,ey,dV,dk,mR,h7,rfl⟩:=bb;have xE:i < m:=ag;have yZ:xs[i]? = some (xs[i]'(by rw [N.1];exact xE)):=bo _;subst aK;generalize xs[i]'(by rw [N.1];exact xE)=nm at yZ;have abq:=s4 _ _ ua;have ag9:gi (aW xs) ((i:Nat):Int)=some (.str nm):=Db (by unfold aW;rw [c5,yZ];rfl);simp only [gU,dE,kG,kp,o8];exists (fun aB ix=>ix=I/\∃ st:Int,(0 <= st/\st < n)/\aB=[~~~a,some (.int most),some (.int n),~~~nl,~~~wl,some (.int (i:Nat)),some (.int st),dV,dk,mR,h7]),0
  .have eg:=hg ns (10 + 7 * (i:Int)) (m:=n) (by omega);have eW:=hi ns (10 + 7 * (i:Int)) (m:=n) (by omega);(nofun; repeat (dsimp only [iJ];nofun));exact ⟨.inl ⟨by decide,by decide⟩,ja,by omega,by omega,by omega,bW _ _ ⟨rfl,_,⟨eg,eW⟩,rfl⟩⟩
  rintro YD dX ⟨rfl,st,d0,rfl⟩;subst aK;simp only [dE];exists (fun aB ix=>ix=dX/\∃ e6:Int,(0 <= e6/\e6 < n)/\st ≠ e6/\aB=[~~~a,some (.int most),some (.int n),~~~nl,~~~wl,some (.int (i:Nat)),some (.int st),some (.int e6),dk,mR,h7]),0
  .have eg:=hg ns (11 + 7 * (i:Int)) (m:=n - 1) (by omega);have eW:=hi ns (11 + 7 * (i:Int)) (m:=n - 1) (by omega);have m0:=tr (st + 1 + dg ns (11 + 7 * (i:Int)) (n - 1)) (show n ≠ 0 by omega);have hR:=wX (st + 1 + dg ns (11 + 7 * (i:Int)) (n - 1)) (show 0 < n by omega);(nofun; repeat (dsimp only [iJ];nofun));exact ⟨.inl ⟨by decide,by decide⟩,ja,by omega,by omega,by omega,by omega,bW _ _ ⟨rfl,_,⟨m0,hR⟩,aaf d0.1 d0.2 eg (by omega),rfl⟩⟩
  rintro alw kB ⟨rfl,e6,Ji,cj,rfl⟩;subst aK;simp only [dE];exists (fun aB ix=>aO kB ix/\Sc K a ns ix/\∃ k:Nat,k < 3/\aB=[~~~a,some (.int most),some (.int n),~~~nl,~~~wl,some (.int (i:Nat)),some (.int st),some (.int e6),some (.str (d_ k)),mR,h7]),0
  .have eg:=hg ns (12 + 7 * (i:Int)) (m:=4) (by decide);have eW:=hi ns (12 + 7 * (i:Int)) (m:=4) (by decide);obtain ⟨k,az,nj⟩:=afB eg eW;(nofun; repeat (dsimp only [iJ];nofun));exact ⟨by decide,fun p ax=>⟨.inl ⟨by decide,by decide⟩,ja.new ax,by omega,by omega,by decide,_,aC.of aV,_,nj,bW _ _ ⟨bE ax,ja.new ax,k,az,rfl⟩⟩⟩
  rintro ajv G3 ⟨jM,SC,lP,iR,rfl⟩;subst aK;simp only [dE];exists (fun aB ix=>aO G3 ix/\Sc K a ns ix/\∃ r4:Int,(0 <= r4/\r4 <= 30)/\aB=[~~~a,some (.int most),some (.int n),~~~nl,~~~wl,some (.int (i:Nat)),some (.int st),some (.int e6),some (.str (d_ lP)),some (.int r4),h7]),0
  .have eg:=hg ns (13 + 7 * (i:Int)) (m:=9) (by decide);have eW:=hi ns (13 + 7 * (i:Int)) (m:=9) (by decide);(nofun; repeat (dsimp only [iJ];nofun));obtain ⟨v,aI,ua⟩:∃ v:Int,(0 <= v/\v <= 30)/\(if decide (dg ns (14 + 7 * (i:Int)) 12=0)=true then V.int 30 else V.int (dg ns (13 + 7 * (i:Int)) 9))=V.int v:=by
    split
    .exact ⟨30,by decide,rfl⟩
    .exact ⟨_,by omega,rfl⟩
   refine ⟨.inl ⟨by decide,by decide⟩,SC,by omega,by omega,by decide,by decide,fun p ax=>⟨.inl ⟨by decide,by decide⟩,SC.new ax,by omega,by omega,by decide,_,aC.of aV,_,at2 _ _ _,?_⟩⟩;rw [ua];exact bW _ _ ⟨bE ax,SC.new ax,v,aI,rfl⟩
  rintro ak6 Sp ⟨rF,uf,Mr,agk,rfl⟩;subst aK;simp only [dE];exists (fun aB ix=>ix=Sp/\∃ CB:Int,(0 <= CB/\CB <= 5)/\aB=[~~~a,some (.int most),some (.int n),~~~nl,~~~wl,some (.int (i:Nat)),some (.int st),some (.int e6),some (.str (d_ lP)),some (.int Mr),some (.int CB)]),0
  .have eg:=hg ns (15 + 7 * (i:Int)) (m:=6) (by decide);have eW:=hi ns (15 + 7 * (i:Int)) (m:=6) (by decide);(nofun; repeat (dsimp only [iJ];nofun));exact ⟨.inl ⟨by decide,by decide⟩,uf,by omega,by omega,by decide,bW _ _ ⟨rfl,_,by omega,rfl⟩⟩
  rintro aiP afK ⟨rfl,ne1,XB,rfl⟩;subst aK;simp only [dE];exists (fun aB ix=>ix=afK/\∃ (k:Nat) (r4:Int),k < 3/\(0 <= r4/\r4 <= 30)/\aB=[~~~a,some (.int most),some (.int n),~~~nl,~~~wl,some (.int (i:Nat)),some (.int st),some (.int e6),some (.str (d_ k)),some (.int r4),some (.int ne1)]),0
  .refine dt (decide (dg ns 9 6=0) && decide (0 < dg ns (60 + (i:Int)) 4)) (fun Q aR=>?_) (fun _=>?_) (fun _=>?_)
   ·(nofun; repeat (dsimp only [iJ];nofun));refine ⟨uf,by omega,by omega,by decide,?_⟩;by_cases cD:dg ns 9 6=0
    .rw [if_pos (decide_eq_true cD)];rw [decide_eq_true cD,lF] at aR;exact ⟨uf,by omega,by omega,by decide,aR⟩
    .rw [if_neg (by simpa using cD)];rw [decide_eq_false cD,mu] at aR;exact aR
   .nofun;exact bW _ _ ⟨rfl,1,0,by decide,by decide,rfl⟩
   .nofun;exact bW _ _ ⟨rfl,lP,Mr,iR,agk,rfl⟩
  rintro ai' aiW ⟨rfl,k,of2,az,Xv,rfl⟩;have hz:=jM.trans rF;have Y':=hz _ _ abq;have aa3:=w'.same hz;have eg:=hg ns (16 + 7 * (i:Int)) (m:=4) (by decide);have eW:=hi ns (16 + 7 * (i:Int)) (m:=4) (by decide);obtain ⟨si,aaR,hle⟩:∃ si:Int,1 + dg ns (16 + 7 * (i:Int)) 4=si/\1 <= si/\si <= 4:=⟨_,rfl,by omega,by omega⟩;obtain ⟨qs,cE,dq,al⟩:=aa3;subst aK;(nofun; repeat (dsimp only [iJ];nofun));rw [aaR];refine ⟨.inl ⟨_,aC.of cE⟩,_,aC.of Y',_,ag9,.inl ⟨by decide,by decide⟩,uf,by omega,by omega,by decide,by decide,fun p ax=>?_⟩;have d9:wl ≠ p:=dy cE ax;have XG:=iE.snoc (d:=⟨k,nm,st,e6,of2,ne1,si⟩) cE dq al ax;refine ⟨_,by rw [aE d9];exact cE,gW (show (qs.map V.ref).length <= 8 by rw [aZ];omega) (by decide),(uf.new ax).set (by rw [aE d9];exact cE) (fun _ _ z=>by cases z),((s4.trans hz).trans (bE ax)).gf gT,⟨ds ++ [⟨k,nm,st,e6,of2,ne1,si⟩],XG,by rw [dY,gn];rfl,fun d hd=>?_,fun j d hd=>?_⟩,?_⟩
  .rcases eG.mp hd with hd | hd
   .exact bl d hd
   .rw [d8.mp hd];exact ⟨⟨az,N.2.2 nm (cC yZ),⟨d0.1,d0.2⟩,⟨Ji.1,Ji.2⟩,cj,Xv,⟨XB.1,by dsimp only;omega⟩,⟨hle.1,by dsimp only;omega⟩⟩,hle.2⟩
  .rcases lW hd with ⟨_,z⟩ | ⟨z,rfl⟩
   .exact ll j d z
   .rw [z,gn];exact yZ
  .repeat (first | exact ⟨_,rfl⟩ | refine ⟨⟨_,rfl⟩,?_⟩)
 .rintro σ I bb;ac_rfl
  obtain ⟨ja,s4,⟨ds,w',gn,bl,ll⟩,eA,ey,dV,dk,mR,h7,rfl⟩:=bb;subst aK;nofun;refine ⟨by decide,fun i' nC=>?_⟩;refine q i' wl n ds _ (((s0.trans s1).trans s4).trans (bE nC)) (ja.new nC) aV (w'.same (bE nC)) ⟨fun d hd=>⟨(bl d hd).1,trivial⟩,?_⟩ (fun d hd=>(bl d hd).2) a4 (by omega);have e:ds.map (·.name)=xs:=by
   refine List.ext_getElem? fun j=>?_
   rw [c5];cases h:ds[j]? with
   | some d=>exact (ll j d h).symm
   | none=>
    have:ds.length <= j:=I2.mp h;exact (I2.mpr (by rw [N.1];omega)).symm
  rw [e];exact N.2.1
theorem ag8 (d:a8):((((d_ d.k ++ ab " ") ++ d.name) ++ ab " ") ++ oU (ab " ") [num d.start,num d.fin,num d.off,num d.near,num d.least])=dS cw (mV d):=by
 apply Al;have gd:(ab " ").cps.toList=[32]:=by ac_nf
 rw [show oU (ab " ") [num d.start,num d.fin,num d.off,num d.near,num d.least]=dS cw [num d.start,num d.fin,num d.off,num d.near,num d.least] from uN _ _];rw [n8,n3,yb,qn,qn];unfold mV;simp only [n8,n3,er,p6,km,gd,oV,BC,wk]
theorem aiF (n:Int):ab "ring " ++ num n=dS cw [ab "ring",num n]:=by
 apply Al;have au:(ab "ring ").cps.toList=[114,105,110,103,32]:=by ac_nf
 have aH:(ab "ring").cps.toList=[114,105,110,103]:=by ac_nf
 rw [yb,qn];simp only [n8,n3,er,p6,km,au,aH,BC,wk]
theorem yW:∀ {ys:List Str},(∀ y ∈ ys,y.length <= B)->(ys.map (·.length)).sum <= ys.length * B
 | [],_=>by simp
 | a :: r,h=>by
  have af:=h a (by simp);have ak:=yW (B:=B) (ys:=r) fun y bg=>h y (hM _ bg)
  rw [er,Pm,iu,VG];omega
theorem Uy (h:qW n ds):∀ y ∈ (hW n ds).map (dS cw),y.length <= 63:=fun y bg=>by
 obtain ⟨r,ao,rfl⟩:=bK.mp bg;have:=Tk cw 8 r fun x ah=>(h.plain r ao x ah).1
 rw [qt] at this;have aL:r.length <= 7:=by
  rcases eJ.mp ao with rfl | ao
  .simp
  .obtain ⟨d,hd,rfl⟩:=bK.mp ao;simp [mV]
 omega
def Ol (K:ba):bU:=fun vs H Q _=>∃ n wl ds,vs=[.int n,.ref wl]/\iE H wl ds/\rC n ds/\(2 <= n/\n <= 99)/\(1 <= ds.length/\ds.length <= 12)/\aP H/\Q (.str (oh n ds)) H
def aht (K:ba):bU:=fun vs H Q _=>∃ n wl ds,vs=[.int n,.ref wl]/\iE H wl ds/\rC n ds/\(2 <= n/\n <= 99)/\(1 <= ds.length/\ds.length <= 12)/\∀ I,aO H I->Q (.str (oh n ds)) I
theorem S9:ct P base T 1 t.yc t.BK z7 (Ol K):=by
 refine cH.forget (sp:=aht K) ?_ fun vs H Q E h=>?_
 .exists T.io.ok EI,9
  obtain ⟨n,wl,ds,rfl,L,D,a4,aL,q⟩:=h;refine ⟨_,(db (b7 (i:=2) EI.aD (gK (aj (bD lL dh (pC wa rfl T.uR uj (aj (U 0) aG))) aG)))
   (db (fz fH rfl (eT (U 1)) (cA (i:=3) EI.aD) (a6 (eo (gq iW lh mi lD (U 2) (aj (bD lL (bD lL (bD lL (bD lL (bV fv (U 3) aM) dh) (bV fv (U 3) aM)) dh) (gq tv xR BW vj dh (aj (hP rfl (UH (oB YE (U 3) (ou aM) oy)) (gA (sc:=bt Jr) rfl (by ac_nf)) (N:=["_law_number"]) (sel:=[none]) (gC (M:=["_law_places","_law_ways_here","_law_rows","_law_way"]) (by ac_nf)) (fx.of (fun _ _ _ _=>(cA (i:=0) (eu (N:=["_law_number"]) (by ac_nf) rfl))) (fun _ _ _ _=>⟨_,h4,by walk_at "B"⟩) (fun _ _ _ _=>⟨_,(pC wa rfl T.uR uj (aj (U 0) aG)),by walk_at "B"⟩))) aG))) aG)))))
   (a6 (cg (gq tv xR BW vj dh (aj (U 2) aG)))))),?_⟩
  have de:=D.NA a4 aL;obtain ⟨qs,cE,dq,al⟩:=L;have hlen:∀ x:Str,oO x->x.length <= 8:=fun x h=>h.1
  have nS:∀ k:Nat,k <= 1000->k <= sizeLine:=fun k h=>c_ h (by decide)
  have Uh:(ab "ring ").length=5:=by ac_nf
  have yv:(ab " ").length=1:=by ac_nf
  nofun;have akE:(ab (toString n)).length <= 8:=(kI (v:=n) (by omega) (by omega)).1;refine ⟨Jl (by omega),nS _ (by rw [Uh];omega),by decide,fun dv xl=>?_⟩;rw [aiF];have s0:aO H (upd H dv (.lst [V.str (dS cw [ab "ring",num n])])):=bE xl;refine ⟨⟨_,aC.of (s0 _ _ cE)⟩,?_⟩;refine dO.list (xs:=qs.map V.ref) (fun i σ I=>aO H I/\I dv=some (.lst (aW ((hW n (ds.take i)).map (dS cw))))/\∃ x,σ=[some (.int n),~~~wl,~~~dv,x]) ?_ ?_ ?_ ?_
  .exact ⟨s0,aV,none,rfl⟩
  .rintro i σ I ag ⟨bO,_,_⟩;exact aC.of (bO _ _ cE)
  .rintro i v σ I aI bb;ac_rfl
   obtain ⟨bO,ao,x,rfl⟩:=bb;obtain ⟨e9,a0,rfl⟩:=cy aI;have k_:i < ds.length:=by rw [<- dq];exact (b'.mp a0).1
   have hd:ds[i]? = some ds[i]:=bo k_;have hQ:di K I e9 (j_ ds[i]):=di.of (bO _ _ (al i e9 _ a0 hd));have hw:=(D.al _ (cC hd)).1;have f5:=hw.st;have fT:=hw.e6;have mm:=hw.of;have rk:=hw.H6;have WU:=hw.le;have fh:=hlen _ (Mc ds[i].k);have eS:=hlen _ (Jn hw.nm);have Kx:(num ds[i].start).length <= 8:=hlen _ (kI (v:=ds[i].start) (by omega) (by omega));have aja:(num ds[i].fin).length <= 8:=hlen _ (kI (v:=ds[i].fin) (by omega) (by omega));have akB:(num ds[i].off).length <= 8:=hlen _ (kI (v:=ds[i].off) (by omega) (by omega));have akq:(num ds[i].least).length <= 8:=hlen _ (kI (v:=ds[i].least) (by omega) (by omega));have ajt:(num ds[i].near).length <= 8:=hlen _ (kI (v:=ds[i].near) (by omega) (by omega));subst aK;nofun;refine ⟨.inl ⟨_,aC.of ao⟩,?_⟩;have YG:gi (j_ ds[i]) 0=some (.str (d_ ds[i].k)):=Db (j:=0) rfl;have Un:gi (j_ ds[i]) 1=some (.str ds[i].name):=Db (j:=1) rfl;refine ⟨_,hQ,_,YG,_,rfl,nS _ (by omega),_,hQ,_,Un,_,rfl,nS _ (by rw [nW];omega),nS _ (by simp only [nW];omega),?_⟩;have EJ:iU (j_ ds[i]) (some 2) none=[.int ds[i].start,.int ds[i].fin,.int ds[i].off,.int ds[i].near,.int ds[i].least]:=rfl;refine ⟨_,hQ,?_,fun p ax=>⟨⟨_,di.of aV⟩,?_⟩⟩
   .show ¬ (eV.c1 7 0 (some 2)=0/\eV.c1 7 7 none=7);decide
   rw [EJ];have aiM:(oU (ab " ") [num ds[i].start,num ds[i].fin,num ds[i].off,num ds[i].near,num ds[i].least]).length <= 50:=by
    rw [show oU (ab " ") [num ds[i].start,num ds[i].fin,num ds[i].off,num ds[i].near,num ds[i].least]=dS cw [num ds[i].start,num ds[i].fin,num ds[i].off,num ds[i].near,num ds[i].least] from uN _ _];have:=Tk cw 8 [num ds[i].start,num ds[i].fin,num ds[i].off,num ds[i].near,num ds[i].least] (fun y bg=>by
     simp only [eJ,qw,or_false] at bg;rcases bg with rfl | rfl | rfl | rfl | rfl <;> assumption)
    rw [qt] at this;simp only [iu,vB] at this;omega
   refine c9.T1 (xs:=[.int ds[i].start,.int ds[i].fin,.int ds[i].off,.int ds[i].near,.int ds[i].least]) (zs:=aW [num ds[i].start,num ds[i].fin,num ds[i].off,num ds[i].near,num ds[i].least]) (di.of aV) (nS _ (show 5 <= 1000 by decide)) rfl (fun j v z N aI aT br=>?_) (fun eH hv=>?_)
   .have key:∃ a:Int,v=.int a/\z=.str (num a)/\0 <= a/\a < 100:=by
     match j,aI,aT with
     | 0,aI,aT=>cases aI;cases aT;exact ⟨_,rfl,rfl,f5.1,by omega⟩
     | 1,aI,aT=>cases aI;cases aT;exact ⟨_,rfl,rfl,fT.1,by omega⟩
     | 2,aI,aT=>cases aI;cases aT;exact ⟨_,rfl,rfl,mm.1,by omega⟩
     | 3,aI,aT=>cases aI;cases aT;exact ⟨_,rfl,rfl,rk.1,by omega⟩
     | 4,aI,aT=>cases aI;cases aT;exact ⟨_,rfl,rfl,by omega,by omega⟩
     | k + 5,aI,aT=>simp at aI
    obtain ⟨a,rfl,rfl,ai5,akx⟩:=key;nofun;exact ⟨Sub.name,Jl (by omega),br⟩
   .nofun;have S0:dv ≠ eH:=by
     rintro rfl;rw [aE (dy ao ax)] at hv;rw [hv] at ao;cases ao
    have gy:(upd (upd I p (.tup [.int ds[i].start,.int ds[i].fin,.int ds[i].off,.int ds[i].near,.int ds[i].least])) eH (.lst (aW [num ds[i].start,num ds[i].fin,num ds[i].off,num ds[i].near,num ds[i].least]))) dv=some (.lst (aW ((hW n (ds.take i)).map (dS cw)))):=by
     rw [aE S0,aE (dy ao ax)];exact ao
    have vy:aO I (upd (upd I p (.tup [.int ds[i].start,.int ds[i].fin,.int ds[i].off,.int ds[i].near,.int ds[i].least])) eH (.lst (aW [num ds[i].start,num ds[i].fin,num ds[i].off,num ds[i].near,num ds[i].least]))):=(bE ax).trans (bE hv);have Ss:=aC.of (K:=K) (H:=upd (upd I p (.tup [.int ds[i].start,.int ds[i].fin,.int ds[i].off,.int ds[i].near,.int ds[i].least])) eH (.lst (aW [num ds[i].start,num ds[i].fin,num ds[i].off,num ds[i].near,num ds[i].least]))) (a:=eH) aV;generalize upd (upd I p (.tup [.int ds[i].start,.int ds[i].fin,.int ds[i].off,.int ds[i].near,.int ds[i].least])) eH (.lst (aW [num ds[i].start,num ds[i].fin,num ds[i].off,num ds[i].near,num ds[i].least]))=aw at gy vy Ss ⊢;refine ⟨_,Ss,?_,nS _ (by simp only [nW];omega),_,gy,?_,?_,?_,_,rfl⟩
    .simp only [er,p6,Pm,List.sum_nil,iu,vB];omega
    .rw [fb,aZ];exact gW (show (hW n (ds.take i)).length <= 13 by unfold hW;rw [iu,aZ,gD];omega) (by decide)
    .exact fun b u e=>by rw [aE (dy e xl)];exact vy _ _ (bO _ _ e)
    .rw [aV,ag8 ds[i]];congr 2;unfold hW aW;simp;rw [pf,c5,hd];rfl
  .rintro σ I bb;ac_rfl
   obtain ⟨bO,ao,x,rfl⟩:=bb;subst aK;nofun;rw [aZ,dq,hB] at ao;refine ⟨_,aC.of ao,?_,?_⟩
   .have hl:∀ y ∈ (hW n ds).map (dS cw),y.length <= 63:=Uy de;have ajU:((hW n ds).map (dS cw)).length <= 13:=by
     unfold hW;rw [aZ,iu,aZ];omega
    have:=yW hl;rw [show (ab "\n").length=1 by ac_nf];omega
   .have:=q I bO;unfold oh at this;rw [show oU (ab "\n") ((hW n ds).map (dS cw))=dS nl ((hW n ds).map (dS cw)) from uN _ _];exact this
 .obtain ⟨n,wl,ds,af,ak,a9,cW,eF,bM,q⟩:=h;exact ⟨bM,n,wl,ds,af,ak,a9,cW,eF,fun I bO=>⟨bO,q⟩⟩
def ael (K:ba):bU:=fun vs H Q _=>∃ n a b d e,vs=[.ref a,.ref b,.int n]/\di K H a (j_ d)/\di K H b (j_ e)/\o1 n d/\o1 n e/\Q (.bk (mt n d e)) H
noncomputable def hc (d e:a8):Bool:=decide (d.k=2) == decide (e.k=2)
def YQ (K:ba):bU:=fun vs H Q _=>∃ wl ds,∃ i j:Nat,∃ d e,vs=[.ref wl,.int i,.int j]/\iE H wl ds/\ds[i]? = some d/\ds[j]? = some e/\d.k < 3/\e.k < 3/\Q (.bk (hc d e)) H
theorem XF:ct P base T 1 t.IU t.JJ E8 (ael K):=by
 exists T.Ft.ok zY,9
 obtain ⟨n,a,b,d,e,rfl,qj,t8,hd,he,q⟩:=h;refine ⟨_,(db (dI (cU ep (bV fv (U 0) aM) (bV fv (U 1) aM) (cc _)) (a6 (cg ju)) d2)
   (db (dI (fW.pt (rG (cU ep (bV fv (U 0) aM) (bV fv (U 1) aM) (cc _)) (rG (cU ep (bV fv (U 0) aM) (bV fv (U 1) aM) (cc _)) (ti (cU ep (bV fv (U 0) aM) (bV fv (U 1) aM) (cc _)))))) (a6 (cg ju)) d2)
   (db (b7 (i:=3) zY.aD (bD i0 (bD k1 (bV fv (U 0) aM) (bV fv (U 0) aM)) (U 2)))
   (db (b7 (i:=4) zY.aD (bD i0 (bD k1 (bV fv (U 1) aM) (bV fv (U 0) aM)) (U 2)))
   (db (b7 (i:=5) zY.aD (bD i0 (bD k1 (bV fv (U 1) aM) (bV fv (U 0) aM)) (U 2)))
   (a6 (cg (gH o6 (gH kn (U 4) (U 3) (cc _)) (gH kn (U 5) (U 3) (cc _)) (cc _))))))))),?_⟩
 have a2:gi (j_ d) 2=some (.int d.start):=Db (j:=2) rfl;have f7:gi (j_ d) 3=some (.int d.fin):=Db (j:=3) rfl;have fT:gi (j_ e) 2=some (.int e.start):=Db (j:=2) rfl;have mm:gi (j_ e) 3=some (.int e.fin):=Db (j:=3) rfl;have f1:=hd.st;have f2:=hd.e6;have eh:=he.st;have f4:=he.e6;refine dt (decide (d.fin=e.fin)) (fun Q aR=>?_) (fun c=>?_) (fun c=>?_)
 .nofun;refine ⟨_,qj,_,f7,_,t8,_,mm,rfl,?_⟩;nofun;exact aR
 .nofun;unfold mt rB at q;rw [c,qS] at q;exact q
 .have c':=of_decide_eq_false c;nofun;refine dt (decide (d.start=e.start) || (decide (d.start=e.fin) || decide (d.fin=e.start))) (fun Q aR=>?_) (fun aa=>?_) (fun aa=>?_)
  .nofun;refine ⟨_,qj,_,a2,_,t8,_,fT,rfl,?_⟩;by_cases cu:d.start=e.start
   .rw [if_pos (by simp [cu])];rw [decide_eq_true cu,qS] at aR;exact aR
   .rw [if_neg (by simpa using cu)];refine ⟨_,qj,_,a2,_,t8,_,mm,rfl,?_⟩;by_cases cS:d.start=e.fin
    .rw [if_pos (by simp [cS])];rw [decide_eq_false cu,decide_eq_true cS,lj,qS] at aR;exact aR
    .rw [if_neg (by simpa using cS)];refine ⟨_,qj,_,f7,_,t8,_,fT,rfl,?_⟩;rw [decide_eq_false cu,decide_eq_false cS,lj,lj] at aR;rw [show decide (V.int d.fin=V.int e.start)=decide (d.fin=e.start) from decide_eq_decide.mpr (by simp)];exact aR
  .nofun;unfold mt rB at q;rw [c,lj,if_pos (by
    rw [rg,rg,decide_eq_true_eq,decide_eq_true_eq,decide_eq_true_eq] at aa
    omega)] at q
   exact q
  .rw [s7,s7,decide_eq_false_iff_not,decide_eq_false_iff_not,decide_eq_false_iff_not] at aa;have oZ:0 < n:=by omega
   have ef:0 < (e.start - d.start) % n:=by rw [yY f1.1 f1.2 eh.1 eh.2];split <;> omega
   have eH:0 < (e.fin - d.start) % n:=by rw [yY f1.1 f1.2 f4.1 f4.2];split <;> omega
   unfold mt rB kf at q;rw [c,lj,if_neg (by omega),decide_eq_true ef,decide_eq_true eH,lF,lF] at q;nofun;refine ⟨_,qj,_,f7,_,qj,_,a2,_,rfl,_,rfl,oZ,_,t8,_,fT,_,qj,_,a2,_,rfl,_,rfl,oZ,_,t8,_,mm,_,qj,_,a2,_,rfl,_,rfl,oZ,?_⟩;generalize decide ((e.start - d.start) % n < (d.fin - d.start) % n)=X at q ⊢;generalize decide ((e.fin - d.start) % n < (d.fin - d.start) % n)=Y at q ⊢;cases X <;> cases Y <;> exact q
theorem ad':ct P base T 1 t.HO t.H5 CH (YQ K):=by
 exists T.Dv.ok KC,9
 obtain ⟨wl,ds,i,j,d,e,rfl,⟨qs,cE,dq,al⟩,ag,aJ,az,e1,q⟩:=h;have gV:qs[i]? = some (qs[i]'(by rw [dq];exact (b'.mp ag).1)):=bo _;have eC:qs[j]? = some (qs[j]'(by rw [dq];exact (b'.mp aJ).1)):=bo _;have tH:=al i _ d gV ag;have HW:=al j _ e eC aJ;have r2:=Db (xs:=qs.map V.ref) (j:=i) (by rw [c5,gV];rfl);have FT:=Db (xs:=qs.map V.ref) (j:=j) (by rw [c5,eC];rfl);refine ⟨_,(db (b7 (i:=3) KC.aD (gH ep (bV fv (bV c8 (U 0) (U 1)) aM) dh (cc _)))
   (a6 (cg (gH ep (U 3) (gH ep (bV fv (bV c8 (U 0) (U 2)) aM) dh (cc _)) (cc _))))),?_⟩
 nofun;refine ⟨_,aC.of cE,_,r2,_,rfl,_,di.of tH,_,Db (j:=0) rfl,rfl,_,aC.of cE,_,FT,_,rfl,_,di.of HW,_,Db (j:=0) rfl,rfl,?_⟩;have af:∀ k,k < 3->decide (V.str (d_ k)=V.str (ab "tram"))=decide (k=2):=by ac_nf
 rw [af d.k az,af e.k e1];unfold hc at q;rw [show decide (decide (d.k=2)=decide (e.k=2))=(decide (d.k=2) == decide (e.k=2)) from rfl];exact q
structure jG (bz H:ar) (gl:Addr) (qs:List Addr) (cb:List (List Nat)):Prop where
 af:H gl=some (.lst (qs.map V.ref))
 ak:qs.length=cb.length
 a9:qs.Nodup
 cW:gl ∉ qs
 eF:∀ (i:Nat) (q:Addr) (g:List Nat),qs[i]? = some q->cb[i]? = some g->H q=some (.lst (g.map fun k:Nat=>V.int k))
 h5:∀ q ∈ qs,bz q=none
theorem jG.same (h:jG bz H gl qs cb) (s:aO H I):jG bz I gl qs cb:=
 ⟨s _ _ h.af,h.ak,h.a9,h.cW,fun i q g a b=>s _ _ (h.eF i q g a b),h.h5⟩
structure i8 (n:Int) (ds:List a8) (m:Nat) (cb:List (List Nat)):Prop where
 ne:∀ g ∈ cb,g ≠ []
 pm:cb.flatten.Perm (gx m)
 AG:∀ g ∈ cb,∀ i ∈ g,∀ j ∈ g,i ≠ j->∀ d e,ds[i]? = some d->ds[j]? = some e->mt n d e=false
 al:∀ g ∈ cb,∀ i ∈ g,∀ j ∈ g,∀ d e,ds[i]? = some d->ds[j]? = some e->hc d e=true
theorem i8.nil (n:Int) (ds:List a8):i8 n ds 0 []:=⟨by simp,by simp,by simp,by simp⟩
theorem uc:hc y z=true↔(y.k=2↔z.k=2):=by
 unfold hc;simp
theorem UG (h:hc y z=true):hc z y=true:=uc.mpr (uc.mp h).symm
theorem Zf {x y z:a8} (h:hc x y=true) (h':hc y z=true):hc x z=true:=uc.mpr ((uc.mp h).trans (uc.mp h'))
theorem jG.off {gl x:Addr} (h:jG bz H gl qs cb) (ah:x ≠ gl) (a0:x ∉ qs):jG bz (upd H x o) gl qs cb:=
 ⟨by rw [aE (dW ah)];exact h.af,h.ak,h.a9,h.cW,fun i q g a b=>by rw [aE (fun z=>a0 (by rw [<- z];exact cC a))];exact h.eF i q g a b,h.h5⟩
theorem Kz (l:List α) (i:Nat) (a:α):(ins l i a).Perm (l ++ [a]):=by
 unfold ins;refine Us.trans ?_;rw [Ki];exact (UW (l₁:=[a]) (l₂:=l))
theorem WW:∀ {l l':List (List α)},l.Perm l'->l.flatten.Perm l'.flatten:=fun h=>h.flatten
theorem Mf:∀ {cb:List (List Nat)} {j:Nat} {g g':List Nat} {k:Nat},cb[j]? = some g->g'.Perm (g ++ [k])->(cb.set j g').flatten.Perm (cb.flatten ++ [k])
 | [],j,g,g',k,h,_=>by simp at h
 | nQ :: cb,0,g,g',k,h,p=>by
  cases (show nQ=g by simpa using h);show (g' :: cb).flatten.Perm _;rw [tf,tf,oV];refine (p.append_right _).trans ?_;rw [oV];exact ab2 nQ UW
 | nQ :: cb,j + 1,g,g',k,h,p=>by
  rw [Bs] at h;show (nQ :: cb.set j g').flatten.Perm _;rw [tf,tf,oV];exact ab2 nQ (Mf h p)
theorem i8.put (S:i8 n ds m cb) {j p:Nat} (aQ:cb[j]? = some g) (hd:ds[m]? = some d)
  (xN:∀ i ∈ g,∀ e,ds[i]? = some e->mt n e d=false/\mt n d e=false/\hc e d=true):i8 n ds (m + 1) (cb.set j (ins g p m)):=by
 have nr:=cC aQ;refine ⟨fun x ah=>?_,?_,fun x ah i ag fF e7 cj e bT he ho=>?_,fun x ah i ag fF e7 e bT he ho=>?_⟩
 .rcases KG ah with z | z
  .exact S.ne x z
  .rw [z];unfold ins;simp
 .rw [uI];exact (Mf aQ (Kz g p m)).trans (S.pm.append_right [m])
 .rcases KG ah with z | z
  .exact S.AG x z i ag fF e7 cj e bT he ho
  .rw [z] at ag e7;rcases l4 ag with u | u
   .subst u;rw [hd] at he;cases he;rcases l4 e7 with v | v
    .exact absurd v.symm cj
    .exact (xN fF v bT ho).2.1
   .rcases l4 e7 with v | v
    .subst v;rw [hd] at ho;cases ho;exact (xN i u e he).1
    .exact S.AG g nr i u fF v cj e bT he ho
 .rcases KG ah with z | z
  .exact S.al x z i ag fF e7 e bT he ho
  .rw [z] at ag e7;have self:∀ y:a8,hc y y=true:=fun y=>by unfold hc;simp
   have sym:∀ y z:a8,hc y z=true->hc z y=true:=fun y z h=>UG h
   rcases l4 ag with u | u
   .subst u;rw [hd] at he;cases he;rcases l4 e7 with v | v
    .subst v;rw [hd] at ho;cases ho;exact self _
    .exact sym _ _ (xN fF v bT ho).2.2
   .rcases l4 e7 with v | v
    .subst v;rw [hd] at ho;cases ho;exact (xN i u e he).2.2
    .exact S.al g nr i u fF v e bT he ho
theorem i8.new (S:i8 n ds m cb) (p:Nat):i8 n ds (m + 1) (ins cb p [m]):=by
 have self:∀ y:a8,hc y y=true:=fun y=>by unfold hc;simp
 refine ⟨fun x ah=>?_,?_,fun x ah i ag fF e7 cj e bT he ho=>?_,fun x ah i ag fF e7 e bT he ho=>?_⟩
 .rcases l4 ah with z | z
  .rw [z];simp
  .exact S.ne x z
 .rw [uI];refine (WW (Kz cb p [m])).trans ?_;rw [ZH];simpa using S.pm.append_right [m]
 .rcases l4 ah with z | z
  .rw [z] at ag e7;exact absurd ((d8.mp ag).trans (d8.mp e7).symm) cj
  .exact S.AG x z i ag fF e7 cj e bT he ho
 .rcases l4 ah with z | z
  .rw [z] at ag e7;rw [d8.mp ag] at he;rw [d8.mp e7,he] at ho;cases ho;exact self _
  .exact S.al x z i ag fF e7 e bT he ho
theorem jG.put (h:jG bz H gl qs cb) (a0:qs[j]? = some q) (aJ:j < cb.length) :
  jG bz (upd H q (.lst (g'.map fun k:Nat=>V.int k))) gl qs (cb.set j g'):=by
 obtain ⟨af,ak,a9,cW,eF,h5⟩:=h;have lI:gl ≠ q:=fun z=>cW (by rw [z];exact cC a0)
 refine ⟨by rw [aE lI];exact af,by rw [aaa];exact ak,a9,cW,fun i r g a b=>?_,h5⟩;by_cases c:i=j
 .subst c;rw [a0] at a;cases a;rw [LS aJ] at b;cases b;exact aV
 .rw [Cc (fun e=>c e.symm)] at b;have cj:r ≠ q:=fun e=>by
   subst e;obtain ⟨a1,f5⟩:=b'.mp a;obtain ⟨a2,fT⟩:=b'.mp a0;exact c ((x2 a9).mp (f5.trans fT.symm))
  rw [aE cj];exact eF i r g a b
theorem jG.new {gl p:Addr} {k:Nat} (h:jG bz H gl qs cb) (h0:aO bz H) (ax:H p=none) (az:k <= cb.length) :
  jG bz (upd (upd H p (.lst (g.map fun k:Nat=>V.int k))) gl (.lst ((ins qs k p).map V.ref))) gl (ins qs k p) (ins cb k g):=by
 have LB:gl ≠ p:=dy h.af ax;have Vv:p ∉ qs:=fun z=>by
  obtain ⟨i,ag⟩:=hH z;have ET:i < cb.length:=by rw [<- h.ak];exact (b'.mp ag).1
  have e:=h.eF i p _ ag (bo ET);rw [ax] at e;cases e
 have OW:k <= qs.length:=by rw [h.ak];exact az
 refine ⟨aV,by rw [FY OW,FY az,h.ak],ahz h.a9 Vv,fun z=>?_,fun i q g' a b=>?_,fun q a0=>?_⟩
 .rcases l4 z with z | z
  .exact LB z
  .exact h.cW z
 .rw [sv OW] at a;rw [sv az] at b;have keep:∀ {i:Nat} {q:Addr} {g':List Nat},qs[i]? = some q->cb[i]? = some g'->upd (upd H p (.lst (g.map fun k:Nat=>V.int k))) gl (.lst ((ins qs k p).map V.ref)) q=some (.lst (g'.map fun k:Nat=>V.int k)):=fun {i q g'} a b=>by
   have e:=h.eF i q g' a b;have lI:q ≠ gl:=fun z=>h.cW (by rw [<- z];exact cC a)
   rw [aE lI,aE (dy e ax)];exact e
  by_cases cu:i < k
  .rw [if_pos cu] at a b;exact keep a b
  .rw [if_neg cu] at a b;by_cases cS:i=k
   .rw [if_pos cS] at a b;cases a;cases b;rw [aE (dW LB),aV]
   .rw [if_neg cS] at a b;exact keep a b
 .rcases l4 a0 with z | z
  .rw [z];exact h0.free ax
  .exact h.h5 q z
structure eO where
 lo:Int
 ag:Int
 dU:List Nat
structure k6 (H:ar) (bS:Addr) (qs ms:List Addr) (aF:List eO):Prop where
 at_:H bS=some (.lst (qs.map V.ref))
 cE:qs.length=aF.length
 dq:ms.length=aF.length
 al:∀ (i:Nat) (q m:Addr) (s:eO),qs[i]? = some q->ms[i]? = some m->aF[i]? = some s->H q=some (.tup [.int s.lo,.int s.ag,.ref m])/\H m=some (.lst (s.dU.map fun k:Nat=>V.int k))
theorem k6.same (h:k6 H bS qs ms aF) (s:aO H I):k6 I bS qs ms aF:=
 ⟨s _ _ h.at_,h.cE,h.dq,fun i q m r a b c=>⟨s _ _ (h.al i q m r a b c).1,s _ _ (h.al i q m r a b c).2⟩⟩
structure yF (n:Int) (ds:List a8) (aF:List eO):Prop where
 bh:i8 n ds ds.length (aF.map (·.dU))
 le:∀ s ∈ aF,∀ i ∈ s.dU,∀ d,ds[i]? = some d->d.least <= s.lo
 bd:∀ s ∈ aF,1 <= s.lo/\s.lo <= 21/\s.lo <= s.ag/\s.ag <= 40
theorem i8.len (S:i8 n ds m cb):cb.length <= m/\cb.flatten.length=m:=by
 have af:=S.pm.length_eq;rw [rP] at af;have:∀ {cb:List (List Nat)},(∀ g ∈ cb,g ≠ [])->cb.length <= cb.flatten.length:=fun {cb}=>by
  induction cb with
  | nil=>intro _;simp
  | cons g cb b4=>
   intro h;have a1:=b4 fun x ah=>h x (hM _ ah)
   have a2:=Rk.mpr (h g (by simp));rw [tf,dY,iu];omega
 have:=this S.ne;omega
theorem i8.lt (S:i8 n ds m cb) (aQ:g ∈ cb) (ag:i ∈ g):i < m:=qg.mp (S.pm.mem_iff.mp (HM.mpr ⟨g,aQ,ag⟩))
theorem i8.Io (S:i8 n ds m cb) (aQ:g ∈ cb):g.length <= m:=by
 have af:=(Yp aQ).length_le;have:=S.len.2;omega
theorem afr (h0:0 <= i) (af:i < 6):∃ mo:Int,(1 <= mo/\mo <= 20)/\gi [V.int 4,V.int 4,V.int 4,V.int 4,V.int 4,V.int 20] i=some (.int mo):=by
 have:i=0\/i=1\/i=2\/i=3\/i=4\/i=5:=by omega
 rcases this with rfl | rfl | rfl | rfl | rfl | rfl
 .exact ⟨4,by decide,Db (j:=0) rfl⟩
 .exact ⟨4,by decide,Db (j:=1) rfl⟩
 .exact ⟨4,by decide,Db (j:=2) rfl⟩
 .exact ⟨4,by decide,Db (j:=3) rfl⟩
 .exact ⟨4,by decide,Db (j:=4) rfl⟩
 .exact ⟨20,by decide,Db (j:=5) rfl⟩
def OS (K:ba):bU:=fun vs H Q _=>∃ (a:Addr) (ns:List Int) (n:Int) (wl:Addr) (ds:List a8),vs=[.ref a,.int n,.ref wl]/\ns.length <= 63/\aC K H a (ns.map V.int)/\aP H/\iE H wl ds/\rC n ds/\(∀ d ∈ ds,d.least <= 4)/\(1 <= ds.length/\ds.length <= 8) /\
 ∀ bS qs ms aF I,aO H I->aP I->k6 I bS qs ms aF->yF n ds aF->Q (.ref bS) I
theorem ac8:ct P base T 2 t.Ah t.zJ BI (OS K):=by
 refine cF (Zc T) fun e2=>cF (XF T) fun afA=>cF (ad' T) fun ahb=>?_;exists T.CV.ok kq,9
 obtain ⟨a,ns,n,wl,ds,rfl,hl,S,bM,L,D,hle,gn,q⟩:=h;obtain ⟨oc,cE,dq,C4⟩:=id L;have iG:(oc.map V.ref).length=ds.length:=by rw [aZ,dq]
 have w4:∀ (i:Nat) (d:a8),ds[i]? = some d->∃ nB,gi (oc.map V.ref) (i:Int)=some (.ref nB)/\H nB=some (.tup (j_ d)):=fun i d hd=>by
  have gV:oc[i]? = some (oc[i]'(by rw [dq];exact (b'.mp hd).1)):=bo _;exact ⟨_,Db (by rw [c5,gV];rfl),C4 i _ d gV hd⟩
 refine ⟨_,(db (b7 (i:=3) kq.aD (gK aG))
   (db (fz fH rfl (lU rfl T.l1 (aj (fJ hD rfl T.g5 g4 (aj (U 2) aG)) aG)) (cA (i:=4) kq.aD) (db (b7 (i:=5) kq.aD (gK aG))
   (db (fz fH rfl (lU rfl T.l1 (aj (fJ hD rfl T.g5 g4 (aj (U 3) aG)) aG)) (cA (i:=6) kq.aD) (db (b7 (i:=7) kq.aD (cm ahb ao T.Vu T.Dv.bN T.YK (aj (U 2) (aj (bV c8 (bV c8 (U 3) (U 6)) aM) (aj (U 4) aG)))))
   (db (fz fH rfl (eT (bV c8 (U 3) (U 6))) (cA (i:=8) kq.aD) (a6 (b7 (i:=7) kq.aD (xd (U 7) (sV (Ob (cm afA ao T.T2 T.Ft.bN T.abP (aj (bV c8 (U 2) (U 8)) (aj (bV c8 (U 2) (U 4)) (aj (U 1) aG))))))))))
   (a6 (dI (lY (U 7)) (a6 (eo (gq iW lh mi lD (U 5) (aj (U 6) aG)))) d2)))))
   (a6 (dI (fW.pt (j0 (cU n5 (fJ hD rfl T.g5 g4 (aj (U 5) aG)) aM (cc _)) (kN (cU n5 (cm e2 ao T.fy T.e8.bN T.ft (aj (U 0) (aj (bD d7 aM (U 4)) (aj aM aG)))) aM (cc _))))) (db (b7 (i:=6) kq.aD (bV c8 (U 5) (cm e2 ao T.fy T.e8.bN T.ft (aj (U 0) (aj (bD d7 aM (U 4)) (aj (fJ hD rfl T.g5 g4 (aj (U 5) aG)) aG))))))
   (a6 (eo (gq iW JG L5 CO (bV c8 (U 3) (U 6)) (aj (cm e2 ao T.fy T.e8.bN T.ft (aj (U 0) (aj (bD d7 aM (U 4)) (aj (bD d7 (fJ hD rfl T.g5 g4 (aj (bV c8 (U 3) (U 6)) aG)) aM) aG)))) (aj (U 4) aG)))))) (a6 (eo (gq iW JG L5 CO (U 3) (aj (cm e2 ao T.fy T.e8.bN T.ft (aj (U 0) (aj (bD d7 aM (U 4)) (aj (bD d7 (fJ hD rfl T.g5 g4 (aj (U 3) aG)) aM) aG)))) (aj (gK (aj (U 4) aG)) aG))))))))))
   (db (b7 (i:=9) kq.aD (gK aG))
   (db (fz fH rfl (lU rfl T.l1 (aj (fJ hD rfl T.g5 g4 (aj (U 3) aG)) aG)) (cA (i:=6) kq.aD) (db (b7 (i:=10) kq.aD (bD d7 (fJ (tz rfl) rfl T.Gy Ju (aj (hP rfl (eT (bV c8 (U 3) (U 6))) (gA (sc:=bt Hg) rfl (by ac_nf)) (N:=x9) (sel:=[none,some 2]) (gC (M:=["_law_script","_law_places","_law_ways_here","_law_some","_law_k","_law_fits","_law_j","_law_good","_law_i","_law_stages_here","_law_low","_law_more"]) (by ac_nf)) (fx.of (fun _ _ _ _=>(cA (i:=0) (eu (N:=x9) (by ac_nf) rfl))) (fun _ _ _ _=>⟨_,h4,by walk_at "B"⟩) (fun _ _ _ _=>⟨_,(bV fv (bV c8 (U 1) (U 0)) aM),by walk_at "B"⟩))) aG)) (cm e2 ao T.fy T.e8.bN T.ft (aj (U 0) (aj (bD d7 aM (U 6)) (aj aM aG))))))
   (db (dI (cU ep (cm e2 ao T.fy T.e8.bN T.ft (aj (U 0) (aj (bD d7 aM (U 6)) (aj aM aG)))) aM (cc _)) (a6 (b7 (i:=10) kq.aD (bD d7 (U 10) aM))) d2)
   (db (b7 (i:=11) kq.aD (bV c8 (gK (aj aM (aj aM (aj aM (aj aM (aj aM (aj aM aG))))))) (cm e2 ao T.fy T.e8.bN T.ft (aj (U 0) (aj (bD d7 aM (U 6)) (aj aM aG))))))
   (a6 (eo (gq iW lh mi lD (U 9) (aj (tE (aj (U 10) (aj (bD d7 (U 10) (cm e2 ao T.fy T.e8.bN T.ft (aj (U 0) (aj (bD d7 aM (U 6)) (aj (U 11) aG))))) (aj (bV c8 (U 3) (U 6)) aG)))) aG))))))))
   (a6 (cg (U 9))))))),?_⟩
 refine dc (fun aB I=>aO H I/\aP I/\∃ gl,H gl=none/\I gl=some (.lst [])/\aB=[~~~a,some (.int n),~~~wl,~~~gl,none,none,none,none,none,none,none,none]) (fun b2 bW=>?_) fun cY aK=>?_
 .nofun;exact ⟨fi _,fun gl kv=>bW _ _ ⟨bE kv,bM.upd,gl,kv,aV,rfl⟩⟩
 rintro f_ H1 ⟨s1,cp,gl,kv,dx,rfl⟩;subst aK;refine dc (fun aB I=>aO H I/\aP I/\(∃ qs cb,jG H I gl qs cb/\i8 n ds ds.length cb)/\∃ dF eA ey dV dk,aB=[~~~a,some (.int n),~~~wl,~~~gl,dF,eA,ey,dV,dk,none,none,none]) (fun b2 bW=>?_) fun cY aK=>?_
 .nofun;refine ⟨_,.inl (aC.of (s1 _ _ cE)),by omega,by rw [iG];omega,?_⟩;rw [show (((oc.map V.ref).length:Nat):Int).toNat=ds.length by rw [iG];rfl];refine dO.range (fun k σ I=>aO H I/\aP I/\(∃ qs cb,jG H I gl qs cb/\i8 n ds k cb)/\∃ dF eA ey dV dk,σ=[~~~a,some (.int n),~~~wl,~~~gl,dF,eA,ey,dV,dk,none,none,none]) ⟨s1,cp,⟨[],[],⟨dx,rfl,Bi,by simp,fun i q g h=>by simp at h,fun q h=>by simp at h⟩,i8.nil n ds⟩,_,_,_,_,_,rfl⟩ ?_ ?_
  .rintro k σ I az bb;ac_rfl
   obtain ⟨s2,cO,⟨qs,cb,G,jV⟩,dF,eA,ey,dV,dk,rfl⟩:=bb;have k9:ds[k]? = some ds[k]:=bo az;subst aK;generalize RC:ds[k]=d at k9;have hd:=(D.al d (cC k9)).1;have Yq:=jV.len;simp only [gU,dE,kG,kp,o8];exists (fun aB aw=>aO I aw/\aP aw/\∃ d3,I d3=none/\aw d3=some (.lst [])/\aB=[~~~a,some (.int n),~~~wl,~~~gl,some (.int (k:Nat)),~~~d3,ey,dV,dk,none,none,none]),0
   .nofun;exact ⟨fi _,fun d3 mN=>bW _ _ ⟨bE mN,cO.upd,d3,mN,aV,rfl⟩⟩
   rintro cv aw ⟨s3,dw,d3,mN,hu,rfl⟩;have W2:d3 ≠ gl:=fun e=>by rw [e,G.af] at mN;cases mN
   have Ti:d3 ∉ qs:=fun z=>by
    obtain ⟨i,ag⟩:=hH z;have ET:i < cb.length:=by rw [<- G.ak];exact (b'.mp ag).1
    have e:=G.eF i d3 _ ag (bo ET);rw [mN] at e;cases e
   subst aK;simp only [dE];exists (fun aB bf=>aO I bf/\aP bf/\jG H bf gl qs cb/\(∃ aN:List Nat,bf d3=some (.lst (aN.map fun k:Nat=>V.int k))/\aN.length <= cb.length/\∀ f ∈ aN,∃ g,cb[f]? = some g/\∀ i ∈ g,∀ e,ds[i]? = some e->mt n e d=false/\mt n d e=false/\hc e d=true)/\∃ ey dV dk,aB=[~~~a,some (.int n),~~~wl,~~~gl,some (.int (k:Nat)),~~~d3,ey,dV,dk,none,none,none]),0
   .nofun;have lI:(qs.map V.ref).length=cb.length:=by rw [aZ,G.ak]
    refine ⟨_,.inl (aC.of (s3 _ _ G.af)),by omega,by rw [lI];omega,?_⟩;rw [show (((qs.map V.ref).length:Nat):Int).toNat=cb.length by rw [lI];rfl];refine dO.range (fun j σ bf=>aO I bf/\aP bf/\jG H bf gl qs cb/\(∃ aN:List Nat,bf d3=some (.lst (aN.map fun k:Nat=>V.int k))/\aN.length <= j/\∀ f ∈ aN,∃ g,cb[f]? = some g/\∀ i ∈ g,∀ e,ds[i]? = some e->mt n e d=false/\mt n d e=false/\hc e d=true)/\∃ ey dV dk,σ=[~~~a,some (.int n),~~~wl,~~~gl,some (.int (k:Int)),~~~d3,ey,dV,dk,none,none,none]) ⟨s3,dw,G.same s3,⟨[],hu,cn _,fun f h=>by simp at h⟩,_,_,_,rfl⟩ ?_ ?_
    .rintro j σ bf aJ bb;ac_rfl
     obtain ⟨s4,dT,ha,⟨aN,hr,tD,tp⟩,ey,dV,dk,rfl⟩:=bb;have oq:cb[j]? = some cb[j]:=bo aJ;have eC:qs[j]? = some (qs[j]'(by rw [G.ak];exact aJ)):=bo _;subst aK;generalize qs[j]'(by rw [G.ak];exact aJ)=jK at eC;generalize agB:cb[j]=g at oq;have nr:=cC oq;obtain ⟨nQ,ak8,nz⟩:=qM (jV.ne g nr);have gp:∀ i ∈ g,∃ e,ds[i]? = some e:=fun i ag=>⟨_,bo (M_ (jV.lt nr ag) az)⟩
     have QI:nQ ∈ g:=by rw [nz];exact l6 ..
     obtain ⟨jA,rX⟩:=gp nQ QI;have sx:=ha.eF j jK g eC oq;have wb:=Db (xs:=qs.map V.ref) (j:=j) (by rw [c5,eC];rfl);have hz:=s2.trans s4;have w':=L.same hz;have BG:=hz _ _ cE;simp only [gU,dE,kG,kp,o8];exists (fun aB cN=>cN=bf/\aB=[~~~a,some (.int n),~~~wl,~~~gl,some (.int (k:Int)),~~~d3,some (.int (j:Int)),some (.bk (hc jA d)),dk,none,none,none]),0
     .nofun;exact ⟨_,aC.of ha.af,_,wb,_,rfl,_,aC.of sx,_,by rw [nz];exact Db (j:=0) rfl,wl,ds,nQ,k,jA,d,rfl,w',rX,k9,(D.al jA (cC rX)).1.k,hd.k,bW _ _ ⟨rfl,rfl⟩⟩
     rintro k8 cN ⟨rfl,rfl⟩;subst aK;simp only [dE];exists (fun aB dJ=>dJ=cN/\∃ (lT:Bool) (dk:Option V),(lT=true->hc jA d=true/\∀ i ∈ g,∀ e,ds[i]? = some e->mt n e d=false)/\aB=[~~~a,some (.int n),~~~wl,~~~gl,some (.int (k:Int)),~~~d3,some (.int (j:Int)),some (.bk lT),dk,none,none,none]),0
     .nofun;refine ⟨_,aC.of ha.af,_,wb,_,rfl,⟨_,aC.of sx⟩,?_⟩;refine dO.list (xs:=g.map fun k:Nat=>V.int k) (fun l σ dJ=>dJ=cN/\∃ (lT:Bool) (dk:Option V),(lT=true->hc jA d=true/\∀ i ∈ g.take l,∀ e,ds[i]? = some e->mt n e d=false)/\σ=[~~~a,some (.int n),~~~wl,~~~gl,some (.int (k:Int)),~~~d3,some (.int (j:Int)),some (.bk lT),dk,none,none,none]) ?_ ?_ ?_ ?_
      .exact ⟨rfl,_,_,fun z=>⟨z,fun i h=>by simp at h⟩,rfl⟩
      .rintro l σ dJ aL ⟨rfl,_⟩;exact aC.of sx
      .rintro l v σ dJ aI bb;ac_rfl
       obtain ⟨rfl,lT,dk,pM,rfl⟩:=bb;obtain ⟨i,ag,rfl⟩:=cy aI;obtain ⟨e,he⟩:=gp i (cC ag);obtain ⟨hk,r2,EE⟩:=w4 i e he;obtain ⟨abo,afZ,T7⟩:=w4 k d k9;have step:∀ fT:Bool,(fT=true->lT=true/\mt n e d=false)->(fT=true->hc jA d=true/\∀ i ∈ g.take (l + 1),∀ e,ds[i]? = some e->mt n e d=false):=fun fT h z=>by
        obtain ⟨fh,eS⟩:=h z;obtain ⟨mW,pJ⟩:=pM fh;refine ⟨mW,fun fF e7 bT ho=>?_⟩;rw [pf,ag] at e7;rcases eG.mp e7 with u | u
        .exact pJ fF u bT ho
        .rw [show fF=i by simpa using u,he] at ho;cases ho;exact eS
       subst aK;nofun;cases lT with
       | true=>
        rw [if_pos rfl];refine ⟨_,aC.of BG,_,r2,_,aC.of BG,_,afZ,n,hk,abo,e,d,rfl,di.of (hz _ _ EE),di.of (hz _ _ T7),(D.al e (cC he)).1,hd,_,rfl,?_⟩;exact ⟨rfl,_,step _ (fun z=>⟨rfl,by simpa using z⟩),rfl,_,rfl⟩
       | false=>
        rw [if_neg (by decide)];exact ⟨false,(fun z=>nomatch z),rfl,_,rfl⟩
      .rintro σ dJ bb;ac_rfl
       obtain ⟨rfl,lT,dk,pM,rfl⟩:=bb;subst aK;rw [aZ,hB] at pM;exact bW _ _ ⟨rfl,lT,dk,pM,rfl⟩
     rintro qN dJ ⟨rfl,lT,dk,pM,rfl⟩;subst aK;dsimp only;refine dt lT (fun Q aR=>?_) (fun aa=>?_) (fun aa=>?_)
     .nofun;exact aR
     .obtain ⟨mW,pJ⟩:=pM aa;nofun;refine ⟨.inl ⟨_,aC.of hr⟩,_,hr,gW (show (aN.map fun k:Nat=>V.int k).length <= 8 by rw [aZ];omega) (by decide),s4.gf mN,dT.upd,ha.off W2 Ti,⟨aN ++ [j],by rw [aV,eZ];rfl,by rw [dY];show aN.length + 1 <= j + 1;omega,fun f hf=>?_⟩,?_⟩
      .rcases eG.mp hf with z | z
       .exact tp f z
       .rw [d8.mp z];refine ⟨g,oq,fun i ag e he=>⟨pJ i ag e he,?_,Zf (jV.al g nr i ag nQ QI e jA he rX) mW⟩⟩;have sH:=(D.al e (cC he)).1;have:=X1 sH.st sH.e6 hd.st hd.e6 sH.ne hd.ne;exact (this.symm.trans (pJ i ag e he):mt n d e=false)
      .exact ⟨_,rfl⟩
     .simp only [i9];exact ⟨s4,dT,ha,⟨aN,hr,by omega,tp⟩,_,_,_,rfl⟩
    .rintro σ bf bb;ac_rfl
     obtain ⟨s4,dT,ha,⟨aN,hr,tD,tp⟩,ey,dV,dk,rfl⟩:=bb;subst aK;exact bW _ _ ⟨s4,dT,ha,⟨aN,hr,tD,tp⟩,_,_,_,rfl⟩
   rintro gc bf ⟨s4,dT,ha,⟨aN,hr,tD,tp⟩,ey,dV,dk,rfl⟩;have hz:=s2.trans s4;have ja:=S.same hz;have lI:(qs.map V.ref).length=cb.length:=by rw [aZ,G.ak]
   subst aK;dsimp only;refine dt (decide (0 < aN.length) && decide (0 < dg ns (100 + (k:Int)) 3)) (fun Q aR=>?_) (fun aa=>?_) (fun aa=>?_)
   .nofun;refine ⟨_,.inl (aC.of hr),?_⟩;rw [aZ];by_cases cD:0 < aN.length
    .rw [if_pos (decide_eq_true (by omega))];rw [decide_eq_true cD,lF] at aR;exact ⟨a,ns,_,_,rfl,hl,ja,⟨by omega,by omega⟩,by decide,_,rfl,aR⟩
    .rw [if_neg (by rw [decide_eq_true_eq];omega)];rw [decide_eq_false cD,mu] at aR;exact aR
   .rw [hX,decide_eq_true_eq] at aa;have au:=hg ns (110 + (k:Int)) (m:=(aN.length:Int)) (by omega);have aH:=hi ns (110 + (k:Int)) (m:=(aN.length:Int)) (by omega);obtain ⟨u,bx⟩:∃ u:Nat,dg ns (110 + (k:Int)) (aN.length:Int)=(u:Int):=⟨_,(qx au).symm⟩;have ahy:u < aN.length:=by omega
    have He:aN[u]? = some aN[u]:=bo ahy;generalize aln:aN[u]=f at He;obtain ⟨g,yL,aaK⟩:=tp f (cC He);have GP:f < cb.length:=(b'.mp yL).1;have uO:qs[f]? = some (qs[f]'(by rw [G.ak];exact GP)):=bo _;generalize qs[f]'(by rw [G.ak];exact GP)=E9 at uO;have H3:=ha.eF f E9 g uO yL;have RP:=Db (xs:=qs.map V.ref) (j:=f) (by rw [c5,uO];rfl);have Y6:=Db (xs:=aN.map fun k:Nat=>V.int k) (j:=u) (v:=.int (f:Int)) (by rw [c5,He];rfl);have akn:=jV.Io (cC yL);have ef:=hg ns (160 + (k:Int)) (m:=(g.length:Int) + 1) (by omega);have eH:=hi ns (160 + (k:Int)) (m:=(g.length:Int) + 1) (by omega);nofun;obtain ⟨v,aI⟩:∃ v:Nat,dg ns (160 + (k:Int)) ((g.length:Int) + 1)=(v:Int):=⟨_,(qx ef).symm⟩;refine ⟨_,.inl (aC.of hr),?_⟩;rw [aZ];refine ⟨a,ns,_,_,rfl,hl,ja,⟨by omega,by omega⟩,by omega,?_⟩;rw [bx];refine ⟨_,_,rfl,aC.of hr,_,Y6,_,_,rfl,aC.of ha.af,_,RP,.inl ⟨_,aC.of H3⟩,_,_,rfl,aC.of ha.af,_,RP,_,rfl,_,.inl (aC.of H3),?_⟩;rw [aZ];refine ⟨a,ns,_,_,rfl,hl,ja,⟨by omega,by omega⟩,by omega,E9,rfl,_,_,rfl,H3,?_⟩;rw [aI,nL];have Rp:v <= g.length:=by omega
    have em:(g.map fun k:Nat=>V.int k).take v ++ V.int (k:Int) :: (g.map fun k:Nat=>V.int k).drop v=(ins g v k).map fun k:Nat=>V.int k:=(It (fun k:Nat=>V.int k) g v k).symm
    refine ⟨by omega,by omega,by rw [aZ];omega,gW (show (g.map fun k:Nat=>V.int k).length <= 8 by rw [aZ];omega) (by decide),hz.gf (ha.h5 E9 (cC uO)),dT.upd,?_,_,rfl⟩;rw [em];exact ⟨qs,_,ha.put uO GP,jV.put yL k9 aaK⟩
   .have ef:=hg ns (120 + (k:Int)) (m:=(cb.length:Int) + 1) (by omega);have eH:=hi ns (120 + (k:Int)) (m:=(cb.length:Int) + 1) (by omega);nofun;obtain ⟨v,aI⟩:∃ v:Nat,dg ns (120 + (k:Int)) ((cb.length:Int) + 1)=(v:Int):=⟨_,(qx ef).symm⟩;refine ⟨.inl ⟨_,aC.of ha.af⟩,_,.inl (aC.of ha.af),?_⟩;rw [lI];refine ⟨a,ns,_,_,rfl,hl,ja,⟨by omega,by omega⟩,by omega,by decide,fun p ax=>⟨_,_,rfl,(bE ax) _ _ ha.af,?_⟩⟩;rw [aI,nL];have Rp:v <= cb.length:=by omega
    have em:(qs.map V.ref).take v ++ V.ref p :: (qs.map V.ref).drop v=(ins qs v p).map V.ref:=(It V.ref qs v p).symm;refine ⟨by omega,by omega,by rw [lI];omega,gW (show (qs.map V.ref).length <= 8 by rw [lI];omega) (by decide),(hz.trans (bE ax)).gf kv,(dT.upd).upd,?_,_,rfl⟩;rw [em];exact ⟨_,_,ha.new (g:=[k]) hz ax Rp,jV.new v⟩
  .rintro σ I bb;ac_rfl
   obtain ⟨s2,cO,⟨qs,cb,G,jV⟩,dF,eA,ey,dV,dk,rfl⟩:=bb;subst aK;exact bW _ _ ⟨s2,cO,⟨qs,cb,G,jV⟩,_,_,_,_,_,rfl⟩
 rintro cv aw ⟨s2,cO,⟨qs,cb,G,jV⟩,dF,eA,ey,dV,dk,rfl⟩;subst aK;refine dc (fun aB I=>aO aw I/\aP I/\∃ bS,aw bS=none/\I bS=some (.lst [])/\aB=[~~~a,some (.int n),~~~wl,~~~gl,dF,eA,ey,dV,dk,~~~bS,none,none]) (fun b2 bW=>?_) fun cY aK=>?_
 .nofun;exact ⟨fi _,fun bS j3=>bW _ _ ⟨bE j3,cO.upd,bS,j3,aV,rfl⟩⟩
 rintro gc bf ⟨s3,dw,bS,j3,hu,rfl⟩;have Yq:=jV.len;have lI:(qs.map V.ref).length=cb.length:=by rw [aZ,G.ak]
 subst aK;refine dc (fun aB I=>aO aw I/\aP I/\(∃ kL aF,k6 I bS kL qs aF/\yF n ds aF)/\∃ ey dk h7 qk,aB=[~~~a,some (.int n),~~~wl,~~~gl,dF,eA,ey,dV,dk,~~~bS,h7,qk]) (fun b2 bW=>?_) fun cY aK=>?_
 .nofun;refine ⟨_,.inl (aC.of (s3 _ _ G.af)),by omega,by rw [lI];omega,?_⟩;rw [show (((qs.map V.ref).length:Nat):Int).toNat=cb.length by rw [lI];rfl];refine dO.range (fun j σ I=>aO aw I/\aP I/\(∃ (kL:List Addr) (aF:List eO),I bS=some (.lst (kL.map V.ref))/\kL.length=j/\aF.length=j/\(∀ (i:Nat) (q:Addr) (s:eO),kL[i]? = some q->aF[i]? = some s->∃ m,qs[i]? = some m/\I q=some (.tup [.int s.lo,.int s.ag,.ref m]))/\aF.map (·.dU)=cb.take j/\∀ s ∈ aF,(∀ i ∈ s.dU,∀ d,ds[i]? = some d->d.least <= s.lo)/\1 <= s.lo/\s.lo <= 21/\s.lo <= s.ag/\s.ag <= 40)/\∃ ey dk h7 qk,σ=[~~~a,some (.int n),~~~wl,~~~gl,dF,eA,ey,dV,dk,~~~bS,h7,qk]) ⟨s3,dw,⟨[],[],hu,rfl,rfl,fun i q s h=>by simp at h,by rw [oJ];rfl,fun s h=>by simp at h⟩,_,_,_,_,rfl⟩ ?_ ?_
  .rintro j σ I aJ bb;ac_rfl
   obtain ⟨s4,dT,⟨kL,aF,hr,xM,d0,qR,vW,zF⟩,ey,dk,h7,qk,rfl⟩:=bb;have oq:cb[j]? = some cb[j]:=bo aJ;have eC:qs[j]? = some (qs[j]'(by rw [G.ak];exact aJ)):=bo _;subst aK;generalize qs[j]'(by rw [G.ak];exact aJ)=jK at eC;generalize agB:cb[j]=g at oq;have nr:=cC oq;have gp:∀ i ∈ g,∃ e,ds[i]? = some e:=fun i ag=>⟨_,bo (jV.lt nr ag)⟩
   have ha:=G.same s4;have sx:=ha.eF j jK g eC oq;have wb:=Db (xs:=qs.map V.ref) (j:=j) (by rw [c5,eC];rfl);have hz:=s2.trans s4;have ja:=S.same hz;have BG:=hz _ _ cE;have aj3:=jV.Io nr;obtain ⟨cL,uG⟩:∃ cL:Nat->Int,cL=fun i=>((ds[i]?).map (·.least)).getD 0:=⟨_,rfl⟩
   have Jt:∀ i e,ds[i]? = some e->cL i=e.least:=fun i e he=>by rw [uG];show ((ds[i]?).map (·.least)).getD 0=_;rw [he];rfl
   obtain ⟨oC,R9,B0⟩:=Ia (g.map cL) (fun z=>jV.ne g nr (List.map_eq_nil_iff.mp z));have AE:1 <= oC/\oC <= 4:=by
    obtain ⟨i,ag,rfl⟩:=bK.mp R9;obtain ⟨e,he⟩:=gp i ag;rw [Jt i e he];exact ⟨(D.al e (cC he)).1.le.1,hle e (cC he)⟩
   have eg:=hg ns (130 + (j:Int)) (m:=3) (by decide);have eW:=hi ns (130 + (j:Int)) (m:=3) (by decide);simp only [gU,dE,kG,kp,o8];exists (fun aB cN=>aO I cN/\aP cN/\∃ lo:Int,(oC <= lo/\lo <= oC + 2)/\aB=[~~~a,some (.int n),~~~wl,~~~gl,dF,eA,some (.int (j:Int)),dV,dk,~~~bS,some (.int lo),qk]),0
   .nofun;refine ⟨_,aC.of ha.af,_,wb,_,rfl,⟨_,aC.of sx⟩,?_⟩;refine c9.ly (xs:=g.map fun k:Nat=>V.int k) (zs:=(g.map cL).map V.int) (aC.of sx) (c_ (show (g.map fun k:Nat=>V.int k).length <= 8 by rw [aZ];omega) (by decide)) (by rw [aZ,aZ,aZ]) (fun l v z N aI aT br=>?_) (fun pl cR=>?_)
    .obtain ⟨i,ag,rfl⟩:=cy aI;obtain ⟨y,bg,rfl⟩:=cy aT;obtain ⟨fF,e7,rfl⟩:=cy bg;rw [ag] at e7;cases e7;obtain ⟨e,he⟩:=gp i (cC ag);obtain ⟨hk,r2,EE⟩:=w4 i e he;rw [Jt i e he] at br;nofun;exact ⟨Sub.name,_,aC.of BG,_,r2,_,rfl,_,di.of (hz _ _ EE),_,Db (j:=6) rfl,br⟩
    .have Sy:=bE (o:=.lst ((g.map cL).map V.int)) cR;refine ⟨_,rfl,_,aC.of aV,oC,R9,B0,a,ns,_,_,rfl,hl,ja.same Sy,⟨by omega,by omega⟩,by decide,_,rfl,bW _ _ ⟨Sy,dT.upd,_,⟨by omega,by omega⟩,rfl⟩⟩
   rintro k8 cN ⟨s5,iH,ak4,xt,rfl⟩;have C1:=ja.same s5;subst aK;simp only [dE];exists (fun aB dJ=>dJ=cN/\∃ lo:Int,(oC <= lo/\lo <= 21)/\aB=[~~~a,some (.int n),~~~wl,~~~gl,dF,eA,some (.int (j:Int)),dV,dk,~~~bS,some (.int lo),qk]),0
   .refine dt (decide (dg ns (150 + (j:Int)) 12=0)) (fun Q aR=>?_) (fun _=>?_) (fun _=>?_)
    .nofun;refine ⟨a,ns,_,_,rfl,hl,C1,⟨by omega,by omega⟩,by decide,rfl,?_⟩;rw [show decide (V.int (dg ns (150 + (j:Int)) 12)=V.int 0)=decide (dg ns (150 + (j:Int)) 12=0) from decide_eq_decide.mpr (by simp)];exact aR
    .nofun;exact bW _ _ ⟨rfl,_,by omega,rfl⟩
    .simp only [i9];exact bW _ _ ⟨rfl,_,by omega,rfl⟩
   rintro qN dJ ⟨rfl,lo,qQ,rfl⟩;have hR:=hg ns (180 + (j:Int)) (m:=6) (by decide);have iy:=hi ns (180 + (j:Int)) (m:=6) (by decide);subst aK;simp only [dE];exists (fun aB iQ=>aO dJ iQ/\aP iQ/\∃ mo:Int,(1 <= mo/\mo <= 20)/\aB=[~~~a,some (.int n),~~~wl,~~~gl,dF,eA,some (.int (j:Int)),dV,dk,~~~bS,some (.int lo),some (.int mo)]),0
   .obtain ⟨mo,q1,nj⟩:=afr hR iy;nofun;exact ⟨by decide,fun p ax=>⟨a,ns,_,_,rfl,hl,C1.same (bE ax),⟨by omega,by omega⟩,by decide,_,_,rfl,aC.of aV,_,nj,bW _ _ ⟨bE ax,iH.upd,mo,q1,rfl⟩⟩⟩
   rintro mq iQ ⟨kr,m5,mo,q1,rfl⟩;have Ae:=s5.trans kr;have uz:=C1.same kr;have tU:=Ae _ _ hr;have mW:=hg ns (140 + (j:Int)) (m:=mo) (by omega);have pJ:=hi ns (140 + (j:Int)) (m:=mo) (by omega);subst aK;nofun;refine ⟨.inl ⟨_,aC.of tU⟩,a,ns,_,_,rfl,hl,uz,⟨by omega,by omega⟩,by omega,_,rfl,_,aC.of (Ae _ _ ha.af),_,wb,by decide,fun p ax=>⟨_,(bE ax) _ _ tU,gW (show (kL.map V.ref).length <= 8 by rw [aZ];omega) (by decide),((s4.trans Ae).trans (bE ax)).gf j3,(m5.upd).upd,⟨kL ++ [p],by rw [aV,eZ];rfl,by rw [dY,xM];rfl,aF ++ [⟨lo,lo + dg ns (140 + (j:Int)) mo,g⟩],by rw [dY,d0];rfl,fun i q s a1 a2=>?_,?_,fun s av=>?_⟩,?_⟩⟩
   .have YL:bS ≠ p:=dy tU ax;rcases lW a1 with ⟨f5,fT⟩ | ⟨f5,rfl⟩
    .rcases lW a2 with ⟨cu,cS⟩ | ⟨cu,_⟩
     .obtain ⟨m,hm,e⟩:=qR i q s fT cS;have fc:=Ae _ _ e;refine ⟨m,hm,?_⟩;rw [aE (bZ fc tU (by intro z;cases z)),aE (dy fc ax)];exact fc
     .omega
    .rcases lW a2 with ⟨cu,_⟩ | ⟨_,rfl⟩
     .omega
     .refine ⟨jK,by rw [f5,xM];exact eC,?_⟩;rw [aE (dW YL),aV]
   .rw [eZ,vW,pf,oq];rfl
   .rcases eG.mp av with z | z
    .exact zF s z
    .rw [d8.mp z];refine ⟨fun i ag e he=>?_,by show 1 <= lo;omega,qQ.2,by show lo <= lo + dg ns (140 + (j:Int)) mo;omega,by show lo + dg ns (140 + (j:Int)) mo <= 40;omega⟩;have:=B0 (cL i) (bK.mpr ⟨i,ag,rfl⟩);rw [Jt i e he] at this;show e.least <= lo;omega
   .repeat (first | exact ⟨_,rfl⟩ | refine ⟨⟨_,rfl⟩,?_⟩)
  .rintro σ I bb;ac_rfl
   obtain ⟨s4,dT,⟨kL,aF,hr,xM,d0,qR,vW,zF⟩,ey,dk,h7,qk,rfl⟩:=bb;subst aK;rw [hB] at vW;have ha:=G.same s4;refine bW _ _ ⟨s4,dT,⟨kL,aF,⟨hr,by omega,by rw [G.ak];omega,fun i q m s a1 a2 f7=>?_⟩,⟨by rw [vW];exact jV,fun s av=>(zF s av).1,fun s av=>(zF s av).2⟩⟩,_,_,_,_,rfl⟩;obtain ⟨dm,rd,e⟩:=qR i q s a1 f7;rw [a2] at rd;cases rd;refine ⟨e,ha.eF i m s.dU a2 ?_⟩;rw [<- vW,c5,f7];rfl
 rintro k8 cN ⟨s4,dT,⟨kL,aF,j',af8⟩,ey,dk,h7,qk,rfl⟩;subst aK;nofun;exact q bS kL qs aF cN (s2.trans s4) dT j' af8
noncomputable def gB (ds:List a8) (i:Nat):Str:=((ds[i]?).map (·.name)).getD (ab "")
noncomputable def eD (ds:List a8) (s:eO):List Str:=s.dU.map (gB ds)
noncomputable def be (ds:List a8) (s:eO):List Str:=[ab "stage",num s.lo,num s.ag] ++ eD ds s
noncomputable def gk (ds:List a8) (aF:List eO):List (List Str):=aF.map (be ds)
noncomputable def rM (ds:List a8) (aF:List eO):Str:=dS nl ((gk ds aF).map (dS cw))
structure CK (ds:List a8) (aF:List eO):Prop where
 ln:aF.length <= 8
 bd:∀ s ∈ aF,(0 <= s.lo/\s.lo < 1000)/\(0 <= s.ag/\s.ag < 1000)/\s.dU ≠ []/\s.dU.length <= 8/\∀ i ∈ s.dU,∃ d,ds[i]? = some d
 nm:∀ d ∈ ds,d.name.length <= 8
theorem Tf (ds:List a8) (s:eO) (h:s.dU ≠ []):ab "stage " ++ num s.lo ++ ab " " ++ num s.ag ++ ab " " ++ dS cw (eD ds s)=dS cw (be ds s):=by
 apply Al;have au:(ab "stage ").cps.toList=[115,116,97,103,101,32]:=by ac_nf
 have aH:(ab "stage").cps.toList=[115,116,97,103,101]:=by ac_nf
 have bX:(ab " ").cps.toList=[32]:=by ac_nf
 unfold be eD;obtain ⟨i,r,ay⟩:=qM h;rw [ay,yb,qn];simp only [n8,n3,qn,er,p6,BC,wk,km,au,aH,bX,oV]
def Lv:bU:=fun vs H Q _=>∃ wl ds bS qs ms aF,vs=[.ref wl,.ref bS]/\iE H wl ds/\k6 H bS qs ms aF/\CK ds aF/\aP H/\Q (.str (rM ds aF)) H
def S_:bU:=fun vs H Q _=>∃ wl ds bS qs ms aF,vs=[.ref wl,.ref bS]/\iE H wl ds/\k6 H bS qs ms aF/\CK ds aF/\∀ I,aO H I->Q (.str (rM ds aF)) I
theorem VA:ct P base T 1 t.z9 t.BS zO Lv:=by
 refine cH.forget (sp:=S_) ?_ fun vs H Q E h=>?_
 .exists T.Fq.ok uy,9
  obtain ⟨wl,ds,bS,qs,ms,aF,rfl,⟨oc,cE,dq,C4⟩,j',X,q⟩:=h;have afV:=X.ln;have w4:∀ (i:Nat) (d:a8),ds[i]? = some d->∃ nB,gi (oc.map V.ref) (i:Int)=some (.ref nB)/\H nB=some (.tup (j_ d)):=fun i d hd=>by
   have gV:oc[i]? = some (oc[i]'(by rw [dq];exact (b'.mp hd).1)):=bo _;exact ⟨_,Db (by rw [c5,gV];rfl),C4 i _ d gV hd⟩
  have vX:∀ k:Nat,k <= 1000->k <= sizeLine:=fun k h=>c_ h (by decide)
  refine ⟨_,(db (b7 (i:=2) uy.aD (gK aG))
   (db (fz fH rfl (eT (U 1)) (l_ (K:=K) (n:=3) rfl rfl (fq (cA (i:=3) uy.aD) (fq (cA (i:=4) uy.aD) (fq (cA (i:=5) uy.aD) Ch)))) (a6 (eo (gq iW lh mi lD (U 2) (aj (bD lL (bD lL (bD lL (bD lL (bD lL dh (pC wa rfl T.uR uj (aj (U 3) aG))) dh) (pC wa rfl T.uR uj (aj (U 4) aG))) dh) (gq tv xR BW vj dh (aj (hP rfl (eT (U 5)) (gA (sc:=bt JL) rfl (by ac_nf)) (N:=x9) (sel:=[none,some 0]) (gC (M:=["_law_ways_here","_law_stages_here","_law_rows","_law_low","_law_high","_law_some"]) (by ac_nf)) (fx.of (fun _ _ _ _=>(cA (i:=0) (eu (N:=x9) (by ac_nf) rfl))) (fun _ _ _ _=>⟨_,h4,by walk_at "B"⟩) (fun _ _ _ _=>⟨_,(bV fv (bV c8 (U 1) (U 0)) aM),by walk_at "B"⟩))) aG))) aG)))))
   (a6 (cg (gq tv xR BW vj dh (aj (U 2) aG)))))),?_⟩
  refine dc (fun aB I=>aO H I/\∃ dv,H dv=none/\I dv=some (.lst (aW []))/\aB=[~~~wl,~~~bS,~~~dv,none,none,none]) (fun b2 bW=>?_) fun cY aK=>?_
  .nofun;exact ⟨fi _,fun dv gy=>bW _ _ ⟨bE gy,dv,gy,aV,rfl⟩⟩
  rintro f_ H1 ⟨s1,dv,gy,dx,rfl⟩;subst aK;refine dc (fun aB I=>aO H I/\I dv=some (.lst (aW ((gk ds aF).map (dS cw))))/\∃ ea dF eA,aB=[~~~wl,~~~bS,~~~dv,ea,dF,eA]) (fun b2 bW=>?_) fun cY aK=>?_
  .nofun;refine ⟨⟨_,aC.of (s1 _ _ j'.at_)⟩,?_⟩;refine dO.list (xs:=qs.map V.ref) (fun i σ I=>aO H I/\I dv=some (.lst (aW ((gk ds (aF.take i)).map (dS cw))))/\∃ ea dF eA,σ=[~~~wl,~~~bS,~~~dv,ea,dF,eA]) ?_ ?_ ?_ ?_
   .exact ⟨s1,by rw [oJ];exact dx,_,_,_,rfl⟩
   .rintro i σ I ag ⟨bO,_⟩;exact aC.of (bO _ _ j'.at_)
   .rintro i v σ I aI bb;ac_rfl
    obtain ⟨bO,eb,ea,dF,eA,rfl⟩:=bb;obtain ⟨qb,gV,rfl⟩:=cy aI;have ag:i < aF.length:=by rw [<- j'.cE];exact (b'.mp gV).1
    have ue:aF[i]? = some aF[i]:=bo ag;have pG:ms[i]? = some (ms[i]'(by rw [j'.dq];exact ag)):=bo _;obtain ⟨au,aH⟩:=j'.al i qb _ _ gV pG ue;subst aK;generalize ms[i]'(by rw [j'.dq];exact ag)=m at pG au aH;generalize akc:aF[i]=s at ue au aH;obtain ⟨MV,N',bne,zD,s6⟩:=X.bd s (cC ue);have af:=ut (n:=s.lo) (by omega) (by omega);have ak:=ut (n:=s.ag) (by omega) (by omega);have t1:(ab "stage ").length=6:=by ac_nf
    have fO:(ab " ").length=1:=by ac_nf
    have kM:∀ y ∈ eD ds s,y.length <= 8:=fun y bg=>by
     obtain ⟨k,az,rfl⟩:=bK.mp bg;obtain ⟨d,hd⟩:=s6 k az;unfold gB;rw [hd];exact X.nm d (cC hd)
    have jv:(dS cw (eD ds s)).length <= 100:=by
     have:=Tk cw 8 (eD ds s) kM;rw [qt] at this;have aL:(eD ds s).length=s.dU.length:=by unfold eD;rw [aZ]
     have:(eD ds s).length * 9 <= 72:=by omega
     omega
    nofun;refine ⟨_,di.of (bO _ _ au),rfl,_,_,rfl,_,_,rfl,_,_,rfl,rfl,.inl ⟨_,aC.of eb⟩,_,rfl,O8 (by omega),vX _ (by rw [t1];omega),vX _ (by simp only [nW,t1,fO];omega),_,rfl,O8 (by omega),vX _ (by simp only [nW,t1,fO];omega),vX _ (by simp only [nW,t1,fO];omega),m,rfl,⟨_,aC.of (bO _ _ aH)⟩,?_⟩;refine c9.ly (xs:=s.dU.map fun k:Nat=>V.int k) (zs:=aW (eD ds s)) (aC.of (bO _ _ aH)) (c_ (show (s.dU.map fun k:Nat=>V.int k).length <= 8 by rw [aZ];exact zD) (by decide)) (by rw [fb,aZ];unfold eD;rw [aZ]) (fun l v z N aI aT br=>?_) (fun pl cR=>?_)
    .obtain ⟨k,az,rfl⟩:=cy aI;unfold aW eD at aT;obtain ⟨y,bg,rfl⟩:=cy aT;obtain ⟨ky,e1,rfl⟩:=cy bg;rw [az] at e1;cases e1;obtain ⟨d,hd⟩:=s6 k (cC az);obtain ⟨nB,ae7,eq⟩:=w4 k d hd;have VX:gB ds k=d.name:=by unfold gB;rw [hd];rfl
     rw [VX] at br;nofun;exact ⟨Sub.name,_,aC.of (bO _ _ cE),_,ae7,_,rfl,_,di.of (bO _ _ eq),_,Db (j:=1) rfl,br⟩
    .have ml:(eD ds s).length <= 8:=by unfold eD;rw [aZ];exact zD
     refine ⟨pl,rfl,eD ds s,aC.of aV,?_,?_⟩
     .have:=yW kM;rw [fO];omega
     .rw [show oU (ab " ") (eD ds s)=dS cw (eD ds s) from uN _ _];have sT:=Tf ds s bne;have jY:(aW ((gk ds (aF.take i)).map (dS cw))).length <= 8:=by
       unfold aW gk;rw [aZ,aZ,aZ,gD];omega
      refine ⟨vX _ (by simp only [nW,t1,fO];omega),_,(bE cR) _ _ eb,gW jY (by decide),(bO.trans (bE cR)).gf gy,?_,?_⟩
      .rw [aV,sT,pf,ue];unfold gk aW;rw [eZ,eZ,eZ];rfl
      .repeat (first | exact ⟨_,rfl⟩ | refine ⟨⟨_,rfl⟩,?_⟩)
   .rintro σ I bb;ac_rfl
    obtain ⟨bO,eb,ea,dF,eA,rfl⟩:=bb;subst aK;rw [aZ,j'.cE,hB] at eb;exact bW _ _ ⟨bO,eb,_,_,_,rfl⟩
  rintro cv aw ⟨s2,eb,ea,dF,eA,rfl⟩;subst aK;nofun;have h1:∀ y ∈ (gk ds aF).map (dS cw),y.length <= 200:=fun y bg=>by
   obtain ⟨r,dD,rfl⟩:=bK.mp bg;obtain ⟨s,av,rfl⟩:=bK.mp dD;obtain ⟨MV,N',bne,zD,s6⟩:=X.bd s av;have af:=ut (n:=s.lo) (by omega) (by omega);have ak:=ut (n:=s.ag) (by omega) (by omega);have kM:∀ y ∈ be ds s,y.length <= 8:=fun y bg=>by
    unfold be at bg;rcases eG.mp bg with z | z
    .have z:y=ab "stage" \/ y=num s.lo\/y=num s.ag:=by simpa using z
     rcases z with rfl | rfl | rfl
     .ac_nf
     .exact c_ af (by decide)
     .exact c_ ak (by decide)
    .obtain ⟨k,az,rfl⟩:=bK.mp z;obtain ⟨d,hd⟩:=s6 k az;unfold gB;rw [hd];exact X.nm d (cC hd)
   have:=Tk cw 8 (be ds s) kM;rw [qt] at this;have aL:(be ds s).length <= 11:=by
    unfold be eD;rw [dY,aZ];show 3 + s.dU.length <= 11;omega
   omega
  refine ⟨_,aC.of eb,?_,?_⟩
  .have:=yW h1;rw [show (ab "\n").length=1 by ac_nf];have aL:((gk ds aF).map (dS cw)).length <= 8:=by
    unfold gk;rw [aZ,aZ];exact afV
   omega
  .rw [show oU (ab "\n") ((gk ds aF).map (dS cw))=dS nl ((gk ds aF).map (dS cw)) from uN _ _];exact q _ s2
 .obtain ⟨wl,ds,bS,qs,ms,aF,rfl,L,j',X,bM,q⟩:=h;exact ⟨bM,wl,ds,bS,qs,ms,aF,rfl,L,j',X,fun I bO=>⟨bO,q⟩⟩
noncomputable def lX (ds:List a8) (s:eO):ST:=⟨s.lo,s.ag,eD ds s⟩
noncomputable def cz (ds:List a8) (aF:List eO):List ST:=aF.map (lX ds)
theorem kA (h:ds[i]? = some d):gB ds i=d.name:=by unfold gB;rw [h];rfl
theorem As (aD:(ds.map (·.name)).Nodup) (ag:i < ds.length) (aJ:j < ds.length) (e:gB ds i=gB ds j):i=j:=by
 rw [kA (bo ag),kA (bo aJ)] at e;exact tj aD ag aJ (by rw [lV (bo ag),lV (bo aJ)];exact e)
structure dA (n:Int) (ds:List a8) (aF:List eO):Prop where
 aD:(ds.map (·.name)).Nodup
 j1:yF n ds aF
 yw:ds.length <= 6
 cE:1 <= ds.length
 ok:∀ d ∈ ds,o1 n d
theorem dA.d3 (h:dA n ds aF):(aF.map (·.dU)).flatten.Nodup:=h.j1.bh.pm.nodup_iff.mpr List.nodup_range
theorem dA.lt (h:dA n ds aF) (av:s ∈ aF) (ag:i ∈ s.dU):i < ds.length:=h.j1.bh.lt (bK.mpr ⟨s,av,rfl⟩) ag
theorem dA.len (h:dA n ds aF):aF.length <= 6:=by
 have:=h.j1.bh.len.1;rw [aZ] at this;have:=h.yw;omega
theorem dA.jO (h:dA n ds aF):CK ds aF:=by
 refine ⟨by have:=h.len;omega,fun s av=>?_,fun d hd=>((tO (h.ok d hd).nm).1).2⟩;have b:=h.j1.bd s av;have hm:s.dU ∈ aF.map (·.dU):=bK.mpr ⟨s,av,rfl⟩;have aQ:=h.j1.bh.Io hm;have:=h.yw;exact ⟨⟨by omega,by omega⟩,⟨by omega,by omega⟩,h.j1.bh.ne _ hm,by omega,fun i ag=>⟨_,bo (h.lt av ag)⟩⟩
theorem dA.ahD (h:dA n ds aF) (av:s ∈ aF):(eD ds s).Nodup:=by
 have ah:s.dU.Nodup:=h.d3.sublist (Yp (bK.mpr ⟨s,av,rfl⟩));unfold eD;refine List.pairwise_map.mpr (ako (fun {a b} aS aa m9 e=>?_) ah);exact m9 (As h.aD (h.lt av aS) (h.lt av aa) e)
theorem dA.told (h:dA n ds aF) (av:aF[i]? = some s) {x:Str} (ah:x ∈ eD ds s):told (cz ds (aF.take i)) x=false:=by
 cases e:My.told (cz ds (aF.take i)) x with
 | false=>rfl
 | true=>
  exfalso;unfold My.told at e;obtain ⟨r,ao,ay⟩:=qi.mp e;obtain ⟨ai,eP,rfl⟩:=bK.mp ao;have ay:x ∈ eD ds ai:=by simpa [lX] using ay
  obtain ⟨k,az,rfl⟩:=bK.mp ah;obtain ⟨ky,e1,ZX⟩:=bK.mp ay;have:=As h.aD (h.lt (qu eP) e1) (h.lt (cC av) az) ZX;subst this;obtain ⟨ag,ue⟩:=b'.mp av;have hf:=h.d3;rw [<- Ki i aF,eZ,ZH,rj ag,ue,er,tf] at hf;exact (wV.mp hf).2.2 ky (HM.mpr ⟨ai.dU,bK.mpr ⟨ai,eP,rfl⟩,e1⟩) ky (rz _ az) rfl
theorem SM:∀ {r:List Str} {j:Nat} {ms:List Str},(∀ x ∈ r,x ∈ alike)->(ms ++ r).Nodup->pI alike r j ms=.ok (ms ++ r)
 | [],j,ms,_,_=>by
  show pR ms=_;rw [su]
 | x :: r,j,ms,aS,a4=>by
  unfold pI;have ah:x ∉ ms:=fun z=>(wV.mp a4).2.2 x z x (l6 ..) rfl
  rw [if_pos ⟨aS x (l6 ..),ah⟩,SM (fun y bg=>aS y (hM _ bg)) (by rw [oV];exact a4),oV];rfl
theorem dA.left (h:dA n ds aF) (av:aF[i]? = some s) {x:Str} (ah:x ∈ eD ds s):x ∈ gE ds (cz ds (aF.take i)):=by
 unfold gE;refine iY.mpr ⟨?_,by rw [h.told av ah];rfl⟩;obtain ⟨k,az,rfl⟩:=bK.mp ah;have e1:=h.lt (cC av) az;rw [kA (bo e1)];exact bK.mpr ⟨_,iM e1,rfl⟩
theorem dA.Xf (h:dA n ds aF) (av:aF[i]? = some s):pa ds (cz ds (aF.take i)) (be ds s)=.ok (lX ds s):=by
 have hm:=cC av;have b:=h.j1.bd s hm;have cj:=h.j1.bh.ne s.dU (bK.mpr ⟨s,hm,rfl⟩);obtain ⟨k,r,ay⟩:=qM cj;have kM:eD ds s=gB ds k :: r.map (gB ds):=by unfold eD;rw [ay];rfl
 have hw:be ds s=ab "stage" :: num s.lo :: num s.ag :: gB ds k :: r.map (gB ds):=by unfold be;rw [kM];rfl
 have cJ:lg ds (gE ds (cz ds (aF.take i))) (be ds s)=.ok (eD ds s):=by
  have hf:gB ds k ∈ eD ds s:=by rw [kM];exact l6 ..
  have a9:aA (be ds s) 3=gB ds k:=by rw [hw];rfl
  have cW:(be ds s).drop 4=r.map (gB ds):=by rw [hw];rfl
  unfold lg;rw [a9,cW,if_pos (h.left av hf),SM (fun x ah=>?_) (by have:=h.ahD hm;rw [kM] at this;exact this),kM]
  .rfl
  .have tF:x ∈ eD ds s:=by rw [kM];exact hM _ ah
   refine iY.mpr ⟨h.left av tF,decide_eq_true ?_⟩;obtain ⟨dH,acZ,rfl⟩:=bK.mp ah;have Dk:dH ∈ s.dU:=by rw [ay];exact hM _ acZ
   have RM:k ∈ s.dU:=by rw [ay];exact l6 ..
   have cE:=bo (h.lt hm RM);have dq:=bo (h.lt hm Dk);have al:=h.j1.bh.al s.dU (bK.mpr ⟨s,hm,rfl⟩) dH Dk k RM _ _ dq cE;show (ib ds (gB ds dH)).map h2=(ib ds (gB ds k)).map h2;rw [kA cE,kA dq,lJ h.aD cE,lJ h.aD dq];have:=uc.mp al;show some (h2 _)=some (h2 _);unfold h2;by_cases c:(ds[dH]'(h.lt hm Dk)).k=2
   .rw [if_pos c,if_pos (this.mp c)]
   .rw [if_neg c,if_neg (fun z=>c (this.mpr z))]
 have h0:aA (be ds s) 0=ab "stage" := by rw [hw];rfl
 have af:aA (be ds s) 1=num s.lo:=by rw [hw];rfl
 have ak:aA (be ds s) 2=num s.ag:=by rw [hw];rfl
 have au:kd (num s.lo) 1 60=some s.lo:=Oo (pW (by omega) (by omega) (by omega) (by omega));have aH:kd (num s.ag) s.lo 60=some s.ag:=Oo (pW (by omega) (by omega) (by omega) (by omega));unfold pa;rw [h0,af,ak,cJ,if_pos (d8.mpr rfl),au];show (kd (num s.ag) s.lo 60).elim _ _=_;rw [aH];rfl
theorem dA.parse (h:dA n ds aF):∀ (m i:Nat),aF.length - i=m->i <= aF.length->rb ds ((gk ds aF).drop i) i (cz ds (aF.take i))=.ok (cz ds aF)
 | 0,i,hm,ag=>by
  have:i=aF.length:=by omega
  subst this;have aL:(gk ds aF).length=aF.length:=by unfold gk;rw [aZ]
  rw [<- aL,uE,aL,hB];rfl
 | m + 1,i,hm,ag=>by
  have e7:i < aF.length:=by omega
  have av:aF[i]? = some aF[i]:=bo e7;have aL:i < (gk ds aF).length:=by unfold gk;rw [aZ];exact e7
  have aQ:(gk ds aF)[i]=be ds aF[i]:=(b'.mp (show (gk ds aF)[i]? = some (be ds aF[i]) by unfold gk;rw [c5,av];rfl)).2;rw [rj aL,aQ];unfold rb;have h5:=h.len;rw [if_neg (by unfold cz;rw [aZ,gD];omega),h.Xf av];have b4:=h.parse m (i + 1) (by omega) e7;rw [jt av] at b4;unfold cz at b4 ⊢;rw [eZ] at b4;exact b4
theorem dA.none (h:dA n ds aF):(gE ds (cz ds aF)).head? = tR/\tV ds (cz ds aF)=tR/\sg n ds (cz ds aF)=tR:=by
 refine ⟨?_,?_,?_⟩
 .have:gE ds (cz ds aF)=[]:=by
   unfold gE;refine Mi.mpr fun x ah=>?_
   obtain ⟨d,hd,rfl⟩:=bK.mp ah;obtain ⟨k,az⟩:=hH hd;have lC:=(b'.mp az).1;have hf:=h.j1.bh.pm.mem_iff.mpr (qg.mpr lC);obtain ⟨g,aQ,YI⟩:=HM.mp hf;obtain ⟨s,av,rfl⟩:=bK.mp aQ;have:My.told (cz ds aF) d.name=true:=by
    unfold My.told;refine qi.mpr ⟨lX ds s,bK.mpr ⟨s,av,rfl⟩,?_⟩;have:d.name ∈ eD ds s:=bK.mpr ⟨k,YI,kA az⟩;simpa [lX] using this
   rw [this];simp
  rw [this];rfl
 .unfold tV;refine FZ.mpr fun d hd=>?_
  unfold uT;cases az:fu (cz ds aF) d.name with
  | none=>rfl
  | some k=>
   rw [vz];cases ao:(cz ds aF)[k]? with
   | none=>rfl
   | some r=>
    rw [vz];have ah:My.told (cz ds aF) d.name=true:=by
     have:=sw (cz ds aF) d.name;rw [<- this];unfold fu at az;cases e:cM (gN ((cz ds aF).map (·.mem))) (bY d.name) with
     | none=>rw [e] at az;cases az
     | some v=>rfl
    obtain ⟨ky,ei,_,e1,dD,hm⟩:=nY ah;rw [az] at e1;cases e1;rw [ao] at dD;cases dD;obtain ⟨s,av,rfl⟩:=cy ao;obtain ⟨i,ag,tH⟩:=bK.mp hm;have RF:=cC av;have jY:=h.lt RF ag;rw [kA (bo jY)] at tH;obtain ⟨j,aJ⟩:=hH hd;have:i=j:=tj h.aD jY (b'.mp aJ).1 (by rw [lV (bo jY),lV aJ,tH]);subst this;have:=h.j1.le s RF i ag d aJ;show (if s.lo < d.least then some (d,k) else tR)=tR;rw [if_neg (show ¬ s.lo < d.least by omega)]
 .unfold sg;refine FZ.mpr fun e he=>?_
  obtain ⟨r,k⟩:=e;have ao:r ∈ cz ds aF:=List.fst_mem_of_mem_zipIdx he;obtain ⟨s,av,rfl⟩:=bK.mp ao;unfold q0;refine FZ.mpr fun x ah=>FZ.mpr fun y bg=>?_
  obtain ⟨i,ag,rfl⟩:=bK.mp ah;obtain ⟨j,aJ,rfl⟩:=bK.mp bg;unfold n1;rw [if_neg];rintro ⟨fh,eS⟩;have li:=bo (h.lt av ag);have Ds:=bo (h.lt av aJ);unfold oa at eS;rw [kA li,kA Ds,lJ h.aD li,lJ h.aD Ds] at eS;have:=h.j1.bh.AG s.dU (bK.mpr ⟨s,av,rfl⟩) i ag j aJ (fun z=>fh (by rw [z])) _ _ li Ds;replace eS:mt n _ _=true:=eS;rw [this] at eS;cases eS
def O9 (P:Program) (w:World) (t:bQ):bU:=fun vs H Q _=>∃ c n ds aF,vs=[.ref c,.str (rM ds aF)]/\fp t H c n ds/\(4 <= n/\n <= 99)/\dA n ds aF/\aP H/\∀ a I,aO H I->aP I->hs P w t I a c n ds (cz ds aF)->Q (.ref a) I
theorem dA.plain (h:dA n ds aF):∀ r ∈ gk ds aF,r ≠ []/\r.length <= 11/\∀ x ∈ r,oO x:=fun r ao=>by
 obtain ⟨s,av,rfl⟩:=bK.mp ao;obtain ⟨MV,N',bne,zD,s6⟩:=h.jO.bd s av;refine ⟨by unfold be;simp,?_,fun x ah=>?_⟩
 .unfold be eD;rw [dY,aZ];show 3 + s.dU.length <= 11;omega
 .unfold be at ah;rcases eG.mp ah with z | z
  .have z:x=ab "stage" \/ x=num s.lo\/x=num s.ag:=by simpa using z
   rcases z with rfl | rfl | rfl
   .unfold oO;ac_nf
   .exact kI (by omega) (by omega)
   .exact kI (by omega) (by omega)
  .obtain ⟨k,az,rfl⟩:=bK.mp z;obtain ⟨d,hd⟩:=s6 k az;rw [kA hd];exact Jn (h.ok d (cC hd)).nm
theorem dA.rows (h:dA n ds aF) (cj:aF ≠ []):g6 (rM ds aF)=gk ds aF:=by
 unfold rM;exact N_ (by unfold gk;simpa using cj) (fun r ao=>(h.plain r ao).1) (fun r ao=>(h.plain r ao).2.2)
theorem dA.ne (h:dA n ds aF):aF ≠ []:=fun e=>by
 have:=h.j1.bh.len.2;rw [e] at this;simp at this;have:=h.cE;omega
theorem dA.txt (h:dA n ds aF):(rM ds aF).length <= 20000:=by
 have h1:∀ y ∈ (gk ds aF).map (dS cw),y.length <= 200:=fun y bg=>by
  obtain ⟨r,ao,rfl⟩:=bK.mp bg;obtain ⟨_,ak,a9⟩:=h.plain r ao;have:=Tk cw 8 r fun x ah=>(a9 x ah).1
  rw [qt] at this;omega
 have:=Tk nl 200 _ h1;rw [u0,aZ] at this;have aL:(gk ds aF).length <= 6:=by unfold gk;rw [aZ];exact h.len
 unfold rM;omega
theorem Tu:ct P base T 7 t.Uf t.ug vT (O9 P w t):=by
 refine (Xk T).imp fun vs H Q E h=>?_
 obtain ⟨c,n,ds,aF,rfl,C,a4,X,bM,q⟩:=h;obtain ⟨fh,eS,Kx⟩:=X.none;have cj:∀ d ∈ ds,d.name ≠ ab "" := fun d hd e=>by
  have h:=(tO (X.ok d hd).nm).1.1;rw [e] at h;exact absurd h (by ac_nf)
 have bW:vN ds:=fun d hd=>by
  obtain ⟨af,ak⟩:=tO (X.ok d hd).nm;exact ⟨⟨c_ af.2 (by decide),fun c ay=>by have:=ak c ay;omega⟩,(X.ok d hd).k,(X.ok d hd).of.1,by have:=(X.ok d hd).of;omega⟩
 have ax:=X.parse aF.length 0 rfl (fi _);rw [PA,oJ,show cz ds []=[] from rfl] at ax;refine ⟨c,n,ds,_,_,rfl,C,by omega,bW,cj,X.txt,by rw [X.rows X.ne];unfold gk;rw [aZ];have:=X.len;omega,fun r ao=>?_,bM,by rw [X.rows X.ne];exact ax,ab1.mp fh,eS,Kx,fun a I ai kE ej=>q a I ai kE ej⟩;rw [X.rows X.ne] at ao;obtain ⟨af,ak,a9⟩:=X.plain r ao;exact ⟨af,by omega,fun y bg=>c_ (a9 y bg).1 (by decide)⟩
theorem Kj (aD:(ds.map (·.name)).Nodup) (av:∀ i ∈ s.dU,i < ds.length) {k:Nat} (az:ds[k]? = some d):d.name ∈ eD ds s↔k ∈ s.dU:=by
 have lC:=(b'.mp az).1;refine ⟨fun h=>?_,fun h=>bK.mpr ⟨k,h,kA az⟩⟩;obtain ⟨j,aJ,e⟩:=bK.mp h;rw [<- kA az] at e;rw [<- As aD (av j aJ) lC e];exact aJ
theorem UZ (b:Nat) (l:List Nat):pX (.int (b:Int)) (l.map fun k:Nat=>V.int k)=decide (b ∈ l):=by
 unfold pX;rw [QR,jC];simp only [qi,ac7,kP,beq_iff_eq,decide_eq_true_eq];constructor
 .rintro ⟨y,bg,e⟩;rw [<- Int.ofNat.inj e];exact bg
 .intro h;exact ⟨b,h,rfl⟩
theorem aii (h0:0 <= i) (af:i < 4):∃ r:Int,(2 <= r/\r <= 20)/\gi [V.int 2,V.int 4,V.int 9,V.int 20] i=some (.int r):=by
 have:i=0\/i=1\/i=2\/i=3:=by omega
 rcases this with rfl | rfl | rfl | rfl
 .exact ⟨2,by decide,Db (j:=0) rfl⟩
 .exact ⟨4,by decide,Db (j:=1) rfl⟩
 .exact ⟨9,by decide,Db (j:=2) rfl⟩
 .exact ⟨20,by decide,Db (j:=3) rfl⟩
def NG (K:ba) (a:Addr) (ns:List Int):bU:=fun vs H Q _=>∃ (turn:Int) (wl:Addr) (ds:List a8),vs=[.ref a,.int turn,.ref wl]/\Sc K a ns H/\(0 <= turn/\turn <= 100)/\iE H wl ds/\ds.length <= 12 /\
 ∀ p xs I,aO H I->aP I->H p=none->I p=some (.lst (aW xs))->xs.length <= 13->(∀ x ∈ xs,x ∈ ds.map (·.name))->Q (.ref p) I
theorem afR (a:Addr) (ns:List Int) (hl:ns.length <= 63):ct P base T 2 t.Fk t.z5 Bg (NG K a ns):=by
 refine cF (H9 T a ns hl) fun e2=>?_;exists T.G8.ok zT,9
 obtain ⟨turn,wl,ds,rfl,S,ajR,agM,gn,q⟩:=h;obtain ⟨qs,so,Ee,vc⟩:=agM;refine ⟨_,(db (b7 (i:=3) zT.aD (bV c8 (gK (aj aM (aj aM (aj aM (aj aM aG))))) (cm e2 ao T.fy T.e8.bN T.ft (aj (U 0) (aj aM (aj aM aG))))))
   (db (b7 (i:=4) zT.aD (gK aG))
   (db (fz fH rfl (lU rfl T.l1 (aj (fJ hD rfl T.g5 g4 (aj (U 2) aG)) aG)) (cA (i:=5) zT.aD) (a6 (dI (cU ep (cm e2 ao T.fy T.e8.bN T.ft (aj (U 0) (aj (bD d7 (bD d7 aM (bD jd aM (U 1))) (U 5)) (aj (U 3) aG)))) aM (cc _)) (a6 (eo (gq iW JG L5 CO (U 4) (aj (cm e2 ao T.fy T.e8.bN T.ft (aj (U 0) (aj (bD d7 (bD d7 aM (U 1)) (bD jd aM (U 5))) (aj (bD d7 (fJ hD rfl T.g5 g4 (aj (U 4) aG)) aM) aG)))) (aj (bV fv (bV c8 (U 2) (U 5)) aM) aG))))) d2)))
   (db (dI (fW.pt (j0 (cU n5 (fJ hD rfl T.g5 g4 (aj (U 4) aG)) aM (cc _)) (kN (cU ep (cm e2 ao T.fy T.e8.bN T.ft (aj (U 0) (aj (bD d7 aM (U 1)) (aj aM aG)))) aM (cc _))))) (a6 (eo (gq iW lh mi lD (U 4) (aj (bV c8 (U 4) aM) aG)))) d2)
   (a6 (cg (U 4))))))),?_⟩
 refine dc (fun aB I=>aO H I/\Sc K a ns I/\∃ o9:Int,(2 <= o9/\o9 <= 20)/\aB=[~~~a,some (.int turn),~~~wl,some (.int o9),none,none]) (fun b2 bW=>?_) fun cY aK=>?_
 ·(nofun; repeat (dsimp only [iJ];nofun));refine ⟨by decide,fun p ax=>⟨S.new ax,by decide,by decide,by decide,?_⟩⟩;obtain ⟨r,aez,aeC⟩:=aii (hg ns 4 (m:=4) (by decide)) (hi ns 4 (m:=4) (by decide));exact ⟨_,aC.of aV,_,aeC,bW _ _ ⟨bE ax,S.new ax,r,aez,rfl⟩⟩
 rintro f_ H1 ⟨s1,mH,o9,md,rfl⟩;subst aK;refine dc (fun aB I=>aO H I/\Sc K a ns I/\∃ p,H p=none/\I p=some (.lst (aW []))/\aB=[~~~a,some (.int turn),~~~wl,some (.int o9),~~~p,none]) (fun b2 bW=>?_) fun cY aK=>?_
 .nofun;exact ⟨by decide,fun p ax=>bW _ _ ⟨s1.trans (bE ax),mH.new ax,p,s1.free ax,aV,rfl⟩⟩
 rintro cv aw ⟨s2,qL,p,ax,eH,rfl⟩;subst aK;refine dc (fun aB I=>aO H I/\Sc K a ns I/\∃ xs y,xs.length <= 12/\(∀ x ∈ xs,x ∈ ds.map (·.name))/\I p=some (.lst (aW xs))/\aB=[~~~a,some (.int turn),~~~wl,some (.int o9),~~~p,y]) (fun b2 bW=>?_) fun cY aK=>?_
 .have eb:=s2 _ _ so;have nU:(qs.map V.ref).length=ds.length:=by rw [aZ,Ee]
  nofun;refine ⟨_,.inl (aC.of eb),by omega,by omega,?_⟩;rw [nU,nL];refine dO.range (fun i σ I=>aO H I/\Sc K a ns I/\∃ xs y,xs.length <= i/\(∀ x ∈ xs,x ∈ ds.map (·.name))/\I p=some (.lst (aW xs))/\σ=[~~~a,some (.int turn),~~~wl,some (.int o9),~~~p,y]) ⟨s2,qL,[],_,fi _,fun x ah=>by simp at ah,eH,rfl⟩ ?_ ?_
  .rintro i σ I ag bb;ac_rfl
   obtain ⟨ai,sl,xs,y,hV,hO,jn,rfl⟩:=bb;have hd:=bo ag;have a0:=bo (show i < qs.length by omega);have ab6:=ai _ _ (vc i _ _ a0 hd);have eN:=ai _ _ so;have ov:(aW xs).length=xs.length:=fb ..;subst aK;nofun;refine dt (decide (dg ns (400 + 17 * turn + (0 + (i:Int))) o9=0)) (fun gM aR=>?_) (fun aa=>?_) (fun aa=>?_)
   ·(nofun; repeat (dsimp only [iJ];nofun));exact ⟨.inr ⟨by omega,by omega⟩,sl,by omega,by omega,by omega,by simpa using aR⟩
   ·(nofun; repeat (dsimp only [iJ];nofun));have eg:=hg ns (900 + turn + 5 * (i:Int)) (m:=(xs.length:Int) + 1) (by omega);have eW:=hi ns (900 + turn + 5 * (i:Int)) (m:=(xs.length:Int) + 1) (by omega);refine ⟨.inl ⟨_,aC.of jn⟩,.inl ⟨by omega,by omega⟩,_,.inl (aC.of jn),sl,by omega,by omega,by omega,_,aC.of eN,_,Db (by rw [c5,a0];rfl),_,rfl,_,di.of ab6,_,Db (j:=1) rfl,_,jn,?_⟩;rw [ov];generalize dg ns (900 + turn + 5 * (i:Int)) ((xs.length:Int) + 1)=g at eg eW;have e7:g.toNat <= xs.length:=by omega
    have e:(aW xs).take g.toNat ++ V.str ds[i].name :: (aW xs).drop g.toNat=aW (ins xs g.toNat ds[i].name):=by
     unfold aW;rw [It];rfl
    rw [e];refine ⟨eg,by omega,by omega,gW (show xs.length <= 12 by omega) (by decide),ai.gf ax,sl.set jn (by intro _ _ z;cases z),_,by rw [FY e7];omega,fun x ah=>?_,aV,_,rfl⟩;rcases l4 ah with rfl | ah
    .exact bK.mpr ⟨_,iM ag,rfl⟩
    .exact hO x ah
   .nofun;exact ⟨ai,sl,xs,by omega,hO,jn,_,rfl⟩
  .rintro σ I bb;ac_rfl
   obtain ⟨ai,sl,xs,y,hV,hO,jn,rfl⟩:=bb;subst aK;exact bW _ _ ⟨ai,sl,xs,y,by omega,hO,jn,rfl⟩
 rintro gc bf ⟨s3,oA,xs,y,hV,hO,kF,rfl⟩;subst aK;refine dc (fun aB I=>aO H I/\Sc K a ns I/\∃ xs y,xs.length <= 13/\(∀ x ∈ xs,x ∈ ds.map (·.name))/\I p=some (.lst (aW xs))/\aB=[~~~a,some (.int turn),~~~wl,some (.int o9),~~~p,y]) (fun b2 bW=>?_) fun cY aK=>?_
 .have ov:(aW xs).length=xs.length:=fb ..;nofun;refine dt (decide (0 < xs.length) && decide (dg ns (1300 + turn) 7=0)) (fun gM aR=>?_) (fun aa=>?_) (fun aa=>?_)
  ·(nofun; repeat (dsimp only [iJ];nofun));refine ⟨_,.inl (aC.of kF),?_⟩;rw [ov];by_cases cD:0 < xs.length
   .rw [if_pos (decide_eq_true (by omega))];rw [decide_eq_true cD,lF] at aR;exact ⟨oA,by omega,by omega,by decide,aR⟩
   .rw [if_neg (by simpa using cD)];rw [decide_eq_false cD,mu] at aR;exact aR
  .nofun;have h0:0 < xs.length:=by
    rw [hX,decide_eq_true_eq] at aa;exact aa.1
   obtain ⟨x,r,rfl⟩:∃ x r,xs=x :: r:=by
    cases xs with
    | nil=>cases h0
    | cons x r=>exact ⟨x,r,rfl⟩
   refine ⟨.inl ⟨_,aC.of kF⟩,_,aC.of kF,_,Db (j:=0) rfl,_,kF,by rw [ov];exact gW hV (by decide),?_⟩;refine bW _ _ ⟨s3.gf ax,oA.set kF (by intro _ _ z;cases z),(x :: r) ++ [x],y,by rw [dY];exact Wf hV,fun z aT=>?_,?_,rfl⟩
   .rcases eG.mp aT with aT | aT
    .exact hO z aT
    .rw [d8.mp aT];exact hO x (.head _)
   .rw [aV];unfold aW;rw [eZ];rfl
  .nofun;exact bW _ _ ⟨s3,oA,xs,y,by omega,hO,kF,rfl⟩
 rintro k8 cN ⟨s4,ja,xs,y,hV,hO,ahY,rfl⟩;subst aK;nofun;exact q p xs cN s4 ja.2 ax ahY hV hO
noncomputable def kJ (aF:List eO) (j:Nat):List Nat:=((aF[j]?).map (·.dU)).getD []
theorem ny {x:eO} (h:aF[j]? = some x):kJ aF j=x.dU:=by unfold kJ;rw [h];rfl
theorem Cf {H:ar} {bS:Addr} {qs ms:List Addr} {aF:List eO} (h:k6 H bS qs ms aF) {j:Nat} {x:eO} (ah:aF[j]? = some x):∃ q m,qs[j]? = some q/\H q=some (.tup [.int x.lo,.int x.ag,.ref m])/\H m=some (.lst (x.dU.map fun k:Nat=>V.int k)):=by
 have aL:=(b'.mp ah).1;have af:=bo (show j < qs.length by rw [h.cE];exact aL);have ak:=bo (show j < ms.length by rw [h.dq];exact aL);obtain ⟨au,aH⟩:=h.al j _ _ x af ak ah;exact ⟨_,_,af,au,aH⟩
noncomputable def w_ (ds:List a8) (i:Nat):Bool:=decide ((ds[i]?).map (·.k)=some 2)
noncomputable def jc (ds:List a8) (aF:List eO) (j:Nat):Bool:=w_ ds ((kJ aF j).headD 0)
theorem dA.six {n:Int} {ds:List a8} {aF:List eO} (h:dA n ds aF) {j:Nat} (aJ:j < aF.length):aF[j].dU ≠ []/\aF[j].dU.length <= 8:=by
 obtain ⟨_,_,a,b,_⟩:=h.jO.bd _ (iM aJ);exact ⟨a,b⟩
section
variable {n:Int} {ds:List a8} {aF:List eO}
theorem dA.tell (X:dA n ds aF) {d:a8} (hd:d ∈ ds):My.told (cz ds aF) d.name=true:=by
 have h:gE ds (cz ds aF)=[]:=ab1.mp X.none.1;unfold gE at h;have:=Mi.mp h d.name (bK.mpr ⟨d,hd,rfl⟩);simpa using this
theorem Oj {j k:Nat} (h:k ∈ kJ aF j):∃ x,aF[j]? = some x/\k ∈ x.dU:=by
 unfold kJ at h;cases e:aF[j]? with
 | none=>rw [e] at h;simp at h
 | some x=>rw [e] at h;exact ⟨x,rfl,h⟩
theorem dA.uniq (X:dA n ds aF) {j i k:Nat} (af:k ∈ kJ aF j) (ak:k ∈ kJ aF i):j=i:=by
 have half:∀ {a b:Nat},a < b->k ∈ kJ aF a->k ∈ kJ aF b->False:=fun {a b} m9 aS aa=>by
  obtain ⟨x,ah,uK⟩:=Oj aS;obtain ⟨y,bg,aef⟩:=Oj aa;have hf:=X.told bg (x:=gB ds k) (bK.mpr ⟨k,aef,rfl⟩);have tF:x ∈ aF.take b:=cC (by rw [o4 m9];exact ah);have:My.told (cz ds (aF.take b)) (gB ds k)=true:=by
   unfold My.told;refine qi.mpr ⟨lX ds x,bK.mpr ⟨x,tF,rfl⟩,?_⟩;have hm:gB ds k ∈ eD ds x:=bK.mpr ⟨k,uK,rfl⟩;simpa [lX] using hm
  rw [hf] at this;cases this
 rcases Nat.lt_trichotomy j i with h | h | h
 .exact (half h af ak).elim
 .exact h
 .exact (half h ak af).elim
theorem dA.JV (X:dA n ds aF) {j k:Nat} {d:a8} (hd:ds[k]? = some d):fu (cz ds aF) d.name=some j↔k ∈ kJ aF j:=by
 obtain ⟨gZ,r,_,az,iB,hm⟩:=nY (X.tell (cC hd));unfold cz at iB;rw [c5] at iB;obtain ⟨x,ah,rfl⟩:=vr.mp iB;have hm:d.name ∈ eD ds x:=hm;have uK:k ∈ x.dU:=(Kj X.aD (fun i ag=>X.lt (cC ah) ag) hd).mp hm;have h3:k ∈ kJ aF gZ:=by rw [ny ah];exact uK
 rw [az];constructor
 .intro e;cases e;exact h3
 .intro h;rw [X.uniq h h3]
theorem dA.sort (X:dA n ds aF) {j:Nat} (aJ:j < aF.length):b3 ds (cz ds aF) j=if jc ds aF j=true then c4 else iA:=by
 have ah:=bo aJ;obtain ⟨lP,r,e⟩:=qM (X.six aJ).1;have iR:lP ∈ aF[j].dU:=by rw [e];exact .head _
 have jA:=bo (X.lt (iM aJ) iR);unfold b3 cz;rw [c5,ah];show cV ds (lX ds aF[j])=_;unfold cV lX eD;rw [e,er,kA jA];show (((ib ds _).map h2).getD _)=_;rw [lJ X.aD jA];show h2 _=_;unfold h2 jc w_;rw [ny ah,e];show _=if decide ((ds[lP]?).map (·.k)=some 2)=true then c4 else iA;rw [jA,Aa];by_cases h:(ds[lP]'(X.lt (iM aJ) iR)).k=2
 .rw [if_pos h,if_pos (decide_eq_true (congrArg some h))]
 .rw [if_neg h,if_neg (fun z=>h (d1 (of_decide_eq_true z)))]
end
theorem HC {ds:List a8} {aF:List eO} {j:Nat} {x:eO} (h:aF[j]? = some x):(cz ds aF)[j]? = some (lX ds x):=by unfold cz;rw [c5,h];rfl
theorem iE.o5 {H I:ar} {wl:Addr} {ds:List a8} (h:iE H wl ds) (s:iq H I):iE I wl ds:=by
 obtain ⟨qs,au,aH,bX⟩:=h;exact ⟨qs,s.lst au,aH,fun i q d a b=>s.tup (bX i q d a b)⟩
theorem k6.o5 {H I:ar} {bS:Addr} {qs ms:List Addr} {aF:List eO} (h:k6 H bS qs ms aF) (s:iq H I):k6 I bS qs ms aF:=
 ⟨s.lst h.at_,h.cE,h.dq,fun i q m x a b c=>⟨s.tup (h.al i q m x a b c).1,s.lst (h.al i q m x a b c).2⟩⟩
theorem dA.TM {n:Int} {ds:List a8} {aF:List eO} (X:dA n ds aF):mv ds (cz ds aF):=by
 refine ⟨fun d hd=>X.tell hd,fun r ao=>?_,fun r ao=>?_,by have:=X.yw;omega⟩
 .obtain ⟨x,ah,rfl⟩:=bK.mp ao;show (eD ds x).length <= 12;unfold eD;rw [aZ];have:=(X.jO.bd x ah).2.2.2.1;omega
 .obtain ⟨x,ah,rfl⟩:=bK.mp ao;obtain ⟨j,aJ,e⟩:=G_ ah;have:=X.sort aJ;unfold b3 at this;rw [HC (bo aJ),e] at this;have this:cV ds (lX ds x)=_:=this;rw [this];split
  .exact .inl rfl
  .exact .inr rfl
theorem Ai {last m v:Int} (af:-1 <= last) (ak:last < v) (a9:v < m):gr last m v=v - last - 1:=by
 unfold gr;exact sJ (by omega) (by omega)
theorem yk {last m v:Int} (af:last < m) (ak:0 <= v) (a9:v <= last):gr last m v=v - last - 1 + m:=by
 unfold gr;have e:(v - last - 1) % m=(v - last - 1 + m) % m:=by simp
 rw [e];exact sJ (by omega) (by omega)
theorem acg {last:Int} {m a b:Nat} (af:-1 <= last) (ak:last < m) (aS:a < m) (aa:b < m) (h:gr last m a=gr last m b):a=b:=by
 by_cases ca:last < (a:Int) <;> by_cases J3:last < (b:Int)
 .rw [Ai af ca (by omega),Ai af J3 (by omega)] at h;omega
 .rw [Ai af ca (by omega),yk ak (by omega) (by omega)] at h;omega
 .rw [yk ak (by omega) (by omega),Ai af J3 (by omega)] at h;omega
 .rw [yk ak (by omega) (by omega),yk ak (by omega) (by omega)] at h;omega
theorem Zx (h:ds[i]? = some d) (az:d.k < 3):decide (V.str (d_ d.k)=V.str (ab "tram"))=w_ ds i:=by
 have af:d_ 0 ≠ ab "tram" := by ac_nf
 have ak:d_ 1 ≠ ab "tram" := by ac_nf
 have a9:d_ 2=ab "tram" := by ac_nf
 unfold w_;rw [h]
 match e:d.k,az with
 | 0,_=>simp [e,af]
 | 1,_=>simp [e,ak]
 | 2,_=>simp [e,a9]
noncomputable def gO (ds:List a8) (rows:List ST) (s:eK) (j:Nat):Int:=if b3 ds rows j=c4 then s.pt else s.po
structure jQ (ds:List a8) (rows:List ST) (last:Int) (j:Nat) (B:List Nat):Prop where
 up:∀ b ∈ B,b3 ds rows b=b3 ds rows j->gr last rows.length j <= gr b rows.length j
 Ot:B.Pairwise fun u v=>b3 ds rows u=b3 ds rows j->b3 ds rows v=b3 ds rows j->gr v rows.length j < gr u rows.length j
 al:∀ (k u v:Nat),B[k]? = some u->B[k + 1]? = some v->b3 ds rows u=b3 ds rows j\/b3 ds rows v=b3 ds rows j
theorem jQ.nil (ds:List a8) (rows:List ST) (last:Int) (j:Nat):jQ ds rows last j []:=⟨(fun b h=>by cases h),ad1,fun k u v h=>by simp at h⟩
theorem aaO (hm:0 < m) (h:gr last m g < gr last m j):gr g m j=gr last m j - gr last m g - 1:=by
 unfold gr at *;have akK:=tr (g - last - 1) (show m ≠ 0 by omega);have f5:=wX (j - last - 1) hm;have ai3:=agp (j - last - 1) m;have akk:=agp (g - last - 1) m;generalize (j - last - 1) % m=r3 at *;generalize (g - last - 1) % m=fZ at *;generalize (j - last - 1) / m=aif at *;generalize (g - last - 1) / m=adi at *;have e:j - g - 1=(r3 - fZ - 1) + m * (aif - adi):=by rw [Int.mul_sub];omega
 rw [e,aaG];exact sJ (by omega) (by omega)
theorem af0 {rows:List ST} (R:mv ds rows) (cq:∀ x ∈ s.wt,told rows x=true) (ag:i < rows.length) (aJ:j ∈ jh rows s) (qQ:-1 <= gO ds rows s j) (wF:gO ds rows s j < rows.length) (P:AR ds rows s i g) (aQ:g ≠ j) :
  (b3 ds rows g=b3 ds rows j->gr (gO ds rows s j) rows.length g < gr (gO ds rows s j) rows.length j)/\(b3 ds rows g ≠ b3 ds rows j->b3 ds rows i=b3 ds rows j):=by
 have cx:∀ {k:Nat},k < rows.length->b3 ds rows k=c4\/b3 ds rows k=iA:=fun {k} az=>by
  unfold b3;rw [bo az];exact R.cx _ (iM az)
 have jv:=vY cq j aJ;obtain ⟨nz,ZR⟩:=P;have kv:=zv (ds:=ds) (i:=i) cq g nz;have Ar:∀ {k:Nat},k ∈ k5 ds rows s i->b3 ds rows k ≠ b3 ds rows i:=fun {k} az=>by
  have:=(iY.mp az).2;simpa using this
 have om:c4 ≠ iA:=by ac_nf
 have PZ:∀ {a b c:Nat},a < rows.length->b < rows.length->c < rows.length->b3 ds rows a ≠ b3 ds rows c->b3 ds rows b ≠ b3 ds rows c->b3 ds rows a=b3 ds rows b:=fun {a b c} aS aa ay af ak=>by
  rcases cx aS with au | au <;> rcases cx aa with aH | aH <;> rcases cx ay with bX | bX <;> simp_all
 refine ⟨fun av=>?_,fun av=>?_⟩
 .have pK:j ∈ gY ds rows s i:=by
   unfold gY at nz ⊢;by_cases c:(k5 ds rows s i).isEmpty=true
   .rw [if_pos c];exact aJ
   .rw [if_neg c] at nz ⊢;exact iY.mpr ⟨aJ,by have:=Ar nz;rw [av] at this;simpa using this⟩
  have m4:∀ k ∈ gY ds rows s i,b3 ds rows k=b3 ds rows j:=fun k az=>by
   have lC:=zv (ds:=ds) (i:=i) cq k az;unfold gY at az pK;by_cases c:(k5 ds rows s i).isEmpty=true
   .rw [if_pos c] at az pK;have ah5:k5 ds rows s i=[]:=SD.mp c;have SG:∀ q ∈ jh rows s,b3 ds rows q=b3 ds rows i:=fun q a0=>by
     by_cases z:b3 ds rows q=b3 ds rows i
     .exact z
     .have:q ∈ k5 ds rows s i:=iY.mpr ⟨a0,by simpa using z⟩;rw [ah5] at this;cases this
    rw [SG k az,SG j pK]
   .rw [if_neg c] at az pK;exact PZ lC jv ag (Ar az) (Ar pK)
  have W4:qE ds rows s (gY ds rows s i)=gO ds rows s j:=by
   unfold qE gO;cases ay:gY ds rows s i with
   | nil=>rw [ay] at pK;cases pK
   | cons q r=>rw [show (q :: r).headD 0=q from rfl,m4 q (by rw [ay];exact .head _)]
  have hle:=ZR j pK;rw [W4] at hle;rcases Int.lt_or_eq_of_le hle with h | h
  .exact h
  .exact absurd (acg qQ wF kv jv h) aQ
 .by_cases z:b3 ds rows i=b3 ds rows j
  .exact z
  .have O6:j ∈ k5 ds rows s i:=iY.mpr ⟨aJ,by simpa using fun e=>z e.symm⟩;have cj:¬ (k5 ds rows s i).isEmpty=true:=fun e=>by rw [SD.mp e] at O6;cases O6
   unfold gY at nz;rw [if_neg cj] at nz;exact absurd (PZ kv jv ag (Ar nz) (fun e=>z e.symm)) av
theorem jQ.more {ds:List a8} {rows:List ST} {last D_:Int} {j g:Nat} {B:List Nat} (hm:0 < rows.length) (F:jQ ds rows last j B) (af:b3 ds rows g=b3 ds rows j->D_=g/\gr last rows.length g < gr last rows.length j) (ak:b3 ds rows g ≠ b3 ds rows j->D_=last/\∀ b,B.getLast? = some b->b3 ds rows b=b3 ds rows j):jQ ds rows D_ j (B ++ [g]):=by
 have near:b3 ds rows g=b3 ds rows j->gr g rows.length j < gr last rows.length j:=fun e=>by
  have h:=(af e).2;have:=aaO (show (0:Int) < rows.length by omega) h;have z:0 <= gr last rows.length g:=tr _ (by omega);omega
 refine ⟨fun b aa av=>?_,?_,fun k u v bx aI=>?_⟩
 .by_cases e:b3 ds rows g=b3 ds rows j
  .rw [(af e).1];rcases eG.mp aa with aa | aa
   .exact aeK (Int.le_of_lt (near e)) (F.up b aa av)
   .rw [d8.mp aa];exact Jj _
  .rw [(ak e).1];rcases eG.mp aa with aa | aa
   .exact F.up b aa av
   .rw [d8.mp aa] at av;exact absurd av e
 .rw [List.pairwise_append];refine ⟨F.Ot,acm ..,fun u bx v aI=>?_⟩;rw [d8.mp aI];exact fun acO X8=>Int.lt_of_lt_of_le (near X8) (F.up u bx acO)
 .by_cases c:k + 1 < B.length
  .rw [qq (by omega)] at bx;rw [qq c] at aI;exact F.al k u v bx aI
  .by_cases e:b3 ds rows g=b3 ds rows j
   .have az:k + 1=B.length:=by
     have:=(b'.mp aI).1;rw [dY,w1] at this;omega
    rw [az,qP (cn _),Nat.sub_self] at aI;cases aI;exact .inr e
   .have az:k + 1=B.length:=by
     have:=(b'.mp aI).1;rw [dY,w1] at this;omega
    rw [qq (by omega)] at bx;exact .inl ((ak e).2 u (by rw [List.getLast?_eq_getElem?,<- az];exact bx))
theorem jQ.once {rows:List ST} (F:jQ ds rows last j B) {k u:Nat} (bx:B[k]? = some u) (av:b3 ds rows u=b3 ds rows j):u ∉ B.take k:=fun h=>by
 obtain ⟨i,ag⟩:=hH h;have L':i < k:=by
  have:=(b'.mp ag).1;rw [gD] at this;omega
 rw [o4 L'] at ag;obtain ⟨a1,a2⟩:=b'.mp ag;obtain ⟨f5,fT⟩:=b'.mp bx;have:=XA.mp F.Ot i k a1 f5 L';rw [a2,fT] at this;exact absurd (this av av) (by omega)
structure jy (ds:List a8) (rows:List ST) (s:eK):Prop where
 t0:-1 <= s.pt/\s.pt < rows.length
 o0:-1 <= s.po/\s.po < rows.length
 bh:s.bc=none->gO ds rows s s.bh=s.bh
theorem jy.gO {rows:List ST} (h:jy ds rows s) (j:Nat):-1 <= gO ds rows s j/\gO ds rows s j < rows.length:=by
 unfold My.gO;split
 .exact h.t0
 .exact h.o0
structure hj (ds:List a8) (rows:List ST) (s:eK) (j:Nat) (B:List Nat):Prop where
 bc:∀ i,s.bc=some i->jQ ds rows (gO ds rows s j) j B/\∀ b,B.getLast? = some b->b=i
 ch:s.bc=none->s.bh ≠ j->jQ ds rows (gO ds rows s j) j (B ++ [s.bh])
 c0:s.bc=none->s.bh=j->∃ last,jQ ds rows last j B
theorem hj.new {rows:List ST} (L:jy ds rows s) (j:Nat):hj ds rows s j []:=by
 refine ⟨fun i _=>⟨jQ.nil ..,fun b h=>by simp at h⟩,fun af ak=>⟨fun b aa av=>?_,acm ..,fun k u v bx aI=>?_⟩,fun _ _=>⟨0,jQ.nil ..⟩⟩
 .rw [wk,d8] at aa;rw [aa] at av ⊢;have e:gO ds rows s j=gO ds rows s s.bh:=by unfold gO;rw [av]
  rw [e,L.bh af];exact Jj _
 .rw [wk] at aI;simp at aI
theorem PY {rows:List ST} (av:s.bc=none) (L:jy ds rows s) :
  jy ds rows (gz n ds rows s m)/\((gz n ds rows s m).bc=none\/(gz n ds rows s m).bc=some s.bh)/\∀ j B,hj ds rows s j B->((gz n ds rows s m).bc=none->hj ds rows (gz n ds rows s m) j B)/\((gz n ds rows s m).bc=some s.bh->(s.bh ≠ j->hj ds rows (gz n ds rows s m) j (B ++ [s.bh]))/\(s.bh=j->∃ last,jQ ds rows last j B)):=by
 unfold gz;split
 .exact ⟨L,.inl av,fun j B F=>⟨fun _=>F,fun h=>by rw [av] at h;cases h⟩⟩
 .refine ⟨⟨L.t0,L.o0,fun h=>(by cases h)⟩,.inr rfl,fun j B F=>⟨fun h=>(by cases h),fun _=>⟨fun aJ=>⟨fun i ag=>⟨F.ch av aJ,fun b aa=>?_⟩,fun h=>(by cases h),fun h=>(by cases h)⟩,fun aJ=>F.c0 av aJ⟩⟩⟩;rw [List.getLast?_concat] at aa;cases aa;exact d1 ag
theorem abE {rows:List ST} (L:jy ds rows s) (aQ:rows[g]? = some fZ):jy ds rows (mx s i g (cV ds fZ)):=by
 have kv:=(b'.mp aQ).1;have e:b3 ds rows g=cV ds fZ:=by unfold b3;rw [aQ];rfl
 unfold mx;refine ⟨?_,?_,fun _=>?_⟩
 .show -1 <= (if cV ds fZ=c4 then (g:Int) else s.pt)/\(if cV ds fZ=c4 then (g:Int) else s.pt) < rows.length;split
  .omega
  .exact L.t0
 .show -1 <= (if cV ds fZ=c4 then s.po else (g:Int))/\(if cV ds fZ=c4 then s.po else (g:Int)) < rows.length;split
  .exact L.o0
  .omega
 .show (if b3 ds rows g=c4 then (if cV ds fZ=c4 then (g:Int) else s.pt) else (if cV ds fZ=c4 then s.po else (g:Int)))=(g:Int);rw [e];split <;> rfl
theorem V5 {rows:List ST} (R:mv ds rows) (cq:∀ x ∈ s.wt,told rows x=true) (L:jy ds rows s) (av:s.bc=some i) (ag:i < rows.length) (aJ:j ∈ jh rows s) (P:AR ds rows s i g) (aQ:rows[g]? = some fZ) (F:hj ds rows s j B):hj ds rows (mx s i g (cV ds fZ)) j B:=by
 have kv:=(b'.mp aQ).1;have e:b3 ds rows g=cV ds fZ:=by unfold b3;rw [aQ];rfl
 obtain ⟨ow,aa'⟩:=F.bc i av;have cx:∀ {k:Nat},k < rows.length->b3 ds rows k=c4\/b3 ds rows k=iA:=fun {k} az=>by
  unfold b3;rw [bo az];exact R.cx _ (iM az)
 have om:c4 ≠ iA:=by ac_nf
 have jv:=vY cq j aJ;refine ⟨fun fF h=>(by unfold mx at h;cases h),fun _ cj=>?_,fun _ _=>⟨_,ow⟩⟩;have cj:g ≠ j:=cj;have dN:=af0 R cq ag aJ (L.gO j).1 (L.gO j).2 P cj;show jQ ds rows (gO ds rows (mx s i g (cV ds fZ)) j) j (B ++ [g]);refine ow.more (by omega) (fun dr=>⟨?_,dN.1 dr⟩) (fun dr=>⟨?_,fun b aa=>by rw [aa' b aa];exact dN.2 dr⟩)
 .unfold gO mx;show (if b3 ds rows j=c4 then (if cV ds fZ=c4 then (g:Int) else s.pt) else (if cV ds fZ=c4 then s.po else (g:Int)))=(g:Int);rw [<- dr,e];split <;> rfl
 .unfold gO mx;show (if b3 ds rows j=c4 then (if cV ds fZ=c4 then (g:Int) else s.pt) else (if cV ds fZ=c4 then s.po else (g:Int)))=(if b3 ds rows j=c4 then s.pt else s.po);rw [<- e];rcases cx kv with a | a <;> rcases cx jv with b | b <;> rw [a,b] at dr ⊢
  .exact absurd rfl dr
  .simp [om.symm]
  .simp [om.symm]
  .exact absurd rfl dr
theorem hj.keep {rows:List ST} (F:hj ds rows s j B) (af:ai.bc=s.bc) (ak:ai.bh=s.bh) (a9:ai.pt=s.pt) (cW:ai.po=s.po):hj ds rows ai j B:=by
 have e:gO ds rows ai j=gO ds rows s j:=by unfold gO;rw [a9,cW]
 exact ⟨fun i ag=>by rw [e];exact F.bc i (af ▸ ag),fun a b=>by rw [e,ak];exact F.ch (af ▸ a) (ak ▸ b),fun a b=>F.c0 (af ▸ a) (ak ▸ b)⟩
theorem jy.keep {rows:List ST} (L:jy ds rows s) (af:ai.bc=s.bc) (ak:ai.bh=s.bh) (a9:ai.pt=s.pt) (cW:ai.po=s.po):jy ds rows ai:=
 ⟨a9 ▸ L.t0,cW ▸ L.o0,fun h=>by unfold My.gO;rw [ak,a9,cW];exact L.bh (af ▸ h)⟩
theorem W5 {rows:List ST} (R:mv ds rows) (k:h8 ds rows s) (L:jy ds rows s) (h:nM n ds rows s own ai) :
  jy ds rows ai/\∀ j B,j ∈ jh rows s->hj ds rows s j B->(ai.bc=none->hj ds rows ai j B)/\(∀ g,ai.bc=some g->s.bc=some g->hj ds rows ai j B)/\(∀ g,ai.bc=some g->s.bc ≠ some g->(g ≠ j->hj ds rows ai j (B ++ [g]))/\(g=j->∃ last,jQ ds rows last j B)):=by
 have cq:=k.told R;rcases h with ⟨av,r,ao,rfl⟩ | ⟨i,r,av,ao,d0,rfl⟩ | ⟨i,r,g,fZ,av,ao,d0,P,aQ,rfl⟩
 .have EV:jy ds rows { s with c2:=s.c2 + 1 }:=L.keep rfl rfl rfl rfl;obtain ⟨tP,yf,Ca⟩:=PY (n:=n) (m:=r.mem) (s:={ s with c2:=s.c2 + 1 }) av EV;refine ⟨tP,fun j B aJ F=>?_⟩;have ow:hj ds rows { s with c2:=s.c2 + 1 } j B:=F.keep rfl rfl rfl rfl;obtain ⟨oQ,ts⟩:=Ca j B ow;refine ⟨oQ,fun g aQ dr=>(by rw [av] at dr;cases dr),fun g aQ _=>?_⟩;rcases yf with z | z
  .rw [z] at aQ;cases aQ
  .rw [z] at aQ;cases aQ;exact ts z
 .refine ⟨L.keep rfl rfl rfl rfl,fun j B aJ F=>?_⟩;have ow:hj ds rows { s with cL:=s.cL + 1 } j B:=F.keep rfl rfl rfl rfl;exact ⟨fun _=>ow,fun _ _ _=>ow,fun g aQ cj=>absurd aQ cj⟩
 .have ag:=(k.bc i av).1;have EV:=abE (i:=i) L aQ;obtain ⟨tP,yf,Ca⟩:=PY (n:=n) (m:=fZ.mem) (s:=mx s i g (cV ds fZ)) rfl EV;refine ⟨tP,fun j B aJ F=>?_⟩;have ow:=V5 R cq L av ag aJ P aQ F;obtain ⟨oQ,ts⟩:=Ca j B ow;have lB:g ≠ i:=fun e=>by
   obtain ⟨x,ah,dr⟩:=va cq P.1;exact (k.bc i av).2 x ah (e ▸ dr)
  refine ⟨oQ,fun g' jk dr=>?_,fun g' jk _=>?_⟩
  .rw [av] at dr;cases dr;rcases yf with z | z
   .rw [z] at jk;cases jk
   .rw [z] at jk;exact absurd (d1 jk) lB
  .rcases yf with z | z
   .rw [z] at jk;cases jk
   .rw [z] at jk;cases jk;exact ts z
theorem X_ {rows:List ST} (R:mv ds rows) (k:h8 ds rows s) (h:nM n ds rows s own ai) (av:s.bc=some i) (ao:rows[i]? = some r) (ak3:r.lo <= r.ag) :
  (ai.bc=some i->ai.cL=s.cL + 1/\(s.wt ≠ []->s.cL < r.ag))/\(ai.bc ≠ some i->r.lo <= s.cL):=by
 have cq:=k.told R;rcases h with ⟨h0,_⟩ | ⟨fF,ei,eP,dD,d0,rfl⟩ | ⟨fF,ei,g,fZ,eP,dD,d0,P,aQ,rfl⟩
 .rw [av] at h0;cases h0
 .rw [av] at eP;cases eP;rw [ao] at dD;cases dD;refine ⟨fun _=>⟨rfl,fun hw=>?_⟩,fun h=>absurd av h⟩;unfold oN at d0;rw [rg,rg] at d0;rcases d0 with (af | af) | af
  .exact absurd (SD.mp af) hw
  .have:=of_decide_eq_true af;omega
  .rw [hX,hX] at af;exact of_decide_eq_true af.1.1
 .rw [av] at eP;cases eP;rw [ao] at dD;cases dD;have lB:g ≠ i:=fun e=>by
   obtain ⟨x,ah,dr⟩:=va cq P.1;exact (k.bc i av).2 x ah (e ▸ dr)
  refine ⟨fun h=>?_,fun _=>?_⟩
  .exfalso;unfold gz at h;split at h
   .cases h
   .exact lB (d1 h)
  .unfold oN at d0;rw [s7,s7] at d0;have:=of_decide_eq_false d0.1.2;omega
theorem ae_ {rows:List ST} (h:nM n ds rows s own ai) (av:s.bc ≠ some g) (aQ:ai.bc=some g):ai.cL=1:=by
 rcases h with ⟨h0,r,ao,rfl⟩ | ⟨fF,ei,eP,dD,d0,rfl⟩ | ⟨fF,ei,g,fZ,eP,dD,d0,P,jk,rfl⟩
 .unfold gz at aQ ⊢;split
  .rename_i c;rw [if_pos c] at aQ;rw [h0] at aQ;cases aQ
  .rfl
 .exact absurd aQ av
 .unfold gz at aQ ⊢;split
  .rename_i c;rw [if_pos c] at aQ;cases aQ
  .rfl
theorem aeD {k:Nat} (h:k <= xs.length):iU xs none (some ((k:Nat):Int))=xs.take k:=by
 unfold iU;rw [eV.Hp,eV.Kg,PA,agI,Kp h]
noncomputable def qe (ds:List a8) (aF:List eO):List V:=(gx aF.length).map fun j=>V.bk (jc ds aF j)
theorem GD {ds:List a8} {aF:List eO} {j:Nat} (h:j < aF.length):gi (qe ds aF) (j:Int)=some (.bk (jc ds aF j)):=Db (by
 unfold qe;rw [c5,LV h]
 rfl)
theorem DZ (X:dA n ds aF) (ag:i < aF.length) (aJ:j < aF.length):b3 ds (cz ds aF) i=b3 ds (cz ds aF) j↔jc ds aF i=jc ds aF j:=by
 have om:c4 ≠ iA:=by ac_nf
 rw [X.sort ag,X.sort aJ];cases jc ds aF i <;> cases jc ds aF j <;> simp [om,om.symm]
def KY (K:ba):bU:=fun vs H Q _=>∃ (cB bk:Addr) (j:Nat) (B:List Nat) (n:Int) (ds:List a8) (aF:List eO) (last:Int),vs=[.ref cB,.int j,.ref bk]/\H cB=some (.lst (qe ds aF))/\H bk=some (.lst (eL B))/\B.length <= 1000/\(∀ b ∈ B,b < aF.length)/\j < aF.length/\dA n ds aF/\jQ ds (cz ds aF) last j B/\aP H/\∀ I,aO H I->aP I->Q (.bk true) I
theorem agi:ct P base T 1 t.xX t.Bm Bo (KY K):=by
 exists T.CF.ok Lz,9
 obtain ⟨cB,bk,j,B,n,ds,aF,last,rfl,jD,pY,E1,h1,aJ,X,F,bM,q⟩:=h;refine ⟨_,(db (fz fH rfl (lU rfl T.l1 (aj (fJ hD rfl T.g5 g4 (aj (U 2) aG)) aG)) (cA (i:=3) Lz.aD) (db (dI (fW.pt (j0 (cU ep (bV c8 (U 0) (bV c8 (U 2) (U 3))) (bV c8 (U 0) (U 1)) (cc _)) (kN (cU yD (bV c8 (U 2) (U 3)) (oB zU (U 2) oy (ou (U 3))) (by with_unfolding_all rfl))))) (a6 (cg ju)) d2)
   (a6 (dI (fW.pt (j0 (cU n5 (U 3) aM (cc _)) (j0 (cU o6 (bV c8 (U 0) (bV c8 (U 2) (U 3))) (bV c8 (U 0) (U 1)) (cc _)) (kN (cU o6 (bV c8 (U 0) (bV c8 (U 2) (bD k1 (U 3) aM))) (bV c8 (U 0) (U 1)) (cc _)))))) (a6 (cg ju)) d2))))
   (a6 (cg ju))),?_⟩
 have hlen:(eL B).length=B.length:=by unfold eL;rw [aZ]
 nofun;refine ⟨_,.inl (aC.of pY),by omega,by rw [hlen];omega,?_⟩;rw [hlen,nL];refine dO.range (fun i σ I=>aO H I/\aP I/\∃ y,σ=[~~~cB,some (.int j),~~~bk,y]) ⟨(fun _ _ e=>e),bM,_,rfl⟩ ?_ ?_
 .rintro k σ I az bb;ac_rfl
  obtain ⟨s1,cp,y,rfl⟩:=bb;have az:k < B.length:=az;obtain ⟨b,aa⟩:∃ b,B[k]? = some b:=⟨_,bo az⟩;have Ja:=h1 b (cC aa);have Ej:gi (eL B) ((k:Nat):Int)=some (.int (b:Nat)):=Db (by unfold eL;rw [c5,aa];rfl);have Gr:=GD (ds:=ds) aJ;have Q4:=GD (ds:=ds) Ja;have OX:=s1 _ _ jD;have Ey:=s1 _ _ pY;subst aK;simp only [gU,dE,kG,kp,o8];refine B6 (fun ip aw=>ip=false/\aO H aw/\aP aw) (fun gM aR=>?_) (fun aw r=>(by cases r.1)) (fun aw r=>?_)
  .nofun;refine ⟨_,aC.of Ey,_,Ej,_,_,rfl,aC.of OX,_,Q4,_,aC.of OX,_,Gr,rfl,?_⟩;by_cases c:jc ds aF b=jc ds aF j
   .rw [if_pos (decide_eq_true (by rw [c]))];have mT:iU (eL B) none (some ((k:Nat):Int))=(B.take k).map fun z:Nat=>V.int z:=by
     rw [aeD (by rw [hlen];omega)];unfold eL;rw [Q8]
    refine ⟨_,aC.of Ey,_,Ej,_,aC.of Ey,fun p ax=>?_⟩;rw [mT];refine ⟨_,.inl (aC.of aV),rfl,?_,?_⟩
    .rw [VS];exact oT.mpr fun _ _=>rfl
    .rw [UZ,decide_eq_false (F.once aa ((DZ X Ja aJ).mpr c))];exact aR _ _ ⟨rfl,s1.trans (bE ax),cp.upd⟩
   .rw [if_neg (by simpa using c)];exact aR _ _ ⟨rfl,s1,cp⟩
  .obtain ⟨_,s2,cO⟩:=r;have zb:=s2 _ _ jD;have OL:=s2 _ _ pY;nofun;refine dt false (fun gM aR=>?_) (fun ay=>nomatch ay) (fun _=>?_)
   .nofun;by_cases cD:0 < k
    .rw [if_pos (decide_eq_true (by omega))];refine ⟨_,aC.of OL,_,Ej,_,_,rfl,aC.of zb,_,Q4,_,aC.of zb,_,Gr,rfl,?_⟩;by_cases c:jc ds aF b=jc ds aF j
     .rw [if_neg (by simp [c])];exact aR
     .rw [if_pos (by simpa using c)];have vf:k - 1 < B.length:=by omega
      obtain ⟨ip,fY⟩:∃ ip,B[k - 1]? = some ip:=⟨_,bo vf⟩;have K3:=h1 ip (cC fY);have afC:gi (eL B) ((k:Int) - 1)=some (.int (ip:Nat)):=by
       rw [show (k:Int) - 1=((k - 1:Nat):Int) by omega];exact Db (by unfold eL;rw [c5,fY];rfl)
      have e:jc ds aF ip=jc ds aF j:=by
       rcases F.al (k - 1) ip b fY (by rw [show k - 1 + 1=k by omega];exact aa) with z | z
       .exact (DZ X K3 aJ).mp z
       .exact absurd ((DZ X Ja aJ).mp z) c
      refine ⟨_,aC.of OL,_,afC,_,_,rfl,aC.of zb,_,GD K3,_,aC.of zb,_,Gr,rfl,?_⟩;rw [e];simpa using aR
    .rw [if_neg (by simpa using cD)];exact aR
   .nofun;exact ⟨s2,cO,_,rfl⟩
 .rintro σ I bb;ac_rfl
  obtain ⟨s1,cp,y,rfl⟩:=bb;subst aK;nofun;exact q I s1 cp
def MY (t:bQ):bU:=fun vs H Q _=>∃ (k bS aX aA aU:Addr) (qs ms:List Addr) (aF:List eO) (s:eK) (cx:Option Nat) (jE:Int) (asked:Bool),vs=[.ref k,.ref bS,eE cx,.int jE,.bk asked]/\ee t H k aX aA aU s/\k6 H bS qs ms aF/\(∀ i,cx=some i->i < aF.length)/\(∀ (i:Nat) (x:eO),cx=some i->aF[i]? = some x->(s.bc=some i->asked=true->jE < x.ag)/\(s.bc ≠ some i->x.lo <= jE))/\Q (.bk true) H
theorem O' (a:Option Nat) (i:Nat):decide (eE a=V.int (i:Nat))=decide (a=some i):=by
 cases a with
 | none=>rfl
 | some k=>
  refine decide_eq_decide.mpr ⟨fun z=>?_,fun z=>by cases z;rfl⟩;have:=V.int.inj z;exact congrArg some (by omega)
theorem afn:ct P base T 2 t.xQ t.zZ u9 (MY t):=by
 refine cF (ND T) fun vu=>?_;exists T.Et.ok abn,9
 obtain ⟨k,bS,aX,aA,aU,qs,ms,aF,ai,cx,jE,asked,rfl,fP,j',nt,ah,q⟩:=h;refine ⟨_,(db (dI (fW.pt (rG (cU D5 (U 2) nX (cc _)) (ti (fW.pt (j0 (cU ep (hT (U 0) T.el T.BB vu ao T.xw .nil cI) (U 2) (cc _)) (kN (qB (lY (U 4))))))))) (a6 (cg ju)) d2)
   (db (dI (cU ep (hT (U 0) T.el T.BB vu ao T.xw .nil cI) (U 2) (cc _)) (a6 (cg (gH kn (U 3) (bV fv (bV c8 (U 1) (U 2)) aM) (cc _)))) d2)
   (a6 (cg (gH abl (U 3) (bV fv (bV c8 (U 1) (U 2)) aM) (cc _)))))),?_⟩
 cases cx with
 | none=>
  simp only [dE];refine dt true (fun gM aR=>?_) (fun _=>?_) (fun ay=>nomatch ay)
  .nofun;rw [if_pos (decide_eq_true (show eE none=V.b6 from rfl))];exact aR
  .nofun;exact q
 | some i=>
  have ag:=nt i rfl;have zC:=bo ag;obtain ⟨pk,bO,bG,dM,hZ⟩:=Cf j' zC;obtain ⟨cu,cS⟩:=ah i _ rfl zC;obtain ⟨d9,aq,b1,dH,fB⟩:=id fP;have J_:gi (qs.map V.ref) ((i:Nat):Int)=some (.ref pk):=Db (by rw [c5,bG];rfl);rw [show eE (some i)=V.int ((i:Nat):Int) from rfl];simp only [dE];refine dt (decide (ai.bc=some i) && !asked) (fun gM aR=>?_) (fun ay=>?_) (fun ay=>?_)
  .nofun;refine ⟨aq,_,b1,kb _ _ _ _ _ _ _ _ (by ac_nf),k,aX,aA,aU,ai,rfl,fP,?_⟩;refine ⟨by cases ai.bc <;> rfl,?_⟩;rw [O'];cases dr:decide (ai.bc=some i) with
   | true=>rw [dr] at aR;rw [if_pos rfl];simpa using aR
   | false=>rw [dr] at aR;rw [if_neg (by simp)];simpa using aR
  .nofun;exact q
  .nofun;refine dt (decide (ai.bc=some i)) (fun gM aR=>?_) (fun hd=>?_) (fun hd=>?_)
   .nofun;refine ⟨aq,_,b1,kb _ _ _ _ _ _ _ _ (by ac_nf),k,aX,aA,aU,ai,rfl,fP,?_⟩;refine ⟨by cases ai.bc <;> rfl,?_⟩;rw [O'];exact aR
   .nofun;have aS:asked=true:=by rw [hd] at ay;simpa using ay
    refine ⟨_,aC.of j'.at_,_,J_,_,rfl,_,di.of dM,_,Db (j:=1) rfl,_,rfl,?_⟩;rw [decide_eq_true (cu (of_decide_eq_true hd) aS)];exact q
   .nofun;refine ⟨_,aC.of j'.at_,_,J_,_,rfl,_,di.of dM,_,Db (j:=0) rfl,_,rfl,?_⟩;rw [decide_eq_true (cS (of_decide_eq_false hd))];exact q
theorem adM (xs:List V) (v:V):iU (xs ++ [v]) none (some (-1))=xs:=by
 unfold iU;have e:eV.c1 (xs ++ [v]).length (xs ++ [v]).length (some (-1))=xs.length:=by
  unfold eV.c1;simp
  try omega
 rw [e,eV.Hp];simp
noncomputable def gu (bs:List (Str × Addr × List Nat)):List (Key × V):=bs.map fun b=>(bY b.1,V.ref b.2.1)
structure kl (ds:List a8) (rows:List ST) (bz H:ar) (cK:Addr) (dQ:Nat) (s:eK) (bs:List (Str × Addr × List Nat)):Prop where
 at_:H cK=some (.bu (gu bs))
 ls:∀ b ∈ bs,H b.2.1=some (.lst (eL b.2.2))
 fr:∀ b ∈ bs,bz b.2.1=none
 aD:(bs.map (·.2.1)).Nodup
 nn:(bs.map (·.1)).Nodup
 mem:∀ x,x ∈ bs.map (·.1)↔x ∈ s.wt
 le:∀ b ∈ bs,b.2.2.length <= dQ/\∀ v ∈ b.2.2,v < rows.length
 vS:∀ b ∈ bs,∀ j,fu rows b.1=some j->hj ds rows s j b.2.2
theorem kl.heap {rows:List ST} {bs:List (Str × Addr × List Nat)} (B:kl ds rows bz H cK dQ s bs) (h:∀ b u,H b=some u->(b=cK\/∃ x ∈ bs,b=x.2.1)->I b=some u):kl ds rows bz I cK dQ s bs:=
 ⟨h _ _ B.at_ (.inl rfl),fun b aa=>h _ _ (B.ls b aa) (.inr ⟨b,aa,rfl⟩),B.fr,B.aD,B.nn,B.mem,B.le,B.vS⟩
theorem O2 (bs:List (Str × Addr × List Nat)) (x:Str):(cM (gu bs) (bY x)).isSome=decide (x ∈ bs.map (·.1)):=by
 rw [jC,decide_eq_true_eq]
 induction bs with
 | nil=>simp [gu,cM]
 | cons y ys b4=>
  by_cases c:y.1=x
  .simp [gu,cM,c]
  .have c':x ≠ y.1:=fun z=>c z.symm
   simp only [gu,cM,er,pn] at b4 ⊢;simp [c,c'] at b4 ⊢
   try exact b4
theorem Xj {bs:List (Str × Addr × List Nat)} {x:Str} (h:x ∉ bs.map (·.1)):d5 (gu bs) (bY x) (.ref l)=gu (bs ++ [(x,l,[])]):=by
 unfold d5;have zm:((gu bs).any fun c7=>decide (c7.1=bY x))=false:=by
  rw [IL];intro p ax z;obtain ⟨b,aa,rfl⟩:=bK.mp ax;have:=p' (of_decide_eq_true z);exact h (bK.mpr ⟨b,aa,this⟩)
 rw [if_neg (by rw [zm];exact fm)];unfold gu;rw [eZ];rfl
theorem kl.more {rows:List ST} {bs:List (Str × Addr × List Nat)} (B:kl ds rows bz H cK dQ s bs) (L:jy ds rows s) {x:Str} (ah:x ∉ bs.map (·.1)) (aL:H l=none) (aa9:bz l=none) (au:I cK=some (.bu (gu (bs ++ [(x,l,[])])))) (aH:I l=some (.lst [])) (bX:∀ b u,b ≠ cK->H b=some u->I b=some u) (av:ai = { s with wt:=s.wt ++ [x] }):kl ds rows bz I cK dQ ai (bs ++ [(x,l,[])]):=by
 subst av;have t2:∀ b ∈ bs,b.2.1 ≠ l:=fun b aa z=>by have:=B.ls b aa;rw [z,aL] at this;cases this
 refine ⟨au,fun b aa=>?_,fun b aa=>?_,?_,?_,fun y=>?_,fun b aa=>?_,fun b aa j aJ=>?_⟩
 .rcases eG.mp aa with aa | aa
  .exact bX _ _ (bZ (B.ls b aa) B.at_ (by intro z;cases z)) (B.ls b aa)
  .rw [d8.mp aa];exact aH
 .rcases eG.mp aa with aa | aa
  .exact B.fr b aa
  .rw [d8.mp aa];exact aa9
 .rw [eZ,wV];refine ⟨B.aD,by simp,fun a aS b aa e=>?_⟩;obtain ⟨z,aT,rfl⟩:=bK.mp aS;have aa:b=l:=by simpa using aa
  exact t2 z aT (e.trans aa)
 .rw [eZ,wV];refine ⟨B.nn,by simp,fun a aS b aa e=>?_⟩;have aa:b=x:=by simpa using aa
  exact ah (aa ▸ e ▸ aS)
 .rw [eZ,eG,B.mem y];simp
 .rcases eG.mp aa with aa | aa
  .exact B.le b aa
  .rw [d8.mp aa];exact ⟨fi _,fun v h=>by cases h⟩
 .rcases eG.mp aa with aa | aa
  .exact (B.vS b aa j aJ).keep rfl rfl rfl rfl
  .rw [d8.mp aa];exact (hj.new L j).keep rfl rfl rfl rfl
theorem kl.to {rows:List ST} {bs:List (Str × Addr × List Nat)} (B:kl ds rows bz H cK dQ s bs) (af:ai.wt=s.wt) (ak:∀ b ∈ bs,∀ j,fu rows b.1=some j->hj ds rows ai j b.2.2):kl ds rows bz H cK (dQ + 1) ai bs:=
 ⟨B.at_,B.ls,B.fr,B.aD,B.nn,fun x=>by rw [af];exact B.mem x,fun b aa=>⟨Nat.le_succ_of_le (B.le b aa).1,(B.le b aa).2⟩,ak⟩
theorem Uj {rows:List ST} (R:mv ds rows) (k:h8 ds rows s) (h:nM n ds rows s own ai) (av:s.bc=some g) (aQ:ai.bc=some g):ai = { s with cL:=s.cL + 1 }:=by
 have cq:=k.told R;rcases h with ⟨h0,_⟩ | ⟨fF,ei,eP,dD,d0,rfl⟩ | ⟨fF,ei,g',fZ,eP,dD,d0,P,jk,rfl⟩
 .rw [av] at h0;cases h0
 .rfl
 .exfalso;rw [av] at eP;cases eP;have lB:g' ≠ g:=fun e=>by
   obtain ⟨x,ah,dr⟩:=va cq P.1;exact (k.bc g av).2 x ah (e ▸ dr)
  unfold gz at aQ;split at aQ
  .cases aQ
  .exact lB (d1 aQ)
theorem acG {rows:List ST} (h:nM n ds rows s own ai) (aQ:ai.bc=none):ai.wt=s.wt:=by
 rcases h with ⟨h0,r,ao,rfl⟩ | ⟨fF,ei,eP,dD,d0,rfl⟩ | ⟨fF,ei,g',fZ,eP,dD,d0,P,jk,rfl⟩
 .unfold gz at aQ ⊢;split
  .rfl
  .rename_i c;rw [if_neg c] at aQ;cases aQ
 .rfl
 .unfold gz at aQ ⊢;split
  .rfl
  .rename_i c;rw [if_neg c] at aQ;cases aQ
theorem EB {rows:List ST} {x:Str} (ah:x ∈ s.wt) (h:fu rows x=some j):j ∈ jh rows s:=bK.mpr ⟨x,ah,by unfold qG;rw [h];rfl⟩
theorem Yr {bs:List (Str × Addr × List Nat)} (nn:(bs.map (·.1)).Nodup) {x:Str} (h:(x,l,B) ∈ bs):cM (gu bs) (bY x)=some (V.ref l):=by
 induction bs with
 | nil=>cases h
 | cons y ys b4=>
  rw [er,o2] at nn;by_cases c:y.1=x
  .have:y=(x,l,B):=by
    rcases eJ.mp h with e | e
    .exact e.symm
    .exact absurd (bK.mpr ⟨_,e,c.symm⟩) nn.1
   subst this;simp [gu,cM]
  .have hm:(x,l,B) ∈ ys:=by
    rcases eJ.mp h with e | e
    .exact absurd (by rw [<- e]) c
    .exact e
   have:=b4 nn.2 hm;simp only [gu,cM,er,pn] at this ⊢;simp [c] at this ⊢;exact this
theorem SL (bs:List (Str × Addr × List Nat)) (x:Str):k7 (gu bs) (bY x)=gu (bs.filter fun b=>!decide (b.1=x)):=by
 induction bs with
 | nil=>rfl
 | cons y ys b4=>
  by_cases c:y.1=x
  .simp [gu,k7,c] at b4 ⊢
   try exact b4
  .simp [gu,k7,c] at b4 ⊢
   try exact b4
theorem vi:∀ {bs:List α},(bs.map f).Nodup->∀ {a b:α},a ∈ bs->b ∈ bs->f a=f b->a=b
 | [],_,a,b,aS,_,_=>by cases aS
 | y :: ys,aD,a,b,aS,aa,e=>by
  rw [er,o2] at aD;rcases eJ.mp aS with aS | aS <;> rcases eJ.mp aa with aa | aa
  .rw [aS,aa]
  .exact absurd (bK.mpr ⟨b,aa,by rw [<- e,aS]⟩) aD.1
  .exact absurd (bK.mpr ⟨a,aS,by rw [e,aa]⟩) aD.1
  .exact vi aD.2 aS aa e
structure jo (ds:List a8) (rows:List ST) (bz bF H:ar) (cK:Addr) (dQ:Nat) (s ai:eK) (g:Nat) (kx:List Str) (bs:List (Str × Addr × List Nat)):Prop where
 at_:H cK=some (.bu (gu bs))
 ls:∀ b ∈ bs,H b.2.1=some (.lst (eL b.2.2))
 fr:∀ b ∈ bs,bz b.2.1=none
 aD:(bs.map (·.2.1)).Nodup
 nn:(bs.map (·.1)).Nodup
 mem:∀ x,x ∈ bs.map (·.1)↔x ∈ s.wt/\¬(x ∈ kx/\fu rows x=some g)
 lt:∀ b ∈ bs,∀ v ∈ b.2.2,v < rows.length
 old:∀ b ∈ bs,b.1 ∉ kx->b.2.2.length <= dQ/\∀ j,fu rows b.1=some j->hj ds rows s j b.2.2
 new:∀ b ∈ bs,b.1 ∈ kx->b.2.2.length <= dQ + 1/\∀ j,fu rows b.1=some j->hj ds rows ai j b.2.2
 keep:∀ b u,bF b=some u->b ≠ cK->(∀ xs,u ≠ .lst xs)->H b=some u
 same:aO bz H
section
variable {ds:List a8} {rows:List ST} {bz bF H I:ar} {cK:Addr} {dQ:Nat} {s ai:eK} {g:Nat} {kx:List Str} {bs:List (Str × Addr × List Nat)}
theorem jo.of (B:kl ds rows bz H cK dQ s bs) (s0:aO bz H):jo ds rows bz H H cK dQ s ai g [] bs:=
 ⟨B.at_,B.ls,B.fr,B.aD,B.nn,fun x=>by rw [B.mem];simp,fun b aa=>(B.le b aa).2,fun b aa _=>⟨(B.le b aa).1,B.vS b aa⟩,(fun b aa h=>by cases h),fun b u e _ _=>e,s0⟩
theorem jo.skip (B:jo ds rows bz bF H cK dQ s ai g kx bs) {x:Str} (ah:x ∉ bs.map (·.1)):jo ds rows bz bF H cK dQ s ai g (kx ++ [x]) bs:=by
 have aa:∀ b ∈ bs,b.1 ≠ x:=fun b aa e=>ah (bK.mpr ⟨b,aa,e⟩)
 refine ⟨B.at_,B.ls,B.fr,B.aD,B.nn,fun y=>?_,B.lt,fun b af ak=>B.old b af fun z=>ak (rz _ z),fun b af ak=>B.new b af ?_,B.keep,B.same⟩
 .by_cases c:y=x
  .subst c;refine ⟨fun z=>absurd z ah,fun z=>?_⟩;refine (B.mem y).mpr ⟨z.1,fun u=>z.2 ⟨rz _ u.1,u.2⟩⟩
  .rw [B.mem y,eG,d8];simp [c]
 .rcases eG.mp ak with z | z
  .exact z
  .exact absurd (d8.mp z) (aa b af)
theorem jo.grow (B:jo ds rows bz bF H cK dQ s ai g kx bs) {x:Str} (aa:(x,l,xs) ∈ bs) (bW:x ∉ kx) (aQ:fu rows x ≠ some g) (kv:g < rows.length) (oz:∀ j,fu rows x=some j->hj ds rows s j xs->hj ds rows ai j (xs ++ [g])) (au:I l=some (.lst (eL (xs ++ [g])))) (aH:∀ b u,b ≠ l->H b=some u->I b=some u) :
  ∃ kW,jo ds rows bz bF I cK dQ s ai g (kx ++ [x]) kW:=by
 have aL:=B.ls _ aa;have wI:cK ≠ l:=fun z=>by rw [<- z,B.at_] at aL;cases aL
 have key:∀ b ∈ bs,b.1 ≠ x->b.2.1 ≠ l:=fun b af ak z=>ak (by rw [vi B.aD af aa z])
 refine ⟨bs.map fun b=>if b.1=x then (x,l,xs ++ [g]) else b,?_⟩;have hm:∀ ip ∈ (bs.map fun b=>if b.1=x then (x,l,xs ++ [g]) else b),ip=(x,l,xs ++ [g])\/(ip ∈ bs/\ip.1 ≠ x):=fun ip h=>by
  obtain ⟨b,af,rfl⟩:=bK.mp h;by_cases c:b.1=x
  .rw [if_pos c];exact .inl rfl
  .rw [if_neg c];exact .inr ⟨af,c⟩
 have hR:(bs.map fun b=>if b.1=x then (x,l,xs ++ [g]) else b).map (·.1)=bs.map (·.1):=by
  rw [m6];refine zS fun b af=>?_
  show (if b.1=x then (x,l,xs ++ [g]) else b).1=b.1;split
  .rename_i c;exact c.symm
  .rfl
 have iy:(bs.map fun b=>if b.1=x then (x,l,xs ++ [g]) else b).map (·.2.1)=bs.map (·.2.1):=by
  rw [m6];refine zS fun b af=>?_
  show (if b.1=x then (x,l,xs ++ [g]) else b).2.1=b.2.1;split
  .rename_i c;rw [vi B.nn af aa c]
  .rfl
 have qc:gu (bs.map fun b=>if b.1=x then (x,l,xs ++ [g]) else b)=gu bs:=by
  unfold gu;rw [m6];refine zS fun b af=>?_
  show ((bY (if b.1=x then (x,l,xs ++ [g]) else b).1:Key),V.ref (if b.1=x then (x,l,xs ++ [g]) else b).2.1)=_;split
  .rename_i c;rw [vi B.nn af aa c]
  .rfl
 refine ⟨by rw [qc];exact aH _ _ wI B.at_,fun b h=>?_,fun b h=>?_,by rw [iy];exact B.aD,by rw [hR];exact B.nn,fun y=>?_,fun b h=>?_,fun b h ak=>?_,fun b h ak=>?_,fun b u e af ak=>aH _ _ (fun z=>?_) (B.keep b u e af ak),fun b u e=>aH _ _ (fun z=>?_) (B.same _ _ e)⟩
 .rcases hm b h with rfl | ⟨af,ak⟩
  .exact au
  .exact aH _ _ (key b af ak) (B.ls b af)
 .rcases hm b h with rfl | ⟨af,ak⟩
  .exact B.fr (x,l,xs) aa
  .exact B.fr b af
 .rw [hR,B.mem y,eG,d8];by_cases c:y=x
  .subst c;simp [aQ]
  .simp [c]
 .rcases hm b h with rfl | ⟨af,ak⟩
  .intro v aI;rcases eG.mp aI with z | z
   .exact B.lt (x,l,xs) aa v z
   .rw [d8.mp z];exact kv
  .exact B.lt b af
 .rcases hm b h with rfl | ⟨af,a9⟩
  .exact absurd (jP _ (d8.mpr rfl)) ak
  .exact B.old b af fun z=>ak (rz _ z)
 .rcases hm b h with rfl | ⟨af,a9⟩
  .obtain ⟨a1,a2⟩:=B.old (x,l,xs) aa bW;refine ⟨?_,fun j aJ=>oz j aJ (a2 j aJ)⟩;show (xs ++ [g]).length <= dQ + 1;rw [dY];exact Wf a1
  .refine B.new b af ?_;rcases eG.mp ak with z | z
   .exact z
   .exact absurd (d8.mp z) a9
 .have:=B.keep b u e af ak;rw [z,aL] at this;exact ak _ (d1 this).symm
 .have:=B.fr _ aa;rw [z,this] at e;cases e
theorem jo.gone (B:jo ds rows bz bF H cK dQ s ai g kx bs) (abU:bz cK=none) {x:Str} (aa:(x,l,xs) ∈ bs) (aQ:fu rows x=some g) (au:I cK=some (.bu (gu (bs.filter fun b=>!decide (b.1=x))))) (aH:∀ b u,b ≠ l->b ≠ cK->H b=some u->I b=some u) :
  jo ds rows bz bF I cK dQ s ai g (kx ++ [x]) (bs.filter fun b=>!decide (b.1=x)):=by
 have aL:=B.ls _ aa;have key:∀ b ∈ bs,b.1 ≠ x->b.2.1 ≠ l:=fun b af ak z=>ak (by rw [vi B.aD af aa z])
 have hm:∀ b ∈ (bs.filter fun b=>!decide (b.1=x)),b ∈ bs/\b.1 ≠ x:=fun b h=>by
  obtain ⟨af,ak⟩:=iY.mp h;exact ⟨af,by simpa using ak⟩
 refine ⟨au,fun b h=>?_,fun b h=>B.fr b (hm b h).1,B.aD.sublist (aeN.map _),B.nn.sublist (aeN.map _),fun y=>?_,fun b h=>B.lt b (hm b h).1,fun b h ak=>B.old b (hm b h).1 fun z=>ak (rz _ z),fun b h ak=>B.new b (hm b h).1 ?_,fun b u e af ak=>aH _ _ (fun z=>?_) af (B.keep b u e af ak),fun b u e=>aH _ _ (fun z=>?_) (fun z=>?_) (B.same _ _ e)⟩
 .obtain ⟨af,ak⟩:=hm b h;exact aH _ _ (key b af ak) (bZ (B.ls b af) B.at_ (by intro z;cases z)) (B.ls b af)
 .by_cases c:y=x
  .subst c;refine ⟨fun z=>?_,fun z=>absurd ⟨jP _ (d8.mpr rfl),aQ⟩ z.2⟩;obtain ⟨b,af,ak⟩:=bK.mp z;exact absurd ak (hm b af).2
  .have e:y ∈ (bs.filter fun b=>!decide (b.1=x)).map (·.1)↔y ∈ bs.map (·.1):=by
    constructor
    .intro z;obtain ⟨b,af,ak⟩:=bK.mp z;exact bK.mpr ⟨b,(hm b af).1,ak⟩
    .intro z;obtain ⟨b,af,ak⟩:=bK.mp z;exact bK.mpr ⟨b,iY.mpr ⟨af,by simp [ak,c]⟩,ak⟩
   rw [e,B.mem y,eG,d8];simp [c]
 .rcases eG.mp ak with z | z
  .exact z
  .exact absurd (d8.mp z) (hm b h).2
 .have:=B.keep b u e af ak;rw [z,aL] at this;exact ak _ (d1 this).symm
 .have:=B.fr _ aa;rw [z,this] at e;cases e
 .rw [z,abU] at e;cases e
theorem jo.fin (B:jo ds rows bz bF H cK dQ s ai g kx bs) (aS:∀ x ∈ s.wt,x ∈ kx) (hw:∀ x,x ∈ ai.wt↔x ∈ s.wt/\fu rows x ≠ some g):kl ds rows bz H cK (dQ + 1) ai bs:=by
 have hd:∀ b ∈ bs,b.1 ∈ kx:=fun b aa=>aS _ ((B.mem _).mp (bK.mpr ⟨b,aa,rfl⟩)).1
 refine ⟨B.at_,B.ls,B.fr,B.aD,B.nn,fun x=>?_,fun b aa=>⟨(B.new b aa (hd b aa)).1,B.lt b aa⟩,fun b aa=>(B.new b aa (hd b aa)).2⟩;rw [B.mem,hw];exact ⟨fun z=>⟨z.1,fun u=>z.2 ⟨aS x z.1,u⟩⟩,fun z=>⟨z.1,fun u=>z.2 u.2⟩⟩
end
theorem abG {rows:List ST} (k:h8 ds rows s) (h:nM n ds rows s own ai) (av:s.bc ≠ some g) (aQ:ai.bc=some g) (hm:∀ r,rows[g]? = some r->∀ x ∈ ds.map (·.name),(x ∈ r.mem↔fu rows x=some g)):∀ x,x ∈ ai.wt↔x ∈ s.wt/\fu rows x ≠ some g:=by
 have fin:∀ (u:eK) (r:ST),u.bc=none->u.wt=s.wt->rows[u.bh]? = some r->(gz n ds rows u r.mem).bc=some g->∀ x,x ∈ (gz n ds rows u r.mem).wt↔x ∈ s.wt/\fu rows x ≠ some g:=fun u r h0 hw ao aQ x=>by
  unfold gz at aQ ⊢;split
  .rename_i c;rw [if_pos c,h0] at aQ;cases aQ
  .rename_i c;rw [if_neg c] at aQ;have e:u.bh=g:=d1 aQ;show x ∈ u.wt.filter _↔_;rw [iY,hw];refine and_congr_right fun ah=>?_
   have:=hm r (e ▸ ao) x (k.aA x ah);rw [Bool.not_eq_true',decide_eq_false_iff_not];exact not_congr this
 rcases h with ⟨h0,r,ao,rfl⟩ | ⟨fF,ei,eP,dD,d0,rfl⟩ | ⟨fF,ei,g',fZ,eP,dD,d0,P,jk,rfl⟩
 .exact fin _ _ h0 rfl ao aQ
 .exact absurd aQ av
 .exact fin (mx s fF g' (cV ds fZ)) fZ rfl rfl jk aQ
noncomputable def k3 (ds:List a8) (aF:List eO) (j i:Nat):List Str:=(((aF.take j).map (·.dU)).flatten ++ (kJ aF j).take i).map (gB ds)
section
variable {n:Int} {ds:List a8} {aF:List eO}
theorem dA.Wi (X:dA n ds aF) (ao:(cz ds aF)[g]? = some r) {x:Str} (ah:x ∈ ds.map (·.name)):x ∈ r.mem↔fu (cz ds aF) x=some g:=by
 obtain ⟨d,hd,rfl⟩:=bK.mp ah;obtain ⟨k,az⟩:=hH hd;unfold cz at ao;rw [c5] at ao;obtain ⟨y,bg,rfl⟩:=vr.mp ao;rw [X.JV az,ny bg];exact Kj X.aD (fun i ag=>X.lt (cC bg) ag) az
theorem Vi {j i k:Nat} (az:(kJ aF j)[i]? = some k) (hd:ds[k]? = some d):k3 ds aF j (i + 1)=k3 ds aF j i ++ [d.name]:=by
 unfold k3;rw [jt az,<- oV,eZ (l₂:=[k])];congr 1;unfold gB;simp [hd]
theorem aci {x:eO} (ah:aF[j]? = some x):k3 ds aF j x.dU.length=k3 ds aF (j + 1) 0:=by
 unfold k3;rw [jt ah,ny ah,hB,oJ,su];simp
theorem dA.fresh (X:dA n ds aF) {j i k:Nat} {x:eO} (ah:aF[j]? = some x) (az:x.dU[i]? = some k) (hd:ds[k]? = some d):d.name ∉ k3 ds aF j i:=fun h=>by
 unfold k3 at h;obtain ⟨ky,af,ak⟩:=bK.mp h;have uK:=cC az;have Lx:∀ {y:eO},y ∈ aF->∀ {ky:Nat},ky ∈ y.dU->gB ds ky=d.name->ky=k:=fun {y} bg {ky} e1 e=>by
  rw [<- kA hd] at e;exact As X.aD (X.lt bg e1) (b'.mp hd).1 e
 rcases eG.mp af with z | z
 .obtain ⟨ys,abN,e1⟩:=HM.mp z;obtain ⟨y,bg,rfl⟩:=bK.mp abN;have ahu:=qu bg;have e:=Lx ahu e1 ak;subst e;obtain ⟨a,aS⟩:=hH bg;have ad5:a < j:=by
   have:=(b'.mp aS).1;rw [gD] at this;omega
  rw [o4 ad5] at aS;have:=X.uniq (k:=ky) (by rw [ny aS];exact e1) (by rw [ny ah];exact uK);omega
 .rw [ny ah] at z;have e:=Lx (cC ah) (qu z) ak;subst e;have a4:x.dU.Nodup:=(List.pairwise_flatten.mp X.d3).1 _ (bK.mpr ⟨x,cC ah,rfl⟩);obtain ⟨a,aS⟩:=hH z;have T5:a < i:=by
   have:=(b'.mp aS).1;rw [gD] at this;omega
  rw [o4 T5] at aS;obtain ⟨ef,eH⟩:=b'.mp aS;obtain ⟨bG,dM⟩:=b'.mp az;have:=(x2 (h₀:=ef) (h₁:=bG) a4).mp (eH.trans dM.symm);omega
theorem dA.all (X:dA n ds aF) {x:Str} (ah:x ∈ ds.map (·.name)):x ∈ k3 ds aF aF.length 0:=by
 obtain ⟨d,hd,rfl⟩:=bK.mp ah;obtain ⟨k,az⟩:=hH hd;unfold k3;rw [hB,oJ,su];refine bK.mpr ⟨k,X.j1.bh.pm.mem_iff.mpr (qg.mpr (b'.mp az).1),?_⟩;unfold gB;rw [az];rfl
end
def PM (K:ba) (Pt:Addr):bU:=fun vs H Q _=>∃ a ns,vs=[.ref a]/\Sc K a ns H/\ns.length <= 63/\kS Pt H/\∀ I,Q (.bk true) I
theorem X3 {Pt:Addr} (de:pE base t.rE Pt) (h1:base.BuiltinsAt mg Pt):ct P base T 12 t.JI t.BF ["_law_script"] (PM K Pt):=by
 exists T.W6.ok iD,9
 obtain ⟨a,ns,rfl,zj,hl,Yi,q⟩:=h;have bx:=iF ao;have alh:=aab ao;have ac0:cH P w K mg base dC 11 t.zG t.xY y3 (RV K a ns):=(ahx T a ns hl).mono (by decide);have aaw:cH P w K mg base dC 11 t.yc t.BK z7 (Ol K):=(S9 T).mono (by decide);have Y9:cH P w K mg base dC 11 t.xo t.xB ["text"] (Qq t):=(Yz T).mono (by decide);have aaC:cH P w K mg base dC 11 t.Ah t.zJ BI (OS K):=(ac8 T).mono (by decide);have ahv:cH P w K mg base dC 11 t.z9 t.BS zO Lv:=(VA T).mono (by decide);have X5:cH P w K mg base dC 11 t.Uf t.ug vT (O9 P w t):=(Tu T).mono (by decide);have ag':cH P w K mg base dC 10 t.wL t.zM vD (P4 P w t):=(adE T).mono (by decide);have vu:cH P w K mg base dC 11 t.vZ t.A7 ["self"] (OB t):=(ND T).mono (by decide);have aho:cH P w K mg base dC 11 t.v8 t.A1 yX (Lm P w K t Pt):=(aa4 T de h1).mono (by decide);have YU:cH P w K mg base dC 11 t.Fk t.z5 Bg (NG K a ns):=(afR T a ns hl).mono (by decide);have afx:cH P w K mg base dC 11 t.xX t.Bm Bo (KY K):=(agi T).mono (by decide);have ahl:cH P w K mg base dC 11 t.xQ t.zZ u9 (MY t):=(afn T).mono (by decide);refine ⟨_,(db (Zz (cm ac0 ao T.Zn T.D9.bN T.X9 (aj (U 0) (aj aM aG))) (l_ (K:=K) (n:=2) rfl rfl (fq (cA (i:=1) iD.aD) (fq (HF (i:=2) iD.aD rfl (mG rfl) (.inl rfl)) Ch))))
   (db (b7 (i:=3) iD.aD (cm aaC ao T.aid T.CV.bN T.aeU (aj (U 0) (aj (U 1) (aj (U 2) aG)))))
   (db (xn (i:=4) iD.aD rfl (pq rfl) rfl (eT (U 3)) (gA (sc:=bt En) rfl (by ac_nf)) (N:=["_law_one","_law_ways_here"]) (sel:=[none,some 2]) (gC (M:=["_law_script","_law_places","_law_ways_here","_law_stages_here","_law_trams","_law_keeper","_law_begun","_law_lasted","_law_turn","_law_here","_law_asks_here","_law_row","_law_name","_law_now","_law_j","_law_i"]) (by ac_nf)) (fx.of (fun _ _ _ _=>(cA (i:=0) (eu (N:=["_law_one","_law_ways_here"]) (by ac_nf) rfl))) (fun _ _ _ _=>⟨_,h4,by walk_at "B"⟩) (fun _ _ _ _=>⟨_,(gH ep (bV fv (bV c8 (U 1) (bV c8 (bV fv (U 0) aM) aM)) aM) dh (cc _)),by walk_at "B"⟩)) rfl)
   (db (b7 (i:=5) iD.aD (rS T.Tx ag' ao rfl T.Yb T.VH .nil cI (aj (cm X5 ao T.XE T.F_.bN T.Wl (aj (cm Y9 ao T.aaP T.CC.bN T.aie (aj (cm aaw ao T.We T.io.bN T.air (aj (U 1) (aj (U 2) aG))) aG)) (aj (cm ahv ao T.Xa T.Fq.bN T.aiC (aj (U 2) (aj (U 3) aG))) aG))) aG)))
   (db (b7 (i:=6) iD.aD vF)
   (db (b7 (i:=7) iD.aD aM)
   (db (fz fH rfl (lU rfl T.l1 (aj aM aG)) (cA (i:=8) iD.aD) (db (b7 (i:=9) iD.aD (hT (U 5) T.el T.BB vu ao T.xw .nil cI))
   (db (b7 (i:=10) iD.aD (cm YU ao T.afa T.G8.bN T.Xi (aj (U 0) (aj (U 8) (aj (U 2) aG)))))
   (db (b7 (i:=11) iD.aD (e4 (U 5) T.el T.Wp aho ao T.acz .nil cI (aj (U 10) aG)))
   (db (fz fH rfl (eT (U 10)) (cA (i:=12) iD.aD) (a6 (dI (fW.pt (j0 (cU o6 (n6 bx (U 11) (U 12) (fun _ _=>rfl)) dh (cc _)) (kN (A8 (B3 bx (U 12) (U 6)))))) (a6 (r9 bx (U 6) (U 12) (gK aG) rfl)) d2)))
   (db (dI (qB (lY (cm ahl ao T.agx T.Et.bN T.ag0 (aj (U 5) (aj (U 3) (aj (U 9) (aj (U 7) (aj (gH n5 (fJ NE rfl T.g5 g4 (aj (U 6) aG)) aM (cc _)) aG)))))))) (a6 (cg ju)) d2)
   (db (b7 (i:=13) iD.aD (hT (U 5) T.el T.BB vu ao T.xw .nil cI))
   (db (dI (fW.pt (j0 (cU DF (U 13) nX (cc _)) (kN (cU ep (U 13) (U 9) (cc _))))) (db (b7 (i:=7) iD.aD (bD d7 (U 7) aM))
   (a6 Jm)) d2)
   (db (b7 (i:=7) iD.aD aM)
   (db (dI (cU D5 (U 13) nX (cc _)) (a6 Jm) d2)
   (a6 (fz fH rfl (lU rfl T.l1 (aj (fJ hD rfl T.g5 g4 (aj (U 3) aG)) aG)) (cA (i:=14) iD.aD) (a6 (fz fH rfl (eT (bV fv (bV c8 (U 3) (U 14)) aM)) (cA (i:=15) iD.aD) (db (b7 (i:=12) iD.aD (bV fv (bV c8 (U 2) (U 15)) aM))
   (db (dI (A8 (B3 bx (U 12) (U 6))) (a6 Jm) d2)
   (db (eo (gq iW lh mi lD (n6 bx (U 6) (U 12) (fun _ _=>rfl)) (aj (U 13) aG)))
   (a6 (dI (fW.pt (j0 (cU ep (U 14) (U 13) (cc _)) (kN (qB (lY (cm afx ao T.S2 T.CF.bN T.Ts (aj (U 4) (aj (U 14) (aj (oB zU (agQ (U 6) (U 12) ⟨rfl,rfl,rfl,rfl⟩) oy (ou (Js HQ aM))) aG))))))))) (a6 (cg ju)) d2)))))))))))))))))))
   (a6 (cg ju))))))))),?_⟩
 refine dc (fun aB I=>aO H I/\Sc K a ns I/\∃ wl n ds,iE I wl ds/\rC n ds/\(∀ d ∈ ds,d.least <= 4)/\(4 <= n/\n <= 99)/\(1 <= ds.length/\ds.length <= 6)/\aB=[~~~a,some (.int n),~~~wl,none,none,none,none,none,none,none,none,none,none,none,none,none]) (fun b2 bW=>?_) fun cY aK=>?_
 .nofun;exact ⟨5,rfl,by decide,zj,fun i' wl n ds I s1 mH au L D hle a4 aL=>⟨i',rfl,_,di.of au,rfl,_,_,rfl,_,_,rfl,rfl,bW _ _ ⟨s1,mH,wl,n,ds,L,D,hle,a4,by omega,rfl⟩⟩⟩
 rintro f_ H1 ⟨s1,mH,wl,n,ds,L,D,hle,a4,gn,rfl⟩;have Yt:∀ {aF:List eO},yF n ds aF->dA n ds aF:=fun h=>⟨D.aD,h,gn.2,gn.1,fun d hd=>(D.al d hd).1⟩
 subst aK;refine dc (fun aB I=>aO H1 I/\Sc K a ns I/\∃ ef bG hR bH,k6 I ef bG hR bH/\dA n ds bH/\aB=[~~~a,some (.int n),~~~wl,~~~ef,none,none,none,none,none,none,none,none,none,none,none,none]) (fun b2 bW=>?_) fun cY aK=>?_
 .nofun;exact ⟨a,ns,n,wl,ds,rfl,hl,mH.seq,mH.bM,L,D,hle,by omega,fun ef bG hR bH I s3 dw ot acD=>bW _ _ ⟨s3,mH.same s3 dw,ef,bG,hR,bH,ot,Yt acD,rfl⟩⟩
 rintro cv aw ⟨s2,qL,ef,bG,hR,bH,ot,X,rfl⟩;have L2:=L.same s2;have R:=X.TM;have cj:0 < bH.length:=Rk.mpr X.ne;have zC:=bo cj;subst aK;refine dc (fun aB I=>aO aw I/\Sc K a ns I/\∃ cB,aw cB=none/\I cB=some (.lst (qe ds bH))/\aB=[~~~a,some (.int n),~~~wl,~~~ef,~~~cB,none,none,none,none,none,none,none,none,none,none,none]) (fun b2 bW=>?_) fun cY aK=>?_
 .nofun;obtain ⟨nB,so,Ee,vc⟩:=L2;refine ⟨⟨_,aC.of ot.at_⟩,?_⟩;refine c9.ly (xs:=bG.map V.ref) (zs:=qe ds bH) (aC.of ot.at_) (by rw [aZ,ot.cE];exact c_ (show bH.length <= 6 by have:=X.yw;have:=X.len;omega) (by decide)) (by unfold qe;rw [aZ,aZ,rP,ot.cE]) (fun j v z N aI aT br=>?_) (fun p ax=>?_)
  .obtain ⟨e9,ox,rfl⟩:=cy aI;have aJ:j < bH.length:=by
    have:=(b'.mp ox).1;rw [ot.cE] at this;exact this
   have aT:z=V.bk (jc ds bH j):=by
    unfold qe at aT;rw [c5,LV aJ] at aT;exact (d1 aT).symm
   obtain ⟨pk,bO,au,aH,bX⟩:=Cf ot (bo aJ);rw [au] at ox;cases ox;obtain ⟨lP,r,az⟩:=qM (X.six aJ).1;have lC:=X.lt (iM aJ) (show lP ∈ bH[j].dU by rw [az];exact .head _);have k9:=bo lC;have rm:=bo (show lP < nB.length by omega);have cq:=Zx k9 (X.ok _ (iM lC)).k;have hQ:jc ds bH j=w_ ds lP:=by unfold jc;rw [ny (bo aJ),az];rfl
   nofun;refine ⟨Sub.name,_,di.of aH,_,Db (j:=2) rfl,_,rfl,_,aC.of bX,_,Db (j:=0) (by rw [az];rfl),_,_,rfl,aC.of so,_,Db (by rw [c5,rm];rfl),_,rfl,_,di.of (vc lP _ _ rm k9),_,Db (j:=0) rfl,rfl,?_⟩;rw [cq,<- hQ,<- aT];exact br
  .exact bW _ _ ⟨bE ax,qL.new ax,p,ax,aV,rfl⟩
 rintro ak_ acW ⟨st,St,cB,jD,afs,rfl⟩;have Lt:=(L.same s2).same st;have Rl:=ot.same st;subst aK;refine dc (fun aB I=>∃ dX jF c k aA aU,aO acW dX/\hs P w t dX jF c n ds (cz ds bH)/\dX k=none/\dX aA=none/\dX aU=none/\aO dX I/\Sc K a ns I/\ee t I k jF aA aU (C' ds (lX ds bH[0]))/\aB=[~~~a,some (.int n),~~~wl,~~~ef,~~~cB,~~~k,none,none,none,none,none,none,none,none,none,none]) (fun b2 bW=>?_) fun cY aK=>?_
 .nofun;refine ⟨n,wl,ds,rfl,Lt,D,by omega,by omega,St.bM,n,ds,rfl,D.NA (by omega) (by omega),St.bM,fun c I s3 dw tg=>⟨wl,ds,ef,bG,hR,bH,rfl,Lt.same s3,Rl.same s3,X.jO,dw,c,n,ds,bH,rfl,tg,a4,X,dw,fun jF dJ s5 iH tP k aq az wh aac=>?_⟩⟩;have bO:aO dJ (upd (upd dJ aq (.own k)) k (.ins t.c6 aq [])):=(bE wh).trans (bE (by rw [aE (dW aac)];exact az));exact ⟨k,aq,jF,c,n,ds,_,_,rfl,aV,tP.same bO,HC zC,R.cx _ (bK.mpr ⟨_,iM cj,rfl⟩),iH.upd.upd,fun aA aU iQ ey m5 ni l5 Vl=>⟨rfl,bW _ _ ⟨dJ,jF,c,k,aA,aU,s3.trans s5,tP,az,bO.free ni,bO.free l5,fun b u e=>ey _ _ (dy e az) (bO _ _ e),St.same (fun b u e=>ey _ _ (dy ((s3.trans s5) _ _ e) az) (bO _ _ ((s3.trans s5) _ _ e))) m5,Vl,rfl⟩⟩⟩
 rintro gc bf ⟨dX,jF,c,k,aA,aU,lq,ej,iR,gs,g_,s3,oA,q',rfl⟩;subst aK;refine dc (fun aB I=>aO bf I/\Sc K a ns I/\∃ cK,bf cK=none/\I cK=some (.bu [])/\aB=[~~~a,some (.int n),~~~wl,~~~ef,~~~cB,~~~k,~~~cK,none,none,none,none,none,none,none,none,none]) (fun b2 bW=>?_) fun cY aK=>?_
 .nofun;exact fun cK pw=>bW _ _ ⟨bE pw,oA.new pw,cK,pw,aV,rfl⟩
 rintro k8 cN ⟨s4,ja,cK,pw,rk,rfl⟩;subst aK;refine dc (fun aB I=>I=cN/\aB=[~~~a,some (.int n),~~~wl,~~~ef,~~~cB,~~~k,~~~cK,some (.int 1),none,none,none,none,none,none,none,none]) (fun b2 bW=>?_) fun cY aK=>?_
 .nofun;exact bW _ _ ⟨rfl,rfl⟩
 rintro qN dJ ⟨rfl,rfl⟩;subst aK;simp only [dE];refine ra (fun aB I=>True) (fun b2 bW md _ _=>?_) ?_
 .nofun;have hlen:(cz ds bH).length=bH.length:=by unfold cz;rw [aZ]
  have Mj:kS Pt dX:=Yi.step (((s1.trans s2).trans st).trans lq);have Py:aO (fX dX) bf:=(Ng dX).trans s3;have af_:aO (fX dX) dJ:=Py.trans s4;have Nc:fX dX k=none:=FF iR;have RS:fX dX aA=none:=FF gs;have Qa:fX dX aU=none:=FF g_;have L_:fX dX Pt=none:=VQ Mj;have AH:fX dX cK=none:=Py.free pw;have ad0:=ej.o5 (wK dX);have QY:=(Lt.same lq).o5 (wK dX);have sG:=(Rl.same lq).o5 (wK dX);have TG:Sc K a ns (fX dX):=S4 (St.same lq (fun b u e=>oA.2 b u (s3 _ _ e))) (wK dX) (fun b u e=>oA.2 b u (s3 _ _ (Ng dX _ _ e)));have H7:fX dX cB=some (.lst (qe ds bH)):=(wK dX).lst (lq _ _ afs);obtain ⟨d9,Iw,akz,Zp,aib⟩:=id q';have Ho:kS Pt dJ:=(Mj.step s3).step s4;have tS:=q'.same s4;have EX:cK ≠ aA:=fun z=>by rw [z,Zp] at pw;cases pw
  have IG:cK ≠ aU:=fun z=>by rw [z,aib] at pw;cases pw
  have gh:(ds.map (·.name)).Nodup:=D.aD;have nj:∀ {xs:List Str},(∀ x ∈ xs,x ∈ ds.map (·.name))->∀ {i:Nat} {x:Str},xs[i]? = some x->∃ (j:Nat) (d:a8),ds[j]? = some d/\d.name=x:=fun {xs} h {i x} ah=>by
   obtain ⟨d,hd,e⟩:=bK.mp (h x (cC ah));obtain ⟨j,aJ⟩:=hH hd;exact ⟨j,d,aJ,e⟩
  refine ⟨by decide,by decide,?_⟩;refine dO.range (fun j σ I=>aP I/\aO (fX dX) I/\kS Pt I/\(∃ s bs jE,ee t I k jF aA aU s/\h8 ds (cz ds bH) s/\jy ds (cz ds bH) s/\kl ds (cz ds bH) (fX dX) I cK j s bs/\(∀ i,s.bc=some i->jE=s.cL)/\∃ Ni Lj G' AL vI pP pd oS,σ=[~~~a,some (.int n),~~~wl,~~~ef,~~~cB,~~~k,~~~cK,some (.int jE),Ni,Lj,G',AL,vI,pP,pd,oS])) ?_ ?_ ?_
  .have IX:∀ q:Prop,∀ [Decidable q],-1 <= (if q then (0:Int) else -1)/\(if q then (0:Int) else -1) < (cz ds bH).length:=fun q _=>by rw [hlen];split <;> omega
   have ait:∀ q:Prop,∀ [Decidable q],-1 <= (if q then (-1:Int) else 0)/\(if q then (-1:Int) else 0) < (cz ds bH).length:=fun q _=>by rw [hlen];split <;> omega
   exact ⟨ja.2,af_,Ho,_,[],1,tS,⟨Bi,fun x h=>(by cases h),fun i h=>(by cases h;exact ⟨by rw [hlen];exact cj,fun x h=>(by cases h)⟩),fun h=>(by cases h)⟩,⟨IX _,ait _,fun h=>(by cases h)⟩,⟨rk,(fun b h=>by cases h),(fun b h=>by cases h),Bi,Bi,fun x=>(by simp [C']),(fun b h=>by cases h),(fun b h=>by cases h)⟩,fun i _=>rfl,_,_,_,_,_,_,_,_,rfl⟩
  .rintro j σ I aJ bb;ac_rfl
   obtain ⟨aeZ,hz,Qs,sK,bs,jE,I3,lr,M0,XC,uG,Ni,Lj,G',AL,vI,pP,pd,oS,rfl⟩:=bb;have aJ:j < 70:=aJ;obtain ⟨aiO,Me,xV,aa1,ZJ⟩:=id I3;subst aK;simp only [gU,dE,kG,kp,o8];refine tW (fun aB H1=>H1=I/\aB=[~~~a,some (.int n),~~~wl,~~~ef,~~~cB,~~~k,~~~cK,some (.int jE),some (.int j),some (eE sK.bc),G',AL,vI,pP,pd,oS]) (fun b2 bJ=>?_) ?_
   .nofun;exact ⟨Me,_,xV,kb _ _ _ _ _ _ _ _ (by ac_nf),k,jF,aA,aU,sK,rfl,I3,bJ _ _ ⟨rfl,rfl⟩⟩
   rintro f_ vv ⟨rfl,rfl⟩;simp only [dE];refine tW (fun aB H1=>aO vv H1/\aP H1/\∃ ap xs,vv ap=none/\H1 ap=some (.lst (aW xs))/\xs.length <= 13/\(∀ x ∈ xs,x ∈ ds.map (·.name))/\aB=[~~~a,some (.int n),~~~wl,~~~ef,~~~cB,~~~k,~~~cK,some (.int jE),some (.int j),some (eE sK.bc),~~~ap,AL,vI,pP,pd,oS]) (fun b2 bJ=>?_) ?_
   .nofun;exact ⟨_,wl,ds,rfl,TG.same hz aeZ,by omega,QY.same hz,by omega,fun p xs H1 bO nm ax oR hV hO=>bJ _ _ ⟨bO,nm,p,xs,ax,oR,hV,hO,rfl⟩⟩
   rintro cv oF bb;ac_rfl
   obtain ⟨t1,aek,ap,xs,alA,M1,hV,hO,rfl⟩:=bb;have uo:=I3.same t1;subst aK;simp only [dE];refine tW (fun aB aw=>∃ k0 ai,nM n ds (cz ds bH) (n9 (cz ds bH) sK xs) (xs.any (jm (cz ds bH) sK)) ai/\I0 k aA aU Pt oF aw/\oF k0=none/\aw k0=some (.bu (iP ds (ig n ds (cz ds bH) sK)))/\aP aw/\kS Pt aw/\ee t aw k jF aA aU ai/\aB=[~~~a,some (.int n),~~~wl,~~~ef,~~~cB,~~~k,~~~cK,some (.int jE),some (.int j),some (eE sK.bc),~~~ap,~~~k0,vI,pP,pd,oS]) (fun b2 bJ=>?_) ?_
   .nofun;exact ⟨Me,_,t1 _ _ xV,kb _ _ _ _ _ _ _ _ (by ac_nf),fX dX,k,jF,aA,aU,sK,c,n,ds,cz ds bH,ap,xs,rfl,uo,ad0,hz.trans t1,Nc,RS,Qa,L_,R,lr,M1,by omega,hO,Qs.step t1,aek,fun p ai aw ob vO ax oR n7 pj sY=>bJ _ _ ⟨p,ai,ob,vO,ax,oR,n7,pj,sY,rfl⟩⟩
   rintro gc qA bb;ac_rfl
   obtain ⟨k0,ai,ob,vO,SA,aal,n7,pj,sY,rfl⟩:=bb;have qp:=XC.heap (fun b u e _=>t1 b u e);obtain ⟨akV,MS,ak5⟩:=Qs.step t1;have kU:∀ {b:Addr} {xs:List V},oF b=some (.lst xs)->qA b=some (.lst xs):=fun {b xs} e=>vO _ _ (bZ e (t1 _ _ xV) (by intro z;cases z)) (bZ e (t1 _ _ aa1) (by intro z;cases z)) (bZ e (t1 _ _ ZJ) (by intro z;cases z)) (bZ e MS (by intro z;cases z)) e
   have v5:=qp.heap (fun b u e aa=>by
    rcases aa with rfl | ⟨x,ah,rfl⟩
    .rw [qp.at_] at e;cases e;exact vO _ _ (bZ qp.at_ (t1 _ _ xV) (by intro z;cases z)) EX IG (bZ qp.at_ MS (by intro z;cases z)) qp.at_
    .rw [qp.ls x ah] at e;cases e;exact kU (qp.ls x ah))
   have C6:=kU M1;have adO:k0 ≠ cK:=fun z=>by rw [z,qp.at_] at SA;cases SA
   have tG:=L8 hO lr;have MB:aO (fX dX) qA:=fun b u e=>vO _ _ (dy e Nc) (dy e RS) (dy e Qa) (dy e L_) ((hz.trans t1) _ _ e)
   subst aK;simp only [dE];refine tW (fun aB bf=>cP cK qA bf/\aP bf/\(∃ kW,kl ds (cz ds bH) (fX dX) bf cK j (n9 (cz ds bH) sK xs) kW)/\∃ y,aB=[~~~a,some (.int n),~~~wl,~~~ef,~~~cB,~~~k,~~~cK,some (.int jE),some (.int j),some (eE sK.bc),~~~ap,~~~k0,y,pP,pd,oS]) (fun b2 bJ=>?_) ?_
   .nofun;refine ⟨⟨_,aC.of C6⟩,?_⟩;refine dO.list (xs:=aW xs) (fun i σ bf=>cP cK qA bf/\aP bf/\(∃ kW,kl ds (cz ds bH) (fX dX) bf cK j { sK with wt:=k4 (cz ds bH) sK sK.wt (xs.take i) } kW)/\∃ y,σ=[~~~a,some (.int n),~~~wl,~~~ef,~~~cB,~~~k,~~~cK,some (.int jE),some (.int j),some (eE sK.bc),~~~ap,~~~k0,y,pP,pd,oS]) ?_ ?_ ?_ ?_
    .exact ⟨fun b u _ e=>e,n7,⟨bs,v5⟩,_,rfl⟩
    .rintro i σ bf ag ⟨ea,_⟩;exact aC.of (ea _ _ (bZ C6 v5.at_ (by intro z;cases z)) C6)
    .rintro i v σ bf aI bb;ac_rfl
     obtain ⟨ea,dw,⟨j2,g7⟩,y,rfl⟩:=bb;subst aK;unfold aW at aI;obtain ⟨x,ah,rfl⟩:=cy aI;obtain ⟨aji,d,hd,rfl⟩:=nj hO ah;have Wu:=ea _ _ adO aal;have aQ:=gI.k (k:=bY d.name) Wu;rw [Mh (f:=ig n ds (cz ds bH) sK) gh hd] at aQ;have fj:k4 (cz ds bH) sK sK.wt (xs.take (i + 1))=mP (cz ds bH) sK (k4 (cz ds bH) sK sK.wt (xs.take i)) d.name:=by rw [jt ah,RK]
     nofun;refine dt (!jm (cz ds bH) sK d.name && !decide (d.name ∈ j2.map (·.1))) (fun gM aR=>?_) (fun aa=>?_) (fun aa=>?_)
     .nofun;refine ⟨_,aQ,rfl,?_⟩;rw [Pw];cases hf:jm (cz ds bH) sK d.name with
      | true=>rw [hf] at aR;rw [if_neg (by simp)];simpa using aR
      | false=>
       rw [hf] at aR;rw [if_pos (show (!false)=true from rfl)];refine ⟨_,gI.k (k:=bY d.name) g7.at_,?_⟩;rw [O2];simpa using aR
     .have hf:jm (cz ds bH) sK d.name=false:=by
       cases z:jm (cz ds bH) sK d.name with
       | false=>rfl
       | true=>rw [z] at aa;cases aa
      have Ga:d.name ∉ j2.map (·.1):=fun z=>by rw [hf,decide_eq_true z] at aa;cases aa
      have eB:j2.length <= 12:=by
       have af:∀ x ∈ j2.map (·.1),x ∈ ds.map (·.name):=fun x ah=>(xW (xs.take i) sK.wt (fun x ah=>hO x (qu ah)) lr).aA x ((g7.mem x).mp ah)
       have:=g7.nn.length_le_of_subset af;rw [aZ,aZ] at this;omega
      nofun;refine ⟨fi _,fun p ax=>?_⟩;have aaI:aO (fX dX) bf:=fun b u e=>ea _ _ (dy e AH) (MB _ _ e)
      have wN:p ≠ cK:=fun z=>by rw [z,g7.at_] at ax;cases ax
      have gd:upd bf p (.lst []) cK=some (.bu (gu j2)):=by rw [aE (dW wN)];exact g7.at_
      refine ⟨_,j7.k (k:=bY d.name) gd (by unfold gu;rw [aZ];exact gW eB (by decide)),fun b u af e=>?_,(dw.upd).upd,⟨_,g7.more (M0.keep rfl rfl rfl rfl) Ga ax (aaI.free ax) (by rw [aV,Xj Ga]) (by rw [aE wN];exact aV) (fun b u af e=>?_) ?_⟩,_,rfl⟩
      .have bT:=ea _ _ af e;rw [aE af,aE (fun z=>by rw [z,ax] at bT;cases bT)];exact bT
      .rw [aE af,aE (fun z=>by rw [z,ax] at e;cases e)];exact e
      .rw [fj];unfold mP;rw [if_neg];rintro (z | z)
       .rw [hf] at z;cases z
       .exact Ga ((g7.mem _).mpr z)
     .nofun;refine ⟨ea,dw,⟨j2,?_⟩,_,rfl⟩;rw [fj];unfold mP;rw [if_pos]
      .exact g7
      .cases z:jm (cz ds bH) sK d.name with
       | true=>exact .inl rfl
       | false=>
        rw [z] at aa;have:d.name ∈ j2.map (·.1):=by simpa using aa
        exact .inr ((g7.mem _).mp this)
    .rintro σ bf bb;ac_rfl
     obtain ⟨ea,dw,⟨j2,g7⟩,y,rfl⟩:=bb;subst aK;rw [fb,hB] at g7;exact bJ _ _ ⟨ea,dw,⟨j2,g7⟩,y,rfl⟩
   rintro k8 q5 bb;ac_rfl
   obtain ⟨ea,dw,⟨j2,g7⟩,Rt,rfl⟩:=bb;have wm:aO (fX dX) q5:=fun b u e=>ea _ _ (dy e AH) (MB _ _ e)
   obtain ⟨NJ,r0,SE,agD,ZD⟩:=id sY;have ui:ee t q5 k jF aA aU ai:=⟨NJ,r0,ea _ _ (bZ SE v5.at_ (by intro z;cases z)) SE,ea _ _ (dW EX) agD,ea _ _ (dW IG) ZD⟩;obtain ⟨_,QB,Fw,abL,ah'⟩:=id ui;subst aK;simp only [dE];refine tW (fun aB cN=>cN=q5/\aB=[~~~a,some (.int n),~~~wl,~~~ef,~~~cB,~~~k,~~~cK,some (.int jE),some (.int j),some (eE sK.bc),~~~ap,~~~k0,Rt,pP,pd,oS]) (fun b2 bJ=>?_) ?_
   .refine dt false (fun gM aR=>?_) (fun ay=>nomatch ay) (fun _=>?_)
    .nofun;refine ⟨_,g7.at_,k,ef,jF,aA,aU,bG,hR,bH,ai,sK.bc,jE,_,rfl,ui,sG.same wm,fun i ag=>(by have:=(lr.bc i ag).1;rw [hlen] at this;exact this),fun i x ag ah=>?_,_,rfl,aR⟩;have tF:=cC ah;obtain ⟨g1,g2⟩:=X_ R tG ob (show (n9 (cz ds bH) sK xs).bc=some i from ag) (HC ah) (X.j1.bd x tF).2.2.1;refine ⟨fun af ak=>?_,fun af=>?_⟩
     .rw [uG i ag];refine (g1 af).2 fun hw=>?_
      have:j2=[]:=by
       cases aeX:j2 with
       | nil=>rfl
       | cons b r=>
        have:=(g7.mem b.1).mp (by rw [aeX];exact .head _);rw [hw] at this;cases this
      rw [this] at ak;cases ak
     .rw [uG i ag];exact g2 af
    .nofun;exact bJ _ _ ⟨rfl,rfl⟩
   rintro qN th ⟨rfl,rfl⟩;simp only [dE];refine tW (fun aB dJ=>dJ=th/\aB=[~~~a,some (.int n),~~~wl,~~~ef,~~~cB,~~~k,~~~cK,some (.int jE),some (.int j),some (eE sK.bc),~~~ap,~~~k0,Rt,some (eE ai.bc),pd,oS]) (fun b2 bJ=>?_) ?_
   .nofun;exact ⟨QB,_,Fw,kb _ _ _ _ _ _ _ _ (by ac_nf),k,jF,aA,aU,ai,rfl,ui,bJ _ _ ⟨rfl,rfl⟩⟩
   rintro mq pH ⟨rfl,rfl⟩;obtain ⟨Er,ID⟩:=W5 R tG (M0.keep rfl rfl rfl rfl) ob;have y2:=agW R tG ob;have H':kS Pt pH:=by
    obtain ⟨ps,e,dB⟩:=pj;refine ⟨ps,ea _ _ (bZ e v5.at_ (by intro z;cases z)) e,?_⟩;rcases dB with dB | ⟨c',dB,bT⟩
    .exact .inl dB
    .exact .inr ⟨c',dB,ea _ _ (bZ bT v5.at_ (by intro z;cases z)) bT⟩
   simp only [dE];by_cases d0:∃ g,ai.bc=some g/\sK.bc=some g
   .obtain ⟨g,jk,p0⟩:=d0;refine dt true (fun gM aR=>?_) (fun _=>?_) (fun ay=>nomatch ay)
    .rw [jk,p0];nofun;rw [if_pos (by simp [eE])];exact ⟨rfl,aR⟩
    .nofun;have a3:=Uj R tG ob p0 jk;refine ⟨dw,wm,H',ai,ui,y2,Er,j2,g7.to (by rw [a3]) (fun b aa i ag=>(g7.vS b aa i ag).keep (by rw [a3]) (by rw [a3]) (by rw [a3]) (by rw [a3])),_,fun i ag=>?_,rfl,_,rfl⟩;rw [uG g p0,a3];rfl
   .refine dt false (fun gM aR=>?_) (fun ay=>nomatch ay) (fun _=>?_)
    .cases eP:ai.bc with
     | none=>
      nofun;rw [if_neg (by simp [eE])];exact aR
     | some g=>
      have RC:decide (eE (some g)=eE sK.bc)=false:=decide_eq_false fun z=>d0 ⟨g,eP,by
       cases e1:sK.bc with
       | none=>rw [e1] at z;cases z
       | some g2=>rw [e1] at z;have:=V.int.inj z;exact congrArg some (by omega)⟩
      nofun;rw [if_pos (by simp [eE]),RC];exact ⟨by cases sK.bc <;> rfl,aR⟩
    .cases eP:ai.bc with
     | none=>
      nofun;refine dt true (fun gM aR=>?_) (fun _=>?_) (fun ay=>nomatch ay)
      .nofun;exact aR
      .nofun;refine ⟨dw,wm,H',ai,ui,y2,Er,j2,g7.to (acG ob eP) (fun b aa i ag=>(ID i b.2.2 (EB ((g7.mem _).mp (bK.mpr ⟨b,aa,rfl⟩)) ag) (g7.vS b aa i ag)).1 eP),_,fun i ag=>(by rw [eP] at ag;cases ag),rfl,_,rfl⟩
     | some g=>
      nofun;refine dt false (fun gM aR=>?_) (fun ay=>nomatch ay) (fun _=>?_)
      .nofun;exact aR
      .nofun;have p0:(n9 (cz ds bH) sK xs).bc ≠ some g:=fun z=>d0 ⟨g,eP,z⟩
       have kv:=(y2.bc g eP).1;refine ⟨_,.inl (aC.of (wm _ _ sG.at_)),?_,?_,?_⟩
       .omega
       .rw [aZ,sG.cE];have:=X.len;omega
       rw [aZ,sG.cE,nL];refine dO.range (fun gm σ I=>aP I/\∃ kW,jo ds (cz ds bH) (fX dX) pH I cK j (n9 (cz ds bH) sK xs) ai g (k3 ds bH gm 0) kW/\∃ rH EW ro,σ=[~~~a,some (.int n),~~~wl,~~~ef,~~~cB,~~~k,~~~cK,some (.int 1),some (.int j),some (eE sK.bc),~~~ap,~~~k0,rH,some (eE (some g)),EW,ro]) ?_ ?_ ?_
       .exact ⟨dw,j2,jo.of g7 wm,_,_,_,rfl⟩
       .rintro gm σ I qC bb;ac_rfl
        obtain ⟨CT,kW,l7,rH,EW,ro,rfl⟩:=bb;have qC:gm < bH.length:=qC;have ah:=bo qC;obtain ⟨pk,bO,au,aH,bX⟩:=Cf sG ah;subst aK;simp only [gU,kG,kp,o8];nofun;refine ⟨_,aC.of (l7.same _ _ sG.at_),_,Db (by rw [c5,au];rfl),_,rfl,_,di.of (l7.same _ _ aH),_,Db (j:=2) rfl,_,rfl,⟨_,aC.of (l7.same _ _ bX)⟩,?_⟩;refine dO.list (xs:=bH[gm].dU.map fun k:Nat=>V.int k) (fun ii σ aw=>aP aw/\∃ mF,jo ds (cz ds bH) (fX dX) pH aw cK j (n9 (cz ds bH) sK xs) ai g (k3 ds bH gm ii) mF/\∃ rH ro,σ=[~~~a,some (.int n),~~~wl,~~~ef,~~~cB,~~~k,~~~cK,some (.int 1),some (.int j),some (eE sK.bc),~~~ap,~~~k0,rH,some (eE (some g)),some (.int gm),ro]) ?_ ?_ ?_ ?_
        .exact ⟨CT,kW,l7,_,_,rfl⟩
        .rintro ii σ aw alg bb;ac_rfl
         obtain ⟨tu,mF,hY,_⟩:=bb;subst aK;exact aC.of (hY.same _ _ bX)
        .rintro ii v σ aw aI bb;ac_rfl
         obtain ⟨tu,mF,hY,rH,ro,rfl⟩:=bb;obtain ⟨fI,sO,rfl⟩:=cy aI;have lC:=X.lt (iM qC) (cC sO);have k9:=bo lC;obtain ⟨nB,so,Ee,vc⟩:=QY.same hY.same;have rm:=bo (show fI < nB.length by omega);have xf:fu (cz ds bH) ds[fI].name=some gm:=(X.JV k9).mpr (by rw [ny ah];exact cC sO);have rt:=X.fresh ah sO k9;have s':=Vi (ds:=ds) (show (kJ bH gm)[ii]? = some fI by rw [ny ah];exact sO) k9;subst aK;simp only [gU,dE,kG,kp];exists (fun aB bf=>bf=aw/\aB=[~~~a,some (.int n),~~~wl,~~~ef,~~~cB,~~~k,~~~cK,some (.int 1),some (.int j),some (eE sK.bc),~~~ap,~~~k0,some (.str ds[fI].name),some (eE (some g)),some (.int gm),some (.int fI)]),2
         .nofun;exact ⟨_,aC.of so,_,Db (by rw [c5,rm];rfl),_,rfl,_,di.of (vc fI _ _ rm k9),_,Db (j:=1) rfl,bJ _ _ ⟨rfl,rfl⟩⟩
         rintro ka bf ⟨rfl,rfl⟩;subst aK;simp only [dE];refine dt (!decide (ds[fI].name ∈ mF.map (·.1))) (fun gM aR=>?_) (fun aa=>?_) (fun aa=>?_)
         .nofun;refine ⟨_,gI.k (k:=bY ds[fI].name) hY.at_,?_⟩;rw [O2];simpa using aR
         .nofun;refine ⟨tu,mF,?_,_,rfl⟩;rw [s'];exact hY.skip (by simpa using aa)
         .have gp:ds[fI].name ∈ mF.map (·.1):=by simpa using aa
          obtain ⟨⟨ah6,l,B⟩,oP,Hn⟩:=bK.mp gp;have Hn:ah6=ds[fI].name:=Hn;subst Hn;have Pf:=Yr hY.nn oP;have pY:=hY.ls _ oP;obtain ⟨E1,YZ⟩:=hY.old _ oP rt;have E1:B.length <= j:=E1;simp only [i9,dE];exists (fun aB cN=>cN=upd bf l (.lst (eL (B ++ [g])))/\aB=[~~~a,some (.int n),~~~wl,~~~ef,~~~cB,~~~k,~~~cK,some (.int 1),some (.int j),some (eE sK.bc),~~~ap,~~~k0,some (.str ds[fI].name),some (eE (some g)),some (.int gm),some (.int fI)]),2
          .nofun;refine ⟨_,by have:=gI.k (k:=bY ds[fI].name) hY.at_;rw [Pf] at this;exact this,pq ⟨_,aC.of pY⟩,_,rfl,_,pY,by unfold eL;rw [aZ];exact gW (show B.length <= 70 by omega) (by decide),bJ _ _ ⟨?_,rfl⟩⟩;unfold eL;rw [eZ];rfl
          rintro t4 cN ⟨rfl,rfl⟩;subst aK;dsimp only;have wI:cK ≠ l:=fun z=>by rw [<- z,hY.at_] at pY;cases pY
          have Q_:upd bf l (.lst (eL (B ++ [g]))) cK=some (.bu (gu mF)):=by rw [aE wI];exact hY.at_
          have agS:=EB ((hY.mem _).mp gp).1 xf;by_cases HH:gm=g
          .subst HH;obtain ⟨last,acA⟩:=((ID gm B agS (YZ gm xf)).2.2 gm eP p0).2 rfl;refine B6 (fun ip dJ=>ip=false/\aP dJ/\∃ kW,jo ds (cz ds bH) (fX dX) pH dJ cK j (n9 (cz ds bH) sK xs) ai gm (k3 ds bH gm (ii + 1)) kW) (fun gM aR=>?_) (fun dJ r=>(by cases r.1)) (fun dJ r=>?_)
           .nofun;refine ⟨rfl,?_⟩;rw [if_pos (by simp [eE])];refine ⟨pq ⟨_,i3.of Q_⟩,_,Q_,bY ds[fI].name,rfl,_,Pf,_,rfl,_,aC.of (by rw [aE (dW wI)];exact aV),fun p ax=>?_⟩;have tH:eL (B ++ [gm])=eL B ++ [V.int gm]:=by unfold eL;rw [eZ];rfl
            have wN:p ≠ cK:=fun z=>by rw [z,aV] at ax;cases ax
            have cR:p ≠ l:=fun z=>by rw [z,aE (dW wI),aV] at ax;cases ax
            have UB:bf p=none:=by rw [aE wN,aE cR] at ax;exact ax
            have RT:∀ b u,b ≠ l->b ≠ cK->bf b=some u->upd (upd (upd bf l (.lst (eL (B ++ [gm])))) cK (.bu (k7 (gu mF) (bY ds[fI].name)))) p (.lst (iU (eL (B ++ [gm])) none (some (-1)))) b=some u:=fun b u af ak e=>by
             rw [aE (fun z=>by rw [z,UB] at e;cases e),aE ak,aE af];exact e
            have Tc:=RT _ _ (dy H7 (hY.fr _ oP)) (dy H7 AH) (hY.same _ _ H7);refine ⟨cB,p,gm,B,n,ds,bH,last,rfl,Tc,by rw [aV,tH,adM],by omega,fun b aa=>(by have:=hY.lt _ oP b aa;rw [hlen] at this;exact this),qC,X,acA,tu.upd.upd.upd,fun dJ s5 iH=>⟨true,rfl,aR _ _ ⟨rfl,iH,mF.filter fun b=>!decide (b.1=ds[fI].name),?_⟩⟩⟩;rw [s'];exact hY.gone AH oP xf (s5 _ _ (by rw [aE (dW wN),aV,SL])) (fun b u af ak e=>s5 _ _ (RT b u af ak e))
           .obtain ⟨_,iH,Fc,x8⟩:=r;nofun;exact ⟨iH,Fc,x8,_,rfl⟩
          .obtain ⟨Fc,x8⟩:=hY.grow oP rt (by rw [xf];exact fun z=>HH (d1 z)) kv (fun gZ h3 oz=>((ID gZ B (EB ((hY.mem _).mp gp).1 h3) oz).2.2 g eP p0).1 (by rw [xf] at h3;cases h3;exact dW HH)) aV (fun b u af e=>by rw [aE af];exact e);rw [<- s'] at x8;refine dt false (fun gM aR=>?_) (fun ay=>nomatch ay) (fun _=>?_)
           .nofun;refine ⟨rfl,?_⟩;rw [if_neg (by simp [eE];omega)];exact aR
           .nofun;exact ⟨tu.upd,Fc,x8,_,rfl⟩
        .rintro σ aw bb;ac_rfl
         obtain ⟨tu,mF,hY,rH,ro,rfl⟩:=bb;subst aK;rw [aZ,aci ah] at hY;exact ⟨tu,mF,hY,_,_,_,rfl⟩
       .rintro σ I bb;ac_rfl
        obtain ⟨CT,kW,l7,rH,EW,ro,rfl⟩:=bb;have Z3:ee t I k jF aA aU ai:=⟨NJ,QB,l7.keep _ _ Fw (bZ Fw g7.at_ (by intro z;cases z)) (fun _ z=>by cases z),l7.keep _ _ abL (dW EX) (fun _ z=>by cases z),l7.keep _ _ ah' (dW IG) (fun _ z=>by cases z)⟩;have aaB:kS Pt I:=by
         obtain ⟨ps,e,dB⟩:=H';refine ⟨ps,l7.keep _ _ e (bZ e g7.at_ (by intro z;cases z)) (fun _ z=>by cases z),?_⟩;rcases dB with dB | ⟨c',dB,bT⟩
         .exact .inl dB
         .exact .inr ⟨c',dB,l7.keep _ _ bT (bZ bT g7.at_ (by intro z;cases z)) (fun _ z=>by cases z)⟩
        subst aK;nofun;exact ⟨CT,l7.same,aaB,ai,Z3,y2,Er,kW,l7.fin (fun x ah=>X.all (tG.aA x ah)) (abG tG ob p0 eP fun r ao x ah=>X.Wi ao ah),_,fun i ag=>(ae_ ob p0 eP).symm,rfl,_,rfl⟩
  .rintro σ I _;exact bW _ _ trivial
 rintro mq iQ _;nofun;exact q _
end My
structure PySem.W.Fast:Prop where(tw7504892601161162302 tw16094388512463259878 tw1627954423400116473 tw6354079273772589372 tw13588011676259378424 tw14103068509712078837 tw8568418189583437163 tw10675420522156718708 tw7839650778313834071 tw198679888472391312 tw15606596744165398945 tw10942796404370538453 tw1193294119009625940 tw11659728281518092482 tw13947489054682453640 tw2111513861231143855 tw14327066837717135160 tw5506655262768814609 tw4683330695659770011 tw11674540846441653224 tw3030252986100169067 tw9318882464108756979 tw8453164410501392760 tw10979610350441933367 tw1292528005560800361 tw9866408240853697830 tw6426159968874518826 tw7925141516965102103 tw1048167311665803187 tw1392197128856971075 tw9867323023679148783 tw8341819526133497252 tw3367878047898313845 tw13861046528137834107 tw3054606280821148830 tw2963551775479534984 tw15332013660376395745 tw10127828068436849423 tw14581631956852148476 tw6939748494765184128 tw3465238096775437530 tw685239524570833913 tw10080907461619492772 tw6546117626270167909 tw4178797626597864200 tw17683592535426678561 tw17739462983408511214 tw13124653146929446189 tw13984855792912731904 tw12969592773708008880 tw5742396007661646556 tw8350087704026503506 tw6130973285926890848 tw15850511822810464495 tw10467309717163061536 tw9603507713298682452 tw13705427735408732804 tw1350276172041899683 tw4677501199765614337 tw15742593442672150335 tw14552290611637563641 tw14515217682689053418 tw7421813170722137960 tw15311752555891983801 tw5065336341695357921 tw2288725348712358242 tw17830604262849285786 tw14748277344414814007 tw9744772961624598183 tw14427384635883174914 tw12992112278518721790 tw2317860123312410913 tw17243805650758840483 tw13282295513837823926 tw9821001302292456541 tw5372587474407702739 tw162119811987593096 tw382656655515660017 tw1795841458530535023 tw16101854165536421042 tw7522075343420188515 tw14104813315677440906 tw12355892726945333711 tw7649071343092342271 tw11845736023518627844 tw8437428901069900034 tw11027475381686561182 tw3655881577597689993 tw11082003788658438942 tw5050594710389093818 tw1244618440905911357 tw9700050604981650007 tw18434677061148765430 tw2597729926012511848 tw15607624130770820215 tw5972264767361074263 tw12593149482019903739 tw6257073505233903128 tw9385819578399023451 tw13219472121968230705 tw7640620845542501166 tw12478052412059926526 tw6461221984143723055 tw5411611073604002258 tw8417889816433886087 tw14710791431371345988 tw13568787979225788382 tw2725841776147535975 tw2229088324264355743 tw14425791507008399837 tw11157128390581561506 tw15097492731676996271 tw13517333648863479041 tw12586791114597633509 tw1247273006821358575 tw17674722048592261502 tw12931079252345617458 tw12341702625807576088 tw8098444123491472459 tw8715482431407727816 tw10564657568598740710 tw13665505455204781702 tw15888564303460256913 tw14581961293696449284 tw7859050403636482088 tw17643301810811391939 tw13638541459924784110 tw16024549484742854035 tw6050528550317028751 tw10607495583903492891 tw3842496729800466345 tw13117222567464262729 tw6248820670932906669 tw4648146570765212483 tw13901025441402847336 tw13708989836852029556 tw7406783929310850240 tw9699912459297619501 tw6692745919168966990 tw3042700315916508008 tw1369827010375567246 tw3228976856628154877 tw9006125965927512690 tw11794450648499585122 tw12918965023402715711 tw7415109057167691919 tw2851359705831459851 tw5125531815006996410 tw14228560301808184108 tw12322954758297909058 tw13720719228641707950 tw277149970919865601 tw9414711439201849678 tw17328290755026662553 tw12186945660585374111 tw6267714730266714195 tw3554521340777917801 tw16028398855388365632 tw13024971741318792522 tw13013884049455645096 tw524863508491237018 tw12366022484175468769 tw10138699802989296961 tw12348333032689689574 tw7047344367684195897 tw12008705006739812199 tw12000687459553875264 tw6932120998579167023 tw11143442480184401348 tw10015574986738912105 tw18073242774332415249 tw5056610916377320195 tw16711264159688530004 tw12041836134066421640 tw12120583308098136701 tw5676308885102068998 tw17069001446051167525 tw3902426694393764727 tw8984430014880891572 tw10201318824037323626 tw16352485416847780431 tw4092859443620746575 tw16084550532476311307 tw6147329020383763162 tw14784300970351465454 tw2011650710572226192 tw1230434933719982325 tw12829733107536618533 tw15140008436102214671 tw10831504196046769236 tw7565963955969366267 tw13872717951449871186 tw8683523585657298255 tw10173735489139241914 tw15435908196747365329 tw10917027493286820964 tw13239664759651401672 tw1057278551670888533 tw14598337626057959134 tw15368300485395231940 tw15147087176088027060 tw12038303179353986676 tw16210379154544040968 tw2133731356334576828 tw584414663968653744 tw17311749901670532120 tw15089997599691503709 tw506838184668196485 tw16951500432631841186 tw10586978599077367437 tw8617830451918066711 tw4736605328576988630 tw8746248255638841641 tw12294036501693118176 tw1208984114974569256 tw599407152120853965 tw797521532713024548 tw4921756237295794944 tw4216664987975157395 tw6254320895669595332 tw14235029524276316803 tw2634220515119329851 tw4041816946864703964 tw7152599241385398130 tw2661598789969555152 tw6173884019643248237 tw9502049076895829484 tw4070051426183509144 tw4668164722318897028 tw1913790070786017900 tw9302983433108429942 tw3451958000119762697 tw2857491455216184918 tw8956008790699758012 tw13402372322884365133 tw851364824772748684 tw11033342328113732089 tw12365914559070065937 tw11543070510385824780 tw10362653648846967061 tw6729452274092267534 tw14629337270242467760 tw7435874644400422752 tw1199875133172713782 tw14871071334139332230 tw3391337496210295055 tw2458369836320422611 tw6647608794600843523 tw17077165690412833654 tw17594311212538689053 tw6178275718169224302 tw8402476400857512820 tw6002268006537425327 tw4667756300875206095 tw15218091641561913008 tw780804834913481571 tw11325122189562704616 tw16747168844861388940 tw18378534677307206038 tw5350880414422589262 tw14063883257395443231 tw13287891377590836306 tw10122988190056760714 tw14944571506781949701 tw2844971690937268370 tw15406330714646625085 tw9689228280122560320 tw8308192700629350912 tw6452256713179935799 tw1324348776331814845 tw4437681315188770409 tw5443507212463727830 tw11397469208440244051 tw10101354062392859556 tw9875350604103120062 tw11088706402783925759 tw16347482464638104222 tw9934673529252889997 tw7715268443902786111 tw11367321483351223409 tw3968606108843279559 tw15410226769750476841 tw252503490876702644 tw16449113370768250118 tw8699737329373772278 tw16813339192871927781 tw18251674134539355373 tw970622648366402131 tw626690122536402852 tw12831241019565931696 tw15637507332532848376 tw699314458605178077 tw11240776441196239608 tw8902746127399379650 tw10847639232152782382 tw16462564318829618649 tw6980362415559206377 tw9575165816760046598 tw9099099392356648312 tw11702808122860627668 tw12539730679421169430 tw16079059511273800008 tw6072457565925416144 tw2913358605560498509 tw9484953286351066032 tw18363631560658542807 tw16330719483347432928 tw1278805411366205457 tw2970779590310959031 tw3360355649222573633 tw5017126980037507264 tw8556041561173018024 tw14173071202415910710 tw2066135990878701661 tw15586748401151313577 tw5640875897756665645 tw14811233118983380988 tw13498620427857582028 tw170803236336343279 tw3153247626112478396 tw18302273990740484288 tw17950872532428673880 tw5744304802608954027 tw442500213341239702 tw17017584943780112221 tw2944486035468638265 tw13222263746010422486 tw8117107424748431137 tw4000834419001615595 tw11664730407591386054 tw15011908090659653236 tw5037646514678042493 tw17264306231158120347 tw18274125935171770236 tw12187277811681127310 tw16816645622749124438 tw13913418072351400644 tw4266396089154719832 tw5449119396544023011 tw14285815763046199512 tw9109022365648153054 tw6971953691637311391 tw9050998519836493949 tw12653565549217248144 tw2601617852190647607 tw901103218829161508 tw7858998983047371466 tw14336494201823507299 tw13293144073585336509 tw5745156917038708862 tw13751316199868905001 tw2965390396254565771 tw18176664462779802514 tw10068226802893611935 tw392937330429610772 tw18426188288417844007 tw15317054806157813182 tw16737795826792032100 tw10724414683138930926 tw1537736687110352018 tw4657879445596189705 tw14703695757272829223 tw1030157995157842395 tw10837744624635066023 tw9847807453045013189 tw6098389578368850065 tw6833740597555745995 tw11775662197848408507 tw13083084306848984759 tw17923666387604960991 tw16611337127045614415 tw9273368139704669834 tw4261756343620505153 tw6855133932047690686 tw12414727992350252031 tw4481692967323164753 tw16045783292032351261 tw2075639538489011527 tw12776932726988363367 tw17927250080906708014 tw12653405334327971215 tw5879618069505066814 tw16597096473532986762 tw2552169804141588779 tw10821235800388432313 tw16292454351218909425 tw1099682288127085746 tw7917928371991410087 tw17463761174311377467 tw5460959295155860051 tw9025097825421210606 tw16218602913337087418 tw15377110933282511251 tw16048546689884092117 tw881682116975210964 tw13468242780864135508 tw8528745831030381811 tw985044138125422986 tw16465127075810282266 tw5549959010189514366 tw17664224242600960837 tw4731226047167634353 tw14986814774179435717 tw15222173222909853571 tw8410497098254603888 tw9534695351754675513 tw445221819587120991 tw1144412216112624702 tw13014131628255065799 tw1162456390137762816 tw8274385703587864853 tw2959353677305449263 tw2337555082322701276 tw14343140076585231527 tw8558487976694950736 tw540618396779796515 tw9945618119679788206 tw15809841451186375702 tw14069675013613885986 tw9332582681421146700 tw6257762433480017071 tw12553617674355421254 tw17359914369422881224 tw13307523668318412727 tw3695442027310198618 tw16338250731425169876 tw5576175150613643041 tw611746293403609563 tw8724311804562765140 tw18338978306773327723 tw14836620014393383779 tw16856229766794227219 tw6477674573219632893 tw13957508549626932544 tw4387384107150960164 tw9173628763383951047 tw4279364714505721756 tw9770799063451100620 tw16223124695118762211 tw2482550251299433596 tw17453795376732166042 tw9842101549879271087 tw12397967510446861608 tw5657288853190231401 tw14711776301443898520 tw16495097646035412652 tw7348148593619923093 tw13814840826637822575 tw7615898723820305659 tw2192212623022867918 tw5217925257206882104 tw11725496595053907335 tw3049975848630102915 tw18176206994006923626 tw13447272758672178926 tw7542716765184424111 tw9296318832964973003 tw7725108261921443705 tw8713210959898738767 tw242373086445103200 tw17159127798295382881 tw1601922232608136046 tw16488356186624667461 tw10573920098581403354 tw289168037411913289 tw11246138634220296201 tw15225883351016241926 tw6145414302469573311 tw18129011453065115137 tw16434593099085306041 tw4747717222265745626 tw5268444380800947249 tw14513183703467999097 tw9629619926166946974 tw9395423641541012636 tw7526966224675320661 tw9352168327844030886 tw1924260639578093682 tw2578091768981261029 tw4809033616762353277 tw7000479917779985763 tw14808276423689368152 tw13743747394333547677 tw17178391796449904376 tw12928945819278162995 tw16880086170268114712 tw10485210331414155008 tw5660978700578136034 tw1252253879710141482 tw8431965489385603172 tw8745570410395649679 tw16252729211213841969 tw10283102320065889820 tw17722657605085572316 tw10778018084907296762 tw18430657717771422592 tw3408466871279510188 tw12606213051418195535 tw2389441597657392411 tw15395523529734313188 tw5013733062461838989 tw3041351917757202961 tw9052790064799878723 tw10084616004377882599 tw4190866991514148523 tw8593316474228490561 tw12370831534777610005 tw8777555862935935570 tw11918557009359009280 tw3933153915345180319 tw8034288225654268824 tw16856847410693840948 tw886228374001874678 tw17140620926147171931 tw710548197740325328 tw13908144152556695709 tw3451816819289211309 tw14677926486867135669 tw13171934679353928612 tw17631297948325208669 tw9676653678710955650 tw4237063704974019992 tw12359998540046890118 tw2284674181822007801 tw5952009767675905871 tw2646633300009166878 tw7092418812901601027 tw16114652993898082306 tw11754104355028097489 tw17342048847474204087 tw9455223041574826189 tw7765022338706184379 tw5224209056038576857 tw3359931428168586031 tw886774955525490373 tw897697832685110181 tw11941568049272253249 tw1063892187028502922:True)
open PySem PySem.W PyProof.Rows
set_option maxRecDepth 100000 in
set_option maxHeartbeats 0 in
theorem PySem.Challenge.cw_lampway_k39_turn_about_holds : PySem.Challenge.rw_lampway_k39_turn_about.Holds := by
 w_on;o_law;k_head;(case hw=>w_witness2)
 k_fill
 refine L2.TO (l:=PySem.Challenge.rw_lampway_k39_turn_about) (n:=63) (k:=12) (x := "_law_script") (CX:=L2.dC) (sp:=My.PM) rfl (by decide) rfl ⟨rfl,by decide,by decide⟩ (fun w h Y=>PySem.W.km_in_of Y) (fun w h Y=>PySem.W.km_tabs_of Y _ (List.Mem.head _)) (by intro p;kernel_rfl) ?F ?S ?C
 case F=>
  intro w mg f3 h jU G ur ax;have T:∃ t,My.Txt w (L2.Dr jU) mg t/\Vn (L2.Dr jU) t.rE (L2.Rf ax)=true:=by
   dsimp only [L2.Dr,L2.Rf];refine' ⟨My.bQ.mk,⟨?maa,?Fab,?mac,?Fad,?mae,?Faf,?mag,?Fah,?mai,?Faj,?mak,?Fal,?mam,?Fan,?mao,?Fap,?maq,?Far,?mas,?Fat,?mau,?Fav,?maw,?Fax,?may,?Faz,?mba,?Fbb,?mbc,?Fbd,?mbe,?Fbf,?mbg,?Fbh,?mbi,?Fbj,?mbk,?Fbl,?mbm,?Fbn,?mbo,?Fbp,?mbq,?Fbr,?mbs,?Fbt,?mbu,?Fbv,?mbw,?Fbx,?mby,?Fbz,?mca,?Fcb,?mcc,?Fcd,?mce,?Fcf,?mcg,?Fch,?mci,?Fcj,?mck,?Fcl,?mcm,?Fcn,?mco,?Fcp,?mcq,?Fcr,?mcs,?Fct,?mcu,?Fcv,?mcw,?Fcx,?mcy,?Fcz,?mda,?edb,?Fdc,?edd,?Fde,?edf,?Fdg,?edh,?Fdi,?edj,?Fdk,?edl,?Fdm,?edn,?Fdo,?mdp,?edq,?Fdr,?mds,?edt,?Fdu,?edv,?Fdw,?edx,?Fdy,?edz,?Fea,?eeb,?Fec,?eed,?Fee,?eef,?Feg,?eeh,?Fei,?eej,?Fek,?eel,?Fem,?een,?Feo,?eep,?Feq,?mer,?ees,?Fet,?meu,?eev,?Few,?eex,?Fey,?eez,?Ffa,?mfb,?efc,?Ffd,?efe,?Fff,?efg,?Ffh,?mfi,?efj,?Ffk,?efl,?Ffm,?efn,?Ffo,?mfp,?efq,?Ffr,?efs,?Fft,?efu,?Ffv,?efw,?Ffx,?sfy,?sfz,?sga,?sgb,?sgc,?sgd,?sge,?sgf,?ngg,?ngh,?ngi,?sgj,?sgk,?ngl,?ngm,?ngn,?ngo,?ngp,?ngq,?ngr,?ngs,?sgt,?sgu,?sgv,?sgw,?sgx,?sgy,?sgz,?sha,?shb,?shc,?shd,?she,?shf,?nhg,?nhh,?nhi,?nhj,?nhk,?nhl,?nhm,?nhn,?sho,?nhp,?nhq,?nhr,?nhs,?nht,?nhu,?nhv,?shw,?shx,?shy,?shz,?nia,?nib,?nic,?nid,?nie,?nif,?nig,?sih,?sii,?sij,?sik,?nil,?nim,?nin,?nio,?nip,?niq,?nir,?sis,?sit,?siu,?siv,?niw,?nix,?niy,?niz,?nja,?njb,?njc,?sjd,?sje,?sjf,?sjg,?sjh,?nji,?njj,?njk,?djl,?djm,?djn,?djo,?djp,?djq,?sjr,?mjs,?vjt,?mju,?vjv,?mjw,?vjx,?mjy,?vjz,?mka,?vkb,?mkc,?vkd,?mke,?vkf,?mkg,?vkh,?mki,?vkj,?mkk,?vkl,?mkm,?vkn,?mko,?vkp,?bkq,?bkr,?bks,?bkt,?bku,?bkv,?bkw,?bkx,?bky,?ckz,?lla⟩,?zcc⟩
   case maa | mac | mae | mag | mai | mak | mam | mao | maq | mas | mau | maw | may | mba | mbc | mbe | mbg | mbi | mbk | mbm | mbo | mbq | mbs | mbu | mbw | mby | mca | mcc | mce | mcg | mci | mck | mcm | mco | mcq | mcs | mcu | mcw | mcy | mda | mdp | mds | mer | meu | mfb | mfi | mfp | mjs | mju | mjw | mjy | mka | mkc | mke | mkg | mki | mkk | mkm | mko=>(try dsimp only);refine' PySem.W.mg_of jU G ?z;case z=>k_is
   case edb | edd | edf | edh | edj | edl | edn | edq | edt | edv | edx | edz | eeb | eed | eef | eeh | eej | eel | een | eep | ees | eev | eex | eez | efc | efe | efg | efj | efl | efn | efq | efs | efu | efw=>(try dsimp only);k_is
   case sfy | sfz | sga | sgb | sgc | sgd | sge | sgf | sgj | sgk | sgt | sgu | sgv | sgw | sgx | sgy | sgz | sha | shb | shc | shd | she | shf | sho | shw | shx | shy | shz | sih | sii | sij | sik | sis | sit | siu | siv | sjd | sje | sjf | sjg | sjh | sjr=>(try dsimp only);constructor <;> k_is
   case Fab | Fad | Faf | Fah | Faj | Fal | Fan | Fap | Far | Fat | Fav | Fax | Faz | Fbb | Fbd | Fbf | Fbh | Fbj | Fbl | Fbn | Fbp | Fbr | Fbt | Fbv | Fbx | Fbz | Fcb | Fcd | Fcf | Fch | Fcj | Fcl | Fcn | Fcp | Fcr | Fct | Fcv | Fcx | Fcz | Fdc | Fde | Fdg | Fdi | Fdk | Fdm | Fdo | Fdr | Fdu | Fdw | Fdy | Fea | Fec | Fee | Feg | Fei | Fek | Fem | Feo | Feq | Fet | Few | Fey | Ffa | Ffd | Fff | Ffh | Ffk | Ffm | Ffo | Ffr | Fft | Ffv | Ffx=>(try dsimp only);refine' L2.ah1 ?x ?y ?z;(case x=>k_is);(case y=>k_is);(case z=>k_is)
   case ckz=>(try dsimp only);(try rfl)
   case ngg | ngh | ngi | ngl | ngm | ngn | ngo | ngp | ngq | ngr | ngs | nhg | nhh | nhi | nhj | nhk | nhl | nhm | nhn | nhp | nhq | nhr | nhs | nht | nhu | nhv | nia | nib | nic | nid | nie | nif | nig | nil | nim | nin | nio | nip | niq | nir | niw | nix | niy | niz | nja | njb | njc | nji | njj | njk=>(try dsimp only);unfold L2.ac;k_is
   case djl | djm | djn | djo | djp | djq=>(try dsimp only);decide
   case vjt | vjv | vjx | vjz | vkb | vkd | vkf | vkh | vkj | vkl | vkn | vkp=>(try dsimp only);exact ⟨_,rfl⟩
   case bkq | bkr | bks | bkt | bku | bkv | bkw | bkx | bky=>(try dsimp only);refine' PySem.W.mg_none_of jU G ?z;case z=>k_is
   case lla=>(try dsimp only);exact fun _ _=>.of_eq rfl
   case zcc=>(try dsimp only);kernel_rfl
  obtain ⟨t,T,sy⟩:=T;have fg:=ur.symm.trans T.aa_;cases fg;exact ⟨t.BF,t.rE,T.ZU,sy,fun base ajj nb de h1=>My.X3 T de h1⟩
 case S=>exact fun K H a Pt ns aL lx d4=>⟨a,ns,rfl,L2.Sc.ah9 lx d4,aL,⟨#[],lx.1,.inl rfl⟩,fun _=>rfl⟩
 case C=>exact fun _ _ _ _ z=>z
