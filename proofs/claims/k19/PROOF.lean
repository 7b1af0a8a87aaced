import PyProof.Rows.All
import Wide.All
import OpenK.AllK
import Wide.FinOn
import Lean
import PyProof.EqAt
import PyProof.EqKinds
import PyProof.TupleCall
import KE.KTryMore
import PyProof.NsDelKeeps
import PySem.Challenge.RW_lampway_k19_whole_round
set_option compiler.extract_closed false
set_option Elab.async false
set_option linter.all false
set_option maxRecDepth 100000
local macro_rules | `(tactic| ac_nf)=>`(tactic| decide +kernel)
local macro_rules | `(tactic| omega)=>`(tactic| first | with_reducible assumption | omega (splitDisjunctions := true))
open Array renaming find?_toList→aeJ,getElem?_eq_some_iff→CD,getElem?_setIfInBounds_ne→Jb,getElem?_toList→aa_,length_toList→Cn,toList→afL,toList_append→oM,toList_inj→To
open Bool renaming and_eq_false_iff→TH,and_eq_true→iP,eq_iff_iff→n_,false_and→q4,false_eq_true→Im,false_ne_true→hB,false_or→m2,not_eq_true'→ab5,or_eq_false_iff→Nz,or_eq_true→w5,or_false→EA,or_true→zR,true_and→xh,true_or→sO
open Char renaming toNat→tV
open Except renaming error→v8,ok→pA
open False renaming elim→jg
open ForInStep renaming yield→vS
open Int renaming add_emod→Mg,add_emod_emod→Sy,add_emod_right→agD,add_mul_emod_self_left→w9,dvd_refl→aau,ediv_one→Wn,emod_add_emod→Oy,emod_emod_of_dvd→adx,emod_eq_of_lt→i4,emod_lt_of_pos→ff,emod_nonneg→e',emod_self→aai,emod_sub_emod→kJ,le_refl→ui,le_trans→yD,mul_neg→XK,mul_one→aem,natCast_emod→Zq,sub_self→Qo,toNat_natCast→AY,toNat_of_nonneg→iJ,zero_add→AN,zero_emod→K6
open List renaming all_cons→adM,all_eq_true→qG,all_map→Su,any_cons→pw,any_eq_false→EX,any_eq_true→pY,any_map→agI,any_nil→Ww,append_assoc→oI,append_nil→oa,cons_append→sy,contains_cons→Bt,drop_eq_getElem_cons→qW,drop_length→Mm,drop_of_length_le→Bm,eraseIdx_of_length_le→adT,exists_cons_of_ne_nil→acv,ext_getElem→x8,filterMap_cons→JH,filter_append→Nf,filter_cons_of_neg→Jq,filter_cons_of_pos→Ls,find?→OA,find?_cons→n9,find?_eq_none→sb,find?_eq_some_iff_getElem→WJ,findSome?_cons→Uv,findSome?_eq_none_iff→agf,flatten_append→Ni,flatten_cons→rz,flatten_nil→SI,foldl_append→OE,foldl_cons→wR,foldl_nil→vf,getD→Lx,getD_eq_getElem?_getD→jW,getElem?_append_left→v7,getElem?_append_right→xo,getElem?_cons_succ→wJ,getElem?_eq_getElem→b7,getElem?_eq_none→aaV,getElem?_eq_some_iff→cg,getElem?_map→eA,getElem?_of_mem→oD,getElem?_range→QW,getElem?_replicate→DS,getElem?_reverse→OK,getElem?_set_ne→qZ,getElem?_set_self→oC,getElem?_take_of_lt→yB,getElem?_toArray→U7,getElem?_zip_eq_some→Wo,getElem_append→X3,getElem_inj→FW,getElem_map→Ai,getElem_mem→vC,getElem_of_mem→sg,getElem_zipIdx→Z',length→md,length_append→dP,length_cons→hb,length_drop→adK,length_eraseIdx_le→M8,length_filter_le→Jn,length_map→a',length_nil→sm,length_range→A3,length_replicate→uY,length_reverse→uW,length_set→zO,length_singleton→Ax,length_take→gV,length_zip→J_,lookup→m7,lookup_cons→mO,map→gv,map_append→eM,map_congr_left→aaA,map_cons→eJ,map_map→vI,map_nil→i_,map_replicate→ag3,map_reverse→K',map_set→SK,mem_append→jh,mem_append_left→Jr,mem_append_right→m6,mem_cons→dQ,mem_cons_of_mem→fw,mem_cons_self→ma,mem_eraseIdx_iff_getElem?→afu,mem_filter→j2,mem_filterMap→Ta,mem_flatten→U8,mem_map→dX,mem_of_getElem?→c2,mem_of_mem_take→D3,mem_range→ph,mem_singleton→jB,mem_zipIdx_iff_getElem?→ag2,min?_eq_some_iff→ZI,nil_append→AJ,nodup_append→afn,nodup_cons→wN,nodup_nil→Q0,not_mem_nil→jX,of_mem_zip→Jy,pairwise_iff_getElem→CZ,range→fc,range_succ→Ei,replicate→v9,set_cons_succ→jv,set_cons_zero→je,size_toArray→fy,sublist_flatten_of_mem→Z1,sum_cons→KC,take_add_one→vh,take_append_drop→abC,take_length→kH,take_of_length_le→o9,take_zero→Ag
open List.Pairwise renaming filter→aik,nil→aiZ
open List.cons renaming inj→uH
open Nat renaming add_mod_mod→adE,le_of_eq→zw,le_of_lt→pM,le_refl→b2,le_succ→sG,le_trans→c1,log2_lt→Sg,lt_irrefl→oo,lt_of_le_of_lt→j0,lt_of_lt_of_le→hK,lt_of_succ_lt_succ→Sp,lt_succ_of_lt→Qj,lt_succ_self→K4,lt_trans→afR,mod_lt→zv,ne_of_gt→H5,ne_of_lt→ft,reduceAdd→Uo,reduceSub→Vw,succ_mul→Zo,succ_ne_self→aaH,toDigits→rC,zero_add→Cg,zero_le→fv
open Ne renaming symm→c6
open Option renaming bind_some→Kr,getD_none→Sq,isSome_map→abc,map_eq_some_iff→Ya,none→VY,toList→Em
open Option.some renaming inj→eS,injEq→xm
open Or renaming inl→mE,inr→pz
open Prod.mk renaming inj→Ky
open PyProof renaming noPylong_small→V_
open PyProof.Rows renaming callWith_builtin1→abP,callWith_type1→rX,iadd_int→ahw,slot_tuple_getitem→OL,split_weight→aaj
open PyProof.Rows.IsTup renaming new→afs
open PySem renaming Within→yv,call→Q8,frameOf→Ii,mem_of_lookup→zg
open PySem.Around renaming under→Ob,under_plainId→ZO
open PySem.Builtin.Builtins renaming bindParams→SW
open PySem.Builtin.List renaming listExtendWith→GV,listItems→TZ,listLengthHint→abo,listSameRef→agX,listUpdate→aib
open PySem.Builtin.Range renaming rangeFitsLong→ai5,rangeSize→GJ,small→abF
open PySem.Builtin.Slice renaming sliceAdjust→M6,sliceApplied→aaM,sliceFields→ahy,slicePartIndex→ahL,slicePlaces→Fx
open PySem.Builtin.Str renaming occurrences→qm,partsBetween→aeq,strKind→abB
open PySem.Builtin.Tuple renaming tupleExact→HX,tupleItemsOf→ah5
open PySem.Calls renaming Constant_str→Uh,Name_function_global→Ur,spliced_cons→T',spliced_nil→adD
open PySem.CmpOp renaming NotIn→adC
open PySem.Code renaming frames→adY,isFrame→NJ,quiet_builtin→UJ
open PySem.Data renaming cell→O7,fields→Kz
open PySem.EntryCells renaming newEntry→aad
open PySem.EqMixed renaming eq_bool_str→aha,eq_int_str→aiP,eq_str_bool→aip,eq_str_int→aiq,ne_bool_str→ah8,ne_int_str→aiy,ne_str_bool→ai6,ne_str_int→aiY
open PySem.EqNone renaming eq_bool_none→ai9,eq_int_none→aiV,eq_none_bool→ahK,eq_none_int→aif,eq_none_none→ag7,eq_none_str→ahE,eq_str_none→ahN,ne_bool_none→ag_,ne_int_none→aiU,ne_none_bool→ahI,ne_none_int→aiQ,ne_none_none→aiT,ne_none_str→aio,ne_str_none→aiA
open PySem.Expr renaming Call→KZ
open PySem.F renaming args_list_index_2→Vd,args_str_split_2→MT,args_tuple_add_2→X9,entry_list_index→WW,entry_min_loop→agB,entry_str_split→Ko,entry_tuple_add→agu,excBase_ValueError→TJ,plainAttrs_list→lZ,plainAttrs_str→H8,plain_min_loop→u5,slot_list_append→oA,slot_list_index→A7,slot_str_join→aeO,slot_str_split→Bu,slot_tuple_add→abT,type_list_append→pS,type_list_index→Kv,type_str_join→acx,type_str_split→Tx
open PySem.Heap renaming MadeExcOf→adu,SameBut→z2,get?_none_of_le→Jx,get?_push_of_some→dY,get?_push_size→gz,get?_update_other→jn,get?_update_self→mR,lt_size→dv,size_push→wC,size_update→XD
open PySem.Heap.IsSliceOf renaming new→ahD
open PySem.Heap.Ns1 renaming of_empty→ae3
open PySem.IsRange renaming new→abM
open PySem.NameKind renaming cell→Qh,free→oW
open PySem.NumText renaming digitsVal→N3
open PySem.Obj renaming data_mapFields→Mx,isFreed_of_fields→UN,mapFields→pT,mapSeq→qx
open PySem.Paired renaming length→Gs,snoc→Rj
open PySem.PassesOwn renaming never→fG
open PySem.SeqAt renaming EqAt→aeg,list_indexAt→acw
open PySem.SeqAt.EqAt renaming int_str→aag,str_int→V3
open PySem.Str renaming cps_append→pQ,join→eG,length→Fj,ofString→ah
open PySem.StrLaws renaming glued_eq_join→LW,reprText_len→aiC
open PySem.Txt renaming join→uP,slice→vO,slice_le→EI,split→gT
open PySem.Value renaming bool→kC,builtin→wQ,bytes→GK,float→B0,int→lq,isInt→acd,isStrOf→Wq,none→jw,ref→dk,str→qz,type→pB
open PySem.W renaming Frag→a6,InitBack→adi,InstAt→r5,Looks→Ht,OpenLaw→Xu,WalkO→Zj,any_some→qc,bind_fn→V1,callWith_K→uw,callWith_K0→Y',cellsFrom_some→VU,clsIn→DZ,cls_value→Vx,codeIn→NF,emptyDict→ja,exmOne→eY,findCls→abm,findIn→dg,fnOf→uu,handedIn→aat,hasDictIn→x2,instObj→p_,isFn→H3,keepIn→oh,kitAny→rZ,kitOne→jR,lookIn→HF,looks_clsIn→FU,looks_findIn→El,looks_mroIn→Tg,makesIn→afd,methodCall_KW→ze,methodObj→Li,method_cls→afA,mroIn→wD,nsIn→NR,plainGet→Fe,plainGet_of→PV,plainOver→afz,readsIn→UB,set_plain→KQ,specialIn→sS,takerIn→JC,takesIn→CR,typeIn→PO
open PySem.W.KIN renaming signs_num→R3
open PySem.W.Looks renaming here→Pa,ld→aiu
open PySem.W.WData renaming int→Vy
open PySem.W.WShape renaming has→afp
open PySem.Walks renaming list→RK,range→WV
open PySem.Within renaming cons→MZ
open Sum renaming inl→sE,inr→bN
open Sum.inr renaming inj→wZ
open True renaming intro→jZ
namespace L2
open PySem PySem.Spec PyProof.Rows
noncomputable abbrev Key:=Sum Int Str
noncomputable def sk:Key->Value->Bool
 | .inl k,v=>acd k v
 | .inr x,v=>Wq x v
noncomputable def Tf (w:World):Key->Int
 | .inl k=>hashInt k
 | .inr x=>hashStr w x
theorem nX:∀ {k:Key} {v:Value},sk k v=true->(∃ i t,k=sE i/\v=lq i t)\/(∃ x t,k=bN x/\v=qz x t)
 | .inl i,v,h=>by
  obtain ⟨t,e⟩:=Value.isInt_shape (k:=i) (v:=v) h;exact .inl ⟨i,t,rfl,e⟩
 | .inr x,v,h=>by
  obtain ⟨t,e⟩:=Value.isStrOf_shape (x:=x) (v:=v) h;exact .inr ⟨x,t,rfl,e⟩
theorem aa6 (i:Int) (t:Tok):sk (.inl i) (.int i t)=true:=by simp [sk,acd]
theorem NE (x:Str) (t:Tok):sk (.inr x) (.str x t)=true:=by simp [sk,Wq]
theorem RX (a b:Int):decide ((sE a:Key)=sE b)=(a == b):=by
 by_cases e:a=b
 .subst e;simp
 .have h:¬ (sE a:Key)=sE b:=fun q=>e (Sum.inl.inj q)
  rw [decide_eq_false h];exact (beq_eq_false_iff_ne.mpr e).symm
theorem acz (a b:Str):decide ((bN a:Key)=bN b)=decide (a=b):=by
 by_cases e:a=b
 .subst e;simp
 .have h:¬ (bN a:Key)=bN b:=fun q=>e (wZ q)
  rw [decide_eq_false h,decide_eq_false e]
theorem Wl (a:Int) (b:Str):decide ((sE a:Key)=bN b)=false:=decide_eq_false (fun q=>nomatch q)
theorem Xp (a:Str) (b:Int):decide ((bN a:Key)=sE b)=false:=decide_eq_false (fun q=>nomatch q)
noncomputable def iN (prog:Program) (w:World):PySem.KeyKind prog w Key where
 is:=sk
 hash:=Tf w
 inj:=fun v a b aJ ab=>by
  rcases nX aJ with ⟨i,t,rfl,rfl⟩ | ⟨x,t,rfl,rfl⟩
  .rcases nX ab with ⟨j,u,rfl,e⟩ | ⟨y,u,rfl,e⟩
   .injection e with ax _;rw [ax]
   .exact nomatch e
  .rcases nX ab with ⟨j,u,rfl,e⟩ | ⟨y,u,rfl,e⟩
   .exact nomatch e
   .injection e with ax _;rw [ax]
 byValue:=fun k v h=>by
  rcases nX h with ⟨i,t,rfl,rfl⟩ | ⟨x,t,rfl,rfl⟩ <;> rfl
 pyHash:=fun aM h=>by
  rcases nX aM with ⟨i,t,rfl,rfl⟩ | ⟨x,t,rfl,rfl⟩
  .exact wpAny_pyHash_int h
  .exact wpAny_pyHash_str h
 eqBool:=fun bQ aM h=>by
  rcases nX bQ with ⟨i,t,rfl,rfl⟩ | ⟨x,t,rfl,rfl⟩
  .rcases nX aM with ⟨j,u,rfl,rfl⟩ | ⟨y,u,rfl,rfl⟩
   .rw [RX] at h;exact wpAny_eqBool_int h
   .rw [Wl] at h;exact aag i t y u _ _ _ _ h
  .rcases nX aM with ⟨j,u,rfl,rfl⟩ | ⟨y,u,rfl,rfl⟩
   .rw [Xp] at h;exact V3 x t j u _ _ _ _ h
   .rw [acz] at h;exact wpAny_eqBool_str h
 «strs»:=fun k x t v h=>by
  rcases nX h with ⟨i,u,rfl,e⟩ | ⟨y,u,rfl,e⟩
  .exact nomatch e
  .injection e with ax _;subst ax;cases v <;> rfl
theorem YC (prog:Program) (w:World) (i:Int) (t:Tok):(iN prog w).is (.inl i) (.int i t)=true:=aa6 i t
theorem TY (prog:Program) (w:World) (x:Str) (t:Tok):(iN prog w).is (.inr x) (.str x t)=true:=NE x t
inductive V where
 | bH | bq (b:Bool) | int (i:Int) | str (x:Str) | j8 (b:Array UInt8) | sa (b:UInt64) | ref (a:Addr) | ty (n:String)
 deriving DecidableEq
noncomputable def bO:V->Value->Prop
 | .bH,u=>u=jw
 | .bq b,u=>u=kC b
 | .int i,u=>∃ t,u=lq i t
 | .str x,u=>∃ t,u=qz x t
 | .j8 b,u=>∃ t,u=GK b t
 | .sa b,u=>∃ t,u=B0 b t
 | .ref a,u=>u=dk a
 | .ty n,u=>u=pB n
noncomputable abbrev re:List V->List Value->Prop:=Paired bO
theorem re.length {xs:List V} {us:List Value} (r:re xs us):xs.length=us.length:=Gs r
theorem re.get:∀ {xs:List V} {us:List Value} {i:Nat} {x:V},re xs us->xs[i]? = some x->∃ u,us[i]? = some u/\bO x u
 | _,_,_,_,.nil,e=>by simp at e
 | _,_,0,_,.cons r _,e=>by simp at e;subst e;exact ⟨_,rfl,r⟩
 | _,_,i + 1,x,.cons _ t,e=>by
  obtain ⟨u,ae,ak⟩:=re.get (i:=i) (x:=x) t (by simpa using e);exact ⟨u,by simpa using ae,ak⟩
theorem re.set {x:V} {u:Value} (r:bO x u):∀ {xs:List V} {us:List Value} (i:Nat),re xs us->re (xs.set i x) (us.set i u)
 | _,_,_,.nil=>.nil
 | _,_,0,.cons _ t=>.cons r t
 | _,_,i + 1,.cons q t=>.cons q (re.set r i t)
theorem re.append:∀ {xs ys:List V} {us ws:List Value},re xs us->re ys ws->re (xs ++ ys) (us ++ ws)
 | _,_,_,_,.nil,s=>s
 | _,_,_,_,.cons r t,s=>.cons r (re.append t s)
theorem re.take:∀ {xs:List V} {us:List Value} (n:Nat),re xs us->re (xs.take n) (us.take n)
 | _,_,0,_=>.nil
 | _,_,_ + 1,.nil=>.nil
 | _,_,n + 1,.cons r t=>.cons r (re.take n t)
theorem re.drop:∀ {xs:List V} {us:List Value} (n:Nat),re xs us->re (xs.drop n) (us.drop n)
 | _,_,0,r=>r
 | _,_,_ + 1,.nil=>.nil
 | _,_,n + 1,.cons _ t=>re.drop n t
noncomputable def hE:Option V->Option Value->Prop
 | some v,some u=>bO v u
 | none,none=>True
 | _,_=>False
noncomputable def fo {dF:Type}:List (dF × V)->List (dF × Value)->Prop:=Paired fun (p:dF × V) (q:dF × Value)=>p.1=q.1/\bO p.2 q.2
noncomputable def eo:Key->V
 | .inl i=>.int i
 | .inr x=>.str x
inductive df where
  | lst (xs:List V)
  | tup (xs:List V)
  | cE (aT:List (Key × V)) | jL (aT:List (List Key × V))
  | set (S:Int->Bool) (n:Nat)
  | ins (C aj:Addr) (aN:List (Str × V))
  | own (x:Addr)
  | zf (aN:List (Str × V))
  | met (f x:Addr)
  | AK (lo ai:Int)
  | i3 (o:Obj) (u:df)
  | o8 (ps:Array Value)
  | ext (sl:Heap->Prop)
noncomputable abbrev ag:=Addr->Option df
noncomputable def upd (H:ag) (a:Addr) (o:df):ag:=fun b=>if b=a then some o else H b
theorem aU {H:ag} {a:Addr} {o:df}:upd H a o a=some o:=by unfold upd;rw [if_pos rfl]
theorem aW {H:ag} {a b:Addr} {o:df} (h:b ≠ a):upd H a o b=H b:=by unfold upd;rw [if_neg h]
theorem nz {H:ag} {a:Addr} {o u:df}:upd (upd H a o) a u=upd H a u:=by
 funext b;unfold upd;split <;> rfl
theorem d0 {H:ag} {a b:Addr} {o u:df} (h:H a=some o) (h':H b=some u) (d:o ≠ u):a ≠ b:=by
 intro e;subst e;rw [h] at h';exact d (eS h')
theorem cy {H:ag} {a b:Addr} {o:df} (h:H a=some o) (h':H b=none):a ≠ b:=by
 intro e;subst e;rw [h] at h';cases h'
section
variable (P:Program) (w:World)
noncomputable def ea (H:ag) (h:Heap) (a:Addr):df->Prop
 | .lst xs=>xs.length <= sizeLine/\∃ (a0:List Value) (n:Nat),re xs a0/\h.get? a=some { cls:=.type "list",data:=.seq a0.toArray n }
 | .tup xs=>(xs.length <= sizeLine/\∃ cu,h.get? a=some cu/\cu.dict=none)/\∃ a0:List Value,re xs a0/\IsTup h a a0.toArray
 | .cE aT=>aT.length <= sizeLine/\(a == sysModules)=false/\∃ vs,fo aT vs/\h.DictOf (iN P w) a vs
 | .jL aT=>aT.length <= sizeLine/\(a == sysModules)=false/\∃ xs:List (List Key × Addr × Value),
   Paired (fun (p:List Key × V) (q:List Key × Addr × Value)=>p.1=q.1/\H q.2.1=some (.tup (p.1.map eo))/\bO p.2 q.2.2) aT xs /\
   ∃ o a4 dS,h.get? a=some o/\o.ExactDict/\o.data=.dict a4 dS/\a4.toList=xs.map (entryOfKey (tupleKind (iN P w)))/\(xs.map (·.1)).Nodup
 | .set S n=>h.SetOf (intKind P w) a S n
 | .ins C aj aN=>H aj=some (.own a)/\aN.length <= 1000/\aj ≠ a/\h.get? a=some (p_ C aj) /\
   ∃ c3,h.Ns1 aj c3/\(∀ f,hE (aN.lookup f) (c3 f))/\yv c3 (aN.map (·.1))
 | .own _=>∃ o,h.get? a=some o
 | .zf aN=>∃ c3,h.Ns1 a c3/\∀ f,hE (aN.lookup f) (c3 f)
 | .AK lo ai=>∃ t u v,h.get? a=some { cls:=.type "range",data:=.fields #[.int lo t,.int ai u,.int 1 v] }
 | .i3 o u=>h.get? a=some o/\ea H h a u
 | .o8 ps=>h.get? a=some { cls:=.none,data:=.fields ps }
 | .met f x=>h.get? a=some (Li (.ref f) (.ref x))
 | .ext sl=>sl h/\(∃ o,h.get? a=some o)/\∀ ae ak:Heap,sl ae->(∀ o,ae.get? a=some o->ak.get? a=some o)->sl ak
noncomputable def eI (H:ag) (h:Heap):Prop:=∀ a o,H a=some o->ea P w H h a o
end
section
variable {P:Program} {w:World} {H I:ag} {h h':Heap} {a:Addr} {o:df}
theorem ea.lt (x:ea P w H h a o):a < h.objs.size:=by
 cases o with
 | lst xs=>obtain ⟨_,_,_,_,e⟩:=x;exact dv e
 | tup xs=>obtain ⟨_,_,_,p⟩:=x;exact p.lt
 | cE aT=>obtain ⟨_,_,_,_,o,_,_,e,_⟩:=x;exact dv e
 | jL aT=>obtain ⟨_,_,_,_,o,_,_,e,_⟩:=x;exact dv e
 | set S n=>obtain ⟨o,_,_,_,e,_⟩:=x;exact dv e
 | ins C aj aN=>obtain ⟨_,_,_,e,_⟩:=x;exact dv e
 | own y=>obtain ⟨_,e⟩:=x;exact dv e
 | zf aN=>obtain ⟨_,⟨_,_,_,e,_⟩,_⟩:=x;exact dv e
 | AK lo ai=>obtain ⟨_,_,_,e⟩:=x;exact dv e
 | i3 cu u=>obtain ⟨e,_⟩:=x;exact dv e
 | o8 ps=>exact dv (show h.get? a=some _ from x)
 | met f y=>exact dv (show h.get? a=some _ from x)
 | ext sl=>obtain ⟨_,⟨_,e⟩,_⟩:=x;exact dv e
theorem Paired.Hf {α β:Type} {F G:α->β->Prop}:∀ {RA:List α} {J':List β},Paired F RA J'->(∀ a b,F a b->G a b)->Paired G RA J'
 | _,_,.nil,_=>.nil
 | _,_,.cons r t,f=>.cons (f _ _ r) (Paired.Hf t f)
theorem ea.nu (x:ea P w H h a o) (k:∀ b u,(b=a\/H b=some (.own a))->h.get? b=some u->h'.get? b=some u)
  (a7:∀ b,H b=some (.own a)->I b=some (.own a)) (ct:∀ b xs,H b=some (.tup xs)->I b=some (.tup xs)):ea P w I h' a o:=by
 induction o with
 | lst xs=>obtain ⟨z,a0,n,r,e⟩:=x;exact ⟨z,a0,n,r,k _ _ (.inl rfl) e⟩
 | tup xs=>obtain ⟨⟨z,Yw,UR,ae2⟩,a0,r,cu,e,c⟩:=x;exact ⟨⟨z,Yw,k _ _ (.inl rfl) UR,ae2⟩,a0,r,cu,k _ _ (.inl rfl) e,c⟩
 | cE aT=>obtain ⟨z,y,vs,r,cu,a4,dS,e,c⟩:=x;exact ⟨z,y,vs,r,cu,a4,dS,k _ _ (.inl rfl) e,c⟩
 | jL aT=>
  obtain ⟨z,y,xs,r,cu,a4,dS,e,c⟩:=x;exact ⟨z,y,xs,Paired.Hf r fun p q z=>⟨z.1,ct _ _ z.2.1,z.2.2⟩,cu,a4,dS,k _ _ (.inl rfl) e,c⟩
 | set S n=>obtain ⟨cu,a4,dS,t,e,c⟩:=x;exact ⟨cu,a4,dS,t,k _ _ (.inl rfl) e,c⟩
 | ins C aj aN=>
  obtain ⟨d,z,ne,e,c3,⟨od,a4,dS,aG,c⟩,r⟩:=x;exact ⟨a7 _ d,z,ne,k _ _ (.inl rfl) e,c3,⟨od,a4,dS,k _ _ (.inr d) aG,c⟩,r⟩
 | own y=>obtain ⟨cu,e⟩:=x;exact ⟨cu,k _ _ (.inl rfl) e⟩
 | zf aN=>obtain ⟨c3,⟨od,a4,dS,e,c⟩,r⟩:=x;exact ⟨c3,⟨od,a4,dS,k _ _ (.inl rfl) e,c⟩,r⟩
 | AK lo ai=>obtain ⟨t,u,v,e⟩:=x;exact ⟨t,u,v,k _ _ (.inl rfl) e⟩
 | i3 cu u cj=>obtain ⟨e,q⟩:=x;exact ⟨k _ _ (.inl rfl) e,cj q⟩
 | o8 ps=>
  have e:h.get? a=some { cls:=.none,data:=.fields ps }:=x;show h'.get? a=some { cls:=.none,data:=.fields ps };exact k a _ (.inl rfl) e
 | met f y=>
  have e:h.get? a=some (Li (.ref f) (.ref y)):=x;show h'.get? a=some (Li (.ref f) (.ref y));exact k a _ (.inl rfl) e
 | ext sl=>obtain ⟨p,⟨o,e⟩,st⟩:=x;exact ⟨st _ _ p fun o q=>k _ _ (.inl rfl) q,⟨o,k _ _ (.inl rfl) e⟩,st⟩
theorem eI.lt (x:eI P w H h) (e:H a=some o):a < h.objs.size:=(x a o e).lt
theorem eI.fresh (x:eI P w H h) (e:h.objs.size <= a):H a=none:=by
 cases q:H a with
 | none=>rfl
 | some u=>exact absurd (hK (x.lt q) e) (oo _)
theorem eI.kept (x:eI P w H h) (k:∀ b u,h.get? b=some u->h'.get? b=some u):eI P w H h':=fun a o e=>
 (x a o e).nu (fun b u _ q=>k b u q) (fun _ q=>q) fun _ _ q=>q
theorem eI.laid (x:eI P w H h) (k:∀ b u,h.get? b=some u->h'.get? b=some u) (aq:h.objs.size <= a) (new:ea P w (upd H a o) h' a o):eI P w (upd H a o) h':=fun b u e=>by
 have aF:=x.fresh aq;by_cases ab:b=a
 .subst ab;rw [aU] at e;cases e;exact new
 .rw [aW ab] at e;exact (x b u e).nu (fun c v _ q=>k c v q) (fun c q=>by rw [aW (cy q aF)];exact q) fun c xs q=>by rw [aW (cy q aF)];exact q
end
noncomputable def kL (H:ag) (a:Addr) (u:df):Prop:=H a=some u\/∃ o,H a=some (.i3 o u)
theorem kL.ok {P:Program} {w:World} {H:ag} {h:Heap} {a:Addr} {u:df} (r:kL H a u) (x:eI P w H h):ea P w H h a u:=by
 rcases r with r | ⟨o,r⟩
 .exact x a u r
 .obtain ⟨_,q⟩:=x a _ r;exact q
noncomputable def mP:Option df->Prop
 | some (.lst _)=>True
 | some (.cE _)=>True
 | some (.jL _)=>True
 | some (.set _ _)=>True
 | some (.ins _ _ _)=>True
 | some (.ext _)=>True
 | _=>False
section
variable {P:Program} {w:World} {H:ag} {h h':Heap} {x e:Addr} {e7:df}
theorem eI.write (ok:eI P w H h) (e8:mP (H x)) (he:e=x\/H e=some (.own x)) (k:∀ b u,b ≠ e->h.get? b=some u->h'.get? b=some u) (sz:∃ u,h'.get? e=some u)
  (new:ea P w (upd H x e7) h' x e7):eI P w (upd H x e7) h':=fun b u q=>by
 have tZ:∀ c y,H c=some (.own y)->c ≠ x:=fun c y r z=>by subst z;rw [r] at e8;exact e8
 have BZ:∀ c xs,H c=some (.tup xs)->c ≠ x:=fun c xs r z=>by subst z;rw [r] at e8;exact e8
 by_cases ab:b=x
 .subst ab;rw [aU] at q;cases q;exact new
 .rw [aW ab] at q;by_cases rg:b=e
  .have d2:H b=some (.own x):=by
    rcases he with z | z
    .exact absurd (rg.trans z) ab
    .rw [rg];exact z
   rw [q] at d2;cases d2;obtain ⟨v,aM⟩:=sz;exact ⟨v,by rw [rg];exact aM⟩
  .refine (ok b u q).nu (fun c v ar r=>k c v ?_ r) (fun c r=>by rw [aW (tZ c b r)];exact r) fun c xs r=>by rw [aW (BZ c xs r)];exact r
   rcases ar with rfl | ar
   .exact rg
   .rintro rfl;rcases he with z | z
    .exact tZ c b ar z
    .rw [ar] at z;cases z;exact ab rfl
end
structure f9 (aN ex:List Addr) (H I:ag) (h h':Heap):Prop where
 keep:∀ b o,h.get? b=some o->H b=none->b ∉ aN->b ∉ ex->h'.get? b=some o
 slot:∀ b o,h.get? b=some o->H b=none->b ∈ aN->b ∉ ex->∃ aP,h'.get? b=some { o with slots:=aP }
 free:∀ b o,h.get? b=some o->H b=none->b ∉ ex->I b=none
 there:∀ b o,h.get? b=some o->b ∉ ex->∃ e7,h'.get? b=some e7
 nJ:∀ b xs,H b=some (.tup xs)->I b=some (.tup xs)
 mm:∀ b o u,H b=some (.i3 o u)->I b=some (.i3 o u)
 ng:∀ b ps,H b=some (.o8 ps)->∃ more,I b=some (.o8 (ps ++ more))
section
variable {aN mM ex ah9:List Addr} {H H1 ay:ag} {h ae ak h':Heap} {a x e:Addr} {o:df}
theorem f9.any (u:f9 aN ex H H1 h ae) {b:Addr} {cu:Obj} (q:h.get? b=some cu) (n:H b=none) (av:b ∉ ex):∃ aP,ae.get? b=some { cu with slots:=aP }:=by
 by_cases ab:b ∈ aN
 .exact u.slot b cu q n ab av
 .exact ⟨cu.slots,u.keep b cu q n ab av⟩
theorem f9.kept (k:∀ b u,h.get? b=some u->h'.get? b=some u):f9 aN ex H H h h':=
 ⟨fun b cu q _ _ _=>k b cu q,fun b cu q _ _ _=>⟨cu.slots,k b cu q⟩,fun _ _ _ n _=>n,fun b cu q _=>⟨cu,k b cu q⟩,fun _ _ q=>q,fun _ _ _ q=>q,fun _ ps q=>⟨#[],by rw [q];simp⟩⟩
theorem f9.refl:f9 aN ex H H h h:=f9.kept fun _ _ q=>q
theorem f9.laid (k:∀ b u,h.get? b=some u->h'.get? b=some u) (aq:h.objs.size <= a) (aF:H a=none):f9 aN ex H (upd H a o) h h' where
 keep:=fun b u q _ _ _=>k b u q
 slot:=fun b u q _ _ _=>⟨u.slots,k b u q⟩
 free:=fun b u q n _=>by rw [aW (ft (hK (dv q) aq))];exact n
 there:=fun b u q _=>⟨u,k b u q⟩
 nJ:=fun b xs q=>by rw [aW (cy q aF)];exact q
 mm:=fun b u xs q=>by rw [aW (cy q aF)];exact q
 ng:=fun b ps q=>⟨#[],by rw [aW (cy q aF),q];simp⟩
theorem f9.write (e8:mP (H x)) (he:e=x\/H e=some (.own x)) (k:∀ b u,b ≠ e->h.get? b=some u->h'.get? b=some u) (sz:∃ u,h'.get? e=some u):f9 aN ex H (upd H x o) h h':=by
 have av:∀ b,H b=none->b ≠ x:=fun b n z=>by subst z;rw [n] at e8;exact e8
 have ab:∀ b,H b=none->b ≠ e:=fun b n z=>by
  subst z;rcases he with r | r
  .exact av b n r
  .rw [n] at r;cases r
 have hm:∀ b u,H b=some u->¬ mP (some u)->b ≠ x:=fun b u q nm z=>by subst z;rw [q] at e8;exact nm e8
 refine ⟨fun b u q n _ _=>k b u (ab b n) q,fun b u q n _ _=>⟨u.slots,k b u (ab b n) q⟩,fun b u q n _=>by rw [aW (av b n)];exact n,fun b u q _=>?_,
  fun b xs q=>by rw [aW (hm b _ q fun z=>z)];exact q,fun b u xs q=>by rw [aW (hm b _ q fun z=>z)];exact q,fun b ps q=>⟨#[],by rw [aW (hm b _ q fun z=>z),q];simp⟩⟩
 by_cases rg:b=e
 .subst rg;exact sz
 .exact ⟨u,k b u rg q⟩
end
noncomputable def xG (h:Heap) (H:ag):List Addr:=(fc h.objs.size).filter fun a=>(H a).isSome
noncomputable def n0 (h:Heap) (H:ag):Heap:=PySem.W.hideAll h (xG h H)
theorem ads (h:Heap) (H:ag):(n0 h H).objs.size=h.objs.size:=PySem.W.hideAll_size _ _
theorem Y6 {h:Heap} {H:ag} {b:Addr} {o:Obj} (e:h.get? b=some o) (n:H b=none):(n0 h H).get? b=some o:=
 PySem.W.hideAll_get _ e fun hm=>by
  have q:(H b).isSome=true:=(j2.mp hm).2;rw [n] at q;simp at q
theorem TO {h:Heap} {H:ag} {b:Addr} {o:Obj} (e:(n0 h H).get? b=some o):h.get? b=some o/\H b=none:=by
 have bB:h.get? b=some o:=PySem.W.of_hideAll (xG h H) e;refine ⟨bB,?_⟩;cases q:H b with
 | none=>rfl
 | some x=>
  have hm:b ∈ xG h H:=j2.mpr ⟨ph.mpr (dv bB),by simp [q]⟩;have z:(n0 h H).get? b=none:=PySem.W.hideAll_none (xG h H) hm;rw [z] at e;cases e
noncomputable def SN (g h:Heap) (L:Addr):List (Addr × Obj):=(fc h.objs.size).filterMap fun a=>if a=L\/(g.get? a).isSome=true then none else (h.get? a).map fun o=>(a,o)
noncomputable def rest (g h:Heap) (L d:Addr):List (Addr × Obj):=(SN g h L).filter fun p=>decide (p.1 ≠ d)
structure Mod (K:a6) (ao:Str->Option Value) (base:Heap):Prop where
 oE:K.In base
 glob:base.Ns mainGlobals ao
 blt:∃ iU,base.Ns builtinsNs iU/\∀ x:Str,x ≠ "__name__" -> iU x=bootBuiltins x
 nolimit:base.NoLimit
structure aL where
 prog:Program
 w:World
 K:a6
 ao:Str->Option Value
 base:Heap
 A:Around
 N:List Str
 eX:Shared
 rT:ag
 env:Env
 outer:List Env
 stack:List Env
 ex:List Addr
 fn:Str->Bool
 calm:Bool
 ek:List (Addr × Obj)
 c0:Value->Shared->Prop
noncomputable def gR (l:List Env):List Addr:=l.filterMap (·.frame)
noncomputable abbrev aL.aN (X:aL):List Addr:=gR X.outer
noncomputable def zT (sc:Scope) (x:Str):Prop:=sc.names.lookup x=some .local\/sc.names.lookup x=some .cell\/sc.names.lookup x=some .free
noncomputable def Loc (sc:Scope) (x:Str):Prop:=sc.names.lookup x=some .local\/sc.names.lookup x=some .cell
noncomputable def adV (env:Env) (h:Heap) (m:Str->Option Value) (x:Str) (u:Value):Prop:=
 (env.kindOf x=some .local/\m x=some u)\/((env.kindOf x=some .cell\/env.kindOf x=some .free)/\∃ c,env.cells.lookup x=some c/\h.IsCell c (some u))
structure aL.Ok (X:aL):Prop where
 mod:Mod X.K X.ao X.base
 kind:X.env.scope.kind=.function
 glob:X.env.globals=mainGlobals
 blt:X.env.builtins=builtinsNs
 above:X.eX.heap.objs.size <= X.env.locals
 inj:∀ x y c,X.env.cells.lookup x=some c->X.env.cells.lookup y=some c->x=y
 has:∀ x,(X.env.kindOf x=some .cell\/X.env.kindOf x=some .free)->∃ c,X.env.cells.lookup x=some c
 nr:∀ x c,X.fn x=true->X.env.cells.lookup x=some c->X.eX.heap.objs.size <= c
 hd:X.calm=true->X.A.handled=none
 frames:X.A.frames=some X.stack
 oH:X.stack=X.outer\/(X.stack=X.env :: X.outer/\X.env.frame=some X.env.locals)
 rF:∀ b ∈ X.ex,b ≠ X.env.locals/\∀ x c,X.env.cells.lookup x=some c->c ≠ b
 bs:∀ b o,X.base.get? b=some o->X.eX.heap.get? b=some o/\X.rT b=none
 kb:X.base.objs.size <= X.eX.heap.objs.size
 nV:∀ b o,X.base.get? b=some o->b ∉ X.ex
 nh:∀ b ∈ X.ex,b ∉ X.aN
 i2:X.eX.heap.FunFrames X.base X.outer
 mb:∀ b ∈ X.aN,X.rT b=none
structure Inv (X:aL) (aa:List (Addr × Obj)) (σ:List (Option V)) (H:ag) (s:Shared):Prop where
 ok:X.Ok
 os:s.os=X.eX.os
 bare:AllBare s.gens
 base:f9 X.aN X.ex X.rT H X.eX.heap s.heap
 loc:∃ m,s.heap.Ns X.env.locals m/\∀ (i:Nat) (x:Str) (v:V),X.N[i]? = some x->σ[i]? = some (some v)->zT X.env.scope x->∃ u,bO v u/\adV X.env s.heap m x u
 cell:∀ x c,X.env.cells.lookup x=some c->∃ v,s.heap.IsCell c v
 free:H X.env.locals=none
 iK:∀ x c,X.env.cells.lookup x=some c->H c=none
 pin:∀ p ∈ X.ek ++ aa,s.heap.get? p.1=some p.2/\H p.1=none/\p.1 ≠ X.env.locals/\p.1 ∉ X.aN/\∀ v,p.2.data ≠ .cell v
 bl:eI X.prog X.w H s.heap
 len:σ.length=X.N.length
section
variable {X:aL} {aa:List (Addr × Obj)} {σ:List (Option V)} {H I:ag} {s:Shared} {h':Heap}
theorem aL.Ok.uI (ok:X.Ok) {b:Addr} {o:Obj} (e:X.base.get? b=some o):b ∉ X.aN:=fun ab=>by
 have:=(ok.i2.mem ab).1;rw [e] at this;cases this
theorem Inv.bs (J:Inv X aa σ H s):∀ b o,X.base.get? b=some o->s.heap.get? b=some o/\H b=none:=fun b o e=>
 ⟨J.base.keep b o (J.ok.bs b o e).1 (J.ok.bs b o e).2 (J.ok.uI e) (J.ok.nV b o e),J.base.free b o (J.ok.bs b o e).1 (J.ok.bs b o e).2 (J.ok.nV b o e)⟩
theorem Inv.cO (J:Inv X aa σ H s):∀ b o,X.base.get? b=some o->s.heap.get? b=some o:=fun b o e=>(J.bs b o e).1
theorem Inv.mod (J:Inv X aa σ H s):Mod X.K X.ao X.base:=J.ok.mod
theorem Inv.ey (J:Inv X aa σ H s):X.K.In s.heap:=J.ok.mod.oE.keeps J.cO
theorem Inv.fr (J:Inv X aa σ H s):∃ m,Fr X.base X.env.locals s.heap m:=
 let ⟨m,aF,_⟩:=J.loc
 ⟨m,aF,J.cO,c1 J.ok.kb J.ok.above⟩
theorem Inv.lt (J:Inv X aa σ H s):X.env.locals < s.heap.objs.size:=let ⟨_,aF,_⟩:=J.loc;aF.lt
theorem Inv.oT (J:Inv X aa σ H s):X.eX.heap.objs.size <= s.heap.objs.size:=c1 J.ok.above (pM J.lt)
theorem Inv.Pj (J:Inv X aa σ H s) {a:Addr} (h:s.heap.objs.size <= a):a ∉ X.aN:=fun ab=>by
 obtain ⟨_,o,a7,_⟩:=J.ok.i2.mem ab;exact absurd (hK (dv a7) (c1 J.oT h)) (oo _)
theorem Inv.n7 (J:Inv X aa σ H s):∀ x c,X.env.cells.lookup x=some c->c ≠ X.env.locals:=fun x c e z=>by
 obtain ⟨v,o,a7,hd⟩:=J.cell x c e;obtain ⟨m,⟨e7,a4,dS,p6,l3,_⟩,_⟩:=J.loc;rw [z,p6] at a7;cases a7;rw [l3] at hd;cases hd
theorem Inv.i2 (J:Inv X aa σ H s):s.heap.FunFrames X.base X.outer:=by
 have all:∀ (l:List Env),(∀ b ∈ gR l,b ∈ X.aN)->X.eX.heap.FunFrames X.base l->s.heap.FunFrames X.base l:=by
  intro l
  induction l with
  | nil=>intro _ _;trivial
  | cons env r cj=>
   intro aw aA;obtain ⟨aE,⟨L,o,hf,aF,a7,hd⟩,au⟩:=aA;have iX:L ∈ X.aN:=aw L (by unfold gR;rw [JH,hf];exact ma);obtain ⟨aP,e⟩:=J.base.slot L o a7 (J.ok.mb L iX) iX fun z=>J.ok.nh L z iX
   exact ⟨aE,⟨L,_,hf,aF,e,hd⟩,cj (fun b ab=>aw b (by unfold gR;rw [JH,hf];exact fw _ ab)) au⟩
 exact all X.outer (fun _ ab=>ab) J.ok.i2
theorem Inv.stack (J:Inv X aa σ H s):s.heap.FunFrames X.base X.stack:=by
 rcases J.ok.oH with e | ⟨e,hf⟩
 .rw [e];exact J.i2
 .rw [e];obtain ⟨m,aF,_⟩:=J.loc;refine .cons (by rw [J.ok.kind];decide) hf aF ?_ J.i2;exact Jx (c1 J.ok.kb J.ok.above)
theorem Inv.yX (J:Inv X aa σ H s):∀ b ∈ gR X.stack,b ∈ X.env.locals :: X.aN:=fun b ab=>by
 rcases J.ok.oH with e | ⟨e,hf⟩
 .rw [e] at ab;exact fw _ ab
 .rw [e] at ab;unfold gR at ab;rw [JH,hf] at ab;exact ab
theorem Inv.yF (J:Inv X aa σ H s):∀ b ∈ gR X.stack,H b=none:=fun b ab=>by
 rcases dQ.mp (J.yX b ab) with e | ab
 .rw [e];exact J.free
 .obtain ⟨_,o,a7,_⟩:=J.ok.i2.mem ab;exact J.base.free b o a7 (J.ok.mb b ab) fun z=>J.ok.nh b z ab
theorem Inv.step {g':Array GenState} {t':Nat} {d':Drawn} {ch:List Addr} (J:Inv X aa σ H s)
  (mI:∀ b ∈ ch,(b ∈ X.ex\/X.eX.heap.objs.size <= b)/\b ≠ X.env.locals/\(∀ x c,X.env.cells.lookup x=some c->c ≠ b)/\∀ p ∈ X.ek ++ aa,p.1 ≠ b)
  (keep:∀ b o,b ≠ X.env.locals->b ∉ X.aN->b ∉ ch->s.heap.get? b=some o->H b=none->h'.get? b=some o)
  (slot:∀ b o,b ≠ X.env.locals->b ∈ X.aN->b ∉ ch->s.heap.get? b=some o->H b=none->∃ aP,h'.get? b=some { o with slots:=aP }) (free:∀ b o,b ∉ ch->s.heap.get? b=some o->H b=none->I b=none)
  (there:∀ b o,b ∉ ch->s.heap.get? b=some o->∃ e7,h'.get? b=some e7)
  (nJ:∀ b xs,H b=some (.tup xs)->I b=some (.tup xs)) (mm:∀ b o u,H b=some (.i3 o u)->I b=some (.i3 o u)) (ng:∀ b ps,H b=some (.o8 ps)->∃ more,I b=some (.o8 (ps ++ more)))
  (ns:∀ m,s.heap.Ns X.env.locals m->h'.Ns X.env.locals m) (bl:eI X.prog X.w I h') (a3:AllBare g') :
  Inv X aa σ I { s with heap:=h',gens:=g',drawn:=d',toks:=t' }:=by
 have rH:∀ b o,X.eX.heap.get? b=some o->b ≠ X.env.locals:=fun b o e=>ft (hK (dv e) J.ok.above)
 have yG:∀ b o,X.eX.heap.get? b=some o->b ∉ X.ex->b ∉ ch:=fun b o e av ab=>by
  rcases (mI b ab).1 with z | z
  .exact av z
  .exact absurd (hK (dv e) z) (oo _)
 have cellK:∀ x c,X.env.cells.lookup x=some c->∀ v,s.heap.IsCell c v->h'.IsCell c v:=fun x c e v ⟨o,a7,hd⟩=>by
  have uo:c ∉ ch:=fun z=>(mI c z).2.2.1 x c e rfl
  by_cases ar:c ∈ X.aN
  .obtain ⟨aP,q⟩:=slot c o (J.n7 x c e) ar uo a7 (J.iK x c e);exact ⟨_,q,hd⟩
  .exact ⟨o,keep c o (J.n7 x c e) ar uo a7 (J.iK x c e),hd⟩
 refine ⟨J.ok,J.os,a3,⟨fun b o e n ab av=>?_,fun b o e n ab av=>?_,fun b o e n av=>?_,fun b o e av=>?_,fun b xs e=>nJ b xs (J.base.nJ b xs e),fun b o xs e=>mm b o xs (J.base.mm b o xs e),fun b ps e=>?_⟩,?_,fun x c e=>?_,?_,fun x c e=>?_,fun p aq=>?_,bl,J.len⟩
 .exact keep b o (rH b o e) ab (yG b o e av) (J.base.keep b o e n ab av) (J.base.free b o e n av)
 .obtain ⟨aP,ax⟩:=J.base.slot b o e n ab av;obtain ⟨sr,aG⟩:=slot b _ (rH b o e) ab (yG b o e av) ax (J.base.free b o e n av);exact ⟨sr,aG⟩
 .obtain ⟨e7,ax⟩:=J.base.there b o e av;exact free b e7 (yG b o e av) ax (J.base.free b o e n av)
 .obtain ⟨e7,ax⟩:=J.base.there b o e av;exact there b e7 (yG b o e av) ax
 .obtain ⟨e0,ax⟩:=J.base.ng b ps e;obtain ⟨eW,aG⟩:=ng b _ ax;exact ⟨e0 ++ eW,by rw [aG,Array.append_assoc]⟩
 .obtain ⟨m,aF,aA⟩:=J.loc;refine ⟨m,ns m aF,fun i x v ax aG bM=>?_⟩;obtain ⟨u,r,l⟩:=aA i x v ax aG bM;refine ⟨u,r,?_⟩;rcases l with l | ⟨k,c,e,z⟩
  .exact .inl l
  .exact .inr ⟨k,c,e,cellK x c e _ z⟩
 .obtain ⟨v,z⟩:=J.cell x c e;exact ⟨v,cellK x c e v z⟩
 .obtain ⟨m,⟨o,_,_,a7,_⟩,_⟩:=J.loc;exact free _ o (fun z=>(mI _ z).2.1 rfl) a7 J.free
 .obtain ⟨v,o,a7,hd⟩:=J.cell x c e;exact free c o (fun z=>(mI c z).2.2.1 x c e rfl) a7 (J.iK x c e)
 .obtain ⟨e,n,ne,jK,d⟩:=J.pin p aq;have uo:p.1 ∉ ch:=fun z=>(mI p.1 z).2.2.2 p aq rfl
  exact ⟨keep p.1 p.2 ne jK uo e n,free p.1 p.2 uo e n,ne,jK,d⟩
theorem Inv.un {t':Nat} (J:Inv X aa σ H s) (u:f9 X.aN [] H I s.heap h') (bl:eI X.prog X.w I h'):Inv X aa σ I { s with heap:=h',toks:=t' }:=by
 obtain ⟨m,⟨o,a4,dS,a7,r⟩,_⟩:=id J.loc;obtain ⟨aP,iX⟩:=u.any a7 J.free (by simp);exact J.step (g':=s.gens) (d':=s.drawn) (ch:=[]) (fun _ z=>nomatch z) (fun b o _ ab _ e n=>u.keep b o e n ab (by simp)) (fun b o _ ab _ e n=>u.slot b o e n ab (by simp)) (fun b o _ e n=>u.free b o e n (by simp)) (fun b o _ e=>u.there b o e (by simp)) u.nJ u.mm u.ng (fun dd hm=>by
  obtain ⟨e7,E4,CH,p6,fe⟩:=hm;rw [a7] at p6;cases p6;exact ⟨_,E4,CH,iX,fe⟩) bl J.bare
theorem Inv.call {g':Array GenState} {t':Nat} {d':Drawn} {ch:List Addr} (J:Inv X aa σ H s) (u:f9 (gR X.stack) ch H I s.heap h') (bl:eI X.prog X.w I h') (a3:AllBare g')
  (mI:∀ b ∈ ch,(b ∈ X.ex\/X.eX.heap.objs.size <= b)/\b ≠ X.env.locals/\(∀ x c,X.env.cells.lookup x=some c->c ≠ b)/\∀ p ∈ X.ek ++ aa,p.1 ≠ b) :
  Inv X aa σ I { s with heap:=h',gens:=g',drawn:=d',toks:=t' }:=by
 obtain ⟨m,⟨o,a4,dS,a7,r⟩,_⟩:=id J.loc;obtain ⟨aP,iX⟩:=u.any a7 J.free fun z=>(mI _ z).2.1 rfl
 exact J.step (ch:=ch) mI (fun b o iX ab ar e n=>u.keep b o e n (fun z=>(dQ.mp (J.yX b z)).elim iX ab) ar) (fun b o _ _ ar e n=>u.any e n ar) (fun b o ar e n=>u.free b o e n ar) (fun b o ar e=>u.there b o e ar) u.nJ u.mm u.ng (fun dd hm=>by
  obtain ⟨e7,E4,CH,p6,fe⟩:=hm;rw [a7] at p6;cases p6;exact ⟨_,E4,CH,iX,fe⟩) bl a3
theorem Inv.turned {t':Nat} {it:Addr} (J:Inv X aa σ H s) (k:∀ b o,b ≠ it->s.heap.get? b=some o->h'.get? b=some o) (aF:H it=none) (iX:it ≠ X.env.locals)
  (ae:it ∈ X.ex\/X.eX.heap.objs.size <= it) (ak:∀ x c,X.env.cells.lookup x=some c->c ≠ it) (a_:∀ p ∈ X.ek ++ aa,p.1 ≠ it):Inv X aa σ H { s with heap:=h',toks:=t' }:=by
 have vz:∀ b u,H b=some u->b ≠ it:=fun b u e z=>by rw [z,aF] at e;cases e
 refine J.step (g':=s.gens) (d':=s.drawn) (ch:=[it]) (fun b ab=>?_) (fun b o _ _ ar e _=>k b o (fun z=>ar (by simp [z])) e) (fun b o _ _ ar e _=>⟨o.slots,k b o (fun z=>ar (by simp [z])) e⟩) (fun _ _ _ _ n=>n)
  (fun b o ar e=>⟨o,k b o (fun z=>ar (by simp [z])) e⟩) (fun _ _ e=>e) (fun _ _ _ e=>e) (fun b ps e=>⟨#[],by rw [e];simp⟩) (fun m hm=>?_) (fun b u e=>?_) J.bare
 .have e:b=it:=by simpa using ab
  subst e;exact ⟨ae,iX,ak,a_⟩
 .obtain ⟨o,a4,dS,a7,r⟩:=hm;exact ⟨o,a4,dS,k _ o (c6 iX) a7,r⟩
 .refine (J.bl b u e).nu (fun c v ar q=>k c v ?_ q) (fun _ q=>q) fun _ _ q=>q
  rcases ar with z | z
  .rw [z];exact vz b u e
  .exact vz c _ z
theorem Inv.tok (J:Inv X aa σ H s) (t:Nat):Inv X aa σ H { s with toks:=t }:=J.un (h':=s.heap) (t':=t) f9.refl J.bl
theorem Inv.kept {t':Nat} (J:Inv X aa σ H s) (k:∀ b u,s.heap.get? b=some u->h'.get? b=some u):Inv X aa σ H { s with heap:=h',toks:=t' }:=J.un (f9.kept k) (J.bl.kept k)
theorem Inv.laid {a:Addr} {o:df} {t':Nat} (J:Inv X aa σ H s) (k:∀ b u,s.heap.get? b=some u->h'.get? b=some u) (aq:s.heap.objs.size <= a) (new:ea X.prog X.w (upd H a o) h' a o) :
  Inv X aa σ (upd H a o) { s with heap:=h',toks:=t' }:=J.un (f9.laid k aq (J.bl.fresh aq)) (J.bl.laid k aq new)
theorem Inv.write {x e:Addr} {o:df} {t':Nat} (J:Inv X aa σ H s) (e8:mP (H x)) (he:e=x\/H e=some (.own x)) (k:∀ b u,b ≠ e->s.heap.get? b=some u->h'.get? b=some u) (sz:∃ u,h'.get? e=some u)
  (new:ea X.prog X.w (upd H x o) h' x o):Inv X aa σ (upd H x o) { s with heap:=h',toks:=t' }:=J.un (f9.write e8 he k sz) (J.bl.write e8 he k sz new)
theorem Inv.weak {aS:List (Option V)} (J:Inv X aa σ H s) (aA:aS.length=σ.length) (w:∀ (i:Nat) v,aS[i]? = some (some v)->σ[i]? = some (some v)):Inv X aa aS H s:=
 ⟨J.ok,J.os,J.bare,J.base,let ⟨m,aF,jx⟩:=J.loc;⟨m,aF,fun i x v ax aG bM=>jx i x v ax (w i v aG) bM⟩,J.cell,J.free,J.iK,J.pin,J.bl,aA.trans J.len⟩
theorem Inv.wU {tD:List (Addr × Obj)} (J:Inv X aa σ H s) (h:∀ p ∈ tD,s.heap.get? p.1=some p.2/\H p.1=none/\p.1 ≠ X.env.locals/\p.1 ∉ X.aN/\∀ v,p.2.data ≠ .cell v):Inv X tD σ H s:=
 ⟨J.ok,J.os,J.bare,J.base,J.loc,J.cell,J.free,J.iK,fun p aq=>(jh.mp aq).elim (fun z=>J.pin p (Jr _ z)) (h p),J.bl,J.len⟩
theorem CP {N:List Str} (bb:N.Nodup) {i j:Nat} {x:Str} (a:N[i]? = some x) (b:N[j]? = some x):i=j:=by
 obtain ⟨ae,ax⟩:=cg.mp a;obtain ⟨ak,aG⟩:=cg.mp b;exact (FW bb).mp (ax.trans aG.symm)
theorem JE {M:Model} {A:Around} {E:Value->Shared->Prop} {i:Nat} {x:Str} {v:V} {u:Value} {Q:Unit->Shared->Prop} (J:Inv X aa σ H s) (bb:X.N.Nodup) (ai:X.N[i]? = some x) (av:Loc X.env.scope x) (r:bO v u)
  (h:∀ s',Inv X aa (σ.set i (some v)) H s'->(∃ a,z2 a s.heap s'.heap/\(a=X.env.locals\/X.env.cells.lookup x=some a))->Q () s') (hf:X.fn x=true\/X.env.scope.names.lookup x=some .local:=by first | exact .inl rfl | exact .inr rfl | assumption):wpAny M A (storeName X.env x u) Q E s:=by
 obtain ⟨m,aF,aA⟩:=id J.loc;have VF:(X.env.scope.kind == .class || (X.env.scope.kind == .module && X.env.locals != X.env.globals))=false:=by rw [J.ok.kind];rfl
 have v5:i < σ.length:=by rw [J.len];exact (cg.mp ai).1
 have n7:=J.n7;have tracked:∀ {a:Addr} {h':Heap},(∃ o,s.heap.get? a=some o/\H a=none)->z2 a s.heap h'->eI X.prog X.w H h':=fun {a h'} aJ aw b cu e=>by
  obtain ⟨_,_,L8⟩:=aJ;refine (J.bl b cu e).nu (fun c fi ar q=>(aw.2 c ?_).trans q) (fun _ q=>q) fun _ _ q=>q
  rintro rfl;rcases ar with rfl | ar
  .rw [L8] at e;cases e
  .rw [L8] at ar;cases ar
 rcases av with aE | aE
 .refine wpAny_storeName_local aE aF (fun h' WS aw=>?_) VF;obtain ⟨XP,_,_,abQ,_⟩:=id aF;refine h _ ⟨J.ok,J.os,J.bare,⟨fun b o e n ab av=>?_,fun b o e n ab av=>?_,J.base.free,fun b o e av=>?_,J.base.nJ,J.base.mm,J.base.ng⟩,⟨_,WS,fun j y ku ax aG bM=>?_⟩,fun y c e=>?_,J.free,J.iK,fun p aq=>?_,tracked ⟨XP,abQ,J.free⟩ aw,by simpa using J.len⟩ ⟨_,aw,.inl rfl⟩
  .exact (aw.2 b (ft (hK (dv e) J.ok.above))).trans (J.base.keep b o e n ab av)
  .obtain ⟨aP,ax⟩:=J.base.slot b o e n ab av;exact ⟨aP,(aw.2 b (ft (hK (dv e) J.ok.above))).trans ax⟩
  .obtain ⟨e7,ax⟩:=J.base.there b o e av;exact ⟨e7,(aw.2 b (ft (hK (dv e) J.ok.above))).trans ax⟩
  .by_cases aZ:j=i
   .subst aZ;rw [ai] at ax;cases ax;rw [oC v5] at aG;cases aG;exact ⟨u,r,.inl ⟨aE,by simp⟩⟩
   .rw [qZ (c6 aZ)] at aG;obtain ⟨mf,fe,q⟩:=aA j y ku ax aG bM;refine ⟨mf,fe,?_⟩;rcases q with ⟨k,e⟩ | ⟨k,c,e,z⟩
    .refine .inl ⟨k,?_⟩;have:y ≠ x:=fun e=>aZ (CP bb ax (e ▸ ai))
     simp [this,e]
    .exact .inr ⟨k,c,e,z.sameBut aw (n7 y c e)⟩
  .obtain ⟨fi,z⟩:=J.cell y c e;exact ⟨fi,z.sameBut aw (n7 y c e)⟩
  .obtain ⟨e,n,ne,jK,d⟩:=J.pin p aq;exact ⟨(aw.2 p.1 ne).trans e,n,ne,jK,d⟩
 .have GS:X.fn x=true:=by
   rcases hf with z | z
   .exact z
   .rw [z] at aE;cases aE
  obtain ⟨c,ar⟩:=J.ok.has x (.inl aE);obtain ⟨fi,z⟩:=J.cell x c ar;refine wpAny_storeName_cell J.ok.kind aE ar z (fun h' ni aw=>?_);obtain ⟨lb,PF,afX⟩:=id z;refine h { s with heap:=h' } ⟨J.ok,J.os,J.bare,⟨fun b o e n ab av=>?_,fun b o e n ab av=>?_,J.base.free,fun b o e av=>?_,J.base.nJ,J.base.mm,J.base.ng⟩,⟨m,aF.sameBut aw (c6 (n7 x c ar)),fun j y ku ax aG bM=>?_⟩,fun y eN e=>?_,J.free,J.iK,fun p aq=>?_,tracked ⟨lb,PF,J.iK x c ar⟩ aw,by simpa using J.len⟩ ⟨c,aw,.inr ar⟩
  .exact (aw.2 b (ft (hK (dv e) (J.ok.nr x c GS ar)))).trans (J.base.keep b o e n ab av)
  .obtain ⟨aP,ax⟩:=J.base.slot b o e n ab av;exact ⟨aP,(aw.2 b (ft (hK (dv e) (J.ok.nr x c GS ar)))).trans ax⟩
  .obtain ⟨e7,ax⟩:=J.base.there b o e av;exact ⟨e7,(aw.2 b (ft (hK (dv e) (J.ok.nr x c GS ar)))).trans ax⟩
  .by_cases aZ:j=i
   .subst aZ;rw [ai] at ax;cases ax;rw [oC v5] at aG;cases aG;exact ⟨u,r,.inr ⟨.inl aE,c,ar,ni⟩⟩
   .rw [qZ (c6 aZ)] at aG;obtain ⟨mf,fe,q⟩:=aA j y ku ax aG bM;refine ⟨mf,fe,?_⟩;rcases q with q | ⟨k,eN,e,z'⟩
    .exact .inl q
    .refine .inr ⟨k,eN,e,z'.sameBut aw ?_⟩;rintro rfl;exact aZ (CP bb ax (J.ok.inj _ _ _ e ar ▸ ai))
  .by_cases Mp:eN=c
   .subst Mp;exact ⟨_,ni⟩
   .obtain ⟨d1,dy⟩:=J.cell y eN e;exact ⟨d1,dy.sameBut aw Mp⟩
  .obtain ⟨e,n,ne,jK,d⟩:=J.pin p aq;refine ⟨(aw.2 p.1 ?_).trans e,n,ne,jK,d⟩;intro q;rw [q,PF] at e;have d2:lb=p.2:=eS e;exact d fi (by rw [<- d2];exact afX)
theorem zE {M:Model} {A:Around} {E:Value->Shared->Prop} {i:Nat} {x:Str} {v:V} {u:Value} {Q:Unit->Shared->Prop} (J:Inv X aa σ H s) (bb:X.N.Nodup) (ai:X.N[i]? = some x) (av:Loc X.env.scope x) (r:bO v u)
  (h:∀ s',Inv X aa (σ.set i (some v)) H s'->Q () s') (hf:X.fn x=true\/X.env.scope.names.lookup x=some .local:=by first | exact .inl rfl | exact .inr rfl | assumption):wpAny M A (storeName X.env x u) Q E s:=
 JE J bb ai av r (fun s' jN _=>h s' jN) hf
theorem Inv.uv {s':Shared} {ch:List Addr} (J:Inv X aa σ H s) (a7:s'.os=s.os) (u:f9 (gR X.stack) ch H I s.heap s'.heap) (bl:eI X.prog X.w I s'.heap) (a3:AllBare s'.gens)
  (mI:∀ b ∈ ch,(b ∈ X.ex\/X.eX.heap.objs.size <= b)/\b ≠ X.env.locals/\(∀ x c,X.env.cells.lookup x=some c->c ≠ b)/\∀ p ∈ X.ek ++ aa,p.1 ≠ b):Inv X aa σ I s':=by
 obtain ⟨h',g',d',t',e7⟩:=s';have e:e7=s.os:=a7;subst e;exact J.call (g':=g') (t':=t') (d':=d') u bl a3 mI
end
noncomputable abbrev cD:=Value->Option Addr->ag->Prop
noncomputable abbrev St:=List (Option V)
noncomputable abbrev bG:=V->ag->Prop
noncomputable abbrev TE:=St->ag->bG->Prop
noncomputable abbrev TT:=St->ag->(Bool->ag->Prop)->Prop
noncomputable abbrev dx:=St->ag->(List V->ag->Prop)->Prop
structure d5 where
 b5:St->ag->Prop
 kZ:bG
 cO:St->ag->Prop:=fun _ _=>False
 eP:St->ag->Prop:=fun _ _=>False
noncomputable abbrev cV:=d5->St->ag->Prop
noncomputable def fT (X:aL) (aa:List (Addr × Obj)) (σ:St) (Q:bG) (u:Value) (s':Shared):Prop:=∃ v I,Inv X aa σ I s'/\bO v u/\Q v I
theorem d4 {X:aL} {aa:List (Addr × Obj)} {σ:St} {Q:bG} {u:Value} {s':Shared} {C:Prop} (h:fT X aa σ Q u s') (k:∀ v I,Inv X aa σ I s'->bO v u->Q v I->C):C:=by
 obtain ⟨v,I,J,r,q⟩:=h;exact k v I J r q
noncomputable def yI (X:aL) (aa:List (Addr × Obj)) (σ:St) (Q:Bool->ag->Prop) (b:Bool) (s':Shared):Prop:=∃ I,Inv X aa σ I s'/\Q b I
noncomputable def Zl (X:aL) (aa:List (Addr × Obj)) (σ:St) (Q:List V->ag->Prop) (us:List Value) (s':Shared):Prop:=∃ vs I,Inv X aa σ I s'/\re vs us/\Q vs I
noncomputable def gQ (X:aL) (aa:List (Addr × Obj)) (D:d5) (f:Flow) (s':Shared):Prop:=
 match f with
 | .next=>∃ aS I,Inv X aa aS I s'/\D.b5 aS I
 | .brk=>∃ aS I,Inv X aa aS I s'/\D.cO aS I
 | .cont=>∃ aS I,Inv X aa aS I s'/\D.eP aS I
 | .ret u=>∃ v aS I,Inv X aa aS I s'/\bO v u/\D.kZ v I
noncomputable def br (X:aL) (e:Expr) (t:TE):Prop:=
 ∀ (aa:List (Addr × Obj)) (s:Shared) (σ:St) (H:ag) (Q:bG),Inv X aa σ H s->t σ H Q->wpAny (model X.prog X.w) X.A (eval e X.env) (fT X aa σ Q) X.c0 s
noncomputable def hJ (X:aL) (e:Expr) (t:TT):Prop:=
 ∀ (aa:List (Addr × Obj)) (s:Shared) (σ:St) (H:ag) (Q:Bool->ag->Prop),Inv X aa σ H s->t σ H Q->wpAny (model X.prog X.w) X.A (isTrue e X.env (eval e X.env)) (yI X aa σ Q) X.c0 s
noncomputable def fu (X:aL) (e:Expr) (t:TT):Prop:=
 ∀ (whole:Sem Value) (aa:List (Addr × Obj)) (s:Shared) (σ:St) (H:ag) (Q:Bool->ag->Prop),Inv X aa σ H s->t σ H Q->wpAny (model X.prog X.w) X.A (isTrue e X.env whole) (yI X aa σ Q) X.c0 s
theorem fu.pt {X:aL} {e:Expr} {t:TT} (h:fu X e t):hJ X e t:=h _
noncomputable def dr (X:aL) (a4:List Expr) (t:dx):Prop:=
 ∀ (pos:Pos) (aa:List (Addr × Obj)) (s:Shared) (σ:St) (H:ag) (Q:List V->ag->Prop),Inv X aa σ H s->t σ H Q->wpAny (model X.prog X.w) X.A (spliced (backTo pos (starEach a4 X.env))) (Zl X aa σ Q) X.c0 s
noncomputable def gc (X:aL) (st:Stmt) (t:cV):Prop:=
 ∀ (aa:List (Addr × Obj)) (s:Shared) (σ:St) (H:ag) (D:d5),Inv X aa σ H s->t D σ H->wpAny (model X.prog X.w) X.A (exec st X.env) (gQ X aa D) X.c0 s
noncomputable def gL (X:aL) (st:List Stmt) (t:cV):Prop:=
 ∀ (aa:List (Addr × Obj)) (s:Shared) (σ:St) (H:ag) (D:d5),Inv X aa σ H s->t D σ H->wpAny (model X.prog X.w) X.A (execs st X.env) (gQ X aa D) X.c0 s
theorem bt {α:Type} {t:Sem α} {Q rW:α->Shared->Prop} {M:Model} {A:Around} {E:Value->Shared->Prop} {s:Shared} (h:wpAny M A t Q E s) (a8:∀ a s,Q a s->rW a s):wpAny M A t rW E s:=wpAny_mono h a8 fun _ _ x=>x
section
variable {X:aL}
noncomputable def rj (H:ag) (Q:bG):Option (Option V)->Prop
 | some (some v)=>Q v H
 | _=>False
theorem Nm (H:ag) (Q:bG) (v:V):rj H Q (some (some v))=Q v H:=rfl
theorem rj.out {H:ag} {Q:bG}:∀ {o:Option (Option V)},rj H Q o->∃ v,o=some (some v)/\Q v H
 | some (some v),h=>⟨v,rfl,h⟩
 | some none,h=>h.elim
 | none,h=>h.elim
theorem aaC (H:ag) (Q:bG) (o:Option (Option V)):rj H Q o = ∃ v,o=some (some v)/\Q v H:=propext ⟨rj.out,fun ⟨_,e,h⟩=>e ▸ h⟩
noncomputable def fq (x:V) (k:Int->Prop):Prop:=match x with
 | .int i=>k i
 | _=>False
theorem JU (i:Int) (k:Int->Prop):fq (.int i) k=k i:=rfl
theorem fq.out {x:V} {k:Int->Prop} (h:fq x k):∃ i,x=.int i/\k i:=by
 cases x with
 | int i=>exact ⟨i,rfl,h⟩
 | _=>exact h.elim
theorem T6 (x:V) (k:Int->Prop):fq x k = ∃ i,x=.int i/\k i:=propext ⟨fq.out,fun ⟨_,e,h⟩=>e ▸ h⟩
noncomputable def jV (x:V) (k:Bool->Prop):Prop:=match x with
 | .bq i=>k i
 | _=>False
theorem P8 (i:Bool) (k:Bool->Prop):jV (.bq i) k=k i:=rfl
theorem jV.out {x:V} {k:Bool->Prop} (h:jV x k):∃ i,x=.bq i/\k i:=by
 cases x with
 | bq i=>exact ⟨i,rfl,h⟩
 | _=>exact h.elim
theorem Xd (x:V) (k:Bool->Prop):jV x k = ∃ i,x=.bq i/\k i:=propext ⟨jV.out,fun ⟨_,e,h⟩=>e ▸ h⟩
noncomputable def eC (x:V) (k:Addr->Prop):Prop:=match x with
 | .ref i=>k i
 | _=>False
theorem QL (i:Addr) (k:Addr->Prop):eC (.ref i) k=k i:=rfl
theorem eC.out {x:V} {k:Addr->Prop} (h:eC x k):∃ i,x=.ref i/\k i:=by
 cases x with
 | ref i=>exact ⟨i,rfl,h⟩
 | _=>exact h.elim
theorem adF (x:V) (k:Addr->Prop):eC x k = ∃ i,x=.ref i/\k i:=propext ⟨eC.out,fun ⟨_,e,h⟩=>e ▸ h⟩
noncomputable def kS (xs:List V) (k:V->Prop):Prop:=match xs with
 | [y]=>k y
 | _=>False
theorem MC (y:V) (k:V->Prop):kS [y] k=k y:=rfl
theorem kS.out:∀ {xs:List V} {k:V->Prop},kS xs k->∃ y,xs=[y]/\k y
 | [y],_,h=>⟨y,rfl,h⟩
 | [],_,h=>h.elim
 | _ :: _ :: _,_,h=>h.elim
theorem agY (xs:List V) (k:V->Prop):kS xs k = ∃ y,xs=[y]/\k y:=propext ⟨kS.out,fun ⟨_,e,h⟩=>e ▸ h⟩
noncomputable def Bj (i:Nat):TE:=fun σ H Q=>rj H Q σ[i]?
noncomputable def p2 (v:V):TE:=fun _ H Q=>Q v H
theorem Zs {i:Nat} {x:Str} {pos:Pos} (bb:X.N[i]? = some x) (aM:zT X.env.scope x) (hd:(x == ("__debug__" : Str))=false:=by decide) (kB:(x == ("__classdict__" : Str))=false:=by decide):br X (.Name x pos) (Bj i):=by
 intro aa s σ H Q J h;obtain ⟨v,e,h⟩:=rj.out h;obtain ⟨m,aF,aA⟩:=J.loc;obtain ⟨u,r,l⟩:=aA i x v bb e aM;have fin:fT X aa σ Q u s:=⟨v,H,J,r,h⟩;rcases l with ⟨aE,hm⟩ | ⟨aE,c,ar,Aa⟩
 .exact wpAny_Name (wpAny_loadName_local J.ok.kind aE aF hm fin) hd
 .rcases aE with aE | aE
  .exact wpAny_Name (wpAny_loadName_cell J.ok.kind aE ar Aa fin) hd
  .exact wpAny_Name (wpAny_loadName_free J.ok.kind aE ar Aa fin kB) hd
theorem aR {i j pos}:br X (.Constant (.int i) j pos) (p2 (.int i)):=fun _ _ _ H _ J h=>wpAny_Constant_int ⟨.int i,H,J.tok _,⟨_,rfl⟩,h⟩
theorem hI {b j pos}:br X (.Constant (.bool b) j pos) (p2 (.bq b)):=fun _ _ _ H _ J h=>Constant_bool ⟨.bq b,H,J,rfl,h⟩
theorem r' {j pos}:br X (.Constant .none j pos) (p2 .bH):=fun _ _ _ H _ J h=>Constant_none ⟨.bH,H,J,rfl,h⟩
theorem cC {x j pos}:br X (.Constant (.str x) j pos) (p2 (.str x)):=fun _ _ _ H _ J h=>Uh ⟨.str x,H,J.tok _,⟨_,rfl⟩,h⟩
noncomputable def g5 (X:aL) (x:Str):Prop:=X.env.kindOf x=some .globalImplicit
theorem pE {E:Value->Shared->Prop} {aa:List (Addr × Obj)} {s:Shared} {σ:St} {H:ag} {x:Str} {u:Value} {pos:Pos} {Q:Value->Shared->Prop} (J:Inv X aa σ H s) (a3:g5 X x) (hm:X.ao x=some u) (h:Q u s)
  (hd:(x == ("__debug__" : Str))=false:=by decide):wpAny (model X.prog X.w) X.A (eval (.Name x pos) X.env) Q E s:=
 Ur J.ok.kind a3 (Calls.loadGlobal_global (by rw [J.ok.glob];exact J.mod.glob.keeps J.cO) hm h) hd
theorem n2 {E:Value->Shared->Prop} {aa:List (Addr × Obj)} {s:Shared} {σ:St} {H:ag} {x:Str} {u:Value} {pos:Pos} {Q:Value->Shared->Prop} (J:Inv X aa σ H s) (a3:g5 X x) (hm:X.ao x=none) (aM:bootBuiltins x=some u) (h:Q u s)
  (aF:x ≠ "__name__" := by decide) (hd:(x == ("__debug__" : Str))=false:=by decide):wpAny (model X.prog X.w) X.A (eval (.Name x pos) X.env) Q E s:=by
 obtain ⟨iU,ae,ak⟩:=J.mod.blt;exact Ur J.ok.kind a3 (Calls.loadGlobal_builtin (by rw [J.ok.glob];exact J.mod.glob.keeps J.cO) hm (by rw [J.ok.blt];exact ae.keeps J.cO) ((ak x aF).trans aM) h) hd
theorem jE {x:Str} {v:V} {u:Value} {pos:Pos} (a3:g5 X x) (hm:X.ao x=some u) (r:bO v u) (hd:(x == ("__debug__" : Str))=false:=by decide):br X (.Name x pos) (p2 v):=
 fun _ _ _ H _ J h=>pE J a3 hm ⟨v,H,J,r,h⟩ hd
variable {a b:Expr} {aQ bW:TE} {pos:Pos}
noncomputable def Kj (X:aL) (op:CmpOp) (a b:Expr) (t:TE):Prop:=
 ∀ (aa:List (Addr × Obj)) (s:Shared) (σ:St) (H:ag) (Q:bG),Inv X aa σ H s->t σ H Q ->
  wpAny (model X.prog X.w) X.A (eval a X.env) (fun v cQ=>wpAny (model X.prog X.w) X.A (eval b X.env) (fun u dt=>wpAny (model X.prog X.w) X.A (compareOp op v u) (fT X aa σ Q) X.c0 dt) X.c0 cQ) X.c0 s
theorem Xs (b:Expr) {op:CmpOp} (h:op ≠ .In) (ak:op ≠ .NotIn):behindInMarks op b=false:=by
 have ax:(op == CmpOp.In)=false:=by cases op <;> first | rfl | exact absurd rfl h
 have aG:(op == adC)=false:=by cases op <;> first | rfl | exact absurd rfl ak
 cases b <;> simp [behindInMarks,ax,aG]
noncomputable def zG (t:TE):TT:=fun σ H Q=>t σ H fun x H1=>jV x fun c=>Q c H1
theorem Mk {op:CmpOp} {t:TE} (h:Kj X op a b t) (ae:behindInMarks op b=false:=by first | exact Xs _ (by decide) (by decide) | rfl):hJ X (.Compare a [op] [b] pos) (zG t):=by
 intro aa s σ H Q J hw;refine wpAny_isTrue_Compare1 (bt (h aa s σ H _ J hw) fun v s1 ae=>bt ae fun u s2 ak=>bt ak fun c s3 bZ=>d4 bZ fun x H1 aO bK bw=>?_) ae;obtain ⟨d,rfl,q⟩:=jV.out bw;cases bK;exact wpAny_truthy_bool ⟨H1,aO,q⟩
theorem iW {e:Expr} {t:TE} (h:br X e t) (he:∀ whole,isTrue e X.env whole=(do let v <- whole;standAt e.pos;holding [v] (truthy v)):=by intro _;rfl):hJ X e (zG t):=by
 intro aa s σ H Q J hw;refine isTrue_plain (bt (h aa s σ H _ J hw) fun v s1 bZ=>d4 bZ fun x H1 aO bK bw=>?_) (he _);obtain ⟨d,rfl,q⟩:=jV.out bw;cases bK;exact wpAny_truthy_bool ⟨H1,aO,q⟩
variable {kY zK:TT} {rest:List Expr}
noncomputable def Hc (t u:TT):TT:=fun σ H Q=>t σ H fun c H1=>if c=true then u σ H1 Q else Q false H1
noncomputable def He (t u:TT):TT:=fun σ H Q=>t σ H fun c H1=>if c=true then Q true H1 else u σ H1 Q
noncomputable def Ck (t:TT):TT:=fun σ H Q=>t σ H fun c H1=>Q (!c) H1
theorem ri (aJ:hJ X a kY):fu X (.BoolOp .And [a] pos) kY:=by
 intro tN aa s σ H Q J h;refine isTrue_and (bt (aJ aa s σ H Q J h) fun c s1 e=>?_);cases c with
 | true=>exact isTrue_and_nil e
 | false=>exact e
theorem n4 (aJ:hJ X a kY):fu X (.BoolOp .Or [a] pos) kY:=by
 intro tN aa s σ H Q J h;refine isTrue_or (bt (aJ aa s σ H Q J h) fun c s1 e=>?_);cases c with
 | false=>exact isTrue_or_nil e
 | true=>exact e
theorem p8 (aJ:hJ X a kY) (ab:fu X (.BoolOp .And (b :: rest) pos) zK):fu X (.BoolOp .And (a :: b :: rest) pos) (Hc kY zK):=by
 intro tN aa s σ H Q J h;refine isTrue_and (bt (aJ aa s σ H _ J h) fun c s1 b_=>?_);obtain ⟨H1,aO,bw⟩:=b_;cases c with
 | true=>exact ab tN aa s1 σ H1 Q aO bw
 | false=>exact ⟨H1,aO,bw⟩
theorem nc (aJ:hJ X a kY) (ab:fu X (.BoolOp .Or (b :: rest) pos) zK):fu X (.BoolOp .Or (a :: b :: rest) pos) (He kY zK):=by
 intro tN aa s σ H Q J h;refine isTrue_or (bt (aJ aa s σ H _ J h) fun c s1 b_=>?_);obtain ⟨H1,aO,bw⟩:=b_;cases c with
 | true=>exact ⟨H1,aO,bw⟩
 | false=>exact ab tN aa s1 σ H1 Q aO bw
theorem k8 (aJ:hJ X a kY):hJ X (.UnaryOp .Not a pos) (Ck kY):=by
 intro aa s σ H Q J h;exact isTrue_not (aJ aa s σ H (fun c H1=>Q (!c) H1) J h)
noncomputable def HS (aQ bW:TE):TE:=fun σ H Q=>aQ σ H fun x H1=>jV x fun c=>if c=true then bW σ H1 Q else Q (.bq false) H1
noncomputable def HJ (aQ bW:TE):TE:=fun σ H Q=>aQ σ H fun x H1=>jV x fun c=>if c=true then Q (.bq true) H1 else bW σ H1 Q
theorem xT {op} {t:TE} (h:br X a t):br X (.BoolOp op [a] pos) t:=fun aa s σ H Q J hw=>BoolOp_one (h aa s σ H Q J hw)
theorem Nc (aJ:br X a aQ) (ab:br X (.BoolOp .And (b :: rest) pos) bW):br X (.BoolOp .And (a :: b :: rest) pos) (HS aQ bW):=by
 intro aa s σ H Q J h;refine BoolOp_and (bt (aJ aa s σ H _ J h) fun v s1 bZ=>d4 bZ fun x H1 aO bK bw=>?_);obtain ⟨c,rfl,gr⟩:=jV.out bw;cases bK;refine wpAny_truthy_bool ?_;cases c with
 | true=>exact ab aa s1 σ H1 Q aO gr
 | false=>exact ⟨.bq false,H1,aO,rfl,gr⟩
theorem QO (aJ:br X a aQ) (ab:br X (.BoolOp .Or (b :: rest) pos) bW):br X (.BoolOp .Or (a :: b :: rest) pos) (HJ aQ bW):=by
 intro aa s σ H Q J h;refine BoolOp_or (bt (aJ aa s σ H _ J h) fun v s1 bZ=>d4 bZ fun x H1 aO bK bw=>?_);obtain ⟨c,rfl,gr⟩:=jV.out bw;cases bK;refine wpAny_truthy_bool ?_;cases c with
 | false=>exact ab aa s1 σ H1 Q aO gr
 | true=>exact ⟨.bq true,H1,aO,rfl,gr⟩
noncomputable def Cq (t:TT) (aQ bW:TE):TE:=fun σ H Q=>t σ H fun c H1=>if c=true then aQ σ H1 Q else bW σ H1 Q
theorem cr {c:Expr} (ar:hJ X c kY) (aJ:br X a aQ) (ab:br X b bW):br X (.IfExp c a b pos) (Cq kY aQ bW):=by
 intro aa s σ H Q J h;refine wpAny_IfExp (bt (ar aa s σ H _ J h) fun d s1 b_=>?_);obtain ⟨H1,aO,bw⟩:=b_;cases d with
 | true=>exact aJ aa s1 σ H1 Q aO bw
 | false=>exact ab aa s1 σ H1 Q aO bw
end
noncomputable def aK (K:a6) (H:ag) (a:Addr) (xs:List V):Prop:=
 kL H a (.lst xs) \/
  ∃ (o:Obj) (a0:Array Value) (n:Nat),K.lookup a=some o/\o.cls=.type "list" /\ o.dict=none/\o.data=.seq a0 n/\a0.size <= sizeLine/\re xs a0.toList
noncomputable def bS (K:a6) (H:ag) (a:Addr) (xs:List V):Prop:=
 kL H a (.tup xs) \/
  ∃ (o:Obj) (a0:Array Value) (n:Nat),K.lookup a=some o/\o.cls=.type "tuple" /\ o.data=.seq a0 n/\a0.size <= sizeLine/\re xs a0.toList
noncomputable def agJ:Value->Option V
 | .none=>some .bH
 | .bool b=>some (.bq b)
 | .int i _=>some (.int i)
 | .str x _=>some (.str x)
 | .bytes b _=>some (.j8 b)
 | .float b _=>some (.sa b)
 | .ref a=>some (.ref a)
 | .type n=>some (.ty n)
 | _=>none
theorem bO.abs {x:V} {u:Value} (r:bO x u):agJ u=some x:=by
 cases x with
 | bH=>cases r;rfl
 | bq _=>cases r;rfl
 | int _=>obtain ⟨t,rfl⟩:=r;rfl
 | str _=>obtain ⟨t,rfl⟩:=r;rfl
 | j8 _=>obtain ⟨t,rfl⟩:=r;rfl
 | sa _=>obtain ⟨t,rfl⟩:=r;rfl
 | ref _=>cases r;rfl
 | ty _=>cases r;rfl
theorem bO.inj {x y:V} {u:Value} (r:bO x u) (q:bO y u):x=y:=eS (r.abs.symm.trans q.abs)
theorem re.inj:∀ {xs ys:List V} {us:List Value},re xs us->re ys us->xs=ys
 | _,_,_,.nil,.nil=>rfl
 | _,_,_,.cons r t,.cons fe t'=>by rw [r.inj fe,re.inj t t']
section
variable {X:aL} {aa:List (Addr × Obj)} {σ:St} {H:ag} {s:Shared} {a:Addr} {xs ys:List V}
theorem aK.of {K:a6} (h:H a=some (.lst xs)):aK K H a xs:=.inl (.inl h)
theorem bS.of {K:a6} (h:H a=some (.tup xs)):bS K H a xs:=.inl (.inl h)
theorem Inv.list (J:Inv X aa σ H s) (h:aK X.K H a xs):∃ a0:List Value,re xs a0/\PlainL s.heap a a0.toArray/\xs.length <= sizeLine:=by
 rcases h with h | ⟨o,a0,n,aE,ar,hd,aw,az,r⟩
 .obtain ⟨z,a0,n,r,e⟩:=h.ok J.bl;exact ⟨a0,r,⟨_,n,e,rfl,rfl,rfl⟩,z⟩
 .refine ⟨a0.toList,r,⟨o,n,J.ey a o aE,ar,hd,by simpa using aw⟩,?_⟩;have e:=r.length;simp only [Cn] at e;omega
theorem Inv.tuple (J:Inv X aa σ H s) (h:bS X.K H a xs):∃ a0:List Value,re xs a0/\IsTup s.heap a a0.toArray/\xs.length <= sizeLine:=by
 rcases h with h | ⟨o,a0,n,aE,ar,aw,az,r⟩
 .obtain ⟨z,a0,r,p⟩:=h.ok J.bl;exact ⟨a0,r,p,z.1⟩
 .refine ⟨a0.toList,r,⟨o,J.ey a o aE,ar,n,by simpa using aw⟩,?_⟩;have e:=r.length;simp only [Cn] at e;omega
theorem Inv.JT (J:Inv X aa σ H s) (h:aK X.K H a xs) (h':aK X.K H a ys):xs=ys:=by
 obtain ⟨a0,r,⟨o,n,e,_,_,d⟩,_⟩:=J.list h;obtain ⟨its',fe,⟨e7,g8,bB,_,_,d'⟩,_⟩:=J.list h';rw [e] at bB;cases bB;rw [d] at d';injection d' with cA _;have:a0=its':=by simpa using congrArg afL cA
 subst this;exact r.inj fe
theorem Inv.aeu (J:Inv X aa σ H s) (h:bS X.K H a xs) (h':bS X.K H a ys):xs=ys:=by
 obtain ⟨a0,r,⟨o,e,_,n,d⟩,_⟩:=J.tuple h;obtain ⟨its',fe,⟨e7,bB,_,g8,d'⟩,_⟩:=J.tuple h';rw [e] at bB;cases bB;rw [d] at d';injection d' with cA _;have:a0=its':=by simpa using congrArg afL cA
 subst this;exact r.inj fe
end
noncomputable abbrev aL.hF (X:aL) (E:Value->Shared->Prop):aL:={ X with c0:=E }
noncomputable abbrev aL.tO (X:aL):aL:=X.hF fun _ _=>False
theorem aL.Ok.hF {X:aL} (ok:X.Ok) (E:Value->Shared->Prop):(X.hF E).Ok:=
 ⟨ok.mod,ok.kind,ok.glob,ok.blt,ok.above,ok.inj,ok.has,ok.nr,ok.hd,ok.frames,ok.oH,ok.rF,ok.bs,ok.kb,ok.nV,ok.nh,ok.i2,ok.mb⟩
theorem aL.Ok.lE {X:aL} {E:Value->Shared->Prop} (ok:(X.hF E).Ok):X.Ok:=
 ⟨ok.mod,ok.kind,ok.glob,ok.blt,ok.above,ok.inj,ok.has,ok.nr,ok.hd,ok.frames,ok.oH,ok.rF,ok.bs,ok.kb,ok.nV,ok.nh,ok.i2,ok.mb⟩
section
variable {X:aL} {aa:List (Addr × Obj)} {σ:St} {H:ag} {s:Shared} {E:Value->Shared->Prop}
theorem Inv.hF (J:Inv X aa σ H s) (E:Value->Shared->Prop):Inv (X.hF E) aa σ H s:=⟨J.ok.hF E,J.os,J.bare,J.base,J.loc,J.cell,J.free,J.iK,J.pin,J.bl,J.len⟩
theorem Inv.lE (J:Inv (X.hF E) aa σ H s):Inv X aa σ H s:=⟨J.ok.lE,J.os,J.bare,J.base,J.loc,J.cell,J.free,J.iK,J.pin,J.bl,J.len⟩
theorem gQ.lE {D:d5} {f:Flow} {s':Shared} (h:gQ (X.hF E) aa D f s'):gQ X aa D f s':=by
 cases f with
 | next=>obtain ⟨aS,I,J,q⟩:=h;exact ⟨aS,I,J.lE,q⟩
 | brk=>obtain ⟨aS,I,J,q⟩:=h;exact ⟨aS,I,J.lE,q⟩
 | cont=>obtain ⟨aS,I,J,q⟩:=h;exact ⟨aS,I,J.lE,q⟩
 | ret u=>obtain ⟨v,aS,I,J,r,q⟩:=h;exact ⟨v,aS,I,J.lE,r,q⟩
theorem gL.tO {st:List Stmt} {t:cV} (h:gL X.tO st t):gL X st t:=fun aa s σ H D J hw=>
 wpAny_mono (h aa s σ H D (J.hF _) hw) (fun _ _ q=>q.lE) fun _ _ z=>jg z
end
section
variable {X:aL} {st:Stmt} {rest:List Stmt} {t u:cV} {e:Expr} {bf:TE} {pos:Pos}
noncomputable def qT:cV:=fun D σ H=>D.b5 σ H
noncomputable def pD:Nat:=0
noncomputable def qi:Nat:=pD
noncomputable def L3:Nat:=qi
noncomputable def Xb:Nat:=L3
noncomputable def Te:Nat:=Xb
noncomputable def UK:Nat:=Te
noncomputable def CS:Nat:=UK
noncomputable def abK:Nat:=CS
noncomputable def Xf:Nat:=abK
noncomputable def Z_:Nat:=Xf
noncomputable def agt:Nat:=Z_
noncomputable def XQ:Nat:=agt
noncomputable def W':Nat:=XQ
noncomputable def F' (t u:cV):cV:=fun D σ H=>(fun _:Nat=>t { D with b5:=u D } σ H) W'
theorem dI:gL X [] qT:=fun _ _ σ H _ J h=>wpAny_execs_nil ⟨σ,H,J,h⟩
theorem db (ae:gc X st t) (ak:gL X rest u):gL X (st :: rest) (F' t u):=by
 intro aa s σ H D J h;refine wpAny_execs_cons (bt (ae aa s σ H { D with b5:=u D } J h) fun f s1 q=>?_);cases f with
 | next=>
  obtain ⟨aS,I,jN,q⟩:=q;exact ak aa s1 aS I D jN q
 | ret v=>exact q
 | brk=>exact q
 | cont=>exact q
theorem aY (ae:gc X st t):gL X [st] t:=by
 intro aa s σ H D J h;refine wpAny_execs_cons (bt (ae aa s σ H D J h) fun f s1 q=>?_);cases f with
 | next=>exact wpAny_execs_nil q
 | ret v=>exact q
 | brk=>exact q
 | cont=>exact q
theorem Inv.quiet {aa:List (Addr × Obj)} {σ:St} {H:ag} {s:Shared} (J:Inv X aa σ H s):interactive X.env=false:=by simp [interactive,J.ok.kind]
noncomputable def BY (bf:TE):cV:=fun D σ H=>bf σ H fun _ H1=>D.b5 σ H1
theorem rc (he:br X e bf) (aw:swapsWith e none pos.line X.env=pure false:=by rfl):gc X (.Expr e pos) (BY bf):=by
 intro aa s σ H D J h;exact wpAny_Expr_any (bt (he aa s σ H _ J h) fun v s1 bZ=>d4 bZ fun x H1 aO bK bw=>⟨σ,H1,aO,bw⟩) J.quiet aw
noncomputable def zy (bf:TE):cV:=fun D σ H=>bf σ H D.kZ
theorem b1 (he:br X e bf):gc X (.Return (some e) pos) (zy bf):=by
 intro aa s σ H D J h;exact wpAny_Return_some (bt (he aa s σ H _ J h) fun v s1 bZ=>d4 bZ fun x H1 aO bK bw=>⟨x,σ,H1,aO,bK,bw⟩)
noncomputable def Fw (c:TT) (t u:cV):cV:=fun D σ H=>c σ H fun b H1=>if b=true then t D σ H1 else u D σ H1
theorem dD {c:Expr} {a b:List Stmt} {cn:TT} (ar:hJ X c cn) (aJ:gL X a t) (ab:gL X b u):gc X (.If c a b pos) (Fw cn t u):=by
 intro aa s σ H D J h;refine wpAny_If (bt (ar aa s σ H _ J h) fun d s1 b_=>?_);obtain ⟨H1,aO,bw⟩:=b_;cases d with
 | true=>exact aJ aa s1 σ H1 D aO bw
 | false=>exact ab aa s1 σ H1 D aO bw
noncomputable def GR:cV:=fun _ _ _=>False
theorem sq:gc X st GR:=fun _ _ _ _ _ _ h=>h.elim
end
noncomputable abbrev dC:=V->St->ag->(St->ag->Prop)->Prop
noncomputable abbrev pX:=List V->St->ag->(St->ag->Prop)->Prop
noncomputable def lL (X:aL) (te:Expr) (t:dC):Prop:=
 ∀ (aa:List (Addr × Obj)) (s:Shared) (σ:St) (H:ag) (v:V) (u:Value) (Q:St->ag->Prop),Inv X aa σ H s->bO v u->t v σ H Q ->
  wpAny (model X.prog X.w) X.A (assign te X.env u) (fun _ s'=>∃ aS I,Inv X aa aS I s'/\Q aS I) X.c0 s
noncomputable def tT (X:aL) (il:List Expr) (t:pX):Prop:=
 ∀ (aa:List (Addr × Obj)) (s:Shared) (σ:St) (H:ag) (vs:List V) (us:List Value) (Q:St->ag->Prop),Inv X aa σ H s->re vs us->t vs σ H Q ->
  wpAny (model X.prog X.w) X.A (assignInOrder ((assignEach il X.env).map (·.2)) us) (fun _ s'=>∃ aS I,Inv X aa aS I s'/\Q aS I) X.c0 s
noncomputable abbrev E1:=V->V->V->ag->(ag->Prop)->Prop
noncomputable def Je (X:aL) (t:E1):Prop:=
 ∀ (aa:List (Addr × Obj)) (s:Shared) (σ:St) (H:ag) (o i v:V) (dA iV u:Value) (Q:ag->Prop),Inv X aa σ H s->bO o dA->bO i iV->bO v u->t o i v H Q ->
  wpAny (model X.prog X.w) X.A (setItem dA iV u) (fun _ s'=>∃ I,Inv X aa σ I s'/\Q I) X.c0 s
section
variable {X:aL} {pos:Pos}
noncomputable def fO (i:Nat):dC:=fun v σ H Q=>Q (σ.set i (some v)) H
theorem Ay {i:Nat} {x:Str} (bb:X.N.Nodup) (ai:X.N[i]? = some x) (av:Loc X.env.scope x) (hf:X.fn x=true\/X.env.scope.names.lookup x=some .local:=by first | exact .inl rfl | exact .inr rfl | assumption):lL X (.Name x pos) (fO i):=by
 intro aa s σ H v u Q J r h;exact wpAny_assign_Name (zE J bb ai av r (fun s' jN=>⟨_,H,jN,h⟩) hf)
noncomputable def uF:pX:=fun vs σ H Q=>vs=[]/\Q σ H
noncomputable def rl (t:dC) (u:pX):pX:=fun vs σ H Q=>∃ v r,vs=v :: r/\t v σ H fun aS I=>u r aS I Q
theorem kc:tT X [] uF:=by
 intro aa s σ H vs us Q J r h;obtain ⟨e,h⟩:=h;subst e;cases r;exact assignInOrder_nil ⟨σ,H,J,h⟩
theorem eU {e:Expr} {a4:List Expr} {t:dC} {u:pX} (ae:lL X e t) (ak:tT X a4 u)
  (aw:(assignEach (e :: a4) X.env).map (·.2)=assign e X.env :: (assignEach a4 X.env).map (·.2):=by rfl):tT X (e :: a4) (rl t u):=by
 intro aa s σ H vs us Q J r h;obtain ⟨v,ahJ,ax,h⟩:=h;subst ax;cases r with
 | cons r hC=>
  rw [aw];refine assignInOrder_cons (bt (ae aa s σ H _ _ _ J r h) fun _ s1 b_=>?_);obtain ⟨fJ,H1,aO,bw⟩:=b_;exact ak aa s1 fJ H1 _ _ Q aO hC bw
noncomputable def r8 (K:a6) (n:Nat) (t:pX):dC:=fun v σ H Q=>∃ a xs,v=.ref a/\bS K H a xs/\xs.length=n/\t xs σ H Q
theorem R' {a4:List Expr} {k:Nat} {t:pX} {n:Nat} (ar:X.calm=true) (h:tT X a4 t)
  (aF:(assignEach a4 X.env).length=n:=by rfl) (gd:(assignEach a4 X.env).findIdx? (·.1)=none:=by rfl):lL X (.Tuple a4 k pos) (r8 X.K n t):=by
 intro aa s σ H v u Q J r hw;obtain ⟨a,xs,ax,aH,aA,hw⟩:=hw;subst ax;cases r;obtain ⟨a0,cf,ct,az⟩:=J.tuple aH;refine assign_Tuple_tuple (J.ok.hd ar) ct (by simp [aF,<- aA,cf.length]) gd fun h' av=>?_
 have aO:Inv X aa σ H { s with heap:=h' }:=J.kept (t':=s.toks) fun b o e=>av b o (ft (dv e)) e
 exact h aa _ σ H xs _ Q aO (by simpa using cf) hw
noncomputable def HT (to Bh:TE) (t:E1):dC:=fun v σ H Q=>to σ H fun o H1=>Bh σ H1 fun i ay=>t o i v ay fun bA=>Q σ bA
theorem s9 {o i:Expr} {to Bh:TE} {t:E1} (a7:br X o to) (ai:br X i Bh) (aw:Je X t)
  (aJ:∀ v,assign (.Subscript o i pos) X.env v=(do
   let dA <- holding [v] (eval o X.env)
   let iV <- holding [v,dA] (eval i X.env)
   standAt pos
   holding [v,dA,iV] (setItem dA iV v)
   release [v,dA,iV] []):=by intro _;rfl):lL X (.Subscript o i pos) (HT to Bh t):=by
 intro aa s σ H v u Q J r h;rw [aJ];refine wpAny_bind (wpAny_holding (bt (a7 aa s σ H _ J h) fun dA s1 bZ=>d4 bZ fun x H1 aO bK bw=>?_));refine wpAny_bind (wpAny_holding (bt (ai aa s1 σ H1 _ aO bw) fun iV s2 bZ=>d4 bZ fun y ay bD cL b4=>?_));refine wpAny_bind (wpAny_standAt (wpAny_bind (wpAny_holding (bt (aw aa s2 σ ay x y v dA iV u _ bD bK cL r b4) fun _ s3 b_=>?_))));obtain ⟨bA,eb,d9⟩:=b_;exact wpAny_release ⟨σ,bA,eb,d9⟩
noncomputable def tC (bf:TE) (g:dC):cV:=fun D σ H=>bf σ H fun x H1=>g x σ H1 D.b5
theorem pj {ck e:Expr} {bf:TE} {g:dC} (he:br X e bf) (a3:lL X ck g) (aw:swapsWithSole [ck] e pos.line X.env=pure false:=by rfl) (hw:swappedStores [ck] e X.env=pure none:=by rfl)
  (ae:(assignEach [ck] X.env).map (·.2)=[assign ck X.env]:=by rfl):gc X (.Assign [ck] e pos) (tC bf g):=by
 intro aa s σ H D J h;refine wpAny_Assign_stores (bt (he aa s σ H _ J h) fun v s1 bZ=>d4 bZ fun x H1 aO bK bw=>?_) aw hw;rw [ae];exact bt (a3 aa s1 σ H1 x v _ aO bK bw) fun _ s2 q=>q
theorem yt {i:Nat} {x:Str} {e:Expr} {bf:TE} {pos':Pos} (bb:X.N.Nodup) (ai:X.N[i]? = some x) (av:Loc X.env.scope x) (he:br X e bf) (aw:swapsWith e (some (.Name x pos')) pos.line X.env=pure false:=by rfl) (hf:X.fn x=true\/X.env.scope.names.lookup x=some .local:=by first | exact .inl rfl | exact .inr rfl | assumption) :
  gc X (.Assign [.Name x pos'] e pos) (tC bf (fO i)):=by
 intro aa s σ H D J h;refine wpAny_Assign_Name (bt (he aa s σ H _ J h) fun v s1 bZ=>d4 bZ fun y H1 aO bK bw=>?_) aw;exact zE aO bb ai av bK (fun s2 bD=>⟨_,H1,bD,bw⟩) hf
noncomputable def MS (c:TT) (bW:cV):cV:=fun D σ H=>∃ W:Nat->St->ag->Prop,(∃ m,W m σ H)/\∀ m σ H,W m σ H ->
 c σ H fun b H1=>if b=true then ∃ N:St->ag->Prop,(∀ aS I,N aS I->∃ dd,dd < m/\W dd aS I)/\bW { D with b5:=N,eP:=N,cO:=D.b5 } σ H1 else D.b5 σ H1
theorem abb {c:Expr} {body:List Stmt} {cn:TT} {bW:cV} (aq:PassesOwn (model X.prog X.w) X.A X.env X.c0) (ar:hJ X c cn) (ab:gL X body bW):gc X (.While c body [] pos) (MS cn bW):=by
 intro aa s σ H D J h;obtain ⟨W,⟨m0,k1⟩,turn⟩:=h;refine wpAny_While (codeAny_whileLoop (fun n s'=>∃ aS I,Inv X aa aS I s'/\W n aS I) ?_ m0 ⟨σ,H,J,k1⟩);rintro n s1 ⟨fJ,H1,aO,cZ⟩;refine wpAny_passesOwn aq (bt (ar aa s1 fJ H1 _ aO (turn n fJ H1 cZ)) fun b s2 b_=>?_);obtain ⟨ay,bD,b4⟩:=b_;cases b with
 | true=>
  obtain ⟨N,bb,b4⟩:=b4;rw [if_pos rfl];refine wpAny_passesOwn aq (bt (ab aa s2 fJ ay _ bD b4) fun f s3 d9=>?_);cases f with
  | next=>
   obtain ⟨j5,bA,eb,d3⟩:=d9;obtain ⟨dd,hm,hY⟩:=bb j5 bA d3;exact ⟨dd,hm,j5,bA,eb,hY⟩
  | cont=>
   obtain ⟨j5,bA,eb,d3⟩:=d9;obtain ⟨dd,hm,hY⟩:=bb j5 bA d3;exact ⟨dd,hm,j5,bA,eb,hY⟩
  | brk=>exact d9
  | ret v=>exact d9
 | false=>
  rw [if_neg hB];exact wpAny_execs_nil ⟨fJ,ay,bD,b4⟩
end
structure gU where
 go:Nat->ag->Prop
 m9:Nat->ag->V->ag->Prop
 stop:Nat->ag->Prop
noncomputable def hQ (X:aL) (aa:List (Addr × Obj)) (H:ag) (b:Addr):Prop:=
 H b=none/\b ≠ X.env.locals/\b ∉ X.aN/\(b ∈ X.ex\/X.eX.heap.objs.size <= b)/\(∀ x c,X.env.cells.lookup x=some c->c ≠ b)/\∀ p ∈ X.ek ++ aa,p.1 ≠ b
theorem Inv.og {X:aL} {aa:List (Addr × Obj)} {σ:St} {H I:ag} {s:Shared} {b:Addr} (J:Inv X aa σ H s) (ab:s.heap.objs.size <= b) (aF:I b=none):hQ X aa I b:=by
 refine ⟨aF,H5 (hK J.lt ab),J.Pj ab,.inr (c1 J.oT ab),fun x c e z=>?_,fun p aq z=>?_⟩
 .obtain ⟨v,q⟩:=J.cell x c e;exact absurd (hK q.lt (by rw [z];exact ab)) (oo _)
 .exact absurd (hK (dv (J.pin p aq).1) (by rw [z];exact ab)) (oo _)
structure pJ (P:Program) (w:World) (K:a6) (ck:Expr) (bP:gU) (bu:List Addr) (it:Addr) (fg:Nat->Heap->Prop):Prop where
 mem:it ∈ bu
 obj:∀ i h,fg i h->∀ b ∈ bu,∃ o,h.get? b=some o/\∀ v,o.data ≠ .cell v
 keep:∀ i h h',fg i h->(∀ b ∈ bu,∀ o,h.get? b=some o->h'.get? b=some o)->fg i h'
 item:∀ (X:aL),X.prog=P->X.w=w->X.K=K->X.calm=true->∀ (i:Nat) (aa:List (Addr × Obj)) (s:Shared) (σ:St) (H:ag) (E:Value->Shared->Prop),Inv X aa σ H s->(∀ b ∈ bu,hQ X aa H b)->fg i s.heap->bP.go i H ->
  wpAny (model P w) X.A (pyNext (.ref it)) (fun r s1=>∃ u,r=some u /\
   wpAny (model P w) X.A (letOwnedTupleGo ck (.ref it) u) (fun _ s2=>∃ x I,Inv X aa σ I s2/\bO x u/\bP.m9 i H x I/\fg (i + 1) s2.heap/\∀ b ∈ bu,I b=none) E s1) E s
 done:∀ (X:aL),X.prog=P->X.w=w->X.K=K->X.calm=true->∀ (i:Nat) (aa:List (Addr × Obj)) (s:Shared) (σ:St) (H:ag) (E:Value->Shared->Prop),Inv X aa σ H s->(∀ b ∈ bu,hQ X aa H b)->fg i s.heap->bP.stop i H ->
  wpAny (model P w) X.A (pyNext (.ref it)) (fun r s1=>r=none/\Inv X aa σ H s1) E s
 self:∀ (A:Around) (i:Nat) (s:Shared) (Q:Value->Shared->Prop) (E:Value->Shared->Prop),fg i s.heap->Q (.ref it) s->wpAny (model P w) A (pyIter (.ref it)) Q E s
noncomputable abbrev TI:=St->ag->(gU->ag->Prop)->Prop
noncomputable def Kw (X:aL) (aa:List (Addr × Obj)) (σ:St) (ck:Expr) (R:gU->ag->Prop) (Bv:Value) (s2:Shared):Prop:=
 ∃ (it:Addr) (bu:List Addr) (fg:Nat->Heap->Prop) (bP:gU) (I:ag),Bv=.ref it/\Inv X aa σ I s2/\pJ X.prog X.w X.K ck bP bu it fg/\fg 0 s2.heap/\(∀ b ∈ bu,hQ X aa I b)/\R bP I
noncomputable def mV (X:aL) (ck iter:Expr) (de:TI):Prop:=
 ∀ (aa:List (Addr × Obj)) (s:Shared) (σ:St) (H:ag) (R:gU->ag->Prop),Inv X aa σ H s->de σ H R ->
  wpAny (model X.prog X.w) X.A (eval iter X.env) (fun v s1=>wpAny (model X.prog X.w) X.A (pyIter v) (Kw X aa σ ck R) X.c0 s1) X.c0 s
theorem vw {M:Model} {A:Around} {E:Value->Shared->Prop} {s:Shared} {ck:Expr} {it:Addr} {u:Value} {o:Obj} {n:String} {vs:Array Value} {Q:Unit->Shared->Prop} (a7:s.heap.get? it=some o) (ar:o.cls=.type n) (hd:o.data=.fields vs)
    (aF:["enumerate","zip","dict_itemiterator","dict_reverseitemiterator","odict_iterator","itertools.zip_longest","itertools.pairwise"].contains n=false) (a8:Q () s):wpAny M A (letOwnedTupleGo ck (.ref it) u) Q E s:=by
  unfold letOwnedTupleGo;cases ck <;> first
    | exact wpAny_pure a8
    | (cases u <;> first
        | exact wpAny_pure a8
        | (refine wpAny_bind (wpAny_load a7 ?_)
           rw [ar,hd];show wpAny M A (if (["enumerate","zip","dict_itemiterator","dict_reverseitemiterator","odict_iterator","itertools.zip_longest","itertools.pairwise"].contains n && vs[0]? == some (rawInt _))=true then _ else _) Q E s;rw [if_neg (by intro h;rw [aF,q4] at h;cases h)];exact wpAny_pure a8))
noncomputable def mS (K:a6) (a:Addr):gU:=
 ⟨fun i H=>∃ xs x,aK K H a xs/\xs[i]? = some x,fun i H x I=>I=H/\∀ xs,aK K H a xs->xs[i]? = some x,fun i H=>∃ xs,aK K H a xs/\xs.length <= i⟩
noncomputable def zd (K:a6) (a:Addr):gU:=
 ⟨fun i H=>∃ xs x,bS K H a xs/\xs[i]? = some x,fun i H x I=>I=H/\∀ xs,bS K H a xs->xs[i]? = some x,fun i H=>∃ xs,bS K H a xs/\xs.length <= i⟩
noncomputable def jO (lo:Int) (n:Nat):gU:=⟨fun i _=>i < n,fun i H x I=>I=H/\x=.int (lo + i),fun i _=>n <= i⟩
theorem adb {P:Program} {w:World} {K:a6} {ck:Expr} (a it:Addr):pJ P w K ck (mS K a) [it] it (fun i h=>h.IsListIter it a i) where
 mem:=by simp
 obj:=fun i h st b ab=>by
  have e:b=it:=by simpa using ab
  subst e;obtain ⟨o,e,c,d⟩:=st;exact ⟨o,e,fun v z=>by rw [d] at z;cases z⟩
 keep:=fun i h h' st k=>st.at fun o e=>k it (by simp) o e
 item:=by
  intro X en hw eV ar i aa s σ H E J hf st a3;subst en hw eV;obtain ⟨xs,x,aH,av⟩:=a3;obtain ⟨a0,cf,p,az⟩:=J.list aH;obtain ⟨u,bQ,eH⟩:=cf.get av;obtain ⟨f0,f1,f2,e1,f4,fC⟩:=hf it (by simp);refine wpAny_pyNext_list_item st p.isList (x:=u) (by simpa using bQ) fun h' j4 h2=>?_
  have aO:Inv X aa σ H { s with heap:=h' }:=J.turned (t':=s.toks) (fun b o ab e=>(h2.2 b ab).trans e) f0 f1 e1 f4 fC;obtain ⟨o,e,c,d⟩:=id j4;exact ⟨u,rfl,vw (s:={ s with heap:=h' }) e c d (by decide) ⟨x,H,aO,eH,⟨rfl,fun ys bI=>by rw [J.JT bI aH];exact av⟩,j4,fun b ab=>(hf b ab).1⟩⟩
 done:=by
  intro X en hw eV ar i aa s σ H E J hf st a3;subst en hw eV;obtain ⟨xs,aH,av⟩:=a3;obtain ⟨a0,cf,p,az⟩:=J.list aH;obtain ⟨f0,f1,f2,e1,f4,fC⟩:=hf it (by simp);have aA:=cf.length;exact wpAny_pyNext_list_end (J.ok.hd ar) st p.isList (by simp;omega) fun h' dK=>⟨rfl,J.turned (t':=s.toks) (fun b o ab e=>dK b o ab e) f0 f1 e1 f4 fC⟩
 self:=fun _ _ _ _ _ st h=>wpAny_pyIter_listiter st h
theorem aec {P:Program} {w:World} {K:a6} {ck:Expr} (a it:Addr):pJ P w K ck (zd K a) [it] it (fun i h=>h.IsTupleIter it a i) where
 mem:=by simp
 obj:=fun i h st b ab=>by
  have e:b=it:=by simpa using ab
  subst e;obtain ⟨o,e,c,d⟩:=st;exact ⟨o,e,fun v z=>by rw [d] at z;cases z⟩
 keep:=fun i h h' st k=>st.at fun o e=>k it (by simp) o e
 item:=by
  intro X en hw eV ar i aa s σ H E J hf st a3;subst en hw eV;obtain ⟨xs,x,aH,av⟩:=a3;obtain ⟨a0,cf,p,az⟩:=J.tuple aH;obtain ⟨u,bQ,eH⟩:=cf.get av;obtain ⟨f0,f1,f2,e1,f4,fC⟩:=hf it (by simp);refine wpAny_pyNext_tuple_item st (show s.heap.IsTuple a a0.toArray from p) (x:=u) (by simpa using bQ) fun h' j4 h2=>?_
  have aO:Inv X aa σ H { s with heap:=h' }:=J.turned (t':=s.toks) (fun b o ab e=>(h2.2 b ab).trans e) f0 f1 e1 f4 fC;obtain ⟨o,e,c,d⟩:=id j4;exact ⟨u,rfl,vw (s:={ s with heap:=h' }) e c d (by decide) ⟨x,H,aO,eH,⟨rfl,fun ys bI=>by rw [J.aeu bI aH];exact av⟩,j4,fun b ab=>(hf b ab).1⟩⟩
 done:=by
  intro X en hw eV ar i aa s σ H E J hf st a3;subst en hw eV;obtain ⟨xs,aH,av⟩:=a3;obtain ⟨a0,cf,p,az⟩:=J.tuple aH;obtain ⟨f0,f1,f2,e1,f4,fC⟩:=hf it (by simp);have aA:=cf.length;exact wpAny_pyNext_tuple_end (J.ok.hd ar) st (show s.heap.IsTuple a a0.toArray from p) (by simp;omega) fun h' dK=>⟨rfl,J.turned (t':=s.toks) (fun b o ab e=>dK b o ab e) f0 f1 e1 f4 fC⟩
 self:=fun _ _ _ _ _ st h=>wpAny_pyIter_tupleiter st h
theorem aaf {P:Program} {w:World} {K:a6} {ck:Expr} (it:Addr) (lo:Int) (n:Nat):pJ P w K ck (jO lo n) [it] it (fun i h=>IsRangeIter h it (lo + (i:Nat) * 1) ((n:Int) - (i:Nat)) 1) where
 mem:=by simp
 obj:=fun i h st b ab=>by
  have e:b=it:=by simpa using ab
  subst e;exact ⟨_,st,fun v z=>by
   have z':Kz _=O7 v:=z;cases z'⟩
 keep:=fun i h h' st k=>k it (by simp) _ st
 item:=by
  intro X en hw eV ar i aa s σ H E J hf st a3;subst en hw eV;obtain ⟨f0,f1,f2,e1,f4,fC⟩:=hf it (by simp);have W:=WV (prog:=X.prog) (w:=X.w) (J.ok.hd ar) it lo 1 n;refine W.item i s _ _ a3 st fun v h' cG aM j4 kQ=>?_
  obtain ⟨t,rfl⟩:=aM;have aO:Inv X aa σ H { s with heap:=h',toks:=cG }:=J.turned (fun b o ab e=>kQ b o (by simpa using ab) e) f0 f1 e1 f4 fC;refine ⟨_,rfl,vw (s:={ s with heap:=h',toks:=cG }) (n := "range_iterator") j4 rfl rfl (by decide) ⟨.int (lo + i),H,aO,⟨t,?_⟩,⟨rfl,rfl⟩,j4,fun b ab=>(hf b ab).1⟩⟩;rw [aem]
 done:=by
  intro X en hw eV ar i aa s σ H E J hf st a3;subst en hw eV;obtain ⟨f0,f1,f2,e1,f4,fC⟩:=hf it (by simp);exact wpAny_pyNext_range_end (J.ok.hd ar) st (by have:n <= i:=a3;omega) fun h' dK=>⟨rfl,J.turned (t':=s.toks) (fun b o ab e=>dK b o ab e) f0 f1 e1 f4 fC⟩
 self:=fun _ _ _ _ _ st h=>wpAny_pyIter_rangeiter st h
section
variable {X:aL} {ck:Expr}
noncomputable def sK (K:a6) (eD:TE):TI:=fun σ H R=>eD σ H fun x H1=>eC x fun a=>(∃ xs,aK K H1 a xs)/\R (mS K a) H1
noncomputable def DA (K:a6) (eD:TE):TI:=fun σ H R=>eD σ H fun x H1=>eC x fun a=>(∃ xs,bS K H1 a xs)/\R (zd K a) H1
theorem fk {l:Expr} {eD:TE} (aA:br X l eD):mV X ck l (sK X.K eD):=by
 intro aa s σ H R J h;refine bt (aA aa s σ H _ J h) fun v s1 bZ=>d4 bZ fun x H1 aO bK bw=>?_
 obtain ⟨a,e,⟨xs,aH⟩,q⟩:=eC.out bw;subst e;cases bK;obtain ⟨a0,cf,p,az⟩:=aO.list aH;refine wpAny_pyIter_list p.isList ?_;refine ⟨s1.heap.objs.size,[s1.heap.objs.size],_,_,H1,rfl,aO.kept (t':=s1.toks) fun b o e=>dY _ e,adb a _,⟨_,gz _ rfl,rfl,rfl⟩,fun b ab=>?_,q⟩;have e:b=s1.heap.objs.size:=by simpa using ab
 subst e;exact aO.og (b2 _) (aO.bl.fresh (b2 _))
theorem Xn {l:Expr} {eD:TE} (aA:br X l eD):mV X ck l (DA X.K eD):=by
 intro aa s σ H R J h;refine bt (aA aa s σ H _ J h) fun v s1 bZ=>d4 bZ fun x H1 aO bK bw=>?_
 obtain ⟨a,e,⟨xs,aH⟩,q⟩:=eC.out bw;subst e;cases bK;obtain ⟨a0,cf,p,az⟩:=aO.tuple aH;refine wpAny_pyIter_tuple (show s1.heap.IsTuple a a0.toArray from p) ?_;refine ⟨s1.heap.objs.size,[s1.heap.objs.size],_,_,H1,rfl,aO.kept (t':=s1.toks) fun b o e=>dY _ e,aec a _,⟨_,gz _ rfl,rfl,rfl⟩,fun b ab=>?_,q⟩;have e:b=s1.heap.objs.size:=by simpa using ab
 subst e;exact aO.og (b2 _) (aO.bl.fresh (b2 _))
theorem N7 {aa:List (Addr × Obj)} {σ:St} {H:ag} {s:Shared} {R:gU->ag->Prop} {E:Value->Shared->Prop} {lo ai:Int} {t u v:Tok} {cG:Nat} (J:Inv X aa σ H s) (ae:-(2 ^ 62) <= lo) (ak:lo < 2 ^ 62) (a_:-(2 ^ 62) <= ai) (cv:ai < 2 ^ 62)
  (q:R (jO lo (ai - lo).toNat) H):wpAny (model X.prog X.w) X.A (pyIter (.ref s.heap.objs.size)) (Kw X aa σ ck R) E { s with heap:=s.heap.push { cls:=.type "range",data:=.fields #[.int lo t,.int ai u,.int 1 v] },toks:=cG }:=by
 refine wpAny_pyIter_range (abM ..) (small_one ae ak a_ cv) ?_;have aO:Inv X aa σ H { s with heap:=s.heap.push { cls:=.type "range",data:=.fields #[.int lo t,.int ai u,.int 1 v] },toks:=cG }:=J.kept fun b o e=>dY _ e
 refine ⟨(s.heap.push { cls:=.type "range",data:=.fields #[.int lo t,.int ai u,.int 1 v] }).objs.size,[(s.heap.push { cls:=.type "range",data:=.fields #[.int lo t,.int ai u,.int 1 v] }).objs.size],_,_,H,rfl,
  aO.kept (t':=cG) fun b o e=>dY _ e,aaf _ lo (ai - lo).toNat,?_,fun b ab=>?_,q⟩
 .have ax:lo + ((0:Nat):Int) * 1=lo:=by simp
  have aG:(((ai - lo).toNat:Nat):Int) - ((0:Nat):Int)=GJ lo ai 1:=by rw [rangeSize_one];split <;> omega
  show IsRangeIter _ _ (lo + ((0:Nat):Int) * 1) ((((ai - lo).toNat:Nat):Int) - ((0:Nat):Int)) 1;rw [ax,aG];exact gz _ rfl
 .have e:b=(s.heap.push { cls:=.type "range",data:=.fields #[.int lo t,.int ai u,.int 1 v] }).objs.size:=by simpa using ab
  subst e;exact aO.og (b2 _) (aO.bl.fresh (b2 _))
noncomputable def Rd (aQ:dx):TI:=fun σ H R=>aQ σ H fun vs H1=>kS vs fun x=>fq x fun j=>-(2 ^ 62) <= j/\j < 2 ^ 62/\R (jO 0 j.toNat) H1
noncomputable def Pm (aQ:dx):TI:=fun σ H R=>aQ σ H fun vs H1=>∃ i j:Int,vs=[.int i,.int j]/\(-(2 ^ 62) <= i/\i < 2 ^ 62/\-(2 ^ 62) <= j/\j < 2 ^ 62)/\R (jO i (j - i).toNat) H1
theorem kV {a:Expr} {aQ:dx} {p pos:Pos} (a3:g5 X "range") (hm:X.ao "range"=none) (aJ:dr X [a] aQ) (aw:starEach [a] X.env=[(false,eval a X.env)]:=by rfl):mV X ck (.Call (.Name "range" p) [a] [] pos) (Rd aQ):=by
 intro aa s σ H R J h;refine Call_ (n2 J a3 hm boot_range (rX (bt (aJ pos aa s σ H _ J h) fun us s1 b_=>?_) aw rfl));obtain ⟨vs,H1,aO,bK,bw⟩:=b_;obtain ⟨aci,Zp,gr⟩:=kS.out bw;obtain ⟨j,PX,YD,b4,q⟩:=fq.out gr;have e:=Zp.trans (congrArg (fun z=>[z]) PX);subst e;cases bK with
 | cons r hC=>
  cases hC;obtain ⟨t,rfl⟩:=r;exact call_range_1 (N7 aO (by omega) (by omega) YD b4 (by simpa using q))
theorem JD {a b:Expr} {aQ:dx} {p pos:Pos} (a3:g5 X "range") (hm:X.ao "range"=none) (aJ:dr X [a,b] aQ) (aw:starEach [a,b] X.env=[(false,eval a X.env),(false,eval b X.env)]:=by rfl) (f6:starEach [b] X.env=[(false,eval b X.env)]:=by rfl) :
  mV X ck (.Call (.Name "range" p) [a,b] [] pos) (Pm aQ):=by
 intro aa s σ H R J h;refine Call_ (n2 J a3 hm boot_range (rX (bt (aJ pos aa s σ H _ J h) fun us s1 b_=>?_) (by rw [aw,f6]) (by rw [f6];rfl)));obtain ⟨vs,H1,aO,bK,bw⟩:=b_;obtain ⟨i,j,e,⟨bw,b4,d9,kp⟩,q⟩:=bw;subst e;cases bK with
 | cons r hC=>
  cases hC with
  | cons fe hC=>
   cases hC;obtain ⟨t,rfl⟩:=r;obtain ⟨t',rfl⟩:=fe;exact call_range_2 (N7 aO bw b4 d9 kp q)
noncomputable def NS (de:TI) (g:dC) (bW:cV):cV:=fun D σ H=>de σ H fun bP H1=>∃ W:Nat->Nat->St->ag->Prop,(∃ m,W 0 m σ H1)/\∀ i m σ H,W i m σ H ->
 (bP.stop i H/\D.b5 σ H)\/(bP.go i H/\∃ N:St->ag->Prop,(∀ aS I,N aS I->∃ dd,dd < m/\W (i + 1) dd aS I)/\∀ x I,bP.m9 i H x I->g x σ I fun cW ay=>bW { D with b5:=N,eP:=N,cO:=D.b5 } cW ay)
noncomputable def wB (bu:List Addr) (h:Heap):List (Addr × Obj):=bu.filterMap fun b=>(h.get? b).map fun o=>(b,o)
theorem AU {bu:List Addr} {h:Heap} {b:Addr} {o:Obj} (ab:b ∈ bu) (e:h.get? b=some o):(b,o) ∈ wB bu h:=Ta.mpr ⟨b,ab,by rw [e];rfl⟩
theorem RP {bu:List Addr} {h:Heap} {p:Addr × Obj} (aq:p ∈ wB bu h):p.1 ∈ bu/\h.get? p.1=some p.2:=by
 obtain ⟨b,ab,e⟩:=Ta.mp aq;cases q:h.get? b with
 | none=>rw [q] at e;cases e
 | some o=>
  rw [q] at e;have bB:(b,o)=p:=eS e;subst bB;exact ⟨ab,q⟩
theorem Inv.pinned {aa:List (Addr × Obj)} {σ:St} {H:ag} {s:Shared} {bu:List Addr} (J:Inv X aa σ H s) (hf:∀ b ∈ bu,hQ X aa H b) (a7:∀ b ∈ bu,∃ o,s.heap.get? b=some o/\∀ v,o.data ≠ .cell v):Inv X (aa ++ wB bu s.heap) σ H s:=
 J.wU fun p aq=>(jh.mp aq).elim (fun z=>J.pin p (m6 _ z)) fun z=>by
  obtain ⟨ab,e⟩:=RP z;obtain ⟨f0,f1,f2,_⟩:=hf p.1 ab;obtain ⟨o,bB,d⟩:=a7 p.1 ab;rw [e] at bB;cases bB;exact ⟨e,f0,f1,f2,d⟩
theorem Inv.zM {aa pl:List (Addr × Obj)} {σ:St} {H:ag} {s:Shared} (J:Inv X (aa ++ pl) σ H s):Inv X aa σ H s:=J.wU fun p aq=>J.pin p (m6 _ (Jr _ aq))
theorem er {iter:Expr} {body:List Stmt} {de:TI} {g:dC} {bW:cV} {pos:Pos} (aq:PassesOwn (model X.prog X.w) X.A X.env X.c0) (ar:X.calm=true) (ai:mV X ck iter de) (a3:lL X ck g) (ab:gL X body bW)
  (aw:∀ x,foldedSetIterable iter X.env x=pure x:=by intro _;rfl):gc X (.For ck iter body [] pos) (NS de g bW):=by
 intro aa s σ H D J h;refine wpAny_For (bt (ai aa s σ H _ J h) fun v s1 ae=>bt ae fun Bv s2 ak=>?_) aw;obtain ⟨it,bu,fg,bP,ay,e,bD,T,pP,f2,W,⟨m0,k1⟩,turn⟩:=ak;subst e;have stat:∀ {I:ag},(∀ b ∈ bu,I b=none)->∀ b ∈ bu,hQ X aa I b:=fun aF b ab=>⟨aF b ab,(f2 b ab).2⟩
 refine codeAny_forLoop_any (fun n s'=>∃ i aS I,Inv X aa aS I s'/\fg i s'.heap/\(∀ b ∈ bu,I b=none)/\W i n aS I) ?_ m0 ⟨0,σ,ay,bD,pP,fun b ab=>(f2 b ab).1,k1⟩;rintro n s3 ⟨i,j5,bA,eb,Lu,Nx,hY⟩;rcases turn i n j5 bA hY with ⟨stop,tK⟩ | ⟨go,N,bb,step⟩
 .refine wpAny_passesOwn aq (bt (T.done X rfl rfl rfl ar i aa s3 j5 bA X.c0 eb (stat Nx) Lu stop) fun r s4 b_=>?_);obtain ⟨au,iM⟩:=b_;subst au;exact wpAny_execs_nil ⟨j5,bA,iM,tK⟩
 .refine wpAny_passesOwn aq (bt (T.item X rfl rfl rfl ar i aa s3 j5 bA X.c0 eb (stat Nx) Lu go) fun r s4 b_=>?_);obtain ⟨u,au,cv⟩:=b_;subst au;refine wpAny_passesOwn aq (bt cv fun _ s5 b_=>?_);obtain ⟨x,dq,tX,Ig,H9,qR,Fg⟩:=b_;have G0:=tX.pinned (stat Fg) (T.obj _ _ qR);refine wpAny_passesOwn aq (bt (a3 _ s5 j5 dq x u _ G0 Ig (step x dq H9)) fun _ hL b_=>?_);obtain ⟨mN,eK,lD,En⟩:=b_;refine wpAny_passesOwn aq (bt (ab _ hL mN eK _ lD En) fun f mr ly=>?_);have again:∀ {lp:St} {hv:ag},Inv X (aa ++ wB bu s5.heap) lp hv mr->N lp hv->∃ m,m < n/\∃ i aS I,Inv X aa aS I mr/\fg i mr.heap/\(∀ b ∈ bu,I b=none)/\W i m aS I:=fun {lp hv} jk ru=>by
   obtain ⟨dd,hm,Dd⟩:=bb lp hv ru;refine ⟨dd,hm,i + 1,lp,hv,jk.zM,T.keep _ _ _ qR fun b ab o e=>(jk.pin (b,o) (m6 _ (m6 _ (AU ab e)))).1,fun b ab=>?_,Dd⟩;obtain ⟨o,e,d⟩:=T.obj _ _ qR b ab;exact (jk.pin (b,o) (m6 _ (m6 _ (AU ab e)))).2.1
  cases f with
  | next=>obtain ⟨lp,hv,jk,ru⟩:=ly;exact again jk ru
  | cont=>obtain ⟨lp,hv,jk,ru⟩:=ly;exact again jk ru
  | brk=>obtain ⟨lp,hv,jk,ly⟩:=ly;exact ⟨lp,hv,jk.zM,ly⟩
  | ret v=>obtain ⟨cw,lp,hv,jk,agN,ly⟩:=ly;exact ⟨cw,lp,hv,jk.zM,agN,ly⟩
end
theorem adt {K:a6} {a:Addr} {xs:List V} {g:dC} {bW:cV} {D:d5} {σ:St} {H:ag} (Pv:Nat->St->ag->Prop) (h0:Pv 0 σ H) (aA:∀ i σ H,i <= xs.length->Pv i σ H->aK K H a xs)
  (aw:∀ i x σ H,xs[i]? = some x->Pv i σ H->g x σ H fun cW ay=>bW { D with b5:=Pv (i + 1),eP:=Pv (i + 1),cO:=D.b5 } cW ay) (hd:∀ σ H,Pv xs.length σ H->D.b5 σ H) :
  ∃ W:Nat->Nat->St->ag->Prop,(∃ m,W 0 m σ H)/\∀ i m σ H,W i m σ H ->
   ((mS K a).stop i H/\D.b5 σ H)\/((mS K a).go i H/\∃ N:St->ag->Prop,(∀ aS I,N aS I->∃ dd,dd < m/\W (i + 1) dd aS I)/\∀ x I,(mS K a).m9 i H x I->g x σ I fun cW ay=>bW { D with b5:=N,eP:=N,cO:=D.b5 } cW ay):=by
 refine ⟨fun i m σ H=>m=xs.length - i/\i <= xs.length/\Pv i σ H,⟨xs.length,by simp,fv _,h0⟩,?_⟩;rintro i m σ H ⟨rfl,ai,p⟩;have q:=aA i σ H ai p;by_cases cx:i < xs.length
 .refine .inr ⟨⟨xs,xs[i],q,by simp [cx]⟩,Pv (i + 1),fun aS I qY=>⟨xs.length - (i + 1),by omega,rfl,cx,qY⟩,fun x I y=>?_⟩;obtain ⟨e,y⟩:=y;subst e;exact aw i x σ _ (y xs q) p
 .have e:i=xs.length:=by omega
  subst e;exact .inl ⟨⟨xs,q,b2 _⟩,hd σ H p⟩
theorem SP {lo:Int} {n:Nat} {g:dC} {bW:cV} {D:d5} {σ:St} {H:ag} (Pv:Nat->St->ag->Prop) (h0:Pv 0 σ H)
  (aw:∀ i σ H,i < n->Pv i σ H->g (.int (lo + i)) σ H fun cW ay=>bW { D with b5:=Pv (i + 1),eP:=Pv (i + 1),cO:=D.b5 } cW ay) (hd:∀ σ H,Pv n σ H->D.b5 σ H) :
  ∃ W:Nat->Nat->St->ag->Prop,(∃ m,W 0 m σ H)/\∀ i m σ H,W i m σ H ->
   ((jO lo n).stop i H/\D.b5 σ H)\/((jO lo n).go i H/\∃ N:St->ag->Prop,(∀ aS I,N aS I->∃ dd,dd < m/\W (i + 1) dd aS I)/\∀ x I,(jO lo n).m9 i H x I->g x σ I fun cW ay=>bW { D with b5:=N,eP:=N,cO:=D.b5 } cW ay):=by
 refine ⟨fun i m σ H=>m=n - i/\i <= n/\Pv i σ H,⟨n,by simp,fv _,h0⟩,?_⟩;rintro i m σ H ⟨rfl,ai,p⟩;by_cases cx:i < n
 .refine .inr ⟨cx,Pv (i + 1),fun aS I qY=>⟨n - (i + 1),by omega,rfl,cx,qY⟩,fun x I y=>?_⟩;obtain ⟨e,y⟩:=y;subst e y;exact aw i σ _ cx p
 .have e:i=n:=by omega
  subst e;exact .inl ⟨b2 _,hd σ H p⟩
noncomputable abbrev fF:=V->V->ag->bG->Prop
noncomputable def fV (X:aL) (f:Value->Value->Sem Value) (r:fF):Prop:=
 ∀ (aa:List (Addr × Obj)) (s:Shared) (σ:St) (H:ag) (x y:V) (v u:Value) (Q:bG),Inv X aa σ H s->bO x v->bO y u->r x y H Q ->
  wpAny (model X.prog X.w) X.A (f v u) (fT X aa σ Q) X.c0 s
noncomputable def EV (X:aL) (f:Value->Sem Value) (r:V->ag->bG->Prop):Prop:=
 ∀ (aa:List (Addr × Obj)) (s:Shared) (σ:St) (H:ag) (x:V) (v:Value) (Q:bG),Inv X aa σ H s->bO x v->r x H Q ->
  wpAny (model X.prog X.w) X.A (f v) (fT X aa σ Q) X.c0 s
noncomputable def lO (X:aL) (f:Value) (r:List V->ag->bG->Prop):Prop:=
 ∀ (aa:List (Addr × Obj)) (s:Shared) (σ:St) (H:ag) (xs:List V) (us:List Value) (Q:bG),Inv X aa σ H s->re xs us->r xs H Q ->
  wpAny (model X.prog X.w) X.A (call f us) (fT X aa σ Q) X.c0 s
noncomputable def T3 (X:aL) (r:V->ag->(Bool->ag->Prop)->Prop):Prop:=
 ∀ (aa:List (Addr × Obj)) (s:Shared) (σ:St) (H:ag) (x:V) (v:Value) (Q:Bool->ag->Prop),Inv X aa σ H s->bO x v->r x H Q ->
  wpAny (model X.prog X.w) X.A (truthy v) (yI X aa σ Q) X.c0 s
noncomputable def qk (r:fF) (aQ bW:TE):TE:=fun σ H Q=>aQ σ H fun x H1=>bW σ H1 fun y ay=>r x y ay Q
noncomputable def Dm (r:V->ag->bG->Prop) (aQ:TE):TE:=fun σ H Q=>aQ σ H fun x H1=>r x H1 Q
noncomputable def qf (C:Int->Int->Prop) (g:Int->Int->V):fF:=fun x y H Q=>fq x fun i=>fq y fun j=>C i j/\Q (g i j) H
noncomputable def mW (g:Int->Int->V):fF:=fun x y H Q=>fq x fun i=>fq y fun j=>Q (g i j) H
noncomputable def xf (g:Int->V):V->ag->bG->Prop:=fun x H Q=>fq x fun i=>Q (g i) H
section
variable {X:aL} {a b c:Expr} {aQ bW cn:TE} {pos:Pos}
theorem D5 (aJ:br X a aQ) (ab:br X b bW) {aa:List (Addr × Obj)} {s:Shared} {σ:St} {H:ag} {R:V->V->ag->Prop} (J:Inv X aa σ H s)
  (h:aQ σ H fun x H1=>bW σ H1 fun y ay=>R x y ay) {Q:Value->Shared->Prop} {f:Value->Value->Sem Value}
  (hf:∀ v u s2 x y ay,Inv X aa σ ay s2->bO x v->bO y u->R x y ay->wpAny (model X.prog X.w) X.A (f v u) Q X.c0 s2) :
  wpAny (model X.prog X.w) X.A (eval a X.env) (fun v cQ=>wpAny (model X.prog X.w) X.A (eval b X.env) (fun u dt=>wpAny (model X.prog X.w) X.A (f v u) Q X.c0 dt) X.c0 cQ) X.c0 s:=by
 refine bt (aJ aa s σ H _ J h) fun v s1 bZ=>d4 bZ fun x H1 aO bK bw=>?_
 refine bt (ab aa s1 σ H1 _ aO bw) fun u s2 bZ=>d4 bZ fun y ay bD cL b4=>?_
 exact hf v u s2 x y ay bD bK cL b4
theorem Db {op:Operator} {r:fF} (a7:fV X (binaryOp op) r) (aJ:br X a aQ) (ab:br X b bW):br X (.BinOp a op b pos) (qk r aQ bW):=by
 intro aa s σ H Q J h;exact wpAny_BinOp (D5 aJ ab J h fun v u s2 x y ay bD bc bp q=>a7 aa s2 σ ay x y v u Q bD bc bp q)
theorem um {op:UnaryOp} {r:V->ag->bG->Prop} (a7:EV X (unaryOp op) r) (aJ:br X a aQ):br X (.UnaryOp op a pos) (Dm r aQ):=by
 intro aa s σ H Q J h;exact UnaryOp_ (bt (aJ aa s σ H _ J h) fun v s1 bZ=>d4 bZ fun x H1 aO bK bw=>a7 aa s1 σ H1 x v Q aO bK bw)
theorem y' {f:Value->Value->Sem Value} {C:Int->Int->Prop} {g:Int->Int->Int}
  (rule:∀ (i j:Int) (t u:Tok) (s:Shared) (Q:Value->Shared->Prop) (E:Value->Shared->Prop),C i j->Q (.int (g i j) s.toks) { s with toks:=s.toks + 1 }->wpAny (model X.prog X.w) X.A (f (.int i t) (.int j u)) Q E s) :
  fV X f (qf C fun i j=>.int (g i j)):=by
 intro aa s σ H x y v u Q J bc bp h;obtain ⟨i,rfl,gh⟩:=fq.out h;obtain ⟨j,rfl,ar,q⟩:=fq.out gh;obtain ⟨t,rfl⟩:=bc;obtain ⟨t',rfl⟩:=bp;exact rule i j t t' s _ _ ar ⟨.int (g i j),H,J.tok _,⟨_,rfl⟩,q⟩
theorem PG {f:Value->Value->Sem Value} {g:Int->Int->Int}
  (rule:∀ (i j:Int) (t u:Tok) (s:Shared) (Q:Value->Shared->Prop) (E:Value->Shared->Prop),Q (.int (g i j) s.toks) { s with toks:=s.toks + 1 }->wpAny (model X.prog X.w) X.A (f (.int i t) (.int j u)) Q E s) :
  fV X f (mW fun i j=>.int (g i j)):=by
 intro aa s σ H x y v u Q J bc bp h;obtain ⟨i,rfl,gh⟩:=fq.out h;obtain ⟨j,rfl,q⟩:=fq.out gh;obtain ⟨t,rfl⟩:=bc;obtain ⟨t',rfl⟩:=bp;exact rule i j t t' s _ _ ⟨.int (g i j),H,J.tok _,⟨_,rfl⟩,q⟩
theorem Aw {f:Value->Value->Sem Value} {g:Int->Int->Bool}
  (rule:∀ (i j:Int) (t u:Tok) (s:Shared) (Q:Value->Shared->Prop) (E:Value->Shared->Prop),Q (.bool (g i j)) s->wpAny (model X.prog X.w) X.A (f (.int i t) (.int j u)) Q E s) :
  fV X f (mW fun i j=>.bq (g i j)):=by
 intro aa s σ H x y v u Q J bc bp h;obtain ⟨i,rfl,gh⟩:=fq.out h;obtain ⟨j,rfl,q⟩:=fq.out gh;obtain ⟨t,rfl⟩:=bc;obtain ⟨t',rfl⟩:=bp;exact rule i j t t' s _ _ ⟨.bq (g i j),H,J,rfl,q⟩
noncomputable def aak (i j:Int):Prop:=0 < j/\j < 1073741824
noncomputable def ace (i j:Int):Prop:=0 <= j/\j <= 1000000/\i.natAbs < 2 ^ 64
noncomputable def mT (i j:Int):Prop:=(-(2 ^ 64) < i/\i < 2 ^ 64)\/(-(2 ^ 64) < j/\j < 2 ^ 64)
theorem mT.ok {i j:Int} (h:mT i j):IntMulOk i j:=by
 rcases h with ⟨ae,ak⟩ | ⟨ae,ak⟩
 .exact .of_left (intBits_le_64 ae ak)
 .exact .of_right (intBits_le_64 ae ak)
theorem dj:fV X (binaryOp .Add) (mW fun i j=>.int (i + j)):=PG fun _ _ _ _ _ _ _ q=>add_int q
theorem gW:fV X (binaryOp .Sub) (mW fun i j=>.int (i - j)):=PG fun _ _ _ _ _ _ _ q=>sub_int q
theorem qP:fV X (binaryOp .Mult) (qf mT fun i j=>.int (i * j)):=y' fun _ _ _ _ _ _ _ ar q=>mul_int q ar.ok
theorem RO:fV X (binaryOp .FloorDiv) (qf aak fun i j=>.int (i / j)):=y' fun i j _ _ _ _ _ ar q=>by
 have ae:(0:Int) < j:=ar.1;have ak:j < 1073741824:=ar.2;exact floordiv_int (by omega) (by rw [Int.fdiv_eq_ediv_of_nonneg i (by omega)];exact q) (.inl (V_ (by omega)))
theorem h5:fV X (binaryOp .Mod) (qf (fun _ j=>0 < j) fun i j=>.int (i % j)):=y' fun i j _ _ _ _ _ ar q=>by
 have ae:(0:Int) < j:=ar;exact mod_int' (by omega) (by rw [Int.fmod_eq_emod_of_nonneg i (by omega)];exact q)
theorem S9:fV X (binaryOp .Pow) (qf ace fun i j=>.int (i ^ j.toNat)):=y' fun _ _ _ _ _ _ _ ar q=>pow_int_small ar.1 ar.2.1 ar.2.2 q
theorem agi {f:Value->Sem Value} {g:Int->Int}
  (rule:∀ (i:Int) (t:Tok) (s:Shared) (Q:Value->Shared->Prop) (E:Value->Shared->Prop),Q (.int (g i) s.toks) { s with toks:=s.toks + 1 }->wpAny (model X.prog X.w) X.A (f (.int i t)) Q E s) :
  EV X f (xf fun i=>.int (g i)):=by
 intro aa s σ H x v Q J bc h;obtain ⟨i,rfl,q⟩:=fq.out h;obtain ⟨t,rfl⟩:=bc;exact rule i t s _ _ ⟨.int (g i),H,J.tok _,⟨_,rfl⟩,q⟩
theorem uA:EV X (unaryOp .USub) (xf fun i=>.int (-i)):=agi fun _ _ _ _ _ q=>neg_int q
end
noncomputable def Cz:V->V->Bool
 | .bH,.bH=>true | .bH,.int _=>true | .int _,.bH=>true | .bH,.bq _=>true | .bq _,.bH=>true | .bH,.str _=>true | .str _,.bH=>true
 | .int _,.int _=>true | .bq _,.bq _=>true | .str _,.str _=>true | .j8 _,.j8 _=>true
 | .int _,.str _=>true | .str _,.int _=>true | .bq _,.str _=>true | .str _,.bq _=>true
 | _,_=>false
noncomputable def Dj:fF:=fun x y H Q=>Cz x y=true/\Q (.bq (decide (x=y))) H
noncomputable def Ib:fF:=fun x y H Q=>Cz x y=true/\Q (.bq (!decide (x=y))) H
theorem ME {i j:Int}:decide (V.int i=V.int j)=(i == j):=by
 rw [n_];simp
theorem Md {i j:Bool}:decide (V.bq i=V.bq j)=(i == j):=by
 rw [n_];simp
theorem MU {i j:Str}:decide (V.str i=V.str j)=(i == j):=by
 rw [n_];simp
theorem Pn {i j:Array UInt8}:decide (V.j8 i=V.j8 j)=(i.toList == j.toList):=by
 rw [n_];cases i;cases j;simp
section
variable {X:aL} {a b c:Expr} {aQ bW cn:TE} {pos:Pos}
theorem eQ {aa:List (Addr × Obj)} {σ:St} {H:ag} {s:Shared} {Q:bG} {k ik:Bool} (J:Inv X aa σ H s) (q:Q (.bq k) H) (e:k=ik):fT X aa σ Q (.bool ik) s:=by
 subst e;exact ⟨.bq k,H,J,rfl,q⟩
theorem hi:fV X (compareOp .Eq) Dj:=by
 intro aa s σ H x y v u Q J bc bp h;obtain ⟨aw,q⟩:=h;cases x with
 | bH=>
  cases bc;cases y with
  | bH=>cases bp;exact ag7 (eQ J q (by simp))
  | bq j=>cases bp;exact ahK (eQ J q (by simp))
  | int j=>obtain ⟨t',rfl⟩:=bp;exact aif (eQ J q (by simp))
  | str j=>obtain ⟨t',rfl⟩:=bp;exact ahE (eQ J q (by simp))
  | _=>exact absurd (show false=true from aw) hB
 | bq i=>
  cases bc;cases y with
  | bH=>cases bp;exact ai9 (eQ J q (by simp))
  | bq j=>cases bp;exact eq_bool (eQ J q Md)
  | str j=>obtain ⟨t',rfl⟩:=bp;exact aha (eQ J q (by simp))
  | _=>exact absurd (show false=true from aw) hB
 | int i=>
  obtain ⟨t,rfl⟩:=bc;cases y with
  | bH=>cases bp;exact aiV (eQ J q (by simp))
  | int j=>obtain ⟨t',rfl⟩:=bp;exact eq_int (eQ J q ME)
  | str j=>obtain ⟨t',rfl⟩:=bp;exact aiP (eQ J q (by simp))
  | _=>exact absurd (show false=true from aw) hB
 | str i=>
  obtain ⟨t,rfl⟩:=bc;cases y with
  | bH=>cases bp;exact ahN (eQ J q (by simp))
  | bq j=>cases bp;exact aip (eQ J q (by simp))
  | int j=>obtain ⟨t',rfl⟩:=bp;exact aiq (eQ J q (by simp))
  | str j=>obtain ⟨t',rfl⟩:=bp;exact eq_str (eQ J q MU)
  | _=>exact absurd (show false=true from aw) hB
 | j8 i=>
  obtain ⟨t,rfl⟩:=bc;cases y with
  | j8 j=>obtain ⟨t',rfl⟩:=bp;exact PySem.W.eq_bytes (eQ J q Pn)
  | _=>exact absurd (show false=true from aw) hB
 | _=>cases y <;> exact absurd (show false=true from aw) hB
theorem mj:fV X (compareOp .NotEq) Ib:=by
 intro aa s σ H x y v u Q J bc bp h;obtain ⟨aw,q⟩:=h;cases x with
 | bH=>
  cases bc;cases y with
  | bH=>cases bp;exact aiT (eQ J q (by simp))
  | bq j=>cases bp;exact ahI (eQ J q (by simp))
  | int j=>obtain ⟨t',rfl⟩:=bp;exact aiQ (eQ J q (by simp))
  | str j=>obtain ⟨t',rfl⟩:=bp;exact aio (eQ J q (by simp))
  | _=>exact absurd (show false=true from aw) hB
 | bq i=>
  cases bc;cases y with
  | bH=>cases bp;exact ag_ (eQ J q (by simp))
  | bq j=>cases bp;exact ne_bool (eQ J q (congrArg not Md))
  | str j=>obtain ⟨t',rfl⟩:=bp;exact ah8 (eQ J q (by simp))
  | _=>exact absurd (show false=true from aw) hB
 | int i=>
  obtain ⟨t,rfl⟩:=bc;cases y with
  | bH=>cases bp;exact aiU (eQ J q (by simp))
  | int j=>obtain ⟨t',rfl⟩:=bp;exact ne_int (eQ J q (congrArg not ME))
  | str j=>obtain ⟨t',rfl⟩:=bp;exact aiy (eQ J q (by simp))
  | _=>exact absurd (show false=true from aw) hB
 | str i=>
  obtain ⟨t,rfl⟩:=bc;cases y with
  | bH=>cases bp;exact aiA (eQ J q (by simp))
  | bq j=>cases bp;exact ai6 (eQ J q (by simp))
  | int j=>obtain ⟨t',rfl⟩:=bp;exact aiY (eQ J q (by simp))
  | str j=>obtain ⟨t',rfl⟩:=bp;exact ne_str (eQ J q (congrArg not MU))
  | _=>exact absurd (show false=true from aw) hB
 | j8 i=>
  obtain ⟨t,rfl⟩:=bc;cases y with
  | j8 j=>obtain ⟨t',rfl⟩:=bp;exact PySem.W.ne_bytes (eQ J q (congrArg not Pn))
  | _=>exact absurd (show false=true from aw) hB
 | _=>cases y <;> exact absurd (show false=true from aw) hB
theorem l2:fV X (compareOp .Lt) (mW fun i j=>.bq (decide (i < j))):=Aw fun _ _ _ _ _ _ _ q=>lt_int q
theorem ac5:fV X (compareOp .LtE) (mW fun i j=>.bq (decide (i <= j))):=Aw fun _ _ _ _ _ _ _ q=>le_int q
theorem m8:fV X (compareOp .Gt) (mW fun i j=>.bq (decide (j < i))):=Aw fun _ _ _ _ _ _ _ q=>gt_int q
theorem aaq:fV X (compareOp .GtE) (mW fun i j=>.bq (decide (j <= i))):=Aw fun _ _ _ _ _ _ _ q=>ge_int q
theorem S_:fV X (compareOp .In) (fun x y H Q=>∃ i j,x=.str i/\y=.str j/\Q (.bq (!(qm j i 0 j.length 1).isEmpty)) H):=by
 intro aa s σ H x y v u Q J bc bp h;obtain ⟨i,j,rfl,rfl,q⟩:=h;obtain ⟨t,rfl⟩:=bc;obtain ⟨t',rfl⟩:=bp;exact in_str (eQ J q rfl)
theorem KG:fV X (compareOp .IsNot) (fun x y H Q=>y=.bH/\Q (.bq (!decide (x=.bH))) H):=by
 intro aa s σ H x y v u Q J bc bp h;obtain ⟨rfl,q⟩:=h;cases bp;refine isnot_none_gen (eQ J q ?_);cases x <;> first
  | (cases bc;rfl)
  | (obtain ⟨t,rfl⟩:=bc;rfl)
theorem cT (b:Expr) {op:CmpOp} (h:op ≠ .In:=by decide) (ak:op ≠ .NotIn:=by decide):behindInMarks op b=false:=by
 have ax:(op == CmpOp.In)=false:=by cases op <;> first | rfl | exact absurd rfl h
 have aG:(op == adC)=false:=by cases op <;> first | rfl | exact absurd rfl ak
 cases b <;> simp [behindInMarks,ax,aG]
theorem jl {op:CmpOp} {r:fF} (a7:fV X (compareOp op) r) (aJ:br X a aQ) (ab:br X b bW) (hm:behindInMarks op b=false):br X (.Compare a [op] [b] pos) (qk r aQ bW):=by
 intro aa s σ H Q J h;exact wpAny_Compare1 (D5 aJ ab J h fun v u s2 x y ay bD bc bp q=>a7 aa s2 σ ay x y v u Q bD bc bp q) hm
noncomputable def CF (t:TE):TT:=fun σ H Q=>t σ H fun x I=>jV x fun k=>Q k I
theorem da {op:CmpOp} {r:fF} (a7:fV X (compareOp op) r) (aJ:br X a aQ) (ab:br X b bW) (hm:behindInMarks op b=false):hJ X (.Compare a [op] [b] pos) (CF (qk r aQ bW)):=by
 intro aa s σ H Q J h;refine wpAny_isTrue_Compare1 (bt (aJ aa s σ H _ J h) fun v s1 bZ=>d4 bZ fun x H1 aO bK bw=>bt (ab aa s1 σ H1 _ aO bw) fun u s2 ⟨y,ay,bD,cL,b4⟩=>
  bt (a7 aa s2 σ ay x y v u _ bD bK cL b4) fun c s3 bZ=>d4 bZ fun z bA eb ki gr=>?_) hm
 obtain ⟨k,e,d9⟩:=jV.out gr;subst e;cases ki;exact wpAny_truthy_bool ⟨bA,eb,d9⟩
noncomputable def OZ (K:a6) (x:V) (H:ag) (k:Bool):Prop:=
 match x with
 | .bH=>k=false
 | .bq b=>k=b
 | .int i=>k=(i != 0)
 | .str y=>y.length <= sizeLine/\k=((y.length:Int) != 0)
 | .j8 y=>y.size <= sizeLine/\k=((y.size:Int) != 0)
 | .ref p=>(∃ xs,aK K H p xs/\k = !xs.isEmpty)\/(∃ xs,bS K H p xs/\k = !xs.isEmpty)\/∃ aT,H p=some (.cE aT)/\k = !aT.isEmpty
 | _=>False
theorem ae' {dF:Type} {aT:List (dF × V)} {vs:List (dF × Value)} (r:fo aT vs):(!vs.isEmpty) = !aT.isEmpty:=by
 cases r <;> rfl
theorem JW {xs:List V} {a0:List Value} (r:re xs a0):(!a0.toArray.isEmpty) = !xs.isEmpty:=by
 cases r <;> simp
theorem qy:(sizeLine:Nat) < 2 ^ 63:=by rw [sizeLine_eq];decide
theorem aaR:T3 X (fun x H Q=>∃ k,OZ X.K x H k/\Q k H):=by
 intro aa s σ H x v Q J bc h;obtain ⟨k,e,q⟩:=h;have aA:=qy;have aw:sizeLine=16777216:=sizeLine_eq;cases x with
 | bH=>
  cases bc;have bB:k=false:=e;subst bB;exact truthy_none ⟨H,J,q⟩
 | bq b=>
  cases bc;have bB:k=b:=e;subst bB;exact wpAny_truthy_bool ⟨H,J,q⟩
 | int i=>
  obtain ⟨t,rfl⟩:=bc;have bB:k=(i != 0):=e;subst bB;exact PySem.P.truthy_int ⟨H,J,q⟩
 | str y=>
  obtain ⟨t,rfl⟩:=bc;obtain ⟨bI,bB⟩:y.length <= sizeLine/\k=((y.length:Int) != 0):=e;subst bB;exact PySem.P.truthy_str (by omega) ⟨H,J.tok _,q⟩
 | j8 y=>
  obtain ⟨t,rfl⟩:=bc;obtain ⟨bI,bB⟩:y.size <= sizeLine/\k=((y.size:Int) != 0):=e;subst bB;exact PySem.W.truthy_bytes (by omega) ⟨H,J.tok _,q⟩
 | ref p=>
  cases bc;have bB:(∃ xs,aK X.K H p xs/\k = !xs.isEmpty)\/(∃ xs,bS X.K H p xs/\k = !xs.isEmpty)\/∃ aT,H p=some (.cE aT)/\k = !aT.isEmpty:=e;rcases bB with ⟨xs,av,bB⟩ | ⟨xs,av,bB⟩ | ⟨aT,av,bB⟩
  .subst bB;obtain ⟨a0,r,pl,az⟩:=J.list av;have hlen:=r.length;exact wpAny_truthy_list pl.isList (by simp only [fy];omega) ⟨H,J.tok _,by rw [JW r];exact q⟩
  .subst bB;obtain ⟨a0,r,pl,az⟩:=J.tuple av;have hlen:=r.length;exact truthy_tuple pl (by simp only [fy];omega) ⟨H,J.tok _,by rw [JW r];exact q⟩
  .subst bB;obtain ⟨az,ej,vs,r,m⟩:aT.length <= sizeLine/\(p == sysModules)=false/\∃ vs,fo aT vs/\s.heap.DictOf (iN X.prog X.w) p vs:=J.bl p _ av;have hlen:aT.length=vs.length:=Gs r;exact wpAny_truthy_dict ej m (by omega) ⟨H,J.tok _,by rw [ae' r];exact q⟩
 | _=>exact (show False from e).elim
theorem Hj (aJ:br X a aQ) (he:∀ whole,isTrue a X.env whole=(do let v <- whole;standAt a.pos;holding [v] (truthy v))) :
  hJ X a (fun σ H Q=>aQ σ H fun x I=>∃ k,OZ X.K x I k/\Q k I):=by
 intro aa s σ H Q J h;exact isTrue_plain (bt (aJ aa s σ H _ J h) fun v s1 bZ=>d4 bZ fun x H1 aO bK bw=>aaR aa s1 σ H1 x v Q aO bK bw) (he _)
theorem j6:fV X (binaryOp .Add) (fun x y H Q=>∃ i j,x=.str i/\y=.str j/\i.length + j.length <= sizeLine/\Q (.str (i ++ j)) H):=by
 intro aa s σ H x y v u Q J bc bp h;obtain ⟨i,j,rfl,rfl,az,q⟩:=h;obtain ⟨t,rfl⟩:=bc;obtain ⟨t',rfl⟩:=bp;exact add_str (fun t' cG=>⟨.str (i ++ j),H,J.tok _,⟨_,rfl⟩,q⟩) az
theorem mg {x:V} {us:List Value} (r:re [x] us):∃ u,us=[u]/\bO x u:=by
 cases r with
 | cons bK cL=>cases cL;exact ⟨_,rfl,bK⟩
theorem A0 {x y:V} {us:List Value} (r:re [x,y] us):∃ u fi,us=[u,fi]/\bO x u/\bO y fi:=by
 cases r with
 | cons bK cL=>
  cases cL with
  | cons ki tJ=>cases tJ;exact ⟨_,_,rfl,bK,ki⟩
theorem Hn (ar:X.calm=true):lO X (.builtin "max") (fun xs H Q=>∃ i j,xs=[.int i,.int j]/\Q (.int (if j > i then j else i)) H):=by
 intro aa s σ H xs us Q J r h;obtain ⟨i,j,rfl,q⟩:=h;obtain ⟨u,fi,rfl,⟨t,rfl⟩,⟨t',rfl⟩⟩:=A0 r;refine max_two_ints (J.ok.hd ar) fun h' cG k=>⟨_,H,J.kept k,?_,q⟩
 by_cases aZ:j > i
 .rw [if_pos aZ,if_pos aZ];exact ⟨_,rfl⟩
 .rw [if_neg aZ,if_neg aZ];exact ⟨_,rfl⟩
theorem T9 (ar:X.calm=true):lO X (.builtin "min") (fun xs H Q=>∃ i j,xs=[.int i,.int j]/\Q (.int (if j < i then j else i)) H):=by
 intro aa s σ H xs us Q J r h;obtain ⟨i,j,rfl,q⟩:=h;obtain ⟨u,fi,rfl,⟨t,rfl⟩,⟨t',rfl⟩⟩:=A0 r;refine min_two_ints (J.ok.hd ar) fun h' cG k=>⟨_,H,J.kept k,?_,q⟩
 by_cases aZ:j < i
 .rw [if_pos aZ,if_pos aZ];exact ⟨_,rfl⟩
 .rw [if_neg aZ,if_neg aZ];exact ⟨_,rfl⟩
theorem tj:lO X (.type "str") (fun xs H Q=>∃ i,xs=[.int i]/\i.natAbs.log2 < 1920/\Q (.str (toString i)) H):=by
 intro aa s σ H xs us Q J r h;obtain ⟨i,rfl,az,q⟩:=h;obtain ⟨u,rfl,t,rfl⟩:=mg r;exact PySem.P.str_of_int az ⟨.str _,H,J.tok _,⟨_,rfl⟩,q⟩
end
structure rv (h:Heap) (x aj C:Addr) (c3:Str->Option Value):Prop where
 obj:h.get? x=some (p_ C aj)
 ns:h.Ns1 aj c3
 ne:aj ≠ x
theorem Gu {h:Heap} {aj:Addr} {c3:Str->Option Value} (n:h.Ns1 aj c3):∃ od,h.get? aj=some od/\∀ name,HF name od=some (c3 name):=by
 obtain ⟨o,a4,dS,a7,hd,aE,_,hm⟩:=n;refine ⟨o,a7,fun name=>?_⟩;have e:=hm name;unfold nsFind findBy at e;rw [<- aeJ] at e;unfold HF;rw [hd];dsimp only;split
 .rename_i y q;rw [q] at e;exact congrArg some e
 .rename_i q;rw [q] at e;have a:a4.toList.any (·.refKey)=false:=by
   rw [EX];intro y bI;obtain ⟨z,t,YM⟩:=aE y (Array.mem_toList_iff.mp bI);simp [DictEntry.refKey,YM]
  have m5:¬ a4.toList.any (·.refKey)=true:=by rw [a];exact hB
  rw [if_neg m5];exact congrArg some e
theorem rv.look {h:Heap} {x aj C:Addr} {c3:Str->Option Value} (J:rv h x aj C c3):∃ od,r5 h x (p_ C aj) C (some od)/\∀ name,HF name od=some (c3 name):=
 let ⟨od,a7,aA⟩:=Gu J.ns
 ⟨od,⟨J.obj,rfl,rfl,a7⟩,aA⟩
section
variable {prog:Program} {w:World} {A:Around} {E:Value->Shared->Prop} {s:Shared} {K:a6} {x aj C f:Addr} {c3:Str->Option Value} {name:Str} {v:Value}
theorem UZ {expr:Bool} {Q:Value->Shared->Prop} (X:K.In s.heap) (J:rv s.heap x aj C c3) (a3:Fe K C name=true) (cN:x2 K C=true)
  (aJ:dg K (.ref C) name=some none) (aM:c3 name=some v) (qX:aat v=true) (h:Q v { s with toks:=s.toks + 1 }) :
  wpAny (model prog w) A (getAttr (.ref x) name expr) Q E s:=by
 obtain ⟨od,bP,aA⟩:=J.look;exact PySem.W.get_value X bP (PV a3).1 (PySem.W.findObj_own cN aJ rfl (by rw [aA,aM])) qX h
theorem S5 {pl:Sem Bool} {Q:Value × List Value->Shared->Prop} (X:K.In s.heap) (J:rv s.heap x aj C c3) (a3:Fe K C name=true)
  (hf:dg K (.ref C) name=some (some (.ref f))) (ct:H3 K (.ref f)=true) (aM:c3 name=none) (h:Q (.ref f,[.ref x]) s) :
  wpAny (model prog w) A (getMethod (.ref x) name pl) Q E s:=by
 obtain ⟨od,bP,aA⟩:=J.look;exact PySem.W.method_fn X bP (PV a3).1 (PV a3).2 hf (beq_iff_eq.mp ct) (by show (HF name od).map (·.isSome)=some false;rw [aA,aM];rfl) h
theorem Zt {ns:List Str} {Q:Unit->Shared->Prop} (X:K.In s.heap) (J:rv s.heap x aj C c3)
  (aw:dg K (.ref C) "__setattr__"=some (some (.builtin "object.__setattr__"))) (aq:afz K C=true) (ct:JC K C name=some none) (cN:x2 K C=true)
  (hw:yv c3 ns) (hsz:ns.length <= sizeLine)
  (h:∀ h',rv h' x aj C (fun y=>if y=name then some v else c3 y)->z2 aj s.heap h'->Q () { s with heap:=h',toks:=s.toks + 2 }) :
  wpAny (model prog w) A (setAttr (.ref x) name v) Q E s:=by
 obtain ⟨od,bP,aA⟩:=J.look;refine KQ X bP aw (PySem.W.osa_open (s:={ s with toks:=s.toks + 1 }) (r:=none) X bP aq ct fun b=>?_);obtain ⟨cd,ar,l3⟩:=qc cN;have av:s.heap.get? x=some ⟨.ref C,some aj,.plain,#[]⟩:=J.obj;refine wpAny_bind (wpAny_pure (wpAny_bind (wpAny_bind (wpAny_loadPart av (wpAny_bind (Pa (s:={ s with toks:=s.toks + 1 }) (FU X ar) ?_))))));rw [l3];refine wpAny_pure (a:=some aj) (wpAny_bind (wpAny_pure (wpAny_bind ?_)));refine wpAny_nsSet1 (s:={ s with toks:=s.toks + 1 }) J.ns fun h' o2 f6=>?_
 obtain ⟨Pg,KV,O9,rP,wu,kq⟩:=o2.count (MZ name v hw);refine wpAny_bind (wpAny_lookBehind rP (by rw [wu];exact pastItsLine_dict (c1 kq (by rw [hb];omega))) ?_);exact wpAny_pure (h _ ⟨(f6.2 _ (c6 J.ne)).trans J.obj,o2,J.ne⟩ f6)
theorem V5 {R:Result->Shared->Prop} {vs:List Value} {kw:List (Str × Value)} (X:K.In s.heap) (hm:afd K C=true)
  (ai:dg K (.ref C) "__init__"=some (some (.ref f))) (hf:PO K (.ref f)=some (.type "function"))
  (h:codeAny (model prog w) (A.under (.builtin "type.__call__" ⟨.ref C :: vs,kw⟩)) (.call (.ref f) ⟨.ref (s.heap.objs.size + 1) :: vs,kw⟩) (adi (s.heap.objs.size + 1) R)
   { s with heap:=(s.heap.push ja).push (p_ C s.heap.objs.size) }) :
  codeAny (model prog w) A (.call (.ref C) ⟨vs,kw⟩) R s:=by
 obtain ⟨cN,g,d,t,os⟩:=s;exact PySem.W.make_core (PySem.W.makes_of X hm) (El X ai) (fun self=>V1 X self hf) (.inl rfl) h
end
noncomputable def c_ (f:Str) (v:V):List (Str × V)->List (Str × V)
 | []=>[(f,v)]
 | (g,x) :: r=>if g=f then (g,v) :: r else (g,x) :: c_ f v r
theorem Dt (f g:Str) (v:V):∀ aN:List (Str × V),(c_ f v aN).lookup g=if g=f then some v else aN.lookup g
 | []=>by
  show m7 g [(f,v)]=_;by_cases h:g=f
  .have ab:(g == f)=true:=beq_iff_eq.mpr h;simp only [m7,ab,if_pos h]
  .have ab:(g == f)=false:=beq_eq_false_iff_ne.mpr h;simp only [m7,ab,if_neg h]
 | (k,x) :: r=>by
  have cj:=Dt f g v r;rw [show c_ f v ((k,x) :: r)=(if k=f then (k,v) :: r else (k,x) :: c_ f v r) from rfl];by_cases aE:k=f
  .rw [if_pos aE];by_cases h:g=k
   .have ab:(g == k)=true:=beq_iff_eq.mpr h;simp only [m7,ab,if_pos (h.trans aE)]
   .have ab:(g == k)=false:=beq_eq_false_iff_ne.mpr h;simp only [m7,ab,if_neg (fun e:g=f=>h (e.trans aE.symm))]
  .rw [if_neg aE];by_cases h:g=k
   .have ab:(g == k)=true:=beq_iff_eq.mpr h;simp only [m7,ab,if_neg (fun e:g=f=>aE (h.symm.trans e))]
   .have ab:(g == k)=false:=beq_eq_false_iff_ne.mpr h;simp only [m7,ab];exact cj
theorem w4 (f:Str) (v:V):∀ aN:List (Str × V),f ∈ (c_ f v aN).map (·.1)/\∀ g,g ∈ aN.map (·.1)->g ∈ (c_ f v aN).map (·.1)
 | []=>⟨by simp [c_],fun g h=>by simp at h⟩
 | (k,x) :: r=>by
  obtain ⟨rL,vc⟩:=w4 f v r;rw [show c_ f v ((k,x) :: r)=(if k=f then (k,v) :: r else (k,x) :: c_ f v r) from rfl];by_cases aE:k=f
  .rw [if_pos aE];subst aE;exact ⟨by simp,fun g h=>by simpa using h⟩
  .rw [if_neg aE];refine ⟨?_,fun g h=>?_⟩
   .rw [eJ];exact fw _ rL
   .rw [eJ] at h ⊢;rcases dQ.mp h with e | e
    .exact dQ.mpr (.inl e)
    .exact fw _ (vc g e)
theorem wn (f:Str) (v:V):∀ aN:List (Str × V),(c_ f v aN).length <= aN.length + 1
 | []=>by simp [c_]
 | (k,x) :: r=>by
  have cj:=wn f v r;rw [show c_ f v ((k,x) :: r)=(if k=f then (k,v) :: r else (k,x) :: c_ f v r) from rfl];by_cases aE:k=f
  .rw [if_pos aE,hb,hb];omega
  .rw [if_neg aE,hb,hb];omega
theorem hE.some_of {v:V} {o:Option Value} (r:hE (some v) o):∃ u,o=some u/\bO v u:=by
 cases o with
 | none=>exact (show False from r).elim
 | some u=>exact ⟨u,rfl,r⟩
theorem hE.none_of {o:Option Value} (r:hE none o):o=none:=by
 cases o with
 | none=>rfl
 | some u=>exact (show False from r).elim
theorem Vq {v:V} {u:Value} (r:bO v u):aat u=true:=by
 cases v with
 | bH=>cases (show u=jw from r);rfl
 | bq b=>cases (show u=kC b from r);rfl
 | int i=>obtain ⟨t,e⟩:=(show ∃ t,u=lq i t from r);cases e;rfl
 | str x=>obtain ⟨t,e⟩:=(show ∃ t,u=qz x t from r);cases e;rfl
 | j8 b=>obtain ⟨t,e⟩:=(show ∃ t,u=GK b t from r);cases e;rfl
 | sa b=>obtain ⟨t,e⟩:=(show ∃ t,u=B0 b t from r);cases e;rfl
 | ref a=>cases (show u=dk a from r);rfl
 | ty n=>cases (show u=pB n from r);rfl
section
variable {P:Program} {w:World} {H I:ag} {h h':Heap} {a C aj:Addr} {aN mM:List (Str × V)}
theorem CC (bl:eI P w H h) (e:H a=some (.ins C aj aN)):∃ c3,rv h a aj C c3/\(∀ f,hE (aN.lookup f) (c3 f))/\yv c3 (aN.map (·.1))/\aN.length <= 1000/\H aj=some (.own a):=by
 obtain ⟨d,z,ne,cu,c3,n,r,q⟩:=(show ea P w H h a (.ins C aj aN) from bl a _ e);exact ⟨c3,⟨cu,n,ne⟩,r,q,z,d⟩
end
structure gB (K:a6) (C:Addr):Prop where
 Zz:Fe K C Str.empty=true
 hd:x2 K C=true
 po:afz K C=true
 jC:dg K (.ref C) "__setattr__"=some (some (.builtin "object.__setattr__"))
theorem gB.get {K:a6} {C:Addr} (c:gB K C) (f:Str):Fe K C f=true:=c.Zz
noncomputable def cB (K:a6) (C:Addr) (f:Str):Prop:=dg K (.ref C) f=some none
theorem cB.YN {K:a6} {C:Addr} {f:Str} (n:cB K C f):JC K C f=some none:=by
 unfold JC;rw [show dg K (.ref C) f=some none from n];rfl
structure ai4 (K:a6) (C:Addr) (f:Str) (v:V) (u:Value):Prop where
 at_:dg K (.ref C) f=some (some u)
 rel:bO v u
 get:sS K u "__get__"=some none
 ai0:PySem.W.copiedNames.contains f=false
structure hh (K:a6) (C:Addr) (m:Str) (f:Addr):Prop where
 at_:dg K (.ref C) m=some (some (.ref f))
 fn:H3 K (.ref f)=true
 bF:oh K (.ref f)=true
section
variable {X:aL} {aa:List (Addr × Obj)} {σ:St} {H:ag} {s:Shared} {a C aj:Addr} {aN:List (Str × V)} {f:Str} {v:V} {A:Around} {E:Value->Shared->Prop}
theorem Lo {b:Bool} {Q:Value->Shared->Prop} (J:Inv X aa σ H s) (e:H a=some (.ins C aj aN)) (c:gB X.K C) (n:cB X.K C f) (l:aN.lookup f=some v)
  (h:∀ u s',Inv X aa σ H s'->bO v u->Q u s'):wpAny (model X.prog X.w) A (getAttr (.ref a) f b) Q E s:=by
 obtain ⟨c3,O,r,_,_,_⟩:=CC J.bl e;obtain ⟨u,bQ,eH⟩:=hE.some_of (v:=v) (o:=c3 f) (by rw [<- l];exact r f);exact UZ J.ey O (c.get f) c.hd n bQ (Vq eH) (h u _ (J.tok _) eH)
theorem wp {m:Str} {g:Addr} {pl:Sem Bool} {Q:Value × List Value->Shared->Prop} (J:Inv X aa σ H s) (e:H a=some (.ins C aj aN)) (c:gB X.K C) (k:hh X.K C m g) (l:aN.lookup m=none)
  (h:Q (.ref g,[.ref a]) s):wpAny (model X.prog X.w) A (getMethod (.ref a) m pl) Q E s:=by
 obtain ⟨c3,O,r,_,_,_⟩:=CC J.bl e;have aF:c3 m=none:=hE.none_of (by rw [<- l];exact r m);exact S5 J.ey O (c.get m) k.at_ k.fn aF h
theorem IP {y:V} {u:Value} {Q:Unit->Shared->Prop} (J:Inv X aa σ H s) (e:H a=some (.ins C aj aN)) (c:gB X.K C) (n:cB X.K C f) (aA:aN.length < 1000) (bp:bO y u)
  (h:∀ s',Inv X aa σ (upd H a (.ins C aj (c_ f y aN))) s'->Q () s'):wpAny (model X.prog X.w) A (setAttr (.ref a) f u) Q E s:=by
 obtain ⟨c3,O,r,de,_,a7⟩:=CC J.bl e;have az:(aN.map (·.1)).length <= sizeLine:=by rw [a',sizeLine_eq];omega
 refine Zt J.ey O c.jC c.po n.YN c.hd de az fun h' FZ h2=>h _ ?_
 have hd:∃ o,h'.get? aj=some o:=let ⟨o,_,_,bB,_⟩:=FZ.ns;⟨o,bB⟩;refine J.write (x:=a) (e:=aj) (by rw [e];exact jZ) (.inr a7) (fun b q ab z=>(h2.2 b ab).trans z) hd ?_;refine ⟨by rw [aW O.ne];exact a7,?_,O.ne,FZ.obj,_,FZ.ns,fun g=>?_,fun g a3=>?_⟩
 .have:=wn f y aN;omega
 .show hE ((c_ f y aN).lookup g) (if g=f then some u else c3 g);rw [Dt];by_cases q:g=f
  .rw [if_pos q,if_pos q];exact bp
  .rw [if_neg q,if_neg q];exact r g
 .by_cases q:g=f
  .rw [q];exact (w4 f y aN).1
  .refine (w4 f y aN).2 g (de g fun z=>a3 ?_);show (if g=f then some u else c3 g)=none;rw [if_neg q];exact z
theorem Inv.made (J:Inv X aa σ H s):Inv X aa σ (upd (upd H s.heap.objs.size (.own (s.heap.objs.size + 1))) (s.heap.objs.size + 1) (.ins C s.heap.objs.size []))
  { s with heap:=(s.heap.push ja).push (p_ C s.heap.objs.size) }:=by
 have ax:(s.heap.push ja).get? s.heap.objs.size=some ja:=gz s.heap rfl;have aG:((s.heap.push ja).push (p_ C s.heap.objs.size)).get? (s.heap.objs.size + 1)=some (p_ C s.heap.objs.size):=by
  have:=gz (s.heap.push ja) (o:=p_ C s.heap.objs.size) rfl;rwa [wC] at this
 have bM:(s.heap.push ja).Ns s.heap.objs.size (fun _=>none):=⟨ja,#[],_,ax,rfl,(fun e he=>absurd he (by simp)),fun _=>rfl⟩;have aO:=J.laid (a:=s.heap.objs.size) (o:=.own (s.heap.objs.size + 1)) (h':=s.heap.push ja) (t':=s.toks) (fun b u q=>dY _ q) (b2 _) ⟨_,ax⟩;refine aO.laid (a:=s.heap.objs.size + 1) (o:=.ins C s.heap.objs.size []) (t':=s.toks) (fun b u q=>dY _ q) (zw (wC _ _)) ?_;have ne:s.heap.objs.size ≠ s.heap.objs.size + 1:=ft (K4 _);refine ⟨by rw [aW ne,aU],fv _,ne,aG,fun _=>none,(ae3 bM).at fun o q=>dY _ q,fun _=>jZ,fun y bI=>absurd rfl bI⟩
theorem ac_ {prog:Program} {w:World} {env:Env} {e:Expr} {f:Str} {pos:Pos} {s:Shared} {Q:Value->Shared->Prop} (ab:attributeBase e f env (eval e env)=eval e env)
  (h:wpAny (model prog w) A (eval e env) (fun o cQ=>wpAny (model prog w) A (getAttr o f true) Q E cQ) E s):wpAny (model prog w) A (eval (.Attribute e f pos) env) Q E s:=
 Attribute_any_ h (by rw [arm_eval_Attribute,ab])
end
noncomputable def ia (K:a6) (H:ag) (a:Addr) (f:Str) (v:V):Prop:=∃ C aj aN,H a=some (.ins C aj aN)/\gB K C/\cB K C f/\aN.lookup f=some v
noncomputable def E7 (K:a6) (aQ:TE) (f:Str):TE:=fun σ H Q=>aQ σ H fun x H1=>eC x fun a=>∃ v,ia K H1 a f v/\Q v H1
noncomputable def KP (K:a6) (aQ dH:TE) (f:Str):cV:=fun D σ H=>dH σ H fun y H1=>aQ σ H1 fun x ay=>eC x fun a=>∃ C aj aN,ay a=some (.ins C aj aN)/\gB K C/\cB K C f/\aN.length < 1000 /\
 D.b5 σ (upd ay a (.ins C aj (c_ f y aN)))
noncomputable def NU (X:aL) (op:Operator) (rd:V->V->ag->bG->Prop):Prop:=
 ∀ (aa:List (Addr × Obj)) (s:Shared) (σ:St) (H:ag) (x y:V) (u v:Value) (Q:bG),Inv X aa σ H s->bO x u->bO y v->rd x y H Q->wpAny (model X.prog X.w) X.A (inplaceOp op u v) (fT X aa σ Q) X.c0 s
noncomputable def P9 (K:a6) (aQ dH:TE) (rd:V->V->ag->bG->Prop) (f:Str):cV:=fun D σ H=>aQ σ H fun x H1=>∃ a C aj aN v,x=.ref a/\H1 a=some (.ins C aj aN)/\gB K C/\cB K C f/\aN.lookup f=some v /\
 dH σ H1 fun y ay=>rd v y ay fun z bA=>∃ fs mM,bA a=some (.ins C fs mM)/\mM.length < 1000/\D.b5 σ (upd bA a (.ins C fs (c_ f z mM)))
section
variable {X:aL} {o e value:Expr} {f:Str} {pos pos' uV:Pos} {aQ dH:TE}
theorem Gc (he:br X e aQ) (ab:attributeBase e f X.env (eval e X.env)=eval e X.env):br X (.Attribute e f pos) (E7 X.K aQ f):=by
 intro aa s σ H Q J h;refine ac_ ab (bt (he aa s σ H _ J h) fun u s1 bZ=>d4 bZ fun x H1 aO bc gr=>?_);obtain ⟨a,ex,v,⟨C,aj,aN,c9,c,n,l⟩,q⟩:=eC.out gr;subst ex;obtain rfl:u=dk a:=bc;exact Lo aO c9 c n l fun mf s2 bD eH=>⟨v,H1,bD,eH,q⟩
theorem h1 (aJ:br X o aQ) (aM:br X value dH) (aw:swapsWith value (some (.Attribute o f pos')) pos.line X.env=pure false):gc X (.Assign [.Attribute o f pos'] value pos) (KP X.K aQ dH f):=by
 intro aa s σ H D J h;refine plainObj_wpAny_Assign_Attribute (bt (aM aa s σ H _ J h) fun u s1 bZ=>d4 bZ fun y H1 aO bp q=>bt (aJ aa s1 σ H1 _ aO q) fun dA s2 bZ=>d4 bZ fun x ay bD bc gr=>?_) aw;obtain ⟨a,ex,C,aj,aN,c9,c,n,l,b4⟩:=eC.out gr;subst ex;obtain rfl:dA=dk a:=bc;exact IP bD c9 c n l bp fun s3 eb=>⟨σ,_,eb,b4⟩
theorem NZ {op:Operator} {rd:V->V->ag->bG->Prop} (aJ:br X o aQ) (aM:br X value dH) (aaF:NU X op rd):gc X (.AugAssign (.Attribute o f uV) op value pos) (P9 X.K aQ dH rd f):=by
 intro aa s σ H D J h;refine wpAny_AugAssign_AttributeAny (bt (aJ aa s σ H _ J h) fun dA s1 b_=>?_);obtain ⟨x,H1,aO,bc,a,C,aj,aN,v,ex,c9,c,n,l,q⟩:=b_;subst ex;obtain rfl:dA=dk a:=bc;refine Lo aO c9 c n l fun u s2 bD eH=>bt (aM aa s2 σ H1 _ bD q) fun hY s3 bZ=>d4 bZ fun y ay eb bp d9=>bt (aaF aa s3 σ ay v y u hY _ eb eH bp d9) fun Bw s4 b_=>?_
 obtain ⟨z,bA,iM,ad6,fs,mM,ED,SE,kp⟩:=b_;exact IP iM ED c n SE ad6 fun s5 tX=>⟨σ,_,tX,kp⟩
noncomputable def Hx:V->V->ag->bG->Prop:=fun x y H Q=>∃ i j,x=.int i/\y=.int j/\Q (.int (i + j)) H
theorem NW:NU X .Add Hx:=by
 rintro aa s σ H x y u v Q J bc bp ⟨i,j,rfl,rfl,q⟩;obtain ⟨t,rfl⟩:=(show ∃ t,u=lq i t from bc);obtain ⟨t',rfl⟩:=(show ∃ t',v=lq j t' from bp);exact ahw ⟨.int (i + j),H,J.tok _,⟨_,rfl⟩,q⟩
end
section
variable {X:aL} {aa:List (Addr × Obj)} {σ:St} {H:ag} {s:Shared} {A:Around} {E:Value->Shared->Prop} {Q:Value->Shared->Prop} {c:Value} {b:Bool}
inductive lR (K:a6) (H:ag):V->Value->Prop where
 | bH:lR K H .bH (.type "NoneType")
 | bq (x:Bool):lR K H (.bq x) (.type "bool")
 | int (i:Int):lR K H (.int i) (.type "int")
 | str (x:Str):lR K H (.str x) (.type "str")
 | sa (x:UInt64):lR K H (.sa x) (.type "float")
 | lst {a:Addr} {xs:List V} (e:H a=some (.lst xs)):lR K H (.ref a) (.type "list")
 | i3 {a:Addr} {o:Obj} {xs:List V} (e:H a=some (.i3 o (.lst xs))):lR K H (.ref a) (.type "list")
 | tup {a:Addr} {xs:List V} (e:H a=some (.tup xs)):lR K H (.ref a) (.type "tuple")
 | cE {a:Addr} {aT:List (Key × V)} (e:H a=some (.cE aT)):lR K H (.ref a) (.type "dict")
 | jL {a:Addr} {aT:List (List Key × V)} (e:H a=some (.jL aT)):lR K H (.ref a) (.type "dict")
 | ins {a C aj:Addr} {aN:List (Str × V)} (e:H a=some (.ins C aj aN)) (cl:gB K C) (aJ:dg K (.ref C) "__class__"=some (some (.builtin "object.__class__")))
   (aF:sS K (.builtin "object.__class__") "__get__"=some (some (.builtin "getset_descriptor.__get__"))) (oX:CR K (.builtin "object.__class__")=some true)
   (hm:wD K C (.type "object")=some true):lR K H (.ref a) (.ref C)
end
structure es (k:Nat) (A:Around):Prop where
 hd:A.handled=none
 iY:A.depth + 3 * k + 5 < recursionLimit
 un:A.units + 16 * k + 200 < cLine
theorem es.mono {j k:Nat} {A:Around} (r:es k A) (h:j <= k):es j A:=⟨r.hd,by have:=r.iY;omega,by have:=r.un;omega⟩
theorem es.deeper {k:Nat} {A:Around} (r:es (k + 1) A) (env:Env):es k (A.deeper env):=
 ⟨r.hd,by have:=r.iY;show A.depth + 1 + 3 * k + 5 < _;omega,by have:=r.un;show A.units + 3 + 16 * k + 200 < _;omega⟩
theorem abW {A:Around} {C:Addr} {us:List Value} {kw:List (Str × Value)}:(A.under (.builtin "type.__call__" ⟨.ref C :: us,kw⟩)).depth=A.depth + 1:=by
 first | rfl | simp [Ob,Code.weight,Code.isCreation,Code.isGuard,Code.isCaller,adY,NJ,guardIds]
theorem T7 {A:Around} {C:Addr} {us:List Value} {kw:List (Str × Value)}:(A.under (.builtin "type.__call__" ⟨.ref C :: us,kw⟩)).units=A.units + 1:=by
 first | rfl | simp [Ob,Code.cUnits,adY,NJ]
theorem es.make {k:Nat} {A:Around} (r:es (k + 1) A) (C:Addr) (us:List Value) (kw:List (Str × Value)):es k (A.under (.builtin "type.__call__" ⟨.ref C :: us,kw⟩)):=
 ⟨r.hd,by have:=r.iY;rw [abW];omega,by have:=r.un;rw [T7];omega⟩
theorem es.depth {k:Nat} {A:Around} (r:es k A):A.depth < recursionLimit:=by have:=r.iY;omega
theorem es.units {k:Nat} {A:Around} (r:es k A):A.units + 64 < cLine:=by have:=r.un;omega
noncomputable def vo:dx:=fun _ H Q=>Q [] H
noncomputable def xL (aQ:TE) (hU:dx):dx:=fun σ H Q=>aQ σ H fun x H1=>hU σ H1 fun xs ay=>Q (x :: xs) ay
section
variable {X:aL} {e:Expr} {a4:List Expr} {bf:TE} {t:dx} {pos:Pos}
theorem aB:dr X [] vo:=fun _ _ _ _ H Q J h=>adD ⟨[],H,J,.nil,h⟩
theorem af (aJ:br X e bf) (au:dr X a4 t) (aw:starEach (e :: a4) X.env=(false,eval e X.env) :: starEach a4 X.env:=by rfl):dr X (e :: a4) (xL bf t):=by
 intro pos aa s σ H Q J h;rw [aw];show wpAny _ _ (spliced ((false,eval e X.env) :: backTo pos (starEach a4 X.env))) _ _ s;refine T' (bt (aJ aa s σ H _ J h) fun u s1 bZ=>d4 bZ fun x H1 aO bK bw=>?_);exact bt (au pos aa s1 σ H1 _ aO bw) fun us s2 ⟨xs,ay,bD,cL,b4⟩=>⟨x :: xs,ay,bD,.cons bK cL,b4⟩
noncomputable def C4 (t:dx):TE:=fun σ H Q=>t σ H fun xs H1=>xs.length <= sizeLine/\∀ p,H1 p=none->Q (.ref p) (upd H1 p (.tup xs))
noncomputable def FF (t:dx):TE:=fun σ H Q=>t σ H fun xs H1=>xs.length <= sizeLine/\∀ p,H1 p=none->Q (.ref p) (upd H1 p (.lst xs))
theorem jy {eB} (h:dr X a4 t):br X (.Tuple a4 eB pos) (C4 t):=by
 intro aa s σ H Q J aH;refine wpAny_Tuple_spliced (bt (h pos aa s σ H _ J aH) fun us s1 ⟨xs,H1,aO,r,z,q⟩=>⟨by rw [<- r.length];exact z,?_⟩);have hf:H1 s1.heap.objs.size=none:=aO.bl.fresh (b2 _);refine ⟨.ref s1.heap.objs.size,upd H1 s1.heap.objs.size (.tup xs),aO.laid (t':=s1.toks) (fun b u e=>dY _ e) (b2 _) ?_,rfl,q _ hf⟩;exact ⟨⟨z,_,gz _ rfl,rfl⟩,us,r,⟨_,gz _ rfl,rfl,_,rfl⟩⟩
theorem fH (h:dr X a4 t):br X (.List a4 pos) (FF t):=by
 intro aa s σ H Q J aH;refine wpAny_List_spliced (bt (h pos aa s σ H _ J aH) fun us s1 ⟨xs,H1,aO,r,z,q⟩=>⟨by rw [<- r.length];exact z,?_⟩);have hf:H1 s1.heap.objs.size=none:=aO.bl.fresh (b2 _);refine ⟨.ref s1.heap.objs.size,upd H1 s1.heap.objs.size (.lst xs),aO.laid (t':=s1.toks) (fun b u e=>dY _ e) (b2 _) ?_,rfl,q _ hf⟩;exact ⟨z,us,0,r,gz _ rfl⟩
end
noncomputable abbrev bo:=List V->ag->bG->cD->Prop
noncomputable abbrev fR:=List Env->ag->Shared->cD->Value->Shared->Prop
structure ny (P:Program) (w:World) (K:a6) (ao:Str->Option Value) (base:Heap) (A:Around) (outer:List Env) (s:Shared) (H:ag):Prop where
 frames:A.frames=some outer
 mod:Mod K ao base
 bs:∀ b o,base.get? b=some o->s.heap.get? b=some o/\H b=none
 kb:base.objs.size <= s.heap.objs.size
 i2:s.heap.FunFrames base outer
 mb:∀ b ∈ gR outer,H b=none
 bl:eI P w H s.heap
 bare:AllBare s.gens
noncomputable def Fl (outer:List Env) (P:Program) (w:World) (H:ag) (s:Shared) (Q:bG) (u:Value) (s':Shared):Prop:=
 ∃ v I,s'.os=s.os/\AllBare s'.gens/\f9 (gR outer) [] H I s.heap s'.heap/\eI P w I s'.heap/\bO v u/\Q v I
noncomputable def Dv (CX:fR) (outer:List Env) (P:Program) (w:World) (H:ag) (s:Shared) (Q:bG) (E:cD) (r:Result) (s':Shared):Prop:=
 match r with
 | .ok (.ret u)=>Fl outer P w H s Q u s'
 | .ok _=>False
 | .error e=>CX outer H s E e s'
structure bg (P:Program) (w:World) (K:a6) (ao:Str->Option Value) (base:Heap) (CX:fR) (k:Nat) (f:Addr) (fd:FuncData) (ps:List Str) (sp:bo):Prop where
 len:∀ vs H Q E,sp vs H Q E->vs.length=ps.length
 run:∀ (A:Around) (outer:List Env) (s:Shared) (H:ag) (args:Args) (us:List Value) (vs:List V) (Q:bG) (E:cD),es k A->ny P w K ao base A outer s H->BindsTo s fd args (ps.zip us)->re vs us->sp vs H Q E ->
  codeAny (model P w) A (.call (.ref f) args) (Dv CX outer P w H s Q E) s
theorem bg.mono {P:Program} {w:World} {K:a6} {ao:Str->Option Value} {base:Heap} {CX:fR} {j k:Nat} {f:Addr} {fd:FuncData} {ps:List Str} {sp:bo} (F:bg P w K ao base CX j f fd ps sp) (h:j <= k) :
  bg P w K ao base CX k f fd ps sp:=⟨F.len,fun A outer s H args us vs Q E au=>F.run A outer s H args us vs Q E (au.mono h)⟩
theorem ny.make {P:Program} {w:World} {K:a6} {ao:Str->Option Value} {base:Heap} {A:Around} {outer:List Env} {s:Shared} {H:ag} (e:ny P w K ao base A outer s H) (C:Addr) (us:List Value) (kw:List (Str × Value)) :
  ny P w K ao base (A.under (.builtin "type.__call__" ⟨.ref C :: us,kw⟩)) outer s H:=⟨by first | exact e.frames | (simpa [Ob,Code.envs,NJ,pushEnvs] using e.frames),e.mod,e.bs,e.kb,e.i2,e.mb,e.bl,e.bare⟩
section
variable {X:aL} {aa:List (Addr × Obj)} {σ:St} {H:ag} {s s':Shared}
theorem Inv.xZ (J:Inv X aa σ H s):ny X.prog X.w X.K X.ao X.base X.A X.stack s H:=
 ⟨J.ok.frames,J.ok.mod,J.bs,c1 J.ok.kb J.oT,J.stack,J.yF,J.bl,J.bare⟩
theorem Inv.after {Q:bG} {u:Value} (J:Inv X aa σ H s) (h:Fl X.stack X.prog X.w H s Q u s'):fT X aa σ Q u s':=by
 obtain ⟨v,I,os,bare,un,bl,r,q⟩:=h;obtain ⟨cN,g,d,t,Ae⟩:=s';obtain rfl:Ae=s.os:=os;exact ⟨v,I,J.call (h':=cN) (g':=g) (d':=d) (t':=t) (ch:=[]) un bl bare (fun b z=>absurd z (by simp)),r,q⟩
end
noncomputable def vU (sp:bo) (dvs:List V) (E:cD) (t:dx):TE:=fun σ H Q=>t σ H fun vs H1=>sp (vs ++ dvs) H1 Q E
noncomputable def G2 (C:Addr) (m:Str) (sp:bo) (dvs:List V) (E:cD) (aQ:TE) (t:dx):TE:=fun σ H Q=>aQ σ H fun x H1=>eC x fun a=>∃ aj aN,H1 a=some (.ins C aj aN)/\aN.lookup m=none /\
 t σ H1 fun vs ay=>sp (x :: (vs ++ dvs)) ay Q E
noncomputable def I3 (C:Addr) (sp:bo) (dvs:List V) (E:cD) (t:dx):TE:=fun σ H Q=>t σ H fun vs H1=>∀ x aj,H1 x=none->H1 aj=none->aj ≠ x ->
 sp (.ref x :: (vs ++ dvs)) (upd (upd H1 aj (.own x)) x (.ins C aj [])) (fun v ay=>v=.bH/\Q (.ref x) ay) E
noncomputable def bL (K:a6) (fd:FuncData) (ps:List Str) (ds:List Value):Prop:=
 ∀ (s:Shared) (us:List Value),K.In s.heap->(us ++ ds).length=ps.length->BindsTo s fd ⟨us,[]⟩ (ps.zip (us ++ ds))
theorem bL.all {K:a6} {fd:FuncData} {ps:List Str} (h:∀ us:List Value,us.length=ps.length->bindArgs fd ⟨us,[]⟩=pure (ps.zip us)):bL K fd ps []:=fun s us _ aA=>by
 rw [oa] at aA ⊢;exact .of_eq (h us aA)
noncomputable def m3 (CX:fR) (X:aL) (E:cD):Prop:=∀ (aa:List (Addr × Obj)) (σ:St) (H:ag) (s:Shared) (e:Value) (s':Shared),Inv X aa σ H s->CX X.stack H s E e s'->X.c0 e s'
section
variable {X:aL} {CX:fR} {k:Nat} {f C:Addr} {fd:FuncData} {ps:List Str} {sp:bo} {dvs:List V} {ds:List Value} {E:cD} {x m:Str} {p pos e9:Pos} {e o:Expr} {a4:List Expr} {aQ:TE} {t:dx}
theorem uG {aa:List (Addr × Obj)} {σ:St} {H:ag} {s:Shared} {Q:bG} {us:List Value} {vs:List V} (F:bg X.prog X.w X.K X.ao X.base CX k f fd ps sp) (au:es k X.A) (ab:bL X.K fd ps ds) (hd:re dvs ds) (av:m3 CX X E)
  (J:Inv X aa σ H s) (r:re vs us) (h:sp (vs ++ dvs) H Q E):wpAny (model X.prog X.w) X.A (call (.ref f) us) (fT X aa σ Q) X.c0 s:=by
 have cL:re (vs ++ dvs) (us ++ ds):=r.append hd;have aA:(us ++ ds).length=ps.length:=by rw [<- cL.length];exact F.len _ _ _ _ h
 refine wpAny_call (codeAny_mono (F.run X.A X.stack s H ⟨us,[]⟩ (us ++ ds) (vs ++ dvs) Q E au J.xZ (ab s us J.ey aA) cL h) fun r s' aH=>?_);cases r with
 | error e=>exact av aa σ H s e s' J aH
 | ok dM=>
  cases dM with
  | ret u=>exact J.after aH
  | next=>exact jg aH
  | brk=>exact jg aH
  | cont=>exact jg aH
theorem pq (F:bg X.prog X.w X.K X.ao X.base CX k f fd ps sp) (au:es k X.A) (a3:g5 X x) (hm:X.ao x=some (.ref f)) (aE:oh X.K (.ref f)=true) (ab:bL X.K fd ps ds) (hd:re dvs ds) (av:m3 CX X E)
  (aJ:dr X (e :: a4) t) (g_:(x == ("__debug__" : Str))=false:=by decide) (he:starEach (e :: a4) X.env=(false,eval e X.env) :: starEach a4 X.env:=by rfl) (dn:(backTo pos (starEach a4 X.env)).any (·.1)=false:=by rfl) :
  br X (.Call (.Name x p) (e :: a4) [] pos) (vU sp dvs E t):=by
 intro aa s σ H Q J h;refine wpAny_Call_Name_kw (pE J a3 hm ?_ g_);refine uw (h₀:=X.base) J.ok.mod.oE aE (bt (aJ pos aa s σ H _ J h) fun us s1 ⟨vs,H1,aO,r,q⟩=>⟨aO.ey,?_⟩) he dn;exact uG F au ab hd av aO r q
theorem e5 {pl:Sem Bool} (he:br X o aQ) (c:gB X.K C) (hm:hh X.K C m f) (F:bg X.prog X.w X.K X.ao X.base CX k f fd ps sp) (au:es k X.A) (ab:bL X.K fd ps ds) (hd:re dvs ds) (av:m3 CX X E) (aJ:dr X (e :: a4) t)
  (gd:starEach (e :: a4) X.env=(false,eval e X.env) :: starEach a4 X.env:=by rfl) (dn:(backTo pos (starEach a4 X.env)).any (·.1)=false:=by rfl)
  (ct:eval (.Call (.Attribute o m e9) (e :: a4) [] pos) X.env=(do
   let dA <- eval o X.env
   standAt e9.atName
   let (f,first) <- holding [dA] (getMethod dA m pl)
   callWith pos f first (backTo pos (starEach (e :: a4) X.env)) (backToKw pos (keywordEach [] X.env))):=by rfl) :
  br X (.Call (.Attribute o m e9) (e :: a4) [] pos) (G2 C m sp dvs E aQ t):=by
 intro aa s σ H Q J h;refine ze (pl:=pl) (bt (he aa s σ H _ J h) fun u s1 bZ=>d4 bZ fun x H1 aO bc gr=>?_) ct;obtain ⟨a,ex,aj,aN,c9,l,q⟩:=eC.out gr;subst ex;obtain rfl:u=dk a:=bc;refine wp aO c9 c hm l ?_;refine uw (first:=[.ref a]) (h₀:=X.base) J.ok.mod.oE hm.bF (bt (aJ pos aa s1 σ H1 _ aO q) fun us s2 ⟨vs,ay,bD,r,b4⟩=>⟨bD.ey,?_⟩) gd dn;exact uG (us:=.ref a :: us) (vs:=.ref a :: vs) F au ab hd av bD (.cons rfl r) b4
theorem gS {pl:Sem Bool} (he:br X o aQ) (c:gB X.K C) (hm:hh X.K C m f) (F:bg X.prog X.w X.K X.ao X.base CX k f fd ps sp) (au:es k X.A) (ab:bL X.K fd ps ds) (hd:re dvs ds) (av:m3 CX X E)
  (ct:eval (.Call (.Attribute o m e9) [] [] pos) X.env=(do
   let dA <- eval o X.env
   standAt e9.atName
   let (f,first) <- holding [dA] (getMethod dA m pl)
   callWith pos f first (backTo pos (starEach [] X.env)) (backToKw pos (keywordEach [] X.env))):=by rfl) :
  br X (.Call (.Attribute o m e9) [] [] pos) (G2 C m sp dvs E aQ vo):=by
 intro aa s σ H Q J h;refine ze (pl:=pl) (bt (he aa s σ H _ J h) fun u s1 bZ=>d4 bZ fun x H1 aO bc gr=>?_) ct;obtain ⟨a,ex,aj,aN,c9,l,q⟩:=eC.out gr;subst ex;obtain rfl:u=dk a:=bc;refine wp aO c9 c hm l ?_;exact Y' (first:=[.ref a]) aO.ey hm.bF (uG (us:=[.ref a]) (vs:=[.ref a]) F au ab hd av aO (.cons rfl .nil) q)
structure px (K:a6) (C f:Addr):Prop where
 makes:afd K C=true
 init:dg K (.ref C) "__init__"=some (some (.ref f))
 fn:H3 K (.ref f)=true
 bF:oh K (.ref C)=true
theorem acS {aa:List (Addr × Obj)} {σ:St} {H:ag} {s:Shared} {Q:bG} {us:List Value} {vs:List V} (M:px X.K C f) (F:bg X.prog X.w X.K X.ao X.base CX k f fd ps sp) (au:es (k + 1) X.A) (ab:bL X.K fd ps ds) (hd:re dvs ds)
  (av:m3 CX X E) (J:Inv X aa σ H s) (r:re vs us)
  (h:∀ x aj,H x=none->H aj=none->aj ≠ x->sp (.ref x :: (vs ++ dvs)) (upd (upd H aj (.own x)) x (.ins C aj [])) (fun v ay=>v=.bH/\Q (.ref x) ay) E) :
  wpAny (model X.prog X.w) X.A (call (.ref C) us) (fT X aa σ Q) X.c0 s:=by
 have aH:=h (s.heap.objs.size + 1) s.heap.objs.size (J.bl.fresh (sG _)) (J.bl.fresh (b2 _)) (ft (K4 _));have bD:=Inv.made (C:=C) J;have cL:re (V.ref (s.heap.objs.size + 1) :: (vs ++ dvs)) (dk (s.heap.objs.size + 1) :: (us ++ ds)):=.cons rfl (r.append hd);have aA:(dk (s.heap.objs.size + 1) :: us ++ ds).length=ps.length:=by
  have e:=cL.length;rw [F.len _ _ _ _ aH] at e;exact e.symm
 refine wpAny_call (V5 (f:=f) J.ey M.makes M.init (beq_iff_eq.mp M.fn) (codeAny_mono (F.run _ X.stack _ _ ⟨dk (s.heap.objs.size + 1) :: us,[]⟩ (dk (s.heap.objs.size + 1) :: (us ++ ds)) _ _ E (au.make C us [])
  (bD.xZ.make C us []) (ab _ (dk (s.heap.objs.size + 1) :: us) bD.ey aA) cL aH) fun r s' o4=>?_))
 cases r with
 | error e=>exact av aa σ _ _ e s' bD o4
 | ok dM=>
  cases dM with
  | ret u=>
   obtain ⟨v,I,eb,cf,ev,d9⟩:=bD.after o4;subst ev;exact ⟨cf,⟨V.ref (s.heap.objs.size + 1),I,eb,rfl,d9⟩⟩
  | next=>exact jg o4
  | brk=>exact jg o4
  | cont=>exact jg o4
theorem sd (M:px X.K C f) (F:bg X.prog X.w X.K X.ao X.base CX k f fd ps sp) (au:es (k + 1) X.A) (a3:g5 X x) (hm:X.ao x=some (.ref C)) (ab:bL X.K fd ps ds) (hd:re dvs ds) (av:m3 CX X E)
  (aJ:dr X (e :: a4) t) (g_:(x == ("__debug__" : Str))=false:=by decide) (he:starEach (e :: a4) X.env=(false,eval e X.env) :: starEach a4 X.env:=by rfl) (dn:(backTo pos (starEach a4 X.env)).any (·.1)=false:=by rfl) :
  br X (.Call (.Name x p) (e :: a4) [] pos) (I3 C sp dvs E t):=by
 intro aa s σ H Q J h;refine wpAny_Call_Name_kw (pE J a3 hm ?_ g_);refine uw (h₀:=X.base) J.ok.mod.oE M.bF (bt (aJ pos aa s σ H _ J h) fun us s1 ⟨vs,H1,aO,r,q⟩=>⟨aO.ey,?_⟩) he dn;exact acS M F au ab hd av aO r q
end
section
variable {X:aL} {CX:fR} {k:Nat} {f C:Addr} {fd:FuncData} {ps b3:List Str} {sp:bo} {E:cD} {x m:Str} {p pos e9 aiX:Pos} {e o:Expr} {a4:List Expr} {ahV:List Keyword} {bf aQ:TE} {t cG:dx} {nm:Option Str}
structure aiw (K:a6) (fd:FuncData) (ps b3:List Str) (g:List Value->List Value->List Value) (Rv:List V->List V->List V):Prop where
 to:∀ (s:Shared) (us ws:List Value),K.In s.heap->(g us ws).length=ps.length->BindsTo s fd ⟨us,b3.zip ws⟩ (ps.zip (g us ws))
 rel:∀ {vs:List V} {us:List Value} {zs:List V} {ws:List Value},re vs us->re zs ws->re (Rv vs zs) (g us ws)
variable {g:List Value->List Value->List Value} {Rv:List V->List V->List V}
end
structure b0 (N P:List Str) (sc:Scope):Prop where
 kind:sc.kind=.function
 co:sc.isCoroutine=false
 gen:sc.isGenerator=false
 aC:N.Nodup
 pre:N.take P.length=P
 par:∀ x ∈ P,sc.names.lookup x=some .local\/sc.names.lookup x=some .cell
 ac0:∀ y ∈ sc.names,y.2 ≠ .free
theorem Jf {kindOf:Str->Option NameKind} {x:Str}:∀ {binds:List (Str × Value)} {m:Str->Option Value},(∀ v,(x,v) ∉ binds)->bindL kindOf binds m x=m x
 | [],_,_=>rfl
 | (n,v) :: r,m,h=>by
  unfold bindL;rw [Jf fun w hw=>h w (fw _ hw)];split
  .have:x ≠ n:=by rintro rfl;exact h v ma
   simp [this]
  .rfl
theorem JO {kindOf:Str->Option NameKind} {x:Str}:∀ {binds:List (Str × Value)} {m:Str->Option Value},(∀ v,(x,v) ∉ binds)->bindC kindOf binds m x=m x
 | [],_,_=>rfl
 | (n,v) :: r,m,h=>by
  unfold bindC;rw [JO fun w hw=>h w (fw _ hw)];split
  .rfl
  .have:x ≠ n:=by rintro rfl;exact h v ma
   simp [this]
theorem I8 {kindOf:Str->Option NameKind} {x:Str} {v:Value}:∀ {P:List Str} {vs:List Value} {i:Nat} {m:Str->Option Value},P.Nodup->P[i]? = some x->vs[i]? = some v->kindOf x=some .local ->
  bindL kindOf (P.zip vs) m x=some v
 | [],_,_,_,_,h,_,_=>by simp at h
 | _ :: _,[],_,_,_,_,h,_=>by simp at h
 | p :: P,w :: vs,0,m,aC,ae,ak,aE=>by
  simp at ae ak;subst ae;subst ak;show bindL kindOf ((p,w) :: P.zip vs) m p=_;unfold bindL;rw [Jf fun v aM=>(wN.mp aC).1 (Jy aM).1,if_pos aE];simp
 | p :: P,w :: vs,i + 1,m,aC,ae,ak,aE=>by
  show bindL kindOf ((p,w) :: P.zip vs) m x=_;unfold bindL;exact I8 (i:=i) (wN.mp aC).2 (by simpa using ae) (by simpa using ak) aE
theorem IV {kindOf:Str->Option NameKind} {x:Str} {v:Value}:∀ {P:List Str} {vs:List Value} {i:Nat} {m:Str->Option Value},P.Nodup->P[i]? = some x->vs[i]? = some v->kindOf x ≠ some .local ->
  bindC kindOf (P.zip vs) m x=some v
 | [],_,_,_,_,h,_,_=>by simp at h
 | _ :: _,[],_,_,_,_,h,_=>by simp at h
 | p :: P,w :: vs,0,m,aC,ae,ak,aE=>by
  simp at ae ak;subst ae;subst ak;show bindC kindOf ((p,w) :: P.zip vs) m p=_;unfold bindC;rw [JO fun v aM=>(wN.mp aC).1 (Jy aM).1,if_neg aE];simp
 | p :: P,w :: vs,i + 1,m,aC,ae,ak,aE=>by
  show bindC kindOf ((p,w) :: P.zip vs) m x=_;unfold bindC;exact IV (i:=i) (wN.mp aC).2 (by simpa using ae) (by simpa using ak) aE
noncomputable def start (N:List Str) (vs:List V):St:=vs.map some ++ v9 (N.length - vs.length) none
noncomputable def lS (CX:fR) (P:Program) (w:World) (K:a6) (ao:Str->Option Value) (base:Heap) (N:List Str) (qual:Str) (scope:Scope) (f:Addr) (cd:Value) (A:Around) (outer:List Env) (s:Shared) (H:ag) (E:cD):aL where
 prog:=P
 w:=w
 K:=K
 ao:=ao
 base:=base
 A:=A.deeper (envOfC qual scope s.heap.objs.size f cd)
 N:=N
 eX:=s
 rT:=H
 env:=envOfC qual scope s.heap.objs.size f cd
 outer:=outer
 stack:=envOfC qual scope s.heap.objs.size f cd :: outer
 ex:=[]
 calm:=true
 fn:=fun _=>true
 ek:=[]
 c0:=fun e s'=>wpAny (model P w) (A.deeper (envOfC qual scope s.heap.objs.size f cd)) (leaving (envOfC qual scope s.heap.objs.size f cd) e) (fun _ qJ=>CX outer H s E e qJ) (fun bB qJ=>CX outer H s E bB qJ) s'
theorem Kx {sc:Scope} {n:Nat} {x:Str} (h:sc.names.lookup x=some .cell):∃ c,(cellsFrom n sc.names []).lookup x=some c:=by
 have q:=VU sc.names n [] (.inl h);exact Option.isSome_iff_exists.mp q
theorem abk {CX:fR} {P:Program} {w:World} {K:a6} {ao:Str->Option Value} {base:Heap} {N ps:List Str} {qual:Str} {scope:Scope} {f:Addr} {cd:Value} {A:Around} {outer:List Env} {s s1:Shared} {H:ag} {E:cD} {us:List Value} {vs:List V}
  (S:b0 N ps scope) (hd:A.handled=none) (eZ:ny P w K ao base A outer s H) (aA:vs.length=ps.length) (r:re vs us)
  (x:InCallC s s.heap.objs.size (bindL (envOfC qual scope s.heap.objs.size f cd).kindOf (ps.zip us) fun _=>none) (cellsFrom (s.heap.objs.size + 1) scope.names []) (bindC (envOfC qual scope s.heap.objs.size f cd).kindOf (ps.zip us) fun _=>none) s1) :
  Inv (lS CX P w K ao base N qual scope f cd A outer s H E) [] (start N vs) H s1:=by
 have dn:ps.length <= N.length:=by have:=congrArg md S.pre;rw [gV] at this;omega
 obtain ⟨ae,cG,rfl,aE⟩:=x.done;have wm:∀ b:Addr,b ∉ (lS CX P w K ao base N qual scope f cd A outer s H E).ex:=fun b z=>absurd (show b ∈ ([]:List Addr) from z) (by simp)
 refine ⟨⟨eZ.mod,S.kind,rfl,rfl,b2 _,fun y z c ae ak=>?_,fun y bI=>?_,fun y c _ h=>?_,fun _=>hd,Around.frames_deeper eZ.frames,.inr ⟨rfl,rfl⟩,fun b z=>absurd z (wm b),eZ.bs,eZ.kb,fun b _ _=>wm b,fun b z=>absurd z (wm b),eZ.i2,eZ.mb⟩,
  rfl,eZ.bare,f9.kept aE,⟨_,x.toInCall.ns,fun i y v ae ak a_=>?_⟩,fun y c h=>⟨_,x.cell y c h⟩,eZ.bl.fresh (b2 _),fun y c h=>?_,fun p aq=>absurd (show p ∈ ([]:List (Addr × Obj)) from aq) (by simp),eZ.bl.kept aE,?_⟩
 .exact name_of_addr x.apart (zg ae) (zg ak)
 .have bI:scope.names.lookup y=some .cell\/scope.names.lookup y=some .free:=bI;rcases bI with bI | bI
  .exact Kx bI
  .exact absurd rfl (S.ac0 _ (zg bI))
 .exact pM (x.above y c (zg h))
 .have ai:i < vs.length:=by
   unfold start at ak;by_cases ai:i < vs.length
   .exact ai
   .rw [xo (by simpa using ai)] at ak;rw [DS] at ak;split at ak <;> cases ak
  have aJ:vs[i]? = some v:=by
   unfold start at ak;rw [v7 (by simpa using ai),eA] at ak;cases e:vs[i]? with
   | none=>rw [e] at ak;cases ak
   | some a=>rw [e] at ak;cases ak;rfl
  obtain ⟨u,bQ,cf⟩:=r.get aJ;have aq:ps[i]? = some y:=by
   rw [<- S.pre,yB (by omega)];exact ae
  have OX:ps.Nodup:=by rw [<- S.pre];exact S.aC.sublist (List.take_sublist _ _)
  refine ⟨u,cf,?_⟩;rcases S.par y (c2 aq) with k | k
  .exact .inl ⟨k,I8 OX aq bQ k⟩
  .obtain ⟨c,e⟩:=Kx (n:=s.heap.objs.size + 1) k;refine .inr ⟨.inl k,c,e,?_⟩;have q:=x.cell y c e;rw [IV OX aq bQ (by show scope.names.lookup y ≠ _;rw [k];decide)] at q;exact q
 .exact eZ.bl.fresh (pM (x.above y c (zg h)))
 .unfold start;show _=N.length;rw [dP,a',uY];omega
theorem N8 {CX:fR} {P:Program} {w:World} {K:a6} {ao:Str->Option Value} {base:Heap} {k:Nat} {f:Addr} {name qual:Str} {params:Arguments} {body:List Stmt} {scope:Scope} {y9 eo doc pm e6 eP lb:Value} {an od:Option Addr}
  {nA:Array (Option Value)} {N ps:List Str} {sp:bo} (lk:K.lookup f=some ⟨lb,od,.func (uu name qual params body scope y9 eo doc pm an e6 eP),nA⟩) (kB:NF K e6 qual=true) (S:b0 N ps scope)
  (len:∀ vs H Q E,sp vs H Q E->vs.length=ps.length)
  (vG:∀ (A:Around) (outer:List Env) (s:Shared) (H:ag) (vs:List V) (Q:bG) (E:cD),es k (A.deeper (envOfC qual scope s.heap.objs.size f e6))->sp vs H Q E ->
   ∃ t,gL (lS CX P w K ao base N qual scope f e6 A outer s H E) body t/\t { b5:=fun _ I=>Q .bH I,kZ:=Q } (start N vs) H) :
  bg P w K ao base CX (k + 1) f (uu name qual params body scope y9 eo doc pm an e6 eP) ps sp:=by
 refine ⟨len,fun A outer s H args us vs Q E au eZ ab r k'=>?_⟩;have aA:=len _ _ _ _ k';have eR:K.In s.heap:=eZ.mod.oE.keeps fun b o e=>(eZ.bs b o e).1
 have lim:s.heap.NoLimit:=eZ.mod.nolimit.keeps fun b o e=>(eZ.bs b o e).1
 have afl:∀ y ∈ ps.zip us,scope.names.lookup y.1=some .local\/(scope.names.lookup y.1=some .cell/\((cellsFrom (s.heap.objs.size + 1) scope.names []).lookup y.1).isSome=true):=fun ⟨n,v⟩ bI=>by
  rcases S.par n (Jy bI).1 with q | q
  .exact .inl q
  .exact .inr ⟨q,VU _ _ _ (.inl q)⟩
 refine codeAny_call_function au.depth (eR _ _ lk) rfl S.co S.gen rfl (PySem.W.codeRec_of eR kB) (ab _ _ _ _ ?_);refine wpAny_newFunctionEnv_cells S.kind afl fun env he s1 x=>?_
 subst he;refine ⟨lim.keeps x.toInCall.keep,codeAny_func ?_⟩;obtain ⟨t,ct,aH⟩:=vG A outer s H vs Q E (au.deeper _) k';have J:Inv (lS CX P w K ao base N qual scope f e6 A outer s H E) [] (start N vs) H s1:=abk S au.hd eZ aA r x;refine wpAny_mono (ct [] s1 (start N vs) H _ J aH) (fun dM s' aw=>?_) fun e s' aw=>aw
 have fin:∀ {aS:St} {I:ag} {v:V} {u:Value},Inv (lS CX P w K ao base N qual scope f e6 A outer s H E) [] aS I s'->bO v u->Q v I->Fl outer P w H s Q u s':=
  fun {aS I v u} bP cf q=>⟨v,I,bP.os,bP.bare,bP.base,bP.bl,cf,q⟩
 cases dM with
 | ret u=>
  obtain ⟨v,aS,I,bP,cf,q⟩:=aw;exact fin bP cf q
 | next=>
  obtain ⟨aS,I,bP,q⟩:=aw;exact fin (v:=V.bH) (u:=jw) bP rfl q
 | brk=>
  obtain ⟨_,_,_,q⟩:=aw;exact jg q
 | cont=>
  obtain ⟨_,_,_,q⟩:=aw;exact jg q
section
variable {X:aL} {x:Str} {p pos:Pos} {e:Expr} {a4:List Expr} {t:dx} {id T:String} {r:List V->ag->bG->Prop}
noncomputable def yZ (r:List V->ag->bG->Prop) (t:dx):TE:=fun σ H Q=>t σ H fun vs H1=>r vs H1 Q
theorem fL (ar:lO X (.builtin id) r) (a3:g5 X x) (hm:X.ao x=none) (aM:bootBuiltins x=some (.builtin id)) (aJ:dr X (e :: a4) t) (aF:x ≠ "__name__" := by decide) (g_:(x == ("__debug__" : Str))=false:=by decide)
  (he:starEach (e :: a4) X.env=(false,eval e X.env) :: starEach a4 X.env:=by rfl) (dn:(backTo pos (starEach a4 X.env)).any (·.1)=false:=by rfl):br X (.Call (.Name x p) (e :: a4) [] pos) (yZ r t):=by
 intro aa s σ H Q J h;refine wpAny_Call_Name_kw (n2 J a3 hm aM ?_ aF g_);exact abP (bt (aJ pos aa s σ H _ J h) fun us s1 ⟨vs,H1,aO,bK,bw⟩=>ar aa s1 σ H1 vs us Q aO bK bw) he dn
theorem rq (ar:lO X (.type T) r) (a3:g5 X x) (hm:X.ao x=none) (aM:bootBuiltins x=some (.type T)) (aJ:dr X (e :: a4) t) (aF:x ≠ "__name__" := by decide) (g_:(x == ("__debug__" : Str))=false:=by decide)
  (he:starEach (e :: a4) X.env=(false,eval e X.env) :: starEach a4 X.env:=by rfl) (dn:(backTo pos (starEach a4 X.env)).any (·.1)=false:=by rfl):br X (.Call (.Name x p) (e :: a4) [] pos) (yZ r t):=by
 intro aa s σ H Q J h;refine wpAny_Call_Name_kw (n2 J a3 hm aM ?_ aF g_);exact rX (bt (aJ pos aa s σ H _ J h) fun us s1 ⟨vs,H1,aO,bK,bw⟩=>ar aa s1 σ H1 vs us Q aO bK bw) he dn
end
end L2
namespace fj
open PySem PyProof.Rows
section
open PySem.SeqAt
open PySem.AutoSeq1 (wpAny_loadPart')
open PySem.MeetsSeq PySem.MeetsSeq2 PySem.MeetsSeq3
end
section
variable {prog:Program} {w:World} {A:Around} {E:Value->Shared->Prop} {s:Shared}
theorem S6 {t b:Addr} {vs ws:List Value} {Q:Value->Shared->Prop} (ct:IsTup s.heap t vs.toArray) (ab:IsTup s.heap b ws.toArray) (aM:vs ≠ [])
  (ae:ws=[]->Q (.ref t) s) (ak:ws ≠ []->Q (.ref s.heap.objs.size) { s with heap:=s.heap.push { cls:=.type "tuple",data:=.seq (vs ++ ws).toArray } })
  (hsz:vs.length + ws.length <= sizeLine):wpAny (model prog w) A (binaryOp .Add (.ref t) (.ref b)) Q E s:=by
 obtain ⟨⟨cls,dO,data,aP⟩,a7,ar,n,hd⟩:=id ct;obtain ⟨⟨ahX,Q1,data2,Na⟩,BJ,I9,cP,hd2⟩:=id ab;simp only at ar hd I9 hd2;subst ar hd I9 hd2;have e:vs.toArray ++ ws.toArray=(vs ++ ws).toArray:=by simp
 by_cases hw:ws=[]
 .exact concat_meets ⟨_,a7,rfl⟩ ⟨_,BJ,rfl⟩ noFill_tuple_add seq_tuple_add abT agu (X9 _ _)
   (tuple_addW1 t b vs.toArray ws.toArray n cP dO Q1 aP Na (by simpa using aM) (by simp [hw])) ⟨a7,BJ,ae hw⟩
 .refine concat_meets ⟨_,a7,rfl⟩ ⟨_,BJ,rfl⟩ noFill_tuple_add seq_tuple_add abT agu (X9 _ _)
   (tuple_addW2 t b vs.toArray ws.toArray n cP dO Q1 aP Na (by simpa using aM) (by simpa using hw) (by rw [fy,fy];exact hsz)) ⟨a7,BJ,?_⟩
  rw [e];exact ak hw
noncomputable def cM (n d:Nat):Option Int->Nat
 | none=>d
 | some v=>if v < 0 then (v + (n:Int)).toNat else min v.toNat n
theorem acJ (n d:Nat) (hd:d <= n) (o:Option Int):cM n d o <= n:=by
 cases o with
 | none=>exact hd
 | some v=>
  show (if v < 0 then (v + (n:Int)).toNat else min v.toNat n) <= n;by_cases aM:v < 0
  .rw [if_pos aM];omega
  .rw [if_neg aM];exact Nat.min_le_right _ _
theorem N6 (v:Int) (n d:Nat):(if v < 0 then max (v + (n:Int)) 0 else min v (n:Int))=((cM n d (some v):Nat):Int):=by
 show (if v < 0 then max (v + (n:Int)) 0 else min v (n:Int))=(((if v < 0 then (v + (n:Int)).toNat else min v.toNat n):Nat):Int);by_cases aM:v < 0
 .simp only [if_pos aM];omega
 .simp only [if_neg aM];omega
theorem afm (lo ai:Option Int) (n:Nat):M6 lo ai 1 (n:Int)=(((cM n 0 lo:Nat):Int),((cM n n ai:Nat):Int)):=by
 have ae:¬ ((1:Int) < 0):=by omega
 unfold M6;simp only [ae,if_false];refine Prod.ext ?_ ?_
 .cases lo with
  | none=>rfl
  | some v=>exact N6 v n 0
 .cases ai with
  | none=>rfl
  | some v=>exact N6 v n n
theorem abi (i j:Nat):Fx (i:Int) (j:Int) 1=j - i:=by
 unfold Fx;have ae:(1:Int) > 0:=by omega
 simp only [ae,if_true,Wn];split <;> omega
theorem Lj {v:Value} {o:Option Int} {Q:Option Int->Shared->Prop} (p:IsPart v o) (h:Q o s):wpAny (model prog w) A (ahL v) Q E s:=by
 cases p with
 | none=>exact slicePart_none h
 | int i t=>exact slicePart_int h
theorem YT {aP:Addr} {iG iH:Value} {lo ai:Option Int} {n:Nat} {Q:Int × Int × Nat->Shared->Prop} (aw:s.heap.IsSliceOf aP iG iH .none) (pl:IsPart iG lo) (pu:IsPart iH ai)
  (h:Q (((cM n 0 lo:Nat):Int),1,cM n n ai - cM n 0 lo) s):wpAny (model prog w) A (aaM (.ref aP) (pure (n:Int))) Q E s:=by
 obtain ⟨os,tM,Qp,Az⟩:=id aw;unfold aaM ahy;refine wpAny_bind (wpAny_bind (wpAny_field tM Az (x:=iG) rfl (wpAny_bind (wpAny_field tM Az (x:=iH) rfl (wpAny_bind (wpAny_field tM Az (x:=.none) rfl (wpAny_pure ?_)))))));refine wpAny_bind (slicePart_none ?_);show wpAny _ _ (if ((1:Int) == 0)=true then _ else _) _ _ s;rw [if_neg (by decide)];refine wpAny_bind (Lj pl (wpAny_bind (Lj pu (wpAny_bind (wpAny_pure ?_)))));show wpAny _ _ (match M6 lo ai 1 (n:Int) with | (lo,ai)=>pure (lo,(1:Int),Fx lo ai 1)) _ _ s;rw [afm lo ai n];show wpAny _ _ (pure (((cM n 0 lo:Nat):Int),(1:Int),Fx ((cM n 0 lo:Nat):Int) ((cM n n ai:Nat):Int) 1)) _ _ s;rw [abi];exact wpAny_pure h
theorem VO (xs:Array Value) (i k:Nat):((fc k).filterMap fun (m:Nat)=>xs[((i:Int) + (m:Int) * 1).toNat]?).toArray=((xs.toList.drop i).take k).toArray:=by
 have e:(fun (m:Nat)=>xs[((i:Int) + (m:Int) * 1).toNat]?)=fun m=>xs[i + m]?:=by
  funext m;have:((i:Int) + (m:Int) * 1).toNat=i + m:=by omega
  rw [this]
 rw [e];have:=pick_run xs i k;rw [List.filterMap_map] at this;have aG:((fun x=>xs[x]?) ∘ fun x=>i + x)=fun m=>xs[i + m]?:=rfl
 rw [aG] at this;rw [this]
theorem V7 {t aP:Addr} {items:Array Value} {iG iH:Value} {lo ai:Option Int} {Q:Value->Shared->Prop} (ct:IsTup s.heap t items) (aw:s.heap.IsSliceOf aP iG iH .none) (pl:IsPart iG lo) (pu:IsPart iH ai)
  (hw:¬ (cM items.size 0 lo=0/\cM items.size items.size ai=items.size))
  (h:Q (.ref s.heap.objs.size) { s with heap:=s.heap.push { cls:=.type "tuple",data:=.seq ((items.toList.drop (cM items.size 0 lo)).take (cM items.size items.size ai - cM items.size 0 lo)).toArray } })
  (hsz:items.size <= sizeLine):wpAny (model prog w) A (getItem (.ref t) (.ref aP)) Q E s:=by
 have A':sizeOk (.seq ((items.toList.drop (cM items.size 0 lo)).take (cM items.size items.size ai - cM items.size 0 lo)).toArray):=by
  show ((items.toList.drop (cM items.size 0 lo)).take (cM items.size items.size ai - cM items.size 0 lo)).toArray.size <= sizeLine;rw [fy,gV,adK,Cn];omega
 have aZ:cM items.size items.size ai <= items.size:=acJ _ _ (b2 _) ai;obtain ⟨os,tM,Qp,Az⟩:=id aw;have Zr:s.TypeIs (.ref aP) "slice" := ⟨os,tM,Qp⟩;unfold getItem
 try with_reducible refine wpAny_holding ?_
 first | refine wpAny_bind (wpAny_pure ?_) | skip
 refine wpAny_bind (wpAny_sequenceKey ct.typeIs (by decide) ?_);refine wpAny_bind (wpAny_callSpecial?_slot (name:=ah "__getitem__") ct.typeIs OL
  (wpAny_call_entry OL ct.typeIs entry_tuple_getitem ?_ (args_tuple_getitem _ _)))
 show wpAny _ _ (ah5 (.ref t) >>= _) _ _ s;refine wpAny_bind (tupleItemsOf_ ct ?_);refine wpAny_bind (wpAny_typeOf Zr ?_);rw [if_pos (by decide)];refine wpAny_bind (YT aw pl pu ?_);have uz:¬ ((((cM items.size 0 lo:Nat):Int) == 0 && (1:Int) == 1 && (cM items.size items.size ai - cM items.size 0 lo) == items.size)=true):=by
  intro q;rw [iP,iP] at q;have bw:((cM items.size 0 lo:Nat):Int)=0:=eq_of_beq q.1.1;have b4:cM items.size items.size ai - cM items.size 0 lo=items.size:=eq_of_beq q.2;exact hw ⟨by omega,by omega⟩
 show wpAny _ _ (if (((cM items.size 0 lo:Nat):Int) == 0 && (1:Int) == 1 && (cM items.size items.size ai - cM items.size 0 lo) == items.size)=true then _ else _) _ _ s;rw [if_neg uz,VO]
 first
  | exact wpAny_bind (m:=HX _) (wpAny_newObj_type (wpAny_pure ⟨_,rfl,wpAny_pure h⟩) A')
  | exact wpAny_bind (m:=HX _) (wpAny_newObj_type (wpAny_bind (wpAny_pure (wpAny_pure ⟨_,rfl,wpAny_pure h⟩))) A')
  | exact wpAny_bind (wpAny_bind (m:=HX _) (wpAny_newObj_type (wpAny_pure (wpAny_pure ⟨_,rfl,wpAny_pure h⟩)) A'))
  | exact wpAny_bind (wpAny_bind (m:=HX _) (wpAny_newObj_type (wpAny_pure ⟨_,rfl,wpAny_pure h⟩) A'))
end
end fj
namespace L2
open PySem PySem.Spec PyProof.Rows
noncomputable abbrev ud:=St->ag->(Option Int->ag->Prop)->Prop
noncomputable def Au (X:aL) (e:Option Expr) (t:ud):Prop:=
 ∀ (aa:List (Addr × Obj)) (s:Shared) (σ:St) (H:ag) (Q:Option Int->ag->Prop),Inv X aa σ H s->t σ H Q ->
  wpAny (model X.prog X.w) X.A (evalPart e X.env) (fun u s'=>∃ o I,Inv X aa σ I s'/\IsPart u o/\Q o I) X.c0 s
noncomputable def FH:ud:=fun _ H Q=>Q none H
noncomputable def C6 (t:TE):ud:=fun σ H Q=>t σ H fun x H1=>fq x fun i=>Q (some i) H1
theorem Wx {ns:List Int}:∀ {us:List Value},re (ns.map V.int) us->IntsAre us ns:=by
 induction ns with
 | nil=>intro us r;rw [i_] at r;cases r;exact .nil
 | cons n ns cj=>
  intro us r;rw [eJ] at r;cases r with
  | cons bK cL=>
   obtain ⟨t,e⟩:=bK;subst e;exact .cons n t (cj cL)
section
variable {X:aL} {e:Expr} {bf:TE} {lo ai:Option Expr} {eD g6:ud} {pos dz:Pos}
theorem uN:Au X none FH:=by
 intro aa s σ H Q J h;rw [evalPart_none];exact wpAny_pure ⟨none,H,J,.none,h⟩
theorem wM (h:br X e bf):Au X (some e) (C6 bf):=by
 intro aa s σ H Q J hw;rw [evalPart_some];refine bt (h aa s σ H _ J hw) fun u s1 bZ=>d4 bZ fun x H1 aO bK bw=>?_
 obtain ⟨i,rfl,q⟩:=fq.out bw;obtain ⟨t,rfl⟩:=bK;exact ⟨some i,H1,aO,.int i t,q⟩
noncomputable def zS (X:aL) (r:V->Option Int->Option Int->ag->bG->Prop):Prop:=
 ∀ (aa:List (Addr × Obj)) (s:Shared) (σ:St) (H:ag) (x:V) (v iG iH:Value) (lo ai:Option Int) (aP:Addr) (Q:bG),Inv X aa σ H s->bO x v->s.heap.IsSliceOf aP iG iH .none->IsPart iG lo->IsPart iH ai->r x lo ai H Q ->
  ∃ T id,typeLookup (.type T) "__getitem__"=pure (some (.builtin id))/\s.TypeIs v T/\wpAny (model X.prog X.w) X.A (getItem v (.ref aP)) (fT X aa σ Q) X.c0 s
noncomputable def B8 (r:V->Option Int->Option Int->ag->bG->Prop) (bf:TE) (eD g6:ud):TE:=fun σ H Q=>bf σ H fun x H1=>eD σ H1 fun l ay=>g6 σ ay fun u bA=>r x l u bA Q
theorem wH {r:V->Option Int->Option Int->ag->bG->Prop} (au:zS X r) (he:br X e bf) (aA:Au X lo eD) (bQ:Au X ai g6):br X (.Subscript e (.Slice lo ai none dz) pos) (B8 r bf eD g6):=by
 intro aa s σ H Q J h;refine Subscript_ (bt (he aa s σ H _ J h) fun v s1 bZ=>d4 bZ fun x H1 aO bK bw=>?_);refine wpAny_Slice (bt (aA aa s1 σ H1 _ aO bw) fun iG s2 ⟨l,ay,bD,pl,b4⟩=>bt (bQ aa s2 σ ay _ bD b4) fun iH s3 b_=>?_);obtain ⟨u,bA,eb,pu,d9⟩:=b_;rw [evalPart_none];refine wpAny_pure ?_;have iM:Inv X aa σ bA { s3 with heap:=s3.heap.push { cls:=.type "slice",data:=.fields #[iG,iH,.none] } }:=eb.kept (t':=s3.toks) fun b cu q=>dY _ q
 obtain ⟨T,id,dN,ct,a3⟩:=au aa { s3 with heap:=s3.heap.push { cls:=.type "slice",data:=.fields #[iG,iH,.none] } } σ bA x v iG iH l u s3.heap.objs.size Q iM bK (ahD ..) pl pu d9;show wpAny (model X.prog X.w) X.A (subscriptTail e (.Slice lo ai none dz) v (.ref s3.heap.objs.size)) (fT X aa σ Q) X.c0 { s3 with heap:=s3.heap.push { cls:=.type "slice",data:=.fields #[iG,iH,.none] } };exact tail_any (ops:=[.ref s3.heap.objs.size,v]) ct dN a3 (by with_unfolding_all rfl)
noncomputable def k0 (xs:List V) (lo ai:Option Int):List V:=(xs.drop (fj.cM xs.length 0 lo)).take (fj.cM xs.length xs.length ai - fj.cM xs.length 0 lo)
theorem Kg (xs:List V) (lo ai:Option Int):(k0 xs lo ai).length <= xs.length:=by
 unfold k0;rw [gV,adK];omega
noncomputable def Oz (K:a6):V->Option Int->Option Int->ag->bG->Prop:=fun x lo ai H Q=>∃ a xs,x=.ref a/\bS K H a xs /\
 ¬ (fj.cM xs.length 0 lo=0/\fj.cM xs.length xs.length ai=xs.length)/\∀ p,H p=none->Q (.ref p) (upd H p (.tup (k0 xs lo ai)))
theorem agb:zS X (Oz X.K):=by
 intro aa s σ H x v iG iH lo ai aP Q J bc aw pl pu h;obtain ⟨a,xs,rfl,av,hw,q⟩:=h;cases bc;obtain ⟨a0,r,ct,az⟩:=J.tuple av;have hlen:a0.toArray.size=xs.length:=by rw [fy];exact r.length.symm
 refine ⟨"tuple",_,OL.lookup,ct.typeIs,?_⟩;refine fj.V7 ct aw pl pu (by rw [hlen];exact hw) ?_ (by rw [hlen];exact az);rw [hlen];refine ⟨.ref s.heap.objs.size,_,J.laid (t':=s.toks) (o:=.tup (k0 xs lo ai)) (fun b cu q=>dY _ q) (b2 _) ?_,rfl,q _ (J.bl.fresh (b2 _))⟩;exact ⟨⟨c1 (Kg xs lo ai) az,_,gz _ rfl,rfl⟩,_,(r.drop (fj.cM xs.length 0 lo)).take (fj.cM xs.length xs.length ai - fj.cM xs.length 0 lo),afs _ _⟩
noncomputable def Nu (K:a6):fF:=fun x y H Q=>∃ a b xs ys,x=.ref a/\y=.ref b/\bS K H a xs/\bS K H b ys/\xs ≠ []/\xs.length + ys.length <= sizeLine /\
 (ys=[]->Q (.ref a) H)/\(ys ≠ []->∀ p,H p=none->Q (.ref p) (upd H p (.tup (xs ++ ys))))
theorem re.HO {xs:List V} {us:List Value} (r:re xs us):us=[]↔xs=[]:=by
 cases r with
 | nil=>simp
 | cons _ _=>simp
theorem KY:fV X (binaryOp .Add) (Nu X.K):=by
 intro aa s σ H x y v u Q J bc bp h;obtain ⟨a,b,xs,ys,rfl,rfl,aJ,ab,av,az,bw,b4⟩:=h;cases bc;cases bp;obtain ⟨a0,bK,c7,_⟩:=J.tuple aJ;obtain ⟨GN,cL,dz,_⟩:=J.tuple ab;refine fj.S6 c7 dz (fun z=>av (bK.HO.mp z)) (fun z=>⟨.ref a,H,J,rfl,bw (cL.HO.mp z)⟩) (fun z=>?_) (by rw [<- bK.length,<- cL.length];exact az);refine ⟨.ref s.heap.objs.size,_,J.laid (t':=s.toks) (o:=.tup (xs ++ ys)) (fun b cu q=>dY _ q) (b2 _) ?_,rfl,b4 (fun w=>z (cL.HO.mpr w)) _ (J.bl.fresh (b2 _))⟩;exact ⟨⟨by rw [dP];exact az,_,gz _ rfl,rfl⟩,_,bK.append cL,afs _ _⟩
end
noncomputable def mJ (n:Nat) (i:Int):Option Nat:=if 0 <= i then (if i < n then some i.toNat else none) else if -(n:Int) <= i then some (i + n).toNat else none
noncomputable def d_ {α:Type} (xs:List α) (i:Int):Option α:=(mJ xs.length i).bind fun j=>xs[j]?
theorem Pz {n:Nat} {i:Int} {j:Nat} (h:mJ n i=some j):seqIndex? i n=some j/\j < n/\-(n:Int) <= i/\i < n:=by
 unfold mJ at h;by_cases h0:0 <= i
 .rw [if_pos h0] at h;by_cases ae:i < n
  .rw [if_pos ae] at h;have e:i.toNat=j:=eS h;exact ⟨by rw [seqIndex_of h0 ae,e],by omega,by omega,ae⟩
  .rw [if_neg ae] at h;cases h
 .rw [if_neg h0] at h;by_cases ae:-(n:Int) <= i
  .rw [if_pos ae] at h;have e:(i + n).toNat=j:=eS h;exact ⟨by rw [seqIndex_neg (by omega) ae,e],by omega,ae,by omega⟩
  .rw [if_neg ae] at h;cases h
theorem D7 {α:Type} {xs:List α} {i:Int} {v:α} (h:d_ xs i=some v):∃ j,seqIndex? i xs.length=some j/\xs[j]? = some v/\j < xs.length/\-(xs.length:Int) <= i/\i < xs.length:=by
 unfold d_ at h;cases e:mJ xs.length i with
 | none=>rw [e] at h;cases h
 | some j=>
  rw [e] at h;obtain ⟨ae,ak,a_,cv⟩:=Pz e;exact ⟨j,ae,h,ak,a_,cv⟩
theorem cR {α:Type} {xs:List α} {j:Nat} {v:α} (h:xs[j]? = some v):d_ xs (j:Int)=some v:=by
 have aZ:j < xs.length:=(cg.mp h).1;have e:mJ xs.length (j:Int)=some j:=by
  unfold mJ;rw [if_pos (by omega),if_pos (by omega)];simp
 unfold d_;rw [e];exact h
noncomputable def OS (b:Expr):Prop:=∀ o i,subscripted b false o i=operate [o,i] (getItem o i)
noncomputable def uL (X:aL) (r:fF):Prop:=
 ∀ (value slice:Expr) (aa:List (Addr × Obj)) (s:Shared) (σ:St) (H:ag) (x y:V) (v u:Value) (Q:bG),Inv X aa σ H s->bO x v->bO y u->r x y H Q ->
  subscripted slice false v u=operate [v,u] (getItem v u)->wpAny (model X.prog X.w) X.A (subscriptTail value slice v u) (fT X aa σ Q) X.c0 s
noncomputable def vd (X:aL) (id:String) (r:V->List V->ag->bG->Prop):Prop:=
 ∀ (aa:List (Addr × Obj)) (s:Shared) (σ:St) (H:ag) (x:V) (xs:List V) (v:Value) (us:List Value) (Q:bG),Inv X aa σ H s->bO x v->re xs us->r x xs H Q ->
  wpAny (model X.prog X.w) X.A (call (.builtin id) (v :: us)) (fT X aa σ Q) X.c0 s
section
variable {X:aL} {a b:Expr} {aQ bW:TE} {pos:Pos}
theorem Uu {r:fF} (au:uL X r) (aJ:br X a aQ) (ab:br X b bW) (aw:OS b):br X (.Subscript a b pos) (qk r aQ bW):=by
 intro aa s σ H Q J h;exact Subscript_ (D5 aJ ab J h fun v u s2 x y ay bD bc bp q=>au a b aa s2 σ ay x y v u Q bD bc bp q (aw _ _))
noncomputable def GX (K:a6):fF:=fun x y H Q=>eC x fun p=>∃ xs,fq y fun i=>aK K H p xs/\∃ v,d_ xs i=some v/\Q v H
noncomputable def EF (K:a6):fF:=fun x y H Q=>eC x fun p=>∃ xs,fq y fun i=>bS K H p xs/\∃ v,d_ xs i=some v/\Q v H
noncomputable def E9:fF:=fun x y H Q=>∃ z i c,x=.str z/\y=.int i/\z.length <= sizeLine/\d_ z.cps.toList i=some c/\Q (.str ⟨#[c]⟩) H
theorem ew:uL X (GX X.K):=by
 intro value slice aa s σ H x y v u Q J bc bp h aw;obtain ⟨p,rfl,xs,gh⟩:=eC.out h;obtain ⟨i,rfl,aH,z,he,q⟩:=fq.out gh;cases bc;obtain ⟨t,rfl⟩:=bp;obtain ⟨a0,r,pl,az⟩:=J.list aH;obtain ⟨j,ae,ak,a_,cv,dh⟩:=D7 he;obtain ⟨w,k3,kr⟩:=r.get ak;have aA:=r.length;have aF:=qy;have fin:fT X aa σ Q w s:=⟨z,H,J,kr,q⟩;by_cases h0:0 <= i
 .have aZ:i.toNat=j:=by
   rw [seqIndex_of h0 dh] at ae;exact eS ae
  exact item_listR pl.isList h0 (by omega) (by rw [aZ];simpa using k3) fin aw
 .have aZ:(i + (a0.toArray.size:Int)).toNat=j:=by
   rw [seqIndex_neg (by omega) cv] at ae;rw [fy,<- aA];exact eS ae
  exact subscriptTail_builtinR (x:=w) pl.isList.typeIs slot_list_getitem.lookup
   (wpAny_getItem_list_neg (Q:=fun r s'=>r=w/\fT X aa σ Q r s') pl.isList (by omega) (by rw [fy] <;> omega) (by omega) (by rw [aZ];simpa using k3) ⟨rfl,fin⟩) aw
theorem dZ:uL X (EF X.K):=by
 intro value slice aa s σ H x y v u Q J bc bp h aw;obtain ⟨p,rfl,xs,gh⟩:=eC.out h;obtain ⟨i,rfl,aH,z,he,q⟩:=fq.out gh;cases bc;obtain ⟨t,rfl⟩:=bp;obtain ⟨a0,r,pl,az⟩:=J.tuple aH;obtain ⟨j,ae,ak,a_,cv,dh⟩:=D7 he;obtain ⟨w,k3,kr⟩:=r.get ak;have aA:=r.length;have aF:=qy;have fin:fT X aa σ Q w s:=⟨z,H,J,kr,q⟩;exact subscriptTail_builtinR (x:=w) pl.typeIs slot_tuple_getitem.lookup
  (getItem_tuple (j:=j) (Q:=fun r s'=>r=w/\fT X aa σ Q r s') pl (by omega) (by omega) (by rw [fy,<- aA];exact ae) (by simpa using k3) ⟨rfl,fin⟩) aw
theorem Lz:uL X E9:=by
 intro value slice aa s σ H x y v u Q J bc bp h aw;obtain ⟨z,i,c,rfl,rfl,az,he,q⟩:=h;obtain ⟨t,rfl⟩:=bc;obtain ⟨t',rfl⟩:=bp;obtain ⟨j,ae,ak,a_,cv,dh⟩:=D7 he;have aA:z.cps.toList.length=z.length:=by simp [Fj]
 rw [aA] at ae cv dh;have aF:=qy;exact tail_any (typeIs_str s z t) slot_str_getitem.lookup (getItem_str (c:=c) (by
  have ax:decide (i < -(2 ^ 63:Int))=false:=decide_eq_false (by omega);have aG:decide (i ≥ 2 ^ 63)=false:=decide_eq_false (by omega);rw [ax,aG,EA]) (by rw [ae];simpa using ak) ⟨.str ⟨#[c]⟩,H,J.tok _,⟨_,rfl⟩,q⟩) aw
theorem aa9 (a0:List Value) (n j:Nat) (u:Value):qx (·.setIfInBounds j u) { cls:=.type "list",data:=.seq a0.toArray n } = { cls:=.type "list",data:=.seq (a0.set j u).toArray n }:=by
 simp [qx]
theorem Inv.lst {aa:List (Addr × Obj)} {σ:St} {H:ag} {s:Shared} {p:Addr} {xs:List V} (J:Inv X aa σ H s) (h:H p=some (.lst xs)) :
  ∃ (a0:List Value) (n:Nat),re xs a0/\s.heap.get? p=some { cls:=.type "list",data:=.seq a0.toArray n }/\xs.length <= sizeLine:=by
 obtain ⟨z,a0,n,r,e⟩:=J.bl p _ h;exact ⟨a0,n,r,e,z⟩
theorem Inv.ZR {aa:List (Addr × Obj)} {σ:St} {H:ag} {s:Shared} {p:Addr} {xs ys:List V} {a0 its':List Value} {n g8:Nat} {f:Obj->Obj} (J:Inv X aa σ H s) (h:H p=some (.lst xs))
  (a7:s.heap.get? p=some { cls:=.type "list",data:=.seq a0.toArray n }) (hf:f { cls:=.type "list",data:=.seq a0.toArray n } = { cls:=.type "list",data:=.seq its'.toArray g8 }) (r:re ys its') (az:ys.length <= sizeLine) (t:Nat) :
  Inv X aa σ (upd H p (.lst ys)) { s with heap:=s.heap.update p f,toks:=t }:=by
 have e:(s.heap.update p f).get? p=some { cls:=.type "list",data:=.seq its'.toArray g8 }:=by
  rw [mR f a7 (by rw [hf] <;> rfl),hf]
 refine J.write (x:=p) (e:=p) (by rw [h];trivial) (.inl rfl) (fun b u ab q=>(jn _ _ (c6 ab)).trans q) ⟨_,e⟩ ?_;exact ⟨az,its',g8,r,e⟩
noncomputable def Gq:V->V->V->ag->(ag->Prop)->Prop:=fun o i v H Q=>eC o fun p=>∃ xs,fq i fun k=>H p=some (.lst xs)/\∃ j,mJ xs.length k=some j/\Q (upd H p (.lst (xs.set j v)))
theorem td:Je X Gq:=by
 intro aa s σ H o i v dA iV u Q J iy vM cf h;obtain ⟨p,rfl,xs,gh⟩:=eC.out h;obtain ⟨k,rfl,aq,j,aZ,q⟩:=fq.out gh;cases iy;obtain ⟨t,rfl⟩:=vM;obtain ⟨a0,n,r,a7,az⟩:=J.lst aq;obtain ⟨ae,ak,a_,cv⟩:=Pz aZ;have aA:=r.length;have aF:=qy;have jN:Inv X aa σ (upd H p (.lst (xs.set j v))) { s with heap:=s.heap.update p (qx (·.setIfInBounds j u)) }:=
  J.ZR aq a7 (aa9 a0 n j u) (r.set cf j) (by rw [zO];exact az) s.toks
 by_cases h0:0 <= k
 .have aE:k.toNat=j:=by
   rw [seqIndex_of h0 cv] at ae;exact eS ae
  exact PySem.W.ki_setAt a7 h0 (by omega) (by rw [fy,<- aA];exact cv) (by rw [aE];exact ⟨_,jN,q⟩)
 .have aE:(k + (a0.toArray.size:Int)).toNat=j:=by
   rw [seqIndex_neg (by omega) a_] at ae;rw [fy,<- aA];exact eS ae
  exact PySem.W.ki_setBack a7 (by omega) (by rw [fy,<- aA];exact a_) (by omega) (by rw [aE];exact ⟨_,jN,q⟩)
theorem X6 (lo ai:Option Int) (n:Nat):(sliceBounds lo ai none n).1=((fj.cM n 0 lo:Nat):Int)/\(sliceBounds lo ai none n).2.1=((fj.cM n n ai:Nat):Int)/\(sliceBounds lo ai none n).2.2=1:=by
 refine ⟨?_,?_,rfl⟩
 .cases lo with
  | none=>simp [sliceBounds,fj.cM]
  | some i=>
   simp only [sliceBounds,fj.cM,Sq,show (1:Int) > 0 by decide,if_true];by_cases h:i < 0
   .simp only [h,if_true] <;> omega
   .simp only [h,if_false] <;> omega
 .cases ai with
  | none=>simp [sliceBounds,fj.cM]
  | some i=>
   simp only [sliceBounds,fj.cM,Sq,show (1:Int) > 0 by decide,if_true];by_cases h:i < 0
   .simp only [h,if_true] <;> omega
   .simp only [h,if_false] <;> omega
theorem SH (a0:List Value) (lo ai:Option Int):slicePick a0.toArray lo ai none=((a0.drop (fj.cM a0.length 0 lo)).take (fj.cM a0.length a0.length ai - fj.cM a0.length 0 lo)).toArray:=by
 obtain ⟨ae,ak,a_⟩:=X6 lo ai a0.toArray.size;unfold slicePick;rw [ae,ak,a_];simp only [sliceRange_one,pick_run,fy] <;> rfl
noncomputable def DY (K:a6):V->Option Int->Option Int->ag->bG->Prop:=fun x lo ai H Q=>∃ a xs,x=.ref a/\aK K H a xs/\∀ p,H p=none->Q (.ref p) (upd H p (.lst (k0 xs lo ai)))
theorem Kk:zS X (DY X.K):=by
 intro aa s σ H x v iG iH lo ai aP Q J bc aw pl pu h;obtain ⟨a,xs,rfl,av,q⟩:=h;cases bc;obtain ⟨a0,r,ct,az⟩:=J.list av;have hlen:=r.length;refine ⟨"list",_,slot_list_getitem.lookup,ct.isList.typeIs,?_⟩;refine wpAny_getItem_list_slice ct.isList aw pl pu .none (by simp) ?_ (by rw [fy] <;> omega);rw [SH,<- hlen];refine ⟨.ref s.heap.objs.size,_,J.laid (t':=s.toks) (o:=.lst (k0 xs lo ai)) (fun b cu q=>dY _ q) (b2 _) ?_,rfl,q _ (J.bl.fresh (b2 _))⟩;exact ⟨c1 (Kg xs lo ai) az,_,0,(r.drop (fj.cM xs.length 0 lo)).take (fj.cM xs.length xs.length ai - fj.cM xs.length 0 lo),gz _ rfl⟩
noncomputable def kU:V->Bool
 | .bH=>true
 | .bq _=>true
 | .int _=>true
 | .str _=>true
 | _=>false
noncomputable def kI:V->V->Bool
 | .bH,.bH=>true
 | .bq a,.bq b=>a == b
 | .bq a,.int b=>(if a then 1 else 0) == b
 | .int a,.bq b=>a == (if b then 1 else 0)
 | .int a,.int b=>a == b
 | .str a,.str b=>a == b
 | _,_=>false
theorem aa0 {A:Around} {s:Shared} {y x:V} {u v:Value} (bp:bO y u) (bc:bO x v) (agH:kU y=true) (kh:kU x=true):aeg A s u v (kI y x):=by
 cases y with
 | bH=>
  cases bp;cases x with
  | bH=>cases bc;exact SeqAt.EqAt.same _
  | bq b=>cases bc;exact SeqAt.EqAt.none_bool b
  | int b=>obtain ⟨t,rfl⟩:=bc;exact SeqAt.EqAt.none_int b t
  | str b=>obtain ⟨t,rfl⟩:=bc;exact SeqAt.EqAt.none_str b t
  | _=>exact absurd (show false=true from kh) hB
 | bq a=>
  cases bp;cases x with
  | bH=>cases bc;exact SeqAt.EqAt.bool_none a
  | bq b=>cases bc;exact SeqAt.EqAt.bool_bool a b
  | int b=>obtain ⟨t,rfl⟩:=bc;exact SeqAt.EqAt.bool_int a b t
  | str b=>obtain ⟨t,rfl⟩:=bc;exact SeqAt.EqAt.bool_str a b t
  | _=>exact absurd (show false=true from kh) hB
 | int a=>
  obtain ⟨t',rfl⟩:=bp;cases x with
  | bH=>cases bc;exact SeqAt.EqAt.int_none a t'
  | bq b=>cases bc;exact SeqAt.EqAt.int_bool a t' b
  | int b=>obtain ⟨t,rfl⟩:=bc;exact SeqAt.EqAt.int_int a t' b t
  | str b=>obtain ⟨t,rfl⟩:=bc;exact aag a t' b t
  | _=>exact absurd (show false=true from kh) hB
 | str a=>
  obtain ⟨t',rfl⟩:=bp;cases x with
  | bH=>cases bc;exact SeqAt.EqAt.str_none a t'
  | bq b=>cases bc;exact SeqAt.EqAt.str_bool a t' b
  | int b=>obtain ⟨t,rfl⟩:=bc;exact V3 a t' b t
  | str b=>obtain ⟨t,rfl⟩:=bc;exact SeqAt.EqAt.str_str a t' b t
  | _=>exact absurd (show false=true from kh) hB
 | _=>exact absurd (show false=true from agH) hB
noncomputable def jt (x:V) (u:Value):Bool:=match u with
 | .none=>kI .bH x
 | .bool b=>kI (.bq b) x
 | .int i _=>kI (.int i) x
 | .str z _=>kI (.str z) x
 | _=>false
theorem OY {x y:V} {u:Value} (r:bO y u) (f:kU y=true):jt x u=kI y x:=by
 cases y with
 | bH=>cases r;rfl
 | bq b=>cases r;rfl
 | int i=>obtain ⟨t,rfl⟩:=r;rfl
 | str z=>obtain ⟨t,rfl⟩:=r;rfl
 | _=>exact absurd (show false=true from f) hB
theorem t5 {x:V}:∀ {xs:List V} {us:List Value},re xs us->xs.all kU=true->us.any (jt x)=xs.any fun y=>kI y x
 | _,_,.nil,_=>rfl
 | y :: xs,u :: us,.cons r t,f=>by
  rw [adM,iP] at f;rw [pw,pw,OY r f.1,t5 t f.2]
theorem Do {A:Around} {s:Shared} {x:V} {v:Value} (bc:bO x v) (kh:kU x=true):∀ {xs:List V} {us:List Value},re xs us->xs.all kU=true->∀ u ∈ us,aeg A s u v (jt x u)
 | _,_,.nil,_=>fun u bQ=>by cases bQ
 | y :: xs,u :: us,.cons r t,f=>fun mf bQ=>by
  rw [adM,iP] at f;rcases dQ.mp bQ with rfl | bQ
  .rw [OY r f.1];exact aa0 r bc f.1 kh
  .exact Do bc kh t f.2 mf bQ
noncomputable def pV (x:V) (xs:List V):Bool:=xs.any fun y=>kI y x
noncomputable def zL (K:a6) (neg:Bool):fF:=fun x y H Q=>∃ p xs,y=.ref p/\(aK K H p xs\/bS K H p xs)/\kU x=true/\xs.all kU=true/\Q (.bq (if neg then !pV x xs else pV x xs)) H
theorem tu:fV X (compareOp .In) (zL X.K false):=by
 intro aa s σ H x y v u Q J bc bp h;obtain ⟨p,xs,rfl,aH,kh,aN,q⟩:=h;cases bp;rcases aH with aH | aH
 .obtain ⟨a0,r,pl,az⟩:=J.list aH;refine SeqAt.in_listAt (jt x) pl.isList (fun w hw=>Do bc kh r aN w (by simpa using hw)) ⟨.bq _,H,J,rfl,?_⟩;rw [show a0.toArray.any (jt x)=a0.any (jt x) by simp,t5 r aN];exact q
 .obtain ⟨a0,r,pl,az⟩:=J.tuple aH;refine SeqAt.in_tupleAt (jt x) pl (fun w hw=>Do bc kh r aN w (by simpa using hw)) ⟨.bq _,H,J,rfl,?_⟩;rw [show a0.toArray.any (jt x)=a0.any (jt x) by simp,t5 r aN];exact q
theorem ID:fV X (compareOp .NotIn) (zL X.K true):=by
 intro aa s σ H x y v u Q J bc bp h;obtain ⟨p,xs,rfl,aH,kh,aN,q⟩:=h;cases bp;rcases aH with aH | aH
 .obtain ⟨a0,r,pl,az⟩:=J.list aH;refine SeqAt.notIn_listAt (jt x) pl.isList (fun w hw=>Do bc kh r aN w (by simpa using hw)) ⟨.bq _,H,J,rfl,?_⟩;rw [show a0.toArray.any (jt x)=a0.any (jt x) by simp,t5 r aN];exact q
 .obtain ⟨a0,r,pl,az⟩:=J.tuple aH;refine SeqAt.notIn_tupleAt (jt x) pl (fun w hw=>Do bc kh r aN w (by simpa using hw)) ⟨.bq _,H,J,rfl,?_⟩;rw [show a0.toArray.any (jt x)=a0.any (jt x) by simp,t5 r aN];exact q
theorem ac:lO X (.builtin "len") (fun xs H Q=>kS xs fun x=>eC x fun p=>∃ ys,(aK X.K H p ys\/bS X.K H p ys)/\Q (.int ys.length) H):=by
 intro aa s σ H xs us Q J r h;obtain ⟨aci,rfl,gh⟩:=kS.out h;obtain ⟨p,rfl,ys,aH,q⟩:=eC.out gh;obtain ⟨u,rfl,bc⟩:=mg r;cases bc;have aF:=qy;rcases aH with aH | aH
 .obtain ⟨a0,fe,pl,az⟩:=J.list aH;have hlen:=fe.length;exact Calls.call_len_list pl.isList (by simp only [fy] <;> omega) ⟨.int ys.length,H,J.tok _,⟨s.toks + 1,by rw [fy,hlen]⟩,q⟩
 .obtain ⟨a0,fe,pl,az⟩:=J.tuple aH;have hlen:=fe.length;exact len_tuple pl (by simp only [fy] <;> omega) ⟨.int ys.length,H,J.tok _,⟨s.toks + 1,by rw [fy,hlen]⟩,q⟩
theorem ac8:lO X (.builtin "len") (fun xs H Q=>∃ z,xs=[.str z]/\z.length <= sizeLine/\Q (.int z.length) H):=by
 intro aa s σ H xs us Q J r h;obtain ⟨z,rfl,az,q⟩:=h;obtain ⟨u,rfl,t,rfl⟩:=mg r;have aF:=qy;exact len_str (by omega) ⟨.int z.length,H,J.tok _,⟨_,rfl⟩,q⟩
noncomputable def CU (K:a6) (T:String) (x:V) (H:ag):Prop:=match x with
 | .str _=>T = "str"
 | .int _=>T = "int"
 | .ref p=>(T = "list" /\ ∃ xs,aK K H p xs)\/(T = "tuple" /\ ∃ o,K.lookup p=some o/\o.cls=.type "tuple" /\ o.dict=none) \/
   (T = "dict" /\ ((∃ aT,H p=some (.cE aT))\/∃ aT,H p=some (.jL aT)))\/(T = "set" /\ ∃ S n,H p=some (.set S n))
 | _=>False
theorem abH {aa:List (Addr × Obj)} {σ:St} {H:ag} {s:Shared} {T:String} {x:V} {v:Value} (J:Inv X aa σ H s) (r:bO x v) (ty:CU X.K T x H) :
  s.TypeIs v T/\∀ a,v=.ref a->∃ cu,s.heap.get? a=some cu/\cu.dict=none:=by
 cases x with
 | str z=>
  obtain ⟨t,rfl⟩:=r;cases (show T = "str" from ty);exact ⟨typeIs_str s z t,fun _ e=>nomatch e⟩
 | int i=>
  obtain ⟨t,rfl⟩:=r;cases (show T = "int" from ty);exact ⟨typeIs_int s i t,fun _ e=>nomatch e⟩
 | ref p=>
  cases r;rcases ty with ⟨rfl,xs,aH⟩ | ⟨rfl,o,aE,ar,hd⟩ | ⟨rfl,aE⟩ | ⟨rfl,S,n,aE⟩
  .obtain ⟨a0,_,pl,_⟩:=J.list aH;refine ⟨pl.isList.typeIs,fun a e=>?_⟩;cases e;obtain ⟨o,n,e,c,hd,_⟩:=pl;exact ⟨o,e,hd⟩
  .refine ⟨⟨o,J.ey p o aE,ar⟩,fun a e=>?_⟩;cases e;exact ⟨o,J.ey _ o aE,hd⟩
  .have z:∃ o,s.heap.get? p=some o/\o.ExactDict:=by
    rcases aE with ⟨aT,aE⟩ | ⟨aT,aE⟩
    .obtain ⟨_,_,_,_,o,_,_,e,ex,_⟩:=J.bl p _ aE;exact ⟨o,e,ex⟩
    .obtain ⟨_,_,_,_,o,_,_,e,ex,_⟩:=J.bl p _ aE;exact ⟨o,e,ex⟩
   obtain ⟨o,e,ex⟩:=z;refine ⟨⟨o,e,ex.1⟩,fun a aG=>?_⟩;cases aG;exact ⟨o,e,ex.2.1⟩
  .obtain ⟨o,_,_,_,e,ex,_⟩:=J.bl p _ aE;refine ⟨⟨o,e,ex.1⟩,fun a aG=>?_⟩;cases aG;exact ⟨o,e,ex.2.1⟩
 | _=>exact jg ty
noncomputable def Gl (K:a6) (T:String) (r:V->List V->ag->bG->Prop) (to:TE) (t:dx):TE:=fun σ H Q=>to σ H fun x H1=>CU K T x H1/\t σ H1 fun xs ay=>r x xs ay Q
variable {o e:Expr} {a4:List Expr} {to:TE} {t:dx} {name:Str} {e9 h_:Pos} {T id:String} {r:V->List V->ag->bG->Prop}
theorem iT (Sr:PlainAttrs T) (slot:Slot T name id) (acG:typeOf (.builtin id)=pure (.type "method_descriptor")) (hm:vd X id r) (a7:br X o to) (aJ:dr X (e :: a4) t)
  (Xk:attributeBase o name X.env (eval o X.env)=eval o X.env:=by rfl)
  (ab2:((backTo h_ (starEach (e :: a4) X.env)).all (fun x=>!x.1) && (backToKw h_ (keywordEach [] X.env)).all (fun x=>x.1.isSome)
   && decide ((e :: a4).length + ([]:List Keyword).length + (if ([]:List Keyword).isEmpty then 0 else 1) < 30))=true:=by rfl)
  (RT:(e9.endLine == h_.line)=true:=by rfl) (aw:starEach (e :: a4) X.env=(false,eval e X.env) :: starEach a4 X.env:=by rfl) (hplain:(backTo h_ (starEach a4 X.env)).any (·.1)=false:=by rfl) :
  br X (.Call (.Attribute o name e9) (e :: a4) [] h_) (Gl X.K T r to t):=by
 intro aa s σ H Q J h;refine wpAny_Call_method_late Xk ab2 RT rfl (bt (a7 aa s σ H _ J h) fun v s1 b_=>?_);obtain ⟨x,H1,aO,bK,ty,bw⟩:=b_;obtain ⟨ae,ak⟩:=abH aO bK ty;refine ⟨T,id,Sr,slot,acG,ae,ak,?_⟩;have fB:=aJ h_ aa s1 σ H1 _ aO bw;rw [aw] at fB ⊢;refine Calls.callWith_builtin (by show (false || (backTo h_ (starEach a4 X.env)).any (·.1))=false;rw [hplain] <;> rfl) (Calls.evalArgs_plain ?_);exact bt fB fun us s2 ⟨vs,ay,bD,cL,b4⟩=>hm aa s2 σ ay x vs v us Q bD bK cL b4
end
noncomputable def Sl (X:aL) (id:String) (r:V->List V->ag->bG->Prop):Prop:=
 ∀ (aa:List (Addr × Obj)) (s:Shared) (σ:St) (H:ag) (x:V) (xs:List V) (v:Value) (us:List Value) (Q:bG),Inv X aa σ H s->bO x v->re xs us->r x xs H Q ->
  wpAny (model X.prog X.w) X.A (call (.builtin id) (v :: us)) (fT X aa σ Q) X.c0 s
theorem re.one:∀ {x:V} {us:List Value},re [x] us->∃ u,us=[u]/\bO x u
 | _,_,.cons r .nil=>⟨_,rfl,r⟩
section
variable {X:aL} {aa:List (Addr × Obj)} {σ:St} {H:ag} {s:Shared} {l b:Addr} {xs ys zs:List V}
theorem Inv.UQ {a0 its':List Value} {n:Nat} {f:Array Value->Array Value} {t':Nat} (J:Inv X aa σ H s) (mn:H l=some (.lst xs))
  (e:s.heap.get? l=some { cls:=.type "list",data:=.seq a0.toArray n }) (hf:f a0.toArray=its'.toArray) (aM:re ys its') (az:ys.length <= sizeLine) :
  Inv X aa σ (upd H l (.lst ys)) { s with heap:=s.heap.update l (qx f),toks:=t' }:=by
 have q:=PySem.IsL.update e f;rw [hf] at q;refine J.write (x:=l) (e:=l) (by rw [mn];exact trivial) (.inl rfl) (fun qH u ab bQ=>(jn s.heap (qx f) (c6 ab)).trans bQ) ⟨_,q⟩ ?_;exact ⟨az,its',_,aM,q⟩
theorem Inv.SO {a0:List Value} {t':Nat} (J:Inv X aa σ H s) (aM:re ys a0) (az:ys.length <= sizeLine) :
  Inv X aa σ (upd H s.heap.objs.size (.lst ys)) { s with heap:=s.heap.push { cls:=.type "list",data:=.seq a0.toArray },toks:=t' }:=
 J.laid (fun _ _ q=>dY _ q) (b2 _) ⟨az,a0,0,aM,gz _ rfl⟩
theorem Inv.fresh (J:Inv X aa σ H s):H s.heap.objs.size=none:=J.bl.fresh (b2 _)
theorem Inv.EL (J:Inv X aa σ H s) (mn:H l=some (.lst xs)):xs.length <= sizeLine/\∃ (a0:List Value) (n:Nat),re xs a0/\xs.length=a0.length/\s.heap.get? l=some { cls:=.type "list",data:=.seq a0.toArray n }:=by
 obtain ⟨z,a0,n,r,e⟩:=J.bl l _ mn;exact ⟨z,a0,n,r,r.length,e⟩
end
section
variable {X:aL}
noncomputable def Dl:V->List V->ag->bG->Prop:=fun x vs H Q=>eC x fun l=>kS vs fun y=>∃ xs,H l=some (.lst xs)/\xs.length < sizeLine/\Q .bH (upd H l (.lst (xs ++ [y])))
theorem ot:Sl X "list.append" Dl:=by
 intro aa s σ H x vs v us Q J bc cf h;obtain ⟨l,rfl,gh⟩:=eC.out h;obtain ⟨y,rfl,xs,mn,az,q⟩:=kS.out gh;cases bc;obtain ⟨u,rfl,eH⟩:=cf.one;obtain ⟨z,a0,n,r,aA,e⟩:=J.EL mn;refine call_meets oA ⟨_,e,rfl⟩ F.entry_list_append (F.args_list_append_2 _ _) (PySem.list_append l a0.toArray n u (by rw [fy];omega)) ⟨e,?_⟩;refine ⟨.bH,_,J.UQ (its':=a0 ++ [u]) mn e (by simp) (r.append (.cons eH .nil)) ?_,rfl,q⟩;rw [dP,Ax];omega
noncomputable def DP:fF:=fun x y H Q=>∃ l b xs zs,x=.ref l/\y=.ref b/\H l=some (.lst xs)/\H b=some (.lst zs)/\xs.length + zs.length <= sizeLine/\∀ p,H p=none->Q (.ref p) (upd H p (.lst (xs ++ zs)))
theorem Y7:fV X (binaryOp .Add) DP:=by
 intro aa s σ H x y v u Q J bc bp h;obtain ⟨l,b,xs,zs,rfl,rfl,mn,gp,az,q⟩:=h;cases bc;cases bp;obtain ⟨z,a0,n,r,aA,e⟩:=J.EL mn;obtain ⟨dy,GN,cP,cL,Pt,aG⟩:=J.EL gp;refine PySem.P.add_list e aG ?_ (by rw [fy,fy];omega);have c9:a0.toArray ++ GN.toArray=(a0 ++ GN).toArray:=by simp
 rw [c9];exact ⟨.ref _,_,J.SO (t':=s.toks) (r.append cL) (by rw [dP];omega),rfl,q _ J.fresh⟩
end
section
variable {prog:Program} {w:World} {A:Around} {E:Value->Shared->Prop} {s:Shared}
end
section
variable {X:aL}
end
section
variable {dF:Type} [DecidableEq dF]
noncomputable def dJ (aT:List (dF × V)) (k:dF):Option V:=(aT.find? fun c8=>decide (c8.1=k)).map (·.2)
noncomputable def gA (aT:List (dF × V)) (k:dF) (v:V):List (dF × V):=
 if (aT.any fun c8=>decide (c8.1=k))=true then aT.map (fun c8=>if c8.1=k then (c8.1,v) else c8) else aT ++ [(k,v)]
theorem Ec {p:dF × V} {r:List (dF × V)} {k:dF} (e:p.1=k):dJ (p :: r) k=some p.2:=by simp [dJ,n9,e]
theorem F8 {p:dF × V} {r:List (dF × V)} {k:dF} (e:¬ p.1=k):dJ (p :: r) k=dJ r k:=by simp [dJ,n9,e]
theorem DB (k:dF):∀ aT:List (dF × V),(aT.any fun c8=>decide (c8.1=k))=(dJ aT k).isSome
 | []=>rfl
 | p :: r=>by
  rw [pw];by_cases e:p.1=k
  .simp only [Ec e,decide_eq_true e,sO,Option.isSome_some]
  .rw [F8 e,decide_eq_false e,m2];exact DB k r
theorem Cp (aT:List (dF × V)) (k:dF) (v:V):(gA aT k v).length <= aT.length + 1:=by
 unfold gA;split
 .rw [a'];omega
 .rw [dP,hb,sm];omega
theorem q1 {aT:List (dF × V)} {k:dF} (v:V) (h:dJ aT k=none):gA aT k v=aT ++ [(k,v)]:=by
 unfold gA;rw [DB,h];exact if_neg (by decide)
theorem hE.G_ {o:Option V} {u:Option Value} (r:hE o u):o.isSome=u.isSome:=by
 cases o with
 | none=>cases u with
  | none=>rfl
  | some _=>exact (show False from r).elim
 | some _=>cases u with
  | none=>exact (show False from r).elim
  | some _=>rfl
theorem fo.val {aT:List (dF × V)} {vs:List (dF × Value)} (r:fo aT vs) (k:dF):hE (dJ aT k) (valueAt vs k):=by
 unfold fo at r
 induction r with
 | nil=>exact jZ
 | @cons p q ps qs h t cj=>
  obtain ⟨ae,ak⟩:=h;by_cases e:p.1=k
  .have bB:q.1=k:=ae.symm.trans e;have b:valueAt (q :: qs) k=some q.2:=by simp [valueAt,n9,bB]
   rw [Ec e,b];exact ak
  .have bB:¬ q.1=k:=fun z=>e (ae.trans z)
   have b:valueAt (q :: qs) k=valueAt qs k:=by simp [valueAt,n9,bB]
   rw [F8 e,b];exact cj
theorem fo.any {aT:List (dF × V)} {vs:List (dF × Value)} (r:fo aT vs) (k:dF):(aT.any fun c8=>decide (c8.1=k))=vs.any fun c8=>decide (c8.1=k):=by
 unfold fo at r
 induction r with
 | nil=>rfl
 | cons h t cj=>rw [pw,pw,cj,h.1]
theorem fo.HR {aT:List (dF × V)} {vs:List (dF × Value)} (r:fo aT vs) (k:dF) {y:V} {u:Value} (bp:bO y u) :
  fo (aT.map fun c8=>if c8.1=k then (c8.1,y) else c8) (vs.map fun c8=>if c8.1=k then (c8.1,u) else c8):=by
 unfold fo at r ⊢
 induction r with
 | nil=>exact .nil
 | @cons p q ps qs h t cj=>
  rw [eJ,eJ];refine .cons ?_ cj;obtain ⟨ae,ak⟩:=h;by_cases e:p.1=k
  .rw [if_pos e,if_pos (ae.symm.trans e)];exact ⟨ae,bp⟩
  .rw [if_neg e,if_neg (fun z=>e (ae.trans z))];exact ⟨ae,ak⟩
theorem fo.put {aT:List (dF × V)} {vs:List (dF × Value)} (r:fo aT vs) (k:dF) {y:V} {u:Value} (bp:bO y u):fo (gA aT k y) (stored vs k u):=by
 unfold gA stored;rw [r.any k];by_cases e:(vs.any fun c8=>decide (c8.1=k))=true
 .rw [if_pos e,if_pos e];exact r.HR k bp
 .rw [if_neg e,if_neg e];exact Rj r ⟨rfl,bp⟩
theorem fo.length {aT:List (dF × V)} {vs:List (dF × Value)} (r:fo aT vs):aT.length=vs.length:=Gs r
end
theorem GE {P:Program} {w:World} {k:Key} {u:Value} (r:bO (eo k) u):(iN P w).is k u=true:=by
 cases k with
 | inl i=>obtain ⟨t,e⟩:=(show ∃ t,u=lq i t from r);subst e;exact YC P w i t
 | inr x=>obtain ⟨t,e⟩:=(show ∃ t,u=qz x t from r);subst e;exact TY P w x t
theorem P7 {P:Program} {w:World}:∀ {b3:List Key} {us:List Value},re (b3.map eo) us->ItemsAre (iN P w) b3 us
 | [],_,r=>by rw [i_] at r;cases r;exact .nil
 | k :: b3,_,r=>by
  rw [eJ] at r;cases r with
  | cons h t=>exact .cons (GE h) (P7 t)
noncomputable abbrev KT (H:ag):List (List Key × V)->List (List Key × Addr × Value)->Prop:=Paired fun p q=>p.1=q.1/\H q.2.1=some (.tup (p.1.map eo))/\bO p.2 q.2.2
theorem KT.val {H:ag} {aT:List (List Key × V)} {xs:List (List Key × Addr × Value)} (r:KT H aT xs) (k:List Key):hE (dJ aT k) ((atKey xs k).map (·.2)):=by
 induction r with
 | nil=>exact jZ
 | @cons p q ps qs h t cj=>
  obtain ⟨ae,_,ak⟩:=h;by_cases e:p.1=k
  .have bB:q.1=k:=ae.symm.trans e;have b:atKey (q :: qs) k=some q.2:=by simp [atKey,n9,bB]
   rw [Ec e,b];exact ak
  .have bB:¬ q.1=k:=fun z=>e (ae.trans z)
   have b:atKey (q :: qs) k=atKey qs k:=by simp [atKey,n9,bB]
   rw [F8 e,b];exact cj
theorem KT.HR {H:ag} {aT:List (List Key × V)} {xs:List (List Key × Addr × Value)} (r:KT H aT xs) (k:List Key) {y:V} {u:Value} (bp:bO y u) :
  KT H (aT.map fun c8=>if c8.1=k then (c8.1,y) else c8) (xs.map (putAt k u)):=by
 induction r with
 | nil=>exact .nil
 | @cons p q ps qs h t cj=>
  rw [eJ,eJ];refine .cons ?_ cj;obtain ⟨ae,ak,a_⟩:=h;unfold putAt;by_cases e:p.1=k
  .rw [if_pos e,if_pos (ae.symm.trans e)];exact ⟨ae,ak,bp⟩
  .rw [if_neg e,if_neg (fun z=>e (ae.trans z))];exact ⟨ae,ak,a_⟩
theorem KT.put {H:ag} {aT:List (List Key × V)} {xs:List (List Key × Addr × Value)} (r:KT H aT xs) (k:List Key) {b:Addr} {y:V} {u:Value} (ab:H b=some (.tup (k.map eo))) (bp:bO y u) :
  KT H (gA aT k y) (storedH xs k b u):=by
 have e:(aT.any fun c8=>decide (c8.1=k))=(atKey xs k).isSome:=by
  rw [DB,(r.val k).G_,abc]
 unfold gA storedH;rw [e];by_cases q:(atKey xs k).isSome=true
 .rw [if_pos q,if_pos q];exact r.HR k bp
 .rw [if_neg q,if_neg q];exact Rj r ⟨rfl,ab,bp⟩
theorem KT.keeps {H I:ag} {aT:List (List Key × V)} {xs:List (List Key × Addr × Value)} (r:KT H aT xs) (ct:∀ b ys,H b=some (.tup ys)->I b=some (.tup ys)):KT I aT xs:=
 Paired.Hf r fun _ _ z=>⟨z.1,ct _ _ z.2.1,z.2.2⟩
section
variable {P:Program} {w:World} {H:ag} {h:Heap} {a:Addr}
theorem JF {u:df} (ok:eI P w H h) (e:kL H a u):ea P w H h a u:=e.ok ok
theorem zx {aT:List (Key × V)} (ok:eI P w H h) (e:kL H a (.cE aT)):aT.length <= sizeLine/\(a == sysModules)=false/\∃ vs,fo aT vs/\h.DictOf (iN P w) a vs:=
 show ea P w H h a (.cE aT) from JF ok e
theorem Rc {aT:List (Key × V)} (ok:eI P w H h) (e:H a=some (.cE aT)):aT.length <= sizeLine/\(a == sysModules)=false/\∃ vs,fo aT vs/\h.DictOf (iN P w) a vs:=zx ok (.inl e)
theorem yT {b3:List Key} (ok:eI P w H h) (e:H a=some (.tup (b3.map eo))):(tupleKind (iN P w)).is h b3 a:=by
 obtain ⟨_,a0,r,o,ae,ak,n,a_⟩:=(show ea P w H h a (.tup (b3.map eo)) from ok a _ e);exact ⟨o,a0.toArray,n,ae,ak,a_,by simpa using P7 r⟩
theorem yK {aT:List (List Key × V)} (ok:eI P w H h) (e:kL H a (.jL aT)):aT.length <= sizeLine/\(a == sysModules)=false /\
  ∃ xs,KT H aT xs/\h.DictOfH (tupleKind (iN P w)) a xs:=by
 obtain ⟨z,y,xs,r,o,a4,dS,ae,ak,a_,cv,dh⟩:=(show ea P w H h a (.jL aT) from JF ok e);refine ⟨z,y,xs,r,o,a4,dS,ae,ak,a_,cv,fun x av=>?_,dh⟩;have all:∀ {l:List (List Key × V)} {m:List (List Key × Addr × Value)},KT H l m->∀ x ∈ m,(tupleKind (iN P w)).is h x.1 x.2.1:=by
  intro l m q
  induction q with
  | nil=>intro x av;exact nomatch av
  | @cons p q ps qs aH t cj=>
   intro x av;rcases dQ.mp av with e | av
   .subst e;exact yT ok (by rw [<- aH.1];exact aH.2.1)
   .exact cj x av
 exact all r x av
theorem Tz {aT:List (List Key × V)} (ok:eI P w H h) (e:H a=some (.jL aT)):aT.length <= sizeLine/\(a == sysModules)=false /\
  ∃ xs,KT H aT xs/\h.DictOfH (tupleKind (iN P w)) a xs:=yK ok (.inl e)
end
noncomputable def gm (H:ag) (a:Addr) (y:V) (r:Option V):Prop:=
 (∃ aT k,kL H a (.cE aT)/\y=eo k/\r=dJ aT k)\/∃ aT k b,kL H a (.jL aT)/\y=.ref b/\H b=some (.tup (k.map eo))/\r=dJ aT k
noncomputable def nW (H:ag) (a:Addr) (y v:V) (I:ag):Prop:=
 (∃ aT k,H a=some (.cE aT)/\y=eo k/\aT.length < sizeLine/\I=upd H a (.cE (gA aT k v))) \/
 ∃ aT k b,H a=some (.jL aT)/\y=.ref b/\H b=some (.tup (k.map eo))/\aT.length < sizeLine/\I=upd H a (.jL (gA aT k v))
theorem gm.k {H:ag} {a:Addr} {aT:List (Key × V)} {k:Key} (e:H a=some (.cE aT)):gm H a (eo k) (dJ aT k):=.inl ⟨aT,k,.inl e,rfl,rfl⟩
theorem nW.k {H:ag} {a:Addr} {aT:List (Key × V)} {k:Key} {v:V} (e:H a=some (.cE aT)) (aA:aT.length < sizeLine):nW H a (eo k) v (upd H a (.cE (gA aT k v))):=.inl ⟨aT,k,e,rfl,aA,rfl⟩
section
variable {X:aL} {aa:List (Addr × Obj)} {σ:St} {H:ag} {s:Shared} {a:Addr} {y v:V} {u r:Value} {o:Option V} {A:Around} {E:Value->Shared->Prop}
theorem Inv.big (J:Inv X aa σ H s):sysModules < s.heap.objs.size:=by
 have h:mainGlobals < s.heap.objs.size:=(J.mod.glob.keeps J.cO).lt;exact afR (by decide) h
theorem YS {Q:Value->Shared->Prop} (bQ:A.units + 1 < cLine) (J:Inv X aa σ H s) (g:gm H a y (some v)) (bp:bO y u) (h:∀ fi s',Inv X aa σ H s'->bO v fi->Q fi s') :
  wpAny (model X.prog X.w) A (getItem (.ref a) u) Q E s:=by
 rcases g with ⟨aT,k,e,lX,l⟩ | ⟨aT,k,b,e,lX,dK,l⟩
 .subst lX;obtain ⟨z,hd,vs,rel,dO⟩:=zx J.bl e;obtain ⟨fi,hw,kr⟩:=hE.some_of (v:=v) (o:=valueAt vs k) (by rw [l];exact rel.val k);exact wpAny_getItem_of (GE bp) dO.mapOf hw (h fi _ (J.tok _) kr)
 .subst lX;cases (show u=dk b from bp);obtain ⟨z,hd,xs,rel,dO⟩:=yK J.bl e;obtain ⟨fi,hw,kr⟩:=hE.some_of (v:=v) (o:=(atKey xs k).map (·.2)) (by rw [l];exact rel.val k);obtain ⟨p,aq,dV⟩:=Ya.mp hw;refine wpAny_getItem_heap (tupleKind_room_in1 bQ) (yT J.bl dK) dO aq ?_;rw [dV];exact h fi _ (J.tok _) kr
theorem Wz {Q:Value->Shared->Prop} (bQ:A.units + 1 < cLine) (J:Inv X aa σ H s) (g:gm H a y o) (bp:bO y u) (h:∀ s',Inv X aa σ H s'->Q (.bool (!o.isSome)) s') :
  wpAny (model X.prog X.w) A (compareOp .NotIn u (.ref a)) Q E s:=by
 rcases g with ⟨aT,k,e,lX,l⟩ | ⟨aT,k,b,e,lX,dK,l⟩
 .subst lX;obtain ⟨z,hd,vs,rel,dO⟩:=zx J.bl e;refine wpAny_notIn_of (GE bp) hd dO.mapOf ?_;rw [<- (rel.val k).G_,<- l];exact h _ (J.tok _)
 .subst lX;cases (show u=dk b from bp);obtain ⟨z,hd,xs,rel,dO⟩:=yK J.bl e;refine wpAny_notIn_heap (tupleKind_room_in1 bQ) (yT J.bl dK) hd dO ?_;have q:=(rel.val k).G_;rw [abc] at q;rw [<- q,<- l];exact h _ (J.tok _)
theorem Gi {h':Heap} {t':Nat} {cu:df} (J:Inv X aa σ H s) (e8:mP (H a)) (aw:z2 a s.heap h') (he:∃ q,h'.get? a=some q) (new:ea X.prog X.w (upd H a cu) h' a cu) :
  Inv X aa σ (upd H a cu) { s with heap:=h',toks:=t' }:=
 J.write (x:=a) (e:=a) e8 (.inl rfl) (fun b q ab z=>(aw.2 b ab).trans z) he new
theorem LV {P:Program} {w:World} {I:ag} {h':Heap} {aT:List (Key × V)} {vs:List (Key × Value)} (z:aT.length <= sizeLine) (hd:(a == sysModules)=false) (rel:fo aT vs) (dO:h'.DictOf (iN P w) a vs) :
  ea P w I h' a (.cE aT):=⟨z,hd,vs,rel,dO⟩
theorem Wg {I:ag} {Q:Unit->Shared->Prop} (bQ:A.units + 1 < cLine) (J:Inv X aa σ H s) (g:nW H a y v I) (bp:bO y u) (cf:bO v r) (h:∀ s',Inv X aa σ I s'->Q () s') :
  wpAny (model X.prog X.w) A (setItem (.ref a) u r) Q E s:=by
 rcases g with ⟨aT,k,e,lX,l,FO⟩ | ⟨aT,k,b,e,lX,dK,l,FO⟩
 .subst lX FO;obtain ⟨z,hd,vs,rel,dO⟩:=Rc J.bl e;have az:vs.length <= sizeLine:=by rw [<- rel.length];exact z
  have aA:(gA aT k v).length <= sizeLine:=by have:=Cp aT k v;omega
  refine wpAny_setItem_pairs (hsz:=az) (GE bp) dO fun h' qS aw=>h _ ?_
  have he:∃ q,h'.get? a=some q:=let ⟨q,_,_,aH,_⟩:=qS;⟨q,aH⟩;exact Gi J (by rw [e];exact jZ) aw he (LV aA hd (rel.put k cf) qS)
 .subst lX FO;cases (show u=dk b from bp);obtain ⟨z,hd,xs,rel,dO⟩:=Tz J.bl e;have az:xs.length <= sizeLine:=by rw [<- Gs rel];exact z
  have aA:(gA aT k v).length <= sizeLine:=by have:=Cp aT k v;omega
  refine wpAny_setItem_heap (hsz:=az) (tupleKind_room_in1 bQ) (yT J.bl dK) dO fun h' qS aw=>h _ ?_
  obtain ⟨q,a4,dS,aH,ak,a_,cv,_,dh⟩:=qS;refine Gi J (by rw [e];exact jZ) aw ⟨q,aH⟩ ⟨aA,hd,_,(rel.put k dK cf).keeps fun c ys o'=>?_,q,a4,dS,aH,ak,a_,cv,dh⟩;rw [aW (d0 o' e (fun z=>nomatch z))];exact o'
end
section
variable {X:aL} {aa:List (Addr × Obj)} {σ:St} {H:ag} {s:Shared} {a:Addr} {aT:List (Key × V)} {k:Key} {u:Value} {A:Around} {E:Value->Shared->Prop}
end
noncomputable def Qf (i:Expr):Prop:=∀ dA iV,subscripted i false dA iV=operate [dA,iV] (getItem dA iV)
theorem Um {prog:Program} {w:World} {A:Around} {E:Value->Shared->Prop} {s:Shared} {env:Env} {value slice:Expr} {pos:Pos} {T id:String} {Q:Value->Shared->Prop}
  (aA:typeLookup (.type T) "__getitem__"=pure (some (.builtin id))) (aw:Qf slice)
  (h:wpAny (model prog w) A (eval value env) (fun o cQ=>wpAny (model prog w) A (eval slice env) (fun i dt=>dt.TypeIs o T/\wpAny (model prog w) A (getItem o i) Q E dt) E cQ) E s) :
  wpAny (model prog w) A (eval (.Subscript value slice pos) env) Q E s:=by
 refine Subscript_ (wpAny_mono h (fun o cQ h₁=>wpAny_mono h₁ (fun i dt t_=>?_) fun _ _ x=>x) fun _ _ x=>x);obtain ⟨dN,t_⟩:=t_;unfold subscriptTail;refine wpAny_bind ?_;rw [getitemInPython_of_ne dN.not_modules];refine wpAny_bind (wpAny_specialOf dN aA ?_);have fin:wpAny (model prog w) A (subscripted slice false o i) (fun r k9=>wpAny (model prog w) A (letTemporaryGo value o r >>= fun _=>pure r) Q E k9) E dt:=by
  rw [aw o i];exact wpAny_operating (wpAny_mono t_ (fun r k9 xn=>wpAny_bind (wpAny_letTemporaryGo (wpAny_pure xn))) fun _ _ x=>x)
 first
  | exact wpAny_pure (wpAny_bind fin)
  | exact wpAny_bind (wpAny_pure (wpAny_bind fin))
  | exact wpAny_bind fin
theorem XW {X:aL} {aa:List (Addr × Obj)} {σ:St} {H:ag} {s:Shared} {a:Addr} {y:V} {o:Option V} (J:Inv X aa σ H s) (g:gm H a y o):s.TypeIs (.ref a) "dict" := by
 rcases g with ⟨aT,k,e,_,_⟩ | ⟨aT,k,b,e,_,_,_⟩
 .obtain ⟨_,_,vs,_,dO⟩:=zx J.bl e;exact dO.typeIs
 .obtain ⟨_,_,xs,_,dO⟩:=yK J.bl e;exact dO.typeIs
noncomputable def HB (eF ty:TE):TE:=fun σ H Q=>eF σ H fun x H1=>ty σ H1 fun y ay=>eC x fun a=>∃ v,gm ay a y (some v)/\Q v ay
noncomputable def Ca (ty eF:TE):TE:=fun σ H Q=>ty σ H fun y H1=>eF σ H1 fun x ay=>eC x fun a=>∃ o,gm ay a y o/\Q (.bq (!o.isSome)) ay
noncomputable def ES (eF ty dH:TE):cV:=fun D σ H=>dH σ H fun v H1=>eF σ H1 fun x ay=>ty σ ay fun y bA=>eC x fun a=>∃ bY,nW bA a y v bY/\D.b5 σ bY
section
variable {X:aL} {o i e value:Expr} {pos pos' uV:Pos} {eF ty dH:TE}
theorem kN (bQ:X.A.units + 1 < cLine) (a7:br X o eF) (ai:br X i ty) (aw:Qf i):br X (.Subscript o i pos) (HB eF ty):=by
 intro aa s σ H Q J h;refine Um PySem.F.slot_dict_getitem.lookup aw (bt (a7 aa s σ H _ J h) fun u s1 bZ=>d4 bZ fun x H1 aO bc bw=>bt (ai aa s1 σ H1 _ aO bw) fun iV s2 bZ=>d4 bZ fun y ay bD bp gr=>?_);obtain ⟨a,ex,v,g,b4⟩:=eC.out gr;subst ex;obtain rfl:u=dk a:=bc;exact ⟨XW bD g,YS bQ bD g bp fun fi s3 eb kr=>⟨v,ay,eb,kr,b4⟩⟩
theorem L0 (bQ:X.A.units + 1 < cLine) (ai:br X i ty) (a7:br X o eF):Kj X .NotIn i o (Ca ty eF):=by
 intro aa s σ H Q J h;refine bt (ai aa s σ H _ J h) fun iV s1 bZ=>d4 bZ fun y H1 aO bp bw=>bt (a7 aa s1 σ H1 _ aO bw) fun u s2 bZ=>d4 bZ fun x ay bD bc gr=>?_
 obtain ⟨a,ex,dA,g,b4⟩:=eC.out gr;subst ex;obtain rfl:u=dk a:=bc;exact Wz bQ bD g bp fun s3 eb=>⟨.bq (!dA.isSome),ay,eb,rfl,b4⟩
theorem vm (bQ:X.A.units + 1 < cLine) (a7:br X o eF) (ai:br X i ty) (aM:br X value dH) (aw:swapsWith value (some (.Subscript o i pos')) pos.line X.env=pure false) :
  gc X (.Assign [.Subscript o i pos'] value pos) (ES eF ty dH):=by
 intro aa s σ H D J h;refine wpAny_Assign_Subscript (bt (aM aa s σ H _ J h) fun r s1 bZ=>d4 bZ fun v H1 aO cf bw=>bt (a7 aa s1 σ H1 _ aO bw) fun u s2 bZ=>d4 bZ fun x ay bD bc b4=>bt (ai aa s2 σ ay _ bD b4) fun iV s3 bZ=>d4 bZ fun y bA eb bp gr=>?_) aw;obtain ⟨a,ex,bY,g,d9⟩:=eC.out gr;subst ex;obtain rfl:u=dk a:=bc;exact Wg bQ eb g bp cf fun s4 iM=>⟨σ,bY,iM,d9⟩
end
theorem Mq {P:Program} {w:World} {H:ag} (h:Heap) (ab:sysModules < h.objs.size):ea P w H (h.push { cls:=.type "dict",data:=.dict #[] }) h.objs.size (.cE []):=
 ⟨fv _,beq_eq_false_iff_ne.mpr (c6 (ft ab)),[],.nil,Heap.DictOf.new h⟩
noncomputable def FX:TE:=fun _ H Q=>∀ p,H p=none->Q (.ref p) (upd H p (.cE []))
section
variable {X:aL} {pos:Pos}
theorem wg:br X (.Dict [] [] pos) FX:=fun aa s σ H Q J h=>
 wpAny_Dict_empty ⟨.ref s.heap.objs.size,_,J.laid (a:=s.heap.objs.size) (o:=.cE []) (t':=s.toks) (fun _ _ q=>dY _ q) (b2 _) (Mq s.heap J.big),rfl,h _ (J.bl.fresh (b2 _))⟩
end
noncomputable def vP:List (TE × TE)->St->ag->(List (V × V)->ag->Prop)->Prop
 | [],_,H,Q=>Q [] H
 | (cG,dH) :: r,σ,H,Q=>cG σ H fun x H1=>dH σ H1 fun y ay=>vP r σ ay fun ps bA=>Q ((x,y) :: ps) bA
noncomputable abbrev ON:List (V × V)->List (Value × Value)->Prop:=Paired fun p q=>bO p.1 q.1/\bO p.2 q.2
noncomputable def AQ (X:aL) (pos:Pos) (keys:List (Option Expr)) (values:List Expr) (nf:List (TE × TE)):Prop:=
 ∀ (aa:List (Addr × Obj)) (s:Shared) (σ:St) (H:ag) (Q:List (V × V)->ag->Prop),Inv X aa σ H s->vP nf σ H Q ->
  wpAny (model X.prog X.w) X.A (evalPairs (pairTrees keys values X.env pos)) (fun vs s'=>∃ ps I,Inv X aa σ I s'/\ON ps vs/\Q ps I) X.c0 s
theorem Mh {X:aL} {pos:Pos}:AQ X pos [] [] []:=fun aa s σ H Q J h=>pairTrees_nil_walk ⟨[],H,J,.nil,h⟩
theorem qq {X:aL} {pos:Pos} {k v:Expr} {b3:List (Option Expr)} {vs:List Expr} {cG dH:TE} {nf:List (TE × TE)} (aE:br X k cG) (aM:br X v dH) (au:AQ X pos b3 vs nf) :
  AQ X pos (some k :: b3) (v :: vs) ((cG,dH) :: nf):=fun aa s σ H Q J h=>
 pairTrees_cons_walk (bt (aE aa s σ H _ J h) fun u s1 bZ=>d4 bZ fun x H1 aO bc bw=>bt (aM aa s1 σ H1 _ aO bw) fun d1 s2 ⟨y,ay,bD,bp,b4⟩=>
  bt (au aa s2 σ ay _ bD b4) fun ws s3 ⟨ps,bA,eb,rel,d9⟩=>⟨(x,y) :: ps,bA,eb,.cons ⟨bc,bp⟩ rel,d9⟩)
noncomputable def lI (aT more:List (Key × V)):List (Key × V):=more.foldl (fun acc c8=>gA acc c8.1 c8.2) aT
theorem fo.merge:∀ {more:List (Key × V)} {rs:List (Key × Value)} {aT:List (Key × V)} {vs:List (Key × Value)},fo more rs->fo aT vs->fo (lI aT more) (merged vs rs):=by
 intro more rs aT vs r;unfold fo at r
 induction r generalizing aT vs with
 | nil=>intro q;exact q
 | @cons p q ps qs h t cj=>
  intro ez;have e:fo (gA aT p.1 p.2) (stored vs q.1 q.2):=by
   have:=ez.put p.1 h.2;rw [<- h.1];exact this
  exact cj e
theorem Mj:∀ (more aT:List (Key × V)),(lI aT more).length <= aT.length + more.length
 | [],aT=>by show aT.length <= aT.length + 0;omega
 | p :: r,aT=>by
  have ae:=Mj r (gA aT p.1 p.2);have ak:=Cp aT p.1 p.2;show (lI (gA aT p.1 p.2) r).length <= _;rw [hb];omega
theorem KN {P:Program} {w:World}:∀ {aT:List (Key × V)} {ws:List (Value × Value)},ON (aT.map fun c8=>(eo c8.1,c8.2)) ws->∃ rs,Carries (iN P w) ws rs/\fo aT rs
 | [],_,r=>by rw [i_] at r;cases r;exact ⟨[],jZ,.nil⟩
 | p :: aT,_,r=>by
  rw [eJ] at r;cases r with
  | @cons a b as bs h t=>
   obtain ⟨rs,c,q⟩:=KN (P:=P) (w:=w) t;obtain ⟨iA,gO⟩:=b;exact ⟨(p.1,gO) :: rs,⟨GE h.1,rfl,c⟩,.cons ⟨rfl,h.2⟩ q⟩
noncomputable def H7 (nf:List (TE × TE)):TE:=fun σ H Q=>∀ p,H p=none->vP nf σ (upd H p (.cE [])) fun ps ay=>ay p=some (.cE [])/\∃ aT:List (Key × V),ps=aT.map (fun c8=>(eo c8.1,c8.2))/\aT.length <= 15/\Q (.ref p) (upd ay p (.cE (lI [] aT)))
theorem MR {X:aL} {pos:Pos} {keys:List (Option Expr)} {values:List Expr} {nf:List (TE × TE)} (h:AQ X pos keys values nf) (ko:keys.all (·.isSome)=true) (aA:keys.length=values.length) (h0:keys ≠ [])
  (aaQ:keys.length <= 15):br X (.Dict keys values pos) (H7 nf):=by
 intro aa s σ H Q J q;have aF:=J.bl.fresh (b2 s.heap.objs.size);have aO:=J.laid (a:=s.heap.objs.size) (o:=.cE []) (h':=s.heap.push { cls:=.type "dict",data:=.dict #[] }) (t':=s.toks) (fun _ _ q=>dY _ q) (b2 _) (Mq s.heap J.big);refine wpAny_Dict_walk (knd:=iN X.prog X.w) ko aA h0 aaQ (bt (h aa _ σ _ _ aO (q _ aF)) fun ws s2 b_=>?_);obtain ⟨ps,ay,bD,rel,e,aT,dS,lk,b4⟩:=b_;subst dS;obtain ⟨rs,c,W_⟩:=KN (P:=X.prog) (w:=X.w) rel;obtain ⟨z,hd,aiv,ez,dO⟩:=Rc bD.bl e;cases ez;refine ⟨rs,c,dO,fun h' qS aw=>⟨.ref s.heap.objs.size,_,?_,rfl,b4⟩⟩;have az:(lI [] aT).length <= sizeLine:=by
  have ae:=Mj aT [];rw [sm] at ae;rw [sizeLine_eq];omega
 have he:∃ q,h'.get? s.heap.objs.size=some q:=let ⟨q,_,_,aH,_⟩:=qS;⟨q,aH⟩;exact Gi bD (by rw [e];exact jZ) aw he (LV az hd (W_.merge .nil) qS)
structure aix (X:aL) (o:Expr) (m:Str) (e9:Pos) (e:Expr) (h_:Pos):Prop where
 base:attributeBase o m X.env (eval o X.env)=eval o X.env
 YE:((backTo h_ (starEach [e] X.env)).all (fun x=>!x.1) && (backToKw h_ (keywordEach [] X.env)).all (fun x=>x.1.isSome)
  && decide (([e]:List Expr).length + ([]:List Keyword).length + (if ([]:List Keyword).isEmpty then 0 else 1) < 30))=true
 line:(e9.endLine == h_.line)=true
 trees:backTo h_ (starEach [e] X.env)=[(false,eval e X.env)]
structure M2 (X:aL) (o:Expr) (m:Str) (e9:Pos) (e f:Expr) (h_:Pos):Prop where
 base:attributeBase o m X.env (eval o X.env)=eval o X.env
 YE:((backTo h_ (starEach [e,f] X.env)).all (fun x=>!x.1) && (backToKw h_ (keywordEach [] X.env)).all (fun x=>x.1.isSome)
  && decide (([e,f]:List Expr).length + ([]:List Keyword).length + (if ([]:List Keyword).isEmpty then 0 else 1) < 30))=true
 line:(e9.endLine == h_.line)=true
 trees:backTo h_ (starEach [e,f] X.env)=[(false,eval e X.env),(false,eval f X.env)]
section
variable {X:aL} {aa:List (Addr × Obj)} {σ:St} {H:ag} {s:Shared} {a:Addr} {y d:V} {u r:Value} {o:Option V} {A:Around} {E:Value->Shared->Prop}
end
section
variable {X:aL} {o e f:Expr} {e9 h_:Pos} {eF ty ahe:TE}
end
section
variable {X:aL} {aa:List (Addr × Obj)} {σ:St} {H:ag} {s:Shared} {a:Addr} {aT:List (Key × V)} {A:Around} {E:Value->Shared->Prop}
end
section
variable {X:aL} {aa:List (Addr × Obj)} {σ:St} {H:ag} {s:Shared} {a:Addr} {y:V} {u:Value} {A:Around} {E:Value->Shared->Prop}
end
end L2
namespace PJ
open PySem PySem.W PySem.Calls PyProof.Rows
theorem ut {P:Params} {h:Heap}:∀ (ns:List Int) (vs:List Value),WellAll P h vs (ns.map Vy)->IntsAre vs ns:=by
 intro ns
 induction ns with
 | nil=>
  intro vs w;rw [i_] at w;cases w;exact .nil
 | cons n ns cj=>
  intro vs w;rw [eJ] at w;cases w with
  | cons a b=>
   cases a;exact .cons _ _ (cj _ b)
theorem Un {l:OpenLaw} {n:Nat} (aF:l.most=some n) {P:Params} {h:Heap} {args:List WData} {C5:List Value}
  (xM:l.row.toRowW.claim.pre args=true) (iC:WellAll P h C5 args) :
  ∃ a vs ns,C5=[dk a]/\args=[WData.list (ns.map Vy)]/\h.get? a=some { cls:=.type "list",data:=.seq vs.toArray }/\IntsAre vs ns/\ns.length <= n:=by
 have aeF:WShape.hasAll [] args [.list .int]=true:=(pre_splitW xM).1;have ar:l.pre.holds [] { args:=args }=true:=(pre_splitW xM).2;obtain ⟨d,r,rfl,ae,ak⟩:=hasAllW_cons aeF;obtain rfl:=hasAllW_nil ak;obtain ⟨xs,rfl,a_⟩:=hasW_list ae;obtain ⟨ns,rfl⟩:=items_int a_;have hlen:ns.length <= n:=by
  unfold OpenLaw.pre at ar;have cv:(WTm.not (.lt (.lit (.int (n:Int))) (.len (.arg 0)))).holds [] { args:=[.list (ns.map .int)] }=true:=by
   have cv:=(holds_andW ar).1;rw [aF] at cv;exact cv
  have dh:=condW_of cv (w_not (w_lt w_lit (w_len_list (w_arg rfl))));rw [a'] at dh;refine Nat.le_of_not_lt fun q=>?_
  have d2:(n:Int) < ((ns.length:Nat):Int):=by omega
  first
   | (rw [decide_eq_true d2] at dh;exact absurd dh (by decide))
   | (simp at dh;omega)
 cases iC with
 | cons cZ d1=>
  cases d1;cases cZ with
  | list a7 ko=>exact ⟨_,_,ns,rfl,rfl,a7,ut ns _ ko,hlen⟩
theorem Vu (l:OpenLaw) (args:List WData):l.row.toRowW.claim.post args (.bool true) args=true:=
 postW_of (r:=l.row.toRowW) (X:=(true == true))
  (show afp [] (.bool true) .bool=true by first | rfl | decide | simp [afp,WShape.arms,WShape.armsAll])
  (show (WTm.eq .res (.lit (.bool true))).value [] { args:=args,res:=some (.bool true),after:=args }=some (.bool (true == true)) from w_eq_bool (w_res rfl) w_lit) rfl
theorem UX {l:OpenLaw} {n:Nat} {q:Program} {loose:List Str} {r1:(Str->Option Value)->Heap->Prop} {oP:World->Heap->Prop} {d:DefRec}
  (aF:l.most=some n) (vl:d.params.defaults=[])
  (call:∀ (w:World) (eX cQ:Shared) (ao iU:Str->Option Value) (iq:Addr) (o:Obj) (pm cd doc:Value) (a:Addr) (vs:List Value) (ns:List Int),
   Ground q loose [] r1 w eX ao iU cQ.heap->oP w cQ.heap ->
   cQ.heap.get? iq=some o->o.data=.func (docDef d.name d.params d.body d.scope pm cd doc)->cQ.heap.CodeRec cd d.name->ao d.name=some (.ref iq) ->
   cQ.heap.get? a=some { cls:=.type "list",data:=.seq vs.toArray }->IntsAre vs ns->ns.length <= n->cQ.gens=#[] ->
   codeAny (model l.prog w) callerA (.call (.ref iq) ⟨[.ref a],[]⟩) (fun r s'=>r=.ok (.ret (.bool true))/\OldK cQ.heap s'.heap/\s'.os=cQ.os/\AllBare s'.gens) cQ) :
  WalkO q loose r1 oP l.row.toRowW d [] (fun f vs=>Q8 f vs):=by
 intro w eX cQ ao iU G Y iq o pm cd doc y9 eo a7 hd kB bj ub a3 args C5 as xM ahf YO iC ahZ;obtain rfl:y9=.none:=Dflts.none bj vl;obtain rfl:eo=.none:=Dflts.noKw bj;obtain ⟨a,vs,ns,rfl,rfl,Hm,hints,hlen⟩:=Un aF xM iC;refine enter_call (codeAny_mono (call w eX cQ ao iU iq o pm cd doc a vs ns G Y a7 (fd_plain hd) kB ub Hm hints hlen a3) fun r s' aH=>?_);obtain ⟨rfl,ak,a_,cv⟩:=aH;exact ⟨.inl ⟨.bool true,.bool true,[],rfl,fun _=>rfl,.bool true,Vu l _,fun _=>⟨aiZ,fun _ hm=>(nomatch hm)⟩⟩,ak,a_,cv⟩
section
variable {prog:Program} {w:World} {A:Around} {E:Value->Shared->Prop} {s:Shared} {K:Frag}
end
end PJ
namespace L2
open PySem PySem.Spec PyProof.Rows
theorem N':∀ {vs:List Value} {ns:List Int},IntsAre vs ns->re (ns.map V.int) vs
 | _,_,.nil=>.nil
 | _,_,.cons n t h=>.cons ⟨t,rfl⟩ (N' h)
noncomputable def tP (H:ag):Prop:=∀ b,H b=none\/∃ o xs,H b=some (.i3 o (.lst xs))
theorem ad8 {P:Program} {w:World} {K:a6} {ao iU:Str->Option Value} {CX:fR} {k:Nat} {iq a:Addr} {fd:FuncData} {x:Str} {sp:bo} {cQ:Shared} {vs:List Value} {ns:List Int}
  (eR:K.In cQ.heap) (EW:cQ.heap.Ns mainGlobals ao) (ab:cQ.heap.Ns builtinsNs iU) (Sh:∀ x:Str,x ≠ "__name__" -> iU x=bootBuiltins x) (TX:cQ.heap.NoLimit) (a3:cQ.gens=#[])
  (aJ:cQ.heap.get? a=some { cls:=.type "list",data:=.seq vs.toArray }) (ai:IntsAre vs ns) (aA:ns.length <= sizeLine) (au:es k callerA)
  (F:∀ base:Heap,K.In base->base.Ns mainGlobals ao->bg P w K ao base CX k iq fd [x] sp) (afQ:∀ (s:Shared) (u:Value),BindsTo s fd ⟨[u],[]⟩ [(x,u)])
  (k':∀ H:ag,tP H->aK K H a (ns.map V.int)->sp [.ref a] H (fun v _=>v=.bq true) fun _ _ _=>False)
  (vQ:∀ H e s',CX [] H cQ (fun _ _ _=>False) e s'->False) :
  codeAny (model P w) callerA (.call (.ref iq) ⟨[.ref a],[]⟩) (fun r s'=>r=.ok (.ret (.bool true))/\OldK cQ.heap s'.heap/\s'.os=cQ.os/\AllBare s'.gens) cQ:=by
 have cf:=N' ai;have XO:=ai.length;have core:∀ H:ag,tP H->aK K H a (ns.map V.int)->eI P w H cQ.heap->(∀ b,H b ≠ none->b=a)->(H a ≠ none->K.lookup a=none) ->
   codeAny (model P w) callerA (.call (.ref iq) ⟨[.ref a],[]⟩) (fun r s'=>r=.ok (.ret (.bool true))/\OldK cQ.heap s'.heap/\s'.os=cQ.os/\AllBare s'.gens) cQ:=by
  intro H n5 ej bl fB eV;have MD:∀ {b:Addr} {o:Obj},cQ.heap.get? b=some o->H b=none->(n0 cQ.heap H).get? b=some o:=fun e n=>Y6 e n
  have wm:∀ {b:Addr} {o:Obj} {a4:Array DictEntry} {dS:Nat},cQ.heap.get? b=some o->o.data=.dict a4 dS->H b=none:=fun {b o a4 dS} e d=>by
   cases q:H b with
   | none=>rfl
   | some u=>
    have bB:b=a:=fB b (by rw [q];simp);subst bB;rw [aJ] at e;cases e;have d':Data.seq vs.toArray _=Data.dict a4 dS:=d;cases d'
  have z0:∀ {b:Addr} {m:Str->Option Value},cQ.heap.Ns b m->(n0 cQ.heap H).Ns b m:=fun {b m} ⟨o,a4,dS,e,d,r⟩=>⟨o,a4,dS,MD e (wm e d),d,r⟩
  have I_:K.In (n0 cQ.heap H):=fun b o e=>MD (eR b o e) (by
   cases q:H b with
   | none=>rfl
   | some u=>
    have bB:b=a:=fB b (by rw [q];simp);subst bB;rw [eV (by rw [q];simp)] at e;cases e)
  have agK:Mod K ao (n0 cQ.heap H):=⟨I_,z0 EW,⟨iU,z0 ab,Sh⟩,let ⟨aah,ae,ak⟩:=TX;⟨aah,z0 ae,ak⟩⟩;have eZ:ny P w K ao (n0 cQ.heap H) callerA [] cQ H:=⟨rfl,agK,fun b o e=>TO e,zw (ads _ _),trivial,fun b ab=>absurd (show b ∈ ([]:List Addr) from ab) (by simp),bl,.of_eq a3⟩;refine codeAny_mono ((F _ I_ (z0 EW)).run callerA [] cQ H ⟨[.ref a],[]⟩ [.ref a] [.ref a] _ _ au eZ (afQ cQ (.ref a)) (.cons rfl .nil) (k' H n5 ej)) fun r s' h=>?_
  cases r with
  | error e=>exact (vQ H e s' h).elim
  | ok dM=>
   cases dM with
   | next=>exact jg h
   | brk=>exact jg h
   | cont=>exact jg h
   | ret u=>
    obtain ⟨v,I,os,bare,un,afG,fe,q⟩:=h;have d2:v=.bq true:=q;subst d2;obtain rfl:u=kC true:=fe;refine ⟨rfl,OldK.of_keep fun b o e=>?_,os,bare⟩;cases q:H b with
    | none=>exact un.keep b o e q (by intro z;exact absurd (show b ∈ ([]:List Addr) from z) (by simp)) (by simp)
    | some u=>
     rcases n5 b with z | ⟨cu,xs,z⟩
     .rw [q] at z;cases z
     .have dy:=un.mm b cu _ z;obtain ⟨ax,_⟩:=bl b _ z;obtain ⟨aG,_⟩:=afG b _ dy;rw [e] at ax;cases ax;exact aG
 cases aE:K.lookup a with
 | some o=>
  have e:=eR a o aE;rw [aJ] at e;cases e;refine core (fun _=>none) (fun _=>.inl rfl) (.inr ⟨_,vs.toArray,_,aE,rfl,rfl,rfl,by rw [fy,XO];exact aA,by simpa using cf⟩) (fun b u z=>by have z':(none:Option df)=some u:=z;cases z') (fun b z=>absurd rfl z) fun z=>absurd rfl z
 | none=>
  refine core (fun b=>if b=a then some (.i3 { cls:=.type "list",data:=.seq vs.toArray } (.lst (ns.map V.int))) else none) (fun b=>?_) (.inl (.inr ⟨{ cls:=.type "list",data:=.seq vs.toArray },if_pos rfl⟩)) (fun b u z=>?_) (fun b z=>?_) fun _=>aE
  .by_cases ab:b=a
   .exact .inr ⟨_,_,if_pos ab⟩
   .exact .inl (if_neg ab)
  .by_cases ab:b=a
   .have z':=(if_pos ab).symm.trans z;cases z';subst ab;exact ⟨aJ,by rw [a'];exact aA,vs,_,cf,aJ⟩
   .have z':=(if_neg ab).symm.trans z;cases z'
  .by_cases ab:b=a
   .exact ab
   .exact absurd (if_neg ab) z
noncomputable abbrev PH {K:a6} {h:Heap} (_:K.In h):a6:=K
theorem dL {l:Xu} {n k:Nat} {q:Program} {loose:List Str} {r1:(Str->Option Value)->Heap->Prop} {oP:World->Heap->Prop} {d:DefRec} {K:Params->a6} {CX:World->fR} {sp:World->bo} {x:Str}
  (aF:l.most=some n) (o2:n <= sizeLine) (vl:d.params.defaults=[]) (au:es k callerA)
  (Cr:∀ (w:World) (h:Heap),oP w h->(K w.params).In h)
  (F:∀ (w:World) (ao:Str->Option Value) (iq:Addr) (h:Heap),(K w.params).In h->h.Ns mainGlobals ao->ao d.name=some (.ref iq) ->
   ∃ fd:FuncData,(∀ (s:Shared) (u:Value),BindsTo s fd ⟨[u],[]⟩ [(x,u)]) /\
    ∀ base:Heap,(K w.params).In base->base.Ns mainGlobals ao->bg l.prog w (K w.params) ao base (CX w) k iq fd [x] (sp w))
  (k':∀ (w:World) (H:ag) (a:Addr) (ns:List Int),ns.length <= n->tP H->aK (K w.params) H a (ns.map V.int)->sp w [.ref a] H (fun v _=>v=.bq true) fun _ _ _=>False)
  (vQ:∀ (w:World) (H:ag) (s:Shared) (e:Value) (s':Shared),CX w [] H s (fun _ _ _=>False) e s'->False) :
  Zj q loose r1 oP l.row.toRowW d [] (fun f vs=>Q8 f vs):=by
 refine PJ.UX aF vl fun w eX cQ ao iU iq o pm cd doc a vs ns G Y a7 hd kB ub Hm hints hlen a3=>?_
 have eR:=Cr w _ Y;obtain ⟨fd,ab,aez⟩:=F w ao iq _ eR G.T.g ub;exact ad8 eR G.T.g G.T.b G.T.builtins G.T.nolimit a3 Hm hints (c1 hlen o2) au aez ab (fun H n5 ej=>k' w H a ns hlen n5 ej) fun H e s'=>vQ w H cQ e s'
theorem T1 {l:Xu} {n k:Nat} {q:Program} {loose:List Str} {r1:(Str->Option Value)->Heap->Prop} {oP:World->Heap->Prop} {d:DefRec} {K:Params->a6} {CX:fR} {sp:a6->bo} {x:Str}
  (aF:l.most=some n) (o2:n <= sizeLine) (vl:d.params.defaults=[]) (au:es k callerA)
  (Cr:∀ (w:World) (h:Heap),oP w h->(K w.params).In h)
  (F:∀ (w:World) (ao:Str->Option Value) (iq:Addr) (h:Heap),(K w.params).In h->h.Ns mainGlobals ao->ao d.name=some (.ref iq) ->
   ∃ fd:FuncData,(∀ (s:Shared) (u:Value),BindsTo s fd ⟨[u],[]⟩ [(x,u)]) /\
    ∀ base:Heap,(K w.params).In base->base.Ns mainGlobals ao->bg l.prog w (K w.params) ao base CX k iq fd [x] (sp (K w.params)))
  (k':∀ (K:a6) (H:ag) (a:Addr) (ns:List Int),ns.length <= n->tP H->aK K H a (ns.map V.int)->sp K [.ref a] H (fun v _=>v=.bq true) fun _ _ _=>False)
  (vQ:∀ (H:ag) (s:Shared) (e:Value) (s':Shared),CX [] H s (fun _ _ _=>False) e s'->False) :
  Zj q loose r1 oP l.row.toRowW d [] (fun f vs=>Q8 f vs):=
 dL (K:=K) (CX:=fun _=>CX) (sp:=fun w=>sp (K w.params)) aF o2 vl au Cr F (fun w H a ns ae ak a_=>k' (K w.params) H a ns ae ak a_) fun _ H s e s'=>vQ H s e s'
noncomputable def fm (s:Stmt) (j:Nat):Stmt:=match s with
 | .ClassDef _ _ _ body _ _ _ _ _ _ _=>body.getD j (.Pass ⟨0,0,0,0⟩)
 | _=>.Pass ⟨0,0,0,0⟩
noncomputable def Af (s:Stmt):Arguments:=match s with
 | .FunctionDef _ a _ _ _ _ _ _ _ _=>a
 | _=>{ posonlyargs:=[],args:=[],vararg:=none,kwonlyargs:=[],kw_defaults:=[],kwarg:=none,defaults:=[] }
noncomputable def tn (s:Stmt):List Stmt:=match s with
 | .FunctionDef _ _ b _ _ _ _ _ _ _=>b
 | _=>[]
noncomputable def bz (s:Stmt):Scope:=match s with
 | .FunctionDef _ _ _ _ _ _ sc _ _ _=>sc
 | _=>{ kind:=.function,names:=[],isGenerator:=false,isCoroutine:=false }
noncomputable abbrev cH:fR:=fun _ _ _ _ _ _=>False
noncomputable abbrev tW:cD:=fun _ _ _=>False
theorem c5 {X:aL}:m3 cH X tW:=fun _ _ _ _ _ _ _ h=>h.elim
structure bU (K:a6) (x qual:Str) (st:Stmt) (f:Addr) (fd:FuncData):Prop where
 ex:∃ (lb:Value) (od:Option Addr) (eo doc pm:Value) (an:Option Addr) (e6 eP:Value) (nA:Array (Option Value)),
  fd=uu x qual (Af st) (tn st) (bz st) .none eo doc pm an e6 eP/\K.lookup f=some ⟨lb,od,.func fd,nA⟩/\NF K e6 qual=true
 bF:oh K (.ref f)=true
section
variable {P:Program} {w:World} {K:a6} {ao:Str->Option Value} {base:Heap}
theorem bU.ok {x qual:Str} {st:Stmt} {f:Addr} {fd:FuncData} {N ps:List Str} {k:Nat} {sp:bo} (F:bU K x qual st f fd) (S:b0 N ps (bz st)) (len:∀ vs H Q E,sp vs H Q E->vs.length=ps.length)
  (vG:∀ (e6:Value) (A:Around) (outer:List Env) (s:Shared) (H:ag) (vs:List V) (Q:bG) (E:cD),es k (A.deeper (envOfC qual (bz st) s.heap.objs.size f e6))->sp vs H Q E ->
   ∃ t,gL (lS cH P w K ao base N qual (bz st) f e6 A outer s H E).tO (tn st) t/\t { b5:=fun _ I=>Q .bH I,kZ:=Q } (start N vs) H):bg P w K ao base cH (k + 1) f fd ps sp:=by
 obtain ⟨lb,od,eo,doc,pm,an,e6,eP,nA,rfl,lk,kB⟩:=F.ex;refine N8 lk kB S len fun A outer s H vs Q E au k'=>?_
 obtain ⟨t,h,q⟩:=vG e6 A outer s H vs Q E au k';exact ⟨t,h.tO,q⟩
theorem bU.binds {x qual:Str} {st:Stmt} {f:Addr} {fd:FuncData} {ps:List Str} (F:bU K x qual st f fd)
  (h:∀ (eo doc pm:Value) (an:Option Addr) (e6 eP:Value) (us:List Value),us.length=ps.length->bindArgs (uu x qual (Af st) (tn st) (bz st) .none eo doc pm an e6 eP) ⟨us,[]⟩=pure (ps.zip us)):bL K fd ps []:=by
 obtain ⟨lb,od,eo,doc,pm,an,e6,eP,nA,rfl,lk,kB⟩:=F.ex;exact .all (h eo doc pm an e6 eP)
theorem Tr {x qual:Str} {st:Stmt} {f:Addr} {lb:Value} {od an:Option Addr} {nA:Array (Option Value)} {eo doc pm e6 eP:Value} (l:K.lookup f=some ⟨lb,od,.func (uu x qual (Af st) (tn st) (bz st) .none eo doc pm an e6 eP),nA⟩)
  (c:NF K e6 qual=true) (k:oh K (.ref f)=true):bU K x qual st f (uu x qual (Af st) (tn st) (bz st) .none eo doc pm an e6 eP):=⟨⟨lb,od,eo,doc,pm,an,e6,eP,nA,rfl,l,c⟩,k⟩
end
noncomputable def afM (A:Around):Prop:=A.units + 1 < cLine
noncomputable def aaL (A:Around):Prop:=A.units + 64 < cLine
theorem XG {A:Around} {k:Nat} (au:es k A):aaL A:=au.units
theorem lV {A:Around} {k:Nat} (au:es k A):afM A:=j0 (Nat.add_le_add_left (by decide:1 <= 64) _) au.units
section
variable {X:aL}
theorem U (i:Nat) {x:Str} {pos:Pos} (bb:X.N[i]? = some x:=by rfl) (aM:zT X.env.scope x:=by first | exact mE rfl | exact pz (mE rfl) | exact pz (pz rfl)) (hd:(x == ("__debug__" : Str))=false:=by decide)
  (kB:(x == ("__classdict__" : Str))=false:=by decide):br X (.Name x pos) (Bj i):=Zs bb aM hd kB
end
noncomputable def aI (H I:ag):Prop:=∀ b o,H b=some o->I b=some o
theorem aI.refl (H:ag):aI H H:=fun _ _ h=>h
theorem aI.trans {H H1 ay:ag} (a:aI H H1) (b:aI H1 ay):aI H ay:=fun c o h=>b c o (a c o h)
theorem aI.free {H I:ag} (e:aI H I) {l:Addr} (h:I l=VY):H l=VY:=by
 cases q:H l with
 | none=>rfl
 | some o=>
  rw [e l o q] at h;cases h
section
variable {dF:Type} [DecidableEq dF]
end
end L2
set_option maxHeartbeats 4000000
namespace L2
open PySem PySem.Spec PyProof.Rows
noncomputable def h9 (cells:List (Str × Addr)):List (Str × NameKind)->List (Str × Addr)->List (Str × Addr)
 | [],acc=>acc
 | (n,k) :: r,acc=>if k == .free then (match cells.lookup n with | some c=>h9 cells r ((n,c) :: acc) | none=>h9 cells r acc) else h9 cells r acc
theorem GG {env:Env}:∀ (names:List (Str × NameKind)) (acc:List (Str × Addr)),(∀ y ∈ names,y.2=.free->∃ c,env.cells.lookup y.1=some c) ->
  (forIn names acc (fun (x:Str × NameKind) (cs:List (Str × Addr))=>(if (x.2 == .free)=true then do let a <- cellOf env x.1;pure (vS ((x.1,a) :: cs)) else pure (vS cs):Sem (ForInStep (List (Str × Addr))))))=pure (h9 env.cells names acc)
 | [],acc,_=>rfl
 | (n,k) :: r,acc,h=>by
  have au:∀ y ∈ r,y.2=.free->∃ c,env.cells.lookup y.1=some c:=fun y bI=>h y (fw _ bI)
  rw [List.forIn_cons];by_cases aE:(k == oW)=true
  .have e:k=.free:=by simpa using aE
   obtain ⟨c,ar⟩:=h (n,k) ma e;have ni:env.cells.lookup n=some c:=ar;simp only [h9,aE,if_true,ni,cellOf];exact GG r _ au
  .simp only [h9,aE];exact GG r _ au
theorem Km {scope:Scope} {env:Env} (h:∀ y ∈ scope.names,y.2=.free->∃ c,env.cells.lookup y.1=some c):closureFor scope env=pure (h9 env.cells scope.names []):=by
 unfold closureFor;exact congrArg (fun t=>t >>= pure) (GG scope.names [] h)
theorem Aq {cells:List (Str × Addr)}:∀ (names:List (Str × NameKind)) (acc:List (Str × Addr)) {x:Str} {c:Addr},(h9 cells names acc).lookup x=some c->acc.lookup x=some c\/cells.lookup x=some c
 | [],acc,x,c,h=>.inl h
 | (n,k) :: r,acc,x,c,h=>by
  unfold h9 at h;split at h
  .cases q:cells.lookup n with
   | none=>rw [q] at h;exact Aq r acc h
   | some d=>
    rw [q] at h;rcases Aq r _ h with z | z
    .rw [mO] at z;by_cases av:(x == n)=true
     .rw [av] at z;have e:x=n:=by simpa using av
      subst e
      right;rw [q];exact z
     .have l1:(x == n)=false:=by simpa using av
      rw [l1] at z;exact .inl z
    .exact .inr z
  .exact Aq r acc h
theorem Bz {cells:List (Str × Addr)}:∀ (names:List (Str × NameKind)) (acc:List (Str × Addr)) {x:Str} {c:Addr},acc.lookup x=some c->cells.lookup x=some c->(h9 cells names acc).lookup x=some c
 | [],acc,x,c,h,_=>h
 | (n,k) :: r,acc,x,c,h,ar=>by
  unfold h9;split
  .cases q:cells.lookup n with
   | none=>exact Bz r acc h ar
   | some d=>
    refine Bz r _ ?_ ar;rw [mO];by_cases av:(x == n)=true
    .have e:x=n:=by simpa using av
     subst e;rw [av];rw [q] at ar;exact ar
    .have l1:(x == n)=false:=by simpa using av
     rw [l1];exact h
  .exact Bz r acc h ar
theorem t4 {cells:List (Str × Addr)}:∀ (names:List (Str × NameKind)) (acc:List (Str × Addr)) {x:Str} {c:Addr},(x,oW) ∈ names->cells.lookup x=some c->(h9 cells names acc).lookup x=some c
 | [],_,_,_,h,_=>nomatch h
 | (n,k) :: r,acc,x,c,h,ar=>by
  rcases dQ.mp h with e | h
  .cases e;unfold h9;rw [if_pos (by decide),ar];refine Bz r _ ?_ ar;rw [mO];simp
  .unfold h9;split
   .cases q:cells.lookup n with
    | none=>exact t4 r acc h ar
    | some d=>exact t4 r _ h ar
   .exact t4 r acc h ar
theorem CE {α:Type}:∀ {l:List (Str × α)} {x:Str} {a:α},l.lookup x=some a->(x,a) ∈ l
 | [],_,_,h=>by simp at h
 | (n,b) :: r,x,a,h=>by
  rw [mO] at h;by_cases av:(x == n)=true
  .have e:x=n:=by simpa using av
   subst e;rw [av] at h;have aG:b=a:=eS h;subst aG;exact ma
  .have l1:(x == n)=false:=by simpa using av
   rw [l1] at h;exact fw _ (CE h)
theorem S7 {env:Env} {scope:Scope} {x:Str} {k:NameKind} (h:(relabel scope env).names.lookup x=some k) (aE:k=.cell\/k=.free) (ar:∀ y ∈ scope.names,y.2 ≠ .cell):(x,oW) ∈ scope.names:=by
 have ae:=CE h;obtain ⟨⟨n,j⟩,hm,e⟩:=dX.mp ae;have bB:(if (j == oW && env.scope.kind == .function && env.kindOf n == some .cell)=true then (n,Qh) else (n,j))=(x,k):=e;split at bB
 .rename_i MB;have ax:n=x:=(Ky bB).1;subst ax;have aZ:j=.free:=by
   simp only [iP] at MB;simpa using MB.1.1
  subst aZ;exact hm
 .have ax:n=x:=(Ky bB).1;have aG:j=k:=(Ky bB).2;subst ax;subst aG;rcases aE with z | z
  .exact absurd z (ar _ hm)
  .subst z;exact hm
theorem aaw {env:Env} {scope:Scope} {x:Str} (h:scope.names.lookup x=some .free):(relabel scope env).names.lookup x=some .cell\/(relabel scope env).names.lookup x=some .free:=by
 have all:∀ (names:List (Str × NameKind)),names.lookup x=some .free ->
   (names.map fun (n,k)=>if (k == oW && env.scope.kind == .function && env.kindOf n == some .cell) then (n,Qh) else (n,k)).lookup x=some .cell \/
   (names.map fun (n,k)=>if (k == oW && env.scope.kind == .function && env.kindOf n == some .cell) then (n,Qh) else (n,k)).lookup x=some .free:=by
  intro names
  induction names with
  | nil=>intro h;simp at h
  | cons p r cj=>
   obtain ⟨n,k⟩:=p;intro h;rw [eJ];by_cases av:(x == n)=true
   .simp only [mO,av] at h;have aE:k=.free:=eS h;subst aE;by_cases ar:(oW == oW && env.scope.kind == .function && env.kindOf n == some .cell)=true
    .left;simp only [if_pos ar,mO,av]
    .right;simp only [if_neg ar,mO,av]
   .have l1:(x == n)=false:=by simpa using av
    simp only [mO,l1] at h;by_cases ar:(k == oW && env.scope.kind == .function && env.kindOf n == some .cell)=true
    .simp only [if_pos ar,mO,l1];exact cj h
    .simp only [if_neg ar,mO,l1];exact cj h
 exact all scope.names h
noncomputable abbrev aL.block (X:aL) (scope:Scope) (C:Addr) (N:List Str) (s:Shared) (H:ag) (bu:List Addr):aL where
 prog:=X.prog
 w:=X.w
 K:=X.K
 ao:=X.ao
 base:=X.base
 A:=X.A
 N:=N
 eX:=s
 rT:=H
 env:=compEnvC scope (h9 X.env.cells scope.names []) C X.env
 outer:=X.stack
 stack:=X.stack
 ex:=bu
 fn:=fun _=>false
 calm:=X.calm
 ek:=[]
 c0:=fun _ _=>False
structure pK (env:Env) (scope:Scope):Prop where
 kind:scope.kind=.function
 BP:∀ y ∈ scope.names,y.2 ≠ .cell
 fr:∀ y ∈ scope.names,y.2=.free->env.kindOf y.1=some .cell\/env.kindOf y.1=some .free
 loc:∀ x ∈ scope.names,x.2=.local->scope.names.lookup x.1=some .local
noncomputable def k5 (sel:List (Option Nat)) (σ:St):St:=sel.map fun o=>o.bind fun j=>(σ[j]?).join
noncomputable def vH (M:List Str) (scope:Scope) (N:List Str) (sel:List (Option Nat)):Prop:=
 sel.length=N.length/\∀ (i j:Nat) (x:Str),sel[i]? = some (some j)->N[i]? = some x->M[j]? = some x/\scope.names.lookup x=some .free
section
variable {X:aL} {aa:List (Addr × Obj)} {σ:St} {H:ag} {s:Shared} {scope:Scope} {bu:List Addr} {C:Addr} {N:List Str}
theorem pK.cells (S:pK X.env scope) (ok:X.Ok):∀ y ∈ scope.names,y.2=.free->∃ c,X.env.cells.lookup y.1=some c:=fun y bI e=>ok.has y.1 (S.fr y bI e)
theorem rY {x:Str} {c:Addr} (h:(h9 X.env.cells scope.names []).lookup x=some c):X.env.cells.lookup x=some c:=by
 rcases Aq _ _ h with z | z
 .simp at z
 .exact z
theorem Nb (J:Inv X aa σ H s) (S:pK X.env scope) (hf:∀ b ∈ bu,hQ X aa H b) (aw:∀ b ∈ bu,b < s.heap.objs.size) (cm:s.heap.objs.size <= C):(X.block scope C N s H bu).Ok where
 mod:=J.ok.mod
 kind:=S.kind
 glob:=J.ok.glob
 blt:=J.ok.blt
 above:=cm
 inj:=fun x y c ae ak=>J.ok.inj x y c (rY ae) (rY ak)
 has:=fun x h=>by
  have aE:∃ k,(relabel scope X.env).names.lookup x=some k/\(k=.cell\/k=.free):=by
   rcases h with h | h
   .exact ⟨_,h,.inl rfl⟩
   .exact ⟨_,h,.inr rfl⟩
  obtain ⟨k,ae,ak⟩:=aE;have hm:=S7 ae ak S.BP;obtain ⟨c,ar⟩:=S.cells J.ok _ hm rfl;exact ⟨c,t4 _ _ hm ar⟩
 nr:=fun _ _ h _=>nomatch h
 hd:=J.ok.hd
 frames:=J.ok.frames
 oH:=.inl rfl
 rF:=fun b ab=>⟨ft (hK (aw b ab) cm),fun x c e=>(hf b ab).2.2.2.2.1 x c (rY e)⟩
 bs:=J.bs
 kb:=c1 J.ok.kb J.oT
 nV:=fun b o e ab=>by
  rcases (hf b ab).2.2.2.1 with z | z
  .exact J.ok.nV b o e z
  .exact absurd (hK (hK (dv e) J.ok.kb) z) (oo _)
 nh:=fun b ab az=>by
  rcases dQ.mp (J.yX b az) with z | z
  .exact (hf b ab).2.1 z
  .exact (hf b ab).2.2.1 z
 i2:=J.stack
 mb:=J.yF
theorem YR {h':Heap} {t':Nat} {m:Str->Option Value} {sel:List (Option Nat)} (J:Inv X aa σ H s) (S:pK X.env scope) (hf:∀ b ∈ bu,hQ X aa H b) (aw:∀ b ∈ bu,b < s.heap.objs.size) (cm:s.heap.objs.size <= C)
  (k:∀ b o,s.heap.get? b=some o->h'.get? b=some o) (aF:h'.Ns C m) (pI:vH X.N scope N sel):Inv (X.block scope C N s H bu) [] (k5 sel σ) H { s with heap:=h',toks:=t' } where
 ok:=Nb J S hf aw cm
 os:=rfl
 bare:=J.bare
 base:=f9.kept k
 loc:=by
  refine ⟨m,aF,fun i x v ax aG bM=>?_⟩;obtain ⟨m0,Zk,aA⟩:=J.loc;obtain ⟨j,kk,aeN⟩:∃ j,sel[i]? = some (some j)/\σ[j]? = some (some v):=by
   unfold k5 at aG;rw [eA] at aG;cases q:sel[i]? with
   | none=>rw [q] at aG;cases aG
   | some o=>
    rw [q] at aG;cases o with
    | none=>cases aG
    | some j=>
     refine ⟨j,rfl,?_⟩;have xj:(σ[j]?).join=some v:=eS aG;cases r:σ[j]? with
     | none=>rw [r] at xj;cases xj
     | some z=>rw [r] at xj;exact congrArg some xj
  obtain ⟨Vg,mC⟩:=pI.2 i j x kk ax;have hm:=CE mC;have aE:=S.fr _ hm rfl;have aM:zT X.env.scope x:=aE.elim (fun z=>.inr (.inl z)) fun z=>.inr (.inr z)
  obtain ⟨u,r,l⟩:=aA j x v Vg aeN aM;refine ⟨u,r,?_⟩;rcases l with ⟨RI,_⟩ | ⟨_,c,ar,Aa⟩
  .rcases aE with z | z <;> (have z':X.env.kindOf x=_:=z;rw [RI] at z';cases z')
  .refine .inr ⟨?_,c,t4 _ _ hm ar,?_⟩
   .exact aaw mC
   .obtain ⟨o,a7,hd⟩:=Aa;exact ⟨o,k _ _ a7,hd⟩
 cell:=fun x c e=>by
  obtain ⟨v,o,a7,hd⟩:=J.cell x c (rY e);exact ⟨v,o,k _ _ a7,hd⟩
 free:=J.bl.fresh cm
 iK:=fun x c e=>J.iK x c (rY e)
 pin:=fun p aq=>nomatch aq
 bl:=J.bl.kept k
 len:=by unfold k5;rw [a'];exact pI.1
theorem Inv.adopt {a:Addr} {o:df} (J:Inv X aa σ H s) (gg:hQ X aa H a) (new:ea X.prog X.w (upd H a o) s.heap a o):Inv X aa σ (upd H a o) s:=by
 obtain ⟨aF,iX,Q_,hex,BS,i'⟩:=gg;refine J.step (g':=s.gens) (d':=s.drawn) (t':=s.toks) (h':=s.heap) (ch:=[a]) (fun b ab=>?_) (fun b o _ _ _ e _=>e) (fun b o _ _ _ e _=>⟨o.slots,e⟩) (fun b o ab e n=>?_) (fun b o _ e=>⟨o,e⟩)
  (fun b xs e=>?_) (fun b o u e=>?_) (fun b ps e=>⟨#[],?_⟩) (fun m hm=>hm) (fun b u e=>?_) J.bare
 .have e:b=a:=by simpa using ab
  subst e;exact ⟨hex,iX,BS,i'⟩
 .rw [aW (fun z=>ab (by simp [z]))];exact n
 .rw [aW (cy e aF)];exact e
 .rw [aW (cy e aF)];exact e
 .rw [aW (cy e aF),e];simp
 .by_cases ab:b=a
  .subst ab;rw [aU] at e;cases e;exact new
  .rw [aW ab] at e;exact (J.bl b u e).nu (fun c v _ q=>q) (fun c q=>by rw [aW (cy q aF)];exact q) fun c xs q=>by rw [aW (cy q aF)];exact q
end
theorem RL {prog:Program} {w:World} {A:Around} {R:Result->Shared->Prop} {s:Shared} {elt te iter:Expr} {ifs:List Expr} {scope:Scope} {pos:Pos} {it acc:Value} {env:Env} (J:Nat->Shared->Prop)
  (turn:∀ n s,J n s->wpAny (model prog w) A (pyNext it) (fun r cQ=>match r with
   | none=>R (.ok .next) cQ
   | some v=>wpAny (model prog w) A (letOwnedTupleGo te it v) (fun _ eX=>wpAny (model prog w) A (assign te env v) (fun _ dt=>
     wpAny (model prog w) A (forIn ifs true fun c r=>if r=true then do let ok <- isTrue c env (eval c env);pure (vS ok) else pure (vS r)) (fun ok k9=>
      if ok=true then wpAny (model prog w) A (eval elt env) (fun x yR=>
       wpAny (model prog w) A (call (.builtin "list.append") [acc,x]) (fun _ Ny=>∃ m,m < n/\J m Ny) (fun _ _=>False) yR) (fun _ _=>False) k9
      else ∃ m,m < n/\J m k9) (fun _ _=>False) dt) (fun _ _=>False) eX) (fun _ _=>False) cQ) (fun _ _=>False) s)
  (n:Nat) (h:J n s) :
  codeAny (model prog w) A (.compLoop (.ListComp elt [⟨te,iter,ifs,0⟩] scope pos) 0 it acc env) R s:=by
 refine codeAny_loop rfl J (fun n s Ex=>?_) n h;show wpAny _ A ((compTurn (.ListComp elt [⟨te,iter,ifs,0⟩] scope pos) 0 it acc env).onRaise (fun x=>do noteFrame x env;theTreesLotGoes x)) _ _ s;refine wpAny_noted (wpAny_noRaise ?_);rw [compTurn_list];refine wpAny_bind (wpAny_standAt (wpAny_bind (wpAny_mono (turn n s Ex) (fun r cQ h₁=>?_) fun _ _ h'=>h')));cases r with
 | none=>exact wpAny_pure h₁
 | some v=>
  refine wpAny_bind (wpAny_mono h₁ (fun _ eX h₀=>?_) fun _ _ h'=>h');refine wpAny_bind (wpAny_mono h₀ (fun _ dt t_=>wpAny_bind (wpAny_mono t_ (fun ok k9 xn=>?_) fun _ _ h'=>h')) fun _ _ h'=>h');cases ok with
  | false=>exact wpAny_pure ⟨rfl,xn⟩
  | true=>
   exact wpAny_bind (wpAny_bind (wpAny_mono xn (fun x yR Uy=>wpAny_bind (wpAny_mono Uy (fun _ Ny aev=>wpAny_pure (wpAny_pure ⟨rfl,aev⟩)) fun _ _ h'=>h')) fun _ _ h'=>h'))
noncomputable def t2 (X:aL) (ifs:List Expr) (t:TT):Prop:=
 ∀ (aa:List (Addr × Obj)) (s:Shared) (σ:St) (H:ag) (Q:Bool->ag->Prop),Inv X aa σ H s->t σ H Q ->
  wpAny (model X.prog X.w) X.A (forIn ifs true fun c r=>if r=true then do let ok <- isTrue c X.env (eval c X.env);pure (vS ok) else pure (vS r)) (yI X aa σ Q) X.c0 s
noncomputable def o7:TT:=fun _ H Q=>Q true H
theorem kP {X:aL}:t2 X [] o7:=fun _ _ _ H _ J h=>wpAny_tests_nil ⟨H,J,h⟩
theorem vq {X:aL} {c:Expr} {t:TT} (h:hJ X c t):t2 X [c] t:=fun aa s σ H Q J q=>wpAny_tests_one (h aa s σ H Q J q)
noncomputable def Sub (σ aS:St):Prop:=aS.length=σ.length/\∀ (i:Nat) (v:V),σ[i]? = some (some v)->aS[i]? = some (some v)
noncomputable def qe (bP:gU) (g:dC) (cn:TT) (bf:TE) (cJ:St) (Q:bG) (W:Nat->Nat->List V->ag->Prop):Prop:=∀ i m ys H,W i m ys H ->
 (bP.stop i H/\∀ p,H p=none->Q (.ref p) (upd H p (.lst ys))) \/
 (bP.go i H/\ys.length < sizeLine/\∀ x I,bP.m9 i H x I->g x cJ I fun cW ay=>Sub cJ cW/\cn cW ay fun c bA=>if c=true then bf cW bA fun y bY=>∃ dd,dd < m/\W (i + 1) dd (ys ++ [y]) bY else ∃ dd,dd < m/\W (i + 1) dd ys bA)
noncomputable def Cj (de:TI) (g:dC) (cn:TT) (bf:TE) (sel:List (Option Nat)):TE:=fun σ H Q=>de σ H fun bP H1=>∃ W:Nat->Nat->List V->ag->Prop,(∃ m,W 0 m [] H1)/\qe bP g cn bf (k5 sel σ) Q W
section
variable {X:aL} {elt ck iter:Expr} {ifs:List Expr} {scope:Scope} {pos:Pos} {de:TI} {g:dC} {cn:TT} {bf:TE} {N:List Str} {sel:List (Option Nat)}
structure gN (X:aL) (scope:Scope) (N:List Str) (ck elt:Expr) (ifs:List Expr) (g:dC) (cn:TT) (bf:TE):Prop where
 I5:∀ C s H bu,lL (X.block scope C N s H bu) ck g
 tests:∀ C s H bu,t2 (X.block scope C N s H bu) ifs cn
 elem:∀ C s H bu,br (X.block scope C N s H bu) elt bf
theorem gN.of {X:aL} {scope:Scope} {N:List Str} {ck elt:Expr} {ifs:List Expr} {g:dC} {cn:TT} {bf:TE} (ae:∀ C s H bu,lL (X.block scope C N s H bu) ck g)
  (ak:∀ C s H bu,∃ t,t2 (X.block scope C N s H bu) ifs t/\t=cn) (a_:∀ C s H bu,∃ t,br (X.block scope C N s H bu) elt t/\t=bf):gN X scope N ck elt ifs g cn bf:=
 ⟨ae,fun C s H bu=>by obtain ⟨t,h,rfl⟩:=ak C s H bu;exact h,fun C s H bu=>by obtain ⟨t,h,rfl⟩:=a_ C s H bu;exact h⟩
theorem MG {aa:List (Addr × Obj)} {dt:Shared} {σ:St} {hz:ag} {Q:bG} {it:Addr} {bu:List Addr} {fg:Nat->Heap->Prop} {bP:gU} {W:Nat->Nat->List V->ag->Prop} {E:Value->Shared->Prop} {RR:Value->Addr->Result->Shared->Prop}
  (ar:X.calm=true) (S:pK X.env scope) (pI:vH X.N scope N sel) (B:gN X scope N ck elt ifs g cn bf) (bD:Inv X aa σ hz dt) (T:pJ X.prog X.w X.K ck bP bu it fg) (pP:fg 0 dt.heap) (f2:∀ b ∈ bu,hQ X aa hz b)
  (k1:∃ m,W 0 m [] hz) (ka:qe bP g cn bf (k5 sel σ) Q W)
  (fin:∀ D C ys I s',Inv X aa σ (upd I D (.lst ys)) s'->(∃ m,s'.heap.Ns C m)->hQ X aa (upd I D (.lst ys)) C->Q (.ref D) (upd I D (.lst ys))->RR (.ref D) C (.ok .next) s') :
  wpAny (model X.prog X.w) X.A (newList []) (fun acc k9=>wpAny (model X.prog X.w) X.A (newFunctionEnv scope X.env.globals (h9 X.env.cells scope.names []) [] X.env.qual none .none (some X.env)) (fun NC yR=>
   codeAny (model X.prog X.w) X.A (.compStart (.ListComp elt [⟨ck,iter,ifs,0⟩] scope pos) 0 (.ref it) acc { NC with scope:=relabel scope X.env }) (RR acc NC.locals) yR) E k9) E dt:=by
 refine wpAny_newObj_type (wpAny_newFunctionEnv S.BP (by intro y bI;simp at bI) (fun h₁ Dg yf=>?_) S.kind);dsimp only at Dg yf ⊢;generalize Ey:dt.heap.push { cls:=.type "list",dict:=none,data:=.seq ([]:List Value).toArray }=ay at Dg yf ⊢;have cm:ay.objs.size=dt.heap.objs.size + 1:=by rw [<- Ey,wC]
 have wF:dt.heap.objs.size ≠ ay.objs.size:=by rw [cm];exact ft (K4 _)
 have ET:dt.heap.objs.size <= ay.objs.size:=by rw [cm];exact sG _
 have below:∀ b,b < dt.heap.objs.size->b ≠ ay.objs.size/\b ≠ dt.heap.objs.size:=fun b ab=>⟨by rw [cm];exact ft (Qj ab),ft ab⟩
 have old:∀ b o,dt.heap.get? b=some o->h₁.get? b=some o:=fun b o e=>yf.extBut b o (below b (dv e)).1 (dY _ (Ey ▸ dY _ e))
 have qF:h₁.get? dt.heap.objs.size=some { cls:=.type "list",data:=.seq ([]:List Value).toArray }:=yf.extBut _ _ wF (dY _ (Ey ▸ gz _ rfl));have uM:∀ b ∈ bu,b < dt.heap.objs.size:=fun b ab=>by
  obtain ⟨o,e,_⟩:=T.obj _ _ pP b ab;exact dv e
 generalize ahc:ay.objs.size=C at *;generalize mK:dt.heap.objs.size=D at *;have Ra:fg 0 h₁:=T.keep _ _ _ pP fun b _ o e=>old b o e
 have Y1:Inv (X.block scope C N dt hz bu) [] (k5 sel σ) hz { dt with heap:=h₁,toks:=dt.toks + ([]:List (Str × Value)).length }:=
  YR bD S f2 (fun b ab=>by rw [mK];exact uM b ab) (by rw [mK];exact ET) old Dg pI
 have CT:D ∉ (X.block scope C N dt hz bu).aN:=fun z=>by
  have z':=bD.yX D z;rcases dQ.mp z' with e | e
  .exact absurd bD.lt (by rw [<- e,mK];exact oo _)
  .exact bD.Pj (by rw [mK];exact b2 _) e
 have loop:∀ k9:Shared,k9 = { dt with heap:=h₁,toks:=dt.toks + ([]:List (Str × Value)).length } ->
   codeAny (model X.prog X.w) X.A (.compLoop (.ListComp elt [⟨ck,iter,ifs,0⟩] scope pos) 0 (.ref it) (.ref D) (compEnvC scope (h9 X.env.cells scope.names []) C X.env)) (RR (.ref D) C) k9:=by
  rintro k9 rfl;obtain ⟨m0,k1⟩:=k1;refine RL (fun k s'=>∃ i ys us n I,Inv (X.block scope C N dt hz bu) [(D,{ cls:=.type "list",data:=.seq us n })] (k5 sel σ) I s'/\(∃ vs:List Value,us=vs.toArray/\re ys vs)/\ys.length <= sizeLine/\fg i s'.heap/\(∀ b ∈ bu,I b=none)/\W i k ys I) ?_ m0
   ⟨0,[],_,0,hz,Y1.wU fun p aq=>?_,⟨[],rfl,.nil⟩,fv _,Ra,fun b ab=>(f2 b ab).1,k1⟩
  .rintro k s' ⟨i,ys,us,n,I,nD,⟨vs,rfl,cf⟩,Ry,st,fr,w⟩;have B2:∀ {pl:List (Addr × Obj)} {wV:ag},(∀ p ∈ pl,p.1=D)->(∀ b ∈ bu,wV b=none)->∀ b ∈ bu,hQ (X.block scope C N dt hz bu) pl wV b:=fun {pl wV} aq aF b ab=>
    ⟨aF b ab,(below b (uM b ab)).1,(Nb (N:=N) (C:=C) bD S f2 (fun b ab=>by rw [mK];exact uM b ab) (by rw [mK];exact ET)).nh b ab,.inl ab,fun x c e=>(f2 b ab).2.2.2.2.1 x c (rY e),fun p zt z=>by
     have U1:p ∈ pl:=by simpa using zt
     exact (below b (uM b ab)).2 (by rw [<- z];exact aq p U1)⟩
   have DU:∀ p ∈ [((D,{ cls:=.type "list",data:=.seq vs.toArray n }):Addr × Obj)],p.1=D:=fun p aq=>by
    have e:p=(D,{ cls:=.type "list",data:=.seq vs.toArray n }):=by simpa using aq
    rw [e]
   rcases ka i k ys I w with ⟨stop,tK⟩ | ⟨go,hlen,step⟩
   .refine bt (T.done (X.block scope C N dt hz bu) rfl rfl rfl ar i _ s' _ I _ nD (B2 DU fr) st stop) fun r s4 b_=>?_
    obtain ⟨au,iM⟩:=b_;subst au;have qh:=iM.pin (D,{ cls:=.type "list",data:=.seq vs.toArray n }) (by simp);have QP:I D=none:=qh.2.1;have aet:Inv X aa σ I s4:=bD.uv (ch:=bu) iM.os iM.base iM.bl iM.bare fun b ab=>⟨(f2 b ab).2.2.2.1,(f2 b ab).2.1,(f2 b ab).2.2.2.2.1,(f2 b ab).2.2.2.2.2⟩
    have rr:hQ X aa I D:=bD.og (by rw [mK];exact b2 _) QP;have Fb:Inv X aa σ (upd I D (.lst ys)) s4:=aet.adopt rr ⟨Ry,vs,n,cf,qh.1⟩;obtain ⟨TG,Wi,_⟩:=iM.loc;refine fin D C ys I s4 Fb ⟨TG,Wi⟩ (bD.og (by rw [mK];exact ET) ?_) (tK D QP);rw [aW (c6 wF)];exact iM.free
   .refine bt (T.item (X.block scope C N dt hz bu) rfl rfl rfl ar i _ s' _ I _ nD (B2 DU fr) st go) fun r s4 b_=>?_
    obtain ⟨u,au,cv⟩:=b_;subst au;refine bt cv fun _ s5 b_=>?_
    obtain ⟨x,dq,tX,Ig,H9,qR,Fg⟩:=b_;have G0:=tX.pinned (B2 DU Fg) (T.obj _ _ qR);refine bt (B.I5 C dt hz bu _ s5 _ dq x u _ G0 Ig (step x dq H9)) fun _ hL b_=>?_
    obtain ⟨mN,eK,lD,h2,En⟩:=b_;refine bt (B.tests C dt hz bu _ hL mN eK _ lD En) fun c mr b_=>?_
    obtain ⟨hv,jk,ly⟩:=b_;have again:∀ {PL:St} {hx:ag} {g4:Shared},Inv (X.block scope C N dt hz bu) ([(D,{ cls:=.type "list",data:=.seq vs.toArray n })] ++ wB bu s5.heap) PL hx g4->fg (i + 1) g4.heap/\(∀ b ∈ bu,hx b=none):=fun {PL hx g4} nO=>by
     refine ⟨T.keep _ _ _ qR fun b ab o e=>(nO.pin (b,o) (m6 _ (m6 _ (AU ab e)))).1,fun b ab=>?_⟩;obtain ⟨o,e,d⟩:=T.obj _ _ qR b ab;exact (nO.pin (b,o) (m6 _ (m6 _ (AU ab e)))).2.1
    have back:∀ {hx:ag} {g4:Shared} {pl:List (Addr × Obj)},Inv (X.block scope C N dt hz bu) pl mN hx g4->Inv (X.block scope C N dt hz bu) pl (k5 sel σ) hx g4:=fun {hx g4 pl} nO=>nO.weak h2.1.symm h2.2
    cases c with
    | false=>
     obtain ⟨dd,hm,fi⟩:=ly;obtain ⟨t1,w7⟩:=again jk;exact ⟨dd,hm,i + 1,ys,_,n,hv,back jk.zM,⟨vs,rfl,cf⟩,Ry,t1,w7,fi⟩
    | true=>
     refine bt (B.elem C dt hz bu _ mr mN hv _ jk ly) fun v g4 b_=>?_
     obtain ⟨y,hx,nO,af1,dd,hm,fi⟩:=b_;obtain ⟨t1,w7⟩:=again nO;have qh:=nO.pin (D,{ cls:=.type "list",data:=.seq vs.toArray n }) (by simp);refine append_at (hsz:=by have:=cf.length;rw [fy];omega) qh.1 fun adA Ld acU=>?_
     have Y3:Inv (X.block scope C N dt hz bu) [] (k5 sel σ) hx g4:=(back nO).wU fun p aq=>nomatch aq
     have rr:hQ (X.block scope C N dt hz bu) [] hx D:=⟨qh.2.1,wF,CT,.inr (by show dt.heap.objs.size <= D;rw [mK];exact b2 _),(fun x c e z=>by
      obtain ⟨ahW,o,a7,hd⟩:=nO.cell x c e;rw [z,qh.1] at a7;cases a7;cases hd),(fun p aq=>nomatch aq)⟩
     have ad5:Inv (X.block scope C N dt hz bu) [] (k5 sel σ) hx { g4 with heap:=adA }:=Y3.turned (t':=g4.toks) (it:=D) (fun b o ab e=>(Ld.2 b ab).trans e) rr.1 rr.2.1 rr.2.2.2.1 rr.2.2.2.2.1 rr.2.2.2.2.2;refine ⟨dd,hm,i + 1,ys ++ [y],vs.toArray.push v,n + 1,hx,ad5.wU fun p aq=>?_,⟨vs ++ [v],by simp,Rj cf af1⟩,by rw [dP,Ax];omega,T.keep _ _ _ t1 fun b ab o e=>(Ld.2 b (below b (uM b ab)).2).trans e,w7,fi⟩;have e:p=(D,{ cls:=.type "list",data:=.seq (vs.toArray.push v) (n + 1) }):=by simpa using aq
     subst e;exact ⟨acU,qh.2.1,wF,CT,fun v z=>by cases z⟩
  .have e:p=(D,{ cls:=.type "list",data:=.seq ([]:List Value).toArray }):=by simpa using aq
   subst e;exact ⟨qF,bD.bl.fresh (by rw [mK];exact b2 _),wF,CT,fun v z=>by cases z⟩
 exact codeAny_compStart_list (loop _ rfl) (T.self _ 0 _ _ _ Ra (loop _ rfl))
theorem l' (ar:X.calm=true) (ai:mV X ck iter de) (S:pK X.env scope) (pI:vH X.N scope N sel) (B:gN X scope N ck elt ifs g cn bf)
  (aw:∀ x,foldedSetIterable iter X.env x=pure x:=by intro _;rfl):br X (.ListComp elt [⟨ck,iter,ifs,0⟩] scope pos) (Cj de g cn bf sel):=by
 intro aa s σ H Q J h;rw [eval_ListComp];refine wpAny_comprehension_free (use:=none) rfl aw (Km (S.cells J.ok)) S.kind S.loc ?_;refine bt (ai aa s σ H _ J h) fun v s1 ae=>bt ae fun Bv s2 ak=>?_
 obtain ⟨it,bu,fg,bP,ay,e,bD,T,pP,f2,W,k1,ka⟩:=ak;subst e;refine MG (RR:=fun acc C=>compPost (model X.prog X.w) X.A X.c0 none (fT X aa σ Q) acc C) ar S pI B bD T pP f2 k1 ka fun D C ys I s' jN ⟨m,hm⟩ gg q=>?_
 exact ⟨m,hm,fun h' xH=>⟨.ref D,_,jN.turned (t':=s'.toks) (it:=C) (fun b o ab e=>(xH.2 b ab).trans e) gg.1 gg.2.1 gg.2.2.2.1 gg.2.2.2.2.1 gg.2.2.2.2.2,rfl,q⟩⟩
theorem r4 {i:Nat} {y:Str} {py Js:Pos} (bb:X.N.Nodup) (ai:X.N[i]? = some y) (av:Loc X.env.scope y) (ar:X.calm=true) (hit:mV X ck iter de) (S:pK X.env scope) (pI:vH X.N scope N sel) (B:gN X scope N ck elt ifs g cn bf)
  (aaY:swapsWith (.ListComp elt [⟨ck,iter,ifs,0⟩] scope pos) (some (.Name y py)) Js.line X.env=pure true) (hf:X.fn y=true\/X.env.scope.names.lookup y=some .local:=by first | exact .inl rfl | exact .inr rfl | assumption)
  (aw:∀ x,foldedSetIterable iter X.env x=pure x:=by intro _;rfl):gc X (.Assign [.Name y py] (.ListComp elt [⟨ck,iter,ifs,0⟩] scope pos) Js) (tC (Cj de g cn bf sel) (fO i)):=by
 intro aa s σ H D J h;rw [exec_Assign_Name_used _ _ _ _ aaY];refine wpAny_bind (wpAny_standAt (wpAny_bind ?_));show wpAny _ X.A (do let _ <- comprehension (.ListComp elt [⟨ck,iter,ifs,0⟩] scope pos) scope X.env _ (newList []) false (eval iter X.env) (some (assign (.Name y py) X.env))) _ _ s;refine wpAny_bind (wpAny_mono (wpAny_comprehension_free (use:=some (assign (.Name y py) X.env)) (Q:=fun _ s'=>gQ X aa D .next s') rfl aw (Km (S.cells J.ok)) S.kind S.loc ?_) (fun _ s' aH=>wpAny_pure (wpAny_pure aH)) fun _ _ e=>e);refine bt (hit aa s σ H _ J h) fun v s1 ae=>bt ae fun Bv s2 ak=>?_
 obtain ⟨it,bu,fg,bP,ay,e,bD,T,pP,f2,W,k1,ka⟩:=ak;subst e;refine MG (RR:=fun acc C=>compPost (model X.prog X.w) X.A X.c0 (some (assign (.Name y py) X.env)) (fun _ s'=>gQ X aa D .next s') acc C) ar S pI B bD T pP f2 k1 ka fun Da C ys I s' jN ⟨m,hm⟩ gg q=>?_
 show wpAny _ X.A (assign (.Name y py) X.env (.ref Da)) _ _ _;refine wpAny_assign_Name (JE jN bb ai av (show bO (.ref Da) (.ref Da) from rfl) (fun s3 eb b_=>?_) hf);obtain ⟨a,xH,aJ⟩:=b_;have ZZ:C ≠ a:=by
  rcases aJ with z | z
  .rw [z];exact gg.2.1
  .exact fun w=>gg.2.2.2.2.1 y a z w.symm
 refine ⟨m,hm.sameBut xH ZZ,fun h' Wv=>⟨_,_,eb.turned (t':=s3.toks) (it:=C) (fun b o ab e=>(Wv.2 b ab).trans e) gg.1 gg.2.1 gg.2.2.2.1 gg.2.2.2.2.1 gg.2.2.2.2.2,q⟩⟩
end
noncomputable def nI (Pv:Nat->List V->ag->Prop) (g:dC) (cn:TT) (bf:TE) (cJ:St) (i:Nat) (x:V) (ys:List V) (H:ag):Prop:=
 ∀ N:List V->ag->Prop,(∀ iF I,Pv (i + 1) iF I->N iF I)->g x cJ H fun cW ay=>Sub cJ cW/\cn cW ay fun c bA=>if c=true then bf cW bA fun y bY=>N (ys ++ [y]) bY else N ys bA
theorem aeA {K:a6} {a:Addr} {xs:List V} {g:dC} {cn:TT} {bf:TE} {cJ:St} {Q:bG} {H:ag} (Pv:Nat->List V->ag->Prop) (az:xs.length <= sizeLine) (h0:Pv 0 [] H) (aA:∀ i ys H,i <= xs.length->Pv i ys H->aK K H a xs/\ys.length <= i)
  (aw:∀ i x ys H,xs[i]? = some x->Pv i ys H->nI Pv g cn bf cJ i x ys H) (hd:∀ ys H,Pv xs.length ys H->∀ p,H p=none->Q (.ref p) (upd H p (.lst ys))) :
  ∃ W:Nat->Nat->List V->ag->Prop,(∃ m,W 0 m [] H)/\qe (mS K a) g cn bf cJ Q W:=by
 refine ⟨fun i m ys H=>m=xs.length - i/\i <= xs.length/\Pv i ys H,⟨xs.length,by simp,fv _,h0⟩,?_⟩;rintro i m ys H ⟨rfl,ai,p⟩;have q:=(aA i ys H ai p).1;have As:=(aA i ys H ai p).2;by_cases cx:i < xs.length
 .refine .inr ⟨⟨xs,xs[i],q,by simp [cx]⟩,by omega,fun x I y=>?_⟩;obtain ⟨e,y⟩:=y;subst e;exact aw i x ys _ (y xs q) p (fun iF I=>∃ dd,dd < xs.length - i/\dd=xs.length - (i + 1)/\i + 1 <= xs.length/\Pv (i + 1) iF I) fun iF I r=>⟨xs.length - (i + 1),by omega,rfl,cx,r⟩
 .have e:i=xs.length:=by omega
  subst e;exact .inl ⟨⟨xs,q,b2 _⟩,hd ys H p⟩
theorem WQ {K:a6} {a:Addr} {xs:List V} {g:dC} {cn:TT} {bf:TE} {cJ:St} {Q:bG} {H:ag} (Pv:Nat->List V->ag->Prop) (az:xs.length <= sizeLine) (h0:Pv 0 [] H) (aA:∀ i ys H,i <= xs.length->Pv i ys H->bS K H a xs/\ys.length <= i)
  (aw:∀ i x ys H,xs[i]? = some x->Pv i ys H->nI Pv g cn bf cJ i x ys H) (hd:∀ ys H,Pv xs.length ys H->∀ p,H p=none->Q (.ref p) (upd H p (.lst ys))) :
  ∃ W:Nat->Nat->List V->ag->Prop,(∃ m,W 0 m [] H)/\qe (zd K a) g cn bf cJ Q W:=by
 refine ⟨fun i m ys H=>m=xs.length - i/\i <= xs.length/\Pv i ys H,⟨xs.length,by simp,fv _,h0⟩,?_⟩;rintro i m ys H ⟨rfl,ai,p⟩;have q:=(aA i ys H ai p).1;have As:=(aA i ys H ai p).2;by_cases cx:i < xs.length
 .refine .inr ⟨⟨xs,xs[i],q,by simp [cx]⟩,by omega,fun x I y=>?_⟩;obtain ⟨e,y⟩:=y;subst e;exact aw i x ys _ (y xs q) p (fun iF I=>∃ dd,dd < xs.length - i/\dd=xs.length - (i + 1)/\i + 1 <= xs.length/\Pv (i + 1) iF I) fun iF I r=>⟨xs.length - (i + 1),by omega,rfl,cx,r⟩
 .have e:i=xs.length:=by omega
  subst e;exact .inl ⟨⟨xs,q,b2 _⟩,hd ys H p⟩
theorem afV {lo:Int} {n:Nat} {g:dC} {cn:TT} {bf:TE} {cJ:St} {Q:bG} {H:ag} (Pv:Nat->List V->ag->Prop) (az:n <= sizeLine) (h0:Pv 0 [] H) (aA:∀ i ys H,i <= n->Pv i ys H->ys.length <= i)
  (aw:∀ i ys H,i < n->Pv i ys H->nI Pv g cn bf cJ i (.int (lo + i)) ys H) (hd:∀ ys H,Pv n ys H->∀ p,H p=none->Q (.ref p) (upd H p (.lst ys))) :
  ∃ W:Nat->Nat->List V->ag->Prop,(∃ m,W 0 m [] H)/\qe (jO lo n) g cn bf cJ Q W:=by
 refine ⟨fun i m ys H=>m=n - i/\i <= n/\Pv i ys H,⟨n,by simp,fv _,h0⟩,?_⟩;rintro i m ys H ⟨rfl,ai,p⟩;have As:=aA i ys H ai p;by_cases cx:i < n
 .refine .inr ⟨cx,by omega,fun x I y=>?_⟩;obtain ⟨e,y⟩:=y;subst e y;exact aw i ys _ cx p (fun iF I=>∃ dd,dd < n - i/\dd=n - (i + 1)/\i + 1 <= n/\Pv (i + 1) iF I) fun iF I r=>⟨n - (i + 1),by omega,rfl,cx,r⟩
 .have e:i=n:=by omega
  subst e;exact .inl ⟨b2 _,hd ys H p⟩
noncomputable def w6 (xs:List V):gU:=⟨fun i _=>i < xs.length,fun i H x I=>I=H/\xs[i]? = some x,fun i _=>xs.length <= i⟩
theorem bv {P:Program} {w:World} {K:a6} {ck:Expr} {it:Addr} {xs:List V} {MW:Nat->Value->Prop} {St:Nat->Heap->Prop} (ka:∀ A:Around,A.handled=none->Walks P w A it [it] [it] xs.length MW St)
  (en:∀ i v,MW i v->∃ x,xs[i]? = some x/\bO x v)
  (sR:∀ i h,St i h->∃ o n vs,h.get? it=some o/\o.cls=.type n/\o.data=.fields vs/\["enumerate","zip","dict_itemiterator","dict_reverseitemiterator","odict_iterator","itertools.zip_longest","itertools.pairwise"].contains n=false)
  (mC:∀ i h h',St i h->(∀ o,h.get? it=some o->h'.get? it=some o)->St i h')
  (Ut:∀ (A:Around) (i:Nat) (s:Shared) (Q:Value->Shared->Prop) (E:Value->Shared->Prop),St i s.heap->Q (.ref it) s->wpAny (model P w) A (pyIter (.ref it)) Q E s) :
  pJ P w K ck (w6 xs) [it] it (fun i h=>i <= xs.length/\St i h) where
 mem:=by simp
 obj:=fun i h st b ab=>by
  have e:b=it:=by simpa using ab
  subst e;obtain ⟨o,n,vs,e,_,d,_⟩:=sR i h st.2;exact ⟨o,e,fun v z=>by rw [d] at z;cases z⟩
 keep:=fun i h h' st k=>⟨st.1,mC i h h' st.2 fun o e=>k it (by simp) o e⟩
 item:=by
  intro X oB hw eV ar i aa s σ H E J hf st a3;subst oB hw eV;obtain ⟨f0,f1,f2,e1,f4,fC⟩:=hf it (by simp);refine (ka X.A (J.ok.hd ar)).item i s _ _ a3 st.2 fun v h' cG aM j4 kQ=>?_
  obtain ⟨x,av,bc⟩:=en i v aM;have aO:Inv X aa σ H { s with heap:=h',toks:=cG }:=J.turned (fun b o ab e=>kQ b o (by simpa using ab) e) f0 f1 e1 f4 fC;obtain ⟨o,n,vs,e,c,d,nm⟩:=sR _ _ j4;exact ⟨v,rfl,vw (s:={ s with heap:=h',toks:=cG }) e c d nm ⟨x,H,aO,bc,⟨rfl,av⟩,⟨a3,j4⟩,fun b ab=>(hf b ab).1⟩⟩
 done:=by
  intro X oB hw eV ar i aa s σ H E J hf st a3;subst oB hw eV;obtain ⟨f0,f1,f2,e1,f4,fC⟩:=hf it (by simp);have e:i=xs.length:=Nat.le_antisymm st.1 a3;subst e;exact (ka X.A (J.ok.hd ar)).done s _ _ st.2 fun h' cG kQ=>⟨rfl,J.turned (fun b o ab e=>kQ b o (by simpa using ab) e) f0 f1 e1 f4 fC⟩
 self:=fun A i s Q E st h=>Ut A i s Q E st.2 h
noncomputable def v' (c:Nat):Str:=⟨#[c]⟩
noncomputable def lz (x:Str):List V:=x.cps.toList.map fun c=>V.str (v' c)
theorem PZ (x:Str):(lz x).length=x.cps.size:=by unfold lz;simp
theorem S1 {x:Str} {i c:Nat} (h:x.cps[i]? = some c):(lz x)[i]? = some (.str (v' c)):=by
 unfold lz;rw [eA,aa_,h];rfl
theorem L_ {x:Str} {i:Nat} {v:Value} (h:SignAt x i v):∃ y,(lz x)[i]? = some y/\bO y v:=by
 obtain ⟨c,u,ar,rfl⟩:=h;exact ⟨.str (v' c),S1 ar,u,rfl⟩
section
variable {X:aL} {ck:Expr}
noncomputable def E2 (eD:TE):TI:=fun σ H R=>eD σ H fun x H1=>∃ z,x=.str z/\R (w6 (lz z)) H1
theorem Yt {l:Expr} {eD:TE} (aA:br X l eD):mV X ck l (E2 eD):=by
 intro aa s σ H R J h;refine bt (aA aa s σ H _ J h) fun v s1 bZ=>d4 bZ fun x H1 aO bK bw=>?_
 obtain ⟨z,e,q⟩:=bw;subst e;obtain ⟨t,rfl⟩:=bK;have gg:∀ b ∈ [s1.heap.objs.size],hQ X aa H1 b:=fun b ab=>by
  have e:b=s1.heap.objs.size:=by simpa using ab
  subst e;exact aO.og (b2 _) (aO.bl.fresh (b2 _))
 have az:=PZ z;cases aJ:z.cps.all (· < 128) with
 | false=>
  refine wpAny_pyIter_wide aJ ⟨s1.heap.objs.size,[s1.heap.objs.size],fun i h=>i <= (lz z).length/\h.IsStrIter s1.heap.objs.size "str_iterator" z t i,_,H1,rfl,aO.kept (t':=s1.toks) fun b o e=>dY _ e,
   bv (fun A fB=>by rw [az];exact Walks.strWide fB _ z t) (fun i v=>L_) (fun i h ⟨o,e,c,d⟩=>⟨o,_,_,e,c,d,by decide⟩) (fun i h h' ⟨o,e,r⟩ k=>⟨o,k o e,r⟩) (fun A i s Q E st q=>wpAny_pyIter_striter_wide st q),
   ⟨fv _,_,gz _ rfl,rfl,rfl⟩,gg,q⟩
 | true=>
  refine wpAny_pyIter_ascii aJ ⟨s1.heap.objs.size,[s1.heap.objs.size],fun i h=>i <= (lz z).length/\h.IsStrIter s1.heap.objs.size "str_ascii_iterator" z t i,_,H1,rfl,aO.kept (t':=s1.toks) fun b o e=>dY _ e,
   bv (fun A fB=>by rw [az];exact Walks.strAscii fB _ z t) (fun i v=>L_) (fun i h ⟨o,e,c,d⟩=>⟨o,_,_,e,c,d,by decide⟩) (fun i h h' ⟨o,e,r⟩ k=>⟨o,k o e,r⟩) (fun A i s Q E st q=>wpAny_pyIter_striter_ascii st q),
   ⟨fv _,_,gz _ rfl,rfl,rfl⟩,gg,q⟩
end
theorem Yh {xs:List V} {g:dC} {cn:TT} {bf:TE} {cJ:St} {Q:bG} {H:ag} (Pv:Nat->List V->ag->Prop) (az:xs.length <= sizeLine) (h0:Pv 0 [] H) (aA:∀ i ys H,i <= xs.length->Pv i ys H->ys.length <= i)
  (aw:∀ i x ys H,xs[i]? = some x->Pv i ys H->nI Pv g cn bf cJ i x ys H) (hd:∀ ys H,Pv xs.length ys H->∀ p,H p=none->Q (.ref p) (upd H p (.lst ys))) :
  ∃ W:Nat->Nat->List V->ag->Prop,(∃ m,W 0 m [] H)/\qe (w6 xs) g cn bf cJ Q W:=by
 refine ⟨fun i m ys H=>m=xs.length - i/\i <= xs.length/\Pv i ys H,⟨xs.length,by simp,fv _,h0⟩,?_⟩;rintro i m ys H ⟨rfl,ai,p⟩;have As:=aA i ys H ai p;by_cases cx:i < xs.length
 .refine .inr ⟨cx,by omega,fun x I y=>?_⟩;obtain ⟨e,y⟩:=y;subst e;exact aw i x ys _ y p (fun iF I=>∃ dd,dd < xs.length - i/\dd=xs.length - (i + 1)/\i + 1 <= xs.length/\Pv (i + 1) iF I) fun iF I r=>⟨xs.length - (i + 1),by omega,rfl,cx,r⟩
 .have e:i=xs.length:=by omega
  subst e;exact .inl ⟨b2 _,hd ys H p⟩
section
variable {X:aL}
noncomputable def Er:V->Option Int->Option Int->ag->bG->Prop:=fun x lo ai H Q=>∃ z,x=.str z/\z.length <= sizeLine/\Q (.str (vO z lo ai)) H
theorem Mz:zS X Er:=by
 intro aa s σ H x v iG iH lo ai aP Q J bc aw pl pu h;obtain ⟨z,rfl,az,q⟩:=h;obtain ⟨t,rfl⟩:=bc;refine ⟨"str",_,F.slot_str_getitem.lookup,typeIs_str s z t,?_⟩;have fin:∀ t' k,fT X aa σ Q (.str (vO z lo ai) t') { s with toks:=k }:=fun t' k=>⟨.str _,H,J.tok _,⟨_,rfl⟩,q⟩
 cases pl with
 | none=>
  cases pu with
  | none=>exact wpAny_getItem_str_slice (l:=none) (u:=none) (st:=none) aw rfl (post_val_or_str ⟨c1 (EI z _ _) az,fin⟩)
  | int j G6=>exact wpAny_getItem_str_slice (l:=none) (u:=some (j,G6)) (st:=none) aw rfl (post_val_or_str ⟨c1 (EI z _ _) az,fin⟩)
 | int i Qd=>
  cases pu with
  | none=>exact wpAny_getItem_str_slice (l:=some (i,Qd)) (u:=none) (st:=none) aw rfl (post_val_or_str ⟨c1 (EI z _ _) az,fin⟩)
  | int j G6=>exact wpAny_getItem_str_slice (l:=some (i,Qd)) (u:=some (j,G6)) (st:=none) aw rfl (post_val_or_str ⟨c1 (EI z _ _) az,fin⟩)
noncomputable def bE (ys:List Str):List V:=ys.map V.str
theorem Ll:∀ {ys:List Str} {us:List Value},re (bE ys) us->StrsAre us ys:=by
 intro ys
 induction ys with
 | nil=>intro us r;cases r;exact .nil
 | cons y ys cj=>
  intro us r;cases r with
  | cons bK cL=>
   obtain ⟨t,rfl⟩:=bK;exact .cons y t (cj cL)
theorem J4:∀ (l:List (Str × Tok)),re (bE (l.map (·.1))) (strValues l)
 | []=>.nil
 | (x,t) :: r=>.cons ⟨t,rfl⟩ (J4 r)
noncomputable def DT (K:a6):V->List V->ag->bG->Prop:=fun x vs H Q=>∃ sep p ys,x=.str sep/\vs=[.ref p]/\aK K H p (bE ys)/\(ys.map (·.length)).sum + ys.length * sep.length <= 16777216/\Q (.str (uP sep ys)) H
theorem L6:vd X "str.join" (DT X.K):=by
 intro aa s σ H x xs v us Q J bc cf h;obtain ⟨sep,p,ys,rfl,rfl,aH,az,q⟩:=h;obtain ⟨t,rfl⟩:=bc;obtain ⟨u,rfl,eH⟩:=mg cf;cases eH;obtain ⟨a0,r,pl,_⟩:=J.list aH;exact join_list pl.isList (by simpa using Ll r) az fun t' k=>⟨.str _,H,J.tok _,⟨_,rfl⟩,q⟩
end
theorem XB {prog:Program} {w:World} {A:Around} {E:Value->Shared->Prop} {s:Shared} {x y:Str} {t u:Tok} {Q:Value->Shared->Prop} (bI:(y.length == 0)=false)
  (h:∀ l k,l.map (·.1)=gT x y->Q (.ref s.heap.objs.size) { s with heap:=s.heap.push { cls:=.type "list",data:=.seq (strValues l).toArray },toks:=k }) (hsz:x.length + 2 <= sizeLine) :
  wpAny (model prog w) A (call (.builtin "str.split") [.str x t,.str y u]) Q E s:=by
 have aF:(aeq x (qm x y 0 x.length (x.length + 1)) y.length).length <= sizeLine:=by
  have ax:=StrLaws.occ_length_le x y 0 x.length (x.length + 1);rw [length_partsBetween];omega
 cases ae:(decide (x.length < y.length) || decide (abB x < abB y))
 .cases hf:(qm x y 0 x.length (x.length + 1)).isEmpty
  .refine call_meets Bu (typeIs_str _ _ _) Ko (MT _ _) (meets_str_split_sep x y t u ae bI hf (by omega) aF) ?_;show wants Q E _ { s with toks:=_,heap:=s.heap.push { cls:=.type "list",data:=.seq (strsFrom s.toks (aeq x (qm x y 0 x.length (x.length + 1)) y.length)).toArray } };rw [strsFrom_eq];exact h (numbered s.toks _) _ ((numbered_texts _ _).trans ((if_neg (ne_true_of_eq_false ae)).trans (if_neg (ne_true_of_eq_false hf))).symm)
  .exact call_meets Bu (typeIs_str _ _ _) Ko (MT _ _) (meets_str_split_not_found x y t u ae bI hf)
    (h [(x,t)] s.toks ((if_neg (ne_true_of_eq_false ae)).trans (if_pos hf)).symm)
 .exact call_meets Bu (typeIs_str _ _ _) Ko (MT _ _) (meets_str_split_cannot_occur x y t u ae)
   (h [(x,t)] s.toks (if_pos ae).symm)
section
variable {X:aL}
noncomputable def FL:V->List V->ag->bG->Prop:=fun x vs H Q=>∃ z y,x=.str z/\vs=[.str y]/\y.length ≠ 0/\z.length + 2 <= sizeLine/\(gT z y).length <= sizeLine/\∀ p,H p=none->Q (.ref p) (upd H p (.lst (bE (gT z y))))
theorem OU:vd X "str.split" FL:=by
 intro aa s σ H x xs v us Q J bc cf h;obtain ⟨z,y,rfl,rfl,bI,az,aF,q⟩:=h;obtain ⟨t,rfl⟩:=bc;obtain ⟨u,rfl,eH⟩:=mg cf;obtain ⟨so,rfl⟩:=eH;refine XB (by simpa using bI) (fun l k aA=>?_) az;refine ⟨.ref s.heap.objs.size,_,J.laid (t':=k) (o:=.lst (bE (gT z y))) (fun b o e=>dY _ e) (b2 _) ⟨by unfold bE;rw [a'];exact aF,strValues l,0,by rw [<- aA];exact J4 l,gz _ rfl⟩,rfl,q _ (J.bl.fresh (b2 _))⟩
theorem VD:lO X (.type "int") (fun xs H Q=>∃ z n,xs=[.str z]/\intText? z=some n/\z.length <= 640/\Q (.int n) H):=by
 intro aa s σ H xs us Q J r h;obtain ⟨z,n,rfl,aF,az,q⟩:=h;obtain ⟨u,rfl,t,rfl⟩:=mg r;exact PySem.W.KIN.call_text aF az ⟨.int n,H,J.tok _,⟨_,rfl⟩,q⟩
theorem NQ:∀ {bs:List Bool} {us:List Value},re (bs.map V.bq) us->us=bs.map kC
 | [],_,.nil=>rfl
 | b :: bs,_,.cons r t=>by
  have e:_=kC b:=r;rw [e,NQ t];rfl
theorem aa1 {A:Around} (bs:List Bool):TruthOf X.prog X.w A (fun i v=>(bs.map kC).toArray[i]? = some v) (fun i=>bs.getD i true):=by
 intro i v s Q E en a8;have e:(bs.map kC)[i]? = some v:=by simpa using en
 rw [eA] at e;cases q:bs[i]? with
 | none=>rw [q] at e;cases e
 | some b=>
  rw [q] at e;have bB:kC b=v:=eS e;subst bB;refine wpAny_truthy_bool ?_;have:bs.getD i true=b:=by simp [Lx,q]
  have J8:Q (bs.getD i true) s:=a8;rw [this] at J8;exact J8
theorem VV (bs:List Bool):(fc bs.length).all (fun i=>bs.getD i true)=bs.all id:=by
 rw [n_];simp only [qG,ph,id];constructor
 .intro h b ab;obtain ⟨i,ai,e⟩:=List.mem_iff_getElem.mp ab;have:=h i ai;simp [Lx,ai,e] at this;exact this
 .intro h i ai;simp [Lx,ai];exact h _ (vC ai)
theorem Vs (ar:X.calm=true):lO X (.builtin "all") (fun xs H Q=>∃ (p:Addr) (bs:List Bool),xs=[.ref p]/\aK X.K H p (bs.map V.bq)/\Q (.bq (bs.all id)) H):=by
 intro aa s σ H xs us Q J r h;obtain ⟨p,bs,rfl,aH,q⟩:=h;obtain ⟨u,rfl,eH⟩:=mg r;cases eH;obtain ⟨a0,cf,pl,_⟩:=J.list aH;have e:=NQ cf;subst e;refine call_all_walk (wpAny_pyIter_list pl.isList ?_);have bR:p ≠ s.heap.objs.size:=ft (by obtain ⟨o,_,a7,_⟩:=pl;exact dv a7);refine ⟨s.heap.objs.size,_,_,_,_,_,fun i=>bs.getD i true,rfl,RK (show X.A.in1.handled=none from J.ok.hd ar) _ p bR (bs.map kC).toArray,⟨⟨_,gz _ rfl,rfl,rfl⟩,pl.isList.at fun o e=>dY _ e⟩,aa1 bs,fun h' cG kQ=>?_⟩;refine ⟨.bq (bs.all id),H,J.kept fun b o e=>kQ b o (by simpa using ft (dv e)) (dY _ e),?_,q⟩;show kC _=kC _;rw [show (bs.map kC).toArray.size=bs.length by simp,VV]
end
theorem gb {X:aL} {N:List Str} (h:N.Nodup) (e:X.N=N):X.N.Nodup:=e ▸ h
noncomputable def L4 (sc scope:Scope):Bool:=
 (scope.kind == .function) && scope.names.all (fun y=>y.2 != .cell) && scope.names.all (fun y=>y.2 != .free || sc.names.lookup y.1 == some .cell || sc.names.lookup y.1 == some .free) &&
  scope.names.all (fun y=>y.2 != .local || scope.names.lookup y.1 == some .local)
theorem iE {env:Env} {sc scope:Scope} (he:env.scope=sc) (h:L4 sc scope=true):pK env scope:=by
 subst he;unfold L4 at h;simp only [iP,qG] at h;obtain ⟨⟨⟨ae,ak⟩,a_⟩,cv⟩:=h;refine ⟨by simpa using ae,fun y bI e=>?_,fun y bI e=>?_,fun y bI e=>?_⟩
 .have:=ak y bI;rw [e] at this;exact absurd this (by decide)
 .have:=a_ y bI;rw [e] at this;simp only [w5] at this;rcases this with (z | z) | z
  .exact absurd z (by decide)
  .exact .inl (show env.scope.names.lookup y.1=some .cell by simpa using z)
  .exact .inr (show env.scope.names.lookup y.1=some .free by simpa using z)
 .have:=cv y bI;rw [e] at this;simp only [w5] at this;rcases this with z | z
  .exact absurd z (by decide)
  .simpa using z
noncomputable def LS (M:List Str) (scope:Scope) (N:List Str) (sel:List (Option Nat)):Bool:=
 sel.length == N.length && (sel.zip N).all fun p=>match p.1 with | none=>true | some j=>M[j]? == some p.2 && scope.names.lookup p.2 == some .free
theorem iS {M:List Str} {scope:Scope} {N:List Str} {sel:List (Option Nat)} (h:LS M scope N sel=true):vH M scope N sel:=by
 unfold LS at h;simp only [iP,qG] at h;refine ⟨by simpa using h.1,fun i j x ax aG=>?_⟩;have hm:(some j,x) ∈ sel.zip N:=by
  rw [List.mem_iff_getElem?];exact ⟨i,by rw [Wo];exact ⟨ax,aG⟩⟩
 have:=h.2 _ hm;simp only [iP] at this;exact ⟨by simpa using this.1,by simpa using this.2⟩
noncomputable def nR:df->Bool
 | .jL _=>false
 | .i3 _ u=>nR u
 | _=>true
noncomputable def aV (H:ag):Prop:=∀ b o,H b=some o->nR o=true
theorem ea.back {P:Program} {w:World} {H I:ag} {h h':Heap} {a:Addr}:∀ (o:df),nR o=true->ea P w I h' a o->ea P w H h a o->ea P w H h' a o
 | .lst _,_,x,_=>x
 | .tup _,_,x,_=>x
 | .cE _,_,x,_=>x
 | .jL _,e,_,_=>absurd e (by unfold nR;decide)
 | .set _ _,_,x,_=>x
 | .ins _ _ _,_,x,y=>⟨y.1,x.2⟩
 | .own _,_,x,_=>x
 | .zf _,_,x,_=>x
 | .met _ _,_,x,_=>x
 | .AK _ _,_,x,_=>x
 | .i3 cu u,e,x,y=>⟨x.1,ea.back u (by unfold nR at e;exact e) x.2 y.2⟩
 | .o8 _,_,x,_=>x
 | .ext _,_,x,_=>x
section
variable {P:Program} {w:World} {K:a6} {ao:Str->Option Value} {base:Heap}
theorem bg.forget {k:Nat} {f:Addr} {fd:FuncData} {ps:List Str} {sp e3:bo} (F:bg P w K ao base cH k f fd ps sp)
  (h:∀ vs H Q E,e3 vs H Q E->aV H/\sp vs H (fun v I=>aI H I/\Q v H) E):bg P w K ao base cH k f fd ps e3:=by
 refine ⟨fun vs H Q E q=>F.len vs H _ E (h vs H Q E q).2,fun A outer s H args us vs Q E au he ab aM aw=>?_⟩;obtain ⟨bh,q⟩:=h vs H Q E aw;refine codeAny_mono (F.run A outer s H args us vs _ E au he ab aM q) fun r s' aH=>?_
 cases r with
 | error e=>exact aH
 | ok dM=>
  cases dM with
  | next=>exact aH
  | brk=>exact aH
  | cont=>exact aH
  | ret u=>
   obtain ⟨v,I,os,bare,un,bl,cf,a9,d2⟩:=aH;exact ⟨v,H,os,bare,⟨un.keep,un.slot,fun _ _ _ n _=>n,un.there,fun _ _ z=>z,fun _ _ _ z=>z,fun _ ps z=>⟨#[],by rw [z];simp⟩⟩,fun a o e=>(bl a o (a9 a o e)).back o (bh a o e) (he.bl a o e),cf,d2⟩
end
theorem bk {H:ag} {p:Addr} {o:df} (h:H p=none):aI H (upd H p o):=fun b u q=>by rw [aW (cy q h)];exact q
theorem aI.g9 {H H1:ag} {p:Addr} {o:df} (s:aI H H1) (h:H p=none):aI H (upd H1 p o):=fun b u q=>by rw [aW (cy q h)];exact s b u q
structure Sc (K:a6) (a:Addr) (ns:List Int) (H:ag):Prop where
 z7:(∃ o,H a=some (.i3 o (.lst (ns.map V.int))))\/∃ (o:Obj) (a0:Array Value) (n:Nat),K.lookup a=some o/\o.cls=.type "list" /\ o.dict=none/\o.data=.seq a0 n/\a0.size <= sizeLine/\re (ns.map V.int) a0.toList
 bh:aV H
section
variable {K:a6} {a p:Addr} {ns:List Int} {H I:ag} {o:df}
theorem Sc.seq (s:Sc K a ns H):aK K H a (ns.map V.int):=by
 rcases s.z7 with ⟨o,h⟩ | h
 .exact .inl (.inr ⟨o,h⟩)
 .exact .inr h
theorem Sc.new (s:Sc K a ns H) (aq:H p=none) (a7:nR o=true:=by rfl):Sc K a ns (upd H p o):=by
 refine ⟨?_,fun b u e=>?_⟩
 .rcases s.z7 with ⟨cu,h⟩ | h
  .exact .inl ⟨cu,by rw [aW (cy h aq)];exact h⟩
  .exact .inr h
 .by_cases ab:b=p
  .subst ab;rw [aU] at e;cases e;exact a7
  .rw [aW ab] at e;exact s.bh b u e
theorem Sc.set {u:df} (s:Sc K a ns H) (aq:H p=some u) (bQ:∀ cu z,u ≠ .i3 cu z) (a7:nR o=true:=by rfl):Sc K a ns (upd H p o):=by
 refine ⟨?_,fun b x e=>?_⟩
 .rcases s.z7 with ⟨cu,h⟩ | h
  .refine .inl ⟨cu,?_⟩;have bR:a ≠ p:=fun z=>by subst z;rw [aq] at h;exact bQ _ _ (eS h)
   rw [aW bR];exact h
  .exact .inr h
 .by_cases ab:b=p
  .subst ab;rw [aU] at e;cases e;exact a7
  .rw [aW ab] at e;exact s.bh b x e
theorem Sc.UH (n5:tP H) (ej:aK K H a (ns.map V.int)):Sc K a ns H:=by
 refine ⟨?_,fun b u e=>?_⟩
 .rcases ej with (h | ⟨o,h⟩) | h
  .rcases n5 a with z | ⟨cu,xs,z⟩
   .rw [h] at z;cases z
   .rw [h] at z;cases z
  .exact .inl ⟨o,h⟩
  .exact .inr h
 .rcases n5 b with z | ⟨cu,xs,z⟩
  .rw [e] at z;cases z
  .rw [e] at z;cases z;rfl
end
noncomputable def OR (K:a6):bo:=fun vs H Q _=>∃ (a:Addr) (ns:List Int),vs=[.ref a]/\Sc K a ns H/\ns.length <= 63/\∀ I,Q (.bq true) I
theorem hT:bootBuiltins "len"=some (.builtin "len"):=PySem.boot_len
theorem aco:bootBuiltins "all"=some (.builtin "all"):=by ac_nf
theorem aaO:bootBuiltins "min"=some (.builtin "min"):=by ac_nf
theorem am:bootBuiltins "max"=some (.builtin "max"):=by ac_nf
theorem Ze:bootBuiltins "isinstance"=some (.builtin "isinstance"):=by ac_nf
theorem acW:bootBuiltins "int"=some (.type "int"):=by ac_nf
theorem tp:bootBuiltins "str"=some (.type "str"):=by ac_nf
theorem Zv:bootBuiltins "list"=some (.type "list"):=by ac_nf
theorem kL.same {H I:ag} {a:Addr} {o:df} (h:kL H a o) (s:aI H I):kL I a o:=by
 rcases h with h | ⟨cu,h⟩
 .exact .inl (s _ _ h)
 .exact .inr ⟨cu,s _ _ h⟩
theorem aK.same {K:a6} {H I:ag} {a:Addr} {xs:List V} (h:aK K H a xs) (s:aI H I):aK K I a xs:=by
 rcases h with h | h
 .exact .inl (h.same s)
 .exact .inr h
theorem bS.same {K:a6} {H I:ag} {a:Addr} {xs:List V} (h:bS K H a xs) (s:aI H I):bS K I a xs:=by
 rcases h with h | h
 .exact .inl (h.same s)
 .exact .inr h
theorem aV.upd {H:ag} {p:Addr} {o:df} (h:aV H) (a7:nR o=true:=by rfl):aV (upd H p o):=fun b u e=>by
 by_cases ab:b=p
 .subst ab;rw [aU] at e;cases e;exact a7
 .rw [aW ab] at e;exact h b u e
theorem Sc.same {K:a6} {a:Addr} {ns:List Int} {H I:ag} (s:Sc K a ns H) (a9:aI H I) (bh:aV I):Sc K a ns I:=by
 refine ⟨?_,bh⟩;rcases s.z7 with ⟨o,h⟩ | h
 .exact .inl ⟨o,a9 _ _ h⟩
 .exact .inr h
structure NI (K:a6) (C:Addr) (m:Str) (f:Addr):Prop where
 rd:UB K C (.type "type")=true
 fd:abm K (.ref C) (.type "type") m=some (.val (.ref f))
 ga:sS K (.ref C) "__getattribute__"=some (some (.builtin "type.__getattribute__"))
 bF:oh K (.ref f)=true
structure nq (P:Program) (w:World) (K:a6) (ao:Str->Option Value) (base:Heap) (CX:fR) (k:Nat) (kW:Addr->Prop) (m:Str) (ps:List Str) (k_:Addr->bo):Prop where
 ok:∀ C,kW C->∃ f fd,gB K C/\hh K C m f/\bg P w K ao base CX k f fd ps (k_ C)/\bL K fd ps []
noncomputable def OM (kW:Addr->Prop) (m:Str) (k_:Addr->bo) (E:cD) (aQ:TE) (t:dx):TE:=fun σ H Q=>aQ σ H fun x H1=>∃ a C aj aN,x=.ref a/\H1 a=some (.ins C aj aN)/\kW C/\aN.lookup m=none /\
 t σ H1 fun vs ay=>k_ C (x :: vs) ay Q E
section
variable {X:aL} {CX:fR} {k:Nat} {f C:Addr} {fd:FuncData} {ps:List Str} {sp:bo} {dvs:List V} {ds:List Value} {E:cD} {x m:Str} {p pos e9:Pos} {e o:Expr} {a4:List Expr} {aQ:TE} {t:dx}
theorem DI {pl:Sem Bool} (a3:g5 X x) (hm:X.ao x=some (.ref C)) (c:NI X.K C m f) (F:bg X.prog X.w X.K X.ao X.base CX k f fd ps sp) (au:es k X.A) (ab:bL X.K fd ps ds) (hd:re dvs ds) (av:m3 CX X E) (aJ:dr X (e :: a4) t)
  (g_:(x == ("__debug__" : Str))=false:=by decide) (gd:starEach (e :: a4) X.env=(false,eval e X.env) :: starEach a4 X.env:=by rfl) (dn:(backTo pos (starEach a4 X.env)).any (·.1)=false:=by rfl)
  (ct:eval (.Call (.Attribute (.Name x p) m e9) (e :: a4) [] pos) X.env=(do
   let dA <- eval (.Name x p) X.env
   standAt e9.atName
   let (f,first) <- holding [dA] (getMethod dA m pl)
   callWith pos f first (backTo pos (starEach (e :: a4) X.env)) (backToKw pos (keywordEach [] X.env))):=by rfl) :
  br X (.Call (.Attribute (.Name x p) m e9) (e :: a4) [] pos) (vU sp dvs E t):=by
 intro aa s σ H Q J h;refine ze (pl:=pl) (pE J a3 hm ?_ g_) ct;refine afA J.ey c.ga (Vx J.ey c.rd c.fd rfl ?_);have aO:=J.tok (s.toks + 1);refine uw (first:=[]) (h₀:=X.base) J.ok.mod.oE c.bF (bt (aJ pos aa _ σ H _ aO h) fun us s2 ⟨vs,ay,bD,r,b4⟩=>⟨bD.ey,?_⟩) gd dn;exact uG F au ab hd av bD r b4
variable {kW:Addr->Prop} {k_:Addr->bo}
theorem A2 {pl:Sem Bool} (he:br X o aQ) (V:nq X.prog X.w X.K X.ao X.base CX k kW m ps k_) (au:es k X.A) (av:m3 CX X E)
  (ct:eval (.Call (.Attribute o m e9) [] [] pos) X.env=(do
   let dA <- eval o X.env
   standAt e9.atName
   let (f,first) <- holding [dA] (getMethod dA m pl)
   callWith pos f first (backTo pos (starEach [] X.env)) (backToKw pos (keywordEach [] X.env))):=by rfl) :
  br X (.Call (.Attribute o m e9) [] [] pos) (OM kW m k_ E aQ vo):=by
 intro aa s σ H Q J h;refine ze (pl:=pl) (bt (he aa s σ H _ J h) fun u s1 b_=>?_) ct;obtain ⟨x,H1,aO,bc,a,C,aj,aN,ex,c9,ok,l,q⟩:=b_;subst ex;obtain rfl:u=dk a:=bc;obtain ⟨f,fd,c,hm,F,ab⟩:=V.ok C ok;refine wp aO c9 c hm l ?_;exact Y' (first:=[.ref a]) aO.ey hm.bF (uG (us:=[.ref a]) (vs:=[.ref a]) (dvs:=[]) F au ab .nil av aO (.cons rfl .nil) q)
end
section
variable {X:aL} {x:Str} {p pos:Pos} {i:Expr} {ty:TE} {u:Value} {aT:List (Str × V)}
end
theorem gX {f:Str} {v:V}:∀ {aN:List (Str × V)} (b3:List Str),aN.map (·.1)=b3->b3.contains f=false->c_ f v aN=aN ++ [(f,v)]
 | [],_,_,_=>rfl
 | (g,y) :: r,b3,e,h=>by
  cases e;rw [eJ,Bt] at h;have ae:=(Nz.mp h);have bR:¬ g=f:=fun z=>by
   have:=ae.1;rw [z] at this;simp at this
  show (if g=f then _ else _)=_;rw [if_neg bR,gX _ rfl ae.2];rfl
theorem fp {f:Str} {v:V} {aN:List (Str × V)} {n:Nat} (h:aN.length < n):(c_ f v aN).length < n + 1:=j0 (wn f v aN) (by omega)
theorem j9 {f:Str} {v:V}:∀ {aN:List (Str × V)} (b3:List Str) (i:Nat),aN.map (·.1)=b3->b3.findIdx? (· == f)=some i->aN[i]? = some (f,v)->aN.lookup f=some v
 | [],_,_,_,_,h=>by simp at h
 | (g,y) :: r,b3,i,e,h,aM=>by
  cases e;rw [eJ,List.findIdx?_cons] at h;rw [m7];by_cases e:g=f
  .subst e;rw [beq_self_eq_true,if_pos rfl] at h;cases h;have:(g,y)=(g,v):=by simpa using aM
   cases this;rw [beq_self_eq_true]
  .rw [beq_eq_false_iff_ne.mpr e,if_neg (by decide)] at h;obtain ⟨j,aZ,rfl⟩:=Ya.mp h;rw [beq_eq_false_iff_ne.mpr (fun z=>e z.symm)];exact j9 _ j rfl aZ (by simpa using aM)
theorem BO {f:Str}:∀ {aN:List (Str × V)} (b3:List Str),aN.map (·.1)=b3->b3.contains f=false->aN.lookup f=none
 | [],_,_,_=>rfl
 | (g,y) :: r,b3,e,h=>by
  cases e;rw [eJ,Bt] at h;have ae:=(Nz.mp h);rw [m7,ae.1];exact BO _ rfl ae.2
theorem Inv.Nt {X:aL} {aa:List (Addr × Obj)} {σ:St} {H:ag} {s:Shared} {h':Heap} {t':Nat} {bu:List Addr} (J:Inv X aa σ H s) (k:∀ b o,b ∉ bu->s.heap.get? b=some o->h'.get? b=some o)
  (hf:∀ b ∈ bu,hQ X aa H b):Inv X aa σ H { s with heap:=h',toks:=t' }:=by
 have vz:∀ b u,H b=some u->b ∉ bu:=fun b u e z=>by rw [(hf b z).1] at e;cases e
 refine J.step (g':=s.gens) (d':=s.drawn) (ch:=bu) (fun b ab=>?_) (fun b o _ _ ar e _=>k b o ar e) (fun b o _ _ ar e _=>⟨o.slots,k b o ar e⟩) (fun _ _ _ _ n=>n)
  (fun b o ar e=>⟨o,k b o ar e⟩) (fun _ _ e=>e) (fun _ _ _ e=>e) (fun b ps e=>⟨#[],by rw [e];simp⟩) (fun m hm=>?_) (fun b u e=>?_) J.bare
 .obtain ⟨f0,f1,f2,e1,f4,fC⟩:=hf b ab;exact ⟨e1,f1,f4,fC⟩
 .obtain ⟨o,a4,dS,a7,r⟩:=hm;exact ⟨o,a4,dS,k _ o (fun z=>(hf _ z).2.1 rfl) a7,r⟩
 .refine (J.bl b u e).nu (fun c v ar q=>k c v ?_ q) (fun _ q=>q) fun _ _ q=>q
  rcases ar with z | z
  .rw [z];exact vz b u e
  .exact vz c _ z
noncomputable def zu (K:a6) (a:Addr):gU:=
 ⟨fun i H=>∃ xs x,aK K H a xs/\xs[i]? = some x,fun i H v I=>∃ p y,H p=none/\v=.ref p/\(∀ xs,aK K H a xs->xs[i]? = some y)/\I=upd H p (.tup [.int i,y]),fun i H=>∃ xs,aK K H a xs/\xs.length <= i⟩
theorem agR {P:Program} {w:World} {K:a6} {a4:List Expr} {k} {pos:Pos} (a e it:Addr) (bR:e ≠ it) :
  pJ P w K (.Tuple a4 k pos) (zu K a) [e,it] e (fun i h=>∃ old,IsEnum h e it ((i:Nat):Int) old/\h.IsListIter it a i) where
 mem:=by simp
 obj:=fun i h ⟨old,he,ai⟩ b ab=>by
  simp only [dQ,jX,or_false] at ab;rcases ab with rfl | rfl
  .exact ⟨_,he,fun v z=>by
    have z':Kz _=O7 v:=z;cases z'⟩
  .obtain ⟨o,q,c,d⟩:=ai;exact ⟨o,q,fun v z=>by rw [d] at z;cases z⟩
 keep:=fun i h h' ⟨old,he,ai⟩ k=>⟨old,k e (by simp) _ he,ai.at fun o q=>k it (by simp) o q⟩
 item:=by
  intro X en hw eV ar i aa s σ H E J hf ⟨old,he,ai⟩ a3;subst en hw eV;obtain ⟨xs,x,aH,av⟩:=a3;obtain ⟨a0,cf,p,az⟩:=J.list aH;obtain ⟨u,bQ,eH⟩:=cf.get av;refine wpAny_pyNext_enum_item he ai p.isList (x:=u) (by simpa using bQ) bR fun ae RZ Vc agM qi ada=>⟨_,rfl,?_⟩
  refine wpAny_letOwnedTupleGo_enum RZ fun ak SD f6=>?_
  replace f6:z2 e ae ak:=f6;have Kf:e < s.heap.objs.size:=dv he;have aE:∀ b o,b ∉ [e,it]->s.heap.get? b=some o->ak.get? b=some o:=fun b o ab q=>by
   simp only [dQ,jX,or_false,not_or] at ab;exact f6.extBut _ _ ab.1 (ada b o ab.1 ab.2 q)
  have aO:Inv X aa σ H { s with heap:=ak,toks:=s.toks + 1 }:=J.Nt aE hf;have gg:hQ X aa H s.heap.objs.size:=J.og (b2 _) (J.bl.fresh (b2 _));have Rl:ak.get? s.heap.objs.size=some { cls:=.type "tuple",data:=.seq #[.int i s.toks,u] }:=(f6.2 _ (H5 Kf)).trans agM;have bD:=aO.adopt (o:=.tup [.int i,x]) gg ⟨⟨by show 2 <= sizeLine;decide,_,Rl,rfl⟩,[.int i s.toks,u],.cons ⟨_,rfl⟩ (.cons eH .nil),⟨_,Rl,rfl,_,rfl⟩⟩;refine ⟨.ref s.heap.objs.size,_,bD,rfl,⟨_,x,gg.1,rfl,fun ys bI=>by rw [J.JT bI aH];exact av,rfl⟩,⟨u,?_,?_⟩,fun b ab=>?_⟩
  .have ax:((i + 1:Nat):Int)=(i:Int) + 1:=by omega
   rw [ax];exact SD
  .exact Vc.extBut f6.extBut (c6 bR)
  .have cx:b < s.heap.objs.size:=by
    simp only [dQ,jX,or_false] at ab;rcases ab with rfl | rfl
    .exact Kf
    .obtain ⟨o,q,_⟩:=ai;exact dv q
   rw [aW (ft cx)];exact (hf b ab).1
 done:=by
  intro X en hw eV ar i aa s σ H E J hf ⟨old,he,ai⟩ a3;subst en hw eV;obtain ⟨xs,aH,av⟩:=a3;obtain ⟨a0,cf,p,az⟩:=J.list aH;have aA:=cf.length;exact wpAny_pyNext_enum_end (J.ok.hd ar) he ai p.isList (by simp;omega) fun h' dK=>⟨rfl,J.Nt (t':=s.toks) (fun b o ab q=>dK b o (fun z=>ab (by simp [z])) q) hf⟩
 self:=fun _ _ _ _ _ ⟨_,he,_⟩ h=>wpAny_pyIter_enum he h
theorem afa:bootBuiltins "enumerate"=some (.type "enumerate"):=by ac_nf
theorem ww:bootBuiltins "reversed"=some (.type "reversed"):=by ac_nf
section
variable {X:aL}
noncomputable def DJ (K:a6) (aQ:dx):TI:=fun σ H R=>aQ σ H fun vs H1=>∃ a,vs=[.ref a]/\(∃ xs,aK K H1 a xs)/\R (zu K a) H1
theorem tY {a4:List Expr} {k} {uV:Pos} {a:Expr} {aQ:dx} {p pos:Pos} (a3:g5 X "enumerate") (hm:X.ao "enumerate"=none) (aJ:dr X [a] aQ) (aw:starEach [a] X.env=[(false,eval a X.env)]:=by rfl) :
  mV X (.Tuple a4 k uV) (.Call (.Name "enumerate" p) [a] [] pos) (DJ X.K aQ):=by
 intro aa s σ H R J h;refine Call_ (n2 J a3 hm afa (rX (bt (aJ pos aa s σ H _ J h) fun us s1 b_=>?_) aw rfl));obtain ⟨vs,H1,aO,bK,bw⟩:=b_;obtain ⟨a,e,⟨xs,aH⟩,q⟩:=bw;subst e;cases bK with
 | cons r hC=>
  cases hC;cases r;obtain ⟨a0,cf,pl,az⟩:=aO.list aH;refine call_enumerate_list pl.isList fun h' xY Ex hsz aE=>wpAny_pyIter_enum xY ?_
  refine ⟨s1.heap.objs.size + 1,[s1.heap.objs.size + 1,s1.heap.objs.size],_,_,H1,rfl,aO.kept (t':=s1.toks) aE,agR a _ _ (aaH _),⟨_,xY,Ex⟩,fun b ab=>?_,q⟩;have fX:s1.heap.objs.size <= b:=by
   simp only [dQ,jX,or_false] at ab;rcases ab with rfl | rfl
   .exact sG _
   .exact b2 _
  exact aO.og fX (aO.bl.fresh fX)
end
theorem kf {X:aL} {a4:List Expr} {k:Nat} {pos:Pos} {t:pX} {n:Nat} {K:a6} (eV:X.K=K) (ar:X.calm=true) (h:tT X a4 t)
  (aF:(assignEach a4 X.env).length=n:=by rfl) (gd:(assignEach a4 X.env).findIdx? (·.1)=none:=by rfl):lL X (.Tuple a4 k pos) (r8 K n t):=by
 subst eV;exact R' ar h aF gd
section
variable {X:aL}
theorem IT {P:Nat->Value->Prop} {f:Nat->V} (en:∀ i v,P i v->bO (f i) v):∀ (l:List Value) (k:Nat),(∀ j v,l[j]? = some v->P (k + j) v)->re ((fc l.length).map fun i=>f (k + i)) l
 | [],_,_=>.nil
 | v :: r,k,h=>by
  rw [hb,List.range_succ_eq_map,eJ,vI];refine .cons (en _ _ (h 0 v rfl)) ?_;have:=IT en r (k + 1) fun j w aZ=>by
   have:=h (j + 1) w (by simpa using aZ);rwa [show k + 1 + j=k + (j + 1) by omega]
  have e:(fun i=>f (k + 1 + i))=((fun i=>f (k + i)) ∘ Nat.succ):=funext fun i=>by
   show f (k + 1 + i)=f (k + (i + 1));rw [show k + 1 + i=k + (i + 1) by omega]
  rwa [e] at this
theorem Z3 {P:Nat->Value->Prop} {f:Nat->V} (en:∀ i v,P i v->bO (f i) v) {acc:Array Value} {n:Nat} (h:ItemsOf P acc n):re ((fc n).map f) acc.toList:=by
 have:=IT en acc.toList 0 fun j v aZ=>by
  rw [Cg];exact h.2 j v (by rw [<- aa_];exact aZ)
 rw [show acc.toList.length=n by rw [Cn];exact h.1] at this;simpa using this
end
inductive sC (K:a6) (H:ag):Nat->V->V->Bool->Prop
 | flat {k:Nat} {x y:V} (av:kU x=true) (bI:kU y=true):sC K H k x y (kI x y)
 | lst {k:Nat} {p q:Addr} {xs ys:List V} {e:Nat->Bool} (aq:aK K H p xs) (aH:aK K H q ys) (aA:xs.length=ys.length) (he:∀ (j:Nat) (x y:V),xs[j]? = some x->ys[j]? = some y->sC K H k x y (e j)):sC K H (k + 1) (.ref p) (.ref q) ((fc xs.length).all e)
 | ahh {k:Nat} {p q:Addr} {xs ys:List V} (aq:aK K H p xs) (aH:aK K H q ys) (aA:xs.length ≠ ys.length):sC K H (k + 1) (.ref p) (.ref q) false
 | tup {k:Nat} {p q:Addr} {xs ys:List V} {e:Nat->Bool} (aq:bS K H p xs) (aH:bS K H q ys) (he:∀ (j:Nat) (x y:V),xs[j]? = some x->ys[j]? = some y->sC K H k x y (e j)):sC K H (k + 1) (.ref p) (.ref q) ((fc (min xs.length ys.length)).all e && xs.length == ys.length)
section
variable {X:aL} {aa:List (Addr × Obj)} {σ:St} {H:ag} {s:Shared}
end
section
variable {X:aL}
end
end L2
namespace L2
open PySem PySem.Spec PyProof.Rows PySem.Builtin PySem.Builtin.ObjectAttr
theorem NH {H:ag} {a:Addr} {o:df} (h:H a=some o):upd H a o=H:=by
 funext b;unfold upd;by_cases e:b=a
 .rw [if_pos e,e,h]
 .rw [if_neg e]
noncomputable abbrev ha:List Value:=[.type "ValueError",.type "Exception",.type "BaseException",.type "object"]
noncomputable def sv (K:a6) (C fI:Addr):Bool:=
 match K.lookup C with
 | some ⟨.type "type",_,.cls cd,aP⟩=>
  match cd.mro,aP.toList with
  | .ref D :: eD,[_,_,_,_,some (.builtin n),_]=>
   (D == C) && (n == "ValueError.__new__") && (cd.hasDel == false) && (cd.hasDict == true) && PySem.W.tailIn K ha eD && PySem.W.nsOkIn K cd.ns && (NR K cd.ns "__init__" == some (some (.ref fI)))
  | _,_=>false
 | _=>false
theorem aaT {K:a6} {h:Heap} {N:Addr} {pH:Str->Option Value} {x:Str} {v:Value} (eR:K.In h) (G:h.Ns N pH) (e:NR K N x=some (some v)):pH x=some v:=by
 obtain ⟨cu,rows,dS,ax,aG,_,look⟩:=G;unfold NR at e;split at e
 .rename_i a7;have z:=eR _ _ a7;rw [ax] at z;cases z;cases aG;split at e
  .rename_i J1 he;cases e;rw [<- look];unfold nsFind findBy;rw [<- aeJ,he];rfl
  .split at e <;> cases e
 .cases e
theorem F_ {K:a6} {h:Heap} {C fI:Addr} (eR:K.In h) (e:sv K C fI=true) :
  ∃ eD N nm q bs sn sub mL co dO mU eE fN jG mF pH,h.get? C=some (excClassObj nm q C N bs eD true sn sub mL co dO mU eE fN jG mF "ValueError.__new__")/\h.Ns N pH/\pH "__init__"=some (.ref fI)/\OwnTail h ha eD:=by
 unfold sv at e;split at e
 .rename_i dO cd aP a7;split at e
  .rename_i D eD mU eE fN jG n mF hm aw;simp only [iP,beq_iff_eq] at e;obtain ⟨⟨⟨⟨⟨⟨ax,aG⟩,bM⟩,f7⟩,j1⟩,jH⟩,nM⟩:=e;obtain ⟨nm,bs,mro,ns,tK,hd,sn,sub,mL,co,del⟩:=cd;simp only at hm bM f7 jH nM;subst hm ax aG bM f7;obtain ⟨l⟩:=aP;simp only at aw;subst aw;have G:h.Ns ns (h.nsMap ns):=.of_isNs (PySem.W.isNs_of_in eR jH);exact ⟨eD,ns,nm,tK,bs,sn,sub,mL,co,dO,mU,eE,fN,jG,mF,h.nsMap ns,eR _ _ a7,G,aaT eR G nM,PySem.W.tail_of_in eR j1⟩
  .cases e
 .cases e
section
variable {P:Program} {w:World} {A:Around} {h:Heap} {g:Array GenState} {d:Drawn} {t:Nat} {os:OsState} {K:a6} {C fI:Addr} {R:Result->Shared->Prop}
theorem aaS {us:List Value} (eR:K.In h) (e:sv K C fI=true) (hf:PO K (.ref fI)=some (.type "function")) (az:us.length <= sizeLine)
  (aH:∀ h' x,h.objs.size <= x->adu h h' x (.ref C) us->codeAny (model P w) (A.under (.builtin "type.__call__" ⟨.ref C :: us,[]⟩)) (.call (.ref fI) ⟨.ref x :: us,[]⟩) (adi x R) ⟨h',g,d,t,os⟩) :
  codeAny (model P w) A (.call (.ref C) ⟨us,[]⟩) R ⟨h,g,d,t,os⟩:=by
 obtain ⟨eD,N,nm,q,bs,sn,sub,mL,co,dO,mU,eE,fN,jG,mF,pH,cm,bb,ai,T⟩:=F_ eR e;have F:=TJ;have f1:=tc_lookup;have f2:=tc_bind (.ref C);have ty:(⟨h,g,d,t,os⟩:Shared).TypeIs (.ref C) "type" := ⟨_,cm,rfl⟩;refine codeAny_of_tree ?_;show wpAny _ _ (callAny (.ref C) _) _ _ _
 repeat (any_goals (first | assumption | with_reducible refine wpAny_loadPart_at cm ?_ | wp_step))
 refine ⟨rfl,?_⟩;refine codeAny_call_builtin_at (UJ _ (by ac_nf)) entry_typeCall (wpAny_check_type_call_sub cm ?_)
 repeat (first | with_reducible refine wpAny_loadPart_at cm ?_ | with_reducible refine wpAny_madeBy_exc cm ?_ | wp_step)
 refine codeAny_call_builtin_code (UJ _ F.quiet) (wpAny_check_new_subT F T cm ?_);refine codeAny_exc_new_subT (rest:=us) F T cm ?_ az;show wpAny _ _ _ _ _ _;generalize cN:(h.push { cls:=.type "tuple",data:=.seq us.toArray }).push { cls:=.ref C,data:=.fields #[.ref h.objs.size,.none,.none,.none,.bool false,.none] }=ak;have k:∀ b o,h.get? b=some o->ak.get? b=some o:=fun b o z=>by rw [<- cN];exact dY _ (dY _ z)
 have av:ak.get? (h.objs.size + 1)=some { cls:=.ref C,data:=.fields #[.ref h.objs.size,.none,.none,.none,.bool false,.none] }:=by rw [<- cN];heap_get
 have ct:ak.get? h.objs.size=some { cls:=.type "tuple",data:=.seq us.toArray }:=by rw [<- cN];exact dY _ (Heap.get?_push_at rfl rfl)
 have M:adu h ak (h.objs.size + 1) (.ref C) us:=⟨k,Jx (sG _),h.objs.size,av,Jx (b2 _),ct⟩;have ach:(dk C :: eD).contains (.ref C)=true:=by simp
 unfold isInstance
 repeat (first | with_reducible refine wpAny_loadPart_at av ?_ | wp_step)
 refine wpAny_isSubtype_exc (k _ _ cm) ?_;rw [ach]
 repeat wp_step
 show wpAny _ _ (typeLookup (.ref C) _) _ _ _;refine wpAny_typeLookup_tail (k _ _ cm) (bb.keeps k) (T.keeps k) F.mroIs F.init.lookup ?_;rw [ai];refine wpAny_holding (wpAny_bind ((V1 (eR.keeps k) _ hf).here (wpAny_bind (wpAny_call ?_))));refine codeAny_mono (aH ak _ (sG _) M) fun r s' z=>?_
 rcases r with e | (v | _ | _ | _) <;> first | exact z | exact z.elim | skip
 obtain ⟨rfl,z⟩:=z;exact wpAny_pure (wpAny_pure z)
end
noncomputable def u':List Value->Bool
 | .ref _ :: r=>u' r
 | l=>l == ha
theorem oU (self:Value):refuseLoop self "__setattr__" ha=pure ():=by kernel_rfl
theorem Kp (self:Value):∀ {l:List Value},u' l=true->refuseLoop self "__setattr__" l=pure ()
 | .ref c :: r,e=>by rw [refuseLoop_ref];exact Kp self (l:=r) e
 | [],e=>by cases e
 | .type n :: r,e=>by rw [show pB n :: r=ha from beq_iff_eq.mp e];exact oU self
 | .none :: r,e=>by rw [show jw :: r=ha from beq_iff_eq.mp e];exact oU self
 | .bool b :: r,e=>by rw [show kC b :: r=ha from beq_iff_eq.mp e];exact oU self
 | .int b c :: r,e=>by rw [show lq b c :: r=ha from beq_iff_eq.mp e];exact oU self
 | .str b c :: r,e=>by rw [show qz b c :: r=ha from beq_iff_eq.mp e];exact oU self
 | .bytes b c :: r,e=>by rw [show GK b c :: r=ha from beq_iff_eq.mp e];exact oU self
 | .float b c :: r,e=>by rw [show B0 b c :: r=ha from beq_iff_eq.mp e];exact oU self
 | .builtin b :: r,e=>by rw [show wQ b :: r=ha from beq_iff_eq.mp e];exact oU self
theorem GB (T:String) (h:ha.contains (.type T)=true):∀ {l:List Value},u' l=true->l.contains (.type T)=true
 | .ref c :: r,e=>by rw [Bt,GB T h (l:=r) e,zR]
 | [],e=>by cases e
 | .type n :: r,e=>by rw [show pB n :: r=ha from beq_iff_eq.mp e];exact h
 | .none :: r,e=>by rw [show jw :: r=ha from beq_iff_eq.mp e];exact h
 | .bool b :: r,e=>by rw [show kC b :: r=ha from beq_iff_eq.mp e];exact h
 | .int b c :: r,e=>by rw [show lq b c :: r=ha from beq_iff_eq.mp e];exact h
 | .str b c :: r,e=>by rw [show qz b c :: r=ha from beq_iff_eq.mp e];exact h
 | .bytes b c :: r,e=>by rw [show GK b c :: r=ha from beq_iff_eq.mp e];exact h
 | .float b c :: r,e=>by rw [show B0 b c :: r=ha from beq_iff_eq.mp e];exact h
 | .builtin b :: r,e=>by rw [show wQ b :: r=ha from beq_iff_eq.mp e];exact h
structure ix (K:a6) (C:Addr):Prop where
 hd:x2 K C=true
 dA:((DZ K C).any fun cd=>u' cd.mro)=true
 jC:dg K (.ref C) "__setattr__"=some (some (.builtin "object.__setattr__"))
 ga:dg K (.ref C) "__getattribute__"=some (some (.builtin "BaseException.__getattribute__"))
 gt:dg K (.ref C) "__getattr__"=some none
 ex:∃ fI,sv K C fI=true
noncomputable def dB (x C:Addr) (od:Option Addr):Heap->Prop:=fun h=>∃ vs aP,h.get? x=some ⟨.ref C,od,.fields vs,aP⟩/\1 < vs.size/\vs[1]? = some .none/\vs[2]? = some .none
noncomputable def e4 (aj:Addr) (aN:List (Str × V)):Heap->Prop:=fun h=>∃ c3,h.Ns1 aj c3/\(∀ f,hE (aN.lookup f) (c3 f))/\yv c3 (aN.map (·.1))
theorem dB.at {x C:Addr} {od:Option Addr} {h h':Heap} (z:dB x C od h) (k:∀ o,h.get? x=some o->h'.get? x=some o):dB x C od h':=let ⟨vs,aP,e,r⟩:=z;⟨vs,aP,k _ e,r⟩
theorem e4.at {aj:Addr} {aN:List (Str × V)} {h h':Heap} (z:e4 aj aN h) (k:∀ o,h.get? aj=some o->h'.get? aj=some o):e4 aj aN h':=let ⟨c3,e,r⟩:=z;⟨c3,e.at k,r⟩
theorem dB.ok {P:Program} {w:World} {H:ag} {h:Heap} {x C:Addr} {od:Option Addr} (z:dB x C od h):ea P w H h x (.ext (dB x C od)):=by
 obtain ⟨vs,aP,e,r⟩:=id z;exact ⟨z,⟨_,e⟩,fun ae ak q k=>q.at k⟩
theorem e4.ok {P:Program} {w:World} {H:ag} {h:Heap} {aj:Addr} {aN:List (Str × V)} (z:e4 aj aN h):ea P w H h aj (.ext (e4 aj aN)):=by
 obtain ⟨c3,⟨o,a4,dS,e,_⟩,_⟩:=id z;exact ⟨z,⟨_,e⟩,fun ae ak q k=>q.at k⟩
section
variable {prog:Program} {w:World} {A:Around} {E:Value->Shared->Prop} {K:a6} {C x:Addr} {s:Shared} {R:Result->Shared->Prop}
theorem Pr {ox:Obj} {od:Option Obj} {name:Str} {cG:Tok} {v:Value} (eR:K.In s.heap) (bP:r5 s.heap x ox C od) (c:ix K C) (ct:cB K C name)
  (h:wpAny (model prog w) A.in1 (storeInOwnDict (.ref x) (.ref C) (.str name cG) name v false)
   (fun fin s'=>match fin with | .done f=>R (.ok f) s' | .again eN=>eN.quiet=true/\codeAny (model prog w) A eN R s') (fun e s'=>R (.error e) s') s) :
  codeAny (model prog w) A (.call (.builtin "object.__setattr__") ⟨[.ref x,.str name cG,v],[]⟩) R s:=by
 have G:=PySem.F.store_object;obtain ⟨cd,ar,a7⟩:=qc c.dA;have ne:cd.mro.isEmpty=false:=by
  cases q:cd.mro with
  | nil=>rw [q] at a7;cases a7
  | cons _ _=>rfl
 have sub:Ht (model prog w) s.heap (isInstance (.ref x) (.type "object")) true:=
  bP.type.andThen (Tg eR (by unfold wD;rw [ar,Kr,if_neg (by rw [ne];decide),GB "object" (by decide) a7]))
 refine codeAny_call_builtin G.slot.plain G.entry (@PySem.W.check_slot (model prog w) _ _ s "object.__setattr__" "object" "__setattr__" (.ref x) [.str name cG,v] [] _ G.kind G.split sub (G.args (.ref x) (.str name cG) v) ?_);have hm:Ht (model prog w) s.heap (mroOf (.ref C)) cd.mro:=(FU eR ar).andThen .now;rw [PySem.W.osa_eq,refuse_eq];refine wpAny_bind (wpAny_bind (bP.type.here (wpAny_bind (hm.here ?_))));rw [Kp _ a7];exact wpAny_pure (wpAny_bind (bP.type.here (wpAny_bind ((El eR ct).here (wpAny_bind (wpAny_pure h))))))
end
section
variable {X:aL} {aa:List (Addr × Obj)} {σ:St} {H:ag} {s:Shared} {x C aj:Addr} {aN:List (Str × V)} {f:Str} {y:V} {u:Value} {A:Around} {E:Value->Shared->Prop} {Q:Unit->Shared->Prop}
theorem Z7 (J:Inv X aa σ H s) (e:H x=some (.ext (dB x C none))) (c:ix X.K C) (n:cB X.K C f) (bp:bO y u)
  (h:∀ aj s',H aj=none->aj ≠ x->Inv X aa σ (upd (upd H x (.ext (dB x C (some aj)))) aj (.ext (e4 aj [(f,y)]))) s'->Q () s'):wpAny (model X.prog X.w) A (setAttr (.ref x) f u) Q E s:=by
 obtain ⟨vs,aP,av,ef,dy⟩:=(show ea X.prog X.w H s.heap x (.ext (dB x C none)) from J.bl _ _ e).1;have bP:r5 s.heap x ⟨.ref C,none,.fields vs,aP⟩ C none:=⟨av,rfl,rfl,jZ⟩;refine KQ J.ey bP c.jC (Pr (s:={ s with toks:=s.toks + 1 }) J.ey bP c n ?_);obtain ⟨cd,ar,l3⟩:=qc c.hd;refine wpAny_bind (wpAny_pure (wpAny_bind (wpAny_bind (wpAny_loadPart av (wpAny_bind (Pa (s:={ s with toks:=s.toks + 1 }) (FU J.ey ar) ?_))))));rw [l3];show wpAny _ _ (alloc ja >>= fun d=>(update x fun o=>{ o with dict:=some d }) >>= fun _=>dictMade (.ref C) x d) _ _ _;refine wpAny_bind (wpAny_alloc (wpAny_bind ?_));have mw:(s.heap.push ja).get? x=some ⟨.ref C,none,.fields vs,aP⟩:=dY _ av;have acX:x < s.heap.objs.size:=dv av;refine wpAny_update mw (wpAny_pure ?_);have ax:(s.heap.push ja).get? s.heap.objs.size=some ja:=gz s.heap rfl;have bM:(s.heap.push ja).Ns s.heap.objs.size (fun _=>none):=⟨ja,#[],_,ax,rfl,(fun e he=>absurd he (by simp)),fun _=>rfl⟩;generalize LA:(s.heap.push ja).update x (fun o=>{ o with dict:=some s.heap.objs.size })=ak;have b5:s.heap.objs.size ≠ x:=H5 acX;have fN:∀ b,b ≠ x->ak.get? b=(s.heap.push ja).get? b:=fun b ab=>by rw [<- LA];exact jn _ _ (c6 ab)
 have gK:ak.get? x=some ⟨.ref C,some s.heap.objs.size,.fields vs,aP⟩:=by rw [<- LA];exact mR _ mw rfl
 have cP:ak.Ns1 s.heap.objs.size (fun _=>none):=(ae3 bM).at fun o q=>(fN _ b5).trans q
 refine wpAny_bind (wpAny_pure (wpAny_bind ?_));refine wpAny_nsSet1 (s:={ s with heap:=ak,toks:=s.toks + 1 }) cP fun a_ d3 s3=>?_
 have de:yv (fun a=>if a=f then some u else none) [f]:=MZ f u (fun a aJ=>absurd rfl aJ);obtain ⟨Pg,KV,O9,rP,wu,kq⟩:=d3.count de;refine wpAny_bind (wpAny_lookBehind rP (by rw [wu];exact pastItsLine_dict (c1 kq (by rw [sizeLine_eq];show 1 <= _;decide))) ?_);refine wpAny_pure (h s.heap.objs.size _ (J.bl.fresh (b2 _)) b5 ?_);have jG:∀ b o,b ≠ x->s.heap.get? b=some o->a_.get? b=some o:=fun b o ab q=>
  (s3.2 b (fun z=>by rw [z] at q;exact absurd (dv q) (oo _))).trans ((fN b ab).trans (dY _ q))
 have ee:a_.get? x=some ⟨.ref C,some s.heap.objs.size,.fields vs,aP⟩:=(s3.2 x (c6 b5)).trans gK;generalize C':s.heap.update x (fun o=>{ o with dict:=some s.heap.objs.size })=fB;have Rr:∀ b,b ≠ x->fB.get? b=s.heap.get? b:=fun b ab=>by rw [<- C'];exact jn _ _ (c6 ab)
 have Hq:fB.get? x=some ⟨.ref C,some s.heap.objs.size,.fields vs,aP⟩:=by rw [<- C'];exact mR _ av rfl
 have WX:fB.objs.size=s.heap.objs.size:=by rw [<- C'];exact XD _ _ _
 have Fb:=J.write (x:=x) (e:=x) (o:=.ext (dB x C (some s.heap.objs.size))) (h':=fB) (t':=s.toks) (by rw [e];exact jZ) (.inl rfl) (fun b o ab q=>(Rr b ab).trans q) ⟨_,Hq⟩ (dB.ok ⟨vs,aP,Hq,ef,dy⟩);refine Fb.laid (a:=s.heap.objs.size) (h':=a_) (fun b o q=>?_) (zw WX) (e4.ok ⟨_,d3,fun g=>?_,de⟩)
 .by_cases ab:b=x
  .subst ab;rw [Hq] at q;rw [ee,<- q]
  .rw [Rr b ab] at q;exact jG b o ab q
 .show hE (m7 g [(f,y)]) (if g=f then some u else none);by_cases aH:g=f
  .rw [if_pos aH,aH,List.lookup_cons_self];exact bp
  .rw [if_neg aH,mO,beq_false_of_ne aH];exact jZ
theorem aaI (J:Inv X aa σ H s) (e:H x=some (.ext (dB x C (some aj)))) (pn:H aj=some (.ext (e4 aj aN))) (c:ix X.K C) (n:cB X.K C f) (aA:aN.length < 1000) (bp:bO y u)
  (h:∀ s',Inv X aa σ (upd H aj (.ext (e4 aj (c_ f y aN)))) s'->Q () s'):wpAny (model X.prog X.w) A (setAttr (.ref x) f u) Q E s:=by
 obtain ⟨vs,aP,av,ef,dy⟩:=(show ea X.prog X.w H s.heap x (.ext (dB x C (some aj))) from J.bl _ _ e).1;obtain ⟨c3,c4,r,de⟩:=(show ea X.prog X.w H s.heap aj (.ext (e4 aj aN)) from J.bl _ _ pn).1;obtain ⟨od,a7,AO⟩:=Gu c4;have bP:r5 s.heap x ⟨.ref C,some aj,.fields vs,aP⟩ C (some od):=⟨av,rfl,rfl,a7⟩;refine KQ J.ey bP c.jC (Pr (s:={ s with toks:=s.toks + 1 }) J.ey bP c n ?_);obtain ⟨cd,ar,l3⟩:=qc c.hd;refine wpAny_bind (wpAny_pure (wpAny_bind (wpAny_bind (wpAny_loadPart av (wpAny_bind (Pa (s:={ s with toks:=s.toks + 1 }) (FU J.ey ar) ?_))))));rw [l3];refine wpAny_pure (a:=some aj) (wpAny_bind (wpAny_pure (wpAny_bind ?_)));refine wpAny_nsSet1 (s:={ s with toks:=s.toks + 1 }) c4 fun a_ d3 s3=>?_
 obtain ⟨Pg,KV,O9,rP,wu,kq⟩:=d3.count (MZ f u de);refine wpAny_bind (wpAny_lookBehind rP (by rw [wu];exact pastItsLine_dict (c1 kq (by rw [hb,a',sizeLine_eq];omega))) ?_);refine wpAny_pure (h _ ?_);refine J.write (x:=aj) (e:=aj) (by rw [pn];exact jZ) (.inl rfl) (fun b o ab q=>(s3.2 b ab).trans q) ⟨_,rP⟩ (e4.ok ⟨_,d3,fun g=>?_,fun g a3=>?_⟩)
 .show hE ((c_ f y aN).lookup g) (if g=f then some u else c3 g);rw [Dt];by_cases q:g=f
  .rw [if_pos q,if_pos q];exact bp
  .rw [if_neg q,if_neg q];exact r g
 .by_cases q:g=f
  .rw [q];exact (w4 f y aN).1
  .refine (w4 f y aN).2 g (de g fun z=>a3 ?_);show (if g=f then some u else c3 g)=none;rw [if_neg q];exact z
noncomputable def fM (x C:Addr) (od:Option Addr):Heap->Prop:=fun h=>∃ vs aP,h.get? x=some ⟨.ref C,od,.fields vs,aP⟩/\vs[2]? = some .none
theorem fM.at {x C:Addr} {od:Option Addr} {h h':Heap} (z:fM x C od h) (k:∀ o,h.get? x=some o->h'.get? x=some o):fM x C od h':=let ⟨vs,aP,e,r⟩:=z;⟨vs,aP,k _ e,r⟩
theorem fM.ok {P:Program} {w:World} {H:ag} {h:Heap} {x C:Addr} {od:Option Addr} (z:fM x C od h):ea P w H h x (.ext (fM x C od)):=by
 obtain ⟨vs,aP,e,_⟩:=id z;exact ⟨z,⟨_,e⟩,fun ae ak q k=>q.at k⟩
end
noncomputable abbrev pk:=St->ag->(ag->Prop)->Prop
noncomputable def p1 (X:aL) (a4:List Expr) (n:Nat) (t:pk):Prop:=
 ∀ (aa:List (Addr × Obj)) (s:Shared) (σ:St) (H:ag) (Q:ag->Prop) (acc:Str) (R:Str->Shared->Prop),Inv X aa σ H s->acc.length + n <= sizeLine->t σ H Q ->
  (∀ out I s',Inv X aa σ I s'->out.length <= sizeLine->Q I->R out s')->Joins (model X.prog X.w) X.A X.c0 (evalEach a4 X.env) acc R s
noncomputable def B9:pk:=fun _ H Q=>Q H
noncomputable def EG (bf:TE) (t:pk):pk:=fun σ H Q=>bf σ H fun v H1=>∃ i,v=.int i/\i.natAbs.log2 < 1920/\t σ H1 Q
noncomputable def CK (bf:TE) (t:pk):pk:=fun σ H Q=>bf σ H fun v H1=>∃ x,v=.str x/\x.length <= 1000/\(∀ c ∈ x.cps.toList,c < 16 ^ 8)/\t σ H1 Q
noncomputable def Gz (t:pk):TE:=fun σ H Q=>t σ H fun H1=>∀ y:Str,Q (.str y) H1
section
variable {X:aL} {e:Expr} {a4:List Expr} {n:Nat} {t:pk} {bf:TE} {pos:Pos}
theorem u_:p1 X [] 0 B9:=fun aa s σ H Q acc R J aA q h=>h acc H s J aA q
theorem mu {c:Str} {k:Nat} (h:p1 X a4 n t):p1 X (.Constant (.str c) k pos :: a4) (n + c.length) t:=fun aa s σ H Q acc R J aA q gG=>by
 show wpAny _ _ _ _ _ _;refine Uh ⟨c,_,rfl,by rw [strLen_append];omega,h aa _ σ H Q _ R (J.tok _) (by rw [strLen_append];omega) q gG⟩
theorem ya (he:br X e bf) (h:p1 X a4 n t):p1 X (.FormattedValue e (-1) none pos :: a4) (n + 2000) (EG bf t):=fun aa s σ H Q acc R J aA q gG=>by
 show wpAny _ _ _ _ _ _;refine wpAny_FormattedValue_plain (bt (he aa s σ H _ J q) fun u s1 b_=>?_);obtain ⟨v,H1,aO,r,i,ev,ai,bw⟩:=b_;subst ev;obtain ⟨cG,rfl⟩:=(show ∃ cG,u=lq i cG from r);have az:=int_text_fits ai;have L3:(ah (toString i)).length <= 2000:=by
  have e:=int_text_length_le (k:=1920) (by decide) ai;rw [PySem.ofString_length];omega
 refine wpAny_formatField_int ai ⟨_,_,rfl,by rw [strLen_append];omega,h aa _ σ H1 Q _ R (aO.tok _) (by rw [strLen_append];omega) bw gG⟩
theorem t9 (he:br X e bf) (h:p1 X a4 n t):p1 X (.FormattedValue e 114 none pos :: a4) (n + 11000) (CK bf t):=fun aa s σ H Q acc R J aA q gG=>by
 show wpAny _ _ _ _ _ _;refine wpAny_FormattedValue_repr (bt (he aa s σ H _ J q) fun u s1 b_=>?_);obtain ⟨v,H1,aO,r,x,ev,av,ar,bw⟩:=b_;subst ev;obtain ⟨cG,rfl⟩:=(show ∃ cG,u=qz x cG from r);have az:=aiC x ar;refine wpAny_pyReprObj_str ?_ (by rw [sizeLine_eq];omega);exact formatField_str (fun t' aiD=>⟨_,_,rfl,by rw [strLen_append];omega,h aa _ σ H1 Q _ R ((aO.tok _).tok _) (by rw [strLen_append];omega) bw gG⟩) (by rw [sizeLine_eq];omega)
theorem tF {aG:Expr} (h:p1 X (e :: aG :: a4) n t) (aF:n <= sizeLine):br X (.JoinedStr (e :: aG :: a4) pos) (Gz t):=by
 intro aa s σ H Q J q;refine wpAny_JoinedStr (h aa s σ H _ _ _ J (by show 0 + n <= _;omega) q fun out I s' jN aA d2=>⟨aA,?_⟩);exact ⟨.str out,I,jN.tok _,⟨_,rfl⟩,d2 out⟩
end
structure Px (K:a6) (L:Addr) (m:Str):Prop where
 rd:UB K L (.type "type")=true
 fd:abm K (.ref L) (.type "type") m=some (.val (.builtin "ValueError.__init__"))
 ga:sS K (.ref L) "__getattribute__"=some (some (.builtin "type.__getattribute__"))
noncomputable def Di (K:a6) (t:dx):TE:=fun σ H Q=>t σ H fun vs H1=>∃ x C od v,vs=[.ref x,v]/\H1 x=some (.ext (dB x C od))/\ix K C/\Q .bH H1
section
variable {X:aL} {L:Addr} {x:Str} {p pos e9:Pos} {e:Expr} {a4:List Expr} {t:dx}
theorem agz {aa:List (Addr × Obj)} {σ:St} {H:ag} {s:Shared} {a C:Addr} {od:Option Addr} {u:Value} {A:Around} {E:Value->Shared->Prop} {Q:Value->Shared->Prop} (J:Inv X aa σ H s) (c9:H a=some (.ext (dB a C od))) (c:ix X.K C)
  (h:∀ s',Inv X aa σ H s'->Q .none s'):wpAny (model X.prog X.w) A (call (.builtin "ValueError.__init__") [.ref a,u]) Q E s:=by
 obtain ⟨vs,aP,av,ef,dy⟩:=(show ea X.prog X.w H s.heap a (.ext (dB a C od)) from J.bl _ _ c9).1;obtain ⟨fI,G4⟩:=c.ex;obtain ⟨eD,N,nm,q,bs,sn,sub,mL,co,dO,mU,eE,fN,jG,mF,pH,cm,bb,ai,T⟩:=F_ J.ey G4;have F:=TJ;obtain ⟨v0,h0⟩:∃ v0,vs[0]? = some v0:=⟨vs[0]'(by omega),Array.getElem?_eq_getElem (by omega)⟩;obtain ⟨cN,g,d,tt,os⟩:=s;refine wpAny_call (codeAny_call_builtin F.init.plain F.initEntry (wpAny_check_init_subT F T cm av rfl ?_));show wpAny _ _ (newTuple [u] >>= fun cX=>(do
  let old <- field (.ref a) 0
  setField (.ref a) 0 cX
  if let .ref _:=old then letGo [old] []) >>= fun _=>ret .none) _ _ _
 have mw:(cN.push { cls:=.type "tuple",data:=.seq [u].toArray }).get? a=some ⟨.ref C,od,.fields vs,aP⟩:=dY _ av;refine wpAny_bind (wpAny_newTuple (wpAny_bind (wpAny_bind (wpAny_field mw rfl h0 (wpAny_bind (wpAny_setField mw rfl (by omega) ?_))))));have gK:=mR (h:=cN.push { cls:=.type "tuple",data:=.seq [u].toArray }) (pT (·.setIfInBounds 0 (.ref cN.objs.size))) mw rfl;have fin:∀ s',s'=(⟨(cN.push { cls:=.type "tuple",data:=.seq [u].toArray }).update a (pT (·.setIfInBounds 0 (.ref cN.objs.size))),g,d,tt,os⟩:Shared)->Q .none s':=by
  rintro s' rfl;refine h _ ?_;have aO:Inv X aa σ H ⟨cN.push { cls:=.type "tuple",data:=.seq [u].toArray },g,d,tt,os⟩:=J.kept (t':=tt) fun b o q=>dY _ q
  have:=aO.write (x:=a) (e:=a) (o:=.ext (dB a C od)) (h':=(cN.push { cls:=.type "tuple",data:=.seq [u].toArray }).update a (pT (·.setIfInBounds 0 (.ref cN.objs.size)))) (t':=tt) (by rw [c9];exact jZ) (.inl rfl)
   (fun b o ab q=>(jn _ _ (c6 ab)).trans q) ⟨_,gK⟩ (dB.ok ⟨vs.setIfInBounds 0 (.ref cN.objs.size),aP,gK,by simpa using ef,by rw [Jb (by decide)];exact dy.1,by rw [Jb (by decide)];exact dy.2⟩)
  rwa [NH c9] at this
 cases v0 with
 | ref b=>exact wpAny_bind (wpAny_holding (wpAny_point (wpAny_pure (wpAny_pure (fin _ rfl)))))
 | _=>exact wpAny_pure (wpAny_pure (fin _ rfl))
theorem On {pl:Sem Bool} {m:Str} (a3:g5 X x) (hm:X.ao x=some (.ref L)) (c:Px X.K L m) (aJ:dr X (e :: a4) t)
  (g_:(x == ("__debug__" : Str))=false:=by decide) (gd:starEach (e :: a4) X.env=(false,eval e X.env) :: starEach a4 X.env:=by rfl) (dn:(backTo pos (starEach a4 X.env)).any (·.1)=false:=by rfl)
  (ct:eval (.Call (.Attribute (.Name x p) m e9) (e :: a4) [] pos) X.env=(do
   let dA <- eval (.Name x p) X.env
   standAt e9.atName
   let (f,first) <- holding [dA] (getMethod dA m pl)
   callWith pos f first (backTo pos (starEach (e :: a4) X.env)) (backToKw pos (keywordEach [] X.env))):=by rfl) :
  br X (.Call (.Attribute (.Name x p) m e9) (e :: a4) [] pos) (Di X.K t):=by
 intro aa s σ H Q J h;refine ze (pl:=pl) (pE J a3 hm ?_ g_) ct;refine afA J.ey c.ga (Vx J.ey c.rd c.fd rfl ?_);refine abP (bt (aJ pos aa _ σ H _ (J.tok (s.toks + 1)) h) fun us s2 b_=>?_) gd dn;obtain ⟨vs,ay,bD,r,a,C,od,v,ev,c9,nB,q⟩:=b_;subst ev;obtain ⟨oQ,Es,rfl,bK,cL⟩:=A0 r;obtain rfl:oQ=dk a:=bK;exact agz bD c9 nB fun s3 eb=>⟨.bH,ay,eb,rfl,q⟩
end
structure nZ (K:a6) (C fI:Addr):Prop where
 e:sv K C fI=true
 fn:PO K (.ref fI)=some (.type "function")
 bF:oh K (.ref C)=true
noncomputable def HE (C:Addr) (sp:bo) (t:dx):TE:=fun σ H Q=>t σ H fun vs H1=>vs.length <= sizeLine/\∀ x,H1 x=none->sp (.ref x :: vs) (upd H1 x (.ext (dB x C none))) (fun v ay=>v=.bH/\Q (.ref x) ay) (fun _ _ _=>False)
noncomputable def Ou (K:a6) (aQ dH:TE) (f:Str):cV:=fun D σ H=>dH σ H fun y H1=>aQ σ H1 fun x ay=>∃ a C,x=.ref a/\ay a=some (.ext (dB a C none))/\ix K C/\cB K C f /\
 ∀ aj,ay aj=none->aj ≠ a->D.b5 σ (upd (upd ay a (.ext (dB a C (some aj)))) aj (.ext (e4 aj [(f,y)])))
noncomputable def LL (K:a6) (aQ dH:TE) (f:Str):cV:=fun D σ H=>dH σ H fun y H1=>aQ σ H1 fun x ay=>∃ a C aj aN,x=.ref a/\ay a=some (.ext (dB a C (some aj)))/\ay aj=some (.ext (e4 aj aN))/\ix K C/\cB K C f/\aN.length < 1000 /\
 D.b5 σ (upd ay aj (.ext (e4 aj (c_ f y aN))))
section
variable {X:aL} {k:Nat} {f C:Addr} {fd:FuncData} {ps:List Str} {sp:bo} {x g:Str} {p pos pos' e9:Pos} {e o value:Expr} {a4:List Expr} {aQ dH:TE} {t:dx}
theorem agS {aa:List (Addr × Obj)} {σ:St} {H:ag} {s:Shared} {Q:bG} {us:List Value} {vs:List V} (M:nZ X.K C f) (F:bg X.prog X.w X.K X.ao X.base (fun _ _ _ _ _ _=>False) k f fd ps sp) (au:es (k + 1) X.A) (ab:bL X.K fd ps [])
  (J:Inv X aa σ H s) (r:re vs us) (az:vs.length <= sizeLine) (h:∀ x,H x=none->sp (.ref x :: vs) (upd H x (.ext (dB x C none))) (fun v ay=>v=.bH/\Q (.ref x) ay) (fun _ _ _=>False)) :
  wpAny (model X.prog X.w) X.A (call (.ref C) us) (fT X aa σ Q) X.c0 s:=by
 obtain ⟨cN,g,d,tt,os⟩:=s;refine wpAny_call (aaS (fI:=f) J.ey M.e M.fn (by rw [<- r.length];exact az) fun h' x av JI=>?_);obtain ⟨cX,ox,_,_⟩:=JI.there;have bD:=J.laid (a:=x) (o:=.ext (dB x C none)) (h':=h') (t':=tt) JI.keeps av (dB.ok ⟨_,_,ox,Nat.lt_of_lt_of_eq (show 1 < 6 by decide) rfl,rfl,rfl⟩);have aH:=h x (J.bl.fresh av);have cL:re (V.ref x :: vs) (dk x :: us):=.cons rfl r;have aA:((dk x :: us) ++ []).length=ps.length:=by
  rw [oa,<- cL.length];exact F.len _ _ _ _ aH
 have pU:=ab ⟨h',g,d,tt,os⟩ (dk x :: us) bD.ey aA;rw [oa] at pU;refine codeAny_mono (F.run _ X.stack _ _ ⟨dk x :: us,[]⟩ (dk x :: us) _ _ _ (au.make C us []) (bD.xZ.make C us []) pU cL aH) fun r s' o4=>?_
 rcases r with e | (u | _ | _ | _) <;> first | exact jg o4 | skip
 obtain ⟨v,I,eb,cf,ev,d9⟩:=bD.after o4;subst ev;exact ⟨cf,⟨V.ref x,I,eb,rfl,d9⟩⟩
theorem No (M:nZ X.K C f) (F:bg X.prog X.w X.K X.ao X.base (fun _ _ _ _ _ _=>False) k f fd ps sp) (au:es (k + 1) X.A) (a3:g5 X x) (hm:X.ao x=some (.ref C)) (ab:bL X.K fd ps [])
  (aJ:dr X (e :: a4) t) (g_:(x == ("__debug__" : Str))=false:=by decide) (he:starEach (e :: a4) X.env=(false,eval e X.env) :: starEach a4 X.env:=by rfl) (dn:(backTo pos (starEach a4 X.env)).any (·.1)=false:=by rfl) :
  br X (.Call (.Name x p) (e :: a4) [] pos) (HE C sp t):=by
 intro aa s σ H Q J h;refine wpAny_Call_Name_kw (pE J a3 hm ?_ g_);exact uw (h₀:=X.base) J.ok.mod.oE M.bF (bt (aJ pos aa s σ H _ J h) fun us s1 ⟨vs,H1,aO,r,az,q⟩=>⟨aO.ey,agS M F au ab aO r az q⟩) he dn
theorem w2 (aJ:br X o aQ) (aM:br X value dH) (aw:swapsWith value (some (.Attribute o g pos')) pos.line X.env=pure false):gc X (.Assign [.Attribute o g pos'] value pos) (Ou X.K aQ dH g):=by
 intro aa s σ H D J h;refine plainObj_wpAny_Assign_Attribute (bt (aM aa s σ H _ J h) fun u s1 bZ=>d4 bZ fun y H1 aO bp q=>bt (aJ aa s1 σ H1 _ aO q) fun dA s2 b_=>?_) aw;obtain ⟨x,ay,bD,bc,a,C,ex,c9,c,n,b4⟩:=b_;subst ex;obtain rfl:dA=dk a:=bc;exact Z7 bD c9 c n bp fun aj s3 hd bR eb=>⟨σ,_,eb,b4 aj hd bR⟩
theorem x6 (aJ:br X o aQ) (aM:br X value dH) (aw:swapsWith value (some (.Attribute o g pos')) pos.line X.env=pure false):gc X (.Assign [.Attribute o g pos'] value pos) (LL X.K aQ dH g):=by
 intro aa s σ H D J h;refine plainObj_wpAny_Assign_Attribute (bt (aM aa s σ H _ J h) fun u s1 bZ=>d4 bZ fun y H1 aO bp q=>bt (aJ aa s1 σ H1 _ aO q) fun dA s2 b_=>?_) aw;obtain ⟨x,ay,bD,bc,a,C,aj,aN,ex,c9,pn,c,n,aA,b4⟩:=b_;subst ex;obtain rfl:dA=dk a:=bc;exact aaI bD c9 pn c n aA bp fun s3 eb=>⟨σ,_,eb,b4⟩
end
noncomputable def l6 (x C:Addr) (od:Option Addr) (T:Addr) (dM:Value) (h:Heap):Prop:=
 T ≠ x/\∃ vs aP qM il,h.get? x=some ⟨.ref C,od,.fields vs,aP⟩/\vs[1]? = some (.ref T)/\h.get? T=some qM/\qM.data=.fields il/\il[3]? = some dM/\vs[2]? = some .none
theorem l6.p0 {x C T:Addr} {od:Option Addr} {dM:Value} {h:Heap} (z:l6 x C od T dM h):fM x C od h:=let ⟨_,vs,aP,_,_,e,_,_,_,_,r⟩:=z;⟨vs,aP,e,r⟩
structure mY (aN:List Addr) (x:Addr) (qu:Option Addr) (h h':Heap):Prop where
 keep:∀ b o,h.get? b=some o->b ∉ aN->b ≠ x->some b ≠ qu->h'.get? b=some o
 slot:∀ b o,h.get? b=some o->b ∈ aN->∃ aP,h'.get? b=some { o with slots:=aP }
 there:∀ b o,h.get? b=some o->∃ e7,h'.get? b=some e7
section
variable {M:Model} {A:Around} {E:Value->Shared->Prop} {s:Shared}
theorem uI {base h:Heap} {l:List Env} {b:Addr} {o:Obj} {vs:Array Value} (aA:h.FunFrames base l) (e:h.get? b=some o) (d:o.data=.fields vs):b ∉ gR l:=fun hm=>by
 obtain ⟨_,e7,bB,jK⟩:=aA.mem hm;rw [e] at bB;cases bB;exact jK vs d
theorem U5 {env lU:Env} {L:Addr} (hf:env.frame=some L) (ob:lU.frame=some L):Ii lU=Ii env:=by
 unfold Ii;rw [ob,hf]
theorem Oh {base:Heap} {env lU:Env} {outer:List Env} {L x C:Addr} {od:Option Addr} {vs:Array Value} {aP:Array (Option Value)} {head:Value} {aF:Bool} {Q:Unit->Shared->Prop}
  (mC:A.frames=some (env :: outer)) (aA:s.heap.FunFrames base (env :: outer)) (hf:env.frame=some L) (ob:lU.frame=some L) (he:s.heap.get? x=some ⟨.ref C,od,.fields vs,aP⟩) (az:1 < vs.size) (ql:vs[2]? = some .none)
  (h:∀ h' T,mY (gR (env :: outer)) x none s.heap h'->s.heap.objs.size <= T->l6 x C od T (rawInt L) h'->Q () { s with heap:=h' }) :
  wpAny M A (do let a <- Ii lU;let pl <- entryPlaceOf L aF;let b <- aad head a .none (rawInt L) .none pl;setField (.ref x) 1 b) Q E s:=by
 have b5:x ∉ gR (env :: outer):=uI aA he rfl;rw [U5 hf ob];refine wpAny_bind (wpAny_frameOf_fun mC aA hf fun ae S=>wpAny_bind (wpAny_entryPlaceOf fun pl aq=>?_));unfold aad newFields;refine wpAny_bind (wpAny_newObj_type ?_ (aq.sizeOk5 _ _ _ _ _));have ax:ae.get? x=some ⟨.ref C,od,.fields vs,aP⟩:=(S.2.1 x b5).trans he;obtain ⟨il,UG,a_⟩:∃ il:Array Value,([head,.ref L,.none,rawInt L,.none] ++ (if pl.isEmpty then v9 6 jw else pl)).toArray=il/\il[3]? = some (rawInt L):=⟨_,rfl,by simp⟩;rw [UG];have aG:=dY (h:=ae) { cls:=.type "traceback",dict:=none,data:=.fields il } ax;have ne:ae.objs.size ≠ x:=H5 (dv ax);have oT:ae.objs.size=s.heap.objs.size:=S.1;refine wpAny_setField aG rfl az (h _ ae.objs.size ⟨fun b o q c4 cP _=>?_,fun b o q c4=>?_,fun b o q=>?_⟩ (zw oT.symm) ⟨ne,vs.setIfInBounds 1 (.ref ae.objs.size),aP,{ cls:=.type "traceback",dict:=none,data:=.fields il },il,mR _ aG rfl,by simp [az],?_,rfl,a_,by rw [Jb (by decide)];exact ql⟩)
 .rw [jn _ _ (c6 cP)];exact dY _ ((S.2.1 b c4).trans q)
 .obtain ⟨sr,bM⟩:=S.2.2 b o q;have nb:x ≠ b:=fun z=>b5 (by rw [z];exact c4)
  exact ⟨sr,(jn _ _ nb).trans (dY _ bM)⟩
 .by_cases ab:b=x
  .rw [ab];exact ⟨_,mR _ aG rfl⟩
  .obtain ⟨sr,bM⟩:=S.2.2 b o q;exact ⟨_,by rw [jn _ _ (c6 ab)];exact dY _ bM⟩
 .exact (jn _ _ (c6 ne)).trans (gz ae rfl)
theorem Yq {base:Heap} {env lU:Env} {outer:List Env} {L x C:Addr} {od:Option Addr} {vs:Array Value} {aP:Array (Option Value)} {Q:Unit->Shared->Prop}
  (mC:A.frames=some (env :: outer)) (aA:s.heap.FunFrames base (env :: outer)) (hf:env.frame=some L) (ob:lU.frame=some L) (he:s.heap.get? x=some ⟨.ref C,od,.fields vs,aP⟩) (ae:vs[1]? = some .none) (ql:vs[2]? = some .none)
  (h:∀ h' T,mY (gR (env :: outer)) x none s.heap h'->s.heap.objs.size <= T->l6 x C od T (rawInt L) h'->Q () { s with heap:=h' }) :
  wpAny M A (noteFrame (.ref x) lU) Q E s:=by
 unfold noteFrame;simp only [ob];refine wpAny_bind (wpAny_field he rfl ae ?_);rw [if_neg (by decide)];exact Oh mC aA hf ob he (CD.mp ae).1 ql h
theorem afB {base:Heap} {env lU:Env} {outer:List Env} {L x C T:Addr} {od:Option Addr} {dM:Value} {Q:Unit->Shared->Prop}
  (mC:A.frames=some (env :: outer)) (aA:s.heap.FunFrames base (env :: outer)) (hf:env.frame=some L) (ob:lU.frame=some L) (z:l6 x C od T dM s.heap) (bR:¬ (dM == rawInt L)=true)
  (h:∀ h' sV,mY (gR (env :: outer)) x (some T) s.heap h'->s.heap.objs.size <= sV->l6 x C od sV (rawInt L) h'->Q () { s with heap:=h' }) :
  wpAny M A (noteFrame (.ref x) lU) Q E s:=by
 obtain ⟨ne,vs,aP,qM,il,he,ae,dN,hd,a_,ql⟩:=z;unfold noteFrame;simp only [ob];refine wpAny_bind (wpAny_field he rfl ae ?_);rw [if_pos (show (dk T != jw)=true from by simp)];refine wpAny_bind (wpAny_field dN hd a_ ?_);rw [if_neg bR];refine wpAny_bind (wpAny_setField dN hd (CD.mp a_).1 ?_);have iv:T ∉ gR (env :: outer):=uI aA dN hd;have jY:∀ b,b ≠ T->(s.heap.update T (pT (·.setIfInBounds 3 jw))).get? b=s.heap.get? b:=fun b ab=>jn _ _ (c6 ab)
 have zY:∃ e7,(s.heap.update T (pT (·.setIfInBounds 3 jw))).get? T=some e7:=⟨_,mR _ dN (UN (Mx hd _))⟩;have Pt:(s.heap.update T (pT (·.setIfInBounds 3 jw))).FunFrames base (env :: outer):=aA.of_keeps fun b o e jK=>⟨o,(jY b fun q=>by rw [q,dN] at e;cases e;exact jK il hd).trans e,rfl⟩
 refine Oh (s:={ s with heap:=s.heap.update T (pT (·.setIfInBounds 3 jw)) }) mC Pt hf ob ((jY x (c6 ne)).trans he) (CD.mp ae).1 ql fun h' sV k w f=>h h' sV ⟨fun b o q c4 cP d3=>?_,fun b o q c4=>?_,fun b o q=>?_⟩ ?_ f
 .exact k.keep b o ((jY b fun y=>d3 (by rw [y])).trans q) c4 cP (fun y=>by cases y)
 .exact k.slot b o ((jY b fun y=>iv (y ▸ c4)).trans q) c4
 .by_cases ab:b=T
  .subst ab;obtain ⟨e7,bB⟩:=zY;exact k.there _ _ bB
  .exact k.there b o ((jY b ab).trans q)
 .exact c1 (zw (XD _ _ _).symm) w
theorem rE {x C T:Addr} {od:Option Addr} {dM:Value} {aN:List Addr} {Q:Unit->Shared->Prop} (o:Option Addr) (z:l6 x C od T dM s.heap) (iv:T ∉ aN)
  (h:∀ h',mY aN x (some T) s.heap h'->l6 x C od T (o.elim .none fun f=>rawInt f) h'->Q () { s with heap:=h' }):wpAny M A (setFlight (.ref x) o) Q E s:=by
 obtain ⟨ne,vs,aP,qM,il,he,ae,dN,hd,a_,ql⟩:=z;have C7:3 < il.size:=(CD.mp a_).1;have jY:∀ b,b ≠ T->(s.heap.update T (pT (·.setIfInBounds 3 (o.elim jw fun f=>rawInt f)))).get? b=s.heap.get? b:=fun b ab=>jn _ _ (c6 ab)
 have zY:=mR (pT (·.setIfInBounds 3 (o.elim jw fun f=>rawInt f))) dN (UN (Mx hd _));unfold setFlight;refine wpAny_bind (wpAny_field he rfl ae ?_);rw [if_pos (show (dk T != jw)=true from by simp)];refine wpAny_setField dN hd C7 (h _ ⟨fun b o q _ _ d3=>(jY b fun y=>d3 (by rw [y])).trans q,fun b o q c4=>⟨o.slots,(jY b fun y=>iv (y ▸ c4)).trans q⟩,fun b o q=>?_⟩
  ⟨ne,vs,aP,_,_,(jY x (c6 ne)).trans he,ae,zY,Mx hd _,by simp [C7],ql⟩)
 by_cases ab:b=T
 .subst ab;exact ⟨_,zY⟩
 .exact ⟨o,(jY b ab).trans q⟩
end
section
variable {P:Program} {w:World} {H:ag} {h h':Heap} {aN:List Addr} {x C T:Addr} {od:Option Addr} {dM:Value} {qu:Option Addr} {o:df}
theorem mY.bl (k:mY aN x qu h h') (ok:eI P w H h) (Q_:∀ b ∈ aN,H b=none) (dN:∀ t,qu=some t->H t=none) (e8:mP (H x)) (new:fM x C od h'):eI P w (upd H x (.ext (fM x C od))) h':=fun b u q=>by
 have tZ:∀ c y,H c=some (.own y)->c ≠ x:=fun c y r z=>by subst z;rw [r] at e8;exact e8
 have BZ:∀ c xs,H c=some (.tup xs)->c ≠ x:=fun c xs r z=>by subst z;rw [r] at e8;exact e8
 have kQ:∀ c v,c ≠ x->H c ≠ none->h.get? c=some v->h'.get? c=some v:=fun c v c4 cP r=>k.keep c v r (fun z=>cP (Q_ c z)) c4 fun z=>cP (dN c z.symm)
 by_cases ab:b=x
 .subst ab;rw [aU] at q;cases q;exact new.ok
 .rw [aW ab] at q;refine (ok b u q).nu (fun c v ar r=>?_) (fun c r=>by rw [aW (tZ c b r)];exact r) fun c xs r=>by rw [aW (BZ c xs r)];exact r
  rcases ar with rfl | ar
  .exact kQ c v ab (by rw [q];exact fun z=>by cases z) r
  .exact kQ c v (tZ c b ar) (by rw [ar];exact fun z=>by cases z) r
theorem mY.un (k:mY aN x qu h h') (dN:∀ t,qu=some t->H t=none) (e8:mP (H x)):f9 aN qu.toList H (upd H x o) h h':=by
 have av:∀ b,H b=none->b ≠ x:=fun b n z=>by subst z;rw [n] at e8;exact e8
 have hm:∀ b u,H b=some u->¬ mP (some u)->b ≠ x:=fun b u q nm z=>by subst z;rw [q] at e8;exact nm e8
 refine ⟨fun b u q n c4 cP=>k.keep b u q c4 (av b n) fun z=>cP (by rw [<- z];simp),fun b u q n c4 cP=>k.slot b u q c4,fun b u q n _=>by rw [aW (av b n)];exact n,fun b u q _=>k.there b u q,
  fun b xs q=>by rw [aW (hm b _ q fun z=>z)];exact q,fun b u xs q=>by rw [aW (hm b _ q fun z=>z)];exact q,fun b ps q=>⟨#[],by rw [aW (hm b _ q fun z=>z),q];simp⟩⟩
end
noncomputable def di (P:Program) (w:World):fR:=fun outer H s E e s'=>
 ∃ x C od I T,e=.ref x/\s'.os=s.os/\AllBare s'.gens/\f9 (gR outer) [] H I s.heap s'.heap/\eI P w I s'.heap/\I x=some (.ext (fM x C od))/\s.heap.objs.size <= T/\I T=none/\l6 x C od T .none s'.heap/\E (.ref C) od I
noncomputable def C0 (X:aL) (E:St->cD):Prop:=∀ (aa:List (Addr × Obj)) (σ:St) (H:ag) (s:Shared) (x C:Addr) (od:Option Addr),Inv X aa σ H s->H x=some (.ext (dB x C od))->E σ (.ref C) od (upd H x (.ext (fM x C od)))->X.c0 (.ref x) s
noncomputable def Eg (CX:fR) (X:aL) (E:St->cD):Prop:=∀ (aa:List (Addr × Obj)) (σ:St) (H:ag) (s:Shared) (e:Value) (s':Shared),Inv X aa σ H s->CX X.stack H s (E σ) e s'->X.c0 e s'
structure l7 (X:aL):Prop where
 st:X.stack=X.env :: X.outer
 fr:X.env.frame=some X.env.locals
noncomputable def vK (X:aL) (aa:List (Addr × Obj)) (T:Addr):Prop:=(T ∈ X.ex\/X.eX.heap.objs.size <= T)/\T ≠ X.env.locals/\(∀ x c,X.env.cells.lookup x=some c->c ≠ T)/\∀ p ∈ X.ek ++ aa,p.1 ≠ T
noncomputable def TD (X:aL) (aa:List (Addr × Obj)) (E:St->cD) (dM:Value) (e:Value) (s':Shared):Prop:=
 ∃ aS I x C od T,e=.ref x/\Inv X aa aS I s'/\I x=some (.ext (fM x C od))/\I T=none/\vK X aa T/\l6 x C od T dM s'.heap/\E aS (.ref C) od I
noncomputable def Ij (X:aL) (aa:List (Addr × Obj)) (E:St->cD) (e:Value) (s':Shared):Prop:=
 ∃ aS I x C od,e=.ref x/\Inv X aa aS I s'/\I x=some (.ext (dB x C od))/\E aS (.ref C) od (upd I x (.ext (fM x C od)))
noncomputable def mv (X:aL) (aa:List (Addr × Obj)) (E:St->cD) (e:Value) (s':Shared):Prop:=Ij X aa E e s'\/∃ dM,TD X aa E dM e s'
noncomputable def sT (X:aL) (E:St->cD) (e:Value) (s':Shared):Prop:=∃ aa,mv X aa E e s'
section
variable {X:aL} {aa:List (Addr × Obj)} {σ:St} {H:ag} {s:Shared} {T x C:Addr} {od:Option Addr} {E:St->cD} {M:Model} {A:Around} {qV:Value->Shared->Prop} {Q:Unit->Shared->Prop} {e dM:Value} {h':Heap}
theorem yy (J:Inv X aa σ H s) (dN:s.heap.objs.size <= T):vK X aa T:=by
 have lt:∀ {b:Addr} {o:Obj},s.heap.get? b=some o->b ≠ T:=fun q z=>by
  subst z;exact absurd (hK (dv q) dN) (oo _)
 refine ⟨.inr (c1 J.oT dN),fun z=>?_,fun x c e=>?_,fun p aq=>lt (J.pin p aq).1⟩
 .obtain ⟨m,⟨o,a4,dS,a7,_⟩,_⟩:=J.loc;exact lt a7 z.symm
 .obtain ⟨v,o,a7,_⟩:=J.cell x c e;exact lt a7
theorem Sj (J:Inv X aa σ H s) (k:mY (gR X.stack) x (some T) s.heap h') (ex:H x=some (.ext (fM x C od))) (h4:H T=none) (iv:vK X aa T) (p0:fM x C od h'):Inv X aa σ H { s with heap:=h' }:=by
 have e8:mP (H x):=by rw [ex];exact jZ
 have z:∀ t,some T=some t->H t=none:=fun t z=>by cases z;exact h4
 have oQ:=k.un (H:=H) (o:=.ext (fM x C od)) z e8;have eE:=k.bl J.bl J.yF z e8 p0;rw [NH ex] at oQ eE;exact J.uv (s':={ s with heap:=h' }) (ch:=[T]) rfl oQ eE J.bare fun b ab=>by
  obtain rfl:b=T:=by simpa using ab
  exact iv
theorem Qw (F:l7 X) (J:Inv X aa σ H s) (k:mY (gR (X.env :: X.outer)) x (some T) s.heap h') (ex:H x=some (.ext (fM x C od))) (h4:H T=none) (iv:vK X aa T) (p0:fM x C od h'):Inv X aa σ H { s with heap:=h' }:=
 Sj J (by rw [F.st];exact k) ex h4 iv p0
theorem TD.note (F:l7 X) (q:TD X aa E dM e s) (bR:¬ (dM == rawInt X.env.locals)=true) (h:∀ s',TD X aa E (rawInt X.env.locals) e s'->Q () s'):wpAny M X.A (noteFrame e X.env) Q qV s:=by
 obtain ⟨σ,H,x,C,od,T,rfl,J,ex,h4,iv,f,w⟩:=q;have aN:s.heap.FunFrames X.base (X.env :: X.outer):=by rw [<- F.st];exact J.stack
 exact afB (by rw [<- F.st];exact J.ok.frames) aN F.fr F.fr f bR fun h' sV k fi uE=>h _ ⟨σ,H,x,C,od,sV,rfl,Qw F J k ex h4 iv uE.p0,ex,J.bl.fresh fi,yy J fi,uE,w⟩
theorem TD.RW (F:l7 X) (q:TD X aa E (rawInt X.env.locals) e s) (h:Q () s):wpAny M X.A (noteFrame e X.env) Q qV s:=by
 obtain ⟨σ,H,x,C,od,T,rfl,J,ex,h4,iv,⟨ne,vs,aP,qM,il,he,ae,dN,hd,a_,_⟩,w⟩:=q;unfold noteFrame;simp only [F.fr];refine wpAny_bind (wpAny_field he rfl ae ?_);rw [if_pos (show (dk T != jw)=true from by simp)];refine wpAny_bind (wpAny_field dN hd a_ ?_);rw [if_pos (show (rawInt X.env.locals == rawInt X.env.locals)=true from by simp)];exact wpAny_pure h
theorem Ij.note (F:l7 X) (q:Ij X aa E e s) (h:∀ s',TD X aa E (rawInt X.env.locals) e s'->Q () s'):wpAny M X.A (noteFrame e X.env) Q qV s:=by
 obtain ⟨σ,H,x,C,od,rfl,J,ex,w⟩:=q;have aN:s.heap.FunFrames X.base (X.env :: X.outer):=by rw [<- F.st];exact J.stack
 obtain ⟨vs,aP,av,ef,dy⟩:=(show ea X.prog X.w H s.heap x (.ext (dB x C od)) from J.bl _ _ ex).1;have e8:mP (H x):=by rw [ex];exact jZ
 refine Yq (by rw [<- F.st];exact J.ok.frames) aN F.fr F.fr av dy.1 dy.2 fun h' T k fi f=>h _ ?_
 have z:∀ t,none=some t->H t=none:=fun t z=>by cases z
 have oQ:=k.un (H:=H) (o:=.ext (fM x C od)) z e8;have eE:=k.bl J.bl (by rw [<- F.st];exact J.yF) z e8 f.p0;rw [<- F.st] at oQ;have bD:=J.uv (s':={ s with heap:=h' }) (ch:=[]) rfl oQ eE J.bare fun b ab=>absurd ab (by simp)
 exact ⟨σ,_,x,C,od,T,rfl,bD,aU,by rw [aW f.1];exact J.bl.fresh fi,yy J fi,f,w⟩
theorem mv.note (F:l7 X) (q:mv X aa E e s) (h:∀ s',TD X aa E (rawInt X.env.locals) e s'->Q () s'):wpAny M X.A (noteFrame e X.env) Q qV s:=by
 rcases q with q | ⟨dM,q⟩
 .exact q.note F h
 .by_cases c:(dM == rawInt X.env.locals)=true
  .rw [beq_iff_eq] at c;subst c;exact q.RW F (h _ q)
  .exact q.note F c h
theorem TD.rE (F:l7 X) (o:Option Addr) (q:TD X aa E dM e s) (h:∀ s',TD X aa E (o.elim .none fun f=>rawInt f) e s'->Q () s'):wpAny M A (setFlight e o) Q qV s:=by
 obtain ⟨σ,H,x,C,od,T,rfl,J,ex,h4,iv,f,w⟩:=q;have aN:s.heap.FunFrames X.base (X.env :: X.outer):=by rw [<- F.st];exact J.stack
 have jK:T ∉ gR (X.env :: X.outer):=by
  obtain ⟨_,_,_,qM,il,_,_,e,d,_⟩:=id f;exact uI aN e d
 exact L2.rE o f jK fun h' k uE=>h _ ⟨σ,H,x,C,od,T,rfl,Qw F J k ex h4 iv uE.p0,ex,h4,iv,uE,w⟩
theorem mv.leave (F:l7 X) (q:mv X aa E e s) (h:∀ s',TD X aa E .none e s'->Q () s'):wpAny M X.A (leaving X.env e) Q qV s:=by
 unfold leaving;exact wpAny_bind (q.note F fun s' d2=>d2.rE F none h)
theorem acC (F:l7 X):PassesOwn M X.A X.env (mv X aa E):=fun e s' q=>by
 refine q.note F fun s2 b4=>?_
 show wpAny _ _ _ _ _ _;obtain ⟨σ,H,x,C,od,T,rfl,J,ex,h4,iv,⟨ne,vs,aP,qM,il,he,ae,dN,hd,a_⟩,w⟩:=id b4;refine wpAny_bind (wpAny_field he rfl ae ?_);rw [if_neg (show ¬ (dk T == jw)=true from by simp)];rw [F.fr];exact b4.rE F _ fun s3 d9=>.inr ⟨_,d9⟩
theorem pN (F:l7 X):PassesOwn M X.A X.env (sT X E):=fun e s' ⟨aa,q⟩=>by
 have z:=acC (M:=M) F e s' q;refine wpAny_mono z (fun _ s2 b4=>?_) fun aG s2 b4=>?_
 all_goals exact wpAny_mono b4 (fun _ s3 d9=>⟨aa,d9⟩) fun bM s3 d9=>⟨aa,d9⟩
theorem ad9:C0 (X.hF (sT X E)) E:=fun aa σ H s x C od J ex q=>⟨aa,.inl ⟨σ,H,x,C,od,rfl,J.lE,ex,q⟩⟩
theorem U_ {tW:cD} {s':Shared} (J:Inv X aa σ H s) (aH:di X.prog X.w X.stack H s tW e s') (h:∀ C od I,tW C od I->E σ C od I):mv X aa E e s':=by
 obtain ⟨x,C,od,ay,T,rfl,os,bare,un,bl,ex,dN,h4,dM,q⟩:=aH;exact .inr ⟨_,σ,ay,x,C,od,T,rfl,J.uv os un bl bare (fun b z=>absurd z (by simp)),ex,h4,yy J dN,dM,h _ _ _ q⟩
end
theorem gJ {X:aL} {E:cD}:m3 (di X.prog X.w) (X.hF (sT X fun _=>E)) E:=fun aa σ H s e s' J aH=>⟨aa,U_ J.lE aH fun _ _ _ z=>z⟩
theorem vk {X:aL} {E:cD}:C0 (X.hF (sT X fun _=>E)) (fun _=>E):=ad9
section
variable {P:Program} {w:World} {K:a6} {ao:Str->Option Value} {base:Heap} {N:List Str} {qual:Str} {scope:Scope} {f:Addr} {cd:Value} {A:Around} {outer:List Env} {s:Shared} {H:ag} {E:cD}
theorem UD {e:Value} {s':Shared} (q:sT (lS (di P w) P w K ao base N qual scope f cd A outer s H E) (fun _=>E) e s'):(lS (di P w) P w K ao base N qual scope f cd A outer s H E).c0 e s':=by
 obtain ⟨aa,q⟩:=q;refine q.leave ⟨rfl,rfl⟩ fun s2 b4=>?_
 obtain ⟨σ,ay,x,C,od,T,rfl,J,ex,h4,iv,dM,q⟩:=b4;refine ⟨x,C,od,ay,T,rfl,J.os,J.bare,J.base,J.bl,ex,?_,h4,dM,q⟩;rcases iv.1 with z | z
 .exact absurd z (by show T ∉ ([]:List Addr);simp)
 .exact z
end
noncomputable def Fy (sp:bo) (dvs:List V) (E:St->cD) (t:dx):TE:=fun σ H Q=>t σ H fun vs H1=>sp (vs ++ dvs) H1 Q (E σ)
section
variable {X:aL} {CX:fR} {k:Nat} {f C:Addr} {fd:FuncData} {ps:List Str} {sp:bo} {dvs:List V} {ds:List Value} {E:St->cD} {x m:Str} {p pos e9:Pos} {e o:Expr} {a4:List Expr} {aQ:TE} {t:dx}
theorem YV {aa:List (Addr × Obj)} {σ:St} {H:ag} {s:Shared} {Q:bG} {us:List Value} {vs:List V} (F:bg X.prog X.w X.K X.ao X.base CX k f fd ps sp) (au:es k X.A) (ab:bL X.K fd ps ds) (hd:re dvs ds) (av:Eg CX X E)
  (J:Inv X aa σ H s) (r:re vs us) (h:sp (vs ++ dvs) H Q (E σ)):wpAny (model X.prog X.w) X.A (call (.ref f) us) (fT X aa σ Q) X.c0 s:=by
 have cL:re (vs ++ dvs) (us ++ ds):=r.append hd;have aA:(us ++ ds).length=ps.length:=by rw [<- cL.length];exact F.len _ _ _ _ h
 refine wpAny_call (codeAny_mono (F.run X.A X.stack s H ⟨us,[]⟩ (us ++ ds) (vs ++ dvs) Q (E σ) au J.xZ (ab s us J.ey aA) cL h) fun r s' aH=>?_);rcases r with e | (u | _ | _ | _)
 .exact av aa σ H s e s' J aH
 all_goals first | exact J.after aH | exact jg aH
theorem VM (F:bg X.prog X.w X.K X.ao X.base CX k f fd ps sp) (au:es k X.A) (a3:g5 X x) (hm:X.ao x=some (.ref f)) (aE:oh X.K (.ref f)=true) (ab:bL X.K fd ps ds) (hd:re dvs ds) (av:Eg CX X E)
  (aJ:dr X (e :: a4) t) (g_:(x == ("__debug__" : Str))=false:=by decide) (he:starEach (e :: a4) X.env=(false,eval e X.env) :: starEach a4 X.env:=by rfl) (dn:(backTo pos (starEach a4 X.env)).any (·.1)=false:=by rfl) :
  br X (.Call (.Name x p) (e :: a4) [] pos) (Fy sp dvs E t):=by
 intro aa s σ H Q J h;refine wpAny_Call_Name_kw (pE J a3 hm ?_ g_);exact uw (h₀:=X.base) J.ok.mod.oE aE (bt (aJ pos aa s σ H _ J h) fun us s1 ⟨vs,H1,aO,r,q⟩=>⟨aO.ey,YV F au ab hd av aO r q⟩) he dn
end
noncomputable abbrev aL.hU (X:aL) (ek:List (Addr × Obj)) (E:Value->Shared->Prop):aL:={ X with ek:=X.ek ++ ek,c0:=E }
noncomputable abbrev aL.aF (X:aL) (e:Value):aL:={ X with A:=X.A.mark (some e),calm:=false,c0:=fun _ _=>False }
section
variable {X:aL} {aa tD:List (Addr × Obj)} {σ:St} {H:ag} {s:Shared} {E:Value->Shared->Prop} {e:Value}
theorem aL.Ok.hU (ok:X.Ok) (ek:List (Addr × Obj)) (E:Value->Shared->Prop):(X.hU ek E).Ok:=
 ⟨ok.mod,ok.kind,ok.glob,ok.blt,ok.above,ok.inj,ok.has,ok.nr,ok.hd,ok.frames,ok.oH,ok.rF,ok.bs,ok.kb,ok.nV,ok.nh,ok.i2,ok.mb⟩
theorem aL.Ok.ml {ek:List (Addr × Obj)} (ok:(X.hU ek E).Ok):X.Ok:=
 ⟨ok.mod,ok.kind,ok.glob,ok.blt,ok.above,ok.inj,ok.has,ok.nr,ok.hd,ok.frames,ok.oH,ok.rF,ok.bs,ok.kb,ok.nV,ok.nh,ok.i2,ok.mb⟩
theorem aL.Ok.aF (ok:X.Ok) (e:Value):(X.aF e).Ok:=
 ⟨ok.mod,ok.kind,ok.glob,ok.blt,ok.above,ok.inj,ok.has,ok.nr,(fun z=>Bool.noConfusion z),ok.frames,ok.oH,ok.rF,ok.bs,ok.kb,ok.nV,ok.nh,ok.i2,ok.mb⟩
theorem Inv.hU (J:Inv X aa σ H s) (E:Value->Shared->Prop):Inv (X.hU aa E) [] σ H s:=⟨J.ok.hU aa E,J.os,J.bare,J.base,J.loc,J.cell,J.free,J.iK,fun p aq=>J.pin p (by simpa using aq),J.bl,J.len⟩
theorem Inv.ml (J:Inv (X.hU aa E) tD σ H s):Inv X aa σ H s:=⟨J.ok.ml,J.os,J.bare,J.base,J.loc,J.cell,J.free,J.iK,fun p aq=>J.pin p (Jr _ aq),J.bl,J.len⟩
theorem Inv.aF (J:Inv X aa σ H s) (e:Value):Inv (X.aF e) aa σ H s:=⟨J.ok.aF e,J.os,J.bare,J.base,J.loc,J.cell,J.free,J.iK,J.pin,J.bl,J.len⟩
theorem Inv.x4 (ok:X.Ok) (J:Inv (X.aF e) aa σ H s):Inv X aa σ H s:=⟨ok,J.os,J.bare,J.base,J.loc,J.cell,J.free,J.iK,J.pin,J.bl,J.len⟩
theorem gQ.ml {D:d5} {f:Flow} {s':Shared} (h:gQ (X.hU aa E) tD D f s'):gQ X aa D f s':=by
 cases f with
 | next=>obtain ⟨aS,I,J,q⟩:=h;exact ⟨aS,I,J.ml,q⟩
 | brk=>obtain ⟨aS,I,J,q⟩:=h;exact ⟨aS,I,J.ml,q⟩
 | cont=>obtain ⟨aS,I,J,q⟩:=h;exact ⟨aS,I,J.ml,q⟩
 | ret u=>obtain ⟨v,aS,I,J,r,q⟩:=h;exact ⟨v,aS,I,J.ml,r,q⟩
end
theorem V9 {X:aL} {aa:List (Addr × Obj)} {E:St->cD}:Eg (di X.prog X.w) (X.hU aa (mv X aa E)) E:=by
 intro tD σ H s e s' J aH;obtain ⟨x,C,od,ay,T,rfl,os,bare,un,bl,ex,dN,h4,dM,q⟩:=aH;have bD:=J.uv os un bl bare (fun b z=>absurd z (by simp));exact .inr ⟨_,σ,ay,x,C,od,T,rfl,bD.ml,ex,h4,yy J.ml dN,dM,q⟩
theorem yH {X:aL} {aa:List (Addr × Obj)} {σ:St} {H:ag} {s:Shared} {i:Nat} {n:Str} {pos:Pos} {A:Around} {E:Value->Shared->Prop} {Q:Unit->Shared->Prop} (J:Inv X aa σ H s) (bb:X.N.Nodup) (ai:X.N[i]? = some n)
  (aA:X.env.scope.names.lookup n=some .local) (h:∀ s',Inv X aa (σ.set i none) H s'->Q () s'):wpAny (model X.prog X.w) A (do bindName X.env n .none;unbindBehindTheSuite X.env n pos) Q E s:=by
 have v5:i < σ.length:=by rw [J.len];exact (cg.mp ai).1
 refine wpAny_bind (wpAny_bindName (zE J bb ai (.inl aA) (v:=.bH) (u:=.none) rfl (fun s1 aO=>?_) (.inr aA)));obtain ⟨m,aF,AO⟩:=aO.loc;have aE:X.env.kindOf n=some .local:=aA;obtain ⟨u,eH,lk⟩:=AO i n .bH ai (oC v5) (.inl aA);have ZU:(m n).isSome=true:=by
  rcases lk with ⟨_,e⟩ | ⟨k,_⟩
  .rw [e];rfl
  .rcases k with k | k <;> (rw [aE] at k;cases k)
 have aq:(X.env.scope.kind == .class || (X.env.scope.kind == .module && X.env.locals != X.env.globals))=false:=by rw [J.ok.kind];rfl
 unfold unbindBehindTheSuite;refine wpAny_onRaise ?_;unfold unbindName;refine wpAny_bind (wpAny_point (wpAny_bind ?_));unfold deleteName;simp only [aE,aq];rw [if_neg (by decide)];refine wpAny_bind (wpAny_nsDel_keeps aF fun ak v2 o2 aw=>?_);rw [ZU];refine wpAny_pure (wpAny_point (h _ ?_));have rH:∀ b o,X.eX.heap.get? b=some o->b ≠ X.env.locals:=fun b o e=>ft (hK (dv e) aO.ok.above)
 refine ⟨aO.ok,aO.os,aO.bare,⟨fun b o e g8 ab av=>(aw.2 b (rH b o e)).trans (aO.base.keep b o e g8 ab av),fun b o e g8 ab av=>?_,aO.base.free,fun b o e av=>?_,aO.base.nJ,aO.base.mm,aO.base.ng⟩,⟨_,o2,fun j y v ax aG bM=>?_⟩,fun y c e=>?_,aO.free,aO.iK,fun p aq=>?_,fun b mf e=>?_,by simpa using J.len⟩
 .obtain ⟨aP,ax⟩:=aO.base.slot b o e g8 ab av;exact ⟨aP,(aw.2 b (rH b o e)).trans ax⟩
 .obtain ⟨e7,ax⟩:=aO.base.there b o e av;exact ⟨e7,(aw.2 b (rH b o e)).trans ax⟩
 .by_cases aZ:j=i
  .subst aZ;rw [oC v5] at aG;cases aG
  .rw [qZ (c6 aZ)] at aG;obtain ⟨mf,fe,q⟩:=AO j y v ax (by rw [qZ (c6 aZ)];exact aG) bM;refine ⟨mf,fe,?_⟩;rcases q with ⟨k,e⟩ | ⟨k,c,e,z⟩
   .refine .inl ⟨k,?_⟩;have:y ≠ n:=fun e=>aZ (CP bb ax (e ▸ ai))
    simp [this,e]
   .exact .inr ⟨k,c,e,z.sameBut aw (aO.n7 y c e)⟩
 .obtain ⟨fi,z⟩:=aO.cell y c e;exact ⟨fi,z.sameBut aw (aO.n7 y c e)⟩
 .obtain ⟨e,g8,ne,jK,d⟩:=aO.pin p aq;exact ⟨(aw.2 p.1 ne).trans e,g8,ne,jK,d⟩
 .have WG:∀ c,H c ≠ none->c ≠ X.env.locals:=fun c q z=>q (by rw [z];exact aO.free)
  refine (aO.bl b mf e).nu (fun c v ar q=>(aw.2 c (WG c ?_)).trans q) (fun _ q=>q) fun _ _ q=>q
  rcases ar with rfl | ar
  .rw [e];exact fun z=>by cases z
  .rw [ar];exact fun z=>by cases z
noncomputable def d5.gone (D:d5) (i:Nat):d5:={ b5:=fun σ H=>D.b5 (σ.set i none) H,kZ:=D.kZ,cO:=fun σ H=>D.cO (σ.set i none) H,eP:=fun σ H=>D.eP (σ.set i none) H }
noncomputable def Fu (K:a6) (c:Addr) (i:Nat) (g6:cV) (D:d5):St->cD:=fun σ C od H=>∃ js,C=.ref js/\eY K C (.ref c)=some true/\∀ x,H x=some (.ext (fM x js od))->g6 (D.gone i) (σ.set i (some (.ref x))) H
noncomputable def Eb (K:a6) (c:Addr) (i:Nat) (bW:(St->cD)->cV) (g6:cV):cV:=fun D σ H=>bW (Fu K c i g6 D) D σ H
section
variable {X:aL} {body rK:List Stmt} {nC:Stmt} {x n:Str} {c:Addr} {i:Nat} {bW:(St->cD)->cV} {g6:cV} {BH aq pos:Pos}
theorem Xz (ab:∀ aa E,gL (X.hU aa (mv X aa E)) body (bW E)) (a3:g5 X x) (hm:X.ao x=some (.ref c)) (cN:∀ e,gL (X.aF e) (nC :: rK) g6) (bb:X.N.Nodup) (ai:X.N[i]? = some n)
  (aA:X.env.scope.names.lookup n=some .local) (F:l7 X:=by exact ⟨rfl,rfl⟩) (g_:(x == ("__debug__" : Str))=false:=by decide) :
  gc X (.Try body [.ExceptHandler (some (.Name x BH)) (some n) (nC :: rK) aq] [] [] pos) (Eb X.K c i bW g6):=by
 intro aa s σ H D J h;refine wpAny_Try_except (wpAny_mono (ab aa _ [] s σ H D (J.hU _) h) (fun f s1 q=>?_) fun e s1 q=>?_)
 .have d2:=q.ml;cases f with
  | next=>exact wpAny_execs_nil d2
  | brk=>exact d2
  | cont=>exact d2
  | ret u=>exact d2
 .refine q.note F fun s2 b4=>b4.rE F none fun s3 d9=>?_
  obtain ⟨fJ,H1,a,C,od,T,rfl,bD,c9,h4,iv,dM,js,DR,em,w⟩:=id d9;cases DR;refine wpAny_handleBy_cons (codeAny_handlers_test (pE (bD.aF (.ref a)) a3 hm ?_ g_)) (fun z=>by cases z);have LT:Ht (model X.prog X.w) s3.heap (typeOf (.ref a)) (.ref C):=by
   obtain ⟨vs,aP,e,_⟩:=dM.p0;exact (aiu e).andThen .now
  refine (PySem.W.exm_one bD.ey LT em).here ?_;rw [if_pos rfl];refine codeAny_handlers_suite_as (d9.rE F none fun s4 kp=>?_)
  .obtain ⟨fJ,H1,m5,C,od,T,ED,eb,c9,h4,iv,dM,js,DR,em,w⟩:=kp;cases DR;cases ED;refine zE (X:=X.aF (.ref a)) (eb.aF (.ref a)) bb ai (.inl aA) (v:=.ref a) (u:=.ref a) rfl (fun s5 iM=>?_) (.inr aA);refine wpAny_mono (cN (.ref a) aa s5 _ H1 (D.gone i) iM (w a c9)) (fun f s5 yr=>?_) fun _ _ z=>jg z
   cases f with
   | next=>obtain ⟨aS,I,bP,q⟩:=yr;exact yH (bP.x4 J.ok) bb ai aA fun hL lD=>⟨_,_,lD,q⟩
   | brk=>obtain ⟨aS,I,bP,q⟩:=yr;exact yH (bP.x4 J.ok) bb ai aA fun hL lD=>⟨_,_,lD,q⟩
   | cont=>obtain ⟨aS,I,bP,q⟩:=yr;exact yH (bP.x4 J.ok) bb ai aA fun hL lD=>⟨_,_,lD,q⟩
   | ret u=>obtain ⟨v,aS,I,bP,r,q⟩:=yr;exact yH (bP.x4 J.ok) bb ai aA fun hL lD=>⟨v,_,_,lD,r,q⟩
end
theorem Sk {X:aL} {body rK:List Stmt} {nC:Stmt} {x n:Str} {c:Addr} {i:Nat} {bW:(St->cD)->cV} {g6:cV} {BH aq pos:Pos} (ab:∀ aa E,∃ t,gL (X.hU aa (mv X aa E)) body t/\t=bW E) (a3:g5 X x) (hm:X.ao x=some (.ref c))
  (cN:∀ e,∃ t,gL (X.aF e) (nC :: rK) t/\t=g6) (bb:X.N.Nodup) (ai:X.N[i]? = some n) (aA:X.env.scope.names.lookup n=some .local) (F:l7 X:=by exact ⟨rfl,rfl⟩)
  (g_:(x == ("__debug__" : Str))=false:=by decide):gc X (.Try body [.ExceptHandler (some (.Name x BH)) (some n) (nC :: rK) aq] [] [] pos) (Eb X.K c i bW g6):=
 Xz (fun aa E=>by obtain ⟨t,h,rfl⟩:=ab aa E;exact h) a3 hm (fun e=>by obtain ⟨t,h,rfl⟩:=cN e;exact h) bb ai aA F g_
theorem Pu (K:a6) (c:Addr) (i:Nat) (bW:(St->cD)->cV) (g6:cV) (D:d5) (σ:St) (H:ag):Eb K c i bW g6 D σ H=bW (Fu K c i g6 D) D σ H:=rfl
theorem LU (K:a6) (c:Addr) (i:Nat) (g6:cV) (D:d5) (σ:St) (C:Value) (od:Option Addr) (H:ag) :
  Fu K c i g6 D σ C od H = ∃ js,C=.ref js/\eY K C (.ref c)=some true/\∀ x,H x=some (.ext (fM x js od))->g6 (D.gone i) (σ.set i (some (.ref x))) H:=rfl
theorem Nw (D:d5) (i:Nat) (σ:St) (H:ag):(D.gone i).b5 σ H=D.b5 (σ.set i none) H:=rfl
theorem OW (D:d5) (i:Nat) (v:V) (H:ag):(D.gone i).kZ v H=D.kZ v H:=rfl
theorem OwnTail.has {h:Heap} {bm eD:List Value} {v:Value} (T:OwnTail h bm eD) (e:bm.contains v=true):eD.contains v=true:=by
 induction T with
 | base=>exact e
 | own _ _ _ _ cj=>rw [Bt,cj,zR]
noncomputable def HZ (K:a6) (E:St->cD) (bf:TE):cV:=fun D σ H=>bf σ H fun v H1=>∃ x C od,v=.ref x/\H1 x=some (.ext (dB x C od))/\ix K C/\E σ (.ref C) od (upd H1 x (.ext (fM x C od)))
theorem aaa {M:Model} {A:Around} {E:Value->Shared->Prop} {s:Shared} {env:Env} {x:Sem Value} {Q:Flow->Shared->Prop} (cN:A.handled=none)
  (h:wpAny M A x (fun v s1=>∃ e C od vs aP nm q N bs bm NT sn sub mL col dO mU eE fN jG mF newId,v=.ref e/\bm.contains (.type "BaseException")=true /\
   s1.heap.get? C=some (excClassObj nm q C N bs bm NT sn sub mL col dO mU eE fN jG mF newId)/\s1.heap.get? e=some ⟨.ref C,od,.fields vs,aP⟩/\vs[1]? = some .none/\E (.ref e) s1) E s) :
  wpAny M A (raiseStmt env (some x) none) Q E s:=by
 unfold raiseStmt;refine wpAny_bind (wpAny_mono h (fun v s1 ae=>?_) fun _ _ x=>x);obtain ⟨e,C,od,vs,aP,nm,q,N,bs,bm,NT,sn,sub,mL,col,dO,mU,eE,fN,jG,mF,newId,rfl,ab,cm,he,ae,xY⟩:=ae;have VG:(dk C :: bm).contains (.type "BaseException")=true:=by rw [Bt,ab,zR]
 obtain ⟨aq,g,d,cG,os⟩:=s1
 repeat (first | with_reducible refine wpAny_loadPart_at he ?_ | with_reducible refine wpAny_loadPart_at cm ?_ | (with_reducible refine wpAny_isSubtype_exc cm ?_;rw [VG]) | (with_reducible refine wpAny_field he rfl ae ?_) | wp_step)
 exact wpAny_raiseNew_none cN xY
section
variable {X:aL} {e:Expr} {bf:TE} {pos:Pos} {E:St->cD}
theorem u9 (he:br X e bf) (dN:C0 X E) (ar:X.calm=true:=by rfl):gc X (.Raise (some e) none pos) (HZ X.K E bf):=by
 intro aa s σ H D J h;rw [arm_exec_Raise];refine wpAny_bind (wpAny_standAt (aaa (J.ok.hd ar) ?_));refine wpAny_bind (bt (he aa s σ H _ J h) fun u s1 ⟨v,H1,aO,r,x,C,od,ev,ex,c,q⟩=>wpAny_bind (wpAny_standAt (wpAny_pure ?_)));subst ev;obtain rfl:u=dk x:=r;obtain ⟨vs,aP,av,ef,dy⟩:=(show ea X.prog X.w H1 s1.heap x (.ext (dB x C od)) from aO.bl _ _ ex).1;obtain ⟨fI,G4⟩:=c.ex;obtain ⟨eD,N,nm,d2,bs,sn,sub,mL,co,dO,mU,eE,fN,jG,mF,pH,cm,bb,ai,T⟩:=F_ aO.ey G4;exact ⟨x,C,od,vs,aP,nm,d2,N,bs,eD,true,sn,sub,mL,co,dO,mU,eE,fN,jG,mF,_,rfl,L2.OwnTail.has T (by decide),cm,av,dy.1,dN aa σ H1 s1 x C od aO ex q⟩
end
theorem bU.iB {P:Program} {w:World} {K:a6} {ao:Str->Option Value} {base:Heap} {x qual:Str} {st:Stmt} {f:Addr} {fd:FuncData} {N ps:List Str} {k:Nat} {sp:bo} (F:bU K x qual st f fd) (S:b0 N ps (bz st))
  (len:∀ vs H Q E,sp vs H Q E->vs.length=ps.length)
  (vG:∀ (e6:Value) (A:Around) (outer:List Env) (s:Shared) (H:ag) (vs:List V) (Q:bG) (E:cD),es k (A.deeper (envOfC qual (bz st) s.heap.objs.size f e6))->sp vs H Q E ->
   ∃ t,gL ((lS (di P w) P w K ao base N qual (bz st) f e6 A outer s H E).hF (sT (lS (di P w) P w K ao base N qual (bz st) f e6 A outer s H E) fun _=>E)) (tn st) t/\t { b5:=fun _ I=>Q .bH I,kZ:=Q } (start N vs) H):bg P w K ao base (di P w) (k + 1) f fd ps sp:=by
 obtain ⟨lb,od,eo,doc,pm,an,e6,eP,nA,rfl,lk,kB⟩:=F.ex;refine N8 lk kB S len fun A outer s H vs Q E au k'=>?_
 obtain ⟨t,h,q⟩:=vG e6 A outer s H vs Q E au k';exact ⟨t,fun aa s1 σ H1 D J hw=>wpAny_mono (h aa s1 σ H1 D (J.hF _) hw) (fun _ _ q=>q.lE) fun _ _ z=>UD z,q⟩
noncomputable def BX (B:aL) (E:cD) (e:Value) (s':Shared):Prop:=
 ∃ aa dM aS I x C od T,e=.ref x/\Inv B aa aS I s'/\I x=some (.ext (fM x C od))/\I T=none/\vK B aa T/\B.eX.heap.objs.size <= T/\l6 x C od T dM s'.heap/\E (.ref C) od I
structure ahx (X:aL) (scope:Scope) (N:List Str) (ck elt:Expr) (ifs:List Expr) (g:dC) (cn:TT) (bf:cD->TE):Prop where
 I5:∀ E C s H bu,lL ((X.block scope C N s H bu).hF (BX (X.block scope C N s H bu) E)) ck g
 tests:∀ E C s H bu,t2 ((X.block scope C N s H bu).hF (BX (X.block scope C N s H bu) E)) ifs cn
 elem:∀ E C s H bu,br ((X.block scope C N s H bu).hF (BX (X.block scope C N s H bu) E)) elt (bf E)
section
variable {X:aL} {elt ck iter:Expr} {ifs:List Expr} {scope:Scope} {pos:Pos} {de:TI} {g:dC} {cn:TT} {bf:cD->TE} {N:List Str} {sel:List (Option Nat)}
end
structure ah7 (K:a6) (C:Addr):Prop where
 cl:gB K C
 aJ:dg K (.ref C) "__class__"=some (some (.builtin "object.__class__"))
 aF:sS K (.builtin "object.__class__") "__get__"=some (some (.builtin "getset_descriptor.__get__"))
 oX:CR K (.builtin "object.__class__")=some true
 hm:wD K C (.type "object")=some true
end L2
namespace L2
open PySem PySem.Spec PyProof.Rows
noncomputable def Qe (ai:Int) (n:Nat):gU:=⟨fun i _=>i < n,fun i H x I=>I=H/\x=.int (ai - i),fun i _=>n <= i⟩
theorem ag4 {P:Program} {w:World} {K:a6} {ck:Expr} (it:Addr) (ai:Int) (n:Nat):pJ P w K ck (Qe ai n) [it] it (fun i h=>IsRangeIter h it (ai + (i:Nat) * (-1)) ((n:Int) - (i:Nat)) (-1)) where
 mem:=by simp
 obj:=fun i h st b ab=>by
  have e:b=it:=by simpa using ab
  subst e;exact ⟨_,st,fun v z=>by
   have z':Kz _=O7 v:=z;cases z'⟩
 keep:=fun i h h' st k=>k it (by simp) _ st
 item:=by
  intro X en hw eV ar i aa s σ H E J hf st a3;subst en hw eV;obtain ⟨f0,f1,f2,e1,f4,fC⟩:=hf it (by simp);have W:=WV (prog:=X.prog) (w:=X.w) (J.ok.hd ar) it ai (-1) n;refine W.item i s _ _ a3 st fun v h' cG aM j4 kQ=>?_
  obtain ⟨t,rfl⟩:=aM;have aO:Inv X aa σ H { s with heap:=h',toks:=cG }:=J.turned (fun b o ab e=>kQ b o (by simpa using ab) e) f0 f1 e1 f4 fC;refine ⟨_,rfl,vw (s:={ s with heap:=h',toks:=cG }) (n := "range_iterator") j4 rfl rfl (by decide) ⟨.int (ai - i),H,aO,⟨t,?_⟩,⟨rfl,rfl⟩,j4,fun b ab=>(hf b ab).1⟩⟩;congr 1;omega
 done:=by
  intro X en hw eV ar i aa s σ H E J hf st a3;subst en hw eV;obtain ⟨f0,f1,f2,e1,f4,fC⟩:=hf it (by simp);exact wpAny_pyNext_range_end (J.ok.hd ar) st (by have:n <= i:=a3;omega) fun h' dK=>⟨rfl,J.turned (t':=s.toks) (fun b o ab e=>dK b o ab e) f0 f1 e1 f4 fC⟩
 self:=fun _ _ _ _ _ st h=>wpAny_pyIter_rangeiter st h
theorem QU (a b:Int):GJ a b (-1)=if b < a then a - b else 0:=by
 unfold GJ;rw [if_neg (show ¬ (-1:Int) > 0 by decide),show (- -1:Int)=1 by decide,Wn];show (if b < a then a - b - 1 + 1 else 0)=_;split <;> omega
theorem XF {a b:Int} (aJ:-(2 ^ 62) <= a) (pd:a < 2 ^ 62) (ab:-(2 ^ 62) <= b) (fX:b < 2 ^ 62):abF a b (-1)=true:=by
 unfold abF;rw [QU];simp only [ai5,iP,w5,decide_eq_true_eq,beq_iff_eq,show ¬ (-1:Int) > 0 by decide,if_false];split <;> omega
section
variable {X:aL} {ck:Expr}
noncomputable def Cb (aQ:dx):TI:=fun σ H R=>aQ σ H fun vs H1=>∃ i j:Int,vs=[.int i,.int j,.int (-1)]/\(-1073741824 <= i/\i < 1073741824/\-1073741824 <= j/\j < 1073741824)/\R (Qe i (i - j).toNat) H1
theorem QR {a b c:Expr} {aQ:dx} {p pos:Pos} (a3:g5 X "range") (hm:X.ao "range"=none) (aJ:dr X [a,b,c] aQ) (aw:starEach [a,b,c] X.env=[(false,eval a X.env),(false,eval b X.env),(false,eval c X.env)]:=by rfl) (f6:starEach [b,c] X.env=[(false,eval b X.env),(false,eval c X.env)]:=by rfl) :
  mV X ck (.Call (.Name "range" p) [a,b,c] [] pos) (Cb aQ):=by
 intro aa s σ H R J h;refine Call_ (n2 J a3 hm boot_range (rX (bt (aJ pos aa s σ H _ J h) fun us s1 b_=>?_) (by rw [aw,f6]) (by rw [f6];rfl)));obtain ⟨vs,H1,aO,bK,bw⟩:=b_;obtain ⟨i,j,e,⟨bw,b4,d9,kp⟩,q⟩:=bw;subst e;cases bK with
 | cons r hC=>
  cases hC with
  | cons fe hC=>
   cases hC with
   | cons ZM hC=>
    cases hC;obtain ⟨t,rfl⟩:=r;obtain ⟨t',rfl⟩:=fe;obtain ⟨y7,rfl⟩:=ZM;refine call_range_3 (by decide) ?_ (mE (V_ (by omega)));refine wpAny_pyIter_range (abM ..) (XF (by omega) (by omega) (by omega) (by omega)) ?_;have bD:Inv X aa σ H1 { s1 with heap:=s1.heap.push { cls:=.type "range",data:=.fields #[.int i t,.int j t',.int (-1) y7] },toks:=s1.toks }:=aO.kept fun b o e=>dY _ e
    refine ⟨(s1.heap.push { cls:=.type "range",data:=.fields #[.int i t,.int j t',.int (-1) y7] }).objs.size,[(s1.heap.push { cls:=.type "range",data:=.fields #[.int i t,.int j t',.int (-1) y7] }).objs.size],_,_,H1,rfl,
     bD.kept (t':=s1.toks) fun b o e=>dY _ e,ag4 _ i (i - j).toNat,?_,fun b ab=>?_,q⟩
    .have ax:i + ((0:Nat):Int) * (-1)=i:=by simp
     have aG:(((i - j).toNat:Nat):Int) - ((0:Nat):Int)=GJ i j (-1):=by rw [QU];split <;> omega
     show IsRangeIter _ _ (i + ((0:Nat):Int) * (-1)) ((((i - j).toNat:Nat):Int) - ((0:Nat):Int)) (-1);rw [ax,aG];exact gz _ rfl
    .have e:b=(s1.heap.push { cls:=.type "range",data:=.fields #[.int i t,.int j t',.int (-1) y7] }).objs.size:=by simpa using ab
     subst e;exact bD.og (b2 _) (bD.bl.fresh (b2 _))
end
theorem aav:typeLookup (.type "list_reverseiterator") "__len__"=pure none:=by rw [typeLookup_type,builtinLookup_eq_fast];kernel_rfl
theorem RY:typeLookup (.type "list_reverseiterator") "__length_hint__"=pure (some (.builtin "list_reverseiterator.__length_hint__")):=by rw [typeLookup_type,builtinLookup_eq_fast];kernel_rfl
section
variable {prog:Program} {w:World} {A:Around} {E:Value->Shared->Prop} {s:Shared} {it l:Addr} {items:Array Value}
theorem agv (dN:s.TypeIs (.ref it) "list_reverseiterator") {Q:Bool->Shared->Prop} (h:Q false s):wpAny (model prog w) A (abo (.ref it)) Q E s:=by
 unfold abo;refine wpAny_bind (wpAny_specialOf dN aav ?_);show wpAny _ A (specialOf (dk it) (ah "__length_hint__") >>= _) _ _ _;refine wpAny_bind (wpAny_specialOf dN RY ?_);generalize hl:("list_reverseiterator.__length_hint__" : String)=adX
 wp_delta
 rw [show splitId adX=some ("list_reverseiterator","__length_hint__") from by subst hl;ac_nf];subst hl;refine wpAny_bind (wpAny_isInstance (T := "list_reverseiterator") (b:=true) dN (by rw [isSubtype_type];kernel_rfl) ?_);refine wpAny_ite_split (fun n'=>absurd n' (by decide)) (fun _=>?_);refine wpAny_ite_split (fun _=>?_) (fun n'=>absurd (by ac_nf) n');refine wpAny_ite_split (fun n'=>absurd n' (by ac_nf)) (fun _=>?_);exact wpAny_pure h
noncomputable abbrev QN (items:Array Value):Nat->Value->Prop:=fun i v=>items[items.size - 1 - i]? = some v
theorem aeP {R:Result->Shared->Prop} (cN:A.handled=none) (hit:s.heap.IsRevIter it l ((items.size:Int) - 1 - ((0:Nat):Int))) (aA:s.heap.IsList l items) (bR:l ≠ it) (S:Addr) (Ru:S ≠ it) (adm:S ≠ l) (res:Value) (c₀:Nat)
  (ej:s.heap.get? S=some { cls:=.type "list",data:=.seq #[] c₀ }) (aF:items.size <= sizeLine)
  (gG:∀ h' cG acc c,(∀ b o,b ≠ S->b ≠ it->s.heap.get? b=some o->h'.get? b=some o)->h'.get? S=some { cls:=.type "list",dict:=none,data:=.seq acc c,slots:=#[] }->ItemsOf (QN items) acc items.size->R (.ok (.ret res)) { s with heap:=h',toks:=cG }) :
  wpAny (model prog w) A.in1 (GV (.ref S) (.ref it) res)
   (fun fin s'=>match fin with | .done f=>R (.ok f) s' | .again eN=>eN.quiet=true/\codeAny (model prog w) A eN R s') (fun e s'=>R (.error e) s') s:=by
 unfold GV;refine wpAny_bind (wpAny_typeOf hit.typeIs ?_);have ae:agX (.ref S) (.ref it)=false:=by simp [agX,Ru]
 have ak:(pB "list_reverseiterator" == pB "list")=false:=by decide
 have a_:(pB "list_reverseiterator" == pB "tuple")=false:=by decide
 simp only [ae,ak,a_,EA,Im,if_false];refine wpAny_bind (wpAny_pyIter_revIter hit ?_);refine wpAny_bind (wpAny_holding (agv hit.typeIs ?_));refine wpAny_ite_split (fun n'=>absurd n' (by ac_nf)) (fun _=>?_);have W:=Walks.listRev (prog:=prog) (w:=w) (A:=A.in1) cN it l bR items;have yV:S ∉ [it,l]:=by simp only [dQ,jX,or_false,not_or];exact ⟨Ru,adm⟩
 refine wpAny_pure ⟨plainId_quiet PySem.F.plain_extend_loop _,codeAny_extend_loopS W.toS aF S yV res items.size 0 s #[] c₀ rfl (fv _) ⟨fv _,hit,aA⟩ ej (ItemsOf.nil _) fun s' acc c hm lG qF=>?_⟩;rw [Moved.eq_with hm];refine gG s'.heap s'.toks acc c (fun b o ab ai e=>hm.heap b o (fun sZ=>?_) e) lG qF;rcases dQ.mp sZ with bB | sZ
 .exact ab bB
 .exact ai (jB.mp sZ)
theorem ade {Q:Value->Shared->Prop} (cN:A.handled=none) (hit:s.heap.IsRevIter it l ((items.size:Int) - 1 - ((0:Nat):Int))) (aA:s.heap.IsList l items) (bR:l ≠ it) (aF:items.size <= sizeLine)
  (a8:∀ h' cG acc c,(∀ b o,b ≠ it->s.heap.get? b=some o->h'.get? b=some o)->h'.get? s.heap.objs.size=some { cls:=.type "list",dict:=none,data:=.seq acc c,slots:=#[] }->ItemsOf (QN items) acc items.size->Q (.ref s.heap.objs.size) { s with heap:=h',toks:=cG }) :
  wpAny (model prog w) A (call (.type "list") [.ref it]) Q E s:=by
 have li:it < s.heap.objs.size:=by obtain ⟨_,e,_⟩:=hit;exact dv e
 have UE:l < s.heap.objs.size:=by obtain ⟨_,e,_⟩:=aA;exact dv e
 refine callType_codes (Q₁:=fun obj cQ=>obj=.ref s.heap.objs.size/\cQ = { s with heap:=s.heap.push { cls:=.type "list",data:=.seq #[] } }) PySem.F.called_list (PySem.F.typeCall_list_1 _) PySem.F.entry_list_init
  (code_list_new _ ⟨rfl,rfl⟩) fun obj cQ h₁=>?_
 obtain ⟨rfl,rfl⟩:=h₁;have ej:(s.heap.push { cls:=.type "list",data:=.seq #[] }).get? s.heap.objs.size=some { cls:=.type "list",data:=.seq #[] }:=gz _ rfl;refine ⟨⟨_,ej,rfl⟩,PySem.F.args_list_init_2 _ _,?_⟩;show wpAny _ _ (do let old <- TZ (.ref s.heap.objs.size);aib (.ref s.heap.objs.size) (fun _=>#[]);letGo old.toList.reverse;GV (.ref s.heap.objs.size) (.ref it) .none) _ _ _;refine wpAny_bind ?_;unfold TZ;refine wpAny_bind (wpAny_seqItems ej rfl (wpAny_pure ?_));show wpAny _ _ (updateSeq s.heap.objs.size (fun _=>#[]) >>= fun _=>letGo (#[]:Array Value).toList.reverse >>= fun _=>GV (.ref s.heap.objs.size) (.ref it) .none) _ _ _;refine wpAny_bind (wpAny_updateSeq ej rfl ?_);have TK:=mR (qx (fun _=>(#[]:Array Value))) ej rfl;have jY:∀ b o,s.heap.get? b=some o->((s.heap.push { cls:=.type "list",data:=.seq #[] }).update s.heap.objs.size (qx (fun _=>(#[]:Array Value)))).get? b=some o:=
  fun b o e=>(jn _ _ (c6 (ft (dv e)))).trans (dY _ e)
 refine wpAny_bind (wpAny_letGo ?_);refine aeP (A:=A.in1) cN (hit.at fun o e=>jY _ o e) (aA.at fun o e=>jY _ o e) bR _ (c6 (ft li)) (c6 (ft UE)) .none _ TK aF fun h' cG acc c aE lG qF=>?_
 exact ⟨rfl,a8 h' cG acc c (fun b o ab e=>aE b o (ft (dv e)) ab (jY b o e)) lG qF⟩
end
section
variable {X:aL}
noncomputable def HH (K:a6) (aQ:dx):TE:=fun σ H Q=>aQ σ H fun vs H1=>∃ a xs,vs=[.ref a]/\aK K H1 a xs/\∀ l,H1 l=none->Q (.ref l) (upd H1 l (.lst xs.reverse))
theorem Eh {a:Expr} {aQ:dx} {p q pos pos':Pos} (ar:X.calm=true) (a3:g5 X "list") (hm:X.ao "list"=none) (kT:g5 X "reversed") (Ek:X.ao "reversed"=none) (aJ:dr X [a] aQ) (aw:starEach [a] X.env=[(false,eval a X.env)]:=by rfl)
  (f6:starEach [KZ (.Name "reversed" q) [a] [] pos'] X.env=(false,eval (KZ (.Name "reversed" q) [a] [] pos') X.env) :: starEach [] X.env:=by rfl) :
  br X (.Call (.Name "list" p) [.Call (.Name "reversed" q) [a] [] pos'] [] pos) (HH X.K aQ):=by
 intro aa s σ H Q J h;refine wpAny_Call_Name_kw (n2 J a3 hm Zv ?_);refine rX ?_ f6 rfl;rw [f6];show wpAny _ _ (spliced ((false,eval (KZ (.Name "reversed" q) [a] [] pos') X.env) :: [])) _ _ s;refine T' ?_;refine Call_ (n2 J kT Ek ww (rX (bt (aJ pos' aa s σ H _ J h) fun us s1 b_=>?_) aw rfl));obtain ⟨vs,H1,aO,bK,bw⟩:=b_;obtain ⟨a,xs,e,aH,q⟩:=bw;subst e;cases bK with
 | cons r hC=>
  cases hC;cases r;obtain ⟨a0,cf,pl,az⟩:=aO.list aH;have aA:=cf.length;have cx:a < s1.heap.objs.size:=by obtain ⟨_,e,_⟩:=pl.isList;exact dv e
  refine call_reversed_list pl.isList ?_;refine adD ?_;have hit:(s1.heap.push (revObj a ((a0.toArray.size:Int) - 1))).IsRevIter s1.heap.objs.size a ((a0.toArray.size:Int) - 1 - ((0:Nat):Int)):=by
   refine ⟨_,gz _ rfl,rfl,?_⟩;simp only [revObj];simp
  have bF:∀ b o,s1.heap.get? b=some o->(s1.heap.push (revObj a ((a0.toArray.size:Int) - 1))).get? b=some o:=fun b o e=>dY _ e
  refine ade (aO.ok.hd ar) hit (pl.isList.at fun o e=>bF _ o e) (ft cx) (by rw [fy];omega) fun h' cG acc c aE bB qF=>?_
  refine ⟨.ref _,_,aO.laid (o:=.lst xs.reverse) (t':=cG) (fun b u e=>aE b u (ft (dv e)) (bF b u e)) (by rw [wC];exact sG _) ⟨by rw [uW];omega,acc.toList,c,?_,bB⟩,rfl,q _ (aO.bl.fresh (by rw [wC];exact sG _))⟩;have aM:=Z3 (f:=fun i=>xs.getD (xs.length - 1 - i) .bH) (fun i v aM=>by
   have qX:a0.toArray[a0.toArray.size - 1 - i]? = some v:=aM;rw [fy,<- aA,U7] at qX;have aZ:=(cg.mp qX).1;have av:xs[xs.length - 1 - i]? = some xs[xs.length - 1 - i]:=b7 (by omega);obtain ⟨w,hw,kr⟩:=cf.get av;rw [qX] at hw;cases hw;rw [jW,av];exact kr) qF
  have lN:(fc a0.toArray.size).map (fun i=>xs.getD (xs.length - 1 - i) .bH)=xs.reverse:=by
   rw [fy,<- aA];refine x8 (by simp) fun i ae ak=>?_
   rw [Ai,List.getElem_range,List.getElem_reverse,jW,b7 (by simp at ak;omega)];rfl
  rw [lN] at aM;exact aM
end
section
variable {prog:Program} {w:World} {A:Around} {R:Result->Shared->Prop} {J:Addr} {bu wr:List Addr} {n:Nat} {P:Nat->Value->Prop} {St:Nat->Heap->Prop}
noncomputable def afP (P:Nat->Value->Prop) (oG:Nat->Nat->Bool) (j:Nat) (acc:Array Value):Prop:=(j=0/\acc=#[])\/∃ lC i,j=i + 1/\acc=#[lC,lC]/\P (argBest oG i) lC
theorem ab9 (W:Walks prog w A.in1 J bu wr n P St) (oG:Nat->Nat->Bool) (afS:CmpOf prog w A.in1 .Lt P oG) (S:Addr) (yV:S ∉ bu) (ky:Value) (aaK:Str) :
  ∀ (k j:Nat) (s:Shared) (acc:Array Value) (c:Nat),n - j=k->j <= n->St j s.heap->afP P oG j acc ->
  s.heap.get? S=some { cls:=.type "list",dict:=none,data:=.seq acc c,slots:=#[] } ->
  (∀ v h' cG,(n=0/\v=ky)\/(0 < n/\P (argBest oG (n - 1)) v)->(∀ b o,b ∉ wr->b ≠ S->s.heap.get? b=some o->h'.get? b=some o)->R (.ok (.ret v)) { s with heap:=h',toks:=cG }) ->
  codeAny (model prog w) A (.builtin "min.loop" ⟨[.ref J,.none,.ref S],[(aaK,ky)]⟩) R s:=by
 have NP:S ∉ wr:=fun h=>yV (W.sub _ h)
 have tG:(toString "min" ++ toString ".loop" : String) = "min.loop" := by decide
 intro k
 induction k with
 | zero=>
  intro j s acc c aE aZ gd gp ej gG;have oy:j=n:=by omega
  refine codeAny_builtin agB ?_;rw [ZO u5 _];show wpAny _ A.in1 (seqItems? (.ref S) >>= _) _ _ s;refine wpAny_bind (wpAny_seqItems ej rfl ?_);show wpAny _ A.in1 (tryCatch (pyNext (.ref J)) _ >>= _) _ _ s;refine wpAny_bind (wpAny_tryCatch (W.done s _ _ (oy ▸ gd) fun h' cG j7=>?_));have lG:=j7 S _ NP ej;rcases gp with ⟨h0,rfl⟩ | ⟨lC,i,ai,rfl,en⟩
  .show wpAny _ A.in1 (rule _ >>= _) _ _ _;refine wpAny_bind (wpAny_rule (wpAny_pure ?_));exact gG ky h' cG (.inl ⟨by omega,rfl⟩) fun b o lr mH e=>j7 b o lr e
  .show wpAny _ A.in1 (updateSeq S (fun _=>#[]) >>= _) _ _ _;refine wpAny_bind ?_;refine wpAny_updateSeq lG rfl (wpAny_bind (wpAny_letGo (wpAny_pure ?_)));refine gG lC _ cG (.inr ⟨by omega,by rw [show n - 1=i by omega];exact en⟩) fun b o lr mH e=>(jn _ _ (c6 mH)).trans (j7 b o lr e)
 | succ k cj=>
  intro j s acc c aE aZ gd gp ej gG;have cx:j < n:=by omega
  refine codeAny_builtin agB ?_;rw [ZO u5 _];show wpAny _ A.in1 (seqItems? (.ref S) >>= _) _ _ s;refine wpAny_bind (wpAny_seqItems ej rfl ?_);show wpAny _ A.in1 (tryCatch (pyNext (.ref J)) _ >>= _) _ _ s;refine wpAny_bind (wpAny_tryCatch (W.item j s _ _ cx gd fun v h' cG en K8 j7=>?_));have lG:=j7 S _ NP ej;have put:∀ nN:Heap,nN=h'.update S (qx (fun _=>#[v,v]))->St (j + 1) nN:=fun nN e=>by
   subst e;exact W.frame _ _ _ K8 fun b YK o e=>(jn _ _ (fun h:S=b=>yV (by rw [h];exact YK))).trans e
  rcases gp with ⟨h0,rfl⟩ | ⟨lC,i,ai,rfl,Rh⟩
  .show wpAny _ A.in1 (updateSeq S (fun _=>#[v,v]) >>= _) _ _ _;refine wpAny_bind ?_;refine wpAny_updateSeq lG rfl ?_;rw [tG];refine wpAny_pure ⟨plainId_quiet u5 _,cj (j + 1) _ #[v,v] _ (by omega) cx (put _ rfl) (.inr ⟨v,j,rfl,rfl,by subst h0;exact en⟩) (mR _ lG rfl) fun ku nN vX oB tS=>?_⟩;exact gG ku nN vX oB fun b o lr mH e=>tS b o lr mH ((jn _ _ (c6 mH)).trans (j7 b o lr e))
  .subst ai;show wpAny _ A.in1 (tryCatch (holding [v,v] (richCompare .Lt v lC >>= _)) _ >>= _) _ _ _;refine wpAny_bind (wpAny_tryCatch (wpAny_holding (wpAny_bind (afS (i + 1) (argBest oG i) v lC _ _ _ en Rh ?_))));refine wpAny_bind (wpAny_holding (wpAny_truthy_bool ?_));refine wpAny_bind (wpAny_letGo (wpAny_pure ?_));cases ab:oG (i + 1) (argBest oG i) with
   | true=>
    simp only [if_true];refine wpAny_bind ?_;refine wpAny_updateSeq lG rfl (wpAny_bind (wpAny_letGo ?_));rw [tG];refine wpAny_pure ⟨plainId_quiet u5 _,cj (i + 1 + 1) _ #[v,v] _ (by omega) cx (put _ rfl) (.inr ⟨v,i + 1,rfl,rfl,by simp only [argBest,ab,if_true];exact en⟩) (mR _ lG rfl) fun ku nN vX oB tS=>?_⟩;exact gG ku nN vX oB fun b o lr mH e=>tS b o lr mH ((jn _ _ (c6 mH)).trans (j7 b o lr e))
   | false=>
    simp only [Im,if_false];refine wpAny_bind (wpAny_letGo ?_);rw [tG];refine wpAny_pure ⟨plainId_quiet u5 _,cj (i + 1 + 1) _ #[lC,lC] c (by omega) cx K8 (.inr ⟨lC,i + 1,rfl,rfl,by simp only [argBest,ab,Im,if_false];exact Rh⟩) lG fun ku nN vX oB tS=>?_⟩;exact gG ku nN vX oB fun b o lr mH e=>tS b o lr mH (j7 b o lr e)
end
section
variable {prog:Program} {w:World} {A:Around} {E:Value->Shared->Prop} {s:Shared}
theorem XM (a d:Value):argsOk "min" ⟨[a],[(ah "default",d)]⟩:=by unfold argsOk;kernel_rfl
theorem acE {l:Addr} {a0:Array Value} {ky:Value} {Q:Value->Shared->Prop} (cN:A.handled=none) (aA:s.heap.IsList l a0) (b3:List Int) (aE:a0.size=b3.length) (aM:∀ (i:Nat) (v:Value),a0[i]? = some v->∃ t,v=lq (b3.getD i 0) t)
  (a8:∀ v h' cG,(b3=[]/\v=ky)\/(∃ m t,b3.min? = some m/\v=.int m t)->(∀ b o,s.heap.get? b=some o->h'.get? b=some o)->Q v { s with heap:=h',toks:=cG }) :
  wpAny (model prog w) A (call (.builtin "min") [.ref l] [(ah "default",ky)]) Q E s:=by
 have tG:(toString "min" ++ toString ".loop" : String) = "min.loop" := by decide
 have cx:l < s.heap.objs.size:=by obtain ⟨_,e,_⟩:=aA;exact dv e
 refine wpAny_call (codeAny_call_builtin PySem.F.plain_min PySem.F.entry_min ?_);simp only [checkBuiltinCall,PySem.F.kind_min];have key:wpAny (model prog w) A.in1 (Builtin.«min» ⟨[.ref l],[(ah "default",ky)]⟩) (fun fin s'=>match fin with
   | .done f=>(match (pA f:Result) with | .ok (.ret v)=>Q v s' | .ok _=>False | .error e=>E e s')
   | .again eN=>eN.quiet=true/\codeAny (model prog w) A eN (fun r s'=>match r with | .ok (.ret v)=>Q v s' | .ok _=>False | .error e=>E e s') s') E s:=by
  show wpAny _ A.in1 (SW "min" ["key","default"] 0 ⟨[],[(ah "default",ky)]⟩ >>= _) _ _ s;refine wpAny_bind (wpAny_of_eq (show SW "min" ["key","default"] 0 ⟨[],[(ah "default",ky)]⟩=pure [none,some ky] from rfl) ?_);refine wpAny_bind (wpAny_pure ?_);refine wpAny_bind (wpAny_pyIter_list aA ?_);refine wpAny_bind (wpAny_newObj_type ?_);rw [tG];have W:=RK (prog:=prog) (w:=w) (A:=A.in1) cN s.heap.objs.size l (ft cx) a0;have qi:(s.heap.push { cls:=.type "list_iterator",data:=.fields #[.ref l,.int 0 0] }).objs.size=s.heap.objs.size + 1:=wC ..;refine wpAny_pure ⟨plainId_quiet u5 _,ab9 W _ (CmpOf.ints_lt (fun i=>b3.getD i 0) fun i v h=>aM i v h) _ ?_ ky _ a0.size 0 _ #[] _ rfl (fv _) ?_ (.inl ⟨rfl,rfl⟩) (gz _ rfl) fun v h' cG en j7=>?_⟩
  .show (s.heap.push _).objs.size ∉ _;rw [qi];simp only [dQ,jX,or_false,not_or];exact ⟨aaH _,c6 (ft (Qj cx))⟩
  .exact W.frame 0 (s.heap.push { cls:=.type "list_iterator",data:=.fields #[.ref l,.int 0 0] }) _ ⟨⟨_,gz _ rfl,rfl,rfl⟩,aA.push _⟩ fun b _ o e=>dY _ e
  .refine a8 v h' cG ?_ fun b o e=>j7 b o (fun hm=>?_) ?_ (dY _ (dY _ e))
   .rcases en with ⟨h0,ae⟩ | ⟨h0,ae⟩
    .exact .inl ⟨List.length_eq_zero_iff.mp (by omega),ae⟩
    .obtain ⟨t,e⟩:=aM _ v ae;have ab:=argBest_lt (fun i=>b3.getD i 0) (a0.size - 1);refine .inr ⟨_,t,?_,e⟩;rw [ZI];have ai:argBest (fun i j=>decide (b3.getD i 0 < b3.getD j 0)) (a0.size - 1) < b3.length:=by omega
     refine ⟨?_,fun b fX=>?_⟩
     .rw [jW,b7 ai];exact vC ai
     .obtain ⟨j,aZ,rfl⟩:=sg fX;have:=ab.2 j (by omega);rw [jW (i:=j),b7 aZ] at this;exact this
   .rw [jB.mp hm] at e;exact absurd (dv e) (oo _)
   .rw [qi];exact ft (Qj (dv e))
 cases agw:Manifest.signature? "min" with
 | none=>exact wpAny_pure key
 | some sig=>
  have aJ:=XM (.ref l) ky;have pd:Bind.checkArgs "min" sig ⟨[.ref l],[(ah "default",ky)]⟩=pure ():=by simpa only [argsOk,agw] using aJ
  simp only [pd];exact wpAny_pure key
end
section
variable {X:aL}
noncomputable def FR (K:a6) (aQ:dx) (eF:TE):TE:=fun σ H Q=>aQ σ H fun vs H1=>eF σ H1 fun y ay=>∃ l b3,vs=[.ref l]/\aK K ay l (gv V.int b3)/\Q (match b3.min? with | some m=>.int m | none=>y) ay
theorem Vj {a d:Expr} {aQ:dx} {eF:TE} {p bF pos:Pos} (ar:X.calm=true) (a3:g5 X "min") (hm:X.ao "min"=none) (aJ:dr X [a] aQ) (hd:br X d eF)
  (he:∀ pos,backTo pos (starEach [a] X.env)=(false,eval a X.env) :: backTo pos (starEach [] X.env):=by intro _;rfl) (dn:∀ pos,(backTo pos (starEach [a] X.env)).any (·.1)=false:=by intro _;rfl) :
  br X (.Call (.Name "min" p) [a] [⟨some "default",d,bF⟩] pos) (FR X.K aQ eF):=by
 intro aa s σ H Q J h;refine wpAny_Call_Name_kw (n2 J a3 hm (show bootBuiltins "min"=some (.builtin "min") by ac_nf) ?_);refine callWith_kw (id := "min") (bt (aJ pos aa s σ H _ J h) fun us s1 b_=>?_) (he:=he pos) (hplain:=dn pos);obtain ⟨vs,H1,aO,bK,bw⟩:=b_;refine kws_cons (bt (hd aa s1 σ H1 _ aO bw) fun v s2 bZ=>d4 bZ fun y ay bD cL b4=>kws_nil ?_);obtain ⟨l,b3,rfl,aH,q⟩:=b4;cases bK with
 | cons r hC=>
  cases hC;cases r;obtain ⟨a0,cf,pl,az⟩:=bD.list aH;have aA:=cf.length;rw [a'] at aA;refine acE (bD.ok.hd ar) pl.isList b3 (by rw [fy];omega) (fun i v aM=>?_) fun ku h' cG qX aE=>⟨_,ay,bD.kept aE,?_,q⟩
  .rw [U7] at aM;have ai:i < b3.length:=by have:=(cg.mp aM).1;omega
   obtain ⟨w,hw,kr⟩:=cf.get (show (b3.map V.int)[i]? = some (.int b3[i]) by rw [eA,b7 ai];rfl);rw [aM] at hw;cases hw;rw [jW,b7 ai];exact kr
  .rcases qX with ⟨rfl,rfl⟩ | ⟨m,t,hm,rfl⟩
   .exact cL
   .rw [hm];exact ⟨t,rfl⟩
end
structure rk (K:a6) (C:Addr):Prop where
 x:ix K C
 aJ:dg K (.ref C) "__class__"=some (some (.builtin "object.__class__"))
 aF:sS K (.builtin "object.__class__") "__get__"=some (some (.builtin "getset_descriptor.__get__"))
 oX:CR K (.builtin "object.__class__")=some true
 hm:wD K C (.type "object")=some true
section
variable {prog:Program} {w:World} {A:Around} {E:Value->Shared->Prop} {s:Shared} {K:a6} {x C:Addr} {od:Obj} {aj:Addr} {vs:Array Value} {aP:Array (Option Value)}
theorem aaZ {Q:Option Value->Shared->Prop} (c:rk K C) (eR:K.In s.heap) (bP:r5 s.heap x ⟨.ref C,some aj,.fields vs,aP⟩ C (some od)) (h:Q (some (.ref C)) { s with toks:=s.toks + 1 }) :
  wpAny (model prog w) A (getAttr? (.ref x) "__class__") Q E s:=by
 obtain ⟨cd,ar,l3⟩:=qc c.x.hd;obtain ⟨Qs,ni,F9⟩:=qc c.x.dA;rw [ar] at ni;cases ni;have hf:PySem.W.findObj K C (some od) "__class__"=some (.bind (.builtin "getset_descriptor.__get__") (.builtin "object.__class__")):=PySem.W.findObj_data (by rw [ar];rfl) c.aJ c.aF c.oX;have hm:=c.hm;have ga:=c.x.ga;have gt:=c.x.gt;obtain ⟨aq,g,d,t,os⟩:=s;have MK:=bP.type (M:=model prog w);have jF:=El (M:=model prog w) eR ga;have L2:=El (M:=model prog w) eR gt;have iQ:=PySem.W.looks_find (M:=model prog w) eR bP hf;have FB:=PySem.F.excAttr_ValueError;have e1:=FB.ga.bind (.ref x);have E':(wQ "BaseException.__getattribute__" == wQ "object.__getattribute__")=false:=by ac_nf
 have mw:(onTheHeap (dk C) && wQ "BaseException.__getattribute__" == wQ "object.__getattribute__")=false:=by rw [E'];rfl
 unfold getAttr? getAttrBy? getAttrBy;refine wpAny_bind (wpAny_mkText (wpAny_bind (wpAny_attempt (wpAny_holding (wpAny_bind (MK.at (wpAny_bind (jF.at ?_))))))));dsimp only;rw [if_neg (by rw [mw];decide)];unfold getAttrByItsOwn
 repeat (any_goals (first | assumption | with_reducible refine PySem.W.Looks.at (by assumption) ?_ | wp_step))
 have ne:cd.mro.isEmpty=false:=by
  cases q:cd.mro with
  | nil=>rw [q] at F9;cases F9
  | cons _ _=>rfl
 have sub:Ht (model prog w) aq (isInstance (.ref x) (.type "BaseException")) true:=
  MK.andThen (Tg eR (by unfold wD;rw [ar,Kr,if_neg (by rw [ne];decide),GB "BaseException" (by decide) F9]))
 refine codeAny_call_builtin FB.ga.plain PySem.F.entry_bexc_ga (@PySem.W.check_slot (model prog w) _ _ ⟨aq,g,d,t + 1,os⟩ "BaseException.__getattribute__" "BaseException" "__getattribute__" (.ref x) [.str "__class__" t] [] _ (by ac_nf) (by ac_nf) sub (PySem.F.args_bexc_ga (.ref x) (.str "__class__" t)) ?_);unfold Builtin.«object.__getattribute__»
 repeat (any_goals (first | assumption | with_reducible refine PySem.W.Looks.at (by assumption) ?_ | wp_step))
 refine PySem.W.class_get (s:=⟨aq,g,d,t + 1,os⟩) (ox:=⟨.ref C,some aj,.fields vs,aP⟩) (od:=some od) eR bP hm ?_;refine wpAny_pure ?_;show wpAny _ _ (handedOut (.ref C)) _ _ _;exact PySem.W.handed_on rfl (wpAny_pure h)
theorem adZ (c:rk K C):PySem.W.KitX K (.ref x) (.ref C) (fun h=>∃ aj vs aP od,r5 h x ⟨.ref C,some aj,.fields vs,aP⟩ C (some od)) where
 ty:=fun _ _ _ ⟨_,_,_,_,J⟩=>J.type
 it:=fun _ _ X _=>by
  obtain ⟨ady,kq,_⟩:=qc c.x.hd;unfold DZ at kq;split at kq
  .rename_i eN d' Qs sr a7;intro aiz rW qV s' k q;unfold isType loadHead;exact wpAny_bind (wpAny_loadPart (k _ _ (X _ _ a7)) (wpAny_pure q))
  .cases kq
 ne:=fun h cX dO a0 n aP X h7=>by
  obtain ⟨ady,kq,_⟩:=qc c.x.hd;refine Bool.eq_false_iff.mpr fun q=>?_
  have e:C=cX:=Value.ref.inj (beq_iff_eq.mp q);subst e;unfold DZ at kq;split at kq
  .rename_i eN d' Qs sr a7;have z:=(X _ _ a7).symm.trans h7;cases z
  .cases kq
 ca:=fun X ⟨_,_,_,_,J⟩ k=>aaZ c X J k
end
theorem af8 {X:aL} {aa:List (Addr × Obj)} {σ:St} {H:ag} {s:Shared} {x C aj:Addr} {aN:List (Str × V)} (J:Inv X aa σ H s) (e:H x=some (.ext (fM x C (some aj)))) (pn:H aj=some (.ext (e4 aj aN))) :
  ∃ aj vs aP od,r5 s.heap x ⟨.ref C,some aj,.fields vs,aP⟩ C (some od):=by
 obtain ⟨vs,aP,av,_⟩:=(show ea X.prog X.w H s.heap x (.ext (fM x C (some aj))) from J.bl _ _ e).1;obtain ⟨c3,c4,r,de⟩:=(show ea X.prog X.w H s.heap aj (.ext (e4 aj aN)) from J.bl _ _ pn).1;obtain ⟨od,a7,AO⟩:=Gu c4;exact ⟨aj,vs,aP,od,av,rfl,rfl,a7⟩
theorem Ms:∀ {cs:List Addr} {us:List Value},re (cs.map V.ref) us->us=cs.map dk
 | [],_,.nil=>rfl
 | c :: cs,_,.cons r t=>by
  rw [Ms t];cases (show _=dk c from r);rfl
theorem adf {X:aL}:lO X (.builtin "isinstance") (fun xs H Q=>∃ (x C aj:Addr) (aN:List (Str × V)) (cX:Addr) (cs:List Addr) (b:Bool),xs=[.ref x,.ref cX]/\H x=some (.ext (fM x C (some aj)))/\H aj=some (.ext (e4 aj aN))/\rk X.K C/\H cX=some (.tup (cs.map V.ref))/\rZ X.K (.ref C) (cs.map dk)=some b/\Q (.bq b) H):=by
 intro aa s σ H xs us Q J r h;obtain ⟨x,C,aj,aN,cX,cs,b,rfl,e,pn,c,aam,aE,q⟩:=h;obtain ⟨u,Es,rfl,bc,cL⟩:=A0 r;cases (show u=dk x from bc);cases (show Es=dk cX from cL);obtain ⟨_,a0,cf,SY,ae,ak,n,a_⟩:=(show ea X.prog X.w H s.heap cX (.tup (cs.map V.ref)) from J.bl _ _ aam);have ax:=Ms cf;subst ax;obtain ⟨cl,dO,acT,aP⟩:=SY;cases (show cl=pB "tuple" from ak);cases (show acT=Data.seq _ n from a_);exact PySem.W.kia_tup (adZ c) J.ey (af8 J e pn) ae aE (fun z=>nomatch z) fun cG=>⟨.bq b,H,J.tok _,rfl,q⟩
section
variable {X:aL}
end
theorem bg.quiet {P:Program} {w:World} {K:a6} {ao:Str->Option Value} {base:Heap} {k:Nat} {f:Addr} {fd:FuncData} {ps:List Str} {sp e3:bo} (F:bg P w K ao base (di P w) k f fd ps sp)
  (h:∀ vs H Q E,e3 vs H Q E->sp vs H Q (fun _ _ _=>False)):bg P w K ao base cH k f fd ps e3:=by
 refine ⟨fun vs H Q E q=>F.len vs H _ _ (h vs H Q E q),fun A outer s H args us vs Q E au he ab aM aw=>?_⟩;refine codeAny_mono (F.run A outer s H args us vs Q _ au he ab aM (h vs H Q E aw)) fun r s' aH=>?_
 cases r with
 | error e=>
  obtain ⟨x,C,od,I,T,_,_,_,_,_,_,_,_,_,z⟩:=aH;exact z.elim
 | ok dM=>cases dM <;> exact aH
structure aae (k:Nat) (A:Around):Prop where
 iY:A.depth + 3 * k + 5 < recursionLimit
 un:A.units + 16 * k + 200 < cLine
structure WP (P:Program) (w:World) (K:a6) (ao:Str->Option Value) (base:Heap) (CX:fR) (k:Nat) (f:Addr) (fd:FuncData) (ps:List Str) (sp:bo):Prop where
 len:∀ vs H Q E,sp vs H Q E->vs.length=ps.length
 run:∀ (A:Around) (outer:List Env) (s:Shared) (H:ag) (args:Args) (us:List Value) (vs:List V) (Q:bG) (E:cD),aae k A->ny P w K ao base A outer s H->BindsTo s fd args (ps.zip us)->re vs us->sp vs H Q E ->
  codeAny (model P w) A (.call (.ref f) args) (Dv CX outer P w H s Q E) s
section
variable {X:aL} {CX:fR} {k:Nat} {f C:Addr} {fd:FuncData} {ps:List Str} {sp:bo} {dvs:List V} {ds:List Value} {E:cD} {x m:Str} {p pos e9:Pos} {e o:Expr} {a4:List Expr} {aQ:TE} {t:dx}
end
noncomputable def ag6 (CX:fR) (P:Program) (w:World) (K:a6) (ao:Str->Option Value) (base:Heap) (N:List Str) (qual:Str) (scope:Scope) (f:Addr) (cd:Value) (A:Around) (outer:List Env) (s:Shared) (H:ag) (E:cD):aL where
 prog:=P
 w:=w
 K:=K
 ao:=ao
 base:=base
 A:=A.deeper (envOfC qual scope s.heap.objs.size f cd)
 N:=N
 eX:=s
 rT:=H
 env:=envOfC qual scope s.heap.objs.size f cd
 outer:=outer
 stack:=envOfC qual scope s.heap.objs.size f cd :: outer
 ex:=[]
 calm:=false
 fn:=fun _=>true
 ek:=[]
 c0:=fun e s'=>wpAny (model P w) (A.deeper (envOfC qual scope s.heap.objs.size f cd)) (leaving (envOfC qual scope s.heap.objs.size f cd) e) (fun _ qJ=>CX outer H s E e qJ) (fun bB qJ=>CX outer H s E bB qJ) s'
section
variable {P:Program} {w:World} {K:a6} {ao:Str->Option Value} {base:Heap}
end
section
variable {X:aL}
end
section
variable {α:Type} {M:List α->Prop}
theorem hu (h:∀ a,M [a]):∀ us:List α,us.length=1->M us | [a],_=>h a
theorem iI (h:∀ a b,M [a,b]):∀ us:List α,us.length=2->M us | [a,b],_=>h a b
theorem f' (h:∀ a b c,M [a,b,c]):∀ us:List α,us.length=3->M us | [a,b,c],_=>h a b c
theorem zI (h:∀ a b c d,M [a,b,c,d]):∀ us:List α,us.length=4->M us | [a,b,c,d],_=>h a b c d
theorem abE (h:∀ a b c d e,M [a,b,c,d,e]):∀ us:List α,us.length=5->M us | [a,b,c,d,e],_=>h a b c d e
theorem x1 (h:∀ a b c d e f g,M [a,b,c,d,e,f,g]):∀ us:List α,us.length=7->M us | [a,b,c,d,e,f,g],_=>h a b c d e f g
theorem Wm (h:∀ a b c d e f g i,M [a,b,c,d,e,f,g,i]):∀ us:List α,us.length=8->M us | [a,b,c,d,e,f,g,i],_=>h a b c d e f g i
end
structure sQ (K:a6) (C:Addr):Prop where
 hd:x2 K C=true
 dA:((DZ K C).any fun cd=>u' cd.mro)=true
 jC:dg K (.ref C) "__setattr__"=some (some (.builtin "object.__setattr__"))
 ga:dg K (.ref C) "__getattribute__"=some (some (.builtin "BaseException.__getattribute__"))
 gt:dg K (.ref C) "__getattr__"=some none
theorem wh {K:a6} {C f:Addr} (b:sQ K C) (m:nZ K C f):ix K C:=⟨b.hd,b.dA,b.jC,b.ga,b.gt,_,m.e⟩
structure nD (K:a6) (C:Addr):Prop where
 aJ:dg K (.ref C) "__class__"=some (some (.builtin "object.__class__"))
 aF:sS K (.builtin "object.__class__") "__get__"=some (some (.builtin "getset_descriptor.__get__"))
 oX:CR K (.builtin "object.__class__")=some true
 hm:wD K C (.type "object")=some true
theorem B3 {K:a6} {C:Addr} (x:ix K C) (b:nD K C):rk K C:=⟨x,b.aJ,b.aF,b.oX,b.hm⟩
theorem TS {K:a6} {C f:Addr} (i:H3 K (.ref f)=true) (e:sv K C f=true) (k:oh K (.ref C)=true):nZ K C f:=⟨e,beq_iff_eq.mp i,k⟩
theorem aax {b3:List Int}:∀ {a0:List Value},re (b3.map V.int) a0->∃ xs:List (Int × Tok),a0=xs.map (fun p=>lq p.1 p.2)/\xs.map (·.1)=b3:=by
 induction b3 with
 | nil=>intro a0 r;cases r;exact ⟨[],rfl,rfl⟩
 | cons k b3 cj=>
  intro a0 r;cases r with
  | cons h t=>
   obtain ⟨xs,ax,aG⟩:=cj t;obtain ⟨cG,rfl⟩:=(show ∃ t,_=lq k t from h);exact ⟨(k,cG) :: xs,by rw [eJ,<- ax],by rw [eJ,aG]⟩
section
variable {X:aL}
theorem WL (ar:X.calm=true):lO X (.builtin "max") (fun xs H Q=>∃ l b3 m,xs=[.ref l]/\aK X.K H l (gv V.int b3)/\(m ∈ b3/\∀ k ∈ b3,k <= m)/\Q (.int m) H):=by
 intro aa s σ H xs us Q J r h;obtain ⟨l,b3,m,rfl,aH,hm,q⟩:=h;obtain ⟨u,rfl,eH⟩:=mg r;cases eH;obtain ⟨a0,cf,pl,az⟩:=J.list aH;obtain ⟨xs,ax,aG⟩:=aax cf;have q3:a0.toArray=intItems xs.toArray:=by rw [ax];unfold intItems;simp
 have T8:s.heap.IsList l (intItems xs.toArray):=by rw [<- q3];exact pl.isList
 have Gn:xs.length=b3.length:=by rw [<- aG,a']
 have bR:0 < xs.toArray.size:=by
  rw [fy,Gn];exact List.length_pos_of_mem hm.1
 refine max_intList (J.ok.hd ar) T8 bR fun v h' cG aM aE=>⟨.int m,H,J.kept aE,?_,q⟩
 obtain ⟨dH,rfl⟩:=intItems_at aM;refine ⟨dH,?_⟩;have ab:=argBest_gt (numAt xs.toArray) (xs.toArray.size - 1);generalize argBest (fun i j=>decide (numAt xs.toArray i > numAt xs.toArray j)) (xs.toArray.size - 1)=j at ab ⊢;have aF:∀ i,i < b3.length->b3[i]? = some (numAt xs.toArray i):=fun i ai=>by
  rw [numAt_eq,jW];show b3[i]? = some (((xs.map (·.1))[i]?).getD 0);rw [aG,b7 ai];rfl
 rw [fy] at ab bR;have ae:=hm.2 _ (c2 (aF j (by omega)));obtain ⟨i,ai⟩:=oD hm.1;have q3:i < b3.length:=(cg.mp ai).1;have ak:=ab.2 i (by omega);have a_:m=numAt xs.toArray i:=eS (ai.symm.trans (aF i q3));rw [show numAt xs.toArray j=m by omega]
noncomputable def HC (K:a6):V->List V->ag->bG->Prop:=fun x vs H Q=>∃ l b3 k,x=.ref l/\vs=[.int k]/\aK K H l (gv V.int b3)/\k ∈ b3/\b3.length <= 1000/\Q (.int (b3.idxOf k:Nat)) H
theorem UO:vd X "list.index" (HC X.K):=by
 intro aa s σ H x xs v us Q J bc cf h;obtain ⟨l,b3,k,rfl,rfl,aH,aE,aA,q⟩:=h;cases (show v=dk l from bc);obtain ⟨u,rfl,eH⟩:=mg cf;obtain ⟨so,rfl⟩:=(show ∃ t,u=lq k t from eH);obtain ⟨a0,vM,pl,az⟩:=J.list aH;have ai:=Wx vM;have hlen:=ai.length;have aZ:b3.idxOf k < b3.length:=List.idxOf_lt_length_iff.mpr aE;obtain ⟨⟨cls,dO,data,aP⟩,a7,ar,n,hd⟩:=id pl.isList;simp only at ar hd;subst ar hd;refine call_meets A7 ⟨_,a7,rfl⟩ WW (Vd _ _)
  (acw l a0.toArray n dO aP (.int k so) (isInt k) (b3.idxOf k) (by simpa [hlen] using aZ) (by omega) ?_ ?_) ⟨a7,fun y bI=>(eq_isInt k so ai y (by simpa using bI)).at _ _,.int _,H,J.tok _,⟨_,rfl⟩,q⟩
 .show isInt k a0[b3.idxOf k]=true;rw [isInt_at k ai _ (by omega) aZ];simpa using List.getElem_idxOf aZ
 .intro j VH cx;show isInt k a0[j]=false;rw [isInt_at k ai j (by simpa using VH) (by omega)];exact ne_of_lt_idxOf cx _
end
noncomputable def PP (p d:Addr):Heap->Prop:=fun h=>PySem.W.KdlKeysView h p d
section
variable {X:aL}
noncomputable def lJ:V->List V->ag->bG->Prop:=fun x vs H Q=>∃ d aT,x=.ref d/\vs=[]/\H d=some (.cE aT)/\∀ p,H p=none->Q (.ref p) (upd H p (.ext (PP p d)))
noncomputable def DH (K:a6):V->List V->ag->bG->Prop:=fun x vs H Q=>∃ l ys k j,x=.ref l/\vs=[.str k]/\aK K H l (bE ys)/\ys[j]? = some k/\(∀ m,m < j->ys[m]? ≠ some k)/\ys.length <= 1000/\Q (.int (j:Nat)) H
theorem Ct (k:Str):∀ {vs:List Value} {ns:List Str},StrsAre vs ns->∀ (j:Nat) (ae:j < vs.length) (ak:j < ns.length),isStrOf k vs[j]=(ns[j] == k)
 | _,_,.cons n t _,0,_,_=>rfl
 | _,_,.cons n t r,j + 1,ae,ak=>Ct k r j (Sp ae) (Sp ak)
theorem Ju:∀ {vs:List Value} {ns:List Str},StrsAre vs ns->vs.length=ns.length
 | _,_,.nil=>rfl
 | _,_,.cons _ _ r=>congrArg (· + 1) (Ju r)
theorem Io:vd X "list.index" (DH X.K):=by
 intro aa s σ H x xs v us Q J bc cf h;obtain ⟨l,b3,k,j,rfl,rfl,aH,aE,uz,aA,q⟩:=h;cases (show v=dk l from bc);obtain ⟨u,rfl,eH⟩:=mg cf;obtain ⟨so,rfl⟩:=(show ∃ t,u=qz k t from eH);obtain ⟨a0,vM,pl,az⟩:=J.list aH;have ai:=Ll vM;have hlen:=Ju ai;have aZ:j < b3.length:=(cg.mp aE).1;obtain ⟨⟨cls,dO,data,aP⟩,a7,ar,n,hd⟩:=id pl.isList;simp only at ar hd;subst ar hd;refine call_meets A7 ⟨_,a7,rfl⟩ WW (Vd _ _)
  (acw l a0.toArray n dO aP (.str k so) (isStrOf k) j (by simpa [hlen] using aZ) (by omega) ?_ ?_) ⟨a7,fun y bI=>(eq_isStrOf k so ai y (by simpa using bI)).at _ _,.int _,H,J.tok _,⟨_,rfl⟩,q⟩
 .show isStrOf k a0[j]=true;rw [Ct k ai _ (by omega) aZ];simpa using (cg.mp aE).2
 .intro m hm cx;show isStrOf k a0[m]=false;rw [Ct k ai m (by simpa using hm) (by omega)];have:=uz m cx;rw [b7 (by omega)] at this;simpa using this
end
noncomputable abbrev aea:=St->ag->Str->(Str->ag->Prop)->Prop
section
variable {X:aL} {e:Expr} {a4:List Expr} {t:aea} {bf:TE} {pos:Pos}
end
section
variable {X:aL}
end
structure ahR (X:aL) (c Hw:Addr):Prop where
 code:X.env.code=.ref c
 hd:PySem.W.CodeHd X.base c Hw
 bm:X.base.BuiltinsAt X.ao Hw
section
variable {X:aL} {aa:List (Addr × Obj)} {σ:St} {H:ag} {s:Shared} {params:Arguments} {body:Expr} {scope:Scope} {pos:Pos} {c Hw:Addr} {ah6:List (Str × Addr)} {Q:Value->Shared->Prop}
end
section
variable {P:Program} {w:World} {K:a6} {ao:Str->Option Value} {base:Heap}
end
structure ahB (p y:Str) (sc:Scope):Prop where
 kind:sc.kind=.function
 co:sc.isCoroutine=false
 gen:sc.isGenerator=false
 ne:p ≠ y
 par:sc.names.lookup p=some .local
 Vr:sc.names.lookup y=some .free
 BP:∀ z ∈ sc.names,z.2 ≠ .cell
 one:∀ z ∈ sc.names,z.2=.free->z.1=y
section
variable {X:aL} {aa:List (Addr × Obj)} {σ:St} {H:ag} {s:Shared} {k:Nat} {f eN cl:Addr} {q p y:Str} {params:Arguments} {body:Expr} {scope:Scope} {v:V} {t:TE}
end
section
variable {P:Program} {w:World} {A:Around} {E:Value->Shared->Prop} {s:Shared}
structure ai7 (h:Heap) (d:Addr) (o:Obj) (a4:Array DictEntry) (dS:Nat):Prop where
 at_:h.get? d=some o
 ex:o.ExactDict
 dat:o.data=.dict a4 dS
end
noncomputable def Ub (a:Addr) (o:Obj):Heap->Prop:=fun h=>h.get? a=some o
structure aiO (P:Program) (w:World) (H:ag) (a:Addr) (aT:List (List Key × V)) (o:Obj) (a4:Array DictEntry) (dS:Nat) (xs:List (List Key × Addr × Value)):Prop where
 at_:H a=some (.ext (Ub a o))
 ex:o.ExactDict
 dat:o.data=.dict a4 dS
 ent:a4.toList=xs.map (entryOfKey (tupleKind (iN P w)))
 aC:(xs.map (·.1)).Nodup
 b3:Paired (fun (p:List Key × V) (q:List Key × Addr × Value)=>p.1=q.1/\H q.2.1=some (.tup (p.1.map eo))/\bO p.2 q.2.2) aT xs
 oT:aT.length <= sizeLine
 ns:(a == sysModules)=false
section
variable {P:Program} {w:World} {H I:ag} {h:Heap} {a:Addr} {aT:List (List Key × V)}
end
section
variable {X:aL} {aa:List (Addr × Obj)} {σ:St} {H:ag} {s:Shared} {a b:Addr} {aT:List (List Key × V)} {k:List Key} {v:V} {r:Value} {A:Around} {E:Value->Shared->Prop}
end
section
variable {X:aL} {o i e value:Expr} {pos pos' uV:Pos} {eF ty dH:TE}
end
section
variable {X:aL} {ck:Expr}
end
structure aiJ (H I:ag) (l:Addr) (as:List Addr) (aT:List (Key × V)):Prop where
 same:∀ b o,H b=some o->I b=some o
 fresh:H l=none
 ahi:∀ a ∈ as,H a=none
 at_:I l=some (.lst (as.map V.ref))
 len:as.length=aT.length
 al:∀ (j:Nat) (a:Addr) (q:Key × V),as[j]? = some a->aT[j]? = some q->I a=some (.tup [eo q.1,q.2])
 only:∀ b o,I b=some o->H b=some o\/o=.lst (as.map V.ref)\/∃ q ∈ aT,o=.tup [eo q.1,q.2]
section
variable {X:aL}
end
section
open AutoSeq1 (wpAny_loadPart')
open MeetsSeq MeetsSeq2 MeetsSeq3 SeqRoads2
variable {P:Program} {w:World} {l b:Addr} {xs ys:Array Value} {n m:Nat} {dO ahk:Option Addr} {aP a9:Array (Option Value)}
end
section
variable {X:aL} {aa:List (Addr × Obj)} {σ:St} {H:ag} {s:Shared}
structure aiW (H:ag) (p:Addr) (ps:List Addr) (b3:List (List (Key × V))):Prop where
 at_:H p=some (.lst (ps.map V.ref))
 len:ps.length=b3.length
 al:∀ (j:Nat) (a:Addr) (aT:List (Key × V)),ps[j]? = some a->b3[j]? = some aT->H a=some (.cE aT)
end
section
variable {X:aL}
end
section
variable {X:aL} {aa:List (Addr × Obj)} {σ:St} {H:ag} {s:Shared} {d:Addr} {o:Obj} {aT:List (Key × V)}
end
section
variable {X:aL} {ck:Expr}
end
structure ai_ (X:aL) (aa:List (Addr × Obj)) (H:ag) (S:Addr):Prop where
 nn:H S=none
 nl:S ≠ X.env.locals
 ge:X.eX.heap.objs.size <= S
 Qt:∀ x c,X.env.cells.lookup x=some c->c ≠ S
 np:∀ p ∈ X.ek ++ aa,p.1 ≠ S
 jK:S ∉ X.aN
section
variable {X:aL} {A:Around} {aa:List (Addr × Obj)} {σ:St} {H:ag} {l q J S:Addr} {n:Nat} {P:Nat->Value->Prop} {R:Result->Shared->Prop}
end
structure aim (p y z:Str) (sc:Scope):Prop where
 kind:sc.kind=.function
 co:sc.isCoroutine=false
 gen:sc.isGenerator=false
 ne:y ≠ z
 par:sc.names.lookup p=some .local
 Vr:sc.names.lookup y=some .free
 PX:sc.names.lookup z=some .free
 BP:∀ z ∈ sc.names,z.2 ≠ .cell
 two:∀ b ∈ sc.names,b.2=.free->b.1=y\/b.1=z
section
variable {X:aL} {A:Around} {aa:List (Addr × Obj)} {σ:St} {H:ag} {s:Shared} {k:Nat} {f eN bT cU:Addr} {q p y z:Str} {params:Arguments} {body:Expr} {scope:Scope} {v1 v2:V} {t:TE}
end
section
open PySem.Spec PyProof.Rows
variable {prog:Program} {w:World} {A:Around} {E:Value->Shared->Prop} {s:Shared}
end
structure abe (av:Addr) (k:Nat) (A:Around):Prop where
 iY:A.depth + 3 * k + 5 < recursionLimit
 un:A.units + 16 * k + 200 < cLine
 hd:A.handled=some (.ref av)
section
variable {av:Addr}
end
structure ag9 (av:Addr) (P:Program) (w:World) (K:a6) (ao:Str->Option Value) (base:Heap) (CX:fR) (k:Nat) (f:Addr) (fd:FuncData) (ps:List Str) (sp:bo):Prop where
 len:∀ vs H Q E,sp vs H Q E->vs.length=ps.length
 run:∀ (A:Around) (outer:List Env) (s:Shared) (H:ag) (args:Args) (us:List Value) (vs:List V) (Q:bG) (E:cD),abe av k A->ny P w K ao base A outer s H->BindsTo s fd args (ps.zip us)->re vs us->sp vs H Q E ->
  codeAny (model P w) A (.call (.ref f) args) (Dv CX outer P w H s Q E) s
section
variable {av:Addr}
variable {X:aL} {CX:fR} {k:Nat} {f C:Addr} {fd:FuncData} {ps:List Str} {sp:bo} {dvs:List V} {ds:List Value} {E:cD} {x m:Str} {p pos e9:Pos} {e o:Expr} {a4:List Expr} {aQ:TE} {t:dx}
end
section
variable {av:Addr}
end
section
variable {av:Addr} {P:Program} {w:World} {K:a6} {ao:Str->Option Value} {base:Heap}
end
section
variable {av:Addr}
structure ais (av:Addr) (P:Program) (w:World) (K:a6) (ck:Expr) (bP:gU) (bu:List Addr) (it:Addr) (fg:Nat->Heap->Prop):Prop where
 mem:it ∈ bu
 obj:∀ i h,fg i h->∀ b ∈ bu,∃ o,h.get? b=some o/\∀ v,o.data ≠ .cell v
 keep:∀ i h h',fg i h->(∀ b ∈ bu,∀ o,h.get? b=some o->h'.get? b=some o)->fg i h'
 item:∀ (X:aL),X.prog=P->X.w=w->X.K=K->X.A.handled=some (.ref av)->∀ (i:Nat) (aa:List (Addr × Obj)) (s:Shared) (σ:St) (H:ag) (E:Value->Shared->Prop),Inv X aa σ H s->(∀ b ∈ bu,hQ X aa H b)->fg i s.heap->bP.go i H ->
  wpAny (model P w) X.A (pyNext (.ref it)) (fun r s1=>∃ u,r=some u /\
   wpAny (model P w) X.A (letOwnedTupleGo ck (.ref it) u) (fun _ s2=>∃ x I,Inv X aa σ I s2/\bO x u/\bP.m9 i H x I/\fg (i + 1) s2.heap/\∀ b ∈ bu,I b=none) E s1) E s
 done:∀ (X:aL),X.prog=P->X.w=w->X.K=K->X.A.handled=some (.ref av)->∀ (i:Nat) (aa:List (Addr × Obj)) (s:Shared) (σ:St) (H:ag) (E:Value->Shared->Prop),Inv X aa σ H s->(∀ b ∈ bu,hQ X aa H b)->fg i s.heap->bP.stop i H ->
  wpAny (model P w) X.A (pyNext (.ref it)) (fun r s1=>r=none/\Inv X aa σ H s1) E s
 self:∀ (A:Around) (i:Nat) (s:Shared) (Q:Value->Shared->Prop) (E:Value->Shared->Prop),fg i s.heap->Q (.ref it) s->wpAny (model P w) A (pyIter (.ref it)) Q E s
end
section
variable {av:Addr} {X:aL} {ck:Expr}
end
section
variable {av:Addr}
variable {X:aL} {elt ck iter:Expr} {ifs:List Expr} {scope:Scope} {pos:Pos} {de:TI} {g:dC} {cn:TT} {bf:TE} {N:List Str} {sel:List (Option Nat)}
end
section
end
section
variable {X:aL} {body rK:List Stmt} {nC:Stmt} {x n:Str} {c:Addr} {i:Nat} {bW:(St->cD)->cV} {g6:Addr->cV} {BH aq pos:Pos}
end
theorem eu (t u:cV) (D:d5) (σ:St) (H:ag):F' t u D σ H=(t { D with b5:=u D } σ H):=rfl
theorem J7 (K:a6) (aQ dH:TE) (f:Str) (D:d5) (σ:St) (H:ag):KP K aQ dH f D σ H=(dH σ H fun y H1=>aQ σ H1 fun x ay=>eC x fun a=>∃ C aj aN,ay a=some (.ins C aj aN)/\gB K C/\cB K C f/\aN.length < 1000 /\
 D.b5 σ (upd ay a (.ins C aj (c_ f y aN)))):=rfl
theorem KX (K:a6) (aQ dH:TE) (rd:V->V->ag->bG->Prop) (f:Str) (D:d5) (σ:St) (H:ag):P9 K aQ dH rd f D σ H=(aQ σ H fun x H1=>∃ a C aj aN v,x=.ref a/\H1 a=some (.ins C aj aN)/\gB K C/\cB K C f/\aN.lookup f=some v /\
 dH σ H1 fun y ay=>rd v y ay fun z bA=>∃ fs mM,bA a=some (.ins C fs mM)/\mM.length < 1000/\D.b5 σ (upd bA a (.ins C fs (c_ f z mM)))):=rfl
theorem KW (C:Addr) (m:Str) (sp:bo) (dvs:List V) (E:cD) (aQ:TE) (t:dx) (σ:St) (H:ag) (Q:bG):G2 C m sp dvs E aQ t σ H Q=(aQ σ H fun x H1=>eC x fun a=>∃ aj aN,H1 a=some (.ins C aj aN)/\aN.lookup m=none /\
 t σ H1 fun vs ay=>sp (x :: (vs ++ dvs)) ay Q E):=rfl
theorem MN (C:Addr) (sp:bo) (dvs:List V) (E:cD) (t:dx) (σ:St) (H:ag) (Q:bG):I3 C sp dvs E t σ H Q=(t σ H fun vs H1=>∀ x aj,H1 x=none->H1 aj=none->aj ≠ x ->
 sp (.ref x :: (vs ++ dvs)) (upd (upd H1 aj (.own x)) x (.ins C aj [])) (fun v ay=>v=.bH/\Q (.ref x) ay) E):=rfl
theorem N1 (K:a6) (x:V) (lo:Option Int) (ai:Option Int) (H:ag) (Q:bG):Oz K x lo ai H Q=(∃ a xs,x=.ref a/\bS K H a xs /\
 ¬ (fj.cM xs.length 0 lo=0/\fj.cM xs.length xs.length ai=xs.length)/\∀ p,H p=none->Q (.ref p) (upd H p (.tup (k0 xs lo ai)))):=rfl
theorem Mt (K:a6) (x:V) (y:V) (H:ag) (Q:bG):Nu K x y H Q=(∃ a b xs ys,x=.ref a/\y=.ref b/\bS K H a xs/\bS K H b ys/\xs ≠ []/\xs.length + ys.length <= sizeLine /\
 (ys=[]->Q (.ref a) H)/\(ys ≠ []->∀ p,H p=none->Q (.ref p) (upd H p (.tup (xs ++ ys))))):=rfl
theorem L7 (kW:Addr->Prop) (m:Str) (k_:Addr->bo) (E:cD) (aQ:TE) (t:dx) (σ:St) (H:ag) (Q:bG):OM kW m k_ E aQ t σ H Q=(aQ σ H fun x H1=>∃ a C aj aN,x=.ref a/\H1 a=some (.ins C aj aN)/\kW C/\aN.lookup m=none /\
 t σ H1 fun vs ay=>k_ C (x :: vs) ay Q E):=rfl
theorem RC (K:a6) (aQ dH:TE) (f:Str) (D:d5) (σ:St) (H:ag):Ou K aQ dH f D σ H=(dH σ H fun y H1=>aQ σ H1 fun x ay=>∃ a C,x=.ref a/\ay a=some (.ext (dB a C none))/\ix K C/\cB K C f /\
 ∀ aj,ay aj=none->aj ≠ a->D.b5 σ (upd (upd ay a (.ext (dB a C (some aj)))) aj (.ext (e4 aj [(f,y)])))):=rfl
theorem PI (K:a6) (aQ dH:TE) (f:Str) (D:d5) (σ:St) (H:ag):LL K aQ dH f D σ H=(dH σ H fun y H1=>aQ σ H1 fun x ay=>∃ a C aj aN,x=.ref a/\ay a=some (.ext (dB a C (some aj)))/\ay aj=some (.ext (e4 aj aN))/\ix K C/\cB K C f/\aN.length < 1000 /\
 D.b5 σ (upd ay aj (.ext (e4 aj (c_ f y aN))))):=rfl
noncomputable def du (bP:gU) (g:dC) (bW:cV) (D:d5) (σ:St) (H:ag):Prop:=∃ W:Nat->Nat->St->ag->Prop,(∃ m,W 0 m σ H)/\∀ i m σ H,W i m σ H ->
 (bP.stop i H/\D.b5 σ H)\/(bP.go i H/\∃ N:St->ag->Prop,(∀ aS I,N aS I->∃ dd,dd < m/\W (i + 1) dd aS I)/\∀ x I,bP.m9 i H x I->g x σ I fun cW ay=>bW { D with b5:=N,eP:=N,cO:=D.b5 } cW ay)
theorem PU (de:TI) (g:dC) (bW:cV) (D:d5) (σ:St) (H:ag):NS de g bW D σ H=de σ H fun bP H1=>du bP g bW D σ H1:=rfl
noncomputable def dm (bP:gU) (g:dC) (cn:TT) (bf:TE) (cJ:St) (Q:bG) (H:ag):Prop:=∃ W:Nat->Nat->List V->ag->Prop,(∃ m,W 0 m [] H)/\qe bP g cn bf cJ Q W
theorem O0 (de:TI) (g:dC) (cn:TT) (bf:TE) (sel:List (Option Nat)) (σ:St) (H:ag) (Q:bG):Cj de g cn bf sel σ H Q=de σ H fun bP H1=>dm bP g cn bf (k5 sel σ) Q H1:=rfl
theorem P6 (aQ:dx) (σ:St) (H:ag) (R:gU->ag->Prop):Rd aQ σ H R=(aQ σ H fun vs H1=>kS vs fun x=>fq x fun j=>-4611686018427387904 <= j/\j < 4611686018427387904/\R (jO 0 j.toNat) H1):=rfl
theorem Kh (aQ:dx) (σ:St) (H:ag) (R:gU->ag->Prop):Pm aQ σ H R=(aQ σ H fun vs H1=>∃ i j:Int,vs=[.int i,.int j]/\(-4611686018427387904 <= i/\i < 4611686018427387904/\-4611686018427387904 <= j/\j < 4611686018427387904)/\R (jO i (j - i).toNat) H1):=rfl
theorem aa2 {α β:Type} (f:α->β):[].map f=[]:=rfl
theorem VS {α β:Type} (f:α->β) (a:α) (l:List α):(a :: l).map f=f a :: l.map f:=rfl
theorem WU {α:Type} (l:List α):[] ++ l=l:=rfl
theorem S2 {α:Type} (a:α) (l r:List α):(a :: l) ++ r=a :: (l ++ r):=rfl
theorem afC {α:Type} (a b:α) (l:List α):(a :: l).set 0 b=b :: l:=rfl
theorem YY {α:Type} (a b:α) (l:List α) (n:Nat):(a :: l).set (n + 1) b=a :: l.set n b:=rfl
theorem aeX {α:Type} (a:α) (l:List α):(a :: l)[0]? = some a:=rfl
theorem aaN {α:Type} (a:α) (l:List α) (n:Nat):(a :: l)[n + 1]? = l[n]?:=rfl
theorem wP {α:Type}:([]:List α).length=0:=rfl
theorem ZH {α:Type} (a:α) (l:List α):(a :: l).length=l.length + 1:=rfl
theorem Ys {α β:Type} (f:α->Option β):(none:Option α).bind f=none:=rfl
theorem Ul {α β:Type} (f:α->Option β) (a:α):(some a).bind f=f a:=rfl
theorem adH {α:Type} (a:Option α):(some a).join=a:=rfl
theorem R_ {α:Type}:(none:Option (Option α)).join=none:=rfl
theorem Ov (sel:List (Option Nat)) (σ:St):k5 sel σ=sel.map fun o=>o.bind fun j=>(σ[j]?).join:=rfl
theorem ec {c:TT} {t u:cV} {D:d5} {σ:St} {H:ag} (b:Bool) (ar:∀ Q:Bool->ag->Prop,Q b H->c σ H Q) (ae:b=true->t D σ H) (ak:b=false->u D σ H):Fw c t u D σ H:=by
 refine ar _ ?_;cases b with
 | true=>exact ae rfl
 | false=>exact ak rfl
theorem wf {c:TT} {t u:cV} {D:d5} {σ:St} {H:ag} (R:Bool->ag->Prop) (ar:∀ Q:Bool->ag->Prop,(∀ b I,R b I->Q b I)->c σ H Q) (ae:∀ I,R true I->t D σ I) (ak:∀ I,R false I->u D σ I):Fw c t u D σ H:=by
 refine ar _ fun b I r=>?_
 cases b with
 | true=>exact ae I r
 | false=>exact ak I r
theorem adp {t:cV} {D:d5} {σ:St} {H:ag} (R:St->ag->Prop) (h:∀ fD:d5,(∀ σ H,R σ H->fD.b5 σ H)->fD.kZ=D.kZ->fD.cO=D.cO->fD.eP=D.eP->t fD σ H) (gG:∀ σ H,R σ H->D.b5 σ H):t D σ H:=h D gG rfl rfl rfl
theorem QI {t:cV} {D:d5} {σ:St} {H:ag} (R:St->ag->Prop) (h:∀ fD:d5,(∀ σ H,R σ H->fD.b5 σ H)->t fD σ H) (gG:∀ M,M=D.b5->∀ σ H,R σ H->M σ H):t D σ H:=h D (gG _ rfl)
theorem P0 {p:Prop} (h:∀ q,q=p->q):p:=h p rfl
theorem ahH {t:cV} {D:d5} {σ:St} {H:ag} (R:St->ag->Prop) (h:∀ fD:d5,(∀ σ H,R σ H->fD.b5 σ H)->t fD σ H) (gG:∀ σ H,R σ H->D.b5 σ H):t D σ H:=h D gG
theorem hj {t u:cV} {D:d5} {σ:St} {H:ag} (R:St->ag->Prop) (h:∀ fD:d5,(∀ σ H,R σ H->fD.b5 σ H)->t fD σ H) (gG:∀ M,M=u D->∀ σ H,R σ H->M σ H):F' t u D σ H:=h { D with b5:=u D } (gG _ rfl)
theorem Xi {bf:TE} {D:d5} {σ:St} {H:ag} (v:V) (ar:∀ Q:bG,Q v H->bf σ H Q) (h:D.kZ v H):zy bf D σ H:=ar _ h
theorem kl (x y:Str):(x ++ y).length=x.length + y.length:=by
 show (x.cps ++ y.cps).size=_;rw [Array.size_append];rfl
theorem du.range {lo:Int} {n:Nat} {g:dC} {bW:cV} {D:d5} {σ:St} {H:ag} (Pv:Nat->St->ag->Prop) (h0:Pv 0 σ H)
  (aw:∀ i σ H,i < n->Pv i σ H->g (.int (lo + i)) σ H fun cW ay=>bW { D with b5:=Pv (i + 1),eP:=Pv (i + 1),cO:=D.b5 } cW ay) (hd:∀ σ H,Pv n σ H->D.b5 σ H):du (jO lo n) g bW D σ H:=SP Pv h0 aw hd
theorem du.list {K:a6} {a:Addr} {xs:List V} {g:dC} {bW:cV} {D:d5} {σ:St} {H:ag} (Pv:Nat->St->ag->Prop) (h0:Pv 0 σ H) (aA:∀ i σ H,i <= xs.length->Pv i σ H->aK K H a xs)
  (aw:∀ i x σ H,xs[i]? = some x->Pv i σ H->g x σ H fun cW ay=>bW { D with b5:=Pv (i + 1),eP:=Pv (i + 1),cO:=D.b5 } cW ay) (hd:∀ σ H,Pv xs.length σ H->D.b5 σ H):du (mS K a) g bW D σ H:=adt Pv h0 aA aw hd
theorem dm.list {K:a6} {a:Addr} {xs:List V} {g:dC} {cn:TT} {bf:TE} {cJ:St} {Q:bG} {H:ag} (Pv:Nat->List V->ag->Prop) (az:xs.length <= sizeLine) (h0:Pv 0 [] H) (aA:∀ i ys H,i <= xs.length->Pv i ys H->aK K H a xs/\ys.length <= i)
  (aw:∀ i x ys H,xs[i]? = some x->Pv i ys H->nI Pv g cn bf cJ i x ys H) (hd:∀ ys H,Pv xs.length ys H->∀ p,H p=none->Q (.ref p) (upd H p (.lst ys))):dm (mS K a) g cn bf cJ Q H:=aeA Pv az h0 aA aw hd
theorem dm.a0 {xs:List V} {g:dC} {cn:TT} {bf:TE} {cJ:St} {Q:bG} {H:ag} (Pv:Nat->List V->ag->Prop) (az:xs.length <= sizeLine) (h0:Pv 0 [] H) (aA:∀ i ys H,i <= xs.length->Pv i ys H->ys.length <= i)
  (aw:∀ i x ys H,xs[i]? = some x->Pv i ys H->nI Pv g cn bf cJ i x ys H) (hd:∀ ys H,Pv xs.length ys H->∀ p,H p=none->Q (.ref p) (upd H p (.lst ys))):dm (w6 xs) g cn bf cJ Q H:=Yh Pv az h0 aA aw hd
theorem dm.range {lo:Int} {n:Nat} {g:dC} {cn:TT} {bf:TE} {cJ:St} {Q:bG} {H:ag} (Pv:Nat->List V->ag->Prop) (az:n <= sizeLine) (h0:Pv 0 [] H) (aA:∀ i ys H,i <= n->Pv i ys H->ys.length <= i)
  (aw:∀ i ys H,i < n->Pv i ys H->nI Pv g cn bf cJ i (.int (lo + i)) ys H) (hd:∀ ys H,Pv n ys H->∀ p,H p=none->Q (.ref p) (upd H p (.lst ys))):dm (jO lo n) g cn bf cJ Q H:=afV Pv az h0 aA aw hd
theorem aaD {α β:Type} {xs:List α} {i:Nat} {x:α} (f:α->β) (h:xs[i]? = some x):(xs.take (i + 1)).map f=(xs.take i).map f ++ [f x]:=by
 rw [vh,h,eM];rfl
theorem dm.Zc {xs:List V} {g:dC} {bf:TE} {cJ:St} {Q:bG} {H:ag} (f:V->V) (az:xs.length <= sizeLine) (aw:∀ (i:Nat) (x:V) (N:V->ag->Prop),xs[i]? = some x->N (f x) H->g x cJ H fun cW ay=>Sub cJ cW/\bf cW ay N)
  (hd:∀ p,H p=none->Q (.ref p) (upd H p (.lst (xs.map f)))):dm (w6 xs) g o7 bf cJ Q H:=by
 refine dm.a0 (fun i ys I=>I=H/\ys=(xs.take i).map f) az ⟨rfl,rfl⟩ (fun i ys I ai ⟨_,e⟩=>?_) (fun i x ys I av ⟨ax,aG⟩ N bb=>?_) (fun ys I ⟨ax,aG⟩ p aq=>?_)
 .rw [e,a',gV];omega
 .subst ax;exact aw i x (fun y bY=>N (ys ++ [y]) bY) av (bb _ _ ⟨rfl,by rw [aG,aaD f av]⟩)
 .subst ax;rw [aG,kH];exact hd p aq
theorem dm.Oe {lo:Int} {n:Nat} {g:dC} {bf:TE} {cJ:St} {Q:bG} {H:ag} (f:Nat->V) (az:n <= sizeLine) (aw:∀ (i:Nat) (N:V->ag->Prop),i < n->N (f i) H->g (.int (lo + i)) cJ H fun cW ay=>Sub cJ cW/\bf cW ay N)
  (hd:∀ p,H p=none->Q (.ref p) (upd H p (.lst ((fc n).map f)))):dm (jO lo n) g o7 bf cJ Q H:=by
 refine dm.range (fun i ys I=>I=H/\ys=(fc i).map f) az ⟨rfl,rfl⟩ (fun i ys I ai ⟨_,e⟩=>?_) (fun i ys I ai ⟨ax,aG⟩ N bb=>?_) (fun ys I ⟨ax,aG⟩ p aq=>?_)
 .rw [e,a',A3];exact b2 _
 .subst ax;exact aw i (fun y bY=>N (ys ++ [y]) bY) ai (bb _ _ ⟨rfl,by rw [aG,Ei,eM];rfl⟩)
 .subst ax;rw [aG];exact hd p aq
theorem dm.aaz {K:a6} {a:Addr} {xs:List V} {g:dC} {bf:TE} {cJ:St} {Q:bG} {H:ag} (f:V->df) (aA:aK K H a xs) (az:xs.length <= sizeLine) (aF:∀ x,nR (f x)=true)
  (aw:∀ (i:Nat) (x:V) (H1:ag) (N:V->ag->Prop),xs[i]? = some x->aI H H1->(aV H->aV H1)->(∀ q,H1 q=none->N (.ref q) (upd H1 q (f x)))->g x cJ H1 fun cW ay=>Sub cJ cW/\bf cW ay N)
  (hd:∀ (qs:List Addr) (H1:ag),aI H H1->(aV H->aV H1)->qs.length=xs.length->(∀ (j:Nat) (q:Addr) (x:V),qs[j]? = some q->xs[j]? = some x->H1 q=some (f x)/\H q=none)->∀ p,H1 p=none->Q (.ref p) (upd H1 p (.lst (qs.map V.ref)))):dm (mS K a) g o7 bf cJ Q H:=by
 refine dm.list (fun i ys I=>∃ qs:List Addr,ys=qs.map V.ref/\qs.length=i/\aI H I/\(aV H->aV I)/\∀ (j:Nat) (q:Addr) (x:V),qs[j]? = some q->xs[j]? = some x->I q=some (f x)/\H q=none) az
  ⟨[],rfl,rfl,aI.refl H,id,fun j q x h _=>by simp at h⟩ ?_ ?_ ?_
 .rintro i ys I ai aX;refine P0 fun gu a5=>?_
  obtain ⟨qs,e,aG,a9,_,_⟩:=aX;subst a5;exact ⟨aA.same a9,by rw [e,a'];omega⟩
 .rintro i x ys I av ⟨qs,ax,aG,a9,bh,al⟩ N bb;refine aw i x I (fun y bY=>N (ys ++ [y]) bY) av a9 bh fun q aH=>bb _ _ ⟨qs ++ [q],by rw [ax,eM];rfl,by rw [dP,aG];rfl,a9.g9 (a9.free aH),fun n=>(bh n).upd (aF x),fun j d2 ZE ae ak=>?_⟩
  by_cases aZ:j < qs.length
  .rw [v7 aZ] at ae;obtain ⟨ef,dy⟩:=al j d2 ZE ae ak;exact ⟨by rw [aW (cy ef aH)];exact ef,dy⟩
  .rw [xo (by omega)] at ae;have wy:j - qs.length=0:=by
    cases cN:j - qs.length with
    | zero=>rfl
    | succ n=>rw [cN] at ae;simp at ae
   rw [wy] at ae;have bM:q=d2:=by simpa using ae
   subst bM;have f7:j=i:=by omega
   subst f7;rw [av] at ak;cases ak;exact ⟨aU,a9.free aH⟩
 .rintro ys I ⟨qs,ax,aG,a9,bh,al⟩ p aq;subst ax;exact hd qs I a9 bh aG al p aq
theorem du.of {bP:gU} {n:Nat} {g:dC} {bW:cV} {D:d5} {σ:St} {H:ag} (Pv:Nat->St->ag->Prop) (h0:Pv 0 σ H) (sR:∀ i σ H,i < n->Pv i σ H->bP.go i H) (gd:∀ σ H,Pv n σ H->bP.stop n H)
  (aw:∀ i σ H x I,i < n->Pv i σ H->bP.m9 i H x I->g x σ I fun cW ay=>bW { D with b5:=Pv (i + 1),eP:=Pv (i + 1),cO:=D.b5 } cW ay) (hd:∀ σ H,Pv n σ H->D.b5 σ H):du bP g bW D σ H:=by
 refine ⟨fun i m σ H=>m=n - i/\i <= n/\Pv i σ H,⟨n,by simp,fv _,h0⟩,?_⟩;rintro i m σ H ⟨rfl,ai,p⟩;by_cases cx:i < n
 .exact .inr ⟨sR i σ H cx p,Pv (i + 1),fun aS I qY=>⟨n - (i + 1),by omega,rfl,cx,qY⟩,fun x I y=>aw i σ H x I cx p y⟩
 .have e:i=n:=by omega
  subst e;exact .inl ⟨gd σ H p,hd σ H p⟩
theorem dm.of {bP:gU} {n:Nat} {g:dC} {cn:TT} {bf:TE} {cJ:St} {Q:bG} {H:ag} (Pv:Nat->List V->ag->Prop) (az:n <= sizeLine) (h0:Pv 0 [] H) (sR:∀ i ys H,i < n->Pv i ys H->bP.go i H) (gd:∀ ys H,Pv n ys H->bP.stop n H) (aA:∀ i ys H,i < n->Pv i ys H->ys.length <= i)
  (aw:∀ i ys H x I,i < n->Pv i ys H->bP.m9 i H x I->nI Pv g cn bf cJ i x ys I) (hd:∀ ys H,Pv n ys H->∀ p,H p=none->Q (.ref p) (upd H p (.lst ys))):dm bP g cn bf cJ Q H:=by
 refine ⟨fun i m ys H=>m=n - i/\i <= n/\Pv i ys H,⟨n,by simp,fv _,h0⟩,?_⟩;rintro i m ys H ⟨rfl,ai,p⟩;by_cases cx:i < n
 .have As:=aA i ys H cx p;refine .inr ⟨sR i ys H cx p,by omega,fun x I y=>?_⟩;exact aw i ys H x I cx p y (fun iF I=>∃ dd,dd < n - i/\dd=n - (i + 1)/\i + 1 <= n/\Pv (i + 1) iF I) fun iF I r=>⟨n - (i + 1),by omega,rfl,cx,r⟩
 .have e:i=n:=by omega
  subst e;exact .inl ⟨gd ys H p,hd ys H p⟩
section
variable {K:a6} {a b:Addr} {xs ys:List V} {g:dC} {bW:cV} {D:d5} {σ cJ:St} {H:ag} {cn:TT} {bf:TE} {Q:bG}
theorem du.enum (Pv:Nat->St->ag->Prop) (h0:Pv 0 σ H) (aA:∀ i σ H,i <= xs.length->Pv i σ H->aK K H a xs)
  (aw:∀ i x σ H p,xs[i]? = some x->Pv i σ H->H p=none->g (.ref p) σ (upd H p (.tup [.int i,x])) fun cW ay=>bW { D with b5:=Pv (i + 1),eP:=Pv (i + 1),cO:=D.b5 } cW ay) (hd:∀ σ H,Pv xs.length σ H->D.b5 σ H):du (zu K a) g bW D σ H:=by
 refine du.of (n:=xs.length) Pv h0 (fun i σ H ai p=>⟨xs,xs[i],aA i σ H (pM ai) p,by simp [ai]⟩) (fun σ H p=>⟨xs,aA _ σ H (b2 _) p,b2 _⟩) (fun i σ H v I ai p y=>?_) hd;obtain ⟨q,x,aH,rfl,av,rfl⟩:=y;exact aw i x σ H q (av xs (aA i σ H (pM ai) p)) p aH
theorem dm.enum (Pv:Nat->List V->ag->Prop) (az:xs.length <= sizeLine) (h0:Pv 0 [] H) (aA:∀ i ys H,i <= xs.length->Pv i ys H->aK K H a xs/\ys.length <= i)
  (aw:∀ i x ys H p,xs[i]? = some x->Pv i ys H->H p=none->nI Pv g cn bf cJ i (.ref p) ys (upd H p (.tup [.int i,x]))) (hd:∀ ys H,Pv xs.length ys H->∀ p,H p=none->Q (.ref p) (upd H p (.lst ys))):dm (zu K a) g cn bf cJ Q H:=by
 refine dm.of (n:=xs.length) Pv az h0 (fun i ys H ai p=>⟨xs,xs[i],(aA i ys H (pM ai) p).1,by simp [ai]⟩) (fun ys H p=>⟨xs,(aA _ ys H (b2 _) p).1,b2 _⟩) (fun i ys H ai p=>(aA i ys H (pM ai) p).2) (fun i zs H v I ai p y=>?_) hd;obtain ⟨q,x,aH,rfl,av,rfl⟩:=y;exact aw i x zs H q (av xs (aA i zs H (pM ai) p).1) p aH
theorem acq {i j:Nat} {p:Addr} {x y:V} {R:St->ag->Prop} (h:bS K H p [x,y]) (q:R ((σ.set i (some x)).set j (some y)) H):r8 K 2 (rl (fO i) (rl (fO j) uF)) (.ref p) σ H R:=
 ⟨p,_,rfl,h,rfl,x,_,rfl,y,_,rfl,rfl,q⟩
theorem uj {i j:Nat} {p:Addr} {x y:V} {R:St->ag->Prop} (q:R ((σ.set i (some x)).set j (some y)) (upd H p (.tup [x,y]))):r8 K 2 (rl (fO i) (rl (fO j) uF)) (.ref p) σ (upd H p (.tup [x,y])) R:=
 acq (.inl (.inl aU)) q
end
theorem Sub.Ds {r:St} {v w:Option V}:Sub (none :: none :: r) (v :: w :: r):=by
 refine ⟨rfl,fun i u h=>?_⟩
 match i with
 | 0=>cases h
 | 1=>cases h
 | i + 2=>exact h
theorem Sub.Jk {r:St} {v w z:Option V}:Sub (none :: none :: none :: r) (v :: w :: z :: r):=by
 refine ⟨rfl,fun i u h=>?_⟩
 match i with
 | 0=>cases h
 | 1=>cases h
 | 2=>cases h
 | i + 3=>exact h
theorem dm.xI {K:a6} {a:Addr} {xs zs:List V} {g:dC} {bf:TE} {cJ:St} {Q:bG} {H:ag} (aA:aK K H a xs) (az:xs.length <= sizeLine) (he:zs.length=xs.length)
  (aw:∀ (i:Nat) (x z:V) (N:V->ag->Prop),xs[i]? = some x->zs[i]? = some z->N z H->g x cJ H fun cW ay=>Sub cJ cW/\bf cW ay N) (hd:∀ p,H p=none->Q (.ref p) (upd H p (.lst zs))):dm (mS K a) g o7 bf cJ Q H:=by
 refine dm.list (fun i ys I=>I=H/\ys=zs.take i) az ⟨rfl,rfl⟩ (fun i ys I ai ⟨eZ,e⟩=>?_) (fun i x ys I av ⟨ax,aG⟩ N bb=>?_) (fun ys I ⟨ax,aG⟩ p aq=>?_)
 .subst eZ;exact ⟨aA,by rw [e,gV];omega⟩
 .subst ax;have ai:i < zs.length:=by rw [he];exact (cg.mp av).1
  have fK:zs[i]? = some zs[i]:=b7 ai;exact aw i x zs[i] (fun y bY=>N (ys ++ [y]) bY) av fK (bb _ _ ⟨rfl,by rw [aG,vh,fK];rfl⟩)
 .subst ax;rw [aG,<- he,kH];exact hd p aq
theorem dm.U9 {K:a6} {a:Addr} {xs zs:List V} {g:dC} {bf:TE} {cJ:St} {Q:bG} {H:ag} (aA:bS K H a xs) (az:xs.length <= sizeLine) (he:zs.length=xs.length)
  (aw:∀ (i:Nat) (x z:V) (N:V->ag->Prop),xs[i]? = some x->zs[i]? = some z->N z H->g x cJ H fun cW ay=>Sub cJ cW/\bf cW ay N) (hd:∀ p,H p=none->Q (.ref p) (upd H p (.lst zs))):dm (zd K a) g o7 bf cJ Q H:=by
 refine WQ (xs:=xs) (fun i ys I=>I=H/\ys=zs.take i) az ⟨rfl,rfl⟩ (fun i ys I ai ⟨eZ,e⟩=>?_) (fun i x ys I av ⟨ax,aG⟩ N bb=>?_) (fun ys I ⟨ax,aG⟩ p aq=>?_)
 .subst eZ;exact ⟨aA,by rw [e,gV];omega⟩
 .subst ax;have ai:i < zs.length:=by rw [he];exact (cg.mp av).1
  have fK:zs[i]? = some zs[i]:=b7 ai;exact aw i x zs[i] (fun y bY=>N (ys ++ [y]) bY) av fK (bb _ _ ⟨rfl,by rw [aG,vh,fK];rfl⟩)
 .subst ax;rw [aG,<- he,kH];exact hd p aq
theorem dm.X4 {lo:Int} {n:Nat} {ss:List (Option V)} {g:dC} {cn:TT} {bf:TE} {cJ:St} {Q:bG} {H:ag} (az:n <= sizeLine) (he:ss.length=n)
  (aw:∀ (i:Nat) (o:Option V) (ys:List V) (N:List V->ag->Prop),i < n->ss[i]? = some o->N (ys ++ o.toList) H->g (.int (lo + i)) cJ H fun cW ay=>Sub cJ cW/\cn cW ay fun c bA=>if c=true then bf cW bA fun y bY=>N (ys ++ [y]) bY else N ys bA)
  (hd:∀ p,H p=none->Q (.ref p) (upd H p (.lst (ss.flatMap Em)))):dm (jO lo n) g cn bf cJ Q H:=by
 refine dm.range (fun i ys I=>I=H/\ys=(ss.take i).flatMap Em/\ys.length <= i) az ⟨rfl,rfl,b2 _⟩ (fun i ys I ai ⟨eZ,e,bB⟩=>bB) (fun i ys I ai ⟨ax,aG,bM⟩ N bb=>?_) (fun ys I ⟨ax,aG,_⟩ p aq=>?_)
 .subst ax;have jI:i < ss.length:=by omega
  have fK:ss[i]? = some ss[i]:=b7 jI;refine aw i ss[i] ys N ai fK (bb _ _ ⟨rfl,by rw [aG,vh,fK,List.flatMap_append];simp,?_⟩);rw [dP];cases ss[i] <;> simp <;> omega
 .subst ax;rw [aG,<- he,kH];exact hd p aq
theorem SV {c:TT} {bW:cV} {D:d5} {σ:St} {H:ag} (Pv:St->ag->Prop) (uT:St->ag->Nat) (h0:Pv σ H)
  (aw:∀ σ H,Pv σ H->∃ b:Bool,(∀ Q:Bool->ag->Prop,Q b H->c σ H Q)/\(b=true->bW { D with b5:=fun aS I=>Pv aS I/\uT aS I < uT σ H,eP:=fun aS I=>Pv aS I/\uT aS I < uT σ H,cO:=D.b5 } σ H)/\(b=false->D.b5 σ H)):MS c bW D σ H:=by
 refine ⟨fun m σ H=>m=uT σ H/\Pv σ H,⟨_,rfl,h0⟩,?_⟩;rintro m σ H ⟨rfl,p⟩;obtain ⟨b,ar,ae,ak⟩:=aw σ H p;refine ar _ ?_;cases b with
 | true=>exact ⟨_,fun aS I ⟨qY,l⟩=>⟨_,l,rfl,qY⟩,ae rfl⟩
 | false=>exact ak rfl
theorem Sub.name {r:St} {v:Option V}:Sub (none :: r) (v :: r):=by
 refine ⟨rfl,fun i w h=>?_⟩;cases i with
 | zero=>cases h
 | succ i=>exact h
theorem bJ {X:aL} {i:Nat} {x:Str} {e:Expr} {bf:TE} {pos pos':Pos} (bb:X.N.Nodup) (he:br X e bf) (ai:X.N[i]? = some x:=by rfl) (av:Loc X.env.scope x:=by exact mE rfl) (aw:swapsWith e (some (.Name x pos')) pos.line X.env=pure false:=by rfl) (hf:X.fn x=true\/X.env.scope.names.lookup x=some .local:=by first | exact .inl rfl | exact .inr rfl | assumption):gc X (.Assign [.Name x pos'] e pos) (tC bf (fO i)):=yt bb ai av he aw hf
theorem b' {X:aL} {pos:Pos} {i:Nat} {x:Str} (bb:X.N.Nodup) (ai:X.N[i]? = some x:=by rfl) (av:Loc X.env.scope x:=by exact mE rfl) (hf:X.fn x=true\/X.env.scope.names.lookup x=some .local:=by first | exact .inl rfl | exact .inr rfl | assumption):lL X (.Name x pos) (fO i):=Ay bb ai av hf
theorem bX {X:aL} {a b:Expr} {aQ bW:TE} {pos:Pos} {r:fF} (au:uL X r) (aJ:br X a aQ) (ab:br X b bW) (aw:OS b:=by exact fun _ _=>rfl):br X (.Subscript a b pos) (qk r aQ bW):=Uu au aJ ab aw
theorem cb {X:aL} {k:Nat} {f:Addr} {fd:FuncData} {ps:List Str} {sp:bo} {x:Str} {p pos:Pos} {e:Expr} {a4:List Expr} {t:dx} (F:bg X.prog X.w X.K X.ao X.base cH k f fd ps sp) (au:es k X.A) (hm:X.ao x=some (.ref f)) (aE:oh X.K (.ref f)=true) (ab:bL X.K fd ps []) (aJ:dr X (e :: a4) t) (a3:g5 X x:=by rfl) (g_:(x == ("__debug__" : Str))=false:=by decide) (he:starEach (e :: a4) X.env=(false,eval e X.env) :: starEach a4 X.env:=by rfl) (dn:(backTo pos (starEach a4 X.env)).any (·.1)=false:=by rfl):br X (.Call (.Name x p) (e :: a4) [] pos) (vU sp [] tW t):=pq F au a3 hm aE ab .nil c5 aJ g_ he dn
end L2
local macro_rules|`(tactic|nofun)=>do let f(s:String):=(s.splitOn " ").toArray.map fun x=>Lean.mkCIdent x.toName;let c:=f "L2.Bj L2.p2 L2.zG L2.Hc L2.He L2.Ck L2.HS L2.HJ L2.Cq L2.qT L2.eu L2.BY L2.zy L2.GR L2.fO L2.uF L2.rl L2.r8 L2.HT L2.tC L2.sK L2.DA L2.qk L2.Dm L2.qf L2.mW L2.xf L2.Dj L2.Ib L2.CF L2.E7 L2.J7 L2.KX L2.Hx L2.vo L2.xL L2.C4 L2.FF L2.vU L2.KW L2.MN L2.yZ L2.FH L2.C6 L2.B8 L2.N1 L2.Mt L2.GX L2.EF L2.E9 L2.Gq L2.DY L2.zL L2.Gl L2.Dl L2.DP L2.HB L2.Ca L2.ES L2.FX L2.H7 L2.o7 L2.E2 L2.Er L2.DT L2.FL L2.L7 L2.DJ L2.B9 L2.EG L2.CK L2.Gz L2.Di L2.HE L2.RC L2.PI L2.Fy L2.HZ L2.Cb L2.HH L2.FR L2.HC L2.lJ L2.DH L2.PU L2.O0 L2.P6 L2.Kh L2.Pu L2.LU L2.Nw L2.OW L2.Nm L2.JU L2.P8 L2.QL L2.MC L2.start L2.Ov Nat.reduceAdd Nat.reduceSub List.replicate";let a:=f "L2.lS L2.ag6 L2.aL.tO L2.aL.hF L2.aL.block L2.aL.hU L2.aL.aF L2.aa2 L2.VS L2.WU L2.S2 L2.afC L2.YY L2.aeX L2.aaN L2.wP L2.ZH L2.Ys L2.Ul L2.adH L2.R_"++c;let b:=c++f "L2.aaC L2.T6 L2.Xd L2.adF L2.agY List.map_cons List.map_nil Option.bind_none Option.bind_some Option.join_some Option.join_none List.length_cons List.length_nil Nat.zero_add List.cons_append List.nil_append List.append_nil List.set_cons_zero List.set_cons_succ List.getElem?_cons_zero List.getElem?_cons_succ Option.some.injEq L2.V.int.injEq L2.V.bq.injEq L2.V.str.injEq L2.V.ref.injEq L2.V.ty.injEq exists_eq_left' exists_eq_left exists_and_left List.cons.injEq and_true true_and and_assoc Int.zero_add reduceCtorEq false_and exists_false and_false ite_true ite_false if_true if_false Bool.false_eq_true L2.Cz L2.CU false_or or_false Bool.not_true Bool.not_false decide_true decide_false";`(tactic|((try dsimp only [$[$a:ident],*]);(try simp only [$[$b:ident],*])))
local macro_rules | `(tactic| walk_at "B")=>`(tactic| first | rfl | (dsimp only [L2.aL.block];done) | (dsimp only [L2.aL.block];exact rfl))
local macro_rules | `(tactic| walk_at "F")=>`(tactic| exact ⟨rfl,rfl,rfl,by ac_nf,rfl,by ac_nf,by ac_nf⟩)
namespace L2
open PySem
theorem dp {P:Program} {w:World} {K:a6} {ao:Str->Option Value} {base:Heap} {C:fR} {m n:Nat} {f a:Addr} {fd b:FuncData} {ps q:List Str} {sp S:bo} (h:bg P w K ao base C m f fd ps sp) (g:bg P w K ao base C n f fd ps sp->bg P w K ao base C (n+1) a b q S) (hm:m<=n:=by decide):bg P w K ao base C (n+1) a b q S:=g (h.mono hm)
end L2
set_option hygiene false
local macro_rules | `(tactic| walk_at "O")=>`(tactic| (intro vs H Q E h;repeat (first | (obtain ⟨rfl,_⟩:=h;rfl) | (obtain ⟨_,h⟩:=h))))
set_option hygiene true
set_option hygiene false
local macro_rules | `(tactic| ac_rfl)=>`(tactic| refine P0 fun gu a5=>?_)
local macro_rules | `(tactic| exists $e,0)=>`(tactic| refine QI $e (fun fD bj=>?_) fun gu a5=>?_)
local macro_rules | `(tactic| exists $e,1)=>`(tactic| refine QI $e (fun D bj=>?_) fun gu a5=>?_)
local macro_rules | `(tactic| exists $e,9)=>`(tactic| refine ($e) (by walk_at "O") (fun _ _ _ s H vs Q E au h=>?_))
set_option hygiene true
namespace My
open PySem L2
local macro_rules|`(~~~$x)=>`(some (L2.V.ref $x))
abbrev hg:List Str:=["self","name"]
abbrev ji:List Str:=["self","name","start","end","off","near","least"]
abbrev qg:List Str:=["spans","name"]
abbrev qa:List Str:=["self","good"]
abbrev s6:List Str:=["self","low","high"]
abbrev o3:List Str:=["crossing","one","other"]
abbrev oK:List Str:=["crossing","size","spans"]
abbrev ry:List Str:=["_law_places","_law_ways_here"]
abbrev sJ:List Str:=["self","choices"]
abbrev wc:List Str:=["word","signs","most"]
abbrev Bl:List Str:=["self","kind","name","start","end","off","near","least"]
abbrev wo:List Str:=["plan","name","turn"]
abbrev BF:List Str:=["_law_script","_law_k","_law_many"]
abbrev tk:List Str:=["_law_script"]
abbrev vg:List Str:=["plan","name"]
abbrev yQ:List Str:=["word","most_figures"]
abbrev x7:List Str:=["word","low","high"]
abbrev yU:List Str:=["reader","places","start"]
abbrev Bq:List Str:=["sort","name","start","end","off","near","least"]
abbrev z5:List Str:=["places","way","second"]
abbrev yS:List Str:=["size","spans","name"]
abbrev Cc:List Str:=["_law_places","_law_one","_law_other"]
abbrev xa:List Str:=["self","row","word"]
abbrev vR:List Str:=["self","way"]
abbrev xd:List Str:=["self","way","at"]
abbrev vZ:List Str:=["self","way","other","at"]
abbrev wa:List Str:=["self","row","told"]
abbrev y2:List Str:=["plan","turn"]
abbrev Hr:List Str:=["reader","ways"]
abbrev zp:List Str:=["reader","places","ways"]
abbrev AZ:List Str:=["places","way","place"]
abbrev GC:List Str:=["way","size","spans"]
abbrev Ba:List Str:=["reader","crossing","size","spans"]
abbrev AH:List Str:=["crossing","text"]
abbrev Ad:List Str:=["crossing","spans"]
abbrev zV:List Str:=["size","spans","place"]
abbrev xU:List Str:=["crossing","one","other","since_one","since_other"]
abbrev za:List Str:=["crossing","size","rows"]
abbrev Bx:List Str:=["_law_script","_law_places","_law_ways_here"]
abbrev zX:List Str:=["_law_crossing","_law_text_here"]
abbrev xW:List Str:=["_law_places","_law_ways_here","_law_rows"]
abbrev Bo:List Str:=["_law_way","_law_row"]
abbrev zP:List Str:=["_law_way","_law_row","_law_wait","_law_size"]
abbrev xE:List Str:=["self","places","ways"]
abbrev BA:List Str:=["self","crossing","size","spans"]
abbrev Bp:List Str:=["called","begin","turns","name"]
abbrev zb:List Str:=["name","begin","turns"]
abbrev Cf:List Str:=["size","spans","place","name","begin","turns","others"]
abbrev Dq:List Str:=["_law_script","_law_made","_law_ways_here","_law_crossing","_law_spans_here","_law_size","_law_text_here","_law_one","_law_told","_law_far","_law_shown","_law_way","_law_row"]
abbrev FI:List Str:=["at","span","place"]
abbrev Hi:List Str:=["later","many","begin","size"]
noncomputable def top (i:Nat):Stmt:=PySem.Challenge.pw_lampway_k19_whole_round.main.body.getD i (.Pass ⟨0,0,0,0⟩)
noncomputable abbrev LD:Stmt:=top 2
theorem afE:b0 wo wo (bz LD):=(by walk_at "F")
noncomputable abbrev Qk:Stmt:=top 3
theorem Cu:b0 ["plan","turn","shown","name"] y2 (bz Qk):=(by walk_at "F")
noncomputable abbrev Mc:Stmt:=top 4
theorem wv:b0 ["plan","name","wait"] vg (bz Mc):=(by walk_at "F")
noncomputable abbrev FT:Stmt:=top 17
theorem W9:b0 ["text"] ["text"] (bz FT):=(by walk_at "F")
noncomputable abbrev G7:Stmt:=top 18
theorem ag0:b0 wc wc (bz G7):=(by walk_at "F")
noncomputable abbrev IG:Stmt:=top 19
theorem adw:b0 yQ yQ (bz IG):=(by walk_at "F")
noncomputable abbrev IS:Stmt:=top 20
theorem Mb:b0 ["word","low","high","number"] x7 (bz IS):=(by walk_at "F")
noncomputable abbrev O_:Stmt:=top 21
theorem Yg:b0 ["word"] ["word"] (bz O_):=(by walk_at "F")
noncomputable abbrev Hu:Stmt:=top 24
theorem ae0:b0 ["text"] ["text"] (bz Hu):=(by walk_at "F")
noncomputable abbrev Le:Stmt:=top 38
theorem Q5:b0 ["reader","places"] ["reader"] (bz Le):=(by walk_at "F")
noncomputable abbrev Ee:Stmt:=top 39
theorem Rt:b0 ["reader","ways","name"] Hr (bz Ee):=(by walk_at "F")
noncomputable abbrev K0:Stmt:=top 40
theorem abr:b0 yU yU (bz K0):=(by walk_at "F")
noncomputable abbrev La:Stmt:=top 41
theorem aeT:b0 Bq Bq (bz La):=(by walk_at "F")
noncomputable abbrev Pq:Stmt:=top 42
theorem pb:b0 ["reader","places","ways","sort","name","start","end","off","near","least"] zp (bz Pq):=(by walk_at "F")
noncomputable abbrev Ki:Stmt:=top 43
theorem wb:b0 ["text","rows","places","ways","reader"] ["text"] (bz Ki):=(by walk_at "F")
noncomputable abbrev AC:Stmt:=top 45
theorem Mu:b0 ["places","way","place","steps"] AZ (bz AC):=(by walk_at "F")
noncomputable abbrev Nj:Stmt:=top 46
theorem S8:b0 z5 z5 (bz Nj):=(by walk_at "F")
noncomputable abbrev Oa:Stmt:=top 47
theorem CA:b0 ["crossing","one","other","way","second"] o3 (bz Oa):=(by walk_at "F")
noncomputable abbrev I6:Stmt:=top 48
theorem Hv:b0 ["crossing","one","other","way","second"] o3 (bz I6):=(by walk_at "F")
noncomputable abbrev KL:Stmt:=top 50
theorem sM:b0 ["marks","size","steps","untils","place"] ["marks"] (bz KL):=(by walk_at "F")
noncomputable abbrev L1:Stmt:=top 51
theorem afg:b0 ["marks"] ["marks"] (bz L1):=(by walk_at "F")
noncomputable abbrev CW:Stmt:=top 56
theorem XH:b0 qg qg (bz CW):=(by walk_at "F")
noncomputable abbrev Cl:Stmt:=top 57
theorem vj:b0 ["size","spans","name","marks","begin","turns","step"] yS (bz Cl):=(by walk_at "F")
noncomputable abbrev BU:Stmt:=top 58
theorem qD:b0 ["way","size","spans","shown","begin","turns","step"] GC (bz BU):=(by walk_at "F")
noncomputable abbrev Nq:Stmt:=top 59
theorem Lc:b0 ["reader","size"] ["reader"] (bz Nq):=(by walk_at "F")
noncomputable abbrev FA:Stmt:=top 60
theorem z3:b0 ["reader","crossing","size","spans","name","begin","turns"] Ba (bz FA):=(by walk_at "F")
noncomputable abbrev JR:Stmt:=top 61
theorem wK:b0 ["crossing","text","rows","size","spans","reader"] AH (bz JR):=(by walk_at "F")
noncomputable abbrev QY:Stmt:=top 62
theorem NN:b0 ["crossing","spans","name"] Ad (bz QY):=(by walk_at "F")
noncomputable abbrev AF:Stmt:=top 63
theorem uy:b0 Cf zV (bz AF):=(by walk_at "F")
noncomputable abbrev PB:Stmt:=top 64
theorem oZ:b0 ["crossing","size","spans","place","span","name","begin","turns","way","needed"] oK (bz PB):=(by walk_at "F")
noncomputable abbrev Pc:Stmt:=top 65
theorem Re:b0 ["crossing","one","other","since_one","since_other","between","turn","steps"] xU (bz Pc):=(by walk_at "F")
noncomputable abbrev Pw:Stmt:=top 66
theorem w8:b0 ["crossing","size","spans","since","name","one","other"] oK (bz Pw):=(by walk_at "F")
noncomputable abbrev Ej:Stmt:=top 67
theorem ux:b0 ["crossing","size","rows","spans","name","begin","turns"] za (bz Ej):=(by walk_at "F")
noncomputable abbrev JM:Stmt:=top 69
theorem Il:b0 ["_law_script","_law_k","_law_many","_law_cell","_law_seed"] BF (bz JM):=(by walk_at "F")
noncomputable abbrev Lm:Stmt:=top 70
theorem oj:b0 ["_law_script","_law_places","_law_ways_here","_law_k","_law_sort","_law_start","_law_end","_law_name","_law_numbers"] tk (bz Lm):=(by walk_at "F")
noncomputable abbrev FG:Stmt:=top 71
theorem Ft:b0 ["_law_places","_law_ways_here","_law_rows","_law_way"] ry (bz FG):=(by walk_at "F")
noncomputable abbrev NX:Stmt:=top 72
theorem wA:b0 ["_law_places","_law_one","_law_other","_law_inside","_law_place"] Cc (bz NX):=(by walk_at "F")
noncomputable abbrev Gd:Stmt:=top 73
theorem tm:b0 ["_law_places","_law_ways_here","_law_groups_here","_law_way","_law_put","_law_group"] ry (bz Gd):=(by walk_at "F")
noncomputable abbrev Ol:Stmt:=top 74
theorem j3:b0 ["_law_script","_law_places","_law_ways_here","_law_spans_here","_law_at","_law_group","_law_length","_law_way","_law_k","_law_i","_law_turns"] Bx (bz Ol):=(by walk_at "F")
noncomputable abbrev Os:Stmt:=top 75
theorem uf:b0 ["_law_crossing","_law_text_here","_law_told","e"] zX (bz Os):=(by walk_at "F")
noncomputable abbrev Ma:Stmt:=top 76
theorem sf:b0 ["_law_places","_law_ways_here","_law_rows","_law_one","_law_other","_law_behind","_law_turn","_law_back"] xW (bz Ma):=(by walk_at "F")
noncomputable abbrev Hh:Stmt:=top 77
theorem lK:b0 ["_law_way","_law_row","_law_ready","_law_fade","_law_starts","_law_ahead","_law_behind","_law_k","_law_one","_law_follows","_law_turns","_law_least"] Bo (bz Hh):=(by walk_at "F")
noncomputable abbrev JV:Stmt:=top 78
theorem Uf:b0 ["_law_way","_law_row","_law_wait","_law_size","_law_left","_law_turn"] zP (bz JV):=(by walk_at "F")
noncomputable abbrev A6:Stmt:=top 79
theorem jd:b0 Dq tk (bz A6):=(by walk_at "F")
noncomputable abbrev Ql:Stmt:=fm (top 7) 0
theorem acj:b0 xa xa (bz Ql):=(by walk_at "F")
noncomputable abbrev LM:Stmt:=fm (top 8) 0
theorem aar:b0 hg hg (bz LM):=(by walk_at "F")
noncomputable abbrev J6:Stmt:=fm (top 9) 0
theorem ZT:b0 vR vR (bz J6):=(by walk_at "F")
noncomputable abbrev KU:Stmt:=fm (top 10) 0
theorem Vp:b0 xd xd (bz KU):=(by walk_at "F")
noncomputable abbrev OP:Stmt:=fm (top 11) 0
theorem ab6:b0 vZ vZ (bz OP):=(by walk_at "F")
noncomputable abbrev MJ:Stmt:=fm (top 23) 0
theorem ZG:b0 wa wa (bz MJ):=(by walk_at "F")
noncomputable abbrev K5:Stmt:=fm (top 23) 1
theorem Tw:b0 ["self"] ["self"] (bz K5):=(by walk_at "F")
noncomputable abbrev M0:Stmt:=fm (top 23) 2
theorem Tk:b0 ["self"] ["self"] (bz M0):=(by walk_at "F")
noncomputable abbrev L9:Stmt:=fm (top 23) 3
theorem abN:b0 ["self"] ["self"] (bz L9):=(by walk_at "F")
noncomputable abbrev Jv:Stmt:=fm (top 23) 4
theorem JQ:b0 qa qa (bz Jv):=(by walk_at "F")
noncomputable abbrev Jh:Stmt:=fm (top 23) 5
theorem A1:b0 ["self","choices","found"] sJ (bz Jh):=(by walk_at "F")
noncomputable abbrev O4:Stmt:=fm (top 23) 6
theorem Ar:b0 ["self","low","high","found"] s6 (bz O4):=(by walk_at "F")
noncomputable abbrev NO:Stmt:=fm (top 23) 7
theorem Ch:b0 ["self"] ["self"] (bz NO):=(by walk_at "F")
noncomputable abbrev JA:Stmt:=fm (top 26) 0
theorem agU:b0 Bl Bl (bz JA):=(by walk_at "F")
noncomputable abbrev Rz:Stmt:=fm (top 27) 0
theorem WA:b0 ji ji (bz Rz):=(by walk_at "F")
noncomputable abbrev I':Stmt:=fm (top 27) 1
theorem ab_:b0 ["self"] ["self"] (bz I'):=(by walk_at "F")
noncomputable abbrev MV:Stmt:=fm (top 27) 2
theorem Xj:b0 ["self"] ["self"] (bz MV):=(by walk_at "F")
noncomputable abbrev PA:Stmt:=fm (top 28) 0
theorem V0:b0 ji ji (bz PA):=(by walk_at "F")
noncomputable abbrev Q':Stmt:=fm (top 28) 1
theorem ago:b0 ["self"] ["self"] (bz Q'):=(by walk_at "F")
noncomputable abbrev LF:Stmt:=fm (top 28) 2
theorem YZ:b0 ["self"] ["self"] (bz LF):=(by walk_at "F")
noncomputable abbrev Lp:Stmt:=fm (top 29) 0
theorem aey:b0 ji ji (bz Lp):=(by walk_at "F")
noncomputable abbrev KI:Stmt:=fm (top 29) 1
theorem Us:b0 ["self"] ["self"] (bz KI):=(by walk_at "F")
noncomputable abbrev JG:Stmt:=fm (top 29) 2
theorem Is:b0 ["self"] ["self"] (bz JG):=(by walk_at "F")
noncomputable abbrev PT:Stmt:=fm (top 37) 0
theorem FJ:b0 ["self","places","ways","number","way"] xE (bz PT):=(by walk_at "F")
noncomputable abbrev D9:Stmt:=fm (top 37) 1
theorem af6:b0 ["self"] ["self"] (bz D9):=(by walk_at "F")
noncomputable abbrev PE:Stmt:=fm (top 37) 2
theorem Jj:b0 hg hg (bz PE):=(by walk_at "F")
noncomputable abbrev LK:Stmt:=fm (top 37) 3
theorem J3:b0 hg hg (bz LK):=(by walk_at "F")
noncomputable abbrev Qv:Stmt:=fm (top 55) 0
theorem Iu:b0 ["self","crossing","size","spans","name"] BA (bz Qv):=(by walk_at "F")
set_option genInjectivity false in
set_option genInjectivity false in
structure bC where
 {ym Bd u2 sw B7 Co Bg FC tQ xC Eu GU EU A8 xt yb Ez x9 zF H0 AW vW AR FP yP Bc BM zZ y1 Av zk Bs yM zq yu AE Cy DW xB BI zz yl ii GL xb t8 w1 we uS v3 sj ue se p9 p7 qC rf BQ uZ xq zN t7 x5 Br wY A4 yp u3 q_ sN ow uX fz zU ie ib hZ gk gf qn fE fS ep el d7:Addr}
 {BN AB dl An Et B' Bn Ie uD zD HW Tl E5 Ak yW ye Ik SB xR Hz xO vE yc Fq zh xl zj zH x_ Bi yC zB yx yY Bk yO HV FD zJ zo z_ xu xV BK zi ci zm xw BD Ac tU AV vV s_ rD sW rM Ep Be Fm GH yo D_ Gw xS Fp Dr BC tA wW pf xg:FuncData}
 {O6 JJ LB N4 O2 I7 RD LI P_ QQ Wp QK:Value}
structure Txt (w:World) (K:a6) (ao:Str->Option Value) (t:bC):Prop where
 ht:(ao "colour"=some (.ref t.ym))/\(bU K "colour" "colour" LD t.ym t.BN)/\(ao "colours"=some (.ref t.Bd))/\(bU K "colours" "colours" Qk t.Bd t.AB)/\(ao "longest"=some (.ref t.u2))/\(bU K "longest" "longest" Mc t.u2 t.dl)/\(ao "words"=some (.ref t.sw))/\(bU K "words" "words" FT t.sw t.An)/\(ao "is_made_of"=some (.ref t.B7))/\(bU K "is_made_of" "is_made_of" G7 t.B7 t.Et)/\(ao "is_number"=some (.ref t.Co))/\(bU K "is_number" "is_number" IG t.Co t.B')/\(ao "figured"=some (.ref t.Bg))/\(bU K "figured" "figured" IS t.Bg t.Bn)/\(ao "is_name"=some (.ref t.FC))/\(bU K "is_name" "is_name" O_ t.FC t.Ie)/\(ao "readers"=some (.ref t.tQ))/\(bU K "readers" "readers" Hu t.tQ t.uD)/\(ao "read_ring"=some (.ref t.xC))/\(bU K "read_ring" "read_ring" Le t.xC t.zD)
 hp:(ao "read_new_name"=some (.ref t.Eu))/\(bU K "read_new_name" "read_new_name" Ee t.Eu t.HW)/\(ao "read_end"=some (.ref t.GU))/\(bU K "read_end" "read_end" K0 t.GU t.Tl)/\(ao "made_way"=some (.ref t.EU))/\(bU K "made_way" "made_way" La t.EU t.E5)/\(ao "read_way"=some (.ref t.A8))/\(bU K "read_way" "read_way" Pq t.A8 t.Ak)/\(ao "read_crossing"=some (.ref t.xt))/\(bU K "read_crossing" "read_crossing" Ki t.xt t.yW)/\(ao "in_bow"=some (.ref t.yb))/\(bU K "in_bow" "in_bow" AC t.yb t.ye)/\(ao "bows_cross"=some (.ref t.Ez))/\(bU K "bows_cross" "bows_cross" Nj t.Ez t.Ik)/\(ao "meet"=some (.ref t.x9))/\(bU K "meet" "meet" Oa t.x9 t.SB)/\(ao "gap"=some (.ref t.zF))/\(bU K "gap" "gap" I6 t.zF t.xR)/\(ao "until_marked"=some (.ref t.H0))/\(bU K "until_marked" "until_marked" KL t.H0 t.Hz)
 hn:(ao "since_marked"=some (.ref t.AW))/\(bU K "since_marked" "since_marked" L1 t.AW t.xO)/\(ao "spans_of"=some (.ref t.vW))/\(bU K "spans_of" "spans_of" CW t.vW t.vE)/\(ao "free_marks"=some (.ref t.AR))/\(bU K "free_marks" "free_marks" Cl t.AR t.yc)/\(ao "lamp"=some (.ref t.FP))/\(bU K "lamp" "lamp" BU t.FP t.Fq)/\(ao "read_size"=some (.ref t.yP))/\(bU K "read_size" "read_size" Nq t.yP t.zh)/\(ao "read_span"=some (.ref t.Bc))/\(bU K "read_span" "read_span" FA t.Bc t.xl)/\(ao "read_plan"=some (.ref t.BM))/\(bU K "read_plan" "read_plan" JR t.BM t.zj)/\(ao "refuse_never"=some (.ref t.zZ))/\(bU K "refuse_never" "refuse_never" QY t.zZ t.zH)/\(ao "turns_to_next_begin"=some (.ref t.y1))/\(bU K "turns_to_next_begin" "turns_to_next_begin" AF t.y1 t.x_)/\(ao "refuse_short"=some (.ref t.Av))/\(bU K "refuse_short" "refuse_short" PB t.Av t.Bi)
 hr:(ao "refuse_clash_of"=some (.ref t.zk))/\(bU K "refuse_clash_of" "refuse_clash_of" Pc t.zk t.yC)/\(ao "refuse_clash"=some (.ref t.Bs))/\(bU K "refuse_clash" "refuse_clash" Pw t.Bs t.zB)/\(ao "made_plan"=some (.ref t.yM))/\(bU K "made_plan" "made_plan" Ej t.yM t.yx)/\(ao "_law_draw"=some (.ref t.zq))/\(bU K "_law_draw" "_law_draw" JM t.zq t.yY)/\(ao "_law_ways"=some (.ref t.yu))/\(bU K "_law_ways" "_law_ways" Lm t.yu t.Bk)/\(ao "_law_text"=some (.ref t.AE))/\(bU K "_law_text" "_law_text" FG t.AE t.yO)/\(ao "_law_meet"=some (.ref t.Cy))/\(bU K "_law_meet" "_law_meet" NX t.Cy t.HV)/\(ao "_law_groups"=some (.ref t.DW))/\(bU K "_law_groups" "_law_groups" Gd t.DW t.FD)/\(ao "_law_spans"=some (.ref t.xB))/\(bU K "_law_spans" "_law_spans" Ol t.xB t.zJ)/\(ao "_law_read"=some (.ref t.BI))/\(bU K "_law_read" "_law_read" Os t.BI t.zo)
 i7:(ao "_law_safe"=some (.ref t.zz))/\(bU K "_law_safe" "_law_safe" Ma t.zz t.z_)/\(ao "_law_ordered"=some (.ref t.yl))/\(bU K "_law_ordered" "_law_ordered" Hh t.yl t.xu)/\(ao "_law_waits"=some (.ref t.ii))/\(bU K "_law_waits" "_law_waits" JV t.ii t.xV)/\(ao "law"=some (.ref t.GL))/\(bU K "law" "law" A6 t.GL t.BK)/\(ao "NoText"=some (.ref t.fE))/\(dg K (.ref t.fE) "__init__"=some (some (.ref t.xb)))/\(bU K "__init__" "NoText.__init__" Ql t.xb t.zi)/\(ao "NoWay"=some (.ref t.fS))/\(dg K (.ref t.fS) "__init__"=some (some (.ref t.t8)))/\(bU K "__init__" "NoWay.__init__" LM t.t8 t.ci)/\(ao "Never"=some (.ref t.ep))/\(dg K (.ref t.ep) "__init__"=some (some (.ref t.w1)))/\(bU K "__init__" "Never.__init__" J6 t.w1 t.zm)/\(ao "Short"=some (.ref t.el))/\(dg K (.ref t.el) "__init__"=some (some (.ref t.we)))/\(bU K "__init__" "Short.__init__" KU t.we t.xw)
 l_:(ao "Clash"=some (.ref t.d7))/\(dg K (.ref t.d7) "__init__"=some (some (.ref t.uS)))/\(bU K "__init__" "Clash.__init__" OP t.uS t.BD)/\(ao "RowReader"=some (.ref t.fz))/\(dg K (.ref t.fz) "__init__"=some (some (.ref t.v3)))/\(bU K "__init__" "RowReader.__init__" MJ t.v3 t.Ac)/\(dg K (.ref t.fz) "ahead"=some (some (.ref t.sj)))/\(bU K "ahead" "RowReader.ahead" K5 t.sj t.tU)/\(dg K (.ref t.fz) "has_more"=some (some (.ref t.ue)))/\(bU K "has_more" "RowReader.has_more" M0 t.ue t.AV)/\(dg K (.ref t.fz) "refuse"=some (some (.ref t.se)))/\(bU K "refuse" "RowReader.refuse" L9 t.se t.vV)/\(dg K (.ref t.fz) "take"=some (some (.ref t.p9)))/\(bU K "take" "RowReader.take" Jv t.p9 t.s_)/\(dg K (.ref t.fz) "one_of"=some (some (.ref t.p7)))/\(bU K "one_of" "RowReader.one_of" Jh t.p7 t.rD)/\(dg K (.ref t.fz) "figures"=some (some (.ref t.qC)))/\(bU K "figures" "RowReader.figures" O4 t.qC t.sW)/\(dg K (.ref t.fz) "finish"=some (some (.ref t.rf)))/\(bU K "finish" "RowReader.finish" NO t.rf t.rM)
 kR:(ao "Way"=some (.ref t.zU))/\(dg K (.ref t.zU) "__init__"=some (some (.ref t.BQ)))/\(bU K "__init__" "Way.__init__" JA t.BQ t.Ep)/\(ao "CarWay"=some (.ref t.ie))/\(dg K (.ref t.ie) "__init__"=some (some (.ref t.uZ)))/\(bU K "__init__" "CarWay.__init__" Rz t.uZ t.Be)/\(dg K (.ref t.ie) "ready"=some (some (.ref t.xq)))/\(bU K "ready" "CarWay.ready" I' t.xq t.Fm)/\(dg K (.ref t.ie) "fade"=some (some (.ref t.zN)))/\(bU K "fade" "CarWay.fade" MV t.zN t.GH)/\(ao "FootWay"=some (.ref t.ib))/\(dg K (.ref t.ib) "__init__"=some (some (.ref t.t7)))/\(bU K "__init__" "FootWay.__init__" PA t.t7 t.yo)/\(dg K (.ref t.ib) "ready"=some (some (.ref t.x5)))/\(bU K "ready" "FootWay.ready" Q' t.x5 t.D_)/\(dg K (.ref t.ib) "fade"=some (some (.ref t.Br)))/\(bU K "fade" "FootWay.fade" LF t.Br t.Gw)/\(ao "TramWay"=some (.ref t.hZ))/\(dg K (.ref t.hZ) "__init__"=some (some (.ref t.wY)))/\(bU K "__init__" "TramWay.__init__" Lp t.wY t.xS)
 kd:(dg K (.ref t.hZ) "ready"=some (some (.ref t.A4)))/\(bU K "ready" "TramWay.ready" KI t.A4 t.Fp)/\(dg K (.ref t.hZ) "fade"=some (some (.ref t.yp)))/\(bU K "fade" "TramWay.fade" JG t.yp t.Dr)/\(ao "Crossing"=some (.ref t.gk))/\(dg K (.ref t.gk) "__init__"=some (some (.ref t.u3)))/\(bU K "__init__" "Crossing.__init__" PT t.u3 t.BC)/\(dg K (.ref t.gk) "names"=some (some (.ref t.q_)))/\(bU K "names" "Crossing.names" D9 t.q_ t.tA)/\(dg K (.ref t.gk) "number"=some (some (.ref t.sN)))/\(bU K "number" "Crossing.number" PE t.sN t.wW)/\(dg K (.ref t.gk) "called"=some (some (.ref t.ow)))/\(bU K "called" "Crossing.called" LK t.ow t.pf)/\(ao "Plan"=some (.ref t.gf))/\(dg K (.ref t.gf) "__init__"=some (some (.ref t.uX)))/\(bU K "__init__" "Plan.__init__" Qv t.uX t.xg)/\(gB K t.fz)/\(px K t.fz t.v3)/\(hh K t.fz "ahead" t.sj)/\(hh K t.fz "has_more" t.ue)
 hW:(hh K t.fz "refuse" t.se)/\(hh K t.fz "take" t.p9)/\(hh K t.fz "one_of" t.p7)/\(hh K t.fz "figures" t.qC)/\(hh K t.fz "finish" t.rf)/\(cB K t.fz "row")/\(cB K t.fz "told")/\(cB K t.fz "place")/\(gB K t.zU)/\(gB K t.ie)/\(px K t.ie t.uZ)/\(hh K t.ie "ready" t.xq)/\(hh K t.ie "fade" t.zN)/\(cB K t.ie "kind")/\(cB K t.ie "name")/\(cB K t.ie "start")/\(cB K t.ie "end")/\(cB K t.ie "off")/\(cB K t.ie "near")/\(cB K t.ie "least")
 hc:(gB K t.ib)/\(px K t.ib t.t7)/\(hh K t.ib "ready" t.x5)/\(hh K t.ib "fade" t.Br)/\(cB K t.ib "kind")/\(cB K t.ib "name")/\(cB K t.ib "start")/\(cB K t.ib "end")/\(cB K t.ib "off")/\(cB K t.ib "near")/\(cB K t.ib "least")/\(gB K t.hZ)/\(px K t.hZ t.wY)/\(hh K t.hZ "ready" t.A4)/\(hh K t.hZ "fade" t.yp)/\(cB K t.hZ "kind")/\(cB K t.hZ "name")/\(cB K t.hZ "start")/\(cB K t.hZ "end")/\(cB K t.hZ "off")
 ho:(cB K t.hZ "near")/\(cB K t.hZ "least")/\(gB K t.gk)/\(px K t.gk t.u3)/\(hh K t.gk "names" t.q_)/\(hh K t.gk "number" t.sN)/\(hh K t.gk "called" t.ow)/\(cB K t.gk "places")/\(cB K t.gk "ways")/\(cB K t.gk "numbers")/\(gB K t.gf)/\(px K t.gf t.uX)/\(cB K t.gf "crossing")/\(cB K t.gf "size")/\(cB K t.gf "spans")/\(cB K t.gf "lamps")/\(cB K t.gf "untils")/\(ao "LampError"=some (.ref t.qn))/\(Px K t.qn "__init__")/\(sQ K t.fE)
 rS:(nZ K t.fE t.xb)/\(cB K t.fE "row")/\(cB K t.fE "word")/\(nD K t.fE)/\(jR K (.ref t.fE) (.ref t.ep)=some false)/\(jR K (.ref t.fE) (.ref t.el)=some false)/\(jR K (.ref t.fE) (.ref t.d7)=some false)/\(eY K (.ref t.fE) (.ref t.qn)=some true)/\(eY K (.ref t.fE) (.ref t.fE)=some true)/\(eY K (.ref t.fE) (.ref t.fS)=some false)/\(eY K (.ref t.fE) (.ref t.ep)=some false)/\(eY K (.ref t.fE) (.ref t.el)=some false)/\(eY K (.ref t.fE) (.ref t.d7)=some false)/\(sQ K t.fS)/\(nZ K t.fS t.t8)/\(cB K t.fS "name")/\(nD K t.fS)/\(jR K (.ref t.fS) (.ref t.ep)=some false)/\(jR K (.ref t.fS) (.ref t.el)=some false)/\(jR K (.ref t.fS) (.ref t.d7)=some false)
 q6:(eY K (.ref t.fS) (.ref t.qn)=some true)/\(eY K (.ref t.fS) (.ref t.fE)=some false)/\(eY K (.ref t.fS) (.ref t.fS)=some true)/\(eY K (.ref t.fS) (.ref t.ep)=some false)/\(eY K (.ref t.fS) (.ref t.el)=some false)/\(eY K (.ref t.fS) (.ref t.d7)=some false)/\(sQ K t.ep)/\(nZ K t.ep t.w1)/\(cB K t.ep "way")/\(nD K t.ep)/\(jR K (.ref t.ep) (.ref t.ep)=some true)/\(jR K (.ref t.ep) (.ref t.el)=some false)/\(jR K (.ref t.ep) (.ref t.d7)=some false)/\(eY K (.ref t.ep) (.ref t.qn)=some true)/\(eY K (.ref t.ep) (.ref t.fE)=some false)/\(eY K (.ref t.ep) (.ref t.fS)=some false)/\(eY K (.ref t.ep) (.ref t.ep)=some true)/\(eY K (.ref t.ep) (.ref t.el)=some false)/\(eY K (.ref t.ep) (.ref t.d7)=some false)/\(sQ K t.el)
 j':(nZ K t.el t.we)/\(cB K t.el "way")/\(cB K t.el "at")/\(nD K t.el)/\(jR K (.ref t.el) (.ref t.ep)=some false)/\(jR K (.ref t.el) (.ref t.el)=some true)/\(jR K (.ref t.el) (.ref t.d7)=some false)/\(eY K (.ref t.el) (.ref t.qn)=some true)/\(eY K (.ref t.el) (.ref t.fE)=some false)/\(eY K (.ref t.el) (.ref t.fS)=some false)/\(eY K (.ref t.el) (.ref t.ep)=some false)/\(eY K (.ref t.el) (.ref t.el)=some true)/\(eY K (.ref t.el) (.ref t.d7)=some false)/\(sQ K t.d7)/\(nZ K t.d7 t.uS)/\(cB K t.d7 "way")/\(cB K t.d7 "other")/\(cB K t.d7 "at")/\(nD K t.d7)/\(jR K (.ref t.d7) (.ref t.ep)=some false)
 ju:(jR K (.ref t.d7) (.ref t.el)=some false)/\(jR K (.ref t.d7) (.ref t.d7)=some true)/\(eY K (.ref t.d7) (.ref t.qn)=some true)/\(eY K (.ref t.d7) (.ref t.fE)=some false)/\(eY K (.ref t.d7) (.ref t.fS)=some false)/\(eY K (.ref t.d7) (.ref t.ep)=some false)/\(eY K (.ref t.d7) (.ref t.el)=some false)/\(eY K (.ref t.d7) (.ref t.d7)=some true)/\(t.ie ≠ t.ib)/\(t.ie ≠ t.hZ)/\(t.ib ≠ t.hZ)/\(NI K t.zU "__init__" t.BQ)/\(ao "FIGURES"=some t.O6)/\(bO (.str (ah "0123456789")) t.O6)/\(ao "LEAST_PLACES"=some t.JJ)/\(bO (.int 2) t.JJ)/\(ao "LETTERS"=some t.LB)/\(bO (.str (ah "abcdefghijklmnopqrstuvwxyz")) t.LB)/\(ao "MOST_FIGURES"=some t.N4)/\(bO (.int 3) t.N4)
 hk:(ao "MOST_LEAST"=some t.O2)/\(bO (.int 60) t.O2)/\(ao "MOST_LETTERS"=some t.I7)/\(bO (.int 8) t.I7)/\(ao "MOST_NEAR"=some t.RD)/\(bO (.int 30) t.RD)/\(ao "MOST_OFF"=some t.LI)/\(bO (.int 30) t.LI)/\(ao "MOST_PLACES"=some t.P_)/\(bO (.int 99) t.P_)/\(ao "MOST_SIZE"=some t.QQ)/\(bO (.int 240) t.QQ)/\(ao "MOST_SPANS"=some t.Wp)/\(bO (.int 3) t.Wp)/\(ao "MOST_WAYS"=some t.QK)/\(bO (.int 12) t.QK)/\(ao "all"=none)/\(ao "enumerate"=none)/\(ao "int"=none)/\(ao "isinstance"=none)
 oJ:(ao "len"=none)/\(ao "list"=none)/\(ao "max"=none)/\(ao "min"=none)/\(ao "range"=none)/\(ao "reversed"=none)/\(ao "str"=none)/\(∀ (s:Shared) (u:Value),BindsTo s t.BK ⟨[u],[]⟩ [("_law_script",u)])
section
variable {w:World} {K:a6} {ao:Str->Option Value} {t:bC} (T:Txt w K ao t)
include T
def Txt.Wc:=T.ht.1
def Txt.lw:=T.ht.2.1
def Txt.U0:=T.ht.2.2.1
def Txt.C_:=T.ht.2.2.2.1
def Txt.WM:=T.ht.2.2.2.2.1
def Txt.F4:=T.ht.2.2.2.2.2.1
def Txt.adg:=T.ht.2.2.2.2.2.2.1
def Txt.sB:=T.ht.2.2.2.2.2.2.2.1
def Txt.KH:=T.ht.2.2.2.2.2.2.2.2.1
def Txt.xP:=T.ht.2.2.2.2.2.2.2.2.2.1
def Txt.agQ:=T.ht.2.2.2.2.2.2.2.2.2.2.1
def Txt.Fd:=T.ht.2.2.2.2.2.2.2.2.2.2.2.1
def Txt.Lq:=T.ht.2.2.2.2.2.2.2.2.2.2.2.2.1
def Txt.yN:=T.ht.2.2.2.2.2.2.2.2.2.2.2.2.2.1
def Txt.RN:=T.ht.2.2.2.2.2.2.2.2.2.2.2.2.2.2.1
def Txt.GF:=T.ht.2.2.2.2.2.2.2.2.2.2.2.2.2.2.2.1
def Txt.Nv:=T.ht.2.2.2.2.2.2.2.2.2.2.2.2.2.2.2.2.1
def Txt.yE:=T.ht.2.2.2.2.2.2.2.2.2.2.2.2.2.2.2.2.2.1
def Txt.abY:=T.ht.2.2.2.2.2.2.2.2.2.2.2.2.2.2.2.2.2.2.1
def Txt.DF:=T.ht.2.2.2.2.2.2.2.2.2.2.2.2.2.2.2.2.2.2.2
def Txt.aay:=T.hp.1
def Txt.Gr:=T.hp.2.1
def Txt.abD:=T.hp.2.2.1
def Txt.HK:=T.hp.2.2.2.1
def Txt.aaU:=T.hp.2.2.2.2.1
def Txt.FY:=T.hp.2.2.2.2.2.1
def Txt.aes:=T.hp.2.2.2.2.2.2.1
def Txt.F3:=T.hp.2.2.2.2.2.2.2.1
def Txt.Yl:=T.hp.2.2.2.2.2.2.2.2.1
def Txt.Dh:=T.hp.2.2.2.2.2.2.2.2.2.1
def Txt.Qc:=T.hp.2.2.2.2.2.2.2.2.2.2.1
def Txt.Ap:=T.hp.2.2.2.2.2.2.2.2.2.2.2.1
def Txt.Sd:=T.hp.2.2.2.2.2.2.2.2.2.2.2.2.1
def Txt.H':=T.hp.2.2.2.2.2.2.2.2.2.2.2.2.2.1
def Txt.GM:=T.hp.2.2.2.2.2.2.2.2.2.2.2.2.2.2.1
def Txt.D':=T.hp.2.2.2.2.2.2.2.2.2.2.2.2.2.2.2.1
def Txt.afJ:=T.hp.2.2.2.2.2.2.2.2.2.2.2.2.2.2.2.2.1
def Txt.Cx:=T.hp.2.2.2.2.2.2.2.2.2.2.2.2.2.2.2.2.2.1
def Txt.Oi:=T.hp.2.2.2.2.2.2.2.2.2.2.2.2.2.2.2.2.2.2.1
def Txt.y8:=T.hp.2.2.2.2.2.2.2.2.2.2.2.2.2.2.2.2.2.2.2
def Txt.YQ:=T.hn.1
def Txt.Gm:=T.hn.2.1
def Txt.vT:=T.hn.2.2.1
def Txt.qI:=T.hn.2.2.2.1
def Txt.J0:=T.hn.2.2.2.2.1
def Txt.bi:=T.hn.2.2.2.2.2.1
def Txt.IN:=T.hn.2.2.2.2.2.2.1
def Txt.CV:=T.hn.2.2.2.2.2.2.2.1
def Txt.agj:=T.hn.2.2.2.2.2.2.2.2.1
def Txt.EN:=T.hn.2.2.2.2.2.2.2.2.2.1
def Txt.acL:=T.hn.2.2.2.2.2.2.2.2.2.2.1
def Txt.Hs:=T.hn.2.2.2.2.2.2.2.2.2.2.2.1
def Txt.RU:=T.hn.2.2.2.2.2.2.2.2.2.2.2.2.1
def Txt.E_:=T.hn.2.2.2.2.2.2.2.2.2.2.2.2.2.1
def Txt.Sm:=T.hn.2.2.2.2.2.2.2.2.2.2.2.2.2.2.1
def Txt.C2:=T.hn.2.2.2.2.2.2.2.2.2.2.2.2.2.2.2.1
def Txt.XI:=T.hn.2.2.2.2.2.2.2.2.2.2.2.2.2.2.2.2.1
def Txt.ER:=T.hn.2.2.2.2.2.2.2.2.2.2.2.2.2.2.2.2.2.1
def Txt.aeI:=T.hn.2.2.2.2.2.2.2.2.2.2.2.2.2.2.2.2.2.2.1
def Txt.Ed:=T.hn.2.2.2.2.2.2.2.2.2.2.2.2.2.2.2.2.2.2.2
def Txt.pp:=T.hr.1
def Txt.CG:=T.hr.2.1
def Txt.WK:=T.hr.2.2.1
def Txt.EJ:=T.hr.2.2.2.1
def Txt.aal:=T.hr.2.2.2.2.1
def Txt.BW:=T.hr.2.2.2.2.2.1
def Txt.gD:=T.hr.2.2.2.2.2.2.1
def Txt.fY:=T.hr.2.2.2.2.2.2.2.1
def Txt.aaP:=T.hr.2.2.2.2.2.2.2.2.1
def Txt.bn:=T.hr.2.2.2.2.2.2.2.2.2.1
def Txt.YP:=T.hr.2.2.2.2.2.2.2.2.2.2.1
def Txt.Fi:=T.hr.2.2.2.2.2.2.2.2.2.2.2.1
def Txt.KA:=T.hr.2.2.2.2.2.2.2.2.2.2.2.2.1
def Txt.zC:=T.hr.2.2.2.2.2.2.2.2.2.2.2.2.2.1
def Txt.YB:=T.hr.2.2.2.2.2.2.2.2.2.2.2.2.2.2.1
def Txt.CN:=T.hr.2.2.2.2.2.2.2.2.2.2.2.2.2.2.2.1
def Txt.Sz:=T.hr.2.2.2.2.2.2.2.2.2.2.2.2.2.2.2.2.1
def Txt.EP:=T.hr.2.2.2.2.2.2.2.2.2.2.2.2.2.2.2.2.2.1
def Txt.Vh:=T.hr.2.2.2.2.2.2.2.2.2.2.2.2.2.2.2.2.2.2.1
def Txt.Tm:=T.hr.2.2.2.2.2.2.2.2.2.2.2.2.2.2.2.2.2.2.2
def Txt.SU:=T.i7.1
def Txt.HI:=T.i7.2.1
def Txt.afN:=T.i7.2.2.1
def Txt.Pi:=T.i7.2.2.2.1
def Txt.aeH:=T.i7.2.2.2.2.1
def Txt.ol:=T.i7.2.2.2.2.2.1
def Txt.X7:=T.i7.2.2.2.2.2.2.1
def Txt.adj:=T.i7.2.2.2.2.2.2.2.1
def Txt.VL:=T.i7.2.2.2.2.2.2.2.2.1
def Txt.N2:=T.i7.2.2.2.2.2.2.2.2.2.2.1
def Txt.ae9:=T.i7.2.2.2.2.2.2.2.2.2.2.2.1
def Txt.Np:=T.i7.2.2.2.2.2.2.2.2.2.2.2.2.2.1
def Txt.Ro:=T.i7.2.2.2.2.2.2.2.2.2.2.2.2.2.2.1
def Txt.Jg:=T.i7.2.2.2.2.2.2.2.2.2.2.2.2.2.2.2.2.1
def Txt.P2:=T.i7.2.2.2.2.2.2.2.2.2.2.2.2.2.2.2.2.2.1
def Txt.Qg:=T.i7.2.2.2.2.2.2.2.2.2.2.2.2.2.2.2.2.2.2.2
def Txt.Iv:=T.l_.1
def Txt.I1:=T.l_.2.2.1
def Txt.Wk:=T.l_.2.2.2.1
def Txt.K7:=T.l_.2.2.2.2.2.1
def Txt.Rm:=T.l_.2.2.2.2.2.2.2.1
def Txt.Iy:=T.l_.2.2.2.2.2.2.2.2.2.1
def Txt.Lw:=T.l_.2.2.2.2.2.2.2.2.2.2.2.1
def Txt.Dy:=T.l_.2.2.2.2.2.2.2.2.2.2.2.2.2.1
def Txt.FK:=T.l_.2.2.2.2.2.2.2.2.2.2.2.2.2.2.2.1
def Txt.Gk:=T.l_.2.2.2.2.2.2.2.2.2.2.2.2.2.2.2.2.2.1
def Txt.Ci:=T.l_.2.2.2.2.2.2.2.2.2.2.2.2.2.2.2.2.2.2.2
def Txt.Cw:=T.kR.1
def Txt.M3:=T.kR.2.2.1
def Txt.ZK:=T.kR.2.2.2.1
def Txt.KO:=T.kR.2.2.2.2.2.1
def Txt.QG:=T.kR.2.2.2.2.2.2.2.1
def Txt.O1:=T.kR.2.2.2.2.2.2.2.2.2.1
def Txt.XX:=T.kR.2.2.2.2.2.2.2.2.2.2.1
def Txt.Ph:=T.kR.2.2.2.2.2.2.2.2.2.2.2.2.1
def Txt.IA:=T.kR.2.2.2.2.2.2.2.2.2.2.2.2.2.2.1
def Txt.NG:=T.kR.2.2.2.2.2.2.2.2.2.2.2.2.2.2.2.2.1
def Txt.adJ:=T.kR.2.2.2.2.2.2.2.2.2.2.2.2.2.2.2.2.2.1
def Txt.Lk:=T.kR.2.2.2.2.2.2.2.2.2.2.2.2.2.2.2.2.2.2.2
def Txt.OO:=T.kd.2.1
def Txt.LN:=T.kd.2.2.2.1
def Txt.YW:=T.kd.2.2.2.2.1
def Txt.Rp:=T.kd.2.2.2.2.2.2.1
def Txt.K2:=T.kd.2.2.2.2.2.2.2.2.1
def Txt.E3:=T.kd.2.2.2.2.2.2.2.2.2.2.1
def Txt.EY:=T.kd.2.2.2.2.2.2.2.2.2.2.2.2.1
def Txt.abV:=T.kd.2.2.2.2.2.2.2.2.2.2.2.2.2.1
def Txt.Pk:=T.kd.2.2.2.2.2.2.2.2.2.2.2.2.2.2.2.1
def Txt.dT:=T.kd.2.2.2.2.2.2.2.2.2.2.2.2.2.2.2.2.1
def Txt.af_:=T.kd.2.2.2.2.2.2.2.2.2.2.2.2.2.2.2.2.2.1
def Txt.rO:=T.kd.2.2.2.2.2.2.2.2.2.2.2.2.2.2.2.2.2.2.1
def Txt.JL:=T.kd.2.2.2.2.2.2.2.2.2.2.2.2.2.2.2.2.2.2.2
def Txt.OV:=T.hW.1
def Txt.vt:=T.hW.2.1
def Txt.w0:=T.hW.2.2.1
def Txt.lc:=T.hW.2.2.2.1
def Txt.y3:=T.hW.2.2.2.2.1
def Txt.PM:=T.hW.2.2.2.2.2.1
def Txt.MP:=T.hW.2.2.2.2.2.2.1
def Txt.yn:=T.hW.2.2.2.2.2.2.2.1
def Txt.kt:=T.hW.2.2.2.2.2.2.2.2.2.1
def Txt.adq:=T.hW.2.2.2.2.2.2.2.2.2.2.1
def Txt.aga:=T.hW.2.2.2.2.2.2.2.2.2.2.2.1
def Txt.R2:=T.hW.2.2.2.2.2.2.2.2.2.2.2.2.1
def Txt.acV:=T.hW.2.2.2.2.2.2.2.2.2.2.2.2.2.1
def Txt.XT:=T.hW.2.2.2.2.2.2.2.2.2.2.2.2.2.2.1
def Txt.adR:=T.hW.2.2.2.2.2.2.2.2.2.2.2.2.2.2.2.1
def Txt.afc:=T.hW.2.2.2.2.2.2.2.2.2.2.2.2.2.2.2.2.1
def Txt.aeQ:=T.hW.2.2.2.2.2.2.2.2.2.2.2.2.2.2.2.2.2.1
def Txt.ae6:=T.hW.2.2.2.2.2.2.2.2.2.2.2.2.2.2.2.2.2.2.1
def Txt.X0:=T.hW.2.2.2.2.2.2.2.2.2.2.2.2.2.2.2.2.2.2.2
def Txt.Gp:=T.hc.1
def Txt.agc:=T.hc.2.1
def Txt.acg:=T.hc.2.2.1
def Txt.acy:=T.hc.2.2.2.1
def Txt.aei:=T.hc.2.2.2.2.1
def Txt.Uj:=T.hc.2.2.2.2.2.1
def Txt.Th:=T.hc.2.2.2.2.2.2.1
def Txt.ad':=T.hc.2.2.2.2.2.2.2.1
def Txt.ZV:=T.hc.2.2.2.2.2.2.2.2.1
def Txt.V':=T.hc.2.2.2.2.2.2.2.2.2.1
def Txt.aa7:=T.hc.2.2.2.2.2.2.2.2.2.2.1
def Txt.up:=T.hc.2.2.2.2.2.2.2.2.2.2.2.1
def Txt.abI:=T.hc.2.2.2.2.2.2.2.2.2.2.2.2.1
def Txt.agd:=T.hc.2.2.2.2.2.2.2.2.2.2.2.2.2.1
def Txt.ZF:=T.hc.2.2.2.2.2.2.2.2.2.2.2.2.2.2.1
def Txt.RJ:=T.hc.2.2.2.2.2.2.2.2.2.2.2.2.2.2.2.1
def Txt.YH:=T.hc.2.2.2.2.2.2.2.2.2.2.2.2.2.2.2.2.1
def Txt.agm:=T.hc.2.2.2.2.2.2.2.2.2.2.2.2.2.2.2.2.2.1
def Txt.Yn:=T.hc.2.2.2.2.2.2.2.2.2.2.2.2.2.2.2.2.2.2.1
def Txt.Sx:=T.hc.2.2.2.2.2.2.2.2.2.2.2.2.2.2.2.2.2.2.2
def Txt.Y0:=T.ho.1
def Txt.adz:=T.ho.2.1
def Txt.f_:=T.ho.2.2.1
def Txt.ag1:=T.ho.2.2.2.1
def Txt.rh:=T.ho.2.2.2.2.1
def Txt.Pf:=T.ho.2.2.2.2.2.1
def Txt.nF:=T.ho.2.2.2.2.2.2.1
def Txt.Q6:=T.ho.2.2.2.2.2.2.2.1
def Txt.Jm:=T.ho.2.2.2.2.2.2.2.2.1
def Txt.I4:=T.ho.2.2.2.2.2.2.2.2.2.1
def Txt.m4:=T.ho.2.2.2.2.2.2.2.2.2.2.1
def Txt.abt:=T.ho.2.2.2.2.2.2.2.2.2.2.2.1
def Txt.Fk:=T.ho.2.2.2.2.2.2.2.2.2.2.2.2.1
def Txt.M_:=T.ho.2.2.2.2.2.2.2.2.2.2.2.2.2.1
def Txt.af0:=T.ho.2.2.2.2.2.2.2.2.2.2.2.2.2.2.1
def Txt.Of:=T.ho.2.2.2.2.2.2.2.2.2.2.2.2.2.2.2.1
def Txt.LR:=T.ho.2.2.2.2.2.2.2.2.2.2.2.2.2.2.2.2.1
def Txt.sh:=T.ho.2.2.2.2.2.2.2.2.2.2.2.2.2.2.2.2.2.1
def Txt.uk:=T.ho.2.2.2.2.2.2.2.2.2.2.2.2.2.2.2.2.2.2.1
def Txt.agT:=T.ho.2.2.2.2.2.2.2.2.2.2.2.2.2.2.2.2.2.2.2
def Txt.K1:=T.rS.1
def Txt.abq:=T.rS.2.1
def Txt.X8:=T.rS.2.2.1
def Txt.aab:=T.rS.2.2.2.2.2.2.2.2.2.2.2.2.2.1
def Txt.IU:=T.rS.2.2.2.2.2.2.2.2.2.2.2.2.2.2.1
def Txt.adQ:=T.rS.2.2.2.2.2.2.2.2.2.2.2.2.2.2.2.1
def Txt.aeU:=T.q6.2.2.2.2.2.2.1
def Txt.J5:=T.q6.2.2.2.2.2.2.2.1
def Txt.afH:=T.q6.2.2.2.2.2.2.2.2.1
def Txt.Yu:=T.q6.2.2.2.2.2.2.2.2.2.1
def Txt.XC:=T.q6.2.2.2.2.2.2.2.2.2.2.1
def Txt.mo:=T.q6.2.2.2.2.2.2.2.2.2.2.2.2.2.1
def Txt.ad7:=T.q6.2.2.2.2.2.2.2.2.2.2.2.2.2.2.2.2.2.2.2
def Txt.PN:=T.j'.1
def Txt.aa3:=T.j'.2.1
def Txt.WB:=T.j'.2.2.1
def Txt.abv:=T.j'.2.2.2.1
def Txt.acK:=T.j'.2.2.2.2.1
def Txt.W5:=T.j'.2.2.2.2.2.1
def Txt.aeY:=T.j'.2.2.2.2.2.2.2.1
def Txt.Xe:=T.j'.2.2.2.2.2.2.2.2.2.2.2.2.2.1
def Txt.O5:=T.j'.2.2.2.2.2.2.2.2.2.2.2.2.2.2.1
def Txt.aas:=T.j'.2.2.2.2.2.2.2.2.2.2.2.2.2.2.2.1
def Txt.UA:=T.j'.2.2.2.2.2.2.2.2.2.2.2.2.2.2.2.2.1
def Txt.agG:=T.j'.2.2.2.2.2.2.2.2.2.2.2.2.2.2.2.2.2.1
def Txt.agy:=T.j'.2.2.2.2.2.2.2.2.2.2.2.2.2.2.2.2.2.2.1
def Txt.abz:=T.j'.2.2.2.2.2.2.2.2.2.2.2.2.2.2.2.2.2.2.2
def Txt.ZJ:=T.ju.1
def Txt.So:=T.ju.2.1
def Txt.T2:=T.ju.2.2.1
def Txt.P4:=T.ju.2.2.2.2.2.2.2.2.1
def Txt.MI:=T.ju.2.2.2.2.2.2.2.2.2.1
def Txt.II:=T.ju.2.2.2.2.2.2.2.2.2.2.1
def Txt.jp:=T.ju.2.2.2.2.2.2.2.2.2.2.2.1
def Txt.acR:=T.ju.2.2.2.2.2.2.2.2.2.2.2.2.1
def Txt.WF:=T.ju.2.2.2.2.2.2.2.2.2.2.2.2.2.1
def Txt.ZA:=T.ju.2.2.2.2.2.2.2.2.2.2.2.2.2.2.1
def Txt.RQ:=T.ju.2.2.2.2.2.2.2.2.2.2.2.2.2.2.2.1
def Txt.aeB:=T.ju.2.2.2.2.2.2.2.2.2.2.2.2.2.2.2.2.1
def Txt.aa4:=T.ju.2.2.2.2.2.2.2.2.2.2.2.2.2.2.2.2.2.1
def Txt.acf:=T.ju.2.2.2.2.2.2.2.2.2.2.2.2.2.2.2.2.2.2.1
def Txt.Tu:=T.ju.2.2.2.2.2.2.2.2.2.2.2.2.2.2.2.2.2.2.2
def Txt.Ug:=T.hk.1
def Txt.xz:=T.hk.2.1
def Txt.Vt:=T.hk.2.2.1
def Txt.afj:=T.hk.2.2.2.1
def Txt.Yd:=T.hk.2.2.2.2.1
def Txt.ZY:=T.hk.2.2.2.2.2.1
def Txt.WY:=T.hk.2.2.2.2.2.2.1
def Txt.UI:=T.hk.2.2.2.2.2.2.2.1
def Txt.acs:=T.hk.2.2.2.2.2.2.2.2.1
def Txt.SQ:=T.hk.2.2.2.2.2.2.2.2.2.1
def Txt.agk:=T.hk.2.2.2.2.2.2.2.2.2.2.1
def Txt.U':=T.hk.2.2.2.2.2.2.2.2.2.2.2.1
def Txt.VC:=T.hk.2.2.2.2.2.2.2.2.2.2.2.2.1
def Txt.af2:=T.hk.2.2.2.2.2.2.2.2.2.2.2.2.2.1
def Txt.W6:=T.hk.2.2.2.2.2.2.2.2.2.2.2.2.2.2.1
def Txt.aby:=T.hk.2.2.2.2.2.2.2.2.2.2.2.2.2.2.2.1
def Txt.Y5:=T.hk.2.2.2.2.2.2.2.2.2.2.2.2.2.2.2.2.1
def Txt.uO:=T.hk.2.2.2.2.2.2.2.2.2.2.2.2.2.2.2.2.2.1
def Txt.S4:=T.hk.2.2.2.2.2.2.2.2.2.2.2.2.2.2.2.2.2.2.1
def Txt.abZ:=T.hk.2.2.2.2.2.2.2.2.2.2.2.2.2.2.2.2.2.2.2
def Txt.hH:=T.oJ.1
def Txt.F0:=T.oJ.2.1
def Txt.xD:=T.oJ.2.2.1
def Txt.QZ:=T.oJ.2.2.2.1
def Txt.lf:=T.oJ.2.2.2.2.1
def Txt.ap:=T.oJ.2.2.2.2.2.1
def Txt.r3:=T.oJ.2.2.2.2.2.2.1
def Txt.acr:=T.oJ.2.2.2.2.2.2.2
theorem Txt.aeb:bL K t.BN wo []:=T.lw.binds fun _ _ _ _ _ _=>f' fun _ _ _=>rfl
theorem Txt.TL:bL K t.AB y2 []:=T.C_.binds fun _ _ _ _ _ _=>iI fun _ _=>rfl
theorem Txt.S3:bL K t.dl vg []:=T.F4.binds fun _ _ _ _ _ _=>iI fun _ _=>rfl
theorem Txt.Yk:bL K t.An ["text"] []:=T.sB.binds fun _ _ _ _ _ _=>hu fun _=>rfl
theorem Txt.Rg:bL K t.Et wc []:=T.xP.binds fun _ _ _ _ _ _=>f' fun _ _ _=>rfl
theorem Txt.adh:bL K t.B' yQ []:=T.Fd.binds fun _ _ _ _ _ _=>iI fun _ _=>rfl
theorem Txt.IZ:bL K t.Bn x7 []:=T.yN.binds fun _ _ _ _ _ _=>f' fun _ _ _=>rfl
theorem Txt.abA:bL K t.Ie ["word"] []:=T.GF.binds fun _ _ _ _ _ _=>hu fun _=>rfl
theorem Txt.Lr:bL K t.uD ["text"] []:=T.yE.binds fun _ _ _ _ _ _=>hu fun _=>rfl
theorem Txt.XN:bL K t.zD ["reader"] []:=T.DF.binds fun _ _ _ _ _ _=>hu fun _=>rfl
theorem Txt.At:bL K t.HW Hr []:=T.Gr.binds fun _ _ _ _ _ _=>iI fun _ _=>rfl
theorem Txt.W8:bL K t.Tl yU []:=T.HK.binds fun _ _ _ _ _ _=>f' fun _ _ _=>rfl
theorem Txt.aeD:bL K t.E5 Bq []:=T.FY.binds fun _ _ _ _ _ _=>x1 fun _ _ _ _ _ _ _=>rfl
theorem Txt.VW:bL K t.Ak zp []:=T.F3.binds fun _ _ _ _ _ _=>f' fun _ _ _=>rfl
theorem Txt.TA:bL K t.yW ["text"] []:=T.Dh.binds fun _ _ _ _ _ _=>hu fun _=>rfl
theorem Txt.Qx:bL K t.ye AZ []:=T.Ap.binds fun _ _ _ _ _ _=>f' fun _ _ _=>rfl
theorem Txt.Vn:bL K t.Ik z5 []:=T.H'.binds fun _ _ _ _ _ _=>f' fun _ _ _=>rfl
theorem Txt.VN:bL K t.SB o3 []:=T.D'.binds fun _ _ _ _ _ _=>f' fun _ _ _=>rfl
theorem Txt.aac:bL K t.xR o3 []:=T.Cx.binds fun _ _ _ _ _ _=>f' fun _ _ _=>rfl
theorem Txt.Ir:bL K t.Hz ["marks"] []:=T.y8.binds fun _ _ _ _ _ _=>hu fun _=>rfl
theorem Txt.TP:bL K t.xO ["marks"] []:=T.Gm.binds fun _ _ _ _ _ _=>hu fun _=>rfl
theorem Txt.vA:bL K t.vE qg []:=T.qI.binds fun _ _ _ _ _ _=>iI fun _ _=>rfl
theorem Txt.QA:bL K t.yc yS []:=T.bi.binds fun _ _ _ _ _ _=>f' fun _ _ _=>rfl
theorem Txt.WD:bL K t.Fq GC []:=T.CV.binds fun _ _ _ _ _ _=>f' fun _ _ _=>rfl
theorem Txt.agO:bL K t.zh ["reader"] []:=T.EN.binds fun _ _ _ _ _ _=>hu fun _=>rfl
theorem Txt.ac7:bL K t.xl Ba []:=T.Hs.binds fun _ _ _ _ _ _=>zI fun _ _ _ _=>rfl
theorem Txt.Xa:bL K t.zj AH []:=T.E_.binds fun _ _ _ _ _ _=>iI fun _ _=>rfl
theorem Txt.UL:bL K t.zH Ad []:=T.C2.binds fun _ _ _ _ _ _=>iI fun _ _=>rfl
theorem Txt.ab7:bL K t.x_ zV []:=T.ER.binds fun _ _ _ _ _ _=>f' fun _ _ _=>rfl
theorem Txt.Ts:bL K t.Bi oK []:=T.Ed.binds fun _ _ _ _ _ _=>f' fun _ _ _=>rfl
theorem Txt.TF:bL K t.yC xU []:=T.CG.binds fun _ _ _ _ _ _=>abE fun _ _ _ _ _=>rfl
theorem Txt.Ud:bL K t.zB oK []:=T.EJ.binds fun _ _ _ _ _ _=>f' fun _ _ _=>rfl
theorem Txt.XY:bL K t.yx za []:=T.BW.binds fun _ _ _ _ _ _=>f' fun _ _ _=>rfl
theorem Txt.gw:bL K t.yY BF []:=T.fY.binds fun _ _ _ _ _ _=>f' fun _ _ _=>rfl
theorem Txt.Y9:bL K t.Bk tk []:=T.bn.binds fun _ _ _ _ _ _=>hu fun _=>rfl
theorem Txt.X2:bL K t.yO ry []:=T.Fi.binds fun _ _ _ _ _ _=>iI fun _ _=>rfl
theorem Txt.PQ:bL K t.HV Cc []:=T.zC.binds fun _ _ _ _ _ _=>f' fun _ _ _=>rfl
theorem Txt.Ua:bL K t.FD ry []:=T.CN.binds fun _ _ _ _ _ _=>iI fun _ _=>rfl
theorem Txt.abj:bL K t.zJ Bx []:=T.EP.binds fun _ _ _ _ _ _=>f' fun _ _ _=>rfl
theorem Txt.Tc:bL K t.zo zX []:=T.Tm.binds fun _ _ _ _ _ _=>iI fun _ _=>rfl
theorem Txt.VK:bL K t.z_ xW []:=T.HI.binds fun _ _ _ _ _ _=>f' fun _ _ _=>rfl
theorem Txt.Tn:bL K t.xu Bo []:=T.Pi.binds fun _ _ _ _ _ _=>iI fun _ _=>rfl
theorem Txt.abO:bL K t.xV zP []:=T.ol.binds fun _ _ _ _ _ _=>zI fun _ _ _ _=>rfl
theorem Txt.SG:bL K t.zi xa []:=T.N2.binds fun _ _ _ _ _ _=>f' fun _ _ _=>rfl
theorem Txt.VT:bL K t.ci hg []:=T.Np.binds fun _ _ _ _ _ _=>iI fun _ _=>rfl
theorem Txt.Xo:bL K t.zm vR []:=T.Jg.binds fun _ _ _ _ _ _=>iI fun _ _=>rfl
theorem Txt.abp:bL K t.xw xd []:=T.Qg.binds fun _ _ _ _ _ _=>f' fun _ _ _=>rfl
theorem Txt.adN:bL K t.BD vZ []:=T.I1.binds fun _ _ _ _ _ _=>zI fun _ _ _ _=>rfl
theorem Txt.abx:bL K t.Ac wa []:=T.K7.binds fun _ _ _ _ _ _=>f' fun _ _ _=>rfl
theorem Txt.sL:bL K t.tU ["self"] []:=T.Rm.binds fun _ _ _ _ _ _=>hu fun _=>rfl
theorem Txt.Ja:bL K t.AV ["self"] []:=T.Iy.binds fun _ _ _ _ _ _=>hu fun _=>rfl
theorem Txt.M5:bL K t.vV ["self"] []:=T.Lw.binds fun _ _ _ _ _ _=>hu fun _=>rfl
theorem Txt.w':bL K t.s_ qa []:=T.Dy.binds fun _ _ _ _ _ _=>iI fun _ _=>rfl
theorem Txt.u6:bL K t.rD sJ []:=T.FK.binds fun _ _ _ _ _ _=>iI fun _ _=>rfl
theorem Txt.nE:bL K t.sW s6 []:=T.Gk.binds fun _ _ _ _ _ _=>f' fun _ _ _=>rfl
theorem Txt.y_:bL K t.rM ["self"] []:=T.Ci.binds fun _ _ _ _ _ _=>hu fun _=>rfl
theorem Txt.GO:bL K t.Ep Bl []:=T.M3.binds fun _ _ _ _ _ _=>Wm fun _ _ _ _ _ _ _ _=>rfl
theorem Txt.Wb:bL K t.Be ji []:=T.KO.binds fun _ _ _ _ _ _=>x1 fun _ _ _ _ _ _ _=>rfl
theorem Txt.Vi:bL K t.Fm ["self"] []:=T.QG.binds fun _ _ _ _ _ _=>hu fun _=>rfl
theorem Txt.af4:bL K t.GH ["self"] []:=T.O1.binds fun _ _ _ _ _ _=>hu fun _=>rfl
theorem Txt.adI:bL K t.yo ji []:=T.Ph.binds fun _ _ _ _ _ _=>x1 fun _ _ _ _ _ _ _=>rfl
theorem Txt.WH:bL K t.D_ ["self"] []:=T.IA.binds fun _ _ _ _ _ _=>hu fun _=>rfl
theorem Txt.UM:bL K t.Gw ["self"] []:=T.NG.binds fun _ _ _ _ _ _=>hu fun _=>rfl
theorem Txt.Vz:bL K t.xS ji []:=T.Lk.binds fun _ _ _ _ _ _=>x1 fun _ _ _ _ _ _ _=>rfl
theorem Txt.Vf:bL K t.Fp ["self"] []:=T.OO.binds fun _ _ _ _ _ _=>hu fun _=>rfl
theorem Txt.Uz:bL K t.Dr ["self"] []:=T.LN.binds fun _ _ _ _ _ _=>hu fun _=>rfl
theorem Txt.acI:bL K t.BC xE []:=T.Rp.binds fun _ _ _ _ _ _=>f' fun _ _ _=>rfl
theorem Txt.qb:bL K t.tA ["self"] []:=T.K2.binds fun _ _ _ _ _ _=>hu fun _=>rfl
theorem Txt.PR:bL K t.wW hg []:=T.E3.binds fun _ _ _ _ _ _=>iI fun _ _=>rfl
theorem Txt.oe:bL K t.pf hg []:=T.EY.binds fun _ _ _ _ _ _=>iI fun _ _=>rfl
theorem Txt.Y8:bL K t.xg BA []:=T.Pk.binds fun _ _ _ _ _ _=>zI fun _ _ _ _=>rfl
theorem Txt.A5:ix K t.fE:=wh T.agT T.K1
theorem Txt.GD:ix K t.fS:=wh T.aab T.IU
theorem Txt.Ao:ix K t.ep:=wh T.aeU T.J5
theorem Txt.ab1:rk K t.ep:=B3 T.Ao T.Yu
theorem Txt.vL:ix K t.el:=wh T.ad7 T.PN
theorem Txt.UC:rk K t.el:=B3 T.vL T.abv
theorem Txt.tb:ix K t.d7:=wh T.Xe T.O5
theorem Txt.Wd:rk K t.d7:=B3 T.tb T.agy
end
noncomputable def cp (ns:List Int) (k m:Int):Int:=
 ((((if 0 < (ns.length:Int) then ns.getD (k % (ns.length:Int)).toNat 0 else 0) % 1000003 + 31 * k * k + 1) * 48271 % 999983 * 7919) % 524287) % m
theorem hS (ns:List Int) (k:Int) {m:Int} (h:0 < m):0 <= cp ns k m:=e' _ (by omega)
theorem hD (ns:List Int) (k:Int) {m:Int} (h:0 < m):cp ns k m < m:=ff _ h
noncomputable def gx (K:a6) (a:Addr) (ns:List Int):bo:=fun vs H Q _=>∃ k m,vs=[.ref a,.int k,.int m]/\Sc K a ns H/\(0 <= k/\k < 1000000)/\0 < m/\Q (.int (cp ns k m)) H
variable {P:Program} {w:World} {K:a6} {ao:Str->Option Value} {base:Heap} {t:bC}
abbrev cq (P:Program) (base:Heap) {w:World} {K:a6} {ao:Str->Option Value} {t:bC} (_:Txt w K ao t):=bg P w K ao base cH
variable (T:Txt w K ao t)
theorem Eo (a:Addr) (ns:List Int) (mG:ns.length <= 63):cq P base T 1 t.zq t.yY BF (gx K a ns):=by
 exists T.fY.ok Il,9
 obtain ⟨k,m,rfl,S,⟨h0,ae⟩,hm,q⟩:=h;refine ⟨_,(db (bJ (i:=3) Il.aC (cr (da m8 (fL ac rfl T.hH hT (af (U 0) aB)) aR (cT _)) (bX ew (U 0) (Db h5 (U 1) (fL ac rfl T.hH hT (af (U 0) aB)))) aR))
   (db (bJ (i:=4) Il.aC (Db dj (Db dj (Db h5 (U 3) aR) (Db qP (Db qP aR (U 1)) (U 1))) aR))
   (aY (b1 (Db h5 (Db h5 (Db qP (Db h5 (Db qP (U 4) aR) aR) aR) aR) (U 2)))))),?_⟩
 nofun;refine ⟨_,.inl S.seq,?_⟩;rw [a'];have aiS:(0:Int) <= k * k/\k * k < 1000000 * 1000000:=⟨Int.mul_nonneg h0 h0,Int.mul_lt_mul' (by omega) ae h0 (by decide)⟩;have fin:∀ i:Int,(0:Int) < 1000003/\mT 31 k/\mT (31 * k) k/\mT (i % 1000003 + 31 * k * k + 1) 48271/\(0:Int) < 999983/\mT ((i % 1000003 + 31 * k * k + 1) * 48271 % 999983) 7919/\(0:Int) < 524287/\0 < m:=by
  intro i;refine ⟨by decide,.inl (by decide),.inr (by omega),.inr (by decide),by decide,.inr (by decide),by decide,hm⟩
 by_cases c:(0:Int) < (ns.length:Int)
 .rw [if_pos (decide_eq_true c)];have aE:0 <= k % (ns.length:Int)/\k % (ns.length:Int) < (ns.length:Int):=⟨e' _ (by omega),ff _ c⟩;refine ⟨_,.inl S.seq,by rw [a'];exact c,_,S.seq,?_⟩;rw [a'];have aZ:(k % (ns.length:Int)).toNat < ns.length:=by omega
  refine ⟨.int ns[(k % (ns.length:Int)).toNat],?_,_,rfl,?_⟩
  .have e:=cR (xs:=ns.map V.int) (j:=(k % (ns.length:Int)).toNat) (v:=.int ns[(k % (ns.length:Int)).toNat]) (by rw [eA,b7 aZ] <;> rfl);rwa [iJ aE.1] at e
  .obtain ⟨f1,f2,e1,f4,fC,u4,sP,f8⟩:=fin ns[(k % (ns.length:Int)).toNat];refine ⟨f1,f2,e1,f4,fC,u4,sP,f8,?_⟩;have e:cp ns k m=(((ns[(k % (ns.length:Int)).toNat] % 1000003 + 31 * k * k + 1) * 48271 % 999983 * 7919) % 524287) % m:=by
    unfold cp;rw [if_pos c,jW,b7 aZ];rfl
   rw [<- e];exact q
 .rw [if_neg (by simpa using c)];obtain ⟨f1,f2,e1,f4,fC,u4,sP,f8⟩:=fin 0;refine ⟨f1,f2,e1,f4,fC,u4,sP,f8,?_⟩;have e:cp ns k m=(((0 % 1000003 + 31 * k * k + 1) * 48271 % 999983 * 7919) % 524287) % m:=by
   unfold cp;rw [if_neg c]
  rw [<- e];exact q
theorem xQ {w:Str}:w=ah "" ↔ w.length=0:=by
 constructor
 .rintro rfl;ac_nf
 .intro h;have e:w.cps=#[]:=Array.eq_empty_of_size_eq_zero h;have aG:(ah "").cps=#[]:=by ac_nf
  cases w;cases ak:ah "";rw [ak] at aG;simp only at e aG;rw [e,aG]
noncomputable def tx (f3:Str) (c:Nat):Bool:=!(qm f3 (v' c) 0 f3.length 1).isEmpty
theorem De (f3:Str) (c:Nat):tx f3 c=decide (c ∈ f3.cps.toList):=StrLaws.found_one f3 c
noncomputable def made (w f3:Str) (m:Int):Bool:=if w=ah "" then false else if m < (w.length:Int) then false else w.cps.toList.all (tx f3)
noncomputable def Ga:bo:=fun vs H Q _=>∃ w f3 m,vs=[.str w,.str f3,.int m]/\w.length <= 1000/\aV H/\Q (.bq (made w f3 m)) H
noncomputable def Va:bo:=fun vs H Q _=>∃ w f3 m,vs=[.str w,.str f3,.int m]/\w.length <= 1000/\∀ I,aI H I->Q (.bq (made w f3 m)) I
theorem KJ:cq P base T 1 t.B7 t.Et wc Ga:=by
 refine bg.forget (sp:=Va) ?_ fun vs H Q E h=>?_
 .exists T.xP.ok ag0,9
  obtain ⟨w,f3,m,rfl,az,q⟩:=h;have fK:w.length <= sizeLine:=c1 az (by decide);refine ⟨_,(db (dD (fu.pt (nc (da hi (U 0) cC (cT _)) (n4 (da m8 (fL ac8 rfl T.hH hT (af (U 0) aB)) (U 2) (cT _))))) (aY (b1 hI)) dI)
   (aY (b1 (fL (Vs rfl) rfl T.Y5 aco (af (l' rfl (Yt (U 0)) (iE (sc:=bz G7) rfl (by ac_nf)) (N:=["sign","signs"]) (sel:=[none,some 1]) (iS (M:=wc) (by ac_nf)) (gN.of (fun _ _ _ _=>(b' (i:=0) (gb (N:=["sign","signs"]) (by ac_nf) rfl))) (fun _ _ _ _=>⟨_,kP,by walk_at "B"⟩) (fun _ _ _ _=>⟨_,(jl S_ (U 0) (U 1) (by with_unfolding_all rfl)),by walk_at "B"⟩))) aB))))),?_⟩
  nofun;refine ec (decide (w=ah "") || decide (m < (w.length:Int))) (fun Q a8=>?_) (fun ab=>?_) (fun ab=>?_)
  .nofun;by_cases c:w=ah ""
   .rw [if_pos (decide_eq_true c)];rw [decide_eq_true c,sO] at a8;exact a8
   .rw [if_neg (by simpa using c)];rw [decide_eq_false c,m2] at a8;exact ⟨fK,a8⟩
  .nofun;have e:made w f3 m=false:=by
    unfold made;simp only [w5,decide_eq_true_eq] at ab;by_cases c:w=ah ""
    .rw [if_pos c]
    .rw [if_neg c,if_pos (ab.resolve_left c)]
   have:=q H (aI.refl H);rw [e] at this;exact this
  .nofun;have e:made w f3 m=w.cps.toList.all (tx f3):=by
    unfold made;simp only [Nz,decide_eq_false_iff_not] at ab;rw [if_neg ab.1,if_neg ab.2]
   refine dm.Zc (fun x=>match x with | .str y=>.bq (!(qm f3 y 0 f3.length 1).isEmpty) | _=>.bH) (by rw [PZ];exact fK) (fun i x N av bb=>?_) (fun p aq=>?_)
   .unfold lz at av;rw [eA] at av;cases ar:w.cps.toList[i]? with
    | none=>rw [ar] at av;cases av
    | some c=>
     rw [ar] at av;have l1:V.str (v' c)=x:=eS av;subst l1;nofun;exact ⟨Sub.name,bb⟩
   .refine ⟨p,rfl,w.cps.toList.map (tx f3),aK.of ?_,?_⟩
    .rw [aU];unfold lz;rw [vI,vI];rfl
    .have:=q (upd H p (.lst (gv (fun x=>match x with | .str y=>.bq (!(qm f3 y 0 f3.length 1).isEmpty) | _=>.bH) (lz w)))) (bk aq);rw [e] at this;rw [Su];exact this
 .obtain ⟨w,f3,m,e,az,bh,q⟩:=h;exact ⟨bh,w,f3,m,e,az,fun I a9=>⟨a9,q⟩⟩
noncomputable abbrev q5:Str:=ah "0123456789"
noncomputable def ll (c:Nat):Bool:=decide (48 <= c/\c <= 57)
theorem abJ (c:Nat):tx q5 c=ll c:=by
 rw [De,show q5.cps.toList=List.range' 48 10 by ac_nf];unfold ll;refine decide_eq_decide.mpr ?_;rw [List.mem_range'_1];exact and_congr_right fun _=>show c < 58↔c <= 57 from Nat.lt_succ_iff
noncomputable abbrev cs (w:Str):List Nat:=w.cps.toList
theorem HG (w:Str):(cs w).length=w.length:=by simp [cs,Fj]
noncomputable def i6 (w:Str):Bool:=decide (1 <= (cs w).length) && decide ((cs w).length <= 3) && (cs w).all ll && (decide ((cs w).length <= 1) || decide ((cs w).headD 0 ≠ 48))
noncomputable abbrev val (w:Str):Int:=((N3 (cs w):Nat):Int)
noncomputable def Ps (w:Str) (lo ai:Int):V:=if i6 w && !(decide (val w < lo) || decide (ai < val w)) then .int (val w) else .bH
theorem Lh {w:Str} {c:Nat}:w=⟨#[c]⟩↔cs w=[c]:=by
 constructor
 .rintro rfl;rfl
 .intro h;cases w with
  | mk a=>
   have e:a=#[c]:=To.mp h;rw [e]
theorem CO:ah "0"=⟨#[48]⟩:=by ac_nf
theorem KD (w:Str):made w q5 3=(decide (1 <= (cs w).length) && decide ((cs w).length <= 3) && (cs w).all ll):=by
 unfold made;have e:(tx q5)=ll:=funext abJ;rw [e];by_cases ae:w=ah ""
 .have ak:=xQ.mp ae;rw [if_pos ae,HG,ak];rfl
 .have ak:¬ w.length=0:=fun z=>ae (xQ.mpr z)
  rw [if_neg ae,HG];by_cases a_:(3:Int) < (w.length:Int)
  .rw [if_pos a_,decide_eq_false (show ¬ w.length <= 3 by omega),Bool.and_false,q4]
  .rw [if_neg a_,decide_eq_true (show 1 <= w.length by omega),decide_eq_true (show w.length <= 3 by omega)];rfl
theorem U4 {l:List Nat} (h:l.all ll=true):NumText.AllDigits l:=fun c ar=>by
 have:=qG.mp h c ar;simpa [ll] using this
theorem af7 {w:Str} (h:i6 w=true):(1 <= (cs w).length/\(cs w).length <= 3)/\(cs w).all ll=true:=by
 unfold i6 at h;simp only [iP,decide_eq_true_eq] at h;exact h.1
noncomputable def Pd:bo:=fun vs H Q _=>∃ w,vs=[.str w,.int 3]/\w.length <= 1000/\aV H/\Q (.bq (i6 w)) H
noncomputable def JY:bo:=fun vs H Q _=>∃ w lo ai,vs=[.str w,.int lo,.int ai]/\w.length <= 1000/\aV H/\Q (Ps w lo ai) H
theorem aeK:cq P base T 2 t.Co t.B' yQ Pd:=by
 refine dp (KJ T) fun G9=>?_;exists T.Fd.ok adw,9
 obtain ⟨w,rfl,az,bh,q⟩:=h;have fK:w.length <= sizeLine:=c1 az (by decide);refine ⟨_,(db (dD (k8 (iW (cb G9 au T.KH T.xP.bF T.Rg (af (U 0) (af (jE rfl T.acR T.WF) (af (U 1) aB)))))) (aY (b1 hI)) dI)
   (aY (b1 (QO (jl hi (U 0) cC (cT _)) (xT (jl mj (bX Lz (U 0) aR) cC (cT _))))))),?_⟩
 refine ec (!made w q5 3) (fun Q a8=>?_) (fun ab=>?_) (fun ab=>?_)
 ·(nofun; repeat (dsimp only [Ga];nofun));exact ⟨az,bh,a8⟩
 .nofun;have e:i6 w=false:=by
   have fX:made w q5 3=false:=by simpa using ab
   rw [KD] at fX;unfold i6;rw [fX];rfl
  rw [e] at q;exact q
 .have fX:made w q5 3=true:=by simpa using ab
  rw [KD] at fX;rw [qT];dsimp only;refine Xi (.bq (i6 w)) (fun Q a8=>?_) ?_
  case refine_2=>exact q
  nofun;have pU:(1 <= (cs w).length/\(cs w).length <= 3)/\(cs w).all ll=true:=by
   simpa only [iP,decide_eq_true_eq] using fX
  obtain ⟨c,r,DD⟩:∃ c r,cs w=c :: r:=by
   cases h:cs w with
   | nil=>rw [h] at pU;exact absurd pU.1.1 (by decide)
   | cons c r=>exact ⟨c,r,rfl⟩
  have ok:i6 w=(decide ((cs w).length <= 1) || decide ((cs w).headD 0 ≠ 48)):=by
   unfold i6;rw [fX,xh]
  by_cases fZ:w=ah "0"
  .rw [if_pos (decide_eq_true fZ)];have e:cs w=[48]:=by rw [fZ,CO]
   rw [ok,e] at a8;exact a8
  .rw [if_neg (by simpa using fZ)];refine ⟨fK,c,?_,?_⟩
   .have:=cR (xs:=cs w) (j:=0) (v:=c) (by rw [DD];rfl);exact this
   .have aG:decide ((⟨#[c]⟩:Str)=ah "0")=decide (c=48):=by
     rw [CO];by_cases oV:c=48
     .rw [oV];simp
     .rw [decide_eq_false oV,decide_eq_false];intro z;have dy:=Lh.mp z;exact oV (uH dy).1
    rw [aG];have bM:i6 w = !decide (c=48):=by
     rw [ok,DD];show (decide ((c :: r).length <= 1) || decide (c ≠ 48))=_;by_cases oV:c=48
     .have au:r ≠ []:=fun z=>fZ (by rw [CO];exact Lh.mpr (by rw [DD,z,oV]))
      have:¬ (c :: r).length <= 1:=by
       cases r with
       | nil=>exact absurd rfl au
       | cons d r=>simp
      rw [decide_eq_false this,oV];rfl
     .rw [decide_eq_true oV,zR,decide_eq_false oV];rfl
    rw [<- bM];exact a8
theorem Qb:cq P base T 3 t.Bg t.Bn x7 JY:=by
 refine dp (aeK T) fun ab'=>?_;exists T.yN.ok Mb,9
 obtain ⟨w,lo,ai,rfl,az,bh,q⟩:=h;refine ⟨_,(db (dD (k8 (iW (cb ab' au T.agQ T.Fd.bF T.adh (af (U 0) (af (jE rfl T.acf T.Tu) aB))))) (aY (b1 r')) dI)
   (db (bJ (i:=3) Mb.aC (rq VD rfl T.S4 acW (af (U 0) aB)))
   (db (dD (fu.pt (nc (da l2 (U 3) (U 1) (cT _)) (n4 (da m8 (U 3) (U 2) (cT _))))) (aY (b1 r')) dI)
   (aY (b1 (U 3)))))),?_⟩
 refine ec (!i6 w) (fun Q a8=>?_) (fun ab=>?_) (fun ab=>?_)
 ·(nofun; repeat (dsimp only [Pd];nofun));exact ⟨az,bh,a8⟩
 .nofun;have fX:i6 w=false:=by simpa using ab
  have e:Ps w lo ai=.bH:=by unfold Ps;rw [fX];rfl
  rw [e] at q;exact q
 .have fX:i6 w=true:=by simpa using ab
  have a_:(1 <= (cs w).length/\(cs w).length <= 3)/\(cs w).all ll=true:=by
   have:=fX;unfold i6 at this;simp only [iP,decide_eq_true_eq] at this;exact this.1
  have aA:=HG w;have jI:intText? w=some (val w):=intText_digits (U4 a_.2) (fun z=>by have z':cs w=[]:=z;rw [z'] at a_;exact absurd a_.1.1 (by decide)) (by omega);nofun;refine ⟨val w,jI,by omega,?_⟩;refine ec (decide (val w < lo) || decide (ai < val w)) (fun Q a8=>?_) (fun ar=>?_) (fun ar=>?_)
  .nofun;by_cases c:val w < lo
   .rw [if_pos (decide_eq_true c)];rw [decide_eq_true c,sO] at a8;exact a8
   .rw [if_neg (by simpa using c)];rw [decide_eq_false c,m2] at a8;exact a8
  .nofun;have e:Ps w lo ai=.bH:=by unfold Ps;rw [fX,ar];rfl
   rw [e] at q;exact q
  .nofun;have e:Ps w lo ai=.int (val w):=by unfold Ps;rw [fX,ar];rfl
   rw [e] at q;exact q
theorem E8 {n:Nat} (h:n < 1000):n.log2 < 1920:=by
 by_cases h0:n=0
 .subst h0;decide
 .rw [Sg h0];exact hK h (c1 (show 1000 <= 2 ^ 10 by decide) (Nat.pow_le_pow_right (by decide) (by decide)))
theorem adO:∀ n,n < 1000->(rC 10 n).length <= 3:=by ac_nf
theorem aeG {n:Int} (h0:0 <= n) (ae:n <= 999):(ah (toString n)).length <= 3:=by
 have e:=R3 n.toNat;rw [iJ h0] at e;have l:(ah (toString n)).length=(ah (toString n)).cps.toList.length:=by simp [Fj]
 rw [l,e,a'];exact adO _ (by omega)
noncomputable abbrev mZ:Str:=ah "abcdefghijklmnopqrstuvwxyz"
noncomputable def aaE:bo:=fun vs H Q _=>∃ w,vs=[.str w]/\w.length <= 1000/\aV H/\Q (.bq (made w mZ 8)) H
theorem Wr:cq P base T 2 t.FC t.Ie ["word"] aaE:=by
 refine dp (KJ T) fun G9=>?_;exists T.GF.ok Yg,9
 obtain ⟨w,rfl,az,bh,q⟩:=h;refine ⟨_,(aY (b1 (cb G9 au T.KH T.xP.bF T.Rg (af (U 0) (af (jE rfl T.aeB T.aa4) (af (jE rfl T.Vt T.afj) aB)))))),?_⟩;(nofun; repeat (dsimp only [Ga];nofun));exact ⟨az,bh,q⟩
noncomputable abbrev nl:Str:=ah "\n"
noncomputable abbrev cO:Str:=ah " "
theorem zQ:nl=⟨#[10]⟩:=by ac_nf
theorem su:cO=⟨#[32]⟩:=by ac_nf
noncomputable def jc (x:Str):List (List Str):=(gT x nl).map fun r=>gT r cO
theorem Nn:∀ {ys:List Str} {y:Str},y ∈ ys->y.length <= (ys.map (·.length)).sum
 | [],_,h=>nomatch h
 | a :: r,y,h=>by
  rw [eJ,KC];rcases dQ.mp h with rfl | h
  .omega
  .have:=Nn h;omega
theorem SR {x y r:Str} (bI:1 <= y.length) (h:r ∈ gT x y):r.length <= x.length + 1:=by
 have ae:=aaj x y bI;have ak:=Nn h;omega
theorem CY {x y:Str} (bI:1 <= y.length):(gT x y).length <= x.length + 1:=by
 have ae:=aaj x y bI;omega
theorem Uk (x y:Str):gT x y ≠ []:=by
 unfold gT;split
 .simp
 .split
  .simp
  .rw [StrLaws.partsBetween_eq];obtain ⟨p,r,e⟩:=StrLaws.partsFrom_ne x y.length 0 (qm x y 0 x.length (x.length + 1));rw [e];simp
noncomputable def agW (eO H:ag) (p:Addr) (rows:List (List Str)):Prop:=∃ qs:List Addr,H p=some (.lst (qs.map V.ref))/\eO p=none/\p ∉ qs/\qs.length=rows.length/\∀ (i:Nat) (q:Addr) (r:List Str),qs[i]? = some q->rows[i]? = some r->H q=some (.lst (bE r))/\eO q=none
noncomputable def Iw:bo:=fun vs H Q _=>∃ x,vs=[.str x]/\x.length <= 20000/\aV H/\∀ p I,aI H I->aV I->agW H I p (jc x)->Q (.ref p) I
theorem tc:nl.length=1:=by ac_nf
theorem p4:cO.length=1:=by ac_nf
theorem Z6:cq P base T 1 t.sw t.An ["text"] Iw:=by
 exists T.sB.ok W9,9
 obtain ⟨x,rfl,az,bh,q⟩:=h;have gh:∀ n:Nat,n <= 40000->n <= sizeLine:=fun n h=>c1 h (by decide)
 refine ⟨_,(aY (b1 (l' rfl (fk (iT H8 Bu Tx OU (U 0) (af cC aB))) (iE (sc:=bz FT) rfl (by ac_nf)) (N:=["row"]) (sel:=[none]) (iS (M:=["text"]) (by ac_nf)) (gN.of (fun _ _ _ _=>(b' (i:=0) (gb (N:=["row"]) (by ac_nf) rfl))) (fun _ _ _ _=>⟨_,kP,by walk_at "B"⟩) (fun _ _ _ _=>⟨_,(iT H8 Bu Tx OU (U 0) (af cC aB)),by walk_at "B"⟩))))),?_⟩;nofun;have bI:1 <= nl.length:=by rw [tc];exact b2 _
 have afY:1 <= cO.length:=by rw [p4];exact b2 _
 have aw:=CY (x:=x) bI;have abd:(bE (gT x nl)).length <= sizeLine:=by unfold bE;rw [a'];exact gh _ (by omega)
 refine ⟨by rw [tc];decide,gh _ (by omega),gh _ (show (gT x nl).length <= 40000 by omega),fun p aq=>⟨⟨_,aK.of aU⟩,?_⟩⟩;refine dm.aaz (xs:=bE (gT x nl)) (fun v=>match v with | .str r=>.lst (bE (gT r cO)) | _=>.lst []) (aK.of aU) abd (fun v=>by cases v <;> rfl) (fun i v H1 N av a9 ei bb=>?_) (fun qs H1 a9 ei aA al dz dV=>?_)
 .unfold bE at av;rw [eA] at av;cases au:(gT x nl)[i]? with
  | none=>rw [au] at av;cases av
  | some r=>
   rw [au] at av;have e:=eS av;subst e;have hm:=SR bI (c2 au);have f6:=CY (x:=r) afY;nofun;exact ⟨Sub.name,by rw [p4];decide,gh _ (by omega),gh _ (show (gT r cO).length <= 40000 by omega),bb⟩
 .have H_:aI H H1:=(bk aq).trans a9;refine q _ _ (H_.g9 (H_.free dV)) ((ei (bh.upd)).upd) ⟨qs,aU,H_.free dV,fun hm=>?_,?_,fun i d2 r ae ak=>?_⟩
  .obtain ⟨j,aZ,e⟩:=sg hm;have F7:j < (bE (gT x nl)).length:=by omega
   have:=al j dz _ (by rw [b7 aZ,e]) (b7 F7);rw [dV] at this;cases this.1
  .rw [aA];unfold jc bE;rw [a',a']
  .unfold jc at ak;rw [eA] at ak;cases au:(gT x nl)[i]? with
   | none=>rw [au] at ak;cases ak
   | some ez=>
    rw [au] at ak;have e:=eS ak;subst e;have z:=al i d2 (.str ez) ae (by unfold bE;rw [eA,au];rfl);refine ⟨by rw [aW (cy z.1 dV)];exact z.1,?_⟩;have:=z.2;by_cases aH:d2=p
    .rw [aH];exact aq
    .rwa [aW aH] at this
structure aD where
 k:Nat
 name:Str
 start:Int
 fin:Int
 off:Int
 near:Int
 least:Int
noncomputable def dE:Nat->Str
 | 0=>ah "car"
 | 1=>ah "foot"
 | _=>ah "tram"
noncomputable def bC.fx (t:bC):Nat->Addr
 | 0=>t.ie
 | 1=>t.ib
 | _=>t.hZ
noncomputable def kO (d:aD):List (Str × V):=[(ah "kind",.str (dE d.k)),(ah "name",.str d.name),(ah "start",.int d.start),(ah "end",.int d.fin),(ah "off",.int d.off),(ah "near",.int d.near),(ah "least",.int d.least)]
noncomputable abbrev mq:List Str:=[ah "kind",ah "name",ah "start",ah "end",ah "off",ah "near",ah "least"]
theorem IQ (d:aD):(kO d).map (·.1)=mq:=rfl
noncomputable def et (t:bC) (H:ag) (p:Addr) (d:aD):Prop:=d.k < 3/\∃ aj,H p=some (.ins (t.fx d.k) aj (kO d))
theorem et.same {t:bC} {H I:ag} {p:Addr} {d:aD} (h:et t H p d) (s:aI H I):et t I p d:=⟨h.1,h.2.imp fun aj e=>s _ _ e⟩
noncomputable def rR (t:bC) (C:Addr):Prop:=∃ k,k < 3/\C=t.fx k
noncomputable def cI (d:aD):Int:=match d.k with | 0=>1 | 1=>0 | _=>2
noncomputable def cK (d:aD):Int:=match d.k with | 0=>2 | 1=>d.off | _=>1
section
variable {w:World} {K:a6} {ao:Str->Option Value} {t:bC}
theorem Txt.o5 (T:Txt w K ao t):∀ k,gB K (t.fx k)
 | 0=>T.kt
 | 1=>T.Gp
 | _ + 2=>T.up
theorem Txt.IM (T:Txt w K ao t) {f:Str} (hf:f ∈ mq):∀ k,cB K (t.fx k) f:=by
 intro k;simp only [mq,dQ,jX,or_false] at hf;rcases hf with rfl | rfl | rfl | rfl | rfl | rfl | rfl
 .match k with
  | 0=>exact T.acV
  | 1=>exact T.aei
  | _ + 2=>exact T.RJ
 .match k with
  | 0=>exact T.XT
  | 1=>exact T.Uj
  | _ + 2=>exact T.YH
 .match k with
  | 0=>exact T.adR
  | 1=>exact T.Th
  | _ + 2=>exact T.agm
 .match k with
  | 0=>exact T.afc
  | 1=>exact T.ad'
  | _ + 2=>exact T.Yn
 .match k with
  | 0=>exact T.aeQ
  | 1=>exact T.ZV
  | _ + 2=>exact T.Sx
 .match k with
  | 0=>exact T.ae6
  | 1=>exact T.V'
  | _ + 2=>exact T.Y0
 .match k with
  | 0=>exact T.X0
  | 1=>exact T.aa7
  | _ + 2=>exact T.adz
theorem Txt.cw_inj (T:Txt w K ao t) {j k:Nat} (aZ:j < 3) (aE:k < 3) (e:t.fx j=t.fx k):j=k:=by
 match j,k,aZ,aE with
 | 0,0,_,_=>rfl
 | 0,1,_,_=>exact absurd e T.P4
 | 0,2,_,_=>exact absurd e T.MI
 | 1,0,_,_=>exact absurd e.symm T.P4
 | 1,1,_,_=>rfl
 | 1,2,_,_=>exact absurd e T.II
 | 2,0,_,_=>exact absurd e.symm T.MI
 | 2,1,_,_=>exact absurd e.symm T.II
 | 2,2,_,_=>rfl
 | j + 3,_,h,_=>omega
 | _,k + 3,_,h=>omega
theorem et.fld (T:Txt w K ao t) {H:ag} {p:Addr} {d:aD} (h:et t H p d) {f:Str} {v:V} (i:Nat) (ai:mq.findIdx? (· == f)=some i) (aM:(kO d)[i]? = some (f,v)):ia K H p f v:=by
 obtain ⟨_,aj,e⟩:=h;have hm:f ∈ mq:=by
  obtain ⟨cx,ae,_⟩:=List.findIdx?_eq_some_iff_getElem.mp ai;have:mq[i]=f:=by simpa using ae
  rw [<- this];exact vC cx
 exact ⟨_,aj,_,e,T.o5 _,T.IM hm _,j9 mq i (IQ d) ai aM⟩
theorem et.BB (T:Txt w K ao t) {H:ag} {p:Addr} {d:aD} (h:et t H p d):ia K H p (ah "name") (.str d.name):=h.fld T 1 (by ac_nf) rfl
theorem et.rI (T:Txt w K ao t) {H:ag} {p:Addr} {d:aD} (h:et t H p d):ia K H p (ah "start") (.int d.start):=h.fld T 2 (by ac_nf) rfl
theorem et.rx (T:Txt w K ao t) {H:ag} {p:Addr} {d:aD} (h:et t H p d):ia K H p (ah "end") (.int d.fin):=h.fld T 3 (by ac_nf) rfl
theorem et.Nl (T:Txt w K ao t) {H:ag} {p:Addr} {d:aD} (h:et t H p d):ia K H p (ah "off") (.int d.off):=h.fld T 4 (by ac_nf) rfl
theorem et.RH (T:Txt w K ao t) {H:ag} {p:Addr} {d:aD} (h:et t H p d):ia K H p (ah "near") (.int d.near):=h.fld T 5 (by ac_nf) rfl
theorem et.abf (T:Txt w K ao t) {H:ag} {p:Addr} {d:aD} (h:et t H p d):ia K H p (ah "least") (.int d.least):=h.fld T 6 (by ac_nf) rfl
end
noncomputable def Xq (t:bC):bo:=fun vs H Q _=>∃ (p aj:Addr) (d:aD),vs=[.ref p,.str (dE d.k),.str d.name,.int d.start,.int d.fin,.int d.off,.int d.near,.int d.least]/\d.k < 3/\H p=some (.ins (t.fx d.k) aj [])/\Q .bH (upd H p (.ins (t.fx d.k) aj (kO d)))
noncomputable def rQ (t:bC) (k:Nat):bo:=fun vs H Q _=>∃ (p aj:Addr) (d:aD),vs=[.ref p,.str d.name,.int d.start,.int d.fin,.int d.off,.int d.near,.int d.least]/\d.k=k/\H p=some (.ins (t.fx d.k) aj [])/\Q .bH (upd H p (.ins (t.fx d.k) aj (kO d)))
theorem BV:cq P base T 1 t.BQ t.Ep Bl (Xq t):=by
 exists T.M3.ok agU,9
 obtain ⟨p,aj,d,rfl,aE,aq,q⟩:=h;refine ⟨_,(db (h1 (U 0) (U 1) rfl)
   (db (h1 (U 0) (U 2) rfl)
   (db (h1 (U 0) (U 3) rfl)
   (db (h1 (U 0) (U 4) rfl)
   (db (h1 (U 0) (U 5) rfl)
   (db (h1 (U 0) (U 6) rfl)
   (aY (h1 (U 0) (U 7) rfl)))))))),?_⟩
 nofun;have na:∀ {f:Str},f ∈ mq->cB K (t.fx d.k) f:=fun hf=>T.IM hf d.k
 refine ⟨_,_,_,aq,T.o5 _,na (by ac_nf),by decide,?_⟩;refine ⟨_,_,_,aU,T.o5 _,na (by ac_nf),fp (n:=999) (by decide),?_⟩;refine ⟨_,_,_,aU,T.o5 _,na (by ac_nf),fp (n:=999) (fp (n:=998) (by decide)),?_⟩;refine ⟨_,_,_,aU,T.o5 _,na (by ac_nf),fp (n:=999) (fp (n:=998) (fp (n:=997) (by decide))),?_⟩;refine ⟨_,_,_,aU,T.o5 _,na (by ac_nf),fp (n:=999) (fp (n:=998) (fp (n:=997) (fp (n:=996) (by decide)))),?_⟩;refine ⟨_,_,_,aU,T.o5 _,na (by ac_nf),fp (n:=999) (fp (n:=998) (fp (n:=997) (fp (n:=996) (fp (n:=995) (by decide))))),?_⟩;refine ⟨_,_,_,aU,T.o5 _,na (by ac_nf),fp (n:=999) (fp (n:=998) (fp (n:=997) (fp (n:=996) (fp (n:=995) (fp (n:=994) (by decide)))))),?_⟩;simp only [nz];rw [show c_ (ah "kind") (V.str (dE d.k)) ([]:List (Str × V))=[(ah "kind",V.str (dE d.k))] from gX [] rfl (by ac_nf),
  show c_ (ah "name") (V.str d.name) ([(ah "kind",V.str (dE d.k))]:List (Str × V))=[(ah "kind",V.str (dE d.k)),(ah "name",V.str d.name)] from gX [ah "kind"] rfl (by ac_nf),
  show c_ (ah "start") (V.int d.start) ([(ah "kind",V.str (dE d.k)),(ah "name",V.str d.name)]:List (Str × V))=[(ah "kind",V.str (dE d.k)),(ah "name",V.str d.name),(ah "start",V.int d.start)] from gX [ah "kind",ah "name"] rfl (by ac_nf),
  show c_ (ah "end") (V.int d.fin) ([(ah "kind",V.str (dE d.k)),(ah "name",V.str d.name),(ah "start",V.int d.start)]:List (Str × V))=[(ah "kind",V.str (dE d.k)),(ah "name",V.str d.name),(ah "start",V.int d.start),(ah "end",V.int d.fin)] from gX [ah "kind",ah "name",ah "start"] rfl (by ac_nf),
  show c_ (ah "off") (V.int d.off) ([(ah "kind",V.str (dE d.k)),(ah "name",V.str d.name),(ah "start",V.int d.start),(ah "end",V.int d.fin)]:List (Str × V))=[(ah "kind",V.str (dE d.k)),(ah "name",V.str d.name),(ah "start",V.int d.start),(ah "end",V.int d.fin),(ah "off",V.int d.off)] from gX [ah "kind",ah "name",ah "start",ah "end"] rfl (by ac_nf),
  show c_ (ah "near") (V.int d.near) ([(ah "kind",V.str (dE d.k)),(ah "name",V.str d.name),(ah "start",V.int d.start),(ah "end",V.int d.fin),(ah "off",V.int d.off)]:List (Str × V))=[(ah "kind",V.str (dE d.k)),(ah "name",V.str d.name),(ah "start",V.int d.start),(ah "end",V.int d.fin),(ah "off",V.int d.off),(ah "near",V.int d.near)] from gX [ah "kind",ah "name",ah "start",ah "end",ah "off"] rfl (by ac_nf),
  show c_ (ah "least") (V.int d.least) ([(ah "kind",V.str (dE d.k)),(ah "name",V.str d.name),(ah "start",V.int d.start),(ah "end",V.int d.fin),(ah "off",V.int d.off),(ah "near",V.int d.near)]:List (Str × V))=[(ah "kind",V.str (dE d.k)),(ah "name",V.str d.name),(ah "start",V.int d.start),(ah "end",V.int d.fin),(ah "off",V.int d.off),(ah "near",V.int d.near),(ah "least",V.int d.least)] from gX [ah "kind",ah "name",ah "start",ah "end",ah "off",ah "near"] rfl (by ac_nf)]
 exact q
theorem VJ:cq P base T 2 t.uZ t.Be ji (rQ t 0):=by
 refine dp (BV T) fun wj=>?_;exists T.KO.ok WA,9
 obtain ⟨p,aj,d,rfl,aE,aq,q⟩:=h;refine ⟨_,(aY (rc (DI rfl T.Cw T.jp wj au T.GO .nil c5 (af (U 0) (af cC (af (U 1) (af (U 2) (af (U 3) (af (U 4) (af (U 5) (af (U 6) aB))))))))))),?_⟩;nofun;exact ⟨p,aj,d,by rw [aE];rfl,by omega,aq,q⟩
theorem ac9:cq P base T 2 t.t7 t.yo ji (rQ t 1):=by
 refine dp (BV T) fun wj=>?_;exists T.Ph.ok V0,9
 obtain ⟨p,aj,d,rfl,aE,aq,q⟩:=h;refine ⟨_,(aY (rc (DI rfl T.Cw T.jp wj au T.GO .nil c5 (af (U 0) (af cC (af (U 1) (af (U 2) (af (U 3) (af (U 4) (af (U 5) (af (U 6) aB))))))))))),?_⟩;nofun;exact ⟨p,aj,d,by rw [aE];rfl,by omega,aq,q⟩
theorem U2:cq P base T 2 t.wY t.xS ji (rQ t 2):=by
 refine dp (BV T) fun wj=>?_;exists T.Lk.ok aey,9
 obtain ⟨p,aj,d,rfl,aE,aq,q⟩:=h;refine ⟨_,(aY (rc (DI rfl T.Cw T.jp wj au T.GO .nil c5 (af (U 0) (af cC (af (U 1) (af (U 2) (af (U 3) (af (U 4) (af (U 5) (af (U 6) aB))))))))))),?_⟩;nofun;exact ⟨p,aj,d,by rw [aE];rfl,by omega,aq,q⟩
noncomputable def rV (t:bC) (C:Addr):bo:=fun vs H Q _=>∃ p d,vs=[.ref p]/\et t H p d/\C=t.fx d.k/\Q (.int (cI d)) H
noncomputable def r0 (t:bC) (C:Addr):bo:=fun vs H Q _=>∃ p d,vs=[.ref p]/\et t H p d/\C=t.fx d.k/\Q (.int (cK d)) H
theorem ae4:cq P base T 1 t.xq t.Fm ["self"] (rV t (t.fx 0)):=by
 exists T.QG.ok ab_,9
 obtain ⟨p,d,rfl,W,cm,q⟩:=h;have aE:=(T.cw_inj (by decide) W.1 cm).symm;refine ⟨_,(aY (b1 aR)),?_⟩;rw [show cI d=1 by unfold cI;simp only [aE]] at q;nofun;exact q
theorem XJ:cq P base T 1 t.x5 t.D_ ["self"] (rV t (t.fx 1)):=by
 exists T.IA.ok ago,9
 obtain ⟨p,d,rfl,W,cm,q⟩:=h;have aE:=(T.cw_inj (by decide) W.1 cm).symm;refine ⟨_,(aY (b1 aR)),?_⟩;rw [show cI d=0 by unfold cI;simp only [aE]] at q;nofun;exact q
theorem V8:cq P base T 1 t.A4 t.Fp ["self"] (rV t (t.fx 2)):=by
 exists T.OO.ok Us,9
 obtain ⟨p,d,rfl,W,cm,q⟩:=h;have aE:=(T.cw_inj (by decide) W.1 cm).symm;refine ⟨_,(aY (b1 aR)),?_⟩;rw [show cI d=2 by unfold cI;simp only [aE]] at q;nofun;exact q
theorem PS (T:Txt w K ao t):nq P w K ao base cH 1 (rR t) "ready" ["self"] (rV t):=by
 refine ⟨fun C cm=>?_⟩;obtain ⟨k,aE,rfl⟩:=cm
 match k,aE with
 | 0,_=>exact ⟨_,_,T.kt,T.aga,ae4 T,T.Vi⟩
 | 1,_=>exact ⟨_,_,T.Gp,T.acg,XJ T,T.WH⟩
 | 2,_=>exact ⟨_,_,T.up,T.agd,V8 T,T.Vf⟩
theorem acF:cq P base T 1 t.zN t.GH ["self"] (r0 t (t.fx 0)):=by
 exists T.O1.ok Xj,9
 obtain ⟨p,d,rfl,W,cm,q⟩:=h;have aE:=(T.cw_inj (by decide) W.1 cm).symm;refine ⟨_,(aY (b1 aR)),?_⟩;rw [show cK d=2 by unfold cK;simp only [aE]] at q;nofun;exact q
theorem agC:cq P base T 1 t.Br t.Gw ["self"] (r0 t (t.fx 1)):=by
 exists T.NG.ok YZ,9
 obtain ⟨p,d,rfl,W,cm,q⟩:=h;have aE:=(T.cw_inj (by decide) W.1 cm).symm;refine ⟨_,(aY (b1 (Gc (U 0) rfl))),?_⟩;rw [show cK d=d.off by unfold cK;simp only [aE]] at q;nofun;exact ⟨_,W.Nl T,q⟩
theorem acn:cq P base T 1 t.yp t.Dr ["self"] (r0 t (t.fx 2)):=by
 exists T.LN.ok Is,9
 obtain ⟨p,d,rfl,W,cm,q⟩:=h;have aE:=(T.cw_inj (by decide) W.1 cm).symm;refine ⟨_,(aY (b1 aR)),?_⟩;rw [show cK d=1 by unfold cK;simp only [aE]] at q;nofun;exact q
theorem Oc (T:Txt w K ao t):nq P w K ao base cH 1 (rR t) "fade" ["self"] (r0 t):=by
 refine ⟨fun C cm=>?_⟩;obtain ⟨k,aE,rfl⟩:=cm
 match k,aE with
 | 0,_=>exact ⟨_,_,T.kt,T.R2,acF T,T.af4⟩
 | 1,_=>exact ⟨_,_,T.Gp,T.acy,agC T,T.UM⟩
 | 2,_=>exact ⟨_,_,T.up,T.ZF,acn T,T.Uz⟩
noncomputable def hM (c:Nat):List (List Nat)->List Nat
 | []=>[]
 | [a]=>a
 | a :: b :: r=>a ++ c :: hM c (b :: r)
theorem IB {c:Nat}:∀ {a b X Y:List Nat},c ∉ a->c ∉ b->a ++ c :: X=b ++ c :: Y->a=b/\X=Y
 | [],[],X,Y,_,_,h=>⟨rfl,(uH h).2⟩
 | [],d :: b,X,Y,_,ab,h=>absurd (uH h).1 (fun z=>ab (by simp [<- z]))
 | d :: a,[],X,Y,aJ,_,h=>absurd (uH h).1 (fun z=>aJ (by simp [z]))
 | d :: a,e :: b,X,Y,aJ,ab,h=>by
  obtain ⟨ae,ak⟩:=uH h;obtain ⟨ax,aG⟩:=IB (fun z=>aJ (fw _ z)) (fun z=>ab (fw _ z)) ak;exact ⟨by rw [ae,ax],aG⟩
theorem Od {c:Nat}:∀ {ps qs:List (List Nat)},(∀ p ∈ ps,c ∉ p)->(∀ q ∈ qs,c ∉ q)->ps ≠ []->qs ≠ []->hM c ps=hM c qs->ps=qs
 | [a],[b],_,_,_,_,h=>by rw [show a=b from h]
 | [a],b :: qH :: r,aJ,_,_,_,h=>absurd (show c ∈ a by rw [show a=b ++ c :: hM c (qH :: r) from h];simp) (aJ a (by simp))
 | a :: m5 :: r,[b],_,ab,_,_,h=>absurd (show c ∈ b by rw [show b=a ++ c :: hM c (m5 :: r) from h.symm];simp) (ab b (by simp))
 | a :: m5 :: r,b :: qH :: s,aJ,ab,_,_,h=>by
  obtain ⟨ax,aG⟩:=IB (aJ a (by simp)) (ab b (by simp)) (show a ++ c :: hM c (m5 :: r)=b ++ c :: hM c (qH :: s) from h);rw [ax,Od (fun p aq=>aJ p (fw _ aq)) (fun q aH=>ab q (fw _ aH)) (by simp) (by simp) aG]
 | [],_,_,_,h,_,_=>absurd rfl h
 | _ :: _,[],_,_,_,h,_=>absurd rfl h
theorem DL {c d:Nat}:∀ {ps:List (List Nat)},d ∈ hM c ps->d=c\/∃ p ∈ ps,d ∈ p
 | [],h=>nomatch h
 | [a],h=>.inr ⟨a,by simp,h⟩
 | a :: b :: r,h=>by
  rcases jh.mp (show d ∈ a ++ c :: hM c (b :: r) from h) with h | h
  .exact .inr ⟨a,by simp,h⟩
  .rcases dQ.mp h with h | h
   .exact .inl h
   .rcases DL h with h | ⟨p,aq,h⟩
    .exact .inl h
    .exact .inr ⟨p,fw _ aq,h⟩
theorem l8 (c:Nat):∀ ys:List Str,(eG ⟨#[c]⟩ ys).cps.toList=hM c (ys.map (·.cps.toList))
 | []=>rfl
 | [a]=>rfl
 | a :: b :: r=>by
  show (a ++ ⟨#[c]⟩ ++ eG ⟨#[c]⟩ (b :: r)).cps.toList=_;rw [pQ,oM,pQ,oM,l8 c (b :: r)];simp [hM]
theorem ua {x y:Str} (h:x.cps.toList=y.cps.toList):x=y:=by
 cases x;cases y;exact congrArg Str.mk (To.mp h)
theorem yz {c:Nat} {ys:List Str} (aF:ys ≠ []) (hf:∀ y ∈ ys,c ∉ y.cps.toList):gT (eG ⟨#[c]⟩ ys) ⟨#[c]⟩=ys:=by
 have e:=congrArg (·.cps.toList) (StrLaws.join_split (eG ⟨#[c]⟩ ys) ⟨#[c]⟩);simp only [l8] at e;have aG:=Od (c:=c) (ps:=(gT (eG ⟨#[c]⟩ ys) ⟨#[c]⟩).map (·.cps.toList)) (qs:=ys.map (·.cps.toList)) (fun p aq=>by
  obtain ⟨y,bI,rfl⟩:=dX.mp aq;exact StrLaws.split_free _ c y bI) (fun p aq=>by
  obtain ⟨y,bI,rfl⟩:=dX.mp aq;exact hf y bI) (by simp [Uk]) (by simpa using aF) e
 exact (List.map_inj_right fun x y h=>ua h).mp aG
noncomputable abbrev num (v:Int):Str:=ah (toString v)
theorem ac4:∀ n,n < 1000->(decide (1 <= ((rC 10 n).map tV).length) && decide (((rC 10 n).map tV).length <= 3) && ((rC 10 n).map tV).all ll && (decide (((rC 10 n).map tV).length <= 1) || decide (((rC 10 n).map tV).headD 0 ≠ 48)) &&
  decide (N3 ((rC 10 n).map tV)=n))=true:=by ac_nf
theorem AP {v:Int} (h0:0 <= v) (ae:v < 1000):i6 (num v)=true/\val (num v)=v:=by
 have e:=R3 v.toNat;rw [iJ h0] at e;have a:=ac4 v.toNat (by omega);rw [<- e,iP,decide_eq_true_eq] at a;exact ⟨a.1,by show ((N3 (cs (num v)):Nat):Int)=v;rw [a.2];omega⟩
theorem qw {v lo ai:Int} (h0:0 <= v) (ae:v < 1000) (aA:lo <= v) (cN:v <= ai):Ps (num v) lo ai=.int v:=by
 obtain ⟨a,b⟩:=AP h0 ae;unfold Ps;rw [a,b,decide_eq_false (by omega:¬ v < lo),decide_eq_false (by omega:¬ ai < v)];rfl
theorem Yr {u v:Int} (h0:0 <= u) (ae:u < 1000) (ak:0 <= v) (a_:v < 1000) (e:num u=num v):u=v:=by
 rw [<- (AP h0 ae).2,e,(AP ak a_).2]
theorem Nk {v:Int} (h0:0 <= v) (ae:v < 1000):∀ c ∈ (num v).cps.toList,48 <= c/\c <= 57:=fun c ar=>by
 have:=qG.mp (af7 (AP h0 ae).1).2 c ar;simpa [ll] using this
theorem Z4:∀ c ∈ mZ.cps.toList,97 <= c/\c <= 122:=by ac_nf
theorem TC:∀ k,k < 26->97 + k ∈ mZ.cps.toList:=by ac_nf
theorem sH {x:Str} (h:made x mZ 8=true):(1 <= x.length/\x.length <= 8)/\∀ c ∈ x.cps.toList,97 <= c/\c <= 122:=by
 unfold made at h;split at h
 .cases h
 .rename_i ae;split at h
  .cases h
  .rename_i ak;have a_:¬ x.length=0:=fun z=>ae (xQ.mpr z)
   refine ⟨by omega,fun c ar=>?_⟩;have:=qG.mp h c ar;rw [De] at this;exact Z4 c (of_decide_eq_true this)
theorem XR {x:Str} (h0:1 <= x.length) (ae:x.length <= 8) (h:∀ c ∈ x.cps.toList,97 <= c/\c <= 122):made x mZ 8=true:=by
 unfold made;rw [if_neg (fun z=>by have:=xQ.mp z;omega),if_neg (by omega)];refine qG.mpr fun c ar=>?_
 have:=h c ar;rw [De];have e:=TC (c - 97) (by omega);rw [show 97 + (c - 97)=c by omega] at e;exact decide_eq_true e
structure kj (n:Int) (d:aD):Prop where
 k:d.k < 3
 nm:made d.name mZ 8=true
 st:0 <= d.start/\d.start < n
 e2:0 <= d.fin/\d.fin < n
 ne:d.start ≠ d.fin
 of:0 <= d.off/\d.off <= 30
 Aj:0 <= d.near/\d.near <= 30
 le:1 <= d.least/\d.least <= 60
structure qt (n:Int) (ds:List aD):Prop where
 nn:2 <= n/\n <= 99
 ln:1 <= ds.length/\ds.length <= 12
 al:∀ d ∈ ds,kj n d
 aC:(ds.map (·.name)).Nodup
noncomputable def l4 (d:aD):List Str:=[dE d.k,d.name,num d.start,num d.fin,num d.off,num d.near,num d.least]
noncomputable def g7 (n:Int) (ds:List aD):List (List Str):=[ah "ring",num n] :: ds.map l4
noncomputable def nd (n:Int) (ds:List aD):Str:=eG nl ((g7 n ds).map (eG cO))
noncomputable def jT (x:Str):Prop:=x.length <= 8/\(32:Nat) ∉ x.cps.toList/\(10:Nat) ∉ x.cps.toList
theorem Kq (k:Nat):jT (dE k):=by
 match k with
 | 0=>exact ⟨by ac_nf,by ac_nf,by ac_nf⟩
 | 1=>exact ⟨by ac_nf,by ac_nf,by ac_nf⟩
 | _ + 2=>exact ⟨show (ah "tram").length <= 8 by ac_nf,show (32:Nat) ∉ (ah "tram").cps.toList by ac_nf,show (10:Nat) ∉ (ah "tram").cps.toList by ac_nf⟩
theorem g0 {v:Int} (h0:0 <= v) (ae:v < 1000):jT (num v):=
 ⟨c1 (aeG h0 (by omega)) (by decide),fun z=>by have:=Nk h0 ae _ z;omega,fun z=>by have:=Nk h0 ae _ z;omega⟩
theorem Ew {x:Str} (h:made x mZ 8=true):jT x:=
 ⟨(sH h).1.2,fun z=>by have:=(sH h).2 _ z;omega,fun z=>by have:=(sH h).2 _ z;omega⟩
theorem kj.plain {n:Int} {d:aD} (h:kj n d) (aF:n <= 99):∀ x ∈ l4 d,jT x:=fun x av=>by
 have ae:=h.st;have ak:=h.e2;have a_:=h.of;have cv:=h.Aj;have dh:=h.le;simp only [l4,dQ,jX,or_false] at av;rcases av with rfl | rfl | rfl | rfl | rfl | rfl | rfl
 .exact Kq _
 .exact Ew h.nm
 .exact g0 (by omega) (by omega)
 .exact g0 (by omega) (by omega)
 .exact g0 (by omega) (by omega)
 .exact g0 (by omega) (by omega)
 .exact g0 (by omega) (by omega)
theorem qt.plain {n:Int} {ds:List aD} (h:qt n ds):∀ r ∈ g7 n ds,∀ x ∈ r,jT x:=fun r au x av=>by
 have aF:=h.nn;rcases dQ.mp au with rfl | au
 .simp only [dQ,jX,or_false] at av;rcases av with rfl | rfl
  .exact ⟨by ac_nf,by ac_nf,by ac_nf⟩
  .exact g0 (by omega) (by omega)
 .obtain ⟨d,hd,rfl⟩:=dX.mp au;exact (h.al d hd).plain aF.2 x av
theorem acZ {rs:List (List Str)} (h0:rs ≠ []) (ae:∀ r ∈ rs,r ≠ []) (ak:∀ r ∈ rs,∀ x ∈ r,jT x):jc (eG nl (rs.map (eG cO)))=rs:=by
 unfold jc;rw [zQ,su];rw [yz (by simpa using h0) (fun y bI=>by
  obtain ⟨r,au,rfl⟩:=dX.mp bI;rw [l8];intro z;rcases DL z with z | ⟨p,aq,z⟩
  .cases z
  .obtain ⟨x,av,rfl⟩:=dX.mp aq;exact (ak r au x av).2.2 z)]
 rw [vI];have:∀ r ∈ rs,((fun r=>gT r ⟨#[32]⟩) ∘ eG ⟨#[32]⟩) r=r:=fun r au=>yz (ae r au) fun x av=>(ak r au x av).2.1
 exact (aaA this).trans (List.map_id rs)
theorem aeR {n:Int} {ds:List aD} (h:qt n ds):jc (nd n ds)=g7 n ds:=acZ (by simp [g7]) (fun r au=>by
 rcases dQ.mp au with rfl | au
 .simp
 .obtain ⟨d,hd,rfl⟩:=dX.mp au;simp [l4]) h.plain
theorem nP (sep:Str) (B:Nat):∀ ys:List Str,(∀ y ∈ ys,y.length <= B)->(eG sep ys).length <= ys.length * (B + sep.length)
 | [],_=>by show (Str.empty).length <= _;exact fv _
 | [a],h=>by
  have:=h a (by simp);show a.length <= _;simp only [hb,sm];omega
 | a :: b :: r,h=>by
  have ae:=h a (by simp);have ak:=nP sep B (b :: r) fun y bI=>h y (fw _ bI)
  show (a ++ sep ++ eG sep (b :: r)).length <= _;rw [kl,kl,hb,Zo];omega
theorem acp {n:Int} {ds:List aD} (h:qt n ds):(nd n ds).length <= 1000:=by
 have ae:∀ y ∈ (g7 n ds).map (eG cO),y.length <= 63:=fun y bI=>by
  obtain ⟨r,au,rfl⟩:=dX.mp bI;have:=nP cO 8 r fun x av=>(h.plain r au x av).1
  rw [p4] at this;have aA:r.length <= 7:=by
   rcases dQ.mp au with rfl | au
   .simp
   .obtain ⟨d,hd,rfl⟩:=dX.mp au;simp [l4]
  omega
 have ak:=nP nl 63 _ ae;rw [tc] at ak;have a_:((g7 n ds).map (eG cO)).length <= 13:=by
  have:=h.ln;simp [g7];omega
 unfold nd;omega
noncomputable abbrev lJ:List Str:=[ah "row",ah "told",ah "place"]
noncomputable def kx (row:Int) (aQ:Addr) (pl:Int):List (Str × V):=[(ah "row",.int row),(ah "told",.ref aQ),(ah "place",.int pl)]
theorem oN (row:Int) (aQ:Addr) (pl:Int):(kx row aQ pl).map (·.1)=lJ:=rfl
theorem Qq (row:Int) (aQ:Addr) (pl v:Int):c_ (ah "place") (.int v) (kx row aQ pl)=kx row aQ v:=by
 unfold kx;simp only [c_];rw [if_neg (by ac_nf),if_neg (by ac_nf)];rfl
noncomputable def b6 (t:bC) (H:ag) (p:Addr) (row:Int) (ws:List Str) (pl:Nat):Prop:=
 (ws.length <= 1000/\∀ x ∈ ws,x.length <= 1000)/\∃ aj aQ,H p=some (.ins t.fz aj (kx row aQ pl))/\H aQ=some (.lst (bE ws))
noncomputable def cc (p:Addr) (H I:ag):Prop:=∀ b u,b ≠ p->H b=some u->I b=some u
theorem cc.trans {p:Addr} {H H1 ay:ag} (a:cc p H H1) (b:cc p H1 ay):cc p H ay:=fun c u n e=>b c u n (a c u n e)
theorem cc.of {p:Addr} {H H1:ag} (a:aI H H1):cc p H H1:=fun c u _ e=>a c u e
theorem cc.put {p:Addr} {H:ag} {o:df}:cc p H (upd H p o):=fun c u n e=>by rw [aW n];exact e
theorem Go (ws:List Str):(bE ws).length=ws.length:=by unfold bE;rw [a']
theorem Wj {ws:List Str} {i:Nat} {x:Str} (h:ws[i]? = some x):(bE ws)[i]? = some (.str x):=by unfold bE;rw [eA,h];rfl
theorem CB (ws:List Str):(bE ws).all kU=true:=by unfold bE;simp [kU]
theorem HA (x:Str) (xs:List Str):pV (.str x) (bE xs)=decide (x ∈ xs):=by
 unfold pV bE;rw [agI,n_];simp only [pY,Function.comp,kI,beq_iff_eq,decide_eq_true_eq];constructor
 .rintro ⟨y,bI,rfl⟩;exact bI
 .intro h;exact ⟨x,h,rfl⟩
section
variable {w:World} {K:a6} {ao:Str->Option Value} {t:bC} {H I:ag} {p:Addr} {row:Int} {ws:List Str} {pl:Nat}
theorem b6.same (h:b6 t H p row ws pl) (s:aI H I):b6 t I p row ws pl:=by
 obtain ⟨az,aj,aQ,ax,aG⟩:=h;exact ⟨az,aj,aQ,s _ _ ax,s _ _ aG⟩
theorem b6.i5 {q:Addr} (h:b6 t H p row ws pl) (s:cc q H I) (n:p ≠ q) (k:∃ C aj aN,H q=some (.ins C aj aN)):b6 t I p row ws pl:=by
 obtain ⟨az,aj,aQ,ax,aG⟩:=h;obtain ⟨C,x3,aN,bM⟩:=k;exact ⟨az,aj,aQ,s _ _ n ax,s _ _ (d0 aG bM (by intro z;cases z)) aG⟩
theorem b6.ins (h:b6 t H p row ws pl):∃ C aj aN,H p=some (.ins C aj aN):=by
 obtain ⟨az,aj,aQ,ax,aG⟩:=h;exact ⟨_,_,_,ax⟩
theorem b6.no {m:Str} (row:Int) (aQ:Addr) (pl:Int) (h:lJ.contains m=false):(kx row aQ pl).lookup m=none:=BO lJ (oN ..) h
theorem xX (T:Txt w K ao t) {aj aQ:Addr} {pl:Int} (e:H p=some (.ins t.fz aj (kx row aQ pl))):ia K H p (ah "place") (.int pl):=
 ⟨_,aj,_,e,T.dT,T.yn,j9 lJ 2 (oN ..) (by ac_nf) rfl⟩
theorem GY (T:Txt w K ao t) {aj aQ:Addr} {pl:Int} (e:H p=some (.ins t.fz aj (kx row aQ pl))):ia K H p (ah "told") (.ref aQ):=
 ⟨_,aj,_,e,T.dT,T.MP,j9 lJ 1 (oN ..) (by ac_nf) rfl⟩
end
noncomputable def Qu (t:bC):bo:=fun vs H Q _=>∃ (p aj aQ:Addr) (row:Int),vs=[.ref p,.int row,.ref aQ]/\H p=some (.ins t.fz aj [])/\Q .bH (upd H p (.ins t.fz aj (kx row aQ 0)))
noncomputable def Hk (t:bC):bo:=fun vs H Q _=>∃ p row ws pl,vs=[.ref p]/\b6 t H p row ws pl/\pl <= ws.length/\Q (.str (ws.getD pl (ah ""))) H
noncomputable def MF (t:bC):bo:=fun vs H Q _=>∃ p row ws pl,vs=[.ref p]/\b6 t H p row ws pl/\Q (.bq (decide (pl < ws.length))) H
noncomputable def sU (t:bC) (H:ag) (p:Addr) (row:Int) (ws:List Str) (pl:Nat) (R:ag->Prop):Prop:=∀ I,cc p H I->(aV H->aV I)->b6 t I p row ws pl->R I
noncomputable def afv (t:bC):bo:=fun vs H Q _=>∃ p row ws pl,vs=[.ref p,.bq true]/\b6 t H p row ws pl/\sU t H p row ws (pl + 1) (Q .bH)
noncomputable def aa5 (K:a6) (t:bC):bo:=fun vs H Q _=>∃ p row ws pl x c xs,vs=[.ref p,.ref c]/\b6 t H p row ws pl/\ws[pl]? = some x/\aK K H c (bE xs)/\x ∈ xs/\sU t H p row ws (pl + 1) (Q (.str x))
noncomputable def Zh (t:bC):bo:=fun vs H Q _=>∃ p row ws pl x lo ai v,vs=[.ref p,.int lo,.int ai]/\b6 t H p row ws pl/\ws[pl]? = some x/\Ps x lo ai=.int v/\aV H/\sU t H p row ws (pl + 1) (Q (.int v))
noncomputable def agr (t:bC):bo:=fun vs H Q _=>∃ p row ws pl,vs=[.ref p]/\b6 t H p row ws pl/\pl=ws.length/\Q .bH H
theorem Yo:cq P base T 1 t.v3 t.Ac wa (Qu t):=by
 exists T.K7.ok ZG,9
 obtain ⟨p,aj,aQ,row,rfl,aq,q⟩:=h;refine ⟨_,(db (h1 (U 0) (U 1) rfl)
   (db (h1 (U 0) (U 2) rfl)
   (aY (h1 (U 0) aR rfl)))),?_⟩
 nofun;refine ⟨_,_,_,aq,T.dT,T.PM,by decide,?_⟩;refine ⟨_,_,_,aU,T.dT,T.MP,fp (n:=999) (by decide),?_⟩;refine ⟨_,_,_,aU,T.dT,T.yn,fp (n:=999) (fp (n:=998) (by decide)),?_⟩;simp only [nz];rw [show c_ (ah "row") (V.int row) ([]:List (Str × V))=[(ah "row",V.int row)] from gX [] rfl (by ac_nf),
  show c_ (ah "told") (V.ref aQ) ([(ah "row",V.int row)]:List (Str × V))=[(ah "row",V.int row),(ah "told",V.ref aQ)] from gX [ah "row"] rfl (by ac_nf),
  show c_ (ah "place") (V.int 0) ([(ah "row",V.int row),(ah "told",V.ref aQ)]:List (Str × V))=[(ah "row",V.int row),(ah "told",V.ref aQ),(ah "place",V.int 0)] from gX [ah "row",ah "told"] rfl (by ac_nf)]
 exact q
theorem rA:cq P base T 1 t.sj t.tU ["self"] (Hk t):=by
 exists T.Rm.ok Tw,9
 obtain ⟨p,row,ws,pl,rfl,⟨az,aj,aQ,ax,aG⟩,hle,q⟩:=h;refine ⟨_,(db (dD (da hi (Gc (U 0) rfl) (fL ac rfl T.hH hT (af (Gc (U 0) rfl) aB)) (cT _)) (aY (b1 cC)) dI)
   (aY (b1 (bX ew (Gc (U 0) rfl) (Gc (U 0) rfl))))),?_⟩
 nofun;refine ec (decide ((pl:Int)=(ws.length:Int))) (fun Q a8=>?_) (fun c=>?_) (fun c=>?_)
 .nofun;refine ⟨_,xX T ax,_,GY T ax,_,rfl,_,.inl (aK.of aG),rfl,?_⟩;rw [Go];nofun;exact a8
 .nofun;have eN:pl=ws.length:=by have:=of_decide_eq_true c;omega
  rw [show ws.getD pl (ah "")=ah "" by rw [jW,aaV (by omega)];rfl] at q;exact q
 .nofun;have eN:pl < ws.length:=by have:=of_decide_eq_false c;omega
  have av:ws[pl]? = some ws[pl]:=b7 eN;rw [jW,av] at q;exact ⟨_,GY T ax,_,xX T ax,_,rfl,_,_,rfl,aK.of aG,_,cR (Wj av),q⟩
theorem Jc:cq P base T 1 t.ue t.AV ["self"] (MF t):=by
 exists T.Iy.ok Tk,9
 obtain ⟨p,row,ws,pl,rfl,⟨az,aj,aQ,ax,aG⟩,q⟩:=h;refine ⟨_,(aY (b1 (jl l2 (Gc (U 0) rfl) (fL ac rfl T.hH hT (af (Gc (U 0) rfl) aB)) (cT _)))),?_⟩;nofun;have e:decide (pl < ws.length)=decide ((pl:Int) < (ws.length:Int)):=by rw [n_];simp
 rw [e] at q;refine ⟨_,xX T ax,_,GY T ax,_,rfl,_,.inl (aK.of aG),?_⟩;rw [Go];exact ⟨_,rfl,q⟩
theorem Hb:cq P base T 1 t.p9 t.s_ qa (afv t):=by
 exists T.Dy.ok JQ,9
 obtain ⟨p,row,ws,pl,rfl,⟨az,aj,aQ,ax,aG⟩,q⟩:=h;refine ⟨_,(db (dD (k8 (iW (U 1))) (aY sq) dI)
   (aY (NZ (U 0) aR NW))),?_⟩
 nofun;refine ec false (fun Q a8=>?_) (fun ar=>nomatch ar) (fun _=>?_)
 .nofun;exact a8
 .nofun;refine ⟨_,_,_,ax,T.dT,T.yn,_,j9 lJ 2 (oN ..) (by ac_nf) rfl,_,rfl,_,_,ax,by rw [<- a' (f:=(·.1)),oN];decide,?_⟩;rw [Qq];exact q _ cc.put (fun n=>n.upd) ⟨az,aj,aQ,aU,by rw [aW (d0 aG ax (by intro z;cases z))];exact aG⟩
theorem OC:cq P base T 2 t.p7 t.rD sJ (aa5 K t):=by
 refine dp (rA T) fun lM=>dp (Hb T) fun xe=>?_;exists T.FK.ok A1,9
 obtain ⟨p,row,ws,pl,x,c,xs,rfl,R,av,ar,hm,q⟩:=h;refine ⟨_,(db (bJ (i:=2) A1.aC (gS (U 0) T.dT T.rO lM au T.sL .nil c5))
   (db (rc (e5 (U 0) T.dT T.vt xe au T.w' .nil c5 (af (jl tu (U 2) (U 1) (by with_unfolding_all rfl)) aB)))
   (aY (b1 (U 2))))),?_⟩
 have cx:pl < ws.length:=(cg.mp av).1;have a3:ws.getD pl (ah "")=x:=by rw [jW,av];rfl
 obtain ⟨_,aj,aQ,ax,aG⟩:=id R;nofun;refine ⟨_,_,ax,b6.no _ _ _ (by ac_nf),⟨p,row,ws,pl,rfl,R,by omega,?_⟩⟩;rw [a3];nofun;refine ⟨_,_,ax,b6.no _ _ _ (by ac_nf),_,.inl ar,rfl,CB xs,?_⟩;rw [HA,decide_eq_true hm];refine ⟨p,row,ws,pl,rfl,R,fun I s1 s2 s3=>?_⟩;nofun;exact q I s1 s2 s3
theorem D0:cq P base T 4 t.qC t.sW s6 (Zh t):=by
 refine dp (rA T) fun lM=>dp (Hb T) fun xe=>dp (Qb T) fun HN=>?_;exists T.Gk.ok Ar,9
 obtain ⟨p,row,ws,pl,x,lo,ai,v,rfl,R,av,aM,bh,q⟩:=h;refine ⟨_,(db (bJ (i:=3) Ar.aC (cb HN au T.Lq T.yN.bF T.IZ (af (gS (U 0) T.dT T.rO lM au T.sL .nil c5) (af (U 1) (af (U 2) aB)))))
   (db (rc (e5 (U 0) T.dT T.vt xe au T.w' .nil c5 (af (jl KG (U 3) r' (cT _)) aB)))
   (aY (b1 (U 3))))),?_⟩
 have cx:pl < ws.length:=(cg.mp av).1;have a3:ws.getD pl (ah "")=x:=by rw [jW,av];rfl
 obtain ⟨az,aj,aQ,ax,aG⟩:=id R;nofun;refine ⟨_,_,ax,b6.no _ _ _ (by ac_nf),⟨p,row,ws,pl,rfl,R,by omega,?_⟩⟩;rw [a3];nofun;refine ⟨x,lo,ai,rfl,az.2 x (c2 av),bh,?_⟩;rw [aM];nofun;refine ⟨_,_,ax,b6.no _ _ _ (by ac_nf),?_⟩;refine ⟨p,row,ws,pl,rfl,R,fun I s1 s2 s3=>?_⟩;nofun;exact q I s1 s2 s3
theorem Pb:cq P base T 2 t.rf t.rM ["self"] (agr t):=by
 refine dp (Jc T) fun Cs=>?_;exists T.Ci.ok Ch,9
 obtain ⟨p,row,ws,pl,rfl,R,aA,q⟩:=h;obtain ⟨az,aj,aQ,ax,aG⟩:=id R;refine ⟨_,(aY (dD (iW (gS (U 0) T.dT T.JL Cs au T.Ja .nil c5)) (aY sq) dI)),?_⟩;nofun;refine ec false (fun Q a8=>?_) (fun ar=>nomatch ar) (fun _=>?_)
 .nofun;refine ⟨_,_,ax,b6.no _ _ _ (by ac_nf),⟨p,row,ws,pl,rfl,R,?_⟩⟩;rw [decide_eq_false (by omega)];exact ⟨_,rfl,a8⟩
 .nofun;exact q
noncomputable abbrev eg (ws:List Str) (k:Nat):Str:=ws.getD k (ah "")
theorem WI {ws:List Str} (h:∀ x ∈ ws,x.length <= 1000) (k:Nat):(eg ws k).length <= 1000:=by
 unfold eg;rw [jW];cases e:ws[k]? with
 | none=>exact c1 (show (ah "").length <= 0 by ac_nf) (fv _)
 | some x=>exact h x (c2 e)
theorem xy {ws:List Str} {k:Nat} (h:eg ws k ≠ ah ""):k < ws.length:=by
 refine Classical.byContradiction fun z=>h ?_
 unfold eg;rw [jW,aaV (by omega)];rfl
theorem QD (w:Str) (lo ai:Int):(∃ v,Ps w lo ai=.int v/\lo <= v/\v <= ai/\w ≠ ah "")\/Ps w lo ai=.bH:=by
 unfold Ps;split
 .rename_i h;rw [iP] at h;refine .inl ⟨val w,rfl,?_,?_,fun z=>?_⟩
  .have:=h.2;simp at this;omega
  .have:=h.2;simp at this;omega
  .have ae:=h.1;rw [z] at ae;exact absurd ae (by ac_nf)
 .exact .inr rfl
theorem qA {i:Int} (h:i.natAbs < 100000):i.natAbs.log2 < 1920:=by
 by_cases h0:i.natAbs=0
 .rw [h0];decide
 .exact (Sg h0).mpr (afR h (by decide))
noncomputable def gI (t:bC) (i:Int) (k:Nat) (p:Addr) (H:ag) (E:cD):Prop:=∀ aj I,cc p H I->(aV H->aV I)->I aj=some (.ext (e4 aj [(ah "row",.int i),(ah "word",.int k)]))->E (.ref t.fE) (some aj) I
theorem gI.step {t:bC} {i:Int} {k:Nat} {p:Addr} {H H1:ag} {E:cD} (h:gI t i k p H E) (s:cc p H H1) (n:aV H->aV H1):gI t i k p H1 E:=fun aj I s' g8 e=>h aj I (s.trans s') (fun z=>g8 (n z)) e
theorem Wa {w:World} {K:a6} {ao:Str->Option Value} {t:bC} {H:ag} {p:Addr} {row:Int} (T:Txt w K ao t) {aj aQ:Addr} {pl:Int} (e:H p=some (.ins t.fz aj (kx row aQ pl))):ia K H p (ah "row") (.int row):=
 ⟨_,aj,_,e,T.dT,T.PM,j9 lJ 0 (oN ..) (by ac_nf) rfl⟩
noncomputable def PW (t:bC):bo:=fun vs H Q _=>∃ x i j,vs=[.ref x,.int i,.int j]/\i.natAbs.log2 < 1920/\j.natAbs.log2 < 1920/\H x=some (.ext (dB x t.fE none)) /\
 ∀ aj,H aj=none->aj ≠ x->Q .bH (upd (upd H x (.ext (dB x t.fE (some aj)))) aj (.ext (e4 aj [(ah "row",.int i),(ah "word",.int j)])))
noncomputable def Dp (t:bC):bo:=fun vs H Q E=>∃ p row ws pl,vs=[.ref p]/\b6 t H p row ws pl/\(0 <= row/\row <= 10000)/\pl <= 10000/\gI t row pl p H E
noncomputable def nw (t:bC):bo:=fun vs H Q E=>∃ p row ws pl g,vs=[.ref p,.bq g]/\b6 t H p row ws pl/\(0 <= row/\row <= 10000)/\pl <= 10000/\(g=true->sU t H p row ws (pl + 1) (Q .bH))/\(g=false->gI t row pl p H E)
noncomputable def E0 (K:a6) (t:bC):bo:=fun vs H Q E=>∃ p row ws pl c xs,vs=[.ref p,.ref c]/\b6 t H p row ws pl/\(0 <= row/\row <= 10000)/\pl <= ws.length/\aK K H c (bE xs) /\
 (eg ws pl ∈ xs->sU t H p row ws (pl + 1) (Q (.str (eg ws pl))))/\(eg ws pl ∉ xs->gI t row pl p H E)
noncomputable def D4 (t:bC):bo:=fun vs H Q E=>∃ p row ws pl lo ai,vs=[.ref p,.int lo,.int ai]/\b6 t H p row ws pl/\(0 <= row/\row <= 10000)/\pl <= ws.length/\aV H /\
 (∀ v,Ps (eg ws pl) lo ai=.int v->sU t H p row ws (pl + 1) (Q (.int v)))/\(Ps (eg ws pl) lo ai=.bH->gI t row pl p H E)
noncomputable def CM (t:bC):bo:=fun vs H Q E=>∃ p row ws pl,vs=[.ref p]/\b6 t H p row ws pl/\(0 <= row/\row <= 10000)/\(¬ pl < ws.length->Q .bH H)/\(pl < ws.length->gI t row pl p H E)
theorem Z5:cq P base T 1 t.xb t.zi xa (PW t):=by
 exists T.N2.ok acj,9
 obtain ⟨x,i,j,rfl,ai,aZ,av,q⟩:=h;refine ⟨_,(db (rc (On rfl T.sh T.uk (af (U 0) (af (tF (mu (ya (U 1) (mu (ya (U 2) u_)))) (by rw [sizeLine_eq];decide)) aB))))
   (db (w2 (U 0) (U 1) rfl)
   (aY (x6 (U 0) (U 2) rfl)))),?_⟩
 nofun;refine ⟨ai,aZ,fun y=>⟨_,_,av,T.A5,?_⟩⟩;refine ⟨_,av,T.A5,T.abq,fun aj hd bR=>?_⟩;refine ⟨_,aj,by rw [aW (c6 bR),aU],_,aU,T.A5,T.X8,show 1 < 1000 by decide,?_⟩;rw [nz,show c_ (ah "word") (V.int j) ([(ah "row",V.int i)]:List (Str × V))=[(ah "row",V.int i),(ah "word",V.int j)] from gX [ah "row"] rfl (by ac_nf)];exact q aj hd bR
theorem Py (T:Txt w K ao t):bg P w K ao base (di P w) 3 t.se t.vV ["self"] (Dp t):=by
 have agq:bg P w K ao base cH 1 t.xb t.zi xa (PW t):=Z5 T;exists T.Lw.iB abN,9
 obtain ⟨p,row,ws,pl,rfl,⟨az,aj,aQ,ax,aG⟩,fA,dn,q⟩:=h;refine ⟨_,(aY (u9 (No T.K1 agq au rfl T.VL T.SG (af (Gc (U 0) rfl) (af (Gc (U 0) rfl) aB))) vk)),?_⟩;nofun;refine ⟨_,Wa T ax,_,xX T ax,by decide,fun a aJ=>⟨a,row,pl,rfl,qA (by omega),qA (by omega),aU,fun d hd bR=>?_⟩⟩;have nK:H d=none:=by rw [aW bR] at hd;exact hd
 refine ⟨rfl,t.fE,some d,by rw [aW (c6 bR),aU],T.A5,q d _ (fun b u _ e=>?_) (fun bh=>(((bh.upd).upd).upd).upd) (by rw [aW bR,aU])⟩;rw [aW (cy e aJ),aW (cy e nK),aW (cy e aJ),aW (cy e aJ)];exact e
theorem KB (T:Txt w K ao t):bg P w K ao base (di P w) 4 t.p9 t.s_ qa (nw t):=by
 have Fh:bg P w K ao base (di P w) 3 t.se t.vV ["self"] (Dp t):=Py T;exists T.Dy.iB JQ,9
 obtain ⟨p,row,ws,pl,g,rfl,R,fA,dn,bw,b4⟩:=h;obtain ⟨az,aj,aQ,ax,aG⟩:=id R;refine ⟨_,(db (dD (k8 (iW (U 1))) (aY (rc (gS (U 0) T.dT T.OV Fh au T.M5 .nil gJ))) dI)
   (aY (NZ (U 0) aR NW))),?_⟩
 nofun;refine ec (!g) (fun Q a8=>?_) (fun c=>?_) (fun c=>?_)
 .nofun;exact a8
 .nofun;have a3:g=false:=by simpa using c
  exact ⟨_,_,ax,b6.no _ _ _ (by ac_nf),⟨p,row,ws,pl,rfl,R,fA,dn,b4 a3⟩⟩
 .nofun;have a3:g=true:=by simpa using c
  refine ⟨_,_,_,ax,T.dT,T.yn,_,j9 lJ 2 (oN ..) (by ac_nf) rfl,_,rfl,_,_,ax,by rw [<- a' (f:=(·.1)),oN];decide,?_⟩;rw [Qq];exact bw a3 _ cc.put (fun n=>n.upd) ⟨az,aj,aQ,aU,by rw [aW (d0 aG ax (by intro z;cases z))];exact aG⟩
theorem QX (T:Txt w K ao t):bg P w K ao base (di P w) 5 t.p7 t.rD sJ (E0 K t):=by
 have lM:bg P w K ao base cH 4 t.sj t.tU ["self"] (Hk t):=(rA T).mono (by decide);have Fn:bg P w K ao base (di P w) 4 t.p9 t.s_ qa (nw t):=KB T;exists T.FK.iB A1,9
 obtain ⟨p,row,ws,pl,c,xs,rfl,R,fA,dn,ar,bw,b4⟩:=h;refine ⟨_,(db (bJ (i:=2) A1.aC (gS (U 0) T.dT T.rO lM au T.sL .nil c5))
   (db (rc (e5 (U 0) T.dT T.vt Fn au T.w' .nil gJ (af (jl tu (U 2) (U 1) (by with_unfolding_all rfl)) aB)))
   (aY (b1 (U 2))))),?_⟩
 obtain ⟨az,aj,aQ,ax,aG⟩:=id R;nofun;refine ⟨_,_,ax,b6.no _ _ _ (by ac_nf),⟨p,row,ws,pl,rfl,R,dn,?_⟩⟩;nofun;refine ⟨_,_,ax,b6.no _ _ _ (by ac_nf),_,.inl ar,rfl,CB xs,?_⟩;rw [HA];refine ⟨p,row,ws,pl,_,rfl,R,fA,by omega,fun g I s1 s2 s3=>?_,fun g=>b4 (of_decide_eq_false g)⟩;nofun;exact bw (of_decide_eq_true g) I s1 s2 s3
theorem IK (T:Txt w K ao t):bg P w K ao base (di P w) 5 t.qC t.sW s6 (D4 t):=by
 have lM:bg P w K ao base cH 4 t.sj t.tU ["self"] (Hk t):=(rA T).mono (by decide);have Fn:bg P w K ao base (di P w) 4 t.p9 t.s_ qa (nw t):=KB T;have HN:bg P w K ao base cH 4 t.Bg t.Bn x7 JY:=(Qb T).mono (by decide);exists T.Gk.iB Ar,9
 obtain ⟨p,row,ws,pl,lo,ai,rfl,R,fA,dn,bh,bw,b4⟩:=h;refine ⟨_,(db (bJ (i:=3) Ar.aC (cb HN au T.Lq T.yN.bF T.IZ (af (gS (U 0) T.dT T.rO lM au T.sL .nil c5) (af (U 1) (af (U 2) aB)))))
   (db (rc (e5 (U 0) T.dT T.vt Fn au T.w' .nil gJ (af (jl KG (U 3) r' (cT _)) aB)))
   (aY (b1 (U 3))))),?_⟩
 obtain ⟨az,aj,aQ,ax,aG⟩:=id R;nofun;refine ⟨_,_,ax,b6.no _ _ _ (by ac_nf),⟨p,row,ws,pl,rfl,R,dn,?_⟩⟩;nofun;refine ⟨_,lo,ai,rfl,WI az.2 pl,bh,?_⟩;rcases QD (eg ws pl) lo ai with ⟨v,aM,_⟩ | aM
 .rw [aM];nofun;refine ⟨_,_,ax,b6.no _ _ _ (by ac_nf),?_⟩;refine ⟨p,row,ws,pl,_,rfl,R,fA,by omega,fun g I s1 s2 s3=>?_,fun g=>by cases g⟩;nofun;exact bw v aM I s1 s2 s3
 .rw [aM];nofun;refine ⟨_,_,ax,b6.no _ _ _ (by ac_nf),?_⟩;exact ⟨p,row,ws,pl,_,rfl,R,fA,by omega,(fun g=>by cases g),fun g=>b4 aM⟩
theorem Jp (T:Txt w K ao t):bg P w K ao base (di P w) 4 t.rf t.rM ["self"] (CM t):=by
 have Cs:bg P w K ao base cH 3 t.ue t.AV ["self"] (MF t):=(Jc T).mono (by decide);have Fh:bg P w K ao base (di P w) 3 t.se t.vV ["self"] (Dp t):=Py T;exists T.Ci.iB Ch,9
 obtain ⟨p,row,ws,pl,rfl,R,fA,bw,b4⟩:=h;obtain ⟨az,aj,aQ,ax,aG⟩:=id R;refine ⟨_,(aY (dD (iW (gS (U 0) T.dT T.JL Cs au T.Ja .nil c5)) (aY (rc (gS (U 0) T.dT T.OV Fh au T.M5 .nil gJ))) dI)),?_⟩;nofun;refine ec (decide (pl < ws.length)) (fun Q a8=>?_) (fun c=>?_) (fun c=>?_)
 .nofun;refine ⟨_,_,ax,b6.no _ _ _ (by ac_nf),⟨p,row,ws,pl,rfl,R,?_⟩⟩;exact ⟨_,rfl,a8⟩
 .nofun;have aA:=of_decide_eq_true c;exact ⟨_,_,ax,b6.no _ _ _ (by ac_nf),⟨p,row,ws,pl,rfl,R,fA,by omega,b4 aA⟩⟩
 .nofun;exact bw (of_decide_eq_false c)
noncomputable def wX {α:Type} (m:Except Nat α) (ok:α->Prop) (lN:Nat->Prop):Prop:=match m with | .ok a=>ok a | .error k=>lN k
noncomputable def jz (x:Str) (lo ai:Int):Option Int:=if i6 x && !(decide (val x < lo) || decide (ai < val x)) then some (val x) else none
theorem vu (x:Str) (lo ai:Int):Ps x lo ai=(jz x lo ai).elim .bH .int:=by
 unfold Ps jz;split <;> rfl
theorem A_ {x:Str} {lo ai v:Int} (h:Ps x lo ai=.int v):jz x lo ai=some v:=by
 rw [vu] at h;cases e:jz x lo ai with
 | none=>rw [e] at h;cases h
 | some u=>rw [e] at h;injection h with h;rw [h]
theorem Fs {x:Str} {lo ai:Int} (h:Ps x lo ai=.bH):jz x lo ai=none:=by
 rw [vu] at h;cases e:jz x lo ai with
 | none=>rfl
 | some u=>rw [e] at h;cases h
theorem yk {ws:List Str} {k:Nat} {lo ai v:Int} (h:Ps (eg ws k) lo ai=.int v):k + 1 <= ws.length/\lo <= v/\v <= ai:=by
 rcases QD (eg ws k) lo ai with ⟨u,bQ,ae,ak,a_⟩ | aF
 .rw [bQ] at h;injection h with h;subst h;exact ⟨xy a_,ae,ak⟩
 .rw [aF] at h;cases h
noncomputable def B1 {α:Type} (m:Except (Nat × Nat) α) (ok:α->Prop) (lN:Nat->Nat->Prop):Prop:=match m with | .ok a=>ok a | .error e=>lN e.1 e.2
theorem iL {α:Type} {l:List α} {a x:α} {i:Nat} (h:(l ++ [a])[i]? = some x):(i < l.length/\l[i]? = some x)\/(i=l.length/\x=a):=by
 by_cases ai:i < l.length
 .rw [v7 ai] at h;exact .inl ⟨ai,h⟩
 .rw [xo (by omega)] at h;have h0:i - l.length=0:=by
   cases cN:i - l.length with
   | zero=>rfl
   | succ m=>rw [cN] at h;simp at h
  rw [h0] at h;exact .inr ⟨by omega,(by simpa using h:a=x).symm⟩
noncomputable def DE (t:bC) (i k:Nat) (H:ag) (E:cD):Prop:=∀ aj I,aI H I->aV I->I aj=some (.ext (e4 aj [(ah "row",.int i),(ah "word",.int k)]))->E (.ref t.fE) (some aj) I
theorem cS {α β:Type} {f:α->β} {l:List α} {i:Nat} {y:β} (h:(l.map f)[i]? = some y):∃ x,l[i]? = some x/\y=f x:=by
 rw [eA] at h;cases e:l[i]? with
 | none=>rw [e] at h;cases h
 | some x=>rw [e] at h;exact ⟨x,rfl,(eS h).symm⟩
noncomputable def R1 (t:bC) (eO H:ag) (p:Addr) (rows:List (List Str)):Prop:=∃ qs:List Addr,H p=some (.lst (qs.map V.ref))/\eO p=none/\qs.length=rows.length/\∀ (i:Nat) (q:Addr) (r:List Str),qs[i]? = some q->rows[i]? = some r->b6 t H q i r 0/\eO q=none
noncomputable def EK (t:bC):bo:=fun vs H Q _=>∃ x,vs=[.str x]/\x.length <= 20000/\(∀ r ∈ jc x,r.length <= 1000/\∀ y ∈ r,y.length <= 1000)/\aV H/\∀ p I,aI H I->aV I->R1 t H I p (jc x)->Q (.ref p) I
theorem RG:cq P base T 3 t.tQ t.uD ["text"] (EK t):=by
 have acH:bg P w K ao base cH 2 t.sw t.An ["text"] Iw:=(Z6 T).mono (by decide);have ad1:bg P w K ao base cH 1 t.v3 t.Ac wa (Qu t):=Yo T;exists T.yE.ok ae0,9
 obtain ⟨x,rfl,az,fA,bh,q⟩:=h;refine ⟨_,(aY (b1 (l' rfl (tY rfl T.uO (af (cb acH au T.adg T.sB.bF T.Yk (af (U 0) aB)) aB)) (iE (sc:=bz Hu) rfl (by ac_nf)) (N:=["row","told"]) (sel:=[none,none]) (iS (M:=["text"]) (by ac_nf)) (gN.of (fun _ _ _ _=>(kf (K:=K) (n:=2) rfl rfl (eU (b' (i:=0) (gb (N:=["row","told"]) (by ac_nf) rfl)) (eU (b' (i:=1) (gb (N:=["row","told"]) (by ac_nf) rfl)) kc)))) (fun _ _ _ _=>⟨_,kP,by walk_at "B"⟩) (fun _ _ _ _=>⟨_,(sd T.af_ ad1 au rfl T.Wk T.abx .nil c5 (af (U 0) (af (U 1) aB))),by walk_at "B"⟩))))),?_⟩;nofun;refine ⟨x,rfl,az,bh,fun p H1 iO ei ⟨ps,aq,iz,i',dn,af9⟩=>?_⟩;nofun;refine ⟨⟨_,aK.of aq⟩,?_⟩;have hlen:ps.length <= sizeLine:=by
  rw [dn];unfold jc;rw [a'];have:=CY (x:=x) (y:=nl) (by rw [tc];exact b2 _);exact c1 (show _ <= 40000 by omega) (by decide)
 refine dm.enum (xs:=ps.map V.ref) (fun i ys ay=>aI H1 ay/\aV ay/\∃ qs:List Addr,ys=qs.map V.ref/\qs.length=i/\∀ (j:Nat) (q:Addr) (r:List Str),qs[j]? = some q->(jc x)[j]? = some r->b6 t ay q j r 0/\H1 q=none)
  (by rw [a'];exact hlen) ⟨aI.refl H1,ei,[],rfl,rfl,fun j q r h _=>by simp at h⟩ ?_ ?_ ?_
 .rintro i ys ay ai aX;ac_rfl
  obtain ⟨s2,cP,qs,rfl,aH,_⟩:=aX;subst a5;exact ⟨aK.of (s2 _ _ aq),by rw [a'];omega⟩
 .rintro i v ys ay dz aM ⟨s2,cP,qs,rfl,aH,al⟩ dV N bb;rw [eA] at aM;cases y0:ps[i]? with
  | none=>rw [y0] at aM;cases aM
  | some pi=>
   rw [y0] at aM;have e:=(eS aM).symm;subst e;refine uj ?_;nofun;refine ⟨Sub.Ds,fun a aj aJ hd bR=>?_⟩;refine ⟨a,aj,pi,i,rfl,aU,rfl,?_⟩;rw [nz];have s3:aI ay (upd (upd (upd ay dz (.tup [.int i,.ref pi])) aj (.own a)) a (.ins t.fz aj (kx i pi 0))):=by
    have s':aI ay (upd ay dz (.tup [.int i,.ref pi])):=bk dV;exact ((aI.trans s' (bk hd)).g9 (s'.free aJ))
   obtain ⟨r,au⟩:∃ r,(jc x)[i]? = some r:=⟨(jc x)[i]'(by rw [<- dn];exact (cg.mp y0).1),b7 _⟩;have VB:ay a=none:=(bk dV).free aJ;refine bb _ _ ⟨s2.trans s3,((cP.upd).upd).upd,qs ++ [a],by rw [eM];rfl,by rw [dP,aH];rfl,fun j d2 fe ae ak=>?_⟩;by_cases aZ:j < qs.length
   .rw [v7 aZ] at ae;obtain ⟨ef,dy⟩:=al j d2 fe ae ak;exact ⟨ef.same s3,dy⟩
   .rw [xo (by omega)] at ae;have wy:j - qs.length=0:=by
     cases cN:j - qs.length with
     | zero=>rfl
     | succ n=>rw [cN] at ae;simp at ae
    rw [wy] at ae;have bM:a=d2:=by simpa using ae
    subst bM;have f7:j=i:=by omega
    subst f7;rw [au] at ak;cases ak;refine ⟨⟨fA r (c2 au),aj,pi,aU,?_⟩,s2.free VB⟩;exact s3 _ _ (s2 _ _ (af9 j pi r y0 au).1)
 .rintro ys ay ⟨s2,cP,qs,rfl,aH,al⟩ dz dV;refine q dz _ ((iO.trans s2).g9 ((iO.trans s2).free dV)) (cP.upd) ⟨qs,aU,(iO.trans s2).free dV,by rw [aH,a',dn],fun i d2 r ae ak=>?_⟩;obtain ⟨ef,dy⟩:=al i d2 r ae ak;exact ⟨ef.same (bk dV),iO.free dy⟩
noncomputable def F5 (q:Addr) (H:ag) (R:ag->Prop):Prop:=∀ I,cc q H I->aV I->R I
noncomputable def Ox (t:bC):bo:=fun vs H Q _=>∃ q row n,vs=[.ref q]/\b6 t H q row [ah "ring",num n] 0/\(2 <= n/\n <= 99)/\aV H/\F5 q H (Q (.int n))
noncomputable def l9 (t:bC) (H:ag) (wl:Addr) (ds:List aD):Prop:=∃ as:List Addr,H wl=some (.lst (as.map V.ref))/\as.length=ds.length/\∀ (i:Nat) (a:Addr) (d:aD),as[i]? = some a->ds[i]? = some d->et t H a d
noncomputable def afo (t:bC):bo:=fun vs H Q _=>∃ q row ws pl wl ds x,vs=[.ref q,.ref wl]/\b6 t H q row ws pl/\ws[pl]? = some x/\made x mZ 8=true/\l9 t H wl ds/\ds.length <= 12/\(∀ d ∈ ds,d.name ≠ x)/\aV H /\
 ∀ I,cc q H I->aV I->b6 t I q row ws (pl + 1)->Q (.str x) I
noncomputable def V2 (t:bC):bo:=fun vs H Q _=>∃ q row ws pl n st e2,vs=[.ref q,.int n,.int st]/\b6 t H q row ws pl/\ws[pl]? = some (num e2)/\(0 <= st/\st < n)/\(0 <= e2/\e2 < n)/\st ≠ e2/\n <= 99/\aV H /\
 ∀ I,cc q H I->aV I->b6 t I q row ws (pl + 1)->Q (.int e2) I
noncomputable def ags (t:bC):bo:=fun vs H Q _=>∃ d:aD,vs=[.str (dE d.k),.str d.name,.int d.start,.int d.fin,.int d.off,.int d.near,.int d.least]/\d.k < 3/\∀ x I,aI H I->(aV H->aV I)->et t I x d->H x=none->Q (.ref x) I
noncomputable def Kl (t:bC):bo:=fun vs H Q _=>∃ q row n wl ds d,vs=[.ref q,.int n,.ref wl]/\b6 t H q row (l4 d) 0/\kj n d/\(2 <= n/\n <= 99)/\l9 t H wl ds/\ds.length <= 12/\(∀ e ∈ ds,e.name ≠ d.name)/\aV H /\
 ∀ x I,cc q H I->aV I->et t I x d->H x=none->Q (.ref x) I
theorem l9.i5 {t:bC} {H I:ag} {q wl:Addr} {ds:List aD} {row:Int} {ws:List Str} {pl:Nat} (h:l9 t H wl ds) (s:cc q H I) (r:b6 t H q row ws pl):l9 t I wl ds:=by
 obtain ⟨as,ax,aG,al⟩:=h;obtain ⟨az,aj,aQ,bM,f7⟩:=r;refine ⟨as,s _ _ (d0 ax bM (by intro z;cases z)) ax,aG,fun i a d ae ak=>?_⟩;obtain ⟨aE,fs,j1⟩:=al i a d ae ak;refine ⟨aE,fs,s _ _ (fun z=>?_) j1⟩;subst z;rw [j1] at bM;have jH:=eS bM;injection jH with _ _ kA;have aht:(7:Nat)=3:=congrArg md kA;omega
theorem l9.same {t:bC} {H I:ag} {wl:Addr} {ds:List aD} (h:l9 t H wl ds) (s:aI H I):l9 t I wl ds:=by
 obtain ⟨as,ax,aG,al⟩:=h;exact ⟨as,s _ _ ax,aG,fun i a d ae ak=>(al i a d ae ak).same s⟩
theorem SJ:cq P base T 5 t.xC t.zD ["reader"] (Ox t):=by
 refine dp (OC T) fun Gh=>dp (D0 T) fun oF=>dp (Pb T) fun Dc=>?_;exists T.DF.ok Q5,9
 obtain ⟨q,row,n,rfl,R,aF,bh,cF⟩:=h;refine ⟨_,(db (rc (e5 (U 0) T.dT T.w0 Gh au T.u6 .nil c5 (af (fH (af cC aB)) aB)))
   (db (bJ (i:=1) Q5.aC (e5 (U 0) T.dT T.lc oF au T.nE .nil c5 (af (jE rfl T.ZA T.RQ) (af (jE rfl T.acs T.SQ) aB))))
   (db (rc (gS (U 0) T.dT T.y3 Dc au T.y_ .nil c5))
   (aY (b1 (U 1)))))),?_⟩
 obtain ⟨_,aj,aQ,ax,aG⟩:=id R;nofun;refine ⟨_,_,ax,b6.no _ _ _ (by ac_nf),by decide,fun p aq=>?_⟩;have s0:aI H (upd H p (.lst [V.str (ah "ring")])):=bk aq;refine ⟨q,row,_,0,ah "ring",p,[ah "ring"],rfl,R.same s0,rfl,aK.of aU,by simp,fun H1 s1 c4 j_=>?_⟩;obtain ⟨_,CI,IY,f1,f2⟩:=id j_;nofun;refine ⟨_,_,f1,b6.no _ _ _ (by ac_nf),?_⟩;have ei:=c4 bh.upd;refine ⟨q,row,_,1,num n,2,99,n,rfl,j_,rfl,qw (by omega) (by omega) aF.1 aF.2,ei,fun ay s2 cP fF=>?_⟩;obtain ⟨_,Ly,PK,g1,g2⟩:=id fF;nofun;refine ⟨_,_,g1,b6.no _ _ _ (by ac_nf),?_⟩;refine ⟨q,row,_,2,rfl,fF,rfl,?_⟩;nofun;exact cF ay (((cc.of s0).trans s1).trans s2) (cP ei)
theorem acO:cq P base T 3 t.Eu t.HW Hr (afo t):=by
 refine dp (rA T) fun lM=>dp (Hb T) fun xe=>dp (Wr T) fun abw=>?_;exists T.Gr.ok Rt,9
 obtain ⟨q,row,ws,pl,wl,ds,x,rfl,R,av,hm,ka,gP,Gf,bh,cF⟩:=h;refine ⟨_,(db (bJ (i:=2) Rt.aC (gS (U 0) T.dT T.rO lM au T.sL .nil c5))
   (db (rc (e5 (U 0) T.dT T.vt xe au T.w' .nil c5 (af (Nc (cb abw au T.RN T.GF.bF T.abA (af (U 2) aB)) (xT (jl ID (U 2) (l' rfl (fk (U 1)) (iE (sc:=bz Ee) rfl (by ac_nf)) (N:=["way"]) (sel:=[none]) (iS (M:=["reader","ways","name"]) (by ac_nf)) (gN.of (fun _ _ _ _=>(b' (i:=0) (gb (N:=["way"]) (by ac_nf) rfl))) (fun _ _ _ _=>⟨_,kP,by walk_at "B"⟩) (fun _ _ _ _=>⟨_,(Gc (U 0) rfl),by walk_at "B"⟩))) (by with_unfolding_all rfl)))) aB)))
   (aY (b1 (U 2))))),?_⟩
 have cx:pl < ws.length:=(cg.mp av).1;have a3:ws.getD pl (ah "")=x:=by rw [jW,av];rfl
 obtain ⟨az,aj,aQ,ax,aG⟩:=id R;nofun;refine ⟨_,_,ax,b6.no _ _ _ (by ac_nf),⟨q,row,ws,pl,rfl,R,by omega,?_⟩⟩;rw [a3];nofun;refine ⟨_,_,ax,b6.no _ _ _ (by ac_nf),?_⟩;refine ⟨x,rfl,az.2 x (c2 av),bh,?_⟩;rw [hm];nofun;obtain ⟨as,cZ,d1,al⟩:=ka;refine ⟨⟨_,aK.of cZ⟩,?_⟩;have hle:(as.map V.ref).length <= sizeLine:=by rw [a',d1];exact c1 gP (by decide)
 refine dm.xI (xs:=as.map V.ref) (zs:=ds.map fun d=>V.str d.name) (aK.of cZ) hle (by rw [a',a',d1]) (fun i v z N aM fK bb=>?_) (fun p aq=>?_)
 .obtain ⟨a,aJ,rfl⟩:=cS aM;obtain ⟨d,hd,rfl⟩:=cS fK;nofun;exact ⟨Sub.name,_,(al i a d aJ hd).BB T,bb⟩
 .nofun;have eZ:(ds.map fun d=>V.str d.name)=bE (ds.map (·.name)):=by unfold bE;rw [vI];rfl
  rw [eZ];refine ⟨_,.inl (aK.of aU),rfl,CB _,?_⟩;rw [HA,decide_eq_false (fun z=>by
   obtain ⟨d,hd,e⟩:=dX.mp z;exact Gf d hd e)]
  have s0:aI H (upd H p (.lst (bE (ds.map (·.name))))):=bk aq;exact ⟨q,row,ws,pl,rfl,R.same s0,fun I s1 c4 j_=>cF I ((cc.of s0).trans s1) (c4 bh.upd) j_⟩
theorem aa8:cq P base T 5 t.GU t.Tl yU (V2 t):=by
 refine dp (rA T) fun lM=>dp (D0 T) fun oF=>?_;exists T.HK.ok abr,9
 obtain ⟨q,row,ws,pl,n,st,e2,rfl,R,av,gd,F1,bR,aF,bh,cF⟩:=h;refine ⟨_,(db (dD (da hi (gS (U 0) T.dT T.rO lM au T.sL .nil c5) (rq tj rfl T.r3 tp (af (U 2) aB)) (cT _)) (aY sq) dI)
   (aY (b1 (e5 (U 0) T.dT T.lc oF au T.nE .nil c5 (af aR (af (Db gW (U 1) aR) aB)))))),?_⟩
 have cx:pl < ws.length:=(cg.mp av).1;have a3:ws.getD pl (ah "")=num e2:=by rw [jW,av];rfl
 obtain ⟨az,aj,aQ,ax,aG⟩:=id R;nofun;refine ec false (fun Q a8=>?_) (fun ar=>nomatch ar) (fun _=>?_)
 .nofun;refine ⟨_,_,ax,b6.no _ _ _ (by ac_nf),⟨q,row,ws,pl,rfl,R,by omega,?_⟩⟩;rw [a3];nofun;refine ⟨E8 (by omega),?_⟩;rw [decide_eq_false (fun z=>bR (Yr (by omega) (by omega) (by omega) (by omega) z).symm)];exact a8
 .nofun;refine ⟨_,_,ax,b6.no _ _ _ (by ac_nf),⟨q,row,ws,pl,num e2,0,n - 1,e2,rfl,R,av,qw (by omega) (by omega) (by omega) (by omega),bh,fun H1 s1 c4 j_=>?_⟩⟩;exact cF H1 s1 (c4 bh) j_
theorem ae_ {t:bC} {H:ag} {x aj:Addr} {d:aD} (av:H x=none) (hd:H aj=none) (aE:d.k < 3) :
  aI H (upd (upd (upd H aj (.own x)) x (.ins (t.fx d.k) aj [])) x (.ins (t.fx d.k) aj (kO d)))/\(aV H->aV (upd (upd (upd H aj (.own x)) x (.ins (t.fx d.k) aj [])) x (.ins (t.fx d.k) aj (kO d)))) /\
   et t (upd (upd (upd H aj (.own x)) x (.ins (t.fx d.k) aj [])) x (.ins (t.fx d.k) aj (kO d))) x d:=
 ⟨(((aI.refl H).g9 hd).g9 av).g9 av,fun n=>((n.upd).upd).upd,aE,aj,aU⟩
theorem aeZ:cq P base T 4 t.EU t.E5 Bq (ags t):=by
 have aap:bg P w K ao base cH 2 t.uZ t.Be ji (rQ t 0):=VJ T;have agh:bg P w K ao base cH 2 t.t7 t.yo ji (rQ t 1):=ac9 T;have S0:bg P w K ao base cH 2 t.wY t.xS ji (rQ t 2):=U2 T;exists T.FY.ok aeT,9
 obtain ⟨d,rfl,aE,q⟩:=h;refine ⟨_,(db (dD (da hi (U 0) cC (cT _)) (aY (b1 (sd T.adq aap au rfl T.ZK T.Wb .nil c5 (af (U 1) (af (U 2) (af (U 3) (af (U 4) (af (U 5) (af (U 6) aB))))))))) dI)
   (db (dD (da hi (U 0) cC (cT _)) (aY (b1 (sd T.agc agh au rfl T.XX T.adI .nil c5 (af (U 1) (af (U 2) (af (U 3) (af (U 4) (af (U 5) (af (U 6) aB))))))))) dI)
   (aY (b1 (sd T.abI S0 au rfl T.adJ T.Vz .nil c5 (af (U 1) (af (U 2) (af (U 3) (af (U 4) (af (U 5) (af (U 6) aB))))))))))),?_⟩
 have fin:∀ (x aj:Addr),H x=none->H aj=none->Q (.ref x) (upd (upd (upd H aj (.own x)) x (.ins (t.fx d.k) aj [])) x (.ins (t.fx d.k) aj (kO d))):=fun x aj av hd=>by
  obtain ⟨e0,eW,kE⟩:=ae_ (t:=t) (d:=d) av hd aE;exact q x _ e0 eW kE av
 obtain ⟨k,name,start,e2,off,near,least⟩:=d
 match k,aE with
 | 0,_=>
  (nofun; repeat (dsimp only [dE];nofun));refine ec true (fun Q a8=>?_) (fun _=>?_) (fun ar=>nomatch ar)
  .nofun;exact a8
  .nofun;exact fun x aj av hd bR=>⟨x,aj,⟨0,name,start,e2,off,near,least⟩,rfl,rfl,aU,rfl,fin x aj av hd⟩
 | 1,_=>
  (nofun; repeat (dsimp only [dE];nofun));refine ec false (fun Q a8=>?_) (fun ar=>nomatch ar) (fun _=>?_)
  .nofun;rw [decide_eq_false (by ac_nf)];exact a8
  .nofun;refine ec true (fun Q a8=>?_) (fun _=>?_) (fun ar=>nomatch ar)
   .nofun;exact a8
   .nofun;exact fun x aj av hd bR=>⟨x,aj,⟨1,name,start,e2,off,near,least⟩,rfl,rfl,aU,rfl,fin x aj av hd⟩
 | 2,_=>
  (nofun; repeat (dsimp only [dE];nofun));refine ec false (fun Q a8=>?_) (fun ar=>nomatch ar) (fun _=>?_)
  .nofun;rw [decide_eq_false (by ac_nf)];exact a8
  .nofun;refine ec false (fun Q a8=>?_) (fun ar=>nomatch ar) (fun _=>?_)
   .nofun;rw [decide_eq_false (by ac_nf)];exact a8
   .nofun;exact fun x aj av hd bR=>⟨x,aj,⟨2,name,start,e2,off,near,least⟩,rfl,rfl,aU,rfl,fin x aj av hd⟩
theorem Yj:cq P base T 6 t.A8 t.Ak zp (Kl t):=by
 refine dp (OC T) fun Gh=>dp (D0 T) fun oF=>dp (Pb T) fun Dc=>dp (acO T) fun ZQ=>dp (aa8 T) fun VX=>dp (aeZ T) fun ab0=>?_;exists T.F3.ok pb,9
 obtain ⟨q,row,n,wl,ds,d,rfl,R,hd,aF,ka,gP,Gf,bh,cF⟩:=h;refine ⟨_,(db (bJ (i:=3) pb.aC (e5 (U 0) T.dT T.w0 Gh au T.u6 .nil c5 (af (fH (af cC (af cC (af cC aB)))) aB)))
   (db (bJ (i:=4) pb.aC (cb ZQ au T.aay T.Gr.bF T.At (af (U 0) (af (U 2) aB))))
   (db (bJ (i:=5) pb.aC (e5 (U 0) T.dT T.lc oF au T.nE .nil c5 (af aR (af (Db gW (U 1) aR) aB))))
   (db (bJ (i:=6) pb.aC (cb VX au T.abD T.HK.bF T.W8 (af (U 0) (af (U 1) (af (U 5) aB)))))
   (db (bJ (i:=7) pb.aC (e5 (U 0) T.dT T.lc oF au T.nE .nil c5 (af aR (af (jE rfl T.WY T.UI) aB))))
   (db (bJ (i:=8) pb.aC (e5 (U 0) T.dT T.lc oF au T.nE .nil c5 (af aR (af (jE rfl T.Yd T.ZY) aB))))
   (db (bJ (i:=9) pb.aC (e5 (U 0) T.dT T.lc oF au T.nE .nil c5 (af aR (af (jE rfl T.Ug T.xz) aB))))
   (db (rc (gS (U 0) T.dT T.y3 Dc au T.y_ .nil c5))
   (aY (b1 (cb ab0 au T.aaU T.FY.bF T.aeD (af (U 3) (af (U 4) (af (U 5) (af (U 6) (af (U 7) (af (U 8) (af (U 9) aB)))))))))))))))))),?_⟩
 have iA:=hd.st;have gO:=hd.e2;have sX:=hd.of;have LC:=hd.Aj;have aef:=hd.le;obtain ⟨_,aj,aQ,ax,aG⟩:=id R;nofun;refine ⟨_,_,ax,b6.no _ _ _ (by ac_nf),by decide,fun p aq=>?_⟩;have s0:aI H (upd H p (.lst [V.str (ah "car"),V.str (ah "foot"),V.str (ah "tram")])):=bk aq;have oy:dE d.k ∈ [ah "car",ah "foot",ah "tram"]:=by
  have:=hd.k
  match d.k,this with
  | 0,_=>simp [dE]
  | 1,_=>simp [dE]
  | 2,_=>simp [dE]
 refine ⟨q,row,_,0,dE d.k,p,[ah "car",ah "foot",ah "tram"],rfl,R.same s0,rfl,aK.of aU,oy,fun H1 s1 c4 j_=>?_⟩;have eB:cc q H H1:=(cc.of s0).trans s1;have e0:=c4 bh.upd;nofun;refine ⟨q,row,_,1,wl,ds,d.name,rfl,j_,rfl,hd.nm,ka.i5 eB R,gP,Gf,e0,fun ay s2 eW fF=>?_⟩;obtain ⟨_,Ly,PK,f2,g2⟩:=id fF;have gK:=eB.trans s2;nofun;refine ⟨_,_,f2,b6.no _ _ _ (by ac_nf),⟨q,row,_,2,num d.start,0,n - 1,d.start,rfl,fF,rfl,qw (by omega) (by omega) (by omega) (by omega),eW,fun bA s3 d3 qL=>?_⟩⟩;have ee:=gK.trans s3;have kE:=d3 eW;nofun;refine ⟨q,row,_,3,n,d.start,d.fin,rfl,qL,rfl,iA,gO,hd.ne,aF.2,kE,fun bY s4 K9 lW=>?_⟩;obtain ⟨_,RM,adv,f4,rp⟩:=id lW;have ip:=ee.trans s4;nofun;refine ⟨_,_,f4,b6.no _ _ _ (by ac_nf),⟨q,row,_,4,num d.off,0,30,d.off,rfl,lW,rfl,qw (by omega) (by omega) (by omega) (by omega),K9,fun dq s5 qr uB=>?_⟩⟩;obtain ⟨_,afh,af',fC,xN⟩:=id uB;have dR:=ip.trans s5;have KR:=qr K9;nofun;refine ⟨_,_,fC,b6.no _ _ _ (by ac_nf),⟨q,row,_,5,num d.near,0,30,d.near,rfl,uB,rfl,qw (by omega) (by omega) (by omega) (by omega),KR,fun eK hL uq u0=>?_⟩⟩;obtain ⟨_,Zx,Ue,u4,P'⟩:=id u0;have dw:=dR.trans hL;have OB:=uq KR;nofun;refine ⟨_,_,u4,b6.no _ _ _ (by ac_nf),⟨q,row,_,6,num d.least,1,60,d.least,rfl,u0,rfl,qw (by omega) (by omega) (by omega) (by omega),OB,fun hv mr ru M7=>?_⟩⟩;obtain ⟨_,ahl,aiL,sP,I2⟩:=id M7;have cw:=dw.trans mr;have VP:=ru OB;nofun;refine ⟨_,_,sP,b6.no _ _ _ (by ac_nf),⟨q,row,_,7,rfl,M7,rfl,?_⟩⟩;nofun;refine ⟨d,rfl,hd.k,fun x hx g4 pR ag5 xK=>?_⟩;refine cF x hx (cw.trans (cc.of g4)) (pR VP) ag5 ?_;cases mn:H x with
 | none=>rfl
 | some u=>
  by_cases wz:x=q
  .subst wz;rw [sP] at xK;cases xK
  .rw [cw x u wz mn] at xK;cases xK
noncomputable abbrev tl:List Str:=[ah "places",ah "ways",ah "numbers"]
noncomputable def lH (n:Int) (wl aC:Addr):List (Str × V):=[(ah "places",.int n),(ah "ways",.ref wl),(ah "numbers",.ref aC)]
theorem z1 (n:Int) (wl aC:Addr):(lH n wl aC).map (·.1)=tl:=rfl
noncomputable def nm (ds:List aD) (i:Nat):Str:=((ds[i]?).map (·.name)).getD (ah "")
noncomputable def i0 (ds:List aD) (i:Nat):List (Key × V):=(fc i).map fun j=>(bN (nm ds j),V.int j)
theorem mi {ds:List aD} {i:Nat} {d:aD} (h:ds[i]? = some d):nm ds i=d.name:=by unfold nm;rw [h];rfl
theorem z8 {ds:List aD} (h:(ds.map (·.name)).Nodup) {i j:Nat} (ai:i < ds.length) (aZ:j < ds.length) (e:nm ds i=nm ds j):i=j:=by
 rw [mi (b7 ai),mi (b7 aZ)] at e;have:=(FW (xs:=ds.map (·.name)) (i:=i) (j:=j) (h₀:=by rw [a'];exact ai) (h₁:=by rw [a'];exact aZ) h).mp (by rw [Ai,Ai];exact e);exact this
theorem Qn {ds:List aD} (h:(ds.map (·.name)).Nodup) {i:Nat}:∀ {n:Nat},i < n->n <= ds.length->dJ (i0 ds n) (bN (nm ds i))=some (.int i):=by
 intro n
 induction n with
 | zero=>intro ai _;omega
 | succ n cj=>
  intro ai aF;unfold i0 dJ;rw [Ei,eM,List.find?_append];by_cases c:i < n
  .have:=cj c (by omega);unfold i0 dJ at this;cases e:OA (fun c8=>decide (c8.fst=bN (nm ds i))) (gv (fun j=>((bN (nm ds j):Key),V.int j)) (fc n)) with
   | none=>rw [e] at this;cases this
   | some p=>rw [e] at this;exact this
  .have e:i=n:=by omega
   subst e;have no:OA (fun c8=>decide (c8.fst=bN (nm ds i))) (gv (fun j=>((bN (nm ds j):Key),V.int j)) (fc i))=none:=by
    rw [sb];intro p aq;obtain ⟨j,aZ,rfl⟩:=dX.mp aq;have Gg:=ph.mp aZ;simp only [decide_eq_true_eq];intro z;have:=z8 h (by omega) (by omega) (wZ z);omega
   rw [no];simp
theorem aex {ds:List aD} {x:Str} (h:∀ d ∈ ds,d.name ≠ x):∀ {n:Nat},n <= ds.length->dJ (i0 ds n) (bN x)=none:=by
 intro n aF;unfold dJ i0;rw [sb.mpr]
 .rfl
 intro p aq;obtain ⟨j,aZ,rfl⟩:=dX.mp aq;have Gg:=ph.mp aZ;simp only [decide_eq_true_eq];intro z;have xk:j < ds.length:=by omega
 have e:=wZ z;rw [mi (b7 xk)] at e;exact h _ (vC xk) e
theorem agF {ds:List aD} (h:(ds.map (·.name)).Nodup) {n:Nat} (aF:n < ds.length):gA (i0 ds n) (bN (nm ds n)) (.int n)=i0 ds (n + 1):=by
 unfold gA;have no:((i0 ds n).any fun c8=>decide (c8.1=bN (nm ds n)))=false:=by
  rw [EX];intro p aq;obtain ⟨j,aZ,rfl⟩:=dX.mp aq;have Gg:=ph.mp aZ;simp only [decide_eq_true_eq];intro z;have:=z8 h (by omega) aF (wZ z);omega
 rw [no];unfold i0;rw [Ei,eM];rfl
theorem mc {H H1 ay:ag} {q:Addr} (a:aI H H1) (b:cc q H1 ay) (n:H q=none):aI H ay:=fun c u e=>b c u (cy e n) (a c u e)
theorem yg {t:bC} {H:ag} {p q:Addr} {i j:Int} {ws vs:List Str} {k l:Nat} (a:b6 t H p i ws k) (b:b6 t H q j vs l) (n:i ≠ j):p ≠ q:=fun z=>by
 subst z;obtain ⟨_,aj,aQ,ax,_⟩:=a;obtain ⟨_,fs,afT,aG,_⟩:=b;rw [ax] at aG;have bM:=eS aG;injection bM with _ _ f7;unfold kx at f7;injection f7 with j1 _;injection j1 with _ jH;injection jH with nM;exact n nM
theorem Jw {t:bC} {H:ag} {p q:Addr} {d:aD} {j:Int} {vs:List Str} {l:Nat} (a:et t H p d) (b:b6 t H q j vs l):p ≠ q:=fun z=>by
 subst z;obtain ⟨_,aj,ax⟩:=a;obtain ⟨_,fs,afT,aG,_⟩:=b;rw [ax] at aG;have bM:=eS aG;injection bM with _ _ f7;exact absurd (congrArg md f7) (by show ¬ (7:Nat)=3;decide)
noncomputable def ad (t:bC) (H:ag) (c:Addr) (n:Int) (ds:List aD):Prop:=
 ((ds.map (·.name)).Nodup/\ds.length <= 12)/\∃ aj wl aC,H c=some (.ins t.gk aj (lH n wl aC))/\l9 t H wl ds/\H aC=some (.cE (i0 ds ds.length))
theorem ad.same {t:bC} {H I:ag} {c:Addr} {n:Int} {ds:List aD} (h:ad t H c n ds) (s:aI H I):ad t I c n ds:=by
 obtain ⟨h0,aj,wl,aC,ax,aG,bM⟩:=h;exact ⟨h0,aj,wl,aC,s _ _ ax,aG.same s,s _ _ bM⟩
theorem ih {m:Str} (n:Int) (wl aC:Addr) (h:tl.contains m=false):(lH n wl aC).lookup m=none:=BO tl (z1 ..) h
section
variable {w:World} {K:a6} {ao:Str->Option Value} {t:bC} {H:ag} {c aj wl aC:Addr} {n:Int}
theorem Zi (T:Txt w K ao t) (e:H c=some (.ins t.gk aj (lH n wl aC))):ia K H c (ah "places") (.int n):=⟨_,aj,_,e,T.f_,T.Q6,j9 tl 0 (z1 ..) (by ac_nf) rfl⟩
theorem DK (T:Txt w K ao t) (e:H c=some (.ins t.gk aj (lH n wl aC))):ia K H c (ah "ways") (.ref wl):=⟨_,aj,_,e,T.f_,T.Jm,j9 tl 1 (z1 ..) (by ac_nf) rfl⟩
theorem sF (T:Txt w K ao t) (e:H c=some (.ins t.gk aj (lH n wl aC))):ia K H c (ah "numbers") (.ref aC):=⟨_,aj,_,e,T.f_,T.I4,j9 tl 2 (z1 ..) (by ac_nf) rfl⟩
end
noncomputable def OF (t:bC):bo:=fun vs H Q _=>∃ c aj n wl ds,vs=[.ref c,.int n,.ref wl]/\H c=some (.ins t.gk aj [])/\l9 t H wl ds/\(ds.map (·.name)).Nodup/\ds.length <= 12/\aV H /\
 ∀ I,cc c H I->aV I->ad t I c n ds->Q .bH I
noncomputable def Pp (t:bC):bo:=fun vs H Q _=>∃ n ds,vs=[.str (nd n ds)]/\qt n ds/\aV H/\∀ c I,aI H I->aV I->ad t I c n ds->Q (.ref c) I
noncomputable def xJ (t:bC):bo:=fun vs H Q _=>∃ c n ds,vs=[.ref c]/\ad t H c n ds/\∀ p,H p=none->Q (.ref p) (upd H p (.lst (bE (ds.map (·.name)))))
noncomputable def Ix (t:bC):bo:=fun vs H Q _=>∃ c n ds,∃ i:Nat,∃ d,vs=[.ref c,.str d.name]/\ad t H c n ds/\ds[i]? = some d/\Q (.int (i:Nat)) H
noncomputable def FN (t:bC):bo:=fun vs H Q _=>∃ c n ds,∃ i:Nat,∃ d,vs=[.ref c,.str d.name]/\ad t H c n ds/\ds[i]? = some d/\∀ a,et t H a d->Q (.ref a) H
theorem FM:cq P base T 1 t.u3 t.BC xE (OF t):=by
 exists T.Rp.ok FJ,9
 obtain ⟨c,aj,n,wl,ds,rfl,ar,ka,gM,gP,bh,q⟩:=h;have bQ:=lV au;refine ⟨_,(db (h1 (U 0) (U 1) rfl)
   (db (h1 (U 0) (U 2) rfl)
   (db (h1 (U 0) wg rfl)
   (aY (er fG rfl (tY rfl T.uO (af (U 2) aB)) (kf (K:=K) (n:=2) rfl rfl (eU (b' (i:=3) FJ.aC) (eU (b' (i:=4) FJ.aC) kc))) (aY (vm bQ (Gc (U 0) rfl) (Gc (U 4) rfl) (U 3) rfl))))))),?_⟩
 nofun;refine ⟨_,_,_,ar,T.f_,T.Q6,by decide,?_⟩;refine ⟨_,_,_,aU,T.f_,T.Jm,fp (n:=999) (by decide),fun aC aF=>?_⟩;simp only [nz] at aF ⊢;rw [show c_ (ah "places") (V.int n) ([]:List (Str × V))=[(ah "places",V.int n)] from rfl,show c_ (ah "ways") (V.ref wl) [(ah "places",V.int n)]=[(ah "places",V.int n),(ah "ways",V.ref wl)] from gX [ah "places"] rfl (by ac_nf)] at aF ⊢;have xp:c ≠ aC:=fun z=>by subst z;rw [aU] at aF;cases aF
 refine ⟨t.gk,aj,[(ah "places",V.int n),(ah "ways",V.ref wl)],by rw [aW xp];exact aU,T.f_,T.I4,show (2:Nat) < 1000 by decide,?_⟩;rw [show c_ (ah "numbers") (V.ref aC) [(ah "places",V.int n),(ah "ways",V.ref wl)]=lH n wl aC from gX [ah "places",ah "ways"] rfl (by ac_nf)];obtain ⟨as,cZ,d1,al⟩:=ka;have N0:H aC=none:=by rw [aW (c6 xp)] at aF;exact aF
 have dU:cc c H (upd (upd (upd H c (.ins t.gk aj [(ah "places",V.int n),(ah "ways",V.ref wl)])) aC (.cE [])) c (.ins t.gk aj (lH n wl aC))):=fun b u ab e=>by
  rw [aW ab,aW (cy e N0),aW ab];exact e
 have Ff:wl ≠ c:=d0 cZ ar (by intro z;cases z);refine ⟨⟨_,aK.of (dU _ _ Ff cZ)⟩,?_⟩;refine du.enum (xs:=as.map V.ref) (fun i σ I=>(∃ x y,σ=[some (V.ref c),some (V.int n),some (V.ref wl),x,y])/\I c=some (.ins t.gk aj (lH n wl aC))/\I aC=some (.cE (i0 ds i))/\cc c H I/\aV I) ?_ ?_ ?_ ?_
 .exact ⟨⟨_,_,rfl⟩,aU,by rw [aW (c6 xp),aU];rfl,dU,((bh.upd).upd).upd⟩
 .rintro i σ I ai aX;ac_rfl
  obtain ⟨_,_,_,pe,_⟩:=aX;subst a5;exact aK.of (pe _ _ Ff cZ)
 .rintro i v σ I p aM ⟨⟨x,y,rfl⟩,ae,ak,pe,ed⟩ aq;obtain ⟨a,aJ,rfl⟩:=cS aM;obtain ⟨ai,_⟩:=cg.mp aJ;have hl:i < ds.length:=by omega
  have hd:ds[i]? = some ds[i]:=b7 hl;have hO:et t H a ds[i]:=al i a _ aJ hd;have DM:a ≠ c:=by
   obtain ⟨_,fs,e⟩:=hO;intro z;subst z;rw [ar] at e;have aG:=eS e;injection aG with _ _ bM;exact absurd (congrArg md bM) (by show ¬ (0:Nat)=7;decide)
  have abg:et t I a ds[i]:=⟨hO.1,hO.2.imp fun fs e=>pe _ _ DM e⟩;have sp:aI I (upd I p (.tup [.int i,.ref a])):=bk aq;refine uj ?_;nofun;refine ⟨_,sF T (sp _ _ ae),_,(abg.same sp).BB T,_,rfl,_,nW.k (k:=bN ds[i].name) (sp _ _ ak) (j0 (show (i0 ds i).length <= 12 by unfold i0;rw [a',A3];omega) (by decide)),?_⟩;rw [<- mi hd,agF gM hl];refine ⟨⟨_,rfl⟩,?_,aU,fun b u ab e=>?_,(ed.upd).upd⟩
  .rw [aW xp];exact sp _ _ ae
  .rw [aW (cy e N0)];exact sp _ _ (pe b u ab e)
 .rintro σ I aX;ac_rfl
  obtain ⟨⟨x,y,rfl⟩,ae,ak,pe,ed⟩:=aX;subst a5;nofun;rw [a',d1] at ak;refine q I pe ed ⟨⟨gM,gP⟩,aj,wl,aC,ae,⟨as,pe _ _ Ff cZ,d1,fun i a d a_ cv=>?_⟩,ak⟩;have hO:=al i a d a_ cv;have DM:a ≠ c:=by
   obtain ⟨_,fs,e⟩:=hO;intro z;subst z;rw [ar] at e;have aG:=eS e;injection aG with _ _ bM;exact absurd (congrArg md bM) (by show ¬ (0:Nat)=7;decide)
  exact ⟨hO.1,hO.2.imp fun fs e=>pe _ _ DM e⟩
theorem aba:cq P base T 1 t.sN t.wW hg (Ix t):=by
 exists T.E3.ok Jj,9
 obtain ⟨c,n,ds,i,d,rfl,⟨⟨gM,gP⟩,aj,wl,aC,ax,aG,bM⟩,hd,q⟩:=h;have bQ:=lV au;have aM:dJ (i0 ds ds.length) (bN d.name)=some (.int i):=by
  rw [<- mi hd];exact Qn gM (cg.mp hd).1 (b2 _)
 have a3:gm H aC (.str d.name) (some (.int i)):=by rw [<- aM];exact gm.k (k:=bN d.name) bM
 refine ⟨_,(db (dD (Mk (L0 bQ (U 1) (Gc (U 0) rfl))) (aY sq) dI)
   (aY (b1 (kN bQ (Gc (U 0) rfl) (U 1) (fun _ _=>rfl))))),?_⟩
 nofun;refine ec false (fun Q a8=>?_) (fun ar=>nomatch ar) (fun _=>?_)
 .nofun;refine ⟨_,sF T ax,_,rfl,_,a3,?_⟩;exact a8
 .nofun;exact ⟨_,sF T ax,_,rfl,_,a3,q⟩
theorem vB:cq P base T 2 t.ow t.pf hg (FN t):=by
 refine dp (aba T) fun aeo=>?_;exists T.EY.ok J3,9
 obtain ⟨c,n,ds,i,d,rfl,C,hd,q⟩:=h;obtain ⟨⟨gM,gP⟩,aj,wl,aC,ax,⟨as,cZ,d1,al⟩,bM⟩:=id C;refine ⟨_,(aY (b1 (bX ew (Gc (U 0) rfl) (e5 (U 0) T.f_ T.Pf aeo au T.PR .nil c5 (af (U 1) aB))))),?_⟩;nofun;refine ⟨_,DK T ax,_,_,ax,ih _ _ _ (by ac_nf),⟨c,n,ds,i,d,rfl,C,hd,?_⟩⟩;have ai:i < as.length:=by rw [d1];exact (cg.mp hd).1
 have aJ:as[i]? = some as[i]:=b7 ai;nofun;refine ⟨_,aK.of cZ,_,cR (show (as.map V.ref)[i]? = some (V.ref as[i]) by rw [eA,aJ];rfl),?_⟩;exact q as[i] (al i _ d aJ hd)
theorem acY:cq P base T 7 t.xt t.yW ["text"] (Pp t):=by
 have Gj:bg P w K ao base cH 6 t.tQ t.uD ["text"] (EK t):=(RG T).mono (by decide);have af5:bg P w K ao base cH 6 t.xC t.zD ["reader"] (Ox t):=(SJ T).mono (by decide);have Tb:bg P w K ao base cH 6 t.A8 t.Ak zp (Kl t):=Yj T;have aft:bg P w K ao base cH 5 t.u3 t.BC xE (OF t):=(FM T).mono (by decide);exists T.Dh.ok wb,9
 obtain ⟨n,ds,rfl,cm,bh,cF⟩:=h;refine ⟨_,(db (bJ (i:=1) wb.aC (cb Gj au T.Nv T.yE.bF T.Lr (af (U 0) aB)))
   (db (bJ (i:=2) wb.aC (cb af5 au T.abY T.DF.bF T.XN (af (bX ew (U 1) aR) aB)))
   (db (bJ (i:=3) wb.aC (fH aB))
   (db (er fG rfl (fk (wH Kk (U 1) (wM aR) uN)) (b' (i:=4) wb.aC) (db (dD (da hi (fL ac rfl T.hH hT (af (U 3) aB)) (jE rfl T.W6 T.aby) (cT _)) (aY sq) dI)
   (aY (rc (iT lZ oA pS ot (U 3) (af (cb Tb au T.aes T.F3.bF T.VW (af (U 4) (af (U 2) (af (U 3) aB)))) aB))))))
   (db (dD (k8 (Hj (U 3) (fun _=>rfl))) (aY sq) dI)
   (aY (b1 (sd T.ag1 aft au rfl T.YW T.acI .nil c5 (af (U 2) (af (U 3) aB)))))))))),?_⟩
 have fA:=aeR cm;have hlen:=acp cm;have GP:=cm.nn;have Hy:=cm.ln;nofun;refine ⟨nd n ds,rfl,by omega,?_,bh,fun p H1 iO ei R=>?_⟩
 .rw [fA];intro r au;refine ⟨?_,fun x av=>c1 (cm.plain r au x av).1 (by decide)⟩;rcases dQ.mp au with rfl | au
  .show (2:Nat) <= 1000;decide
  .obtain ⟨d,hd,rfl⟩:=dX.mp au;show (7:Nat) <= 1000;decide
 rw [fA] at R;obtain ⟨qs,aq,iz,lT,u7⟩:=R;have NB:qs.length=ds.length + 1:=by rw [lT];simp [g7]
 obtain ⟨hy,gZ,rfl⟩:∃ hy gZ,qs=hy :: gZ:=by
  cases qs with
  | nil=>simp at NB
  | cons a b=>exact ⟨a,b,rfl⟩
 obtain ⟨oi,Ab⟩:=u7 0 hy _ rfl rfl;nofun;refine ⟨_,aK.of aq,_,cR (j:=0) rfl,⟨hy,_,n,rfl,oi,GP,ei,fun ay s2 fb=>⟨fv _,fun wl iC=>?_⟩⟩⟩;obtain ⟨acM,Xt,abh,Dk⟩:=oi.ins;have Ea:p ≠ hy:=d0 aq Dk (by intro z;cases z);have dV:ay p=some (.lst ((hy :: gZ).map V.ref)):=s2 _ _ Ea aq;have q':aI ay (upd ay wl (.lst [])):=bk iC;have wI:k0 ((hy :: gZ).map V.ref) (some 1) none=gZ.map V.ref:=by
  unfold k0;simp [fj.cM];exact o9 (by rw [a'];exact b2 _)
 refine ⟨_,aK.of (q' _ _ dV),fun pc qp=>?_⟩;rw [wI];have uJ:pc ≠ wl:=fun z=>by subst z;rw [aU] at qp;cases qp
 have p':aI (upd ay wl (.lst [])) (upd (upd ay wl (.lst [])) pc (.lst (gZ.map V.ref))):=bk qp;refine ⟨⟨_,aK.of aU⟩,?_⟩;have w3:aI H ay:=mc iO s2 Ab;have B_:gZ.length=ds.length:=by simpa using NB
 refine du.list (xs:=gZ.map V.ref) (fun i σ I=>(∃ x,σ=[some (V.str (nd n ds)),some (V.ref p),some (V.int n),some (V.ref wl),x])/\aV I/\aI H I/\I pc=some (.lst (gZ.map V.ref))/\H wl=none/\l9 t I wl (ds.take i) /\
  ∀ (j:Nat) (q:Addr) (d:aD),i <= j->gZ[j]? = some q->ds[j]? = some d->b6 t I q ((j + 1:Nat):Int) (l4 d) 0/\H q=none) ?_ ?_ ?_ ?_
 .refine ⟨⟨_,rfl⟩,(fb.upd).upd,(w3.trans q').trans p',aU,w3.free iC,⟨[],p' _ _ aU,rfl,fun j a d h=>by simp at h⟩,fun j q d _ ae ak=>?_⟩;have au:(g7 n ds)[j + 1]? = some (l4 d):=by
   unfold g7;rw [wJ,eA,ak];rfl
  obtain ⟨lF,ke⟩:=u7 (j + 1) q _ (by rw [wJ];exact ae) au;refine ⟨((lF.i5 s2 (yg lF oi (by omega)) oi.ins).same q').same p',ke⟩
 .rintro i σ I ai aX;ac_rfl
  obtain ⟨_,_,_,h,_⟩:=aX;subst a5;exact aK.of h
 .rintro i v σ I aM aX;ac_rfl
  obtain ⟨⟨x,rfl⟩,ed,lB,p5,qQ,W,Rs⟩:=aX;obtain ⟨q,aH,rfl⟩:=cS aM;obtain ⟨ai,_⟩:=cg.mp aH;have hl:i < ds.length:=by omega
  have hd:ds[i]? = some ds[i]:=b7 hl;obtain ⟨lP,yw⟩:=Rs i q _ (b2 _) aH hd;have zl:(ds.take i).length=i:=by rw [gV];omega
  obtain ⟨as,cZ,d1,al⟩:=id W;subst a5;nofun;refine ec false (fun Q a8=>?_) (fun ar=>nomatch ar) (fun _=>?_)
  .nofun;refine ⟨_,.inl (aK.of cZ),?_⟩;rw [a',d1,zl];rw [decide_eq_false (by omega)] <;> exact a8
  .nofun;refine ⟨.inl ⟨_,aK.of cZ⟩,?_⟩;refine ⟨q,_,n,wl,ds.take i,ds[i],rfl,lP,cm.al _ (vC hl),GP,W,by omega,fun e he z=>?_,ed,fun y bA s3 jj hY wi=>?_⟩
   .obtain ⟨j,aZ,rfl⟩:=sg he;rw [List.getElem_take] at z;have Gg:j < i:=by omega
    have:=z8 cm.aC (i:=j) (j:=i) (by omega) hl (by rw [mi (b7 (by omega)),mi hd];exact z);omega
   .nofun;obtain ⟨ahS,x3,aiB,eT⟩:=lP.ins;have HD:wl ≠ q:=d0 cZ eT (by intro z;cases z);have oz:bA wl=some (.lst (as.map V.ref)):=s3 _ _ HD cZ;have FQ:aI H bA:=mc lB s3 yw;refine ⟨_,oz,j0 (show (as.map V.ref).length <= 12 by rw [a'];omega) (by decide),?_⟩;have H6:y ≠ wl:=fun z=>by
     subst z;rw [cZ] at wi;cases wi
    refine ⟨⟨_,rfl⟩,jj.upd,fun b u e=>?_,?_,qQ,⟨as ++ [y],by rw [aU,eM];rfl,?_,fun j a d ae ak=>?_⟩,fun j d2 d aZ ae ak=>?_⟩
    .rw [aW (cy e qQ)];exact FQ _ _ e
    .rw [aW uJ];exact s3 _ _ (d0 p5 eT (by intro z;cases z)) p5
    .rw [dP,d1,zl,gV];show i + 1=_;omega
    .by_cases aZ:j < as.length
     .rw [v7 aZ] at ae;have X':(ds.take i)[j]? = some d:=by
       rw [yB (by omega)];rw [yB (by omega)] at ak;exact ak
      obtain ⟨aE,fs,e⟩:=al j a d ae X';have afZ:a ≠ q:=Jw ⟨aE,fs,e⟩ lP;have Yy:a ≠ wl:=d0 e cZ (by intro z;cases z);exact ⟨aE,fs,by rw [aW Yy];exact s3 _ _ afZ e⟩
     .rw [xo (by omega)] at ae;have wy:j - as.length=0:=by
       cases cN:j - as.length with
       | zero=>rfl
       | succ m=>rw [cN] at ae;simp at ae
      rw [wy] at ae;have bM:y=a:=by simpa using ae
      subst bM;have f7:j=i:=by omega
      subst f7;rw [yB (by omega),hd] at ak;cases ak;exact ⟨hY.1,hY.2.imp fun fs e=>by rw [aW H6];exact e⟩
    .obtain ⟨lF,ke⟩:=Rs j d2 d (by omega) ae ak;have qL:=lF.i5 s3 (yg lF lP (by omega)) lP.ins;refine ⟨?_,ke⟩;obtain ⟨az,fs,aQ,ax,aG⟩:=qL;refine ⟨az,fs,aQ,by rw [aW (d0 ax oz (by intro z;cases z))];exact ax,?_⟩;rw [aW (fun z=>by
      subst z;rw [oz] at aG;have j1:=eS aG;injection j1 with jH;cases as with
      | nil=>exact absurd (congrArg md jH) (by show ¬ (0:Nat)=7;decide)
      | cons a r=>injection jH with nM _;cases nM)]
     exact aG
 .rintro σ I aX;ac_rfl
  obtain ⟨⟨x,rfl⟩,ed,lB,p5,qQ,W,Rs⟩:=aX;subst a5;rw [a',B_,kH] at W;obtain ⟨as,cZ,d1,al⟩:=id W;nofun;refine ec false (fun Q a8=>?_) (fun ar=>nomatch ar) (fun _=>?_)
  .nofun;refine ⟨true,.inl ⟨_,aK.of cZ,?_⟩,a8⟩;cases as with
   | nil=>simp at d1;omega
   | cons a r=>rfl
  .nofun;intro c aj ar Cv bR;have sc:aI I (upd (upd I aj (.own c)) c (.ins t.gk aj [])):=((aI.refl I).g9 Cv).g9 ar;refine ⟨c,aj,n,wl,ds,rfl,aU,W.same sc,cm.aC,Hy.2,(ed.upd).upd,fun dq s5 qo r6=>⟨rfl,?_⟩⟩;exact cF c dq (mc (lB.trans sc) s5 (lB.free ar)) qo r6
theorem uc:cq P base T 1 t.q_ t.tA ["self"] (xJ t):=by
 exists T.K2.ok af6,9
 obtain ⟨c,n,ds,rfl,⟨⟨gM,gP⟩,aj,wl,aC,ax,⟨as,cZ,d1,al⟩,bM⟩,q⟩:=h;refine ⟨_,(aY (b1 (l' rfl (fk (Gc (U 0) rfl)) (iE (sc:=bz D9) rfl (by ac_nf)) (N:=["way"]) (sel:=[none]) (iS (M:=["self"]) (by ac_nf)) (gN.of (fun _ _ _ _=>(b' (i:=0) (gb (N:=["way"]) (by ac_nf) rfl))) (fun _ _ _ _=>⟨_,kP,by walk_at "B"⟩) (fun _ _ _ _=>⟨_,(Gc (U 0) rfl),by walk_at "B"⟩))))),?_⟩;nofun;refine ⟨_,DK T ax,_,rfl,⟨_,aK.of cZ⟩,?_⟩;refine dm.xI (xs:=as.map V.ref) (zs:=bE (ds.map (·.name))) (aK.of cZ) (by rw [a',d1];exact c1 gP (by decide)) (by rw [Go,a',a',d1]) (fun i v z N aM fK bb=>?_) (fun p aq=>q p aq);obtain ⟨a,aJ,rfl⟩:=cS aM;obtain ⟨x,av,rfl⟩:=cS fK;obtain ⟨d,hd,rfl⟩:=cS av;nofun;exact ⟨Sub.name,_,(al i a d aJ hd).BB T,bb⟩
noncomputable def om (x:Str):Prop:=x.length <= 1000/\∀ c ∈ x.cps.toList,c < 16 ^ 8
noncomputable def AI (ds:List aD) (x:Str):Prop:=∀ d ∈ ds,d.name ≠ x
noncomputable def Bf (t:bC) (x:Str) (H:ag) (E:cD):Prop:=∀ aj I,aI H I->(aV H->aV I)->I aj=some (.ext (e4 aj [(ah "name",.str x)]))->E (.ref t.fS) (some aj) I
noncomputable def Ow (t:bC):bo:=fun vs H Q _=>∃ x n,vs=[.ref x,.str n]/\om n/\H x=some (.ext (dB x t.fS none)) /\
 ∀ aj,H aj=none->aj ≠ x->Q .bH (upd (upd H x (.ext (dB x t.fS (some aj)))) aj (.ext (e4 aj [(ah "name",.str n)])))
noncomputable def OD (t:bC):bo:=fun vs H Q E=>∃ c n ds x,vs=[.ref c,.str x]/\ad t H c n ds/\om x/\((∃ i:Nat,∃ d,ds[i]? = some d/\x=d.name/\Q (.int (i:Nat)) H)\/(AI ds x/\Bf t x H E))
noncomputable def E6 (t:bC):bo:=fun vs H Q E=>∃ c n ds x,vs=[.ref c,.str x]/\ad t H c n ds/\om x/\((∃ i:Nat,∃ d,ds[i]? = some d/\x=d.name/\∀ a,et t H a d->Q (.ref a) H)\/(AI ds x/\Bf t x H E))
theorem Ws:cq P base T 1 t.t8 t.ci hg (Ow t):=by
 exists T.Np.ok aar,9
 obtain ⟨x,n,rfl,aF,av,q⟩:=h;refine ⟨_,(db (rc (On rfl T.sh T.uk (af (U 0) (af (tF (mu (t9 (U 1) u_)) (by rw [sizeLine_eq];decide)) aB))))
   (aY (w2 (U 0) (U 1) rfl))),?_⟩
 nofun;refine ⟨aF.1,aF.2,fun y=>⟨_,_,av,T.GD,?_⟩⟩;exact ⟨_,av,T.GD,T.adQ,q⟩
theorem RS (T:Txt w K ao t):bg P w K ao base (di P w) 3 t.sN t.wW hg (OD t):=by
 have Uw:bg P w K ao base cH 1 t.t8 t.ci hg (Ow t):=Ws T;exists T.E3.iB Jj,9
 obtain ⟨c,n,ds,x,rfl,⟨⟨gM,gP⟩,aj,wl,aC,ax,aG,bM⟩,DC,aH⟩:=h;have bQ:=lV au;refine ⟨_,(db (dD (Mk (L0 bQ (U 1) (Gc (U 0) rfl))) (aY (u9 (No T.IU Uw au rfl T.ae9 T.VT (af (U 1) aB)) vk)) dI)
   (aY (b1 (kN bQ (Gc (U 0) rfl) (U 1) (fun _ _=>rfl))))),?_⟩
 rcases aH with ⟨i,d,hd,rfl,q⟩ | ⟨aw,q⟩
 .have aM:dJ (i0 ds ds.length) (bN d.name)=some (.int i):=by
   rw [<- mi hd];exact Qn gM (cg.mp hd).1 (b2 _)
  have a3:gm H aC (.str d.name) (some (.int i)):=by rw [<- aM];exact gm.k (k:=bN d.name) bM
  nofun;refine ec false (fun Q a8=>?_) (fun ar=>nomatch ar) (fun _=>?_)
  .nofun;refine ⟨_,sF T ax,_,rfl,_,a3,?_⟩;exact a8
  .nofun;exact ⟨_,sF T ax,_,rfl,_,a3,q⟩
 .have aM:dJ (i0 ds ds.length) (bN x)=none:=aex aw (b2 _);have a3:gm H aC (.str x) none:=by rw [<- aM];exact gm.k (k:=bN x) bM
  nofun;refine ec true (fun Q a8=>?_) (fun _=>?_) (fun ar=>nomatch ar)
  .nofun;refine ⟨_,sF T ax,_,rfl,_,a3,?_⟩;exact a8
  .nofun;refine ⟨c1 (show 1 <= 1000 by decide) (by decide),fun a aJ=>⟨a,x,rfl,DC,aU,fun d hd bR=>?_⟩⟩;have nK:H d=none:=by rw [aW bR] at hd;exact hd
   refine ⟨rfl,t.fS,some d,by rw [aW (c6 bR),aU],T.GD,q d _ (fun b u e=>?_) (fun bh=>(((bh.upd).upd).upd).upd) (by rw [aW bR,aU])⟩;rw [aW (cy e aJ),aW (cy e nK),aW (cy e aJ),aW (cy e aJ)];exact e
theorem Ks (T:Txt w K ao t):bg P w K ao base (di P w) 4 t.ow t.pf hg (E6 t):=by
 have ae8:bg P w K ao base (di P w) 3 t.sN t.wW hg (OD t):=RS T;exists T.EY.iB J3,9
 obtain ⟨c,n,ds,x,rfl,C,DC,aH⟩:=h;obtain ⟨⟨gM,gP⟩,aj,wl,aC,ax,⟨as,cZ,d1,al⟩,bM⟩:=id C;refine ⟨_,(aY (b1 (bX ew (Gc (U 0) rfl) (e5 (U 0) T.f_ T.Pf ae8 au T.PR .nil gJ (af (U 1) aB))))),?_⟩;nofun;refine ⟨_,DK T ax,_,_,ax,ih _ _ _ (by ac_nf),⟨c,n,ds,x,rfl,C,DC,?_⟩⟩;rcases aH with ⟨i,d,hd,ex,q⟩ | ⟨aw,q⟩
 .refine .inl ⟨i,d,hd,ex,?_⟩;have ai:i < as.length:=by rw [d1];exact (cg.mp hd).1
  have aJ:as[i]? = some as[i]:=b7 ai;nofun;refine ⟨_,aK.of cZ,_,cR (show (as.map V.ref)[i]? = some (V.ref as[i]) by rw [eA,aJ];rfl),?_⟩;exact q as[i] (al i _ d aJ hd)
 .exact .inr ⟨aw,q⟩
theorem Nd {n s j:Int} (h0:0 <= s) (ae:s < n) (ak:0 <= j) (a_:j < n):(s + j) % n=if s + j < n then s + j else s + j - n:=by
 split
 .rename_i h;exact i4 (by omega) h
 .rename_i h;have e:s + j=(s + j - n) + n:=by omega
  rw [e,agD];have:s + j - n + n - n=s + j - n:=by omega
  rw [this];exact i4 (by omega) (by omega)
theorem Wu {n s p:Int} (h0:0 <= s) (ae:s < n) (ak:0 <= p) (a_:p < n):(p - s) % n=if s <= p then p - s else p - s + n:=by
 split
 .rename_i h;exact i4 (by omega) (by omega)
 .rename_i h;have e:(p - s) % n=(p - s + n) % n:=(agD ..).symm;rw [e];exact i4 (by omega) (by omega)
theorem Ty {n s p j:Int} (h0:0 <= s) (ae:s < n) (ak:0 <= p) (a_:p < n) (cv:0 <= j) (dh:j < n):(s + j) % n=p↔(p - s) % n=j:=by
 rw [Nd h0 ae cv dh,Wu h0 ae ak a_];constructor <;> intro h <;> split at h <;> split <;> omega
noncomputable def ind (n s p i:Int):Int:=if 0 < (p - s) % n/\(p - s) % n <= i then 1 else 0
theorem QF {n s p i:Int} (h0:0 <= s) (ae:s < n) (ak:0 <= p) (a_:p < n) (cv:0 <= i) (dh:i + 1 < n):ind n s p (i + 1)=ind n s p i + (if (s + (i + 1)) % n=p then 1 else 0):=by
 have k:=Ty (j:=i + 1) h0 ae ak a_ (by omega) dh;unfold ind;by_cases c:(s + (i + 1)) % n=p
 .have e:=k.mp c;rw [if_pos c,e,if_pos (by omega),if_neg (by omega)];rfl
 .have e:¬ (p - s) % n=i + 1:=fun z=>c (k.mpr z)
  rw [if_neg c];by_cases d:0 < (p - s) % n/\(p - s) % n <= i
  .rw [if_pos d,if_pos (by omega)];rfl
  .rw [if_neg d,if_neg (by omega)];rfl
noncomputable def kg (n s f p:Int):Bool:=decide (0 < (p - s) % n) && decide ((p - s) % n < (f - s) % n)
noncomputable def w_ (n s f s2 f2:Int):Bool:=decide (f=f2) || (if (s2=s\/s2=f)\/(f2=s\/f2=f) then false else (kg n s f s2 != kg n s f f2))
theorem afi {n s f s2 f2:Int} (aw:0 <= s/\s < n) (hf:0 <= f/\f < n) (f6:0 <= s2/\s2 < n) (IC:0 <= f2/\f2 < n) (ae:f ≠ f2) (ak:¬ ((s=s2\/s=f2)\/f=s2)) :
  decide (ind n s s2 ((f - s) % n) + ind n s f2 ((f - s) % n)=1)=w_ n s f s2 f2:=by
 have eE:=(Ty (n:=n) (s:=s) (p:=f) (j:=(s2 - s) % n) aw.1 aw.2 hf.1 hf.2 (e' _ (by omega)) (ff _ (by omega)));have ax:=(Ty (n:=n) (s:=s) (p:=s2) (j:=(s2 - s) % n) aw.1 aw.2 f6.1 f6.2 (e' _ (by omega)) (ff _ (by omega))).mpr rfl;have fN:=(Ty (n:=n) (s:=s) (p:=f) (j:=(f2 - s) % n) aw.1 aw.2 hf.1 hf.2 (e' _ (by omega)) (ff _ (by omega)));have aG:=(Ty (n:=n) (s:=s) (p:=f2) (j:=(f2 - s) % n) aw.1 aw.2 IC.1 IC.2 (e' _ (by omega)) (ff _ (by omega))).mpr rfl;rw [ax] at eE;rw [aG] at fN;have c4:(f - s) % n ≠ (s2 - s) % n:=fun z=>ak (.inr ((eE.mpr z).symm))
 have cP:(f - s) % n ≠ (f2 - s) % n:=fun z=>ae ((fN.mpr z).symm)
 unfold w_ kg ind;have uz:¬ ((s2=s\/s2=f)\/(f2=s\/f2=f)):=by omega
 rw [decide_eq_false ae,m2,if_neg uz];generalize (f - s) % n=L at *;generalize (s2 - s) % n=A at *;generalize (f2 - s) % n=B at *;by_cases a:0 < A/\A <= L
 .by_cases b:0 < B/\B <= L
  .rw [if_pos a,if_pos b,decide_eq_true a.1,decide_eq_true b.1,decide_eq_true (show A < L by omega),decide_eq_true (show B < L by omega)];decide
  .rw [if_pos a,if_neg b,decide_eq_true a.1,decide_eq_true (show A < L by omega)];by_cases qH:0 < B
   .rw [decide_eq_true qH,decide_eq_false (show ¬ B < L by omega)];decide
   .rw [decide_eq_false qH,q4];decide
 .by_cases b:0 < B/\B <= L
  .rw [if_neg a,if_pos b,decide_eq_true b.1,decide_eq_true (show B < L by omega)];by_cases m5:0 < A
   .rw [decide_eq_true m5,decide_eq_false (show ¬ A < L by omega)];decide
   .rw [decide_eq_false m5,q4];decide
  .rw [if_neg a,if_neg b];have x:(decide (0 < A) && decide (A < L))=false:=by
    rw [TH];simp only [decide_eq_false_iff_not];omega
   have y:(decide (0 < B) && decide (B < L))=false:=by
    rw [TH];simp only [decide_eq_false_iff_not];omega
   rw [x,y];decide
noncomputable abbrev mt (n:Int) (d e:aD):Bool:=w_ n d.start d.fin e.start e.fin
noncomputable def Jo (t:bC):bo:=fun vs H Q _=>∃ a d n p,vs=[.int n,.ref a,.int p]/\et t H a d/\0 < n/\Q (.bq (kg n d.start d.fin p)) H
noncomputable def vY (n:Int) (d e:aD):Bool:=if (e.start=d.start\/e.start=d.fin)\/(e.fin=d.start\/e.fin=d.fin) then false else (kg n d.start d.fin e.start != kg n d.start d.fin e.fin)
noncomputable def Vo (t:bC):bo:=fun vs H Q _=>∃ a b d e n,vs=[.int n,.ref a,.ref b]/\et t H a d/\et t H b e/\0 < n/\aV H/\Q (.bq (vY n d e)) H
noncomputable def abR (t:bC):bo:=fun vs H Q _=>∃ a b d e n,vs=[.int n,.ref a,.ref b]/\et t H a d/\et t H b e/\0 < n/\∀ I,aI H I->Q (.bq (vY n d e)) I
noncomputable def wE (t:bC):bo:=fun vs H Q _=>∃ c n ds,∃ i j:Nat,∃ d e,vs=[.ref c,.str d.name,.str e.name]/\ad t H c n ds/\0 < n/\ds[i]? = some d/\ds[j]? = some e/\aV H/\Q (.bq (mt n d e)) H
theorem Zn:cq P base T 1 t.yb t.ye AZ (Jo t):=by
 exists T.Ap.ok Mu,9
 obtain ⟨a,d,n,p,rfl,W,aF,q⟩:=h;refine ⟨_,(db (bJ (i:=3) Mu.aC (Db h5 (Db gW (U 2) (Gc (U 1) rfl)) (U 0)))
   (aY (b1 (Nc (jl l2 aR (U 3) (cT _)) (xT (jl l2 (U 3) (Db h5 (Db gW (Gc (U 1) rfl) (Gc (U 1) rfl)) (U 0)) (cT _))))))),?_⟩
 nofun;refine ⟨_,W.rI T,_,rfl,aF,?_⟩;unfold kg at q;by_cases c:0 < (p - d.start) % n
 .rw [if_pos (decide_eq_true c)];rw [decide_eq_true c,xh] at q;exact ⟨_,W.rx T,_,W.rI T,_,rfl,_,rfl,aF,q⟩
 .rw [if_neg (by simpa using c)];rw [decide_eq_false c,q4] at q;exact q
theorem A9 (x a b:Int):pV (.int x) [.int a,.int b]=decide (x=a\/x=b):=by
 unfold pV;simp only [pw,Ww,kI,EA];rw [n_];simp only [w5,beq_iff_eq,decide_eq_true_eq];omega
theorem SX:cq P base T 2 t.Ez t.Ik z5 (Vo t):=by
 refine bg.forget (sp:=abR t) ?_ fun vs H Q E h=>?_
 .have OT:bg P w K ao base cH 1 t.yb t.ye AZ (Jo t):=Zn T;exists T.H'.ok S8,9
  obtain ⟨a,b,d,e,n,rfl,hO,m_,aF,q⟩:=h;refine ⟨_,(db (dD (fu.pt (nc (da tu (Gc (U 2) rfl) (fH (af (Gc (U 1) rfl) (af (Gc (U 1) rfl) aB))) (by with_unfolding_all rfl)) (n4 (da tu (Gc (U 2) rfl) (fH (af (Gc (U 1) rfl) (af (Gc (U 1) rfl) aB))) (by with_unfolding_all rfl))))) (aY (b1 hI)) dI)
   (aY (b1 (jl mj (cb OT au T.Qc T.Ap.bF T.Qx (af (U 0) (af (U 1) (af (Gc (U 2) rfl) aB)))) (cb OT au T.Qc T.Ap.bF T.Qx (af (U 0) (af (U 1) (af (Gc (U 2) rfl) aB)))) (cT _))))),?_⟩
  nofun;refine wf (fun b I=>aI H I/\b=decide ((e.start=d.start\/e.start=d.fin)\/(e.fin=d.start\/e.fin=d.fin))) (fun Q a8=>?_) (fun I ⟨a9,ab⟩=>?_) (fun I ⟨a9,ab⟩=>?_)
  .nofun;refine ⟨_,m_.rI T,_,hO.rI T,_,hO.rx T,by decide,fun p aq=>⟨_,.inl (aK.of aU),rfl,rfl,?_⟩⟩;have s1:aI H (upd H p (.lst [.int d.start,.int d.fin])):=bk aq;rw [A9];by_cases bT:e.start=d.start\/e.start=d.fin
   .rw [if_pos (decide_eq_true bT)];exact a8 _ _ ⟨s1,(decide_eq_true (.inl bT)).symm⟩
   .rw [if_neg (by simpa using bT)];refine ⟨_,(m_.same s1).rx T,_,(hO.same s1).rI T,_,(hO.same s1).rx T,by decide,fun dz dV=>⟨_,.inl (aK.of aU),rfl,rfl,?_⟩⟩;rw [A9];refine a8 _ _ ⟨s1.trans (bk dV),?_⟩;rw [n_,decide_eq_true_eq,decide_eq_true_eq];exact ⟨.inr,fun z=>z.resolve_left bT⟩
  .nofun;have fX:=of_decide_eq_true ab.symm;have:=q I a9;unfold vY at this;rw [if_pos fX] at this;exact this
  .nofun;have fX:=of_decide_eq_false ab.symm;refine ⟨_,(m_.same a9).rI T,⟨a,d,n,_,rfl,hO.same a9,aF,?_⟩⟩;refine ⟨_,(m_.same a9).rx T,⟨a,d,n,_,rfl,hO.same a9,aF,?_⟩⟩;refine ⟨rfl,?_⟩;have:=q I a9;unfold vY at this;rw [if_neg fX] at this;rw [show (!decide (V.bq (kg n d.start d.fin e.start)=V.bq (kg n d.start d.fin e.fin)))=(kg n d.start d.fin e.start != kg n d.start d.fin e.fin) by
    cases kg n d.start d.fin e.start <;> cases kg n d.start d.fin e.fin <;> rfl]
   exact this
 .obtain ⟨a,b,d,e,n,ae,ak,a_,cv,bh,q⟩:=h;exact ⟨bh,a,b,d,e,n,ae,ak,a_,cv,fun I a9=>⟨a9,q⟩⟩
theorem adn (n:Int) (d e:aD):mt n d e=(decide (d.fin=e.fin) || vY n d e):=rfl
theorem ZL:cq P base T 3 t.x9 t.SB o3 (wE t):=by
 refine dp (vB T) fun lu=>dp (SX T) fun Vl=>?_;exists T.D'.ok CA,9
 obtain ⟨c,n,ds,i,j,d,e,rfl,C,aF,hd,he,bh,q⟩:=h;obtain ⟨_,aj,wl,aC,ax,aG,bM⟩:=id C;refine ⟨_,(db (bJ (i:=3) CA.aC (e5 (U 0) T.f_ T.nF lu au T.oe .nil c5 (af (U 1) aB)))
   (db (bJ (i:=4) CA.aC (e5 (U 0) T.f_ T.nF lu au T.oe .nil c5 (af (U 2) aB)))
   (aY (b1 (QO (jl hi (Gc (U 3) rfl) (Gc (U 4) rfl) (cT _)) (xT (cb Vl au T.Sd T.H'.bF T.Vn (af (Gc (U 0) rfl) (af (U 3) (af (U 4) aB)))))))))),?_⟩
 rw [adn] at q;nofun;refine ⟨_,_,ax,ih _ _ _ (by ac_nf),⟨c,n,ds,i,d,rfl,C,hd,fun a hO=>?_⟩⟩;nofun;refine ⟨_,_,ax,ih _ _ _ (by ac_nf),⟨c,n,ds,j,e,rfl,C,he,fun b m_=>?_⟩⟩;nofun;refine ⟨_,hO.rx T,_,m_.rx T,rfl,?_⟩;nofun;by_cases bT:d.fin=e.fin
 .rw [if_pos (decide_eq_true bT)];rw [decide_eq_true bT,sO] at q;exact q
 .rw [if_neg (by simpa using bT)];rw [decide_eq_false bT,m2] at q;exact ⟨_,Zi T ax,⟨a,b,d,e,n,rfl,hO,m_,aF,bh,q⟩⟩
noncomputable def Lg (t:bC):bo:=fun vs H Q _=>∃ c n ds,∃ i j:Nat,∃ d e,vs=[.ref c,.str d.name,.str e.name]/\ad t H c n ds/\ds[i]? = some d/\ds[j]? = some e/\Q (.int (if d.off - e.near > 0 then d.off - e.near else 0)) H
theorem Ym:cq P base T 3 t.zF t.xR o3 (Lg t):=by
 refine dp (vB T) fun lu=>?_;exists T.Cx.ok Hv,9
 obtain ⟨c,n,ds,i,j,d,e,rfl,C,hd,he,q⟩:=h;obtain ⟨_,aj,wl,aC,ax,aG,bM⟩:=id C;refine ⟨_,(db (bJ (i:=3) Hv.aC (e5 (U 0) T.f_ T.nF lu au T.oe .nil c5 (af (U 1) aB)))
   (db (bJ (i:=4) Hv.aC (e5 (U 0) T.f_ T.nF lu au T.oe .nil c5 (af (U 2) aB)))
   (aY (b1 (fL (Hn rfl) rfl T.xD am (af aR (af (Db gW (Gc (U 3) rfl) (Gc (U 4) rfl)) aB))))))),?_⟩
 nofun;refine ⟨_,_,ax,ih _ _ _ (by ac_nf),⟨c,n,ds,i,d,rfl,C,hd,fun a hO=>?_⟩⟩;nofun;refine ⟨_,_,ax,ih _ _ _ (by ac_nf),⟨c,n,ds,j,e,rfl,C,he,fun b m_=>?_⟩⟩;nofun;refine ⟨_,hO.Nl T,_,m_.RH T,?_⟩;nofun;exact q
structure ba where
 name:Str
 b:Int
 n:Int
noncomputable def gi (d:ba):df:=.tup [.str d.name,.int d.b,.int d.n]
noncomputable def Nh (p:Int × Int):df:=.tup [.int p.1,.int p.2]
noncomputable def b8 (x:Str) (sp:List ba):List (Int × Int):=(sp.filter fun d=>decide (d.name=x)).map fun d=>(d.b,d.n)
noncomputable def fP (H:ag) (qs:List Addr) (os:List df):Prop:=qs.length=os.length/\∀ (i:Nat) (q:Addr) (o:df),qs[i]? = some q->os[i]? = some o->H q=some o
noncomputable def gn (H:ag) (p:Addr) (os:List df):Prop:=∃ qs:List Addr,H p=some (.lst (qs.map V.ref))/\fP H qs os
theorem fP.same {H I:ag} {qs:List Addr} {os:List df} (h:fP H qs os) (s:aI H I):fP I qs os:=⟨h.1,fun i q o ae ak=>s _ _ (h.2 i q o ae ak)⟩
theorem gn.same {H I:ag} {p:Addr} {os:List df} (h:gn H p os) (s:aI H I):gn I p os:=by
 obtain ⟨qs,e,q⟩:=h;exact ⟨qs,s _ _ e,q.same s⟩
theorem fP.nil (H:ag):fP H [] []:=⟨rfl,fun i q o h _=>by simp at h⟩
theorem fP.app {H:ag} {qs Qm:List Addr} {os Ae:List df} (h:fP H qs os) (h':fP H Qm Ae):fP H (qs ++ Qm) (os ++ Ae):=by
 refine ⟨by rw [dP,dP,h.1,h'.1],fun i q r ae ak=>?_⟩;rw [List.getElem?_append] at ae ak;rw [h.1] at ae;by_cases c:i < os.length
 .rw [if_pos c] at ae ak;exact h.2 i q r ae ak
 .rw [if_neg c] at ae ak;exact h'.2 _ q r ae ak
theorem fP.one {H:ag} {p:Addr} {o:df} (e:H p=some o):fP H [p] [o]:=⟨rfl,fun i q fe ae ak=>by
 match i,ae,ak with
 | 0,ae,ak=>cases ae;cases ak;exact e
 | i + 1,ae,_=>simp at ae⟩
theorem fP.at {H:ag} {qs:List Addr} {os:List df} (h:fP H qs os) {i:Nat} {q:Addr} (aH:qs[i]? = some q):∃ o,os[i]? = some o/\H q=some o:=by
 have ai:i < os.length:=by rw [<- h.1];exact (cg.mp aH).1
 exact ⟨_,b7 ai,h.2 i q _ aH (b7 ai)⟩
theorem QS (x:Str) (sp:List ba) (d:ba):b8 x (sp ++ [d])=b8 x sp ++ if d.name=x then [(d.b,d.n)] else []:=by
 unfold b8;rw [Nf,eM];congr 1;by_cases c:d.name=x
 .rw [if_pos c,Ls (by simpa using c)];rfl
 .rw [if_neg c,Jq (by simpa using c)];rfl
theorem D1 (x:Str) (sp:List ba):(b8 x sp).length <= sp.length:=by
 unfold b8;rw [a'];exact Jn _ _
theorem i1 {α:Type} {xs:List α} {i:Nat} {x:α} (h:xs[i]? = some x):xs.take (i + 1)=xs.take i ++ [x]:=by
 rw [vh,h];rfl
noncomputable def pa {α:Type} (z:Int) (v:α) (l:List α) (i:Int):List α:=l.set (i % z).toNat v
noncomputable def jq {α:Type} (z:Int) (v:α) (b:Int):Nat->List α->List α
 | 0,l=>l
 | k + 1,l=>pa z v (jq z v b k l) (b + k)
noncomputable def nk {α:Type} (z:Int) (v:α) (b:Int):Nat->List α->List α
 | 0,l=>l
 | k + 1,l=>pa z v (nk z v b k l) (b - 1 - k)
theorem M1 {α:Type} (z:Int) (v:α) (l:List α) (i:Int):(pa z v l i).length=l.length:=by unfold pa;rw [zO]
theorem k6 {α:Type} (z:Int) (v:α) (b:Int) (k:Nat) (l:List α):(jq z v b k l).length=l.length:=by
 induction k with
 | zero=>rfl
 | succ k cj=>unfold jq;rw [M1,cj]
theorem pF {α:Type} (z:Int) (v:α) (b:Int) (k:Nat) (l:List α):(nk z v b k l).length=l.length:=by
 induction k with
 | zero=>rfl
 | succ k cj=>unfold nk;rw [M1,cj]
noncomputable def d6 (z:Nat) (ps:List (Int × Int)):List Bool:=ps.foldl (fun l p=>jq z true p.1 p.2.toNat l) (v9 z false)
noncomputable def nt (z rd fd:Nat) (l:List Str) (p:Int × Int):List Str:=jq z (ah "fade") (p.1 + p.2) fd (jq z (ah "free") p.1 p.2.toNat (nk z (ah "ready") p.1 rd l))
noncomputable def hN (z rd fd:Nat) (ps:List (Int × Int)):List Str:=ps.foldl (nt z rd fd) (v9 z (ah "stop"))
theorem aaW {z:Nat} {ps:List (Int × Int)} {i:Nat} {p:Int × Int} (h:ps[i]? = some p):d6 z (ps.take (i + 1))=jq z true p.1 p.2.toNat (d6 z (ps.take i)):=by
 unfold d6;rw [i1 h,OE];rfl
theorem VA {z rd fd:Nat} {ps:List (Int × Int)} {i:Nat} {p:Int × Int} (h:ps[i]? = some p):hN z rd fd (ps.take (i + 1))=nt z rd fd (hN z rd fd (ps.take i)) p:=by
 unfold hN;rw [i1 h,OE];rfl
theorem nL (z:Nat) (ps:List (Int × Int)):(d6 z ps).length=z:=by
 unfold d6
 suffices h:∀ l:List Bool,l.length=z->(ps.foldl (fun l p=>jq z true p.1 p.2.toNat l) l).length=z from h _ (uY ..)
 induction ps with
 | nil=>exact fun l h=>h
 | cons p ps cj=>exact fun l h=>cj _ (by rw [k6];exact h)
theorem Bb (z rd fd:Nat) (ps:List (Int × Int)):(hN z rd fd ps).length=z:=by
 unfold hN
 suffices h:∀ l:List Str,l.length=z->(ps.foldl (nt z rd fd) l).length=z from h _ (uY ..)
 induction ps with
 | nil=>exact fun l h=>h
 | cons p ps cj=>exact fun l h=>cj _ (by unfold nt;rw [k6,k6,pF];exact h)
noncomputable def ra (z:Int) (sp:List ba):Prop:=sp.length <= 100/\∀ d ∈ sp,0 <= d.b/\d.b < 1000/\0 <= d.n/\d.n < 1000
theorem Ot {x:Str} {sp:List ba} {p:Int × Int} (h:p ∈ b8 x sp):∃ d ∈ sp,d.name=x/\p=(d.b,d.n):=by
 unfold b8 at h;obtain ⟨d,hd,rfl⟩:=dX.mp h;have:=j2.mp hd;exact ⟨d,this.1,by simpa using this.2,rfl⟩
theorem aaJ {m:Nat} (h:0 < m) (i:Int):mJ m (i % (m:Int))=some (i % (m:Int)).toNat:=by
 have ae:=e' i (show (m:Int) ≠ 0 by omega);have ak:=ff i (show 0 < (m:Int) by omega);unfold mJ;rw [if_pos ae,if_pos ak]
theorem yL {α β:Type} (f:α->β) {l:List α} {z:Nat} (h:l.length=z) (az:0 < z) (i:Int):mJ (l.map f).length (i % (z:Int))=some (i % (z:Int)).toNat:=by
 rw [a',h];exact aaJ az i
theorem Oo (d:aD):0 <= cI d/\cI d <= 2:=by
 unfold cI;split <;> omega
theorem ack {d:aD} (h:0 <= d.off/\d.off <= 1000):0 <= cK d/\cK d <= 1000:=by
 unfold cK;split <;> omega
theorem AS {d:aD} {m:Str} (h:mq.contains m=false):(kO d).lookup m=none:=BO mq (IQ _) h
noncomputable def ig (l:List Bool):List V:=l.map V.bq
theorem BL {α β:Type} (f:α->β) (z:Int) (v:α) (l:List α) (i:Int):(l.map f).set (i % z).toNat (f v)=(pa z v l i).map f:=by
 unfold pa;rw [SK]
noncomputable def G3:bo:=fun vs H Q _=>∃ p x sp,vs=[.ref p,.str x]/\gn H p (gv gi sp)/\sp.length <= 100/\∀ r I,aI H I->(aV H->aV I)->gn I r ((b8 x sp).map Nh)->Q (.ref r) I
noncomputable def OQ:bo:=fun vs H Q _=>∃ (z:Nat) (p:Addr) (x:Str) (sp:List ba),vs=[.int z,.ref p,.str x]/\(0 < z/\z <= 1000)/\gn H p (gv gi sp)/\ra z sp/\∀ r I,aI H I->(aV H->aV I)->H r=none->I r=some (.lst (ig (d6 z (b8 x sp))))->Q (.ref r) I
noncomputable def Y_ (t:bC):bo:=fun vs H Q _=>∃ (a:Addr) (d:aD) (z:Nat) (p:Addr) (sp:List ba),vs=[.ref a,.int z,.ref p]/\(0 < z/\z <= 1000)/\et t H a d/\gn H p (gv gi sp)/\ra z sp/\(0 <= d.off/\d.off <= 1000)/\∀ r I,aI H I->(aV H->aV I)->H r=none->I r=some (.lst (bE (hN z (cI d).toNat (cK d).toNat (b8 d.name sp))))->Q (.ref r) I
noncomputable def hq (m:List Bool):Nat->Int
 | 0=>0
 | k + 1=>if m[(2 * m.length - 1 - k) % m.length]? = some true then 0 else hq m k + 1
noncomputable def mz (m:List Bool):List Int:=(fc m.length).map fun t=>hq m (2 * m.length - t)
noncomputable def r9 (m:List Bool) (k:Nat):List Int:=(fc k).map fun j=>hq m (m.length + j + 1)
theorem aan (m:List Bool):(r9 m m.length).reverse=mz m:=by
 unfold r9 mz;refine x8 (by simp) (fun i ae ak=>?_);simp at ae;simp;congr 1;omega
noncomputable def qO (m:List Bool):List Int:=(mz m.reverse).reverse
noncomputable def UW:bo:=fun vs H Q _=>∃ (p:Addr) (m:List Bool),vs=[.ref p]/\H p=some (.lst (ig m))/\(0 < m.length/\m.length <= 1000)/\∀ r I,aI H I->(aV H->aV I)->H r=none->I r=some (.lst ((mz m).map V.int))->Q (.ref r) I
noncomputable def MH:bo:=fun vs H Q _=>∃ (p:Addr) (m:List Bool),vs=[.ref p]/\H p=some (.lst (ig m))/\(0 < m.length/\m.length <= 1000)/\∀ r I,aI H I->(aV H->aV I)->H r=none->I r=some (.lst ((qO m).map V.int))->Q (.ref r) I
theorem ir:cq P base T 1 t.vW t.vE qg G3:=by
 exists T.qI.ok XH,9
 obtain ⟨p,x,sp,rfl,⟨qs,cz,hP⟩,aA,q⟩:=h;refine ⟨_,(aY (b1 (l' rfl (fk (U 0)) (iE (sc:=bz CW) rfl (by ac_nf)) (N:=Bp) (sel:=[none,none,none,some 1]) (iS (M:=qg) (by ac_nf)) (gN.of (fun _ _ _ _=>(kf (K:=K) (n:=3) rfl rfl (eU (b' (i:=0) (gb (N:=Bp) (by ac_nf) rfl)) (eU (b' (i:=1) (gb (N:=Bp) (by ac_nf) rfl)) (eU (b' (i:=2) (gb (N:=Bp) (by ac_nf) rfl)) kc))))) (fun _ _ _ _=>⟨_,(vq (da hi (U 0) (U 3) (cT _))),by walk_at "B"⟩) (fun _ _ _ _=>⟨_,(jy (af (U 1) (af (U 2) aB))),by walk_at "B"⟩))))),?_⟩;nofun;have lT:qs.length=sp.length:=by rw [hP.1,a']
 refine ⟨⟨_,aK.of cz⟩,?_⟩;refine dm.list (xs:=qs.map V.ref) (fun i ys I=>∃ os:List Addr,ys=os.map V.ref/\fP I os ((b8 x (sp.take i)).map Nh)/\aI H I/\(aV H->aV I)) (c1 (show (qs.map V.ref).length <= 100 by rw [a'];omega) (by decide)) ⟨[],rfl,fP.nil _,aI.refl _,id⟩ ?_ ?_ ?_
 .rintro i ys I ai aX;ac_rfl
  obtain ⟨os,rfl,r,a9,_⟩:=aX;subst a5;refine ⟨(aK.of cz).same a9,?_⟩;rw [a',r.1,a'];exact c1 (D1 _ _) (by rw [gV];omega)
 .rintro i v ys I aM ⟨os,rfl,r,a9,bh⟩ N bb;obtain ⟨gH,eT,rfl⟩:=cS aM;obtain ⟨o,a7,e⟩:=hP.at eT;obtain ⟨d,hd,rfl⟩:=cS a7;have bB:=a9 _ _ e;nofun;refine ⟨_,bS.of bB,rfl,_,_,rfl,_,_,rfl,_,_,rfl,rfl,Sub.Jk,rfl,?_⟩;dsimp only at bb;rw [i1 hd,QS,eM] at bb;by_cases c:d.name=x
  .rw [if_pos c] at bb;rw [if_pos (by rw [c];exact decide_eq_true rfl)];refine ⟨by decide,fun c7 d8=>bb _ _ ⟨os ++ [c7],by rw [eM];rfl,(r.same (bk d8)).app (fP.one aU),a9.trans (bk d8),fun n=>(bh n).upd⟩⟩
  .rw [if_neg c] at bb;rw [if_neg (by rw [decide_eq_true_eq];intro z;exact c (V.str.inj z))];exact bb _ _ ⟨os,rfl,by rw [i_,oa];exact r,a9,bh⟩
 .rintro ys I ⟨os,rfl,r,a9,bh⟩ c7 d8;rw [o9 (by rw [a'];omega)] at r;exact q _ _ (a9.trans (bk d8)) (fun n=>(bh n).upd) ⟨os,aU,r.same (bk d8)⟩
theorem QM:cq P base T 2 t.AR t.yc yS OQ:=by
 refine dp (ir T) fun nx=>?_;exists T.bi.ok vj,9
 obtain ⟨z,p,x,sp,rfl,az,L,aw,q⟩:=h;refine ⟨_,(db (r4 (i:=3) vj.aC rfl (mE rfl) rfl (kV rfl T.lf (af (U 0) aB)) (iE (sc:=bz Cl) rfl (by ac_nf)) (N:=["turn"]) (sel:=[none]) (iS (M:=["size","spans","name","marks","begin","turns","step"]) (by ac_nf)) (gN.of (fun _ _ _ _=>(b' (i:=0) (gb (N:=["turn"]) (by ac_nf) rfl))) (fun _ _ _ _=>⟨_,kP,by walk_at "B"⟩) (fun _ _ _ _=>⟨_,hI,by walk_at "B"⟩)) rfl)
   (db (er fG rfl (fk (cb nx au T.vT T.qI.bF T.vA (af (U 1) (af (U 2) aB)))) (kf (K:=K) (n:=2) rfl rfl (eU (b' (i:=4) vj.aC) (eU (b' (i:=5) vj.aC) kc))) (aY (er fG rfl (kV rfl T.lf (af (U 5) aB)) (b' (i:=6) vj.aC) (aY (pj hI (s9 (U 3) (Db h5 (Db dj (U 4) (U 6)) (U 0)) td))))))
   (aY (b1 (U 3))))),?_⟩
 nofun;obtain ⟨pD,qi⟩:=az;obtain ⟨ug,f6⟩:=aw;refine ⟨by omega,by omega,?_⟩;refine dm.Oe (fun _=>V.bq false) (c1 (show (z:Int).toNat <= 1000 by omega) (by decide)) (fun i N ai bb=>?_) (fun mk jS=>?_)
 .nofun;exact ⟨Sub.name,bb⟩
 rw [show (fc (z:Int).toNat).map (fun _=>V.bq false)=ig (d6 z []) by
  unfold ig d6;rw [vf,ag3];exact x8 (by simp) (by simp)]
 refine ⟨p,x,sp,rfl,L.same (bk jS),ug,fun r H1 s1 ei jF=>⟨r,rfl,?_⟩⟩;obtain ⟨qs,cz,hP⟩:=jF;refine ⟨⟨_,aK.of cz⟩,?_⟩;have nS:H1 mk=some (.lst (ig (d6 z []))):=s1 _ _ aU;have Hg:r ≠ mk:=fun e=>by
  subst e;rw [cz] at nS;injection nS with ax;injection ax with aG;have bM:=congrArg md aG;cases qs with
  | nil=>simp [ig,nL] at bM;omega
  | cons a qs=>
   have:(ig (d6 z []))[0]? = some (V.ref a):=by rw [<- aG];rfl
   unfold ig at this;rw [eA] at this;cases cN:(d6 z [])[0]? with
   | none=>rw [cN] at this;cases this
   | some b=>rw [cN] at this;cases this
 refine du.list (xs:=qs.map V.ref) (fun i σ I=>(∃ a b c,σ=[some (V.int z),some (V.ref p),some (V.str x),some (V.ref mk),a,b,c])/\cc mk H1 I/\(aV H->aV I)/\I mk=some (.lst (ig (d6 z ((b8 x sp).take i))))) ?_ ?_ ?_ ?_
 .exact ⟨⟨_,_,_,rfl⟩,fun b u _ e=>e,fun n=>ei n.upd,nS⟩
 .rintro i σ I ai aX;ac_rfl
  obtain ⟨_,dU,_,_⟩:=aX;subst a5;exact aK.of (dU _ _ Hg cz)
 .rintro i v σ I aM aX;ac_rfl
  obtain ⟨⟨a,b,c,rfl⟩,dU,ed,hm⟩:=aX;obtain ⟨gH,eT,rfl⟩:=cS aM;obtain ⟨o,a7,e⟩:=hP.at eT;obtain ⟨d,hd,rfl⟩:=cS a7;obtain ⟨dc,jm,agn,rfl⟩:=Ot (c2 hd);have ab:=f6 dc jm;have bB:=dU _ _ (d0 e nS (by intro z;cases z)) e;subst a5;nofun;refine ⟨_,bS.of bB,rfl,_,_,rfl,_,_,rfl,rfl,_,rfl,(by dsimp only;omega),(by dsimp only;omega),?_⟩;rw [aaW hd];refine du.range (fun k σ I=>(∃ c,σ=[some (V.int z),some (V.ref p),some (V.str x),some (V.ref mk),some (V.int dc.b),some (V.int dc.n),c])/\cc mk H1 I/\(aV H->aV I)/\I mk=some (.lst (ig (jq z true dc.b k (d6 z ((b8 x sp).take i)))))) ?_ ?_ ?_
  .exact ⟨⟨_,rfl⟩,dU,ed,hm⟩
  .rintro k σ ay aE aX;ac_rfl
   obtain ⟨⟨c,rfl⟩,kz,fb,i9⟩:=aX;subst a5;nofun;refine ⟨by omega,_,i9,_,yL V.bq (by rw [k6,nL]) pD _,⟨_,rfl⟩,fun b u ab e=>by rw [aW ab];exact kz _ _ ab e,fun n=>(fb n).upd,?_⟩;rw [aU];unfold ig;rw [BL V.bq];rfl
  .rintro σ ay aX;ac_rfl
   obtain ⟨⟨c,rfl⟩,kz,fb,i9⟩:=aX;subst a5;exact ⟨⟨_,_,_,rfl⟩,kz,fb,i9⟩
 .rintro σ I aX;ac_rfl
  obtain ⟨⟨a,b,c,rfl⟩,dU,ed,hm⟩:=aX;subst a5;nofun;rw [o9 (by rw [a',hP.1,a'];exact b2 _)] at hm;exact q _ _ (mc ((bk jS).trans s1) dU jS) ed jS hm
theorem ZC:cq P base T 2 t.FP t.Fq GC (Y_ t):=by
 refine dp (ir T) fun nx=>?_;have Du:nq P w K ao base cH 1 (rR t) "ready" ["self"] (rV t):=PS T;have Gv:nq P w K ao base cH 1 (rR t) "fade" ["self"] (r0 t):=Oc T;exists T.CV.ok qD,9
 obtain ⟨a,d,z,p,sp,rfl,⟨pD,qi⟩,W,L,⟨ug,f6⟩,TN,q⟩:=h;refine ⟨_,(db (r4 (i:=3) qD.aC rfl (mE rfl) rfl (kV rfl T.lf (af (U 1) aB)) (iE (sc:=bz BU) rfl (by ac_nf)) (N:=["turn"]) (sel:=[none]) (iS (M:=["way","size","spans","shown","begin","turns","step"]) (by ac_nf)) (gN.of (fun _ _ _ _=>(b' (i:=0) (gb (N:=["turn"]) (by ac_nf) rfl))) (fun _ _ _ _=>⟨_,kP,by walk_at "B"⟩) (fun _ _ _ _=>⟨_,cC,by walk_at "B"⟩)) rfl)
   (db (er fG rfl (fk (cb nx au T.vT T.qI.bF T.vA (af (U 2) (af (Gc (U 0) rfl) aB)))) (kf (K:=K) (n:=2) rfl rfl (eU (b' (i:=4) qD.aC) (eU (b' (i:=5) qD.aC) kc))) (db (er fG rfl (kV rfl T.lf (af (A2 (U 0) Du au c5) aB)) (b' (i:=6) qD.aC) (aY (pj cC (s9 (U 3) (Db h5 (Db gW (Db gW (U 4) aR) (U 6)) (U 1)) td))))
   (db (er fG rfl (kV rfl T.lf (af (U 5) aB)) (b' (i:=6) qD.aC) (aY (pj cC (s9 (U 3) (Db h5 (Db dj (U 4) (U 6)) (U 1)) td))))
   (aY (er fG rfl (kV rfl T.lf (af (A2 (U 0) Gv au c5) aB)) (b' (i:=6) qD.aC) (aY (pj cC (s9 (U 3) (Db h5 (Db dj (Db dj (U 4) (U 5)) (U 6)) (U 1)) td))))))))
   (aY (b1 (U 3))))),?_⟩
 nofun;refine ⟨by omega,by omega,?_⟩;refine dm.Oe (fun _=>V.str (ah "stop")) (c1 (show (z:Int).toNat <= 1000 by omega) (by decide)) (fun i N ai bb=>?_) (fun mk jS=>?_)
 .nofun;exact ⟨Sub.name,bb⟩
 rw [show (fc (z:Int).toNat).map (fun _=>V.str (ah "stop"))=bE (hN z (cI d).toNat (cK d).toNat []) by
  unfold bE hN;rw [vf,ag3];exact x8 (by simp) (by simp)]
 have YO:=Oo d;have DQ:=ack TN;obtain ⟨tq,aj,AA⟩:=id W;have k1:∀ {I:ag},cc mk (upd H mk (.lst (bE (hN z (cI d).toNat (cK d).toNat [])))) I->I a=some (.ins (t.fx d.k) aj (kO d)):=fun dU=>dU _ _ (cy AA jS) ((bk jS) _ _ AA)
 refine ⟨_,(W.same (bk jS)).BB T,p,d.name,sp,rfl,L.same (bk jS),ug,fun r H1 s1 ei jF=>⟨r,rfl,?_⟩⟩;obtain ⟨qs,cz,hP⟩:=jF;refine ⟨⟨_,aK.of cz⟩,?_⟩;have nS:H1 mk=some (.lst (bE (hN z (cI d).toNat (cK d).toNat []))):=s1 _ _ aU;have Hg:r ≠ mk:=fun e=>by
  subst e;rw [cz] at nS;injection nS with ax;injection ax with aG;have bM:=congrArg md aG;cases qs with
  | nil=>simp [bE,Bb] at bM;omega
  | cons a qs=>
   have:(bE (hN z (cI d).toNat (cK d).toNat []))[0]? = some (V.ref a):=by rw [<- aG];rfl
   unfold bE at this;rw [eA] at this;cases cN:(hN z (cI d).toNat (cK d).toNat [])[0]? with
   | none=>rw [cN] at this;cases this
   | some b=>rw [cN] at this;cases this
 have P1:∀ {I:ag},cc mk H1 I->et t I a d:=fun dU=>⟨tq,aj,dU _ _ (cy AA jS) (s1 _ _ ((bk jS) _ _ AA))⟩
 refine du.list (xs:=qs.map V.ref) (fun i σ I=>(∃ a1 b c,σ=[some (V.ref a),some (V.int z),some (V.ref p),some (V.ref mk),a1,b,c])/\cc mk H1 I/\(aV H->aV I)/\I mk=some (.lst (bE (hN z (cI d).toNat (cK d).toNat ((b8 d.name sp).take i))))) ?_ ?_ ?_ ?_
 .exact ⟨⟨_,_,_,rfl⟩,fun b u _ e=>e,fun n=>ei n.upd,nS⟩
 .rintro i σ I ai aX;ac_rfl
  obtain ⟨_,dU,_,_⟩:=aX;subst a5;exact aK.of (dU _ _ Hg cz)
 .rintro i v σ I aM aX;ac_rfl
  obtain ⟨⟨a1,b,c,rfl⟩,dU,ed,hm⟩:=aX;obtain ⟨gH,eT,rfl⟩:=cS aM;obtain ⟨o,a7,e⟩:=hP.at eT;obtain ⟨dO,hd,rfl⟩:=cS a7;obtain ⟨dc,jm,agn,rfl⟩:=Ot (c2 hd);have ab:=f6 dc jm;have bB:=dU _ _ (d0 e nS (by intro z;cases z)) e;have W1:=P1 dU;obtain ⟨_,CI,SS⟩:=id W1;subst a5;nofun;refine ⟨_,bS.of bB,rfl,_,_,rfl,_,_,rfl,rfl,_,_,_,SS,⟨_,tq,rfl⟩,AS (by ac_nf),_,d,rfl,W1,rfl,_,rfl,by omega,by omega,?_⟩;rw [VA hd];refine du.range (fun k σ I=>(∃ c,σ=[some (V.ref a),some (V.int z),some (V.ref p),some (V.ref mk),some (V.int dc.b),some (V.int dc.n),c])/\cc mk H1 I/\(aV H->aV I)/\I mk=some (.lst (bE (nk z (ah "ready") dc.b k (hN z (cI d).toNat (cK d).toNat ((b8 d.name sp).take i)))))) ?_ ?_ ?_
  .exact ⟨⟨_,rfl⟩,dU,ed,hm⟩
  .rintro k σ ay aE aX;ac_rfl
   obtain ⟨⟨c,rfl⟩,kz,fb,i9⟩:=aX;subst a5;nofun;refine ⟨by omega,_,i9,_,yL V.str (by rw [pF,Bb]) pD _,⟨_,rfl⟩,fun b u ab e=>by rw [aW ab];exact kz _ _ ab e,fun n=>(fb n).upd,?_⟩;rw [aU];unfold bE;rw [BL V.str];rfl
  rintro σ ay aX;ac_rfl
  obtain ⟨⟨c,rfl⟩,kz,fb,i9⟩:=aX;subst a5;nofun;refine ⟨by omega,by omega,?_⟩;refine du.range (fun k σ I=>(∃ c,σ=[some (V.ref a),some (V.int z),some (V.ref p),some (V.ref mk),some (V.int dc.b),some (V.int dc.n),c])/\cc mk H1 I/\(aV H->aV I)/\I mk=some (.lst (bE (jq z (ah "free") dc.b k (nk z (ah "ready") dc.b (cI d).toNat (hN z (cI d).toNat (cK d).toNat ((b8 d.name sp).take i))))))) ?_ ?_ ?_
  .exact ⟨⟨_,rfl⟩,kz,fb,i9⟩
  .rintro k σ ay aE aX;ac_rfl
   obtain ⟨⟨c,rfl⟩,kz,fb,i9⟩:=aX;subst a5;nofun;refine ⟨by omega,_,i9,_,yL V.str (by rw [k6,pF,Bb]) pD _,⟨_,rfl⟩,fun b u ab e=>by rw [aW ab];exact kz _ _ ab e,fun n=>(fb n).upd,?_⟩;rw [aU];unfold bE;rw [BL V.str];rfl
  rintro σ bA aX;ac_rfl
  obtain ⟨⟨c,rfl⟩,Kt,jj,Si⟩:=aX;have Qr:=P1 Kt;obtain ⟨_,ahz,oz⟩:=id Qr;subst a5;nofun;refine ⟨_,_,_,oz,⟨_,tq,rfl⟩,AS (by ac_nf),_,d,rfl,Qr,rfl,_,rfl,by omega,by omega,?_⟩;refine du.range (fun k σ I=>(∃ c,σ=[some (V.ref a),some (V.int z),some (V.ref p),some (V.ref mk),some (V.int dc.b),some (V.int dc.n),c])/\cc mk H1 I/\(aV H->aV I)/\I mk=some (.lst (bE (jq z (ah "fade") (dc.b + dc.n) k (jq z (ah "free") dc.b dc.n.toNat (nk z (ah "ready") dc.b (cI d).toNat (hN z (cI d).toNat (cK d).toNat ((b8 d.name sp).take i)))))))) ?_ ?_ ?_
  .exact ⟨⟨_,rfl⟩,Kt,jj,Si⟩
  .rintro k σ ay aE aX;ac_rfl
   obtain ⟨⟨c,rfl⟩,kz,fb,i9⟩:=aX;subst a5;nofun;refine ⟨by omega,_,i9,_,yL V.str (by rw [k6,k6,pF,Bb]) pD _,⟨_,rfl⟩,fun b u ab e=>by rw [aW ab];exact kz _ _ ab e,fun n=>(fb n).upd,?_⟩;rw [aU];unfold bE;rw [BL V.str];rfl
  .rintro σ ay aX;ac_rfl
   obtain ⟨⟨c,rfl⟩,kz,fb,i9⟩:=aX;subst a5;exact ⟨⟨_,_,_,rfl⟩,kz,fb,i9⟩
 .rintro σ I aX;ac_rfl
  obtain ⟨⟨a1,b,c,rfl⟩,dU,ed,hm⟩:=aX;subst a5;nofun;rw [o9 (by rw [a',hP.1,a'];exact b2 _)] at hm;exact q _ _ (mc ((bk jS).trans s1) dU jS) ed jS hm
theorem QE:cq P base T 1 t.H0 t.Hz ["marks"] UW:=by
 exists T.y8.ok sM,9
 obtain ⟨p,m,rfl,hm,aA,q⟩:=h;refine ⟨_,(db (bJ (i:=1) sM.aC (fL ac rfl T.hH hT (af (U 0) aB)))
   (db (bJ (i:=2) sM.aC aR)
   (db (bJ (i:=3) sM.aC (fH aB))
   (db (er fG rfl (QR rfl T.lf (af (Db gW (Db qP aR (U 1)) aR) (af (um uA aR) (af (um uA aR) aB)))) (b' (i:=4) sM.aC) (db (bJ (i:=2) sM.aC (cr (iW (bX ew (U 0) (Db h5 (U 4) (U 1)))) aR (Db dj (U 2) aR)))
   (aY (dD (da l2 (U 4) (U 1) (cT _)) (aY (rc (iT lZ oA pS ot (U 3) (af (U 2) aB)))) dI))))
   (aY (b1 (Eh rfl rfl T.F0 rfl T.ap (af (U 3) aB)))))))),?_⟩
 nofun;refine ⟨_,.inl (aK.of hm),fv _,fun u bQ=>?_⟩;have aao:(ig m).length=m.length:=by unfold ig;rw [a']
 rw [aao];refine ⟨by unfold mT;omega,by omega,by omega,by omega,by omega,?_⟩;have oq:p ≠ u:=cy hm bQ;refine du.of (n:=2 * m.length) (fun k σ I=>(∃ x,σ=[some (V.ref p),some (V.int m.length),some (V.int (hq m k)),some (V.ref u),x])/\cc u H I/\(aV H->aV I)/\I u=some (.lst ((r9 m (k - m.length)).map V.int))) ?_ (fun i σ I ai _=>?_) (fun σ I _=>?_) ?_ ?_
 .exact ⟨⟨_,rfl⟩,fun b o ab e=>by rw [aW ab];exact e,fun n=>n.upd,by rw [aU,Nat.zero_sub];rfl⟩
 .show i < _;omega
 .show _ <= 2 * m.length;omega
 .rintro k σ wV v I aE ⟨⟨x,rfl⟩,dU,ed,sY⟩ ⟨rfl,rfl⟩;have Jd:(2 * m.length - 1 - k) % m.length < m.length:=zv _ aA.1;have IH:m[(2 * m.length - 1 - k) % m.length]? = some m[(2 * m.length - 1 - k) % m.length]:=b7 Jd;have aZ:((2 * m.length - 1 - k:Int)) % (m.length:Int)=(((2 * m.length - 1 - k) % m.length:Nat):Int):=by
   rw [Zq];congr 1;omega
  have Ia:d_ (ig m) ((2 * m.length - 1 - k:Int) % (m.length:Int))=some (V.bq m[(2 * m.length - 1 - k) % m.length]):=by
   rw [aZ];exact cR (by unfold ig;rw [eA,IH];rfl)
  have gd:hq m (k + 1)=if m[(2 * m.length - 1 - k) % m.length]=true then 0 else hq m k + 1:=by
   show (if m[(2 * m.length - 1 - k) % m.length]? = some true then 0 else hq m k + 1)=_;rw [IH];simp
  simp only [fO,eu,jv,je];exists (fun σ bY=>bY=I/\σ=[some (V.ref p),some (V.int m.length),some (V.int (hq m (k + 1))),some (V.ref u),some (V.int (2 * m.length - 1 - k))]),0
  .nofun;refine ⟨by omega,_,aK.of (dU _ _ oq hm),_,Ia,_,rfl,?_⟩;rw [gd] at bj;by_cases c:m[(2 * m.length - 1 - k) % m.length]=true
   .rw [if_pos c] at bj ⊢;exact bj _ _ ⟨rfl,rfl⟩
   .rw [if_neg c] at bj ⊢;exact bj _ _ ⟨rfl,rfl⟩
  rintro σ bY ⟨rfl,rfl⟩;subst a5;dsimp only;refine ec (decide ((2 * m.length - 1 - k:Int) < m.length)) (fun Q a8=>?_) (fun ar=>?_) (fun ar=>?_)
  .nofun;exact a8
  .nofun;have ni:=of_decide_eq_true ar;refine ⟨.inl ⟨_,aK.of sY⟩,_,sY,j0 (show ((r9 m (k - m.length)).map V.int).length <= 1000 by unfold r9;simp;omega) (by decide),⟨_,rfl⟩,fun b o ab e=>by rw [aW ab];exact dU _ _ ab e,fun n=>(ed n).upd,?_⟩;rw [aU,show k + 1 - m.length=k - m.length + 1 by omega];unfold r9;rw [Ei,eM,eM];simp only [eJ,i_];rw [show m.length + (k - m.length) + 1=k + 1 by omega]
  .nofun;have ni:=of_decide_eq_false ar;refine ⟨⟨_,rfl⟩,dU,ed,?_⟩;rw [sY,show k - m.length=0 by omega,show k + 1 - m.length=0 by omega]
 .rintro σ I aX;ac_rfl
  obtain ⟨⟨x,rfl⟩,dU,ed,sY⟩:=aX;subst a5;nofun;refine ⟨_,aK.of sY,fun l jx=>?_⟩;have aiH:l ≠ u:=fun z=>by subst z;rw [sY] at jx;cases jx
  refine q _ _ ((mc (aI.refl H) dU bQ).trans (bk jx)) (fun n=>(ed n).upd) ((mc (aI.refl H) dU bQ).free jx) ?_;rw [aU,show 2 * m.length - m.length=m.length by omega,<- K',aan]
theorem afx:cq P base T 2 t.AW t.xO ["marks"] MH:=by
 refine dp (QE T) fun Gx=>?_;exists T.Gm.ok afg,9
 obtain ⟨p,m,rfl,hm,aA,q⟩:=h;refine ⟨_,(aY (b1 (Eh rfl rfl T.F0 rfl T.ap (af (cb Gx au T.Oi T.y8.bF T.Ir (af (Eh rfl rfl T.F0 rfl T.ap (af (U 0) aB)) aB)) aB)))),?_⟩;nofun;refine ⟨_,aK.of hm,fun cz ae=>?_⟩;refine ⟨cz,m.reverse,rfl,by rw [aU,ig,ig,K'],by rw [uW];exact aA,fun r H1 s1 ei oS bQ=>⟨r,rfl,_,aK.of bQ,fun fh ak=>?_⟩⟩;refine q _ _ (((bk ae).trans s1).trans (bk ak)) (fun n=>(ei n.upd).upd) (((bk ae).trans s1).free ak) ?_;rw [aU,<- K'];rfl
noncomputable def pZ (x:Str):Prop:=x.length <= 1000/\∀ c ∈ x.cps.toList,c < 16 ^ 8
noncomputable def mQ (C:Addr) (aN:List (Str × V)) (H:ag) (E:cD):Prop:=∀ aj I,aI H I->(aV H->aV I)->I aj=some (.ext (e4 aj aN))->E (.ref C) (some aj) I
theorem mQ.step {C:Addr} {aN:List (Str × V)} {H H1:ag} {E:cD} (h:mQ C aN H E) (s:aI H H1) (n:aV H->aV H1):mQ C aN H1 E:=fun aj I s' g8 e=>h aj I (s.trans s') (fun z=>g8 (n z)) e
noncomputable def pv (ds:List aD):Prop:=∀ d ∈ ds,pZ d.name/\0 <= d.off/\d.off <= 1000
noncomputable def jU (ds:List aD) (sp:List ba):Option Str:=(ds.map (·.name)).find? fun x=>(b8 x sp).isEmpty
noncomputable def N5 (t:bC):bo:=fun vs H Q _=>∃ x n,vs=[.ref x,.str n]/\pZ n/\H x=some (.ext (dB x t.ep none)) /\
 ∀ aj,H aj=none->aj ≠ x->Q .bH (upd (upd H x (.ext (dB x t.ep (some aj)))) aj (.ext (e4 aj [(ah "way",.str n)])))
noncomputable def Ji (t:bC):bo:=fun vs H Q _=>∃ x n i,vs=[.ref x,.str n,.int i]/\pZ n/\i.natAbs.log2 < 1920/\H x=some (.ext (dB x t.el none)) /\
 ∀ aj,H aj=none->aj ≠ x->Q .bH (upd (upd H x (.ext (dB x t.el (some aj)))) aj (.ext (e4 aj [(ah "way",.str n),(ah "at",.int i)])))
noncomputable def L' (t:bC):bo:=fun vs H Q _=>∃ x n m i,vs=[.ref x,.str n,.str m,.int i]/\pZ n/\pZ m/\i.natAbs.log2 < 1920/\H x=some (.ext (dB x t.d7 none)) /\
 ∀ aj,H aj=none->aj ≠ x->Q .bH (upd (upd H x (.ext (dB x t.d7 (some aj)))) aj (.ext (e4 aj [(ah "way",.str n),(ah "other",.str m),(ah "at",.int i)])))
noncomputable def QV (t:bC):bo:=fun vs H Q E=>∃ c n ds p sp,vs=[.ref c,.ref p]/\ad t H c n ds/\pv ds/\gn H p (gv gi sp)/\sp.length <= 100 /\
 match jU ds sp with
 | none=>∀ I,aI H I->(aV H->aV I)->Q .bH I
 | some x=>mQ t.ep [(ah "way",.str x)] H E
noncomputable def o6 (z:Int) (sp:List ba) (k:Nat) (d:ba):Int:=(((b8 d.name (sp.eraseIdx k)).map fun p=>(p.1 - d.b) % z).min?).getD z
noncomputable def NM:bo:=fun vs H Q E=>∃ (z:Int) (p:Addr) (sp:List ba) (k:Nat) (d:ba),vs=[.int z,.ref p,.int k]/\0 < z/\gn H p (gv gi sp)/\sp.length <= 100/\sp[k]? = some d/\∀ I,aI H I->(aV H->aV I)->Q (.int (o6 z sp k d)) I
theorem VE {α:Type} (l:List α) (x:α) (k:Nat):(l ++ [x]).eraseIdx k=if k=l.length then l.eraseIdx k else l.eraseIdx k ++ [x]:=by
 by_cases h:k < l.length
 .rw [if_neg (by omega),List.eraseIdx_append_of_lt_length h]
 .rw [List.eraseIdx_append_of_length_le (by omega),adT (l:=l) (by omega)];by_cases ak:k=l.length
  .rw [if_pos ak,ak,Nat.sub_self];simp
  .rw [if_neg ak,adT (by simp;omega)]
noncomputable def kn (ds:List aD) (x:Str):Option aD:=ds.find? fun d=>decide (d.name=x)
noncomputable def lv (ds:List aD) (z:Int) (sp:List ba) (k:Nat) (s:ba):Bool:=(kn ds s.name).any fun d=>decide (s.n < d.least) || decide (o6 z sp k s < s.n + cK d + cI d)
noncomputable def lh (ds:List aD) (z:Int) (sp:List ba):Option (ba × Nat):=sp.zipIdx.find? fun e=>lv ds z sp e.2 e.1
noncomputable def Q7 (t:bC):bo:=fun vs H Q E=>∃ (c:Addr) (n:Int) (ds:List aD) (z:Int) (p:Addr) (sp:List ba),vs=[.ref c,.int z,.ref p]/\ad t H c n ds/\pv ds/\(0 < z/\z <= 1000)/\gn H p (gv gi sp)/\ra z sp/\(∀ s ∈ sp,∃ d,kn ds s.name=some d) /\
 match lh ds z sp with
 | none=>∀ I,aI H I->(aV H->aV I)->Q .bH I
 | some e=>mQ t.el [(ah "way",.str e.1.name),(ah "at",.int e.1.b)] H E
theorem Oj {P:Program} {w:World} {K:a6} {ao:Str->Option Value} {base:Heap} {CX:fR} {j k:Nat} {kW:Addr->Prop} {m:Str} {ps:List Str} {k_:Addr->bo} (V:nq P w K ao base CX j kW m ps k_) (h:j <= k):nq P w K ao base CX k kW m ps k_:=⟨fun C cm=>by
 obtain ⟨f,fd,ae,ak,a_,cv⟩:=V.ok C cm;exact ⟨f,fd,ae,ak,a_.mono h,cv⟩⟩
theorem QH {ds:List aD} {x:Str} {d:aD} (h:kn ds x=some d):d.name=x/\∃ i:Nat,ds[i]? = some d:=by
 unfold kn at h;refine ⟨by simpa using List.find?_some h,?_⟩;obtain ⟨i,ai,e⟩:=sg (List.mem_of_find?_eq_some h);exact ⟨i,by rw [b7 ai,e]⟩
noncomputable def gy (cA c':aD):Int:=if cA.off - c'.near > 0 then cA.off - c'.near else 0
noncomputable def mA (g:Int) (e0 eW:List Int):Option ((Int × Int) × Nat):=(e0.zip eW).zipIdx.find? fun e=>decide (e.1.2=0) && decide (e.1.1 <= g)
noncomputable def Kb (t:bC):bo:=fun vs H Q E=>∃ (c:Addr) (n:Int) (ds:List aD) (cA c':aD) (c7 dz:Addr) (e0 eW:List Int),vs=[.ref c,.str cA.name,.str c'.name,.ref c7,.ref dz]/\ad t H c n ds/\pv ds/\cA ∈ ds/\c' ∈ ds/\H c7=some (.lst (e0.map V.int))/\H dz=some (.lst (eW.map V.int))/\e0.length=eW.length/\e0.length <= 1000 /\
 match mA (gy cA c') e0 eW with
 | none=>∀ I,aI H I->(aV H->aV I)->Q .bH I
 | some e=>mQ t.d7 [(ah "way",.str cA.name),(ah "other",.str c'.name),(ah "at",.int e.2)] H E
noncomputable def kD (z:Nat) (sp:List ba) (x:Str):List Int:=qO (d6 z (b8 x sp))
noncomputable def qU (n:Int) (z:Nat) (sp:List ba) (cA c':aD):Option Nat:=if cA.name ≠ c'.name/\mt n cA c'=true then (mA (gy cA c') (kD z sp cA.name) (kD z sp c'.name)).map (·.2) else none
noncomputable def ti (n:Int) (z:Nat) (sp:List ba) (cA:aD) (ds:List aD):Option (aD × aD × Nat):=ds.findSome? fun c'=>(qU n z sp cA c').map fun i=>(cA,c',i)
noncomputable def lx (n:Int) (z:Nat) (sp:List ba) (ds:List aD):Option (aD × aD × Nat):=ds.findSome? fun cA=>ti n z sp cA ds
noncomputable def JS (t:bC):bo:=fun vs H Q E=>∃ (c:Addr) (n:Int) (ds:List aD) (z:Nat) (p:Addr) (sp:List ba),vs=[.ref c,.int z,.ref p]/\ad t H c n ds/\0 < n/\pv ds/\(0 < z/\z <= 1000)/\gn H p (gv gi sp)/\ra z sp/\aV H /\
 match lx n z sp ds with
 | none=>∀ I,aI H I->aV I->Q .bH I
 | some e=>mQ t.d7 [(ah "way",.str e.1.name),(ah "other",.str e.2.1.name),(ah "at",.int e.2.2)] H E
theorem xA (m:List Bool):(mz m).length=m.length:=by unfold mz;simp
theorem Op (z:Nat) (sp:List ba) (x:Str):(kD z sp x).length=z:=by
 unfold kD qO;rw [uW,xA,uW,nL]
noncomputable def fW (ds:List aD) (rs:List Addr):List (Key × V):=(ds.zip rs).map fun e=>(bN e.1.name,V.ref e.2)
noncomputable def qB (H:ag) (p:Addr) (ds:List aD) (f:aD->df) (n:Nat):Prop:=∃ rs:List Addr,rs.length=n/\H p=some (.cE (fW ds rs))/\∀ (i:Nat) (r:Addr) (d:aD),rs[i]? = some r->ds[i]? = some d->H r=some (f d)
theorem vi {ds:List aD} (h:(ds.map (·.name)).Nodup) {i j:Nat} {d e:aD} (ai:ds[i]? = some d) (aZ:ds[j]? = some e) (z:d.name=e.name):i=j:=
 z8 h (cg.mp ai).1 (cg.mp aZ).1 (by rw [mi ai,mi aZ];exact z)
theorem Ho {ds:List aD} {rs:List Addr} (h:(ds.map (·.name)).Nodup) {i:Nat} {d:aD} {r:Addr} (hd:ds[i]? = some d) (au:rs[i]? = some r):dJ (fW ds rs) (bN d.name)=some (.ref r):=by
 obtain ⟨ae,ax⟩:=cg.mp hd;obtain ⟨ak,aG⟩:=cg.mp au;unfold dJ;have hf:OA (fun c8=>decide (c8.1=(bN d.name:Key))) (fW ds rs)=some (bN d.name,.ref r):=by
  rw [WJ];refine ⟨by simp,i,by unfold fW;simp;omega,by unfold fW;simp [ax,aG],fun j aZ=>?_⟩;unfold fW;simp;intro z;have:=vi h (b7 (show j < ds.length by omega)) hd z;omega
 rw [hf];rfl
theorem D2 {ds:List aD} {rs:List Addr} (h:(ds.map (·.name)).Nodup) {d:aD} {r:Addr} (hd:ds[rs.length]? = some d):gA (fW ds rs) (bN d.name) (.ref r)=fW ds (rs ++ [r]):=by
 obtain ⟨ae,ax⟩:=cg.mp hd;unfold gA;have no:((fW ds rs).any fun c8=>decide (c8.1=bN d.name))=false:=by
  rw [EX];intro p aq;unfold fW at aq;obtain ⟨e,he,rfl⟩:=dX.mp aq;obtain ⟨j,aZ,Z0⟩:=sg he;simp only [decide_eq_true_eq];intro z;have z:=wZ z;rw [<- Z0] at z;simp at aZ z;have:=vi h (b7 (show j < ds.length by omega)) hd z;omega
 rw [no,if_neg (by decide)];unfold fW;refine x8 (by simp;omega) (fun i a_ cv=>?_);simp at a_ cv;by_cases c:i < rs.length
 .simp [X3,c,show i < ds.length by omega];rw [dif_pos (by omega)]
 .have:i=rs.length:=by omega
  subst this;simp [X3,pM ae,ax]
theorem VQ:cq P base T 1 t.w1 t.zm vR (N5 t):=by
 exists T.Jg.ok ZT,9
 obtain ⟨x,n,rfl,aF,av,q⟩:=h;refine ⟨_,(db (rc (On rfl T.sh T.uk (af (U 0) (af (tF (mu (t9 (U 1) (mu u_))) (by rw [sizeLine_eq];decide)) aB))))
   (aY (w2 (U 0) (U 1) rfl))),?_⟩
 nofun;refine ⟨aF.1,aF.2,fun y=>⟨_,_,av,T.Ao,?_⟩⟩;exact ⟨_,av,T.Ao,T.afH,q⟩
theorem KM:cq P base T 1 t.we t.xw xd (Ji t):=by
 exists T.Qg.ok Vp,9
 obtain ⟨x,n,i,rfl,aF,ai,av,q⟩:=h;refine ⟨_,(db (rc (On rfl T.sh T.uk (af (U 0) (af (tF (mu (t9 (U 1) (mu (ya (U 2) u_)))) (by rw [sizeLine_eq];decide)) aB))))
   (db (w2 (U 0) (U 1) rfl)
   (aY (x6 (U 0) (U 2) rfl)))),?_⟩
 nofun;refine ⟨aF.1,aF.2,ai,fun y=>⟨_,_,av,T.vL,?_⟩⟩;refine ⟨_,av,T.vL,T.aa3,fun aj hd bR=>?_⟩;refine ⟨_,aj,by rw [aW (c6 bR),aU],_,aU,T.vL,T.WB,show 1 < 1000 by decide,?_⟩;rw [nz,show c_ (ah "at") (V.int i) ([(ah "way",V.str n)]:List (Str × V))=[(ah "way",V.str n),(ah "at",V.int i)] from gX [ah "way"] rfl (by ac_nf)];exact q aj hd bR
theorem UP:cq P base T 1 t.uS t.BD vZ (L' t):=by
 exists T.I1.ok ab6,9
 obtain ⟨x,n,m,i,rfl,aF,hm,ai,av,q⟩:=h;refine ⟨_,(db (rc (On rfl T.sh T.uk (af (U 0) (af (tF (mu (t9 (U 1) (mu (t9 (U 2) (mu (ya (U 3) u_)))))) (by rw [sizeLine_eq];decide)) aB))))
   (db (w2 (U 0) (U 1) rfl)
   (db (x6 (U 0) (U 2) rfl)
   (aY (x6 (U 0) (U 3) rfl))))),?_⟩
 nofun;refine ⟨aF.1,aF.2,hm.1,hm.2,ai,fun y=>⟨_,_,av,T.tb,?_⟩⟩;refine ⟨_,av,T.tb,T.aas,fun aj hd bR=>?_⟩;refine ⟨_,aj,by rw [aW (c6 bR),aU],_,aU,T.tb,T.UA,show 1 < 1000 by decide,?_⟩;rw [nz,show c_ (ah "other") (V.str m) ([(ah "way",V.str n)]:List (Str × V))=[(ah "way",V.str n),(ah "other",V.str m)] from gX [ah "way"] rfl (by ac_nf)];refine ⟨_,aj,by rw [aW (c6 bR),aU],_,aU,T.tb,T.agG,show 2 < 1000 by decide,?_⟩;rw [nz,show c_ (ah "at") (V.int i) ([(ah "way",V.str n),(ah "other",V.str m)]:List (Str × V))=[(ah "way",V.str n),(ah "other",V.str m),(ah "at",V.int i)] from gX [ah "way",ah "other"] rfl (by ac_nf)];exact q aj hd bR
theorem acb (T:Txt w K ao t):bg P w K ao base (di P w) 3 t.zZ t.zH Ad (QV t):=by
 have afy:bg P w K ao base cH 1 t.w1 t.zm vR (N5 t):=VQ T;have nx:bg P w K ao base cH 2 t.vW t.vE qg G3:=(ir T).mono (by decide);have l0:bg P w K ao base cH 2 t.q_ t.tA ["self"] (xJ t):=(uc T).mono (by decide);exists T.C2.iB NN,9
 obtain ⟨c,n,ds,p,sp,rfl,C,bj,L,aw,q⟩:=h;refine ⟨_,(aY (er (pN ⟨rfl,rfl⟩) rfl (fk (gS (U 0) T.f_ T.rh l0 au T.qb .nil c5)) (b' (i:=2) NN.aC) (aY (dD (k8 (Hj (cb nx au T.vT T.qI.bF T.vA (af (U 1) (af (U 2) aB))) (fun _=>rfl))) (aY (u9 (No T.J5 afy au rfl T.Ro T.Xo (af (U 2) aB)) vk)) dI)))),?_⟩;nofun;obtain ⟨_,aj,wl,aC,ax,_,_⟩:=id C;refine ⟨_,_,ax,ih _ _ _ (by ac_nf),c,n,ds,rfl,C,fun ek i'=>⟨ek,rfl,⟨_,aK.of aU⟩,?_⟩⟩;refine du.list (xs:=bE (ds.map (·.name))) (fun i σ I=>(∃ y,σ=[some (V.ref c),some (V.ref p),y])/\aI (upd H ek (.lst (bE (ds.map (·.name))))) I/\(aV H->aV I)/\jU ds sp=((ds.map (·.name)).drop i).find? fun x=>(b8 x sp).isEmpty) ?_ ?_ ?_ ?_
 .exact ⟨⟨_,rfl⟩,aI.refl _,fun n=>n.upd,rfl⟩
 .rintro i σ I ai aX;ac_rfl
  obtain ⟨_,a9,_,_⟩:=aX;subst a5;exact aK.of (a9 _ _ aU)
 .rintro i v σ I aM aX;ac_rfl
  obtain ⟨⟨y,rfl⟩,a9,bh,hf⟩:=aX;obtain ⟨x,av,rfl⟩:=cS aM;have km:aI H I:=(bk i').trans a9;obtain ⟨ai,wt⟩:=cg.mp av;subst a5;rw [qW ai,wt,n9] at hf;nofun;refine wf (fun b ay=>b=(b8 x sp).isEmpty/\aI I ay/\(aV I->aV ay)) (fun Q a8=>?_) (fun ay r=>?_) (fun ay r=>?_)
  .nofun;refine ⟨p,x,sp,rfl,L.same km,aw,fun r ay s2 cP ⟨qs,cz,fh⟩=>⟨!(b8 x sp).isEmpty,.inl ⟨_,aK.of cz,?_⟩,?_⟩⟩
   .have aA:=fh.1;cases qs with
    | nil=>cases h:b8 x sp with
     | nil=>rfl
     | cons a r=>rw [h] at aA;simp at aA
    | cons a r=>cases h:b8 x sp with
     | nil=>rw [h] at aA;simp at aA
     | cons a r=>rfl
   .rw [Bool.not_not];exact a8 _ _ ⟨rfl,s2,cP⟩
  .obtain ⟨bK,cL,ki⟩:=r;rw [<- bK] at hf;have hf:jU ds sp=some x:=hf;rw [hf] at q;nofun;have aF:pZ x:=by
    obtain ⟨d,hd,rfl⟩:=cS av;exact (bj d (c2 hd)).1
   refine ⟨by decide,fun a aJ=>⟨a,x,rfl,aF,aU,fun d hd bR=>?_⟩⟩;have nK:ay d=none:=by rw [aW bR] at hd;exact hd
   refine ⟨rfl,t.ep,some d,by rw [aW (c6 bR),aU],T.Ao,q d _ (fun b u e=>?_) (fun n=>((((ki (bh n)).upd).upd).upd).upd) (by rw [aW bR,aU])⟩;have bB:=cL _ _ (km _ _ e);rw [aW (cy bB aJ),aW (cy bB nK),aW (cy bB aJ),aW (cy bB aJ)];exact bB
  .obtain ⟨bK,cL,ki⟩:=r;rw [<- bK] at hf;nofun;exact ⟨⟨_,rfl⟩,a9.trans cL,fun n=>ki (bh n),hf⟩
 .rintro σ I aX;ac_rfl
  obtain ⟨⟨y,rfl⟩,a9,bh,hf⟩:=aX;subst a5;rw [Bm (by unfold bE;simp)] at hf;have hf:jU ds sp=none:=hf;rw [hf] at q;exact q _ ((bk i').trans a9) bh
theorem TR:cq P base T 2 t.y1 t.x_ zV NM:=by
 refine dp (ir T) fun nx=>?_;exists T.ER.ok uy,9
 obtain ⟨z,p,sp,k,d,rfl,az,⟨qs,cz,hP⟩,aw,aE,q⟩:=h;refine ⟨_,(db (pj (bX ew (U 1) (U 2)) (kf (K:=K) (n:=3) rfl rfl (eU (b' (i:=3) uy.aC) (eU (Ay (i:=4) uy.aC rfl (pz rfl) (.inl rfl)) (eU (b' (i:=5) uy.aC) kc)))))
   (db (r4 (i:=6) uy.aC rfl (mE rfl) rfl (tY rfl T.uO (af (U 1) aB)) (iE (sc:=bz AF) rfl (by ac_nf)) (N:=FI) (sel:=[none,none,some 2]) (iS (M:=Cf) (by ac_nf)) (gN.of (fun _ _ _ _=>(kf (K:=K) (n:=2) rfl rfl (eU (b' (i:=0) (gb (N:=FI) (by ac_nf) rfl)) (eU (b' (i:=1) (gb (N:=FI) (by ac_nf) rfl)) kc)))) (fun _ _ _ _=>⟨_,(vq (da mj (U 0) (U 2) (cT _))),by walk_at "B"⟩) (fun _ _ _ _=>⟨_,(U 1),by walk_at "B"⟩)) rfl)
   (aY (b1 (Vj rfl rfl T.QZ (af (l' rfl (fk (cb nx au T.vT T.qI.bF T.vA (af (U 6) (af (U 3) aB)))) (iE (sc:=bz AF) rfl (by ac_nf)) (N:=Hi) (sel:=[none,none,some 4,some 0]) (iS (M:=Cf) (by ac_nf)) (gN.of (fun _ _ _ _=>(kf (K:=K) (n:=2) rfl rfl (eU (b' (i:=0) (gb (N:=Hi) (by ac_nf) rfl)) (eU (b' (i:=1) (gb (N:=Hi) (by ac_nf) rfl)) kc)))) (fun _ _ _ _=>⟨_,kP,by walk_at "B"⟩) (fun _ _ _ _=>⟨_,(Db h5 (Db gW (U 0) (U 2)) (U 3)),by walk_at "B"⟩))) aB) (U 0)))))),?_⟩
 nofun;have lT:qs.length=sp.length:=by rw [hP.1,a']
 obtain ⟨ahM,ahs⟩:=cg.mp aE;have mD:qs[k]? = some qs[k]:=b7 (by omega);have o1:H qs[k]=some (gi d):=hP.2 k _ _ mD (by rw [eA,aE];rfl);refine ⟨_,aK.of cz,_,cR (by rw [eA,mD];rfl),_,rfl,_,bS.of o1,rfl,_,_,rfl,_,_,rfl,_,_,rfl,rfl,⟨_,aK.of cz⟩,?_⟩;refine dm.enum (xs:=qs.map V.ref) (fun i ys I=>∃ os:List Addr,ys=os.map V.ref/\fP I os (((sp.take i).eraseIdx k).map gi)/\aI H I/\(aV H->aV I)) (c1 (show (qs.map V.ref).length <= 100 by rw [a'];omega) (by decide)) ⟨[],rfl,by rw [Ag];exact fP.nil _,aI.refl _,id⟩ ?_ ?_ ?_
 .rintro i ys I ai aX;ac_rfl
  obtain ⟨os,rfl,r,a9,_⟩:=aX;subst a5;refine ⟨(aK.of cz).same a9,?_⟩;rw [a',r.1,a'];exact c1 (M8 ..) (by rw [gV];omega)
 .rintro i v ys I c7 aM ⟨os,rfl,r,a9,bh⟩ d8 N bb;obtain ⟨gH,eT,rfl⟩:=cS aM;obtain ⟨o,a7,e⟩:=hP.at eT;obtain ⟨d',l3,rfl⟩:=cS a7;have bB:=a9 _ _ e;have s1:aI I (upd I c7 (.tup [.int i,.ref gH])):=bk d8;refine uj ?_;dsimp only at bb;have q3:(sp.take i).length=i:=by
   have:=(cg.mp l3).1;rw [gV];omega
  rw [i1 l3,VE,q3] at bb;nofun;refine ⟨Sub.Ds,?_⟩;by_cases c:k=i
  .rw [if_pos c] at bb;rw [if_neg (by subst c;simp)];exact bb _ _ ⟨os,rfl,r.same s1,a9.trans s1,fun n=>(bh n).upd⟩
  .rw [if_neg c] at bb;rw [if_pos (by simp;omega)];refine bb _ _ ⟨os ++ [gH],by rw [eM];rfl,?_,a9.trans s1,fun n=>(bh n).upd⟩;rw [eM];exact (r.same s1).app (fP.one (s1 _ _ bB))
 .rintro ys I ⟨os,rfl,r,a9,bh⟩ c7 d8;rw [o9 (by rw [a'];omega)] at r;nofun;have s1:aI I (upd I c7 (.lst (os.map V.ref))):=bk d8;refine ⟨c7,d.name,sp.eraseIdx k,rfl,⟨os,aU,r.same s1⟩,c1 (M8 ..) aw,fun cL ay s2 cP ⟨t6,e0,eW⟩=>⟨cL,rfl,⟨_,aK.of e0⟩,?_⟩⟩;have Hy:(b8 d.name (sp.eraseIdx k)).length <= 100:=c1 (D1 _ _) (c1 (M8 ..) aw);have FV:t6.length=(b8 d.name (sp.eraseIdx k)).length:=by rw [eW.1,a']
  refine dm.xI (zs:=((b8 d.name (sp.eraseIdx k)).map fun p=>(p.1 - d.b) % z).map V.int) (aK.of e0) (c1 (show (t6.map V.ref).length <= 100 by rw [a'];omega) (by decide)) (by simp [FV]) (fun i v z' N aM fK bb=>?_) (fun l aA=>?_)
  .obtain ⟨gH,eT,rfl⟩:=cS aM;obtain ⟨o,a7,e⟩:=eW.at eT;obtain ⟨pr,Sw,rfl⟩:=cS a7;obtain ⟨y,bI,rfl⟩:=cS fK;obtain ⟨ai',J9,rfl⟩:=cS bI;rw [Sw] at J9;cases J9;nofun;exact ⟨_,bS.of e,rfl,_,_,rfl,_,_,rfl,rfl,Sub.Ds,_,rfl,az,bb⟩
  .nofun;refine ⟨_,aK.of aU,?_⟩;have:=q (upd ay l (.lst (((b8 d.name (sp.eraseIdx k)).map fun p=>(p.1 - d.b) % z).map V.int))) (((a9.trans s1).trans s2).trans (bk aA)) (fun n=>(cP (bh n).upd).upd);unfold o6 at this;cases hm:((b8 d.name (sp.eraseIdx k)).map fun p=>(p.1 - d.b) % z).min? with
   | none=>rw [hm] at this;exact this
   | some m=>rw [hm] at this;exact this
theorem Y4 (T:Txt w K ao t):bg P w K ao base (di P w) 4 t.Av t.Bi oK (Q7 t):=by
 have Xy:bg P w K ao base cH 2 t.we t.xw xd (Ji t):=(KM T).mono (by decide);have afU:bg P w K ao base cH 3 t.y1 t.x_ zV NM:=(TR T).mono (by decide);have lu:bg P w K ao base cH 3 t.ow t.pf hg (FN t):=(vB T).mono (by decide);have Du:nq P w K ao base cH 3 (rR t) "ready" ["self"] (rV t):=Oj (PS T) (by decide);have Gv:nq P w K ao base cH 3 (rR t) "fade" ["self"] (r0 t):=Oj (Oc T) (by decide);exists T.Ed.iB oZ,9
 obtain ⟨c,n,ds,z,p,sp,rfl,C,bj,az,⟨qs,cz,hP⟩,aw,aE,q⟩:=h;refine ⟨_,(aY (er (pN ⟨rfl,rfl⟩) rfl (tY rfl T.uO (af (U 2) aB)) (kf (K:=K) (n:=2) rfl rfl (eU (b' (i:=3) oZ.aC) (eU (b' (i:=4) oZ.aC) kc))) (db (pj (U 4) (kf (K:=K) (n:=3) rfl rfl (eU (b' (i:=5) oZ.aC) (eU (b' (i:=6) oZ.aC) (eU (b' (i:=7) oZ.aC) kc)))))
   (db (bJ (i:=8) oZ.aC (e5 (U 0) T.f_ T.nF lu au T.oe .nil c5 (af (U 5) aB)))
   (db (bJ (i:=9) oZ.aC (Db dj (Db dj (U 7) (A2 (U 8) Gv au c5)) (A2 (U 8) Du au c5)))
   (aY (dD (fu.pt (nc (da l2 (U 7) (Gc (U 8) rfl) (cT _)) (n4 (da l2 (cb afU au T.XI T.ER.bF T.ab7 (af (U 1) (af (U 2) (af (U 3) aB)))) (U 9) (cT _))))) (aY (u9 (No T.PN Xy au rfl T.P2 T.abp (af (U 5) (af (U 6) aB))) vk)) dI))))))),?_⟩
 nofun;have lT:qs.length=sp.length:=by rw [hP.1,a']
 refine ⟨⟨_,aK.of cz⟩,?_⟩;refine du.enum (xs:=qs.map V.ref) (fun i σ I=>(∃ a b bT d e f g,σ=[some (V.ref c),some (V.int z),some (V.ref p),a,b,bT,d,e,f,g])/\aI H I/\(aV H->aV I)/\lh ds z sp=(sp.zipIdx.drop i).find? fun e=>lv ds z sp e.2 e.1) ?_ ?_ ?_ ?_
 .exact ⟨⟨_,_,_,_,_,_,_,rfl⟩,aI.refl _,id,rfl⟩
 .rintro i σ I ai aX;ac_rfl
  obtain ⟨_,a9,_,_⟩:=aX;subst a5;exact aK.of (a9 _ _ cz)
 .rintro i v σ eO c7 aM ⟨⟨a1,a2,xi,ai3,aho,aiI,ahA,rfl⟩,a9,bh,hf⟩ d8;obtain ⟨gH,eT,rfl⟩:=cS aM;obtain ⟨o,a7,e⟩:=hP.at eT;obtain ⟨dc,jm,rfl⟩:=cS a7;obtain ⟨ai,wt⟩:=cg.mp jm;rw [qW (by simpa using ai),n9] at hf;simp only [Z',Cg,wt] at hf;have s1:aI eO (upd eO c7 (.tup [.int i,.ref gH])):=bk d8;refine uj ?_;have ei:aV H->aV (upd eO c7 (.tup [.int i,.ref gH])):=fun n=>(bh n).upd
  generalize upd eO c7 (.tup [.int i,.ref gH])=I at s1 ei ⊢;have km:aI H I:=a9.trans s1;obtain ⟨d,hd⟩:=aE dc (c2 jm);obtain ⟨pC,j,aZ⟩:=QH hd;have js:=C.same km;obtain ⟨_,aj,wl,aC,ax,_,_⟩:=id js;have Zm:=bj d (c2 aZ);have gp:lv ds z sp i dc=(decide (dc.n < d.least) || decide (o6 z sp i dc < dc.n + cK d + cI d)):=by
   unfold lv;rw [hd];rfl
  nofun;refine ⟨_,bS.of (km _ _ e),rfl,_,_,rfl,_,_,rfl,_,_,rfl,rfl,_,_,ax,ih _ _ _ (by ac_nf),c,n,ds,j,d,by rw [pC],js,aZ,fun a W=>?_⟩;obtain ⟨tq,ahC,aJ⟩:=id W;refine ⟨a,rfl,_,_,_,aJ,⟨_,tq,rfl⟩,AS (by ac_nf),a,d,rfl,W,rfl,_,rfl,_,rfl,a,rfl,_,_,_,aJ,⟨_,tq,rfl⟩,AS (by ac_nf),a,d,rfl,W,rfl,_,rfl,?_⟩;refine wf (fun b ay=>b=lv ds z sp i dc/\aI I ay/\(aV I->aV ay)) (fun Q a8=>?_) (fun ay r=>?_) (fun ay r=>?_)
  .rw [gp] at a8;nofun;refine ⟨_,W.abf T,_,rfl,?_⟩;by_cases bT:dc.n < d.least
   .rw [decide_eq_true bT] at a8;rw [if_pos (decide_eq_true bT)];exact a8 _ _ ⟨rfl,aI.refl _,id⟩
   .rw [decide_eq_false bT,m2] at a8;rw [if_neg (by simpa using bT)];exact ⟨z,p,sp,i,dc,rfl,az.1,⟨qs,km _ _ cz,hP.same km⟩,aw.1,jm,fun ay s2 cP=>⟨_,rfl,a8 _ _ ⟨rfl,s2,cP⟩⟩⟩
  .obtain ⟨bK,cL,ki⟩:=r;rw [<- bK] at hf;have hf:lh ds z sp=some (dc,i):=hf;rw [hf] at q;nofun;have aF:pZ dc.name:=by rw [<- pC];exact Zm.1
   have xH:=aw.2 dc (c2 jm);refine ⟨by decide,fun a aJ=>⟨a,dc.name,dc.b,rfl,aF,qA (by omega),aU,fun d hd bR=>?_⟩⟩;have nK:ay d=none:=by rw [aW bR] at hd;exact hd
   refine ⟨rfl,t.el,some d,by rw [aW (c6 bR),aU],T.vL,q d _ (fun b u e=>?_) (fun n=>((((ki (ei n)).upd).upd).upd).upd) (by rw [aW bR,aU])⟩;have bB:=cL _ _ (km _ _ e);rw [aW (cy bB aJ),aW (cy bB nK),aW (cy bB aJ),aW (cy bB aJ)];exact bB
  .obtain ⟨bK,cL,ki⟩:=r;rw [<- bK] at hf;exact ⟨⟨_,_,_,_,_,_,_,rfl⟩,km.trans cL,fun n=>ki (ei n),hf⟩
 .rintro σ I aX;ac_rfl
  obtain ⟨_,a9,bh,hf⟩:=aX;subst a5;rw [Bm (by simp [lT])] at hf;have hf:lh ds z sp=none:=hf;rw [hf] at q;exact q _ a9 bh
theorem Wf (T:Txt w K ao t):bg P w K ao base (di P w) 4 t.zk t.yC xU (Kb t):=by
 have abU:bg P w K ao base cH 2 t.uS t.BD vZ (L' t):=(UP T).mono (by decide);have agL:bg P w K ao base cH 3 t.zF t.xR o3 (Lg t):=Ym T;exists T.CG.iB Re,9
 obtain ⟨c,n,ds,cA,c',c7,dz,e0,eW,rfl,C,bj,ae,ak,jF,L2,aA,hm,q⟩:=h;refine ⟨_,(db (bJ (i:=5) Re.aC (cb agL au T.afJ T.Cx.bF T.aac (af (U 0) (af (U 1) (af (U 2) aB)))))
   (aY (er (pN ⟨rfl,rfl⟩) rfl (tY rfl T.uO (af (U 3) aB)) (kf (K:=K) (n:=2) rfl rfl (eU (b' (i:=6) Re.aC) (eU (b' (i:=7) Re.aC) kc))) (aY (dD (fu.pt (p8 (da hi (bX ew (U 4) (U 6)) aR (cT _)) (ri (da ac5 (U 7) (U 5) (cT _))))) (aY (u9 (No T.O5 abU au rfl T.Iv T.adN (af (U 1) (af (U 2) (af (U 6) aB)))) vk)) dI))))),?_⟩
 nofun;obtain ⟨Al,Zw,afI⟩:=sg ae;obtain ⟨z9,F7,agl⟩:=sg ak;refine ⟨c,n,ds,Al,z9,cA,c',rfl,C,by rw [b7 Zw,afI],by rw [b7 F7,agl],⟨_,aK.of jF⟩,?_⟩;rw [show (if cA.off - c'.near > 0 then cA.off - c'.near else 0)=gy cA c' from rfl];refine du.enum (xs:=e0.map V.int) (fun i σ I=>(∃ a b,σ=[some (V.ref c),some (V.str cA.name),some (V.str c'.name),some (V.ref c7),some (V.ref dz),some (V.int (gy cA c')),a,b])/\aI H I/\(aV H->aV I)/\mA (gy cA c') e0 eW=((e0.zip eW).zipIdx.drop i).find? fun e=>decide (e.1.2=0) && decide (e.1.1 <= gy cA c')) ?_ ?_ ?_ ?_
 .exact ⟨⟨_,_,rfl⟩,aI.refl _,id,rfl⟩
 .rintro i σ I ai aX;ac_rfl
  obtain ⟨_,a9,_,_⟩:=aX;subst a5;exact aK.of (a9 _ _ jF)
 .rintro i v σ eO iD aM ⟨⟨a1,a2,rfl⟩,a9,bh,hf⟩ tg;obtain ⟨eB,mw,rfl⟩:=cS aM;obtain ⟨ai,aaG⟩:=cg.mp mw;have Xl:i < eW.length:=by omega
  have E':eW[i]? = some eW[i]:=b7 Xl;rw [qW (by simp;omega),n9] at hf;simp only [Z',List.getElem_zip,Cg,aaG] at hf;have s1:aI eO (upd eO iD (.tup [.int i,.int eB])):=bk tg;refine uj ?_;have ei:aV H->aV (upd eO iD (.tup [.int i,.int eB])):=fun n=>(bh n).upd
  generalize upd eO iD (.tup [.int i,.int eB])=I at s1 ei ⊢;have km:aI H I:=a9.trans s1;nofun;refine ec (decide (eW[i]=0) && decide (eB <= gy cA c')) (fun Q a8=>?_) (fun bT=>?_) (fun bT=>?_)
  .nofun;refine ⟨_,aK.of (km _ _ L2),_,cR (by rw [eA,E'];rfl),rfl,?_⟩;by_cases fZ:eW[i]=0
   .rw [decide_eq_true fZ,xh] at a8;rw [if_pos (by rw [fZ];exact decide_eq_true rfl)];exact a8
   .rw [decide_eq_false fZ,q4] at a8;rw [if_neg (by rw [decide_eq_true_eq];exact fun e=>fZ (V.int.inj e))];exact a8
  .rw [bT] at hf;have hf:mA (gy cA c') e0 eW=some ((eB,eW[i]),i):=hf;rw [hf] at q;nofun;refine ⟨by decide,fun a aJ=>⟨a,cA.name,c'.name,i,rfl,(bj _ ae).1,(bj _ ak).1,qA (by omega),aU,fun d hd bR=>?_⟩⟩;have nK:I d=none:=by rw [aW bR] at hd;exact hd
   refine ⟨rfl,t.d7,some d,by rw [aW (c6 bR),aU],T.tb,q d _ (fun b u e=>?_) (fun n=>((((ei n).upd).upd).upd).upd) (by rw [aW bR,aU])⟩;have bB:=km _ _ e;rw [aW (cy bB aJ),aW (cy bB nK),aW (cy bB aJ),aW (cy bB aJ)];exact bB
  .rw [bT] at hf;exact ⟨⟨_,_,rfl⟩,km,ei,hf⟩
 .rintro σ I aX;ac_rfl
  obtain ⟨_,a9,bh,hf⟩:=aX;subst a5;rw [Bm (by simp;omega)] at hf;have hf:mA (gy cA c') e0 eW=none:=hf;rw [hf] at q;exact q _ a9 bh
theorem adS (T:Txt w K ao t):bg P w K ao base (di P w) 5 t.Bs t.zB oK (JS t):=by
 have XU:bg P w K ao base cH 4 t.AW t.xO ["marks"] MH:=(afx T).mono (by decide);have Dz:bg P w K ao base cH 4 t.AR t.yc yS OQ:=(QM T).mono (by decide);have l0:bg P w K ao base cH 4 t.q_ t.tA ["self"] (xJ t):=(uc T).mono (by decide);have afO:bg P w K ao base cH 4 t.x9 t.SB o3 (wE t):=(ZL T).mono (by decide);have Ux:bg P w K ao base (di P w) 4 t.zk t.yC xU (Kb t):=Wf T;exists T.EJ.iB w8,9
 obtain ⟨c,n,ds,z,p,sp,rfl,C,aF,bj,az,L,aw,xc,q⟩:=h;have bQ:=lV au;refine ⟨_,(db (bJ (i:=3) w8.aC wg)
   (db (er (pN ⟨rfl,rfl⟩) rfl (fk (gS (U 0) T.f_ T.rh l0 au T.qb .nil c5)) (b' (i:=4) w8.aC) (aY (vm bQ (U 3) (U 4) (cb XU au T.YQ T.Gm.bF T.TP (af (cb Dz au T.J0 T.bi.bF T.QA (af (U 1) (af (U 2) (af (U 4) aB)))) aB)) rfl)))
   (aY (er (pN ⟨rfl,rfl⟩) rfl (fk (gS (U 0) T.f_ T.rh l0 au T.qb .nil c5)) (b' (i:=5) w8.aC) (aY (er (pN ⟨rfl,rfl⟩) rfl (fk (gS (U 0) T.f_ T.rh l0 au T.qb .nil c5)) (b' (i:=6) w8.aC) (aY (dD (fu.pt (p8 (da mj (U 5) (U 6) (cT _)) (ri (iW (cb afO au T.GM T.D'.bF T.VN (af (U 0) (af (U 5) (af (U 6) aB)))))))) (aY (rc (pq Ux au rfl T.pp T.CG.bF T.TF .nil gJ (af (U 0) (af (U 5) (af (U 6) (af (kN bQ (U 3) (U 5) (fun _ _=>rfl)) (af (kN bQ (U 3) (U 6) (fun _ _=>rfl)) aB)))))))) dI)))))))),?_⟩
 nofun;intro nQ LQ;obtain ⟨⟨gM,gP⟩,aj,wl,aC,ax,_,_⟩:=id C;have s0:aI H (upd H nQ (.cE [])):=bk LQ;refine ⟨_,_,s0 _ _ ax,ih _ _ _ (by ac_nf),c,n,ds,rfl,C.same s0,fun ek i'=>⟨ek,rfl,⟨_,aK.of aU⟩,?_⟩⟩;have zt:ek ≠ nQ:=fun e=>by subst e;rw [aU] at i';cases i'
 refine du.list (xs:=bE (ds.map (·.name))) (fun i σ I=>(∃ y,σ=[some (V.ref c),some (V.int z),some (V.ref p),some (V.ref nQ),y,none,none])/\aI H I/\aV I/\I ek=some (.lst (bE (ds.map (·.name))))/\qB I nQ ds (fun d=>.lst ((kD z sp d.name).map V.int)) i) ?_ ?_ ?_ ?_
 .exact ⟨⟨_,rfl⟩,s0.trans (bk i'),(xc.upd).upd,aU,[],rfl,by rw [aW (c6 zt),aU];simp [fW],fun i r d h=>by simp at h⟩
 .rintro i σ I ai aX;ac_rfl
  obtain ⟨_,_,_,h,_⟩:=aX;subst a5;exact aK.of h
 .rintro i v σ I aM aX;ac_rfl
  obtain ⟨⟨y,rfl⟩,a9,bh,nj,rs,iu,aeE,sI⟩:=aX;obtain ⟨x,av,rfl⟩:=cS aM;obtain ⟨d,hd,rfl⟩:=cS av;subst a5;nofun;refine ⟨z,p,d.name,sp,rfl,az,L.same a9,aw,fun bK H1 s1 c4 oS ae=>⟨bK,_,rfl,ae,by rw [nL];exact az,fun cL ay s2 cP lY ak=>?_⟩⟩;have n3:=s1.trans s2;have dV:=n3 _ _ aeE;refine ⟨_,nW.k (k:=bN d.name) dV (j0 (show (fW ds rs).length <= 12 by unfold fW;rw [a',J_];omega) (by decide)),?_⟩;have hV:ds[rs.length]? = some d:=by rw [iu];exact hd
  rw [D2 gM hV];have bR:∀ {b:Addr} {ys:List V},ay b=some (.lst ys)->b ≠ nQ:=fun e=>d0 e dV (by intro z;cases z)
  refine ⟨⟨_,rfl⟩,fun b u e=>?_,(cP (c4 bh)).upd,?_,rs ++ [cL],by rw [dP,iu];rfl,aU,fun j r e aZ he=>?_⟩
  .rw [aW (cy e LQ)];exact n3 _ _ (a9 _ _ e)
  .rw [aW zt];exact n3 _ _ nj
  .rcases iL aZ with ⟨_,dy⟩ | ⟨ef,rfl⟩
   .have:=n3 _ _ (sI j r e dy he);rw [aW (bR this)];exact this
   .rw [ef] at he;rw [hV] at he;cases he;rw [aW (bR ak)];exact ak
 rintro σ H1 aX;ac_rfl
 obtain ⟨⟨y,rfl⟩,iO,ei,aiM,wq⟩:=aX;have fU:(bE (ds.map (·.name))).length=ds.length:=by unfold bE;simp
 subst a5;rw [fU] at wq;obtain ⟨rs,iu,Rf,sI⟩:=wq;have vn:=C.same iO;nofun;refine ⟨_,_,iO _ _ ax,ih _ _ _ (by ac_nf),c,n,ds,rfl,vn,fun dz dV=>⟨dz,rfl,⟨_,aK.of aU⟩,?_⟩⟩;refine du.list (xs:=bE (ds.map (·.name))) (fun i σ I=>(∃ y u v,σ=[some (V.ref c),some (V.int z),some (V.ref p),some (V.ref nQ),y,u,v])/\aI H1 I/\aV I/\I dz=some (.lst (bE (ds.map (·.name))))/\lx n z sp ds=(ds.drop i).findSome? fun cA=>ti n z sp cA ds) ?_ ?_ ?_ ?_
 .exact ⟨⟨_,_,_,rfl⟩,bk dV,ei.upd,aU,rfl⟩
 .rintro i σ I ai aX;ac_rfl
  obtain ⟨_,_,_,h,_⟩:=aX;subst a5;exact aK.of h
 .rintro i v σ ay aM aX;ac_rfl
  obtain ⟨⟨y,u,ku,rfl⟩,fa,fb,ZS,fB⟩:=aX;obtain ⟨x,av,rfl⟩:=cS aM;obtain ⟨cA,uR,rfl⟩:=cS av;obtain ⟨ai,wt⟩:=cg.mp uR;subst a5;rw [qW ai,wt,Uv] at fB;have rt:=vn.same fa;nofun;refine ⟨_,_,fa _ _ (iO _ _ ax),ih _ _ _ (by ac_nf),c,n,ds,rfl,rt,fun iD tg=>⟨iD,rfl,⟨_,aK.of aU⟩,?_⟩⟩;refine du.list (xs:=bE (ds.map (·.name))) (fun j σ I=>(∃ y v,σ=[some (V.ref c),some (V.int z),some (V.ref p),some (V.ref nQ),y,some (V.str cA.name),v])/\aI ay I/\aV I/\I iD=some (.lst (bE (ds.map (·.name))))/\ti n z sp cA ds=(ds.drop j).findSome? fun c'=>(qU n z sp cA c').map fun i=>(cA,c',i)) ?_ ?_ ?_ ?_
  .exact ⟨⟨_,_,rfl⟩,bk tg,fb.upd,aU,rfl⟩
  .rintro i σ I ai aX;ac_rfl
   obtain ⟨_,_,_,h,_⟩:=aX;subst a5;exact aK.of h
  .rintro j v σ bA aM aX;ac_rfl
   obtain ⟨⟨y,ku,rfl⟩,gY,jj,Og,gp⟩:=aX;obtain ⟨x,av,rfl⟩:=cS aM;obtain ⟨c',hd2,rfl⟩:=cS av;obtain ⟨aZ,adU⟩:=cg.mp hd2;subst a5;rw [qW aZ,adU,Uv] at gp;have ro:=rt.same gY;have wd:=fa.trans gY;nofun;refine ec (decide (cA.name ≠ c'.name) && mt n cA c') (fun Q a8=>?_) (fun bT=>?_) (fun bT=>?_)
   .nofun;by_cases fZ:cA.name=c'.name
    .rw [decide_eq_false (fun z=>z fZ),q4] at a8;rw [if_neg (by simp [fZ])];exact a8
    .rw [decide_eq_true fZ,xh] at a8;rw [if_pos (by simp [fZ])];exact ⟨c,n,ds,i,j,cA,c',rfl,ro,aF,uR,hd2,jj,_,rfl,a8⟩
   .rw [iP] at bT;have cU:qU n z sp cA c'=(mA (gy cA c') (kD z sp cA.name) (kD z sp c'.name)).map (·.2):=by
     unfold qU;rw [if_pos ⟨of_decide_eq_true bT.1,bT.2⟩]
    rw [cU] at gp;have oS:rs[i]? = some rs[i]:=b7 (by omega);have lY:rs[j]? = some rs[j]:=b7 (by omega);have g1:gm bA nQ (.str cA.name) (some (.ref rs[i])):=by rw [<- Ho gM uR oS];exact gm.k (k:=bN cA.name) (wd _ _ Rf)
    have g2:gm bA nQ (.str c'.name) (some (.ref rs[j])):=by rw [<- Ho gM hd2 lY];exact gm.k (k:=bN c'.name) (wd _ _ Rf)
    nofun;refine ⟨_,g1,_,g2,c,n,ds,cA,c',_,_,_,_,rfl,ro,bj,c2 uR,c2 hd2,wd _ _ (sI i _ _ oS uR),wd _ _ (sI j _ _ lY hd2),by rw [Op,Op],by rw [Op];exact az.2,?_⟩;cases ar:mA (gy cA c') (kD z sp cA.name) (kD z sp c'.name) with
    | none=>
     rw [ar] at gp;exact fun bY s4 gj=>⟨(by first | exact ⟨_,_,rfl⟩ | exact ⟨_,rfl⟩ | simp),gY.trans s4,gj jj,s4 _ _ Og,gp⟩
    | some e=>
     rw [ar] at gp;have gp:ti n z sp cA ds=some (cA,c',e.2):=gp;rw [gp] at fB;have fB:lx n z sp ds=some (cA,c',e.2):=fB;rw [fB] at q;exact q.step (iO.trans wd) fun _=>jj
   .have cU:qU n z sp cA c'=none:=by
     unfold qU;rw [if_neg];rintro ⟨ef,dy⟩;rw [decide_eq_true ef,dy] at bT;cases bT
    rw [cU] at gp;exact ⟨⟨_,_,rfl⟩,gY,jj,Og,gp⟩
  .rintro σ I aX;ac_rfl
   obtain ⟨⟨y,ku,rfl⟩,gY,jj,_,gp⟩:=aX;subst a5;rw [fU,Bm (b2 _)] at gp;have gp:ti n z sp cA ds=none:=gp;rw [gp] at fB;exact ⟨⟨_,_,_,rfl⟩,fa.trans gY,jj,gY _ _ ZS,fB⟩
 .rintro σ I aX;ac_rfl
  obtain ⟨_,a9,bh,_,fB⟩:=aX;subst a5;rw [fU,Bm (b2 _)] at fB;have fB:lx n z sp ds=none:=fB;rw [fB] at q;exact q _ (iO.trans a9) bh
noncomputable abbrev wL:List Str:=[ah "crossing",ah "size",ah "spans",ah "lamps",ah "untils"]
noncomputable def lA (c:Addr) (z:Int) (p lm un:Addr):List (Str × V):=[(ah "crossing",.ref c),(ah "size",.int z),(ah "spans",.ref p),(ah "lamps",.ref lm),(ah "untils",.ref un)]
theorem BR (c:Addr) (z:Int) (p lm un:Addr):(lA c z p lm un).map (·.1)=wL:=rfl
noncomputable def o_ (z:Nat) (sp:List ba) (d:aD):List Str:=hN z (cI d).toNat (cK d).toNat (b8 d.name sp)
noncomputable def jQ (z:Nat) (sp:List ba) (x:Str):List Int:=mz (d6 z (b8 x sp))
structure la (t:bC) (H:ag) (a c:Addr) (n:Int) (ds:List aD) (z:Nat) (sp:List ba):Prop where
 at_:∃ aj p lm un,H a=some (.ins t.gf aj (lA c z p lm un))/\ad t H c n ds/\gn H p (gv gi sp)/\qB H lm ds (fun d=>.lst (bE (o_ z sp d))) ds.length/\qB H un ds (fun d=>.lst ((jQ z sp d.name).map V.int)) ds.length
noncomputable def Qz (t:bC):bo:=fun vs H Q _=>∃ (a aj c:Addr) (n:Int) (ds:List aD) (z:Nat) (p:Addr) (sp:List ba),vs=[.ref a,.ref c,.int z,.ref p]/\H a=some (.ins t.gf aj [])/\ad t H c n ds/\pv ds/\(0 < z/\z <= 1000)/\gn H p (gv gi sp)/\ra z sp/\aV H /\
 ∀ I,cc a H I->aV I->la t I a c n ds z sp->Q .bH I
noncomputable def q7 (t:bC) (c:Addr) (n:Int) (ds:List aD) (z:Nat) (sp:List ba) (H:ag) (Q:bG) (E:cD):Prop:=
 (jU ds sp=none->lh ds z sp=none->lx n z sp ds=none->∀ a I,aI H I->aV I->la t I a c n ds z sp->Q (.ref a) I) /\
 (∀ x,jU ds sp=some x->mQ t.ep [(ah "way",.str x)] H E) /\
 (∀ e,jU ds sp=none->lh ds z sp=some e->mQ t.el [(ah "way",.str e.1.name),(ah "at",.int e.1.b)] H E) /\
 (∀ e,jU ds sp=none->lh ds z sp=none->lx n z sp ds=some e->mQ t.d7 [(ah "way",.str e.1.name),(ah "other",.str e.2.1.name),(ah "at",.int e.2.2)] H E)
theorem q7.step {t:bC} {c:Addr} {n:Int} {ds:List aD} {z:Nat} {sp:List ba} {H H1:ag} {Q:bG} {E:cD} (h:q7 t c n ds z sp H Q E) (s:aI H H1) (bh:aV H1):q7 t c n ds z sp H1 Q E:=
 ⟨fun ae ak a_ a I s' g8 p=>h.1 ae ak a_ a I (s.trans s') g8 p,fun x av=>(h.2.1 x av).step s fun _=>bh,fun e ae ak=>(h.2.2.1 e ae ak).step s fun _=>bh,fun e ae ak a_=>(h.2.2.2 e ae ak a_).step s fun _=>bh⟩
noncomputable def PY (t:bC):bo:=fun vs H Q E=>∃ (c:Addr) (n:Int) (ds:List aD) (z:Nat) (p:Addr) (sp:List ba),vs=[.ref c,.int z,.ref p]/\ad t H c n ds/\0 < n/\pv ds/\(0 < z/\z <= 1000)/\gn H p (gv gi sp)/\ra z sp/\(∀ s ∈ sp,∃ d,kn ds s.name=some d)/\aV H /\
 q7 t c n ds z sp H Q E
section
variable {w:World} {K:a6} {ao:Str->Option Value} {t:bC} {H:ag} {a c aj p lm un:Addr} {z:Int}
theorem Jl (T:Txt w K ao t) (e:H a=some (.ins t.gf aj (lA c z p lm un))):ia K H a (ah "lamps") (.ref lm):=⟨_,aj,_,e,T.m4,T.Of,j9 wL 3 (BR ..) (by ac_nf) rfl⟩
theorem ms (T:Txt w K ao t) (e:H a=some (.ins t.gf aj (lA c z p lm un))):ia K H a (ah "untils") (.ref un):=⟨_,aj,_,e,T.m4,T.LR,j9 wL 4 (BR ..) (by ac_nf) rfl⟩
end
theorem NA {H:ag} {a b C js aj fs:Addr} {aN:List (Str × V)} (aJ:H a=some (.ins C aj [])) (ab:H b=some (.ins js fs aN)) (hf:aN ≠ []):b ≠ a:=fun z=>by
 subst z;rw [ab] at aJ;have e:=eS aJ;injection e with _ _ bM;exact hf bM
theorem ad.i5 {t:bC} {H I:ag} {a c C aj:Addr} {n:Int} {ds:List aD} (h:ad t H c n ds) (s:cc a H I) (aJ:H a=some (.ins C aj [])):ad t I c n ds:=by
 obtain ⟨h0,fs,wl,aC,ax,⟨as,cZ,d1,al⟩,bM⟩:=h;refine ⟨h0,fs,wl,aC,s _ _ (NA aJ ax (by unfold lH;simp)) ax,⟨as,s _ _ (d0 cZ aJ (by intro z;cases z)) cZ,d1,fun i b d ab hd=>?_⟩,s _ _ (d0 bM aJ (by intro z;cases z)) bM⟩;obtain ⟨k,Wh,dK⟩:=al i b d ab hd;exact ⟨k,Wh,s _ _ (NA aJ dK (by unfold kO;simp)) dK⟩
theorem gn.i5 {H I:ag} {a p C aj:Addr} {sp:List ba} (h:gn H p (gv gi sp)) (s:cc a H I) (aJ:H a=some (.ins C aj [])):gn I p (gv gi sp):=by
 obtain ⟨qs,cz,fh⟩:=h;refine ⟨qs,s _ _ (d0 cz aJ (by intro z;cases z)) cz,fh.1,fun i q o aH a7=>?_⟩;have e:=fh.2 i q o aH a7;refine s _ _ (d0 e aJ ?_) e;obtain ⟨d,_,rfl⟩:=cS a7;intro z;cases z
theorem abl:cq P base T 4 t.uX t.xg BA (Qz t):=by
 refine dp (ZC T) fun Up=>dp (QE T) fun Gx=>dp (QM T) fun Dz=>dp (uc T) fun l0=>dp (vB T) fun lu=>?_;exists T.Pk.ok Iu,9
 obtain ⟨a,aj,c,n,ds,z,p,sp,rfl,aJ,C,bj,az,L,aw,xc,q⟩:=h;have bQ:=lV au;refine ⟨_,(db (h1 (U 0) (U 1) rfl)
   (db (h1 (U 0) (U 2) rfl)
   (db (h1 (U 0) (U 3) rfl)
   (db (h1 (U 0) wg rfl)
   (db (h1 (U 0) wg rfl)
   (aY (er fG rfl (fk (gS (U 1) T.f_ T.rh l0 au T.qb .nil c5)) (b' (i:=4) Iu.aC) (db (vm bQ (Gc (U 0) rfl) (U 4) (cb Up au T.IN T.CV.bF T.WD (af (e5 (U 1) T.f_ T.nF lu au T.oe .nil c5 (af (U 4) aB)) (af (U 2) (af (U 3) aB)))) rfl)
   (aY (vm bQ (Gc (U 0) rfl) (U 4) (cb Gx au T.Oi T.y8.bF T.Ir (af (cb Dz au T.J0 T.bi.bF T.QA (af (U 2) (af (U 3) (af (U 4) aB)))) aB)) rfl)))))))))),?_⟩
 nofun;refine ⟨_,_,_,aJ,T.m4,T.Fk,by decide,?_⟩;refine ⟨_,_,_,aU,T.m4,T.M_,fp (n:=999) (by decide),?_⟩;refine ⟨_,_,_,aU,T.m4,T.af0,fp (n:=999) (fp (n:=998) (by decide)),fun lm s7=>?_⟩;simp only [nz] at s7 ⊢;rw [show c_ (ah "crossing") (V.ref c) ([]:List (Str × V))=[(ah "crossing",V.ref c)] from rfl,show c_ (ah "size") (V.int z) [(ah "crossing",V.ref c)]=[(ah "crossing",V.ref c),(ah "size",V.int z)] from gX [ah "crossing"] rfl (by ac_nf),show c_ (ah "spans") (V.ref p) [(ah "crossing",V.ref c),(ah "size",V.int z)]=[(ah "crossing",V.ref c),(ah "size",V.int z),(ah "spans",V.ref p)] from gX [ah "crossing",ah "size"] rfl (by ac_nf)] at s7 ⊢;have sA:a ≠ lm:=fun z=>by subst z;rw [aU] at s7;cases s7
 have Jt:H lm=none:=by rw [aW (c6 sA)] at s7;exact s7
 refine ⟨t.gf,aj,[(ah "crossing",V.ref c),(ah "size",V.int z),(ah "spans",V.ref p)],by rw [aW sA];exact aU,T.m4,T.Of,show (3:Nat) < 1000 by decide,fun un oq=>?_⟩;rw [show c_ (ah "lamps") (V.ref lm) [(ah "crossing",V.ref c),(ah "size",V.int z),(ah "spans",V.ref p)]=[(ah "crossing",V.ref c),(ah "size",V.int z),(ah "spans",V.ref p),(ah "lamps",V.ref lm)] from gX [ah "crossing",ah "size",ah "spans"] rfl (by ac_nf)] at oq ⊢;have tw:a ≠ un:=fun z=>by subst z;rw [aU] at oq;cases oq
 have BG:un ≠ lm:=fun z=>by subst z;rw [aW (c6 tw),aU] at oq;cases oq
 have OJ:H un=none:=by rw [aW (c6 tw),aW BG,aW (c6 tw)] at oq;exact oq
 refine ⟨t.gf,aj,[(ah "crossing",V.ref c),(ah "size",V.int z),(ah "spans",V.ref p),(ah "lamps",V.ref lm)],by rw [aW tw];exact aU,T.m4,T.LR,show (4:Nat) < 1000 by decide,?_⟩;rw [show c_ (ah "untils") (V.ref un) [(ah "crossing",V.ref c),(ah "size",V.int z),(ah "spans",V.ref p),(ah "lamps",V.ref lm)]=lA c z p lm un from gX [ah "crossing",ah "size",ah "spans",ah "lamps"] rfl (by ac_nf)];have hf:∃ dq:ag,dq=upd (upd (upd (upd (upd H a (.ins t.gf aj [(ah "crossing",V.ref c),(ah "size",V.int z),(ah "spans",V.ref p)])) lm (.cE [])) a (.ins t.gf aj [(ah "crossing",V.ref c),(ah "size",V.int z),(ah "spans",V.ref p),(ah "lamps",V.ref lm)])) un (.cE [])) a (.ins t.gf aj (lA c z p lm un)):=⟨_,rfl⟩;obtain ⟨dq,dh⟩:=hf;rw [<- dh];have g1:dq a=some (.ins t.gf aj (lA c z p lm un)):=by rw [dh,aU]
 have g2:dq lm=some (.cE []):=by rw [dh,aW (c6 sA),aW (c6 BG),aW (c6 sA),aU]
 have g3:dq un=some (.cE []):=by rw [dh,aW (c6 tw),aU]
 have rp:cc a H dq:=fun b u ab e=>by rw [dh,aW ab,aW (cy e OJ),aW ab,aW (cy e Jt),aW ab];exact e
 have xN:aV dq:=by rw [dh];exact ((((xc.upd).upd).upd).upd).upd
 clear dh;have r6:=C.i5 rp aJ;obtain ⟨⟨gM,gP⟩,wO,wl,aC,ax,_,_⟩:=id r6;refine ⟨_,_,ax,ih _ _ _ (by ac_nf),c,n,ds,rfl,r6,fun ek i'=>⟨ek,rfl,⟨_,aK.of aU⟩,?_⟩⟩;refine du.list (xs:=bE (ds.map (·.name))) (fun i σ I=>(∃ y,σ=[some (V.ref a),some (V.ref c),some (V.int z),some (V.ref p),y])/\cc a H I/\aV I/\I a=some (.ins t.gf aj (lA c z p lm un))/\I ek=some (.lst (bE (ds.map (·.name))))/\qB I lm ds (fun d=>.lst (bE (o_ z sp d))) i/\qB I un ds (fun d=>.lst ((jQ z sp d.name).map V.int)) i) ?_ ?_ ?_ ?_
 .have sn:=bk (o:=.lst (bE (ds.map (·.name)))) i';exact ⟨⟨_,rfl⟩,rp.trans (cc.of sn),xN.upd,sn _ _ g1,aU,⟨[],rfl,by rw [sn _ _ g2];simp [fW],fun i r d h=>by simp at h⟩,⟨[],rfl,by rw [sn _ _ g3];simp [fW],fun i r d h=>by simp at h⟩⟩
 .rintro i σ I ai aX;ac_rfl
  obtain ⟨_,_,_,_,h,_⟩:=aX;subst a5;exact aK.of h
 .rintro i v σ I aM aX;ac_rfl
  obtain ⟨⟨y,rfl⟩,dU,bh,pd,nj,⟨cY,iu,CQ,sI⟩,⟨eH,NY,EE,aee⟩⟩:=aX;obtain ⟨x,av,rfl⟩:=cS aM;obtain ⟨d,hd,rfl⟩:=cS av;have js:=C.i5 dU aJ;have Gy:=L.i5 dU aJ;obtain ⟨_,ahO,ai1,ah',YJ,_,_⟩:=id js;subst a5;nofun;refine ⟨_,_,YJ,ih _ _ _ (by ac_nf),c,n,ds,i,d,rfl,js,hd,fun hs W=>?_⟩;have hV:ds[cY.length]? = some d:=by rw [iu];exact hd
  have k7:ds[eH.length]? = some d:=by rw [NY];exact hd
  refine ⟨hs,d,z,p,sp,rfl,az,W,Gy,aw,(bj d (c2 hd)).2,fun bK H1 s1 c4 oS ae=>⟨_,Jl T (s1 _ _ pd),lm,rfl,_,nW.k (k:=bN d.name) (s1 _ _ CQ) (j0 (show (fW ds cY).length <= 12 by unfold fW;rw [a',J_];omega) (by decide)),?_⟩⟩;rw [D2 gM hV];have p3:∀ {b:Addr} {u:df},I b=some u->b ≠ lm->upd H1 lm (.cE (fW ds (cY ++ [bK]))) b=some u:=fun e h=>by rw [aW h];exact s1 _ _ e
  have eE:cc a H (upd H1 lm (.cE (fW ds (cY ++ [bK])))):=fun b u ab e=>p3 (dU b u ab e) (cy e Jt)
  refine ⟨z,p,d.name,sp,rfl,az,L.i5 eE aJ,aw,fun ki bA s3 d3 ahb a_=>⟨ki,_,rfl,a_,by rw [nL];exact az,fun tJ bY s4 gj ahY cv=>?_⟩⟩;have D6:=s3.trans s4;have LY:bY un=some (.cE (fW ds eH)):=D6 _ _ (p3 EE BG);have a2:bY a=some (.ins t.gf aj (lA c z p lm un)):=D6 _ _ (p3 pd sA);refine ⟨_,ms T a2,un,rfl,_,nW.k (k:=bN d.name) LY (j0 (show (fW ds eH).length <= 12 by unfold fW;rw [a',J_];omega) (by decide)),?_⟩;rw [D2 gM k7];have qK:∀ {b:Addr} {u:df},upd H1 lm (.cE (fW ds (cY ++ [bK]))) b=some u->b ≠ un->upd bY un (.cE (fW ds (eH ++ [tJ]))) b=some u:=fun e h=>by rw [aW h];exact D6 _ _ e
  have Ha:∀ {b:Addr} {ys:List V},I b=some (.lst ys)->b ≠ lm:=fun e=>d0 e CQ (by intro z;cases z)
  have DV:∀ {b:Addr} {ys:List V},I b=some (.lst ys)->b ≠ un:=fun e=>d0 e EE (by intro z;cases z)
  have ac2:bK ≠ lm:=d0 ae (s1 _ _ CQ) (by intro z;cases z);have Tj:bK ≠ un:=d0 ae (s1 _ _ EE) (by intro z;cases z);have aep:tJ ≠ un:=d0 cv LY (by intro z;cases z);refine ⟨⟨_,rfl⟩,fun b u ab e=>qK (eE b u ab e) (cy e OJ),(gj (d3 (c4 bh).upd)).upd,qK (p3 pd sA) tw,qK (p3 nj (Ha nj)) (DV nj),⟨cY ++ [bK],by rw [dP,iu];rfl,qK aU (c6 BG),fun j r e aZ he=>?_⟩,⟨eH ++ [tJ],by rw [dP,NY];rfl,aU,fun j r e aZ he=>?_⟩⟩
  .rcases iL aZ with ⟨_,dy⟩ | ⟨ef,rfl⟩
   .have:=sI j r e dy he;exact qK (p3 this (Ha this)) (DV this)
   .rw [ef,hV] at he;cases he;exact qK (by rw [aW ac2];exact ae) Tj
  .rcases iL aZ with ⟨_,dy⟩ | ⟨ef,rfl⟩
   .have:=aee j r e dy he;exact qK (p3 this (Ha this)) (DV this)
   .rw [ef,k7] at he;cases he;rw [aW aep];exact cv
 .rintro σ I aX;ac_rfl
  obtain ⟨_,dU,bh,pd,_,wq,LX⟩:=aX;have fU:(bE (ds.map (·.name))).length=ds.length:=by unfold bE;simp
  subst a5;rw [fU] at wq LX;exact q _ dU bh ⟨aj,p,lm,un,pd,C.i5 dU aJ,L.i5 dU aJ,wq,LX⟩
theorem ae1 (T:Txt w K ao t):bg P w K ao base (di P w) 6 t.yM t.yx za (PY t):=by
 have lu:bg P w K ao base cH 5 t.ow t.pf hg (FN t):=(vB T).mono (by decide);have U6:bg P w K ao base cH 4 t.uX t.xg BA (Qz t):=abl T;have agP:bg P w K ao base (di P w) 5 t.zZ t.zH Ad (QV t):=(acb T).mono (by decide);have aeV:bg P w K ao base (di P w) 5 t.Av t.Bi oK (Q7 t):=(Y4 T).mono (by decide);have Yf:bg P w K ao base (di P w) 5 t.Bs t.zB oK (JS t):=adS T;exists T.BW.iB ux,9
 obtain ⟨c,n,ds,z,p,sp,rfl,C,aF,bj,az,L,aw,hw,xc,bw,b4,d9,kp⟩:=h;refine ⟨_,(db (r4 (i:=3) ux.aC rfl (mE rfl) rfl (fk (U 2)) (iE (sc:=bz Ej) rfl (by ac_nf)) (N:=zb) (sel:=[none,none,none]) (iS (M:=["crossing","size","rows","spans","name","begin","turns"]) (by ac_nf)) (gN.of (fun _ _ _ _=>(kf (K:=K) (n:=3) rfl rfl (eU (b' (i:=0) (gb (N:=zb) (by ac_nf) rfl)) (eU (b' (i:=1) (gb (N:=zb) (by ac_nf) rfl)) (eU (b' (i:=2) (gb (N:=zb) (by ac_nf) rfl)) kc))))) (fun _ _ _ _=>⟨_,kP,by walk_at "B"⟩) (fun _ _ _ _=>⟨_,(jy (af (U 0) (af (U 1) (af (U 2) aB)))),by walk_at "B"⟩)) rfl)
   (db (er (pN ⟨rfl,rfl⟩) rfl (fk (U 3)) (kf (K:=K) (n:=3) rfl rfl (eU (b' (i:=4) ux.aC) (eU (b' (i:=5) ux.aC) (eU (b' (i:=6) ux.aC) kc)))) (aY (rc (e5 (U 0) T.f_ T.nF lu au T.oe .nil c5 (af (U 4) aB)))))
   (db (rc (pq agP au rfl T.Sm T.C2.bF T.UL .nil gJ (af (U 0) (af (U 3) aB))))
   (db (rc (pq aeV au rfl T.aeI T.Ed.bF T.Ts .nil gJ (af (U 0) (af (U 1) (af (U 3) aB)))))
   (db (rc (pq Yf au rfl T.WK T.EJ.bF T.Ud .nil gJ (af (U 0) (af (U 1) (af (U 3) aB)))))
   (aY (b1 (sd T.abt U6 au rfl T.abV T.Y8 .nil c5 (af (U 0) (af (U 1) (af (U 3) aB))))))))))),?_⟩
 nofun;obtain ⟨qs,cz,hP⟩:=L;have lT:qs.length=sp.length:=by rw [hP.1,a']
 have ug:=aw.1;refine ⟨⟨_,aK.of cz⟩,?_⟩;refine dm.list (xs:=qs.map V.ref) (fun i ys I=>∃ os:List Addr,ys=os.map V.ref/\fP I os ((sp.take i).map gi)/\aI H I/\aV I) (c1 (show (qs.map V.ref).length <= 100 by rw [a'];omega) (by decide)) ⟨[],rfl,by rw [Ag];exact fP.nil _,aI.refl _,xc⟩ ?_ ?_ ?_
 .rintro i ys I ai aX;ac_rfl
  obtain ⟨os,rfl,r,a9,_⟩:=aX;subst a5;refine ⟨(aK.of cz).same a9,?_⟩;rw [a',r.1,a',gV];omega
 .rintro i v ys I aM ⟨os,rfl,r,a9,bh⟩ N bb;obtain ⟨gH,eT,rfl⟩:=cS aM;obtain ⟨o,a7,e⟩:=hP.at eT;obtain ⟨d,hd,rfl⟩:=cS a7;have bB:=a9 _ _ e;dsimp only at bb;rw [i1 hd,eM] at bb;nofun;refine ⟨_,bS.of bB,rfl,_,_,rfl,_,_,rfl,_,_,rfl,rfl,Sub.Jk,by decide,fun c7 d8=>?_⟩;exact bb _ _ ⟨os ++ [c7],by rw [eM];rfl,(r.same (bk d8)).app (fP.one aU),a9.trans (bk d8),bh.upd⟩
 rintro ys H1 ⟨os,rfl,r,iO,ei⟩ c7 d8;rw [o9 (by rw [a'];omega)] at r;have s2:aI H1 (upd H1 c7 (.lst (os.map V.ref))):=bk d8;have fb:aV (upd H1 c7 (.lst (os.map V.ref))):=ei.upd;have L2:gn (upd H1 c7 (.lst (os.map V.ref))) c7 (gv gi sp):=⟨os,aU,r.same s2⟩;have fa:=iO.trans s2;generalize upd H1 c7 (.lst (os.map V.ref))=ay at s2 fb L2 fa ⊢;have rt:=C.same fa;obtain ⟨_,wO,wl,aC,ax,_,_⟩:=id rt;obtain ⟨t6,e0,MM⟩:=id L2;have aid:t6.length=sp.length:=by rw [MM.1,a']
 nofun;refine ⟨⟨_,aK.of e0⟩,?_⟩;refine du.list (xs:=t6.map V.ref) (fun i σ I=>(∃ x y z',σ=[some (V.ref c),some (V.int z),some (V.ref p),some (V.ref c7),x,y,z'])/\I=ay) ?_ ?_ ?_ ?_
 .exact ⟨⟨_,_,_,rfl⟩,rfl⟩
 .rintro i σ I ai ⟨_,rfl⟩;exact aK.of e0
 .rintro i v σ I aM aX;ac_rfl
  obtain ⟨⟨x,y,z',rfl⟩,rfl⟩:=aX;obtain ⟨gH,eT,rfl⟩:=cS aM;obtain ⟨o,a7,e⟩:=MM.at eT;obtain ⟨dc,jm,rfl⟩:=cS a7;obtain ⟨d,hd⟩:=hw dc (c2 jm);obtain ⟨pC,j,aZ⟩:=QH hd;subst a5;nofun;exact ⟨_,bS.of e,rfl,_,_,rfl,_,_,rfl,_,_,rfl,rfl,_,_,ax,ih _ _ _ (by ac_nf),c,n,ds,j,d,by rw [pC],rt,aZ,fun a W=>⟨(by first | exact ⟨_,_,_,rfl⟩ | exact ⟨_,_,rfl⟩ | exact ⟨_,rfl⟩ | simp),rfl⟩⟩
 rintro σ I aX;ac_rfl
 obtain ⟨⟨x,y,z',rfl⟩,rfl⟩:=aX;subst a5;nofun;refine ⟨c,n,ds,c7,sp,rfl,rt,bj,L2,ug,?_⟩;cases bb:jU ds sp with
 | some x=>exact (b4 x bb).step fa fun _=>fb
 | none=>
 intro bA s3 d3;have jj:=d3 fb;have ro:=rt.same s3;have iQ:=L2.same s3;nofun;refine ⟨c,n,ds,z,c7,sp,rfl,ro,bj,⟨by omega,by omega⟩,iQ,aw,hw,?_⟩;cases ej:lh ds z sp with
 | some e=>exact (d9 e bb ej).step (fa.trans s3) fun _=>jj
 | none=>
 intro bY s4 gj;have tf:=gj jj;have xv:=ro.same s4;have my:=iQ.same s4;nofun;refine ⟨c,n,ds,z,c7,sp,rfl,xv,aF,bj,az,my,aw,tf,?_⟩;cases cm:lx n z sp ds with
 | some e=>exact (kp e bb ej cm).step ((fa.trans s3).trans s4) fun _=>tf
 | none=>
 intro dq s5 qo;have r6:=xv.same s5;have Df:=my.same s5;nofun;intro a aj aJ Cv bR;have sc:aI dq (upd (upd dq aj (.own a)) a (.ins t.gf aj [])):=((aI.refl dq).g9 Cv).g9 aJ;refine ⟨a,aj,c,n,ds,z,c7,sp,rfl,aU,r6.same sc,bj,az,Df.same sc,aw,(qo.upd).upd,fun eK hL zc dr=>⟨rfl,?_⟩⟩;have IW:=((fa.trans s3).trans s4).trans s5;exact bw bb ej cm a eK (mc (IW.trans sc) hL (IW.free aJ)) zc dr
noncomputable def nv (ws:List Str):Except Nat Int:=if eg ws 0 ∈ [ah "round"] then (jz (eg ws 1) 1 240).elim (.error 1) fun v=>if 2 < ws.length then .error 2 else .ok v else .error 0
noncomputable def jM (ds:List aD) (sp:List ba):List Str:=(ds.map (·.name)).filter fun x=>decide ((b8 x sp).length < 3)
noncomputable def mB (z:Int) (known:List Str) (ws:List Str):Except Nat ba:=if eg ws 0 ∈ [ah "free"] then
 (if eg ws 1 ∈ known then (jz (eg ws 2) 0 (z - 1)).elim (.error 2) fun b=>(jz (eg ws 3) 1 z).elim (.error 3) fun n=>if 4 < ws.length then .error 4 else .ok ⟨eg ws 1,b,n⟩ else .error 1) else .error 0
noncomputable def lj (z:Int) (ds:List aD):List (List Str)->Nat->List ba->Except (Nat × Nat) (List ba)
 | [],_,sp=>.ok sp
 | ws :: r,i,sp=>match mB z (jM ds sp) ws with
  | .error k=>.error (i,k)
  | .ok d=>lj z ds r (i + 1) (sp ++ [d])
noncomputable def AM (ds:List aD) (ez:List Str) (rest:List (List Str)):Except (Nat × Nat) (Int × List ba):=match nv ez with
 | .error k=>.error (0,k)
 | .ok z=>match lj z ds rest 1 [] with
  | .error e=>.error e
  | .ok sp=>.ok (z,sp)
theorem Yv {ws:List Str} {n:Int} (h:nv ws=.ok n):1 <= n/\n <= 240:=by
 unfold nv at h;split at h
 .cases e:jz (eg ws 1) 1 240 with
  | none=>rw [e] at h;cases h
  | some v=>
   rw [e] at h;have aM:Ps (eg ws 1) 1 240=.int v:=by rw [vu,e];rfl
   have:=yk aM;replace h:(if 2 < ws.length then v8 2 else pA v)=pA n:=h;split at h
   .cases h
   .cases h;exact ⟨this.2.1,this.2.2⟩
 .cases h
theorem agx {z:Int} {known ws:List Str} {d:ba} (h:mB z known ws=.ok d):d.name ∈ known/\0 <= d.b/\d.b < z/\1 <= d.n/\d.n <= z:=by
 unfold mB at h;split at h
 .split at h
  .rename_i ae;cases e:jz (eg ws 2) 0 (z - 1) with
   | none=>rw [e] at h;cases h
   | some b=>
    rw [e] at h;have ab:Ps (eg ws 2) 0 (z - 1)=.int b:=by rw [vu,e];rfl
    have g1:=yk ab;replace h:((jz (eg ws 3) 1 z).elim (.error 3) fun n=>if 4 < ws.length then .error 4 else .ok ⟨eg ws 1,b,n⟩)=pA d:=h;cases aG:jz (eg ws 3) 1 z with
    | none=>rw [aG] at h;cases h
    | some n=>
     rw [aG] at h;have aF:Ps (eg ws 3) 1 z=.int n:=by rw [vu,aG];rfl
     have g2:=yk aF;replace h:(if 4 < ws.length then v8 4 else pA (⟨eg ws 1,b,n⟩:ba))=pA d:=h;split at h
     .cases h
     .cases h;exact ⟨ae,g1.2.1,by show b < z;omega,g2.2.1,g2.2.2⟩
  .cases h
 .cases h
noncomputable def KF (t:bC):bo:=fun vs H Q E=>∃ q row ws,vs=[.ref q]/\b6 t H q row ws 0/\(0 <= row/\row <= 10000)/\aV H/\wX (nv ws) (fun n=>F5 q H (Q (.int n))) (fun k=>gI t row k q H E)
noncomputable def M' (t:bC):bo:=fun vs H Q E=>∃ q row ws c n ds z p sp,vs=[.ref q,.ref c,.int z,.ref p]/\b6 t H q row ws 0/\(0 <= row/\row <= 10000)/\ad t H c n ds/\(∀ d ∈ ds,d.name ≠ ah "")/\(1 <= z/\z <= 240)/\gn H p (gv gi sp)/\sp.length <= 100/\aV H /\
 wX (mB z (jM ds sp) ws) (fun d=>∀ x I,cc q H I->aV I->I x=some (gi d)->H x=none->Q (.ref x) I) (fun k=>gI t row k q H E)
noncomputable def Ml (t:bC):bo:=fun vs H Q E=>∃ c n ds x ez rest,vs=[.ref c,.str x]/\ad t H c n ds/\0 < n/\pv ds/\(∀ d ∈ ds,d.name ≠ ah "")/\jc x=ez :: rest/\x.length <= 20000/\rest.length <= 100/\(∀ r ∈ ez :: rest,r ≠ []/\r.length <= 1000/\∀ y ∈ r,y.length <= 1000)/\aV H /\
 B1 (AM ds ez rest) (fun m=>q7 t c n ds m.1.toNat m.2 H Q E) (fun i k=>DE t i k H E)
noncomputable def tI (z:Int) (ds:List aD) (sp:List ba):Prop:=∀ s ∈ sp,s.name ∈ ds.map (·.name)/\0 <= s.b/\s.b < z/\1 <= s.n/\s.n <= z
theorem tI.ok {z:Int} {ds:List aD} {sp:List ba} (h:tI z ds sp) (aA:sp.length <= 100) (az:z <= 240):ra z sp:=⟨aA,fun d hd=>by have:=h d hd;omega⟩
theorem tI.kn {z:Int} {ds:List aD} {sp:List ba} (h:tI z ds sp):∀ s ∈ sp,∃ d,kn ds s.name=some d:=fun s aw=>by
 obtain ⟨d,hd,e⟩:=dX.mp (h s aw).1;unfold My.kn;cases hf:ds.find? fun d=>decide (d.name=s.name) with
 | some d'=>exact ⟨d',rfl⟩
 | none=>exact absurd (sb.mp hf d hd) (by simp [e])
theorem ad.Am {t:bC} {H I:ag} {q c:Addr} {n:Int} {ds:List aD} {row:Int} {ws:List Str} {k:Nat} (h:ad t H c n ds) (s:cc q H I) (R:b6 t H q row ws k):ad t I c n ds:=by
 obtain ⟨h0,fs,wl,aC,ax,⟨as,cZ,d1,al⟩,bM⟩:=h;obtain ⟨_,x3,aQ,f1,f2⟩:=id R;refine ⟨h0,fs,wl,aC,s _ _ (fun z=>?_) ax,⟨as,s _ _ (d0 cZ f1 (by intro z;cases z)) cZ,d1,fun i b d ab hd=>?_⟩,s _ _ (d0 bM f1 (by intro z;cases z)) bM⟩
 .subst z;rw [ax] at f1;have e:=eS f1;injection e with _ _ f7;unfold lH kx at f7;injection f7 with j1 _;injection j1 with jH _;exact absurd jH (by ac_nf)
 .have W:=al i b d ab hd;have aF:=Jw W R;exact ⟨W.1,W.2.imp fun aj e=>s _ _ aF e⟩
theorem gn.Am {t:bC} {H I:ag} {q p:Addr} {sp:List ba} {row:Int} {ws:List Str} {k:Nat} (h:gn H p (gv gi sp)) (s:cc q H I) (R:b6 t H q row ws k):gn I p (gv gi sp):=by
 obtain ⟨_,x3,aQ,f1,f2⟩:=id R;obtain ⟨qs,cz,fh⟩:=h;refine ⟨qs,s _ _ (d0 cz f1 (by intro z;cases z)) cz,fh.1,fun i q o aH a7=>?_⟩;have e:=fh.2 i q o aH a7;refine s _ _ (d0 e f1 ?_) e;obtain ⟨d,_,rfl⟩:=cS a7;intro z;cases z
theorem acD (T:Txt w K ao t):bg P w K ao base (di P w) 6 t.yP t.zh ["reader"] (KF t):=by
 have AX:bg P w K ao base (di P w) 5 t.p7 t.rD sJ (E0 K t):=QX T;have Ah:bg P w K ao base (di P w) 5 t.qC t.sW s6 (D4 t):=IK T;have DG:bg P w K ao base (di P w) 5 t.rf t.rM ["self"] (CM t):=(Jp T).mono (by decide);exists T.EN.iB Lc,9
 obtain ⟨q,row,ws,rfl,R,fA,bh,cF⟩:=h;refine ⟨_,(db (rc (e5 (U 0) T.dT T.w0 AX au T.u6 .nil gJ (af (fH (af cC aB)) aB)))
   (db (bJ (i:=1) Lc.aC (e5 (U 0) T.dT T.lc Ah au T.nE .nil gJ (af aR (af (jE rfl T.agk T.U') aB))))
   (db (rc (gS (U 0) T.dT T.y3 DG au T.y_ .nil gJ))
   (aY (b1 (U 1)))))),?_⟩
 obtain ⟨_,aj,aQ,ax,aG⟩:=id R;nofun;refine ⟨_,_,ax,b6.no _ _ _ (by ac_nf),by decide,fun p aq=>?_⟩;have s0:aI H (upd H p (.lst [V.str (ah "round")])):=bk aq;refine ⟨q,row,ws,0,p,[ah "round"],rfl,R.same s0,fA,fv _,aK.of aU,fun oy=>fun H1 s1 c4 j_=>?_,fun tH=>?_⟩
 .obtain ⟨_,CI,IY,f1,f2⟩:=id j_;have ei:=c4 bh.upd;have eB:cc q H H1:=(cc.of s0).trans s1;have cz:1 <= ws.length:=xy (k:=0) (by rw [jB.mp oy];ac_nf);unfold nv at cF;rw [if_pos oy] at cF;nofun;refine ⟨_,_,f1,b6.no _ _ _ (by ac_nf),⟨q,row,ws,1,1,240,rfl,j_,fA,cz,ei,fun v aM=>fun ay s2 cP fF=>?_,fun aM=>?_⟩⟩
  .obtain ⟨_,Ly,PK,g1,g2⟩:=id fF;rw [A_ aM] at cF;have cF:wX (if 2 < ws.length then v8 2 else pA v) (fun n=>F5 q H (Q (.int n))) (fun k=>gI t row k q H E):=cF;nofun;refine ⟨_,_,g1,b6.no _ _ _ (by ac_nf),⟨q,row,ws,2,rfl,fF,fA,fun aA=>?_,fun aA=>?_⟩⟩
   .rw [if_neg aA] at cF;nofun;exact cF ay (eB.trans s2) (cP ei)
   .rw [if_pos aA] at cF;exact (show gI t row 2 q H E from cF).step (eB.trans s2) fun _=>cP ei
  .rw [Fs aM] at cF;exact (show gI t row 1 q H E from cF).step eB fun _=>ei
 .unfold nv at cF;rw [if_neg tH] at cF;exact (show gI t row 0 q H E from cF).step (cc.of s0) fun n=>n.upd
theorem af3 (T:Txt w K ao t):bg P w K ao base (di P w) 6 t.Bc t.xl Ba (M' t):=by
 have AX:bg P w K ao base (di P w) 5 t.p7 t.rD sJ (E0 K t):=QX T;have Ah:bg P w K ao base (di P w) 5 t.qC t.sW s6 (D4 t):=IK T;have DG:bg P w K ao base (di P w) 5 t.rf t.rM ["self"] (CM t):=(Jp T).mono (by decide);have nx:bg P w K ao base cH 5 t.vW t.vE qg G3:=(ir T).mono (by decide);have l0:bg P w K ao base cH 5 t.q_ t.tA ["self"] (xJ t):=(uc T).mono (by decide);exists T.Hs.iB z3,9
 obtain ⟨q,row,ws,c,n,ds,z,p,sp,rfl,R,fA,C,bj,az,L,fU,bh,cF⟩:=h;refine ⟨_,(db (rc (e5 (U 0) T.dT T.w0 AX au T.u6 .nil gJ (af (fH (af cC aB)) aB)))
   (db (bJ (i:=4) z3.aC (e5 (U 0) T.dT T.w0 AX au T.u6 .nil gJ (af (l' rfl (fk (gS (U 1) T.f_ T.rh l0 au T.qb .nil c5)) (iE (sc:=bz FA) rfl (by ac_nf)) (N:=["known","spans"]) (sel:=[none,some 3]) (iS (M:=["reader","crossing","size","spans","name","begin","turns"]) (by ac_nf)) (gN.of (fun _ _ _ _=>(b' (i:=0) (gb (N:=["known","spans"]) (by ac_nf) rfl))) (fun _ _ _ _=>⟨_,(vq (da l2 (fL ac rfl T.hH hT (af (cb nx au T.vT T.qI.bF T.vA (af (U 1) (af (U 0) aB))) aB)) (jE rfl T.VC T.af2) (cT _))),by walk_at "B"⟩) (fun _ _ _ _=>⟨_,(U 0),by walk_at "B"⟩))) aB)))
   (db (bJ (i:=5) z3.aC (e5 (U 0) T.dT T.lc Ah au T.nE .nil gJ (af aR (af (Db gW (U 2) aR) aB))))
   (db (bJ (i:=6) z3.aC (e5 (U 0) T.dT T.lc Ah au T.nE .nil gJ (af aR (af (U 2) aB))))
   (db (rc (gS (U 0) T.dT T.y3 DG au T.y_ .nil gJ))
   (aY (b1 (jy (af (U 4) (af (U 5) (af (U 6) aB))))))))))),?_⟩
 obtain ⟨_,aj,aQ,ax,aG⟩:=id R;nofun;refine ⟨_,_,ax,b6.no _ _ _ (by ac_nf),by decide,fun eh iz=>?_⟩;have s0:aI H (upd H eh (.lst [V.str (ah "free")])):=bk iz;unfold mB at cF;refine ⟨q,row,ws,0,eh,[ah "free"],rfl,R.same s0,fA,fv _,aK.of aU,fun oy=>fun H1 s1 c4 j_=>?_,fun tH=>?_⟩
 case refine_2=>
  rw [if_neg tH] at cF;exact (show gI t row 0 q H E from cF).step (cc.of s0) fun n=>n.upd
 rw [if_pos oy] at cF;obtain ⟨_,CI,IY,f1,f2⟩:=id j_;have ei:=c4 bh.upd;have eB:cc q H H1:=(cc.of s0).trans s1;have cz:1 <= ws.length:=xy (k:=0) (by rw [jB.mp oy];ac_nf);have vn:=C.Am eB R;have jF:=L.Am eB R;obtain ⟨⟨_,gP⟩,wO,wl,aC,g1,_,_⟩:=id vn;nofun;refine ⟨_,_,f1,b6.no _ _ _ (by ac_nf),_,_,g1,ih _ _ _ (by ac_nf),c,n,ds,rfl,vn,fun ek i'=>⟨ek,rfl,⟨_,aK.of aU⟩,?_⟩⟩;have sn:aI H1 (upd H1 ek (.lst (bE (ds.map (·.name))))):=bk i';have Rw:(bE (ds.map (·.name))).length=ds.length:=by unfold bE;simp
 refine dm.list (xs:=bE (ds.map (·.name))) (fun i ys I=>ys=bE (((ds.map (·.name)).take i).filter fun x=>decide ((b8 x sp).length < 3))/\aI (upd H1 ek (.lst (bE (ds.map (·.name))))) I/\aV I) (c1 (show _ <= 12 by rw [Rw];omega) (by decide)) ⟨by rw [Ag];rfl,aI.refl _,ei.upd⟩ ?_ ?_ ?_
 .rintro i ys I ai ⟨rfl,a9,_⟩;refine ⟨aK.of (a9 _ _ aU),?_⟩;unfold bE;rw [a'];exact c1 (Jn ..) (by rw [gV];omega)
 .rintro i v ys I aM ⟨rfl,a9,ed⟩ N bb;obtain ⟨x,av,rfl⟩:=cS aM;dsimp only at bb;rw [i1 av,Nf] at bb;nofun;refine ⟨Sub.name,p,x,sp,rfl,(jF.same sn).same a9,fU,fun r ay s2 cP ⟨qs,e0,eW⟩=>⟨r,rfl,_,.inl (aK.of e0),?_⟩⟩;have FV:qs.length=(b8 x sp).length:=by rw [eW.1,a']
  rw [a',FV];by_cases fZ:(b8 x sp).length < 3
  .rw [if_pos (decide_eq_true (by omega))];refine bb _ _ ⟨?_,a9.trans s2,cP ed⟩;rw [Ls (by simpa using fZ)];unfold bE;rw [eM];rfl
  .rw [if_neg (by rw [decide_eq_true_eq];omega)];refine bb _ _ ⟨?_,a9.trans s2,cP ed⟩;rw [Jq (by simpa using fZ),List.filter_nil,oa]
 rintro ys ay ⟨rfl,fa,fb⟩ rN agg;rw [Rw,o9 (by rw [a'];exact b2 _)];rw [show (ds.map (·.name)).filter (fun x=>decide ((b8 x sp).length < 3))=jM ds sp from rfl];have HP:aI H1 (upd ay rN (.lst (bE (jM ds sp)))):=(sn.trans fa).trans (bk agg);have Ge:aV (upd ay rN (.lst (bE (jM ds sp)))):=fb.upd;have aE:upd ay rN (.lst (bE (jM ds sp))) rN=some (.lst (bE (jM ds sp))):=aU;generalize upd ay rN (.lst (bE (jM ds sp)))=bA at HP Ge aE ⊢;have qL:=j_.same HP;have ee:cc q H bA:=eB.trans (cc.of HP);nofun;refine ⟨q,row,ws,1,rN,jM ds sp,rfl,qL,fA,cz,aK.of aE,fun Iq=>fun bY s4 gj lW=>?_,fun tH=>?_⟩
 case refine_2=>
  rw [if_neg tH] at cF;exact (show gI t row 1 q H E from cF).step ee fun _=>Ge
 rw [if_pos Iq] at cF;have tf:=gj Ge;have ip:cc q H bY:=ee.trans s4;obtain ⟨_,RM,adv,rL,vc⟩:=id lW;have fh:2 <= ws.length:=xy (k:=1) (by
  obtain ⟨d,hd,e⟩:=dX.mp (j2.mp Iq).1;rw [<- e];exact bj d hd)
 nofun;refine ⟨_,_,rL,b6.no _ _ _ (by ac_nf),⟨q,row,ws,2,0,z - 1,rfl,lW,fA,fh,tf,fun b ab=>fun dq s5 qr uB=>?_,fun ab=>?_⟩⟩
 case refine_2=>
  rw [Fs ab] at cF;exact (show gI t row 2 q H E from cF).step ip fun _=>tf
 rw [A_ ab] at cF;replace cF:wX ((jz (eg ws 3) 1 z).elim (.error 3) fun n=>if 4 < ws.length then .error 4 else .ok ⟨eg ws 1,b,n⟩) (fun d:ba=>∀ x I,cc q H I->aV I->I x=some (gi d)->H x=none->Q (.ref x) I) (fun k=>gI t row k q H E):=cF;have C3:=(yk ab).1;have qo:=qr tf;have dR:cc q H dq:=ip.trans s5;obtain ⟨_,afh,af',Al,z9⟩:=id uB;nofun;refine ⟨_,_,Al,b6.no _ _ _ (by ac_nf),⟨q,row,ws,3,1,z,rfl,uB,fA,C3,qo,fun m hm=>fun eK hL uq u0=>?_,fun hm=>?_⟩⟩
 case refine_2=>
  rw [Fs hm] at cF;exact (show gI t row 3 q H E from cF).step dR fun _=>qo
 rw [A_ hm] at cF;replace cF:wX (if 4 < ws.length then .error 4 else .ok (⟨eg ws 1,b,m⟩:ba)) (fun d:ba=>∀ x I,cc q H I->aV I->I x=some (gi d)->H x=none->Q (.ref x) I) (fun k=>gI t row k q H E):=cF;have zc:=uq qo;have dw:cc q H eK:=dR.trans hL;obtain ⟨_,Zx,Ue,eE,fN⟩:=id u0;nofun;refine ⟨_,_,eE,b6.no _ _ _ (by ac_nf),⟨q,row,ws,4,rfl,u0,fA,fun aA=>?_,fun aA=>?_⟩⟩
 .rw [if_neg aA] at cF;nofun;refine ⟨by decide,fun x av=>?_⟩;have XZ:H x=none:=by
   cases e:H x with
   | none=>rfl
   | some u=>
    by_cases wz:x=q
    .subst wz;rw [eE] at av;cases av
    .rw [dw _ _ wz e] at av;cases av
  exact cF x _ (dw.trans (cc.of (bk av))) zc.upd aU XZ
 .rw [if_pos aA] at cF;exact (show gI t row 4 q H E from cF).step dw fun _=>zc
theorem ac3 (T:Txt w K ao t):bg P w K ao base (di P w) 8 t.BM t.zj AH (Ml t):=by
 have Gj:bg P w K ao base cH 7 t.tQ t.uD ["text"] (EK t):=(RG T).mono (by decide);have acA:bg P w K ao base (di P w) 7 t.yP t.zh ["reader"] (KF t):=(acD T).mono (by decide);have adG:bg P w K ao base (di P w) 7 t.Bc t.xl Ba (M' t):=(af3 T).mono (by decide);have ac6:bg P w K ao base (di P w) 7 t.yM t.yx za (PY t):=(ae1 T).mono (by decide);exists T.E_.iB wK,9
 obtain ⟨c,n,ds,x,ez,rest,rfl,C,aF,bj,bR,fA,Gn,iu,ko,bh,cF⟩:=h;refine ⟨_,(db (bJ (i:=2) wK.aC (cb Gj au T.Nv T.yE.bF T.Lr (af (U 1) aB)))
   (db (bJ (i:=3) wK.aC (pq acA au rfl T.agj T.EN.bF T.agO .nil gJ (af (bX ew (U 2) aR) aB)))
   (db (bJ (i:=4) wK.aC (fH aB))
   (db (er (pN ⟨rfl,rfl⟩) rfl (fk (wH Kk (U 2) (wM aR) uN)) (b' (i:=5) wK.aC) (aY (rc (iT lZ oA pS ot (U 4) (af (pq adG au rfl T.acL T.Hs.bF T.ac7 .nil gJ (af (U 5) (af (U 0) (af (U 3) (af (U 4) aB))))) aB)))))
   (aY (b1 (pq ac6 au rfl T.aal T.BW.bF T.XY .nil gJ (af (U 0) (af (U 3) (af (U 4) aB)))))))))),?_⟩
 have PD:∀ {i k:Nat} {q:Addr} {H1:ag},DE t i k H E->aI H H1->H q=none->aV H1->gI t i k q H1 E:=fun {i k q H1} r s n m aj I s' g8 e=>r aj I (mc s s' n) (g8 m) e
 nofun;refine ⟨x,rfl,Gn,?_,bh,fun p H1 iO ei R=>?_⟩
 .rw [fA];exact fun r au=>(ko r au).2
 rw [fA] at R;obtain ⟨qs,aq,iz,lT,u7⟩:=R;obtain ⟨hy,gZ,rfl⟩:∃ hy gZ,qs=hy :: gZ:=by
  cases qs with
  | nil=>simp at lT
  | cons a b=>exact ⟨a,b,rfl⟩
 have B_:gZ.length=rest.length:=by simpa using lT
 obtain ⟨oi,Ab⟩:=u7 0 hy _ rfl rfl;nofun;refine ⟨_,aK.of aq,_,cR (j:=0) rfl,⟨hy,_,ez,rfl,oi,by omega,ei,?_⟩⟩;unfold AM at cF;cases lN:nv ez with
 | error k=>
  rw [lN] at cF;exact PD cF iO Ab ei
 | ok z=>
 rw [lN] at cF;have gh:=Yv lN;obtain ⟨zn,rfl⟩:∃ zn:Nat,z=(zn:Int):=⟨z.toNat,by omega⟩;intro ay s2 fb;nofun;refine ⟨fv _,fun wl iC=>?_⟩;obtain ⟨acM,Xt,abh,Dk⟩:=oi.ins;have Ea:p ≠ hy:=d0 aq Dk (by intro z;cases z);have dV:ay p=some (.lst ((hy :: gZ).map V.ref)):=s2 _ _ Ea aq;have q':aI ay (upd ay wl (.lst [])):=bk iC;have wI:k0 ((hy :: gZ).map V.ref) (some 1) none=gZ.map V.ref:=by
  unfold k0;simp [fj.cM];exact o9 (by rw [a'];exact b2 _)
 refine ⟨_,aK.of (q' _ _ dV),fun pc qp=>?_⟩;rw [wI];have uJ:pc ≠ wl:=fun z=>by subst z;rw [aU] at qp;cases qp
 have p':aI (upd ay wl (.lst [])) (upd (upd ay wl (.lst [])) pc (.lst (gZ.map V.ref))):=bk qp;refine ⟨⟨_,aK.of aU⟩,?_⟩;have w3:aI H ay:=mc iO s2 Ab;replace cF:B1 (match lj zn ds rest 1 [] with | .error e=>.error e | .ok sp=>.ok ((zn:Int),sp)) (fun m:Int × List ba=>q7 t c n ds m.1.toNat m.2 H Q E) (fun i k=>DE t i k H E):=cF;generalize abL:lj zn ds rest 1 []=y5 at cF;refine du.list (xs:=gZ.map V.ref) (fun i σ I=>(∃ y,σ=[some (V.ref c),some (V.str x),some (V.ref p),some (V.int zn),some (V.ref wl),y])/\aV I/\aI H I/\I pc=some (.lst (gZ.map V.ref))/\H wl=none /\
  (∃ sp,gn I wl (gv gi sp)/\sp.length <= i/\tI zn ds sp/\lj zn ds (rest.drop i) (i + 1) sp=y5) /\
  ∀ (j:Nat) (q:Addr) (r:List Str),i <= j->gZ[j]? = some q->rest[j]? = some r->b6 t I q ((j + 1:Nat):Int) r 0/\H q=none) ?_ ?_ ?_ ?_
 .refine ⟨⟨_,rfl⟩,(fb.upd).upd,(w3.trans q').trans p',aU,w3.free iC,⟨[],⟨[],p' _ _ aU,fP.nil _⟩,b2 _,(fun s aw=>by simp at aw),abL⟩,fun j q r _ ae ak=>?_⟩;obtain ⟨lF,ke⟩:=u7 (j + 1) q r (by rw [wJ];exact ae) (by rw [wJ];exact ak);exact ⟨((lF.i5 s2 (yg lF oi (by omega)) oi.ins).same q').same p',ke⟩
 .rintro i σ I ai aX;ac_rfl
  obtain ⟨_,_,_,h,_⟩:=aX;subst a5;exact aK.of h
 .rintro i v σ I aM aX;ac_rfl
  obtain ⟨⟨y,rfl⟩,ed,lB,p5,qQ,⟨sp,L,fU,z4,hA⟩,Rs⟩:=aX;obtain ⟨q,aH,rfl⟩:=cS aM;obtain ⟨ai,_⟩:=cg.mp aH;have hl:i < rest.length:=by omega
  have au:rest[i]? = some rest[i]:=b7 hl;obtain ⟨lP,yw⟩:=Rs i q _ (b2 _) aH au;obtain ⟨os,cZ,d1⟩:=id L;obtain ⟨_,x3,ahU,eT,ah1⟩:=id lP;have ahj:os.length=sp.length:=by rw [d1.1,a']
  subst a5;rw [qW hl] at hA;unfold lj at hA;nofun;refine ⟨.inl ⟨_,aK.of cZ⟩,?_⟩;refine ⟨q,_,rest[i],c,n,ds,zn,wl,sp,rfl,lP,by omega,C.same lB,bR,gh,L,by omega,ed,?_⟩;cases k3:mB zn (jM ds sp) rest[i] with
  | error k=>
   rw [k3] at hA;replace hA:v8 (i + 1,k)=y5:=hA;subst hA;exact PD cF lB yw ed
  | ok d=>
   rw [k3] at hA;replace hA:lj zn ds (rest.drop (i + 1)) (i + 1 + 1) (sp ++ [d])=y5:=hA;intro MQ bA s3 jj hY wi;nofun;have HD:wl ≠ q:=d0 cZ eT (by intro z;cases z);have oz:bA wl=some (.lst (os.map V.ref)):=s3 _ _ HD cZ;have FQ:aI H bA:=mc lB s3 yw;refine ⟨_,oz,j0 (show (os.map V.ref).length <= 100 by rw [a'];omega) (by decide),?_⟩;have H6:MQ ≠ wl:=fun z=>by
    subst z;rw [cZ] at wi;cases wi
   have iQ:=L.Am s3 lP;refine ⟨⟨_,rfl⟩,jj.upd,fun b u e=>?_,?_,qQ,⟨sp ++ [d],⟨os ++ [MQ],by rw [aU,eM];rfl,?_⟩,by rw [dP];show _ + 1 <= _;omega,fun s aw=>?_,hA⟩,fun j d2 r aZ ae ak=>?_⟩
   .rw [aW (cy e qQ)];exact FQ _ _ e
   .rw [aW uJ];exact s3 _ _ (d0 p5 eT (by intro z;cases z)) p5
   .rw [eM];refine fP.app ⟨d1.1,fun j b o ab a7=>?_⟩ (fP.one (by rw [aW H6];exact hY));have e:=d1.2 j b o ab a7;obtain ⟨s,_,rfl⟩:=cS a7;rw [aW (d0 e cZ (by intro z;cases z))];exact s3 _ _ (d0 e eT (by intro z;cases z)) e
   .rcases jh.mp aw with aw | aw
    .exact z4 s aw
    .rw [jB.mp aw];have:=agx k3;exact ⟨(j2.mp this.1).1,this.2⟩
   .obtain ⟨lF,ke⟩:=Rs j d2 r (by omega) ae ak;have qL:=lF.i5 s3 (yg lF lP (by omega)) lP.ins;refine ⟨?_,ke⟩;obtain ⟨az,fs,aQ,ax,aG⟩:=qL;refine ⟨az,fs,aQ,by rw [aW (d0 ax oz (by intro z;cases z))];exact ax,?_⟩;rw [aW (fun z=>by
     subst z;rw [oz] at aG;have j1:=eS aG;injection j1 with jH;have acQ:=(ko r (fw _ (c2 ak))).1;cases os with
     | nil=>
      cases r with
      | nil=>exact acQ rfl
      | cons u v=>cases jH
     | cons a fe=>
      cases r with
      | nil=>cases jH
      | cons u v=>injection jH with nM _;cases nM)]
    exact aG
 .rintro σ I aX;ac_rfl
  obtain ⟨⟨y,rfl⟩,ed,lB,p5,qQ,⟨sp,L,fU,z4,hA⟩,Rs⟩:=aX;subst a5;rw [a',B_,Mm] at hA;replace hA:pA sp=y5:=hA;subst hA;replace cF:q7 t c n ds (zn:Int).toNat sp H Q E:=cF;rw [AY] at cF;nofun;exact ⟨c,n,ds,zn,wl,sp,rfl,C.same lB,aF,bj,by omega,L,z4.ok (by rw [a'] at fU;omega) (by omega),z4.kn,ed,cF.step lB ed⟩
noncomputable abbrev S (x:String):Str:=ah x
noncomputable def Fc (x:Str):Prop:=x.length <= 20/\(32:Nat) ∉ x.cps.toList/\(10:Nat) ∉ x.cps.toList
theorem jT.b {x:Str} (h:jT x):Fc x:=⟨c1 h.1 (by decide),h.2⟩
theorem abX {rs:List (List Str)} (h0:rs ≠ []) (ae:∀ r ∈ rs,r ≠ []) (ak:∀ r ∈ rs,∀ x ∈ r,Fc x):jc (eG nl (rs.map (eG cO)))=rs:=by
 unfold jc;rw [zQ,su,yz (by simpa using h0) (fun y bI=>by
  obtain ⟨r,au,rfl⟩:=dX.mp bI;rw [l8];intro z;rcases DL z with z | ⟨p,aq,z⟩
  .cases z
  .obtain ⟨x,av,rfl⟩:=dX.mp aq;exact (ak r au x av).2.2 z),vI]
 have:∀ r ∈ rs,((fun r=>gT r ⟨#[32]⟩) ∘ eG ⟨#[32]⟩) r=r:=fun r au=>yz (ae r au) fun x av=>(ak r au x av).2.1
 rw [aaA this,List.map_id']
theorem HU {v lo ai:Int} (h0:0 <= v) (ae:v < 1000) (aA:lo <= v) (cN:v <= ai):jz (num v) lo ai=some v:=A_ (qw h0 ae aA cN)
noncomputable def jo (s:ba):List Str:=[S "free",s.name,num s.b,num s.n]
noncomputable def jA (z:Int) (sp:List ba):List (List Str):=[S "round",num z] :: sp.map jo
theorem R5 {z:Int} (az:z <= 240) {known:List Str} {d:ba} (aF:d.name ∈ known) (h:0 <= d.b/\d.b < z/\1 <= d.n/\d.n <= z):mB z known (jo d)=.ok d:=by
 unfold mB;rw [if_pos (show eg (jo d) 0 ∈ [ah "free"] from by show S "free" ∈ [S "free"];simp),if_pos (show eg (jo d) 1 ∈ known from aF)];rw [show eg (jo d) 2=num d.b from rfl,HU (by omega) (by omega) (by omega) (by omega),show eg (jo d) 3=num d.n from rfl,HU (by omega) (by omega) (by omega) (by omega)];rfl
theorem ae7 {z:Int} {ds:List aD} {ws:List Str} {r:List (List Str)} {i:Nat} {sp:List ba} {d:ba} (h:mB z (jM ds sp) ws=.ok d):lj z ds (ws :: r) i sp=lj z ds r (i + 1) (sp ++ [d]):=by
 show (match mB z (jM ds sp) ws with | .error k=>v8 (i,k) | .ok d=>lj z ds r (i + 1) (sp ++ [d]))=_;rw [h]
theorem age {z:Int} (az:1 <= z/\z <= 240):nv [S "round",num z]=.ok z:=by
 unfold nv;rw [if_pos (show eg [S "round",num z] 0 ∈ [ah "round"] from by show S "round" ∈ [S "round"];simp),show eg [S "round",num z] 1=num z from rfl,HU (by omega) (by omega) (by omega) (by omega)];rfl
noncomputable def xr (z:Int) (ds:List aD) (sp:List ba):Prop:=∀ (i:Nat) (d:ba),sp[i]? = some d->d.name ∈ jM ds (sp.take i)/\0 <= d.b/\d.b < z/\1 <= d.n/\d.n <= z
theorem Ev {z:Int} (az:z <= 240) {ds:List aD} {sp:List ba} (h:xr z ds sp):∀ (n i:Nat),sp.length - i=n->i <= sp.length->lj z ds ((sp.drop i).map jo) (i + 1) (sp.take i)=.ok sp
 | 0,i,aF,ai=>by
  have:i=sp.length:=by omega
  subst this;rw [Mm,kH];rfl
 | n + 1,i,aF,ai=>by
  have jI:i < sp.length:=by omega
  have hd:sp[i]? = some sp[i]:=b7 jI;have g:=h i _ hd;rw [qW jI,eJ];rw [ae7 (R5 az g.1 g.2)];have:=Ev az h n (i + 1) (by omega) jI;rw [i1 hd] at this;exact this
theorem Z2 {z:Int} (az:1 <= z/\z <= 240) {ds:List aD} {sp:List ba} (h:xr z ds sp):AM ds [S "round",num z] (sp.map jo)=.ok (z,sp):=by
 unfold AM;rw [age az];have:=Ev az.2 h sp.length 0 rfl (fv _);rw [List.drop_zero,Ag] at this;show (match lj z ds (sp.map jo) 1 [] with | .error e=>v8 e | .ok sp=>pA (z,sp))=_;rw [this]
noncomputable def gq (z:Int) (sp:List ba):Str:=eG nl ((jA z sp).map (eG cO))
theorem Q2 (c:Nat):∀ (l:List (List Nat)) (x:List Nat),l ≠ []->hM c (l ++ [x])=hM c l ++ c :: x
 | [],_,h=>absurd rfl h
 | [a],x,_=>rfl
 | a :: b :: r,x,_=>by
  have:=Q2 c (b :: r) x (by simp);show a ++ c :: hM c ((b :: r) ++ [x])=(a ++ c :: hM c (b :: r)) ++ c :: x;rw [this,oI,sy]
theorem X5 (z:Int):gq z []=ah "round " ++ num z:=by
 apply ua;have ax:(ah "round ").cps.toList=[114,111,117,110,100,32]:=by ac_nf
 have aG:(ah "round").cps.toList=[114,111,117,110,100]:=by ac_nf
 unfold gq jA;rw [zQ,l8,su];simp only [eJ,i_,hM,l8,pQ,oM,ax,aG,sy,AJ]
theorem ael (z:Int) (sp:List ba) (s:ba):gq z (sp ++ [s])=(((((gq z sp ++ ah "\nfree ") ++ s.name) ++ ah " ") ++ num s.b) ++ ah " ") ++ num s.n:=by
 apply ua;have ax:(ah "\nfree ").cps.toList=[10,102,114,101,101,32]:=by ac_nf
 have aG:(ah "free").cps.toList=[102,114,101,101]:=by ac_nf
 have bM:(ah " ").cps.toList=[32]:=by ac_nf
 unfold gq;rw [show jA z (sp ++ [s])=jA z sp ++ [jo s] by unfold jA;rw [eM,sy];rfl];rw [zQ,l8,eM,eM,eJ,i_,eJ,i_,Q2 _ _ _ (by unfold jA;simp),su];simp only [pQ,oM,l8,jo,eJ,i_,hM,ax,aG,bM,oI,sy,AJ]
theorem vJ {α:Type} (z:Nat) (v:α) (b:Int) (az:0 < z) (l:List α) (aA:l.length=z):∀ (k:Nat) (i:Nat),i < z->(jq z v b k l)[i]? = if ∃ j,j < k/\(b + (j:Int)) % (z:Int)=(i:Int) then some v else l[i]?
 | 0,i,ai=>by rw [if_neg (fun ⟨j,aZ,_⟩=>by omega)];rfl
 | k + 1,i,ai=>by
  have cj:=vJ z v b az l aA k i ai;have h0:=e' (b + (k:Int)) (show (z:Int) ≠ 0 by omega);have ae:=ff (b + (k:Int)) (show 0 < (z:Int) by omega);unfold jq pa;by_cases c:(b + (k:Int)) % (z:Int)=(i:Int)
  .rw [show ((b + (k:Int)) % (z:Int)).toNat=i by omega,oC (by rw [k6,aA];exact ai),if_pos ⟨k,by omega,c⟩]
  .rw [qZ (by omega),cj];by_cases e:∃ j,j < k/\(b + (j:Int)) % (z:Int)=(i:Int)
   .obtain ⟨j,aZ,kk⟩:=e;rw [if_pos ⟨j,aZ,kk⟩,if_pos ⟨j,by omega,kk⟩]
   .rw [if_neg e,if_neg];rintro ⟨j,aZ,kk⟩;by_cases G5:j=k
    .subst G5;exact c kk
    .exact e ⟨j,by omega,kk⟩
theorem xx {z b i:Int} {n:Int} (az:0 < z) (ai:0 <= i/\i < z) (aF:0 <= n/\n <= z):(∃ j:Nat,j < n.toNat/\(b + (j:Int)) % z=i)↔(i - b) % z < n:=by
 have h0:=e' (i - b) (show z ≠ 0 by omega);have ae:=ff (i - b) az;constructor
 .rintro ⟨j,aZ,e⟩;have:(i - b) % z=j:=by
   rw [<- e,kJ,show b + (j:Int) - b=j by omega];exact i4 (by omega) (by omega)
  omega
 .intro h;refine ⟨((i - b) % z).toNat,by omega,?_⟩;rw [iJ h0,Sy,show b + (i - b)=i by omega];exact i4 ai.1 ai.2
theorem RB {z:Nat} (az:0 < z) {b n:Int} (aF:0 <= n/\n <= z) {i:Nat} (ai:i < z):(d6 z [(b,n)])[i]? = some (decide (((i:Int) - b) % (z:Int) < n)):=by
 unfold d6;rw [wR,vf,vJ z true b az _ (uY ..) _ _ ai];have:=xx (z:=z) (b:=b) (i:=i) (n:=n) (by omega) ⟨by omega,by omega⟩ aF;by_cases c:((i:Int) - b) % (z:Int) < n
 .rw [if_pos (this.mpr c),decide_eq_true c]
 .rw [if_neg (fun e=>c (this.mp e)),decide_eq_false c,DS,if_pos ai]
theorem yJ (m:List Bool):∀ k,0 <= hq m k
 | 0=>by show (0:Int) <= 0;decide
 | k + 1=>by
  have:=yJ m k;unfold hq;split <;> omega
theorem Qa (m:List Bool) (g:Int) (a3:0 <= g):∀ k:Nat,hq m k <= g↔(∃ j:Nat,(j:Int) <= g/\j < k/\m[(2 * m.length - 1 - (k - 1 - j)) % m.length]? = some true)\/(k:Int) <= g
 | 0=>by
  constructor
  .intro _;exact .inr (by omega)
  .intro _;exact a3
 | k + 1=>by
  by_cases c:m[(2 * m.length - 1 - k) % m.length]? = some true
  .have e:hq m (k + 1)=0:=by unfold hq;rw [if_pos c]
   rw [e];exact ⟨fun _=>.inl ⟨0,by omega,by omega,by rw [show k + 1 - 1 - 0=k by omega];exact c⟩,fun _=>a3⟩
  .have e:hq m (k + 1)=hq m k + 1:=by
    show (if m[(2 * m.length - 1 - k) % m.length]? = some true then 0 else hq m k + 1)=_;rw [if_neg c]
   rw [e];by_cases aie:1 <= g
   .have cj:=Qa m (g - 1) (by omega) k;constructor
    .intro h;rcases cj.mp (by omega) with ⟨j,ae,ak,a_⟩ | h
     .exact .inl ⟨j + 1,by omega,by omega,by rw [show k + 1 - 1 - (j + 1)=k - 1 - j by omega];exact a_⟩
     .exact .inr (by omega)
    .rintro (⟨j,ae,ak,a_⟩ | h)
     .by_cases aZ:j=0
      .subst aZ;rw [show k + 1 - 1 - 0=k by omega] at a_;exact absurd a_ c
      .have:=cj.mpr (.inl ⟨j - 1,by omega,by omega,by rw [show k - 1 - (j - 1)=k + 1 - 1 - j by omega];exact a_⟩);omega
     .have:=cj.mpr (.inr (by omega));omega
   .have:=yJ m k;constructor
    .intro h;omega
    .rintro (⟨j,ae,ak,a_⟩ | h)
     .have aZ:j=0:=by omega
      subst aZ;rw [show k + 1 - 1 - 0=k by omega] at a_;exact absurd a_ c
     .omega
theorem Rq {m:List Bool} {t:Nat} (ct:t < m.length):(mz m)[t]? = some (hq m (2 * m.length - t)):=by
 unfold mz;rw [eA,QW ct];rfl
theorem Q3 {m:List Bool} (hm:∃ i,i < m.length/\m[i]? = some true) {t:Nat} (ct:t < m.length) (g:Int) (a3:0 <= g):hq m (2 * m.length - t) <= g↔∃ j:Nat,(j:Int) <= g/\m[(t + j) % m.length]? = some true:=by
 have pos:∀ j,j < 2 * m.length - t->(2 * m.length - 1 - (2 * m.length - t - 1 - j))=t + j:=fun j aZ=>by omega
 rw [Qa m g a3];constructor
 .rintro (⟨j,ae,ak,a_⟩ | h)
  .rw [pos j ak] at a_;exact ⟨j,ae,a_⟩
  .obtain ⟨i,ai,e⟩:=hm;refine ⟨(i + m.length - t) % m.length,?_,?_⟩
   .have:=zv (i + m.length - t) (show 0 < m.length by omega);omega
   .rw [adE,show t + (i + m.length - t)=i + m.length by omega,Nat.add_mod_right,Nat.mod_eq_of_lt ai];exact e
 .rintro ⟨j,ae,ak⟩;have aZ:=zv j (show 0 < m.length by omega);have hle:=Nat.mod_le j m.length;refine .inl ⟨j % m.length,by omega,by omega,?_⟩;rw [pos _ (by omega),adE];exact ak
theorem ZX {m:List Bool} (hm:∃ i,i < m.length/\m[i]? = some true):∃ i,i < m.reverse.length/\m.reverse[i]? = some true:=by
 obtain ⟨i,ai,e⟩:=hm;refine ⟨m.length - 1 - i,by rw [uW];omega,?_⟩;rw [OK (by omega),show m.length - 1 - (m.length - 1 - i)=i by omega];exact e
theorem JZ {m:List Bool} {t:Nat} (ct:t < m.length):∃ v,(qO m)[t]? = some v/\0 <= v/\((∃ i,i < m.length/\m[i]? = some true)->∀ g:Int,0 <= g->(v <= g↔∃ j:Nat,(j:Int) <= g/\m[(((t:Int) - (j:Int)) % (m.length:Int)).toNat]? = some true)):=by
 have au:m.reverse.length=m.length:=uW;have ae:m.length - 1 - t < m.reverse.length:=by omega
 refine ⟨hq m.reverse (2 * m.reverse.length - (m.length - 1 - t)),?_,yJ _ _,fun hm g a3=>?_⟩
 .unfold qO;rw [OK (by rw [xA];omega),xA,au];have:=Rq ae;rw [au] at this;exact this
 .rw [Q3 (ZX hm) ae g a3];have key:∀ j:Nat,m.reverse[(m.length - 1 - t + j) % m.reverse.length]? = m[(((t:Int) - (j:Int)) % (m.length:Int)).toNat]?:=fun j=>by
   rw [au];have cx:=zv (m.length - 1 - t + j) (show 0 < m.length by omega);rw [OK (by omega)];congr 1;have h0:=e' ((t:Int) - (j:Int)) (show (m.length:Int) ≠ 0 by omega);have e:((t:Int) - (j:Int)) % (m.length:Int)=((m.length - 1 - (m.length - 1 - t + j) % m.length:Nat):Int):=by
    have d:=Nat.div_add_mod (m.length - 1 - t + j) m.length;generalize (m.length - 1 - t + j) / m.length=q at d;generalize (m.length - 1 - t + j) % m.length=r at d cx ⊢;have aG:(t:Int) - (j:Int)=((m.length - 1 - r:Nat):Int) + (m.length:Int) * (-(q:Int)):=by
     have d':(m.length:Int) * (q:Int) + (r:Int)=((m.length - 1 - t + j:Nat):Int):=by rw [<- d];push_cast;rfl
     rw [XK];omega
    rw [aG,w9];exact i4 (by omega) (by omega)
   omega
  constructor
  .rintro ⟨j,ak,a_⟩;exact ⟨j,ak,by rw [<- key j];exact a_⟩
  .rintro ⟨j,ak,a_⟩;exact ⟨j,ak,by rw [key j];exact a_⟩
theorem aia {z:Nat} (az:0 < z) {b n:Int} (aF:1 <= n/\n <= z) {t:Nat} (ct:t < z):∃ v,(qO (d6 z [(b,n)]))[t]? = some v/\0 <= v/\∀ g:Int,0 <= g->(v <= g↔∃ j:Nat,(j:Int) <= g/\((t:Int) - (j:Int) - b) % (z:Int) < n):=by
 have aA:(d6 z [(b,n)]).length=z:=nL _ _;obtain ⟨v,ae,ak,a_⟩:=JZ (m:=d6 z [(b,n)]) (t:=t) (by rw [aA];exact ct);refine ⟨v,ae,ak,fun g a3=>?_⟩;have va:=e' b (show (z:Int) ≠ 0 by omega);have nU:=ff b (show 0 < (z:Int) by omega);have hm:∃ i,i < (d6 z [(b,n)]).length/\(d6 z [(b,n)])[i]? = some true:=by
  refine ⟨(b % (z:Int)).toNat,by rw [aA];omega,?_⟩;rw [RB az ⟨by omega,aF.2⟩ (by omega),iJ va,decide_eq_true];rw [kJ,Qo,K6];omega
 rw [a_ hm g a3,aA];have key:∀ j:Nat,(d6 z [(b,n)])[(((t:Int) - (j:Int)) % (z:Int)).toNat]? = some (decide (((t:Int) - (j:Int) - b) % (z:Int) < n)):=fun j=>by
  have fZ:=e' ((t:Int) - (j:Int)) (show (z:Int) ≠ 0 by omega);have bT:=ff ((t:Int) - (j:Int)) (show 0 < (z:Int) by omega);rw [RB az ⟨by omega,aF.2⟩ (by omega),iJ fZ,kJ]
 constructor
 .rintro ⟨j,g1,g2⟩;rw [key j] at g2;exact ⟨j,g1,of_decide_eq_true (eS g2)⟩
 .rintro ⟨j,g1,g2⟩;exact ⟨j,g1,by rw [key j,decide_eq_true g2]⟩
theorem MX {z:Nat} (az:0 < z):∀ (ps:List (Int × Int)),(∀ p ∈ ps,0 <= p.2/\p.2 <= z)->∀ (l:List Bool),l.length=z->∀ {i:Nat},i < z ->
  (ps.foldl (fun l p=>jq z true p.1 p.2.toNat l) l)[i]? = some ((ps.any fun p=>decide (((i:Int) - p.1) % (z:Int) < p.2)) || l[i]?.getD false)
 | [],_,l,aA,i,ai=>by
  rw [vf,Ww,m2,b7 (by omega)];rfl
 | p :: ps,h,l,aA,i,ai=>by
  have aq:=h p (ma ..);rw [wR,MX az ps (fun q aH=>h q (fw _ aH)) _ (by rw [k6,aA]) ai,vJ z true p.1 az l aA _ _ ai,pw];have:=xx (z:=z) (b:=p.1) (i:=i) (n:=p.2) (by omega) ⟨by omega,by omega⟩ aq;by_cases c:((i:Int) - p.1) % (z:Int) < p.2
  .rw [if_pos (this.mpr c),decide_eq_true c];simp
  .rw [if_neg (fun e=>c (this.mp e)),decide_eq_false c,m2]
theorem zA {z:Nat} (az:0 < z) {ps:List (Int × Int)} (h:∀ p ∈ ps,0 <= p.2/\p.2 <= z) {i:Nat} (ai:i < z):(d6 z ps)[i]? = some (ps.any fun p=>decide (((i:Int) - p.1) % (z:Int) < p.2)):=by
 unfold d6;rw [MX az ps h _ (uY ..) ai,DS,if_pos ai];simp
noncomputable def jr (z t:Int) (p:Int × Int):Int:=if (t - p.1) % z < p.2 then 0 else z - (t - p.1) % z
noncomputable def mx (z t:Int) (ps:List (Int × Int)):Int:=ps.foldl (fun b p=>min b (jr z t p)) z
theorem Dx {z t:Int} (az:0 < z) (p:Int × Int):0 <= jr z t p/\jr z t p <= z:=by
 have h0:=e' (t - p.1) (show z ≠ 0 by omega);have ae:=ff (t - p.1) az;unfold jr;split <;> omega
theorem C9 {z t g:Int} (az:0 < z) {p:Int × Int} (aq:1 <= p.2/\p.2 <= z) (a3:0 <= g):jr z t p <= g↔∃ j:Nat,(j:Int) <= g/\(t + (j:Int) - p.1) % z < p.2:=by
 have h0:=e' (t - p.1) (show z ≠ 0 by omega);have ae:=ff (t - p.1) az;have step:∀ j:Int,(t + j - p.1) % z=((t - p.1) % z + j) % z:=fun j=>by
  rw [Oy,show t + j - p.1=t - p.1 + j by omega]
 unfold jr;by_cases c:(t - p.1) % z < p.2
 .rw [if_pos c];exact ⟨fun _=>⟨0,by omega,by rw [step,Int.natCast_zero,Int.add_zero,adx _ (aau _)];exact c⟩,fun _=>a3⟩
 .rw [if_neg c];constructor
  .intro h;refine ⟨(z - (t - p.1) % z).toNat,by omega,?_⟩;rw [step,iJ (by omega),show (t - p.1) % z + (z - (t - p.1) % z)=z by omega,aai];omega
  .rintro ⟨j,aZ,h⟩;by_cases d:(t - p.1) % z + j < z
   .rw [step,i4 (by omega) d] at h;omega
   .omega
theorem io (z t g:Int):∀ (ps:List (Int × Int)) (b:Int),ps.foldl (fun b p=>min b (jr z t p)) b <= g↔b <= g\/∃ p ∈ ps,jr z t p <= g
 | [],b=>by simp
 | p :: ps,b=>by
  rw [wR,io z t g ps];simp only [dQ,exists_eq_or_imp];rw [show min b (jr z t p) <= g↔b <= g\/jr z t p <= g by omega,or_assoc]
theorem Mi {z t:Int} (az:0 < z) (ps:List (Int × Int)):0 <= mx z t ps:=by
 have:¬ mx z t ps <= -1:=fun h=>by
  rcases (io z t (-1) ps z).mp h with h | ⟨p,_,h⟩
  .omega
  .have:=Dx (t:=t) az p;omega
 omega
theorem TQ {z t:Int} (ps:List (Int × Int)):mx z (t % z) ps=mx z t ps:=by
 have:∀ p:Int × Int,jr z (t % z) p=jr z t p:=fun p=>by
  unfold jr;rw [kJ]
 unfold mx;simp only [this]
theorem YG {z:Nat} (az:0 < z) {ps:List (Int × Int)} (h:∀ p ∈ ps,1 <= p.2/\p.2 <= z) (bR:ps ≠ []) {t:Nat} (ct:t < z):(mz (d6 z ps))[t]? = some (mx z t ps):=by
 have aA:(d6 z ps).length=z:=nL _ _;have cN:∀ p ∈ ps,0 <= p.2/\p.2 <= z:=fun p aq=>⟨by have:=h p aq;omega,(h p aq).2⟩
 have key:∀ j:Nat,(d6 z ps)[(t + j) % z]? = some (ps.any fun p=>decide (((t:Int) + (j:Int) - p.1) % (z:Int) < p.2)):=fun j=>by
  rw [zA az cN (zv _ az)];congr 2;funext p;rw [Zq,kJ,Int.natCast_add]
 obtain ⟨eh,ez,rfl⟩:=acv bR;have hm:∃ i,i < (d6 z (eh :: ez)).length/\(d6 z (eh :: ez))[i]? = some true:=by
  have va:=e' eh.1 (show (z:Int) ≠ 0 by omega);have nU:=ff eh.1 (show 0 < (z:Int) by omega);refine ⟨(eh.1 % (z:Int)).toNat,by rw [aA];omega,?_⟩;rw [zA az cN (by omega),pw,iJ va,kJ,Qo,K6,decide_eq_true (by have:=h eh (ma ..);omega),sO]
 rw [Rq (by rw [aA];exact ct)];congr 1;have ul:=Q3 hm (t:=t) (by rw [aA];exact ct);rw [aA] at ul ⊢;have all:∀ g:Int,0 <= g->(hq (d6 z (eh :: ez)) (2 * z - t) <= g↔mx z t (eh :: ez) <= g):=fun g a3=>by
  rw [ul g a3];unfold mx;rw [io];constructor
  .rintro ⟨j,aZ,e⟩;rw [key j,xm,pY] at e;obtain ⟨p,aq,e⟩:=e;exact .inr ⟨p,aq,(C9 (by omega) (h p aq) a3).mpr ⟨j,aZ,of_decide_eq_true e⟩⟩
  .intro e;have e:∃ p ∈ eh :: ez,jr z t p <= g:=by
    rcases e with e | e
    .exact ⟨eh,ma ..,by have:=(Dx (z:=z) (t:=t) (by omega) eh).2;omega⟩
    .exact e
   obtain ⟨p,aq,e⟩:=e;obtain ⟨j,aZ,e⟩:=(C9 (by omega) (h p aq) a3).mp e;exact ⟨j,aZ,by rw [key j,xm,pY];exact ⟨p,aq,decide_eq_true e⟩⟩
 have a1:=yJ (d6 z (eh :: ez)) (2 * z - t);have a2:=Mi (z:=z) (t:=t) (by omega) (eh :: ez);have iA:=(all _ a2).mpr (ui _);have gO:=(all _ a1).mp (ui _);omega
structure ahT (z:Nat) (ds:List aD) (sp:List ba):Prop where
 al:∀ s ∈ sp,∃ d,kn ds s.name=some d/\(0 <= s.b/\s.b < z)/\1 <= s.n/\s.n + cK d + cI d <= z
 bV:∀ (i j:Nat) (s e:ba) (d:aD),i ≠ j->sp[i]? = some s->sp[j]? = some e->e.name=s.name->kn ds s.name=some d->s.n + cK d + cI d <= (e.b - s.b) % (z:Int)
noncomputable def C8 (z rd fd:Int) (p q:Int × Int):Prop:=p.2 + fd + rd <= (q.1 - p.1) % z/\q.2 + fd + rd <= (p.1 - q.1) % z
structure eL (z rd fd ls:Int) (ps:List (Int × Int)):Prop where
 gC:0 < z
 ez:0 <= rd
 f0:0 <= fd
 NK:fd=0->rd=0
 al:∀ p ∈ ps,1 <= p.2/\ls <= p.2/\p.2 + fd + rd <= z
 ta:∀ p ∈ ps,∀ q ∈ ps,p=q\/C8 z rd fd p q
noncomputable def b9 (z u:Int) (p:Int × Int):Int:=(u - p.1) % z
theorem rU {z:Int} (az:0 < z) (u:Int) (p:Int × Int):0 <= b9 z u p/\b9 z u p < z:=⟨e' _ (by omega),ff _ az⟩
theorem vN {z:Int} (az:0 < z) (u:Int) (p:Int × Int) {j:Int} (aZ:0 <= j) (h:b9 z u p + j < z):b9 z (u + j) p=b9 z u p + j:=by
 have:=rU az u p;unfold b9 at *;have e:u + j - p.1=(u - p.1) + j:=by omega
 rw [e,<- Oy,i4 (by omega) h]
theorem LJ {z:Int} (az:0 < z) (u:Int) (p:Int × Int) {j:Int} (h:b9 z u p + j=z):b9 z (u + j) p=0:=by
 unfold b9 at *;have e:u + j - p.1=(u - p.1) + j:=by omega
 rw [e,<- Oy,h,aai]
theorem oL {z:Int} (az:0 < z) (u:Int) (p:Int × Int):(b9 z u p + 1 < z/\b9 z (u + 1) p=b9 z u p + 1)\/(b9 z u p=z - 1/\b9 z (u + 1) p=0):=by
 have h:=rU az u p;by_cases c:b9 z u p + 1 < z
 .exact .inl ⟨c,vN az u p (by decide) c⟩
 .exact .inr ⟨by omega,LJ az u p (by omega)⟩
theorem C8.clear {z:Int} (az:0 < z) {rd fd:Int} (au:0 <= rd) (hf:0 <= fd) {p q:Int × Int} (h:C8 z rd fd p q) (aq:1 <= p.2) (aH:1 <= q.2) {u:Int} (ar:b9 z u p < p.2 + fd\/z - rd <= b9 z u p):q.2 + fd <= b9 z u q/\b9 z u q < z - rd:=by
 have h0:=rU az u p;have bj:0 < (p.1 - q.1) % z:=by have:=h.2;omega
 have ait:=ff (p.1 - q.1) az;have aF:(q.1 - p.1) % z=z - (p.1 - q.1) % z:=by
  have e:q.1 - p.1=(z - (p.1 - q.1) % z) + z * (-((p.1 - q.1) / z) - 1):=by
   have:=Int.mul_ediv_add_emod (p.1 - q.1) z;rw [Int.mul_sub,XK,aem];omega
  rw [e,w9,i4 (by omega) (by omega)]
 have ae:=h.1;have ak:=h.2;rw [aF] at ae;have e:b9 z u q=(b9 z u p + (p.1 - q.1) % z) % z:=by
  unfold b9;rw [<- Mg,show u - p.1 + (p.1 - q.1)=u - q.1 by omega]
 generalize (p.1 - q.1) % z=D at *;rw [e];rcases ar with ar | ar
 .rw [i4 (by omega) (by omega)];omega
 .rw [show b9 z u p + D=(b9 z u p + D - z) + z * 1 by omega,w9,i4 (by omega) (by omega)];omega
noncomputable def dG (z rd fd:Int) (ps:List (Int × Int)) (u:Int):Nat:=if (ps.any fun p=>decide (b9 z u p < p.2))=true then 2 else if (ps.any fun p=>decide (b9 z u p < p.2 + fd))=true then 3 else if (ps.any fun p=>decide (z - rd <= b9 z u p))=true then 1 else 0
section
variable {z rd fd ls:Int} {ps:List (Int × Int)}
theorem HY {f:Int × Int->Prop} [DecidablePred f] (h:∀ p ∈ ps,¬ f p):¬ (ps.any fun p=>decide (f p))=true:=fun e=>by
 obtain ⟨p,aq,hd⟩:=pY.mp e;exact h p aq (of_decide_eq_true hd)
theorem sx {f:Int × Int->Prop} [DecidablePred f] {p:Int × Int} (aq:p ∈ ps) (h:f p):(ps.any fun p=>decide (f p))=true:=pY.mpr ⟨p,aq,decide_eq_true h⟩
theorem Hl {f:Int × Int->Prop} [DecidablePred f] (e:(ps.any fun p=>decide (f p))=true):∃ p ∈ ps,f p:=by
 obtain ⟨p,aq,hd⟩:=pY.mp e;exact ⟨p,aq,of_decide_eq_true hd⟩
theorem eL.clear (C:eL z rd fd ls ps) {p:Int × Int} (aq:p ∈ ps) {u:Int} (ar:b9 z u p < p.2 + fd\/z - rd <= b9 z u p) {q:Int × Int} (aH:q ∈ ps):p=q\/(q.2 + fd <= b9 z u q/\b9 z u q < z - rd):=by
 rcases C.ta p aq q aH with e | e
 .exact .inl e
 .exact .inr (e.clear C.gC C.ez C.f0 (C.al p aq).1 (C.al q aH).1 ar)
theorem eL.free {p:Int × Int} (aq:p ∈ ps) {u:Int} (h:b9 z u p < p.2):dG z rd fd ps u=2:=by
 unfold dG;rw [if_pos (sx aq h)]
theorem eL.q2 (C:eL z rd fd ls ps) {p:Int × Int} (aq:p ∈ ps) {u:Int} (ae:p.2 <= b9 z u p) (ak:b9 z u p < p.2 + fd):dG z rd fd ps u=3:=by
 unfold dG;rw [if_neg (HY fun q aH=>?_),if_pos (sx aq ak)];have:=C.f0;rcases C.clear aq (.inl ak) aH with e | e
 .rw [<- e];omega
 .omega
theorem eL.ready (C:eL z rd fd ls ps) {p:Int × Int} (aq:p ∈ ps) {u:Int} (h:z - rd <= b9 z u p):dG z rd fd ps u=1:=by
 have a:=(C.al p aq).2.2;have:=C.f0;unfold dG;rw [if_neg (HY fun q aH=>?_),if_neg (HY fun q aH=>?_),if_pos (sx aq h)]
 .rcases C.clear aq (.inr h) aH with e | e
  .rw [<- e];omega
  .omega
 .rcases C.clear aq (.inr h) aH with e | e
  .rw [<- e];omega
  .omega
theorem ov (z rd fd:Int) (ps:List (Int × Int)) (u:Int):(dG z rd fd ps u=2/\∃ p ∈ ps,b9 z u p < p.2)\/(dG z rd fd ps u=3/\∃ p ∈ ps,p.2 <= b9 z u p/\b9 z u p < p.2 + fd)\/(dG z rd fd ps u=1/\∃ p ∈ ps,z - rd <= b9 z u p)\/(dG z rd fd ps u=0/\∀ p ∈ ps,p.2 <= b9 z u p/\p.2 + fd <= b9 z u p/\b9 z u p < z - rd):=by
 unfold dG;by_cases bT:(ps.any fun p=>decide (b9 z u p < p.2))=true
 .rw [if_pos bT];exact .inl ⟨rfl,Hl bT⟩
 .have c4:∀ p ∈ ps,¬ b9 z u p < p.2:=fun p aq h=>bT (sx aq h)
  rw [if_neg bT];by_cases cU:(ps.any fun p=>decide (b9 z u p < p.2 + fd))=true
  .rw [if_pos cU];obtain ⟨p,aq,h⟩:=Hl cU;exact .inr (.inl ⟨rfl,p,aq,by have:=c4 p aq;omega,h⟩)
  .have cP:∀ p ∈ ps,¬ b9 z u p < p.2 + fd:=fun p aq h=>cU (sx aq h)
   rw [if_neg cU];by_cases iw:(ps.any fun p=>decide (z - rd <= b9 z u p))=true
   .rw [if_pos iw];exact .inr (.inr (.inl ⟨rfl,Hl iw⟩))
   .rw [if_neg iw];refine .inr (.inr (.inr ⟨rfl,fun p aq=>⟨by have:=c4 p aq;omega,by have:=cP p aq;omega,?_⟩⟩));have:¬ z - rd <= b9 z u p:=fun h=>iw (sx aq h)
    omega
theorem It (z rd fd:Int) (ps:List (Int × Int)) (u:Int):dG z rd fd ps u < 4:=by
 rcases ov z rd fd ps u with h | h | h | h <;> rw [h.1] <;> decide
structure EH (rd fd:Int) (a b:Nat):Prop where
 f0:a=0->b=if 0 < rd then 1 else 2
 f1:a=1->b=2
 f2:a=2->b=if 0 < fd then 3 else 0
 e1:a=3->b=0\/b=if 0 < rd then 1 else 2
theorem eL.ahead (C:eL z rd fd ls ps) {u:Int} (h:∀ p ∈ ps,b9 z (u + 1) p < p.2 + fd->b9 z (u + 1) p=0/\rd=0):dG z rd fd ps (u + 1)=0\/dG z rd fd ps (u + 1)=if 0 < rd then 1 else 2:=by
 rcases ov z rd fd ps (u + 1) with e | e | e | e
 .obtain ⟨e,p,aq,ar⟩:=e;have:=C.f0;rw [e,if_neg (by have:=(h p aq (by omega)).2;omega)];exact .inr rfl
 .obtain ⟨e,p,aq,ae,ak⟩:=e;have:=(h p aq ak).1;have:=(C.al p aq).1;omega
 .obtain ⟨e,p,aq,ae⟩:=e;have:=rU C.gC (u + 1) p;rw [e,if_pos (by omega)];exact .inr rfl
 .exact .inl e.1
theorem eL.R8 (C:eL z rd fd ls ps) (u:Int) (h:dG z rd fd ps (u + 1) ≠ dG z rd fd ps u):EH rd fd (dG z rd fd ps u) (dG z rd fd ps (u + 1)):=by
 have hf:=C.f0;have au:=C.ez;rcases ov z rd fd ps u with e | e | e | e
 .obtain ⟨e,p,aq,ae⟩:=e;have a:=C.al p aq;rw [e] at h ⊢;refine ⟨fun z=>by omega,fun z=>by omega,fun _=>?_,fun z=>by omega⟩;rcases oL C.gC u p with ⟨bT,cU⟩ | ⟨bT,cU⟩
  .by_cases c:b9 z u p + 1 < p.2
   .exact absurd (eL.free aq (by omega)) h
   .by_cases O3:0 < fd
    .rw [if_pos O3];exact C.q2 aq (by omega) (by omega)
    .rw [if_neg O3];have ez:=C.NK (by omega);rcases ov z rd fd ps (u + 1) with k | k | k | k
     .exact absurd k.1 h
     .obtain ⟨_,q,_,ae,ak⟩:=k;omega
     .obtain ⟨_,q,_,ae⟩:=k;have:=rU C.gC (u + 1) q;omega
     .exact k.1
  .exact absurd (eL.free aq (by omega)) h
 .obtain ⟨e,p,aq,ae,ak⟩:=e;have a:=C.al p aq;rw [e] at h ⊢;refine ⟨fun z=>by omega,fun z=>by omega,fun z=>by omega,fun _=>?_⟩;refine C.ahead fun q aH ar=>?_
  rcases C.clear aq (.inl ak) aH with k | k
  .subst k;rcases oL C.gC u p with ⟨bT,cU⟩ | ⟨bT,cU⟩
   .exact absurd (C.q2 aq (by omega) ar) h
   .exact ⟨cU,by omega⟩
  .rcases oL C.gC u q with ⟨bT,cU⟩ | ⟨bT,cU⟩
   .omega
   .exact ⟨cU,by omega⟩
 .obtain ⟨e,p,aq,ae⟩:=e;have a:=C.al p aq;rw [e] at h ⊢;refine ⟨fun z=>by omega,fun _=>?_,fun z=>by omega,fun z=>by omega⟩;rcases oL C.gC u p with ⟨bT,cU⟩ | ⟨bT,cU⟩
  .exact absurd (C.ready aq (by omega)) h
  .exact eL.free aq (by omega)
 .obtain ⟨e,al⟩:=e;rw [e] at h ⊢;refine ⟨fun _=>?_,fun z=>by omega,fun z=>by omega,fun z=>by omega⟩;refine (C.ahead fun q aH ar=>?_).resolve_left h;have k:=al q aH;rcases oL C.gC u q with ⟨bT,cU⟩ | ⟨bT,cU⟩
  .omega
  .exact ⟨cU,by omega⟩
theorem eL.len (C:eL z rd fd ls ps) {a:Int} {m:Nat} (hm:0 < m) (h0:dG z rd fd ps (a - 1) ≠ dG z rd fd ps a) (ar:∀ j:Nat,j < m->dG z rd fd ps (a + j)=dG z rd fd ps a) (ae:dG z rd fd ps (a + m) ≠ dG z rd fd ps a) :
  (dG z rd fd ps a=1->(m:Int)=rd)/\(dG z rd fd ps a=2->ls <= (m:Int))/\(dG z rd fd ps a=3->(m:Int)=fd):=by
 have hf:=C.f0;have au:=C.ez;have U:∀ p,(b9 z (a - 1) p + 1 < z/\b9 z a p=b9 z (a - 1) p + 1)\/(b9 z (a - 1) p=z - 1/\b9 z a p=0):=fun p=>by
  have:=oL C.gC (a - 1) p;rw [show a - 1 + 1=a by omega] at this;exact this
 rcases ov z rd fd ps a with e | e | e | e
 .obtain ⟨e,p,aq,eE⟩:=e;rw [e] at h0 ar ae ⊢;refine ⟨fun z=>by omega,fun _=>?_,fun z=>by omega⟩;have al:=C.al p aq;have o0:b9 z a p=0:=by
   rcases U p with ⟨bT,cU⟩ | ⟨bT,cU⟩
   .exact absurd (eL.free aq (by omega)) h0
   .exact cU
  by_cases c:(m:Int) < p.2
  .refine absurd (eL.free aq ?_) ae;rw [vN C.gC a p (by omega) (by omega)];omega
  .omega
 .obtain ⟨e,p,aq,eE,fN⟩:=e;rw [e] at h0 ar ae ⊢;refine ⟨fun z=>by omega,fun z=>by omega,fun _=>?_⟩;have al:=C.al p aq;have o0:b9 z a p=p.2:=by
   rcases U p with ⟨bT,cU⟩ | ⟨bT,cU⟩
   .by_cases c:b9 z a p=p.2
    .exact c
    .exact absurd (C.q2 aq (by omega) (by omega)) h0
   .omega
  by_cases c:(m:Int) < fd
  .refine absurd (C.q2 aq ?_ ?_) ae <;> rw [vN C.gC a p (by omega) (by omega)] <;> omega
  .by_cases eN:(m:Int)=fd
   .exact eN
   .exfalso;have aZ:=ar fd.toNat (by omega);rw [iJ hf] at aZ;have aA:b9 z (a + (fd - 1)) p=p.2 + (fd - 1):=by rw [vN C.gC a p (by omega) (by omega),o0]
    have aG:a + fd=a + (fd - 1) + 1:=by omega
    rw [aG] at aZ;rcases ov z rd fd ps (a + (fd - 1) + 1) with k | k | k | k
    .omega
    .obtain ⟨_,q,aH,bw,b4⟩:=k;rcases C.clear aq (u:=a + (fd - 1)) (.inl (by omega)) aH with k | k
     .subst k;rcases oL C.gC (a + (fd - 1)) p with ⟨bT,cU⟩ | ⟨bT,cU⟩ <;> omega
     .have:=(C.al q aH).1;rcases oL C.gC (a + (fd - 1)) q with ⟨bT,cU⟩ | ⟨bT,cU⟩ <;> omega
    .omega
    .omega
 .obtain ⟨e,p,aq,eE⟩:=e;rw [e] at h0 ar ae ⊢;refine ⟨fun _=>?_,fun z=>by omega,fun z=>by omega⟩;have al:=C.al p aq;have aiN:=rU C.gC a p;have o0:b9 z a p=z - rd:=by
   rcases U p with ⟨bT,cU⟩ | ⟨bT,cU⟩
   .by_cases c:b9 z a p=z - rd
    .exact c
    .exact absurd (C.ready aq (by omega)) h0
   .omega
  by_cases c:(m:Int) < rd
  .refine absurd (C.ready aq ?_) ae;rw [vN C.gC a p (by omega) (by omega)];omega
  .by_cases eN:(m:Int)=rd
   .exact eN
   .exfalso;have aZ:=ar rd.toNat (by omega);rw [iJ au] at aZ;have:=eL.free (rd:=rd) (fd:=fd) aq (u:=a + rd) (by rw [LJ C.gC a p (by omega)];omega);omega
 .rw [e.1];exact ⟨fun z=>by omega,fun z=>by omega,fun z=>by omega⟩
end
noncomputable def bx:Nat->Str
 | 0=>ah "stop"
 | 1=>ah "ready"
 | 2=>ah "free"
 | _=>ah "fade"
theorem AG:∀ {a b:Nat},a < 4->b < 4->bx a=bx b->a=b:=by
 have h:∀ a < 4,∀ b < 4,bx a=bx b->a=b:=by ac_nf
 exact fun {a b} aJ ab=>h a aJ b ab
noncomputable def h8 (d:aD):Nat:=if 0 < cI d then 1 else 2
noncomputable def kK (d:aD):Nat:=if 0 < cK d then 3 else 0
noncomputable def rB (d:aD):Nat->List Nat
 | 0=>[h8 d]
 | 1=>[2]
 | 2=>[kK d]
 | _=>[0,h8 d]
noncomputable def hX (cs:List Nat):List V:=cs.map fun c=>V.str (bx c)
noncomputable def Vk (H:ag) (bd:Addr) (d:aD):Prop:=∃ aT,H bd=some (.cE aT)/\∀ c < 4,∃ b,dJ aT (bN (bx c))=some (.ref b)/\H b=some (.lst (hX (rB d c)))
theorem h3 {a b:Nat} (aJ:a < 4) (ab:b < 4) (h:a ≠ b):bx a ≠ bx b:=fun z=>h (AG aJ ab z)
theorem R6 (x0 eB gK ee:V):lI [] [(bN (bx 0),x0),(bN (bx 1),eB),(bN (bx 2),gK),(bN (bx 3),ee)]=[(bN (bx 0),x0),(bN (bx 1),eB),(bN (bx 2),gK),(bN (bx 3),ee)]:=by
 have EZ:=h3 (a:=0) (b:=1) (by decide) (by decide) (by decide);have Ih:=h3 (a:=0) (b:=2) (by decide) (by decide) (by decide);have Fv:=h3 (a:=0) (b:=3) (by decide) (by decide) (by decide);have oc:=h3 (a:=1) (b:=2) (by decide) (by decide) (by decide);have ou:=h3 (a:=1) (b:=3) (by decide) (by decide) (by decide);have rn:=h3 (a:=2) (b:=3) (by decide) (by decide) (by decide);unfold lI;simp only [wR,vf];rw [q1 x0 (k:=bN (bx 0)) (by rfl),q1 eB (by simp [dJ,EZ]),q1 gK (by simp [dJ,Ih,oc]),q1 ee (by simp [dJ,Fv,ou,rn])];rfl
theorem Ye (f:Nat->V) {c:Nat} (ar:c < 4):dJ ([(bN (bx 0),f 0),(bN (bx 1),f 1),(bN (bx 2),f 2),(bN (bx 3),f 3)]:List (Key × V)) (bN (bx c))=some (f c):=by
 have EZ:=h3 (a:=0) (b:=1) (by decide) (by decide) (by decide);have Ih:=h3 (a:=0) (b:=2) (by decide) (by decide) (by decide);have Fv:=h3 (a:=0) (b:=3) (by decide) (by decide) (by decide);have oc:=h3 (a:=1) (b:=2) (by decide) (by decide) (by decide);have ou:=h3 (a:=1) (b:=3) (by decide) (by decide) (by decide);have rn:=h3 (a:=2) (b:=3) (by decide) (by decide) (by decide)
 match c,ar with
 | 0,_=>simp [dJ]
 | 1,_=>simp [dJ,EZ]
 | 2,_=>simp [dJ,Ih,oc]
 | 3,_=>simp [dJ,Fv,ou,rn]
theorem KK {c:Nat} {l:List Nat} (h:c ∈ l):pV (.str (bx c)) (hX l)=true:=by
 unfold pV hX;rw [agI];exact pY.mpr ⟨c,h,by simp [kI]⟩
theorem Ke {c m:Nat} (ar:c < 4) (hm:m < 4):decide (bx c=bx m)=decide (c=m):=decide_eq_decide.mpr ⟨fun z=>AG ar hm z,fun z=>by rw [z]⟩
theorem Me {α:Type} (z:Nat) (v:α) (b:Int) (az:0 < z) (l:List α) (aA:l.length=z):∀ (k:Nat) (i:Nat),i < z->(nk z v b k l)[i]? = if ∃ j,j < k/\(b - 1 - (j:Int)) % (z:Int)=(i:Int) then some v else l[i]?
 | 0,i,ai=>by rw [if_neg (fun ⟨j,aZ,_⟩=>by omega)];rfl
 | k + 1,i,ai=>by
  have cj:=Me z v b az l aA k i ai;have h0:=e' (b - 1 - (k:Int)) (show (z:Int) ≠ 0 by omega);have ae:=ff (b - 1 - (k:Int)) (show 0 < (z:Int) by omega);unfold nk pa;by_cases c:(b - 1 - (k:Int)) % (z:Int)=(i:Int)
  .rw [show ((b - 1 - (k:Int)) % (z:Int)).toNat=i by omega,oC (by rw [pF,aA];exact ai),if_pos ⟨k,by omega,c⟩]
  .rw [qZ (by omega),cj];by_cases e:∃ j,j < k/\(b - 1 - (j:Int)) % (z:Int)=(i:Int)
   .obtain ⟨j,aZ,kk⟩:=e;rw [if_pos ⟨j,aZ,kk⟩,if_pos ⟨j,by omega,kk⟩]
   .rw [if_neg e,if_neg];rintro ⟨j,aZ,kk⟩;by_cases G5:j=k
    .subst G5;exact c kk
    .exact e ⟨j,by omega,kk⟩
theorem SM {z b i:Int} {n:Int} (az:0 < z) (ai:0 <= i/\i < z) (aF:0 <= n/\n <= z):(∃ j:Nat,j < n.toNat/\(b - 1 - (j:Int)) % z=i)↔z - n <= (i - b) % z:=by
 have h0:=e' (i - b) (show z ≠ 0 by omega);have ae:=ff (i - b) az;constructor
 .rintro ⟨j,aZ,e⟩;have:(i - b) % z=z - 1 - j:=by
   rw [<- e,kJ,show b - 1 - (j:Int) - b=(z - 1 - j) + z * (-1) by omega,w9];exact i4 (by omega) (by omega)
  omega
 .intro h;refine ⟨(z - 1 - (i - b) % z).toNat,by omega,?_⟩;rw [iJ (by omega),show b - 1 - (z - 1 - (i - b) % z)=(b + (i - b) % z) + z * (-1) by omega,w9,Sy,show b + (i - b)=i by omega];exact i4 ai.1 ai.2
noncomputable def gF (n:Int) (d:aD):List (List aD)->List (List aD)
 | []=>[[d]]
 | g :: gs=>if g.any (fun e=>mt n e d) then g :: gF n d gs else (g ++ [d]) :: gs
noncomputable def dW (n:Int) (ds:List aD):List (List aD):=ds.foldl (fun gs d=>gF n d gs) []
theorem Qi (n:Int) (d:aD):∀ gs,(gF n d gs).flatten.Perm (gs.flatten ++ [d])
 | []=>by simp [gF]
 | g :: gs=>by
  unfold gF;split
  .rw [rz,rz,oI];exact (Qi n d gs).append_left g
  .rw [rz,rz,oI,oI];exact List.perm_append_comm.append_left g
theorem PC {n:Int} {d:aD}:∀ {gs:List (List aD)},(∀ g ∈ gs,g ≠ [])->∀ g ∈ gF n d gs,g ≠ []
 | [],_,g,a3=>by
  rw [show g=[d] by simpa [gF] using a3];exact List.cons_ne_nil _ _
 | pO :: gs,h,g,a3=>by
  unfold gF at a3;split at a3
  .rcases dQ.mp a3 with rfl | a3
   .exact h _ (ma ..)
   .exact PC (fun x av=>h x (fw _ av)) g a3
  .rcases dQ.mp a3 with rfl | a3
   .simp
   .exact h g (fw _ a3)
theorem T_ (n:Int) (ds:List aD) (d:aD):dW n (ds ++ [d])=gF n d (dW n ds):=by
 unfold dW;rw [OE];rfl
theorem NL (n:Int) (ds:List aD):∀ g ∈ dW n ds,g ≠ []:=by
 unfold dW
 suffices h:∀ gs,(∀ g ∈ gs,g ≠ [])->∀ g ∈ ds.foldl (fun gs d=>gF n d gs) gs,g ≠ [] from h [] (by simp)
 induction ds with
 | nil=>exact fun gs h=>h
 | cons d ds cj=>exact fun gs h=>cj _ (PC h)
theorem tB (n:Int) (ds:List aD):(dW n ds).flatten.Perm ds:=by
 unfold dW
 suffices h:∀ gs,(ds.foldl (fun gs d=>gF n d gs) gs).flatten.Perm (gs.flatten ++ ds) from h []
 induction ds with
 | nil=>intro gs;simp
 | cons d ds cj=>
  intro gs;refine (cj (gF n d gs)).trans ?_;have:=(Qi n d gs).append_right ds;rwa [oI] at this
structure aiK (n:Int) (ds:List aD):Prop where
 aC:(ds.map (·.name)).Nodup
 al:∀ d ∈ ds,(0 <= d.off/\d.off <= 8)/\0 <= d.near/\1 <= d.least
 ahm:∀ d ∈ ds,∀ e ∈ ds,mt n d e=mt n e d
theorem B5:∀ {gs:List (List aD)},(∀ g ∈ gs,g ≠ [])->gs.length <= gs.flatten.length
 | [],_=>b2 _
 | g :: gs,h=>by
  have ae:=B5 (gs:=gs) fun x av=>h x (fw _ av)
  have ak:=List.length_pos_iff.mpr (h g (by simp));rw [rz,dP,hb];omega
theorem aca {z:Nat} (az:0 < z) {rd fd:Nat} {l:List Str} (aA:l.length=z) {p:Int × Int} (aF:0 <= p.2/\p.2 + fd + rd <= z) {i:Nat} (ai:i < z):(nt z rd fd l p)[i]? =
  if ((i:Int) - p.1) % (z:Int) < p.2 then some (ah "free") else if ((i:Int) - p.1) % (z:Int) < p.2 + fd then some (ah "fade") else if (z:Int) - rd <= ((i:Int) - p.1) % (z:Int) then some (ah "ready") else l[i]?:=by
 obtain ⟨b,n⟩:=p;dsimp only at aF ⊢;unfold nt;have s0:=e' ((i:Int) - b) (show (z:Int) ≠ 0 by omega);have s1:=ff ((i:Int) - b) (show 0 < (z:Int) by omega);rw [vJ z _ _ az _ (by rw [k6,pF,aA]) _ _ ai,vJ z _ _ az _ (by rw [pF,aA]) _ _ ai,Me z _ _ az _ aA _ _ ai];dsimp only;have e0:=xx (z:=z) (b:=b + n) (i:=i) (n:=fd) (by omega) ⟨by omega,by omega⟩ ⟨by omega,by omega⟩;have eW:=xx (z:=z) (b:=b) (i:=i) (n:=n) (by omega) ⟨by omega,by omega⟩ ⟨by omega,by omega⟩;have kE:=SM (z:=z) (b:=b) (i:=i) (n:=rd) (by omega) ⟨by omega,by omega⟩ ⟨by omega,by omega⟩;rw [AY] at e0 kE;have f1:((i:Int) - (b + n)) % (z:Int) < fd↔n <= ((i:Int) - b) % (z:Int)/\((i:Int) - b) % (z:Int) < n + fd:=by
  have e:((i:Int) - (b + n)) % (z:Int)=(((i:Int) - b) % (z:Int) - n) % (z:Int):=by
   rw [kJ,show (i:Int) - (b + n)=(i:Int) - b - n by omega]
  rw [e];by_cases c:n <= ((i:Int) - b) % (z:Int)
  .rw [i4 (by omega) (by omega)];omega
  .rw [show ((i:Int) - b) % (z:Int) - n=(((i:Int) - b) % (z:Int) - n + z) + (z:Int) * (-1) by omega,w9,i4 (by omega) (by omega)];omega
 by_cases bT:((i:Int) - b) % (z:Int) < n
 .rw [if_neg (fun h=>by have:=f1.mp (e0.mp h);omega),if_pos (eW.mpr bT),if_pos bT]
 .by_cases cU:((i:Int) - b) % (z:Int) < n + fd
  .rw [if_pos (e0.mpr (f1.mpr ⟨by omega,cU⟩)),if_neg bT,if_pos cU]
  .rw [if_neg (fun h=>by have:=f1.mp (e0.mp h);omega),if_neg (fun h=>bT (eW.mp h)),if_neg bT,if_neg cU];by_cases iw:(z:Int) - rd <= ((i:Int) - b) % (z:Int)
   .rw [if_pos (kE.mpr iw),if_pos iw]
   .rw [if_neg (fun h=>iw (kE.mp h)),if_neg iw]
theorem Ri {z:Nat} (az:0 < z) {ps:List (Int × Int)} (h:∀ p ∈ ps,1 <= p.2/\p.2 <= z) (bR:ps ≠ []) {t:Nat} (ct:t < z):∃ v,(qO (d6 z ps))[t]? = some v/\0 <= v/\∀ g:Int,0 <= g->(v <= g↔∃ j:Nat,(j:Int) <= g/\∃ p ∈ ps,((t:Int) - (j:Int) - p.1) % (z:Int) < p.2):=by
 have aA:(d6 z ps).length=z:=nL _ _;have cN:∀ p ∈ ps,0 <= p.2/\p.2 <= z:=fun p aq=>⟨by have:=h p aq;omega,(h p aq).2⟩
 obtain ⟨v,ae,ak,a_⟩:=JZ (m:=d6 z ps) (t:=t) (by rw [aA];exact ct);refine ⟨v,ae,ak,fun g a3=>?_⟩;obtain ⟨eh,ez,rfl⟩:=acv bR;have hm:∃ i,i < (d6 z (eh :: ez)).length/\(d6 z (eh :: ez))[i]? = some true:=by
  have va:=e' eh.1 (show (z:Int) ≠ 0 by omega);have nU:=ff eh.1 (show 0 < (z:Int) by omega);refine ⟨(eh.1 % (z:Int)).toNat,by rw [aA];omega,?_⟩;rw [zA az cN (by omega),pw,iJ va,kJ,Qo,K6,decide_eq_true (by have:=h eh (ma ..);omega),sO]
 rw [a_ hm g a3,aA];have key:∀ j:Nat,(d6 z (eh :: ez))[(((t:Int) - (j:Int)) % (z:Int)).toNat]? = some ((eh :: ez).any fun p=>decide (((t:Int) - (j:Int) - p.1) % (z:Int) < p.2)):=fun j=>by
  have fZ:=e' ((t:Int) - (j:Int)) (show (z:Int) ≠ 0 by omega);have bT:=ff ((t:Int) - (j:Int)) (show 0 < (z:Int) by omega);rw [zA az cN (by omega),iJ fZ];congr 2;funext p;rw [kJ]
 constructor
 .rintro ⟨j,g1,g2⟩;rw [key j,xm,pY] at g2;obtain ⟨p,aq,e⟩:=g2;exact ⟨j,g1,p,aq,of_decide_eq_true e⟩
 .rintro ⟨j,g1,p,aq,e⟩;exact ⟨j,g1,by rw [key j,xm,pY];exact ⟨p,aq,decide_eq_true e⟩⟩
section
variable {z:Nat} {rd fd ls:Int}
theorem eL.tail {p:Int × Int} {ps:List (Int × Int)} {z:Int} (C:eL z rd fd ls (p :: ps)):eL z rd fd ls ps:=⟨C.gC,C.ez,C.f0,C.NK,fun q aH=>C.al q (fw _ aH),fun q aH r au=>C.ta q (fw _ aH) r (fw _ au)⟩
theorem Xv {p:Int × Int} {ps:List (Int × Int)} {z:Int} (C:eL z rd fd ls (p :: ps)) {u:Int} (h:dG z rd fd ps u ≠ 0):dG z rd fd (p :: ps) u=dG z rd fd ps u:=by
 rcases ov z rd fd ps u with e | e | e | e
 .obtain ⟨e,q,aH,ae⟩:=e;rw [e];exact eL.free (fw _ aH) ae
 .obtain ⟨e,q,aH,ae,ak⟩:=e;rw [e];exact C.q2 (fw _ aH) ae ak
 .obtain ⟨e,q,aH,ae⟩:=e;rw [e];exact C.ready (fw _ aH) ae
 .exact absurd e.1 h
theorem QB {i:Nat} (ai:i < z):∀ (ps:List (Int × Int)) (l:List Str),l.length=z->eL z rd fd ls ps->(ps.foldl (nt z rd.toNat fd.toNat) l)[i]? = if dG z rd fd ps i=0 then l[i]? else some (bx (dG z rd fd ps i))
 | [],l,_,_=>by rw [if_pos (show dG z rd fd [] i=0 from rfl)];rfl
 | p :: ps,l,aA,C=>by
  have iz:=C.al p (ma ..);have au:=C.ez;have hf:=C.f0;have e:=aca (z:=z) (by omega) aA (p:=p) (rd:=rd.toNat) (fd:=fd.toNat) ⟨by omega,by omega⟩ ai;rw [iJ hf,iJ au,show ((i:Int) - p.1) % (z:Int)=b9 z i p from rfl] at e;have jx:(nt z rd.toNat fd.toNat l p).length=z:=by unfold nt;rw [k6,k6,pF,aA]
  rw [wR,QB ai ps _ jx C.tail];by_cases c:dG z rd fd ps i=0
  .rw [if_pos c,e];have pm:p ∈ p :: ps:=ma ..;by_cases bT:b9 z i p < p.2
   .rw [if_pos bT,eL.free pm bT];rfl
   .rw [if_neg bT];by_cases cU:b9 z i p < p.2 + fd
    .rw [if_pos cU,C.q2 pm (by omega) cU];rfl
    .rw [if_neg cU];by_cases iw:(z:Int) - rd <= b9 z i p
     .rw [if_pos iw,C.ready pm iw];rfl
     .rw [if_neg iw];have eZ:dG z rd fd (p :: ps) i=0:=by
       rcases ov z rd fd (p :: ps) i with e | e | e | e
       .obtain ⟨_,q,aH,ae⟩:=e;rcases dQ.mp aH with k | k
        .rw [k] at ae;exact absurd ae bT
        .rw [eL.free k ae] at c;cases c
       .obtain ⟨_,q,aH,ae,ak⟩:=e;rcases dQ.mp aH with k | k
        .rw [k] at ak;exact absurd ak cU
        .rw [C.tail.q2 k ae ak] at c;cases c
       .obtain ⟨_,q,aH,ae⟩:=e;rcases dQ.mp aH with k | k
        .rw [k] at ae;exact absurd ae iw
        .rw [C.tail.ready k ae] at c;cases c
       .exact e.1
      rw [eZ,if_pos rfl]
  .rw [if_neg c,Xv C c,if_neg c]
theorem Zy {ps:List (Int × Int)} (C:eL z rd fd ls ps) {i:Nat} (ai:i < z):(hN z rd.toNat fd.toNat ps)[i]? = some (bx (dG z rd fd ps i)):=by
 unfold hN;rw [QB ai ps _ (uY ..) C];by_cases c:dG z rd fd ps i=0
 .rw [if_pos c,c,DS,if_pos ai];rfl
 .rw [if_neg c]
theorem TV {ps:List (Int × Int)} (u:Int):dG z rd fd ps (u % (z:Int))=dG z rd fd ps u:=by
 have:∀ p:Int × Int,b9 z (u % (z:Int)) p=b9 z u p:=fun p=>by unfold b9;rw [kJ]
 unfold dG;simp only [this]
end
theorem Dw {z:Int} (az:0 < z) (sp:List ba) (k:Nat) (s:ba):o6 z sp k s <= z/\∀ (j:Nat) (s':ba),j ≠ k->sp[j]? = some s'->s'.name=s.name->o6 z sp k s <= (s'.b - s.b) % z:=by
 unfold o6;cases h:((b8 s.name (sp.eraseIdx k)).map fun p=>(p.1 - s.b) % z).min? with
 | none=>
  refine ⟨ui _,fun j s' aZ aw aF=>?_⟩;have h0:=List.min?_eq_none_iff.mp h;have:(s'.b - s.b) % z ∈ (b8 s.name (sp.eraseIdx k)).map fun p=>(p.1 - s.b) % z:=dX.mpr ⟨(s'.b,s'.n),dX.mpr ⟨s',j2.mpr ⟨afu.mpr ⟨j,aZ,aw⟩,by simpa using aF⟩,rfl⟩,rfl⟩
  rw [h0] at this;cases this
 | some m=>
  rw [ZI] at h;refine ⟨?_,fun j s' aZ aw aF=>h.2 _ (dX.mpr ⟨(s'.b,s'.n),dX.mpr ⟨s',j2.mpr ⟨afu.mpr ⟨j,aZ,aw⟩,by simpa using aF⟩,rfl⟩,rfl⟩)⟩;obtain ⟨p,_,e⟩:=dX.mp h.1;show m <= z;rw [<- e];exact Int.le_of_lt (ff _ az)
theorem aeW {ds:List aD} (aC:(ds.map (·.name)).Nodup) {d:aD} (hd:d ∈ ds):kn ds d.name=some d:=by
 obtain ⟨i,jI⟩:=oD hd;unfold kn;rw [WJ];obtain ⟨ai,e⟩:=cg.mp jI;refine ⟨by simp,i,ai,e,fun j aZ=>?_⟩;rw [ab5,decide_eq_false_iff_not];intro z;have:=vi aC (b7 (show j < ds.length by omega)) jI z;omega
theorem Vm {d:aD} (h:cK d=0):cI d=0:=by
 unfold cK at h;unfold cI
 revert h
 match d.k with
 | 0=>intro h;cases h
 | 1=>intro _;rfl
 | _ + 2=>intro h;cases h
theorem Ss {d:aD} (h:0 <= d.off):0 <= cK d:=by
 unfold cK
 match d.k with
 | 0=>show (0:Int) <= 2;decide
 | 1=>exact h
 | _ + 2=>show (0:Int) <= 1;decide
theorem aek {ds:List aD} (aC:(ds.map (·.name)).Nodup) {z:Nat} (az:0 < z) {sp:List ba} (ej:lh ds z sp=none) {d:aD} (hd:d ∈ ds) (a7:0 <= d.off) (ae:∀ s ∈ sp,1 <= s.n):eL z (cI d) (cK d) d.least (b8 d.name sp):=by
 have hw:=aeW aC hd;have key:∀ (k:Nat) (s:ba),sp[k]? = some s->s.name=d.name->d.least <= s.n/\s.n + cK d + cI d <= o6 z sp k s:=fun k s aE aF=>by
  unfold lh at ej;have:=sb.mp ej (s,k) (ag2.mpr aE);unfold lv at this;dsimp only at this;rw [aF,hw] at this;simp only [Option.any_some,w5,decide_eq_true_eq,not_or,Int.not_lt] at this;exact this
 have get:∀ p ∈ b8 d.name sp,∃ (k:Nat) (s:ba),sp[k]? = some s/\s.name=d.name/\p=(s.b,s.n):=fun p aq=>by
  obtain ⟨s,aw,rfl⟩:=dX.mp aq;obtain ⟨aw,aF⟩:=j2.mp aw;obtain ⟨k,aE⟩:=oD aw;exact ⟨k,s,aE,by simpa using aF,rfl⟩
 refine ⟨by omega,(Oo d).1,Ss a7,Vm,fun p aq=>?_,fun p aq q aH=>?_⟩
 .obtain ⟨k,s,aE,aF,rfl⟩:=get p aq;have a:=key k s aE aF;have b:=(Dw (z:=z) (by omega) sp k s).1;exact ⟨ae s (c2 aE),a.1,yD a.2 b⟩
 .obtain ⟨k,s,aE,aF,rfl⟩:=get p aq;obtain ⟨j,e,aZ,hm,rfl⟩:=get q aH;by_cases c:j=k
  .subst c;rw [aE] at aZ;cases aZ;exact .inl rfl
  .refine .inr ⟨yD (key k s aE aF).2 ((Dw (z:=z) (by omega) sp k s).2 j e c aZ (hm.trans aF.symm)),yD (key j e aZ hm).2 ((Dw (z:=z) (by omega) sp j e).2 k s (fun h=>c h.symm) aE (aF.trans hm.symm))⟩
noncomputable def fl (z:Nat) (sp:List ba) (d:aD) (u:Int):Nat:=dG z (cI d) (cK d) (b8 d.name sp) u
theorem Sf {z:Nat} {sp:List ba} {d:aD} (C:eL z (cI d) (cK d) d.least (b8 d.name sp)) (u:Int):(o_ z sp d)[(u % (z:Int)).toNat]? = some (bx (fl z sp d u)):=by
 have az:=C.gC;have h0:=e' u (show (z:Int) ≠ 0 by omega);have ae:=ff u az;unfold o_ fl;rw [Zy C (by omega),iJ h0,TV]
theorem HQ {z:Nat} {sp:List ba} {d:aD} (u:Int):fl z sp d u=2↔∃ p ∈ b8 d.name sp,(u - p.1) % (z:Int) < p.2:=by
 unfold fl;constructor
 .intro h;rcases ov z (cI d) (cK d) (b8 d.name sp) u with e | e | e | e
  .exact e.2
  .rw [e.1] at h;cases h
  .rw [e.1] at h;cases h
  .rw [e.1] at h;cases h
 .rintro ⟨p,aq,h⟩;exact eL.free aq h
theorem WE {n:Int} {ds:List aD} {z:Nat} (az:0 < z) {sp:List ba} (ae:∀ s ∈ sp,1 <= s.n/\s.n <= z) (bb:jU ds sp=none) (cm:lx n z sp ds=none) {d e:aD} (hd:d ∈ ds) (he:e ∈ ds) (bR:d.name ≠ e.name) (hm:mt n d e=true) {u:Int} {j:Nat} (aZ:(j:Int) <= gy d e) (hf:fl z sp e u=2):fl z sp d (u - j) ≠ 2:=by
 intro ab;have yj:∀ x ∈ ds,b8 x.name sp ≠ []:=fun x av=>by
  unfold jU at bb;have:=sb.mp bb x.name (dX.mpr ⟨x,av,rfl⟩);intro z;rw [z] at this;exact this rfl
 have nU:∀ x:aD,∀ p ∈ b8 x.name sp,1 <= p.2/\p.2 <= z:=fun x p aq=>by
  obtain ⟨s,aw,rfl⟩:=dX.mp aq;exact ae s (j2.mp aw).1
 have h0:=e' u (show (z:Int) ≠ 0 by omega);have ak:=ff u (show 0 < (z:Int) by omega);obtain ⟨t,ct⟩:∃ t:Nat,u % (z:Int)=(t:Nat):=⟨(u % (z:Int)).toNat,by omega⟩;have Kn:t < z:=by omega
 obtain ⟨v1,a1,iA,bT⟩:=Ri az (nU d) (yj d hd) Kn;obtain ⟨v2,a2,gO,cU⟩:=Ri az (nU e) (yj e he) Kn;have a3:0 <= gy d e:=by unfold gy;split <;> omega
 have d1:v2=0:=by
  have:=(cU 0 (by decide)).mpr ⟨0,by decide,by
   obtain ⟨p,aq,cx⟩:=(HQ u).mp hf;refine ⟨p,aq,?_⟩;rw [<- ct,show u % (z:Int) - ((0:Nat):Int) - p.1=u % (z:Int) - p.1 by omega,kJ];exact cx⟩
  omega
 have cZ:v1 <= gy d e:=(bT _ a3).mpr ⟨j,aZ,by
  obtain ⟨p,aq,cx⟩:=(HQ _).mp ab;refine ⟨p,aq,?_⟩;rw [<- ct,show u % (z:Int) - (j:Int) - p.1=u % (z:Int) - ((j:Int) + p.1) by omega,kJ,show u - ((j:Int) + p.1)=u - (j:Int) - p.1 by omega];exact cx⟩
 unfold lx at cm;have eE:=agf.mp cm d hd;unfold ti at eE;have fN:=agf.mp eE e he;unfold qU at fN;rw [if_pos ⟨bR,hm⟩] at fN;have jG:mA (gy d e) (kD z sp d.name) (kD z sp e.name)=none:=by
  cases h:mA (gy d e) (kD z sp d.name) (kD z sp e.name) with
  | none=>rfl
  | some x=>rw [h] at fN;cases fN
 unfold mA at jG;have:=sb.mp jG ((v1,v2),t) (ag2.mpr (by
  rw [Wo];exact ⟨a1,a2⟩))
 simp [d1] at this;omega
noncomputable def lQ (cs:List Nat) (i:Nat):Bool:=decide (i=0) || decide (cs[i]? ≠ cs[i - 1]?)
noncomputable def jb (cs:List Nat):List Nat:=(fc cs.length).filter (lQ cs)
theorem JN {p:Nat->Bool}:∀ (n:Nat) (k a b:Nat),((fc n).filter p)[k]? = some a->((fc n).filter p)[k + 1]? = some b->a < b/\b < n/\p a=true/\p b=true/\∀ j,a < j->j < b->p j=false:=fun n k a b aJ ab=>by
 have ta:((fc n).filter p).Pairwise (· < ·):=aik _ List.pairwise_lt_range;obtain ⟨rL,ax⟩:=cg.mp aJ;obtain ⟨vc,aG⟩:=cg.mp ab;have n':a < b:=by
  have:=CZ.mp ta k (k + 1) rL vc (by omega);rw [ax,aG] at this;exact this
 have Sa:=j2.mp (c2 aJ);have iU:=j2.mp (c2 ab);refine ⟨n',ph.mp iU.1,Sa.2,iU.2,fun j ae ak=>?_⟩;cases aq:p j with
 | false=>rfl
 | true=>
  exfalso;have acu:j ∈ (fc n).filter p:=j2.mpr ⟨ph.mpr (by have:=ph.mp iU.1;omega),aq⟩;obtain ⟨m,hm⟩:=oD acu;obtain ⟨Jz,bM⟩:=cg.mp hm;rcases Nat.lt_trichotomy m k with c | c | c
  .have:=CZ.mp ta m k Jz rL c;rw [bM,ax] at this;omega
  .subst c;rw [hm] at aJ;cases aJ;omega
  .rcases Nat.lt_or_ge (k + 1) m with eN | eN
   .have:=CZ.mp ta (k + 1) m vc Jz eN;rw [aG,bM] at this;omega
   .have:m=k + 1:=by omega
    subst this;rw [hm] at ab;cases ab;omega
theorem UY {p:Nat->Bool} {n k a:Nat} (h:((fc n).filter p)[k]? = some a) (aE:0 < k):0 < a:=by
 have aA:=(cg.mp h).1;have h0:((fc n).filter p)[k - 1]? = some ((fc n).filter p)[k - 1]:=b7 (by omega);have:=JN n (k - 1) _ a h0 (by rw [show k - 1 + 1=k by omega];exact h);omega
noncomputable def jD (z:Nat) (sp:List ba) (d:aD) (bV:Int) (m:Nat):List Nat:=(fc m).map fun i=>fl z sp d (bV + (i:Nat))
theorem r7 {z:Nat} {sp:List ba} {d:aD} {bV:Int} {m i:Nat} (h:i < m):(jD z sp d bV m)[i]? = some (fl z sp d (bV + (i:Nat))):=by
 unfold jD;rw [eA,QW h];rfl
theorem uh {z:Nat} {sp:List ba} {d:aD} {bV:Int} {m:Nat}:(jD z sp d bV m).length=m:=by unfold jD;rw [a',A3]
structure MY (d:aD) (cs:List Nat):Prop where
 lt:∀ c ∈ cs,c < 4
 gg:∀ (k a b ca uQ:Nat),(jb cs)[k]? = some a->(jb cs)[k + 1]? = some b->cs[a]? = some ca->cs[b]? = some uQ->EH (cI d) (cK d) ca uQ
 le:∀ (k a b ca:Nat),0 < k->(jb cs)[k]? = some a->(jb cs)[k + 1]? = some b->cs[a]? = some ca->(ca=1->(b:Int) - a=cI d)/\(ca=2->d.least <= (b:Int) - a)/\(ca=3->(b:Int) - a=cK d)
theorem Sb {z:Nat} {sp:List ba} {d:aD} (C:eL z (cI d) (cK d) d.least (b8 d.name sp)) (bV:Int) (m:Nat):MY d (jD z sp d bV m):=by
 have key:∀ k a b,(jb (jD z sp d bV m))[k]? = some a->(jb (jD z sp d bV m))[k + 1]? = some b->a < b/\b < m/\(0 < k->fl z sp d (bV + (a:Nat) - 1) ≠ fl z sp d (bV + (a:Nat)))/\(∀ j:Nat,a <= j->j < b->fl z sp d (bV + (j:Nat))=fl z sp d (bV + (a:Nat)))/\fl z sp d (bV + (b:Nat)) ≠ fl z sp d (bV + (b:Nat) - 1):=fun k a b aJ ab=>by
  obtain ⟨ae,ak,a_,cv,dh⟩:=JN _ k a b aJ ab;rw [uh] at ak;have ch:∀ i:Nat,0 < i->i < m->(lQ (jD z sp d bV m) i=true↔fl z sp d (bV + (i:Nat)) ≠ fl z sp d (bV + (i:Nat) - 1)):=fun i GW im=>by
   unfold lQ;rw [decide_eq_false (by omega),m2,decide_eq_true_eq,r7 im,r7 (show i - 1 < m by omega),show bV + ((i - 1:Nat):Int)=bV + (i:Nat) - 1 by omega];simp
  refine ⟨ae,ak,fun aE=>?_,fun j Al z9=>?_,(ch b (by omega) ak).mp cv⟩
  .have:=UY aJ aE;exact fun z=>(ch a this (by omega)).mp a_ z.symm
  .induction j with
   | zero=>rw [show a=0 by omega]
   | succ j cj=>
    by_cases c:a=j + 1
    .rw [c]
    .rw [<- cj (by omega) (by omega)];have:=dh (j + 1) (by omega) z9;by_cases e:fl z sp d (bV + ((j + 1:Nat):Int))=fl z sp d (bV + ((j + 1:Nat):Int) - 1)
     .rw [e,show bV + ((j + 1:Nat):Int) - 1=bV + (j:Nat) by omega]
     .rw [(ch (j + 1) (by omega) (by omega)).mpr e] at this;cases this
 refine ⟨fun c ar=>?_,fun k a b ca uQ aJ ab c9 dK=>?_,fun k a b ca aE aJ ab c9=>?_⟩
 .unfold jD at ar;obtain ⟨i,_,rfl⟩:=dX.mp ar;exact It ..
 .obtain ⟨ae,ak,_,cv,dh⟩:=key k a b aJ ab;rw [r7 (by omega)] at c9 dK;cases c9;cases dK;have ax:=cv (b - 1) (by omega) (by omega);have aG:bV + (b:Nat) - 1=bV + ((b - 1:Nat):Int):=by omega
  have f:=C.R8 (bV + (b:Nat) - 1) (by rw [show bV + (b:Nat) - 1 + 1=bV + (b:Nat) by omega];exact dh);rw [show bV + (b:Nat) - 1 + 1=bV + (b:Nat) by omega] at f;have bM:dG z (cI d) (cK d) (b8 d.name sp) (bV + (b:Nat) - 1)=fl z sp d (bV + (a:Nat)):=by rw [aG];exact ax
  rw [bM] at f;exact f
 .obtain ⟨ae,ak,a_,cv,dh⟩:=key k a b aJ ab;rw [r7 (by omega)] at c9;cases c9;have:=C.len (a:=bV + (a:Nat)) (m:=b - a) (by omega) (a_ aE) (fun j aZ=>by
   have:=cv (a + j) (by omega) (by omega);rw [show bV + ((a + j:Nat):Int)=bV + (a:Nat) + (j:Nat) by omega] at this;exact this) (by
   have ax:=cv (b - 1) (by omega) (by omega);rw [show bV + ((b - 1:Nat):Int)=bV + (b:Nat) - 1 by omega] at ax;rw [ax] at dh;rw [show bV + (a:Nat) + ((b - a:Nat):Int)=bV + (b:Nat) by omega];exact dh)
  rw [show ((b - a:Nat):Int)=(b:Int) - a by omega] at this;exact this
noncomputable abbrev e_ (d:aD):List V:=[.str (dE d.k),.str d.name,.int d.start,.int d.fin,.int d.off,.int d.near,.int d.least]
noncomputable def ic (H:ag) (wl:Addr) (ds:List aD):Prop:=∃ qs:List Addr,H wl=some (.lst (qs.map V.ref))/\qs.length=ds.length/\∀ (i:Nat) (q:Addr) (d:aD),qs[i]? = some q->ds[i]? = some d->H q=some (.tup (e_ d))
theorem ic.same {H I:ag} {wl:Addr} {ds:List aD} (h:ic H wl ds) (s:aI H I):ic I wl ds:=by
 obtain ⟨qs,ax,aG,al⟩:=h;exact ⟨qs,s _ _ ax,aG,fun i q d ae ak=>s _ _ (al i q d ae ak)⟩
theorem ic.snoc {H:ag} {wl p:Addr} {ds:List aD} {d:aD} {qs:List Addr} (cz:H wl=some (.lst (qs.map V.ref))) (fh:qs.length=ds.length)
  (al:∀ (i:Nat) (q:Addr) (d:aD),qs[i]? = some q->ds[i]? = some d->H q=some (.tup (e_ d))) (aq:H p=none) :
  ic (upd (upd H p (.tup (e_ d))) wl (.lst (qs.map V.ref ++ [.ref p]))) wl (ds ++ [d]):=by
 have uJ:p ≠ wl:=(cy cz aq).symm;refine ⟨qs ++ [p],by rw [aU,eM];rfl,by rw [dP,dP,fh];rfl,fun i q e ae ak=>?_⟩;rcases iL ae with ⟨ef,dy⟩ | ⟨ef,rfl⟩
 .rcases iL ak with ⟨m',pL⟩ | ⟨m',_⟩
  .have:=al i q e dy pL;rw [aW (d0 this cz (by intro z;cases z)),aW (cy this aq)];exact this
  .omega
 .rcases iL ak with ⟨m',pL⟩ | ⟨m',rfl⟩
  .omega
  .rw [aW uJ,aU]
theorem SF:∀ j,j < 5->(vO (ah "lane") none (some (j:Nat))).cps.toList=[108,97,110,101].take j:=by ac_nf
theorem acN:∀ j,j < 4->(vO (ah "way") none (some (j:Nat))).cps.toList=[119,97,121].take j:=by ac_nf
noncomputable def XL (k:Nat):Nat:=[98,97,100,101,99].getD k 97
theorem aeL (k:Nat):97 <= XL k/\XL k <= 122:=by
 match k with
 | 0=>decide
 | 1=>decide
 | 2=>decide
 | 3=>decide
 | 4=>decide
 | k + 5=>exact ⟨by show 97 <= 97;decide,by show 97 <= 122;decide⟩
theorem Sn:∀ k,k < 5->∀ j,j < 5->XL k=XL j->k=j:=by decide
noncomputable def hR (u v k:Nat):Str:=vO (ah "lane") none (some (u:Nat)) ++ ⟨#[XL k]⟩ ++ vO (ah "way") none (some (v:Nat))
theorem L5 {u v k:Nat} (bQ:u < 5) (aM:v < 4):(hR u v k).cps.toList=[108,97,110,101].take u ++ [XL k] ++ [119,97,121].take v:=by
 unfold hR;rw [pQ,oM,pQ,oM,SF u bQ,acN v aM]
theorem Pl {u v k:Nat} (bQ:u < 5) (aM:v < 4):made (hR u v k) mZ 8=true:=by
 have e:=L5 (k:=k) bQ aM;have aA:(hR u v k).length=(hR u v k).cps.toList.length:=by simp [Fj]
 refine XR ?_ ?_ ?_
 .rw [aA,e,dP,dP,Ax];omega
 .rw [aA,e,dP,dP,gV,gV];simp only [hb,sm];omega
 .intro c ar;rw [e] at ar;rcases jh.mp ar with ar | ar
  .rcases jh.mp ar with ar | ar
   .have:=D3 ar;simp only [dQ,jX,or_false] at this;omega
   .simp only [dQ,jX,or_false] at ar;have:=aeL k;omega
  .have:=D3 ar;simp only [dQ,jX,or_false] at this;omega
theorem ae5 {u v k ik:Nat} (bQ:u < 5) (aM:v < 4) (aE:k < 5) (j7:ik < 5) (e:hR u v k=hR u v ik):k=ik:=by
 have:=congrArg (fun x:Str=>x.cps.toList) e;simp only [L5 bQ aM] at this;rw [List.append_left_inj,List.append_right_inj] at this;exact Sn k aE ik j7 (uH this).1
theorem agp {n s j:Int} (h0:0 <= s) (ae:s < n) (ak:0 <= j) (a_:j < n - 1):s ≠ (s + 1 + j) % n:=by
 rw [Int.add_assoc,Nd h0 ae (by omega) (by omega)];split <;> omega
theorem WN:∀ k,k < 5->d_ (ah "badec").cps.toList ((k:Nat):Int)=some (XL k):=by ac_nf
theorem WC {i:Int} (h0:0 <= i) (ae:i < 3):d_ [V.str (ah "car"),V.str (ah "foot"),V.str (ah "tram")] i=some (.str (dE i.toNat)):=by
 have:i=0\/i=1\/i=2:=by omega
 rcases this with rfl | rfl | rfl
 .exact cR (j:=0) rfl
 .exact cR (j:=1) rfl
 .exact cR (j:=2) rfl
structure kG (n:Int) (ds:List aD):Prop where
 ln:ds.length <= 5
 al:∀ d ∈ ds,kj n d/\d.off <= 8/\d.least <= 3
 nm:∃ u v,u < 5/\v < 4/\∀ (i:Nat) (d:aD),ds[i]? = some d->d.name=hR u v i
theorem kG.aC {n:Int} {ds:List aD} (h:kG n ds):(ds.map (·.name)).Nodup:=by
 obtain ⟨u,v,bQ,aM,al⟩:=h.nm;refine CZ.mpr fun i j ai aZ ahv e=>?_
 rw [a'] at ai aZ;rw [Ai,Ai,al i _ (b7 ai),al j _ (b7 aZ)] at e;have:=ae5 bQ aM (by have:=h.ln;omega) (by have:=h.ln;omega) e;omega
theorem kG.N9 {n:Int} {ds:List aD} (h:kG n ds) (aF:2 <= n/\n <= 99) (aA:1 <= ds.length/\ds.length <= 12):qt n ds:=⟨aF,aA,fun d hd=>(h.al d hd).1,h.aC⟩
noncomputable def QJ (K:a6) (a:Addr) (ns:List Int):bo:=fun vs H Q _=>vs=[.ref a]/\Sc K a ns H /\
 ∀ cX wl n ds I,aI H I->Sc K a ns I->I cX=some (.tup [.int n,.ref wl])->ic I wl ds->kG n ds->(4 <= n/\n <= 12)->(1 <= ds.length/\ds.length <= 5)->Q (.ref cX) I
theorem Yb (a:Addr) (ns:List Int) (mG:ns.length <= 63):cq P base T 2 t.yu t.Bk tk (QJ K a ns):=by
 refine dp (Eo T a ns mG) fun f5=>?_;refine T.bn.ok oj (fun vs H Q E h=>?_) (fun _ _ _ s H vs Q E au h=>?_)
 .obtain ⟨rfl,_⟩:=h;rfl
 obtain ⟨rfl,S,q⟩:=h;refine ⟨_,(db (bJ (i:=1) oj.aC (Db dj aR (cb f5 au T.gD T.fY.bF T.gw (af (U 0) (af aR (af aR aB))))))
   (db (bJ (i:=2) oj.aC (fH aB))
   (db (er fG rfl (kV rfl T.lf (af (Db dj aR (cb f5 au T.gD T.fY.bF T.gw (af (U 0) (af aR (af aR aB))))) aB)) (b' (i:=3) oj.aC) (db (bJ (i:=4) oj.aC (bX ew (fH (af cC (af cC (af cC aB)))) (cb f5 au T.gD T.fY.bF T.gw (af (U 0) (af (Db dj aR (U 3)) (af aR aB))))))
   (db (bJ (i:=5) oj.aC (cb f5 au T.gD T.fY.bF T.gw (af (U 0) (af (Db dj aR (U 3)) (af (U 1) aB)))))
   (db (bJ (i:=6) oj.aC (Db h5 (Db dj (Db dj (U 5) aR) (cb f5 au T.gD T.fY.bF T.gw (af (U 0) (af (Db dj aR (U 3)) (af (Db gW (U 1) aR) aB))))) (U 1)))
   (db (bJ (i:=7) oj.aC (Db j6 (Db j6 (wH Mz cC uN (wM (cb f5 au T.gD T.fY.bF T.gw (af (U 0) (af aR (af aR aB)))))) (bX Lz cC (U 3))) (wH Mz cC uN (wM (cb f5 au T.gD T.fY.bF T.gw (af (U 0) (af aR (af aR aB))))))))
   (db (bJ (i:=8) oj.aC (jy (af (U 5) (af (U 6) (af (cb f5 au T.gD T.fY.bF T.gw (af (U 0) (af (Db dj aR (U 3)) (af aR aB)))) (af (cb f5 au T.gD T.fY.bF T.gw (af (U 0) (af (Db dj aR (U 3)) (af aR aB)))) aB))))))
   (aY (rc (iT lZ oA pS ot (U 2) (af (Db KY (Db KY (jy (af (U 4) (af (U 7) aB))) (U 8)) (jy (af (Db dj aR (cb f5 au T.gD T.fY.bF T.gw (af (U 0) (af (Db dj aR (U 3)) (af aR aB))))) aB))) aB))))))))))
   (aY (b1 (jy (af (U 1) (af (U 2) aB)))))))),?_⟩
 have fQ:∀ k:Nat,k <= 1000->k <= sizeLine:=fun k h=>c1 h (by decide)
 have cA:=hS ns 1 (m:=9) (by decide);have c':=hD ns 1 (m:=9) (by decide);have XS:=hS ns 4 (m:=5) (by decide);have agE:=hD ns 4 (m:=5) (by decide);have oQ:=hS ns 80 (m:=5) (by decide);have Es:=hD ns 80 (m:=5) (by decide);have v1:=hS ns 81 (m:=4) (by decide);have v2:=hD ns 81 (m:=4) (by decide);obtain ⟨u,bQ⟩:∃ u:Nat,cp ns 80 5=(u:Nat):=⟨(cp ns 80 5).toNat,by omega⟩;obtain ⟨v,aM⟩:∃ v:Nat,cp ns 81 4=(v:Nat):=⟨(cp ns 81 4).toNat,by omega⟩;refine hj (fun aS I=>I=H/\aS=[~~~a,some (.int (4 + cp ns 1 9)),none,none,none,none,none,none,none]) (fun D bj=>?_) fun gu a5=>?_
 ·(nofun; repeat (dsimp only [gx];nofun));exact ⟨S,by omega,by omega,by decide,bj _ _ ⟨rfl,rfl⟩⟩
 rintro fJ bA ⟨rfl,rfl⟩;subst a5;generalize GP:4 + cp ns 1 9=n;have aF:4 <= n/\n <= 12:=by omega
 refine hj (fun aS I=>∃ wl,bA wl=none/\I=upd bA wl (.lst [])/\aS=[~~~a,some (.int n),~~~wl,none,none,none,none,none,none]) (fun D bj=>?_) fun gu a5=>?_
 .nofun;exact ⟨fv _,fun wl iC=>bj _ _ ⟨wl,iC,rfl,rfl⟩⟩
 rintro fJ bY ⟨wl,iC,rfl,rfl⟩;have kX:=S.new (o:=.lst []) iC;have s1:aI bA (upd bA wl (.lst [])):=bk iC;have cZ:(upd bA wl (.lst [])) wl=some (.lst []):=aU;subst a5;generalize upd bA wl (.lst [])=bY at kX s1 cZ ⊢;(nofun; repeat (dsimp only [gx];nofun));refine ⟨kX,by omega,by omega,by decide,by omega,by omega,?_⟩;generalize ah_:(1 + cp ns 4 5).toNat=m;refine du.range (fun i σ I=>Sc K a ns I/\aI bA I/\(∃ ds,ic I wl ds/\(∀ d ∈ ds,kj n d/\d.off <= 8/\d.least <= 3)/\(∀ (j:Nat) (d:aD),ds[j]? = some d->d.name=hR u v j)/\ds.length=i)/\∃ eB gK ee ip dR dw,σ=[~~~a,some (.int n),~~~wl,eB,gK,ee,ip,dR,dw]) ?_ ?_ ?_
 .exact ⟨kX,s1,⟨[],⟨[],cZ,rfl,fun i q d h=>by simp at h⟩,fun d h=>by simp at h,fun j d h=>by simp at h,rfl⟩,none,none,none,none,none,none,rfl⟩
 .rintro i σ I ai aX;ac_rfl
  obtain ⟨x',s2,⟨ds,L,F6,DN,gP⟩,eB,gK,ee,ip,dR,dw,rfl⟩:=aX;have ab8:i < 5:=by omega
  have g1:=hS ns (40 + (i:Int)) (m:=n) (by omega);have g2:=hD ns (40 + (i:Int)) (m:=n) (by omega);have g3:=hS ns (60 + (i:Int)) (m:=n - 1) (by omega);have rp:=hD ns (60 + (i:Int)) (m:=n - 1) (by omega);have xN:=hS ns (20 + (i:Int)) (m:=3) (by decide);have P':=hD ns (20 + (i:Int)) (m:=3) (by decide);have I2:=hS ns (100 + (i:Int)) (m:=9) (by omega);have aic:=hD ns (100 + (i:Int)) (m:=9) (by omega);have Sv:=hS ns (120 + (i:Int)) (m:=9) (by decide);have ail:=hD ns (120 + (i:Int)) (m:=9) (by decide);have ah3:=hS ns (140 + (i:Int)) (m:=3) (by decide);have ahn:=hD ns (140 + (i:Int)) (m:=3) (by decide);subst a5;generalize gd:cp ns (40 + (i:Int)) n=st at g1 g2;generalize F1:(st + 1 + cp ns (60 + (i:Int)) (n - 1)) % n=e2;have Oq:(0 <= e2/\e2 < n)/\st ≠ e2:=by
   subst F1;exact ⟨⟨e' _ (by omega),ff _ (by omega)⟩,agp g1 g2 g3 rp⟩
  simp only [fO,eu,jv,je,AN];exists (fun aS ay=>aI I ay/\Sc K a ns ay/\∃ k:Nat,k < 3/\aS=[~~~a,some (.int n),~~~wl,some (.int (i:Nat)),some (.str (dE k)),ee,ip,dR,dw]),1
  ·(nofun; repeat (dsimp only [gx];nofun));refine ⟨by decide,fun c7 d8=>⟨x'.new d8,by omega,by omega,by decide,?_⟩⟩;exact ⟨_,aK.of aU,_,WC xN P',bj _ _ ⟨bk d8,x'.new d8,_,by omega,rfl⟩⟩
  rintro cW hv ⟨s5,kM,ik,j7,rfl⟩;subst a5;simp only [eu];exists (fun aS ay=>ay=hv/\aS=[~~~a,some (.int n),~~~wl,some (.int (i:Nat)),some (.str (dE ik)),some (.int st),ip,dR,dw]),1
  ·(nofun; repeat (dsimp only [gx];nofun));rw [gd];exact ⟨kM,by omega,by omega,by omega,bj _ _ ⟨rfl,rfl⟩⟩
  rintro cW hx ⟨rfl,rfl⟩;subst a5;simp only [eu];exists (fun aS ay=>ay=hx/\aS=[~~~a,some (.int n),~~~wl,some (.int (i:Nat)),some (.str (dE ik)),some (.int st),some (.int e2),dR,dw]),1
  ·(nofun; repeat (dsimp only [gx];nofun));rw [F1];exact ⟨kM,by omega,by omega,by omega,by omega,bj _ _ ⟨rfl,rfl⟩⟩
  rintro cW lg ⟨rfl,rfl⟩;subst a5;simp only [eu];exists (fun aS ay=>ay=lg/\aS=[~~~a,some (.int n),~~~wl,some (.int (i:Nat)),some (.str (dE ik)),some (.int st),some (.int e2),some (.str (hR u v i)),dw]),1
  ·(nofun; repeat (dsimp only [gx];nofun));rw [bQ,aM];have Iz:(hR u v i).length <= 8:=((sH (Pl (k:=i) (by omega) (by omega))).1).2;unfold hR at Iz;rw [kl,kl] at Iz;refine ⟨kM,by omega,by omega,by decide,by ac_nf,by ac_nf,_,WN i ab8,fQ _ (by omega),kM,by omega,by omega,by decide,by ac_nf,fQ _ (by rw [kl];omega),bj _ _ ⟨rfl,rfl⟩⟩
  rintro cW ks ⟨rfl,rfl⟩;subst a5;simp only [eu];exists (fun aS ay=>aI ks ay/\Sc K a ns ay/\∃ np,ay np=some (.tup [.int st,.int e2,.int (cp ns (100 + (i:Int)) 9),.int (cp ns (120 + (i:Int)) 9)])/\aS=[~~~a,some (.int n),~~~wl,some (.int (i:Nat)),some (.str (dE ik)),some (.int st),some (.int e2),some (.str (hR u v i)),~~~np]),1
  ·(nofun; repeat (dsimp only [gx];nofun));exact ⟨kM,by omega,by omega,by decide,kM,by omega,by omega,by decide,by decide,fun np pg=>bj _ _ ⟨bk pg,kM.new pg,np,aU,rfl⟩⟩
  rintro cW tv ⟨me,aed,np,pg,rfl⟩;obtain ⟨qs,cz,fh,al⟩:=(L.same s5).same me;have afW:kj n ⟨ik,hR u v i,st,e2,cp ns (100 + (i:Int)) 9,cp ns (120 + (i:Int)) 9,1 + cp ns (140 + (i:Int)) 3⟩:=
   ⟨j7,Pl (by omega) (by omega),⟨g1,g2⟩,Oq.1,Oq.2,⟨I2,by show cp ns (100 + (i:Int)) 9 <= 30;omega⟩,⟨Sv,by show cp ns (120 + (i:Int)) 9 <= 30;omega⟩,⟨by show 1 <= 1 + cp ns (140 + (i:Int)) 3;omega,by show 1 + cp ns (140 + (i:Int)) 3 <= 60;omega⟩⟩
  subst a5;(nofun; repeat (dsimp only [gx];nofun));refine ⟨.inl ⟨_,aK.of cz⟩,by decide,fun c7 d8=>?_⟩;obtain ⟨gE,c9⟩:∃ kv:ag,kv=upd tv c7 (.tup [.str (dE ik),.str (hR u v i)]):=⟨_,rfl⟩;rw [<- c9];have jC:aI tv gE:=by rw [c9];exact bk d8
  have agZ:Sc K a ns gE:=by rw [c9];exact aed.new d8
  have tR:gE c7=some (.tup [.str (dE ik),.str (hR u v i)]):=by rw [c9];exact aU
  clear c9;refine ⟨_,bS.of tR,_,bS.of (jC _ _ pg),by simp,by show 2 + 4 <= sizeLine;decide,(fun z=>by cases z),fun _ dz dV=>?_⟩;obtain ⟨iR,dK⟩:∃ kv:ag,kv=upd gE dz (.tup ([V.str (dE ik),.str (hR u v i)] ++ [.int st,.int e2,.int (cp ns (100 + (i:Int)) 9),.int (cp ns (120 + (i:Int)) 9)])):=⟨_,rfl⟩;rw [<- dK];have h2:aI gE iR:=by rw [dK];exact bk dV
  have IL:Sc K a ns iR:=by rw [dK];exact agZ.new dV
  have qv:iR dz=some (.tup ([V.str (dE ik),.str (hR u v i)] ++ [.int st,.int e2,.int (cp ns (100 + (i:Int)) 9),.int (cp ns (120 + (i:Int)) 9)])):=by rw [dK];exact aU
  clear dK;refine ⟨IL,by omega,by omega,by decide,by decide,fun iD tg=>?_⟩;obtain ⟨oO,o'⟩:∃ kv:ag,kv=upd iR iD (.tup [.int (1 + cp ns (140 + (i:Int)) 3)]):=⟨_,rfl⟩;rw [<- o'];have sc:aI iR oO:=by rw [o'];exact bk tg
  have UT:Sc K a ns oO:=by rw [o'];exact IL.new tg
  have ad2:oO iD=some (.tup [.int (1 + cp ns (140 + (i:Int)) 3)]):=by rw [o'];exact aU
  clear o';refine ⟨_,bS.of (sc _ _ qv),_,bS.of ad2,by simp,by show 6 + 1 <= sizeLine;decide,(fun z=>by cases z),fun _ WZ zW=>?_⟩;have Ce:=(jC.trans h2).trans sc;have By:=Ce _ _ cz;have aeM:∀ (i:Nat) (q:Addr) (d:aD),qs[i]? = some q->ds[i]? = some d->oO q=some (.tup (e_ d)):=fun i q d x y=>Ce _ _ (al i q d x y)
  have hA:wl ≠ WZ:=cy By zW;have Gy:=ic.snoc (d:=⟨ik,hR u v i,st,e2,cp ns (100 + (i:Int)) 9,cp ns (120 + (i:Int)) 9,1 + cp ns (140 + (i:Int)) 3⟩) By fh aeM zW;refine ⟨_,by rw [aW hA];exact By,j0 (show (qs.map V.ref).length <= 12 by rw [a'];omega) (by decide),?_,?_,⟨_,Gy,fun d hd=>?_,fun j d hd=>?_,by rw [dP,gP];rfl⟩,by repeat (first | exact ⟨_,rfl⟩ | refine ⟨⟨_,rfl⟩,?_⟩)⟩
  .exact (UT.new zW).set (by rw [aW hA];exact By) (fun cu z e=>by cases e)
  .exact (((((s2.trans s5).trans me).trans Ce).trans (bk zW)).g9 iC)
  .rcases jh.mp hd with z | z
   .exact F6 d z
   .rw [jB.mp z];exact ⟨afW,by show cp ns (100 + (i:Int)) 9 <= 8;omega,by show 1 + cp ns (140 + (i:Int)) 3 <= 3;omega⟩
  .rcases iL hd with ⟨_,z⟩ | ⟨ef,rfl⟩
   .exact DN j d z
   .rw [ef,gP]
 .rintro σ I aX;ac_rfl
  obtain ⟨x',s2,⟨ds,L,F6,DN,gP⟩,eB,gK,ee,ip,dR,dw,rfl⟩:=aX;subst a5;nofun;refine ⟨by decide,fun cX h7=>?_⟩;exact q cX wl n ds _ (s2.trans (bk h7)) (x'.new h7) aU (L.same (bk h7)) ⟨by omega,F6,u,v,by omega,by omega,DN⟩ aF (by omega)
theorem TM (d:aD):((((dE d.k ++ ah " ") ++ d.name) ++ ah " ") ++ uP (ah " ") [num d.start,num d.fin,num d.off,num d.near,num d.least])=eG cO (l4 d):=by
 apply ua;have j1:(ah " ").cps.toList=[32]:=by ac_nf
 rw [show uP (ah " ") [num d.start,num d.fin,num d.off,num d.near,num d.least]=eG cO [num d.start,num d.fin,num d.off,num d.near,num d.least] from LW _ _];rw [pQ,oM,su,l8,l8];unfold l4;simp only [pQ,oM,eJ,i_,hM,j1,oI,sy,AJ]
theorem Ui (n:Int):ah "ring " ++ num n=eG cO [ah "ring",num n]:=by
 apply ua;have ax:(ah "ring ").cps.toList=[114,105,110,103,32]:=by ac_nf
 have aG:(ah "ring").cps.toList=[114,105,110,103]:=by ac_nf
 rw [su,l8];simp only [pQ,oM,eJ,i_,hM,ax,aG,sy,AJ]
theorem Mf {B:Nat}:∀ {ys:List Str},(∀ y ∈ ys,y.length <= B)->(ys.map (·.length)).sum <= ys.length * B
 | [],_=>by simp
 | a :: r,h=>by
  have ae:=h a (by simp);have ak:=Mf (B:=B) (ys:=r) fun y bI=>h y (fw _ bI)
  rw [eJ,KC,hb,Zo];omega
theorem W4 {n:Int} {ds:List aD} (h:qt n ds):∀ y ∈ (g7 n ds).map (eG cO),y.length <= 63:=fun y bI=>by
 obtain ⟨r,au,rfl⟩:=dX.mp bI;have:=nP cO 8 r fun x av=>(h.plain r au x av).1
 rw [p4] at this;have aA:r.length <= 7:=by
  rcases dQ.mp au with rfl | au
  .simp
  .obtain ⟨d,hd,rfl⟩:=dX.mp au;simp [l4]
 omega
noncomputable def Lv (K:a6):bo:=fun vs H Q _=>∃ n wl ds,vs=[.int n,.ref wl]/\ic H wl ds/\kG n ds/\(2 <= n/\n <= 99)/\(1 <= ds.length/\ds.length <= 12)/\aV H/\Q (.str (nd n ds)) H
noncomputable def afF (K:a6):bo:=fun vs H Q _=>∃ n wl ds,vs=[.int n,.ref wl]/\ic H wl ds/\kG n ds/\(2 <= n/\n <= 99)/\(1 <= ds.length/\ds.length <= 12)/\∀ I,aI H I->Q (.str (nd n ds)) I
theorem Ve:cq P base T 1 t.AE t.yO ry (Lv K):=by
 refine bg.forget (sp:=afF K) ?_ fun vs H Q E h=>?_
 .exists T.Fi.ok Ft,9
  obtain ⟨n,wl,ds,rfl,L,D,aF,aA,q⟩:=h;refine ⟨_,(db (bJ (i:=2) Ft.aC (fH (af (Db j6 cC (rq tj rfl T.r3 tp (af (U 0) aB))) aB)))
   (db (er fG rfl (fk (U 1)) (b' (i:=3) Ft.aC) (aY (rc (iT lZ oA pS ot (U 2) (af (Db j6 (Db j6 (Db j6 (Db j6 (bX dZ (U 3) aR) cC) (bX dZ (U 3) aR)) cC) (iT H8 aeO acx L6 cC (af (l' rfl (Xn (wH agb (U 3) (wM aR) uN)) (iE (sc:=bz FG) rfl (by ac_nf)) (N:=["_law_number"]) (sel:=[none]) (iS (M:=["_law_places","_law_ways_here","_law_rows","_law_way"]) (by ac_nf)) (gN.of (fun _ _ _ _=>(b' (i:=0) (gb (N:=["_law_number"]) (by ac_nf) rfl))) (fun _ _ _ _=>⟨_,kP,by walk_at "B"⟩) (fun _ _ _ _=>⟨_,(rq tj rfl T.r3 tp (af (U 0) aB)),by walk_at "B"⟩))) aB))) aB)))))
   (aY (b1 (iT H8 aeO acx L6 cC (af (U 2) aB)))))),?_⟩
  have cm:=D.N9 aF aA;obtain ⟨qs,cz,fh,al⟩:=L;have hlen:∀ x:Str,jT x->x.length <= 8:=fun x h=>h.1
  have fQ:∀ k:Nat,k <= 1000->k <= sizeLine:=fun k h=>c1 h (by decide)
  have Td:(ah "ring ").length=5:=by ac_nf
  have nU:(ah " ").length=1:=by ac_nf
  nofun;have ahg:(ah (toString n)).length <= 8:=(g0 (v:=n) (by omega) (by omega)).1;refine ⟨E8 (by omega),fQ _ (by rw [Td];omega),by decide,fun cY Mw=>?_⟩;rw [Ui];have s0:aI H (upd H cY (.lst [V.str (eG cO [ah "ring",num n])])):=bk Mw;refine ⟨⟨_,aK.of (s0 _ _ cz)⟩,?_⟩;refine du.list (xs:=qs.map V.ref) (fun i σ I=>aI H I/\I cY=some (.lst (bE ((g7 n (ds.take i)).map (eG cO))))/\∃ x,σ=[some (.int n),~~~wl,~~~cY,x]) ?_ ?_ ?_ ?_
  .exact ⟨s0,aU,none,rfl⟩
  .rintro i σ I ai ⟨a9,_,_⟩;exact aK.of (a9 _ _ cz)
  .rintro i v σ I aM aX;ac_rfl
   obtain ⟨a9,au,x,rfl⟩:=aX;obtain ⟨d2,aH,rfl⟩:=cS aM;have hl:i < ds.length:=by rw [<- fh];exact (cg.mp aH).1
   have hd:ds[i]? = some ds[i]:=b7 hl;have dN:bS K I d2 (e_ ds[i]):=bS.of (a9 _ _ (al i d2 _ aH hd));have hw:=(D.al _ (c2 hd)).1;have iA:=hw.st;have gO:=hw.e2;have sX:=hw.of;have LC:=hw.Aj;have aef:=hw.le;have ef:=hlen _ (Kq ds[i].k);have dy:=hlen _ (Ew hw.nm);have C7:(num ds[i].start).length <= 8:=hlen _ (g0 (v:=ds[i].start) (by omega) (by omega));have ahQ:(num ds[i].fin).length <= 8:=hlen _ (g0 (v:=ds[i].fin) (by omega) (by omega));have ah0:(num ds[i].off).length <= 8:=hlen _ (g0 (v:=ds[i].off) (by omega) (by omega));have aiG:(num ds[i].least).length <= 8:=hlen _ (g0 (v:=ds[i].least) (by omega) (by omega));have M9:(num ds[i].near).length <= 8:=hlen _ (g0 (v:=ds[i].near) (by omega) (by omega));subst a5;nofun;refine ⟨.inl ⟨_,aK.of au⟩,?_⟩;have Cd:d_ (e_ ds[i]) 0=some (.str (dE ds[i].k)):=cR (j:=0) rfl;have vr:d_ (e_ ds[i]) 1=some (.str ds[i].name):=cR (j:=1) rfl;refine ⟨_,dN,_,Cd,_,rfl,fQ _ (by omega),_,dN,_,vr,_,rfl,fQ _ (by rw [kl];omega),fQ _ (by simp only [kl];omega),?_⟩;have wI:k0 (e_ ds[i]) (some 2) none=[.int ds[i].start,.int ds[i].fin,.int ds[i].off,.int ds[i].near,.int ds[i].least]:=rfl;refine ⟨_,dN,?_,fun p aq=>⟨⟨_,bS.of aU⟩,?_⟩⟩
   .show ¬ (fj.cM 7 0 (some 2)=0/\fj.cM 7 7 none=7);decide
   rw [wI];have Jd:(uP (ah " ") [num ds[i].start,num ds[i].fin,num ds[i].off,num ds[i].near,num ds[i].least]).length <= 50:=by
    rw [show uP (ah " ") [num ds[i].start,num ds[i].fin,num ds[i].off,num ds[i].near,num ds[i].least]=eG cO [num ds[i].start,num ds[i].fin,num ds[i].off,num ds[i].near,num ds[i].least] from LW _ _];have:=nP cO 8 [num ds[i].start,num ds[i].fin,num ds[i].off,num ds[i].near,num ds[i].least] (fun y bI=>by
     simp only [dQ,jX,or_false] at bI;rcases bI with rfl | rfl | rfl | rfl | rfl <;> assumption)
    rw [p4] at this;simp only [hb,sm] at this;omega
   refine dm.U9 (xs:=[.int ds[i].start,.int ds[i].fin,.int ds[i].off,.int ds[i].near,.int ds[i].least]) (zs:=bE [num ds[i].start,num ds[i].fin,num ds[i].off,num ds[i].near,num ds[i].least]) (bS.of aU) (fQ _ (show 5 <= 1000 by decide)) rfl (fun j v z N aM az bb=>?_) (fun dz dV=>?_)
   .have key:∃ a:Int,v=.int a/\z=.str (num a)/\0 <= a/\a < 100:=by
     match j,aM,az with
     | 0,aM,az=>cases aM;cases az;exact ⟨_,rfl,rfl,iA.1,by omega⟩
     | 1,aM,az=>cases aM;cases az;exact ⟨_,rfl,rfl,gO.1,by omega⟩
     | 2,aM,az=>cases aM;cases az;exact ⟨_,rfl,rfl,sX.1,by omega⟩
     | 3,aM,az=>cases aM;cases az;exact ⟨_,rfl,rfl,LC.1,by omega⟩
     | 4,aM,az=>cases aM;cases az;exact ⟨_,rfl,rfl,by omega,by omega⟩
     | k + 5,aM,az=>simp at aM
    obtain ⟨a,rfl,rfl,aii,ahu⟩:=key;nofun;exact ⟨Sub.name,E8 (by omega),bb⟩
   .nofun;have aeC:cY ≠ dz:=by
     rintro rfl;rw [aW (cy au aq)] at dV;rw [dV] at au;cases au
    have iu:(upd (upd I p (.tup [.int ds[i].start,.int ds[i].fin,.int ds[i].off,.int ds[i].near,.int ds[i].least])) dz (.lst (bE [num ds[i].start,num ds[i].fin,num ds[i].off,num ds[i].near,num ds[i].least]))) cY=some (.lst (bE ((g7 n (ds.take i)).map (eG cO)))):=by
     rw [aW aeC,aW (cy au aq)];exact au
    have fa:aI I (upd (upd I p (.tup [.int ds[i].start,.int ds[i].fin,.int ds[i].off,.int ds[i].near,.int ds[i].least])) dz (.lst (bE [num ds[i].start,num ds[i].fin,num ds[i].off,num ds[i].near,num ds[i].least]))):=(bk aq).trans (bk dV);have NV:=aK.of (K:=K) (H:=upd (upd I p (.tup [.int ds[i].start,.int ds[i].fin,.int ds[i].off,.int ds[i].near,.int ds[i].least])) dz (.lst (bE [num ds[i].start,num ds[i].fin,num ds[i].off,num ds[i].near,num ds[i].least]))) (a:=dz) aU;generalize upd (upd I p (.tup [.int ds[i].start,.int ds[i].fin,.int ds[i].off,.int ds[i].near,.int ds[i].least])) dz (.lst (bE [num ds[i].start,num ds[i].fin,num ds[i].off,num ds[i].near,num ds[i].least]))=ay at iu fa NV ⊢;refine ⟨_,NV,?_,fQ _ (by simp only [kl];omega),_,iu,?_,?_,?_,_,rfl⟩
    .simp only [eJ,i_,KC,List.sum_nil,hb,sm];omega
    .rw [Go,a'];exact j0 (show (g7 n (ds.take i)).length <= 13 by unfold g7;rw [hb,a',gV];omega) (by decide)
    .exact fun b u e=>by rw [aW (cy e Mw)];exact fa _ _ (a9 _ _ e)
    .rw [aU,TM ds[i]];congr 2;unfold g7 bE;simp;rw [vh,eA,hd];rfl
  .rintro σ I aX;ac_rfl
   obtain ⟨a9,au,x,rfl⟩:=aX;subst a5;nofun;rw [a',fh,kH] at au;refine ⟨_,aK.of au,?_,?_⟩
   .have mG:∀ y ∈ (g7 n ds).map (eG cO),y.length <= 63:=W4 cm;have ai8:((g7 n ds).map (eG cO)).length <= 13:=by
     unfold g7;rw [a',hb,a'];omega
    have:=Mf mG;rw [show (ah "\n").length=1 by ac_nf];omega
   .have:=q I a9;unfold nd at this;rw [show uP (ah "\n") ((g7 n ds).map (eG cO))=eG nl ((g7 n ds).map (eG cO)) from LW _ _];exact this
 .obtain ⟨n,wl,ds,ae,ak,a_,cv,dh,bh,q⟩:=h;exact ⟨bh,n,wl,ds,ae,ak,a_,cv,dh,fun I a9=>⟨a9,q⟩⟩
noncomputable def Wy (K:a6):bo:=fun vs H Q _=>∃ n a b d e,vs=[.int n,.ref a,.ref b]/\bS K H a (e_ d)/\bS K H b (e_ e)/\kj n d/\kj n e/\aV H/\Q (.bq (mt n d e)) H
noncomputable def RV (K:a6):bo:=fun vs H Q _=>∃ n a b d e,vs=[.int n,.ref a,.ref b]/\bS K H a (e_ d)/\bS K H b (e_ e)/\kj n d/\kj n e/\∀ I,aI H I->Q (.bq (mt n d e)) I
theorem Po:cq P base T 1 t.Cy t.HV Cc (Wy K):=by
 refine bg.forget (sp:=RV K) ?_ fun vs H Q E h=>?_
 .exists T.zC.ok wA,9
  obtain ⟨n,a,b,d,e,rfl,vF,ts,hd,he,q⟩:=h;refine ⟨_,(db (dD (da hi (bX dZ (U 1) aR) (bX dZ (U 2) aR) (cT _)) (aY (b1 hI)) dI)
   (db (dD (fu.pt (nc (da tu (bX dZ (U 1) aR) (jy (af (bX dZ (U 2) aR) (af (bX dZ (U 2) aR) aB))) (by with_unfolding_all rfl)) (n4 (da hi (bX dZ (U 1) aR) (bX dZ (U 2) aR) (cT _))))) (aY (b1 hI)) dI)
   (db (bJ (i:=3) wA.aC aR)
   (db (bJ (i:=4) wA.aC (bX dZ (U 1) aR))
   (db (abb fG (da mj (U 4) (bX dZ (U 1) aR) (cT _)) (db (bJ (i:=4) wA.aC (Db h5 (Db dj (U 4) aR) (U 0)))
   (aY (dD (da tu (U 4) (jy (af (bX dZ (U 2) aR) (af (bX dZ (U 2) aR) aB))) (by with_unfolding_all rfl)) (aY (bJ (i:=3) wA.aC (Db dj (U 3) aR))) dI))))
   (aY (b1 (jl hi (U 3) aR (cT _))))))))),?_⟩
  have a2:d_ (e_ d) 2=some (.int d.start):=cR (j:=2) rfl;have xi:d_ (e_ d) 3=some (.int d.fin):=cR (j:=3) rfl;have gO:d_ (e_ e) 2=some (.int e.start):=cR (j:=2) rfl;have sX:d_ (e_ e) 3=some (.int e.fin):=cR (j:=3) rfl;have f1:=hd.st;have f2:=hd.e2;have e1:=he.st;have f4:=he.e2;refine ec (decide (d.fin=e.fin)) (fun Q a8=>?_) (fun c=>?_) (fun c=>?_)
  .nofun;refine ⟨_,vF,_,xi,_,ts,_,sX,rfl,?_⟩;nofun;exact a8
  .nofun;have:=q H (aI.refl H);unfold mt w_ at this;rw [c,sO] at this;exact this
  .have eN:=of_decide_eq_false c;nofun;refine wf (fun b I=>aI H I/\b=decide ((d.start=e.start\/d.start=e.fin)\/d.fin=e.start)) (fun Q a8=>?_) (fun I ⟨a9,ab⟩=>?_) (fun I ⟨a9,ab⟩=>?_)
   .nofun;refine ⟨_,vF,_,a2,_,ts,_,gO,_,ts,_,sX,by decide,fun p aq=>⟨_,.inr (bS.of aU),rfl,rfl,?_⟩⟩;have s1:aI H (upd H p (.tup [.int e.start,.int e.fin])):=bk aq;rw [A9];by_cases bT:d.start=e.start\/d.start=e.fin
    .rw [if_pos (decide_eq_true bT)];exact a8 _ _ ⟨s1,(decide_eq_true (.inl bT)).symm⟩
    .rw [if_neg (by simpa using bT)];refine ⟨_,vF.same s1,_,xi,_,ts.same s1,_,gO,rfl,?_⟩;refine a8 _ _ ⟨s1,?_⟩;nofun;rw [n_,decide_eq_true_eq,decide_eq_true_eq];exact ⟨.inr,fun z=>z.resolve_left bT⟩
   .nofun;have fX:=of_decide_eq_true ab.symm;have:=q I a9;unfold mt w_ at this;rw [c,m2,if_pos (by omega)] at this;exact this
   .nofun;have fX:=of_decide_eq_false ab.symm;refine ⟨_,vF.same a9,_,a2,?_⟩;have Vb:0 <= (d.fin - d.start) % n:=e' _ (by omega);have ai2:(d.fin - d.start) % n < n:=ff _ (by omega);refine SV (fun σ ay=>aI H ay/\∃ i:Nat,(i:Int) <= (d.fin - d.start) % n/\σ=[some (.int n),~~~a,~~~b,some (.int (ind n d.start e.start i + ind n d.start e.fin i)),some (.int ((d.start + i) % n))])
     (fun σ _=>match σ with | [_,_,_,_,some (.int p)]=>((d.fin - d.start) % n - (p - d.start) % n).toNat | _=>0) ?_ ?_
    .refine ⟨a9,0,Vb,?_⟩;have GW:∀ p,ind n d.start p ((0:Nat):Int)=0:=fun p=>by unfold ind;rw [if_neg (by omega)]
     rw [GW,GW,show (d.start + ((0:Nat):Int)) % n=d.start by rw [show d.start + ((0:Nat):Int)=d.start by omega];exact i4 f1.1 f1.2];rfl
    .rintro σ ay aX;ac_rfl
     obtain ⟨fa,i,ai,rfl⟩:=aX;have pC:((d.start + i) % n - d.start) % n=i:=(Ty (n:=n) (s:=d.start) (p:=(d.start + i) % n) (j:=i) f1.1 f1.2 (e' _ (by omega)) (ff _ (by omega)) (by omega) (by omega)).mp rfl;subst a5;refine ⟨!decide ((d.start + i) % n=d.fin),fun Q a8=>?_,fun cU=>?_,fun cU=>?_⟩
     .nofun;refine ⟨_,vF.same fa,_,xi,rfl,?_⟩;nofun;exact a8
     .have iw:¬ (d.start + i) % n=d.fin:=by simpa using cU
      have cx:(i:Int) < (d.fin - d.start) % n:=by
       have:(i:Int) ≠ (d.fin - d.start) % n:=fun z=>iw ((Ty f1.1 f1.2 f2.1 f2.2 (by omega) (by omega)).mpr z.symm)
       omega
      have ax:((d.start + i) % n + 1) % n=(d.start + ((i + 1:Nat):Int)) % n:=by
       rw [Mg,adx _ (aau n),<- Mg];congr 1;omega
      have Rk:((d.start + ((i + 1:Nat):Int)) % n - d.start) % n=((i + 1:Nat):Int):=(Ty (n:=n) (s:=d.start) (p:=(d.start + ((i + 1:Nat):Int)) % n) (j:=((i + 1:Nat):Int)) f1.1 f1.2 (e' _ (by omega)) (ff _ (by omega)) (by omega) (by omega)).mp rfl;have eE:=QF (n:=n) (s:=d.start) (p:=e.start) (i:=i) f1.1 f1.2 e1.1 e1.2 (by omega) (by omega);have fN:=QF (n:=n) (s:=d.start) (p:=e.fin) (i:=i) f1.1 f1.2 f4.1 f4.2 (by omega) (by omega);have bR:e.start ≠ e.fin:=he.ne;have th:((i + 1:Nat):Int)=(i:Int) + 1:=by omega
      nofun;refine ⟨by omega,?_⟩;rw [ax];refine wf (fun b bA=>aI H bA/\b=decide ((d.start + ((i + 1:Nat):Int)) % n=e.start\/(d.start + ((i + 1:Nat):Int)) % n=e.fin)) (fun Q a8=>?_) (fun bA ⟨gY,a_⟩=>?_) (fun bA ⟨gY,a_⟩=>?_)
      .nofun;refine ⟨_,ts.same fa,_,gO,_,ts.same fa,_,sX,by decide,fun p aq=>⟨_,.inr (bS.of aU),rfl,rfl,?_⟩⟩;rw [A9];exact a8 _ _ ⟨fa.trans (bk aq),rfl⟩
      .have rG:=of_decide_eq_true a_.symm;rw [th] at rG;nofun;refine ⟨gY,⟨i + 1,by omega,?_,rfl⟩,?_⟩
       .rw [th,eE,fN];rcases rG with z | z
        .rw [if_pos z,if_neg (fun y=>bR (by rw [<- z,<- y]))];omega
        .rw [if_pos z,if_neg (fun y=>bR (by rw [<- z,<- y]))];omega
       .rw [pC,Rk];omega
      .have rG:=of_decide_eq_false a_.symm;rw [th] at rG;nofun;refine ⟨gY,⟨i + 1,by omega,?_,rfl⟩,?_⟩
       .rw [th,eE,fN,if_neg (fun z=>rG (.inl z)),if_neg (fun z=>rG (.inr z))];omega
       .rw [pC,Rk];omega
     .have iw:(d.start + i) % n=d.fin:=by simpa using cU
      have iX:(d.fin - d.start) % n=i:=by rw [<- iw];exact pC
      have:=afi f1 f2 e1 f4 eN fX;rw [iX] at this;nofun;rw [this];exact q ay fa
 .obtain ⟨n,a,b,d,e,ae,ak,a_,cv,dh,bh,q⟩:=h;exact ⟨bh,n,a,b,d,e,ae,ak,a_,cv,dh,fun I a9=>⟨a9,q⟩⟩
structure h6 (eO H:ag) (gl:Addr) (qs:List Addr) (gs:List (List aD)):Prop where
 ae:H gl=some (.lst (qs.map V.ref))
 ak:qs.length=gs.length
 a_:qs.Nodup
 cv:gl ∉ qs
 dh:∀ (i:Nat) (q:Addr) (g:List aD),qs[i]? = some q->gs[i]? = some g->ic H q g
 oR:∀ q ∈ qs,eO q=none
theorem h6.same {eO H I:ag} {gl:Addr} {qs:List Addr} {gs:List (List aD)} (h:h6 eO H gl qs gs) (s:aI H I):h6 eO I gl qs gs:=
 ⟨s _ _ h.ae,h.ak,h.a_,h.cv,fun i q g a b=>(h.dh i q g a b).same s,h.oR⟩
theorem h6.i5 {eO H I:ag} {gl aP:Addr} {qs:List Addr} {gs:List (List aD)} {xs ys:List V} (h:h6 eO H gl qs gs) (s:cc aP H I) (h0:eO aP=some (.lst xs)) (a3:eO gl=none) (aw:H aP=some (.lst ys)):h6 eO I gl qs gs:=by
 refine ⟨s _ _ (fun z=>by rw [z,h0] at a3;cases a3) h.ae,h.ak,h.a_,h.cv,fun i q g a b=>?_,h.oR⟩;obtain ⟨ws,ax,aG,bM⟩:=h.dh i q g a b;have aH:q ≠ aP:=fun z=>by
  have:=h.oR q (c2 a);rw [z,h0] at this;cases this
 refine ⟨ws,s _ _ aH ax,aG,fun k r d x y=>?_⟩;have e:=bM k r d x y;exact s _ _ (d0 e aw (by intro z;cases z)) e
theorem ic.put {H:ag} {p q:Addr} {ds:List aD} {xs ys:List V} (h:ic H q ds) (aq:H p=some (.lst xs)) (bR:q ≠ p):ic (upd H p (.lst ys)) q ds:=by
 obtain ⟨qs,ae,ak,a_⟩:=h;refine ⟨qs,by rw [aW bR];exact ae,ak,fun i r d a b=>?_⟩;have e:=a_ i r d a b;rw [aW (d0 e aq (by intro z;cases z))];exact e
theorem h6.put {eO H:ag} {gl q w:Addr} {gs:List (List aD)} {j:Nat} {g:List aD} {d:aD} {qs ws:List Addr} (h:h6 eO H gl qs gs)
  (aH:qs[j]? = some q) (a3:gs[j]? = some g) (aA:H q=some (.lst (ws.map V.ref))) (iC:ws.length=g.length) (Wt:∀ (i:Nat) (r:Addr) (d:aD),ws[i]? = some r->g[i]? = some d->H r=some (.tup (e_ d))) (hw:H w=some (.tup (e_ d))) :
  h6 eO (upd H q (.lst (ws.map V.ref ++ [.ref w]))) gl qs (gs.set j (g ++ [d])):=by
 obtain ⟨ae,ak,a_,cv,dh,oR⟩:=h;have G':gl ≠ q:=fun z=>cv (by rw [z];exact c2 aH)
 refine ⟨by rw [aW G'];exact ae,by rw [zO];exact ak,a_,cv,fun i r g' a b=>?_,oR⟩;by_cases c:i=j
 .subst c;rw [aH] at a;cases a;rw [oC (cg.mp a3).1] at b;cases b;refine ⟨ws ++ [w],by rw [aU,eM];rfl,by rw [dP,dP,iC];rfl,fun i r e a b=>?_⟩;have key:H r=some (.tup (e_ e)):=by
   rcases iL a with ⟨_,dy⟩ | ⟨ef,rfl⟩
   .rcases iL b with ⟨_,pL⟩ | ⟨m',_⟩
    .exact Wt i r e dy pL
    .omega
   .rcases iL b with ⟨m',_⟩ | ⟨_,rfl⟩
    .omega
    .exact hw
  rw [aW (d0 key aA (by intro z;cases z))];exact key
 .rw [qZ (fun e=>c e.symm)] at b;have bR:r ≠ q:=fun e=>by
   subst e;obtain ⟨a1,iA⟩:=cg.mp a;obtain ⟨a2,gO⟩:=cg.mp aH;exact c ((FW a_).mp (iA.trans gO.symm))
  exact (dh i r g' a b).put aA bR
theorem Kc {n:Int} {d:aD}:∀ {gs:List (List aD)} {j:Nat} {g:List aD},gs[j]? = some g->(∀ g' ∈ gs.take j,g'.any (fun e=>mt n e d)=true)->g.any (fun e=>mt n e d)=false->gF n d gs=gs.set j (g ++ [d])
 | [],j,g,h,_,_=>by simp at h
 | pO :: gs,0,g,h,_,hf=>by
  cases (show pO=g by simpa using h);unfold gF;rw [hf];rfl
 | pO :: gs,j + 1,g,h,ct,hf=>by
  rw [wJ] at h;unfold gF;rw [ct pO (by simp)];show pO :: gF n d gs=_;rw [Kc h (fun g' kT=>ct g' (by rw [List.take_succ_cons];exact fw _ kT)) hf];rfl
theorem ZB {n:Int} {d:aD}:∀ {gs:List (List aD)},(∀ g' ∈ gs,g'.any (fun e=>mt n e d)=true)->gF n d gs=gs ++ [[d]]
 | [],_=>rfl
 | pO :: gs,h=>by
  unfold gF;rw [h pO (by simp)];show pO :: gF n d gs=_;rw [ZB fun g' kT=>h g' (fw _ kT)];rfl
noncomputable def T4 (K:a6):bo:=fun vs H Q _=>∃ (n:Int) (wl:Addr) (ds:List aD),vs=[.int n,.ref wl]/\ic H wl ds/\(∀ d ∈ ds,kj n d)/\ds.length <= 9/\aV H/\∀ gl qs I,aI H I->aV I->H gl=none->h6 H I gl qs (dW n ds)->Q (.ref gl) I
theorem h6.new {eO H:ag} {gl p w:Addr} {gs:List (List aD)} {d:aD} {qs:List Addr} (h:h6 eO H gl qs gs) (h0:aI eO H) (aq:H p=none) (hw:H w=some (.tup (e_ d))) :
  h6 eO (upd (upd H p (.lst [.ref w])) gl (.lst (qs.map V.ref ++ [.ref p]))) gl (qs ++ [p]) (gs ++ [[d]]):=by
 have B6:gl ≠ p:=cy h.ae aq;have pg:p ∉ qs:=fun z=>by
  obtain ⟨i,ai⟩:=oD z;have GA:i < gs.length:=by rw [<- h.ak];exact (cg.mp ai).1
  obtain ⟨ws,e,_⟩:=h.dh i p _ ai (b7 GA);rw [aq] at e;cases e
 refine ⟨by rw [aU,eM];rfl,by rw [dP,dP,h.ak];rfl,?_,?_,fun i q g a b=>?_,fun q aH=>?_⟩
 .refine afn.mpr ⟨h.a_,by simp,fun x av y bI e=>?_⟩;rw [jB.mp bI] at e;rw [e] at av;exact pg av
 .intro z;rcases jh.mp z with z | z
  .exact h.cv z
  .exact B6 (jB.mp z)
 .rcases iL a with ⟨ef,dy⟩ | ⟨ef,rfl⟩
  .rcases iL b with ⟨_,pL⟩ | ⟨m',_⟩
   .have L:=h.dh i q g dy pL;have G':q ≠ gl:=fun z=>h.cv (by rw [<- z];exact c2 dy)
    exact (L.same (bk aq)).put (by rw [aW B6];exact h.ae) G'
   .have:=h.ak;omega
  .rcases iL b with ⟨m',_⟩ | ⟨_,rfl⟩
   .have:=h.ak;omega
   .refine ⟨[w],by rw [aW B6.symm,aU];rfl,rfl,fun k r e x y=>?_⟩;have aE:k=0:=by have:=(cg.mp x).1;simp at this;exact this
    subst aE;cases x;cases y;rw [aW (d0 hw h.ae (by intro z;cases z)),aW (cy hw aq)];exact hw
 .rcases jh.mp aH with z | z
  .exact h.oR q z
  .rw [jB.mp z];exact h0.free aq
theorem abG:cq P base T 2 t.DW t.FD ry (T4 K):=by
 refine dp (Po T) fun H2=>?_;exists T.CN.ok tm,9
 obtain ⟨n,wl,ds,rfl,L,hw,gP,bh,q⟩:=h;obtain ⟨T5,cz,fh,Xw⟩:=id L;refine ⟨_,(db (bJ (i:=2) tm.aC (fH aB))
   (db (er fG rfl (fk (U 1)) (Ay (i:=3) tm.aC rfl (pz rfl)) (db (bJ (i:=4) tm.aC hI)
   (db (er fG rfl (fk (U 2)) (b' (i:=5) tm.aC) (aY (dD (fu.pt (p8 (k8 (iW (U 4))) (ri (k8 (Hj (l' rfl (fk (U 5)) (iE (sc:=bz Gd) rfl (by ac_nf)) (N:=["_law_one","_law_places","_law_way"]) (sel:=[none,some 0,some 3]) (iS (M:=["_law_places","_law_ways_here","_law_groups_here","_law_way","_law_put","_law_group"]) (by ac_nf)) (gN.of (fun _ _ _ _=>(b' (i:=0) (gb (N:=["_law_one","_law_places","_law_way"]) (by ac_nf) rfl))) (fun _ _ _ _=>⟨_,(vq (iW (cb H2 au T.KA T.zC.bF T.PQ (af (U 1) (af (U 0) (af (U 2) aB)))))),by walk_at "B"⟩) (fun _ _ _ _=>⟨_,(U 0),by walk_at "B"⟩))) (fun _=>rfl)))))) (db (rc (iT lZ oA pS ot (U 5) (af (U 3) aB)))
   (aY (bJ (i:=4) tm.aC hI))) dI)))
   (aY (dD (k8 (iW (U 4))) (aY (rc (iT lZ oA pS ot (U 2) (af (fH (af (U 3) aB)) aB)))) dI)))))
   (aY (b1 (U 2))))),?_⟩
 refine hj (fun aS I=>aI H I/\aV I/\∃ gl,H gl=none/\I gl=some (.lst [])/\aS=[some (.int n),~~~wl,~~~gl,none,none,none]) (fun D bj=>?_) fun gu a5=>?_
 .nofun;exact ⟨fv _,fun gl q8=>bj _ _ ⟨bk q8,bh.upd,gl,q8,aU,rfl⟩⟩
 rintro fJ H1 ⟨s1,c4,gl,q8,cZ,rfl⟩;subst a5;nofun;refine ⟨⟨_,aK.of (s1 _ _ cz)⟩,?_⟩;refine du.list (xs:=T5.map V.ref) (fun i σ I=>aI H I/\aV I/\(∃ qs,h6 H I gl qs (dW n (ds.take i)))/\∃ eB gK ee,σ=[some (.int n),~~~wl,~~~gl,eB,gK,ee]) ?_ ?_ ?_ ?_
 .exact ⟨s1,c4,⟨[],cZ,rfl,Q0,by simp,fun i q g h=>by simp at h,fun q h=>by simp at h⟩,_,_,_,rfl⟩
 .rintro i σ I ai ⟨a9,_⟩;exact aK.of (a9 _ _ cz)
 .rintro i v σ I aM aX;ac_rfl
  obtain ⟨s2,cP,⟨qs,G⟩,eB,gK,ee,rfl⟩:=aX;obtain ⟨de,pG,rfl⟩:=cS aM;have hl:i < ds.length:=by rw [<- fh];exact (cg.mp pG).1
  have hd:ds[i]? = some ds[i]:=b7 hl;have MA:=Xw i de _ pG hd;have Ti:=hw _ (c2 hd);have yq:dW n (ds.take (i + 1))=gF n ds[i] (dW n (ds.take i)):=by rw [i1 hd,T_]
  have sZ:∀ g ∈ dW n (ds.take i),∀ e ∈ g,kj n e:=fun g a3 e he=>by
   have:=(tB n (ds.take i)).mem_iff.mp (U8.mpr ⟨g,a3,he⟩);exact hw e (D3 this)
  have GQ:∀ g ∈ dW n (ds.take i),g.length <= 9:=fun g a3=>by
   have ae:=(tB n (ds.take i)).length_eq;have ak:=(Z1 a3).length_le;rw [gV] at ae;omega
  have Ng:(dW n (ds.take i)).length <= 9:=by
   have ae:=(tB n (ds.take i)).length_eq;have ak:=B5 (NL n (ds.take i));rw [gV] at ae;omega
  subst a5;generalize dW n (ds.take i)=gs at G yq sZ GQ Ng;simp only [fO,eu,jv,je];exists (fun aS ay=>ay=I/\aS=[some (.int n),~~~wl,~~~gl,~~~de,some (.bq false),ee]),1
  .nofun;exact bj _ _ ⟨rfl,rfl⟩
  rintro j5 bA ⟨rfl,rfl⟩;subst a5;simp only [eu];exists (fun aS bY=>aI H bY/\aV bY/\∃ (p:Bool) (ee:Option V),(p=false->h6 H bY gl qs gs/\∀ g' ∈ gs,g'.any (fun e=>mt n e ds[i])=true)/\(p=true->h6 H bY gl qs (gF n ds[i] gs))/\aS=[some (.int n),~~~wl,~~~gl,~~~de,some (.bq p),ee]),1
  .nofun;refine ⟨⟨_,aK.of G.ae⟩,?_⟩;refine du.list (xs:=qs.map V.ref) (fun j σ bY=>aI H bY/\aV bY/\∃ (p:Bool) (ee:Option V),(p=false->h6 H bY gl qs gs/\∀ g' ∈ gs.take j,g'.any (fun e=>mt n e ds[i])=true)/\(p=true->h6 H bY gl qs (gF n ds[i] gs))/\σ=[some (.int n),~~~wl,~~~gl,~~~de,some (.bq p),ee]) ?_ ?_ ?_ ?_
   .exact ⟨s2,cP,false,_,fun _=>⟨G,fun g' h=>by simp at h⟩,(fun z=>nomatch z),rfl⟩
   .rintro j σ bY aZ aX;ac_rfl
    obtain ⟨s4,gj,p,ee,iz,d8,rfl⟩:=aX;subst a5;cases p with
    | false=>exact aK.of (iz rfl).1.ae
    | true=>exact aK.of (d8 rfl).ae
   .rintro j v σ bY aM aX;ac_rfl
    obtain ⟨s4,gj,p,ee,iz,d8,rfl⟩:=aX;obtain ⟨Gb,ke,rfl⟩:=cS aM;have CL:j < gs.length:=by rw [<- G.ak];exact (cg.mp ke).1
    have qj:gs[j]? = some gs[j]:=b7 CL;have y6:=s4 _ _ MA;subst a5;simp only [fO,eu,jv,je];refine wf (fun b dq=>aI bY dq/\aV dq/\(b=true->p=false/\gs[j].any (fun e=>mt n e ds[i])=false)/\(b=false->p=true\/gs[j].any (fun e=>mt n e ds[i])=true)) (fun Q a8=>?_) (fun dq r=>?_) (fun dq r=>?_)
    .nofun;cases p with
     | true=>
      rw [if_neg (by decide)];exact a8 _ _ ⟨aI.refl _,gj,(fun z=>nomatch z),fun _=>.inl rfl⟩
     | false=>
      rw [if_pos (show (!false)=true from rfl)];obtain ⟨jP,ko⟩:=iz rfl;obtain ⟨ws,d1,hY,Bw⟩:=jP.dh j Gb _ ke qj;have tL:=c2 qj;refine ⟨⟨_,aK.of d1⟩,?_⟩;refine dm.list (xs:=ws.map V.ref) (fun k ys dq=>dq=bY/\ys.length <= k/\(ys.isEmpty = !((gs[j].take k).any (fun e=>mt n e ds[i])))) (c1 (show (ws.map V.ref).length <= 9 by rw [a',hY];exact GQ _ tL) (by decide)) ⟨rfl,b2 _,by rw [Ag];rfl⟩ (fun k ys dq aE h=>by obtain ⟨rfl,aA,_⟩:=h;exact ⟨aK.of d1,aA⟩) ?_ ?_
      .rintro k x ys dq av ⟨rfl,aA,vv⟩ N bb;obtain ⟨IX,J2,rfl⟩:=cS av;have X_:k < gs[j].length:=by rw [<- hY];exact (cg.mp J2).1
       have EC:gs[j][k]? = some gs[j][k]:=b7 X_;have oX:(gs[j].take (k + 1)).any (fun e=>mt n e ds[i])=((gs[j].take k).any (fun e=>mt n e ds[i]) || mt n gs[j][k] ds[i]):=by
        rw [i1 EC,List.any_append];simp
       nofun;refine ⟨Sub.name,n,IX,de,gs[j][k],ds[i],rfl,bS.of (Bw k IX _ J2 EC),bS.of y6,sZ _ tL _ (c2 EC),Ti,gj,_,rfl,?_⟩;cases ab:mt n gs[j][k] ds[i] with
       | true=>
        rw [if_pos rfl];exact bb _ _ ⟨rfl,by rw [dP,Ax];omega,by rw [oX,ab,zR];simp⟩
       | false=>
        rw [if_neg (by decide)];exact bb _ _ ⟨rfl,by omega,by rw [oX,ab,EA];exact vv⟩
      .rintro ys dq ⟨rfl,aA,vv⟩ dz dV;rw [a',hY,kH] at vv;refine ⟨!ys.isEmpty,.inl ⟨ys,aK.of aU,rfl⟩,a8 _ _ ⟨bk dV,gj.upd,fun z=>⟨rfl,?_⟩,fun z=>.inr ?_⟩⟩
       .rw [vv] at z;simpa using z
       .rw [vv] at z;simpa using z
    .obtain ⟨s5,qr,r,_⟩:=r;obtain ⟨rfl,adP⟩:=r rfl;obtain ⟨jP,ko⟩:=iz rfl;have ML:=jP.same s5;obtain ⟨ws,d1,hY,Bw⟩:=ML.dh j Gb _ ke qj;have W0:=Kc (n:=n) (d:=ds[i]) qj ko adP;nofun;refine ⟨.inl ⟨_,aK.of d1⟩,_,d1,j0 (show (ws.map V.ref).length <= 9 by rw [a',hY];exact GQ _ (c2 qj)) (by decide),(s4.trans s5).g9 (jP.oR Gb (c2 ke)),qr.upd,true,(fun z=>nomatch z),fun _=>?_,rfl,_,rfl⟩;rw [W0];exact ML.put ke qj d1 hY Bw (s5 _ _ y6)
    .obtain ⟨s5,qr,_,r⟩:=r;have r:=r rfl;nofun;refine ⟨s4.trans s5,qr,p,fun z=>?_,fun z=>(d8 z).same s5,rfl,_,rfl⟩;obtain ⟨jP,ko⟩:=iz z;refine ⟨jP.same s5,fun g' kT=>?_⟩;rw [i1 qj] at kT;rcases jh.mp kT with kT | kT
     .exact ko g' kT
     .rw [jB.mp kT];rcases r with r | r
      .rw [z] at r;cases r
      .exact r
   .rintro σ bY aX;ac_rfl
    obtain ⟨s4,gj,p,ee,iz,d8,rfl⟩:=aX;subst a5;refine bj _ _ ⟨s4,gj,p,ee,fun z=>?_,d8,rfl⟩;obtain ⟨a1,a2⟩:=iz z;rw [a',G.ak,kH] at a2;exact ⟨a1,a2⟩
  rintro Dn bY ⟨s4,gj,p,ee,iz,d8,rfl⟩;subst a5;dsimp only;refine ec (!p) (fun Q a8=>?_) (fun nB=>?_) (fun nB=>?_)
  .nofun;exact a8
  .have aq:p=false:=by simpa using nB
   subst aq;obtain ⟨jP,ko⟩:=iz rfl;have y6:=s4 _ _ MA;rw [ZB ko] at yq;nofun;refine ⟨.inl ⟨_,aK.of jP.ae⟩,by decide,fun dz dV=>?_⟩;have hA:gl ≠ dz:=cy jP.ae dV;refine ⟨_,by rw [aW hA];exact jP.ae,j0 (show (qs.map V.ref).length <= 9 by rw [a',jP.ak];exact Ng) (by decide),(s4.trans (bk dV)).g9 q8,(gj.upd).upd,⟨qs ++ [dz],?_⟩,_,rfl⟩;rw [yq];exact jP.new s4 dV y6
  .have aq:p=true:=by simpa using nB
   subst aq;have jP:=d8 rfl;nofun;exact ⟨s4,gj,⟨qs,by rw [yq];exact jP⟩,_,rfl⟩
 .rintro σ I aX;ac_rfl
  obtain ⟨s2,cP,⟨qs,G⟩,eB,gK,ee,rfl⟩:=aX;subst a5;nofun;rw [a',fh,kH] at G;exact q gl qs I s2 cP q8 G
noncomputable def i8 (ds:List aD) (f:aD->Str):List (Key × V):=ds.map fun d=>(bN d.name,V.str (f d))
theorem Xg {ds:List aD} {f:aD->Str} (h:(ds.map (·.name)).Nodup) {i:Nat} {d:aD} (hd:ds[i]? = some d):gA (i8 (ds.take i) f) (bN d.name) (.str (f d))=i8 (ds.take (i + 1)) f:=by
 unfold gA;have no:((i8 (ds.take i) f).any fun c8=>decide (c8.1=bN d.name))=false:=by
  rw [EX];intro p aq;unfold i8 at aq;obtain ⟨e,he,rfl⟩:=dX.mp aq;obtain ⟨j,aZ⟩:=oD he;have xk:=(cg.mp aZ).1;rw [gV] at xk;rw [yB (by omega)] at aZ;simp only [decide_eq_true_eq];intro z;have:=vi h aZ hd (wZ z);omega
 rw [if_neg (by rw [no];exact hB),i1 hd];unfold i8;rw [eM];rfl
theorem acm {ds:List aD} {f:aD->Str} (h:(ds.map (·.name)).Nodup) {i:Nat} {d:aD} (hd:ds[i]? = some d):dJ (i8 ds f) (bN d.name)=some (.str (f d)):=by
 have:∀ (l:List aD),(l.map (·.name)).Nodup->d ∈ l->dJ (i8 l f) (bN d.name)=some (.str (f d)):=fun l=>by
  induction l with
  | nil=>intro _ h;cases h
  | cons x l cj=>
   intro aF hm;by_cases c:x.name=d.name
   .have:x=d:=by
     rcases dQ.mp hm with e | e
     .exact e.symm
     .exact absurd (dX.mpr ⟨d,e,c.symm⟩) (wN.mp aF).1
    subst this;simp [dJ,i8]
   .have Ek:d ∈ l:=by
     rcases dQ.mp hm with e | e
     .exact absurd (by rw [e]) c
     .exact e
    have:=cj (wN.mp aF).2 Ek;simp only [dJ,i8,eJ,n9] at this ⊢;simp [c] at this ⊢;exact this
 exact this ds h (c2 hd)
theorem O8 (d:aD):d_ (e_ d) 0=some (.str (dE d.k)):=cR (j:=0) rfl
theorem Q9 (d:aD):d_ (e_ d) 4=some (.int d.off):=cR (j:=4) rfl
noncomputable def yA:List Str:=[ah "car",ah "foot",ah "tram"]
theorem KS:∀ k,k < 3->yA[k]? = some (dE k)
 | 0,_=>rfl
 | 1,_=>rfl
 | 2,_=>rfl
theorem ND:∀ k,k < 3->∀ m,m < k->yA[m]? ≠ some (dE k):=by ac_nf
theorem Zb {d:aD} (aE:d.k < 3):d_ [V.int 1,.int 0,.int 2] ((d.k:Nat):Int)=some (.int (cI d)):=by
 unfold cI;generalize d.k=k at aE ⊢
 match k,aE with
 | 0,_=>exact cR (j:=0) rfl
 | 1,_=>exact cR (j:=1) rfl
 | 2,_=>exact cR (j:=2) rfl
theorem Yc {d:aD} (aE:d.k < 3):d_ [V.int 2,.int d.off,.int 1] ((d.k:Nat):Int)=some (.int (cK d)):=by
 unfold cK;generalize d.k=k at aE ⊢
 match k,aE with
 | 0,_=>exact cR (j:=0) rfl
 | 1,_=>exact cR (j:=1) rfl
 | 2,_=>exact cR (j:=2) rfl
noncomputable def Tq (t:bC):bo:=fun vs H Q E=>∃ (pl c:Addr) (n:Int) (ds:List aD) (z:Nat) (sp:List ba) (x:Str) (turn:Int),vs=[.ref pl,.str x,.int turn]/\la t H pl c n ds z sp/\0 < z/\om x /\
 ((∃ (i:Nat) (d:aD) (v:Str),ds[i]? = some d/\x=d.name/\(o_ z sp d)[(turn % (z:Int)).toNat]? = some v/\Q (.str v) H)\/(AI ds x/\Bf t x H E))
noncomputable def Zf (t:bC):bo:=fun vs H Q _=>∃ (pl c:Addr) (n:Int) (ds:List aD) (z:Nat) (sp:List ba) (i:Nat) (d:aD) (v:Str) (turn:Int),vs=[.ref pl,.str d.name,.int turn]/\la t H pl c n ds z sp/\0 < z/\om d.name/\ds[i]? = some d/\(o_ z sp d)[(turn % (z:Int)).toNat]? = some v/\Q (.str v) H
noncomputable def UF (t:bC):bo:=fun vs H Q _=>∃ (pl c:Addr) (n:Int) (ds:List aD) (z:Nat) (sp:List ba) (f:aD->Str) (turn:Int),vs=[.ref pl,.int turn]/\la t H pl c n ds z sp/\0 < z/\(∀ d ∈ ds,om d.name/\(o_ z sp d)[(turn % (z:Int)).toNat]? = some (f d))/\aV H /\
 ∀ p I,aI H I->aV I->H p=none->I p=some (.cE (i8 ds f))->Q (.ref p) I
theorem la.same {t:bC} {H I:ag} {a c:Addr} {n:Int} {ds:List aD} {z:Nat} {sp:List ba} (h:la t H a c n ds z sp) (s:aI H I):la t I a c n ds z sp:=by
 obtain ⟨aj,p,lm,un,ae,ak,a_,⟨bK,a1,iA,bT⟩,⟨cL,a2,gO,cU⟩⟩:=h.at_;exact ⟨aj,p,lm,un,s _ _ ae,ak.same s,a_.same s,⟨bK,a1,s _ _ iA,fun i r d x y=>s _ _ (bT i r d x y)⟩,⟨cL,a2,s _ _ gO,fun i r d x y=>s _ _ (cU i r d x y)⟩⟩
section
variable {w:World} {K:a6} {ao:Str->Option Value} {t:bC} {H:ag} {a c aj p lm un:Addr} {z:Int}
theorem Fz (T:Txt w K ao t) (e:H a=some (.ins t.gf aj (lA c z p lm un))):ia K H a (ah "crossing") (.ref c):=⟨_,aj,_,e,T.m4,T.Fk,j9 wL 0 (BR ..) (by ac_nf) rfl⟩
theorem aen (T:Txt w K ao t) (e:H a=some (.ins t.gf aj (lA c z p lm un))):ia K H a (ah "size") (.int z):=⟨_,aj,_,e,T.m4,T.M_,j9 wL 1 (BR ..) (by ac_nf) rfl⟩
end
theorem qB.get {H:ag} {p:Addr} {ds:List aD} {f:aD->df} (h:qB H p ds f ds.length) (aC:(ds.map (·.name)).Nodup) {i:Nat} {d:aD} (hd:ds[i]? = some d):∃ r,gm H p (.str d.name) (some (.ref r))/\H r=some (f d):=by
 obtain ⟨rs,aA,aq,al⟩:=h;have ai:i < rs.length:=by rw [aA];exact (cg.mp hd).1
 have au:rs[i]? = some rs[i]:=b7 ai;refine ⟨rs[i],?_,al i _ d au hd⟩;have:=gm.k (k:=bN d.name) aq;rw [Ho aC hd au] at this;exact this
theorem afw (T:Txt w K ao t):bg P w K ao base (di P w) 5 t.ym t.BN wo (Tq t):=by
 have G1:bg P w K ao base (di P w) 4 t.ow t.pf hg (E6 t):=Ks T;exists T.lw.iB afE,9
 obtain ⟨pl,c,n,ds,z,sp,x,turn,rfl,dr,az,a9,aH⟩:=h;obtain ⟨aj,p,lm,un,dn,C,_,Se,_⟩:=dr.at_;obtain ⟨⟨gM,_⟩,wO,wl,aC,ax,_,_⟩:=id C;have bQ:=lV au;refine ⟨_,(db (rc (e5 (Gc (U 0) rfl) T.f_ T.nF G1 au T.oe .nil gJ (af (U 1) aB)))
   (aY (b1 (bX ew (kN bQ (Gc (U 0) rfl) (U 1) (fun _ _=>rfl)) (Db h5 (U 2) (Gc (U 0) rfl)))))),?_⟩
 nofun;refine ⟨_,Fz T dn,_,rfl,_,_,ax,ih _ _ _ (by ac_nf),c,n,ds,x,rfl,C,a9,?_⟩;rcases aH with ⟨i,d,v,hd,rfl,aM,q⟩ | ⟨aw,q⟩
 .refine .inl ⟨i,d,hd,rfl,fun a W=>?_⟩;obtain ⟨r,a3,vD⟩:=Se.get gM hd;have h0:=e' turn (show (z:Int) ≠ 0 by omega);nofun;refine ⟨_,Jl T dn,_,rfl,_,a3,_,aen T dn,_,rfl,by omega,_,rfl,_,aK.of vD,.str v,?_,q⟩;have e:=cR (xs:=bE (o_ z sp d)) (j:=(turn % (z:Int)).toNat) (v:=.str v) (by unfold bE;rw [eA,aM];rfl);rwa [iJ h0] at e
 .exact .inr ⟨aw,q⟩
theorem VI:cq P base T 5 t.ym t.BN wo (Zf t):=by
 refine (afw T).quiet fun vs H Q E h=>?_
 obtain ⟨pl,c,n,ds,z,sp,i,d,v,turn,rfl,dr,az,a9,hd,aM,q⟩:=h;exact ⟨pl,c,n,ds,z,sp,d.name,turn,rfl,dr,az,a9,.inl ⟨i,d,v,hd,rfl,aM,q⟩⟩
theorem TU:cq P base T 6 t.Bd t.AB y2 (UF t):=by
 refine dp (VI T) fun ac'=>dp (uc T) fun l0=>?_;exists T.C_.ok Cu,9
 obtain ⟨pl,c,n,ds,z,sp,f,turn,rfl,dr,az,hf,bh,q⟩:=h;obtain ⟨aj,p,lm,un,dn,C,_,_,_⟩:=dr.at_;obtain ⟨⟨gM,gP⟩,wO,wl,aC,ax,_,_⟩:=id C;have bQ:=lV au;refine ⟨_,(db (bJ (i:=2) Cu.aC wg)
   (db (er fG rfl (fk (gS (Gc (U 0) rfl) T.f_ T.rh l0 au T.qb .nil c5)) (b' (i:=3) Cu.aC) (aY (vm bQ (U 2) (U 3) (cb ac' au T.Wc T.lw.bF T.aeb (af (U 0) (af (U 3) (af (U 1) aB)))) rfl)))
   (aY (b1 (U 2))))),?_⟩
 refine hj (fun aS I=>aI H I/\aV I/\∃ iY,H iY=none/\I iY=some (.cE [])/\aS=[~~~pl,some (.int turn),~~~iY,none]) (fun D bj=>?_) fun gu a5=>?_
 .nofun;exact fun iY wx=>bj _ _ ⟨bk wx,bh.upd,iY,wx,aU,rfl⟩
 rintro fJ H1 ⟨s1,c4,iY,wx,cZ,rfl⟩;subst a5;nofun;refine ⟨_,Fz T (s1 _ _ dn),_,rfl,_,_,s1 _ _ ax,ih _ _ _ (by ac_nf),c,n,ds,rfl,C.same s1,fun ek i'=>⟨ek,rfl,⟨_,aK.of aU⟩,?_⟩⟩;refine du.list (xs:=bE (ds.map (·.name))) (fun i σ I=>aI H I/\aV I/\I ek=some (.lst (bE (ds.map (·.name))))/\I iY=some (.cE (i8 (ds.take i) f))/\∃ y,σ=[~~~pl,some (.int turn),~~~iY,y]) ?_ ?_ ?_ ?_
 .exact ⟨s1.trans (bk i'),c4.upd,aU,(bk i') _ _ cZ,_,rfl⟩
 .rintro i σ I ai aX;ac_rfl
  obtain ⟨_,_,h,_⟩:=aX;subst a5;exact aK.of h
 .rintro i v σ I aM aX;ac_rfl
  obtain ⟨s2,cP,nj,vx,y,rfl⟩:=aX;obtain ⟨x,av,rfl⟩:=cS aM;obtain ⟨d,hd,rfl⟩:=cS av;have DQ:=hf d (c2 hd);have hlen:(i8 (ds.take i) f).length <= 12:=by unfold i8;rw [a',gV];omega
  subst a5;nofun;refine ⟨pl,c,n,ds,z,sp,i,d,f d,turn,rfl,dr.same s2,az,DQ.1,hd,DQ.2,_,nW.k (k:=bN d.name) vx (j0 hlen (by decide)),s2.g9 wx,cP.upd,?_,?_,_,rfl⟩
  .rw [aW (d0 nj vx (by intro z;cases z))];exact nj
  .rw [aU,Xg gM hd]
 .rintro σ I aX;ac_rfl
  obtain ⟨s2,cP,nj,vx,y,rfl⟩:=aX;have fU:(bE (ds.map (·.name))).length=ds.length:=by unfold bE;simp
  subst a5;rw [fU,kH] at vx;nofun;exact q iY I s2 cP wx vx
noncomputable def Zu (t:bC):bo:=fun vs H Q E=>∃ (pl c:Addr) (n:Int) (ds:List aD) (z:Nat) (sp:List ba) (x:Str),vs=[.ref pl,.str x]/\la t H pl c n ds z sp/\(0 < z/\z <= 1000)/\om x /\
 ((∃ (i:Nat) (d:aD) (m:Int),ds[i]? = some d/\x=d.name/\(m ∈ jQ z sp x/\∀ k ∈ jQ z sp x,k <= m)/\∀ p,H p=none->Q (.ref p) (upd H p (.tup [.int m,.int ((jQ z sp x).idxOf m:Nat)])))\/(AI ds x/\Bf t x H E))
theorem D8 {z:Nat} {sp:List ba} {x:Str}:(jQ z sp x).length=z:=by
 unfold jQ;rw [xA,nL]
theorem YI (T:Txt w K ao t):bg P w K ao base (di P w) 5 t.u2 t.dl vg (Zu t):=by
 have G1:bg P w K ao base (di P w) 4 t.ow t.pf hg (E6 t):=Ks T;exists T.F4.iB wv,9
 obtain ⟨pl,c,n,ds,z,sp,x,rfl,dr,az,a9,aH⟩:=h;obtain ⟨aj,p,lm,un,dn,C,_,_,WR⟩:=dr.at_;obtain ⟨⟨gM,_⟩,wO,wl,aC,ax,_,_⟩:=id C;have bQ:=lV au;refine ⟨_,(db (rc (e5 (Gc (U 0) rfl) T.f_ T.nF G1 au T.oe .nil gJ (af (U 1) aB)))
   (db (bJ (i:=2) wv.aC (fL (WL rfl) rfl T.xD am (af (kN bQ (Gc (U 0) rfl) (U 1) (fun _ _=>rfl)) aB)))
   (aY (b1 (jy (af (U 2) (af (iT lZ A7 Kv UO (kN bQ (Gc (U 0) rfl) (U 1) (fun _ _=>rfl)) (af (U 2) aB)) aB))))))),?_⟩
 nofun;refine ⟨_,Fz T dn,_,rfl,_,_,ax,ih _ _ _ (by ac_nf),c,n,ds,x,rfl,C,a9,?_⟩;rcases aH with ⟨i,d,m,hd,rfl,hm,q⟩ | ⟨aw,q⟩
 .refine .inl ⟨i,d,hd,rfl,fun a W=>?_⟩;obtain ⟨r,a3,vD⟩:=WR.get gM hd;nofun;exact ⟨_,ms T dn,_,rfl,_,a3,_,rfl,_,aK.of vD,m,hm.1,hm.2,_,ms T dn,_,rfl,_,a3,.inl ⟨_,aK.of vD⟩,_,rfl,_,aK.of vD,hm.1,by rw [D8];exact az.2,by decide,q⟩
 .exact .inr ⟨aw,q⟩
seal L2.dr L2.br L2.gc L2.gL L2.hJ L2.fu
noncomputable abbrev n1 (s:ba):List V:=[.str s.name,.int s.b,.int s.n]
structure SL (H:ag) (aP:Addr) (qs:List Addr) (sp:List ba):Prop where
 ae:H aP=some (.lst (qs.map V.ref))
 ak:qs.length=sp.length
 aC:qs.Nodup
 uU:aP ∉ qs
 al:∀ (i:Nat) (q:Addr) (s:ba),qs[i]? = some q->sp[i]? = some s->H q=some (.lst (n1 s))
theorem SL.same {H I:ag} {aP:Addr} {qs:List Addr} {sp:List ba} (h:SL H aP qs sp) (s:aI H I):SL I aP qs sp:=⟨s _ _ h.ae,h.ak,h.aC,h.uU,fun i q e a b=>s _ _ (h.al i q e a b)⟩
theorem SL.get {H:ag} {aP:Addr} {qs:List Addr} {sp:List ba} (h:SL H aP qs sp) {q:Addr} (aH:q ∈ qs):∃ xs,H q=some (.lst xs):=by
 obtain ⟨i,ai⟩:=oD aH;have GA:i < sp.length:=by rw [<- h.ak];exact (cg.mp ai).1
 exact ⟨_,h.al i q _ ai (b7 GA)⟩
theorem SL.snoc {H:ag} {aP p:Addr} {qs:List Addr} {sp:List ba} {s:ba} (h:SL H aP qs sp) (aq:H p=none):SL (upd (upd H p (.lst (n1 s))) aP (.lst (qs.map V.ref ++ [.ref p]))) aP (qs ++ [p]) (sp ++ [s]):=by
 have I0:p ≠ aP:=(cy h.ae aq).symm;have pg:p ∉ qs:=fun z=>by
  obtain ⟨xs,e⟩:=h.get z;rw [aq] at e;cases e
 refine ⟨by rw [aU,eM];rfl,by rw [dP,dP,h.ak];rfl,?_,?_,fun i q e a b=>?_⟩
 .refine afn.mpr ⟨h.aC,by simp,fun x av y bI e=>?_⟩;rw [jB.mp bI] at e;rw [e] at av;exact pg av
 .intro z;rcases jh.mp z with z | z
  .exact h.uU z
  .exact I0 (jB.mp z).symm
 .rcases iL a with ⟨ef,dy⟩ | ⟨ef,rfl⟩
  .rcases iL b with ⟨_,pL⟩ | ⟨m',_⟩
   .have k:=h.al i q e dy pL;rw [aW (fun z=>h.uU (by rw [<- z];exact c2 dy)),aW (cy k aq)];exact k
   .have:=h.ak;omega
  .rcases iL b with ⟨m',_⟩ | ⟨_,rfl⟩
   .have:=h.ak;omega
   .rw [aW I0,aU]
theorem SL.set {H:ag} {aP q:Addr} {qs:List Addr} {sp:List ba} {k:Nat} {s:ba} (h:SL H aP qs sp) (aH:qs[k]? = some q):SL (upd H q (.lst (n1 s))) aP qs (sp.set k s):=by
 have yi:aP ≠ q:=fun z=>h.uU (by rw [z];exact c2 aH)
 refine ⟨by rw [aW yi];exact h.ae,by rw [zO];exact h.ak,h.aC,h.uU,fun i r e a b=>?_⟩;by_cases c:i=k
 .subst c;rw [aH] at a;cases a;rw [oC (by rw [<- h.ak];exact (cg.mp aH).1)] at b;cases b;rw [aU]
 .rw [qZ (fun e=>c e.symm)] at b;have bR:r ≠ q:=fun e=>by
   subst e;obtain ⟨a1,iA⟩:=cg.mp a;obtain ⟨a2,gO⟩:=cg.mp aH;exact c ((FW h.aC).mp (iA.trans gO.symm))
  rw [aW bR];exact h.al i r e a b
theorem C1 (x:Str) (l r:List ba):b8 x (l ++ r)=b8 x l ++ b8 x r:=by
 unfold b8;rw [Nf,eM]
theorem OI {x:Str} {l:List ba} (h:∀ s ∈ l,s.name ≠ x):b8 x l=[]:=by
 unfold b8;rw [List.filter_eq_nil_iff.mpr fun s aw=>by simpa using h s aw];rfl
theorem Ic (x:Str) (sp:List ba):(b8 x sp).length=(sp.map (·.name)).count x:=by
 unfold b8;rw [a',List.count,List.countP_map,List.countP_eq_length_filter];congr 1
structure mh (z:Int) (ds:List aD) (sp:List ba):Prop where
 al:∀ s ∈ sp,s.name ∈ ds.map (·.name)/\0 <= s.b/\s.b < z/\1 <= s.n/\s.n <= z
 kE:∀ x,(b8 x sp).length <= 3
 ln:sp.length <= 10
structure zr (z:Int) (ds:List aD) (i:Nat) (sp:List ba):Prop where
 al:∀ s ∈ sp,s.name ∈ ds.map (·.name)/\0 <= s.b/\s.b < z/\1 <= s.n/\s.n <= z
 kE:∀ x,(b8 x sp).length <= 3
 no:∀ (j:Nat) (d:aD),i <= j->ds[j]? = some d->b8 d.name sp=[]
 ln:sp.length <= 2 * i
theorem zr.step {z:Int} {ds:List aD} {i:Nat} {sp e3:List ba} {d:aD} (aC:(ds.map (·.name)).Nodup) (h:zr z ds i sp) (hd:ds[i]? = some d) (aA:e3.length <= 2)
  (al:∀ s ∈ e3,s.name=d.name/\0 <= s.b/\s.b < z/\1 <= s.n/\s.n <= z):zr z ds (i + 1) (sp ++ e3):=by
 refine ⟨fun s aw=>?_,fun x=>?_,fun j e aZ he=>?_,by rw [dP];have:=h.ln;omega⟩
 .rcases jh.mp aw with aw | aw
  .exact h.al s aw
  .exact ⟨dX.mpr ⟨d,c2 hd,(al s aw).1.symm⟩,(al s aw).2⟩
 .rw [C1,dP];by_cases c:x=d.name
  .rw [c,h.no i d (b2 _) hd];have:=D1 d.name e3;show 0 + _ <= 3;omega
  .rw [OI (l:=e3) fun s aw z=>c (by rw [<- z,(al s aw).1])];exact h.kE x
 .rw [C1,h.no j e (by omega) he,OI fun s aw z=>?_]
  .rfl
  .rw [(al s aw).1] at z;have:=vi aC hd he z;omega
structure z6 (gs:List (List aD)) (z:Int) (sp:List ba):Prop where
 nm:sp.map (·.name)=gs.flatten.map (·.name)
 al:∀ s ∈ sp,0 <= s.b/\s.b < z/\1 <= s.n/\s.n <= 5
theorem z6.afq {n:Int} {ds:List aD} {z z':Int} {sp:List ba} (h:z6 (dW n ds) z sp) (aC:(ds.map (·.name)).Nodup) (aA:ds.length <= 5) (az:z <= z') (ahP:14 <= z'):mh z' ds sp/\sp.length=ds.length:=by
 have pm:(sp.map (·.name)).Perm (ds.map (·.name)):=by rw [h.nm];exact (tB n ds).map _
 have hlen:sp.length=ds.length:=by have:=pm.length_eq;rw [a',a'] at this;exact this
 refine ⟨⟨fun s aw=>⟨pm.mem_iff.mp (dX.mpr ⟨s,aw,rfl⟩),?_⟩,fun x=>?_,by omega⟩,hlen⟩
 .have:=h.al s aw;omega
 .rw [Ic,pm.count_eq];have:=List.nodup_iff_count.mp aC x;omega
theorem mh.set {z:Int} {ds:List aD} {sp:List ba} {k:Nat} {s s':ba} (h:mh z ds sp) (aE:sp[k]? = some s) (aF:s'.name=s.name) (ab:0 <= s'.b/\s'.b < z/\1 <= s'.n/\s'.n <= z):mh z ds (sp.set k s'):=by
 obtain ⟨ai,e⟩:=cg.mp aE;have J1:(sp.set k s').map (·.name)=sp.map (·.name):=by
  rw [SK,aF,<- e];apply List.ext_getElem?;intro j;rw [List.getElem?_set];by_cases c:k=j
  .subst c;rw [if_pos rfl,if_pos (by rw [a'];exact ai),eA,b7 ai];rfl
  .rw [if_neg c]
 refine ⟨fun x av=>?_,fun x=>?_,by rw [zO];exact h.ln⟩
 .rcases List.mem_or_eq_of_mem_set av with c | c
  .exact h.al x c
  .rw [c];exact ⟨by rw [aF];exact (h.al s (c2 aE)).1,ab⟩
 .rw [Ic,J1,<- Ic];exact h.kE x
theorem pW (d:aD):d_ (e_ d) 1=some (.str d.name):=cR (j:=1) rfl
theorem Fo (d:aD):d_ (e_ d) 6=some (.int d.least):=cR (j:=6) rfl
noncomputable def Rx (K:a6) (a:Addr) (ns:List Int):bo:=fun vs H Q _=>∃ (n:Int) (wl:Addr) (ds:List aD),vs=[.ref a,.int n,.ref wl]/\Sc K a ns H/\ic H wl ds/\kG n ds/\(1 <= ds.length/\ds.length <= 5) /\
 ∀ (cX aP:Addr) (qs:List Addr) (z:Nat) (sp:List ba) (I:ag),aI H I->Sc K a ns I->I cX=some (.tup [.int z,.ref aP])->SL I aP qs sp->mh z ds sp->(10 <= z/\z <= 80)->Q (.ref cX) I
theorem YA (a:Addr) (ns:List Int) (mG:ns.length <= 63):cq P base T 3 t.xB t.zJ Bx (Rx K a ns):=by
 refine dp (Eo T a ns mG) fun f5=>dp (abG T) fun Xc=>?_;exists T.EP.ok j3,9
 obtain ⟨n,wl,ds,rfl,S,L,D,gP,q⟩:=h;refine ⟨_,(db (bJ (i:=3) j3.aC (fH aB))
   (db (bJ (i:=4) j3.aC aR)
   (db (er fG rfl (fk (cb Xc au T.YB T.CN.bF T.Ua (af (U 1) (af (U 2) aB)))) (b' (i:=5) j3.aC) (db (bJ (i:=6) j3.aC (Db dj aR (cb f5 au T.gD T.fY.bF T.gw (af (U 0) (af (Db dj aR (U 4)) (af aR aB))))))
   (db (er fG rfl (fk (U 5)) (b' (i:=7) j3.aC) (aY (rc (iT lZ oA pS ot (U 3) (af (fH (af (bX dZ (U 7) aR) (af (U 4) (af (Db dj (bX dZ (U 7) aR) (cb f5 au T.gD T.fY.bF T.gw (af (U 0) (af (Db dj aR (fL ac rfl T.hH hT (af (U 3) aB))) (af (Db dj (Db gW (U 6) (bX dZ (U 7) aR)) aR) aB))))) aB)))) aB)))))
   (aY (bJ (i:=4) j3.aC (Db dj (Db dj (Db dj (U 4) (U 6)) aR) (cb f5 au T.gD T.fY.bF T.gw (af (U 0) (af (Db dj aR (U 4)) (af aR aB))))))))))
   (db (bJ (i:=4) j3.aC (fL (Hn rfl) rfl T.xD am (af (U 4) (af aR aB))))
   (db (dD (da hi (cb f5 au T.gD T.fY.bF T.gw (af (U 0) (af aR (af aR aB)))) aR (cT _)) (db (bJ (i:=8) j3.aC (cb f5 au T.gD T.fY.bF T.gw (af (U 0) (af aR (af (fL ac rfl T.hH hT (af (U 3) aB)) aB)))))
   (db (pj (Db h5 (Db dj (bX ew (bX ew (U 3) (U 8)) aR) (cb f5 au T.gD T.fY.bF T.gw (af (U 0) (af aR (af aR aB))))) (U 4)) (s9 (bX ew (U 3) (U 8)) aR td))
   (aY (pj (fL (T9 rfl) rfl T.QZ aaO (af (U 4) (af (Db dj (bX ew (bX ew (U 3) (U 8)) aR) (cb f5 au T.gD T.fY.bF T.gw (af (U 0) (af aR (af aR aB))))) aB))) (s9 (bX ew (U 3) (U 8)) aR td))))) dI)
   (db (dD (da hi (cb f5 au T.gD T.fY.bF T.gw (af (U 0) (af aR (af aR aB)))) aR (cT _)) (db (bJ (i:=4) j3.aC (Db dj aR (cb f5 au T.gD T.fY.bF T.gw (af (U 0) (af aR (af aR aB))))))
   (db (bJ (i:=3) j3.aC (fH aB))
   (aY (er fG rfl (kV rfl T.lf (af (fL ac rfl T.hH hT (af (U 2) aB)) aB)) (b' (i:=8) j3.aC) (aY (er fG rfl (kV rfl T.lf (af (Db dj aR (cb f5 au T.gD T.fY.bF T.gw (af (U 0) (af (Db dj aR (U 8)) (af aR aB))))) aB)) (b' (i:=9) j3.aC) (db (bJ (i:=10) j3.aC (Db dj aR (cb f5 au T.gD T.fY.bF T.gw (af (U 0) (af (Db dj (Db dj aR (Db qP aR (U 8))) (U 9)) (af aR aB))))))
   (aY (rc (iT lZ oA pS ot (U 3) (af (fH (af (bX dZ (bX ew (U 2) (U 8)) aR) (af (cb f5 au T.gD T.fY.bF T.gw (af (U 0) (af (Db dj (Db dj aR (Db qP aR (U 8))) (U 9)) (af (U 4) aB)))) (af (U 10) aB)))) aB))))))))))) dI)
   (aY (b1 (jy (af (U 4) (af (U 3) aB))))))))))),?_⟩
 have fQ:∀ k:Nat,k <= 1000->k < sizeLine:=fun k h=>j0 h (by decide)
 refine hj (fun aS I=>aI H I/\Sc K a ns I/\∃ aP,H aP=none/\I aP=some (.lst [])/\aS=[~~~a,some (.int n),~~~wl,~~~aP,none,none,none,none,none,none,none]) (fun D bj=>?_) fun gu a5=>?_
 .nofun;exact ⟨fv _,fun aP fU=>bj _ _ ⟨bk fU,S.new fU,aP,fU,aU,rfl⟩⟩
 rintro fJ H1 ⟨s1,kX,aP,fU,cZ,rfl⟩;subst a5;refine hj (fun aS I=>I=H1/\aS=[~~~a,some (.int n),~~~wl,~~~aP,some (.int 0),none,none,none,none,none,none]) (fun D bj=>?_) fun gu a5=>?_
 .nofun;exact bj _ _ ⟨rfl,rfl⟩
 rintro cW ay ⟨rfl,rfl⟩;have Xm:=NL n ds;have ac1:(dW n ds).flatten.length=ds.length:=(tB n ds).length_eq;have ahq:(dW n ds).length <= 5:=by have:=B5 Xm;omega
 subst a5;refine hj (fun aS I=>aI H I/\Sc K a ns I/\(∃ (z:Nat) (qs:List Addr) (sp:List ba),SL I aP qs sp/\(∀ q ∈ qs,H q=none)/\z6 (dW n ds) z sp/\z <= 80/\∃ dR dw cw,aS=[~~~a,some (.int n),~~~wl,~~~aP,some (.int z),dR,dw,cw,none,none,none])) (fun fD bj=>?_) fun gu a5=>?_
 .nofun;refine ⟨n,wl,ds,rfl,L.same s1,fun d hd=>(D.al d hd).1,by omega,kX.bh,fun gl Zd bA s3 d3 q8 G=>?_⟩;have nH:=kX.same s3 d3;refine ⟨gl,rfl,⟨_,aK.of G.ae⟩,?_⟩;refine du.list (xs:=Zd.map V.ref) (fun i σ I=>cc aP bA I/\aI H I/\Sc K a ns I/\(∃ (z:Nat) (qs:List Addr) (sp:List ba),SL I aP qs sp/\(∀ q ∈ qs,H q=none)/\z6 ((dW n ds).take i) z sp/\z <= 16 * i/\∃ dR dw cw,σ=[~~~a,some (.int n),~~~wl,~~~aP,some (.int z),dR,dw,cw,none,none,none])) ?_ ?_ ?_ ?_
  .exact ⟨fun b u _ e=>e,s1.trans s3,nH,0,[],[],⟨s3 _ _ cZ,rfl,Q0,jX,fun i q s h=>by simp at h⟩,fun q h=>(by cases h),⟨rfl,fun s h=>(by cases h)⟩,fv _,_,_,_,rfl⟩
  .rintro i σ I ai ⟨dU,_⟩;exact aK.of (G.i5 dU cZ q8 (s3 _ _ cZ)).ae
  .rintro i v σ I aM aX;ac_rfl
   obtain ⟨dU,a9,nY,z,qs,sp,my,Hd,sD,az,dR,dw,cw,rfl⟩:=aX;obtain ⟨gH,eT,rfl⟩:=cS aM;have QC:i < (dW n ds).length:=by rw [<- G.ak];exact (cg.mp eT).1
   have CJ:(dW n ds)[i]? = some (dW n ds)[i]:=b7 QC;obtain ⟨ws,v10,v2,v30⟩:=G.dh i gH _ eT CJ;have tL:(dW n ds)[i] ∈ dW n ds:=vC QC;have afk:∀ d ∈ (dW n ds)[i],d ∈ ds:=fun d hd=>(tB n ds).mem_iff.mp (U8.mpr ⟨_,tL,hd⟩)
   have aij:(dW n ds)[i].length <= 5:=by
    have ae:=(Z1 tL).length_le;omega
   have ah4:sp.length + (dW n ds)[i].length <= 5:=by
    have ae:=congrArg md sD.nm;rw [a',a'] at ae;have ak:(dW n ds).take (i + 1)=(dW n ds).take i ++ [(dW n ds)[i]]:=i1 CJ;have a_:((dW n ds).take (i + 1) ++ (dW n ds).drop (i + 1)).flatten.length=ds.length:=by rw [abC,ac1]
    rw [ak,Ni,dP,Ni,dP] at a_;simp only [rz,SI,oa] at a_;omega
   have yi:gH ≠ aP:=fun z'=>by
    have:=G.oR gH (c2 eT);rw [z',cZ] at this;cases this
   have v1:=dU _ _ yi v10;have keep:∀ {eK:ag},cc aP bA eK->∀ (k:Nat) (r:Addr) (d:aD),ws[k]? = some r->(dW n ds)[i][k]? = some d->eK r=some (.tup (e_ d)):=fun mX k r d x y=>mX _ _ (d0 (v30 k r d x y) (s3 _ _ cZ) (by intro z;cases z)) (v30 k r d x y)
   have cA:=hS ns (160 + (z:Int)) (m:=3) (by decide);have c':=hD ns (160 + (z:Int)) (m:=3) (by decide);have XS:=hS ns (190 + (z:Int)) (m:=9) (by decide);have agE:=hD ns (190 + (z:Int)) (m:=9) (by decide);subst a5;simp only [fO,eu,jv,je];exists (fun aS dq=>dq=I/\∃ len:Int,(3 <= len/\len <= 5)/\aS=[~~~a,some (.int n),~~~wl,~~~aP,some (.int z),~~~gH,some (.int len),cw,none,none,none]),0
   ·(nofun; repeat (dsimp only [gx];nofun));exact ⟨nY,by omega,by omega,by decide,bj _ _ ⟨rfl,_,by omega,rfl⟩⟩
   rintro EO dq ⟨rfl,len,hlen,rfl⟩;subst a5;simp only [eu];exists (fun aS eK=>cc aP bA eK/\aI H eK/\Sc K a ns eK/\∃ (qs:List Addr) (e3:List ba),SL eK aP qs (sp ++ e3)/\(∀ q ∈ qs,H q=none)/\e3.map (·.name)=(dW n ds)[i].map (·.name)/\(∀ s ∈ e3,s.b=z/\1 <= s.n/\s.n <= 5)/\∃ cw,aS=[~~~a,some (.int n),~~~wl,~~~aP,some (.int z),~~~gH,some (.int len),cw,none,none,none]),0
   .nofun;refine ⟨⟨_,aK.of v1⟩,?_⟩;refine du.list (xs:=ws.map V.ref) (fun j σ eK=>cc aP bA eK/\aI H eK/\Sc K a ns eK/\∃ (qs:List Addr) (e3:List ba),SL eK aP qs (sp ++ e3)/\(∀ q ∈ qs,H q=none)/\e3.map (·.name)=((dW n ds)[i].take j).map (·.name)/\(∀ s ∈ e3,s.b=z/\1 <= s.n/\s.n <= 5)/\∃ cw,σ=[~~~a,some (.int n),~~~wl,~~~aP,some (.int z),~~~gH,some (.int len),cw,none,none,none]) ?_ ?_ ?_ ?_
    .exact ⟨dU,a9,nY,qs,[],by rw [oa];exact my,Hd,rfl,fun s h=>(by cases h),_,rfl⟩
    .rintro j σ eK aZ ⟨mX,_⟩;exact aK.of (mX _ _ yi v10)
    .rintro j v σ eK aM aX;ac_rfl
     obtain ⟨mX,r_,k2,k4,e3,ij,vb,rm,u1,cw,rfl⟩:=aX;obtain ⟨rb,vy,rfl⟩:=cS aM;have CL:j < (dW n ds)[i].length:=by rw [<- v2];exact (cg.mp vy).1
     have k7:(dW n ds)[i][j]? = some (dW n ds)[i][j]:=b7 CL;have Lb:=D.al _ (afk _ (c2 k7));have TB:=Lb.1.le.1;have y4:eK rb=some (.tup (e_ (dW n ds)[i][j])):=keep mX j rb _ vy k7;have lT:k4.length=sp.length + j:=by
      rw [ij.ak,dP];have:=congrArg md rm;rw [a',a',gV] at this;omega
     subst a5;generalize (dW n ds)[i][j]=d at Lb TB y4 k7;have ax:=hS ns (170 + (k4.length:Int)) (m:=len - d.least + 1) (by omega);have aG:=hD ns (170 + (k4.length:Int)) (m:=len - d.least + 1) (by omega);simp only [fO,jv,je];(nofun; repeat (dsimp only [gx];nofun));refine ⟨.inl ⟨_,aK.of ij.ae⟩,_,bS.of y4,_,pW _,_,bS.of y4,_,Fo _,_,.inl (aK.of ij.ae),?_⟩;rw [a'];refine ⟨_,bS.of y4,_,Fo _,_,rfl,k2,by omega,by omega,by omega,_,rfl,by decide,fun p aq=>?_⟩;have uC:aP ≠ p:=cy ij.ae aq;have Ln:=ij.snoc (s:=⟨d.name,z,d.least + cp ns (170 + (k4.length:Int)) (len - d.least + 1)⟩) aq;rw [oI] at Ln;refine ⟨_,by rw [aW uC];exact ij.ae,fQ _ (by rw [a'];omega),fun b u ab e=>?_,(r_.trans (bk aq)).g9 fU,(k2.new aq).set (by rw [aW uC];exact ij.ae) (fun cu z e=>by cases e),_,_,Ln,fun r au=>?_,?_,fun s aw=>?_,_,rfl⟩
     .rw [aW ab];exact (bk aq) _ _ (mX b u ab e)
     .rcases jh.mp au with h | h
      .exact vb r h
      .rw [jB.mp h];exact r_.free aq
     .rw [i1 k7,eM,eM,rm];rfl
     .rcases jh.mp aw with h | h
      .exact u1 s h
      .rw [jB.mp h];refine ⟨rfl,?_⟩;show 1 <= d.least + cp ns (170 + (k4.length:Int)) (len - d.least + 1)/\d.least + cp ns (170 + (k4.length:Int)) (len - d.least + 1) <= 5;omega
    .rintro σ eK aX;ac_rfl
     obtain ⟨mX,r_,k2,k4,e3,ij,vb,rm,u1,cw,rfl⟩:=aX;subst a5;rw [a',v2,kH] at rm;exact bj _ _ ⟨mX,r_,k2,k4,e3,ij,vb,rm,u1,_,rfl⟩
   rintro mN eK ⟨mX,r_,k2,k4,e3,ij,vb,rm,u1,cw,rfl⟩;obtain ⟨z',fK⟩:∃ z':Nat,(z:Int) + len + 3 + cp ns (190 + (z:Int)) 9=(z':Nat):=⟨((z:Int) + len + 3 + cp ns (190 + (z:Int)) 9).toNat,by omega⟩;subst a5;(nofun; repeat (dsimp only [gx];nofun));rw [fK];refine ⟨k2,by omega,by omega,by decide,mX,r_,k2,z',k4,sp ++ e3,ij,vb,⟨?_,fun s aw=>?_⟩,by omega,rfl,_,rfl⟩
   .rw [i1 CJ,eM,sD.nm,rm,Ni,eM];simp only [rz,SI,oa]
   .rcases jh.mp aw with h | h
    .have:=sD.al s h;omega
    .have:=u1 s h;omega
  .rintro σ I aX;ac_rfl
   obtain ⟨_,a9,nY,z,qs,sp,my,Hd,sD,az,dR,dw,cw,rfl⟩:=aX;subst a5;rw [a',G.ak,kH] at sD;rw [a',G.ak] at az;exact bj _ _ ⟨a9,nY,z,qs,sp,my,Hd,sD,by omega,dR,dw,cw,rfl⟩
 rintro j5 bA ⟨s3,nH,gC,qs,sp,iQ,Qy,Tt,ag8,dR,dw,cw,rfl⟩;subst a5;refine hj (fun aS I=>I=bA/\∃ z:Nat,(14 <= z/\z <= 80)/\gC <= z/\aS=[~~~a,some (.int n),~~~wl,~~~aP,some (.int z),dR,dw,cw,none,none,none]) (fun D bj=>?_) fun gu a5=>?_
 .nofun;by_cases c:gC < 14
  .rw [if_pos (by omega)];exact bj _ _ ⟨rfl,14,by omega,by omega,rfl⟩
  .rw [if_neg (by omega)];exact bj _ _ ⟨rfl,gC,by omega,b2 _,rfl⟩
 rintro Dn bY ⟨rfl,z,az,pD,rfl⟩;obtain ⟨gQ,hlen⟩:=Tt.afq (z':=(z:Int)) D.aC gP.2 (by omega) (by omega);subst a5;refine hj (fun aS I=>aI H I/\Sc K a ns I/\(∃ sp:List ba,SL I aP qs sp/\mh z ds sp)/\∃ jJ,aS=[~~~a,some (.int n),~~~wl,~~~aP,some (.int z),dR,dw,cw,jJ,none,none]) (fun fD bj=>?_) fun gu a5=>?_
 .refine ec (decide (cp ns 5 2=1)) (fun Q a8=>?_) (fun ar=>?_) (fun ar=>?_)
  ·(nofun; repeat (dsimp only [gx];nofun));exact ⟨nH,by omega,by omega,by decide,a8⟩
  .have lT:qs.length=ds.length:=by rw [iQ.ak,hlen]
   have ax:=hS ns 6 (m:=(qs.length:Int)) (by omega);have aG:=hD ns 6 (m:=(qs.length:Int)) (by omega);obtain ⟨k,aE⟩:∃ k:Nat,cp ns 6 (qs.length:Int)=(k:Nat):=⟨(cp ns 6 (qs.length:Int)).toNat,by omega⟩;have Cm:k < qs.length:=by omega
   have mD:qs[k]? = some qs[k]:=b7 Cm;have xF:sp[k]? = some sp[k]:=b7 (by rw [<- iQ.ak];exact Cm);simp only [eu];exists (fun aS I=>I=bY/\aS=[~~~a,some (.int n),~~~wl,~~~aP,some (.int z),dR,dw,cw,some (.int (k:Nat)),none,none]),1
   ·(nofun; repeat (dsimp only [gx];nofun));refine ⟨_,.inl (aK.of iQ.ae),?_⟩;rw [a',aE];exact ⟨nH,by decide,by decide,by omega,bj _ _ ⟨rfl,rfl⟩⟩
   rintro EO dq ⟨rfl,rfl⟩;have yd:d_ (qs.map V.ref) (k:Int)=some (.ref qs[k]):=cR (by rw [eA,mD];rfl);have o1:=iQ.al k _ _ mD xF;subst a5;generalize sp[k]=s at xF o1;have ab:=gQ.al s (c2 xF);simp only [eu];exists (fun aS I=>aI H I/\Sc K a ns I/\(∃ s':ba,s'.name=s.name/\s'.n=s.n/\(0 <= s'.b/\s'.b < z)/\SL I aP qs (sp.set k s'))/\aS=[~~~a,some (.int n),~~~wl,~~~aP,some (.int z),dR,dw,cw,some (.int (k:Nat)),none,none]),1
   ·(nofun; repeat (dsimp only [gx];nofun));have iA:d_ (n1 s) 1=some (.int s.b):=cR (j:=1) rfl;refine ⟨_,aK.of iQ.ae,_,yd,_,rfl,_,aK.of o1,_,iA,nH,by decide,by decide,by decide,_,rfl,by omega,_,aK.of iQ.ae,_,yd,_,rfl,_,o1,1,rfl,bj _ _ ⟨s3.g9 (Qy _ (c2 mD)),nH.set o1 (fun cu z e=>by cases e),⟨⟨s.name,(s.b + cp ns 7 4) % (z:Int),s.n⟩,rfl,rfl,⟨e' _ (by omega),ff _ (by omega)⟩,iQ.set (s:=⟨s.name,(s.b + cp ns 7 4) % (z:Int),s.n⟩) mD⟩,rfl⟩⟩
   rintro mN eK ⟨hL,k2,⟨s',c4,cP,d3,ij⟩,rfl⟩;have Pe:(sp.set k s')[k]? = some s':=oC (by rw [<- iQ.ak];exact Cm);have B4:=ij.al k _ _ mD Pe;have nM:=hS ns 8 (m:=3) (by decide);have kA:=hD ns 8 (m:=3) (by decide);subst a5;(nofun; repeat (dsimp only [gx];nofun));have gO:d_ (n1 s') 2=some (.int s'.n):=cR (j:=2) rfl;refine ⟨_,aK.of ij.ae,_,yd,_,rfl,_,aK.of B4,_,gO,k2,by decide,by decide,by decide,_,rfl,_,aK.of ij.ae,_,yd,_,rfl,_,B4,2,rfl,bj _ _ ⟨hL.g9 (Qy _ (c2 mD)),k2.set B4 (fun cu z e=>by cases e),⟨(sp.set k s').set k ⟨s'.name,s'.b,if s'.n + cp ns 8 3 < (z:Int) then s'.n + cp ns 8 3 else (z:Int)⟩,ij.set (s:=⟨s'.name,s'.b,if s'.n + cp ns 8 3 < (z:Int) then s'.n + cp ns 8 3 else (z:Int)⟩) mD,?_⟩,_,rfl⟩⟩;have W3:=gQ.set xF c4 (s':=s') (by omega);refine W3.set Pe rfl ⟨d3.1,d3.2,?_⟩;show 1 <= (if s'.n + cp ns 8 3 < (z:Int) then s'.n + cp ns 8 3 else (z:Int))/\(if s'.n + cp ns 8 3 < (z:Int) then s'.n + cp ns 8 3 else (z:Int)) <= z;split <;> omega
  .nofun;exact bj _ _ ⟨s3,nH,⟨sp,iQ,gQ⟩,_,rfl⟩
 rintro EO dq ⟨s5,kM,⟨Yx,Df,aaX⟩,jJ,rfl⟩;subst a5;refine hj (fun aS I=>aI H I/\Sc K a ns I/\(∃ (aP:Addr) (qs:List Addr) (z:Nat) (sp:List ba),SL I aP qs sp/\mh z ds sp/\(10 <= z/\z <= 80)/\∃ jJ jf iZ,aS=[~~~a,some (.int n),~~~wl,~~~aP,some (.int z),dR,dw,cw,jJ,jf,iZ])) (fun fD bj=>?_) fun gu a5=>?_
 .refine ec (decide (cp ns 9 2=1)) (fun Q a8=>?_) (fun ar=>?_) (fun ar=>?_)
  ·(nofun; repeat (dsimp only [gx];nofun));exact ⟨kM,by omega,by omega,by decide,a8⟩
  .have ax:=hS ns 10 (m:=31) (by decide);have aG:=hD ns 10 (m:=31) (by decide);obtain ⟨y,bI⟩:∃ y:Nat,10 + cp ns 10 31=(y:Nat):=⟨(10 + cp ns 10 31).toNat,by omega⟩;simp only [eu];exists (fun aS I=>I=dq/\aS=[~~~a,some (.int n),~~~wl,~~~aP,some (.int y),dR,dw,cw,jJ,none,none]),1
   ·(nofun; repeat (dsimp only [gx];nofun));rw [bI];exact ⟨kM,by decide,by decide,by decide,bj _ _ ⟨rfl,rfl⟩⟩
   rintro mN eK ⟨rfl,rfl⟩;subst a5;simp only [eu];exists (fun aS I=>aI H I/\Sc K a ns I/\∃ aP,H aP=none/\I aP=some (.lst [])/\aS=[~~~a,some (.int n),~~~wl,~~~aP,some (.int y),dR,dw,cw,jJ,none,none]),1
   .nofun;exact ⟨fv _,fun aP fU=>bj _ _ ⟨s5.trans (bk fU),kM.new fU,aP,s5.free fU,aU,rfl⟩⟩
   rintro lp hv ⟨mr,R4,aP,fU,Dd,rfl⟩;obtain ⟨ws,cz,fh,si⟩:=id L;subst a5;nofun;refine ⟨_,.inl (aK.of (mr _ _ cz)),?_⟩;rw [a',fh];refine ⟨by omega,by omega,?_⟩;rw [AY];refine du.range (fun i σ I=>aI H I/\Sc K a ns I/\(∃ (qs:List Addr) (sp:List ba),SL I aP qs sp/\zr y ds i sp)/\∃ jJ jf iZ,σ=[~~~a,some (.int n),~~~wl,~~~aP,some (.int y),dR,dw,cw,jJ,jf,iZ]) ?_ ?_ ?_
   .exact ⟨mr,R4,⟨[],[],⟨Dd,rfl,Q0,jX,fun i q s h=>by simp at h⟩,⟨fun s h=>(by cases h),fun x=>(by show 0 <= 3;decide),fun j d _ _=>rfl,by show 0 <= 2 * 0;decide⟩⟩,_,_,_,rfl⟩
   .rintro i σ I ai aX;ac_rfl
    obtain ⟨a9,nT,⟨EB,DX,ve,s8⟩,jJ,jf,iZ,rfl⟩:=aX;have hV:ds[i]? = some ds[i]:=b7 ai;have eT:ws[i]? = some ws[i]:=b7 (by omega);have th:=si i _ _ eT hV;have vr:d_ (ws.map V.ref) (i:Int)=some (.ref ws[i]):=cR (by rw [eA,eT];rfl);have f1:=hS ns (210 + (i:Int)) (m:=2) (by decide);have f2:=hD ns (210 + (i:Int)) (m:=2) (by decide);subst a5;simp only [fO,jv,je,AN];(nofun; repeat (dsimp only [gx];nofun));refine ⟨nT,by omega,by omega,by decide,by omega,by omega,?_⟩;generalize hm:(1 + cp ns (210 + (i:Int)) 2).toNat=m;refine du.range (fun j σ lg=>aI H lg/\Sc K a ns lg/\(∃ (qs:List Addr) (e3:List ba),SL lg aP qs (DX ++ e3)/\e3.length=j/\∀ s ∈ e3,s.name=ds[i].name/\0 <= s.b/\s.b < y/\1 <= s.n/\s.n <= y)/\∃ jf iZ,σ=[~~~a,some (.int n),~~~wl,~~~aP,some (.int y),dR,dw,cw,some (.int (i:Nat)),jf,iZ]) ?_ ?_ ?_
    .exact ⟨a9,nT,⟨EB,[],by rw [oa];exact ve,rfl,fun s h=>(by cases h)⟩,_,_,rfl⟩
    .rintro j σ lg aZ aX;ac_rfl
     obtain ⟨wG,uK,⟨K3,e3,oY,O',Hp⟩,jf,iZ,rfl⟩:=aX;have g1:=hS ns (240 + 2 * (i:Int) + (j:Int)) (m:=5) (by decide);have g2:=hD ns (240 + 2 * (i:Int) + (j:Int)) (m:=5) (by decide);have g3:=hS ns (220 + 2 * (i:Int) + (j:Int)) (m:=(y:Int)) (by omega);have rp:=hD ns (220 + 2 * (i:Int) + (j:Int)) (m:=(y:Int)) (by omega);subst a5;simp only [fO,eu,jv,je,AN];exists (fun aS hx=>hx=lg/\aS=[~~~a,some (.int n),~~~wl,~~~aP,some (.int y),dR,dw,cw,some (.int (i:Nat)),some (.int (j:Nat)),some (.int (1 + cp ns (240 + 2 * (i:Int) + (j:Int)) 5))]),1
     ·(nofun; repeat (dsimp only [gx];nofun));exact ⟨by unfold mT;omega,uK,by omega,by omega,by decide,bj _ _ ⟨rfl,rfl⟩⟩
     rintro Z8 ks ⟨rfl,rfl⟩;subst a5;(nofun; repeat (dsimp only [gx];nofun));refine ⟨.inl ⟨_,aK.of oY.ae⟩,_,aK.of (wG _ _ cz),_,vr,_,rfl,_,bS.of (wG _ _ th),_,pW _,by unfold mT;omega,uK,by omega,by omega,by omega,by decide,fun p aq=>?_⟩;have uC:aP ≠ p:=cy oY.ae aq;have Hy:K3.length <= 12:=by rw [oY.ak,dP];have:=s8.ln;omega
     have IF:=oY.snoc (s:=⟨ds[i].name,cp ns (220 + 2 * (i:Int) + (j:Int)) y,1 + cp ns (240 + 2 * (i:Int) + (j:Int)) 5⟩) aq;rw [oI] at IF;refine ⟨_,by rw [aW uC];exact oY.ae,fQ _ (by rw [a'];omega),(wG.trans (bk aq)).g9 fU,(uK.new aq).set (by rw [aW uC];exact oY.ae) (fun cu z e=>by cases e),⟨_,_,IF,by rw [dP,O'];rfl,fun s aw=>?_⟩,_,rfl⟩;rcases jh.mp aw with h | h
     .exact Hp s h
     .rw [jB.mp h];refine ⟨rfl,g3,rp,?_⟩;show 1 <= 1 + cp ns (240 + 2 * (i:Int) + (j:Int)) 5/\1 + cp ns (240 + 2 * (i:Int) + (j:Int)) 5 <= (y:Int);omega
    .rintro σ lg aX;ac_rfl
     obtain ⟨wG,uK,⟨K3,e3,oY,O',Hp⟩,jf,iZ,rfl⟩:=aX;subst a5;exact ⟨wG,uK,⟨_,_,oY,s8.step D.aC hV (by omega) Hp⟩,_,_,_,rfl⟩
   .rintro σ I aX;ac_rfl
    obtain ⟨a9,nT,⟨EB,DX,ve,s8⟩,jJ,jf,iZ,rfl⟩:=aX;subst a5;exact bj _ _ ⟨a9,nT,aP,EB,y,DX,ve,⟨s8.al,s8.kE,by have:=s8.ln;omega⟩,by omega,_,_,_,rfl⟩
  .nofun;exact bj _ _ ⟨s5,kM,aP,qs,z,Yx,Df,aaX,by omega,_,_,_,rfl⟩
 rintro mN eK ⟨hL,k2,aff,k4,M9,Xh,ij,adk,CS,jJ,jf,iZ,rfl⟩;subst a5;nofun;refine ⟨by decide,fun cX h7=>?_⟩;exact q cX aff k4 M9 Xh _ (hL.trans (bk h7)) (k2.new h7) aU (ij.same (bk h7)) adk CS
unseal L2.dr L2.br L2.gc L2.gL L2.hJ L2.fu
structure vp (n:Int) (z:Nat) (ds:List aD) (sp:List ba):Prop where
 q0:0 < n
 YU:pv ds
 XA:∀ d ∈ ds,d.name ≠ ah ""
 ef:1 <= z/\z <= 240
 MO:xr z ds sp
 aP:sp.length <= 12
 Ip:∀ s ∈ sp,jT s.name
noncomputable def nG (t:bC):List Addr:=[t.ep,t.el,t.d7]
noncomputable def JP (t:bC):bo:=fun vs H Q _=>∃ (c:Addr) (n:Int) (ds:List aD) (z:Nat) (sp:List ba),vs=[.ref c,.str (gq z sp)]/\ad t H c n ds/\vp n z ds sp/\aV H /\
 (∀ cX I,aI H I->aV I->I cX=some (.tup [.int 2,.bH])->Q (.ref cX) I)/\(∀ cX pl I,jU ds sp=none->lh ds z sp=none->lx n z sp ds=none->aI H I->aV I->la t I pl c n ds z sp->I cX=some (.tup [.int 1,.ref pl])->Q (.ref cX) I)
theorem qN {n:Int} {z:Nat} {ds:List aD} {sp:List ba} (A:vp n z ds sp):∀ r ∈ jA z sp,r ≠ []/\r.length <= 9/\∀ x ∈ r,Fc x:=fun r au=>by
 have c:∀ y ∈ [S "round",S "free"],jT y:=by unfold jT;ac_nf
 have az:=A.ef;rcases dQ.mp au with e | e
 .subst e;refine ⟨by simp,by show 2 <= 9;decide,fun x av=>?_⟩;have:x=S "round" \/ x=num z:=by simpa using av
  rcases this with rfl | rfl
  .exact (c _ (by simp)).b
  .exact (g0 (by omega) (by omega)).b
 .obtain ⟨d,hd,rfl⟩:=dX.mp e;refine ⟨by unfold jo;simp,by show 4 <= 9;decide,fun x av=>?_⟩;obtain ⟨i,ai⟩:=oD hd;have g:=A.MO i d ai;have:x=S "free" \/ x=d.name\/x=num d.b\/x=num d.n:=by simpa [jo] using av
  rcases this with rfl | rfl | rfl | rfl
  .exact (c _ (by simp)).b
  .exact (A.Ip d hd).b
  .exact (g0 (by omega) (by omega)).b
  .exact (g0 (by omega) (by omega)).b
theorem SC {n:Int} {z:Nat} {ds:List aD} {sp:List ba} (A:vp n z ds sp):jc (gq z sp)=[S "round",num z] :: sp.map jo:=by
 unfold gq;exact abX (by unfold jA;simp) (fun r au=>(qN A r au).1) (fun r au=>(qN A r au).2.2)
theorem aeS {n:Int} {z:Nat} {ds:List aD} {sp:List ba} (A:vp n z ds sp):(gq z sp).length <= 20000:=by
 have H4:∀ y ∈ (jA z sp).map (eG cO),y.length <= 200:=fun y bI=>by
  obtain ⟨r,au,rfl⟩:=dX.mp bI;have ae:=nP cO 20 r fun x av=>((qN A r au).2.2 x av).1
  rw [p4] at ae;have:=(qN A r au).2.1;omega
 have:=nP nl 200 _ H4;rw [tc,a'] at this;have aA:(jA z sp).length <= 13:=by
  unfold jA;rw [hb,a'];have:=A.aP;omega
 unfold gq;omega
theorem UU (T:Txt w K ao t):rZ K (.ref t.ep) ((nG t).map dk)=some true:=by
 unfold nG;simp only [eJ,i_,rZ,T.XC]
theorem U3 (T:Txt w K ao t):rZ K (.ref t.el) ((nG t).map dk)=some true:=by
 unfold nG;simp only [eJ,i_,rZ,T.acK,T.W5]
theorem aa' (T:Txt w K ao t):rZ K (.ref t.d7) ((nG t).map dk)=some true:=by
 unfold nG;simp only [eJ,i_,rZ,T.abz,T.ZJ,T.So]
theorem abu:cq P base T 9 t.BI t.zo zX (JP t):=by
 have ZN:bg P w K ao base (di P w) 8 t.BM t.zj AH (Ml t):=ac3 T;exists T.Tm.ok uf,9
 obtain ⟨c,n,ds,z,sp,rfl,C,l5,bh,b4,bw⟩:=h;refine ⟨_,(db (bJ (i:=2) uf.aC (jy (af aR (af r' aB))))
   (db (Sk (i:=3) (fun _ _=>⟨_,(aY (bJ (i:=2) uf.aC (jy (af aR (af (VM ZN au rfl T.RU T.E_.bF T.Xa .nil V9 (af (U 0) (af (U 1) aB))) aB))))),by first | rfl | (dsimp only [aL.hU,aL.aF];done) | (dsimp only [aL.hU,aL.aF];exact rfl)⟩) rfl T.sh (fun _=>⟨_,(aY (dD (iW (fL adf rfl T.abZ Ze (af (U 3) (af (jy (af (jE (v:=.ref t.ep) rfl T.Ro rfl) (af (jE (v:=.ref t.el) rfl T.P2 rfl) (af (jE (v:=.ref t.d7) rfl T.Iv rfl) aB)))) aB)))) (aY (bJ (i:=2) uf.aC (jy (af aR (af r' aB))))) dI)),by first | rfl | (dsimp only [aL.hU,aL.aF];done) | (dsimp only [aL.hU,aL.aF];exact rfl)⟩) uf.aC rfl rfl)
   (aY (b1 (U 2))))),?_⟩
 nofun;refine ⟨by decide,fun eh iz=>?_⟩;have s0:aI H (upd H eh (.tup [.int 0,.bH])):=bk iz;have q0:aV (upd H eh (.tup [.int 0,.bH])):=bh.upd;generalize upd H eh (.tup [.int 0,.bH])=H1 at s0 q0 ⊢;have adW:=Z2 (z:=(z:Int)) (by have:=l5.ef;omega) l5.MO;refine ⟨c,n,ds,_,_,_,rfl,C.same s0,l5.q0,l5.YU,l5.XA,SC l5,aeS l5,by rw [a'];have:=l5.aP;omega,fun r au=>⟨(qN l5 r au).1,c1 (qN l5 r au).2.1 (by decide),fun y bI=>c1 ((qN l5 r au).2.2 y bI).1 (by decide)⟩,q0,?_⟩;rw [adW];unfold B1;dsimp only;rw [AY];refine ⟨fun bb ej ar a bA s3 d3 dr=>?_,fun x av=>?_,fun e bb ej=>?_,fun e bb ej cm=>?_⟩
 .refine ⟨by decide,fun cX h7=>bw cX a _ bb ej ar ((s0.trans s3).trans (bk h7)) d3.upd (dr.same (bk h7)) aU⟩
 .intro aj bA s3 d3 hd;have tE:=d3 q0;nofun;refine ⟨_,rfl,T.mo,fun ex hex=>?_⟩;nofun;refine wf (fun b bY=>b=true/\aI bA bY/\aV bY) (fun Q a8=>?_) (fun bY r=>?_) (fun bY r=>?_)
  .nofun;exact ⟨by decide,fun p aq=>⟨_,_,(bk aq) _ _ hex,_,(bk aq) _ _ hd,T.ab1,nG t,aU,_,UU T,a8 _ _ ⟨rfl,bk aq,tE.upd⟩⟩⟩
  .obtain ⟨_,s4,gj⟩:=r;nofun;exact ⟨by decide,fun cX h7=>b4 cX _ (((s0.trans s3).trans s4).trans (bk h7)) gj.upd aU⟩
  .cases r.1
 .intro aj bA s3 d3 hd;have tE:=d3 q0;nofun;refine ⟨_,rfl,T.aeY,fun ex hex=>?_⟩;nofun;refine wf (fun b bY=>b=true/\aI bA bY/\aV bY) (fun Q a8=>?_) (fun bY r=>?_) (fun bY r=>?_)
  .nofun;exact ⟨by decide,fun p aq=>⟨_,_,(bk aq) _ _ hex,_,(bk aq) _ _ hd,T.UC,nG t,aU,_,U3 T,a8 _ _ ⟨rfl,bk aq,tE.upd⟩⟩⟩
  .obtain ⟨_,s4,gj⟩:=r;nofun;exact ⟨by decide,fun cX h7=>b4 cX _ (((s0.trans s3).trans s4).trans (bk h7)) gj.upd aU⟩
  .cases r.1
 .intro aj bA s3 d3 hd;have tE:=d3 q0;nofun;refine ⟨_,rfl,T.T2,fun ex hex=>?_⟩;nofun;refine wf (fun b bY=>b=true/\aI bA bY/\aV bY) (fun Q a8=>?_) (fun bY r=>?_) (fun bY r=>?_)
  .nofun;exact ⟨by decide,fun p aq=>⟨_,_,(bk aq) _ _ hex,_,(bk aq) _ _ hd,T.Wd,nG t,aU,_,aa' T,a8 _ _ ⟨rfl,bk aq,tE.upd⟩⟩⟩
  .obtain ⟨_,s4,gj⟩:=r;nofun;exact ⟨by decide,fun cX h7=>b4 cX _ (((s0.trans s3).trans s4).trans (bk h7)) gj.upd aU⟩
  .cases r.1
structure v_ (z:Nat) (sp:List ba) (ds:List aD) (bV:Int) (H:ag) (cY:Addr) (rs:List Addr) (m:Nat):Prop where
 ae:H cY=some (.lst (rs.map V.ref))
 ak:rs.length=m
 al:∀ (i:Nat) (r:Addr),rs[i]? = some r->H r=some (.cE (i8 ds fun d=>bx (fl z sp d (bV + (i:Nat)))))
theorem v_.same {z:Nat} {sp:List ba} {ds:List aD} {bV:Int} {H I:ag} {cY:Addr} {rs:List Addr} {m:Nat} (h:v_ z sp ds bV H cY rs m) (s:aI H I):v_ z sp ds bV I cY rs m:=⟨s _ _ h.ae,h.ak,fun i r e=>s _ _ (h.al i r e)⟩
theorem HL {H:ag} {r:Addr} {ds:List aD} {f:aD->Str} (aC:(ds.map (·.name)).Nodup) (au:H r=some (.cE (i8 ds f))) {i:Nat} {d:aD} (hd:ds[i]? = some d):gm H r (.str d.name) (some (.str (f d))):=by
 have:=gm.k (k:=bN d.name) au;rw [acm aC hd] at this;exact this
theorem GZ {c:Nat} (ar:c < 4):decide (V.str (bx c)=V.str (ah "free"))=decide (c=2):=decide_eq_decide.mpr ⟨fun e=>AG ar (by decide) (show bx c=bx 2 from V.str.inj e),fun e=>by rw [e];rfl⟩
theorem Ka (z:Nat) (sp:List ba) (d:aD) (u:Int):fl z sp d u < 4:=It ..
theorem Zg (d:aD):d_ (e_ d) 5=some (.int d.near):=cR (j:=5) rfl
noncomputable def Mr (n:Int) (z:Nat) (sp:List ba) (ds:List aD):Prop:=∀ d ∈ ds,∀ e ∈ ds,d.name ≠ e.name->mt n d e=true->∀ (u:Int) (j:Nat),(j:Int) <= gy d e->fl z sp e u=2->fl z sp d (u - j) ≠ 2
noncomputable def N_ (K:a6):bo:=fun vs H Q _=>∃ (n:Int) (wl:Addr) (ds:List aD) (cY:Addr) (rs:List Addr) (z:Nat) (sp:List ba) (bV:Int) (m:Nat),vs=[.int n,.ref wl,.ref cY]/\ic H wl ds/\kG n ds/\0 < n/\v_ z sp ds bV H cY rs m/\Mr n z sp ds/\m <= 1000/\aV H/\∀ I,aI H I->aV I->Q (.bq true) I
theorem Vv:cq P base T 2 t.zz t.z_ xW (N_ K):=by
 refine dp (Po T) fun H2=>?_;exists T.HI.ok sf,9
 obtain ⟨n,wl,ds,cY,rs,z,sp,bV,m,rfl,⟨ws,cz,fh,si⟩,D,Zk,R,F2,hm,bh,q⟩:=h;have bQ:=lV au;refine ⟨_,(db (er fG rfl (fk (U 1)) (b' (i:=3) sf.aC) (aY (er fG rfl (fk (U 1)) (b' (i:=4) sf.aC) (aY (dD (fu.pt (p8 (da mj (bX dZ (U 3) aR) (bX dZ (U 4) aR) (cT _)) (ri (iW (cb H2 au T.KA T.zC.bF T.PQ (af (U 0) (af (U 3) (af (U 4) aB)))))))) (db (bJ (i:=5) sf.aC (fL (Hn rfl) rfl T.xD am (af aR (af (Db gW (bX dZ (U 3) aR) (bX dZ (U 4) aR)) aB))))
   (aY (er fG rfl (JD rfl T.lf (af (U 5) (af (fL ac rfl T.hH hT (af (U 2) aB)) aB))) (b' (i:=6) sf.aC) (aY (dD (da hi (kN bQ (bX ew (U 2) (U 6)) (bX dZ (U 4) aR) (fun _ _=>rfl)) cC (cT _)) (aY (er fG rfl (kV rfl T.lf (af (Db dj (U 5) aR) aB)) (b' (i:=7) sf.aC) (aY (dD (da hi (kN bQ (bX ew (U 2) (Db gW (U 6) (U 7))) (bX dZ (U 3) aR) (fun _ _=>rfl)) cC (cT _)) (aY (b1 hI)) dI)))) dI))))) dI)))))
   (aY (b1 hI))),?_⟩
 nofun;refine ⟨⟨_,aK.of cz⟩,?_⟩;refine du.list (xs:=ws.map V.ref) (fun i σ I=>aI H I/\aV I/\∃ ee ip dR dw cw,σ=[some (.int n),~~~wl,~~~cY,ee,ip,dR,dw,cw]) ?_ ?_ ?_ ?_
 .exact ⟨aI.refl _,bh,_,_,_,_,_,rfl⟩
 .rintro i σ I ai ⟨a9,_⟩;exact aK.of (a9 _ _ cz)
 .rintro i v σ I aM aX;ac_rfl
  obtain ⟨a9,ed,ee,ip,dR,dw,cw,rfl⟩:=aX;obtain ⟨de,pG,rfl⟩:=cS aM;have hl:i < ds.length:=by rw [<- fh];exact (cg.mp pG).1
  have hV:ds[i]? = some ds[i]:=b7 hl;have ax:=si i _ _ pG hV;have n6:=c2 hV;subst a5;generalize ds[i]=d at hV ax n6;have od:=(D.al d n6).1;simp only [fO,jv,je];nofun;refine ⟨⟨_,aK.of (a9 _ _ cz)⟩,?_⟩;refine du.list (xs:=ws.map V.ref) (fun j σ I=>aI H I/\aV I/\∃ ip dR dw cw,σ=[some (.int n),~~~wl,~~~cY,~~~de,ip,dR,dw,cw]) ?_ ?_ ?_ ?_
  .exact ⟨a9,ed,_,_,_,_,rfl⟩
  .rintro i σ I ai ⟨a9,_⟩;exact aK.of (a9 _ _ cz)
  .rintro j v σ ay aM aX;ac_rfl
   obtain ⟨fa,fb,ip,dR,dw,cw,rfl⟩:=aX;obtain ⟨rb,vy,rfl⟩:=cS aM;have ZW:j < ds.length:=by rw [<- fh];exact (cg.mp vy).1
   have k7:ds[j]? = some ds[j]:=b7 ZW;have aG:=si j _ _ vy k7;have EM:=c2 k7;subst a5;generalize ds[j]=e at k7 aG EM;have Rn:=(D.al e EM).1;simp only [fO,jv,je];refine wf (fun b bA=>b=(decide (d.name ≠ e.name) && mt n d e)/\aI ay bA/\aV bA) (fun Q a8=>?_) (fun bA r=>?_) (fun bA r=>?_)
   .nofun;refine ⟨_,bS.of (fa _ _ ax),_,pW _,_,bS.of (fa _ _ aG),_,pW _,rfl,?_⟩;by_cases c:d.name=e.name
    .rw [if_neg (by rw [c];simp)];exact a8 _ _ ⟨by rw [decide_eq_false (fun z=>z c)];rfl,aI.refl _,fb⟩
    .rw [if_pos (by simpa using c)];exact ⟨n,de,rb,d,e,rfl,bS.of (fa _ _ ax),bS.of (fa _ _ aG),od,Rn,fb,_,rfl,a8 _ _ ⟨by rw [decide_eq_true c];rfl,aI.refl _,fb⟩⟩
   .obtain ⟨ab,s3,d3⟩:=r;have ab:=ab.symm;rw [iP,decide_eq_true_eq] at ab;have gY:=fa.trans s3;have ag':0 <= gy d e:=by unfold gy;split <;> omega
    obtain ⟨g,a3⟩:∃ g:Nat,gy d e=(g:Nat):=⟨(gy d e).toNat,by omega⟩;have aiR:g <= 30:=by
     have:=od.of;have:=Rn.Aj;unfold gy at a3;split at a3 <;> omega
    simp only [eu];exists (fun aS bY=>bY=bA/\aS=[some (.int n),~~~wl,~~~cY,~~~de,~~~rb,some (.int (g:Nat)),dw,cw]),0
    .nofun;refine ⟨_,bS.of (gY _ _ ax),_,Q9 _,_,bS.of (gY _ _ aG),_,Zg _,?_⟩;refine ⟨_,rfl,_,rfl,bj _ _ ⟨rfl,?_⟩⟩;rw [show (if d.off - e.near > 0 then d.off - e.near else 0)=(g:Int) from a3]
    rintro Dn bY ⟨rfl,rfl⟩;subst a5;nofun;refine ⟨_,.inl (aK.of (gY _ _ R.ae)),?_⟩;rw [a',R.ak];refine ⟨by omega,by omega,by omega,by omega,?_⟩;refine du.range (fun k σ I=>I=bY/\∃ dw cw,σ=[some (.int n),~~~wl,~~~cY,~~~de,~~~rb,some (.int (g:Nat)),dw,cw]) ?_ ?_ ?_
    .exact ⟨rfl,_,_,rfl⟩
    .rintro k σ I aE aX;ac_rfl
     obtain ⟨rfl,dw,cw,rfl⟩:=aX;have R9:g + k < m:=by omega
     obtain ⟨r,oS⟩:∃ r,rs[g + k]? = some r:=⟨_,b7 (by rw [R.ak];exact R9)⟩;have lN:=gY _ _ (R.al _ _ oS);have adL:d_ (rs.map V.ref) ((g:Int) + (k:Nat))=some (.ref r):=by
      rw [show (g:Int) + (k:Nat)=((g + k:Nat):Int) by omega];exact cR (by rw [eA,oS];rfl)
     have Lf:=aK.of (K:=K) (gY _ _ R.ae);subst a5;simp only [fO,jv,je];refine ec (decide (fl z sp e (bV + ((g + k:Nat):Int))=2)) (fun Q a8=>?_) (fun c=>?_) (fun c=>?_)
     .nofun;refine ⟨_,Lf,_,adL,_,bS.of (gY _ _ aG),_,pW _,_,rfl,_,HL D.aC lN k7,rfl,?_⟩;rw [GZ (Ka ..)];exact a8
     .have c:=of_decide_eq_true c;nofun;refine ⟨by omega,by omega,?_⟩;refine du.range (fun b σ dq=>dq=I/\∃ cw,σ=[some (.int n),~~~wl,~~~cY,~~~de,~~~rb,some (.int (g:Nat)),some (.int ((g:Int) + (k:Nat))),cw]) ?_ ?_ ?_
      .exact ⟨rfl,_,rfl⟩
      .rintro b σ dq pU ⟨rfl,cw,rfl⟩;have ain:b <= g:=by omega
       obtain ⟨cL,lY⟩:∃ r,rs[g + k - b]? = some r:=⟨_,b7 (by rw [R.ak];omega)⟩;have abn:=gY _ _ (R.al _ _ lY);have ab4:d_ (rs.map V.ref) ((g:Int) + (k:Nat) - (b:Nat))=some (.ref cL):=by
        rw [show (g:Int) + (k:Nat) - (b:Nat)=((g + k - b:Nat):Int) by omega];exact cR (by rw [eA,lY];rfl)
       have Rb:=F2 d n6 e EM ab.1 ab.2 (bV + ((g + k:Nat):Int)) b (by omega) c;rw [show bV + ((g + k:Nat):Int) - (b:Int)=bV + ((g + k - b:Nat):Int) by omega] at Rb;simp only [fO,jv,je,AN];refine ec false (fun Q a8=>?_) (fun ar=>nomatch ar) (fun _=>?_)
       .nofun;refine ⟨_,Lf,_,ab4,_,bS.of (gY _ _ ax),_,pW _,_,rfl,_,HL D.aC abn hV,rfl,?_⟩;rw [GZ (Ka ..),decide_eq_false Rb];exact a8
       .nofun;exact ⟨_,rfl⟩
      .rintro σ dq ⟨rfl,cw,rfl⟩;exact ⟨rfl,_,_,rfl⟩
     .nofun;exact ⟨_,rfl⟩
    .rintro σ I aX;ac_rfl
     obtain ⟨rfl,dw,cw,rfl⟩:=aX;subst a5;exact ⟨gY,d3,_,_,_,_,rfl⟩
   .obtain ⟨ab,s3,d3⟩:=r;nofun;exact ⟨fa.trans s3,d3,_,rfl⟩
  .rintro σ I aX;ac_rfl
   obtain ⟨a9,ed,ip,dR,dw,cw,rfl⟩:=aX;subst a5;exact ⟨a9,ed,_,_,_,_,_,rfl⟩
 .rintro σ I aX;ac_rfl
  obtain ⟨a9,ed,ee,ip,dR,dw,cw,rfl⟩:=aX;subst a5;nofun;exact q _ a9 ed
seal L2.dr L2.br L2.gc L2.gL L2.hJ L2.fu
theorem YL {d:aD} {c eN:Nat} (ar:c < 4) (h:EH (cI d) (cK d) c eN):eN ∈ rB d c:=by
 obtain ⟨h0,ae,ak,a_⟩:=h
 match c,ar with
 | 0,_=>rw [h0 rfl];exact .head _
 | 1,_=>rw [ae rfl];exact .head _
 | 2,_=>rw [ak rfl];exact .head _
 | 3,_=>
  rcases a_ rfl with e | e
  .rw [e];exact .head _
  .rw [e];exact .tail _ (.head _)
theorem JB {α:Type} (p:Nat->Bool) (f:Nat->α):∀ l:List Nat,(l.map fun i=>if p i=true then some (f i) else none).flatMap Em=(l.filter p).map f
 | []=>rfl
 | a :: l=>by
  rw [eJ,List.flatMap_cons,JB p f l];by_cases c:p a=true
  .rw [if_pos c,Ls c];rfl
  .rw [if_neg c,Jq c];rfl
noncomputable def qE (cs:List Nat):List V:=(jb cs).map (fun i:Nat=>V.int i) ++ [.int cs.length]
theorem W7 (cs:List Nat):(qE cs).length=(jb cs).length + 1:=by unfold qE;rw [dP,a'];rfl
theorem QT (cs:List Nat):(jb cs).length <= cs.length:=by
 have:=Jn (lQ cs) (fc cs.length);rw [A3] at this;exact this
theorem OG {cs:List Nat} {i a:Nat} (h:(jb cs)[i]? = some a):d_ (qE cs) (i:Int)=some (.int (a:Nat)):=by
 refine cR ?_;unfold qE;rw [v7 (by rw [a'];exact (cg.mp h).1),eA,h];rfl
theorem RE {cs:List Nat} {i a:Nat} (h:(jb cs)[i]? = some a):a < cs.length:=ph.mp (j2.mp (c2 h)).1
theorem ur {cs:List Nat} {a c:Nat} (h:cs[a]? = some c):d_ (hX cs) ((a:Nat):Int)=some (.str (bx c)):=cR (by unfold hX;rw [eA,h];rfl)
noncomputable def lsN (d:aD):Nat->Int
 | 1=>cI d
 | 2=>d.least
 | _=>cK d
theorem aeh (eB gK ee:V):lI [] [(bN (bx 1),eB),(bN (bx 2),gK),(bN (bx 3),ee)]=[(bN (bx 1),eB),(bN (bx 2),gK),(bN (bx 3),ee)]:=by
 have oc:=h3 (a:=1) (b:=2) (by decide) (by decide) (by decide);have ou:=h3 (a:=1) (b:=3) (by decide) (by decide) (by decide);have rn:=h3 (a:=2) (b:=3) (by decide) (by decide) (by decide);unfold lI;simp only [wR,vf];rw [q1 eB (k:=bN (bx 1)) (by rfl),q1 gK (by simp [dJ,oc]),q1 ee (by simp [dJ,ou,rn])];rfl
theorem WT (f:Nat->V) {c:Nat} (ar:c < 4) (h0:c ≠ 0):dJ ([(bN (bx 1),f 1),(bN (bx 2),f 2),(bN (bx 3),f 3)]:List (Key × V)) (bN (bx c))=some (f c):=by
 have oc:=h3 (a:=1) (b:=2) (by decide) (by decide) (by decide);have ou:=h3 (a:=1) (b:=3) (by decide) (by decide) (by decide);have rn:=h3 (a:=2) (b:=3) (by decide) (by decide) (by decide)
 match c,ar with
 | 0,_=>exact absurd rfl h0
 | 1,_=>simp [dJ]
 | 2,_=>simp [dJ,oc]
 | 3,_=>simp [dJ,ou,rn]
noncomputable def K_ (K:a6):bo:=fun vs H Q _=>∃ (hs cY:Addr) (d:aD) (cs:List Nat),vs=[.ref hs,.ref cY]/\H hs=some (.tup (e_ d))/\d.k < 3/\H cY=some (.lst (hX cs))/\MY d cs/\cs.length <= 1000/\aV H/\∀ I,aI H I->aV I->Q (.bq true) I
theorem adB:cq P base T 1 t.yl t.xu Bo (K_ K):=by
 exists T.Pi.ok lK,9
 obtain ⟨hs,cY,d,cs,rfl,AL,aE,iu,O,BS,bh,q⟩:=h;have bQ:=lV au;refine ⟨_,(db (bJ (i:=2) lK.aC (bX ew (fH (af aR (af aR (af aR aB)))) (iT lZ A7 Kv Io (fH (af cC (af cC (af cC aB)))) (af (bX dZ (U 0) aR) aB))))
   (db (bJ (i:=3) lK.aC (bX ew (fH (af aR (af (bX dZ (U 0) aR) (af aR aB)))) (iT lZ A7 Kv Io (fH (af cC (af cC (af cC aB)))) (af (bX dZ (U 0) aR) aB))))
   (db (bJ (i:=4) lK.aC (Db Y7 (l' rfl (kV rfl T.lf (af (fL ac rfl T.hH hT (af (U 1) aB)) aB)) (iE (sc:=bz Hh) rfl (by ac_nf)) (N:=["_law_at","_law_row"]) (sel:=[none,some 1]) (iS (M:=["_law_way","_law_row","_law_ready","_law_fade","_law_starts","_law_ahead","_law_behind","_law_k","_law_one","_law_follows","_law_turns","_law_least"]) (by ac_nf)) (gN.of (fun _ _ _ _=>(b' (i:=0) (gb (N:=["_law_at","_law_row"]) (by ac_nf) rfl))) (fun _ _ _ _=>⟨_,(vq (fu.pt (nc (da hi (U 0) aR (cT _)) (n4 (da mj (bX ew (U 1) (U 0)) (bX ew (U 1) (Db gW (U 0) aR)) (cT _)))))),by walk_at "B"⟩) (fun _ _ _ _=>⟨_,(U 0),by walk_at "B"⟩))) (fH (af (fL ac rfl T.hH hT (af (U 1) aB)) aB))))
   (db (bJ (i:=5) lK.aC (cr (da m8 (U 2) aR (cT _)) cC cC))
   (db (bJ (i:=6) lK.aC (cr (da m8 (U 3) aR (cT _)) cC cC))
   (db (er fG rfl (JD rfl T.lf (af aR (af (Db gW (fL ac rfl T.hH hT (af (U 4) aB)) aR) aB))) (b' (i:=7) lK.aC) (db (bJ (i:=8) lK.aC (bX ew (U 1) (bX ew (U 4) (Db gW (U 7) aR))))
   (db (bJ (i:=9) lK.aC (MR (qq cC (fH (af (U 5) aB)) (qq cC (fH (af cC aB)) (qq cC (fH (af (U 6) aB)) (qq cC (fH (af cC (af (U 5) aB))) Mh)))) rfl rfl (by simp) (by decide)))
   (db (dD (da ID (bX ew (U 1) (bX ew (U 4) (U 7))) (kN bQ (U 9) (U 8) (fun _ _=>rfl)) (by with_unfolding_all rfl)) (aY (b1 hI)) dI)
   (db (bJ (i:=10) lK.aC (Db gW (bX ew (U 4) (U 7)) (bX ew (U 4) (Db gW (U 7) aR))))
   (aY (dD (fu.pt (p8 (da m8 (U 7) aR (cT _)) (ri (da mj (U 8) cC (cT _))))) (db (bJ (i:=11) lK.aC (kN bQ (MR (qq cC (U 2) (qq cC (bX dZ (U 0) aR) (qq cC (U 3) Mh))) rfl rfl (by simp) (by decide)) (U 8) (fun _ _=>rfl)))
   (aY (dD (fu.pt (nc (da l2 (U 10) (U 11) (cT _)) (n4 (fu.pt (p8 (da m8 (U 10) (U 11) (cT _)) (ri (da mj (U 8) cC (cT _)))))))) (aY (b1 hI)) dI))) dI)))))))
   (aY (b1 hI)))))))),?_⟩
 have fQ:∀ k:Nat,k <= 10000->k <= sizeLine:=fun k h=>c1 h (by decide)
 refine hj (fun aS I=>aI H I/\aV I/\aS=[~~~hs,~~~cY,some (.int (cI d)),none,none,none,none,none,none,none,none,none]) (fun D bj=>?_) fun gu a5=>?_
 .nofun;refine ⟨by decide,fun p aq=>?_⟩;obtain ⟨gE,c9⟩:∃ kv:ag,kv=upd H p (.lst [.int 1,.int 0,.int 2]):=⟨_,rfl⟩;rw [<- c9];have jC:aI H gE:=by rw [c9];exact bk aq
  have na:aV gE:=by rw [c9];exact bh.upd
  have tR:gE p=some (.lst [.int 1,.int 0,.int 2]):=by rw [c9];exact aU
  clear c9;refine ⟨by decide,fun c7 d8=>?_⟩;obtain ⟨iR,dK⟩:∃ kv:ag,kv=upd gE c7 (.lst [.str (ah "car"),.str (ah "foot"),.str (ah "tram")]):=⟨_,rfl⟩;rw [<- dK];have h2:aI gE iR:=by rw [dK];exact bk d8
  have nb:aV iR:=by rw [dK];exact na.upd
  have qv:iR c7=some (.lst [.str (ah "car"),.str (ah "foot"),.str (ah "tram")]):=by rw [dK];exact aU
  clear dK;exact ⟨.inl ⟨_,aK.of qv⟩,_,bS.of (h2 _ _ (jC _ _ AL)),_,O8 _,yA,_,rfl,aK.of qv,d.k,KS d.k aE,ND d.k aE,by decide,_,aK.of (h2 _ _ tR),_,Zb aE,bj _ _ ⟨jC.trans h2,nb,rfl⟩⟩
 rintro fJ H1 ⟨s1,c4,rfl⟩;subst a5;refine hj (fun aS I=>aI H I/\aV I/\aS=[~~~hs,~~~cY,some (.int (cI d)),some (.int (cK d)),none,none,none,none,none,none,none,none]) (fun D bj=>?_) fun gu a5=>?_
 .nofun;refine ⟨_,bS.of (s1 _ _ AL),_,Q9 _,by decide,fun p aq=>?_⟩;obtain ⟨gE,c9⟩:∃ kv:ag,kv=upd H1 p (.lst [.int 2,.int d.off,.int 1]):=⟨_,rfl⟩;rw [<- c9];have jC:aI H1 gE:=by rw [c9];exact bk aq
  have na:aV gE:=by rw [c9];exact c4.upd
  have tR:gE p=some (.lst [.int 2,.int d.off,.int 1]):=by rw [c9];exact aU
  clear c9;refine ⟨by decide,fun c7 d8=>?_⟩;obtain ⟨iR,dK⟩:∃ kv:ag,kv=upd gE c7 (.lst [.str (ah "car"),.str (ah "foot"),.str (ah "tram")]):=⟨_,rfl⟩;rw [<- dK];have h2:aI gE iR:=by rw [dK];exact bk d8
  have nb:aV iR:=by rw [dK];exact na.upd
  have qv:iR c7=some (.lst [.str (ah "car"),.str (ah "foot"),.str (ah "tram")]):=by rw [dK];exact aU
  clear dK;exact ⟨.inl ⟨_,aK.of qv⟩,_,bS.of (h2 _ _ (jC _ _ (s1 _ _ AL))),_,O8 _,yA,_,rfl,aK.of qv,d.k,KS d.k aE,ND d.k aE,by decide,_,aK.of (h2 _ _ tR),_,Yc aE,bj _ _ ⟨(s1.trans jC).trans h2,nb,rfl⟩⟩
 rintro cW ay ⟨s2,cP,rfl⟩;subst a5;simp only [eu];have lY:=s2 _ _ iu;exists (fun aS I=>aI H I/\aV I/\∃ aP,I aP=some (.lst (qE cs))/\aS=[~~~hs,~~~cY,some (.int (cI d)),some (.int (cK d)),~~~aP,none,none,none,none,none,none,none]),1
 .nofun;refine ⟨_,.inl (aK.of lY),?_⟩;rw [show (hX cs).length=cs.length from a' ..];refine ⟨by omega,by omega,?_⟩;rw [AY];refine dm.X4 (ss:=(fc cs.length).map fun i=>if lQ cs i=true then some (V.int (i:Nat)) else none) (fQ _ (by omega)) (by rw [a',A3]) (fun i o ys N ai a7 bb=>?_) (fun p aq=>?_)
  .obtain ⟨kF,jI,rfl⟩:=cS a7;have:kF=i:=by rw [QW ai] at jI;exact (eS jI).symm
   subst this;nofun;refine ⟨Sub.name,?_⟩;obtain ⟨c,ar⟩:∃ c,cs[kF]? = some c:=⟨_,b7 ai⟩;have n8:=O.lt c (c2 ar);by_cases fZ:kF=0
   .rw [if_pos (decide_eq_true (by omega))];rw [if_pos (show lQ cs kF=true by unfold lQ;rw [decide_eq_true fZ];rfl)] at bb;exact bb
   .rw [if_neg (by simpa using fZ)];obtain ⟨e,he⟩:∃ c,cs[kF - 1]? = some c:=⟨_,b7 (by omega)⟩;have f7:=O.lt e (c2 he);refine ⟨_,aK.of lY,_,ur ar,_,aK.of lY,_,by rw [show (kF:Int) - 1=((kF - 1:Nat):Int) by omega];exact ur he,rfl,?_⟩;have gd:lQ cs kF = !decide (c=e):=by
     unfold lQ;rw [decide_eq_false fZ,m2,ar,he];by_cases ce:c=e
     .rw [ce];simp
     .rw [decide_eq_false ce,decide_eq_true (by simpa using ce)];rfl
    rw [show decide (V.str (bx c)=V.str (bx e))=decide (c=e) from decide_eq_decide.mpr ⟨fun z=>AG n8 f7 (V.str.inj z),fun z=>by rw [z]⟩,<- gd];by_cases AD:lQ cs kF=true
    .rw [if_pos AD] at bb;rw [if_pos AD];exact bb
    .rw [if_neg AD] at bb;rw [if_neg AD];have:ys ++ Em (none:Option V)=ys:=by simp
     rw [this] at bb;exact bb
  .rw [JB];nofun;have d8:=bk (o:=.lst (gv (fun i:Nat=>V.int i) (List.filter (lQ cs) (fc cs.length)))) aq;refine ⟨_,.inl (aK.of (d8 _ _ lY)),by decide,fun c7 RF=>⟨_,(bk RF) _ _ aU,_,aU,fQ _ ?_,fun dz dV=>bj _ _ ⟨((s2.trans d8).trans (bk RF)).trans (bk dV),cP.upd.upd.upd,dz,?_,rfl⟩⟩⟩
   .have:=QT cs;unfold jb at this;rw [a'];show _ + 1 <= 10000;omega
   .rw [aU,show (hX cs).length=cs.length from a' ..];rfl
 rintro j5 bA ⟨s3,d3,aP,bM,rfl⟩;subst a5;simp only [eu];exists (fun aS I=>I=bA/\aS=[~~~hs,~~~cY,some (.int (cI d)),some (.int (cK d)),~~~aP,some (.str (bx (h8 d))),none,none,none,none,none,none]),1
 .nofun;unfold h8 at bj;by_cases c:0 < cI d
  .rw [if_pos c] at bj;rw [if_pos (decide_eq_true c)];exact bj _ _ ⟨rfl,rfl⟩
  .rw [if_neg c] at bj;rw [if_neg (by simpa using c)];exact bj _ _ ⟨rfl,rfl⟩
 rintro Dn bY ⟨rfl,rfl⟩;subst a5;simp only [eu];exists (fun aS I=>I=bY/\aS=[~~~hs,~~~cY,some (.int (cI d)),some (.int (cK d)),~~~aP,some (.str (bx (h8 d))),some (.str (bx (kK d))),none,none,none,none,none]),1
 .nofun;unfold kK at bj;by_cases c:0 < cK d
  .rw [if_pos c] at bj;rw [if_pos (decide_eq_true c)];exact bj _ _ ⟨rfl,rfl⟩
  .rw [if_neg c] at bj;rw [if_neg (by simpa using c)];exact bj _ _ ⟨rfl,rfl⟩
 rintro EO dq ⟨rfl,rfl⟩;have fU:=QT cs;subst a5;simp only [eu];refine adp (fun aS I=>aI H I/\aV I) (fun fD bj ahd _ _=>?_) ?_
 .nofun;refine ⟨_,.inl (aK.of bM),?_⟩;rw [W7];refine ⟨by omega,by omega,by omega,by omega,?_⟩;rw [show (((jb cs).length + 1:Nat):Int) - 1 - 1=((jb cs).length:Int) - 1 by omega];refine du.range (fun k σ I=>aI dq I/\aV I/\∃ cw jJ jf iZ m1,σ=[~~~hs,~~~cY,some (.int (cI d)),some (.int (cK d)),~~~aP,some (.str (bx (h8 d))),some (.str (bx (kK d))),cw,jJ,jf,iZ,m1]) ?_ ?_ ?_
  .exact ⟨aI.refl _,d3,_,_,_,_,_,rfl⟩
  .rintro k σ lg aih aX;ac_rfl
   obtain ⟨GI,VR,cw,jJ,jf,iZ,m1,rfl⟩:=aX;obtain ⟨a,aJ⟩:∃ a,(jb cs)[k]? = some a:=⟨_,b7 (by omega)⟩;obtain ⟨b,ab⟩:∃ b,(jb cs)[k + 1]? = some b:=⟨_,b7 (by omega)⟩;obtain ⟨ca,BE⟩:∃ c,cs[a]? = some c:=⟨_,b7 (RE aJ)⟩;obtain ⟨uQ,LZ⟩:∃ c,cs[b]? = some c:=⟨_,b7 (RE ab)⟩;have n8:=O.lt ca (c2 BE);have Y2:=YL n8 (O.gg k a b ca uQ aJ ab BE LZ);have Mn:=s3.trans GI;have Mv:d_ (qE cs) ((1:Int) + (k:Nat) - 1)=some (.int (a:Nat)):=by rw [show (1:Int) + (k:Nat) - 1=(k:Nat) by omega];exact OG aJ
   have LO:d_ (qE cs) ((1:Int) + (k:Nat))=some (.int (b:Nat)):=by rw [show (1:Int) + (k:Nat)=((k + 1:Nat):Int) by omega];exact OG ab
   subst a5;simp only [fO,eu,jv,je];exists (fun aS I=>I=lg/\aS=[~~~hs,~~~cY,some (.int (cI d)),some (.int (cK d)),~~~aP,some (.str (bx (h8 d))),some (.str (bx (kK d))),some (.int (1 + (k:Nat))),some (.str (bx ca)),jf,iZ,m1]),1
   .nofun;exact ⟨_,aK.of (GI _ _ bM),_,Mv,_,_,rfl,aK.of (Mn _ _ iu),_,ur BE,bj _ _ ⟨rfl,rfl⟩⟩
   rintro Z8 ks ⟨rfl,rfl⟩;subst a5;simp only [eu];exists (fun aS I=>aI ks I/\aV I/\∃ bd,Vk I bd d/\aS=[~~~hs,~~~cY,some (.int (cI d)),some (.int (cK d)),~~~aP,some (.str (bx (h8 d))),some (.str (bx (kK d))),some (.int (1 + (k:Nat))),some (.str (bx ca)),~~~bd,iZ,m1]),1
   .nofun;intro p aq;simp only [vP];nofun;refine ⟨by decide,fun eh h0=>⟨by decide,fun c7 ae=>⟨by decide,fun dz ak=>⟨by decide,fun iD a_=>?_⟩⟩⟩⟩;have hy:aI ks (upd ks p (.cE [])):=bk aq;have na:aV (upd ks p (.cE [])):=VR.upd;have Cd:upd ks p (.cE []) p=some (.cE []):=aU;generalize upd ks p (.cE [])=gE at *;have nb:aV (upd gE eh (.lst [V.str (bx (h8 d))])):=na.upd;have bw:=bk (o:=.lst [V.str (bx (h8 d))]) h0;have vr:upd gE eh (.lst [V.str (bx (h8 d))]) eh=some (.lst (hX (rB d 0))):=aU;generalize upd gE eh (.lst [V.str (bx (h8 d))])=iR at *;have Qt:aV (upd iR c7 (.lst [V.str (ah "free")])):=nb.upd;have b4:=bk (o:=.lst [V.str (ah "free")]) ae;have at2:upd iR c7 (.lst [V.str (ah "free")]) c7=some (.lst (hX (rB d 1))):=aU;generalize upd iR c7 (.lst [V.str (ah "free")])=oO at *;have aC:aV (upd oO dz (.lst [V.str (bx (kK d))])):=Qt.upd;have d9:=bk (o:=.lst [V.str (bx (kK d))]) ak;have ad0:upd oO dz (.lst [V.str (bx (kK d))]) dz=some (.lst (hX (rB d 2))):=aU;generalize upd oO dz (.lst [V.str (bx (kK d))])=HM at *;have kp:=bk (o:=.lst [V.str (ah "stop"),V.str (bx (h8 d))]) a_;have P5:upd HM iD (.lst [V.str (ah "stop"),V.str (bx (h8 d))]) iD=some (.lst (hX (rB d 3))):=aU;have Za:aV (upd HM iD (.lst [V.str (ah "stop"),V.str (bx (h8 d))])):=aC.upd;generalize upd HM iD (.lst [V.str (ah "stop"),V.str (bx (h8 d))])=FE at *;have Mo:aI gE FE:=((bw.trans b4).trans d9).trans kp;have nC:=((b4.trans d9).trans kp) _ _ vr;have iA:=(d9.trans kp) _ _ at2;have gO:=kp _ _ ad0;have dS:=Mo _ _ Cd;have apart:∀ {b:Addr} {xs:List V},FE b=some (.lst xs)->b ≠ p:=fun {b xs} e z=>by rw [z,dS] at e;cases e
    have ab3:aI ks (upd FE p (.cE (lI [] [(bN (bx 0),V.ref eh),(bN (bx 1),V.ref c7),(bN (bx 2),V.ref dz),(bN (bx 3),V.ref iD)]))):=(hy.trans Mo).g9 aq;refine ⟨dS,[(bN (bx 0),V.ref eh),(bN (bx 1),V.ref c7),(bN (bx 2),V.ref dz),(bN (bx 3),V.ref iD)],rfl,by show 4 <= 15;decide,bj _ _ ⟨ab3,Za.upd,p,⟨_,aU,fun c ar=>?_⟩,rfl⟩⟩;rw [R6];refine ⟨_,Ye (fun c=>V.ref (match c with | 0=>eh | 1=>c7 | 2=>dz | _=>iD)) ar,?_⟩
    match c,ar with
    | 0,_=>exact (aW (apart nC)).trans nC
    | 1,_=>exact (aW (apart iA)).trans iA
    | 2,_=>exact (aW (apart gO)).trans gO
    | 3,_=>exact (aW (apart P5)).trans P5
   rintro ahp tv ⟨me,yh,bd,afb,rfl⟩;have tr:=GI.trans me;have ad4:=Mn.trans me;subst a5;simp only [eu];refine ec false (fun rW a8=>?_) (fun ar=>nomatch ar) (fun _=>?_)
   .nofun;obtain ⟨aT,dK,al⟩:=id afb;obtain ⟨aiE,nU,pU⟩:=al ca n8;refine ⟨_,aK.of (tr _ _ bM),_,LO,_,_,rfl,aK.of (ad4 _ _ iu),_,ur LZ,_,by have:=gm.k (k:=bN (bx ca)) dK;rw [nU] at this;exact this,_,rfl,_,.inl (aK.of pU),rfl,?_,?_⟩
    .unfold hX;rw [Su];exact qG.mpr fun _ _=>rfl
    .rw [KK Y2];exact a8
   simp only [qT,eu];exists (fun aS I=>I=tv/\aS=[~~~hs,~~~cY,some (.int (cI d)),some (.int (cK d)),~~~aP,some (.str (bx (h8 d))),some (.str (bx (kK d))),some (.int (1 + (k:Nat))),some (.str (bx ca)),~~~bd,some (.int ((b:Int) - a)),m1]),1
   .nofun;exact ⟨_,aK.of (tr _ _ bM),_,LO,_,aK.of (tr _ _ bM),_,Mv,_,rfl,_,rfl,bj _ _ ⟨rfl,rfl⟩⟩
   rintro aiF r2 ⟨rfl,rfl⟩;subst a5;dsimp only;refine ec (decide (0 < k) && !decide (ca=0)) (fun rW a8=>?_) (fun ar=>?_) (fun ar=>?_)
   .nofun;rw [show decide (bx ca=ah "stop")=decide (ca=0) from Ke (m:=0) n8 (by decide)];by_cases c:0 < k
    .rw [if_pos (decide_eq_true (by omega))];rw [decide_eq_true c,xh] at a8;exact a8
    .rw [if_neg (by simp;omega)];rw [decide_eq_false c,q4] at a8;exact a8
   .rw [iP,decide_eq_true_eq,ab5,decide_eq_false_iff_not] at ar;obtain ⟨cz,fh,C3⟩:=O.le k a b ca ar.1 aJ ab BE;simp only [eu];exists (fun aS I=>aI r2 I/\aV I/\aS=[~~~hs,~~~cY,some (.int (cI d)),some (.int (cK d)),~~~aP,some (.str (bx (h8 d))),some (.str (bx (kK d))),some (.int (1 + (k:Nat))),some (.str (bx ca)),~~~bd,some (.int ((b:Int) - a)),some (.int (lsN d ca))]),1
    .nofun;intro p aq;simp only [vP];nofun;have hy:aI r2 (upd r2 p (.cE [])):=bk aq;have XE:d_ (e_ d) 6=some (.int d.least):=Fo d;refine ⟨_,bS.of (hy _ _ ((s3.trans tr) _ _ AL)),_,XE,?_⟩;refine ⟨aU,[(bN (bx 1),V.int (cI d)),(bN (bx 2),V.int d.least),(bN (bx 3),V.int (cK d))],rfl,by show 3 <= 15;decide,V.int (lsN d ca),?_,?_⟩
     .have:=gm.k (H:=upd (upd r2 p (.cE [])) p (.cE (lI [] [(bN (bx 1),V.int (cI d)),(bN (bx 2),V.int d.least),(bN (bx 3),V.int (cK d))]))) (k:=bN (bx ca)) aU;rw [aeh] at this ⊢;rw [show dJ [(bN (bx 1),V.int (cI d)),(bN (bx 2),V.int d.least),(bN (bx 3),V.int (cK d))] (bN (bx ca))=some (V.int (lsN d ca)) from WT (fun c=>V.int (lsN d c)) n8 ar.2] at this;exact this
     .exact bj _ _ ⟨hy.g9 aq,yh.upd.upd,rfl⟩
    rintro ah2 ahr ⟨Xx,ou,rfl⟩;subst a5;dsimp only;refine ec false (fun rW a8=>?_) (fun ar=>nomatch ar) (fun _=>?_)
    .nofun;rw [show decide (bx ca=ah "free")=decide (ca=2) from Ke (m:=2) n8 (by decide)];have W2:ca=1\/ca=2\/ca=3:=by omega
     rcases W2 with e | e | e
     .have h:=cz e;rw [e,if_neg (by simp [lsN];omega),if_neg (by simp [lsN];omega)];exact a8
     .have h:=fh e;rw [e,if_neg (by simp [lsN];omega)];split <;> exact a8
     .have h:=C3 e;rw [e,if_neg (by simp [lsN];omega),if_neg (by simp [lsN];omega)];exact a8
    .nofun;exact ⟨tr.trans Xx,ou,_,rfl⟩
   .nofun;exact ⟨tr,yh,_,rfl⟩
  .rintro σ I aX;ac_rfl
   obtain ⟨a9,ed,cw,jJ,jf,iZ,m1,rfl⟩:=aX;subst a5;exact bj _ _ ⟨s3.trans a9,ed⟩
 rintro mN eK ⟨hL,uq⟩;nofun;exact q _ hL uq
unseal L2.dr L2.br L2.gc L2.gL L2.hJ L2.fu
theorem YX {z:Nat} (az:0 < z) {sp:List ba} {d:aD} (h:∀ p ∈ b8 d.name sp,1 <= p.2/\p.2 <= (z:Int)) (bR:b8 d.name sp ≠ []) {m:Int} (ae:m ∈ jQ z sp d.name) (ak:∀ k ∈ jQ z sp d.name,k <= m):(0 <= m/\m <= z)/\∀ u:Int,∃ j:Nat,(j:Int) <= m/\fl z sp d (u + (j:Nat))=2:=by
 have fK:(0:Int) < z:=by omega
 have at_:∀ t:Nat,t < z->(jQ z sp d.name)[t]? = some (mx z t (b8 d.name sp)):=fun t ct=>YG az h bR ct
 have ZP:∀ t:Int,mx z t (b8 d.name sp) <= z:=fun t=>(io z t z (b8 d.name sp) z).mpr (.inl (ui _))
 have m0:0 <= m/\m <= z:=by
  obtain ⟨t,ct⟩:=oD ae;have aA:=(cg.mp ct).1;rw [D8] at aA;rw [at_ t aA] at ct;cases ct;exact ⟨Mi fK _,ZP _⟩
 refine ⟨m0,fun u=>?_⟩;have eZ:=e' u (show (z:Int) ≠ 0 by omega);have ax:=ff u fK;have aE:=ak _ (c2 (at_ (u % (z:Int)).toNat (by omega)));rw [iJ eZ,TQ] at aE;have:∃ p ∈ b8 d.name sp,jr z u p <= m:=by
  rcases (io z u m (b8 d.name sp) z).mp aE with c | c
  .obtain ⟨p,aq⟩:=List.exists_mem_of_ne_nil _ bR;exact ⟨p,aq,yD (Dx fK p).2 c⟩
  .exact c
 obtain ⟨p,aq,hw⟩:=this;obtain ⟨j,aZ,cx⟩:=(C9 fK (h p aq) m0.1).mp hw;exact ⟨j,aZ,(HQ _).mpr ⟨p,aq,cx⟩⟩
noncomputable def hG:List Nat->Int
 | []=>-1
 | c :: r=>if c=2 then 0 else if 0 <= hG r then hG r + 1 else hG r
theorem Q4:∀ (l:List Nat) (j:Nat),l[j]? = some 2->0 <= hG l/\hG l <= j
 | [],j,h=>by simp at h
 | c :: r,j,h=>by
  by_cases cU:c=2
  .have:hG (c :: r)=0:=by unfold hG;rw [if_pos cU]
   omega
  .match j,h with
   | 0,h=>exact absurd (by simpa using h) cU
   | j + 1,h=>
    have cj:=Q4 r j (by simpa using h);have:hG (c :: r)=hG r + 1:=by
     show (if c=2 then 0 else if 0 <= hG r then hG r + 1 else hG r)=_;rw [if_neg cU,if_pos cj.1]
    omega
noncomputable def tz (K:a6):bo:=fun vs H Q _=>∃ (hs cY:Addr) (cs:List Nat) (wk:Int) (z:Nat),vs=[.ref hs,.ref cY,.int wk,.int z]/\H cY=some (.lst (hX cs))/\(∀ c ∈ cs,c < 4)/\cs.length <= 1000/\(∀ i,i + z < cs.length->∃ j:Nat,(j:Int) <= wk/\cs[i + j]? = some 2)/\Q (.bq true) H
theorem aer:cq P base T 1 t.ii t.xV zP (tz K):=by
 exists T.ol.ok Uf,9
 obtain ⟨hs,cY,cs,wk,z,rfl,iu,n8,BS,hw,q⟩:=h;refine ⟨_,(db (bJ (i:=4) Uf.aC (um uA aR))
   (db (er fG rfl (QR rfl T.lf (af (Db gW (fL ac rfl T.hH hT (af (U 1) aB)) aR) (af (um uA aR) (af (um uA aR) aB)))) (b' (i:=5) Uf.aC) (db (dD (da hi (bX ew (U 1) (U 5)) cC (cT _)) (aY (bJ (i:=4) Uf.aC aR)) (aY (dD (da aaq (U 4) aR (cT _)) (aY (bJ (i:=4) Uf.aC (Db dj (U 4) aR))) dI)))
   (aY (dD (fu.pt (p8 (da l2 (U 5) (Db gW (fL ac rfl T.hH hT (af (U 1) aB)) (U 3)) (cT _)) (ri (fu.pt (nc (da l2 (U 4) aR (cT _)) (n4 (da m8 (U 4) (U 2) (cT _)))))))) (aY (b1 hI)) dI))))
   (aY (b1 hI)))),?_⟩
 have hlen:(hX cs).length=cs.length:=a' ..;nofun;refine ⟨_,.inl (aK.of iu),?_⟩;rw [hlen];refine ⟨by omega,by omega,by omega,by omega,?_⟩;rw [show ((cs.length:Int) - 1 - -1).toNat=cs.length by omega];refine du.of (n:=cs.length) (fun k σ I=>I=H/\∃ dR,σ=[~~~hs,~~~cY,some (.int wk),some (.int z),some (.int (hG (cs.drop (cs.length - k)))),dR]) ?_ (fun i σ I ai _=>?_) (fun σ I _=>?_) ?_ ?_
 .exact ⟨rfl,none,by rw [Nat.sub_zero,Mm];rfl⟩
 .show i < _;omega
 .show _ <= cs.length;omega
 .rintro k σ wV v I aE ⟨rfl,dR,rfl⟩ ⟨rfl,rfl⟩;have o1:(cs.length:Int) - 1 - (k:Int)=((cs.length - 1 - k:Nat):Int):=by omega
  rw [o1];have ai:cs.length - 1 - k < cs.length:=by omega
  have ar:cs[cs.length - 1 - k]? = some cs[cs.length - 1 - k]:=b7 ai;have hd:cs.drop (cs.length - (k + 1))=cs[cs.length - 1 - k] :: cs.drop (cs.length - k):=by
   rw [show cs.length - (k + 1)=cs.length - 1 - k by omega,qW ai,show cs.length - 1 - k + 1=cs.length - k by omega]
  generalize cs[cs.length - 1 - k]=c at ar hd;have Yz:=n8 c (c2 ar);have qd:hG (cs.drop (cs.length - (k + 1)))=if c=2 then 0 else if 0 <= hG (cs.drop (cs.length - k)) then hG (cs.drop (cs.length - k)) + 1 else hG (cs.drop (cs.length - k)):=by rw [hd];rfl
  simp only [fO,eu,jv,je];exists (fun σ bY=>bY=I/\σ=[~~~hs,~~~cY,some (.int wk),some (.int z),some (.int (hG (cs.drop (cs.length - (k + 1))))),some (.int ((cs.length - 1 - k:Nat):Int))]),0
  .refine ec (decide (c=2)) (fun Q a8=>?_) (fun nB=>?_) (fun nB=>?_)
   .nofun;refine ⟨_,aK.of iu,_,ur ar,rfl,?_⟩;rw [GZ Yz];exact a8
   .nofun;rw [if_pos (of_decide_eq_true nB)] at qd;exact bj _ _ ⟨rfl,by rw [qd]⟩
   .rw [if_neg (of_decide_eq_false nB)] at qd;refine ec (decide (0 <= hG (cs.drop (cs.length - k)))) (fun Q a8=>?_) (fun bT=>?_) (fun bT=>?_)
    .nofun;exact a8
    .nofun;rw [if_pos (of_decide_eq_true bT)] at qd;exact bj _ _ ⟨rfl,by rw [qd]⟩
    .nofun;rw [if_neg (of_decide_eq_false bT)] at qd;exact bj _ _ ⟨rfl,by rw [qd]⟩
  rintro fJ H1 ⟨rfl,rfl⟩;subst a5;dsimp only;refine ec false (fun Q a8=>?_) (fun ar=>nomatch ar) (fun _=>?_)
  .nofun;refine ⟨_,.inl (aK.of iu),?_⟩;rw [hlen];by_cases bT:((cs.length - 1 - k:Nat):Int) < (cs.length:Int) - (z:Int)
   .rw [if_pos (decide_eq_true bT)];obtain ⟨j,aZ,hf⟩:=hw (cs.length - 1 - k) (by omega);have aA:=Q4 (cs.drop (cs.length - (k + 1))) j (by rw [List.getElem?_drop,show cs.length - (k + 1) + j=cs.length - 1 - k + j by omega];exact hf);rw [if_neg (by simp;omega),decide_eq_false (by omega)];exact a8
   .rw [if_neg (by simpa using bT)];exact a8
  .nofun;exact ⟨_,rfl⟩
 .rintro σ I ⟨rfl,dR,rfl⟩;nofun;exact q
theorem LP {x:Str} (h:made x mZ 8=true):pZ x/\x ≠ ah "" := by
 obtain ⟨⟨ae,ak⟩,a_⟩:=sH h;refine ⟨⟨by omega,fun c ar=>?_⟩,fun z=>?_⟩
 .have:=a_ c ar;omega
 .rw [z] at ae;exact absurd ae (by ac_nf)
theorem YF {z:Nat} (az:z <= 240) {sp:List ba} (h:∀ s ∈ sp,jT s.name/\(0 <= s.b/\s.b < 1000)/\0 <= s.n/\s.n < 1000) (aA:sp.length <= 12):(gq z sp).length <= 5000:=by
 have dn:∀ r ∈ jA z sp,r.length <= 4/\∀ x ∈ r,x.length <= 8:=fun r au=>by
  rcases dQ.mp au with e | e
  .subst e;refine ⟨by show 2 <= 4;decide,fun x av=>?_⟩;have:x=S "round" \/ x=num z:=by simpa using av
   rcases this with rfl | rfl
   .ac_nf
   .exact (g0 (v:=(z:Int)) (by omega) (by omega)).1
  .obtain ⟨d,hd,rfl⟩:=dX.mp e;refine ⟨by show 4 <= 4;decide,fun x av=>?_⟩;have g:=h d hd;have:x=S "free" \/ x=d.name\/x=num d.b\/x=num d.n:=by simpa [jo] using av
   rcases this with rfl | rfl | rfl | rfl
   .ac_nf
   .exact g.1.1
   .exact (g0 (by omega) (by omega)).1
   .exact (g0 (by omega) (by omega)).1
 have H4:∀ y ∈ (jA z sp).map (eG cO),y.length <= 40:=fun y bI=>by
  obtain ⟨r,au,rfl⟩:=dX.mp bI;have ae:=nP cO 8 r (dn r au).2;rw [p4] at ae;have:=(dn r au).1;omega
 have:=nP nl 40 _ H4;rw [tc,a'] at this;have jx:(jA z sp).length <= 13:=by
  unfold jA;rw [hb,a'];omega
 unfold gq;omega
theorem Ku:∀ {l:List Int},l ≠ []->∃ m,m ∈ l/\∀ k ∈ l,k <= m
 | [],h=>absurd rfl h
 | [x],_=>⟨x,by simp,fun k aE=>by rw [jB.mp aE];exact ui _⟩
 | x :: y :: r,_=>by
  obtain ⟨m,hm,al⟩:=Ku (l:=y :: r) (by simp);by_cases c:x <= m
  .refine ⟨m,fw _ hm,fun k aE=>?_⟩;rcases dQ.mp aE with rfl | aE
   .exact c
   .exact al k aE
  .refine ⟨x,by simp,fun k aE=>?_⟩;rcases dQ.mp aE with rfl | aE
   .exact ui _
   .exact yD (al k aE) (by omega)
theorem kG.small {n:Int} {ds:List aD} (D:kG n ds) {d:aD} (hd:d ∈ ds):om d.name:=by
 obtain ⟨ae,ak⟩:=sH (D.al d hd).1.nm;exact ⟨c1 ae.2 (by decide),fun c ar=>by have:=ak c ar;omega⟩
theorem Tp {z:Int} {ds:List aD} {sp:List ba} (h:mh z ds sp):xr z ds sp:=fun i d hd=>by
 have a:=h.al d (c2 hd);refine ⟨?_,a.2⟩;unfold jM;refine j2.mpr ⟨a.1,decide_eq_true ?_⟩;have e:sp=sp.take (i + 1) ++ sp.drop (i + 1):=(abC _ _).symm;have m:=h.kE d.name;rw [e,C1,i1 hd,QS,if_pos rfl,dP,dP,Ax] at m;omega
theorem acP {n:Int} {z:Nat} {ds:List aD} {sp:List ba} (D:kG n ds) (aF:0 < n) (az:1 <= z/\z <= 240) (h:mh z ds sp):vp n z ds sp:=by
 have hw:=fun d hd=>(D.al d hd).1
 refine ⟨aF,fun d hd=>⟨(LP (hw d hd).nm).1,(hw d hd).of.1,by have:=(hw d hd).of;omega⟩,fun d hd=>(LP (hw d hd).nm).2,az,Tp h,by have:=h.ln;omega,fun s aw=>?_⟩;obtain ⟨d,hd,e⟩:=dX.mp (h.al s aw).1;rw [<- e];exact Ew (hw d hd).nm
noncomputable def JK (t:bC):bo:=fun vs H Q _=>∃ (pl c:Addr) (n:Int) (ds:List aD) (z:Nat) (sp:List ba) (i:Nat) (d:aD) (m:Int),vs=[.ref pl,.str d.name]/\la t H pl c n ds z sp/\(0 < z/\z <= 1000)/\om d.name/\ds[i]? = some d/\(m ∈ jQ z sp d.name/\∀ k ∈ jQ z sp d.name,k <= m)/\∀ p,H p=none->Q (.ref p) (upd H p (.tup [.int m,.int ((jQ z sp d.name).idxOf m:Nat)]))
theorem Xr:cq P base T 5 t.u2 t.dl vg (JK t):=by
 refine (YI T).quiet fun vs H Q E h=>?_
 obtain ⟨pl,c,n,ds,z,sp,i,d,m,rfl,dr,az,a9,hd,hm,q⟩:=h;exact ⟨pl,c,n,ds,z,sp,d.name,rfl,dr,az,a9,.inl ⟨i,d,m,hd,rfl,hm,q⟩⟩
theorem afD:cq P base T 10 t.GL t.BK tk (OR K):=by
 exists T.adj.ok jd,9
 obtain ⟨a,ns,rfl,Yp,mG,q⟩:=h;have f5:bg P w K ao base cH 9 t.zq t.yY BF (gx K a ns):=(Eo T a ns mG).mono (by decide);have ad3:bg P w K ao base cH 9 t.yu t.Bk tk (QJ K a ns):=(Yb T a ns mG).mono (by decide);have ZD:bg P w K ao base cH 9 t.AE t.yO ry (Lv K):=(Ve T).mono (by decide);have aej:bg P w K ao base cH 9 t.xB t.zJ Bx (Rx K a ns):=(YA T a ns mG).mono (by decide);have aew:bg P w K ao base cH 9 t.xt t.yW ["text"] (Pp t):=(acY T).mono (by decide);have V4:bg P w K ao base cH 9 t.BI t.zo zX (JP t):=abu T;have Yi:bg P w K ao base cH 9 t.Bd t.AB y2 (UF t):=(TU T).mono (by decide);have WO:bg P w K ao base cH 9 t.u2 t.dl vg (JK t):=(Xr T).mono (by decide);have abS:bg P w K ao base cH 9 t.zz t.z_ xW (N_ K):=(Vv T).mono (by decide);have agV:bg P w K ao base cH 9 t.yl t.xu Bo (K_ K):=(adB T).mono (by decide);have We:bg P w K ao base cH 9 t.ii t.xV zP (tz K):=(aer T).mono (by decide);have air:=XG au;have bQ:=lV au;refine ⟨_,(db (bJ (i:=1) jd.aC (cb ad3 au T.aaP T.bn.bF T.Y9 (af (U 0) aB)))
   (db (bJ (i:=2) jd.aC (bX dZ (U 1) aR))
   (db (bJ (i:=3) jd.aC (cb aew au T.Yl T.Dh.bF T.TA (af (cb ZD au T.YP T.Fi.bF T.X2 (af (bX dZ (U 1) aR) (af (U 2) aB))) aB)))
   (db (bJ (i:=4) jd.aC (cb aej au T.Sz T.EP.bF T.abj (af (U 0) (af (bX dZ (U 1) aR) (af (U 2) aB)))))
   (db (bJ (i:=5) jd.aC (bX dZ (U 4) aR))
   (db (bJ (i:=6) jd.aC (Db j6 cC (rq tj rfl T.r3 tp (af (U 5) aB))))
   (db (er fG rfl (fk (bX dZ (U 4) aR)) (b' (i:=7) jd.aC) (aY (bJ (i:=6) jd.aC (Db j6 (Db j6 (Db j6 (Db j6 (Db j6 (Db j6 (U 6) cC) (bX ew (U 7) aR)) cC) (rq tj rfl T.r3 tp (af (bX ew (U 7) aR) aB))) cC) (rq tj rfl T.r3 tp (af (bX ew (U 7) aR) aB))))))
   (db (yt (i:=8) jd.aC rfl (pz rfl) (cb V4 au T.Vh T.Tm.bF T.Tc (af (U 3) (af (U 6) aB))))
   (db (dD (da mj (bX dZ (U 8) aR) aR (cT _)) (aY (b1 (jl hi (bX dZ (U 8) aR) aR (cT _)))) dI)
   (db (yt (i:=9) jd.aC rfl (pz rfl) (Db dj aR (cb f5 au T.gD T.fY.bF T.gw (af (U 0) (af aR (af (U 5) aB))))))
   (db (dD (da m8 (fL ac rfl T.hH hT (af (U 0) aB)) aR (cT _)) (aY (yt (i:=9) jd.aC rfl (pz rfl) (Db dj aR (Db h5 (bX ew (U 0) (Db RO (fL ac rfl T.hH hT (af (U 0) aB)) aR)) (Db S9 aR aR))))) dI)
   (db (r4 (i:=10) jd.aC rfl (mE rfl) rfl (kV rfl T.lf (af (Db dj (U 5) aR) aB)) (iE (sc:=bz A6) rfl (by ac_nf)) (N:=["_law_k","_law_told","_law_far"]) (sel:=[none,some 8,some 9]) (iS (M:=Dq) (by ac_nf)) (gN.of (fun _ _ _ _=>(b' (i:=0) (gb (N:=["_law_k","_law_told","_law_far"]) (by ac_nf) rfl))) (fun _ _ _ _=>⟨_,kP,by walk_at "B"⟩) (fun _ _ _ _=>⟨_,(cb Yi au T.U0 T.C_.bF T.TL (af (bX dZ (U 1) aR) (af (Db dj (U 2) (U 0)) aB))),by walk_at "B"⟩)) rfl)
   (db (dD (k8 (iW (cb abS au T.SU T.HI.bF T.VK (af (bX dZ (U 1) aR) (af (U 2) (af (U 10) aB)))))) (aY (b1 hI)) dI)
   (db (er fG rfl (fk (U 2)) (Ay (i:=11) jd.aC rfl (pz rfl)) (db (r4 (i:=12) jd.aC rfl (mE rfl) rfl (fk (U 10)) (iE (sc:=bz A6) rfl (by ac_nf)) (N:=["_law_one","_law_way"]) (sel:=[none,some 11]) (iS (M:=Dq) (by ac_nf)) (gN.of (fun _ _ _ _=>(b' (i:=0) (gb (N:=["_law_one","_law_way"]) (by ac_nf) rfl))) (fun _ _ _ _=>⟨_,kP,by walk_at "B"⟩) (fun _ _ _ _=>⟨_,(kN bQ (U 0) (bX dZ (U 1) aR) (fun _ _=>rfl)),by walk_at "B"⟩)) rfl)
   (aY (dD (fu.pt (nc (k8 (iW (cb agV au T.afN T.Pi.bF T.Tn (af (U 11) (af (U 12) aB))))) (n4 (k8 (iW (cb We au T.aeH T.ol.bF T.abO (af (U 11) (af (U 12) (af (bX dZ (cb WO au T.WM T.F4.bF T.S3 (af (bX dZ (U 8) aR) (af (bX dZ (U 11) aR) aB))) aR) (af (U 5) aB)))))))))) (aY (b1 hI)) dI))))
   (aY (b1 hI)))))))))))))))),?_⟩
 have fQ:∀ k:Nat,k <= 10000->k <= sizeLine:=fun k h=>c1 h (by decide)
 refine hj (fun aS I=>Sc K a ns I/\∃ cX wl n ds,I cX=some (.tup [.int n,.ref wl])/\ic I wl ds/\kG n ds/\(4 <= n/\n <= 12)/\(1 <= ds.length/\ds.length <= 5)/\aS=[~~~a,~~~cX,none,none,none,none,none,none,none,none,none,none,none]) (fun fD bj=>?_) fun gu a5=>?_
 .nofun;exact ⟨rfl,Yp,fun cX wl n ds I s1 kX ax jF US aF aA=>bj _ _ ⟨kX,cX,wl,n,ds,ax,jF,US,aF,aA,rfl⟩⟩
 rintro fJ H1 ⟨kX,cX,wl,n,ds,ax,jF,D,aF,aA,rfl⟩;have cm:=D.N9 (by omega) (by omega);subst a5;refine hj (fun aS I=>I=H1/\aS=[~~~a,~~~cX,~~~wl,none,none,none,none,none,none,none,none,none,none]) (fun fD bj=>?_) fun gu a5=>?_
 .nofun;exact ⟨_,bS.of ax,_,cR (j:=1) rfl,bj _ _ ⟨rfl,rfl⟩⟩
 rintro fJ ay ⟨rfl,rfl⟩;subst a5;refine hj (fun aS I=>aI ay I/\Sc K a ns I/\∃ c,ad t I c n ds/\aS=[~~~a,~~~cX,~~~wl,~~~c,none,none,none,none,none,none,none,none,none]) (fun fD bj=>?_) fun gu a5=>?_
 .nofun;refine ⟨_,bS.of ax,_,cR (j:=0) rfl,n,wl,ds,rfl,jF,D,by omega,by omega,kX.bh,?_⟩;exact ⟨n,ds,rfl,cm,kX.bh,fun c I s2 cP C=>bj _ _ ⟨s2,kX.same s2 cP,c,C,rfl⟩⟩
 rintro fJ bA ⟨s3,nH,c,ro,rfl⟩;have iQ:=jF.same s3;have bM:=s3 _ _ ax;subst a5;refine hj (fun aS I=>aI bA I/\Sc K a ns I/\∃ (iy aP:Addr) (qs:List Addr) (z:Nat) (sp:List ba),I iy=some (.tup [.int z,.ref aP])/\SL I aP qs sp/\mh z ds sp/\(10 <= z/\z <= 80)/\aS=[~~~a,~~~cX,~~~wl,~~~c,~~~iy,none,none,none,none,none,none,none,none]) (fun fD bj=>?_) fun gu a5=>?_
 .nofun;exact ⟨_,bS.of bM,_,cR (j:=0) rfl,n,wl,ds,rfl,nH,iQ,D,aA,fun iy aP qs z sp I s4 nY f7 my gQ az=>bj _ _ ⟨s4,nY,iy,aP,qs,z,sp,f7,my,gQ,az,rfl⟩⟩
 rintro fJ bY ⟨s4,nY,iy,aP,qs,z,sp,f7,lW,gQ,az,rfl⟩;have my:=iQ.same s4;have xv:=ro.same s4;have Z9:=s4 _ _ bM;subst a5;refine hj (fun aS I=>I=bY/\aS=[~~~a,~~~cX,~~~wl,~~~c,~~~iy,some (.int (z:Nat)),none,none,none,none,none,none,none]) (fun fD bj=>?_) fun gu a5=>?_
 .nofun;exact ⟨_,bS.of f7,_,cR (j:=0) rfl,bj _ _ ⟨rfl,rfl⟩⟩
 rintro fJ dq ⟨rfl,rfl⟩;have M4:=acP D (by omega) (z:=z) (by omega) gQ;have IJ:∀ s ∈ sp,jT s.name/\(0 <= s.b/\s.b < 1000)/\0 <= s.n/\s.n < 1000:=fun s aw=>by
  have:=gQ.al s aw;exact ⟨M4.Ip s aw,by omega,by omega,by omega⟩
 have zl:∀ i,(gq z (sp.take i)).length <= 5000:=fun i=>YF (by omega) (fun s aw=>IJ s (D3 aw)) (by rw [gV];have:=gQ.ln;omega)
 subst a5;refine hj (fun aS I=>I=dq/\aS=[~~~a,~~~cX,~~~wl,~~~c,~~~iy,some (.int (z:Nat)),some (.str (gq z [])),none,none,none,none,none,none]) (fun fD bj=>?_) fun gu a5=>?_
 .nofun;have ahG:(ah (toString (z:Int))).length <= 8:=(g0 (v:=(z:Int)) (by omega) (by omega)).1;refine ⟨qA (by omega),fQ _ (by rw [show (ah "round ").length=6 by ac_nf];omega),?_⟩;rw [show ah "round " ++ ah (toString (z:Int))=gq z [] from (X5 z).symm];exact bj _ _ ⟨rfl,rfl⟩
 rintro fJ eK ⟨rfl,rfl⟩;subst a5;refine hj (fun aS I=>I=eK/\∃ cw,aS=[~~~a,~~~cX,~~~wl,~~~c,~~~iy,some (.int (z:Nat)),some (.str (gq z sp)),cw,none,none,none,none,none]) (fun fD bj=>?_) fun gu a5=>?_
 .nofun;refine ⟨_,bS.of f7,_,cR (j:=1) rfl,_,rfl,⟨_,aK.of lW.ae⟩,?_⟩;refine du.list (xs:=qs.map V.ref) (fun i σ I=>I=eK/\∃ cw,σ=[~~~a,~~~cX,~~~wl,~~~c,~~~iy,some (.int (z:Nat)),some (.str (gq z (sp.take i))),cw,none,none,none,none,none]) ?_ ?_ ?_ ?_
  .exact ⟨rfl,_,rfl⟩
  .rintro i σ I ai ⟨rfl,_⟩;exact aK.of lW.ae
  .rintro i v σ I aM ⟨rfl,x,rfl⟩;obtain ⟨gH,eT,rfl⟩:=cS aM;have q3:i < sp.length:=by rw [<- lW.ak];exact (cg.mp eT).1
   have jm:sp[i]? = some sp[i]:=b7 q3;have dN:aK K I gH (n1 sp[i]):=aK.of (lW.al i gH _ eT jm);generalize sp[i]=dc at jm dN;have g:=IJ dc (c2 jm);have t1:=zl i;have c4:=g.1.1;have cP:(ah (toString dc.b)).length <= 8:=(g0 (v:=dc.b) (by omega) (by omega)).1;have d3:(ah (toString dc.n)).length <= 8:=(g0 (v:=dc.n) (by omega) (by omega)).1;have hf:(ah "\nfree ").length=6:=by ac_nf
   have nU:(ah " ").length=1:=by ac_nf
   have t0:d_ (n1 dc) 0=some (.str dc.name):=cR (j:=0) rfl;have aaB:d_ (n1 dc) 1=some (.int dc.b):=cR (j:=1) rfl;have w7:d_ (n1 dc) 2=some (.int dc.n):=cR (j:=2) rfl;nofun;refine ⟨fQ _ (by omega),_,dN,_,t0,_,rfl,fQ _ (by rw [kl];omega),fQ _ (by simp only [kl];omega),_,dN,_,aaB,_,rfl,qA (by omega),fQ _ (by simp only [kl];omega),fQ _ (by simp only [kl];omega),_,dN,_,w7,_,rfl,qA (by omega),fQ _ (by simp only [kl];omega),?_,_,rfl⟩;rw [i1 jm,ael]
  .rintro σ I ⟨rfl,x,rfl⟩;rw [o9 (by rw [a',lW.ak];exact b2 _)];exact bj _ _ ⟨rfl,_,rfl⟩
 rintro fJ hv ⟨rfl,cw,rfl⟩;subst a5;refine hj (fun aS I=>aI hv I/\aV I/\∃ eF,(I eF=some (.tup [.int 2,.bH])\/∃ pl,I eF=some (.tup [.int 1,.ref pl])/\jU ds sp=none/\lh ds z sp=none/\lx n z sp ds=none/\la t I pl c n ds z sp)/\aS=[~~~a,~~~cX,~~~wl,~~~c,~~~iy,some (.int (z:Nat)),some (.str (gq z sp)),cw,~~~eF,none,none,none,none]) (fun fD bj=>?_) fun gu a5=>?_
 .nofun;exact ⟨c,n,ds,z,sp,rfl,xv,M4,nY.bh,fun eF I g4 pR kA=>bj _ _ ⟨g4,pR,eF,.inl kA,rfl⟩,fun eF pl I bb ej eV g4 pR dr kA=>bj _ _ ⟨g4,pR,eF,.inr ⟨pl,kA,bb,ej,eV,dr⟩,rfl⟩⟩
 rintro fJ hx ⟨g4,pR,eF,Uc,rfl⟩;subst a5;simp only [eu];rcases Uc with kA | ⟨pl,kA,bb,ej,eV,dr⟩
 .refine ec true (fun Q a8=>?_) (fun _=>?_) (fun ar=>nomatch ar)
  .nofun;exact ⟨_,bS.of kA,_,cR (j:=0) rfl,rfl,a8⟩
  .nofun;exact ⟨_,bS.of kA,_,cR (j:=0) rfl,rfl,q _⟩
 refine ec false (fun Q a8=>?_) (fun ar=>nomatch ar) (fun _=>?_)
 .nofun;exact ⟨_,bS.of kA,_,cR (j:=0) rfl,rfl,a8⟩
 have nT:=nY.same g4 pR;have ve:=my.same g4;have ado:=g4 _ _ Z9;simp only [qT,eu];exists (fun aS I=>I=hx/\∃ bV:Int,aS=[~~~a,~~~cX,~~~wl,~~~c,~~~iy,some (.int (z:Nat)),some (.str (gq z sp)),cw,~~~eF,some (.int bV),none,none,none]),0
 ·(nofun; repeat (dsimp only [gx];nofun));exact ⟨nT,by decide,by decide,by omega,bj _ _ ⟨rfl,_,rfl⟩⟩
 rintro fJ lg ⟨rfl,Tv,rfl⟩;subst a5;simp only [eu];exists (fun aS I=>I=lg/\∃ bV:Int,aS=[~~~a,~~~cX,~~~wl,~~~c,~~~iy,some (.int (z:Nat)),some (.str (gq z sp)),cw,~~~eF,some (.int bV),none,none,none]),0
 .refine ec (decide (0 < ns.length)) (fun Q a8=>?_) (fun r=>?_) (fun r=>?_)
  .nofun;refine ⟨_,.inl nT.seq,?_⟩;rw [a',show decide (0 < (ns.length:Int))=decide (0 < ns.length) from decide_eq_decide.mpr (by omega)];exact a8
  .have EW:=of_decide_eq_true r;have cx:ns.length / 2 < ns.length:=by omega
   have Ia:d_ (ns.map V.int) ((ns.length:Int) / 2)=some (.int (ns[ns.length / 2]'cx)):=by
    rw [show ((ns.length:Int) / 2)=((ns.length / 2:Nat):Int) by omega];exact cR (by rw [eA,b7 cx];rfl)
   nofun;refine ⟨_,.inl nT.seq,?_⟩;rw [a'];exact ⟨⟨by decide,by decide⟩,_,nT.seq,_,Ia,⟨by decide,by decide,by decide⟩,_,rfl,Int.pow_pos (by decide),bj _ _ ⟨rfl,_,rfl⟩⟩
  .nofun;exact bj _ _ ⟨rfl,_,rfl⟩
 rintro fJ ks ⟨rfl,bV,rfl⟩;subst a5;clear Tv;have ar:∀ d ∈ ds,eL z (cI d) (cK d) d.least (b8 d.name sp):=fun d hd=>aek D.aC (by omega) ej hd (D.al d hd).1.of.1 fun s aw=>(gQ.al s aw).2.2.2.1
 simp only [eu];exists (fun aS I=>aI ks I/\aV I/\∃ cY rs,v_ z sp ds bV I cY rs (z + 14)/\aS=[~~~a,~~~cX,~~~wl,~~~c,~~~iy,some (.int (z:Nat)),some (.str (gq z sp)),cw,~~~eF,some (.int bV),~~~cY,none,none]),0
 .nofun;refine ⟨by omega,by omega,?_⟩;rw [show ((z:Int) + 14).toNat=z + 14 by omega];refine dm.range (fun i ys I=>∃ rs:List Addr,ys=rs.map V.ref/\rs.length=i/\(∀ (j:Nat) (r:Addr),rs[j]? = some r->I r=some (.cE (i8 ds fun d=>bx (fl z sp d (bV + (j:Nat))))))/\aI ks I/\aV I) (fQ _ (by omega)) ⟨[],rfl,rfl,fun j r h=>(by simp at h),aI.refl _,pR⟩ ?_ ?_ ?_
  .rintro i ys I ai aX;ac_rfl
   obtain ⟨rs,rfl,jx,_,_,_⟩:=aX;subst a5;rw [a'];omega
  .rintro i ys I ai ⟨rs,rfl,jx,al,a9,bh⟩ N bb;dsimp only at bb;nofun;have afr:=a9 _ _ kA;refine ⟨Sub.name,_,bS.of afr,_,cR (j:=1) rfl,pl,c,n,ds,z,sp,fun d=>bx (fl z sp d (bV + (i:Nat))),bV + (i:Nat),rfl,dr.same a9,by omega,fun d hd=>⟨D.small hd,Sf (ar d hd) _⟩,bh,fun p ay s2 cP aq dV=>bb _ _ ⟨rs ++ [p],by rw [eM];rfl,by rw [dP,jx];rfl,fun j r aZ=>?_,a9.trans s2,cP⟩⟩;rcases iL aZ with ⟨ef,dy⟩ | ⟨ef,rfl⟩
   .exact s2 _ _ (al j r dy)
   .rw [ef,jx];exact dV
  .rintro ys I ⟨rs,rfl,jx,al,a9,bh⟩ p aq;exact bj _ _ ⟨a9.trans (bk aq),bh.upd,p,rs,⟨aU,jx,fun i r e=>(bk aq) _ _ (al i r e)⟩,rfl⟩
 rintro fJ tv ⟨me,yh,cY,rs,LG,rfl⟩;have JX:=ve.same me;have R0:=me _ _ ado;have V6:=dr.same me;have S':=me _ _ kA;have Nr:∀ s ∈ sp,1 <= s.n/\s.n <= (z:Int):=fun s aw=>by have:=gQ.al s aw;omega
 have F2:Mr n z sp ds:=fun d hd e he bR hm u j aZ hf=>WE (by omega) Nr bb eV hd he bR hm aZ hf
 subst a5;simp only [eu];refine wf (fun b I=>b=false/\aI tv I/\aV I) (fun Q a8=>?_) (fun I r=>by cases r.1) (fun r2 r=>?_)
 .nofun;exact ⟨_,bS.of R0,_,cR (j:=0) rfl,n,wl,ds,cY,rs,z,sp,bV,z + 14,rfl,JX,D,by omega,LG,F2,by omega,yh,fun I s' g8=>⟨_,rfl,a8 _ _ ⟨rfl,s',g8⟩⟩⟩
 obtain ⟨_,n3,oc⟩:=r;have SA:=LG.same n3;have afe:=V6.same n3;have ad_:=n3 _ _ S';obtain ⟨ws,cz,fh,si⟩:=JX.same n3;simp only [qT];nofun;refine ⟨⟨_,aK.of cz⟩,?_⟩;refine du.list (xs:=ws.map V.ref) (fun i σ I=>aI r2 I/\aV I/\∃ m1 G8,σ=[~~~a,~~~cX,~~~wl,~~~c,~~~iy,some (.int (z:Nat)),some (.str (gq z sp)),cw,~~~eF,some (.int bV),~~~cY,m1,G8]) ?_ ?_ ?_ ?_
 .exact ⟨aI.refl _,oc,_,_,rfl⟩
 .rintro i σ I ai ⟨a9,_⟩;exact aK.of (a9 _ _ cz)
 .rintro i v σ I aM aX;ac_rfl
  obtain ⟨a9,bh,m1,G8,rfl⟩:=aX;obtain ⟨de,pG,rfl⟩:=cS aM;have hl:i < ds.length:=by rw [<- fh];exact (cg.mp pG).1
  have hV:ds[i]? = some ds[i]:=b7 hl;have k3:=si i _ _ pG hV;have n6:=c2 hV;subst a5;generalize ds[i]=d at hV k3 n6;have X1:=ar d n6;have O:=Sb X1 bV (z + 14);have rJ:=SA.same a9;simp only [fO,eu,jv,je];exists (fun aS ay=>aI I ay/\aV ay/\∃ cl,ay cl=some (.lst (hX (jD z sp d bV (z + 14))))/\aS=[~~~a,~~~cX,~~~wl,~~~c,~~~iy,some (.int (z:Nat)),some (.str (gq z sp)),cw,~~~eF,some (.int bV),~~~cY,~~~de,~~~cl]),0
  .nofun;refine ⟨⟨_,aK.of rJ.ae⟩,?_⟩;refine dm.xI (xs:=rs.map V.ref) (zs:=hX (jD z sp d bV (z + 14))) (aK.of rJ.ae) (fQ _ (by rw [a',rJ.ak];omega)) (by rw [a',rJ.ak,show (hX (jD z sp d bV (z + 14))).length=(jD z sp d bV (z + 14)).length from a' ..,uh]) (fun j x y N av bI bb=>?_) (fun p aq=>?_)
   .obtain ⟨VZ,IE,rfl⟩:=cS av;have aZ:j < z + 14:=by rw [<- rJ.ak];exact (cg.mp IE).1
    have adl:y=.str (bx (fl z sp d (bV + (j:Nat)))):=by
     unfold hX at bI;rw [eA,r7 aZ] at bI;exact (eS bI).symm
    subst adl;nofun;exact ⟨Sub.name,_,bS.of (a9 _ _ k3),_,pW _,_,HL D.aC (rJ.al j VZ IE) hV,bb⟩
   .exact bj _ _ ⟨bk aq,bh.upd,p,aU,rfl⟩
  rintro cW afK ⟨DO,Uq,cl,LH,rfl⟩;have R7:∀ p ∈ b8 d.name sp,1 <= p.2/\p.2 <= (z:Int):=fun p aq=>by
   obtain ⟨s,aw,rfl⟩:=dX.mp aq;exact Nr s (j2.mp aw).1
  have yj:b8 d.name sp ≠ []:=fun e=>by
   unfold jU at bb;have:=sb.mp bb d.name (dX.mpr ⟨d,n6,rfl⟩);rw [e] at this;exact this rfl
  obtain ⟨m,OH,i9⟩:=Ku (l:=jQ z sp d.name) (fun e=>by have:=congrArg md e;rw [D8] at this;simp at this;omega);obtain ⟨m0,agA⟩:=YX (by omega) R7 yj OH i9;subst a5;dsimp only;refine wf (fun b I=>b=false/\aI afK I/\aV I) (fun Q a8=>?_) (fun I r=>by cases r.1) (fun acB r=>?_)
  .nofun;have Om:=DO _ _ (a9 _ _ k3);have Kd:=a9.trans DO;refine ⟨de,cl,d,jD z sp d bV (z + 14),rfl,Om,(D.al d n6).1.k,LH,O,by rw [uh];omega,Uq,fun acB q9 Ef=>⟨_,rfl,?_⟩⟩;rw [if_neg (by decide)];refine ⟨_,bS.of ((Kd.trans q9) _ _ ad_),_,cR (j:=1) rfl,_,bS.of (q9 _ _ Om),_,pW _,pl,c,n,ds,z,sp,i,d,m,rfl,afe.same (Kd.trans q9),by omega,D.small n6,hV,⟨OH,i9⟩,fun p aq=>⟨_,rfl,_,bS.of aU,_,cR (j:=0) rfl,?_⟩⟩;refine ⟨de,cl,jD z sp d bV (z + 14),m,z,rfl,(bk aq) _ _ (q9 _ _ LH),O.lt,by rw [uh];omega,fun kF jI=>?_,_,rfl,a8 _ _ ⟨rfl,q9.trans (bk aq),Ef.upd⟩⟩;rw [uh] at jI;obtain ⟨j,aZ,hf⟩:=agA (bV + (kF:Nat));refine ⟨j,aZ,?_⟩;rw [r7 (by omega),show bV + ((kF + j:Nat):Int)=bV + (kF:Nat) + (j:Nat) by omega,hf]
  .obtain ⟨_,q9,Ef⟩:=r;nofun;exact ⟨(a9.trans DO).trans q9,Ef,_,rfl⟩
 .rintro σ I aX;ac_rfl
  obtain ⟨a9,bh,m1,G8,rfl⟩:=aX;subst a5;nofun;exact q _
end My
structure PySem.W.Fast:Prop where(tw4256070390129265903 tw1596814402724737031 tw15478473932520756058 tw3495634366488633125 tw1466339538513657525 tw6126758390535373877 tw12710706496978583229 tw7552522213168793912 tw1429843941161754604 tw3086042512354737439 tw3129862435688936683 tw4985206139000735629 tw1484093092542521223 tw7489448943819224525 tw8240007595214710183 tw6920812460015020941 tw14252690317678115874 tw9111219606353365803 tw8416533307322477730 tw5347201669286566651 tw409876108471006346 tw4767610315006249413 tw3055799280058952103 tw6615259233880759274 tw10705727887594933931 tw11280903987403840396 tw9783254147856103141 tw4803225146863331865 tw12952471278682582233 tw13712338730836977937 tw11747537239957689935 tw1881050395065403683 tw1516289628304696959 tw15625246315750881103 tw13494039925903354114 tw15363801652305990993 tw8623306691691401657 tw4334151236841155995 tw6545699601158254539 tw18388264498169221 tw724394189004570796 tw17834959147970538413 tw10196048223162579072 tw12760293626627854231 tw2188084207358352863 tw13305012735721641419 tw13786378332308416287 tw11628032925796793668 tw1859533800839277932 tw3962045999761281449 tw4994285974890815382 tw6465319155020887670 tw17691264456522485368 tw10103554818078237966 tw13203780468652311811 tw998153412631093325 tw13742104411382188281 tw3421886041479803980 tw7163986798733248941 tw2078227528082672993 tw16035515833618062638 tw4420916367211000052 tw8758488212770375064 tw1414032507752008877 tw9583697504088177170 tw9419016032194156424 tw14923268028210628081 tw6618098125411153032 tw15282866063116119770 tw8275940198877374331 tw2300784852926597748 tw6908152741848338101 tw8655013127606034945 tw10193060298751833146 tw4494615386873878895 tw3675047510214982978 tw16199198322553899870 tw861730567370230085 tw2937998671578029021 tw7944635630989534236 tw3308746031828852971 tw16278049582562093501 tw3290965300133132705 tw8617727636320437654 tw5301248255763196042 tw7698501479924454371 tw442671651184018556 tw9103758002956635852 tw5051969096451742209 tw9424659497822578195 tw12655260181039145840 tw12185771029196345512 tw872716935982250580 tw12174043349323664473 tw18358130329359690103 tw2573131517869202334 tw3232604050953567685 tw16890156551961043120 tw4356058895402296507 tw1175327612817766708 tw12513399733218170852 tw16619546096384100982 tw3743532819884413193 tw2421671186819384643 tw11873877654463653320 tw12587817957535671818 tw16814977732423817071 tw4837937116755928147 tw9938157873327989186 tw41264025070671051 tw8539545908669267321 tw7769547982552034183 tw5412109648591043209 tw235480907260333369 tw15894864214070801722 tw17217047156901950342 tw1714102399383323151 tw17330713834369469874 tw11452048624609525767 tw9414934626394080191 tw8527043853904011539 tw11881856631741220738 tw2515911341173593507 tw3086920225110277588 tw11029764152546189170 tw3484475050520049893 tw11607392125598439962 tw13565923878708414794 tw14833438849382681088 tw8374629220048047941 tw3156707904226283862 tw11071497437792714959 tw3676203624202805826 tw11701557843446443425 tw8672684267313197870 tw12915089144003997937 tw10456619900858761792 tw12389197592199078613 tw10970935827627916097 tw1985456792606937024 tw16458019063970286305 tw8080748760301194378 tw2781943103549055225 tw9415312825780494341 tw11587293352910281972 tw13046500600595890001 tw2597877698450782029 tw15383281625173016882 tw7461029708152849597 tw5624456830917794314 tw7476184177890852632 tw6006306037971748654 tw4847709319088985640 tw6352488165428771374 tw13428333419646895792 tw8857512263421749618 tw1845225325964580263 tw9817593736381374315 tw10645126642705753359 tw2729283329770454423 tw18340132388415673063 tw7378423105656692222 tw4536121573904789249 tw17964358283660798697 tw4974536266183323337 tw3295673407543705812 tw7130908437755608936 tw12677760433353127056 tw9298749624243932071 tw8933107272367266898 tw12613293939143976959 tw4079335563900242047 tw5395218306501496212 tw4489133954511216288 tw13083939461151636861 tw3113439115288593810 tw15694920653131188769 tw6678883811148651780 tw6442913883238777321 tw10248363240124407059 tw16483968780685373954 tw1831751741246094251 tw14396824776528810810 tw14429956018726085555 tw3595299635927111964 tw5316822092848628850 tw9207398814592405376 tw14666485105887096566 tw12235032312108611304 tw10036122106115478093 tw13885035650896104260 tw9389132743334502129 tw14324282880294354306 tw7786950472961785918 tw12075585412391032230 tw5389453153651021864 tw6117400139486736899 tw7424311092184828913 tw13125739419851625451 tw17656923909012233289 tw2544427321349145466 tw8134058257894691213 tw13888617553344932033 tw3410479369242843964 tw487451516819467796 tw1682446451049448411 tw4047689733256749353 tw1300971283544986886 tw14954465847013513527 tw17488200534698606543 tw12520460210862155802 tw4337356888396215827 tw7037044133906694778 tw18099491266503402552 tw3305455672879205211 tw2621800226484156620 tw10405218310394688465 tw11569719037730222252 tw9885488697452613408 tw4708967793911604190 tw12365538818134391876 tw17929274535142918201 tw13856063023732801249 tw9422327598956633098 tw12285958137249484733 tw9599635085502704505 tw13942049319956151380 tw16345239210868446983 tw8485723200915846058 tw15160629884736904795 tw11847798571921980235 tw5959282128327462715 tw12098549654611060213 tw17246094607683636464 tw16259967144385657058 tw13049922054669250169 tw14688529631151845295 tw3112778534692625273 tw16142387300199256651 tw8799259695310586094 tw3487843653788774531 tw3056094685807655011 tw3494568672234094853 tw566998208798917385 tw7002039730177698507 tw17817567490482862852 tw2947932066454994775 tw4775799106853367458 tw514731530400816766 tw7437036346237757591 tw12173708779742641536 tw18434847638403909494 tw7145611578802754200 tw228055658584146405 tw16475173890439034157 tw5034722213187176730 tw12438592152312012466 tw7086829302699895812 tw9696207297001525636 tw4843658454830700120 tw5335218589342722937 tw9822543905118229638 tw7215946813990073470 tw17175908495145416841 tw17760535380499242296 tw2367918196174358063 tw12712724196593925791 tw9831530862443414238 tw11500569308683440743 tw207138229130620452 tw3181260668809253796 tw3662976758641510359 tw2315700896898224708 tw4287850898403890078 tw8301977669696325884 tw14482105701454935818 tw5653631411586215429 tw706142504456428227 tw18431241709352314717 tw60381729568075123 tw45342798266903890 tw18246851495303820250 tw11818714052758560701 tw4032851589511358372 tw6866447942441421846 tw3180319173191570121 tw262188367227312796 tw4972488625466862730 tw7904148632675864893 tw18056954814346545876 tw11628249813415149612 tw12885105333814300986 tw1383019353948715586 tw11659976284597705920 tw13011124542148028655 tw3663410534210318567 tw989488251525199855 tw624770043728312516 tw12594958185057568667 tw7972970370072327728 tw6060472594356568824 tw10389373799491465015 tw6708928979319030677 tw12417332021143572891 tw8897800530564117264 tw5463496714462601007 tw15439917114462954982 tw16687870006514795623 tw9140554974600842938 tw5113219404695875832 tw5118424184442968521 tw15242935513270808476 tw14651628900708564351 tw15916381866983375584 tw8817459537331421998 tw694632868404720960 tw1233706459317997911 tw13678540066560035023 tw9961703466540331114 tw13228484124392142941 tw373800518578543565 tw2329904798728015906 tw10482883432647301146 tw15565364847464523451 tw13528278382354719421 tw6269983299851853854 tw12907049543712801034 tw1334571391467194201 tw5966932007108477326 tw1966555259984499299 tw16360664909351483891 tw10856152553783718764 tw8130186037631671583 tw7719321493545239110 tw12121323497412542575 tw13939376592275768989 tw7789539474971787583 tw5799178819007616077 tw8882168022580966714 tw17704769412596881715 tw8865800721370087043 tw11117153733950313365 tw4611287163407580499 tw14107952625344599488 tw18248293904533296786 tw4951725533634187820 tw15075842141770909740 tw3638063146019933610 tw961558706306595960 tw423244951177115522 tw14099316519353703429 tw1030075384622869823 tw2273955310620243071 tw6323865797740547938 tw14800676671188849428 tw11765460168960287962 tw11205447486543477073 tw4222133136112174344 tw9743950570837330443 tw16625398854751928897 tw9944169203205037764 tw17997432647547336426 tw8400918077401363184 tw12150933590208968416 tw12884398142625028413 tw977239816372777149 tw10347000963588960825 tw2953921223125578294 tw13307440924538022230 tw12468241746433647651 tw18038988223692325812 tw10545455093706931882 tw7792481897528184739 tw14282919614324039006 tw17544112162407705175 tw811817504465185656 tw17745855108345680077 tw4410216703761772340 tw7590999754910390565 tw12559814862563961092 tw14865669453762362801 tw13158825206732961357 tw5850999132598755541 tw9128564509396583722 tw10068341224136168783 tw3581902467375733777 tw13194089715848791871 tw16675299177708143683 tw16241970757135602016 tw12121443211715893835 tw6127676657693533637 tw1499537430947556618 tw14689625593026970673 tw12555038711045647214 tw9032918183898431143 tw81081231448328394 tw1104312630051416051 tw11106742870729583909 tw11886300052037454069 tw10998156599346396047 tw5814214250737830252 tw14222886674306353850 tw9859647547333179508 tw15688722362477228452 tw4436575929756871854 tw6783873172767230421 tw14710376516299051731 tw6579268453584083033 tw16707900788591287250 tw1257131190071050814 tw11621974069977345289 tw7682564779258192707 tw3170860257740083535 tw4700285957928136029 tw16748360496285897886 tw9370662668766248280 tw18010679799077177165 tw11834587836882117921 tw13676275829656334690 tw8569308601924417950 tw5570142741741432664 tw16555491608430773534 tw200660720134570145 tw15429789865018015329 tw14919341842919217531 tw7890335671103735621 tw209050354289488679 tw7509887139864699010 tw128178953261660649 tw16812884811746419033 tw10102219384736604330 tw14211159483800285348 tw792094998753827469 tw2323323002133853704 tw4793945838366828019 tw6148336661642321766 tw13971952710624526195 tw6810783913985481955 tw1718947569678800197 tw15113444513190353037 tw11447414851988385381 tw8510634436993687401 tw3019200016456098183 tw11271823347191161854 tw9571804243747256479 tw7548520007786298336 tw9076170541599398121 tw7380428783779021148 tw15036862366926524422 tw12691608325186073558 tw13106289006404514441 tw3672105656682682994 tw6019074367324354627 tw14929607475126105729 tw6350379860238998252 tw15305333309350206902 tw15803423316325664767 tw2381755134043357130 tw2799459241385645034 tw10911767995231251562 tw10951042647457481411 tw13762124990719653494 tw3449432621479460121 tw9170174158318507594 tw7084533963567684175 tw11917574278955049552 tw10633735779846739408 tw4802350733615333122 tw312065782794176762 tw7416602471729385701 tw15694683401914795589 tw3443347014520207193 tw14602464823960136146 tw4948310941430149520 tw3712831323318843197 tw13773478047747219106 tw3887250499720938224 tw7681421222359678240 tw17816954715592761085 tw618299136275212808:True)
open PySem PySem.W PyProof.Rows
set_option maxRecDepth 100000 in
set_option maxHeartbeats 0 in
theorem PySem.Challenge.cw_lampway_k19_whole_round_holds : PySem.Challenge.rw_lampway_k19_whole_round.Holds := by
 w_on;o_law;k_head;(case hw=>w_witness2)
 k_fill
 refine L2.T1 (l:=PySem.Challenge.rw_lampway_k19_whole_round) (n:=63) (k:=10) (x := "_law_script") (CX:=L2.cH) (sp:=L2.OR) rfl (by decide) rfl ⟨rfl,by decide,by decide⟩ (fun w h Y=>PySem.W.kIn_of Y) ?F ?S ?C
 case F=>
  intro w ao iq h eR G ub;have T:∃ t,My.Txt w (L2.PH eR) ao t:=by
   dsimp only [L2.PH];refine' ⟨My.bC.mk,⟨⟨?mqaa,?Fqab,?mqac,?Fqad,?mqae,?Fqaf,?mqag,?Fqah,?mqai,?Fqaj,?mqak,?Fqal,?mqam,?Fqan,?mqao,?Fqap,?mqaq,?Fqar,?mqas,?Fqat⟩,⟨?mqau,?Fqav,?mqaw,?Fqax,?mqay,?Fqaz,?mqba,?Fqbb,?mqbc,?Fqbd,?mqbe,?Fqbf,?mqbg,?Fqbh,?mqbi,?Fqbj,?mqbk,?Fqbl,?mqbm,?Fqbn⟩,⟨?mqbo,?Fqbp,?mqbq,?Fqbr,?mqbs,?Fqbt,?mqbu,?Fqbv,?mqbw,?Fqbx,?mqby,?Fqbz,?mqca,?Fqcb,?mqcc,?Fqcd,?mqce,?Fqcf,?mqcg,?Fqch⟩,⟨?mqci,?Fqcj,?mqck,?Fqcl,?mqcm,?Fqcn,?mqco,?Fqcp,?mqcq,?Fqcr,?mqcs,?Fqct,?mqcu,?Fqcv,?mqcw,?Fqcx,?mqcy,?Fqcz,?mqda,?Fqdb⟩,⟨?mqdc,?Fqdd,?mqde,?Fqdf,?mqdg,?Fqdh,?mqdi,?Fqdj,?mqdk,?eqdl,?Fqdm,?mqdn,?eqdo,?Fqdp,?mqdq,?eqdr,?Fqds,?mqdt,?eqdu,?Fqdv⟩,⟨?mqdw,?eqdx,?Fqdy,?mqdz,?eqea,?Fqeb,?eqec,?Fqed,?eqee,?Fqef,?eqeg,?Fqeh,?eqei,?Fqej,?eqek,?Fqel,?eqem,?Fqen,?eqeo,?Fqep⟩,⟨?mqeq,?eqer,?Fqes,?mqet,?eqeu,?Fqev,?eqew,?Fqex,?eqey,?Fqez,?mqfa,?eqfb,?Fqfc,?eqfd,?Fqfe,?eqff,?Fqfg,?mqfh,?eqfi,?Fqfj⟩,⟨?eqfk,?Fqfl,?eqfm,?Fqfn,?mqfo,?eqfp,?Fqfq,?eqfr,?Fqfs,?eqft,?Fqfu,?eqfv,?Fqfw,?mqfx,?eqfy,?Fqfz,?sqga,?sqgb,?sqgc,?sqgd⟩,⟨?sqge,?sqgf,?sqgg,?sqgh,?sqgi,?nqgj,?nqgk,?nqgl,?sqgm,?sqgn,?sqgo,?sqgp,?sqgq,?nqgr,?nqgs,?nqgt,?nqgu,?nqgv,?nqgw,?nqgx⟩,⟨?sqgy,?sqgz,?sqha,?sqhb,?nqhc,?nqhd,?nqhe,?nqhf,?nqhg,?nqhh,?nqhi,?sqhj,?sqhk,?sqhl,?sqhm,?nqhn,?nqho,?nqhp,?nqhq,?nqhr⟩,⟨?nqhs,?nqht,?sqhu,?sqhv,?sqhw,?sqhx,?sqhy,?nqhz,?nqia,?nqib,?sqic,?sqid,?nqie,?nqif,?nqig,?nqih,?nqii,?mqij,?sqik,?xqil⟩,⟨?Xqim,?nqin,?nqio,?sqip,?rqiq,?rqir,?rqis,?rqit,?rqiu,?rqiv,?rqiw,?rqix,?rqiy,?xqiz,?Xqja,?nqjb,?sqjc,?rqjd,?rqje,?rqjf⟩,⟨?rqjg,?rqjh,?rqji,?rqjj,?rqjk,?rqjl,?xqjm,?Xqjn,?nqjo,?sqjp,?rqjq,?rqjr,?rqjs,?rqjt,?rqju,?rqjv,?rqjw,?rqjx,?rqjy,?xqjz⟩,⟨?Xqka,?nqkb,?nqkc,?sqkd,?rqke,?rqkf,?rqkg,?rqkh,?rqki,?rqkj,?rqkk,?rqkl,?rqkm,?xqkn,?Xqko,?nqkp,?nqkq,?nqkr,?sqks,?rqkt⟩,⟨?rqku,?rqkv,?rqkw,?rqkx,?rqky,?rqkz,?rqla,?rqlb,?dqlc,?dqld,?dqle,?sqlf,?mqlg,?vqlh,?mqli,?vqlj,?mqlk,?vqll,?mqlm,?vqln⟩,⟨?mqlo,?vqlp,?mqlq,?vqlr,?mqls,?vqlt,?mqlu,?vqlv,?mqlw,?vqlx,?mqly,?vqlz,?mqma,?vqmb,?mqmc,?vqmd,?bqme,?bqmf,?bqmg,?bqmh⟩,⟨?bqmi,?bqmj,?bqmk,?bqml,?bqmm,?bqmn,?bqmo,?lqmp⟩⟩⟩
   case mqaa | mqac | mqae | mqag | mqai | mqak | mqam | mqao | mqaq | mqas | mqau | mqaw | mqay | mqba | mqbc | mqbe | mqbg | mqbi | mqbk | mqbm | mqbo | mqbq | mqbs | mqbu | mqbw | mqby | mqca | mqcc | mqce | mqcg | mqci | mqck | mqcm | mqco | mqcq | mqcs | mqcu | mqcw | mqcy | mqda | mqdc | mqde | mqdg | mqdi | mqdk | mqdn | mqdq | mqdt | mqdw | mqdz | mqeq | mqet | mqfa | mqfh | mqfo | mqfx | mqij | mqlg | mqli | mqlk | mqlm | mqlo | mqlq | mqls | mqlu | mqlw | mqly | mqma | mqmc=>(try dsimp only);refine' PySem.W.mg_of eR G ?z;case z=>k_is
   case eqdl | eqdo | eqdr | eqdu | eqdx | eqea | eqec | eqee | eqeg | eqei | eqek | eqem | eqeo | eqer | eqeu | eqew | eqey | eqfb | eqfd | eqff | eqfi | eqfk | eqfm | eqfp | eqfr | eqft | eqfv | eqfy=>(try dsimp only);k_is
   case sqga | sqgb | sqgc | sqgd | sqge | sqgf | sqgg | sqgh | sqgi | sqgm | sqgn | sqgo | sqgp | sqgq | sqgy | sqgz | sqha | sqhb | sqhj | sqhk | sqhl | sqhm | sqhu | sqhv | sqhw | sqhx | sqhy | sqic | sqid | sqik | sqip | sqjc | sqjp | sqkd | sqks | sqlf=>(try dsimp only);constructor <;> k_is
   case Fqab | Fqad | Fqaf | Fqah | Fqaj | Fqal | Fqan | Fqap | Fqar | Fqat | Fqav | Fqax | Fqaz | Fqbb | Fqbd | Fqbf | Fqbh | Fqbj | Fqbl | Fqbn | Fqbp | Fqbr | Fqbt | Fqbv | Fqbx | Fqbz | Fqcb | Fqcd | Fqcf | Fqch | Fqcj | Fqcl | Fqcn | Fqcp | Fqcr | Fqct | Fqcv | Fqcx | Fqcz | Fqdb | Fqdd | Fqdf | Fqdh | Fqdj | Fqdm | Fqdp | Fqds | Fqdv | Fqdy | Fqeb | Fqed | Fqef | Fqeh | Fqej | Fqel | Fqen | Fqep | Fqes | Fqev | Fqex | Fqez | Fqfc | Fqfe | Fqfg | Fqfj | Fqfl | Fqfn | Fqfq | Fqfs | Fqfu | Fqfw | Fqfz=>(try dsimp only);refine' L2.Tr ?x ?y ?z;(case x=>k_is);(case y=>k_is);(case z=>k_is)
   case nqgj | nqgk | nqgl | nqgr | nqgs | nqgt | nqgu | nqgv | nqgw | nqgx | nqhc | nqhd | nqhe | nqhf | nqhg | nqhh | nqhi | nqhn | nqho | nqhp | nqhq | nqhr | nqhs | nqht | nqhz | nqia | nqib | nqie | nqif | nqig | nqih | nqii | nqin | nqio | nqjb | nqjo | nqkb | nqkc | nqkp | nqkq | nqkr=>(try dsimp only);unfold L2.cB;k_is
   case rqiq | rqir | rqis | rqit | rqiu | rqiv | rqiw | rqix | rqiy | rqjd | rqje | rqjf | rqjg | rqjh | rqji | rqjj | rqjk | rqjl | rqjq | rqjr | rqjs | rqjt | rqju | rqjv | rqjw | rqjx | rqjy | rqke | rqkf | rqkg | rqkh | rqki | rqkj | rqkk | rqkl | rqkm | rqkt | rqku | rqkv | rqkw | rqkx | rqky | rqkz | rqla | rqlb=>(try dsimp only);kernel_rfl
   case xqil | xqiz | xqjm | xqjz | xqkn=>(try dsimp only);refine' ⟨?_,by kernel_rfl,?_,?_,?_⟩ <;> k_is
   case Xqim | Xqja | Xqjn | Xqka | Xqko=>(try dsimp only);refine' L2.TS ?x (by kernel_rfl) ?y;(case x=>k_is);(case y=>k_is)
   case dqlc | dqld | dqle=>(try dsimp only);decide
   case vqlh | vqlj | vqll | vqln | vqlp | vqlr | vqlt | vqlv | vqlx | vqlz | vqmb | vqmd=>(try dsimp only);exact ⟨_,rfl⟩
   case bqme | bqmf | bqmg | bqmh | bqmi | bqmj | bqmk | bqml | bqmm | bqmn | bqmo=>(try dsimp only);refine' PySem.W.mg_none_of eR G ?z;case z=>k_is
   case lqmp=>(try dsimp only);exact fun _ _=>.of_eq rfl
  obtain ⟨t,T⟩:=T;have eZ:=ub.symm.trans T.X7;cases eZ;exact ⟨t.BK,T.acr,fun base ahF nb=>My.afD T⟩
 case S=>exact fun K H a ns aA n5 ej=>⟨a,ns,rfl,L2.Sc.UH n5 ej,aA,fun _=>rfl⟩
 case C=>exact fun _ _ _ _ z=>z
