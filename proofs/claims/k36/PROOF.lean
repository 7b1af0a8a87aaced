import PyProof.Rows.All
import Wide.All
import OpenK.AllK
import Wide.FinOn
import Lean
import PyProof.EqAt
import PyProof.EqKinds
import PyProof.TupleCall
import KE.KTryMore
import PyProof.NsDelKeeps
import PySem.Challenge.RW_lampway_k36_whole_keeper
set_option compiler.extract_closed false
set_option Elab.async false
set_option linter.all false
set_option autoImplicit true
set_option maxRecDepth 100000
local macro_rules | `(tactic| ac_nf)=>`(tactic| decide +kernel)
local macro_rules | `(tactic| omega)=>`(tactic| first | with_reducible assumption | omega (splitDisjunctions := true))
open Array renaming append_assoc→aa4,getElem?_eq_none→alg,getElem?_toList→N_,length_toList→zo,toList→ab7,toList_append→oQ,toList_inj→Vh
open Bool renaming and_eq_true→g_,and_false→Xv,eq_iff_iff→ig,false_and→m',false_eq_true→JM,false_ne_true→eQ,false_or→lr,not_true→adh,or_eq_false_iff→BL,or_eq_true→wI,or_false→Nv,or_true→PF,true_and→ky,true_or→pY
open Char renaming toNat→w4
open Classical renaming byContradiction→Nx
open Except renaming ok→q'
open False renaming elim→jq
open ForInStep renaming yield→wu
open Function renaming comp→afZ
open Int renaming emod_eq_of_lt→xN,emod_lt_of_pos→AU,emod_nonneg→zM,le_refl→p4,mul_lt_mul'→agc,mul_nonneg→ahp,toNat_natCast→ma,toNat_of_nonneg→qz,zero_add→sx
open Int.ofNat renaming inj→acw
open List renaming all_cons→akt,all_eq_true→oh,all_map→ael,any_cons→yF,any_eq_false→D6,any_eq_true→oY,any_map→QL,append_assoc→oC,append_nil→AZ,cons_append→A8,contains_cons→Mf,drop_eq_getElem_cons→sv,drop_length→wL,drop_zero→akJ,eq_nil_iff_forall_not_mem→aju,exists_cons_of_ne_nil→l_,ext_getElem?→G6,filterMap_cons→Um,filter_append→aiz,filter_congr→B_,filter_cons→WR,filter_cons_of_neg→agy,filter_cons_of_pos→WW,filter_eq_nil_iff→ES,filter_eq_self→aii,filter_filter→Y8,filter_map→MV,find?→X6,find?_cons→sj,find?_eq_none→Yb,findIdx?_eq_some_iff_getElem→RK,findSome?_cons→HE,findSome?_eq_none_iff→It,flatMap_append→sA,flatMap_cons→qQ,flatMap_nil→afn,flatten_append→ajw,flatten_cons→oy,foldl→M_,foldl_append→I7,foldl_cons→acA,getD→C4,getD_eq_getElem?_getD→jg,getElem?_append_left→xB,getElem?_append_right→vd,getElem?_cons_succ→yn,getElem?_eq_getElem→aZ,getElem?_eq_none→KQ,getElem?_eq_none_iff→Kq,getElem?_eq_some_iff→cv,getElem?_map→cN,getElem?_of_mem→iN,getElem?_range→D5,getElem?_set_ne→ID,getElem?_set_self→VS,getElem?_take_of_lt→u7,getElem_inj→Fx,getElem_map→Fm,getElem_mem→fM,getElem_of_mem→tI,head?_eq_none_iff→aj8,isEmpty_iff→zd,length→ry,length_append→dZ,length_cons→gP,length_drop→t_,length_filter_le→yk,length_map→aP,length_nil→yz,length_pos_iff→VZ,length_pos_of_mem→akC,length_range→kH,length_set→MO,length_singleton→I6,length_take→hE,lookup→ql,lookup_cons→k9,map→sS,map_append→e5,map_congr_left→Oz,map_cons→e1,map_map→me,map_nil→qu,map_take→afb,max?_eq_some_iff→acQ,mem_append→gE,mem_append_left→p1,mem_append_right→jh,mem_cons→fx,mem_cons_of_mem→hR,mem_cons_self→l5,mem_filter→f5,mem_filterMap→XM,mem_flatMap→Cw,mem_flatten→Ke,mem_iff_getElem→af8,mem_map→bJ,mem_of_getElem?→cm,mem_of_head?→Xq,mem_of_mem_drop→afK,mem_of_mem_take→vv,mem_or_eq_of_mem_set→UQ,mem_range→g7,mem_singleton→gq,ne_nil_of_mem→Ya,nil_append→C8,nodup_append→Be,nodup_cons→sQ,nodup_nil→LS,not_mem_nil→td,of_mem_zip→Sz,pairwise_iff_getElem→acb,pairwise_lt_range→al5,pairwise_map→al4,perm_append_comm→W5,perm_middle→aj',range→dw,range_succ→q5,replicate→kC,replicate_succ→yK,reverse_cons→amB,set_cons_succ→nk,set_cons_zero→nu,size_toArray→d8,sublist_flatten_of_mem→ahn,sum_cons→Vn,take_add_one→od,take_append_drop→Uc,take_length→gF,take_of_length_le→R7,take_zero→tl
open List.Pairwise renaming imp_of_mem→O',nil→ans
open List.Perm renaming append_left→ai1
open List.cons renaming inj→v9,injEq→ZV
open Nat renaming le_of_eq→Yj,le_of_lt→nE,le_of_not_lt→abB,le_refl→b8,le_succ→Gj,le_trans→cP,log2_lt→ahN,lt_irrefl→mu,lt_of_le_of_lt→hg,lt_of_lt_of_le→hU,lt_of_not_le→F8,lt_of_succ_lt_succ→akI,lt_or_ge→E1,lt_succ_self→EZ,lt_trans→NQ,lt_trichotomy→ad',min_eq_left→acB,ne_of_gt→J_,ne_of_lt→gX,reduceAdd→adN,reduceSub→Xp,succ_mul→Gp,toDigits→vx,zero_add→afg,zero_le→gv
open Ne renaming symm→dJ
open Option renaming bind_some→uu,getD_none→aej,isSome_iff_exists→alP,isSome_map→J0,map_eq_some_iff→tU,map_some→zc,none→tD,toList→px
open Option.some renaming inj→ei
open Or renaming inl→ud,inr→j5
open Prod.mk renaming inj→M9
open PyProof.Rows renaming callWith_builtin1→anO,callWith_type1→Nj,iadd_int→apN,slot_tuple_getitem→SP,split_weight→aiG
open PySem renaming Within→Hy,call→af1,mem_of_lookup→tN
open PySem.Around renaming frames_deeper→Yp,under→Rv,under_plainId→Rc
open PySem.Builtin.Builtins renaming bindParams→ab8
open PySem.Builtin.Dict renaming dictSlotNone→aos,showsAll→aer
open PySem.Builtin.Dict_items renaming ownsTuple→akX
open PySem.Builtin.List renaming listTooLong→Jy
open PySem.Builtin.Range renaming rangeSize→Tf
open PySem.Builtin.Slice renaming sliceAdjust→M1,sliceApplied→aeN,sliceFields→anC,slicePartIndex→anQ,slicePlaces→La
open PySem.Builtin.Str renaming occurrences→sm,partsBetween→ad7,strKind→alF
open PySem.Builtin.Tuple renaming tupleExact→Kc,tupleItemsOf→an4
open PySem.Calls renaming Name_function_global→agi,callWith_builtin→RM,evalArgs_plain→agH,spliced_cons→Pc,spliced_nil→aj1
open PySem.CmpOp renaming NotIn→akM
open PySem.Code renaming frames→ajr,isFrame→Nf
open PySem.Data renaming fields→adO
open PySem.EqMixed renaming eq_bool_str→aoH,eq_int_str→anj,eq_str_bool→aoU,eq_str_int→anL,ne_bool_str→apz,ne_int_str→ao4,ne_str_bool→apD,ne_str_int→apf
open PySem.EqNone renaming eq_bool_none→ao0,eq_int_none→aoZ,eq_none_bool→aoY,eq_none_int→apb,eq_none_none→anH,eq_none_str→anp,eq_str_none→aou,ne_bool_none→aoe,ne_int_none→aoG,ne_none_bool→am5,ne_none_int→aoA,ne_none_none→anA,ne_none_str→anE,ne_str_none→am4
open PySem.F renaming args_dict_keyiterator_next_1→ak7,args_dict_pop_3→ak9,args_str_split_2→Ni,entry_dict_keyiterator_next→aaN,entry_dict_pop→ad9,entry_min_loop→Ss,entry_str_split→VM,plainAttrs_dict→akP,plainAttrs_list→ip,plainAttrs_str→vn,plain_min_loop→tL,slot_dict_getitem→acz,slot_dict_items→alA,slot_dict_iter→ajO,slot_dict_keyiterator_next→C6,slot_dict_pop→NB,slot_int_rmul→agL,slot_list_append→kr,slot_list_extend→F9,slot_list_index→amP,slot_list_insert→G9,slot_str_join→zA,slot_str_split→B6,type_list_append→lx,type_list_extend→Mz,type_list_insert→Ql,type_str_join→Ag,type_str_split→XU
open PySem.Heap renaming SameBut→x',get?_push_of_some→e6,get?_push_size→hs,get?_update_other→u',get?_update_self→acE,lt_size→eV,size_push→Tb
open PySem.Heap.IsSliceOf renaming new→am0
open PySem.Heap.SameBut renaming update→abu
open PySem.NameKind renaming cell→UB,free→qW
open PySem.NumText renaming digitsVal→QF
open PySem.Obj renaming data_mapFields→abM,mapFields→Xn,mapSeq→qZ
open PySem.Paired renaming length→JW,snoc→RP
open PySem.PassesOwn renaming never→fq
open PySem.SeqAt renaming EqAt→Ib,RcAt→JO
open PySem.SeqAt.EqAt renaming int_str→amI,of_refs→SW,same→Uo,str_int→ajF
open PySem.SeqAt.RcNeAt renaming lists→ao',lists_lengths→apB,tuples→apx
open PySem.Str renaming cps_append→o2,join→eh,length→uH,ofString→ab
open PySem.StrLaws renaming glued_eq_join→vW,sliceText→tq
open PySem.Txt renaming join→p2,slice→mN,slice_le→uk,split→i'
open PySem.Value renaming bool→kL,bytes→ab4,float→MA,int→ox,isInt→afQ,isStrOf→alB,none→qI,ref→eL,str→r6,type→aeR
open PySem.W renaming CodeHd→q9,Frag→bk,callWith_K→Fs,callWith_K0→abe,cellsFrom_some→aji,clsIn→aaw,codeHdIn→XT,codeIn→Vp,emptyDict→rd,envX→GG,findCls→aef,findIn→dC,fnOf→vz,handedIn→YN,hasDictIn→BU,instObj→r5,isFn→TP,keepIn→sM,kia_one→pj,kitOne→ahS,kitx_dict→acf,kitx_list→alq,kla_fn→amk,kla_obj→w',lookIn→JG,makesIn→ahW,methodCall_KW→EN,methodObj→Q3,mroIn→IK,noTabs→al0,plainGet→EB,plainGet_of→RA,plainOver→aez,readsIn→abr,specialIn→tZ,tabObj→Uz,takerIn→P4,takesIn→Lf,typeIn→abo
open PySem.W.KIN renaming signs_num→ahL
open PySem.W.Looks renaming here→aot
open PySem.W.WData renaming int→WA
open PySem.W.WShape renaming has→abZ
open PySem.Walks renaming list→CT
open PySem.Within renaming cons→apO
open Sum renaming inl→hz,inr→bH
open Sum.inl renaming inj→DM
open Sum.inr renaming inj→sq
open True renaming intro→jz
namespace L2
open PySem PySem.Spec PyProof.Rows
noncomputable abbrev Key:=Sum Int Str
noncomputable def uP:Key->Value->Bool
 | .inl k,v=>afQ k v
 | .inr x,v=>alB x v
noncomputable def amf (w:World):Key->Int
 | .inl k=>hashInt k
 | .inr x=>hashStr w x
theorem nX:∀ {k:Key} {v:Value},uP k v=true->(∃ i t,k=hz i/\v=ox i t)\/(∃ x t,k=bH x/\v=r6 x t)
 | .inl i,v,h=>by
  obtain ⟨t,e⟩:=Value.isInt_shape (k:=i) (v:=v) h;exact .inl ⟨i,t,rfl,e⟩
 | .inr x,v,h=>by
  obtain ⟨t,e⟩:=Value.isStrOf_shape (x:=x) (v:=v) h;exact .inr ⟨x,t,rfl,e⟩
theorem akL (i:Int) (t:Tok):uP (.inl i) (.int i t)=true:=by simp [uP,afQ]
theorem YU (x:Str) (t:Tok):uP (.inr x) (.str x t)=true:=by simp [uP,alB]
theorem XS (a b:Int):decide ((hz a:Key)=hz b)=(a == b):=by
 by_cases e:a=b
 .subst e;simp
 .have h:¬ (hz a:Key)=hz b:=fun q=>e (DM q)
  rw [decide_eq_false h];exact (beq_eq_false_iff_ne.mpr e).symm
theorem adY (a b:Str):decide ((bH a:Key)=bH b)=decide (a=b):=by
 by_cases e:a=b
 .subst e;simp
 .have h:¬ (bH a:Key)=bH b:=fun q=>e (sq q)
  rw [decide_eq_false h,decide_eq_false e]
theorem ajG (a:Int) (b:Str):decide ((hz a:Key)=bH b)=false:=decide_eq_false (fun q=>nomatch q)
theorem aeS (a:Str) (b:Int):decide ((bH a:Key)=hz b)=false:=decide_eq_false (fun q=>nomatch q)
noncomputable def hG (prog:Program) (w:World):PySem.KeyKind prog w Key where
 is:=uP
 hash:=amf w
 inj:=fun v a b aR ae=>by
  rcases nX aR with ⟨i,t,rfl,rfl⟩ | ⟨x,t,rfl,rfl⟩
  .rcases nX ae with ⟨j,u,rfl,e⟩ | ⟨y,u,rfl,e⟩
   .injection e with ax _;rw [ax]
   .exact nomatch e
  .rcases nX ae with ⟨j,u,rfl,e⟩ | ⟨y,u,rfl,e⟩
   .exact nomatch e
   .injection e with ax _;rw [ax]
 byValue:=fun k v h=>by
  rcases nX h with ⟨i,t,rfl,rfl⟩ | ⟨x,t,rfl,rfl⟩ <;> rfl
 pyHash:=fun aI h=>by
  rcases nX aI with ⟨i,t,rfl,rfl⟩ | ⟨x,t,rfl,rfl⟩
  .exact wpAny_pyHash_int h
  .exact wpAny_pyHash_str h
 eqBool:=fun bC aI h=>by
  rcases nX bC with ⟨i,t,rfl,rfl⟩ | ⟨x,t,rfl,rfl⟩
  .rcases nX aI with ⟨j,u,rfl,rfl⟩ | ⟨y,u,rfl,rfl⟩
   .rw [XS] at h;exact wpAny_eqBool_int h
   .rw [ajG] at h;exact amI i t y u _ _ _ _ h
  .rcases nX aI with ⟨j,u,rfl,rfl⟩ | ⟨y,u,rfl,rfl⟩
   .rw [aeS] at h;exact ajF x t j u _ _ _ _ h
   .rw [adY] at h;exact wpAny_eqBool_str h
 «strs»:=fun k x t v h=>by
  rcases nX h with ⟨i,u,rfl,e⟩ | ⟨y,u,rfl,e⟩
  .exact nomatch e
  .injection e with ax _;subst ax;cases v <;> rfl
theorem adU (prog:Program) (w:World) (i:Int) (t:Tok):(hG prog w).is (.inl i) (.int i t)=true:=akL i t
theorem ag_ (prog:Program) (w:World) (x:Str) (t:Tok):(hG prog w).is (.inr x) (.str x t)=true:=YU x t
inductive V where
 | b4 | br (b:Bool) | int (i:Int) | str (x:Str) | l4 (b:Array UInt8) | r1 (b:UInt64) | ref (a:Addr) | ty (n:String)
 deriving DecidableEq
noncomputable def bM:V->Value->Prop
 | .b4,u=>u=qI
 | .br b,u=>u=kL b
 | .int i,u=>∃ t,u=ox i t
 | .str x,u=>∃ t,u=r6 x t
 | .l4 b,u=>∃ t,u=ab4 b t
 | .r1 b,u=>∃ t,u=MA b t
 | .ref a,u=>u=eL a
 | .ty n,u=>u=aeR n
noncomputable abbrev b0:List V->List Value->Prop:=Paired bM
theorem b0.length (r:b0 xs us):xs.length=us.length:=JW r
theorem b0.get:∀ {xs:List V} {us:List Value} {i:Nat} {x:V},b0 xs us->xs[i]? = some x->∃ u,us[i]? = some u/\bM x u
 | _,_,_,_,.nil,e=>by simp at e
 | _,_,0,_,.cons r _,e=>by simp at e;subst e;exact ⟨_,rfl,r⟩
 | _,_,i + 1,x,.cons _ t,e=>by
  obtain ⟨u,af,ao⟩:=b0.get (i:=i) (x:=x) t (by simpa using e);exact ⟨u,by simpa using af,ao⟩
theorem b0.set {x:V} (r:bM x u):∀ {xs:List V} {us:List Value} (i:Nat),b0 xs us->b0 (xs.set i x) (us.set i u)
 | _,_,_,.nil=>.nil
 | _,_,0,.cons _ t=>.cons r t
 | _,_,i + 1,.cons q t=>.cons q (b0.set r i t)
theorem b0.append:∀ {xs ys:List V} {us ws:List Value},b0 xs us->b0 ys ws->b0 (xs ++ ys) (us ++ ws)
 | _,_,_,_,.nil,s=>s
 | _,_,_,_,.cons r t,s=>.cons r (b0.append t s)
theorem b0.take:∀ {xs:List V} {us:List Value} (n:Nat),b0 xs us->b0 (xs.take n) (us.take n)
 | _,_,0,_=>.nil
 | _,_,_ + 1,.nil=>.nil
 | _,_,n + 1,.cons r t=>.cons r (b0.take n t)
theorem b0.drop:∀ {xs:List V} {us:List Value} (n:Nat),b0 xs us->b0 (xs.drop n) (us.drop n)
 | _,_,0,r=>r
 | _,_,_ + 1,.nil=>.nil
 | _,_,n + 1,.cons _ t=>b0.drop n t
theorem b0.none_of:∀ {xs:List V} {us:List Value} {i:Nat},b0 xs us->xs[i]? = none->us[i]? = none:=fun {xs us i} r e=>by
 have af:=r.length;have ao:xs.length <= i:=Kq.mp e;exact Kq.mpr (by omega)
noncomputable def iw:Option V->Option Value->Prop
 | some v,some u=>bM v u
 | none,none=>True
 | _,_=>False
noncomputable def eZ {eN:Type}:List (eN × V)->List (eN × Value)->Prop:=Paired fun (p:eN × V) (q:eN × Value)=>p.1=q.1/\bM p.2 q.2
noncomputable def dk:Key->V
 | .inl i=>.int i
 | .inr x=>.str x
inductive fz where
  | lst (xs:List V)
  | tup (xs:List V)
  | bu (kvs:List (Key × V)) | gc (kvs:List (List Key × V))
  | set (S:Int->Bool) (n:Nat)
  | ins (C ay:Addr) (aX:List (Str × V))
  | own (x:Addr)
  | z' (aX:List (Str × V))
  | met (f x:Addr)
  | m2 (lo ah:Int)
  | ey (o:Obj) (u:fz)
  | g6 (ps:Array Value)
  | ext (uW:Heap->Prop)
noncomputable abbrev aw:=Addr->Option fz
noncomputable def upd (H:aw) (a:Addr) (o:fz):aw:=fun b=>if b=a then some o else H b
theorem db:upd H a o a=some o:=by unfold upd;rw [if_pos rfl]
theorem aG (h:b ≠ a):upd H a o b=H b:=by unfold upd;rw [if_neg h]
theorem rM:upd (upd H a o) a u=upd H a u:=by
 funext b;unfold upd;split <;> rfl
theorem bK {H:aw} {a b:Addr} {o u:fz} (h:H a=some o) (h':H b=some u) (d:o ≠ u):a ≠ b:=by
 intro e;subst e;rw [h] at h';exact d (ei h')
theorem Db {H:aw} {a b:Addr} {o:fz} (h:H a=some o) (h':H b=none):a ≠ b:=by
 intro e;subst e;rw [h] at h';cases h'
section
variable (P:Program) (w:World)
noncomputable def dT (H:aw) (h:Heap) (a:Addr):fz->Prop
 | .lst xs=>xs.length <= sizeLine/\∃ (aV:List Value) (n:Nat),b0 xs aV/\h.get? a=some { cls:=.type "list",data:=.seq aV.toArray n }
 | .tup xs=>xs.length <= sizeLine/\∃ aV:List Value,b0 xs aV/\IsTup h a aV.toArray
 | .bu kvs=>kvs.length <= sizeLine/\(a == sysModules)=false/\∃ vs,eZ kvs vs/\h.DictOf (hG P w) a vs
 | .gc kvs=>kvs.length <= sizeLine/\(a == sysModules)=false/\∃ xs:List (List Key × Addr × Value),
   Paired (fun (p:List Key × V) (q:List Key × Addr × Value)=>p.1=q.1/\H q.2.1=some (.tup (p.1.map dk))/\bM p.2 q.2.2) kvs xs /\
   ∃ o ba ep,h.get? a=some o/\o.ExactDict/\o.data=.dict ba ep/\ba.toList=xs.map (entryOfKey (tupleKind (hG P w)))/\(xs.map (·.1)).Nodup
 | .set S n=>h.SetOf (intKind P w) a S n
 | .ins C ay aX=>H ay=some (.own a)/\aX.length <= 1000/\ay ≠ a/\h.get? a=some (r5 C ay) /\
   ∃ ef,h.Ns1 ay ef/\(∀ f,iw (aX.lookup f) (ef f))/\Hy ef (aX.map (·.1))
 | .own _=>∃ o,h.get? a=some o
 | .z' aX=>∃ ef,h.Ns1 a ef/\∀ f,iw (aX.lookup f) (ef f)
 | .m2 lo ah=>∃ t u v,h.get? a=some { cls:=.type "range",data:=.fields #[.int lo t,.int ah u,.int 1 v] }
 | .ey o u=>h.get? a=some o/\dT H h a u
 | .g6 ps=>h.get? a=some { cls:=.none,data:=.fields ps }
 | .met f x=>h.get? a=some (Q3 (.ref f) (.ref x))
 | .ext uW=>uW h/\(∃ o,h.get? a=some o)/\∀ af ao:Heap,uW af->(∀ o,af.get? a=some o->ao.get? a=some o)->uW ao
def eA (H:aw) (h:Heap):Prop:=∀ a o,H a=some o->dT P w H h a o
end
section
variable {P:Program} {w:World} {H I:aw} {h h':Heap} {a:Addr} {o:fz}
theorem dT.lt (x:dT P w H h a o):a < h.objs.size:=by
 cases o with
 | lst xs=>obtain ⟨_,_,_,_,e⟩:=x;exact eV e
 | tup xs=>obtain ⟨_,_,_,p⟩:=x;exact p.lt
 | bu kvs=>obtain ⟨_,_,_,_,o,_,_,e,_⟩:=x;exact eV e
 | gc kvs=>obtain ⟨_,_,_,_,o,_,_,e,_⟩:=x;exact eV e
 | set S n=>obtain ⟨o,_,_,_,e,_⟩:=x;exact eV e
 | ins C ay aX=>obtain ⟨_,_,_,e,_⟩:=x;exact eV e
 | own y=>obtain ⟨_,e⟩:=x;exact eV e
 | z' aX=>obtain ⟨_,⟨_,_,_,e,_⟩,_⟩:=x;exact eV e
 | m2 lo ah=>obtain ⟨_,_,_,e⟩:=x;exact eV e
 | ey b' u=>obtain ⟨e,_⟩:=x;exact eV e
 | g6 ps=>exact eV (show h.get? a=some _ from x)
 | met f y=>exact eV (show h.get? a=some _ from x)
 | ext uW=>obtain ⟨_,⟨_,e⟩,_⟩:=x;exact eV e
theorem Paired.qK:∀ {l₁:List α} {l₂:List β},Paired F l₁ l₂->(∀ a b,F a b->G a b)->Paired G l₁ l₂
 | _,_,.nil,_=>.nil
 | _,_,.cons r t,f=>.cons (f _ _ r) (Paired.qK t f)
theorem dT.nR (x:dT P w H h a o) (k:∀ b u,(b=a\/H b=some (.own a))->h.get? b=some u->h'.get? b=some u)
  (aT:∀ b,H b=some (.own a)->I b=some (.own a)) (cT:∀ b xs,H b=some (.tup xs)->I b=some (.tup xs)):dT P w I h' a o:=by
 induction o with
 | lst xs=>obtain ⟨z,aV,n,r,e⟩:=x;exact ⟨z,aV,n,r,k _ _ (.inl rfl) e⟩
 | tup xs=>obtain ⟨z,aV,r,b',e,c⟩:=x;exact ⟨z,aV,r,b',k _ _ (.inl rfl) e,c⟩
 | bu kvs=>obtain ⟨z,y,vs,r,b',ba,ep,e,c⟩:=x;exact ⟨z,y,vs,r,b',ba,ep,k _ _ (.inl rfl) e,c⟩
 | gc kvs=>
  obtain ⟨z,y,xs,r,b',ba,ep,e,c⟩:=x;exact ⟨z,y,xs,Paired.qK r fun p q z=>⟨z.1,cT _ _ z.2.1,z.2.2⟩,b',ba,ep,k _ _ (.inl rfl) e,c⟩
 | set S n=>obtain ⟨b',ba,ep,t,e,c⟩:=x;exact ⟨b',ba,ep,t,k _ _ (.inl rfl) e,c⟩
 | ins C ay aX=>
  obtain ⟨d,z,ne,e,ef,⟨dD,ba,ep,aK,c⟩,r⟩:=x;exact ⟨aT _ d,z,ne,k _ _ (.inl rfl) e,ef,⟨dD,ba,ep,k _ _ (.inr d) aK,c⟩,r⟩
 | own y=>obtain ⟨b',e⟩:=x;exact ⟨b',k _ _ (.inl rfl) e⟩
 | z' aX=>obtain ⟨ef,⟨dD,ba,ep,e,c⟩,r⟩:=x;exact ⟨ef,⟨dD,ba,ep,k _ _ (.inl rfl) e,c⟩,r⟩
 | m2 lo ah=>obtain ⟨t,u,v,e⟩:=x;exact ⟨t,u,v,k _ _ (.inl rfl) e⟩
 | ey b' u cE=>obtain ⟨e,q⟩:=x;exact ⟨k _ _ (.inl rfl) e,cE q⟩
 | g6 ps=>
  have e:h.get? a=some { cls:=.none,data:=.fields ps }:=x;show h'.get? a=some { cls:=.none,data:=.fields ps };exact k a _ (.inl rfl) e
 | met f y=>
  have e:h.get? a=some (Q3 (.ref f) (.ref y)):=x;show h'.get? a=some (Q3 (.ref f) (.ref y));exact k a _ (.inl rfl) e
 | ext uW=>obtain ⟨p,⟨o,e⟩,st⟩:=x;exact ⟨st _ _ p fun o q=>k _ _ (.inl rfl) q,⟨o,k _ _ (.inl rfl) e⟩,st⟩
theorem eA.lt (x:eA P w H h) (e:H a=some o):a < h.objs.size:=(x a o e).lt
theorem eA.fresh (x:eA P w H h) (e:h.objs.size <= a):H a=none:=by
 cases q:H a with
 | none=>rfl
 | some u=>exact absurd (hU (x.lt q) e) (mu _)
theorem eA.kept (x:eA P w H h) (k:∀ b u,h.get? b=some u->h'.get? b=some u):eA P w H h':=fun a o e=>
 (x a o e).nR (fun b u _ q=>k b u q) (fun _ q=>q) fun _ _ q=>q
theorem eA.laid (x:eA P w H h) (k:∀ b u,h.get? b=some u->h'.get? b=some u) (ar:h.objs.size <= a) (new:dT P w (upd H a o) h' a o):eA P w (upd H a o) h':=fun b u e=>by
 have aQ:=x.fresh ar;by_cases ae:b=a
 .subst ae;rw [db] at e;cases e;exact new
 .rw [aG ae] at e;exact (x b u e).nR (fun c v _ q=>k c v q) (fun c q=>by rw [aG (Db q aQ)];exact q) fun c xs q=>by rw [aG (Db q aQ)];exact q
end
def j' (H:aw) (a:Addr) (u:fz):Prop:=H a=some u\/∃ o,H a=some (.ey o u)
theorem j'.of (h:H a=some u):j' H a u:=.inl h
theorem j'.ok {w:World} {h:Heap} (r:j' H a u) (x:eA P w H h):dT P w H h a u:=by
 rcases r with r | ⟨o,r⟩
 .exact x a u r
 .obtain ⟨_,q⟩:=x a _ r;exact q
noncomputable def pb:Option fz->Prop
 | some (.lst _)=>True
 | some (.bu _)=>True
 | some (.gc _)=>True
 | some (.set _ _)=>True
 | some (.ins _ _ _)=>True
 | some (.ext _)=>True
 | _=>False
section
variable {P:Program} {w:World} {H:aw} {h h':Heap} {x e:Addr} {ea:fz}
theorem eA.write (ok:eA P w H h) (gW:pb (H x)) (he:e=x\/H e=some (.own x)) (k:∀ b u,b ≠ e->h.get? b=some u->h'.get? b=some u) (t2:∃ u,h'.get? e=some u)
  (new:dT P w (upd H x ea) h' x ea):eA P w (upd H x ea) h':=fun b u q=>by
 have xf:∀ c y,H c=some (.own y)->c ≠ x:=fun c y r z=>by subst z;rw [r] at gW;exact gW
 have E2:∀ c xs,H c=some (.tup xs)->c ≠ x:=fun c xs r z=>by subst z;rw [r] at gW;exact gW
 by_cases ae:b=x
 .subst ae;rw [db] at q;cases q;exact new
 .rw [aG ae] at q;by_cases s9:b=e
  .have eI:H b=some (.own x):=by
    rcases he with z | z
    .exact absurd (s9.trans z) ae
    .rw [s9];exact z
   rw [q] at eI;cases eI;obtain ⟨v,aI⟩:=t2;exact ⟨v,by rw [s9];exact aI⟩
  .refine (ok b u q).nR (fun c v aA r=>k c v ?_ r) (fun c r=>by rw [aG (xf c b r)];exact r) fun c xs r=>by rw [aG (E2 c xs r)];exact r
   rcases aA with rfl | aA
   .exact s9
   .rintro rfl;rcases he with z | z
    .exact xf c b aA z
    .rw [aA] at z;cases z;exact ae rfl
end
structure fc (aX ex:List Addr) (H I:aw) (h h':Heap):Prop where
 keep:∀ b o,h.get? b=some o->H b=none->b ∉ aX->b ∉ ex->h'.get? b=some o
 slot:∀ b o,h.get? b=some o->H b=none->b ∈ aX->b ∉ ex->∃ a6,h'.get? b=some { o with slots:=a6 }
 free:∀ b o,h.get? b=some o->H b=none->b ∉ ex->I b=none
 there:∀ b o,h.get? b=some o->b ∉ ex->∃ ea,h'.get? b=some ea
 lM:∀ b xs,H b=some (.tup xs)->I b=some (.tup xs)
 j7:∀ b o u,H b=some (.ey o u)->I b=some (.ey o u)
 kV:∀ b ps,H b=some (.g6 ps)->∃ more,I b=some (.g6 (ps ++ more))
section
variable {aX mY ex SG:List Addr} {H H1 aB:aw} {h af ao h':Heap} {a x e:Addr} {o:fz}
theorem fc.any (u:fc aX ex H H1 h af) (q:h.get? b=some b') (n:H b=none) (aj:b ∉ ex):∃ a6,af.get? b=some { b' with slots:=a6 }:=by
 by_cases ae:b ∈ aX
 .exact u.slot b b' q n ae aj
 .exact ⟨b'.slots,u.keep b b' q n ae aj⟩
theorem fc.trans (a:fc aX ex H H1 h af) (b:fc aX ex H1 aB af ao):fc aX ex H aB h ao where
 keep:=fun c b' q n aA aj=>b.keep c b' (a.keep c b' q n aA aj) (a.free c b' q n aj) aA aj
 slot:=fun c b' q n aA aj=>by
  obtain ⟨a6,ax⟩:=a.slot c b' q n aA aj;obtain ⟨Eh,aK⟩:=b.slot c _ ax (a.free c b' q n aj) aA aj;exact ⟨Eh,aK⟩
 free:=fun c b' q n aj=>by
  obtain ⟨ea,ax⟩:=a.there c b' q aj;exact b.free c ea ax (a.free c b' q n aj) aj
 there:=fun c b' q aj=>by
  obtain ⟨ea,ax⟩:=a.there c b' q aj;exact b.there c ea ax aj
 lM:=fun c xs q=>b.lM c xs (a.lM c xs q)
 j7:=fun c b' xs q=>b.j7 c b' xs (a.j7 c b' xs q)
 kV:=fun c ps q=>by
  obtain ⟨ju,ax⟩:=a.kV c ps q;obtain ⟨j8,aK⟩:=b.kV c _ ax;exact ⟨ju ++ j8,by rw [aK,aa4]⟩
theorem fc.kept (k:∀ b u,h.get? b=some u->h'.get? b=some u):fc aX ex H H h h':=
 ⟨fun b b' q _ _ _=>k b b' q,fun b b' q _ _ _=>⟨b'.slots,k b b' q⟩,fun _ _ _ n _=>n,fun b b' q _=>⟨b',k b b' q⟩,fun _ _ q=>q,fun _ _ _ q=>q,fun _ ps q=>⟨#[],by rw [q];simp⟩⟩
theorem fc.refl:fc aX ex H H h h:=fc.kept fun _ _ q=>q
theorem fc.laid (k:∀ b u,h.get? b=some u->h'.get? b=some u) (ar:h.objs.size <= a) (aQ:H a=none):fc aX ex H (upd H a o) h h' where
 keep:=fun b u q _ _ _=>k b u q
 slot:=fun b u q _ _ _=>⟨u.slots,k b u q⟩
 free:=fun b u q n _=>by rw [aG (gX (hU (eV q) ar))];exact n
 there:=fun b u q _=>⟨u,k b u q⟩
 lM:=fun b xs q=>by rw [aG (Db q aQ)];exact q
 j7:=fun b u xs q=>by rw [aG (Db q aQ)];exact q
 kV:=fun b ps q=>⟨#[],by rw [aG (Db q aQ),q];simp⟩
theorem fc.write (gW:pb (H x)) (he:e=x\/H e=some (.own x)) (k:∀ b u,b ≠ e->h.get? b=some u->h'.get? b=some u) (t2:∃ u,h'.get? e=some u):fc aX ex H (upd H x o) h h':=by
 have aj:∀ b,H b=none->b ≠ x:=fun b n z=>by subst z;rw [n] at gW;exact gW
 have ae:∀ b,H b=none->b ≠ e:=fun b n z=>by
  subst z;rcases he with r | r
  .exact aj b n r
  .rw [n] at r;cases r
 have hm:∀ b u,H b=some u->¬ pb (some u)->b ≠ x:=fun b u q nm z=>by subst z;rw [q] at gW;exact nm gW
 refine ⟨fun b u q n _ _=>k b u (ae b n) q,fun b u q n _ _=>⟨u.slots,k b u (ae b n) q⟩,fun b u q n _=>by rw [aG (aj b n)];exact n,fun b u q _=>?_,
  fun b xs q=>by rw [aG (hm b _ q fun z=>z)];exact q,fun b u xs q=>by rw [aG (hm b _ q fun z=>z)];exact q,fun b ps q=>⟨#[],by rw [aG (hm b _ q fun z=>z),q];simp⟩⟩
 by_cases s9:b=e
 .subst s9;exact t2
 .exact ⟨u,k b u s9 q⟩
theorem fc.mono (u:fc aX ex H H1 h af) (aC:∀ b ∈ aX,b ∈ mY) (aj:∀ b ∈ ex,b ∈ SG):fc mY SG H H1 h af:=
 ⟨fun b b' q n ae he=>u.keep b b' q n (fun z=>ae (aC b z)) fun z=>he (aj b z),fun _ _ q n _ he=>u.any q n fun z=>he (aj _ z),fun b b' q n he=>u.free b b' q n fun z=>he (aj b z),fun b b' q he=>u.there b b' q fun z=>he (aj b z),u.lM,u.j7,u.kV⟩
end
noncomputable def A0 (h:Heap) (H:aw):List Addr:=(dw h.objs.size).filter fun a=>(H a).isSome
noncomputable def nM (h:Heap) (H:aw):Heap:=PySem.W.hideAll h (A0 h H)
theorem adZ (h:Heap) (H:aw):(nM h H).objs.size=h.objs.size:=PySem.W.hideAll_size _ _
theorem FC {h:Heap} (e:h.get? b=some o) (n:H b=none):(nM h H).get? b=some o:=
 PySem.W.hideAll_get _ e fun hm=>by
  have q:(H b).isSome=true:=(f5.mp hm).2;rw [n] at q;simp at q
theorem aj3 {h:Heap} (e:(nM h H).get? b=some o):h.get? b=some o/\H b=none:=by
 have bF:h.get? b=some o:=PySem.W.of_hideAll (A0 h H) e;refine ⟨bF,?_⟩;cases q:H b with
 | none=>rfl
 | some x=>
  have hm:b ∈ A0 h H:=f5.mpr ⟨g7.mpr (eV bF),by simp [q]⟩;have z:(nM h H).get? b=none:=PySem.W.hideAll_none (A0 h H) hm;rw [z] at e;cases e
noncomputable def ajt (g h:Heap) (L:Addr):List (Addr × Obj):=(dw h.objs.size).filterMap fun a=>if a=L\/(g.get? a).isSome=true then none else (h.get? a).map fun o=>(a,o)
noncomputable def l7 (g h:Heap) (L d:Addr):List (Addr × Obj):=(ajt g h L).filter fun p=>decide (p.1 ≠ d)
structure Mod (K:bk) (mg:Str->Option Value) (base:Heap):Prop where
 ua:K.In base
 glob:base.Ns mainGlobals mg
 blt:∃ nf,base.Ns builtinsNs nf/\∀ x:Str,x ≠ "__name__" -> nf x=bootBuiltins x
 nolimit:base.NoLimit
structure bg where
 prog:Program
 w:World
 K:bk
 mg:Str->Option Value
 base:Heap
 A:Around
 N:List Str
 f_:Shared
 rv:aw
 env:Env
 outer:List Env
 stack:List Env
 ex:List Addr
 fn:Str->Bool
 calm:Bool
 ez:List (Addr × Obj)
 d4:Value->Shared->Prop
noncomputable def mG (l:List Env):List Addr:=l.filterMap (·.frame)
noncomputable abbrev bg.aX (X:bg):List Addr:=mG X.outer
def z_ (sc:Scope) (x:Str):Prop:=sc.names.lookup x=some .local\/sc.names.lookup x=some .cell\/sc.names.lookup x=some .free
def Loc (sc:Scope) (x:Str):Prop:=sc.names.lookup x=some .local\/sc.names.lookup x=some .cell
def aiP (env:Env) (h:Heap) (m:Str->Option Value) (x:Str) (u:Value):Prop:=
 (env.kindOf x=some .local/\m x=some u)\/((env.kindOf x=some .cell\/env.kindOf x=some .free)/\∃ c,env.cells.lookup x=some c/\h.IsCell c (some u))
structure bg.Ok (X:bg):Prop where
 mod:Mod X.K X.mg X.base
 kind:X.env.scope.kind=.function
 glob:X.env.globals=mainGlobals
 blt:X.env.builtins=builtinsNs
 above:X.f_.heap.objs.size <= X.env.locals
 inj:∀ x y c,X.env.cells.lookup x=some c->X.env.cells.lookup y=some c->x=y
 has:∀ x,(X.env.kindOf x=some .cell\/X.env.kindOf x=some .free)->∃ c,X.env.cells.lookup x=some c
 qD:∀ x c,X.fn x=true->X.env.cells.lookup x=some c->X.f_.heap.objs.size <= c
 hd:X.calm=true->X.A.handled=none
 frames:X.A.frames=some X.stack
 sd:X.stack=X.outer\/(X.stack=X.env :: X.outer/\X.env.frame=some X.env.locals)
 vV:∀ b ∈ X.ex,b ≠ X.env.locals/\∀ x c,X.env.cells.lookup x=some c->c ≠ b
 bs:∀ b o,X.base.get? b=some o->X.f_.heap.get? b=some o/\X.rv b=none
 k4:X.base.objs.size <= X.f_.heap.objs.size
 qR:∀ b o,X.base.get? b=some o->b ∉ X.ex
 qE:∀ b ∈ X.ex,b ∉ X.aX
 ko:X.f_.heap.FunFrames X.base X.outer
 nK:∀ b ∈ X.aX,X.rv b=none
structure Inv (X:bg) (ag:List (Addr × Obj)) (σ:List (Option V)) (H:aw) (s:Shared):Prop where
 ok:X.Ok
 os:s.os=X.f_.os
 bare:AllBare s.gens
 base:fc X.aX X.ex X.rv H X.f_.heap s.heap
 loc:∃ m,s.heap.Ns X.env.locals m/\∀ (i:Nat) (x:Str) (v:V),X.N[i]? = some x->σ[i]? = some (some v)->z_ X.env.scope x->∃ u,bM v u/\aiP X.env s.heap m x u
 cell:∀ x c,X.env.cells.lookup x=some c->∃ v,s.heap.IsCell c v
 free:H X.env.locals=none
 jK:∀ x c,X.env.cells.lookup x=some c->H c=none
 pin:∀ p ∈ X.ez ++ ag,s.heap.get? p.1=some p.2/\H p.1=none/\p.1 ≠ X.env.locals/\p.1 ∉ X.aX/\∀ v,p.2.data ≠ .cell v
 bl:eA X.prog X.w H s.heap
 len:σ.length=X.N.length
section
variable {X:bg} {ag:List (Addr × Obj)} {σ:List (Option V)} {H I:aw} {s:Shared} {h':Heap}
theorem bg.Ok.Q7 (ok:X.Ok) (e:X.base.get? b=some o):b ∉ X.aX:=fun ae=>by
 have:=(ok.ko.mem ae).1;rw [e] at this;cases this
theorem Inv.bs (J:Inv X ag σ H s):∀ b o,X.base.get? b=some o->s.heap.get? b=some o/\H b=none:=fun b o e=>
 ⟨J.base.keep b o (J.ok.bs b o e).1 (J.ok.bs b o e).2 (J.ok.Q7 e) (J.ok.qR b o e),J.base.free b o (J.ok.bs b o e).1 (J.ok.bs b o e).2 (J.ok.qR b o e)⟩
theorem Inv.cM (J:Inv X ag σ H s):∀ b o,X.base.get? b=some o->s.heap.get? b=some o:=fun b o e=>(J.bs b o e).1
theorem Inv.mod (J:Inv X ag σ H s):Mod X.K X.mg X.base:=J.ok.mod
theorem Inv.gC (J:Inv X ag σ H s):X.K.In s.heap:=J.ok.mod.ua.keeps J.cM
theorem Inv.nolimit (J:Inv X ag σ H s):s.heap.NoLimit:=J.ok.mod.nolimit.keeps J.cM
theorem Inv.fr (J:Inv X ag σ H s):∃ m,Fr X.base X.env.locals s.heap m:=
 let ⟨m,aQ,_⟩:=J.loc
 ⟨m,aQ,J.cM,cP J.ok.k4 J.ok.above⟩
theorem Inv.lt (J:Inv X ag σ H s):X.env.locals < s.heap.objs.size:=let ⟨_,aQ,_⟩:=J.loc;aQ.lt
theorem Inv.oe (J:Inv X ag σ H s):X.f_.heap.objs.size <= s.heap.objs.size:=cP J.ok.above (nE J.lt)
theorem Inv.FT (J:Inv X ag σ H s) (h:s.heap.objs.size <= a):a ∉ X.aX:=fun ae=>by
 obtain ⟨_,o,aT,_⟩:=J.ok.ko.mem ae;exact absurd (hU (eV aT) (cP J.oe h)) (mu _)
theorem Inv.sa (J:Inv X ag σ H s):∀ x c,X.env.cells.lookup x=some c->c ≠ X.env.locals:=fun x c e z=>by
 obtain ⟨v,o,aT,hd⟩:=J.cell x c e;obtain ⟨m,⟨ea,ba,ep,qJ,n',_⟩,_⟩:=J.loc;rw [z,qJ] at aT;cases aT;rw [n'] at hd;cases hd
theorem Inv.ko (J:Inv X ag σ H s):s.heap.FunFrames X.base X.outer:=by
 have all:∀ (l:List Env),(∀ b ∈ mG l,b ∈ X.aX)->X.f_.heap.FunFrames X.base l->s.heap.FunFrames X.base l:=by
  intro l
  induction l with
  | nil=>intro _ _;trivial
  | cons env r cE=>
   intro aC aM;obtain ⟨au,⟨L,o,hf,aQ,aT,hd⟩,aq⟩:=aM;have eJ:L ∈ X.aX:=aC L (by unfold mG;rw [Um,hf];exact l5);obtain ⟨a6,e⟩:=J.base.slot L o aT (J.ok.nK L eJ) eJ fun z=>J.ok.qE L z eJ
   exact ⟨au,⟨L,_,hf,aQ,e,hd⟩,cE (fun b ae=>aC b (by unfold mG;rw [Um,hf];exact hR _ ae)) aq⟩
 exact all X.outer (fun _ ae=>ae) J.ok.ko
theorem Inv.stack (J:Inv X ag σ H s):s.heap.FunFrames X.base X.stack:=by
 rcases J.ok.sd with e | ⟨e,hf⟩
 .rw [e];exact J.ko
 .rw [e];obtain ⟨m,aQ,_⟩:=J.loc;refine .cons (by rw [J.ok.kind];decide) hf aQ ?_ J.ko;exact Heap.get?_none_of_le (cP J.ok.k4 J.ok.above)
theorem Inv.zr (J:Inv X ag σ H s):∀ b ∈ mG X.stack,b ∈ X.env.locals :: X.aX:=fun b ae=>by
 rcases J.ok.sd with e | ⟨e,hf⟩
 .rw [e] at ae;exact hR _ ae
 .rw [e] at ae;unfold mG at ae;rw [Um,hf] at ae;exact ae
theorem Inv.LD (J:Inv X ag σ H s):∀ b ∈ mG X.stack,H b=none:=fun b ae=>by
 rcases fx.mp (J.zr b ae) with e | ae
 .rw [e];exact J.free
 .obtain ⟨_,o,aT,_⟩:=J.ok.ko.mem ae;exact J.base.free b o aT (J.ok.nK b ae) fun z=>J.ok.qE b z ae
theorem Inv.step {g':Array GenState} {t':Nat} {d':Drawn} {ch:List Addr} (J:Inv X ag σ H s)
  (h7:∀ b ∈ ch,(b ∈ X.ex\/X.f_.heap.objs.size <= b)/\b ≠ X.env.locals/\(∀ x c,X.env.cells.lookup x=some c->c ≠ b)/\∀ p ∈ X.ez ++ ag,p.1 ≠ b)
  (keep:∀ b o,b ≠ X.env.locals->b ∉ X.aX->b ∉ ch->s.heap.get? b=some o->H b=none->h'.get? b=some o)
  (slot:∀ b o,b ≠ X.env.locals->b ∈ X.aX->b ∉ ch->s.heap.get? b=some o->H b=none->∃ a6,h'.get? b=some { o with slots:=a6 }) (free:∀ b o,b ∉ ch->s.heap.get? b=some o->H b=none->I b=none)
  (there:∀ b o,b ∉ ch->s.heap.get? b=some o->∃ ea,h'.get? b=some ea)
  (lM:∀ b xs,H b=some (.tup xs)->I b=some (.tup xs)) (j7:∀ b o u,H b=some (.ey o u)->I b=some (.ey o u)) (kV:∀ b ps,H b=some (.g6 ps)->∃ more,I b=some (.g6 (ps ++ more)))
  (ns:∀ m,s.heap.Ns X.env.locals m->h'.Ns X.env.locals m) (bl:eA X.prog X.w I h') (bp:AllBare g') :
  Inv X ag σ I { s with heap:=h',gens:=g',drawn:=d',toks:=t' }:=by
 have Ry:∀ b o,X.f_.heap.get? b=some o->b ≠ X.env.locals:=fun b o e=>gX (hU (eV e) J.ok.above)
 have A3:∀ b o,X.f_.heap.get? b=some o->b ∉ X.ex->b ∉ ch:=fun b o e aj ae=>by
  rcases (h7 b ae).1 with z | z
  .exact aj z
  .exact absurd (hU (eV e) z) (mu _)
 have cellK:∀ x c,X.env.cells.lookup x=some c->∀ v,s.heap.IsCell c v->h'.IsCell c v:=fun x c e v ⟨o,aT,hd⟩=>by
  have xk:c ∉ ch:=fun z=>(h7 c z).2.2.1 x c e rfl
  by_cases aA:c ∈ X.aX
  .obtain ⟨a6,q⟩:=slot c o (J.sa x c e) aA xk aT (J.jK x c e);exact ⟨_,q,hd⟩
  .exact ⟨o,keep c o (J.sa x c e) aA xk aT (J.jK x c e),hd⟩
 refine ⟨J.ok,J.os,bp,⟨fun b o e n ae aj=>?_,fun b o e n ae aj=>?_,fun b o e n aj=>?_,fun b o e aj=>?_,fun b xs e=>lM b xs (J.base.lM b xs e),fun b o xs e=>j7 b o xs (J.base.j7 b o xs e),fun b ps e=>?_⟩,?_,fun x c e=>?_,?_,fun x c e=>?_,fun p ar=>?_,bl,J.len⟩
 .exact keep b o (Ry b o e) ae (A3 b o e aj) (J.base.keep b o e n ae aj) (J.base.free b o e n aj)
 .obtain ⟨a6,ax⟩:=J.base.slot b o e n ae aj;obtain ⟨Eh,aK⟩:=slot b _ (Ry b o e) ae (A3 b o e aj) ax (J.base.free b o e n aj);exact ⟨Eh,aK⟩
 .obtain ⟨ea,ax⟩:=J.base.there b o e aj;exact free b ea (A3 b o e aj) ax (J.base.free b o e n aj)
 .obtain ⟨ea,ax⟩:=J.base.there b o e aj;exact there b ea (A3 b o e aj) ax
 .obtain ⟨ju,ax⟩:=J.base.kV b ps e;obtain ⟨j8,aK⟩:=kV b _ ax;exact ⟨ju ++ j8,by rw [aK,aa4]⟩
 .obtain ⟨m,aQ,aM⟩:=J.loc;refine ⟨m,ns m aQ,fun i x v ax aK bU=>?_⟩;obtain ⟨u,r,l⟩:=aM i x v ax aK bU;refine ⟨u,r,?_⟩;rcases l with l | ⟨k,c,e,z⟩
  .exact .inl l
  .exact .inr ⟨k,c,e,cellK x c e _ z⟩
 .obtain ⟨v,z⟩:=J.cell x c e;exact ⟨v,cellK x c e v z⟩
 .obtain ⟨m,⟨o,_,_,aT,_⟩,_⟩:=J.loc;exact free _ o (fun z=>(h7 _ z).2.1 rfl) aT J.free
 .obtain ⟨v,o,aT,hd⟩:=J.cell x c e;exact free c o (fun z=>(h7 c z).2.2.1 x c e rfl) aT (J.jK x c e)
 .obtain ⟨e,n,ne,iT,d⟩:=J.pin p ar;have xk:p.1 ∉ ch:=fun z=>(h7 p.1 z).2.2.2 p ar rfl
  exact ⟨keep p.1 p.2 ne iT xk e n,free p.1 p.2 xk e n,ne,iT,d⟩
theorem Inv.un {t':Nat} (J:Inv X ag σ H s) (u:fc X.aX [] H I s.heap h') (bl:eA X.prog X.w I h'):Inv X ag σ I { s with heap:=h',toks:=t' }:=by
 obtain ⟨m,⟨o,ba,ep,aT,r⟩,_⟩:=id J.loc;obtain ⟨a6,eJ⟩:=u.any aT J.free (by simp);exact J.step (g':=s.gens) (d':=s.drawn) (ch:=[]) (fun _ z=>nomatch z) (fun b o _ ae _ e n=>u.keep b o e n ae (by simp)) (fun b o _ ae _ e n=>u.slot b o e n ae (by simp)) (fun b o _ e n=>u.free b o e n (by simp)) (fun b o _ e=>u.there b o e (by simp)) u.lM u.j7 u.kV (fun dB hm=>by
  obtain ⟨ea,JT,EE,qJ,df⟩:=hm;rw [aT] at qJ;cases qJ;exact ⟨_,JT,EE,eJ,df⟩) bl J.bare
theorem Inv.call {g':Array GenState} {t':Nat} {d':Drawn} {ch:List Addr} (J:Inv X ag σ H s) (u:fc (mG X.stack) ch H I s.heap h') (bl:eA X.prog X.w I h') (bp:AllBare g')
  (h7:∀ b ∈ ch,(b ∈ X.ex\/X.f_.heap.objs.size <= b)/\b ≠ X.env.locals/\(∀ x c,X.env.cells.lookup x=some c->c ≠ b)/\∀ p ∈ X.ez ++ ag,p.1 ≠ b) :
  Inv X ag σ I { s with heap:=h',gens:=g',drawn:=d',toks:=t' }:=by
 obtain ⟨m,⟨o,ba,ep,aT,r⟩,_⟩:=id J.loc;obtain ⟨a6,eJ⟩:=u.any aT J.free fun z=>(h7 _ z).2.1 rfl
 exact J.step (ch:=ch) h7 (fun b o eJ ae aA e n=>u.keep b o e n (fun z=>(fx.mp (J.zr b z)).elim eJ ae) aA) (fun b o _ _ aA e n=>u.any e n aA) (fun b o aA e n=>u.free b o e n aA) (fun b o aA e=>u.there b o e aA) u.lM u.j7 u.kV (fun dB hm=>by
  obtain ⟨ea,JT,EE,qJ,df⟩:=hm;rw [aT] at qJ;cases qJ;exact ⟨_,JT,EE,eJ,df⟩) bl bp
theorem Inv.turned {t':Nat} {it:Addr} (J:Inv X ag σ H s) (k:∀ b o,b ≠ it->s.heap.get? b=some o->h'.get? b=some o) (aQ:H it=none) (eJ:it ≠ X.env.locals)
  (af:it ∈ X.ex\/X.f_.heap.objs.size <= it) (ao:∀ x c,X.env.cells.lookup x=some c->c ≠ it) (bj:∀ p ∈ X.ez ++ ag,p.1 ≠ it):Inv X ag σ H { s with heap:=h',toks:=t' }:=by
 have nit:∀ b u,H b=some u->b ≠ it:=fun b u e z=>by rw [z,aQ] at e;cases e
 refine J.step (g':=s.gens) (d':=s.drawn) (ch:=[it]) (fun b ae=>?_) (fun b o _ _ aA e _=>k b o (fun z=>aA (by simp [z])) e) (fun b o _ _ aA e _=>⟨o.slots,k b o (fun z=>aA (by simp [z])) e⟩) (fun _ _ _ _ n=>n)
  (fun b o aA e=>⟨o,k b o (fun z=>aA (by simp [z])) e⟩) (fun _ _ e=>e) (fun _ _ _ e=>e) (fun b ps e=>⟨#[],by rw [e];simp⟩) (fun m hm=>?_) (fun b u e=>?_) J.bare
 .have e:b=it:=by simpa using ae
  subst e;exact ⟨af,eJ,ao,bj⟩
 .obtain ⟨o,ba,ep,aT,r⟩:=hm;exact ⟨o,ba,ep,k _ o (dJ eJ) aT,r⟩
 .refine (J.bl b u e).nR (fun c v aA q=>k c v ?_ q) (fun _ q=>q) fun _ _ q=>q
  rcases aA with z | z
  .rw [z];exact nit b u e
  .exact nit c _ z
theorem Inv.tok (J:Inv X ag σ H s) (t:Nat):Inv X ag σ H { s with toks:=t }:=J.un (h':=s.heap) (t':=t) fc.refl J.bl
theorem Inv.kept (J:Inv X ag σ H s) (k:∀ b u,s.heap.get? b=some u->h'.get? b=some u):Inv X ag σ H { s with heap:=h',toks:=t' }:=J.un (fc.kept k) (J.bl.kept k)
theorem Inv.laid (J:Inv X ag σ H s) (k:∀ b u,s.heap.get? b=some u->h'.get? b=some u) (ar:s.heap.objs.size <= a) (new:dT X.prog X.w (upd H a o) h' a o) :
  Inv X ag σ (upd H a o) { s with heap:=h',toks:=t' }:=J.un (fc.laid k ar (J.bl.fresh ar)) (J.bl.laid k ar new)
theorem Inv.write {x e:Addr} {o:fz} {t':Nat} (J:Inv X ag σ H s) (gW:pb (H x)) (he:e=x\/H e=some (.own x)) (k:∀ b u,b ≠ e->s.heap.get? b=some u->h'.get? b=some u) (t2:∃ u,h'.get? e=some u)
  (new:dT X.prog X.w (upd H x o) h' x o):Inv X ag σ (upd H x o) { s with heap:=h',toks:=t' }:=J.un (fc.write gW he k t2) (J.bl.write gW he k t2 new)
theorem Inv.weak (J:Inv X ag σ H s) (aM:az.length=σ.length) (w:∀ (i:Nat) v,az[i]? = some (some v)->σ[i]? = some (some v)):Inv X ag az H s:=
 ⟨J.ok,J.os,J.bare,J.base,let ⟨m,aQ,Cu⟩:=J.loc;⟨m,aQ,fun i x v ax aK bU=>Cu i x v ax (w i v aK) bU⟩,J.cell,J.free,J.jK,J.pin,J.bl,aM.trans J.len⟩
theorem Inv.sY (J:Inv X ag σ H s) (h:∀ p ∈ N7,s.heap.get? p.1=some p.2/\H p.1=none/\p.1 ≠ X.env.locals/\p.1 ∉ X.aX/\∀ v,p.2.data ≠ .cell v):Inv X N7 σ H s:=
 ⟨J.ok,J.os,J.bare,J.base,J.loc,J.cell,J.free,J.jK,fun p ar=>(gE.mp ar).elim (fun z=>J.pin p (p1 _ z)) (h p),J.bl,J.len⟩
theorem Rx {N:List Str} (bb:N.Nodup) {i j:Nat} {x:Str} (a:N[i]? = some x) (b:N[j]? = some x):i=j:=by
 obtain ⟨af,ax⟩:=cv.mp a;obtain ⟨ao,aK⟩:=cv.mp b;exact (Fx bb).mp (ax.trans aK.symm)
theorem Rh {M:Model} {A:Around} {E:Value->Shared->Prop} {i:Nat} {x:Str} {v:V} {u:Value} {Q:Unit->Shared->Prop} (J:Inv X ag σ H s) (bb:X.N.Nodup) (ah:X.N[i]? = some x) (aj:Loc X.env.scope x) (r:bM v u)
  (h:∀ ai,Inv X ag (σ.set i (some v)) H ai->(∃ a,x' a s.heap ai.heap/\(a=X.env.locals\/X.env.cells.lookup x=some a))->Q () ai) (hf:X.fn x=true\/X.env.scope.names.lookup x=some .local:=by first | exact .inl rfl | exact .inr rfl | assumption):wpAny M A (storeName X.env x u) Q E s:=by
 obtain ⟨m,aQ,aM⟩:=id J.loc;have ZL:(X.env.scope.kind == .class || (X.env.scope.kind == .module && X.env.locals != X.env.globals))=false:=by rw [J.ok.kind];rfl
 have QP:i < σ.length:=by rw [J.len];exact (cv.mp ah).1
 have sa:=J.sa;have tracked:∀ {a:Addr} {h':Heap},(∃ o,s.heap.get? a=some o/\H a=none)->x' a s.heap h'->eA X.prog X.w H h':=fun {a h'} aR aC b b' e=>by
  obtain ⟨_,_,V3⟩:=aR;refine (J.bl b b' e).nR (fun c fs aA q=>(aC.2 c ?_).trans q) (fun _ q=>q) fun _ _ q=>q
  rintro rfl;rcases aA with rfl | aA
  .rw [V3] at e;cases e
  .rw [V3] at aA;cases aA
 rcases aj with au | au
 .refine wpAny_storeName_local au aQ (fun h' acj aC=>?_) ZL;obtain ⟨aex,_,_,afx,_⟩:=id aQ;refine h _ ⟨J.ok,J.os,J.bare,⟨fun b o e n ae aj=>?_,fun b o e n ae aj=>?_,J.base.free,fun b o e aj=>?_,J.base.lM,J.base.j7,J.base.kV⟩,⟨_,acj,fun j y DK ax aK bU=>?_⟩,fun y c e=>?_,J.free,J.jK,fun p ar=>?_,tracked ⟨aex,afx,J.free⟩ aC,by simpa using J.len⟩ ⟨_,aC,.inl rfl⟩
  .exact (aC.2 b (gX (hU (eV e) J.ok.above))).trans (J.base.keep b o e n ae aj)
  .obtain ⟨a6,ax⟩:=J.base.slot b o e n ae aj;exact ⟨a6,(aC.2 b (gX (hU (eV e) J.ok.above))).trans ax⟩
  .obtain ⟨ea,ax⟩:=J.base.there b o e aj;exact ⟨ea,(aC.2 b (gX (hU (eV e) J.ok.above))).trans ax⟩
  .by_cases aJ:j=i
   .subst aJ;rw [ah] at ax;cases ax;rw [VS QP] at aK;cases aK;exact ⟨u,r,.inl ⟨au,by simp⟩⟩
   .rw [ID (dJ aJ)] at aK;obtain ⟨uQ,df,q⟩:=aM j y DK ax aK bU;refine ⟨uQ,df,?_⟩;rcases q with ⟨k,e⟩ | ⟨k,c,e,z⟩
    .refine .inl ⟨k,?_⟩;have:y ≠ x:=fun e=>aJ (Rx bb ax (e ▸ ah))
     simp [this,e]
    .exact .inr ⟨k,c,e,z.sameBut aC (sa y c e)⟩
  .obtain ⟨fs,z⟩:=J.cell y c e;exact ⟨fs,z.sameBut aC (sa y c e)⟩
  .obtain ⟨e,n,ne,iT,d⟩:=J.pin p ar;exact ⟨(aC.2 p.1 ne).trans e,n,ne,iT,d⟩
 .have Et:X.fn x=true:=by
   rcases hf with z | z
   .exact z
   .rw [z] at au;cases au
  obtain ⟨c,aA⟩:=J.ok.has x (.inl au);obtain ⟨fs,z⟩:=J.cell x c aA;refine wpAny_storeName_cell J.ok.kind au aA z (fun h' AA aC=>?_);obtain ⟨n6,sz,agB⟩:=id z;refine h { s with heap:=h' } ⟨J.ok,J.os,J.bare,⟨fun b o e n ae aj=>?_,fun b o e n ae aj=>?_,J.base.free,fun b o e aj=>?_,J.base.lM,J.base.j7,J.base.kV⟩,⟨m,aQ.sameBut aC (dJ (sa x c aA)),fun j y DK ax aK bU=>?_⟩,fun y c' e=>?_,J.free,J.jK,fun p ar=>?_,tracked ⟨n6,sz,J.jK x c aA⟩ aC,by simpa using J.len⟩ ⟨c,aC,.inr aA⟩
  .exact (aC.2 b (gX (hU (eV e) (J.ok.qD x c Et aA)))).trans (J.base.keep b o e n ae aj)
  .obtain ⟨a6,ax⟩:=J.base.slot b o e n ae aj;exact ⟨a6,(aC.2 b (gX (hU (eV e) (J.ok.qD x c Et aA)))).trans ax⟩
  .obtain ⟨ea,ax⟩:=J.base.there b o e aj;exact ⟨ea,(aC.2 b (gX (hU (eV e) (J.ok.qD x c Et aA)))).trans ax⟩
  .by_cases aJ:j=i
   .subst aJ;rw [ah] at ax;cases ax;rw [VS QP] at aK;cases aK;exact ⟨u,r,.inr ⟨.inl au,c,aA,AA⟩⟩
   .rw [ID (dJ aJ)] at aK;obtain ⟨uQ,df,q⟩:=aM j y DK ax aK bU;refine ⟨uQ,df,?_⟩;rcases q with q | ⟨k,c',e,i4⟩
    .exact .inl q
    .refine .inr ⟨k,c',e,i4.sameBut aC ?_⟩;rintro rfl;exact aJ (Rx bb ax (J.ok.inj _ _ _ e aA ▸ ah))
  .by_cases uh:c'=c
   .subst uh;exact ⟨_,AA⟩
   .obtain ⟨dI,fj⟩:=J.cell y c' e;exact ⟨dI,fj.sameBut aC uh⟩
  .obtain ⟨e,n,ne,iT,d⟩:=J.pin p ar;refine ⟨(aC.2 p.1 ?_).trans e,n,ne,iT,d⟩;intro q;rw [q,sz] at e;have eI:n6=p.2:=ei e;exact d fs (by rw [<- eI];exact agB)
theorem Qt {A:Around} {x:Str} (J:Inv X ag σ H s) (bb:X.N.Nodup) (ah:X.N[i]? = some x) (aj:Loc X.env.scope x) (r:bM v u)
  (h:∀ ai,Inv X ag (σ.set i (some v)) H ai->Q () ai) (hf:X.fn x=true\/X.env.scope.names.lookup x=some .local:=by first | exact .inl rfl | exact .inr rfl | assumption):wpAny M A (storeName X.env x u) Q E s:=
 Rh J bb ah aj r (fun ai gS _=>h ai gS) hf
theorem Inv.acJ (J:Inv X ag σ H s) (aT:ai.os=s.os) (u:fc (mG X.stack) ch H I s.heap ai.heap) (bl:eA X.prog X.w I ai.heap) (bp:AllBare ai.gens)
  (h7:∀ b ∈ ch,(b ∈ X.ex\/X.f_.heap.objs.size <= b)/\b ≠ X.env.locals/\(∀ x c,X.env.cells.lookup x=some c->c ≠ b)/\∀ p ∈ X.ez ++ ag,p.1 ≠ b):Inv X ag σ I ai:=by
 obtain ⟨h',g',d',t',ea⟩:=ai;have e:ea=s.os:=aT;subst e;exact J.call (g':=g') (t':=t') (d':=d') u bl bp h7
end
noncomputable abbrev gG:=Value->Option Addr->aw->Prop
noncomputable abbrev St:=List (Option V)
noncomputable abbrev cX:=V->aw->Prop
noncomputable abbrev TE:=St->aw->cX->Prop
noncomputable abbrev TT:=St->aw->(Bool->aw->Prop)->Prop
noncomputable abbrev gw:=St->aw->(List V->aw->Prop)->Prop
structure hF where
 cG:St->aw->Prop
 l1:cX
 cM:St->aw->Prop:=fun _ _=>False
 fl:St->aw->Prop:=fun _ _=>False
noncomputable abbrev eH:=hF->St->aw->Prop
def g0 (X:bg) (ag:List (Addr × Obj)) (σ:St) (Q:cX) (u:Value) (ai:Shared):Prop:=∃ v I,Inv X ag σ I ai/\bM v u/\Q v I
theorem el {X:bg} {ag:List (Addr × Obj)} {σ:St} {Q:cX} {u:Value} {ai:Shared} {C:Prop} (h:g0 X ag σ Q u ai) (k:∀ v I,Inv X ag σ I ai->bM v u->Q v I->C):C:=by
 obtain ⟨v,I,J,r,q⟩:=h;exact k v I J r q
def yO (X:bg) (ag:List (Addr × Obj)) (σ:St) (Q:Bool->aw->Prop) (b:Bool) (ai:Shared):Prop:=∃ I,Inv X ag σ I ai/\Q b I
def abJ (X:bg) (ag:List (Addr × Obj)) (σ:St) (Q:List V->aw->Prop) (us:List Value) (ai:Shared):Prop:=∃ vs I,Inv X ag σ I ai/\b0 vs us/\Q vs I
def rN (X:bg) (ag:List (Addr × Obj)) (D:hF) (f:Flow) (ai:Shared):Prop:=
 match f with
 | .next=>∃ az I,Inv X ag az I ai/\D.cG az I
 | .brk=>∃ az I,Inv X ag az I ai/\D.cM az I
 | .cont=>∃ az I,Inv X ag az I ai/\D.fl az I
 | .ret u=>∃ v az I,Inv X ag az I ai/\bM v u/\D.l1 v I
def bD (X:bg) (e:Expr) (t:TE):Prop:=
 ∀ (ag:List (Addr × Obj)) (s:Shared) (σ:St) (H:aw) (Q:cX),Inv X ag σ H s->t σ H Q->wpAny (model X.prog X.w) X.A (eval e X.env) (g0 X ag σ Q) X.d4 s
def jN (X:bg) (e:Expr) (t:TT):Prop:=
 ∀ (ag:List (Addr × Obj)) (s:Shared) (σ:St) (H:aw) (Q:Bool->aw->Prop),Inv X ag σ H s->t σ H Q->wpAny (model X.prog X.w) X.A (isTrue e X.env (eval e X.env)) (yO X ag σ Q) X.d4 s
def g5 (X:bg) (e:Expr) (t:TT):Prop:=
 ∀ (whole:Sem Value) (ag:List (Addr × Obj)) (s:Shared) (σ:St) (H:aw) (Q:Bool->aw->Prop),Inv X ag σ H s->t σ H Q->wpAny (model X.prog X.w) X.A (isTrue e X.env whole) (yO X ag σ Q) X.d4 s
theorem g5.pt {e:Expr} {t:TT} (h:g5 X e t):jN X e t:=h _
def kJ (X:bg) (ba:List Expr) (t:gw):Prop:=
 ∀ (pos:Pos) (ag:List (Addr × Obj)) (s:Shared) (σ:St) (H:aw) (Q:List V->aw->Prop),Inv X ag σ H s->t σ H Q->wpAny (model X.prog X.w) X.A (spliced (backTo pos (starEach ba X.env))) (abJ X ag σ Q) X.d4 s
def ia (X:bg) (st:Stmt) (t:eH):Prop:=
 ∀ (ag:List (Addr × Obj)) (s:Shared) (σ:St) (H:aw) (D:hF),Inv X ag σ H s->t D σ H->wpAny (model X.prog X.w) X.A (exec st X.env) (rN X ag D) X.d4 s
def lG (X:bg) (st:List Stmt) (t:eH):Prop:=
 ∀ (ag:List (Addr × Obj)) (s:Shared) (σ:St) (H:aw) (D:hF),Inv X ag σ H s->t D σ H->wpAny (model X.prog X.w) X.A (execs st X.env) (rN X ag D) X.d4 s
theorem bQ {t:Sem α} {A:Around} (h:wpAny M A t Q E s) (a0:∀ a s,Q a s->jC a s):wpAny M A t jC E s:=wpAny_mono h a0 fun _ _ x=>x
section
variable {X:bg}
noncomputable def r2 (H:aw) (Q:cX):Option (Option V)->Prop
 | some (some v)=>Q v H
 | _=>False
theorem AC (H:aw) (Q:cX) (v:V):r2 H Q (some (some v))=Q v H:=rfl
theorem r2.out:∀ {o:Option (Option V)},r2 H Q o->∃ v,o=some (some v)/\Q v H
 | some (some v),h=>⟨v,rfl,h⟩
 | some none,h=>h.elim
 | none,h=>h.elim
theorem abV (H:aw) (Q:cX) (o:Option (Option V)):r2 H Q o = ∃ v,o=some (some v)/\Q v H:=propext ⟨r2.out,fun ⟨_,e,h⟩=>e ▸ h⟩
def gV (x:V) (k:Int->Prop):Prop:=match x with
 | .int i=>k i
 | _=>False
theorem SN (i:Int) (k:Int->Prop):gV (.int i) k=k i:=rfl
theorem gV.out {x:V} {k:Int->Prop} (h:gV x k):∃ i,x=.int i/\k i:=by
 cases x with
 | int i=>exact ⟨i,rfl,h⟩
 | _=>exact h.elim
theorem Zo (x:V) (k:Int->Prop):gV x k = ∃ i,x=.int i/\k i:=propext ⟨gV.out,fun ⟨_,e,h⟩=>e ▸ h⟩
def kx (x:V) (k:Bool->Prop):Prop:=match x with
 | .br i=>k i
 | _=>False
theorem Vc (i:Bool) (k:Bool->Prop):kx (.br i) k=k i:=rfl
theorem kx.out {x:V} {k:Bool->Prop} (h:kx x k):∃ i,x=.br i/\k i:=by
 cases x with
 | br i=>exact ⟨i,rfl,h⟩
 | _=>exact h.elim
theorem XK (x:V) (k:Bool->Prop):kx x k = ∃ i,x=.br i/\k i:=propext ⟨kx.out,fun ⟨_,e,h⟩=>e ▸ h⟩
def fp (x:V) (k:Addr->Prop):Prop:=match x with
 | .ref i=>k i
 | _=>False
theorem RQ (i:Addr) (k:Addr->Prop):fp (.ref i) k=k i:=rfl
theorem fp.out {x:V} {k:Addr->Prop} (h:fp x k):∃ i,x=.ref i/\k i:=by
 cases x with
 | ref i=>exact ⟨i,rfl,h⟩
 | _=>exact h.elim
theorem afy (x:V) (k:Addr->Prop):fp x k = ∃ i,x=.ref i/\k i:=propext ⟨fp.out,fun ⟨_,e,h⟩=>e ▸ h⟩
def ny (xs:List V) (k:V->Prop):Prop:=match xs with
 | [y]=>k y
 | _=>False
theorem U2 (y:V) (k:V->Prop):ny [y] k=k y:=rfl
theorem ny.out:∀ {xs:List V} {k:V->Prop},ny xs k->∃ y,xs=[y]/\k y
 | [y],_,h=>⟨y,rfl,h⟩
 | [],_,h=>h.elim
 | _ :: _ :: _,_,h=>h.elim
theorem ale (xs:List V) (k:V->Prop):ny xs k = ∃ y,xs=[y]/\k y:=propext ⟨ny.out,fun ⟨_,e,h⟩=>e ▸ h⟩
noncomputable def yW (i:Nat):TE:=fun σ H Q=>r2 H Q σ[i]?
noncomputable def rz (v:V):TE:=fun _ H Q=>Q v H
theorem ace {x:Str} (bb:X.N[i]? = some x) (aI:z_ X.env.scope x) (hd:(x == ("__debug__" : Str))=false:=by decide) (kN:(x == ("__classdict__" : Str))=false:=by decide):bD X (.Name x pos) (yW i):=by
 intro ag s σ H Q J h;obtain ⟨v,e,h⟩:=r2.out h;obtain ⟨m,aQ,aM⟩:=J.loc;obtain ⟨u,r,l⟩:=aM i x v bb e aI;have fin:g0 X ag σ Q u s:=⟨v,H,J,r,h⟩;rcases l with ⟨au,hm⟩ | ⟨au,c,aA,Bf⟩
 .exact wpAny_Name (wpAny_loadName_local J.ok.kind au aQ hm fin) hd
 .rcases au with au | au
  .exact wpAny_Name (wpAny_loadName_cell J.ok.kind au aA Bf fin) hd
  .exact wpAny_Name (wpAny_loadName_free J.ok.kind au aA Bf fin kN) hd
theorem aD {i j pos}:bD X (.Constant (.int i) j pos) (rz (.int i)):=fun _ _ _ H _ J h=>wpAny_Constant_int ⟨.int i,H,J.tok _,⟨_,rfl⟩,h⟩
theorem kj {b j pos}:bD X (.Constant (.bool b) j pos) (rz (.br b)):=fun _ _ _ H _ J h=>Constant_bool ⟨.br b,H,J,rfl,h⟩
theorem n7 {j pos}:bD X (.Constant .none j pos) (rz .b4):=fun _ _ _ H _ J h=>Constant_none ⟨.b4,H,J,rfl,h⟩
theorem cZ {x j pos}:bD X (.Constant (.str x) j pos) (rz (.str x)):=fun _ _ _ H _ J h=>Calls.Constant_str ⟨.str x,H,J.tok _,⟨_,rfl⟩,h⟩
def mO (X:bg) (x:Str):Prop:=X.env.kindOf x=some .globalImplicit
theorem A9 {x:Str} (J:Inv X ag σ H s) (bp:mO X x) (hm:X.mg x=some u) (h:Q u s)
  (hd:(x == ("__debug__" : Str))=false:=by decide):wpAny (model X.prog X.w) X.A (eval (.Name x pos) X.env) Q E s:=
 agi J.ok.kind bp (Calls.loadGlobal_global (by rw [J.ok.glob];exact J.mod.glob.keeps J.cM) hm h) hd
theorem vu {x:Str} (J:Inv X ag σ H s) (bp:mO X x) (hm:X.mg x=none) (aI:bootBuiltins x=some u) (h:Q u s)
  (aQ:x ≠ "__name__" := by decide) (hd:(x == ("__debug__" : Str))=false:=by decide):wpAny (model X.prog X.w) X.A (eval (.Name x pos) X.env) Q E s:=by
 obtain ⟨nf,af,ao⟩:=J.mod.blt;exact agi J.ok.kind bp (Calls.loadGlobal_builtin (by rw [J.ok.glob];exact J.mod.glob.keeps J.cM) hm (by rw [J.ok.blt];exact af.keeps J.cM) ((ao x aQ).trans aI) h) hd
theorem mE {x:Str} (bp:mO X x) (hm:X.mg x=some u) (r:bM v u) (hd:(x == ("__debug__" : Str))=false:=by decide):bD X (.Name x pos) (rz v):=
 fun _ _ _ H _ J h=>A9 J bp hm ⟨v,H,J,r,h⟩ hd
theorem aeP {x:Str} (bp:mO X x) (hm:X.mg x=none) (aI:bootBuiltins x=some u) (r:bM v u) (aQ:x ≠ "__name__" := by decide) (hd:(x == ("__debug__" : Str))=false:=by decide):bD X (.Name x pos) (rz v):=
 fun _ _ _ H _ J h=>vu J bp hm aI ⟨v,H,J,r,h⟩ aQ hd
variable {a b:Expr} {bo b1:TE} {pos:Pos}
def Ic (X:bg) (op:CmpOp) (a b:Expr) (t:TE):Prop:=
 ∀ (ag:List (Addr × Obj)) (s:Shared) (σ:St) (H:aw) (Q:cX),Inv X ag σ H s->t σ H Q ->
  wpAny (model X.prog X.w) X.A (eval a X.env) (fun v dq=>wpAny (model X.prog X.w) X.A (eval b X.env) (fun u ec=>wpAny (model X.prog X.w) X.A (compareOp op v u) (g0 X ag σ Q) X.d4 ec) X.d4 dq) X.d4 s
theorem abO (b:Expr) (h:op ≠ .In) (ao:op ≠ .NotIn):behindInMarks op b=false:=by
 have ax:(op == CmpOp.In)=false:=by cases op <;> first | rfl | exact absurd rfl h
 have aK:(op == akM)=false:=by cases op <;> first | rfl | exact absurd rfl ao
 cases b <;> simp [behindInMarks,ax,aK]
noncomputable def CD (t:TE):TT:=fun σ H Q=>t σ H fun x H1=>kx x fun c=>Q c H1
theorem vN {t:TE} (h:Ic X op a b t) (af:behindInMarks op b=false:=by first | exact abO _ (by decide) (by decide) | rfl):jN X (.Compare a [op] [b] pos) (CD t):=by
 intro ag s σ H Q J hw;refine wpAny_isTrue_Compare1 (bQ (h ag s σ H _ J hw) fun v s1 af=>bQ af fun u s2 ao=>bQ ao fun c s3 cj=>el cj fun x H1 a_ cQ bR=>?_) af;obtain ⟨d,rfl,q⟩:=kx.out bR;cases cQ;exact wpAny_truthy_bool ⟨H1,a_,q⟩
theorem lR {e:Expr} {t:TE} (h:bD X e t) (he:∀ whole,isTrue e X.env whole=(do let v <- whole;standAt e.pos;holding [v] (truthy v)):=by intro _;rfl):jN X e (CD t):=by
 intro ag s σ H Q J hw;refine isTrue_plain (bQ (h ag s σ H _ J hw) fun v s1 cj=>el cj fun x H1 a_ cQ bR=>?_) (he _);obtain ⟨d,rfl,q⟩:=kx.out bR;cases cQ;exact wpAny_truthy_bool ⟨H1,a_,q⟩
variable {nd AK:TT} {l7:List Expr}
noncomputable def HD (t u:TT):TT:=fun σ H Q=>t σ H fun c H1=>if c=true then u σ H1 Q else Q false H1
noncomputable def Fh (t u:TT):TT:=fun σ H Q=>t σ H fun c H1=>if c=true then Q true H1 else u σ H1 Q
noncomputable def Kp (t:TT):TT:=fun σ H Q=>t σ H fun c H1=>Q (!c) H1
theorem oi (aR:jN X a nd):g5 X (.BoolOp .And [a] pos) nd:=by
 intro ym ag s σ H Q J h;refine isTrue_and (bQ (aR ag s σ H Q J h) fun c s1 e=>?_);cases c with
 | true=>exact isTrue_and_nil e
 | false=>exact e
theorem q6 (aR:jN X a nd):g5 X (.BoolOp .Or [a] pos) nd:=by
 intro ym ag s σ H Q J h;refine isTrue_or (bQ (aR ag s σ H Q J h) fun c s1 e=>?_);cases c with
 | false=>exact isTrue_or_nil e
 | true=>exact e
theorem ou (aR:jN X a nd) (ae:g5 X (.BoolOp .And (b :: l7) pos) AK):g5 X (.BoolOp .And (a :: b :: l7) pos) (HD nd AK):=by
 intro ym ag s σ H Q J h;refine isTrue_and (bQ (aR ag s σ H _ J h) fun c s1 c2=>?_);obtain ⟨H1,a_,bR⟩:=c2;cases c with
 | true=>exact ae ym ag s1 σ H1 Q a_ bR
 | false=>exact ⟨H1,a_,bR⟩
theorem qg (aR:jN X a nd) (ae:g5 X (.BoolOp .Or (b :: l7) pos) AK):g5 X (.BoolOp .Or (a :: b :: l7) pos) (Fh nd AK):=by
 intro ym ag s σ H Q J h;refine isTrue_or (bQ (aR ag s σ H _ J h) fun c s1 c2=>?_);obtain ⟨H1,a_,bR⟩:=c2;cases c with
 | true=>exact ⟨H1,a_,bR⟩
 | false=>exact ae ym ag s1 σ H1 Q a_ bR
theorem yE (aR:jN X a nd):jN X (.UnaryOp .Not a pos) (Kp nd):=by
 intro ag s σ H Q J h;exact isTrue_not (aR ag s σ H (fun c H1=>Q (!c) H1) J h)
noncomputable def LB (bo b1:TE):TE:=fun σ H Q=>bo σ H fun x H1=>kx x fun c=>if c=true then b1 σ H1 Q else Q (.br false) H1
noncomputable def Ld (bo b1:TE):TE:=fun σ H Q=>bo σ H fun x H1=>kx x fun c=>if c=true then Q (.br true) H1 else b1 σ H1 Q
noncomputable def Gr (bo:TE):TE:=fun σ H Q=>bo σ H fun x H1=>kx x fun c=>Q (.br (!c)) H1
theorem um {op} {t:TE} (h:bD X a t):bD X (.BoolOp op [a] pos) t:=fun ag s σ H Q J hw=>BoolOp_one (h ag s σ H Q J hw)
theorem x9 (aR:bD X a bo) (ae:bD X (.BoolOp .And (b :: l7) pos) b1):bD X (.BoolOp .And (a :: b :: l7) pos) (LB bo b1):=by
 intro ag s σ H Q J h;refine BoolOp_and (bQ (aR ag s σ H _ J h) fun v s1 cj=>el cj fun x H1 a_ cQ bR=>?_);obtain ⟨c,rfl,g8⟩:=kx.out bR;cases cQ;refine wpAny_truthy_bool ?_;cases c with
 | true=>exact ae ag s1 σ H1 Q a_ g8
 | false=>exact ⟨.br false,H1,a_,rfl,g8⟩
theorem O2 (aR:bD X a bo) (ae:bD X (.BoolOp .Or (b :: l7) pos) b1):bD X (.BoolOp .Or (a :: b :: l7) pos) (Ld bo b1):=by
 intro ag s σ H Q J h;refine BoolOp_or (bQ (aR ag s σ H _ J h) fun v s1 cj=>el cj fun x H1 a_ cQ bR=>?_);obtain ⟨c,rfl,g8⟩:=kx.out bR;cases cQ;refine wpAny_truthy_bool ?_;cases c with
 | false=>exact ae ag s1 σ H1 Q a_ g8
 | true=>exact ⟨.br true,H1,a_,rfl,g8⟩
theorem Gv (aR:bD X a bo):bD X (.UnaryOp .Not a pos) (Gr bo):=by
 intro ag s σ H Q J h;refine UnaryOp_ (bQ (aR ag s σ H _ J h) fun v s1 cj=>el cj fun x H1 a_ cQ bR=>?_);obtain ⟨c,rfl,g8⟩:=kx.out bR;cases cQ;exact not_of (wpAny_truthy_bool ⟨.br (!c),H1,a_,rfl,g8⟩)
noncomputable def FI (t:TT) (bo b1:TE):TE:=fun σ H Q=>t σ H fun c H1=>if c=true then bo σ H1 Q else b1 σ H1 Q
theorem uv (aA:jN X c nd) (aR:bD X a bo) (ae:bD X b b1):bD X (.IfExp c a b pos) (FI nd bo b1):=by
 intro ag s σ H Q J h;refine wpAny_IfExp (bQ (aA ag s σ H _ J h) fun d s1 c2=>?_);obtain ⟨H1,a_,bR⟩:=c2;cases d with
 | true=>exact aR ag s1 σ H1 Q a_ bR
 | false=>exact ae ag s1 σ H1 Q a_ bR
end
def av (K:bk) (H:aw) (a:Addr) (xs:List V):Prop:=
 j' H a (.lst xs) \/
  ∃ (o:Obj) (aV:Array Value) (n:Nat),K.lookup a=some o/\o.cls=.type "list" /\ o.dict=none/\o.data=.seq aV n/\aV.size <= sizeLine/\b0 xs aV.toList
def cJ (K:bk) (H:aw) (a:Addr) (xs:List V):Prop:=
 j' H a (.tup xs) \/
  ∃ (o:Obj) (aV:Array Value) (n:Nat),K.lookup a=some o/\o.cls=.type "tuple" /\ o.data=.seq aV n/\aV.size <= sizeLine/\b0 xs aV.toList
noncomputable def agF:Value->Option V
 | .none=>some .b4
 | .bool b=>some (.br b)
 | .int i _=>some (.int i)
 | .str x _=>some (.str x)
 | .bytes b _=>some (.l4 b)
 | .float b _=>some (.r1 b)
 | .ref a=>some (.ref a)
 | .type n=>some (.ty n)
 | _=>none
theorem bM.abs {x:V} (r:bM x u):agF u=some x:=by
 cases x with
 | b4=>cases r;rfl
 | br _=>cases r;rfl
 | int _=>obtain ⟨t,rfl⟩:=r;rfl
 | str _=>obtain ⟨t,rfl⟩:=r;rfl
 | l4 _=>obtain ⟨t,rfl⟩:=r;rfl
 | r1 _=>obtain ⟨t,rfl⟩:=r;rfl
 | ref _=>cases r;rfl
 | ty _=>cases r;rfl
theorem bM.inj {x y:V} (r:bM x u) (q:bM y u):x=y:=ei (r.abs.symm.trans q.abs)
theorem b0.inj:∀ {xs ys:List V} {us:List Value},b0 xs us->b0 ys us->xs=ys
 | _,_,_,.nil,.nil=>rfl
 | _,_,_,.cons r t,.cons df t'=>by rw [r.inj df,b0.inj t t']
section
variable {X:bg} {ag:List (Addr × Obj)} {σ:St} {H:aw} {s:Shared} {a:Addr} {xs ys:List V}
theorem av.of {K:bk} (h:H a=some (.lst xs)):av K H a xs:=.inl (.inl h)
theorem cJ.of {K:bk} (h:H a=some (.tup xs)):cJ K H a xs:=.inl (.inl h)
theorem Inv.list (J:Inv X ag σ H s) (h:av X.K H a xs):∃ aV:List Value,b0 xs aV/\PlainL s.heap a aV.toArray/\xs.length <= sizeLine:=by
 rcases h with h | ⟨o,aV,n,au,aA,hd,aC,aO,r⟩
 .obtain ⟨z,aV,n,r,e⟩:=h.ok J.bl;exact ⟨aV,r,⟨_,n,e,rfl,rfl,rfl⟩,z⟩
 .refine ⟨aV.toList,r,⟨o,n,J.gC a o au,aA,hd,by simpa using aC⟩,?_⟩;have e:=r.length;simp only [zo] at e;omega
theorem Inv.tuple (J:Inv X ag σ H s) (h:cJ X.K H a xs):∃ aV:List Value,b0 xs aV/\IsTup s.heap a aV.toArray/\xs.length <= sizeLine:=by
 rcases h with h | ⟨o,aV,n,au,aA,aC,aO,r⟩
 .obtain ⟨z,aV,r,p⟩:=h.ok J.bl;exact ⟨aV,r,p,z⟩
 .refine ⟨aV.toList,r,⟨o,J.gC a o au,aA,n,by simpa using aC⟩,?_⟩;have e:=r.length;simp only [zo] at e;omega
theorem Inv.yB (J:Inv X ag σ H s) (h:av X.K H a xs) (h':av X.K H a ys):xs=ys:=by
 obtain ⟨aV,r,⟨o,n,e,_,_,d⟩,_⟩:=J.list h;obtain ⟨its',df,⟨ea,ew,bF,_,_,d'⟩,_⟩:=J.list h';rw [e] at bF;cases bF;rw [d] at d';injection d' with eB _;have:aV=its':=by simpa using congrArg ab7 eB
 subst this;exact r.inj df
theorem Inv.Ot (J:Inv X ag σ H s) (h:cJ X.K H a xs) (h':cJ X.K H a ys):xs=ys:=by
 obtain ⟨aV,r,⟨o,e,_,n,d⟩,_⟩:=J.tuple h;obtain ⟨its',df,⟨ea,bF,_,ew,d'⟩,_⟩:=J.tuple h';rw [e] at bF;cases bF;rw [d] at d';injection d' with eB _;have:aV=its':=by simpa using congrArg ab7 eB
 subst this;exact r.inj df
end
noncomputable abbrev bg.i9 (X:bg) (E:Value->Shared->Prop):bg:={ X with d4:=E }
noncomputable abbrev bg.mQ (X:bg):bg:=X.i9 fun _ _=>False
theorem bg.Ok.i9 {X:bg} (ok:X.Ok) (E:Value->Shared->Prop):(X.i9 E).Ok:=
 ⟨ok.mod,ok.kind,ok.glob,ok.blt,ok.above,ok.inj,ok.has,ok.qD,ok.hd,ok.frames,ok.sd,ok.vV,ok.bs,ok.k4,ok.qR,ok.qE,ok.ko,ok.nK⟩
theorem bg.Ok.n3 {X:bg} {E:Value->Shared->Prop} (ok:(X.i9 E).Ok):X.Ok:=
 ⟨ok.mod,ok.kind,ok.glob,ok.blt,ok.above,ok.inj,ok.has,ok.qD,ok.hd,ok.frames,ok.sd,ok.vV,ok.bs,ok.k4,ok.qR,ok.qE,ok.ko,ok.nK⟩
section
variable {X:bg} {ag:List (Addr × Obj)} {σ:St} {H:aw} {s:Shared} {E:Value->Shared->Prop}
theorem Inv.i9 (J:Inv X ag σ H s) (E:Value->Shared->Prop):Inv (X.i9 E) ag σ H s:=⟨J.ok.i9 E,J.os,J.bare,J.base,J.loc,J.cell,J.free,J.jK,J.pin,J.bl,J.len⟩
theorem Inv.n3 (J:Inv (X.i9 E) ag σ H s):Inv X ag σ H s:=⟨J.ok.n3,J.os,J.bare,J.base,J.loc,J.cell,J.free,J.jK,J.pin,J.bl,J.len⟩
theorem rN.n3 (h:rN (X.i9 E) ag D f ai):rN X ag D f ai:=by
 cases f with
 | next=>obtain ⟨az,I,J,q⟩:=h;exact ⟨az,I,J.n3,q⟩
 | brk=>obtain ⟨az,I,J,q⟩:=h;exact ⟨az,I,J.n3,q⟩
 | cont=>obtain ⟨az,I,J,q⟩:=h;exact ⟨az,I,J.n3,q⟩
 | ret u=>obtain ⟨v,az,I,J,r,q⟩:=h;exact ⟨v,az,I,J.n3,r,q⟩
theorem bD.mQ {e:Expr} {t:TE} (h:bD X.mQ e t):bD X e t:=fun ag s σ H Q J hw=>
 wpAny_mono (h ag s σ H Q (J.i9 _) hw) (fun _ _ cj=>el cj fun v I gS r q=>⟨v,I,gS.n3,r,q⟩) fun _ _ z=>jq z
theorem jN.mQ {e:Expr} {t:TT} (h:jN X.mQ e t):jN X e t:=fun ag s σ H Q J hw=>
 wpAny_mono (h ag s σ H Q (J.i9 _) hw) (fun _ _ ⟨I,gS,q⟩=>⟨I,gS.n3,q⟩) fun _ _ z=>jq z
theorem lG.mQ {st:List Stmt} {t:eH} (h:lG X.mQ st t):lG X st t:=fun ag s σ H D J hw=>
 wpAny_mono (h ag s σ H D (J.i9 _) hw) (fun _ _ q=>q.n3) fun _ _ z=>jq z
end
section
variable {X:bg} {st:Stmt} {l7:List Stmt} {t u:eH} {e:Expr} {bT:TE} {pos:Pos}
noncomputable def hr:eH:=fun D σ H=>D.cG σ H
noncomputable def akk:Nat:=0
noncomputable def wX:Nat:=akk
noncomputable def tP:Nat:=wX
noncomputable def C7:Nat:=tP
noncomputable def ajy:Nat:=C7
noncomputable def ahB:Nat:=ajy
noncomputable def al_:Nat:=ahB
noncomputable def alj:Nat:=al_
noncomputable def aft:Nat:=alj
noncomputable def ahf:Nat:=aft
noncomputable def aat:Nat:=ahf
noncomputable def afE:Nat:=aat
noncomputable def al2:Nat:=afE
noncomputable def Hb (t u:eH):eH:=fun D σ H=>(fun _:Nat=>t { D with cG:=u D } σ H) al2
theorem ek:lG X [] hr:=fun _ _ σ H _ J h=>wpAny_execs_nil ⟨σ,H,J,h⟩
theorem aS (af:ia X st t) (ao:lG X l7 u):lG X (st :: l7) (Hb t u):=by
 intro ag s σ H D J h;refine wpAny_execs_cons (bQ (af ag s σ H { D with cG:=u D } J h) fun f s1 q=>?_);cases f with
 | next=>
  obtain ⟨az,I,gS,q⟩:=q;exact ao ag s1 az I D gS q
 | ret v=>exact q
 | brk=>exact q
 | cont=>exact q
theorem a5 (af:ia X st t):lG X [st] t:=by
 intro ag s σ H D J h;refine wpAny_execs_cons (bQ (af ag s σ H D J h) fun f s1 q=>?_);cases f with
 | next=>exact wpAny_execs_nil q
 | ret v=>exact q
 | brk=>exact q
 | cont=>exact q
theorem Inv.quiet (J:Inv X ag σ H s):interactive X.env=false:=by simp [interactive,J.ok.kind]
noncomputable def G0 (bT:TE):eH:=fun D σ H=>bT σ H fun _ H1=>D.cG σ H1
theorem ee (he:bD X e bT) (aC:swapsWith e none pos.line X.env=pure false:=by rfl):ia X (.Expr e pos) (G0 bT):=by
 intro ag s σ H D J h;exact wpAny_Expr_any (bQ (he ag s σ H _ J h) fun v s1 cj=>el cj fun x H1 a_ cQ bR=>⟨σ,H1,a_,bR⟩) J.quiet aC
noncomputable def zh (bT:TE):eH:=fun D σ H=>bT σ H D.l1
theorem cy (he:bD X e bT):ia X (.Return (some e) pos) (zh bT):=by
 intro ag s σ H D J h;exact wpAny_Return_some (bQ (he ag s σ H _ J h) fun v s1 cj=>el cj fun x H1 a_ cQ bR=>⟨x,σ,H1,a_,cQ,bR⟩)
noncomputable def IE:eH:=fun D _ H=>D.l1 .b4 H
theorem aek:ia X (.Return none pos) IE:=fun _ _ σ H _ J h=>wpAny_Return_none ⟨.b4,σ,H,J,rfl,h⟩
noncomputable def F5 (c:TT) (t u:eH):eH:=fun D σ H=>c σ H fun b H1=>if b=true then t D σ H1 else u D σ H1
theorem dP (aA:jN X c c6) (aR:lG X a t) (ae:lG X b u):ia X (.If c a b pos) (F5 c6 t u):=by
 intro ag s σ H D J h;refine wpAny_If (bQ (aA ag s σ H _ J h) fun d s1 c2=>?_);obtain ⟨H1,a_,bR⟩:=c2;cases d with
 | true=>exact aR ag s1 σ H1 D a_ bR
 | false=>exact ae ag s1 σ H1 D a_ bR
noncomputable def Hg:eH:=fun _ _ _=>False
theorem oB:ia X st Hg:=fun _ _ _ _ _ _ h=>h.elim
end
noncomputable abbrev gJ:=V->St->aw->(St->aw->Prop)->Prop
noncomputable abbrev ti:=List V->St->aw->(St->aw->Prop)->Prop
def m8 (X:bg) (vT:Expr) (t:gJ):Prop:=
 ∀ (ag:List (Addr × Obj)) (s:Shared) (σ:St) (H:aw) (v:V) (u:Value) (Q:St->aw->Prop),Inv X ag σ H s->bM v u->t v σ H Q ->
  wpAny (model X.prog X.w) X.A (assign vT X.env u) (fun _ ai=>∃ az I,Inv X ag az I ai/\Q az I) X.d4 s
def wb (X:bg) (tB:List Expr) (t:ti):Prop:=
 ∀ (ag:List (Addr × Obj)) (s:Shared) (σ:St) (H:aw) (vs:List V) (us:List Value) (Q:St->aw->Prop),Inv X ag σ H s->b0 vs us->t vs σ H Q ->
  wpAny (model X.prog X.w) X.A (assignInOrder ((assignEach tB X.env).map (·.2)) us) (fun _ ai=>∃ az I,Inv X ag az I ai/\Q az I) X.d4 s
noncomputable abbrev ED:=V->V->V->aw->(aw->Prop)->Prop
def Tq (X:bg) (t:ED):Prop:=
 ∀ (ag:List (Addr × Obj)) (s:Shared) (σ:St) (H:aw) (o i v:V) (fo iq u:Value) (Q:aw->Prop),Inv X ag σ H s->bM o fo->bM i iq->bM v u->t o i v H Q ->
  wpAny (model X.prog X.w) X.A (setItem fo iq u) (fun _ ai=>∃ I,Inv X ag σ I ai/\Q I) X.d4 s
section
variable {X:bg} {pos:Pos}
noncomputable def hN (i:Nat):gJ:=fun v σ H Q=>Q (σ.set i (some v)) H
theorem TA {x:Str} (bb:X.N.Nodup) (ah:X.N[i]? = some x) (aj:Loc X.env.scope x) (hf:X.fn x=true\/X.env.scope.names.lookup x=some .local:=by first | exact .inl rfl | exact .inr rfl | assumption):m8 X (.Name x pos) (hN i):=by
 intro ag s σ H v u Q J r h;exact wpAny_assign_Name (Qt J bb ah aj r (fun ai gS=>⟨_,H,gS,h⟩) hf)
noncomputable def wc:ti:=fun vs σ H Q=>vs=[]/\Q σ H
noncomputable def r7 (t:gJ) (u:ti):ti:=fun vs σ H Q=>∃ v r,vs=v :: r/\t v σ H fun az I=>u r az I Q
theorem mx:wb X [] wc:=by
 intro ag s σ H vs us Q J r h;obtain ⟨e,h⟩:=h;subst e;cases r;exact assignInOrder_nil ⟨σ,H,J,h⟩
theorem fC {e:Expr} {t:gJ} (af:m8 X e t) (ao:wb X ba u)
  (aC:(assignEach (e :: ba) X.env).map (·.2)=assign e X.env :: (assignEach ba X.env).map (·.2):=by rfl):wb X (e :: ba) (r7 t u):=by
 intro ag s σ H vs us Q J r h;obtain ⟨v,an',ax,h⟩:=h;subst ax;cases r with
 | cons r kW=>
  rw [aC];refine assignInOrder_cons (bQ (af ag s σ H _ _ _ J r h) fun _ s1 c2=>?_);obtain ⟨fK,H1,a_,bR⟩:=c2;exact ao ag s1 fK H1 _ _ Q a_ kW bR
noncomputable def uM (K:bk) (n:Nat) (t:ti):gJ:=fun v σ H Q=>∃ a xs,v=.ref a/\cJ K H a xs/\xs.length=n/\t xs σ H Q
theorem abH {k:Nat} {t:ti} (aA:X.calm=true) (h:wb X ba t)
  (aQ:(assignEach ba X.env).length=n:=by rfl) (h8:(assignEach ba X.env).findIdx? (·.1)=none:=by rfl):m8 X (.Tuple ba k pos) (uM X.K n t):=by
 intro ag s σ H v u Q J r hw;obtain ⟨a,xs,ax,aU,aM,hw⟩:=hw;subst ax;cases r;obtain ⟨aV,cV,cT,aO⟩:=J.tuple aU;refine assign_Tuple_tuple (J.ok.hd aA) cT (by simp [aQ,<- aM,cV.length]) h8 fun h' aj=>?_
 have a_:Inv X ag σ H { s with heap:=h' }:=J.kept (t':=s.toks) fun b o e=>aj b o (gX (eV e)) e
 exact h ag _ σ H xs _ Q a_ (by simpa using cV) hw
noncomputable def IS (to C3:TE) (t:ED):gJ:=fun v σ H Q=>to σ H fun o H1=>C3 σ H1 fun i aB=>t o i v aB fun bw=>Q σ bw
theorem l3 {to C3:TE} {t:ED} (aT:bD X o to) (ah:bD X i C3) (aC:Tq X t)
  (aR:∀ v,assign (.Subscript o i pos) X.env v=(do
   let fo <- holding [v] (eval o X.env)
   let iq <- holding [v,fo] (eval i X.env)
   standAt pos
   holding [v,fo,iq] (setItem fo iq v)
   release [v,fo,iq] []):=by intro _;rfl):m8 X (.Subscript o i pos) (IS to C3 t):=by
 intro ag s σ H v u Q J r h;rw [aR];refine wpAny_bind (wpAny_holding (bQ (aT ag s σ H _ J h) fun fo s1 cj=>el cj fun x H1 a_ cQ bR=>?_));refine wpAny_bind (wpAny_holding (bQ (ah ag s1 σ H1 _ a_ bR) fun iq s2 cj=>el cj fun y aB b3 gz dS=>?_));refine wpAny_bind (wpAny_standAt (wpAny_bind (wpAny_holding (bQ (aC ag s2 σ aB x y v fo iq u _ b3 cQ gz r dS) fun _ s3 c2=>?_))));obtain ⟨bw,fe,fD⟩:=c2;exact wpAny_release ⟨σ,bw,fe,fD⟩
noncomputable def t9 (bT:TE) (g:gJ):eH:=fun D σ H=>bT σ H fun x H1=>g x σ H1 D.cG
theorem kB {dn e:Expr} (he:bD X e bT) (bp:m8 X dn g) (aC:swapsWithSole [dn] e pos.line X.env=pure false:=by rfl) (hw:swappedStores [dn] e X.env=pure none:=by rfl)
  (af:(assignEach [dn] X.env).map (·.2)=[assign dn X.env]:=by rfl):ia X (.Assign [dn] e pos) (t9 bT g):=by
 intro ag s σ H D J h;refine wpAny_Assign_stores (bQ (he ag s σ H _ J h) fun v s1 cj=>el cj fun x H1 a_ cQ bR=>?_) aC hw;rw [af];exact bQ (bp ag s1 σ H1 x v _ a_ cQ bR) fun _ s2 q=>q
theorem lb {x:Str} {e:Expr} (bb:X.N.Nodup) (ah:X.N[i]? = some x) (aj:Loc X.env.scope x) (he:bD X e bT) (aC:swapsWith e (some (.Name x pos')) pos.line X.env=pure false:=by rfl) (hf:X.fn x=true\/X.env.scope.names.lookup x=some .local:=by first | exact .inl rfl | exact .inr rfl | assumption) :
  ia X (.Assign [.Name x pos'] e pos) (t9 bT (hN i)):=by
 intro ag s σ H D J h;refine wpAny_Assign_Name (bQ (he ag s σ H _ J h) fun v s1 cj=>el cj fun y H1 a_ cQ bR=>?_) aC;exact Qt a_ bb ah aj cQ (fun s2 b3=>⟨_,H1,b3,bR⟩) hf
noncomputable def M8 (c:TT) (b1:eH):eH:=fun D σ H=>∃ W:Nat->St->aw->Prop,(∃ m,W m σ H)/\∀ m σ H,W m σ H ->
 c σ H fun b H1=>if b=true then ∃ N:St->aw->Prop,(∀ az I,N az I->∃ dB,dB < m/\W dB az I)/\b1 { D with cG:=N,fl:=N,cM:=D.cG } σ H1 else D.cG σ H1
theorem aeo (ar:PassesOwn (model X.prog X.w) X.A X.env X.d4) (aA:jN X c c6) (ae:lG X body b1):ia X (.While c body [] pos) (M8 c6 b1):=by
 intro ag s σ H D J h;obtain ⟨W,⟨m0,nJ⟩,turn⟩:=h;refine wpAny_While (codeAny_whileLoop (fun n ai=>∃ az I,Inv X ag az I ai/\W n az I) ?_ m0 ⟨σ,H,J,nJ⟩);rintro n s1 ⟨fK,H1,a_,dH⟩;refine wpAny_passesOwn ar (bQ (aA ag s1 fK H1 _ a_ (turn n fK H1 dH)) fun b s2 c2=>?_);obtain ⟨aB,b3,dS⟩:=c2;cases b with
 | true=>
  obtain ⟨N,bb,dS⟩:=dS;rw [if_pos rfl];refine wpAny_passesOwn ar (bQ (ae ag s2 fK aB _ b3 dS) fun f s3 fD=>?_);cases f with
  | next=>
   obtain ⟨fS,bw,fe,dp⟩:=fD;obtain ⟨dB,hm,fQ⟩:=bb fS bw dp;exact ⟨dB,hm,fS,bw,fe,fQ⟩
  | cont=>
   obtain ⟨fS,bw,fe,dp⟩:=fD;obtain ⟨dB,hm,fQ⟩:=bb fS bw dp;exact ⟨dB,hm,fS,bw,fe,fQ⟩
  | brk=>exact fD
  | ret v=>exact fD
 | false=>
  rw [if_neg eQ];exact wpAny_execs_nil ⟨fK,aB,b3,dS⟩
end
structure ke where
 go:Nat->aw->Prop
 qi:Nat->aw->V->aw->Prop
 stop:Nat->aw->Prop
def j_ (X:bg) (ag:List (Addr × Obj)) (H:aw) (b:Addr):Prop:=
 H b=none/\b ≠ X.env.locals/\b ∉ X.aX/\(b ∈ X.ex\/X.f_.heap.objs.size <= b)/\(∀ x c,X.env.cells.lookup x=some c->c ≠ b)/\∀ p ∈ X.ez ++ ag,p.1 ≠ b
theorem Inv.p7 (J:Inv X ag σ H s) (ae:s.heap.objs.size <= b) (aQ:I b=none):j_ X ag I b:=by
 refine ⟨aQ,J_ (hU J.lt ae),J.FT ae,.inr (cP J.oe ae),fun x c e z=>?_,fun p ar z=>?_⟩
 .obtain ⟨v,q⟩:=J.cell x c e;exact absurd (hU q.lt (by rw [z];exact ae)) (mu _)
 .exact absurd (hU (eV (J.pin p ar).1) (by rw [z];exact ae)) (mu _)
structure qy (P:Program) (w:World) (K:bk) (dn:Expr) (b6:ke) (bS:List Addr) (it:Addr) (iO:Nat->Heap->Prop):Prop where
 mem:it ∈ bS
 obj:∀ i h,iO i h->∀ b ∈ bS,∃ o,h.get? b=some o/\∀ v,o.data ≠ .cell v
 keep:∀ i h h',iO i h->(∀ b ∈ bS,∀ o,h.get? b=some o->h'.get? b=some o)->iO i h'
 item:∀ (X:bg),X.prog=P->X.w=w->X.K=K->X.calm=true->∀ (i:Nat) (ag:List (Addr × Obj)) (s:Shared) (σ:St) (H:aw) (E:Value->Shared->Prop),Inv X ag σ H s->(∀ b ∈ bS,j_ X ag H b)->iO i s.heap->b6.go i H ->
  wpAny (model P w) X.A (pyNext (.ref it)) (fun r s1=>∃ u,r=some u /\
   wpAny (model P w) X.A (letOwnedTupleGo dn (.ref it) u) (fun _ s2=>∃ x I,Inv X ag σ I s2/\bM x u/\b6.qi i H x I/\iO (i + 1) s2.heap/\∀ b ∈ bS,I b=none) E s1) E s
 done:∀ (X:bg),X.prog=P->X.w=w->X.K=K->X.calm=true->∀ (i:Nat) (ag:List (Addr × Obj)) (s:Shared) (σ:St) (H:aw) (E:Value->Shared->Prop),Inv X ag σ H s->(∀ b ∈ bS,j_ X ag H b)->iO i s.heap->b6.stop i H ->
  wpAny (model P w) X.A (pyNext (.ref it)) (fun r s1=>r=none/\Inv X ag σ H s1) E s
 self:∀ (A:Around) (i:Nat) (s:Shared) (Q:Value->Shared->Prop) (E:Value->Shared->Prop),iO i s.heap->Q (.ref it) s->wpAny (model P w) A (pyIter (.ref it)) Q E s
noncomputable abbrev TI:=St->aw->(ke->aw->Prop)->Prop
def Ov (X:bg) (ag:List (Addr × Obj)) (σ:St) (dn:Expr) (R:ke->aw->Prop) (zz:Value) (s2:Shared):Prop:=
 ∃ (it:Addr) (bS:List Addr) (iO:Nat->Heap->Prop) (b6:ke) (I:aw),zz=.ref it/\Inv X ag σ I s2/\qy X.prog X.w X.K dn b6 bS it iO/\iO 0 s2.heap/\(∀ b ∈ bS,j_ X ag I b)/\R b6 I
def pV (X:bg) (dn iter:Expr) (wi:TI):Prop:=
 ∀ (ag:List (Addr × Obj)) (s:Shared) (σ:St) (H:aw) (R:ke->aw->Prop),Inv X ag σ H s->wi σ H R ->
  wpAny (model X.prog X.w) X.A (eval iter X.env) (fun v s1=>wpAny (model X.prog X.w) X.A (pyIter v) (Ov X ag σ dn R) X.d4 s1) X.d4 s
theorem vZ {A:Around} {it:Addr} (aT:s.heap.get? it=some o) (aA:o.cls=.type n) (hd:o.data=.fields vs)
    (aQ:["enumerate","zip","dict_itemiterator","dict_reverseitemiterator","odict_iterator","itertools.zip_longest","itertools.pairwise"].contains n=false) (a0:Q () s):wpAny M A (letOwnedTupleGo dn (.ref it) u) Q E s:=by
  unfold letOwnedTupleGo;cases dn <;> first
    | exact wpAny_pure a0
    | (cases u <;> first
        | exact wpAny_pure a0
        | (refine wpAny_bind (wpAny_load aT ?_)
           rw [aA,hd];show wpAny M A (if (["enumerate","zip","dict_itemiterator","dict_reverseitemiterator","odict_iterator","itertools.zip_longest","itertools.pairwise"].contains n && vs[0]? == some (rawInt _))=true then _ else _) Q E s;rw [if_neg (by intro h;rw [aQ,m'] at h;cases h)];exact wpAny_pure a0))
noncomputable def nQ (K:bk) (a:Addr):ke:=
 ⟨fun i H=>∃ xs x,av K H a xs/\xs[i]? = some x,fun i H x I=>I=H/\∀ xs,av K H a xs->xs[i]? = some x,fun i H=>∃ xs,av K H a xs/\xs.length <= i⟩
noncomputable def Cy (K:bk) (a:Addr):ke:=
 ⟨fun i H=>∃ xs x,cJ K H a xs/\xs[i]? = some x,fun i H x I=>I=H/\∀ xs,cJ K H a xs->xs[i]? = some x,fun i H=>∃ xs,cJ K H a xs/\xs.length <= i⟩
noncomputable def ni (lo:Int) (n:Nat):ke:=⟨fun i _=>i < n,fun i H x I=>I=H/\x=.int (lo + i),fun i _=>n <= i⟩
theorem agq {w:World} {K:bk} (a it:Addr):qy P w K dn (nQ K a) [it] it (fun i h=>h.IsListIter it a i) where
 mem:=by simp
 obj:=fun i h st b ae=>by
  have e:b=it:=by simpa using ae
  subst e;obtain ⟨o,e,c,d⟩:=st;exact ⟨o,e,fun v z=>by rw [d] at z;cases z⟩
 keep:=fun i h h' st k=>st.at fun o e=>k it (by simp) o e
 item:=by
  intro X cO hw gH aA i ag s σ H E J hf st bp;subst cO hw gH;obtain ⟨xs,x,aU,aj⟩:=bp;obtain ⟨aV,cV,p,aO⟩:=J.list aU;obtain ⟨u,bC,fB⟩:=cV.get aj;obtain ⟨f0,f1,f2,eo,f4,fg⟩:=hf it (by simp);refine wpAny_pyNext_list_item st p.isList (x:=u) (by simpa using bC) fun h' l8 pa=>?_
  have a_:Inv X ag σ H { s with heap:=h' }:=J.turned (t':=s.toks) (fun b o ae e=>(pa.2 b ae).trans e) f0 f1 eo f4 fg;obtain ⟨o,e,c,d⟩:=id l8;exact ⟨u,rfl,vZ (s:={ s with heap:=h' }) e c d (by decide) ⟨x,H,a_,fB,⟨rfl,fun ys a9=>by rw [J.yB a9 aU];exact aj⟩,l8,fun b ae=>(hf b ae).1⟩⟩
 done:=by
  intro X cO hw gH aA i ag s σ H E J hf st bp;subst cO hw gH;obtain ⟨xs,aU,aj⟩:=bp;obtain ⟨aV,cV,p,aO⟩:=J.list aU;obtain ⟨f0,f1,f2,eo,f4,fg⟩:=hf it (by simp);have aM:=cV.length;exact wpAny_pyNext_list_end (J.ok.hd aA) st p.isList (by simp;omega) fun h' fh=>⟨rfl,J.turned (t':=s.toks) (fun b o ae e=>fh b o ae e) f0 f1 eo f4 fg⟩
 self:=fun _ _ _ _ _ st h=>wpAny_pyIter_listiter st h
theorem W0 {w:World} {K:bk} (a it:Addr):qy P w K dn (Cy K a) [it] it (fun i h=>h.IsTupleIter it a i) where
 mem:=by simp
 obj:=fun i h st b ae=>by
  have e:b=it:=by simpa using ae
  subst e;obtain ⟨o,e,c,d⟩:=st;exact ⟨o,e,fun v z=>by rw [d] at z;cases z⟩
 keep:=fun i h h' st k=>st.at fun o e=>k it (by simp) o e
 item:=by
  intro X cO hw gH aA i ag s σ H E J hf st bp;subst cO hw gH;obtain ⟨xs,x,aU,aj⟩:=bp;obtain ⟨aV,cV,p,aO⟩:=J.tuple aU;obtain ⟨u,bC,fB⟩:=cV.get aj;obtain ⟨f0,f1,f2,eo,f4,fg⟩:=hf it (by simp);refine wpAny_pyNext_tuple_item st (show s.heap.IsTuple a aV.toArray from p) (x:=u) (by simpa using bC) fun h' l8 pa=>?_
  have a_:Inv X ag σ H { s with heap:=h' }:=J.turned (t':=s.toks) (fun b o ae e=>(pa.2 b ae).trans e) f0 f1 eo f4 fg;obtain ⟨o,e,c,d⟩:=id l8;exact ⟨u,rfl,vZ (s:={ s with heap:=h' }) e c d (by decide) ⟨x,H,a_,fB,⟨rfl,fun ys a9=>by rw [J.Ot a9 aU];exact aj⟩,l8,fun b ae=>(hf b ae).1⟩⟩
 done:=by
  intro X cO hw gH aA i ag s σ H E J hf st bp;subst cO hw gH;obtain ⟨xs,aU,aj⟩:=bp;obtain ⟨aV,cV,p,aO⟩:=J.tuple aU;obtain ⟨f0,f1,f2,eo,f4,fg⟩:=hf it (by simp);have aM:=cV.length;exact wpAny_pyNext_tuple_end (J.ok.hd aA) st (show s.heap.IsTuple a aV.toArray from p) (by simp;omega) fun h' fh=>⟨rfl,J.turned (t':=s.toks) (fun b o ae e=>fh b o ae e) f0 f1 eo f4 fg⟩
 self:=fun _ _ _ _ _ st h=>wpAny_pyIter_tupleiter st h
theorem ac7 {w:World} {K:bk} (it:Addr) (lo:Int) (n:Nat):qy P w K dn (ni lo n) [it] it (fun i h=>IsRangeIter h it (lo + (i:Nat) * 1) ((n:Int) - (i:Nat)) 1) where
 mem:=by simp
 obj:=fun i h st b ae=>by
  have e:b=it:=by simpa using ae
  subst e;exact ⟨_,st,fun v z=>by
   have i4:adO _=Data.cell v:=z;cases i4⟩
 keep:=fun i h h' st k=>k it (by simp) _ st
 item:=by
  intro X cO hw gH aA i ag s σ H E J hf st bp;subst cO hw gH;obtain ⟨f0,f1,f2,eo,f4,fg⟩:=hf it (by simp);have W:=Walks.range (prog:=X.prog) (w:=X.w) (J.ok.hd aA) it lo 1 n;refine W.item i s _ _ bp st fun v h' tk aI l8 ki=>?_
  obtain ⟨t,rfl⟩:=aI;have a_:Inv X ag σ H { s with heap:=h',toks:=tk }:=J.turned (fun b o ae e=>ki b o (by simpa using ae) e) f0 f1 eo f4 fg;refine ⟨_,rfl,vZ (s:={ s with heap:=h',toks:=tk }) (n := "range_iterator") l8 rfl rfl (by decide) ⟨.int (lo + i),H,a_,⟨t,?_⟩,⟨rfl,rfl⟩,l8,fun b ae=>(hf b ae).1⟩⟩;rw [Int.mul_one]
 done:=by
  intro X cO hw gH aA i ag s σ H E J hf st bp;subst cO hw gH;obtain ⟨f0,f1,f2,eo,f4,fg⟩:=hf it (by simp);exact wpAny_pyNext_range_end (J.ok.hd aA) st (by have:n <= i:=bp;omega) fun h' fh=>⟨rfl,J.turned (t':=s.toks) (fun b o ae e=>fh b o ae e) f0 f1 eo f4 fg⟩
 self:=fun _ _ _ _ _ st h=>wpAny_pyIter_rangeiter st h
section
variable {X:bg} {dn:Expr}
noncomputable def H' (K:bk) (c0:TE):TI:=fun σ H R=>c0 σ H fun x H1=>fp x fun a=>(∃ xs,av K H1 a xs)/\R (nQ K a) H1
noncomputable def Lb (K:bk) (c0:TE):TI:=fun σ H R=>c0 σ H fun x H1=>fp x fun a=>(∃ xs,cJ K H1 a xs)/\R (Cy K a) H1
theorem d6 (aM:bD X l c0):pV X dn l (H' X.K c0):=by
 intro ag s σ H R J h;refine bQ (aM ag s σ H _ J h) fun v s1 cj=>el cj fun x H1 a_ cQ bR=>?_
 obtain ⟨a,e,⟨xs,aU⟩,q⟩:=fp.out bR;subst e;cases cQ;obtain ⟨aV,cV,p,aO⟩:=a_.list aU;refine wpAny_pyIter_list p.isList ?_;refine ⟨s1.heap.objs.size,[s1.heap.objs.size],_,_,H1,rfl,a_.kept (t':=s1.toks) fun b o e=>e6 _ e,agq a _,⟨_,hs _ rfl,rfl,rfl⟩,fun b ae=>?_,q⟩;have e:b=s1.heap.objs.size:=by simpa using ae
 subst e;exact a_.p7 (b8 _) (a_.bl.fresh (b8 _))
theorem ajj (aM:bD X l c0):pV X dn l (Lb X.K c0):=by
 intro ag s σ H R J h;refine bQ (aM ag s σ H _ J h) fun v s1 cj=>el cj fun x H1 a_ cQ bR=>?_
 obtain ⟨a,e,⟨xs,aU⟩,q⟩:=fp.out bR;subst e;cases cQ;obtain ⟨aV,cV,p,aO⟩:=a_.tuple aU;refine wpAny_pyIter_tuple (show s1.heap.IsTuple a aV.toArray from p) ?_;refine ⟨s1.heap.objs.size,[s1.heap.objs.size],_,_,H1,rfl,a_.kept (t':=s1.toks) fun b o e=>e6 _ e,W0 a _,⟨_,hs _ rfl,rfl,rfl⟩,fun b ae=>?_,q⟩;have e:b=s1.heap.objs.size:=by simpa using ae
 subst e;exact a_.p7 (b8 _) (a_.bl.fresh (b8 _))
theorem abC {ag:List (Addr × Obj)} {σ:St} {H:aw} {s:Shared} {R:ke->aw->Prop} {E:Value->Shared->Prop} {lo ah:Int} {t u v:Tok} {tk:Nat} (J:Inv X ag σ H s) (af:-(2 ^ 62) <= lo) (ao:lo < 2 ^ 62) (bj:-(2 ^ 62) <= ah) (cS:ah < 2 ^ 62)
  (q:R (ni lo (ah - lo).toNat) H):wpAny (model X.prog X.w) X.A (pyIter (.ref s.heap.objs.size)) (Ov X ag σ dn R) E { s with heap:=s.heap.push { cls:=.type "range",data:=.fields #[.int lo t,.int ah u,.int 1 v] },toks:=tk }:=by
 refine wpAny_pyIter_range (IsRange.new ..) (small_one af ao bj cS) ?_;have a_:Inv X ag σ H { s with heap:=s.heap.push { cls:=.type "range",data:=.fields #[.int lo t,.int ah u,.int 1 v] },toks:=tk }:=J.kept fun b o e=>e6 _ e
 refine ⟨(s.heap.push { cls:=.type "range",data:=.fields #[.int lo t,.int ah u,.int 1 v] }).objs.size,[(s.heap.push { cls:=.type "range",data:=.fields #[.int lo t,.int ah u,.int 1 v] }).objs.size],_,_,H,rfl,
  a_.kept (t':=tk) fun b o e=>e6 _ e,ac7 _ lo (ah - lo).toNat,?_,fun b ae=>?_,q⟩
 .have ax:lo + ((0:Nat):Int) * 1=lo:=by simp
  have aK:(((ah - lo).toNat:Nat):Int) - ((0:Nat):Int)=Tf lo ah 1:=by rw [rangeSize_one];split <;> omega
  show IsRangeIter _ _ (lo + ((0:Nat):Int) * 1) ((((ah - lo).toNat:Nat):Int) - ((0:Nat):Int)) 1;rw [ax,aK];exact hs _ rfl
 .have e:b=(s.heap.push { cls:=.type "range",data:=.fields #[.int lo t,.int ah u,.int 1 v] }).objs.size:=by simpa using ae
  subst e;exact a_.p7 (b8 _) (a_.bl.fresh (b8 _))
noncomputable def M' (bo:gw):TI:=fun σ H R=>bo σ H fun vs H1=>ny vs fun x=>gV x fun j=>-(2 ^ 62) <= j/\j < 2 ^ 62/\R (ni 0 j.toNat) H1
theorem lL {a:Expr} {bo:gw} {p pos:Pos} (bp:mO X "range") (hm:X.mg "range"=none) (aR:kJ X [a] bo) (aC:starEach [a] X.env=[(false,eval a X.env)]:=by rfl):pV X dn (.Call (.Name "range" p) [a] [] pos) (M' bo):=by
 intro ag s σ H R J h;refine Call_ (vu J bp hm boot_range (Nj (bQ (aR pos ag s σ H _ J h) fun us s1 c2=>?_) aC rfl));obtain ⟨vs,H1,a_,cQ,bR⟩:=c2;obtain ⟨adP,ads,g8⟩:=ny.out bR;obtain ⟨j,KA,alw,dS,q⟩:=gV.out g8;have e:=ads.trans (congrArg (fun z=>[z]) KA);subst e;cases cQ with
 | cons r kW=>
  cases kW;obtain ⟨t,rfl⟩:=r;exact call_range_1 (abC a_ (by omega) (by omega) alw dS (by simpa using q))
noncomputable def PX (wi:TI) (g:gJ) (b1:eH):eH:=fun D σ H=>wi σ H fun b6 H1=>∃ W:Nat->Nat->St->aw->Prop,(∃ m,W 0 m σ H1)/\∀ i m σ H,W i m σ H ->
 (b6.stop i H/\D.cG σ H)\/(b6.go i H/\∃ N:St->aw->Prop,(∀ az I,N az I->∃ dB,dB < m/\W (i + 1) dB az I)/\∀ x I,b6.qi i H x I->g x σ I fun cb aB=>b1 { D with cG:=N,fl:=N,cM:=D.cG } cb aB)
noncomputable def wZ (bS:List Addr) (h:Heap):List (Addr × Obj):=bS.filterMap fun b=>(h.get? b).map fun o=>(b,o)
theorem C0 {h:Heap} (ae:b ∈ bS) (e:h.get? b=some o):(b,o) ∈ wZ bS h:=XM.mpr ⟨b,ae,by rw [e];rfl⟩
theorem amA {h:Heap} {p:Addr × Obj} (ar:p ∈ wZ bS h):p.1 ∈ bS/\h.get? p.1=some p.2:=by
 obtain ⟨b,ae,e⟩:=XM.mp ar;cases q:h.get? b with
 | none=>rw [q] at e;cases e
 | some o=>
  rw [q] at e;have bF:(b,o)=p:=ei e;subst bF;exact ⟨ae,q⟩
theorem Inv.pinned (J:Inv X ag σ H s) (hf:∀ b ∈ bS,j_ X ag H b) (aT:∀ b ∈ bS,∃ o,s.heap.get? b=some o/\∀ v,o.data ≠ .cell v):Inv X (ag ++ wZ bS s.heap) σ H s:=
 J.sY fun p ar=>(gE.mp ar).elim (fun z=>J.pin p (jh _ z)) fun z=>by
  obtain ⟨ae,e⟩:=amA z;obtain ⟨f0,f1,f2,_⟩:=hf p.1 ae;obtain ⟨o,bF,d⟩:=aT p.1 ae;rw [e] at bF;cases bF;exact ⟨e,f0,f1,f2,d⟩
theorem Inv.zb (J:Inv X (ag ++ pl) σ H s):Inv X ag σ H s:=J.sY fun p ar=>J.pin p (jh _ (p1 _ ar))
theorem ft (ar:PassesOwn (model X.prog X.w) X.A X.env X.d4) (aA:X.calm=true) (ah:pV X dn iter wi) (bp:m8 X dn g) (ae:lG X body b1)
  (aC:∀ x,foldedSetIterable iter X.env x=pure x:=by intro _;rfl):ia X (.For dn iter body [] pos) (PX wi g b1):=by
 intro ag s σ H D J h;refine wpAny_For (bQ (ah ag s σ H _ J h) fun v s1 af=>bQ af fun zz s2 ao=>?_) aC;obtain ⟨it,bS,iO,b6,aB,e,b3,T,qB,f2,W,⟨m0,nJ⟩,turn⟩:=ao;subst e;have stat:∀ {I:aw},(∀ b ∈ bS,I b=none)->∀ b ∈ bS,j_ X ag I b:=fun aQ b ae=>⟨aQ b ae,(f2 b ae).2⟩
 refine codeAny_forLoop_any (fun n ai=>∃ i az I,Inv X ag az I ai/\iO i ai.heap/\(∀ b ∈ bS,I b=none)/\W i n az I) ?_ m0 ⟨0,σ,aB,b3,qB,fun b ae=>(f2 b ae).1,nJ⟩;rintro n s3 ⟨i,fS,bw,fe,OO,T2,fQ⟩;rcases turn i n fS bw fQ with ⟨stop,FK⟩ | ⟨go,N,bb,step⟩
 .refine wpAny_passesOwn ar (bQ (T.done X rfl rfl rfl aA i ag s3 fS bw X.d4 fe (stat T2) OO stop) fun r s4 c2=>?_);obtain ⟨aq,iE⟩:=c2;subst aq;exact wpAny_execs_nil ⟨fS,bw,iE,FK⟩
 .refine wpAny_passesOwn ar (bQ (T.item X rfl rfl rfl aA i ag s3 fS bw X.d4 fe (stat T2) OO go) fun r s4 c2=>?_);obtain ⟨u,aq,cS⟩:=c2;subst aq;refine wpAny_passesOwn ar (bQ cS fun _ s5 c2=>?_);obtain ⟨x,dj,x8,Kx,GW,ta,IT⟩:=c2;have GB:=x8.pinned (stat IT) (T.obj _ _ ta);refine wpAny_passesOwn ar (bQ (bp _ s5 fS dj x u _ GB Kx (step x dj GW)) fun _ l6 c2=>?_);obtain ⟨mm,hc,Jj,JX⟩:=c2;refine wpAny_passesOwn ar (bQ (ae _ l6 mm hc _ Jj JX) fun f l9 nL=>?_);have again:∀ {kc:St} {f3:aw},Inv X (ag ++ wZ bS s5.heap) kc f3 l9->N kc f3->∃ m,m < n/\∃ i az I,Inv X ag az I l9/\iO i l9.heap/\(∀ b ∈ bS,I b=none)/\W i m az I:=fun {kc f3} lh kK=>by
   obtain ⟨dB,hm,nV⟩:=bb kc f3 kK;refine ⟨dB,hm,i + 1,kc,f3,lh.zb,T.keep _ _ _ ta fun b ae o e=>(lh.pin (b,o) (jh _ (jh _ (C0 ae e)))).1,fun b ae=>?_,nV⟩;obtain ⟨o,e,d⟩:=T.obj _ _ ta b ae;exact (lh.pin (b,o) (jh _ (jh _ (C0 ae e)))).2.1
  cases f with
  | next=>obtain ⟨kc,f3,lh,kK⟩:=nL;exact again lh kK
  | cont=>obtain ⟨kc,f3,lh,kK⟩:=nL;exact again lh kK
  | brk=>obtain ⟨kc,f3,lh,nL⟩:=nL;exact ⟨kc,f3,lh.zb,nL⟩
  | ret v=>obtain ⟨dt,kc,f3,lh,zi,nL⟩:=nL;exact ⟨dt,kc,f3,lh.zb,zi,nL⟩
end
theorem agY {K:bk} {a:Addr} {xs:List V} {g:gJ} {b1:eH} {D:hF} {σ:St} {H:aw} (Pv:Nat->St->aw->Prop) (h0:Pv 0 σ H) (aM:∀ i σ H,i <= xs.length->Pv i σ H->av K H a xs)
  (aC:∀ i x σ H,xs[i]? = some x->Pv i σ H->g x σ H fun cb aB=>b1 { D with cG:=Pv (i + 1),fl:=Pv (i + 1),cM:=D.cG } cb aB) (hd:∀ σ H,Pv xs.length σ H->D.cG σ H) :
  ∃ W:Nat->Nat->St->aw->Prop,(∃ m,W 0 m σ H)/\∀ i m σ H,W i m σ H ->
   ((nQ K a).stop i H/\D.cG σ H)\/((nQ K a).go i H/\∃ N:St->aw->Prop,(∀ az I,N az I->∃ dB,dB < m/\W (i + 1) dB az I)/\∀ x I,(nQ K a).qi i H x I->g x σ I fun cb aB=>b1 { D with cG:=N,fl:=N,cM:=D.cG } cb aB):=by
 refine ⟨fun i m σ H=>m=xs.length - i/\i <= xs.length/\Pv i σ H,⟨xs.length,by simp,gv _,h0⟩,?_⟩;rintro i m σ H ⟨rfl,ah,p⟩;have q:=aM i σ H ah p;by_cases dV:i < xs.length
 .refine .inr ⟨⟨xs,xs[i],q,by simp [dV]⟩,Pv (i + 1),fun az I eD=>⟨xs.length - (i + 1),by omega,rfl,dV,eD⟩,fun x I y=>?_⟩;obtain ⟨e,y⟩:=y;subst e;exact aC i x σ _ (y xs q) p
 .have e:i=xs.length:=by omega
  subst e;exact .inl ⟨⟨xs,q,b8 _⟩,hd σ H p⟩
theorem ab0 {lo:Int} {n:Nat} {g:gJ} {b1:eH} {D:hF} {σ:St} {H:aw} (Pv:Nat->St->aw->Prop) (h0:Pv 0 σ H)
  (aC:∀ i σ H,i < n->Pv i σ H->g (.int (lo + i)) σ H fun cb aB=>b1 { D with cG:=Pv (i + 1),fl:=Pv (i + 1),cM:=D.cG } cb aB) (hd:∀ σ H,Pv n σ H->D.cG σ H) :
  ∃ W:Nat->Nat->St->aw->Prop,(∃ m,W 0 m σ H)/\∀ i m σ H,W i m σ H ->
   ((ni lo n).stop i H/\D.cG σ H)\/((ni lo n).go i H/\∃ N:St->aw->Prop,(∀ az I,N az I->∃ dB,dB < m/\W (i + 1) dB az I)/\∀ x I,(ni lo n).qi i H x I->g x σ I fun cb aB=>b1 { D with cG:=N,fl:=N,cM:=D.cG } cb aB):=by
 refine ⟨fun i m σ H=>m=n - i/\i <= n/\Pv i σ H,⟨n,by simp,gv _,h0⟩,?_⟩;rintro i m σ H ⟨rfl,ah,p⟩;by_cases dV:i < n
 .refine .inr ⟨dV,Pv (i + 1),fun az I eD=>⟨n - (i + 1),by omega,rfl,dV,eD⟩,fun x I y=>?_⟩;obtain ⟨e,y⟩:=y;subst e y;exact aC i σ _ dV p
 .have e:i=n:=by omega
  subst e;exact .inl ⟨b8 _,hd σ H p⟩
noncomputable abbrev fb:=V->V->aw->cX->Prop
def hn (X:bg) (f:Value->Value->Sem Value) (r:fb):Prop:=
 ∀ (ag:List (Addr × Obj)) (s:Shared) (σ:St) (H:aw) (x y:V) (v u:Value) (Q:cX),Inv X ag σ H s->bM x v->bM y u->r x y H Q ->
  wpAny (model X.prog X.w) X.A (f v u) (g0 X ag σ Q) X.d4 s
def Jg (X:bg) (f:Value->Sem Value) (r:V->aw->cX->Prop):Prop:=
 ∀ (ag:List (Addr × Obj)) (s:Shared) (σ:St) (H:aw) (x:V) (v:Value) (Q:cX),Inv X ag σ H s->bM x v->r x H Q ->
  wpAny (model X.prog X.w) X.A (f v) (g0 X ag σ Q) X.d4 s
def jw (X:bg) (f:Value) (r:List V->aw->cX->Prop):Prop:=
 ∀ (ag:List (Addr × Obj)) (s:Shared) (σ:St) (H:aw) (xs:List V) (us:List Value) (Q:cX),Inv X ag σ H s->b0 xs us->r xs H Q ->
  wpAny (model X.prog X.w) X.A (call f us) (g0 X ag σ Q) X.d4 s
def aiS (X:bg) (r:V->aw->(Bool->aw->Prop)->Prop):Prop:=
 ∀ (ag:List (Addr × Obj)) (s:Shared) (σ:St) (H:aw) (x:V) (v:Value) (Q:Bool->aw->Prop),Inv X ag σ H s->bM x v->r x H Q ->
  wpAny (model X.prog X.w) X.A (truthy v) (yO X ag σ Q) X.d4 s
noncomputable def rX (r:fb) (bo b1:TE):TE:=fun σ H Q=>bo σ H fun x H1=>b1 σ H1 fun y aB=>r x y aB Q
noncomputable def IC (r:V->aw->cX->Prop) (bo:TE):TE:=fun σ H Q=>bo σ H fun x H1=>r x H1 Q
noncomputable def xW (C:Int->Int->Prop) (g:Int->Int->V):fb:=fun x y H Q=>gV x fun i=>gV y fun j=>C i j/\Q (g i j) H
noncomputable def oG (g:Int->Int->V):fb:=fun x y H Q=>gV x fun i=>gV y fun j=>Q (g i j) H
noncomputable def Dh (g:Int->V):V->aw->cX->Prop:=fun x H Q=>gV x fun i=>Q (g i) H
section
variable {X:bg} {a b c:Expr} {bo b1 c6:TE} {pos:Pos}
theorem El (aR:bD X a bo) (ae:bD X b b1) {ag:List (Addr × Obj)} {s:Shared} {σ:St} {H:aw} {R:V->V->aw->Prop} (J:Inv X ag σ H s)
  (h:bo σ H fun x H1=>b1 σ H1 fun y aB=>R x y aB) {Q:Value->Shared->Prop} {f:Value->Value->Sem Value}
  (hf:∀ v u s2 x y aB,Inv X ag σ aB s2->bM x v->bM y u->R x y aB->wpAny (model X.prog X.w) X.A (f v u) Q X.d4 s2) :
  wpAny (model X.prog X.w) X.A (eval a X.env) (fun v dq=>wpAny (model X.prog X.w) X.A (eval b X.env) (fun u ec=>wpAny (model X.prog X.w) X.A (f v u) Q X.d4 ec) X.d4 dq) X.d4 s:=by
 refine bQ (aR ag s σ H _ J h) fun v s1 cj=>el cj fun x H1 a_ cQ bR=>?_
 refine bQ (ae ag s1 σ H1 _ a_ bR) fun u s2 cj=>el cj fun y aB b3 gz dS=>?_
 exact hf v u s2 x y aB b3 cQ gz dS
theorem bI {op:Operator} {r:fb} (aT:hn X (binaryOp op) r) (aR:bD X a bo) (ae:bD X b b1):bD X (.BinOp a op b pos) (rX r bo b1):=by
 intro ag s σ H Q J h;exact wpAny_BinOp (El aR ae J h fun v u s2 x y aB b3 a8 bx q=>aT ag s2 σ aB x y v u Q b3 a8 bx q)
theorem B2 (aT:Jg X (unaryOp op) r) (aR:bD X a bo):bD X (.UnaryOp op a pos) (IC r bo):=by
 intro ag s σ H Q J h;exact UnaryOp_ (bQ (aR ag s σ H _ J h) fun v s1 cj=>el cj fun x H1 a_ cQ bR=>aT ag s1 σ H1 x v Q a_ cQ bR)
theorem V9 {f:Value->Value->Sem Value} {C:Int->Int->Prop} {g:Int->Int->Int}
  (rule:∀ (i j:Int) (t u:Tok) (s:Shared) (Q:Value->Shared->Prop) (E:Value->Shared->Prop),C i j->Q (.int (g i j) s.toks) { s with toks:=s.toks + 1 }->wpAny (model X.prog X.w) X.A (f (.int i t) (.int j u)) Q E s) :
  hn X f (xW C fun i j=>.int (g i j)):=by
 intro ag s σ H x y v u Q J a8 bx h;obtain ⟨i,rfl,iG⟩:=gV.out h;obtain ⟨j,rfl,aA,q⟩:=gV.out iG;obtain ⟨t,rfl⟩:=a8;obtain ⟨t',rfl⟩:=bx;exact rule i j t t' s _ _ aA ⟨.int (g i j),H,J.tok _,⟨_,rfl⟩,q⟩
theorem PA {f:Value->Value->Sem Value} {g:Int->Int->Int}
  (rule:∀ (i j:Int) (t u:Tok) (s:Shared) (Q:Value->Shared->Prop) (E:Value->Shared->Prop),Q (.int (g i j) s.toks) { s with toks:=s.toks + 1 }->wpAny (model X.prog X.w) X.A (f (.int i t) (.int j u)) Q E s) :
  hn X f (oG fun i j=>.int (g i j)):=by
 intro ag s σ H x y v u Q J a8 bx h;obtain ⟨i,rfl,iG⟩:=gV.out h;obtain ⟨j,rfl,q⟩:=gV.out iG;obtain ⟨t,rfl⟩:=a8;obtain ⟨t',rfl⟩:=bx;exact rule i j t t' s _ _ ⟨.int (g i j),H,J.tok _,⟨_,rfl⟩,q⟩
theorem Dk {f:Value->Value->Sem Value} {g:Int->Int->Bool}
  (rule:∀ (i j:Int) (t u:Tok) (s:Shared) (Q:Value->Shared->Prop) (E:Value->Shared->Prop),Q (.bool (g i j)) s->wpAny (model X.prog X.w) X.A (f (.int i t) (.int j u)) Q E s) :
  hn X f (oG fun i j=>.br (g i j)):=by
 intro ag s σ H x y v u Q J a8 bx h;obtain ⟨i,rfl,iG⟩:=gV.out h;obtain ⟨j,rfl,q⟩:=gV.out iG;obtain ⟨t,rfl⟩:=a8;obtain ⟨t',rfl⟩:=bx;exact rule i j t t' s _ _ ⟨.br (g i j),H,J,rfl,q⟩
def oa (i j:Int):Prop:=(-(2 ^ 64) < i/\i < 2 ^ 64)\/(-(2 ^ 64) < j/\j < 2 ^ 64)
theorem oa.ok (h:oa i j):IntMulOk i j:=by
 rcases h with ⟨af,ao⟩ | ⟨af,ao⟩
 .exact .of_left (intBits_le_64 af ao)
 .exact .of_right (intBits_le_64 af ao)
theorem d2:hn X (binaryOp .Add) (oG fun i j=>.int (i + j)):=PA fun _ _ _ _ _ _ _ q=>add_int q
theorem lS:hn X (binaryOp .Sub) (oG fun i j=>.int (i - j)):=PA fun _ _ _ _ _ _ _ q=>sub_int q
theorem jZ:hn X (binaryOp .Mult) (xW oa fun i j=>.int (i * j)):=V9 fun _ _ _ _ _ _ _ aA q=>mul_int q aA.ok
theorem jS:hn X (binaryOp .Mod) (xW (fun _ j=>0 < j) fun i j=>.int (i % j)):=V9 fun i j _ _ _ _ _ aA q=>by
 have af:(0:Int) < j:=aA;exact mod_int' (by omega) (by rw [Int.fmod_eq_emod_of_nonneg i (by omega)];exact q)
theorem Xu {f:Value->Sem Value} {g:Int->Int}
  (rule:∀ (i:Int) (t:Tok) (s:Shared) (Q:Value->Shared->Prop) (E:Value->Shared->Prop),Q (.int (g i) s.toks) { s with toks:=s.toks + 1 }->wpAny (model X.prog X.w) X.A (f (.int i t)) Q E s) :
  Jg X f (Dh fun i=>.int (g i)):=by
 intro ag s σ H x v Q J a8 h;obtain ⟨i,rfl,q⟩:=gV.out h;obtain ⟨t,rfl⟩:=a8;exact rule i t s _ _ ⟨.int (g i),H,J.tok _,⟨_,rfl⟩,q⟩
theorem B0:Jg X (unaryOp .USub) (Dh fun i=>.int (-i)):=Xu fun _ _ _ _ _ q=>neg_int q
end
noncomputable def J':V->V->Bool
 | .b4,.b4=>true | .b4,.int _=>true | .int _,.b4=>true | .b4,.br _=>true | .br _,.b4=>true | .b4,.str _=>true | .str _,.b4=>true
 | .int _,.int _=>true | .br _,.br _=>true | .str _,.str _=>true | .l4 _,.l4 _=>true
 | .int _,.str _=>true | .str _,.int _=>true | .br _,.str _=>true | .str _,.br _=>true
 | _,_=>false
noncomputable def Kg:fb:=fun x y H Q=>J' x y=true/\Q (.br (decide (x=y))) H
noncomputable def Hq:fb:=fun x y H Q=>J' x y=true/\Q (.br (!decide (x=y))) H
theorem Q1:decide (V.int i=V.int j)=(i == j):=by
 rw [ig];simp
theorem S2:decide (V.br i=V.br j)=(i == j):=by
 rw [ig];simp
theorem Nk:decide (V.str i=V.str j)=(i == j):=by
 rw [ig];simp
theorem O8:decide (V.l4 i=V.l4 j)=(i.toList == j.toList):=by
 rw [ig];cases i;cases j;simp
section
variable {X:bg} {a b c:Expr} {bo b1 c6:TE} {pos:Pos}
theorem fL {k n0:Bool} (J:Inv X ag σ H s) (q:Q (.br k) H) (e:k=n0):g0 X ag σ Q (.bool n0) s:=by
 subst e;exact ⟨.br k,H,J,rfl,q⟩
theorem eE:hn X (compareOp .Eq) Kg:=by
 intro ag s σ H x y v u Q J a8 bx h;obtain ⟨aC,q⟩:=h;cases x with
 | b4=>
  cases a8;cases y with
  | b4=>cases bx;exact anH (fL J q (by simp))
  | br j=>cases bx;exact aoY (fL J q (by simp))
  | int j=>obtain ⟨t',rfl⟩:=bx;exact apb (fL J q (by simp))
  | str j=>obtain ⟨t',rfl⟩:=bx;exact anp (fL J q (by simp))
  | _=>exact absurd (show false=true from aC) eQ
 | br i=>
  cases a8;cases y with
  | b4=>cases bx;exact ao0 (fL J q (by simp))
  | br j=>cases bx;exact eq_bool (fL J q S2)
  | str j=>obtain ⟨t',rfl⟩:=bx;exact aoH (fL J q (by simp))
  | _=>exact absurd (show false=true from aC) eQ
 | int i=>
  obtain ⟨t,rfl⟩:=a8;cases y with
  | b4=>cases bx;exact aoZ (fL J q (by simp))
  | int j=>obtain ⟨t',rfl⟩:=bx;exact eq_int (fL J q Q1)
  | str j=>obtain ⟨t',rfl⟩:=bx;exact anj (fL J q (by simp))
  | _=>exact absurd (show false=true from aC) eQ
 | str i=>
  obtain ⟨t,rfl⟩:=a8;cases y with
  | b4=>cases bx;exact aou (fL J q (by simp))
  | br j=>cases bx;exact aoU (fL J q (by simp))
  | int j=>obtain ⟨t',rfl⟩:=bx;exact anL (fL J q (by simp))
  | str j=>obtain ⟨t',rfl⟩:=bx;exact eq_str (fL J q Nk)
  | _=>exact absurd (show false=true from aC) eQ
 | l4 i=>
  obtain ⟨t,rfl⟩:=a8;cases y with
  | l4 j=>obtain ⟨t',rfl⟩:=bx;exact PySem.W.eq_bytes (fL J q O8)
  | _=>exact absurd (show false=true from aC) eQ
 | _=>cases y <;> exact absurd (show false=true from aC) eQ
theorem pP:hn X (compareOp .NotEq) Hq:=by
 intro ag s σ H x y v u Q J a8 bx h;obtain ⟨aC,q⟩:=h;cases x with
 | b4=>
  cases a8;cases y with
  | b4=>cases bx;exact anA (fL J q (by simp))
  | br j=>cases bx;exact am5 (fL J q (by simp))
  | int j=>obtain ⟨t',rfl⟩:=bx;exact aoA (fL J q (by simp))
  | str j=>obtain ⟨t',rfl⟩:=bx;exact anE (fL J q (by simp))
  | _=>exact absurd (show false=true from aC) eQ
 | br i=>
  cases a8;cases y with
  | b4=>cases bx;exact aoe (fL J q (by simp))
  | br j=>cases bx;exact ne_bool (fL J q (congrArg not S2))
  | str j=>obtain ⟨t',rfl⟩:=bx;exact apz (fL J q (by simp))
  | _=>exact absurd (show false=true from aC) eQ
 | int i=>
  obtain ⟨t,rfl⟩:=a8;cases y with
  | b4=>cases bx;exact aoG (fL J q (by simp))
  | int j=>obtain ⟨t',rfl⟩:=bx;exact ne_int (fL J q (congrArg not Q1))
  | str j=>obtain ⟨t',rfl⟩:=bx;exact ao4 (fL J q (by simp))
  | _=>exact absurd (show false=true from aC) eQ
 | str i=>
  obtain ⟨t,rfl⟩:=a8;cases y with
  | b4=>cases bx;exact am4 (fL J q (by simp))
  | br j=>cases bx;exact apD (fL J q (by simp))
  | int j=>obtain ⟨t',rfl⟩:=bx;exact apf (fL J q (by simp))
  | str j=>obtain ⟨t',rfl⟩:=bx;exact ne_str (fL J q (congrArg not Nk))
  | _=>exact absurd (show false=true from aC) eQ
 | l4 i=>
  obtain ⟨t,rfl⟩:=a8;cases y with
  | l4 j=>obtain ⟨t',rfl⟩:=bx;exact PySem.W.ne_bytes (fL J q (congrArg not O8))
  | _=>exact absurd (show false=true from aC) eQ
 | _=>cases y <;> exact absurd (show false=true from aC) eQ
theorem lp:hn X (compareOp .Lt) (oG fun i j=>.br (decide (i < j))):=Dk fun _ _ _ _ _ _ _ q=>lt_int q
theorem RL:hn X (compareOp .LtE) (oG fun i j=>.br (decide (i <= j))):=Dk fun _ _ _ _ _ _ _ q=>le_int q
theorem oZ:hn X (compareOp .Gt) (oG fun i j=>.br (decide (j < i))):=Dk fun _ _ _ _ _ _ _ q=>gt_int q
theorem amL:hn X (compareOp .GtE) (oG fun i j=>.br (decide (j <= i))):=Dk fun _ _ _ _ _ _ _ q=>ge_int q
theorem afG:hn X (compareOp .In) (fun x y H Q=>∃ i j,x=.str i/\y=.str j/\Q (.br (!(sm j i 0 j.length 1).isEmpty)) H):=by
 intro ag s σ H x y v u Q J a8 bx h;obtain ⟨i,j,rfl,rfl,q⟩:=h;obtain ⟨t,rfl⟩:=a8;obtain ⟨t',rfl⟩:=bx;exact in_str (fL J q rfl)
theorem VA:hn X (compareOp .Is) (fun x y H Q=>y=.b4/\Q (.br (decide (x=.b4))) H):=by
 intro ag s σ H x y v u Q J a8 bx h;obtain ⟨rfl,q⟩:=h;cases bx;refine is_none_gen (fL J q ?_);cases x <;> first
  | (cases a8;rfl)
  | (obtain ⟨t,rfl⟩:=a8;rfl)
theorem F6:hn X (compareOp .IsNot) (fun x y H Q=>y=.b4/\Q (.br (!decide (x=.b4))) H):=by
 intro ag s σ H x y v u Q J a8 bx h;obtain ⟨rfl,q⟩:=h;cases bx;refine isnot_none_gen (fL J q ?_);cases x <;> first
  | (cases a8;rfl)
  | (obtain ⟨t,rfl⟩:=a8;rfl)
theorem cu (b:Expr) (h:op ≠ .In:=by decide) (ao:op ≠ .NotIn:=by decide):behindInMarks op b=false:=by
 have ax:(op == CmpOp.In)=false:=by cases op <;> first | rfl | exact absurd rfl h
 have aK:(op == akM)=false:=by cases op <;> first | rfl | exact absurd rfl ao
 cases b <;> simp [behindInMarks,ax,aK]
theorem hb (aT:hn X (compareOp op) r) (aR:bD X a bo) (ae:bD X b b1) (hm:behindInMarks op b=false):bD X (.Compare a [op] [b] pos) (rX r bo b1):=by
 intro ag s σ H Q J h;exact wpAny_Compare1 (El aR ae J h fun v u s2 x y aB b3 a8 bx q=>aT ag s2 σ aB x y v u Q b3 a8 bx q) hm
noncomputable def H7 (t:TE):TT:=fun σ H Q=>t σ H fun x I=>kx x fun k=>Q k I
theorem cY (aT:hn X (compareOp op) r) (aR:bD X a bo) (ae:bD X b b1) (hm:behindInMarks op b=false):jN X (.Compare a [op] [b] pos) (H7 (rX r bo b1)):=by
 intro ag s σ H Q J h;refine wpAny_isTrue_Compare1 (bQ (aR ag s σ H _ J h) fun v s1 cj=>el cj fun x H1 a_ cQ bR=>bQ (ae ag s1 σ H1 _ a_ bR) fun u s2 ⟨y,aB,b3,gz,dS⟩=>
  bQ (aT ag s2 σ aB x y v u _ b3 cQ gz dS) fun c s3 cj=>el cj fun z bw fe Ht g8=>?_) hm
 obtain ⟨k,e,fD⟩:=kx.out g8;subst e;cases Ht;exact wpAny_truthy_bool ⟨bw,fe,fD⟩
def ND (K:bk) (x:V) (H:aw) (k:Bool):Prop:=
 match x with
 | .b4=>k=false
 | .br b=>k=b
 | .int i=>k=(i != 0)
 | .str y=>y.length <= sizeLine/\k=((y.length:Int) != 0)
 | .l4 y=>y.size <= sizeLine/\k=((y.size:Int) != 0)
 | .ref p=>(∃ xs,av K H p xs/\k = !xs.isEmpty)\/(∃ xs,cJ K H p xs/\k = !xs.isEmpty)\/∃ kvs,H p=some (.bu kvs)/\k = !kvs.isEmpty
 | _=>False
theorem Yf (r:eZ kvs vs):(!vs.isEmpty) = !kvs.isEmpty:=by
 cases r <;> rfl
theorem SR {aV:List Value} (r:b0 xs aV):(!aV.toArray.isEmpty) = !xs.isEmpty:=by
 cases r <;> simp
theorem tf:(sizeLine:Nat) < 2 ^ 63:=by rw [sizeLine_eq];decide
theorem W2:aiS X (fun x H Q=>∃ k,ND X.K x H k/\Q k H):=by
 intro ag s σ H x v Q J a8 h;obtain ⟨k,e,q⟩:=h;have aM:=tf;have aC:sizeLine=16777216:=sizeLine_eq;cases x with
 | b4=>
  cases a8;have bF:k=false:=e;subst bF;exact truthy_none ⟨H,J,q⟩
 | br b=>
  cases a8;have bF:k=b:=e;subst bF;exact wpAny_truthy_bool ⟨H,J,q⟩
 | int i=>
  obtain ⟨t,rfl⟩:=a8;have bF:k=(i != 0):=e;subst bF;exact PySem.P.truthy_int ⟨H,J,q⟩
 | str y=>
  obtain ⟨t,rfl⟩:=a8;obtain ⟨a9,bF⟩:y.length <= sizeLine/\k=((y.length:Int) != 0):=e;subst bF;exact PySem.P.truthy_str (by omega) ⟨H,J.tok _,q⟩
 | l4 y=>
  obtain ⟨t,rfl⟩:=a8;obtain ⟨a9,bF⟩:y.size <= sizeLine/\k=((y.size:Int) != 0):=e;subst bF;exact PySem.W.truthy_bytes (by omega) ⟨H,J.tok _,q⟩
 | ref p=>
  cases a8;have bF:(∃ xs,av X.K H p xs/\k = !xs.isEmpty)\/(∃ xs,cJ X.K H p xs/\k = !xs.isEmpty)\/∃ kvs,H p=some (.bu kvs)/\k = !kvs.isEmpty:=e;rcases bF with ⟨xs,aj,bF⟩ | ⟨xs,aj,bF⟩ | ⟨kvs,aj,bF⟩
  .subst bF;obtain ⟨aV,r,pl,aO⟩:=J.list aj;have hlen:=r.length;exact wpAny_truthy_list pl.isList (by simp only [d8];omega) ⟨H,J.tok _,by rw [SR r];exact q⟩
  .subst bF;obtain ⟨aV,r,pl,aO⟩:=J.tuple aj;have hlen:=r.length;exact truthy_tuple pl (by simp only [d8];omega) ⟨H,J.tok _,by rw [SR r];exact q⟩
  .subst bF;obtain ⟨aO,er,vs,r,m⟩:kvs.length <= sizeLine/\(p == sysModules)=false/\∃ vs,eZ kvs vs/\s.heap.DictOf (hG X.prog X.w) p vs:=J.bl p _ aj;have hlen:kvs.length=vs.length:=JW r;exact wpAny_truthy_dict er m (by omega) ⟨H,J.tok _,by rw [Yf r];exact q⟩
 | _=>exact (show False from e).elim
theorem zZ (aR:bD X a bo) (he:∀ whole,isTrue a X.env whole=(do let v <- whole;standAt a.pos;holding [v] (truthy v))) :
  jN X a (fun σ H Q=>bo σ H fun x I=>∃ k,ND X.K x I k/\Q k I):=by
 intro ag s σ H Q J h;exact isTrue_plain (bQ (aR ag s σ H _ J h) fun v s1 cj=>el cj fun x H1 a_ cQ bR=>W2 ag s1 σ H1 x v Q a_ cQ bR) (he _)
theorem mD:hn X (binaryOp .Add) (fun x y H Q=>∃ i j,x=.str i/\y=.str j/\i.length + j.length <= sizeLine/\Q (.str (i ++ j)) H):=by
 intro ag s σ H x y v u Q J a8 bx h;obtain ⟨i,j,rfl,rfl,aO,q⟩:=h;obtain ⟨t,rfl⟩:=a8;obtain ⟨t',rfl⟩:=bx;exact add_str (fun t' tk=>⟨.str (i ++ j),H,J.tok _,⟨_,rfl⟩,q⟩) aO
theorem jP {x:V} (r:b0 [x] us):∃ u,us=[u]/\bM x u:=by
 cases r with
 | cons cQ gz=>cases gz;exact ⟨_,rfl,cQ⟩
theorem P1 {x y:V} (r:b0 [x,y] us):∃ u fs,us=[u,fs]/\bM x u/\bM y fs:=by
 cases r with
 | cons cQ gz=>
  cases gz with
  | cons Ht X2=>cases X2;exact ⟨_,_,rfl,cQ,Ht⟩
theorem ak_ (aA:X.calm=true):jw X (.builtin "max") (fun xs H Q=>∃ i j,xs=[.int i,.int j]/\Q (.int (if j > i then j else i)) H):=by
 intro ag s σ H xs us Q J r h;obtain ⟨i,j,rfl,q⟩:=h;obtain ⟨u,fs,rfl,⟨t,rfl⟩,⟨t',rfl⟩⟩:=P1 r;refine max_two_ints (J.ok.hd aA) fun h' tk k=>⟨_,H,J.kept k,?_,q⟩
 by_cases aJ:j > i
 .rw [if_pos aJ,if_pos aJ];exact ⟨_,rfl⟩
 .rw [if_neg aJ,if_neg aJ];exact ⟨_,rfl⟩
theorem sn:jw X (.type "int") (fun xs H Q=>(∃ i,xs=[.int i]/\Q (.int i) H)\/∃ k,xs=[.br k]/\Q (.int (if k then 1 else 0)) H):=by
 intro ag s σ H xs us Q J r h;rcases h with ⟨i,rfl,q⟩ | ⟨k,rfl,q⟩
 .obtain ⟨u,rfl,t,rfl⟩:=jP r;exact call_int_int ⟨.int i,H,J,⟨_,rfl⟩,q⟩
 .obtain ⟨u,rfl,cQ⟩:=jP r;cases cQ;exact call_int_bool ⟨.int (if k then 1 else 0),H,J.tok _,⟨_,rfl⟩,q⟩
theorem Ch:jw X (.type "str") (fun xs H Q=>∃ i,xs=[.int i]/\i.natAbs.log2 < 1920/\Q (.str (toString i)) H):=by
 intro ag s σ H xs us Q J r h;obtain ⟨i,rfl,aO,q⟩:=h;obtain ⟨u,rfl,t,rfl⟩:=jP r;exact PySem.P.str_of_int aO ⟨.str _,H,J.tok _,⟨_,rfl⟩,q⟩
end
structure sV (h:Heap) (x ay C:Addr) (ef:Str->Option Value):Prop where
 obj:h.get? x=some (r5 C ay)
 ns:h.Ns1 ay ef
 ne:ay ≠ x
theorem WU {h:Heap} (n:h.Ns1 ay ef):∃ dD,h.get? ay=some dD/\∀ name,JG name dD=some (ef name):=by
 obtain ⟨o,ba,ep,aT,hd,au,_,hm⟩:=n;refine ⟨o,aT,fun name=>?_⟩;have e:=hm name;unfold nsFind findBy at e;rw [<- Array.find?_toList] at e;unfold JG;rw [hd];dsimp only;split
 .rename_i y q;rw [q] at e;exact congrArg some e
 .rename_i q;rw [q] at e;have a:ba.toList.any (·.refKey)=false:=by
   rw [D6];intro y a9;obtain ⟨z,t,ajX⟩:=au y (Array.mem_toList_iff.mp a9);simp [DictEntry.refKey,ajX]
  have hC:¬ ba.toList.any (·.refKey)=true:=by rw [a];exact eQ
  rw [if_neg hC];exact congrArg some e
theorem sV.look {h:Heap} {x ay C:Addr} (J:sV h x ay C ef):∃ dD,PySem.W.InstAt h x (r5 C ay) C (some dD)/\∀ name,JG name dD=some (ef name):=
 let ⟨dD,aT,aM⟩:=WU J.ns
 ⟨dD,⟨J.obj,rfl,rfl,aT⟩,aM⟩
section
variable {prog:Program} {w:World} {A:Around} {E:Value->Shared->Prop} {s:Shared} {K:bk} {x ay C f:Addr} {ef:Str->Option Value} {name:Str} {v:Value}
theorem aaq (X:K.In s.heap) (J:sV s.heap x ay C ef) (bp:EB K C name=true) (fY:BU K C=true)
  (aR:dC K (.ref C) name=some none) (aI:ef name=some v) (aln:YN v=true) (h:Q v { s with toks:=s.toks + 1 }) :
  wpAny (model prog w) A (getAttr (.ref x) name expr) Q E s:=by
 obtain ⟨dD,b6,aM⟩:=J.look;exact PySem.W.get_value X b6 (RA bp).1 (PySem.W.findObj_own fY aR rfl (by rw [aM,aI])) aln h
theorem Zj (X:K.In s.heap) (J:sV s.heap x ay C ef) (bp:EB K C name=true)
  (hf:dC K (.ref C) name=some (some (.ref f))) (cT:TP K (.ref f)=true) (aI:ef name=none) (h:Q (.ref f,[.ref x]) s) :
  wpAny (model prog w) A (getMethod (.ref x) name pl) Q E s:=by
 obtain ⟨dD,b6,aM⟩:=J.look;exact PySem.W.method_fn X b6 (RA bp).1 (RA bp).2 hf (beq_iff_eq.mp cT) (by show (JG name dD).map (·.isSome)=some false;rw [aM,aI];rfl) h
theorem ajs {ns:List Str} (X:K.In s.heap) (J:sV s.heap x ay C ef)
  (aC:dC K (.ref C) "__setattr__"=some (some (.builtin "object.__setattr__"))) (ar:aez K C=true) (cT:P4 K C name=some none) (fY:BU K C=true)
  (hw:Hy ef ns) (hsz:ns.length <= sizeLine)
  (h:∀ h',sV h' x ay C (fun y=>if y=name then some v else ef y)->x' ay s.heap h'->Q () { s with heap:=h',toks:=s.toks + 2 }) :
  wpAny (model prog w) A (setAttr (.ref x) name v) Q E s:=by
 obtain ⟨dD,b6,aM⟩:=J.look;refine PySem.W.set_plain X b6 aC (PySem.W.osa_open (s:={ s with toks:=s.toks + 1 }) (r:=none) X b6 ar cT fun b=>?_);obtain ⟨cd,aA,n'⟩:=PySem.W.any_some fY;have aj:s.heap.get? x=some ⟨.ref C,some ay,.plain,#[]⟩:=J.obj;refine wpAny_bind (wpAny_pure (wpAny_bind (wpAny_bind (wpAny_loadPart aj (wpAny_bind (aot (s:={ s with toks:=s.toks + 1 }) (PySem.W.looks_clsIn X aA) ?_))))));rw [n'];refine wpAny_pure (a:=some ay) (wpAny_bind (wpAny_pure (wpAny_bind ?_)));refine wpAny_nsSet1 (s:={ s with toks:=s.toks + 1 }) J.ns fun h' q4 jT=>?_
 obtain ⟨anK,apl,apI,agO,ad4,aeC⟩:=q4.count (apO name v hw);refine wpAny_bind (wpAny_lookBehind agO (by rw [ad4];exact pastItsLine_dict (cP aeC (by rw [gP];omega))) ?_);exact wpAny_pure (h _ ⟨(jT.2 _ (dJ J.ne)).trans J.obj,q4,J.ne⟩ jT)
theorem XN (X:K.In s.heap) (hm:ahW K C=true)
  (ah:dC K (.ref C) "__init__"=some (some (.ref f))) (hf:abo K (.ref f)=some (.type "function"))
  (h:codeAny (model prog w) (A.under (.builtin "type.__call__" ⟨.ref C :: vs,kw⟩)) (.call (.ref f) ⟨.ref (s.heap.objs.size + 1) :: vs,kw⟩) (PySem.W.InitBack (s.heap.objs.size + 1) R)
   { s with heap:=(s.heap.push rd).push (r5 C s.heap.objs.size) }) :
  codeAny (model prog w) A (.call (.ref C) ⟨vs,kw⟩) R s:=by
 obtain ⟨fY,g,d,t,os⟩:=s;exact PySem.W.make_core (PySem.W.makes_of X hm) (PySem.W.looks_findIn X ah) (fun self=>PySem.W.bind_fn X self hf) (.inl rfl) h
end
noncomputable def c9 (f:Str) (v:V):List (Str × V)->List (Str × V)
 | []=>[(f,v)]
 | (g,x) :: r=>if g=f then (g,v) :: r else (g,x) :: c9 f v r
theorem Oi (f g:Str) (v:V):∀ aX:List (Str × V),(c9 f v aX).lookup g=if g=f then some v else aX.lookup g
 | []=>by
  show ql g [(f,v)]=_;by_cases h:g=f
  .have ae:(g == f)=true:=beq_iff_eq.mpr h;simp only [ql,ae,if_pos h]
  .have ae:(g == f)=false:=beq_eq_false_iff_ne.mpr h;simp only [ql,ae,if_neg h]
 | (k,x) :: r=>by
  have cE:=Oi f g v r;rw [show c9 f v ((k,x) :: r)=(if k=f then (k,v) :: r else (k,x) :: c9 f v r) from rfl];by_cases au:k=f
  .rw [if_pos au];by_cases h:g=k
   .have ae:(g == k)=true:=beq_iff_eq.mpr h;simp only [ql,ae,if_pos (h.trans au)]
   .have ae:(g == k)=false:=beq_eq_false_iff_ne.mpr h;simp only [ql,ae,if_neg (fun e:g=f=>h (e.trans au.symm))]
  .rw [if_neg au];by_cases h:g=k
   .have ae:(g == k)=true:=beq_iff_eq.mpr h;simp only [ql,ae,if_neg (fun e:g=f=>au (h.symm.trans e))]
   .have ae:(g == k)=false:=beq_eq_false_iff_ne.mpr h;simp only [ql,ae];exact cE
theorem Kz (f:Str) (v:V):∀ aX:List (Str × V),f ∈ (c9 f v aX).map (·.1)/\∀ g,g ∈ aX.map (·.1)->g ∈ (c9 f v aX).map (·.1)
 | []=>⟨by simp [c9],fun g h=>by simp at h⟩
 | (k,x) :: r=>by
  obtain ⟨i1,i2⟩:=Kz f v r;rw [show c9 f v ((k,x) :: r)=(if k=f then (k,v) :: r else (k,x) :: c9 f v r) from rfl];by_cases au:k=f
  .rw [if_pos au];subst au;exact ⟨by simp,fun g h=>by simpa using h⟩
  .rw [if_neg au];refine ⟨?_,fun g h=>?_⟩
   .rw [e1];exact hR _ i1
   .rw [e1] at h ⊢;rcases fx.mp h with e | e
    .exact fx.mpr (.inl e)
    .exact hR _ (i2 g e)
theorem Hu (f:Str) (v:V):∀ aX:List (Str × V),(c9 f v aX).length <= aX.length + 1
 | []=>by simp [c9]
 | (k,x) :: r=>by
  have cE:=Hu f v r;rw [show c9 f v ((k,x) :: r)=(if k=f then (k,v) :: r else (k,x) :: c9 f v r) from rfl];by_cases au:k=f
  .rw [if_pos au,gP,gP];omega
  .rw [if_neg au,gP,gP];omega
theorem iw.some_of (r:iw (some v) o):∃ u,o=some u/\bM v u:=by
 cases o with
 | none=>exact (show False from r).elim
 | some u=>exact ⟨u,rfl,r⟩
theorem iw.none_of (r:iw none o):o=none:=by
 cases o with
 | none=>rfl
 | some u=>exact (show False from r).elim
theorem aeV (r:bM v u):YN u=true:=by
 cases v with
 | b4=>cases (show u=qI from r);rfl
 | br b=>cases (show u=kL b from r);rfl
 | int i=>obtain ⟨t,e⟩:=(show ∃ t,u=ox i t from r);cases e;rfl
 | str x=>obtain ⟨t,e⟩:=(show ∃ t,u=r6 x t from r);cases e;rfl
 | l4 b=>obtain ⟨t,e⟩:=(show ∃ t,u=ab4 b t from r);cases e;rfl
 | r1 b=>obtain ⟨t,e⟩:=(show ∃ t,u=MA b t from r);cases e;rfl
 | ref a=>cases (show u=eL a from r);rfl
 | ty n=>cases (show u=aeR n from r);rfl
section
variable {P:Program} {w:World} {H I:aw} {h h':Heap} {a C ay:Addr} {aX mY:List (Str × V)}
theorem rI (bl:eA P w H h) (e:H a=some (.ins C ay aX)):∃ ef,sV h a ay C ef/\(∀ f,iw (aX.lookup f) (ef f))/\Hy ef (aX.map (·.1))/\aX.length <= 1000/\H ay=some (.own a):=by
 obtain ⟨d,z,ne,b',ef,n,r,q⟩:=(show dT P w H h a (.ins C ay aX) from bl a _ e);exact ⟨ef,⟨b',n,ne⟩,r,q,z,d⟩
end
structure hI (K:bk) (C:Addr):Prop where
 aiL:EB K C Str.empty=true
 hd:BU K C=true
 po:aez K C=true
 a7:dC K (.ref C) "__setattr__"=some (some (.builtin "object.__setattr__"))
theorem hI.get {K:bk} (c:hI K C) (f:Str):EB K C f=true:=c.aiL
def c5 (K:bk) (C:Addr) (f:Str):Prop:=dC K (.ref C) f=some none
theorem c5.acd {K:bk} (n:c5 K C f):P4 K C f=some none:=by
 unfold P4;rw [show dC K (.ref C) f=some none from n];rfl
structure aps (K:bk) (C:Addr) (f:Str) (v:V) (u:Value):Prop where
 at_:dC K (.ref C) f=some (some u)
 rel:bM v u
 get:tZ K u "__get__"=some none
 t6:PySem.W.copiedNames.contains f=false
structure gd (K:bk) (C:Addr) (m:Str) (f:Addr):Prop where
 at_:dC K (.ref C) m=some (some (.ref f))
 fn:TP K (.ref f)=true
 bG:sM K (.ref f)=true
section
variable {X:bg} {ag:List (Addr × Obj)} {σ:St} {H:aw} {s:Shared} {a C ay:Addr} {aX:List (Str × V)} {f:Str} {v:V} {A:Around} {E:Value->Shared->Prop}
theorem TY (J:Inv X ag σ H s) (e:H a=some (.ins C ay aX)) (c:hI X.K C) (n:c5 X.K C f) (l:aX.lookup f=some v)
  (h:∀ u ai,Inv X ag σ H ai->bM v u->Q u ai):wpAny (model X.prog X.w) A (getAttr (.ref a) f b) Q E s:=by
 obtain ⟨ef,O,r,_,_,_⟩:=rI J.bl e;obtain ⟨u,bC,fB⟩:=iw.some_of (v:=v) (o:=ef f) (by rw [<- l];exact r f);exact aaq J.gC O (c.get f) c.hd n bC (aeV fB) (h u _ (J.tok _) fB)
theorem Jl (J:Inv X ag σ H s) (e:H a=some (.ins C ay aX)) (c:hI X.K C) (k:gd X.K C m g) (l:aX.lookup m=none)
  (h:Q (.ref g,[.ref a]) s):wpAny (model X.prog X.w) A (getMethod (.ref a) m pl) Q E s:=by
 obtain ⟨ef,O,r,_,_,_⟩:=rI J.bl e;have aQ:ef m=none:=iw.none_of (by rw [<- l];exact r m);exact Zj J.gC O (c.get m) k.at_ k.fn aQ h
theorem Vu (J:Inv X ag σ H s) (e:H a=some (.ins C ay aX)) (c:hI X.K C) (n:c5 X.K C f) (aM:aX.length < 1000) (bx:bM y u)
  (h:∀ ai,Inv X ag σ (upd H a (.ins C ay (c9 f y aX))) ai->Q () ai):wpAny (model X.prog X.w) A (setAttr (.ref a) f u) Q E s:=by
 obtain ⟨ef,O,r,wi,_,aT⟩:=rI J.bl e;have aO:(aX.map (·.1)).length <= sizeLine:=by rw [aP,sizeLine_eq];omega
 refine ajs J.gC O c.a7 c.po n.acd c.hd wi aO fun h' Fc pa=>h _ ?_
 have hd:∃ o,h'.get? ay=some o:=let ⟨o,_,_,bF,_⟩:=Fc.ns;⟨o,bF⟩;refine J.write (x:=a) (e:=ay) (by rw [e];exact jz) (.inr aT) (fun b q ae z=>(pa.2 b ae).trans z) hd ?_;refine ⟨by rw [aG O.ne];exact aT,?_,O.ne,Fc.obj,_,Fc.ns,fun g=>?_,fun g bp=>?_⟩
 .have:=Hu f y aX;omega
 .show iw ((c9 f y aX).lookup g) (if g=f then some u else ef g);rw [Oi];by_cases q:g=f
  .rw [if_pos q,if_pos q];exact bx
  .rw [if_neg q,if_neg q];exact r g
 .by_cases q:g=f
  .rw [q];exact (Kz f y aX).1
  .refine (Kz f y aX).2 g (wi g fun z=>bp ?_);show (if g=f then some u else ef g)=none;rw [if_neg q];exact z
theorem Inv.made (J:Inv X ag σ H s):Inv X ag σ (upd (upd H s.heap.objs.size (.own (s.heap.objs.size + 1))) (s.heap.objs.size + 1) (.ins C s.heap.objs.size []))
  { s with heap:=(s.heap.push rd).push (r5 C s.heap.objs.size) }:=by
 have ax:(s.heap.push rd).get? s.heap.objs.size=some rd:=hs s.heap rfl;have aK:((s.heap.push rd).push (r5 C s.heap.objs.size)).get? (s.heap.objs.size + 1)=some (r5 C s.heap.objs.size):=by
  have:=hs (s.heap.push rd) (o:=r5 C s.heap.objs.size) rfl;rwa [Tb] at this
 have bU:(s.heap.push rd).Ns s.heap.objs.size (fun _=>none):=⟨rd,#[],_,ax,rfl,(fun e he=>absurd he (by simp)),fun _=>rfl⟩;have a_:=J.laid (a:=s.heap.objs.size) (o:=.own (s.heap.objs.size + 1)) (h':=s.heap.push rd) (t':=s.toks) (fun b u q=>e6 _ q) (b8 _) ⟨_,ax⟩;refine a_.laid (a:=s.heap.objs.size + 1) (o:=.ins C s.heap.objs.size []) (t':=s.toks) (fun b u q=>e6 _ q) (Yj (Tb _ _)) ?_;have ne:s.heap.objs.size ≠ s.heap.objs.size + 1:=gX (EZ _);refine ⟨by rw [aG ne,db],gv _,ne,aK,fun _=>none,(Heap.Ns1.of_empty bU).at fun o q=>e6 _ q,fun _=>jz,fun y a9=>absurd rfl a9⟩
theorem ajE {prog:Program} {w:World} {env:Env} {e:Expr} (ae:attributeBase e f env (eval e env)=eval e env)
  (h:wpAny (model prog w) A (eval e env) (fun o dq=>wpAny (model prog w) A (getAttr o f true) Q E dq) E s):wpAny (model prog w) A (eval (.Attribute e f pos) env) Q E s:=
 Attribute_any_ h (by rw [arm_eval_Attribute,ae])
end
def gm (K:bk) (H:aw) (a:Addr) (f:Str) (v:V):Prop:=∃ C ay aX,H a=some (.ins C ay aX)/\hI K C/\c5 K C f/\aX.lookup f=some v
noncomputable def GT (K:bk) (bo:TE) (f:Str):TE:=fun σ H Q=>bo σ H fun x H1=>fp x fun a=>∃ v,gm K H1 a f v/\Q v H1
noncomputable def NA (K:bk) (bo gB:TE) (f:Str):eH:=fun D σ H=>gB σ H fun y H1=>bo σ H1 fun x aB=>fp x fun a=>∃ C ay aX,aB a=some (.ins C ay aX)/\hI K C/\c5 K C f/\aX.length < 1000 /\
 D.cG σ (upd aB a (.ins C ay (c9 f y aX)))
def RG (X:bg) (op:Operator) (lO:V->V->aw->cX->Prop):Prop:=
 ∀ (ag:List (Addr × Obj)) (s:Shared) (σ:St) (H:aw) (x y:V) (u v:Value) (Q:cX),Inv X ag σ H s->bM x u->bM y v->lO x y H Q->wpAny (model X.prog X.w) X.A (inplaceOp op u v) (g0 X ag σ Q) X.d4 s
noncomputable def QI (K:bk) (bo gB:TE) (lO:V->V->aw->cX->Prop) (f:Str):eH:=fun D σ H=>bo σ H fun x H1=>∃ a C ay aX v,x=.ref a/\H1 a=some (.ins C ay aX)/\hI K C/\c5 K C f/\aX.lookup f=some v /\
 gB σ H1 fun y aB=>lO v y aB fun z bw=>∃ hL mY,bw a=some (.ins C hL mY)/\mY.length < 1000/\D.cG σ (upd bw a (.ins C hL (c9 f z mY)))
section
variable {X:bg} {o e value:Expr} {f:Str} {pos pos' yH:Pos} {bo gB:TE}
theorem bN (he:bD X e bo) (ae:attributeBase e f X.env (eval e X.env)=eval e X.env):bD X (.Attribute e f pos) (GT X.K bo f):=by
 intro ag s σ H Q J h;refine ajE ae (bQ (he ag s σ H _ J h) fun u s1 cj=>el cj fun x H1 a_ a8 g8=>?_);obtain ⟨a,ex,v,⟨C,ay,aX,e4,c,n,l⟩,q⟩:=fp.out g8;subst ex;obtain rfl:u=eL a:=a8;exact TY a_ e4 c n l fun uQ s2 b3 fB=>⟨v,H1,b3,fB,q⟩
theorem fu (aR:bD X o bo) (aI:bD X value gB) (aC:swapsWith value (some (.Attribute o f pos')) pos.line X.env=pure false):ia X (.Assign [.Attribute o f pos'] value pos) (NA X.K bo gB f):=by
 intro ag s σ H D J h;refine plainObj_wpAny_Assign_Attribute (bQ (aI ag s σ H _ J h) fun u s1 cj=>el cj fun y H1 a_ bx q=>bQ (aR ag s1 σ H1 _ a_ q) fun fo s2 cj=>el cj fun x aB b3 a8 g8=>?_) aC;obtain ⟨a,ex,C,ay,aX,e4,c,n,l,dS⟩:=fp.out g8;subst ex;obtain rfl:fo=eL a:=a8;exact Vu b3 e4 c n l bx fun s3 fe=>⟨σ,_,fe,dS⟩
theorem Hx {lO:V->V->aw->cX->Prop} (aR:bD X o bo) (aI:bD X value gB) (afp:RG X op lO):ia X (.AugAssign (.Attribute o f yH) op value pos) (QI X.K bo gB lO f):=by
 intro ag s σ H D J h;refine wpAny_AugAssign_AttributeAny (bQ (aR ag s σ H _ J h) fun fo s1 c2=>?_);obtain ⟨x,H1,a_,a8,a,C,ay,aX,v,ex,e4,c,n,l,q⟩:=c2;subst ex;obtain rfl:fo=eL a:=a8;refine TY a_ e4 c n l fun u s2 b3 fB=>bQ (aI ag s2 σ H1 _ b3 q) fun fQ s3 cj=>el cj fun y aB fe bx fD=>bQ (afp ag s3 σ aB v y u fQ _ fe fB bx fD) fun hA s4 c2=>?_
 obtain ⟨z,bw,iE,Lh,hL,mY,ajS,l',FZ⟩:=c2;exact Vu iE ajS c n l' Lh fun s5 x8=>⟨σ,_,x8,FZ⟩
noncomputable def K6:V->V->aw->cX->Prop:=fun x y H Q=>∃ i j,x=.int i/\y=.int j/\Q (.int (i + j)) H
theorem J9:RG X .Add K6:=by
 rintro ag s σ H x y u v Q J a8 bx ⟨i,j,rfl,rfl,q⟩;obtain ⟨t,rfl⟩:=(show ∃ t,u=ox i t from a8);obtain ⟨t',rfl⟩:=(show ∃ t',v=ox j t' from bx);exact apN ⟨.int (i + j),H,J.tok _,⟨_,rfl⟩,q⟩
end
section
variable {X:bg} {ag:List (Addr × Obj)} {σ:St} {H:aw} {s:Shared} {A:Around} {E:Value->Shared->Prop} {Q:Value->Shared->Prop} {c:Value} {b:Bool}
inductive lA (K:bk) (H:aw):V->Value->Prop where
 | b4:lA K H .b4 (.type "NoneType")
 | br (x:Bool):lA K H (.br x) (.type "bool")
 | int (i:Int):lA K H (.int i) (.type "int")
 | str (x:Str):lA K H (.str x) (.type "str")
 | r1 (x:UInt64):lA K H (.r1 x) (.type "float")
 | lst {a:Addr} {xs:List V} (e:H a=some (.lst xs)):lA K H (.ref a) (.type "list")
 | ey {a:Addr} {o:Obj} {xs:List V} (e:H a=some (.ey o (.lst xs))):lA K H (.ref a) (.type "list")
 | tup {a:Addr} {xs:List V} (e:H a=some (.tup xs)):lA K H (.ref a) (.type "tuple")
 | bu {a:Addr} {kvs:List (Key × V)} (e:H a=some (.bu kvs)):lA K H (.ref a) (.type "dict")
 | gc {a:Addr} {kvs:List (List Key × V)} (e:H a=some (.gc kvs)):lA K H (.ref a) (.type "dict")
 | ins {a C ay:Addr} {aX:List (Str × V)} (e:H a=some (.ins C ay aX)) (cl:hI K C) (aR:dC K (.ref C) "__class__"=some (some (.builtin "object.__class__")))
   (aQ:tZ K (.builtin "object.__class__") "__get__"=some (some (.builtin "getset_descriptor.__get__"))) (vw:Lf K (.builtin "object.__class__")=some true)
   (hm:IK K C (.type "object")=some true):lA K H (.ref a) (.ref C)
theorem dL {x:V} {u t:Value} (J:Inv X ag σ H s) (a8:bM x u) (ty:lA X.K H x t) (e:ahS X.K t c=some b) (h:∀ tk,Q (.bool b) { s with toks:=tk }) :
  wpAny (model X.prog X.w) A (call (.builtin "isinstance") [u,c]) Q E s:=by
 cases ty with
 | b4=>cases (show u=qI from a8);exact pj PySem.W.kitx_none J.gC jz e (fun z=>nomatch z) h
 | br y=>cases (show u=kL y from a8);exact pj PySem.W.kitx_bool J.gC jz e (fun z=>nomatch z) h
 | int i=>obtain ⟨t,q⟩:=(show ∃ t,u=ox i t from a8);cases q;exact pj PySem.W.kitx_int J.gC jz e (fun z=>nomatch z) h
 | str y=>obtain ⟨t,q⟩:=(show ∃ t,u=r6 y t from a8);cases q;exact pj PySem.W.kitx_str J.gC jz e (fun z=>nomatch z) h
 | r1 y=>obtain ⟨t,q⟩:=(show ∃ t,u=MA y t from a8);cases q;exact pj PySem.W.kitx_float J.gC jz e (fun z=>nomatch z) h
 | @lst a xs e4=>
  cases (show u=eL a from a8);obtain ⟨_,_,n,_,af⟩:=(show dT X.prog X.w H s.heap a (.lst xs) from J.bl a _ e4);exact pj alq J.gC ⟨_,af,rfl⟩ e (fun z=>nomatch z) h
 | @ey a b' xs e4=>
  cases (show u=eL a from a8);obtain ⟨_,_,_,n,_,af⟩:=(show dT X.prog X.w H s.heap a (.ey b' (.lst xs)) from J.bl a _ e4);exact pj alq J.gC ⟨_,af,rfl⟩ e (fun z=>nomatch z) h
 | @tup a xs e4=>
  cases (show u=eL a from a8);obtain ⟨_,_,_,p⟩:=(show dT X.prog X.w H s.heap a (.tup xs) from J.bl a _ e4);obtain ⟨o,af,ao,_⟩:=p;exact pj PySem.W.kitx_tuple J.gC ⟨o,af,ao⟩ e (fun z=>nomatch z) h
 | @bu a kvs e4=>
  cases (show u=eL a from a8);obtain ⟨_,_,vs,_,p⟩:=(show dT X.prog X.w H s.heap a (.bu kvs) from J.bl a _ e4);obtain ⟨o,ba,ep,af,ao,_⟩:=p;exact pj acf J.gC ⟨o,af,ao.1⟩ e (fun z=>nomatch z) h
 | @gc a kvs e4=>
  cases (show u=eL a from a8);obtain ⟨_,_,xs,_,o,ba,ep,af,ao,_⟩:=(show dT X.prog X.w H s.heap a (.gc kvs) from J.bl a _ e4);exact pj acf J.gC ⟨o,af,ao.1⟩ e (fun z=>nomatch z) h
 | @ins a C ay aX e4 cl aR aQ vw hm=>
  cases (show u=eL a from a8);obtain ⟨ef,O,_⟩:=rI J.bl e4;obtain ⟨dD,b6,_⟩:=O.look;exact pj (PySem.W.kitx_own (cl.get _) cl.hd aR aQ vw hm) J.gC b6 e (fun z=>nomatch z) h
end
structure eP (k:Nat) (A:Around):Prop where
 hd:A.handled=none
 a':A.depth + 3 * k + 5 < recursionLimit
 un:A.units + 16 * k + 200 < cLine
theorem eP.mono {j k:Nat} {A:Around} (r:eP k A) (h:j <= k):eP j A:=⟨r.hd,by have:=r.a';omega,by have:=r.un;omega⟩
theorem eP.deeper {k:Nat} {A:Around} (r:eP (k + 1) A) (env:Env):eP k (A.deeper env):=
 ⟨r.hd,by have:=r.a';show A.depth + 1 + 3 * k + 5 < _;omega,by have:=r.un;show A.units + 3 + 16 * k + 200 < _;omega⟩
theorem eP.in1 {k:Nat} {A:Around} (r:eP (k + 1) A):eP k A.in1:=
 ⟨r.hd,by have:=r.a';show A.depth + 3 * k + 5 < _;omega,by have:=r.un;show A.units + 1 + 16 * k + 200 < _;omega⟩
theorem af3 {A:Around}:(A.under (.builtin "type.__call__" ⟨.ref C :: us,kw⟩)).depth=A.depth + 1:=by
 first | rfl | simp [Rv,Code.weight,Code.isCreation,Code.isGuard,Code.isCaller,ajr,Nf,guardIds]
theorem WJ {A:Around}:(A.under (.builtin "type.__call__" ⟨.ref C :: us,kw⟩)).units=A.units + 1:=by
 first | rfl | simp [Rv,Code.cUnits,ajr,Nf]
theorem eP.make {k:Nat} {A:Around} (r:eP (k + 1) A) (C:Addr) (us:List Value) (kw:List (Str × Value)):eP k (A.under (.builtin "type.__call__" ⟨.ref C :: us,kw⟩)):=
 ⟨r.hd,by have:=r.a';rw [af3];omega,by have:=r.un;rw [WJ];omega⟩
theorem eP.depth {k:Nat} {A:Around} (r:eP k A):A.depth < recursionLimit:=by have:=r.a';omega
theorem eP.units {k:Nat} {A:Around} (r:eP k A):A.units + 64 < cLine:=by have:=r.un;omega
noncomputable def vH:gw:=fun _ H Q=>Q [] H
noncomputable def Lm (bo:TE) (q_:gw):gw:=fun σ H Q=>bo σ H fun x H1=>q_ σ H1 fun xs aB=>Q (x :: xs) aB
section
variable {X:bg} {e:Expr} {ba:List Expr} {bT:TE} {t:gw} {pos:Pos}
theorem aF:kJ X [] vH:=fun _ _ _ _ H Q J h=>aj1 ⟨[],H,J,.nil,h⟩
theorem ak (aR:bD X e bT) (aq:kJ X ba t) (aC:starEach (e :: ba) X.env=(false,eval e X.env) :: starEach ba X.env:=by rfl):kJ X (e :: ba) (Lm bT t):=by
 intro pos ag s σ H Q J h;rw [aC];show wpAny _ _ (spliced ((false,eval e X.env) :: backTo pos (starEach ba X.env))) _ _ s;refine Pc (bQ (aR ag s σ H _ J h) fun u s1 cj=>el cj fun x H1 a_ cQ bR=>?_);exact bQ (aq pos ag s1 σ H1 _ a_ bR) fun us s2 ⟨xs,aB,b3,gz,dS⟩=>⟨x :: xs,aB,b3,.cons cQ gz,dS⟩
noncomputable def EX (t:gw):TE:=fun σ H Q=>t σ H fun xs H1=>xs.length <= sizeLine/\∀ p,H1 p=none->Q (.ref p) (upd H1 p (.tup xs))
noncomputable def Ga (t:gw):TE:=fun σ H Q=>t σ H fun xs H1=>xs.length <= sizeLine/\∀ p,H1 p=none->Q (.ref p) (upd H1 p (.lst xs))
theorem rY {cq} (h:kJ X ba t):bD X (.Tuple ba cq pos) (EX t):=by
 intro ag s σ H Q J aU;refine wpAny_Tuple_spliced (bQ (h pos ag s σ H _ J aU) fun us s1 ⟨xs,H1,a_,r,z,q⟩=>⟨by rw [<- r.length];exact z,?_⟩);have hf:H1 s1.heap.objs.size=none:=a_.bl.fresh (b8 _);refine ⟨.ref s1.heap.objs.size,upd H1 s1.heap.objs.size (.tup xs),a_.laid (t':=s1.toks) (fun b u e=>e6 _ e) (b8 _) ?_,rfl,q _ hf⟩;exact ⟨z,us,r,⟨_,hs _ rfl,rfl,_,rfl⟩⟩
theorem gL (h:kJ X ba t):bD X (.List ba pos) (Ga t):=by
 intro ag s σ H Q J aU;refine wpAny_List_spliced (bQ (h pos ag s σ H _ J aU) fun us s1 ⟨xs,H1,a_,r,z,q⟩=>⟨by rw [<- r.length];exact z,?_⟩);have hf:H1 s1.heap.objs.size=none:=a_.bl.fresh (b8 _);refine ⟨.ref s1.heap.objs.size,upd H1 s1.heap.objs.size (.lst xs),a_.laid (t':=s1.toks) (fun b u e=>e6 _ e) (b8 _) ?_,rfl,q _ hf⟩;exact ⟨z,us,0,r,hs _ rfl⟩
end
noncomputable abbrev bW:=List V->aw->cX->gG->Prop
noncomputable abbrev ka:=List Env->aw->Shared->gG->Value->Shared->Prop
structure oq (P:Program) (w:World) (K:bk) (mg:Str->Option Value) (base:Heap) (A:Around) (outer:List Env) (s:Shared) (H:aw):Prop where
 frames:A.frames=some outer
 mod:Mod K mg base
 bs:∀ b o,base.get? b=some o->s.heap.get? b=some o/\H b=none
 k4:base.objs.size <= s.heap.objs.size
 ko:s.heap.FunFrames base outer
 nK:∀ b ∈ mG outer,H b=none
 bl:eA P w H s.heap
 bare:AllBare s.gens
def F_ (outer:List Env) (P:Program) (w:World) (H:aw) (s:Shared) (Q:cX) (u:Value) (ai:Shared):Prop:=
 ∃ v I,ai.os=s.os/\AllBare ai.gens/\fc (mG outer) [] H I s.heap ai.heap/\eA P w I ai.heap/\bM v u/\Q v I
def IY (CX:ka) (outer:List Env) (P:Program) (w:World) (H:aw) (s:Shared) (Q:cX) (E:gG) (r:Result) (ai:Shared):Prop:=
 match r with
 | .ok (.ret u)=>F_ outer P w H s Q u ai
 | .ok _=>False
 | .error e=>CX outer H s E e ai
structure cK (P:Program) (w:World) (K:bk) (mg:Str->Option Value) (base:Heap) (CX:ka) (k:Nat) (f:Addr) (fd:FuncData) (ps:List Str) (sp:bW):Prop where
 len:∀ vs H Q E,sp vs H Q E->vs.length=ps.length
 run:∀ (A:Around) (outer:List Env) (s:Shared) (H:aw) (args:Args) (us:List Value) (vs:List V) (Q:cX) (E:gG),eP k A->oq P w K mg base A outer s H->BindsTo s fd args (ps.zip us)->b0 vs us->sp vs H Q E ->
  codeAny (model P w) A (.call (.ref f) args) (IY CX outer P w H s Q E) s
theorem cK.mono {w:World} {K:bk} {mg:Str->Option Value} {base:Heap} {j k:Nat} {fd:FuncData} (F:cK P w K mg base CX j f fd ps sp) (h:j <= k) :
  cK P w K mg base CX k f fd ps sp:=⟨F.len,fun A outer s H args us vs Q E aq=>F.run A outer s H args us vs Q E (aq.mono h)⟩
theorem cK.imp {w:World} {K:bk} {mg:Str->Option Value} {base:Heap} {k:Nat} {fd:FuncData} (F:cK P w K mg base CX k f fd ps sp)
  (h:∀ vs H Q E,yc vs H Q E->sp vs H Q E):cK P w K mg base CX k f fd ps yc:=
 ⟨fun vs H Q E q=>F.len vs H Q E (h _ _ _ _ q),fun A outer s H args us vs Q E aq he ae aI aC=>F.run A outer s H args us vs Q E aq he ae aI (h _ _ _ _ aC)⟩
theorem oq.make {w:World} {K:bk} {mg:Str->Option Value} {base:Heap} {A:Around} {outer:List Env} (e:oq P w K mg base A outer s H) (C:Addr) (us:List Value) (kw:List (Str × Value)) :
  oq P w K mg base (A.under (.builtin "type.__call__" ⟨.ref C :: us,kw⟩)) outer s H:=⟨by first | exact e.frames | (simpa [Rv,Code.envs,Nf,pushEnvs] using e.frames),e.mod,e.bs,e.k4,e.ko,e.nK,e.bl,e.bare⟩
theorem oq.in1 {w:World} {K:bk} {mg:Str->Option Value} {base:Heap} {A:Around} {outer:List Env} (e:oq P w K mg base A outer s H) :
  oq P w K mg base A.in1 outer s H:=⟨e.frames,e.mod,e.bs,e.k4,e.ko,e.nK,e.bl,e.bare⟩
section
variable {X:bg} {ag:List (Addr × Obj)} {σ:St} {H:aw} {s ai:Shared}
theorem Inv.PS (J:Inv X ag σ H s):oq X.prog X.w X.K X.mg X.base X.A X.stack s H:=
 ⟨J.ok.frames,J.ok.mod,J.bs,cP J.ok.k4 J.oe,J.stack,J.LD,J.bl,J.bare⟩
theorem Inv.after (J:Inv X ag σ H s) (h:F_ X.stack X.prog X.w H s Q u ai):g0 X ag σ Q u ai:=by
 obtain ⟨v,I,os,bare,un,bl,r,q⟩:=h;obtain ⟨fY,g,d,t,ahd⟩:=ai;obtain rfl:ahd=s.os:=os;exact ⟨v,I,J.call (h':=fY) (g':=g) (d':=d) (t':=t) (ch:=[]) un bl bare (fun b z=>absurd z (by simp)),r,q⟩
end
noncomputable def yl (sp:bW) (dvs:List V) (E:gG) (t:gw):TE:=fun σ H Q=>t σ H fun vs H1=>sp (vs ++ dvs) H1 Q E
noncomputable def JV (C:Addr) (m:Str) (sp:bW) (dvs:List V) (E:gG) (bo:TE) (t:gw):TE:=fun σ H Q=>bo σ H fun x H1=>fp x fun a=>∃ ay aX,H1 a=some (.ins C ay aX)/\aX.lookup m=none /\
 t σ H1 fun vs aB=>sp (x :: (vs ++ dvs)) aB Q E
noncomputable def Oy (C:Addr) (sp:bW) (dvs:List V) (E:gG) (t:gw):TE:=fun σ H Q=>t σ H fun vs H1=>∀ x ay,H1 x=none->H1 ay=none->ay ≠ x ->
 sp (.ref x :: (vs ++ dvs)) (upd (upd H1 ay (.own x)) x (.ins C ay [])) (fun v aB=>v=.b4/\Q (.ref x) aB) E
def b_ (K:bk) (fd:FuncData) (ps:List Str) (ds:List Value):Prop:=
 ∀ (s:Shared) (us:List Value),K.In s.heap->(us ++ ds).length=ps.length->BindsTo s fd ⟨us,[]⟩ (ps.zip (us ++ ds))
theorem b_.all {K:bk} {fd:FuncData} (h:∀ us:List Value,us.length=ps.length->bindArgs fd ⟨us,[]⟩=pure (ps.zip us)):b_ K fd ps []:=fun s us _ aM=>by
 rw [AZ] at aM ⊢;exact .of_eq (h us aM)
def qp (CX:ka) (X:bg) (E:gG):Prop:=∀ (ag:List (Addr × Obj)) (σ:St) (H:aw) (s:Shared) (e:Value) (ai:Shared),Inv X ag σ H s->CX X.stack H s E e ai->X.d4 e ai
section
variable {X:bg} {CX:ka} {k:Nat} {f C:Addr} {fd:FuncData} {ps:List Str} {sp:bW} {dvs:List V} {ds:List Value} {E:gG} {x m:Str} {p pos gi:Pos} {e o:Expr} {ba:List Expr} {bo:TE} {t:gw}
theorem v' (F:cK X.prog X.w X.K X.mg X.base CX k f fd ps sp) (aq:eP k X.A) (ae:b_ X.K fd ps ds) (hd:b0 dvs ds) (aj:qp CX X E)
  (J:Inv X ag σ H s) (r:b0 vs us) (h:sp (vs ++ dvs) H Q E):wpAny (model X.prog X.w) X.A (call (.ref f) us) (g0 X ag σ Q) X.d4 s:=by
 have gz:b0 (vs ++ dvs) (us ++ ds):=r.append hd;have aM:(us ++ ds).length=ps.length:=by rw [<- gz.length];exact F.len _ _ _ _ h
 refine wpAny_call (codeAny_mono (F.run X.A X.stack s H ⟨us,[]⟩ (us ++ ds) (vs ++ dvs) Q E aq J.PS (ae s us J.gC aM) gz h) fun r ai aU=>?_);cases r with
 | error e=>exact aj ag σ H s e ai J aU
 | ok eF=>
  cases eF with
  | ret u=>exact J.after aU
  | next=>exact jq aU
  | brk=>exact jq aU
  | cont=>exact jq aU
theorem abq (F:cK X.prog X.w X.K X.mg X.base CX k f fd ps sp) (aq:eP k X.A) (bp:mO X x) (hm:X.mg x=some (.ref f)) (au:sM X.K (.ref f)=true) (ae:b_ X.K fd ps ds) (hd:b0 dvs ds) (aj:qp CX X E)
  (aR:kJ X (e :: ba) t) (il:(x == ("__debug__" : Str))=false:=by decide) (he:starEach (e :: ba) X.env=(false,eval e X.env) :: starEach ba X.env:=by rfl) (c4:(backTo pos (starEach ba X.env)).any (·.1)=false:=by rfl) :
  bD X (.Call (.Name x p) (e :: ba) [] pos) (yl sp dvs E t):=by
 intro ag s σ H Q J h;refine wpAny_Call_Name_kw (A9 J bp hm ?_ il);refine Fs (h₀:=X.base) J.ok.mod.ua au (bQ (aR pos ag s σ H _ J h) fun us s1 ⟨vs,H1,a_,r,q⟩=>⟨a_.gC,?_⟩) he c4;exact v' F aq ae hd aj a_ r q
theorem fN (he:bD X o bo) (c:hI X.K C) (hm:gd X.K C m f) (F:cK X.prog X.w X.K X.mg X.base CX k f fd ps sp) (aq:eP k X.A) (ae:b_ X.K fd ps ds) (hd:b0 dvs ds) (aj:qp CX X E) (aR:kJ X (e :: ba) t)
  (h8:starEach (e :: ba) X.env=(false,eval e X.env) :: starEach ba X.env:=by rfl) (c4:(backTo pos (starEach ba X.env)).any (·.1)=false:=by rfl)
  (cT:eval (.Call (.Attribute o m gi) (e :: ba) [] pos) X.env=(do
   let fo <- eval o X.env
   standAt gi.atName
   let (f,first) <- holding [fo] (getMethod fo m pl)
   callWith pos f first (backTo pos (starEach (e :: ba) X.env)) (backToKw pos (keywordEach [] X.env))):=by rfl) :
  bD X (.Call (.Attribute o m gi) (e :: ba) [] pos) (JV C m sp dvs E bo t):=by
 intro ag s σ H Q J h;refine EN (pl:=pl) (bQ (he ag s σ H _ J h) fun u s1 cj=>el cj fun x H1 a_ a8 g8=>?_) cT;obtain ⟨a,ex,ay,aX,e4,l,q⟩:=fp.out g8;subst ex;obtain rfl:u=eL a:=a8;refine Jl a_ e4 c hm l ?_;refine Fs (first:=[.ref a]) (h₀:=X.base) J.ok.mod.ua hm.bG (bQ (aR pos ag s1 σ H1 _ a_ q) fun us s2 ⟨vs,aB,b3,r,dS⟩=>⟨b3.gC,?_⟩) h8 c4;exact v' (us:=.ref a :: us) (vs:=.ref a :: vs) F aq ae hd aj b3 (.cons rfl r) dS
theorem iR (he:bD X o bo) (c:hI X.K C) (hm:gd X.K C m f) (F:cK X.prog X.w X.K X.mg X.base CX k f fd ps sp) (aq:eP k X.A) (ae:b_ X.K fd ps ds) (hd:b0 dvs ds) (aj:qp CX X E)
  (cT:eval (.Call (.Attribute o m gi) [] [] pos) X.env=(do
   let fo <- eval o X.env
   standAt gi.atName
   let (f,first) <- holding [fo] (getMethod fo m pl)
   callWith pos f first (backTo pos (starEach [] X.env)) (backToKw pos (keywordEach [] X.env))):=by rfl) :
  bD X (.Call (.Attribute o m gi) [] [] pos) (JV C m sp dvs E bo vH):=by
 intro ag s σ H Q J h;refine EN (pl:=pl) (bQ (he ag s σ H _ J h) fun u s1 cj=>el cj fun x H1 a_ a8 g8=>?_) cT;obtain ⟨a,ex,ay,aX,e4,l,q⟩:=fp.out g8;subst ex;obtain rfl:u=eL a:=a8;refine Jl a_ e4 c hm l ?_;exact abe (first:=[.ref a]) a_.gC hm.bG (v' (us:=[.ref a]) (vs:=[.ref a]) F aq ae hd aj a_ (.cons rfl .nil) q)
structure p6 (K:bk) (C f:Addr):Prop where
 makes:ahW K C=true
 init:dC K (.ref C) "__init__"=some (some (.ref f))
 fn:TP K (.ref f)=true
 bG:sM K (.ref C)=true
theorem ado (M:p6 X.K C f) (F:cK X.prog X.w X.K X.mg X.base CX k f fd ps sp) (aq:eP (k + 1) X.A) (ae:b_ X.K fd ps ds) (hd:b0 dvs ds)
  (aj:qp CX X E) (J:Inv X ag σ H s) (r:b0 vs us)
  (h:∀ x ay,H x=none->H ay=none->ay ≠ x->sp (.ref x :: (vs ++ dvs)) (upd (upd H ay (.own x)) x (.ins C ay [])) (fun v aB=>v=.b4/\Q (.ref x) aB) E) :
  wpAny (model X.prog X.w) X.A (call (.ref C) us) (g0 X ag σ Q) X.d4 s:=by
 have aU:=h (s.heap.objs.size + 1) s.heap.objs.size (J.bl.fresh (Gj _)) (J.bl.fresh (b8 _)) (gX (EZ _));have b3:=Inv.made (C:=C) J;have gz:b0 (V.ref (s.heap.objs.size + 1) :: (vs ++ dvs)) (eL (s.heap.objs.size + 1) :: (us ++ ds)):=.cons rfl (r.append hd);have aM:(eL (s.heap.objs.size + 1) :: us ++ ds).length=ps.length:=by
  have e:=gz.length;rw [F.len _ _ _ _ aU] at e;exact e.symm
 refine wpAny_call (XN (f:=f) J.gC M.makes M.init (beq_iff_eq.mp M.fn) (codeAny_mono (F.run _ X.stack _ _ ⟨eL (s.heap.objs.size + 1) :: us,[]⟩ (eL (s.heap.objs.size + 1) :: (us ++ ds)) _ _ E (aq.make C us [])
  (b3.PS.make C us []) (ae _ (eL (s.heap.objs.size + 1) :: us) b3.gC aM) gz aU) fun r ai nU=>?_))
 cases r with
 | error e=>exact aj ag σ _ _ e ai b3 nU
 | ok eF=>
  cases eF with
  | ret u=>
   obtain ⟨v,I,fe,cV,ev,fD⟩:=b3.after nU;subst ev;exact ⟨cV,⟨V.ref (s.heap.objs.size + 1),I,fe,rfl,fD⟩⟩
  | next=>exact jq nU
  | brk=>exact jq nU
  | cont=>exact jq nU
theorem sr (M:p6 X.K C f) (F:cK X.prog X.w X.K X.mg X.base CX k f fd ps sp) (aq:eP (k + 1) X.A) (bp:mO X x) (hm:X.mg x=some (.ref C)) (ae:b_ X.K fd ps ds) (hd:b0 dvs ds) (aj:qp CX X E)
  (aR:kJ X (e :: ba) t) (il:(x == ("__debug__" : Str))=false:=by decide) (he:starEach (e :: ba) X.env=(false,eval e X.env) :: starEach ba X.env:=by rfl) (c4:(backTo pos (starEach ba X.env)).any (·.1)=false:=by rfl) :
  bD X (.Call (.Name x p) (e :: ba) [] pos) (Oy C sp dvs E t):=by
 intro ag s σ H Q J h;refine wpAny_Call_Name_kw (A9 J bp hm ?_ il);refine Fs (h₀:=X.base) J.ok.mod.ua M.bG (bQ (aR pos ag s σ H _ J h) fun us s1 ⟨vs,H1,a_,r,q⟩=>⟨a_.gC,?_⟩) he c4;exact ado M F aq ae hd aj a_ r q
end
section
variable {X:bg} {CX:ka} {k:Nat} {f C:Addr} {fd:FuncData} {ps cw:List Str} {sp:bW} {E:gG} {x m:Str} {p pos gi apt:Pos} {e o:Expr} {ba:List Expr} {amS:List Keyword} {bT bo:TE} {t tk:gw} {nm:Option Str}
structure apa (K:bk) (fd:FuncData) (ps cw:List Str) (g:List Value->List Value->List Value) (QQ:List V->List V->List V):Prop where
 to:∀ (s:Shared) (us ws:List Value),K.In s.heap->(g us ws).length=ps.length->BindsTo s fd ⟨us,cw.zip ws⟩ (ps.zip (g us ws))
 rel:∀ {vs:List V} {us:List Value} {zs:List V} {ws:List Value},b0 vs us->b0 zs ws->b0 (QQ vs zs) (g us ws)
variable {g:List Value->List Value->List Value} {QQ:List V->List V->List V}
end
structure cx (N P:List Str) (sc:Scope):Prop where
 kind:sc.kind=.function
 co:sc.isCoroutine=false
 gen:sc.isGenerator=false
 aH:N.Nodup
 pre:N.take P.length=P
 par:∀ x ∈ P,sc.names.lookup x=some .local\/sc.names.lookup x=some .cell
 YO:∀ y ∈ sc.names,y.2 ≠ .free
theorem MT {kindOf:Str->Option NameKind} {x:Str}:∀ {binds:List (Str × Value)} {m:Str->Option Value},(∀ v,(x,v) ∉ binds)->bindL kindOf binds m x=m x
 | [],_,_=>rfl
 | (n,v) :: r,m,h=>by
  unfold bindL;rw [MT fun w hw=>h w (hR _ hw)];split
  .have:x ≠ n:=by rintro rfl;exact h v l5
   simp [this]
  .rfl
theorem Oe {kindOf:Str->Option NameKind} {x:Str}:∀ {binds:List (Str × Value)} {m:Str->Option Value},(∀ v,(x,v) ∉ binds)->bindC kindOf binds m x=m x
 | [],_,_=>rfl
 | (n,v) :: r,m,h=>by
  unfold bindC;rw [Oe fun w hw=>h w (hR _ hw)];split
  .rfl
  .have:x ≠ n:=by rintro rfl;exact h v l5
   simp [this]
theorem OP {kindOf:Str->Option NameKind} {x:Str} {v:Value}:∀ {P:List Str} {vs:List Value} {i:Nat} {m:Str->Option Value},P.Nodup->P[i]? = some x->vs[i]? = some v->kindOf x=some .local ->
  bindL kindOf (P.zip vs) m x=some v
 | [],_,_,_,_,h,_,_=>by simp at h
 | _ :: _,[],_,_,_,_,h,_=>by simp at h
 | p :: P,w :: vs,0,m,aH,af,ao,au=>by
  simp at af ao;subst af;subst ao;show bindL kindOf ((p,w) :: P.zip vs) m p=_;unfold bindL;rw [MT fun v aI=>(sQ.mp aH).1 (Sz aI).1,if_pos au];simp
 | p :: P,w :: vs,i + 1,m,aH,af,ao,au=>by
  show bindL kindOf ((p,w) :: P.zip vs) m x=_;unfold bindL;exact OP (i:=i) (sQ.mp aH).2 (by simpa using af) (by simpa using ao) au
theorem U' {kindOf:Str->Option NameKind} {x:Str} {v:Value}:∀ {P:List Str} {vs:List Value} {i:Nat} {m:Str->Option Value},P.Nodup->P[i]? = some x->vs[i]? = some v->kindOf x ≠ some .local ->
  bindC kindOf (P.zip vs) m x=some v
 | [],_,_,_,_,h,_,_=>by simp at h
 | _ :: _,[],_,_,_,_,h,_=>by simp at h
 | p :: P,w :: vs,0,m,aH,af,ao,au=>by
  simp at af ao;subst af;subst ao;show bindC kindOf ((p,w) :: P.zip vs) m p=_;unfold bindC;rw [Oe fun v aI=>(sQ.mp aH).1 (Sz aI).1,if_neg au];simp
 | p :: P,w :: vs,i + 1,m,aH,af,ao,au=>by
  show bindC kindOf ((p,w) :: P.zip vs) m x=_;unfold bindC;exact U' (i:=i) (sQ.mp aH).2 (by simpa using af) (by simpa using ao) au
noncomputable def start (N:List Str) (vs:List V):St:=vs.map some ++ kC (N.length - vs.length) none
noncomputable def rm (CX:ka) (P:Program) (w:World) (K:bk) (mg:Str->Option Value) (base:Heap) (N:List Str) (qual:Str) (scope:Scope) (f:Addr) (cd:Value) (A:Around) (outer:List Env) (s:Shared) (H:aw) (E:gG):bg where
 prog:=P
 w:=w
 K:=K
 mg:=mg
 base:=base
 A:=A.deeper (envOfC qual scope s.heap.objs.size f cd)
 N:=N
 f_:=s
 rv:=H
 env:=envOfC qual scope s.heap.objs.size f cd
 outer:=outer
 stack:=envOfC qual scope s.heap.objs.size f cd :: outer
 ex:=[]
 calm:=true
 fn:=fun _=>true
 ez:=[]
 d4:=fun e ai=>wpAny (model P w) (A.deeper (envOfC qual scope s.heap.objs.size f cd)) (leaving (envOfC qual scope s.heap.objs.size f cd) e) (fun _ su=>CX outer H s E e su) (fun bF su=>CX outer H s E bF su) ai
theorem Vy {sc:Scope} {n:Nat} {x:Str} (h:sc.names.lookup x=some .cell):∃ c,(cellsFrom n sc.names []).lookup x=some c:=by
 have q:=aji sc.names n [] (.inl h);exact alP.mp q
theorem akd {CX:ka} {P:Program} {w:World} {K:bk} {mg:Str->Option Value} {base:Heap} {N ps:List Str} {qual:Str} {scope:Scope} {f:Addr} {cd:Value} {A:Around} {outer:List Env} {s s1:Shared} {H:aw} {E:gG} {us:List Value} {vs:List V}
  (S:cx N ps scope) (hd:A.handled=none) (e7:oq P w K mg base A outer s H) (aM:vs.length=ps.length) (r:b0 vs us)
  (x:InCallC s s.heap.objs.size (bindL (envOfC qual scope s.heap.objs.size f cd).kindOf (ps.zip us) fun _=>none) (cellsFrom (s.heap.objs.size + 1) scope.names []) (bindC (envOfC qual scope s.heap.objs.size f cd).kindOf (ps.zip us) fun _=>none) s1) :
  Inv (rm CX P w K mg base N qual scope f cd A outer s H E) [] (start N vs) H s1:=by
 have c4:ps.length <= N.length:=by have:=congrArg ry S.pre;rw [hE] at this;omega
 obtain ⟨af,tk,rfl,au⟩:=x.done;have s7:∀ b:Addr,b ∉ (rm CX P w K mg base N qual scope f cd A outer s H E).ex:=fun b z=>absurd (show b ∈ ([]:List Addr) from z) (by simp)
 refine ⟨⟨e7.mod,S.kind,rfl,rfl,b8 _,fun y z c af ao=>?_,fun y a9=>?_,fun y c _ h=>?_,fun _=>hd,Yp e7.frames,.inr ⟨rfl,rfl⟩,fun b z=>absurd z (s7 b),e7.bs,e7.k4,fun b _ _=>s7 b,fun b z=>absurd z (s7 b),e7.ko,e7.nK⟩,
  rfl,e7.bare,fc.kept au,⟨_,x.toInCall.ns,fun i y v af ao bj=>?_⟩,fun y c h=>⟨_,x.cell y c h⟩,e7.bl.fresh (b8 _),fun y c h=>?_,fun p ar=>absurd (show p ∈ ([]:List (Addr × Obj)) from ar) (by simp),e7.bl.kept au,?_⟩
 .exact name_of_addr x.apart (tN af) (tN ao)
 .have a9:scope.names.lookup y=some .cell\/scope.names.lookup y=some .free:=a9;rcases a9 with a9 | a9
  .exact Vy a9
  .exact absurd rfl (S.YO _ (tN a9))
 .exact nE (x.above y c (tN h))
 .have ah:i < vs.length:=by
   unfold start at ao;by_cases ah:i < vs.length
   .exact ah
   .rw [vd (by simpa using ah)] at ao;rw [List.getElem?_replicate] at ao;split at ao <;> cases ao
  have aR:vs[i]? = some v:=by
   unfold start at ao;rw [xB (by simpa using ah),cN] at ao;cases e:vs[i]? with
   | none=>rw [e] at ao;cases ao
   | some a=>rw [e] at ao;cases ao;rfl
  obtain ⟨u,bC,cV⟩:=r.get aR;have ar:ps[i]? = some y:=by
   rw [<- S.pre,u7 (by omega)];exact af
  have NS:ps.Nodup:=by rw [<- S.pre];exact S.aH.sublist (List.take_sublist _ _)
  refine ⟨u,cV,?_⟩;rcases S.par y (cm ar) with k | k
  .exact .inl ⟨k,OP NS ar bC k⟩
  .obtain ⟨c,e⟩:=Vy (n:=s.heap.objs.size + 1) k;refine .inr ⟨.inl k,c,e,?_⟩;have q:=x.cell y c e;rw [U' NS ar bC (by show scope.names.lookup y ≠ _;rw [k];decide)] at q;exact q
 .exact e7.bl.fresh (nE (x.above y c (tN h)))
 .unfold start;show _=N.length;rw [dZ,aP,List.length_replicate];omega
theorem R5 {w:World} {K:bk} {mg:Str->Option Value} {base:Heap} {k:Nat} {name qual:Str} {Aj dk doc pm f7 fl n6:Value}
 {N ps:List Str} (lk:K.lookup f=some ⟨n6,dD,.func (vz name qual params body scope Aj dk doc pm an f7 fl),sZ⟩) (kN:Vp K f7 qual=true) (S:cx N ps scope)
    (len:∀ vs H Q E,sp vs H Q E->vs.length=ps.length)
    (pB:∀ (A:Around) (outer:List Env) (s:Shared) (H:aw) (vs:List V) (Q:cX) (E:gG),eP k (A.deeper (envOfC qual scope s.heap.objs.size f f7))->sp vs H Q E ->
      ∃ t,lG (rm CX P w K mg base N qual scope f f7 A outer s H E) body t/\t { cG:=fun _ I=>Q .b4 I,l1:=Q } (start N vs) H) :
    cK P w K mg base CX (k + 1) f (vz name qual params body scope Aj dk doc pm an f7 fl) ps sp:=by
  refine ⟨len,fun A outer s H args us vs Q E aq e7 ae r pA=>?_⟩;have aM:=len _ _ _ _ pA;have kZ:K.In s.heap:=e7.mod.ua.keeps fun b o e=>(e7.bs b o e).1
  have lim:s.heap.NoLimit:=e7.mod.nolimit.keeps fun b o e=>(e7.bs b o e).1
  have adq:∀ y ∈ ps.zip us,scope.names.lookup y.1=some .local\/(scope.names.lookup y.1=some .cell/\((cellsFrom (s.heap.objs.size + 1) scope.names []).lookup y.1).isSome=true):=fun ⟨n,v⟩ a9=>by
    rcases S.par n (Sz a9).1 with q | q
    · exact .inl q
    · exact .inr ⟨q,aji _ _ _ (.inl q)⟩
  refine codeAny_call_function aq.depth (kZ _ _ lk) rfl S.co S.gen rfl (PySem.W.codeRec_of kZ kN) (ae _ _ _ _ ?_);refine wpAny_newFunctionEnv_cells S.kind adq fun env he s1 x=>?_
  subst he;refine ⟨lim.keeps x.toInCall.keep,codeAny_func ?_⟩;obtain ⟨t,cT,aU⟩:=pB A outer s H vs Q E (aq.deeper _) pA;have J:Inv (rm CX P w K mg base N qual scope f f7 A outer s H E) [] (start N vs) H s1:=akd S aq.hd e7 aM r x;refine wpAny_mono (cT [] s1 (start N vs) H _ J aU) (fun eF ai aC=>?_) fun e ai aC=>aC
  have fin:∀ {az:St} {I:aw} {v:V} {u:Value},Inv (rm CX P w K mg base N qual scope f f7 A outer s H E) [] az I ai->bM v u->Q v I->F_ outer P w H s Q u ai:=
    fun {az I v u} b6 cV q=>⟨v,I,b6.os,b6.bare,b6.base,b6.bl,cV,q⟩
  cases eF with
  | ret u=>
    obtain ⟨v,az,I,b6,cV,q⟩:=aC;exact fin b6 cV q
  | next=>
    obtain ⟨az,I,b6,q⟩:=aC;exact fin (v:=V.b4) (u:=qI) b6 rfl q
  | brk=>
    obtain ⟨_,_,_,q⟩:=aC;exact jq q
  | cont=>
    obtain ⟨_,_,_,q⟩:=aC;exact jq q
section
variable {X:bg} {x:Str} {p pos:Pos} {e:Expr} {ba:List Expr} {t:gw} {id T:String} {r:List V->aw->cX->Prop}
noncomputable def yN (r:List V->aw->cX->Prop) (t:gw):TE:=fun σ H Q=>t σ H fun vs H1=>r vs H1 Q
theorem eT (aA:jw X (.builtin id) r) (bp:mO X x) (hm:X.mg x=none) (aI:bootBuiltins x=some (.builtin id)) (aR:kJ X (e :: ba) t) (aQ:x ≠ "__name__" := by decide) (il:(x == ("__debug__" : Str))=false:=by decide)
  (he:starEach (e :: ba) X.env=(false,eval e X.env) :: starEach ba X.env:=by rfl) (c4:(backTo pos (starEach ba X.env)).any (·.1)=false:=by rfl):bD X (.Call (.Name x p) (e :: ba) [] pos) (yN r t):=by
 intro ag s σ H Q J h;refine wpAny_Call_Name_kw (vu J bp hm aI ?_ aQ il);exact anO (bQ (aR pos ag s σ H _ J h) fun us s1 ⟨vs,H1,a_,cQ,bR⟩=>aA ag s1 σ H1 vs us Q a_ cQ bR) he c4
theorem j4 (aA:jw X (.type T) r) (bp:mO X x) (hm:X.mg x=none) (aI:bootBuiltins x=some (.type T)) (aR:kJ X (e :: ba) t) (aQ:x ≠ "__name__" := by decide) (il:(x == ("__debug__" : Str))=false:=by decide)
  (he:starEach (e :: ba) X.env=(false,eval e X.env) :: starEach ba X.env:=by rfl) (c4:(backTo pos (starEach ba X.env)).any (·.1)=false:=by rfl):bD X (.Call (.Name x p) (e :: ba) [] pos) (yN r t):=by
 intro ag s σ H Q J h;refine wpAny_Call_Name_kw (vu J bp hm aI ?_ aQ il);exact Nj (bQ (aR pos ag s σ H _ J h) fun us s1 ⟨vs,H1,a_,cQ,bR⟩=>aA ag s1 σ H1 vs us Q a_ cQ bR) he c4
end
end L2
namespace gD
open PySem PyProof.Rows
section
open PySem.SeqAt
open PySem.AutoSeq1 (wpAny_loadPart')
open PySem.MeetsSeq PySem.MeetsSeq2 PySem.MeetsSeq3
end
section
variable {prog:Program} {w:World} {A:Around} {E:Value->Shared->Prop} {s:Shared}
noncomputable def di (n d:Nat):Option Int->Nat
 | none=>d
 | some v=>if v < 0 then (v + (n:Int)).toNat else min v.toNat n
theorem aaU (n d:Nat):di n d none=d:=rfl
theorem aeg (n d k:Nat):di n d (some (k:Int))=min k n:=by
 show (if (k:Int) < 0 then ((k:Int) + (n:Int)).toNat else min (k:Int).toNat n)=min k n;rw [if_neg (by omega),ma]
theorem Zf (n d:Nat) (hd:d <= n) (o:Option Int):di n d o <= n:=by
 cases o with
 | none=>exact hd
 | some v=>
  show (if v < 0 then (v + (n:Int)).toNat else min v.toNat n) <= n;by_cases aI:v < 0
  .rw [if_pos aI];omega
  .rw [if_neg aI];exact Nat.min_le_right _ _
theorem VU (v:Int) (n d:Nat):(if v < 0 then max (v + (n:Int)) 0 else min v (n:Int))=((di n d (some v):Nat):Int):=by
 show (if v < 0 then max (v + (n:Int)) 0 else min v (n:Int))=(((if v < 0 then (v + (n:Int)).toNat else min v.toNat n):Nat):Int);by_cases aI:v < 0
 .simp only [if_pos aI];omega
 .simp only [if_neg aI];omega
theorem adf (lo ah:Option Int) (n:Nat):M1 lo ah 1 (n:Int)=(((di n 0 lo:Nat):Int),((di n n ah:Nat):Int)):=by
 have af:¬ ((1:Int) < 0):=by omega
 unfold M1;simp only [af,if_false];refine Prod.ext ?_ ?_
 .cases lo with
  | none=>rfl
  | some v=>exact VU v n 0
 .cases ah with
  | none=>rfl
  | some v=>exact VU v n n
theorem aiJ (i j:Nat):La (i:Int) (j:Int) 1=j - i:=by
 unfold La;have af:(1:Int) > 0:=by omega
 simp only [af,if_true,Int.ediv_one];split <;> omega
theorem Ta (p:IsPart v o) (h:Q o s):wpAny (model prog w) A (anQ v) Q E s:=by
 cases p with
 | none=>exact slicePart_none h
 | int i t=>exact slicePart_int h
theorem ajA {a6:Addr} {jW jY:Value} {lo ah:Option Int} {n:Nat} {Q:Int × Int × Nat->Shared->Prop} (aC:s.heap.IsSliceOf a6 jW jY .none) (pl:IsPart jW lo) (pu:IsPart jY ah)
  (h:Q (((di n 0 lo:Nat):Int),1,di n n ah - di n 0 lo) s):wpAny (model prog w) A (aeN (.ref a6) (pure (n:Int))) Q E s:=by
 obtain ⟨os,xQ,NW,pU⟩:=id aC;unfold aeN anC;refine wpAny_bind (wpAny_bind (wpAny_field xQ pU (x:=jW) rfl (wpAny_bind (wpAny_field xQ pU (x:=jY) rfl (wpAny_bind (wpAny_field xQ pU (x:=.none) rfl (wpAny_pure ?_)))))));refine wpAny_bind (slicePart_none ?_);show wpAny _ _ (if ((1:Int) == 0)=true then _ else _) _ _ s;rw [if_neg (by decide)];refine wpAny_bind (Ta pl (wpAny_bind (Ta pu (wpAny_bind (wpAny_pure ?_)))));show wpAny _ _ (match M1 lo ah 1 (n:Int) with | (lo,ah)=>pure (lo,(1:Int),La lo ah 1)) _ _ s;rw [adf lo ah n];show wpAny _ _ (pure (((di n 0 lo:Nat):Int),(1:Int),La ((di n 0 lo:Nat):Int) ((di n n ah:Nat):Int) 1)) _ _ s;rw [aiJ];exact wpAny_pure h
theorem ZS (xs:Array Value) (i k:Nat):((dw k).filterMap fun (m:Nat)=>xs[((i:Int) + (m:Int) * 1).toNat]?).toArray=((xs.toList.drop i).take k).toArray:=by
 have e:(fun (m:Nat)=>xs[((i:Int) + (m:Int) * 1).toNat]?)=fun m=>xs[i + m]?:=by
  funext m;have:((i:Int) + (m:Int) * 1).toNat=i + m:=by omega
  rw [this]
 rw [e];have:=pick_run xs i k;rw [List.filterMap_map] at this;have aK:((fun x=>xs[x]?) ∘ fun x=>i + x)=fun m=>xs[i + m]?:=rfl
 rw [aK] at this;rw [this]
theorem Zg {t a6:Addr} {items:Array Value} {jW jY:Value} {lo ah:Option Int} {Q:Value->Shared->Prop} (cT:IsTup s.heap t items) (aC:s.heap.IsSliceOf a6 jW jY .none) (pl:IsPart jW lo) (pu:IsPart jY ah)
  (hw:¬ (di items.size 0 lo=0/\di items.size items.size ah=items.size))
  (h:Q (.ref s.heap.objs.size) { s with heap:=s.heap.push { cls:=.type "tuple",data:=.seq ((items.toList.drop (di items.size 0 lo)).take (di items.size items.size ah - di items.size 0 lo)).toArray } })
  (hsz:items.size <= sizeLine):wpAny (model prog w) A (getItem (.ref t) (.ref a6)) Q E s:=by
 have BM:sizeOk (.seq ((items.toList.drop (di items.size 0 lo)).take (di items.size items.size ah - di items.size 0 lo)).toArray):=by
  show ((items.toList.drop (di items.size 0 lo)).take (di items.size items.size ah - di items.size 0 lo)).toArray.size <= sizeLine;rw [d8,hE,t_,zo];omega
 have aJ:di items.size items.size ah <= items.size:=Zf _ _ (b8 _) ah;obtain ⟨os,xQ,NW,pU⟩:=id aC;have aa7:s.TypeIs (.ref a6) "slice" := ⟨os,xQ,NW⟩;unfold getItem
 try with_reducible refine wpAny_holding ?_
 first | refine wpAny_bind (wpAny_pure ?_) | skip
 refine wpAny_bind (wpAny_sequenceKey cT.typeIs (by decide) ?_);refine wpAny_bind (wpAny_callSpecial?_slot (name:=ab "__getitem__") cT.typeIs SP
  (wpAny_call_entry SP cT.typeIs entry_tuple_getitem ?_ (args_tuple_getitem _ _)))
 show wpAny _ _ (an4 (.ref t) >>= _) _ _ s;refine wpAny_bind (tupleItemsOf_ cT ?_);refine wpAny_bind (wpAny_typeOf aa7 ?_);rw [if_pos (by decide)];refine wpAny_bind (ajA aC pl pu ?_);have p0:¬ ((((di items.size 0 lo:Nat):Int) == 0 && (1:Int) == 1 && (di items.size items.size ah - di items.size 0 lo) == items.size)=true):=by
  intro q;rw [g_,g_] at q;have bR:((di items.size 0 lo:Nat):Int)=0:=eq_of_beq q.1.1;have dS:di items.size items.size ah - di items.size 0 lo=items.size:=eq_of_beq q.2;exact hw ⟨by omega,by omega⟩
 show wpAny _ _ (if (((di items.size 0 lo:Nat):Int) == 0 && (1:Int) == 1 && (di items.size items.size ah - di items.size 0 lo) == items.size)=true then _ else _) _ _ s;rw [if_neg p0,ZS]
 first
  | exact wpAny_bind (m:=Kc _) (wpAny_newObj_type (wpAny_pure ⟨_,rfl,wpAny_pure h⟩) BM)
  | exact wpAny_bind (m:=Kc _) (wpAny_newObj_type (wpAny_bind (wpAny_pure (wpAny_pure ⟨_,rfl,wpAny_pure h⟩))) BM)
  | exact wpAny_bind (wpAny_bind (m:=Kc _) (wpAny_newObj_type (wpAny_pure (wpAny_pure ⟨_,rfl,wpAny_pure h⟩)) BM))
  | exact wpAny_bind (wpAny_bind (m:=Kc _) (wpAny_newObj_type (wpAny_pure ⟨_,rfl,wpAny_pure h⟩) BM))
end
end gD
namespace L2
open PySem PySem.Spec PyProof.Rows
noncomputable abbrev v5:=St->aw->(Option Int->aw->Prop)->Prop
def zQ (X:bg) (e:Option Expr) (t:v5):Prop:=
 ∀ (ag:List (Addr × Obj)) (s:Shared) (σ:St) (H:aw) (Q:Option Int->aw->Prop),Inv X ag σ H s->t σ H Q ->
  wpAny (model X.prog X.w) X.A (evalPart e X.env) (fun u ai=>∃ o I,Inv X ag σ I ai/\IsPart u o/\Q o I) X.d4 s
noncomputable def FO:v5:=fun _ H Q=>Q none H
noncomputable def Gd (t:TE):v5:=fun σ H Q=>t σ H fun x H1=>gV x fun i=>Q (some i) H1
section
variable {X:bg} {e:Expr} {bT:TE} {lo ah:Option Expr} {c0 yA:v5} {pos es:Pos}
theorem r':zQ X none FO:=by
 intro ag s σ H Q J h;rw [evalPart_none];exact wpAny_pure ⟨none,H,J,.none,h⟩
theorem sN (h:bD X e bT):zQ X (some e) (Gd bT):=by
 intro ag s σ H Q J hw;rw [evalPart_some];refine bQ (h ag s σ H _ J hw) fun u s1 cj=>el cj fun x H1 a_ cQ bR=>?_
 obtain ⟨i,rfl,q⟩:=gV.out bR;obtain ⟨t,rfl⟩:=cQ;exact ⟨some i,H1,a_,.int i t,q⟩
def CL (X:bg) (r:V->Option Int->Option Int->aw->cX->Prop):Prop:=
 ∀ (ag:List (Addr × Obj)) (s:Shared) (σ:St) (H:aw) (x:V) (v jW jY:Value) (lo ah:Option Int) (a6:Addr) (Q:cX),Inv X ag σ H s->bM x v->s.heap.IsSliceOf a6 jW jY .none->IsPart jW lo->IsPart jY ah->r x lo ah H Q ->
  ∃ T id,typeLookup (.type T) "__getitem__"=pure (some (.builtin id))/\s.TypeIs v T/\wpAny (model X.prog X.w) X.A (getItem v (.ref a6)) (g0 X ag σ Q) X.d4 s
noncomputable def KL (r:V->Option Int->Option Int->aw->cX->Prop) (bT:TE) (c0 yA:v5):TE:=fun σ H Q=>bT σ H fun x H1=>c0 σ H1 fun l aB=>yA σ aB fun u bw=>r x l u bw Q
theorem am (aq:CL X r) (he:bD X e bT) (aM:zQ X lo c0) (bC:zQ X ah yA):bD X (.Subscript e (.Slice lo ah none es) pos) (KL r bT c0 yA):=by
 intro ag s σ H Q J h;refine Subscript_ (bQ (he ag s σ H _ J h) fun v s1 cj=>el cj fun x H1 a_ cQ bR=>?_);refine wpAny_Slice (bQ (aM ag s1 σ H1 _ a_ bR) fun jW s2 ⟨l,aB,b3,pl,dS⟩=>bQ (bC ag s2 σ aB _ b3 dS) fun jY s3 c2=>?_);obtain ⟨u,bw,fe,pu,fD⟩:=c2;rw [evalPart_none];refine wpAny_pure ?_;have iE:Inv X ag σ bw { s3 with heap:=s3.heap.push { cls:=.type "slice",data:=.fields #[jW,jY,.none] } }:=fe.kept (t':=s3.toks) fun b b' q=>e6 _ q
 obtain ⟨T,id,hk,cT,bp⟩:=aq ag { s3 with heap:=s3.heap.push { cls:=.type "slice",data:=.fields #[jW,jY,.none] } } σ bw x v jW jY l u s3.heap.objs.size Q iE cQ (am0 ..) pl pu fD;show wpAny (model X.prog X.w) X.A (subscriptTail e (.Slice lo ah none es) v (.ref s3.heap.objs.size)) (g0 X ag σ Q) X.d4 { s3 with heap:=s3.heap.push { cls:=.type "slice",data:=.fields #[jW,jY,.none] } };exact tail_any (ops:=[.ref s3.heap.objs.size,v]) cT hk bp (by with_unfolding_all rfl)
noncomputable def nC (xs:List V) (lo ah:Option Int):List V:=(xs.drop (gD.di xs.length 0 lo)).take (gD.di xs.length xs.length ah - gD.di xs.length 0 lo)
theorem Qu (xs:List V) (lo ah:Option Int):(nC xs lo ah).length <= xs.length:=by
 unfold nC;rw [hE,t_];omega
noncomputable def PU (K:bk):V->Option Int->Option Int->aw->cX->Prop:=fun x lo ah H Q=>∃ a xs,x=.ref a/\cJ K H a xs /\
 ¬ (gD.di xs.length 0 lo=0/\gD.di xs.length xs.length ah=xs.length)/\∀ p,H p=none->Q (.ref p) (upd H p (.tup (nC xs lo ah)))
theorem WS:CL X (PU X.K):=by
 intro ag s σ H x v jW jY lo ah a6 Q J a8 aC pl pu h;obtain ⟨a,xs,rfl,aj,hw,q⟩:=h;cases a8;obtain ⟨aV,r,cT,aO⟩:=J.tuple aj;have hlen:aV.toArray.size=xs.length:=by rw [d8];exact r.length.symm
 refine ⟨"tuple",_,SP.lookup,cT.typeIs,?_⟩;refine gD.Zg cT aC pl pu (by rw [hlen];exact hw) ?_ (by rw [hlen];exact aO);rw [hlen];refine ⟨.ref s.heap.objs.size,_,J.laid (t':=s.toks) (o:=.tup (nC xs lo ah)) (fun b b' q=>e6 _ q) (b8 _) ?_,rfl,q _ (J.bl.fresh (b8 _))⟩;exact ⟨cP (Qu xs lo ah) aO,_,(r.drop (gD.di xs.length 0 lo)).take (gD.di xs.length xs.length ah - gD.di xs.length 0 lo),IsTup.new _ _⟩
end
noncomputable def p3 (n:Nat) (i:Int):Option Nat:=if 0 <= i then (if i < n then some i.toNat else none) else if -(n:Int) <= i then some (i + n).toNat else none
noncomputable def eb {α:Type} (xs:List α) (i:Int):Option α:=(p3 xs.length i).bind fun j=>xs[j]?
theorem ON (h:p3 n i=some j):seqIndex? i n=some j/\j < n/\-(n:Int) <= i/\i < n:=by
 unfold p3 at h;by_cases h0:0 <= i
 .rw [if_pos h0] at h;by_cases af:i < n
  .rw [if_pos af] at h;have e:i.toNat=j:=ei h;exact ⟨by rw [seqIndex_of h0 af,e],by omega,by omega,af⟩
  .rw [if_neg af] at h;cases h
 .rw [if_neg h0] at h;by_cases af:-(n:Int) <= i
  .rw [if_pos af] at h;have e:(i + n).toNat=j:=ei h;exact ⟨by rw [seqIndex_neg (by omega) af,e],by omega,af,by omega⟩
  .rw [if_neg af] at h;cases h
theorem K8 (h:eb xs i=some v):∃ j,seqIndex? i xs.length=some j/\xs[j]? = some v/\j < xs.length/\-(xs.length:Int) <= i/\i < xs.length:=by
 unfold eb at h;cases e:p3 xs.length i with
 | none=>rw [e] at h;cases h
 | some j=>
  rw [e] at h;obtain ⟨af,ao,bj,cS⟩:=ON e;exact ⟨j,af,h,ao,bj,cS⟩
theorem bt {α:Type} {xs:List α} {j:Nat} {v:α} (h:xs[j]? = some v):eb xs (j:Int)=some v:=by
 have aJ:j < xs.length:=(cv.mp h).1;have e:p3 xs.length (j:Int)=some j:=by
  unfold p3;rw [if_pos (by omega),if_pos (by omega)];simp
 unfold eb;rw [e];exact h
def V8 (b:Expr):Prop:=∀ o i,subscripted b false o i=operate [o,i] (getItem o i)
def yo (X:bg) (r:fb):Prop:=
 ∀ (value slice:Expr) (ag:List (Addr × Obj)) (s:Shared) (σ:St) (H:aw) (x y:V) (v u:Value) (Q:cX),Inv X ag σ H s->bM x v->bM y u->r x y H Q ->
  subscripted slice false v u=operate [v,u] (getItem v u)->wpAny (model X.prog X.w) X.A (subscriptTail value slice v u) (g0 X ag σ Q) X.d4 s
def uI (X:bg) (id:String) (r:V->List V->aw->cX->Prop):Prop:=
 ∀ (ag:List (Addr × Obj)) (s:Shared) (σ:St) (H:aw) (x:V) (xs:List V) (v:Value) (us:List Value) (Q:cX),Inv X ag σ H s->bM x v->b0 xs us->r x xs H Q ->
  wpAny (model X.prog X.w) X.A (call (.builtin id) (v :: us)) (g0 X ag σ Q) X.d4 s
section
variable {X:bg} {a b:Expr} {bo b1:TE} {pos:Pos}
theorem XQ (aq:yo X r) (aR:bD X a bo) (ae:bD X b b1) (aC:V8 b):bD X (.Subscript a b pos) (rX r bo b1):=by
 intro ag s σ H Q J h;exact Subscript_ (El aR ae J h fun v u s2 x y aB b3 a8 bx q=>aq a b ag s2 σ aB x y v u Q b3 a8 bx q (aC _ _))
noncomputable def JD (K:bk):fb:=fun x y H Q=>fp x fun p=>∃ xs,gV y fun i=>av K H p xs/\∃ v,eb xs i=some v/\Q v H
noncomputable def K9 (K:bk):fb:=fun x y H Q=>fp x fun p=>∃ xs,gV y fun i=>cJ K H p xs/\∃ v,eb xs i=some v/\Q v H
noncomputable def JZ:fb:=fun x y H Q=>∃ z i c,x=.str z/\y=.int i/\z.length <= sizeLine/\eb z.cps.toList i=some c/\Q (.str ⟨#[c]⟩) H
theorem bO:yo X (JD X.K):=by
 intro value slice ag s σ H x y v u Q J a8 bx h aC;obtain ⟨p,rfl,xs,iG⟩:=fp.out h;obtain ⟨i,rfl,aU,z,he,q⟩:=gV.out iG;cases a8;obtain ⟨t,rfl⟩:=bx;obtain ⟨aV,r,pl,aO⟩:=J.list aU;obtain ⟨j,af,ao,bj,cS,e'⟩:=K8 he;obtain ⟨w,lE,iD⟩:=r.get ao;have aM:=r.length;have aQ:=tf;have fin:g0 X ag σ Q w s:=⟨z,H,J,iD,q⟩;by_cases h0:0 <= i
 .have aJ:i.toNat=j:=by
   rw [seqIndex_of h0 e'] at af;exact ei af
  exact item_listR pl.isList h0 (by omega) (by rw [aJ];simpa using lE) fin aC
 .have aJ:(i + (aV.toArray.size:Int)).toNat=j:=by
   rw [seqIndex_neg (by omega) cS] at af;rw [d8,<- aM];exact ei af
  exact subscriptTail_builtinR (x:=w) pl.isList.typeIs slot_list_getitem.lookup
   (wpAny_getItem_list_neg (Q:=fun r ai=>r=w/\g0 X ag σ Q r ai) pl.isList (by omega) (by rw [d8] <;> omega) (by omega) (by rw [aJ];simpa using lE) ⟨rfl,fin⟩) aC
theorem ed:yo X (K9 X.K):=by
 intro value slice ag s σ H x y v u Q J a8 bx h aC;obtain ⟨p,rfl,xs,iG⟩:=fp.out h;obtain ⟨i,rfl,aU,z,he,q⟩:=gV.out iG;cases a8;obtain ⟨t,rfl⟩:=bx;obtain ⟨aV,r,pl,aO⟩:=J.tuple aU;obtain ⟨j,af,ao,bj,cS,e'⟩:=K8 he;obtain ⟨w,lE,iD⟩:=r.get ao;have aM:=r.length;have aQ:=tf;have fin:g0 X ag σ Q w s:=⟨z,H,J,iD,q⟩;exact subscriptTail_builtinR (x:=w) pl.typeIs slot_tuple_getitem.lookup
  (getItem_tuple (j:=j) (Q:=fun r ai=>r=w/\g0 X ag σ Q r ai) pl (by omega) (by omega) (by rw [d8,<- aM];exact af) (by simpa using lE) ⟨rfl,fin⟩) aC
theorem DH:yo X JZ:=by
 intro value slice ag s σ H x y v u Q J a8 bx h aC;obtain ⟨z,i,c,rfl,rfl,aO,he,q⟩:=h;obtain ⟨t,rfl⟩:=a8;obtain ⟨t',rfl⟩:=bx;obtain ⟨j,af,ao,bj,cS,e'⟩:=K8 he;have aM:z.cps.toList.length=z.length:=by simp [uH]
 rw [aM] at af cS e';have aQ:=tf;exact tail_any (typeIs_str s z t) slot_str_getitem.lookup (getItem_str (c:=c) (by
  have ax:decide (i < -(2 ^ 63:Int))=false:=decide_eq_false (by omega);have aK:decide (i ≥ 2 ^ 63)=false:=decide_eq_false (by omega);rw [ax,aK,Nv]) (by rw [af];simpa using ao) ⟨.str ⟨#[c]⟩,H,J.tok _,⟨_,rfl⟩,q⟩) aC
theorem afq (aV:List Value) (n j:Nat) (u:Value):qZ (·.setIfInBounds j u) { cls:=.type "list",data:=.seq aV.toArray n } = { cls:=.type "list",data:=.seq (aV.set j u).toArray n }:=by
 simp [qZ]
theorem Inv.lst {p:Addr} (J:Inv X ag σ H s) (h:H p=some (.lst xs)) :
  ∃ (aV:List Value) (n:Nat),b0 xs aV/\s.heap.get? p=some { cls:=.type "list",data:=.seq aV.toArray n }/\xs.length <= sizeLine:=by
 obtain ⟨z,aV,n,r,e⟩:=J.bl p _ h;exact ⟨aV,n,r,e,z⟩
theorem Inv.afw {p:Addr} {aV its':List Value} (J:Inv X ag σ H s) (h:H p=some (.lst xs))
  (aT:s.heap.get? p=some { cls:=.type "list",data:=.seq aV.toArray n }) (hf:f { cls:=.type "list",data:=.seq aV.toArray n } = { cls:=.type "list",data:=.seq its'.toArray ew }) (r:b0 ys its') (aO:ys.length <= sizeLine) (t:Nat) :
  Inv X ag σ (upd H p (.lst ys)) { s with heap:=s.heap.update p f,toks:=t }:=by
 have e:(s.heap.update p f).get? p=some { cls:=.type "list",data:=.seq its'.toArray ew }:=by
  rw [acE f aT (by rw [hf] <;> rfl),hf]
 refine J.write (x:=p) (e:=p) (by rw [h];trivial) (.inl rfl) (fun b u ae q=>(u' _ _ (dJ ae)).trans q) ⟨_,e⟩ ?_;exact ⟨aO,its',ew,r,e⟩
noncomputable def L_:V->V->V->aw->(aw->Prop)->Prop:=fun o i v H Q=>fp o fun p=>∃ xs,gV i fun k=>H p=some (.lst xs)/\∃ j,p3 xs.length k=some j/\Q (upd H p (.lst (xs.set j v)))
theorem lF:Tq X L_:=by
 intro ag s σ H o i v fo iq u Q J Wr J7 cV h;obtain ⟨p,rfl,xs,iG⟩:=fp.out h;obtain ⟨k,rfl,ar,j,aJ,q⟩:=gV.out iG;cases Wr;obtain ⟨t,rfl⟩:=J7;obtain ⟨aV,n,r,aT,aO⟩:=J.lst ar;obtain ⟨af,ao,bj,cS⟩:=ON aJ;have aM:=r.length;have aQ:=tf;have gS:Inv X ag σ (upd H p (.lst (xs.set j v))) { s with heap:=s.heap.update p (qZ (·.setIfInBounds j u)) }:=
  J.afw ar aT (afq aV n j u) (r.set cV j) (by rw [MO];exact aO) s.toks
 by_cases h0:0 <= k
 .have au:k.toNat=j:=by
   rw [seqIndex_of h0 cS] at af;exact ei af
  exact PySem.W.ki_setAt aT h0 (by omega) (by rw [d8,<- aM];exact cS) (by rw [au];exact ⟨_,gS,q⟩)
 .have au:(k + (aV.toArray.size:Int)).toNat=j:=by
   rw [seqIndex_neg (by omega) bj] at af;rw [d8,<- aM];exact ei af
  exact PySem.W.ki_setBack aT (by omega) (by rw [d8,<- aM];exact bj) (by omega) (by rw [au];exact ⟨_,gS,q⟩)
theorem adj (lo ah:Option Int) (n:Nat):(sliceBounds lo ah none n).1=((gD.di n 0 lo:Nat):Int)/\(sliceBounds lo ah none n).2.1=((gD.di n n ah:Nat):Int)/\(sliceBounds lo ah none n).2.2=1:=by
 refine ⟨?_,?_,rfl⟩
 .cases lo with
  | none=>simp [sliceBounds,gD.di]
  | some i=>
   simp only [sliceBounds,gD.di,aej,show (1:Int) > 0 by decide,if_true];by_cases h:i < 0
   .simp only [h,if_true] <;> omega
   .simp only [h,if_false] <;> omega
 .cases ah with
  | none=>simp [sliceBounds,gD.di]
  | some i=>
   simp only [sliceBounds,gD.di,aej,show (1:Int) > 0 by decide,if_true];by_cases h:i < 0
   .simp only [h,if_true] <;> omega
   .simp only [h,if_false] <;> omega
theorem acn (aV:List Value) (lo ah:Option Int):slicePick aV.toArray lo ah none=((aV.drop (gD.di aV.length 0 lo)).take (gD.di aV.length aV.length ah - gD.di aV.length 0 lo)).toArray:=by
 obtain ⟨af,ao,bj⟩:=adj lo ah aV.toArray.size;unfold slicePick;rw [af,ao,bj];simp only [sliceRange_one,pick_run,d8] <;> rfl
noncomputable def Iw (K:bk):V->Option Int->Option Int->aw->cX->Prop:=fun x lo ah H Q=>∃ a xs,x=.ref a/\av K H a xs/\∀ p,H p=none->Q (.ref p) (upd H p (.lst (nC xs lo ah)))
theorem Sm:CL X (Iw X.K):=by
 intro ag s σ H x v jW jY lo ah a6 Q J a8 aC pl pu h;obtain ⟨a,xs,rfl,aj,q⟩:=h;cases a8;obtain ⟨aV,r,cT,aO⟩:=J.list aj;have hlen:=r.length;refine ⟨"list",_,slot_list_getitem.lookup,cT.isList.typeIs,?_⟩;refine wpAny_getItem_list_slice cT.isList aC pl pu .none (by simp) ?_ (by rw [d8] <;> omega);rw [acn,<- hlen];refine ⟨.ref s.heap.objs.size,_,J.laid (t':=s.toks) (o:=.lst (nC xs lo ah)) (fun b b' q=>e6 _ q) (b8 _) ?_,rfl,q _ (J.bl.fresh (b8 _))⟩;exact ⟨cP (Qu xs lo ah) aO,_,0,(r.drop (gD.di xs.length 0 lo)).take (gD.di xs.length xs.length ah - gD.di xs.length 0 lo),hs _ rfl⟩
noncomputable def kn:V->Bool
 | .b4=>true
 | .br _=>true
 | .int _=>true
 | .str _=>true
 | _=>false
noncomputable def jf:V->V->Bool
 | .b4,.b4=>true
 | .br a,.br b=>a == b
 | .br a,.int b=>(if a then 1 else 0) == b
 | .int a,.br b=>a == (if b then 1 else 0)
 | .int a,.int b=>a == b
 | .str a,.str b=>a == b
 | _,_=>false
theorem VQ {A:Around} {y x:V} (bx:bM y u) (a8:bM x v) (aiy:kn y=true) (mw:kn x=true):Ib A s u v (jf y x):=by
 cases y with
 | b4=>
  cases bx;cases x with
  | b4=>cases a8;exact Uo _
  | br b=>cases a8;exact SeqAt.EqAt.none_bool b
  | int b=>obtain ⟨t,rfl⟩:=a8;exact SeqAt.EqAt.none_int b t
  | str b=>obtain ⟨t,rfl⟩:=a8;exact SeqAt.EqAt.none_str b t
  | _=>exact absurd (show false=true from mw) eQ
 | br a=>
  cases bx;cases x with
  | b4=>cases a8;exact SeqAt.EqAt.bool_none a
  | br b=>cases a8;exact SeqAt.EqAt.bool_bool a b
  | int b=>obtain ⟨t,rfl⟩:=a8;exact SeqAt.EqAt.bool_int a b t
  | str b=>obtain ⟨t,rfl⟩:=a8;exact SeqAt.EqAt.bool_str a b t
  | _=>exact absurd (show false=true from mw) eQ
 | int a=>
  obtain ⟨t',rfl⟩:=bx;cases x with
  | b4=>cases a8;exact SeqAt.EqAt.int_none a t'
  | br b=>cases a8;exact SeqAt.EqAt.int_bool a t' b
  | int b=>obtain ⟨t,rfl⟩:=a8;exact SeqAt.EqAt.int_int a t' b t
  | str b=>obtain ⟨t,rfl⟩:=a8;exact amI a t' b t
  | _=>exact absurd (show false=true from mw) eQ
 | str a=>
  obtain ⟨t',rfl⟩:=bx;cases x with
  | b4=>cases a8;exact SeqAt.EqAt.str_none a t'
  | br b=>cases a8;exact SeqAt.EqAt.str_bool a t' b
  | int b=>obtain ⟨t,rfl⟩:=a8;exact ajF a t' b t
  | str b=>obtain ⟨t,rfl⟩:=a8;exact SeqAt.EqAt.str_str a t' b t
  | _=>exact absurd (show false=true from mw) eQ
 | _=>exact absurd (show false=true from aiy) eQ
noncomputable def kS (x:V) (u:Value):Bool:=match u with
 | .none=>jf .b4 x
 | .bool b=>jf (.br b) x
 | .int i _=>jf (.int i) x
 | .str z _=>jf (.str z) x
 | _=>false
theorem Q_ {x y:V} (r:bM y u) (f:kn y=true):kS x u=jf y x:=by
 cases y with
 | b4=>cases r;rfl
 | br b=>cases r;rfl
 | int i=>obtain ⟨t,rfl⟩:=r;rfl
 | str z=>obtain ⟨t,rfl⟩:=r;rfl
 | _=>exact absurd (show false=true from f) eQ
theorem xP {x:V}:∀ {xs:List V} {us:List Value},b0 xs us->xs.all kn=true->us.any (kS x)=xs.any fun y=>jf y x
 | _,_,.nil,_=>rfl
 | y :: xs,u :: us,.cons r t,f=>by
  rw [akt,g_] at f;rw [yF,yF,Q_ r f.1,xP t f.2]
theorem wW {A:Around} {x:V} (a8:bM x v) (mw:kn x=true):∀ {xs:List V} {us:List Value},b0 xs us->xs.all kn=true->∀ u ∈ us,Ib A s u v (kS x u)
 | _,_,.nil,_=>fun u bC=>by cases bC
 | y :: xs,u :: us,.cons r t,f=>fun uQ bC=>by
  rw [akt,g_] at f;rcases fx.mp bC with rfl | bC
  .rw [Q_ r f.1];exact VQ r a8 f.1 mw
  .exact wW a8 mw t f.2 uQ bC
noncomputable def qU (x:V) (xs:List V):Bool:=xs.any fun y=>jf y x
noncomputable def y3 (K:bk) (neg:Bool):fb:=fun x y H Q=>∃ p xs,y=.ref p/\(av K H p xs\/cJ K H p xs)/\kn x=true/\xs.all kn=true/\Q (.br (if neg then !qU x xs else qU x xs)) H
theorem AF:hn X (compareOp .In) (y3 X.K false):=by
 intro ag s σ H x y v u Q J a8 bx h;obtain ⟨p,xs,rfl,aU,mw,aX,q⟩:=h;cases bx;rcases aU with aU | aU
 .obtain ⟨aV,r,pl,aO⟩:=J.list aU;refine SeqAt.in_listAt (kS x) pl.isList (fun w hw=>wW a8 mw r aX w (by simpa using hw)) ⟨.br _,H,J,rfl,?_⟩;rw [show aV.toArray.any (kS x)=aV.any (kS x) by simp,xP r aX];exact q
 .obtain ⟨aV,r,pl,aO⟩:=J.tuple aU;refine SeqAt.in_tupleAt (kS x) pl (fun w hw=>wW a8 mw r aX w (by simpa using hw)) ⟨.br _,H,J,rfl,?_⟩;rw [show aV.toArray.any (kS x)=aV.any (kS x) by simp,xP r aX];exact q
theorem CV:hn X (compareOp .NotIn) (y3 X.K true):=by
 intro ag s σ H x y v u Q J a8 bx h;obtain ⟨p,xs,rfl,aU,mw,aX,q⟩:=h;cases bx;rcases aU with aU | aU
 .obtain ⟨aV,r,pl,aO⟩:=J.list aU;refine SeqAt.notIn_listAt (kS x) pl.isList (fun w hw=>wW a8 mw r aX w (by simpa using hw)) ⟨.br _,H,J,rfl,?_⟩;rw [show aV.toArray.any (kS x)=aV.any (kS x) by simp,xP r aX];exact q
 .obtain ⟨aV,r,pl,aO⟩:=J.tuple aU;refine SeqAt.notIn_tupleAt (kS x) pl (fun w hw=>wW a8 mw r aX w (by simpa using hw)) ⟨.br _,H,J,rfl,?_⟩;rw [show aV.toArray.any (kS x)=aV.any (kS x) by simp,xP r aX];exact q
theorem gj:jw X (.builtin "len") (fun xs H Q=>ny xs fun x=>fp x fun p=>∃ ys,(av X.K H p ys\/cJ X.K H p ys)/\Q (.int ys.length) H):=by
 intro ag s σ H xs us Q J r h;obtain ⟨adP,rfl,iG⟩:=ny.out h;obtain ⟨p,rfl,ys,aU,q⟩:=fp.out iG;obtain ⟨u,rfl,a8⟩:=jP r;cases a8;have aQ:=tf;rcases aU with aU | aU
 .obtain ⟨aV,df,pl,aO⟩:=J.list aU;have hlen:=df.length;exact Calls.call_len_list pl.isList (by simp only [d8] <;> omega) ⟨.int ys.length,H,J.tok _,⟨s.toks + 1,by rw [d8,hlen]⟩,q⟩
 .obtain ⟨aV,df,pl,aO⟩:=J.tuple aU;have hlen:=df.length;exact len_tuple pl (by simp only [d8] <;> omega) ⟨.int ys.length,H,J.tok _,⟨s.toks + 1,by rw [d8,hlen]⟩,q⟩
theorem Zm:jw X (.builtin "len") (fun xs H Q=>∃ z,xs=[.str z]/\z.length <= sizeLine/\Q (.int z.length) H):=by
 intro ag s σ H xs us Q J r h;obtain ⟨z,rfl,aO,q⟩:=h;obtain ⟨u,rfl,t,rfl⟩:=jP r;have aQ:=tf;exact len_str (by omega) ⟨.int z.length,H,J.tok _,⟨_,rfl⟩,q⟩
theorem ahJ:jw X (.type "list") (fun xs H Q=>∃ p ys,xs=[.ref p]/\(av X.K H p ys\/cJ X.K H p ys)/\∀ l,H l=none->Q (.ref l) (upd H l (.lst ys))):=by
 intro ag s σ H xs us Q J r h;obtain ⟨p,ys,rfl,aU,q⟩:=h;obtain ⟨u,rfl,a8⟩:=jP r;cases a8;have fin:∀ (aV:List Value),b0 ys aV->ys.length <= sizeLine->∀ (h':Heap) (c':Nat),(∀ b ea,s.heap.get? b=some ea->h'.get? b=some ea) ->
   h'.get? s.heap.objs.size=some { cls:=.type "list",dict:=none,data:=.seq aV.toArray c',slots:=#[] }->g0 X ag σ Q (.ref s.heap.objs.size) { s with heap:=h' }:=fun aV df aO h' c' bG e=>
  ⟨.ref s.heap.objs.size,_,J.laid (t':=s.toks) bG (b8 _) (show dT X.prog X.w _ h' _ (.lst ys) from ⟨aO,aV,c',df,e⟩),rfl,q _ (J.bl.fresh (b8 _))⟩
 rcases aU with aU | aU
 .obtain ⟨aV,df,pl,aO⟩:=J.list aU;have hlen:=df.length;obtain ⟨o,aT,aA,n,hd⟩:=pl.isList;exact call_list_seq p (.inl rfl) aT aA hd (fun h' c' bG e=>fin aV df aO h' c' bG e) (by simp only [d8] <;> omega)
 .obtain ⟨aV,df,pl,aO⟩:=J.tuple aU;have hlen:=df.length;obtain ⟨o,aT,aA,n,hd⟩:=pl;exact call_list_seq p (.inr rfl) aT aA hd (fun h' c' bG e=>fin aV df aO h' c' bG e) (by simp only [d8] <;> omega)
def Cz (K:bk) (T:String) (x:V) (H:aw):Prop:=match x with
 | .str _=>T = "str"
 | .int _=>T = "int"
 | .ref p=>(T = "list" /\ ∃ xs,av K H p xs)\/(T = "tuple" /\ ∃ o,K.lookup p=some o/\o.cls=.type "tuple" /\ o.dict=none) \/
   (T = "dict" /\ ((∃ kvs,H p=some (.bu kvs))\/∃ kvs,H p=some (.gc kvs)))\/(T = "set" /\ ∃ S n,H p=some (.set S n))
 | _=>False
theorem SH {x:V} (J:Inv X ag σ H s) (r:bM x v) (ty:Cz X.K T x H) :
  s.TypeIs v T/\∀ a,v=.ref a->∃ b',s.heap.get? a=some b'/\b'.dict=none:=by
 cases x with
 | str z=>
  obtain ⟨t,rfl⟩:=r;cases (show T = "str" from ty);exact ⟨typeIs_str s z t,fun _ e=>nomatch e⟩
 | int i=>
  obtain ⟨t,rfl⟩:=r;cases (show T = "int" from ty);exact ⟨typeIs_int s i t,fun _ e=>nomatch e⟩
 | ref p=>
  cases r;rcases ty with ⟨rfl,xs,aU⟩ | ⟨rfl,o,au,aA,hd⟩ | ⟨rfl,au⟩ | ⟨rfl,S,n,au⟩
  .obtain ⟨aV,_,pl,_⟩:=J.list aU;refine ⟨pl.isList.typeIs,fun a e=>?_⟩;cases e;obtain ⟨o,n,e,c,hd,_⟩:=pl;exact ⟨o,e,hd⟩
  .refine ⟨⟨o,J.gC p o au,aA⟩,fun a e=>?_⟩;cases e;exact ⟨o,J.gC _ o au,hd⟩
  .have z:∃ o,s.heap.get? p=some o/\o.ExactDict:=by
    rcases au with ⟨kvs,au⟩ | ⟨kvs,au⟩
    .obtain ⟨_,_,_,_,o,_,_,e,ex,_⟩:=J.bl p _ au;exact ⟨o,e,ex⟩
    .obtain ⟨_,_,_,_,o,_,_,e,ex,_⟩:=J.bl p _ au;exact ⟨o,e,ex⟩
   obtain ⟨o,e,ex⟩:=z;refine ⟨⟨o,e,ex.1⟩,fun a aK=>?_⟩;cases aK;exact ⟨o,e,ex.2.1⟩
  .obtain ⟨o,_,_,_,e,ex,_⟩:=J.bl p _ au;refine ⟨⟨o,e,ex.1⟩,fun a aK=>?_⟩;cases aK;exact ⟨o,e,ex.2.1⟩
 | _=>exact jq ty
noncomputable def G4 (K:bk) (T:String) (r:V->List V->aw->cX->Prop) (to:TE):TE:=fun σ H Q=>to σ H fun x H1=>Cz K T x H1/\r x [] H1 Q
noncomputable def D4 (K:bk) (T:String) (r:V->List V->aw->cX->Prop) (to:TE) (t:gw):TE:=fun σ H Q=>to σ H fun x H1=>Cz K T x H1/\t σ H1 fun xs aB=>r x xs aB Q
variable {o e:Expr} {ba:List Expr} {to:TE} {t:gw} {name:Str} {gi iu:Pos} {T id:String} {r:V->List V->aw->cX->Prop}
theorem ak' (jU:PlainAttrs T) (slot:Slot T name id) (Ir:typeOf (.builtin id)=pure (.type "method_descriptor")) (hm:uI X id r) (aT:bD X o to)
  (LY:attributeBase o name X.env (eval o X.env)=eval o X.env:=by rfl) (Ip:(gi.endLine == iu.line)=true:=by rfl):bD X (.Call (.Attribute o name gi) [] [] iu) (G4 X.K T r to):=by
 intro ag s σ H Q J h;refine wpAny_Call_method0_late LY Ip (bQ (aT ag s σ H _ J h) fun v s1 c2=>?_);obtain ⟨x,H1,a_,cQ,ty,bR⟩:=c2;obtain ⟨af,ao⟩:=SH a_ cQ ty;exact ⟨T,id,jU,slot,Ir,af,ao,RM rfl (PySem.evalArgs_none (hm ag s1 σ H1 x [] v [] Q a_ cQ .nil bR))⟩
theorem gk (jU:PlainAttrs T) (slot:Slot T name id) (Ir:typeOf (.builtin id)=pure (.type "method_descriptor")) (hm:uI X id r) (aT:bD X o to) (aR:kJ X (e :: ba) t)
  (LY:attributeBase o name X.env (eval o X.env)=eval o X.env:=by rfl)
  (adx:((backTo iu (starEach (e :: ba) X.env)).all (fun x=>!x.1) && (backToKw iu (keywordEach [] X.env)).all (fun x=>x.1.isSome)
   && decide ((e :: ba).length + ([]:List Keyword).length + (if ([]:List Keyword).isEmpty then 0 else 1) < 30))=true:=by rfl)
  (Ip:(gi.endLine == iu.line)=true:=by rfl) (aC:starEach (e :: ba) X.env=(false,eval e X.env) :: starEach ba X.env:=by rfl) (hplain:(backTo iu (starEach ba X.env)).any (·.1)=false:=by rfl) :
  bD X (.Call (.Attribute o name gi) (e :: ba) [] iu) (D4 X.K T r to t):=by
 intro ag s σ H Q J h;refine wpAny_Call_method_late LY adx Ip rfl (bQ (aT ag s σ H _ J h) fun v s1 c2=>?_);obtain ⟨x,H1,a_,cQ,ty,bR⟩:=c2;obtain ⟨af,ao⟩:=SH a_ cQ ty;refine ⟨T,id,jU,slot,Ir,af,ao,?_⟩;have j0:=aR iu ag s1 σ H1 _ a_ bR;rw [aC] at j0 ⊢;refine RM (by show (false || (backTo iu (starEach ba X.env)).any (·.1))=false;rw [hplain] <;> rfl) (agH ?_);exact bQ j0 fun us s2 ⟨vs,aB,b3,gz,dS⟩=>hm ag s2 σ aB x vs v us Q b3 cQ gz dS
end
def II (X:bg) (id:String) (r:V->List V->aw->cX->Prop):Prop:=
 ∀ (ag:List (Addr × Obj)) (s:Shared) (σ:St) (H:aw) (x:V) (xs:List V) (v:Value) (us:List Value) (Q:cX),Inv X ag σ H s->bM x v->b0 xs us->r x xs H Q ->
  wpAny (model X.prog X.w) X.A (call (.builtin id) (v :: us)) (g0 X ag σ Q) X.d4 s
theorem b0.one:∀ {x:V} {us:List Value},b0 [x] us->∃ u,us=[u]/\bM x u
 | _,_,.cons r .nil=>⟨_,rfl,r⟩
theorem b0.two:∀ {x y:V} {us:List Value},b0 [x,y] us->∃ u v,us=[u,v]/\bM x u/\bM y v
 | _,_,_,.cons r (.cons q .nil)=>⟨_,_,rfl,r,q⟩
theorem b0.zero:∀ {us:List Value},b0 [] us->us=[]
 | _,.nil=>rfl
theorem b0.reverse (h:b0 xs us):b0 xs.reverse us.reverse:=by
 induction h with
 | nil=>exact .nil
 | cons r t cE=>rw [amB,amB];exact b0.append cE (.cons r .nil)
theorem b0.rep (h:b0 xs us):∀ k:Nat,b0 (kC k xs).flatten (kC k us).flatten
 | 0=>.nil
 | k + 1=>by
  rw [yK,yK,oy,oy];exact b0.append h (b0.rep h k)
theorem S5 (aV:List Value):∀ (k:Nat) (acc:List Value),
  M_ (fun cq d9=>cq ++ d9) acc.toArray (kC k aV.toArray)=(acc ++ (kC k aV).flatten).toArray
 | 0,acc=>by simp
 | k + 1,acc=>by
  have e:acc.toArray ++ aV.toArray=(acc ++ aV).toArray:=by simp
  have aK:(acc ++ aV) ++ (kC k aV).flatten=acc ++ (kC (k + 1) aV).flatten:=by
   rw [yK,oy,oC]
  rw [<- aK,<- S5 aV k (acc ++ aV),<- e,yK,acA]
section
variable {X:bg} {ag:List (Addr × Obj)} {σ:St} {H:aw} {s:Shared} {l b:Addr} {xs ys zs:List V}
theorem Inv.Eg {aV its':List Value} (J:Inv X ag σ H s) (jJ:H l=some (.lst xs))
  (e:s.heap.get? l=some { cls:=.type "list",data:=.seq aV.toArray n }) (hf:f aV.toArray=its'.toArray) (aI:b0 ys its') (aO:ys.length <= sizeLine) :
  Inv X ag σ (upd H l (.lst ys)) { s with heap:=s.heap.update l (qZ f),toks:=t' }:=by
 have q:=PySem.IsL.update e f;rw [hf] at q;refine J.write (x:=l) (e:=l) (by rw [jJ];exact trivial) (.inl rfl) (fun hX u ae bC=>(u' s.heap (qZ f) (dJ ae)).trans bC) ⟨_,q⟩ ?_;exact ⟨aO,its',_,aI,q⟩
theorem Inv.QD {aV:List Value} (J:Inv X ag σ H s) (aI:b0 ys aV) (aO:ys.length <= sizeLine) :
  Inv X ag σ (upd H s.heap.objs.size (.lst ys)) { s with heap:=s.heap.push { cls:=.type "list",data:=.seq aV.toArray },toks:=t' }:=
 J.laid (fun _ _ q=>e6 _ q) (b8 _) ⟨aO,aV,0,aI,hs _ rfl⟩
theorem Inv.fresh (J:Inv X ag σ H s):H s.heap.objs.size=none:=J.bl.fresh (b8 _)
theorem Inv.tg (J:Inv X ag σ H s) (jJ:H l=some (.lst xs)):xs.length <= sizeLine/\∃ (aV:List Value) (n:Nat),b0 xs aV/\xs.length=aV.length/\s.heap.get? l=some { cls:=.type "list",data:=.seq aV.toArray n }:=by
 obtain ⟨z,aV,n,r,e⟩:=J.bl l _ jJ;exact ⟨z,aV,n,r,r.length,e⟩
theorem Wn (h:n <= sizeLine):Jy n=false:=by
 unfold Jy;exact decide_eq_false (by omega)
end
section
variable {X:bg}
noncomputable def FP:V->List V->aw->cX->Prop:=fun x vs H Q=>fp x fun l=>ny vs fun y=>∃ xs,H l=some (.lst xs)/\xs.length < sizeLine/\Q .b4 (upd H l (.lst (xs ++ [y])))
theorem ks:II X "list.append" FP:=by
 intro ag s σ H x vs v us Q J a8 cV h;obtain ⟨l,rfl,iG⟩:=fp.out h;obtain ⟨y,rfl,xs,jJ,aO,q⟩:=ny.out iG;cases a8;obtain ⟨u,rfl,fB⟩:=cV.one;obtain ⟨z,aV,n,r,aM,e⟩:=J.tg jJ;refine call_meets kr ⟨_,e,rfl⟩ F.entry_list_append (F.args_list_append_2 _ _) (PySem.list_append l aV.toArray n u (by rw [d8];omega)) ⟨e,?_⟩;refine ⟨.b4,_,J.Eg (its':=aV ++ [u]) jJ e (by simp) (r.append (.cons fB .nil)) ?_,rfl,q⟩;rw [dZ,I6];omega
noncomputable def G8:V->List V->aw->cX->Prop:=fun x vs H Q=>∃ l b xs zs,x=.ref l/\vs=[.ref b]/\H l=some (.lst xs)/\H b=some (.lst zs)/\xs.length + zs.length <= sizeLine/\Q .b4 (upd H l (.lst (xs ++ zs)))
theorem D':II X "list.extend" G8:=by
 intro ag s σ H x vs v us Q J a8 cV h;obtain ⟨l,b,xs,zs,rfl,rfl,jJ,i5,aO,q⟩:=h;cases a8;obtain ⟨u,rfl,fB⟩:=cV.one;cases fB;obtain ⟨z,aV,n,r,aM,e⟩:=J.tg jJ;obtain ⟨fj,sU,cD,gz,QA,aK⟩:=J.tg i5;have hsz:aV.toArray.size + sU.toArray.size <= sizeLine:=by rw [d8,d8];omega
 have GJ:¬ (!aV.toArray.isEmpty && Jy (aV.toArray.size + sU.toArray.size))=true:=by
  rw [Wn hsz,Xv];exact eQ
 refine call_meets F9 ⟨_,e,rfl⟩ F.entry_list_extend (F.args_list_extend_2 _ _)
  (AutoSeq1.list_extend_list_list_0 l aV.toArray n b sU.toArray cD GJ (by rw [d8];omega) (by omega)) ⟨e,aK,?_⟩
 refine ⟨.b4,_,J.Eg (its':=aV ++ sU) jJ e (by simp) (r.append gz) ?_,rfl,q⟩;rw [dZ];omega
noncomputable def JK:fb:=fun x y H Q=>∃ l b xs zs,x=.ref l/\y=.ref b/\H l=some (.lst xs)/\H b=some (.lst zs)/\xs.length + zs.length <= sizeLine/\∀ p,H p=none->Q (.ref p) (upd H p (.lst (xs ++ zs)))
theorem Y0:hn X (binaryOp .Add) JK:=by
 intro ag s σ H x y v u Q J a8 bx h;obtain ⟨l,b,xs,zs,rfl,rfl,jJ,i5,aO,q⟩:=h;cases a8;cases bx;obtain ⟨z,aV,n,r,aM,e⟩:=J.tg jJ;obtain ⟨fj,sU,cD,gz,QA,aK⟩:=J.tg i5;refine PySem.P.add_list e aK ?_ (by rw [d8,d8];omega);have e4:aV.toArray ++ sU.toArray=(aV ++ sU).toArray:=by simp
 rw [e4];exact ⟨.ref _,_,J.QD (t':=s.toks) (r.append gz) (by rw [dZ];omega),rfl,q _ J.fresh⟩
noncomputable def Rw:fb:=fun x y H Q=>∃ l k xs,x=.ref l/\y=.int k/\H l=some (.lst xs)/\-(2 ^ 63) <= k/\k < 2 ^ 63/\xs.length * k.toNat <= sizeLine /\
 ∀ p,H p=none->Q (.ref p) (upd H p (.lst (kC k.toNat xs).flatten))
theorem aia (xs:List α) (k:Nat):(kC k xs).flatten.length=k * xs.length:=by
 induction k with
 | zero=>simp
 | succ k cE=>rw [yK,oy,dZ,cE,Gp,Nat.add_comm]
theorem YV:hn X (binaryOp .Mult) Rw:=by
 intro ag s σ H x y v u Q J a8 bx h;obtain ⟨l,k,xs,rfl,rfl,jJ,af,ao,aO,q⟩:=h;cases a8;obtain ⟨t,rfl⟩:=bx;obtain ⟨z,aV,n,r,aM,e⟩:=J.tg jJ;have hlen:aV.toArray.size * k.toNat <= sizeLine:=by rw [d8,<- aM];exact aO
 have akx:¬ aV.toArray.size * k.toNat > (2 ^ 63 - 1) / 8:=by
  have:(sizeLine:Nat) <= (2 ^ 63 - 1) / 8:=by decide
  omega
 have aeG:¬ (!Builtin.List.listFitsIndex k)=true:=by
  rw [fitsIndex_both af ao];exact eQ
 have GJ:¬ Jy (aV.toArray.size * k.toNat)=true:=by
  rw [Wn hlen];exact eQ
 have wB:M_ (fun cq d9=>cq ++ d9) #[] (kC (if aV.toArray.isEmpty=true then 0 else k.toNat) aV.toArray)=(kC k.toNat aV).flatten.toArray:=by
  have f0:∀ m:Nat,M_ (fun cq d9=>cq ++ d9) #[] (kC m aV.toArray)=(kC m aV).flatten.toArray:=fun m=>by
   have:=S5 aV m [];rw [C8] at this;exact this
  rw [f0];cases aV with
  | nil=>simp
  | cons a df=>rw [if_neg (by simp)]
 refine wpAny_binaryOp_repeat_ref (T := "list") (U := "int") (by decide) ⟨_,e,rfl⟩ (fun ai=>typeIs_int ai k t) noFill_list_mul F.fills_int_mul agL repeat_list F.slot_int_index.lookup
  (call_meets agL (typeIs_int s k t) F.entry_int_rmul (F.args_int_rmul_2 _ _) (int___rmul___int_list k t l aV.toArray n)
   ⟨e,rfl,⟨_,e,rfl⟩,call_meets F.slot_list_mul ⟨_,e,rfl⟩ F.entry_list_mul (F.args_list_mul_2 _ _) (AutoListH.list___mul___list_int_3 l aV.toArray n k t aeG akx GJ) ⟨e,?_⟩⟩)
 rw [wB];exact ⟨.ref _,_,J.QD (t':=s.toks) (r.rep k.toNat) (by rw [aia,Nat.mul_comm];exact aO),rfl,q _ J.fresh⟩
end
section
variable {prog:Program} {w:World} {A:Around} {E:Value->Shared->Prop} {s:Shared}
end
section
variable {X:bg}
end
section
variable {eN:Type} [DecidableEq eN]
noncomputable def cR (kvs:List (eN × V)) (k:eN):Option V:=(kvs.find? fun dm=>decide (dm.1=k)).map (·.2)
noncomputable def eg (kvs:List (eN × V)) (k:eN) (v:V):List (eN × V):=
 if (kvs.any fun dm=>decide (dm.1=k))=true then kvs.map (fun dm=>if dm.1=k then (dm.1,v) else dm) else kvs ++ [(k,v)]
noncomputable def oN (kvs:List (eN × V)) (k:eN):List (eN × V):=kvs.filter fun dm=>decide (dm.1 ≠ k)
theorem om {p:eN × V} {k:eN} (e:p.1=k):cR (p :: r) k=some p.2:=by simp [cR,sj,e]
theorem nS {p:eN × V} {k:eN} (e:¬ p.1=k):cR (p :: r) k=cR r k:=by simp [cR,sj,e]
theorem xY (k:eN):∀ kvs:List (eN × V),(kvs.any fun dm=>decide (dm.1=k))=(cR kvs k).isSome
 | []=>rfl
 | p :: r=>by
  rw [yF];by_cases e:p.1=k
  .simp only [om e,decide_eq_true e,pY,Option.isSome_some]
  .rw [nS e,decide_eq_false e,lr];exact xY k r
theorem Pd (k j:eN) (y:V):∀ kvs:List (eN × V),cR (kvs.map fun dm=>if dm.1=k then (dm.1,y) else dm) j=(cR kvs j).map fun x=>if j=k then y else x
 | []=>rfl
 | p :: r=>by
  have cE:=Pd k j y r;rw [e1];by_cases h:p.1=k
  .rw [if_pos h];by_cases e:p.1=j
   .rw [om (p:=(p.1,y)) e,om e,zc,if_pos (e.symm.trans h)]
   .rw [nS (p:=(p.1,y)) e,nS e,cE]
  .rw [if_neg h];by_cases e:p.1=j
   .rw [om (p:=p) e,om e,zc,if_neg (fun z=>h (e.trans z))]
   .rw [nS (p:=p) e,nS e,cE]
theorem Mh (k j:eN) (y:V):∀ kvs:List (eN × V),cR kvs k=none->cR (kvs ++ [(k,y)]) j=if j=k then some y else cR kvs j
 | [],_=>by
  by_cases e:k=j
  .rw [if_pos e.symm];exact om (p:=(k,y)) e
  .rw [if_neg (fun z=>e z.symm)];exact nS (p:=(k,y)) e
 | p :: r,aQ=>by
  rw [A8];have au:¬ p.1=k:=fun z=>by rw [om z] at aQ;cases aQ
  rw [nS au] at aQ;have cE:=Mh k j y r aQ;by_cases e:p.1=j
  .rw [om e,om e,if_neg (fun z=>au (e.trans z))]
  .rw [nS e,nS e,cE]
theorem Rt (kvs:List (eN × V)) (k j:eN) (y:V):cR (eg kvs k y) j=if j=k then some y else cR kvs j:=by
 unfold eg;by_cases a:(kvs.any fun dm=>decide (dm.1=k))=true
 .rw [if_pos a,Pd];rw [xY] at a;by_cases e:j=k
  .obtain ⟨x,aj⟩:=alP.mp a;rw [if_pos e,e,aj,zc,if_pos rfl]
  .rw [if_neg e];cases cR kvs j with
   | none=>rfl
   | some x=>rw [zc,if_neg e]
 .rw [if_neg a];refine Mh k j y kvs ?_;rw [xY] at a;cases q:cR kvs k with
  | none=>rfl
  | some x=>rw [q] at a;exact (a rfl).elim
theorem Il (kvs:List (eN × V)) (k:eN) (v:V):(eg kvs k v).length <= kvs.length + 1:=by
 unfold eg;split
 .rw [aP];omega
 .rw [dZ,gP,yz];omega
theorem J3 {k:eN} (v:V) (h:cR kvs k=none):eg kvs k v=kvs ++ [(k,v)]:=by
 unfold eg;rw [xY,h];exact if_neg (by decide)
theorem iw.xc (r:iw o u):o.isSome=u.isSome:=by
 cases o with
 | none=>cases u with
  | none=>rfl
  | some _=>exact (show False from r).elim
 | some _=>cases u with
  | none=>exact (show False from r).elim
  | some _=>rfl
theorem iw.getD (r:iw o u) (lO:bM d d'):bM (o.getD d) (u.getD d'):=by
 cases o with
 | none=>cases u with
  | none=>exact lO
  | some _=>exact (show False from r).elim
 | some _=>cases u with
  | none=>exact (show False from r).elim
  | some _=>exact r
theorem eZ.val (r:eZ kvs vs) (k:eN):iw (cR kvs k) (valueAt vs k):=by
 unfold eZ at r
 induction r with
 | nil=>exact jz
 | @cons p q ps qs h t cE=>
  obtain ⟨af,ao⟩:=h;by_cases e:p.1=k
  .have bF:q.1=k:=af.symm.trans e;have b:valueAt (q :: qs) k=some q.2:=by simp [valueAt,sj,bF]
   rw [om e,b];exact ao
  .have bF:¬ q.1=k:=fun z=>e (af.trans z)
   have b:valueAt (q :: qs) k=valueAt qs k:=by simp [valueAt,sj,bF]
   rw [nS e,b];exact cE
theorem eZ.any (r:eZ kvs vs) (k:eN):(kvs.any fun dm=>decide (dm.1=k))=vs.any fun dm=>decide (dm.1=k):=by
 unfold eZ at r
 induction r with
 | nil=>rfl
 | cons h t cE=>rw [yF,yF,cE,h.1]
theorem eZ.HK (r:eZ kvs vs) (k:eN) (bx:bM y u) :
  eZ (kvs.map fun dm=>if dm.1=k then (dm.1,y) else dm) (vs.map fun dm=>if dm.1=k then (dm.1,u) else dm):=by
 unfold eZ at r ⊢
 induction r with
 | nil=>exact .nil
 | @cons p q ps qs h t cE=>
  rw [e1,e1];refine .cons ?_ cE;obtain ⟨af,ao⟩:=h;by_cases e:p.1=k
  .rw [if_pos e,if_pos (af.symm.trans e)];exact ⟨af,bx⟩
  .rw [if_neg e,if_neg (fun z=>e (af.trans z))];exact ⟨af,ao⟩
theorem eZ.put (r:eZ kvs vs) (k:eN) (bx:bM y u):eZ (eg kvs k y) (stored vs k u):=by
 unfold eg stored;rw [r.any k];by_cases e:(vs.any fun dm=>decide (dm.1=k))=true
 .rw [if_pos e,if_pos e];exact r.HK k bx
 .rw [if_neg e,if_neg e];exact RP r ⟨rfl,bx⟩
theorem eZ.drop (r:eZ kvs vs) (k:eN):eZ (oN kvs k) (without vs k):=by
 unfold eZ at r ⊢;unfold oN without
 induction r with
 | nil=>exact .nil
 | @cons p q ps qs h t cE=>
  obtain ⟨af,ao⟩:=h;rw [WR,WR];by_cases e:p.1=k
  .have a:¬ decide (p.1 ≠ k)=true:=by simp [e]
   have b:¬ decide (q.1 ≠ k)=true:=by simp [af.symm.trans e]
   rw [if_neg a,if_neg b];exact cE
  .have bF:¬ q.1=k:=fun z=>e (af.trans z)
   have a:decide (p.1 ≠ k)=true:=by simp [e]
   have b:decide (q.1 ≠ k)=true:=by simp [bF]
   rw [if_pos a,if_pos b];exact .cons ⟨af,ao⟩ cE
theorem eZ.keys {kvs:List (eN × V)} {vs:List (eN × Value)} (r:eZ kvs vs):kvs.map (·.1)=vs.map (·.1):=by
 unfold eZ at r
 induction r with
 | nil=>rfl
 | cons h t cE=>rw [e1,e1,cE,h.1]
theorem eZ.length (r:eZ kvs vs):kvs.length=vs.length:=JW r
theorem ahz (kvs:List (eN × V)) (k:eN):(oN kvs k).length <= kvs.length:=yk _ _
end
theorem rp {w:World} {k:Key} (r:bM (dk k) u):(hG P w).is k u=true:=by
 cases k with
 | inl i=>obtain ⟨t,e⟩:=(show ∃ t,u=ox i t from r);subst e;exact adU P w i t
 | inr x=>obtain ⟨t,e⟩:=(show ∃ t,u=r6 x t from r);subst e;exact ag_ P w x t
theorem Qi {w:World}:∀ {cw:List Key} {us:List Value},b0 (cw.map dk) us->ItemsAre (hG P w) cw us
 | [],_,r=>by rw [qu] at r;cases r;exact .nil
 | k :: cw,_,r=>by
  rw [e1] at r;cases r with
  | cons h t=>exact .cons (rp h) (Qi t)
noncomputable abbrev KT (H:aw):List (List Key × V)->List (List Key × Addr × Value)->Prop:=Paired fun p q=>p.1=q.1/\H q.2.1=some (.tup (p.1.map dk))/\bM p.2 q.2.2
theorem KT.val (r:KT H kvs xs) (k:List Key):iw (cR kvs k) ((atKey xs k).map (·.2)):=by
 induction r with
 | nil=>exact jz
 | @cons p q ps qs h t cE=>
  obtain ⟨af,_,ao⟩:=h;by_cases e:p.1=k
  .have bF:q.1=k:=af.symm.trans e;have b:atKey (q :: qs) k=some q.2:=by simp [atKey,sj,bF]
   rw [om e,b];exact ao
  .have bF:¬ q.1=k:=fun z=>e (af.trans z)
   have b:atKey (q :: qs) k=atKey qs k:=by simp [atKey,sj,bF]
   rw [nS e,b];exact cE
theorem KT.HK (r:KT H kvs xs) (k:List Key) (bx:bM y u) :
  KT H (kvs.map fun dm=>if dm.1=k then (dm.1,y) else dm) (xs.map (putAt k u)):=by
 induction r with
 | nil=>exact .nil
 | @cons p q ps qs h t cE=>
  rw [e1,e1];refine .cons ?_ cE;obtain ⟨af,ao,bj⟩:=h;unfold putAt;by_cases e:p.1=k
  .rw [if_pos e,if_pos (af.symm.trans e)];exact ⟨af,ao,bx⟩
  .rw [if_neg e,if_neg (fun z=>e (af.trans z))];exact ⟨af,ao,bj⟩
theorem KT.put (r:KT H kvs xs) (k:List Key) (ae:H b=some (.tup (k.map dk))) (bx:bM y u) :
  KT H (eg kvs k y) (storedH xs k b u):=by
 have e:(kvs.any fun dm=>decide (dm.1=k))=(atKey xs k).isSome:=by
  rw [xY,(r.val k).xc,J0]
 unfold eg storedH;rw [e];by_cases q:(atKey xs k).isSome=true
 .rw [if_pos q,if_pos q];exact r.HK k bx
 .rw [if_neg q,if_neg q];exact RP r ⟨rfl,ae,bx⟩
theorem KT.keeps (r:KT H kvs xs) (cT:∀ b ys,H b=some (.tup ys)->I b=some (.tup ys)):KT I kvs xs:=
 Paired.qK r fun _ _ z=>⟨z.1,cT _ _ z.2.1,z.2.2⟩
section
variable {P:Program} {w:World} {H:aw} {h:Heap} {a:Addr}
theorem UD (ok:eA P w H h) (e:j' H a u):dT P w H h a u:=e.ok ok
theorem r9 (ok:eA P w H h) (e:j' H a (.bu kvs)):kvs.length <= sizeLine/\(a == sysModules)=false/\∃ vs,eZ kvs vs/\h.DictOf (hG P w) a vs:=
 show dT P w H h a (.bu kvs) from UD ok e
theorem sG (ok:eA P w H h) (e:H a=some (.bu kvs)):kvs.length <= sizeLine/\(a == sysModules)=false/\∃ vs,eZ kvs vs/\h.DictOf (hG P w) a vs:=r9 ok (.inl e)
theorem tJ {cw:List Key} (ok:eA P w H h) (e:H a=some (.tup (cw.map dk))):(tupleKind (hG P w)).is h cw a:=by
 obtain ⟨_,aV,r,o,af,ao,n,bj⟩:=(show dT P w H h a (.tup (cw.map dk)) from ok a _ e);exact ⟨o,aV.toArray,n,af,ao,bj,by simpa using Qi r⟩
theorem uE (ok:eA P w H h) (e:j' H a (.gc kvs)):kvs.length <= sizeLine/\(a == sysModules)=false /\
  ∃ xs,KT H kvs xs/\h.DictOfH (tupleKind (hG P w)) a xs:=by
 obtain ⟨z,y,xs,r,o,ba,ep,af,ao,bj,cS,e'⟩:=(show dT P w H h a (.gc kvs) from UD ok e);refine ⟨z,y,xs,r,o,ba,ep,af,ao,bj,cS,fun x aj=>?_,e'⟩;have all:∀ {l:List (List Key × V)} {m:List (List Key × Addr × Value)},KT H l m->∀ x ∈ m,(tupleKind (hG P w)).is h x.1 x.2.1:=by
  intro l m q
  induction q with
  | nil=>intro x aj;exact nomatch aj
  | @cons p q ps qs aU t cE=>
   intro x aj;rcases fx.mp aj with e | aj
   .subst e;exact tJ ok (by rw [<- aU.1];exact aU.2.1)
   .exact cE x aj
 exact all r x aj
theorem To (ok:eA P w H h) (e:H a=some (.gc kvs)):kvs.length <= sizeLine/\(a == sysModules)=false /\
  ∃ xs,KT H kvs xs/\h.DictOfH (tupleKind (hG P w)) a xs:=uE ok (.inl e)
end
def gM (H:aw) (a:Addr) (y:V) (r:Option V):Prop:=
 (∃ kvs k,j' H a (.bu kvs)/\y=dk k/\r=cR kvs k)\/∃ kvs k b,j' H a (.gc kvs)/\y=.ref b/\H b=some (.tup (k.map dk))/\r=cR kvs k
def ly (H:aw) (a:Addr) (y v:V) (I:aw):Prop:=
 (∃ kvs k,H a=some (.bu kvs)/\y=dk k/\kvs.length < sizeLine/\I=upd H a (.bu (eg kvs k v))) \/
 ∃ kvs k b,H a=some (.gc kvs)/\y=.ref b/\H b=some (.tup (k.map dk))/\kvs.length < sizeLine/\I=upd H a (.gc (eg kvs k v))
theorem gM.k {k:Key} (e:H a=some (.bu kvs)):gM H a (dk k) (cR kvs k):=.inl ⟨kvs,k,.inl e,rfl,rfl⟩
theorem gM.t {k:List Key} (e:H a=some (.gc kvs)) (fh:H b=some (.tup (k.map dk))):gM H a (.ref b) (cR kvs k):=.inr ⟨kvs,k,b,.inl e,rfl,fh,rfl⟩
theorem ly.k {k:Key} (e:H a=some (.bu kvs)) (aM:kvs.length < sizeLine):ly H a (dk k) v (upd H a (.bu (eg kvs k v))):=.inl ⟨kvs,k,e,rfl,aM,rfl⟩
theorem ly.t {k:List Key} (e:H a=some (.gc kvs)) (fh:H b=some (.tup (k.map dk))) (aM:kvs.length < sizeLine) :
  ly H a (.ref b) v (upd H a (.gc (eg kvs k v))):=.inr ⟨kvs,k,b,e,rfl,fh,aM,rfl⟩
section
variable {X:bg} {ag:List (Addr × Obj)} {σ:St} {H:aw} {s:Shared} {a:Addr} {y v:V} {u r:Value} {o:Option V} {A:Around} {E:Value->Shared->Prop}
theorem Inv.big (J:Inv X ag σ H s):sysModules < s.heap.objs.size:=by
 have h:mainGlobals < s.heap.objs.size:=(J.mod.glob.keeps J.cM).lt;exact NQ (by decide) h
theorem ae3 (bC:A.units + 1 < cLine) (J:Inv X ag σ H s) (g:gM H a y (some v)) (bx:bM y u) (h:∀ fs ai,Inv X ag σ H ai->bM v fs->Q fs ai) :
  wpAny (model X.prog X.w) A (getItem (.ref a) u) Q E s:=by
 rcases g with ⟨kvs,k,e,iP,l⟩ | ⟨kvs,k,b,e,iP,fh,l⟩
 .subst iP;obtain ⟨z,hd,vs,rel,c8⟩:=r9 J.bl e;obtain ⟨fs,hw,iD⟩:=iw.some_of (v:=v) (o:=valueAt vs k) (by rw [l];exact rel.val k);exact wpAny_getItem_of (rp bx) c8.mapOf hw (h fs _ (J.tok _) iD)
 .subst iP;cases (show u=eL b from bx);obtain ⟨z,hd,xs,rel,c8⟩:=uE J.bl e;obtain ⟨fs,hw,iD⟩:=iw.some_of (v:=v) (o:=(atKey xs k).map (·.2)) (by rw [l];exact rel.val k);obtain ⟨p,ar,fU⟩:=tU.mp hw;refine wpAny_getItem_heap (tupleKind_room_in1 bC) (tJ J.bl fh) c8 ar ?_;rw [fU];exact h fs _ (J.tok _) iD
theorem ag2 (bC:A.units + 1 < cLine) (J:Inv X ag σ H s) (g:gM H a y o) (bx:bM y u) (h:∀ ai,Inv X ag σ H ai->Q (.bool o.isSome) ai) :
  wpAny (model X.prog X.w) A (compareOp .In u (.ref a)) Q E s:=by
 rcases g with ⟨kvs,k,e,iP,l⟩ | ⟨kvs,k,b,e,iP,fh,l⟩
 .subst iP;obtain ⟨z,hd,vs,rel,c8⟩:=r9 J.bl e;refine wpAny_in_of (rp bx) hd c8.mapOf ?_;rw [<- (rel.val k).xc,<- l];exact h _ (J.tok _)
 .subst iP;cases (show u=eL b from bx);obtain ⟨z,hd,xs,rel,c8⟩:=uE J.bl e;refine wpAny_in_heap (tupleKind_room_in1 bC) (tJ J.bl fh) hd c8 ?_;have q:=(rel.val k).xc;rw [J0] at q;rw [<- q,<- l];exact h _ (J.tok _)
theorem akK (bC:A.units + 1 < cLine) (J:Inv X ag σ H s) (g:gM H a y o) (bx:bM y u) (h:∀ ai,Inv X ag σ H ai->Q (.bool (!o.isSome)) ai) :
  wpAny (model X.prog X.w) A (compareOp .NotIn u (.ref a)) Q E s:=by
 rcases g with ⟨kvs,k,e,iP,l⟩ | ⟨kvs,k,b,e,iP,fh,l⟩
 .subst iP;obtain ⟨z,hd,vs,rel,c8⟩:=r9 J.bl e;refine wpAny_notIn_of (rp bx) hd c8.mapOf ?_;rw [<- (rel.val k).xc,<- l];exact h _ (J.tok _)
 .subst iP;cases (show u=eL b from bx);obtain ⟨z,hd,xs,rel,c8⟩:=uE J.bl e;refine wpAny_notIn_heap (tupleKind_room_in1 bC) (tJ J.bl fh) hd c8 ?_;have q:=(rel.val k).xc;rw [J0] at q;rw [<- q,<- l];exact h _ (J.tok _)
theorem CU (J:Inv X ag σ H s) (gW:pb (H a)) (aC:x' a s.heap h') (he:∃ q,h'.get? a=some q) (new:dT X.prog X.w (upd H a b') h' a b') :
  Inv X ag σ (upd H a b') { s with heap:=h',toks:=t' }:=
 J.write (x:=a) (e:=a) gW (.inl rfl) (fun b q ae z=>(aC.2 b ae).trans z) he new
theorem Gk {w:World} (z:kvs.length <= sizeLine) (hd:(a == sysModules)=false) (rel:eZ kvs vs) (c8:h'.DictOf (hG P w) a vs) :
  dT P w I h' a (.bu kvs):=⟨z,hd,vs,rel,c8⟩
theorem Nn (bC:A.units + 1 < cLine) (J:Inv X ag σ H s) (g:ly H a y v I) (bx:bM y u) (cV:bM v r) (h:∀ ai,Inv X ag σ I ai->Q () ai) :
  wpAny (model X.prog X.w) A (setItem (.ref a) u r) Q E s:=by
 rcases g with ⟨kvs,k,e,iP,l,xi⟩ | ⟨kvs,k,b,e,iP,fh,l,xi⟩
 .subst iP xi;obtain ⟨z,hd,vs,rel,c8⟩:=sG J.bl e;have aO:vs.length <= sizeLine:=by rw [<- rel.length];exact z
  have aM:(eg kvs k v).length <= sizeLine:=by have:=Il kvs k v;omega
  refine wpAny_setItem_pairs (hsz:=aO) (rp bx) c8 fun h' oX aC=>h _ ?_
  have he:∃ q,h'.get? a=some q:=let ⟨q,_,_,aU,_⟩:=oX;⟨q,aU⟩;exact CU J (by rw [e];exact jz) aC he (Gk aM hd (rel.put k cV) oX)
 .subst iP xi;cases (show u=eL b from bx);obtain ⟨z,hd,xs,rel,c8⟩:=To J.bl e;have aO:xs.length <= sizeLine:=by rw [<- JW rel];exact z
  have aM:(eg kvs k v).length <= sizeLine:=by have:=Il kvs k v;omega
  refine wpAny_setItem_heap (hsz:=aO) (tupleKind_room_in1 bC) (tJ J.bl fh) c8 fun h' oX aC=>h _ ?_
  obtain ⟨q,ba,ep,aU,ao,bj,cS,_,e'⟩:=oX;refine CU J (by rw [e];exact jz) aC ⟨q,aU⟩ ⟨aM,hd,_,(rel.put k fh cV).keeps fun c ys ll=>?_,q,ba,ep,aU,ao,bj,cS,e'⟩;rw [aG (bK ll e (fun z=>nomatch z))];exact ll
end
section
variable {X:bg} {ag:List (Addr × Obj)} {σ:St} {H:aw} {s:Shared} {a:Addr} {kvs:List (Key × V)} {k:Key} {u:Value} {A:Around} {E:Value->Shared->Prop}
theorem afd (J:Inv X ag σ H s) (e:H a=some (.bu kvs)) (bx:bM (dk k) u) (l:cR kvs k=some v) (hm:more=[]\/∃ x,more=[x])
  (h:∀ fs ai,Inv X ag σ (upd H a (.bu (oN kvs k))) ai->bM v fs->Q fs ai):wpAny (model X.prog X.w) A (call (.builtin "dict.pop") (.ref a :: u :: more)) Q E s:=by
 obtain ⟨z,hd,vs,rel,c8⟩:=sG J.bl e;obtain ⟨fs,hw,iD⟩:=iw.some_of (v:=v) (o:=valueAt vs k) (by rw [<- l];exact rel.val k);have ar:(keyPart u).isSome=true:=by
  cases k with
  | inl i=>obtain ⟨t,q⟩:=(show ∃ t,u=ox i t from bx);subst q;rfl
  | inr x=>obtain ⟨t,q⟩:=(show ∃ t,u=r6 x t from bx);subst q;rfl
 have aR:argsOk "dict.pop" ⟨.ref a :: u :: more,[]⟩:=by
  rcases hm with q | ⟨x,q⟩
  .subst q;exact PySem.F.args_dict_pop_2 _ _
  .subst q;exact ak9 _ _ _
 refine call_meetsIn NB c8.typeIs ad9 aR (meets_dict_pop_there (hG X.prog X.w) a (rp bx) more hm ar)
  ⟨vs,fs,c8,by rw [<- rel.length];exact z,hw,fun h' oX aC=>h fs _ ?_ iD⟩
 have he:∃ q,h'.get? a=some q:=let ⟨q,_,_,aU,_⟩:=oX;⟨q,aU⟩;exact CU J (by rw [e];exact jz) aC he (Gk (cP (ahz kvs k) z) hd (rel.drop k) oX)
theorem agx (J:Inv X ag σ H s) (e:H a=some (.bu kvs)) (bx:bM (dk k) u) (l:cR kvs k=none) (h:∀ ai,Inv X ag σ H ai->Q r ai) :
  wpAny (model X.prog X.w) A (call (.builtin "dict.pop") [.ref a,u,r]) Q E s:=by
 obtain ⟨z,hd,vs,rel,c8⟩:=sG J.bl e;have aQ:valueAt vs k=none:=iw.none_of (by rw [<- l];exact rel.val k);have ar:(keyPart u).isSome=true:=by
  cases k with
  | inl i=>obtain ⟨t,q⟩:=(show ∃ t,u=ox i t from bx);subst q;rfl
  | inr x=>obtain ⟨t,q⟩:=(show ∃ t,u=r6 x t from bx);subst q;rfl
 exact call_meetsIn NB c8.typeIs ad9 (ak9 _ _ _) (meets_dict_pop_default (hG X.prog X.w) a (rp bx) hd ar r) ⟨vs,c8,aQ,h _ (J.tok _)⟩
theorem amN (J:Inv X ag σ H s) (e:j' H a (.bu kvs)) (h:∀ t ai,Inv X ag σ H ai->Q (.int kvs.length t) ai):wpAny (model X.prog X.w) A (call (.builtin "len") [.ref a]) Q E s:=by
 obtain ⟨z,hd,vs,rel,c8⟩:=r9 J.bl e;refine call_len_dict hd c8 (by rw [<- rel.length];rw [sizeLine_eq] at z;omega) ?_;rw [<- rel.length];exact h _ _ (J.tok _)
end
def Ki (i:Expr):Prop:=∀ fo iq,subscripted i false fo iq=operate [fo,iq] (getItem fo iq)
theorem Un {prog:Program} {w:World} {A:Around} {E:Value->Shared->Prop} {s:Shared} {env:Env} {value slice:Expr} {pos:Pos} {T id:String} {Q:Value->Shared->Prop}
  (aM:typeLookup (.type T) "__getitem__"=pure (some (.builtin id))) (aC:Ki slice)
  (h:wpAny (model prog w) A (eval value env) (fun o dq=>wpAny (model prog w) A (eval slice env) (fun i ec=>ec.TypeIs o T/\wpAny (model prog w) A (getItem o i) Q E ec) E dq) E s) :
  wpAny (model prog w) A (eval (.Subscript value slice pos) env) Q E s:=by
 refine Subscript_ (wpAny_mono h (fun o dq h₁=>wpAny_mono h₁ (fun i ec wO=>?_) fun _ _ x=>x) fun _ _ x=>x);obtain ⟨hk,wO⟩:=wO;unfold subscriptTail;refine wpAny_bind ?_;rw [getitemInPython_of_ne hk.not_modules];refine wpAny_bind (wpAny_specialOf hk aM ?_);have fin:wpAny (model prog w) A (subscripted slice false o i) (fun r nz=>wpAny (model prog w) A (letTemporaryGo value o r >>= fun _=>pure r) Q E nz) E ec:=by
  rw [aC o i];exact wpAny_operating (wpAny_mono wO (fun r nz Av=>wpAny_bind (wpAny_letTemporaryGo (wpAny_pure Av))) fun _ _ x=>x)
 first
  | exact wpAny_pure (wpAny_bind fin)
  | exact wpAny_bind (wpAny_pure (wpAny_bind fin))
  | exact wpAny_bind fin
theorem afA (J:Inv X ag σ H s) (g:gM H a y o):s.TypeIs (.ref a) "dict" := by
 rcases g with ⟨kvs,k,e,_,_⟩ | ⟨kvs,k,b,e,_,_,_⟩
 .obtain ⟨_,_,vs,_,c8⟩:=r9 J.bl e;exact c8.typeIs
 .obtain ⟨_,_,xs,_,c8⟩:=uE J.bl e;exact c8.typeIs
noncomputable def Fj (fI ty:TE):TE:=fun σ H Q=>fI σ H fun x H1=>ty σ H1 fun y aB=>fp x fun a=>∃ v,gM aB a y (some v)/\Q v aB
noncomputable def Lz (ty fI:TE):TE:=fun σ H Q=>ty σ H fun y H1=>fI σ H1 fun x aB=>fp x fun a=>∃ o,gM aB a y o/\Q (.br o.isSome) aB
noncomputable def EJ (ty fI:TE):TE:=fun σ H Q=>ty σ H fun y H1=>fI σ H1 fun x aB=>fp x fun a=>∃ o,gM aB a y o/\Q (.br (!o.isSome)) aB
noncomputable def Ej (fI ty gB:TE):eH:=fun D σ H=>gB σ H fun v H1=>fI σ H1 fun x aB=>ty σ aB fun y bw=>fp x fun a=>∃ cI,ly bw a y v cI/\D.cG σ cI
section
variable {X:bg} {o i e value:Expr} {pos pos' yH:Pos} {fI ty gB:TE}
theorem o4 (bC:X.A.units + 1 < cLine) (aT:bD X o fI) (ah:bD X i ty) (aC:Ki i):bD X (.Subscript o i pos) (Fj fI ty):=by
 intro ag s σ H Q J h;refine Un acz.lookup aC (bQ (aT ag s σ H _ J h) fun u s1 cj=>el cj fun x H1 a_ a8 bR=>bQ (ah ag s1 σ H1 _ a_ bR) fun iq s2 cj=>el cj fun y aB b3 bx g8=>?_);obtain ⟨a,ex,v,g,dS⟩:=fp.out g8;subst ex;obtain rfl:u=eL a:=a8;exact ⟨afA b3 g,ae3 bC b3 g bx fun fs s3 fe iD=>⟨v,aB,fe,iD,dS⟩⟩
theorem Ii (bC:X.A.units + 1 < cLine) (ah:bD X i ty) (aT:bD X o fI):Ic X .In i o (Lz ty fI):=by
 intro ag s σ H Q J h;refine bQ (ah ag s σ H _ J h) fun iq s1 cj=>el cj fun y H1 a_ bx bR=>bQ (aT ag s1 σ H1 _ a_ bR) fun u s2 cj=>el cj fun x aB b3 a8 g8=>?_
 obtain ⟨a,ex,fo,g,dS⟩:=fp.out g8;subst ex;obtain rfl:u=eL a:=a8;exact ag2 bC b3 g bx fun s3 fe=>⟨.br fo.isSome,aB,fe,rfl,dS⟩
theorem Sl (bC:X.A.units + 1 < cLine) (ah:bD X i ty) (aT:bD X o fI):Ic X .NotIn i o (EJ ty fI):=by
 intro ag s σ H Q J h;refine bQ (ah ag s σ H _ J h) fun iq s1 cj=>el cj fun y H1 a_ bx bR=>bQ (aT ag s1 σ H1 _ a_ bR) fun u s2 cj=>el cj fun x aB b3 a8 g8=>?_
 obtain ⟨a,ex,fo,g,dS⟩:=fp.out g8;subst ex;obtain rfl:u=eL a:=a8;exact akK bC b3 g bx fun s3 fe=>⟨.br (!fo.isSome),aB,fe,rfl,dS⟩
theorem so (bC:X.A.units + 1 < cLine) (aT:bD X o fI) (ah:bD X i ty) (aI:bD X value gB) (aC:swapsWith value (some (.Subscript o i pos')) pos.line X.env=pure false) :
  ia X (.Assign [.Subscript o i pos'] value pos) (Ej fI ty gB):=by
 intro ag s σ H D J h;refine wpAny_Assign_Subscript (bQ (aI ag s σ H _ J h) fun r s1 cj=>el cj fun v H1 a_ cV bR=>bQ (aT ag s1 σ H1 _ a_ bR) fun u s2 cj=>el cj fun x aB b3 a8 dS=>bQ (ah ag s2 σ aB _ b3 dS) fun iq s3 cj=>el cj fun y bw fe bx g8=>?_) aC;obtain ⟨a,ex,cI,g,fD⟩:=fp.out g8;subst ex;obtain rfl:u=eL a:=a8;exact Nn bC fe g bx cV fun s4 iE=>⟨σ,cI,iE,fD⟩
end
theorem M7 {w:World} (h:Heap) (ae:sysModules < h.objs.size):dT P w H (h.push { cls:=.type "dict",data:=.dict #[] }) h.objs.size (.bu []):=
 ⟨gv _,beq_eq_false_iff_ne.mpr (dJ (gX ae)),[],.nil,Heap.DictOf.new h⟩
theorem alO {w:World} (h:Heap) (ae:sysModules < h.objs.size):dT P w H (h.push { cls:=.type "dict",data:=.dict #[] }) h.objs.size (.gc []):=
 ⟨gv _,beq_eq_false_iff_ne.mpr (dJ (gX ae)),[],.nil,_,#[],0,hs _ rfl,⟨rfl,rfl,rfl⟩,rfl,rfl,LS⟩
noncomputable def DZ:TE:=fun _ H Q=>∀ p,H p=none->Q (.ref p) (upd H p (.bu []))
noncomputable def FY:TE:=fun _ H Q=>∀ p,H p=none->Q (.ref p) (upd H p (.gc []))
section
variable {X:bg} {pos:Pos}
theorem ya:bD X (.Dict [] [] pos) DZ:=fun ag s σ H Q J h=>
 wpAny_Dict_empty ⟨.ref s.heap.objs.size,_,J.laid (a:=s.heap.objs.size) (o:=.bu []) (t':=s.toks) (fun _ _ q=>e6 _ q) (b8 _) (M7 s.heap J.big),rfl,h _ (J.bl.fresh (b8 _))⟩
theorem xL:bD X (.Dict [] [] pos) FY:=fun ag s σ H Q J h=>
 wpAny_Dict_empty ⟨.ref s.heap.objs.size,_,J.laid (a:=s.heap.objs.size) (o:=.gc []) (t':=s.toks) (fun _ _ q=>e6 _ q) (b8 _) (alO s.heap J.big),rfl,h _ (J.bl.fresh (b8 _))⟩
end
noncomputable def vl:List (TE × TE)->St->aw->(List (V × V)->aw->Prop)->Prop
 | [],_,H,Q=>Q [] H
 | (tk,gB) :: r,σ,H,Q=>tk σ H fun x H1=>gB σ H1 fun y aB=>vl r σ aB fun ps bw=>Q ((x,y) :: ps) bw
noncomputable abbrev O5:List (V × V)->List (Value × Value)->Prop:=Paired fun p q=>bM p.1 q.1/\bM p.2 q.2
def C5 (X:bg) (pos:Pos) (keys:List (Option Expr)) (values:List Expr) (r8:List (TE × TE)):Prop:=
 ∀ (ag:List (Addr × Obj)) (s:Shared) (σ:St) (H:aw) (Q:List (V × V)->aw->Prop),Inv X ag σ H s->vl r8 σ H Q ->
  wpAny (model X.prog X.w) X.A (evalPairs (pairTrees keys values X.env pos)) (fun vs ai=>∃ ps I,Inv X ag σ I ai/\O5 ps vs/\Q ps I) X.d4 s
theorem Ih:C5 X pos [] [] []:=fun ag s σ H Q J h=>pairTrees_nil_walk ⟨[],H,J,.nil,h⟩
theorem qV {k v:Expr} {cw:List (Option Expr)} (au:bD X k tk) (aI:bD X v gB) (aq:C5 X pos cw vs r8) :
  C5 X pos (some k :: cw) (v :: vs) ((tk,gB) :: r8):=fun ag s σ H Q J h=>
 pairTrees_cons_walk (bQ (au ag s σ H _ J h) fun u s1 cj=>el cj fun x H1 a_ a8 bR=>bQ (aI ag s1 σ H1 _ a_ bR) fun dI s2 ⟨y,aB,b3,bx,dS⟩=>
  bQ (aq ag s2 σ aB _ b3 dS) fun ws s3 ⟨ps,bw,fe,rel,fD⟩=>⟨(x,y) :: ps,bw,fe,.cons ⟨a8,bx⟩ rel,fD⟩)
noncomputable def lj (kvs more:List (Key × V)):List (Key × V):=more.foldl (fun acc dm=>eg acc dm.1 dm.2) kvs
theorem eZ.merge:∀ {more:List (Key × V)} {rs:List (Key × Value)} {kvs:List (Key × V)} {vs:List (Key × Value)},eZ more rs->eZ kvs vs->eZ (lj kvs more) (merged vs rs):=by
 intro more rs kvs vs r;unfold eZ at r
 induction r generalizing kvs vs with
 | nil=>intro q;exact q
 | @cons p q ps qs h t cE=>
  intro xd;have e:eZ (eg kvs p.1 p.2) (stored vs q.1 q.2):=by
   have:=xd.put p.1 h.2;rw [<- h.1];exact this
  exact cE e
theorem Td:∀ (more kvs:List (Key × V)),(lj kvs more).length <= kvs.length + more.length
 | [],kvs=>by show kvs.length <= kvs.length + 0;omega
 | p :: r,kvs=>by
  have af:=Td r (eg kvs p.1 p.2);have ao:=Il kvs p.1 p.2;show (lj (eg kvs p.1 p.2) r).length <= _;rw [gP];omega
theorem RC {w:World}:∀ {kvs:List (Key × V)} {ws:List (Value × Value)},O5 (kvs.map fun dm=>(dk dm.1,dm.2)) ws->∃ rs,Carries (hG P w) ws rs/\eZ kvs rs
 | [],_,r=>by rw [qu] at r;cases r;exact ⟨[],jz,.nil⟩
 | p :: kvs,_,r=>by
  rw [e1] at r;cases r with
  | @cons a b as bs h t=>
   obtain ⟨rs,c,q⟩:=RC (P:=P) (w:=w) t;obtain ⟨dR,d_⟩:=b;exact ⟨(p.1,d_) :: rs,⟨rp h.1,rfl,c⟩,.cons ⟨rfl,h.2⟩ q⟩
noncomputable def Ln (r8:List (TE × TE)):TE:=fun σ H Q=>∀ p,H p=none->vl r8 σ (upd H p (.bu [])) fun ps aB=>aB p=some (.bu [])/\∃ kvs:List (Key × V),ps=kvs.map (fun dm=>(dk dm.1,dm.2))/\kvs.length <= 15/\Q (.ref p) (upd aB p (.bu (lj [] kvs)))
theorem LR {keys:List (Option Expr)} (h:C5 X pos keys values r8) (oU:keys.all (·.isSome)=true) (aM:keys.length=values.length) (h0:keys ≠ [])
  (Z':keys.length <= 15):bD X (.Dict keys values pos) (Ln r8):=by
 intro ag s σ H Q J q;have aQ:=J.bl.fresh (b8 s.heap.objs.size);have a_:=J.laid (a:=s.heap.objs.size) (o:=.bu []) (h':=s.heap.push { cls:=.type "dict",data:=.dict #[] }) (t':=s.toks) (fun _ _ q=>e6 _ q) (b8 _) (M7 s.heap J.big);refine wpAny_Dict_walk (knd:=hG X.prog X.w) oU aM h0 Z' (bQ (h ag _ σ _ _ a_ (q _ aQ)) fun ws s2 c2=>?_);obtain ⟨ps,aB,b3,rel,e,kvs,ep,lk,dS⟩:=c2;subst ep;obtain ⟨rs,c,Gf⟩:=RC (P:=X.prog) (w:=X.w) rel;obtain ⟨z,hd,agp,xd,c8⟩:=sG b3.bl e;cases xd;refine ⟨rs,c,c8,fun h' oX aC=>⟨.ref s.heap.objs.size,_,?_,rfl,dS⟩⟩;have aO:(lj [] kvs).length <= sizeLine:=by
  have af:=Td kvs [];rw [yz] at af;rw [sizeLine_eq];omega
 have he:∃ q,h'.get? s.heap.objs.size=some q:=let ⟨q,_,_,aU,_⟩:=oX;⟨q,aU⟩;exact CU b3 (by rw [e];exact jz) aC he (Gk aO hd (Gf.merge .nil) oX)
structure apo (X:bg) (o:Expr) (m:Str) (gi:Pos) (e:Expr) (iu:Pos):Prop where
 base:attributeBase o m X.env (eval o X.env)=eval o X.env
 TG:((backTo iu (starEach [e] X.env)).all (fun x=>!x.1) && (backToKw iu (keywordEach [] X.env)).all (fun x=>x.1.isSome)
  && decide (([e]:List Expr).length + ([]:List Keyword).length + (if ([]:List Keyword).isEmpty then 0 else 1) < 30))=true
 line:(gi.endLine == iu.line)=true
 trees:backTo iu (starEach [e] X.env)=[(false,eval e X.env)]
structure M2 (X:bg) (o:Expr) (m:Str) (gi:Pos) (e f:Expr) (iu:Pos):Prop where
 base:attributeBase o m X.env (eval o X.env)=eval o X.env
 TG:((backTo iu (starEach [e,f] X.env)).all (fun x=>!x.1) && (backToKw iu (keywordEach [] X.env)).all (fun x=>x.1.isSome)
  && decide (([e,f]:List Expr).length + ([]:List Keyword).length + (if ([]:List Keyword).isEmpty then 0 else 1) < 30))=true
 line:(gi.endLine == iu.line)=true
 trees:backTo iu (starEach [e,f] X.env)=[(false,eval e X.env),(false,eval f X.env)]
def DP (H:aw) (a:Addr):Prop:=(∃ kvs,j' H a (.bu kvs))\/∃ kvs,j' H a (.gc kvs)
theorem aml (J:Inv X ag σ H s) (d:DP H a) :
  s.TypeIs (.ref a) "dict" /\ (∀ b,eL a=.ref b->∃ b',s.heap.get? b=some b'/\b'.dict=none)/\(a == sysModules)=false:=by
 rcases d with ⟨kvs,e⟩ | ⟨kvs,e⟩
 .obtain ⟨_,hd,vs,_,c8⟩:=r9 J.bl e;refine ⟨c8.typeIs,fun b q=>?_,hd⟩;cases q;obtain ⟨b',_,_,af,ao,_⟩:=c8;exact ⟨b',af,ao.2.1⟩
 .obtain ⟨_,hd,xs,_,c8⟩:=uE J.bl e;refine ⟨c8.typeIs,fun b q=>?_,hd⟩;cases q;obtain ⟨b',_,_,af,ao,_⟩:=c8;exact ⟨b',af,ao.2.1⟩
section
variable {X:bg} {ag:List (Addr × Obj)} {σ:St} {H:aw} {s:Shared} {a:Addr} {y d:V} {u r:Value} {o:Option V} {A:Around} {E:Value->Shared->Prop}
end
noncomputable def Ou (fI ty sO:TE):TE:=fun σ H Q=>fI σ H fun x H1=>∃ a,x=.ref a/\DP H1 a/\ty σ H1 fun y aB=>sO σ aB fun z bw=>∃ kvs k,bw a=some (.bu kvs)/\y=dk k /\
 (∀ v,cR kvs k=some v->Q v (upd bw a (.bu (oN kvs k))))/\(cR kvs k=none->Q z bw)
section
variable {X:bg} {o e f:Expr} {gi iu:Pos} {fI ty sO:TE}
theorem Mr (aT:bD X o fI) (he:bD X e ty) (hf:bD X f sO) (m:M2 X o "pop" gi e f iu):bD X (.Call (.Attribute o "pop" gi) [e,f] [] iu) (Ou fI ty sO):=by
 intro ag s σ H Q J h;refine wpAny_Call_method m.base m.TG m.line akP NB PySem.F.type_dict_pop (bQ (aT ag s σ H _ J h) fun u s1 c2=>?_);obtain ⟨x,H1,a_,a8,a,ex,d,bR⟩:=c2;subst ex;obtain rfl:u=eL a:=a8;obtain ⟨t1,d7,_⟩:=aml a_ d;refine ⟨t1,d7,?_⟩;rw [m.trees];refine RM rfl (agH (Pc (bQ (he ag s1 σ H1 _ a_ bR) fun iq s2 ⟨y,aB,b3,bx,dS⟩=>
  Pc (bQ (hf ag s2 σ aB _ b3 dS) fun aif s3 ⟨z,bw,fe,Lh,kvs,k,e4,iP,fD,FZ⟩=>aj1 ?_))))
 subst iP;cases l:cR kvs k with
 | some v=>exact afd fe e4 bx l (.inr ⟨aif,rfl⟩) fun fs s4 iE iD=>⟨v,_,iE,iD,fD v l⟩
 | none=>exact agx fe e4 bx l fun s4 iE=>⟨z,bw,iE,Lh,FZ l⟩
end
section
variable {X:bg} {ag:List (Addr × Obj)} {σ:St} {H:aw} {s:Shared} {a:Addr} {kvs:List (Key × V)} {A:Around} {E:Value->Shared->Prop}
end
section
variable {X:bg} {ag:List (Addr × Obj)} {σ:St} {H:aw} {s:Shared} {a:Addr} {y:V} {u:Value} {A:Around} {E:Value->Shared->Prop}
end
end L2
namespace OC
open PySem PySem.W PySem.Calls PyProof.Rows
theorem acy {h:Heap}:∀ (ns:List Int) (vs:List Value),WellAll P h vs (ns.map WA)->IntsAre vs ns:=by
 intro ns
 induction ns with
 | nil=>
  intro vs w;rw [qu] at w;cases w;exact .nil
 | cons n ns cE=>
  intro vs w;rw [e1] at w;cases w with
  | cons a b=>
   cases a;exact .cons _ _ (cE _ b)
theorem akU {l:OpenLaw} {n:Nat} (aQ:l.most=some n) {P:Params} {h:Heap} {args:List WData} {Iu:List Value}
  (zp:l.row.toRowW.claim.pre args=true) (gn:WellAll P h Iu args) :
  ∃ a vs ns,Iu=[eL a]/\args=[WData.list (ns.map WA)]/\h.get? a=some { cls:=.type "list",data:=.seq vs.toArray }/\IntsAre vs ns/\ns.length <= n:=by
 have dz:WShape.hasAll [] args [.list .int]=true:=(pre_splitW zp).1;have aA:l.pre.holds [] { args:=args }=true:=(pre_splitW zp).2;obtain ⟨d,r,rfl,af,ao⟩:=hasAllW_cons dz;obtain rfl:=hasAllW_nil ao;obtain ⟨xs,rfl,bj⟩:=hasW_list af;obtain ⟨ns,rfl⟩:=items_int bj;have hlen:ns.length <= n:=by
  unfold OpenLaw.pre at aA;have cS:(WTm.not (.lt (.lit (.int (n:Int))) (.len (.arg 0)))).holds [] { args:=[.list (ns.map .int)] }=true:=by
   have cS:=(holds_andW aA).1;rw [aQ] at cS;exact cS
  have e':=condW_of cS (w_not (w_lt w_lit (w_len_list (w_arg rfl))));rw [aP] at e';refine abB fun q=>?_
  have eI:(n:Int) < ((ns.length:Nat):Int):=by omega
  first
   | (rw [decide_eq_true eI] at e';exact absurd e' (by decide))
   | (simp at e';omega)
 cases gn with
 | cons dH dI=>
  cases dI;cases dH with
  | list aT oU=>exact ⟨_,_,ns,rfl,rfl,aT,acy ns _ oU,hlen⟩
theorem abw (l:OpenLaw) (args:List WData):l.row.toRowW.claim.post args (.bool true) args=true:=
 postW_of (r:=l.row.toRowW) (X:=(true == true))
  (show abZ [] (.bool true) .bool=true by first | rfl | decide | simp [abZ,WShape.arms,WShape.armsAll])
  (show (WTm.eq .res (.lit (.bool true))).value [] { args:=args,res:=some (.bool true),after:=args }=some (.bool (true == true)) from w_eq_bool (w_res rfl) w_lit) rfl
theorem ajB {l:OpenLaw} {n:Nat} {q:Program} {loose:List Str} {Au:(Str->Option Value)->Heap->Prop} {vo:World->Heap->Prop} {d:DefRec}
  (aQ:l.most=some n) (Fp:d.params.defaults=[])
  (call:∀ (w:World) (f_ dq:Shared) (mg nf:Str->Option Value) (gK:Addr) (o:Obj) (pm cd doc:Value) (a:Addr) (vs:List Value) (ns:List Int),
   Ground q loose [] Au w f_ mg nf dq.heap->vo w dq.heap ->
   dq.heap.get? gK=some o->o.data=.func (docDef d.name d.params d.body d.scope pm cd doc)->dq.heap.CodeRec cd d.name->mg d.name=some (.ref gK) ->
   dq.heap.get? a=some { cls:=.type "list",data:=.seq vs.toArray }->IntsAre vs ns->ns.length <= n->dq.gens=#[] ->
   codeAny (model l.prog w) callerA (.call (.ref gK) ⟨[.ref a],[]⟩) (fun r ai=>r=.ok (.ret (.bool true))/\OldK dq.heap ai.heap/\ai.os=dq.os/\AllBare ai.gens) dq) :
  WalkO q loose Au vo l.row.toRowW d [] (fun f vs=>af1 f vs):=by
 intro w f_ dq mg nf G Y gK o pm cd doc Aj dk aT hd kN bL vR bp args Iu as zp apm anV gn p9;obtain rfl:Aj=.none:=Dflts.none bL Fp;obtain rfl:dk=.none:=Dflts.noKw bL;obtain ⟨a,vs,ns,rfl,rfl,Lu,hints,hlen⟩:=akU aQ zp gn;refine enter_call (codeAny_mono (call w f_ dq mg nf gK o pm cd doc a vs ns G Y aT (fd_plain hd) kN vR Lu hints hlen bp) fun r ai aU=>?_);obtain ⟨rfl,ao,bj,cS⟩:=aU;exact ⟨.inl ⟨.bool true,.bool true,[],rfl,fun _=>rfl,.bool true,abw l _,fun _=>⟨ans,fun _ hm=>(nomatch hm)⟩⟩,ao,bj,cS⟩
section
variable {prog:Program} {w:World} {A:Around} {E:Value->Shared->Prop} {s:Shared} {K:Frag}
end
end OC
namespace L2
open PySem PySem.Spec PyProof.Rows
theorem MI:∀ {vs:List Value} {ns:List Int},IntsAre vs ns->b0 (ns.map V.int) vs
 | _,_,.nil=>.nil
 | _,_,.cons n t h=>.cons ⟨t,rfl⟩ (MI h)
noncomputable abbrev EL {K:bk} {h:Heap} (_:K.In h):bk:=K
noncomputable def fy (s:Stmt) (j:Nat):Stmt:=match s with
 | .ClassDef _ _ _ body _ _ _ _ _ _ _=>body.getD j (.Pass ⟨0,0,0,0⟩)
 | _=>.Pass ⟨0,0,0,0⟩
noncomputable def Cj (s:Stmt):Arguments:=match s with
 | .FunctionDef _ a _ _ _ _ _ _ _ _=>a
 | _=>{ posonlyargs:=[],args:=[],vararg:=none,kwonlyargs:=[],kw_defaults:=[],kwarg:=none,defaults:=[] }
noncomputable def rK (s:Stmt):List Stmt:=match s with
 | .FunctionDef _ _ b _ _ _ _ _ _ _=>b
 | _=>[]
noncomputable def bB (s:Stmt):Scope:=match s with
 | .FunctionDef _ _ _ _ _ _ sc _ _ _=>sc
 | _=>{ kind:=.function,names:=[],isGenerator:=false,isCoroutine:=false }
noncomputable abbrev dE:ka:=fun _ _ _ _ _ _=>False
noncomputable abbrev Es:gG:=fun _ _ _=>False
theorem cU:qp dE X Es:=fun _ _ _ _ _ _ _ h=>h.elim
structure cn (K:bk) (x qual:Str) (st:Stmt) (f:Addr) (fd:FuncData):Prop where
 ex:∃ (n6:Value) (dD:Option Addr) (dk doc pm:Value) (an:Option Addr) (f7 fl:Value) (sZ:Array (Option Value)),
  fd=vz x qual (Cj st) (rK st) (bB st) .none dk doc pm an f7 fl/\K.lookup f=some ⟨n6,dD,.func fd,sZ⟩/\Vp K f7 qual=true
 bG:sM K (.ref f)=true
section
variable {P:Program} {w:World} {K:bk} {mg:Str->Option Value} {base:Heap}
theorem cn.ok {x qual:Str} {st:Stmt} {fd:FuncData} {N ps:List Str} {k:Nat} (F:cn K x qual st f fd) (S:cx N ps (bB st)) (len:∀ vs H Q E,sp vs H Q E->vs.length=ps.length)
  (pB:∀ (f7:Value) (A:Around) (outer:List Env) (s:Shared) (H:aw) (vs:List V) (Q:cX) (E:gG),eP k (A.deeper (envOfC qual (bB st) s.heap.objs.size f f7))->sp vs H Q E ->
   ∃ t,lG (rm dE P w K mg base N qual (bB st) f f7 A outer s H E).mQ (rK st) t/\t { cG:=fun _ I=>Q .b4 I,l1:=Q } (start N vs) H):cK P w K mg base dE (k + 1) f fd ps sp:=by
 obtain ⟨n6,dD,dk,doc,pm,an,f7,fl,sZ,rfl,lk,kN⟩:=F.ex;refine R5 lk kN S len fun A outer s H vs Q E aq pA=>?_
 obtain ⟨t,h,q⟩:=pB f7 A outer s H vs Q E aq pA;exact ⟨t,h.mQ,q⟩
theorem cn.binds {x qual:Str} {st:Stmt} {fd:FuncData} (F:cn K x qual st f fd)
  (h:∀ (dk doc pm:Value) (an:Option Addr) (f7 fl:Value) (us:List Value),us.length=ps.length->bindArgs (vz x qual (Cj st) (rK st) (bB st) .none dk doc pm an f7 fl) ⟨us,[]⟩=pure (ps.zip us)):b_ K fd ps []:=by
 obtain ⟨n6,dD,dk,doc,pm,an,f7,fl,sZ,rfl,lk,kN⟩:=F.ex;exact .all (h dk doc pm an f7 fl)
theorem W' {x qual:Str} {st:Stmt} {dk doc pm f7 fl:Value} (l:K.lookup f=some ⟨n6,dD,.func (vz x qual (Cj st) (rK st) (bB st) .none dk doc pm an f7 fl),sZ⟩)
  (c:Vp K f7 qual=true) (k:sM K (.ref f)=true):cn K x qual st f (vz x qual (Cj st) (rK st) (bB st) .none dk doc pm an f7 fl):=⟨⟨n6,dD,dk,doc,pm,an,f7,fl,sZ,rfl,l,c⟩,k⟩
end
def ach (A:Around):Prop:=A.units + 1 < cLine
def Yh (A:Around):Prop:=A.units + 64 < cLine
theorem OM {A:Around} {k:Nat} (aq:eP k A):Yh A:=aq.units
theorem gO {A:Around} {k:Nat} (aq:eP k A):ach A:=hg (Nat.add_le_add_left (by decide:1 <= 64) _) aq.units
section
variable {X:bg}
theorem aa (i:Nat) {x:Str} (bb:X.N[i]? = some x:=by rfl) (aI:z_ X.env.scope x:=by first | exact ud rfl | exact j5 (ud rfl) | exact j5 (j5 rfl)) (hd:(x == ("__debug__" : Str))=false:=by decide)
  (kN:(x == ("__classdict__" : Str))=false:=by decide):bD X (.Name x pos) (yW i):=ace bb aI hd kN
theorem ae4:jw X (.builtin "len") (fun xs H Q=>∃ a kvs,xs=[V.ref a]/\H a=some (.bu kvs)/\Q (.int kvs.length) H):=by
 intro ag s σ H xs us Q J r h;obtain ⟨a,kvs,rfl,aR,q⟩:=h;obtain ⟨u,rfl,fB⟩:=jP r;cases fB;exact amN J (.inl aR) fun t ai gS=>⟨.int kvs.length,H,gS,⟨t,rfl⟩,q⟩
end
def aN (H I:aw):Prop:=∀ b o,H b=some o->I b=some o
theorem aN.refl (H:aw):aN H H:=fun _ _ h=>h
theorem aN.trans (a:aN H H1) (b:aN H1 aB):aN H aB:=fun c o h=>b c o (a c o h)
theorem aN.free (e:aN H I) (h:I l=tD):H l=tD:=by
 cases q:H l with
 | none=>rfl
 | some o=>
  rw [e l o q] at h;cases h
theorem aN.seq {K:bk} (e:aN H I) (h:av K H a xs):av K I a xs:=by
 rcases h with (h | ⟨o,h⟩) | h
 .exact .inl (.inl (e _ _ h))
 .exact .inl (.inr ⟨o,e _ _ h⟩)
 .exact .inr h
section
variable {eN:Type} [DecidableEq eN]
end
end L2
set_option maxHeartbeats 4000000
namespace L2
open PySem PySem.Spec PyProof.Rows
noncomputable def jG (cells:List (Str × Addr)):List (Str × NameKind)->List (Str × Addr)->List (Str × Addr)
 | [],acc=>acc
 | (n,k) :: r,acc=>if k == .free then (match cells.lookup n with | some c=>jG cells r ((n,c) :: acc) | none=>jG cells r acc) else jG cells r acc
theorem Ed {env:Env}:∀ (names:List (Str × NameKind)) (acc:List (Str × Addr)),(∀ y ∈ names,y.2=.free->∃ c,env.cells.lookup y.1=some c) ->
  (forIn names acc (fun (x:Str × NameKind) (cs:List (Str × Addr))=>(if (x.2 == .free)=true then do let a <- cellOf env x.1;pure (wu ((x.1,a) :: cs)) else pure (wu cs):Sem (ForInStep (List (Str × Addr))))))=pure (jG env.cells names acc)
 | [],acc,_=>rfl
 | (n,k) :: r,acc,h=>by
  have aq:∀ y ∈ r,y.2=.free->∃ c,env.cells.lookup y.1=some c:=fun y a9=>h y (hR _ a9)
  rw [List.forIn_cons];by_cases au:(k == qW)=true
  .have e:k=.free:=by simpa using au
   obtain ⟨c,aA⟩:=h (n,k) l5 e;have AA:env.cells.lookup n=some c:=aA;simp only [jG,au,if_true,AA,cellOf];exact Ed r _ aq
  .simp only [jG,au];exact Ed r _ aq
theorem MS {env:Env} (h:∀ y ∈ scope.names,y.2=.free->∃ c,env.cells.lookup y.1=some c):closureFor scope env=pure (jG env.cells scope.names []):=by
 unfold closureFor;exact congrArg (fun t=>t >>= pure) (Ed scope.names [] h)
theorem BO {cells:List (Str × Addr)}:∀ (names:List (Str × NameKind)) (acc:List (Str × Addr)) {x:Str} {c:Addr},(jG cells names acc).lookup x=some c->acc.lookup x=some c\/cells.lookup x=some c
 | [],acc,x,c,h=>.inl h
 | (n,k) :: r,acc,x,c,h=>by
  unfold jG at h;split at h
  .cases q:cells.lookup n with
   | none=>rw [q] at h;exact BO r acc h
   | some d=>
    rw [q] at h;rcases BO r _ h with z | z
    .rw [k9] at z;by_cases aj:(x == n)=true
     .rw [aj] at z;have e:x=n:=by simpa using aj
      subst e
      right;rw [q];exact z
     .have eG:(x == n)=false:=by simpa using aj
      rw [eG] at z;exact .inl z
    .exact .inr z
  .exact BO r acc h
theorem zt {cells:List (Str × Addr)}:∀ (names:List (Str × NameKind)) (acc:List (Str × Addr)) {x:Str} {c:Addr},acc.lookup x=some c->cells.lookup x=some c->(jG cells names acc).lookup x=some c
 | [],acc,x,c,h,_=>h
 | (n,k) :: r,acc,x,c,h,aA=>by
  unfold jG;split
  .cases q:cells.lookup n with
   | none=>exact zt r acc h aA
   | some d=>
    refine zt r _ ?_ aA;rw [k9];by_cases aj:(x == n)=true
    .have e:x=n:=by simpa using aj
     subst e;rw [aj];rw [q] at aA;exact aA
    .have eG:(x == n)=false:=by simpa using aj
     rw [eG];exact h
  .exact zt r acc h aA
theorem xG {cells:List (Str × Addr)}:∀ (names:List (Str × NameKind)) (acc:List (Str × Addr)) {x:Str} {c:Addr},(x,qW) ∈ names->cells.lookup x=some c->(jG cells names acc).lookup x=some c
 | [],_,_,_,h,_=>nomatch h
 | (n,k) :: r,acc,x,c,h,aA=>by
  rcases fx.mp h with e | h
  .cases e;unfold jG;rw [if_pos (by decide),aA];refine zt r _ ?_ aA;rw [k9];simp
  .unfold jG;split
   .cases q:cells.lookup n with
    | none=>exact xG r acc h aA
    | some d=>exact xG r _ h aA
   .exact xG r acc h aA
theorem FU:∀ {l:List (Str × α)} {x:Str} {a:α},l.lookup x=some a->(x,a) ∈ l
 | [],_,_,h=>by simp at h
 | (n,b) :: r,x,a,h=>by
  rw [k9] at h;by_cases aj:(x == n)=true
  .have e:x=n:=by simpa using aj
   subst e;rw [aj] at h;have aK:b=a:=ei h;subst aK;exact l5
  .have eG:(x == n)=false:=by simpa using aj
   rw [eG] at h;exact hR _ (FU h)
theorem ahg {env:Env} {x:Str} {k:NameKind} (h:(relabel scope env).names.lookup x=some k) (au:k=.cell\/k=.free) (aA:∀ y ∈ scope.names,y.2 ≠ .cell):(x,qW) ∈ scope.names:=by
 have af:=FU h;obtain ⟨⟨n,j⟩,hm,e⟩:=bJ.mp af;have bF:(if (j == qW && env.scope.kind == .function && env.kindOf n == some .cell)=true then (n,UB) else (n,j))=(x,k):=e;split at bF
 .rename_i O7;have ax:n=x:=(M9 bF).1;subst ax;have aJ:j=.free:=by
   simp only [g_] at O7;simpa using O7.1.1
  subst aJ;exact hm
 .have ax:n=x:=(M9 bF).1;have aK:j=k:=(M9 bF).2;subst ax;subst aK;rcases au with z | z
  .exact absurd z (aA _ hm)
  .subst z;exact hm
theorem YP {env:Env} {x:Str} (h:scope.names.lookup x=some .free):(relabel scope env).names.lookup x=some .cell\/(relabel scope env).names.lookup x=some .free:=by
 have all:∀ (names:List (Str × NameKind)),names.lookup x=some .free ->
   (names.map fun (n,k)=>if (k == qW && env.scope.kind == .function && env.kindOf n == some .cell) then (n,UB) else (n,k)).lookup x=some .cell \/
   (names.map fun (n,k)=>if (k == qW && env.scope.kind == .function && env.kindOf n == some .cell) then (n,UB) else (n,k)).lookup x=some .free:=by
  intro names
  induction names with
  | nil=>intro h;simp at h
  | cons p r cE=>
   obtain ⟨n,k⟩:=p;intro h;rw [e1];by_cases aj:(x == n)=true
   .simp only [k9,aj] at h;have au:k=.free:=ei h;subst au;by_cases aA:(qW == qW && env.scope.kind == .function && env.kindOf n == some .cell)=true
    .left;simp only [if_pos aA,k9,aj]
    .right;simp only [if_neg aA,k9,aj]
   .have eG:(x == n)=false:=by simpa using aj
    simp only [k9,eG] at h;by_cases aA:(k == qW && env.scope.kind == .function && env.kindOf n == some .cell)=true
    .simp only [if_pos aA,k9,eG];exact cE h
    .simp only [if_neg aA,k9,eG];exact cE h
 exact all scope.names h
noncomputable abbrev bg.block (X:bg) (scope:Scope) (C:Addr) (N:List Str) (s:Shared) (H:aw) (bS:List Addr):bg where
 prog:=X.prog
 w:=X.w
 K:=X.K
 mg:=X.mg
 base:=X.base
 A:=X.A
 N:=N
 f_:=s
 rv:=H
 env:=compEnvC scope (jG X.env.cells scope.names []) C X.env
 outer:=X.stack
 stack:=X.stack
 ex:=bS
 fn:=fun _=>false
 calm:=X.calm
 ez:=[]
 d4:=fun _ _=>False
structure ro (env:Env) (scope:Scope):Prop where
 kind:scope.kind=.function
 vj:∀ y ∈ scope.names,y.2 ≠ .cell
 fr:∀ y ∈ scope.names,y.2=.free->env.kindOf y.1=some .cell\/env.kindOf y.1=some .free
 loc:∀ x ∈ scope.names,x.2=.local->scope.names.lookup x.1=some .local
noncomputable def blk (sel:List (Option Nat)) (σ:St):St:=sel.map fun o=>o.bind fun j=>(σ[j]?).join
def yb (M:List Str) (scope:Scope) (N:List Str) (sel:List (Option Nat)):Prop:=
 sel.length=N.length/\∀ (i j:Nat) (x:Str),sel[i]? = some (some j)->N[i]? = some x->M[j]? = some x/\scope.names.lookup x=some .free
section
variable {X:bg} {ag:List (Addr × Obj)} {σ:St} {H:aw} {s:Shared} {scope:Scope} {bS:List Addr} {C:Addr} {N:List Str}
theorem ro.cells (S:ro X.env scope) (ok:X.Ok):∀ y ∈ scope.names,y.2=.free->∃ c,X.env.cells.lookup y.1=some c:=fun y a9 e=>ok.has y.1 (S.fr y a9 e)
theorem u0 {x:Str} (h:(jG X.env.cells scope.names []).lookup x=some c):X.env.cells.lookup x=some c:=by
 rcases BO _ _ h with z | z
 .simp at z
 .exact z
theorem T1 (J:Inv X ag σ H s) (S:ro X.env scope) (hf:∀ b ∈ bS,j_ X ag H b) (aC:∀ b ∈ bS,b < s.heap.objs.size) (dy:s.heap.objs.size <= C):(X.block scope C N s H bS).Ok where
 mod:=J.ok.mod
 kind:=S.kind
 glob:=J.ok.glob
 blt:=J.ok.blt
 above:=dy
 inj:=fun x y c af ao=>J.ok.inj x y c (u0 af) (u0 ao)
 has:=fun x h=>by
  have au:∃ k,(relabel scope X.env).names.lookup x=some k/\(k=.cell\/k=.free):=by
   rcases h with h | h
   .exact ⟨_,h,.inl rfl⟩
   .exact ⟨_,h,.inr rfl⟩
  obtain ⟨k,af,ao⟩:=au;have hm:=ahg af ao S.vj;obtain ⟨c,aA⟩:=S.cells J.ok _ hm rfl;exact ⟨c,xG _ _ hm aA⟩
 qD:=fun _ _ h _=>nomatch h
 hd:=J.ok.hd
 frames:=J.ok.frames
 sd:=.inl rfl
 vV:=fun b ae=>⟨gX (hU (aC b ae) dy),fun x c e=>(hf b ae).2.2.2.2.1 x c (u0 e)⟩
 bs:=J.bs
 k4:=cP J.ok.k4 J.oe
 qR:=fun b o e ae=>by
  rcases (hf b ae).2.2.2.1 with z | z
  .exact J.ok.qR b o e z
  .exact absurd (hU (hU (eV e) J.ok.k4) z) (mu _)
 qE:=fun b ae aO=>by
  rcases fx.mp (J.zr b aO) with z | z
  .exact (hf b ae).2.1 z
  .exact (hf b ae).2.2.1 z
 ko:=J.stack
 nK:=J.LD
theorem ai9 (J:Inv X ag σ H s) (S:ro X.env scope) (hf:∀ b ∈ bS,j_ X ag H b) (aC:∀ b ∈ bS,b < s.heap.objs.size) (dy:s.heap.objs.size <= C)
  (k:∀ b o,s.heap.get? b=some o->h'.get? b=some o) (aQ:h'.Ns C m) (qS:yb X.N scope N sel):Inv (X.block scope C N s H bS) [] (blk sel σ) H { s with heap:=h',toks:=t' } where
 ok:=T1 J S hf aC dy
 os:=rfl
 bare:=J.bare
 base:=fc.kept k
 loc:=by
  refine ⟨m,aQ,fun i x v ax aK bU=>?_⟩;obtain ⟨m0,pR,aM⟩:=J.loc;obtain ⟨j,FE,amJ⟩:∃ j,sel[i]? = some (some j)/\σ[j]? = some (some v):=by
   unfold blk at aK;rw [cN] at aK;cases q:sel[i]? with
   | none=>rw [q] at aK;cases aK
   | some o=>
    rw [q] at aK;cases o with
    | none=>cases aK
    | some j=>
     refine ⟨j,rfl,?_⟩;have AW:(σ[j]?).join=some v:=ei aK;cases r:σ[j]? with
     | none=>rw [r] at AW;cases AW
     | some z=>rw [r] at AW;exact congrArg some AW
  obtain ⟨Ye,Cb⟩:=qS.2 i j x FE ax;have hm:=FU Cb;have au:=S.fr _ hm rfl;have aI:z_ X.env.scope x:=au.elim (fun z=>.inr (.inl z)) fun z=>.inr (.inr z)
  obtain ⟨u,r,l⟩:=aM j x v Ye amJ aI;refine ⟨u,r,?_⟩;rcases l with ⟨agX,_⟩ | ⟨_,c,aA,Bf⟩
  .rcases au with z | z <;> (have i4:X.env.kindOf x=_:=z;rw [agX] at i4;cases i4)
  .refine .inr ⟨?_,c,xG _ _ hm aA,?_⟩
   .exact YP Cb
   .obtain ⟨o,aT,hd⟩:=Bf;exact ⟨o,k _ _ aT,hd⟩
 cell:=fun x c e=>by
  obtain ⟨v,o,aT,hd⟩:=J.cell x c (u0 e);exact ⟨v,o,k _ _ aT,hd⟩
 free:=J.bl.fresh dy
 jK:=fun x c e=>J.jK x c (u0 e)
 pin:=fun p ar=>nomatch ar
 bl:=J.bl.kept k
 len:=by unfold blk;rw [aP];exact qS.1
theorem Inv.adopt (J:Inv X ag σ H s) (iQ:j_ X ag H a) (new:dT X.prog X.w (upd H a o) s.heap a o):Inv X ag σ (upd H a o) s:=by
 obtain ⟨aQ,eJ,t8,hex,pO,ix⟩:=iQ;refine J.step (g':=s.gens) (d':=s.drawn) (t':=s.toks) (h':=s.heap) (ch:=[a]) (fun b ae=>?_) (fun b o _ _ _ e _=>e) (fun b o _ _ _ e _=>⟨o.slots,e⟩) (fun b o ae e n=>?_) (fun b o _ e=>⟨o,e⟩)
  (fun b xs e=>?_) (fun b o u e=>?_) (fun b ps e=>⟨#[],?_⟩) (fun m hm=>hm) (fun b u e=>?_) J.bare
 .have e:b=a:=by simpa using ae
  subst e;exact ⟨hex,eJ,pO,ix⟩
 .rw [aG (fun z=>ae (by simp [z]))];exact n
 .rw [aG (Db e aQ)];exact e
 .rw [aG (Db e aQ)];exact e
 .rw [aG (Db e aQ),e];simp
 .by_cases ae:b=a
  .subst ae;rw [db] at e;cases e;exact new
  .rw [aG ae] at e;exact (J.bl b u e).nR (fun c v _ q=>q) (fun c q=>by rw [aG (Db q aQ)];exact q) fun c xs q=>by rw [aG (Db q aQ)];exact q
end
theorem Wv {prog:Program} {w:World} {A:Around} {it acc:Value} {env:Env} (J:Nat->Shared->Prop)
  (turn:∀ n s,J n s->wpAny (model prog w) A (pyNext it) (fun r dq=>match r with
   | none=>R (.ok .next) dq
   | some v=>wpAny (model prog w) A (letOwnedTupleGo vT it v) (fun _ f_=>wpAny (model prog w) A (assign vT env v) (fun _ ec=>
     wpAny (model prog w) A (forIn ifs true fun c r=>if r=true then do let ok <- isTrue c env (eval c env);pure (wu ok) else pure (wu r)) (fun ok nz=>
      if ok=true then wpAny (model prog w) A (eval elt env) (fun x Ce=>
       wpAny (model prog w) A (call (.builtin "list.append") [acc,x]) (fun _ Vr=>∃ m,m < n/\J m Vr) (fun _ _=>False) Ce) (fun _ _=>False) nz
      else ∃ m,m < n/\J m nz) (fun _ _=>False) ec) (fun _ _=>False) f_) (fun _ _=>False) dq) (fun _ _=>False) s)
  (n:Nat) (h:J n s) :
  codeAny (model prog w) A (.compLoop (.ListComp elt [⟨vT,iter,ifs,0⟩] scope pos) 0 it acc env) R s:=by
 refine codeAny_loop rfl J (fun n s DY=>?_) n h;show wpAny _ A ((compTurn (.ListComp elt [⟨vT,iter,ifs,0⟩] scope pos) 0 it acc env).onRaise (fun x=>do noteFrame x env;theTreesLotGoes x)) _ _ s;refine wpAny_noted (wpAny_noRaise ?_);rw [compTurn_list];refine wpAny_bind (wpAny_standAt (wpAny_bind (wpAny_mono (turn n s DY) (fun r dq h₁=>?_) fun _ _ h'=>h')));cases r with
 | none=>exact wpAny_pure h₁
 | some v=>
  refine wpAny_bind (wpAny_mono h₁ (fun _ f_ h₀=>?_) fun _ _ h'=>h');refine wpAny_bind (wpAny_mono h₀ (fun _ ec wO=>wpAny_bind (wpAny_mono wO (fun ok nz Av=>?_) fun _ _ h'=>h')) fun _ _ h'=>h');cases ok with
  | false=>exact wpAny_pure ⟨rfl,Av⟩
  | true=>
   exact wpAny_bind (wpAny_bind (wpAny_mono Av (fun x Ce aeM=>wpAny_bind (wpAny_mono aeM (fun _ Vr ajz=>wpAny_pure (wpAny_pure ⟨rfl,ajz⟩)) fun _ _ h'=>h')) fun _ _ h'=>h'))
def uF (X:bg) (ifs:List Expr) (t:TT):Prop:=
 ∀ (ag:List (Addr × Obj)) (s:Shared) (σ:St) (H:aw) (Q:Bool->aw->Prop),Inv X ag σ H s->t σ H Q ->
  wpAny (model X.prog X.w) X.A (forIn ifs true fun c r=>if r=true then do let ok <- isTrue c X.env (eval c X.env);pure (wu ok) else pure (wu r)) (yO X ag σ Q) X.d4 s
noncomputable def pE:TT:=fun _ H Q=>Q true H
theorem hO:uF X [] pE:=fun _ _ _ H _ J h=>wpAny_tests_nil ⟨H,J,h⟩
theorem nF {t:TT} (h:jN X c t):uF X [c] t:=fun ag s σ H Q J q=>wpAny_tests_one (h ag s σ H Q J q)
def Sub (σ az:St):Prop:=az.length=σ.length/\∀ (i:Nat) (v:V),σ[i]? = some (some v)->az[i]? = some (some v)
theorem Sub.refl (σ:St):Sub σ σ:=⟨rfl,fun _ _ h=>h⟩
theorem Sub.set {x:Option V} (h:Sub σ az) (e:σ[i]? = some none):Sub σ (az.set i x):=by
 refine ⟨by rw [MO];exact h.1,fun j v q=>?_⟩;have aJ:i ≠ j:=fun z=>by subst z;rw [e] at q;cases q
 rw [ID aJ];exact h.2 j v q
def sI (b6:ke) (g:gJ) (c6:TT) (bT:TE) (da:St) (Q:cX) (W:Nat->Nat->List V->aw->Prop):Prop:=∀ i m ys H,W i m ys H ->
 (b6.stop i H/\∀ p,H p=none->Q (.ref p) (upd H p (.lst ys))) \/
 (b6.go i H/\ys.length < sizeLine/\∀ x I,b6.qi i H x I->g x da I fun cb aB=>Sub da cb/\c6 cb aB fun c bw=>if c=true then bT cb bw fun y cI=>∃ dB,dB < m/\W (i + 1) dB (ys ++ [y]) cI else ∃ dB,dB < m/\W (i + 1) dB ys bw)
noncomputable def K5 (wi:TI) (g:gJ) (c6:TT) (bT:TE) (sel:List (Option Nat)):TE:=fun σ H Q=>wi σ H fun b6 H1=>∃ W:Nat->Nat->List V->aw->Prop,(∃ m,W 0 m [] H1)/\sI b6 g c6 bT (blk sel σ) Q W
section
variable {X:bg} {elt dn iter:Expr} {ifs:List Expr} {scope:Scope} {pos:Pos} {wi:TI} {g:gJ} {c6:TT} {bT:TE} {N:List Str} {sel:List (Option Nat)}
structure eO (X:bg) (scope:Scope) (N:List Str) (dn elt:Expr) (ifs:List Expr) (g:gJ) (c6:TT) (bT:TE):Prop where
 Oh:∀ C s H bS,m8 (X.block scope C N s H bS) dn g
 tests:∀ C s H bS,uF (X.block scope C N s H bS) ifs c6
 elem:∀ C s H bS,bD (X.block scope C N s H bS) elt bT
theorem eO.of {N:List Str} (af:∀ C s H bS,m8 (X.block scope C N s H bS) dn g)
  (ao:∀ C s H bS,∃ t,uF (X.block scope C N s H bS) ifs t/\t=c6) (bj:∀ C s H bS,∃ t,bD (X.block scope C N s H bS) elt t/\t=bT):eO X scope N dn elt ifs g c6 bT:=
 ⟨af,fun C s H bS=>by obtain ⟨t,h,rfl⟩:=ao C s H bS;exact h,fun C s H bS=>by obtain ⟨t,h,rfl⟩:=bj C s H bS;exact h⟩
theorem VK {ag:List (Addr × Obj)} {ec:Shared} {σ:St} {iZ:aw} {Q:cX} {it:Addr} {bS:List Addr} {iO:Nat->Heap->Prop} {b6:ke} {W:Nat->Nat->List V->aw->Prop} {E:Value->Shared->Prop} {RR:Value->Addr->Result->Shared->Prop}
  (aA:X.calm=true) (S:ro X.env scope) (qS:yb X.N scope N sel) (B:eO X scope N dn elt ifs g c6 bT) (b3:Inv X ag σ iZ ec) (T:qy X.prog X.w X.K dn b6 bS it iO) (qB:iO 0 ec.heap) (f2:∀ b ∈ bS,j_ X ag iZ b)
  (nJ:∃ m,W 0 m [] iZ) (eU:sI b6 g c6 bT (blk sel σ) Q W)
  (fin:∀ D C ys I ai,Inv X ag σ (upd I D (.lst ys)) ai->(∃ m,ai.heap.Ns C m)->j_ X ag (upd I D (.lst ys)) C->Q (.ref D) (upd I D (.lst ys))->RR (.ref D) C (.ok .next) ai) :
  wpAny (model X.prog X.w) X.A (newList []) (fun acc nz=>wpAny (model X.prog X.w) X.A (newFunctionEnv scope X.env.globals (jG X.env.cells scope.names []) [] X.env.qual none .none (some X.env)) (fun MY Ce=>
   codeAny (model X.prog X.w) X.A (.compStart (.ListComp elt [⟨dn,iter,ifs,0⟩] scope pos) 0 (.ref it) acc { MY with scope:=relabel scope X.env }) (RR acc MY.locals) Ce) E nz) E ec:=by
 refine wpAny_newObj_type (wpAny_newFunctionEnv S.vj (by intro y a9;simp at a9) (fun h₁ HN zy=>?_) S.kind);dsimp only at HN zy ⊢;generalize I2:ec.heap.push { cls:=.type "list",dict:=none,data:=.seq ([]:List Value).toArray }=aB at HN zy ⊢;have dy:aB.objs.size=ec.heap.objs.size + 1:=by rw [<- I2,Tb]
 have yf:ec.heap.objs.size ≠ aB.objs.size:=by rw [dy];exact gX (EZ _)
 have Lv:ec.heap.objs.size <= aB.objs.size:=by rw [dy];exact Gj _
 have below:∀ b,b < ec.heap.objs.size->b ≠ aB.objs.size/\b ≠ ec.heap.objs.size:=fun b ae=>⟨by rw [dy];exact gX (Nat.lt_succ_of_lt ae),gX ae⟩
 have old:∀ b o,ec.heap.get? b=some o->h₁.get? b=some o:=fun b o e=>zy.extBut b o (below b (eV e)).1 (e6 _ (I2 ▸ e6 _ e))
 have JU:h₁.get? ec.heap.objs.size=some { cls:=.type "list",data:=.seq ([]:List Value).toArray }:=zy.extBut _ _ yf (e6 _ (I2 ▸ hs _ rfl));have wy:∀ b ∈ bS,b < ec.heap.objs.size:=fun b ae=>by
  obtain ⟨o,e,_⟩:=T.obj _ _ qB b ae;exact eV e
 generalize apL:aB.objs.size=C at *;generalize o6:ec.heap.objs.size=D at *;have NZ:iO 0 h₁:=T.keep _ _ _ qB fun b _ o e=>old b o e
 have X3:Inv (X.block scope C N ec iZ bS) [] (blk sel σ) iZ { ec with heap:=h₁,toks:=ec.toks + ([]:List (Str × Value)).length }:=
  ai9 b3 S f2 (fun b ae=>by rw [o6];exact wy b ae) (by rw [o6];exact Lv) old HN qS
 have DO:D ∉ (X.block scope C N ec iZ bS).aX:=fun z=>by
  have i4:=b3.zr D z;rcases fx.mp i4 with e | e
  .exact absurd b3.lt (by rw [<- e,o6];exact mu _)
  .exact b3.FT (by rw [o6];exact b8 _) e
 have loop:∀ nz:Shared,nz = { ec with heap:=h₁,toks:=ec.toks + ([]:List (Str × Value)).length } ->
   codeAny (model X.prog X.w) X.A (.compLoop (.ListComp elt [⟨dn,iter,ifs,0⟩] scope pos) 0 (.ref it) (.ref D) (compEnvC scope (jG X.env.cells scope.names []) C X.env)) (RR (.ref D) C) nz:=by
  rintro nz rfl;obtain ⟨m0,nJ⟩:=nJ;refine Wv (fun k ai=>∃ i ys us n I,Inv (X.block scope C N ec iZ bS) [(D,{ cls:=.type "list",data:=.seq us n })] (blk sel σ) I ai/\(∃ vs:List Value,us=vs.toArray/\b0 ys vs)/\ys.length <= sizeLine/\iO i ai.heap/\(∀ b ∈ bS,I b=none)/\W i k ys I) ?_ m0
   ⟨0,[],_,0,iZ,X3.sY fun p ar=>?_,⟨[],rfl,.nil⟩,gv _,NZ,fun b ae=>(f2 b ae).1,nJ⟩
  .rintro k ai ⟨i,ys,us,n,I,HV,⟨vs,rfl,cV⟩,NM,st,fr,w⟩;have KH:∀ {pl:List (Addr × Obj)} {jj:aw},(∀ p ∈ pl,p.1=D)->(∀ b ∈ bS,jj b=none)->∀ b ∈ bS,j_ (X.block scope C N ec iZ bS) pl jj b:=fun {pl jj} ar aQ b ae=>
    ⟨aQ b ae,(below b (wy b ae)).1,(T1 (N:=N) (C:=C) b3 S f2 (fun b ae=>by rw [o6];exact wy b ae) (by rw [o6];exact Lv)).qE b ae,.inl ae,fun x c e=>(f2 b ae).2.2.2.2.1 x c (u0 e),fun p abz z=>by
     have ag6:p ∈ pl:=by simpa using abz
     exact (below b (wy b ae)).2 (by rw [<- z];exact ar p ag6)⟩
   have Lw:∀ p ∈ [((D,{ cls:=.type "list",data:=.seq vs.toArray n }):Addr × Obj)],p.1=D:=fun p ar=>by
    have e:p=(D,{ cls:=.type "list",data:=.seq vs.toArray n }):=by simpa using ar
    rw [e]
   rcases eU i k ys I w with ⟨stop,FK⟩ | ⟨go,hlen,step⟩
   .refine bQ (T.done (X.block scope C N ec iZ bS) rfl rfl rfl aA i _ ai _ I _ HV (KH Lw fr) st stop) fun r s4 c2=>?_
    obtain ⟨aq,iE⟩:=c2;subst aq;have rZ:=iE.pin (D,{ cls:=.type "list",data:=.seq vs.toArray n }) (by simp);have O6:I D=none:=rZ.2.1;have afR:Inv X ag σ I s4:=b3.acJ (ch:=bS) iE.os iE.base iE.bl iE.bare fun b ae=>⟨(f2 b ae).2.2.2.1,(f2 b ae).2.1,(f2 b ae).2.2.2.2.1,(f2 b ae).2.2.2.2.2⟩
    have rQ:j_ X ag I D:=b3.p7 (by rw [o6];exact b8 _) O6;have ah8:Inv X ag σ (upd I D (.lst ys)) s4:=afR.adopt rQ ⟨NM,vs,n,cV,rZ.1⟩;obtain ⟨adz,Xk,_⟩:=iE.loc;refine fin D C ys I s4 ah8 ⟨adz,Xk⟩ (b3.p7 (by rw [o6];exact Lv) ?_) (FK D O6);rw [aG (dJ yf)];exact iE.free
   .refine bQ (T.item (X.block scope C N ec iZ bS) rfl rfl rfl aA i _ ai _ I _ HV (KH Lw fr) st go) fun r s4 c2=>?_
    obtain ⟨u,aq,cS⟩:=c2;subst aq;refine bQ cS fun _ s5 c2=>?_
    obtain ⟨x,dj,x8,Kx,GW,ta,IT⟩:=c2;have GB:=x8.pinned (KH Lw IT) (T.obj _ _ ta);refine bQ (B.Oh C ec iZ bS _ s5 _ dj x u _ GB Kx (step x dj GW)) fun _ l6 c2=>?_
    obtain ⟨mm,hc,Jj,pa,JX⟩:=c2;refine bQ (B.tests C ec iZ bS _ l6 mm hc _ Jj JX) fun c l9 c2=>?_
    obtain ⟨f3,lh,nL⟩:=c2;have again:∀ {uS:St} {iS:aw} {iH:Shared},Inv (X.block scope C N ec iZ bS) ([(D,{ cls:=.type "list",data:=.seq vs.toArray n })] ++ wZ bS s5.heap) uS iS iH->iO (i + 1) iH.heap/\(∀ b ∈ bS,iS b=none):=fun {uS iS iH} pT=>by
     refine ⟨T.keep _ _ _ ta fun b ae o e=>(pT.pin (b,o) (jh _ (jh _ (C0 ae e)))).1,fun b ae=>?_⟩;obtain ⟨o,e,d⟩:=T.obj _ _ ta b ae;exact (pT.pin (b,o) (jh _ (jh _ (C0 ae e)))).2.1
    have back:∀ {iS:aw} {iH:Shared} {pl:List (Addr × Obj)},Inv (X.block scope C N ec iZ bS) pl mm iS iH->Inv (X.block scope C N ec iZ bS) pl (blk sel σ) iS iH:=fun {iS iH pl} pT=>pT.weak pa.1.symm pa.2
    cases c with
    | false=>
     obtain ⟨dB,hm,fs⟩:=nL;obtain ⟨t1,d7⟩:=again lh;exact ⟨dB,hm,i + 1,ys,_,n,f3,back lh.zb,⟨vs,rfl,cV⟩,NM,t1,d7,fs⟩
    | true=>
     refine bQ (B.elem C ec iZ bS _ l9 mm f3 _ lh nL) fun v iH c2=>?_
     obtain ⟨y,iS,pT,agj,dB,hm,fs⟩:=c2;obtain ⟨t1,d7⟩:=again pT;have rZ:=pT.pin (D,{ cls:=.type "list",data:=.seq vs.toArray n }) (by simp);refine append_at (hsz:=by have:=cV.length;rw [d8];omega) rZ.1 fun yv Vq ajT=>?_
     have adk:Inv (X.block scope C N ec iZ bS) [] (blk sel σ) iS iH:=(back pT).sY fun p ar=>nomatch ar
     have rQ:j_ (X.block scope C N ec iZ bS) [] iS D:=⟨rZ.2.1,yf,DO,.inr (by show ec.heap.objs.size <= D;rw [o6];exact b8 _),(fun x c e z=>by
      obtain ⟨apk,o,aT,hd⟩:=pT.cell x c e;rw [z,rZ.1] at aT;cases aT;cases hd),(fun p ar=>nomatch ar)⟩
     have ahs:Inv (X.block scope C N ec iZ bS) [] (blk sel σ) iS { iH with heap:=yv }:=adk.turned (t':=iH.toks) (it:=D) (fun b o ae e=>(Vq.2 b ae).trans e) rQ.1 rQ.2.1 rQ.2.2.2.1 rQ.2.2.2.2.1 rQ.2.2.2.2.2;refine ⟨dB,hm,i + 1,ys ++ [y],vs.toArray.push v,n + 1,iS,ahs.sY fun p ar=>?_,⟨vs ++ [v],by simp,RP cV agj⟩,by rw [dZ,I6];omega,T.keep _ _ _ t1 fun b ae o e=>(Vq.2 b (below b (wy b ae)).2).trans e,d7,fs⟩;have e:p=(D,{ cls:=.type "list",data:=.seq (vs.toArray.push v) (n + 1) }):=by simpa using ar
     subst e;exact ⟨ajT,rZ.2.1,yf,DO,fun v z=>by cases z⟩
  .have e:p=(D,{ cls:=.type "list",data:=.seq ([]:List Value).toArray }):=by simpa using ar
   subst e;exact ⟨JU,b3.bl.fresh (by rw [o6];exact b8 _),yf,DO,fun v z=>by cases z⟩
 exact codeAny_compStart_list (loop _ rfl) (T.self _ 0 _ _ _ NZ (loop _ rfl))
theorem fT (aA:X.calm=true) (ah:pV X dn iter wi) (S:ro X.env scope) (qS:yb X.N scope N sel) (B:eO X scope N dn elt ifs g c6 bT)
  (aC:∀ x,foldedSetIterable iter X.env x=pure x:=by intro _;rfl):bD X (.ListComp elt [⟨dn,iter,ifs,0⟩] scope pos) (K5 wi g c6 bT sel):=by
 intro ag s σ H Q J h;rw [eval_ListComp];refine wpAny_comprehension_free (use:=none) rfl aC (MS (S.cells J.ok)) S.kind S.loc ?_;refine bQ (ah ag s σ H _ J h) fun v s1 af=>bQ af fun zz s2 ao=>?_
 obtain ⟨it,bS,iO,b6,aB,e,b3,T,qB,f2,W,nJ,eU⟩:=ao;subst e;refine VK (RR:=fun acc C=>compPost (model X.prog X.w) X.A X.d4 none (g0 X ag σ Q) acc C) aA S qS B b3 T qB f2 nJ eU fun D C ys I ai gS ⟨m,hm⟩ iQ q=>?_
 exact ⟨m,hm,fun h' tr=>⟨.ref D,_,gS.turned (t':=ai.toks) (it:=C) (fun b o ae e=>(tr.2 b ae).trans e) iQ.1 iQ.2.1 iQ.2.2.2.1 iQ.2.2.2.2.1 iQ.2.2.2.2.2,rfl,q⟩⟩
theorem Km {i:Nat} {y:Str} {py Vm:Pos} (bb:X.N.Nodup) (ah:X.N[i]? = some y) (aj:Loc X.env.scope y) (aA:X.calm=true) (hit:pV X dn iter wi) (S:ro X.env scope) (qS:yb X.N scope N sel) (B:eO X scope N dn elt ifs g c6 bT)
  (aiV:swapsWith (.ListComp elt [⟨dn,iter,ifs,0⟩] scope pos) (some (.Name y py)) Vm.line X.env=pure true) (hf:X.fn y=true\/X.env.scope.names.lookup y=some .local:=by first | exact .inl rfl | exact .inr rfl | assumption)
  (aC:∀ x,foldedSetIterable iter X.env x=pure x:=by intro _;rfl):ia X (.Assign [.Name y py] (.ListComp elt [⟨dn,iter,ifs,0⟩] scope pos) Vm) (t9 (K5 wi g c6 bT sel) (hN i)):=by
 intro ag s σ H D J h;rw [exec_Assign_Name_used _ _ _ _ aiV];refine wpAny_bind (wpAny_standAt (wpAny_bind ?_));show wpAny _ X.A (do let _ <- comprehension (.ListComp elt [⟨dn,iter,ifs,0⟩] scope pos) scope X.env _ (newList []) false (eval iter X.env) (some (assign (.Name y py) X.env))) _ _ s;refine wpAny_bind (wpAny_mono (wpAny_comprehension_free (use:=some (assign (.Name y py) X.env)) (Q:=fun _ ai=>rN X ag D .next ai) rfl aC (MS (S.cells J.ok)) S.kind S.loc ?_) (fun _ ai aU=>wpAny_pure (wpAny_pure aU)) fun _ _ e=>e);refine bQ (hit ag s σ H _ J h) fun v s1 af=>bQ af fun zz s2 ao=>?_
 obtain ⟨it,bS,iO,b6,aB,e,b3,T,qB,f2,W,nJ,eU⟩:=ao;subst e;refine VK (RR:=fun acc C=>compPost (model X.prog X.w) X.A X.d4 (some (assign (.Name y py) X.env)) (fun _ ai=>rN X ag D .next ai) acc C) aA S qS B b3 T qB f2 nJ eU fun Da C ys I ai gS ⟨m,hm⟩ iQ q=>?_
 show wpAny _ X.A (assign (.Name y py) X.env (.ref Da)) _ _ _;refine wpAny_assign_Name (Rh gS bb ah aj (show bM (.ref Da) (.ref Da) from rfl) (fun s3 fe c2=>?_) hf);obtain ⟨a,tr,aR⟩:=c2;have adI:C ≠ a:=by
  rcases aR with z | z
  .rw [z];exact iQ.2.1
  .exact fun w=>iQ.2.2.2.2.1 y a z w.symm
 refine ⟨m,hm.sameBut tr adI,fun h' alf=>⟨_,_,fe.turned (t':=s3.toks) (it:=C) (fun b o ae e=>(alf.2 b ae).trans e) iQ.1 iQ.2.1 iQ.2.2.2.1 iQ.2.2.2.2.1 iQ.2.2.2.2.2,q⟩⟩
end
def ii (Pv:Nat->List V->aw->Prop) (g:gJ) (c6:TT) (bT:TE) (da:St) (i:Nat) (x:V) (ys:List V) (H:aw):Prop:=
 ∀ N:List V->aw->Prop,(∀ jV I,Pv (i + 1) jV I->N jV I)->g x da H fun cb aB=>Sub da cb/\c6 cb aB fun c bw=>if c=true then bT cb bw fun y cI=>N (ys ++ [y]) cI else N ys bw
theorem aaL {K:bk} (Pv:Nat->List V->aw->Prop) (aO:xs.length <= sizeLine) (h0:Pv 0 [] H) (aM:∀ i ys H,i <= xs.length->Pv i ys H->av K H a xs/\ys.length <= i)
  (aC:∀ i x ys H,xs[i]? = some x->Pv i ys H->ii Pv g c6 bT da i x ys H) (hd:∀ ys H,Pv xs.length ys H->∀ p,H p=none->Q (.ref p) (upd H p (.lst ys))) :
  ∃ W:Nat->Nat->List V->aw->Prop,(∃ m,W 0 m [] H)/\sI (nQ K a) g c6 bT da Q W:=by
 refine ⟨fun i m ys H=>m=xs.length - i/\i <= xs.length/\Pv i ys H,⟨xs.length,by simp,gv _,h0⟩,?_⟩;rintro i m ys H ⟨rfl,ah,p⟩;have q:=(aM i ys H ah p).1;have Ai:=(aM i ys H ah p).2;by_cases dV:i < xs.length
 .refine .inr ⟨⟨xs,xs[i],q,by simp [dV]⟩,by omega,fun x I y=>?_⟩;obtain ⟨e,y⟩:=y;subst e;exact aC i x ys _ (y xs q) p (fun jV I=>∃ dB,dB < xs.length - i/\dB=xs.length - (i + 1)/\i + 1 <= xs.length/\Pv (i + 1) jV I) fun jV I r=>⟨xs.length - (i + 1),by omega,rfl,dV,r⟩
 .have e:i=xs.length:=by omega
  subst e;exact .inl ⟨⟨xs,q,b8 _⟩,hd ys H p⟩
theorem ajp {K:bk} (Pv:Nat->List V->aw->Prop) (aO:xs.length <= sizeLine) (h0:Pv 0 [] H) (aM:∀ i ys H,i <= xs.length->Pv i ys H->cJ K H a xs/\ys.length <= i)
  (aC:∀ i x ys H,xs[i]? = some x->Pv i ys H->ii Pv g c6 bT da i x ys H) (hd:∀ ys H,Pv xs.length ys H->∀ p,H p=none->Q (.ref p) (upd H p (.lst ys))) :
  ∃ W:Nat->Nat->List V->aw->Prop,(∃ m,W 0 m [] H)/\sI (Cy K a) g c6 bT da Q W:=by
 refine ⟨fun i m ys H=>m=xs.length - i/\i <= xs.length/\Pv i ys H,⟨xs.length,by simp,gv _,h0⟩,?_⟩;rintro i m ys H ⟨rfl,ah,p⟩;have q:=(aM i ys H ah p).1;have Ai:=(aM i ys H ah p).2;by_cases dV:i < xs.length
 .refine .inr ⟨⟨xs,xs[i],q,by simp [dV]⟩,by omega,fun x I y=>?_⟩;obtain ⟨e,y⟩:=y;subst e;exact aC i x ys _ (y xs q) p (fun jV I=>∃ dB,dB < xs.length - i/\dB=xs.length - (i + 1)/\i + 1 <= xs.length/\Pv (i + 1) jV I) fun jV I r=>⟨xs.length - (i + 1),by omega,rfl,dV,r⟩
 .have e:i=xs.length:=by omega
  subst e;exact .inl ⟨⟨xs,q,b8 _⟩,hd ys H p⟩
theorem aey {lo:Int} {n:Nat} {g:gJ} {c6:TT} {bT:TE} {da:St} {Q:cX} {H:aw} (Pv:Nat->List V->aw->Prop) (aO:n <= sizeLine) (h0:Pv 0 [] H) (aM:∀ i ys H,i <= n->Pv i ys H->ys.length <= i)
  (aC:∀ i ys H,i < n->Pv i ys H->ii Pv g c6 bT da i (.int (lo + i)) ys H) (hd:∀ ys H,Pv n ys H->∀ p,H p=none->Q (.ref p) (upd H p (.lst ys))) :
  ∃ W:Nat->Nat->List V->aw->Prop,(∃ m,W 0 m [] H)/\sI (ni lo n) g c6 bT da Q W:=by
 refine ⟨fun i m ys H=>m=n - i/\i <= n/\Pv i ys H,⟨n,by simp,gv _,h0⟩,?_⟩;rintro i m ys H ⟨rfl,ah,p⟩;have Ai:=aM i ys H ah p;by_cases dV:i < n
 .refine .inr ⟨dV,by omega,fun x I y=>?_⟩;obtain ⟨e,y⟩:=y;subst e y;exact aC i ys _ dV p (fun jV I=>∃ dB,dB < n - i/\dB=n - (i + 1)/\i + 1 <= n/\Pv (i + 1) jV I) fun jV I r=>⟨n - (i + 1),by omega,rfl,dV,r⟩
 .have e:i=n:=by omega
  subst e;exact .inl ⟨b8 _,hd ys H p⟩
noncomputable def pX (xs:List V):ke:=⟨fun i _=>i < xs.length,fun i H x I=>I=H/\xs[i]? = some x,fun i _=>xs.length <= i⟩
theorem Rz {w:World} {K:bk} {it:Addr} {St:Nat->Heap->Prop} (eU:∀ A:Around,A.handled=none->Walks P w A it [it] [it] xs.length YE St)
  (cO:∀ i v,YE i v->∃ x,xs[i]? = some x/\bM x v)
  (uZ:∀ i h,St i h->∃ o n vs,h.get? it=some o/\o.cls=.type n/\o.data=.fields vs/\["enumerate","zip","dict_itemiterator","dict_reverseitemiterator","odict_iterator","itertools.zip_longest","itertools.pairwise"].contains n=false)
  (Cb:∀ i h h',St i h->(∀ o,h.get? it=some o->h'.get? it=some o)->St i h')
  (aiO:∀ (A:Around) (i:Nat) (s:Shared) (Q:Value->Shared->Prop) (E:Value->Shared->Prop),St i s.heap->Q (.ref it) s->wpAny (model P w) A (pyIter (.ref it)) Q E s) :
  qy P w K dn (pX xs) [it] it (fun i h=>i <= xs.length/\St i h) where
 mem:=by simp
 obj:=fun i h st b ae=>by
  have e:b=it:=by simpa using ae
  subst e;obtain ⟨o,n,vs,e,_,d,_⟩:=uZ i h st.2;exact ⟨o,e,fun v z=>by rw [d] at z;cases z⟩
 keep:=fun i h h' st k=>⟨st.1,Cb i h h' st.2 fun o e=>k it (by simp) o e⟩
 item:=by
  intro X Lc hw gH aA i ag s σ H E J hf st bp;subst Lc hw gH;obtain ⟨f0,f1,f2,eo,f4,fg⟩:=hf it (by simp);refine (eU X.A (J.ok.hd aA)).item i s _ _ bp st.2 fun v h' tk aI l8 ki=>?_
  obtain ⟨x,aj,a8⟩:=cO i v aI;have a_:Inv X ag σ H { s with heap:=h',toks:=tk }:=J.turned (fun b o ae e=>ki b o (by simpa using ae) e) f0 f1 eo f4 fg;obtain ⟨o,n,vs,e,c,d,nm⟩:=uZ _ _ l8;exact ⟨v,rfl,vZ (s:={ s with heap:=h',toks:=tk }) e c d nm ⟨x,H,a_,a8,⟨rfl,aj⟩,⟨bp,l8⟩,fun b ae=>(hf b ae).1⟩⟩
 done:=by
  intro X Lc hw gH aA i ag s σ H E J hf st bp;subst Lc hw gH;obtain ⟨f0,f1,f2,eo,f4,fg⟩:=hf it (by simp);have e:i=xs.length:=Nat.le_antisymm st.1 bp;subst e;exact (eU X.A (J.ok.hd aA)).done s _ _ st.2 fun h' tk ki=>⟨rfl,J.turned (fun b o ae e=>ki b o (by simpa using ae) e) f0 f1 eo f4 fg⟩
 self:=fun A i s Q E st h=>aiO A i s Q E st.2 h
noncomputable def jO (c:Nat):Str:=⟨#[c]⟩
noncomputable def og (x:Str):List V:=x.cps.toList.map fun c=>V.str (jO c)
theorem Mk (x:Str):(og x).length=x.cps.size:=by unfold og;simp
theorem XC {x:Str} {i c:Nat} (h:x.cps[i]? = some c):(og x)[i]? = some (.str (jO c)):=by
 unfold og;rw [cN,N_,h];rfl
theorem Ix {x:Str} {i:Nat} {v:Value} (h:SignAt x i v):∃ y,(og x)[i]? = some y/\bM y v:=by
 obtain ⟨c,u,aA,rfl⟩:=h;exact ⟨.str (jO c),XC aA,u,rfl⟩
section
variable {X:bg} {dn:Expr}
noncomputable def Ka (c0:TE):TI:=fun σ H R=>c0 σ H fun x H1=>∃ z,x=.str z/\R (pX (og z)) H1
theorem aiF (aM:bD X l c0):pV X dn l (Ka c0):=by
 intro ag s σ H R J h;refine bQ (aM ag s σ H _ J h) fun v s1 cj=>el cj fun x H1 a_ cQ bR=>?_
 obtain ⟨z,e,q⟩:=bR;subst e;obtain ⟨t,rfl⟩:=cQ;have iQ:∀ b ∈ [s1.heap.objs.size],j_ X ag H1 b:=fun b ae=>by
  have e:b=s1.heap.objs.size:=by simpa using ae
  subst e;exact a_.p7 (b8 _) (a_.bl.fresh (b8 _))
 have aO:=Mk z;cases aR:z.cps.all (· < 128) with
 | false=>
  refine wpAny_pyIter_wide aR ⟨s1.heap.objs.size,[s1.heap.objs.size],fun i h=>i <= (og z).length/\h.IsStrIter s1.heap.objs.size "str_iterator" z t i,_,H1,rfl,a_.kept (t':=s1.toks) fun b o e=>e6 _ e,
   Rz (fun A j0=>by rw [aO];exact Walks.strWide j0 _ z t) (fun i v=>Ix) (fun i h ⟨o,e,c,d⟩=>⟨o,_,_,e,c,d,by decide⟩) (fun i h h' ⟨o,e,r⟩ k=>⟨o,k o e,r⟩) (fun A i s Q E st q=>wpAny_pyIter_striter_wide st q),
   ⟨gv _,_,hs _ rfl,rfl,rfl⟩,iQ,q⟩
 | true=>
  refine wpAny_pyIter_ascii aR ⟨s1.heap.objs.size,[s1.heap.objs.size],fun i h=>i <= (og z).length/\h.IsStrIter s1.heap.objs.size "str_ascii_iterator" z t i,_,H1,rfl,a_.kept (t':=s1.toks) fun b o e=>e6 _ e,
   Rz (fun A j0=>by rw [aO];exact Walks.strAscii j0 _ z t) (fun i v=>Ix) (fun i h ⟨o,e,c,d⟩=>⟨o,_,_,e,c,d,by decide⟩) (fun i h h' ⟨o,e,r⟩ k=>⟨o,k o e,r⟩) (fun A i s Q E st q=>wpAny_pyIter_striter_ascii st q),
   ⟨gv _,_,hs _ rfl,rfl,rfl⟩,iQ,q⟩
end
theorem amx {xs:List V} {g:gJ} {b1:eH} {D:hF} {σ:St} {H:aw} (Pv:Nat->St->aw->Prop) (h0:Pv 0 σ H)
  (aC:∀ i x σ H,xs[i]? = some x->Pv i σ H->g x σ H fun cb aB=>b1 { D with cG:=Pv (i + 1),fl:=Pv (i + 1),cM:=D.cG } cb aB) (hd:∀ σ H,Pv xs.length σ H->D.cG σ H) :
  ∃ W:Nat->Nat->St->aw->Prop,(∃ m,W 0 m σ H)/\∀ i m σ H,W i m σ H ->
   ((pX xs).stop i H/\D.cG σ H)\/((pX xs).go i H/\∃ N:St->aw->Prop,(∀ az I,N az I->∃ dB,dB < m/\W (i + 1) dB az I)/\∀ x I,(pX xs).qi i H x I->g x σ I fun cb aB=>b1 { D with cG:=N,fl:=N,cM:=D.cG } cb aB):=by
 refine ⟨fun i m σ H=>m=xs.length - i/\i <= xs.length/\Pv i σ H,⟨xs.length,by simp,gv _,h0⟩,?_⟩;rintro i m σ H ⟨rfl,ah,p⟩;by_cases dV:i < xs.length
 .refine .inr ⟨dV,Pv (i + 1),fun az I eD=>⟨xs.length - (i + 1),by omega,rfl,dV,eD⟩,fun x I y=>?_⟩;obtain ⟨e,y⟩:=y;subst e;exact aC i x σ _ y p
 .have e:i=xs.length:=by omega
  subst e;exact .inl ⟨b8 _,hd σ H p⟩
theorem ah5 (Pv:Nat->List V->aw->Prop) (aO:xs.length <= sizeLine) (h0:Pv 0 [] H) (aM:∀ i ys H,i <= xs.length->Pv i ys H->ys.length <= i)
  (aC:∀ i x ys H,xs[i]? = some x->Pv i ys H->ii Pv g c6 bT da i x ys H) (hd:∀ ys H,Pv xs.length ys H->∀ p,H p=none->Q (.ref p) (upd H p (.lst ys))) :
  ∃ W:Nat->Nat->List V->aw->Prop,(∃ m,W 0 m [] H)/\sI (pX xs) g c6 bT da Q W:=by
 refine ⟨fun i m ys H=>m=xs.length - i/\i <= xs.length/\Pv i ys H,⟨xs.length,by simp,gv _,h0⟩,?_⟩;rintro i m ys H ⟨rfl,ah,p⟩;have Ai:=aM i ys H ah p;by_cases dV:i < xs.length
 .refine .inr ⟨dV,by omega,fun x I y=>?_⟩;obtain ⟨e,y⟩:=y;subst e;exact aC i x ys _ y p (fun jV I=>∃ dB,dB < xs.length - i/\dB=xs.length - (i + 1)/\i + 1 <= xs.length/\Pv (i + 1) jV I) fun jV I r=>⟨xs.length - (i + 1),by omega,rfl,dV,r⟩
 .have e:i=xs.length:=by omega
  subst e;exact .inl ⟨b8 _,hd ys H p⟩
section
variable {X:bg}
noncomputable def JQ:V->Option Int->Option Int->aw->cX->Prop:=fun x lo ah H Q=>∃ z,x=.str z/\z.length <= sizeLine/\Q (.str (mN z lo ah)) H
theorem Dm:CL X JQ:=by
 intro ag s σ H x v jW jY lo ah a6 Q J a8 aC pl pu h;obtain ⟨z,rfl,aO,q⟩:=h;obtain ⟨t,rfl⟩:=a8;refine ⟨"str",_,F.slot_str_getitem.lookup,typeIs_str s z t,?_⟩;have fin:∀ t' k,g0 X ag σ Q (.str (mN z lo ah) t') { s with toks:=k }:=fun t' k=>⟨.str _,H,J.tok _,⟨_,rfl⟩,q⟩
 cases pl with
 | none=>
  cases pu with
  | none=>exact wpAny_getItem_str_slice (l:=none) (u:=none) (st:=none) aC rfl (post_val_or_str ⟨cP (uk z _ _) aO,fin⟩)
  | int j Jp=>exact wpAny_getItem_str_slice (l:=none) (u:=some (j,Jp)) (st:=none) aC rfl (post_val_or_str ⟨cP (uk z _ _) aO,fin⟩)
 | int i Qr=>
  cases pu with
  | none=>exact wpAny_getItem_str_slice (l:=some (i,Qr)) (u:=none) (st:=none) aC rfl (post_val_or_str ⟨cP (uk z _ _) aO,fin⟩)
  | int j Jp=>exact wpAny_getItem_str_slice (l:=some (i,Qr)) (u:=some (j,Jp)) (st:=none) aC rfl (post_val_or_str ⟨cP (uk z _ _) aO,fin⟩)
noncomputable def aW (ys:List Str):List V:=ys.map V.str
theorem OJ:∀ {ys:List Str} {us:List Value},b0 (aW ys) us->StrsAre us ys:=by
 intro ys
 induction ys with
 | nil=>intro us r;cases r;exact .nil
 | cons y ys cE=>
  intro us r;cases r with
  | cons cQ gz=>
   obtain ⟨t,rfl⟩:=cQ;exact .cons y t (cE gz)
theorem Sh:∀ (l:List (Str × Tok)),b0 (aW (l.map (·.1))) (strValues l)
 | []=>.nil
 | (x,t) :: r=>.cons ⟨t,rfl⟩ (Sh r)
noncomputable def JR (K:bk):V->List V->aw->cX->Prop:=fun x vs H Q=>∃ sep p ys,x=.str sep/\vs=[.ref p]/\av K H p (aW ys)/\(ys.map (·.length)).sum + ys.length * sep.length <= 16777216/\Q (.str (p2 sep ys)) H
theorem vE:uI X "str.join" (JR X.K):=by
 intro ag s σ H x xs v us Q J a8 cV h;obtain ⟨sep,p,ys,rfl,rfl,aU,aO,q⟩:=h;obtain ⟨t,rfl⟩:=a8;obtain ⟨u,rfl,fB⟩:=jP cV;cases fB;obtain ⟨aV,r,pl,_⟩:=J.list aU;exact join_list pl.isList (by simpa using OJ r) aO fun t' k=>⟨.str _,H,J.tok _,⟨_,rfl⟩,q⟩
end
theorem adQ {prog:Program} {w:World} {A:Around} {x y:Str} {t u:Tok} (a9:(y.length == 0)=false)
  (h:∀ l k,l.map (·.1)=i' x y->Q (.ref s.heap.objs.size) { s with heap:=s.heap.push { cls:=.type "list",data:=.seq (strValues l).toArray },toks:=k }) (hsz:x.length + 2 <= sizeLine) :
  wpAny (model prog w) A (call (.builtin "str.split") [.str x t,.str y u]) Q E s:=by
 have aQ:(ad7 x (sm x y 0 x.length (x.length + 1)) y.length).length <= sizeLine:=by
  have ax:=StrLaws.occ_length_le x y 0 x.length (x.length + 1);rw [length_partsBetween];omega
 cases af:(decide (x.length < y.length) || decide (alF x < alF y))
 .cases hf:(sm x y 0 x.length (x.length + 1)).isEmpty
  .refine call_meets B6 (typeIs_str _ _ _) VM (Ni _ _) (meets_str_split_sep x y t u af a9 hf (by omega) aQ) ?_;show wants Q E _ { s with toks:=_,heap:=s.heap.push { cls:=.type "list",data:=.seq (strsFrom s.toks (ad7 x (sm x y 0 x.length (x.length + 1)) y.length)).toArray } };rw [strsFrom_eq];exact h (numbered s.toks _) _ ((numbered_texts _ _).trans ((if_neg (ne_true_of_eq_false af)).trans (if_neg (ne_true_of_eq_false hf))).symm)
  .exact call_meets B6 (typeIs_str _ _ _) VM (Ni _ _) (meets_str_split_not_found x y t u af a9 hf)
    (h [(x,t)] s.toks ((if_neg (ne_true_of_eq_false af)).trans (if_pos hf)).symm)
 .exact call_meets B6 (typeIs_str _ _ _) VM (Ni _ _) (meets_str_split_cannot_occur x y t u af)
   (h [(x,t)] s.toks (if_pos af).symm)
section
variable {X:bg}
noncomputable def LH:V->List V->aw->cX->Prop:=fun x vs H Q=>∃ z y,x=.str z/\vs=[.str y]/\y.length ≠ 0/\z.length + 2 <= sizeLine/\(i' z y).length <= sizeLine/\∀ p,H p=none->Q (.ref p) (upd H p (.lst (aW (i' z y))))
theorem MZ:uI X "str.split" LH:=by
 intro ag s σ H x xs v us Q J a8 cV h;obtain ⟨z,y,rfl,rfl,a9,aO,aQ,q⟩:=h;obtain ⟨t,rfl⟩:=a8;obtain ⟨u,rfl,fB⟩:=jP cV;obtain ⟨LQ,rfl⟩:=fB;refine adQ (by simpa using a9) (fun l k aM=>?_) aO;refine ⟨.ref s.heap.objs.size,_,J.laid (t':=k) (o:=.lst (aW (i' z y))) (fun b o e=>e6 _ e) (b8 _) ⟨by unfold aW;rw [aP];exact aQ,strValues l,0,by rw [<- aM];exact Sh l,hs _ rfl⟩,rfl,q _ (J.bl.fresh (b8 _))⟩
theorem aa2:jw X (.type "int") (fun xs H Q=>∃ z n,xs=[.str z]/\intText? z=some n/\z.length <= 640/\Q (.int n) H):=by
 intro ag s σ H xs us Q J r h;obtain ⟨z,n,rfl,aQ,aO,q⟩:=h;obtain ⟨u,rfl,t,rfl⟩:=jP r;exact PySem.W.KIN.call_text aQ aO ⟨.int n,H,J.tok _,⟨_,rfl⟩,q⟩
theorem Ma:∀ {bs:List Bool} {us:List Value},b0 (bs.map V.br) us->us=bs.map kL
 | [],_,.nil=>rfl
 | b :: bs,_,.cons r t=>by
  have e:_=kL b:=r;rw [e,Ma t];rfl
theorem Qf {A:Around} (bs:List Bool):TruthOf X.prog X.w A (fun i v=>(bs.map kL).toArray[i]? = some v) (fun i=>bs.getD i true):=by
 intro i v s Q E cO a0;have e:(bs.map kL)[i]? = some v:=by simpa using cO
 rw [cN] at e;cases q:bs[i]? with
 | none=>rw [q] at e;cases e
 | some b=>
  rw [q] at e;have bF:kL b=v:=ei e;subst bF;refine wpAny_truthy_bool ?_;have:bs.getD i true=b:=by simp [C4,q]
  have nP:Q (bs.getD i true) s:=a0;rw [this] at nP;exact nP
theorem agE (bs:List Bool):(dw bs.length).all (fun i=>bs.getD i true)=bs.all id:=by
 rw [ig];simp only [oh,g7,id];constructor
 .intro h b ae;obtain ⟨i,ah,e⟩:=af8.mp ae;have:=h i ah;simp [C4,ah,e] at this;exact this
 .intro h i ah;simp [C4,ah];exact h _ (fM ah)
theorem alu (bs:List Bool):(dw bs.length).any (fun i=>bs.getD i true)=bs.any id:=by
 rw [ig];simp only [oY,g7,id];constructor
 .rintro ⟨i,ah,h⟩;refine ⟨bs[i],fM ah,?_⟩;simp [C4,ah] at h;exact h
 .rintro ⟨b,ae,h⟩;obtain ⟨i,ah,e⟩:=af8.mp ae;refine ⟨i,ah,?_⟩;simp [C4,ah,e];exact h
theorem KM (aA:X.calm=true):jw X (.builtin "all") (fun xs H Q=>∃ (p:Addr) (bs:List Bool),xs=[.ref p]/\av X.K H p (bs.map V.br)/\Q (.br (bs.all id)) H):=by
 intro ag s σ H xs us Q J r h;obtain ⟨p,bs,rfl,aU,q⟩:=h;obtain ⟨u,rfl,fB⟩:=jP r;cases fB;obtain ⟨aV,cV,pl,_⟩:=J.list aU;have e:=Ma cV;subst e;refine call_all_walk (wpAny_pyIter_list pl.isList ?_);have ct:p ≠ s.heap.objs.size:=gX (by obtain ⟨o,_,aT,_⟩:=pl;exact eV aT);refine ⟨s.heap.objs.size,_,_,_,_,_,fun i=>bs.getD i true,rfl,CT (show X.A.in1.handled=none from J.ok.hd aA) _ p ct (bs.map kL).toArray,⟨⟨_,hs _ rfl,rfl,rfl⟩,pl.isList.at fun o e=>e6 _ e⟩,Qf bs,fun h' tk ki=>?_⟩;refine ⟨.br (bs.all id),H,J.kept fun b o e=>ki b o (by simpa using gX (eV e)) (e6 _ e),?_,q⟩;show kL _=kL _;rw [show (bs.map kL).toArray.size=bs.length by simp,agE]
theorem af4 (aA:X.calm=true):jw X (.builtin "any") (fun xs H Q=>∃ (p:Addr) (bs:List Bool),xs=[.ref p]/\av X.K H p (bs.map V.br)/\Q (.br (bs.any id)) H):=by
 intro ag s σ H xs us Q J r h;obtain ⟨p,bs,rfl,aU,q⟩:=h;obtain ⟨u,rfl,fB⟩:=jP r;cases fB;obtain ⟨aV,cV,pl,_⟩:=J.list aU;have e:=Ma cV;subst e;refine call_any_walk (wpAny_pyIter_list pl.isList ?_);have ct:p ≠ s.heap.objs.size:=gX (by obtain ⟨o,_,aT,_⟩:=pl;exact eV aT);refine ⟨s.heap.objs.size,_,_,_,_,_,fun i=>bs.getD i true,rfl,CT (show X.A.in1.handled=none from J.ok.hd aA) _ p ct (bs.map kL).toArray,⟨⟨_,hs _ rfl,rfl,rfl⟩,pl.isList.at fun o e=>e6 _ e⟩,Qf bs,fun h' tk ki=>?_⟩;refine ⟨.br (bs.any id),H,J.kept fun b o e=>ki b o (by simpa using gX (eV e)) (e6 _ e),?_,q⟩;show kL _=kL _;rw [show (bs.map kL).toArray.size=bs.length by simp,alu]
theorem ac0:jw X (.builtin "isinstance") (fun xs H Q=>∃ x T t b,xs=[x,.ty T]/\lA X.K H x t/\ahS X.K t (.type T)=some b/\Q (.br b) H):=by
 intro ag s σ H xs us Q J r h;obtain ⟨x,T,t,b,rfl,ty,e,q⟩:=h;obtain ⟨u,Vf,rfl,a8,gz⟩:=P1 r;cases gz;exact dL J a8 ty e fun tk=>⟨.br b,H,J.tok _,rfl,q⟩
end
theorem d1 {X:bg} {N:List Str} (h:N.Nodup) (e:X.N=N):X.N.Nodup:=e ▸ h
noncomputable def US (sc scope:Scope):Bool:=
 (scope.kind == .function) && scope.names.all (fun y=>y.2 != .cell) && scope.names.all (fun y=>y.2 != .free || sc.names.lookup y.1 == some .cell || sc.names.lookup y.1 == some .free) &&
  scope.names.all (fun y=>y.2 != .local || scope.names.lookup y.1 == some .local)
theorem ac {env:Env} (he:env.scope=sc) (h:US sc scope=true):ro env scope:=by
 subst he;unfold US at h;simp only [g_,oh] at h;obtain ⟨⟨⟨af,ao⟩,bj⟩,cS⟩:=h;refine ⟨by simpa using af,fun y a9 e=>?_,fun y a9 e=>?_,fun y a9 e=>?_⟩
 .have:=ao y a9;rw [e] at this;exact absurd this (by decide)
 .have:=bj y a9;rw [e] at this;simp only [wI] at this;rcases this with (z | z) | z
  .exact absurd z (by decide)
  .exact .inl (show env.scope.names.lookup y.1=some .cell by simpa using z)
  .exact .inr (show env.scope.names.lookup y.1=some .free by simpa using z)
 .have:=cS y a9;rw [e] at this;simp only [wI] at this;rcases this with z | z
  .exact absurd z (by decide)
  .simpa using z
noncomputable def Ng (M:List Str) (scope:Scope) (N:List Str) (sel:List (Option Nat)):Bool:=
 sel.length == N.length && (sel.zip N).all fun p=>match p.1 with | none=>true | some j=>M[j]? == some p.2 && scope.names.lookup p.2 == some .free
theorem fw {N:List Str} (h:Ng M scope N sel=true):yb M scope N sel:=by
 unfold Ng at h;simp only [g_,oh] at h;refine ⟨by simpa using h.1,fun i j x ax aK=>?_⟩;have hm:(some j,x) ∈ sel.zip N:=by
  rw [List.mem_iff_getElem?];exact ⟨i,by rw [List.getElem?_zip_eq_some];exact ⟨ax,aK⟩⟩
 have:=h.2 _ hm;simp only [g_] at this;exact ⟨by simpa using this.1,by simpa using this.2⟩
noncomputable def pF:fz->Bool
 | .gc _=>false
 | .ey _ u=>pF u
 | _=>true
def aL (H:aw):Prop:=∀ b o,H b=some o->pF o=true
theorem dT.back {w:World} {h h':Heap}:∀ (o:fz),pF o=true->dT P w I h' a o->dT P w H h a o->dT P w H h' a o
 | .lst _,_,x,_=>x
 | .tup _,_,x,_=>x
 | .bu _,_,x,_=>x
 | .gc _,e,_,_=>absurd e (by unfold pF;decide)
 | .set _ _,_,x,_=>x
 | .ins _ _ _,_,x,y=>⟨y.1,x.2⟩
 | .own _,_,x,_=>x
 | .z' _,_,x,_=>x
 | .met _ _,_,x,_=>x
 | .m2 _ _,_,x,_=>x
 | .ey b' u,e,x,y=>⟨x.1,dT.back u (by unfold pF at e;exact e) x.2 y.2⟩
 | .g6 _,_,x,_=>x
 | .ext _,_,x,_=>x
section
variable {P:Program} {w:World} {K:bk} {mg:Str->Option Value} {base:Heap}
theorem cK.forget {k:Nat} {fd:FuncData} (F:cK P w K mg base dE k f fd ps sp)
  (h:∀ vs H Q E,yc vs H Q E->aL H/\sp vs H (fun v I=>aN H I/\Q v H) E):cK P w K mg base dE k f fd ps yc:=by
 refine ⟨fun vs H Q E q=>F.len vs H _ E (h vs H Q E q).2,fun A outer s H args us vs Q E aq he ae aI aC=>?_⟩;obtain ⟨bE,q⟩:=h vs H Q E aC;refine codeAny_mono (F.run A outer s H args us vs _ E aq he ae aI q) fun r ai aU=>?_
 cases r with
 | error e=>exact aU
 | ok eF=>
  cases eF with
  | next=>exact aU
  | brk=>exact aU
  | cont=>exact aU
  | ret u=>
   obtain ⟨v,I,os,bare,un,bl,cV,bA,eI⟩:=aU;exact ⟨v,H,os,bare,⟨un.keep,un.slot,fun _ _ _ n _=>n,un.there,fun _ _ z=>z,fun _ _ _ z=>z,fun _ ps z=>⟨#[],by rw [z];simp⟩⟩,fun a o e=>(bl a o (bA a o e)).back o (bE a o e) (he.bl a o e),cV,eI⟩
end
theorem bq {p:Addr} (h:H p=none):aN H (upd H p o):=fun b u q=>by rw [aG (Db q h)];exact q
theorem aN.ff {p:Addr} (s:aN H H1) (h:H p=none):aN H (upd H1 p o):=fun b u q=>by rw [aG (Db q h)];exact s b u q
structure Sc (K:bk) (a:Addr) (ns:List Int) (H:aw):Prop where
 kp:(∃ o,H a=some (.ey o (.lst (ns.map V.int))))\/∃ (o:Obj) (aV:Array Value) (n:Nat),K.lookup a=some o/\o.cls=.type "list" /\ o.dict=none/\o.data=.seq aV n/\aV.size <= sizeLine/\b0 (ns.map V.int) aV.toList
 bE:aL H
section
variable {K:bk} {a p:Addr} {ns:List Int} {H I:aw} {o:fz}
theorem Sc.seq (s:Sc K a ns H):av K H a (ns.map V.int):=by
 rcases s.kp with ⟨o,h⟩ | h
 .exact .inl (.inr ⟨o,h⟩)
 .exact .inr h
theorem Sc.new (s:Sc K a ns H) (ar:H p=none) (aT:pF o=true:=by rfl):Sc K a ns (upd H p o):=by
 refine ⟨?_,fun b u e=>?_⟩
 .rcases s.kp with ⟨b',h⟩ | h
  .exact .inl ⟨b',by rw [aG (Db h ar)];exact h⟩
  .exact .inr h
 .by_cases ae:b=p
  .subst ae;rw [db] at e;cases e;exact aT
  .rw [aG ae] at e;exact s.bE b u e
theorem Sc.set (s:Sc K a ns H) (ar:H p=some u) (bC:∀ b' z,u ≠ .ey b' z) (aT:pF o=true:=by rfl):Sc K a ns (upd H p o):=by
 refine ⟨?_,fun b x e=>?_⟩
 .rcases s.kp with ⟨b',h⟩ | h
  .refine .inl ⟨b',?_⟩;have ct:a ≠ p:=fun z=>by subst z;rw [ar] at h;exact bC _ _ (ei h)
   rw [aG ct];exact h
  .exact .inr h
 .by_cases ae:b=p
  .subst ae;rw [db] at e;cases e;exact aT
  .rw [aG ae] at e;exact s.bE b x e
end
theorem fZ:bootBuiltins "len"=some (.builtin "len"):=PySem.boot_len
theorem air:bootBuiltins "all"=some (.builtin "all"):=by ac_nf
theorem ahM:bootBuiltins "any"=some (.builtin "any"):=by ac_nf
theorem Aa:bootBuiltins "max"=some (.builtin "max"):=by ac_nf
theorem Xh:bootBuiltins "isinstance"=some (.builtin "isinstance"):=by ac_nf
theorem uA:bootBuiltins "int"=some (.type "int"):=by ac_nf
theorem xA:bootBuiltins "str"=some (.type "str"):=by ac_nf
theorem akc:bootBuiltins "bool"=some (.type "bool"):=by ac_nf
theorem AM:bootBuiltins "list"=some (.type "list"):=by ac_nf
theorem j'.same (h:j' H a o) (s:aN H I):j' I a o:=by
 rcases h with h | ⟨b',h⟩
 .exact .inl (s _ _ h)
 .exact .inr ⟨b',s _ _ h⟩
theorem av.same {K:bk} (h:av K H a xs) (s:aN H I):av K I a xs:=by
 rcases h with h | h
 .exact .inl (h.same s)
 .exact .inr h
theorem cJ.same {K:bk} (h:cJ K H a xs) (s:aN H I):cJ K I a xs:=by
 rcases h with h | h
 .exact .inl (h.same s)
 .exact .inr h
theorem aL.upd {p:Addr} (h:aL H) (aT:pF o=true:=by rfl):aL (upd H p o):=fun b u e=>by
 by_cases ae:b=p
 .subst ae;rw [db] at e;cases e;exact aT
 .rw [aG ae] at e;exact h b u e
theorem Sc.same {K:bk} {ns:List Int} (s:Sc K a ns H) (bA:aN H I) (bE:aL I):Sc K a ns I:=by
 refine ⟨?_,bE⟩;rcases s.kp with ⟨o,h⟩ | h
 .exact .inl ⟨o,bA _ _ h⟩
 .exact .inr h
structure Vz (K:bk) (C:Addr) (m:Str) (f:Addr):Prop where
 lO:abr K C (.type "type")=true
 fd:aef K (.ref C) (.type "type") m=some (.val (.ref f))
 ga:tZ K (.ref C) "__getattribute__"=some (some (.builtin "type.__getattribute__"))
 bG:sM K (.ref f)=true
structure qt (P:Program) (w:World) (K:bk) (mg:Str->Option Value) (base:Heap) (CX:ka) (k:Nat) (o9:Addr->Prop) (m:Str) (ps:List Str) (oO:Addr->bW):Prop where
 ok:∀ C,o9 C->∃ f fd,hI K C/\gd K C m f/\cK P w K mg base CX k f fd ps (oO C)/\b_ K fd ps []
noncomputable def Qw (o9:Addr->Prop) (m:Str) (oO:Addr->bW) (E:gG) (bo:TE) (t:gw):TE:=fun σ H Q=>bo σ H fun x H1=>∃ a C ay aX,x=.ref a/\H1 a=some (.ins C ay aX)/\o9 C/\aX.lookup m=none /\
 t σ H1 fun vs aB=>oO C (x :: vs) aB Q E
section
variable {X:bg} {CX:ka} {k:Nat} {f C:Addr} {fd:FuncData} {ps:List Str} {sp:bW} {dvs:List V} {ds:List Value} {E:gG} {x m:Str} {p pos gi:Pos} {e o:Expr} {ba:List Expr} {bo:TE} {t:gw}
theorem Kw (bp:mO X x) (hm:X.mg x=some (.ref C)) (c:Vz X.K C m f) (F:cK X.prog X.w X.K X.mg X.base CX k f fd ps sp) (aq:eP k X.A) (ae:b_ X.K fd ps ds) (hd:b0 dvs ds) (aj:qp CX X E) (aR:kJ X (e :: ba) t)
  (il:(x == ("__debug__" : Str))=false:=by decide) (h8:starEach (e :: ba) X.env=(false,eval e X.env) :: starEach ba X.env:=by rfl) (c4:(backTo pos (starEach ba X.env)).any (·.1)=false:=by rfl)
  (cT:eval (.Call (.Attribute (.Name x p) m gi) (e :: ba) [] pos) X.env=(do
   let fo <- eval (.Name x p) X.env
   standAt gi.atName
   let (f,first) <- holding [fo] (getMethod fo m pl)
   callWith pos f first (backTo pos (starEach (e :: ba) X.env)) (backToKw pos (keywordEach [] X.env))):=by rfl) :
  bD X (.Call (.Attribute (.Name x p) m gi) (e :: ba) [] pos) (yl sp dvs E t):=by
 intro ag s σ H Q J h;refine EN (pl:=pl) (A9 J bp hm ?_ il) cT;refine PySem.W.method_cls J.gC c.ga (PySem.W.cls_value J.gC c.lO c.fd rfl ?_);have a_:=J.tok (s.toks + 1);refine Fs (first:=[]) (h₀:=X.base) J.ok.mod.ua c.bG (bQ (aR pos ag _ σ H _ a_ h) fun us s2 ⟨vs,aB,b3,r,dS⟩=>⟨b3.gC,?_⟩) h8 c4;exact v' F aq ae hd aj b3 r dS
variable {o9:Addr->Prop} {oO:Addr->bW}
theorem B7 (he:bD X o bo) (V:qt X.prog X.w X.K X.mg X.base CX k o9 m ps oO) (aq:eP k X.A) (aj:qp CX X E)
  (cT:eval (.Call (.Attribute o m gi) [] [] pos) X.env=(do
   let fo <- eval o X.env
   standAt gi.atName
   let (f,first) <- holding [fo] (getMethod fo m pl)
   callWith pos f first (backTo pos (starEach [] X.env)) (backToKw pos (keywordEach [] X.env))):=by rfl) :
  bD X (.Call (.Attribute o m gi) [] [] pos) (Qw o9 m oO E bo vH):=by
 intro ag s σ H Q J h;refine EN (pl:=pl) (bQ (he ag s σ H _ J h) fun u s1 c2=>?_) cT;obtain ⟨x,H1,a_,a8,a,C,ay,aX,ex,e4,ok,l,q⟩:=c2;subst ex;obtain rfl:u=eL a:=a8;obtain ⟨f,fd,c,hm,F,ae⟩:=V.ok C ok;refine Jl a_ e4 c hm l ?_;exact abe (first:=[.ref a]) a_.gC hm.bG (v' (us:=[.ref a]) (vs:=[.ref a]) (dvs:=[]) F aq ae .nil aj a_ (.cons rfl .nil) q)
end
section
variable {X:bg} {x:Str} {p pos:Pos} {i:Expr} {ty:TE} {u:Value} {kvs:List (Str × V)}
end
theorem gU:∀ {aX:List (Str × V)} (cw:List Str),aX.map (·.1)=cw->cw.contains f=false->c9 f v aX=aX ++ [(f,v)]
 | [],_,_,_=>rfl
 | (g,y) :: r,cw,e,h=>by
  cases e;rw [e1,Mf] at h;have af:=(BL.mp h);have ct:¬ g=f:=fun z=>by
   have:=af.1;rw [z] at this;simp at this
  show (if g=f then _ else _)=_;rw [if_neg ct,gU _ rfl af.2];rfl
theorem hq {aX:List (Str × V)} (h:aX.length < n):(c9 f v aX).length < n + 1:=hg (Hu f v aX) (by omega)
theorem gY:∀ {aX:List (Str × V)} (cw:List Str) (i:Nat),aX.map (·.1)=cw->cw.findIdx? (· == f)=some i->aX[i]? = some (f,v)->aX.lookup f=some v
 | [],_,_,_,_,h=>by simp at h
 | (g,y) :: r,cw,i,e,h,aI=>by
  cases e;rw [e1,List.findIdx?_cons] at h;rw [ql];by_cases e:g=f
  .subst e;rw [beq_self_eq_true,if_pos rfl] at h;cases h;have:(g,y)=(g,v):=by simpa using aI
   cases this;rw [beq_self_eq_true]
  .rw [beq_eq_false_iff_ne.mpr e,if_neg (by decide)] at h;obtain ⟨j,aJ,rfl⟩:=tU.mp h;rw [beq_eq_false_iff_ne.mpr (fun z=>e z.symm)];exact gY _ j rfl aJ (by simpa using aI)
theorem Tm:∀ {aX:List (Str × V)} (cw:List Str),aX.map (·.1)=cw->cw.contains f=false->aX.lookup f=none
 | [],_,_,_=>rfl
 | (g,y) :: r,cw,e,h=>by
  cases e;rw [e1,Mf] at h;have af:=(BL.mp h);rw [ql,af.1];exact Tm _ rfl af.2
theorem Inv.OH {X:bg} {ag:List (Addr × Obj)} {σ:St} {H:aw} {s:Shared} {h':Heap} {t':Nat} {bS:List Addr} (J:Inv X ag σ H s) (k:∀ b o,b ∉ bS->s.heap.get? b=some o->h'.get? b=some o)
  (hf:∀ b ∈ bS,j_ X ag H b):Inv X ag σ H { s with heap:=h',toks:=t' }:=by
 have nit:∀ b u,H b=some u->b ∉ bS:=fun b u e z=>by rw [(hf b z).1] at e;cases e
 refine J.step (g':=s.gens) (d':=s.drawn) (ch:=bS) (fun b ae=>?_) (fun b o _ _ aA e _=>k b o aA e) (fun b o _ _ aA e _=>⟨o.slots,k b o aA e⟩) (fun _ _ _ _ n=>n)
  (fun b o aA e=>⟨o,k b o aA e⟩) (fun _ _ e=>e) (fun _ _ _ e=>e) (fun b ps e=>⟨#[],by rw [e];simp⟩) (fun m hm=>?_) (fun b u e=>?_) J.bare
 .obtain ⟨f0,f1,f2,eo,f4,fg⟩:=hf b ae;exact ⟨eo,f1,f4,fg⟩
 .obtain ⟨o,ba,ep,aT,r⟩:=hm;exact ⟨o,ba,ep,k _ o (fun z=>(hf _ z).2.1 rfl) aT,r⟩
 .refine (J.bl b u e).nR (fun c v aA q=>k c v ?_ q) (fun _ q=>q) fun _ _ q=>q
  rcases aA with z | z
  .rw [z];exact nit b u e
  .exact nit c _ z
noncomputable def Dy (K:bk) (a:Addr):ke:=
 ⟨fun i H=>∃ xs x,av K H a xs/\xs[i]? = some x,fun i H v I=>∃ p y,H p=none/\v=.ref p/\(∀ xs,av K H a xs->xs[i]? = some y)/\I=upd H p (.tup [.int i,y]),fun i H=>∃ xs,av K H a xs/\xs.length <= i⟩
theorem ag8 {P:Program} {w:World} {K:bk} {ba:List Expr} {k} {pos:Pos} (a e it:Addr) (ct:e ≠ it) :
  qy P w K (.Tuple ba k pos) (Dy K a) [e,it] e (fun i h=>∃ old,IsEnum h e it ((i:Nat):Int) old/\h.IsListIter it a i) where
 mem:=by simp
 obj:=fun i h ⟨old,he,ah⟩ b ae=>by
  simp only [fx,td,or_false] at ae;rcases ae with rfl | rfl
  .exact ⟨_,he,fun v z=>by
    have i4:adO _=Data.cell v:=z;cases i4⟩
  .obtain ⟨o,q,c,d⟩:=ah;exact ⟨o,q,fun v z=>by rw [d] at z;cases z⟩
 keep:=fun i h h' ⟨old,he,ah⟩ k=>⟨old,k e (by simp) _ he,ah.at fun o q=>k it (by simp) o q⟩
 item:=by
  intro X cO hw gH aA i ag s σ H E J hf ⟨old,he,ah⟩ bp;subst cO hw gH;obtain ⟨xs,x,aU,aj⟩:=bp;obtain ⟨aV,cV,p,aO⟩:=J.list aU;obtain ⟨u,bC,fB⟩:=cV.get aj;refine wpAny_pyNext_enum_item he ah p.isList (x:=u) (by simpa using bC) ct fun af aei adG abc wX q3=>⟨_,rfl,?_⟩
  refine wpAny_letOwnedTupleGo_enum aei fun ao aku jT=>?_
  replace jT:x' e af ao:=jT;have Rq:e < s.heap.objs.size:=eV he;have au:∀ b o,b ∉ [e,it]->s.heap.get? b=some o->ao.get? b=some o:=fun b o ae q=>by
   simp only [fx,td,or_false,not_or] at ae;exact jT.extBut _ _ ae.1 (q3 b o ae.1 ae.2 q)
  have a_:Inv X ag σ H { s with heap:=ao,toks:=s.toks + 1 }:=J.OH au hf;have iQ:j_ X ag H s.heap.objs.size:=J.p7 (b8 _) (J.bl.fresh (b8 _));have ajl:ao.get? s.heap.objs.size=some { cls:=.type "tuple",data:=.seq #[.int i s.toks,u] }:=(jT.2 _ (J_ Rq)).trans abc;have b3:=a_.adopt (o:=.tup [.int i,x]) iQ ⟨by show 2 <= sizeLine;decide,[.int i s.toks,u],.cons ⟨_,rfl⟩ (.cons fB .nil),⟨_,ajl,rfl,_,rfl⟩⟩;refine ⟨.ref s.heap.objs.size,_,b3,rfl,⟨_,x,iQ.1,rfl,fun ys a9=>by rw [J.yB a9 aU];exact aj,rfl⟩,⟨u,?_,?_⟩,fun b ae=>?_⟩
  .have ax:((i + 1:Nat):Int)=(i:Int) + 1:=by omega
   rw [ax];exact aku
  .exact adG.extBut jT.extBut (dJ ct)
  .have dV:b < s.heap.objs.size:=by
    simp only [fx,td,or_false] at ae;rcases ae with rfl | rfl
    .exact Rq
    .obtain ⟨o,q,_⟩:=ah;exact eV q
   rw [aG (gX dV)];exact (hf b ae).1
 done:=by
  intro X cO hw gH aA i ag s σ H E J hf ⟨old,he,ah⟩ bp;subst cO hw gH;obtain ⟨xs,aU,aj⟩:=bp;obtain ⟨aV,cV,p,aO⟩:=J.list aU;have aM:=cV.length;exact wpAny_pyNext_enum_end (J.ok.hd aA) he ah p.isList (by simp;omega) fun h' fh=>⟨rfl,J.OH (t':=s.toks) (fun b o ae q=>fh b o (fun z=>ae (by simp [z])) q) hf⟩
 self:=fun _ _ _ _ _ ⟨_,he,_⟩ h=>wpAny_pyIter_enum he h
theorem alo:bootBuiltins "enumerate"=some (.type "enumerate"):=by ac_nf
noncomputable def Zi (K:bk) (a b:Addr):ke:=
  ⟨fun i H=>∃ xs ys x y,av K H a xs/\av K H b ys/\xs[i]? = some x/\ys[i]? = some y,
   fun i H v I=>∃ p x y,H p=none/\v=.ref p/\(∀ xs,av K H a xs->xs[i]? = some x)/\(∀ ys,av K H b ys->ys[i]? = some y)/\I=upd H p (.tup [x,y]),
   fun i H=>∃ xs ys,av K H a xs/\av K H b ys/\(xs.length <= i\/ys.length <= i)⟩
section
variable {X:bg}
noncomputable def Jq (K:bk) (bo:gw):TI:=fun σ H R=>bo σ H fun vs H1=>∃ a,vs=[.ref a]/\(∃ xs,av K H1 a xs)/\R (Dy K a) H1
theorem A' {k} {p pos:Pos} (bp:mO X "enumerate") (hm:X.mg "enumerate"=none) (aR:kJ X [a] bo) (aC:starEach [a] X.env=[(false,eval a X.env)]:=by rfl) :
  pV X (.Tuple ba k yH) (.Call (.Name "enumerate" p) [a] [] pos) (Jq X.K bo):=by
 intro ag s σ H R J h;refine Call_ (vu J bp hm alo (Nj (bQ (aR pos ag s σ H _ J h) fun us s1 c2=>?_) aC rfl));obtain ⟨vs,H1,a_,cQ,bR⟩:=c2;obtain ⟨a,e,⟨xs,aU⟩,q⟩:=bR;subst e;cases cQ with
 | cons r kW=>
  cases kW;cases r;obtain ⟨aV,cV,pl,aO⟩:=a_.list aU;refine call_enumerate_list pl.isList fun h' y2 DY hsz au=>wpAny_pyIter_enum y2 ?_
  refine ⟨s1.heap.objs.size + 1,[s1.heap.objs.size + 1,s1.heap.objs.size],_,_,H1,rfl,a_.kept (t':=s1.toks) au,ag8 a _ _ (Nat.succ_ne_self _),⟨_,y2,DY⟩,fun b ae=>?_,q⟩;have fv:s1.heap.objs.size <= b:=by
   simp only [fx,td,or_false] at ae;rcases ae with rfl | rfl
   .exact Gj _
   .exact b8 _
  exact a_.p7 fv (a_.bl.fresh fv)
end
theorem mr {k:Nat} {t:ti} {K:bk} (gH:X.K=K) (aA:X.calm=true) (h:wb X ba t)
  (aQ:(assignEach ba X.env).length=n:=by rfl) (h8:(assignEach ba X.env).findIdx? (·.1)=none:=by rfl):m8 X (.Tuple ba k pos) (uM K n t):=by
 subst gH;exact abH aA h aQ h8
section
variable {X:bg}
noncomputable def Iv:V->List V->aw->cX->Prop:=fun x vs H Q=>∃ l xs i y,x=.ref l/\vs=[.int i,y]/\H l=some (.lst xs)/\0 <= i/\i < 2 ^ 62/\i <= (xs.length:Int)/\xs.length < sizeLine/\Q .b4 (upd H l (.lst (xs.take i.toNat ++ y :: xs.drop i.toNat)))
theorem Kl:II X "list.insert" Iv:=by
 intro ag s σ H x vs v us Q J a8 cV h;obtain ⟨l,xs,i,y,rfl,rfl,jJ,h0,af,ao,aO,q⟩:=h;cases a8;cases cV with
 | cons nH ada=>
  cases ada with
  | @cons _ w _ _ iD rc=>
   cases rc;obtain ⟨t,rfl⟩:=nH;obtain ⟨z,aV,n,r,aM,e⟩:=J.tg jJ;refine call_meets G9 ⟨_,e,rfl⟩ F.entry_list_insert (F.args_list_insert_3 _ _ _) (AutoListH.list_insert_list_int_val_1 l aV.toArray n i t w (by rw [fitsIndex_both (k:=i) (by omega) (by omega)];decide) (by rw [d8];omega)) ⟨e,?_⟩;refine ⟨.b4,_,J.Eg (its':=aV.take i.toNat ++ w :: aV.drop i.toNat) jJ e ?_ ((r.take i.toNat).append (.cons iD (r.drop i.toNat))) ?_,rfl,q⟩
   .have au:(if i < 0 then (i + ((aV.toArray.size:Nat):Int)).toNat else min i.toNat aV.toArray.size)=i.toNat:=by
     rw [if_neg (by omega),d8];omega
    show (aV.toArray.extract 0 (if i < 0 then (i + ((aV.toArray.size:Nat):Int)).toNat else min i.toNat aV.toArray.size)).push w ++ aV.toArray.extract (if i < 0 then (i + ((aV.toArray.size:Nat):Int)).toNat else min i.toNat aV.toArray.size)=_;rw [au];apply Vh.mp;simp;exact R7 (by rw [t_];exact b8 _)
   .rw [dZ,gP,hE,t_];omega
theorem aiN:jw X (.type "range") (fun xs H Q=>∃ j:Int,xs=[.int j]/\-4611686018427387904 <= j/\j < 4611686018427387904/\∀ p,H p=none->Q (.ref p) (upd H p (.m2 0 j))):=by
 intro ag s σ H xs us Q J r h;obtain ⟨j,rfl,af,ao,q⟩:=h;obtain ⟨u,rfl,a8⟩:=jP r;obtain ⟨t,rfl⟩:=a8;exact call_range_1 ⟨.ref s.heap.objs.size,upd H s.heap.objs.size (.m2 0 j),J.laid (fun b u e=>e6 _ e) (b8 _) ⟨_,_,_,hs _ rfl⟩,rfl,q _ (J.bl.fresh (b8 _))⟩
theorem TX {P:Nat->Value->Prop} {f:Nat->V} (cO:∀ i v,P i v->bM (f i) v):∀ (l:List Value) (k:Nat),(∀ j v,l[j]? = some v->P (k + j) v)->b0 ((dw l.length).map fun i=>f (k + i)) l
 | [],_,_=>.nil
 | v :: r,k,h=>by
  rw [gP,List.range_succ_eq_map,e1,me];refine .cons (cO _ _ (h 0 v rfl)) ?_;have:=TX cO r (k + 1) fun j w aJ=>by
   have:=h (j + 1) w (by simpa using aJ);rwa [show k + 1 + j=k + (j + 1) by omega]
  have e:(fun i=>f (k + 1 + i))=((fun i=>f (k + i)) ∘ Nat.succ):=funext fun i=>by
   show f (k + 1 + i)=f (k + (i + 1));rw [show k + 1 + i=k + (i + 1) by omega]
  rwa [e] at this
theorem Rj {P:Nat->Value->Prop} {f:Nat->V} (cO:∀ i v,P i v->bM (f i) v) {acc:Array Value} {n:Nat} (h:ItemsOf P acc n):b0 ((dw n).map f) acc.toList:=by
 have:=TX cO acc.toList 0 fun j v aJ=>by
  rw [afg];exact h.2 j v (by rw [<- N_];exact aJ)
 rw [show acc.toList.length=n by rw [zo];exact h.1] at this;simpa using this
theorem ae9 (aA:X.calm=true):jw X (.type "list") (fun xs H Q=>∃ p j,xs=[.ref p]/\H p=some (.m2 0 j)/\-4611686018427387904 <= j/\j <= 16777216/\∀ l,H l=none->Q (.ref l) (upd H l (.lst ((dw j.toNat).map fun (i:Nat)=>V.int i)))):=by
 intro ag s σ H xs us Q J r h;obtain ⟨p,j,rfl,ar,af,ao,q⟩:=h;obtain ⟨u,rfl,a8⟩:=jP r;cases a8;obtain ⟨t,u,v,e⟩:=(show dT X.prog X.w H s.heap p (.m2 0 j) from J.bl p _ ar);have aQ:Tf 0 j 1=((j.toNat:Nat):Int):=by rw [rangeSize_one];split <;> omega
 refine call_list_range (J.ok.hd aA) e (small_one (by omega) (by omega) af (by omega)) aQ (by omega) fun h' tk acc c' au bF ah=>?_
 refine ⟨.ref s.heap.objs.size,_,J.laid (o:=.lst ((dw j.toNat).map fun (i:Nat)=>V.int i)) au (b8 _) ⟨?_,acc.toList,c',Rj (fun i v ⟨t,ev⟩=>⟨t,by rw [ev];simp⟩) ah,bF⟩,rfl,q _ (J.bl.fresh (b8 _))⟩;rw [aP,kH];exact cP (show j.toNat <= 16777216 by omega) (by decide)
end
inductive hB (K:bk) (H:aw):Nat->V->V->Bool->Prop
 | flat {k:Nat} {x y:V} (aj:kn x=true) (a9:kn y=true):hB K H k x y (jf x y)
 | lst {k:Nat} {p q:Addr} {xs ys:List V} {e:Nat->Bool} (ar:av K H p xs) (aU:av K H q ys) (aM:xs.length=ys.length) (he:∀ (j:Nat) (x y:V),xs[j]? = some x->ys[j]? = some y->hB K H k x y (e j)):hB K H (k + 1) (.ref p) (.ref q) ((dw xs.length).all e)
 | tY {k:Nat} {p q:Addr} {xs ys:List V} (ar:av K H p xs) (aU:av K H q ys) (aM:xs.length ≠ ys.length):hB K H (k + 1) (.ref p) (.ref q) false
 | tup {k:Nat} {p q:Addr} {xs ys:List V} {e:Nat->Bool} (ar:cJ K H p xs) (aU:cJ K H q ys) (he:∀ (j:Nat) (x y:V),xs[j]? = some x->ys[j]? = some y->hB K H k x y (e j)):hB K H (k + 1) (.ref p) (.ref q) ((dw (min xs.length ys.length)).all e && xs.length == ys.length)
theorem aci {x:V} (h:kn x=true):jf x x=true:=by
 cases x <;> first | rfl | (simp [jf];done) | cases h
theorem Sq {e:Nat->Bool} (h:∀ j,j < n->e j=true):(dw n).all e=true:=by
 rw [oh];exact fun j aJ=>h j (g7.mp aJ)
section
variable {X:bg} {ag:List (Addr × Obj)} {σ:St} {H:aw} {s:Shared}
theorem hB.self (J:Inv X ag σ H s) {k:Nat} {x y:V} (h:hB X.K H k x y b) (e:x=y):b=true:=by
 induction h with
 | flat aj a9=>subst e;exact aci aj
 | @lst k p q xs ys f ar aU aM he cE=>
  injection e with e;subst e;have:=J.yB ar aU;subst this;refine Sq fun j aJ=>?_
  exact cE j xs[j] xs[j] (aZ aJ) (aZ aJ) rfl
 | tY ar aU aM=>
  injection e with e;subst e;have:=J.yB ar aU;subst this;exact absurd rfl aM
 | @tup k p q xs ys f ar aU he cE=>
  injection e with e;subst e;have:=J.Ot ar aU;subst this;rw [g_];refine ⟨Sq fun j aJ=>?_,by simp⟩;have gI:j < xs.length:=by omega
  exact cE j xs[j] xs[j] (aZ gI) (aZ gI) rfl
theorem CM (A:Around):A.in1.units=A.units + 1:=rfl
theorem aff (J:Inv X ag σ H s) {k:Nat} {x y:V} (h:hB X.K H k x y b):∀ (A:Around) (v u:Value),A.units + k < cLine->bM x v->bM y u ->
  Ib A s v u b/\(∀ p q,x=.ref p->y=.ref q->JO A s v u b):=by
 induction h with
 | flat aj a9=>
  intro A v u bC a8 bx;refine ⟨VQ a8 bx aj a9,fun p q e _=>?_⟩;subst e;cases aj
 | @lst k p q xs ys f ar aU aM he cE=>
  intro A v u bC a8 bx;cases a8;cases bx;obtain ⟨aV,r,pl,aO⟩:=J.list ar;obtain ⟨nt,df,nW,fX⟩:=J.list aU;have bY:=r.length;have cL:=df.length;have rc:JO A s (.ref p) (.ref q) ((dw xs.length).all f):=by
   have:=SeqAt.RcAt.lists (A:=A) (e:=f) pl.isList nW.isList (by simp only [d8];omega) (by omega) fun j af ao=>by
    simp only [d8] at af ao;have aJ:j < xs.length:=by omega
    have gI:j < ys.length:=by omega
    obtain ⟨a,aR,nH⟩:=r.get (aZ aJ);obtain ⟨c,aA,rc⟩:=df.get (aZ gI);have e4:aV.toArray[j]=a:=by
     have:=aZ af;rw [aR] at this;simpa using (ei this).symm
    have ll:nt.toArray[j]=c:=by
     have:=aZ ao;rw [aA] at this;simpa using (ei this).symm
    rw [e4,ll];exact (cE j _ _ (aZ aJ) (aZ gI) A.in1 a c (by rw [CM];omega) nH rc).1
   rwa [d8,<- bY] at this
  refine ⟨?_,fun _ _ _ _=>rc⟩;by_cases ct:p=q
  .have ae:=(hB.lst ar aU aM he).self J (congrArg V.ref ct);rw [ae,ct];exact Uo _
  .exact SW ct rc
 | @tY k p q xs ys ar aU aM=>
  intro A v u bC a8 bx;cases a8;cases bx;obtain ⟨aV,r,pl,aO⟩:=J.list ar;obtain ⟨nt,df,nW,fX⟩:=J.list aU;have bY:=r.length;have cL:=df.length;have rc:JO A s (.ref p) (.ref q) false:=SeqAt.RcAt.lists_lengths pl.isList nW.isList (by simp only [d8,bne_iff_ne,ne_eq];omega) (by omega);refine ⟨SW (fun e=>aM ?_) rc,fun _ _ _ _=>rc⟩;subst e;rw [J.yB ar aU]
 | @tup k p q xs ys f ar aU he cE=>
  intro A v u bC a8 bx;cases a8;cases bx;obtain ⟨aV,r,pl,aO⟩:=J.tuple ar;obtain ⟨nt,df,nW,fX⟩:=J.tuple aU;have bY:=r.length;have cL:=df.length;have rc:JO A s (.ref p) (.ref q) ((dw (min xs.length ys.length)).all f && xs.length == ys.length):=by
   have:=SeqAt.RcAt.tuples (A:=A) (e:=f) pl nW (by omega) fun j af ao=>by
    simp only [d8] at af ao;have aJ:j < xs.length:=by omega
    have gI:j < ys.length:=by omega
    obtain ⟨a,aR,nH⟩:=r.get (aZ aJ);obtain ⟨c,aA,rc⟩:=df.get (aZ gI);have e4:aV.toArray[j]=a:=by
     have:=aZ af;rw [aR] at this;simpa using (ei this).symm
    have ll:nt.toArray[j]=c:=by
     have:=aZ ao;rw [aA] at this;simpa using (ei this).symm
    rw [e4,ll];exact (cE j _ _ (aZ aJ) (aZ gI) A.in1 a c (by rw [CM];omega) nH rc).1
   rwa [d8,d8,<- bY,<- cL] at this
  refine ⟨?_,fun _ _ _ _=>rc⟩;by_cases ct:p=q
  .have ae:=(hB.tup ar aU he).self J (congrArg V.ref ct);rw [ae,ct];exact Uo _
  .exact SW ct rc
theorem PD (J:Inv X ag σ H s) {k:Nat} {A:Around} {xs ys:List V} {aV nt:List Value} {f:Nat->Bool} (bC:A.units + k < cLine) (r:b0 xs aV) (df:b0 ys nt)
  (he:∀ (j:Nat) (x y:V),xs[j]? = some x->ys[j]? = some y->hB X.K H k x y (f j)):∀ j (af:j < aV.toArray.size) (ao:j < nt.toArray.size),Ib A s aV.toArray[j] nt.toArray[j] (f j):=fun j af ao=>by
 simp only [d8] at af ao;have bY:=r.length;have cL:=df.length;have aJ:j < xs.length:=by omega
 have gI:j < ys.length:=by omega
 obtain ⟨a,aR,nH⟩:=r.get (aZ aJ);obtain ⟨c,aA,rc⟩:=df.get (aZ gI);have e4:aV.toArray[j]=a:=by
  have:=aZ af;rw [aR] at this;simpa using (ei this).symm
 have ll:nt.toArray[j]=c:=by
  have:=aZ ao;rw [aA] at this;simpa using (ei this).symm
 rw [e4,ll];exact (aff J (he j _ _ (aZ aJ) (aZ gI)) A a c bC nH rc).1
theorem WI (J:Inv X ag σ H s) {k:Nat} {p q:Addr} (h:hB X.K H k (.ref p) (.ref q) b) (A:Around) (bC:A.units + k < cLine):SeqAt.RcNeAt A s (.ref p) (.ref q) (!b):=by
 cases h with
 | flat aj a9=>cases aj
 | @lst k _ _ xs ys f ar aU aM he=>
  obtain ⟨aV,r,pl,aO⟩:=J.list ar;obtain ⟨nt,df,nW,fX⟩:=J.list aU;have bY:=r.length;have cL:=df.length;have:=ao' (A:=A) (e:=f) pl.isList nW.isList (by simp only [d8];omega) (by omega) (PD J (A:=A.in1) (k:=k) (by rw [CM];omega) r df he);rwa [d8,<- bY] at this
 | @tY k _ _ xs ys ar aU aM=>
  obtain ⟨aV,r,pl,aO⟩:=J.list ar;obtain ⟨nt,df,nW,fX⟩:=J.list aU;have bY:=r.length;have cL:=df.length;exact apB pl.isList nW.isList (by simp only [d8,bne_iff_ne,ne_eq];omega) (by omega)
 | @tup k _ _ xs ys f ar aU he=>
  obtain ⟨aV,r,pl,aO⟩:=J.tuple ar;obtain ⟨nt,df,nW,fX⟩:=J.tuple aU;have bY:=r.length;have cL:=df.length;have:=apx (A:=A) (e:=f) pl nW (by omega) (PD J (A:=A.in1) (k:=k) (by rw [CM];omega) r df he);rwa [d8,d8,<- bY,<- cL] at this
end
section
variable {X:bg}
noncomputable def Ge (K:bk):fb:=fun x y H Q=>∃ p q b,x=.ref p/\y=.ref q/\hB K H 8 (.ref p) (.ref q) b/\Q (.br (!b)) H
theorem Vi (Cd:X.A.units + 64 < cLine):hn X (compareOp .NotEq) (Ge X.K):=by
 intro ag s σ H x y v u Q J a8 bx h;obtain ⟨p,q,b,rfl,rfl,y2,eI⟩:=h;cases a8;cases bx;exact WI J y2 X.A (by omega) _ _ _ _ ⟨.br (!b),H,J,rfl,eI⟩
end
theorem hB.mono {K:bk} {j k:Nat} {x y:V} (h:hB K H j x y b):j <= k->hB K H k x y b:=by
 induction h generalizing k with
 | flat aj a9=>exact fun _=>.flat aj a9
 | lst ar aU aM he cE=>
  intro au;obtain ⟨m,rfl⟩:∃ m,k=m + 1:=⟨k - 1,by omega⟩;exact .lst ar aU aM fun j x y af ao=>cE j x y af ao (by omega)
 | tY ar aU aM=>
  intro au;obtain ⟨m,rfl⟩:∃ m,k=m + 1:=⟨k - 1,by omega⟩;exact .tY ar aU aM
 | tup ar aU he cE=>
  intro au;obtain ⟨m,rfl⟩:∃ m,k=m + 1:=⟨k - 1,by omega⟩;exact .tup ar aU fun j x y af ao=>cE j x y af ao (by omega)
noncomputable def Ey:V->V->Bool
 | .int _,.int _=>true
 | .str _,.str _=>true
 | .br _,.br _=>true
 | .b4,.b4=>true
 | _,_=>false
theorem E5 {x y:V} (h:Ey x y=true):kn x=true/\kn y=true/\jf x y=decide (x=y):=by
 cases x <;> cases y <;> first | (exfalso;simp [Ey] at h;done) | (refine ⟨rfl,rfl,?_⟩;rfl) | (refine ⟨rfl,rfl,?_⟩;rw [ig];simp [jf];done)
theorem hB.ame {K:bk} {k:Nat} {p q:Addr} (ar:av K H p xs) (aU:av K H q ys) (h:∀ x ∈ xs,∀ y ∈ ys,Ey x y=true):hB K H (k + 1) (.ref p) (.ref q) (decide (xs=ys)):=by
 by_cases aM:xs.length=ys.length
 .have hd:decide (xs=ys)=(dw xs.length).all fun j=>jf (xs.getD j .b4) (ys.getD j .b4):=by
   rw [ig,decide_eq_true_eq,oh];constructor
   .rintro rfl j aJ;have gI:=g7.mp aJ;have hm:xs.getD j .b4 ∈ xs:=by rw [jg,aZ gI];exact fM gI
    rw [(E5 (h _ hm _ hm)).2.2,decide_eq_true rfl]
   .intro z;refine List.ext_getElem aM fun j af ao=>?_
    have:=z j (g7.mpr af);rw [jg,jg,aZ af,aZ ao] at this;have w:jf xs[j] ys[j]=true:=this;rw [(E5 (h _ (fM af) _ (fM ao))).2.2,decide_eq_true_eq] at w;exact w
  rw [hd];refine .lst ar aU aM fun j x y af ao=>?_
  have e:=E5 (h x (cm af) y (cm ao));rw [jg,jg,af,ao];exact .flat e.1 e.2.1
 .rw [decide_eq_false (fun z=>aM (by rw [z]))];exact .tY ar aU aM
end L2
namespace L2
open PySem PySem.Spec PyProof.Rows PySem.Builtin PySem.Builtin.ObjectAttr
noncomputable abbrev U0:List Value:=[.type "ValueError",.type "Exception",.type "BaseException",.type "object"]
noncomputable def QY (K:bk) (C r3:Addr):Bool:=
 match K.lookup C with
 | some ⟨.type "type",_,.cls cd,a6⟩=>
  match cd.mro,a6.toList with
  | .ref D :: c0,[_,_,_,_,some (.builtin n),_]=>
   (D == C) && (n == "ValueError.__new__") && (cd.hasDel == false) && (cd.hasDict == true) && PySem.W.tailIn K U0 c0 && PySem.W.nsOkIn K cd.ns && (PySem.W.nsIn K cd.ns "__init__" == some (some (.ref r3)))
  | _,_=>false
 | _=>false
section
variable {P:Program} {w:World} {A:Around} {h:Heap} {g:Array GenState} {d:Drawn} {t:Nat} {os:OsState} {K:bk} {C r3:Addr} {R:Result->Shared->Prop}
end
noncomputable def E_:List Value->Bool
 | .ref _ :: r=>E_ r
 | l=>l == U0
structure Zl (K:bk) (C:Addr):Prop where
 hd:BU K C=true
 fo:((aaw K C).any fun cd=>E_ cd.mro)=true
 a7:dC K (.ref C) "__setattr__"=some (some (.builtin "object.__setattr__"))
 ga:dC K (.ref C) "__getattribute__"=some (some (.builtin "BaseException.__getattribute__"))
 gt:dC K (.ref C) "__getattr__"=some none
 ex:∃ r3,QY K C r3=true
noncomputable def uB (x C:Addr) (dD:Option Addr):Heap->Prop:=fun h=>∃ vs a6,h.get? x=some ⟨.ref C,dD,.fields vs,a6⟩/\1 < vs.size/\vs[1]? = some .none
noncomputable def uO (ay:Addr) (aX:List (Str × V)):Heap->Prop:=fun h=>∃ ef,h.Ns1 ay ef/\(∀ f,iw (aX.lookup f) (ef f))/\Hy ef (aX.map (·.1))
theorem uB.at {x C:Addr} {h h':Heap} (z:uB x C dD h) (k:∀ o,h.get? x=some o->h'.get? x=some o):uB x C dD h':=let ⟨vs,a6,e,r⟩:=z;⟨vs,a6,k _ e,r⟩
theorem uO.at {aX:List (Str × V)} {h h':Heap} (z:uO ay aX h) (k:∀ o,h.get? ay=some o->h'.get? ay=some o):uO ay aX h':=let ⟨ef,e,r⟩:=z;⟨ef,e.at k,r⟩
theorem uB.ok {w:World} {h:Heap} {x C:Addr} (z:uB x C dD h):dT P w H h x (.ext (uB x C dD)):=by
 obtain ⟨vs,a6,e,r⟩:=id z;exact ⟨z,⟨_,e⟩,fun af ao q k=>q.at k⟩
theorem uO.ok {w:World} {h:Heap} {aX:List (Str × V)} (z:uO ay aX h):dT P w H h ay (.ext (uO ay aX)):=by
 obtain ⟨ef,⟨o,ba,ep,e,_⟩,_⟩:=id z;exact ⟨z,⟨_,e⟩,fun af ao q k=>q.at k⟩
section
variable {prog:Program} {w:World} {A:Around} {E:Value->Shared->Prop} {K:bk} {C x:Addr} {s:Shared} {R:Result->Shared->Prop}
end
section
variable {X:bg} {ag:List (Addr × Obj)} {σ:St} {H:aw} {s:Shared} {x C ay:Addr} {aX:List (Str × V)} {f:Str} {y:V} {u:Value} {A:Around} {E:Value->Shared->Prop} {Q:Unit->Shared->Prop}
noncomputable def oK (x C:Addr) (dD:Option Addr):Heap->Prop:=fun h=>∃ vs a6,h.get? x=some ⟨.ref C,dD,.fields vs,a6⟩
theorem oK.at {x C:Addr} {h h':Heap} (z:oK x C dD h) (k:∀ o,h.get? x=some o->h'.get? x=some o):oK x C dD h':=let ⟨vs,a6,e⟩:=z;⟨vs,a6,k _ e⟩
theorem oK.ok {w:World} {h:Heap} {x C:Addr} (z:oK x C dD h):dT P w H h x (.ext (oK x C dD)):=by
 obtain ⟨vs,a6,e⟩:=id z;exact ⟨z,⟨_,e⟩,fun af ao q k=>q.at k⟩
end
noncomputable abbrev aaA:=St->aw->(aw->Prop)->Prop
section
variable {X:bg} {e:Expr} {ba:List Expr} {n:Nat} {t:aaA} {bT:TE} {pos:Pos}
end
structure ano (K:bk) (L:Addr) (m:Str):Prop where
 lO:abr K L (.type "type")=true
 fd:aef K (.ref L) (.type "type") m=some (.val (.builtin "ValueError.__init__"))
 ga:tZ K (.ref L) "__getattribute__"=some (some (.builtin "type.__getattribute__"))
section
variable {X:bg} {L:Addr} {x:Str} {p pos gi:Pos} {e:Expr} {ba:List Expr} {t:gw}
end
structure aoR (K:bk) (C r3:Addr):Prop where
 e:QY K C r3=true
 fn:abo K (.ref r3)=some (.type "function")
 bG:sM K (.ref C)=true
section
variable {X:bg} {k:Nat} {f C:Addr} {fd:FuncData} {ps:List Str} {sp:bW} {x g:Str} {p pos pos' gi:Pos} {e o value:Expr} {ba:List Expr} {bo gB:TE} {t:gw}
end
def yu (x C:Addr) (dD:Option Addr) (T:Addr) (eF:Value) (h:Heap):Prop:=
 T ≠ x/\∃ vs a6 CA tB,h.get? x=some ⟨.ref C,dD,.fields vs,a6⟩/\vs[1]? = some (.ref T)/\h.get? T=some CA/\CA.data=.fields tB/\tB[3]? = some eF
structure CZ (aX:List Addr) (x:Addr) (sP:Option Addr) (h h':Heap):Prop where
 keep:∀ b o,h.get? b=some o->b ∉ aX->b ≠ x->some b ≠ sP->h'.get? b=some o
 slot:∀ b o,h.get? b=some o->b ∈ aX->∃ a6,h'.get? b=some { o with slots:=a6 }
 there:∀ b o,h.get? b=some o->∃ ea,h'.get? b=some ea
section
variable {M:Model} {A:Around} {E:Value->Shared->Prop} {s:Shared}
theorem Q7 {base h:Heap} (aM:h.FunFrames base l) (e:h.get? b=some o) (d:o.data=.fields vs):b ∉ mG l:=fun hm=>by
 obtain ⟨_,ea,bF,iT⟩:=aM.mem hm;rw [e] at bF;cases bF;exact iT vs d
end
section
variable {P:Program} {w:World} {H:aw} {h h':Heap} {aX:List Addr} {x C T:Addr} {dD:Option Addr} {eF:Value} {sP:Option Addr} {o:fz}
theorem CZ.bl (k:CZ aX x sP h h') (ok:eA P w H h) (t8:∀ b ∈ aX,H b=none) (hk:∀ t,sP=some t->H t=none) (gW:pb (H x)) (new:oK x C dD h'):eA P w (upd H x (.ext (oK x C dD))) h':=fun b u q=>by
 have xf:∀ c y,H c=some (.own y)->c ≠ x:=fun c y r z=>by subst z;rw [r] at gW;exact gW
 have E2:∀ c xs,H c=some (.tup xs)->c ≠ x:=fun c xs r z=>by subst z;rw [r] at gW;exact gW
 have ki:∀ c v,c ≠ x->H c ≠ none->h.get? c=some v->h'.get? c=some v:=fun c v cB cD r=>k.keep c v r (fun z=>cD (t8 c z)) cB fun z=>cD (hk c z.symm)
 by_cases ae:b=x
 .subst ae;rw [db] at q;cases q;exact new.ok
 .rw [aG ae] at q;refine (ok b u q).nR (fun c v aA r=>?_) (fun c r=>by rw [aG (xf c b r)];exact r) fun c xs r=>by rw [aG (E2 c xs r)];exact r
  rcases aA with rfl | aA
  .exact ki c v ae (by rw [q];exact fun z=>by cases z) r
  .exact ki c v (xf c b aA) (by rw [aA];exact fun z=>by cases z) r
theorem CZ.un (k:CZ aX x sP h h') (hk:∀ t,sP=some t->H t=none) (gW:pb (H x)):fc aX sP.toList H (upd H x o) h h':=by
 have aj:∀ b,H b=none->b ≠ x:=fun b n z=>by subst z;rw [n] at gW;exact gW
 have hm:∀ b u,H b=some u->¬ pb (some u)->b ≠ x:=fun b u q nm z=>by subst z;rw [q] at gW;exact nm gW
 refine ⟨fun b u q n cB cD=>k.keep b u q cB (aj b n) fun z=>cD (by rw [<- z];simp),fun b u q n cB cD=>k.slot b u q cB,fun b u q n _=>by rw [aG (aj b n)];exact n,fun b u q _=>k.there b u q,
  fun b xs q=>by rw [aG (hm b _ q fun z=>z)];exact q,fun b u xs q=>by rw [aG (hm b _ q fun z=>z)];exact q,fun b ps q=>⟨#[],by rw [aG (hm b _ q fun z=>z),q];simp⟩⟩
end
noncomputable def afl (P:Program) (w:World):ka:=fun outer H s E e ai=>
 ∃ x C dD I T,e=.ref x/\ai.os=s.os/\AllBare ai.gens/\fc (mG outer) [] H I s.heap ai.heap/\eA P w I ai.heap/\I x=some (.ext (oK x C dD))/\s.heap.objs.size <= T/\I T=none/\yu x C dD T .none ai.heap/\E (.ref C) dD I
structure anR (X:bg):Prop where
 st:X.stack=X.env :: X.outer
 fr:X.env.frame=some X.env.locals
def aaP (X:bg) (ag:List (Addr × Obj)) (T:Addr):Prop:=(T ∈ X.ex\/X.f_.heap.objs.size <= T)/\T ≠ X.env.locals/\(∀ x c,X.env.cells.lookup x=some c->c ≠ T)/\∀ p ∈ X.ez ++ ag,p.1 ≠ T
section
variable {X:bg} {ag:List (Addr × Obj)} {σ:St} {H:aw} {s:Shared} {T x C:Addr} {dD:Option Addr} {E:St->gG} {M:Model} {A:Around} {ani:Value->Shared->Prop} {Q:Unit->Shared->Prop} {e eF:Value} {h':Heap}
end
section
variable {P:Program} {w:World} {K:bk} {mg:Str->Option Value} {base:Heap} {N:List Str} {qual:Str} {scope:Scope} {f:Addr} {cd:Value} {A:Around} {outer:List Env} {s:Shared} {H:aw} {E:gG}
end
section
variable {X:bg} {CX:ka} {k:Nat} {f C:Addr} {fd:FuncData} {ps:List Str} {sp:bW} {dvs:List V} {ds:List Value} {E:St->gG} {x m:Str} {p pos gi:Pos} {e o:Expr} {ba:List Expr} {bo:TE} {t:gw}
end
noncomputable abbrev bg.q_ (X:bg) (ez:List (Addr × Obj)) (E:Value->Shared->Prop):bg:={ X with ez:=X.ez ++ ez,d4:=E }
noncomputable abbrev bg.aQ (X:bg) (e:Value):bg:={ X with A:=X.A.mark (some e),calm:=false,d4:=fun _ _=>False }
section
variable {X:bg} {ag N7:List (Addr × Obj)} {σ:St} {H:aw} {s:Shared} {E:Value->Shared->Prop} {e:Value}
theorem bg.Ok.q_ (ok:X.Ok) (ez:List (Addr × Obj)) (E:Value->Shared->Prop):(X.q_ ez E).Ok:=
 ⟨ok.mod,ok.kind,ok.glob,ok.blt,ok.above,ok.inj,ok.has,ok.qD,ok.hd,ok.frames,ok.sd,ok.vV,ok.bs,ok.k4,ok.qR,ok.qE,ok.ko,ok.nK⟩
theorem bg.Ok.aQ (ok:X.Ok) (e:Value):(X.aQ e).Ok:=
 ⟨ok.mod,ok.kind,ok.glob,ok.blt,ok.above,ok.inj,ok.has,ok.qD,(fun z=>Bool.noConfusion z),ok.frames,ok.sd,ok.vV,ok.bs,ok.k4,ok.qR,ok.qE,ok.ko,ok.nK⟩
theorem Inv.q_ (J:Inv X ag σ H s) (E:Value->Shared->Prop):Inv (X.q_ ag E) [] σ H s:=⟨J.ok.q_ ag E,J.os,J.bare,J.base,J.loc,J.cell,J.free,J.jK,fun p ar=>J.pin p (by simpa using ar),J.bl,J.len⟩
theorem Inv.aQ (J:Inv X ag σ H s) (e:Value):Inv (X.aQ e) ag σ H s:=⟨J.ok.aQ e,J.os,J.bare,J.base,J.loc,J.cell,J.free,J.jK,J.pin,J.bl,J.len⟩
end
noncomputable def hF.gone (D:hF) (i:Nat):hF:={ cG:=fun σ H=>D.cG (σ.set i none) H,l1:=D.l1,cM:=fun σ H=>D.cM (σ.set i none) H,fl:=fun σ H=>D.fl (σ.set i none) H }
section
variable {X:bg} {body anM:List Stmt} {amV:Stmt} {x n:Str} {c:Addr} {i:Nat} {b1:(St->gG)->eH} {yA:eH} {apn ar pos:Pos}
end
theorem T3 (D:hF) (i:Nat) (σ:St) (H:aw):(D.gone i).cG σ H=D.cG (σ.set i none) H:=rfl
theorem Nd (D:hF) (i:Nat) (v:V) (H:aw):(D.gone i).l1 v H=D.l1 v H:=rfl
theorem OwnTail.has {h:Heap} {bm c0:List Value} (T:OwnTail h bm c0) (e:bm.contains v=true):c0.contains v=true:=by
 induction T with
 | base=>exact e
 | own _ _ _ _ cE=>rw [Mf,cE,PF]
section
variable {X:bg} {e:Expr} {bT:TE} {pos:Pos} {E:St->gG}
theorem ia.mQ {st:Stmt} {t:eH} (h:ia X.mQ st t):ia X st t:=fun ag s σ H D J hw=>
 wpAny_mono (h ag s σ H D (J.i9 _) hw) (fun _ _ q=>q.n3) fun _ _ z=>jq z
end
def u_ (B:bg) (E:gG) (e:Value) (ai:Shared):Prop:=
 ∃ ag eF az I x C dD T,e=.ref x/\Inv B ag az I ai/\I x=some (.ext (oK x C dD))/\I T=none/\aaP B ag T/\B.f_.heap.objs.size <= T/\yu x C dD T eF ai.heap/\E (.ref C) dD I
structure Tj (X:bg) (scope:Scope) (N:List Str) (dn elt:Expr) (ifs:List Expr) (g:gJ) (c6:TT) (bT:gG->TE):Prop where
 Oh:∀ E C s H bS,m8 ((X.block scope C N s H bS).i9 (u_ (X.block scope C N s H bS) E)) dn g
 tests:∀ E C s H bS,uF ((X.block scope C N s H bS).i9 (u_ (X.block scope C N s H bS) E)) ifs c6
 elem:∀ E C s H bS,bD ((X.block scope C N s H bS).i9 (u_ (X.block scope C N s H bS) E)) elt (bT E)
theorem Tj.of {N:List Str} (af:∀ E C s H bS,m8 ((X.block scope C N s H bS).i9 (u_ (X.block scope C N s H bS) E)) dn g)
  (ao:∀ E C s H bS,∃ t,uF ((X.block scope C N s H bS).i9 (u_ (X.block scope C N s H bS) E)) ifs t/\t=c6) (bj:∀ E C s H bS,∃ t,bD ((X.block scope C N s H bS).i9 (u_ (X.block scope C N s H bS) E)) elt t/\t=bT E):Tj X scope N dn elt ifs g c6 bT:=
 ⟨af,fun E C s H bS=>by obtain ⟨t,h,rfl⟩:=ao E C s H bS;exact h,fun E C s H bS=>by obtain ⟨t,h,e⟩:=bj E C s H bS;rw [<- e];exact h⟩
section
variable {X:bg} {elt dn iter:Expr} {ifs:List Expr} {scope:Scope} {pos:Pos} {wi:TI} {g:gJ} {c6:TT} {bT:gG->TE} {N:List Str} {sel:List (Option Nat)}
theorem yu.but {x C T c:Addr} {h h':Heap} (z:yu x C dD T eF h) (cB:x ≠ c) (cD:T ≠ c) (k:∀ b,b ≠ c->h'.get? b=h.get? b):yu x C dD T eF h':=by
 obtain ⟨ne,vs,a6,CA,tB,he,af,hk,hd,bj⟩:=z;exact ⟨ne,vs,a6,CA,tB,(k _ cB).trans he,af,(k _ cD).trans hk,hd,bj⟩
end
structure R3 (K:bk) (C:Addr):Prop where
 cl:hI K C
 aR:dC K (.ref C) "__class__"=some (some (.builtin "object.__class__"))
 aQ:tZ K (.builtin "object.__class__") "__get__"=some (some (.builtin "getset_descriptor.__get__"))
 vw:Lf K (.builtin "object.__class__")=some true
 hm:IK K C (.type "object")=some true
theorem R3.ty {K:bk} {aX:List (Str × V)} (c:R3 K C) (e:H a=some (.ins C ay aX)):lA K H (.ref a) (.ref C):=.ins e c.cl c.aR c.aQ c.vw c.hm
end L2
namespace L2
open PySem PySem.Spec PyProof.Rows
section
variable {X:bg} {dn:Expr}
end
section
variable {prog:Program} {w:World} {A:Around} {E:Value->Shared->Prop} {s:Shared} {it l:Addr} {items:Array Value}
end
section
variable {X:bg}
end
section
variable {prog:Program} {w:World} {A:Around} {R:Result->Shared->Prop} {J:Addr} {bS wr:List Addr} {n:Nat} {P:Nat->Value->Prop} {St:Nat->Heap->Prop}
end
section
variable {prog:Program} {w:World} {A:Around} {E:Value->Shared->Prop} {s:Shared}
end
section
variable {X:bg}
end
structure an2 (K:bk) (C:Addr):Prop where
 x:Zl K C
 aR:dC K (.ref C) "__class__"=some (some (.builtin "object.__class__"))
 aQ:tZ K (.builtin "object.__class__") "__get__"=some (some (.builtin "getset_descriptor.__get__"))
 vw:Lf K (.builtin "object.__class__")=some true
 hm:IK K C (.type "object")=some true
section
variable {prog:Program} {w:World} {A:Around} {E:Value->Shared->Prop} {s:Shared} {K:bk} {x C:Addr} {dD:Obj} {ay:Addr} {vs:Array Value} {a6:Array (Option Value)}
end
section
variable {X:bg}
end
theorem cK.quiet {w:World} {K:bk} {mg:Str->Option Value} {base:Heap} {k:Nat} {fd:FuncData} (F:cK P w K mg base (afl P w) k f fd ps sp)
  (h:∀ vs H Q E,yc vs H Q E->sp vs H Q (fun _ _ _=>False)):cK P w K mg base dE k f fd ps yc:=by
 refine ⟨fun vs H Q E q=>F.len vs H _ _ (h vs H Q E q),fun A outer s H args us vs Q E aq he ae aI aC=>?_⟩;refine codeAny_mono (F.run A outer s H args us vs Q _ aq he ae aI (h vs H Q E aC)) fun r ai aU=>?_
 cases r with
 | error e=>
  obtain ⟨x,C,dD,I,T,_,_,_,_,_,_,_,_,_,z⟩:=aU;exact z.elim
 | ok eF=>cases eF <;> exact aU
structure mz (k:Nat) (A:Around):Prop where
 a':A.depth + 3 * k + 5 < recursionLimit
 un:A.units + 16 * k + 200 < cLine
theorem eP.h {k:Nat} {A:Around} (r:eP k A):mz k A:=⟨r.a',r.un⟩
theorem mz.mono {j k:Nat} {A:Around} (r:mz k A) (h:j <= k):mz j A:=⟨by have:=r.a';omega,by have:=r.un;omega⟩
theorem mz.deeper {k:Nat} {A:Around} (r:mz (k + 1) A) (env:Env):mz k (A.deeper env):=
 ⟨by have:=r.a';show A.depth + 1 + 3 * k + 5 < _;omega,by have:=r.un;show A.units + 3 + 16 * k + 200 < _;omega⟩
theorem mz.depth {k:Nat} {A:Around} (r:mz k A):A.depth < recursionLimit:=by have:=r.a';omega
theorem mz.units {k:Nat} {A:Around} (r:mz k A):A.units + 64 < cLine:=by have:=r.un;omega
theorem eP.aQ {k:Nat} {X:bg} {e:Value} (r:eP k X.A):mz k (X.aQ e).A:=⟨r.a',r.un⟩
structure JF (P:Program) (w:World) (K:bk) (mg:Str->Option Value) (base:Heap) (CX:ka) (k:Nat) (f:Addr) (fd:FuncData) (ps:List Str) (sp:bW):Prop where
 len:∀ vs H Q E,sp vs H Q E->vs.length=ps.length
 run:∀ (A:Around) (outer:List Env) (s:Shared) (H:aw) (args:Args) (us:List Value) (vs:List V) (Q:cX) (E:gG),mz k A->oq P w K mg base A outer s H->BindsTo s fd args (ps.zip us)->b0 vs us->sp vs H Q E ->
  codeAny (model P w) A (.call (.ref f) args) (IY CX outer P w H s Q E) s
theorem JF.mono {w:World} {K:bk} {mg:Str->Option Value} {base:Heap} {j k:Nat} {fd:FuncData} (F:JF P w K mg base CX j f fd ps sp) (h:j <= k) :
  JF P w K mg base CX k f fd ps sp:=⟨F.len,fun A outer s H args us vs Q E aq=>F.run A outer s H args us vs Q E (aq.mono h)⟩
section
variable {X:bg} {CX:ka} {k:Nat} {f C:Addr} {fd:FuncData} {ps:List Str} {sp:bW} {dvs:List V} {ds:List Value} {E:gG} {x m:Str} {p pos gi:Pos} {e o:Expr} {ba:List Expr} {bo:TE} {t:gw}
end
noncomputable def ag9 (CX:ka) (P:Program) (w:World) (K:bk) (mg:Str->Option Value) (base:Heap) (N:List Str) (qual:Str) (scope:Scope) (f:Addr) (cd:Value) (A:Around) (outer:List Env) (s:Shared) (H:aw) (E:gG):bg where
 prog:=P
 w:=w
 K:=K
 mg:=mg
 base:=base
 A:=A.deeper (envOfC qual scope s.heap.objs.size f cd)
 N:=N
 f_:=s
 rv:=H
 env:=envOfC qual scope s.heap.objs.size f cd
 outer:=outer
 stack:=envOfC qual scope s.heap.objs.size f cd :: outer
 ex:=[]
 calm:=false
 fn:=fun _=>true
 ez:=[]
 d4:=fun e ai=>wpAny (model P w) (A.deeper (envOfC qual scope s.heap.objs.size f cd)) (leaving (envOfC qual scope s.heap.objs.size f cd) e) (fun _ su=>CX outer H s E e su) (fun bF su=>CX outer H s E bF su) ai
section
variable {P:Program} {w:World} {K:bk} {mg:Str->Option Value} {base:Heap}
end
section
variable {X:bg}
end
section
variable {α:Type} {M:List α->Prop}
theorem hJ (h:∀ a,M [a]):∀ us:List α,us.length=1->M us | [a],_=>h a
theorem hM (h:∀ a b,M [a,b]):∀ us:List α,us.length=2->M us | [a,b],_=>h a b
theorem hY (h:∀ a b c,M [a,b,c]):∀ us:List α,us.length=3->M us | [a,b,c],_=>h a b c
theorem ZR (h:∀ a b c d,M [a,b,c,d]):∀ us:List α,us.length=4->M us | [a,b,c,d],_=>h a b c d
theorem Oc (h:∀ a b c d e,M [a,b,c,d,e]):∀ us:List α,us.length=5->M us | [a,b,c,d,e],_=>h a b c d e
theorem CG (h:∀ a b c d e f g,M [a,b,c,d,e,f,g]):∀ us:List α,us.length=7->M us | [a,b,c,d,e,f,g],_=>h a b c d e f g
theorem agJ (h:∀ a b c d e f g i,M [a,b,c,d,e,f,g,i]):∀ us:List α,us.length=8->M us | [a,b,c,d,e,f,g,i],_=>h a b c d e f g i
end
structure apK (K:bk) (C:Addr):Prop where
 hd:BU K C=true
 fo:((aaw K C).any fun cd=>E_ cd.mro)=true
 a7:dC K (.ref C) "__setattr__"=some (some (.builtin "object.__setattr__"))
 ga:dC K (.ref C) "__getattribute__"=some (some (.builtin "BaseException.__getattribute__"))
 gt:dC K (.ref C) "__getattr__"=some none
structure HV (K:bk) (C:Addr):Prop where
 aR:dC K (.ref C) "__class__"=some (some (.builtin "object.__class__"))
 aQ:tZ K (.builtin "object.__class__") "__get__"=some (some (.builtin "getset_descriptor.__get__"))
 vw:Lf K (.builtin "object.__class__")=some true
 hm:IK K C (.type "object")=some true
theorem Yr {cw:List Int}:∀ {aV:List Value},b0 (cw.map V.int) aV->∃ xs:List (Int × Tok),aV=xs.map (fun p=>ox p.1 p.2)/\xs.map (·.1)=cw:=by
 induction cw with
 | nil=>intro aV r;cases r;exact ⟨[],rfl,rfl⟩
 | cons k cw cE=>
  intro aV r;cases r with
  | cons h t=>
   obtain ⟨xs,ax,aK⟩:=cE t;obtain ⟨tk,rfl⟩:=(show ∃ t,_=ox k t from h);exact ⟨(k,tk) :: xs,by rw [e1,<- ax],by rw [e1,aK]⟩
section
variable {X:bg}
theorem DU (aA:X.calm=true):jw X (.builtin "max") (fun xs H Q=>∃ l cw m,xs=[.ref l]/\av X.K H l (sS V.int cw)/\(m ∈ cw/\∀ k ∈ cw,k <= m)/\Q (.int m) H):=by
 intro ag s σ H xs us Q J r h;obtain ⟨l,cw,m,rfl,aU,hm,q⟩:=h;obtain ⟨u,rfl,fB⟩:=jP r;cases fB;obtain ⟨aV,cV,pl,aO⟩:=J.list aU;obtain ⟨xs,ax,aK⟩:=Yr cV;have hV:aV.toArray=intItems xs.toArray:=by rw [ax];unfold intItems;simp
 have Ap:s.heap.IsList l (intItems xs.toArray):=by rw [<- hV];exact pl.isList
 have h9:xs.length=cw.length:=by rw [<- aK,aP]
 have ct:0 < xs.toArray.size:=by
  rw [d8,h9];exact akC hm.1
 refine max_intList (J.ok.hd aA) Ap ct fun v h' tk aI au=>⟨.int m,H,J.kept au,?_,q⟩
 obtain ⟨gB,rfl⟩:=intItems_at aI;refine ⟨gB,?_⟩;have ae:=argBest_gt (numAt xs.toArray) (xs.toArray.size - 1);generalize argBest (fun i j=>decide (numAt xs.toArray i > numAt xs.toArray j)) (xs.toArray.size - 1)=j at ae ⊢;have aQ:∀ i,i < cw.length->cw[i]? = some (numAt xs.toArray i):=fun i ah=>by
  rw [numAt_eq,jg];show cw[i]? = some (((xs.map (·.1))[i]?).getD 0);rw [aK,aZ ah];rfl
 rw [d8] at ae ct;have af:=hm.2 _ (cm (aQ j (by omega)));obtain ⟨i,ah⟩:=iN hm.1;have hV:i < cw.length:=(cv.mp ah).1;have ao:=ae.2 i (by omega);have bj:m=numAt xs.toArray i:=ei (ah.symm.trans (aQ i hV));rw [show numAt xs.toArray j=m by omega]
end
noncomputable def Cq (p d:Addr):Heap->Prop:=fun h=>PySem.W.KdlKeysView h p d
noncomputable def Hz (p d:Addr):Heap->Prop:=fun h=>h.IsValuesView p d
theorem Cq.ok {w:World} {h:Heap} {p d:Addr} (z:Cq p d h):dT P w H h p (.ext (Cq p d)):=
 ⟨z,let ⟨o,aT,_⟩:=z;⟨o,aT⟩,fun _ _ fV k=>let ⟨o,aT,x⟩:=fV;⟨o,k o aT,x⟩⟩
theorem Hz.ok {w:World} {h:Heap} {p d:Addr} (z:Hz p d h):dT P w H h p (.ext (Hz p d)):=
 ⟨z,let ⟨o,aT,_⟩:=z;⟨o,aT⟩,fun _ _ fV k=>let ⟨o,aT,x⟩:=fV;⟨o,k o aT,x⟩⟩
theorem Xs {w:World} {k:Key} (h:(hG P w).is k u=true):bM (dk k) u:=by
 rcases nX h with ⟨i,t,rfl,rfl⟩ | ⟨x,t,rfl,rfl⟩
 .exact ⟨t,rfl⟩
 .exact ⟨t,rfl⟩
theorem MQ:∀ {l₁:List α} {l₂:List β},Paired F l₁ l₂->∀ {i:Nat} {b:β},l₂[i]? = some b->∃ a,l₁[i]? = some a/\F a b
 | [],[],_,i,b,h=>by simp at h
 | a :: l₁,c :: l₂,r,i,b,h=>by
  cases r with
  | cons f r=>
   cases i with
   | zero=>exact ⟨a,rfl,by rw [show b=c by simpa using h.symm];exact f⟩
   | succ i=>
    rw [yn] at h ⊢;exact MQ r h
section
variable {X:bg}
noncomputable def pN:V->List V->aw->cX->Prop:=fun x vs H Q=>∃ d kvs,x=.ref d/\vs=[]/\H d=some (.bu kvs)/\∀ p,H p=none->Q (.ref p) (upd H p (.ext (Cq p d)))
noncomputable def Ha (K:bk):V->List V->aw->cX->Prop:=fun x vs H Q=>∃ l ys k j,x=.ref l/\vs=[.str k]/\av K H l (aW ys)/\ys[j]? = some k/\(∀ m,m < j->ys[m]? ≠ some k)/\ys.length <= 1000/\Q (.int (j:Nat)) H
theorem ls (k:Str):∀ {vs:List Value} {ns:List Str},StrsAre vs ns->∀ (j:Nat) (af:j < vs.length) (ao:j < ns.length),isStrOf k vs[j]=(ns[j] == k)
 | _,_,.cons n t _,0,_,_=>rfl
 | _,_,.cons n t r,j + 1,af,ao=>ls k r j (akI af) (akI ao)
theorem UE:∀ {vs:List Value} {ns:List Str},StrsAre vs ns->vs.length=ns.length
 | _,_,.nil=>rfl
 | _,_,.cons _ _ r=>congrArg (· + 1) (UE r)
theorem Z7:uI X "list.index" (Ha X.K):=by
 intro ag s σ H x xs v us Q J a8 cV h;obtain ⟨l,cw,k,j,rfl,rfl,aU,au,p0,aM,q⟩:=h;cases (show v=eL l from a8);obtain ⟨u,rfl,fB⟩:=jP cV;obtain ⟨LQ,rfl⟩:=(show ∃ t,u=r6 k t from fB);obtain ⟨aV,J7,pl,aO⟩:=J.list aU;have ah:=OJ J7;have hlen:=UE ah;have aJ:j < cw.length:=(cv.mp au).1;obtain ⟨⟨cls,c8,data,a6⟩,aT,aA,n,hd⟩:=id pl.isList;simp only at aA hd;subst aA hd;refine call_meets amP ⟨_,aT,rfl⟩ PySem.F.entry_list_index (PySem.F.args_list_index_2 _ _)
  (PySem.SeqAt.list_indexAt l aV.toArray n c8 a6 (.str k LQ) (isStrOf k) j (by simpa [hlen] using aJ) (by omega) ?_ ?_) ⟨aT,fun y a9=>(eq_isStrOf k LQ ah y (by simpa using a9)).at _ _,.int _,H,J.tok _,⟨_,rfl⟩,q⟩
 .show isStrOf k aV[j]=true;rw [ls k ah _ (by omega) aJ];simpa using (cv.mp au).2
 .intro m hm dV;show isStrOf k aV[m]=false;rw [ls k ah m (by simpa using hm) (by omega)];have:=p0 m dV;rw [aZ (by omega)] at this;simpa using this
end
noncomputable abbrev adK:=St->aw->Str->(Str->aw->Prop)->Prop
section
variable {X:bg} {e:Expr} {ba:List Expr} {t:adK} {bT:TE} {pos:Pos}
end
noncomputable def K' (p:Addr) (a b c:Int):Heap->Prop:=fun h=>∃ t u v,IsRange h p a b c t u v
theorem K'.ok {w:World} {h:Heap} {p:Addr} (z:K' p a b c h):dT P w H h p (.ext (K' p a b c)):=
 ⟨z,let ⟨_,_,_,e⟩:=z;⟨_,e⟩,fun _ _ fV k=>let ⟨t,u,v,e⟩:=fV;⟨t,u,v,k _ e⟩⟩
section
variable {X:bg}
end
noncomputable def mK (f:Addr) (qual:Str) (params:Arguments) (body:Expr) (scope:Scope) (i7:List (Str × Addr)) (c':Addr):Heap->Prop:=
 fun h=>∃ pm kh,h.get? f=some (w' "<lambda>" qual params body scope i7 pm c' kh)
noncomputable def mU (c:Addr) (qual:Str):Heap->Prop:=fun h=>h.CodeRec (.ref c) qual
def Tab (H:aw) (Pt:Addr) (pos:Pos) (qual:Str):Prop:=
 ∃ ps,H Pt=some (.g6 ps)/\(ps=#[]\/∃ c',ps=#[rawInt pos.line,rawInt pos.col,.ref c']/\H c'=some (.ext (mU c' qual)))
def mA (Pt:Addr) (H I:aw):Prop:=∀ b o,b ≠ Pt->H b=some o->I b=some o
theorem mA.refl (Pt:Addr) (H:aw):mA Pt H H:=fun _ _ _ h=>h
theorem mA.trans (a:mA Pt H H1) (b:mA Pt H1 aB):mA Pt H aB:=fun c o n h=>b c o n (a c o n h)
theorem aN.p (s:aN H I):mA Pt H I:=fun b o _ h=>s b o h
theorem Tab.ne (t:Tab H Pt pos qual) (h:H b=some o) (aT:∀ ps,o ≠ .g6 ps):b ≠ Pt:=fun e=>by
 obtain ⟨ps,ax,_⟩:=t;subst e;rw [ax] at h;exact aT ps (ei h).symm
theorem Tab.step (t:Tab H Pt pos qual) (s:aN H I):Tab I Pt pos qual:=by
 obtain ⟨ps,e,d⟩:=t;refine ⟨ps,s _ _ e,?_⟩;rcases d with d | ⟨c',d,bF⟩
 .exact .inl d
 .exact .inr ⟨c',d,s _ _ bF⟩
theorem TO {w:World} {h:Heap}
  (e:h.get? f=some (w' "<lambda>" qual params body scope i7 pm c' kh)):dT P w H h f (.ext (mK f qual params body scope i7 c')):=
 ⟨⟨pm,kh,e⟩,⟨_,e⟩,fun _ _ ⟨p,c,ax⟩ k=>⟨p,c,k _ ax⟩⟩
theorem afS {w:World} {h:Heap} (e:h.CodeRec (.ref c) qual):dT P w H h c (.ext (mU c qual)):=by
 refine ⟨e,?_,fun af ao x k=>?_⟩
 .obtain ⟨c1,o,vs,t,ax,aK,_⟩:=e;cases ax;exact ⟨o,aK⟩
 .obtain ⟨c1,o,vs,t,ax,aK,bU,eW⟩:=x;cases ax;exact ⟨_,o,vs,t,rfl,k o aK,bU,eW⟩
structure Nh (X:bg) (c Pt:Addr):Prop where
 code:X.env.code=.ref c
 hd:q9 X.base c Pt
 bm:X.base.BuiltinsAt X.mg Pt
theorem acq:TriplesOk [rawInt a,rawInt b,v]:=jz
theorem amh:codeAmong pos [rawInt pos.line,rawInt pos.col,v]=some v:=by
 have:=codeAmong_snoc (pos:=pos) (c:=v) [] jz rfl;simpa using this
section
variable {X:bg} {ag:List (Addr × Obj)} {σ:St} {H:aw} {s:Shared} {params:Arguments} {body:Expr} {scope:Scope} {pos:Pos} {c Pt:Addr} {i7:List (Str × Addr)} {Q:Value->Shared->Prop}
theorem ZA (J:Inv X ag σ H s) (T:Nh X c Pt) (b1:Tab H Pt pos (X.env.qual ++ "<lambda>")) (pO:closureFor scope X.env=pure i7) (Jx:defaultsOf params X.env=([],[]))
  (h:∀ f c' H1 s1,Inv X ag σ H1 s1->mA Pt H H1->(aL H->aL H1)->Tab H1 Pt pos (X.env.qual ++ "<lambda>")->H1 f=some (.ext (mK f (X.env.qual ++ "<lambda>") params body scope i7 c'))->H1 c'=some (.ext (mU c' (X.env.qual ++ "<lambda>")))->H f=none->Q (.ref f) s1) :
  wpAny (model X.prog X.w) X.A (eval (.Lambda params body scope pos) X.env) Q X.d4 s:=by
 refine PySem.W.kla_eval Jx ?_;obtain ⟨ps,kT,d⟩:=b1;have cO:s.heap.get? Pt=some (Uz ps):=J.bl _ _ kT;have my:s.heap.Ns mainGlobals X.mg:=J.mod.glob.keeps J.cM;have dy:=T.hd.keeps J.cM;have adB:mainGlobals ≠ Pt:=fun q=>by
  obtain ⟨o,ba,ep,e,hd,_⟩:=my;rw [q,cO] at e;cases e;cases hd
 have i5:s.heap.BuiltinsAt X.mg Pt:=by
  obtain ⟨bm,o,af,ao,bj,cS,e',iJ⟩:=T.bm;exact ⟨bm,o,af,ao,bj,cS,J.cM _ _ e',iJ⟩
 rcases d with rfl | ⟨c',rfl,ll⟩
 .refine PySem.W.kla_makeFunction (mg:=X.mg) pO J.ok.glob my T.code dy cO jz rfl adB i5 fun c' kh h' tk aj y' dV ah_ Uv=>?_
  have AJ:H c'=none:=J.bl.fresh y';have iT:H h'.objs.size=none:=J.bl.fresh (cP y' (nE dV));have Wq:c' ≠ h'.objs.size:=gX dV;have aai:Pt ≠ c':=fun z=>by rw [z,AJ] at kT;cases kT
  have W3:Pt ≠ h'.objs.size:=fun z=>by rw [z,iT] at kT;cases kT
  have put:∀ b o,b ≠ Pt->H b=some o->upd (upd (upd H Pt (.g6 (#[] ++ #[rawInt pos.line,rawInt pos.col,.ref c']))) c' (.ext (mU c' (X.env.qual ++ "<lambda>")))) h'.objs.size (.ext (mK h'.objs.size (X.env.qual ++ "<lambda>") params body scope i7 c')) b=some o:=fun b o n e=>by
   rw [aG (fun z=>by rw [z,iT] at e;cases e),aG (fun z=>by rw [z,AJ] at e;cases e),aG n];exact e
  have Dx:upd (upd (upd H Pt (.g6 (#[] ++ #[rawInt pos.line,rawInt pos.col,.ref c']))) c' (.ext (mU c' (X.env.qual ++ "<lambda>")))) h'.objs.size (.ext (mK h'.objs.size (X.env.qual ++ "<lambda>") params body scope i7 c')) Pt=some (.g6 (#[] ++ #[rawInt pos.line,rawInt pos.col,.ref c'])):=by
   rw [aG W3,aG aai,db]
  have z6:upd (upd (upd H Pt (.g6 (#[] ++ #[rawInt pos.line,rawInt pos.col,.ref c']))) c' (.ext (mU c' (X.env.qual ++ "<lambda>")))) h'.objs.size (.ext (mK h'.objs.size (X.env.qual ++ "<lambda>") params body scope i7 c')) c'=some (.ext (mU c' (X.env.qual ++ "<lambda>"))):=by
   rw [aG Wq,db]
  have JA:upd (upd (upd H Pt (.g6 (#[] ++ #[rawInt pos.line,rawInt pos.col,.ref c']))) c' (.ext (mU c' (X.env.qual ++ "<lambda>")))) h'.objs.size (.ext (mK h'.objs.size (X.env.qual ++ "<lambda>") params body scope i7 c')) h'.objs.size=some (.ext (mK h'.objs.size (X.env.qual ++ "<lambda>") params body scope i7 c')):=db;have b4:∀ b,b ≠ Pt->b ≠ c'->b ≠ h'.objs.size->upd (upd (upd H Pt (.g6 (#[] ++ #[rawInt pos.line,rawInt pos.col,.ref c']))) c' (.ext (mU c' (X.env.qual ++ "<lambda>")))) h'.objs.size (.ext (mK h'.objs.size (X.env.qual ++ "<lambda>") params body scope i7 c')) b=H b:=fun b cB cD dp=>by
   rw [aG dp,aG cD,aG cB]
  have h6:aL H->aL (upd (upd (upd H Pt (.g6 (#[] ++ #[rawInt pos.line,rawInt pos.col,.ref c']))) c' (.ext (mU c' (X.env.qual ++ "<lambda>")))) h'.objs.size (.ext (mK h'.objs.size (X.env.qual ++ "<lambda>") params body scope i7 c'))):=fun n=>n.upd.upd.upd
  generalize upd (upd (upd H Pt (.g6 (#[] ++ #[rawInt pos.line,rawInt pos.col,.ref c']))) c' (.ext (mU c' (X.env.qual ++ "<lambda>")))) h'.objs.size (.ext (mK h'.objs.size (X.env.qual ++ "<lambda>") params body scope i7 c'))=H1 at put Dx z6 JA b4 h6;have bG:∀ b o,b ≠ Pt->s.heap.get? b=some o->(h'.push (w' "<lambda>" (X.env.qual ++ "<lambda>") params body scope i7 ((X.mg "__name__").getD .none) c' kh)).get? b=some o:=fun b o n e=>e6 _ (aj b o n e)
  have IH:∀ b,H b=none->b ≠ Pt:=fun b n z=>by rw [z,kT] at n;cases n
  have u:fc X.aX [] H H1 s.heap (h'.push (w' "<lambda>" (X.env.qual ++ "<lambda>") params body scope i7 ((X.mg "__name__").getD .none) c' kh)):=by
   refine ⟨fun b o e n _ _=>bG b o (IH b n) e,fun b o e n _ _=>⟨o.slots,bG b o (IH b n) e⟩,fun b o e n _=>?_,fun b o e _=>?_,fun b xs e=>put b _ (fun z=>by rw [z,kT] at e;cases e) e,fun b o x e=>put b _ (fun z=>by rw [z,kT] at e;cases e) e,fun b ps e=>?_⟩
   .have ae:=eV e;rw [b4 b (IH b n) (gX (hU ae y')) (gX (hU ae (cP y' (nE dV))))];exact n
   .by_cases ae:b=Pt
    .subst ae;exact ⟨_,e6 _ Uv⟩
    .exact ⟨o,bG b o ae e⟩
   .by_cases ae:b=Pt
    .subst ae;rw [kT] at e;cases e;exact ⟨_,Dx⟩
    .exact ⟨#[],by rw [put b _ ae e];simp⟩
  have bl:eA X.prog X.w H1 (h'.push (w' "<lambda>" (X.env.qual ++ "<lambda>") params body scope i7 ((X.mg "__name__").getD .none) c' kh)):=fun b o e=>by
   by_cases af:b=Pt
   .subst af;rw [Dx] at e;cases e;exact e6 _ Uv
   by_cases ao:b=c'
   .subst ao;rw [z6] at e;cases e;refine afS ?_;obtain ⟨c1,o,vs,t,ax,aK,bU⟩:=ah_;exact ⟨c1,o,vs,t,ax,e6 _ aK,bU⟩
   by_cases bj:b=h'.objs.size
   .subst bj;rw [JA] at e;cases e;exact TO (hs _ rfl)
   rw [b4 b af ao bj] at e;refine (J.bl b o e).nR (fun d v hd q=>bG d v ?_ q) (fun d q=>put d _ (fun z=>by rw [z,kT] at q;cases q) q) fun d xs q=>put d _ (fun z=>by rw [z,kT] at q;cases q) q
   rcases hd with z | z
   .rw [z];exact af
   .intro fj;rw [fj,kT] at z;cases z
  exact h _ c' H1 _ (J.un (t':=tk) u bl) (fun b o n e=>put b o n e) h6 ⟨_,Dx,.inr ⟨c',by simp,z6⟩⟩ JA z6 iT
 .refine PySem.W.kla_makeFunctionHit (mg:=X.mg) pO J.ok.glob my T.code dy cO acq amh i5 fun kh h' tk au hsz=>?_
  have iT:H h'.objs.size=none:=J.bl.fresh hsz;have a_:Inv X ag σ (upd H h'.objs.size (.ext (mK h'.objs.size (X.env.qual ++ "<lambda>") params body scope i7 c'))) { s with heap:=h'.push (w' "<lambda>" (X.env.qual ++ "<lambda>") params body scope i7 ((X.mg "__name__").getD .none) c' kh),toks:=tk }:=
   J.laid (t':=tk) (fun b o e=>e6 _ (au b o e)) hsz (TO (hs _ rfl))
  have bA:=bq (o:=.ext (mK h'.objs.size (X.env.qual ++ "<lambda>") params body scope i7 c')) iT;exact h _ c' _ _ a_ bA.p (fun n=>n.upd) ⟨_,bA _ _ kT,.inr ⟨c',rfl,bA _ _ ll⟩⟩ db (bA _ _ ll) iT
end
section
variable {P:Program} {w:World} {K:bk} {mg:Str->Option Value} {base:Heap}
end
structure ant (p y:Str) (sc:Scope):Prop where
 kind:sc.kind=.function
 co:sc.isCoroutine=false
 gen:sc.isGenerator=false
 ne:p ≠ y
 par:sc.names.lookup p=some .local
 NV:sc.names.lookup y=some .free
 vj:∀ z ∈ sc.names,z.2 ≠ .cell
 one:∀ z ∈ sc.names,z.2=.free->z.1=y
section
variable {X:bg} {ag:List (Addr × Obj)} {σ:St} {H:aw} {s:Shared} {k:Nat} {f c' cl:Addr} {q p y:Str} {params:Arguments} {body:Expr} {scope:Scope} {v:V} {t:TE}
end
noncomputable def ajg:Expr->Scope
 | .Lambda _ _ s _=>s
 | _=>{ kind:=.function,names:=[],isGenerator:=false,isCoroutine:=false }
noncomputable def aaS:Expr->Pos
 | .Lambda _ _ _ p=>p
 | _=>⟨0,0,0,0⟩
def CQ (Pt:Addr) (H:aw):Prop:=H Pt=some (.g6 #[])/\∀ b,H b=none\/b=Pt\/∃ o xs,H b=some (.ey o (.lst xs))
theorem Sc.ac2 {K:bk} {ns:List Int} (mM:CQ Pt H) (er:av K H a (ns.map V.int)):Sc K a ns H:=by
 refine ⟨?_,fun b u e=>?_⟩
 .rcases er with (h | ⟨o,h⟩) | h
  .rcases mM.2 a with z | z | ⟨b',xs,z⟩
   .rw [h] at z;cases z
   .rw [z,mM.1] at h;cases h
   .rw [h] at z;cases z
  .exact .inl ⟨o,h⟩
  .exact .inr h
 .rcases mM.2 b with z | z | ⟨o,xs,z⟩
  .rw [e] at z;cases z
  .rw [z,mM.1] at e;cases e;rfl
  .rw [e] at z;cases z;rfl
theorem ahT {w:World} {K:bk} {mg nf:Str->Option Value} {k:Nat} {fd:FuncData} {x:Str} {ns:List Int}
  (kZ:K.In dq.heap) (gH:al0 K=true) (my:dq.heap.Ns mainGlobals mg) (ae:dq.heap.Ns builtinsNs nf) (q1:∀ x:Str,x ≠ "__name__" -> nf x=bootBuiltins x) (aiC:dq.heap.NoLimit) (bp:dq.gens=#[])
  (aht:∃ bm b',mg "__builtins__"=some (.ref bm)/\bm ≠ builtinsNs/\dq.heap.get? bm=some b'/\b'.cls=.type "module" /\ b'.dict=some builtinsNs/\b'.data=.plain)
  (dy:q9 dq.heap c Pt) (cO:dq.heap.get? Pt=some (Uz #[]))
  (aR:dq.heap.get? a=some { cls:=.type "list",data:=.seq vs.toArray }) (ah:IntsAre vs ns) (aM:ns.length <= sizeLine) (aq:eP k callerA)
  (F:∀ base:Heap,K.In base->base.Ns mainGlobals mg->q9 base c Pt->base.BuiltinsAt mg Pt->cK P w K mg base CX k gK fd [x] sp) (XP:∀ (s:Shared) (u:Value),BindsTo s fd ⟨[u],[]⟩ [(x,u)])
  (pA:∀ H:aw,CQ Pt H->av K H a (ns.map V.int)->sp [.ref a] H (fun v _=>v=.br true) fun _ _ _=>False)
  (Ea:∀ H e ai,CX [] H dq (fun _ _ _=>False) e ai->False) :
  codeAny (model P w) callerA (.call (.ref gK) ⟨[.ref a],[]⟩) (fun r ai=>r=.ok (.ret (.bool true))/\OldK dq.heap ai.heap/\ai.os=dq.os/\AllBare ai.gens) dq:=by
 have cV:=MI ah;have adi:=ah.length;have QS:Pt ≠ a:=fun z=>by rw [z,aR] at cO;cases cO
 have afe:∀ o,K.lookup Pt=some o->False:=fun o e=>by
  have ax:=kZ _ _ e;rw [cO] at ax;cases ax;have:=oh.mp gH _ (PySem.W.mem_of_lookupK e);exact absurd (show false=true from this) eQ
 have core:∀ H:aw,CQ Pt H->av K H a (ns.map V.int)->eA P w H dq.heap->(∀ b,H b ≠ none->b=Pt\/b=a)->(H a ≠ none->K.lookup a=none) ->
   codeAny (model P w) callerA (.call (.ref gK) ⟨[.ref a],[]⟩) (fun r ai=>r=.ok (.ret (.bool true))/\OldK dq.heap ai.heap/\ai.os=dq.os/\AllBare ai.gens) dq:=by
  intro H mM er bl j0 Y4;have Mb:∀ {b:Addr} {o:Obj},dq.heap.get? b=some o->o.cls ≠ .none->(∀ aV n,o.data ≠ .seq aV n)->(nM dq.heap H).get? b=some o:=fun {b o} e af ao=>by
   refine FC e ?_;cases q:H b with
   | none=>rfl
   | some u=>
    rcases j0 b (by rw [q];simp) with z | z
    .subst z;rw [cO] at e;cases e;exact absurd rfl af
    .subst z;rw [aR] at e;cases e;exact absurd rfl (ao _ _)
  have BV:∀ {b:Addr} {m:Str->Option Value},dq.heap.Ns b m->(nM dq.heap H).Ns b m:=fun {b m} ⟨o,ba,ep,e,d,r⟩=>⟨o,ba,ep,(by
   refine FC e ?_;cases q:H b with
   | none=>rfl
   | some u=>
    rcases j0 b (by rw [q];simp) with z | z
    .subst z;rw [cO] at e;cases e;cases d
    .subst z;rw [aR] at e;cases e;cases d),d,r⟩
  have Mx:K.In (nM dq.heap H):=fun b o e=>FC (kZ b o e) (by
   cases q:H b with
   | none=>rfl
   | some u=>
    rcases j0 b (by rw [q];simp) with z | z
    .subst z;exact (afe o e).elim
    .subst z;rw [Y4 (by rw [q];simp)] at e;cases e)
  have ajc:Mod K mg (nM dq.heap H):=⟨Mx,BV my,⟨nf,BV ae,q1⟩,let ⟨X7,af,ao⟩:=aiC;⟨X7,BV af,ao⟩⟩;have ajm:q9 (nM dq.heap H) c Pt:=by
   obtain ⟨o,XG,file,YC,flags,dn,ZF,text,tt,ax,aK,bU,r⟩:=dy;exact ⟨o,XG,file,YC,flags,dn,ZF,text,tt,Mb ax (by rw [aK];intro z;cases z) (fun _ _ z=>by rw [bU] at z;cases z),aK,bU,r⟩
  have ab5:(nM dq.heap H).BuiltinsAt mg Pt:=by
   obtain ⟨bm,b',af,ao,bj,cS,e',iJ⟩:=aht;refine ⟨bm,b',af,ao,fun z=>?_,fun z=>?_,Mb bj (by rw [cS];intro z;cases z) (fun _ _ z=>by rw [iJ] at z;cases z),cS,e',iJ⟩
   .obtain ⟨o,ba,ep,e,d,_⟩:=my;rw [z,e] at bj;cases bj;rw [d] at iJ;cases iJ
   .rw [z,cO] at bj;cases bj;cases cS
  have e7:oq P w K mg (nM dq.heap H) callerA [] dq H:=⟨rfl,ajc,fun b o e=>aj3 e,Yj (adZ _ _),trivial,fun b ae=>absurd (show b ∈ ([]:List Addr) from ae) (by simp),bl,.of_eq bp⟩;refine codeAny_mono ((F _ Mx (BV my) ajm ab5).run callerA [] dq H ⟨[.ref a],[]⟩ [.ref a] [.ref a] _ _ aq e7 (XP dq (.ref a)) (.cons rfl .nil) (pA H mM er)) fun r ai h=>?_
  cases r with
  | error e=>exact (Ea H e ai h).elim
  | ok eF=>
   cases eF with
   | next=>exact jq h
   | brk=>exact jq h
   | cont=>exact jq h
   | ret u=>
    obtain ⟨v,I,os,bare,un,Sg,df,q⟩:=h;have eI:v=.br true:=q;subst eI;obtain rfl:u=kL true:=df;obtain ⟨more,kT⟩:=un.kV Pt _ mM.1;have Ml:ai.heap.get? Pt=some { cls:=.none,data:=.fields (#[] ++ more) }:=Sg _ _ kT;have bG:∀ b o,b ≠ Pt->dq.heap.get? b=some o->ai.heap.get? b=some o:=fun b o nb e=>by
     rcases mM.2 b with z | z | ⟨b',xs,z⟩
     .exact un.keep b o e z (by intro z;exact absurd (show b ∈ ([]:List Addr) from z) (by simp)) (by simp)
     .exact absurd z nb
     .have fj:=un.j7 b b' _ z;obtain ⟨ax,_⟩:=bl b _ z;obtain ⟨aK,_⟩:=Sg b _ fj;rw [e] at ax;cases ax;exact aK
    refine ⟨rfl,⟨fun b o e=>?_,fun b o e=>?_⟩,os,bare⟩
    .by_cases vM:b=Pt
     .subst vM;rw [cO] at e;cases e;exact .inr (.inl ⟨(dy.tab cO).isCodeTable,rfl,#[],more,rfl,Ml⟩)
     .exact .inl (bG b o vM e)
    .by_cases vM:b=Pt
     .subst vM;exact ⟨_,Ml⟩
     .exact ⟨o,bG b o vM e⟩
 have TN:∀ H:aw,dT P w H dq.heap Pt (.g6 #[]):=fun _=>cO
 cases au:K.lookup a with
 | some o=>
  have e:=kZ a o au;rw [aR] at e;cases e;refine core (fun b=>if b=Pt then some (.g6 #[]) else none) ⟨if_pos rfl,fun b=>?_⟩ (.inr ⟨_,vs.toArray,_,au,rfl,rfl,rfl,by rw [d8,adi];exact aM,by simpa using cV⟩) (fun b u z=>?_) (fun b z=>?_) fun z=>absurd (if_neg (dJ QS)) z
  .by_cases ae:b=Pt
   .exact .inr (.inl ae)
   .exact .inl (if_neg ae)
  .by_cases ae:b=Pt
   .have i4:=(if_pos ae).symm.trans z;cases i4;subst ae;exact TN _
   .have i4:=(if_neg ae).symm.trans z;cases i4
  .by_cases ae:b=Pt
   .exact .inl ae
   .exact absurd (if_neg ae) z
 | none=>
  have e4:(fun b=>if b=Pt then some (fz.g6 #[]) else if b=a then some (.ey { cls:=.type "list",data:=.seq vs.toArray } (.lst (ns.map V.int))) else none) a=some (.ey { cls:=.type "list",data:=.seq vs.toArray } (.lst (ns.map V.int))):=by
   show (if a=Pt then _ else if a=a then _ else _)=_;rw [if_neg (dJ QS),if_pos rfl]
  refine core (fun b=>if b=Pt then some (.g6 #[]) else if b=a then some (.ey { cls:=.type "list",data:=.seq vs.toArray } (.lst (ns.map V.int))) else none) ⟨if_pos rfl,fun b=>?_⟩ (.inl (.inr ⟨_,e4⟩)) (fun b u z=>?_) (fun b z=>?_) fun _=>au
  .by_cases ae:b=Pt
   .exact .inr (.inl ae)
   .by_cases jH:b=a
    .exact .inr (.inr ⟨_,_,by rw [jH];exact e4⟩)
    .exact .inl ((if_neg ae).trans (if_neg jH))
  .by_cases ae:b=Pt
   .have i4:=(if_pos ae).symm.trans z;cases i4;subst ae;exact TN _
   .by_cases jH:b=a
    .subst jH;rw [e4] at z;cases z;exact ⟨aR,by rw [aP];exact aM,vs,_,cV,aR⟩
    .have i4:=((if_neg ae).trans (if_neg jH)).symm.trans z;cases i4
  .by_cases ae:b=Pt
   .exact .inl ae
   .by_cases jH:b=a
    .exact .inr jH
    .exact absurd ((if_neg ae).trans (if_neg jH)) z
section
variable {P:Program} {w:World} {A:Around} {E:Value->Shared->Prop} {s:Shared}
structure wP (h:Heap) (d:Addr) (o:Obj) (ba:Array DictEntry) (ep:Nat):Prop where
 at_:h.get? d=some o
 ex:o.ExactDict
 dat:o.data=.dict ba ep
theorem QR (r:wP s.heap d o ba ep):s.TypeIs (.ref d) "dict" := ⟨o,r.at_,r.ex.1⟩
theorem ahQ (hd:(d == sysModules)=false) (r:wP s.heap d o ba ep)
  (a0:Q (.ref s.heap.objs.size) { s with heap:=s.heap.push { cls:=.type "dict_keyiterator",data:=.fields #[.ref d,.int 0 0,.int ba.size 0,.int ep 0] } }) :
  wpAny (model P w) A (pyIter (.ref d)) Q E s:=by
 have hk:=QR r;refine wpAny_pyIter_slot hk ajO (wpAny_call_entry ajO hk F.entry_dict_iter ?_ (F.args_dict_iter_1 _));unfold Builtin.«dict.__iter__» aos;refine wpAny_bind (wpAny_bind (wpAny_notOrdered_dict hk (wpAny_pure ?_)));show wpAny _ _ (aer d >>= _) _ _ s;unfold aer;rw [if_neg (by rw [hd];exact eQ)];refine wpAny_bind (wpAny_pure (wpAny_bind (wpAny_dictEntries r.at_ r.dat (wpAny_bind (wpAny_dictEpoch r.at_ r.dat ?_)))));refine wpAny_bind (wpAny_newObj_type (wpAny_pure ⟨_,rfl,"dict_keyiterator",_,⟨_,hs _ rfl,rfl⟩,C6.lookup,?_⟩));simpa [rawInt] using a0
theorem X_ {it d:Addr} {e:DictEntry} (hit:s.heap.IsKeyIter it d i ba.size ep) (r:wP s.heap d o ba ep) (aj:ba[i]? = some e)
  (a0:∀ h',h'.IsKeyIter it d (i + 1) ba.size ep->x' it s.heap h'->Q (some e.key) { s with heap:=h' }):wpAny (model P w) A (pyNext (.ref it)) Q E s:=by
 obtain ⟨Yo,aT,aA,hd⟩:=id hit;have IV:akX "dict_keyiterator"=false:=by decide
 have dV:i < ba.size:=by
  rcases E1 i ba.size with h | h
  .exact h
  .rw [alg h] at aj;cases aj
 unfold pyNext;refine wpAny_bind (wpAny_attempt (wpAny_callSpecial?_slot (name:=ab "__next__") hit.typeIs C6
  (wpAny_call_entry C6 hit.typeIs aaN ?_ (ak7 _))))
 refine wpAny_bind (wpAny_pure (wpAny_bind (wpAny_bind ?_)))
 first | refine wpAny_bind (wpAny_typeNameOfWhole_keyiter hit.typeIs (wpAny_pure ?_)) | refine wpAny_bind (wpAny_typeNameOf_keyiter hit.typeIs (wpAny_pure ?_))
 refine wpAny_bind (wpAny_fieldsOf aT hd ?_);simp only [IV,JM,if_false];show wpAny _ _ (if (eL d == qI)=true then _ else _) _ _ s;rw [if_neg (show ¬ ((eL d == qI)=true) from eQ)];refine wpAny_bind (wpAny_pure (wpAny_bind (wpAny_dictEntries r.at_ r.dat ?_)));rw [if_neg (by simp)];refine wpAny_bind (wpAny_pure (wpAny_bind (wpAny_dictEpoch r.at_ r.dat ?_)));rw [if_neg (by simp)];refine wpAny_pure ?_;simp only [show ¬ ((i:Int) < 0) from by omega,if_false,ma,aj];refine wpAny_bind ?_
 first | refine wpAny_bind (wpAny_typeNameOfWhole_keyiter hit.typeIs (wpAny_pure ?_)) | refine wpAny_bind (wpAny_typeNameOf_keyiter hit.typeIs (wpAny_pure ?_))
 refine wpAny_bind (wpAny_isOneOf_keyiter hit.typeIs ?_);show wpAny _ _ (setField (.ref it) 1 (rawInt ((i:Int) + 1)) >>= _) _ _ s;refine wpAny_bind (wpAny_setField aT hd (by simp) ?_);have MC:(s.heap.update it (Xn (·.setIfInBounds 1 (rawInt ((i:Int) + 1))))).IsKeyIter it d (i + 1) ba.size ep:=
  ⟨_,acE _ aT (Obj.isFreed_of_fields (abM hd _)),(Obj.cls_mapFields ..).trans aA,by rw [abM hd];simp [rawInt]⟩
 refine wpAny_bind (wpAny_holding (wpAny_bind (wpAny_isOneOf_keyiter (s:={ s with heap:=s.heap.update it (Xn (·.setIfInBounds 1 (rawInt ((i:Int) + 1)))) }) MC.typeIs ?_)));show wpAny _ _ (pure e.key) _ _ _;exact wpAny_pure (wpAny_pure ⟨_,rfl,wpAny_pure (a0 _ MC (abu ..))⟩)
theorem aje {it d:Addr} (fY:A.handled=none) (hit:s.heap.IsKeyIter it d i ba.size ep) (r:wP s.heap d o ba ep) (aj:ba.size <= i)
  (a0:∀ h',Heap.ExtBut it s.heap h'->Q none { s with heap:=h' }):wpAny (model P w) A (pyNext (.ref it)) Q E s:=by
 obtain ⟨Yo,aT,aA,hd⟩:=id hit;have IV:akX "dict_keyiterator"=false:=by decide
 unfold pyNext;refine wpAny_bind (wpAny_attempt (wpAny_callSpecial?_slot (name:=ab "__next__") hit.typeIs C6
  (wpAny_call_entry C6 hit.typeIs aaN ?_ (ak7 _))))
 refine wpAny_bind (wpAny_pure (wpAny_bind (wpAny_bind ?_)))
 first | refine wpAny_bind (wpAny_typeNameOfWhole_keyiter hit.typeIs (wpAny_pure ?_)) | refine wpAny_bind (wpAny_typeNameOf_keyiter hit.typeIs (wpAny_pure ?_))
 refine wpAny_bind (wpAny_fieldsOf aT hd ?_);simp only [IV,JM,if_false];show wpAny _ _ (if (eL d == qI)=true then _ else _) _ _ s;rw [if_neg (show ¬ ((eL d == qI)=true) from eQ)];refine wpAny_bind (wpAny_pure (wpAny_bind (wpAny_dictEntries r.at_ r.dat ?_)));rw [if_neg (by simp)];refine wpAny_bind (wpAny_pure (wpAny_bind (wpAny_dictEpoch r.at_ r.dat ?_)));rw [if_neg (by simp)];refine wpAny_pure ?_;simp only [show ¬ ((i:Int) < 0) from by omega,if_false,ma,alg aj];refine wpAny_bind ?_
 first | refine wpAny_bind (wpAny_typeNameOfWhole_keyiter hit.typeIs (wpAny_pure ?_)) | refine wpAny_bind (wpAny_typeNameOf_keyiter hit.typeIs (wpAny_pure ?_))
 show wpAny _ _ (setField (.ref it) 0 .none >>= _) _ _ s;refine wpAny_bind (wpAny_setField aT hd (by simp) ?_);show wpAny _ _ (newExc (.type "StopIteration") [] >>= _) _ _ _;refine wpAny_bind ?_;simp only [newExc,newTuple];refine wpAny_bind (wpAny_newObj_type ?_ (by size_fits));refine wpAny_bind (m:=firstArgMember _ _) (wpAny_of_eq (a:=qI) (by first | rfl | (simp only [firstArgMember];rfl)) ?_);refine wpAny_newObj_type ?_ (by size_fits);simp only [raiseNew];refine wpAny_bind (wpAny_handled ?_);rw [show A.in1.handled=none from fY];refine wpAny_bind (wpAny_pure (wpAny_throw ?_));refine wpAny_bind (wpAny_isInstance (T := "StopIteration") (b:=true) ⟨_,hs _ rfl,rfl⟩ isSubtype_stop ?_);exact wpAny_pure (a0 _ (((abu ..).extBut.push _).push _))
end
noncomputable def oE (a:Addr) (o:Obj):Heap->Prop:=fun h=>h.get? a=some o
structure Na (P:Program) (w:World) (H:aw) (a:Addr) (kvs:List (List Key × V)) (o:Obj) (ba:Array DictEntry) (ep:Nat) (xs:List (List Key × Addr × Value)):Prop where
 at_:H a=some (.ext (oE a o))
 ex:o.ExactDict
 dat:o.data=.dict ba ep
 ent:ba.toList=xs.map (entryOfKey (tupleKind (hG P w)))
 aH:(xs.map (·.1)).Nodup
 cw:Paired (fun (p:List Key × V) (q:List Key × Addr × Value)=>p.1=q.1/\H q.2.1=some (.tup (p.1.map dk))/\bM p.2 q.2.2) kvs xs
 oe:kvs.length <= sizeLine
 ns:(a == sysModules)=false
def iY (P:Program) (w:World) (H:aw) (a:Addr) (kvs:List (List Key × V)):Prop:=∃ o ba ep xs,Na P w H a kvs o ba ep xs
section
variable {P:Program} {w:World} {H I:aw} {h:Heap} {a:Addr} {kvs:List (List Key × V)}
theorem sw (d:iY P w H a kvs) (s:aN H I):iY P w I a kvs:=by
 obtain ⟨o,ba,ep,xs,r⟩:=d;exact ⟨o,ba,ep,xs,s _ _ r.at_,r.ex,r.dat,r.ent,r.aH,Paired.qK r.cw fun p q z=>⟨z.1,s _ _ z.2.1,z.2.2⟩,r.oe,r.ns⟩
theorem agv {p:Addr} (d:iY P w H a kvs) (ar:p ≠ a) (cT:∀ xs,H p ≠ some (.tup xs)):iY P w (upd H p u) a kvs:=by
 obtain ⟨o,ba,ep,xs,r⟩:=d;exact ⟨o,ba,ep,xs,by rw [aG (dJ ar)];exact r.at_,r.ex,r.dat,r.ent,r.aH,Paired.qK r.cw fun q eI z=>⟨z.1,by rw [aG (fun e=>cT _ (e ▸ z.2.1))];exact z.2.1,z.2.2⟩,r.oe,r.ns⟩
theorem M0 (ok:eA P w H h) (r:Na P w H a kvs o ba ep xs):wP h a o ba ep:=
 ⟨(ok a _ r.at_).1,r.ex,r.dat⟩
theorem Qj (ok:eA P w H h) (d:iY P w H a kvs):pb (H a)/\(∃ u,h.get? a=some u)/\dT P w (upd H a (.gc kvs)) h a (.gc kvs):=by
 obtain ⟨o,ba,ep,xs,r⟩:=d;have e:=(M0 ok r).at_;refine ⟨by rw [r.at_];exact jz,⟨o,e⟩,r.oe,r.ns,xs,Paired.qK r.cw fun q eI z=>⟨z.1,?_,z.2.2⟩,o,ba,ep,e,r.ex,r.dat,r.ent,r.aH⟩;rw [aG (fun e=>by have:=z.2.1;rw [e,r.at_] at this;cases this)];exact z.2.1
theorem acL (ok:eA P w H h) (d:iY P w H a kvs):eA P w (upd H a (.gc kvs)) h:=
 have z:=Qj ok d
 ok.write z.1 (.inl rfl) (fun _ _ _ q=>q) z.2.1 z.2.2
theorem Y6 (d:iY P w H a kvs) (e:H b=some (.tup xs)):b ≠ a:=fun z=>by
 obtain ⟨o,ba,ep,ys,r⟩:=d;have:=r.at_;rw [<- z,e] at this;cases this
end
section
variable {X:bg} {ag:List (Addr × Obj)} {σ:St} {H:aw} {s:Shared} {a b:Addr} {kvs:List (List Key × V)} {k:List Key} {v:V} {r:Value} {A:Around} {E:Value->Shared->Prop}
theorem Ju (J:Inv X ag σ H s) (gW:pb (H a)) (ex:∃ u,s.heap.get? a=some u) (new:dT X.prog X.w (upd H a ea) s.heap a ea):Inv X ag σ (upd H a ea) s:=
 J.un (t':=s.toks) (h':=s.heap) (fc.write gW (.inl rfl) (fun _ _ _ q=>q) ex) (J.bl.write gW (.inl rfl) (fun _ _ _ q=>q) ex new)
theorem Y_ (J:Inv X ag σ H s) (d:iY X.prog X.w H a kvs):Inv X ag σ (upd H a (.gc kvs)) s:=
 have z:=Qj J.bl d
 Ju J z.1 z.2.1 z.2.2
theorem TU (J:Inv X ag σ H s) (e:H a=some (.gc kvs)):∃ o,Inv X ag σ (upd H a (.ext (oE a o))) s/\iY X.prog X.w (upd H a (.ext (oE a o))) a kvs:=by
 obtain ⟨z,y,xs,r,o,ba,ep,af,ao,bj,cS,e'⟩:=(show dT X.prog X.w H s.heap a (.gc kvs) from J.bl a _ e);refine ⟨o,Ju J (by rw [e];exact jz) ⟨o,af⟩ ⟨af,⟨o,af⟩,fun _ _ q k=>k o q⟩,o,ba,ep,xs,db ..,ao,bj,cS,e',Paired.qK r fun p q z=>⟨z.1,?_,z.2.2⟩,z,y⟩;rw [aG (fun q=>by have:=z.2.1;rw [q,e] at this;cases this)];exact z.2.1
theorem aiB (bC:A.units + 1 < cLine) (J:Inv X ag σ H s) (d:iY X.prog X.w H a kvs) (fh:H b=some (.tup (k.map dk))) (l:cR kvs k=some v) (h:∀ fs ai,Inv X ag σ H ai->bM v fs->Q fs ai) :
  wpAny (model X.prog X.w) A (getItem (.ref a) (.ref b)) Q E s:=by
 obtain ⟨z,hd,xs,rel,c8⟩:=To (acL J.bl d) (db ..);obtain ⟨fs,hw,iD⟩:=iw.some_of (v:=v) (o:=(atKey xs k).map (·.2)) (by rw [<- l];exact rel.val k);obtain ⟨p,ar,fU⟩:=tU.mp hw;refine wpAny_getItem_heap (tupleKind_room_in1 bC) (tJ J.bl fh) c8 ar ?_;rw [fU];exact h fs _ (J.tok _) iD
theorem aaQ (bC:A.units + 1 < cLine) (J:Inv X ag σ H s) (d:iY X.prog X.w H a kvs) (fh:H b=some (.tup (k.map dk))) (aM:kvs.length < sizeLine) (cV:bM v r)
  (h:∀ o ai,Inv X ag σ (upd H a (.ext (oE a o))) ai->iY X.prog X.w (upd H a (.ext (oE a o))) a (eg kvs k v)->Q () ai):wpAny (model X.prog X.w) A (setItem (.ref a) (.ref b) r) Q E s:=by
 refine Nn bC (Y_ J d) (ly.t (db ..) (by rw [aG (Y6 d fh)];exact fh) aM) (show bM (.ref b) (.ref b) from rfl) cV fun ai gS=>?_
 rw [rM] at gS;obtain ⟨o,b3,fA⟩:=TU gS (db ..);rw [rM] at b3 fA;exact h o ai b3 fA
end
noncomputable def Gn (P:Program) (w:World) (fI ty:TE):TE:=fun σ H Q=>fI σ H fun x H1=>ty σ H1 fun y aB=>∃ a b kvs k v,x=.ref a/\y=.ref b/\iY P w aB a kvs/\aB b=some (.tup (k.map dk))/\cR kvs k=some v/\Q v aB
noncomputable def Iz (P:Program) (w:World) (fI ty gB:TE):eH:=fun D σ H=>gB σ H fun v H1=>fI σ H1 fun x aB=>ty σ aB fun y bw=>∃ a b kvs k,x=.ref a/\y=.ref b/\iY P w bw a kvs/\bw b=some (.tup (k.map dk))/\kvs.length < sizeLine/\∀ o,iY P w (upd bw a (.ext (oE a o))) a (eg kvs k v)->D.cG σ (upd bw a (.ext (oE a o)))
noncomputable def Kj (P:Program) (w:World):TE:=fun _ H Q=>∀ p o,H p=none->iY P w (upd H p (.ext (oE p o))) p []->Q (.ref p) (upd H p (.ext (oE p o)))
section
variable {X:bg} {o i e value:Expr} {pos pos' yH:Pos} {fI ty gB:TE}
theorem ahD (bC:X.A.units + 1 < cLine) (aT:bD X o fI) (ah:bD X i ty) (aC:Ki i):bD X (.Subscript o i pos) (Gn X.prog X.w fI ty):=by
 intro ag s σ H Q J h;refine Un acz.lookup aC (bQ (aT ag s σ H _ J h) fun u s1 cj=>el cj fun x H1 a_ a8 bR=>bQ (ah ag s1 σ H1 _ a_ bR) fun iq s2 c2=>?_);obtain ⟨y,aB,b3,bx,a,b,kvs,k,v,ex,iP,d,fh,l,dS⟩:=c2;subst ex iP;obtain rfl:u=eL a:=a8;obtain rfl:iq=eL b:=bx;refine ⟨?_,aiB bC b3 d fh l fun fs s3 fe iD=>⟨v,aB,fe,iD,dS⟩⟩;obtain ⟨b',ba,ep,xs,r⟩:=d;exact QR (M0 b3.bl r)
theorem akR (bC:X.A.units + 1 < cLine) (aT:bD X o fI) (ah:bD X i ty) (aI:bD X value gB) (aC:swapsWith value (some (.Subscript o i pos')) pos.line X.env=pure false) :
  ia X (.Assign [.Subscript o i pos'] value pos) (Iz X.prog X.w fI ty gB):=by
 intro ag s σ H D J h;refine wpAny_Assign_Subscript (bQ (aI ag s σ H _ J h) fun r s1 cj=>el cj fun v H1 a_ cV bR=>bQ (aT ag s1 σ H1 _ a_ bR) fun u s2 cj=>el cj fun x aB b3 a8 dS=>bQ (ah ag s2 σ aB _ b3 dS) fun iq s3 c2=>?_) aC;obtain ⟨y,bw,fe,bx,a,b,kvs,k,ex,iP,d,fh,aM,fD⟩:=c2;subst ex iP;obtain rfl:u=eL a:=a8;obtain rfl:iq=eL b:=bx;exact aaQ bC fe d fh aM cV fun b' s4 iE sJ=>⟨σ,_,iE,fD b' sJ⟩
theorem Yq:bD X (.Dict [] [] pos) (Kj X.prog X.w):=fun ag s σ H Q J h=>by
 refine bQ (xL ag s σ H (fun x H1=>∃ p,x=.ref p/\H p=none/\H1=upd H p (.gc [])) J fun p ar=>⟨p,rfl,ar,rfl⟩) fun v s1 c2=>?_
 obtain ⟨x,H1,a_,cQ,p,ex,ar,xi⟩:=c2;subst ex xi;obtain ⟨o,b3,fA⟩:=TU a_ (db ..);rw [rM] at b3 fA;exact ⟨.ref p,_,b3,cQ,h p o ar fA⟩
end
section
variable {X:bg} {dn:Expr}
end
noncomputable def p5 (p d:Addr):Heap->Prop:=fun h=>h.IsItemsView p d
theorem p5.ok {w:World} {h:Heap} {p d:Addr} (z:p5 p d h):dT P w H h p (.ext (p5 p d)):=
 ⟨z,let ⟨o,aT,_⟩:=z;⟨o,aT⟩,fun _ _ fV k=>let ⟨o,aT,x⟩:=fV;⟨o,k o aT,x⟩⟩
theorem eA.w0 {w:World} {h h':Heap} (x:eA P w H h) (k:∀ b u,h.get? b=some u->h'.get? b=some u) (lo:∀ b,b < h.objs.size->I b=H b)
  (new:∀ b o,h.objs.size <= b->I b=some o->dT P w I h' b o):eA P w I h':=fun b u e=>by
 rcases E1 b h.objs.size with ae | ae
 .rw [lo b ae] at e;have up:∀ {c:Addr} {v:fz},H c=some v->I c=some v:=fun {c v} q=>by
   rcases E1 c h.objs.size with aA | aA
   .rw [lo c aA];exact q
   .rw [x.fresh aA] at q;cases q
  exact (x b u e).nR (fun c v _ q=>k c v q) (fun c q=>up q) fun c xs q=>up q
 .exact new b u ae e
theorem fc.w0 {aX:List Addr} {ex:List Addr} {w:World} {h h':Heap} (x:eA P w H h) (k:∀ b u,h.get? b=some u->h'.get? b=some u) (lo:∀ b,b < h.objs.size->I b=H b):fc aX ex H I h h' where
 keep:=fun b u q _ _ _=>k b u q
 slot:=fun b u q _ _ _=>⟨u.slots,k b u q⟩
 free:=fun b u q n _=>by rw [lo b (eV q)];exact n
 there:=fun b u q _=>⟨u,k b u q⟩
 lM:=fun b xs q=>by
  rw [lo b (F8 fun z=>by rw [x.fresh z] at q;cases q)];exact q
 j7:=fun b u xs q=>by
  rw [lo b (F8 fun z=>by rw [x.fresh z] at q;cases q)];exact q
 kV:=fun b ps q=>⟨#[],by rw [lo b (F8 fun z=>by rw [x.fresh z] at q;cases q),q];simp⟩
theorem Inv.w0 (J:Inv X ag σ H s) (k:∀ b u,s.heap.get? b=some u->h'.get? b=some u) (lo:∀ b,b < s.heap.objs.size->I b=H b)
  (new:∀ b o,s.heap.objs.size <= b->I b=some o->dT X.prog X.w I h' b o):Inv X ag σ I { s with heap:=h',toks:=t' }:=J.un (fc.w0 J.bl k lo) (J.bl.w0 k lo new)
theorem Tv:∀ as:List Addr,b0 (as.map V.ref) (as.map eL)
 | []=>.nil
 | _ :: as=>.cons rfl (Tv as)
structure OB (H I:aw) (l:Addr) (as:List Addr) (kvs:List (Key × V)):Prop where
 same:∀ b o,H b=some o->I b=some o
 fresh:H l=none
 apw:∀ a ∈ as,H a=none
 at_:I l=some (.lst (as.map V.ref))
 len:as.length=kvs.length
 al:∀ (j:Nat) (a:Addr) (q:Key × V),as[j]? = some a->kvs[j]? = some q->I a=some (.tup [dk q.1,q.2])
 only:∀ b o,I b=some o->H b=some o\/o=.lst (as.map V.ref)\/∃ q ∈ kvs,o=.tup [dk q.1,q.2]
section
variable {X:bg}
noncomputable def J1:V->List V->aw->cX->Prop:=fun x vs H Q=>∃ d kvs,x=.ref d/\vs=[]/\H d=some (.bu kvs)/\∀ p,H p=none->Q (.ref p) (upd H p (.ext (p5 p d)))
theorem Zp:uI X "dict.items" J1:=by
 intro ag s σ H x xs v us Q J a8 cV h;obtain ⟨d,kvs,rfl,rfl,e,q⟩:=h;cases (show v=eL d from a8);cases cV;obtain ⟨z,hd,vs,rel,c8⟩:=sG J.bl e;refine call_meetsIn alA c8.typeIs PySem.F.entry_dict_items (PySem.F.args_dict_items_1 _) (meets_dict_items (hG X.prog X.w) d hd) ⟨⟨_,c8⟩,?_⟩;exact ⟨.ref _,_,J.laid (o:=.ext (p5 _ d)) (t':=s.toks) (fun b u e=>e6 _ e) (b8 _) (p5.ok ⟨_,hs _ rfl,rfl,rfl⟩),rfl,q _ (J.bl.fresh (b8 _))⟩
theorem ai4 (aA:X.calm=true):jw X (.type "list") (fun xs H Q=>∃ p d kvs,xs=[.ref p]/\H p=some (.ext (p5 p d))/\H d=some (.bu kvs)/\∀ l as I,OB H I l as kvs->Q (.ref l) I):=by
 intro ag s σ H xs us Q J r h;obtain ⟨p,d,kvs,rfl,ep,m7,q⟩:=h;obtain ⟨u,rfl,fB⟩:=jP r;cases fB;obtain ⟨z,hd,vs,rel,c8⟩:=sG J.bl m7;have aI:p5 p d s.heap:=(show dT X.prog X.w H s.heap p (.ext (p5 p d)) from J.bl _ _ ep).1;obtain ⟨ahv,aj2⟩:=c8.dictAt;have hlen:=rel.length;refine PySem.W.kdx_call (knd:=hG X.prog X.w) (kvs:=vs) (ep:=ahv) (J.ok.hd aA) aI aj2 (by omega) fun h' tk acc c as au er i8 zG JU=>?_
 have eu:∀ {i j:Nat} {a:Addr},as[i]? = some a->as[j]? = some a->i=j:=fun {i j a} ax aK=>by
  have af:=(cv.mp ax);have ao:=(cv.mp aK);have Wi:=acb.mp zG.rise;rcases ad' i j with c | c | c
  .have:=Wi i j af.1 ao.1 c;rw [af.2,ao.2] at this;exact absurd this (mu _)
  .exact c
  .have:=Wi j i ao.1 af.1 c;rw [af.2,ao.2] at this;exact absurd this (mu _)
 let F:aw:=fun b=>if b < s.heap.objs.size then H b else if b=s.heap.objs.size then some (.lst (as.map V.ref)) else match as.findIdx? (· = b) with
  | some j=>(kvs[j]?).map fun q:Key × V=>fz.tup [dk q.1,q.2]
  | none=>none
 have FA:∀ b,b < s.heap.objs.size->F b=H b:=fun b ae=>if_pos ae
 have Nr:F s.heap.objs.size=some (.lst (as.map V.ref)):=(if_neg (mu _)).trans (if_pos rfl);have Fa:∀ (j:Nat) (a:Addr),as[j]? = some a->F a=(kvs[j]?).map fun q:Key × V=>fz.tup [dk q.1,q.2]:=fun j a e=>by
  have aR:=zG.above a (cm e);have af:as.findIdx? (· = a)=some j:=by
   rw [RK];obtain ⟨aJ,bF⟩:=cv.mp e;refine ⟨aJ,by simp [bF],fun i ah=>?_⟩;have:=fun z:as[i]=a=>gX ah (eu (cv.mpr ⟨by omega,z⟩) e)
   simpa using this
  show (if a < s.heap.objs.size then H a else if a=s.heap.objs.size then some (.lst (as.map V.ref)) else match as.findIdx? (· = a) with
   | some j=>(kvs[j]?).map fun q:Key × V=>fz.tup [dk q.1,q.2]
   | none=>none)=_
  rw [if_neg (Nat.not_lt.mpr (nE aR)),if_neg (J_ aR),af]
 have VW:∀ b o,s.heap.objs.size <= b->F b=some o->(b=s.heap.objs.size/\o=.lst (as.map V.ref))\/∃ (j:Nat) (q:Key × V),as[j]? = some b/\kvs[j]? = some q/\o=.tup [dk q.1,q.2]:=fun b o ae e=>by
  by_cases vS:b=s.heap.objs.size
  .rw [vS,Nr] at e;exact .inl ⟨vS,(ei e).symm⟩
  .have bF:(match as.findIdx? (· = b) with
    | some j=>(kvs[j]?).map fun q:Key × V=>fz.tup [dk q.1,q.2]
    | none=>none)=some o:=by
    have:F b=_:=(if_neg (Nat.not_lt.mpr ae)).trans (if_neg vS);rw [<- this];exact e
   cases hf:as.findIdx? (· = b) with
   | none=>rw [hf] at bF;cases bF
   | some j=>
    rw [hf] at bF;obtain ⟨q,ax,aK⟩:=tU.mp bF;obtain ⟨aJ,fv,_⟩:=RK.mp hf;exact .inr ⟨j,q,cv.mpr ⟨aJ,by simpa using fv⟩,ax,aK.symm⟩
 have aM:as.length=kvs.length:=by omega
 refine ⟨.ref _,F,J.w0 (t':=tk) au FA fun b o ae e=>?_,rfl,q _ as F ⟨fun b o e=>?_,J.bl.fresh (b8 _),fun a aR=>J.bl.fresh (nE (zG.above a aR)),Nr,aM,fun j a eI ax aK=>by rw [Fa j a ax,aK];rfl,fun b o e=>?_⟩⟩
 .rcases VW b o ae e with ⟨rfl,rfl⟩ | ⟨j,eI,ax,aK,rfl⟩
  .refine ⟨by rw [aP];omega,acc.toList,c,?_,er⟩;rw [JU];exact Tv as
  .obtain ⟨key,k,x,bU,eW,fR⟩:=zG.pairs j b ax;obtain ⟨hC,e0,h5,k8⟩:=MQ rel bU;rw [aK] at e0;cases e0;refine ⟨show 2 <= sizeLine by decide,[key,x],.cons ?_ (.cons k8 .nil),?_⟩
   .rw [h5];exact Xs eW
   .exact ⟨_,fR,rfl,0,rfl⟩
 .rw [FA b (F8 fun z=>by rw [J.bl.fresh z] at e;cases e)];exact e
 .rcases E1 b s.heap.objs.size with ae | ae
  .rw [FA b ae] at e;exact .inl e
  .rcases VW b o ae e with ⟨rfl,rfl⟩ | ⟨j,eI,ax,aK,rfl⟩
   .exact .inr (.inl rfl)
   .exact .inr (.inr ⟨eI,cm aK,rfl⟩)
end
section
open AutoSeq1 (wpAny_loadPart')
open MeetsSeq MeetsSeq2 MeetsSeq3 SeqRoads2
variable {P:Program} {w:World} {l b:Addr} {xs ys:Array Value} {n m:Nat} {c8 anZ:Option Addr} {a6 bA:Array (Option Value)}
end
section
variable {X:bg} {ag:List (Addr × Obj)} {σ:St} {H:aw} {s:Shared}
structure an6 (H:aw) (p:Addr) (ps:List Addr) (cw:List (List (Key × V))):Prop where
 at_:H p=some (.lst (ps.map V.ref))
 len:ps.length=cw.length
 al:∀ (j:Nat) (a:Addr) (kvs:List (Key × V)),ps[j]? = some a->cw[j]? = some kvs->H a=some (.bu kvs)
end
section
variable {X:bg}
end
section
variable {X:bg} {ag:List (Addr × Obj)} {σ:St} {H:aw} {s:Shared} {d:Addr} {o:Obj} {kvs:List (Key × V)}
theorem Yt (J:Inv X ag σ H s) (e:H d=some (.bu kvs)) (g:s.heap.get? d=some o):Inv X ag σ (upd H d (.ey o (.bu kvs))) s:=
 Ju J (by rw [e];exact jz) ⟨o,g⟩ ⟨g,J.bl d _ e⟩
theorem Rr (J:Inv X ag σ H s) (e:H d=some (.ey o (.bu kvs))) (iT:∀ o u,X.rv d ≠ some (.ey o u)):Inv X ag σ (upd H d (.bu kvs)) s:=by
 have ne:∀ {b:Addr} {u:Option fz},H b=u->(∀ ea,u ≠ some (.ey ea (.bu kvs)))->b ≠ d:=fun {b u} q h z=>h o (by rw [<- q,z];exact e)
 refine ⟨J.ok,J.os,J.bare,⟨J.base.keep,J.base.slot,fun b ea q n aj=>?_,J.base.there,fun b xs q=>?_,fun b ea u q=>?_,fun b ps q=>?_⟩,J.loc,J.cell,?_,fun x c q=>?_,fun p ar=>?_,fun b u q=>?_,J.len⟩
 .have h:=J.base.free b ea q n aj;rw [aG (ne h (fun _ z=>by cases z))];exact h
 .have h:=J.base.lM b xs q;rw [aG (ne h (fun _ z=>by cases z))];exact h
 .have h:=J.base.j7 b ea u q;rw [aG (fun z=>iT ea u (by rw [<- z];exact q))];exact h
 .obtain ⟨m,h⟩:=J.base.kV b ps q;exact ⟨m,by rw [aG (ne h (fun _ z=>by cases z))];exact h⟩
 .rw [aG (ne J.free (fun _ z=>by cases z))];exact J.free
 .rw [aG (ne (J.jK x c q) (fun _ z=>by cases z))];exact J.jK x c q
 .obtain ⟨af,ao,bj⟩:=J.pin p ar;exact ⟨af,by rw [aG (ne ao (fun _ z=>by cases z))];exact ao,bj⟩
 .by_cases ae:b=d
  .subst ae;rw [db] at q;cases q;exact (J.bl b _ e).2
  .rw [aG ae] at q;refine (J.bl b u q).nR (fun _ _ _ r=>r) (fun c r=>?_) (fun c xs r=>?_)
   .rw [aG (ne r (fun _ z=>by cases z))];exact r
   .rw [aG (ne r (fun _ z=>by cases z))];exact r
end
noncomputable def y_ (d:Addr) (o:Obj) (kvs:List (Key × V)):ke:=
 ⟨fun i H=>H d=some (.ey o (.bu kvs))/\i < kvs.length,fun i H x I=>I=H/\∃ k v,kvs[i]? = some (k,v)/\x=dk k,fun i H=>H d=some (.ey o (.bu kvs))/\kvs.length <= i⟩
theorem Xa {w:World} {K:bk} {d it:Addr} (ex:o.ExactDict) (aT:o.data=.dict ba ep)
  (aM:ba.size=kvs.length) (cw:∀ (i:Nat) (e:DictEntry),ba[i]? = some e->∃ k v,kvs[i]? = some (k,v)/\bM (dk k) e.key):qy P w K dn (y_ d o kvs) [it] it (fun i h=>h.IsKeyIter it d i ba.size ep) where
 mem:=by simp
 obj:=fun i h st b ae=>by
  have e:b=it:=by simpa using ae
  subst e;obtain ⟨o,e,c,d⟩:=st;exact ⟨o,e,fun v z=>by rw [d] at z;cases z⟩
 keep:=fun i h h' st k=>st.at fun o e=>k it (by simp) o e
 item:=by
  intro X cO hw gH aA i ag s σ H E J hf st bp;subst cO hw gH;obtain ⟨aU,aj⟩:=bp;have r:wP s.heap d o ba ep:=⟨(J.bl d _ aU).1,ex,aT⟩;obtain ⟨f0,f1,f2,eo,f4,fg⟩:=hf it (by simp);obtain ⟨q,DA⟩:∃ q,ba[i]? = some q:=⟨_,Array.getElem?_eq_getElem (show i < ba.size by omega)⟩;obtain ⟨k,v,aen,Gf⟩:=cw i q DA;refine X_ st r DA fun h' l8 pa=>?_
  have a_:Inv X ag σ H { s with heap:=h' }:=J.turned (t':=s.toks) (fun b o ae e=>(pa.2 b ae).trans e) f0 f1 eo f4 fg;obtain ⟨tu,e,c,c8⟩:=id l8;exact ⟨_,rfl,vZ (s:={ s with heap:=h' }) e c c8 (by decide) ⟨dk k,H,a_,Gf,⟨rfl,k,v,aen,rfl⟩,l8,fun b ae=>(hf b ae).1⟩⟩
 done:=by
  intro X cO hw gH aA i ag s σ H E J hf st bp;subst cO hw gH;obtain ⟨aU,aj⟩:=bp;have r:wP s.heap d o ba ep:=⟨(J.bl d _ aU).1,ex,aT⟩;obtain ⟨f0,f1,f2,eo,f4,fg⟩:=hf it (by simp);exact aje (J.ok.hd aA) st r (by omega) fun h' fh=>⟨rfl,J.turned (t':=s.toks) (fun b o ae e=>fh b o ae e) f0 f1 eo f4 fg⟩
 self:=fun _ _ _ _ _ st h=>wpAny_pyIter_keyiter st h
theorem acH {w:World} {k:Key} (h:(hG P w).is k v=true):bM (dk k) v:=by
 rcases nX (k:=k) (v:=v) h with ⟨i,t,rfl,rfl⟩ | ⟨x,t,rfl,rfl⟩
 .exact ⟨t,rfl⟩
 .exact ⟨t,rfl⟩
theorem SD {w:World}:∀ {ba:List DictEntry} {vs:List (Key × Value)} {kvs:List (Key × V)},Pairs (hG P w) ba vs->eZ kvs vs->ba.length=kvs.length/\∀ (i:Nat) (e:DictEntry),ba[i]? = some e->∃ k v,kvs[i]? = some (k,v)/\bM (dk k) e.key
 | _,_,_,.nil,r=>by
  unfold eZ at r;cases r;exact ⟨rfl,fun i e h=>by simp at h⟩
 | _,_,_,.cons au _ t,r=>by
  unfold eZ at r;cases r with
  | @cons p q ps qs h df=>
   obtain ⟨l,al⟩:=SD t (kvs:=ps) df;refine ⟨by rw [gP,gP,l],fun i e he=>?_⟩;cases i with
   | zero=>
    cases he;refine ⟨p.1,p.2,rfl,acH (P:=P) (w:=w) ?_⟩;rw [h.1];exact au
   | succ i=>exact al i e he
section
variable {X:bg} {dn:Expr}
noncomputable def KC (c0:TE):TI:=fun σ H R=>c0 σ H fun x H1=>∃ d kvs,x=.ref d/\H1 d=some (.bu kvs)/\∀ o,R (y_ d o kvs) (upd H1 d (.ey o (.bu kvs)))
theorem GY (aM:bD X l c0):pV X dn l (KC c0):=by
 intro ag s σ H R J h;refine bQ (aM ag s σ H _ J h) fun v s1 cj=>el cj fun x H1 a_ cQ bR=>?_
 obtain ⟨d,kvs,e,m7,q⟩:=bR;subst e;cases cQ;obtain ⟨_,hd,vs,rel,o,ba,ep,g,ex,dat,_,pr,_⟩:=sG a_.bl m7;obtain ⟨aM,cw⟩:=SD pr rel;have b3:=Yt a_ m7 g;refine ahQ hd ⟨g,ex,dat⟩ ?_;refine ⟨s1.heap.objs.size,[s1.heap.objs.size],_,_,_,rfl,b3.kept (t':=s1.toks) fun b o e=>e6 _ e,Xa ex dat (by rw [<- aM];exact zo.symm) (fun i e h=>cw i e (by rw [<- N_] at h;exact h)),⟨_,hs _ rfl,rfl,rfl⟩,fun b ae=>?_,q o⟩;have e:b=s1.heap.objs.size:=by simpa using ae
 subst e;exact b3.p7 (b8 _) (b3.bl.fresh (b8 _))
noncomputable def I8 (t:TE):TE:=fun σ H Q=>∃ d kvs,H d=some (.bu kvs)/\t σ H fun v I=>∃ o,I d=some (.ey o (.bu kvs))/\Q v (upd I d (.bu kvs))
theorem Up {e:Expr} {t:TE} (h:bD X e t):bD X e (I8 t):=by
 intro ag s σ H Q J q;obtain ⟨d,kvs,m7,q⟩:=q;refine bQ (h ag s σ H _ J q) fun v s1 ⟨x,H1,a_,cQ,o,ax,bR⟩=>⟨x,_,Rr a_ ax (fun ea u z=>?_),cQ,bR⟩
 have:=J.base.j7 d ea u z;rw [m7] at this;cases this
end
structure oz (X:bg) (ag:List (Addr × Obj)) (H:aw) (S:Addr):Prop where
 nn:H S=none
 nl:S ≠ X.env.locals
 ge:X.f_.heap.objs.size <= S
 AJ:∀ x c,X.env.cells.lookup x=some c->c ≠ S
 np:∀ p ∈ X.ez ++ ag,p.1 ≠ S
 iT:S ∉ X.aX
theorem oz.of (J:Inv X ag σ H s) (h:s.heap.objs.size <= S):oz X ag H S:=
 ⟨J.bl.fresh h,fun z=>absurd (hU J.lt h) (by rw [z];exact mu _),cP J.oe h,fun x c e z=>by
  obtain ⟨v,o,aT,_⟩:=J.cell x c e;exact absurd (hU (eV aT) h) (by rw [z];exact mu _),fun p ar z=>by
  have aT:=(J.pin p ar).1;exact absurd (hU (eV aT) h) (by rw [z];exact mu _),J.FT h⟩
theorem oz.turn (o:oz X ag H S) (J:Inv X ag σ H s) (k:∀ b o,b ≠ S->s.heap.get? b=some o->h'.get? b=some o):Inv X ag σ H { s with heap:=h',toks:=t' }:=
 J.turned k o.nn o.nl (.inr o.ge) o.AJ o.np
section
variable {X:bg} {A:Around} {ag:List (Addr × Obj)} {σ:St} {H:aw} {l q J S:Addr} {n:Nat} {P:Nat->Value->Prop} {R:Result->Shared->Prop}
theorem Ny (b6:Inv X ag σ H s) (ob:oz X ag H S) (n9:oz X ag H J) (ab9:s.heap.get? S=some QW) (ajN:s.heap.get? J=some UX) (agN:∀ v,QW.data ≠ .cell v) (ak3:∀ v,UX.data ≠ .cell v):Inv X ((S,QW) :: (J,UX) :: ag) σ H s:=
 b6.sY fun p ar=>by
  rcases fx.mp ar with rfl | ar
  .exact ⟨ab9,ob.nn,ob.nl,ob.iT,agN⟩
  rcases fx.mp ar with rfl | ar
  .exact ⟨ajN,n9.nn,n9.nl,n9.iT,ak3⟩
  exact b6.pin p (jh _ ar)
theorem Nb (b6:Inv X (Ik :: FF :: ag) σ H s):Inv X ag σ H s/\s.heap.get? Ik.1=some Ik.2/\s.heap.get? FF.1=some FF.2:=
 ⟨b6.sY fun p ar=>b6.pin p (jh _ (.tail _ (.tail _ ar))),(b6.pin Ik (jh _ (.head _))).1,(b6.pin FF (jh _ (.tail _ (.head _)))).1⟩
theorem ah7 (fG:Nat->Int) (fY:A.handled=none) (aM:∀ s,Inv X ag σ H s->∃ vs:List Value,vs.length=n/\(∀ i v,vs[i]? = some v->P i v)/\s.heap.IsList l vs.toArray) (wg:l ≠ J) (te:S ≠ J) (ob:oz X ag H S) (n9:oz X ag H J)
  (turn:∀ (i:Nat) (v:Value),i < n->P i v->∀ (ag:List (Addr × Obj)) (s:Shared),Inv X ag σ H s ->
   wpAny (model X.prog X.w) A.in1 (call (.ref q) [v]) (g0 X ag σ fun x I=>x=.int (fG i)/\I=H) (fun _ _=>False) s)
  (hT:∀ i v ai,i < n->P i v->(∀ j,j < n->fG i <= fG j/\(j < i->fG i < fG j))->Inv X ag σ H ai->R (.ok (.ret v)) ai) :
  ∀ (r j i:Nat) (s:Shared) (u4:Value) (b1:Tok) (c:Nat),n - (j + 1)=r->j + 1 <= n->Inv X ag σ H s ->
   s.heap.get? S=some (seqObj "list" #[u4,.int (fG i) b1] c)->s.heap.IsListIter J l (j + 1)->P i u4->i <= j->(∀ gf,gf <= j->fG i <= fG gf/\(gf < i->fG i < fG gf)) ->
   codeAny (model X.prog X.w) A (.builtin "min.loop" ⟨[.ref J,.ref q,.ref S],[]⟩) R s:=by
 have x5:(toString "min" ++ toString ".loop" : String) = "min.loop" := by decide
 intro r
 induction r with
 | zero=>
  intro j i s u4 b1 c aq aJ b6 er hit Fn oR t4;obtain ⟨vs,B5,C1,xM⟩:=aM s b6;have W:=CT (prog:=X.prog) (w:=X.w) (A:=A.in1) fY J l wg vs.toArray;have hsz:vs.toArray.size=vs.length:=d8 ..;have ik:j + 1=vs.length:=by omega
  refine codeAny_builtin Ss ?_;rw [Rc tL _];show wpAny _ A.in1 (seqItems? (.ref S) >>= _) _ _ _;refine wpAny_bind (wpAny_seqItems er rfl ?_);show wpAny _ A.in1 (tryCatch (pyNext (.ref J)) _ >>= _) _ _ _;refine wpAny_bind (wpAny_tryCatch (W.done _ _ _ ⟨by rw [hsz,<- ik];exact hit,xM⟩ fun h' w6 e2=>?_));have ri:Inv X ag σ H { s with heap:=h',toks:=w6 }:=n9.turn b6 fun b o n e=>e2 b o (by simpa using n) e
  have w9:=e2 S _ (by simpa using te) er;show wpAny _ A.in1 (updateSeq S (fun _=>#[]) >>= _) _ _ _;refine wpAny_bind ?_;refine wpAny_updateSeq w9 rfl (wpAny_bind (wpAny_letGo (wpAny_pure ?_)));exact hT i u4 _ (by omega) Fn (fun gf gI=>t4 gf (by omega)) (ob.turn ri fun b o n e=>(u' _ _ (dJ n)).trans e)
 | succ r cE=>
  intro j i s u4 b1 c aq aJ b6 er hit Fn oR t4;obtain ⟨vs,B5,C1,xM⟩:=aM s b6;have W:=CT (prog:=X.prog) (w:=X.w) (A:=A.in1) fY J l wg vs.toArray;have hsz:vs.toArray.size=vs.length:=d8 ..;have dV:j + 1 < n:=by omega
  refine codeAny_builtin Ss ?_;rw [Rc tL _];show wpAny _ A.in1 (seqItems? (.ref S) >>= _) _ _ _;refine wpAny_bind (wpAny_seqItems er rfl ?_);show wpAny _ A.in1 (tryCatch (pyNext (.ref J)) _ >>= _) _ _ _;refine wpAny_bind (wpAny_tryCatch (W.item (j + 1) _ _ _ (by rw [hsz,B5];exact dV) ⟨hit,xM⟩ fun v h' w6 cO Lq e2=>?_));have aI:P (j + 1) v:=C1 _ _ (by simpa using cO);obtain ⟨BF,Im,sz,tF⟩:=id Lq.1;have ri:Inv X ag σ H { s with heap:=h',toks:=w6 }:=n9.turn b6 fun b o n e=>e2 b o (by simpa using n) e
  have w9:=e2 S _ (by simpa using te) er;have yt:=Ny ri ob n9 w9 Im (fun _ z=>by cases z) (fun _ z=>by rw [tF] at z;cases z);show wpAny _ A.in1 (tryCatch (holding [v] (call (.ref q) [v])) _ >>= _) _ _ _;refine wpAny_bind (wpAny_tryCatch (wpAny_holding (wpAny_mono (turn (j + 1) v dV aI _ _ yt) (fun x s2 he=>?_) fun _ _ xu=>xu.elim)));obtain ⟨dX,I,uV,a8,rfl,rfl⟩:=he;obtain ⟨d7,rfl⟩:=a8;obtain ⟨pH,vf,yU⟩:=Nb uV;have ag1:s2.heap.IsListIter J l (j + 1 + 1):=⟨BF,yU,sz,tF⟩;show wpAny _ A.in1 (tryCatch (holding [v,.int (fG (j + 1)) d7] (richCompare .Lt (.int (fG (j + 1)) d7) (.int (fG i) b1) >>= _)) _ >>= _) _ _ _;refine wpAny_bind (wpAny_tryCatch (wpAny_holding (wpAny_bind (CmpOf.ints_lt (prog:=X.prog) (w:=X.w) (A:=A.in1) (P:=fun i v=>∃ t,v=.int (fG i) t) fG (fun i v h=>h) (j + 1) i _ _ _ _ _ ⟨d7,rfl⟩ ⟨b1,rfl⟩ ?_))));refine wpAny_bind (wpAny_holding (wpAny_truthy_bool ?_));refine wpAny_bind (wpAny_letGo (wpAny_pure ?_));by_cases fv:fG (j + 1) < fG i
  .obtain ⟨c1,KU⟩:∃ c1,(s2.heap.update S (qZ fun _=>#[v,.int (fG (j + 1)) d7])).get? S=some (seqObj "list" #[v,.int (fG (j + 1)) d7] c1):=⟨_,get?_update_seq vf fun _=>#[v,.int (fG (j + 1)) d7]⟩;simp only [fv,decide_true,if_true];refine wpAny_bind ?_;refine wpAny_updateSeq vf rfl (wpAny_bind (wpAny_letGo ?_));rw [x5];have r4:=ob.turn (t':=s2.toks) pH (h':=s2.heap.update S (qZ fun _=>#[v,.int (fG (j + 1)) d7])) fun b o n e=>(u' _ _ (dJ n)).trans e
   refine wpAny_pure ⟨plainId_quiet tL _,cE (j + 1) (j + 1) _ v d7 c1 (by omega) dV r4 KU ⟨BF,(u' _ _ te).trans yU,sz,tF⟩ aI (b8 _) fun gf gI=>?_⟩;by_cases e:gf=j + 1
   .subst e;exact ⟨by omega,fun _=>by omega⟩
   .have t7:=t4 gf (by omega);have jH:=t7.1;exact ⟨by omega,fun _=>by omega⟩
  .simp only [fv,decide_false,JM,if_false];refine wpAny_bind (wpAny_letGo ?_);rw [x5];refine wpAny_pure ⟨plainId_quiet tL _,cE (j + 1) i _ u4 b1 c (by omega) dV pH vf ag1 Fn (by omega) fun gf gI=>?_⟩;by_cases e:gf=j + 1
   .subst e;exact ⟨by omega,fun _=>by omega⟩
   .exact t4 gf (by omega)
theorem aap (fG:Nat->Int) (fY:A.handled=none) (b6:Inv X ag σ H s) (aM:∀ ag s,Inv X ag σ H s->∃ vs:List Value,vs.length=n/\(∀ i v,vs[i]? = some v->P i v)/\s.heap.IsList l vs.toArray) (ct:0 < n)
  (turn:∀ (i:Nat) (v:Value),i < n->P i v->∀ (ag:List (Addr × Obj)) (s:Shared),Inv X ag σ H s ->
   wpAny (model X.prog X.w) A.in1 (call (.ref q) [v]) (g0 X ag σ fun x I=>x=.int (fG i)/\I=H) (fun _ _=>False) s)
  (a0:∀ i v ai,i < n->P i v->(∀ j,j < n->fG i <= fG j/\(j < i->fG i < fG j))->Inv X ag σ H ai->Q v ai) :
  wpAny (model X.prog X.w) A (call (.builtin "min") [.ref l] [(ab "key",.ref q)]) Q E s:=by
 have x5:(toString "min" ++ toString ".loop" : String) = "min.loop" := by decide
 obtain ⟨agp,_,_,Ap⟩:=aM _ s b6;obtain ⟨ol,adu,_⟩:=id Ap;have DC:l < s.heap.objs.size:=eV adu;refine kmk_tree PySem.F.kind_min PySem.F.plain_min PySem.F.entry_min (kmk_min_key _ _) ?_;show wpAny _ A.in1 (ab8 "min" ["key","default"] 0 ⟨[],[(ab "key",.ref q)]⟩ >>= _) _ _ s;refine wpAny_bind (wpAny_of_eq (show ab8 "min" ["key","default"] 0 ⟨[],[(ab "key",.ref q)]⟩=pure [some (.ref q),none] from rfl) ?_);refine wpAny_bind (wpAny_pure ?_);refine wpAny_bind (wpAny_pyIter_list Ap ?_);refine wpAny_bind (wpAny_newList ?_ (gv _));rw [x5];have er:(s.heap.push { cls:=.type "list_iterator",data:=.fields #[.ref l,.int 0 0] }).objs.size=s.heap.objs.size + 1:=size_push' ..;have wg:l ≠ s.heap.objs.size:=gX DC;have te:(s.heap.push { cls:=.type "list_iterator",data:=.fields #[.ref l,.int 0 0] }).objs.size ≠ s.heap.objs.size:=by rw [er];exact J_ (EZ _)
 refine wpAny_pure ⟨plainId_quiet tL _,?_⟩;have n9:oz X ag H s.heap.objs.size:=.of b6 (b8 _);have ob:oz X ag H (s.heap.push { cls:=.type "list_iterator",data:=.fields #[.ref l,.int 0 0] }).objs.size:=.of b6 (by rw [er];exact Gj _);have aaK:((s.heap.push { cls:=.type "list_iterator",data:=.fields #[.ref l,.int 0 0] }).push (seqObj "list" #[] 0)).get? s.heap.objs.size=some { cls:=.type "list_iterator",data:=.fields #[.ref l,.int 0 0] }:=
  e6 _ (hs _ rfl)
 have P7:((s.heap.push { cls:=.type "list_iterator",data:=.fields #[.ref l,.int 0 0] }).push (seqObj "list" #[] 0)).get? (s.heap.push { cls:=.type "list_iterator",data:=.fields #[.ref l,.int 0 0] }).objs.size=some (seqObj "list" #[] 0):=hs _ rfl;have Vv:Inv X ag σ H { s with heap:=(s.heap.push { cls:=.type "list_iterator",data:=.fields #[.ref l,.int 0 0] }).push (seqObj "list" #[] 0) }:=b6.kept (t':=s.toks) fun b o e=>e6 _ (e6 _ e)
 obtain ⟨vs,B5,C1,xM⟩:=aM _ _ Vv;have W:=CT (prog:=X.prog) (w:=X.w) (A:=A.in1) fY s.heap.objs.size l wg vs.toArray;have hsz:vs.toArray.size=vs.length:=d8 ..;refine codeAny_builtin Ss ?_;rw [Rc tL _];show wpAny _ A.in1 (seqItems? (.ref _) >>= _) _ _ _;refine wpAny_bind (wpAny_seqItems P7 rfl ?_);show wpAny _ A.in1 (tryCatch (pyNext (.ref s.heap.objs.size)) _ >>= _) _ _ _;refine wpAny_bind (wpAny_tryCatch (W.item 0 _ _ _ (by rw [hsz,B5];exact ct) ⟨⟨_,aaK,rfl,rfl⟩,xM⟩ fun v h' w6 cO Lq e2=>?_));have aI:P 0 v:=C1 _ _ (by simpa using cO);obtain ⟨BF,Im,sz,tF⟩:=id Lq.1;have ri:=n9.turn (h':=h') (t':=w6) Vv fun b o n e=>e2 b o (by simpa using n) e
 have w9:=e2 _ _ (by simpa using te) P7;have yt:=Ny ri ob n9 w9 Im (fun _ z=>by cases z) (fun _ z=>by rw [tF] at z;cases z);show wpAny _ A.in1 (tryCatch (holding [v] (call (.ref q) [v])) _ >>= _) _ _ _;refine wpAny_bind (wpAny_tryCatch (wpAny_holding (wpAny_mono (turn 0 v ct aI _ _ yt) (fun x s2 he=>?_) fun _ _ xu=>xu.elim)));obtain ⟨dX,I,uV,a8,rfl,rfl⟩:=he;obtain ⟨d7,rfl⟩:=a8;obtain ⟨pH,vf,yU⟩:=Nb uV;obtain ⟨c1,KU⟩:∃ c1,(s2.heap.update (s.heap.push { cls:=.type "list_iterator",data:=.fields #[.ref l,.int 0 0] }).objs.size (qZ fun _=>#[v,.int (fG 0) d7])).get? (s.heap.push { cls:=.type "list_iterator",data:=.fields #[.ref l,.int 0 0] }).objs.size=some (seqObj "list" #[v,.int (fG 0) d7] c1):=⟨_,get?_update_seq vf fun _=>#[v,.int (fG 0) d7]⟩;show wpAny _ A.in1 (updateSeq (s.heap.push { cls:=.type "list_iterator",data:=.fields #[.ref l,.int 0 0] }).objs.size (fun _=>#[v,.int (fG 0) d7]) >>= _) _ _ _;refine wpAny_bind ?_;refine wpAny_updateSeq vf rfl ?_;rw [x5];have r4:=ob.turn (t':=s2.toks) pH (h':=s2.heap.update (s.heap.push { cls:=.type "list_iterator",data:=.fields #[.ref l,.int 0 0] }).objs.size (qZ fun _=>#[v,.int (fG 0) d7])) fun b o n e=>(u' _ _ (dJ n)).trans e
 refine wpAny_pure ⟨plainId_quiet tL _,ah7 fG fY (fun s b6=>aM _ s b6) wg te ob n9 turn a0 _ 0 0 _ v d7 c1 rfl ct r4 KU ⟨BF,(u' _ _ te).trans yU,sz,tF⟩ aI (b8 _) fun gf gI=>?_⟩;have e:gf=0:=by omega
 subst e;exact ⟨by omega,fun h=>absurd h (mu _)⟩
end
structure B9 (p y z:Str) (sc:Scope):Prop where
 kind:sc.kind=.function
 co:sc.isCoroutine=false
 gen:sc.isGenerator=false
 ne:y ≠ z
 par:sc.names.lookup p=some .local
 NV:sc.names.lookup y=some .free
 KA:sc.names.lookup z=some .free
 vj:∀ z ∈ sc.names,z.2 ≠ .cell
 two:∀ b ∈ sc.names,b.2=.free->b.1=y\/b.1=z
noncomputable def lw (X:bg) (A:Around) (N:List Str) (q:Str) (scope:Scope) (f c':Addr) (cl:List (Str × Addr)) (s:Shared) (H:aw):bg where
 prog:=X.prog
 w:=X.w
 K:=X.K
 mg:=X.mg
 base:=X.base
 A:=A.deeper (GG q scope s.heap.objs.size f (.ref c') cl)
 N:=N
 f_:=s
 rv:=H
 env:=GG q scope s.heap.objs.size f (.ref c') cl
 outer:=X.stack
 stack:=GG q scope s.heap.objs.size f (.ref c') cl :: X.stack
 ex:=[]
 fn:=fun _=>false
 calm:=true
 ez:=[]
 d4:=fun _ _=>False
section
variable {X:bg} {A:Around} {ag:List (Addr × Obj)} {σ:St} {H:aw} {s:Shared} {k:Nat} {f c' cf c1:Addr} {q p y z:Str} {params:Arguments} {body:Expr} {scope:Scope} {v1 v2:V} {t:TE}
theorem BQ {x:Str} (e:([(y,cf),(z,c1)]:List (Str × Addr)).lookup x=some c):(x=y/\c=cf)\/(x=z/\c=c1):=by
 rw [k9] at e;cases ae:x == y with
 | true=>rw [ae] at e;cases e;exact .inl ⟨eq_of_beq ae,rfl⟩
 | false=>
  rw [ae] at e;simp only [k9] at e;cases jH:x == z with
  | true=>rw [jH] at e;cases e;exact .inr ⟨eq_of_beq jH,rfl⟩
  | false=>rw [jH] at e;cases e
theorem aih (S:B9 p y z scope) (aq:eP k A) (j0:A.frames=some X.stack) (J:Inv X ag σ H s) (ne:cf ≠ c1) (cB:H cf=none) (cD:H c1=none)
  (bY:∃ u,bM v1 u/\s.heap.IsCell cf (some u)) (cL:∃ u,bM v2 u/\s.heap.IsCell c1 (some u)) (nH:bM a u)
  (my:af.Ns s.heap.objs.size (fun x=>[(p,u)].reverse.lookup x)) (au:∀ b o,s.heap.get? b=some o->af.get? b=some o) :
  Inv (lw X A [p,y,z] q scope f c' [(y,cf),(z,c1)] s H) [] [some a,some v1,some v2] H { s with heap:=af,toks:=tk }:=by
 obtain ⟨ae0,cQ,qh,R',Rp⟩:=bY;obtain ⟨Vf,gz,tu,Po,VV⟩:=cL;have TJ:([(y,cf),(z,c1)]:List (Str × Addr)).lookup y=some cf:=by rw [k9,beq_self_eq_true]
 have Ud:([(y,cf),(z,c1)]:List (Str × Addr)).lookup z=some c1:=by
  rw [k9,show (z == y)=false from by simpa using dJ S.ne];simp only [k9,beq_self_eq_true]
 have s7:∀ b:Addr,b ∉ (lw X A [p,y,z] q scope f c' [(y,cf),(z,c1)] s H).ex:=fun b z=>absurd (show b ∈ ([]:List Addr) from z) (by simp)
 refine ⟨⟨J.ok.mod,S.kind,rfl,rfl,b8 _,fun x w c ax aK=>?_,fun x aj=>?_,fun x c hf e=>?_,fun _=>aq.hd,Yp j0,.inr ⟨rfl,rfl⟩,fun b z=>absurd z (s7 b),J.bs,cP J.ok.k4 J.oe,fun b _ _=>s7 b,fun b z=>absurd z (s7 b),J.stack,J.LD⟩,
  rfl,J.bare,fc.kept au,⟨_,my,fun i x aoD ax aK bU=>?_⟩,fun x c e=>?_,J.bl.fresh (b8 _),fun x c e=>?_,fun z aO=>absurd (show z ∈ ([]:List (Addr × Obj)) from aO) (by simp),J.bl.kept au,rfl⟩
 .rcases BQ ax with ⟨rfl,rfl⟩ | ⟨rfl,rfl⟩ <;> rcases BQ aK with ⟨rfl,h⟩ | ⟨rfl,h⟩
  .rfl
  .exact absurd h ne
  .exact absurd h.symm ne
  .rfl
 .have aj:scope.names.lookup x=some .cell\/scope.names.lookup x=some .free:=aj;rcases aj with aj | aj
  .exact absurd rfl (S.vj _ (tN aj))
  .rcases S.two _ (tN aj) rfl with h | h
   .have h:x=y:=h;exact ⟨cf,by rw [h];exact TJ⟩
   .have h:x=z:=h;exact ⟨c1,by rw [h];exact Ud⟩
 .cases hf
 .match i,ax,aK with
  | 0,ax,aK=>
   cases ax;cases aK;exact ⟨u,nH,.inl ⟨S.par,by show ql p [(p,u)]=some u;rw [k9,beq_self_eq_true]⟩⟩
  | 1,ax,aK=>
   cases ax;cases aK;exact ⟨ae0,cQ,.inr ⟨.inr S.NV,cf,TJ,⟨qh,au _ _ R',Rp⟩⟩⟩
  | 2,ax,aK=>
   cases ax;cases aK;exact ⟨Vf,gz,.inr ⟨.inr S.KA,c1,Ud,⟨tu,au _ _ Po,VV⟩⟩⟩
  | i + 3,ax,_=>simp [lw] at ax
 .rcases BQ e with ⟨_,rfl⟩ | ⟨_,rfl⟩
  .exact ⟨_,qh,au _ _ R',Rp⟩
  .exact ⟨_,tu,au _ _ Po,VV⟩
 .rcases BQ e with ⟨_,rfl⟩ | ⟨_,rfl⟩
  .exact cB
  .exact cD
theorem Xi (S:B9 p y z scope) (aq:eP k A) (j0:A.frames=some X.stack) (J:Inv X ag σ H s) (ne:cf ≠ c1) (cB:H cf=none) (cD:H c1=none)
  (bY:∃ u,bM v1 u/\s.heap.IsCell cf (some u)) (cL:∃ u,bM v2 u/\s.heap.IsCell c1 (some u))
  (Kt:H f=some (.ext (mK f q params body scope [(y,cf),(z,c1)] c'))) (ll:H c'=some (.ext (mU c' q)))
  (ae:∀ pm kh,bindArgs (amk "<lambda>" q params body scope [(y,cf),(z,c1)] pm (.ref c') kh) ⟨[u],[]⟩=pure [(p,u)]) (nH:bM a u)
  (pB:bD (lw X A [p,y,z] q scope f c' [(y,cf),(z,c1)] s H) body t) (h:t [some a,some v1,some v2] H Q) :
  wpAny (model X.prog X.w) A (call (.ref f) [u]) (g0 X ag σ Q) E s:=by
 have inner:codeAny (model X.prog X.w) A (.call (.ref f) ⟨[u],[]⟩) (IY dE X.stack X.prog X.w H s Q Es) s:=by
  obtain ⟨⟨pm,kh,aT⟩,_⟩:=J.bl _ _ Kt;refine PySem.W.kla_callFunE aq.depth aT rfl S.co S.gen rfl (J.bl _ _ ll).1 ?_;rw [ae];refine wpAny_pure (wpAny_newFunctionEnv S.vj (fun z aO=>by rw [gq.mp aO];exact S.par) (fun af my tr=>⟨J.nolimit.fresh _ tr,?_⟩) S.kind);have au:∀ b o,s.heap.get? b=some o->af.get? b=some o:=fun b o e=>tr.extBut b o (gX (eV e)) (e6 _ e)
  show codeAny _ _ (.expr body (GG q scope s.heap.objs.size f (.ref c') [(y,cf),(z,c1)])) _ _;have b6:=aih (f:=f) (c':=c') (q:=q) (tk:=s.toks + [(p,u)].length) S aq j0 J ne cB cD bY cL nH my au;refine PySem.W.kla_codeExpr (wpAny_mono (pB [] _ _ _ _ b6 h) (fun aof ai aU=>?_) fun _ _ z=>jq z);obtain ⟨x,I,CR,a8,eI⟩:=aU;exact ⟨x,I,CR.os,CR.bare,CR.base,CR.bl,a8,eI⟩
 refine wpAny_call (codeAny_mono inner fun r ai aU=>?_);cases r with
 | error e=>exact aU.elim
 | ok eF=>
  cases eF with
  | ret u=>exact J.after aU
  | next=>exact jq aU
  | brk=>exact jq aU
  | cont=>exact jq aU
end
theorem av.p {K:bk} (s:mA Pt H I) (t:Tab H Pt pos q) (h:av K H a xs):av K I a xs:=by
 rcases h with (h | ⟨o,h⟩) | h
 .exact .inl (.inl (s _ _ (t.ne h (fun _ z=>by cases z)) h))
 .exact .inl (.inr ⟨o,s _ _ (t.ne h (fun _ z=>by cases z)) h⟩)
 .exact .inr h
noncomputable def OY (K:bk) (Pt:Addr) (qN:Pos) (q:Str) (i1 i2:Nat) (t:TE) (bo:gw):TE:=fun σ H Q=>bo σ H fun vs H1=>∃ l cw v1 v2,∃ g:Int->Int,vs=[.ref l]/\av K H1 l (sS V.int cw)/\cw ≠ [] /\
 σ[i1]? = some (some v1)/\σ[i2]? = some (some v2)/\Tab H1 Pt qN q/\∀ aB,mA Pt H1 aB->(aL H1->aL aB)->Tab aB Pt qN q ->
  (∀ n ∈ cw,t [some (.int n),some v1,some v2] aB fun x I=>x=.int (g n)/\I=aB)/\∀ (i:Nat) m,cw[i]? = some m->(∀ (j:Nat) n,cw[j]? = some n->g m <= g n/\(j < i->g m < g n))->Q (.int m) aB
theorem aeq {k:Nat} {t:TE} {p bG pos qN:Pos}
  (aA:X.calm=true) (bp:mO X "min") (hm:X.mg "min"=none) (aR:kJ X [a] bo) (T:Nh X c Pt) (aq:eP (k + 1) X.A) (S:B9 pr y z scope) (af:X.env.cells.lookup y=some cf) (ao:X.env.cells.lookup z=some c1) (Jx:defaultsOf params X.env=([],[])) (pO:closureFor scope X.env=pure [(y,cf),(z,c1)])
  (ck:X.env.scope.names.lookup y=some .cell) (d0:X.env.scope.names.lookup z=some .cell) (WT:X.N[i1]? = some y) (abY:X.N[i2]? = some z)
  (ae:∀ c' pm kh u,bindArgs (amk "<lambda>" (X.env.qual ++ "<lambda>") params body scope [(y,cf),(z,c1)] pm (.ref c') kh) ⟨[u],[]⟩=pure [(pr,u)])
  (pB:∀ f c' s H,∃ t',bD (lw X X.A.in1 [pr,y,z] (X.env.qual ++ "<lambda>") scope f c' [(y,cf),(z,c1)] s H) body t'/\t'=t)
  (he:∀ pos,backTo pos (starEach [a] X.env)=(false,eval a X.env) :: backTo pos (starEach [] X.env):=by intro _;rfl) (c4:∀ pos,(backTo pos (starEach [a] X.env)).any (·.1)=false:=by intro _;rfl) :
  bD X (.Call (.Name "min" p) [a] [⟨some "key",.Lambda params body scope qN,bG⟩] pos) (OY X.K Pt qN (X.env.qual ++ "<lambda>") i1 i2 t bo):=by
 intro ag s σ H Q J h;refine wpAny_Call_Name_kw (vu J bp hm (show bootBuiltins "min"=some (.builtin "min") by ac_nf) ?_);refine callWith_kw (id := "min") (bQ (aR pos ag s σ H _ J h) fun us s1 c2=>?_) (he:=he pos) (hplain:=c4 pos);obtain ⟨vs,H1,a_,cQ,bR⟩:=c2;obtain ⟨l,cw,v1,v2,g,rfl,aU,ct,ax,aK,b1,q⟩:=bR;refine kws_cons (ZA a_ T b1 pO Jx fun f c' aB s2 b3 bA bE wH Kt ll iT=>kws_nil ?_);obtain ⟨lW,ajM⟩:=q aB bA bE wH;have DA:=aU.p bA b1;have cell:∀ {ag:List (Addr × Obj)} {s:Shared} (b6:Inv X ag σ aB s) {i:Nat} {x:Str} {v:V} {cl:Addr},X.N[i]? = some x->σ[i]? = some (some v)->X.env.scope.names.lookup x=some .cell->X.env.cells.lookup x=some cl->∃ u,bM v u/\s.heap.IsCell cl (some u):=by
  intro ag s b6 i x v cl bb ev aj r0;obtain ⟨m,aQ,afC⟩:=b6.loc;obtain ⟨u,fB,lo⟩:=afC i x v bb ev (.inr (.inl aj));have au:X.env.kindOf x=some .cell:=aj;rcases lo with ⟨w,_⟩ | ⟨_,aoi,dH,dI⟩
  .rw [au] at w;cases w
  .rw [r0] at dH;cases dH;exact ⟨u,fB,dI⟩
 have af7:cf ≠ c1:=fun w=>S.ne (J.ok.inj _ _ _ af (by rw [w];exact ao))
 cases cQ with
 | cons r kW=>
  cases kW;cases r;have aaf:0 < cw.length:=VZ.mpr ct;refine aap (n:=cw.length) (P:=fun i v=>∃ t,v=.int (cw.getD i 0) t) (fun i=>g (cw.getD i 0)) (a_.ok.hd aA) b3 (fun ag s b6=>?_) aaf (fun i v ah aI ag s b6=>?_) fun i v ai ah aI t4 b6=>?_
  .obtain ⟨aV,cV,pl,aO⟩:=b6.list DA;have aM:=cV.length;rw [aP] at aM;refine ⟨aV,aM.symm,fun i v aI=>?_,pl.isList⟩;have ah:i < cw.length:=by have:=(cv.mp aI).1;omega
   obtain ⟨w,hw,iD⟩:=cV.get (show (cw.map V.int)[i]? = some (.int cw[i]) by rw [cN,aZ ah];rfl);rw [aI] at hw;cases hw;rw [jg,aZ ah];exact iD
  .obtain ⟨t',t7,rfl⟩:=pB f c' s aB;have hm:cw.getD i 0 ∈ cw:=by rw [jg,aZ ah];exact fM ah
   exact Xi (a:=.int (cw.getD i 0)) S aq.in1 a_.ok.frames b6 af7 (b6.jK _ _ af) (b6.jK _ _ ao) (cell b6 WT ax ck af) (cell b6 abY aK d0 ao) Kt ll (fun pm kh=>ae c' pm kh v) aI t7 (lW _ hm)
  .obtain ⟨tk,rfl⟩:=aI;refine ⟨.int (cw.getD i 0),aB,b6,⟨tk,rfl⟩,ajM i _ (by rw [jg,aZ ah];rfl) fun j n aJ=>?_⟩;have m5:j < cw.length:=(cv.mp aJ).1;have e:cw.getD j 0=n:=by rw [jg,aJ];rfl
   have:=t4 j m5;rw [e] at this;exact this
theorem cn.agD {w:World} {K:bk} {mg:Str->Option Value} {base:Heap} {x qual:Str} {st:Stmt} {fd:FuncData} {N ps:List Str} {k:Nat} (F:cn K x qual st f fd) (S:cx N ps (bB st)) (len:∀ vs H Q E,sp vs H Q E->vs.length=ps.length)
  (pB:∀ (f7:Value),fd.code=f7->∀ (A:Around) (outer:List Env) (s:Shared) (H:aw) (vs:List V) (Q:cX) (E:gG),eP k (A.deeper (envOfC qual (bB st) s.heap.objs.size f f7))->sp vs H Q E ->
   ∃ t,lG (rm dE P w K mg base N qual (bB st) f f7 A outer s H E).mQ (rK st) t/\t { cG:=fun _ I=>Q .b4 I,l1:=Q } (start N vs) H):cK P w K mg base dE (k + 1) f fd ps sp:=by
 obtain ⟨n6,dD,dk,doc,pm,an,f7,fl,sZ,rfl,lk,kN⟩:=F.ex;refine R5 lk kN S len fun A outer s H vs Q E aq pA=>?_
 obtain ⟨t,h,q⟩:=pB f7 rfl A outer s H vs Q E aq pA;exact ⟨t,h.mQ,q⟩
def Og (_:Addr):Prop:=True
noncomputable abbrev O_ {P:Addr} (_:Og P):Addr:=P
theorem ajC {l:PySem.W.OpenLaw} {n k:Nat} {q:Program} {loose:List Str} {Au:(Str->Option Value)->Heap->Prop} {vo:World->Heap->Prop} {d:DefRec} {K:Params->bk} {CX:ka} {sp:bk->Addr->bW} {x:Str} {Pt:Addr}
  (aQ:l.most=some n) (q4:n <= sizeLine) (Fp:d.params.defaults=[]) (aq:eP k callerA)
  (aka:∀ (w:World) (h:Heap),vo w h->(K w.params).In h) (hk:∀ (w:World) (h:Heap),vo w h->h.get? Pt=some (Uz #[])) (gH:∀ p,al0 (K p)=true)
  (F:∀ (w:World) (mg:Str->Option Value) (gK:Addr) (h:Heap),(K w.params).In h->h.Ns mainGlobals mg->mg d.name=some (.ref gK)->Og Pt ->
   ∃ (fd:FuncData) (c:Addr),(∀ (s:Shared) (u:Value),BindsTo s fd ⟨[u],[]⟩ [(x,u)])/\XT (K w.params) c Pt=true /\
    ∀ (base:Heap),(K w.params).In base->base.Ns mainGlobals mg->q9 base c Pt->base.BuiltinsAt mg Pt->cK l.prog w (K w.params) mg base CX k gK fd [x] (sp (K w.params) Pt))
  (pA:∀ (K:bk) (H:aw) (a Pt:Addr) (ns:List Int),ns.length <= n->CQ Pt H->av K H a (ns.map V.int)->sp K Pt [.ref a] H (fun v _=>v=.br true) fun _ _ _=>False)
  (Ea:∀ (H:aw) (s:Shared) (e:Value) (ai:Shared),CX [] H s (fun _ _ _=>False) e ai->False) :
  PySem.W.WalkO q loose Au vo l.row.toRowW d [] (fun f vs=>af1 f vs):=by
 refine OC.ajB aQ Fp fun w f_ dq mg nf gK o pm cd doc a vs ns G Y aT hd kN vR Lu hints hlen bp=>?_
 have kZ:=aka w _ Y;obtain ⟨fd,c,ae,aA,xu⟩:=F w mg gK _ kZ G.T.g vR trivial;exact ahT (c:=c) (Pt:=Pt) kZ (gH w.params) G.T.g G.T.b G.T.builtins G.T.nolimit bp G.T.bmain (PySem.W.codeHd_of_K kZ aA) (hk w _ Y) Lu hints (cP hlen q4) aq xu ae (fun H mM er=>pA (K w.params) H a Pt ns hlen mM er) fun H e ai=>Ea H dq e ai
noncomputable def Ro (st:Stmt):Expr:=match (rK st).getLast? with
 | some (.Return (some (.Call _ _ [⟨_,e,_⟩] _)) _)=>e
 | _=>.Constant .none 0 ⟨0,0,0,0⟩
noncomputable def D3 (t:eH):eH:=fun D σ H=>∃ d kvs,H d=some (.bu kvs)/\t { cG:=fun az I=>∃ o,I d=some (.ey o (.bu kvs))/\D.cG az (upd I d (.bu kvs)),l1:=fun _ _=>False } σ H
theorem ZH {st:Stmt} {t:eH} (h:ia X st t):ia X st (D3 t):=by
 intro ag s σ H D J q;obtain ⟨d,kvs,m7,q⟩:=q;refine bQ (h ag s σ H _ J q) fun f s1 aU=>?_
 cases f with
 | next=>
  obtain ⟨fK,H1,a_,o,ax,bR⟩:=aU;refine ⟨fK,_,Rr a_ ax (fun ea u z=>?_),bR⟩;have:=J.base.j7 d ea u z;rw [m7] at this;cases this
 | ret u=>obtain ⟨_,_,_,_,_,z⟩:=aU;exact z.elim
 | brk=>obtain ⟨_,_,_,z⟩:=aU;exact z.elim
 | cont=>obtain ⟨_,_,_,z⟩:=aU;exact z.elim
theorem aad:jw X (.type "range") (fun xs H Q=>∃ i j:Int,xs=[.int i,.int j]/\∀ p,H p=none->Q (.ref p) (upd H p (.m2 i j))):=by
 intro ag s σ H xs us Q J r h;obtain ⟨i,j,rfl,q⟩:=h;cases r with
 | cons r kW=>
  cases kW with
  | cons df kW=>
   cases kW;obtain ⟨t,rfl⟩:=r;obtain ⟨t',rfl⟩:=df;exact call_range_2 ⟨.ref s.heap.objs.size,upd H s.heap.objs.size (.m2 i j),J.laid (fun b u e=>e6 _ e) (b8 _) ⟨_,_,_,hs _ rfl⟩,rfl,q _ (J.bl.fresh (b8 _))⟩
theorem afJ (aA:X.calm=true):jw X (.type "list") (fun xs H Q=>∃ p i j,xs=[.ref p]/\H p=some (.m2 i j)/\(-4611686018427387904 <= i/\i < 4611686018427387904)/\(-4611686018427387904 <= j/\j < 4611686018427387904)/\j - i <= 16777216/\∀ l,H l=none->Q (.ref l) (upd H l (.lst ((dw (j - i).toNat).map fun (m:Nat)=>V.int (i + m))))):=by
 intro ag s σ H xs us Q J r h;obtain ⟨p,i,j,rfl,ar,af,ao,bj,q⟩:=h;obtain ⟨u,rfl,a8⟩:=jP r;cases a8;obtain ⟨t,u,v,e⟩:=(show dT X.prog X.w H s.heap p (.m2 i j) from J.bl p _ ar);have aQ:Tf i j 1=(((j - i).toNat:Nat):Int):=by rw [rangeSize_one];split <;> omega
 refine call_list_range (J.ok.hd aA) e (small_one af.1 (by omega) ao.1 (by omega)) aQ (by omega) fun h' tk acc c' au bF ah=>?_
 refine ⟨.ref s.heap.objs.size,_,J.laid (o:=.lst ((dw (j - i).toNat).map fun (m:Nat)=>V.int (i + m))) au (b8 _) ⟨?_,acc.toList,c',Rj (fun i v ⟨t,ev⟩=>⟨t,by rw [ev];simp⟩) ah,bF⟩,rfl,q _ (J.bl.fresh (b8 _))⟩;rw [aP,kH];exact cP (show (j - i).toNat <= 16777216 by omega) (by decide)
theorem dx (t u:eH) (D:hF) (σ:St) (H:aw):Hb t u D σ H=(t { D with cG:=u D } σ H):=rfl
theorem Tc (K:bk):NA K bo gB f D σ H=(gB σ H fun y H1=>bo σ H1 fun x aB=>fp x fun a=>∃ C ay aX,aB a=some (.ins C ay aX)/\hI K C/\c5 K C f/\aX.length < 1000 /\
 D.cG σ (upd aB a (.ins C ay (c9 f y aX)))):=rfl
theorem Nq (K:bk) (lO:V->V->aw->cX->Prop):QI K bo gB lO f D σ H=(bo σ H fun x H1=>∃ a C ay aX v,x=.ref a/\H1 a=some (.ins C ay aX)/\hI K C/\c5 K C f/\aX.lookup f=some v /\
 gB σ H1 fun y aB=>lO v y aB fun z bw=>∃ hL mY,bw a=some (.ins C hL mY)/\mY.length < 1000/\D.cG σ (upd bw a (.ins C hL (c9 f z mY)))):=rfl
theorem P8 (t:gw):JV C m sp dvs E bo t σ H Q=(bo σ H fun x H1=>fp x fun a=>∃ ay aX,H1 a=some (.ins C ay aX)/\aX.lookup m=none /\
 t σ H1 fun vs aB=>sp (x :: (vs ++ dvs)) aB Q E):=rfl
theorem PM (t:gw):Oy C sp dvs E t σ H Q=(t σ H fun vs H1=>∀ x ay,H1 x=none->H1 ay=none->ay ≠ x ->
 sp (.ref x :: (vs ++ dvs)) (upd (upd H1 ay (.own x)) x (.ins C ay [])) (fun v aB=>v=.b4/\Q (.ref x) aB) E):=rfl
theorem Md (K:bk) (x:V) (lo:Option Int) (ah:Option Int) (H:aw) (Q:cX):PU K x lo ah H Q=(∃ a xs,x=.ref a/\cJ K H a xs /\
 ¬ (gD.di xs.length 0 lo=0/\gD.di xs.length xs.length ah=xs.length)/\∀ p,H p=none->Q (.ref p) (upd H p (.tup (nC xs lo ah)))):=rfl
theorem RO (x:V):Rw  x y H Q=(∃ l k xs,x=.ref l/\y=.int k/\H l=some (.lst xs)/\-(2 ^ 63) <= k/\k < 2 ^ 63/\xs.length * k.toNat <= sizeLine /\
 ∀ p,H p=none->Q (.ref p) (upd H p (.lst (kC k.toNat xs).flatten))):=rfl
theorem SS (fI ty sO:TE):Ou fI ty sO σ H Q=(fI σ H fun x H1=>∃ a,x=.ref a/\DP H1 a/\ty σ H1 fun y aB=>sO σ aB fun z bw=>∃ kvs k,bw a=some (.bu kvs)/\y=dk k /\
 (∀ v,cR kvs k=some v->Q v (upd bw a (.bu (oN kvs k))))/\(cR kvs k=none->Q z bw)):=rfl
theorem Mm (t:gw):Qw o9 m oO E bo t σ H Q=(bo σ H fun x H1=>∃ a C ay aX,x=.ref a/\H1 a=some (.ins C ay aX)/\o9 C/\aX.lookup m=none /\
 t σ H1 fun vs aB=>oO C (x :: vs) aB Q E):=rfl
theorem TR (K:bk) (t:TE):OY K Pt qN q i1 i2 t bo σ H Q=(bo σ H fun vs H1=>∃ l cw v1 v2,∃ g:Int->Int,vs=[.ref l]/\av K H1 l (sS V.int cw)/\cw ≠ [] /\
 σ[i1]? = some (some v1)/\σ[i2]? = some (some v2)/\Tab H1 Pt qN q/\∀ aB,mA Pt H1 aB->(aL H1->aL aB)->Tab aB Pt qN q ->
  (∀ n ∈ cw,t [some (.int n),some v1,some v2] aB fun x I=>x=.int (g n)/\I=aB)/\∀ (i:Nat) m,cw[i]? = some m->(∀ (j:Nat) n,cw[j]? = some n->g m <= g n/\(j < i->g m < g n))->Q (.int m) aB):=rfl
def dY (b6:ke) (g:gJ) (b1:eH) (D:hF) (σ:St) (H:aw):Prop:=∃ W:Nat->Nat->St->aw->Prop,(∃ m,W 0 m σ H)/\∀ i m σ H,W i m σ H ->
 (b6.stop i H/\D.cG σ H)\/(b6.go i H/\∃ N:St->aw->Prop,(∀ az I,N az I->∃ dB,dB < m/\W (i + 1) dB az I)/\∀ x I,b6.qi i H x I->g x σ I fun cb aB=>b1 { D with cG:=N,fl:=N,cM:=D.cG } cb aB)
theorem Sd:PX wi g b1 D σ H=wi σ H fun b6 H1=>dY b6 g b1 D σ H1:=rfl
def Gc (b6:ke) (g:gJ) (c6:TT) (bT:TE) (da:St) (Q:cX) (H:aw):Prop:=∃ W:Nat->Nat->List V->aw->Prop,(∃ m,W 0 m [] H)/\sI b6 g c6 bT da Q W
theorem VL:K5 wi g c6 bT sel σ H Q=wi σ H fun b6 H1=>Gc b6 g c6 bT (blk sel σ) Q H1:=rfl
theorem V4:M' bo σ H R=(bo σ H fun vs H1=>ny vs fun x=>gV x fun j=>-4611686018427387904 <= j/\j < 4611686018427387904/\R (ni 0 j.toNat) H1):=rfl
theorem wT (f:α->β):[].map f=[]:=rfl
theorem ais (f:α->β) (a:α) (l:List α):(a :: l).map f=f a :: l.map f:=rfl
theorem aaZ (l:List α):[] ++ l=l:=rfl
theorem alN (a:α) (l r:List α):(a :: l) ++ r=a :: (l ++ r):=rfl
theorem Xr (a b:α) (l:List α):(a :: l).set 0 b=b :: l:=rfl
theorem abE (a b:α) (l:List α) (n:Nat):(a :: l).set (n + 1) b=a :: l.set n b:=rfl
theorem aeX (a:α) (l:List α):(a :: l)[0]? = some a:=rfl
theorem alr (a:α) (l:List α) (n:Nat):(a :: l)[n + 1]? = l[n]?:=rfl
theorem ac1:([]:List α).length=0:=rfl
theorem Yy (a:α) (l:List α):(a :: l).length=l.length + 1:=rfl
theorem ZU (f:α->Option β):(none:Option α).bind f=none:=rfl
theorem YR (f:α->Option β) (a:α):(some a).bind f=f a:=rfl
theorem aim (a:Option α):(some a).join=a:=rfl
theorem WH:(none:Option (Option α)).join=none:=rfl
theorem RZ (sel:List (Option Nat)) (σ:St):blk sel σ=sel.map fun o=>o.bind fun j=>(σ[j]?).join:=rfl
theorem dO {t u:eH} (b:Bool) (aA:∀ Q:Bool->aw->Prop,Q b H->c σ H Q) (af:b=true->t D σ H) (ao:b=false->u D σ H):F5 c t u D σ H:=by
 refine aA _ ?_;cases b with
 | true=>exact af rfl
 | false=>exact ao rfl
theorem rL {t u:eH} (R:Bool->aw->Prop) (aA:∀ Q:Bool->aw->Prop,(∀ b I,R b I->Q b I)->c σ H Q) (af:∀ I,R true I->t D σ I) (ao:∀ I,R false I->u D σ I):F5 c t u D σ H:=by
 refine aA _ fun b I r=>?_
 cases b with
 | true=>exact af I r
 | false=>exact ao I r
theorem qn {t:eH} {D:hF} {σ:St} {H:aw} (R:St->aw->Prop) (h:∀ fW:hF,(∀ σ H,R σ H->fW.cG σ H)->fW.l1=D.l1->fW.cM=D.cM->fW.fl=D.fl->t fW σ H) (hT:∀ σ H,R σ H->D.cG σ H):t D σ H:=h D hT rfl rfl rfl
theorem Hj {t:eH} {D:hF} {σ:St} {H:aw} (R:St->aw->Prop) (h:∀ fW:hF,(∀ σ H,R σ H->fW.cG σ H)->t fW σ H) (hT:∀ M,M=D.cG->∀ σ H,R σ H->M σ H):t D σ H:=h D (hT _ rfl)
theorem Ob {p:Prop} (h:∀ q,q=p->q):p:=h p rfl
theorem xn {t:eH} {D:hF} {σ:St} {H:aw} (R:St->aw->Prop) (h:∀ fW:hF,(∀ σ H,R σ H->fW.cG σ H)->t fW σ H) (hT:∀ σ H,R σ H->D.cG σ H):t D σ H:=h D hT
theorem D_ {t u:eH} {D:hF} {σ:St} {H:aw} (R:St->aw->Prop) (h:∀ fW:hF,(∀ σ H,R σ H->fW.cG σ H)->t fW σ H) (hT:∀ M,M=u D->∀ σ H,R σ H->M σ H):Hb t u D σ H:=h { D with cG:=u D } (hT _ rfl)
theorem aiH (v:V) (aA:∀ Q:cX,Q v H->bT σ H Q) (h:D.l1 v H):zh bT D σ H:=aA _ h
theorem pg (x y:Str):(x ++ y).length=x.length + y.length:=by
 show (x.cps ++ y.cps).size=_;rw [Array.size_append];rfl
theorem dY.range {lo:Int} {n:Nat} {g:gJ} {b1:eH} {D:hF} {σ:St} {H:aw} (Pv:Nat->St->aw->Prop) (h0:Pv 0 σ H)
  (aC:∀ i σ H,i < n->Pv i σ H->g (.int (lo + i)) σ H fun cb aB=>b1 { D with cG:=Pv (i + 1),fl:=Pv (i + 1),cM:=D.cG } cb aB) (hd:∀ σ H,Pv n σ H->D.cG σ H):dY (ni lo n) g b1 D σ H:=ab0 Pv h0 aC hd
theorem dY.list {K:bk} (Pv:Nat->St->aw->Prop) (h0:Pv 0 σ H) (aM:∀ i σ H,i <= xs.length->Pv i σ H->av K H a xs)
  (aC:∀ i x σ H,xs[i]? = some x->Pv i σ H->g x σ H fun cb aB=>b1 { D with cG:=Pv (i + 1),fl:=Pv (i + 1),cM:=D.cG } cb aB) (hd:∀ σ H,Pv xs.length σ H->D.cG σ H):dY (nQ K a) g b1 D σ H:=agY Pv h0 aM aC hd
theorem dY.aV (Pv:Nat->St->aw->Prop) (h0:Pv 0 σ H)
  (aC:∀ i x σ H,xs[i]? = some x->Pv i σ H->g x σ H fun cb aB=>b1 { D with cG:=Pv (i + 1),fl:=Pv (i + 1),cM:=D.cG } cb aB) (hd:∀ σ H,Pv xs.length σ H->D.cG σ H):dY (pX xs) g b1 D σ H:=amx Pv h0 aC hd
theorem Gc.list {K:bk} (Pv:Nat->List V->aw->Prop) (aO:xs.length <= sizeLine) (h0:Pv 0 [] H) (aM:∀ i ys H,i <= xs.length->Pv i ys H->av K H a xs/\ys.length <= i)
  (aC:∀ i x ys H,xs[i]? = some x->Pv i ys H->ii Pv g c6 bT da i x ys H) (hd:∀ ys H,Pv xs.length ys H->∀ p,H p=none->Q (.ref p) (upd H p (.lst ys))):Gc (nQ K a) g c6 bT da Q H:=aaL Pv aO h0 aM aC hd
theorem Gc.aV (Pv:Nat->List V->aw->Prop) (aO:xs.length <= sizeLine) (h0:Pv 0 [] H) (aM:∀ i ys H,i <= xs.length->Pv i ys H->ys.length <= i)
  (aC:∀ i x ys H,xs[i]? = some x->Pv i ys H->ii Pv g c6 bT da i x ys H) (hd:∀ ys H,Pv xs.length ys H->∀ p,H p=none->Q (.ref p) (upd H p (.lst ys))):Gc (pX xs) g c6 bT da Q H:=ah5 Pv aO h0 aM aC hd
theorem Gc.range {lo:Int} {n:Nat} {g:gJ} {c6:TT} {bT:TE} {da:St} {Q:cX} {H:aw} (Pv:Nat->List V->aw->Prop) (aO:n <= sizeLine) (h0:Pv 0 [] H) (aM:∀ i ys H,i <= n->Pv i ys H->ys.length <= i)
  (aC:∀ i ys H,i < n->Pv i ys H->ii Pv g c6 bT da i (.int (lo + i)) ys H) (hd:∀ ys H,Pv n ys H->∀ p,H p=none->Q (.ref p) (upd H p (.lst ys))):Gc (ni lo n) g c6 bT da Q H:=aey Pv aO h0 aM aC hd
theorem agu {α β:Type} {xs:List α} {i:Nat} {x:α} (f:α->β) (h:xs[i]? = some x):(xs.take (i + 1)).map f=(xs.take i).map f ++ [f x]:=by
 rw [od,h,e5];rfl
theorem Gc.Zy {xs:List V} {g:gJ} {bT:TE} {da:St} {Q:cX} {H:aw} (f:V->V) (aO:xs.length <= sizeLine) (aC:∀ (i:Nat) (x:V) (N:V->aw->Prop),xs[i]? = some x->N (f x) H->g x da H fun cb aB=>Sub da cb/\bT cb aB N)
  (hd:∀ p,H p=none->Q (.ref p) (upd H p (.lst (xs.map f)))):Gc (pX xs) g pE bT da Q H:=by
 refine Gc.aV (fun i ys I=>I=H/\ys=(xs.take i).map f) aO ⟨rfl,rfl⟩ (fun i ys I ah ⟨_,e⟩=>?_) (fun i x ys I aj ⟨ax,aK⟩ N bb=>?_) (fun ys I ⟨ax,aK⟩ p ar=>?_)
 .rw [e,aP,hE];omega
 .subst ax;exact aC i x (fun y cI=>N (ys ++ [y]) cI) aj (bb _ _ ⟨rfl,by rw [aK,agu f aj]⟩)
 .subst ax;rw [aK,gF];exact hd p ar
theorem Gc.ae8 {lo:Int} {n:Nat} {g:gJ} {bT:TE} {da:St} {Q:cX} {H:aw} (f:Nat->V) (aO:n <= sizeLine) (aC:∀ (i:Nat) (N:V->aw->Prop),i < n->N (f i) H->g (.int (lo + i)) da H fun cb aB=>Sub da cb/\bT cb aB N)
  (hd:∀ p,H p=none->Q (.ref p) (upd H p (.lst ((dw n).map f)))):Gc (ni lo n) g pE bT da Q H:=by
 refine Gc.range (fun i ys I=>I=H/\ys=(dw i).map f) aO ⟨rfl,rfl⟩ (fun i ys I ah ⟨_,e⟩=>?_) (fun i ys I ah ⟨ax,aK⟩ N bb=>?_) (fun ys I ⟨ax,aK⟩ p ar=>?_)
 .rw [e,aP,kH];exact b8 _
 .subst ax;exact aC i (fun y cI=>N (ys ++ [y]) cI) ah (bb _ _ ⟨rfl,by rw [aK,q5,e5];rfl⟩)
 .subst ax;rw [aK];exact hd p ar
theorem Gc.afh {K:bk} (f:V->fz) (aM:av K H a xs) (aO:xs.length <= sizeLine) (aQ:∀ x,pF (f x)=true)
  (aC:∀ (i:Nat) (x:V) (H1:aw) (N:V->aw->Prop),xs[i]? = some x->aN H H1->(aL H->aL H1)->(∀ q,H1 q=none->N (.ref q) (upd H1 q (f x)))->g x da H1 fun cb aB=>Sub da cb/\bT cb aB N)
  (hd:∀ (qs:List Addr) (H1:aw),aN H H1->(aL H->aL H1)->qs.length=xs.length->(∀ (j:Nat) (q:Addr) (x:V),qs[j]? = some q->xs[j]? = some x->H1 q=some (f x)/\H q=none)->∀ p,H1 p=none->Q (.ref p) (upd H1 p (.lst (qs.map V.ref)))):Gc (nQ K a) g pE bT da Q H:=by
 refine Gc.list (fun i ys I=>∃ qs:List Addr,ys=qs.map V.ref/\qs.length=i/\aN H I/\(aL H->aL I)/\∀ (j:Nat) (q:Addr) (x:V),qs[j]? = some q->xs[j]? = some x->I q=some (f x)/\H q=none) aO
  ⟨[],rfl,rfl,aN.refl H,id,fun j q x h _=>by simp at h⟩ ?_ ?_ ?_
 .rintro i ys I ah bf;refine Ob fun rT aY=>?_
  obtain ⟨qs,e,aK,bA,_,_⟩:=bf;subst aY;exact ⟨aM.same bA,by rw [e,aP];omega⟩
 .rintro i x ys I aj ⟨qs,ax,aK,bA,bE,al⟩ N bb;refine aC i x I (fun y cI=>N (ys ++ [y]) cI) aj bA bE fun q aU=>bb _ _ ⟨qs ++ [q],by rw [ax,e5];rfl,by rw [dZ,aK];rfl,bA.ff (bA.free aU),fun n=>(bE n).upd (aQ x),fun j eI dX af ao=>?_⟩
  by_cases aJ:j < qs.length
  .rw [xB aJ] at af;obtain ⟨fV,fj⟩:=al j eI dX af ao;exact ⟨by rw [aG (Db fV aU)];exact fV,fj⟩
  .rw [vd (by omega)] at af;have qo:j - qs.length=0:=by
    cases fY:j - qs.length with
    | zero=>rfl
    | succ n=>rw [fY] at af;simp at af
   rw [qo] at af;have bU:q=eI:=by simpa using af
   subst bU;have eW:j=i:=by omega
   subst eW;rw [aj] at ao;cases ao;exact ⟨db,bA.free aU⟩
 .rintro ys I ⟨qs,ax,aK,bA,bE,al⟩ p ar;subst ax;exact hd qs I bA bE aK al p ar
theorem dY.of (Pv:Nat->St->aw->Prop) (h0:Pv 0 σ H) (uZ:∀ i σ H,i < n->Pv i σ H->b6.go i H) (h8:∀ σ H,Pv n σ H->b6.stop n H)
  (aC:∀ i σ H x I,i < n->Pv i σ H->b6.qi i H x I->g x σ I fun cb aB=>b1 { D with cG:=Pv (i + 1),fl:=Pv (i + 1),cM:=D.cG } cb aB) (hd:∀ σ H,Pv n σ H->D.cG σ H):dY b6 g b1 D σ H:=by
 refine ⟨fun i m σ H=>m=n - i/\i <= n/\Pv i σ H,⟨n,by simp,gv _,h0⟩,?_⟩;rintro i m σ H ⟨rfl,ah,p⟩;by_cases dV:i < n
 .exact .inr ⟨uZ i σ H dV p,Pv (i + 1),fun az I eD=>⟨n - (i + 1),by omega,rfl,dV,eD⟩,fun x I y=>aC i σ H x I dV p y⟩
 .have e:i=n:=by omega
  subst e;exact .inl ⟨h8 σ H p,hd σ H p⟩
theorem Gc.of (Pv:Nat->List V->aw->Prop) (aO:n <= sizeLine) (h0:Pv 0 [] H) (uZ:∀ i ys H,i < n->Pv i ys H->b6.go i H) (h8:∀ ys H,Pv n ys H->b6.stop n H) (aM:∀ i ys H,i < n->Pv i ys H->ys.length <= i)
  (aC:∀ i ys H x I,i < n->Pv i ys H->b6.qi i H x I->ii Pv g c6 bT da i x ys I) (hd:∀ ys H,Pv n ys H->∀ p,H p=none->Q (.ref p) (upd H p (.lst ys))):Gc b6 g c6 bT da Q H:=by
 refine ⟨fun i m ys H=>m=n - i/\i <= n/\Pv i ys H,⟨n,by simp,gv _,h0⟩,?_⟩;rintro i m ys H ⟨rfl,ah,p⟩;by_cases dV:i < n
 .have Ai:=aM i ys H dV p;refine .inr ⟨uZ i ys H dV p,by omega,fun x I y=>?_⟩;exact aC i ys H x I dV p y (fun jV I=>∃ dB,dB < n - i/\dB=n - (i + 1)/\i + 1 <= n/\Pv (i + 1) jV I) fun jV I r=>⟨n - (i + 1),by omega,rfl,dV,r⟩
 .have e:i=n:=by omega
  subst e;exact .inl ⟨h8 ys H p,hd ys H p⟩
section
variable {K:bk} {a b:Addr} {xs ys:List V} {g:gJ} {b1:eH} {D:hF} {σ da:St} {H:aw} {c6:TT} {bT:TE} {Q:cX}
theorem dY.enum (Pv:Nat->St->aw->Prop) (h0:Pv 0 σ H) (aM:∀ i σ H,i <= xs.length->Pv i σ H->av K H a xs)
  (aC:∀ i x σ H p,xs[i]? = some x->Pv i σ H->H p=none->g (.ref p) σ (upd H p (.tup [.int i,x])) fun cb aB=>b1 { D with cG:=Pv (i + 1),fl:=Pv (i + 1),cM:=D.cG } cb aB) (hd:∀ σ H,Pv xs.length σ H->D.cG σ H):dY (Dy K a) g b1 D σ H:=by
 refine dY.of (n:=xs.length) Pv h0 (fun i σ H ah p=>⟨xs,xs[i],aM i σ H (nE ah) p,by simp [ah]⟩) (fun σ H p=>⟨xs,aM _ σ H (b8 _) p,b8 _⟩) (fun i σ H v I ah p y=>?_) hd;obtain ⟨q,x,aU,rfl,aj,rfl⟩:=y;exact aC i x σ H q (aj xs (aM i σ H (nE ah) p)) p aU
theorem dY.zip (Pv:Nat->St->aw->Prop) (h0:Pv 0 σ H) (aM:∀ i σ H,i <= xs.length->Pv i σ H->av K H a xs/\av K H b ys) (n:Nat) (aQ:n=min xs.length ys.length)
  (aC:∀ i x y σ H p,xs[i]? = some x->ys[i]? = some y->Pv i σ H->H p=none->g (.ref p) σ (upd H p (.tup [x,y])) fun cb aB=>b1 { D with cG:=Pv (i + 1),fl:=Pv (i + 1),cM:=D.cG } cb aB) (hd:∀ σ H,Pv n σ H->D.cG σ H):dY (Zi K a b) g b1 D σ H:=by
 subst aQ;refine dY.of (n:=min xs.length ys.length) Pv h0 (fun i σ H ah p=>?_) (fun σ H p=>?_) (fun i σ H v I ah p y=>?_) hd
 .obtain ⟨fV,fj⟩:=aM i σ H (by omega) p;exact ⟨xs,ys,xs[i],ys[i],fV,fj,by rw [aZ (by omega)],by rw [aZ (by omega)]⟩
 .obtain ⟨fV,fj⟩:=aM _ σ H (by omega) p;exact ⟨xs,ys,fV,fj,by omega⟩
 .obtain ⟨q,x,y,aU,rfl,aj,a9,rfl⟩:=y;obtain ⟨fV,fj⟩:=aM i σ H (by omega) p;exact aC i x y σ H q (aj xs fV) (a9 ys fj) p aU
theorem Gc.enum (Pv:Nat->List V->aw->Prop) (aO:xs.length <= sizeLine) (h0:Pv 0 [] H) (aM:∀ i ys H,i <= xs.length->Pv i ys H->av K H a xs/\ys.length <= i)
  (aC:∀ i x ys H p,xs[i]? = some x->Pv i ys H->H p=none->ii Pv g c6 bT da i (.ref p) ys (upd H p (.tup [.int i,x]))) (hd:∀ ys H,Pv xs.length ys H->∀ p,H p=none->Q (.ref p) (upd H p (.lst ys))):Gc (Dy K a) g c6 bT da Q H:=by
 refine Gc.of (n:=xs.length) Pv aO h0 (fun i ys H ah p=>⟨xs,xs[i],(aM i ys H (nE ah) p).1,by simp [ah]⟩) (fun ys H p=>⟨xs,(aM _ ys H (b8 _) p).1,b8 _⟩) (fun i ys H ah p=>(aM i ys H (nE ah) p).2) (fun i zs H v I ah p y=>?_) hd;obtain ⟨q,x,aU,rfl,aj,rfl⟩:=y;exact aC i x zs H q (aj xs (aM i zs H (nE ah) p).1) p aU
theorem ajQ {p:Addr} {x y:V} (h:cJ K H p [x,y]) (q:R ((σ.set i (some x)).set j (some y)) H):uM K 2 (r7 (hN i) (r7 (hN j) wc)) (.ref p) σ H R:=
 ⟨p,_,rfl,h,rfl,x,_,rfl,y,_,rfl,rfl,q⟩
theorem zO {p:Addr} {x y:V} (q:R ((σ.set i (some x)).set j (some y)) (upd H p (.tup [x,y]))):uM K 2 (r7 (hN i) (r7 (hN j) wc)) (.ref p) σ (upd H p (.tup [x,y])) R:=
 ajQ (.inl (.inl db)) q
end
theorem Sub.agK {v w:Option V}:Sub (none :: none :: r) (v :: w :: r):=by
 refine ⟨rfl,fun i u h=>?_⟩
 match i with
 | 0=>cases h
 | 1=>cases h
 | i + 2=>exact h
theorem Sub.vq {v w z:Option V}:Sub (none :: none :: none :: r) (v :: w :: z :: r):=by
 refine ⟨rfl,fun i u h=>?_⟩
 match i with
 | 0=>cases h
 | 1=>cases h
 | 2=>cases h
 | i + 3=>exact h
theorem Gc.lg {K:bk} (aM:av K H a xs) (aO:xs.length <= sizeLine) (he:zs.length=xs.length)
  (aC:∀ (i:Nat) (x z:V) (N:V->aw->Prop),xs[i]? = some x->zs[i]? = some z->N z H->g x da H fun cb aB=>Sub da cb/\bT cb aB N) (hd:∀ p,H p=none->Q (.ref p) (upd H p (.lst zs))):Gc (nQ K a) g pE bT da Q H:=by
 refine Gc.list (fun i ys I=>I=H/\ys=zs.take i) aO ⟨rfl,rfl⟩ (fun i ys I ah ⟨e7,e⟩=>?_) (fun i x ys I aj ⟨ax,aK⟩ N bb=>?_) (fun ys I ⟨ax,aK⟩ p ar=>?_)
 .subst e7;exact ⟨aM,by rw [e,hE];omega⟩
 .subst ax;have ah:i < zs.length:=by rw [he];exact (cv.mp aj).1
  have fX:zs[i]? = some zs[i]:=aZ ah;exact aC i x zs[i] (fun y cI=>N (ys ++ [y]) cI) aj fX (bb _ _ ⟨rfl,by rw [aK,od,fX];rfl⟩)
 .subst ax;rw [aK,<- he,gF];exact hd p ar
theorem Gc.ZE {K:bk} (aM:cJ K H a xs) (aO:xs.length <= sizeLine) (he:zs.length=xs.length)
  (aC:∀ (i:Nat) (x z:V) (N:V->aw->Prop),xs[i]? = some x->zs[i]? = some z->N z H->g x da H fun cb aB=>Sub da cb/\bT cb aB N) (hd:∀ p,H p=none->Q (.ref p) (upd H p (.lst zs))):Gc (Cy K a) g pE bT da Q H:=by
 refine ajp (xs:=xs) (fun i ys I=>I=H/\ys=zs.take i) aO ⟨rfl,rfl⟩ (fun i ys I ah ⟨e7,e⟩=>?_) (fun i x ys I aj ⟨ax,aK⟩ N bb=>?_) (fun ys I ⟨ax,aK⟩ p ar=>?_)
 .subst e7;exact ⟨aM,by rw [e,hE];omega⟩
 .subst ax;have ah:i < zs.length:=by rw [he];exact (cv.mp aj).1
  have fX:zs[i]? = some zs[i]:=aZ ah;exact aC i x zs[i] (fun y cI=>N (ys ++ [y]) cI) aj fX (bb _ _ ⟨rfl,by rw [aK,od,fX];rfl⟩)
 .subst ax;rw [aK,<- he,gF];exact hd p ar
theorem Gc.pG {K:bk} {a:Addr} {xs:List V} {ss:List (Option V)} {g:gJ} {c6:TT} {bT:TE} {da:St} {Q:cX} {H:aw} (aM:av K H a xs) (aO:xs.length <= sizeLine) (he:ss.length=xs.length)
  (aC:∀ (i:Nat) (x:V) (o:Option V) (ys:List V) (N:List V->aw->Prop),xs[i]? = some x->ss[i]? = some o->N (ys ++ o.toList) H->g x da H fun cb aB=>Sub da cb/\c6 cb aB fun c bw=>if c=true then bT cb bw fun y cI=>N (ys ++ [y]) cI else N ys bw)
  (hd:∀ p,H p=none->Q (.ref p) (upd H p (.lst (ss.flatMap px)))):Gc (nQ K a) g c6 bT da Q H:=by
 refine Gc.list (fun i ys I=>I=H/\ys=(ss.take i).flatMap px/\ys.length <= i) aO ⟨rfl,rfl,b8 _⟩ (fun i ys I ah ⟨e7,e,bF⟩=>?_) (fun i x ys I aj ⟨ax,aK,bU⟩ N bb=>?_) (fun ys I ⟨ax,aK,_⟩ p ar=>?_)
 .subst e7;exact ⟨aM,bF⟩
 .subst ax;have ah:i < ss.length:=by rw [he];exact (cv.mp aj).1
  have fX:ss[i]? = some ss[i]:=aZ ah;refine aC i x ss[i] ys N aj fX (bb _ _ ⟨rfl,by rw [aK,od,fX,sA];simp,?_⟩);rw [dZ];cases ss[i] <;> simp <;> omega
 .subst ax;rw [aK,<- he,gF];exact hd p ar
theorem Gc.TC {lo:Int} {n:Nat} {ss:List (Option V)} {g:gJ} {c6:TT} {bT:TE} {da:St} {Q:cX} {H:aw} (aO:n <= sizeLine) (he:ss.length=n)
  (aC:∀ (i:Nat) (o:Option V) (ys:List V) (N:List V->aw->Prop),i < n->ss[i]? = some o->N (ys ++ o.toList) H->g (.int (lo + i)) da H fun cb aB=>Sub da cb/\c6 cb aB fun c bw=>if c=true then bT cb bw fun y cI=>N (ys ++ [y]) cI else N ys bw)
  (hd:∀ p,H p=none->Q (.ref p) (upd H p (.lst (ss.flatMap px)))):Gc (ni lo n) g c6 bT da Q H:=by
 refine Gc.range (fun i ys I=>I=H/\ys=(ss.take i).flatMap px/\ys.length <= i) aO ⟨rfl,rfl,b8 _⟩ (fun i ys I ah ⟨e7,e,bF⟩=>bF) (fun i ys I ah ⟨ax,aK,bU⟩ N bb=>?_) (fun ys I ⟨ax,aK,_⟩ p ar=>?_)
 .subst ax;have et:i < ss.length:=by omega
  have fX:ss[i]? = some ss[i]:=aZ et;refine aC i ss[i] ys N ah fX (bb _ _ ⟨rfl,by rw [aK,od,fX,sA];simp,?_⟩);rw [dZ];cases ss[i] <;> simp <;> omega
 .subst ax;rw [aK,<- he,gF];exact hd p ar
theorem abn (Pv:St->aw->Prop) (x4:St->aw->Nat) (h0:Pv σ H)
  (aC:∀ σ H,Pv σ H->∃ b:Bool,(∀ Q:Bool->aw->Prop,Q b H->c σ H Q)/\(b=true->b1 { D with cG:=fun az I=>Pv az I/\x4 az I < x4 σ H,fl:=fun az I=>Pv az I/\x4 az I < x4 σ H,cM:=D.cG } σ H)/\(b=false->D.cG σ H)):M8 c b1 D σ H:=by
 refine ⟨fun m σ H=>m=x4 σ H/\Pv σ H,⟨_,rfl,h0⟩,?_⟩;rintro m σ H ⟨rfl,p⟩;obtain ⟨b,aA,af,ao⟩:=aC σ H p;refine aA _ ?_;cases b with
 | true=>exact ⟨_,fun az I ⟨eD,l⟩=>⟨_,l,rfl,eD⟩,af rfl⟩
 | false=>exact ao rfl
theorem Sub.name:Sub (none :: r) (v :: r):=by
 refine ⟨rfl,fun i w h=>?_⟩;cases i with
 | zero=>cases h
 | succ i=>exact h
theorem cF {x:Str} {e:Expr} (bb:X.N.Nodup) (he:bD X e bT) (ah:X.N[i]? = some x:=by rfl) (aj:Loc X.env.scope x:=by exact ud rfl) (aC:swapsWith e (some (.Name x pos')) pos.line X.env=pure false:=by rfl) (hf:X.fn x=true\/X.env.scope.names.lookup x=some .local:=by first | exact .inl rfl | exact .inr rfl | assumption):ia X (.Assign [.Name x pos'] e pos) (t9 bT (hN i)):=lb bb ah aj he aC hf
theorem b9 {x:Str} (bb:X.N.Nodup) (ah:X.N[i]? = some x:=by rfl) (aj:Loc X.env.scope x:=by exact ud rfl) (hf:X.fn x=true\/X.env.scope.names.lookup x=some .local:=by first | exact .inl rfl | exact .inr rfl | assumption):m8 X (.Name x pos) (hN i):=TA bb ah aj hf
theorem bh (aq:yo X r) (aR:bD X a bo) (ae:bD X b b1) (aC:V8 b:=by exact fun _ _=>rfl):bD X (.Subscript a b pos) (rX r bo b1):=XQ aq aR ae aC
theorem cc {k:Nat} {fd:FuncData} {x:Str} {p pos:Pos} {e:Expr} {t:gw} (F:cK X.prog X.w X.K X.mg X.base dE k f fd ps sp) (aq:eP k X.A) (hm:X.mg x=some (.ref f)) (au:sM X.K (.ref f)=true) (ae:b_ X.K fd ps []) (aR:kJ X (e :: ba) t) (bp:mO X x:=by rfl) (il:(x == ("__debug__" : Str))=false:=by decide) (he:starEach (e :: ba) X.env=(false,eval e X.env) :: starEach ba X.env:=by rfl) (c4:(backTo pos (starEach ba X.env)).any (·.1)=false:=by rfl):bD X (.Call (.Name x p) (e :: ba) [] pos) (yl sp [] Es t):=abq F aq bp hm au ae .nil cU aR il he c4
end L2
local macro_rules|`(tactic|nofun)=>do let f(s:String):=(s.splitOn " ").toArray.map fun x=>Lean.mkCIdent x.toName;let c:=f "L2.yW L2.rz L2.CD L2.HD L2.Fh L2.Kp L2.LB L2.Ld L2.Gr L2.FI L2.hr L2.dx L2.G0 L2.zh L2.IE L2.Hg L2.hN L2.wc L2.r7 L2.uM L2.IS L2.t9 L2.H' L2.Lb L2.rX L2.IC L2.xW L2.oG L2.Dh L2.Kg L2.Hq L2.H7 L2.GT L2.Tc L2.Nq L2.K6 L2.vH L2.Lm L2.EX L2.Ga L2.yl L2.P8 L2.PM L2.yN L2.FO L2.Gd L2.KL L2.Md L2.JD L2.K9 L2.JZ L2.L_ L2.Iw L2.y3 L2.G4 L2.D4 L2.FP L2.G8 L2.JK L2.RO L2.Fj L2.Lz L2.EJ L2.Ej L2.DZ L2.FY L2.Ln L2.SS L2.pE L2.Ka L2.JQ L2.JR L2.LH L2.Mm L2.Jq L2.Iv L2.Ge L2.pN L2.Ha L2.Gn L2.Iz L2.Kj L2.J1 L2.KC L2.I8 L2.TR L2.D3 L2.Sd L2.VL L2.V4 L2.T3 L2.Nd L2.AC L2.SN L2.Vc L2.RQ L2.U2 L2.start L2.RZ Nat.reduceAdd Nat.reduceSub List.replicate";let a:=f "L2.rm L2.ag9 L2.bg.mQ L2.bg.i9 L2.bg.block L2.bg.q_ L2.bg.aQ L2.wT L2.ais L2.aaZ L2.alN L2.Xr L2.abE L2.aeX L2.alr L2.ac1 L2.Yy L2.ZU L2.YR L2.aim L2.WH"++c;let b:=c++f "L2.abV L2.Zo L2.XK L2.afy L2.ale List.map_cons List.map_nil Option.bind_none Option.bind_some Option.join_some Option.join_none List.length_cons List.length_nil Nat.zero_add List.cons_append List.nil_append List.append_nil List.set_cons_zero List.set_cons_succ List.getElem?_cons_zero List.getElem?_cons_succ Option.some.injEq L2.V.int.injEq L2.V.br.injEq L2.V.str.injEq L2.V.ref.injEq L2.V.ty.injEq exists_eq_left' exists_eq_left exists_and_left List.cons.injEq and_true true_and and_assoc Int.zero_add reduceCtorEq false_and exists_false and_false ite_true ite_false if_true if_false Bool.false_eq_true L2.J' L2.Cz false_or or_false Bool.not_true Bool.not_false decide_true decide_false";`(tactic|((try dsimp only [$[$a:ident],*]);(try simp only [$[$b:ident],*])))
local macro_rules | `(tactic| walk_at "B")=>`(tactic| first | rfl | (dsimp only [L2.bg.block];done) | (dsimp only [L2.bg.block];exact rfl))
local macro_rules | `(tactic| walk_at "F")=>`(tactic| exact ⟨rfl,rfl,rfl,by ac_nf,rfl,by ac_nf,by ac_nf⟩)
namespace L2
open PySem
theorem cH {P:Program} {w:World} {K:bk} {mg:Str->Option Value} {base:Heap} {C:ka} {m n:Nat} {f a:Addr} {fd b:FuncData} {ps q:List Str} {sp S:bW} (h:cK P w K mg base C m f fd ps sp) (g:cK P w K mg base C n f fd ps sp->cK P w K mg base C (n+1) a b q S) (hm:m<=n:=by decide):cK P w K mg base C (n+1) a b q S:=g (h.mono hm)
end L2
set_option hygiene false
local macro_rules | `(tactic| walk_at "O")=>`(tactic| (intro vs H Q E h;repeat (first | (obtain ⟨rfl,_⟩:=h;rfl) | (obtain ⟨_,h⟩:=h))))
set_option hygiene true
set_option hygiene false
local macro_rules | `(tactic| ac_rfl)=>`(tactic| refine Ob fun rT aY=>?_)
local macro_rules | `(tactic| exists $e,0)=>`(tactic| refine Hj $e (fun fW bL=>?_) fun rT aY=>?_)
local macro_rules | `(tactic| exists $e,2)=>`(tactic| refine Hj $e (fun fW dF=>?_) fun rT aY=>?_)
local macro_rules | `(tactic| exists $e,3)=>`(tactic| refine D_ $e (fun fW bL=>?_) fun rT aY=>?_)
local macro_rules | `(tactic| exists $e,4)=>`(tactic| refine D_ $e (fun D bL=>?_) fun rT aY=>?_)
local macro_rules | `(tactic| exists $e,5)=>`(tactic| refine D_ $e (fun fW dF=>?_) fun rT aY=>?_)
local macro_rules | `(tactic| exists $e,9)=>`(tactic| refine ($e) (by walk_at "O") (fun _ _ _ s H vs Q E aq h=>?_))
set_option hygiene true
namespace My
open PySem L2
local macro_rules|`(~~~$x)=>`(some (L2.V.ref $x))
abbrev j2:List Str:=["self","name"]
abbrev je:List Str:=["least","most","members"]
abbrev k6:List Str:=["crossing","rows"]
abbrev kX:List Str:=["self","name","start","end","off","near","least"]
abbrev mV:List Str:=["_law_way"]
abbrev rk:List Str:=["self","own_asked"]
abbrev rB:List Str:=["crossing","one","other"]
abbrev rO:List Str:=["_law_ways_here","_law_stages_here","_law_now"]
abbrev Aq:List Str:=["_law_script","_law_k","_law_many"]
abbrev xO:List Str:=["word","signs","most"]
abbrev Aw:List Str:=["self","good"]
abbrev HG:List Str:=["self","choices"]
abbrev L6:List Str:=["self","low","high"]
abbrev zw:List Str:=["self","kind","name","start","end","off","near","least"]
abbrev zl:List Str:=["crossing","name"]
abbrev Dr:List Str:=["stages","one","other"]
abbrev uK:List Str:=["name","self"]
abbrev tK:List Str:=["_law_i","_law_ways_here"]
abbrev Cs:List Str:=["places","way","second"]
abbrev CN:List Str:=["word","most_figures"]
abbrev xv:List Str:=["crossing","text"]
abbrev BW:List Str:=["reader","places","start"]
abbrev Ac:List Str:=["sort","name","start","end","off","near","least"]
abbrev AO:List Str:=["_law_one","_law_other","_law_places"]
abbrev xj:List Str:=["_law_ways_here","_law_stages_here","_law_now","_law_trams","_law_waits","_law_one","_law_sort","_law_last","_law_row_here"]
abbrev w2:List Str:=["_law_script","_law_places","_law_ways_here","_law_stages_here","_law_keeper","_law_names_here","_law_now","_law_turn","_law_asks_here","_law_due"]
abbrev xJ:List Str:=["self","row","told"]
abbrev yC:List Str:=["self","crossing","rows","one","other"]
abbrev yr:List Str:=["self","stages"]
abbrev Cc:List Str:=["self","number"]
abbrev yL:List Str:=["places","way","place"]
abbrev DW:List Str:=["word","low","high"]
abbrev Ah:List Str:=["crossing","first","second","turns","one"]
abbrev F7:List Str:=["crossing","first","second"]
abbrev KJ:List Str:=["reader","crossing","left"]
abbrev yX:List Str:=["reader","crossing","rows"]
abbrev LN:List Str:=["reader","ways"]
abbrev AX:List Str:=["reader","places","ways"]
abbrev IF:List Str:=["_law_script","_law_many"]
abbrev Bu:List Str:=["_law_script","_law_most"]
abbrev CH:List Str:=["_law_places","_law_ways_here"]
abbrev Jf:List Str:=["_law_ways_here","_law_one","_law_other"]
abbrev C9:List Str:=["_law_script","_law_places","_law_ways_here"]
abbrev Bw:List Str:=["_law_ways_here","_law_stages_here"]
abbrev Br:List Str:=["_law_script","_law_turn","_law_ways_here"]
abbrev Hn:List Str:=["_law_places","_law_ways_here","_law_stages_here","_law_one","_law_other"]
abbrev HB:List Str:=["_law_ways_here","_law_stages_here","_law_now","_law_asked"]
abbrev KV:List Str:=["_law_stages_here","_law_now"]
abbrev Du:List Str:=["_law_places","_law_ways_here","_law_stages_here","_law_now","_law_asked"]
abbrev Bv:List Str:=["self","crossing","rows"]
abbrev Cg:List Str:=["self","asks"]
abbrev Df:List Str:=["self","places","ways"]
abbrev Ay:List Str:=["name","crossing"]
abbrev Bo:List Str:=["least","most","members","crossing"]
abbrev Ao:List Str:=["_law_j","_law_waits","_law_trams","_law_sort"]
abbrev HJ:List Str:=["crossing","rows","told"]
abbrev I4:List Str:=["reader","crossing","left","first","members","alike"]
abbrev E6:List Str:=["_law_ways_here","_law_stages_here","_law_now","_law_asked","_law_low","_law_high","_law_some"]
abbrev KX:List Str:=["self","waited","same","others","choices","last","many"]
noncomputable def top (i:Nat):Stmt:=PySem.Challenge.pw_lampway_k36_whole_keeper.main.body.getD i (.Pass ⟨0,0,0,0⟩)
noncomputable abbrev T9:Stmt:=top 9
theorem Ug:cx ["places","way","place","steps"] yL (bB T9):=(by walk_at "F")
noncomputable abbrev N':Stmt:=top 10
theorem ai3:cx Cs Cs (bB N'):=(by walk_at "F")
noncomputable abbrev UH:Stmt:=top 11
theorem Le:cx ["crossing","one","other","way","second"] rB (bB UH):=(by walk_at "F")
noncomputable abbrev S4:Stmt:=top 12
theorem Ly:cx ["crossing","one","other","way","second"] rB (bB S4):=(by walk_at "F")
noncomputable abbrev Fq:Stmt:=top 18
theorem XL:cx ["text"] ["text"] (bB Fq):=(by walk_at "F")
noncomputable abbrev K4:Stmt:=top 19
theorem xz:cx xO xO (bB K4):=(by walk_at "F")
noncomputable abbrev bv:Stmt:=top 20
theorem acr:cx CN CN (bB bv):=(by walk_at "F")
noncomputable abbrev TF:Stmt:=top 21
theorem OU:cx ["word","low","high","number"] DW (bB TF):=(by walk_at "F")
noncomputable abbrev TZ:Stmt:=top 22
theorem WQ:cx ["word"] ["word"] (bB TZ):=(by walk_at "F")
noncomputable abbrev Fd:Stmt:=top 25
theorem aay:cx ["text"] ["text"] (bB Fd):=(by walk_at "F")
noncomputable abbrev T4:Stmt:=top 30
theorem alk:cx zl zl (bB T4):=(by walk_at "F")
noncomputable abbrev Nt:Stmt:=top 31
theorem ye:cx ["members","homes","number","names","name"] ["members"] (bB Nt):=(by walk_at "F")
noncomputable abbrev wF:Stmt:=top 32
theorem FQ:cx Ah F7 (bB wF):=(by walk_at "F")
noncomputable abbrev BY:Stmt:=top 33
theorem So:cx HJ k6 (bB BY):=(by walk_at "F")
noncomputable abbrev C_:Stmt:=top 34
theorem CY:cx I4 KJ (bB C_):=(by walk_at "F")
noncomputable abbrev Pj:Stmt:=top 35
theorem Jk:cx ["reader","crossing","rows","least","most"] yX (bB Pj):=(by walk_at "F")
noncomputable abbrev Pe:Stmt:=top 36
theorem Qh:cx ["crossing","rows","left"] k6 (bB Pe):=(by walk_at "F")
noncomputable abbrev Gg:Stmt:=top 37
theorem Bl:cx ["crossing","rows","homes","name","number"] k6 (bB Gg):=(by walk_at "F")
noncomputable abbrev V7:Stmt:=top 38
theorem w8:cx ["crossing","rows","number","row","one","other"] k6 (bB V7):=(by walk_at "F")
noncomputable abbrev Qe:Stmt:=top 39
theorem GO:cx ["crossing","text","rows","reader"] xv (bB Qe):=(by walk_at "F")
noncomputable abbrev SV:Stmt:=top 40
theorem aeQ:cx Dr Dr (bB SV):=(by walk_at "F")
noncomputable abbrev RU:Stmt:=top 56
theorem ut:cx ["reader","places"] ["reader"] (bB RU):=(by walk_at "F")
noncomputable abbrev HY:Stmt:=top 57
theorem U8:cx ["reader","ways","name"] LN (bB HY):=(by walk_at "F")
noncomputable abbrev Ow:Stmt:=top 58
theorem amG:cx BW BW (bB Ow):=(by walk_at "F")
noncomputable abbrev SX:Stmt:=top 59
theorem ah4:cx Ac Ac (bB SX):=(by walk_at "F")
noncomputable abbrev M4:Stmt:=top 60
theorem qF:cx ["reader","places","ways","sort","name","start","end","off","near","least"] AX (bB M4):=(by walk_at "F")
noncomputable abbrev RN:Stmt:=top 61
theorem Re:cx ["text","rows","places","ways","reader"] ["text"] (bB RN):=(by walk_at "F")
noncomputable abbrev OG:Stmt:=top 63
theorem ug:cx ["_law_script","_law_k","_law_many","_law_cell","_law_seed"] Aq (bB OG):=(by walk_at "F")
noncomputable abbrev FD:Stmt:=top 64
theorem rh:cx ["_law_script","_law_many","_law_letters","_law_base","_law_way","_law_at","_law_names_here","_law_k","_law_sign"] IF (bB FD):=(by walk_at "F")
noncomputable abbrev Qk:Stmt:=top 65
theorem m3:cx ["_law_script","_law_most","_law_places","_law_names_here","_law_ways_here","_law_k","_law_start","_law_end","_law_sort","_law_off","_law_near"] Bu (bB Qk):=(by walk_at "F")
noncomputable abbrev LJ:Stmt:=top 66
theorem DV:cx ["_law_places","_law_ways_here","_law_rows","_law_way"] CH (bB LJ):=(by walk_at "F")
noncomputable abbrev Sw:Stmt:=top 67
theorem Dn:cx ["_law_one","_law_other","_law_places","_law_length","_law_start","_law_end"] AO (bB Sw):=(by walk_at "F")
noncomputable abbrev Nz:Stmt:=top 68
theorem R0:cx ["_law_ways_here","_law_one","_law_other","_law_tram"] Jf (bB Nz):=(by walk_at "F")
noncomputable abbrev I3:Stmt:=top 69
theorem lY:cx ["_law_script","_law_places","_law_ways_here","_law_some","_law_k","_law_fits","_law_j","_law_good","_law_i","_law_stages_here","_law_low","_law_more"] C9 (bB I3):=(by walk_at "F")
noncomputable abbrev KY:Stmt:=top 70
theorem be:cx ["_law_ways_here","_law_stages_here","_law_rows","_law_low","_law_high","_law_some"] Bw (bB KY):=(by walk_at "F")
noncomputable abbrev U1:Stmt:=top 71
theorem Bx:cx ["_law_script","_law_turn","_law_ways_here","_law_rate","_law_asks_here","_law_k"] Br (bB U1):=(by walk_at "F")
noncomputable abbrev Pm:Stmt:=top 72
theorem aa1:cx mV mV (bB Pm):=(by walk_at "F")
noncomputable abbrev Ri:Stmt:=top 73
theorem amo:cx mV mV (bB Ri):=(by walk_at "F")
noncomputable abbrev P9:Stmt:=top 74
theorem wG:cx ["_law_places","_law_ways_here","_law_stages_here","_law_one","_law_other","_law_turns","_law_i","_law_k"] Hn (bB P9):=(by walk_at "F")
noncomputable abbrev S':Stmt:=top 75
theorem w5:cx ["_law_ways_here","_law_stages_here","_law_now","_law_row_here","_law_i"] rO (bB S'):=(by walk_at "F")
noncomputable abbrev u5:Stmt:=top 76
theorem ra:cx xj rO (bB u5):=(by walk_at "F")
noncomputable abbrev z2:Stmt:=top 77
theorem BH:cx E6 HB (bB z2):=(by walk_at "F")
noncomputable abbrev QO:Stmt:=top 78
theorem U5:cx ["_law_stages_here","_law_now","_law_i"] KV (bB QO):=(by walk_at "F")
noncomputable abbrev SE:Stmt:=top 79
theorem Hi:cx ["_law_places","_law_ways_here","_law_stages_here","_law_now","_law_asked","_law_row_here","_law_i"] Du (bB SE):=(by walk_at "F")
noncomputable abbrev tn:Stmt:=top 80
theorem o3:cx w2 ["_law_script"] (bB tn):=(by walk_at "F")
noncomputable abbrev Pz:Stmt:=fy (top 24) 0
theorem agS:cx xJ xJ (bB Pz):=(by walk_at "F")
noncomputable abbrev Rb:Stmt:=fy (top 24) 1
theorem aiI:cx ["self"] ["self"] (bB Rb):=(by walk_at "F")
noncomputable abbrev UW:Stmt:=fy (top 24) 2
theorem Yc:cx ["self"] ["self"] (bB UW):=(by walk_at "F")
noncomputable abbrev Te:Stmt:=fy (top 24) 4
theorem aid:cx Aw Aw (bB Te):=(by walk_at "F")
noncomputable abbrev VT:Stmt:=fy (top 24) 5
theorem SK:cx ["self","choices","found"] HG (bB VT):=(by walk_at "F")
noncomputable abbrev Pi:Stmt:=fy (top 24) 6
theorem Uq:cx ["self","low","high","found"] L6 (bB Pi):=(by walk_at "F")
noncomputable abbrev NI:Stmt:=fy (top 24) 7
theorem Wp:cx ["self"] ["self"] (bB NI):=(by walk_at "F")
noncomputable abbrev ue:Stmt:=fy (top 29) 0
theorem JI:cx yC Bv (bB ue):=(by walk_at "F")
noncomputable abbrev cr:Stmt:=fy (top 42) 0
theorem YM:cx yr yr (bB cr):=(by walk_at "F")
noncomputable abbrev Go:Stmt:=fy (top 42) 1
theorem Yd:cx ["self"] ["self"] (bB Go):=(by walk_at "F")
noncomputable abbrev Jt:Stmt:=fy (top 42) 2
theorem akw:cx ["self"] ["self"] (bB Jt):=(by walk_at "F")
noncomputable abbrev jp:Stmt:=fy (top 42) 3
theorem I0:cx ["self","colours","name"] ["self"] (bB jp):=(by walk_at "F")
noncomputable abbrev OR:Stmt:=fy (top 42) 4
theorem Xj:cx j2 j2 (bB OR):=(by walk_at "F")
noncomputable abbrev NR:Stmt:=fy (top 42) 5
theorem D7:cx ["self","name","way","home"] j2 (bB NR):=(by walk_at "F")
noncomputable abbrev ML:Stmt:=fy (top 42) 6
theorem uC:cx ["self","asks","name","colours","own_asked"] Cg (bB ML):=(by walk_at "F")
noncomputable abbrev T7:Stmt:=fy (top 42) 7
theorem ahC:cx rk rk (bB T7):=(by walk_at "F")
noncomputable abbrev Do:Stmt:=fy (top 42) 8
theorem aem:cx rk rk (bB Do):=(by walk_at "F")
noncomputable abbrev L4:Stmt:=fy (top 42) 9
theorem acG:cx ["self"] ["self"] (bB L4):=(by walk_at "F")
noncomputable abbrev uY:Stmt:=fy (top 42) 10
theorem s_:cx KX ["self"] (bB uY):=(by walk_at "F")
noncomputable abbrev Od:Stmt:=fy (top 42) 11
theorem agm:cx Cc Cc (bB Od):=(by walk_at "F")
noncomputable abbrev Ur:Stmt:=fy (top 42) 12
theorem Mv:cx j2 ["self"] (bB Ur):=(by walk_at "F")
noncomputable abbrev NP:Stmt:=fy (top 44) 0
theorem alQ:cx zw zw (bB NP):=(by walk_at "F")
noncomputable abbrev PE:Stmt:=fy (top 45) 0
theorem adv:cx kX kX (bB PE):=(by walk_at "F")
noncomputable abbrev QM:Stmt:=fy (top 45) 1
theorem adt:cx ["self"] ["self"] (bB QM):=(by walk_at "F")
noncomputable abbrev Wg:Stmt:=fy (top 45) 2
theorem aip:cx ["self"] ["self"] (bB Wg):=(by walk_at "F")
noncomputable abbrev Wd:Stmt:=fy (top 46) 0
theorem alI:cx kX kX (bB Wd):=(by walk_at "F")
noncomputable abbrev S8:Stmt:=fy (top 46) 1
theorem Za:cx ["self"] ["self"] (bB S8):=(by walk_at "F")
noncomputable abbrev No:Stmt:=fy (top 46) 2
theorem Wt:cx ["self"] ["self"] (bB No):=(by walk_at "F")
noncomputable abbrev NJ:Stmt:=fy (top 47) 0
theorem adp:cx kX kX (bB NJ):=(by walk_at "F")
noncomputable abbrev zn:Stmt:=fy (top 47) 1
theorem aeY:cx ["self"] ["self"] (bB zn):=(by walk_at "F")
noncomputable abbrev PJ:Stmt:=fy (top 47) 2
theorem amF:cx ["self"] ["self"] (bB PJ):=(by walk_at "F")
noncomputable abbrev Sb:Stmt:=fy (top 55) 0
theorem KG:cx ["self","places","ways","number","way"] Df (bB Sb):=(by walk_at "F")
noncomputable abbrev Eo:Stmt:=fy (top 55) 1
theorem abP:cx ["self"] ["self"] (bB Eo):=(by walk_at "F")
noncomputable abbrev Rm:Stmt:=fy (top 55) 2
theorem agr:cx j2 j2 (bB Rm):=(by walk_at "F")
noncomputable abbrev PI:Stmt:=fy (top 55) 3
theorem Y2:cx j2 j2 (bB PI):=(by walk_at "F")
set_option genInjectivity false in
set_option genInjectivity false in
structure b7 where
 {Cf ET ZB za Co G' L5 Fo FV xr GN DJ HZ Kf H0 zk zS zq BR xp Gh BZ Gm DN GK y1 AQ BG Jc y0 Cv Bc LL By zB Dd zu zU Ie A_ DG Lo IU Cl LG xw Ck zg zE zV AH Dp vJ xm wd wM Ax yQ y5 wz A4 Af Ci BC y7 A2 AN wo yV CW yy BE Bz wa y4 BN wm yj AR wJ hv fH dc lK jt jx ld h3 s6:Addr}
 {B' Js Dq zX zF DS H2 FN LU xT K1 IL DL Hw Lg Bp Bi Ad AV vB LP im L0 io Jv Cn Dv Cx D8 lm zf z0 J8 CP Dj z5 BI zW E9 Ct H6 Ig Kb zJ A7 yP GU JY Ee ad GI JN zL An C2 zv F4 LX Je AB HL FR GZ B1 G5 DE I9 BK K2 Lj Dg En Hf BS HX H5 Dw yT LK zm:FuncData}
 {RV N4 SB Vd Tn NX Se RT UZ UU OW Q2:Value}
structure Txt (w:World) (K:bk) (mg:Str->Option Value) (t:b7):Prop where
 OF:mg "in_bow"=some (.ref t.Cf)
 zx:cn K "in_bow" "in_bow" T9 t.Cf t.B'
 ahX:mg "bows_cross"=some (.ref t.ET)
 Ft:cn K "bows_cross" "bows_cross" N' t.ET t.Js
 U9:mg "meet"=some (.ref t.ZB)
 KF:cn K "meet" "meet" UH t.ZB t.Dq
 ama:mg "gap"=some (.ref t.za)
 PP:cn K "gap" "gap" S4 t.za t.zX
 ag':mg "words"=some (.ref t.Co)
 LZ:cn K "words" "words" Fq t.Co t.zF
 Oo:mg "is_made_of"=some (.ref t.G')
 BD:cn K "is_made_of" "is_made_of" K4 t.G' t.DS
 ahh:mg "is_number"=some (.ref t.L5)
 Eu:cn K "is_number" "is_number" bv t.L5 t.H2
 aby:mg "figured"=some (.ref t.Fo)
 GC:cn K "figured" "figured" TF t.Fo t.FN
 aaI:mg "is_name"=some (.ref t.FV)
 IP:cn K "is_name" "is_name" TZ t.FV t.LU
 MU:mg "readers"=some (.ref t.xr)
 yR:cn K "readers" "readers" Fd t.xr t.xT
 H3:mg "sort_of"=some (.ref t.GN)
 vD:cn K "sort_of" "sort_of" T4 t.GN t.K1
 KI:mg "homes_in"=some (.ref t.DJ)
 ul:cn K "homes_in" "homes_in" Nt t.DJ t.IL
 Xm:mg "change_turns"=some (.ref t.HZ)
 Fw:cn K "change_turns" "change_turns" wF t.HZ t.DL
 Qb:mg "names_left"=some (.ref t.Kf)
 zR:cn K "names_left" "names_left" BY t.Kf t.Hw
 YK:mg "read_members"=some (.ref t.H0)
 L1:cn K "read_members" "read_members" C_ t.H0 t.Lg
 KB:mg "read_stage"=some (.ref t.zk)
 DD:cn K "read_stage" "read_stage" Pj t.zk t.Bp
 ZC:mg "refuse_never"=some (.ref t.zS)
 Ef:cn K "refuse_never" "refuse_never" Pe t.zS t.Bi
 alb:mg "refuse_short"=some (.ref t.zq)
 D2:cn K "refuse_short" "refuse_short" Gg t.zq t.Ad
 akp:mg "refuse_clash"=some (.ref t.BR)
 Kd:cn K "refuse_clash" "refuse_clash" V7 t.BR t.AV
 YL:mg "read_stages"=some (.ref t.xp)
 HQ:cn K "read_stages" "read_stages" Qe t.xp t.vB
 PQ:mg "change"=some (.ref t.Gh)
 zK:cn K "change" "change" SV t.Gh t.LP
 aiv:mg "read_ring"=some (.ref t.BZ)
 H4:cn K "read_ring" "read_ring" RU t.BZ t.im
 aba:mg "read_new_name"=some (.ref t.Gm)
 JJ:cn K "read_new_name" "read_new_name" HY t.Gm t.L0
 YI:mg "read_end"=some (.ref t.DN)
 Ff:cn K "read_end" "read_end" Ow t.DN t.io
 amw:mg "made_way"=some (.ref t.GK)
 Os:cn K "made_way" "made_way" SX t.GK t.Jv
 ahK:mg "read_way"=some (.ref t.y1)
 GS:cn K "read_way" "read_way" M4 t.y1 t.Cn
 YZ:mg "read_crossing"=some (.ref t.AQ)
 Jo:cn K "read_crossing" "read_crossing" RN t.AQ t.Dv
 gp:mg "_law_draw"=some (.ref t.BG)
 fF:cn K "_law_draw" "_law_draw" OG t.BG t.Cx
 W9:mg "_law_names"=some (.ref t.Jc)
 D0:cn K "_law_names" "_law_names" FD t.Jc t.D8
 XR:mg "_law_ways"=some (.ref t.y0)
 IW:cn K "_law_ways" "_law_ways" Qk t.y0 t.lm
 acg:mg "_law_text"=some (.ref t.Cv)
 IJ:cn K "_law_text" "_law_text" LJ t.Cv t.zf
 NG:mg "_law_meet"=some (.ref t.Bc)
 Tl:cn K "_law_meet" "_law_meet" Sw t.Bc t.z0
 aaM:mg "_law_alike"=some (.ref t.LL)
 E3:cn K "_law_alike" "_law_alike" Nz t.LL t.J8
 Ty:mg "_law_stages"=some (.ref t.By)
 Fv:cn K "_law_stages" "_law_stages" I3 t.By t.CP
 Ws:mg "_law_stages_text"=some (.ref t.zB)
 GR:cn K "_law_stages_text" "_law_stages_text" KY t.zB t.Dj
 akQ:mg "_law_asks"=some (.ref t.Dd)
 JB:cn K "_law_asks" "_law_asks" U1 t.Dd t.z5
 At:mg "_law_ready"=some (.ref t.zu)
 BA:cn K "_law_ready" "_law_ready" Pm t.zu t.BI
 V6:mg "_law_fade"=some (.ref t.zU)
 yI:cn K "_law_fade" "_law_fade" Ri t.zU t.zW
 af_:mg "_law_change"=some (.ref t.Ie)
 JC:cn K "_law_change" "_law_change" P9 t.Ie t.E9
 TV:mg "_law_row"=some (.ref t.A_)
 A1:cn K "_law_row" "_law_row" S' t.A_ t.Ct
 agM:mg "_law_pick"=some (.ref t.DG)
 H9:cn K "_law_pick" "_law_pick" u5 t.DG t.H6
 adS:mg "_law_stays"=some (.ref t.Lo)
 Gz:cn K "_law_stays" "_law_stays" z2 t.Lo t.Ig
 R2:mg "_law_over"=some (.ref t.IU)
 Bj:cn K "_law_over" "_law_over" QO t.IU t.Kb
 aaH:mg "_law_next"=some (.ref t.Cl)
 Op:cn K "_law_next" "_law_next" SE t.Cl t.zJ
 Z3:mg "law"=some (.ref t.LG)
 WO:cn K "law" "law" tn t.LG t.A7
 acN:mg "RowReader"=some (.ref t.hv)
 aog:dC K (.ref t.hv) "__init__"=some (some (.ref t.xw))
 Of:cn K "__init__" "RowReader.__init__" Pz t.xw t.yP
 apA:dC K (.ref t.hv) "ahead"=some (some (.ref t.Ck))
 QX:cn K "ahead" "RowReader.ahead" Rb t.Ck t.GU
 am1:dC K (.ref t.hv) "has_more"=some (some (.ref t.zg))
 ci:cn K "has_more" "RowReader.has_more" UW t.zg t.JY
 aob:dC K (.ref t.hv) "take"=some (some (.ref t.zE))
 MJ:cn K "take" "RowReader.take" Te t.zE t.Ee
 amU:dC K (.ref t.hv) "one_of"=some (some (.ref t.zV))
 Mn:cn K "one_of" "RowReader.one_of" VT t.zV t.ad
 aoy:dC K (.ref t.hv) "figures"=some (some (.ref t.AH))
 VG:cn K "figures" "RowReader.figures" Pi t.AH t.GI
 aoW:dC K (.ref t.hv) "finish"=some (some (.ref t.Dp))
 Wk:cn K "finish" "RowReader.finish" NI t.Dp t.JN
 Zt:mg "Stages"=some (.ref t.fH)
 anh:dC K (.ref t.fH) "__init__"=some (some (.ref t.vJ))
 Wj:cn K "__init__" "Stages.__init__" ue t.vJ t.zL
 Zh:mg "Keeper"=some (.ref t.dc)
 aod:dC K (.ref t.dc) "__init__"=some (some (.ref t.xm))
 QJ:cn K "__init__" "Keeper.__init__" cr t.xm t.An
 anB:dC K (.ref t.dc) "stage"=some (some (.ref t.wd))
 Ux:cn K "stage" "Keeper.stage" Go t.wd t.C2
 aoX:dC K (.ref t.dc) "waits"=some (some (.ref t.wM))
 V_:cn K "waits" "Keeper.waits" Jt t.wM t.zv
 aol:dC K (.ref t.dc) "shown"=some (some (.ref t.Ax))
 Sr:cn K "shown" "Keeper.shown" jp t.Ax t.F4
 amR:dC K (.ref t.dc) "stage_colour"=some (some (.ref t.yQ))
 UR:cn K "stage_colour" "Keeper.stage_colour" OR t.yQ t.LX
 ao5:dC K (.ref t.dc) "change_colour"=some (some (.ref t.y5))
 Mu:cn K "change_colour" "Keeper.change_colour" NR t.y5 t.Je
 apr:dC K (.ref t.dc) "pass_turn"=some (some (.ref t.wz))
 UP:cn K "pass_turn" "Keeper.pass_turn" ML t.wz t.AB
 anc:dC K (.ref t.dc) "settle"=some (some (.ref t.A4))
 RB:cn K "settle" "Keeper.settle" T7 t.A4 t.HL
 an9:dC K (.ref t.dc) "stays"=some (some (.ref t.Af))
 MB:cn K "stays" "Keeper.stays" Do t.Af t.FR
 anP:dC K (.ref t.dc) "tram_waits"=some (some (.ref t.Ci))
 Rg:cn K "tram_waits" "Keeper.tram_waits" L4 t.Ci t.GZ
 amY:dC K (.ref t.dc) "pick"=some (some (.ref t.BC))
 Si:cn K "pick" "Keeper.pick" uY t.BC t.B1
 aoq:dC K (.ref t.dc) "leave_for"=some (some (.ref t.y7))
 Oa:cn K "leave_for" "Keeper.leave_for" Od t.y7 t.G5
 aoa:dC K (.ref t.dc) "show_sought"=some (some (.ref t.A2))
 QU:cn K "show_sought" "Keeper.show_sought" Ur t.A2 t.DE
 H8:mg "Way"=some (.ref t.lK)
 ao6:dC K (.ref t.lK) "__init__"=some (some (.ref t.AN))
 Px:cn K "__init__" "Way.__init__" NP t.AN t.I9
 alH:mg "CarWay"=some (.ref t.jt)
 amW:dC K (.ref t.jt) "__init__"=some (some (.ref t.wo))
 V':cn K "__init__" "CarWay.__init__" PE t.wo t.BK
 anm:dC K (.ref t.jt) "ready"=some (some (.ref t.yV))
 Wf:cn K "ready" "CarWay.ready" QM t.yV t.K2
 GM:dC K (.ref t.jt) "fade"=some (some (.ref t.CW))
 Rd:cn K "fade" "CarWay.fade" Wg t.CW t.Lj
 ai5:mg "FootWay"=some (.ref t.jx)
 an0:dC K (.ref t.jx) "__init__"=some (some (.ref t.yy))
 pp:cn K "__init__" "FootWay.__init__" Wd t.yy t.Dg
 am':dC K (.ref t.jx) "ready"=some (some (.ref t.BE))
 VX:cn K "ready" "FootWay.ready" S8 t.BE t.En
 aoB:dC K (.ref t.jx) "fade"=some (some (.ref t.Bz))
 We:cn K "fade" "FootWay.fade" No t.Bz t.Hf
 amm:mg "TramWay"=some (.ref t.ld)
 anJ:dC K (.ref t.ld) "__init__"=some (some (.ref t.wa))
 M3:cn K "__init__" "TramWay.__init__" NJ t.wa t.BS
 aoL:dC K (.ref t.ld) "ready"=some (some (.ref t.y4))
 Mo:cn K "ready" "TramWay.ready" zn t.y4 t.HX
 aoh:dC K (.ref t.ld) "fade"=some (some (.ref t.BN))
 SA:cn K "fade" "TramWay.fade" PJ t.BN t.H5
 agZ:mg "Crossing"=some (.ref t.h3)
 anN:dC K (.ref t.h3) "__init__"=some (some (.ref t.wm))
 On:cn K "__init__" "Crossing.__init__" Sb t.wm t.Dw
 apu:dC K (.ref t.h3) "names"=some (some (.ref t.yj))
 VJ:cn K "names" "Crossing.names" Eo t.yj t.yT
 an_:dC K (.ref t.h3) "number"=some (some (.ref t.AR))
 Qd:cn K "number" "Crossing.number" Rm t.AR t.LK
 am_:dC K (.ref t.h3) "called"=some (some (.ref t.wJ))
 RW:cn K "called" "Crossing.called" PI t.wJ t.zm
 gh:hI K t.hv
 acP:p6 K t.hv t.xw
 BP:gd K t.hv "ahead" t.Ck
 VY:gd K t.hv "has_more" t.zg
 Eb:gd K t.hv "take" t.zE
 w7:gd K t.hv "one_of" t.zV
 rG:gd K t.hv "figures" t.AH
 Vt:gd K t.hv "finish" t.Dp
 akH:c5 K t.hv "row"
 RF:c5 K t.hv "told"
 Fe:c5 K t.hv "place"
 kb:hI K t.fH
 ZY:p6 K t.fH t.vJ
 Ru:c5 K t.fH "crossing"
 U4:c5 K t.fH "many"
 SU:c5 K t.fH "leasts"
 N1:c5 K t.fH "mosts"
 EH:c5 K t.fH "members"
 Rk:c5 K t.fH "sorts"
 PY:c5 K t.fH "homes"
 RY:c5 K t.fH "changes"
 e9:hI K t.dc
 aj5:p6 K t.dc t.xm
 TL:gd K t.dc "stage" t.wd
 afF:gd K t.dc "waits" t.wM
 abQ:gd K t.dc "shown" t.Ax
 ZT:gd K t.dc "stage_colour" t.yQ
 ait:gd K t.dc "change_colour" t.y5
 akO:gd K t.dc "pass_turn" t.wz
 XE:gd K t.dc "settle" t.A4
 amE:gd K t.dc "stays" t.Af
 Xc:gd K t.dc "tram_waits" t.Ci
 ad8:gd K t.dc "pick" t.BC
 X4:gd K t.dc "leave_for" t.y7
 bi:gd K t.dc "show_sought" t.A2
 Qc:c5 K t.dc "stages"
 Ar:c5 K t.dc "showing"
 DB:c5 K t.dc "lasted"
 HC:c5 K t.dc "left"
 DI:c5 K t.dc "sought"
 Ab:c5 K t.dc "gone"
 S0:c5 K t.dc "waiting"
 OE:c5 K t.dc "picked"
 apM:hI K t.lK
 apv:c5 K t.lK "kind"
 apj:c5 K t.lK "name"
 aom:c5 K t.lK "start"
 aoS:c5 K t.lK "end"
 anu:c5 K t.lK "off"
 aoC:c5 K t.lK "near"
 aor:c5 K t.lK "least"
 GA:hI K t.jt
 aiT:p6 K t.jt t.wo
 ZZ:gd K t.jt "ready" t.yV
 aaB:gd K t.jt "fade" t.CW
 adm:c5 K t.jt "kind"
 ahi:c5 K t.jt "name"
 aeB:c5 K t.jt "start"
 age:c5 K t.jt "end"
 af6:c5 K t.jt "off"
 ad5:c5 K t.jt "near"
 ahY:c5 K t.jt "least"
 Kh:hI K t.jx
 alW:p6 K t.jx t.yy
 Xd:gd K t.jx "ready" t.BE
 ahy:gd K t.jx "fade" t.Bz
 Yg:c5 K t.jx "kind"
 Ev:c5 K t.jx "name"
 ZM:c5 K t.jx "start"
 WL:c5 K t.jx "end"
 acK:c5 K t.jx "off"
 abI:c5 K t.jx "near"
 agh:c5 K t.jx "least"
 IZ:hI K t.ld
 amO:p6 K t.ld t.wa
 akZ:gd K t.ld "ready" t.y4
 Xy:gd K t.ld "fade" t.BN
 lv:c5 K t.ld "kind"
 ai6:c5 K t.ld "name"
 ajV:c5 K t.ld "start"
 aeZ:c5 K t.ld "end"
 abt:c5 K t.ld "off"
 aeF:c5 K t.ld "near"
 WG:c5 K t.ld "least"
 lc:hI K t.h3
 X8:p6 K t.h3 t.wm
 xR:gd K t.h3 "names" t.yj
 aa6:gd K t.h3 "number" t.AR
 o1:gd K t.h3 "called" t.wJ
 PL:c5 K t.h3 "places"
 U7:c5 K t.h3 "ways"
 UM:c5 K t.h3 "numbers"
 anz:t.lK ≠ t.jt
 an3:t.lK ≠ t.jx
 aoV:t.lK ≠ t.ld
 Ut:t.jt ≠ t.jx
 Qy:t.jt ≠ t.ld
 QK:t.jx ≠ t.ld
 G3:Vz K t.lK "__init__" t.AN
 ZD:mg "FIGURES"=some t.RV
 Y':bM (.str (ab "0123456789")) t.RV
 ww:mg "LEAST_PLACES"=some t.N4
 ahZ:bM (.int 2) t.N4
 Z0:mg "LETTERS"=some t.SB
 agT:bM (.str (ab "abcdefghijklmnopqrstuvwxyz")) t.SB
 aiq:mg "MOST_FIGURES"=some t.Vd
 ad_:bM (.int 3) t.Vd
 aie:mg "MOST_LEAST"=some t.Tn
 ac6:bM (.int 60) t.Tn
 Zz:mg "MOST_LETTERS"=some t.NX
 afW:bM (.int 8) t.NX
 adF:mg "MOST_NEAR"=some t.Se
 acm:bM (.int 30) t.Se
 ai2:mg "MOST_OFF"=some t.RT
 ahe:bM (.int 30) t.RT
 afT:mg "MOST_PLACES"=some t.UZ
 aa5:bM (.int 99) t.UZ
 amd:mg "MOST_STAGES"=some t.UU
 aeD:bM (.int 6) t.UU
 VI:mg "MOST_TURNS"=some t.OW
 QN:bM (.int 60) t.OW
 aeA:mg "MOST_WAYS"=some t.Q2
 ak0:bM (.int 12) t.Q2
 afB:mg "all"=none
 aiw:mg "any"=none
 ZX:mg "bool"=none
 CC:mg "enumerate"=none
 tQ:mg "int"=none
 alm:mg "isinstance"=none
 fP:mg "len"=none
 Ak:mg "list"=none
 De:mg "max"=none
 abK:mg "min"=none
 kz:mg "range"=none
 vF:mg "str"=none
 adn:t.B1.code=.ref t.s6
 alR:∀ (s:Shared) (u:Value),BindsTo s t.A7 ⟨[u],[]⟩ [("_law_script",u)]
section
variable {w:World} {K:bk} {mg:Str->Option Value} {t:b7} (T:Txt w K mg t)
include T
theorem Txt.Q8:b_ K t.B' yL []:=T.zx.binds fun _ _ _ _ _ _=>hY fun _ _ _=>rfl
theorem Txt.YG:b_ K t.Js Cs []:=T.Ft.binds fun _ _ _ _ _ _=>hY fun _ _ _=>rfl
theorem Txt.MW:b_ K t.Dq rB []:=T.KF.binds fun _ _ _ _ _ _=>hY fun _ _ _=>rfl
theorem Txt.aiZ:b_ K t.zX rB []:=T.PP.binds fun _ _ _ _ _ _=>hY fun _ _ _=>rfl
theorem Txt.Yz:b_ K t.zF ["text"] []:=T.LZ.binds fun _ _ _ _ _ _=>hJ fun _=>rfl
theorem Txt.TB:b_ K t.DS xO []:=T.BD.binds fun _ _ _ _ _ _=>hY fun _ _ _=>rfl
theorem Txt.X':b_ K t.H2 CN []:=T.Eu.binds fun _ _ _ _ _ _=>hM fun _ _=>rfl
theorem Txt.aaG:b_ K t.FN DW []:=T.GC.binds fun _ _ _ _ _ _=>hY fun _ _ _=>rfl
theorem Txt.afc:b_ K t.LU ["word"] []:=T.IP.binds fun _ _ _ _ _ _=>hJ fun _=>rfl
theorem Txt.Mt:b_ K t.xT ["text"] []:=T.yR.binds fun _ _ _ _ _ _=>hJ fun _=>rfl
theorem Txt.GL:b_ K t.K1 zl []:=T.vD.binds fun _ _ _ _ _ _=>hM fun _ _=>rfl
theorem Txt.Lk:b_ K t.IL ["members"] []:=T.ul.binds fun _ _ _ _ _ _=>hJ fun _=>rfl
theorem Txt.ad2:b_ K t.DL F7 []:=T.Fw.binds fun _ _ _ _ _ _=>hY fun _ _ _=>rfl
theorem Txt.Ms:b_ K t.Hw k6 []:=T.zR.binds fun _ _ _ _ _ _=>hM fun _ _=>rfl
theorem Txt.ams:b_ K t.Lg KJ []:=T.L1.binds fun _ _ _ _ _ _=>hY fun _ _ _=>rfl
theorem Txt.XF:b_ K t.Bp yX []:=T.DD.binds fun _ _ _ _ _ _=>hY fun _ _ _=>rfl
theorem Txt.al7:b_ K t.Bi k6 []:=T.Ef.binds fun _ _ _ _ _ _=>hM fun _ _=>rfl
theorem Txt.abj:b_ K t.Ad k6 []:=T.D2.binds fun _ _ _ _ _ _=>hM fun _ _=>rfl
theorem Txt.adg:b_ K t.AV k6 []:=T.Kd.binds fun _ _ _ _ _ _=>hM fun _ _=>rfl
theorem Txt.tz:b_ K t.vB xv []:=T.HQ.binds fun _ _ _ _ _ _=>hM fun _ _=>rfl
theorem Txt.O9:b_ K t.LP Dr []:=T.zK.binds fun _ _ _ _ _ _=>hY fun _ _ _=>rfl
theorem Txt.akz:b_ K t.im ["reader"] []:=T.H4.binds fun _ _ _ _ _ _=>hJ fun _=>rfl
theorem Txt.ago:b_ K t.L0 LN []:=T.JJ.binds fun _ _ _ _ _ _=>hM fun _ _=>rfl
theorem Txt.ae5:b_ K t.io BW []:=T.Ff.binds fun _ _ _ _ _ _=>hY fun _ _ _=>rfl
theorem Txt.acF:b_ K t.Jv Ac []:=T.Os.binds fun _ _ _ _ _ _=>CG fun _ _ _ _ _ _ _=>rfl
theorem Txt.aeJ:b_ K t.Cn AX []:=T.GS.binds fun _ _ _ _ _ _=>hY fun _ _ _=>rfl
theorem Txt.akV:b_ K t.Dv ["text"] []:=T.Jo.binds fun _ _ _ _ _ _=>hJ fun _=>rfl
theorem Txt.gu:b_ K t.Cx Aq []:=T.fF.binds fun _ _ _ _ _ _=>hY fun _ _ _=>rfl
theorem Txt.XH:b_ K t.D8 IF []:=T.D0.binds fun _ _ _ _ _ _=>hM fun _ _=>rfl
theorem Txt.aa9:b_ K t.lm Bu []:=T.IW.binds fun _ _ _ _ _ _=>hM fun _ _=>rfl
theorem Txt.agk:b_ K t.zf CH []:=T.IJ.binds fun _ _ _ _ _ _=>hM fun _ _=>rfl
theorem Txt.S3:b_ K t.z0 AO []:=T.Tl.binds fun _ _ _ _ _ _=>hY fun _ _ _=>rfl
theorem Txt.afI:b_ K t.J8 Jf []:=T.E3.binds fun _ _ _ _ _ _=>hY fun _ _ _=>rfl
theorem Txt.acU:b_ K t.CP C9 []:=T.Fv.binds fun _ _ _ _ _ _=>hY fun _ _ _=>rfl
theorem Txt.agb:b_ K t.Dj Bw []:=T.GR.binds fun _ _ _ _ _ _=>hM fun _ _=>rfl
theorem Txt.ajP:b_ K t.z5 Br []:=T.JB.binds fun _ _ _ _ _ _=>hY fun _ _ _=>rfl
theorem Txt.UY:b_ K t.BI mV []:=T.BA.binds fun _ _ _ _ _ _=>hJ fun _=>rfl
theorem Txt.Vk:b_ K t.zW mV []:=T.yI.binds fun _ _ _ _ _ _=>hJ fun _=>rfl
theorem Txt.acs:b_ K t.E9 Hn []:=T.JC.binds fun _ _ _ _ _ _=>Oc fun _ _ _ _ _=>rfl
theorem Txt.TQ:b_ K t.Ct rO []:=T.A1.binds fun _ _ _ _ _ _=>hY fun _ _ _=>rfl
theorem Txt.ad0:b_ K t.H6 rO []:=T.H9.binds fun _ _ _ _ _ _=>hY fun _ _ _=>rfl
theorem Txt.Wy:b_ K t.Ig HB []:=T.Gz.binds fun _ _ _ _ _ _=>ZR fun _ _ _ _=>rfl
theorem Txt.R4:b_ K t.Kb KV []:=T.Bj.binds fun _ _ _ _ _ _=>hM fun _ _=>rfl
theorem Txt.acV:b_ K t.zJ Du []:=T.Op.binds fun _ _ _ _ _ _=>Oc fun _ _ _ _ _=>rfl
theorem Txt.amy:b_ K t.yP xJ []:=T.Of.binds fun _ _ _ _ _ _=>hY fun _ _ _=>rfl
theorem Txt.wf:b_ K t.GU ["self"] []:=T.QX.binds fun _ _ _ _ _ _=>hJ fun _=>rfl
theorem Txt.Tp:b_ K t.JY ["self"] []:=T.ci.binds fun _ _ _ _ _ _=>hJ fun _=>rfl
theorem Txt.Ec:b_ K t.Ee Aw []:=T.MJ.binds fun _ _ _ _ _ _=>hM fun _ _=>rfl
theorem Txt.wN:b_ K t.ad HG []:=T.Mn.binds fun _ _ _ _ _ _=>hM fun _ _=>rfl
theorem Txt.rC:b_ K t.GI L6 []:=T.VG.binds fun _ _ _ _ _ _=>hY fun _ _ _=>rfl
theorem Txt.Qa:b_ K t.JN ["self"] []:=T.Wk.binds fun _ _ _ _ _ _=>hJ fun _=>rfl
theorem Txt.ajZ:b_ K t.zL Bv []:=T.Wj.binds fun _ _ _ _ _ _=>hY fun _ _ _=>rfl
theorem Txt.amD:b_ K t.An yr []:=T.QJ.binds fun _ _ _ _ _ _=>hM fun _ _=>rfl
theorem Txt.Qs:b_ K t.C2 ["self"] []:=T.Ux.binds fun _ _ _ _ _ _=>hJ fun _=>rfl
theorem Txt.acS:b_ K t.zv ["self"] []:=T.V_.binds fun _ _ _ _ _ _=>hJ fun _=>rfl
theorem Txt.Xf:b_ K t.F4 ["self"] []:=T.Sr.binds fun _ _ _ _ _ _=>hJ fun _=>rfl
theorem Txt.aic:b_ K t.LX j2 []:=T.UR.binds fun _ _ _ _ _ _=>hM fun _ _=>rfl
theorem Txt.aa_:b_ K t.Je j2 []:=T.Mu.binds fun _ _ _ _ _ _=>hM fun _ _=>rfl
theorem Txt.agn:b_ K t.AB Cg []:=T.UP.binds fun _ _ _ _ _ _=>hM fun _ _=>rfl
theorem Txt.abb:b_ K t.HL rk []:=T.RB.binds fun _ _ _ _ _ _=>hM fun _ _=>rfl
theorem Txt.aet:b_ K t.FR rk []:=T.MB.binds fun _ _ _ _ _ _=>hM fun _ _=>rfl
theorem Txt.alh:b_ K t.GZ ["self"] []:=T.Rg.binds fun _ _ _ _ _ _=>hJ fun _=>rfl
theorem Txt.aaj:b_ K t.B1 ["self"] []:=T.Si.binds fun _ _ _ _ _ _=>hJ fun _=>rfl
theorem Txt.Yn:b_ K t.G5 Cc []:=T.Oa.binds fun _ _ _ _ _ _=>hM fun _ _=>rfl
theorem Txt.MG:b_ K t.DE ["self"] []:=T.QU.binds fun _ _ _ _ _ _=>hJ fun _=>rfl
theorem Txt.Hv:b_ K t.I9 zw []:=T.Px.binds fun _ _ _ _ _ _=>agJ fun _ _ _ _ _ _ _ _=>rfl
theorem Txt.WK:b_ K t.BK kX []:=T.V'.binds fun _ _ _ _ _ _=>CG fun _ _ _ _ _ _ _=>rfl
theorem Txt.afo:b_ K t.K2 ["self"] []:=T.Wf.binds fun _ _ _ _ _ _=>hJ fun _=>rfl
theorem Txt.aea:b_ K t.Lj ["self"] []:=T.Rd.binds fun _ _ _ _ _ _=>hJ fun _=>rfl
theorem Txt.ajR:b_ K t.Dg kX []:=T.pp.binds fun _ _ _ _ _ _=>CG fun _ _ _ _ _ _ _=>rfl
theorem Txt.aee:b_ K t.En ["self"] []:=T.VX.binds fun _ _ _ _ _ _=>hJ fun _=>rfl
theorem Txt.aiX:b_ K t.Hf ["self"] []:=T.We.binds fun _ _ _ _ _ _=>hJ fun _=>rfl
theorem Txt.adR:b_ K t.BS kX []:=T.M3.binds fun _ _ _ _ _ _=>CG fun _ _ _ _ _ _ _=>rfl
theorem Txt.abv:b_ K t.HX ["self"] []:=T.Mo.binds fun _ _ _ _ _ _=>hJ fun _=>rfl
theorem Txt.ab1:b_ K t.H5 ["self"] []:=T.SA.binds fun _ _ _ _ _ _=>hJ fun _=>rfl
theorem Txt.afj:b_ K t.Dw Df []:=T.On.binds fun _ _ _ _ _ _=>hY fun _ _ _=>rfl
theorem Txt.wR:b_ K t.yT ["self"] []:=T.VJ.binds fun _ _ _ _ _ _=>hJ fun _=>rfl
theorem Txt.abT:b_ K t.LK j2 []:=T.Qd.binds fun _ _ _ _ _ _=>hM fun _ _=>rfl
theorem Txt.pq:b_ K t.zm j2 []:=T.RW.binds fun _ _ _ _ _ _=>hM fun _ _=>rfl
end
noncomputable def dA (ns:List Int) (k m:Int):Int:=
 ((((if 0 < (ns.length:Int) then ns.getD (k % (ns.length:Int)).toNat 0 else 0) % 1000003 + 31 * k * k + 1) * 48271 % 999983 * 7919) % 524287) % m
theorem h1 (ns:List Int) (k:Int) (h:0 < m):0 <= dA ns k m:=zM _ (by omega)
theorem ce (ns:List Int) (k:Int) (h:0 < m):dA ns k m < m:=AU _ h
def re (K:bk) (a:Addr) (ns:List Int):bW:=fun vs H Q _=>∃ k m,vs=[.ref a,.int k,.int m]/\Sc K a ns H/\(0 <= k/\k < 1000000)/\0 < m/\Q (.int (dA ns k m)) H
variable {P:Program} {w:World} {K:bk} {mg:Str->Option Value} {base:Heap} {t:b7}
abbrev cA (P:Program) (base:Heap) {w:World} {K:bk} {mg:Str->Option Value} {t:b7} (_:Txt w K mg t):=cK P w K mg base dE
variable (T:Txt w K mg t)
theorem Iq (a:Addr) (ns:List Int) (hS:ns.length <= 63):cA P base T 1 t.BG t.Cx Aq (re K a ns):=by
 exists T.fF.ok ug,9
 obtain ⟨k,m,rfl,S,⟨h0,af⟩,hm,q⟩:=h;refine ⟨_,(aS (cF (i:=3) ug.aH (uv (cY oZ (eT gj rfl T.fP fZ (ak (aa 0) aF)) aD (cu _)) (bh bO (aa 0) (bI jS (aa 1) (eT gj rfl T.fP fZ (ak (aa 0) aF)))) aD))
   (aS (cF (i:=4) ug.aH (bI d2 (bI d2 (bI jS (aa 3) aD) (bI jZ (bI jZ aD (aa 1)) (aa 1))) aD))
   (a5 (cy (bI jS (bI jS (bI jZ (bI jS (bI jZ (aa 4) aD) aD) aD) aD) (aa 2)))))),?_⟩
 nofun;refine ⟨_,.inl S.seq,?_⟩;rw [aP];have aaX:(0:Int) <= k * k/\k * k < 1000000 * 1000000:=⟨ahp h0 h0,agc (by omega) af h0 (by decide)⟩;have fin:∀ i:Int,(0:Int) < 1000003/\oa 31 k/\oa (31 * k) k/\oa (i % 1000003 + 31 * k * k + 1) 48271/\(0:Int) < 999983/\oa ((i % 1000003 + 31 * k * k + 1) * 48271 % 999983) 7919/\(0:Int) < 524287/\0 < m:=by
  intro i;refine ⟨by decide,.inl (by decide),.inr (by omega),.inr (by decide),by decide,.inr (by decide),by decide,hm⟩
 by_cases c:(0:Int) < (ns.length:Int)
 .rw [if_pos (decide_eq_true c)];have au:0 <= k % (ns.length:Int)/\k % (ns.length:Int) < (ns.length:Int):=⟨zM _ (by omega),AU _ c⟩;refine ⟨_,.inl S.seq,by rw [aP];exact c,_,S.seq,?_⟩;rw [aP];have aJ:(k % (ns.length:Int)).toNat < ns.length:=by omega
  refine ⟨.int ns[(k % (ns.length:Int)).toNat],?_,_,rfl,?_⟩
  .have e:=bt (xs:=ns.map V.int) (j:=(k % (ns.length:Int)).toNat) (v:=.int ns[(k % (ns.length:Int)).toNat]) (by rw [cN,aZ aJ] <;> rfl);rwa [qz au.1] at e
  .obtain ⟨f1,f2,eo,f4,fg,nN,mi,f8⟩:=fin ns[(k % (ns.length:Int)).toNat];refine ⟨f1,f2,eo,f4,fg,nN,mi,f8,?_⟩;have e:dA ns k m=(((ns[(k % (ns.length:Int)).toNat] % 1000003 + 31 * k * k + 1) * 48271 % 999983 * 7919) % 524287) % m:=by
    unfold dA;rw [if_pos c,jg,aZ aJ];rfl
   rw [<- e];exact q
 .rw [if_neg (by simpa using c)];obtain ⟨f1,f2,eo,f4,fg,nN,mi,f8⟩:=fin 0;refine ⟨f1,f2,eo,f4,fg,nN,mi,f8,?_⟩;have e:dA ns k m=(((0 % 1000003 + 31 * k * k + 1) * 48271 % 999983 * 7919) % 524287) % m:=by
   unfold dA;rw [if_neg c]
  rw [<- e];exact q
theorem zI {w:Str}:w=ab "" ↔ w.length=0:=by
 constructor
 .rintro rfl;ac_nf
 .intro h;have e:w.cps=#[]:=Array.eq_empty_of_size_eq_zero h;have aK:(ab "").cps=#[]:=by ac_nf
  cases w;cases ao:ab "";rw [ao] at aK;simp only at e aK;rw [e,aK]
noncomputable def uU (bc:Str) (c:Nat):Bool:=!(sm bc (jO c) 0 bc.length 1).isEmpty
theorem FG (bc:Str) (c:Nat):uU bc c=decide (c ∈ bc.cps.toList):=StrLaws.found_one bc c
noncomputable def made (w bc:Str) (m:Int):Bool:=if w=ab "" then false else if m < (w.length:Int) then false else w.cps.toList.all (uU bc)
def Jr:bW:=fun vs H Q _=>∃ w bc m,vs=[.str w,.str bc,.int m]/\w.length <= 1000/\aL H/\Q (.br (made w bc m)) H
def ac9:bW:=fun vs H Q _=>∃ w bc m,vs=[.str w,.str bc,.int m]/\w.length <= 1000/\∀ I,aN H I->Q (.br (made w bc m)) I
theorem R6:cA P base T 1 t.G' t.DS xO Jr:=by
 refine cK.forget (sp:=ac9) ?_ fun vs H Q E h=>?_
 .exists T.BD.ok xz,9
  obtain ⟨w,bc,m,rfl,aO,q⟩:=h;have fX:w.length <= sizeLine:=cP aO (by decide);refine ⟨_,(aS (dP (g5.pt (qg (cY eE (aa 0) cZ (cu _)) (q6 (cY oZ (eT Zm rfl T.fP fZ (ak (aa 0) aF)) (aa 2) (cu _))))) (a5 (cy kj)) ek)
   (a5 (cy (eT (KM rfl) rfl T.afB air (ak (fT rfl (aiF (aa 0)) (ac (sc:=bB K4) rfl (by ac_nf)) (N:=["sign","signs"]) (sel:=[none,some 1]) (fw (M:=xO) (by ac_nf)) (eO.of (fun _ _ _ _=>(b9 (i:=0) (d1 (N:=["sign","signs"]) (by ac_nf) rfl))) (fun _ _ _ _=>⟨_,hO,by walk_at "B"⟩) (fun _ _ _ _=>⟨_,(hb afG (aa 0) (aa 1) (by with_unfolding_all rfl)),by walk_at "B"⟩))) aF))))),?_⟩
  nofun;refine dO (decide (w=ab "") || decide (m < (w.length:Int))) (fun Q a0=>?_) (fun ae=>?_) (fun ae=>?_)
  .nofun;by_cases c:w=ab ""
   .rw [if_pos (decide_eq_true c)];rw [decide_eq_true c,pY] at a0;exact a0
   .rw [if_neg (by simpa using c)];rw [decide_eq_false c,lr] at a0;exact ⟨fX,a0⟩
  .nofun;have e:made w bc m=false:=by
    unfold made;simp only [wI,decide_eq_true_eq] at ae;by_cases c:w=ab ""
    .rw [if_pos c]
    .rw [if_neg c,if_pos (ae.resolve_left c)]
   have:=q H (aN.refl H);rw [e] at this;exact this
  .nofun;have e:made w bc m=w.cps.toList.all (uU bc):=by
    unfold made;simp only [BL,decide_eq_false_iff_not] at ae;rw [if_neg ae.1,if_neg ae.2]
   refine Gc.Zy (fun x=>match x with | .str y=>.br (!(sm bc y 0 bc.length 1).isEmpty) | _=>.b4) (by rw [Mk];exact fX) (fun i x N aj bb=>?_) (fun p ar=>?_)
   .unfold og at aj;rw [cN] at aj;cases aA:w.cps.toList[i]? with
    | none=>rw [aA] at aj;cases aj
    | some c=>
     rw [aA] at aj;have eG:V.str (jO c)=x:=ei aj;subst eG;nofun;exact ⟨Sub.name,bb⟩
   .refine ⟨p,rfl,w.cps.toList.map (uU bc),av.of ?_,?_⟩
    .rw [db];unfold og;rw [me,me];rfl
    .have:=q (upd H p (.lst (sS (fun x=>match x with | .str y=>.br (!(sm bc y 0 bc.length 1).isEmpty) | _=>.b4) (og w)))) (bq ar);rw [e] at this;rw [ael];exact this
 .obtain ⟨w,bc,m,e,aO,bE,q⟩:=h;exact ⟨bE,w,bc,m,e,aO,fun I bA=>⟨bA,q⟩⟩
noncomputable abbrev qx:Str:=ab "0123456789"
noncomputable def mT (c:Nat):Bool:=decide (48 <= c/\c <= 57)
theorem anY:qx.cps.toList=[48,49,50,51,52,53,54,55,56,57]:=by ac_nf
theorem abi (c:Nat):uU qx c=mT c:=by
 rw [FG,show qx.cps.toList=List.range' 48 10 by ac_nf];unfold mT;refine decide_eq_decide.mpr ?_;rw [List.mem_range'_1];exact and_congr_right fun _=>show c < 58↔c <= 57 from Nat.lt_succ_iff
noncomputable abbrev cs (w:Str):List Nat:=w.cps.toList
theorem Ja (w:Str):(cs w).length=w.length:=by simp [cs,uH]
noncomputable def kE (w:Str):Bool:=decide (1 <= (cs w).length) && decide ((cs w).length <= 3) && (cs w).all mT && (decide ((cs w).length <= 1) || decide ((cs w).headD 0 ≠ 48))
noncomputable abbrev val (w:Str):Int:=((QF (cs w):Nat):Int)
noncomputable def jl (w:Str) (lo ah:Int):V:=if kE w && !(decide (val w < lo) || decide (ah < val w)) then .int (val w) else .b4
theorem RX {w:Str}:w=⟨#[c]⟩↔cs w=[c]:=by
 constructor
 .rintro rfl;rfl
 .intro h;cases w with
  | mk a=>
   have e:a=#[c]:=Vh.mp h;rw [e]
theorem HH:ab "0"=⟨#[48]⟩:=by ac_nf
theorem OQ (w:Str):made w qx 3=(decide (1 <= (cs w).length) && decide ((cs w).length <= 3) && (cs w).all mT):=by
 unfold made;have e:(uU qx)=mT:=funext abi;rw [e];by_cases af:w=ab ""
 .have ao:=zI.mp af;rw [if_pos af,Ja,ao];rfl
 .have ao:¬ w.length=0:=fun z=>af (zI.mpr z)
  rw [if_neg af,Ja];by_cases bj:(3:Int) < (w.length:Int)
  .rw [if_pos bj,decide_eq_false (show ¬ w.length <= 3 by omega),Xv,m']
  .rw [if_neg bj,decide_eq_true (show 1 <= w.length by omega),decide_eq_true (show w.length <= 3 by omega)];rfl
theorem alE (h:l.all mT=true):NumText.AllDigits l:=fun c aA=>by
 have:=oh.mp h c aA;simpa [mT] using this
theorem aeO {w:Str} (h:kE w=true):(1 <= (cs w).length/\(cs w).length <= 3)/\(cs w).all mT=true:=by
 unfold kE at h;simp only [g_,decide_eq_true_eq] at h;exact h.1
def Uh:bW:=fun vs H Q _=>∃ w,vs=[.str w,.int 3]/\w.length <= 1000/\aL H/\Q (.br (kE w)) H
def aiU:bW:=fun vs H Q _=>∃ w lo ah,vs=[.str w,.int lo,.int ah]/\w.length <= 1000/\aL H/\Q (jl w lo ah) H
theorem aiK:cA P base T 2 t.L5 t.H2 CN Uh:=by
 refine cH (R6 T) fun IX=>?_;exists T.Eu.ok acr,9
 obtain ⟨w,rfl,aO,bE,q⟩:=h;have fX:w.length <= sizeLine:=cP aO (by decide);refine ⟨_,(aS (dP (yE (lR (cc IX aq T.Oo T.BD.bG T.TB (ak (aa 0) (ak (mE rfl T.ZD T.Y') (ak (aa 1) aF)))))) (a5 (cy kj)) ek)
   (a5 (cy (O2 (hb eE (aa 0) cZ (cu _)) (um (hb pP (bh DH (aa 0) aD) cZ (cu _))))))),?_⟩
 refine dO (!made w qx 3) (fun Q a0=>?_) (fun ae=>?_) (fun ae=>?_)
 ·(nofun; repeat (dsimp only [Jr];nofun));exact ⟨aO,bE,a0⟩
 .nofun;have e:kE w=false:=by
   have fv:made w qx 3=false:=by simpa using ae
   rw [OQ] at fv;unfold kE;rw [fv];rfl
  rw [e] at q;exact q
 .have fv:made w qx 3=true:=by simpa using ae
  rw [OQ] at fv;rw [hr];dsimp only;refine aiH (.br (kE w)) (fun Q a0=>?_) ?_
  case refine_2=>exact q
  nofun;have jH:(1 <= (cs w).length/\(cs w).length <= 3)/\(cs w).all mT=true:=by
   simpa only [g_,decide_eq_true_eq] using fv
  obtain ⟨c,r,Kn⟩:∃ c r,cs w=c :: r:=by
   cases h:cs w with
   | nil=>rw [h] at jH;exact absurd jH.1.1 (by decide)
   | cons c r=>exact ⟨c,r,rfl⟩
  have ok:kE w=(decide ((cs w).length <= 1) || decide ((cs w).headD 0 ≠ 48)):=by
   unfold kE;rw [fv,ky]
  by_cases cz:w=ab "0"
  .rw [if_pos (decide_eq_true cz)];have e:cs w=[48]:=by rw [cz,HH]
   rw [ok,e] at a0;exact a0
  .rw [if_neg (by simpa using cz)];refine ⟨fX,c,?_,?_⟩
   .have:=bt (xs:=cs w) (j:=0) (v:=c) (by rw [Kn];rfl);exact this
   .have aK:decide ((⟨#[c]⟩:Str)=ab "0")=decide (c=48):=by
     rw [HH];by_cases rA:c=48
     .rw [rA];simp
     .rw [decide_eq_false rA,decide_eq_false];intro z;have fj:=RX.mp z;exact rA (v9 fj).1
    rw [aK];have bU:kE w = !decide (c=48):=by
     rw [ok,Kn];show (decide ((c :: r).length <= 1) || decide (c ≠ 48))=_;by_cases rA:c=48
     .have aq:r ≠ []:=fun z=>cz (by rw [HH];exact RX.mpr (by rw [Kn,z,rA]))
      have:¬ (c :: r).length <= 1:=by
       cases r with
       | nil=>exact absurd rfl aq
       | cons d r=>simp
      rw [decide_eq_false this,rA];rfl
     .rw [decide_eq_true rA,PF,decide_eq_false rA];rfl
    rw [<- bU];exact a0
theorem abN:cA P base T 3 t.Fo t.FN DW aiU:=by
 refine cH (aiK T) fun WN=>?_;exists T.GC.ok OU,9
 obtain ⟨w,lo,ah,rfl,aO,bE,q⟩:=h;refine ⟨_,(aS (dP (yE (lR (cc WN aq T.ahh T.Eu.bG T.X' (ak (aa 0) (ak (mE rfl T.aiq T.ad_) aF))))) (a5 (cy n7)) ek)
   (aS (cF (i:=3) OU.aH (j4 aa2 rfl T.tQ uA (ak (aa 0) aF)))
   (aS (dP (g5.pt (qg (cY lp (aa 3) (aa 1) (cu _)) (q6 (cY oZ (aa 3) (aa 2) (cu _))))) (a5 (cy n7)) ek)
   (a5 (cy (aa 3)))))),?_⟩
 refine dO (!kE w) (fun Q a0=>?_) (fun ae=>?_) (fun ae=>?_)
 ·(nofun; repeat (dsimp only [Uh];nofun));exact ⟨aO,bE,a0⟩
 .nofun;have fv:kE w=false:=by simpa using ae
  have e:jl w lo ah=.b4:=by unfold jl;rw [fv];rfl
  rw [e] at q;exact q
 .have fv:kE w=true:=by simpa using ae
  have bj:(1 <= (cs w).length/\(cs w).length <= 3)/\(cs w).all mT=true:=by
   have:=fv;unfold kE at this;simp only [g_,decide_eq_true_eq] at this;exact this.1
  have aM:=Ja w;have et:intText? w=some (val w):=intText_digits (alE bj.2) (fun z=>by have i4:cs w=[]:=z;rw [i4] at bj;exact absurd bj.1.1 (by decide)) (by omega);nofun;refine ⟨val w,et,by omega,?_⟩;refine dO (decide (val w < lo) || decide (ah < val w)) (fun Q a0=>?_) (fun aA=>?_) (fun aA=>?_)
  .nofun;by_cases c:val w < lo
   .rw [if_pos (decide_eq_true c)];rw [decide_eq_true c,pY] at a0;exact a0
   .rw [if_neg (by simpa using c)];rw [decide_eq_false c,lr] at a0;exact a0
  .nofun;have e:jl w lo ah=.b4:=by unfold jl;rw [fv,aA];rfl
   rw [e] at q;exact q
  .nofun;have e:jl w lo ah=.int (val w):=by unfold jl;rw [fv,aA];rfl
   rw [e] at q;exact q
theorem Fi (h:n < 1000):n.log2 < 1920:=by
 by_cases h0:n=0
 .subst h0;decide
 .rw [ahN h0];exact hU h (cP (show 1000 <= 2 ^ 10 by decide) (Nat.pow_le_pow_right (by decide) (by decide)))
theorem abA:∀ n,n < 1000->(vx 10 n).length <= 3:=by ac_nf
theorem wq {n:Int} (h0:0 <= n) (af:n <= 999):(ab (toString n)).length <= 3:=by
 have e:=ahL n.toNat;rw [qz h0] at e;have l:(ab (toString n)).length=(ab (toString n)).cps.toList.length:=by simp [uH]
 rw [l,e,aP];exact abA _ (by omega)
noncomputable abbrev oc:Str:=ab "abcdefghijklmnopqrstuvwxyz"
def aam:bW:=fun vs H Q _=>∃ w,vs=[.str w]/\w.length <= 1000/\aL H/\Q (.br (made w oc 8)) H
theorem XA:cA P base T 2 t.FV t.LU ["word"] aam:=by
 refine cH (R6 T) fun IX=>?_;exists T.IP.ok WQ,9
 obtain ⟨w,rfl,aO,bE,q⟩:=h;refine ⟨_,(a5 (cy (cc IX aq T.Oo T.BD.bG T.TB (ak (aa 0) (ak (mE rfl T.Z0 T.agT) (ak (mE rfl T.Zz T.afW) aF)))))),?_⟩;(nofun; repeat (dsimp only [Jr];nofun));exact ⟨aO,bE,q⟩
noncomputable abbrev nl:Str:=ab "\n"
noncomputable abbrev cM:Str:=ab " "
theorem WC:nl=⟨#[10]⟩:=by ac_nf
theorem A5:cM=⟨#[32]⟩:=by ac_nf
noncomputable def hK (x:Str):List (List Str):=(i' x nl).map fun r=>i' r cM
theorem Q9:∀ {ys:List Str} {y:Str},y ∈ ys->y.length <= (ys.map (·.length)).sum
 | [],_,h=>nomatch h
 | a :: r,y,h=>by
  rw [e1,Vn];rcases fx.mp h with rfl | h
  .omega
  .have:=Q9 h;omega
theorem agG {x y r:Str} (a9:1 <= y.length) (h:r ∈ i' x y):r.length <= x.length + 1:=by
 have af:=aiG x y a9;have ao:=Q9 h;omega
theorem Ew {x y:Str} (a9:1 <= y.length):(i' x y).length <= x.length + 1:=by
 have af:=aiG x y a9;omega
theorem ak6 (x y:Str):i' x y ≠ []:=by
 unfold i';split
 .simp
 .split
  .simp
  .rw [StrLaws.partsBetween_eq];obtain ⟨p,r,e⟩:=StrLaws.partsFrom_ne x y.length 0 (sm x y 0 x.length (x.length + 1));rw [e];simp
def rP (b5 H:aw) (p:Addr) (rows:List (List Str)):Prop:=∃ qs:List Addr,H p=some (.lst (qs.map V.ref))/\b5 p=none/\p ∉ qs/\qs.length=rows.length/\∀ (i:Nat) (q:Addr) (r:List Str),qs[i]? = some q->rows[i]? = some r->H q=some (.lst (aW r))/\b5 q=none
def Ol:bW:=fun vs H Q _=>∃ x,vs=[.str x]/\x.length <= 20000/\aL H/\∀ p I,aN H I->aL I->rP H I p (hK x)->Q (.ref p) I
theorem xa:nl.length=1:=by ac_nf
theorem q8:cM.length=1:=by ac_nf
theorem ad1:cA P base T 1 t.Co t.zF ["text"] Ol:=by
 exists T.LZ.ok XL,9
 obtain ⟨x,rfl,aO,bE,q⟩:=h;have iG:∀ n:Nat,n <= 40000->n <= sizeLine:=fun n h=>cP h (by decide)
 refine ⟨_,(a5 (cy (fT rfl (d6 (gk vn B6 XU MZ (aa 0) (ak cZ aF))) (ac (sc:=bB Fq) rfl (by ac_nf)) (N:=["row"]) (sel:=[none]) (fw (M:=["text"]) (by ac_nf)) (eO.of (fun _ _ _ _=>(b9 (i:=0) (d1 (N:=["row"]) (by ac_nf) rfl))) (fun _ _ _ _=>⟨_,hO,by walk_at "B"⟩) (fun _ _ _ _=>⟨_,(gk vn B6 XU MZ (aa 0) (ak cZ aF)),by walk_at "B"⟩))))),?_⟩;nofun;have a9:1 <= nl.length:=by rw [xa];exact b8 _
 have WB:1 <= cM.length:=by rw [q8];exact b8 _
 have aC:=Ew (x:=x) a9;have rq:(aW (i' x nl)).length <= sizeLine:=by unfold aW;rw [aP];exact iG _ (by omega)
 refine ⟨by rw [xa];decide,iG _ (by omega),iG _ (show (i' x nl).length <= 40000 by omega),fun p ar=>⟨⟨_,av.of db⟩,?_⟩⟩;refine Gc.afh (xs:=aW (i' x nl)) (fun v=>match v with | .str r=>.lst (aW (i' r cM)) | _=>.lst []) (av.of db) rq (fun v=>by cases v <;> rfl) (fun i v H1 N aj bA h6 bb=>?_) (fun qs H1 bA h6 aM al es fU=>?_)
 .unfold aW at aj;rw [cN] at aj;cases aq:(i' x nl)[i]? with
  | none=>rw [aq] at aj;cases aj
  | some r=>
   rw [aq] at aj;have e:=ei aj;subst e;have hm:=agG a9 (cm aq);have jT:=Ew (x:=r) WB;nofun;exact ⟨Sub.name,by rw [q8];decide,iG _ (by omega),iG _ (show (i' r cM).length <= 40000 by omega),bb⟩
 .have J5:aN H H1:=(bq ar).trans bA;refine q _ _ (J5.ff (J5.free fU)) ((h6 (bE.upd)).upd) ⟨qs,db,J5.free fU,fun hm=>?_,?_,fun i eI r af ao=>?_⟩
  .obtain ⟨j,aJ,e⟩:=tI hm;have Bg:j < (aW (i' x nl)).length:=by omega
   have:=al j es _ (by rw [aZ aJ,e]) (aZ Bg);rw [fU] at this;cases this.1
  .rw [aM];unfold hK aW;rw [aP,aP]
  .unfold hK at ao;rw [cN] at ao;cases aq:(i' x nl)[i]? with
   | none=>rw [aq] at ao;cases ao
   | some xd=>
    rw [aq] at ao;have e:=ei ao;subst e;have z:=al i eI (.str xd) af (by unfold aW;rw [cN,aq];rfl);refine ⟨by rw [aG (Db z.1 fU)];exact z.1,?_⟩;have:=z.2;by_cases aU:eI=p
    .rw [aU];exact ar
    .rwa [aG aU] at this
structure a3 where
 k:Nat
 name:Str
 start:Int
 fin:Int
 off:Int
 near:Int
 least:Int
noncomputable def dM:Nat->Str
 | 0=>ab "car"
 | 1=>ab "foot"
 | _=>ab "tram"
noncomputable def b7.gZ (t:b7):Nat->Addr
 | 0=>t.jt
 | 1=>t.jx
 | _=>t.ld
noncomputable def ow (d:a3):List (Str × V):=[(ab "kind",.str (dM d.k)),(ab "name",.str d.name),(ab "start",.int d.start),(ab "end",.int d.fin),(ab "off",.int d.off),(ab "near",.int d.near),(ab "least",.int d.least)]
noncomputable abbrev oT:List Str:=[ab "kind",ab "name",ab "start",ab "end",ab "off",ab "near",ab "least"]
theorem QH (d:a3):(ow d).map (·.1)=oT:=rfl
def fa (t:b7) (H:aw) (p:Addr) (d:a3):Prop:=d.k < 3/\∃ ay,H p=some (.ins (t.gZ d.k) ay (ow d))
theorem fa.same {t:b7} {p:Addr} (h:fa t H p d) (s:aN H I):fa t I p d:=⟨h.1,h.2.imp fun ay e=>s _ _ e⟩
def tS (t:b7) (C:Addr):Prop:=∃ k,k < 3/\C=t.gZ k
noncomputable def jo (d:a3):Int:=match d.k with | 0=>1 | 1=>0 | _=>2
noncomputable def jv (d:a3):Int:=match d.k with | 0=>2 | 1=>d.off | _=>1
section
variable {w:World} {K:bk} {mg:Str->Option Value} {t:b7}
theorem Txt.qM (T:Txt w K mg t):∀ k,hI K (t.gZ k)
 | 0=>T.GA
 | 1=>T.Kh
 | _ + 2=>T.IZ
theorem Txt.Wb (T:Txt w K mg t) (hf:f ∈ oT):∀ k,c5 K (t.gZ k) f:=by
 intro k;simp only [oT,fx,td,or_false] at hf;rcases hf with rfl | rfl | rfl | rfl | rfl | rfl | rfl
 .match k with
  | 0=>exact T.adm
  | 1=>exact T.Yg
  | _ + 2=>exact T.lv
 .match k with
  | 0=>exact T.ahi
  | 1=>exact T.Ev
  | _ + 2=>exact T.ai6
 .match k with
  | 0=>exact T.aeB
  | 1=>exact T.ZM
  | _ + 2=>exact T.ajV
 .match k with
  | 0=>exact T.age
  | 1=>exact T.WL
  | _ + 2=>exact T.aeZ
 .match k with
  | 0=>exact T.af6
  | 1=>exact T.acK
  | _ + 2=>exact T.abt
 .match k with
  | 0=>exact T.ad5
  | 1=>exact T.abI
  | _ + 2=>exact T.aeF
 .match k with
  | 0=>exact T.ahY
  | 1=>exact T.agh
  | _ + 2=>exact T.WG
theorem Txt.cw_inj (T:Txt w K mg t) {j k:Nat} (aJ:j < 3) (au:k < 3) (e:t.gZ j=t.gZ k):j=k:=by
 match j,k,aJ,au with
 | 0,0,_,_=>rfl
 | 0,1,_,_=>exact absurd e T.Ut
 | 0,2,_,_=>exact absurd e T.Qy
 | 1,0,_,_=>exact absurd e.symm T.Ut
 | 1,1,_,_=>rfl
 | 1,2,_,_=>exact absurd e T.QK
 | 2,0,_,_=>exact absurd e.symm T.Qy
 | 2,1,_,_=>exact absurd e.symm T.QK
 | 2,2,_,_=>rfl
 | j + 3,_,h,_=>omega
 | _,k + 3,_,h=>omega
theorem fa.fld (T:Txt w K mg t) {p:Addr} (h:fa t H p d) (i:Nat) (ah:oT.findIdx? (· == f)=some i) (aI:(ow d)[i]? = some (f,v)):gm K H p f v:=by
 obtain ⟨_,ay,e⟩:=h;have hm:f ∈ oT:=by
  obtain ⟨dV,af,_⟩:=RK.mp ah;have:oT[i]=f:=by simpa using af
  rw [<- this];exact fM dV
 exact ⟨_,ay,_,e,T.qM _,T.Wb hm _,gY oT i (QH d) ah aI⟩
theorem fa.adb (T:Txt w K mg t) {p:Addr} (h:fa t H p d):gm K H p (ab "kind") (.str (dM d.k)):=h.fld T 0 (by ac_nf) rfl
theorem fa.E4 (T:Txt w K mg t) {p:Addr} (h:fa t H p d):gm K H p (ab "name") (.str d.name):=h.fld T 1 (by ac_nf) rfl
theorem fa.tV (T:Txt w K mg t) {p:Addr} (h:fa t H p d):gm K H p (ab "start") (.int d.start):=h.fld T 2 (by ac_nf) rfl
theorem fa.sk (T:Txt w K mg t) {p:Addr} (h:fa t H p d):gm K H p (ab "end") (.int d.fin):=h.fld T 3 (by ac_nf) rfl
theorem fa.NL (T:Txt w K mg t) {p:Addr} (h:fa t H p d):gm K H p (ab "off") (.int d.off):=h.fld T 4 (by ac_nf) rfl
theorem fa.abk (T:Txt w K mg t) {p:Addr} (h:fa t H p d):gm K H p (ab "near") (.int d.near):=h.fld T 5 (by ac_nf) rfl
theorem fa.aik (T:Txt w K mg t) {p:Addr} (h:fa t H p d):gm K H p (ab "least") (.int d.least):=h.fld T 6 (by ac_nf) rfl
end
def Yk (t:b7):bW:=fun vs H Q _=>∃ (p ay:Addr) (d:a3),vs=[.ref p,.str (dM d.k),.str d.name,.int d.start,.int d.fin,.int d.off,.int d.near,.int d.least]/\d.k < 3/\H p=some (.ins (t.gZ d.k) ay [])/\Q .b4 (upd H p (.ins (t.gZ d.k) ay (ow d)))
def uq (t:b7) (k:Nat):bW:=fun vs H Q _=>∃ (p ay:Addr) (d:a3),vs=[.ref p,.str d.name,.int d.start,.int d.fin,.int d.off,.int d.near,.int d.least]/\d.k=k/\H p=some (.ins (t.gZ d.k) ay [])/\Q .b4 (upd H p (.ins (t.gZ d.k) ay (ow d)))
theorem Ji:cA P base T 1 t.AN t.I9 zw (Yk t):=by
 exists T.Px.ok alQ,9
 obtain ⟨p,ay,d,rfl,au,ar,q⟩:=h;refine ⟨_,(aS (fu (aa 0) (aa 1) rfl)
   (aS (fu (aa 0) (aa 2) rfl)
   (aS (fu (aa 0) (aa 3) rfl)
   (aS (fu (aa 0) (aa 4) rfl)
   (aS (fu (aa 0) (aa 5) rfl)
   (aS (fu (aa 0) (aa 6) rfl)
   (a5 (fu (aa 0) (aa 7) rfl)))))))),?_⟩
 nofun;have na:∀ {f:Str},f ∈ oT->c5 K (t.gZ d.k) f:=fun hf=>T.Wb hf d.k
 refine ⟨_,_,_,ar,T.qM _,na (by ac_nf),by decide,?_⟩;refine ⟨_,_,_,db,T.qM _,na (by ac_nf),hq (n:=999) (by decide),?_⟩;refine ⟨_,_,_,db,T.qM _,na (by ac_nf),hq (n:=999) (hq (n:=998) (by decide)),?_⟩;refine ⟨_,_,_,db,T.qM _,na (by ac_nf),hq (n:=999) (hq (n:=998) (hq (n:=997) (by decide))),?_⟩;refine ⟨_,_,_,db,T.qM _,na (by ac_nf),hq (n:=999) (hq (n:=998) (hq (n:=997) (hq (n:=996) (by decide)))),?_⟩;refine ⟨_,_,_,db,T.qM _,na (by ac_nf),hq (n:=999) (hq (n:=998) (hq (n:=997) (hq (n:=996) (hq (n:=995) (by decide))))),?_⟩;refine ⟨_,_,_,db,T.qM _,na (by ac_nf),hq (n:=999) (hq (n:=998) (hq (n:=997) (hq (n:=996) (hq (n:=995) (hq (n:=994) (by decide)))))),?_⟩;simp only [rM];rw [show c9 (ab "kind") (V.str (dM d.k)) ([]:List (Str × V))=[(ab "kind",V.str (dM d.k))] from gU [] rfl (by ac_nf),
  show c9 (ab "name") (V.str d.name) ([(ab "kind",V.str (dM d.k))]:List (Str × V))=[(ab "kind",V.str (dM d.k)),(ab "name",V.str d.name)] from gU [ab "kind"] rfl (by ac_nf),
  show c9 (ab "start") (V.int d.start) ([(ab "kind",V.str (dM d.k)),(ab "name",V.str d.name)]:List (Str × V))=[(ab "kind",V.str (dM d.k)),(ab "name",V.str d.name),(ab "start",V.int d.start)] from gU [ab "kind",ab "name"] rfl (by ac_nf),
  show c9 (ab "end") (V.int d.fin) ([(ab "kind",V.str (dM d.k)),(ab "name",V.str d.name),(ab "start",V.int d.start)]:List (Str × V))=[(ab "kind",V.str (dM d.k)),(ab "name",V.str d.name),(ab "start",V.int d.start),(ab "end",V.int d.fin)] from gU [ab "kind",ab "name",ab "start"] rfl (by ac_nf),
  show c9 (ab "off") (V.int d.off) ([(ab "kind",V.str (dM d.k)),(ab "name",V.str d.name),(ab "start",V.int d.start),(ab "end",V.int d.fin)]:List (Str × V))=[(ab "kind",V.str (dM d.k)),(ab "name",V.str d.name),(ab "start",V.int d.start),(ab "end",V.int d.fin),(ab "off",V.int d.off)] from gU [ab "kind",ab "name",ab "start",ab "end"] rfl (by ac_nf),
  show c9 (ab "near") (V.int d.near) ([(ab "kind",V.str (dM d.k)),(ab "name",V.str d.name),(ab "start",V.int d.start),(ab "end",V.int d.fin),(ab "off",V.int d.off)]:List (Str × V))=[(ab "kind",V.str (dM d.k)),(ab "name",V.str d.name),(ab "start",V.int d.start),(ab "end",V.int d.fin),(ab "off",V.int d.off),(ab "near",V.int d.near)] from gU [ab "kind",ab "name",ab "start",ab "end",ab "off"] rfl (by ac_nf),
  show c9 (ab "least") (V.int d.least) ([(ab "kind",V.str (dM d.k)),(ab "name",V.str d.name),(ab "start",V.int d.start),(ab "end",V.int d.fin),(ab "off",V.int d.off),(ab "near",V.int d.near)]:List (Str × V))=[(ab "kind",V.str (dM d.k)),(ab "name",V.str d.name),(ab "start",V.int d.start),(ab "end",V.int d.fin),(ab "off",V.int d.off),(ab "near",V.int d.near),(ab "least",V.int d.least)] from gU [ab "kind",ab "name",ab "start",ab "end",ab "off",ab "near"] rfl (by ac_nf)]
 exact q
theorem X1:cA P base T 2 t.wo t.BK kX (uq t 0):=by
 refine cH (Ji T) fun xK=>?_;exists T.V'.ok adv,9
 obtain ⟨p,ay,d,rfl,au,ar,q⟩:=h;refine ⟨_,(a5 (ee (Kw rfl T.H8 T.G3 xK aq T.Hv .nil cU (ak (aa 0) (ak cZ (ak (aa 1) (ak (aa 2) (ak (aa 3) (ak (aa 4) (ak (aa 5) (ak (aa 6) aF))))))))))),?_⟩;nofun;exact ⟨p,ay,d,by rw [au];rfl,by omega,ar,q⟩
theorem SL:cA P base T 2 t.yy t.Dg kX (uq t 1):=by
 refine cH (Ji T) fun xK=>?_;exists T.pp.ok alI,9
 obtain ⟨p,ay,d,rfl,au,ar,q⟩:=h;refine ⟨_,(a5 (ee (Kw rfl T.H8 T.G3 xK aq T.Hv .nil cU (ak (aa 0) (ak cZ (ak (aa 1) (ak (aa 2) (ak (aa 3) (ak (aa 4) (ak (aa 5) (ak (aa 6) aF))))))))))),?_⟩;nofun;exact ⟨p,ay,d,by rw [au];rfl,by omega,ar,q⟩
theorem ah':cA P base T 2 t.wa t.BS kX (uq t 2):=by
 refine cH (Ji T) fun xK=>?_;exists T.M3.ok adp,9
 obtain ⟨p,ay,d,rfl,au,ar,q⟩:=h;refine ⟨_,(a5 (ee (Kw rfl T.H8 T.G3 xK aq T.Hv .nil cU (ak (aa 0) (ak cZ (ak (aa 1) (ak (aa 2) (ak (aa 3) (ak (aa 4) (ak (aa 5) (ak (aa 6) aF))))))))))),?_⟩;nofun;exact ⟨p,ay,d,by rw [au];rfl,by omega,ar,q⟩
def tH (t:b7) (C:Addr):bW:=fun vs H Q _=>∃ p d,vs=[.ref p]/\fa t H p d/\C=t.gZ d.k/\Q (.int (jo d)) H
def tw (t:b7) (C:Addr):bW:=fun vs H Q _=>∃ p d,vs=[.ref p]/\fa t H p d/\C=t.gZ d.k/\Q (.int (jv d)) H
theorem afD:cA P base T 1 t.yV t.K2 ["self"] (tH t (t.gZ 0)):=by
 exists T.Wf.ok adt,9
 obtain ⟨p,d,rfl,W,dy,q⟩:=h;have au:=(T.cw_inj (by decide) W.1 dy).symm;refine ⟨_,(a5 (cy aD)),?_⟩;rw [show jo d=1 by unfold jo;simp only [au]] at q;nofun;exact q
theorem aaO:cA P base T 1 t.BE t.En ["self"] (tH t (t.gZ 1)):=by
 exists T.VX.ok Za,9
 obtain ⟨p,d,rfl,W,dy,q⟩:=h;have au:=(T.cw_inj (by decide) W.1 dy).symm;refine ⟨_,(a5 (cy aD)),?_⟩;rw [show jo d=0 by unfold jo;simp only [au]] at q;nofun;exact q
theorem aiD:cA P base T 1 t.y4 t.HX ["self"] (tH t (t.gZ 2)):=by
 exists T.Mo.ok aeY,9
 obtain ⟨p,d,rfl,W,dy,q⟩:=h;have au:=(T.cw_inj (by decide) W.1 dy).symm;refine ⟨_,(a5 (cy aD)),?_⟩;rw [show jo d=2 by unfold jo;simp only [au]] at q;nofun;exact q
theorem QG (T:Txt w K mg t):qt P w K mg base dE 1 (tS t) "ready" ["self"] (tH t):=by
 refine ⟨fun C dy=>?_⟩;obtain ⟨k,au,rfl⟩:=dy
 match k,au with
 | 0,_=>exact ⟨_,_,T.GA,T.ZZ,afD T,T.afo⟩
 | 1,_=>exact ⟨_,_,T.Kh,T.Xd,aaO T,T.aee⟩
 | 2,_=>exact ⟨_,_,T.IZ,T.akZ,aiD T,T.abv⟩
theorem ako:cA P base T 1 t.CW t.Lj ["self"] (tw t (t.gZ 0)):=by
 exists T.Rd.ok aip,9
 obtain ⟨p,d,rfl,W,dy,q⟩:=h;have au:=(T.cw_inj (by decide) W.1 dy).symm;refine ⟨_,(a5 (cy aD)),?_⟩;rw [show jv d=2 by unfold jv;simp only [au]] at q;nofun;exact q
theorem ahl:cA P base T 1 t.Bz t.Hf ["self"] (tw t (t.gZ 1)):=by
 exists T.We.ok Wt,9
 obtain ⟨p,d,rfl,W,dy,q⟩:=h;have au:=(T.cw_inj (by decide) W.1 dy).symm;refine ⟨_,(a5 (cy (bN (aa 0) rfl))),?_⟩;rw [show jv d=d.off by unfold jv;simp only [au]] at q;nofun;exact ⟨_,W.NL T,q⟩
theorem akg:cA P base T 1 t.BN t.H5 ["self"] (tw t (t.gZ 2)):=by
 exists T.SA.ok amF,9
 obtain ⟨p,d,rfl,W,dy,q⟩:=h;have au:=(T.cw_inj (by decide) W.1 dy).symm;refine ⟨_,(a5 (cy aD)),?_⟩;rw [show jv d=1 by unfold jv;simp only [au]] at q;nofun;exact q
theorem Vl (T:Txt w K mg t):qt P w K mg base dE 1 (tS t) "fade" ["self"] (tw t):=by
 refine ⟨fun C dy=>?_⟩;obtain ⟨k,au,rfl⟩:=dy
 match k,au with
 | 0,_=>exact ⟨_,_,T.GA,T.aaB,ako T,T.aea⟩
 | 1,_=>exact ⟨_,_,T.Kh,T.ahy,ahl T,T.aiX⟩
 | 2,_=>exact ⟨_,_,T.IZ,T.Xy,akg T,T.ab1⟩
noncomputable def l2 (c:Nat):List (List Nat)->List Nat
 | []=>[]
 | [a]=>a
 | a :: b :: r=>a ++ c :: l2 c (b :: r)
theorem Su:∀ {a b X Y:List Nat},c ∉ a->c ∉ b->a ++ c :: X=b ++ c :: Y->a=b/\X=Y
 | [],[],X,Y,_,_,h=>⟨rfl,(v9 h).2⟩
 | [],d :: b,X,Y,_,ae,h=>absurd (v9 h).1 (fun z=>ae (by simp [<- z]))
 | d :: a,[],X,Y,aR,_,h=>absurd (v9 h).1 (fun z=>aR (by simp [z]))
 | d :: a,e :: b,X,Y,aR,ae,h=>by
  obtain ⟨af,ao⟩:=v9 h;obtain ⟨ax,aK⟩:=Su (fun z=>aR (hR _ z)) (fun z=>ae (hR _ z)) ao;exact ⟨by rw [af,ax],aK⟩
theorem Np:∀ {ps qs:List (List Nat)},(∀ p ∈ ps,c ∉ p)->(∀ q ∈ qs,c ∉ q)->ps ≠ []->qs ≠ []->l2 c ps=l2 c qs->ps=qs
 | [a],[b],_,_,_,_,h=>by rw [show a=b from h]
 | [a],b :: hX :: r,aR,_,_,_,h=>absurd (show c ∈ a by rw [show a=b ++ c :: l2 c (hX :: r) from h];simp) (aR a (by simp))
 | a :: hC :: r,[b],_,ae,_,_,h=>absurd (show c ∈ b by rw [show b=a ++ c :: l2 c (hC :: r) from h.symm];simp) (ae b (by simp))
 | a :: hC :: r,b :: hX :: s,aR,ae,_,_,h=>by
  obtain ⟨ax,aK⟩:=Su (aR a (by simp)) (ae b (by simp)) (show a ++ c :: l2 c (hC :: r)=b ++ c :: l2 c (hX :: s) from h);rw [ax,Np (fun p ar=>aR p (hR _ ar)) (fun q aU=>ae q (hR _ aU)) (by simp) (by simp) aK]
 | [],_,_,_,h,_,_=>absurd rfl h
 | _ :: _,[],_,_,_,h,_=>absurd rfl h
theorem VD:∀ {ps:List (List Nat)},d ∈ l2 c ps->d=c\/∃ p ∈ ps,d ∈ p
 | [],h=>nomatch h
 | [a],h=>.inr ⟨a,by simp,h⟩
 | a :: b :: r,h=>by
  rcases gE.mp (show d ∈ a ++ c :: l2 c (b :: r) from h) with h | h
  .exact .inr ⟨a,by simp,h⟩
  .rcases fx.mp h with h | h
   .exact .inl h
   .rcases VD h with h | ⟨p,ar,h⟩
    .exact .inl h
    .exact .inr ⟨p,hR _ ar,h⟩
theorem qL (c:Nat):∀ ys:List Str,(eh ⟨#[c]⟩ ys).cps.toList=l2 c (ys.map (·.cps.toList))
 | []=>rfl
 | [a]=>rfl
 | a :: b :: r=>by
  show (a ++ ⟨#[c]⟩ ++ eh ⟨#[c]⟩ (b :: r)).cps.toList=_;rw [o2,oQ,o2,oQ,qL c (b :: r)];simp [l2]
theorem z3 {x y:Str} (h:x.cps.toList=y.cps.toList):x=y:=by
 cases x;cases y;exact congrArg Str.mk (Vh.mp h)
theorem Wc (aQ:ys ≠ []) (hf:∀ y ∈ ys,c ∉ y.cps.toList):i' (eh ⟨#[c]⟩ ys) ⟨#[c]⟩=ys:=by
 have e:=congrArg (·.cps.toList) (StrLaws.join_split (eh ⟨#[c]⟩ ys) ⟨#[c]⟩);simp only [qL] at e;have aK:=Np (c:=c) (ps:=(i' (eh ⟨#[c]⟩ ys) ⟨#[c]⟩).map (·.cps.toList)) (qs:=ys.map (·.cps.toList)) (fun p ar=>by
  obtain ⟨y,a9,rfl⟩:=bJ.mp ar;exact StrLaws.split_free _ c y a9) (fun p ar=>by
  obtain ⟨y,a9,rfl⟩:=bJ.mp ar;exact hf y a9) (by simp [ak6]) (by simpa using aQ) e
 exact (List.map_inj_right fun x y h=>z3 h).mp aK
noncomputable abbrev num (v:Int):Str:=ab (toString v)
theorem Xw:∀ n,n < 1000->(decide (1 <= ((vx 10 n).map w4).length) && decide (((vx 10 n).map w4).length <= 3) && ((vx 10 n).map w4).all mT && (decide (((vx 10 n).map w4).length <= 1) || decide (((vx 10 n).map w4).headD 0 ≠ 48)) &&
  decide (QF ((vx 10 n).map w4)=n))=true:=by ac_nf
theorem NE (h0:0 <= v) (af:v < 1000):kE (num v)=true/\val (num v)=v:=by
 have e:=ahL v.toNat;rw [qz h0] at e;have a:=Xw v.toNat (by omega);rw [<- e,g_,decide_eq_true_eq] at a;exact ⟨a.1,by show ((QF (cs (num v)):Nat):Int)=v;rw [a.2];omega⟩
theorem rg {v lo ah:Int} (h0:0 <= v) (af:v < 1000) (aM:lo <= v) (fY:v <= ah):jl (num v) lo ah=.int v:=by
 obtain ⟨a,b⟩:=NE h0 af;unfold jl;rw [a,b,decide_eq_false (by omega:¬ v < lo),decide_eq_false (by omega:¬ ah < v)];rfl
theorem Zu (h0:0 <= u) (af:u < 1000) (ao:0 <= v) (bj:v < 1000) (e:num u=num v):u=v:=by
 rw [<- (NE h0 af).2,e,(NE ao bj).2]
theorem TK (h0:0 <= v) (af:v < 1000):∀ c ∈ (num v).cps.toList,48 <= c/\c <= 57:=fun c aA=>by
 have:=oh.mp (aeO (NE h0 af).1).2 c aA;simpa [mT] using this
theorem amj:∀ c ∈ oc.cps.toList,97 <= c/\c <= 122:=by ac_nf
theorem ai7:∀ k,k < 26->97 + k ∈ oc.cps.toList:=by ac_nf
theorem ux {x:Str} (h:made x oc 8=true):(1 <= x.length/\x.length <= 8)/\∀ c ∈ x.cps.toList,97 <= c/\c <= 122:=by
 unfold made at h;split at h
 .cases h
 .rename_i af;split at h
  .cases h
  .rename_i ao;have bj:¬ x.length=0:=fun z=>af (zI.mpr z)
   refine ⟨by omega,fun c aA=>?_⟩;have:=oh.mp h c aA;rw [FG] at this;exact amj c (of_decide_eq_true this)
theorem ahG {x:Str} (h0:1 <= x.length) (af:x.length <= 8) (h:∀ c ∈ x.cps.toList,97 <= c/\c <= 122):made x oc 8=true:=by
 unfold made;rw [if_neg (fun z=>by have:=zI.mp z;omega),if_neg (by omega)];refine oh.mpr fun c aA=>?_
 have:=h c aA;rw [FG];have e:=ai7 (c - 97) (by omega);rw [show 97 + (c - 97)=c by omega] at e;exact decide_eq_true e
structure pL (n:Int) (d:a3):Prop where
 k:d.k < 3
 nm:made d.name oc 8=true
 st:0 <= d.start/\d.start < n
 fO:0 <= d.fin/\d.fin < n
 ne:d.start ≠ d.fin
 of:0 <= d.off/\d.off <= 30
 IQ:0 <= d.near/\d.near <= 30
 le:1 <= d.least/\d.least <= 60
structure sR (n:Int) (ds:List a3):Prop where
 nn:2 <= n/\n <= 99
 ln:1 <= ds.length/\ds.length <= 12
 al:∀ d ∈ ds,pL n d
 aH:(ds.map (·.name)).Nodup
noncomputable def n5 (d:a3):List Str:=[dM d.k,d.name,num d.start,num d.fin,num d.off,num d.near,num d.least]
noncomputable def Fk (n:Int) (ds:List a3):List (List Str):=[ab "ring",num n] :: ds.map n5
noncomputable def qe (n:Int) (ds:List a3):Str:=eh nl ((Fk n ds).map (eh cM))
def pZ (x:Str):Prop:=x.length <= 8/\(32:Nat) ∉ x.cps.toList/\(10:Nat) ∉ x.cps.toList
theorem UJ (k:Nat):pZ (dM k):=by
 match k with
 | 0=>exact ⟨by ac_nf,by ac_nf,by ac_nf⟩
 | 1=>exact ⟨by ac_nf,by ac_nf,by ac_nf⟩
 | _ + 2=>exact ⟨show (ab "tram").length <= 8 by ac_nf,show (32:Nat) ∉ (ab "tram").cps.toList by ac_nf,show (10:Nat) ∉ (ab "tram").cps.toList by ac_nf⟩
theorem lZ (h0:0 <= v) (af:v < 1000):pZ (num v):=
 ⟨cP (wq h0 (by omega)) (by decide),fun z=>by have:=TK h0 af _ z;omega,fun z=>by have:=TK h0 af _ z;omega⟩
theorem E0 {x:Str} (h:made x oc 8=true):pZ x:=
 ⟨(ux h).1.2,fun z=>by have:=(ux h).2 _ z;omega,fun z=>by have:=(ux h).2 _ z;omega⟩
theorem pL.plain (h:pL n d) (aQ:n <= 99):∀ x ∈ n5 d,pZ x:=fun x aj=>by
 have af:=h.st;have ao:=h.fO;have bj:=h.of;have cS:=h.IQ;have e':=h.le;simp only [n5,fx,td,or_false] at aj;rcases aj with rfl | rfl | rfl | rfl | rfl | rfl | rfl
 .exact UJ _
 .exact E0 h.nm
 .exact lZ (by omega) (by omega)
 .exact lZ (by omega) (by omega)
 .exact lZ (by omega) (by omega)
 .exact lZ (by omega) (by omega)
 .exact lZ (by omega) (by omega)
theorem sR.plain (h:sR n ds):∀ r ∈ Fk n ds,∀ x ∈ r,pZ x:=fun r aq x aj=>by
 have aQ:=h.nn;rcases fx.mp aq with rfl | aq
 .simp only [fx,td,or_false] at aj;rcases aj with rfl | rfl
  .exact ⟨by ac_nf,by ac_nf,by ac_nf⟩
  .exact lZ (by omega) (by omega)
 .obtain ⟨d,hd,rfl⟩:=bJ.mp aq;exact (h.al d hd).plain aQ.2 x aj
theorem Tw (h0:rs ≠ []) (af:∀ r ∈ rs,r ≠ []) (ao:∀ r ∈ rs,∀ x ∈ r,pZ x):hK (eh nl (rs.map (eh cM)))=rs:=by
 unfold hK;rw [WC,A5];rw [Wc (by simpa using h0) (fun y a9=>by
  obtain ⟨r,aq,rfl⟩:=bJ.mp a9;rw [qL];intro z;rcases VD z with z | ⟨p,ar,z⟩
  .cases z
  .obtain ⟨x,aj,rfl⟩:=bJ.mp ar;exact (ao r aq x aj).2.2 z)]
 rw [me];have:∀ r ∈ rs,((fun r=>i' r ⟨#[32]⟩) ∘ eh ⟨#[32]⟩) r=r:=fun r aq=>Wc (af r aq) fun x aj=>(ao r aq x aj).2.1
 exact (Oz this).trans (List.map_id rs)
theorem afY (h:sR n ds):hK (qe n ds)=Fk n ds:=Tw (by simp [Fk]) (fun r aq=>by
 rcases fx.mp aq with rfl | aq
 .simp
 .obtain ⟨d,hd,rfl⟩:=bJ.mp aq;simp [n5]) h.plain
theorem qc (sep:Str) (B:Nat):∀ ys:List Str,(∀ y ∈ ys,y.length <= B)->(eh sep ys).length <= ys.length * (B + sep.length)
 | [],_=>by show (Str.empty).length <= _;exact gv _
 | [a],h=>by
  have:=h a (by simp);show a.length <= _;simp only [gP,yz];omega
 | a :: b :: r,h=>by
  have af:=h a (by simp);have ao:=qc sep B (b :: r) fun y a9=>h y (hR _ a9)
  show (a ++ sep ++ eh sep (b :: r)).length <= _;rw [pg,pg,gP,Gp];omega
theorem XD (h:sR n ds):(qe n ds).length <= 1000:=by
 have af:∀ y ∈ (Fk n ds).map (eh cM),y.length <= 63:=fun y a9=>by
  obtain ⟨r,aq,rfl⟩:=bJ.mp a9;have:=qc cM 8 r fun x aj=>(h.plain r aq x aj).1
  rw [q8] at this;have aM:r.length <= 7:=by
   rcases fx.mp aq with rfl | aq
   .simp
   .obtain ⟨d,hd,rfl⟩:=bJ.mp aq;simp [n5]
  omega
 have ao:=qc nl 63 _ af;rw [xa] at ao;have bj:((Fk n ds).map (eh cM)).length <= 13:=by
  have:=h.ln;simp [Fk];omega
 unfold qe;omega
noncomputable abbrev pN:List Str:=[ab "row",ab "told",ab "place"]
noncomputable def mR (row:Int) (bo:Addr) (pl:Int):List (Str × V):=[(ab "row",.int row),(ab "told",.ref bo),(ab "place",.int pl)]
theorem xV (row:Int) (bo:Addr) (pl:Int):(mR row bo pl).map (·.1)=pN:=rfl
theorem alC (row:Int) (bo:Addr) (pl v:Int):c9 (ab "place") (.int v) (mR row bo pl)=mR row bo v:=by
 unfold mR;simp only [c9];rw [if_neg (by ac_nf),if_neg (by ac_nf)];rfl
def dg (t:b7) (H:aw) (p:Addr) (row:Int) (ws:List Str) (pl:Nat):Prop:=
 (ws.length <= 1000/\∀ x ∈ ws,x.length <= 1000)/\∃ ay bo,H p=some (.ins t.hv ay (mR row bo pl))/\H bo=some (.lst (aW ws))
def c3 (p:Addr) (H I:aw):Prop:=∀ b u,b ≠ p->H b=some u->I b=some u
theorem c3.trans {p:Addr} (a:c3 p H H1) (b:c3 p H1 aB):c3 p H aB:=fun c u n e=>b c u n (a c u n e)
theorem c3.of {p:Addr} (a:aN H H1):c3 p H H1:=fun c u _ e=>a c u e
theorem c3.put {p:Addr}:c3 p H (upd H p o):=fun c u n e=>by rw [aG n];exact e
theorem eY (ws:List Str):(aW ws).length=ws.length:=by unfold aW;rw [aP]
theorem qj {ws:List Str} {i:Nat} {x:Str} (h:ws[i]? = some x):(aW ws)[i]? = some (.str x):=by unfold aW;rw [cN,h];rfl
theorem y6 (ws:List Str):(aW ws).all kn=true:=by unfold aW;simp [kn]
theorem yZ (x:Str) (xs:List Str):qU (.str x) (aW xs)=decide (x ∈ xs):=by
 unfold qU aW;rw [QL,ig];simp only [oY,afZ,jf,beq_iff_eq,decide_eq_true_eq];constructor
 .rintro ⟨y,a9,rfl⟩;exact a9
 .intro h;exact ⟨x,h,rfl⟩
section
variable {w:World} {K:bk} {mg:Str->Option Value} {t:b7} {H I:aw} {p:Addr} {row:Int} {ws:List Str} {pl:Nat}
theorem dg.same (h:dg t H p row ws pl) (s:aN H I):dg t I p row ws pl:=by
 obtain ⟨aO,ay,bo,ax,aK⟩:=h;exact ⟨aO,ay,bo,s _ _ ax,s _ _ aK⟩
theorem dg.yi (h:dg t H p row ws pl) (s:c3 q H I) (n:p ≠ q) (k:∃ C ay aX,H q=some (.ins C ay aX)):dg t I p row ws pl:=by
 obtain ⟨aO,ay,bo,ax,aK⟩:=h;obtain ⟨C,zj,aX,bU⟩:=k;exact ⟨aO,ay,bo,s _ _ n ax,s _ _ (bK aK bU (by intro z;cases z)) aK⟩
theorem dg.ins (h:dg t H p row ws pl):∃ C ay aX,H p=some (.ins C ay aX):=by
 obtain ⟨aO,ay,bo,ax,aK⟩:=h;exact ⟨_,_,_,ax⟩
theorem dg.no (row:Int) (bo:Addr) (pl:Int) (h:pN.contains m=false):(mR row bo pl).lookup m=none:=Tm pN (xV ..) h
theorem HU (T:Txt w K mg t) (e:H p=some (.ins t.hv ay (mR row bo pl))):gm K H p (ab "place") (.int pl):=
 ⟨_,ay,_,e,T.gh,T.Fe,gY pN 2 (xV ..) (by ac_nf) rfl⟩
theorem Fz (T:Txt w K mg t) (e:H p=some (.ins t.hv ay (mR row bo pl))):gm K H p (ab "told") (.ref bo):=
 ⟨_,ay,_,e,T.gh,T.RF,gY pN 1 (xV ..) (by ac_nf) rfl⟩
end
def T5 (t:b7):bW:=fun vs H Q _=>∃ (p ay bo:Addr) (row:Int),vs=[.ref p,.int row,.ref bo]/\H p=some (.ins t.hv ay [])/\Q .b4 (upd H p (.ins t.hv ay (mR row bo 0)))
def Wz (t:b7):bW:=fun vs H Q _=>∃ p row ws pl,vs=[.ref p]/\dg t H p row ws pl/\pl <= ws.length/\Q (.str (ws.getD pl (ab ""))) H
def agI (t:b7):bW:=fun vs H Q _=>∃ p row ws pl,vs=[.ref p]/\dg t H p row ws pl/\Q (.br (decide (pl < ws.length))) H
def FS (t:b7) (H:aw) (p:Addr) (row:Int) (ws:List Str) (pl:Nat) (R:aw->Prop):Prop:=∀ I,c3 p H I->(aL H->aL I)->dg t I p row ws pl->R I
def ajh (t:b7):bW:=fun vs H Q _=>∃ p row ws pl,vs=[.ref p,.br true]/\dg t H p row ws pl/\FS t H p row ws (pl + 1) (Q .b4)
def aax (K:bk) (t:b7):bW:=fun vs H Q _=>∃ p row ws pl x c xs,vs=[.ref p,.ref c]/\dg t H p row ws pl/\ws[pl]? = some x/\av K H c (aW xs)/\x ∈ xs/\FS t H p row ws (pl + 1) (Q (.str x))
def X5 (t:b7):bW:=fun vs H Q _=>∃ p row ws pl x lo ah v,vs=[.ref p,.int lo,.int ah]/\dg t H p row ws pl/\ws[pl]? = some x/\jl x lo ah=.int v/\aL H/\FS t H p row ws (pl + 1) (Q (.int v))
def Xl (t:b7):bW:=fun vs H Q _=>∃ p row ws pl,vs=[.ref p]/\dg t H p row ws pl/\pl=ws.length/\Q .b4 H
theorem ad6:cA P base T 1 t.xw t.yP xJ (T5 t):=by
 exists T.Of.ok agS,9
 obtain ⟨p,ay,bo,row,rfl,ar,q⟩:=h;refine ⟨_,(aS (fu (aa 0) (aa 1) rfl)
   (aS (fu (aa 0) (aa 2) rfl)
   (a5 (fu (aa 0) aD rfl)))),?_⟩
 nofun;refine ⟨_,_,_,ar,T.gh,T.akH,by decide,?_⟩;refine ⟨_,_,_,db,T.gh,T.RF,hq (n:=999) (by decide),?_⟩;refine ⟨_,_,_,db,T.gh,T.Fe,hq (n:=999) (hq (n:=998) (by decide)),?_⟩;simp only [rM];rw [show c9 (ab "row") (V.int row) ([]:List (Str × V))=[(ab "row",V.int row)] from gU [] rfl (by ac_nf),
  show c9 (ab "told") (V.ref bo) ([(ab "row",V.int row)]:List (Str × V))=[(ab "row",V.int row),(ab "told",V.ref bo)] from gU [ab "row"] rfl (by ac_nf),
  show c9 (ab "place") (V.int 0) ([(ab "row",V.int row),(ab "told",V.ref bo)]:List (Str × V))=[(ab "row",V.int row),(ab "told",V.ref bo),(ab "place",V.int 0)] from gU [ab "row",ab "told"] rfl (by ac_nf)]
 exact q
theorem y8:cA P base T 1 t.Ck t.GU ["self"] (Wz t):=by
 exists T.QX.ok aiI,9
 obtain ⟨p,row,ws,pl,rfl,⟨aO,ay,bo,ax,aK⟩,hle,q⟩:=h;refine ⟨_,(aS (dP (cY eE (bN (aa 0) rfl) (eT gj rfl T.fP fZ (ak (bN (aa 0) rfl) aF)) (cu _)) (a5 (cy cZ)) ek)
   (a5 (cy (bh bO (bN (aa 0) rfl) (bN (aa 0) rfl))))),?_⟩
 nofun;refine dO (decide ((pl:Int)=(ws.length:Int))) (fun Q a0=>?_) (fun c=>?_) (fun c=>?_)
 .nofun;refine ⟨_,HU T ax,_,Fz T ax,_,rfl,_,.inl (av.of aK),rfl,?_⟩;rw [eY];nofun;exact a0
 .nofun;have c':pl=ws.length:=by have:=of_decide_eq_true c;omega
  rw [show ws.getD pl (ab "")=ab "" by rw [jg,KQ (by omega)];rfl] at q;exact q
 .nofun;have c':pl < ws.length:=by have:=of_decide_eq_false c;omega
  have aj:ws[pl]? = some ws[pl]:=aZ c';rw [jg,aj] at q;exact ⟨_,Fz T ax,_,HU T ax,_,rfl,_,_,rfl,av.of aK,_,bt (qj aj),q⟩
theorem TM:cA P base T 1 t.zg t.JY ["self"] (agI t):=by
 exists T.ci.ok Yc,9
 obtain ⟨p,row,ws,pl,rfl,⟨aO,ay,bo,ax,aK⟩,q⟩:=h;refine ⟨_,(a5 (cy (hb lp (bN (aa 0) rfl) (eT gj rfl T.fP fZ (ak (bN (aa 0) rfl) aF)) (cu _)))),?_⟩;nofun;have e:decide (pl < ws.length)=decide ((pl:Int) < (ws.length:Int)):=by rw [ig];simp
 rw [e] at q;refine ⟨_,HU T ax,_,Fz T ax,_,rfl,_,.inl (av.of aK),?_⟩;rw [eY];exact ⟨_,rfl,q⟩
theorem Iy:cA P base T 1 t.zE t.Ee Aw (ajh t):=by
 exists T.MJ.ok aid,9
 obtain ⟨p,row,ws,pl,rfl,⟨aO,ay,bo,ax,aK⟩,q⟩:=h;refine ⟨_,(aS (dP (yE (lR (aa 1))) (a5 oB) ek)
   (a5 (Hx (aa 0) aD J9))),?_⟩
 nofun;refine dO false (fun Q a0=>?_) (fun aA=>nomatch aA) (fun _=>?_)
 .nofun;exact a0
 .nofun;refine ⟨_,_,_,ax,T.gh,T.Fe,_,gY pN 2 (xV ..) (by ac_nf) rfl,_,rfl,_,_,ax,by rw [<- aP (f:=(·.1)),xV];decide,?_⟩;rw [alC];exact q _ c3.put (fun n=>n.upd) ⟨aO,ay,bo,db,by rw [aG (bK aK ax (by intro z;cases z))];exact aK⟩
theorem Bn:cA P base T 2 t.zV t.ad HG (aax K t):=by
 refine cH (y8 T) fun s8=>cH (Iy T) fun we=>?_;exists T.Mn.ok SK,9
 obtain ⟨p,row,ws,pl,x,c,xs,rfl,R,aj,aA,hm,q⟩:=h;refine ⟨_,(aS (cF (i:=2) SK.aH (iR (aa 0) T.gh T.BP s8 aq T.wf .nil cU))
   (aS (ee (fN (aa 0) T.gh T.Eb we aq T.Ec .nil cU (ak (hb AF (aa 2) (aa 1) (by with_unfolding_all rfl)) aF)))
   (a5 (cy (aa 2))))),?_⟩
 have dV:pl < ws.length:=(cv.mp aj).1;have bp:ws.getD pl (ab "")=x:=by rw [jg,aj];rfl
 obtain ⟨_,ay,bo,ax,aK⟩:=id R;nofun;refine ⟨_,_,ax,dg.no _ _ _ (by ac_nf),⟨p,row,ws,pl,rfl,R,by omega,?_⟩⟩;rw [bp];nofun;refine ⟨_,_,ax,dg.no _ _ _ (by ac_nf),_,.inl aA,rfl,y6 xs,?_⟩;rw [yZ,decide_eq_true hm];refine ⟨p,row,ws,pl,rfl,R,fun I s1 s2 s3=>?_⟩;nofun;exact q I s1 s2 s3
theorem CF:cA P base T 4 t.AH t.GI L6 (X5 t):=by
 refine cH (y8 T) fun s8=>cH (Iy T) fun we=>cH (abN T) fun ae'=>?_;exists T.VG.ok Uq,9
 obtain ⟨p,row,ws,pl,x,lo,ah,v,rfl,R,aj,aI,bE,q⟩:=h;refine ⟨_,(aS (cF (i:=3) Uq.aH (cc ae' aq T.aby T.GC.bG T.aaG (ak (iR (aa 0) T.gh T.BP s8 aq T.wf .nil cU) (ak (aa 1) (ak (aa 2) aF)))))
   (aS (ee (fN (aa 0) T.gh T.Eb we aq T.Ec .nil cU (ak (hb F6 (aa 3) n7 (cu _)) aF)))
   (a5 (cy (aa 3))))),?_⟩
 have dV:pl < ws.length:=(cv.mp aj).1;have bp:ws.getD pl (ab "")=x:=by rw [jg,aj];rfl
 obtain ⟨aO,ay,bo,ax,aK⟩:=id R;nofun;refine ⟨_,_,ax,dg.no _ _ _ (by ac_nf),⟨p,row,ws,pl,rfl,R,by omega,?_⟩⟩;rw [bp];nofun;refine ⟨x,lo,ah,rfl,aO.2 x (cm aj),bE,?_⟩;rw [aI];nofun;refine ⟨_,_,ax,dg.no _ _ _ (by ac_nf),?_⟩;refine ⟨p,row,ws,pl,rfl,R,fun I s1 s2 s3=>?_⟩;nofun;exact q I s1 s2 s3
theorem Mw:cA P base T 2 t.Dp t.JN ["self"] (Xl t):=by
 refine cH (TM T) fun IB=>?_;exists T.Wk.ok Wp,9
 obtain ⟨p,row,ws,pl,rfl,R,aM,q⟩:=h;obtain ⟨aO,ay,bo,ax,aK⟩:=id R;refine ⟨_,(a5 (dP (lR (iR (aa 0) T.gh T.VY IB aq T.Tp .nil cU)) (a5 oB) ek)),?_⟩;nofun;refine dO false (fun Q a0=>?_) (fun aA=>nomatch aA) (fun _=>?_)
 .nofun;refine ⟨_,_,ax,dg.no _ _ _ (by ac_nf),⟨p,row,ws,pl,rfl,R,?_⟩⟩;rw [decide_eq_false (by omega)];exact ⟨_,rfl,a0⟩
 .nofun;exact q
noncomputable abbrev aE (ws:List Str) (k:Nat):Str:=ws.getD k (ab "")
theorem Gx {k:Nat} (h:aE ws k ≠ ab ""):k < ws.length:=by
 refine Nx fun z=>h ?_
 unfold aE;rw [jg,KQ (by omega)];rfl
theorem acW (w:Str) (lo ah:Int):(∃ v,jl w lo ah=.int v/\lo <= v/\v <= ah/\w ≠ ab "")\/jl w lo ah=.b4:=by
 unfold jl;split
 .rename_i h;rw [g_] at h;refine .inl ⟨val w,rfl,?_,?_,fun z=>?_⟩
  .have:=h.2;simp at this;omega
  .have:=h.2;simp at this;omega
  .have af:=h.1;rw [z] at af;exact absurd af (by ac_nf)
 .exact .inr rfl
def af9 (x:Str):Prop:=x.length <= 1000/\∀ c ∈ x.cps.toList,c < 16 ^ 8
noncomputable def i3 (ds:List a3) (x:Str):Option a3:=ds.find? fun d=>decide (d.name=x)
theorem As {w:World} {K:bk} {mg:Str->Option Value} {base:Heap} {j k:Nat} (V:qt P w K mg base CX j o9 m ps oO) (h:j <= k):qt P w K mg base CX k o9 m ps oO:=⟨fun C dy=>by
 obtain ⟨f,fd,af,ao,bj,cS⟩:=V.ok C dy;exact ⟨f,fd,af,ao,bj.mono h,cS⟩⟩
noncomputable def kM (x:Str) (lo ah:Int):Option Int:=if kE x && !(decide (val x < lo) || decide (ah < val x)) then some (val x) else none
theorem F2 (x:Str) (lo ah:Int):jl x lo ah=(kM x lo ah).elim .b4 .int:=by
 unfold jl kM;split <;> rfl
theorem Pq {x:Str} {lo ah v:Int} (h:jl x lo ah=.int v):kM x lo ah=some v:=by
 rw [F2] at h;cases e:kM x lo ah with
 | none=>rw [e] at h;cases h
 | some u=>rw [e] at h;injection h with h;rw [h]
theorem Ek {k:Nat} {lo ah v:Int} (h:jl (aE ws k) lo ah=.int v):k + 1 <= ws.length/\lo <= v/\v <= ah:=by
 rcases acW (aE ws k) lo ah with ⟨u,bC,af,ao,bj⟩ | aQ
 .rw [bC] at h;injection h with h;subst h;exact ⟨Gx bj,af,ao⟩
 .rw [aQ] at h;cases h
theorem mq {a x:α} (h:(l ++ [a])[i]? = some x):(i < l.length/\l[i]? = some x)\/(i=l.length/\x=a):=by
 by_cases ah:i < l.length
 .rw [xB ah] at h;exact .inl ⟨ah,h⟩
 .rw [vd (by omega)] at h;have h0:i - l.length=0:=by
   cases fY:i - l.length with
   | zero=>rfl
   | succ m=>rw [fY] at h;simp at h
  rw [h0] at h;exact .inr ⟨by omega,(by simpa using h:a=x).symm⟩
theorem xI {k:Nat} (h:k < ws.length):ws[k]? = some (aE ws k):=by
 unfold aE;rw [jg,aZ h];rfl
theorem bZ {α β:Type} {f:α->β} {l:List α} {i:Nat} {y:β} (h:(l.map f)[i]? = some y):∃ x,l[i]? = some x/\y=f x:=by
 rw [cN] at h;cases e:l[i]? with
 | none=>rw [e] at h;cases h
 | some x=>rw [e] at h;exact ⟨x,rfl,(ei h).symm⟩
def abh (t:b7) (b5 H:aw) (p:Addr) (rows:List (List Str)):Prop:=∃ qs:List Addr,H p=some (.lst (qs.map V.ref))/\b5 p=none/\qs.length=rows.length/\∀ (i:Nat) (q:Addr) (r:List Str),qs[i]? = some q->rows[i]? = some r->dg t H q i r 0/\b5 q=none
def Ku (t:b7):bW:=fun vs H Q _=>∃ x,vs=[.str x]/\x.length <= 20000/\(∀ r ∈ hK x,r.length <= 1000/\∀ y ∈ r,y.length <= 1000)/\aL H/\∀ p I,aN H I->aL I->abh t H I p (hK x)->Q (.ref p) I
theorem Q0:cA P base T 3 t.xr t.xT ["text"] (Ku t):=by
 have XZ:cK P w K mg base dE 2 t.Co t.zF ["text"] Ol:=(ad1 T).mono (by decide);have Z_:cK P w K mg base dE 1 t.xw t.yP xJ (T5 t):=ad6 T;exists T.yR.ok aay,9
 obtain ⟨x,rfl,aO,tX,bE,q⟩:=h;refine ⟨_,(a5 (cy (fT rfl (A' rfl T.CC (ak (cc XZ aq T.ag' T.LZ.bG T.Yz (ak (aa 0) aF)) aF)) (ac (sc:=bB Fd) rfl (by ac_nf)) (N:=["row","told"]) (sel:=[none,none]) (fw (M:=["text"]) (by ac_nf)) (eO.of (fun _ _ _ _=>(mr (K:=K) (n:=2) rfl rfl (fC (b9 (i:=0) (d1 (N:=["row","told"]) (by ac_nf) rfl)) (fC (b9 (i:=1) (d1 (N:=["row","told"]) (by ac_nf) rfl)) mx)))) (fun _ _ _ _=>⟨_,hO,by walk_at "B"⟩) (fun _ _ _ _=>⟨_,(sr T.acP Z_ aq rfl T.acN T.amy .nil cU (ak (aa 0) (ak (aa 1) aF))),by walk_at "B"⟩))))),?_⟩;nofun;refine ⟨x,rfl,aO,bE,fun p H1 tx h6 ⟨ps,ar,g4,ix,c4,pD⟩=>?_⟩;nofun;refine ⟨⟨_,av.of ar⟩,?_⟩;have hlen:ps.length <= sizeLine:=by
  rw [c4];unfold hK;rw [aP];have:=Ew (x:=x) (y:=nl) (by rw [xa];exact b8 _);exact cP (show _ <= 40000 by omega) (by decide)
 refine Gc.enum (xs:=ps.map V.ref) (fun i ys aB=>aN H1 aB/\aL aB/\∃ qs:List Addr,ys=qs.map V.ref/\qs.length=i/\∀ (j:Nat) (q:Addr) (r:List Str),qs[j]? = some q->(hK x)[j]? = some r->dg t aB q j r 0/\H1 q=none)
  (by rw [aP];exact hlen) ⟨aN.refl H1,h6,[],rfl,rfl,fun j q r h _=>by simp at h⟩ ?_ ?_ ?_
 .rintro i ys aB ah bf;ac_rfl
  obtain ⟨s2,cD,qs,rfl,aU,_⟩:=bf;subst aY;exact ⟨av.of (s2 _ _ ar),by rw [aP];omega⟩
 .rintro i v ys aB es aI ⟨s2,cD,qs,rfl,aU,al⟩ fU N bb;rw [cN] at aI;cases yJ:ps[i]? with
  | none=>rw [yJ] at aI;cases aI
  | some pi=>
   rw [yJ] at aI;have e:=(ei aI).symm;subst e;refine zO ?_;nofun;refine ⟨Sub.agK,fun a ay aR hd ct=>?_⟩;refine ⟨a,ay,pi,i,rfl,db,rfl,?_⟩;rw [rM];have s3:aN aB (upd (upd (upd aB es (.tup [.int i,.ref pi])) ay (.own a)) a (.ins t.hv ay (mR i pi 0))):=by
    have ai:aN aB (upd aB es (.tup [.int i,.ref pi])):=bq fU;exact ((aN.trans ai (bq hd)).ff (ai.free aR))
   obtain ⟨r,aq⟩:∃ r,(hK x)[i]? = some r:=⟨(hK x)[i]'(by rw [<- c4];exact (cv.mp yJ).1),aZ _⟩;have agQ:aB a=none:=(bq fU).free aR;refine bb _ _ ⟨s2.trans s3,((cD.upd).upd).upd,qs ++ [a],by rw [e5];rfl,by rw [dZ,aU];rfl,fun j eI df af ao=>?_⟩;by_cases aJ:j < qs.length
   .rw [xB aJ] at af;obtain ⟨fV,fj⟩:=al j eI df af ao;exact ⟨fV.same s3,fj⟩
   .rw [vd (by omega)] at af;have qo:j - qs.length=0:=by
     cases fY:j - qs.length with
     | zero=>rfl
     | succ n=>rw [fY] at af;simp at af
    rw [qo] at af;have bU:a=eI:=by simpa using af
    subst bU;have eW:j=i:=by omega
    subst eW;rw [aq] at ao;cases ao;refine ⟨⟨tX r (cm aq),ay,pi,db,?_⟩,s2.free agQ⟩;exact s3 _ _ (s2 _ _ (pD j pi r yJ aq).1)
 .rintro ys aB ⟨s2,cD,qs,rfl,aU,al⟩ es fU;refine q es _ ((tx.trans s2).ff ((tx.trans s2).free fU)) (cD.upd) ⟨qs,db,(tx.trans s2).free fU,by rw [aU,aP,c4],fun i eI r af ao=>?_⟩;obtain ⟨fV,fj⟩:=al i eI r af ao;exact ⟨fV.same (bq fU),tx.free fj⟩
def akA (q:Addr) (H:aw) (R:aw->Prop):Prop:=∀ I,c3 q H I->aL I->R I
def QC (t:b7):bW:=fun vs H Q _=>∃ q row n,vs=[.ref q]/\dg t H q row [ab "ring",num n] 0/\(2 <= n/\n <= 99)/\aL H/\akA q H (Q (.int n))
def oj (t:b7) (H:aw) (wl:Addr) (ds:List a3):Prop:=∃ as:List Addr,H wl=some (.lst (as.map V.ref))/\as.length=ds.length/\∀ (i:Nat) (a:Addr) (d:a3),as[i]? = some a->ds[i]? = some d->fa t H a d
def agU (t:b7):bW:=fun vs H Q _=>∃ q row ws pl wl ds x,vs=[.ref q,.ref wl]/\dg t H q row ws pl/\ws[pl]? = some x/\made x oc 8=true/\oj t H wl ds/\ds.length <= 12/\(∀ d ∈ ds,d.name ≠ x)/\aL H /\
 ∀ I,c3 q H I->aL I->dg t I q row ws (pl + 1)->Q (.str x) I
def agP (t:b7):bW:=fun vs H Q _=>∃ q row ws pl n st fO,vs=[.ref q,.int n,.int st]/\dg t H q row ws pl/\ws[pl]? = some (num fO)/\(0 <= st/\st < n)/\(0 <= fO/\fO < n)/\st ≠ fO/\n <= 99/\aL H /\
 ∀ I,c3 q H I->aL I->dg t I q row ws (pl + 1)->Q (.int fO) I
def ag7 (t:b7):bW:=fun vs H Q _=>∃ d:a3,vs=[.str (dM d.k),.str d.name,.int d.start,.int d.fin,.int d.off,.int d.near,.int d.least]/\d.k < 3/\∀ x I,aN H I->(aL H->aL I)->fa t I x d->H x=none->Q (.ref x) I
def TH (t:b7):bW:=fun vs H Q _=>∃ q row n wl ds d,vs=[.ref q,.int n,.ref wl]/\dg t H q row (n5 d) 0/\pL n d/\(2 <= n/\n <= 99)/\oj t H wl ds/\ds.length <= 12/\(∀ e ∈ ds,e.name ≠ d.name)/\aL H /\
 ∀ x I,c3 q H I->aL I->fa t I x d->H x=none->Q (.ref x) I
theorem oj.yi {t:b7} (h:oj t H wl ds) (s:c3 q H I) (r:dg t H q row ws pl):oj t I wl ds:=by
 obtain ⟨as,ax,aK,al⟩:=h;obtain ⟨aO,ay,bo,bU,eW⟩:=r;refine ⟨as,s _ _ (bK ax bU (by intro z;cases z)) ax,aK,fun i a d af ao=>?_⟩;obtain ⟨au,hL,fR⟩:=al i a d af ao;refine ⟨au,hL,s _ _ (fun z=>?_) fR⟩;subst z;rw [fR] at bU;have e0:=ei bU;injection e0 with _ _ k8;have lQ:(7:Nat)=3:=congrArg ry k8;omega
theorem oj.same {t:b7} (h:oj t H wl ds) (s:aN H I):oj t I wl ds:=by
 obtain ⟨as,ax,aK,al⟩:=h;exact ⟨as,s _ _ ax,aK,fun i a d af ao=>(al i a d af ao).same s⟩
theorem ac_:cA P base T 5 t.BZ t.im ["reader"] (QC t):=by
 refine cH (Bn T) fun rn=>cH (CF T) fun ot=>cH (Mw T) fun Gw=>?_;exists T.H4.ok ut,9
 obtain ⟨q,row,n,rfl,R,aQ,bE,k_⟩:=h;refine ⟨_,(aS (ee (fN (aa 0) T.gh T.w7 rn aq T.wN .nil cU (ak (gL (ak cZ aF)) aF)))
   (aS (cF (i:=1) ut.aH (fN (aa 0) T.gh T.rG ot aq T.rC .nil cU (ak (mE rfl T.ww T.ahZ) (ak (mE rfl T.afT T.aa5) aF))))
   (aS (ee (iR (aa 0) T.gh T.Vt Gw aq T.Qa .nil cU))
   (a5 (cy (aa 1)))))),?_⟩
 obtain ⟨_,ay,bo,ax,aK⟩:=id R;nofun;refine ⟨_,_,ax,dg.no _ _ _ (by ac_nf),by decide,fun p ar=>?_⟩;have s0:aN H (upd H p (.lst [V.str (ab "ring")])):=bq ar;refine ⟨q,row,_,0,ab "ring",p,[ab "ring"],rfl,R.same s0,rfl,av.of db,by simp,fun H1 s1 cB kk=>?_⟩;obtain ⟨_,OA,MH,f1,f2⟩:=id kk;nofun;refine ⟨_,_,f1,dg.no _ _ _ (by ac_nf),?_⟩;have h6:=cB bE.upd;refine ⟨q,row,_,1,num n,2,99,n,rfl,kk,rfl,rg (by omega) (by omega) aQ.1 aQ.2,h6,fun aB s2 cD fb=>?_⟩;obtain ⟨_,xy,HM,g1,g2⟩:=id fb;nofun;refine ⟨_,_,g1,dg.no _ _ _ (by ac_nf),?_⟩;refine ⟨q,row,_,2,rfl,fb,rfl,?_⟩;nofun;exact k_ aB (((c3.of s0).trans s1).trans s2) (cD h6)
theorem abG:cA P base T 3 t.Gm t.L0 LN (agU t):=by
 refine cH (y8 T) fun s8=>cH (Iy T) fun we=>cH (XA T) fun abl=>?_;exists T.JJ.ok U8,9
 obtain ⟨q,row,ws,pl,wl,ds,x,rfl,R,aj,hm,eU,gg,wB,bE,k_⟩:=h;refine ⟨_,(aS (cF (i:=2) U8.aH (iR (aa 0) T.gh T.BP s8 aq T.wf .nil cU))
   (aS (ee (fN (aa 0) T.gh T.Eb we aq T.Ec .nil cU (ak (x9 (cc abl aq T.aaI T.IP.bG T.afc (ak (aa 2) aF)) (um (hb CV (aa 2) (fT rfl (d6 (aa 1)) (ac (sc:=bB HY) rfl (by ac_nf)) (N:=["way"]) (sel:=[none]) (fw (M:=["reader","ways","name"]) (by ac_nf)) (eO.of (fun _ _ _ _=>(b9 (i:=0) (d1 (N:=["way"]) (by ac_nf) rfl))) (fun _ _ _ _=>⟨_,hO,by walk_at "B"⟩) (fun _ _ _ _=>⟨_,(bN (aa 0) rfl),by walk_at "B"⟩))) (by with_unfolding_all rfl)))) aF)))
   (a5 (cy (aa 2))))),?_⟩
 have dV:pl < ws.length:=(cv.mp aj).1;have bp:ws.getD pl (ab "")=x:=by rw [jg,aj];rfl
 obtain ⟨aO,ay,bo,ax,aK⟩:=id R;nofun;refine ⟨_,_,ax,dg.no _ _ _ (by ac_nf),⟨q,row,ws,pl,rfl,R,by omega,?_⟩⟩;rw [bp];nofun;refine ⟨_,_,ax,dg.no _ _ _ (by ac_nf),?_⟩;refine ⟨x,rfl,aO.2 x (cm aj),bE,?_⟩;rw [hm];nofun;obtain ⟨as,dH,dI,al⟩:=eU;refine ⟨⟨_,av.of dH⟩,?_⟩;have hle:(as.map V.ref).length <= sizeLine:=by rw [aP,dI];exact cP gg (by decide)
 refine Gc.lg (xs:=as.map V.ref) (zs:=ds.map fun d=>V.str d.name) (av.of dH) hle (by rw [aP,aP,dI]) (fun i v z N aI fX bb=>?_) (fun p ar=>?_)
 .obtain ⟨a,aR,rfl⟩:=bZ aI;obtain ⟨d,hd,rfl⟩:=bZ fX;nofun;exact ⟨Sub.name,_,(al i a d aR hd).E4 T,bb⟩
 .nofun;have e7:(ds.map fun d=>V.str d.name)=aW (ds.map (·.name)):=by unfold aW;rw [me];rfl
  rw [e7];refine ⟨_,.inl (av.of db),rfl,y6 _,?_⟩;rw [yZ,decide_eq_false (fun z=>by
   obtain ⟨d,hd,e⟩:=bJ.mp z;exact wB d hd e)]
  have s0:aN H (upd H p (.lst (aW (ds.map (·.name))))):=bq ar;exact ⟨q,row,ws,pl,rfl,R.same s0,fun I s1 cB kk=>k_ I ((c3.of s0).trans s1) (cB bE.upd) kk⟩
theorem Xb:cA P base T 5 t.DN t.io BW (agP t):=by
 refine cH (y8 T) fun s8=>cH (CF T) fun ot=>?_;exists T.Ff.ok amG,9
 obtain ⟨q,row,ws,pl,n,st,fO,rfl,R,aj,h8,Kk,ct,aQ,bE,k_⟩:=h;refine ⟨_,(aS (dP (cY eE (iR (aa 0) T.gh T.BP s8 aq T.wf .nil cU) (j4 Ch rfl T.vF xA (ak (aa 2) aF)) (cu _)) (a5 oB) ek)
   (a5 (cy (fN (aa 0) T.gh T.rG ot aq T.rC .nil cU (ak aD (ak (bI lS (aa 1) aD) aF)))))),?_⟩
 have dV:pl < ws.length:=(cv.mp aj).1;have bp:ws.getD pl (ab "")=num fO:=by rw [jg,aj];rfl
 obtain ⟨aO,ay,bo,ax,aK⟩:=id R;nofun;refine dO false (fun Q a0=>?_) (fun aA=>nomatch aA) (fun _=>?_)
 .nofun;refine ⟨_,_,ax,dg.no _ _ _ (by ac_nf),⟨q,row,ws,pl,rfl,R,by omega,?_⟩⟩;rw [bp];nofun;refine ⟨Fi (by omega),?_⟩;rw [decide_eq_false (fun z=>ct (Zu (by omega) (by omega) (by omega) (by omega) z).symm)];exact a0
 .nofun;refine ⟨_,_,ax,dg.no _ _ _ (by ac_nf),⟨q,row,ws,pl,num fO,0,n - 1,fO,rfl,R,aj,rg (by omega) (by omega) (by omega) (by omega),bE,fun H1 s1 cB kk=>?_⟩⟩;exact k_ H1 s1 (cB bE) kk
theorem ae2 {t:b7} {x ay:Addr} (aj:H x=none) (hd:H ay=none) (au:d.k < 3) :
  aN H (upd (upd (upd H ay (.own x)) x (.ins (t.gZ d.k) ay [])) x (.ins (t.gZ d.k) ay (ow d)))/\(aL H->aL (upd (upd (upd H ay (.own x)) x (.ins (t.gZ d.k) ay [])) x (.ins (t.gZ d.k) ay (ow d)))) /\
   fa t (upd (upd (upd H ay (.own x)) x (.ins (t.gZ d.k) ay [])) x (.ins (t.gZ d.k) ay (ow d))) x d:=
 ⟨(((aN.refl H).ff hd).ff aj).ff aj,fun n=>((n.upd).upd).upd,au,ay,db⟩
theorem ajK:cA P base T 4 t.GK t.Jv Ac (ag7 t):=by
 have Zk:cK P w K mg base dE 2 t.wo t.BK kX (uq t 0):=X1 T;have amb:cK P w K mg base dE 2 t.yy t.Dg kX (uq t 1):=SL T;have Z1:cK P w K mg base dE 2 t.wa t.BS kX (uq t 2):=ah' T;exists T.Os.ok ah4,9
 obtain ⟨d,rfl,au,q⟩:=h;refine ⟨_,(aS (dP (cY eE (aa 0) cZ (cu _)) (a5 (cy (sr T.aiT Zk aq rfl T.alH T.WK .nil cU (ak (aa 1) (ak (aa 2) (ak (aa 3) (ak (aa 4) (ak (aa 5) (ak (aa 6) aF))))))))) ek)
   (aS (dP (cY eE (aa 0) cZ (cu _)) (a5 (cy (sr T.alW amb aq rfl T.ai5 T.ajR .nil cU (ak (aa 1) (ak (aa 2) (ak (aa 3) (ak (aa 4) (ak (aa 5) (ak (aa 6) aF))))))))) ek)
   (a5 (cy (sr T.amO Z1 aq rfl T.amm T.adR .nil cU (ak (aa 1) (ak (aa 2) (ak (aa 3) (ak (aa 4) (ak (aa 5) (ak (aa 6) aF))))))))))),?_⟩
 have fin:∀ (x ay:Addr),H x=none->H ay=none->Q (.ref x) (upd (upd (upd H ay (.own x)) x (.ins (t.gZ d.k) ay [])) x (.ins (t.gZ d.k) ay (ow d))):=fun x ay aj hd=>by
  obtain ⟨ju,j8,uR⟩:=ae2 (t:=t) (d:=d) aj hd au;exact q x _ ju j8 uR aj
 obtain ⟨k,name,start,fO,off,near,least⟩:=d
 match k,au with
 | 0,_=>
  (nofun; repeat (dsimp only [dM];nofun));refine dO true (fun Q a0=>?_) (fun _=>?_) (fun aA=>nomatch aA)
  .nofun;exact a0
  .nofun;exact fun x ay aj hd ct=>⟨x,ay,⟨0,name,start,fO,off,near,least⟩,rfl,rfl,db,rfl,fin x ay aj hd⟩
 | 1,_=>
  (nofun; repeat (dsimp only [dM];nofun));refine dO false (fun Q a0=>?_) (fun aA=>nomatch aA) (fun _=>?_)
  .nofun;rw [decide_eq_false (by ac_nf)];exact a0
  .nofun;refine dO true (fun Q a0=>?_) (fun _=>?_) (fun aA=>nomatch aA)
   .nofun;exact a0
   .nofun;exact fun x ay aj hd ct=>⟨x,ay,⟨1,name,start,fO,off,near,least⟩,rfl,rfl,db,rfl,fin x ay aj hd⟩
 | 2,_=>
  (nofun; repeat (dsimp only [dM];nofun));refine dO false (fun Q a0=>?_) (fun aA=>nomatch aA) (fun _=>?_)
  .nofun;rw [decide_eq_false (by ac_nf)];exact a0
  .nofun;refine dO false (fun Q a0=>?_) (fun aA=>nomatch aA) (fun _=>?_)
   .nofun;rw [decide_eq_false (by ac_nf)];exact a0
   .nofun;exact fun x ay aj hd ct=>⟨x,ay,⟨2,name,start,fO,off,near,least⟩,rfl,rfl,db,rfl,fin x ay aj hd⟩
theorem aiY:cA P base T 6 t.y1 t.Cn AX (TH t):=by
 refine cH (Bn T) fun rn=>cH (CF T) fun ot=>cH (Mw T) fun Gw=>cH (abG T) fun ag5=>cH (Xb T) fun WM=>cH (ajK T) fun ZJ=>?_;exists T.GS.ok qF,9
 obtain ⟨q,row,n,wl,ds,d,rfl,R,hd,aQ,eU,gg,wB,bE,k_⟩:=h;refine ⟨_,(aS (cF (i:=3) qF.aH (fN (aa 0) T.gh T.w7 rn aq T.wN .nil cU (ak (gL (ak cZ (ak cZ (ak cZ aF)))) aF)))
   (aS (cF (i:=4) qF.aH (cc ag5 aq T.aba T.JJ.bG T.ago (ak (aa 0) (ak (aa 2) aF))))
   (aS (cF (i:=5) qF.aH (fN (aa 0) T.gh T.rG ot aq T.rC .nil cU (ak aD (ak (bI lS (aa 1) aD) aF))))
   (aS (cF (i:=6) qF.aH (cc WM aq T.YI T.Ff.bG T.ae5 (ak (aa 0) (ak (aa 1) (ak (aa 5) aF)))))
   (aS (cF (i:=7) qF.aH (fN (aa 0) T.gh T.rG ot aq T.rC .nil cU (ak aD (ak (mE rfl T.ai2 T.ahe) aF))))
   (aS (cF (i:=8) qF.aH (fN (aa 0) T.gh T.rG ot aq T.rC .nil cU (ak aD (ak (mE rfl T.adF T.acm) aF))))
   (aS (cF (i:=9) qF.aH (fN (aa 0) T.gh T.rG ot aq T.rC .nil cU (ak aD (ak (mE rfl T.aie T.ac6) aF))))
   (aS (ee (iR (aa 0) T.gh T.Vt Gw aq T.Qa .nil cU))
   (a5 (cy (cc ZJ aq T.amw T.Os.bG T.acF (ak (aa 3) (ak (aa 4) (ak (aa 5) (ak (aa 6) (ak (aa 7) (ak (aa 8) (ak (aa 9) aF)))))))))))))))))),?_⟩
 have dR:=hd.st;have d_:=hd.fO;have hj:=hd.of;have p':=hd.IQ;have j3:=hd.le;obtain ⟨_,ay,bo,ax,aK⟩:=id R;nofun;refine ⟨_,_,ax,dg.no _ _ _ (by ac_nf),by decide,fun p ar=>?_⟩;have s0:aN H (upd H p (.lst [V.str (ab "car"),V.str (ab "foot"),V.str (ab "tram")])):=bq ar;have ik:dM d.k ∈ [ab "car",ab "foot",ab "tram"]:=by
  have:=hd.k
  match d.k,this with
  | 0,_=>simp [dM]
  | 1,_=>simp [dM]
  | 2,_=>simp [dM]
 refine ⟨q,row,_,0,dM d.k,p,[ab "car",ab "foot",ab "tram"],rfl,R.same s0,rfl,av.of db,ik,fun H1 s1 cB kk=>?_⟩;have cq:c3 q H H1:=(c3.of s0).trans s1;have ju:=cB bE.upd;nofun;refine ⟨q,row,_,1,wl,ds,d.name,rfl,kk,rfl,hd.nm,eU.yi cq R,gg,wB,ju,fun aB s2 j8 fb=>?_⟩;obtain ⟨_,xy,HM,f2,g2⟩:=id fb;have d9:=cq.trans s2;nofun;refine ⟨_,_,f2,dg.no _ _ _ (by ac_nf),⟨q,row,_,2,num d.start,0,n - 1,d.start,rfl,fb,rfl,rg (by omega) (by omega) (by omega) (by omega),j8,fun bw s3 dp nq=>?_⟩⟩;have gT:=d9.trans s3;have uR:=dp j8;nofun;refine ⟨q,row,_,3,n,d.start,d.fin,rfl,nq,rfl,dR,d_,hd.ne,aQ.2,uR,fun cI s4 R8 m4=>?_⟩;obtain ⟨_,HF,anb,f4,tA⟩:=id m4;have dU:=gT.trans s4;nofun;refine ⟨_,_,f4,dg.no _ _ _ (by ac_nf),⟨q,row,_,4,num d.off,0,30,d.off,rfl,m4,rfl,rg (by omega) (by omega) (by omega) (by omega),R8,fun dj s5 hh qv=>?_⟩⟩;obtain ⟨_,anD,aow,fg,Sj⟩:=id qv;have eX:=dU.trans s5;have Q':=hh R8;nofun;refine ⟨_,_,fg,dg.no _ _ _ (by ac_nf),⟨q,row,_,5,num d.near,0,30,d.near,rfl,qv,rfl,rg (by omega) (by omega) (by omega) (by omega),Q',fun hc l6 ja uX=>?_⟩⟩;obtain ⟨_,aoE,ao8,nN,V0⟩:=id uX;have c7:=eX.trans l6;have Vg:=ja Q';nofun;refine ⟨_,_,nN,dg.no _ _ _ (by ac_nf),⟨q,row,_,6,num d.least,1,60,d.least,rfl,uX,rfl,rg (by omega) (by omega) (by omega) (by omega),Vg,fun f3 l9 kK Uw=>?_⟩⟩;obtain ⟨_,anv,ao3,mi,KN⟩:=id Uw;have dt:=c7.trans l9;have Ze:=kK Vg;nofun;refine ⟨_,_,mi,dg.no _ _ _ (by ac_nf),⟨q,row,_,7,rfl,Uw,rfl,?_⟩⟩;nofun;refine ⟨d,rfl,hd.k,fun x iS iH oS Lp Di=>?_⟩;refine k_ x iS (dt.trans (c3.of iH)) (oS Ze) Lp ?_;cases jJ:H x with
 | none=>rfl
 | some u=>
  by_cases Wl:x=q
  .subst Wl;rw [mi] at Di;cases Di
  .rw [dt x u Wl jJ] at Di;cases Di
noncomputable abbrev tm:List Str:=[ab "places",ab "ways",ab "numbers"]
noncomputable def pn (n:Int) (wl aH:Addr):List (Str × V):=[(ab "places",.int n),(ab "ways",.ref wl),(ab "numbers",.ref aH)]
theorem BJ (n:Int) (wl aH:Addr):(pn n wl aH).map (·.1)=tm:=rfl
noncomputable def nm (ds:List a3) (i:Nat):Str:=((ds[i]?).map (·.name)).getD (ab "")
noncomputable def mW (ds:List a3) (i:Nat):List (Key × V):=(dw i).map fun j=>(bH (nm ds j),V.int j)
theorem mS (h:ds[i]? = some d):nm ds i=d.name:=by unfold nm;rw [h];rfl
theorem vp (h:(ds.map (·.name)).Nodup) (ah:i < ds.length) (aJ:j < ds.length) (e:nm ds i=nm ds j):i=j:=by
 rw [mS (aZ ah),mS (aZ aJ)] at e;have:=(Fx (xs:=ds.map (·.name)) (i:=i) (j:=j) (h₀:=by rw [aP];exact ah) (h₁:=by rw [aP];exact aJ) h).mp (by rw [Fm,Fm];exact e);exact this
theorem YA (h:(ds.map (·.name)).Nodup):∀ {n:Nat},i < n->n <= ds.length->cR (mW ds n) (bH (nm ds i))=some (.int i):=by
 intro n
 induction n with
 | zero=>intro ah _;omega
 | succ n cE=>
  intro ah aQ;unfold mW cR;rw [q5,e5,List.find?_append];by_cases c:i < n
  .have:=cE c (by omega);unfold mW cR at this;cases e:X6 (fun dm=>decide (dm.fst=bH (nm ds i))) (sS (fun j=>((bH (nm ds j):Key),V.int j)) (dw n)) with
   | none=>rw [e] at this;cases this
   | some p=>rw [e] at this;exact this
  .have e:i=n:=by omega
   subst e;have no:X6 (fun dm=>decide (dm.fst=bH (nm ds i))) (sS (fun j=>((bH (nm ds j):Key),V.int j)) (dw i))=none:=by
    rw [Yb];intro p ar;obtain ⟨j,aJ,rfl⟩:=bJ.mp ar;have gI:=g7.mp aJ;simp only [decide_eq_true_eq];intro z;have:=vp h (by omega) (by omega) (sq z);omega
   rw [no];simp
theorem Xg (h:(ds.map (·.name)).Nodup) (aQ:n < ds.length):eg (mW ds n) (bH (nm ds n)) (.int n)=mW ds (n + 1):=by
 unfold eg;have no:((mW ds n).any fun dm=>decide (dm.1=bH (nm ds n)))=false:=by
  rw [D6];intro p ar;obtain ⟨j,aJ,rfl⟩:=bJ.mp ar;have gI:=g7.mp aJ;simp only [decide_eq_true_eq];intro z;have:=vp h (by omega) aQ (sq z);omega
 rw [no];unfold mW;rw [q5,e5];rfl
theorem wQ (a:aN H H1) (b:c3 q H1 aB) (n:H q=none):aN H aB:=fun c u e=>b c u (Db e n) (a c u e)
theorem HP {t:b7} {p q:Addr} {k l:Nat} (a:dg t H p i ws k) (b:dg t H q j vs l) (n:i ≠ j):p ≠ q:=fun z=>by
 subst z;obtain ⟨_,ay,bo,ax,_⟩:=a;obtain ⟨_,hL,aca,aK,_⟩:=b;rw [ax] at aK;have bU:=ei aK;injection bU with _ _ eW;unfold mR at eW;injection eW with fR _;injection fR with _ e0;injection e0 with h5;exact n h5
theorem T' {t:b7} {p q:Addr} (a:fa t H p d) (b:dg t H q j vs l):p ≠ q:=fun z=>by
 subst z;obtain ⟨_,ay,ax⟩:=a;obtain ⟨_,hL,aca,aK,_⟩:=b;rw [ax] at aK;have bU:=ei aK;injection bU with _ _ eW;exact absurd (congrArg ry eW) (by show ¬ (7:Nat)=3;decide)
def f6 (t:b7) (H:aw) (c:Addr) (n:Int) (ds:List a3):Prop:=
 ((ds.map (·.name)).Nodup/\ds.length <= 12)/\∃ ay wl aH,H c=some (.ins t.h3 ay (pn n wl aH))/\oj t H wl ds/\H aH=some (.bu (mW ds ds.length))
theorem f6.same {t:b7} (h:f6 t H c n ds) (s:aN H I):f6 t I c n ds:=by
 obtain ⟨h0,ay,wl,aH,ax,aK,bU⟩:=h;exact ⟨h0,ay,wl,aH,s _ _ ax,aK.same s,s _ _ bU⟩
theorem kF (n:Int) (wl aH:Addr) (h:tm.contains m=false):(pn n wl aH).lookup m=none:=Tm tm (BJ ..) h
section
variable {w:World} {K:bk} {mg:Str->Option Value} {t:b7} {H:aw} {c ay wl aH:Addr} {n:Int}
theorem abS (T:Txt w K mg t) (e:H c=some (.ins t.h3 ay (pn n wl aH))):gm K H c (ab "places") (.int n):=⟨_,ay,_,e,T.lc,T.PL,gY tm 0 (BJ ..) (by ac_nf) rfl⟩
theorem Uu (T:Txt w K mg t) (e:H c=some (.ins t.h3 ay (pn n wl aH))):gm K H c (ab "ways") (.ref wl):=⟨_,ay,_,e,T.lc,T.U7,gY tm 1 (BJ ..) (by ac_nf) rfl⟩
theorem GP (T:Txt w K mg t) (e:H c=some (.ins t.h3 ay (pn n wl aH))):gm K H c (ab "numbers") (.ref aH):=⟨_,ay,_,e,T.lc,T.UM,gY tm 2 (BJ ..) (by ac_nf) rfl⟩
end
def PC (t:b7):bW:=fun vs H Q _=>∃ c ay n wl ds,vs=[.ref c,.int n,.ref wl]/\H c=some (.ins t.h3 ay [])/\oj t H wl ds/\(ds.map (·.name)).Nodup/\ds.length <= 12/\aL H /\
 ∀ I,c3 c H I->aL I->f6 t I c n ds->Q .b4 I
def Uk (t:b7):bW:=fun vs H Q _=>∃ n ds,vs=[.str (qe n ds)]/\sR n ds/\aL H/\∀ c I,aN H I->aL I->f6 t I c n ds->Q (.ref c) I
def Qz (t:b7):bW:=fun vs H Q _=>∃ c n ds,vs=[.ref c]/\f6 t H c n ds/\∀ p,H p=none->Q (.ref p) (upd H p (.lst (aW (ds.map (·.name)))))
def aki (t:b7):bW:=fun vs H Q _=>∃ c n ds,∃ i:Nat,∃ d,vs=[.ref c,.str d.name]/\f6 t H c n ds/\ds[i]? = some d/\Q (.int (i:Nat)) H
def Py (t:b7):bW:=fun vs H Q _=>∃ c n ds,∃ i:Nat,∃ d,vs=[.ref c,.str d.name]/\f6 t H c n ds/\ds[i]? = some d/\∀ a,fa t H a d->Q (.ref a) H
theorem WX:cA P base T 1 t.wm t.Dw Df (PC t):=by
 exists T.On.ok KG,9
 obtain ⟨c,ay,n,wl,ds,rfl,aA,eU,eu,gg,bE,q⟩:=h;have bC:=gO aq;refine ⟨_,(aS (fu (aa 0) (aa 1) rfl)
   (aS (fu (aa 0) (aa 2) rfl)
   (aS (fu (aa 0) ya rfl)
   (a5 (ft fq rfl (A' rfl T.CC (ak (aa 2) aF)) (mr (K:=K) (n:=2) rfl rfl (fC (b9 (i:=3) KG.aH) (fC (b9 (i:=4) KG.aH) mx))) (a5 (so bC (bN (aa 0) rfl) (bN (aa 4) rfl) (aa 3) rfl))))))),?_⟩
 nofun;refine ⟨_,_,_,aA,T.lc,T.PL,by decide,?_⟩;refine ⟨_,_,_,db,T.lc,T.U7,hq (n:=999) (by decide),fun aH aQ=>?_⟩;simp only [rM] at aQ ⊢;rw [show c9 (ab "places") (V.int n) ([]:List (Str × V))=[(ab "places",V.int n)] from rfl,show c9 (ab "ways") (V.ref wl) [(ab "places",V.int n)]=[(ab "places",V.int n),(ab "ways",V.ref wl)] from gU [ab "places"] rfl (by ac_nf)] at aQ ⊢;have z4:c ≠ aH:=fun z=>by subst z;rw [db] at aQ;cases aQ
 refine ⟨t.h3,ay,[(ab "places",V.int n),(ab "ways",V.ref wl)],by rw [aG z4];exact db,T.lc,T.UM,show (2:Nat) < 1000 by decide,?_⟩;rw [show c9 (ab "numbers") (V.ref aH) [(ab "places",V.int n),(ab "ways",V.ref wl)]=pn n wl aH from gU [ab "places",ab "ways"] rfl (by ac_nf)];obtain ⟨as,dH,dI,al⟩:=eU;have NU:H aH=none:=by rw [aG (dJ z4)] at aQ;exact aQ
 have jr:c3 c H (upd (upd (upd H c (.ins t.h3 ay [(ab "places",V.int n),(ab "ways",V.ref wl)])) aH (.bu [])) c (.ins t.h3 ay (pn n wl aH))):=fun b u ae e=>by
  rw [aG ae,aG (Db e NU),aG ae];exact e
 have Hl:wl ≠ c:=bK dH aA (by intro z;cases z);refine ⟨⟨_,av.of (jr _ _ Hl dH)⟩,?_⟩;refine dY.enum (xs:=as.map V.ref) (fun i σ I=>(∃ x y,σ=[some (V.ref c),some (V.int n),some (V.ref wl),x,y])/\I c=some (.ins t.h3 ay (pn n wl aH))/\I aH=some (.bu (mW ds i))/\c3 c H I/\aL I) ?_ ?_ ?_ ?_
 .exact ⟨⟨_,_,rfl⟩,db,by rw [aG (dJ z4),db];rfl,jr,((bE.upd).upd).upd⟩
 .rintro i σ I ah bf;ac_rfl
  obtain ⟨_,_,_,qw,_⟩:=bf;subst aY;exact av.of (qw _ _ Hl dH)
 .rintro i v σ I p aI ⟨⟨x,y,rfl⟩,af,ao,qw,kl⟩ ar;obtain ⟨a,aR,rfl⟩:=bZ aI;obtain ⟨ah,_⟩:=cv.mp aR;have lu:i < ds.length:=by omega
  have hd:ds[i]? = some ds[i]:=aZ lu;have jA:fa t H a ds[i]:=al i a _ aR hd;have JL:a ≠ c:=by
   obtain ⟨_,hL,e⟩:=jA;intro z;subst z;rw [aA] at e;have aK:=ei e;injection aK with _ _ bU;exact absurd (congrArg ry bU) (by show ¬ (0:Nat)=7;decide)
  have ac5:fa t I a ds[i]:=⟨jA.1,jA.2.imp fun hL e=>qw _ _ JL e⟩;have sp:aN I (upd I p (.tup [.int i,.ref a])):=bq ar;refine zO ?_;nofun;refine ⟨_,GP T (sp _ _ af),_,(ac5.same sp).E4 T,_,rfl,_,ly.k (k:=bH ds[i].name) (sp _ _ ao) (hg (show (mW ds i).length <= 12 by unfold mW;rw [aP,kH];omega) (by decide)),?_⟩;rw [<- mS hd,Xg eu lu];refine ⟨⟨_,rfl⟩,?_,db,fun b u ae e=>?_,(kl.upd).upd⟩
  .rw [aG z4];exact sp _ _ af
  .rw [aG (Db e NU)];exact sp _ _ (qw b u ae e)
 .rintro σ I bf;ac_rfl
  obtain ⟨⟨x,y,rfl⟩,af,ao,qw,kl⟩:=bf;subst aY;nofun;rw [aP,dI] at ao;refine q I qw kl ⟨⟨eu,gg⟩,ay,wl,aH,af,⟨as,qw _ _ Hl dH,dI,fun i a d bj cS=>?_⟩,ao⟩;have jA:=al i a d bj cS;have JL:a ≠ c:=by
   obtain ⟨_,hL,e⟩:=jA;intro z;subst z;rw [aA] at e;have aK:=ei e;injection aK with _ _ bU;exact absurd (congrArg ry bU) (by show ¬ (0:Nat)=7;decide)
  exact ⟨jA.1,jA.2.imp fun hL e=>qw _ _ JL e⟩
theorem amu:cA P base T 1 t.AR t.LK j2 (aki t):=by
 exists T.Qd.ok agr,9
 obtain ⟨c,n,ds,i,d,rfl,⟨⟨eu,gg⟩,ay,wl,aH,ax,aK,bU⟩,hd,q⟩:=h;have bC:=gO aq;have aI:cR (mW ds ds.length) (bH d.name)=some (.int i):=by
  rw [<- mS hd];exact YA eu (cv.mp hd).1 (b8 _)
 have bp:gM H aH (.str d.name) (some (.int i)):=by rw [<- aI];exact gM.k (k:=bH d.name) bU
 refine ⟨_,(aS (dP (vN (Sl bC (aa 1) (bN (aa 0) rfl))) (a5 oB) ek)
   (a5 (cy (o4 bC (bN (aa 0) rfl) (aa 1) (fun _ _=>rfl))))),?_⟩
 nofun;refine dO false (fun Q a0=>?_) (fun aA=>nomatch aA) (fun _=>?_)
 .nofun;refine ⟨_,GP T ax,_,rfl,_,bp,?_⟩;exact a0
 .nofun;exact ⟨_,GP T ax,_,rfl,_,bp,q⟩
theorem rH:cA P base T 2 t.wJ t.zm j2 (Py t):=by
 refine cH (amu T) fun ac'=>?_;exists T.RW.ok Y2,9
 obtain ⟨c,n,ds,i,d,rfl,C,hd,q⟩:=h;obtain ⟨⟨eu,gg⟩,ay,wl,aH,ax,⟨as,dH,dI,al⟩,bU⟩:=id C;refine ⟨_,(a5 (cy (bh bO (bN (aa 0) rfl) (fN (aa 0) T.lc T.aa6 ac' aq T.abT .nil cU (ak (aa 1) aF))))),?_⟩;nofun;refine ⟨_,Uu T ax,_,_,ax,kF _ _ _ (by ac_nf),⟨c,n,ds,i,d,rfl,C,hd,?_⟩⟩;have ah:i < as.length:=by rw [dI];exact (cv.mp hd).1
 have aR:as[i]? = some as[i]:=aZ ah;nofun;refine ⟨_,av.of dH,_,bt (show (as.map V.ref)[i]? = some (V.ref as[i]) by rw [cN,aR];rfl),?_⟩;exact q as[i] (al i _ d aR hd)
theorem ah2:cA P base T 7 t.AQ t.Dv ["text"] (Uk t):=by
 have F1:cK P w K mg base dE 6 t.xr t.xT ["text"] (Ku t):=(Q0 T).mono (by decide);have ZK:cK P w K mg base dE 6 t.BZ t.im ["reader"] (QC t):=(ac_ T).mono (by decide);have aes:cK P w K mg base dE 6 t.y1 t.Cn AX (TH t):=aiY T;have aga:cK P w K mg base dE 5 t.wm t.Dw Df (PC t):=(WX T).mono (by decide);exists T.Jo.ok Re,9
 obtain ⟨n,ds,rfl,dy,bE,k_⟩:=h;refine ⟨_,(aS (cF (i:=1) Re.aH (cc F1 aq T.MU T.yR.bG T.Mt (ak (aa 0) aF)))
   (aS (cF (i:=2) Re.aH (cc ZK aq T.aiv T.H4.bG T.akz (ak (bh bO (aa 1) aD) aF)))
   (aS (cF (i:=3) Re.aH (gL aF))
   (aS (ft fq rfl (d6 (am Sm (aa 1) (sN aD) r')) (b9 (i:=4) Re.aH) (aS (dP (cY eE (eT gj rfl T.fP fZ (ak (aa 3) aF)) (mE rfl T.aeA T.ak0) (cu _)) (a5 oB) ek)
   (a5 (ee (gk ip kr lx ks (aa 3) (ak (cc aes aq T.ahK T.GS.bG T.aeJ (ak (aa 4) (ak (aa 2) (ak (aa 3) aF)))) aF))))))
   (aS (dP (yE (zZ (aa 3) (fun _=>rfl))) (a5 oB) ek)
   (a5 (cy (sr T.X8 aga aq rfl T.agZ T.afj .nil cU (ak (aa 2) (ak (aa 3) aF)))))))))),?_⟩
 have tX:=afY dy;have hlen:=XD dy;have NY:=dy.nn;have YF:=dy.ln;nofun;refine ⟨qe n ds,rfl,by omega,?_,bE,fun p H1 tx h6 R=>?_⟩
 .rw [tX];intro r aq;refine ⟨?_,fun x aj=>cP (dy.plain r aq x aj).1 (by decide)⟩;rcases fx.mp aq with rfl | aq
  .show (2:Nat) <= 1000;decide
  .obtain ⟨d,hd,rfl⟩:=bJ.mp aq;show (7:Nat) <= 1000;decide
 rw [tX] at R;obtain ⟨qs,ar,g4,j1,A6⟩:=R;have MD:qs.length=ds.length + 1:=by rw [j1];simp [Fk]
 obtain ⟨rR,mb,rfl⟩:∃ rR mb,qs=rR :: mb:=by
  cases qs with
  | nil=>simp at MD
  | cons a b=>exact ⟨a,b,rfl⟩
 obtain ⟨Bh,G_⟩:=A6 0 rR _ rfl rfl;nofun;refine ⟨_,av.of ar,_,bt (j:=0) rfl,⟨rR,_,n,rfl,Bh,NY,h6,fun aB s2 oP=>⟨gv _,fun wl gn=>?_⟩⟩⟩;obtain ⟨aov,am8,ana,ajo⟩:=Bh.ins;have afX:p ≠ rR:=bK ar ajo (by intro z;cases z);have fU:aB p=some (.lst ((rR :: mb).map V.ref)):=s2 _ _ afX ar;have HO:aN aB (upd aB wl (.lst [])):=bq gn;have Fg:nC ((rR :: mb).map V.ref) (some 1) none=mb.map V.ref:=by
  unfold nC;simp [gD.di];exact R7 (by rw [aP];exact b8 _)
 refine ⟨_,av.of (HO _ _ fU),fun pc Li=>?_⟩;rw [Fg];have hW:pc ≠ wl:=fun z=>by subst z;rw [db] at Li;cases Li
 have HI:aN (upd aB wl (.lst [])) (upd (upd aB wl (.lst [])) pc (.lst (mb.map V.ref))):=bq Li;refine ⟨⟨_,av.of db⟩,?_⟩;have Pr:aN H aB:=wQ tx s2 G_;have afa:mb.length=ds.length:=by simpa using MD
 refine dY.list (xs:=mb.map V.ref) (fun i σ I=>(∃ x,σ=[some (V.str (qe n ds)),some (V.ref p),some (V.int n),some (V.ref wl),x])/\aL I/\aN H I/\I pc=some (.lst (mb.map V.ref))/\H wl=none/\oj t I wl (ds.take i) /\
  ∀ (j:Nat) (q:Addr) (d:a3),i <= j->mb[j]? = some q->ds[j]? = some d->dg t I q ((j + 1:Nat):Int) (n5 d) 0/\H q=none) ?_ ?_ ?_ ?_
 .refine ⟨⟨_,rfl⟩,(oP.upd).upd,(Pr.trans HO).trans HI,db,Pr.free gn,⟨[],HI _ _ db,rfl,fun j a d h=>by simp at h⟩,fun j q d _ af ao=>?_⟩;have aq:(Fk n ds)[j + 1]? = some (n5 d):=by
   unfold Fk;rw [yn,cN,ao];rfl
  obtain ⟨pv,e_⟩:=A6 (j + 1) q _ (by rw [yn];exact af) aq;refine ⟨((pv.yi s2 (HP pv Bh (by omega)) Bh.ins).same HO).same HI,e_⟩
 .rintro i σ I ah bf;ac_rfl
  obtain ⟨_,_,_,h,_⟩:=bf;subst aY;exact av.of h
 .rintro i v σ I aI bf;ac_rfl
  obtain ⟨⟨x,rfl⟩,kl,m6,Gl,Kr,W,Rs⟩:=bf;obtain ⟨q,aU,rfl⟩:=bZ aI;obtain ⟨ah,_⟩:=cv.mp aU;have lu:i < ds.length:=by omega
  have hd:ds[i]? = some ds[i]:=aZ lu;obtain ⟨oo,iv⟩:=Rs i q _ (b8 _) aU hd;have jk:(ds.take i).length=i:=by rw [hE];omega
  obtain ⟨as,dH,dI,al⟩:=id W;subst aY;nofun;refine dO false (fun Q a0=>?_) (fun aA=>nomatch aA) (fun _=>?_)
  .nofun;refine ⟨_,.inl (av.of dH),?_⟩;rw [aP,dI,jk];rw [decide_eq_false (by omega)] <;> exact a0
  .nofun;refine ⟨.inl ⟨_,av.of dH⟩,?_⟩;refine ⟨q,_,n,wl,ds.take i,ds[i],rfl,oo,dy.al _ (fM lu),NY,W,by omega,fun e he z=>?_,kl,fun y bw s3 x7 fQ O1=>?_⟩
   .obtain ⟨j,aJ,rfl⟩:=tI he;rw [List.getElem_take] at z;have gI:j < i:=by omega
    have:=vp dy.aH (i:=j) (j:=i) (by omega) lu (by rw [mS (aZ (by omega)),mS hd];exact z);omega
   .nofun;obtain ⟨aoF,zj,apC,f'⟩:=oo.ins;have jy:wl ≠ q:=bK dH f' (by intro z;cases z);have Em:bw wl=some (.lst (as.map V.ref)):=s3 _ _ jy dH;have ahx:aN H bw:=wQ m6 s3 iv;refine ⟨_,Em,hg (show (as.map V.ref).length <= 12 by rw [aP];omega) (by decide),?_⟩;have ain:y ≠ wl:=fun z=>by
     subst z;rw [dH] at O1;cases O1
    refine ⟨⟨_,rfl⟩,x7.upd,fun b u e=>?_,?_,Kr,⟨as ++ [y],by rw [db,e5];rfl,?_,fun j a d af ao=>?_⟩,fun j eI d aJ af ao=>?_⟩
    .rw [aG (Db e Kr)];exact ahx _ _ e
    .rw [aG hW];exact s3 _ _ (bK Gl f' (by intro z;cases z)) Gl
    .rw [dZ,dI,jk,hE];show i + 1=_;omega
    .by_cases aJ:j < as.length
     .rw [xB aJ] at af;have afi:(ds.take i)[j]? = some d:=by
       rw [u7 (by omega)];rw [u7 (by omega)] at ao;exact ao
      obtain ⟨au,hL,e⟩:=al j a d af afi;have aeL:a ≠ q:=T' ⟨au,hL,e⟩ oo;have acu:a ≠ wl:=bK e dH (by intro z;cases z);exact ⟨au,hL,by rw [aG acu];exact s3 _ _ aeL e⟩
     .rw [vd (by omega)] at af;have qo:j - as.length=0:=by
       cases fY:j - as.length with
       | zero=>rfl
       | succ m=>rw [fY] at af;simp at af
      rw [qo] at af;have bU:y=a:=by simpa using af
      subst bU;have eW:j=i:=by omega
      subst eW;rw [u7 (by omega),hd] at ao;cases ao;exact ⟨fQ.1,fQ.2.imp fun hL e=>by rw [aG ain];exact e⟩
    .obtain ⟨pv,e_⟩:=Rs j eI d (by omega) af ao;have nq:=pv.yi s3 (HP pv oo (by omega)) oo.ins;refine ⟨?_,e_⟩;obtain ⟨aO,hL,bo,ax,aK⟩:=nq;refine ⟨aO,hL,bo,by rw [aG (bK ax Em (by intro z;cases z))];exact ax,?_⟩;rw [aG (fun z=>by
      subst z;rw [Em] at aK;have fR:=ei aK;injection fR with e0;cases as with
      | nil=>exact absurd (congrArg ry e0) (by show ¬ (0:Nat)=7;decide)
      | cons a r=>injection e0 with h5 _;cases h5)]
     exact aK
 .rintro σ I bf;ac_rfl
  obtain ⟨⟨x,rfl⟩,kl,m6,Gl,Kr,W,Rs⟩:=bf;subst aY;rw [aP,afa,gF] at W;obtain ⟨as,dH,dI,al⟩:=id W;nofun;refine dO false (fun Q a0=>?_) (fun aA=>nomatch aA) (fun _=>?_)
  .nofun;refine ⟨true,.inl ⟨_,av.of dH,?_⟩,a0⟩;cases as with
   | nil=>simp at dI;omega
   | cons a r=>rfl
  .nofun;intro c ay aA vX ct;have sc:aN I (upd (upd I ay (.own c)) c (.ins t.h3 ay [])):=((aN.refl I).ff vX).ff aA;refine ⟨c,ay,n,wl,ds,rfl,db,W.same sc,dy.aH,YF.2,(kl.upd).upd,fun dj s5 w3 DT=>⟨rfl,?_⟩⟩;exact k_ c dj (wQ (m6.trans sc) s5 (m6.free aA)) w3 DT
theorem xX:cA P base T 1 t.yj t.yT ["self"] (Qz t):=by
 exists T.VJ.ok abP,9
 obtain ⟨c,n,ds,rfl,⟨⟨eu,gg⟩,ay,wl,aH,ax,⟨as,dH,dI,al⟩,bU⟩,q⟩:=h;refine ⟨_,(a5 (cy (fT rfl (d6 (bN (aa 0) rfl)) (ac (sc:=bB Eo) rfl (by ac_nf)) (N:=["way"]) (sel:=[none]) (fw (M:=["self"]) (by ac_nf)) (eO.of (fun _ _ _ _=>(b9 (i:=0) (d1 (N:=["way"]) (by ac_nf) rfl))) (fun _ _ _ _=>⟨_,hO,by walk_at "B"⟩) (fun _ _ _ _=>⟨_,(bN (aa 0) rfl),by walk_at "B"⟩))))),?_⟩;nofun;refine ⟨_,Uu T ax,_,rfl,⟨_,av.of dH⟩,?_⟩;refine Gc.lg (xs:=as.map V.ref) (zs:=aW (ds.map (·.name))) (av.of dH) (by rw [aP,dI];exact cP gg (by decide)) (by rw [eY,aP,aP,dI]) (fun i v z N aI fX bb=>?_) (fun p ar=>q p ar);obtain ⟨a,aR,rfl⟩:=bZ aI;obtain ⟨x,aj,rfl⟩:=bZ fX;obtain ⟨d,hd,rfl⟩:=bZ aj;nofun;exact ⟨Sub.name,_,(al i a d aR hd).E4 T,bb⟩
theorem AD {n s p:Int} (h0:0 <= s) (af:s < n) (ao:0 <= p) (bj:p < n):(p - s) % n=if s <= p then p - s else p - s + n:=by
 split
 .rename_i h;exact xN (by omega) (by omega)
 .rename_i h;have e:(p - s) % n=(p - s + n) % n:=(Int.add_emod_right ..).symm;rw [e];exact xN (by omega) (by omega)
noncomputable def k5 (n s f p:Int):Bool:=decide (0 < (p - s) % n) && decide ((p - s) % n < (f - s) % n)
noncomputable def sX (n s f s2 f2:Int):Bool:=decide (f=f2) || (if (s2=s\/s2=f)\/(f2=s\/f2=f) then false else (k5 n s f s2 != k5 n s f f2))
theorem z8 {s f p:Int} (af:p ≠ s) (ao:p ≠ f) (bj:s ≠ f):((decide (s < f) && decide (f < p) && !decide (s < p)) || (!decide (s < f) && !decide (f < p) && decide (s < p)))=false:=by
 by_cases a:s < f <;> by_cases b:f < p
 .rw [decide_eq_true a,decide_eq_true b,decide_eq_true (show s < p by omega)];rfl
 .rw [decide_eq_true a,decide_eq_false b];rfl
 .rw [decide_eq_false a,decide_eq_true b];rfl
 .rw [decide_eq_false a,decide_eq_false b,decide_eq_false (show ¬ s < p by omega)];rfl
theorem uJ {s p:Int} (h:s ≠ p):decide (p < s) = !decide (s < p):=by
 by_cases a:s < p
 .rw [decide_eq_true a,decide_eq_false (by omega)];rfl
 .rw [decide_eq_false a,decide_eq_true (by omega)];rfl
theorem zP {n s f p:Int} (aC:0 <= s/\s < n) (hf:0 <= f/\f < n) (ar:0 <= p/\p < n) (af:p ≠ s) (ao:p ≠ f) (bj:s ≠ f):k5 n s f p=((decide (s < p) && decide (p < f)) || (decide (p < f) && decide (f < s)) || (decide (f < s) && decide (s < p))):=by
 unfold k5;rw [AD aC.1 aC.2 ar.1 ar.2,AD aC.1 aC.2 hf.1 hf.2,decide_eq_true (show 0 < (if s <= p then p - s else p - s + n) by split <;> omega),ky,uJ bj];by_cases a:s < p <;> by_cases b:s < f
 .rw [if_pos (by omega),if_pos (by omega),decide_eq_true a,decide_eq_true b,show decide (p - s < f - s)=decide (p < f) from decide_eq_decide.mpr (by omega)];cases decide (p < f) <;> rfl
 .rw [if_pos (by omega),if_neg (by omega),decide_eq_true a,decide_eq_false b,decide_eq_true (show p - s < f - s + n by omega)];cases decide (p < f) <;> rfl
 .rw [if_neg (by omega),if_pos (by omega),decide_eq_false a,decide_eq_true b,decide_eq_false (show ¬ p - s + n < f - s by omega)];cases decide (p < f) <;> rfl
 .rw [if_neg (by omega),if_neg (by omega),decide_eq_false a,decide_eq_false b,show decide (p - s + n < f - s + n)=decide (p < f) from decide_eq_decide.mpr (by omega)];cases decide (p < f) <;> rfl
theorem aan:∀ a b c d e g:Bool,((a && d && !b) || (!a && !d && b))=false->((a && e && !c) || (!a && !e && c))=false->((b && g && !c) || (!b && !g && c))=false->((d && g && !e) || (!d && !g && e))=false ->
  (((b && !d) || (!d && !a) || (!a && b)) != ((c && !e) || (!e && !a) || (!a && c)))=(((!b && c) || (c && !g) || (!g && !b)) != ((!d && e) || (e && !g) || (!g && !d))):=by ac_nf
theorem aks (aC:0 <= s/\s < n) (hf:0 <= f/\f < n) (jT:0 <= s2/\s2 < n) (EG:0 <= f2/\f2 < n) (ct:s ≠ f) (wY:s2 ≠ f2):sX n s f s2 f2=sX n s2 f2 s f:=by
 unfold sX;by_cases e:f=f2
 .rw [decide_eq_true e,decide_eq_true e.symm];rfl
 .rw [decide_eq_false e,decide_eq_false (dJ e)];by_cases c:(s2=s\/s2=f)\/(f2=s\/f2=f)
  .have c':(s=s2\/s=f2)\/(f=s2\/f=f2):=by omega
   rw [if_pos c,if_pos c']
  .have c':¬ ((s=s2\/s=f2)\/(f=s2\/f=f2)):=by omega
   rw [if_neg c,if_neg c'];have cB:s2 ≠ s:=by omega
   have cD:s2 ≠ f:=by omega
   have dp:f2 ≠ s:=by omega
   have dK:f2 ≠ f:=by omega
   rw [lr,lr,zP aC hf jT cB cD ct,zP aC hf EG dp dK ct,zP jT EG aC cB.symm dp.symm wY,zP jT EG hf cD.symm dK.symm wY,uJ cB.symm,uJ cD.symm,uJ dK.symm,uJ ct,uJ wY];exact aan _ _ _ _ _ _ (z8 cB cD ct) (z8 dp dK ct) (z8 dp wY.symm cB.symm) (z8 dK wY.symm cD.symm)
noncomputable abbrev mt (n:Int) (d e:a3):Bool:=sX n d.start d.fin e.start e.fin
def N9 (t:b7):bW:=fun vs H Q _=>∃ a d n p,vs=[.int n,.ref a,.int p]/\fa t H a d/\0 < n/\Q (.br (k5 n d.start d.fin p)) H
noncomputable def yx (n:Int) (d e:a3):Bool:=if (e.start=d.start\/e.start=d.fin)\/(e.fin=d.start\/e.fin=d.fin) then false else (k5 n d.start d.fin e.start != k5 n d.start d.fin e.fin)
def ak5 (t:b7):bW:=fun vs H Q _=>∃ a b d e n,vs=[.int n,.ref a,.ref b]/\fa t H a d/\fa t H b e/\0 < n/\aL H/\Q (.br (yx n d e)) H
def acI (t:b7):bW:=fun vs H Q _=>∃ a b d e n,vs=[.int n,.ref a,.ref b]/\fa t H a d/\fa t H b e/\0 < n/\∀ I,aN H I->Q (.br (yx n d e)) I
def N8 (t:b7):bW:=fun vs H Q _=>∃ c n ds,∃ i j:Nat,∃ d e,vs=[.ref c,.str d.name,.str e.name]/\f6 t H c n ds/\0 < n/\ds[i]? = some d/\ds[j]? = some e/\aL H/\Q (.br (mt n d e)) H
theorem XI:cA P base T 1 t.Cf t.B' yL (N9 t):=by
 exists T.zx.ok Ug,9
 obtain ⟨a,d,n,p,rfl,W,aQ,q⟩:=h;refine ⟨_,(aS (cF (i:=3) Ug.aH (bI jS (bI lS (aa 2) (bN (aa 1) rfl)) (aa 0)))
   (a5 (cy (x9 (hb lp aD (aa 3) (cu _)) (um (hb lp (aa 3) (bI jS (bI lS (bN (aa 1) rfl) (bN (aa 1) rfl)) (aa 0)) (cu _))))))),?_⟩
 nofun;refine ⟨_,W.tV T,_,rfl,aQ,?_⟩;unfold k5 at q;by_cases c:0 < (p - d.start) % n
 .rw [if_pos (decide_eq_true c)];rw [decide_eq_true c,ky] at q;exact ⟨_,W.sk T,_,W.tV T,_,rfl,_,rfl,aQ,q⟩
 .rw [if_neg (by simpa using c)];rw [decide_eq_false c,m'] at q;exact q
theorem MP (x a b:Int):qU (.int x) [.int a,.int b]=decide (x=a\/x=b):=by
 unfold qU;simp only [yF,List.any_nil,jf,Nv];rw [ig];simp only [wI,beq_iff_eq,decide_eq_true_eq];omega
theorem acv:cA P base T 2 t.ET t.Js Cs (ak5 t):=by
 refine cK.forget (sp:=acI t) ?_ fun vs H Q E h=>?_
 .have R1:cK P w K mg base dE 1 t.Cf t.B' yL (N9 t):=XI T;exists T.Ft.ok ai3,9
  obtain ⟨a,b,d,e,n,rfl,jA,qr,aQ,q⟩:=h;refine ⟨_,(aS (dP (g5.pt (qg (cY AF (bN (aa 2) rfl) (gL (ak (bN (aa 1) rfl) (ak (bN (aa 1) rfl) aF))) (by with_unfolding_all rfl)) (q6 (cY AF (bN (aa 2) rfl) (gL (ak (bN (aa 1) rfl) (ak (bN (aa 1) rfl) aF))) (by with_unfolding_all rfl))))) (a5 (cy kj)) ek)
   (a5 (cy (hb pP (cc R1 aq T.OF T.zx.bG T.Q8 (ak (aa 0) (ak (aa 1) (ak (bN (aa 2) rfl) aF)))) (cc R1 aq T.OF T.zx.bG T.Q8 (ak (aa 0) (ak (aa 1) (ak (bN (aa 2) rfl) aF)))) (cu _))))),?_⟩
  nofun;refine rL (fun b I=>aN H I/\b=decide ((e.start=d.start\/e.start=d.fin)\/(e.fin=d.start\/e.fin=d.fin))) (fun Q a0=>?_) (fun I ⟨bA,ae⟩=>?_) (fun I ⟨bA,ae⟩=>?_)
  .nofun;refine ⟨_,qr.tV T,_,jA.tV T,_,jA.sk T,by decide,fun p ar=>⟨_,.inl (av.of db),rfl,rfl,?_⟩⟩;have s1:aN H (upd H p (.lst [.int d.start,.int d.fin])):=bq ar;rw [MP];by_cases cf:e.start=d.start\/e.start=d.fin
   .rw [if_pos (decide_eq_true cf)];exact a0 _ _ ⟨s1,(decide_eq_true (.inl cf)).symm⟩
   .rw [if_neg (by simpa using cf)];refine ⟨_,(qr.same s1).sk T,_,(jA.same s1).tV T,_,(jA.same s1).sk T,by decide,fun es fU=>⟨_,.inl (av.of db),rfl,rfl,?_⟩⟩;rw [MP];refine a0 _ _ ⟨s1.trans (bq fU),?_⟩;rw [ig,decide_eq_true_eq,decide_eq_true_eq];exact ⟨.inr,fun z=>z.resolve_left cf⟩
  .nofun;have fv:=of_decide_eq_true ae.symm;have:=q I bA;unfold yx at this;rw [if_pos fv] at this;exact this
  .nofun;have fv:=of_decide_eq_false ae.symm;refine ⟨_,(qr.same bA).tV T,⟨a,d,n,_,rfl,jA.same bA,aQ,?_⟩⟩;refine ⟨_,(qr.same bA).sk T,⟨a,d,n,_,rfl,jA.same bA,aQ,?_⟩⟩;refine ⟨rfl,?_⟩;have:=q I bA;unfold yx at this;rw [if_neg fv] at this;rw [show (!decide (V.br (k5 n d.start d.fin e.start)=V.br (k5 n d.start d.fin e.fin)))=(k5 n d.start d.fin e.start != k5 n d.start d.fin e.fin) by
    cases k5 n d.start d.fin e.start <;> cases k5 n d.start d.fin e.fin <;> rfl]
   exact this
 .obtain ⟨a,b,d,e,n,af,ao,bj,cS,bE,q⟩:=h;exact ⟨bE,a,b,d,e,n,af,ao,bj,cS,fun I bA=>⟨bA,q⟩⟩
theorem W6 (n:Int) (d e:a3):mt n d e=(decide (d.fin=e.fin) || yx n d e):=rfl
theorem Sa:cA P base T 3 t.ZB t.Dq rB (N8 t):=by
 refine cH (rH T) fun kf=>cH (acv T) fun acM=>?_;exists T.KF.ok Le,9
 obtain ⟨c,n,ds,i,j,d,e,rfl,C,aQ,hd,he,bE,q⟩:=h;obtain ⟨_,ay,wl,aH,ax,aK,bU⟩:=id C;refine ⟨_,(aS (cF (i:=3) Le.aH (fN (aa 0) T.lc T.o1 kf aq T.pq .nil cU (ak (aa 1) aF)))
   (aS (cF (i:=4) Le.aH (fN (aa 0) T.lc T.o1 kf aq T.pq .nil cU (ak (aa 2) aF)))
   (a5 (cy (O2 (hb eE (bN (aa 3) rfl) (bN (aa 4) rfl) (cu _)) (um (cc acM aq T.ahX T.Ft.bG T.YG (ak (bN (aa 0) rfl) (ak (aa 3) (ak (aa 4) aF)))))))))),?_⟩
 rw [W6] at q;nofun;refine ⟨_,_,ax,kF _ _ _ (by ac_nf),⟨c,n,ds,i,d,rfl,C,hd,fun a jA=>?_⟩⟩;nofun;refine ⟨_,_,ax,kF _ _ _ (by ac_nf),⟨c,n,ds,j,e,rfl,C,he,fun b qr=>?_⟩⟩;nofun;refine ⟨_,jA.sk T,_,qr.sk T,rfl,?_⟩;nofun;by_cases cf:d.fin=e.fin
 .rw [if_pos (decide_eq_true cf)];rw [decide_eq_true cf,pY] at q;exact q
 .rw [if_neg (by simpa using cf)];rw [decide_eq_false cf,lr] at q;exact ⟨_,abS T ax,⟨a,b,d,e,n,rfl,jA,qr,aQ,bE,q⟩⟩
def Q5 (t:b7):bW:=fun vs H Q _=>∃ c n ds,∃ i j:Nat,∃ d e,vs=[.ref c,.str d.name,.str e.name]/\f6 t H c n ds/\ds[i]? = some d/\ds[j]? = some e/\Q (.int (if d.off - e.near > 0 then d.off - e.near else 0)) H
theorem agC:cA P base T 3 t.za t.zX rB (Q5 t):=by
 refine cH (rH T) fun kf=>?_;exists T.PP.ok Ly,9
 obtain ⟨c,n,ds,i,j,d,e,rfl,C,hd,he,q⟩:=h;obtain ⟨_,ay,wl,aH,ax,aK,bU⟩:=id C;refine ⟨_,(aS (cF (i:=3) Ly.aH (fN (aa 0) T.lc T.o1 kf aq T.pq .nil cU (ak (aa 1) aF)))
   (aS (cF (i:=4) Ly.aH (fN (aa 0) T.lc T.o1 kf aq T.pq .nil cU (ak (aa 2) aF)))
   (a5 (cy (eT (ak_ rfl) rfl T.De Aa (ak aD (ak (bI lS (bN (aa 3) rfl) (bN (aa 4) rfl)) aF))))))),?_⟩
 nofun;refine ⟨_,_,ax,kF _ _ _ (by ac_nf),⟨c,n,ds,i,d,rfl,C,hd,fun a jA=>?_⟩⟩;nofun;refine ⟨_,_,ax,kF _ _ _ (by ac_nf),⟨c,n,ds,j,e,rfl,C,he,fun b qr=>?_⟩⟩;nofun;refine ⟨_,jA.NL T,_,qr.abk T,?_⟩;nofun;exact q
theorem iW {α:Type} {xs:List α} {i:Nat} {x:α} (h:xs[i]? = some x):xs.take (i + 1)=xs.take i ++ [x]:=by
 rw [od,h];rfl
structure ST where
 lo:Int
 ah:Int
 mem:List Str
noncomputable def FW (r:ST) (m:Addr):fz:=.tup [.int r.lo,.int r.ah,.ref m]
structure Tk (H:aw) (p:Addr) (qs ms:List Addr) (rows:List ST):Prop where
 at_:H p=some (.lst (qs.map V.ref))
 bY:qs.length=rows.length
 cL:ms.length=rows.length
 al:∀ (i:Nat) (q m:Addr) (r:ST),qs[i]? = some q->ms[i]? = some m->rows[i]? = some r->H q=some (FW r m)/\H m=some (.lst (aW r.mem))
theorem Tk.same {p:Addr} {rows:List ST} (h:Tk H p qs ms rows) (s:aN H I):Tk I p qs ms rows:=
 ⟨s _ _ h.at_,h.bY,h.cL,fun i q m r a b c=>⟨s _ _ (h.al i q m r a b c).1,s _ _ (h.al i q m r a b c).2⟩⟩
structure mJ (H:aw) (p:Addr) (ms:List Addr) (dv:List (List Str)):Prop where
 at_:H p=some (.lst (ms.map V.ref))
 ln:ms.length=dv.length
 al:∀ (i:Nat) (m:Addr) (x:List Str),ms[i]? = some m->dv[i]? = some x->H m=some (.lst (aW x))
theorem mJ.same {p:Addr} (h:mJ H p ms dv) (s:aN H I):mJ I p ms dv:=
 ⟨s _ _ h.at_,h.ln,fun i m x a b=>s _ _ (h.al i m x a b)⟩
noncomputable def mX (i:Nat) (kvs:List (Key × V)) (ms:List Str):List (Key × V):=ms.foldl (fun kvs x=>eg kvs (bH x) (.int i)) kvs
noncomputable def hu (dv:List (List Str)):List (Key × V):=dv.zipIdx.foldl (fun kvs e=>mX e.2 kvs e.1) []
theorem abU (kvs:List (Key × V)) (k:Key) (v:V):(eg kvs k v).length <= kvs.length + 1:=by
 unfold eg;split
 .rw [aP];omega
 .rw [dZ];exact b8 _
theorem NN (i:Nat) (kvs:List (Key × V)) (ms:List Str) (x:Str):mX i kvs (ms ++ [x])=eg (mX i kvs ms) (bH x) (.int i):=by
 unfold mX;rw [I7];rfl
theorem aa8 (dv:List (List Str)) (ms:List Str):hu (dv ++ [ms])=mX dv.length (hu dv) ms:=by
 unfold hu;rw [List.zipIdx_append,I7];simp
theorem Lx (i:Nat) (x:Str):∀ (ms:List Str) (kvs:List (Key × V)),cR (mX i kvs ms) (bH x)=if x ∈ ms then some (.int i) else cR kvs (bH x)
 | [],kvs=>by simp [mX]
 | y :: ms,kvs=>by
  show cR (mX i (eg kvs (bH y) (.int i)) ms) (bH x)=_;rw [Lx i x ms,Rt];by_cases c:x ∈ ms
  .rw [if_pos c,if_pos (hR _ c)]
  .rw [if_neg c];by_cases d:x=y
   .subst d;rw [if_pos rfl,if_pos (l5 ..)]
   .rw [if_neg (fun e=>d (sq e)),if_neg (fun e=>by
     rcases fx.mp e with e | e
     .exact d e
     .exact c e)]
theorem Ei {dv:List (List Str)} {i:Nat} {ms:List Str} (h:dv[i]? = some ms):hu (dv.take (i + 1))=mX i (hu (dv.take i)) ms:=by
 rw [iW h,aa8,hE,acB (nE (cv.mp h).1)]
theorem OS {x:Str}:∀ (n:Nat) (dv:List (List Str)),n <= dv.length->((cR (hu (dv.take n)) (bH x)).isSome=true↔∃ ms ∈ dv.take n,x ∈ ms)
 | 0,dv,_=>by simp [hu,cR]
 | n + 1,dv,aQ=>by
  have h:dv[n]? = some dv[n]:=aZ (by omega);rw [Ei h,Lx,iW h];have cE:=OS (x:=x) n dv (by omega);by_cases c:x ∈ dv[n]
  .rw [if_pos c];exact ⟨fun _=>⟨_,jh _ (gq.mpr rfl),c⟩,fun _=>rfl⟩
  .rw [if_neg c,cE];constructor
   .rintro ⟨ms,af,ao⟩;exact ⟨ms,p1 _ af,ao⟩
   .rintro ⟨ms,af,ao⟩;rcases gE.mp af with af | af
    .exact ⟨ms,af,ao⟩
    .rw [gq.mp af] at ao;exact absurd ao c
theorem x1 (p:Str->Bool):∀ xs:List Str,((xs.map fun x=>if p x=true then some (V.str x) else none).flatMap px)=aW (xs.filter p)
 | []=>rfl
 | x :: xs=>by
  rw [e1,qQ,x1 p xs];by_cases c:p x=true
  .rw [if_pos c,WW c];rfl
  .rw [if_neg c,agy c];rfl
noncomputable def told (rows:List ST) (x:Str):Bool:=rows.any fun r=>r.mem.contains x
noncomputable def hy (ds:List a3) (rows:List ST):List Str:=(ds.map (·.name)).filter fun x=>!told rows x
theorem Nu (rows:List ST) (x:Str):(cR (hu (rows.map (·.mem))) (bH x)).isSome=told rows x:=by
 rw [ig];have:=OS (x:=x) (rows.map (·.mem)).length (rows.map (·.mem)) (b8 _);rw [gF] at this;rw [this];unfold told;rw [oY];constructor
 .rintro ⟨ms,af,ao⟩;obtain ⟨r,aq,rfl⟩:=bJ.mp af;exact ⟨r,aq,by simpa using ao⟩
 .rintro ⟨r,aq,h⟩;exact ⟨_,bJ.mpr ⟨r,aq,rfl⟩,by simpa using h⟩
noncomputable def iA (d:a3):Str:=if d.k=2 then ab "trams" else ab "others"
def ah0 (t:b7):bW:=fun vs H Q _=>∃ c n ds,∃ i:Nat,∃ d,vs=[.ref c,.str d.name]/\f6 t H c n ds/\ds[i]? = some d/\d.k < 3/\Q (.str (iA d)) H
def af':bW:=fun vs H Q _=>∃ p ms dv,vs=[.ref p]/\mJ H p ms dv/\dv.length <= 6/\(∀ x ∈ dv,x.length <= 12)/\∀ h I,aN H I->(aL H->aL I)->H h=none->I h=some (.bu (hu dv))->Q (.ref h) I
def abD (t:b7):bW:=fun vs H Q _=>∃ c n ds p qs ms rows,vs=[.ref c,.ref p]/\f6 t H c n ds/\Tk H p qs ms rows/\rows.length <= 6/\(∀ r ∈ rows,r.mem.length <= 12)/\∀ l I,aN H I->(aL H->aL I)->H l=none->I l=some (.lst (aW (hy ds rows)))->Q (.ref l) I
theorem Mj:cA P base T 3 t.GN t.K1 zl (ah0 t):=by
 refine cH (rH T) fun kf=>?_;exists T.vD.ok alk,9
 obtain ⟨c,n,ds,i,d,rfl,C,hd,au,q⟩:=h;obtain ⟨_,ay,wl,aH,ax,_,_⟩:=id C;refine ⟨_,(a5 (cy (uv (cY eE (bN (fN (aa 0) T.lc T.o1 kf aq T.pq .nil cU (ak (aa 1) aF)) rfl) cZ (cu _)) cZ cZ))),?_⟩;nofun;refine ⟨_,_,ax,kF _ _ _ (by ac_nf),c,n,ds,i,d,rfl,C,hd,fun a W=>⟨a,rfl,_,W.adb T,rfl,?_⟩⟩;unfold iA at q;have alz:∀ k,k < 3->decide (V.str (dM k)=V.str (ab "tram"))=decide (k=2):=by ac_nf
 rw [alz d.k au];by_cases c1:d.k=2
 .rw [if_pos (decide_eq_true c1)];rw [if_pos c1] at q;exact q
 .rw [if_neg (by simpa using c1)];rw [if_neg c1] at q;exact q
theorem Io:cA P base T 1 t.DJ t.IL ["members"] af':=by
 exists T.ul.ok ye,9
 obtain ⟨p,ms,dv,rfl,M,m_,B4,q⟩:=h;have bC:=gO aq;refine ⟨_,(aS (cF (i:=1) ye.aH ya)
   (aS (ft fq rfl (A' rfl T.CC (ak (aa 0) aF)) (mr (K:=K) (n:=2) rfl rfl (fC (b9 (i:=2) ye.aH) (fC (b9 (i:=3) ye.aH) mx))) (a5 (ft fq rfl (d6 (aa 3)) (b9 (i:=4) ye.aH) (a5 (so bC (aa 1) (aa 4) (aa 2) rfl)))))
   (a5 (cy (aa 1))))),?_⟩
 nofun;intro h fY;have s0:aN H (upd H h (.bu [])):=bq fY;refine ⟨⟨_,av.of (s0 _ _ M.at_)⟩,?_⟩;refine dY.enum (xs:=ms.map V.ref) (fun i σ I=>(∃ x y z,σ=[~~~p,~~~h,x,y,z])/\aN H I/\(aL H->aL I)/\I h=some (.bu (hu (dv.take i)))/\(hu (dv.take i)).length <= 12 * i) ?_ ?_ ?_ ?_
 .exact ⟨⟨_,_,_,rfl⟩,s0,fun n=>n.upd,by rw [tl];exact db,by rw [tl];simp [hu]⟩
 .rintro i σ I ah ⟨_,s1,_⟩;exact av.of (s1 _ _ M.at_)
 .rintro i v σ I gy aI ⟨⟨x,y,z,rfl⟩,s1,cB,af,rb⟩ n8;obtain ⟨m,hm,rfl⟩:=bZ aI;have rx:i < dv.length:=by rw [<- M.ln];exact (cv.mp hm).1
  have wA:dv[i]? = some dv[i]:=aZ rx;have em:=M.al i m _ hm wA;have h9:=B4 _ (cm wA);have s2:aN I (upd I gy (.tup [.int i,.ref m])):=bq n8;refine zO ?_;nofun;have VC:=s2 _ _ (s1 _ _ em);have ao:=s2 _ _ af;have nb:aL H->aL (upd I gy (.tup [.int i,.ref m])):=fun n=>(cB n).upd
  have Vj:=s1.trans s2;generalize upd I gy (.tup [.int i,.ref m])=fm at VC ao nb Vj s2 ⊢;refine ⟨⟨_,av.of VC⟩,?_⟩;refine dY.list (xs:=aW dv[i]) (fun j σ aB=>(∃ z,σ=[~~~p,~~~h,some (.int (i:Nat)),~~~m,z])/\aN H aB/\(aL H->aL aB)/\aB h=some (.bu (mX i (hu (dv.take i)) (dv[i].take j)))/\(mX i (hu (dv.take i)) (dv[i].take j)).length <= 12 * i + j) ?_ ?_ ?_ ?_
  .exact ⟨⟨_,rfl⟩,Vj,nb,by rw [tl];exact ao,by rw [tl];exact rb⟩
  .rintro j σ aB aJ ⟨_,s3,_⟩;exact av.of (s3 _ _ em)
  .rintro j v σ aB aI bf;ac_rfl
   obtain ⟨⟨z,rfl⟩,s3,dp,bj,Nl⟩:=bf;subst aY;unfold aW at aI;obtain ⟨x,aj,rfl⟩:=bZ aI;have aJ:j < dv[i].length:=(cv.mp aj).1;have c4:=abU (mX i (hu (dv.take i)) (dv[i].take j)) (bH x) (.int i);nofun;refine ⟨_,ly.k (k:=bH x) bj (hg (show _ <= 1000 by omega) (by decide)),⟨_,rfl⟩,s3.ff fY,fun n=>(dp n).upd,?_,?_⟩
   .rw [db,iW aj,NN]
   .rw [iW aj,NN];omega
  .rintro σ aB bf;ac_rfl
   obtain ⟨⟨z,rfl⟩,s3,dp,bj,Nl⟩:=bf;subst aY;rw [eY,gF,<- Ei wA] at bj Nl;exact ⟨⟨_,_,_,rfl⟩,s3,dp,bj,by omega⟩
 .rintro σ I bf;ac_rfl
  obtain ⟨⟨x,y,z,rfl⟩,s1,cB,af,_⟩:=bf;subst aY;rw [aP,M.ln,gF] at af;nofun;exact q h I s1 cB fY af
theorem Ts:cA P base T 2 t.Kf t.Hw k6 (abD t):=by
 refine cH (Io T) fun vY=>cH (xX T) fun pK=>?_;exists T.zR.ok So,9
 obtain ⟨c,n,ds,p,qs,ms,rows,rfl,C,R,ho,vh,q⟩:=h;have bC:=gO aq;obtain ⟨⟨_,gg⟩,ay,wl,aH,ax,_,_⟩:=id C;refine ⟨_,(aS (lb (i:=2) So.aH rfl (j5 rfl) (cc vY aq T.KI T.ul.bG T.Lk (ak (fT rfl (d6 (aa 1)) (ac (sc:=bB BY) rfl (by ac_nf)) (N:=je) (sel:=[none,none,none]) (fw (M:=HJ) (by ac_nf)) (eO.of (fun _ _ _ _=>(mr (K:=K) (n:=3) rfl rfl (fC (b9 (i:=0) (d1 (N:=je) (by ac_nf) rfl)) (fC (b9 (i:=1) (d1 (N:=je) (by ac_nf) rfl)) (fC (b9 (i:=2) (d1 (N:=je) (by ac_nf) rfl)) mx))))) (fun _ _ _ _=>⟨_,hO,by walk_at "B"⟩) (fun _ _ _ _=>⟨_,(aa 2),by walk_at "B"⟩))) aF)))
   (a5 (cy (fT rfl (d6 (iR (aa 0) T.lc T.xR pK aq T.wR .nil cU)) (ac (sc:=bB BY) rfl (by ac_nf)) (N:=["name","told"]) (sel:=[none,some 2]) (fw (M:=HJ) (by ac_nf)) (eO.of (fun _ _ _ _=>(b9 (i:=0) (d1 (N:=["name","told"]) (by ac_nf) rfl))) (fun _ _ _ _=>⟨_,(nF (vN (Sl bC (aa 0) (aa 1)))),by walk_at "B"⟩) (fun _ _ _ _=>⟨_,(aa 0),by walk_at "B"⟩)))))),?_⟩
 simp only [dx];nofun;have iv:(qs.map V.ref).length=rows.length:=by rw [aP,R.bY]
 refine ⟨⟨_,av.of R.at_⟩,?_⟩;refine Gc.lg (xs:=qs.map V.ref) (zs:=ms.map V.ref) (av.of R.at_) (by rw [iv];exact cP ho (by decide)) (by rw [iv,aP,R.cL]) (fun j v z N aI aO bb=>?_) (fun pm IG=>?_)
 .obtain ⟨kv,e_,rfl⟩:=bZ aI;obtain ⟨DQ,lz,rfl⟩:=bZ aO;have aJ:j < rows.length:=by rw [<- R.bY];exact (cv.mp e_).1
  have e:=(R.al j kv DQ _ e_ lz (aZ aJ)).1;nofun;exact ⟨_,cJ.of e,rfl,_,_,rfl,_,_,rfl,_,_,rfl,rfl,Sub.vq,bb⟩
 .have sp:aN H (upd H pm (.lst (ms.map V.ref))):=bq IG;have np:aL H->aL (upd H pm (.lst (ms.map V.ref))):=fun n=>n.upd
  have ep:(upd H pm (.lst (ms.map V.ref))) pm=some (.lst (ms.map V.ref)):=db;generalize upd H pm (.lst (ms.map V.ref))=fm at sp np ep ⊢;refine ⟨pm,ms,rows.map (·.mem),rfl,⟨ep,by rw [R.cL,aP],fun i m x hm aj=>?_⟩,by rw [aP];exact ho,fun x aj=>?_,fun h H1 s1 cB fY af=>?_⟩
  .obtain ⟨r,fi,rfl⟩:=bZ aj;have f':qs[i]? = some (qs[i]'(by rw [R.bY];exact (cv.mp fi).1)):=aZ _;exact sp _ _ (R.al i _ m r f' hm fi).2
  .obtain ⟨r,fi,rfl⟩:=bJ.mp aj;exact vh r fi
  .have kR:=sp.trans s1;have xx:=C.same kR;refine ⟨_,_,kR _ _ ax,kF _ _ _ (by ac_nf),c,n,ds,rfl,xx,fun ez ix=>⟨ez,rfl,⟨_,av.of db⟩,?_⟩⟩;have sB:=kR.trans (bq (o:=.lst (aW (ds.map (·.name)))) ix);have ao:=(bq (o:=.lst (aW (ds.map (·.name)))) ix) _ _ af;have jQ:aL H->aL (upd H1 ez (.lst (aW (ds.map (·.name))))):=fun n=>(cB (np n)).upd
   have nO:(upd H1 ez (.lst (aW (ds.map (·.name))))) ez=some (.lst (aW (ds.map (·.name)))):=db;generalize upd H1 ez (.lst (aW (ds.map (·.name))))=k7 at sB ao jQ nO ⊢;refine Gc.pG (xs:=aW (ds.map (·.name))) (ss:=(ds.map (·.name)).map fun x=>if (!told rows x)=true then some (V.str x) else none) (av.of nO) (by rw [eY,aP];exact cP gg (by decide)) (by rw [eY,aP]) (fun i v o ys N aI aT bb=>?_) (fun l aM=>?_)
   .unfold aW at aI;obtain ⟨x,aj,rfl⟩:=bZ aI;obtain ⟨dX,eG,rfl⟩:=bZ aT;rw [aj] at eG;cases eG;have bp:gM k7 h (.str x) (cR (hu (rows.map (·.mem))) (bH x)):=gM.k (k:=bH x) ao;have cT:=Nu rows x;nofun;refine ⟨Sub.name,_,bp,?_⟩;rw [cT];by_cases cz:(!told rows x)=true
    .rw [if_pos cz];rw [if_pos cz] at bb;exact bb
    .rw [if_neg cz];rw [if_neg cz] at bb;simpa using bb
   .rw [x1];exact q l _ (sB.trans (bq aM)) (fun n=>(jQ n).upd) (sB.free aM) db
noncomputable def xq (ds:List a3) (left:List Str) (f:Str):List Str:=left.filter fun x=>decide ((i3 ds x).map iA=(i3 ds f).map iA)
noncomputable def rr (alike:List Str):List Str->Nat->List Str->Except Nat (List Str)
 | [],_,ms=>.ok ms
 | x :: r,j,ms=>if x ∈ alike/\x ∉ ms then rr alike r (j + 1) (ms ++ [x]) else .error j
noncomputable def mP (ds:List a3) (left ws:List Str):Except Nat (List Str):=if aE ws 3 ∈ left then rr (xq ds left (aE ws 3)) (ws.drop 4) 4 [aE ws 3] else .error 3
noncomputable def p_ (ds:List a3) (rows:List ST) (ws:List Str):Except Nat ST:=if aE ws 0 ∈ [ab "stage"] then
 (kM (aE ws 1) 1 60).elim (.error 1) fun lo=>(kM (aE ws 2) lo 60).elim (.error 2) fun ah=>match mP ds (hy ds rows) ws with
  | .error k=>.error k
  | .ok ms=>.ok ⟨lo,ah,ms⟩ else .error 0
theorem QB:∀ {r:List Str} {j:Nat} {ms pM:List Str},rr alike r j ms=.ok pM->ms.Nodup->pM.Nodup/\(∃ more,pM=ms ++ more)/\∀ x ∈ pM,x ∈ ms\/x ∈ alike
 | [],j,ms,pM,h,aH=>by
  have h:q' ms=q' (ε:=Nat) pM:=h;cases h;exact ⟨aH,⟨[],by simp⟩,fun x aj=>.inl aj⟩
 | y :: r,j,ms,pM,h,aH=>by
  unfold rr at h;split at h
  .rename_i c;obtain ⟨af,⟨more,ao⟩,bj⟩:=QB h (Be.mpr ⟨aH,by simp,fun a aR b ae e=>by
    rw [gq.mp ae] at e;rw [e] at aR;exact c.2 aR⟩)
   refine ⟨af,⟨y :: more,by rw [ao,oC];rfl⟩,fun x aj=>?_⟩;rcases bj x aj with z | z
   .rcases gE.mp z with z | z
    .exact .inl z
    .rw [gq.mp z];exact .inr c.1
   .exact .inr z
  .cases h
def akb (t:b7):bW:=fun vs H Q _=>∃ q row ws c n ds l left ms,vs=[.ref q,.ref c,.ref l]/\dg t H q row ws 3/\f6 t H c n ds/\(∀ d ∈ ds,d.k < 3/\d.name ≠ ab "")/\H l=some (.lst (aW left))/\left.length <= 12/\(∀ x ∈ left,∃ d ∈ ds,d.name=x)/\aL H/\mP ds left ws=.ok ms /\
 ∀ m I,c3 q H I->aL I->(∃ u,I q=some u)->I m=some (.lst (aW ms))->H m=none->Q (.ref m) I
def PT (t:b7):bW:=fun vs H Q _=>∃ q row ws c n ds p qs ms rows s,vs=[.ref q,.ref c,.ref p]/\dg t H q row ws 0/\f6 t H c n ds/\(∀ d ∈ ds,d.k < 3/\d.name ≠ ab "")/\Tk H p qs ms rows/\rows.length <= 6/\(∀ r ∈ rows,r.mem.length <= 12)/\aL H/\p_ ds rows ws=.ok s /\
 ∀ x m I,c3 q H I->aL I->I x=some (FW s m)->I m=some (.lst (aW s.mem))->H x=none->H m=none->Q (.ref x) I
theorem iF {ds:List a3} (aH:(ds.map (·.name)).Nodup) {i:Nat} {d:a3} (h:ds[i]? = some d):i3 ds d.name=some d:=by
 unfold i3;cases e:ds.find? fun x=>decide (x.name=d.name) with
 | none=>
  have:=Yb.mp e d (cm h);simp at this
 | some x=>
  have af:x.name=d.name:=by simpa using List.find?_some e
  obtain ⟨j,aJ⟩:=iN (List.mem_of_find?_eq_some e);have:=vp aH (cv.mp aJ).1 (cv.mp h).1 (by rw [mS aJ,mS h,af]);subst this;rw [aJ] at h;exact h
theorem f6.vG {t:b7} {k:Nat} (h:f6 t H c n ds) (s:c3 q H I) (R:dg t H q row ws k):f6 t I c n ds:=by
 obtain ⟨h0,hL,wl,aH,ax,⟨as,dH,dI,al⟩,bU⟩:=h;obtain ⟨_,zj,bo,f1,f2⟩:=id R;refine ⟨h0,hL,wl,aH,s _ _ (fun z=>?_) ax,⟨as,s _ _ (bK dH f1 (by intro z;cases z)) dH,dI,fun i b d ae hd=>?_⟩,s _ _ (bK bU f1 (by intro z;cases z)) bU⟩
 .subst z;rw [ax] at f1;have e:=ei f1;injection e with _ _ eW;unfold pn mR at eW;injection eW with fR _;injection fR with e0 _;exact absurd e0 (by ac_nf)
 .have W:=al i b d ae hd;have aQ:=T' W R;exact ⟨W.1,W.2.imp fun ay e=>s _ _ aQ e⟩
theorem amM (h:j < ws.length):ws.drop j=aE ws j :: ws.drop (j + 1):=by
 rw [sv h];unfold aE;rw [jg,aZ h];rfl
theorem Tk.vG {t:b7} {q p:Addr} {rows:List ST} {k:Nat} (h:Tk H p qs ms rows) (s:c3 q H I) (R:dg t H q row ws k):Tk I p qs ms rows:=by
 obtain ⟨_,zj,bo,f1,f2⟩:=id R;refine ⟨s _ _ (bK h.at_ f1 (by intro z;cases z)) h.at_,h.bY,h.cL,fun i q m r a b c=>?_⟩;obtain ⟨ax,aK⟩:=h.al i q m r a b c;exact ⟨s _ _ (bK ax f1 (by intro z;cases z)) ax,s _ _ (bK aK f1 (by intro z;cases z)) aK⟩
theorem ahj:cA P base T 4 t.H0 t.Lg KJ (akb t):=by
 refine cH (Bn T) fun rn=>cH (TM T) fun IB=>cH (Mj T) fun CS=>?_;exists T.L1.ok CY,9
 obtain ⟨q,row,ws,c,n,ds,l,left,UT,rfl,R,C,au,aM,DC,N5,bE,cO,k_⟩:=h;refine ⟨_,(aS (lb (i:=3) CY.aH rfl (j5 rfl) (fN (aa 0) T.gh T.w7 rn aq T.wN .nil cU (ak (aa 2) aF)))
   (aS (lb (i:=4) CY.aH rfl (j5 rfl) (gL (ak (aa 3) aF)))
   (aS (Km (i:=5) CY.aH rfl (ud rfl) rfl (d6 (aa 2)) (ac (sc:=bB C_) rfl (by ac_nf)) (N:=["name","crossing","first"]) (sel:=[none,some 1,some 3]) (fw (M:=I4) (by ac_nf)) (eO.of (fun _ _ _ _=>(b9 (i:=0) (d1 (N:=["name","crossing","first"]) (by ac_nf) rfl))) (fun _ _ _ _=>⟨_,(nF (cY eE (cc CS aq T.H3 T.vD.bG T.GL (ak (aa 1) (ak (aa 0) aF))) (cc CS aq T.H3 T.vD.bG T.GL (ak (aa 1) (ak (aa 2) aF))) (cu _))),by walk_at "B"⟩) (fun _ _ _ _=>⟨_,(aa 0),by walk_at "B"⟩)) rfl)
   (aS (aeo fq (lR (iR (aa 0) T.gh T.VY IB aq T.Tp .nil cU)) (a5 (ee (gk ip kr lx ks (aa 4) (ak (fN (aa 0) T.gh T.w7 rn aq T.wN .nil cU (ak (fT rfl (d6 (aa 5)) (ac (sc:=bB C_) rfl (by ac_nf)) (N:=["name","members"]) (sel:=[none,some 4]) (fw (M:=I4) (by ac_nf)) (eO.of (fun _ _ _ _=>(b9 (i:=0) (d1 (N:=["name","members"]) (by ac_nf) rfl))) (fun _ _ _ _=>⟨_,(nF (cY CV (aa 0) (aa 1) (by with_unfolding_all rfl))),by walk_at "B"⟩) (fun _ _ _ _=>⟨_,(aa 0),by walk_at "B"⟩))) aF)) aF)))))
   (a5 (cy (aa 4))))))),?_⟩
 obtain ⟨aO,ay,bo,ax,aK⟩:=id R;unfold mP at cO;split at cO
 case isFalse=>cases cO
 rename_i ik;obtain ⟨ji,th,pR⟩:=N5 _ ik;have w_:4 <= ws.length:=Gx (k:=3) (by rw [<- pR];exact (au ji th).2);nofun;refine ⟨_,_,ax,dg.no _ _ _ (by ac_nf),⟨q,row,ws,3,_,l,left,rfl,R,xI (by omega),av.of aM,ik,fun H1 s1 cB kk=>?_⟩⟩;have h6:=cB bE;have xx:=C.vG s1 R;have rb:H1 l=some (.lst (aW left)):=s1 _ _ (bK aM ax (by intro z;cases z)) aM;generalize hf:aE ws 3=f0 at cO ik pR ⊢;obtain ⟨xe,Pn⟩:=iN th;nofun;refine ⟨by decide,fun gR m_=>?_⟩;obtain ⟨wX,OA,MH,f1,f2⟩:=id kk;have RS:H gR=none:=by
  cases e:H gR with
  | none=>rfl
  | some u=>
   by_cases z:gR=q
   .rw [z,f1] at m_;cases m_
   .rw [s1 _ _ z e] at m_;cases m_
 have sB:aN H1 (upd H1 gR (.lst [V.str f0])):=bq m_;have K3:(upd H1 gR (.lst [V.str f0])) gR=some (.lst [V.str f0]):=db;have jQ:aL (upd H1 gR (.lst [V.str f0])):=h6.upd;generalize upd H1 gR (.lst [V.str f0])=k7 at sB K3 jQ ⊢;have SO:=xx.same sB;have Pp:=sB _ _ rb;have eu:=C.1.1;refine ⟨⟨_,av.of Pp⟩,?_⟩;refine Gc.pG (xs:=aW left) (ss:=left.map fun x=>if decide ((i3 ds x).map iA=(i3 ds f0).map iA)=true then some (V.str x) else none) (av.of Pp) (by rw [eY];exact cP DC (by decide)) (by rw [eY,aP]) (fun i v o ys N aI aT bb=>?_) (fun al i8=>?_)
 .unfold aW at aI;obtain ⟨x,aj,rfl⟩:=bZ aI;obtain ⟨dX,eG,rfl⟩:=bZ aT;rw [aj] at eG;cases eG;obtain ⟨eB,ve,rfl⟩:=N5 x (cm aj);obtain ⟨j,aJ⟩:=iN ve;rw [<- pR,iF eu aJ,iF eu Pn] at bb;nofun;refine ⟨Sub.name,c,n,ds,j,eB,rfl,SO,aJ,(au eB ve).1,c,n,ds,xe,ji,by rw [pR],SO,Pn,(au ji th).1,rfl,?_⟩;by_cases cz:iA eB=iA ji
  .simp [cz] at bb ⊢;exact bb
  .simp [cz] at bb ⊢;exact bb
 rw [x1];rw [show left.filter (fun x=>decide ((i3 ds x).map iA=(i3 ds f0).map iA))=xq ds left f0 from rfl];have oU:(xq ds left f0).length <= 12:=by
  unfold xq;exact cP (yk ..) DC
 generalize xq ds left f0=alike at cO oU ⊢;have kq:aN k7 (upd k7 al (.lst (aW alike))):=bq i8;have Ul:(upd k7 al (.lst (aW alike))) al=some (.lst (aW alike)):=db;have Mg:aL (upd k7 al (.lst (aW alike))):=jQ.upd;have aaC:al ≠ gR:=fun z=>by rw [z,K3] at i8;cases i8
 generalize upd k7 al (.lst (aW alike))=Gb at kq Ul Mg ⊢;have alx:c3 q H Gb:=s1.trans (c3.of (sB.trans kq));refine abn (fun σ I=>∃ ms:List Str,σ=[~~~q,~~~c,~~~l,some (.str f0),~~~gR,~~~al]/\c3 q H I/\aL I/\dg t I q row ws (3 + ms.length)/\I gR=some (.lst (aW ms))/\I al=some (.lst (aW alike))/\3 + ms.length <= ws.length/\rr alike (ws.drop (3 + ms.length)) (3 + ms.length) ms=.ok UT) (fun σ I=>match I gR with | some (.lst xs)=>ws.length - xs.length | _=>0) ?_ ?_
 .exact ⟨[f0],rfl,alx,Mg,kk.same (sB.trans kq),kq _ _ K3,Ul,w_,cO⟩
 rintro σ I bf;ac_rfl
 obtain ⟨ms,rfl,d9,cD,fb,j8,a2,QA,eU⟩:=bf;obtain ⟨tP,xy,HM,g1,g2⟩:=id fb;have MK:gR ≠ q:=bK j8 g1 (by intro z;cases z);have aaz:al ≠ q:=bK a2 g1 (by intro z;cases z);subst aY;refine ⟨decide (3 + ms.length < ws.length),fun jC a0=>?_,fun sE=>?_,fun sE=>?_⟩
 .nofun;exact ⟨_,_,g1,dg.no _ _ _ (by ac_nf),⟨q,row,ws,_,rfl,fb,_,rfl,a0⟩⟩
 .have sE:=of_decide_eq_true sE;rw [amM sE] at eU;unfold rr at eU;nofun;refine ⟨.inl ⟨_,av.of j8⟩,?_⟩;refine ⟨_,_,g1,dg.no _ _ _ (by ac_nf),⟨_,av.of a2⟩,?_⟩;refine Gc.pG (xs:=aW alike) (ss:=alike.map fun x=>if (!decide (x ∈ ms))=true then some (V.str x) else none) (av.of a2) (by rw [eY];exact cP oU (by decide)) (by rw [eY,aP]) (fun i v o ys N aI aT bb=>?_) (fun cl pO=>?_)
  .unfold aW at aI;obtain ⟨x,aj,rfl⟩:=bZ aI;obtain ⟨dX,eG,rfl⟩:=bZ aT;rw [aj] at eG;cases eG;nofun;refine ⟨Sub.name,_,.inl (av.of j8),rfl,y6 ms,?_⟩;rw [yZ];by_cases cz:x ∈ ms
   .simp [cz] at bb ⊢;exact bb
   .simp [cz] at bb ⊢;exact bb
  rw [x1];have sy:aN I (upd I cl (.lst (aW (alike.filter fun x=>!decide (x ∈ ms))))):=bq pO;have PR:(upd I cl (.lst (aW (alike.filter fun x=>!decide (x ∈ ms))))) cl=some (.lst (aW (alike.filter fun x=>!decide (x ∈ ms)))):=db;have Pu:aL (upd I cl (.lst (aW (alike.filter fun x=>!decide (x ∈ ms))))):=cD.upd;generalize upd I cl (.lst (aW (alike.filter fun x=>!decide (x ∈ ms))))=Sy at sy PR Pu ⊢;split at eU
  case isFalse=>cases eU
  rename_i aA;refine ⟨q,row,ws,3 + ms.length,_,cl,_,rfl,fb.same sy,xI sE,av.of PR,f5.mpr ⟨aA.1,by simpa using aA.2⟩,fun aB s2 dp nq=>?_⟩
  .have uR:aB gR=some (.lst (aW ms)):=s2 _ _ MK (sy _ _ j8);have eC:aB al=some (.lst (aW alike)):=s2 _ _ aaz (sy _ _ a2);obtain ⟨C7,Bt,SY,ck,d0⟩:=id nq;have ajb:SY ≠ gR:=fun z=>by
    rw [z,uR] at d0;have e:=ei d0;injection e with e;have:=congrArg ry e;rw [eY,eY] at this;omega
   refine ⟨_,uR,hg (show (aW ms).length <= 1000 by rw [eY];have:=C7.1;omega) (by decide),fun b u ae e=>?_,(dp Pu).upd,⟨ms ++ [aE ws (3 + ms.length)],⟨C7,Bt,SY,?_,?_⟩,?_,?_,?_,?_⟩,?_⟩
   .rw [aG (Db e RS)];exact s2 _ _ ae (sy _ _ (d9 _ _ ae e))
   .rw [aG (dJ MK),dZ];exact ck
   .rw [aG ajb];exact d0
   .rw [db];unfold aW;rw [e5];rfl
   .rw [aG aaC];exact eC
   .rw [dZ];show 3 + (ms.length + 1) <= _;omega
   .rw [dZ];exact eU
   .rw [db,j8];show ws.length - (aW ms ++ [V.str (aE ws (3 + ms.length))]).length < ws.length - (aW ms).length;rw [dZ,eY];show ws.length - (ms.length + 1) < _;omega
 .have sE:=of_decide_eq_false sE;rw [List.drop_of_length_le (by omega)] at eU;replace eU:(q' ms:Except Nat (List Str))=.ok UT:=eU;cases eU;nofun;exact k_ gR I d9 cD ⟨_,g1⟩ j8 RS
theorem ahA:cA P base T 6 t.zk t.Bp yX (PT t):=by
 refine cH (Bn T) fun rn=>cH (CF T) fun ot=>cH (ahj T) fun XO=>cH (Ts T) fun KP=>?_;exists T.DD.ok Jk,9
 obtain ⟨q,row,ws,c,n,ds,p,qs,ms,rows,o_,rfl,R,C,au,adX,ho,vh,bE,cO,k_⟩:=h;refine ⟨_,(aS (ee (fN (aa 0) T.gh T.w7 rn aq T.wN .nil cU (ak (gL (ak cZ aF)) aF)))
   (aS (cF (i:=3) Jk.aH (fN (aa 0) T.gh T.rG ot aq T.rC .nil cU (ak aD (ak (mE rfl T.VI T.QN) aF))))
   (aS (cF (i:=4) Jk.aH (fN (aa 0) T.gh T.rG ot aq T.rC .nil cU (ak (aa 3) (ak (mE rfl T.VI T.QN) aF))))
   (a5 (cy (rY (ak (aa 3) (ak (aa 4) (ak (cc XO aq T.YK T.L1.bG T.ams (ak (aa 0) (ak (aa 1) (ak (cc KP aq T.Qb T.zR.bG T.Ms (ak (aa 1) (ak (aa 2) aF))) aF)))) aF))))))))),?_⟩
 obtain ⟨_,ay,bo,ax,aK⟩:=id R;unfold p_ at cO;split at cO
 case isFalse=>cases cO
 rename_i ik;have bY:1 <= ws.length:=Gx (k:=0) (by rw [gq.mp ik];ac_nf);cases Dl:kM (aE ws 1) 1 60 with
 | none=>rw [Dl] at cO;cases cO
 | some lo=>
 have p9:jl (aE ws 1) 1 60=.int lo:=by rw [F2,Dl];rfl
 rw [Dl] at cO;replace cO:((kM (aE ws 2) lo 60).elim (.error 2) fun ah=>match mP ds (hy ds rows) ws with | .error k=>.error k | .ok ms=>.ok ⟨lo,ah,ms⟩:Except Nat ST)=.ok o_:=cO;cases Gq:kM (aE ws 2) lo 60 with
 | none=>rw [Gq] at cO;cases cO
 | some ah=>
 have DX:jl (aE ws 2) lo 60=.int ah:=by rw [F2,Gq];rfl
 rw [Gq] at cO;replace cO:(match mP ds (hy ds rows) ws with | .error k=>.error k | .ok ms=>.ok (⟨lo,ah,ms⟩:ST):Except Nat ST)=.ok o_:=cO;cases hm:mP ds (hy ds rows) ws with
 | error k=>rw [hm] at cO;cases cO
 | ok aco=>
 rw [hm] at cO;cases cO;have cL:=(Ek p9).1;nofun;refine ⟨_,_,ax,dg.no _ _ _ (by ac_nf),by decide,fun EM g4=>?_⟩;have s0:aN H (upd H EM (.lst [V.str (ab "stage")])):=bq g4;refine ⟨q,row,ws,0,_,EM,[ab "stage"],rfl,R.same s0,xI bY,av.of db,ik,fun H1 s1 cB kk=>?_⟩;obtain ⟨_,OA,MH,f1,f2⟩:=id kk;have h6:=cB bE.upd;have cq:c3 q H H1:=(c3.of s0).trans s1;nofun;refine ⟨_,_,f1,dg.no _ _ _ (by ac_nf),⟨q,row,ws,1,_,1,60,lo,rfl,kk,xI cL,p9,h6,fun aB s2 cD fb=>?_⟩⟩;have oP:=cD h6;have d9:c3 q H aB:=cq.trans s2;obtain ⟨_,xy,HM,g1,g2⟩:=id fb;nofun;refine ⟨_,_,g1,dg.no _ _ _ (by ac_nf),⟨q,row,ws,2,_,lo,60,ah,rfl,fb,xI (Ek DX).1,DX,oP,fun bw s3 dp nq=>?_⟩⟩;have WZ:=(Ek DX).1;have x7:=dp oP;have gT:c3 q H bw:=d9.trans s3;have uz:=C.vG gT R;have adE:=adX.vG gT R;nofun;refine ⟨c,n,ds,p,qs,ms,rows,rfl,uz,adE,ho,vh,fun l cI s4 dK aM Ba=>?_⟩;have dU:c3 q H cI:=gT.trans (c3.of s4);have Ks:=dK x7;have oJ:(hy ds rows).length <= 12:=by
  unfold hy;exact cP (yk ..) (by rw [aP];exact C.1.2)
 refine ⟨q,row,ws,c,n,ds,l,hy ds rows,aco,rfl,nq.same s4,uz.same s4,au,Ba,oJ,fun x aj=>?_,Ks,hm,fun m dj s5 w3 ag4 aas EI=>?_⟩
 .obtain ⟨d,hd,e⟩:=bJ.mp (f5.mp aj).1;exact ⟨d,hd,e⟩
 obtain ⟨_,_,_,akB,_⟩:=nq.same s4;nofun;refine ⟨by decide,fun x aj=>?_⟩;have back:∀ {y:Addr} {G:aw},c3 q H G->G y=none->(∃ u,G q=some u)->H y=none:=fun {y G} jr a9 ⟨u,bC⟩=>by
  cases e:H y with
  | none=>rfl
  | some v=>
   by_cases c:y=q
   .subst c;rw [bC] at a9;cases a9
   .rw [jr _ _ c e] at a9;cases a9
 exact k_ x m _ (dU.trans (s5.trans (c3.of (bq aj)))) w3.upd db ((bq aj) _ _ aas) (back (dU.trans s5) aj ag4) (back dU EI ⟨_,akB⟩)
theorem Pb [DecidableEq α]:∀ {l l':List α},l.Nodup->(∀ x ∈ l,x ∈ l')->l.length <= l'.length
 | [],_,_,_=>gv _
 | a :: l,l',h,aC=>by
  have aR:=aC a (l5 ..);have ao:=sQ.mp h;have:=Pb (l':=l'.erase a) ao.2 (fun x aj=>(List.mem_erase_of_ne (fun e=>ao.1 (by rw [<- e];exact aj))).mpr (aC x (hR _ aj)));rw [List.length_erase_of_mem aR] at this;have ar:=akC aR;rw [gP];omega
noncomputable def kP (rows:List ST) (x:Str):Option Nat:=match cR (hu (rows.map (·.mem))) (bH x) with
 | some (.int k)=>some k.toNat
 | _=>none
theorem OD {x:Str}:∀ (n:Nat) (dv:List (List Str)),n <= dv.length->(∃ ms ∈ dv.take n,x ∈ ms)->∃ (k:Nat) (ms:List Str),cR (hu (dv.take n)) (bH x)=some (.int (k:Int))/\dv[k]? = some ms/\x ∈ ms
 | 0,dv,_,h=>by
  obtain ⟨ms,af,_⟩:=h;simp at af
 | n + 1,dv,aQ,h=>by
  have bp:dv[n]? = some dv[n]:=aZ (by omega);rw [Ei bp,Lx];by_cases c:x ∈ dv[n]
  .rw [if_pos c];exact ⟨n,_,rfl,bp,c⟩
  .rw [if_neg c];refine OD n dv (by omega) ?_;obtain ⟨ms,af,ao⟩:=h;rw [iW bp] at af;rcases gE.mp af with af | af
   .exact ⟨ms,af,ao⟩
   .rw [gq.mp af] at ao;exact absurd ao c
theorem ph {rows:List ST} {x:Str} (h:told rows x=true):∃ (k:Nat) (r:ST),cR (hu (rows.map (·.mem))) (bH x)=some (.int (k:Int))/\kP rows x=some k/\rows[k]? = some r/\x ∈ r.mem:=by
 unfold told at h;obtain ⟨r,aq,aj⟩:=oY.mp h;have:=OD (x:=x) (rows.map (·.mem)).length (rows.map (·.mem)) (b8 _) ⟨r.mem,by rw [gF];exact bJ.mpr ⟨r,aq,rfl⟩,by simpa using aj⟩;rw [gF] at this;obtain ⟨k,ms,af,ao,bj⟩:=this;obtain ⟨df,fi,rfl⟩:=bZ ao;exact ⟨k,df,af,by unfold kP;rw [af];rfl,fi,bj⟩
noncomputable def yg (rows:List ST) (d:a3):Option (a3 × Nat):=(kP rows d.name).bind fun k=>(rows[k]?).bind fun r=>if r.lo < d.least then some (d,k) else none
noncomputable def uy (ds:List a3) (rows:List ST):Option (a3 × Nat):=ds.findSome? (yg rows)
noncomputable def nh (n:Int) (ds:List a3) (x y:Str):Bool:=match i3 ds x,i3 ds y with
 | some d,some e=>mt n d e
 | _,_=>false
noncomputable def oV (n:Int) (ds:List a3) (k:Nat) (x y:Str):Option (Str × Str × Nat):=if x ≠ y/\nh n ds x y=true then some (x,y,k) else none
noncomputable def sL (n:Int) (ds:List a3) (e:ST × Nat):Option (Str × Str × Nat):=e.1.mem.findSome? fun x=>e.1.mem.findSome? fun y=>oV n ds e.2 x y
noncomputable def tM (n:Int) (ds:List a3) (rows:List ST):Option (Str × Str × Nat):=rows.zipIdx.findSome? (sL n ds)
def vA (ds:List a3):Prop:=∀ d ∈ ds,af9 d.name/\d.k < 3/\(0 <= d.off/\d.off <= 1000)
structure qm (ds:List a3) (rows:List ST):Prop where
 ln:rows.length <= 6
 gR:∀ r ∈ rows,r.mem.length <= 12
 yp:∀ r ∈ rows,∀ x ∈ r.mem,∃ d ∈ ds,d.name=x
def Rl (t:b7):bW:=fun vs H Q _=>∃ c n ds p qs ms rows,vs=[.ref c,.ref p]/\f6 t H c n ds/\Tk H p qs ms rows/\qm ds rows/\hy ds rows=[]/\∀ I,aN H I->(aL H->aL I)->Q .b4 I
def MX (t:b7):bW:=fun vs H Q _=>∃ c n ds p qs ms rows,vs=[.ref c,.ref p]/\f6 t H c n ds/\Tk H p qs ms rows/\qm ds rows/\hy ds rows=[]/\uy ds rows=none/\∀ I,aN H I->(aL H->aL I)->Q .b4 I
def RH (t:b7):bW:=fun vs H Q _=>∃ c n ds p qs ms rows,vs=[.ref c,.ref p]/\f6 t H c n ds/\0 < n/\Tk H p qs ms rows/\qm ds rows/\aL H/\tM n ds rows=none/\∀ I,aN H I->(aL H->aL I)->Q .b4 I
def kI (l:List Int) (v:Int):Prop:=v ∈ l/\∀ k ∈ l,k <= v
noncomputable def p8 (ds:List a3) (x:Str):Int:=((i3 ds x).map jv).getD 0
noncomputable def ru (ds:List a3) (x:Str):Int:=((i3 ds x).map jo).getD 0
noncomputable def pW (ds:List a3) (x y:Str):Int:=match i3 ds x,i3 ds y with
 | some d,some e=>if d.off - e.near > 0 then d.off - e.near else 0
 | _,_=>0
noncomputable def oA (n:Int) (ds:List a3) (s:List Str) (x:Str):List Int:=if x ∈ s then [] else (s.filter fun y=>nh n ds x y).map (pW ds x)
noncomputable def iL (n:Int) (ds:List a3) (f s:List Str):List Int:=[0] ++ f.map (p8 ds) ++ s.map (ru ds) ++ (ds.map (·.name)).flatMap (oA n ds s)
theorem Ae (h:oT.contains m=false):(ow d).lookup m=none:=Tm oT (QH _) h
theorem Qv (p:Str->Bool) (g:Str->Int):∀ xs:List Str,((xs.map fun x=>if p x=true then some (V.int (g x)) else none).flatMap px)=((xs.filter p).map g).map V.int
 | []=>rfl
 | x :: xs=>by
  rw [e1,qQ,Qv p g xs];by_cases c:p x=true
  .rw [if_pos c,WW c];rfl
  .rw [if_neg c,agy c];rfl
theorem z7:∀ cw:List Int,cw ≠ []->∃ m,m ∈ cw/\∀ k ∈ cw,k <= m
 | [],h=>absurd rfl h
 | [x],_=>⟨x,by simp,fun k au=>by rw [gq.mp au];exact p4 _⟩
 | x :: y :: r,_=>by
  obtain ⟨m,hm,al⟩:=z7 (y :: r) (by simp);by_cases c:x <= m
  .refine ⟨m,hR _ hm,fun k au=>?_⟩;rcases fx.mp au with rfl | au
   .exact c
   .exact al k au
  .refine ⟨x,by simp,fun k au=>?_⟩;rcases fx.mp au with rfl | au
   .exact p4 _
   .exact Int.le_trans (al k au) (by omega)
def aj9 (t:b7):bW:=fun vs H Q _=>∃ c n ds gK a7 f s,vs=[.ref c,.ref gK,.ref a7]/\f6 t H c n ds/\0 < n/\vA ds/\H gK=some (.lst (aW f))/\H a7=some (.lst (aW s))/\(∀ x ∈ f,∃ d ∈ ds,d.name=x)/\(∀ x ∈ s,∃ d ∈ ds,d.name=x)/\f.length <= 12/\s.length <= 12/\aL H/\∀ v,kI (iL n ds f s) v->Q (.int v) H
def alV (t:b7):bW:=fun vs H Q _=>∃ c n ds gK a7 f s,vs=[.ref c,.ref gK,.ref a7]/\f6 t H c n ds/\0 < n/\vA ds/\H gK=some (.lst (aW f))/\H a7=some (.lst (aW s))/\(∀ x ∈ f,∃ d ∈ ds,d.name=x)/\(∀ x ∈ s,∃ d ∈ ds,d.name=x)/\f.length <= 12/\s.length <= 12/\aL H/\∀ v I,aN H I->kI (iL n ds f s) v->Q (.int v) I
theorem aha:cA P base T 3 t.zS t.Bi k6 (Rl t):=by
 refine cH (Ts T) fun KP=>?_;exists T.Ef.ok Qh,9
 obtain ⟨c,n,ds,p,qs,ms,rows,rfl,C,R,J,eJ,q⟩:=h;refine ⟨_,(aS (cF (i:=2) Qh.aH (cc KP aq T.Qb T.zR.bG T.Ms (ak (aa 0) (ak (aa 1) aF))))
   (a5 (dP (zZ (aa 2) (fun _=>rfl)) (a5 oB) ek))),?_⟩
 nofun;refine ⟨c,n,ds,p,qs,ms,rows,rfl,C,R,J.ln,J.gR,fun l H1 s1 cB aM bY=>?_⟩;dsimp only;rw [eJ] at bY;refine dO false (fun Q a0=>?_) (fun z=>nomatch z) (fun _=>?_)
 .exact ⟨_,rfl,_,.inl ⟨_,av.of bY,rfl⟩,a0⟩
 .simp only [hr];exact q H1 s1 cB
theorem adJ:cA P base T 3 t.zq t.Ad k6 (MX t):=by
 refine cH (Io T) fun vY=>cH (xX T) fun pK=>cH (rH T) fun kf=>?_;exists T.D2.ok Bl,9
 obtain ⟨c,n,ds,p,qs,ms,rows,rfl,C,R,J,akm,vK,q⟩:=h;have bC:=gO aq;obtain ⟨⟨eu,gg⟩,ay,wl,aH,ax,_,_⟩:=id C;refine ⟨_,(aS (cF (i:=2) Bl.aH (cc vY aq T.KI T.ul.bG T.Lk (ak (fT rfl (d6 (aa 1)) (ac (sc:=bB Gg) rfl (by ac_nf)) (N:=je) (sel:=[none,none,none]) (fw (M:=["crossing","rows","homes","name","number"]) (by ac_nf)) (eO.of (fun _ _ _ _=>(mr (K:=K) (n:=3) rfl rfl (fC (b9 (i:=0) (d1 (N:=je) (by ac_nf) rfl)) (fC (b9 (i:=1) (d1 (N:=je) (by ac_nf) rfl)) (fC (b9 (i:=2) (d1 (N:=je) (by ac_nf) rfl)) mx))))) (fun _ _ _ _=>⟨_,hO,by walk_at "B"⟩) (fun _ _ _ _=>⟨_,(aa 2),by walk_at "B"⟩))) aF)))
   (a5 (ft fq rfl (d6 (iR (aa 0) T.lc T.xR pK aq T.wR .nil cU)) (b9 (i:=3) Bl.aH) (aS (cF (i:=4) Bl.aH (o4 bC (aa 2) (aa 3) (fun _ _=>rfl)))
   (a5 (dP (cY lp (bh ed (bh bO (aa 1) (aa 4)) aD) (bN (fN (aa 0) T.lc T.o1 kf aq T.pq .nil cU (ak (aa 3) aF)) rfl) (cu _)) (a5 oB) ek)))))),?_⟩
 nofun;have iv:(qs.map V.ref).length=rows.length:=by rw [aP,R.bY]
 refine ⟨⟨_,av.of R.at_⟩,?_⟩;refine Gc.lg (xs:=qs.map V.ref) (zs:=ms.map V.ref) (av.of R.at_) (by rw [iv];exact cP J.ln (by decide)) (by rw [iv,aP,R.cL]) (fun j v z N aI aO bb=>?_) (fun pm IG=>?_)
 .obtain ⟨kv,e_,rfl⟩:=bZ aI;obtain ⟨DQ,lz,rfl⟩:=bZ aO;have aJ:j < rows.length:=by rw [<- R.bY];exact (cv.mp e_).1
  have e:=(R.al j kv DQ _ e_ lz (aZ aJ)).1;nofun;exact ⟨_,cJ.of e,rfl,_,_,rfl,_,_,rfl,_,_,rfl,rfl,Sub.vq,bb⟩
 .have sp:aN H (upd H pm (.lst (ms.map V.ref))):=bq IG;have np:aL H->aL (upd H pm (.lst (ms.map V.ref))):=fun n=>n.upd
  have ep:(upd H pm (.lst (ms.map V.ref))) pm=some (.lst (ms.map V.ref)):=db;generalize upd H pm (.lst (ms.map V.ref))=fm at sp np ep ⊢;refine ⟨pm,ms,rows.map (·.mem),rfl,⟨ep,by rw [R.cL,aP],fun i m x hm aj=>?_⟩,by rw [aP];exact J.ln,fun x aj=>?_,fun h H1 s1 cB fY af=>?_⟩
  .obtain ⟨r,fi,rfl⟩:=bZ aj;have f':qs[i]? = some (qs[i]'(by rw [R.bY];exact (cv.mp fi).1)):=aZ _;exact sp _ _ (R.al i _ m r f' hm fi).2
  .obtain ⟨r,fi,rfl⟩:=bJ.mp aj;exact J.gR r fi
  .have kR:=sp.trans s1;have xx:=C.same kR;refine ⟨_,_,kR _ _ ax,kF _ _ _ (by ac_nf),c,n,ds,rfl,xx,fun ez ix=>⟨ez,rfl,⟨_,av.of db⟩,?_⟩⟩;have sB:=kR.trans (bq (o:=.lst (aW (ds.map (·.name)))) ix);have ao:=(bq (o:=.lst (aW (ds.map (·.name)))) ix) _ _ af;have jQ:aL H->aL (upd H1 ez (.lst (aW (ds.map (·.name))))):=fun n=>(cB (np n)).upd
   have nO:(upd H1 ez (.lst (aW (ds.map (·.name))))) ez=some (.lst (aW (ds.map (·.name)))):=db;generalize upd H1 ez (.lst (aW (ds.map (·.name))))=k7 at sB ao jQ nO ⊢;refine dY.list (xs:=aW (ds.map (·.name))) (fun i σ I=>(∃ x y,σ=[~~~c,~~~p,~~~h,x,y])/\I=k7/\uy ds rows=(ds.drop i).findSome? (yg rows)) ?_ ?_ ?_ ?_
   .exact ⟨⟨_,_,rfl⟩,rfl,rfl⟩
   .rintro i σ I ah ⟨_,rfl,_⟩;exact av.of nO
   .rintro i v σ I aI bf;ac_rfl
    obtain ⟨⟨x,y,rfl⟩,rfl,er⟩:=bf;subst aY;unfold aW at aI;obtain ⟨nm,k1,rfl⟩:=bZ aI;obtain ⟨d,hd,rfl⟩:=bZ k1;obtain ⟨ah,afu⟩:=cv.mp hd;have u9:=cm hd;have cT:told rows d.name=true:=by
     have:=ES.mp akm d.name (bJ.mpr ⟨d,u9,rfl⟩);simpa using this
    obtain ⟨k,r,aau,q3,jD,qC⟩:=ph cT;have eK:k < rows.length:=(cv.mp jD).1;have ade:yg rows d=if r.lo < d.least then some (d,k) else none:=by
     unfold yg;rw [q3,uu,jD,uu]
    rw [sv ah,HE,afu,ade] at er;have bp:gM I h (.str d.name) (some (.int (k:Int))):=by rw [<- aau];exact gM.k (k:=bH d.name) ao
    have SQ:qs[k]? = some (qs[k]'(by rw [R.bY];exact eK)):=aZ _;have Yl:ms[k]? = some (ms[k]'(by rw [R.cL];exact eK)):=aZ _;have ZO:=sB _ _ (R.al k _ _ r SQ Yl jD).1;simp only [hN,dx,nk,nu];exists (fun az aB=>aB=I/\az=[~~~c,~~~p,~~~h,some (.str d.name),some (.int (k:Int))]),2
    .nofun;exact ⟨_,bp,dF _ _ ⟨rfl,rfl⟩⟩
    rintro cb aB ⟨rfl,rfl⟩;subst aY;dsimp only;refine dO (decide (r.lo < d.least)) (fun Q a0=>?_) (fun ae=>?_) (fun ae=>?_)
    .nofun;exact ⟨_,av.of (sB _ _ R.at_),_,bt (by rw [cN,SQ];rfl),_,rfl,_,cJ.of ZO,_,bt (j:=0) rfl,_,_,sB _ _ ax,kF _ _ _ (by ac_nf),c,n,ds,i,d,rfl,C.same sB,hd,fun a W=>⟨a,rfl,_,W.aik T,_,rfl,_,rfl,a0⟩⟩
    .have ae:=of_decide_eq_true ae;rw [if_pos ae] at er;replace er:uy ds rows=some (d,k):=er;rw [er] at vK;cases vK
    .have ae:=of_decide_eq_false ae;rw [if_neg ae] at er;simp only [hr];exact ⟨⟨_,_,rfl⟩,trivial,er⟩
   .rintro σ I bf;ac_rfl
    obtain ⟨⟨x,y,rfl⟩,rfl,er⟩:=bf;subst aY;rw [eY,aP,wL] at er;exact q _ sB jQ
theorem ajI:cA P base T 4 t.BR t.AV k6 (RH t):=by
 refine cH (Sa T) fun Gs=>?_;exists T.Kd.ok w8,9
 obtain ⟨c,n,ds,p,qs,ms,rows,rfl,C,aQ,R,J,bE,vK,q⟩:=h;obtain ⟨⟨eu,gg⟩,ay,wl,aH,ax,_,_⟩:=id C;refine ⟨_,(a5 (ft fq rfl (A' rfl T.CC (ak (aa 1) aF)) (mr (K:=K) (n:=2) rfl rfl (fC (b9 (i:=2) w8.aH) (fC (b9 (i:=3) w8.aH) mx))) (a5 (ft fq rfl (d6 (bh ed (aa 3) aD)) (b9 (i:=4) w8.aH) (a5 (ft fq rfl (d6 (bh ed (aa 3) aD)) (b9 (i:=5) w8.aH) (a5 (dP (g5.pt (ou (cY pP (aa 4) (aa 5) (cu _)) (oi (lR (cc Gs aq T.U9 T.KF.bG T.MW (ak (aa 0) (ak (aa 4) (ak (aa 5) aF)))))))) (a5 oB) ek)))))))),?_⟩;nofun;have P':∀ {x:Str},(∃ d ∈ ds,d.name=x)->∃ (i:Nat) (d:a3),ds[i]? = some d/\d.name=x/\i3 ds x=some d:=fun ⟨d,hd,e⟩=>by
  obtain ⟨i,ah⟩:=iN hd;exact ⟨i,d,ah,e,by rw [<- e];exact iF eu ah⟩
 refine ⟨⟨_,av.of R.at_⟩,?_⟩;refine dY.enum (xs:=qs.map V.ref) (fun i σ I=>(∃ x y z u,σ=[~~~c,~~~p,x,y,z,u])/\aN H I/\aL I/\tM n ds rows=((rows.drop i).zipIdx i).findSome? (sL n ds)) ?_ ?_ ?_ ?_
 .exact ⟨⟨_,_,_,_,rfl⟩,aN.refl _,bE,rfl⟩
 .rintro i σ I ah ⟨_,bA,_⟩;exact av.of (bA _ _ R.at_)
 .rintro i v σ I gy aI ⟨⟨x,y,z,u,rfl⟩,bA,cB,er⟩ n8;obtain ⟨qG,f',rfl⟩:=bZ aI;have ah:i < rows.length:=by rw [<- R.bY];exact (cv.mp f').1
  have hH:rows[i]? = some rows[i]:=aZ ah;have nD:ms[i]? = some (ms[i]'(by rw [R.cL];exact ah)):=aZ _;obtain ⟨wx,em⟩:=R.al i qG _ _ f' nD hH;generalize ms[i]'(by rw [R.cL];exact ah)=m at nD wx em;have vh:=cm hH;have ik:=J.yp _ vh;have m_:=J.gR _ vh;rw [sv ah,List.zipIdx_cons,HE] at er;generalize ang:rows[i]=r at wx em ik m_ er;have s2:aN I (upd I gy (.tup [.int i,.ref qG])):=bq n8;have sB:=bA.trans s2;have jQ:aL (upd I gy (.tup [.int i,.ref qG])):=cB.upd;refine zO ?_;generalize upd I gy (.tup [.int i,.ref qG])=k7 at s2 sB jQ ⊢;have Sp:=sB _ _ wx;have z1:=sB _ _ em;nofun;refine ⟨_,cJ.of Sp,_,bt (j:=2) rfl,m,rfl,⟨_,av.of z1⟩,?_⟩;generalize apG:((rows.drop (i + 1)).zipIdx (i + 1)).findSome? (sL n ds)=l7 at er;refine dY.list (xs:=aW r.mem) (fun j σ aB=>(∃ z u,σ=[~~~c,~~~p,some (.int (i:Int)),~~~qG,z,u])/\aB=k7/\sL n ds (r,i)=(r.mem.drop j).findSome? (fun x=>r.mem.findSome? fun y=>oV n ds i x y)) ?_ ?_ ?_ ?_
  .exact ⟨⟨_,_,rfl⟩,rfl,rfl⟩
  .rintro j σ aB aJ ⟨_,rfl,_⟩;exact av.of z1
  .rintro j v σ aB aI bf;ac_rfl
   obtain ⟨⟨z,u,rfl⟩,rfl,hT⟩:=bf;subst aY;unfold aW at aI;obtain ⟨cq,Pk,rfl⟩:=bZ aI;obtain ⟨aJ,ajf⟩:=cv.mp Pk;rw [sv aJ,HE,ajf] at hT;obtain ⟨i1,eB,ve,o5,nY⟩:=P' (ik cq (cm Pk));generalize ao_:(r.mem.drop (j + 1)).findSome? (fun x=>r.mem.findSome? fun y=>oV n ds i x y)=anW at hT;nofun;refine ⟨_,cJ.of Sp,_,bt (j:=2) rfl,m,rfl,⟨_,av.of z1⟩,?_⟩;refine dY.list (xs:=aW r.mem) (fun l σ bw=>(∃ u,σ=[~~~c,~~~p,some (.int (i:Int)),~~~qG,some (.str cq),u])/\bw=aB/\(r.mem.findSome? fun y=>oV n ds i cq y)=(r.mem.drop l).findSome? (fun y=>oV n ds i cq y)) ?_ ?_ ?_ ?_
   .exact ⟨⟨_,rfl⟩,rfl,rfl⟩
   .rintro l σ bw aM ⟨_,rfl,_⟩;exact av.of z1
   .rintro l v σ bw aI bf;ac_rfl
    obtain ⟨⟨u,rfl⟩,rfl,eJ⟩:=bf;subst aY;unfold aW at aI;obtain ⟨d9,w1,rfl⟩:=bZ aI;obtain ⟨aM,h9⟩:=cv.mp w1;rw [sv aM,HE,h9] at eJ;obtain ⟨i2,fA,hd2,q4,alX⟩:=P' (ik d9 (cm w1));have Bb:nh n ds cq d9=mt n eB fA:=by unfold nh;rw [nY,alX]
    have Ww:oV n ds i cq d9=if cq ≠ d9/\mt n eB fA=true then some (cq,d9,i) else none:=by unfold oV;rw [Bb]
    rw [Ww] at eJ;simp only [hN,nk,nu];refine dO (decide (cq ≠ d9) && mt n eB fA) (fun Q a0=>?_) (fun ae=>?_) (fun ae=>?_)
    .nofun;by_cases cz:cq=d9
     .rw [if_neg (by simp [cz])];rw [decide_eq_false (fun z=>z cz),m'] at a0;exact a0
     .rw [if_pos (by simpa using cz)];rw [decide_eq_true cz,ky] at a0;exact ⟨c,n,ds,i1,i2,eB,fA,by rw [o5,q4],C.same sB,aQ,ve,hd2,jQ,_,rfl,a0⟩
    .rw [g_,decide_eq_true_eq] at ae;rw [if_pos ae] at eJ;replace eJ:(r.mem.findSome? fun y=>oV n ds i cq y)=some (cq,d9,i):=eJ;rw [eJ] at hT;replace hT:sL n ds (r,i)=some (cq,d9,i):=hT;rw [hT] at er;replace er:tM n ds rows=some (cq,d9,i):=er;rw [er] at vK;cases vK
    .have ae:¬ (cq ≠ d9/\mt n eB fA=true):=fun z=>by
      rw [decide_eq_true z.1,z.2] at ae;exact nomatch ae
     rw [if_neg ae] at eJ;simp only [hr];exact ⟨⟨_,rfl⟩,trivial,eJ⟩
   .rintro σ bw bf;ac_rfl
    obtain ⟨⟨u,rfl⟩,rfl,eJ⟩:=bf;subst aY;rw [eY,wL] at eJ;replace eJ:(r.mem.findSome? fun y=>oV n ds i cq y)=none:=eJ;rw [eJ] at hT;exact ⟨⟨_,_,rfl⟩,rfl,hT⟩
  .rintro σ aB bf;ac_rfl
   obtain ⟨⟨z,u,rfl⟩,rfl,hT⟩:=bf;subst aY;rw [eY,wL] at hT;replace hT:sL n ds (r,i)=none:=hT;rw [hT] at er;exact ⟨⟨_,_,_,_,rfl⟩,sB,jQ,er⟩
 .rintro σ I bf;ac_rfl
  obtain ⟨⟨x,y,z,u,rfl⟩,bA,cB,er⟩:=bf;subst aY;rw [aP,R.bY,wL] at er;exact q _ bA (fun _=>cB)
theorem adC:cA P base T 4 t.HZ t.DL F7 (aj9 t):=by
 refine cK.forget (sp:=alV t) ?_ fun vs H Q E h=>?_
 .have Gs:cK P w K mg base dE 3 t.ZB t.Dq rB (N8 t):=Sa T;have ahF:cK P w K mg base dE 3 t.za t.zX rB (Q5 t):=agC T;have pK:cK P w K mg base dE 3 t.yj t.yT ["self"] (Qz t):=(xX T).mono (by decide);have kf:cK P w K mg base dE 3 t.wJ t.zm j2 (Py t):=(rH T).mono (by decide);have D9:qt P w K mg base dE 3 (tS t) "ready" ["self"] (tH t):=As (QG T) (by decide);have Er:qt P w K mg base dE 3 (tS t) "fade" ["self"] (tw t):=As (Vl T) (by decide);exists T.Fw.ok FQ,9
  obtain ⟨c,n,ds,gK,a7,f,s,rfl,C,aQ,bL,hf,aC,fin,sin,nI,la,bE,q⟩:=h;obtain ⟨⟨eu,gg⟩,ay,wl,aH,ax,_,_⟩:=id C;refine ⟨_,(aS (cF (i:=3) FQ.aH (gL (ak aD aF)))
   (aS (ee (gk ip F9 Mz D' (aa 3) (ak (fT rfl (d6 (aa 1)) (ac (sc:=bB wF) rfl (by ac_nf)) (N:=Ay) (sel:=[none,some 0]) (fw (M:=Ah) (by ac_nf)) (eO.of (fun _ _ _ _=>(b9 (i:=0) (d1 (N:=Ay) (by ac_nf) rfl))) (fun _ _ _ _=>⟨_,hO,by walk_at "B"⟩) (fun _ _ _ _=>⟨_,(B7 (fN (aa 1) T.lc T.o1 kf aq T.pq .nil cU (ak (aa 0) aF)) Er aq cU),by walk_at "B"⟩))) aF)))
   (aS (ee (gk ip F9 Mz D' (aa 3) (ak (fT rfl (d6 (aa 2)) (ac (sc:=bB wF) rfl (by ac_nf)) (N:=Ay) (sel:=[none,some 0]) (fw (M:=Ah) (by ac_nf)) (eO.of (fun _ _ _ _=>(b9 (i:=0) (d1 (N:=Ay) (by ac_nf) rfl))) (fun _ _ _ _=>⟨_,hO,by walk_at "B"⟩) (fun _ _ _ _=>⟨_,(B7 (fN (aa 1) T.lc T.o1 kf aq T.pq .nil cU (ak (aa 0) aF)) D9 aq cU),by walk_at "B"⟩))) aF)))
   (aS (ft fq rfl (d6 (iR (aa 0) T.lc T.xR pK aq T.wR .nil cU)) (TA (i:=4) FQ.aH rfl (j5 rfl)) (a5 (dP (cY CV (aa 4) (aa 2) (by with_unfolding_all rfl)) (a5 (ee (gk ip F9 Mz D' (aa 3) (ak (fT rfl (d6 (aa 2)) (ac (sc:=bB wF) rfl (by ac_nf)) (N:=["other","crossing","one"]) (sel:=[none,some 0,some 4]) (fw (M:=Ah) (by ac_nf)) (eO.of (fun _ _ _ _=>(b9 (i:=0) (d1 (N:=["other","crossing","one"]) (by ac_nf) rfl))) (fun _ _ _ _=>⟨_,(nF (lR (cc Gs aq T.U9 T.KF.bG T.MW (ak (aa 1) (ak (aa 2) (ak (aa 0) aF)))))),by walk_at "B"⟩) (fun _ _ _ _=>⟨_,(cc ahF aq T.ama T.PP.bG T.aiZ (ak (aa 1) (ak (aa 2) (ak (aa 0) aF)))),by walk_at "B"⟩))) aF)))) ek)))
   (a5 (cy (eT (DU rfl) rfl T.De Aa (ak (aa 3) aF)))))))),?_⟩
  exists (fun az I=>aN H I/\aL I/\∃ c0,H c0=none/\I c0=some (.lst ([(0:Int)].map V.int))/\az=[~~~c,~~~gK,~~~a7,~~~c0,none]),3
  .nofun;exact ⟨by decide,fun c0 jk=>bL _ _ ⟨bq jk,bE.upd,c0,jk,db,rfl⟩⟩
  rintro fK H1 ⟨s1,cB,c0,jk,dH,rfl⟩;subst aY;exists (fun az I=>aN H I/\aL I/\I c0=some (.lst (([0] ++ f.map (p8 ds)).map V.int))/\az=[~~~c,~~~gK,~~~a7,~~~c0,none]),5
  .nofun;refine ⟨.inl ⟨_,av.of dH⟩,⟨_,av.of (s1 _ _ hf)⟩,?_⟩;refine Gc.lg (xs:=aW f) (zs:=(f.map (p8 ds)).map V.int) (av.of (s1 _ _ hf)) (by rw [eY];exact cP nI (by decide)) (by rw [eY,aP,aP]) (fun j v z N aI aO bb=>?_) (fun pl c4=>?_)
   .unfold aW at aI;obtain ⟨x,aj,rfl⟩:=bZ aI;obtain ⟨y,a9,rfl⟩:=bZ aO;obtain ⟨dX,eG,rfl⟩:=bZ a9;rw [aj] at eG;cases eG;obtain ⟨d,hd,rfl⟩:=fin x (cm aj);obtain ⟨i,ah⟩:=iN hd;have JH:p8 ds d.name=jv d:=by unfold p8;rw [iF eu ah];rfl
    rw [JH] at bb;nofun;refine ⟨Sub.name,_,_,s1 _ _ ax,kF _ _ _ (by ac_nf),c,n,ds,i,d,rfl,C.same s1,ah,fun a W=>?_⟩;obtain ⟨u6,R_,q7⟩:=id W;exact ⟨a,rfl,_,_,_,q7,⟨_,u6,rfl⟩,Ae (by ac_nf),a,d,rfl,W,rfl,bb⟩
   .refine ⟨pl,rfl,_,(bq c4) _ _ dH,_,db,?_,dF _ _ ⟨(s1.trans (bq c4)).ff jk,(cB.upd).upd,by rw [db,e5],rfl⟩⟩;rw [aP,aP,aP];exact cP (show _ <= 13 by show 1 + f.length <= 13;omega) (by decide)
  rintro cb aB ⟨s2,cD,dI,rfl⟩;subst aY;exists (fun az I=>aN H I/\aL I/\I c0=some (.lst (([0] ++ f.map (p8 ds) ++ s.map (ru ds)).map V.int))/\az=[~~~c,~~~gK,~~~a7,~~~c0,none]),5
  .nofun;refine ⟨.inl ⟨_,av.of dI⟩,⟨_,av.of (s2 _ _ aC)⟩,?_⟩;refine Gc.lg (xs:=aW s) (zs:=(s.map (ru ds)).map V.int) (av.of (s2 _ _ aC)) (by rw [eY];exact cP la (by decide)) (by rw [eY,aP,aP]) (fun j v z N aI aO bb=>?_) (fun pl c4=>?_)
   .unfold aW at aI;obtain ⟨x,aj,rfl⟩:=bZ aI;obtain ⟨y,a9,rfl⟩:=bZ aO;obtain ⟨dX,eG,rfl⟩:=bZ a9;rw [aj] at eG;cases eG;obtain ⟨d,hd,rfl⟩:=sin x (cm aj);obtain ⟨i,ah⟩:=iN hd;have JH:ru ds d.name=jo d:=by unfold ru;rw [iF eu ah];rfl
    rw [JH] at bb;nofun;refine ⟨Sub.name,_,_,s2 _ _ ax,kF _ _ _ (by ac_nf),c,n,ds,i,d,rfl,C.same s2,ah,fun a W=>?_⟩;obtain ⟨u6,R_,q7⟩:=id W;exact ⟨a,rfl,_,_,_,q7,⟨_,u6,rfl⟩,Ae (by ac_nf),a,d,rfl,W,rfl,bb⟩
   .refine ⟨pl,rfl,_,(bq c4) _ _ dI,_,db,?_,dF _ _ ⟨(s2.trans (bq c4)).ff jk,(cD.upd).upd,by rw [db,<- e5],rfl⟩⟩;rw [aP,aP,aP,dZ,aP];exact cP (show _ <= 25 by show 1 + f.length + s.length <= 25;omega) (by decide)
  rintro fS bw ⟨s3,dp,fQ,rfl⟩;subst aY;exists (fun az I=>aN H I/\aL I/\I c0=some (.lst ((iL n ds f s).map V.int))/\∃ dU,az=[~~~c,~~~gK,~~~a7,~~~c0,dU]),5
  .nofun;have uz:=C.same s3;refine ⟨_,_,s3 _ _ ax,kF _ _ _ (by ac_nf),c,n,ds,rfl,uz,fun ez ix=>⟨ez,rfl,⟨_,av.of db⟩,?_⟩⟩;have sB:=s3.trans (bq (o:=.lst (aW (ds.map (·.name)))) ix);have jQ:aL (upd bw ez (.lst (aW (ds.map (·.name))))):=dp.upd;have nO:(upd bw ez (.lst (aW (ds.map (·.name))))) ez=some (.lst (aW (ds.map (·.name)))):=db;have O4:=(bq (o:=.lst (aW (ds.map (·.name)))) ix) _ _ fQ;have al1:ez ≠ c0:=fun z=>by rw [z,fQ] at ix;cases ix
   generalize upd bw ez (.lst (aW (ds.map (·.name))))=k7 at sB jQ nO O4 ⊢;refine dY.list (xs:=aW (ds.map (·.name))) (fun i σ I=>(∃ x,σ=[~~~c,~~~gK,~~~a7,~~~c0,x])/\aN H I/\aL I/\I ez=some (.lst (aW (ds.map (·.name))))/\I c0=some (.lst (([(0:Int)] ++ f.map (p8 ds) ++ s.map (ru ds) ++ ((ds.map fun d:a3=>d.name).take i).flatMap (oA n ds s)).map V.int))/\(((ds.map fun d:a3=>d.name).take i).flatMap (oA n ds s)).length <= 12 * i) ?_ ?_ ?_ ?_
   .exact ⟨⟨_,rfl⟩,sB,jQ,nO,by rw [tl,afn,AZ];exact O4,by simp⟩
   .rintro i σ I ah bf;ac_rfl
    obtain ⟨_,_,_,e,_⟩:=bf;subst aY;exact av.of e
   .rintro i v σ I aI bf;ac_rfl
    obtain ⟨⟨dU,rfl⟩,bA,dK,Oj,hA,Ba⟩:=bf;subst aY;unfold aW at aI;obtain ⟨nm,k1,rfl⟩:=bZ aI;have afO:=k1;obtain ⟨d,hd,rfl⟩:=bZ afO;have aok:i < 12:=by have:=(cv.mp hd).1;omega
    have oW:=iF eu hd;simp only [hN,nk,nu];refine dO (!decide (d.name ∈ s)) (fun Q a0=>?_) (fun ae=>?_) (fun ae=>?_)
    .nofun;refine ⟨_,.inl (av.of (bA _ _ aC)),rfl,y6 s,?_⟩;rw [yZ];exact a0
    .have ae:d.name ∉ s:=by simpa using ae
     have r0:oA n ds s d.name=(s.filter fun y=>nh n ds d.name y).map (pW ds d.name):=by unfold oA;rw [if_neg ae]
     nofun;refine ⟨.inl ⟨_,av.of hA⟩,⟨_,av.of (bA _ _ aC)⟩,?_⟩;refine Gc.pG (xs:=aW s) (ss:=s.map fun y=>if nh n ds d.name y=true then some (V.int (pW ds d.name y)) else none) (av.of (bA _ _ aC)) (by rw [eY];exact cP la (by decide)) (by rw [eY,aP]) (fun l v o ys N aI aT bb=>?_) (fun pl c4=>?_)
     .unfold aW at aI;obtain ⟨d9,w1,rfl⟩:=bZ aI;obtain ⟨dX,eG,rfl⟩:=bZ aT;rw [w1] at eG;cases eG;obtain ⟨e,he,rfl⟩:=sin d9 (cm w1);obtain ⟨j,aJ⟩:=iN he;have rE:=iF eu aJ;have CO:nh n ds d.name e.name=mt n d e:=by unfold nh;rw [oW,rE]
      have ac3:pW ds d.name e.name=if d.off - e.near > 0 then d.off - e.near else 0:=by unfold pW;rw [oW,rE]
      rw [CO,ac3] at bb;nofun;refine ⟨Sub.name,c,n,ds,i,j,d,e,rfl,C.same bA,aQ,hd,aJ,dK,_,rfl,?_⟩;cases Bb:mt n d e with
      | true=>
       rw [if_pos rfl];rw [Bb,if_pos rfl] at bb;exact ⟨c,n,ds,i,j,d,e,rfl,C.same bA,hd,aJ,bb⟩
      | false=>
       rw [if_neg (by decide)];rw [Bb,if_neg (by decide)] at bb;simpa using bb
     .rw [Qv (fun y=>nh n ds d.name y) (pW ds d.name),<- r0];have pO:(oA n ds s d.name).length <= 12:=by rw [r0,aP];exact cP (yk ..) la
      refine ⟨pl,rfl,_,(bq c4) _ _ hA,_,db,?_,⟨_,rfl⟩,(bA.trans (bq c4)).ff jk,(dK.upd).upd,by rw [aG al1];exact (bq c4) _ _ Oj,?_,?_⟩
      .rw [aP,aP,dZ,dZ,dZ,aP,aP];exact cP (show _ <= 500 by show 1 + f.length + s.length + _ + _ <= 500;omega) (by decide)
      .rw [db,iW k1,sA,<- e5];simp
      .rw [iW k1,sA,dZ,qQ,afn,AZ];omega
    .have ae:d.name ∈ s:=by simpa using ae
     have r0:oA n ds s d.name=[]:=by unfold oA;rw [if_pos ae]
     simp only [hr];refine ⟨⟨_,rfl⟩,bA,dK,Oj,?_,?_⟩
     .rw [iW k1,sA,qQ,r0];simpa using hA
     .rw [iW k1,sA,dZ,qQ,r0];show _ + 0 <= _;omega
   .rintro σ I bf;ac_rfl
    obtain ⟨⟨dU,rfl⟩,bA,dK,_,hA,_⟩:=bf;subst aY;rw [eY,gF] at hA;exact dF _ _ ⟨bA,dK,hA,_,rfl⟩
  rintro kG cI ⟨s4,dK,hA,dU,rfl⟩;subst aY;nofun;obtain ⟨nr,af,ao⟩:=z7 (iL n ds f s) (by unfold iL;simp);exact ⟨_,av.of hA,nr,af,ao,q nr cI s4 ⟨af,ao⟩⟩
 .obtain ⟨c,n,ds,gK,a7,f,s,rfl,C,aQ,bL,hf,aC,fin,sin,nI,la,bE,q⟩:=h;exact ⟨bE,c,n,ds,gK,a7,f,s,rfl,C,aQ,bL,hf,aC,fin,sin,nI,la,bE,fun v I bA aI=>⟨bA,q v aI⟩⟩
noncomputable abbrev ir:List Str:=[ab "crossing",ab "many",ab "leasts",ab "mosts",ab "members",ab "sorts",ab "homes",ab "changes"]
noncomputable def l0 (c:Addr) (k:Nat) (le mo de c_ aT ch:Addr):List (Str × V):=[(ab "crossing",V.ref c),(ab "many",V.int k),(ab "leasts",V.ref le),(ab "mosts",V.ref mo),(ab "members",V.ref de),(ab "sorts",V.ref c_),(ab "homes",V.ref aT),(ab "changes",V.ref ch)]
theorem rt (c:Addr) (k:Nat) (le mo de c_ aT ch:Addr):(l0 c k le mo de c_ aT ch).map (·.1)=ir:=rfl
noncomputable def d3 (ds:List a3) (r:ST):Str:=((r.mem.head?.bind (i3 ds)).map iA).getD (ab "")
noncomputable def stK (i j:Nat):List Key:=[hz (i:Int),hz (j:Int)]
def k0 (n:Int) (ds:List a3) (rows:List ST) (i j:Nat) (kvs:List (List Key × V)):Prop:=kvs.length <= 6 * i + j/\∀ (a b:Nat) (r s:ST),rows[a]? = some r->rows[b]? = some s->a ≠ b->a < i\/(a=i/\b < j)->∃ v,cR kvs (stK a b)=some (.int v)/\kI (iL n ds r.mem s.mem) v
section
variable (P:Program) (w:World)
def hD (t:b7) (H:aw) (a c:Addr) (n:Int) (ds:List a3) (rows:List ST):Prop:=∃ ay le mo de c_ aT ch ms kvs,H a=some (.ins t.fH ay (l0 c rows.length le mo de c_ aT ch))/\f6 t H c n ds/\H le=some (.lst (rows.map fun r=>V.int r.lo))/\H mo=some (.lst (rows.map fun r=>V.int r.ah))/\mJ H de ms (rows.map (·.mem))/\H c_=some (.lst (aW (rows.map (d3 ds))))/\H aT=some (.bu (hu (rows.map (·.mem))))/\iY P w H ch kvs/\k0 n ds rows rows.length 0 kvs
def N2 (t:b7):bW:=fun vs H Q _=>∃ a ay c n ds p qs ms rows,vs=[.ref a,.ref c,.ref p]/\H a=some (.ins t.fH ay [])/\f6 t H c n ds/\0 < n/\vA ds/\Tk H p qs ms rows/\qm ds rows/\(∀ r ∈ rows,r.mem ≠ [])/\aL H /\
 ∀ I,c3 a H I->aL I->hD P w t I a c n ds rows->Q .b4 I
end
theorem Ys (h:stK a b=stK i j):a=i/\b=j:=by
 unfold stK at h;simp at h;omega
theorem k0.nil (n:Int) (ds:List a3) (rows:List ST):k0 n ds rows 0 0 []:=⟨gv _,fun a b r s _ _ _ h=>by omega⟩
theorem k0.skip {rows:List ST} (h:k0 n ds rows i i kvs):k0 n ds rows i (i + 1) kvs:=⟨by have:=h.1;omega,fun a b r s aq aC mL aA=>h.2 a b r s aq aC mL (by omega)⟩
theorem k0.next {rows:List ST} (aM:rows.length <= 6) (h:k0 n ds rows i rows.length kvs):k0 n ds rows (i + 1) 0 kvs:=⟨by have:=h.1;omega,fun a b r s aq aC mL aA=>h.2 a b r s aq aC mL (by
 have:=(cv.mp aC).1
 omega)⟩
theorem ab2 (kvs:List (List Key × V)) (k:List Key) (v:V):(eg kvs k v).length <= kvs.length + 1:=by
 unfold eg;split
 .rw [aP];omega
 .rw [dZ];exact b8 _
theorem k0.put {rows:List ST} (h:k0 n ds rows i j kvs) (aq:rows[i]? = some r) (aC:rows[j]? = some s) (aI:kI (iL n ds r.mem s.mem) v):k0 n ds rows i (j + 1) (eg kvs (stK i j) (.int v)):=by
 refine ⟨by have:=h.1;have:=ab2 kvs (stK i j) (.int v);omega,fun a b df ai fi rq mL aA=>?_⟩;rw [Rt];by_cases c:stK a b=stK i j
 .rw [if_pos c];obtain ⟨rfl,rfl⟩:=Ys c;rw [aq] at fi;rw [aC] at rq;cases fi;cases rq;exact ⟨v,rfl,aI⟩
 .rw [if_neg c];exact h.2 a b df ai fi rq mL (by
   rcases aA with z | ⟨fV,fj⟩
   .exact .inl z
   .by_cases z:b=j
    .exact absurd (by rw [fV,z]) c
    .exact .inr ⟨fV,by omega⟩)
theorem Tk.tO {a p C ay:Addr} {rows:List ST} (h:Tk H p qs ms rows) (s:c3 a H I) (aR:H a=some (.ins C ay [])):Tk I p qs ms rows:=by
 refine ⟨s _ _ (bK h.at_ aR (by intro z;cases z)) h.at_,h.bY,h.cL,fun i q m r x y z=>?_⟩;obtain ⟨ax,aK⟩:=h.al i q m r x y z;exact ⟨s _ _ (bK ax aR (by intro z;cases z)) ax,s _ _ (bK aK aR (by intro z;cases z)) aK⟩
theorem Fl {H:aw} {p b C D ay kg:Addr} {x:Str × V} {aX:List (Str × V)} (ar:H p=some (.ins C ay [])) (ae:H b=some (.ins D kg (x :: aX))):b ≠ p:=fun z=>by
 subst z;rw [ar] at ae;cases ae
theorem aab {t:b7} {H I:aw} {p a C ay:Addr} {d:a3} (ar:H p=some (.ins C ay [])) (jr:c3 p H I) (h:fa t H a d):fa t I a d:=by
 obtain ⟨af,kg,e⟩:=h;exact ⟨af,kg,jr _ _ (Fl ar e) e⟩
theorem EC {t:b7} {H I:aw} {p c C ay:Addr} {n:Int} {ds:List a3} (ar:H p=some (.ins C ay [])) (jr:c3 p H I) (h:f6 t H c n ds):f6 t I c n ds:=by
 obtain ⟨h0,kg,wl,aH,ax,⟨as,dH,dI,fQ⟩,bU⟩:=h;exact ⟨h0,kg,wl,aH,jr _ _ (Fl ar ax) ax,⟨as,jr _ _ (bK dH ar (by intro z;cases z)) dH,dI,fun i a d af ao=>aab ar jr (fQ i a d af ao)⟩,jr _ _ (bK bU ar (by intro z;cases z)) bU⟩
theorem mJ.upd {b p:Addr} (h:mJ H p ms dv) (ae:H b=some u) (bC:∀ xs,u ≠ .lst xs):mJ (upd H b o) p ms dv:=by
 refine ⟨by rw [aG (bK h.at_ ae (fun z=>bC _ z.symm))];exact h.at_,h.ln,fun i m x a c=>?_⟩;have e:=h.al i m x a c;rw [aG (bK e ae (fun z=>bC _ z.symm))];exact e
section
variable {w:World} {K:bk} {mg:Str->Option Value} {t:b7} {H:aw} {a c ay le mo de c_ aT ch:Addr} {k:Nat}
theorem EA (T:Txt w K mg t) (e:H a=some (.ins t.fH ay (l0 c k le mo de c_ aT ch))):gm K H a (ab "many") (.int k):=⟨_,ay,_,e,T.kb,T.U4,gY ir 1 (rt ..) (by ac_nf) rfl⟩
theorem Ps (T:Txt w K mg t) (e:H a=some (.ins t.fH ay (l0 c k le mo de c_ aT ch))):gm K H a (ab "members") (.ref de):=⟨_,ay,_,e,T.kb,T.EH,gY ir 4 (rt ..) (by ac_nf) rfl⟩
theorem ME (T:Txt w K mg t) (e:H a=some (.ins t.fH ay (l0 c k le mo de c_ aT ch))):gm K H a (ab "changes") (.ref ch):=⟨_,ay,_,e,T.kb,T.RY,gY ir 7 (rt ..) (by ac_nf) rfl⟩
end
theorem ZG:cA P base T 5 t.vJ t.zL Bv (N2 P w t):=by
 refine cH (Mj T) fun CS=>cH (Io T) fun vY=>cH (adC T) fun ai_=>?_;exists T.Wj.ok JI,9
 obtain ⟨a,ay,c,n,ds,p,qs,ms,rows,rfl,aR,C,aQ,bL,R,J,ct,bE,q⟩:=h;have bC:=gO aq;have eu:=C.1.1;have iv:(qs.map V.ref).length=rows.length:=by rw [aP,R.bY]
 have j1:(qs.map V.ref).length <= sizeLine:=by rw [iv];exact cP J.ln (by decide)
 refine ⟨_,(aS (fu (aa 0) (aa 1) rfl)
   (aS (fu (aa 0) (eT gj rfl T.fP fZ (ak (aa 2) aF)) rfl)
   (aS (fu (aa 0) (fT rfl (d6 (aa 2)) (ac (sc:=bB ue) rfl (by ac_nf)) (N:=je) (sel:=[none,none,none]) (fw (M:=yC) (by ac_nf)) (eO.of (fun _ _ _ _=>(mr (K:=K) (n:=3) rfl rfl (fC (b9 (i:=0) (d1 (N:=je) (by ac_nf) rfl)) (fC (b9 (i:=1) (d1 (N:=je) (by ac_nf) rfl)) (fC (b9 (i:=2) (d1 (N:=je) (by ac_nf) rfl)) mx))))) (fun _ _ _ _=>⟨_,hO,by walk_at "B"⟩) (fun _ _ _ _=>⟨_,(aa 0),by walk_at "B"⟩))) rfl)
   (aS (fu (aa 0) (fT rfl (d6 (aa 2)) (ac (sc:=bB ue) rfl (by ac_nf)) (N:=je) (sel:=[none,none,none]) (fw (M:=yC) (by ac_nf)) (eO.of (fun _ _ _ _=>(mr (K:=K) (n:=3) rfl rfl (fC (b9 (i:=0) (d1 (N:=je) (by ac_nf) rfl)) (fC (b9 (i:=1) (d1 (N:=je) (by ac_nf) rfl)) (fC (b9 (i:=2) (d1 (N:=je) (by ac_nf) rfl)) mx))))) (fun _ _ _ _=>⟨_,hO,by walk_at "B"⟩) (fun _ _ _ _=>⟨_,(aa 1),by walk_at "B"⟩))) rfl)
   (aS (fu (aa 0) (fT rfl (d6 (aa 2)) (ac (sc:=bB ue) rfl (by ac_nf)) (N:=je) (sel:=[none,none,none]) (fw (M:=yC) (by ac_nf)) (eO.of (fun _ _ _ _=>(mr (K:=K) (n:=3) rfl rfl (fC (b9 (i:=0) (d1 (N:=je) (by ac_nf) rfl)) (fC (b9 (i:=1) (d1 (N:=je) (by ac_nf) rfl)) (fC (b9 (i:=2) (d1 (N:=je) (by ac_nf) rfl)) mx))))) (fun _ _ _ _=>⟨_,hO,by walk_at "B"⟩) (fun _ _ _ _=>⟨_,(aa 2),by walk_at "B"⟩))) rfl)
   (aS (fu (aa 0) (fT rfl (d6 (aa 2)) (ac (sc:=bB ue) rfl (by ac_nf)) (N:=Bo) (sel:=[none,none,none,some 1]) (fw (M:=yC) (by ac_nf)) (eO.of (fun _ _ _ _=>(mr (K:=K) (n:=3) rfl rfl (fC (b9 (i:=0) (d1 (N:=Bo) (by ac_nf) rfl)) (fC (b9 (i:=1) (d1 (N:=Bo) (by ac_nf) rfl)) (fC (b9 (i:=2) (d1 (N:=Bo) (by ac_nf) rfl)) mx))))) (fun _ _ _ _=>⟨_,hO,by walk_at "B"⟩) (fun _ _ _ _=>⟨_,(cc CS aq T.H3 T.vD.bG T.GL (ak (aa 3) (ak (bh bO (aa 2) aD) aF))),by walk_at "B"⟩))) rfl)
   (aS (fu (aa 0) (cc vY aq T.KI T.ul.bG T.Lk (ak (bN (aa 0) rfl) aF)) rfl)
   (aS (fu (aa 0) Yq rfl)
   (a5 (ft fq rfl (lL rfl T.kz (ak (bN (aa 0) rfl) aF)) (b9 (i:=3) JI.aH) (a5 (ft fq rfl (lL rfl T.kz (ak (bN (aa 0) rfl) aF)) (b9 (i:=4) JI.aH) (a5 (dP (cY pP (aa 3) (aa 4) (cu _)) (a5 (akR bC (bN (aa 0) rfl) (rY (ak (aa 3) (ak (aa 4) aF))) (cc ai_ aq T.Xm T.Fw.bG T.ad2 (ak (aa 1) (ak (bh bO (bN (aa 0) rfl) (aa 3)) (ak (bh bO (bN (aa 0) rfl) (aa 4)) aF)))) rfl)) ek)))))))))))))),?_⟩
 exists (fun az I=>c3 a H I/\aL I/\I a=some (.ins t.fH ay [(ab "crossing",V.ref c)])/\az=[~~~a,~~~c,~~~p,none,none]),5
 .nofun;exact ⟨_,_,_,aR,T.kb,T.Ru,by decide,dF _ _ ⟨fun b u ae e=>by rw [aG ae];exact e,bE.upd,db,rfl⟩⟩
 rintro fK H1 ⟨cq,cB,a1,rfl⟩;have kk:=R.tO cq aR;subst aY;exists (fun az I=>c3 a H I/\aL I/\I a=some (.ins t.fH ay [(ab "crossing",V.ref c),(ab "many",V.int (rows.length:Int))])/\az=[~~~a,~~~c,~~~p,none,none]),5
 .nofun;refine ⟨_,.inl (av.of kk.at_),_,_,_,a1,T.kb,T.U4,(show (1:Nat) < 1000 by decide),?_⟩;rw [iv,show c9 (ab "many") (V.int (rows.length:Int)) [(ab "crossing",V.ref c)]=[(ab "crossing",V.ref c),(ab "many",V.int (rows.length:Int))] from gU [ab "crossing"] rfl (by ac_nf)];exact dF _ _ ⟨fun b u ae e=>by rw [aG ae];exact cq _ _ ae e,cB.upd,db,rfl⟩
 rintro cb aB ⟨d9,cD,a2,rfl⟩;have fb:=R.tO d9 aR;subst aY;exists (fun az I=>c3 a H I/\aL I/\∃ le,I a=some (.ins t.fH ay [(ab "crossing",V.ref c),(ab "many",V.int (rows.length:Int)),(ab "leasts",V.ref le)])/\I le=some (.lst (rows.map fun r=>V.int r.lo))/\az=[~~~a,~~~c,~~~p,none,none]),5
 .nofun;refine ⟨⟨_,av.of fb.at_⟩,?_⟩;refine Gc.lg (xs:=qs.map V.ref) (zs:=rows.map fun r=>V.int r.lo) (av.of fb.at_) j1 (by rw [iv,aP]) (fun j v z N aI aO bb=>?_) (fun pl c4=>?_)
  .obtain ⟨kv,e_,rfl⟩:=bZ aI;have aJ:j < rows.length:=by rw [<- R.bY];exact (cv.mp e_).1
   have lz:ms[j]? = some (ms[j]'(by rw [R.cL];exact aJ)):=aZ _;have h2:rows[j]? = some rows[j]:=aZ aJ;obtain ⟨e,em⟩:=fb.al j kv _ _ e_ lz h2;obtain ⟨r,fi,rfl⟩:=bZ aO;rw [h2] at fi;cases fi;nofun;exact ⟨_,cJ.of e,rfl,_,_,rfl,_,_,rfl,_,_,rfl,rfl,Sub.vq,bb⟩
  .have pD:pl ≠ a:=fun z=>by rw [z,a2] at c4;cases c4
   refine ⟨_,_,_,(bq c4) _ _ a2,T.kb,T.SU,(show (2:Nat) < 1000 by decide),?_⟩;rw [show c9 (ab "leasts") (V.ref pl) [(ab "crossing",V.ref c),(ab "many",V.int (rows.length:Int))]=[(ab "crossing",V.ref c),(ab "many",V.int (rows.length:Int)),(ab "leasts",V.ref pl)] from gU [ab "crossing",ab "many"] rfl (by ac_nf)];exact dF _ _ ⟨fun b u ae e=>by rw [aG ae];exact (bq c4) _ _ (d9 _ _ ae e),(cD.upd).upd,pl,db,by rw [aG pD];exact db,rfl⟩
 rintro fS bw ⟨gT,dp,le,eC,eo,rfl⟩;have hle:le ≠ a:=bK eo eC (by intro z;cases z);have nq:=R.tO gT aR;subst aY;exists (fun az I=>c3 a H I/\aL I/\∃ mo,I a=some (.ins t.fH ay [(ab "crossing",V.ref c),(ab "many",V.int (rows.length:Int)),(ab "leasts",V.ref le),(ab "mosts",V.ref mo)])/\I le=some (.lst (rows.map fun r=>V.int r.lo))/\I mo=some (.lst (rows.map fun r=>V.int r.ah))/\az=[~~~a,~~~c,~~~p,none,none]),5
 .nofun;refine ⟨⟨_,av.of nq.at_⟩,?_⟩;refine Gc.lg (xs:=qs.map V.ref) (zs:=rows.map fun r=>V.int r.ah) (av.of nq.at_) j1 (by rw [iv,aP]) (fun j v z N aI aO bb=>?_) (fun pl c4=>?_)
  .obtain ⟨kv,e_,rfl⟩:=bZ aI;have aJ:j < rows.length:=by rw [<- R.bY];exact (cv.mp e_).1
   have lz:ms[j]? = some (ms[j]'(by rw [R.cL];exact aJ)):=aZ _;have h2:rows[j]? = some rows[j]:=aZ aJ;obtain ⟨e,em⟩:=nq.al j kv _ _ e_ lz h2;obtain ⟨r,fi,rfl⟩:=bZ aO;rw [h2] at fi;cases fi;nofun;exact ⟨_,cJ.of e,rfl,_,_,rfl,_,_,rfl,_,_,rfl,rfl,Sub.vq,bb⟩
  .have pD:pl ≠ a:=fun z=>by rw [z,eC] at c4;cases c4
   refine ⟨_,_,_,(bq c4) _ _ eC,T.kb,T.N1,(show (3:Nat) < 1000 by decide),?_⟩;rw [show c9 (ab "mosts") (V.ref pl) [(ab "crossing",V.ref c),(ab "many",V.int (rows.length:Int)),(ab "leasts",V.ref le)]=[(ab "crossing",V.ref c),(ab "many",V.int (rows.length:Int)),(ab "leasts",V.ref le),(ab "mosts",V.ref pl)] from gU [ab "crossing",ab "many",ab "leasts"] rfl (by ac_nf)];exact dF _ _ ⟨fun b u ae e=>by rw [aG ae];exact (bq c4) _ _ (gT _ _ ae e),(dp.upd).upd,pl,db,by rw [aG hle];exact (bq c4) _ _ eo,by rw [aG pD];exact db,rfl⟩
 rintro kG cI ⟨dU,dK,mo,lD,f4,tA,rfl⟩;have se:mo ≠ a:=bK tA lD (by intro z;cases z);have m4:=R.tO dU aR;subst aY;exists (fun az I=>c3 a H I/\aL I/\∃ de,I a=some (.ins t.fH ay [(ab "crossing",V.ref c),(ab "many",V.int (rows.length:Int)),(ab "leasts",V.ref le),(ab "mosts",V.ref mo),(ab "members",V.ref de)])/\I le=some (.lst (rows.map fun r=>V.int r.lo))/\I mo=some (.lst (rows.map fun r=>V.int r.ah))/\I de=some (.lst (ms.map V.ref))/\az=[~~~a,~~~c,~~~p,none,none]),5
 .nofun;refine ⟨⟨_,av.of m4.at_⟩,?_⟩;refine Gc.lg (xs:=qs.map V.ref) (zs:=ms.map V.ref) (av.of m4.at_) j1 (by rw [iv,aP,R.cL]) (fun j v z N aI aO bb=>?_) (fun pl c4=>?_)
  .obtain ⟨kv,e_,rfl⟩:=bZ aI;have aJ:j < rows.length:=by rw [<- R.bY];exact (cv.mp e_).1
   have lz:ms[j]? = some (ms[j]'(by rw [R.cL];exact aJ)):=aZ _;have h2:rows[j]? = some rows[j]:=aZ aJ;obtain ⟨e,em⟩:=m4.al j kv _ _ e_ lz h2;obtain ⟨dB,m9,rfl⟩:=bZ aO;rw [lz] at m9;cases m9;nofun;exact ⟨_,cJ.of e,rfl,_,_,rfl,_,_,rfl,_,_,rfl,rfl,Sub.vq,bb⟩
  .have pD:pl ≠ a:=fun z=>by rw [z,lD] at c4;cases c4
   refine ⟨_,_,_,(bq c4) _ _ lD,T.kb,T.EH,(show (4:Nat) < 1000 by decide),?_⟩;rw [show c9 (ab "members") (V.ref pl) [(ab "crossing",V.ref c),(ab "many",V.int (rows.length:Int)),(ab "leasts",V.ref le),(ab "mosts",V.ref mo)]=[(ab "crossing",V.ref c),(ab "many",V.int (rows.length:Int)),(ab "leasts",V.ref le),(ab "mosts",V.ref mo),(ab "members",V.ref pl)] from gU [ab "crossing",ab "many",ab "leasts",ab "mosts"] rfl (by ac_nf)];exact dF _ _ ⟨fun b u ae e=>by rw [aG ae];exact (bq c4) _ _ (dU _ _ ae e),(dK.upd).upd,pl,db,by rw [aG hle];exact (bq c4) _ _ f4,by rw [aG se];exact (bq c4) _ _ tA,by rw [aG pD];exact db,rfl⟩
 rintro qd dj ⟨eX,hh,de,i0,fg,Sj,e',rfl⟩;have q2:de ≠ a:=bK e' i0 (by intro z;cases z);have DT:=EC aR eX C;have qv:=R.tO eX aR;subst aY;exists (fun az I=>c3 a H I/\aL I/\∃ c_,I a=some (.ins t.fH ay [(ab "crossing",V.ref c),(ab "many",V.int (rows.length:Int)),(ab "leasts",V.ref le),(ab "mosts",V.ref mo),(ab "members",V.ref de),(ab "sorts",V.ref c_)])/\I le=some (.lst (rows.map fun r=>V.int r.lo))/\I mo=some (.lst (rows.map fun r=>V.int r.ah))/\I de=some (.lst (ms.map V.ref))/\I c_=some (.lst (aW (rows.map (d3 ds))))/\az=[~~~a,~~~c,~~~p,none,none]),5
 .nofun;refine ⟨⟨_,av.of qv.at_⟩,?_⟩;refine Gc.lg (xs:=qs.map V.ref) (zs:=aW (rows.map (d3 ds))) (av.of qv.at_) j1 (by rw [iv,eY,aP]) (fun j v z N aI aO bb=>?_) (fun pl c4=>?_)
  .obtain ⟨kv,e_,rfl⟩:=bZ aI;have aJ:j < rows.length:=by rw [<- R.bY];exact (cv.mp e_).1
   have lz:ms[j]? = some (ms[j]'(by rw [R.cL];exact aJ)):=aZ _;have h2:rows[j]? = some rows[j]:=aZ aJ;obtain ⟨e,em⟩:=qv.al j kv _ _ e_ lz h2;unfold aW at aO;obtain ⟨y,a9,rfl⟩:=bZ aO;obtain ⟨r,fi,rfl⟩:=bZ a9;rw [h2] at fi;cases fi;obtain ⟨nm,anw,lP⟩:=l_ (ct _ (cm h2));obtain ⟨d,hd,Wm⟩:=J.yp _ (cm h2) nm (by rw [lP];exact l5 ..);obtain ⟨i,ah⟩:=iN hd;have alJ:d3 ds rows[j]=iA d:=by
    unfold d3;rw [lP];show ((i3 ds nm).map iA).getD _=_;rw [<- Wm,iF eu ah];rfl
   rw [alJ] at bb;rw [lP] at em;nofun;exact ⟨_,cJ.of e,rfl,_,_,rfl,_,_,rfl,_,_,rfl,rfl,Sub.vq,_,rfl,_,av.of em,_,bt (j:=0) rfl,c,n,ds,i,d,by rw [Wm],DT,ah,(bL d hd).2.1,bb⟩
  .have pD:pl ≠ a:=fun z=>by rw [z,i0] at c4;cases c4
   refine ⟨_,_,_,(bq c4) _ _ i0,T.kb,T.Rk,(show (5:Nat) < 1000 by decide),?_⟩;rw [show c9 (ab "sorts") (V.ref pl) [(ab "crossing",V.ref c),(ab "many",V.int (rows.length:Int)),(ab "leasts",V.ref le),(ab "mosts",V.ref mo),(ab "members",V.ref de)]=[(ab "crossing",V.ref c),(ab "many",V.int (rows.length:Int)),(ab "leasts",V.ref le),(ab "mosts",V.ref mo),(ab "members",V.ref de),(ab "sorts",V.ref pl)] from gU [ab "crossing",ab "many",ab "leasts",ab "mosts",ab "members"] rfl (by ac_nf)];exact dF _ _ ⟨fun b u ae e=>by rw [aG ae];exact (bq c4) _ _ (eX _ _ ae e),(hh.upd).upd,pl,db,by rw [aG hle];exact (bq c4) _ _ fg,by rw [aG se];exact (bq c4) _ _ Sj,by rw [aG q2];exact (bq c4) _ _ e',by rw [aG pD];exact db,rfl⟩
 rintro mm hc ⟨c7,ja,c_,mf,nN,V0,iJ,Pl,rfl⟩;have mh:c_ ≠ a:=bK Pl mf (by intro z;cases z);have uX:=R.tO c7 aR;have Mi:mJ hc de ms (rows.map (·.mem)):=⟨iJ,by rw [R.cL,aP],fun i m x hm aj=>by
  obtain ⟨r,fi,rfl⟩:=bZ aj;have f':qs[i]? = some (qs[i]'(by rw [R.bY];exact (cv.mp fi).1)):=aZ _;exact (uX.al i _ m r f' hm fi).2⟩
 subst aY;exists (fun az I=>c3 a H I/\aL I/\∃ aT,I a=some (.ins t.fH ay [(ab "crossing",V.ref c),(ab "many",V.int (rows.length:Int)),(ab "leasts",V.ref le),(ab "mosts",V.ref mo),(ab "members",V.ref de),(ab "sorts",V.ref c_),(ab "homes",V.ref aT)])/\I le=some (.lst (rows.map fun r=>V.int r.lo))/\I mo=some (.lst (rows.map fun r=>V.int r.ah))/\mJ I de ms (rows.map (·.mem))/\I c_=some (.lst (aW (rows.map (d3 ds))))/\I aT=some (.bu (hu (rows.map (·.mem))))/\az=[~~~a,~~~c,~~~p,none,none]),5
 .nofun;refine ⟨_,⟨_,ay,_,mf,T.kb,T.EH,gY [ab "crossing",ab "many",ab "leasts",ab "mosts",ab "members",ab "sorts"] 4 rfl (by ac_nf) rfl⟩,de,ms,rows.map (·.mem),rfl,Mi,by rw [aP];exact J.ln,fun x aj=>?_,fun h H1 s1 wj fY af=>?_⟩
  .obtain ⟨r,fi,rfl⟩:=bJ.mp aj;exact J.gR r fi
  .have KR:h ≠ a:=bK af (s1 _ _ mf) (by intro z;cases z);refine ⟨_,_,_,s1 _ _ mf,T.kb,T.PY,(show (6:Nat) < 1000 by decide),?_⟩;rw [show c9 (ab "homes") (V.ref h) [(ab "crossing",V.ref c),(ab "many",V.int (rows.length:Int)),(ab "leasts",V.ref le),(ab "mosts",V.ref mo),(ab "members",V.ref de),(ab "sorts",V.ref c_)]=[(ab "crossing",V.ref c),(ab "many",V.int (rows.length:Int)),(ab "leasts",V.ref le),(ab "mosts",V.ref mo),(ab "members",V.ref de),(ab "sorts",V.ref c_),(ab "homes",V.ref h)] from gU [ab "crossing",ab "many",ab "leasts",ab "mosts",ab "members",ab "sorts"] rfl (by ac_nf)];exact dF _ _ ⟨fun b u ae e=>by rw [aG ae];exact s1 _ _ (c7 _ _ ae e),(wj ja).upd,h,db,by rw [aG hle];exact s1 _ _ nN,by rw [aG se];exact s1 _ _ V0,(Mi.same s1).upd (s1 _ _ mf) (by intro xs z;cases z),by rw [aG mh];exact s1 _ _ Pl,by rw [aG KR];exact af,rfl⟩
 rintro kc f3 ⟨dt,kK,aT,mI,mi,KN,zT,V5,HA,rfl⟩;subst aY;exists (fun az I=>c3 a H I/\aL I/\∃ ch,H ch=none/\I a=some (.ins t.fH ay (l0 c rows.length le mo de c_ aT ch))/\I le=some (.lst (rows.map fun r=>V.int r.lo))/\I mo=some (.lst (rows.map fun r=>V.int r.ah))/\mJ I de ms (rows.map (·.mem))/\I c_=some (.lst (aW (rows.map (d3 ds))))/\I aT=some (.bu (hu (rows.map (·.mem))))/\iY P w I ch []/\(ch ≠ a/\ch ≠ le/\ch ≠ mo/\ch ≠ de/\ch ≠ c_/\ch ≠ aT/\ch ∉ ms)/\az=[~~~a,~~~c,~~~p,none,none]),5
 .nofun;intro ch o h7 alc;have xZ:ch ≠ a:=fun z=>by rw [z,mI] at h7;cases h7
  have ahO:H ch=none:=by
   cases e:H ch with
   | none=>rfl
   | some u=>rw [dt _ _ xZ e] at h7;cases h7
  have vg:∀ {b:Addr} {u:fz},f3 b=some u->ch ≠ b:=fun e z=>by rw [<- z,h7] at e;cases e
  have aah:ch ∉ ms:=fun z=>by
   obtain ⟨i,ah⟩:=iN z;have hV:i < (rows.map (·.mem)).length:=by rw [<- zT.ln];exact (cv.mp ah).1
   exact vg (zT.al i ch _ ah (aZ hV)) rfl
  have kq:aN f3 (upd f3 ch (.ext (oE ch o))):=bq h7;refine ⟨_,_,_,kq _ _ mI,T.kb,T.RY,(show (7:Nat) < 1000 by decide),?_⟩;rw [show c9 (ab "changes") (V.ref ch) [(ab "crossing",V.ref c),(ab "many",V.int (rows.length:Int)),(ab "leasts",V.ref le),(ab "mosts",V.ref mo),(ab "members",V.ref de),(ab "sorts",V.ref c_),(ab "homes",V.ref aT)]=l0 c rows.length le mo de c_ aT ch from gU [ab "crossing",ab "many",ab "leasts",ab "mosts",ab "members",ab "sorts",ab "homes"] rfl (by ac_nf)];have KR:aT ≠ a:=bK HA mI (by intro z;cases z);exact dF _ _ ⟨fun b u ae e=>by rw [aG ae];exact kq _ _ (dt _ _ ae e),(kK.upd).upd,ch,ahO,db,by rw [aG hle];exact kq _ _ mi,by rw [aG se];exact kq _ _ KN,(zT.same kq).upd (kq _ _ mI) (by intro xs z;cases z),by rw [aG mh];exact kq _ _ V5,by rw [aG KR];exact kq _ _ HA,agv alc (dJ xZ) (fun xs z=>by rw [kq _ _ mI] at z;cases z),⟨xZ,vg mi,vg KN,vg zT.at_,vg V5,vg HA,aah⟩,rfl⟩
 rintro uS iS ⟨dh,oS,ch,h7,pw,f8,ala,Zv,WY,YT,adD,uh,rfl⟩;subst aY;nofun;have ho:=J.ln;refine ⟨_,EA T pw,_,rfl,by omega,by omega,?_⟩;rw [ma];refine dY.range (fun i σ I=>(∃ x y,σ=[~~~a,~~~c,~~~p,x,y])/\c3 a H I/\aL I/\I a=some (.ins t.fH ay (l0 c rows.length le mo de c_ aT ch))/\I le=some (.lst (rows.map fun r=>V.int r.lo))/\I mo=some (.lst (rows.map fun r=>V.int r.ah))/\mJ I de ms (rows.map (·.mem))/\I c_=some (.lst (aW (rows.map (d3 ds))))/\I aT=some (.bu (hu (rows.map (·.mem))))/\∃ kvs,iY P w I ch kvs/\k0 n ds rows i 0 kvs) ⟨⟨_,_,rfl⟩,dh,oS,pw,f8,ala,Zv,WY,YT,[],adD,k0.nil n ds rows⟩ ?_ ?_
 .rintro i σ I ah bf;ac_rfl
  obtain ⟨⟨x,y,rfl⟩,lN,vO,va,LF,Ep,yv,KS,KW,kvs,ER,LC⟩:=bf;have hH:rows[i]? = some rows[i]:=aZ ah;have nD:ms[i]? = some (ms[i]'(by rw [R.cL];exact ah)):=aZ _;subst aY;nofun;refine ⟨_,EA T va,_,rfl,by omega,by omega,?_⟩;rw [ma];refine dY.range (fun j σ aB=>(∃ y,σ=[~~~a,~~~c,~~~p,some (.int (i:Int)),y])/\c3 a H aB/\aL aB/\aB a=some (.ins t.fH ay (l0 c rows.length le mo de c_ aT ch))/\aB le=some (.lst (rows.map fun r=>V.int r.lo))/\aB mo=some (.lst (rows.map fun r=>V.int r.ah))/\mJ aB de ms (rows.map (·.mem))/\aB c_=some (.lst (aW (rows.map (d3 ds))))/\aB aT=some (.bu (hu (rows.map (·.mem))))/\∃ kvs,iY P w aB ch kvs/\k0 n ds rows i j kvs) ⟨⟨_,rfl⟩,lN,vO,va,LF,Ep,yv,KS,KW,kvs,ER,LC⟩ ?_ ?_
  .rintro j σ aB aJ bf;ac_rfl
   obtain ⟨⟨y,rfl⟩,i6,xt,rW,uD,zC,oL,CB,ze,kvs,zY,xl⟩:=bf;have h2:rows[j]? = some rows[j]:=aZ aJ;have lz:ms[j]? = some (ms[j]'(by rw [R.cL];exact aJ)):=aZ _;have aeH:=oL.al i _ _ nD (by rw [cN,hH];rfl);have acY:=oL.al j _ _ lz (by rw [cN,h2];rfl);have sW:=bt (xs:=ms.map V.ref) (j:=i) (by rw [cN,nD];rfl);have I1:=bt (xs:=ms.map V.ref) (j:=j) (by rw [cN,lz];rfl);subst aY;simp only [hN,nk,nu,sx];by_cases oR:i=j
   .refine dO false (fun Q a0=>?_) (fun z=>nomatch z) (fun _=>?_)
    .nofun;rw [decide_eq_true (by omega)];exact a0
    .simp only [hr];subst oR;exact ⟨⟨_,rfl⟩,i6,xt,rW,uD,zC,oL,CB,ze,kvs,zY,xl.skip⟩
   .refine dO true (fun Q a0=>?_) (fun _=>?_) (fun z=>nomatch z)
    .nofun;rw [decide_eq_false (by omega)];exact a0
    .nofun;obtain ⟨xZ,ai8,ZP,ZI,aeb,aaJ,ajq⟩:=uh;refine ⟨_,Ps T rW,_,rfl,_,av.of oL.at_,_,sW,_,Ps T rW,_,rfl,_,av.of oL.at_,_,I1,c,n,ds,_,_,_,_,rfl,EC aR i6 C,aQ,bL,aeH,acY,J.yp _ (cm hH),J.yp _ (cm h2),J.gR _ (cm hH),J.gR _ (cm h2),xt,fun v aI=>?_⟩;refine ⟨_,ME T rW,by decide,fun gy n8=>⟨ch,rfl,kvs,sw zY (bq n8),stK i j,(show upd aB gy (.tup [V.int (i:Int),V.int (j:Int)]) gy=some (fz.tup [V.int (i:Int),V.int (j:Int)]) from db),hg (show kvs.length <= 100 by have:=xl.1;omega) (by decide),fun o G7=>?_⟩⟩;have qT:aN aB (upd aB gy (.tup [V.int (i:Int),V.int (j:Int)])):=bq n8;refine ⟨⟨_,rfl⟩,fun b u ae e=>by rw [aG (Db e h7)];exact qT _ _ (i6 _ _ ae e),(xt.upd).upd,by rw [aG (dJ xZ)];exact qT _ _ rW,by rw [aG (dJ ai8)];exact qT _ _ uD,by rw [aG (dJ ZP)];exact qT _ _ zC,⟨by rw [aG (dJ ZI)];exact qT _ _ oL.at_,oL.ln,fun k m x hm aj=>by rw [aG (fun z=>ajq (by rw [<- z];exact cm hm))];exact qT _ _ (oL.al k m x hm aj)⟩,by rw [aG (dJ aeb)];exact qT _ _ CB,by rw [aG (dJ aaJ)];exact qT _ _ ze,_,G7,xl.put hH h2 aI⟩
  .rintro σ aB bf;ac_rfl
   obtain ⟨⟨y,rfl⟩,i6,xt,rW,uD,zC,oL,CB,ze,kvs,zY,xl⟩:=bf;subst aY;exact ⟨⟨_,_,rfl⟩,i6,xt,rW,uD,zC,oL,CB,ze,kvs,zY,xl.next ho⟩
 .rintro σ I bf;ac_rfl
  obtain ⟨⟨x,y,rfl⟩,lN,vO,va,LF,Ep,yv,KS,KW,kvs,ER,LC⟩:=bf;subst aY;exact q _ lN vO ⟨ay,le,mo,de,c_,aT,ch,ms,kvs,va,EC aR lN C,LF,Ep,yv,KS,KW,ER,LC⟩
noncomputable def sF (ds:List a3):List (List Str)->Nat->List ST->Except (Nat × Nat) (List ST)
 | [],_,rows=>.ok rows
 | ws :: r,i,rows=>if rows.length=6 then .error (i,0) else match p_ ds rows ws with
  | .error k=>.error (i,k)
  | .ok s=>sF ds r (i + 1) (rows ++ [s])
def ahq (P:Program) (w:World) (t:b7):bW:=fun vs H Q _=>∃ c n ds x rows,vs=[.ref c,.str x]/\f6 t H c n ds/\0 < n/\vA ds/\(∀ d ∈ ds,d.name ≠ ab "")/\x.length <= 20000/\(hK x).length <= 100/\(∀ r ∈ hK x,r ≠ []/\r.length <= 1000/\∀ y ∈ r,y.length <= 1000)/\aL H /\
 sF ds (hK x) 0 []=.ok rows/\hy ds rows=[]/\uy ds rows=none/\tM n ds rows=none/\∀ a I,aN H I->aL I->hD P w t I a c n ds rows->Q (.ref a) I
theorem Zc {left ws ms:List Str} (h:mP ds left ws=.ok ms):ms ≠ []/\ms.Nodup/\∀ x ∈ ms,x ∈ left:=by
 unfold mP at h;split at h
 .rename_i ik;obtain ⟨af,⟨more,ao⟩,bj⟩:=QB h (by simp);refine ⟨by rw [ao];simp,af,fun x aj=>?_⟩;rcases bj x aj with z | z
  .rw [gq.mp z];exact ik
  .exact (f5.mp z).1
 .cases h
theorem Ub {rows:List ST} (h:p_ ds rows ws=.ok s):s.mem ≠ []/\s.mem.Nodup/\∀ x ∈ s.mem,x ∈ hy ds rows:=by
 unfold p_ at h;split at h
 .cases ax:kM (aE ws 1) 1 60 with
  | none=>rw [ax] at h;cases h
  | some lo=>
   rw [ax] at h;replace h:((kM (aE ws 2) lo 60).elim (.error 2) fun ah=>match mP ds (hy ds rows) ws with | .error k=>.error k | .ok ms=>.ok (⟨lo,ah,ms⟩:ST))=q' s:=h;cases aK:kM (aE ws 2) lo 60 with
   | none=>rw [aK] at h;cases h
   | some ah=>
    rw [aK] at h;replace h:(match mP ds (hy ds rows) ws with | .error k=>.error k | .ok ms=>.ok (⟨lo,ah,ms⟩:ST))=q' s:=h;cases bU:mP ds (hy ds rows) ws with
    | error k=>rw [bU] at h;cases h
    | ok ms=>
     rw [bU] at h;replace h:q' (⟨lo,ah,ms⟩:ST)=q' (ε:=Nat) s:=h;cases h;exact Zc bU
 .cases h
theorem qm.snoc {rows:List ST} (J:qm ds rows) (aM:ds.length <= 12) (iJ:rows.length ≠ 6) (h:p_ ds rows ws=.ok s):qm ds (rows ++ [s])/\s.mem.length <= 12:=by
 obtain ⟨af,ao,bj⟩:=Ub h;have Ue:s.mem.length <= 12:=by
  have:=Pb ao bj;have cS:(hy ds rows).length <= ds.length:=by
   unfold hy;exact cP (yk ..) (by rw [aP];exact b8 _)
  omega
 refine ⟨⟨?_,fun r aq=>?_,fun r aq x aj=>?_⟩,Ue⟩
 .have:=J.ln;rw [dZ];show rows.length + 1 <= 6;omega
 .rcases gE.mp aq with z | z
  .exact J.gR r z
  .rw [gq.mp z];exact Ue
 .rcases gE.mp aq with z | z
  .exact J.yp r z x aj
  .rw [gq.mp z] at aj;obtain ⟨d,hd,e⟩:=bJ.mp (f5.mp (bj x aj)).1;exact ⟨d,hd,e⟩
theorem VE {xs:List Str} {qs:List Addr} (h:xs ≠ []):aW xs ≠ qs.map V.ref:=fun e=>by
 obtain ⟨y,r,rfl⟩:=l_ h;cases qs with
 | nil=>cases e
 | cons a b=>injection e with ax _;cases ax
theorem Tk.snoc {p x m:Addr} {rows:List ST} (R:Tk H p qs ms rows) (aj:H x=some (FW s m)) (hm:H m=some (.lst (aW s.mem))) (ct:∀ r ∈ rows,r.mem ≠ []) (aC:s.mem ≠ []):Tk (upd H p (.lst (qs.map V.ref ++ [V.ref x]))) p (qs ++ [x]) (ms ++ [m]) (rows ++ [s]):=by
 have kt:∀ {b:Addr} {xs:List V},H b=some (.tup xs)->upd H p (.lst (qs.map V.ref ++ [V.ref x])) b=some (.tup xs):=fun e=>by rw [aG (bK e R.at_ (by intro z;cases z))];exact e
 have PK:∀ {b:Addr} {xs:List Str},H b=some (.lst (aW xs))->xs ≠ []->upd H p (.lst (qs.map V.ref ++ [V.ref x])) b=some (.lst (aW xs)):=fun e h=>by
  rw [aG (bK e R.at_ (fun z=>by injection z with z;exact VE h z))];exact e
 refine ⟨by rw [db,e5];rfl,by rw [dZ,dZ,R.bY];rfl,by rw [dZ,dZ,R.cL];rfl,fun i q dB r a b c=>?_⟩;have bY:=R.bY;have cL:=R.cL;rcases mq c with ⟨cf,c1⟩ | ⟨cf,rfl⟩
 .rcases mq a with ⟨_,a2⟩ | ⟨a1,_⟩
  .rcases mq b with ⟨_,d_⟩ | ⟨dR,_⟩
   .obtain ⟨ax,aK⟩:=R.al i q dB r a2 d_ c1;exact ⟨kt ax,PK aK (ct r (cm c1))⟩
   .omega
  .omega
 .rcases mq a with ⟨a1,_⟩ | ⟨_,rfl⟩
  .omega
  .rcases mq b with ⟨dR,_⟩ | ⟨_,rfl⟩
   .omega
   .exact ⟨kt aj,PK hm aC⟩
theorem Yi:cA P base T 7 t.xp t.vB xv (ahq P w t):=by
 have F1:cK P w K mg base dE 6 t.xr t.xT ["text"] (Ku t):=(Q0 T).mono (by decide);have W4:cK P w K mg base dE 6 t.zk t.Bp yX (PT t):=ahA T;have al6:cK P w K mg base dE 6 t.zS t.Bi k6 (Rl t):=(aha T).mono (by decide);have aix:cK P w K mg base dE 6 t.zq t.Ad k6 (MX t):=(adJ T).mono (by decide);have af5:cK P w K mg base dE 6 t.BR t.AV k6 (RH t):=(ajI T).mono (by decide);have agf:cK P w K mg base dE 5 t.vJ t.zL Bv (N2 P w t):=ZG T;exists T.HQ.ok GO,9
 obtain ⟨c,n,ds,x,yM,rfl,C,aQ,bL,ct,h9,ho,oU,bE,aj0,hle,er,dy,k_⟩:=h;have abg:∀ d ∈ ds,d.k < 3/\d.name ≠ ab "" := fun d hd=>⟨(bL d hd).2.1,ct d hd⟩
 refine ⟨_,(aS (cF (i:=2) GO.aH (gL aF))
   (aS (ft fq rfl (d6 (cc F1 aq T.MU T.yR.bG T.Mt (ak (aa 1) aF))) (b9 (i:=3) GO.aH) (aS (dP (cY eE (eT gj rfl T.fP fZ (ak (aa 2) aF)) (mE rfl T.amd T.aeD) (cu _)) (a5 oB) ek)
   (a5 (ee (gk ip kr lx ks (aa 2) (ak (cc W4 aq T.KB T.DD.bG T.XF (ak (aa 3) (ak (aa 0) (ak (aa 2) aF)))) aF))))))
   (aS (ee (cc al6 aq T.ZC T.Ef.bG T.al7 (ak (aa 0) (ak (aa 2) aF))))
   (aS (ee (cc aix aq T.alb T.D2.bG T.abj (ak (aa 0) (ak (aa 2) aF))))
   (aS (ee (cc af5 aq T.akp T.Kd.bG T.adg (ak (aa 0) (ak (aa 2) aF))))
   (a5 (cy (sr T.ZY agf aq rfl T.Zt T.ajZ .nil cU (ak (aa 0) (ak (aa 2) aF)))))))))),?_⟩
 exists (fun az I=>aN H I/\aL I/\∃ dQ,H dQ=none/\I dQ=some (.lst [])/\az=[~~~c,some (.str x),~~~dQ,none]),5
 .nofun;exact ⟨gv _,fun dQ ho=>dF _ _ ⟨bq ho,bE.upd,dQ,ho,db,rfl⟩⟩
 rintro fK H1 ⟨s1,cB,dQ,CI,dH,rfl⟩;subst aY;simp only [dx];refine qn (fun az I=>aN H I/\aL I/\(∃ qs ms rows,Tk I dQ qs ms rows/\qm ds rows/\(∀ r ∈ rows,r.mem ≠ [])/\rows=yM)/\∃ gT,az=[~~~c,some (.str x),~~~dQ,gT]) (fun fW dF kA _ _=>?_) ?_
 .nofun;refine ⟨x,rfl,h9,fun r aq=>(oU r aq).2,cB,fun p aB vC oP RR=>?_⟩;obtain ⟨mb,ar,g4,j1,A6⟩:=RR;refine ⟨p,rfl,⟨_,av.of ar⟩,?_⟩;have ajJ:p ≠ dQ:=fun z=>by rw [z,dH] at g4;cases g4
  refine dY.list (xs:=mb.map V.ref) (fun i σ I=>(∃ y,σ=[~~~c,some (.str x),~~~dQ,y])/\aL I/\aN H I/\I p=some (.lst (mb.map V.ref)) /\
   (∃ qs ms rows,Tk I dQ qs ms rows/\qm ds rows/\(∀ r ∈ rows,r.mem ≠ [])/\sF ds ((hK x).drop i) i rows=.ok yM) /\
   ∀ (j:Nat) (q:Addr) (r:List Str),i <= j->mb[j]? = some q->(hK x)[j]? = some r->dg t I q ((j:Nat):Int) r 0/\H q=none) ?_ ?_ ?_ ?_
  .refine ⟨⟨_,rfl⟩,oP,s1.trans vC,ar,⟨[],[],[],⟨vC _ _ dH,rfl,rfl,fun i q m r h=>by simp at h⟩,⟨gv _,fun r h=>by simp at h,fun r h=>by simp at h⟩,fun r h=>by simp at h,aj0⟩,fun j q r _ af ao=>?_⟩;obtain ⟨pv,e_⟩:=A6 j q r af ao;exact ⟨pv,s1.free e_⟩
  .rintro i σ I ah bf;ac_rfl
   obtain ⟨_,_,_,h,_⟩:=bf;subst aY;exact av.of h
  .rintro i v σ I aI bf;ac_rfl
   obtain ⟨⟨y,rfl⟩,kl,m6,jB,⟨qs,ms,rows,qq,gS,q2,ej⟩,Rs⟩:=bf;obtain ⟨q,aU,rfl⟩:=bZ aI;obtain ⟨ah,_⟩:=cv.mp aU;have lu:i < (hK x).length:=by omega
   have aq:(hK x)[i]? = some (hK x)[i]:=aZ lu;obtain ⟨oo,iv⟩:=Rs i q _ (b8 _) aU aq;obtain ⟨_,zj,anU,f',AL⟩:=id oo;subst aY;rw [sv lu] at ej;unfold sF at ej;simp only [hN,dx,nk,nu];refine Hj (fun az bw=>bw=I/\rows.length ≠ 6/\az=[~~~c,some (.str x),~~~dQ,~~~q]) (fun ao1 G7=>?_) fun rT aY=>?_
   .refine dO (decide (rows.length=6)) (fun jC a0=>?_) (fun ae=>?_) (fun ae=>?_)
    .nofun;refine ⟨_,.inl (av.of qq.at_),?_⟩;rw [aP,qq.bY];rw [show decide ((rows.length:Int)=6)=decide (rows.length=6) from decide_eq_decide.mpr (by omega)];exact a0
    .have ae:=of_decide_eq_true ae;rw [if_pos ae] at ej;cases ej
    .simp only [hr];exact G7 _ _ ⟨rfl,of_decide_eq_false ae,rfl⟩
   rintro fS bw ⟨rfl,iJ,rfl⟩;subst aY;rw [if_neg iJ] at ej;cases lE:p_ ds rows (hK x)[i] with
   | error k=>rw [lE] at ej;cases ej
   | ok s=>
    rw [lE] at ej;replace ej:sF ds ((hK x).drop (i + 1)) (i + 1) (rows ++ [s])=.ok yM:=ej;nofun;refine ⟨.inl ⟨_,av.of qq.at_⟩,q,_,(hK x)[i],c,n,ds,dQ,qs,ms,rows,s,rfl,oo,C.same m6,abg,qq,gS.ln,gS.gR,kl,lE,?_⟩;intro dX m cI s4 Ks aa3 EI aoo am9;have Vo:=(Ub lE).1;have m4:=qq.vG s4 oo;have agw:aN H cI:=wQ m6 s4 iv;have XW:=gS.snoc C.1.2 iJ lE;have Ba:=gS.ln;refine ⟨_,m4.at_,hg (show (qs.map V.ref).length <= 6 by rw [aP,m4.bY];exact Ba) (by decide),⟨_,rfl⟩,Ks.upd,agw.ff CI,by rw [aG ajJ];exact s4 _ _ (bK jB f' (by intro z;cases z)) jB,⟨qs ++ [dX],ms ++ [m],rows ++ [s],m4.snoc aa3 EI q2 Vo,XW.1,fun r fi=>?_,ej⟩,fun j eI r aJ af ao=>?_⟩
    .rcases gE.mp fi with z | z
     .exact q2 r z
     .rw [gq.mp z];exact Vo
    .obtain ⟨pv,e_⟩:=Rs j eI r (by omega) af ao;have qv:=pv.yi s4 (HP pv oo (by omega)) oo.ins;refine ⟨?_,e_⟩;obtain ⟨aO,hL,bo,ax,aK⟩:=qv;exact ⟨aO,hL,bo,by rw [aG (bK ax m4.at_ (by intro z;cases z))];exact ax,by rw [aG (bK aK m4.at_ (fun z=>by injection z with z;exact VE (oU r (cm ao)).1 z))];exact aK⟩
  .rintro σ I bf;ac_rfl
   obtain ⟨⟨y,rfl⟩,kl,m6,jB,⟨qs,ms,rows,qq,gS,q2,ej⟩,Rs⟩:=bf;subst aY;rw [aP,j1,wL] at ej;replace ej:(q' rows:Except (Nat × Nat) (List ST))=.ok yM:=ej;exact dF _ _ ⟨m6,kl,⟨qs,ms,rows,qq,gS,q2,Except.ok.inj ej⟩,_,rfl⟩
 rintro cb aB bf;ac_rfl
 obtain ⟨s2,cD,⟨qs,ms,rows,fb,b3,q2,eU⟩,gT,rfl⟩:=bf;subst aY;subst eU;have Tt:=C.same s2;nofun;refine ⟨c,n,ds,dQ,qs,ms,rows,rfl,Tt,fb,b3,hle,fun bw s3 IA=>?_⟩;have dp:=IA cD;have alY:=s2.trans s3;refine ⟨c,n,ds,dQ,qs,ms,rows,rfl,Tt.same s3,fb.same s3,b3,hle,er,fun cI s4 ab6=>?_⟩;have dK:=ab6 dp;have Wa:=alY.trans s4;refine ⟨c,n,ds,dQ,qs,ms,rows,rfl,C.same Wa,aQ,(fb.same s3).same s4,b3,dK,dy,fun dj s5 ahU a ay aR vX api=>?_⟩;have hh:=ahU dK;have L':=Wa.trans s5;have sc:aN dj (upd (upd dj ay (.own a)) a (.ins t.fH ay [])):=((aN.refl dj).ff vX).ff aR;refine ⟨a,ay,c,n,ds,dQ,qs,ms,rows,rfl,db,(C.same L').same sc,aQ,bL,(((fb.same s3).same s4).same s5).same sc,b3,q2,(hh.upd).upd,fun hc l6 ja eS=>⟨rfl,?_⟩⟩;exact k_ a hc (wQ (L'.trans sc) l6 (L'.free aR)) ja eS
def akS (P:Program) (w:World) (t:b7):bW:=fun vs H Q _=>∃ a c n ds rows,∃ i j:Nat,∃ r s,vs=[.ref a,.int i,.int j]/\hD P w t H a c n ds rows/\rows[i]? = some r/\rows[j]? = some s/\i ≠ j/\aL H/\∀ v,kI (iL n ds r.mem s.mem) v->Q (.int v) H
def Y9 (P:Program) (w:World) (t:b7):bW:=fun vs H Q _=>∃ a c n ds rows,∃ i j:Nat,∃ r s,vs=[.ref a,.int i,.int j]/\hD P w t H a c n ds rows/\rows[i]? = some r/\rows[j]? = some s/\i ≠ j/\∀ v I,aN H I->kI (iL n ds r.mem s.mem) v->Q (.int v) I
theorem P5:cA P base T 1 t.Gh t.LP Dr (akS P w t):=by
 refine cK.forget (sp:=Y9 P w t) ?_ fun vs H Q E h=>?_
 .exists T.zK.ok aeQ,9
  obtain ⟨a,c,n,ds,rows,i,j,r,ai,rfl,⟨ay,le,mo,de,c_,aT,ch,ms,kvs,ax,_,_,_,_,_,_,ae6,ajd⟩,ah,aJ,oR,q⟩:=h;have bC:=gO aq;obtain ⟨v,aI,B4⟩:=ajd.2 i j r ai ah aJ oR (.inl (cv.mp ah).1);refine ⟨_,(a5 (cy (ahD bC (bN (aa 0) rfl) (rY (ak (aa 1) (ak (aa 2) aF))) (fun _ _=>rfl)))),?_⟩;nofun;exact ⟨_,ME T ax,by decide,fun p ar=>⟨ch,rfl,kvs,sw ae6 (bq ar),stK i j,db,_,aI,q v _ (bq ar) B4⟩⟩
 .obtain ⟨a,c,n,ds,rows,i,j,r,ai,rfl,eS,ah,aJ,oR,bE,q⟩:=h;exact ⟨bE,a,c,n,ds,rows,i,j,r,ai,rfl,eS,ah,aJ,oR,fun v I bA aI=>⟨bA,q v aI⟩⟩
noncomputable abbrev mj:List Str:=[ab "stages",ab "showing",ab "lasted",ab "left",ab "sought",ab "gone",ab "waiting",ab "picked"]
noncomputable def fE (a7:Addr) (bP:V) (cp lf bc b2:Int) (aE a4:Addr):List (Str × V):=[(ab "stages",V.ref a7),(ab "showing",bP),(ab "lasted",V.int cp),(ab "left",V.int lf),(ab "sought",V.int bc),(ab "gone",V.int b2),(ab "waiting",V.ref aE),(ab "picked",V.ref a4)]
theorem jE (a7:Addr) (bP:V) (cp lf bc b2:Int) (aE a4:Addr):(fE a7 bP cp lf bc b2 aE a4).map (·.1)=mj:=rfl
theorem Nc (a7:Addr) (bP:V) (cp lf bc b2:Int) (aE a4:Addr) (v:V):c9 (ab "showing") v (fE a7 bP cp lf bc b2 aE a4)=fE a7 v cp lf bc b2 aE a4:=by
 unfold fE;simp only [c9];rw [if_neg (by ac_nf)];rfl
theorem Sx (a7:Addr) (bP:V) (cp lf bc b2:Int) (aE a4:Addr) (v:Int):c9 (ab "lasted") (.int v) (fE a7 bP cp lf bc b2 aE a4)=fE a7 bP v lf bc b2 aE a4:=by
 unfold fE;simp only [c9];rw [if_neg (by ac_nf),if_neg (by ac_nf)];rfl
theorem aaW (a7:Addr) (bP:V) (cp lf bc b2:Int) (aE a4:Addr) (v:Int):c9 (ab "left") (.int v) (fE a7 bP cp lf bc b2 aE a4)=fE a7 bP cp v bc b2 aE a4:=by
 unfold fE;simp only [c9];rw [if_neg (by ac_nf),if_neg (by ac_nf),if_neg (by ac_nf)];rfl
theorem agR (a7:Addr) (bP:V) (cp lf bc b2:Int) (aE a4:Addr) (v:Int):c9 (ab "sought") (.int v) (fE a7 bP cp lf bc b2 aE a4)=fE a7 bP cp lf v b2 aE a4:=by
 unfold fE;simp only [c9];rw [if_neg (by ac_nf),if_neg (by ac_nf),if_neg (by ac_nf),if_neg (by ac_nf)];rfl
theorem Pa (a7:Addr) (bP:V) (cp lf bc b2:Int) (aE a4:Addr) (v:Int):c9 (ab "gone") (.int v) (fE a7 bP cp lf bc b2 aE a4)=fE a7 bP cp lf bc v aE a4:=by
 unfold fE;simp only [c9];rw [if_neg (by ac_nf),if_neg (by ac_nf),if_neg (by ac_nf),if_neg (by ac_nf),if_neg (by ac_nf)];rfl
section
variable {w:World} {K:bk} {mg:Str->Option Value} {t:b7} {H:aw} {a c ay le mo de c_ aT ch:Addr} {k:Nat}
theorem Bm (T:Txt w K mg t) (e:H a=some (.ins t.fH ay (l0 c k le mo de c_ aT ch))):gm K H a (ab "crossing") (.ref c):=⟨_,ay,_,e,T.kb,T.Ru,gY ir 0 (rt ..) (by ac_nf) rfl⟩
theorem u3 (T:Txt w K mg t) (e:H a=some (.ins t.fH ay (l0 c k le mo de c_ aT ch))):gm K H a (ab "sorts") (.ref c_):=⟨_,ay,_,e,T.kb,T.Rk,gY ir 5 (rt ..) (by ac_nf) rfl⟩
theorem AY (T:Txt w K mg t) (e:H a=some (.ins t.fH ay (l0 c k le mo de c_ aT ch))):gm K H a (ab "homes") (.ref aT):=⟨_,ay,_,e,T.kb,T.PY,gY ir 6 (rt ..) (by ac_nf) rfl⟩
end
theorem lV (a7:Addr) (bP:V) (cp lf bc b2:Int) (aE a4:Addr) (h:mj.contains m=false):(fE a7 bP cp lf bc b2 aE a4).lookup m=none:=Tm mj (jE ..) h
section
variable {w:World} {K:bk} {mg:Str->Option Value} {t:b7} {H:aw} {k a7 ay aE a4:Addr} {bP:V} {cp lf bc b2:Int}
theorem jm (T:Txt w K mg t) (e:H k=some (.ins t.dc ay (fE a7 bP cp lf bc b2 aE a4))):gm K H k (ab "stages") (.ref a7):=⟨_,ay,_,e,T.e9,T.Qc,gY mj 0 (jE ..) (by ac_nf) rfl⟩
theorem qa (T:Txt w K mg t) (e:H k=some (.ins t.dc ay (fE a7 bP cp lf bc b2 aE a4))):gm K H k (ab "showing") bP:=⟨_,ay,_,e,T.e9,T.Ar,gY mj 1 (jE ..) (by ac_nf) rfl⟩
theorem tv (T:Txt w K mg t) (e:H k=some (.ins t.dc ay (fE a7 bP cp lf bc b2 aE a4))):gm K H k (ab "waiting") (.ref aE):=⟨_,ay,_,e,T.e9,T.S0,gY mj 6 (jE ..) (by ac_nf) rfl⟩
theorem LM (T:Txt w K mg t) (e:H k=some (.ins t.dc ay (fE a7 bP cp lf bc b2 aE a4))):gm K H k (ab "picked") (.ref a4):=⟨_,ay,_,e,T.e9,T.OE,gY mj 7 (jE ..) (by ac_nf) rfl⟩
theorem RD (T:Txt w K mg t) (e:H k=some (.ins t.dc ay (fE a7 bP cp lf bc b2 aE a4))):gm K H k (ab "lasted") (.int cp):=⟨_,ay,_,e,T.e9,T.DB,gY mj 2 (jE ..) (by ac_nf) rfl⟩
theorem L8 (T:Txt w K mg t) (e:H k=some (.ins t.dc ay (fE a7 bP cp lf bc b2 aE a4))):gm K H k (ab "left") (.int lf):=⟨_,ay,_,e,T.e9,T.HC,gY mj 3 (jE ..) (by ac_nf) rfl⟩
theorem vP (T:Txt w K mg t) (e:H k=some (.ins t.dc ay (fE a7 bP cp lf bc b2 aE a4))):gm K H k (ab "sought") (.int bc):=⟨_,ay,_,e,T.e9,T.DI,gY mj 4 (jE ..) (by ac_nf) rfl⟩
theorem FH (T:Txt w K mg t) (e:H k=some (.ins t.dc ay (fE a7 bP cp lf bc b2 aE a4))):gm K H k (ab "gone") (.int b2):=⟨_,ay,_,e,T.e9,T.Ab,gY mj 5 (jE ..) (by ac_nf) rfl⟩
end
section
variable {w:World} {K:bk} {mg:Str->Option Value} {t:b7} {H:aw} {a c ay le mo de c_ aT ch:Addr} {k:Nat}
theorem akG (T:Txt w K mg t) (e:H a=some (.ins t.fH ay (l0 c k le mo de c_ aT ch))):gm K H a (ab "leasts") (.ref le):=⟨_,ay,_,e,T.kb,T.SU,gY ir 2 (rt ..) (by ac_nf) rfl⟩
theorem Wx (T:Txt w K mg t) (e:H a=some (.ins t.fH ay (l0 c k le mo de c_ aT ch))):gm K H a (ab "mosts") (.ref mo):=⟨_,ay,_,e,T.kb,T.N1,gY ir 3 (rt ..) (by ac_nf) rfl⟩
end
theorem hD.same {w:World} {t:b7} {rows:List ST} (h:hD P w t H a c n ds rows) (s:aN H I):hD P w t I a c n ds rows:=by
 obtain ⟨ay,le,mo,de,c_,aT,ch,ms,kvs,ax,aK,bU,eW,fR,e0,h5,k8,lQ⟩:=h;exact ⟨ay,le,mo,de,c_,aT,ch,ms,kvs,s _ _ ax,aK.same s,s _ _ bU,s _ _ eW,fR.same s,s _ _ e0,s _ _ h5,sw k8 s,lQ⟩
noncomputable abbrev d5:Str:=ab "trams"
noncomputable abbrev iC:Str:=ab "others"
structure dd where
 bP:Option Nat
 cp:Int
 lf:Nat
 bc:Nat
 b2:Int
 wt:List Str
 pt:Int
 po:Int
noncomputable def nc:Option Nat->V
 | none=>.b4
 | some i=>.int (i:Nat)
noncomputable def gA (xs:List Str):List (Key × V):=xs.map fun x=>(bH x,V.br true)
noncomputable def ml (a b:Int):List (Key × V):=[(bH d5,.int a),(bH iC,.int b)]
def eM (t:b7) (H:aw) (k a7 aE a4:Addr) (s:dd):Prop:=aE ≠ a4/\∃ ay,H k=some (.ins t.dc ay (fE a7 (nc s.bP) s.cp s.lf s.bc s.b2 aE a4))/\H aE=some (.bu (gA s.wt))/\H a4=some (.bu (ml s.pt s.po))
theorem eM.same {t:b7} {k a7 aE a4:Addr} (h:eM t H k a7 aE a4 s) (e:aN H I):eM t I k a7 aE a4 s:=by
 obtain ⟨h0,ay,af,ao,bj⟩:=h;exact ⟨h0,ay,e _ _ af,e _ _ ao,e _ _ bj⟩
def hx (k aE a4:Addr) (H I:aw):Prop:=∀ b u,b ≠ k->b ≠ aE->b ≠ a4->H b=some u->I b=some u
theorem hx.trans {k aE a4:Addr} (a:hx k aE a4 H H1) (b:hx k aE a4 H1 aB):hx k aE a4 H aB:=fun c u x y z e=>b c u x y z (a c u x y z e)
theorem hx.of {k aE a4:Addr} (a:aN H H1):hx k aE a4 H H1:=fun c u _ _ _ e=>a c u e
theorem hx.mH {k aE a4:Addr} (a:hx k aE a4 H H1) (s:aN b5 H) (af:b5 k=none) (ao:b5 aE=none) (bj:b5 a4=none):aN b5 H1:=fun c u e=>a c u (Db e af) (Db e ao) (Db e bj) (s c u e)
theorem amt:lj [] [(bH d5,V.int (-1)),(bH iC,V.int (-1))]=ml (-1) (-1):=by
 have h:(bH d5:Key) ≠ bH iC:=fun z=>absurd (sq z) (by ac_nf)
 simp [lj,eg,ml,h]
theorem IN (h:s=d5\/s=iC):eg (ml a b) (bH s) (.int v)=ml (if s=d5 then v else a) (if s=d5 then b else v):=by
 have af:d5 ≠ iC:=by ac_nf
 rcases h with rfl | rfl
 .simp [eg,ml,af,af.symm]
 .simp [eg,ml,af,af.symm]
theorem amQ (h:s=d5\/s=iC):cR (ml a b) (bH s)=some (.int (if s=d5 then a else b)):=by
 have af:d5 ≠ iC:=by ac_nf
 rcases h with rfl | rfl
 .simp [cR,ml,af,af.symm]
 .simp [cR,ml,af,af.symm]
theorem Tu (xs:List Str) (x:Str):(cR (gA xs) (bH x)).isSome=decide (x ∈ xs):=by
 rw [ig,decide_eq_true_eq]
 induction xs with
 | nil=>simp [gA,cR]
 | cons y ys cE=>
  by_cases c:y=x
  .simp [gA,cR,c]
  .have c':x ≠ y:=fun z=>c z.symm
   simp only [gA,cR,e1,sj] at cE ⊢;simp [c,c'] at cE ⊢
   try exact cE
noncomputable def rf (ds:List a3) (r:ST):dd:=⟨some 0,1,0,0,0,[],if d3 ds r=d5 then 0 else -1,if d3 ds r=d5 then -1 else 0⟩
noncomputable def rD (rows:List ST) (i:Nat) (x:Str):Str:=if kP rows x=some i then ab "free" else ab "stop"
section
variable (P:Program) (w:World)
def R9 (t:b7):bW:=fun vs H Q _=>∃ k ay a7 c n ds rows r,vs=[.ref k,.ref a7]/\H k=some (.ins t.dc ay [])/\hD P w t H a7 c n ds rows/\rows[0]? = some r/\(d3 ds r=d5\/d3 ds r=iC)/\aL H/\∀ aE a4 I,c3 k H I->aL I->H aE=none->H a4=none->eM t I k a7 aE a4 (rf ds r)->Q .b4 I
def Me (t:b7):bW:=fun vs H Q _=>∃ k a7 aE a4 s,vs=[.ref k]/\eM t H k a7 aE a4 s/\Q (nc s.bP) H
def SF (t:b7):bW:=fun vs H Q _=>∃ k a7 aE a4 s c n ds rows,vs=[.ref k]/\eM t H k a7 aE a4 s/\hD P w t H a7 c n ds rows/\∀ p I,aN H I->(aL H->aL I)->H p=none->I p=some (.lst (aW ((ds.map (·.name)).filter fun x=>decide (x ∈ s.wt))))->Q (.ref p) I
def aao (t:b7):bW:=fun vs H Q _=>∃ k a7 aE a4 s,∃ i:Nat,∃ c n ds rows,∃ d:a3,vs=[.ref k,.str d.name]/\eM t H k a7 aE a4 s/\s.bP=some i/\hD P w t H a7 c n ds rows/\told rows d.name=true/\Q (.str (rD rows i d.name)) H
end
theorem abm:cA P base T 1 t.xm t.An yr (R9 P w t):=by
 exists T.QJ.ok YM,9
 obtain ⟨k,ay,a7,c,n,ds,rows,r,rfl,au,eS,h0,mh,bE,q⟩:=h;obtain ⟨kg,le,mo,de,c_,aT,ch,ms,kvs,ax,C,bU,eW,fR,e0,h5,k8,lQ⟩:=eS;have bC:=gO aq;refine ⟨_,(aS (fu (aa 0) (aa 1) rfl)
   (aS (fu (aa 0) aD rfl)
   (aS (fu (aa 0) aD rfl)
   (aS (fu (aa 0) aD rfl)
   (aS (fu (aa 0) aD rfl)
   (aS (fu (aa 0) aD rfl)
   (aS (fu (aa 0) ya rfl)
   (aS (fu (aa 0) (LR (qV cZ (B2 B0 aD) (qV cZ (B2 B0 aD) Ih)) rfl rfl (by simp) (by decide)) rfl)
   (a5 (so bC (bN (aa 0) rfl) (bh bO (bN (aa 1) rfl) aD) aD rfl)))))))))),?_⟩
 exists (fun az I=>c3 k H I/\aL I/\I k=some (.ins t.dc ay [(ab "stages",V.ref a7)])/\az=[~~~k,~~~a7]),5
 .nofun;refine ⟨_,_,_,au,T.e9,T.Qc,(show (0:Nat) < 1000 by decide),?_⟩;rw [show c9 (ab "stages") (V.ref a7) ([]:List (Str × V))=[(ab "stages",V.ref a7)] from gU [] rfl (by ac_nf)];exact dF _ _ ⟨fun b u ae e=>by rw [aG ae];exact e,bE.upd,db,rfl⟩
 rintro fK H1 ⟨cq,cB,a1,rfl⟩;subst aY;exists (fun az I=>c3 k H I/\aL I/\I k=some (.ins t.dc ay [(ab "stages",V.ref a7),(ab "showing",V.int 0)])/\az=[~~~k,~~~a7]),5
 .nofun;refine ⟨_,_,_,a1,T.e9,T.Ar,(show (1:Nat) < 1000 by decide),?_⟩;rw [show c9 (ab "showing") (V.int 0) ([(ab "stages",V.ref a7)]:List (Str × V))=[(ab "stages",V.ref a7),(ab "showing",V.int 0)] from gU [ab "stages"] rfl (by ac_nf)];exact dF _ _ ⟨fun b u ae e=>by rw [aG ae];exact cq _ _ ae e,cB.upd,db,rfl⟩
 rintro cb aB ⟨d9,cD,a2,rfl⟩;subst aY;exists (fun az I=>c3 k H I/\aL I/\I k=some (.ins t.dc ay [(ab "stages",V.ref a7),(ab "showing",V.int 0),(ab "lasted",V.int 1)])/\az=[~~~k,~~~a7]),5
 .nofun;refine ⟨_,_,_,a2,T.e9,T.DB,(show (2:Nat) < 1000 by decide),?_⟩;rw [show c9 (ab "lasted") (V.int 1) ([(ab "stages",V.ref a7),(ab "showing",V.int 0)]:List (Str × V))=[(ab "stages",V.ref a7),(ab "showing",V.int 0),(ab "lasted",V.int 1)] from gU [ab "stages",ab "showing"] rfl (by ac_nf)];exact dF _ _ ⟨fun b u ae e=>by rw [aG ae];exact d9 _ _ ae e,cD.upd,db,rfl⟩
 rintro fS bw ⟨gT,dp,eC,rfl⟩;subst aY;exists (fun az I=>c3 k H I/\aL I/\I k=some (.ins t.dc ay [(ab "stages",V.ref a7),(ab "showing",V.int 0),(ab "lasted",V.int 1),(ab "left",V.int 0)])/\az=[~~~k,~~~a7]),5
 .nofun;refine ⟨_,_,_,eC,T.e9,T.HC,(show (3:Nat) < 1000 by decide),?_⟩;rw [show c9 (ab "left") (V.int 0) ([(ab "stages",V.ref a7),(ab "showing",V.int 0),(ab "lasted",V.int 1)]:List (Str × V))=[(ab "stages",V.ref a7),(ab "showing",V.int 0),(ab "lasted",V.int 1),(ab "left",V.int 0)] from gU [ab "stages",ab "showing",ab "lasted"] rfl (by ac_nf)];exact dF _ _ ⟨fun b u ae e=>by rw [aG ae];exact gT _ _ ae e,dp.upd,db,rfl⟩
 rintro kG cI ⟨dU,dK,lD,rfl⟩;subst aY;exists (fun az I=>c3 k H I/\aL I/\I k=some (.ins t.dc ay [(ab "stages",V.ref a7),(ab "showing",V.int 0),(ab "lasted",V.int 1),(ab "left",V.int 0),(ab "sought",V.int 0)])/\az=[~~~k,~~~a7]),5
 .nofun;refine ⟨_,_,_,lD,T.e9,T.DI,(show (4:Nat) < 1000 by decide),?_⟩;rw [show c9 (ab "sought") (V.int 0) ([(ab "stages",V.ref a7),(ab "showing",V.int 0),(ab "lasted",V.int 1),(ab "left",V.int 0)]:List (Str × V))=[(ab "stages",V.ref a7),(ab "showing",V.int 0),(ab "lasted",V.int 1),(ab "left",V.int 0),(ab "sought",V.int 0)] from gU [ab "stages",ab "showing",ab "lasted",ab "left"] rfl (by ac_nf)];exact dF _ _ ⟨fun b u ae e=>by rw [aG ae];exact dU _ _ ae e,dK.upd,db,rfl⟩
 rintro qd dj ⟨eX,hh,i0,rfl⟩;subst aY;exists (fun az I=>c3 k H I/\aL I/\I k=some (.ins t.dc ay [(ab "stages",V.ref a7),(ab "showing",V.int 0),(ab "lasted",V.int 1),(ab "left",V.int 0),(ab "sought",V.int 0),(ab "gone",V.int 0)])/\az=[~~~k,~~~a7]),5
 .nofun;refine ⟨_,_,_,i0,T.e9,T.Ab,(show (5:Nat) < 1000 by decide),?_⟩;rw [show c9 (ab "gone") (V.int 0) ([(ab "stages",V.ref a7),(ab "showing",V.int 0),(ab "lasted",V.int 1),(ab "left",V.int 0),(ab "sought",V.int 0)]:List (Str × V))=[(ab "stages",V.ref a7),(ab "showing",V.int 0),(ab "lasted",V.int 1),(ab "left",V.int 0),(ab "sought",V.int 0),(ab "gone",V.int 0)] from gU [ab "stages",ab "showing",ab "lasted",ab "left",ab "sought"] rfl (by ac_nf)];exact dF _ _ ⟨fun b u ae e=>by rw [aG ae];exact eX _ _ ae e,hh.upd,db,rfl⟩
 rintro mm hc ⟨c7,ja,mf,rfl⟩;subst aY;exists (fun az I=>c3 k H I/\aL I/\∃ aE,H aE=none/\I k=some (.ins t.dc ay [(ab "stages",V.ref a7),(ab "showing",V.int 0),(ab "lasted",V.int 1),(ab "left",V.int 0),(ab "sought",V.int 0),(ab "gone",V.int 0),(ab "waiting",V.ref aE)])/\I aE=some (.bu [])/\az=[~~~k,~~~a7]),5
 .nofun;intro aE oW;have wK:aE ≠ k:=fun z=>by rw [z,mf] at oW;cases oW
  have g9:H aE=none:=by
   cases e:H aE with
   | none=>rfl
   | some u=>have:=c7 _ _ wK e;rw [oW] at this;cases this
  refine ⟨_,_,_,(bq oW) _ _ mf,T.e9,T.S0,(show (6:Nat) < 1000 by decide),?_⟩;rw [show c9 (ab "waiting") (V.ref aE) ([(ab "stages",V.ref a7),(ab "showing",V.int 0),(ab "lasted",V.int 1),(ab "left",V.int 0),(ab "sought",V.int 0),(ab "gone",V.int 0)]:List (Str × V))=[(ab "stages",V.ref a7),(ab "showing",V.int 0),(ab "lasted",V.int 1),(ab "left",V.int 0),(ab "sought",V.int 0),(ab "gone",V.int 0),(ab "waiting",V.ref aE)] from gU [ab "stages",ab "showing",ab "lasted",ab "left",ab "sought",ab "gone"] rfl (by ac_nf)];exact dF _ _ ⟨fun b u ae e=>by rw [aG ae];exact (bq oW) _ _ (c7 _ _ ae e),ja.upd.upd,aE,g9,db,by rw [aG wK];exact db,rfl⟩
 rintro kc f3 ⟨dt,kK,aE,g9,mI,wU,rfl⟩;subst aY;exists (fun az I=>c3 k H I/\aL I/\∃ a4,I k=some (.ins t.dc ay (fE a7 (.int 0) 1 0 0 0 aE a4))/\I aE=some (.bu [])/\I a4=some (.bu (ml (-1) (-1)))/\a4 ≠ aE/\H a4=none/\az=[~~~k,~~~a7]),5
 .nofun;simp only [vl];nofun;intro a4 ku;have ts:a4 ≠ k:=fun z=>by rw [z,mI] at ku;cases ku
  have hW:a4 ≠ aE:=fun z=>by rw [z,wU] at ku;cases ku
  have g4:H a4=none:=by
   cases e:H a4 with
   | none=>rfl
   | some u=>have:=dt _ _ ts e;rw [ku] at this;cases this
  refine ⟨db,[(bH (ab "trams"),.int (-1)),(bH (ab "others"),.int (-1))],rfl,by show 2 <= 15;decide,_,_,_,(aG ts.symm).trans ((aG ts.symm).trans mI),T.e9,T.OE,(show (7:Nat) < 1000 by decide),?_⟩;rw [show c9 (ab "picked") (V.ref a4) ([(ab "stages",V.ref a7),(ab "showing",V.int 0),(ab "lasted",V.int 1),(ab "left",V.int 0),(ab "sought",V.int 0),(ab "gone",V.int 0),(ab "waiting",V.ref aE)]:List (Str × V))=fE a7 (.int 0) 1 0 0 0 aE a4 from gU [ab "stages",ab "showing",ab "lasted",ab "left",ab "sought",ab "gone",ab "waiting"] rfl (by ac_nf)];refine dF _ _ ⟨fun b u ae e=>?_,kK.upd.upd.upd,a4,db,?_,(aG ts).trans (db.trans (congrArg (fun x=>some (fz.bu x)) (amt))),hW,g4,rfl⟩
  .have:=dt _ _ ae e;rw [aG ae,aG (Db this ku),aG (Db this ku)];exact this
  .rw [aG (bK wU mI (by intro z;cases z)),aG hW.symm,aG hW.symm];exact wU
 rintro uS iS ⟨dh,oS,a4,pw,Al,UA,hW,ku,rfl⟩;subst aY;nofun;refine ⟨_,LM T pw,_,u3 T (dh _ _ (Fl au ax) ax),_,rfl,_,av.of (dh _ _ (bK e0 au (by intro z;cases z)) e0),_,bt (j:=0) (qj (by rw [cN,h0];rfl)),_,rfl,_,ly.k (k:=bH (d3 ds r)) UA (hg (show (ml (-1) (-1)).length <= 2 from b8 2) (by decide)),q aE a4 _ (fun b u ae e=>?_) oS.upd g9 ku ⟨hW.symm,ay,?_,?_,?_⟩⟩
 .rw [aG (Db e ku)];exact dh _ _ ae e
 .rw [aG (bK pw UA (by intro z;cases z))];exact pw
 .rw [aG hW.symm];exact Al
 .rw [db,IN mh];rfl
theorem aj6:cA P base T 1 t.wd t.C2 ["self"] (Me t):=by
 exists T.Ux.ok Yd,9
 obtain ⟨k,a7,aE,a4,ai,rfl,⟨_,ay,ck,d0,e8⟩,q⟩:=h;refine ⟨_,(a5 (cy (bN (aa 0) rfl))),?_⟩;nofun;exact ⟨_,qa T ck,q⟩
theorem W8:cA P base T 2 t.wM t.zv ["self"] (SF P w t):=by
 refine cH (xX T) fun pK=>?_;exists T.V_.ok akw,9
 obtain ⟨k,a7,aE,a4,ai,c,n,ds,rows,rfl,⟨_,ay,ck,d0,e8⟩,⟨kg,le,mo,de,c_,aT,ch,ms,kvs,ax,C,bU,eW,fR,e0,h5,k8,lQ⟩,q⟩:=h;have bC:=gO aq;obtain ⟨⟨eu,gg⟩,Fy,wl,aH,cf,_,_⟩:=id C;refine ⟨_,(a5 (cy (fT rfl (d6 (iR (bN (bN (aa 0) rfl) rfl) T.lc T.xR pK aq T.wR .nil cU)) (ac (sc:=bB Jt) rfl (by ac_nf)) (N:=uK) (sel:=[none,some 0]) (fw (M:=["self"]) (by ac_nf)) (eO.of (fun _ _ _ _=>(b9 (i:=0) (d1 (N:=uK) (by ac_nf) rfl))) (fun _ _ _ _=>⟨_,(nF (vN (Ii bC (aa 0) (bN (aa 1) rfl)))),by walk_at "B"⟩) (fun _ _ _ _=>⟨_,(aa 0),by walk_at "B"⟩))))),?_⟩;nofun;refine ⟨_,jm T ck,_,rfl,_,Bm T ax,_,rfl,_,_,cf,kF _ _ _ (by ac_nf),c,n,ds,rfl,C,fun p ar=>⟨p,rfl,⟨_,av.of db⟩,?_⟩⟩;have sB:aN H (upd H p (.lst (aW (ds.map (·.name))))):=bq ar;have nO:(upd H p (.lst (aW (ds.map (·.name))))) p=some (.lst (aW (ds.map (·.name)))):=db;have jQ:aL H->aL (upd H p (.lst (aW (ds.map (·.name))))):=fun z=>z.upd
 generalize upd H p (.lst (aW (ds.map (·.name))))=k7 at sB nO jQ ⊢;refine Gc.pG (xs:=aW (ds.map (·.name))) (ss:=(ds.map (·.name)).map fun x=>if decide (x ∈ ai.wt)=true then some (V.str x) else none) (av.of nO) (by rw [eY,aP];exact cP gg (by decide)) (by rw [eY,aP]) (fun i v o ys N aI aT bb=>?_) (fun l aM=>?_)
 .unfold aW at aI;obtain ⟨x,aj,rfl⟩:=bZ aI;obtain ⟨dX,eG,rfl⟩:=bZ aT;rw [aj] at eG;cases eG;nofun;refine ⟨Sub.name,_,tv T (sB _ _ ck),_,rfl,_,gM.k (k:=bH x) (sB _ _ d0),?_⟩;rw [Tu];by_cases cz:x ∈ ai.wt
  .simp [cz] at bb ⊢;exact bb
  .simp [cz] at bb ⊢;exact bb
 .rw [x1];exact q l _ (sB.trans (bq aM)) (fun z=>(jQ z).upd) (sB.free aM) db
theorem ak2:cA P base T 1 t.yQ t.LX j2 (aao P w t):=by
 exists T.UR.ok Xj,9
 obtain ⟨k,a7,aE,a4,ai,i,c,n,ds,rows,d,rfl,⟨_,ay,ck,d0,e8⟩,dz,⟨kg,le,mo,de,c_,aT,ch,ms,kvs,ax,C,bU,eW,fR,e0,h5,k8,lQ⟩,cT,q⟩:=h;have bC:=gO aq;obtain ⟨j,r,aJ,au,jD,_⟩:=ph cT;refine ⟨_,(a5 (cy (uv (cY eE (o4 bC (bN (bN (aa 0) rfl) rfl) (aa 1) (fun _ _=>rfl)) (bN (aa 0) rfl) (cu _)) cZ cZ))),?_⟩;rw [dz] at ck;nofun;have bp:=gM.k (k:=bH d.name) h5;rw [aJ] at bp;refine ⟨_,jm T ck,_,rfl,_,AY T ax,_,rfl,_,bp,_,qa T ck,rfl,?_⟩;unfold rD at q;rw [au] at q;by_cases hm:j=i
 .rw [if_pos (by rw [hm])] at q;rw [hm,if_pos (show decide (V.int ((i:Nat):Int)=nc (some i))=true from decide_eq_true rfl)];exact q
 .rw [if_neg (fun z=>hm (ei z))] at q;rw [if_neg (show ¬ decide (V.int ((j:Nat):Int)=nc (some i))=true from fun z=>hm (by have z:=of_decide_eq_true z;injection z with z;omega))];exact q
noncomputable def kY (n:Int) (ds:List a3) (rows:List ST) (i j:Nat):Int:=match rows[i]?,rows[j]? with
 | some r,some s=>((iL n ds r.mem s.mem).max?).getD 0
 | _,_=>0
theorem EP {rows:List ST} (ah:rows[i]? = some r) (aJ:rows[j]? = some s) (h:kI (iL n ds r.mem s.mem) v):kY n ds rows i j=v:=by
 unfold kY;rw [ah,aJ];show ((iL n ds r.mem s.mem).max?).getD 0=v;rw [(acQ (xs:=iL n ds r.mem s.mem) (a:=v)).mpr ⟨h.1,h.2⟩];rfl
noncomputable def qY (n:Int) (ds:List a3) (rows:List ST) (s:dd) (d:a3):Str:=if kP rows d.name=some s.lf/\s.b2 < jv d then ab "fade" else if kP rows d.name=some s.bc/\kY n ds rows s.lf s.bc - s.b2 <= jo d then ab "ready" else ab "stop"
noncomputable def ie (n:Int) (ds:List a3) (rows:List ST) (s:dd) (d:a3):Str:=match s.bP with
 | some i=>rD rows i d.name
 | none=>qY n ds rows s d
section
variable (P:Program) (w:World)
def ahb (t:b7):bW:=fun vs H Q _=>∃ k a7 aE a4 s c n ds rows,∃ i:Nat,∃ d:a3,vs=[.ref k,.str d.name]/\eM t H k a7 aE a4 s/\hD P w t H a7 c n ds rows/\told rows d.name=true/\ds[i]? = some d/\s.lf < rows.length/\s.bc < rows.length/\s.lf ≠ s.bc/\aL H/\Q (.str (qY n ds rows s d)) H
end
theorem Z6:cA P base T 3 t.y5 t.Je j2 (ahb P w t):=by
 refine cH (rH T) fun kf=>cH (P5 T) fun Ez=>?_;have D9:qt P w K mg base dE 2 (tS t) "ready" ["self"] (tH t):=As (QG T) (by decide);have Er:qt P w K mg base dE 2 (tS t) "fade" ["self"] (tw t):=As (Vl T) (by decide);exists T.Mu.ok D7,9
 obtain ⟨k,a7,aE,a4,ai,c,n,ds,rows,i,d,rfl,⟨_,ay,ck,d0,e8⟩,eS,cT,hd,oJ,lJ,ct,bE,q⟩:=h;obtain ⟨kg,le,mo,de,c_,aT,ch,ms,kvs,ax,C,bU,eW,fR,e0,h5,k8,lQ⟩:=id eS;have bC:=gO aq;obtain ⟨⟨eu,gg⟩,Fy,wl,aH,cf,_,_⟩:=id C;obtain ⟨j,r,aJ,au,jD,_⟩:=ph cT;have bp:=gM.k (k:=bH d.name) h5;rw [aJ] at bp;refine ⟨_,(aS (cF (i:=2) D7.aH (fN (bN (bN (aa 0) rfl) rfl) T.lc T.o1 kf aq T.pq .nil cU (ak (aa 1) aF)))
   (aS (cF (i:=3) D7.aH (o4 bC (bN (bN (aa 0) rfl) rfl) (aa 1) (fun _ _=>rfl)))
   (aS (dP (g5.pt (ou (cY eE (aa 3) (bN (aa 0) rfl) (cu _)) (oi (cY lp (bN (aa 0) rfl) (B7 (aa 2) Er aq cU) (cu _))))) (a5 (cy cZ)) ek)
   (aS (dP (g5.pt (ou (cY eE (aa 3) (bN (aa 0) rfl) (cu _)) (oi (cY RL (bI lS (cc Ez aq T.PQ T.zK.bG T.O9 (ak (bN (aa 0) rfl) (ak (bN (aa 0) rfl) (ak (bN (aa 0) rfl) aF)))) (bN (aa 0) rfl)) (B7 (aa 2) D9 aq cU) (cu _))))) (a5 (cy cZ)) ek)
   (a5 (cy cZ)))))),?_⟩
 exists (fun az I=>I=H/\∃ a,fa t H a d/\az=[~~~k,some (.str d.name),~~~a,none]),5
 .nofun;exact ⟨_,jm T ck,_,rfl,_,Bm T ax,_,rfl,_,_,cf,kF _ _ _ (by ac_nf),c,n,ds,i,d,rfl,C,hd,fun a W=>dF _ _ ⟨rfl,a,W,rfl⟩⟩
 rintro fK H1 ⟨rfl,a,W,rfl⟩;subst aY;exists (fun az I=>I=H1/\az=[~~~k,some (.str d.name),~~~a,some (.int (j:Nat))]),5
 .nofun;exact ⟨_,jm T ck,_,rfl,_,AY T ax,_,rfl,_,bp,dF _ _ ⟨rfl,rfl⟩⟩
 rintro cb aB ⟨rfl,rfl⟩;obtain ⟨u6,R_,q7⟩:=id W;subst aY;unfold qY at q;rw [au] at q;simp only [dx];refine qn (fun az I=>I=aB/\¬ (some j=some ai.lf/\ai.b2 < jv d)/\az=[~~~k,some (.str d.name),~~~a,some (.int (j:Nat))]) (fun fW dF kA _ _=>?_) ?_
 .refine dO (decide (j=ai.lf) && decide (ai.b2 < jv d)) (fun jC a0=>?_) (fun ae=>?_) (fun ae=>?_)
  .nofun;refine ⟨_,L8 T ck,rfl,?_⟩;by_cases cz:j=ai.lf
   .rw [decide_eq_true cz,ky] at a0;rw [if_pos (show decide (V.int ((j:Nat):Int)=V.int ((ai.lf:Nat):Int))=true from decide_eq_true (by rw [cz]))];exact ⟨_,FH T ck,_,_,_,q7,⟨_,u6,rfl⟩,Ae (by ac_nf),a,d,rfl,W,rfl,_,rfl,_,rfl,a0⟩
   .rw [decide_eq_false cz,m'] at a0;rw [if_neg (show ¬ decide (V.int ((j:Nat):Int)=V.int ((ai.lf:Nat):Int))=true from fun z=>cz (by have z:=of_decide_eq_true z;injection z with z;omega))];exact a0
  .rw [g_,decide_eq_true_eq,decide_eq_true_eq] at ae;rw [if_pos ⟨by rw [ae.1],ae.2⟩] at q;nofun;rw [kA];exact q
  .simp only [hr];refine dF _ _ ⟨rfl,fun z=>?_,rfl⟩;rw [decide_eq_true (ei z.1),decide_eq_true z.2] at ae;cases ae
 rintro fS bw ⟨rfl,o5,rfl⟩;rw [if_neg o5] at q;simp only [dx];refine qn (fun az I=>I=bw/\¬ (some j=some ai.bc/\kY n ds rows ai.lf ai.bc - ai.b2 <= jo d)/\az=[~~~k,some (.str d.name),~~~a,some (.int (j:Nat))]) (fun fW dF kA _ _=>?_) ?_
 .refine dO (decide (j=ai.bc) && decide (kY n ds rows ai.lf ai.bc - ai.b2 <= jo d)) (fun jC a0=>?_) (fun ae=>?_) (fun ae=>?_)
  .nofun;refine ⟨_,vP T ck,rfl,?_⟩;by_cases cz:j=ai.bc
   .rw [decide_eq_true cz,ky] at a0;rw [if_pos (show decide (V.int ((j:Nat):Int)=V.int ((ai.bc:Nat):Int))=true from decide_eq_true (by rw [cz]))];refine ⟨_,jm T ck,_,L8 T ck,_,vP T ck,a7,c,n,ds,rows,ai.lf,ai.bc,_,_,rfl,eS,aZ oJ,aZ lJ,ct,bE,fun v aI=>⟨_,FH T ck,_,rfl,_,rfl,_,_,_,q7,⟨_,u6,rfl⟩,Ae (by ac_nf),a,d,rfl,W,rfl,_,rfl,?_⟩⟩;rw [EP (aZ oJ) (aZ lJ) aI] at a0;exact a0
   .rw [decide_eq_false cz,m'] at a0;rw [if_neg (show ¬ decide (V.int ((j:Nat):Int)=V.int ((ai.bc:Nat):Int))=true from fun z=>cz (by have z:=of_decide_eq_true z;injection z with z;omega))];exact a0
  .rw [g_,decide_eq_true_eq,decide_eq_true_eq] at ae;rw [if_pos ⟨by rw [ae.1],ae.2⟩] at q;nofun;rw [kA];exact q
  .simp only [hr];refine dF _ _ ⟨rfl,fun z=>?_,rfl⟩;rw [decide_eq_true (ei z.1),decide_eq_true z.2] at ae;cases ae
 rintro kG cI ⟨rfl,q4,rfl⟩;rw [if_neg q4] at q;nofun;exact q
theorem D1 {ds:List a3} (h:(ds.map (·.name)).Nodup) {i j:Nat} {d e:a3} (ah:ds[i]? = some d) (aJ:ds[j]? = some e) (z:d.name=e.name):i=j:=by
 obtain ⟨af,ax⟩:=cv.mp ah;obtain ⟨ao,aK⟩:=cv.mp aJ;have e:(ds.map (·.name))[i]'(by simpa using af)=(ds.map (·.name))[j]'(by simpa using ao):=by
  rw [Fm,Fm,ax,aK];exact z
 exact (Fx h).mp e
noncomputable def jc (ds:List a3) (f:a3->Str):List (Key × V):=ds.map fun d=>(bH d.name,V.str (f d))
theorem ajk {ds:List a3} {f:a3->Str} (h:(ds.map (·.name)).Nodup) {i:Nat} {d:a3} (hd:ds[i]? = some d):eg (jc (ds.take i) f) (bH d.name) (.str (f d))=jc (ds.take (i + 1)) f:=by
 unfold eg;have no:((jc (ds.take i) f).any fun dm=>decide (dm.1=bH d.name))=false:=by
  rw [D6];intro p ar;unfold jc at ar;obtain ⟨e,he,rfl⟩:=bJ.mp ar;obtain ⟨j,aJ⟩:=iN he;have m5:=(cv.mp aJ).1;rw [hE] at m5;rw [u7 (by omega)] at aJ;simp only [decide_eq_true_eq];intro z;have:=D1 h aJ hd (sq z);omega
 rw [if_neg (by rw [no];exact eQ),iW hd];unfold jc;rw [e5];rfl
theorem ah6 {ds:List a3} {f:a3->Str} (h:(ds.map (·.name)).Nodup) {i:Nat} {d:a3} (hd:ds[i]? = some d):cR (jc ds f) (bH d.name)=some (.str (f d)):=by
 have:∀ (l:List a3),(l.map (·.name)).Nodup->d ∈ l->cR (jc l f) (bH d.name)=some (.str (f d)):=fun l=>by
  induction l with
  | nil=>intro _ h;cases h
  | cons x l cE=>
   intro aQ hm;by_cases c:x.name=d.name
   .have:x=d:=by
     rcases fx.mp hm with e | e
     .exact e.symm
     .exact absurd (bJ.mpr ⟨d,e,c.symm⟩) (sQ.mp aQ).1
    subst this;simp [cR,jc]
   .have m9:d ∈ l:=by
     rcases fx.mp hm with e | e
     .exact absurd (by rw [e]) c
     .exact e
    have:=cE (sQ.mp aQ).2 m9;simp only [cR,jc,e1,sj] at this ⊢;simp [c] at this ⊢;exact this
 exact this ds h (cm hd)
def XY (rows:List ST) (s:dd):Prop:=s.bP=none->s.lf < rows.length/\s.bc < rows.length/\s.lf ≠ s.bc
def agg (P:Program) (w:World) (t:b7):bW:=fun vs H Q _=>∃ k a7 aE a4 s c n ds rows,vs=[.ref k]/\eM t H k a7 aE a4 s/\hD P w t H a7 c n ds rows/\(∀ d ∈ ds,told rows d.name=true)/\XY rows s/\aL H/\∀ p I,aN H I->aL I->H p=none->I p=some (.bu (jc ds (ie n ds rows s)))->Q (.ref p) I
theorem afP:cA P base T 4 t.Ax t.F4 ["self"] (agg P w t):=by
 refine cH (xX T) fun pK=>cH (ak2 T) fun afH=>cH (Z6 T) fun ahc=>?_;exists T.Sr.ok I0,9
 obtain ⟨k,a7,aE,a4,ai,c,n,ds,rows,rfl,hp,eS,jk,alT,bE,q⟩:=h;have bC:=gO aq;obtain ⟨_,ay,ck,d0,e8⟩:=id hp;obtain ⟨kg,le,mo,de,c_,aT,ch,ms,kvs,ax,C,_⟩:=id eS;obtain ⟨⟨eu,gg⟩,Fy,wl,aH,cf,_,_⟩:=id C;refine ⟨_,(aS (cF (i:=1) I0.aH ya)
   (aS (ft fq rfl (d6 (iR (bN (bN (aa 0) rfl) rfl) T.lc T.xR pK aq T.wR .nil cU)) (b9 (i:=2) I0.aH) (a5 (so bC (aa 1) (aa 2) (uv (cY F6 (bN (aa 0) rfl) n7 (cu _)) (fN (aa 0) T.e9 T.ZT afH aq T.aic .nil cU (ak (aa 2) aF)) (fN (aa 0) T.e9 T.ait ahc aq T.aa_ .nil cU (ak (aa 2) aF))) rfl)))
   (a5 (cy (aa 1))))),?_⟩
 exists (fun az I=>aN H I/\aL I/\∃ a',H a'=none/\I a'=some (.bu [])/\az=[~~~k,~~~a',none]),4
 .nofun;exact fun a' j6=>bL _ _ ⟨bq j6,bE.upd,a',j6,db,rfl⟩
 rintro fK H1 ⟨s1,cB,a',j6,dH,rfl⟩;subst aY;nofun;refine ⟨_,jm T (s1 _ _ ck),_,rfl,_,Bm T (s1 _ _ ax),_,rfl,_,_,s1 _ _ cf,kF _ _ _ (by ac_nf),c,n,ds,rfl,C.same s1,fun ez ix=>⟨ez,rfl,⟨_,av.of db⟩,?_⟩⟩;refine dY.list (xs:=aW (ds.map (·.name))) (fun i σ I=>aN H I/\aL I/\I ez=some (.lst (aW (ds.map (·.name))))/\I a'=some (.bu (jc (ds.take i) (ie n ds rows ai)))/\∃ y,σ=[~~~k,~~~a',y]) ?_ ?_ ?_ ?_
 .exact ⟨s1.trans (bq ix),cB.upd,db,(bq ix) _ _ dH,_,rfl⟩
 .rintro i σ I ah bf;ac_rfl
  obtain ⟨_,_,h,_⟩:=bf;subst aY;exact av.of h
 .rintro i v σ I aI bf;ac_rfl
  obtain ⟨s2,cD,FX,t5,y,rfl⟩:=bf;obtain ⟨x,aj,rfl⟩:=bZ aI;obtain ⟨d,hd,rfl⟩:=bZ aj;have u9:=cm hd;have hlen:(jc (ds.take i) (ie n ds rows ai)).length <= 12:=by unfold jc;rw [aP,hE];omega
  have tR:upd I a' (.bu (eg (jc (ds.take i) (ie n ds rows ai)) (bH d.name) (.str (ie n ds rows ai d)))) ez=some (.lst (aW (ds.map (·.name)))):=by
   rw [aG (bK FX t5 (by intro z;cases z))];exact FX
  have C':upd I a' (.bu (eg (jc (ds.take i) (ie n ds rows ai)) (bH d.name) (.str (ie n ds rows ai d)))) a'=some (.bu (jc (ds.take (i + 1)) (ie n ds rows ai))):=by
   rw [db,ajk (f:=ie n ds rows ai) eu hd]
  subst aY;nofun;refine ⟨_,qa T (s2 _ _ ck),?_⟩;cases dz:ai.bP with
  | some xe=>
   have I5:ie n ds rows ai d=rD rows xe d.name:=by unfold ie;rw [dz]
   rw [I5] at tR C';rw [if_pos (by rfl)];exact ⟨_,_,s2 _ _ ck,lV _ _ _ _ _ _ _ _ (by ac_nf),k,a7,aE,a4,ai,xe,c,n,ds,rows,d,rfl,hp.same s2,dz,eS.same s2,jk d u9,_,ly.k (k:=bH d.name) t5 (hg hlen (by decide)),s2.ff j6,cD.upd,tR,C',_,rfl⟩
  | none=>
   have I5:ie n ds rows ai d=qY n ds rows ai d:=by unfold ie;rw [dz]
   rw [I5] at tR C';obtain ⟨g1,g2,g3⟩:=alT dz;rw [if_neg (by intro z;cases z)];exact ⟨_,_,s2 _ _ ck,lV _ _ _ _ _ _ _ _ (by ac_nf),k,a7,aE,a4,ai,c,n,ds,rows,i,d,rfl,hp.same s2,eS.same s2,jk d u9,hd,g1,g2,g3,cD,_,ly.k (k:=bH d.name) t5 (hg hlen (by decide)),s2.ff j6,cD.upd,tR,C',_,rfl⟩
 .rintro σ I bf;ac_rfl
  obtain ⟨s2,cD,FX,t5,y,rfl⟩:=bf;have la:(aW (ds.map (·.name))).length=ds.length:=by unfold aW;simp
  subst aY;rw [la,gF] at t5;nofun;exact q a' I s2 cD j6 t5
theorem Gc.P_ (hf:H d=some (.ey o (.bu kvs))) (aO:kvs.length <= sizeLine) (he:zs.length=kvs.length)
  (aC:∀ (i:Nat) (k:Key) (v z:V) (N:V->aw->Prop),kvs[i]? = some (k,v)->zs[i]? = some z->N z H->g (dk k) da H fun cb aB=>Sub da cb/\bT cb aB N) (hd:∀ p,H p=none->Q (.ref p) (upd H p (.lst zs))):Gc (y_ d o kvs) g pE bT da Q H:=by
 refine Gc.of (n:=kvs.length) (fun i ys I=>I=H/\ys=zs.take i) aO ⟨rfl,rfl⟩ (fun i ys I ah ⟨e7,_⟩=>by subst e7;exact ⟨hf,ah⟩) (fun ys I ⟨e7,_⟩=>by subst e7;exact ⟨hf,b8 _⟩) (fun i ys I ah ⟨_,e⟩=>by rw [e,hE];omega) (fun i ys I x aB ah ⟨ax,aK⟩ y=>?_) (fun ys I ⟨ax,aK⟩ p ar=>?_)
 .obtain ⟨bU,k,v,au,eW⟩:=y;subst ax bU eW;intro N bb;have et:i < zs.length:=by omega
  have fX:zs[i]? = some zs[i]:=aZ et;exact aC i k v zs[i] (fun y cI=>N (ys ++ [y]) cI) au fX (bb _ _ ⟨rfl,by rw [aK,od,fX];rfl⟩)
 .subst ax;rw [aK,<- he,gF];exact hd p ar
noncomputable def pf (ds:List a3) (rows:List ST) (x:Str):Str:=(((kP rows x).bind fun j=>rows[j]?).map (d3 ds)).getD (ab "")
noncomputable def uT (ds:List a3) (rows:List ST) (xs:List Str):Bool:=xs.any fun x=>decide (pf ds rows x=d5)
section
variable (P:Program) (w:World)
def ajU (t:b7):bW:=fun vs H Q _=>∃ b5 k a7 aE a4 s c n ds rows,vs=[.ref k]/\eM t H k a7 aE a4 s/\hD P w t b5 a7 c n ds rows/\aN b5 H/\b5 aE=none/\(∀ x ∈ s.wt,told rows x=true)/\s.wt.length <= 12/\∀ I,aN H I->(aL H->aL I)->Q (.br (uT ds rows s.wt)) I
end
theorem Xo:cA P base T 1 t.Ci t.GZ ["self"] (ajU P w t):=by
 exists T.Rg.ok acG,9
 obtain ⟨b5,k,a7,aE,a4,ai,c,n,ds,rows,rfl,⟨_,ay,ck,d0,e8⟩,eS,s0,g9,cT,aM,q⟩:=h;obtain ⟨kg,le,mo,de,c_,aT,ch,ms,kvs,ax,C,bU,eW,fR,e0,h5,k8,lQ⟩:=id eS;have bC:=gO aq;refine ⟨_,(a5 (cy (eT (af4 rfl) rfl T.aiw ahM (ak (Up (fT rfl (GY (bN (aa 0) rfl)) (ac (sc:=bB L4) rfl (by ac_nf)) (N:=uK) (sel:=[none,some 0]) (fw (M:=["self"]) (by ac_nf)) (eO.of (fun _ _ _ _=>(b9 (i:=0) (d1 (N:=uK) (by ac_nf) rfl))) (fun _ _ _ _=>⟨_,hO,by walk_at "B"⟩) (fun _ _ _ _=>⟨_,(hb eE (bh bO (bN (bN (aa 1) rfl) rfl) (o4 bC (bN (bN (aa 1) rfl) rfl) (aa 0) (fun _ _=>rfl))) cZ (cu _)),by walk_at "B"⟩)))) aF)))),?_⟩;nofun;refine ⟨aE,_,d0,_,tv T ck,_,rfl,_,d0,fun o=>?_⟩;have gn:(gA ai.wt).length=ai.wt.length:=by unfold gA;rw [aP]
 have o_:aN b5 (upd H aE (.ey o (.bu (gA ai.wt)))):=fun b u e=>by rw [aG (Db e g9)];exact s0 _ _ e
 have CJ:(upd H aE (.ey o (.bu (gA ai.wt)))) k=some (.ins t.dc ay (fE a7 (nc ai.bP) ai.cp ai.lf ai.bc ai.b2 aE a4)):=by rw [aG (bK ck d0 (by intro z;cases z))];exact ck
 have nG:(upd H aE (.ey o (.bu (gA ai.wt)))) aE=some (.ey o (.bu (gA ai.wt))):=db;refine Gc.P_ (zs:=(ai.wt.map fun x=>decide (pf ds rows x=d5)).map V.br) nG (by rw [gn];exact cP aM (by decide)) (by rw [aP,aP,gn]) (fun i UK v z N au aO bb=>?_) (fun p ar=>?_)
 .unfold gA at au;obtain ⟨x,aj,ex⟩:=bZ au;cases ex;obtain ⟨b,ae,rfl⟩:=bZ aO;obtain ⟨dX,eG,rfl⟩:=bZ ae;rw [aj] at eG;cases eG;obtain ⟨j,r,aJ,e2,jD,_⟩:=ph (cT x (cm aj));have aC:pf ds rows x=d3 ds r:=by unfold pf;rw [e2,uu,jD];rfl
  rw [aC] at bb;have bp:=gM.k (k:=bH x) (o_ _ _ h5);rw [aJ] at bp;nofun;refine ⟨Sub.name,_,jm T CJ,_,rfl,_,u3 T (o_ _ _ ax),_,jm T CJ,_,rfl,_,AY T (o_ _ _ ax),_,rfl,_,bp,_,rfl,_,_,rfl,av.of (o_ _ _ e0),_,bt (qj (by rw [cN,jD];rfl)),rfl,?_⟩;rw [show decide (V.str (d3 ds r)=V.str (ab "trams"))=decide (d3 ds r=d5) from decide_eq_decide.mpr ⟨fun z=>by injection z,fun z=>by rw [z]⟩];exact bb
 .have hW:p ≠ aE:=fun z=>by rw [z,nG] at ar;cases ar
  have uj:H p=none:=by rw [aG hW] at ar;exact ar
  refine ⟨o,by rw [aG (dJ hW)];exact nG,p,rfl,_,av.of (by rw [aG hW];exact db),?_⟩;have he:((ai.wt.map fun x=>decide (pf ds rows x=d5)).any id)=uT ds rows ai.wt:=by unfold uT;rw [QL];rfl
  rw [he];refine q _ (fun b u e=>?_) (fun z=>((z.upd).upd).upd);by_cases cz:b=aE
  .subst cz;rw [d0] at e;cases e;exact db
  .rw [aG cz,aG (Db e uj),aG cz];exact e
noncomputable def ov (ds:List a3) (rows:List ST) (s:dd) (r:ST) (own:Bool):Bool:=s.wt.isEmpty || decide (s.cp < r.lo) || (decide (s.cp < r.ah) && own && !uT ds rows s.wt)
def aaY (P:Program) (w:World) (t:b7):bW:=fun vs H Q _=>∃ b5 k a7 aE a4 s c n ds rows,∃ i:Nat,∃ r own,vs=[.ref k,.br own]/\eM t H k a7 aE a4 s/\s.bP=some i/\rows[i]? = some r/\hD P w t b5 a7 c n ds rows/\aN b5 H/\b5 aE=none/\(∀ x ∈ s.wt,told rows x=true)/\s.wt.length <= 12/\∀ I,aN H I->(aL H->aL I)->Q (.br (ov ds rows s r own)) I
theorem akT:cA P base T 2 t.Af t.FR rk (aaY P w t):=by
 refine cH (Xo T) fun Yw=>?_;exists T.MB.ok aem,9
 obtain ⟨b5,k,a7,aE,a4,ai,c,n,ds,rows,i,r,own,rfl,hp,dz,hH,eS,s0,g9,cT,aM,q⟩:=h;obtain ⟨_,ay,ck,d0,e8⟩:=id hp;obtain ⟨kg,le,mo,de,c_,aT,ch,ms,kvs,ax,C,bU,eW,fR,e0,h5,k8,lQ⟩:=id (eS.same s0);have bC:=gO aq;have mn:=ck;rw [dz] at mn;refine ⟨_,(aS (dP (g5.pt (qg (yE (zZ (bN (aa 0) rfl) (fun _=>rfl))) (q6 (cY lp (bN (aa 0) rfl) (bh bO (bN (bN (aa 0) rfl) rfl) (bN (aa 0) rfl)) (cu _))))) (a5 (cy kj)) ek)
   (a5 (cy (x9 (hb lp (bN (aa 0) rfl) (bh bO (bN (bN (aa 0) rfl) rfl) (bN (aa 0) rfl)) (cu _)) (x9 (aa 1) (um (Gv (iR (aa 0) T.e9 T.Xc Yw aq T.alh .nil cU)))))))),?_⟩
 simp only [dx];refine qn (fun az I=>I=H/\(ai.wt.isEmpty || decide (ai.cp < r.lo))=false/\az=[~~~k,some (.br own)]) (fun fW dF kA _ _=>?_) ?_
 .refine dO (ai.wt.isEmpty || decide (ai.cp < r.lo)) (fun jC a0=>?_) (fun ae=>?_) (fun ae=>?_)
  .nofun;refine ⟨_,tv T ck,!ai.wt.isEmpty,.inr (.inr ⟨_,d0,?_⟩),?_⟩
   .cases ai.wt <;> rfl
   .cases rE:ai.wt.isEmpty with
    | true=>
     rw [rE] at a0;exact a0
    | false=>
     rw [rE,lr] at a0;exact ⟨_,RD T ck,_,jm T ck,_,rfl,_,akG T ax,_,qa T mn,_,rfl,_,_,rfl,av.of bU,_,bt (by rw [cN,hH];rfl),_,rfl,_,rfl,a0⟩
  .nofun;rw [kA];have:=q H (aN.refl H) (fun z=>z);unfold ov at this;rw [ae,pY] at this;exact this
  .simp only [hr];exact dF _ _ ⟨rfl,ae,rfl⟩
 rintro fK H1 ⟨rfl,ae,rfl⟩;unfold ov at q;rw [ae] at q;nofun;refine ⟨_,RD T ck,_,jm T ck,_,rfl,_,Wx T ax,_,qa T mn,_,rfl,_,_,rfl,av.of eW,_,bt (by rw [cN,hH];rfl),_,rfl,_,rfl,?_⟩;by_cases cz:ai.cp < r.ah
 .rw [if_pos (decide_eq_true cz)];rw [decide_eq_true cz,ky,lr] at q;cases own with
  | true=>
   rw [if_pos rfl];rw [ky] at q;exact ⟨_,_,ck,lV _ _ _ _ _ _ _ _ (by ac_nf),b5,k,a7,aE,a4,ai,c,n,ds,rows,rfl,hp,eS,s0,g9,cT,aM,fun I s1 cB=>⟨_,rfl,q I s1 cB⟩⟩
  | false=>
   rw [if_neg eQ];rw [m'] at q;exact q _ (aN.refl _) (fun z=>z)
 .rw [if_neg (by simpa using cz)];rw [decide_eq_false cz,m',m',lr] at q;exact q _ (aN.refl _) (fun z=>z)
noncomputable def nB (n:Int) (ds:List a3) (rows:List ST) (s:dd) (m:List Str):dd:=if s.b2 < kY n ds rows s.lf s.bc then s else { s with bP:=some s.bc,cp:=1,wt:=s.wt.filter fun x=>!decide (x ∈ m) }
theorem agV (ys:List Str) (x:Str):oN (gA ys) (bH x)=gA (ys.filter fun y=>decide (y ≠ x)):=by
 unfold oN gA;rw [MV];congr 1;refine B_ fun y _=>?_
 show decide ((bH y:Key) ≠ bH x)=decide (y ≠ x);exact decide_eq_decide.mpr ⟨fun z e=>z (by rw [e]),fun z e=>z (sq e)⟩
theorem aj7 {ms wt:List Str} {x:Str} (aj:ms[i]? = some x):(wt.filter fun y=>!decide (y ∈ ms.take (i + 1)))=(wt.filter fun y=>!decide (y ∈ ms.take i)).filter fun y=>decide (y ≠ x):=by
 rw [iW aj,Y8];refine B_ fun y _=>?_
 rw [ig];simp;exact ⟨fun z=>⟨z.2,z.1⟩,fun z=>⟨z.2,z.1⟩⟩
def aaF (P:Program) (w:World) (t:b7):bW:=fun vs H Q _=>∃ b5 k a7 aE a4 s c n ds rows r,vs=[.ref k]/\eM t H k a7 aE a4 s/\hD P w t b5 a7 c n ds rows/\aN b5 H/\b5 k=none/\b5 aE=none/\b5 a4=none/\s.lf < rows.length/\rows[s.bc]? = some r/\s.lf ≠ s.bc/\r.mem.length <= 12/\aL H/\∀ I,hx k aE a4 H I->aL I->eM t I k a7 aE a4 (nB n ds rows s r.mem)->Q .b4 I
theorem UG:cA P base T 2 t.A2 t.DE ["self"] (aaF P w t):=by
 refine cH (P5 T) fun Ez=>?_;exists T.QU.ok Mv,9
 obtain ⟨b5,k,a7,aE,a4,ai,c,n,ds,rows,r,rfl,hp,eS,s0,ic,g9,g4,oJ,hH,ct,m_,bE,q⟩:=h;obtain ⟨ej,ay,ck,d0,e8⟩:=id hp;obtain ⟨kg,le,mo,de,c_,aT,ch,ms,kvs,ax,C,bU,eW,fR,e0,h5,k8,lQ⟩:=id (eS.same s0);have bC:=gO aq;refine ⟨_,(aS (dP (cY lp (bN (aa 0) rfl) (cc Ez aq T.PQ T.zK.bG T.O9 (ak (bN (aa 0) rfl) (ak (bN (aa 0) rfl) (ak (bN (aa 0) rfl) aF)))) (cu _)) (a5 aek) ek)
   (aS (fu (aa 0) (bN (aa 0) rfl) rfl)
   (aS (fu (aa 0) aD rfl)
   (a5 (ft fq rfl (d6 (bh bO (bN (bN (aa 0) rfl) rfl) (bN (aa 0) rfl))) (b9 (i:=1) Mv.aH) (a5 (ee (Mr (bN (aa 0) rfl) (aa 1) n7 ⟨rfl,rfl,rfl,rfl⟩)))))))),?_⟩
 simp only [dx];refine qn (fun az I=>I=H/\¬ ai.b2 < kY n ds rows ai.lf ai.bc/\az=[~~~k,none]) (fun fW dF kA _ _=>?_) ?_
 .refine dO (decide (ai.b2 < kY n ds rows ai.lf ai.bc)) (fun jC a0=>?_) (fun ae=>?_) (fun ae=>?_)
  .nofun;refine ⟨_,FH T ck,_,jm T ck,_,L8 T ck,_,vP T ck,a7,c,n,ds,rows,ai.lf,ai.bc,_,_,rfl,eS.same s0,aZ oJ,hH,ct,bE,fun v aI=>⟨_,rfl,_,rfl,?_⟩⟩;rw [EP (aZ oJ) hH aI] at a0;exact a0
  .nofun;rw [kA];refine q H (hx.of (aN.refl H)) bE ?_;unfold nB;rw [if_pos (of_decide_eq_true ae)];exact hp
  .simp only [hr];exact dF _ _ ⟨rfl,of_decide_eq_false ae,rfl⟩
 rintro fK H1 ⟨rfl,ae,rfl⟩;unfold nB at q;rw [if_neg ae] at q;simp only [dx];exists (fun az I=>hx k aE a4 H1 I/\aL I/\eM t I k a7 aE a4 { ai with bP:=some ai.bc }/\az=[~~~k,none]),2
 .nofun;refine ⟨_,vP T ck,_,_,_,ck,T.e9,T.Ar,by rw [<- aP (f:=(·.1)),jE];decide,?_⟩;rw [Nc];exact dF _ _ ⟨fun b u af _ _ e=>by rw [aG af];exact e,bE.upd,⟨ej,ay,db,by rw [aG (bK d0 ck (by intro z;cases z))];exact d0,by rw [aG (bK e8 ck (by intro z;cases z))];exact e8⟩,rfl⟩
 rintro cb aB ⟨d9,cD,⟨_,xy,a1,a2,eC⟩,rfl⟩;subst aY;simp only [dx];exists (fun az I=>hx k aE a4 H1 I/\aL I/\eM t I k a7 aE a4 { ai with bP:=some ai.bc,cp:=1 }/\az=[~~~k,none]),2
 .nofun;refine ⟨_,_,_,a1,T.e9,T.DB,by rw [<- aP (f:=(·.1)),jE];decide,?_⟩;rw [Sx];exact dF _ _ ⟨fun b u af ao bj e=>by rw [aG af];exact d9 _ _ af ao bj e,cD.upd,⟨ej,xy,db,by rw [aG (bK a2 a1 (by intro z;cases z))];exact a2,by rw [aG (bK eC a1 (by intro z;cases z))];exact eC⟩,rfl⟩
 rintro fS bw ⟨gT,dp,u2,rfl⟩;obtain ⟨_,Bt,dR,d_,hj⟩:=id u2;have s3:aN b5 bw:=gT.mH s0 ic g9 g4;obtain ⟨an8,anf,ape,apF,anG,qJ,apc,pM,apE,uD,_,_,_,Qn,_⟩:=id eS;have f1:=s3 _ _ uD;have fg:=Qn.same s3;have PB:(rows.map (·.mem))[ai.bc]? = some r.mem:=by rw [cN,hH];rfl
 have wA:ai.bc < pM.length:=by rw [fg.ln];exact (cv.mp PB).1
 have hm:=aZ wA;have Qx:=Qn.al _ _ _ hm PB;have em:=s3 _ _ Qx;subst aY;nofun;refine ⟨_,jm T dR,_,rfl,_,Ps T f1,_,vP T dR,_,rfl,_,_,rfl,av.of fg.at_,_,bt (by rw [cN,hm];rfl),_,rfl,⟨_,av.of em⟩,?_⟩;refine dY.list (xs:=aW r.mem) (fun i σ I=>hx k aE a4 H1 I/\aL I/\eM t I k a7 aE a4 { ai with bP:=some ai.bc,cp:=1,wt:=ai.wt.filter fun y=>!decide (y ∈ r.mem.take i) }/\∃ y,σ=[~~~k,y]) ?_ ?_ ?_ ?_
 .refine ⟨gT,dp,?_,_,rfl⟩;rw [show (ai.wt.filter fun y=>!decide (y ∈ r.mem.take 0))=ai.wt by simp];exact u2
 .rintro i σ I ah bf;ac_rfl
  obtain ⟨dU,_,_,_⟩:=bf;subst aY;exact av.of (dU.mH s0 ic g9 g4 _ _ Qx)
 .rintro i v σ I aI bf;ac_rfl
  obtain ⟨dU,dK,⟨_,HF,cf,c1,v_⟩,y,rfl⟩:=bf;subst aY;unfold aW at aI;obtain ⟨x,aj,rfl⟩:=bZ aI;have xF:=aj7 (wt:=ai.wt) aj;nofun;refine ⟨_,tv T cf,_,rfl,.inl ⟨_,.inl c1⟩,_,c1,bH x,rfl,fun v aI=>?_,fun aI=>?_⟩
  .refine ⟨fun b u af ao bj e=>by rw [aG ao];exact dU _ _ af ao bj e,dK.upd,?_,_,rfl⟩;refine ⟨ej,HF,by rw [aG (bK cf c1 (by intro z;cases z))];exact cf,?_,by rw [aG (dJ ej)];exact v_⟩;rw [db,agV,<- xF]
  .refine ⟨dU,dK,?_,_,rfl⟩;have p0:x ∉ ai.wt.filter fun y=>!decide (y ∈ r.mem.take i):=fun z=>by
    have:=Tu (ai.wt.filter fun y=>!decide (y ∈ r.mem.take i)) x;rw [aI,decide_eq_true z] at this;cases this
   have lu:(ai.wt.filter fun y=>!decide (y ∈ r.mem.take i)).filter (fun y=>decide (y ≠ x))=ai.wt.filter fun y=>!decide (y ∈ r.mem.take i):=aii.mpr fun y a9=>decide_eq_true (show y ≠ x from fun z=>p0 (by rw [<- z];exact a9))
   rw [xF,lu];exact ⟨ej,HF,cf,c1,v_⟩
 .rintro σ I bf;ac_rfl
  obtain ⟨dU,dK,pQ,y,rfl⟩:=bf;subst aY;rw [eY,gF] at pQ;nofun;exact q I dU dK pQ
noncomputable def yh (s:dd) (i j:Nat) (c_:Str):dd:={ s with bP:=none,lf:=i,bc:=j,b2:=0,pt:=if c_=d5 then (j:Int) else s.pt,po:=if c_=d5 then s.po else (j:Int) }
def adM (P:Program) (w:World) (t:b7):bW:=fun vs H Q _=>∃ b5 k a7 aE a4 s c n ds rows,∃ i j:Nat,∃ r,vs=[.ref k,.int (j:Nat)]/\eM t H k a7 aE a4 s/\s.bP=some i/\hD P w t b5 a7 c n ds rows/\aN b5 H/\b5 k=none/\b5 aE=none/\b5 a4=none/\i < rows.length/\rows[j]? = some r/\i ≠ j/\r.mem.length <= 12/\(d3 ds r=d5\/d3 ds r=iC)/\aL H/\∀ I,hx k aE a4 H I->aL I->eM t I k a7 aE a4 (nB n ds rows (yh s i j (d3 ds r)) r.mem)->Q .b4 I
theorem KK:cA P base T 3 t.y7 t.G5 Cc (adM P w t):=by
 refine cH (UG T) fun LV=>?_;exists T.Oa.ok agm,9
 obtain ⟨b5,k,a7,aE,a4,ai,c,n,ds,rows,i,j,r,rfl,hp,dz,eS,s0,ic,g9,g4,hV,h2,oR,m_,mh,bE,q⟩:=h;obtain ⟨ej,ay,ck,d0,e8⟩:=id hp;obtain ⟨kg,le,mo,de,c_,aT,ch,ms,kvs,ax,C,bU,eW,fR,e0,h5,k8,lQ⟩:=id (eS.same s0);have bC:=gO aq;refine ⟨_,(aS (so bC (bN (aa 0) rfl) (bh bO (bN (bN (aa 0) rfl) rfl) (aa 1)) (aa 1) rfl)
   (aS (fu (aa 0) (bN (aa 0) rfl) rfl)
   (aS (fu (aa 0) (aa 1) rfl)
   (aS (fu (aa 0) aD rfl)
   (aS (fu (aa 0) n7 rfl)
   (a5 (ee (iR (aa 0) T.e9 T.bi LV aq T.MG .nil cU)))))))),?_⟩
 exists (fun az I=>hx k aE a4 H I/\aL I/\eM t I k a7 aE a4 { ai with pt:=if d3 ds r=d5 then (j:Int) else ai.pt,po:=if d3 ds r=d5 then ai.po else (j:Int) }/\az=[~~~k,some (.int (j:Nat))]),5
 .nofun;refine ⟨_,LM T ck,_,jm T ck,_,rfl,_,u3 T ax,_,rfl,_,av.of e0,_,bt (qj (by rw [cN,h2];rfl)),_,rfl,_,ly.k (k:=bH (d3 ds r)) e8 (hg (show (ml ai.pt ai.po).length <= 2 from b8 2) (by decide)),dF _ _ ⟨fun b u _ _ bj e=>by rw [aG bj];exact e,bE.upd,⟨ej,ay,by rw [aG (bK ck e8 (by intro z;cases z))];exact ck,by rw [aG ej];exact d0,by rw [db,IN mh]⟩,rfl⟩⟩
 rintro fK H1 ⟨cq,cB,⟨_,eB,a1,dR,cf⟩,rfl⟩;have M6:=a1;subst aY;rw [show ({ ai with pt:=if d3 ds r=d5 then (j:Int) else ai.pt,po:=if d3 ds r=d5 then ai.po else (j:Int) }:dd).bP=some i from dz] at M6;exists (fun az I=>hx k aE a4 H I/\aL I/\eM t I k a7 aE a4 { ai with pt:=if d3 ds r=d5 then (j:Int) else ai.pt,po:=if d3 ds r=d5 then ai.po else (j:Int),lf:=i }/\az=[~~~k,some (.int (j:Nat))]),5
 .nofun;refine ⟨_,qa T M6,_,_,_,a1,T.e9,T.HC,by rw [<- aP (f:=(·.1)),jE];decide,?_⟩;rw [show nc (some i)=V.int (i:Nat) from rfl,aaW];exact dF _ _ ⟨fun b u af ao bj e=>by rw [aG af];exact cq _ _ af ao bj e,cB.upd,⟨ej,eB,db,by rw [aG (bK dR a1 (by intro z;cases z))];exact dR,by rw [aG (bK cf a1 (by intro z;cases z))];exact cf⟩,rfl⟩
 rintro cb aB ⟨d9,cD,⟨_,fA,a2,d_,c1⟩,rfl⟩;subst aY;exists (fun az I=>hx k aE a4 H I/\aL I/\eM t I k a7 aE a4 { ai with pt:=if d3 ds r=d5 then (j:Int) else ai.pt,po:=if d3 ds r=d5 then ai.po else (j:Int),lf:=i,bc:=j }/\az=[~~~k,some (.int (j:Nat))]),5
 .nofun;refine ⟨_,_,_,a2,T.e9,T.DI,by rw [<- aP (f:=(·.1)),jE];decide,?_⟩;rw [agR];exact dF _ _ ⟨fun b u af ao bj e=>by rw [aG af];exact d9 _ _ af ao bj e,cD.upd,⟨ej,fA,db,by rw [aG (bK d_ a2 (by intro z;cases z))];exact d_,by rw [aG (bK c1 a2 (by intro z;cases z))];exact c1⟩,rfl⟩
 rintro fS bw ⟨gT,dp,⟨_,afm,eC,hj,v_⟩,rfl⟩;subst aY;exists (fun az I=>hx k aE a4 H I/\aL I/\eM t I k a7 aE a4 { ai with pt:=if d3 ds r=d5 then (j:Int) else ai.pt,po:=if d3 ds r=d5 then ai.po else (j:Int),lf:=i,bc:=j,b2:=0 }/\az=[~~~k,some (.int (j:Nat))]),5
 .nofun;refine ⟨_,_,_,eC,T.e9,T.Ab,by rw [<- aP (f:=(·.1)),jE];decide,?_⟩;rw [Pa];exact dF _ _ ⟨fun b u af ao bj e=>by rw [aG af];exact gT _ _ af ao bj e,dp.upd,⟨ej,afm,db,by rw [aG (bK hj eC (by intro z;cases z))];exact hj,by rw [aG (bK v_ eC (by intro z;cases z))];exact v_⟩,rfl⟩
 rintro kG cI ⟨dU,dK,⟨_,sJ,lD,p',wV⟩,rfl⟩;subst aY;exists (fun az I=>hx k aE a4 H I/\aL I/\eM t I k a7 aE a4 { ai with pt:=if d3 ds r=d5 then (j:Int) else ai.pt,po:=if d3 ds r=d5 then ai.po else (j:Int),lf:=i,bc:=j,b2:=0,bP:=none }/\az=[~~~k,some (.int (j:Nat))]),5
 .nofun;refine ⟨_,_,_,lD,T.e9,T.Ar,by rw [<- aP (f:=(·.1)),jE];decide,?_⟩;rw [Nc];exact dF _ _ ⟨fun b u af ao bj e=>by rw [aG af];exact dU _ _ af ao bj e,dK.upd,⟨ej,sJ,db,by rw [aG (bK p' lD (by intro z;cases z))];exact p',by rw [aG (bK wV lD (by intro z;cases z))];exact wV⟩,rfl⟩
 rintro qd dj ⟨eX,hh,vy,rfl⟩;obtain ⟨_,am7,agd,_,_⟩:=id vy;subst aY;nofun;exact ⟨_,_,agd,lV _ _ _ _ _ _ _ _ (by ac_nf),b5,k,a7,aE,a4,_,c,n,ds,rows,r,rfl,vy,eS,eX.mH s0 ic g9 g4,ic,g9,g4,hV,h2,oR,m_,hh,fun I dX ew rU=>q I (eX.trans dX) ew rU⟩
noncomputable abbrev ad3:Str:=ab "Keeper.pick" ++ ab ".<locals>." ++ ab "<lambda>"
theorem akq:B9 "number" "many" "last" (ajg (Ro uY)):=⟨rfl,rfl,rfl,by ac_nf,rfl,rfl,rfl,by ac_nf,by ac_nf⟩
noncomputable abbrev lU (Pt:Addr) (H:aw):Prop:=Tab H Pt (aaS (Ro uY)) ad3
noncomputable def Uf (ds:List a3) (rows:List ST) (j:Nat):Str:=((rows[j]?).map (d3 ds)).getD (ab "")
noncomputable def pS (rows:List ST) (x:Str):Nat:=(kP rows x).getD 0
noncomputable def lH (rows:List ST) (s:dd):List Nat:=s.wt.map (pS rows)
noncomputable def qk (ds:List a3) (rows:List ST) (s:dd) (i:Nat):List Nat:=(lH rows s).filter fun j=>!decide (Uf ds rows j=Uf ds rows i)
noncomputable def iM (ds:List a3) (rows:List ST) (s:dd) (i:Nat):List Nat:=if (qk ds rows s i).isEmpty then lH rows s else qk ds rows s i
noncomputable def rl (ds:List a3) (rows:List ST) (s:dd) (ch:List Nat):Int:=if Uf ds rows (ch.headD 0)=d5 then s.pt else s.po
noncomputable def qb (last many m:Int):Int:=(m - last - 1) % many
def EU (ds:List a3) (rows:List ST) (s:dd) (i j:Nat):Prop:=j ∈ iM ds rows s i/\∀ gf ∈ iM ds rows s i,qb (rl ds rows s (iM ds rows s i)) rows.length j <= qb (rl ds rows s (iM ds rows s i)) rows.length gf
def wE (P:Program) (w:World) (t:b7) (Pt:Addr):bW:=fun vs H Q _=>∃ b5 k a7 aE a4 s c n ds rows,∃ i:Nat,vs=[.ref k]/\eM t H k a7 aE a4 s/\s.bP=some i/\i < rows.length/\hD P w t b5 a7 c n ds rows/\aN b5 H/\b5 aE=none/\(∀ x ∈ s.wt,told rows x=true)/\s.wt ≠ []/\s.wt.length <= 12/\(∀ r ∈ rows,d3 ds r=d5\/d3 ds r=iC)/\lU Pt H/\aL H /\
 ∀ (j:Nat) I,mA Pt H I->aL I->lU Pt I->EU ds rows s i j->Q (.int j) I
theorem WP {rows:List ST} {x:Str} (h:told rows x=true):pS rows x < rows.length:=by
 obtain ⟨j,r,aJ,au,jD,_⟩:=ph h;unfold pS;rw [au];exact (cv.mp jD).1
theorem I' {rows:List ST} (h:∀ x ∈ s.wt,told rows x=true):∀ j ∈ lH rows s,j < rows.length:=fun j aJ=>by
 obtain ⟨x,aj,rfl⟩:=bJ.mp aJ;exact WP (h x aj)
theorem RI {rows:List ST} (h:∀ x ∈ s.wt,told rows x=true):∀ j ∈ iM ds rows s i,j < rows.length:=fun j aJ=>by
 unfold iM at aJ;split at aJ
 .exact I' h j aJ
 .exact I' h j (f5.mp aJ).1
theorem Tr {rows:List ST} (h:s.wt ≠ []):iM ds rows s i ≠ []:=by
 unfold iM;split
 .unfold lH;simpa using h
 .rename_i af;simpa using af
theorem K0 {rows:List ST} (h:j < rows.length):(rows.map (d3 ds))[j]? = some (Uf ds rows j):=by
 unfold Uf;rw [cN,aZ h];rfl
noncomputable def kO (yS:List Nat):List V:=yS.map fun j=>V.int (j:Nat)
theorem aiM (yS:List Nat):kO yS=sS V.int (yS.map fun j=>((j:Nat):Int)):=by
 unfold kO;rw [me];rfl
theorem N3 (p:Nat->Bool):∀ xs:List Nat,((xs.map fun x=>if p x=true then some (V.int (x:Nat)) else none).flatMap px)=kO (xs.filter p)
 | []=>rfl
 | x :: xs=>by
  rw [e1,qQ,N3 p xs];cases h:p x <;> simp [kO,h]
theorem aly (dy:q9 base t.s6 Pt) (i5:base.BuiltinsAt mg Pt):cA P base T 2 t.BC t.B1 ["self"] (wE P w t Pt):=by
 have adV:=T.adn;refine T.Si.agD s_ (fun vs H Q E h=>?_) (fun f7 kN A outer s H vs Q E aq h=>?_)
 .obtain ⟨b5,k,a7,aE,a4,ai,c,n,ds,rows,i,rfl,_⟩:=h;rfl
 obtain ⟨b5,k,a7,aE,a4,ai,c,n,ds,rows,i,rfl,⟨ej,ay,ck,d0,e8⟩,dz,hV,eS,s0,g9,cT,ct,aM,mh,b1,bE,q⟩:=h;obtain ⟨kg,le,mo,de,c_,aT,ch,ms,kvs,ax,C,bU,eW,fR,e0,h5,k8,lQ⟩:=id eS;have bC:=gO aq;refine ⟨_,(aS (ZH (Km (i:=1) s_.aH rfl (ud rfl) rfl (GY (bN (aa 0) rfl)) (ac (sc:=bB uY) rfl (by ac_nf)) (N:=uK) (sel:=[none,some 0]) (fw (M:=KX) (by ac_nf)) (eO.of (fun _ _ _ _=>(b9 (i:=0) (d1 (N:=uK) (by ac_nf) rfl))) (fun _ _ _ _=>⟨_,hO,by walk_at "B"⟩) (fun _ _ _ _=>⟨_,(o4 bC (bN (bN (aa 1) rfl) rfl) (aa 0) (fun _ _=>rfl)),by walk_at "B"⟩)) rfl))
   (aS (lb (i:=2) s_.aH rfl (j5 rfl) (bh bO (bN (bN (aa 0) rfl) rfl) (bN (aa 0) rfl)))
   (aS (Km (i:=3) s_.aH rfl (ud rfl) rfl (d6 (aa 1)) (ac (sc:=bB uY) rfl (by ac_nf)) (N:=["number","self","same"]) (sel:=[none,some 0,some 2]) (fw (M:=KX) (by ac_nf)) (eO.of (fun _ _ _ _=>(b9 (i:=0) (d1 (N:=["number","self","same"]) (by ac_nf) rfl))) (fun _ _ _ _=>⟨_,(nF (cY pP (bh bO (bN (bN (aa 1) rfl) rfl) (aa 0)) (aa 2) (cu _))),by walk_at "B"⟩) (fun _ _ _ _=>⟨_,(aa 0),by walk_at "B"⟩)) rfl)
   (aS (cF (i:=4) s_.aH (uv (zZ (aa 3) (fun _=>rfl)) (aa 3) (aa 1)))
   (aS (lb (i:=5) s_.aH rfl (j5 rfl) (o4 bC (bN (aa 0) rfl) (bh bO (bN (bN (aa 0) rfl) rfl) (bh bO (aa 4) aD)) (fun _ _=>rfl)))
   (aS (lb (i:=6) s_.aH rfl (j5 rfl) (bN (bN (aa 0) rfl) rfl))
   (a5 (cy (aeq (pr := "number") (y := "many") (z := "last") (i1:=6) (i2:=5) rfl rfl T.abK (ak (aa 4) aF) ⟨kN.symm.trans adV,dy,i5⟩ aq akq rfl rfl rfl rfl rfl rfl rfl rfl (fun _ _ _ _=>rfl) (fun _ _ _ _=>⟨_,(bI jS (bI lS (bI lS (aa 0) (aa 2)) aD) (aa 1)),by first | rfl | (dsimp only [lw];done) | (dsimp only [lw];exact rfl)⟩)))))))))),?_⟩
 simp only [dx];exists (fun az I=>aN H I/\aL I/\∃ wp,H wp=none/\I wp=some (.lst (kO (lH rows ai)))/\az=[~~~k,~~~wp,none,none,none,none,none]),2
 .nofun;refine ⟨aE,_,d0,_,tv T ck,_,rfl,_,d0,fun o=>?_⟩;have gn:(gA ai.wt).length=ai.wt.length:=by unfold gA;rw [aP]
  have o_:aN b5 (upd H aE (.ey o (.bu (gA ai.wt)))):=fun b u e=>by rw [aG (Db e g9)];exact s0 _ _ e
  have CJ:(upd H aE (.ey o (.bu (gA ai.wt)))) k=some (.ins t.dc ay (fE a7 (nc ai.bP) ai.cp ai.lf ai.bc ai.b2 aE a4)):=by rw [aG (bK ck d0 (by intro z;cases z))];exact ck
  have nG:(upd H aE (.ey o (.bu (gA ai.wt)))) aE=some (.ey o (.bu (gA ai.wt))):=db;refine Gc.P_ (zs:=kO (lH rows ai)) nG (by rw [gn];exact cP aM (by decide)) (by unfold kO lH;rw [aP,aP,gn]) (fun gx UK v z N au aO bb=>?_) (fun p ar=>?_)
  .unfold gA at au;obtain ⟨x,aj,ex⟩:=bZ au;cases ex;unfold kO lH at aO;obtain ⟨gf,ae,rfl⟩:=bZ aO;obtain ⟨dX,eG,rfl⟩:=bZ ae;rw [aj] at eG;cases eG;obtain ⟨j,r,aJ,e2,jD,_⟩:=ph (cT x (cm aj));have bp:=gM.k (k:=bH x) (o_ _ _ h5);rw [aJ] at bp;have he:pS rows x=j:=by unfold pS;rw [e2];rfl
   rw [he] at bb;nofun;exact ⟨Sub.name,_,jm T CJ,_,rfl,_,AY T (o_ _ _ ax),_,rfl,_,bp,bb⟩
  .have hW:p ≠ aE:=fun z=>by rw [z,nG] at ar;cases ar
   have uj:H p=none:=by rw [aG hW] at ar;exact ar
   refine ⟨o,by rw [aG (dJ hW)];exact nG,dF _ _ ⟨fun b u e=>?_,bE.upd.upd.upd,p,uj,by rw [aG hW];exact db,rfl⟩⟩;by_cases cz:b=aE
   .subst cz;rw [d0] at e;cases e;exact db
   .rw [aG cz,aG (Db e uj),aG cz];exact e
 rintro fK H1 ⟨s1,cB,wp,anI,dH,rfl⟩;subst aY;simp only [dx];exists (fun az I=>I=H1/\az=[~~~k,~~~wp,some (.str (Uf ds rows i)),none,none,none,none]),2
 .nofun;have mn:=s1 _ _ ck;rw [dz] at mn;exact ⟨_,jm T mn,_,rfl,_,u3 T (s1 _ _ (s0 _ _ ax)),_,qa T mn,_,rfl,_,_,rfl,av.of (s1 _ _ (s0 _ _ e0)),_,bt (qj (K0 hV)),dF _ _ ⟨rfl,rfl⟩⟩
 rintro cb aB ⟨rfl,rfl⟩;subst aY;simp only [dx];exists (fun az I=>aN aB I/\aL I/\∃ op,aB op=none/\I op=some (.lst (kO (qk ds rows ai i)))/\az=[~~~k,~~~wp,some (.str (Uf ds rows i)),~~~op,none,none,none]),2
 .nofun;refine ⟨⟨_,av.of dH⟩,?_⟩;refine Gc.pG (xs:=kO (lH rows ai)) (ss:=(lH rows ai).map fun j=>if (!decide (Uf ds rows j=Uf ds rows i))=true then some (V.int (j:Nat)) else none) (av.of dH) (by unfold kO lH;rw [aP,aP];exact cP aM (by decide)) (by unfold kO;rw [aP,aP]) (fun gx v o ys N aI aT bb=>?_) (fun l Cu=>?_)
  .unfold kO at aI;obtain ⟨j,aJ,rfl⟩:=bZ aI;obtain ⟨gf,gI,rfl⟩:=bZ aT;rw [aJ] at gI;cases gI;have m5:=I' cT j (cm aJ);nofun;refine ⟨Sub.name,_,jm T (s1 _ _ ck),_,rfl,_,u3 T (s1 _ _ (s0 _ _ ax)),_,rfl,_,av.of (s1 _ _ (s0 _ _ e0)),_,bt (qj (K0 m5)),rfl,?_⟩;by_cases cz:Uf ds rows j=Uf ds rows i
   .rw [if_neg (by rw [cz,decide_eq_true rfl];exact eQ)];simp [cz] at bb;exact bb
   .rw [if_pos (by rw [decide_eq_false (fun z=>cz (by injection z))];rfl)];simp [cz] at bb;exact bb
  .rw [N3];exact dF _ _ ⟨bq Cu,cB.upd,l,Cu,db,rfl⟩
 rintro fS bw ⟨s3,dp,op,aoM,yq,rfl⟩;have fQ:=s3 _ _ dH;subst aY;simp only [dx];exists (fun az I=>I=bw/\∃ t6,bw t6=some (.lst (kO (iM ds rows ai i)))/\az=[~~~k,~~~wp,some (.str (Uf ds rows i)),~~~op,~~~t6,none,none]),2
 .nofun;refine ⟨!(qk ds rows ai i).isEmpty,.inl ⟨_,av.of yq,?_⟩,?_⟩
  .unfold kO;cases qk ds rows ai i <;> rfl
  .cases Pf:(qk ds rows ai i).isEmpty with
   | true=>
    rw [if_neg (by rw [adh];exact eQ)];exact dF _ _ ⟨rfl,wp,by unfold iM;rw [if_pos Pf];exact fQ,rfl⟩
   | false=>
    rw [if_pos (by rfl)];exact dF _ _ ⟨rfl,op,by unfold iM;rw [if_neg (by rw [Pf];exact eQ)];exact yq,rfl⟩
 rintro kG cI ⟨rfl,t6,wV,rfl⟩;subst aY;simp only [dx];exists (fun az I=>I=cI/\az=[~~~k,~~~wp,some (.str (Uf ds rows i)),~~~op,~~~t6,some (.int (rl ds rows ai (iM ds rows ai i))),none]),2
 .nofun;have NH:=s3 _ _ (s1 _ _ ck);have tA:∀ {b u},b5 b=some u->cI b=some u:=fun e=>s3 _ _ (s1 _ _ (s0 _ _ e))
  obtain ⟨vQ,l7,h7⟩:=l_ (Tr (ds:=ds) (rows:=rows) (i:=i) ct);have qo:vQ < rows.length:=RI cT vQ (by rw [h7];exact .head _);have Z2:=K0 (ds:=ds) qo;have aec:Uf ds rows vQ=d5\/Uf ds rows vQ=iC:=by
   unfold Uf;rw [aZ qo];exact mh _ (fM qo)
  have ts:=amQ (a:=ai.pt) (b:=ai.po) aec;have bp:=gM.k (k:=bH (Uf ds rows vQ)) (s3 _ _ (s1 _ _ e8));rw [ts] at bp;refine ⟨_,LM T NH,_,jm T NH,_,rfl,_,u3 T (tA ax),_,av.of wV,_,bt (j:=0) (by rw [h7];rfl),_,rfl,_,_,rfl,av.of (tA e0),_,bt (qj Z2),_,rfl,_,bp,dF _ _ ⟨rfl,?_⟩⟩;unfold rl;rw [h7];rfl
 rintro qd dj ⟨rfl,rfl⟩;subst aY;simp only [dx];exists (fun az I=>I=dj/\az=[~~~k,~~~wp,some (.str (Uf ds rows i)),~~~op,~~~t6,some (.int (rl ds rows ai (iM ds rows ai i))),some (.int rows.length)]),2
 .nofun;exact ⟨_,jm T (s3 _ _ (s1 _ _ ck)),_,rfl,_,EA T (s3 _ _ (s1 _ _ (s0 _ _ ax))),dF _ _ ⟨rfl,rfl⟩⟩
 rintro mm hc ⟨rfl,rfl⟩;subst aY;nofun;have Ll:lU Pt hc:=(b1.step s1).step s3;refine ⟨(iM ds rows ai i).map fun j=>((j:Nat):Int),av.of (by rw [<- aiM];exact wV),by simpa using Tr (ds:=ds) (rows:=rows) (i:=i) ct,Ll,qb (rl ds rows ai (iM ds rows ai i)) rows.length,fun aB bA ahE wH=>⟨fun n aQ=>⟨by omega,rfl⟩,fun gx m hm ae=>?_⟩⟩;rw [cN] at hm;obtain ⟨j,aJ,rfl⟩:=tU.mp hm;refine q j aB (fun b u fv e=>bA _ _ fv (s3 _ _ (s1 _ _ e))) (ahE dp) wH ⟨cm aJ,fun gf gI=>?_⟩;obtain ⟨x,aj,ex⟩:=tI gI;exact (ae x (gf:Int) (by rw [cN,aZ aj,ex];rfl)).1
def iX (H I:aw):Prop:=∀ b o,(∀ ps,o ≠ fz.g6 ps)->H b=some o->I b=some o
theorem abX (b1:Tab H Pt pos q) (s:mA Pt H I):iX H I:=fun b o n e=>s b o (b1.ne e n) e
theorem iX.trans (a:iX H H1) (b:iX H1 aB):iX H aB:=fun c o n h=>b c o n (a c o n h)
theorem iX.lst (s:iX H I) (e:H b=some (.lst xs)):I b=some (.lst xs):=s b _ (fun _ z=>by cases z) e
theorem iX.tup (s:iX H I) (e:H b=some (.tup xs)):I b=some (.tup xs):=s b _ (fun _ z=>by cases z) e
theorem iX.ins (s:iX H I) {aX:List (Str × V)} (e:H b=some (.ins C ay aX)):I b=some (.ins C ay aX):=s b _ (fun _ z=>by cases z) e
theorem iX.bu (s:iX H I) (e:H b=some (.bu kvs)):I b=some (.bu kvs):=s b _ (fun _ z=>by cases z) e
theorem ae7 {K:bk} {ns:List Int} (S:Sc K a ns H) (s:iX H I) (bE:aL I):Sc K a ns I:=by
 refine ⟨?_,bE⟩;rcases S.kp with ⟨o,h⟩ | h
 .exact .inl ⟨o,s _ _ (fun _ z=>by cases z) h⟩
 .exact .inr h
theorem f6.pC {t:b7} (h:f6 t H c n ds) (s:iX H I):f6 t I c n ds:=by
 obtain ⟨h0,ay,wl,aH,ax,⟨as,dH,dI,al⟩,bU⟩:=h;refine ⟨h0,ay,wl,aH,s.ins ax,⟨as,s.lst dH,dI,fun i b d ae hd=>?_⟩,s.bu bU⟩;obtain ⟨k,Zw,fh⟩:=al i b d ae hd;exact ⟨k,Zw,s.ins fh⟩
theorem hD.pC {w:World} {t:b7} {rows:List ST} (h:hD P w t H a c n ds rows) (s:iX H I):hD P w t I a c n ds rows:=by
 obtain ⟨ay,le,mo,de,c_,aT,ch,ms,kvs,ax,aK,bU,eW,fR,e0,h5,⟨o,ba,ep,xs,r⟩,lQ⟩:=h;exact ⟨ay,le,mo,de,c_,aT,ch,ms,kvs,s.ins ax,aK.pC s,s.lst bU,s.lst eW,⟨s.lst fR.at_,fR.ln,fun i m x a b=>s.lst (fR.al i m x a b)⟩,s.lst e0,s.bu h5,
  ⟨o,ba,ep,xs,s _ _ (fun _ z=>by cases z) r.at_,r.ex,r.dat,r.ent,r.aH,Paired.qK r.cw fun p q z=>⟨z.1,s.tup z.2.1,z.2.2⟩,r.oe,r.ns⟩,lQ⟩
noncomputable def iK (H:aw):aw:=fun b=>match H b with
 | some (.g6 _)=>none
 | o=>o
theorem ac8 (b1:Tab H Pt pos q):iK H Pt=none:=by
 obtain ⟨ps,e,_⟩:=b1;unfold iK;rw [e]
theorem Hr (h:H b=none):iK H b=none:=by
 unfold iK;rw [h]
theorem U_ (H:aw):aN (iK H) H:=fun b u e=>by
 unfold iK at e;split at e
 .cases e
 .exact e
theorem WF (H:aw):iX H (iK H):=fun b u n e=>by
 unfold iK;split
 .rename_i ps h;rw [h] at e;cases e;exact absurd rfl (n ps)
 .exact e
structure FB (ds:List a3) (rows:List ST):Prop where
 c0:∀ d ∈ ds,told rows d.name=true
 gR:∀ r ∈ rows,r.mem.length <= 12
 c_:∀ r ∈ rows,d3 ds r=d5\/d3 ds r=iC
 dl:ds.length <= 12
structure j9 (ds:List a3) (rows:List ST) (s:dd):Prop where
 wn:s.wt.Nodup
 aE:∀ x ∈ s.wt,x ∈ ds.map (·.name)
 bP:∀ i,s.bP=some i->i < rows.length/\∀ x ∈ s.wt,kP rows x ≠ some i
 ch:s.bP=none->s.lf < rows.length/\s.bc < rows.length/\s.lf ≠ s.bc
theorem j9.told {rows:List ST} (k:j9 ds rows s) (R:FB ds rows):∀ x ∈ s.wt,told rows x=true:=fun x aj=>by
 obtain ⟨d,hd,rfl⟩:=bJ.mp (k.aE x aj);exact R.c0 d hd
theorem j9.len {rows:List ST} (k:j9 ds rows s) (R:FB ds rows):s.wt.length <= 12:=by
 have:=k.wn.length_le_of_subset (l₂:=ds.map (·.name)) fun x aj=>k.aE x aj
 rw [aP] at this;have:=R.dl;omega
def tG (n:Int) (ds:List a3) (rows:List ST) (s:dd) (own:Bool) (ai:dd):Prop:=
 (s.bP=none/\∃ r,rows[s.bc]? = some r/\ai=nB n ds rows { s with b2:=s.b2 + 1 } r.mem) \/
 (∃ i r,s.bP=some i/\rows[i]? = some r/\ov ds rows s r own=true/\ai = { s with cp:=s.cp + 1 }) \/
 (∃ i r j vb,s.bP=some i/\rows[i]? = some r/\ov ds rows s r own=false/\EU ds rows s i j/\rows[j]? = some vb/\ai=nB n ds rows (yh s i j (d3 ds vb)) vb.mem)
theorem Ve {rows:List ST} (cT:∀ x ∈ s.wt,told rows x=true) (h:j ∈ iM ds rows s i):∃ x ∈ s.wt,kP rows x=some j:=by
 have hm:j ∈ lH rows s:=by
  unfold iM at h;split at h
  .exact h
  .exact (f5.mp h).1
 obtain ⟨x,aj,rfl⟩:=bJ.mp hm;obtain ⟨j,r,aJ,au,jD,_⟩:=ph (cT x aj);refine ⟨x,aj,?_⟩;unfold pS;rw [au];rfl
theorem QT {rows:List ST} (R:FB ds rows) (wn:s.wt.Nodup) (aE:∀ x ∈ s.wt,x ∈ ds.map (·.name)) (aC:s.bP=none) (aM:s.lf < rows.length) (aq:rows[s.bc]? = some r) (ct:s.lf ≠ s.bc):j9 ds rows (nB n ds rows s r.mem):=by
 have la:s.bc < rows.length:=(cv.mp aq).1;unfold nB;split
 .exact ⟨wn,aE,fun i h=>(by rw [aC] at h;cases h),fun _=>⟨aM,la,ct⟩⟩
 .refine ⟨wn.filter _,fun x aj=>aE x (f5.mp aj).1,fun i h=>?_,fun h=>by cases h⟩;cases h;refine ⟨la,fun x aj e=>?_⟩;have eG:=f5.mp aj;obtain ⟨d,hd,m7⟩:=bJ.mp (aE x eG.1);obtain ⟨j,df,aJ,au,jD,hm⟩:=ph (R.c0 d hd);rw [m7] at au hm;rw [au] at e;cases e;rw [aq] at jD;cases jD;have:=eG.2;simp [hm] at this
theorem Ym {rows:List ST} (R:FB ds rows) (k:j9 ds rows s) (h:tG n ds rows s own ai):j9 ds rows ai:=by
 rcases h with ⟨af,r,aq,rfl⟩ | ⟨i,r,af,aq,_,rfl⟩ | ⟨i,r,j,vb,af,aq,_,ar,aJ,rfl⟩
 .obtain ⟨a,b,c⟩:=k.ch af;exact QT (s:={ s with b2:=s.b2 + 1 }) R k.wn k.aE af a aq c
 .exact ⟨k.wn,k.aE,k.bP,k.ch⟩
 .obtain ⟨a,b⟩:=k.bP i af;obtain ⟨x,aj,au⟩:=Ve (k.told R) ar.1;refine QT (s:=yh s i j (d3 ds vb)) R k.wn k.aE rfl a aJ (fun e=>?_);have e:i=j:=e;subst e;exact b x aj au
def zH (k aE a4 Pt:Addr) (H I:aw):Prop:=∀ b u,b ≠ k->b ≠ aE->b ≠ a4->b ≠ Pt->H b=some u->I b=some u
theorem wC {t:b7} {k a7 aE a4 Pt:Addr} (hp:eM t H k a7 aE a4 s) (b1:Tab H Pt pos q) (x:hx k aE a4 H I):Tab I Pt pos q:=by
 obtain ⟨_,ay,ck,d0,e8⟩:=hp;obtain ⟨ps,e,d⟩:=b1;refine ⟨ps,x _ _ (bK e ck (by intro z;cases z)) (bK e d0 (by intro z;cases z)) (bK e e8 (by intro z;cases z)) e,?_⟩;rcases d with d | ⟨c',d,bF⟩
 .exact .inl d
 .exact .inr ⟨c',d,x _ _ (bK bF ck (by intro z;cases z)) (bK bF d0 (by intro z;cases z)) (bK bF e8 (by intro z;cases z)) bF⟩
theorem eM.pC {t:b7} {k a7 aE a4:Addr} (h:eM t H k a7 aE a4 s) (x:iX H I):eM t I k a7 aE a4 s:=by
 obtain ⟨h0,ay,ck,d0,e8⟩:=h;exact ⟨h0,ay,x.ins ck,x.bu d0,x.bu e8⟩
def akj (P:Program) (w:World) (t:b7) (Pt:Addr):bW:=fun vs H Q _=>∃ b5 k a7 aE a4 s c n ds rows own,vs=[.ref k,.br own]/\eM t H k a7 aE a4 s/\hD P w t b5 a7 c n ds rows/\aN b5 H/\b5 k=none/\b5 aE=none/\b5 a4=none/\b5 Pt=none/\FB ds rows/\j9 ds rows s/\lU Pt H/\aL H /\
 ∀ ai I,tG n ds rows s own ai->zH k aE a4 Pt H I->aL I->lU Pt I->eM t I k a7 aE a4 ai->Q .b4 I
theorem akr (dy:q9 base t.s6 Pt) (i5:base.BuiltinsAt mg Pt):cA P base T 4 t.A4 t.HL rk (akj P w t Pt):=by
 refine cH (UG T) fun LV=>cH (akT T) fun amn=>cH (KK T) fun afz=>cH (aly T dy i5) fun acC=>?_;exists T.RB.ok ahC,9
 obtain ⟨b5,k,a7,aE,a4,ai,c,n,ds,rows,own,rfl,hp,eS,s0,ic,g9,g4,Jn,R,q0,b1,bE,q⟩:=h;obtain ⟨ej,ay,ck,d0,e8⟩:=id hp;have bC:=gO aq;refine ⟨_,(a5 (dP (cY VA (bN (aa 0) rfl) n7 (cu _)) (aS (Hx (aa 0) aD J9)
   (a5 (ee (iR (aa 0) T.e9 T.bi LV aq T.MG .nil cU)))) (a5 (dP (lR (fN (aa 0) T.e9 T.amE amn aq T.aet .nil cU (ak (aa 1) aF))) (a5 (Hx (aa 0) aD J9)) (a5 (ee (fN (aa 0) T.e9 T.X4 afz aq T.Yn .nil cU (ak (iR (aa 0) T.e9 T.ad8 acC aq T.aaj .nil cU) aF)))))))),?_⟩
 cases dz:ai.bP with
 | none=>
  rw [dz] at ck;obtain ⟨g1,g2,g3⟩:=q0.ch dz;have Pg:=aZ g2;nofun;refine dO true (fun Q a0=>?_) (fun _=>?_) (fun aA=>nomatch aA)
  .nofun;exact ⟨_,qa T ck,a0⟩
  simp only [dx];exists (fun az I=>hx k aE a4 H I/\aL I/\eM t I k a7 aE a4 { ai with b2:=ai.b2 + 1 }/\az=[~~~k,some (.br own)]),2
  .nofun;refine ⟨_,_,_,ck,T.e9,T.Ab,_,gY mj 5 (jE ..) (by ac_nf) rfl,_,rfl,_,_,ck,by rw [<- aP (f:=(·.1)),jE];decide,?_⟩;rw [Pa];exact dF _ _ ⟨fun b u af _ _ e=>by rw [aG af];exact e,bE.upd,⟨ej,ay,by rw [db];exact congrArg (fun z=>some (fz.ins t.dc ay (fE a7 (nc z) ai.cp ai.lf ai.bc (ai.b2 + 1) aE a4))) dz.symm,by rw [aG (bK d0 ck (by intro z;cases z))];exact d0,by rw [aG (bK e8 ck (by intro z;cases z))];exact e8⟩,rfl⟩
  rintro fK H1 ⟨cq,cB,xU,rfl⟩;obtain ⟨_,eB,a1,dR,cf⟩:=id xU;subst aY;nofun;exact ⟨_,_,a1,lV _ _ _ _ _ _ _ _ (by ac_nf),b5,k,a7,aE,a4,_,c,n,ds,rows,_,rfl,xU,eS,cq.mH s0 ic g9 g4,ic,g9,g4,g1,Pg,g3,R.gR _ (fM g2),cB,fun I dX ew rU=>q _ I (.inl ⟨dz,_,Pg,rfl⟩) (fun b u af ao bj _ e=>dX _ _ af ao bj (cq _ _ af ao bj e)) ew (wC xU (wC hp b1 cq) dX) rU⟩
 | some i=>
  rw [dz] at ck;obtain ⟨g1,g2⟩:=q0.bP i dz;have hH:=aZ g1;nofun;refine dO false (fun Q a0=>?_) (fun aA=>nomatch aA) (fun _=>?_)
  .nofun;exact ⟨_,qa T ck,a0⟩
  have cT:=q0.told R;have aM:=q0.len R;refine rL (fun b I=>aN H I/\aL I/\b=ov ds rows ai rows[i] own) (fun jC nP=>?_) ?_ ?_
  .nofun;exact ⟨_,_,ck,lV _ _ _ _ _ _ _ _ (by ac_nf),b5,k,a7,aE,a4,ai,c,n,ds,rows,i,_,own,rfl,hp,dz,hH,eS,s0,g9,cT,aM,fun I s1 cB=>⟨_,rfl,nP _ _ ⟨s1,cB bE,rfl⟩⟩⟩
  .rintro H1 ⟨s1,cB,ae⟩;have mn:=s1 _ _ ck;nofun;refine ⟨_,_,_,mn,T.e9,T.DB,_,gY mj 2 (jE ..) (by ac_nf) rfl,_,rfl,_,_,mn,by rw [<- aP (f:=(·.1)),jE];decide,?_⟩;rw [Sx];have cq:hx k aE a4 H (upd H1 k (.ins t.dc ay (fE a7 (nc (some i)) (ai.cp + 1) ai.lf ai.bc ai.b2 aE a4))):=fun b u af _ _ e=>by rw [aG af];exact s1 _ _ e
   exact q { ai with cp:=ai.cp + 1 } _ (.inr (.inl ⟨i,_,dz,hH,ae.symm,rfl⟩)) (fun b u af ao bj _ e=>cq _ _ af ao bj e) cB.upd (wC hp b1 cq) ⟨ej,ay,by rw [db];exact congrArg (fun z=>some (fz.ins t.dc ay (fE a7 (nc z) (ai.cp + 1) ai.lf ai.bc ai.b2 aE a4))) dz.symm,by rw [aG (bK d0 ck (by intro z;cases z))];exact s1 _ _ d0,by rw [aG (bK e8 ck (by intro z;cases z))];exact s1 _ _ e8⟩
  .rintro H1 ⟨s1,cB,ae⟩;have mn:=s1 _ _ ck;have ct:ai.wt ≠ []:=fun z=>by
    unfold ov at ae;rw [z] at ae;simp at ae
   nofun;refine ⟨_,_,mn,lV _ _ _ _ _ _ _ _ (by ac_nf),_,_,mn,lV _ _ _ _ _ _ _ _ (by ac_nf),b5,k,a7,aE,a4,ai,c,n,ds,rows,i,rfl,hp.same s1,dz,g1,eS,s0.trans s1,g9,cT,ct,aM,R.c_,b1.step s1,cB,fun j aB bA cD wH ar=>?_⟩;have rS:=(hp.same s1).pC (abX (b1.step s1) bA);obtain ⟨x,aj,au⟩:=Ve cT ar.1;have m5:=RI cT j ar.1;have h2:=aZ m5;exact ⟨b5,k,a7,aE,a4,ai,c,n,ds,rows,i,j,_,rfl,rS,dz,eS,fun b u e=>bA _ _ (Db e Jn) ((s0.trans s1) _ _ e),ic,g9,g4,g1,h2,fun e=>g2 x aj (by rw [au,e]),R.gR _ (fM m5),R.c_ _ (fM m5),cD,fun I dX ew rU=>q _ I (.inr (.inr ⟨i,_,j,_,dz,hH,ae.symm,ar,h2,rfl⟩)) (fun b u af ao bj cS e=>dX _ _ af ao bj (bA _ _ cS (s1 _ _ e))) ew (wC rS wH dX) rU⟩
noncomputable def iy (rows:List ST) (s:dd) (x:Str):Bool:=match s.bP with
 | some i=>decide (kP rows x=some i)
 | none=>false
theorem Ra (n:Int) (ds:List a3) (rows:List ST) (s:dd) (d:a3):decide (V.str (ie n ds rows s d)=V.str (ab "free"))=iy rows s d.name:=by
 have af:(V.str (ab "stop"):V) ≠ V.str (ab "free"):=fun z=>absurd (V.str.inj z) (by ac_nf)
 have ao:(V.str (ab "fade"):V) ≠ V.str (ab "free"):=fun z=>absurd (V.str.inj z) (by ac_nf)
 have bj:(V.str (ab "ready"):V) ≠ V.str (ab "free"):=fun z=>absurd (V.str.inj z) (by ac_nf)
 unfold ie iy;cases s.bP with
 | none=>
  show decide (V.str (qY n ds rows s d)=_)=false;unfold qY;split
  .exact decide_eq_false ao
  .split
   .exact decide_eq_false bj
   .exact decide_eq_false af
 | some i=>
  show decide (V.str (rD rows i d.name)=_)=decide (kP rows d.name=some i);unfold rD;split
  .rename_i h;rw [decide_eq_true rfl,decide_eq_true h]
  .rename_i h;rw [decide_eq_false af,decide_eq_false h]
noncomputable def o7 (rows:List ST) (s:dd) (wt:List Str) (x:Str):List Str:=if iy rows s x=true\/x ∈ wt then wt else wt ++ [x]
noncomputable def n4 (rows:List ST) (s:dd) (wt:List Str) (xs:List Str):List Str:=xs.foldl (o7 rows s) wt
noncomputable def nx (rows:List ST) (s:dd) (xs:List Str):dd:={ s with wt:=n4 rows s s.wt xs }
theorem aev (wt:List Str) (x:Str):eg (gA wt) (bH x) (.br true)=gA (if x ∈ wt then wt else wt ++ [x]):=by
 unfold eg;have v7:((gA wt).any fun dm=>decide (dm.1=bH x))=decide (x ∈ wt):=by
  rw [ig,decide_eq_true_eq,oY];constructor
  .rintro ⟨p,ar,aj⟩;obtain ⟨y,a9,rfl⟩:=bJ.mp ar;have:=sq (of_decide_eq_true aj);rw [<- this];exact a9
  .exact fun h=>⟨(bH x,V.br true),bJ.mpr ⟨x,h,rfl⟩,decide_eq_true rfl⟩
 by_cases h:x ∈ wt
 .rw [if_pos (by rw [v7];exact decide_eq_true h),if_pos h];unfold gA;rw [me];refine Oz fun y _=>?_
  show (if (bH y:Key)=bH x then ((bH y:Key),V.br true) else (bH y,V.br true))=_;split <;> rfl
 .rw [if_neg (by rw [v7,decide_eq_false h];exact eQ),if_neg h];unfold gA;rw [e5];rfl
theorem amq {ds:List a3} {rows:List ST} {s:dd} {wt:List Str} {x:Str} (aj:x ∈ ds.map (·.name)) (k:j9 ds rows { s with wt:=wt }):j9 ds rows { s with wt:=o7 rows s wt x }:=by
 unfold o7;split
 .exact k
 .rename_i h;have af:x ∉ wt:=fun z=>h (.inr z)
  refine ⟨?_,fun y a9=>?_,fun i ah=>⟨(k.bP i ah).1,fun y a9=>?_⟩,k.ch⟩
  .show (wt ++ [x]).Nodup;rw [Be];exact ⟨k.wn,by simp,fun a aR b ae e=>by rw [gq.mp ae] at e;exact af (e ▸ aR)⟩
  .rcases gE.mp a9 with a9 | a9
   .exact k.aE y a9
   .rw [gq.mp a9];exact aj
  .rcases gE.mp a9 with a9 | a9
   .exact (k.bP i ah).2 y a9
   .rw [gq.mp a9];intro e;refine h (.inl ?_);have ah:s.bP=some i:=ah;unfold iy;rw [ah];exact decide_eq_true e
theorem GX {ds:List a3} {rows:List ST} {s:dd}:∀ (xs wt:List Str),(∀ x ∈ xs,x ∈ ds.map (·.name))->j9 ds rows { s with wt:=wt }->j9 ds rows { s with wt:=n4 rows s wt xs }
 | [],_,_,k=>k
 | x :: xs,wt,h,k=>GX xs (o7 rows s wt x) (fun y a9=>h y (.tail _ a9)) (amq (h x (.head _)) k)
theorem M5 {rows:List ST} (h:∀ x ∈ xs,x ∈ ds.map (·.name)) (k:j9 ds rows s):j9 ds rows (nx rows s xs):=GX xs s.wt h k
theorem WD (rows:List ST) (s:dd) (wt xs:List Str) (x:Str):n4 rows s wt (xs ++ [x])=o7 rows s (n4 rows s wt xs) x:=by
 unfold n4;rw [I7];rfl
def U6 (P:Program) (w:World) (K:bk) (t:b7) (Pt:Addr):bW:=fun vs H Q _=>∃ b5 k a7 aE a4 s c n ds rows a xs,vs=[.ref k,.ref a]/\eM t H k a7 aE a4 s/\hD P w t b5 a7 c n ds rows/\aN b5 H/\b5 k=none/\b5 aE=none/\b5 a4=none/\b5 Pt=none/\FB ds rows/\j9 ds rows s/\H a=some (.lst (aW xs))/\xs.length <= 1000/\(∀ x ∈ xs,x ∈ ds.map (·.name))/\lU Pt H/\aL H /\
 ∀ p ai I,tG n ds rows (nx rows s xs) (xs.any (iy rows s)) ai->zH k aE a4 Pt H I->H p=none->I p=some (.bu (jc ds (ie n ds rows s)))->aL I->lU Pt I->eM t I k a7 aE a4 ai->Q (.ref p) I
theorem abW (dy:q9 base t.s6 Pt) (i5:base.BuiltinsAt mg Pt):cA P base T 5 t.wz t.AB Cg (U6 P w K t Pt):=by
 refine cH (rH T) fun kf=>cH (afP T) fun adw=>cH (akr T dy i5) fun afL=>?_;exists T.UP.ok uC,9
 obtain ⟨b5,k,a7,aE,a4,ai,c,n,ds,rows,a,xs,rfl,hp,eS,s0,ic,g9,g4,Jn,R,q0,aR,h9,iI,b1,bE,q⟩:=h;obtain ⟨ej,ay,ck,d0,e8⟩:=id hp;obtain ⟨kg,le,mo,de,c_,aT,ch,ms,kvs,ax,C,bU,eW,fR,e0,h5,k8,lQ⟩:=id (eS.same s0);obtain ⟨⟨eu,gg⟩,Fy,wl,aH,cf,_,_⟩:=id C;have bC:=gO aq;have rF:∀ {i:Nat} {x:Str},xs[i]? = some x->∃ (j:Nat) (d:a3),ds[j]? = some d/\d.name=x:=fun {i x} aj=>by
  obtain ⟨d,hd,e⟩:=bJ.mp (iI x (cm aj));obtain ⟨j,aJ⟩:=iN hd;exact ⟨j,d,aJ,e⟩
 refine ⟨_,(aS (ft fq rfl (d6 (aa 1)) (b9 (i:=2) uC.aH) (a5 (ee (fN (bN (bN (aa 0) rfl) rfl) T.lc T.o1 kf aq T.pq .nil cU (ak (aa 2) aF)))))
   (aS (cF (i:=3) uC.aH (iR (aa 0) T.e9 T.abQ adw aq T.Xf .nil cU))
   (aS (cF (i:=4) uC.aH kj)
   (aS (ft fq rfl (d6 (aa 1)) (b9 (i:=2) uC.aH) (a5 (dP (cY eE (o4 bC (aa 3) (aa 2) (fun _ _=>rfl)) cZ (cu _)) (a5 (cF (i:=4) uC.aH kj)) (a5 (so bC (bN (aa 0) rfl) (aa 2) kj rfl)))))
   (aS (ee (fN (aa 0) T.e9 T.XE afL aq T.abb .nil cU (ak (aa 4) aF)))
   (a5 (cy (aa 3)))))))),?_⟩
 exists (fun az I=>I=H/\∃ y,az=[~~~k,~~~a,y,none,none]),5
 .nofun;refine ⟨⟨_,av.of aR⟩,?_⟩;refine dY.list (xs:=aW xs) (fun i σ I=>I=H/\∃ y,σ=[~~~k,~~~a,y,none,none]) ?_ ?_ ?_ ?_
  .exact ⟨rfl,_,rfl⟩
  .rintro i σ I ah ⟨rfl,_⟩;exact av.of aR
  .rintro i v σ I aI ⟨rfl,y,rfl⟩;unfold aW at aI;obtain ⟨x,aj,rfl⟩:=bZ aI;obtain ⟨j,d,hd,rfl⟩:=rF aj;nofun;exact ⟨_,jm T ck,_,rfl,_,Bm T ax,_,rfl,_,_,cf,kF _ _ _ (by ac_nf),c,n,ds,j,d,rfl,C,hd,fun _ _=>⟨rfl,_,rfl⟩⟩
  .rintro σ I ⟨rfl,y,rfl⟩;exact dF _ _ ⟨rfl,_,rfl⟩
 rintro fK H1 ⟨rfl,n2,rfl⟩;subst aY;exists (fun az I=>aN H1 I/\aL I/\∃ p,H1 p=none/\I p=some (.bu (jc ds (ie n ds rows ai)))/\az=[~~~k,~~~a,n2,~~~p,none]),5
 .nofun;exact ⟨_,_,ck,lV _ _ _ _ _ _ _ _ (by ac_nf),k,a7,aE,a4,ai,c,n,ds,rows,rfl,hp,eS.same s0,R.c0,q0.ch,bE,fun p I s2 cD ar jB=>dF _ _ ⟨s2,cD,p,ar,jB,rfl⟩⟩
 rintro cb aB ⟨s2,cD,p,nZ,es,rfl⟩;subst aY;exists (fun az I=>I=aB/\az=[~~~k,~~~a,n2,~~~p,some (.br false)]),5
 .nofun;exact dF _ _ ⟨rfl,rfl⟩
 rintro fS bw ⟨rfl,rfl⟩;subst aY;exists (fun az I=>hx k aE a4 bw I/\aL I/\eM t I k a7 aE a4 (nx rows ai xs)/\∃ y,az=[~~~k,~~~a,y,~~~p,some (.br (xs.any (iy rows ai)))]),5
 .have eC:=s2 _ _ aR;have dR:=s2 _ _ ck;have d_:=s2 _ _ d0;have hj:=s2 _ _ e8;nofun;refine ⟨⟨_,av.of eC⟩,?_⟩;refine dY.list (xs:=aW xs) (fun i σ I=>hx k aE a4 bw I/\aL I/\eM t I k a7 aE a4 { ai with wt:=n4 rows ai ai.wt (xs.take i) }/\∃ y,σ=[~~~k,~~~a,y,~~~p,some (.br ((xs.take i).any (iy rows ai)))]) ?_ ?_ ?_ ?_
  .exact ⟨hx.of (aN.refl bw),cD,hp.same s2,_,rfl⟩
  .rintro i σ I ah ⟨dX,_⟩;exact av.of (dX _ _ (bK eC dR (by intro z;cases z)) (bK eC d_ (by intro z;cases z)) (bK eC hj (by intro z;cases z)) eC)
  .rintro i v σ I aI bf;ac_rfl
   obtain ⟨dX,ew,⟨_,d',f1,f2,eo⟩,y,rfl⟩:=bf;subst aY;unfold aW at aI;obtain ⟨x,aj,rfl⟩:=bZ aI;obtain ⟨j,d,hd,rfl⟩:=rF aj;have jR:=dX _ _ (bK es dR (by intro z;cases z)) (fun e=>by rw [e,d0] at nZ;cases nZ) (fun e=>by rw [e,e8] at nZ;cases nZ) es;have bp:=gM.k (k:=bH d.name) jR;rw [ah6 (f:=ie n ds rows ai) eu hd] at bp;have eJ:(gA (n4 rows ai ai.wt (xs.take i))).length <= 12:=by
    have:=(GX (xs.take i) ai.wt (fun x aj=>iI x (vv aj)) q0).len R;unfold gA;rw [aP];exact this
   have eU:n4 rows ai ai.wt (xs.take (i + 1))=o7 rows ai (n4 rows ai ai.wt (xs.take i)) d.name:=by rw [iW aj,WD]
   have j0:(xs.take (i + 1)).any (iy rows ai)=((xs.take i).any (iy rows ai) || iy rows ai d.name):=by rw [iW aj,List.any_append];simp
   nofun;refine dO (iy rows ai d.name) (fun jC a0=>?_) (fun ae=>?_) (fun ae=>?_)
   .nofun;rw [<- Ra n ds rows ai d] at a0;exact ⟨_,bp,rfl,a0⟩
   .nofun;refine ⟨dX,ew,⟨ej,d',f1,?_,eo⟩,?_⟩
    .rw [eU];unfold o7;rw [if_pos (.inl ae)];exact f2
    .rw [j0,ae,PF]
   .nofun;refine ⟨_,tv T f1,_,rfl,_,ly.k (k:=bH d.name) f2 (hg eJ (by decide)),fun b u af ao bj e=>by rw [aG ao];exact dX _ _ af ao bj e,ew.upd,⟨ej,d',by rw [aG (bK f1 f2 (by intro z;cases z))];exact f1,?_,by rw [aG (dJ ej)];exact eo⟩,?_⟩
    .rw [db,aev,eU];unfold o7;by_cases h:d.name ∈ n4 rows ai ai.wt (xs.take i)
     .rw [if_pos h,if_pos (.inr h)]
     .rw [if_neg h,if_neg (fun z=>z.elim (fun z=>by rw [ae] at z;cases z) h)]
    .rw [j0,ae,Nv]
  .rintro σ I bf;ac_rfl
   obtain ⟨dX,ew,rU,y,rfl⟩:=bf;subst aY;rw [eY,gF] at *;exact dF _ _ ⟨dX,ew,rU,y,rfl⟩
 rintro kG cI ⟨dU,dK,pQ,ao9,rfl⟩;obtain ⟨_,sJ,f1,f2,eo⟩:=id pQ;have u2:=hp.same s2;have dR:=s2 _ _ ck;subst aY;nofun;refine ⟨_,_,f1,lV _ _ _ _ _ _ _ _ (by ac_nf),b5,k,a7,aE,a4,_,c,n,ds,rows,_,rfl,pQ,eS,dU.mH (s0.trans s2) ic g9 g4,ic,g9,g4,Jn,R,M5 iI q0,wC u2 (b1.step s2) dU,dK,fun s5 dj aC eX hh Hh vy=>?_⟩;have Sn:p ≠ k:=bK es dR (by intro z;cases z);have nw:p ≠ aE:=fun e=>by rw [e,d0] at nZ;cases nZ
 have np:p ≠ a4:=fun e=>by rw [e,e8] at nZ;cases nZ
 have acD:p ≠ Pt:=fun e=>by
  obtain ⟨ps,bF,_⟩:=b1;rw [e,bF] at nZ;cases nZ
 exact q p s5 dj aC (fun b u af ao bj cS e=>eX _ _ af ao bj cS (dU _ _ af ao bj (s2 _ _ e))) nZ (eX _ _ Sn nw np acD (dU _ _ Sn nw np es)) hh Hh vy
theorem Om {i:Int} (h:i.natAbs < 100000):i.natAbs.log2 < 1920:=by
 by_cases h0:i.natAbs=0
 .rw [h0];decide
 .exact (ahN h0).mpr (NQ h (by decide))
def UF (K:bk):bW:=fun vs H Q _=>∃ (a:Addr) (ns:List Int) (k m:Int),vs=[.ref a,.int k,.int m]/\ns.length <= 63/\av K H a (ns.map V.int)/\(0 <= k/\k < 1000000)/\0 < m/\Q (.int (dA ns k m)) H
theorem alD:cA P base T 1 t.BG t.Cx Aq (UF K):=by
 exists T.fF.ok ug,9
 obtain ⟨a,ns,k,m,rfl,hS,S,⟨h0,af⟩,hm,q⟩:=h;refine ⟨_,(aS (cF (i:=3) ug.aH (uv (cY oZ (eT gj rfl T.fP fZ (ak (aa 0) aF)) aD (cu _)) (bh bO (aa 0) (bI jS (aa 1) (eT gj rfl T.fP fZ (ak (aa 0) aF)))) aD))
   (aS (cF (i:=4) ug.aH (bI d2 (bI d2 (bI jS (aa 3) aD) (bI jZ (bI jZ aD (aa 1)) (aa 1))) aD))
   (a5 (cy (bI jS (bI jS (bI jZ (bI jS (bI jZ (aa 4) aD) aD) aD) aD) (aa 2)))))),?_⟩
 nofun;refine ⟨_,.inl S,?_⟩;rw [aP];have aaX:(0:Int) <= k * k/\k * k < 1000000 * 1000000:=⟨ahp h0 h0,agc (by omega) af h0 (by decide)⟩;have fin:∀ i:Int,(0:Int) < 1000003/\oa 31 k/\oa (31 * k) k/\oa (i % 1000003 + 31 * k * k + 1) 48271/\(0:Int) < 999983/\oa ((i % 1000003 + 31 * k * k + 1) * 48271 % 999983) 7919/\(0:Int) < 524287/\0 < m:=by
  intro i;refine ⟨by decide,.inl (by decide),.inr (by omega),.inr (by decide),by decide,.inr (by decide),by decide,hm⟩
 by_cases c:(0:Int) < (ns.length:Int)
 .rw [if_pos (decide_eq_true c)];have au:0 <= k % (ns.length:Int)/\k % (ns.length:Int) < (ns.length:Int):=⟨zM _ (by omega),AU _ c⟩;refine ⟨_,.inl S,by rw [aP];exact c,_,S,?_⟩;rw [aP];have aJ:(k % (ns.length:Int)).toNat < ns.length:=by omega
  refine ⟨.int ns[(k % (ns.length:Int)).toNat],?_,_,rfl,?_⟩
  .have e:=bt (xs:=ns.map V.int) (j:=(k % (ns.length:Int)).toNat) (v:=.int ns[(k % (ns.length:Int)).toNat]) (by rw [cN,aZ aJ] <;> rfl);rwa [qz au.1] at e
  .obtain ⟨f1,f2,eo,f4,fg,nN,mi,f8⟩:=fin ns[(k % (ns.length:Int)).toNat];refine ⟨f1,f2,eo,f4,fg,nN,mi,f8,?_⟩;have e:dA ns k m=(((ns[(k % (ns.length:Int)).toNat] % 1000003 + 31 * k * k + 1) * 48271 % 999983 * 7919) % 524287) % m:=by
    unfold dA;rw [if_pos c,jg,aZ aJ];rfl
   rw [<- e];exact q
 .rw [if_neg (by simpa using c)];obtain ⟨f1,f2,eo,f4,fg,nN,mi,f8⟩:=fin 0;refine ⟨f1,f2,eo,f4,fg,nN,mi,f8,?_⟩;have e:dA ns k m=(((0 % 1000003 + 31 * k * k + 1) * 48271 % 999983 * 7919) % 524287) % m:=by
   unfold dA;rw [if_neg c]
  rw [<- e];exact q
noncomputable def ins {α:Type} (l:List α) (i:Nat) (a:α):List α:=l.take i ++ a :: l.drop i
theorem rI (ah:i <= l.length) (j:Nat):(ins l i a)[j]? = if j < i then l[j]? else if j=i then some a else l[j - 1]?:=by
 unfold ins;have cT:(l.take i).length=i:=by rw [hE];omega
 by_cases af:j < i
 .rw [if_pos af,xB (by omega),u7 af]
 .rw [if_neg af,vd (by omega),cT];by_cases ao:j=i
  .subst ao;rw [if_pos rfl];simp
  .rw [if_neg ao];obtain ⟨k,rfl⟩:=Nat.exists_eq_add_of_lt (Nat.lt_of_le_of_ne (abB af) (dJ ao));rw [Nat.add_assoc,Nat.add_sub_cancel_left,yn,List.getElem?_drop];rfl
theorem Jz (ah:i <= l.length):(ins l i a).length=l.length + 1:=by
 unfold ins;rw [dZ,gP,hE,t_];omega
theorem Zs (h:l.Nodup) (n:a ∉ l):(ins l i a).Nodup:=by
 unfold ins;rw [(aj').nodup_iff,sQ,Uc];exact ⟨n,h⟩
theorem nj {a x:α} (h:x ∈ ins l i a):x=a\/x ∈ l:=by
 unfold ins at h;rcases gE.mp h with z | z
 .exact .inr (vv z)
 .rcases fx.mp z with z | z
  .exact .inl z
  .exact .inr (afK z)
theorem EF (f:α->β) (l:List α) (i:Nat) (a:α):(ins l i a).map f=ins (l.map f) i (f a):=by
 unfold ins;rw [e5,e1,afb,List.map_drop]
theorem Vw (x:Str) (mL:a <= b) (ae:b <= x.cps.toList.length):(mN x (some (a:Int)) (some (b:Int))).cps.toList=(x.cps.toList.drop a).take (b - a):=by
 have aj:x.length=x.cps.toList.length:=by simp [uH]
 have e:=StrLaws.sliceText_nat x mL (by rw [aj];exact ae);rw [show mN x (some (a:Int)) (some (b:Int))=tq x (some (a:Int)) (some (b:Int)) from rfl,e]
theorem I_ (x:Str) (ae:b <= x.cps.toList.length):(mN x none (some (b:Int))).cps.toList=x.cps.toList.take b:=by
 have:mN x none (some (b:Int))=mN x (some ((0:Nat):Int)) (some (b:Int)):=by
  show tq x none (some (b:Int))=tq x (some ((0:Nat):Int)) (some (b:Int));unfold tq;rw [StrLaws.sliceIdx_none_lo];rfl
 rw [this,Vw x (gv _) ae,akJ,Nat.sub_zero]
theorem akl (x:Str) (aR:a <= x.cps.toList.length):(mN x (some (a:Int)) none).cps.toList=x.cps.toList.drop a:=by
 have aj:x.length=x.cps.toList.length:=by simp [uH]
 have:mN x (some (a:Int)) none=mN x (some (a:Int)) (some ((x.cps.toList.length:Nat):Int)):=by
  show tq x (some (a:Int)) none=tq x (some (a:Int)) (some ((x.cps.toList.length:Nat):Int));unfold tq;rw [StrLaws.sliceIdx_none_hi,<- aj]
 rw [this,Vw x aR (b8 _)];exact R7 (by rw [t_];exact b8 _)
noncomputable def wD (l:List Nat) (k:Nat):List Nat:=l.take (k + 1)
noncomputable def oI (l:List Nat) (at_ f k:Nat):List Nat:=l.take at_ ++ [97 + (f + k) % 26] ++ l.drop (at_ + 1)
noncomputable def oM (l:List Nat) (f k j:Nat):List Nat:=[97 + (f + k) % 26] ++ l.take j
theorem Jw (aM:l.length=8) (al:∀ c ∈ l,97 <= c/\c <= 122) {k:Nat} (au:k < 8):(wD l k).length=k + 1/\∀ c ∈ wD l k,97 <= c/\c <= 122:=by
 unfold wD;exact ⟨by rw [hE];omega,fun c aA=>al c (vv aA)⟩
theorem XJ (aM:l.length=8) (al:∀ c ∈ l,97 <= c/\c <= 122) {a f k:Nat} (aR:a < 8):(oI l a f k).length=8/\∀ c ∈ oI l a f k,97 <= c/\c <= 122:=by
 unfold oI;refine ⟨by rw [dZ,dZ,hE,t_,I6];omega,fun c aA=>?_⟩;rcases gE.mp aA with aA | aA
 .rcases gE.mp aA with aA | aA
  .exact al c (vv aA)
  .rw [gq.mp aA];omega
 .exact al c (afK aA)
theorem alS (aM:l.length=8) (al:∀ c ∈ l,97 <= c/\c <= 122) {f k j:Nat} (aJ:j < 8):(1 <= (oM l f k j).length/\(oM l f k j).length <= 8)/\∀ c ∈ oM l f k j,97 <= c/\c <= 122:=by
 unfold oM;refine ⟨by rw [dZ,hE,I6];omega,fun c aA=>?_⟩;rcases gE.mp aA with aA | aA
 .rw [gq.mp aA];omega
 .exact al c (vv aA)
theorem aav (aM:l.length=8) (aR:a < 8) (ah:i < 8) (aJ:j < 8) (e:oI l a f i=oI l a f j):i=j:=by
 have af:∀ k,(oI l a f k)[a]? = some (97 + (f + k) % 26):=fun k=>by
  unfold oI;rw [oC,vd (by rw [hE];omega),hE,show a - min a l.length=0 by omega];rfl
 have ao:=af i;rw [e,af j] at ao;have:=ei ao;omega
theorem aep (ah:i < 8) (aJ:j < 8) (e:oM l f i u=oM l f j v):i=j:=by
 unfold oM at e;have:=(v9 e).1;omega
theorem amH {k:Nat} (h:k <= xs.length):nC xs none (some ((k:Nat):Int))=xs.take k:=by
 unfold nC;rw [gD.aeg,acB h,gD.aaU];simp
noncomputable def six:List Str:=[ab "stage",ab "tram",ab "car",ab "foot",ab "ring",ab "free"]
theorem Z9 {x:Str} (e:x.cps.toList=l) (h0:1 <= l.length) (af:l.length <= 8) (al:∀ c ∈ l,97 <= c/\c <= 122):made x oc 8=true:=by
 have aj:x.length=x.cps.toList.length:=by simp [uH]
 exact ahG (by rw [aj,e];exact h0) (by rw [aj,e];exact af) (by rw [e];exact al)
def Ho (m:Nat) (xs:List Str):Prop:=xs.length=m/\xs.Nodup/\∀ x ∈ xs,made x oc 8=true
theorem S7 (h0:0 <= i) (af:i < 26):∃ c:Nat,eb (ab "abcdefghijklmnopqrstuvwxyz").cps.toList i=some c/\c=97 + i.toNat:=by
 have:∀ k,k < 26->eb (ab "abcdefghijklmnopqrstuvwxyz").cps.toList ((k:Nat):Int)=some (97 + k):=by ac_nf
 refine ⟨97 + i.toNat,?_,rfl⟩;have e:=this i.toNat (by omega);rwa [qz h0] at e
theorem N0:∀ ys:List Str,(eh ⟨#[]⟩ ys).cps.toList=(ys.map (·.cps.toList)).flatten
 | []=>rfl
 | [a]=>by
  show a.cps.toList=_;simp
 | a :: b :: r=>by
  show (a ++ ⟨#[]⟩ ++ eh ⟨#[]⟩ (b :: r)).cps.toList=_;rw [o2,oQ,o2,oQ,N0 (b :: r)];simp
theorem Ti (f:Nat->Nat) (n:Nat):(p2 (ab "") ((dw n).map fun i=>jO (f i))).cps.toList=(dw n).map f:=by
 rw [show p2 (ab "") ((dw n).map fun i=>jO (f i))=eh ⟨#[]⟩ ((dw n).map fun i=>jO (f i)) from vW _ _,N0,me];have:((fun x:Str=>x.cps.toList) ∘ fun i=>jO (f i))=fun i=>[f i]:=rfl
 rw [this]
 induction (dw n) with
 | nil=>rfl
 | cons a l cE=>rw [e1,oy,cE];rfl
theorem aak:∀ m,m < 7->(six.take m).length=m/\(six.take m).Nodup/\∀ x ∈ six.take m,made x oc 8=true:=by ac_nf
def al' (K:bk) (a:Addr) (ns:List Int):bW:=fun vs H Q _=>∃ m:Nat,vs=[.ref a,.int m]/\Sc K a ns H/\(1 <= m/\m <= 8)/\∀ p xs I,aN H I->Sc K a ns I->H p=none->I p=some (.lst (aW xs))->Ho m xs->Q (.ref p) I
theorem amK (a:Addr) (ns:List Int) (hS:ns.length <= 63):cA P base T 2 t.Jc t.D8 IF (al' K a ns):=by
 refine cH (Iq T a ns hS) fun fJ=>?_;exists T.D0.ok rh,9
 obtain ⟨m,rfl,S,hm,q⟩:=h;have eJ:(ab "abcdefghijklmnopqrstuvwxyz").length=26:=by ac_nf
 refine ⟨_,(aS (lb (i:=2) rh.aH rfl (j5 rfl) cZ)
   (aS (cF (i:=3) rh.aH (gk vn zA Ag vE cZ (ak (fT rfl (lL rfl T.kz (ak aD aF)) (ac (sc:=bB FD) rfl (by ac_nf)) (N:=["_law_k","_law_letters","_law_script"]) (sel:=[none,some 2,some 0]) (fw (M:=["_law_script","_law_many","_law_letters","_law_base","_law_way","_law_at","_law_names_here","_law_k","_law_sign"]) (by ac_nf)) (eO.of (fun _ _ _ _=>(b9 (i:=0) (d1 (N:=["_law_k","_law_letters","_law_script"]) (by ac_nf) rfl))) (fun _ _ _ _=>⟨_,hO,by walk_at "B"⟩) (fun _ _ _ _=>⟨_,(bh DH (aa 1) (cc fJ aq T.gp T.fF.bG T.gu (ak (aa 2) (ak (bI d2 aD (aa 0)) (ak aD aF))))),by walk_at "B"⟩))) aF)))
   (aS (cF (i:=4) rh.aH (cc fJ aq T.gp T.fF.bG T.gu (ak (aa 0) (ak aD (ak aD aF)))))
   (aS (cF (i:=5) rh.aH (cc fJ aq T.gp T.fF.bG T.gu (ak (aa 0) (ak aD (ak aD aF)))))
   (aS (cF (i:=6) rh.aH (gL aF))
   (aS (dP (g5.pt (ou (cY eE (cc fJ aq T.gp T.fF.bG T.gu (ak (aa 0) (ak aD (ak aD aF)))) aD (cu _)) (oi (cY lp (aa 1) aD (cu _))))) (a5 (cy (am Sm (gL (ak cZ (ak cZ (ak cZ (ak cZ (ak cZ (ak cZ aF))))))) r' (sN (aa 1))))) ek)
   (aS (ft fq rfl (lL rfl T.kz (ak (aa 1) aF)) (b9 (i:=7) rh.aH) (aS (cF (i:=8) rh.aH (bh DH (aa 2) (bI jS (bI d2 (cc fJ aq T.gp T.fF.bG T.gu (ak (aa 0) (ak aD (ak aD aF)))) (aa 7)) aD)))
   (a5 (dP (cY eE (aa 4) aD (cu _)) (a5 (ee (gk ip kr lx ks (aa 6) (ak (bI mD (bI mD (am Dm (aa 3) r' (sN (aa 5))) (aa 8)) (am Dm (aa 3) (sN (bI d2 (aa 5) aD)) r')) aF)))) (a5 (dP (g5.pt (ou (cY eE (aa 4) aD (cu _)) (oi (cY lp (aa 1) aD (cu _))))) (a5 (ee (gk ip kr lx ks (aa 6) (ak (am Dm (aa 3) r' (sN (bI d2 (aa 7) aD))) aF)))) (a5 (ee (gk ip kr lx ks (aa 6) (ak (bI mD (aa 8) (am Dm (aa 3) r' (sN (cc fJ aq T.gp T.fF.bG T.gu (ak (aa 0) (ak (bI d2 aD (aa 7)) (ak aD aF))))))) aF))))))))))
   (a5 (cy (aa 6)))))))))),?_⟩
 exists (fun az I=>I=H/\az=[~~~a,some (.int m),some (.str (ab "abcdefghijklmnopqrstuvwxyz")),none,none,none,none,none,none]),3
 .nofun;exact bL _ _ ⟨rfl,rfl⟩
 rintro fK H1 ⟨rfl,rfl⟩;subst aY;exists (fun az I=>aN H1 I/\Sc K a ns I/\∃ aE:Str,aE.cps.toList.length=8/\(∀ c ∈ aE.cps.toList,97 <= c/\c <= 122)/\az=[~~~a,some (.int m),some (.str (ab "abcdefghijklmnopqrstuvwxyz")),some (.str aE),none,none,none,none,none]),3
 .nofun;refine ⟨by decide,by decide,?_⟩;refine Gc.ae8 (n:=8) (fun i=>V.str (jO (97 + (dA ns (300 + (i:Int)) 26).toNat))) (by decide) (fun i N ah bb=>?_) (fun p ar=>?_)
  .have eB:=h1 ns (300 + (i:Int)) (m:=26) (by decide);have fA:=ce ns (300 + (i:Int)) (m:=26) (by decide);obtain ⟨c,aA,rfl⟩:=S7 eB fA;(nofun; repeat (dsimp only [re];nofun));exact ⟨Sub.name,S,by omega,by omega,by decide,by rw [eJ];decide,_,aA,bb⟩
  .have e:(dw 8).map (fun i:Nat=>V.str (jO (97 + (dA ns (300 + (i:Int)) 26).toNat)))=aW ((dw 8).map fun i:Nat=>jO (97 + (dA ns (300 + (i:Int)) 26).toNat)):=by unfold aW;rw [me];rfl
   refine ⟨p,rfl,(dw 8).map fun i:Nat=>jO (97 + (dA ns (300 + (i:Int)) 26).toNat),by rw [<- e];exact av.of db,?_,?_⟩
   .have af:(sS (fun x:Str=>x.length) ((dw 8).map fun i:Nat=>jO (97 + (dA ns (300 + (i:Int)) 26).toNat))).sum=8:=by
     rw [me];rfl
    rw [af,aP,kH];ac_nf
   .refine bL _ _ ⟨bq ar,S.new ar,_,?_,fun c aA=>?_,rfl⟩
    .rw [Ti (fun i:Nat=>97 + (dA ns (300 + (i:Int)) 26).toNat) 8,aP,kH]
    .rw [Ti (fun i:Nat=>97 + (dA ns (300 + (i:Int)) 26).toNat) 8] at aA;obtain ⟨i,_,rfl⟩:=bJ.mp aA;have eB:=h1 ns (300 + (i:Int)) (m:=26) (by decide);have fA:=ce ns (300 + (i:Int)) (m:=26) (by decide);omega
 rintro cb aB ⟨s2,lX,aE,gn,xH,rfl⟩;have B8:aE.length=8:=by
  have:aE.length=aE.cps.toList.length:=by simp [uH]
  omega
 have akh:=h1 ns 310 (m:=3) (by decide);have aeE:=ce ns 310 (m:=3) (by decide);subst aY;generalize q7:dA ns 310 3=way at akh aeE;exists (fun az I=>I=aB/\az=[~~~a,some (.int m),some (.str (ab "abcdefghijklmnopqrstuvwxyz")),some (.str aE),some (.int way),none,none,none,none]),3
 ·(nofun; repeat (dsimp only [re];nofun));rw [q7];exact ⟨lX,by omega,by omega,by decide,bL _ _ ⟨rfl,rfl⟩⟩
 rintro fS bw ⟨rfl,rfl⟩;obtain ⟨at_,rF,PO⟩:∃ at_:Nat,dA ns 311 8=(at_:Nat)/\at_ < 8:=by
  have eB:=h1 ns 311 (m:=8) (by decide);have fA:=ce ns 311 (m:=8) (by decide);exact ⟨(dA ns 311 8).toNat,by omega,by omega⟩
 subst aY;exists (fun az I=>I=bw/\az=[~~~a,some (.int m),some (.str (ab "abcdefghijklmnopqrstuvwxyz")),some (.str aE),some (.int way),some (.int (at_:Nat)),none,none,none]),3
 ·(nofun; repeat (dsimp only [re];nofun));rw [rF];exact ⟨lX,by omega,by omega,by omega,bL _ _ ⟨rfl,rfl⟩⟩
 rintro kG cI ⟨rfl,rfl⟩;obtain ⟨f,hf,aoj⟩:∃ f:Nat,dA ns 312 26=(f:Nat)/\f < 26:=by
  have eB:=h1 ns 312 (m:=26) (by decide);have fA:=ce ns 312 (m:=26) (by decide);exact ⟨(dA ns 312 26).toNat,by omega,by omega⟩
 subst aY;exists (fun az I=>Sc K a ns I/\aN cI I/\∃ dQ,cI dQ=none/\I dQ=some (.lst [])/\az=[~~~a,some (.int m),some (.str (ab "abcdefghijklmnopqrstuvwxyz")),some (.str aE),some (.int way),some (.int (at_:Nat)),~~~dQ,none,none]),3
 .nofun;exact ⟨gv _,fun dQ ho=>bL _ _ ⟨lX.new ho,bq ho,dQ,ho,db,rfl⟩⟩
 rintro mm hc ⟨si,l6,dQ,ho,ui,rfl⟩;subst aY;simp only [dx];refine qn (fun az I=>I=hc/\az=[~~~a,some (.int m),some (.str (ab "abcdefghijklmnopqrstuvwxyz")),some (.str aE),some (.int way),some (.int (at_:Nat)),~~~dQ,none,none]) (fun fW bL kA _ _=>?_) ?_
 .refine dO (decide (dA ns 313 8=0) && decide (m < 7)) (fun Q a0=>?_) (fun ae=>?_) (fun ae=>?_)
  ·(nofun; repeat (dsimp only [re];nofun));refine ⟨si,by decide,by decide,by decide,?_⟩;by_cases cz:dA ns 313 8=0
   .rw [if_pos (decide_eq_true cz),show decide ((m:Int) < 7)=decide (m < 7) from decide_eq_decide.mpr (by omega)];rw [decide_eq_true cz,ky] at a0;exact a0
   .rw [if_neg (by simpa using cz)];rw [decide_eq_false cz,m'] at a0;exact a0
  .rw [g_,decide_eq_true_eq,decide_eq_true_eq] at ae;obtain ⟨ck,d0,e8⟩:=aak m ae.2;nofun;refine ⟨by decide,fun p ar=>⟨_,av.of db,fun fk vc=>?_⟩⟩;rw [kA];refine q fk (six.take m) _ (s2.trans (l6.trans ((bq ar).trans (bq vc)))) ((si.new ar).new vc) ((s2.trans (l6.trans (bq ar))).free vc) ?_ ⟨ck,d0,e8⟩;rw [db,amH (show m <= 6 by omega)];unfold aW six;rw [afb];rfl
  .simp only [hr];exact bL _ _ ⟨rfl,rfl⟩
 rintro kc f3 ⟨rfl,rfl⟩;obtain ⟨g,bp⟩:∃ g:Nat->List Nat,g=fun k=>if way=0 then oI aE.cps.toList at_ f k else if way=1 then wD aE.cps.toList k else oM aE.cps.toList f k (dA ns (320 + (k:Int)) 8).toNat:=⟨_,rfl⟩
 simp only [dx];exists (fun az I=>Sc K a ns I/\aN cI I/\(∃ xs:List Str,I dQ=some (.lst (aW xs))/\xs.map (·.cps.toList)=(dw m).map g)/\∃ dt dh,az=[~~~a,some (.int m),some (.str (ab "abcdefghijklmnopqrstuvwxyz")),some (.str aE),some (.int way),some (.int (at_:Nat)),~~~dQ,dt,dh]),0
 .nofun;refine ⟨by omega,by omega,?_⟩;refine dY.range (fun i σ I=>Sc K a ns I/\aN cI I/\(∃ xs:List Str,I dQ=some (.lst (aW xs))/\xs.map (·.cps.toList)=(dw i).map g)/\∃ dt dh,σ=[~~~a,some (.int m),some (.str (ab "abcdefghijklmnopqrstuvwxyz")),some (.str aE),some (.int way),some (.int (at_:Nat)),~~~dQ,dt,dh]) ⟨si,l6,⟨[],ui,rfl⟩,_,_,rfl⟩ ?_ ?_
  .rintro i σ I ah bf;ac_rfl
   obtain ⟨qO,l9,⟨xs,nV,tb⟩,dt,dh,rfl⟩:=bf;have anr:i < 8:=by have:i < (m:Int).toNat:=ah;omega
   have h9:xs.length=i:=by have:=congrArg ry tb;rwa [aP,aP,kH] at this
   obtain ⟨c,aA,rfl⟩:=S7 (i:=((f:Int) + (i:Int)) % 26) (zM _ (by decide)) (AU _ (by decide));have ahk:(((f:Int) + (i:Int)) % 26).toNat=(f + i) % 26:=by omega
   subst aY;rw [ahk] at aA;simp only [hN,dx,nk,nu,sx];exists (fun az jj=>jj=I/\az=[~~~a,some (.int m),some (.str (ab "abcdefghijklmnopqrstuvwxyz")),some (.str aE),some (.int way),some (.int (at_:Nat)),~~~dQ,some (.int (i:Nat)),some (.str (jO (97 + (f + i) % 26)))]),0
   ·(nofun; repeat (dsimp only [re];nofun));rw [hf];exact ⟨qO,by decide,by decide,by decide,by decide,by rw [eJ];decide,_,aA,bL _ _ ⟨rfl,rfl⟩⟩
   rintro Z4 fm ⟨rfl,rfl⟩;have oD:∀ k:Nat,k <= 1000->k <= sizeLine:=fun k h=>cP h (by decide)
   have WZ:(jO (97 + (f + i) % 26)).length=1:=rfl;have put:∀ nm:Str,nm.cps.toList=g i->Sc K a ns (upd fm dQ (.lst (aW xs ++ [.str nm])))/\aN cI (upd fm dQ (.lst (aW xs ++ [.str nm])))/\(∃ ys:List Str,(upd fm dQ (.lst (aW xs ++ [.str nm]))) dQ=some (.lst (aW ys))/\ys.map (·.cps.toList)=(dw (i + 1)).map g):=fun nm k1=>by
    refine ⟨qO.set nV (fun _ _ z=>by cases z),l9.ff ho,xs ++ [nm],?_,?_⟩
    .rw [db];unfold aW;rw [e5];rfl
    .rw [e5,tb,q5,e5,e1,qu,k1];rfl
   have HT:(aW xs).length < sizeLine:=hg (show (aW xs).length <= 8 by unfold aW;rw [aP];omega) (by decide);subst aY;dsimp only;refine dO (decide (way=0)) (fun Q a0=>?_) (fun Lr=>?_) (fun Hd=>?_)
   .nofun;exact a0
   .have hw:=of_decide_eq_true Lr;have tj:g i=oI aE.cps.toList at_ f i:=by rw [bp];exact if_pos hw
    have bY:=uk aE none (some (at_:Int));have cL:=uk aE (some ((at_:Int) + 1)) none;nofun;refine ⟨.inl ⟨_,av.of nV⟩,by rw [B8];decide,oD _ (by omega),by rw [B8];decide,oD _ (by rw [pg];omega),_,nV,HT,?_⟩;obtain ⟨fk,es,jR⟩:=put (mN aE none (some (at_:Int)) ++ jO (97 + (f + i) % 26) ++ mN aE (some ((at_:Int) + 1)) none) (by
     rw [tj];unfold oI;rw [o2,oQ,o2,oQ,I_ aE (by omega),show ((at_:Int) + 1)=((at_ + 1:Nat):Int) by omega,akl aE (by omega)]
     rfl)
    exact ⟨fk,es,jR,_,rfl⟩
   .have hw:=of_decide_eq_false Hd;refine dO (decide (way=1)) (fun Q a0=>?_) (fun Lr=>?_) (fun Hd=>?_)
    .nofun;by_cases cf:way=1
     .rw [if_pos (decide_eq_true cf),decide_eq_true (show (m:Int) < 9 by omega)];rw [decide_eq_true cf] at a0;exact a0
     .rw [if_neg (by simpa using cf)];rw [decide_eq_false cf] at a0;exact a0
    .have nY:=of_decide_eq_true Lr;have tj:g i=wD aE.cps.toList i:=by rw [bp];exact (if_neg hw).trans (if_pos nY)
     nofun;refine ⟨.inl ⟨_,av.of nV⟩,by rw [B8];decide,_,nV,HT,?_⟩;obtain ⟨fk,es,jR⟩:=put (mN aE none (some ((i:Int) + 1))) (by
      rw [tj,show ((i:Int) + 1)=((i + 1:Nat):Int) by omega,I_ aE (by omega)]
      rfl)
     exact ⟨fk,es,jR,_,rfl⟩
    .have nY:=of_decide_eq_false Hd;have tj:g i=oM aE.cps.toList f i (dA ns (320 + (i:Int)) 8).toNat:=by rw [bp];exact (if_neg hw).trans (if_neg nY)
     have eB:=h1 ns (320 + (i:Int)) (m:=8) (by decide);have fA:=ce ns (320 + (i:Int)) (m:=8) (by decide);(nofun; repeat (dsimp only [re];nofun));obtain ⟨Cp,Dc⟩:∃ Cp:Nat,dA ns (320 + (i:Int)) 8=(Cp:Int):=⟨_,(qz eB).symm⟩;rw [Dc] at tj fA;rw [Dc];rw [ma] at tj;have bY:=uk aE none (some (Cp:Int));refine ⟨.inl ⟨_,av.of nV⟩,qO,by omega,by omega,by decide,by rw [B8];decide,oD _ (by omega),_,nV,HT,?_⟩;obtain ⟨fk,es,jR⟩:=put (jO (97 + (f + i) % 26) ++ mN aE none (some (Cp:Int))) (by
      rw [tj];unfold oM;rw [o2,oQ,I_ aE (by omega)]
      rfl)
     exact ⟨fk,es,jR,_,rfl⟩
  .rintro σ I bf;ac_rfl
   obtain ⟨qO,l9,⟨xs,nV,tb⟩,dt,dh,rfl⟩:=bf;subst aY;exact bL _ _ ⟨qO,l9,⟨xs,nV,by rw [tb,show (m:Int).toNat=m by omega]⟩,dt,dh,rfl⟩
 rintro uS iS ⟨xg,iH,⟨xs,Lp,tb⟩,dt,dh,rfl⟩;have h9:xs.length=m:=by have:=congrArg ry tb;rwa [aP,aP,kH] at this
 have ajv:∀ k:Nat,(dA ns (320 + (k:Int)) 8).toNat < 8:=fun k=>by
  have eB:=h1 ns (320 + (k:Int)) (m:=8) (by decide);have fA:=ce ns (320 + (k:Int)) (m:=8) (by decide);omega
 have aeT:∀ k,k < m->(1 <= (g k).length/\(g k).length <= 8)/\∀ c ∈ g k,97 <= c/\c <= 122:=fun k au=>by
  rw [bp];dsimp only;split
  .have:=XJ gn xH (f:=f) (k:=k) PO;exact ⟨by omega,this.2⟩
  .split
   .have:=Jw gn xH (k:=k) (by omega);exact ⟨by omega,this.2⟩
   .exact alS gn xH (ajv k)
 have YH:∀ i j,i < m->j < m->g i=g j->i=j:=fun i j ah aJ e=>by
  rw [bp] at e;dsimp only at e;by_cases cz:way=0
  .rw [if_pos cz,if_pos cz] at e;exact aav gn PO (by omega) (by omega) e
  .rw [if_neg cz,if_neg cz] at e;by_cases cf:way=1
   .rw [if_pos cf,if_pos cf] at e;have af:=Jw gn xH (k:=i) (by omega);have ao:=Jw gn xH (k:=j) (by omega);rw [e] at af;omega
   .rw [if_neg cf,if_neg cf] at e;exact aep (by omega) (by omega) e
 have Jm:∀ (i:Nat) (x:Str),xs[i]? = some x->i < m/\x.cps.toList=g i:=fun i x aj=>by
  have ah:i < m:=by rw [<- h9];exact (cv.mp aj).1
  have e:=congrArg (fun l=>l[i]?) tb
  try dsimp only at e
  rw [cN,aj,cN,D5 ah] at e;exact ⟨ah,ei e⟩
 have N:Ho m xs:=by
  refine ⟨h9,acb.mpr fun i j ah aJ oR e=>?_,fun x aj=>?_⟩
  .obtain ⟨a1,a2⟩:=Jm i _ (aZ ah);obtain ⟨dR,d_⟩:=Jm j _ (aZ aJ);rw [e,d_] at a2;have:=YH i j a1 dR a2.symm;omega
  .obtain ⟨i,ah⟩:=iN aj;obtain ⟨a1,a2⟩:=Jm i _ ah;have:=aeT i a1;exact Z9 a2 this.1.1 this.1.2 this.2
 subst aY;nofun;exact q dQ xs iS (s2.trans iH) xg (s2.free ho) Lp N
noncomputable abbrev h_ (d:a3):List V:=[.str (dM d.k),.str d.name,.int d.start,.int d.fin,.int d.off,.int d.near,.int d.least]
def ht (H:aw) (wl:Addr) (ds:List a3):Prop:=∃ qs:List Addr,H wl=some (.lst (qs.map V.ref))/\qs.length=ds.length/\∀ (i:Nat) (q:Addr) (d:a3),qs[i]? = some q->ds[i]? = some d->H q=some (.tup (h_ d))
theorem ht.same (h:ht H wl ds) (s:aN H I):ht I wl ds:=by
 obtain ⟨qs,ax,aK,al⟩:=h;exact ⟨qs,s _ _ ax,aK,fun i q d af ao=>s _ _ (al i q d af ao)⟩
theorem ht.snoc {H:aw} {wl p:Addr} {ds:List a3} {d:a3} {qs:List Addr} (bY:H wl=some (.lst (qs.map V.ref))) (cL:qs.length=ds.length)
  (al:∀ (i:Nat) (q:Addr) (d:a3),qs[i]? = some q->ds[i]? = some d->H q=some (.tup (h_ d))) (ar:H p=none) :
  ht (upd (upd H p (.tup (h_ d))) wl (.lst (qs.map V.ref ++ [.ref p]))) wl (ds ++ [d]):=by
 have hW:p ≠ wl:=(Db bY ar).symm;refine ⟨qs ++ [p],by rw [db,e5];rfl,by rw [dZ,dZ,cL];rfl,fun i q e af ao=>?_⟩;rcases mq af with ⟨fV,fj⟩ | ⟨fV,rfl⟩
 .rcases mq ao with ⟨n2,kD⟩ | ⟨n2,_⟩
  .have:=al i q e fj kD;rw [aG (bK this bY (by intro z;cases z)),aG (Db this ar)];exact this
  .omega
 .rcases mq ao with ⟨n2,kD⟩ | ⟨n2,rfl⟩
  .omega
  .rw [aG hW,db]
theorem afM {n s j:Int} (h0:0 <= s) (af:s < n) (ao:0 <= j) (bj:j < n - 1):s ≠ (s + 1 + j) % n:=by
 by_cases c:s + 1 + j < n
 .rw [xN (by omega) c];omega
 .rw [show s + 1 + j=(s + 1 + j - n) + n * 1 by omega,Int.add_mul_emod_self_left,xN (by omega) (by omega)];omega
structure r_ (n:Int) (ds:List a3):Prop where
 al:∀ d ∈ ds,pL n d/\True
 aH:(ds.map (·.name)).Nodup
theorem r_.Ui (h:r_ n ds) (aQ:2 <= n/\n <= 99) (aM:1 <= ds.length/\ds.length <= 12):sR n ds:=⟨aQ,aM,fun d hd=>(h.al d hd).1,h.aH⟩
def VP (K:bk) (a:Addr) (ns:List Int):bW:=fun vs H Q _=>∃ most:Int,vs=[.ref a,.int most]/\(1 <= most/\most <= 8)/\Sc K a ns H /\
 ∀ gy wl n ds I,aN H I->Sc K a ns I->I gy=some (.tup [.int n,.ref wl])->ht I wl ds->r_ n ds->(∀ d ∈ ds,d.least <= 4)->(4 <= n/\n <= 99)->(1 <= ds.length/\(ds.length:Int) <= most)->Q (.ref gy) I
theorem AT (h0:0 <= i) (af:i < 4):∃ k:Nat,k < 3/\eb [V.str (ab "car"),V.str (ab "car"),V.str (ab "foot"),V.str (ab "tram")] i=some (.str (dM k)):=by
 have:i=0\/i=1\/i=2\/i=3:=by omega
 rcases this with rfl | rfl | rfl | rfl
 .exact ⟨0,by decide,bt (j:=0) rfl⟩
 .exact ⟨0,by decide,bt (j:=1) rfl⟩
 .exact ⟨1,by decide,bt (j:=2) rfl⟩
 .exact ⟨2,by decide,bt (j:=3) rfl⟩
theorem at2 (x y:V) (c:Bool):eb [x,y] (if c=true then 1 else 0)=some (if c=true then y else x):=by
 cases c with
 | true=>exact bt (j:=1) rfl
 | false=>exact bt (j:=0) rfl
theorem aeW (a:Addr) (ns:List Int) (hS:ns.length <= 63):cA P base T 3 t.y0 t.lm Bu (VP K a ns):=by
 refine cH (Iq T a ns hS) fun fJ=>cH (amK T a ns hS) fun Wu=>?_;exists T.IW.ok m3,9
 obtain ⟨most,rfl,apJ,S,q⟩:=h;refine ⟨_,(aS (cF (i:=2) m3.aH (bh bO (gL (ak (bI d2 aD (cc fJ aq T.gp T.fF.bG T.gu (ak (aa 0) (ak aD (ak aD aF))))) (ak aD aF))) (j4 sn rfl T.tQ uA (ak (hb eE (cc fJ aq T.gp T.fF.bG T.gu (ak (aa 0) (ak aD (ak aD aF)))) aD (cu _)) aF))))
   (aS (cF (i:=3) m3.aH (cc Wu aq T.W9 T.D0.bG T.XH (ak (aa 0) (ak (bI d2 aD (cc fJ aq T.gp T.fF.bG T.gu (ak (aa 0) (ak aD (ak (aa 1) aF))))) aF))))
   (aS (cF (i:=4) m3.aH (gL aF))
   (aS (ft fq rfl (lL rfl T.kz (ak (eT gj rfl T.fP fZ (ak (aa 3) aF)) aF)) (b9 (i:=5) m3.aH) (aS (cF (i:=6) m3.aH (cc fJ aq T.gp T.fF.bG T.gu (ak (aa 0) (ak (bI d2 aD (bI jZ aD (aa 5))) (ak (aa 2) aF)))))
   (aS (cF (i:=7) m3.aH (bI jS (bI d2 (bI d2 (aa 6) aD) (cc fJ aq T.gp T.fF.bG T.gu (ak (aa 0) (ak (bI d2 aD (bI jZ aD (aa 5))) (ak (bI lS (aa 2) aD) aF))))) (aa 2)))
   (aS (cF (i:=8) m3.aH (bh bO (gL (ak cZ (ak cZ (ak cZ (ak cZ aF))))) (cc fJ aq T.gp T.fF.bG T.gu (ak (aa 0) (ak (bI d2 aD (bI jZ aD (aa 5))) (ak aD aF))))))
   (aS (cF (i:=9) m3.aH (bh bO (gL (ak (cc fJ aq T.gp T.fF.bG T.gu (ak (aa 0) (ak (bI d2 aD (bI jZ aD (aa 5))) (ak aD aF)))) (ak aD aF))) (j4 sn rfl T.tQ uA (ak (hb eE (cc fJ aq T.gp T.fF.bG T.gu (ak (aa 0) (ak (bI d2 aD (bI jZ aD (aa 5))) (ak aD aF)))) aD (cu _)) aF))))
   (aS (cF (i:=10) m3.aH (cc fJ aq T.gp T.fF.bG T.gu (ak (aa 0) (ak (bI d2 aD (bI jZ aD (aa 5))) (ak aD aF)))))
   (aS (dP (g5.pt (ou (cY eE (cc fJ aq T.gp T.fF.bG T.gu (ak (aa 0) (ak aD (ak aD aF)))) aD (cu _)) (oi (cY oZ (cc fJ aq T.gp T.fF.bG T.gu (ak (aa 0) (ak (bI d2 aD (aa 5)) (ak aD aF)))) aD (cu _))))) (aS (cF (i:=8) m3.aH cZ)
   (a5 (cF (i:=9) m3.aH aD))) ek)
   (a5 (ee (gk ip kr lx ks (aa 4) (ak (rY (ak (aa 8) (ak (bh bO (aa 3) (aa 5)) (ak (aa 6) (ak (aa 7) (ak (aa 9) (ak (aa 10) (ak (bI d2 aD (cc fJ aq T.gp T.fF.bG T.gu (ak (aa 0) (ak (bI d2 aD (bI jZ aD (aa 5))) (ak aD aF))))) aF)))))))) aF)))))))))))
   (a5 (cy (rY (ak (aa 2) (ak (aa 4) aF))))))))),?_⟩
 exists (fun az I=>aN H I/\Sc K a ns I/\∃ n:Int,(4 <= n/\n <= 99)/\az=[~~~a,some (.int most),some (.int n),none,none,none,none,none,none,none,none]),3
 .have eB:=h1 ns 2 (m:=13) (by decide);have fA:=ce ns 2 (m:=13) (by decide);(nofun; repeat (dsimp only [re];nofun));obtain ⟨n,aQ,qP⟩:∃ n:Int,(4 <= n/\n <= 99)/\(if decide (dA ns 3 6=0)=true then V.int 99 else V.int (4 + dA ns 2 13))=V.int n:=by
   split
   .exact ⟨99,by decide,rfl⟩
   .exact ⟨_,by omega,rfl⟩
  refine ⟨S,by decide,by decide,by decide,by decide,fun p ar=>⟨S.new ar,by decide,by decide,by decide,_,av.of db,_,at2 _ _ _,?_⟩⟩;rw [qP];exact bL _ _ ⟨bq ar,S.new ar,n,aQ,rfl⟩
 rintro ank b5 ⟨s0,Dz,n,aQ,rfl⟩;obtain ⟨m,ald,hm⟩:∃ m:Nat,1 + dA ns 1 most=(m:Nat)/\(1 <= m/\m <= 8/\(m:Int) <= most):=by
  have eB:=h1 ns 1 (m:=most) (by omega);have fA:=ce ns 1 (m:=most) (by omega);exact ⟨(1 + dA ns 1 most).toNat,by omega,by omega⟩
 subst aY;exists (fun az I=>aN b5 I/\Sc K a ns I/\∃ nl xs,I nl=some (.lst (aW xs))/\Ho m xs/\az=[~~~a,some (.int most),some (.int n),~~~nl,none,none,none,none,none,none,none]),3
 .nofun;refine ⟨_,_,rfl,Dz,by decide,by omega,_,rfl,?_⟩;rw [ald];exact ⟨m,rfl,Dz,by omega,fun p xs I s1 n1 _ e N=>bL _ _ ⟨s1,n1,p,xs,e,N,rfl⟩⟩
 rintro fK H1 ⟨s1,n1,nl,xs,qP,N,rfl⟩;subst aY;exists (fun az I=>Sc K a ns I/\aN H1 I/\∃ wl,H1 wl=none/\I wl=some (.lst [])/\az=[~~~a,some (.int most),some (.int n),~~~nl,~~~wl,none,none,none,none,none,none]),3
 .nofun;exact ⟨gv _,fun wl gn=>bL _ _ ⟨n1.new gn,bq gn,wl,gn,db,rfl⟩⟩
 rintro fS bw ⟨lI,s3,wl,gn,fQ,rfl⟩;have U3:(aW xs).length=m:=by unfold aW;rw [aP,N.1]
 subst aY;nofun;refine ⟨_,.inl (av.of (s3 _ _ qP)),by omega,by rw [U3];omega,?_⟩;rw [show (((aW xs).length:Nat):Int).toNat=m by rw [U3];rfl];refine dY.range (fun i σ I=>Sc K a ns I/\aN H1 I/\(∃ ds,ht I wl ds/\ds.length=i/\(∀ d ∈ ds,pL n d/\d.least <= 4)/\∀ (j:Nat) (d:a3),ds[j]? = some d->xs[j]? = some d.name)/\∃ eX c7 dt dh lN i6,σ=[~~~a,some (.int most),some (.int n),~~~nl,~~~wl,eX,c7,dt,dh,lN,i6]) ⟨lI,s3,⟨[],⟨[],fQ,rfl,fun i q d h=>by simp at h⟩,rfl,fun d h=>by simp at h,fun j d h=>by simp at h⟩,_,_,_,_,_,_,rfl⟩ ?_ ?_
 .rintro i σ I ah bf;ac_rfl
  obtain ⟨jL,s4,⟨ds,x_,gg,bl,k1⟩,eX,c7,dt,dh,lN,i6,rfl⟩:=bf;have rx:i < m:=ah;have BX:xs[i]? = some (xs[i]'(by rw [N.1];exact rx)):=aZ _;subst aY;generalize xs[i]'(by rw [N.1];exact rx)=nm at BX;have aho:=s4 _ _ qP;have Xe:eb (aW xs) ((i:Nat):Int)=some (.str nm):=bt (by unfold aW;rw [cN,BX];rfl);simp only [hN,dx,nk,nu,sx];exists (fun az jj=>jj=I/\∃ st:Int,(0 <= st/\st < n)/\az=[~~~a,some (.int most),some (.int n),~~~nl,~~~wl,some (.int (i:Nat)),some (.int st),dt,dh,lN,i6]),0
  .have eB:=h1 ns (10 + 7 * (i:Int)) (m:=n) (by omega);have fA:=ce ns (10 + 7 * (i:Int)) (m:=n) (by omega);(nofun; repeat (dsimp only [re];nofun));exact ⟨.inl ⟨by decide,by decide⟩,jL,by omega,by omega,by omega,bL _ _ ⟨rfl,_,⟨eB,fA⟩,rfl⟩⟩
  rintro Z4 fm ⟨rfl,st,h8,rfl⟩;subst aY;simp only [dx];exists (fun az jj=>jj=fm/\∃ fO:Int,(0 <= fO/\fO < n)/\st ≠ fO/\az=[~~~a,some (.int most),some (.int n),~~~nl,~~~wl,some (.int (i:Nat)),some (.int st),some (.int fO),dh,lN,i6]),0
  .have eB:=h1 ns (11 + 7 * (i:Int)) (m:=n - 1) (by omega);have fA:=ce ns (11 + 7 * (i:Int)) (m:=n - 1) (by omega);have m0:=zM (st + 1 + dA ns (11 + 7 * (i:Int)) (n - 1)) (show n ≠ 0 by omega);have ju:=AU (st + 1 + dA ns (11 + 7 * (i:Int)) (n - 1)) (show 0 < n by omega);(nofun; repeat (dsimp only [re];nofun));exact ⟨.inl ⟨by decide,by decide⟩,jL,by omega,by omega,by omega,by omega,bL _ _ ⟨rfl,_,⟨m0,ju⟩,afM h8.1 h8.2 eB (by omega),rfl⟩⟩
  rintro anl k7 ⟨rfl,fO,Kk,ct,rfl⟩;subst aY;simp only [dx];exists (fun az jj=>aN k7 jj/\Sc K a ns jj/\∃ k:Nat,k < 3/\az=[~~~a,some (.int most),some (.int n),~~~nl,~~~wl,some (.int (i:Nat)),some (.int st),some (.int fO),some (.str (dM k)),lN,i6]),0
  .have eB:=h1 ns (12 + 7 * (i:Int)) (m:=4) (by decide);have fA:=ce ns (12 + 7 * (i:Int)) (m:=4) (by decide);obtain ⟨k,au,rF⟩:=AT eB fA;(nofun; repeat (dsimp only [re];nofun));exact ⟨by decide,fun p ar=>⟨.inl ⟨by decide,by decide⟩,jL.new ar,by omega,by omega,by decide,_,av.of db,_,rF,bL _ _ ⟨bq ar,jL.new ar,k,au,rfl⟩⟩⟩
  rintro aoJ Gb ⟨kq,SC,ha,ic,rfl⟩;subst aY;simp only [dx];exists (fun az jj=>aN Gb jj/\Sc K a ns jj/\∃ sb:Int,(0 <= sb/\sb <= 30)/\az=[~~~a,some (.int most),some (.int n),~~~nl,~~~wl,some (.int (i:Nat)),some (.int st),some (.int fO),some (.str (dM ha)),some (.int sb),i6]),0
  .have eB:=h1 ns (13 + 7 * (i:Int)) (m:=9) (by decide);have fA:=ce ns (13 + 7 * (i:Int)) (m:=9) (by decide);(nofun; repeat (dsimp only [re];nofun));obtain ⟨v,aI,qP⟩:∃ v:Int,(0 <= v/\v <= 30)/\(if decide (dA ns (14 + 7 * (i:Int)) 12=0)=true then V.int 30 else V.int (dA ns (13 + 7 * (i:Int)) 9))=V.int v:=by
    split
    .exact ⟨30,by decide,rfl⟩
    .exact ⟨_,by omega,rfl⟩
   refine ⟨.inl ⟨by decide,by decide⟩,SC,by omega,by omega,by decide,by decide,fun p ar=>⟨.inl ⟨by decide,by decide⟩,SC.new ar,by omega,by omega,by decide,_,av.of db,_,at2 _ _ _,?_⟩⟩;rw [qP];exact bL _ _ ⟨bq ar,SC.new ar,v,aI,rfl⟩
  rintro aoT Sy ⟨sy,x6,Mc,aeu,rfl⟩;subst aY;simp only [dx];exists (fun az jj=>jj=Sy/\∃ GV:Int,(0 <= GV/\GV <= 5)/\az=[~~~a,some (.int most),some (.int n),~~~nl,~~~wl,some (.int (i:Nat)),some (.int st),some (.int fO),some (.str (dM ha)),some (.int Mc),some (.int GV)]),0
  .have eB:=h1 ns (15 + 7 * (i:Int)) (m:=6) (by decide);have fA:=ce ns (15 + 7 * (i:Int)) (m:=6) (by decide);(nofun; repeat (dsimp only [re];nofun));exact ⟨.inl ⟨by decide,by decide⟩,x6,by omega,by omega,by decide,bL _ _ ⟨rfl,_,by omega,rfl⟩⟩
  rintro amT Zx ⟨rfl,ne1,amr,rfl⟩;subst aY;simp only [dx];exists (fun az jj=>jj=Zx/\∃ (k:Nat) (sb:Int),k < 3/\(0 <= sb/\sb <= 30)/\az=[~~~a,some (.int most),some (.int n),~~~nl,~~~wl,some (.int (i:Nat)),some (.int st),some (.int fO),some (.str (dM k)),some (.int sb),some (.int ne1)]),0
  .refine dO (decide (dA ns 9 6=0) && decide (0 < dA ns (60 + (i:Int)) 4)) (fun Q a0=>?_) (fun _=>?_) (fun _=>?_)
   ·(nofun; repeat (dsimp only [re];nofun));refine ⟨x6,by omega,by omega,by decide,?_⟩;by_cases cz:dA ns 9 6=0
    .rw [if_pos (decide_eq_true cz)];rw [decide_eq_true cz,ky] at a0;exact ⟨x6,by omega,by omega,by decide,a0⟩
    .rw [if_neg (by simpa using cz)];rw [decide_eq_false cz,m'] at a0;exact a0
   .nofun;exact bL _ _ ⟨rfl,1,0,by decide,by decide,rfl⟩
   .nofun;exact bL _ _ ⟨rfl,ha,Mc,ic,aeu,rfl⟩
  rintro apd aop ⟨rfl,k,of2,au,al8,rfl⟩;have hl:=kq.trans sy;have ae_:=hl _ _ aho;have akF:=x_.same hl;have eB:=h1 ns (16 + 7 * (i:Int)) (m:=4) (by decide);have fA:=ce ns (16 + 7 * (i:Int)) (m:=4) (by decide);obtain ⟨uf,ahH,hle⟩:∃ uf:Int,1 + dA ns (16 + 7 * (i:Int)) 4=uf/\1 <= uf/\uf <= 4:=⟨_,rfl,by omega,by omega⟩;obtain ⟨qs,bY,cL,al⟩:=akF;subst aY;(nofun; repeat (dsimp only [re];nofun));rw [ahH];refine ⟨.inl ⟨_,av.of bY⟩,_,av.of ae_,_,Xe,.inl ⟨by decide,by decide⟩,x6,by omega,by omega,by decide,by decide,fun p ar=>?_⟩;have ej:wl ≠ p:=Db bY ar;have abR:=ht.snoc (d:=⟨k,nm,st,fO,of2,ne1,uf⟩) bY cL al ar;refine ⟨_,by rw [aG ej];exact bY,hg (show (qs.map V.ref).length <= 8 by rw [aP];omega) (by decide),(x6.new ar).set (by rw [aG ej];exact bY) (fun _ _ z=>by cases z),((s4.trans hl).trans (bq ar)).ff gn,⟨ds ++ [⟨k,nm,st,fO,of2,ne1,uf⟩],abR,by rw [dZ,gg];rfl,fun d hd=>?_,fun j d hd=>?_⟩,?_⟩
  .rcases gE.mp hd with hd | hd
   .exact bl d hd
   .rw [gq.mp hd];exact ⟨⟨au,N.2.2 nm (cm BX),⟨h8.1,h8.2⟩,⟨Kk.1,Kk.2⟩,ct,al8,⟨amr.1,by dsimp only;omega⟩,⟨hle.1,by dsimp only;omega⟩⟩,hle.2⟩
  .rcases mq hd with ⟨_,z⟩ | ⟨z,rfl⟩
   .exact k1 j d z
   .rw [z,gg];exact BX
  .repeat (first | exact ⟨_,rfl⟩ | refine ⟨⟨_,rfl⟩,?_⟩)
 .rintro σ I bf;ac_rfl
  obtain ⟨jL,s4,⟨ds,x_,gg,bl,k1⟩,eX,c7,dt,dh,lN,i6,rfl⟩:=bf;subst aY;nofun;refine ⟨by decide,fun gy n8=>?_⟩;refine q gy wl n ds _ (((s0.trans s1).trans s4).trans (bq n8)) (jL.new n8) db (x_.same (bq n8)) ⟨fun d hd=>⟨(bl d hd).1,trivial⟩,?_⟩ (fun d hd=>(bl d hd).2) aQ (by omega);have e:ds.map (·.name)=xs:=by
   refine G6 fun j=>?_
   rw [cN];cases h:ds[j]? with
   | some d=>exact (k1 j d h).symm
   | none=>
    have:ds.length <= j:=Kq.mp h;exact (Kq.mpr (by rw [N.1];omega)).symm
  rw [e];exact N.2.1
theorem afN (d:a3):((((dM d.k ++ ab " ") ++ d.name) ++ ab " ") ++ p2 (ab " ") [num d.start,num d.fin,num d.off,num d.near,num d.least])=eh cM (n5 d):=by
 apply z3;have fR:(ab " ").cps.toList=[32]:=by ac_nf
 rw [show p2 (ab " ") [num d.start,num d.fin,num d.off,num d.near,num d.least]=eh cM [num d.start,num d.fin,num d.off,num d.near,num d.least] from vW _ _];rw [o2,oQ,A5,qL,qL];unfold n5;simp only [o2,oQ,e1,qu,l2,fR,oC,A8,C8]
theorem aky (n:Int):ab "ring " ++ num n=eh cM [ab "ring",num n]:=by
 apply z3;have ax:(ab "ring ").cps.toList=[114,105,110,103,32]:=by ac_nf
 have aK:(ab "ring").cps.toList=[114,105,110,103]:=by ac_nf
 rw [A5,qL];simp only [o2,oQ,e1,qu,l2,ax,aK,A8,C8]
theorem AI:∀ {ys:List Str},(∀ y ∈ ys,y.length <= B)->(ys.map (·.length)).sum <= ys.length * B
 | [],_=>by simp
 | a :: r,h=>by
  have af:=h a (by simp);have ao:=AI (B:=B) (ys:=r) fun y a9=>h y (hR _ a9)
  rw [e1,Vn,gP,Gp];omega
theorem adH (h:sR n ds):∀ y ∈ (Fk n ds).map (eh cM),y.length <= 63:=fun y a9=>by
 obtain ⟨r,aq,rfl⟩:=bJ.mp a9;have:=qc cM 8 r fun x aj=>(h.plain r aq x aj).1
 rw [q8] at this;have aM:r.length <= 7:=by
  rcases fx.mp aq with rfl | aq
  .simp
  .obtain ⟨d,hd,rfl⟩:=bJ.mp aq;simp [n5]
 omega
def VF (K:bk):bW:=fun vs H Q _=>∃ n wl ds,vs=[.int n,.ref wl]/\ht H wl ds/\r_ n ds/\(2 <= n/\n <= 99)/\(1 <= ds.length/\ds.length <= 12)/\aL H/\Q (.str (qe n ds)) H
def YQ (K:bk):bW:=fun vs H Q _=>∃ n wl ds,vs=[.int n,.ref wl]/\ht H wl ds/\r_ n ds/\(2 <= n/\n <= 99)/\(1 <= ds.length/\ds.length <= 12)/\∀ I,aN H I->Q (.str (qe n ds)) I
theorem XB:cA P base T 1 t.Cv t.zf CH (VF K):=by
 refine cK.forget (sp:=YQ K) ?_ fun vs H Q E h=>?_
 .exists T.IJ.ok DV,9
  obtain ⟨n,wl,ds,rfl,L,D,aQ,aM,q⟩:=h;refine ⟨_,(aS (cF (i:=2) DV.aH (gL (ak (bI mD cZ (j4 Ch rfl T.vF xA (ak (aa 0) aF))) aF)))
   (aS (ft fq rfl (d6 (aa 1)) (b9 (i:=3) DV.aH) (a5 (ee (gk ip kr lx ks (aa 2) (ak (bI mD (bI mD (bI mD (bI mD (bh ed (aa 3) aD) cZ) (bh ed (aa 3) aD)) cZ) (gk vn zA Ag vE cZ (ak (fT rfl (ajj (am WS (aa 3) (sN aD) r')) (ac (sc:=bB LJ) rfl (by ac_nf)) (N:=["_law_number"]) (sel:=[none]) (fw (M:=["_law_places","_law_ways_here","_law_rows","_law_way"]) (by ac_nf)) (eO.of (fun _ _ _ _=>(b9 (i:=0) (d1 (N:=["_law_number"]) (by ac_nf) rfl))) (fun _ _ _ _=>⟨_,hO,by walk_at "B"⟩) (fun _ _ _ _=>⟨_,(j4 Ch rfl T.vF xA (ak (aa 0) aF)),by walk_at "B"⟩))) aF))) aF)))))
   (a5 (cy (gk vn zA Ag vE cZ (ak (aa 2) aF)))))),?_⟩
  have dy:=D.Ui aQ aM;obtain ⟨qs,bY,cL,al⟩:=L;have hlen:∀ x:Str,pZ x->x.length <= 8:=fun x h=>h.1
  have oD:∀ k:Nat,k <= 1000->k <= sizeLine:=fun k h=>cP h (by decide)
  have ajn:(ab "ring ").length=5:=by ac_nf
  have t7:(ab " ").length=1:=by ac_nf
  nofun;have aoz:(ab (toString n)).length <= 8:=(lZ (v:=n) (by omega) (by omega)).1;refine ⟨Fi (by omega),oD _ (by rw [ajn];omega),by decide,fun dQ CI=>?_⟩;rw [aky];have s0:aN H (upd H dQ (.lst [V.str (eh cM [ab "ring",num n])])):=bq CI;refine ⟨⟨_,av.of (s0 _ _ bY)⟩,?_⟩;refine dY.list (xs:=qs.map V.ref) (fun i σ I=>aN H I/\I dQ=some (.lst (aW ((Fk n (ds.take i)).map (eh cM))))/\∃ x,σ=[some (.int n),~~~wl,~~~dQ,x]) ?_ ?_ ?_ ?_
  .exact ⟨s0,db,none,rfl⟩
  .rintro i σ I ah ⟨bA,_,_⟩;exact av.of (bA _ _ bY)
  .rintro i v σ I aI bf;ac_rfl
   obtain ⟨bA,aq,x,rfl⟩:=bf;obtain ⟨eI,aU,rfl⟩:=bZ aI;have lu:i < ds.length:=by rw [<- cL];exact (cv.mp aU).1
   have hd:ds[i]? = some ds[i]:=aZ lu;have hk:cJ K I eI (h_ ds[i]):=cJ.of (bA _ _ (al i eI _ aU hd));have hw:=(D.al _ (cm hd)).1;have dR:=hw.st;have d_:=hw.fO;have hj:=hw.of;have p':=hw.IQ;have j3:=hw.le;have fV:=hlen _ (UJ ds[i].k);have fj:=hlen _ (E0 hw.nm);have Q4:(num ds[i].start).length <= 8:=hlen _ (lZ (v:=ds[i].start) (by omega) (by omega));have ane:(num ds[i].fin).length <= 8:=hlen _ (lZ (v:=ds[i].fin) (by omega) (by omega));have anF:(num ds[i].off).length <= 8:=hlen _ (lZ (v:=ds[i].off) (by omega) (by omega));have aox:(num ds[i].least).length <= 8:=hlen _ (lZ (v:=ds[i].least) (by omega) (by omega));have aoN:(num ds[i].near).length <= 8:=hlen _ (lZ (v:=ds[i].near) (by omega) (by omega));subst aY;nofun;refine ⟨.inl ⟨_,av.of aq⟩,?_⟩;have Zd:eb (h_ ds[i]) 0=some (.str (dM ds[i].k)):=bt (j:=0) rfl;have acX:eb (h_ ds[i]) 1=some (.str ds[i].name):=bt (j:=1) rfl;refine ⟨_,hk,_,Zd,_,rfl,oD _ (by omega),_,hk,_,acX,_,rfl,oD _ (by rw [pg];omega),oD _ (by simp only [pg];omega),?_⟩;have Fg:nC (h_ ds[i]) (some 2) none=[.int ds[i].start,.int ds[i].fin,.int ds[i].off,.int ds[i].near,.int ds[i].least]:=rfl;refine ⟨_,hk,?_,fun p ar=>⟨⟨_,cJ.of db⟩,?_⟩⟩
   .show ¬ (gD.di 7 0 (some 2)=0/\gD.di 7 7 none=7);decide
   rw [Fg];have am2:(p2 (ab " ") [num ds[i].start,num ds[i].fin,num ds[i].off,num ds[i].near,num ds[i].least]).length <= 50:=by
    rw [show p2 (ab " ") [num ds[i].start,num ds[i].fin,num ds[i].off,num ds[i].near,num ds[i].least]=eh cM [num ds[i].start,num ds[i].fin,num ds[i].off,num ds[i].near,num ds[i].least] from vW _ _];have:=qc cM 8 [num ds[i].start,num ds[i].fin,num ds[i].off,num ds[i].near,num ds[i].least] (fun y a9=>by
     simp only [fx,td,or_false] at a9;rcases a9 with rfl | rfl | rfl | rfl | rfl <;> assumption)
    rw [q8] at this;simp only [gP,yz] at this;omega
   refine Gc.ZE (xs:=[.int ds[i].start,.int ds[i].fin,.int ds[i].off,.int ds[i].near,.int ds[i].least]) (zs:=aW [num ds[i].start,num ds[i].fin,num ds[i].off,num ds[i].near,num ds[i].least]) (cJ.of db) (oD _ (show 5 <= 1000 by decide)) rfl (fun j v z N aI aO bb=>?_) (fun es fU=>?_)
   .have key:∃ a:Int,v=.int a/\z=.str (num a)/\0 <= a/\a < 100:=by
     match j,aI,aO with
     | 0,aI,aO=>cases aI;cases aO;exact ⟨_,rfl,rfl,dR.1,by omega⟩
     | 1,aI,aO=>cases aI;cases aO;exact ⟨_,rfl,rfl,d_.1,by omega⟩
     | 2,aI,aO=>cases aI;cases aO;exact ⟨_,rfl,rfl,hj.1,by omega⟩
     | 3,aI,aO=>cases aI;cases aO;exact ⟨_,rfl,rfl,p'.1,by omega⟩
     | 4,aI,aO=>cases aI;cases aO;exact ⟨_,rfl,rfl,by omega,by omega⟩
     | k + 5,aI,aO=>simp at aI
    obtain ⟨a,rfl,rfl,aoQ,an5⟩:=key;nofun;exact ⟨Sub.name,Fi (by omega),bb⟩
   .nofun;have YB:dQ ≠ es:=by
     rintro rfl;rw [aG (Db aq ar)] at fU;rw [fU] at aq;cases aq
    have ho:(upd (upd I p (.tup [.int ds[i].start,.int ds[i].fin,.int ds[i].off,.int ds[i].near,.int ds[i].least])) es (.lst (aW [num ds[i].start,num ds[i].fin,num ds[i].off,num ds[i].near,num ds[i].least]))) dQ=some (.lst (aW ((Fk n (ds.take i)).map (eh cM)))):=by
     rw [aG YB,aG (Db aq ar)];exact aq
    have vC:aN I (upd (upd I p (.tup [.int ds[i].start,.int ds[i].fin,.int ds[i].off,.int ds[i].near,.int ds[i].least])) es (.lst (aW [num ds[i].start,num ds[i].fin,num ds[i].off,num ds[i].near,num ds[i].least]))):=(bq ar).trans (bq fU);have PV:=av.of (K:=K) (H:=upd (upd I p (.tup [.int ds[i].start,.int ds[i].fin,.int ds[i].off,.int ds[i].near,.int ds[i].least])) es (.lst (aW [num ds[i].start,num ds[i].fin,num ds[i].off,num ds[i].near,num ds[i].least]))) (a:=es) db;generalize upd (upd I p (.tup [.int ds[i].start,.int ds[i].fin,.int ds[i].off,.int ds[i].near,.int ds[i].least])) es (.lst (aW [num ds[i].start,num ds[i].fin,num ds[i].off,num ds[i].near,num ds[i].least]))=aB at ho vC PV ⊢;refine ⟨_,PV,?_,oD _ (by simp only [pg];omega),_,ho,?_,?_,?_,_,rfl⟩
    .simp only [e1,qu,Vn,List.sum_nil,gP,yz];omega
    .rw [eY,aP];exact hg (show (Fk n (ds.take i)).length <= 13 by unfold Fk;rw [gP,aP,hE];omega) (by decide)
    .exact fun b u e=>by rw [aG (Db e CI)];exact vC _ _ (bA _ _ e)
    .rw [db,afN ds[i]];congr 2;unfold Fk aW;simp;rw [od,cN,hd];rfl
  .rintro σ I bf;ac_rfl
   obtain ⟨bA,aq,x,rfl⟩:=bf;subst aY;nofun;rw [aP,cL,gF] at aq;refine ⟨_,av.of aq,?_,?_⟩
   .have hS:∀ y ∈ (Fk n ds).map (eh cM),y.length <= 63:=adH dy;have aoO:((Fk n ds).map (eh cM)).length <= 13:=by
     unfold Fk;rw [aP,gP,aP];omega
    have:=AI hS;rw [show (ab "\n").length=1 by ac_nf];omega
   .have:=q I bA;unfold qe at this;rw [show p2 (ab "\n") ((Fk n ds).map (eh cM))=eh nl ((Fk n ds).map (eh cM)) from vW _ _];exact this
 .obtain ⟨n,wl,ds,af,ao,bj,cS,e',bE,q⟩:=h;exact ⟨bE,n,wl,ds,af,ao,bj,cS,e',fun I bA=>⟨bA,q⟩⟩
def PW (K:bk):bW:=fun vs H Q _=>∃ n a b d e,vs=[.ref a,.ref b,.int n]/\cJ K H a (h_ d)/\cJ K H b (h_ e)/\pL n d/\pL n e/\Q (.br (mt n d e)) H
noncomputable def hZ (d e:a3):Bool:=decide (d.k=2) == decide (e.k=2)
def Yv (K:bk):bW:=fun vs H Q _=>∃ wl ds,∃ i j:Nat,∃ d e,vs=[.ref wl,.int i,.int j]/\ht H wl ds/\ds[i]? = some d/\ds[j]? = some e/\d.k < 3/\e.k < 3/\Q (.br (hZ d e)) H
theorem Sf:cA P base T 1 t.Bc t.z0 AO (PW K):=by
 exists T.Tl.ok Dn,9
 obtain ⟨n,a,b,d,e,rfl,qH,tT,hd,he,q⟩:=h;refine ⟨_,(aS (dP (cY eE (bh ed (aa 0) aD) (bh ed (aa 1) aD) (cu _)) (a5 (cy kj)) ek)
   (aS (dP (g5.pt (qg (cY eE (bh ed (aa 0) aD) (bh ed (aa 1) aD) (cu _)) (qg (cY eE (bh ed (aa 0) aD) (bh ed (aa 1) aD) (cu _)) (q6 (cY eE (bh ed (aa 0) aD) (bh ed (aa 1) aD) (cu _)))))) (a5 (cy kj)) ek)
   (aS (cF (i:=3) Dn.aH (bI jS (bI lS (bh ed (aa 0) aD) (bh ed (aa 0) aD)) (aa 2)))
   (aS (cF (i:=4) Dn.aH (bI jS (bI lS (bh ed (aa 1) aD) (bh ed (aa 0) aD)) (aa 2)))
   (aS (cF (i:=5) Dn.aH (bI jS (bI lS (bh ed (aa 1) aD) (bh ed (aa 0) aD)) (aa 2)))
   (a5 (cy (hb pP (hb lp (aa 4) (aa 3) (cu _)) (hb lp (aa 5) (aa 3) (cu _)) (cu _))))))))),?_⟩
 have a2:eb (h_ d) 2=some (.int d.start):=bt (j:=2) rfl;have eC:eb (h_ d) 3=some (.int d.fin):=bt (j:=3) rfl;have d_:eb (h_ e) 2=some (.int e.start):=bt (j:=2) rfl;have hj:eb (h_ e) 3=some (.int e.fin):=bt (j:=3) rfl;have f1:=hd.st;have f2:=hd.fO;have eo:=he.st;have f4:=he.fO;refine dO (decide (d.fin=e.fin)) (fun Q a0=>?_) (fun c=>?_) (fun c=>?_)
 .nofun;refine ⟨_,qH,_,eC,_,tT,_,hj,rfl,?_⟩;nofun;exact a0
 .nofun;unfold mt sX at q;rw [c,pY] at q;exact q
 .have c':=of_decide_eq_false c;nofun;refine dO (decide (d.start=e.start) || (decide (d.start=e.fin) || decide (d.fin=e.start))) (fun Q a0=>?_) (fun ae=>?_) (fun ae=>?_)
  .nofun;refine ⟨_,qH,_,a2,_,tT,_,d_,rfl,?_⟩;by_cases cf:d.start=e.start
   .rw [if_pos (by simp [cf])];rw [decide_eq_true cf,pY] at a0;exact a0
   .rw [if_neg (by simpa using cf)];refine ⟨_,qH,_,a2,_,tT,_,hj,rfl,?_⟩;by_cases c1:d.start=e.fin
    .rw [if_pos (by simp [c1])];rw [decide_eq_false cf,decide_eq_true c1,lr,pY] at a0;exact a0
    .rw [if_neg (by simpa using c1)];refine ⟨_,qH,_,eC,_,tT,_,d_,rfl,?_⟩;rw [decide_eq_false cf,decide_eq_false c1,lr,lr] at a0;rw [show decide (V.int d.fin=V.int e.start)=decide (d.fin=e.start) from decide_eq_decide.mpr (by simp)];exact a0
  .nofun;unfold mt sX at q;rw [c,lr,if_pos (by
    rw [wI,wI,decide_eq_true_eq,decide_eq_true_eq,decide_eq_true_eq] at ae
    omega)] at q
   exact q
  .rw [BL,BL,decide_eq_false_iff_not,decide_eq_false_iff_not,decide_eq_false_iff_not] at ae;have pR:0 < n:=by omega
   have fk:0 < (e.start - d.start) % n:=by rw [AD f1.1 f1.2 eo.1 eo.2];split <;> omega
   have es:0 < (e.fin - d.start) % n:=by rw [AD f1.1 f1.2 f4.1 f4.2];split <;> omega
   unfold mt sX k5 at q;rw [c,lr,if_neg (by omega),decide_eq_true fk,decide_eq_true es,ky,ky] at q;nofun;refine ⟨_,qH,_,eC,_,qH,_,a2,_,rfl,_,rfl,pR,_,tT,_,d_,_,qH,_,a2,_,rfl,_,rfl,pR,_,tT,_,hj,_,qH,_,a2,_,rfl,_,rfl,pR,?_⟩;generalize decide ((e.start - d.start) % n < (d.fin - d.start) % n)=X at q ⊢;generalize decide ((e.fin - d.start) % n < (d.fin - d.start) % n)=Y at q ⊢;cases X <;> cases Y <;> exact q
theorem aiu:cA P base T 1 t.LL t.J8 Jf (Yv K):=by
 exists T.E3.ok R0,9
 obtain ⟨wl,ds,i,j,d,e,rfl,⟨qs,bY,cL,al⟩,ah,aJ,au,e2,q⟩:=h;have f':qs[i]? = some (qs[i]'(by rw [cL];exact (cv.mp ah).1)):=aZ _;have e_:qs[j]? = some (qs[j]'(by rw [cL];exact (cv.mp aJ).1)):=aZ _;have Cr:=al i _ d f' ah;have FE:=al j _ e e_ aJ;have sW:=bt (xs:=qs.map V.ref) (j:=i) (by rw [cN,f'];rfl);have I1:=bt (xs:=qs.map V.ref) (j:=j) (by rw [cN,e_];rfl);refine ⟨_,(aS (cF (i:=3) R0.aH (hb eE (bh ed (bh bO (aa 0) (aa 1)) aD) cZ (cu _)))
   (a5 (cy (hb eE (aa 3) (hb eE (bh ed (bh bO (aa 0) (aa 2)) aD) cZ (cu _)) (cu _))))),?_⟩
 nofun;refine ⟨_,av.of bY,_,sW,_,rfl,_,cJ.of Cr,_,bt (j:=0) rfl,rfl,_,av.of bY,_,I1,_,rfl,_,cJ.of FE,_,bt (j:=0) rfl,rfl,?_⟩;have af:∀ k,k < 3->decide (V.str (dM k)=V.str (ab "tram"))=decide (k=2):=by ac_nf
 rw [af d.k au,af e.k e2];unfold hZ at q;rw [show decide (decide (d.k=2)=decide (e.k=2))=(decide (d.k=2) == decide (e.k=2)) from rfl];exact q
structure km (b5 H:aw) (gl:Addr) (qs:List Addr) (cC:List (List Nat)):Prop where
 af:H gl=some (.lst (qs.map V.ref))
 ao:qs.length=cC.length
 bj:qs.Nodup
 cS:gl ∉ qs
 e':∀ (i:Nat) (q:Addr) (g:List Nat),qs[i]? = some q->cC[i]? = some g->H q=some (.lst (g.map fun k:Nat=>V.int k))
 iJ:∀ q ∈ qs,b5 q=none
theorem km.same (h:km b5 H gl qs cC) (s:aN H I):km b5 I gl qs cC:=
 ⟨s _ _ h.af,h.ao,h.bj,h.cS,fun i q g a b=>s _ _ (h.e' i q g a b),h.iJ⟩
structure jF (n:Int) (ds:List a3) (m:Nat) (cC:List (List Nat)):Prop where
 ne:∀ g ∈ cC,g ≠ []
 pm:cC.flatten.Perm (dw m)
 CE:∀ g ∈ cC,∀ i ∈ g,∀ j ∈ g,i ≠ j->∀ d e,ds[i]? = some d->ds[j]? = some e->mt n d e=false
 al:∀ g ∈ cC,∀ i ∈ g,∀ j ∈ g,∀ d e,ds[i]? = some d->ds[j]? = some e->hZ d e=true
theorem jF.nil (n:Int) (ds:List a3):jF n ds 0 []:=⟨by simp,by simp,by simp,by simp⟩
theorem sf:hZ y z=true↔(y.k=2↔z.k=2):=by
 unfold hZ;simp
theorem acx (h:hZ y z=true):hZ z y=true:=sf.mpr (sf.mp h).symm
theorem ab3 {x y z:a3} (h:hZ x y=true) (h':hZ y z=true):hZ x z=true:=sf.mpr ((sf.mp h).trans (sf.mp h'))
theorem km.off {gl x:Addr} (h:km b5 H gl qs cC) (aj:x ≠ gl) (aU:x ∉ qs):km b5 (upd H x o) gl qs cC:=
 ⟨by rw [aG (dJ aj)];exact h.af,h.ao,h.bj,h.cS,fun i q g a b=>by rw [aG (fun z=>aU (by rw [<- z];exact cm a))];exact h.e' i q g a b,h.iJ⟩
theorem SJ (l:List α) (i:Nat) (a:α):(ins l i a).Perm (l ++ [a]):=by
 unfold ins;refine aj'.trans ?_;rw [Uc];exact (W5 (l₁:=[a]) (l₂:=l))
theorem ajW:∀ {l l':List (List α)},l.Perm l'->l.flatten.Perm l'.flatten:=fun h=>h.flatten
theorem Uj:∀ {cC:List (List Nat)} {j:Nat} {g g':List Nat} {k:Nat},cC[j]? = some g->g'.Perm (g ++ [k])->(cC.set j g').flatten.Perm (cC.flatten ++ [k])
 | [],j,g,g',k,h,_=>by simp at h
 | m1 :: cC,0,g,g',k,h,p=>by
  cases (show m1=g by simpa using h);show (g' :: cC).flatten.Perm _;rw [oy,oy,oC];refine (p.append_right _).trans ?_;rw [oC];exact ai1 m1 W5
 | m1 :: cC,j + 1,g,g',k,h,p=>by
  rw [yn] at h;show (m1 :: cC.set j g').flatten.Perm _;rw [oy,oy,oC];exact ai1 m1 (Uj h p)
theorem jF.put (S:jF n ds m cC) {j p:Nat} (bp:cC[j]? = some g) (hd:ds[m]? = some d)
  (Cm:∀ i ∈ g,∀ e,ds[i]? = some e->mt n e d=false/\mt n d e=false/\hZ e d=true):jF n ds (m + 1) (cC.set j (ins g p m)):=by
 have pk:=cm bp;refine ⟨fun x aj=>?_,?_,fun x aj i ah gx et ct e bF he h4=>?_,fun x aj i ah gx et e bF he h4=>?_⟩
 .rcases UQ aj with z | z
  .exact S.ne x z
  .rw [z];unfold ins;simp
 .rw [q5];exact (Uj bp (SJ g p m)).trans (S.pm.append_right [m])
 .rcases UQ aj with z | z
  .exact S.CE x z i ah gx et ct e bF he h4
  .rw [z] at ah et;rcases nj ah with u | u
   .subst u;rw [hd] at he;cases he;rcases nj et with v | v
    .exact absurd v.symm ct
    .exact (Cm gx v bF h4).2.1
   .rcases nj et with v | v
    .subst v;rw [hd] at h4;cases h4;exact (Cm i u e he).1
    .exact S.CE g pk i u gx v ct e bF he h4
 .rcases UQ aj with z | z
  .exact S.al x z i ah gx et e bF he h4
  .rw [z] at ah et;have self:∀ y:a3,hZ y y=true:=fun y=>by unfold hZ;simp
   have sym:∀ y z:a3,hZ y z=true->hZ z y=true:=fun y z h=>acx h
   rcases nj ah with u | u
   .subst u;rw [hd] at he;cases he;rcases nj et with v | v
    .subst v;rw [hd] at h4;cases h4;exact self _
    .exact sym _ _ (Cm gx v bF h4).2.2
   .rcases nj et with v | v
    .subst v;rw [hd] at h4;cases h4;exact (Cm i u e he).2.2
    .exact S.al g pk i u gx v e bF he h4
theorem jF.new (S:jF n ds m cC) (p:Nat):jF n ds (m + 1) (ins cC p [m]):=by
 have self:∀ y:a3,hZ y y=true:=fun y=>by unfold hZ;simp
 refine ⟨fun x aj=>?_,?_,fun x aj i ah gx et ct e bF he h4=>?_,fun x aj i ah gx et e bF he h4=>?_⟩
 .rcases nj aj with z | z
  .rw [z];simp
  .exact S.ne x z
 .rw [q5];refine (ajW (SJ cC p [m])).trans ?_;rw [ajw];simpa using S.pm.append_right [m]
 .rcases nj aj with z | z
  .rw [z] at ah et;exact absurd ((gq.mp ah).trans (gq.mp et).symm) ct
  .exact S.CE x z i ah gx et ct e bF he h4
 .rcases nj aj with z | z
  .rw [z] at ah et;rw [gq.mp ah] at he;rw [gq.mp et,he] at h4;cases h4;exact self _
  .exact S.al x z i ah gx et e bF he h4
theorem km.put (h:km b5 H gl qs cC) (aU:qs[j]? = some q) (aJ:j < cC.length) :
  km b5 (upd H q (.lst (g'.map fun k:Nat=>V.int k))) gl qs (cC.set j g'):=by
 obtain ⟨af,ao,bj,cS,e',iJ⟩:=h;have mB:gl ≠ q:=fun z=>cS (by rw [z];exact cm aU)
 refine ⟨by rw [aG mB];exact af,by rw [MO];exact ao,bj,cS,fun i r g a b=>?_,iJ⟩;by_cases c:i=j
 .subst c;rw [aU] at a;cases a;rw [VS aJ] at b;cases b;exact db
 .rw [ID (fun e=>c e.symm)] at b;have ct:r ≠ q:=fun e=>by
   subst e;obtain ⟨a1,dR⟩:=cv.mp a;obtain ⟨a2,d_⟩:=cv.mp aU;exact c ((Fx bj).mp (dR.trans d_.symm))
  rw [aG ct];exact e' i r g a b
theorem km.new {gl p:Addr} {k:Nat} (h:km b5 H gl qs cC) (h0:aN b5 H) (ar:H p=none) (au:k <= cC.length) :
  km b5 (upd (upd H p (.lst (g.map fun k:Nat=>V.int k))) gl (.lst ((ins qs k p).map V.ref))) gl (ins qs k p) (ins cC k g):=by
 have Va:gl ≠ p:=Db h.af ar;have pe:p ∉ qs:=fun z=>by
  obtain ⟨i,ah⟩:=iN z;have E8:i < cC.length:=by rw [<- h.ao];exact (cv.mp ah).1
  have e:=h.e' i p _ ah (aZ E8);rw [ar] at e;cases e
 have Us:k <= qs.length:=by rw [h.ao];exact au
 refine ⟨db,by rw [Jz Us,Jz au,h.ao],Zs h.bj pe,fun z=>?_,fun i q g' a b=>?_,fun q aU=>?_⟩
 .rcases nj z with z | z
  .exact Va z
  .exact h.cS z
 .rw [rI Us] at a;rw [rI au] at b;have keep:∀ {i:Nat} {q:Addr} {g':List Nat},qs[i]? = some q->cC[i]? = some g'->upd (upd H p (.lst (g.map fun k:Nat=>V.int k))) gl (.lst ((ins qs k p).map V.ref)) q=some (.lst (g'.map fun k:Nat=>V.int k)):=fun {i q g'} a b=>by
   have e:=h.e' i q g' a b;have mB:q ≠ gl:=fun z=>h.cS (by rw [<- z];exact cm a)
   rw [aG mB,aG (Db e ar)];exact e
  by_cases cf:i < k
  .rw [if_pos cf] at a b;exact keep a b
  .rw [if_neg cf] at a b;by_cases c1:i=k
   .rw [if_pos c1] at a b;cases a;cases b;rw [aG (dJ Va),db]
   .rw [if_neg c1] at a b;exact keep a b
 .rcases nj aU with z | z
  .rw [z];exact h0.free ar
  .exact h.iJ q z
structure dG where
 lo:Int
 ah:Int
 bz:List Nat
structure jb (H:aw) (a6:Addr) (qs ms:List Addr) (sts:List dG):Prop where
 at_:H a6=some (.lst (qs.map V.ref))
 bY:qs.length=sts.length
 cL:ms.length=sts.length
 al:∀ (i:Nat) (q m:Addr) (s:dG),qs[i]? = some q->ms[i]? = some m->sts[i]? = some s->H q=some (.tup [.int s.lo,.int s.ah,.ref m])/\H m=some (.lst (s.bz.map fun k:Nat=>V.int k))
theorem jb.same (h:jb H a6 qs ms sts) (s:aN H I):jb I a6 qs ms sts:=
 ⟨s _ _ h.at_,h.bY,h.cL,fun i q m r a b c=>⟨s _ _ (h.al i q m r a b c).1,s _ _ (h.al i q m r a b c).2⟩⟩
structure BB (n:Int) (ds:List a3) (sts:List dG):Prop where
 bc:jF n ds ds.length (sts.map (·.bz))
 le:∀ s ∈ sts,∀ i ∈ s.bz,∀ d,ds[i]? = some d->d.least <= s.lo
 bd:∀ s ∈ sts,1 <= s.lo/\s.lo <= 21/\s.lo <= s.ah/\s.ah <= 40
theorem jF.len (S:jF n ds m cC):cC.length <= m/\cC.flatten.length=m:=by
 have af:=S.pm.length_eq;rw [kH] at af;have:∀ {cC:List (List Nat)},(∀ g ∈ cC,g ≠ [])->cC.length <= cC.flatten.length:=fun {cC}=>by
  induction cC with
  | nil=>intro _;simp
  | cons g cC cE=>
   intro h;have a1:=cE fun x aj=>h x (hR _ aj)
   have a2:=VZ.mpr (h g (by simp));rw [oy,dZ,gP];omega
 have:=this S.ne;omega
theorem jF.lt (S:jF n ds m cC) (bp:g ∈ cC) (ah:i ∈ g):i < m:=g7.mp (S.pm.mem_iff.mp (Ke.mpr ⟨g,bp,ah⟩))
theorem jF.K7 (S:jF n ds m cC) (bp:g ∈ cC):g.length <= m:=by
 have af:=(ahn bp).length_le;have:=S.len.2;omega
theorem aaR (h0:0 <= i) (af:i < 6):∃ mo:Int,(1 <= mo/\mo <= 20)/\eb [V.int 4,V.int 4,V.int 4,V.int 4,V.int 4,V.int 20] i=some (.int mo):=by
 have:i=0\/i=1\/i=2\/i=3\/i=4\/i=5:=by omega
 rcases this with rfl | rfl | rfl | rfl | rfl | rfl
 .exact ⟨4,by decide,bt (j:=0) rfl⟩
 .exact ⟨4,by decide,bt (j:=1) rfl⟩
 .exact ⟨4,by decide,bt (j:=2) rfl⟩
 .exact ⟨4,by decide,bt (j:=3) rfl⟩
 .exact ⟨4,by decide,bt (j:=4) rfl⟩
 .exact ⟨20,by decide,bt (j:=5) rfl⟩
def Qp (K:bk):bW:=fun vs H Q _=>∃ (a:Addr) (ns:List Int) (n:Int) (wl:Addr) (ds:List a3),vs=[.ref a,.int n,.ref wl]/\ns.length <= 63/\av K H a (ns.map V.int)/\aL H/\ht H wl ds/\r_ n ds/\(∀ d ∈ ds,d.least <= 4)/\(1 <= ds.length/\ds.length <= 8) /\
 ∀ a6 qs ms sts I,aN H I->aL I->jb I a6 qs ms sts->BB n ds sts->Q (.ref a6) I
theorem acT:cA P base T 2 t.By t.CP C9 (Qp K):=by
 refine cH (alD T) fun fJ=>cH (Sf T) fun JP=>cH (aiu T) fun adl=>?_;exists T.Fv.ok lY,9
 obtain ⟨a,ns,n,wl,ds,rfl,hS,S,bE,L,D,hle,gg,q⟩:=h;obtain ⟨kU,bY,cL,xb⟩:=id L;have iv:(kU.map V.ref).length=ds.length:=by rw [aP,cL]
 have pI:∀ (i:Nat) (d:a3),ds[i]? = some d->∃ gQ,eb (kU.map V.ref) (i:Int)=some (.ref gQ)/\H gQ=some (.tup (h_ d)):=fun i d hd=>by
  have f':kU[i]? = some (kU[i]'(by rw [cL];exact (cv.mp hd).1)):=aZ _;exact ⟨_,bt (by rw [cN,f'];rfl),xb i _ d f' hd⟩
 refine ⟨_,(aS (cF (i:=3) lY.aH (gL aF))
   (aS (ft fq rfl (lL rfl T.kz (ak (eT gj rfl T.fP fZ (ak (aa 2) aF)) aF)) (b9 (i:=4) lY.aH) (aS (cF (i:=5) lY.aH (gL aF))
   (aS (ft fq rfl (lL rfl T.kz (ak (eT gj rfl T.fP fZ (ak (aa 3) aF)) aF)) (b9 (i:=6) lY.aH) (aS (cF (i:=7) lY.aH (cc adl aq T.aaM T.E3.bG T.afI (ak (aa 2) (ak (bh bO (bh bO (aa 3) (aa 6)) aD) (ak (aa 4) aF)))))
   (aS (ft fq rfl (d6 (bh bO (aa 3) (aa 6))) (b9 (i:=8) lY.aH) (a5 (cF (i:=7) lY.aH (x9 (aa 7) (um (Gv (cc JP aq T.NG T.Tl.bG T.S3 (ak (bh bO (aa 2) (aa 8)) (ak (bh bO (aa 2) (aa 4)) (ak (aa 1) aF))))))))))
   (a5 (dP (lR (aa 7)) (a5 (ee (gk ip kr lx ks (aa 5) (ak (aa 6) aF)))) ek)))))
   (a5 (dP (g5.pt (ou (cY oZ (eT gj rfl T.fP fZ (ak (aa 5) aF)) aD (cu _)) (oi (cY oZ (cc fJ aq T.gp T.fF.bG T.gu (ak (aa 0) (ak (bI d2 aD (aa 4)) (ak aD aF)))) aD (cu _))))) (aS (cF (i:=6) lY.aH (bh bO (aa 5) (cc fJ aq T.gp T.fF.bG T.gu (ak (aa 0) (ak (bI d2 aD (aa 4)) (ak (eT gj rfl T.fP fZ (ak (aa 5) aF)) aF))))))
   (a5 (ee (gk ip G9 Ql Kl (bh bO (aa 3) (aa 6)) (ak (cc fJ aq T.gp T.fF.bG T.gu (ak (aa 0) (ak (bI d2 aD (aa 4)) (ak (bI d2 (eT gj rfl T.fP fZ (ak (bh bO (aa 3) (aa 6)) aF)) aD) aF)))) (ak (aa 4) aF)))))) (a5 (ee (gk ip G9 Ql Kl (aa 3) (ak (cc fJ aq T.gp T.fF.bG T.gu (ak (aa 0) (ak (bI d2 aD (aa 4)) (ak (bI d2 (eT gj rfl T.fP fZ (ak (aa 3) aF)) aD) aF)))) (ak (gL (ak (aa 4) aF)) aF))))))))))
   (aS (cF (i:=9) lY.aH (gL aF))
   (aS (ft fq rfl (lL rfl T.kz (ak (eT gj rfl T.fP fZ (ak (aa 3) aF)) aF)) (b9 (i:=6) lY.aH) (aS (cF (i:=10) lY.aH (bI d2 (eT (DU rfl) rfl T.De Aa (ak (fT rfl (d6 (bh bO (aa 3) (aa 6))) (ac (sc:=bB I3) rfl (by ac_nf)) (N:=tK) (sel:=[none,some 2]) (fw (M:=["_law_script","_law_places","_law_ways_here","_law_some","_law_k","_law_fits","_law_j","_law_good","_law_i","_law_stages_here","_law_low","_law_more"]) (by ac_nf)) (eO.of (fun _ _ _ _=>(b9 (i:=0) (d1 (N:=tK) (by ac_nf) rfl))) (fun _ _ _ _=>⟨_,hO,by walk_at "B"⟩) (fun _ _ _ _=>⟨_,(bh ed (bh bO (aa 1) (aa 0)) aD),by walk_at "B"⟩))) aF)) (cc fJ aq T.gp T.fF.bG T.gu (ak (aa 0) (ak (bI d2 aD (aa 6)) (ak aD aF))))))
   (aS (dP (cY eE (cc fJ aq T.gp T.fF.bG T.gu (ak (aa 0) (ak (bI d2 aD (aa 6)) (ak aD aF)))) aD (cu _)) (a5 (cF (i:=10) lY.aH (bI d2 (aa 10) aD))) ek)
   (aS (cF (i:=11) lY.aH (bh bO (gL (ak aD (ak aD (ak aD (ak aD (ak aD (ak aD aF))))))) (cc fJ aq T.gp T.fF.bG T.gu (ak (aa 0) (ak (bI d2 aD (aa 6)) (ak aD aF))))))
   (a5 (ee (gk ip kr lx ks (aa 9) (ak (rY (ak (aa 10) (ak (bI d2 (aa 10) (cc fJ aq T.gp T.fF.bG T.gu (ak (aa 0) (ak (bI d2 aD (aa 6)) (ak (aa 11) aF))))) (ak (bh bO (aa 3) (aa 6)) aF)))) aF))))))))
   (a5 (cy (aa 9))))))),?_⟩
 exists (fun az I=>aN H I/\aL I/\∃ gl,H gl=none/\I gl=some (.lst [])/\az=[~~~a,some (.int n),~~~wl,~~~gl,none,none,none,none,none,none,none,none]),3
 .nofun;exact ⟨gv _,fun gl yY=>bL _ _ ⟨bq yY,bE.upd,gl,yY,db,rfl⟩⟩
 rintro fK H1 ⟨s1,cB,gl,yY,dH,rfl⟩;subst aY;exists (fun az I=>aN H I/\aL I/\(∃ qs cC,km H I gl qs cC/\jF n ds ds.length cC)/\∃ dU eX c7 dt dh,az=[~~~a,some (.int n),~~~wl,~~~gl,dU,eX,c7,dt,dh,none,none,none]),3
 .nofun;refine ⟨_,.inl (av.of (s1 _ _ bY)),by omega,by rw [iv];omega,?_⟩;rw [show (((kU.map V.ref).length:Nat):Int).toNat=ds.length by rw [iv];rfl];refine dY.range (fun k σ I=>aN H I/\aL I/\(∃ qs cC,km H I gl qs cC/\jF n ds k cC)/\∃ dU eX c7 dt dh,σ=[~~~a,some (.int n),~~~wl,~~~gl,dU,eX,c7,dt,dh,none,none,none]) ⟨s1,cB,⟨[],[],⟨dH,rfl,LS,by simp,fun i q g h=>by simp at h,fun q h=>by simp at h⟩,jF.nil n ds⟩,_,_,_,_,_,rfl⟩ ?_ ?_
  .rintro k σ I au bf;ac_rfl
   obtain ⟨s2,cD,⟨qs,cC,G,k3⟩,dU,eX,c7,dt,dh,rfl⟩:=bf;have gr:ds[k]? = some ds[k]:=aZ au;subst aY;generalize apy:ds[k]=d at gr;have hd:=(D.al d (cm gr)).1;have ahP:=k3.len;simp only [hN,dx,nk,nu,sx];exists (fun az aB=>aN I aB/\aL aB/\∃ eF,I eF=none/\aB eF=some (.lst [])/\az=[~~~a,some (.int n),~~~wl,~~~gl,some (.int (k:Nat)),~~~eF,c7,dt,dh,none,none,none]),0
   .nofun;exact ⟨gv _,fun eF nI=>bL _ _ ⟨bq nI,cD.upd,eF,nI,db,rfl⟩⟩
   rintro cb aB ⟨s3,dp,eF,nI,fQ,rfl⟩;have EY:eF ≠ gl:=fun e=>by rw [e,G.af] at nI;cases nI
   have ahu:eF ∉ qs:=fun z=>by
    obtain ⟨i,ah⟩:=iN z;have E8:i < cC.length:=by rw [<- G.ao];exact (cv.mp ah).1
    have e:=G.e' i eF _ ah (aZ E8);rw [nI] at e;cases e
   subst aY;simp only [dx];exists (fun az bw=>aN I bw/\aL bw/\km H bw gl qs cC/\(∃ aX:List Nat,bw eF=some (.lst (aX.map fun k:Nat=>V.int k))/\aX.length <= cC.length/\∀ f ∈ aX,∃ g,cC[f]? = some g/\∀ i ∈ g,∀ e,ds[i]? = some e->mt n e d=false/\mt n d e=false/\hZ e d=true)/\∃ c7 dt dh,az=[~~~a,some (.int n),~~~wl,~~~gl,some (.int (k:Nat)),~~~eF,c7,dt,dh,none,none,none]),0
   .nofun;have mB:(qs.map V.ref).length=cC.length:=by rw [aP,G.ao]
    refine ⟨_,.inl (av.of (s3 _ _ G.af)),by omega,by rw [mB];omega,?_⟩;rw [show (((qs.map V.ref).length:Nat):Int).toNat=cC.length by rw [mB];rfl];refine dY.range (fun j σ bw=>aN I bw/\aL bw/\km H bw gl qs cC/\(∃ aX:List Nat,bw eF=some (.lst (aX.map fun k:Nat=>V.int k))/\aX.length <= j/\∀ f ∈ aX,∃ g,cC[f]? = some g/\∀ i ∈ g,∀ e,ds[i]? = some e->mt n e d=false/\mt n d e=false/\hZ e d=true)/\∃ c7 dt dh,σ=[~~~a,some (.int n),~~~wl,~~~gl,some (.int (k:Int)),~~~eF,c7,dt,dh,none,none,none]) ⟨s3,dp,G.same s3,⟨[],fQ,b8 _,fun f h=>by simp at h⟩,_,_,_,rfl⟩ ?_ ?_
    .rintro j σ bw aJ bf;ac_rfl
     obtain ⟨s4,dK,hQ,⟨aX,hA,t8,vi⟩,c7,dt,dh,rfl⟩:=bf;have pJ:cC[j]? = some cC[j]:=aZ aJ;have e_:qs[j]? = some (qs[j]'(by rw [G.ao];exact aJ)):=aZ _;subst aY;generalize qs[j]'(by rw [G.ao];exact aJ)=kv at e_;generalize amg:cC[j]=g at pJ;have pk:=cm pJ;obtain ⟨m1,an1,UN⟩:=l_ (k3.ne g pk);have ik:∀ i ∈ g,∃ e,ds[i]? = some e:=fun i ah=>⟨_,aZ (NQ (k3.lt pk ah) au)⟩
     have Nw:m1 ∈ g:=by rw [UN];exact l5 ..
     obtain ⟨ji,th⟩:=ik m1 Nw;have vm:=hQ.e' j kv g e_ pJ;have xo:=bt (xs:=qs.map V.ref) (j:=j) (by rw [cN,e_];rfl);have hl:=s2.trans s4;have x_:=L.same hl;have z9:=hl _ _ bY;simp only [hN,dx,nk,nu,sx];exists (fun az cI=>cI=bw/\az=[~~~a,some (.int n),~~~wl,~~~gl,some (.int (k:Int)),~~~eF,some (.int (j:Int)),some (.br (hZ ji d)),dh,none,none,none]),0
     .nofun;exact ⟨_,av.of hQ.af,_,xo,_,rfl,_,av.of vm,_,by rw [UN];exact bt (j:=0) rfl,wl,ds,m1,k,ji,d,rfl,x_,th,gr,(D.al ji (cm th)).1.k,hd.k,bL _ _ ⟨rfl,rfl⟩⟩
     rintro kG cI ⟨rfl,rfl⟩;subst aY;simp only [dx];exists (fun az dj=>dj=cI/\∃ (ng:Bool) (dh:Option V),(ng=true->hZ ji d=true/\∀ i ∈ g,∀ e,ds[i]? = some e->mt n e d=false)/\az=[~~~a,some (.int n),~~~wl,~~~gl,some (.int (k:Int)),~~~eF,some (.int (j:Int)),some (.br ng),dh,none,none,none]),0
     .nofun;refine ⟨_,av.of hQ.af,_,xo,_,rfl,⟨_,av.of vm⟩,?_⟩;refine dY.list (xs:=g.map fun k:Nat=>V.int k) (fun l σ dj=>dj=cI/\∃ (ng:Bool) (dh:Option V),(ng=true->hZ ji d=true/\∀ i ∈ g.take l,∀ e,ds[i]? = some e->mt n e d=false)/\σ=[~~~a,some (.int n),~~~wl,~~~gl,some (.int (k:Int)),~~~eF,some (.int (j:Int)),some (.br ng),dh,none,none,none]) ?_ ?_ ?_ ?_
      .exact ⟨rfl,_,_,fun z=>⟨z,fun i h=>by simp at h⟩,rfl⟩
      .rintro l σ dj aM ⟨rfl,_⟩;exact av.of vm
      .rintro l v σ dj aI bf;ac_rfl
       obtain ⟨rfl,ng,dh,q1,rfl⟩:=bf;obtain ⟨i,ah,rfl⟩:=bZ aI;obtain ⟨e,he⟩:=ik i (cm ah);obtain ⟨wi,sW,DF⟩:=pI i e he;obtain ⟨XX,ai0,W_⟩:=pI k d gr;have step:∀ d_:Bool,(d_=true->ng=true/\mt n e d=false)->(d_=true->hZ ji d=true/\∀ i ∈ g.take (l + 1),∀ e,ds[i]? = some e->mt n e d=false):=fun d_ h z=>by
        obtain ⟨fV,fj⟩:=h z;obtain ⟨n2,kD⟩:=q1 fV;refine ⟨n2,fun gx et bF h4=>?_⟩;rw [od,ah] at et;rcases gE.mp et with u | u
        .exact kD gx u bF h4
        .rw [show gx=i by simpa using u,he] at h4;cases h4;exact fj
       subst aY;nofun;cases ng with
       | true=>
        rw [if_pos rfl];refine ⟨_,av.of z9,_,sW,_,av.of z9,_,ai0,n,wi,XX,e,d,rfl,cJ.of (hl _ _ DF),cJ.of (hl _ _ W_),(D.al e (cm he)).1,hd,_,rfl,?_⟩;exact ⟨rfl,_,step _ (fun z=>⟨rfl,by simpa using z⟩),rfl,_,rfl⟩
       | false=>
        rw [if_neg (by decide)];exact ⟨false,(fun z=>nomatch z),rfl,_,rfl⟩
      .rintro σ dj bf;ac_rfl
       obtain ⟨rfl,ng,dh,q1,rfl⟩:=bf;subst aY;rw [aP,gF] at q1;exact bL _ _ ⟨rfl,ng,dh,q1,rfl⟩
     rintro qd dj ⟨rfl,ng,dh,q1,rfl⟩;subst aY;dsimp only;refine dO ng (fun Q a0=>?_) (fun ae=>?_) (fun ae=>?_)
     .nofun;exact a0
     .obtain ⟨n2,kD⟩:=q1 ae;nofun;refine ⟨.inl ⟨_,av.of hA⟩,_,hA,hg (show (aX.map fun k:Nat=>V.int k).length <= 8 by rw [aP];omega) (by decide),s4.ff nI,dK.upd,hQ.off EY ahu,⟨aX ++ [j],by rw [db,e5];rfl,by rw [dZ];show aX.length + 1 <= j + 1;omega,fun f hf=>?_⟩,?_⟩
      .rcases gE.mp hf with z | z
       .exact vi f z
       .rw [gq.mp z];refine ⟨g,pJ,fun i ah e he=>⟨kD i ah e he,?_,ab3 (k3.al g pk i ah m1 Nw e ji he th) n2⟩⟩;have qh:=(D.al e (cm he)).1;have:=aks qh.st qh.fO hd.st hd.fO qh.ne hd.ne;exact (this.symm.trans (kD i ah e he):mt n d e=false)
      .exact ⟨_,rfl⟩
     .simp only [hr];exact ⟨s4,dK,hQ,⟨aX,hA,by omega,vi⟩,_,_,_,rfl⟩
    .rintro σ bw bf;ac_rfl
     obtain ⟨s4,dK,hQ,⟨aX,hA,t8,vi⟩,c7,dt,dh,rfl⟩:=bf;subst aY;exact bL _ _ ⟨s4,dK,hQ,⟨aX,hA,t8,vi⟩,_,_,_,rfl⟩
   rintro fS bw ⟨s4,dK,hQ,⟨aX,hA,t8,vi⟩,c7,dt,dh,rfl⟩;have hl:=s2.trans s4;have jL:=S.same hl;have mB:(qs.map V.ref).length=cC.length:=by rw [aP,G.ao]
   subst aY;dsimp only;refine dO (decide (0 < aX.length) && decide (0 < dA ns (100 + (k:Int)) 3)) (fun Q a0=>?_) (fun ae=>?_) (fun ae=>?_)
   .nofun;refine ⟨_,.inl (av.of hA),?_⟩;rw [aP];by_cases cz:0 < aX.length
    .rw [if_pos (decide_eq_true (by omega))];rw [decide_eq_true cz,ky] at a0;exact ⟨a,ns,_,_,rfl,hS,jL,⟨by omega,by omega⟩,by decide,_,rfl,a0⟩
    .rw [if_neg (by rw [decide_eq_true_eq];omega)];rw [decide_eq_false cz,m'] at a0;exact a0
   .rw [g_,decide_eq_true_eq] at ae;have ax:=h1 ns (110 + (k:Int)) (m:=(aX.length:Int)) (by omega);have aK:=ce ns (110 + (k:Int)) (m:=(aX.length:Int)) (by omega);obtain ⟨u,bC⟩:∃ u:Nat,dA ns (110 + (k:Int)) (aX.length:Int)=(u:Int):=⟨_,(qz ax).symm⟩;have ady:u < aX.length:=by omega
    have LW:aX[u]? = some aX[u]:=aZ ady;generalize aph:aX[u]=f at LW;obtain ⟨g,B3,alU⟩:=vi f (cm LW);have LA:f < cC.length:=(cv.mp B3).1;have xD:qs[f]? = some (qs[f]'(by rw [G.ao];exact LA)):=aZ _;generalize qs[f]'(by rw [G.ao];exact LA)=J2 at xD;have G2:=hQ.e' f J2 g xD B3;have MM:=bt (xs:=qs.map V.ref) (j:=f) (by rw [cN,xD];rfl);have ajH:=bt (xs:=aX.map fun k:Nat=>V.int k) (j:=u) (v:=.int (f:Int)) (by rw [cN,LW];rfl);have ao2:=k3.K7 (cm B3);have fk:=h1 ns (160 + (k:Int)) (m:=(g.length:Int) + 1) (by omega);have es:=ce ns (160 + (k:Int)) (m:=(g.length:Int) + 1) (by omega);nofun;obtain ⟨v,aI⟩:∃ v:Nat,dA ns (160 + (k:Int)) ((g.length:Int) + 1)=(v:Int):=⟨_,(qz fk).symm⟩;refine ⟨_,.inl (av.of hA),?_⟩;rw [aP];refine ⟨a,ns,_,_,rfl,hS,jL,⟨by omega,by omega⟩,by omega,?_⟩;rw [bC];refine ⟨_,_,rfl,av.of hA,_,ajH,_,_,rfl,av.of hQ.af,_,MM,.inl ⟨_,av.of G2⟩,_,_,rfl,av.of hQ.af,_,MM,_,rfl,_,.inl (av.of G2),?_⟩;rw [aP];refine ⟨a,ns,_,_,rfl,hS,jL,⟨by omega,by omega⟩,by omega,J2,rfl,_,_,rfl,G2,?_⟩;rw [aI,ma];have NT:v <= g.length:=by omega
    have em:(g.map fun k:Nat=>V.int k).take v ++ V.int (k:Int) :: (g.map fun k:Nat=>V.int k).drop v=(ins g v k).map fun k:Nat=>V.int k:=(EF (fun k:Nat=>V.int k) g v k).symm
    refine ⟨by omega,by omega,by rw [aP];omega,hg (show (g.map fun k:Nat=>V.int k).length <= 8 by rw [aP];omega) (by decide),hl.ff (hQ.iJ J2 (cm xD)),dK.upd,?_,_,rfl⟩;rw [em];exact ⟨qs,_,hQ.put xD LA,k3.put B3 gr alU⟩
   .have fk:=h1 ns (120 + (k:Int)) (m:=(cC.length:Int) + 1) (by omega);have es:=ce ns (120 + (k:Int)) (m:=(cC.length:Int) + 1) (by omega);nofun;obtain ⟨v,aI⟩:∃ v:Nat,dA ns (120 + (k:Int)) ((cC.length:Int) + 1)=(v:Int):=⟨_,(qz fk).symm⟩;refine ⟨.inl ⟨_,av.of hQ.af⟩,_,.inl (av.of hQ.af),?_⟩;rw [mB];refine ⟨a,ns,_,_,rfl,hS,jL,⟨by omega,by omega⟩,by omega,by decide,fun p ar=>⟨_,_,rfl,(bq ar) _ _ hQ.af,?_⟩⟩;rw [aI,ma];have NT:v <= cC.length:=by omega
    have em:(qs.map V.ref).take v ++ V.ref p :: (qs.map V.ref).drop v=(ins qs v p).map V.ref:=(EF V.ref qs v p).symm;refine ⟨by omega,by omega,by rw [mB];omega,hg (show (qs.map V.ref).length <= 8 by rw [mB];omega) (by decide),(hl.trans (bq ar)).ff yY,(dK.upd).upd,?_,_,rfl⟩;rw [em];exact ⟨_,_,hQ.new (g:=[k]) hl ar NT,k3.new v⟩
  .rintro σ I bf;ac_rfl
   obtain ⟨s2,cD,⟨qs,cC,G,k3⟩,dU,eX,c7,dt,dh,rfl⟩:=bf;subst aY;exact bL _ _ ⟨s2,cD,⟨qs,cC,G,k3⟩,_,_,_,_,_,rfl⟩
 rintro cb aB ⟨s2,cD,⟨qs,cC,G,k3⟩,dU,eX,c7,dt,dh,rfl⟩;subst aY;exists (fun az I=>aN aB I/\aL I/\∃ a6,aB a6=none/\I a6=some (.lst [])/\az=[~~~a,some (.int n),~~~wl,~~~gl,dU,eX,c7,dt,dh,~~~a6,none,none]),3
 .nofun;exact ⟨gv _,fun a6 la=>bL _ _ ⟨bq la,cD.upd,a6,la,db,rfl⟩⟩
 rintro fS bw ⟨s3,dp,a6,la,fQ,rfl⟩;have ahP:=k3.len;have mB:(qs.map V.ref).length=cC.length:=by rw [aP,G.ao]
 subst aY;exists (fun az I=>aN aB I/\aL I/\(∃ lW sts,jb I a6 lW qs sts/\BB n ds sts)/\∃ c7 dh i6 qA,az=[~~~a,some (.int n),~~~wl,~~~gl,dU,eX,c7,dt,dh,~~~a6,i6,qA]),3
 .nofun;refine ⟨_,.inl (av.of (s3 _ _ G.af)),by omega,by rw [mB];omega,?_⟩;rw [show (((qs.map V.ref).length:Nat):Int).toNat=cC.length by rw [mB];rfl];refine dY.range (fun j σ I=>aN aB I/\aL I/\(∃ (lW:List Addr) (sts:List dG),I a6=some (.lst (lW.map V.ref))/\lW.length=j/\sts.length=j/\(∀ (i:Nat) (q:Addr) (s:dG),lW[i]? = some q->sts[i]? = some s->∃ m,qs[i]? = some m/\I q=some (.tup [.int s.lo,.int s.ah,.ref m]))/\sts.map (·.bz)=cC.take j/\∀ s ∈ sts,(∀ i ∈ s.bz,∀ d,ds[i]? = some d->d.least <= s.lo)/\1 <= s.lo/\s.lo <= 21/\s.lo <= s.ah/\s.ah <= 40)/\∃ c7 dh i6 qA,σ=[~~~a,some (.int n),~~~wl,~~~gl,dU,eX,c7,dt,dh,~~~a6,i6,qA]) ⟨s3,dp,⟨[],[],fQ,rfl,rfl,fun i q s h=>by simp at h,by rw [tl];rfl,fun s h=>by simp at h⟩,_,_,_,_,rfl⟩ ?_ ?_
  .rintro j σ I aJ bf;ac_rfl
   obtain ⟨s4,dK,⟨lW,sts,hA,AL,h8,i8,x3,zN⟩,c7,dh,i6,qA,rfl⟩:=bf;have pJ:cC[j]? = some cC[j]:=aZ aJ;have e_:qs[j]? = some (qs[j]'(by rw [G.ao];exact aJ)):=aZ _;subst aY;generalize qs[j]'(by rw [G.ao];exact aJ)=kv at e_;generalize amg:cC[j]=g at pJ;have pk:=cm pJ;have ik:∀ i ∈ g,∃ e,ds[i]? = some e:=fun i ah=>⟨_,aZ (k3.lt pk ah)⟩
   have hQ:=G.same s4;have vm:=hQ.e' j kv g e_ pJ;have xo:=bt (xs:=qs.map V.ref) (j:=j) (by rw [cN,e_];rfl);have hl:=s2.trans s4;have jL:=S.same hl;have z9:=hl _ _ bY;have aoP:=k3.K7 pk;obtain ⟨cp,Z8⟩:∃ cp:Nat->Int,cp=fun i=>((ds[i]?).map (·.least)).getD 0:=⟨_,rfl⟩
   have H_:∀ i e,ds[i]? = some e->cp i=e.least:=fun i e he=>by rw [Z8];show ((ds[i]?).map (·.least)).getD 0=_;rw [he];rfl
   obtain ⟨nr,Bk,CO⟩:=z7 (g.map cp) (fun z=>k3.ne g pk (List.map_eq_nil_iff.mp z));have B4:1 <= nr/\nr <= 4:=by
    obtain ⟨i,ah,rfl⟩:=bJ.mp Bk;obtain ⟨e,he⟩:=ik i ah;rw [H_ i e he];exact ⟨(D.al e (cm he)).1.le.1,hle e (cm he)⟩
   have eB:=h1 ns (130 + (j:Int)) (m:=3) (by decide);have fA:=ce ns (130 + (j:Int)) (m:=3) (by decide);simp only [hN,dx,nk,nu,sx];exists (fun az cI=>aN I cI/\aL cI/\∃ lo:Int,(nr <= lo/\lo <= nr + 2)/\az=[~~~a,some (.int n),~~~wl,~~~gl,dU,eX,some (.int (j:Int)),dt,dh,~~~a6,some (.int lo),qA]),0
   .nofun;refine ⟨_,av.of hQ.af,_,xo,_,rfl,⟨_,av.of vm⟩,?_⟩;refine Gc.lg (xs:=g.map fun k:Nat=>V.int k) (zs:=(g.map cp).map V.int) (av.of vm) (cP (show (g.map fun k:Nat=>V.int k).length <= 8 by rw [aP];omega) (by decide)) (by rw [aP,aP,aP]) (fun l v z N aI aO bb=>?_) (fun pl c4=>?_)
    .obtain ⟨i,ah,rfl⟩:=bZ aI;obtain ⟨y,a9,rfl⟩:=bZ aO;obtain ⟨gx,et,rfl⟩:=bZ a9;rw [ah] at et;cases et;obtain ⟨e,he⟩:=ik i (cm ah);obtain ⟨wi,sW,DF⟩:=pI i e he;rw [H_ i e he] at bb;nofun;exact ⟨Sub.name,_,av.of z9,_,sW,_,rfl,_,cJ.of (hl _ _ DF),_,bt (j:=6) rfl,bb⟩
    .have OV:=bq (o:=.lst ((g.map cp).map V.int)) c4;refine ⟨_,rfl,_,av.of db,nr,Bk,CO,a,ns,_,_,rfl,hS,jL.same OV,⟨by omega,by omega⟩,by decide,_,rfl,bL _ _ ⟨OV,dK.upd,_,⟨by omega,by omega⟩,rfl⟩⟩
   rintro kG cI ⟨s5,hh,anS,Dl,rfl⟩;have tE:=jL.same s5;subst aY;simp only [dx];exists (fun az dj=>dj=cI/\∃ lo:Int,(nr <= lo/\lo <= 21)/\az=[~~~a,some (.int n),~~~wl,~~~gl,dU,eX,some (.int (j:Int)),dt,dh,~~~a6,some (.int lo),qA]),0
   .refine dO (decide (dA ns (150 + (j:Int)) 12=0)) (fun Q a0=>?_) (fun _=>?_) (fun _=>?_)
    .nofun;refine ⟨a,ns,_,_,rfl,hS,tE,⟨by omega,by omega⟩,by decide,rfl,?_⟩;rw [show decide (V.int (dA ns (150 + (j:Int)) 12)=V.int 0)=decide (dA ns (150 + (j:Int)) 12=0) from decide_eq_decide.mpr (by simp)];exact a0
    .nofun;exact bL _ _ ⟨rfl,_,by omega,rfl⟩
    .simp only [hr];exact bL _ _ ⟨rfl,_,by omega,rfl⟩
   rintro qd dj ⟨rfl,lo,p9,rfl⟩;have ju:=h1 ns (180 + (j:Int)) (m:=6) (by decide);have j8:=ce ns (180 + (j:Int)) (m:=6) (by decide);subst aY;simp only [dx];exists (fun az hc=>aN dj hc/\aL hc/\∃ mo:Int,(1 <= mo/\mo <= 20)/\az=[~~~a,some (.int n),~~~wl,~~~gl,dU,eX,some (.int (j:Int)),dt,dh,~~~a6,some (.int lo),some (.int mo)]),0
   .obtain ⟨mo,se,rF⟩:=aaR ju j8;nofun;exact ⟨by decide,fun p ar=>⟨a,ns,_,_,rfl,hS,tE.same (bq ar),⟨by omega,by omega⟩,by decide,_,_,rfl,av.of db,_,rF,bL _ _ ⟨bq ar,hh.upd,mo,se,rfl⟩⟩⟩
   rintro mm hc ⟨l6,ja,mo,se,rfl⟩;have Az:=s5.trans l6;have si:=tE.same l6;have ui:=Az _ _ hA;have n2:=h1 ns (140 + (j:Int)) (m:=mo) (by omega);have kD:=ce ns (140 + (j:Int)) (m:=mo) (by omega);subst aY;nofun;refine ⟨.inl ⟨_,av.of ui⟩,a,ns,_,_,rfl,hS,si,⟨by omega,by omega⟩,by omega,_,rfl,_,av.of (Az _ _ hQ.af),_,xo,by decide,fun p ar=>⟨_,(bq ar) _ _ ui,hg (show (lW.map V.ref).length <= 8 by rw [aP];omega) (by decide),((s4.trans Az).trans (bq ar)).ff la,(ja.upd).upd,⟨lW ++ [p],by rw [db,e5];rfl,by rw [dZ,AL];rfl,sts ++ [⟨lo,lo + dA ns (140 + (j:Int)) mo,g⟩],by rw [dZ,h8];rfl,fun i q s a1 a2=>?_,?_,fun s aC=>?_⟩,?_⟩⟩
   .have X9:a6 ≠ p:=Db ui ar;rcases mq a1 with ⟨dR,d_⟩ | ⟨dR,rfl⟩
    .rcases mq a2 with ⟨cf,c1⟩ | ⟨cf,_⟩
     .obtain ⟨m,hm,e⟩:=i8 i q s d_ c1;have e0:=Az _ _ e;refine ⟨m,hm,?_⟩;rw [aG (bK e0 ui (by intro z;cases z)),aG (Db e0 ar)];exact e0
     .omega
    .rcases mq a2 with ⟨cf,_⟩ | ⟨_,rfl⟩
     .omega
     .refine ⟨kv,by rw [dR,AL];exact e_,?_⟩;rw [aG (dJ X9),db]
   .rw [e5,x3,od,pJ];rfl
   .rcases gE.mp aC with z | z
    .exact zN s z
    .rw [gq.mp z];refine ⟨fun i ah e he=>?_,by show 1 <= lo;omega,p9.2,by show lo <= lo + dA ns (140 + (j:Int)) mo;omega,by show lo + dA ns (140 + (j:Int)) mo <= 40;omega⟩;have:=CO (cp i) (bJ.mpr ⟨i,ah,rfl⟩);rw [H_ i e he] at this;show e.least <= lo;omega
   .repeat (first | exact ⟨_,rfl⟩ | refine ⟨⟨_,rfl⟩,?_⟩)
  .rintro σ I bf;ac_rfl
   obtain ⟨s4,dK,⟨lW,sts,hA,AL,h8,i8,x3,zN⟩,c7,dh,i6,qA,rfl⟩:=bf;subst aY;rw [gF] at x3;have hQ:=G.same s4;refine bL _ _ ⟨s4,dK,⟨lW,sts,⟨hA,by omega,by rw [G.ao];omega,fun i q m s a1 a2 eC=>?_⟩,⟨by rw [x3];exact k3,fun s aC=>(zN s aC).1,fun s aC=>(zN s aC).2⟩⟩,_,_,_,_,rfl⟩;obtain ⟨dB,m9,e⟩:=i8 i q s a1 eC;rw [a2] at m9;cases m9;refine ⟨e,hQ.e' i m s.bz a2 ?_⟩;rw [<- x3,cN,eC];rfl
 rintro kG cI ⟨s4,dK,⟨lW,sts,du,ab'⟩,c7,dh,i6,qA,rfl⟩;subst aY;nofun;exact q a6 lW qs sts cI (s2.trans s4) dK du ab'
noncomputable def dW (ds:List a3) (i:Nat):Str:=((ds[i]?).map (·.name)).getD (ab "")
noncomputable def dN (ds:List a3) (s:dG):List Str:=s.bz.map (dW ds)
noncomputable def ih (ds:List a3) (s:dG):List Str:=[ab "stage",num s.lo,num s.ah] ++ dN ds s
noncomputable def hi (ds:List a3) (sts:List dG):List (List Str):=sts.map (ih ds)
noncomputable def wv (ds:List a3) (sts:List dG):Str:=eh nl ((hi ds sts).map (eh cM))
structure Ko (ds:List a3) (sts:List dG):Prop where
 ln:sts.length <= 8
 bd:∀ s ∈ sts,(0 <= s.lo/\s.lo < 1000)/\(0 <= s.ah/\s.ah < 1000)/\s.bz ≠ []/\s.bz.length <= 8/\∀ i ∈ s.bz,∃ d,ds[i]? = some d
 nm:∀ d ∈ ds,d.name.length <= 8
theorem abf (ds:List a3) (s:dG) (h:s.bz ≠ []):ab "stage " ++ num s.lo ++ ab " " ++ num s.ah ++ ab " " ++ eh cM (dN ds s)=eh cM (ih ds s):=by
 apply z3;have ax:(ab "stage ").cps.toList=[115,116,97,103,101,32]:=by ac_nf
 have aK:(ab "stage").cps.toList=[115,116,97,103,101]:=by ac_nf
 have bU:(ab " ").cps.toList=[32]:=by ac_nf
 unfold ih dN;obtain ⟨i,r,aA⟩:=l_ h;rw [aA,A5,qL];simp only [o2,oQ,qL,e1,qu,A8,C8,l2,ax,aK,bU,oC]
def Qq:bW:=fun vs H Q _=>∃ wl ds a6 qs ms sts,vs=[.ref wl,.ref a6]/\ht H wl ds/\jb H a6 qs ms sts/\Ko ds sts/\aL H/\Q (.str (wv ds sts)) H
def agW:bW:=fun vs H Q _=>∃ wl ds a6 qs ms sts,vs=[.ref wl,.ref a6]/\ht H wl ds/\jb H a6 qs ms sts/\Ko ds sts/\∀ I,aN H I->Q (.str (wv ds sts)) I
theorem ami:cA P base T 1 t.zB t.Dj Bw Qq:=by
 refine cK.forget (sp:=agW) ?_ fun vs H Q E h=>?_
 .exists T.GR.ok be,9
  obtain ⟨wl,ds,a6,qs,ms,sts,rfl,⟨kU,bY,cL,xb⟩,du,X,q⟩:=h;have ahR:=X.ln;have pI:∀ (i:Nat) (d:a3),ds[i]? = some d->∃ gQ,eb (kU.map V.ref) (i:Int)=some (.ref gQ)/\H gQ=some (.tup (h_ d)):=fun i d hd=>by
   have f':kU[i]? = some (kU[i]'(by rw [cL];exact (cv.mp hd).1)):=aZ _;exact ⟨_,bt (by rw [cN,f'];rfl),xb i _ d f' hd⟩
  have x2:∀ k:Nat,k <= 1000->k <= sizeLine:=fun k h=>cP h (by decide)
  refine ⟨_,(aS (cF (i:=2) be.aH (gL aF))
   (aS (ft fq rfl (d6 (aa 1)) (mr (K:=K) (n:=3) rfl rfl (fC (b9 (i:=3) be.aH) (fC (b9 (i:=4) be.aH) (fC (b9 (i:=5) be.aH) mx)))) (a5 (ee (gk ip kr lx ks (aa 2) (ak (bI mD (bI mD (bI mD (bI mD (bI mD cZ (j4 Ch rfl T.vF xA (ak (aa 3) aF))) cZ) (j4 Ch rfl T.vF xA (ak (aa 4) aF))) cZ) (gk vn zA Ag vE cZ (ak (fT rfl (d6 (aa 5)) (ac (sc:=bB KY) rfl (by ac_nf)) (N:=tK) (sel:=[none,some 0]) (fw (M:=["_law_ways_here","_law_stages_here","_law_rows","_law_low","_law_high","_law_some"]) (by ac_nf)) (eO.of (fun _ _ _ _=>(b9 (i:=0) (d1 (N:=tK) (by ac_nf) rfl))) (fun _ _ _ _=>⟨_,hO,by walk_at "B"⟩) (fun _ _ _ _=>⟨_,(bh ed (bh bO (aa 1) (aa 0)) aD),by walk_at "B"⟩))) aF))) aF)))))
   (a5 (cy (gk vn zA Ag vE cZ (ak (aa 2) aF)))))),?_⟩
  exists (fun az I=>aN H I/\∃ dQ,H dQ=none/\I dQ=some (.lst (aW []))/\az=[~~~wl,~~~a6,~~~dQ,none,none,none]),3
  .nofun;exact ⟨gv _,fun dQ ho=>bL _ _ ⟨bq ho,dQ,ho,db,rfl⟩⟩
  rintro fK H1 ⟨s1,dQ,ho,dH,rfl⟩;subst aY;exists (fun az I=>aN H I/\I dQ=some (.lst (aW ((hi ds sts).map (eh cM))))/\∃ gT dU eX,az=[~~~wl,~~~a6,~~~dQ,gT,dU,eX]),3
  .nofun;refine ⟨⟨_,av.of (s1 _ _ du.at_)⟩,?_⟩;refine dY.list (xs:=qs.map V.ref) (fun i σ I=>aN H I/\I dQ=some (.lst (aW ((hi ds (sts.take i)).map (eh cM))))/\∃ gT dU eX,σ=[~~~wl,~~~a6,~~~dQ,gT,dU,eX]) ?_ ?_ ?_ ?_
   .exact ⟨s1,by rw [tl];exact dH,_,_,_,rfl⟩
   .rintro i σ I ah ⟨bA,_⟩;exact av.of (bA _ _ du.at_)
   .rintro i v σ I aI bf;ac_rfl
    obtain ⟨bA,dI,gT,dU,eX,rfl⟩:=bf;obtain ⟨qG,f',rfl⟩:=bZ aI;have ah:i < sts.length:=by rw [<- du.bY];exact (cv.mp f').1
    have tW:sts[i]? = some sts[i]:=aZ ah;have nD:ms[i]? = some (ms[i]'(by rw [du.cL];exact ah)):=aZ _;obtain ⟨ax,aK⟩:=du.al i qG _ _ f' nD tW;subst aY;generalize ms[i]'(by rw [du.cL];exact ah)=m at nD ax aK;generalize apq:sts[i]=s at tW ax aK;obtain ⟨blo,VN,bne,bln,uc⟩:=X.bd s (cm tW);have af:=wq (n:=s.lo) (by omega) (by omega);have ao:=wq (n:=s.ah) (by omega) (by omega);have t1:(ab "stage ").length=6:=by ac_nf
    have d7:(ab " ").length=1:=by ac_nf
    have lP:∀ y ∈ dN ds s,y.length <= 8:=fun y a9=>by
     obtain ⟨k,au,rfl⟩:=bJ.mp a9;obtain ⟨d,hd⟩:=uc k au;unfold dW;rw [hd];exact X.nm d (cm hd)
    have m5:(eh cM (dN ds s)).length <= 100:=by
     have:=qc cM 8 (dN ds s) lP;rw [q8] at this;have aM:(dN ds s).length=s.bz.length:=by unfold dN;rw [aP]
     have:(dN ds s).length * 9 <= 72:=by omega
     omega
    nofun;refine ⟨_,cJ.of (bA _ _ ax),rfl,_,_,rfl,_,_,rfl,_,_,rfl,rfl,.inl ⟨_,av.of dI⟩,_,rfl,Om (by omega),x2 _ (by rw [t1];omega),x2 _ (by simp only [pg,t1,d7];omega),_,rfl,Om (by omega),x2 _ (by simp only [pg,t1,d7];omega),x2 _ (by simp only [pg,t1,d7];omega),m,rfl,⟨_,av.of (bA _ _ aK)⟩,?_⟩;refine Gc.lg (xs:=s.bz.map fun k:Nat=>V.int k) (zs:=aW (dN ds s)) (av.of (bA _ _ aK)) (cP (show (s.bz.map fun k:Nat=>V.int k).length <= 8 by rw [aP];exact bln) (by decide)) (by rw [eY,aP];unfold dN;rw [aP]) (fun l v z N aI aO bb=>?_) (fun pl c4=>?_)
    .obtain ⟨k,au,rfl⟩:=bZ aI;unfold aW dN at aO;obtain ⟨y,a9,rfl⟩:=bZ aO;obtain ⟨n0,e2,rfl⟩:=bZ a9;rw [au] at e2;cases e2;obtain ⟨d,hd⟩:=uc k (cm au);obtain ⟨gQ,sH,eq⟩:=pI k d hd;have ajY:dW ds k=d.name:=by unfold dW;rw [hd];rfl
     rw [ajY] at bb;nofun;exact ⟨Sub.name,_,av.of (bA _ _ bY),_,sH,_,rfl,_,cJ.of (bA _ _ eq),_,bt (j:=1) rfl,bb⟩
    .have m_:(dN ds s).length <= 8:=by unfold dN;rw [aP];exact bln
     refine ⟨pl,rfl,dN ds s,av.of db,?_,?_⟩
     .have:=AI lP;rw [d7];omega
     .rw [show p2 (ab " ") (dN ds s)=eh cM (dN ds s) from vW _ _];have tX:=abf ds s bne;have hV:(aW ((hi ds (sts.take i)).map (eh cM))).length <= 8:=by
       unfold aW hi;rw [aP,aP,aP,hE];omega
      refine ⟨x2 _ (by simp only [pg,t1,d7];omega),_,(bq c4) _ _ dI,hg hV (by decide),(bA.trans (bq c4)).ff ho,?_,?_⟩
      .rw [db,tX,od,tW];unfold hi aW;rw [e5,e5,e5];rfl
      .repeat (first | exact ⟨_,rfl⟩ | refine ⟨⟨_,rfl⟩,?_⟩)
   .rintro σ I bf;ac_rfl
    obtain ⟨bA,dI,gT,dU,eX,rfl⟩:=bf;subst aY;rw [aP,du.bY,gF] at dI;exact bL _ _ ⟨bA,dI,_,_,_,rfl⟩
  rintro cb aB ⟨s2,dI,gT,dU,eX,rfl⟩;subst aY;nofun;have i5:∀ y ∈ (hi ds sts).map (eh cM),y.length <= 200:=fun y a9=>by
   obtain ⟨r,fi,rfl⟩:=bJ.mp a9;obtain ⟨s,aC,rfl⟩:=bJ.mp fi;obtain ⟨blo,VN,bne,bln,uc⟩:=X.bd s aC;have af:=wq (n:=s.lo) (by omega) (by omega);have ao:=wq (n:=s.ah) (by omega) (by omega);have lP:∀ y ∈ ih ds s,y.length <= 8:=fun y a9=>by
    unfold ih at a9;rcases gE.mp a9 with z | z
    .have z:y=ab "stage" \/ y=num s.lo\/y=num s.ah:=by simpa using z
     rcases z with rfl | rfl | rfl
     .ac_nf
     .exact cP af (by decide)
     .exact cP ao (by decide)
    .obtain ⟨k,au,rfl⟩:=bJ.mp z;obtain ⟨d,hd⟩:=uc k au;unfold dW;rw [hd];exact X.nm d (cm hd)
   have:=qc cM 8 (ih ds s) lP;rw [q8] at this;have aM:(ih ds s).length <= 11:=by
    unfold ih dN;rw [dZ,aP];show 3 + s.bz.length <= 11;omega
   omega
  refine ⟨_,av.of dI,?_,?_⟩
  .have:=AI i5;rw [show (ab "\n").length=1 by ac_nf];have aM:((hi ds sts).map (eh cM)).length <= 8:=by
    unfold hi;rw [aP,aP];exact ahR
   omega
  .rw [show p2 (ab "\n") ((hi ds sts).map (eh cM))=eh nl ((hi ds sts).map (eh cM)) from vW _ _];exact q _ s2
 .obtain ⟨wl,ds,a6,qs,ms,sts,rfl,L,du,X,bE,q⟩:=h;exact ⟨bE,wl,ds,a6,qs,ms,sts,rfl,L,du,X,fun I bA=>⟨bA,q⟩⟩
noncomputable def jd (ds:List a3) (s:dG):ST:=⟨s.lo,s.ah,dN ds s⟩
noncomputable def bX (ds:List a3) (sts:List dG):List ST:=sts.map (jd ds)
theorem gs (h:ds[i]? = some d):dW ds i=d.name:=by unfold dW;rw [h];rfl
theorem GH (aH:(ds.map (·.name)).Nodup) (ah:i < ds.length) (aJ:j < ds.length) (e:dW ds i=dW ds j):i=j:=by
 rw [gs (aZ ah),gs (aZ aJ)] at e;exact vp aH ah aJ (by rw [mS (aZ ah),mS (aZ aJ)];exact e)
structure cW (n:Int) (ds:List a3) (sts:List dG):Prop where
 aH:(ds.map (·.name)).Nodup
 k2:BB n ds sts
 sl:ds.length <= 6
 bY:1 <= ds.length
 ok:∀ d ∈ ds,pL n d
theorem cW.eF (h:cW n ds sts):(sts.map (·.bz)).flatten.Nodup:=h.k2.bc.pm.nodup_iff.mpr List.nodup_range
theorem cW.lt (h:cW n ds sts) (aC:s ∈ sts) (ah:i ∈ s.bz):i < ds.length:=h.k2.bc.lt (bJ.mpr ⟨s,aC,rfl⟩) ah
theorem cW.len (h:cW n ds sts):sts.length <= 6:=by
 have:=h.k2.bc.len.1;rw [aP] at this;have:=h.sl;omega
theorem cW.jr (h:cW n ds sts):Ko ds sts:=by
 refine ⟨by have:=h.len;omega,fun s aC=>?_,fun d hd=>((ux (h.ok d hd).nm).1).2⟩;have b:=h.k2.bd s aC;have hm:s.bz ∈ sts.map (·.bz):=bJ.mpr ⟨s,aC,rfl⟩;have bp:=h.k2.bc.K7 hm;have:=h.sl;exact ⟨⟨by omega,by omega⟩,⟨by omega,by omega⟩,h.k2.bc.ne _ hm,by omega,fun i ah=>⟨_,aZ (h.lt aC ah)⟩⟩
theorem cW.alL (h:cW n ds sts) (aC:s ∈ sts):(dN ds s).Nodup:=by
 have aj:s.bz.Nodup:=h.eF.sublist (ahn (bJ.mpr ⟨s,aC,rfl⟩));unfold dN;refine al4.mpr (O' (fun {a b} aR ae mL e=>?_) aj);exact mL (GH h.aH (h.lt aC aR) (h.lt aC ae) e)
theorem cW.told (h:cW n ds sts) (aC:sts[i]? = some s) {x:Str} (aj:x ∈ dN ds s):told (bX ds (sts.take i)) x=false:=by
 cases e:My.told (bX ds (sts.take i)) x with
 | false=>rfl
 | true=>
  exfalso;unfold My.told at e;obtain ⟨r,aq,aA⟩:=oY.mp e;obtain ⟨ai,rq,rfl⟩:=bJ.mp aq;have aA:x ∈ dN ds ai:=by simpa [jd] using aA
  obtain ⟨k,au,rfl⟩:=bJ.mp aj;obtain ⟨n0,e2,KD⟩:=bJ.mp aA;have:=GH h.aH (h.lt (vv rq) e2) (h.lt (cm aC) au) KD;subst this;obtain ⟨ah,tW⟩:=cv.mp aC;have hf:=h.eF;rw [<- Uc i sts,e5,ajw,sv ah,tW,e1,oy] at hf;exact (Be.mp hf).2.2 n0 (Ke.mpr ⟨ai.bz,bJ.mpr ⟨ai,rq,rfl⟩,e2⟩) n0 (p1 _ au) rfl
theorem Vb:∀ {r:List Str} {j:Nat} {ms:List Str},(∀ x ∈ r,x ∈ alike)->(ms ++ r).Nodup->rr alike r j ms=.ok (ms ++ r)
 | [],j,ms,_,_=>by
  show q' ms=_;rw [AZ]
 | x :: r,j,ms,aR,aQ=>by
  unfold rr;have aj:x ∉ ms:=fun z=>(Be.mp aQ).2.2 x z x (l5 ..) rfl
  rw [if_pos ⟨aR x (l5 ..),aj⟩,Vb (fun y a9=>aR y (hR _ a9)) (by rw [oC];exact aQ),oC];rfl
theorem cW.left (h:cW n ds sts) (aC:sts[i]? = some s) {x:Str} (aj:x ∈ dN ds s):x ∈ hy ds (bX ds (sts.take i)):=by
 unfold hy;refine f5.mpr ⟨?_,by rw [h.told aC aj];rfl⟩;obtain ⟨k,au,rfl⟩:=bJ.mp aj;have e2:=h.lt (cm aC) au;rw [gs (aZ e2)];exact bJ.mpr ⟨_,fM e2,rfl⟩
theorem cW.aiQ (h:cW n ds sts) (aC:sts[i]? = some s):p_ ds (bX ds (sts.take i)) (ih ds s)=.ok (jd ds s):=by
 have hm:=cm aC;have b:=h.k2.bd s hm;have ct:=h.k2.bc.ne s.bz (bJ.mpr ⟨s,hm,rfl⟩);obtain ⟨k,r,aA⟩:=l_ ct;have lP:dN ds s=dW ds k :: r.map (dW ds):=by unfold dN;rw [aA];rfl
 have hw:ih ds s=ab "stage" :: num s.lo :: num s.ah :: dW ds k :: r.map (dW ds):=by unfold ih;rw [lP];rfl
 have cO:mP ds (hy ds (bX ds (sts.take i))) (ih ds s)=.ok (dN ds s):=by
  have hf:dW ds k ∈ dN ds s:=by rw [lP];exact l5 ..
  have bj:aE (ih ds s) 3=dW ds k:=by rw [hw];rfl
  have cS:(ih ds s).drop 4=r.map (dW ds):=by rw [hw];rfl
  unfold mP;rw [bj,cS,if_pos (h.left aC hf),Vb (fun x aj=>?_) (by have:=h.alL hm;rw [lP] at this;exact this),lP]
  .rfl
  .have qC:x ∈ dN ds s:=by rw [lP];exact hR _ aj
   refine f5.mpr ⟨h.left aC qC,decide_eq_true ?_⟩;obtain ⟨d0,tp,rfl⟩:=bJ.mp aj;have EW:d0 ∈ s.bz:=by rw [aA];exact hR _ tp
   have Mq:k ∈ s.bz:=by rw [aA];exact l5 ..
   have bY:=aZ (h.lt hm Mq);have cL:=aZ (h.lt hm EW);have al:=h.k2.bc.al s.bz (bJ.mpr ⟨s,hm,rfl⟩) d0 EW k Mq _ _ cL bY;show (i3 ds (dW ds d0)).map iA=(i3 ds (dW ds k)).map iA;rw [gs bY,gs cL,iF h.aH bY,iF h.aH cL];have:=sf.mp al;show some (iA _)=some (iA _);unfold iA;by_cases c:(ds[d0]'(h.lt hm EW)).k=2
   .rw [if_pos c,if_pos (this.mp c)]
   .rw [if_neg c,if_neg (fun z=>c (this.mpr z))]
 have h0:aE (ih ds s) 0=ab "stage" := by rw [hw];rfl
 have af:aE (ih ds s) 1=num s.lo:=by rw [hw];rfl
 have ao:aE (ih ds s) 2=num s.ah:=by rw [hw];rfl
 have ax:kM (num s.lo) 1 60=some s.lo:=Pq (rg (by omega) (by omega) (by omega) (by omega));have aK:kM (num s.ah) s.lo 60=some s.ah:=Pq (rg (by omega) (by omega) (by omega) (by omega));unfold p_;rw [h0,af,ao,cO,if_pos (gq.mpr rfl),ax];show (kM (num s.ah) s.lo 60).elim _ _=_;rw [aK];rfl
theorem cW.parse (h:cW n ds sts):∀ (m i:Nat),sts.length - i=m->i <= sts.length->sF ds ((hi ds sts).drop i) i (bX ds (sts.take i))=.ok (bX ds sts)
 | 0,i,hm,ah=>by
  have:i=sts.length:=by omega
  subst this;have aM:(hi ds sts).length=sts.length:=by unfold hi;rw [aP]
  rw [<- aM,wL,aM,gF];rfl
 | m + 1,i,hm,ah=>by
  have et:i < sts.length:=by omega
  have aC:sts[i]? = some sts[i]:=aZ et;have aM:i < (hi ds sts).length:=by unfold hi;rw [aP];exact et
  have bp:(hi ds sts)[i]=ih ds sts[i]:=(cv.mp (show (hi ds sts)[i]? = some (ih ds sts[i]) by unfold hi;rw [cN,aC];rfl)).2;rw [sv aM,bp];unfold sF;have iJ:=h.len;rw [if_neg (by unfold bX;rw [aP,hE];omega),h.aiQ aC];have cE:=h.parse m (i + 1) (by omega) et;rw [iW aC] at cE;unfold bX at cE ⊢;rw [e5] at cE;exact cE
theorem cW.none (h:cW n ds sts):(hy ds (bX ds sts)).head? = tD/\uy ds (bX ds sts)=tD/\tM n ds (bX ds sts)=tD:=by
 refine ⟨?_,?_,?_⟩
 .have:hy ds (bX ds sts)=[]:=by
   unfold hy;refine ES.mpr fun x aj=>?_
   obtain ⟨d,hd,rfl⟩:=bJ.mp aj;obtain ⟨k,au⟩:=iN hd;have eK:=(cv.mp au).1;have hf:=h.k2.bc.pm.mem_iff.mpr (g7.mpr eK);obtain ⟨g,bp,aal⟩:=Ke.mp hf;obtain ⟨s,aC,rfl⟩:=bJ.mp bp;have:My.told (bX ds sts) d.name=true:=by
    unfold My.told;refine oY.mpr ⟨jd ds s,bJ.mpr ⟨s,aC,rfl⟩,?_⟩;have:d.name ∈ dN ds s:=bJ.mpr ⟨k,aal,gs au⟩;simpa [jd] using this
   rw [this];simp
  rw [this];rfl
 .unfold uy;refine It.mpr fun d hd=>?_
  unfold yg;cases au:kP (bX ds sts) d.name with
  | none=>rfl
  | some k=>
   rw [uu];cases aq:(bX ds sts)[k]? with
   | none=>rfl
   | some r=>
    rw [uu];have aj:My.told (bX ds sts) d.name=true:=by
     have:=Nu (bX ds sts) d.name;rw [<- this];unfold kP at au;cases e:cR (hu ((bX ds sts).map (·.mem))) (bH d.name) with
     | none=>rw [e] at au;cases au
     | some v=>rfl
    obtain ⟨n0,df,_,e2,fi,hm⟩:=ph aj;rw [au] at e2;cases e2;rw [aq] at fi;cases fi;obtain ⟨s,aC,rfl⟩:=bZ aq;obtain ⟨i,ah,Cr⟩:=bJ.mp hm;have Tx:=cm aC;have hV:=h.lt Tx ah;rw [gs (aZ hV)] at Cr;obtain ⟨j,aJ⟩:=iN hd;have:i=j:=vp h.aH hV (cv.mp aJ).1 (by rw [mS (aZ hV),mS aJ,Cr]);subst this;have:=h.k2.le s Tx i ah d aJ;show (if s.lo < d.least then some (d,k) else tD)=tD;rw [if_neg (show ¬ s.lo < d.least by omega)]
 .unfold tM;refine It.mpr fun e he=>?_
  obtain ⟨r,k⟩:=e;have aq:r ∈ bX ds sts:=List.fst_mem_of_mem_zipIdx he;obtain ⟨s,aC,rfl⟩:=bJ.mp aq;unfold sL;refine It.mpr fun x aj=>It.mpr fun y a9=>?_
  obtain ⟨i,ah,rfl⟩:=bJ.mp aj;obtain ⟨j,aJ,rfl⟩:=bJ.mp a9;unfold oV;rw [if_neg];rintro ⟨fV,fj⟩;have li:=aZ (h.lt aC ah);have F3:=aZ (h.lt aC aJ);unfold nh at fj;rw [gs li,gs F3,iF h.aH li,iF h.aH F3] at fj;have:=h.k2.bc.CE s.bz (bJ.mpr ⟨s,aC,rfl⟩) i ah j aJ (fun z=>fV (by rw [z])) _ _ li F3;replace fj:mt n _ _=true:=fj;rw [this] at fj;cases fj
def MF (P:Program) (w:World) (t:b7):bW:=fun vs H Q _=>∃ c n ds sts,vs=[.ref c,.str (wv ds sts)]/\f6 t H c n ds/\(4 <= n/\n <= 99)/\cW n ds sts/\aL H/\∀ a I,aN H I->aL I->hD P w t I a c n ds (bX ds sts)->Q (.ref a) I
theorem cW.plain (h:cW n ds sts):∀ r ∈ hi ds sts,r ≠ []/\r.length <= 11/\∀ x ∈ r,pZ x:=fun r aq=>by
 obtain ⟨s,aC,rfl⟩:=bJ.mp aq;obtain ⟨blo,VN,bne,bln,uc⟩:=h.jr.bd s aC;refine ⟨by unfold ih;simp,?_,fun x aj=>?_⟩
 .unfold ih dN;rw [dZ,aP];show 3 + s.bz.length <= 11;omega
 .unfold ih at aj;rcases gE.mp aj with z | z
  .have z:x=ab "stage" \/ x=num s.lo\/x=num s.ah:=by simpa using z
   rcases z with rfl | rfl | rfl
   .unfold pZ;ac_nf
   .exact lZ (by omega) (by omega)
   .exact lZ (by omega) (by omega)
  .obtain ⟨k,au,rfl⟩:=bJ.mp z;obtain ⟨d,hd⟩:=uc k au;rw [gs hd];exact E0 (h.ok d (cm hd)).nm
theorem cW.rows (h:cW n ds sts) (ct:sts ≠ []):hK (wv ds sts)=hi ds sts:=by
 unfold wv;exact Tw (by unfold hi;simpa using ct) (fun r aq=>(h.plain r aq).1) (fun r aq=>(h.plain r aq).2.2)
theorem cW.ne (h:cW n ds sts):sts ≠ []:=fun e=>by
 have:=h.k2.bc.len.2;rw [e] at this;simp at this;have:=h.bY;omega
theorem cW.txt (h:cW n ds sts):(wv ds sts).length <= 20000:=by
 have i5:∀ y ∈ (hi ds sts).map (eh cM),y.length <= 200:=fun y a9=>by
  obtain ⟨r,aq,rfl⟩:=bJ.mp a9;obtain ⟨_,ao,bj⟩:=h.plain r aq;have:=qc cM 8 r fun x aj=>(bj x aj).1
  rw [q8] at this;omega
 have:=qc nl 200 _ i5;rw [xa,aP] at this;have aM:(hi ds sts).length <= 6:=by unfold hi;rw [aP];exact h.len
 unfold wv;omega
theorem afv:cA P base T 7 t.xp t.vB xv (MF P w t):=by
 refine (Yi T).imp fun vs H Q E h=>?_
 obtain ⟨c,n,ds,sts,rfl,C,aQ,X,bE,q⟩:=h;obtain ⟨fV,fj,Q4⟩:=X.none;have ct:∀ d ∈ ds,d.name ≠ ab "" := fun d hd e=>by
  have h:=(ux (X.ok d hd).nm).1.1;rw [e] at h;exact absurd h (by ac_nf)
 have bL:vA ds:=fun d hd=>by
  obtain ⟨af,ao⟩:=ux (X.ok d hd).nm;exact ⟨⟨cP af.2 (by decide),fun c aA=>by have:=ao c aA;omega⟩,(X.ok d hd).k,(X.ok d hd).of.1,by have:=(X.ok d hd).of;omega⟩
 have ar:=X.parse sts.length 0 rfl (gv _);rw [akJ,tl,show bX ds []=[] from rfl] at ar;refine ⟨c,n,ds,_,_,rfl,C,by omega,bL,ct,X.txt,by rw [X.rows X.ne];unfold hi;rw [aP];have:=X.len;omega,fun r aq=>?_,bE,by rw [X.rows X.ne];exact ar,aj8.mp fV,fj,Q4,fun a I ai ew eS=>q a I ai ew eS⟩;rw [X.rows X.ne] at aq;obtain ⟨af,ao,bj⟩:=X.plain r aq;exact ⟨af,by omega,fun y a9=>cP (bj y a9).1 (by decide)⟩
theorem CK (aH:(ds.map (·.name)).Nodup) (aC:∀ i ∈ s.bz,i < ds.length) {k:Nat} (au:ds[k]? = some d):d.name ∈ dN ds s↔k ∈ s.bz:=by
 have eK:=(cv.mp au).1;refine ⟨fun h=>?_,fun h=>bJ.mpr ⟨k,h,gs au⟩⟩;obtain ⟨j,aJ,e⟩:=bJ.mp h;rw [<- gs au] at e;rw [<- GH aH (aC j aJ) eK e];exact aJ
theorem T8 (b:Nat) (l:List Nat):qU (.int (b:Int)) (l.map fun k:Nat=>V.int k)=decide (b ∈ l):=by
 unfold qU;rw [QL,ig];simp only [oY,afZ,jf,beq_iff_eq,decide_eq_true_eq];constructor
 .rintro ⟨y,a9,e⟩;rw [<- acw e];exact a9
 .intro h;exact ⟨b,h,rfl⟩
theorem akN (h0:0 <= i) (af:i < 4):∃ r:Int,(2 <= r/\r <= 20)/\eb [V.int 2,V.int 4,V.int 9,V.int 20] i=some (.int r):=by
 have:i=0\/i=1\/i=2\/i=3:=by omega
 rcases this with rfl | rfl | rfl | rfl
 .exact ⟨2,by decide,bt (j:=0) rfl⟩
 .exact ⟨4,by decide,bt (j:=1) rfl⟩
 .exact ⟨9,by decide,bt (j:=2) rfl⟩
 .exact ⟨20,by decide,bt (j:=3) rfl⟩
def GE (K:bk) (a:Addr) (ns:List Int):bW:=fun vs H Q _=>∃ (turn:Int) (wl:Addr) (ds:List a3),vs=[.ref a,.int turn,.ref wl]/\Sc K a ns H/\(0 <= turn/\turn <= 100)/\ht H wl ds/\ds.length <= 12 /\
 ∀ p xs I,aN H I->aL I->H p=none->I p=some (.lst (aW xs))->xs.length <= 13->(∀ x ∈ xs,x ∈ ds.map (·.name))->Q (.ref p) I
theorem aa0 (a:Addr) (ns:List Int) (hS:ns.length <= 63):cA P base T 2 t.Dd t.z5 Br (GE K a ns):=by
 refine cH (Iq T a ns hS) fun fJ=>?_;exists T.JB.ok Bx,9
 obtain ⟨turn,wl,ds,rfl,S,aoc,JE,gg,q⟩:=h;obtain ⟨qs,kd,o8,lT⟩:=JE;refine ⟨_,(aS (cF (i:=3) Bx.aH (bh bO (gL (ak aD (ak aD (ak aD (ak aD aF))))) (cc fJ aq T.gp T.fF.bG T.gu (ak (aa 0) (ak aD (ak aD aF))))))
   (aS (cF (i:=4) Bx.aH (gL aF))
   (aS (ft fq rfl (lL rfl T.kz (ak (eT gj rfl T.fP fZ (ak (aa 2) aF)) aF)) (b9 (i:=5) Bx.aH) (a5 (dP (cY eE (cc fJ aq T.gp T.fF.bG T.gu (ak (aa 0) (ak (bI d2 (bI d2 aD (bI jZ aD (aa 1))) (aa 5)) (ak (aa 3) aF)))) aD (cu _)) (a5 (ee (gk ip G9 Ql Kl (aa 4) (ak (cc fJ aq T.gp T.fF.bG T.gu (ak (aa 0) (ak (bI d2 (bI d2 aD (aa 1)) (bI jZ aD (aa 5))) (ak (bI d2 (eT gj rfl T.fP fZ (ak (aa 4) aF)) aD) aF)))) (ak (bh ed (bh bO (aa 2) (aa 5)) aD) aF))))) ek)))
   (aS (dP (g5.pt (ou (cY oZ (eT gj rfl T.fP fZ (ak (aa 4) aF)) aD (cu _)) (oi (cY eE (cc fJ aq T.gp T.fF.bG T.gu (ak (aa 0) (ak (bI d2 aD (aa 1)) (ak aD aF)))) aD (cu _))))) (a5 (ee (gk ip kr lx ks (aa 4) (ak (bh bO (aa 4) aD) aF)))) ek)
   (a5 (cy (aa 4))))))),?_⟩
 exists (fun az I=>aN H I/\Sc K a ns I/\∃ qf:Int,(2 <= qf/\qf <= 20)/\az=[~~~a,some (.int turn),~~~wl,some (.int qf),none,none]),3
 ·(nofun; repeat (dsimp only [re];nofun));refine ⟨by decide,fun p ar=>⟨S.new ar,by decide,by decide,by decide,?_⟩⟩;obtain ⟨r,aa',ZQ⟩:=akN (h1 ns 4 (m:=4) (by decide)) (ce ns 4 (m:=4) (by decide));exact ⟨_,av.of db,_,ZQ,bL _ _ ⟨bq ar,S.new ar,r,aa',rfl⟩⟩
 rintro fK H1 ⟨s1,n1,qf,kA,rfl⟩;subst aY;exists (fun az I=>aN H I/\Sc K a ns I/\∃ p,H p=none/\I p=some (.lst (aW []))/\az=[~~~a,some (.int turn),~~~wl,some (.int qf),~~~p,none]),3
 .nofun;exact ⟨by decide,fun p ar=>bL _ _ ⟨s1.trans (bq ar),n1.new ar,p,s1.free ar,db,rfl⟩⟩
 rintro cb aB ⟨s2,lX,p,ar,es,rfl⟩;subst aY;exists (fun az I=>aN H I/\Sc K a ns I/\∃ xs y,xs.length <= 12/\(∀ x ∈ xs,x ∈ ds.map (·.name))/\I p=some (.lst (aW xs))/\az=[~~~a,some (.int turn),~~~wl,some (.int qf),~~~p,y]),3
 .have dI:=s2 _ _ kd;have j1:(qs.map V.ref).length=ds.length:=by rw [aP,o8]
  nofun;refine ⟨_,.inl (av.of dI),by omega,by omega,?_⟩;rw [j1,ma];refine dY.range (fun i σ I=>aN H I/\Sc K a ns I/\∃ xs y,xs.length <= i/\(∀ x ∈ xs,x ∈ ds.map (·.name))/\I p=some (.lst (aW xs))/\σ=[~~~a,some (.int turn),~~~wl,some (.int qf),~~~p,y]) ⟨s2,lX,[],_,gv _,fun x aj=>by simp at aj,es,rfl⟩ ?_ ?_
  .rintro i σ I ah bf;ac_rfl
   obtain ⟨ai,uo,xs,y,h9,iI,eD,rfl⟩:=bf;have hd:=aZ ah;have aU:=aZ (show i < qs.length by omega);have agA:=ai _ _ (lT i _ _ aU hd);have fs:=ai _ _ kd;have pU:(aW xs).length=xs.length:=eY ..;subst aY;nofun;refine dO (decide (dA ns (400 + 17 * turn + (0 + (i:Int))) qf=0)) (fun jC a0=>?_) (fun ae=>?_) (fun ae=>?_)
   ·(nofun; repeat (dsimp only [re];nofun));exact ⟨.inr ⟨by omega,by omega⟩,uo,by omega,by omega,by omega,by simpa using a0⟩
   ·(nofun; repeat (dsimp only [re];nofun));have eB:=h1 ns (900 + turn + 5 * (i:Int)) (m:=(xs.length:Int) + 1) (by omega);have fA:=ce ns (900 + turn + 5 * (i:Int)) (m:=(xs.length:Int) + 1) (by omega);refine ⟨.inl ⟨_,av.of eD⟩,.inl ⟨by omega,by omega⟩,_,.inl (av.of eD),uo,by omega,by omega,by omega,_,av.of fs,_,bt (by rw [cN,aU];rfl),_,rfl,_,cJ.of agA,_,bt (j:=1) rfl,_,eD,?_⟩;rw [pU];generalize dA ns (900 + turn + 5 * (i:Int)) ((xs.length:Int) + 1)=g at eB fA;have et:g.toNat <= xs.length:=by omega
    have e:(aW xs).take g.toNat ++ V.str ds[i].name :: (aW xs).drop g.toNat=aW (ins xs g.toNat ds[i].name):=by
     unfold aW;rw [EF];rfl
    rw [e];refine ⟨eB,by omega,by omega,hg (show xs.length <= 12 by omega) (by decide),ai.ff ar,uo.set eD (by intro _ _ z;cases z),_,by rw [Jz et];omega,fun x aj=>?_,db,_,rfl⟩;rcases nj aj with rfl | aj
    .exact bJ.mpr ⟨_,fM ah,rfl⟩
    .exact iI x aj
   .nofun;exact ⟨ai,uo,xs,by omega,iI,eD,_,rfl⟩
  .rintro σ I bf;ac_rfl
   obtain ⟨ai,uo,xs,y,h9,iI,eD,rfl⟩:=bf;subst aY;exact bL _ _ ⟨ai,uo,xs,y,by omega,iI,eD,rfl⟩
 rintro fS bw ⟨s3,lI,xs,y,h9,iI,jR,rfl⟩;subst aY;exists (fun az I=>aN H I/\Sc K a ns I/\∃ xs y,xs.length <= 13/\(∀ x ∈ xs,x ∈ ds.map (·.name))/\I p=some (.lst (aW xs))/\az=[~~~a,some (.int turn),~~~wl,some (.int qf),~~~p,y]),3
 .have pU:(aW xs).length=xs.length:=eY ..;nofun;refine dO (decide (0 < xs.length) && decide (dA ns (1300 + turn) 7=0)) (fun jC a0=>?_) (fun ae=>?_) (fun ae=>?_)
  ·(nofun; repeat (dsimp only [re];nofun));refine ⟨_,.inl (av.of jR),?_⟩;rw [pU];by_cases cz:0 < xs.length
   .rw [if_pos (decide_eq_true (by omega))];rw [decide_eq_true cz,ky] at a0;exact ⟨lI,by omega,by omega,by decide,a0⟩
   .rw [if_neg (by simpa using cz)];rw [decide_eq_false cz,m'] at a0;exact a0
  .nofun;have h0:0 < xs.length:=by
    rw [g_,decide_eq_true_eq] at ae;exact ae.1
   obtain ⟨x,r,rfl⟩:∃ x r,xs=x :: r:=by
    cases xs with
    | nil=>cases h0
    | cons x r=>exact ⟨x,r,rfl⟩
   refine ⟨.inl ⟨_,av.of jR⟩,_,av.of jR,_,bt (j:=0) rfl,_,jR,by rw [pU];exact hg h9 (by decide),?_⟩;refine bL _ _ ⟨s3.ff ar,lI.set jR (by intro _ _ z;cases z),(x :: r) ++ [x],y,by rw [dZ];exact Nat.succ_le_succ h9,fun z aO=>?_,?_,rfl⟩
   .rcases gE.mp aO with aO | aO
    .exact iI z aO
    .rw [gq.mp aO];exact iI x (.head _)
   .rw [db];unfold aW;rw [e5];rfl
  .nofun;exact bL _ _ ⟨s3,lI,xs,y,by omega,iI,jR,rfl⟩
 rintro kG cI ⟨s4,jL,xs,y,h9,iI,GQ,rfl⟩;subst aY;nofun;exact q p xs cI s4 jL.2 ar GQ h9 iI
theorem P0 (d:a3):eb (h_ d) 0=some (.str (dM d.k)):=bt (j:=0) rfl
theorem OL (d:a3):eb (h_ d) 4=some (.int d.off):=bt (j:=4) rfl
theorem acO (d:a3):eb (h_ d) 5=some (.int d.near):=bt (j:=5) rfl
theorem He:ab "car" ≠ ab "foot" := by ac_nf
theorem BT:ab "car" ≠ ab "tram" := by ac_nf
theorem Ij:ab "foot" ≠ ab "tram" := by ac_nf
theorem NO (x y z:V):lj [] [(bH (ab "car"),x),(bH (ab "foot"),y),(bH (ab "tram"),z)]=[(bH (ab "car"),x),(bH (ab "foot"),y),(bH (ab "tram"),z)]:=by
 unfold lj;simp only [acA,List.foldl_nil];rw [J3 x (k:=bH (ab "car")) (by rfl),J3 y (by simp [cR,He]),J3 z (by simp [cR,BT,Ij])];rfl
theorem abF (au:d.k < 3):cR (lj [] [(bH (ab "car"),V.int 1),(bH (ab "foot"),V.int 0),(bH (ab "tram"),V.int 2)]) (bH (dM d.k))=some (.int (jo d)):=by
 rw [NO];unfold jo
 match h:d.k,au with
 | 0,_=>simp [cR,dM]
 | 1,_=>simp [cR,dM,He]
 | 2,_=>simp [cR,dM,BT,Ij]
theorem EQ (au:d.k < 3):cR (lj [] [(bH (ab "car"),V.int 2),(bH (ab "foot"),V.int d.off),(bH (ab "tram"),V.int 1)]) (bH (dM d.k))=some (.int (jv d)):=by
 rw [NO];unfold jv
 match h:d.k,au with
 | 0,_=>simp [cR,dM]
 | 1,_=>simp [cR,dM,He]
 | 2,_=>simp [cR,dM,BT,Ij]
def FL:bW:=fun vs H Q _=>∃ a d,vs=[.ref a]/\H a=some (.tup (h_ d))/\d.k < 3/\aL H/\Q (.int (jo d)) H
def ah3:bW:=fun vs H Q _=>∃ a d,vs=[.ref a]/\H a=some (.tup (h_ d))/\d.k < 3/\∀ I,aN H I->Q (.int (jo d)) I
def Ia:bW:=fun vs H Q _=>∃ a d,vs=[.ref a]/\H a=some (.tup (h_ d))/\d.k < 3/\aL H/\Q (.int (jv d)) H
def Y1:bW:=fun vs H Q _=>∃ a d,vs=[.ref a]/\H a=some (.tup (h_ d))/\d.k < 3/\∀ I,aN H I->Q (.int (jv d)) I
noncomputable def mC (ds:List a3) (i:Nat):Int:=((ds[i]?).map jv).getD 0
noncomputable def rV (ds:List a3) (i:Nat):Int:=((ds[i]?).map jo).getD 0
noncomputable def G1 (n:Int) (ds:List a3) (k i:Nat):Bool:=match ds[k]?,ds[i]? with
 | some d,some e=>mt n d e
 | _,_=>false
noncomputable def vI (ds:List a3) (i k:Nat):Int:=match ds[k]?,ds[i]? with
 | some d,some e=>d.off - e.near
 | _,_=>0
noncomputable def qX (n:Int) (ds:List a3) (jn:List Nat) (i k:Nat):Bool:=!decide (k ∈ jn) && G1 n ds k i
noncomputable def jX (n:Int) (ds:List a3) (jn:List Nat) (i m:Nat):List Int:=rV ds i :: ((dw m).filter (qX n ds jn i)).map (vI ds i)
noncomputable def lq (n:Int) (ds:List a3) (adW jn:List Nat):List Int:=(0 :: adW.map (mC ds)) ++ jn.flatMap fun i=>jX n ds jn i ds.length
theorem xE (h:ds[i]? = some d):mC ds i=jv d:=by unfold mC;rw [h];rfl
theorem xS (h:ds[i]? = some d):rV ds i=jo d:=by unfold rV;rw [h];rfl
theorem EO {i k:Nat} {d e:a3} (h:ds[k]? = some d) (h':ds[i]? = some e):G1 n ds k i=mt n d e:=by unfold G1;rw [h,h']
theorem Fb {i k:Nat} {d e:a3} (h:ds[k]? = some d) (h':ds[i]? = some e):vI ds i k=d.off - e.near:=by unfold vI;rw [h,h']
theorem Ua (aH:(ds.map (·.name)).Nodup) {i k:Nat} {d e:a3} (h:ds[k]? = some d) (h':ds[i]? = some e):nh n ds d.name e.name=mt n d e:=by unfold nh;rw [iF aH h,iF aH h']
theorem PZ (aH:(ds.map (·.name)).Nodup) {i k:Nat} {d e:a3} (h:ds[k]? = some d) (h':ds[i]? = some e):pW ds d.name e.name=if d.off - e.near > 0 then d.off - e.near else 0:=by unfold pW;rw [iF aH h,iF aH h']
theorem ake (aH:(ds.map (·.name)).Nodup) (aq:∀ i ∈ r.bz,i < ds.length) (aC:∀ i ∈ s.bz,i < ds.length) {x:Int} (aj:x ∈ lq n ds r.bz s.bz):∃ y ∈ iL n ds (dN ds r) (dN ds s),x <= y:=by
 unfold lq at aj;unfold iL;rcases gE.mp aj with h | h
 .rcases fx.mp h with rfl | h
  .exact ⟨0,by simp,p4 _⟩
  .obtain ⟨i,ah,rfl⟩:=bJ.mp h;have hd:=aZ (aq i ah);refine ⟨_,p1 _ (p1 _ (jh _ (bJ.mpr ⟨dW ds i,bJ.mpr ⟨i,ah,rfl⟩,rfl⟩))),?_⟩;rw [xE hd,gs hd];unfold p8;rw [iF aH hd];exact p4 _
 .obtain ⟨i,ah,h⟩:=Cw.mp h;have hd:=aZ (aC i ah);have rx:dW ds i ∈ dN ds s:=bJ.mpr ⟨i,ah,rfl⟩;rcases fx.mp h with rfl | h
  .refine ⟨_,p1 _ (jh _ (bJ.mpr ⟨dW ds i,rx,rfl⟩)),?_⟩;rw [xS hd,gs hd];unfold ru;rw [iF aH hd];exact p4 _
  .obtain ⟨k,au,rfl⟩:=bJ.mp h;obtain ⟨q3,tp⟩:=f5.mp au;have eK:=g7.mp q3;have gr:=aZ eK;unfold qX at tp;rw [g_,EO gr hd] at tp;have amC:k ∉ s.bz:=by simpa using tp.1
   rw [gs hd] at rx;refine ⟨pW ds ds[k].name (ds[i]'(aC i ah)).name,jh _ (Cw.mpr ⟨ds[k].name,bJ.mpr ⟨_,fM eK,rfl⟩,?_⟩),?_⟩
   .unfold oA;rw [if_neg fun z=>amC ((CK aH aC gr).mp z)];exact bJ.mpr ⟨_,f5.mpr ⟨rx,by rw [Ua aH gr hd];exact tp.2⟩,rfl⟩
   .rw [PZ aH gr hd,Fb gr hd];split <;> omega
theorem Zq (aH:(ds.map (·.name)).Nodup) (aq:∀ i ∈ r.bz,i < ds.length) (aC:∀ i ∈ s.bz,i < ds.length) {x:Int} (aj:x ∈ iL n ds (dN ds r) (dN ds s)):∃ y ∈ lq n ds r.bz s.bz,x <= y:=by
 unfold iL at aj;unfold lq;have h0:(0:Int) ∈ (0 :: r.bz.map (mC ds)) ++ s.bz.flatMap fun i=>jX n ds s.bz i ds.length:=p1 _ (l5 ..)
 rcases gE.mp aj with h | h
 .rcases gE.mp h with h | h
  .rcases gE.mp h with h | h
   .rw [gq.mp h];exact ⟨0,h0,p4 _⟩
   .obtain ⟨y,a9,rfl⟩:=bJ.mp h;obtain ⟨i,ah,rfl⟩:=bJ.mp a9;have hd:=aZ (aq i ah);refine ⟨_,p1 _ (hR _ (bJ.mpr ⟨i,ah,rfl⟩)),?_⟩;rw [xE hd,gs hd];unfold p8;rw [iF aH hd];exact p4 _
  .obtain ⟨y,a9,rfl⟩:=bJ.mp h;obtain ⟨i,ah,rfl⟩:=bJ.mp a9;have hd:=aZ (aC i ah);refine ⟨_,jh _ (Cw.mpr ⟨i,ah,l5 ..⟩),?_⟩;rw [xS hd,gs hd];unfold ru;rw [iF aH hd];exact p4 _
 .obtain ⟨y,a9,h⟩:=Cw.mp h;obtain ⟨d,u9,rfl⟩:=bJ.mp a9;obtain ⟨k,gr⟩:=iN u9;have eK:=(cv.mp gr).1;unfold oA at h;by_cases aA:d.name ∈ dN ds s
  .rw [if_pos aA] at h;cases h
  .rw [if_neg aA] at h;obtain ⟨z,aO,rfl⟩:=bJ.mp h;obtain ⟨wX,tP⟩:=f5.mp aO;obtain ⟨i,ah,rfl⟩:=bJ.mp wX;have hd:=aZ (aC i ah);rw [gs hd] at tP ⊢;rw [Ua aH gr hd] at tP;rw [PZ aH gr hd];split
   .refine ⟨vI ds i k,jh _ (Cw.mpr ⟨i,ah,hR _ (bJ.mpr ⟨k,f5.mpr ⟨g7.mpr eK,?_⟩,rfl⟩)⟩),?_⟩
    .unfold qX;rw [g_,EO gr hd];exact ⟨by simpa using fun z=>aA ((CK aH aC gr).mpr z),tP⟩
    .rw [Fb gr hd];exact p4 _
   .exact ⟨0,h0,p4 _⟩
theorem alM (aH:(ds.map (·.name)).Nodup) (aq:∀ i ∈ r.bz,i < ds.length) (aC:∀ i ∈ s.bz,i < ds.length) (bC:kI (iL n ds (dN ds r) (dN ds s)) u) (aI:kI (lq n ds r.bz s.bz) v):u=v:=by
 obtain ⟨y,a9,af⟩:=Zq aH aq aC bC.1;obtain ⟨z,aO,ao⟩:=ake aH aq aC aI.1;have:=aI.2 y a9;have:=bC.2 z aO;omega
theorem ajL (h:qX n ds jn i m=true):jX n ds jn i (m + 1)=jX n ds jn i m ++ [vI ds i m]:=by
 unfold jX;rw [q5,aiz,e5];simp [h]
theorem acR (h:qX n ds jn i m=false):jX n ds jn i (m + 1)=jX n ds jn i m:=by
 unfold jX;rw [q5,aiz,e5];simp [h]
theorem Wo (n:Int) (ds:List a3) (jn:List Nat) (i m:Nat):(jX n ds jn i m).length <= m + 1:=by
 unfold jX;rw [gP,aP];have:=yk (qX n ds jn i) (dw m);rw [kH] at this;omega
theorem MN (n:Int) (ds:List a3) (jn:List Nat) (m:Nat):∀ l:List Nat,(l.flatMap fun i=>jX n ds jn i m).length <= l.length * (m + 1)
 | []=>by simp
 | i :: l=>by
  rw [qQ,dZ,gP,Gp];have:=MN n ds jn m l;have:=Wo n ds jn i m;omega
def WE (K:bk):bW:=fun vs H Q _=>∃ n wl ds a6 qs ms sts,∃ i j:Nat,∃ r s,vs=[.int n,.ref wl,.ref a6,.int i,.int j]/\ht H wl ds/\jb H a6 qs ms sts/\cW n ds sts/\sts[i]? = some r/\sts[j]? = some s/\aL H/\∀ v,kI (lq n ds r.bz s.bz) v->Q (.int v) H
def ag0 (K:bk):bW:=fun vs H Q _=>∃ n wl ds a6 qs ms sts,∃ i j:Nat,∃ r s,vs=[.int n,.ref wl,.ref a6,.int i,.int j]/\ht H wl ds/\jb H a6 qs ms sts/\cW n ds sts/\sts[i]? = some r/\sts[j]? = some s/\aL H/\∀ v I,aN H I->kI (lq n ds r.bz s.bz) v->Q (.int v) I
theorem Th:cA P base T 1 t.zu t.BI mV FL:=by
 refine cK.forget (sp:=ah3) ?_ fun vs H Q E h=>?_
 .exists T.BA.ok aa1,9
  obtain ⟨a,d,rfl,hw,e8,q⟩:=h;have bC:=gO aq;refine ⟨_,(a5 (cy (o4 bC (LR (qV cZ aD (qV cZ aD (qV cZ aD Ih))) rfl rfl (by simp) (by decide)) (bh ed (aa 0) aD) (fun _ _=>rfl)))),?_⟩;nofun;simp only [vl];nofun;intro p ar;have s2:aN H (upd (upd H p (.bu [])) p (.bu (lj [] [(bH (ab "car"),V.int 1),(bH (ab "foot"),V.int 0),(bH (ab "tram"),V.int 2)]))):=(bq ar).ff ar;refine ⟨db,[(bH (ab "car"),V.int 1),(bH (ab "foot"),V.int 0),(bH (ab "tram"),V.int 2)],rfl,by show 3 <= 15;decide,_,cJ.of (s2 _ _ hw),_,P0 d,.int (jo d),?_,q _ s2⟩;have:=gM.k (k:=bH (dM d.k)) (db (H:=upd H p (.bu [])) (a:=p) (o:=.bu (lj [] [(bH (ab "car"),V.int 1),(bH (ab "foot"),V.int 0),(bH (ab "tram"),V.int 2)])));rw [abF e8] at this;exact this
 .obtain ⟨a,d,rfl,hw,e8,bE,q⟩:=h;exact ⟨bE,a,d,rfl,hw,e8,fun I bA=>⟨bA,q⟩⟩
theorem P2:cA P base T 1 t.zU t.zW mV Ia:=by
 refine cK.forget (sp:=Y1) ?_ fun vs H Q E h=>?_
 .exists T.yI.ok amo,9
  obtain ⟨a,d,rfl,hw,e8,q⟩:=h;have bC:=gO aq;refine ⟨_,(a5 (cy (o4 bC (LR (qV cZ aD (qV cZ (bh ed (aa 0) aD) (qV cZ aD Ih))) rfl rfl (by simp) (by decide)) (bh ed (aa 0) aD) (fun _ _=>rfl)))),?_⟩;nofun;simp only [vl];nofun;intro p ar;have s0:=bq (o:=.bu []) ar;have s2:aN H (upd (upd H p (.bu [])) p (.bu (lj [] [(bH (ab "car"),V.int 2),(bH (ab "foot"),V.int d.off),(bH (ab "tram"),V.int 1)]))):=s0.ff ar;refine ⟨_,cJ.of (s0 _ _ hw),_,OL d,db,[(bH (ab "car"),V.int 2),(bH (ab "foot"),V.int d.off),(bH (ab "tram"),V.int 1)],rfl,by show 3 <= 15;decide,_,cJ.of (s2 _ _ hw),_,P0 d,.int (jv d),?_,q _ s2⟩;have:=gM.k (k:=bH (dM d.k)) (db (H:=upd H p (.bu [])) (a:=p) (o:=.bu (lj [] [(bH (ab "car"),V.int 2),(bH (ab "foot"),V.int d.off),(bH (ab "tram"),V.int 1)])));rw [EQ e8] at this;exact this
 .obtain ⟨a,d,rfl,hw,e8,bE,q⟩:=h;exact ⟨bE,a,d,rfl,hw,e8,fun I bA=>⟨bA,q⟩⟩
theorem akn:cA P base T 2 t.Ie t.E9 Hn (WE K):=by
 refine cK.forget (sp:=ag0 K) ?_ fun vs H Q E h=>?_
 .have JS:cK P w K mg base dE 1 t.zu t.BI mV FL:=Th T;have HR:cK P w K mg base dE 1 t.zU t.zW mV Ia:=P2 T;have JP:cK P w K mg base dE 1 t.Bc t.z0 AO (PW K):=Sf T;exists T.JC.ok wG,9
  obtain ⟨n,wl,ds,a6,qs,ms,sts,i,j,r,s,rfl,⟨kU,bY,cL,xb⟩,du,X,hH,v8,bE,q⟩:=h;have bC:=gO aq;have Cd:=OM aq;have iJ:=X.sl;have pI:∀ (i:Nat) (d:a3),ds[i]? = some d->∃ gQ,eb (kU.map V.ref) (i:Int)=some (.ref gQ)/\H gQ=some (.tup (h_ d)):=fun i d hd=>by
   have f':kU[i]? = some (kU[i]'(by rw [cL];exact (cv.mp hd).1)):=aZ _;exact ⟨_,bt (by rw [cN,f'];rfl),xb i _ d f' hd⟩
  have PH:∀ (i:Nat) (s:dG),sts[i]? = some s->∃ kp m,eb (qs.map V.ref) (i:Int)=some (.ref kp)/\H kp=some (.tup [.int s.lo,.int s.ah,.ref m])/\H m=some (.lst (s.bz.map fun k:Nat=>V.int k)):=fun i s aC=>by
   have hV:=(cv.mp aC).1;have f':qs[i]? = some (qs[i]'(by rw [du.bY];exact hV)):=aZ _;have nD:ms[i]? = some (ms[i]'(by rw [du.cL];exact hV)):=aZ _;obtain ⟨ax,aK⟩:=du.al i _ _ _ f' nD aC;exact ⟨_,_,bt (by rw [cN,f'];rfl),ax,aK⟩
  obtain ⟨apH,aiW,aaa,wx,Qm⟩:=PH i r hH;obtain ⟨kp,m6,as,ba,L7⟩:=PH j s v8;have Y7:∀ i ∈ r.bz,i < ds.length:=fun i ah=>X.lt (cm hH) ah
  have aew:∀ i ∈ s.bz,i < ds.length:=fun i ah=>X.lt (cm v8) ah
  have an7:=(X.jr.bd r (cm hH)).2.2.2.1;have am3:=(X.jr.bd s (cm v8)).2.2.2.1;have iv:(kU.map V.ref).length=ds.length:=by rw [aP,cL]
  refine ⟨_,(aS (cF (i:=5) wG.aH (gL (ak aD aF)))
   (aS (ft fq rfl (d6 (bh ed (bh bO (aa 2) (aa 3)) aD)) (b9 (i:=6) wG.aH) (a5 (ee (gk ip kr lx ks (aa 5) (ak (cc HR aq T.V6 T.yI.bG T.Vk (ak (bh bO (aa 1) (aa 6)) aF)) aF)))))
   (aS (ft fq rfl (d6 (bh ed (bh bO (aa 2) (aa 4)) aD)) (b9 (i:=6) wG.aH) (aS (ee (gk ip kr lx ks (aa 5) (ak (cc JS aq T.At T.BA.bG T.UY (ak (bh bO (aa 1) (aa 6)) aF)) aF)))
   (a5 (ft fq rfl (lL rfl T.kz (ak (eT gj rfl T.fP fZ (ak (aa 1) aF)) aF)) (b9 (i:=7) wG.aH) (a5 (dP (g5.pt (ou (cY CV (aa 7) (bh ed (bh bO (aa 2) (aa 4)) aD) (by with_unfolding_all rfl)) (oi (lR (cc JP aq T.NG T.Tl.bG T.S3 (ak (bh bO (aa 1) (aa 7)) (ak (bh bO (aa 1) (aa 6)) (ak (aa 0) aF)))))))) (a5 (ee (gk ip kr lx ks (aa 5) (ak (bI lS (bh ed (bh bO (aa 1) (aa 7)) aD) (bh ed (bh bO (aa 1) (aa 6)) aD)) aF)))) ek))))))
   (a5 (cy (eT (DU rfl) rfl T.De Aa (ak (aa 5) aF))))))),?_⟩
  exists (fun az I=>aN H I/\aL I/\∃ c0,H c0=none/\I c0=some (.lst ([(0:Int)].map V.int))/\az=[some (.int n),~~~wl,~~~a6,some (.int i),some (.int j),~~~c0,none,none]),3
  .nofun;exact ⟨by decide,fun c0 jk=>bL _ _ ⟨bq jk,bE.upd,c0,jk,db,rfl⟩⟩
  rintro fK H1 ⟨s1,cB,c0,jk,dH,rfl⟩;subst aY;exists (fun az I=>aN H I/\aL I/\I c0=some (.lst ((0 :: r.bz.map (mC ds)).map V.int))/\∃ c7,az=[some (.int n),~~~wl,~~~a6,some (.int i),some (.int j),~~~c0,c7,none]),3
  .nofun;refine ⟨_,av.of (s1 _ _ du.at_),_,aaa,_,rfl,_,cJ.of (s1 _ _ wx),_,bt (j:=2) rfl,aiW,rfl,⟨_,av.of (s1 _ _ Qm)⟩,?_⟩;refine dY.list (xs:=r.bz.map fun k:Nat=>V.int k) (fun a σ I=>aN H I/\aL I/\I c0=some (.lst ((0 :: (r.bz.take a).map (mC ds)).map V.int))/\∃ c7,σ=[some (.int n),~~~wl,~~~a6,some (.int i),some (.int j),~~~c0,c7,none]) ⟨s1,cB,dH,_,rfl⟩ (fun a σ I aR ⟨s2,_⟩=>av.of (s2 _ _ Qm)) ?_ ?_
   .rintro a x σ I aj bf;ac_rfl
    obtain ⟨s2,cD,dI,c7,rfl⟩:=bf;obtain ⟨k,au,rfl⟩:=bZ aj;obtain ⟨d,hd⟩:∃ d,ds[k]? = some d:=⟨_,aZ (Y7 k (cm au))⟩;obtain ⟨gQ,sH,eq⟩:=pI k d hd;have eU:=X.ok d (cm hd);have YD:((0 :: (r.bz.take a).map (mC ds)).map V.int).length <= 9:=by
     rw [aP,gP,aP,hE];omega
    subst aY;nofun;refine ⟨.inl ⟨_,av.of dI⟩,_,av.of (s2 _ _ bY),_,sH,gQ,d,rfl,s2 _ _ eq,eU.k,cD,_,dI,hg YD (by decide),s2.ff jk,cD.upd,?_,_,rfl⟩;rw [db,iW au,e5,e5,<- xE hd];rfl
   .rintro σ I bf;ac_rfl
    obtain ⟨s2,cD,dI,c7,rfl⟩:=bf;subst aY;rw [aP,gF] at dI;exact bL _ _ ⟨s2,cD,dI,_,rfl⟩
  rintro cb aB ⟨s2,cD,dI,c7,rfl⟩;subst aY;exists (fun az I=>aN H I/\aL I/\I c0=some (.lst ((lq n ds r.bz s.bz).map V.int))/\∃ c7 dt,az=[some (.int n),~~~wl,~~~a6,some (.int i),some (.int j),~~~c0,c7,dt]),3
  .nofun;refine ⟨_,av.of (s2 _ _ du.at_),_,as,_,rfl,_,cJ.of (s2 _ _ ba),_,bt (j:=2) rfl,m6,rfl,⟨_,av.of (s2 _ _ L7)⟩,?_⟩;refine dY.list (xs:=s.bz.map fun k:Nat=>V.int k) (fun a σ I=>aN H I/\aL I/\I c0=some (.lst (((0 :: r.bz.map (mC ds)) ++ (s.bz.take a).flatMap fun i=>jX n ds s.bz i ds.length).map V.int))/\∃ c7 dt,σ=[some (.int n),~~~wl,~~~a6,some (.int i),some (.int j),~~~c0,c7,dt]) ⟨s2,cD,by rw [dI];simp,_,_,rfl⟩ (fun a σ I aR ⟨s2,_⟩=>av.of (s2 _ _ L7)) ?_ ?_
   .rintro a x σ I aj bf;ac_rfl
    obtain ⟨s3,dp,fQ,c7,dt,rfl⟩:=bf;obtain ⟨k,au,rfl⟩:=bZ aj;obtain ⟨d,hd⟩:∃ d,ds[k]? = some d:=⟨_,aZ (aew k (cm au))⟩;obtain ⟨gQ,sH,eq⟩:=pI k d hd;have eU:=X.ok d (cm hd);have i8:a < s.bz.length:=(cv.mp au).1;have hlen:((0 :: r.bz.map (mC ds)) ++ (s.bz.take a).flatMap fun i=>jX n ds s.bz i ds.length).length <= 9 + 7 * 7:=by
     rw [dZ,gP,aP];have af:=MN n ds s.bz ds.length (s.bz.take a);rw [hE] at af;have ao:(min a s.bz.length) * (ds.length + 1) <= 7 * 7:=Nat.mul_le_mul (by omega) (by omega);omega
    subst aY;generalize akW:((0 :: r.bz.map (mC ds)) ++ (s.bz.take a).flatMap fun i=>jX n ds s.bz i ds.length)=rP at fQ hlen;simp only [hN,dx,nk,nu];exists (fun az I=>aN H I/\aL I/\I c0=some (.lst ((rP ++ [rV ds k]).map V.int))/\az=[some (.int n),~~~wl,~~~a6,some (.int i),some (.int j),~~~c0,some (.int (k:Int)),dt]),2
    .nofun;refine ⟨.inl ⟨_,av.of fQ⟩,_,av.of (s3 _ _ bY),_,sH,gQ,d,rfl,s3 _ _ eq,eU.k,dp,_,fQ,hg (show (rP.map V.int).length <= 58 by rw [aP];exact hlen) (by decide),dF _ _ ⟨s3.ff jk,dp.upd,?_,rfl⟩⟩;rw [db,e5,xS hd];rfl
    rintro kG cI ⟨s4,dK,hA,rfl⟩;subst aY;nofun;refine ⟨_,.inl (av.of (s4 _ _ bY)),by omega,by rw [iv];omega,?_⟩;rw [show (((kU.map V.ref).length:Nat):Int).toNat=ds.length by rw [iv];rfl];refine dY.range (fun b σ I=>aN H I/\aL I/\I c0=some (.lst ((rP ++ jX n ds s.bz k b).map V.int))/\∃ dt,σ=[some (.int n),~~~wl,~~~a6,some (.int i),some (.int j),~~~c0,some (.int (k:Int)),dt]) ⟨s4,dK,hA,_,rfl⟩ ?_ ?_
    .rintro b σ dj ae bf;ac_rfl
     obtain ⟨s5,hh,sh,aaE,rfl⟩:=bf;have il:ds[b]? = some ds[b]:=aZ ae;subst aY;generalize ds[b]=e at il;obtain ⟨ahw,V2,fh⟩:=pI b e il;have agt:=X.ok e (cm il);have ak4:((rP ++ jX n ds s.bz k b).map V.int).length <= 70:=by
      rw [aP,dZ];have:=Wo n ds s.bz k b;omega
     simp only [hN,nk,nu,sx];refine dO (qX n ds s.bz k b) (fun Q a0=>?_) (fun z=>?_) (fun z=>?_)
     .nofun;refine ⟨_,av.of (s5 _ _ du.at_),_,as,_,rfl,_,cJ.of (s5 _ _ ba),_,bt (j:=2) rfl,_,rfl,_,.inl (av.of (s5 _ _ L7)),rfl,by simp [kn],?_⟩;have nP:=a0;unfold qX at nP;rw [EO il hd] at nP;rw [T8];by_cases hm:b ∈ s.bz
      .rw [decide_eq_true hm] at nP ⊢;rw [if_neg (by decide)];exact nP
      .rw [decide_eq_false hm] at nP ⊢;rw [if_pos (by decide)];exact ⟨_,av.of (s5 _ _ bY),_,V2,_,av.of (s5 _ _ bY),_,sH,n,ahw,gQ,e,d,rfl,cJ.of (s5 _ _ fh),cJ.of (s5 _ _ eq),agt,eU,mt n e d,rfl,nP⟩
     .nofun;refine ⟨.inl ⟨_,av.of sh⟩,_,av.of (s5 _ _ bY),_,V2,_,rfl,_,cJ.of (s5 _ _ fh),_,OL e,_,av.of (s5 _ _ bY),_,sH,_,rfl,_,cJ.of (s5 _ _ eq),_,acO d,_,rfl,_,rfl,_,sh,hg ak4 (by decide),s5.ff jk,hh.upd,?_,_,rfl⟩;rw [db,ajL z,<- oC,e5 (l₁:=rP ++ jX n ds s.bz k b),Fb il hd];rfl
     .simp only [hr];exact ⟨s5,hh,by rw [sh,acR z],_,rfl⟩
    .rintro σ dj bf;ac_rfl
     obtain ⟨s5,hh,sh,aaE,rfl⟩:=bf;subst aY;refine ⟨s5,hh,?_,_,_,rfl⟩;rw [sh,<- akW,iW au];simp [sA]
   .rintro σ I bf;ac_rfl
    obtain ⟨s2,cD,dI,c7,dt,rfl⟩:=bf;subst aY;rw [aP,gF] at dI;exact bL _ _ ⟨s2,cD,dI,_,_,rfl⟩
  rintro fS bw ⟨s3,dp,fQ,c7,dt,rfl⟩;subst aY;nofun;obtain ⟨nr,af,ao⟩:=z7 (lq n ds r.bz s.bz) (by unfold lq;simp);exact ⟨_,av.of fQ,nr,af,ao,q nr bw s3 ⟨af,ao⟩⟩
 .obtain ⟨n,wl,ds,a6,qs,ms,sts,i,j,r,s,rfl,L,du,X,hH,v8,bE,q⟩:=h;exact ⟨bE,n,wl,ds,a6,qs,ms,sts,i,j,r,s,rfl,L,du,X,hH,v8,bE,fun v I bA aI=>⟨bA,q v aI⟩⟩
noncomputable def eR (wi:List Nat):List (Key × V):=wi.map fun i:Nat=>(hz (i:Int),V.br true)
noncomputable def dr (s:dd) (cg:Int) (a':Addr):List V:=[nc s.bP,.int s.cp,.int s.lf,.int s.bc,.int s.b2,.int cg,.ref a',.int s.po,.int s.pt]
noncomputable def f9 (sts:List dG) (j:Nat):List Nat:=((sts[j]?).map (·.bz)).getD []
theorem lB {x:dG} (h:sts[j]? = some x):f9 sts j=x.bz:=by unfold f9;rw [h];rfl
noncomputable def yd (ds:List a3) (sts:List dG) (i k:Nat):Str:=if k ∈ f9 sts i then ab "free" else ab "stop"
noncomputable def ur (ds:List a3) (sts:List dG) (s:dd) (m k:Nat):Str:=if k ∈ (f9 sts s.lf).take m/\s.b2 < mC ds k then ab "fade" else ab "stop"
noncomputable def wh (ds:List a3) (sts:List dG) (s:dd) (cg:Int) (m k:Nat):Str:=if k ∈ (f9 sts s.bc).take m/\cg - s.b2 <= rV ds k then ab "ready" else ur ds sts s (f9 sts s.lf).length k
noncomputable def iz (ds:List a3) (sts:List dG) (s:dd) (cg:Int) (k:Nat):Str:=match s.bP with
 | some i=>yd ds sts i k
 | none=>wh ds sts s cg (f9 sts s.bc).length k
theorem IM (h:j < n):p3 n (j:Int)=some j:=by unfold p3;simp;omega
noncomputable def i_ (n:Nat) (f:Nat->Str):List V:=aW ((dw n).map f)
theorem amz:(i_ n f).set i (.str v)=i_ n fun k=>if k=i then v else f k:=by
 unfold i_ aW;rw [me,me];apply G6;intro k;rw [List.getElem?_set];by_cases h:i=k
 .subst h;by_cases aM:i < n
  .simp [aM]
  .simp [aM]
 .have h':¬ k=i:=fun z=>h z.symm
  by_cases aM:k < n
  .simp [h,h',aM]
  .simp [h,h',aM]
theorem aac (n:Nat):kC n (V.str (ab "stop"))=i_ n fun _=>ab "stop" := by
 unfold i_ aW;rw [me];apply G6;intro k;by_cases aM:k < n
 .simp [aM]
 .simp [aM]
theorem ag3 (n:Nat) (f:Nat->Str):(i_ n f).length=n:=by
 unfold i_;rw [eY,aP,kH]
theorem rj {H:aw} {a6:Addr} {qs ms:List Addr} {sts:List dG} (h:jb H a6 qs ms sts) {j:Nat} {x:dG} (aj:sts[j]? = some x):∃ q m,qs[j]? = some q/\H q=some (.tup [.int x.lo,.int x.ah,.ref m])/\H m=some (.lst (x.bz.map fun k:Nat=>V.int k)):=by
 have aM:=(cv.mp aj).1;have af:=aZ (show j < qs.length by rw [h.bY];exact aM);have ao:=aZ (show j < ms.length by rw [h.cL];exact aM);obtain ⟨ax,aK⟩:=h.al j _ _ x af ao aj;exact ⟨_,_,af,ax,aK⟩
noncomputable def mv (n:Nat) (l:List Nat) (j:Nat) (g:Nat->Bool) (a:Str) (f:Nat->Str):List V:=i_ n fun i=>if i ∈ l.take j/\g i=true then a else f i
theorem Gu:mv n l 0 g a f=i_ n f:=by
 exact congrArg (i_ n) (funext fun i=>by simp)
theorem Fu {f h:Nat->Str} (e:∀ i,(if i ∈ l/\g i=true then a else f i)=h i):mv n l l.length g a f=i_ n h:=by
 unfold mv;rw [gF];congr 1;funext i;exact e i
theorem F':(mv n l j g a f).length=n:=ag3 ..
theorem L9 {j k:Nat} (au:l[j]? = some k) (bp:g k=true):(mv n l j g a f).set k (.str a)=mv n l (j + 1) g a f:=by
 unfold mv;rw [amz];congr 1;funext i;rw [iW au];by_cases h:i=k
 .subst h;simp [bp]
 .simp [h]
theorem S1 {j k:Nat} (au:l[j]? = some k) (bp:g k=false):mv n l j g a f=mv n l (j + 1) g a f:=by
 unfold mv;congr 1;funext i;rw [iW au];by_cases h:i=k
 .subst h;simp [bp]
 .simp [h]
def T_ (K:bk):bW:=fun vs H Q _=>∃ wl a6 np a' ds qs ms sts n s cg,vs=[.ref wl,.ref a6,.ref np]/\ht H wl ds/\jb H a6 qs ms sts/\cW n ds sts/\H np=some (.lst (dr s cg a'))/\(∀ i,s.bP=some i->i < sts.length)/\(s.bP=none->s.lf < sts.length/\s.bc < sts.length)/\aL H /\
 ∀ p I,aN H I->aL I->H p=none->I p=some (.lst (i_ ds.length (iz ds sts s cg)))->Q (.ref p) I
theorem PN:cA P base T 2 t.A_ t.Ct rO (T_ K):=by
 refine cH (Th T) fun JS=>cH (P2 T) fun HR=>?_;exists T.A1.ok w5,9
 obtain ⟨wl,a6,np,a',ds,qs,ms,sts,n,ai,cg,rfl,JE,du,X,aQ,Bd,jT,bE,q⟩:=h;obtain ⟨gQ,kd,o8,lT⟩:=id JE;have gn:(gQ.map V.ref).length=ds.length:=by rw [aP,o8]
 have bC:=gO aq;refine ⟨_,(aS (cF (i:=3) w5.aH (bI YV (gL (ak cZ aF)) (eT gj rfl T.fP fZ (ak (aa 0) aF))))
   (aS (dP (cY F6 (bh bO (aa 2) aD) n7 (cu _)) (aS (ft fq rfl (d6 (bh ed (bh bO (aa 1) (bh bO (aa 2) aD)) aD)) (b9 (i:=4) w5.aH) (a5 (kB cZ (l3 (aa 3) (aa 4) lF))))
   (a5 (cy (aa 3)))) ek)
   (aS (ft fq rfl (d6 (bh ed (bh bO (aa 1) (bh bO (aa 2) aD)) aD)) (b9 (i:=4) w5.aH) (a5 (dP (cY lp (bh bO (aa 2) aD) (cc HR aq T.V6 T.yI.bG T.Vk (ak (bh bO (aa 0) (aa 4)) aF)) (cu _)) (a5 (kB cZ (l3 (aa 3) (aa 4) lF))) ek)))
   (aS (ft fq rfl (d6 (bh ed (bh bO (aa 1) (bh bO (aa 2) aD)) aD)) (b9 (i:=4) w5.aH) (a5 (dP (cY RL (bI lS (bh bO (aa 2) aD) (bh bO (aa 2) aD)) (cc JS aq T.At T.BA.bG T.UY (ak (bh bO (aa 0) (aa 4)) aF)) (cu _)) (a5 (kB cZ (l3 (aa 3) (aa 4) lF))) ek)))
   (a5 (cy (aa 3))))))),?_⟩
 exists (fun az I=>aN H I/\aL I/\∃ p,H p=none/\I p=some (.lst (i_ ds.length fun _=>ab "stop"))/\az=[~~~wl,~~~a6,~~~np,~~~p,none]),3
 .nofun;refine ⟨by decide,fun EM g4=>⟨_,.inl (av.of ((bq g4) _ _ kd)),_,db,by omega,by have:=X.sl;omega,?_,fun p ar=>?_⟩⟩
  .rw [gn,ma];exact cP (show 1 * ds.length <= 6 by have:=X.sl;omega) (by decide)
  .have jB:H p=none:=(bq g4).free ar;rw [gn,ma];refine bL _ _ ⟨(bq g4).trans (bq ar),bE.upd.upd,p,jB,?_,rfl⟩;rw [db,<- aac,List.flatten_replicate_singleton]
 rintro fK H1 ⟨s1,cB,p,ar,fk,rfl⟩;have o5:=s1 _ _ aQ;subst aY;cases dz:ai.bP with
 | some i=>
  have ah:=Bd i dz;have aj:=aZ ah;obtain ⟨kp,bA,bR,dS,fD⟩:=rj du aj;have lC:eb (dr ai cg a') 0=some (.int (i:Nat)):=bt (j:=0) (by unfold dr;rw [dz];rfl);nofun;refine dO true (fun Q a0=>?_) (fun _=>?_) (fun aA=>nomatch aA)
  .nofun;exact ⟨_,av.of o5,_,lC,a0⟩
  simp only [dx];exists (fun az I=>aN H I/\aL I/\I p=some (.lst (i_ ds.length (iz ds sts ai cg)))/\∃ y,az=[~~~wl,~~~a6,~~~np,~~~p,y]),0
  .nofun;refine ⟨_,av.of o5,_,lC,_,_,rfl,av.of (s1 _ _ du.at_),_,bt (by rw [cN,bR];rfl),_,rfl,_,cJ.of (s1 _ _ dS),_,bt (j:=2) rfl,_,rfl,⟨_,av.of (s1 _ _ fD)⟩,?_⟩;refine dY.list (xs:=sts[i].bz.map fun k:Nat=>V.int k) (fun j σ I=>aN H I/\aL I/\I p=some (.lst (mv ds.length sts[i].bz j (fun _=>true) (ab "free") fun _=>ab "stop"))/\∃ y,σ=[~~~wl,~~~a6,~~~np,~~~p,y]) ?_ ?_ ?_ ?_
   .exact ⟨s1,cB,by rw [Gu];exact fk,_,rfl⟩
   .rintro j σ I aJ ⟨gb,_⟩;exact av.of (gb _ _ fD)
   .rintro j v σ I aI bf;ac_rfl
    obtain ⟨gb,ew,eD,y,rfl⟩:=bf;obtain ⟨k,au,rfl⟩:=bZ aI;have eK:=X.lt (fM ah) (cm au);subst aY;nofun;exact ⟨_,eD,_,IM (by rw [F'];exact eK),gb.ff ar,ew.upd,by rw [db,L9 au rfl],_,rfl⟩
   .rintro σ I bf;ac_rfl
    obtain ⟨gb,ew,eD,y,rfl⟩:=bf;subst aY;rw [aP,Fu (h:=iz ds sts ai cg) (fun k=>by unfold iz;rw [dz];show _=yd ds sts i k;unfold yd;rw [lB aj];simp)] at eD;exact bL _ _ ⟨gb,ew,eD,y,rfl⟩
  rintro cb aB ⟨s2,cD,es,y,rfl⟩;subst aY;nofun;exact q p aB s2 cD ar es
 | none=>
  obtain ⟨oJ,lJ⟩:=jT dz;have aj:=aZ oJ;obtain ⟨kp,bA,bR,dS,fD⟩:=rj du aj;have a9:=aZ lJ;obtain ⟨Q6,m6,aib,aj4,OZ⟩:=rj du a9;have lC:eb (dr ai cg a') 0=some .b4:=bt (j:=0) (by unfold dr;rw [dz];rfl);have cD:eb (dr ai cg a') 2=some (.int (ai.lf:Nat)):=bt (j:=2) rfl;have dp:eb (dr ai cg a') 3=some (.int (ai.bc:Nat)):=bt (j:=3) rfl;have dK:eb (dr ai cg a') 4=some (.int ai.b2):=bt (j:=4) rfl;have hh:eb (dr ai cg a') 5=some (.int cg):=bt (j:=5) rfl;nofun;refine dO false (fun Q a0=>?_) (fun aA=>nomatch aA) (fun _=>?_)
  .nofun;exact ⟨_,av.of o5,_,lC,a0⟩
  simp only [hr,dx];exists (fun az I=>aN H I/\aL I/\I p=some (.lst (i_ ds.length (ur ds sts ai (f9 sts ai.lf).length)))/\∃ y,az=[~~~wl,~~~a6,~~~np,~~~p,y]),0
  .nofun;refine ⟨_,av.of o5,_,cD,_,_,rfl,av.of (s1 _ _ du.at_),_,bt (by rw [cN,bR];rfl),_,rfl,_,cJ.of (s1 _ _ dS),_,bt (j:=2) rfl,_,rfl,⟨_,av.of (s1 _ _ fD)⟩,?_⟩;refine dY.list (xs:=sts[ai.lf].bz.map fun k:Nat=>V.int k) (fun j σ I=>aN H I/\aL I/\I p=some (.lst (mv ds.length sts[ai.lf].bz j (fun k=>decide (ai.b2 < mC ds k)) (ab "fade") (fun _=>ab "stop")))/\∃ y,σ=[~~~wl,~~~a6,~~~np,~~~p,y]) ?_ ?_ ?_ ?_
   .exact ⟨s1,cB,by rw [Gu];exact fk,_,rfl⟩
   .rintro j σ I aJ ⟨ai,_⟩;exact av.of (ai _ _ fD)
   .rintro j v σ I aI bf;ac_rfl
    obtain ⟨gb,ew,eD,y,rfl⟩:=bf;obtain ⟨k,au,rfl⟩:=bZ aI;have eK:=X.lt (fM oJ) (cm au);have hd:=aZ eK;have jy:=aZ (show k < gQ.length by omega);have lE:=gb _ _ (lT k _ _ jy hd);subst aY;nofun;refine dO (decide (ai.b2 < mC ds k)) (fun jC a0=>?_) (fun ae=>?_) (fun ae=>?_)
    ·(nofun; repeat (dsimp only [Ia];nofun));rw [xE hd] at a0;exact ⟨_,av.of (gb _ _ aQ),_,dK,_,av.of (gb _ _ kd),_,bt (by rw [cN,jy];rfl),_,rfl,_,lE,(X.ok _ (fM eK)).k,ew,_,rfl,a0⟩
    .nofun;exact ⟨_,eD,_,IM (by rw [F'];exact eK),gb.ff ar,ew.upd,by rw [db,L9 au ae],_,rfl⟩
    .nofun;rw [S1 au ae] at eD;exact ⟨gb,ew,eD,_,rfl⟩
   .rintro σ I bf;ac_rfl
    obtain ⟨gb,ew,eD,y,rfl⟩:=bf;subst aY;rw [aP,Fu (h:=ur ds sts ai (f9 sts ai.lf).length) (fun k=>by unfold ur;rw [lB aj,gF];simp)] at eD;exact bL _ _ ⟨gb,ew,eD,y,rfl⟩
  rintro cb aB ⟨s2,adL,es,y,rfl⟩;subst aY;simp only [dx];exists (fun az I=>aN H I/\aL I/\I p=some (.lst (i_ ds.length (iz ds sts ai cg)))/\∃ y,az=[~~~wl,~~~a6,~~~np,~~~p,y]),0
  .nofun;refine ⟨_,av.of (s2 _ _ aQ),_,dp,_,_,rfl,av.of (s2 _ _ du.at_),_,bt (by rw [cN,aib];rfl),_,rfl,_,cJ.of (s2 _ _ aj4),_,bt (j:=2) rfl,_,rfl,⟨_,av.of (s2 _ _ OZ)⟩,?_⟩;refine dY.list (xs:=sts[ai.bc].bz.map fun k:Nat=>V.int k) (fun j σ I=>aN H I/\aL I/\I p=some (.lst (mv ds.length sts[ai.bc].bz j (fun k=>decide (cg - ai.b2 <= rV ds k)) (ab "ready") (ur ds sts ai (f9 sts ai.lf).length)))/\∃ y,σ=[~~~wl,~~~a6,~~~np,~~~p,y]) ?_ ?_ ?_ ?_
   .exact ⟨s2,adL,by rw [Gu];exact es,_,rfl⟩
   .rintro j σ I aJ ⟨ai,_⟩;exact av.of (ai _ _ OZ)
   .rintro j v σ I aI bf;ac_rfl
    obtain ⟨gb,ew,eD,y,rfl⟩:=bf;obtain ⟨k,au,rfl⟩:=bZ aI;have eK:=X.lt (fM lJ) (cm au);have hd:=aZ eK;have jy:=aZ (show k < gQ.length by omega);have lE:=gb _ _ (lT k _ _ jy hd);subst aY;nofun;refine dO (decide (cg - ai.b2 <= rV ds k)) (fun jC a0=>?_) (fun ae=>?_) (fun ae=>?_)
    ·(nofun; repeat (dsimp only [FL];nofun));rw [xS hd] at a0;exact ⟨_,av.of (gb _ _ aQ),_,hh,_,av.of (gb _ _ aQ),_,dK,_,rfl,_,rfl,_,av.of (gb _ _ kd),_,bt (by rw [cN,jy];rfl),_,rfl,_,lE,(X.ok _ (fM eK)).k,ew,a0⟩
    .nofun;exact ⟨_,eD,_,IM (by rw [F'];exact eK),gb.ff ar,ew.upd,by rw [db,L9 au ae],_,rfl⟩
    .nofun;rw [S1 au ae] at eD;exact ⟨gb,ew,eD,_,rfl⟩
   .rintro σ I bf;ac_rfl
    obtain ⟨gb,ew,eD,y,rfl⟩:=bf;subst aY;rw [aP,Fu (h:=iz ds sts ai cg) (fun k=>by unfold iz;rw [dz];show _=wh ds sts ai cg _ k;unfold wh;rw [lB a9,gF];simp)] at eD;exact bL _ _ ⟨gb,ew,eD,y,rfl⟩
  rintro fS bw ⟨s3,IA,jR,y,rfl⟩;subst aY;nofun;exact q p bw s3 IA ar jR
def jM (np a':Addr) (H I:aw):Prop:=∀ b u,b ≠ np->b ≠ a'->H b=some u->I b=some u
noncomputable def sD (s:dd) (cg:Int):dd:=if s.b2=cg then { s with bP:=some s.bc,cp:=1 } else s
noncomputable def sT (sts:List dG) (s:dd) (cg:Int) (wi:List Nat):List Nat:=if s.b2=cg then wi.filter fun i=>!decide (i ∈ f9 sts s.bc) else wi
theorem EK (wi:List Nat) (i:Nat):(cR (eR wi) (hz (i:Int))).isSome=decide (i ∈ wi):=by
 rw [ig,decide_eq_true_eq];unfold cR;rw [J0,List.find?_isSome];constructor
 .rintro ⟨p,ar,aj⟩;obtain ⟨y,a9,rfl⟩:=bJ.mp ar;have h:(y:Int)=(i:Int):=DM (of_decide_eq_true aj);have e:y=i:=by omega
  rw [<- e];exact a9
 .exact fun h=>⟨(hz (i:Int),V.br true),bJ.mpr ⟨i,h,rfl⟩,decide_eq_true rfl⟩
theorem aar (ys:List Nat) (x:Nat):oN (eR ys) (hz (x:Int))=eR (ys.filter fun y=>decide (y ≠ x)):=by
 unfold oN eR;rw [MV];congr 1;refine B_ fun y _=>?_
 show decide ((hz (y:Int):Key) ≠ hz (x:Int))=decide (y ≠ x);exact decide_eq_decide.mpr ⟨fun z e=>z (by rw [e]),fun z e=>z (acw (DM e))⟩
theorem akE {ms wi:List Nat} {i x:Nat} (aj:ms[i]? = some x):(wi.filter fun y=>!decide (y ∈ ms.take (i + 1)))=(wi.filter fun y=>!decide (y ∈ ms.take i)).filter fun y=>decide (y ≠ x):=by
 rw [iW aj,Y8];refine B_ fun y _=>?_
 rw [ig];simp;exact ⟨fun z=>⟨z.2,z.1⟩,fun z=>⟨z.2,z.1⟩⟩
def af0:bW:=fun vs H Q _=>∃ a6 np a' qs ms sts s cg wi,vs=[.ref a6,.ref np]/\jb H a6 qs ms sts/\H np=some (.lst (dr s cg a'))/\H a'=some (.bu (eR wi))/\s.bc < sts.length/\np ≠ a6/\np ∉ ms/\np ∉ qs/\aL H /\
 ∀ I,jM np a' H I->aL I->I np=some (.lst (dr (sD s cg) cg a'))->I a'=some (.bu (eR (sT sts s cg wi)))->Q .b4 I
theorem YW:cA P base T 1 t.IU t.Kb KV af0:=by
 exists T.Bj.ok U5,9
 obtain ⟨a6,np,a',qs,ms,sts,ai,cg,wi,rfl,du,aQ,hd,lJ,my,k1,acZ,bE,q⟩:=h;have aj:=aZ lJ;have AE:=aZ (show ai.bc < qs.length by rw [du.bY];exact lJ);have Bk:=aZ (show ai.bc < ms.length by rw [du.cL];exact lJ);obtain ⟨dS,fD⟩:=du.al _ _ _ _ AE Bk aj;have bC:=gO aq;have dK:eb (dr ai cg a') 4=some (.int ai.b2):=bt (j:=4) rfl;have hh:eb (dr ai cg a') 5=some (.int cg):=bt (j:=5) rfl;refine ⟨_,(a5 (dP (cY eE (bh bO (aa 1) aD) (bh bO (aa 1) aD) (cu _)) (aS (kB (bh bO (aa 1) aD) (l3 (aa 1) aD lF))
   (aS (kB aD (l3 (aa 1) aD lF))
   (a5 (ft fq rfl (d6 (bh ed (bh bO (aa 0) (bh bO (aa 1) aD)) aD)) (b9 (i:=2) U5.aH) (a5 (ee (Mr (bh bO (aa 1) aD) (aa 2) n7 ⟨rfl,rfl,rfl,rfl⟩))))))) ek)),?_⟩
 nofun;refine dO (decide (ai.b2=cg)) (fun jC a0=>?_) (fun ae=>?_) (fun ae=>?_)
 .nofun;refine ⟨_,av.of aQ,_,dK,_,av.of aQ,_,hh,rfl,?_⟩;rw [show decide (V.int ai.b2=V.int cg)=decide (ai.b2=cg) from decide_eq_decide.mpr ⟨fun z=>by injection z,fun z=>by rw [z]⟩];exact a0
 .have bp:ai.b2=cg:=of_decide_eq_true ae;unfold sD sT at q;rw [if_pos bp,if_pos bp] at q;simp only [dx];exists (fun az I=>jM np a' H I/\aL I/\I np=some (.lst (dr { ai with bP:=some ai.bc } cg a'))/\I a'=some (.bu (eR wi))/\az=[~~~a6,~~~np,none]),0
  .nofun;exact ⟨_,av.of aQ,_,bt (j:=3) rfl,_,aQ,0,rfl,bL _ _ ⟨fun b u af _ e=>by rw [aG af];exact e,bE.upd,by rw [db];rfl,by rw [aG (bK hd aQ (by intro z;cases z))];exact hd,rfl⟩⟩
  rintro fK H1 ⟨cq,h6,a1,dR,rfl⟩;subst aY;simp only [dx];exists (fun az I=>jM np a' H I/\aL I/\I np=some (.lst (dr { ai with bP:=some ai.bc,cp:=1 } cg a'))/\I a'=some (.bu (eR wi))/\az=[~~~a6,~~~np,none]),0
  .nofun;exact ⟨_,a1,1,rfl,bL _ _ ⟨fun b u af ao e=>by rw [aG af];exact cq _ _ af ao e,h6.upd,by rw [db];rfl,by rw [aG (bK dR a1 (by intro z;cases z))];exact dR,rfl⟩⟩
  rintro cb aB ⟨d9,oP,a2,d_,rfl⟩;subst aY;nofun;have ak8:a6 ≠ a':=bK du.at_ hd (by intro z;cases z);have YX:qs[ai.bc]'(by rw [du.bY];exact lJ) ≠ np:=fun z=>acZ (z ▸ fM _)
  have nm:ms[ai.bc]'(by rw [du.cL];exact lJ) ≠ np:=fun z=>k1 (z ▸ fM _)
  have g3:∀ {I},jM np a' H I->I (ms[ai.bc]'(by rw [du.cL];exact lJ))=some (.lst (sts[ai.bc].bz.map fun k:Nat=>V.int k)):=fun x=>x _ _ nm (bK fD hd (by intro z;cases z)) fD
  refine ⟨_,av.of a2,_,bt (j:=3) rfl,_,_,rfl,av.of (d9 _ _ (dJ my) ak8 du.at_),_,bt (by rw [cN,AE];rfl),_,rfl,_,cJ.of (d9 _ _ YX (bK dS hd (by intro z;cases z)) dS),_,bt (j:=2) rfl,_,rfl,⟨_,av.of (g3 d9)⟩,?_⟩;refine dY.list (xs:=sts[ai.bc].bz.map fun k:Nat=>V.int k) (fun j σ I=>jM np a' H I/\aL I/\I np=some (.lst (dr { ai with bP:=some ai.bc,cp:=1 } cg a'))/\I a'=some (.bu (eR (wi.filter fun i=>!decide (i ∈ sts[ai.bc].bz.take j))))/\∃ y,σ=[~~~a6,~~~np,y]) ?_ ?_ ?_ ?_
  .refine ⟨d9,oP,a2,?_,_,rfl⟩;rw [show (wi.filter fun i=>!decide (i ∈ sts[ai.bc].bz.take 0))=wi by simp];exact d_
  .rintro j σ I aJ ⟨dX,_⟩;exact av.of (g3 dX)
  .rintro j v σ I aI bf;ac_rfl
   obtain ⟨dX,kl,hC,hX,y,rfl⟩:=bf;obtain ⟨k,au,rfl⟩:=bZ aI;have xF:=akE (wi:=wi) au;subst aY;nofun;refine ⟨_,av.of hC,_,bt (j:=6) rfl,_,rfl,.inl ⟨_,.inl hX⟩,_,hX,hz (k:Int),rfl,fun v aI=>?_,fun aI=>?_⟩
   .refine ⟨fun b u af ao e=>by rw [aG ao];exact dX _ _ af ao e,kl.upd,by rw [aG (bK hC hX (by intro z;cases z))];exact hC,?_,_,rfl⟩;rw [db,aar,<- xF]
   .refine ⟨dX,kl,hC,?_,_,rfl⟩;have p0:k ∉ wi.filter fun i=>!decide (i ∈ sts[ai.bc].bz.take j):=fun z=>by
     have:=EK (wi.filter fun i=>!decide (i ∈ sts[ai.bc].bz.take j)) k;rw [aI,decide_eq_true z] at this;cases this
    have lu:(wi.filter fun i=>!decide (i ∈ sts[ai.bc].bz.take j)).filter (fun y=>decide (y ≠ k))=wi.filter fun i=>!decide (i ∈ sts[ai.bc].bz.take j):=aii.mpr fun y a9=>decide_eq_true (show y ≠ k from fun z=>p0 (by rw [<- z];exact a9))
    rw [xF,lu];exact hX
  .rintro σ I bf;ac_rfl
   obtain ⟨dX,kl,hC,hX,y,rfl⟩:=bf;subst aY;rw [aP,gF] at hX;refine q I dX kl hC ?_;rw [lB aj];exact hX
 .have bp:¬ ai.b2=cg:=of_decide_eq_false ae;unfold sD sT at q;rw [if_neg bp,if_neg bp] at q;nofun;exact q H (fun _ _ _ _ e=>e) bE aQ hd
noncomputable def k' (ds:List a3) (i:Nat):Bool:=decide ((ds[i]?).map (·.k)=some 2)
theorem AS (h:ds[i]? = some d) (au:d.k < 3):decide (V.str (dM d.k)=V.str (ab "tram"))=k' ds i:=by
 have af:dM 0 ≠ ab "tram" := by ac_nf
 have ao:dM 1 ≠ ab "tram" := by ac_nf
 have bj:dM 2=ab "tram" := by ac_nf
 unfold k';rw [h]
 match e:d.k,au with
 | 0,_=>simp [e,af]
 | 1,_=>simp [e,ao]
 | 2,_=>simp [e,bj]
noncomputable def oH (ds:List a3) (x:dG) (cp:Int) (wi bV:List Nat):Bool:=if (wi.isEmpty || decide (cp < x.lo))=true then true else if (decide (x.ah <= cp) || (x.bz.filter fun k=>decide (k ∈ bV)).isEmpty)=true then false else (wi.filter (k' ds)).isEmpty
noncomputable def hP (l:List Nat):List V:=l.map fun k:Nat=>V.int k
def al3 (K:bk):bW:=fun vs H Q _=>∃ wl a6 np a' al ds qs ms sts n s cg wi bV,∃ i:Nat,∃ x,vs=[.ref wl,.ref a6,.ref np,.ref al]/\ht H wl ds/\jb H a6 qs ms sts/\cW n ds sts/\H np=some (.lst (dr s cg a'))/\s.bP=some i/\sts[i]? = some x/\H a'=some (.bu (eR wi))/\(∀ k ∈ wi,k < ds.length)/\wi.length <= 12/\H al=some (.lst (hP bV))/\aL H /\
 ∀ I,aN H I->aL I->Q (.br (oH ds x s.cp wi bV)) I
theorem Gc.afr {d:Addr} {o:Obj} {kvs:List (Key × V)} {ss:List (Option V)} {g:gJ} {c6:TT} {bT:TE} {da:St} {Q:cX} {H:aw} (hf:H d=some (.ey o (.bu kvs))) (aO:kvs.length <= sizeLine) (he:ss.length=kvs.length)
  (aC:∀ (i:Nat) (k:Key) (v:V) (z:Option V) (ys:List V) (N:List V->aw->Prop),kvs[i]? = some (k,v)->ss[i]? = some z->N (ys ++ z.toList) H->g (dk k) da H fun cb aB=>Sub da cb/\c6 cb aB fun c bw=>if c=true then bT cb bw fun y cI=>N (ys ++ [y]) cI else N ys bw)
  (hd:∀ p,H p=none->Q (.ref p) (upd H p (.lst (ss.flatMap px)))):Gc (y_ d o kvs) g c6 bT da Q H:=by
 refine Gc.of (n:=kvs.length) (fun i ys I=>I=H/\ys=(ss.take i).flatMap px/\ys.length <= i) aO ⟨rfl,rfl,b8 _⟩ (fun i ys I ah ⟨e7,_⟩=>by subst e7;exact ⟨hf,ah⟩) (fun ys I ⟨e7,_⟩=>by subst e7;exact ⟨hf,b8 _⟩) (fun i ys I ah ⟨_,_,e⟩=>e) (fun i ys I x aB ah ⟨ax,aK,bU⟩ y N bb=>?_) (fun ys I ⟨ax,aK,_⟩ p ar=>?_)
 .obtain ⟨eW,k,v,au,fR⟩:=y;subst ax eW fR;have et:i < ss.length:=by omega
  have fX:ss[i]? = some ss[i]:=aZ et;refine aC i k v ss[i] ys N au fX (bb _ _ ⟨rfl,by rw [aK,od,fX,sA];simp,?_⟩);rw [dZ];cases ss[i] <;> simp <;> omega
 .subst ax;rw [aK,<- he,gF];exact hd p ar
theorem ub (p:Nat->Bool):∀ xs:List Nat,((xs.map fun x:Nat=>if p x=true then some (V.int x) else none).flatMap px)=hP (xs.filter p)
 | []=>rfl
 | x :: xs=>by
  rw [e1,qQ,ub p xs];cases h:p x <;> simp [hP,h]
theorem o' (l:List Nat):(hP l).length=l.length:=aP ..
theorem NC (l:List Nat):decide (((hP l).length:Int)=0)=l.isEmpty:=by
 rw [o'];cases l with
 | nil=>rfl
 | cons x r=>exact decide_eq_false (by rw [gP];omega)
theorem ae1:cA P base T 1 t.Lo t.Ig HB (al3 K):=by
 exists T.Gz.ok BH,9
 obtain ⟨wl,a6,np,a',al,ds,qs,ms,sts,n,ai,cg,wi,bV,i,x,rfl,⟨gQ,kd,o8,lT⟩,du,X,aQ,dz,aj,hd,xh,gn,i8,bE,q⟩:=h;obtain ⟨kp,bA,bR,dS,fD⟩:=rj du aj;have bC:=gO aq;have lC:eb (dr ai cg a') 0=some (.int (i:Nat)):=bt (j:=0) (by unfold dr;rw [dz];rfl);have cB:eb (dr ai cg a') 1=some (.int ai.cp):=bt (j:=1) rfl;have ja:eb (dr ai cg a') 6=some (.ref a'):=bt (j:=6) rfl;refine ⟨_,(aS (kB (bh bO (aa 1) (bh bO (aa 2) aD)) (mr (K:=K) (n:=3) rfl rfl (fC (b9 (i:=4) BH.aH) (fC (b9 (i:=5) BH.aH) (fC (b9 (i:=6) BH.aH) mx)))))
   (aS (dP (g5.pt (qg (cY eE (eT ae4 rfl T.fP fZ (ak (bh bO (aa 2) aD) aF)) aD (cu _)) (q6 (cY lp (bh bO (aa 2) aD) (aa 4) (cu _))))) (a5 (cy kj)) ek)
   (aS (dP (g5.pt (qg (cY amL (bh bO (aa 2) aD) (aa 5) (cu _)) (q6 (cY eE (eT gj rfl T.fP fZ (ak (fT rfl (d6 (aa 6)) (ac (sc:=bB z2) rfl (by ac_nf)) (N:=["_law_i","_law_asked"]) (sel:=[none,some 3]) (fw (M:=E6) (by ac_nf)) (eO.of (fun _ _ _ _=>(b9 (i:=0) (d1 (N:=["_law_i","_law_asked"]) (by ac_nf) rfl))) (fun _ _ _ _=>⟨_,(nF (cY AF (aa 0) (aa 1) (by with_unfolding_all rfl))),by walk_at "B"⟩) (fun _ _ _ _=>⟨_,(aa 0),by walk_at "B"⟩))) aF)) aD (cu _))))) (a5 (cy kj)) ek)
   (a5 (cy (hb eE (eT gj rfl T.fP fZ (ak (Up (fT rfl (GY (bh bO (aa 2) aD)) (ac (sc:=bB z2) rfl (by ac_nf)) (N:=tK) (sel:=[none,some 0]) (fw (M:=E6) (by ac_nf)) (eO.of (fun _ _ _ _=>(b9 (i:=0) (d1 (N:=tK) (by ac_nf) rfl))) (fun _ _ _ _=>⟨_,(nF (cY eE (bh ed (bh bO (aa 1) (aa 0)) aD) cZ (cu _))),by walk_at "B"⟩) (fun _ _ _ _=>⟨_,(aa 0),by walk_at "B"⟩)))) aF)) aD (cu _))))))),?_⟩
 exists (fun az I=>I=H/\az=[~~~wl,~~~a6,~~~np,~~~al,some (.int x.lo),some (.int x.ah),~~~bA]),3
 .nofun;exact ⟨_,av.of aQ,_,lC,_,_,rfl,av.of du.at_,_,bt (by rw [cN,bR];rfl),_,rfl,_,cJ.of dS,rfl,_,_,rfl,_,_,rfl,_,_,rfl,rfl,bL _ _ ⟨rfl,rfl⟩⟩
 rintro fK H1 ⟨rfl,rfl⟩;subst aY;simp only [dx];refine qn (fun az I=>I=H1/\(wi.isEmpty || decide (ai.cp < x.lo))=false/\az=[~~~wl,~~~a6,~~~np,~~~al,some (.int x.lo),some (.int x.ah),~~~bA]) (fun fW bL kA _ _=>?_) ?_
 .refine dO (wi.isEmpty || decide (ai.cp < x.lo)) (fun jC a0=>?_) (fun ae=>?_) (fun ae=>?_)
  .nofun;refine ⟨_,av.of aQ,_,ja,_,rfl,_,hd,?_⟩;have e:decide (((eR wi).length:Int)=0)=wi.isEmpty:=by
    unfold eR;rw [aP];cases wi with
    | nil=>rfl
    | cons x r=>exact decide_eq_false (by rw [gP];omega)
   rw [e];cases rE:wi.isEmpty with
   | true=>
    rw [rE,pY] at a0;rw [if_pos rfl];exact a0
   | false=>
    rw [rE,lr] at a0;rw [if_neg eQ];exact ⟨_,av.of aQ,_,cB,_,rfl,a0⟩
  .nofun;rw [kA];have:=q H1 (aN.refl _) bE;unfold oH at this;rw [if_pos ae] at this;exact this
  .simp only [hr];exact bL _ _ ⟨rfl,ae,rfl⟩
 rintro cb aB ⟨rfl,t7,rfl⟩;unfold oH at q;rw [if_neg (by rw [t7];exact eQ)] at q;simp only [dx];refine qn (fun az I=>aN aB I/\aL I/\(decide (x.ah <= ai.cp) || (x.bz.filter fun k=>decide (k ∈ bV)).isEmpty)=false/\az=[~~~wl,~~~a6,~~~np,~~~al,some (.int x.lo),some (.int x.ah),~~~bA]) (fun fW bL kA _ _=>?_) ?_
 .refine rL (fun b I=>aN aB I/\aL I/\b=(decide (x.ah <= ai.cp) || (x.bz.filter fun k=>decide (k ∈ bV)).isEmpty)) (fun jC a0=>?_) ?_ ?_
  .nofun;refine ⟨_,av.of aQ,_,cB,_,rfl,?_⟩;by_cases cz:x.ah <= ai.cp
   .rw [if_pos (decide_eq_true cz)];exact a0 _ _ ⟨aN.refl _,bE,by rw [decide_eq_true cz,pY]⟩
   .rw [if_neg (by simpa using cz)];rw [decide_eq_false cz,lr] at a0;refine ⟨⟨_,av.of fD⟩,?_⟩;refine Gc.pG (xs:=hP x.bz) (ss:=x.bz.map fun k:Nat=>if decide (k ∈ bV)=true then some (V.int k) else none) (av.of fD) (by rw [o'];exact cP (X.jr.bd x (cm aj)).2.2.2.1 (by decide)) (by rw [o',aP]) (fun j v o ys N aI aT bb=>?_) (fun p ar=>?_)
    .unfold hP at aI;obtain ⟨k,au,rfl⟩:=bZ aI;obtain ⟨n0,e2,rfl⟩:=bZ aT;rw [au] at e2;cases e2;nofun;refine ⟨Sub.name,_,.inl (av.of i8),rfl,by unfold hP;rw [ael];exact oh.mpr fun _ _=>rfl,?_⟩;unfold hP;rw [T8];by_cases cf:k ∈ bV
     .simp [cf] at bb ⊢;exact bb
     .simp [cf] at bb ⊢;exact bb
    .rw [ub];refine ⟨p,rfl,_,.inl (av.of db),?_⟩;rw [NC];exact a0 _ _ ⟨bq ar,bE.upd,rfl⟩
  .rintro I ⟨s1,wj,ae⟩;nofun;rw [kA];have:=q I s1 wj;rw [if_pos ae.symm] at this;exact this
  .rintro I ⟨s1,wj,ae⟩;simp only [hr];exact bL _ _ ⟨s1,wj,ae.symm,rfl⟩
 rintro fS bw bf;ac_rfl
 obtain ⟨s3,dp,jH,rfl⟩:=bf;subst aY;rw [if_neg (by rw [jH];exact eQ)] at q;nofun;have NF:=s3 _ _ hd;have wK:(eR wi).length=wi.length:=aP ..;refine ⟨a',_,NF,_,av.of (s3 _ _ aQ),_,ja,_,rfl,_,NF,fun o=>?_⟩;have nG:(upd bw a' (.ey o (.bu (eR wi)))) a'=some (.ey o (.bu (eR wi))):=db;have PG:∀ {b u},(∀ kvs,u ≠ .bu kvs)->aB b=some u->(upd bw a' (.ey o (.bu (eR wi)))) b=some u:=fun {b u} bC e=>by
  rw [aG (fun z=>by rw [z,hd] at e;cases e;exact bC _ rfl)];exact s3 _ _ e
 refine Gc.afr (ss:=wi.map fun k:Nat=>if k' ds k=true then some (V.int k) else none) nG (by rw [wK];exact cP gn (by decide)) (by rw [aP,wK]) (fun j UK v z ys N au aO bb=>?_) (fun p ar=>?_)
 .unfold eR at au;obtain ⟨k,q3,KD⟩:=bZ au;cases KD;obtain ⟨n0,e2,rfl⟩:=bZ aO;rw [q3] at e2;cases e2;have eK:=xh k (cm q3);have gr:=aZ eK;have jy:=aZ (show k < gQ.length by omega);have cT:=AS gr (X.ok _ (fM eK)).k;nofun;refine ⟨Sub.name,_,_,rfl,av.of (PG (by intro _ z;cases z) kd),_,bt (by rw [cN,jy];rfl),_,rfl,_,cJ.of (PG (by intro _ z;cases z) (lT k _ _ jy gr)),_,bt (j:=0) rfl,rfl,?_⟩;rw [cT];cases aA:k' ds k with
  | true=>
   rw [aA] at bb;rw [if_pos rfl];exact bb
  | false=>
   rw [aA,if_neg eQ] at bb;rw [if_neg eQ];simpa using bb
 .have ku:p ≠ a':=fun z=>by rw [z,nG] at ar;cases ar
  have uj:bw p=none:=by rw [aG ku] at ar;exact ar
  rw [ub];refine ⟨o,by rw [aG (dJ ku)];exact nG,p,rfl,_,.inl (av.of (by rw [aG ku];exact db)),?_⟩;rw [NC];refine q _ (fun b u e=>?_) dp.upd.upd.upd;by_cases cz:b=a'
  .subst cz;rw [hd] at e;cases e;exact db
  .have bU:=s3 _ _ e;rw [aG cz,aG (Db bU uj),aG cz];exact bU
noncomputable def en (ds:List a3) (sts:List dG) (j:Nat):Bool:=k' ds ((f9 sts j).headD 0)
noncomputable def iB (sts:List dG) (wi:List Nat) (j:Nat):Bool:=!((f9 sts j).filter fun k=>decide (k ∈ wi)).isEmpty
noncomputable def nT (ds:List a3) (sts:List dG) (wi:List Nat) (i:Nat):List Nat:=(dw sts.length).filter fun j=>iB sts wi j && (en ds sts j != en ds sts i)
noncomputable def e3 (ds:List a3) (sts:List dG) (wi:List Nat) (i:Nat):Bool:=if (nT ds sts wi i).isEmpty=true then en ds sts i else !en ds sts i
noncomputable def iV (s:dd) (b:Bool):Int:=if b=true then s.pt else s.po
noncomputable def js (m:Nat) (last:Int):List Nat:=((dw (m - (last + 1).toNat)).map fun k=>(last + 1).toNat + k) ++ dw (last + 1).toNat
noncomputable def mc (ds:List a3) (sts:List dG) (wi:List Nat) (b:Bool) (j:Nat):Bool:=iB sts wi j && (en ds sts j == b)
def u1 (ds:List a3) (sts:List dG) (s:dd) (wi:List Nat) (i j:Nat):Prop:=((js sts.length (iV s (e3 ds sts wi i))).filter (mc ds sts wi (e3 ds sts wi i))).head? = some j
noncomputable def mZ (l:List Bool):List V:=l.map V.br
theorem vk {m j:Nat} {f:Nat->Bool} (h:j < m):(mZ ((dw m).map f))[j]? = some (.br (f j)):=by
 unfold mZ;simp [h]
theorem Sk (m:Nat) (f:Nat->Bool):(mZ ((dw m).map f)).length=m:=by
 unfold mZ;simp
theorem Pw (l:List Nat):decide ((0:Int) < ((hP l).length:Int)) = !l.isEmpty:=by
 rw [o'];cases l with
 | nil=>rfl
 | cons x r=>exact decide_eq_true (by rw [gP];omega)
theorem cW.six {n:Int} {ds:List a3} {sts:List dG} (h:cW n ds sts) {j:Nat} (aJ:j < sts.length):sts[j].bz ≠ []/\sts[j].bz.length <= 8:=by
 obtain ⟨_,_,a,b,_⟩:=h.jr.bd _ (fM aJ);exact ⟨a,b⟩
theorem Nm {m j:Nat} {L:Int} (aJ:j < m):j ∈ js m L:=by
 unfold js;by_cases h:j < (L + 1).toNat
 .exact jh _ (g7.mpr h)
 .exact p1 _ (bJ.mpr ⟨j - (L + 1).toNat,g7.mpr (by omega),by omega⟩)
theorem Ls {m j:Nat} {L:Int} (eJ:L < m) (h:j ∈ js m L):j < m:=by
 unfold js at h;rcases gE.mp h with h | h
 .obtain ⟨k,au,rfl⟩:=bJ.mp h;have:=g7.mp au;omega
 .have:=g7.mp h;omega
theorem Y5 {m:Nat} {L:Int} (eJ:L < m):(js m L).length <= m:=by
 unfold js;rw [dZ,aP,kH,kH];omega
theorem ack {m:Nat} {L:Int} (h0:-1 <= L):((dw ((m:Int) - (L + 1)).toNat).map fun k:Nat=>V.int (L + 1 + k)) ++ ((dw (L + 1).toNat).map fun k:Nat=>V.int k)=hP (js m L):=by
 unfold hP js;obtain ⟨z,aO⟩:=Int.eq_ofNat_of_zero_le (Int.add_le_add_right h0 1);rw [aO,e5,me,Int.toNat_sub,ma];rfl
theorem aeK {ds:List a3} {sts:List dG} {wi:List Nat} {i:Nat} (L:Int) (hw:∃ j,j < sts.length/\iB sts wi j=true):(js sts.length L).filter (mc ds sts wi (e3 ds sts wi i)) ≠ []:=by
 have key:∃ j,j < sts.length/\mc ds sts wi (e3 ds sts wi i) j=true:=by
  unfold mc e3;by_cases he:(nT ds sts wi i).isEmpty=true
  .rw [if_pos he];obtain ⟨j,aJ,hw⟩:=hw;refine ⟨j,aJ,?_⟩;rw [hw,ky,beq_iff_eq];apply Nx;intro aQ;have:j ∈ nT ds sts wi i:=f5.mpr ⟨g7.mpr aJ,by rw [hw,ky,bne_iff_ne];exact aQ⟩;rw [zd.mp he] at this;cases this
  .rw [if_neg he];obtain ⟨j,r,e⟩:=l_ (show nT ds sts wi i ≠ [] from fun z=>he (by rw [z];rfl));have hm:j ∈ nT ds sts wi i:=by rw [e];exact .head _
   have m9:=f5.mp hm;have ao:=m9.2;rw [g_,bne_iff_ne] at ao;refine ⟨j,g7.mp m9.1,?_⟩;rw [ao.1,ky,beq_iff_eq];cases bj:en ds sts j <;> cases cS:en ds sts i
   .exact absurd (bj.trans cS.symm) ao.2
   .rfl
   .rfl
   .exact absurd (bj.trans cS.symm) ao.2
 obtain ⟨j,aJ,ae⟩:=key;exact Ya (f5.mpr ⟨Nm aJ,ae⟩)
def Xz (K:bk):bW:=fun vs H Q _=>∃ wl a6 np a' ds qs ms sts n s cg wi,∃ i:Nat,vs=[.ref wl,.ref a6,.ref np]/\ht H wl ds/\jb H a6 qs ms sts/\cW n ds sts/\H np=some (.lst (dr s cg a'))/\s.bP=some i/\i < sts.length/\H a'=some (.bu (eR wi))/\(∃ j,j < sts.length/\iB sts wi j=true)/\(-1 <= s.pt/\s.pt < sts.length)/\(-1 <= s.po/\s.po < sts.length)/\aL H /\
 ∀ (j:Nat) I,aN H I->aL I->u1 ds sts s wi i j->Q (.int (j:Nat)) I
theorem YS:cA P base T 1 t.DG t.H6 rO (Xz K):=by
 exists T.H9.ok ra,9
 obtain ⟨wl,a6,np,a',ds,qs,ms,sts,n,ai,cg,wi,i,rfl,⟨gQ,kd,o8,lT⟩,du,X,aQ,dz,ah,hd,hw,uN,uL,bE,q⟩:=h;have bC:=gO aq;have lC:eb (dr ai cg a') 0=some (.int (i:Nat)):=bt (j:=0) (by unfold dr;rw [dz];rfl);have ja:eb (dr ai cg a') 6=some (.ref a'):=bt (j:=6) rfl;have kK:eb (dr ai cg a') 7=some (.int ai.po):=bt (j:=7) rfl;have oS:eb (dr ai cg a') 8=some (.int ai.pt):=bt (j:=8) rfl;have rb:-1 <= iV ai (e3 ds sts wi i)/\iV ai (e3 ds sts wi i) < sts.length:=by
  unfold iV;split
  .exact uN
  .exact uL
 have Hs:=X.len;refine ⟨_,(aS (lb (i:=3) ra.aH rfl (j5 rfl) (fT rfl (d6 (aa 1)) (ac (sc:=bB u5) rfl (by ac_nf)) (N:=["_law_one","_law_ways_here"]) (sel:=[none,some 0]) (fw (M:=xj) (by ac_nf)) (eO.of (fun _ _ _ _=>(b9 (i:=0) (d1 (N:=["_law_one","_law_ways_here"]) (by ac_nf) rfl))) (fun _ _ _ _=>⟨_,hO,by walk_at "B"⟩) (fun _ _ _ _=>⟨_,(hb eE (bh ed (bh bO (aa 1) (bh bO (bh ed (aa 0) aD) aD)) aD) cZ (cu _)),by walk_at "B"⟩))))
   (aS (lb (i:=4) ra.aH rfl (j5 rfl) (gL aF))
   (aS (ft fq rfl (d6 (aa 1)) (b9 (i:=5) ra.aH) (a5 (ee (gk ip kr lx ks (aa 4) (ak (hb oZ (eT gj rfl T.fP fZ (ak (fT rfl (d6 (bh ed (aa 5) aD)) (ac (sc:=bB u5) rfl (by ac_nf)) (N:=["_law_i","_law_now"]) (sel:=[none,some 2]) (fw (M:=xj) (by ac_nf)) (eO.of (fun _ _ _ _=>(b9 (i:=0) (d1 (N:=["_law_i","_law_now"]) (by ac_nf) rfl))) (fun _ _ _ _=>⟨_,(nF (vN (Ii bC (aa 0) (bh bO (aa 1) aD)))),by walk_at "B"⟩) (fun _ _ _ _=>⟨_,(aa 0),by walk_at "B"⟩))) aF)) aD (cu _)) aF)))))
   (aS (lb (i:=6) ra.aH rfl (j5 rfl) (bh bO (aa 3) (bh bO (aa 2) aD)))
   (aS (dP (cY oZ (eT gj rfl T.fP fZ (ak (fT rfl (lL rfl T.kz (ak (eT gj rfl T.fP fZ (ak (aa 1) aF)) aF)) (ac (sc:=bB u5) rfl (by ac_nf)) (N:=Ao) (sel:=[none,some 4,some 3,some 6]) (fw (M:=xj) (by ac_nf)) (eO.of (fun _ _ _ _=>(b9 (i:=0) (d1 (N:=Ao) (by ac_nf) rfl))) (fun _ _ _ _=>⟨_,(nF (g5.pt (ou (lR (bh bO (aa 1) (aa 0))) (oi (cY pP (bh bO (aa 2) (aa 0)) (aa 3) (cu _)))))),by walk_at "B"⟩) (fun _ _ _ _=>⟨_,(aa 0),by walk_at "B"⟩))) aF)) aD (cu _)) (a5 (lb (i:=6) ra.aH rfl (j5 rfl) (Gv (aa 6)))) ek)
   (aS (cF (i:=7) ra.aH (bh bO (aa 2) (bI d2 aD (j4 sn rfl T.tQ uA (ak (aa 6) aF)))))
   (aS (cF (i:=8) ra.aH (bI Y0 (j4 (afJ rfl) rfl T.Ak AM (ak (j4 aad rfl T.kz (by ac_nf) (ak (bI d2 (aa 7) aD) (ak (eT gj rfl T.fP fZ (ak (aa 1) aF)) aF))) aF)) (j4 (ae9 rfl) rfl T.Ak AM (ak (j4 aiN rfl T.kz (by ac_nf) (ak (bI d2 (aa 7) aD) aF)) aF))))
   (a5 (cy (bh bO (fT rfl (d6 (aa 8)) (ac (sc:=bB u5) rfl (by ac_nf)) (N:=Ao) (sel:=[none,some 4,some 3,some 6]) (fw (M:=xj) (by ac_nf)) (eO.of (fun _ _ _ _=>(b9 (i:=0) (d1 (N:=Ao) (by ac_nf) rfl))) (fun _ _ _ _=>⟨_,(nF (g5.pt (ou (lR (bh bO (aa 1) (aa 0))) (oi (cY eE (bh bO (aa 2) (aa 0)) (aa 3) (cu _)))))),by walk_at "B"⟩) (fun _ _ _ _=>⟨_,(aa 0),by walk_at "B"⟩))) aD)))))))))),?_⟩
 exists (fun az I=>aN H I/\aL I/\∃ gy,H gy=none/\I gy=some (.lst (mZ ((dw sts.length).map (en ds sts))))/\az=[~~~wl,~~~a6,~~~np,~~~gy,none,none,none,none,none]),3
 .nofun;refine ⟨⟨_,av.of du.at_⟩,?_⟩;refine Gc.lg (xs:=qs.map V.ref) (zs:=mZ ((dw sts.length).map (en ds sts))) (av.of du.at_) (by rw [aP,du.bY];exact cP X.len (by decide)) (by rw [Sk,aP,du.bY]) (fun j v z N aI aO bb=>?_) (fun p ar=>?_)
  .obtain ⟨kp,aU,rfl⟩:=bZ aI;have aJ:j < sts.length:=by have:=(cv.mp aU).1;rw [du.bY] at this;exact this
   rw [vk aJ] at aO;cases aO;have aj:=aZ aJ;obtain ⟨Q6,bA,ax,aK,bU⟩:=rj du aj;rw [aU] at ax;cases ax;obtain ⟨ha,r,au⟩:=l_ (X.six aJ).1;have eK:=X.lt (fM aJ) (show ha ∈ sts[j].bz by rw [au];exact .head _);have gr:=aZ eK;have jy:=aZ (show ha < gQ.length by omega);have cT:=AS gr (X.ok _ (fM eK)).k;have hk:en ds sts j=k' ds ha:=by unfold en;rw [lB aj,au];rfl
   rw [hk] at bb;nofun;refine ⟨Sub.name,_,cJ.of aK,_,bt (j:=2) rfl,_,rfl,_,av.of bU,_,bt (j:=0) (by rw [au];rfl),_,_,rfl,av.of kd,_,bt (by rw [cN,jy];rfl),_,rfl,_,cJ.of (lT ha _ _ jy gr),_,bt (j:=0) rfl,rfl,?_⟩;rw [cT];exact bb
  .exact bL _ _ ⟨bq ar,bE.upd,p,ar,db,rfl⟩
 rintro fK H1 ⟨s1,h6,gy,n8,t1,rfl⟩;subst aY;exists (fun az I=>aN H1 I/\aL I/\∃ wp,H1 wp=none/\I wp=some (.lst (mZ []))/\az=[~~~wl,~~~a6,~~~np,~~~gy,~~~wp,none,none,none,none]),3
 .nofun;exact ⟨by decide,fun p ar=>bL _ _ ⟨bq ar,h6.upd,p,ar,db,rfl⟩⟩
 rintro cb aB ⟨s2,oP,wp,ej,dI,rfl⟩;subst aY;exists (fun az I=>aN H1 I/\aL I/\I wp=some (.lst (mZ ((dw sts.length).map (iB sts wi))))/\∃ y,az=[~~~wl,~~~a6,~~~np,~~~gy,~~~wp,y,none,none,none]),3
 .nofun;have amc:=(du.same s1).same s2;refine ⟨⟨_,av.of amc.at_⟩,?_⟩;refine dY.list (xs:=qs.map V.ref) (fun j σ I=>aN H1 I/\aL I/\I wp=some (.lst (mZ ((dw j).map (iB sts wi))))/\∃ y,σ=[~~~wl,~~~a6,~~~np,~~~gy,~~~wp,y,none,none,none]) ?_ ?_ ?_ ?_
  .exact ⟨s2,oP,dI,_,rfl⟩
  .rintro j σ I aJ ⟨ai,_⟩;exact av.of (ai _ _ (s1 _ _ du.at_))
  .rintro j v σ I aI bf;ac_rfl
   obtain ⟨gb,tc,wS,y,rfl⟩:=bf;obtain ⟨kp,aU,rfl⟩:=bZ aI;have aJ:j < sts.length:=by have:=(cv.mp aU).1;rw [du.bY] at this;exact this
   have aj:=aZ aJ;obtain ⟨Q6,bA,ax,aK,bU⟩:=rj du aj;subst aY;rw [aU] at ax;cases ax;have g:∀ {b u},H b=some u->I b=some u:=fun e=>gb _ _ (s1 _ _ e)
   nofun;refine ⟨.inl ⟨_,av.of wS⟩,_,cJ.of (g aK),_,bt (j:=2) rfl,_,rfl,⟨_,av.of (g bU)⟩,?_⟩;refine Gc.pG (xs:=hP sts[j].bz) (ss:=sts[j].bz.map fun k:Nat=>if decide (k ∈ wi)=true then some (V.int k) else none) (av.of (g bU)) (by rw [o'];exact cP (X.six aJ).2 (by decide)) (by rw [o',aP]) (fun gf v o ys N aI aT bb=>?_) (fun p ar=>?_)
   .unfold hP at aI;obtain ⟨k,au,rfl⟩:=bZ aI;obtain ⟨n0,e2,rfl⟩:=bZ aT;rw [au] at e2;cases e2;nofun;refine ⟨Sub.name,_,av.of (g aQ),_,ja,_,rfl,_,gM.k (k:=hz (k:Int)) (g hd),?_⟩;rw [EK];by_cases cf:k ∈ wi
    .simp [cf] at bb ⊢;exact bb
    .simp [cf] at bb ⊢;exact bb
   .rw [ub];have hW:wp ≠ p:=Db wS ar;refine ⟨p,rfl,_,.inl (av.of db),_,by rw [aG hW];exact wS,by rw [Sk];exact hU aJ (cP Hs (by decide)),(gb.trans (bq ar)).ff ej,tc.upd.upd,?_,_,rfl⟩;rw [db,Pw,q5];have eU:iB sts wi j = !(sts[j].bz.filter fun k=>decide (k ∈ wi)).isEmpty:=by unfold iB;rw [lB aj]
    rw [<- eU];unfold mZ;rw [e5,e5];rfl
  .rintro σ I bf;ac_rfl
   obtain ⟨gb,tc,wS,y,rfl⟩:=bf;subst aY;rw [aP,du.bY] at wS;exact bL _ _ ⟨gb,tc,wS,y,rfl⟩
 rintro fS bw ⟨s3,x7,fQ,Bs,rfl⟩;subst aY;exists (fun az I=>I=bw/\az=[~~~wl,~~~a6,~~~np,~~~gy,~~~wp,Bs,some (.br (en ds sts i)),none,none]),3
 .nofun;have t3:=s3 _ _ t1;exact ⟨_,av.of (s3 _ _ (s1 _ _ aQ)),_,lC,_,_,rfl,av.of t3,_,bt (vk ah),bL _ _ ⟨rfl,rfl⟩⟩
 rintro kG cI ⟨rfl,rfl⟩;subst aY;exists (fun az I=>aN H1 I/\aL I/\I wp=some (.lst (mZ ((dw sts.length).map (iB sts wi))))/\az=[~~~wl,~~~a6,~~~np,~~~gy,~~~wp,Bs,some (.br (e3 ds sts wi i)),none,none]),3
 .nofun;have t3:=s3 _ _ t1;have ajx:=s3 _ _ (s1 _ _ du.at_);have j1:(qs.map V.ref).length=sts.length:=by rw [aP,du.bY]
  refine rL (fun b I=>aN H1 I/\aL I/\I wp=some (.lst (mZ ((dw sts.length).map (iB sts wi))))/\b = !(nT ds sts wi i).isEmpty) (fun jC a0=>?_) ?_ ?_
  .nofun;refine ⟨_,.inl (av.of ajx),by omega,by rw [j1];omega,?_⟩;rw [j1,ma];refine Gc.TC (ss:=(dw sts.length).map fun j:Nat=>if (iB sts wi j && (en ds sts j != en ds sts i))=true then some (V.int j) else none) (cP Hs (by decide)) (by rw [aP,kH]) (fun j o ys N aJ aT bb=>?_) (fun p ar=>?_)
   .rw [cN,D5 aJ] at aT;cases aT;dsimp only at bb;nofun;refine ⟨Sub.name,_,av.of fQ,_,bt (vk aJ),_,rfl,?_⟩;cases nY:iB sts wi j with
    | false=>
     rw [nY] at bb;rw [if_neg eQ];simpa using bb
    | true=>
     rw [if_pos rfl];refine ⟨_,av.of t3,_,bt (vk aJ),rfl,?_⟩;rw [nY] at bb;cases bj:en ds sts j <;> cases cS:en ds sts i <;> rw [bj,cS] at bb <;> simpa using bb
   .rw [ub];refine ⟨p,rfl,_,.inl (av.of db),?_⟩;rw [Pw];exact a0 _ _ ⟨s3.trans (bq ar),x7.upd,(bq ar) _ _ fQ,rfl⟩
  .rintro I bf;ac_rfl
   obtain ⟨gb,tc,wS,ae⟩:=bf;subst aY;nofun;refine bL _ _ ⟨gb,tc,wS,?_⟩;unfold e3;rw [if_neg (by intro z;rw [z] at ae;cases ae)]
  .rintro I bf;ac_rfl
   obtain ⟨gb,tc,wS,ae⟩:=bf;subst aY;simp only [hr];refine bL _ _ ⟨gb,tc,wS,?_⟩;unfold e3;rw [if_pos (by cases z:(nT ds sts wi i).isEmpty with | true=>rfl | false=>rw [z] at ae;cases ae)]
 rintro qd dj ⟨s5,w3,sh,rfl⟩;subst aY;exists (fun az I=>I=dj/\az=[~~~wl,~~~a6,~~~np,~~~gy,~~~wp,Bs,some (.br (e3 ds sts wi i)),some (.int (iV ai (e3 ds sts wi i))),none]),3
 .nofun;refine ⟨_,av.of (s5 _ _ (s1 _ _ aQ)),?_⟩;cases ae:e3 ds sts wi i with
  | true=>exact ⟨_,oS,bL _ _ ⟨rfl,by rw [ae];rfl⟩⟩
  | false=>exact ⟨_,kK,bL _ _ ⟨rfl,by rw [ae];rfl⟩⟩
 rintro mm hc ⟨rfl,rfl⟩;subst aY;exists (fun az I=>aN hc I/\aL I/\∃ gN,hc gN=none/\I gN=some (.lst (hP (js sts.length (iV ai (e3 ds sts wi i)))))/\az=[~~~wl,~~~a6,~~~np,~~~gy,~~~wp,Bs,some (.br (e3 ds sts wi i)),some (.int (iV ai (e3 ds sts wi i))),~~~gN]),3
 .nofun;have alv:=s5 _ _ (s1 _ _ du.at_);have j1:(qs.map V.ref).length=sts.length:=by rw [aP,du.bY]
  generalize eJ:iV ai (e3 ds sts wi i)=L at rb bL ⊢;refine ⟨_,.inl (av.of alv),fun fk vc=>⟨_,_,db,by omega,by omega,by omega,by rw [j1];omega,by rw [j1];omega,fun es fU=>⟨by omega,by omega,fun jR Bq=>⟨_,db,by omega,by omega,fun GQ Ca=>?_⟩⟩⟩⟩;have RE:es ≠ jR:=fun z=>by rw [<- z,db] at Bq;cases Bq
  have aae:es ≠ GQ:=fun z=>by rw [<- z,aG RE,db] at Ca;cases Ca
  refine ⟨_,by rw [aG aae,aG RE,db],_,db,?_,fun p ar=>?_⟩
  .have nU:qs.length=sts.length:=du.bY;simp only [aP,kH,nU];exact cP (show _ <= 100 by omega) (by decide)
  .refine bL _ _ ⟨((((bq vc).trans (bq fU)).trans (bq Bq)).trans (bq Ca)).trans (bq ar),w3.upd.upd.upd.upd.upd,p,(bq vc).free ((bq fU).free ((bq Bq).free ((bq Ca).free ar))),?_,rfl⟩;rw [db,j1,ack rb.1]
 rintro kc f3 ⟨l9,ali,gN,uG,zi,rfl⟩;subst aY;nofun;have g:∀ {b u},H1 b=some u->f3 b=some u:=fun e=>l9 _ _ (s5 _ _ e)
 refine ⟨⟨_,av.of zi⟩,?_⟩;refine Gc.pG (xs:=hP (js sts.length (iV ai (e3 ds sts wi i)))) (ss:=(js sts.length (iV ai (e3 ds sts wi i))).map fun k:Nat=>if mc ds sts wi (e3 ds sts wi i) k=true then some (V.int k) else none) (av.of zi) ?_ (by rw [o',aP]) (fun j v o ys N aI aT bb=>?_) (fun p ar=>?_)
 .rw [o'];exact cP (Y5 rb.2) (cP Hs (by decide))
 .unfold hP at aI;obtain ⟨k,au,rfl⟩:=bZ aI;obtain ⟨n0,e2,rfl⟩:=bZ aT;rw [au] at e2;cases e2;nofun;have eK:=Ls rb.2 (cm au);refine ⟨Sub.name,_,av.of (l9 _ _ sh),_,bt (vk eK),_,rfl,?_⟩;unfold mc at bb;cases nY:iB sts wi k with
  | false=>
   rw [nY] at bb;rw [if_neg eQ];simpa using bb
  | true=>
   rw [if_pos rfl];refine ⟨_,av.of (g t1),_,bt (vk eK),rfl,?_⟩;rw [nY] at bb;cases bj:en ds sts k <;> cases cS:e3 ds sts wi i <;> rw [bj,cS] at bb <;> simpa using bb
 .rw [ub];obtain ⟨j,r,hf⟩:=l_ (aeK (ds:=ds) (i:=i) (iV ai (e3 ds sts wi i)) hw);rw [hf];exact ⟨p,rfl,_,av.of db,_,bt (j:=0) rfl,q j _ (fun b u e=>(bq ar) _ _ (g (s1 _ _ e))) ali.upd (by unfold u1;rw [hf];rfl)⟩
structure pd (ds:List a3) (wi:List Nat):Prop where
 aH:wi.Nodup
 lt:∀ k ∈ wi,k < ds.length
theorem pd.len {ds:List a3} {wi:List Nat} (h:pd ds wi):wi.length <= ds.length:=by
 have:=h.aH.length_le_of_subset (l₂:=dw ds.length) fun x aj=>g7.mpr (h.lt x aj)
 rwa [kH] at this
noncomputable def oF (ds:List a3) (sts:List dG) (s:dd) (cg:Int) (wi:List Nat) (i:Nat):List Nat:=if iz ds sts s cg i=ab "free" \/ i ∈ wi then wi else wi ++ [i]
noncomputable def iU (ds:List a3) (sts:List dG) (s:dd) (cg:Int) (wi bV:List Nat):List Nat:=bV.foldl (oF ds sts s cg) wi
theorem afV (ds:List a3) (sts:List dG) (s:dd) (cg:Int) (wi bV:List Nat) (i:Nat):iU ds sts s cg wi (bV ++ [i])=oF ds sts s cg (iU ds sts s cg wi bV) i:=by
 unfold iU;rw [I7];rfl
theorem alp {ds:List a3} {sts:List dG} {s:dd} {cg:Int} {wi:List Nat} {i:Nat} (h:pd ds wi) (ah:i < ds.length):pd ds (oF ds sts s cg wi i):=by
 unfold oF;split
 .exact h
 .rename_i aQ;have af:i ∉ wi:=fun z=>aQ (.inr z)
  refine ⟨?_,fun k au=>?_⟩
  .rw [Be];exact ⟨h.aH,by simp,fun a aR b ae e=>by rw [gq.mp ae] at e;exact af (e ▸ aR)⟩
  .rcases gE.mp au with au | au
   .exact h.lt k au
   .rw [gq.mp au];exact ah
theorem Dt {ds:List a3} {sts:List dG} {s:dd} {cg:Int}:∀ (bV wi:List Nat),(∀ i ∈ bV,i < ds.length)->pd ds wi->pd ds (iU ds sts s cg wi bV)
 | [],_,_,h=>h
 | i :: bV,wi,aR,h=>Dt bV (oF ds sts s cg wi i) (fun k au=>aR k (.tail _ au)) (alp h (aR i (.head _)))
theorem ak1 (wi:List Nat) (x:Nat):eg (eR wi) (hz (x:Int)) (.br true)=eR (if x ∈ wi then wi else wi ++ [x]):=by
 unfold eg;have v7:((eR wi).any fun dm=>decide (dm.1=hz (x:Int)))=decide (x ∈ wi):=by
  rw [ig,decide_eq_true_eq,oY];constructor
  .rintro ⟨p,ar,aj⟩;obtain ⟨y,a9,rfl⟩:=bJ.mp ar;have h:(y:Int)=(x:Int):=DM (of_decide_eq_true aj);have e:y=x:=by omega
   rw [<- e];exact a9
  .exact fun h=>⟨(hz (x:Int),V.br true),bJ.mpr ⟨x,h,rfl⟩,decide_eq_true rfl⟩
 by_cases h:x ∈ wi
 .rw [if_pos (by rw [v7];exact decide_eq_true h),if_pos h];unfold eR;rw [me];refine Oz fun y _=>?_
  show (if (hz (y:Int):Key)=hz (x:Int) then ((hz (y:Int):Key),V.br true) else (hz (y:Int),V.br true))=_;split <;> rfl
 .rw [if_neg (by rw [v7,decide_eq_false h];exact eQ),if_neg h];unfold eR;rw [e5];rfl
theorem VR {n k:Nat} {f:Nat->Str} (h:k < n):(i_ n f)[k]? = some (.str (f k)):=by
 unfold i_ aW;simp [h]
theorem jM.mH {np a':Addr} (a:jM np a' H H1) (s:aN b5 H) (af:b5 np=none) (ao:b5 a'=none):aN b5 H1:=fun c u e=>a c u (Db e af) (Db e ao) (s c u e)
theorem aaV {b5:aw} {a6 np:Addr} {qs ms:List Addr} {sts:List dG} (h:jb b5 a6 qs ms sts) (af:b5 np=none):np ≠ a6/\np ∉ ms/\np ∉ qs:=by
 refine ⟨fun z=>(by rw [z,h.at_] at af;cases af),fun z=>?_,fun z=>?_⟩
 .obtain ⟨i,ah,e⟩:=tI z;have aC:i < sts.length:=by rw [<- h.cL];exact ah
  have aU:=aZ (show i < qs.length by rw [h.bY];exact aC);have:=(h.al i _ _ _ aU (aZ ah) (aZ aC)).2;rw [e,af] at this;cases this
 .obtain ⟨i,ah,e⟩:=tI z;have aC:i < sts.length:=by rw [<- h.bY];exact ah
  have hm:=aZ (show i < ms.length by rw [h.cL];exact aC);have:=(h.al i _ _ _ (aZ ah) hm (aZ aC)).1;rw [e,af] at this;cases this
theorem cW.Jb {n:Int} {ds:List a3} {sts:List dG} (h:cW n ds sts) {k:Nat} (au:k < ds.length):∃ j,j < sts.length/\k ∈ f9 sts j:=by
 have hm:k ∈ (sts.map (·.bz)).flatten:=h.k2.bc.pm.mem_iff.mpr (g7.mpr au);obtain ⟨l,aM,eK⟩:=Ke.mp hm;obtain ⟨x,aj,rfl⟩:=bJ.mp aM;obtain ⟨j,aJ,e⟩:=tI aj;exact ⟨j,aJ,by rw [lB (aZ aJ),e];exact eK⟩
noncomputable def TD (ds:List a3) (sts:List dG) (s:dd) (i j:Nat):dd:={ s with bP:=none,lf:=i,bc:=j,b2:=0,pt:=if en ds sts j=true then (j:Int) else s.pt,po:=if en ds sts j=true then s.po else (j:Int) }
def Ox (n:Int) (ds:List a3) (sts:List dG) (s:dd) (cg:Int) (wi bV:List Nat) (s2:dd) (kQ:Int) (n_:List Nat):Prop:=
 (s.bP=none/\kQ=cg/\s2=sD { s with b2:=s.b2 + 1 } cg/\n_=sT sts { s with b2:=s.b2 + 1 } cg (iU ds sts s cg wi bV)) \/
 (∃ i x,s.bP=some i/\sts[i]? = some x/\oH ds x s.cp (iU ds sts s cg wi bV) bV=true/\kQ=cg/\s2 = { s with cp:=s.cp + 1 }/\n_=iU ds sts s cg wi bV) \/
 (∃ i x j y,s.bP=some i/\sts[i]? = some x/\oH ds x s.cp (iU ds sts s cg wi bV) bV=false/\u1 ds sts s (iU ds sts s cg wi bV) i j/\sts[j]? = some y/\kI (lq n ds x.bz y.bz) kQ/\s2=sD (TD ds sts s i j) kQ/\n_=sT sts (TD ds sts s i j) kQ (iU ds sts s cg wi bV))
def Qg (K:bk):bW:=fun vs H Q _=>∃ b5 wl a6 np a' al ds qs ms sts n s cg wi bV,vs=[.int n,.ref wl,.ref a6,.ref np,.ref al]/\ht b5 wl ds/\jb b5 a6 qs ms sts/\cW n ds sts/\aN b5 H/\b5 np=none/\b5 a'=none/\H al=some (.lst (hP bV))/\al ≠ np/\bV.length <= 100/\(∀ i ∈ bV,i < ds.length)/\H np=some (.lst (dr s cg a'))/\H a'=some (.bu (eR wi))/\pd ds wi /\
 (∀ i,s.bP=some i->i < sts.length)/\(s.bP=none->s.lf < sts.length/\s.bc < sts.length)/\(-1 <= s.pt/\s.pt < sts.length)/\(-1 <= s.po/\s.po < sts.length)/\aL H /\
 ∀ s2 kQ n_ I,Ox n ds sts s cg wi bV s2 kQ n_->jM np a' H I->aL I->I np=some (.lst (dr s2 kQ a'))->I a'=some (.bu (eR n_))->Q .b4 I
theorem agl:cA P base T 3 t.Cl t.zJ Du (Qg K):=by
 refine cH (PN T) fun K_=>cH (YW T) fun Tg=>cH (ae1 T) fun ah9=>cH (YS T) fun YY=>cH (akn T) fun abL=>?_;exists T.Op.ok Hi,9
 obtain ⟨b5,wl,a6,np,a',al,ds,qs,ms,sts,n,ai,cg,wi,bV,rfl,yG,nA,X,s0,tC,wk,i8,Rf,oU,HW,aQ,hd,TS,Bd,jT,uN,uL,bE,q⟩:=h;have bC:=gO aq;obtain ⟨qh,tu,yq⟩:=aaV nA tC;have LO:=Dt (sts:=sts) (s:=ai) (cg:=cg) bV wi HW TS;have aoK:=X.sl;have eu:np ≠ a':=bK aQ hd (by intro z;cases z);refine ⟨_,(aS (cF (i:=5) Hi.aH (cc K_ aq T.TV T.A1.bG T.TQ (ak (aa 1) (ak (aa 2) (ak (aa 3) aF)))))
   (aS (ft fq rfl (d6 (aa 4)) (b9 (i:=6) Hi.aH) (a5 (dP (cY pP (bh bO (aa 5) (aa 6)) cZ (cu _)) (a5 (so bC (bh bO (aa 3) aD) (aa 6) kj rfl)) ek)))
   (a5 (dP (cY VA (bh bO (aa 3) aD) n7 (cu _)) (aS (kB (bI d2 (bh bO (aa 3) aD) aD) (l3 (aa 3) aD lF))
   (a5 (ee (cc Tg aq T.R2 T.Bj.bG T.R4 (ak (aa 2) (ak (aa 3) aF)))))) (a5 (dP (lR (cc ah9 aq T.adS T.Gz.bG T.Wy (ak (aa 1) (ak (aa 2) (ak (aa 3) (ak (aa 4) aF)))))) (a5 (kB (bI d2 (bh bO (aa 3) aD) aD) (l3 (aa 3) aD lF))) (aS (kB (cc YY aq T.agM T.H9.bG T.ad0 (ak (aa 1) (ak (aa 2) (ak (aa 3) aF)))) (l3 (aa 3) aD lF))
   (aS (kB (bh bO (aa 3) aD) (l3 (aa 3) aD lF))
   (aS (kB n7 (l3 (aa 3) aD lF))
   (aS (kB aD (l3 (aa 3) aD lF))
   (aS (kB (cc abL aq T.af_ T.JC.bG T.acs (ak (aa 0) (ak (aa 1) (ak (aa 2) (ak (bh bO (aa 3) aD) (ak (bh bO (aa 3) aD) aF)))))) (l3 (aa 3) aD lF))
   (aS (kB (bh bO (aa 3) aD) (l3 (aa 3) (bI d2 aD (j4 sn rfl T.tQ uA (ak (hb eE (bh ed (bh bO (aa 1) (bh bO (bh ed (bh bO (aa 2) (bh bO (aa 3) aD)) aD) aD)) aD) cZ (cu _)) aF))) lF))
   (a5 (ee (cc Tg aq T.R2 T.Bj.bG T.R4 (ak (aa 2) (ak (aa 3) aF))))))))))))))))),?_⟩
 exists (fun az I=>aN H I/\aL I/\∃ gN,H gN=none/\I gN=some (.lst (i_ ds.length (iz ds sts ai cg)))/\az=[some (.int n),~~~wl,~~~a6,~~~np,~~~al,~~~gN,none]),3
 .nofun;exact ⟨wl,a6,np,a',ds,qs,ms,sts,n,ai,cg,rfl,yG.same s0,nA.same s0,X,aQ,Bd,jT,bE,fun p I bA nm ar jB=>bL _ _ ⟨bA,nm,p,ar,jB,rfl⟩⟩
 rintro fK H1 ⟨s1,cB,gN,uG,cQ,rfl⟩;subst aY;exists (fun az I=>jM np a' H I/\aL I/\I np=some (.lst (dr ai cg a'))/\I a'=some (.bu (eR (iU ds sts ai cg wi bV)))/\∃ y,az=[some (.int n),~~~wl,~~~a6,~~~np,~~~al,~~~gN,y]),3
 .nofun;have Wh:=s1 _ _ i8;have o5:=s1 _ _ aQ;have ve:=s1 _ _ hd;have afU:gN ≠ np:=fun z=>by rw [z,aQ] at uG;cases uG
  have ahI:gN ≠ a':=fun z=>by rw [z,hd] at uG;cases uG
  have aij:al ≠ a':=bK i8 hd (by intro z;cases z);refine ⟨⟨_,av.of Wh⟩,?_⟩;refine dY.list (xs:=hP bV) (fun j σ I=>jM np a' H1 I/\aL I/\I np=some (.lst (dr ai cg a'))/\I a'=some (.bu (eR (iU ds sts ai cg wi (bV.take j))))/\∃ y,σ=[some (.int n),~~~wl,~~~a6,~~~np,~~~al,~~~gN,y]) ?_ ?_ ?_ ?_
  .exact ⟨fun _ _ _ _ e=>e,cB,o5,ve,_,rfl⟩
  .rintro j σ I aJ ⟨dX,_⟩;exact av.of (dX _ _ Rf aij Wh)
  .rintro j v σ I aI bf;ac_rfl
   obtain ⟨dX,ew,hC,hX,y,rfl⟩:=bf;subst aY;unfold hP at aI;obtain ⟨k,au,rfl⟩:=bZ aI;have eK:=HW k (cm au);have eU:iU ds sts ai cg wi (bV.take (j + 1))=oF ds sts ai cg (iU ds sts ai cg wi (bV.take j)) k:=by rw [iW au,afV]
   have eJ:(eR (iU ds sts ai cg wi (bV.take j))).length <= 12:=by
    have:=(Dt (sts:=sts) (s:=ai) (cg:=cg) (bV.take j) wi (fun i ah=>HW i (vv ah)) TS).len;unfold eR;rw [aP];omega
   nofun;refine dO (!decide (iz ds sts ai cg k=ab "free")) (fun jC a0=>?_) (fun ae=>?_) (fun ae=>?_)
   .nofun;refine ⟨_,av.of (dX _ _ afU ahI cQ),_,bt (VR eK),rfl,?_⟩;rw [show decide (V.str (iz ds sts ai cg k)=V.str (ab "free"))=decide (iz ds sts ai cg k=ab "free") from decide_eq_decide.mpr ⟨fun z=>by injection z,fun z=>by rw [z]⟩];exact a0
   .have fv:¬ iz ds sts ai cg k=ab "free" := by simpa using ae
    nofun;refine ⟨_,av.of hC,_,bt (j:=6) rfl,_,rfl,_,ly.k (k:=hz (k:Int)) hX (hg eJ (by decide)),fun b u af ao e=>by rw [aG ao];exact dX _ _ af ao e,ew.upd,by rw [aG eu];exact hC,?_,_,rfl⟩;rw [db,ak1,eU];unfold oF;by_cases h:k ∈ iU ds sts ai cg wi (bV.take j)
    .rw [if_pos h,if_pos (.inr h)]
    .rw [if_neg h,if_neg (fun z=>z.elim fv h)]
   .have fv:iz ds sts ai cg k=ab "free" := by simpa using ae
    nofun;refine ⟨dX,ew,hC,?_,_,rfl⟩;rw [eU];unfold oF;rw [if_pos (.inl fv)];exact hX
  .rintro σ I bf;ac_rfl
   obtain ⟨dX,ew,hC,hX,y,rfl⟩:=bf;subst aY;rw [o',gF] at hX;exact bL _ _ ⟨fun b u af ao e=>dX _ _ af ao (s1 _ _ e),ew,hC,hX,y,rfl⟩
 rintro cb aB ⟨d9,cD,a2,d_,kD,rfl⟩;have lX:=d9.mH s0 tC wk;subst aY;generalize vr:iU ds sts ai cg wi bV=ij at *;cases dz:ai.bP with
 | none=>
  nofun;have lC:eb (dr ai cg a') 0=some .b4:=bt (j:=0) (by unfold dr;rw [dz];rfl);obtain ⟨g1,g2⟩:=jT dz;refine dO true (fun Q a0=>?_) (fun _=>?_) (fun aA=>nomatch aA)
  .nofun;exact ⟨_,av.of a2,_,lC,a0⟩
  simp only [dx];exists (fun az I=>jM np a' H I/\aL I/\I np=some (.lst (dr { ai with b2:=ai.b2 + 1 } cg a'))/\I a'=some (.bu (eR ij))/\az=[some (.int n),~~~wl,~~~a6,~~~np,~~~al,~~~gN,kD]),0
  .nofun;exact ⟨_,av.of a2,_,bt (j:=4) rfl,_,rfl,_,a2,4,rfl,bL _ _ ⟨fun b u af ao e=>by rw [aG af];exact d9 _ _ af ao e,cD.upd,by rw [db];rfl,by rw [aG (dJ eu)];exact d_,rfl⟩⟩
  rintro fS bw ⟨gT,dp,eC,hj,rfl⟩;have lI:=gT.mH s0 tC wk;subst aY;nofun;exact ⟨a6,np,a',qs,ms,sts,_,cg,ij,rfl,nA.same lI,eC,hj,g2,qh,tu,yq,dp,fun I dX ew hC hX=>q _ _ _ I (.inl ⟨dz,rfl,rfl,by rw [vr]⟩) (fun b u af ao e=>dX _ _ af ao (gT _ _ af ao e)) ew hC hX⟩
 | some i=>
  nofun;have ah:=Bd i dz;have aj:=aZ ah;have lC:eb (dr ai cg a') 0=some (.int (i:Nat)):=bt (j:=0) (by unfold dr;rw [dz];rfl);have W7:=d9 _ _ Rf (bK i8 hd (by intro z;cases z)) i8;refine dO false (fun Q a0=>?_) (fun aA=>nomatch aA) (fun _=>?_)
  .nofun;exact ⟨_,av.of a2,_,lC,a0⟩
  refine rL (fun b I=>aN aB I/\aL I/\b=oH ds sts[i] ai.cp ij bV) (fun jC a0=>?_) ?_ ?_
  .nofun;exact ⟨wl,a6,np,a',al,ds,qs,ms,sts,n,ai,cg,ij,bV,i,_,rfl,yG.same lX,nA.same lX,X,a2,dz,aj,d_,LO.lt,by have:=LO.len;omega,W7,cD,fun I bA nm=>⟨_,rfl,a0 _ _ ⟨bA,nm,rfl⟩⟩⟩
  .rintro bw ⟨s3,dp,ae⟩;have eC:=s3 _ _ a2;have hj:=s3 _ _ d_;nofun;exact ⟨_,av.of eC,_,bt (j:=1) rfl,_,rfl,_,eC,1,rfl,q { ai with cp:=ai.cp + 1 } cg ij _ (.inr (.inl ⟨i,_,dz,aj,by rw [vr];exact ae.symm,rfl,rfl,vr.symm⟩)) (fun b u af ao e=>by rw [aG af];exact s3 _ _ (d9 _ _ af ao e)) dp.upd (by rw [db];rfl) (by rw [aG (dJ eu)];exact hj)⟩
  .rintro bw ⟨s3,dp,ae⟩;have eC:=s3 _ _ a2;have hj:=s3 _ _ d_;have ct:ij ≠ []:=fun z=>by
    unfold oH at ae;rw [z] at ae;simp at ae
   have hw:∃ j,j < sts.length/\iB sts ij j=true:=by
    obtain ⟨k,r,au⟩:=l_ ct;have UL:k ∈ ij:=by rw [au];exact .head _
    obtain ⟨j,aJ,hm⟩:=X.Jb (LO.lt k UL);refine ⟨j,aJ,?_⟩;unfold iB;have:k ∈ (f9 sts j).filter fun k=>decide (k ∈ ij):=f5.mpr ⟨hm,decide_eq_true UL⟩
    cases hf:(f9 sts j).filter fun k=>decide (k ∈ ij) with
    | nil=>rw [hf] at this;cases this
    | cons a b=>rfl
   have lI:=lX.trans s3;simp only [dx];exists (fun az I=>∃ j,u1 ds sts ai ij i j/\jM np a' H I/\aL I/\I np=some (.lst (dr { ai with bc:=j } cg a'))/\I a'=some (.bu (eR ij))/\az=[some (.int n),~~~wl,~~~a6,~~~np,~~~al,~~~gN,kD]),0
   .nofun;refine ⟨wl,a6,np,a',ds,qs,ms,sts,n,ai,cg,ij,i,rfl,yG.same lI,nA.same lI,X,eC,dz,ah,hj,hw,uN,uL,dp,fun j I bA nm ar=>⟨_,bA _ _ eC,3,rfl,bL _ _ ⟨j,ar,fun b u af ao e=>by rw [aG af];exact bA _ _ (s3 _ _ (d9 _ _ af ao e)),nm.upd,by rw [db];rfl,by rw [aG (dJ eu)];exact bA _ _ hj,rfl⟩⟩⟩
   rintro kG cI ⟨j,ar,dU,dK,lD,p',rfl⟩;have sC:j < sts.length:=by
    have hm:j ∈ (js sts.length (iV ai (e3 ds sts ij i))).filter (mc ds sts ij (e3 ds sts ij i)):=Xq ar;refine Ls ?_ (f5.mp hm).1;unfold iV;split
    .exact uN.2
    .exact uL.2
   have a9:=aZ sC;subst aY;simp only [dx];exists (fun az I=>jM np a' H I/\aL I/\I np=some (.lst (dr { ai with bc:=j,lf:=i } cg a'))/\I a'=some (.bu (eR ij))/\az=[some (.int n),~~~wl,~~~a6,~~~np,~~~al,~~~gN,kD]),0
   .nofun;exact ⟨_,av.of lD,_,bt (j:=0) (by unfold dr;rw [show ({ ai with bc:=j }:dd).bP=some i from dz];rfl),_,lD,2,rfl,bL _ _ ⟨fun b u af ao e=>by rw [aG af];exact dU _ _ af ao e,dK.upd,by rw [db];rfl,by rw [aG (dJ eu)];exact p',rfl⟩⟩
   rintro qd dj ⟨eX,hh,i0,j3,rfl⟩;subst aY;simp only [dx];exists (fun az I=>jM np a' H I/\aL I/\I np=some (.lst (dr { ai with bc:=j,lf:=i,bP:=none } cg a'))/\I a'=some (.bu (eR ij))/\az=[some (.int n),~~~wl,~~~a6,~~~np,~~~al,~~~gN,kD]),0
   .nofun;exact ⟨_,i0,0,rfl,bL _ _ ⟨fun b u af ao e=>by rw [aG af];exact eX _ _ af ao e,hh.upd,by rw [db];rfl,by rw [aG (dJ eu)];exact j3,rfl⟩⟩
   rintro mm hc ⟨c7,ja,mf,sg,rfl⟩;subst aY;simp only [dx];exists (fun az I=>jM np a' H I/\aL I/\I np=some (.lst (dr { ai with bc:=j,lf:=i,bP:=none,b2:=0 } cg a'))/\I a'=some (.bu (eR ij))/\az=[some (.int n),~~~wl,~~~a6,~~~np,~~~al,~~~gN,kD]),0
   .nofun;exact ⟨_,mf,4,rfl,bL _ _ ⟨fun b u af ao e=>by rw [aG af];exact c7 _ _ af ao e,ja.upd,by rw [db];rfl,by rw [aG (dJ eu)];exact sg,rfl⟩⟩
   rintro kc f3 ⟨dt,kK,mI,wU,rfl⟩;have qO:=dt.mH s0 tC wk;subst aY;simp only [dx];exists (fun az I=>∃ v3,kI (lq n ds sts[i].bz sts[j].bz) v3/\jM np a' H I/\aL I/\I np=some (.lst (dr { ai with bc:=j,lf:=i,bP:=none,b2:=0 } v3 a'))/\I a'=some (.bu (eR ij))/\az=[some (.int n),~~~wl,~~~a6,~~~np,~~~al,~~~gN,kD]),0
   .nofun;exact ⟨_,av.of mI,_,bt (j:=2) rfl,_,av.of mI,_,bt (j:=3) rfl,n,wl,ds,a6,qs,ms,sts,i,j,_,_,rfl,yG.same qO,nA.same qO,X,aj,a9,kK,fun v aI=>⟨_,mI,5,rfl,bL _ _ ⟨v,aI,fun b u af ao e=>by rw [aG af];exact dt _ _ af ao e,kK.upd,by rw [db];rfl,by rw [aG (dJ eu)];exact wU,rfl⟩⟩⟩
   rintro uS iS ⟨v3,mF,dh,oS,pw,Al,rfl⟩;have xg:=dh.mH s0 tC wk;obtain ⟨kp,bA,ax,aK,bU⟩:=rj (nA.same xg) a9;obtain ⟨ha,r,au⟩:=l_ (X.six sC).1;have eK:=X.lt (fM sC) (show ha ∈ sts[j].bz by rw [au];exact .head _);obtain ⟨gQ,kd,o8,lT⟩:=yG.same xg;have gr:=aZ eK;have jy:=aZ (show ha < gQ.length by omega);have cT:=AS gr (X.ok _ (fM eK)).k;have hk:en ds sts j=k' ds ha:=by unfold en;rw [lB a9,au];rfl
   subst aY;simp only [dx];exists (fun az I=>jM np a' H I/\aL I/\I np=some (.lst (dr (TD ds sts ai i j) v3 a'))/\I a'=some (.bu (eR ij))/\az=[some (.int n),~~~wl,~~~a6,~~~np,~~~al,~~~gN,kD]),0
   .nofun;refine ⟨_,av.of pw,_,bt (j:=3) rfl,_,av.of pw,_,bt (j:=3) rfl,_,_,rfl,av.of (nA.same xg).at_,_,bt (by rw [cN,ax];rfl),_,rfl,_,cJ.of aK,_,bt (j:=2) rfl,_,rfl,_,av.of bU,_,bt (j:=0) (by rw [au];rfl),_,_,rfl,av.of kd,_,bt (by rw [cN,jy];rfl),_,rfl,_,cJ.of (lT ha _ _ jy gr),_,bt (j:=0) rfl,rfl,?_⟩;rw [cT,<- hk];refine ⟨_,pw,?_⟩;cases aA:en ds sts j with
    | true=>exact ⟨8,rfl,bL _ _ ⟨fun b u af ao e=>by rw [aG af];exact dh _ _ af ao e,oS.upd,by rw [db];unfold TD;rw [aA];rfl,by rw [aG (dJ eu)];exact Al,rfl⟩⟩
    | false=>exact ⟨7,rfl,bL _ _ ⟨fun b u af ao e=>by rw [aG af];exact dh _ _ af ao e,oS.upd,by rw [db];unfold TD;rw [aA];rfl,by rw [aG (dJ eu)];exact Al,rfl⟩⟩
   rintro ao7 anT ⟨lN,vO,va,Yx,rfl⟩;have agz:=lN.mH s0 tC wk;subst aY;nofun;exact ⟨a6,np,a',qs,ms,sts,_,v3,ij,rfl,nA.same agz,va,Yx,sC,qh,tu,yq,vO,fun I dX ew hC hX=>q _ _ _ I (.inr (.inr ⟨i,_,j,_,dz,aj,by rw [vr];exact ae.symm,by rw [vr];exact ar,a9,mF,rfl,by rw [vr]⟩)) (fun b u af ao e=>dX _ _ af ao (lN _ _ af ao e)) ew hC hX⟩
section
variable {n:Int} {ds:List a3} {sts:List dG}
theorem cW.tell (X:cW n ds sts) {d:a3} (hd:d ∈ ds):My.told (bX ds sts) d.name=true:=by
 have h:hy ds (bX ds sts)=[]:=aj8.mp X.none.1;unfold hy at h;have:=ES.mp h d.name (bJ.mpr ⟨d,hd,rfl⟩);simpa using this
theorem GD {j k:Nat} (h:k ∈ f9 sts j):∃ x,sts[j]? = some x/\k ∈ x.bz:=by
 unfold f9 at h;cases e:sts[j]? with
 | none=>rw [e] at h;simp at h
 | some x=>rw [e] at h;exact ⟨x,rfl,h⟩
theorem cW.uniq (X:cW n ds sts) {j i k:Nat} (af:k ∈ f9 sts j) (ao:k ∈ f9 sts i):j=i:=by
 have half:∀ {a b:Nat},a < b->k ∈ f9 sts a->k ∈ f9 sts b->False:=fun {a b} mL aR ae=>by
  obtain ⟨x,aj,KO⟩:=GD aR;obtain ⟨y,a9,ags⟩:=GD ae;have hf:=X.told a9 (x:=dW ds k) (bJ.mpr ⟨k,ags,rfl⟩);have qC:x ∈ sts.take b:=cm (by rw [u7 mL];exact aj);have:My.told (bX ds (sts.take b)) (dW ds k)=true:=by
   unfold My.told;refine oY.mpr ⟨jd ds x,bJ.mpr ⟨x,qC,rfl⟩,?_⟩;have hm:dW ds k ∈ dN ds x:=bJ.mpr ⟨k,KO,rfl⟩;simpa [jd] using hm
  rw [hf] at this;cases this
 rcases ad' j i with h | h | h
 .exact (half h af ao).elim
 .exact h
 .exact (half h ao af).elim
theorem cW.uw (X:cW n ds sts) {j k:Nat} {d:a3} (hd:ds[k]? = some d):kP (bX ds sts) d.name=some j↔k ∈ f9 sts j:=by
 obtain ⟨gf,r,_,au,jD,hm⟩:=ph (X.tell (cm hd));unfold bX at jD;rw [cN] at jD;obtain ⟨x,aj,rfl⟩:=tU.mp jD;have hm:d.name ∈ dN ds x:=hm;have KO:k ∈ x.bz:=(CK X.aH (fun i ah=>X.lt (cm aj) ah) hd).mp hm;have gI:k ∈ f9 sts gf:=by rw [lB aj];exact KO
 rw [au];constructor
 .intro e;cases e;exact gI
 .intro h;rw [X.uniq h gI]
theorem Ph (X:cW n ds sts) {k:Nat} {d:a3} {s:dd} {cg:Int} (hd:ds[k]? = some d) (mF:s.bP=none->cg=kY n ds (bX ds sts) s.lf s.bc/\s.lf ≠ s.bc):ie n ds (bX ds sts) s d=iz ds sts s cg k:=by
 unfold ie iz;cases dz:s.bP with
 | some i=>
  show rD (bX ds sts) i d.name=yd ds sts i k;unfold rD yd;simp only [X.uw hd]
 | none=>
  obtain ⟨rfl,ct⟩:=mF dz;show qY n ds (bX ds sts) s d=wh ds sts s _ _ k;unfold qY wh ur;simp only [X.uw hd,gF,xE hd,xS hd];by_cases af:k ∈ f9 sts s.lf
  .have ao:k ∉ f9 sts s.bc:=fun z=>ct (X.uniq af z)
   simp [af,ao]
  .simp [af]
theorem cW.amv (X:cW n ds sts) {j k:Nat} (h:k ∈ f9 sts j):k' ds k=en ds sts j:=by
 obtain ⟨x,aj,au⟩:=GD h;have qC:=cm aj;obtain ⟨aJ,rfl⟩:=cv.mp aj;obtain ⟨ha,r,e⟩:=l_ (X.six aJ).1;have ic:ha ∈ sts[j].bz:=by rw [e];exact .head _
 have eB:=aZ (X.lt qC au);have ji:=aZ (X.lt qC ic);have aR:=sf.mp (X.k2.bc.al _ (bJ.mpr ⟨_,qC,rfl⟩) k au ha ic _ _ eB ji);unfold en k';rw [lB aj,e];show decide ((ds[k]?).map (·.k)=some 2)=decide ((ds[ha]?).map (·.k)=some 2);rw [eB,ji];exact decide_eq_decide.mpr ⟨fun z=>congrArg some (aR.mp (ei z)),fun z=>congrArg some (aR.mpr (ei z))⟩
theorem cW.sort (X:cW n ds sts) {j:Nat} (aJ:j < sts.length):Uf ds (bX ds sts) j=if en ds sts j=true then d5 else iC:=by
 have aj:=aZ aJ;obtain ⟨ha,r,e⟩:=l_ (X.six aJ).1;have ic:ha ∈ sts[j].bz:=by rw [e];exact .head _
 have ji:=aZ (X.lt (fM aJ) ic);unfold Uf bX;rw [cN,aj];show d3 ds (jd ds sts[j])=_;unfold d3 jd dN;rw [e,e1,gs ji];show (((i3 ds _).map iA).getD _)=_;rw [iF X.aH ji];show iA _=_;unfold iA en k';rw [lB aj,e];show _=if decide ((ds[ha]?).map (·.k)=some 2)=true then d5 else iC;rw [ji,zc];by_cases h:(ds[ha]'(X.lt (fM aJ) ic)).k=2
 .rw [if_pos h,if_pos (decide_eq_true (congrArg some h))]
 .rw [if_neg h,if_neg (fun z=>h (ei (of_decide_eq_true z)))]
def ib (ds:List a3) (wt:List Str) (wi:List Nat):Prop:=∀ (k:Nat) (d:a3),ds[k]? = some d->(k ∈ wi↔d.name ∈ wt)
theorem akf (X:cW n ds sts) {k:Nat} {d:a3} {s:dd} {cg:Int} (hd:ds[k]? = some d) (mF:s.bP=none->cg=kY n ds (bX ds sts) s.lf s.bc/\s.lf ≠ s.bc):iy (bX ds sts) s d.name=true↔iz ds sts s cg k=ab "free" := by
 rw [<- Ra n ds (bX ds sts) s d,Ph X hd mF,decide_eq_true_eq];exact ⟨fun z=>by injection z,fun z=>by rw [z]⟩
theorem ib.one (aH:(ds.map (·.name)).Nodup) {wt:List Str} {wi:List Nat} {s:dd} {cg:Int} {i:Nat} {e:a3} {rows:List ST} (h:ib ds wt wi) (he:ds[i]? = some e) (hf:iy rows s e.name=true↔iz ds sts s cg i=ab "free"):ib ds (o7 rows s wt e.name) (oF ds sts s cg wi i):=by
 intro k d hd;unfold o7 oF;by_cases c:iy rows s e.name=true\/e.name ∈ wt
 .rw [if_pos c,if_pos (c.imp hf.mp (h i e he).mpr)];exact h k d hd
 .rw [if_neg c,if_neg (fun z=>c (z.imp hf.mpr (h i e he).mp))];rw [gE,gE,gq,gq];constructor
  .rintro (z | rfl)
   .exact .inl ((h k d hd).mp z)
   .rw [he] at hd;cases hd;exact .inr rfl
  .rintro (z | z)
   .exact .inl ((h k d hd).mpr z)
   .exact .inr (D1 aH hd he z)
theorem ib.ask (X:cW n ds sts) {s:dd} {cg:Int} (mF:s.bP=none->cg=kY n ds (bX ds sts) s.lf s.bc/\s.lf ≠ s.bc):∀ (bV:List Nat) (wt:List Str) (wi:List Nat),(∀ i ∈ bV,i < ds.length)->ib ds wt wi->ib ds (n4 (bX ds sts) s wt (bV.map (dW ds))) (iU ds sts s cg wi bV)
 | [],_,_,_,h=>h
 | i :: bV,wt,wi,aR,h=>by
  have he:=aZ (aR i (.head _));have af:=h.one (sts:=sts) (cg:=cg) X.aH he (akf X he mF);have:=ib.ask X mF bV _ _ (fun k au=>aR k (.tail _ au)) af;rw [<- gs he] at this;exact this
theorem ib.drop (X:cW n ds sts) {wt:List Str} {wi:List Nat} {x:dG} (h:ib ds wt wi) (aj:x ∈ sts):ib ds (wt.filter fun y=>!decide (y ∈ dN ds x)) (wi.filter fun i=>!decide (i ∈ x.bz)):=by
 intro k d hd;have hm:=CK X.aH (fun i ah=>X.lt aj ah) hd;rw [f5,f5,h k d hd];simp [hm]
theorem ib.empty {wt:List Str} {wi:List Nat} (h:ib ds wt wi) (hw:∀ x ∈ wt,x ∈ ds.map (·.name)) (ah:∀ k ∈ wi,k < ds.length):wt.isEmpty=wi.isEmpty:=by
 cases Vs:wt with
 | nil=>
  cases xh:wi with
  | nil=>rfl
  | cons k r=>
   have au:k ∈ wi:=by rw [xh];exact .head _
   have:=(h k _ (aZ (ah k au))).mp au;rw [Vs] at this;cases this
 | cons x r=>
  cases xh:wi with
  | cons k r=>rfl
  | nil=>
   have aj:x ∈ wt:=by rw [Vs];exact .head _
   obtain ⟨d,hd,e⟩:=bJ.mp (hw x aj);obtain ⟨k,au⟩:=iN hd;have:=(h k d au).mpr (by rw [e];exact aj);rw [xh] at this;cases this
theorem cW.pf (X:cW n ds sts) {k:Nat} {d:a3} (hd:ds[k]? = some d):decide (My.pf ds (bX ds sts) d.name=d5)=k' ds k:=by
 obtain ⟨j,aJ,au⟩:=X.Jb (cv.mp hd).1;have aC:=X.sort aJ;unfold Uf at aC;unfold My.pf;rw [(X.uw hd).mpr au,uu,aC,X.amv au];have af:iC ≠ d5:=by ac_nf
 cases en ds sts j <;> simp [af]
theorem aja (X:cW n ds sts) {wt:List Str} {wi:List Nat} (h:ib ds wt wi) (hw:∀ x ∈ wt,x ∈ ds.map (·.name)) (ah:∀ k ∈ wi,k < ds.length):(!uT ds (bX ds sts) wt)=(wi.filter (k' ds)).isEmpty:=by
 unfold uT;rw [ig,zd,ES,Bool.not_eq_true',D6];constructor
 .intro z k au;have hd:=aZ (ah k au);have:=z _ ((h k _ hd).mp au);rw [X.pf hd] at this;exact this
 .intro z x aj;obtain ⟨d,hd,e⟩:=bJ.mp (hw x aj);obtain ⟨k,au⟩:=iN hd;have:=z k ((h k d au).mpr (by rw [e];exact aj));rw [<- e,X.pf au];exact this
theorem al9 (X:cW n ds sts) {s:dd} {i:Nat} {x:dG} (dz:s.bP=some i) (aj:sts[i]? = some x) {bV:List Nat} (aR:∀ a ∈ bV,a < ds.length):(bV.map (dW ds)).any (iy (bX ds sts) s) = !(x.bz.filter fun k=>decide (k ∈ bV)).isEmpty:=by
 have hf:∀ a ∈ bV,iy (bX ds sts) s (dW ds a)=true↔a ∈ x.bz:=fun a h=>by
  have hd:=aZ (aR a h);rw [gs hd];unfold iy;rw [dz];show decide _=true↔_;rw [decide_eq_true_eq,X.uw hd,lB aj]
 rw [ig,oY];constructor
 .rintro ⟨y,a9,ae⟩;obtain ⟨a,h,rfl⟩:=bJ.mp a9;have hm:a ∈ x.bz.filter fun k=>decide (k ∈ bV):=f5.mpr ⟨(hf a h).mp ae,decide_eq_true h⟩
  cases e:x.bz.filter fun k=>decide (k ∈ bV) with
  | nil=>rw [e] at hm;cases hm
  | cons u v=>rfl
 .intro ae;cases e:x.bz.filter fun k=>decide (k ∈ bV) with
  | nil=>rw [e] at ae;cases ae
  | cons u v=>
   have hm:u ∈ x.bz.filter fun k=>decide (k ∈ bV):=by rw [e];exact .head _
   obtain ⟨af,ao⟩:=f5.mp hm;have ao:u ∈ bV:=of_decide_eq_true ao;exact ⟨_,bJ.mpr ⟨u,ao,rfl⟩,(hf u ao).mpr af⟩
theorem Z5 (X:cW n ds sts) {s s1:dd} {i:Nat} {x:dG} (dz:s.bP=some i) (aj:sts[i]? = some x) {bV wi:List Nat} (aR:∀ a ∈ bV,a < ds.length) (h:ib ds s1.wt wi) (hw:∀ x ∈ s1.wt,x ∈ ds.map (·.name)) (ah:∀ k ∈ wi,k < ds.length) :
  ov ds (bX ds sts) s1 (jd ds x) ((bV.map (dW ds)).any (iy (bX ds sts) s))=oH ds x s1.cp wi bV:=by
 unfold ov oH;rw [al9 X dz aj aR,aja X h hw ah,h.empty hw ah];show (wi.isEmpty || decide (s1.cp < x.lo) || (decide (s1.cp < x.ah) && _ && _))=_;have e:decide (x.ah <= s1.cp) = !decide (s1.cp < x.ah):=by
  by_cases c:s1.cp < x.ah
  .rw [decide_eq_true c,decide_eq_false (by omega)];rfl
  .rw [decide_eq_false c,decide_eq_true (by omega)];rfl
 rw [e];cases wi.isEmpty <;> cases decide (s1.cp < x.lo) <;> cases decide (s1.cp < x.ah) <;> cases (x.bz.filter fun k=>decide (k ∈ bV)).isEmpty <;> cases (wi.filter (k' ds)).isEmpty <;> rfl
theorem UI (X:cW n ds sts) {s:dd} {wi:List Nat} (h:ib ds s.wt wi) (hw:∀ x ∈ s.wt,x ∈ ds.map (·.name)) (ah:∀ k ∈ wi,k < ds.length) {j:Nat}:j ∈ lH (bX ds sts) s↔j < sts.length/\iB sts wi j=true:=by
 unfold lH;rw [bJ];constructor
 .rintro ⟨x,aj,rfl⟩;obtain ⟨d,hd,e⟩:=bJ.mp (hw x aj);obtain ⟨k,au⟩:=iN hd;have OT:=(h k d au).mpr (by rw [e];exact aj);obtain ⟨j,aJ,hm⟩:=X.Jb (ah k OT);have fY:pS (bX ds sts) x=j:=by unfold pS;rw [<- e,(X.uw au).mpr hm];rfl
  rw [fY];refine ⟨aJ,?_⟩;unfold iB;have hf:k ∈ (f9 sts j).filter fun k=>decide (k ∈ wi):=f5.mpr ⟨hm,decide_eq_true OT⟩
  cases e:(f9 sts j).filter fun k=>decide (k ∈ wi) with
  | nil=>rw [e] at hf;cases hf
  | cons a b=>rfl
 .rintro ⟨aJ,ae⟩;unfold iB at ae;cases e:(f9 sts j).filter fun k=>decide (k ∈ wi) with
  | nil=>rw [e] at ae;cases ae
  | cons k r=>
   have hm:k ∈ (f9 sts j).filter fun k=>decide (k ∈ wi):=by rw [e];exact .head _
   obtain ⟨af,ao⟩:=f5.mp hm;have ao:k ∈ wi:=of_decide_eq_true ao;have hd:=aZ (ah k ao);exact ⟨_,(h k _ hd).mp ao,by unfold pS;rw [(X.uw hd).mpr af];rfl⟩
theorem S6 (X:cW n ds sts) {i j:Nat} (ah:i < sts.length) (aJ:j < sts.length):Uf ds (bX ds sts) j=Uf ds (bX ds sts) i↔en ds sts j=en ds sts i:=by
 have af:d5 ≠ iC:=by ac_nf
 rw [X.sort ah,X.sort aJ];cases en ds sts i <;> cases en ds sts j <;> simp [af,af.symm]
theorem adA (X:cW n ds sts) {s:dd} {wi:List Nat} {i:Nat} (hV:i < sts.length) (h:ib ds s.wt wi) (hw:∀ x ∈ s.wt,x ∈ ds.map (·.name)) (ah:∀ k ∈ wi,k < ds.length) {j:Nat}:j ∈ iM ds (bX ds sts) s i↔j < sts.length/\mc ds sts wi (e3 ds sts wi i) j=true:=by
 have GF:∀ {j},j ∈ qk ds (bX ds sts) s i↔j < sts.length/\iB sts wi j=true/\en ds sts j ≠ en ds sts i:=fun {j}=>by
  unfold qk;rw [f5,UI X h hw ah];constructor
  .rintro ⟨⟨a,b⟩,c⟩;have c:¬ Uf ds (bX ds sts) j=Uf ds (bX ds sts) i:=by simpa using c
   exact ⟨a,b,fun z=>c ((S6 X hV a).mpr z)⟩
  .rintro ⟨a,b,c⟩;have c:¬ Uf ds (bX ds sts) j=Uf ds (bX ds sts) i:=fun z=>c ((S6 X hV a).mp z)
   exact ⟨⟨a,b⟩,by simpa using c⟩
 have p9:∀ {j},j ∈ nT ds sts wi i↔j < sts.length/\iB sts wi j=true/\en ds sts j ≠ en ds sts i:=fun {j}=>by
  unfold nT;rw [f5,g7,g_,bne_iff_ne]
 have aiA:(qk ds (bX ds sts) s i).isEmpty=(nT ds sts wi i).isEmpty:=by
  rw [ig,zd,zd,aju,aju];exact ⟨fun z a aR=>z a (GF.mpr (p9.mp aR)),fun z a aR=>z a (p9.mpr (GF.mp aR))⟩
 unfold iM mc e3;rw [aiA];by_cases he:(nT ds sts wi i).isEmpty=true
 .rw [if_pos he,if_pos he,UI X h hw ah,g_,beq_iff_eq];have p0:∀ j,j < sts.length->iB sts wi j=true->en ds sts j=en ds sts i:=fun j a b=>by
   apply Nx;intro c;have:=p9.mpr ⟨a,b,c⟩;rw [zd.mp he] at this;cases this
  exact ⟨fun ⟨a,b⟩=>⟨a,b,p0 j a b⟩,fun ⟨a,b,_⟩=>⟨a,b⟩⟩
 .rw [if_neg he,if_neg he,GF,g_,beq_iff_eq];have ae:∀ a b:Bool,a ≠ b↔a = !b:=by decide
  rw [ae]
theorem Hc {last m v:Int} (af:-1 <= last) (ao:last < v) (bj:v < m):qb last m v=v - last - 1:=by
 unfold qb;exact xN (by omega) (by omega)
theorem Gi {last m v:Int} (af:last < m) (ao:0 <= v) (bj:v <= last):qb last m v=v - last - 1 + m:=by
 unfold qb;have e:(v - last - 1) % m=(v - last - 1 + m) % m:=by simp
 rw [e];exact xN (by omega) (by omega)
theorem aaT {m:Nat} {last:Int} (af:-1 <= last) (ao:last < m):(js m last).Pairwise fun (u v:Nat)=>qb last m u < qb last m v:=by
 unfold js;rw [List.pairwise_append];refine ⟨?_,?_,?_⟩
 .rw [al4];refine O' (fun {a b} aR ae mL=>?_) al5;have aR:=g7.mp aR;have ae:=g7.mp ae;rw [Hc af (by omega) (by omega),Hc af (by omega) (by omega)];omega
 .refine O' (fun {a b} aR ae mL=>?_) al5;have aR:=g7.mp aR;have ae:=g7.mp ae;rw [Gi ao (by omega) (by omega),Gi ao (by omega) (by omega)];omega
 .intro a aR b ae;obtain ⟨hC,SI,rfl⟩:=bJ.mp aR;have SI:=g7.mp SI;have ae:=g7.mp ae;rw [Hc af (by omega) (by omega),Gi ao (by omega) (by omega)];omega
theorem alZ (X:cW n ds sts) {s s1:dd} {wi:List Nat} {i j gf:Nat} (hV:i < sts.length) (h:ib ds s1.wt wi) (hw:∀ x ∈ s1.wt,x ∈ ds.map (·.name)) (ah:∀ k ∈ wi,k < ds.length) (uN:s1.pt=s.pt) (uL:s1.po=s.po) (dR:-1 <= s.pt/\s.pt < sts.length) (d_:-1 <= s.po/\s.po < sts.length)
  (af:EU ds (bX ds sts) s1 i j) (ao:u1 ds sts s wi i gf):j=gf:=by
 have Kv:=fun {j}=>adA X (i:=i) hV h hw ah (j:=j)
 have hlen:((bX ds sts).length:Int)=(sts.length:Int):=by unfold bX;rw [aP]
 have ZN:rl ds (bX ds sts) s1 (iM ds (bX ds sts) s1 i)=iV s (e3 ds sts wi i):=by
  unfold rl iV;obtain ⟨c,r,e⟩:=l_ (Ya af.1);have aA:=Kv.mp (show c ∈ iM ds (bX ds sts) s1 i by rw [e];exact .head _);have zD:iC ≠ d5:=by ac_nf
  have cT:en ds sts c=e3 ds sts wi i:=by
   have:=aA.2;unfold mc at this;rw [g_,beq_iff_eq] at this;exact this.2
  rw [e];show (if Uf ds (bX ds sts) c=d5 then _ else _)=_;rw [X.sort aA.1,cT,uN,uL];cases e3 ds sts wi i <;> simp [zD]
 have ae:-1 <= iV s (e3 ds sts wi i)/\iV s (e3 ds sts wi i) < sts.length:=by
  unfold iV;split
  .exact dR
  .exact d_
 obtain ⟨aJ,S_⟩:=af;rw [ZN,hlen] at S_;have hW:=(aaT (m:=sts.length) ae.1 ae.2).filter (mc ds sts wi (e3 ds sts wi i));have m9:gf ∈ (js sts.length (iV s (e3 ds sts wi i))).filter (mc ds sts wi (e3 ds sts wi i)):=Xq ao;have Bg:=Kv.mp aJ;have sC:j ∈ (js sts.length (iV s (e3 ds sts wi i))).filter (mc ds sts wi (e3 ds sts wi i)):=f5.mpr ⟨Nm Bg.1,Bg.2⟩;have UO:=f5.mp m9;have als:=Ls ae.2 UO.1;have am6:=S_ gf (Kv.mpr ⟨als,UO.2⟩);unfold u1 at ao;cases e:(js sts.length (iV s (e3 ds sts wi i))).filter (mc ds sts wi (e3 ds sts wi i)) with
 | nil=>rw [e] at ao;cases ao
 | cons u v=>
  rw [e] at ao hW sC;cases ao;rcases fx.mp sC with z | z
  .exact z
  .have:=(List.pairwise_cons.mp hW).1 j z;omega
theorem pz {j:Nat} {x:dG} (h:sts[j]? = some x):(bX ds sts)[j]? = some (jd ds x):=by unfold bX;rw [cN,h];rfl
theorem aed (X:cW n ds sts) {i j:Nat} {x y:dG} (aj:sts[i]? = some x) (a9:sts[j]? = some y) {v:Int} (aI:kI (lq n ds x.bz y.bz) v):kY n ds (bX ds sts) i j=v:=by
 cases e:(iL n ds (dN ds x) (dN ds y)).max? with
 | none=>
  have:=List.max?_eq_none_iff.mp e;unfold iL at this;simp at this
 | some u=>
  have bC:kI (iL n ds (dN ds x) (dN ds y)) u:=acQ.mp e;rw [EP (pz aj) (pz a9) bC];exact alM X.aH (fun i ah=>X.lt (cm aj) ah) (fun i ah=>X.lt (cm a9) ah) bC aI
theorem aaD {x y:dG} {v:Int} (h:kI (lq n ds x.bz y.bz) v):0 <= v:=h.2 0 (by unfold lq;simp)
structure vU (n:Int) (ds:List a3) (sts:List dG) (s:dd) (cg:Int) (wi:List Nat):Prop where
 wr:ib ds s.wt wi
 ok:pd ds wi
 jI:j9 ds (bX ds sts) s
 ch:s.bP=none->cg=kY n ds (bX ds sts) s.lf s.bc/\s.b2 < cg
 pt:-1 <= s.pt/\s.pt < sts.length
 po:-1 <= s.po/\s.po < sts.length
theorem Rn (X:cW n ds sts) {s1:dd} {cg:Int} {wi:List Nat} {y:dG} (aQ:s1.bP=none) (a9:sts[s1.bc]? = some y) (mF:kY n ds (bX ds sts) s1.lf s1.bc=cg) (bp:s1.b2 <= cg) (wr:ib ds s1.wt wi) (ok:pd ds wi) (jI:j9 ds (bX ds sts) (nB n ds (bX ds sts) s1 (dN ds y)))
  (pt:-1 <= s1.pt/\s1.pt < sts.length) (po:-1 <= s1.po/\s1.po < sts.length) (s2:dd) (ao:∀ a',dr s2 cg a'=dr s1 cg a') (a':Addr) :
  dr (sD s2 cg) cg a'=dr (nB n ds (bX ds sts) s1 (dN ds y)) cg a'/\vU n ds sts (nB n ds (bX ds sts) s1 (dN ds y)) cg (sT sts s2 cg wi):=by
 have h:=ao a';unfold dr at h;simp only [ZV,V.int.injEq,and_true] at h;obtain ⟨e7,ax,aK,bU,eW,_,_,fR,e0⟩:=h;have bU:s2.bc=s1.bc:=by omega
 unfold sD sT;unfold nB at jI ⊢;rw [mF] at jI ⊢;by_cases c:s1.b2 < cg
 .rw [if_pos c] at jI ⊢;rw [if_neg (by omega),if_neg (by omega)];exact ⟨ao a',wr,ok,jI,fun _=>⟨mF.symm,c⟩,pt,po⟩
 .rw [if_neg c] at jI ⊢;rw [if_pos (by omega),if_pos (by omega)];refine ⟨?_,?_,?_,jI,fun z=>(by cases z),pt,po⟩
  .unfold dr;show [V.int (s2.bc:Nat),V.int 1,V.int s2.lf,V.int s2.bc,V.int s2.b2,V.int cg,V.ref a',V.int s2.po,V.int s2.pt]=[V.int (s1.bc:Nat),V.int 1,V.int s1.lf,V.int s1.bc,V.int s1.b2,V.int cg,V.ref a',V.int s1.po,V.int s1.pt];rw [aK,bU,eW,fR,e0]
  .have:=wr.drop X (cm a9);rw [bU,lB a9];exact this
  .exact ⟨ok.aH.filter _,fun k au=>ok.lt k (f5.mp au).1⟩
theorem sim (X:cW n ds sts) (R:FB ds (bX ds sts)) {s s1 s2:dd} {cg kQ:Int} {wi bV n_:List Nat} (r:vU n ds sts s cg wi) (aR:∀ a ∈ bV,a < ds.length)
  (af:tG n ds (bX ds sts) (nx (bX ds sts) s (bV.map (dW ds))) ((bV.map (dW ds)).any (iy (bX ds sts) s)) s1) (ao:Ox n ds sts s cg wi bV s2 kQ n_) (a':Addr):dr s2 kQ a'=dr s1 kQ a'/\vU n ds sts s1 kQ n_:=by
 have iI:∀ x ∈ bV.map (dW ds),x ∈ ds.map (·.name):=fun x aj=>by
  obtain ⟨a,h,rfl⟩:=bJ.mp aj;have hd:=aZ (aR a h);rw [gs hd];exact bJ.mpr ⟨_,fM _,rfl⟩
 have mF:s.bP=none->cg=kY n ds (bX ds sts) s.lf s.bc/\s.lf ≠ s.bc:=fun z=>⟨(r.ch z).1,(r.jI.ch z).2.2⟩
 have FJ:=M5 iI r.jI;have y9:=Ym R FJ af;have xC:ib ds (nx (bX ds sts) s (bV.map (dW ds))).wt (iU ds sts s cg wi bV):=ib.ask X mF bV s.wt wi aR r.wr;have yD:pd ds (iU ds sts s cg wi bV):=Dt bV wi aR r.ok;have hlen:(bX ds sts).length=sts.length:=by unfold bX;rw [aP]
 have h8:∀ {i x},s.bP=some i->sts[i]? = some x->ov ds (bX ds sts) (nx (bX ds sts) s (bV.map (dW ds))) (jd ds x) ((bV.map (dW ds)).any (iy (bX ds sts) s))=oH ds x s.cp (iU ds sts s cg wi bV) bV:=fun {i x} a b=>Z5 X a b aR xC FJ.aE yD.lt
 rcases af with ⟨a1,kW,a2,rfl⟩ | ⟨i,kW,a1,a2,eC,rfl⟩ | ⟨i,kW,j,vb,a1,a2,eC,lD,i0,rfl⟩
 .have a1:s.bP=none:=a1;rcases ao with ⟨_,rfl,rfl,rfl⟩ | ⟨gx,x,dR,_⟩ | ⟨gx,x,gf,y,dR,_⟩
  .have a2:(bX ds sts)[s.bc]? = some kW:=a2;have lJ:s.bc < sts.length:=by have:=(r.jI.ch a1).2.1;rw [hlen] at this;exact this
   have a9:=aZ lJ;rw [pz a9] at a2;cases a2;obtain ⟨cf,c1⟩:=r.ch a1;exact Rn X (s1:={ nx (bX ds sts) s (bV.map (dW ds)) with b2:=s.b2 + 1 }) (s2:={ s with b2:=s.b2 + 1 }) a1 a9 cf.symm (show s.b2 + 1 <= _ by omega) xC yD y9 r.pt r.po (fun _=>rfl) a'
  .rw [a1] at dR;cases dR
  .rw [a1] at dR;cases dR
 .have a1:s.bP=some i:=a1;have ah:i < sts.length:=by have:=(r.jI.bP i a1).1;rw [hlen] at this;exact this
  have aj:=aZ ah;rw [pz aj] at a2;cases a2;rcases ao with ⟨dR,_⟩ | ⟨gx,x,dR,d_,hj,rfl,rfl,rfl⟩ | ⟨gx,x,gf,y,dR,d_,hj,_⟩
  .rw [a1] at dR;cases dR
  .exact ⟨rfl,xC,yD,y9,fun z=>(by have z:s.bP=none:=z;rw [a1] at z;cases z),r.pt,r.po⟩
  .rw [a1] at dR;cases dR;rw [aj] at d_;cases d_;rw [h8 a1 aj,hj] at eC;cases eC
 .have a1:s.bP=some i:=a1;have ah:i < sts.length:=by have:=(r.jI.bP i a1).1;rw [hlen] at this;exact this
  have aj:=aZ ah;rw [pz aj] at a2;cases a2;rcases ao with ⟨dR,_⟩ | ⟨gx,x,dR,d_,hj,_⟩ | ⟨gx,x,gf,y,dR,d_,hj,p',j3,sg,rfl,rfl⟩
  .rw [a1] at dR;cases dR
  .rw [a1] at dR;cases dR;rw [aj] at d_;cases d_;rw [h8 a1 aj,hj] at eC;cases eC
  .rw [a1] at dR;cases dR;rw [aj] at d_;cases d_;have Dc:=alZ X ah xC FJ.aE yD.lt (s:=s) rfl rfl r.pt r.po lD p';subst Dc;rw [pz j3] at i0;cases i0;have m5:j < sts.length:=(cv.mp j3).1;have mh:d3 ds (jd ds y)=if en ds sts j=true then d5 else iC:=by
    have:=X.sort m5;unfold Uf at this;rw [pz j3] at this;exact this
   have ae:∀ {q:Prop} [Decidable q] {c:Int},(-1 <= c/\c < sts.length)->-1 <= (if q then (j:Int) else c)/\(if q then (j:Int) else c) < sts.length:=fun {q} _ {c} aA=>by
    split
    .exact ⟨by omega,by omega⟩
    .exact aA
   have fv:∀ {q:Prop} [Decidable q] {c:Int},(-1 <= c/\c < sts.length)->-1 <= (if q then c else (j:Int))/\(if q then c else (j:Int)) < sts.length:=fun {q} _ {c} aA=>by
    split
    .exact aA
    .exact ⟨by omega,by omega⟩
   refine Rn X (s1:=yh (nx (bX ds sts) s (bV.map (dW ds))) i j (d3 ds (jd ds y))) (s2:=TD ds sts s i j) rfl j3 (aed X aj j3 sg) (aaD sg) xC yD y9 (ae r.pt) (fv r.po) (fun a'=>?_) a';unfold dr TD yh;rw [mh];have zD:iC ≠ d5:=by ac_nf
   cases en ds sts j
   .simp [zD,nx]
   .simp [nx]
end
theorem ht.pC {H I:aw} {wl:Addr} {ds:List a3} (h:ht H wl ds) (s:iX H I):ht I wl ds:=by
 obtain ⟨qs,ax,aK,bU⟩:=h;exact ⟨qs,s.lst ax,aK,fun i q d a b=>s.tup (bU i q d a b)⟩
theorem jb.pC {H I:aw} {a6:Addr} {qs ms:List Addr} {sts:List dG} (h:jb H a6 qs ms sts) (s:iX H I):jb I a6 qs ms sts:=
 ⟨s.lst h.at_,h.bY,h.cL,fun i q m x a b c=>⟨s.tup (h.al i q m x a b c).1,s.lst (h.al i q m x a b c).2⟩⟩
theorem cW.Zn {n:Int} {ds:List a3} {sts:List dG} (X:cW n ds sts):FB ds (bX ds sts):=by
 refine ⟨fun d hd=>X.tell hd,fun r aq=>?_,fun r aq=>?_,by have:=X.sl;omega⟩
 .obtain ⟨x,aj,rfl⟩:=bJ.mp aq;show (dN ds x).length <= 12;unfold dN;rw [aP];have:=(X.jr.bd x aj).2.2.2.1;omega
 .obtain ⟨x,aj,rfl⟩:=bJ.mp aq;obtain ⟨j,aJ,e⟩:=tI aj;have:=X.sort aJ;unfold Uf at this;rw [pz (aZ aJ),e] at this;have this:d3 ds (jd ds x)=_:=this;rw [this];split
  .exact .inl rfl
  .exact .inr rfl
theorem VO {ds:List a3}:∀ xs:List Str,(∀ x ∈ xs,x ∈ ds.map (·.name))->∃ bV:List Nat,xs=bV.map (dW ds)/\(∀ a ∈ bV,a < ds.length)/\bV.length=xs.length
 | [],_=>⟨[],rfl,fun _ h=>(by cases h),rfl⟩
 | x :: xs,h=>by
  obtain ⟨bV,e,aM,aQ⟩:=VO xs fun y a9=>h y (.tail _ a9)
  obtain ⟨d,hd,m7⟩:=bJ.mp (h x (.head _));obtain ⟨k,au⟩:=iN hd;refine ⟨k :: bV,?_,fun a aR=>?_,by simp [aQ]⟩
  .rw [e1,<- e,gs au,m7]
  .rcases fx.mp aR with rfl | aR
   .exact (cv.mp au).1
   .exact aM a aR
theorem Vx (p:Nat->Bool) (f:Nat->Str):∀ xs:List Nat,((xs.map fun k:Nat=>if p k=true then some (V.str (f k)) else none).flatMap px)=aW ((xs.filter p).map f)
 | []=>rfl
 | x :: xs=>by
  rw [e1,qQ,Vx p f xs];cases h:p x <;> simp [aW,h]
theorem ahr (ds:List a3):ds.map (·.name)=(dw ds.length).map (dW ds):=by
 apply G6;intro k;rw [cN,cN];by_cases h:k < ds.length
 .rw [D5 h,aZ h];exact congrArg some (gs (aZ h)).symm
 .rw [KQ (by omega),KQ (by simpa using h)];rfl
theorem aag {ds:List a3} {wt:List Str} {wi:List Nat} (h:ib ds wt wi):(ds.map (·.name)).filter (fun x=>decide (x ∈ wt))=((dw ds.length).filter fun k=>decide (k ∈ wi)).map (dW ds):=by
 rw [ahr,MV];congr 1;refine B_ fun k au=>?_
 have au:=g7.mp au;have hd:=aZ au;show decide (dW ds k ∈ wt)=decide (k ∈ wi);rw [gs hd];exact decide_eq_decide.mpr (h k _ hd).symm
theorem eq_str {K:bk} {H:aw} {k:Nat} (x:Str):hB K H k (.str x) (.str x) true:=by
 have:=hB.flat (K:=K) (H:=H) (k:=k) (x:=.str x) (y:=.str x) rfl rfl;rwa [show jf (.str x) (.str x)=true by simp [jf]] at this
theorem FM {H I:aw} {l:Addr} {as:List Addr} {kvs:List (Key × V)} (h:OB H I l as kvs) (bE:aL H):aL I:=fun b o e=>by
 rcases h.only b o e with z | rfl | ⟨q,_,rfl⟩
 .exact bE b o z
 .rfl
 .rfl
theorem aio {K:bk} {H:aw} {l cL:Addr} {as qs:List Addr} {ds:List a3} {f:a3->Str} {g:Nat->Str} (ax:H l=some (.lst (as.map V.ref))) (aK:H cL=some (.lst (qs.map V.ref))) (af:as.length=ds.length) (ao:qs.length=ds.length)
  (a1:∀ (m:Nat) (a:Addr) (d:a3),as[m]? = some a->ds[m]? = some d->H a=some (.tup [.str d.name,.str (f d)])) (a2:∀ (m:Nat) (q:Addr),qs[m]? = some q->m < ds.length->H q=some (.tup [.str (dW ds m),.str (g m)])) (EY:∀ (m:Nat) (d:a3),ds[m]? = some d->f d=g m):hB K H 8 (.ref l) (.ref cL) true:=by
 have:=hB.lst (k:=7) (e:=fun _=>true) (av.of (K:=K) ax) (av.of aK) (by rw [aP,aP,af,ao]) (fun j x y aj a9=>by
  obtain ⟨a,aR,rfl⟩:=bZ aj;obtain ⟨q,aU,rfl⟩:=bZ a9;have aJ:j < ds.length:=by rw [<- af];exact (cv.mp aR).1
  have hd:ds[j]? = some ds[j]:=aZ aJ;have t1:=a1 j a _ aR hd;have d7:=a2 j q aU aJ;rw [gs hd,<- EY j _ hd] at d7;have:=hB.tup (k:=6) (e:=fun _=>true) (cJ.of (K:=K) t1) (cJ.of d7) (fun j x y af ao=>by
   match j,af,ao with
   | 0,af,ao=>cases af;cases ao;exact eq_str _
   | 1,af,ao=>cases af;cases ao;exact eq_str _
   | j + 2,af,_=>simp at af)
  exact this)
 rwa [show ((dw (as.map V.ref).length).all fun _=>true)=true from oh.mpr fun _ _=>rfl] at this
def V1 (K:bk) (Pt:Addr):bW:=fun vs H Q _=>∃ a ns,vs=[.ref a]/\Sc K a ns H/\ns.length <= 63/\lU Pt H/\∀ I,Q (.br true) I
theorem afk {Pt:Addr} (dy:q9 base t.s6 Pt) (i5:base.BuiltinsAt mg Pt):cA P base T 12 t.LG t.A7 ["_law_script"] (V1 K Pt):=by
 exists T.WO.ok o3,9
 obtain ⟨a,ns,rfl,Dz,hS,ai',q⟩:=h;have bC:=gO aq;have Cd:=OM aq;have X0:cK P w K mg base dE 11 t.y0 t.lm Bu (VP K a ns):=(aeW T a ns hS).mono (by decide);have aiE:cK P w K mg base dE 11 t.Cv t.zf CH (VF K):=(XB T).mono (by decide);have ah1:cK P w K mg base dE 11 t.AQ t.Dv ["text"] (Uk t):=(ah2 T).mono (by decide);have af2:cK P w K mg base dE 11 t.By t.CP C9 (Qp K):=(acT T).mono (by decide);have aeh:cK P w K mg base dE 11 t.zB t.Dj Bw Qq:=(ami T).mono (by decide);have aiR:cK P w K mg base dE 11 t.xp t.vB xv (MF P w t):=(afv T).mono (by decide);have ajD:cK P w K mg base dE 10 t.xm t.An yr (R9 P w t):=(abm T).mono (by decide);have T6:cK P w K mg base dE 11 t.wd t.C2 ["self"] (Me t):=(aj6 T).mono (by decide);have abx:cK P w K mg base dE 11 t.wM t.zv ["self"] (SF P w t):=(W8 T).mono (by decide);have abp:cK P w K mg base dE 11 t.wz t.AB Cg (U6 P w K t Pt):=(abW T dy i5).mono (by decide);have ahm:cK P w K mg base dE 11 t.Dd t.z5 Br (GE K a ns):=(aa0 T a ns hS).mono (by decide);have K_:cK P w K mg base dE 11 t.A_ t.Ct rO (T_ K):=(PN T).mono (by decide);have YJ:cK P w K mg base dE 11 t.Cl t.zJ Du (Qg K):=(agl T).mono (by decide);refine ⟨_,(aS (kB (cc X0 aq T.XR T.IW.bG T.aa9 (ak (aa 0) (ak aD aF))) (mr (K:=K) (n:=2) rfl rfl (fC (b9 (i:=1) o3.aH) (fC (b9 (i:=2) o3.aH) mx))))
   (aS (cF (i:=3) o3.aH (cc af2 aq T.Ty T.Fv.bG T.acU (ak (aa 0) (ak (aa 1) (ak (aa 2) aF)))))
   (aS (cF (i:=4) o3.aH (sr T.aj5 ajD aq rfl T.Zh T.amD .nil cU (ak (cc aiR aq T.YL T.HQ.bG T.tz (ak (cc ah1 aq T.YZ T.Jo.bG T.akV (ak (cc aiE aq T.acg T.IJ.bG T.agk (ak (aa 1) (ak (aa 2) aF))) aF)) (ak (cc aeh aq T.Ws T.GR.bG T.agb (ak (aa 2) (ak (aa 3) aF))) aF))) aF)))
   (aS (lb (i:=5) o3.aH rfl (j5 rfl) (fT rfl (d6 (aa 2)) (ac (sc:=bB tn) rfl (by ac_nf)) (N:=mV) (sel:=[none]) (fw (M:=w2) (by ac_nf)) (eO.of (fun _ _ _ _=>(b9 (i:=0) (d1 (N:=mV) (by ac_nf) rfl))) (fun _ _ _ _=>⟨_,hO,by walk_at "B"⟩) (fun _ _ _ _=>⟨_,(bh ed (aa 0) aD),by walk_at "B"⟩))))
   (aS (lb (i:=6) o3.aH rfl (j5 rfl) (gL (ak aD (ak aD (ak aD (ak aD (ak aD (ak aD (ak ya (ak (B2 B0 aD) (ak (B2 B0 aD) aF)))))))))))
   (aS (kB aD (l3 (aa 6) (bI d2 aD (j4 sn rfl T.tQ uA (ak (hb eE (bh ed (bh bO (aa 2) (bh bO (bh ed (bh bO (aa 3) aD) aD) aD)) aD) cZ (cu _)) aF))) lF))
   (aS (ft fq rfl (lL rfl T.kz (ak aD aF)) (b9 (i:=7) o3.aH) (aS (cF (i:=8) o3.aH (cc ahm aq T.akQ T.JB.bG T.ajP (ak (aa 0) (ak (aa 7) (ak (aa 2) aF)))))
   (aS (lb (i:=9) o3.aH rfl (j5 rfl) (cc K_ aq T.TV T.A1.bG T.TQ (ak (aa 2) (ak (aa 3) (ak (aa 6) aF)))))
   (aS (dP (g5.pt (qg (cY pP (iR (aa 4) T.e9 T.TL T6 aq T.Qs .nil cU) (bh bO (aa 6) aD) (cu _)) (q6 (lR (eT ac0 rfl T.alm Xh (ak (iR (aa 4) T.e9 T.TL T6 aq T.Qs .nil cU) (ak (aeP (v:=.ty "bool") rfl T.ZX akc rfl) aF))))))) (a5 (cy kj)) ek)
   (aS (dP (cY (Vi Cd) (iR (aa 4) T.e9 T.afF abx aq T.acS .nil cU) (fT rfl (lL rfl T.kz (ak (eT gj rfl T.fP fZ (ak (aa 5) aF)) aF)) (ac (sc:=bB tn) rfl (by ac_nf)) (N:=["_law_i","_law_names_here","_law_now"]) (sel:=[none,some 5,some 6]) (fw (M:=w2) (by ac_nf)) (eO.of (fun _ _ _ _=>(b9 (i:=0) (d1 (N:=["_law_i","_law_names_here","_law_now"]) (by ac_nf) rfl))) (fun _ _ _ _=>⟨_,(nF (vN (Ii bC (aa 0) (bh bO (aa 2) aD)))),by walk_at "B"⟩) (fun _ _ _ _=>⟨_,(bh bO (aa 1) (aa 0)),by walk_at "B"⟩))) (cu _)) (a5 (cy kj)) ek)
   (aS (dP (cY (Vi Cd) (j4 (ai4 rfl) rfl T.Ak AM (ak (ak' akP alA PySem.F.type_dict_items Zp (fN (aa 4) T.e9 T.akO abp aq T.agn .nil cU (ak (j4 ahJ rfl T.Ak AM (ak (aa 8) aF)) aF))) aF)) (fT rfl (lL rfl T.kz (ak (eT gj rfl T.fP fZ (ak (aa 5) aF)) aF)) (ac (sc:=bB tn) rfl (by ac_nf)) (N:=["_law_i","_law_names_here","_law_due"]) (sel:=[none,some 5,some 9]) (fw (M:=w2) (by ac_nf)) (eO.of (fun _ _ _ _=>(b9 (i:=0) (d1 (N:=["_law_i","_law_names_here","_law_due"]) (by ac_nf) rfl))) (fun _ _ _ _=>⟨_,hO,by walk_at "B"⟩) (fun _ _ _ _=>⟨_,(rY (ak (bh bO (aa 1) (aa 0)) (ak (bh bO (aa 2) (aa 0)) aF))),by walk_at "B"⟩))) (cu _)) (a5 (cy kj)) ek)
   (a5 (ee (cc YJ aq T.aaH T.Op.bG T.acV (ak (aa 1) (ak (aa 2) (ak (aa 3) (ak (aa 6) (ak (fT rfl (d6 (aa 8)) (ac (sc:=bB tn) rfl (by ac_nf)) (N:=["_law_name","_law_names_here"]) (sel:=[none,some 5]) (fw (M:=w2) (by ac_nf)) (eO.of (fun _ _ _ _=>(b9 (i:=0) (d1 (N:=["_law_name","_law_names_here"]) (by ac_nf) rfl))) (fun _ _ _ _=>⟨_,hO,by walk_at "B"⟩) (fun _ _ _ _=>⟨_,(gk ip amP PySem.F.type_list_index Z7 (aa 1) (ak (aa 0) aF)),by walk_at "B"⟩))) aF))))))))))))))
   (a5 (cy kj))))))))),?_⟩
 exists (fun az I=>aN H I/\Sc K a ns I/\∃ wl n ds,ht I wl ds/\r_ n ds/\(∀ d ∈ ds,d.least <= 4)/\(4 <= n/\n <= 99)/\(1 <= ds.length/\ds.length <= 6)/\az=[~~~a,some (.int n),~~~wl,none,none,none,none,none,none,none]),3
 .nofun;exact ⟨6,rfl,by decide,Dz,fun gy wl n ds I s1 n1 ax L D hle aQ aM=>⟨gy,rfl,_,cJ.of ax,rfl,_,_,rfl,_,_,rfl,rfl,bL _ _ ⟨s1,n1,wl,n,ds,L,D,hle,aQ,by omega,rfl⟩⟩⟩
 rintro fK H1 ⟨s1,n1,wl,n,ds,L,D,hle,aQ,gg,rfl⟩;have aeU:∀ {sts:List dG},BB n ds sts->cW n ds sts:=fun h=>⟨D.aH,h,gg.2,gg.1,fun d hd=>(D.al d hd).1⟩
 subst aY;exists (fun az I=>aN H1 I/\Sc K a ns I/\∃ fk bR ju cq,jb I fk bR ju cq/\cW n ds cq/\az=[~~~a,some (.int n),~~~wl,~~~fk,none,none,none,none,none,none]),3
 .nofun;exact ⟨a,ns,n,wl,ds,rfl,hS,n1.seq,n1.bE,L,D,hle,by omega,fun fk bR ju cq I s3 dp yw ac4=>bL _ _ ⟨s3,n1.same s3 dp,fk,bR,ju,cq,yw,aeU ac4,rfl⟩⟩
 rintro cb aB ⟨s2,lX,fk,bR,ju,cq,yw,X,rfl⟩;have L2:=L.same s2;have R:=X.Zn;have ct:0 < cq.length:=VZ.mpr X.ne;have Ds:=aZ ct;subst aY;exists (fun az I=>∃ fm jU c k aE a4,aN aB fm/\hD P w t fm jU c n ds (bX ds cq)/\fm k=none/\fm aE=none/\fm a4=none/\aN fm I/\Sc K a ns I/\eM t I k jU aE a4 (rf ds (jd ds cq[0]))/\az=[~~~a,some (.int n),~~~wl,~~~fk,~~~k,none,none,none,none,none]),3
 .nofun;refine ⟨n,wl,ds,rfl,L2,D,by omega,by omega,lX.bE,n,ds,rfl,D.Ui (by omega) (by omega),lX.bE,fun c I s3 dp uz=>⟨wl,ds,fk,bR,ju,cq,rfl,L2.same s3,yw.same s3,X.jr,dp,c,n,ds,cq,rfl,uz,aQ,X,dp,fun jU dj s5 hh QZ k ay au vX akv=>?_⟩⟩;have bA:aN dj (upd (upd dj ay (.own k)) k (.ins t.dc ay [])):=(bq vX).trans (bq (by rw [aG (dJ akv)];exact au));exact ⟨k,ay,jU,c,n,ds,_,_,rfl,db,QZ.same bA,pz Ds,R.c_ _ (bJ.mpr ⟨_,fM ct,rfl⟩),hh.upd.upd,fun aE a4 hc c7 ja oW ku DR=>⟨rfl,bL _ _ ⟨dj,jU,c,k,aE,a4,s3.trans s5,QZ,au,bA.free oW,bA.free ku,fun b u e=>c7 _ _ (Db e au) (bA _ _ e),lX.same (fun b u e=>c7 _ _ (Db ((s3.trans s5) _ _ e) au) (bA _ _ ((s3.trans s5) _ _ e))) ja,DR,rfl⟩⟩⟩
 rintro fS bw ⟨fm,jU,c,k,aE,a4,kR,eS,ic,g9,g4,s3,lI,u2,rfl⟩;subst aY;exists (fun az I=>aN bw I/\Sc K a ns I/\∃ nl,bw nl=none/\I nl=some (.lst (aW (ds.map (·.name))))/\az=[~~~a,some (.int n),~~~wl,~~~fk,~~~k,~~~nl,none,none,none,none]),3
 .nofun;obtain ⟨gQ,kd,o8,lT⟩:=L2.same (kR.trans s3);refine ⟨⟨_,av.of kd⟩,?_⟩;refine Gc.lg (xs:=gQ.map V.ref) (zs:=aW (ds.map (·.name))) (av.of kd) (by rw [aP,o8];exact cP gg.2 (by decide)) (by rw [eY,aP,aP,o8]) (fun j v z N aI aO bb=>?_) (fun p ar=>?_)
  .obtain ⟨eI,nU,rfl⟩:=bZ aI;unfold aW at aO;obtain ⟨y,a9,rfl⟩:=bZ aO;obtain ⟨d,hd,rfl⟩:=bZ a9;nofun;exact ⟨Sub.name,_,cJ.of (lT j _ _ nU hd),_,bt (j:=1) rfl,bb⟩
  .exact bL _ _ ⟨bq ar,lI.new ar,p,ar,db,rfl⟩
 rintro kG cI ⟨s4,jL,nl,aoI,w_,rfl⟩;subst aY;exists (fun az I=>aN cI I/\Sc K a ns I/\∃ np a',cI np=none/\cI a'=none/\I np=some (.lst (dr ⟨some 0,1,0,0,0,[],-1,-1⟩ 0 a'))/\I a'=some (.bu (eR []))/\az=[~~~a,some (.int n),~~~wl,~~~fk,~~~k,~~~nl,~~~np,none,none,none]),3
 .nofun;exact fun a' j6=>⟨by decide,fun np pe=>bL _ _ ⟨(bq j6).trans (bq pe),(jL.new j6).new pe,np,a',(bq j6).free pe,j6,by rw [db];rfl,(bq pe) _ _ db,rfl⟩⟩
 rintro qd dj ⟨s5,tE,np,a',pe,j6,i0,j3,rfl⟩;subst aY;exists (fun az I=>jM np a' dj I/\Sc K a ns I/\I np=some (.lst (dr (rf ds (jd ds cq[0])) 0 a'))/\I a'=some (.bu (eR []))/\az=[~~~a,some (.int n),~~~wl,~~~fk,~~~k,~~~nl,~~~np,none,none,none]),3
 .nofun;have SM:=((yw.same (kR.trans s3)).same s4).same s5;obtain ⟨kp,bA,ax,aK,bU⟩:=rj SM Ds;obtain ⟨ha,r,au⟩:=l_ (X.six ct).1;have eK:=X.lt (fM ct) (show ha ∈ cq[0].bz by rw [au];exact .head _);obtain ⟨gQ,kd,o8,lT⟩:=((L2.same (kR.trans s3)).same s4).same s5;have gr:=aZ eK;have jy:=aZ (show ha < gQ.length by omega);have cT:=AS gr (X.ok _ (fM eK)).k;have hk:en ds cq 0=k' ds ha:=by unfold en;rw [lB Ds,au];rfl
  have mh:d3 ds (jd ds cq[0])=if en ds cq 0=true then d5 else iC:=by
   have:=X.sort ct;unfold Uf at this;rw [pz Ds] at this;exact this
  have zD:iC ≠ d5:=by ac_nf
  have eu:np ≠ a':=bK i0 j3 (by intro z;cases z);refine ⟨_,av.of SM.at_,_,bt (j:=0) (by rw [cN,ax];rfl),_,rfl,_,cJ.of aK,_,bt (j:=2) rfl,_,rfl,_,av.of bU,_,bt (j:=0) (by rw [au];rfl),_,_,rfl,av.of kd,_,bt (by rw [cN,jy];rfl),_,rfl,_,cJ.of (lT ha _ _ jy gr),_,bt (j:=0) rfl,rfl,?_⟩;rw [cT,<- hk];refine ⟨_,i0,?_⟩;cases aA:en ds cq 0 with
  | true=>exact ⟨8,rfl,bL _ _ ⟨fun b u af ao e=>by rw [aG af];exact e,tE.set i0 (by intro _ _ z;cases z),by rw [db];unfold rf;rw [mh,aA];rfl,by rw [aG (dJ eu)];exact j3,rfl⟩⟩
  | false=>exact ⟨7,rfl,bL _ _ ⟨fun b u af ao e=>by rw [aG af];exact e,tE.set i0 (by intro _ _ z;cases z),by rw [db];unfold rf;rw [mh,aA];rfl,by rw [aG (dJ eu)];exact j3,rfl⟩⟩
 rintro mm hc ⟨c7,si,mf,sg,rfl⟩;subst aY;simp only [dx];refine qn (fun az I=>True) (fun fW bL kA _ _=>?_) ?_
 .nofun;have eu:np ≠ a':=bK mf sg (by intro z;cases z);have hlen:(bX ds cq).length=cq.length:=by unfold bX;rw [aP]
  have Sv:lU Pt fm:=ai'.step ((s1.trans s2).trans kR);have E':aN (iK fm) bw:=(U_ fm).trans s3;have akY:aN (iK fm) dj:=(E'.trans s4).trans s5;have MR:iK fm k=none:=Hr ic;have OK:iK fm aE=none:=Hr g9;have RJ:iK fm a4=none:=Hr g4;have O0:iK fm Pt=none:=ac8 Sv;have F0:iK fm np=none:=(E'.trans s4).free pe;have L3:iK fm a'=none:=(E'.trans s4).free j6;have Tz:=eS.pC (WF fm);have LI:=(L2.same kR).pC (WF fm);have nA:=(yw.same kR).pC (WF fm);have Zr:Sc K a ns (iK fm):=ae7 (lX.same kR (fun b u e=>lI.2 b u (s3 _ _ e))) (WF fm) (fun b u e=>lI.2 b u (s3 _ _ (U_ fm _ _ e)));obtain ⟨ej,Bt,Gy,J6,E7⟩:=id u2;have s':∀ {b u},bw b=some u->dj b=some u:=fun e=>s5 _ _ (s4 _ _ e)
  have J4:a' ≠ aE:=fun z=>by rw [z,s4 _ _ J6] at j6;cases j6
  have Ex:a' ≠ a4:=fun z=>by rw [z,s4 _ _ E7] at j6;cases j6
  have UC:nl ≠ np:=fun z=>by rw [<- z,w_] at pe;cases pe
  have Hh:lU Pt dj:=((Sv.step s3).step s4).step s5;have Ll:lU Pt hc:=by
   obtain ⟨ps,e,c8⟩:=Hh;refine ⟨ps,c7 _ _ (bK e i0 (by intro z;cases z)) (bK e j3 (by intro z;cases z)) e,?_⟩;rcases c8 with c8 | ⟨c',c8,bF⟩
   .exact .inl c8
   .exact .inr ⟨c',c8,c7 _ _ (bK bF i0 (by intro z;cases z)) (bK bF j3 (by intro z;cases z)) bF⟩
  have DR:eM t hc k jU aE a4 (rf ds (jd ds cq[0])):=⟨ej,Bt,c7 _ _ (bK (s' Gy) i0 (by intro z;cases z)) (bK (s' Gy) j3 (by intro z;cases z)) (s' Gy),c7 _ _ (bK (s' J6) i0 (by intro z;cases z)) (dJ J4) (s' J6),c7 _ _ (bK (s' E7) i0 (by intro z;cases z)) (dJ Ex) (s' E7)⟩;have adT:hc nl=some (.lst (aW (ds.map (·.name)))):=c7 _ _ UC (bK (s5 _ _ w_) j3 (by intro z;cases z)) (s5 _ _ w_);have G_:∀ q:Prop,∀ [Decidable q],-1 <= (if q then (0:Int) else -1)/\(if q then (0:Int) else -1) < cq.length:=fun q _=>by split <;> omega
  have AE:∀ q:Prop,∀ [Decidable q],-1 <= (if q then (-1:Int) else 0)/\(if q then (-1:Int) else 0) < cq.length:=fun q _=>by split <;> omega
  have uX:vU n ds cq (rf ds (jd ds cq[0])) 0 []:=⟨fun k d hd=>(by simp [rf]),⟨LS,fun k h=>(by cases h)⟩,⟨LS,fun x h=>(by cases h),fun i h=>(by cases h;exact ⟨by rw [hlen];exact ct,fun x h=>(by cases h)⟩),fun h=>(by cases h)⟩,fun h=>(by cases h),G_ _,AE _⟩;refine ⟨by decide,by decide,?_⟩;refine dY.range (fun j σ I=>aL I/\aN (iK fm) I/\lU Pt I/\I nl=some (.lst (aW (ds.map (·.name))))/\(∃ s cg wi,eM t I k jU aE a4 s/\I np=some (.lst (dr s cg a'))/\I a'=some (.bu (eR wi))/\vU n ds cq s cg wi)/\∃ Qo NK Jh,σ=[~~~a,some (.int n),~~~wl,~~~fk,~~~k,~~~nl,~~~np,Qo,NK,Jh]) ⟨si.2,c7.mH akY F0 L3,Ll,adT,⟨_,_,_,DR,mf,sg,uX⟩,_,_,_,rfl⟩ ?_ ?_
  .rintro j σ I aJ bf;ac_rfl
   obtain ⟨abd,hl,KZ,Jd,⟨sK,cg,wi,Oq,Zb,ab_,nv⟩,Qo,NK,Jh,rfl⟩:=bf;have aJ:j < 60:=aJ;obtain ⟨_,aon,ahV,amZ,apg⟩:=id Oq;subst aY;simp only [hN,dx];refine xn (fun az H1=>aN I H1/\aL H1/\∃ ap xs,I ap=none/\H1 ap=some (.lst (aW xs))/\xs.length <= 13/\(∀ x ∈ xs,x ∈ ds.map (·.name))/\az=[~~~a,some (.int n),~~~wl,~~~fk,~~~k,~~~nl,~~~np,some (.int j),~~~ap,Jh]) (fun fW bL=>?_) ?_
   .nofun;exact ⟨_,wl,ds,rfl,Zr.same hl abd,by omega,LI.same hl,by omega,fun p xs H1 bA nm ar jB h9 iI=>bL _ _ ⟨bA,nm,p,xs,ar,jB,h9,iI,rfl⟩⟩
   rintro fK ri bf;ac_rfl
   obtain ⟨t1,afs,ap,xs,anq,VB,h9,iI,rfl⟩:=bf;obtain ⟨bV,rfl,i8,amX⟩:=VO xs iI;have OX:=t1 _ _ Zb;have alG:=t1 _ _ ab_;subst aY;simp only [dx];refine xn (fun az aB=>aN ri aB/\aL aB/\∃ gN,ri gN=none/\aB gN=some (.lst (i_ ds.length (iz ds cq sK cg)))/\az=[~~~a,some (.int n),~~~wl,~~~fk,~~~k,~~~nl,~~~np,some (.int j),~~~ap,~~~gN]) (fun fW bL=>?_) ?_
   .nofun;exact ⟨wl,fk,np,a',ds,bR,ju,cq,n,sK,cg,rfl,LI.same (hl.trans t1),nA.same (hl.trans t1),X,OX,fun i h=>(by have:=(nv.jI.bP i h).1;rw [hlen] at this;exact this),fun h=>(by have:=nv.jI.ch h;rw [hlen] at this;exact ⟨this.1,this.2.1⟩),afs,fun p aB bA nm ar jB=>bL _ _ ⟨bA,nm,p,ar,jB,rfl⟩⟩
   rintro cb yt bf;ac_rfl
   obtain ⟨d7,Yu,gN,uG,ail,rfl⟩:=bf;have AP:=d7 _ _ (t1 _ _ ahV);have Ky:=d7 _ _ OX;have P6:=d7 _ _ alG;have rS:=(Oq.same t1).same d7;have lC:eb (dr sK cg a') 0=some (nc sK.bP):=bt (j:=0) rfl;have ja:eb (dr sK cg a') 6=some (.ref a'):=bt (j:=6) rfl;subst aY;simp only [dx];refine xn (fun az bw=>bw=yt/\az=[~~~a,some (.int n),~~~wl,~~~fk,~~~k,~~~nl,~~~np,some (.int j),~~~ap,~~~gN]) (fun fW bL=>?_) ?_
   .refine dO false (fun Q a0=>?_) (fun aA=>nomatch aA) (fun _=>?_)
    .nofun;refine ⟨_,_,AP,lV _ _ _ _ _ _ _ _ (by ac_nf),k,jU,aE,a4,sK,rfl,rS,_,av.of Ky,_,lC,by cases sK.bP <;> rfl,?_⟩;rw [if_neg (by simp)];refine ⟨_,_,AP,lV _ _ _ _ _ _ _ _ (by ac_nf),k,jU,aE,a4,sK,rfl,rS,?_⟩;cases sK.bP with
     | none=>exact ⟨_,.b4,false,rfl,a0⟩
     | some xe=>exact ⟨_,.int _,false,rfl,a0⟩
    simp only [hr];exact bL _ _ ⟨rfl,rfl⟩
   rintro fS uV ⟨rfl,rfl⟩;simp only [dx];refine xn (fun az cI=>aN uV cI/\aL cI/\az=[~~~a,some (.int n),~~~wl,~~~fk,~~~k,~~~nl,~~~np,some (.int j),~~~ap,~~~gN]) (fun fW bL=>?_) ?_
   .refine rL (fun b cI=>b=false/\aN uV cI/\aL cI) (fun Q a0=>?_) (fun cI z=>nomatch z.1) (fun cI z=>?_)
    .nofun;have Uy:=d7 _ _ (t1 _ _ Jd);have vL:(aW (ds.map (·.name))).length=ds.length:=by rw [eY,aP]
     refine ⟨_,_,AP,lV _ _ _ _ _ _ _ _ (by ac_nf),k,jU,aE,a4,sK,c,n,ds,bX ds cq,rfl,rS,Tz.same ((hl.trans t1).trans d7),fun p H1 bA nm ar jB=>⟨_,.inl (av.of (bA _ _ Uy)),by omega,by rw [vL];omega,?_⟩⟩;rw [vL,ma];refine Gc.TC (ss:=(dw ds.length).map fun k:Nat=>if decide (k ∈ wi)=true then some (V.str (dW ds k)) else none) (cP gg.2 (by decide)) (by rw [aP,kH]) (fun gx o ys N et aT bb=>?_) (fun eD fU=>?_)
     .rw [cN,D5 et] at aT;cases aT;dsimp only at bb;have n':=aZ et;rw [gs n'] at bb;nofun;refine ⟨Sub.name,_,av.of (bA _ _ Ky),_,ja,_,rfl,_,gM.k (k:=hz (gx:Int)) (bA _ _ P6),?_⟩;rw [EK];by_cases cf:gx ∈ wi
      .rw [if_pos (decide_eq_true cf)] at bb;rw [if_pos (decide_eq_true cf)];exact ⟨_,av.of (bA _ _ Uy),_,bt (qj (by rw [cN,n'];rfl)),bb⟩
      .rw [if_neg (by simpa using cf)] at bb;rw [if_neg (by simpa using cf)];simpa using bb
     .rw [Vx,<- aag nv.wr];refine ⟨p,rfl,eD,rfl,true,?_,a0 _ _ ⟨rfl,bA.trans (bq fU),(nm Yu).upd⟩⟩;have:=hB.ame (k:=7) (av.of (K:=K) ((bq fU) _ _ jB)) (av.of (show (upd H1 eD (.lst (aW ((ds.map (·.name)).filter fun x=>decide (x ∈ sK.wt))))) eD=some _ from db)) (fun x aj y a9=>by unfold aW at aj a9;obtain ⟨dX,_,rfl⟩:=bJ.mp aj;obtain ⟨anx,_,rfl⟩:=bJ.mp a9;rfl);rwa [decide_eq_true rfl] at this
    .simp only [hr];exact bL _ _ ⟨z.2.1,z.2.2,rfl⟩
   rintro kG pH ⟨md,aj_,rfl⟩;have pQ:=rS.same md;simp only [dx];refine xn (fun az dj=>zH k aE a4 Pt pH dj/\aL dj/\lU Pt dj/\(∃ ai,tG n ds (bX ds cq) (nx (bX ds cq) sK (bV.map (dW ds))) ((bV.map (dW ds)).any (iy (bX ds cq) sK)) ai/\eM t dj k jU aE a4 ai)/\az=[~~~a,some (.int n),~~~wl,~~~fk,~~~k,~~~nl,~~~np,some (.int j),~~~ap,~~~gN]) (fun fW bL=>?_) ?_
   .refine rL (fun b dj=>b=false/\zH k aE a4 Pt pH dj/\aL dj/\lU Pt dj/\(∃ ai,tG n ds (bX ds cq) (nx (bX ds cq) sK (bV.map (dW ds))) ((bV.map (dW ds)).any (iy (bX ds cq) sK)) ai/\eM t dj k jU aE a4 ai)) (fun Q a0=>?_) (fun dj z=>nomatch z.1) (fun dj z=>?_)
    .nofun;have Y3:=md _ _ AP;have aeI:=md _ _ (d7 _ _ VB);have WV:=md _ _ (d7 _ _ (t1 _ _ Jd));have ZW:=md _ _ ail;have QV:=((KZ.step t1).step d7).step md;have vL:(aW (ds.map (·.name))).length=ds.length:=by rw [eY,aP]
     refine ⟨_,_,Y3,lV _ _ _ _ _ _ _ _ (by ac_nf),_,.inl (av.of aeI),fun l aM=>?_⟩;have a6:=bq (o:=fz.lst (aW (bV.map (dW ds)))) aM;have VH:=pQ.same a6;refine ⟨iK fm,k,jU,aE,a4,sK,c,n,ds,bX ds cq,l,bV.map (dW ds),rfl,VH,Tz,(((hl.trans t1).trans d7).trans md).trans a6,MR,OK,RJ,O0,R,nv.jI,db,by omega,iI,QV.step a6,aj_.upd,fun p ai H1 Hp N6 ar jB h6 akD xU=>⟨.inr (.inr (.inl (.inl ⟨_,jB⟩))),p,rfl,_,jB,fun eD ix=>⟨p,db,_,(bq ix) _ _ jB,fun cL as f3 vt=>?_⟩⟩⟩;have F:∀ {b u},(∀ C ay aX,u ≠ .ins C ay aX)->(∀ kvs,u ≠ .bu kvs)->(∀ ps,u ≠ .g6 ps)->pH b=some u->f3 b=some u:=fun {b u} af ao bj e=>by
      obtain ⟨_,sJ,f1,f2,eo⟩:=VH;have bF:=a6 _ _ e;exact vt.same _ _ ((bq ix) _ _ (N6 _ _ (bK bF f1 (by intro z;exact af _ _ _ z)) (bK bF f2 (by intro z;exact ao _ z)) (bK bF eo (by intro z;exact ao _ z)) ((QV.step a6).ne bF bj) bF))
     have O3:=F (by intro _ _ _ z;cases z) (by intro _ z;cases z) (by intro _ z;cases z) WV;have acp:=F (by intro _ _ _ z;cases z) (by intro _ z;cases z) (by intro _ z;cases z) ZW;have EV:aN H1 f3:=(bq ix).trans vt.same;refine ⟨_,.inl (av.of O3),by omega,by rw [vL];omega,?_⟩;rw [vL,ma];refine Gc.range (fun i ys I=>∃ qs:List Addr,ys=qs.map V.ref/\qs.length=i/\aN f3 I/\aL I/\∀ (m:Nat) (q:Addr),qs[m]? = some q->m < ds.length->I q=some (.tup [.str (dW ds m),.str (iz ds cq sK cg m)])) (cP gg.2 (by decide)) ⟨[],rfl,rfl,aN.refl _,FM vt h6.upd,fun m q h=>(by simp at h)⟩ (fun i ys I ah ⟨qs,e,bF,_⟩=>by rw [e,aP,bF];exact b8 _) (fun gx ys iS et ⟨qs,e,bF,bA,nm,al⟩ N bb=>?_) (fun ys iS ⟨qs,e,bF,bA,nm,al⟩ es fU=>?_)
     .subst e;have n':=aZ et;nofun;refine ⟨Sub.name,_,av.of (bA _ _ O3),_,bt (qj (by rw [cN,n'];rfl)),_,av.of (bA _ _ acp),_,bt (VR et),by decide,fun q aU=>bb _ _ ⟨qs ++ [q],by rw [e5];rfl,by rw [dZ,bF];rfl,bA.trans (bq aU),nm.upd,fun m eI nU hm=>?_⟩⟩;rcases mq nU with ⟨_,ao⟩ | ⟨af,ao⟩
      .exact (bq aU) _ _ (al m eI ao hm)
      .have nD:m=gx:=by omega
       subst nD;rw [ao,db,gs n']
     .subst e;have iH:=bA.trans (bq (o:=fz.lst (qs.map V.ref)) fU);refine ⟨es,rfl,true,?_,a0 _ _ ⟨rfl,fun b u af ao bj cS e=>iH _ _ (EV _ _ (N6 _ _ af ao bj cS (a6 _ _ e))),nm.upd,(akD.step EV).step iH,ai,Hp,(xU.same EV).same iH⟩⟩;refine aio (f:=ie n ds (bX ds cq) sK) (g:=iz ds cq sK cg) (iH _ _ vt.at_) db (by rw [vt.len];unfold jc;rw [aP]) bF (fun m a d af ao=>iH _ _ (vt.al m a (bH d.name,V.str (ie n ds (bX ds cq) sK d)) af (by unfold jc;rw [cN,ao];rfl))) (fun m q af ao=>(bq fU) _ _ (al m q af ao)) (fun m d hd=>Ph X hd fun z=>⟨(nv.ch z).1,(nv.jI.ch z).2.2⟩)
    .simp only [hr];exact bL _ _ ⟨z.2.1,z.2.2.1,z.2.2.2.1,z.2.2.2.2,rfl⟩
   rintro qd r4 bf;ac_rfl
   obtain ⟨HS,alK,Xt,⟨ai,Hp,vy⟩,rfl⟩:=bf;subst aY;nofun;have ki:∀ {b u},(∀ C ay aX,u ≠ .ins C ay aX)->(∀ kvs,u ≠ .bu kvs)->(∀ ps,u ≠ .g6 ps)->pH b=some u->r4 b=some u:=fun {b u} af ao bj e=>by
    obtain ⟨_,sJ,f1,f2,eo⟩:=pQ;exact HS _ _ (bK e f1 (by intro z;exact af _ _ _ z)) (bK e f2 (by intro z;exact ao _ z)) (bK e eo (by intro z;exact ao _ z)) ((((KZ.step t1).step d7).step md).ne e bj) e
   have S9:=ki (by intro _ _ _ z;cases z) (by intro _ z;cases z) (by intro _ z;cases z) (md _ _ (d7 _ _ VB));have Am:=ki (by intro _ _ _ z;cases z) (by intro _ z;cases z) (by intro _ z;cases z) (md _ _ (d7 _ _ (t1 _ _ Jd)));have Hm:=ki (by intro _ _ _ z;cases z) (by intro _ z;cases z) (by intro _ z;cases z) (md _ _ Ky);have Hk:=md _ _ P6;have OI:r4 a'=some (.bu (eR wi)):=by
    obtain ⟨_,sJ,f1,f2,eo⟩:=pQ;exact HS _ _ (bK Hk f1 (by intro z;cases z)) J4 Ex ((((KZ.step t1).step d7).step md).ne Hk (by intro _ z;cases z)) Hk
   have QE:aN (iK fm) r4:=fun b u e=>HS _ _ (Db e MR) (Db e OK) (Db e RJ) (Db e O0) ((((hl.trans t1).trans d7).trans md) _ _ e)
   refine ⟨⟨_,av.of S9⟩,?_⟩;refine Gc.lg (xs:=aW (bV.map (dW ds))) (zs:=hP bV) (av.of S9) (by rw [eY];exact cP h9 (by decide)) (by rw [o',eY,aP]) (fun gx v z N aI aO bb=>?_) (fun p ar=>?_)
   .unfold aW at aI;obtain ⟨x,aj,rfl⟩:=bZ aI;obtain ⟨b,ae,rfl⟩:=bZ aj;unfold hP at aO;obtain ⟨hX,fv,rfl⟩:=bZ aO;rw [ae] at fv;cases fv;have vS:=i8 b (cm ae);have il:=aZ vS;nofun;refine ⟨Sub.name,.inl ⟨_,av.of Am⟩,ds.map (·.name),?_⟩;refine ⟨av.of Am,b,by rw [cN,il,gs il];rfl,fun m hm e=>?_,by rw [aP];omega,bb⟩;rw [cN] at e;obtain ⟨d',n',Mp⟩:=tU.mp e;rw [gs il] at Mp;have:=D1 X.aH n' il Mp;omega
   .have ix:p ≠ np:=fun z=>by rw [z,Hm] at ar;cases ar
    have sp:=bq (o:=fz.lst (hP bV)) ar;refine ⟨iK fm,wl,fk,np,a',p,ds,bR,ju,cq,n,sK,cg,wi,bV,rfl,LI,nA,X,QE.trans sp,F0,L3,db,ix,by rw [aP] at h9;omega,i8,sp _ _ Hm,sp _ _ OI,nv.ok,fun i h=>(by have:=(nv.jI.bP i h).1;rw [hlen] at this;exact this),fun h=>(by have:=nv.jI.ch h;rw [hlen] at this;exact ⟨this.1,this.2.1⟩),nv.pt,nv.po,alK.upd,fun s2 kQ n_ f3 tR rJ nn an bn=>?_⟩;obtain ⟨qP,qq⟩:=sim X R nv i8 Hp tR a';rw [qP] at an;obtain ⟨m1,Xx,g1,g2,g3⟩:=vy;have b2:=sp _ _ Hm;have AG:=sp _ _ OI;refine ⟨nn,rJ.mH (QE.trans sp) F0 L3,?_,rJ _ _ UC (bK (sp _ _ Am) AG (by intro z;cases z)) (sp _ _ Am),⟨ai,⟨m1,Xx,rJ _ _ (bK (sp _ _ g1) b2 (by intro z;cases z)) (bK (sp _ _ g1) AG (by intro z;cases z)) (sp _ _ g1),rJ _ _ (bK (sp _ _ g2) b2 (by intro z;cases z)) (dJ J4) (sp _ _ g2),rJ _ _ (bK (sp _ _ g3) b2 (by intro z;cases z)) (dJ Ex) (sp _ _ g3)⟩,kQ,an,n_,bn,qq⟩,_,rfl⟩;obtain ⟨ps,e,c8⟩:=Xt.step sp;refine ⟨ps,rJ _ _ (bK e b2 (by intro z;cases z)) (bK e AG (by intro z;cases z)) e,?_⟩;rcases c8 with c8 | ⟨c',c8,bF⟩
    .exact .inl c8
    .exact .inr ⟨c',c8,rJ _ _ (bK bF b2 (by intro z;cases z)) (bK bF AG (by intro z;cases z)) bF⟩
  .rintro σ I _;exact bL _ _ trivial
 rintro kc f3 _;nofun;exact q f3
end My
structure PySem.W.Fast:Prop where(tw10635801166840388786 tw16701474326615026908 tw17471427849109493148 tw3871104313215886079 tw12324195384435195459 tw9873433511285679357 tw12032007036204396954 tw253659988773942511 tw9801961034149519995 tw4380149169592538218 tw1493508826428750612 tw5296311799461848748 tw9882829207972125823 tw2451848227561249976 tw341735261641274063 tw14770823441021454710 tw13822275243925547339 tw10774060818363677805 tw10950778559403906328 tw9242831631148244810 tw17902006000494311725 tw12154899307923088140 tw6997259303609623693 tw48168580781418831 tw10144805485861092438 tw9524887147828425627 tw11069062660314519214 tw6303935481761988698 tw3257398337221953237 tw1242282125221281061 tw11994845842272569267 tw4586294427286866134 tw16889448896594677671 tw8132117760822913960 tw5236212783990110393 tw9434285871816336040 tw1711983654417788102 tw12604799804354288890 tw13061064382073464 tw14962798787147087574 tw20787970632221951 tw3505211589088882398 tw9779341217990302346 tw7275141515599179967 tw1082257691084114307 tw9320544267498689249 tw13847717642369473394 tw2617368497246978785 tw3586877510400222093 tw2328806156174764112 tw4127710318011148516 tw14593251214234853554 tw11860725310965440225 tw17102456486112872179 tw13282386017193383225 tw90789992091509512 tw1729061692211602482 tw5030771705517558294 tw13381670498188342964 tw11665717447055157164 tw3446995163877337861 tw16208756724759830352 tw17238457020206001538 tw15435182882918641191 tw13525912483804272045 tw18183419264013046128 tw17931466064674309406 tw15586542406705786500 tw3276619166696644674 tw11884172917174611866 tw9669702185396474363 tw10693224138462134935 tw13281487077741752770 tw7670148729811452821 tw5431232934673925105 tw12801720096949470476 tw15529701984062035858 tw10400013683587458979 tw15561383133668231433 tw4714791553126083315 tw15107722533927128235 tw15949690466692656978 tw8358702840466681319 tw15869045371705599055 tw1577549099474570311 tw4096242951172933332 tw16921509702492913289 tw13018629126167248342 tw11428585547975982228 tw12974957059584209549 tw12626988780614187074 tw7925749895990631752 tw10325894710619433253 tw5984021486880564809 tw9739909687806673364 tw7738804088765886998 tw7279689058957373685 tw13449189417846824878 tw2650194098862099500 tw15959590661500447823 tw9638202686916582507 tw17582367015912276905 tw4057199179559421359 tw3101492802758107358 tw12055224230087040221 tw12375977343115708595 tw9122629398290374012 tw15222306049361379234 tw9660557119940320725 tw2275345384552976053 tw2676785918072629729 tw6415219719277485679 tw7084161461254392789 tw12722996817510026898 tw13678513054266064957 tw8866654817841972681 tw11264058264037643133 tw1192423361664172608 tw3684361791915408418 tw7371995664555104292 tw3436901283186344776 tw14183777573068116173 tw11631887914099365805 tw15166615516091529029 tw3110729393707228920 tw4598571440539458267 tw741542298157860256 tw9786228610552550359 tw4668062032719121064 tw17946097128323689632 tw15114265398300553043 tw18302903660085213577 tw12437625131474096000 tw8361933515322172902 tw16298718541939979191 tw987451666125766666 tw2993405176239841127 tw12947733584276322528 tw4175734858176954653 tw6545013700517295248 tw731572759410225617 tw3558222196512577021 tw10993520299456659251 tw16241195877032387305 tw5134585695958993332 tw6296153842842966658 tw9936576931319015643 tw12394946395927235664 tw1641216071421691835 tw11464152330902800502 tw6225738561513322609 tw6419783109781701239 tw2562376388148713846 tw4382681095303368866 tw17746462808798508529 tw4570510194442439166 tw13658114324631350246 tw5941317418749954430 tw1863959112152152074 tw10705517856307434915 tw2152408686681806063 tw7047160255533067811 tw3782166772285318794 tw355613305282041603 tw764875757580252759 tw15687104962204962055 tw4064478330485867530 tw5304613607794167035 tw3507110348017782742 tw2133381119593563184 tw17851583953303222070 tw6649303799123620941 tw10976814641984435533 tw2272268773310213738 tw16135644595156232020 tw5975046169982857492 tw1530385781787139617 tw2411977397025281090 tw15013799019190551495 tw5803358474504147444 tw16633585428940724875 tw15923335712816307910 tw8171394315185307800 tw13354603825601151258 tw6738196173266970055 tw18083646142571609401 tw7044568333939896516 tw3720243428418132405 tw12516429485048839816 tw4898545853316589991 tw9642124942146391180 tw8784794855357651636 tw11041018561801581494 tw18081352324828970679 tw17271753887236691127 tw9370522033341459051 tw16602356533847063799 tw16612781860923564087 tw13085225376258506911 tw7137255178677632200 tw18101278041247025196 tw6868200200103178339 tw160787918942146224 tw6901142058449784428 tw8353184040401398727 tw5933031801535389942 tw7498551703453200919 tw2091060627118608161 tw17911431569255436238 tw2397000936951258224 tw12300697290762121441 tw1836310134738789566 tw14026902198845480775 tw8913414057984200367 tw9791603174830001539 tw10193912143843163737 tw3527963821838785003 tw15510443390091757924 tw3174324850115199780 tw15546867499806165532 tw1949643193344146097 tw10681737022315939479 tw11432737070104386295 tw7784502461822062380 tw2415033599996809932 tw8219485944671515820 tw5254923179211028001 tw16835907623874323520 tw17588754485856852471 tw13299099406870098394 tw1539592958215327777 tw14705670884935168008 tw5420891700870654849 tw17799033575408910207 tw12895130572498674953 tw9832080784340390644 tw13675342819295944448 tw13576156791164154297 tw16084143446006770998 tw15098695991060354961 tw13462957891344115944 tw6157176598575117402 tw7830745582996941068 tw14114060758452777622 tw2451224920839344219 tw1125714181927983152 tw17213459513902401012 tw7793788191442112655 tw490704658803896385 tw1775168093872637277 tw2196929364592063751 tw9658392310341576241 tw2033756892755650177 tw3882667395280727590 tw1907510299820813286 tw12653958039040348130 tw17452097744997663323 tw8941348662496928963 tw12108803649886652293 tw5097082519618352354 tw7866486416014743966 tw8105472956160008174 tw869320480603992792 tw12078635100376638593 tw1966045909330490072 tw10678290029102515612 tw11361727992801840290 tw873657290949004821 tw14246014276055066265 tw17085466403735734534 tw6241620287124106748 tw15876856799422308418 tw10295211355121702873 tw10060168941129103087 tw13176013584052707217 tw3558940179620898113 tw4255376244094121078 tw1261766870560898382 tw14636380841665644518 tw13683493743065931717 tw13297403743472122240 tw16972774501502840049 tw8942055739938451928 tw8251969616349092269 tw10058713810127393244 tw19166798279405811 tw2686149780012299808 tw9602050842227190327 tw17667077154469299510 tw14655755488948207542 tw17974745126516137533 tw13532118102122259885 tw14195245417064858072 tw13487597623235752093 tw3371558046742370776 tw10586549228364781723 tw12837544588593326215 tw17859409655800903916 tw5002741415160410413 tw7231450651458591990 tw2717097594780445873 tw7835084300939955039 tw14677656641113873287 tw9470143602397665824 tw15476844444155394409 tw13474821141047669847 tw7527904922320812338 tw8094024997140943547 tw5334691573405912532 tw4744221709158412717 tw10288388781641176777 tw14569346242717658708 tw5213510169377494794 tw7191611828721107457 tw14087045116036787402 tw977869007463081259 tw17103667600582582948 tw9861984437994314901 tw16374959214719364722 tw2653299804058613214 tw10979013914988940998 tw2437678233725764989 tw12996818589307128879 tw17811471031888643185 tw4308740222175819335 tw12781006713228200124 tw15375641950502168910 tw15828241269848444218 tw1191317669227944690 tw143660259590996786 tw3130652277654637110 tw14900279718578569768 tw17958416851097711974 tw7938634186401631418 tw18007822235448891380 tw5589697056747028409 tw2315330958484057177 tw3708849612724572 tw2722159939489979682 tw10861230199126331940 tw3040653546209834809 tw8099710554166654801 tw7411013812117358286 tw16337596494041764414 tw1076579601095149563 tw6737329432108399978 tw7195305327169478788 tw12267575723241752463 tw2707009880999081607 tw15272922948969611555 tw14154793857569000301 tw13367365690921957022 tw5604816400609983739 tw18260698446718587871 tw5266103951095300412 tw1537544576659921187 tw9022279671575822771 tw11152366644407138252 tw6098072576686376807 tw1330174904279799757 tw2740446546184913315 tw13597066612415162987 tw10349615605407756876 tw15496350545694756405 tw11010665267388065735 tw11334812425638082137 tw13593983596994190894 tw15653041832118723502 tw12000906248096186782 tw4837270358005022315 tw10263610596609639192 tw347445989820427689 tw8158718203286181973 tw8856241020323809256 tw9948041120888884731 tw4215087852899734330 tw5487273422163873719 tw13879266001141884948 tw62922691253078542 tw9020688097949704386 tw11417052340474099659 tw16587190721972740911 tw10918969880043307586 tw2988873022885035376 tw10137463199270157711 tw13344449471860313772 tw16894772142761272117 tw12455376037250758134 tw5815724790289841555 tw13685822735854860640 tw5151323170500299553 tw18113029574148100958 tw9141419911485199910 tw13305511500368130654 tw8171634602752849566 tw1633914905541369545 tw3625813961984599539 tw8520050787854594547 tw14669267685987045316 tw1343216490337585292 tw17866558432948581237 tw16013364369629658949 tw6520064328820390215 tw15551663604151202483 tw5821822895842729623 tw4550600458126201491 tw16806400346933142424 tw5894501480724590314 tw13233911993788857309 tw7196493823857348719 tw18238471185725196377 tw7528817410718787835 tw6546242962134053788 tw12170023947335144721 tw15256108713552972861 tw8041514775642446596 tw3208201897952533417 tw16418013361826951642 tw5354805328995738888 tw3648399939391094699 tw17618146786436551550 tw9671826806152723758 tw10479010626403407691 tw10512956187914123083 tw144642236020398985 tw16569001060566518230 tw2754422996042273027 tw12202954112218075528 tw1928712620822726013 tw1628332307907272399 tw5378511213240383466 tw236168483890218700 tw11737425769968667813 tw14540289533823975988 tw14078044787725394320 tw13244671745247916254 tw10538422164565266956 tw14204151999352636870 tw3642204468097185540 tw17000565209494531767 tw6740460499855514685 tw4075750001227526482 tw556200355594626262 tw7558137242489127618 tw7050996275396538167 tw10225478536209645500 tw12777874247306441686 tw13421726571652181159 tw7453953011933166169 tw8053162866367634132 tw13235433258711840351 tw14883735356380827708 tw2415906983059564465 tw15700248219628793622 tw14265655389591825896 tw4516360496103081487 tw14664971781732595316 tw2694156040877961598 tw14477330479428976817 tw9358303727871975225 tw13095275754708415178 tw1565239969543226523 tw4290962248297299526 tw12529939533111413232 tw13178091160348138285 tw15906481271496304647 tw18020568902192044149 tw4980071694028860246 tw948037972767539938 tw7413226775615558521 tw12143575763630138102 tw5721420143678856159 tw16284127937194919800 tw2651009654305173731 tw1533421296314436255 tw858128052955555400 tw928164874358448457 tw1409569191680337832 tw17967645473734925502 tw6172677086034698094 tw17034228137393814517 tw7365795351687177369 tw17038761397036426821 tw8423001309243812669 tw8692414788636713995 tw6194277013600887362 tw12547807911977721233 tw13179263214492082683 tw7640619243029942311 tw14393717193811819394 tw9705807405131882210 tw4582450844449481273 tw15327411252319364649 tw6328292976411416267 tw10602460888523047126 tw1268357527706202025 tw6168139240867441030 tw17503974355599294612 tw1171945871461416533 tw16008047469447065503 tw9361543385274511190 tw17172262346796383192 tw6883265307902156645 tw2357846316632395491 tw10860177943851193860 tw11597481775327709951 tw12832370989148161401 tw11676169205278338389 tw15664039492610563566 tw7290019505360035354 tw17092161067865411731 tw14795733154322709597 tw12845576600365759976 tw2166320468146525111 tw7951496758848560115 tw15628777352912352997 tw178796669976739867 tw7925765462442311594 tw144372774589786996 tw4560000219896656981 tw10043481849492907885 tw10028001408965570511 tw7843811142625817767 tw6234354807887335246 tw160070701021725504 tw5175134656138845323 tw4929079911495384167 tw8552292103842455518 tw16865107962786761427 tw15650602489792169400 tw16275596217836270411 tw18322588621789527462 tw13199984173883823968 tw3287909866547334893 tw17660294975527855289 tw12396347068669149137 tw13203709537135061588 tw5221879037200611565 tw13329142925976491888 tw8984277772750178479 tw16119005169850083873 tw16058262851170785070 tw1991375597987422514 tw11735473590408853155 tw12850464845944695729 tw2166147267519122520 tw8138126395482606847 tw12469089758107667687 tw18385433493822139313 tw4673171528867254458 tw16142522692148300410 tw12889313293357982306 tw17974675149997069609 tw8635204991653821816 tw6759599507215521193 tw6534445003861090117 tw3197563655453612416 tw18057065711036809213:True)
open PySem PySem.W PyProof.Rows
set_option maxRecDepth 100000 in
set_option maxHeartbeats 0 in
theorem PySem.Challenge.cw_lampway_k36_whole_keeper_holds : PySem.Challenge.rw_lampway_k36_whole_keeper.Holds := by
 w_on;o_law;k_head;(case hw=>w_witness2)
 k_fill
 refine L2.ajC (l:=PySem.Challenge.rw_lampway_k36_whole_keeper) (n:=63) (k:=12) (x := "_law_script") (CX:=L2.dE) (sp:=My.V1) rfl (by decide) rfl ⟨rfl,by decide,by decide⟩ (fun w h Y=>PySem.W.km_in_of Y) (fun w h Y=>PySem.W.km_tabs_of Y _ (List.Mem.head _)) (by intro p;kernel_rfl) ?F ?S ?C
 case F=>
  intro w mg gK h kZ G vR ar;have T:∃ t,My.Txt w (L2.EL kZ) mg t/\XT (L2.EL kZ) t.s6 (L2.O_ ar)=true:=by
   dsimp only [L2.EL,L2.O_];refine' ⟨My.b7.mk,⟨?maa,?Fab,?mac,?Fad,?mae,?Faf,?mag,?Fah,?mai,?Faj,?mak,?Fal,?mam,?Fan,?mao,?Fap,?maq,?Far,?mas,?Fat,?mau,?Fav,?maw,?Fax,?may,?Faz,?mba,?Fbb,?mbc,?Fbd,?mbe,?Fbf,?mbg,?Fbh,?mbi,?Fbj,?mbk,?Fbl,?mbm,?Fbn,?mbo,?Fbp,?mbq,?Fbr,?mbs,?Fbt,?mbu,?Fbv,?mbw,?Fbx,?mby,?Fbz,?mca,?Fcb,?mcc,?Fcd,?mce,?Fcf,?mcg,?Fch,?mci,?Fcj,?mck,?Fcl,?mcm,?Fcn,?mco,?Fcp,?mcq,?Fcr,?mcs,?Fct,?mcu,?Fcv,?mcw,?Fcx,?mcy,?Fcz,?mda,?Fdb,?mdc,?Fdd,?mde,?Fdf,?mdg,?Fdh,?mdi,?Fdj,?mdk,?Fdl,?mdm,?edn,?Fdo,?edp,?Fdq,?edr,?Fds,?edt,?Fdu,?edv,?Fdw,?edx,?Fdy,?edz,?Fea,?meb,?eec,?Fed,?mee,?eef,?Feg,?eeh,?Fei,?eej,?Fek,?eel,?Fem,?een,?Feo,?eep,?Feq,?eer,?Fes,?eet,?Feu,?eev,?Few,?eex,?Fey,?eez,?Ffa,?efb,?Ffc,?efd,?Ffe,?mff,?efg,?Ffh,?mfi,?efj,?Ffk,?efl,?Ffm,?efn,?Ffo,?mfp,?efq,?Ffr,?efs,?Fft,?efu,?Ffv,?mfw,?efx,?Ffy,?efz,?Fga,?egb,?Fgc,?mgd,?ege,?Fgf,?egg,?Fgh,?egi,?Fgj,?egk,?Fgl,?sgm,?sgn,?sgo,?sgp,?sgq,?sgr,?sgs,?sgt,?ngu,?ngv,?ngw,?sgx,?sgy,?ngz,?nha,?nhb,?nhc,?nhd,?nhe,?nhf,?nhg,?shh,?shi,?shj,?shk,?shl,?shm,?shn,?sho,?shp,?shq,?shr,?shs,?sht,?shu,?nhv,?nhw,?nhx,?nhy,?nhz,?nia,?nib,?nic,?sid,?nie,?nif,?nig,?nih,?nii,?nij,?nik,?sil,?sim,?sin,?sio,?nip,?niq,?nir,?nis,?nit,?niu,?niv,?siw,?six,?siy,?siz,?nja,?njb,?njc,?njd,?nje,?njf,?njg,?sjh,?sji,?sjj,?sjk,?njl,?njm,?njn,?njo,?njp,?njq,?njr,?sjs,?sjt,?sju,?sjv,?sjw,?njx,?njy,?njz,?dka,?dkb,?dkc,?dkd,?dke,?dkf,?skg,?mkh,?vki,?mkj,?vkk,?mkl,?vkm,?mkn,?vko,?mkp,?vkq,?mkr,?vks,?mkt,?vku,?mkv,?vkw,?mkx,?vky,?mkz,?vla,?mlb,?vlc,?mld,?vle,?blf,?blg,?blh,?bli,?blj,?blk,?bll,?blm,?bln,?blo,?blp,?blq,?clr,?lls⟩,?zcc⟩
   case maa | mac | mae | mag | mai | mak | mam | mao | maq | mas | mau | maw | may | mba | mbc | mbe | mbg | mbi | mbk | mbm | mbo | mbq | mbs | mbu | mbw | mby | mca | mcc | mce | mcg | mci | mck | mcm | mco | mcq | mcs | mcu | mcw | mcy | mda | mdc | mde | mdg | mdi | mdk | mdm | meb | mee | mff | mfi | mfp | mfw | mgd | mkh | mkj | mkl | mkn | mkp | mkr | mkt | mkv | mkx | mkz | mlb | mld=>(try dsimp only);refine' PySem.W.mg_of kZ G ?z;case z=>k_is
   case edn | edp | edr | edt | edv | edx | edz | eec | eef | eeh | eej | eel | een | eep | eer | eet | eev | eex | eez | efb | efd | efg | efj | efl | efn | efq | efs | efu | efx | efz | egb | ege | egg | egi | egk=>(try dsimp only);k_is
   case sgm | sgn | sgo | sgp | sgq | sgr | sgs | sgt | sgx | sgy | shh | shi | shj | shk | shl | shm | shn | sho | shp | shq | shr | shs | sht | shu | sid | sil | sim | sin | sio | siw | six | siy | siz | sjh | sji | sjj | sjk | sjs | sjt | sju | sjv | sjw | skg=>(try dsimp only);constructor <;> k_is
   case Fab | Fad | Faf | Fah | Faj | Fal | Fan | Fap | Far | Fat | Fav | Fax | Faz | Fbb | Fbd | Fbf | Fbh | Fbj | Fbl | Fbn | Fbp | Fbr | Fbt | Fbv | Fbx | Fbz | Fcb | Fcd | Fcf | Fch | Fcj | Fcl | Fcn | Fcp | Fcr | Fct | Fcv | Fcx | Fcz | Fdb | Fdd | Fdf | Fdh | Fdj | Fdl | Fdo | Fdq | Fds | Fdu | Fdw | Fdy | Fea | Fed | Feg | Fei | Fek | Fem | Feo | Feq | Fes | Feu | Few | Fey | Ffa | Ffc | Ffe | Ffh | Ffk | Ffm | Ffo | Ffr | Fft | Ffv | Ffy | Fga | Fgc | Fgf | Fgh | Fgj | Fgl=>(try dsimp only);refine' L2.W' ?x ?y ?z;(case x=>k_is);(case y=>k_is);(case z=>k_is)
   case clr=>(try dsimp only);(try rfl)
   case ngu | ngv | ngw | ngz | nha | nhb | nhc | nhd | nhe | nhf | nhg | nhv | nhw | nhx | nhy | nhz | nia | nib | nic | nie | nif | nig | nih | nii | nij | nik | nip | niq | nir | nis | nit | niu | niv | nja | njb | njc | njd | nje | njf | njg | njl | njm | njn | njo | njp | njq | njr | njx | njy | njz=>(try dsimp only);unfold L2.c5;k_is
   case dka | dkb | dkc | dkd | dke | dkf=>(try dsimp only);decide
   case vki | vkk | vkm | vko | vkq | vks | vku | vkw | vky | vla | vlc | vle=>(try dsimp only);exact ⟨_,rfl⟩
   case blf | blg | blh | bli | blj | blk | bll | blm | bln | blo | blp | blq=>(try dsimp only);refine' PySem.W.mg_none_of kZ G ?z;case z=>k_is
   case lls=>(try dsimp only);exact fun _ _=>.of_eq rfl
   case zcc=>(try dsimp only);kernel_rfl
  obtain ⟨t,T,uh⟩:=T;have e7:=vR.symm.trans T.Z3;cases e7;exact ⟨t.A7,t.s6,T.alR,uh,fun base y9 nb dy i5=>My.afk T dy i5⟩
 case S=>exact fun K H a Pt ns aM mM er=>⟨a,ns,rfl,L2.Sc.ac2 mM er,aM,⟨#[],mM.1,.inl rfl⟩,fun _=>rfl⟩
 case C=>exact fun _ _ _ _ z=>z
