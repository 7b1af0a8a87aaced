import PyProof.Rows.All
import Wide.All
import OpenK.AllK
import Wide.FinOn
import Lean
import PyProof.EqAt
import PyProof.EqKinds
import PyProof.TupleCall
import KE.KTryMore
import PyProof.NsDelKeeps
import PySem.Challenge.RW_lampway_k53_whole_the_nth_goes
set_option compiler.extract_closed false
set_option Elab.async false
set_option linter.all false
set_option autoImplicit true
set_option genSizeOf false
set_option maxRecDepth 100000
local macro_rules | `(tactic| ac_nf)=>`(tactic| decide +kernel)
local macro_rules | `(tactic| omega)=>`(tactic| first | with_reducible assumption | lia | omega (splitDisjunctions := true))
open Array renaming getElem?_eq_none→aeY,getElem?_toList→X1,length_toList→Hc,toList→aho,toList_append→qI,toList_inj→RP
open Bool renaming and_eq_true→kb,and_false→arC,eq_iff_iff→m8,false_and→qj,false_eq_true→EJ,false_ne_true→fT,false_or→nY,not_true→akb,or_eq_false_iff→FW,or_eq_true→u5,or_false→Y6,or_true→ap5,true_and→oe,true_or→we
open Char renaming toNat→zz
open Except renaming ok→tL
open False renaming elim→lE
open ForInStep renaming yield→A4
open Function renaming comp→ado
open Int renaming add_mul_emod_self_left→DV,emod_eq_of_lt→oB,emod_lt_of_pos→yo,emod_nonneg→xc,le_refl→lP,le_trans→als,mul_lt_mul'→aer,mul_nonneg→aiR,sub_self→am',toNat_natCast→mG,toNat_of_nonneg→t9,zero_add→q_
open List renaming all_cons→aka,all_eq_true→vH,any_cons→AR,any_eq_false→Jk,any_eq_true→rg,any_map→Yc,append_assoc→mZ,append_nil→uy,cons_append→AX,contains_cons→aey,drop_eq_getElem_cons→uR,drop_length→AH,drop_zero→adM,exists_cons_of_ne_nil→tB,filterMap_cons→T9,filter_congr→alT,filter_cons→arX,filter_cons_of_neg→ak8,filter_cons_of_pos→ar_,filter_eq_nil_iff→Qm,find?→aje,find?_cons→pC,find?_eq_none→abm,findSome?_cons→LJ,findSome?_eq_none_iff→JY,flatMap_append→zO,flatMap_cons→y9,flatMap_nil→abc,flatten_append→aoG,flatten_cons→xH,foldl_append→vT,getD→Ca,getD_eq_getElem?_getD→ku,getElem?_append_left→lg,getElem?_append_right→j7,getElem?_cons_succ→CE,getElem?_drop→AS,getElem?_eq_getElem→bj,getElem?_eq_none→aot,getElem?_eq_none_iff→ajB,getElem?_eq_some_iff→b5,getElem?_map→dv,getElem?_of_mem→g8,getElem?_range→BD,getElem?_set_ne→RA,getElem?_set_self→Ux,getElem?_take_of_lt→tV,getElem_idxOf→afx,getElem_inj→wM,getElem_map→sr,getElem_mem→ic,getElem_of_mem→Df,getLast?_append→ajD,getLast?_cons_cons→PY,getLast?_eq_getElem?→Y2,head?_eq_none_iff→aq0,idxOf_cons→aeS,idxOf_lt_length_iff→agZ,isEmpty_iff→UR,length→tw,length_append→cU,length_cons→gW,length_drop→k4,length_filter_le→uH,length_map→aT,length_nil→zr,length_pos_iff→w0,length_pos_of_mem→Wt,length_range→tv,length_set→abz,length_singleton→mq,length_take→ha,lookup→rZ,lookup_cons→l5,map→oh,map_append→ee,map_congr_left→Pz,map_cons→es,map_drop→A',map_eq_nil_iff→ZF,map_map→q3,map_nil→qE,map_take→Wg,mem_append→eQ,mem_append_left→z9,mem_append_right→l1,mem_cons→d6,mem_cons_of_mem→jj,mem_cons_self→ox,mem_filter→i0,mem_filterMap→acm,mem_flatten→Om,mem_iff_getElem→ajW,mem_map→cf,mem_of_find?_eq_some→al1,mem_of_getElem?→cm,mem_of_mem_drop→SM,mem_of_mem_take→wZ,mem_or_eq_of_mem_set→RT,mem_range→pY,mem_singleton→eB,nil_append→MW,nodup_append→Eb,nodup_cons→qQ,nodup_nil→NO,not_mem_nil→pI,of_mem_zip→Zm,pairwise_iff_getElem→ab',pairwise_map→aeM,perm_append_comm→abE,perm_middle→arO,range→fp,range_succ→wB,replicate→Sf,set_cons_succ→hF,set_cons_zero→hD,size_toArray→e2,sublist_flatten_of_mem→aqP,sum_append→aqV,sum_cons→Ax,sum_nil→ahL,take_add_one→oo,take_append_drop→QL,take_left→apJ,take_length→hO,take_of_length_le→Jr,take_zero→vq
open List.Mem renaming head→aoX
open List.Pairwise renaming filter→as3,imp_of_mem→aga,nil→auK
open List.Perm renaming append_left→ap7
open List.cons renaming inj→t2
open Nat renaming add_comm→aeT,add_mod_right→agJ,add_mul→aj5,add_sub_cancel→Uk,add_zero→ad9,le_add_right→EF,le_of_eq→abb,le_of_lt→nR,le_of_not_lt→ae6,le_refl→bR,le_succ→y1,le_trans→cZ,log2_lt→akf,lt_irrefl→qq,lt_of_le_of_lt→gv,lt_of_lt_of_le→ja,lt_succ_self→wW,lt_trans→Tx,lt_trichotomy→af2,min_eq_left→D',mod_eq_of_lt→Et,mul_le_mul_right→SE,mul_pos→aoV,ne_of_gt→EL,ne_of_lt→gN,reduceAdd→adI,reduceSub→ad7,sub_self→vV,succ_le_succ→Ti,succ_mul→y_,toDigits→wx,zero_le→eO
open Ne renaming symm→dm
open Option renaming bind_some→yV,getD_none→aiB,isSome_iff_exists→alm,isSome_map→al7,map_eq_some_iff→Ab,map_some→Ek,none→wC,toList→x1
open Option.some renaming inj→er
open Or renaming inl→lY,inr→nC
open Prod.mk renaming inj→QD
open PyProof.Rows renaming callWith_builtin1→au4,callWith_type1→Fj,iadd_int→at1,isub_int→auX,slot_tuple_getitem→Tn,split_weight→acH
open PySem renaming Within→aap,call→aoS,mem_of_lookup→wD
open PySem.Around renaming frames_deeper→acq,under→Zl,under_plainId→zP
open PySem.Builtin.Builtins renaming bindParams→JO
open PySem.Builtin.Dict renaming dictSlotNone→asN,showsAll→aqd
open PySem.Builtin.Dict_items renaming ownsTuple→ao6
open PySem.Builtin.List renaming listTooLong→Zw
open PySem.Builtin.Range renaming rangeSize→as9
open PySem.Builtin.Slice renaming sliceAdjust→WU,sliceApplied→arB,sliceFields→ate,slicePartIndex→atY,slicePlaces→Nl
open PySem.Builtin.Str renaming occurrences→vR,partsBetween→anO,strKind→amF
open PySem.Builtin.Tuple renaming tupleExact→M0,tupleItemsOf→asW
open PySem.Calls renaming Name_function_global→aa4,callWith_builtin→XJ,evalArgs_plain→Uc,spliced_cons→EW,spliced_nil→Sr
open PySem.CmpOp renaming NotIn→an5
open PySem.Code renaming frames→amR,isFrame→XD
open PySem.Data renaming cell→F7,fields→Xt
open PySem.EqMixed renaming eq_bool_str→ata,eq_int_str→auc,eq_str_bool→asZ,eq_str_int→atb,ne_bool_str→au_,ne_int_str→atQ,ne_str_bool→as5,ne_str_int→aty
open PySem.EqNone renaming eq_bool_none→at9,eq_int_none→as7,eq_none_bool→auY,eq_none_int→auD,eq_none_none→au7,eq_none_str→auo,eq_str_none→as6,ne_bool_none→at3,ne_int_none→atG,ne_none_bool→atw,ne_none_int→atd,ne_none_none→atR,ne_none_str→auQ,ne_str_none→aue
open PySem.F renaming args_dict_get_3→aoM,args_dict_keyiterator_next_1→ahm,args_dict_pop_3→ar5,args_str_split_2→Y5,entry_dict_get→ait,entry_dict_keyiterator_next→ab6,entry_dict_pop→aqu,entry_max_loop→Zq,entry_min_loop→aaf,entry_str_split→Qt,plainAttrs_dict→ac9,plainAttrs_list→f9,plainAttrs_str→xU,plain_max_loop→xa,plain_min_loop→xP,slot_dict_get→QK,slot_dict_getitem→apw,slot_dict_iter→asz,slot_dict_keyiterator_next→Gb,slot_dict_pop→Qc,slot_list_append→kQ,slot_list_extend→rq,slot_list_index→Wk,slot_list_insert→aaG,slot_list_pop→Qy,slot_str_join→Gh,slot_str_split→Ex,type_list_append→k2,type_list_extend→sz,type_list_index→aiZ,type_list_insert→aok,type_list_pop→afA,type_str_join→CY,type_str_split→anG
open PySem.Heap renaming SameBut→yj,get?_push_of_some→fk,get?_push_size→hC,get?_update_other→qr,get?_update_self→aeO,lt_size→eD,size_push→QA
open PySem.Heap.IsSliceOf renaming new→auW
open PySem.Heap.SameBut renaming update→arj
open PySem.NameKind renaming cell→XA,free→s7
open PySem.NumText renaming digitsVal→PS
open PySem.Obj renaming data_mapFields→abi,mapFields→anM,mapSeq→oT
open PySem.Paired renaming length→Mz,snoc→VH
open PySem.PassesOwn renaming never→eP
open PySem.SeqAt renaming EqAt→alM
open PySem.SeqAt.EqAt renaming int_str→asv,str_int→aqI
open PySem.Str renaming cps_append→qJ,join→eG,length→x_,ofString→ab
open PySem.StrLaws renaming glued_eq_join→z2,sliceText→x6
open PySem.Txt renaming join→r4,slice→nv,slice_le→wX,split→jL
open PySem.Value renaming bool→lZ,bytes→agE,float→aqO,int→od,isInt→arD,isStrOf→aaQ,none→vZ,ref→fE,str→zd,type→ahn
open PySem.W renaming CodeHd→mD,Frag→bq,callWith_K→D9,callWith_K0→ac',cellsFrom_some→aeE,clsIn→aqM,codeHdIn→Hm,codeHd_of_K→aeW,codeIn→aah,emptyDict→t6,envX→L8,findCls→ase,findIn→dA,fnOf→Bw,handedIn→af_,hasDictIn→Gq,instObj→vx,isFn→TB,keepIn→vy,kla_fn→VZ,kla_obj→AB,km_tabs_of→afk,lookIn→K_,makesIn→am9,methodCall_KW→D5,methodObj→VT,mroIn→M_,noTabs→anx,plainGet→J5,plainGet_of→Qb,plainOver→akF,readsIn→al9,specialIn→yv,tabObj→K3,takerIn→Z5,takesIn→Kx,typeIn→alJ
open PySem.W.KIN renaming signs_num→ag6
open PySem.W.Looks renaming here→atg
open PySem.W.WData renaming int→aj'
open PySem.W.WShape renaming has→amm
open PySem.Walks renaming list→v3
open PySem.Within renaming cons→as4
open Sum renaming inl→s',inr→bO
open Sum.inr renaming inj→sg
open True renaming intro→m5
set_option tactic.hygienic false
def A'r:Lean.Syntax:=Lean.Unhygienic.run `(tacticSeq|rfl)
def A'd:Lean.Syntax:=Lean.Unhygienic.run `(tacticSeq|decide)
def A'i:Lean.Syntax:=Lean.Unhygienic.run `(tacticSeq|(intro _;rfl))
section
local macro_rules|`(())=>`(by omega)
local macro_rules|`(∅)=>`(by first|decide +kernel|walk_at "F")
local macro_rules|`($x\$y)=>`($x=some $y)
local macro_rules|`(↑$x)=>`(($x).length)
local macro_rules|`(↥$x)=>`(($x).heap.objs.size)
local macro_rules|`(⇑$x)=>`(.ref $x)
local macro_rules|`($d:declaration)=>do
  let d:=d.raw
  if d[1][0].getPos?.isNone then Lean.Macro.throwUnsupported
  let f(s:Lean.Syntax):=s.rewriteBottomUp (·.setInfo .none)
  return (d.setArg 0 (f d[0])).setArg 1 (d[1].setArg 0 (f d[1][0]))
open Prod renaming mk→p'p
local macro_rules|`(($x,$y,*))=>`(⟨$x,$y,*⟩)
def letPat:Nat->Lean.Term->Lean.MacroM (Lean.TSyntax `rcasesPat)
 |0,_=>Lean.Macro.throwUnsupported
 | n+1,p=>match p with
  | `(_)=>`(rcasesPat|_)
  | `($x:ident)=>`(rcasesPat|$x:ident)
  | `(($x,$y,*))=>do
   let q<-(#[x]++y.getElems).mapM fun z=>do
    let r<-letPat n z
    `(Lean.Parser.Tactic.rcasesPatLo|$r:rcasesPat)
   `(rcasesPat|⟨$q,*⟩)
  |_=>Lean.Macro.throwUnsupported
theorem g'g{p:Prop}(h:∀G:Prop,(p->G)->G):p:=h p id
set_option hygiene false in
local macro_rules|`(tactic|let $d:letDecl)=>do
  let d:=d.raw[0]
  let p<-letPat 9 ⟨d[0]⟩
  let v:Lean.Term:=⟨d[4]⟩
  let o<-if d[2].isNone then `(tactic|obtain $p:rcasesPat:=$v)else `(tactic|obtain $p:rcasesPat : $(⟨d[2][0][1]⟩) := $v)
  if(v.raw.find? fun y=>y.isOfKind ``Lean.Parser.Term.byTactic||y.isOfKind ``Lean.Parser.Term.tuple||y.isOfKind `«term∅»).isNone&&(d[0].find? fun y=>y.isOfKind `null&&6<y.getNumArgs).isSome then `(tactic|(refine g'g fun G' g'=>?_;$o;all_goals(refine g' ?_;clear g' G')))else return o
local macro_rules|`(tactic|intro $x*)=>do
  if x.all (fun y=>y.raw.isIdent||y.raw.isOfKind ``Lean.Parser.Term.hole)then Lean.Macro.throwUnsupported
  let q<-x.mapM fun y=>do `(rintroPat|$(<-letPat 9 y):rcasesPat)
  `(tactic|rintro $q*)
namespace L2
open PySem PySem.Spec PyProof.Rows
abbrev Key:=Sum Int Str
noncomputable def xO:Key->Value->Bool
 | .inl k,v=>arD k v
 | .inr x,v=>aaQ x v
noncomputable def ajG(w:World):Key->Int
 | .inl k=>hashInt k
 | .inr x=>hashStr w x
theorem qU:∀{k:Key} {v:Value},xO k v=true->(∃i t,k=s' i/\v=od i t)\/(∃x t,k=bO x/\v=zd x t)
 | .inl i,v,h=>by
  let(t,e):=Value.isInt_shape (k:=i) (v:=v) h;exact .inl (i,t,rfl,e)
 | .inr x,v,h=>by
  let(t,e):=Value.isStrOf_shape (x:=x) (v:=v) h;exact .inr (x,t,rfl,e)
def ae1(i:Int)(t:Tok):xO (.inl i) (.int i t)=true:=by simp[xO,arD]
def alG(x:Str)(t:Tok):xO (.inr x) (.str x t)=true:=by simp[xO,aaQ]
def apF(a b:Int):decide ((s' a:Key)=s' b)=(a==b):=by
 by_cases e:a=b
 .subst e;simp
 .have h:¬(s' a:Key)=s' b:=λq=>e (Sum.inl.inj q)
  rw[decide_eq_false h];exact(beq_eq_false_iff_ne.mpr e).symm
def adW(a b:Str):decide ((bO a:Key)=bO b)=decide (a=b):=by
 by_cases e:a=b
 .subst e;simp
 .have h:¬(bO a:Key)=bO b:=λq=>e (sg q)
  rw[decide_eq_false h,decide_eq_false e]
def aqs(a:Int)(b:Str):decide ((s' a:Key)=bO b)=false:=decide_eq_false (λq=>nomatch q)
def akI(a:Str)(b:Int):decide ((bO a:Key)=s' b)=false:=decide_eq_false (λq=>nomatch q)
noncomputable def iI(prog:Program)(w:World):PySem.KeyKind prog w Key where
 is:=xO
 hash:=ajG w
 inj:=λv a b aV aa=>by
  rcases qU aV with⟨i,t,rfl,rfl⟩|⟨x,t,rfl,rfl⟩
  .rcases qU aa with⟨j,u,rfl,e⟩|⟨y,u,rfl,e⟩
   .injection e with au _;rw[au]
   .exact nomatch e
  .rcases qU aa with⟨j,u,rfl,e⟩|⟨y,u,rfl,e⟩
   .exact nomatch e
   .injection e with au _;rw[au]
 byValue:=λk v h=>by
  rcases qU h with⟨i,t,rfl,rfl⟩|⟨x,t,rfl,rfl⟩ <;> rfl
 pyHash:=λaK h=>by
  rcases qU aK with⟨i,t,rfl,rfl⟩|⟨x,t,rfl,rfl⟩
  .exact wpAny_pyHash_int h
  .exact wpAny_pyHash_str h
 eqBool:=λbJ aK h=>by
  rcases qU bJ with⟨i,t,rfl,rfl⟩|⟨x,t,rfl,rfl⟩
  .rcases qU aK with⟨j,u,rfl,rfl⟩|⟨y,u,rfl,rfl⟩
   .rw [apF]at h;exact wpAny_eqBool_int h
   .rw [aqs]at h;exact asv i t y u _ _ _ _ h
  .rcases qU aK with⟨j,u,rfl,rfl⟩|⟨y,u,rfl,rfl⟩
   .rw [akI]at h;exact aqI x t j u _ _ _ _ h
   .rw [adW]at h;exact wpAny_eqBool_str h
 «strs»:=λk x t v h=>by
  rcases qU h with⟨i,u,rfl,e⟩|⟨y,u,rfl,e⟩
  .exact nomatch e
  .injection e with au _;subst au;cases v <;> rfl
def agG(prog:Program)(w:World)(i:Int)(t:Tok):(iI prog w).is (.inl i) (.int i t)=true:=ae1 i t
def asE(prog:Program)(w:World)(x:Str)(t:Tok):(iI prog w).is (.inr x) (.str x t)=true:=alG x t
inductive V where
 |cF|bG (b:Bool)|int (i:Int)|str (x:Str)|nh (b:Array UInt8)|yk (b:UInt64)|ref (a:Addr)|ty (n:String)
 deriving DecidableEq
def bX:V->Value->Prop
 | .cF,u=>u=vZ
 | .bG b,u=>u=lZ b
 | .int i,u=>∃t,u=od i t
 | .str x,u=>∃t,u=zd x t
 | .nh b,u=>∃t,u=agE b t
 | .yk b,u=>∃t,u=aqO b t
 | .ref a,u=>u=fE a
 | .ty n,u=>u=ahn n
abbrev cN:List V->List Value->Prop:=Paired bX
def cN.length(r:cN xs us):↑xs=↑us:=Mz r
theorem cN.get:∀{xs:List V} {us:List Value} {i:Nat} {x:V},cN xs us->xs[i]?\x->∃u,us[i]?\u/\bX x u
 |_,_,_,_,.nil,e=>by simp at e
 |_,_,0,_,.cons r _,e=>by simp at e;subst e;exact(_,rfl,r)
 |_,_,i+1,x,.cons _ t,e=>by
  let(u,af,ak):=cN.get (i:=i) (x:=x) t (by simpa using e);exact(u,by simpa using af,ak)
theorem cN.set{x:V}(r:bX x u):∀{xs:List V} {us:List Value} (i:Nat),cN xs us->cN (xs.set i x) (us.set i u)
 |_,_,_,.nil=>.nil
 |_,_,0,.cons _ t=>.cons r t
 |_,_,i+1,.cons q t=>.cons q (cN.set r i t)
theorem cN.append:∀{xs ys:List V} {us ws:List Value},cN xs us->cN ys ws->cN (xs++ys) (us++ws)
 |_,_,_,_,.nil,s=>s
 |_,_,_,_,.cons r t,s=>.cons r (cN.append t s)
theorem cN.take:∀{xs:List V} {us:List Value} (n:Nat),cN xs us->cN (xs.take n) (us.take n)
 |_,_,0,_=>.nil
 |_,_,_+1,.nil=>.nil
 |_,_,n+1,.cons r t=>.cons r (cN.take n t)
theorem cN.drop:∀{xs:List V} {us:List Value} (n:Nat),cN xs us->cN (xs.drop n) (us.drop n)
 |_,_,0,r=>r
 |_,_,_+1,.nil=>.nil
 |_,_,n+1,.cons _ t=>cN.drop n t
def ji:Option V->Option Value->Prop
 |some v,some u=>bX v u
 |none,none=>True
 |_,_=>False
def fF{fh:Type}:List (fh×V)->List (fh×Value)->Prop:=Paired λ(p:fh×V) (q:fh×Value)=>p.1=q.1/\bX p.2 q.2
noncomputable def d9:Key->V
 | .inl i=>.int i
 | .inr x=>.str x
inductive eH where
  |lst (xs:List V)
  |tup (xs:List V)
  |bu (kvs:List (Key×V))|hl (kvs:List (List Key×V))
  |set (S:Int->Bool) (n:Nat)
  |ins (C ax:Addr) (a6:List (Str×V))
  |own (x:Addr)
  |G6 (a6:List (Str×V))
  |met (f x:Addr)
  |DH (lo ai:Int)
  |ei (o:Obj) (u:eH)
  |hS (ps:Array Value)
  |ext (wR:Heap->Prop)
abbrev aw:=Addr->Option eH
noncomputable def upd(H:aw)(a:Addr)(o:eH):aw:=λb=>if b=a then some o else H b
def db:upd H a o a\o:=by unfold upd;rw[if_pos rfl]
def aD(h:b≠a):upd H a o b=H b:=by unfold upd;rw[if_neg h]
def ug:upd (upd H a o) a u=upd H a u:=by
 funext b;unfold upd;split <;> rfl
def bW{H:aw}{a b:Addr}{o u:eH}(h:H a\o)(h':H b\u)(d:o≠u):a≠b:=by
 intro e;subst e;rw[h]at h';exact d (er h')
def dF{H:aw}{a b:Addr}{o:eH}(h:H a\o)(h':H b=none):a≠b:=by
 intro e;subst e;rw[h]at h';cases h'
section
variable(P:Program)(w:World)
def gk(H:aw)(h:Heap)(a:Addr):eH->Prop
 | .lst xs=>↑xs<=sizeLine/\∃(a3:List Value) (n:Nat),cN xs a3/\h.get? a=some {cls:=.type "list",data:=.seq a3.toArray n}
 | .tup xs=>(↑xs<=sizeLine/\∃cG,h.get? a\cG/\cG.dict=none)/\∃a3:List Value,cN xs a3/\IsTup h a a3.toArray
 | .bu kvs=>↑kvs<=sizeLine/\(a==sysModules)=false/\∃vs,fF kvs vs/\h.DictOf (iI P w) a vs
 | .hl kvs=>↑kvs<=sizeLine/\(a==sysModules)=false/\∃xs:List (List Key×Addr×Value),
   Paired (λ(p:List Key×V) (q:List Key×Addr×Value)=>p.1=q.1/\H q.2.1\(.tup (p.1.map d9))/\bX p.2 q.2.2) kvs xs /\
   ∃o aW cJ,h.get? a\o/\o.ExactDict/\o.data=.dict aW cJ/\aW.toList=xs.map (entryOfKey (tupleKind (iI P w)))/\(xs.map (·.1)).Nodup
 | .set S n=>h.SetOf (intKind P w) a S n
 | .ins C ax a6=>H ax\(.own a)/\↑a6<=1000/\ax≠a/\h.get? a\(vx C ax) /\
   ∃ft,h.Ns1 ax ft/\(∀f,ji (a6.lookup f) (ft f))/\aap ft (a6.map (·.1))
 | .own _=>∃o,h.get? a\o
 | .G6 a6=>∃ft,h.Ns1 a ft/\∀f,ji (a6.lookup f) (ft f)
 | .DH lo ai=>∃t u v,h.get? a=some {cls:=.type "range",data:=.fields #[.int lo t,.int ai u,.int 1 v]}
 | .ei o u=>h.get? a\o/\gk H h a u
 | .hS ps=>h.get? a=some {cls:=.none,data:=.fields ps}
 | .met f x=>h.get? a\(VT (.ref f) (.ref x))
 | .ext wR=>wR h/\(∃o,h.get? a\o)/\∀af ak:Heap,wR af->(∀o,af.get? a\o->ak.get? a\o)->wR ak
def fD(H:aw)(h:Heap):Prop:=∀a o,H a\o->gk P w H h a o
end
section
variable{P:Program}{w:World}{H I:aw}{h h':Heap}{a:Addr}{o:eH}
theorem gk.lt(x:gk P w H h a o):a<h.objs.size:=by
 cases o with
 |lst xs=>let(_,_,_,_,e):=x;exact eD e
 |tup xs=>let(_,_,_,p):=x;exact p.lt
 |bu kvs=>let(_,_,_,_,o,_,_,e,_):=x;exact eD e
 |hl kvs=>let(_,_,_,_,o,_,_,e,_):=x;exact eD e
 |set S n=>let(o,_,_,_,e,_):=x;exact eD e
 |ins C ax a6=>let(_,_,_,e,_):=x;exact eD e
 |own y=>let(_,e):=x;exact eD e
 |G6 a6=>let(_,(_,_,_,e,_),_):=x;exact eD e
 |DH lo ai=>let(_,_,_,e):=x;exact eD e
 |ei cG u=>let(e,_):=x;exact eD e
 |hS ps=>exact eD (show h.get? a\_ from x)
 |met f y=>exact eD (show h.get? a\_ from x)
 |ext wR=>let(_,(_,e),_):=x;exact eD e
theorem Paired.td:∀{l₁:List α} {l₂:List β},Paired F l₁ l₂->(∀a b,F a b->G a b)->Paired G l₁ l₂
 |_,_,.nil,_=>.nil
 |_,_,.cons r t,f=>.cons (f _ _ r) (Paired.td t f)
theorem gk.pd(x:gk P w H h a o)(k:∀b u,(b=a\/H b\(.own a))->h.get? b\u->h'.get? b\u)
  (aU:∀b,H b\(.own a)->I b\(.own a)) (c9:∀b xs,H b\(.tup xs)->I b\(.tup xs)):gk P w I h' a o:=by
 induction o with
 |lst xs=>let(z,a3,n,r,e):=x;exact(z,a3,n,r,k _ _ (.inl rfl) e)
 |tup xs=>let((z,aiL,Ld,QO),a3,r,cG,e,c):=x;exact((z,aiL,k _ _ (.inl rfl) Ld,QO),a3,r,cG,k _ _ (.inl rfl) e,c)
 |bu kvs=>let(z,y,vs,r,cG,aW,cJ,e,c):=x;exact(z,y,vs,r,cG,aW,cJ,k _ _ (.inl rfl) e,c)
 |hl kvs=>
  let(z,y,xs,r,cG,aW,cJ,e,c):=x;exact(z,y,xs,Paired.td r λp q z=>(z.1,c9 _ _ z.2.1,z.2.2),cG,aW,cJ,k _ _ (.inl rfl) e,c)
 |set S n=>let(cG,aW,cJ,t,e,c):=x;exact(cG,aW,cJ,t,k _ _ (.inl rfl) e,c)
 |ins C ax a6=>
  let(d,z,ne,e,ft,(fN,aW,cJ,aE,c),r):=x;exact(aU _ d,z,ne,k _ _ (.inl rfl) e,ft,(fN,aW,cJ,k _ _ (.inr d) aE,c),r)
 |own y=>let(cG,e):=x;exact(cG,k _ _ (.inl rfl) e)
 |G6 a6=>let(ft,(fN,aW,cJ,e,c),r):=x;exact(ft,(fN,aW,cJ,k _ _ (.inl rfl) e,c),r)
 |DH lo ai=>let(t,u,v,e):=x;exact(t,u,v,k _ _ (.inl rfl) e)
 |ei cG u c4=>let(e,q):=x;exact(k _ _ (.inl rfl) e,c4 q)
 |hS ps=>
  have e:h.get? a=some {cls:=.none,data:=.fields ps}:=x;show h'.get? a=some {cls:=.none,data:=.fields ps};exact k a _ (.inl rfl) e
 |met f y=>
  have e:h.get? a\(VT ⇑f ⇑y):=x;show h'.get? a\(VT ⇑f ⇑y);exact k a _ (.inl rfl) e
 |ext wR=>let(p,(o,e),st):=x;exact(st _ _ p λo q=>k _ _ (.inl rfl) q,(o,k _ _ (.inl rfl) e),st)
theorem fD.lt(x:fD P w H h)(e:H a\o):a<h.objs.size:=(x a o e).lt
theorem fD.fresh(x:fD P w H h)(e:h.objs.size<=a):H a=none:=by
 cases q:H a with
 |none=>rfl
 |some u=>exact absurd (ja (x.lt q) e) (qq _)
def fD.kept(x:fD P w H h)(k:∀b u,h.get? b\u->h'.get? b\u):fD P w H h':=λa o e=>
 (x a o e).pd (λb u _ q=>k b u q) (λ_ q=>q) λ_ _ q=>q
def fD.laid(x:fD P w H h)(k:∀b u,h.get? b\u->h'.get? b\u)(aq:h.objs.size<=a)(new:gk P w (upd H a o) h' a o):fD P w (upd H a o) h':=λb u e=>by
 have a5:=x.fresh aq;by_cases aa:b=a
 .subst aa;rw[db]at e;cases e;exact new
 .rw [aD aa]at e;exact(x b u e).pd (λc v _ q=>k c v q) (λc q=>by rw[aD (dF q a5)];exact q) λc xs q=>by rw[aD (dF q a5)];exact q
end
def m6(H:aw)(a:Addr)(u:eH):Prop:=H a\u\/∃o,H a\(.ei o u)
def m6.ok{w:World}{h:Heap}(r:m6 H a u)(x:fD P w H h):gk P w H h a u:=by
 rcases r with r|⟨o,r⟩
 .exact x a u r
 .let(_,q):=x a _ r;exact q
def uA:Option eH->Prop
 |some (.lst _)=>True
 |some (.bu _)=>True
 |some (.hl _)=>True
 |some (.set _ _)=>True
 |some (.ins _ _ _)=>True
 |some (.ext _)=>True
 |_=>False
section
variable{P:Program}{w:World}{H:aw}{h h':Heap}{x e:Addr}{eF:eH}
def fD.write (ok:fD P w H h) (k5:uA (H x)) (he:e=x\/H e\(.own x)) (k:∀b u,b≠e->h.get? b\u->h'.get? b\u) (x5:∃u,h'.get? e\u)
  (new:gk P w (upd H x eF) h' x eF):fD P w (upd H x eF) h':=λb u q=>by
 have aat:∀c y,H c\(.own y)->c≠x:=λc y r z=>by subst z;rw[r]at k5;exact k5
 have arw:∀c xs,H c\(.tup xs)->c≠x:=λc xs r z=>by subst z;rw[r]at k5;exact k5
 by_cases aa:b=x
 .subst aa;rw[db]at q;cases q;exact new
 .rw[aD aa]at q;by_cases vS:b=e
  .have dB:H b\(.own x):=by
    rcases he with z|z
    .exact absurd (vS.trans z) aa
    .rw [vS];exact z
   rw[q]at dB;cases dB;let(v,aK):=x5;exact(v,by rw[vS];exact aK)
  .refine(ok b u q).pd (λc v aC r=>k c v ?_ r) (λc r=>by rw[aD (aat c b r)];exact r) λc xs r=>by rw[aD (arw c xs r)];exact r
   rcases aC with rfl|aC
   .exact vS
   .rintro rfl;rcases he with z|z
    .exact aat c b aC z
    .rw [aC]at z;cases z;exact aa rfl
end
structure h8(a6 ex:List Addr)(H I:aw)(h h':Heap):Prop where
 keep:∀b o,h.get? b\o->H b=none->b∉a6->b∉ex->h'.get? b\o
 slot:∀b o,h.get? b\o->H b=none->b∈a6->b∉ex->∃cX,h'.get? b=some {o with slots:=cX}
 free:∀b o,h.get? b\o->H b=none->b∉ex->I b=none
 there:∀b o,h.get? b\o->b∉ex->∃eF,h'.get? b\eF
 rN:∀b xs,H b\(.tup xs)->I b\(.tup xs)
 ot:∀b o u,H b\(.ei o u)->I b\(.ei o u)
 qW:∀b ps,H b\(.hS ps)->∃more,I b\(.hS (ps++more))
section
variable{a6 q0 ex atH:List Addr}{H H1 ar:aw}{h af ak h':Heap}{a x e:Addr}{o:eH}
def h8.any(u:h8 a6 ex H H1 h af)(q:h.get? b\cG)(n:H b=none)(ag:b∉ex):∃cX,af.get? b=some {cG with slots:=cX}:=by
 by_cases aa:b∈a6
 .exact u.slot b cG q n aa ag
 .exact (cG.slots,u.keep b cG q n aa ag)
def h8.kept(k:∀b u,h.get? b\u->h'.get? b\u):h8 a6 ex H H h h':=
 (λb cG q _ _ _=>k b cG q,λb cG q _ _ _=>(cG.slots,k b cG q),λ_ _ _ n _=>n,λb cG q _=>(cG,k b cG q),λ_ _ q=>q,λ_ _ _ q=>q,λ_ ps q=>(#[],by rw[q];simp))
def h8.refl:h8 a6 ex H H h h:=h8.kept λ_ _ q=>q
def h8.laid(k:∀b u,h.get? b\u->h'.get? b\u)(aq:h.objs.size<=a)(a5:H a=none):h8 a6 ex H (upd H a o) h h' where
 keep:=λb u q _ _ _=>k b u q
 slot:=λb u q _ _ _=>(u.slots,k b u q)
 free:=λb u q n _=>by rw[aD (gN (ja (eD q) aq))];exact n
 there:=λb u q _=>(u,k b u q)
 rN:=λb xs q=>by rw[aD (dF q a5)];exact q
 ot:=λb u xs q=>by rw[aD (dF q a5)];exact q
 qW:=λb ps q=>(#[],by rw[aD (dF q a5),q];simp)
def h8.write(k5:uA (H x))(he:e=x\/H e\(.own x))(k:∀b u,b≠e->h.get? b\u->h'.get? b\u)(x5:∃u,h'.get? e\u):h8 a6 ex H (upd H x o) h h':=by
 have ag:∀b,H b=none->b≠x:=λb n z=>by subst z;rw[n]at k5;exact k5
 have aa:∀b,H b=none->b≠e:=λb n z=>by
  subst z;rcases he with r|r
  .exact ag b n r
  .rw [n]at r;cases r
 have hm:∀b u,H b\u->¬uA (some u)->b≠x:=λb u q nm z=>by subst z;rw[q]at k5;exact nm k5
 refine(λb u q n _ _=>k b u (aa b n) q,λb u q n _ _=>(u.slots,k b u (aa b n) q),λb u q n _=>by rw[aD (ag b n)];exact n,λb u q _=>?_,
  λb xs q=>by rw[aD (hm b _ q λz=>z)];exact q,λb u xs q=>by rw[aD (hm b _ q λz=>z)];exact q,λb ps q=>(#[],by rw[aD (hm b _ q λz=>z),q];simp))
 by_cases vS:b=e
 .subst vS;exact x5
 .exact (u,k b u vS q)
end
noncomputable def CK(h:Heap)(H:aw):List Addr:=(fp h.objs.size).filter λa=>(H a).isSome
noncomputable def qa(h:Heap)(H:aw):Heap:=PySem.W.hideAll h (CK h H)
def aa3(h:Heap)(H:aw):(qa h H).objs.size=h.objs.size:=PySem.W.hideAll_size _ _
def OW{h:Heap}(e:h.get? b\o)(n:H b=none):(qa h H).get? b\o:=
 PySem.W.hideAll_get _ e λhm=>by
  have q:(H b).isSome=true:=(i0.mp hm).2;rw[n]at q;simp at q
theorem aso{h:Heap}(e:(qa h H).get? b\o):h.get? b\o/\H b=none:=by
 have bF:h.get? b\o:=PySem.W.of_hideAll (CK h H) e;refine(bF,?_);cases q:H b with
 |none=>rfl
 |some x=>
  have hm:b∈CK h H:=i0.mpr (pY.mpr (eD bF),by simp[q]);have z:(qa h H).get? b=none:=PySem.W.hideAll_none (CK h H) hm;rw[z]at e;cases e
noncomputable def apr(g h:Heap)(L:Addr):List (Addr×Obj):=(fp h.objs.size).filterMap λa=>if a=L\/(g.get? a).isSome=true then none else(h.get? a).map λo=>(p'p a o)
noncomputable def lO(g h:Heap)(L d:Addr):List (Addr×Obj):=(apr g h L).filter λp=>decide (p.1≠d)
structure Mod(K:bq)(mg:Str->Option Value)(base:Heap):Prop where
 uI:K.In base
 glob:base.Ns mainGlobals mg
 blt:∃oP,base.Ns builtinsNs oP/\∀x:Str,x≠"__name__"->oP x=bootBuiltins x
 nolimit:base.NoLimit
set_option genInjectivity false in
structure bg where
 prog:Program
 w:World
 K:bq
 mg:Str->Option Value
 base:Heap
 A:Around
 N:List Str
 gE:Shared
 tO:aw
 env:Env
 outer:List Env
 stack:List Env
 ex:List Addr
 fn:Str->Bool
 calm:Bool
 dZ:List (Addr×Obj)
 d_:Value->Shared->Prop
noncomputable def oE(l:List Env):List Addr:=l.filterMap (·.frame)
noncomputable abbrev bg.a6(X:bg):List Addr:=oE X.outer
def Bl(sc:Scope)(x:Str):Prop:=sc.names.lookup x\.local\/sc.names.lookup x\.cell\/sc.names.lookup x\.free
def Loc(sc:Scope)(x:Str):Prop:=sc.names.lookup x\.local\/sc.names.lookup x\.cell
def amx(env:Env)(h:Heap)(m:Str->Option Value)(x:Str)(u:Value):Prop:=
 (env.kindOf x\.local/\m x\u)\/((env.kindOf x\.cell\/env.kindOf x\.free)/\∃c,env.cells.lookup x\c/\h.IsCell c (some u))
structure bg.Ok(X:bg):Prop where
 mod:Mod X.K X.mg X.base
 kind:X.env.scope.kind=.function
 glob:X.env.globals=mainGlobals
 blt:X.env.builtins=builtinsNs
 above:↥X.gE<=X.env.locals
 inj:∀x y c,X.env.cells.lookup x\c->X.env.cells.lookup y\c->x=y
 has:∀x,(X.env.kindOf x\.cell\/X.env.kindOf x\.free)->∃c,X.env.cells.lookup x\c
 yq:∀x c,X.fn x=true->X.env.cells.lookup x\c->↥X.gE<=c
 hd:X.calm=true->X.A.handled=none
 frames:X.A.frames\X.stack
 zo:X.stack=X.outer\/(X.stack=X.env::X.outer/\X.env.frame\X.env.locals)
 Jq:∀b∈X.ex,b≠X.env.locals/\∀x c,X.env.cells.lookup x\c->c≠b
 bs:∀b o,X.base.get? b\o->X.gE.heap.get? b\o/\X.tO b=none
 oC:X.base.objs.size<=↥X.gE
 xi:∀b o,X.base.get? b\o->b∉X.ex
 w3:∀b∈X.ex,b∉X.a6
 n':X.gE.heap.FunFrames X.base X.outer
 tA:∀b∈X.a6,X.tO b=none
structure Inv(X:bg)(ae:List (Addr×Obj))(σ:List (Option V))(H:aw)(s:Shared):Prop where
 ok:X.Ok
 os:s.os=X.gE.os
 bare:AllBare s.gens
 base:h8 X.a6 X.ex X.tO H X.gE.heap s.heap
 loc:∃m,s.heap.Ns X.env.locals m/\∀(i:Nat) (x:Str) (v:V),X.N[i]?\x->σ[i]?\(some v)->Bl X.env.scope x->∃u,bX v u/\amx X.env s.heap m x u
 cell:∀x c,X.env.cells.lookup x\c->∃v,s.heap.IsCell c v
 free:H X.env.locals=none
 kG:∀x c,X.env.cells.lookup x\c->H c=none
 pin:∀p∈X.dZ++ae,s.heap.get? p.1\p.2/\H p.1=none/\p.1≠X.env.locals/\p.1∉X.a6/\∀v,p.2.data≠.cell v
 bC:fD X.prog X.w H s.heap
 len:↑σ=↑X.N
section
variable{X:bg}{ae:List (Addr×Obj)}{σ:List (Option V)}{H I:aw}{s:Shared}{h':Heap}
def bg.Ok.R_(ok:X.Ok)(e:X.base.get? b\o):b∉X.a6:=λaa=>by
 have:=(ok.n'.mem aa).1;rw[e]at this;cases this
theorem Inv.bs(J:Inv X ae σ H s):∀b o,X.base.get? b\o->s.heap.get? b\o/\H b=none:=λb o e=>
 (J.base.keep b o (J.ok.bs b o e).1 (J.ok.bs b o e).2 (J.ok.R_ e) (J.ok.xi b o e),J.base.free b o (J.ok.bs b o e).1 (J.ok.bs b o e).2 (J.ok.xi b o e))
def Inv.c_(J:Inv X ae σ H s):∀b o,X.base.get? b\o->s.heap.get? b\o:=λb o e=>(J.bs b o e).1
theorem Inv.mod(J:Inv X ae σ H s):Mod X.K X.mg X.base:=J.ok.mod
def Inv.kj(J:Inv X ae σ H s):X.K.In s.heap:=J.ok.mod.uI.keeps J.c_
theorem Inv.nolimit(J:Inv X ae σ H s):s.heap.NoLimit:=J.ok.mod.nolimit.keeps J.c_
def Inv.fr(J:Inv X ae σ H s):∃m,Fr X.base X.env.locals s.heap m:=
 let⟨m,a5,_⟩:=J.loc
 (m,a5,J.c_,cZ J.ok.oC J.ok.above)
theorem Inv.lt(J:Inv X ae σ H s):X.env.locals<↥s:=let⟨_,a5,_⟩:=J.loc;a5.lt
def Inv.qm(J:Inv X ae σ H s):↥X.gE<=↥s:=cZ J.ok.above (nR J.lt)
def Inv.MY(J:Inv X ae σ H s)(h:↥s<=a):a∉X.a6:=λaa=>by
 let(_,o,aU,_):=J.ok.n'.mem aa;exact absurd (ja (eD aU) (cZ J.qm h)) (qq _)
def Inv.uk(J:Inv X ae σ H s):∀x c,X.env.cells.lookup x\c->c≠X.env.locals:=λx c e z=>by
 let(v,o,aU,hd):=J.cell x c e;let(m,(eF,aW,cJ,ka,zf,_),_):=J.loc;rw[z,ka]at aU;cases aU;rw[zf]at hd;cases hd
theorem Inv.n'(J:Inv X ae σ H s):s.heap.FunFrames X.base X.outer:=by
 have all:∀(l:List Env),(∀b∈oE l,b∈X.a6)->X.gE.heap.FunFrames X.base l->s.heap.FunFrames X.base l:=by
  intro l
  induction l with
  |nil=>intro _ _;trivial
  |cons env r c4=>
   intro az aN;let(aB,(L,o,hf,a5,aU,hd),ao):=aN;have eN:L∈X.a6:=az L (by unfold oE;rw[T9,hf];exact ox);let(cX,e):=J.base.slot L o aU (J.ok.tA L eN) eN λz=>J.ok.w3 L z eN
   exact(aB,(L,_,hf,a5,e,hd),c4 (λb aa=>az b (by unfold oE;rw[T9,hf];exact jj _ aa)) ao)
 exact all X.outer (λ_ aa=>aa) J.ok.n'
theorem Inv.stack(J:Inv X ae σ H s):s.heap.FunFrames X.base X.stack:=by
 rcases J.ok.zo with e|⟨e,hf⟩
 .rw [e];exact J.n'
 .rw [e];let(m,a5,_):=J.loc;refine .cons (by rw[J.ok.kind];decide) hf a5 ?_ J.n';exact Heap.get?_none_of_le (cZ J.ok.oC J.ok.above)
def Inv.E7(J:Inv X ae σ H s):∀b∈oE X.stack,b∈X.env.locals::X.a6:=λb aa=>by
 rcases J.ok.zo with e|⟨e,hf⟩
 .rw [e]at aa;exact jj _ aa
 .rw [e]at aa;unfold oE at aa;rw[T9,hf]at aa;exact aa
def Inv.O1(J:Inv X ae σ H s):∀b∈oE X.stack,H b=none:=λb aa=>by
 rcases d6.mp (J.E7 b aa)with e|aa
 .rw [e];exact J.free
 .let(_,o,aU,_):=J.ok.n'.mem aa;exact J.base.free b o aU (J.ok.tA b aa) λz=>J.ok.w3 b z aa
def Inv.step{g':Array GenState}{t':Nat}{d':Drawn}{ch:List Addr}(J:Inv X ae σ H s)
  (hK:∀b∈ch,(b∈X.ex\/↥X.gE<=b)/\b≠X.env.locals/\(∀x c,X.env.cells.lookup x\c->c≠b)/\∀p∈X.dZ++ae,p.1≠b)
  (keep:∀b o,b≠X.env.locals->b∉X.a6->b∉ch->s.heap.get? b\o->H b=none->h'.get? b\o)
  (slot:∀b o,b≠X.env.locals->b∈X.a6->b∉ch->s.heap.get? b\o->H b=none->∃cX,h'.get? b=some {o with slots:=cX}) (free:∀b o,b∉ch->s.heap.get? b\o->H b=none->I b=none)
  (there:∀b o,b∉ch->s.heap.get? b\o->∃eF,h'.get? b\eF)
  (rN:∀b xs,H b\(.tup xs)->I b\(.tup xs)) (ot:∀b o u,H b\(.ei o u)->I b\(.ei o u)) (qW:∀b ps,H b\(.hS ps)->∃more,I b\(.hS (ps++more)))
  (ns:∀m,s.heap.Ns X.env.locals m->h'.Ns X.env.locals m) (bC:fD X.prog X.w I h') (a7:AllBare g') :
  Inv X ae σ I {s with heap:=h',gens:=g',drawn:=d',toks:=t' }:=by
 have Z3:∀b o,X.gE.heap.get? b\o->b≠X.env.locals:=λb o e=>gN (ja (eD e) J.ok.above)
 have Fh:∀b o,X.gE.heap.get? b\o->b∉X.ex->b∉ch:=λb o e ag aa=>by
  rcases(hK b aa).1 with z|z
  .exact ag z
  .exact absurd (ja (eD e) z) (qq _)
 have cellK:∀x c,X.env.cells.lookup x\c->∀v,s.heap.IsCell c v->h'.IsCell c v:=λx c e v ⟨o,aU,hd⟩=>by
  have Bx:c∉ch:=λz=>(hK c z).2.2.1 x c e rfl
  by_cases aC:c∈X.a6
  .let(cX,q):=slot c o (J.uk x c e) aC Bx aU (J.kG x c e);exact(_,q,hd)
  .exact (o,keep c o (J.uk x c e) aC Bx aU (J.kG x c e),hd)
 refine(J.ok,J.os,a7,(λb o e n aa ag=>?_,λb o e n aa ag=>?_,λb o e n ag=>?_,λb o e ag=>?_,λb xs e=>rN b xs (J.base.rN b xs e),λb o xs e=>ot b o xs (J.base.ot b o xs e),λb ps e=>?_),?_,λx c e=>?_,?_,λx c e=>?_,λp aq=>?_,bC,J.len)
 .exact keep b o (Z3 b o e) aa (Fh b o e ag) (J.base.keep b o e n aa ag) (J.base.free b o e n ag)
 .let(cX,au):=J.base.slot b o e n aa ag;let(ab5,aE):=slot b _ (Z3 b o e) aa (Fh b o e ag) au (J.base.free b o e n ag);exact(ab5,aE)
 .let(eF,au):=J.base.there b o e ag;exact free b eF (Fh b o e ag) au (J.base.free b o e n ag)
 .let(eF,au):=J.base.there b o e ag;exact there b eF (Fh b o e ag) au
 .let(jc,au):=J.base.qW b ps e;let(jb,aE):=qW b _ au;exact(jc++jb,by rw[aE,Array.append_assoc])
 .obtain⟨m,a5,aN⟩:=J.loc;refine⟨m,ns m a5,fun i x v au aE bI=>?_⟩;obtain⟨u,r,l⟩:=aN i x v au aE bI;refine⟨u,r,?_⟩;rcases l with l|⟨k,c,e,z⟩
  .exact .inl l
  .exact .inr (k,c,e,cellK x c e _ z)
 .let(v,z):=J.cell x c e;exact(v,cellK x c e v z)
 .let(m,(o,_,_,aU,_),_):=J.loc;exact free _ o (λz=>(hK _ z).2.1 rfl) aU J.free
 .let(v,o,aU,hd):=J.cell x c e;exact free c o (λz=>(hK c z).2.2.1 x c e rfl) aU (J.kG x c e)
 .obtain⟨e,n,ne,iw,d⟩:=J.pin p aq;have Bx:p.1∉ch:=fun z=>(hK p.1 z).2.2.2 p aq rfl
  exact(keep p.1 p.2 ne iw Bx e n,free p.1 p.2 Bx e n,ne,iw,d)
def Inv.un{t':Nat}(J:Inv X ae σ H s)(u:h8 X.a6 [] H I s.heap h')(bC:fD X.prog X.w I h'):Inv X ae σ I {s with heap:=h',toks:=t' }:=by
 let(m,(o,aW,cJ,aU,r),_):=id J.loc;let(cX,eN):=u.any aU J.free (by simp);exact J.step (g':=s.gens) (d':=s.drawn) (ch:=[]) (λ_ z=>nomatch z) (λb o _ aa _ e n=>u.keep b o e n aa (by simp)) (λb o _ aa _ e n=>u.slot b o e n aa (by simp)) (λb o _ e n=>u.free b o e n (by simp)) (λb o _ e=>u.there b o e (by simp)) u.rN u.ot u.qW (λdI hm=>by
  let(eF,OG,Ju,ka,eU):=hm;rw[aU]at ka;cases ka;exact(_,OG,Ju,eN,eU)) bC J.bare
def Inv.call{g':Array GenState}{t':Nat}{d':Drawn}{ch:List Addr}(J:Inv X ae σ H s)(u:h8 (oE X.stack) ch H I s.heap h')(bC:fD X.prog X.w I h')(a7:AllBare g')
  (hK:∀b∈ch,(b∈X.ex\/↥X.gE<=b)/\b≠X.env.locals/\(∀x c,X.env.cells.lookup x\c->c≠b)/\∀p∈X.dZ++ae,p.1≠b) :
  Inv X ae σ I {s with heap:=h',gens:=g',drawn:=d',toks:=t' }:=by
 let(m,(o,aW,cJ,aU,r),_):=id J.loc;let(cX,eN):=u.any aU J.free λz=>(hK _ z).2.1 rfl
 exact J.step (ch:=ch) hK (λb o eN aa aC e n=>u.keep b o e n (λz=>(d6.mp (J.E7 b z)).elim eN aa) aC) (λb o _ _ aC e n=>u.any e n aC) (λb o aC e n=>u.free b o e n aC) (λb o aC e=>u.there b o e aC) u.rN u.ot u.qW (λdI hm=>by
  let(eF,OG,Ju,ka,eU):=hm;rw[aU]at ka;cases ka;exact(_,OG,Ju,eN,eU)) bC a7
def Inv.turned{t':Nat}{it:Addr}(J:Inv X ae σ H s)(k:∀b o,b≠it->s.heap.get? b\o->h'.get? b\o)(a5:H it=none)(eN:it≠X.env.locals)
  (af:it∈X.ex\/↥X.gE<=it) (ak:∀x c,X.env.cells.lookup x\c->c≠it) (a8:∀p∈X.dZ++ae,p.1≠it):Inv X ae σ H {s with heap:=h',toks:=t' }:=by
 have BA:∀b u,H b\u->b≠it:=λb u e z=>by rw[z,a5]at e;cases e
 refine J.step (g':=s.gens) (d':=s.drawn) (ch:=[it]) (λb aa=>?_) (λb o _ _ aC e _=>k b o (λz=>aC (by simp[z])) e) (λb o _ _ aC e _=>(o.slots,k b o (λz=>aC (by simp[z])) e)) (λ_ _ _ _ n=>n)
  (λb o aC e=>(o,k b o (λz=>aC (by simp[z])) e)) (λ_ _ e=>e) (λ_ _ _ e=>e) (λb ps e=>(#[],by rw[e];simp)) (λm hm=>?_) (λb u e=>?_) J.bare
 .have e:b=it:=by simpa using aa
  subst e;exact(af,eN,ak,a8)
 .let(o,aW,cJ,aU,r):=hm;exact(o,aW,cJ,k _ o (dm eN) aU,r)
 .refine(J.bC b u e).pd (λc v aC q=>k c v ?_ q) (λ_ q=>q) λ_ _ q=>q
  rcases aC with z|z
  .rw [z];exact BA b u e
  .exact BA c _ z
def Inv.tok(J:Inv X ae σ H s)(t:Nat):Inv X ae σ H {s with toks:=t}:=J.un (h':=s.heap) (t':=t) h8.refl J.bC
theorem Inv.kept(J:Inv X ae σ H s)(k:∀b u,s.heap.get? b\u->h'.get? b\u):Inv X ae σ H {s with heap:=h',toks:=t' }:=J.un (h8.kept k) (J.bC.kept k)
theorem Inv.laid(J:Inv X ae σ H s)(k:∀b u,s.heap.get? b\u->h'.get? b\u)(aq:↥s<=a)(new:gk X.prog X.w (upd H a o) h' a o) :
  Inv X ae σ (upd H a o) {s with heap:=h',toks:=t' }:=J.un (h8.laid k aq (J.bC.fresh aq)) (J.bC.laid k aq new)
theorem Inv.write{x e:Addr}{o:eH}{t':Nat}(J:Inv X ae σ H s)(k5:uA (H x))(he:e=x\/H e\(.own x))(k:∀b u,b≠e->s.heap.get? b\u->h'.get? b\u)(x5:∃u,h'.get? e\u)
  (new:gk X.prog X.w (upd H x o) h' x o):Inv X ae σ (upd H x o) {s with heap:=h',toks:=t' }:=J.un (h8.write k5 he k x5) (J.bC.write k5 he k x5 new)
def Inv.weak(J:Inv X ae σ H s)(aN:↑av=↑σ)(w:∀(i:Nat) v,av[i]?\(some v)->σ[i]?\(some v)):Inv X ae av H s:=
 (J.ok,J.os,J.bare,J.base,let⟨m,a5,y3⟩:=J.loc;(m,a5,λi x v au aE bI=>y3 i x v au (w i v aE) bI),J.cell,J.free,J.kG,J.pin,J.bC,aN.trans J.len)
def Inv.uz(J:Inv X ae σ H s)(h:∀p∈Zo,s.heap.get? p.1\p.2/\H p.1=none/\p.1≠X.env.locals/\p.1∉X.a6/\∀v,p.2.data≠.cell v):Inv X Zo σ H s:=
 (J.ok,J.os,J.bare,J.base,J.loc,J.cell,J.free,J.kG,λp aq=>(eQ.mp aq).elim (λz=>J.pin p (z9 _ z)) (h p),J.bC,J.len)
def UN{N:List Str}(bo:N.Nodup){i j:Nat}{x:Str}(a:N[i]?\x)(b:N[j]?\x):i=j:=by
 let(af,au):=b5.mp a;let(ak,aE):=b5.mp b;exact(wM bo).mp (au.trans aE.symm)
def wE {M:Model} {A:Around} {E:Value->Shared->Prop} {i:Nat} {x:Str} {v:V} {u:Value} {Q:Unit->Shared->Prop} (J:Inv X ae σ H s) (bo:X.N.Nodup) (ai:X.N[i]?\x) (ag:Loc X.env.scope x) (r:bX v u)
  (h:∀aj,Inv X ae (σ.set i (some v)) H aj->(∃a,yj a s.heap aj.heap/\(a=X.env.locals\/X.env.cells.lookup x\a))->Q ⟨⟩ aj) (hf:X.fn x=true\/X.env.scope.names.lookup x\.local:=by first|exact .inl rfl|exact .inr rfl|assumption):wpAny M A (storeName X.env x u) Q E s:=by
 let(m,a5,aN):=id J.loc;have aku:(X.env.scope.kind == .class||(X.env.scope.kind == .module&&X.env.locals != X.env.globals))=false:=by rw[J.ok.kind];rfl
 have Ul:i<↑σ:=by rw[J.len];exact(b5.mp ai).1
 have uk:=J.uk;have tracked:∀{a:Addr} {h':Heap},(∃o,s.heap.get? a\o/\H a=none)->yj a s.heap h'->fD X.prog X.w H h':=λ{a h'} aV az b cG e=>by
  let(_,_,X4):=aV;refine(J.bC b cG e).pd (λc eK aC q=>(az.2 c ?_).trans q) (λ_ q=>q) λ_ _ q=>q
  rintro rfl;rcases aC with rfl|aC
  .rw [X4]at e;cases e
  .rw [X4]at aC;cases aC
 rcases ag with aB|aB
 .refine wpAny_storeName_local aB a5 (λh' ZT az=>?_) aku;let(ahv,_,_,amT,_):=id a5;refine h _ (J.ok,J.os,J.bare,(λb o e n aa ag=>?_,λb o e n aa ag=>?_,J.base.free,λb o e ag=>?_,J.base.rN,J.base.ot,J.base.qW),(_,ZT,λj y hc au aE bI=>?_),λy c e=>?_,J.free,J.kG,λp aq=>?_,tracked (ahv,amT,J.free) az,by simpa using J.len) (_,az,.inl rfl)
  .exact (az.2 b (gN (ja (eD e) J.ok.above))).trans (J.base.keep b o e n aa ag)
  .let(cX,au):=J.base.slot b o e n aa ag;exact(cX,(az.2 b (gN (ja (eD e) J.ok.above))).trans au)
  .let(eF,au):=J.base.there b o e ag;exact(eF,(az.2 b (gN (ja (eD e) J.ok.above))).trans au)
  .by_cases aI:j=i
   .subst aI;rw[ai]at au;cases au;rw[Ux Ul]at aE;cases aE;exact(u,r,.inl (aB,by simp))
   .rw[RA (dm aI)]at aE;let(vf,eU,q):=aN j y hc au aE bI;refine(vf,eU,?_);rcases q with⟨k,e⟩|⟨k,c,e,z⟩
    .refine .inl (k,?_);have:y≠x:=λe=>aI (UN bo au (e ▸ ai))
     simp[this,e]
    .exact .inr (k,c,e,z.sameBut az (uk y c e))
  .let(eK,z):=J.cell y c e;exact(eK,z.sameBut az (uk y c e))
  .let(e,n,ne,iw,d):=J.pin p aq;exact((az.2 p.1 ne).trans e,n,ne,iw,d)
 .have Kn:X.fn x=true:=by
   rcases hf with z|z
   .exact z
   .rw [z]at aB;cases aB
  let(c,aC):=J.ok.has x (.inl aB);let(eK,z):=J.cell x c aC;refine wpAny_storeName_cell J.ok.kind aB aC z (λh' xJ az=>?_);let(pN,oz,ac_):=id z;refine h {s with heap:=h' } (J.ok,J.os,J.bare,(λb o e n aa ag=>?_,λb o e n aa ag=>?_,J.base.free,λb o e ag=>?_,J.base.rN,J.base.ot,J.base.qW),(m,a5.sameBut az (dm (uk x c aC)),λj y hc au aE bI=>?_),λy c' e=>?_,J.free,J.kG,λp aq=>?_,tracked (pN,oz,J.kG x c aC) az,by simpa using J.len) (c,az,.inr aC)
  .exact (az.2 b (gN (ja (eD e) (J.ok.yq x c Kn aC)))).trans (J.base.keep b o e n aa ag)
  .let(cX,au):=J.base.slot b o e n aa ag;exact(cX,(az.2 b (gN (ja (eD e) (J.ok.yq x c Kn aC)))).trans au)
  .let(eF,au):=J.base.there b o e ag;exact(eF,(az.2 b (gN (ja (eD e) (J.ok.yq x c Kn aC)))).trans au)
  .by_cases aI:j=i
   .subst aI;rw[ai]at au;cases au;rw[Ux Ul]at aE;cases aE;exact(u,r,.inr (.inl aB,c,aC,xJ))
   .rw[RA (dm aI)]at aE;let(vf,eU,q):=aN j y hc au aE bI;refine(vf,eU,?_);rcases q with q|⟨k,c',e,hB⟩
    .exact .inl q
    .refine .inr (k,c',e,hB.sameBut az ?_);rintro rfl;exact aI (UN bo au (J.ok.inj _ _ _ e aC ▸ ai))
  .by_cases wJ:c'=c
   .subst wJ;exact(_,xJ)
   .let(ej,eE):=J.cell y c' e;exact(ej,eE.sameBut az wJ)
  .let(e,n,ne,iw,d):=J.pin p aq;refine((az.2 p.1 ?_).trans e,n,ne,iw,d);intro q;rw[q,oz]at e;have dB:pN=p.2:=er e;exact d eK (by rw[<- dB];exact ac_)
def Ku{A:Around}{x:Str}(J:Inv X ae σ H s)(bo:X.N.Nodup)(ai:X.N[i]?\x)(ag:Loc X.env.scope x)(r:bX v u)
  (h:∀aj,Inv X ae (σ.set i (some v)) H aj->Q ⟨⟩ aj) (hf:X.fn x=true\/X.env.scope.names.lookup x\.local:=by first|exact .inl rfl|exact .inr rfl|assumption):wpAny M A (storeName X.env x u) Q E s:=
 wE J bo ai ag r (λaj i' _=>h aj i') hf
def Inv.an_(J:Inv X ae σ H s)(aU:aj.os=s.os)(u:h8 (oE X.stack) ch H I s.heap aj.heap)(bC:fD X.prog X.w I aj.heap)(a7:AllBare aj.gens)
  (hK:∀b∈ch,(b∈X.ex\/↥X.gE<=b)/\b≠X.env.locals/\(∀x c,X.env.cells.lookup x\c->c≠b)/\∀p∈X.dZ++ae,p.1≠b):Inv X ae σ I aj:=by
 let(h',g',d',t',eF):=aj;have e:eF=s.os:=aU;subst e;exact J.call (g':=g') (t':=t') (d':=d') u bC a7 hK
end
abbrev f7:=Value->Option Addr->aw->Prop
abbrev St:=List (Option V)
abbrev c6:=V->aw->Prop
abbrev TE:=St->aw->c6->Prop
abbrev TT:=St->aw->(Bool->aw->Prop)->Prop
abbrev fO:=St->aw->(List V->aw->Prop)->Prop
structure iK where
 cP:St->aw->Prop
 m':c6
 c_:St->aw->Prop:=λ_ _=>False
 gf:St->aw->Prop:=λ_ _=>False
abbrev eI:=iK->St->aw->Prop
def gT(X:bg)(ae:List (Addr×Obj))(σ:St)(Q:c6)(u:Value)(aj:Shared):Prop:=∃v I,Inv X ae σ I aj/\bX v u/\Q v I
def et{X:bg}{ae:List (Addr×Obj)}{σ:St}{Q:c6}{u:Value}{aj:Shared}{C:Prop}(h:gT X ae σ Q u aj)(k:∀v I,Inv X ae σ I aj->bX v u->Q v I->C):C:=by
 let(v,I,J,r,q):=h;exact k v I J r q
def GL(X:bg)(ae:List (Addr×Obj))(σ:St)(Q:Bool->aw->Prop)(b:Bool)(aj:Shared):Prop:=∃I,Inv X ae σ I aj/\Q b I
def ahB(X:bg)(ae:List (Addr×Obj))(σ:St)(Q:List V->aw->Prop)(us:List Value)(aj:Shared):Prop:=∃vs I,Inv X ae σ I aj/\cN vs us/\Q vs I
def tU(X:bg)(ae:List (Addr×Obj))(D:iK)(f:Flow)(aj:Shared):Prop:=
 match f with
 | .next=>∃av I,Inv X ae av I aj/\D.cP av I
 | .brk=>∃av I,Inv X ae av I aj/\D.c_ av I
 | .cont=>∃av I,Inv X ae av I aj/\D.gf av I
 | .ret u=>∃v av I,Inv X ae av I aj/\bX v u/\D.m' v I
def bw(X:bg)(e:Expr)(t:TE):Prop:=
 ∀(ae:List (Addr×Obj)) (s:Shared) (σ:St) (H:aw) (Q:c6),Inv X ae σ H s->t σ H Q->wpAny (model X.prog X.w) X.A (eval e X.env) (gT X ae σ Q) X.d_ s
def iz(X:bg)(e:Expr)(t:TT):Prop:=
 ∀(ae:List (Addr×Obj)) (s:Shared) (σ:St) (H:aw) (Q:Bool->aw->Prop),Inv X ae σ H s->t σ H Q->wpAny (model X.prog X.w) X.A (isTrue e X.env (eval e X.env)) (GL X ae σ Q) X.d_ s
def gs(X:bg)(e:Expr)(t:TT):Prop:=
 ∀(whole:Sem Value) (ae:List (Addr×Obj)) (s:Shared) (σ:St) (H:aw) (Q:Bool->aw->Prop),Inv X ae σ H s->t σ H Q->wpAny (model X.prog X.w) X.A (isTrue e X.env whole) (GL X ae σ Q) X.d_ s
def gs.pt{e:Expr}{t:TT}(h:gs X e t):iz X e t:=h _
def g6(X:bg)(aW:List Expr)(t:fO):Prop:=
 ∀(pos:Pos) (ae:List (Addr×Obj)) (s:Shared) (σ:St) (H:aw) (Q:List V->aw->Prop),Inv X ae σ H s->t σ H Q->wpAny (model X.prog X.w) X.A (spliced (backTo pos (starEach aW X.env))) (ahB X ae σ Q) X.d_ s
def gO(X:bg)(st:Stmt)(t:eI):Prop:=
 ∀(ae:List (Addr×Obj)) (s:Shared) (σ:St) (H:aw) (D:iK),Inv X ae σ H s->t D σ H->wpAny (model X.prog X.w) X.A (exec st X.env) (tU X ae D) X.d_ s
def iS(X:bg)(st:List Stmt)(t:eI):Prop:=
 ∀(ae:List (Addr×Obj)) (s:Shared) (σ:St) (H:aw) (D:iK),Inv X ae σ H s->t D σ H->wpAny (model X.prog X.w) X.A (execs st X.env) (tU X ae D) X.d_ s
def bK{t:Sem α}{A:Around}(h:wpAny M A t Q E s)(aX:∀a s,Q a s->Q' a s):wpAny M A t Q' E s:=wpAny_mono h aX λ_ _ x=>x
section
variable{X:bg}
def uL(H:aw)(Q:c6):Option (Option V)->Prop
 |some (some v)=>Q v H
 |_=>False
def Tj(H:aw)(Q:c6)(v:V):uL H Q (some (some v))=Q v H:=rfl
theorem uL.out:∀{o:Option (Option V)},uL H Q o->∃v,o\(some v)/\Q v H
 |some (some v),h=>(v,rfl,h)
 |some none,h=>h.elim
 |none,h=>h.elim
def ar1(H:aw)(Q:c6)(o:Option (Option V)):uL H Q o=∃v,o\(some v)/\Q v H:=propext (uL.out,λ⟨_,e,h⟩=>e ▸ h)
def hh(x:V)(k:Int->Prop):Prop:=match x with
 | .int i=>k i
 |_=>False
def Vp(i:Int)(k:Int->Prop):hh (.int i) k=k i:=rfl
theorem hh.out{x:V}{k:Int->Prop}(h:hh x k):∃i,x=.int i/\k i:=by
 cases x with
 |int i=>exact(i,rfl,h)
 |_=>exact h.elim
def ahl(x:V)(k:Int->Prop):hh x k=∃i,x=.int i/\k i:=propext (hh.out,λ⟨_,e,h⟩=>e ▸ h)
def lJ(x:V)(k:Bool->Prop):Prop:=match x with
 | .bG i=>k i
 |_=>False
def P4(i:Bool)(k:Bool->Prop):lJ (.bG i) k=k i:=rfl
theorem lJ.out{x:V}{k:Bool->Prop}(h:lJ x k):∃i,x=.bG i/\k i:=by
 cases x with
 |bG i=>exact(i,rfl,h)
 |_=>exact h.elim
def abG(x:V)(k:Bool->Prop):lJ x k=∃i,x=.bG i/\k i:=propext (lJ.out,λ⟨_,e,h⟩=>e ▸ h)
def fQ(x:V)(k:Addr->Prop):Prop:=match x with
 | .ref i=>k i
 |_=>False
def QV(i:Addr)(k:Addr->Prop):fQ ⇑i k=k i:=rfl
theorem fQ.out{x:V}{k:Addr->Prop}(h:fQ x k):∃i,x=⇑i/\k i:=by
 cases x with
 |ref i=>exact(i,rfl,h)
 |_=>exact h.elim
def ady(x:V)(k:Addr->Prop):fQ x k=∃i,x=⇑i/\k i:=propext (fQ.out,λ⟨_,e,h⟩=>e ▸ h)
def ov(xs:List V)(k:V->Prop):Prop:=match xs with
 |[y]=>k y
 |_=>False
def Rv(y:V)(k:V->Prop):ov [y] k=k y:=rfl
theorem ov.out:∀{xs:List V} {k:V->Prop},ov xs k->∃y,xs=[y]/\k y
 |[y],_,h=>(y,rfl,h)
 |[],_,h=>h.elim
 |_::_::_,_,h=>h.elim
def FS(xs:List V)(k:V->Prop):ov xs k=∃y,xs=[y]/\k y:=propext (ov.out,λ⟨_,e,h⟩=>e ▸ h)
def Ck(i:Nat):TE:=λσ H Q=>uL H Q σ[i]?
def v'(v:V):TE:=λ_ H Q=>Q v H
def af3{x:Str}(bo:X.N[i]?\x)(aK:Bl X.env.scope x)(hd:autoParam ((x==("__debug__":Str))=false) A'd)(kq:autoParam ((x==("__classdict__":Str))=false) A'd):bw X (.Name x pos) (Ck i):=by
 intro ae s σ H Q J h;let(v,e,h):=uL.out h;let(m,a5,aN):=J.loc;let(u,r,l):=aN i x v bo e aK;have fin:gT X ae σ Q u s:=(v,H,J,r,h);rcases l with⟨aB,hm⟩|⟨aB,c,aC,xy⟩
 .exact wpAny_Name (wpAny_loadName_local J.ok.kind aB a5 hm fin) hd
 .rcases aB with aB|aB
  .exact wpAny_Name (wpAny_loadName_cell J.ok.kind aB aC xy fin) hd
  .exact wpAny_Name (wpAny_loadName_free J.ok.kind aB aC xy fin kq) hd
def aR{i j pos}:bw X (.Constant (.int i) j pos) (v' (.int i)):=λ_ _ _ H _ J h=>wpAny_Constant_int (.int i,H,J.tok _,(_,rfl),h)
def nF{b j pos}:bw X (.Constant (.bool b) j pos) (v' (.bG b)):=λ_ _ _ H _ J h=>Constant_bool (.bG b,H,J,rfl,h)
def uD{j pos}:bw X (.Constant .none j pos) (v' .cF):=λ_ _ _ H _ J h=>Constant_none (.cF,H,J,rfl,h)
def dW{x j pos}:bw X (.Constant (.str x) j pos) (v' (.str x)):=λ_ _ _ H _ J h=>Calls.Constant_str (.str x,H,J.tok _,(_,rfl),h)
def l6(X:bg)(x:Str):Prop:=X.env.kindOf x\.globalImplicit
def EO{x:Str}(J:Inv X ae σ H s)(a7:l6 X x)(hm:X.mg x\u)(h:Q u s)
  (hd:autoParam ((x==("__debug__":Str))=false) A'd):wpAny (model X.prog X.w) X.A (eval (.Name x pos) X.env) Q E s:=
 aa4 J.ok.kind a7 (Calls.loadGlobal_global (by rw[J.ok.glob];exact J.mod.glob.keeps J.c_) hm h) hd
def sM{x:Str}(J:Inv X ae σ H s)(a7:l6 X x)(hm:X.mg x=none)(aK:bootBuiltins x\u)(h:Q u s)
  (a5:autoParam (x≠"__name__") A'd) (hd:autoParam ((x==("__debug__":Str))=false) A'd):wpAny (model X.prog X.w) X.A (eval (.Name x pos) X.env) Q E s:=by
 let(oP,af,ak):=J.mod.blt;exact aa4 J.ok.kind a7 (Calls.loadGlobal_builtin (by rw[J.ok.glob];exact J.mod.glob.keeps J.c_) hm (by rw[J.ok.blt];exact af.keeps J.c_) ((ak x a5).trans aK) h) hd
def nj{x:Str}(a7:l6 X x)(hm:X.mg x\u)(r:bX v u)(hd:autoParam ((x==("__debug__":Str))=false) A'd):bw X (.Name x pos) (v' v):=
 λ_ _ _ H _ J h=>EO J a7 hm (v,H,J,r,h) hd
variable{a b:Expr}{ba bS:TE}{pos:Pos}
def TG(X:bg)(op:CmpOp)(a b:Expr)(t:TE):Prop:=
 ∀(ae:List (Addr×Obj)) (s:Shared) (σ:St) (H:aw) (Q:c6),Inv X ae σ H s->t σ H Q ->
  wpAny (model X.prog X.w) X.A (eval a X.env) (λv dQ=>wpAny (model X.prog X.w) X.A (eval b X.env) (λu eh=>wpAny (model X.prog X.w) X.A (compareOp op v u) (gT X ae σ Q) X.d_ eh) X.d_ dQ) X.d_ s
def asl(b:Expr)(h:op≠.In)(ak:op≠.NotIn):behindInMarks op b=false:=by
 have au:(op==CmpOp.In)=false:=by cases op <;> first|rfl|exact absurd rfl h
 have aE:(op==an5)=false:=by cases op <;> first|rfl|exact absurd rfl ak
 cases b <;> first|rfl|(show(_&&(_||_)&&_)=false;rw[au,aE];simp)
def DY(t:TE):TT:=λσ H Q=>t σ H λx H1=>lJ x λc=>Q c H1
def Ww{t:TE}(h:TG X op a b t)(af:behindInMarks op b=false:=by first|exact asl _ ∅ ∅|rfl):iz X (.Compare a [op] [b] pos) (DY t):=by
 intro ae s σ H Q J hw;refine wpAny_isTrue_Compare1 (bK (h ae s σ H _ J hw) λv s1 af=>bK af λu s2 ak=>bK ak λc s3 cw=>et cw λx H1 aZ b3 bU=>?_) af;let(d,rfl,q):=lJ.out bU;cases b3;exact wpAny_truthy_bool (H1,aZ,q)
def rJ{e:Expr}{t:TE}(h:bw X e t)(he:autoParam (∀whole,isTrue e X.env whole=(do let v <- whole;standAt e.pos;holding [v] (truthy v))) A'i):iz X e (DY t):=by
 intro ae s σ H Q J hw;refine isTrue_plain (bK (h ae s σ H _ J hw) λv s1 cw=>et cw λx H1 aZ b3 bU=>?_) (he _);let(d,rfl,q):=lJ.out bU;cases b3;exact wpAny_truthy_bool (H1,aZ,q)
variable{ou BW:TT}{lO:List Expr}
def JI(t u:TT):TT:=λσ H Q=>t σ H λc H1=>if c=true then u σ H1 Q else Q false H1
def O'(t u:TT):TT:=λσ H Q=>t σ H λc H1=>if c=true then Q true H1 else u σ H1 Q
def OH(t:TT):TT:=λσ H Q=>t σ H λc H1=>Q (!c) H1
theorem sd(aV:iz X a ou):gs X (.BoolOp .And [a] pos) ou:=by
 intro A_ ae s σ H Q J h;refine isTrue_and (bK (aV ae s σ H Q J h) λc s1 e=>?_);cases c with
 |true=>exact isTrue_and_nil e
 |false=>exact e
theorem yh(aV:iz X a ou):gs X (.BoolOp .Or [a] pos) ou:=by
 intro A_ ae s σ H Q J h;refine isTrue_or (bK (aV ae s σ H Q J h) λc s1 e=>?_);cases c with
 |false=>exact isTrue_or_nil e
 |true=>exact e
theorem rB(aV:iz X a ou)(aa:gs X (.BoolOp .And (b::lO) pos) BW):gs X (.BoolOp .And (a::b::lO) pos) (JI ou BW):=by
 intro A_ ae s σ H Q J h;refine isTrue_and (bK (aV ae s σ H _ J h) λc s1 c7=>?_);let(H1,aZ,bU):=c7;cases c with
 |true=>exact aa A_ ae s1 σ H1 Q aZ bU
 |false=>exact(H1,aZ,bU)
theorem ux(aV:iz X a ou)(aa:gs X (.BoolOp .Or (b::lO) pos) BW):gs X (.BoolOp .Or (a::b::lO) pos) (O' ou BW):=by
 intro A_ ae s σ H Q J h;refine isTrue_or (bK (aV ae s σ H _ J h) λc s1 c7=>?_);let(H1,aZ,bU):=c7;cases c with
 |true=>exact(H1,aZ,bU)
 |false=>exact aa A_ ae s1 σ H1 Q aZ bU
def BB(aV:iz X a ou):iz X (.UnaryOp .Not a pos) (OH ou):=by
 intro ae s σ H Q J h;exact isTrue_not (aV ae s σ H (λc H1=>Q (!c) H1) J h)
def Nj(ba bS:TE):TE:=λσ H Q=>ba σ H λx H1=>lJ x λc=>if c=true then bS σ H1 Q else Q (.bG false) H1
def Mv(ba bS:TE):TE:=λσ H Q=>ba σ H λx H1=>lJ x λc=>if c=true then Q (.bG true) H1 else bS σ H1 Q
def La(ba:TE):TE:=λσ H Q=>ba σ H λx H1=>lJ x λc=>Q (.bG (!c)) H1
def wK{op}{t:TE}(h:bw X a t):bw X (.BoolOp op [a] pos) t:=λae s σ H Q J hw=>BoolOp_one (h ae s σ H Q J hw)
theorem zN(aV:bw X a ba)(aa:bw X (.BoolOp .And (b::lO) pos) bS):bw X (.BoolOp .And (a::b::lO) pos) (Nj ba bS):=by
 intro ae s σ H Q J h;refine BoolOp_and (bK (aV ae s σ H _ J h) λv s1 cw=>et cw λx H1 aZ b3 bU=>?_);let(c,rfl,hT):=lJ.out bU;cases b3;refine wpAny_truthy_bool ?_;cases c with
 |true=>exact aa ae s1 σ H1 Q aZ hT
 |false=>exact(.bG false,H1,aZ,rfl,hT)
theorem Q0(aV:bw X a ba)(aa:bw X (.BoolOp .Or (b::lO) pos) bS):bw X (.BoolOp .Or (a::b::lO) pos) (Mv ba bS):=by
 intro ae s σ H Q J h;refine BoolOp_or (bK (aV ae s σ H _ J h) λv s1 cw=>et cw λx H1 aZ b3 bU=>?_);let(c,rfl,hT):=lJ.out bU;cases b3;refine wpAny_truthy_bool ?_;cases c with
 |false=>exact aa ae s1 σ H1 Q aZ hT
 |true=>exact(.bG true,H1,aZ,rfl,hT)
def U1(aV:bw X a ba):bw X (.UnaryOp .Not a pos) (La ba):=by
 intro ae s σ H Q J h;refine UnaryOp_ (bK (aV ae s σ H _ J h) λv s1 cw=>et cw λx H1 aZ b3 bU=>?_);let(c,rfl,hT):=lJ.out bU;cases b3;exact not_of (wpAny_truthy_bool (.bG (!c),H1,aZ,rfl,hT))
def Ow(t:TT)(ba bS:TE):TE:=λσ H Q=>t σ H λc H1=>if c=true then ba σ H1 Q else bS σ H1 Q
theorem vM(aC:iz X c ou)(aV:bw X a ba)(aa:bw X b bS):bw X (.IfExp c a b pos) (Ow ou ba bS):=by
 intro ae s σ H Q J h;refine wpAny_IfExp (bK (aC ae s σ H _ J h) λd s1 c7=>?_);let(H1,aZ,bU):=c7;cases d with
 |true=>exact aV ae s1 σ H1 Q aZ bU
 |false=>exact aa ae s1 σ H1 Q aZ bU
end
def ay(K:bq)(H:aw)(a:Addr)(xs:List V):Prop:=
 m6 H a (.lst xs) \/
  ∃(o:Obj) (a3:Array Value) (n:Nat),K.lookup a\o/\o.cls=.type "list"/\o.dict=none/\o.data=.seq a3 n/\a3.size<=sizeLine/\cN xs a3.toList
def d4(K:bq)(H:aw)(a:Addr)(xs:List V):Prop:=
 m6 H a (.tup xs) \/
  ∃(o:Obj) (a3:Array Value) (n:Nat),K.lookup a\o/\o.cls=.type "tuple"/\o.data=.seq a3 n/\a3.size<=sizeLine/\cN xs a3.toList
noncomputable def ajK:Value->Option V
 | .none=>some .cF
 | .bool b=>some (.bG b)
 | .int i _=>some (.int i)
 | .str x _=>some (.str x)
 | .bytes b _=>some (.nh b)
 | .float b _=>some (.yk b)
 | .ref a=>some (.ref a)
 | .type n=>some (.ty n)
 |_=>none
theorem bX.abs{x:V}(r:bX x u):ajK u\x:=by
 cases x with
 |cF=>cases r;rfl
 |bG _=>cases r;rfl
 |int _=>let(t,rfl):=r;rfl
 |str _=>let(t,rfl):=r;rfl
 |nh _=>let(t,rfl):=r;rfl
 |yk _=>let(t,rfl):=r;rfl
 |ref _=>cases r;rfl
 |ty _=>cases r;rfl
def bX.inj{x y:V}(r:bX x u)(q:bX y u):x=y:=er (r.abs.symm.trans q.abs)
theorem cN.inj:∀{xs ys:List V} {us:List Value},cN xs us->cN ys us->xs=ys
 |_,_,_,.nil,.nil=>rfl
 |_,_,_,.cons r t,.cons eU t'=>by rw[r.inj eU,cN.inj t t']
section
variable{X:bg}{ae:List (Addr×Obj)}{σ:St}{H:aw}{s:Shared}{a:Addr}{xs ys:List V}
def ay.of{K:bq}(h:H a\(.lst xs)):ay K H a xs:=.inl (.inl h)
def d4.of{K:bq}(h:H a\(.tup xs)):d4 K H a xs:=.inl (.inl h)
def Inv.list(J:Inv X ae σ H s)(h:ay X.K H a xs):∃a3:List Value,cN xs a3/\PlainL s.heap a a3.toArray/\↑xs<=sizeLine:=by
 rcases h with h|⟨o,a3,n,aB,aC,hd,az,aO,r⟩
 .let(z,a3,n,r,e):=h.ok J.bC;exact(a3,r,(_,n,e,rfl,rfl,rfl),z)
 .refine (a3.toList,r,(o,n,J.kj a o aB,aC,hd,by simpa using az),?_);have e:=↑r;simp only[Hc]at e;omega
def Inv.tuple(J:Inv X ae σ H s)(h:d4 X.K H a xs):∃a3:List Value,cN xs a3/\IsTup s.heap a a3.toArray/\↑xs<=sizeLine:=by
 rcases h with h|⟨o,a3,n,aB,aC,az,aO,r⟩
 .let(z,a3,r,p):=h.ok J.bC;exact(a3,r,p,z.1)
 .refine (a3.toList,r,(o,J.kj a o aB,aC,n,by simpa using az),?_);have e:=↑r;simp only[Hc]at e;omega
def Inv.C6(J:Inv X ae σ H s)(h:ay X.K H a xs)(h':ay X.K H a ys):xs=ys:=by
 let(a3,r,(o,n,e,_,_,d),_):=J.list h;let(its',eU,(eF,dX,bF,_,_,d'),_):=J.list h';rw[e]at bF;cases bF;rw[d]at d';injection d' with ea _;have:a3=its':=by simpa using congrArg aho ea
 subst this;exact r.inj eU
def Inv.anu(J:Inv X ae σ H s)(h:d4 X.K H a xs)(h':d4 X.K H a ys):xs=ys:=by
 let(a3,r,(o,e,_,n,d),_):=J.tuple h;let(its',eU,(eF,bF,_,dX,d'),_):=J.tuple h';rw[e]at bF;cases bF;rw[d]at d';injection d' with ea _;have:a3=its':=by simpa using congrArg aho ea
 subst this;exact r.inj eU
end
noncomputable abbrev bg.mN(X:bg)(E:Value->Shared->Prop):bg:={X with d_:=E}
noncomputable abbrev bg.u_(X:bg):bg:=X.mN λ_ _=>False
theorem bg.Ok.mN{X:bg}(ok:X.Ok)(E:Value->Shared->Prop):(X.mN E).Ok:=
 (ok.mod,ok.kind,ok.glob,ok.blt,ok.above,ok.inj,ok.has,ok.yq,ok.hd,ok.frames,ok.zo,ok.Jq,ok.bs,ok.oC,ok.xi,ok.w3,ok.n',ok.tA)
def bg.Ok.tF{X:bg}{E:Value->Shared->Prop}(ok:(X.mN E).Ok):X.Ok:=
 (ok.mod,ok.kind,ok.glob,ok.blt,ok.above,ok.inj,ok.has,ok.yq,ok.hd,ok.frames,ok.zo,ok.Jq,ok.bs,ok.oC,ok.xi,ok.w3,ok.n',ok.tA)
section
variable{X:bg}{ae:List (Addr×Obj)}{σ:St}{H:aw}{s:Shared}{E:Value->Shared->Prop}
theorem Inv.mN(J:Inv X ae σ H s)(E:Value->Shared->Prop):Inv (X.mN E) ae σ H s:=(J.ok.mN E,J.os,J.bare,J.base,J.loc,J.cell,J.free,J.kG,J.pin,J.bC,J.len)
theorem Inv.tF(J:Inv (X.mN E) ae σ H s):Inv X ae σ H s:=(J.ok.tF,J.os,J.bare,J.base,J.loc,J.cell,J.free,J.kG,J.pin,J.bC,J.len)
theorem tU.tF(h:tU (X.mN E) ae D f aj):tU X ae D f aj:=by
 cases f with
 |next=>let(av,I,J,q):=h;exact(av,I,J.tF,q)
 |brk=>let(av,I,J,q):=h;exact(av,I,J.tF,q)
 |cont=>let(av,I,J,q):=h;exact(av,I,J.tF,q)
 |ret u=>let(v,av,I,J,r,q):=h;exact(v,av,I,J.tF,r,q)
theorem iS.u_{st:List Stmt}{t:eI}(h:iS X.u_ st t):iS X st t:=λae s σ H D J hw=>
 wpAny_mono (h ae s σ H D (J.mN _) hw) (λ_ _ q=>q.tF) λ_ _ z=>lE z
end
section
variable{X:bg}{st:Stmt}{lO:List Stmt}{t u:eI}{e:Expr}{b2:TE}{pos:Pos}
def hI:eI:=λD σ H=>D.cP σ H
noncomputable def YB:Nat:=0
noncomputable def AE:Nat:=YB
noncomputable def CP:Nat:=AE
noncomputable def C1:Nat:=CP
noncomputable def alw:Nat:=C1
noncomputable def ak5:Nat:=alw
noncomputable def afq:Nat:=ak5
noncomputable def anZ:Nat:=afq
noncomputable def aiD:Nat:=anZ
noncomputable def aeF:Nat:=aiD
noncomputable def ad3:Nat:=aeF
noncomputable def adp:Nat:=ad3
noncomputable def ahN:Nat:=adp
def Pf(t u:eI):eI:=λD σ H=>(λ_:Nat=>t {D with cP:=u D} σ H) ahN
def eA:iS X [] hI:=λ_ _ σ H _ J h=>wpAny_execs_nil (σ,H,J,h)
theorem aP(af:gO X st t)(ak:iS X lO u):iS X (st::lO) (Pf t u):=by
 intro ae s σ H D J h;refine wpAny_execs_cons (bK (af ae s σ H {D with cP:=u D} J h) λf s1 q=>?_);cases f with
 |next=>
  let(av,I,i',q):=q;exact ak ae s1 av I D i' q
 |ret v=>exact q
 |brk=>exact q
 |cont=>exact q
theorem aY(af:gO X st t):iS X [st] t:=by
 intro ae s σ H D J h;refine wpAny_execs_cons (bK (af ae s σ H D J h) λf s1 q=>?_);cases f with
 |next=>exact wpAny_execs_nil q
 |ret v=>exact q
 |brk=>exact q
 |cont=>exact q
def Inv.quiet(J:Inv X ae σ H s):interactive X.env=false:=by simp[interactive,J.ok.kind]
def LX(b2:TE):eI:=λD σ H=>b2 σ H λ_ H1=>D.cP σ H1
def d3(he:bw X e b2)(az:autoParam (swapsWith e none pos.line X.env=pure false) A'r):gO X (.Expr e pos) (LX b2):=by
 intro ae s σ H D J h;exact wpAny_Expr_any (bK (he ae s σ H _ J h) λv s1 cw=>et cw λx H1 aZ b3 bU=>(σ,H1,aZ,bU)) J.quiet az
def Eo(b2:TE):eI:=λD σ H=>b2 σ H D.m'
def cp(he:bw X e b2):gO X (.Return (some e) pos) (Eo b2):=by
 intro ae s σ H D J h;exact wpAny_Return_some (bK (he ae s σ H _ J h) λv s1 cw=>et cw λx H1 aZ b3 bU=>(x,σ,H1,aZ,b3,bU))
def wS:eI:=λD _ H=>D.m' .cF H
def aqx:gO X (.Return none pos) wS:=λ_ _ σ H _ J h=>wpAny_Return_none (.cF,σ,H,J,rfl,h)
def Iq(c:TT)(t u:eI):eI:=λD σ H=>c σ H λb H1=>if b=true then t D σ H1 else u D σ H1
theorem d7(aC:iz X c dJ)(aV:iS X a t)(aa:iS X b u):gO X (.If c a b pos) (Iq dJ t u):=by
 intro ae s σ H D J h;refine wpAny_If (bK (aC ae s σ H _ J h) λd s1 c7=>?_);let(H1,aZ,bU):=c7;cases d with
 |true=>exact aV ae s1 σ H1 D aZ bU
 |false=>exact aa ae s1 σ H1 D aZ bU
def OL:eI:=λ_ _ _=>False
def qG:gO X st OL:=λ_ _ _ _ _ _ h=>h.elim
end
abbrev g9:=V->St->aw->(St->aw->Prop)->Prop
abbrev vQ:=List V->St->aw->(St->aw->Prop)->Prop
def ql(X:bg)(Az:Expr)(t:g9):Prop:=
 ∀(ae:List (Addr×Obj)) (s:Shared) (σ:St) (H:aw) (v:V) (u:Value) (Q:St->aw->Prop),Inv X ae σ H s->bX v u->t v σ H Q ->
  wpAny (model X.prog X.w) X.A (assign Az X.env u) (λ_ aj=>∃av I,Inv X ae av I aj/\Q av I) X.d_ s
def Ah(X:bg)(ts:List Expr)(t:vQ):Prop:=
 ∀(ae:List (Addr×Obj)) (s:Shared) (σ:St) (H:aw) (vs:List V) (us:List Value) (Q:St->aw->Prop),Inv X ae σ H s->cN vs us->t vs σ H Q ->
  wpAny (model X.prog X.w) X.A (assignInOrder ((assignEach ts X.env).map (·.2)) us) (λ_ aj=>∃av I,Inv X ae av I aj/\Q av I) X.d_ s
abbrev Hi:=V->V->V->aw->(aw->Prop)->Prop
def Qv(X:bg)(t:Hi):Prop:=
 ∀(ae:List (Addr×Obj)) (s:Shared) (σ:St) (H:aw) (o i v:V) (eC hb u:Value) (Q:aw->Prop),Inv X ae σ H s->bX o eC->bX i hb->bX v u->t o i v H Q ->
  wpAny (model X.prog X.w) X.A (setItem eC hb u) (λ_ aj=>∃I,Inv X ae σ I aj/\Q I) X.d_ s
abbrev Pb:=V->V->aw->c6->Prop
def Q4(X:bg)(op:Operator)(t:Pb):Prop:=
 ∀(ae:List (Addr×Obj)) (s:Shared) (σ:St) (H:aw) (x y:V) (v u:Value) (Q:c6),Inv X ae σ H s->bX x v->bX y u->t x y H Q ->
  wpAny (model X.prog X.w) X.A (inplaceOp op v u) (gT X ae σ Q) X.d_ s
section
variable{X:bg}{pos:Pos}
def fH(i:Nat):g9:=λv σ H Q=>Q (σ.set i (some v)) H
def FM{x:Str}(bo:X.N.Nodup)(ai:X.N[i]?\x)(ag:Loc X.env.scope x)(hf:X.fn x=true\/X.env.scope.names.lookup x\.local:=by first|exact .inl rfl|exact .inr rfl|assumption):ql X (.Name x pos) (fH i):=by
 intro ae s σ H v u Q J r h;exact wpAny_assign_Name (Ku J bo ai ag r (λaj i'=>(_,H,i',h)) hf)
def y6:vQ:=λvs σ H Q=>vs=[]/\Q σ H
def u2(t:g9)(u:vQ):vQ:=λvs σ H Q=>∃v r,vs=v::r/\t v σ H λav I=>u r av I Q
def lj:Ah X [] y6:=by
 intro ae s σ H vs us Q J r h;let(e,h):=h;subst e;cases r;exact assignInOrder_nil (σ,H,J,h)
theorem eT{e:Expr}{t:g9}(af:ql X e t)(ak:Ah X aW u)
  (az:autoParam ((assignEach (e::aW) X.env).map (·.2)=assign e X.env::(assignEach aW X.env).map (·.2)) A'r):Ah X (e::aW) (u2 t u):=by
 intro ae s σ H vs us Q J r h;let(v,au8,au,h):=h;subst au;cases r with
 |cons r k_=>
  rw[az];refine assignInOrder_cons (bK (af ae s σ H _ _ _ J r h) λ_ s1 c7=>?_);let(fo,H1,aZ,bU):=c7;exact ak ae s1 fo H1 _ _ Q aZ k_ bU
def wo(K:bq)(n:Nat)(t:vQ):g9:=λv σ H Q=>∃a xs,v=⇑a/\d4 K H a xs/\↑xs=n/\t xs σ H Q
def ao0{k:Nat}{t:vQ}(aC:X.calm=true)(h:Ah X aW t)
  (a5:autoParam (↑(assignEach aW X.env)=n) A'r) (fB:autoParam ((assignEach aW X.env).findIdx? (·.1)=none) A'r):ql X (.Tuple aW k pos) (wo X.K n t):=by
 intro ae s σ H v u Q J r hw;let(a,xs,au,aL,aN,hw):=hw;subst au;cases r;let(a3,cM,c9,aO):=J.tuple aL;refine assign_Tuple_tuple (J.ok.hd aC) c9 (by simp[a5,<- aN,cM.length]) fB λh' ag=>?_
 have aZ:Inv X ae σ H {s with heap:=h' }:=J.kept (t':=s.toks) λb o e=>ag b o (gN (eD e)) e
 exact h ae _ σ H xs _ Q aZ (by simpa using cM) hw
def Kt(to tn:TE)(t:Hi):g9:=λv σ H Q=>to σ H λo H1=>tn σ H1 λi ar=>t o i v ar λa'=>Q σ a'
def an3{to tn:TE}{t:Hi}(aU:bw X o to)(ai:bw X i tn)(az:Qv X t)
  (aV:∀v,assign (.Subscript o i pos) X.env v=(do
   let eC <- holding [v] (eval o X.env)
   let hb <- holding [v,eC] (eval i X.env)
   standAt pos
   holding [v,eC,hb] (setItem eC hb v)
   release [v,eC,hb] []):=by intro _;rfl):ql X (.Subscript o i pos) (Kt to tn t):=by
 intro ae s σ H v u Q J r h;rw[aV];refine wpAny_bind (wpAny_holding (bK (aU ae s σ H _ J h) λeC s1 cw=>et cw λx H1 aZ b3 bU=>?_));refine wpAny_bind (wpAny_holding (bK (ai ae s1 σ H1 _ aZ bU) λhb s2 cw=>et cw λy ar b0 fV dV=>?_));refine wpAny_bind (wpAny_standAt (wpAny_bind (wpAny_holding (bK (az ae s2 σ ar x y v eC hb u _ b0 b3 fV r dV) λ_ s3 c7=>?_))));let(a',eM,hj):=c7;exact wpAny_release (σ,a',eM,hj)
def xB(b2:TE)(g:g9):eI:=λD σ H=>b2 σ H λx H1=>g x σ H1 D.cP
def GB{dG e:Expr}(he:bw X e b2)(a7:ql X dG g)(az:autoParam (swapsWithSole [dG] e pos.line X.env=pure false) A'r)(hw:autoParam (swappedStores [dG] e X.env=pure none) A'r)
  (af:autoParam ((assignEach [dG] X.env).map (·.2)=[assign dG X.env]) A'r):gO X (.Assign [dG] e pos) (xB b2 g):=by
 intro ae s σ H D J h;refine wpAny_Assign_stores (bK (he ae s σ H _ J h) λv s1 cw=>et cw λx H1 aZ b3 bU=>?_) az hw;rw[af];exact bK (a7 ae s1 σ H1 x v _ aZ b3 bU) λ_ s2 q=>q
def pG{x:Str}{e:Expr}(bo:X.N.Nodup)(ai:X.N[i]?\x)(ag:Loc X.env.scope x)(he:bw X e b2)(az:autoParam (swapsWith e (some (.Name x pos')) pos.line X.env=pure false) A'r)(hf:X.fn x=true\/X.env.scope.names.lookup x\.local:=by first|exact .inl rfl|exact .inr rfl|assumption) :
  gO X (.Assign [.Name x pos'] e pos) (xB b2 (fH i)):=by
 intro ae s σ H D J h;refine wpAny_Assign_Name (bK (he ae s σ H _ J h) λv s1 cw=>et cw λy H1 aZ b3 bU=>?_) az;exact Ku aZ bo ai ag b3 (λs2 b0=>(_,H1,b0,bU)) hf
def Ja(i:Nat)(b2:TE)(tn:Pb):eI:=λD σ H=>∃x,σ[i]?\(some x)/\b2 σ H λy H1=>tn x y H1 λz ar=>D.cP (σ.set i (some z)) ar
def alN{x:Str}{e:Expr}(bo:X.N.Nodup)(ai:X.N[i]?\x)(ag:Loc X.env.scope x)(he:bw X e b2)(aU:Q4 X op tn)(hf:X.fn x=true\/X.env.scope.names.lookup x\.local:=by first|exact .inl rfl|exact .inr rfl|assumption) :
  gO X (.AugAssign (.Name x pos') op e pos) (Ja i b2 tn):=by
 intro ae s σ H D J h;let(v,au,h):=h;let(m,a5,aN):=J.loc;have apA:Bl X.env.scope x:=by rcases ag with k|k;exact .inl k;exact .inr (.inl k)
 let(u,r,l):=aN i x v ai au apA;refine wpAny_AugAssign_Name ?_;have go:wpAny (model X.prog X.w) X.A (eval e X.env) (λw eh=>wpAny (model X.prog X.w) X.A (inplaceOp op u w) (λr mL=>wpAny (model X.prog X.w) X.A (storeName X.env x r) (λ_=>tU X ae D .next) X.d_ mL) X.d_ eh) X.d_ s:=by
  refine bK (he ae s σ H _ J h) λw s1 cw=>et cw λy H1 aZ b3 bU=>?_
  refine bK (aU ae s1 σ H1 v y u w _ aZ r b3 bU) λz s2 cw=>et cw λauS ar b0 fV dV=>?_
  exact Ku b0 bo ai ag fV (λs3 eM=>(_,ar,eM,dV)) hf
 rcases l with⟨aB,hm⟩|⟨aB,c,aC,xy⟩
 .exact wpAny_loadName_local J.ok.kind aB a5 hm go
 .rcases aB with aB|aB
  .exact wpAny_loadName_cell J.ok.kind aB aC xy go
  .rcases ag with k|k
   .have:X.env.scope.names.lookup x\.free:=aB;rw[k]at this;cases this
   .have:X.env.scope.names.lookup x\.free:=aB;rw[k]at this;cases this
def U5(f:Int->Int->Int):Pb:=λx y H Q=>∃i j,x=.int i/\y=.int j/\Q (.int (f i j)) H
def aev:Q4 X .Sub (U5 λi j=>i-j):=by
 intro ae s σ H x y v u Q J b3 fV h;let(i,j,au,aE,q):=h;subst au;subst aE;let(t,rfl):=b3;let(t',rfl):=fV;exact isub_int (.int _,H,J.tok _,(_,rfl),q)
def Xa(c:TT)(bS:eI):eI:=λD σ H=>∃W:Nat->St->aw->Prop,(∃m,W m σ H)/\∀m σ H,W m σ H ->
 c σ H λb H1=>if b=true then ∃N:St->aw->Prop,(∀av I,N av I->∃dI,dI<m/\W dI av I)/\bS {D with cP:=N,gf:=N,c_:=D.cP} σ H1 else D.cP σ H1
theorem PU(aq:PassesOwn (model X.prog X.w) X.A X.env X.d_)(aC:iz X c dJ)(aa:iS X body bS):gO X (.While c body [] pos) (Xa dJ bS):=by
 intro ae s σ H D J h;let(W,(m0,qd),turn):=h;refine wpAny_While (codeAny_whileLoop (λn aj=>∃av I,Inv X ae av I aj/\W n av I) ?_ m0 (σ,H,J,qd));intro n s1 (fo,H1,aZ,dP);refine wpAny_passesOwn aq (bK (aC ae s1 fo H1 _ aZ (turn n fo H1 dP)) λb s2 c7=>?_);let(ar,b0,dV):=c7;cases b with
 | true=>
  let(N,bo,dV):=dV;rw[if_pos rfl];refine wpAny_passesOwn aq (bK (aa ae s2 fo ar _ b0 dV) λf s3 hj=>?_);cases f with
  |next=>
   let(fJ,a',eM,dc):=hj;let(dI,hm,hA):=bo fJ a' dc;exact(dI,hm,fJ,a',eM,hA)
  |cont=>
   let(fJ,a',eM,dc):=hj;let(dI,hm,hA):=bo fJ a' dc;exact(dI,hm,fJ,a',eM,hA)
  |brk=>exact hj
  |ret v=>exact hj
 |false=>
  rw[if_neg fT];exact wpAny_execs_nil (fo,ar,b0,dV)
end
structure kP where
 go:Nat->aw->Prop
 sC:Nat->aw->V->aw->Prop
 stop:Nat->aw->Prop
def jO(X:bg)(ae:List (Addr×Obj))(H:aw)(b:Addr):Prop:=
 H b=none/\b≠X.env.locals/\b∉X.a6/\(b∈X.ex\/↥X.gE<=b)/\(∀x c,X.env.cells.lookup x\c->c≠b)/\∀p∈X.dZ++ae,p.1≠b
def Inv.pK(J:Inv X ae σ H s)(aa:↥s<=b)(a5:I b=none):jO X ae I b:=by
 refine(a5,EL (ja J.lt aa),J.MY aa,.inr (cZ J.qm aa),λx c e z=>?_,λp aq z=>?_)
 .let(v,q):=J.cell x c e;exact absurd (ja q.lt (by rw[z];exact aa)) (qq _)
 .exact absurd (ja (eD (J.pin p aq).1) (by rw[z];exact aa)) (qq _)
structure r5(P:Program)(w:World)(K:bq)(dG:Expr)(bH:kP)(bl:List Addr)(it:Addr)(cc:Nat->Heap->Prop):Prop where
 mem:it∈bl
 obj:∀i h,cc i h->∀b∈bl,∃o,h.get? b\o/\∀v,o.data≠.cell v
 keep:∀i h h',cc i h->(∀b∈bl,∀o,h.get? b\o->h'.get? b\o)->cc i h'
 item:∀(X:bg),X.prog=P->X.w=w->X.K=K->X.calm=true->∀(i:Nat) (ae:List (Addr×Obj)) (s:Shared) (σ:St) (H:aw) (E:Value->Shared->Prop),Inv X ae σ H s->(∀b∈bl,jO X ae H b)->cc i s.heap->bH.go i H ->
  wpAny (model P w) X.A (pyNext ⇑it) (λr s1=>∃u,r\u /\
   wpAny (model P w) X.A (letOwnedTupleGo dG ⇑it u) (λ_ s2=>∃x I,Inv X ae σ I s2/\bX x u/\bH.sC i H x I/\cc (i+1) s2.heap/\∀b∈bl,I b=none) E s1) E s
 done:∀(X:bg),X.prog=P->X.w=w->X.K=K->X.calm=true->∀(i:Nat) (ae:List (Addr×Obj)) (s:Shared) (σ:St) (H:aw) (E:Value->Shared->Prop),Inv X ae σ H s->(∀b∈bl,jO X ae H b)->cc i s.heap->bH.stop i H ->
  wpAny (model P w) X.A (pyNext ⇑it) (λr s1=>r=none/\Inv X ae σ H s1) E s
 self:∀(A:Around) (i:Nat) (s:Shared) (Q:Value->Shared->Prop) (E:Value->Shared->Prop),cc i s.heap->Q ⇑it s->wpAny (model P w) A (pyIter ⇑it) Q E s
abbrev TI:=St->aw->(kP->aw->Prop)->Prop
def aaL(X:bg)(ae:List (Addr×Obj))(σ:St)(dG:Expr)(R:kP->aw->Prop)(Dp:Value)(s2:Shared):Prop:=
 ∃(it:Addr) (bl:List Addr) (cc:Nat->Heap->Prop) (bH:kP) (I:aw),Dp=⇑it/\Inv X ae σ I s2/\r5 X.prog X.w X.K dG bH bl it cc/\cc 0 s2.heap/\(∀b∈bl,jO X ae I b)/\R bH I
def pZ(X:bg)(dG iter:Expr)(ix:TI):Prop:=
 ∀(ae:List (Addr×Obj)) (s:Shared) (σ:St) (H:aw) (R:kP->aw->Prop),Inv X ae σ H s->ix σ H R ->
  wpAny (model X.prog X.w) X.A (eval iter X.env) (λv s1=>wpAny (model X.prog X.w) X.A (pyIter v) (aaL X ae σ dG R) X.d_ s1) X.d_ s
theorem A3 {A:Around} {it:Addr} (aU:s.heap.get? it\o) (aC:o.cls=.type n) (hd:o.data=.fields vs)
    (a5:["enumerate","zip","dict_itemiterator","dict_reverseitemiterator","odict_iterator","itertools.zip_longest","itertools.pairwise"].contains n=false) (aX:Q ⟨⟩ s):wpAny M A (letOwnedTupleGo dG ⇑it u) Q E s:=by
  unfold letOwnedTupleGo;cases dG <;> first
    |exact wpAny_pure aX
    |(cases u <;> first
        |exact wpAny_pure aX
        | (refine wpAny_bind (wpAny_load aU ?_)
           rw[aC,hd];show wpAny M A (if(["enumerate","zip","dict_itemiterator","dict_reverseitemiterator","odict_iterator","itertools.zip_longest","itertools.pairwise"].contains n&&vs[0]? == some (rawInt _))=true then _ else _) Q E s;rw[if_neg (by intro h;rw[a5,qj]at h;cases h)];exact wpAny_pure aX))
noncomputable def pJ(K:bq)(a:Addr):kP:=
 (λi H=>∃xs x,ay K H a xs/\xs[i]?\x,λi H x I=>I=H/\∀xs,ay K H a xs->xs[i]?\x,λi H=>∃xs,ay K H a xs/\↑xs<=i)
noncomputable def Cc(K:bq)(a:Addr):kP:=
 (λi H=>∃xs x,d4 K H a xs/\xs[i]?\x,λi H x I=>I=H/\∀xs,d4 K H a xs->xs[i]?\x,λi H=>∃xs,d4 K H a xs/\↑xs<=i)
noncomputable def mH(lo:Int)(n:Nat):kP:=(λi _=>i<n,λi H x I=>I=H/\x=.int (lo+i),λi _=>n<=i)
def alL{w:World}{K:bq}(a it:Addr):r5 P w K dG (pJ K a) [it] it (λi h=>h.IsListIter it a i)where
 mem:=by simp
 obj:=λi h st b aa=>by
  have e:b=it:=by simpa using aa
  subst e;let(o,e,c,d):=st;exact(o,e,λv z=>by rw[d]at z;cases z)
 keep:=λi h h' st k=>st.at λo e=>k it (by simp) o e
 item:=by
  intro X c1 hw gn aC i ae s σ H E J hf st a7;subst c1 hw gn;let(xs,x,aL,ag):=a7;let(a3,cM,p,aO):=J.list aL;let(u,bJ,e1):=cM.get ag;let(f0,f1,f2,e6,f4,fw):=hf it (by simp);refine wpAny_pyNext_list_item st p.isList (x:=u) (by simpa using bJ) λh' ni qC=>?_
  have aZ:Inv X ae σ H {s with heap:=h' }:=J.turned (t':=s.toks) (λb o aa e=>(qC.2 b aa).trans e) f0 f1 e6 f4 fw;let(o,e,c,d):=id ni;exact(u,rfl,A3 (s:={s with heap:=h' }) e c d ∅ (x,H,aZ,e1,(rfl,λys aQ=>by rw[J.C6 aQ aL];exact ag),ni,λb aa=>(hf b aa).1))
 done:=by
  intro X c1 hw gn aC i ae s σ H E J hf st a7;subst c1 hw gn;let(xs,aL,ag):=a7;let(a3,cM,p,aO):=J.list aL;let(f0,f1,f2,e6,f4,fw):=hf it (by simp);have aN:=↑cM;exact wpAny_pyNext_list_end (J.ok.hd aC) st p.isList (by simp;omega) λh' bD=>(rfl,J.turned (t':=s.toks) (λb o aa e=>bD b o aa e) f0 f1 e6 f4 fw)
 self:=λ_ _ _ _ _ st h=>wpAny_pyIter_listiter st h
def aeB{w:World}{K:bq}(a it:Addr):r5 P w K dG (Cc K a) [it] it (λi h=>h.IsTupleIter it a i)where
 mem:=by simp
 obj:=λi h st b aa=>by
  have e:b=it:=by simpa using aa
  subst e;let(o,e,c,d):=st;exact(o,e,λv z=>by rw[d]at z;cases z)
 keep:=λi h h' st k=>st.at λo e=>k it (by simp) o e
 item:=by
  intro X c1 hw gn aC i ae s σ H E J hf st a7;subst c1 hw gn;let(xs,x,aL,ag):=a7;let(a3,cM,p,aO):=J.tuple aL;let(u,bJ,e1):=cM.get ag;let(f0,f1,f2,e6,f4,fw):=hf it (by simp);refine wpAny_pyNext_tuple_item st (show s.heap.IsTuple a a3.toArray from p) (x:=u) (by simpa using bJ) λh' ni qC=>?_
  have aZ:Inv X ae σ H {s with heap:=h' }:=J.turned (t':=s.toks) (λb o aa e=>(qC.2 b aa).trans e) f0 f1 e6 f4 fw;let(o,e,c,d):=id ni;exact(u,rfl,A3 (s:={s with heap:=h' }) e c d ∅ (x,H,aZ,e1,(rfl,λys aQ=>by rw[J.anu aQ aL];exact ag),ni,λb aa=>(hf b aa).1))
 done:=by
  intro X c1 hw gn aC i ae s σ H E J hf st a7;subst c1 hw gn;let(xs,aL,ag):=a7;let(a3,cM,p,aO):=J.tuple aL;let(f0,f1,f2,e6,f4,fw):=hf it (by simp);have aN:=↑cM;exact wpAny_pyNext_tuple_end (J.ok.hd aC) st (show s.heap.IsTuple a a3.toArray from p) (by simp;omega) λh' bD=>(rfl,J.turned (t':=s.toks) (λb o aa e=>bD b o aa e) f0 f1 e6 f4 fw)
 self:=λ_ _ _ _ _ st h=>wpAny_pyIter_tupleiter st h
def ae_{w:World}{K:bq}(it:Addr)(lo:Int)(n:Nat):r5 P w K dG (mH lo n) [it] it (λi h=>IsRangeIter h it (lo+(i:Nat)*1) ((n:Int)-(i:Nat)) 1)where
 mem:=by simp
 obj:=λi h st b aa=>by
  have e:b=it:=by simpa using aa
  subst e;exact(_,st,λv z=>by
   have hB:Xt _=F7 v:=z;cases hB)
 keep:=λi h h' st k=>k it (by simp) _ st
 item:=by
  intro X c1 hw gn aC i ae s σ H E J hf st a7;subst c1 hw gn;let(f0,f1,f2,e6,f4,fw):=hf it (by simp);have W:=Walks.range (prog:=X.prog) (w:=X.w) (J.ok.hd aC) it lo 1 n;refine W.item i s _ _ a7 st λv h' tk aK ni rP=>?_
  let(t,rfl):=aK;have aZ:Inv X ae σ H {s with heap:=h',toks:=tk}:=J.turned (λb o aa e=>rP b o (by simpa using aa) e) f0 f1 e6 f4 fw;refine(_,rfl,A3 (s:={s with heap:=h',toks:=tk}) (n:="range_iterator") ni rfl rfl ∅ (.int (lo+i),H,aZ,(t,?_),(rfl,rfl),ni,λb aa=>(hf b aa).1));rw[Int.mul_one]
 done:=by
  intro X c1 hw gn aC i ae s σ H E J hf st a7;subst c1 hw gn;let(f0,f1,f2,e6,f4,fw):=hf it (by simp);exact wpAny_pyNext_range_end (J.ok.hd aC) st (by have:n<=i:=a7;omega) λh' bD=>(rfl,J.turned (t':=s.toks) (λb o aa e=>bD b o aa e) f0 f1 e6 f4 fw)
 self:=λ_ _ _ _ _ st h=>wpAny_pyIter_rangeiter st h
section
variable{X:bg}{dG:Expr}
def J4(K:bq)(dk:TE):TI:=λσ H R=>dk σ H λx H1=>fQ x λa=>(∃xs,ay K H1 a xs)/\R (pJ K a) H1
def Ls(K:bq)(dk:TE):TI:=λσ H R=>dk σ H λx H1=>fQ x λa=>(∃xs,d4 K H1 a xs)/\R (Cc K a) H1
def eV(aN:bw X l dk):pZ X dG l (J4 X.K dk):=by
 intro ae s σ H R J h;refine bK (aN ae s σ H _ J h) λv s1 cw=>et cw λx H1 aZ b3 bU=>?_
 let(a,e,(xs,aL),q):=fQ.out bU;subst e;cases b3;let(a3,cM,p,aO):=aZ.list aL;refine wpAny_pyIter_list p.isList ?_;refine(↥s1,[↥s1],_,_,H1,rfl,aZ.kept (t':=s1.toks) λb o e=>fk _ e,alL a _,(_,hC _ rfl,rfl,rfl),λb aa=>?_,q);have e:b=↥s1:=by simpa using aa
 subst e;exact aZ.pK (bR _) (aZ.bC.fresh (bR _))
def ahp(aN:bw X l dk):pZ X dG l (Ls X.K dk):=by
 intro ae s σ H R J h;refine bK (aN ae s σ H _ J h) λv s1 cw=>et cw λx H1 aZ b3 bU=>?_
 let(a,e,(xs,aL),q):=fQ.out bU;subst e;cases b3;let(a3,cM,p,aO):=aZ.tuple aL;refine wpAny_pyIter_tuple (show s1.heap.IsTuple a a3.toArray from p) ?_;refine(↥s1,[↥s1],_,_,H1,rfl,aZ.kept (t':=s1.toks) λb o e=>fk _ e,aeB a _,(_,hC _ rfl,rfl,rfl),λb aa=>?_,q);have e:b=↥s1:=by simpa using aa
 subst e;exact aZ.pK (bR _) (aZ.bC.fresh (bR _))
def Wq{ae:List (Addr×Obj)}{σ:St}{H:aw}{s:Shared}{R:kP->aw->Prop}{E:Value->Shared->Prop}{lo ai:Int}{t u v:Tok}{tk:Nat}(J:Inv X ae σ H s)(af:-(2 ^ 62)<=lo)(ak:lo<2 ^ 62)(a8:-(2 ^ 62)<=ai)(bZ:ai<2 ^ 62)
  (q:R (mH lo (ai-lo).toNat) H):wpAny (model X.prog X.w) X.A (pyIter (.ref ↥s)) (aaL X ae σ dG R) E {s with heap:=s.heap.push {cls:=.type "range",data:=.fields #[.int lo t,.int ai u,.int 1 v]},toks:=tk}:=by
 refine wpAny_pyIter_range (IsRange.new ..) (small_one af ak a8 bZ) ?_;have aZ:Inv X ae σ H {s with heap:=s.heap.push {cls:=.type "range",data:=.fields #[.int lo t,.int ai u,.int 1 v]},toks:=tk}:=J.kept λb o e=>fk _ e
 refine((s.heap.push {cls:=.type "range",data:=.fields #[.int lo t,.int ai u,.int 1 v]}).objs.size,[(s.heap.push {cls:=.type "range",data:=.fields #[.int lo t,.int ai u,.int 1 v]}).objs.size],_,_,H,rfl,
  aZ.kept (t':=tk) λb o e=>fk _ e,ae_ _ lo (ai-lo).toNat,?_,λb aa=>?_,q)
 .have au:lo+((0:Nat):Int)*1=lo:=by simp
  have aE:(((ai-lo).toNat:Nat):Int)-((0:Nat):Int)=as9 lo ai 1:=by rw[rangeSize_one];split <;> omega
  show IsRangeIter _ _ (lo+((0:Nat):Int)*1) ((((ai-lo).toNat:Nat):Int)-((0:Nat):Int)) 1;rw[au,aE];exact hC _ rfl
 .have e:b=(s.heap.push {cls:=.type "range",data:=.fields #[.int lo t,.int ai u,.int 1 v]}).objs.size:=by simpa using aa
  subst e;exact aZ.pK (bR _) (aZ.bC.fresh (bR _))
def ZQ(ba:fO):TI:=λσ H R=>ba σ H λvs H1=>ov vs λx=>hh x λj=>-(2 ^ 62)<=j/\j<2 ^ 62/\R (mH 0 j.toNat) H1
def S1(ba:fO):TI:=λσ H R=>ba σ H λvs H1=>∃i j:Int,vs=[.int i,.int j]/\(-(2 ^ 62)<=i/\i<2 ^ 62/\-(2 ^ 62)<=j/\j<2 ^ 62)/\R (mH i (j-i).toNat) H1
theorem kN{a:Expr}{ba:fO}{p pos:Pos}(a7:l6 X "range")(hm:X.mg "range"=none)(aV:g6 X [a] ba)(az:autoParam (starEach [a] X.env=[(p'p false (eval a X.env))]) A'r):pZ X dG (.Call (.Name "range" p) [a] [] pos) (ZQ ba):=by
 intro ae s σ H R J h;refine Call_ (sM J a7 hm boot_range (Fj (bK (aV pos ae s σ H _ J h) λus s1 c7=>?_) az rfl));let(vs,H1,aZ,b3,bU):=c7;let(akK,ahh,hT):=ov.out bU;let(j,Nm,ae2,dV,q):=hh.out hT;have e:=ahh.trans (congrArg (λz=>[z]) Nm);subst e;cases b3 with
 |cons r k_=>
  cases k_;let(t,rfl):=r;exact call_range_1 (Wq aZ () () ae2 dV (by simpa using q))
theorem akq{p pos:Pos}(a7:l6 X "range")(hm:X.mg "range"=none)(aV:g6 X [a,b] ba)(az:autoParam (starEach [a,b] X.env=[(p'p false (eval a X.env)),(p'p false (eval b X.env))]) A'r)(ik:autoParam (starEach [b] X.env=[(p'p false (eval b X.env))]) A'r) :
  pZ X dG (.Call (.Name "range" p) [a,b] [] pos) (S1 ba):=by
 intro ae s σ H R J h;refine Call_ (sM J a7 hm boot_range (Fj (bK (aV pos ae s σ H _ J h) λus s1 c7=>?_) (by rw[az,ik]) (by rw[ik];rfl)));let(vs,H1,aZ,b3,bU):=c7;let(i,j,e,(bU,dV,hj,vm),q):=bU;subst e;cases b3 with
 | cons r k_=>
  cases k_ with
  |cons eU k_=>
   cases k_;let(t,rfl):=r;let(t',rfl):=eU;exact call_range_2 (Wq aZ bU dV hj vm q)
def Ys(ix:TI)(g:g9)(bS:eI):eI:=λD σ H=>ix σ H λbH H1=>∃W:Nat->Nat->St->aw->Prop,(∃m,W 0 m σ H1)/\∀i m σ H,W i m σ H ->
 (bH.stop i H/\D.cP σ H)\/(bH.go i H/\∃N:St->aw->Prop,(∀av I,N av I->∃dI,dI<m/\W (i+1) dI av I)/\∀x I,bH.sC i H x I->g x σ I λcv ar=>bS {D with cP:=N,gf:=N,c_:=D.cP} cv ar)
noncomputable def Bs(bl:List Addr)(h:Heap):List (Addr×Obj):=bl.filterMap λb=>(h.get? b).map λo=>(p'p b o)
def DP{h:Heap}(aa:b∈bl)(e:h.get? b\o):(p'p b o)∈Bs bl h:=acm.mpr (b,aa,by rw[e];rfl)
theorem ala{h:Heap}{p:Addr×Obj}(aq:p∈Bs bl h):p.1∈bl/\h.get? p.1\p.2:=by
 let(b,aa,e):=acm.mp aq;cases q:h.get? b with
 |none=>rw[q]at e;cases e
 |some o=>
  rw[q]at e;have bF:(p'p b o)=p:=er e;subst bF;exact(aa,q)
def Inv.pinned(J:Inv X ae σ H s)(hf:∀b∈bl,jO X ae H b)(aU:∀b∈bl,∃o,s.heap.get? b\o/\∀v,o.data≠.cell v):Inv X (ae++Bs bl s.heap) σ H s:=
 J.uz λp aq=>(eQ.mp aq).elim (λz=>J.pin p (l1 _ z)) λz=>by
  let(aa,e):=ala z;let(f0,f1,f2,_):=hf p.1 aa;let(o,bF,d):=aU p.1 aa;rw[e]at bF;cases bF;exact(e,f0,f1,f2,d)
def Inv.Ds(J:Inv X (ae++pl) σ H s):Inv X ae σ H s:=J.uz λp aq=>J.pin p (l1 _ (z9 _ aq))
theorem eY(aq:PassesOwn (model X.prog X.w) X.A X.env X.d_)(aC:X.calm=true)(ai:pZ X dG iter ix)(a7:ql X dG g)(aa:iS X body bS)
  (az:autoParam (∀x,foldedSetIterable iter X.env x=pure x) A'i):gO X (.For dG iter body [] pos) (Ys ix g bS):=by
 intro ae s σ H D J h;refine wpAny_For (bK (ai ae s σ H _ J h) λv s1 af=>bK af λDp s2 ak=>?_) az;let(it,bl,cc,bH,ar,e,b0,T,tM,f2,W,(m0,qd),turn):=ak;subst e;have stat:∀{I:aw},(∀b∈bl,I b=none)->∀b∈bl,jO X ae I b:=λa5 b aa=>(a5 b aa,(f2 b aa).2)
 refine codeAny_forLoop_any (λn aj=>∃i av I,Inv X ae av I aj/\cc i aj.heap/\(∀b∈bl,I b=none)/\W i n av I) ?_ m0 (0,σ,ar,b0,tM,λb aa=>(f2 b aa).1,qd);intro n s3 (i,fJ,a',eM,P9,Y4,hA);rcases turn i n fJ a' hA with⟨stop,OU⟩|⟨go,N,bo,step⟩
 .refine wpAny_passesOwn aq (bK (T.done X rfl rfl rfl aC i ae s3 fJ a' X.d_ eM (stat Y4) P9 stop) λr s4 c7=>?_);let(ao,h4):=c7;subst ao;exact wpAny_execs_nil (fJ,a',h4,OU)
 .refine wpAny_passesOwn aq (bK (T.item X rfl rfl rfl aC i ae s3 fJ a' X.d_ eM (stat Y4) P9 go) λr s4 c7=>?_);let(u,ao,bZ):=c7;subst ao;refine wpAny_passesOwn aq (bK bZ λ_ s5 c7=>?_);let(x,bP,uV,IK,k1,vj,Jn):=c7;have Mk:=uV.pinned (stat Jn) (T.obj _ _ vj);refine wpAny_passesOwn aq (bK (a7 _ s5 fJ bP x u _ Mk IK (step x bP k1)) λ_ eo c7=>?_);let(mP,eX,z0,Jc):=c7;refine wpAny_passesOwn aq (bK (aa _ eo mP eX _ z0 Jc) λf h5 qf=>?_);have again:∀{kR:St} {eL:aw},Inv X (ae++Bs bl s5.heap) kR eL h5->N kR eL->∃m,m<n/\∃i av I,Inv X ae av I h5/\cc i h5.heap/\(∀b∈bl,I b=none)/\W i m av I:=λ{kR eL} lW gr=>by
   let(dI,hm,o'):=bo kR eL gr;refine(dI,hm,i+1,kR,eL,lW.Ds,T.keep _ _ _ vj λb aa o e=>(lW.pin (p'p b o) (l1 _ (l1 _ (DP aa e)))).1,λb aa=>?_,o');let(o,e,d):=T.obj _ _ vj b aa;exact(lW.pin (p'p b o) (l1 _ (l1 _ (DP aa e)))).2.1
  cases f with
  |next=>let(kR,eL,lW,gr):=qf;exact again lW gr
  |cont=>let(kR,eL,lW,gr):=qf;exact again lW gr
  |brk=>let(kR,eL,lW,qf):=qf;exact(kR,eL,lW.Ds,qf)
  |ret v=>let(di,kR,eL,lW,ahA,qf):=qf;exact(di,kR,eL,lW.Ds,ahA,qf)
end
def aki{K:bq}{a:Addr}{xs:List V}{g:g9}{bS:eI}{D:iK}{σ:St}{H:aw}(Pv:Nat->St->aw->Prop)(h0:Pv 0 σ H)(aN:∀i σ H,i<=↑xs->Pv i σ H->ay K H a xs)
  (az:∀i x σ H,xs[i]?\x->Pv i σ H->g x σ H λcv ar=>bS {D with cP:=Pv (i+1),gf:=Pv (i+1),c_:=D.cP} cv ar) (hd:∀σ H,Pv ↑xs σ H->D.cP σ H) :
  ∃W:Nat->Nat->St->aw->Prop,(∃m,W 0 m σ H)/\∀i m σ H,W i m σ H ->
   ((pJ K a).stop i H/\D.cP σ H)\/((pJ K a).go i H/\∃N:St->aw->Prop,(∀av I,N av I->∃dI,dI<m/\W (i+1) dI av I)/\∀x I,(pJ K a).sC i H x I->g x σ I λcv ar=>bS {D with cP:=N,gf:=N,c_:=D.cP} cv ar):=by
 refine(λi m σ H=>m=↑xs-i/\i<=↑xs/\Pv i σ H,(↑xs,by simp,eO _,h0),?_);intro i m σ H (rfl,ai,p);have q:=aN i σ H ai p;by_cases dU:i<↑xs
 .refine .inr ((xs,xs[i],q,by simp[dU]),Pv (i+1),λav I iZ=>(↑xs-(i+1),(),rfl,dU,iZ),λx I y=>?_);let(e,y):=y;subst e;exact az i x σ _ (y xs q) p
 .have e:i=↑xs:=()
  subst e;exact .inl ((xs,q,bR _),hd σ H p)
def ane{lo:Int}{n:Nat}{g:g9}{bS:eI}{D:iK}{σ:St}{H:aw}(Pv:Nat->St->aw->Prop)(h0:Pv 0 σ H)
  (az:∀i σ H,i<n->Pv i σ H->g (.int (lo+i)) σ H λcv ar=>bS {D with cP:=Pv (i+1),gf:=Pv (i+1),c_:=D.cP} cv ar) (hd:∀σ H,Pv n σ H->D.cP σ H) :
  ∃W:Nat->Nat->St->aw->Prop,(∃m,W 0 m σ H)/\∀i m σ H,W i m σ H ->
   ((mH lo n).stop i H/\D.cP σ H)\/((mH lo n).go i H/\∃N:St->aw->Prop,(∀av I,N av I->∃dI,dI<m/\W (i+1) dI av I)/\∀x I,(mH lo n).sC i H x I->g x σ I λcv ar=>bS {D with cP:=N,gf:=N,c_:=D.cP} cv ar):=by
 refine(λi m σ H=>m=n-i/\i<=n/\Pv i σ H,(n,by simp,eO _,h0),?_);intro i m σ H (rfl,ai,p);by_cases dU:i<n
 .refine .inr (dU,Pv (i+1),λav I iZ=>(n-(i+1),(),rfl,dU,iZ),λx I y=>?_);let(e,y):=y;subst e y;exact az i σ _ dU p
 .have e:i=n:=()
  subst e;exact .inl (bR _,hd σ H p)
abbrev fK:=V->V->aw->c6->Prop
def i8(X:bg)(f:Value->Value->Sem Value)(r:fK):Prop:=
 ∀(ae:List (Addr×Obj)) (s:Shared) (σ:St) (H:aw) (x y:V) (v u:Value) (Q:c6),Inv X ae σ H s->bX x v->bX y u->r x y H Q ->
  wpAny (model X.prog X.w) X.A (f v u) (gT X ae σ Q) X.d_ s
def IH(X:bg)(f:Value->Sem Value)(r:V->aw->c6->Prop):Prop:=
 ∀(ae:List (Addr×Obj)) (s:Shared) (σ:St) (H:aw) (x:V) (v:Value) (Q:c6),Inv X ae σ H s->bX x v->r x H Q ->
  wpAny (model X.prog X.w) X.A (f v) (gT X ae σ Q) X.d_ s
def mv(X:bg)(f:Value)(r:List V->aw->c6->Prop):Prop:=
 ∀(ae:List (Addr×Obj)) (s:Shared) (σ:St) (H:aw) (xs:List V) (us:List Value) (Q:c6),Inv X ae σ H s->cN xs us->r xs H Q ->
  wpAny (model X.prog X.w) X.A (call f us) (gT X ae σ Q) X.d_ s
def ajy(X:bg)(r:V->aw->(Bool->aw->Prop)->Prop):Prop:=
 ∀(ae:List (Addr×Obj)) (s:Shared) (σ:St) (H:aw) (x:V) (v:Value) (Q:Bool->aw->Prop),Inv X ae σ H s->bX x v->r x H Q ->
  wpAny (model X.prog X.w) X.A (truthy v) (GL X ae σ Q) X.d_ s
def ui(r:fK)(ba bS:TE):TE:=λσ H Q=>ba σ H λx H1=>bS σ H1 λy ar=>r x y ar Q
def MF(r:V->aw->c6->Prop)(ba:TE):TE:=λσ H Q=>ba σ H λx H1=>r x H1 Q
def yD(C:Int->Int->Prop)(g:Int->Int->V):fK:=λx y H Q=>hh x λi=>hh y λj=>C i j/\Q (g i j) H
def r9(g:Int->Int->V):fK:=λx y H Q=>hh x λi=>hh y λj=>Q (g i j) H
def CD(g:Int->V):V->aw->c6->Prop:=λx H Q=>hh x λi=>Q (g i) H
section
variable{X:bg}{a b c:Expr}{ba bS dJ:TE}{pos:Pos}
def Jy(aV:bw X a ba)(aa:bw X b bS){ae:List (Addr×Obj)}{s:Shared}{σ:St}{H:aw}{R:V->V->aw->Prop}(J:Inv X ae σ H s)
  (h:ba σ H λx H1=>bS σ H1 λy ar=>R x y ar) {Q:Value->Shared->Prop} {f:Value->Value->Sem Value}
  (hf:∀v u s2 x y ar,Inv X ae σ ar s2->bX x v->bX y u->R x y ar->wpAny (model X.prog X.w) X.A (f v u) Q X.d_ s2) :
  wpAny (model X.prog X.w) X.A (eval a X.env) (λv dQ=>wpAny (model X.prog X.w) X.A (eval b X.env) (λu eh=>wpAny (model X.prog X.w) X.A (f v u) Q X.d_ eh) X.d_ dQ) X.d_ s:=by
 refine bK (aV ae s σ H _ J h) λv s1 cw=>et cw λx H1 aZ b3 bU=>?_
 refine bK (aa ae s1 σ H1 _ aZ bU) λu s2 cw=>et cw λy ar b0 fV dV=>?_
 exact hf v u s2 x y ar b0 b3 fV dV
def bM{op:Operator}{r:fK}(aU:i8 X (binaryOp op) r)(aV:bw X a ba)(aa:bw X b bS):bw X (.BinOp a op b pos) (ui r ba bS):=by
 intro ae s σ H Q J h;exact wpAny_BinOp (Jy aV aa J h λv u s2 x y ar b0 bk bB q=>aU ae s2 σ ar x y v u Q b0 bk bB q)
def si(aU:IH X (unaryOp op) r)(aV:bw X a ba):bw X (.UnaryOp op a pos) (MF r ba):=by
 intro ae s σ H Q J h;exact UnaryOp_ (bK (aV ae s σ H _ J h) λv s1 cw=>et cw λx H1 aZ b3 bU=>aU ae s1 σ H1 x v Q aZ b3 bU)
def Rq{f:Value->Value->Sem Value}{C:Int->Int->Prop}{g:Int->Int->Int}
  (rule:∀(i j:Int) (t u:Tok) (s:Shared) (Q:Value->Shared->Prop) (E:Value->Shared->Prop),C i j->Q (.int (g i j) s.toks) {s with toks:=s.toks+1}->wpAny (model X.prog X.w) X.A (f (.int i t) (.int j u)) Q E s) :
  i8 X f (yD C λi j=>.int (g i j)):=by
 intro ae s σ H x y v u Q J bk bB h;let(i,rfl,jo):=hh.out h;let(j,rfl,aC,q):=hh.out jo;let(t,rfl):=bk;let(t',rfl):=bB;exact rule i j t t' s _ _ aC (.int (g i j),H,J.tok _,(_,rfl),q)
def Rb{f:Value->Value->Sem Value}{g:Int->Int->Int}
  (rule:∀(i j:Int) (t u:Tok) (s:Shared) (Q:Value->Shared->Prop) (E:Value->Shared->Prop),Q (.int (g i j) s.toks) {s with toks:=s.toks+1}->wpAny (model X.prog X.w) X.A (f (.int i t) (.int j u)) Q E s) :
  i8 X f (r9 λi j=>.int (g i j)):=by
 intro ae s σ H x y v u Q J bk bB h;let(i,rfl,jo):=hh.out h;let(j,rfl,q):=hh.out jo;let(t,rfl):=bk;let(t',rfl):=bB;exact rule i j t t' s _ _ (.int (g i j),H,J.tok _,(_,rfl),q)
def NR{f:Value->Value->Sem Value}{g:Int->Int->Bool}
  (rule:∀(i j:Int) (t u:Tok) (s:Shared) (Q:Value->Shared->Prop) (E:Value->Shared->Prop),Q (.bool (g i j)) s->wpAny (model X.prog X.w) X.A (f (.int i t) (.int j u)) Q E s) :
  i8 X f (r9 λi j=>.bG (g i j)):=by
 intro ae s σ H x y v u Q J bk bB h;let(i,rfl,jo):=hh.out h;let(j,rfl,q):=hh.out jo;let(t,rfl):=bk;let(t',rfl):=bB;exact rule i j t t' s _ _ (.bG (g i j),H,J,rfl,q)
def p2(i j:Int):Prop:=(-(2 ^ 64)<i/\i<2 ^ 64)\/(-(2 ^ 64)<j/\j<2 ^ 64)
def p2.ok(h:p2 i j):IntMulOk i j:=by
 rcases h with⟨af,ak⟩|⟨af,ak⟩
 .exact .of_left (intBits_le_64 af ak)
 .exact .of_right (intBits_le_64 af ak)
def eg:i8 X (binaryOp .Add) (r9 λi j=>.int (i+j)):=Rb λ_ _ _ _ _ _ _ q=>add_int q
def lC:i8 X (binaryOp .Sub) (r9 λi j=>.int (i-j)):=Rb λ_ _ _ _ _ _ _ q=>sub_int q
def kI:i8 X (binaryOp .Mult) (yD p2 λi j=>.int (i*j)):=Rq λ_ _ _ _ _ _ _ aC q=>mul_int q aC.ok
def ky:i8 X (binaryOp .Mod) (yD (λ_ j=>0<j) λi j=>.int (i%j)):=Rq λi j _ _ _ _ _ aC q=>by
 have af:(0:Int)<j:=aC;exact mod_int' () (by rw[Int.fmod_eq_emod_of_nonneg i ()];exact q)
def ajz{f:Value->Sem Value}{g:Int->Int}
  (rule:∀(i:Int) (t:Tok) (s:Shared) (Q:Value->Shared->Prop) (E:Value->Shared->Prop),Q (.int (g i) s.toks) {s with toks:=s.toks+1}->wpAny (model X.prog X.w) X.A (f (.int i t)) Q E s) :
  IH X f (CD λi=>.int (g i)):=by
 intro ae s σ H x v Q J bk h;let(i,rfl,q):=hh.out h;let(t,rfl):=bk;exact rule i t s _ _ (.int (g i),H,J.tok _,(_,rfl),q)
def ry:IH X (unaryOp .USub) (CD λi=>.int (-i)):=ajz λ_ _ _ _ _ q=>neg_int q
end
noncomputable def Ib:V->V->Bool
 | .cF,.cF=>true|.cF,.int _=>true|.int _,.cF=>true|.cF,.bG _=>true|.bG _,.cF=>true|.cF,.str _=>true|.str _,.cF=>true
 | .int _,.int _=>true|.bG _,.bG _=>true|.str _,.str _=>true|.nh _,.nh _=>true
 | .int _,.str _=>true|.str _,.int _=>true|.bG _,.str _=>true|.str _,.bG _=>true
 |_,_=>false
theorem i'a{x y}:Ib (.int x) (.int y)=true:=rfl
theorem i'b{x y}:Ib (.bG x) (.bG y)=true:=rfl
theorem i'c{x y}:Ib (.str x) (.str y)=true:=rfl
def Kp:fK:=λx y H Q=>Ib x y=true/\Q (.bG (decide (x=y))) H
def I5:fK:=λx y H Q=>Ib x y=true/\Q (.bG (!decide (x=y))) H
def Vx:decide (V.int i=V.int j)=(i==j):=by
 rw[m8];simp
def XQ:decide (V.bG i=V.bG j)=(i==j):=by
 rw[m8];simp
def aaK:decide (V.str i=V.str j)=(i==j):=by
 rw[m8];simp
def XZ:decide (V.nh i=V.nh j)=(i.toList==j.toList):=by
 rw[m8];cases i;cases j;simp
section
variable{X:bg}{a b c:Expr}{ba bS dJ:TE}{pos:Pos}
def f3{k vp:Bool}(J:Inv X ae σ H s)(q:Q (.bG k) H)(e:k=vp):gT X ae σ Q (.bool vp) s:=by
 subst e;exact(.bG k,H,J,rfl,q)
theorem fg:i8 X (compareOp .Eq) Kp:=by
 intro ae s σ H x y v u Q J bk bB h;let(az,q):=h;cases x with
 |cF=>
  cases bk;cases y with
  |cF=>cases bB;exact au7 (f3 J q (by simp))
  |bG j=>cases bB;exact auY (f3 J q (by simp))
  |int j=>let(t',rfl):=bB;exact auD (f3 J q (by simp))
  |str j=>let(t',rfl):=bB;exact auo (f3 J q (by simp))
  |_=>exact absurd (show false=true from az) fT
 |bG i=>
  cases bk;cases y with
  |cF=>cases bB;exact at9 (f3 J q (by simp))
  |bG j=>cases bB;exact eq_bool (f3 J q XQ)
  |str j=>let(t',rfl):=bB;exact ata (f3 J q (by simp))
  |_=>exact absurd (show false=true from az) fT
 |int i=>
  let(t,rfl):=bk;cases y with
  |cF=>cases bB;exact as7 (f3 J q (by simp))
  |int j=>let(t',rfl):=bB;exact eq_int (f3 J q Vx)
  |str j=>let(t',rfl):=bB;exact auc (f3 J q (by simp))
  |_=>exact absurd (show false=true from az) fT
 |str i=>
  let(t,rfl):=bk;cases y with
  |cF=>cases bB;exact as6 (f3 J q (by simp))
  |bG j=>cases bB;exact asZ (f3 J q (by simp))
  |int j=>let(t',rfl):=bB;exact atb (f3 J q (by simp))
  |str j=>let(t',rfl):=bB;exact eq_str (f3 J q aaK)
  |_=>exact absurd (show false=true from az) fT
 |nh i=>
  let(t,rfl):=bk;cases y with
  |nh j=>let(t',rfl):=bB;exact PySem.W.eq_bytes (f3 J q XZ)
  |_=>exact absurd (show false=true from az) fT
 |_=>cases y <;> exact absurd (show false=true from az) fT
theorem rt:i8 X (compareOp .NotEq) I5:=by
 intro ae s σ H x y v u Q J bk bB h;let(az,q):=h;cases x with
 |cF=>
  cases bk;cases y with
  |cF=>cases bB;exact atR (f3 J q (by simp))
  |bG j=>cases bB;exact atw (f3 J q (by simp))
  |int j=>let(t',rfl):=bB;exact atd (f3 J q (by simp))
  |str j=>let(t',rfl):=bB;exact auQ (f3 J q (by simp))
  |_=>exact absurd (show false=true from az) fT
 |bG i=>
  cases bk;cases y with
  |cF=>cases bB;exact at3 (f3 J q (by simp))
  |bG j=>cases bB;exact ne_bool (f3 J q (congrArg not XQ))
  |str j=>let(t',rfl):=bB;exact au_ (f3 J q (by simp))
  |_=>exact absurd (show false=true from az) fT
 |int i=>
  let(t,rfl):=bk;cases y with
  |cF=>cases bB;exact atG (f3 J q (by simp))
  |int j=>let(t',rfl):=bB;exact ne_int (f3 J q (congrArg not Vx))
  |str j=>let(t',rfl):=bB;exact atQ (f3 J q (by simp))
  |_=>exact absurd (show false=true from az) fT
 |str i=>
  let(t,rfl):=bk;cases y with
  |cF=>cases bB;exact aue (f3 J q (by simp))
  |bG j=>cases bB;exact as5 (f3 J q (by simp))
  |int j=>let(t',rfl):=bB;exact aty (f3 J q (by simp))
  |str j=>let(t',rfl):=bB;exact ne_str (f3 J q (congrArg not aaK))
  |_=>exact absurd (show false=true from az) fT
 |nh i=>
  let(t,rfl):=bk;cases y with
  |nh j=>let(t',rfl):=bB;exact PySem.W.ne_bytes (f3 J q (congrArg not XZ))
  |_=>exact absurd (show false=true from az) fT
 |_=>cases y <;> exact absurd (show false=true from az) fT
def l4:i8 X (compareOp .Lt) (r9 λi j=>.bG (decide (i<j))):=NR λ_ _ _ _ _ _ _ q=>lt_int q
def aau:i8 X (compareOp .LtE) (r9 λi j=>.bG (decide (i<=j))):=NR λ_ _ _ _ _ _ _ q=>le_int q
def oN:i8 X (compareOp .Gt) (r9 λi j=>.bG (decide (j<i))):=NR λ_ _ _ _ _ _ _ q=>gt_int q
def ach:i8 X (compareOp .In) (λx y H Q=>∃i j,x=.str i/\y=.str j/\Q (.bG (!(vR j i 0 ↑j 1).isEmpty)) H):=by
 intro ae s σ H x y v u Q J bk bB h;let(i,j,rfl,rfl,q):=h;let(t,rfl):=bk;let(t',rfl):=bB;exact in_str (f3 J q rfl)
theorem aj9:i8 X (compareOp .Is) (λx y H Q=>y=.cF/\Q (.bG (decide (x=.cF))) H):=by
 intro ae s σ H x y v u Q J bk bB h;let(rfl,q):=h;cases bB;refine is_none_gen (f3 J q ?_);cases x <;> first
  |(cases bk;rfl)
  |(let(t,rfl):=bk;rfl)
theorem Yd:i8 X (compareOp .IsNot) (λx y H Q=>y=.cF/\Q (.bG (!decide (x=.cF))) H):=by
 intro ae s σ H x y v u Q J bk bB h;let(rfl,q):=h;cases bB;refine isnot_none_gen (f3 J q ?_);cases x <;> first
  |(cases bk;rfl)
  |(let(t,rfl):=bk;rfl)
def cO(b:Expr)(h:autoParam (op≠.In) A'd)(ak:autoParam (op≠.NotIn) A'd):behindInMarks op b=false:=asl b h ak
def jt(aU:i8 X (compareOp op) r)(aV:bw X a ba)(aa:bw X b bS)(hm:behindInMarks op b=false):bw X (.Compare a [op] [b] pos) (ui r ba bS):=by
 intro ae s σ H Q J h;exact wpAny_Compare1 (Jy aV aa J h λv u s2 x y ar b0 bk bB q=>aU ae s2 σ ar x y v u Q b0 bk bB q) hm
def Nw(t:TE):TT:=λσ H Q=>t σ H λx I=>lJ x λk=>Q k I
def de(aU:i8 X (compareOp op) r)(aV:bw X a ba)(aa:bw X b bS)(hm:behindInMarks op b=false):iz X (.Compare a [op] [b] pos) (Nw (ui r ba bS)):=by
 intro ae s σ H Q J h;refine wpAny_isTrue_Compare1 (bK (aV ae s σ H _ J h) λv s1 cw=>et cw λx H1 aZ b3 bU=>bK (aa ae s1 σ H1 _ aZ bU) λu s2 ⟨y,ar,b0,fV,dV⟩=>
  bK (aU ae s2 σ ar x y v u _ b0 b3 fV dV) λc s3 cw=>et cw λz a' eM PB hT=>?_) hm
 let(k,e,hj):=lJ.out hT;subst e;cases PB;exact wpAny_truthy_bool (a',eM,hj)
def V2(K:bq)(x:V)(H:aw)(k:Bool):Prop:=
 match x with
 | .cF=>k=false
 | .bG b=>k=b
 | .int i=>k=(i != 0)
 | .str y=>↑y<=sizeLine/\k=((↑y:Int) != 0)
 | .nh y=>y.size<=sizeLine/\k=((y.size:Int) != 0)
 | .ref p=>(∃xs,ay K H p xs/\k = !xs.isEmpty)\/(∃xs,d4 K H p xs/\k = !xs.isEmpty)\/∃kvs,H p\(.bu kvs)/\k = !kvs.isEmpty
 |_=>False
def apg(r:fF kvs vs):(!vs.isEmpty) = !kvs.isEmpty:=by
 cases r <;> rfl
def RD{a3:List Value}(r:cN xs a3):(!a3.toArray.isEmpty) = !xs.isEmpty:=by
 cases r <;> simp
def uW:(sizeLine:Nat)<2 ^ 63:=by rw[sizeLine_eq];decide
theorem aoK:ajy X (λx H Q=>∃k,V2 X.K x H k/\Q k H):=by
 intro ae s σ H x v Q J bk h;let(k,e,q):=h;have aN:=uW;have az:sizeLine=16777216:=sizeLine_eq;cases x with
 |cF=>
  cases bk;have bF:k=false:=e;subst bF;exact truthy_none (H,J,q)
 |bG b=>
  cases bk;have bF:k=b:=e;subst bF;exact wpAny_truthy_bool (H,J,q)
 |int i=>
  let(t,rfl):=bk;have bF:k=(i != 0):=e;subst bF;exact PySem.P.truthy_int (H,J,q)
 |str y=>
  let(t,rfl):=bk;let(aQ,bF):↑y<=sizeLine/\k=((↑y:Int) != 0):=e;subst bF;exact PySem.P.truthy_str () (H,J.tok _,q)
 |nh y=>
  let(t,rfl):=bk;let(aQ,bF):y.size<=sizeLine/\k=((y.size:Int) != 0):=e;subst bF;exact PySem.W.truthy_bytes () (H,J.tok _,q)
 |ref p=>
  cases bk;have bF:(∃xs,ay X.K H p xs/\k = !xs.isEmpty)\/(∃xs,d4 X.K H p xs/\k = !xs.isEmpty)\/∃kvs,H p\(.bu kvs)/\k = !kvs.isEmpty:=e;rcases bF with⟨xs,ag,bF⟩|⟨xs,ag,bF⟩|⟨kvs,ag,bF⟩
  .subst bF;let(a3,r,pl,aO):=J.list ag;have hlen:=↑r;exact wpAny_truthy_list pl.isList (by simp only[e2];omega) (H,J.tok _,by rw[RD r];exact q)
  .subst bF;let(a3,r,pl,aO):=J.tuple ag;have hlen:=↑r;exact truthy_tuple pl (by simp only[e2];omega) (H,J.tok _,by rw[RD r];exact q)
  .subst bF;let(aO,dY,vs,r,m):↑kvs<=sizeLine/\(p==sysModules)=false/\∃vs,fF kvs vs/\s.heap.DictOf (iI X.prog X.w) p vs:=J.bC p _ ag;have hlen:↑kvs=↑vs:=Mz r;exact wpAny_truthy_dict dY m () (H,J.tok _,by rw[apg r];exact q)
 |_=>exact(show False from e).elim
def Gm(aV:bw X a ba)(he:∀whole,isTrue a X.env whole=(do let v <- whole;standAt a.pos;holding [v] (truthy v))) :
  iz X a (λσ H Q=>ba σ H λx I=>∃k,V2 X.K x I k/\Q k I):=by
 intro ae s σ H Q J h;exact isTrue_plain (bK (aV ae s σ H _ J h) λv s1 cw=>et cw λx H1 aZ b3 bU=>aoK ae s1 σ H1 x v Q aZ b3 bU) (he _)
def nu:i8 X (binaryOp .Add) (λx y H Q=>∃i j,x=.str i/\y=.str j/\↑i+↑j<=sizeLine/\Q (.str (i++j)) H):=by
 intro ae s σ H x y v u Q J bk bB h;let(i,j,rfl,rfl,aO,q):=h;let(t,rfl):=bk;let(t',rfl):=bB;exact add_str (λt' tk=>(.str (i++j),H,J.tok _,(_,rfl),q)) aO
theorem mr{x:V}(r:cN [x] us):∃u,us=[u]/\bX x u:=by
 cases r with
 |cons b3 fV=>cases fV;exact(_,rfl,b3)
theorem UX{x y:V}(r:cN [x,y] us):∃u eK,us=[u,eK]/\bX x u/\bX y eK:=by
 cases r with
 |cons b3 fV=>
  cases fV with
  |cons PB aj7=>cases aj7;exact(_,_,rfl,b3,PB)
def apu(aC:X.calm=true):mv X (.builtin "max") (λxs H Q=>∃i j,xs=[.int i,.int j]/\Q (.int (if j>i then j else i)) H):=by
 intro ae s σ H xs us Q J r h;let(i,j,rfl,q):=h;let(u,eK,rfl,(t,rfl),(t',rfl)):=UX r;refine max_two_ints (J.ok.hd aC) λh' tk k=>(_,H,J.kept k,?_,q)
 by_cases aI:j>i
 .rw [if_pos aI,if_pos aI];exact(_,rfl)
 .rw [if_neg aI,if_neg aI];exact(_,rfl)
def JU(aC:X.calm=true):mv X (.builtin "min") (λxs H Q=>∃i j,xs=[.int i,.int j]/\Q (.int (if j<i then j else i)) H):=by
 intro ae s σ H xs us Q J r h;let(i,j,rfl,q):=h;let(u,eK,rfl,(t,rfl),(t',rfl)):=UX r;refine min_two_ints (J.ok.hd aC) λh' tk k=>(_,H,J.kept k,?_,q)
 by_cases aI:j<i
 .rw [if_pos aI,if_pos aI];exact(_,rfl)
 .rw [if_neg aI,if_neg aI];exact(_,rfl)
def Z0:mv X (.type "int") (λxs H Q=>(∃i,xs=[.int i]/\Q (.int i) H)\/∃k,xs=[.bG k]/\Q (.int (if k then 1 else 0)) H):=by
 intro ae s σ H xs us Q J r h;rcases h with⟨i,rfl,q⟩|⟨k,rfl,q⟩
 .let(u,rfl,t,rfl):=mr r;exact call_int_int (.int i,H,J,(_,rfl),q)
 .let(u,rfl,b3):=mr r;cases b3;exact call_int_bool (.int (if k then 1 else 0),H,J.tok _,(_,rfl),q)
def As:mv X (.type "str") (λxs H Q=>∃i,xs=[.int i]/\i.natAbs.log2<1920/\Q (.str (toString i)) H):=by
 intro ae s σ H xs us Q J r h;let(i,rfl,aO,q):=h;let(u,rfl,t,rfl):=mr r;exact PySem.P.str_of_int aO (.str _,H,J.tok _,(_,rfl),q)
end
structure vP(h:Heap)(x ax C:Addr)(ft:Str->Option Value):Prop where
 obj:h.get? x\(vx C ax)
 ns:h.Ns1 ax ft
 ne:ax≠x
set_option tactic.hygienic true in
def ana{h:Heap}(n:h.Ns1 ax ft):∃fN,h.get? ax\fN/\∀name,K_ name fN\(ft name):=by
 let(o,aW,cJ,aU,hd,aB,_,hm):=n;refine(o,aU,λname=>?_);have e:=hm name;unfold nsFind findBy at e;rw[<- Array.find?_toList]at e;unfold K_;rw[hd];dsimp only;split
 .rename_i y q;rw[q]at e;exact congrArg some e
 .rename_i q;rw[q]at e;have a:aW.toList.any (·.refKey)=false:=by
   rw[Jk];intro y aQ;let(z,t,aoR):=aB y (Array.mem_toList_iff.mp aQ);simp[DictEntry.refKey,aoR]
  have w_:¬aW.toList.any (·.refKey)=true:=by rw[a];exact fT
  rw[if_neg w_];exact congrArg some e
def vP.look{h:Heap}{x ax C:Addr}(J:vP h x ax C ft):∃fN,PySem.W.InstAt h x (vx C ax) C (some fN)/\∀name,K_ name fN\(ft name):=
 let⟨fN,aU,aN⟩:=ana J.ns
 (fN,(J.obj,rfl,rfl,aU),aN)
section
variable{prog:Program}{w:World}{A:Around}{E:Value->Shared->Prop}{s:Shared}{K:bq}{x ax C f:Addr}{ft:Str->Option Value}{name:Str}{v:Value}
def GT(X:K.In s.heap)(J:vP s.heap x ax C ft)(a7:J5 K C name=true)(ct:Gq K C=true)
  (aV:dA K ⇑C name\none) (aK:ft name\v) (Nv:af_ v=true) (h:Q v {s with toks:=s.toks+1}) :
  wpAny (model prog w) A (getAttr ⇑x name expr) Q E s:=by
 let(fN,bH,aN):=J.look;exact PySem.W.get_value X bH (Qb a7).1 (PySem.W.findObj_own ct aV rfl (by rw[aN,aK])) Nv h
def ajE(X:K.In s.heap)(J:vP s.heap x ax C ft)(a7:J5 K C name=true)
  (hf:dA K ⇑C name\(some ⇑f)) (c9:TB K ⇑f=true) (aK:ft name=none) (h:Q (p'p (⇑f) [⇑x]) s) :
  wpAny (model prog w) A (getMethod ⇑x name pl) Q E s:=by
 let(fN,bH,aN):=J.look;exact PySem.W.method_fn X bH (Qb a7).1 (Qb a7).2 hf (beq_iff_eq.mp c9) (by show(K_ name fN).map (·.isSome)\false;rw[aN,aK];rfl) h
def afP{ns:List Str}(X:K.In s.heap)(J:vP s.heap x ax C ft)
  (az:dA K ⇑C "__setattr__"\(some (.builtin "object.__setattr__"))) (aq:akF K C=true) (c9:Z5 K C name\none) (ct:Gq K C=true)
  (hw:aap ft ns) (hsz:↑ns<=sizeLine)
  (h:∀h',vP h' x ax C (λy=>if y=name then some v else ft y)->yj ax s.heap h'->Q ⟨⟩ {s with heap:=h',toks:=s.toks+2}) :
  wpAny (model prog w) A (setAttr ⇑x name v) Q E s:=by
 let(fN,bH,aN):=J.look;refine PySem.W.set_plain X bH az (PySem.W.osa_open (s:={s with toks:=s.toks+1}) (r:=none) X bH aq c9 λb=>?_);let(cd,aC,zf):=PySem.W.any_some ct;have ag:s.heap.get? x\(⇑C,some ax,.plain,#[]):=J.obj;refine wpAny_bind (wpAny_pure (wpAny_bind (wpAny_bind (wpAny_loadPart ag (wpAny_bind (atg (s:={s with toks:=s.toks+1}) (PySem.W.looks_clsIn X aC) ?_))))));rw[zf];refine wpAny_pure (a:=some ax) (wpAny_bind (wpAny_pure (wpAny_bind ?_)));refine wpAny_nsSet1 (s:={s with toks:=s.toks+1}) J.ns λh' tC ik=>?_
 let(atZ,auy,as1,anN,ajj,aqc):=tC.count (as4 name v hw);refine wpAny_bind (wpAny_lookBehind anN (by rw[ajj];exact pastItsLine_dict (cZ aqc (by rw[gW];omega))) ?_);exact wpAny_pure (h _ ((ik.2 _ (dm J.ne)).trans J.obj,tC,J.ne) ik)
def ame(X:K.In s.heap)(hm:am9 K C=true)
  (ai:dA K ⇑C "__init__"\(some ⇑f)) (hf:alJ K ⇑f\(.type "function"))
  (h:codeAny (model prog w) (A.under (.builtin "type.__call__" (⇑C::vs,kw))) (.call ⇑f (⇑(↥s+1)::vs,kw)) (PySem.W.InitBack (↥s+1) R)
   {s with heap:=(s.heap.push t6).push (vx C ↥s)}) :
  codeAny (model prog w) A (.call ⇑C (vs,kw)) R s:=by
 let(ct,g,d,t,os):=s;exact PySem.W.make_core (PySem.W.makes_of X hm) (PySem.W.looks_findIn X ai) (λself=>PySem.W.bind_fn X self hf) (.inl rfl) h
end
noncomputable def dg(f:Str)(v:V):List (Str×V)->List (Str×V)
 |[]=>[(p'p f v)]
 |(g,x)::r=>if g=f then(p'p g v)::r else(p'p g x)::dg f v r
theorem Xx(f g:Str)(v:V):∀a6:List (Str×V),(dg f v a6).lookup g=if g=f then some v else a6.lookup g
 |[]=>by
  show rZ g [(p'p f v)]=_;by_cases h:g=f
  .have aa:(g==f)=true:=beq_iff_eq.mpr h;simp only[rZ,aa,if_pos h]
  .have aa:(g==f)=false:=beq_eq_false_iff_ne.mpr h;simp only[rZ,aa,if_neg h]
 | (k,x)::r=>by
  have c4:=Xx f g v r;rw[show dg f v ((p'p k x)::r)=(if k=f then(p'p k v)::r else(p'p k x)::dg f v r)from rfl];by_cases aB:k=f
  .rw[if_pos aB];by_cases h:g=k
   .have aa:(g==k)=true:=beq_iff_eq.mpr h;simp only[rZ,aa,if_pos (h.trans aB)]
   .have aa:(g==k)=false:=beq_eq_false_iff_ne.mpr h;simp only[rZ,aa,if_neg (λe:g=f=>h (e.trans aB.symm))]
  .rw[if_neg aB];by_cases h:g=k
   .have aa:(g==k)=true:=beq_iff_eq.mpr h;simp only[rZ,aa,if_neg (λe:g=f=>aB (h.symm.trans e))]
   .have aa:(g==k)=false:=beq_eq_false_iff_ne.mpr h;simp only[rZ,aa];exact c4
theorem Hd(f:Str)(v:V):∀a6:List (Str×V),f∈(dg f v a6).map (·.1)/\∀g,g∈a6.map (·.1)->g∈(dg f v a6).map (·.1)
 |[]=>(by simp[dg],λg h=>by simp at h)
 | (k,x)::r=>by
  let(i1,i2):=Hd f v r;rw[show dg f v ((p'p k x)::r)=(if k=f then(p'p k v)::r else(p'p k x)::dg f v r)from rfl];by_cases aB:k=f
  .rw [if_pos aB];subst aB;exact(by simp,λg h=>by simpa using h)
  .rw[if_neg aB];refine(?_,λg h=>?_)
   .rw [es];exact jj _ i1
   .rw[es]at h⊢;rcases d6.mp h with e|e
    .exact d6.mpr (.inl e)
    .exact jj _ (i2 g e)
theorem OA(f:Str)(v:V):∀a6:List (Str×V),↑(dg f v a6)<=↑a6+1
 |[]=>by simp[dg]
 |(k,x)::r=>by
  have c4:=OA f v r;rw[show dg f v ((p'p k x)::r)=(if k=f then(p'p k v)::r else(p'p k x)::dg f v r)from rfl];by_cases aB:k=f
  .rw [if_pos aB,gW,gW];omega
  .rw [if_neg aB,gW,gW];omega
theorem ji.some_of(r:ji (some v) o):∃u,o\u/\bX v u:=by
 cases o with
 |none=>exact(show False from r).elim
 |some u=>exact(u,rfl,r)
theorem ji.none_of(r:ji none o):o=none:=by
 cases o with
 |none=>rfl
 |some u=>exact(show False from r).elim
theorem abC(r:bX v u):af_ u=true:=by
 cases v with
 |cF=>cases(show u=vZ from r);rfl
 |bG b=>cases(show u=lZ b from r);rfl
 |int i=>let(t,e):=(show ∃t,u=od i t from r);cases e;rfl
 |str x=>let(t,e):=(show ∃t,u=zd x t from r);cases e;rfl
 |nh b=>let(t,e):=(show ∃t,u=agE b t from r);cases e;rfl
 |yk b=>let(t,e):=(show ∃t,u=aqO b t from r);cases e;rfl
 |ref a=>cases(show u=fE a from r);rfl
 |ty n=>cases(show u=ahn n from r);rfl
section
variable{P:Program}{w:World}{H I:aw}{h h':Heap}{a C ax:Addr}{a6 q0:List (Str×V)}
def w'(bC:fD P w H h)(e:H a\(.ins C ax a6)):∃ft,vP h a ax C ft/\(∀f,ji (a6.lookup f) (ft f))/\aap ft (a6.map (·.1))/\↑a6<=1000/\H ax\(.own a):=by
 let(d,z,ne,cG,ft,n,r,q):=(show gk P w H h a (.ins C ax a6)from bC a _ e);exact(ft,(cG,n,ne),r,q,z,d)
end
structure h3(K:bq)(C:Addr):Prop where
 abh:J5 K C Str.empty=true
 hd:Gq K C=true
 po:akF K C=true
 aG:dA K ⇑C "__setattr__"\(some (.builtin "object.__setattr__"))
def h3.get{K:bq}(c:h3 K C)(f:Str):J5 K C f=true:=c.abh
def dD(K:bq)(C:Addr)(f:Str):Prop:=dA K ⇑C f\none
def dD.apZ{K:bq}(n:dD K C f):Z5 K C f\none:=by
 unfold Z5;rw[show dA K ⇑C f\none from n];rfl
structure fq(K:bq)(C:Addr)(m:Str)(f:Addr):Prop where
 at_:dA K ⇑C m\(some ⇑f)
 fn:TB K ⇑f=true
 bp:vy K ⇑f=true
section
variable{X:bg}{ae:List (Addr×Obj)}{σ:St}{H:aw}{s:Shared}{a C ax:Addr}{a6:List (Str×V)}{f:Str}{v:V}{A:Around}{E:Value->Shared->Prop}
def aaA(J:Inv X ae σ H s)(e:H a\(.ins C ax a6))(c:h3 X.K C)(n:dD X.K C f)(l:a6.lookup f\v)
  (h:∀u aj,Inv X ae σ H aj->bX v u->Q u aj):wpAny (model X.prog X.w) A (getAttr ⇑a f b) Q E s:=by
 let(ft,O,r,_,_,_):=w' J.bC e;let(u,bJ,e1):=ji.some_of (v:=v) (o:=ft f) (by rw[<- l];exact r f);exact GT J.kj O (c.get f) c.hd n bJ (abC e1) (h u _ (J.tok _) e1)
def FD(J:Inv X ae σ H s)(e:H a\(.ins C ax a6))(c:h3 X.K C)(k:fq X.K C m g)(l:a6.lookup m=none)
  (h:Q (p'p (⇑g) [⇑a]) s):wpAny (model X.prog X.w) A (getMethod ⇑a m pl) Q E s:=by
 let(ft,O,r,_,_,_):=w' J.bC e;have a5:ft m=none:=ji.none_of (by rw[<- l];exact r m);exact ajE J.kj O (c.get m) k.at_ k.fn a5 h
def VV(J:Inv X ae σ H s)(e:H a\(.ins C ax a6))(c:h3 X.K C)(n:dD X.K C f)(aN:↑a6<1000)(bB:bX y u)
  (h:∀aj,Inv X ae σ (upd H a (.ins C ax (dg f y a6))) aj->Q ⟨⟩ aj):wpAny (model X.prog X.w) A (setAttr ⇑a f u) Q E s:=by
 let(ft,O,r,ix,_,aU):=w' J.bC e;have aO:↑(a6.map (·.1))<=sizeLine:=by rw[aT,sizeLine_eq];omega
 refine afP J.kj O c.aG c.po n.apZ c.hd ix aO λh' Bj qC=>h _ ?_
 have hd:∃o,h'.get? ax\o:=let⟨o,_,_,bF,_⟩:=Bj.ns;(o,bF);refine J.write (x:=a) (e:=ax) (by rw[e];exact m5) (.inr aU) (λb q aa z=>(qC.2 b aa).trans z) hd ?_;refine(by rw[aD O.ne];exact aU,?_,O.ne,Bj.obj,_,Bj.ns,λg=>?_,λg a7=>?_)
 .have:=OA f y a6;omega
 .show ji ((dg f y a6).lookup g) (if g=f then some u else ft g);rw[Xx];by_cases q:g=f
  .rw [if_pos q,if_pos q];exact bB
  .rw [if_neg q,if_neg q];exact r g
 .by_cases q:g=f
  .rw [q];exact(Hd f y a6).1
  .refine (Hd f y a6).2 g (ix g λz=>a7 ?_);show(if g=f then some u else ft g)=none;rw[if_neg q];exact z
def Inv.made(J:Inv X ae σ H s):Inv X ae σ (upd (upd H ↥s (.own (↥s+1))) (↥s+1) (.ins C ↥s []))
  {s with heap:=(s.heap.push t6).push (vx C ↥s)}:=by
 have au:(s.heap.push t6).get? ↥s\t6:=hC s.heap rfl;have aE:((s.heap.push t6).push (vx C ↥s)).get? (↥s+1)\(vx C ↥s):=by
  have:=hC (s.heap.push t6) (o:=vx C ↥s) rfl;rwa[QA]at this
 have bI:(s.heap.push t6).Ns ↥s (λ_=>none):=(t6,#[],_,au,rfl,(λe he=>absurd he (by simp)),λ_=>rfl);have aZ:=J.laid (a:=↥s) (o:=.own (↥s+1)) (h':=s.heap.push t6) (t':=s.toks) (λb u q=>fk _ q) (bR _) (_,au);refine aZ.laid (a:=↥s+1) (o:=.ins C ↥s []) (t':=s.toks) (λb u q=>fk _ q) (abb (QA _ _)) ?_;have ne:↥s≠↥s+1:=gN (wW _);refine(by rw[aD ne,db],eO _,ne,aE,λ_=>none,(Heap.Ns1.of_empty bI).at λo q=>fk _ q,λ_=>m5,λy aQ=>absurd rfl aQ)
def asb{prog:Program}{w:World}{env:Env}{e:Expr}(aa:attributeBase e f env (eval e env)=eval e env)
  (h:wpAny (model prog w) A (eval e env) (λo dQ=>wpAny (model prog w) A (getAttr o f true) Q E dQ) E s):wpAny (model prog w) A (eval (.Attribute e f pos) env) Q E s:=
 Attribute_any_ h (by rw[arm_eval_Attribute,aa])
end
def fG(K:bq)(H:aw)(a:Addr)(f:Str)(v:V):Prop:=∃C ax a6,H a\(.ins C ax a6)/\h3 K C/\dD K C f/\a6.lookup f\v
def Oo(K:bq)(ba:TE)(f:Str):TE:=λσ H Q=>ba σ H λx H1=>fQ x λa=>∃v,fG K H1 a f v/\Q v H1
def Rd(K:bq)(ba ff:TE)(f:Str):eI:=λD σ H=>ff σ H λy H1=>ba σ H1 λx ar=>fQ x λa=>∃C ax a6,ar a\(.ins C ax a6)/\h3 K C/\dD K C f/\↑a6<1000 /\
 D.cP σ (upd ar a (.ins C ax (dg f y a6)))
def Fe(X:bg)(op:Operator)(h2:V->V->aw->c6->Prop):Prop:=
 ∀(ae:List (Addr×Obj)) (s:Shared) (σ:St) (H:aw) (x y:V) (u v:Value) (Q:c6),Inv X ae σ H s->bX x u->bX y v->h2 x y H Q->wpAny (model X.prog X.w) X.A (inplaceOp op u v) (gT X ae σ Q) X.d_ s
def Z1(K:bq)(ba ff:TE)(h2:V->V->aw->c6->Prop)(f:Str):eI:=λD σ H=>ba σ H λx H1=>∃a C ax a6 v,x=⇑a/\H1 a\(.ins C ax a6)/\h3 K C/\dD K C f/\a6.lookup f\v /\
 ff σ H1 λy ar=>h2 v y ar λz a'=>∃ie q0,a' a\(.ins C ie q0)/\↑q0<1000/\D.cP σ (upd a' a (.ins C ie (dg f z q0)))
section
variable{X:bg}{o e value:Expr}{f:Str}{pos pos' x2:Pos}{ba ff:TE}
def br(he:bw X e ba)(aa:attributeBase e f X.env (eval e X.env)=eval e X.env):bw X (.Attribute e f pos) (Oo X.K ba f):=by
 intro ae s σ H Q J h;refine asb aa (bK (he ae s σ H _ J h) λu s1 cw=>et cw λx H1 aZ bk hT=>?_);let(a,ex,v,(C,ax,a6,iy,c,n,l),q):=fQ.out hT;subst ex;obtain rfl:u=fE a:=bk;exact aaA aZ iy c n l λvf s2 b0 e1=>(v,H1,b0,e1,q)
def eW(aV:bw X o ba)(aK:bw X value ff)(az:swapsWith value (some (.Attribute o f pos')) pos.line X.env=pure false):gO X (.Assign [.Attribute o f pos'] value pos) (Rd X.K ba ff f):=by
 intro ae s σ H D J h;refine plainObj_wpAny_Assign_Attribute (bK (aK ae s σ H _ J h) λu s1 cw=>et cw λy H1 aZ bB q=>bK (aV ae s1 σ H1 _ aZ q) λeC s2 cw=>et cw λx ar b0 bk hT=>?_) az;let(a,ex,C,ax,a6,iy,c,n,l,dV):=fQ.out hT;subst ex;obtain rfl:eC=fE a:=bk;exact VV b0 iy c n l bB λs3 eM=>(σ,_,eM,dV)
def DC{h2:V->V->aw->c6->Prop}(aV:bw X o ba)(aK:bw X value ff)(pM:Fe X op h2):gO X (.AugAssign (.Attribute o f x2) op value pos) (Z1 X.K ba ff h2 f):=by
 intro ae s σ H D J h;refine wpAny_AugAssign_AttributeAny (bK (aV ae s σ H _ J h) λeC s1 c7=>?_);let(x,H1,aZ,bk,a,C,ax,a6,v,ex,iy,c,n,l,q):=c7;subst ex;obtain rfl:eC=fE a:=bk;refine aaA aZ iy c n l λu s2 b0 e1=>bK (aK ae s2 σ H1 _ b0 q) λhA s3 cw=>et cw λy ar eM bB hj=>bK (pM ae s3 σ ar v y u hA _ eM e1 bB hj) λgJ s4 c7=>?_
 let(z,a',h4,va,ie,q0,ai7,l',vm):=c7;exact VV h4 ai7 c n l' va λs5 uV=>(σ,_,uV,vm)
def JA:V->V->aw->c6->Prop:=λx y H Q=>∃i j,x=.int i/\y=.int j/\Q (.int (i+j)) H
def Ki:V->V->aw->c6->Prop:=λx y H Q=>∃i j,x=.int i/\y=.int j/\Q (.int (i-j)) H
def Ba:Fe X .Add JA:=by
 intro ae s σ H x y u v Q J bk bB (i,j,rfl,rfl,q);let(t,rfl):=(show ∃t,u=od i t from bk);let(t',rfl):=(show ∃t',v=od j t' from bB);exact at1 (.int (i+j),H,J.tok _,(_,rfl),q)
def aoF:Fe X .Sub Ki:=by
 intro ae s σ H x y u v Q J bk bB (i,j,rfl,rfl,q);let(t,rfl):=(show ∃t,u=od i t from bk);let(t',rfl):=(show ∃t',v=od j t' from bB);exact auX (.int (i-j),H,J.tok _,(_,rfl),q)
end
section
variable{X:bg}{ae:List (Addr×Obj)}{σ:St}{H:aw}{s:Shared}{A:Around}{E:Value->Shared->Prop}{Q:Value->Shared->Prop}{c:Value}{b:Bool}
inductive pe(K:bq)(H:aw):V->Value->Prop where
 |cF:pe K H .cF (.type "NoneType")
 |bG (x:Bool):pe K H (.bG x) (.type "bool")
 |int (i:Int):pe K H (.int i) (.type "int")
 |str (x:Str):pe K H (.str x) (.type "str")
 |yk (x:UInt64):pe K H (.yk x) (.type "float")
 |lst {a:Addr} {xs:List V} (e:H a\(.lst xs)):pe K H (.ref a) (.type "list")
 |ei {a:Addr} {o:Obj} {xs:List V} (e:H a\(.ei o (.lst xs))):pe K H (.ref a) (.type "list")
 |tup {a:Addr} {xs:List V} (e:H a\(.tup xs)):pe K H (.ref a) (.type "tuple")
 |bu {a:Addr} {kvs:List (Key×V)} (e:H a\(.bu kvs)):pe K H (.ref a) (.type "dict")
 |hl {a:Addr} {kvs:List (List Key×V)} (e:H a\(.hl kvs)):pe K H (.ref a) (.type "dict")
 | ins {a C ax:Addr} {a6:List (Str×V)} (e:H a\(.ins C ax a6)) (cl:h3 K C) (aV:dA K (.ref C) "__class__"\(some (.builtin "object.__class__")))
   (a5:yv K (.builtin "object.__class__") "__get__"\(some (.builtin "getset_descriptor.__get__"))) (HU:Kx K (.builtin "object.__class__")\true)
   (hm:M_ K C (.type "object")\true):pe K H ⇑a ⇑C
end
structure bn(k:Nat)(A:Around):Prop where
 hd:A.handled=none
 jS:A.depth+3*k+5<recursionLimit
 un:A.units+16*k+200<cLine
def bn.mono{j k:Nat}{A:Around}(r:bn k A)(h:j<=k):bn j A:=(r.hd,by have:=r.jS;omega,by have:=r.un;omega)
theorem bn.deeper{k:Nat}{A:Around}(r:bn (k+1) A)(env:Env):bn k (A.deeper env):=
 (r.hd,by have:=r.jS;show A.depth+1+3*k+5<_;omega,by have:=r.un;show A.units+3+16*k+200<_;omega)
theorem bn.in1{k:Nat}{A:Around}(r:bn (k+1) A):bn k A.in1:=
 (r.hd,by have:=r.jS;show A.depth+3*k+5<_;omega,by have:=r.un;show A.units+1+16*k+200<_;omega)
def aib{A:Around}:(A.under (.builtin "type.__call__" (⇑C::us,kw))).depth=A.depth+1:=by
 first|rfl|simp[Zl,Code.weight,Code.isCreation,Code.isGuard,Code.isCaller,amR,XD,guardIds]
def acu{A:Around}:(A.under (.builtin "type.__call__" (⇑C::us,kw))).units=A.units+1:=by
 first|rfl|simp[Zl,Code.cUnits,amR,XD]
def bn.make{k:Nat}{A:Around}(r:bn (k+1) A)(C:Addr)(us:List Value)(kw:List (Str×Value)):bn k (A.under (.builtin "type.__call__" (⇑C::us,kw))):=
 (r.hd,by have:=r.jS;rw[aib];omega,by have:=r.un;rw[acu];omega)
theorem bn.depth{k:Nat}{A:Around}(r:bn k A):A.depth<recursionLimit:=by have:=r.jS;omega
theorem bn.units{k:Nat}{A:Around}(r:bn k A):A.units+64<cLine:=by have:=r.un;omega
def yP:fO:=λ_ H Q=>Q [] H
def Lh(ba:TE)(Fi:fO):fO:=λσ H Q=>ba σ H λx H1=>Fi σ H1 λxs ar=>Q (x::xs) ar
section
variable{X:bg}{e:Expr}{aW:List Expr}{b2:TE}{t:fO}{pos:Pos}
def aA:g6 X [] yP:=λ_ _ _ _ H Q J h=>Sr ([],H,J,.nil,h)
def ah(aV:bw X e b2)(ao:g6 X aW t)(az:autoParam (starEach (e::aW) X.env=(p'p false (eval e X.env))::starEach aW X.env) A'r):g6 X (e::aW) (Lh b2 t):=by
 intro pos ae s σ H Q J h;rw[az];show wpAny _ _ (spliced ((p'p false (eval e X.env))::backTo pos (starEach aW X.env))) _ _ s;refine EW (bK (aV ae s σ H _ J h) λu s1 cw=>et cw λx H1 aZ b3 bU=>?_);exact bK (ao pos ae s1 σ H1 _ aZ bU) λus s2 ⟨xs,ar,b0,fV,dV⟩=>(x::xs,ar,b0,.cons b3 fV,dV)
def OM(t:fO):TE:=λσ H Q=>t σ H λxs H1=>↑xs<=sizeLine/\∀p,H1 p=none->Q ⇑p (upd H1 p (.tup xs))
def Pq(t:fO):TE:=λσ H Q=>t σ H λxs H1=>↑xs<=sizeLine/\∀p,H1 p=none->Q ⇑p (upd H1 p (.lst xs))
def oA{cz}(h:g6 X aW t):bw X (.Tuple aW cz pos) (OM t):=by
 intro ae s σ H Q J aL;refine wpAny_Tuple_spliced (bK (h pos ae s σ H _ J aL) λus s1 ⟨xs,H1,aZ,r,z,q⟩=>(by rw[<- ↑r];exact z,?_));have hf:H1 ↥s1=none:=aZ.bC.fresh (bR _);refine(.ref ↥s1,upd H1 ↥s1 (.tup xs),aZ.laid (t':=s1.toks) (λb u e=>fk _ e) (bR _) ?_,rfl,q _ hf);exact((z,_,hC _ rfl,rfl),us,r,(_,hC _ rfl,rfl,_,rfl))
def eJ(h:g6 X aW t):bw X (.List aW pos) (Pq t):=by
 intro ae s σ H Q J aL;refine wpAny_List_spliced (bK (h pos ae s σ H _ J aL) λus s1 ⟨xs,H1,aZ,r,z,q⟩=>(by rw[<- ↑r];exact z,?_));have hf:H1 ↥s1=none:=aZ.bC.fresh (bR _);refine(.ref ↥s1,upd H1 ↥s1 (.lst xs),aZ.laid (t':=s1.toks) (λb u e=>fk _ e) (bR _) ?_,rfl,q _ hf);exact(z,us,0,r,hC _ rfl)
end
abbrev bV:=List V->aw->c6->f7->Prop
abbrev kd:=List Env->aw->Shared->f7->Value->Shared->Prop
structure rX(P:Program)(w:World)(K:bq)(mg:Str->Option Value)(base:Heap)(A:Around)(outer:List Env)(s:Shared)(H:aw):Prop where
 frames:A.frames\outer
 mod:Mod K mg base
 bs:∀b o,base.get? b\o->s.heap.get? b\o/\H b=none
 oC:base.objs.size<=↥s
 n':s.heap.FunFrames base outer
 tA:∀b∈oE outer,H b=none
 bC:fD P w H s.heap
 bare:AllBare s.gens
def JG(outer:List Env)(P:Program)(w:World)(H:aw)(s:Shared)(Q:c6)(u:Value)(aj:Shared):Prop:=
 ∃v I,aj.os=s.os/\AllBare aj.gens/\h8 (oE outer) [] H I s.heap aj.heap/\fD P w I aj.heap/\bX v u/\Q v I
def DG(CX:kd)(outer:List Env)(P:Program)(w:World)(H:aw)(s:Shared)(Q:c6)(E:f7)(r:Result)(aj:Shared):Prop:=
 match r with
 | .ok (.ret u)=>JG outer P w H s Q u aj
 | .ok _=>False
 | .error e=>CX outer H s E e aj
structure cT(P:Program)(w:World)(K:bq)(mg:Str->Option Value)(base:Heap)(CX:kd)(k:Nat)(f:Addr)(fd:FuncData)(ps:List Str)(sp:bV):Prop where
 len:∀vs H Q E,sp vs H Q E->↑vs=↑ps
 run:∀(A:Around) (outer:List Env) (s:Shared) (H:aw) (args:Args) (us:List Value) (vs:List V) (Q:c6) (E:f7),bn k A->rX P w K mg base A outer s H->BindsTo s fd args (ps.zip us)->cN vs us->sp vs H Q E ->
  codeAny (model P w) A (.call ⇑f args) (DG CX outer P w H s Q E) s
theorem cT.mono{w:World}{K:bq}{mg:Str->Option Value}{base:Heap}{j k:Nat}{fd:FuncData}(F:cT P w K mg base CX j f fd ps sp)(h:j<=k) :
  cT P w K mg base CX k f fd ps sp:=(F.len,λA outer s H args us vs Q E ao=>F.run A outer s H args us vs Q E (ao.mono h))
def cT.imp{w:World}{K:bq}{mg:Str->Option Value}{base:Heap}{k:Nat}{fd:FuncData}(F:cT P w K mg base CX k f fd ps sp)
  (h:∀vs H Q E,kC vs H Q E->sp vs H Q E):cT P w K mg base CX k f fd ps kC:=
 (λvs H Q E q=>F.len vs H Q E (h _ _ _ _ q),λA outer s H args us vs Q E ao he aa aK az=>F.run A outer s H args us vs Q E ao he aa aK (h _ _ _ _ az))
def rX.make{w:World}{K:bq}{mg:Str->Option Value}{base:Heap}{A:Around}{outer:List Env}(e:rX P w K mg base A outer s H)(C:Addr)(us:List Value)(kw:List (Str×Value)) :
  rX P w K mg base (A.under (.builtin "type.__call__" (⇑C::us,kw))) outer s H:=(by first|exact e.frames|(simpa[Zl,Code.envs,XD,pushEnvs]using e.frames),e.mod,e.bs,e.oC,e.n',e.tA,e.bC,e.bare)
section
variable{X:bg}{ae:List (Addr×Obj)}{σ:St}{H:aw}{s aj:Shared}
def Inv.Ta(J:Inv X ae σ H s):rX X.prog X.w X.K X.mg X.base X.A X.stack s H:=
 (J.ok.frames,J.ok.mod,J.bs,cZ J.ok.oC J.qm,J.stack,J.O1,J.bC,J.bare)
def Inv.after(J:Inv X ae σ H s)(h:JG X.stack X.prog X.w H s Q u aj):gT X ae σ Q u aj:=by
 let(v,I,os,bare,un,bC,r,q):=h;let(ct,g,d,t,aq2):=aj;obtain rfl:aq2=s.os:=os;exact(v,I,J.call (h':=ct) (g':=g) (d':=d) (t':=t) (ch:=[]) un bC bare (λb z=>absurd z (by simp)),r,q)
end
def Bf(sp:bV)(dvs:List V)(E:f7)(t:fO):TE:=λσ H Q=>t σ H λvs H1=>sp (vs++dvs) H1 Q E
def Ou(C:Addr)(m:Str)(sp:bV)(dvs:List V)(E:f7)(ba:TE)(t:fO):TE:=λσ H Q=>ba σ H λx H1=>fQ x λa=>∃ax a6,H1 a\(.ins C ax a6)/\a6.lookup m=none /\
 t σ H1 λvs ar=>sp (x::(vs++dvs)) ar Q E
def VB(C:Addr)(sp:bV)(dvs:List V)(E:f7)(t:fO):TE:=λσ H Q=>t σ H λvs H1=>∀x ax,H1 x=none->H1 ax=none->ax≠x ->
 sp (⇑x::(vs++dvs)) (upd (upd H1 ax (.own x)) x (.ins C ax [])) (λv ar=>v=.cF/\Q ⇑x ar) E
def b7(K:bq)(fd:FuncData)(ps:List Str)(ds:List Value):Prop:=
 ∀(s:Shared) (us:List Value),K.In s.heap->↑(us++ds)=↑ps->BindsTo s fd (us,[]) (ps.zip (us++ds))
def b7.all{K:bq}{fd:FuncData}(h:∀us:List Value,↑us=↑ps->bindArgs fd (us,[])=pure (ps.zip us)):b7 K fd ps []:=λs us _ aN=>by
 rw[uy]at aN⊢;exact .of_eq (h us aN)
def rh(CX:kd)(X:bg)(E:f7):Prop:=∀(ae:List (Addr×Obj)) (σ:St) (H:aw) (s:Shared) (e:Value) (aj:Shared),Inv X ae σ H s->CX X.stack H s E e aj->X.d_ e aj
section
variable{X:bg}{CX:kd}{k:Nat}{f C:Addr}{fd:FuncData}{ps:List Str}{sp:bV}{dvs:List V}{ds:List Value}{E:f7}{x m:Str}{p pos fR:Pos}{e o:Expr}{aW:List Expr}{ba:TE}{t:fO}
theorem xe(F:cT X.prog X.w X.K X.mg X.base CX k f fd ps sp)(ao:bn k X.A)(aa:b7 X.K fd ps ds)(hd:cN dvs ds)(ag:rh CX X E)
  (J:Inv X ae σ H s) (r:cN vs us) (h:sp (vs++dvs) H Q E):wpAny (model X.prog X.w) X.A (call ⇑f us) (gT X ae σ Q) X.d_ s:=by
 have fV:cN (vs++dvs) (us++ds):=r.append hd;have aN:↑(us++ds)=↑ps:=by rw[<- ↑fV];exact F.len _ _ _ _ h
 refine wpAny_call (codeAny_mono (F.run X.A X.stack s H (us,[]) (us++ds) (vs++dvs) Q E ao J.Ta (aa s us J.kj aN) fV h) λr aj aL=>?_);cases r with
 |error e=>exact ag ae σ H s e aj J aL
 |ok fv=>
  cases fv with
  |ret u=>exact J.after aL
  |next=>exact lE aL
  |brk=>exact lE aL
  |cont=>exact lE aL
def aaB(F:cT X.prog X.w X.K X.mg X.base CX k f fd ps sp)(ao:bn k X.A)(a7:l6 X x)(hm:X.mg x\⇑f)(aB:vy X.K ⇑f=true)(aa:b7 X.K fd ps ds)(hd:cN dvs ds)(ag:rh CX X E)
  (aV:g6 X (e::aW) t) (p_:autoParam ((x==("__debug__":Str))=false) A'd) (he:autoParam (starEach (e::aW) X.env=(p'p false (eval e X.env))::starEach aW X.env) A'r) (cV:autoParam ((backTo pos (starEach aW X.env)).any (·.1)=false) A'r) :
  bw X (.Call (.Name x p) (e::aW) [] pos) (Bf sp dvs E t):=by
 intro ae s σ H Q J h;refine wpAny_Call_Name_kw (EO J a7 hm ?_ p_);refine D9 (h₀:=X.base) J.ok.mod.uI aB (bK (aV pos ae s σ H _ J h) λus s1 ⟨vs,H1,aZ,r,q⟩=>(aZ.kj,?_)) he cV;exact xe F ao aa hd ag aZ r q
def e8(he:bw X o ba)(c:h3 X.K C)(hm:fq X.K C m f)(F:cT X.prog X.w X.K X.mg X.base CX k f fd ps sp)(ao:bn k X.A)(aa:b7 X.K fd ps ds)(hd:cN dvs ds)(ag:rh CX X E)(aV:g6 X (e::aW) t)
  (fB:autoParam (starEach (e::aW) X.env=(p'p false (eval e X.env))::starEach aW X.env) A'r) (cV:autoParam ((backTo pos (starEach aW X.env)).any (·.1)=false) A'r)
  (c9:eval (.Call (.Attribute o m fR) (e::aW) [] pos) X.env=(do
   let eC <- eval o X.env
   standAt fR.atName
   let (f,first) <- holding [eC] (getMethod eC m pl)
   callWith pos f first (backTo pos (starEach (e::aW) X.env)) (backToKw pos (keywordEach [] X.env))):=by rfl) :
  bw X (.Call (.Attribute o m fR) (e::aW) [] pos) (Ou C m sp dvs E ba t):=by
 intro ae s σ H Q J h;refine D5 (pl:=pl) (bK (he ae s σ H _ J h) λu s1 cw=>et cw λx H1 aZ bk hT=>?_) c9;let(a,ex,ax,a6,iy,l,q):=fQ.out hT;subst ex;obtain rfl:u=fE a:=bk;refine FD aZ iy c hm l ?_;refine D9 (first:=[⇑a]) (h₀:=X.base) J.ok.mod.uI hm.bp (bK (aV pos ae s1 σ H1 _ aZ q) λus s2 ⟨vs,ar,b0,r,dV⟩=>(b0.kj,?_)) fB cV;exact xe (us:=⇑a::us) (vs:=⇑a::vs) F ao aa hd ag b0 (.cons rfl r) dV
def jZ(he:bw X o ba)(c:h3 X.K C)(hm:fq X.K C m f)(F:cT X.prog X.w X.K X.mg X.base CX k f fd ps sp)(ao:bn k X.A)(aa:b7 X.K fd ps ds)(hd:cN dvs ds)(ag:rh CX X E)
  (c9:eval (.Call (.Attribute o m fR) [] [] pos) X.env=(do
   let eC <- eval o X.env
   standAt fR.atName
   let (f,first) <- holding [eC] (getMethod eC m pl)
   callWith pos f first (backTo pos (starEach [] X.env)) (backToKw pos (keywordEach [] X.env))):=by rfl) :
  bw X (.Call (.Attribute o m fR) [] [] pos) (Ou C m sp dvs E ba yP):=by
 intro ae s σ H Q J h;refine D5 (pl:=pl) (bK (he ae s σ H _ J h) λu s1 cw=>et cw λx H1 aZ bk hT=>?_) c9;let(a,ex,ax,a6,iy,l,q):=fQ.out hT;subst ex;obtain rfl:u=fE a:=bk;refine FD aZ iy c hm l ?_;exact ac' (first:=[⇑a]) aZ.kj hm.bp (xe (us:=[⇑a]) (vs:=[⇑a]) F ao aa hd ag aZ (.cons rfl .nil) q)
structure q8(K:bq)(C f:Addr):Prop where
 makes:am9 K C=true
 init:dA K ⇑C "__init__"\(some ⇑f)
 fn:TB K ⇑f=true
 bp:vy K ⇑C=true
theorem aaT(M:q8 X.K C f)(F:cT X.prog X.w X.K X.mg X.base CX k f fd ps sp)(ao:bn (k+1) X.A)(aa:b7 X.K fd ps ds)(hd:cN dvs ds)
  (ag:rh CX X E) (J:Inv X ae σ H s) (r:cN vs us)
  (h:∀x ax,H x=none->H ax=none->ax≠x->sp (⇑x::(vs++dvs)) (upd (upd H ax (.own x)) x (.ins C ax [])) (λv ar=>v=.cF/\Q ⇑x ar) E) :
  wpAny (model X.prog X.w) X.A (call ⇑C us) (gT X ae σ Q) X.d_ s:=by
 have aL:=h (↥s+1) ↥s (J.bC.fresh (y1 _)) (J.bC.fresh (bR _)) (gN (wW _));have b0:=Inv.made (C:=C) J;have fV:cN (V.ref (↥s+1)::(vs++dvs)) (fE (↥s+1)::(us++ds)):=.cons rfl (r.append hd);have aN:↑(fE (↥s+1)::us++ds)=↑ps:=by
  have e:=↑fV;rw[F.len _ _ _ _ aL]at e;exact e.symm
 refine wpAny_call (ame (f:=f) J.kj M.makes M.init (beq_iff_eq.mp M.fn) (codeAny_mono (F.run _ X.stack _ _ (fE (↥s+1)::us,[]) (fE (↥s+1)::(us++ds)) _ _ E (ao.make C us [])
  (b0.Ta.make C us []) (aa _ (fE (↥s+1)::us) b0.kj aN) fV aL) λr aj kx=>?_))
 cases r with
 |error e=>exact ag ae σ _ _ e aj b0 kx
 | ok fv=>
  cases fv with
  |ret u=>
   let(v,I,eM,cM,ev,hj):=b0.after kx;subst ev;exact(cM,(V.ref (↥s+1),I,eM,rfl,hj))
  |next=>exact lE kx
  |brk=>exact lE kx
  |cont=>exact lE kx
def sY(M:q8 X.K C f)(F:cT X.prog X.w X.K X.mg X.base CX k f fd ps sp)(ao:bn (k+1) X.A)(a7:l6 X x)(hm:X.mg x\⇑C)(aa:b7 X.K fd ps ds)(hd:cN dvs ds)(ag:rh CX X E)
  (aV:g6 X (e::aW) t) (p_:autoParam ((x==("__debug__":Str))=false) A'd) (he:autoParam (starEach (e::aW) X.env=(p'p false (eval e X.env))::starEach aW X.env) A'r) (cV:autoParam ((backTo pos (starEach aW X.env)).any (·.1)=false) A'r) :
  bw X (.Call (.Name x p) (e::aW) [] pos) (VB C sp dvs E t):=by
 intro ae s σ H Q J h;refine wpAny_Call_Name_kw (EO J a7 hm ?_ p_);refine D9 (h₀:=X.base) J.ok.mod.uI M.bp (bK (aV pos ae s σ H _ J h) λus s1 ⟨vs,H1,aZ,r,q⟩=>(aZ.kj,?_)) he cV;exact aaT M F ao aa hd ag aZ r q
end
structure Db(N P:List Str)(sc:Scope):Prop where
 kind:sc.kind=.function
 co:sc.isCoroutine=false
 gen:sc.isGenerator=false
 aH:N.Nodup
 pre:N.take ↑P=P
 par:∀x∈P,sc.names.lookup x\.local\/sc.names.lookup x\.cell
 arI:∀y∈sc.names,y.2≠.free
theorem U'{kindOf:Str->Option NameKind}{x:Str}:∀{binds:List (Str×Value)} {m:Str->Option Value},(∀v,(p'p x v)∉binds)->bindL kindOf binds m x=m x
 |[],_,_=>rfl
 | (n,v)::r,m,h=>by
  unfold bindL;rw[U' λw hw=>h w (jj _ hw)];split
  .have:x≠n:=by rintro rfl;exact h v ox
   simp[this]
  .rfl
theorem VF{kindOf:Str->Option NameKind}{x:Str}:∀{binds:List (Str×Value)} {m:Str->Option Value},(∀v,(p'p x v)∉binds)->bindC kindOf binds m x=m x
 |[],_,_=>rfl
 | (n,v)::r,m,h=>by
  unfold bindC;rw[VF λw hw=>h w (jj _ hw)];split
  .rfl
  .have:x≠n:=by rintro rfl;exact h v ox
   simp[this]
theorem TZ{kindOf:Str->Option NameKind}{x:Str}{v:Value}:∀{P:List Str} {vs:List Value} {i:Nat} {m:Str->Option Value},P.Nodup->P[i]?\x->vs[i]?\v->kindOf x\.local ->
  bindL kindOf (P.zip vs) m x\v
 |[],_,_,_,_,h,_,_=>by simp at h
 |_::_,[],_,_,_,_,h,_=>by simp at h
 |p::P,w::vs,0,m,aH,af,ak,aB=>by
  simp at af ak;subst af;subst ak;show bindL kindOf ((p'p p w)::P.zip vs) m p=_;unfold bindL;rw[U' λv aK=>(qQ.mp aH).1 (Zm aK).1,if_pos aB];simp
 |p::P,w::vs,i+1,m,aH,af,ak,aB=>by
  show bindL kindOf ((p'p p w)::P.zip vs) m x=_;unfold bindL;exact TZ (i:=i) (qQ.mp aH).2 (by simpa using af) (by simpa using ak) aB
theorem Sb{kindOf:Str->Option NameKind}{x:Str}{v:Value}:∀{P:List Str} {vs:List Value} {i:Nat} {m:Str->Option Value},P.Nodup->P[i]?\x->vs[i]?\v->kindOf x≠some .local ->
  bindC kindOf (P.zip vs) m x\v
 |[],_,_,_,_,h,_,_=>by simp at h
 |_::_,[],_,_,_,_,h,_=>by simp at h
 |p::P,w::vs,0,m,aH,af,ak,aB=>by
  simp at af ak;subst af;subst ak;show bindC kindOf ((p'p p w)::P.zip vs) m p=_;unfold bindC;rw[VF λv aK=>(qQ.mp aH).1 (Zm aK).1,if_neg aB];simp
 |p::P,w::vs,i+1,m,aH,af,ak,aB=>by
  show bindC kindOf ((p'p p w)::P.zip vs) m x=_;unfold bindC;exact Sb (i:=i) (qQ.mp aH).2 (by simpa using af) (by simpa using ak) aB
noncomputable def start(N:List Str)(vs:List V):St:=vs.map some++Sf (↑N-↑vs) none
noncomputable def sZ(CX:kd)(P:Program)(w:World)(K:bq)(mg:Str->Option Value)(base:Heap)(N:List Str)(qual:Str)(scope:Scope)(f:Addr)(cd:Value)(A:Around)(outer:List Env)(s:Shared)(H:aw)(E:f7):bg where
 prog:=P
 w:=w
 K:=K
 mg:=mg
 base:=base
 A:=A.deeper (envOfC qual scope ↥s f cd)
 N:=N
 gE:=s
 tO:=H
 env:=envOfC qual scope ↥s f cd
 outer:=outer
 stack:=envOfC qual scope ↥s f cd::outer
 ex:=[]
 calm:=true
 fn:=λ_=>true
 dZ:=[]
 d_:=λe aj=>wpAny (model P w) (A.deeper (envOfC qual scope ↥s f cd)) (leaving (envOfC qual scope ↥s f cd) e) (λ_ u4=>CX outer H s E e u4) (λbF u4=>CX outer H s E bF u4) aj
def aac{sc:Scope}{n:Nat}{x:Str}(h:sc.names.lookup x\.cell):∃c,(cellsFrom n sc.names []).lookup x\c:=by
 have q:=aeE sc.names n [] (.inl h);exact alm.mp q
theorem an9{CX:kd}{P:Program}{w:World}{K:bq}{mg:Str->Option Value}{base:Heap}{N ps:List Str}{qual:Str}{scope:Scope}{f:Addr}{cd:Value}{A:Around}{outer:List Env}{s s1:Shared}{H:aw}{E:f7}{us:List Value}{vs:List V}
  (S:Db N ps scope) (hd:A.handled=none) (fb:rX P w K mg base A outer s H) (aN:↑vs=↑ps) (r:cN vs us)
  (x:InCallC s ↥s (bindL (envOfC qual scope ↥s f cd).kindOf (ps.zip us) λ_=>none) (cellsFrom (↥s+1) scope.names []) (bindC (envOfC qual scope ↥s f cd).kindOf (ps.zip us) λ_=>none) s1) :
  Inv (sZ CX P w K mg base N qual scope f cd A outer s H E) [] (start N vs) H s1:=by
 have cV:↑ps<=↑N:=by have:=congrArg tw S.pre;rw[ha]at this;omega
 let(af,tk,rfl,aB):=x.done;have vb:∀b:Addr,b∉(sZ CX P w K mg base N qual scope f cd A outer s H E).ex:=λb z=>absurd (show b∈([]:List Addr)from z) (by simp)
 refine((fb.mod,S.kind,rfl,rfl,bR _,λy z c af ak=>?_,λy aQ=>?_,λy c _ h=>?_,λ_=>hd,acq fb.frames,.inr (rfl,rfl),λb z=>absurd z (vb b),fb.bs,fb.oC,λb _ _=>vb b,λb z=>absurd z (vb b),fb.n',fb.tA),
  rfl,fb.bare,h8.kept aB,(_,x.toInCall.ns,λi y v af ak a8=>?_),λy c h=>(_,x.cell y c h),fb.bC.fresh (bR _),λy c h=>?_,λp aq=>absurd (show p∈([]:List (Addr×Obj))from aq) (by simp),fb.bC.kept aB,?_)
 .exact name_of_addr x.apart (wD af) (wD ak)
 .have aQ:scope.names.lookup y\.cell\/scope.names.lookup y\.free:=aQ;rcases aQ with aQ|aQ
  .exact aac aQ
  .exact absurd rfl (S.arI _ (wD aQ))
 .exact nR (x.above y c (wD h))
 .have ai:i<↑vs:=by
   unfold start at ak;by_cases ai:i<↑vs
   .exact ai
   .rw [j7 (by simpa using ai)]at ak;rw[List.getElem?_replicate]at ak;split at ak <;> cases ak
  have aV:vs[i]?\v:=by
   unfold start at ak;rw[lg (by simpa using ai),dv]at ak;cases e:vs[i]? with
   |none=>rw[e]at ak;cases ak
   |some a=>rw[e]at ak;cases ak;rfl
  let(u,bJ,cM):=r.get aV;have aq:ps[i]?\y:=by
   rw[<- S.pre,tV ()];exact af
  have RY:ps.Nodup:=by rw[<- S.pre];exact S.aH.sublist (List.take_sublist _ _)
  refine(u,cM,?_);rcases S.par y (cm aq)with k|k
  .exact .inl (k,TZ RY aq bJ k)
  .let(c,e):=aac (n:=↥s+1) k;refine .inr (.inl k,c,e,?_);have q:=x.cell y c e;rw[Sb RY aq bJ (by show scope.names.lookup y≠_;rw[k];decide)]at q;exact q
 .exact fb.bC.fresh (nR (x.above y c (wD h)))
 .unfold start;show _=↑N;rw[cU,aT,List.length_replicate];omega
theorem Ql{w:World}{K:bq}{mg:Str->Option Value}{base:Heap}{k:Nat}{name qual:Str}{Fp d9 doc pm f5 gf pN:Value}
 {N ps:List Str} (lk:K.lookup f\(pN,fN,.func (Bw name qual params body scope Fp d9 doc pm an f5 gf),uE)) (kq:aah K f5 qual=true) (S:Db N ps scope)
    (len:∀vs H Q E,sp vs H Q E->↑vs=↑ps)
    (pb:∀(A:Around) (outer:List Env) (s:Shared) (H:aw) (vs:List V) (Q:c6) (E:f7),bn k (A.deeper (envOfC qual scope ↥s f f5))->sp vs H Q E ->
      ∃t,iS (sZ CX P w K mg base N qual scope f f5 A outer s H E) body t/\t {cP:=λ_ I=>Q .cF I,m':=Q} (start N vs) H) :
    cT P w K mg base CX (k+1) f (Bw name qual params body scope Fp d9 doc pm an f5 gf) ps sp:=by
  refine(len,λA outer s H args us vs Q E ao fb aa r jk=>?_);have aN:=len _ _ _ _ jk;have k6:K.In s.heap:=fb.mod.uI.keeps λb o e=>(fb.bs b o e).1
  have lim:s.heap.NoLimit:=fb.mod.nolimit.keeps λb o e=>(fb.bs b o e).1
  have aon:∀y∈ps.zip us,scope.names.lookup y.1\.local\/(scope.names.lookup y.1\.cell/\((cellsFrom (↥s+1) scope.names []).lookup y.1).isSome=true):=λ⟨n,v⟩ aQ=>by
    rcases S.par n (Zm aQ).1 with q|q
    · exact .inl q
    · exact .inr (q,aeE _ _ _ (.inl q))
  refine codeAny_call_function ao.depth (k6 _ _ lk) rfl S.co S.gen rfl (PySem.W.codeRec_of k6 kq) (aa _ _ _ _ ?_);refine wpAny_newFunctionEnv_cells S.kind aon λenv he s1 x=>?_
  subst he;refine(lim.keeps x.toInCall.keep,codeAny_func ?_);let(t,c9,aL):=pb A outer s H vs Q E (ao.deeper _) jk;have J:Inv (sZ CX P w K mg base N qual scope f f5 A outer s H E) [] (start N vs) H s1:=an9 S ao.hd fb aN r x;refine wpAny_mono (c9 [] s1 (start N vs) H _ J aL) (λfv aj az=>?_) λe aj az=>az
  have fin:∀{av:St} {I:aw} {v:V} {u:Value},Inv (sZ CX P w K mg base N qual scope f f5 A outer s H E) [] av I aj->bX v u->Q v I->JG outer P w H s Q u aj:=
    λ{av I v u} bH cM q=>(v,I,bH.os,bH.bare,bH.base,bH.bC,cM,q)
  cases fv with
  | ret u=>
    let(v,av,I,bH,cM,q):=az;exact fin bH cM q
  | next=>
    let(av,I,bH,q):=az;exact fin (v:=V.cF) (u:=vZ) bH rfl q
  | brk=>
    let(_,_,_,q):=az;exact lE q
  | cont=>
    let(_,_,_,q):=az;exact lE q
section
variable{X:bg}{x:Str}{p pos:Pos}{e:Expr}{aW:List Expr}{t:fO}{id T:String}{r:List V->aw->c6->Prop}
def EP(r:List V->aw->c6->Prop)(t:fO):TE:=λσ H Q=>t σ H λvs H1=>r vs H1 Q
def fy(aC:mv X (.builtin id) r)(a7:l6 X x)(hm:X.mg x=none)(aK:bootBuiltins x\(.builtin id))(aV:g6 X (e::aW) t)(a5:autoParam (x≠"__name__") A'd)(p_:autoParam ((x==("__debug__":Str))=false) A'd)
  (he:autoParam (starEach (e::aW) X.env=(p'p false (eval e X.env))::starEach aW X.env) A'r) (cV:autoParam ((backTo pos (starEach aW X.env)).any (·.1)=false) A'r):bw X (.Call (.Name x p) (e::aW) [] pos) (EP r t):=by
 intro ae s σ H Q J h;refine wpAny_Call_Name_kw (sM J a7 hm aK ?_ a5 p_);exact au4 (bK (aV pos ae s σ H _ J h) λus s1 ⟨vs,H1,aZ,b3,bU⟩=>aC ae s1 σ H1 vs us Q aZ b3 bU) he cV
def rQ(aC:mv X (.type T) r)(a7:l6 X x)(hm:X.mg x=none)(aK:bootBuiltins x\(.type T))(aV:g6 X (e::aW) t)(a5:autoParam (x≠"__name__") A'd)(p_:autoParam ((x==("__debug__":Str))=false) A'd)
  (he:autoParam (starEach (e::aW) X.env=(p'p false (eval e X.env))::starEach aW X.env) A'r) (cV:autoParam ((backTo pos (starEach aW X.env)).any (·.1)=false) A'r):bw X (.Call (.Name x p) (e::aW) [] pos) (EP r t):=by
 intro ae s σ H Q J h;refine wpAny_Call_Name_kw (sM J a7 hm aK ?_ a5 p_);exact Fj (bK (aV pos ae s σ H _ J h) λus s1 ⟨vs,H1,aZ,b3,bU⟩=>aC ae s1 σ H1 vs us Q aZ b3 bU) he cV
end
end L2
namespace e'
open PySem PyProof.Rows
section
open PySem.SeqAt
open PySem.AutoSeq1 (wpAny_loadPart')
open PySem.MeetsSeq PySem.MeetsSeq2 PySem.MeetsSeq3
end
section
variable{prog:Program}{w:World}{A:Around}{E:Value->Shared->Prop}{s:Shared}
noncomputable def dn(n d:Nat):Option Int->Nat
 |none=>d
 |some v=>if v<0 then(v+(n:Int)).toNat else min v.toNat n
def aix(n d:Nat):dn n d none=d:=rfl
def Ed(n d k:Nat):dn n d (some (k:Int))=min k n:=by
 show(if(k:Int)<0 then((k:Int)+(n:Int)).toNat else min (k:Int).toNat n)=min k n;rw[if_neg (),mG]
theorem ai4(n d:Nat)(hd:d<=n)(o:Option Int):dn n d o<=n:=by
 cases o with
 |none=>exact hd
 |some v=>
  show(if v<0 then(v+(n:Int)).toNat else min v.toNat n)<=n;by_cases aK:v<0
  .rw [if_pos aK];omega
  .rw [if_neg aK];exact Nat.min_le_right _ _
def WT(v:Int)(n d:Nat):(if v<0 then max (v+(n:Int)) 0 else min v (n:Int))=((dn n d (some v):Nat):Int):=by
 show(if v<0 then max (v+(n:Int)) 0 else min v (n:Int))=(((if v<0 then(v+(n:Int)).toNat else min v.toNat n):Nat):Int);by_cases aK:v<0
 .simp only[if_pos aK];omega
 .simp only[if_neg aK];omega
theorem aop(lo ai:Option Int)(n:Nat):WU lo ai 1 (n:Int)=(p'p ((dn n 0 lo:Nat):Int) ((dn n n ai:Nat):Int)):=by
 have af:¬((1:Int)<0):=()
 unfold WU;simp only[af,if_false];refine Prod.ext ?_ ?_
 .cases lo with
  |none=>rfl
  |some v=>exact WT v n 0
 .cases ai with
  |none=>rfl
  |some v=>exact WT v n n
def adx(i j:Nat):Nl (i:Int) (j:Int) 1=j-i:=by
 unfold Nl;have af:(1:Int)>0:=()
 simp only[af,if_true,Int.ediv_one];split <;> omega
theorem aar(p:IsPart v o)(h:Q o s):wpAny (model prog w) A (atY v) Q E s:=by
 cases p with
 |none=>exact slicePart_none h
 |int i t=>exact slicePart_int h
def agC{cX:Addr}{lp lb:Value}{lo ai:Option Int}{n:Nat}{Q:Int×Int×Nat->Shared->Prop}(az:s.heap.IsSliceOf cX lp lb .none)(pl:IsPart lp lo)(pu:IsPart lb ai)
  (h:Q (p'p ((dn n 0 lo:Nat):Int) (p'p 1 (dn n n ai-dn n 0 lo))) s):wpAny (model prog w) A (arB ⇑cX (pure (n:Int))) Q E s:=by
 let(os,Bi,DF,Gp):=id az;unfold arB ate;refine wpAny_bind (wpAny_bind (wpAny_field Bi Gp (x:=lp) rfl (wpAny_bind (wpAny_field Bi Gp (x:=lb) rfl (wpAny_bind (wpAny_field Bi Gp (x:=.none) rfl (wpAny_pure ?_)))))));refine wpAny_bind (slicePart_none ?_);show wpAny _ _ (if((1:Int)==0)=true then _ else _) _ _ s;rw[if_neg ∅];refine wpAny_bind (aar pl (wpAny_bind (aar pu (wpAny_bind (wpAny_pure ?_)))));show wpAny _ _ (match WU lo ai 1 (n:Int)with|(lo,ai)=>pure (p'p lo (p'p (1:Int) (Nl lo ai 1)))) _ _ s;rw[aop lo ai n];show wpAny _ _ (pure (p'p ((dn n 0 lo:Nat):Int) (p'p (1:Int) (Nl ((dn n 0 lo:Nat):Int) ((dn n n ai:Nat):Int) 1)))) _ _ s;rw[adx];exact wpAny_pure h
def arE(xs:Array Value)(i k:Nat):((fp k).filterMap λ(m:Nat)=>xs[((i:Int)+(m:Int)*1).toNat]?).toArray=((xs.toList.drop i).take k).toArray:=by
 have e:(λ(m:Nat)=>xs[((i:Int)+(m:Int)*1).toNat]?)=λm=>xs[i+m]?:=by
  funext m;have:((i:Int)+(m:Int)*1).toNat=i+m:=()
  rw[this]
 rw[e];have:=pick_run xs i k;rw[List.filterMap_map]at this;have aE:((λx=>xs[x]?) ∘ λx=>i+x)=λm=>xs[i+m]?:=rfl
 rw[aE]at this;rw[this]
theorem akQ{t cX:Addr}{items:Array Value}{lp lb:Value}{lo ai:Option Int}{Q:Value->Shared->Prop}(c9:IsTup s.heap t items)(az:s.heap.IsSliceOf cX lp lb .none)(pl:IsPart lp lo)(pu:IsPart lb ai)
  (hw:¬(dn items.size 0 lo=0/\dn items.size items.size ai=items.size))
  (h:Q (.ref ↥s) {s with heap:=s.heap.push {cls:=.type "tuple",data:=.seq ((items.toList.drop (dn items.size 0 lo)).take (dn items.size items.size ai-dn items.size 0 lo)).toArray} })
  (hsz:items.size<=sizeLine):wpAny (model prog w) A (getItem ⇑t ⇑cX) Q E s:=by
 have G_:sizeOk (.seq ((items.toList.drop (dn items.size 0 lo)).take (dn items.size items.size ai-dn items.size 0 lo)).toArray):=by
  show((items.toList.drop (dn items.size 0 lo)).take (dn items.size items.size ai-dn items.size 0 lo)).toArray.size<=sizeLine;rw[e2,ha,k4,Hc];omega
 have aI:dn items.size items.size ai<=items.size:=ai4 _ _ (bR _) ai;let(os,Bi,DF,Gp):=id az;have aof:s.TypeIs ⇑cX "slice":=(os,Bi,DF);unfold getItem
 try with_reducible refine wpAny_holding ?_
 first|refine wpAny_bind (wpAny_pure ?_)|skip
 refine wpAny_bind (wpAny_sequenceKey c9.typeIs ∅ ?_);refine wpAny_bind (wpAny_callSpecial?_slot (name:=ab "__getitem__") c9.typeIs Tn
  (wpAny_call_entry Tn c9.typeIs entry_tuple_getitem ?_ (args_tuple_getitem _ _)))
 show wpAny _ _ (asW ⇑t >>= _) _ _ s;refine wpAny_bind (tupleItemsOf_ c9 ?_);refine wpAny_bind (wpAny_typeOf aof ?_);rw[if_pos ∅];refine wpAny_bind (agC az pl pu ?_);have sE:¬((((dn items.size 0 lo:Nat):Int)==0&&(1:Int)==1&&(dn items.size items.size ai-dn items.size 0 lo)==items.size)=true):=by
  intro q;rw[kb,kb]at q;have bU:((dn items.size 0 lo:Nat):Int)=0:=eq_of_beq q.1.1;have dV:dn items.size items.size ai-dn items.size 0 lo=items.size:=eq_of_beq q.2;exact hw ((),())
 show wpAny _ _ (if(((dn items.size 0 lo:Nat):Int)==0&&(1:Int)==1&&(dn items.size items.size ai-dn items.size 0 lo)==items.size)=true then _ else _) _ _ s;rw[if_neg sE,arE]
 first
  |exact wpAny_bind (m:=M0 _) (wpAny_newObj_type (wpAny_pure (_,rfl,wpAny_pure h)) G_)
  |exact wpAny_bind (m:=M0 _) (wpAny_newObj_type (wpAny_bind (wpAny_pure (wpAny_pure (_,rfl,wpAny_pure h)))) G_)
  |exact wpAny_bind (wpAny_bind (m:=M0 _) (wpAny_newObj_type (wpAny_pure (wpAny_pure (_,rfl,wpAny_pure h))) G_))
  |exact wpAny_bind (wpAny_bind (m:=M0 _) (wpAny_newObj_type (wpAny_pure (_,rfl,wpAny_pure h)) G_))
end
end e'
namespace L2
open PySem PySem.Spec PyProof.Rows
abbrev k7:=St->aw->(Option Int->aw->Prop)->Prop
def G9(X:bg)(e:Option Expr)(t:k7):Prop:=
 ∀(ae:List (Addr×Obj)) (s:Shared) (σ:St) (H:aw) (Q:Option Int->aw->Prop),Inv X ae σ H s->t σ H Q ->
  wpAny (model X.prog X.w) X.A (evalPart e X.env) (λu aj=>∃o I,Inv X ae σ I aj/\IsPart u o/\Q o I) X.d_ s
def LM:k7:=λ_ H Q=>Q none H
def Md(t:TE):k7:=λσ H Q=>t σ H λx H1=>hh x λi=>Q (some i) H1
theorem ad1{ns:List Int}:∀{us:List Value},cN (ns.map V.int) us->IntsAre us ns:=by
 induction ns with
 |nil=>intro us r;rw[qE]at r;cases r;exact .nil
 | cons n ns c4=>
  intro us r;rw[es]at r;cases r with
  |cons b3 fV=>
   let(t,e):=b3;subst e;exact .cons n t (c4 fV)
section
variable{X:bg}{e:Expr}{b2:TE}{lo ai:Option Expr}{dk x7:k7}{pos du:Pos}
def qc:G9 X none LM:=by
 intro ae s σ H Q J h;rw[evalPart_none];exact wpAny_pure (none,H,J,.none,h)
def n_(h:bw X e b2):G9 X (some e) (Md b2):=by
 intro ae s σ H Q J hw;rw[evalPart_some];refine bK (h ae s σ H _ J hw) λu s1 cw=>et cw λx H1 aZ b3 bU=>?_
 let(i,rfl,q):=hh.out bU;let(t,rfl):=b3;exact(some i,H1,aZ,.int i t,q)
def EN(X:bg)(r:V->Option Int->Option Int->aw->c6->Prop):Prop:=
 ∀(ae:List (Addr×Obj)) (s:Shared) (σ:St) (H:aw) (x:V) (v lp lb:Value) (lo ai:Option Int) (cX:Addr) (Q:c6),Inv X ae σ H s->bX x v->s.heap.IsSliceOf cX lp lb .none->IsPart lp lo->IsPart lb ai->r x lo ai H Q ->
  ∃T id,typeLookup (.type T) "__getitem__"=pure (some (.builtin id))/\s.TypeIs v T/\wpAny (model X.prog X.w) X.A (getItem v ⇑cX) (gT X ae σ Q) X.d_ s
def Hj(r:V->Option Int->Option Int->aw->c6->Prop)(b2:TE)(dk x7:k7):TE:=λσ H Q=>b2 σ H λx H1=>dk σ H1 λl ar=>x7 σ ar λu a'=>r x l u a' Q
def o3(ao:EN X r)(he:bw X e b2)(aN:G9 X lo dk)(bJ:G9 X ai x7):bw X (.Subscript e (.Slice lo ai none du) pos) (Hj r b2 dk x7):=by
 intro ae s σ H Q J h;refine Subscript_ (bK (he ae s σ H _ J h) λv s1 cw=>et cw λx H1 aZ b3 bU=>?_);refine wpAny_Slice (bK (aN ae s1 σ H1 _ aZ bU) λlp s2 ⟨l,ar,b0,pl,dV⟩=>bK (bJ ae s2 σ ar _ b0 dV) λlb s3 c7=>?_);let(u,a',eM,pu,hj):=c7;rw[evalPart_none];refine wpAny_pure ?_;have h4:Inv X ae σ a' {s3 with heap:=s3.heap.push {cls:=.type "slice",data:=.fields #[lp,lb,.none]} }:=eM.kept (t':=s3.toks) λb cG q=>fk _ q
 let(T,id,jR,c9,a7):=ao ae {s3 with heap:=s3.heap.push {cls:=.type "slice",data:=.fields #[lp,lb,.none]} } σ a' x v lp lb l u ↥s3 Q h4 b3 (auW ..) pl pu hj;show wpAny (model X.prog X.w) X.A (subscriptTail e (.Slice lo ai none du) v (.ref ↥s3)) (gT X ae σ Q) X.d_ {s3 with heap:=s3.heap.push {cls:=.type "slice",data:=.fields #[lp,lb,.none]} };exact tail_any (ops:=[.ref ↥s3,v]) c9 jR a7 (by with_unfolding_all rfl)
noncomputable def jC(xs:List V)(lo ai:Option Int):List V:=(xs.drop (e'.dn ↑xs 0 lo)).take (e'.dn ↑xs ↑xs ai-e'.dn ↑xs 0 lo)
def YG(xs:List V)(lo ai:Option Int):↑(jC xs lo ai)<=↑xs:=by
 unfold jC;rw[ha,k4];omega
def SI(K:bq):V->Option Int->Option Int->aw->c6->Prop:=λx lo ai H Q=>∃a xs,x=⇑a/\d4 K H a xs /\
 ¬(e'.dn ↑xs 0 lo=0/\e'.dn ↑xs ↑xs ai=↑xs)/\∀p,H p=none->Q ⇑p (upd H p (.tup (jC xs lo ai)))
def apQ:EN X (SI X.K):=by
 intro ae s σ H x v lp lb lo ai cX Q J bk az pl pu h;let(a,xs,rfl,ag,hw,q):=h;cases bk;let(a3,r,c9,aO):=J.tuple ag;have hlen:a3.toArray.size=↑xs:=by rw[e2];exact r.length.symm
 refine("tuple",_,Tn.lookup,c9.typeIs,?_);refine e'.akQ c9 az pl pu (by rw[hlen];exact hw) ?_ (by rw[hlen];exact aO);rw[hlen];refine(.ref ↥s,_,J.laid (t':=s.toks) (o:=.tup (jC xs lo ai)) (λb cG q=>fk _ q) (bR _) ?_,rfl,q _ (J.bC.fresh (bR _)));exact((cZ (YG xs lo ai) aO,_,hC _ rfl,rfl),_,(r.drop (e'.dn ↑xs 0 lo)).take (e'.dn ↑xs ↑xs ai-e'.dn ↑xs 0 lo),IsTup.new _ _)
end
noncomputable def p1(n:Nat)(i:Int):Option Nat:=if 0<=i then(if i<n then some i.toNat else none)else if -(n:Int)<=i then some (i+n).toNat else none
noncomputable def gU{α:Type}(xs:List α)(i:Int):Option α:=(p1 ↑xs i).bind λj=>xs[j]?
def SW(h:p1 n i\j):seqIndex? i n\j/\j<n/\-(n:Int)<=i/\i<n:=by
 unfold p1 at h;by_cases h0:0<=i
 .rw[if_pos h0]at h;by_cases af:i<n
  .rw [if_pos af]at h;have e:i.toNat=j:=er h;exact(by rw[seqIndex_of h0 af,e],(),(),af)
  .rw [if_neg af]at h;cases h
 .rw[if_neg h0]at h;by_cases af:-(n:Int)<=i
  .rw [if_pos af]at h;have e:(i+n).toNat=j:=er h;exact(by rw[seqIndex_neg () af,e],(),af,())
  .rw [if_neg af]at h;cases h
theorem M4(h:gU xs i\v):∃j,seqIndex? i ↑xs\j/\xs[j]?\v/\j<↑xs/\-(↑xs:Int)<=i/\i<↑xs:=by
 unfold gU at h;cases e:p1 ↑xs i with
 |none=>rw[e]at h;cases h
 |some j=>
  rw[e]at h;let(af,ak,a8,bZ):=SW e;exact(j,af,h,ak,a8,bZ)
def cI{α:Type}{xs:List α}{j:Nat}{v:α}(h:xs[j]?\v):gU xs (j:Int)\v:=by
 have aI:j<↑xs:=(b5.mp h).1;have e:p1 ↑xs (j:Int)\j:=by
  unfold p1;rw[if_pos (),if_pos ()];simp
 unfold gU;rw[e];exact h
def xq(xs:List α)(v:α):gU (xs++[v]) (-1)\v:=by
 have aN:↑(xs++[v])=↑xs+1:=by simp
 have e:p1 ↑(xs++[v]) (-1)=some ↑xs:=by
  unfold p1;rw[aN,if_neg ∅,if_pos ()];congr 1;omega
 unfold gU;rw[e];show(xs++[v])[↑xs]?\v;simp
def Tc(b:Expr):Prop:=∀o i,subscripted b false o i=operate [o,i] (getItem o i)
def yJ(X:bg)(r:fK):Prop:=
 ∀(value slice:Expr) (ae:List (Addr×Obj)) (s:Shared) (σ:St) (H:aw) (x y:V) (v u:Value) (Q:c6),Inv X ae σ H s->bX x v->bX y u->r x y H Q ->
  subscripted slice false v u=operate [v,u] (getItem v u)->wpAny (model X.prog X.w) X.A (subscriptTail value slice v u) (gT X ae σ Q) X.d_ s
def Cg(X:bg)(id:String)(r:V->List V->aw->c6->Prop):Prop:=
 ∀(ae:List (Addr×Obj)) (s:Shared) (σ:St) (H:aw) (x:V) (xs:List V) (v:Value) (us:List Value) (Q:c6),Inv X ae σ H s->bX x v->cN xs us->r x xs H Q ->
  wpAny (model X.prog X.w) X.A (call (.builtin id) (v::us)) (gT X ae σ Q) X.d_ s
section
variable{X:bg}{a b:Expr}{ba bS:TE}{pos:Pos}
def amU(ao:yJ X r)(aV:bw X a ba)(aa:bw X b bS)(az:Tc b):bw X (.Subscript a b pos) (ui r ba bS):=by
 intro ae s σ H Q J h;exact Subscript_ (Jy aV aa J h λv u s2 x y ar b0 bk bB q=>ao a b ae s2 σ ar x y v u Q b0 bk bB q (az _ _))
def IZ(K:bq):fK:=λx y H Q=>fQ x λp=>∃xs,hh y λi=>ay K H p xs/\∃v,gU xs i\v/\Q v H
def TW(K:bq):fK:=λx y H Q=>fQ x λp=>∃xs,hh y λi=>d4 K H p xs/\∃v,gU xs i\v/\Q v H
def N5:fK:=λx y H Q=>∃z i c,x=.str z/\y=.int i/\↑z<=sizeLine/\gU z.cps.toList i\c/\Q (.str ⟨#[c]⟩) H
def dp:yJ X (IZ X.K):=by
 intro value slice ae s σ H x y v u Q J bk bB h az;let(p,rfl,xs,jo):=fQ.out h;let(i,rfl,aL,z,he,q):=hh.out jo;cases bk;let(t,rfl):=bB;let(a3,r,pl,aO):=J.list aL;let(j,af,ak,a8,bZ,dS):=M4 he;let(w,q7,f6):=r.get ak;have aN:=↑r;have a5:=uW;have fin:gT X ae σ Q w s:=(z,H,J,f6,q);by_cases h0:0<=i
 .have aI:i.toNat=j:=by
   rw[seqIndex_of h0 dS]at af;exact er af
  exact item_listR pl.isList h0 () (by rw[aI];simpa using q7) fin az
 .have aI:(i+(a3.toArray.size:Int)).toNat=j:=by
   rw[seqIndex_neg () bZ]at af;rw[e2,<- aN];exact er af
  exact subscriptTail_builtinR (x:=w) pl.isList.typeIs slot_list_getitem.lookup
   (wpAny_getItem_list_neg (Q:=λr aj=>r=w/\gT X ae σ Q r aj) pl.isList () (by rw[e2] <;> omega) () (by rw[aI];simpa using q7) (rfl,fin)) az
def hk:yJ X (TW X.K):=by
 intro value slice ae s σ H x y v u Q J bk bB h az;let(p,rfl,xs,jo):=fQ.out h;let(i,rfl,aL,z,he,q):=hh.out jo;cases bk;let(t,rfl):=bB;let(a3,r,pl,aO):=J.tuple aL;let(j,af,ak,a8,bZ,dS):=M4 he;let(w,q7,f6):=r.get ak;have aN:=↑r;have a5:=uW;have fin:gT X ae σ Q w s:=(z,H,J,f6,q);exact subscriptTail_builtinR (x:=w) pl.typeIs slot_tuple_getitem.lookup
  (getItem_tuple (j:=j) (Q:=λr aj=>r=w/\gT X ae σ Q r aj) pl () () (by rw[e2,<- aN];exact af) (by simpa using q7) (rfl,fin)) az
def Oz:yJ X N5:=by
 intro value slice ae s σ H x y v u Q J bk bB h az;let(z,i,c,rfl,rfl,aO,he,q):=h;let(t,rfl):=bk;let(t',rfl):=bB;let(j,af,ak,a8,bZ,dS):=M4 he;have aN:↑z.cps.toList=↑z:=by simp[x_]
 rw[aN]at af bZ dS;have a5:=uW;exact tail_any (typeIs_str s z t) slot_str_getitem.lookup (getItem_str (c:=c) (by
  have au:decide (i < -(2 ^ 63:Int))=false:=decide_eq_false ();have aE:decide (i≥2 ^ 63)=false:=decide_eq_false ();rw[au,aE,Y6]) (by rw[af];simpa using ak) (.str ⟨#[c]⟩,H,J.tok _,(_,rfl),q)) az
def anS(a3:List Value)(n j:Nat)(u:Value):oT (·.setIfInBounds j u) {cls:=.type "list",data:=.seq a3.toArray n}={cls:=.type "list",data:=.seq (a3.set j u).toArray n}:=by
 simp[oT]
theorem Inv.lst{p:Addr}(J:Inv X ae σ H s)(h:H p\(.lst xs)) :
  ∃(a3:List Value) (n:Nat),cN xs a3/\s.heap.get? p=some {cls:=.type "list",data:=.seq a3.toArray n}/\↑xs<=sizeLine:=by
 let(z,a3,n,r,e):=J.bC p _ h;exact(a3,n,r,e,z)
def Inv.ai5{p:Addr}{a3 its':List Value}(J:Inv X ae σ H s)(h:H p\(.lst xs))
  (aU:s.heap.get? p=some {cls:=.type "list",data:=.seq a3.toArray n}) (hf:f {cls:=.type "list",data:=.seq a3.toArray n}={cls:=.type "list",data:=.seq its'.toArray dX}) (r:cN ys its') (aO:↑ys<=sizeLine) (t:Nat) :
  Inv X ae σ (upd H p (.lst ys)) {s with heap:=s.heap.update p f,toks:=t}:=by
 have e:(s.heap.update p f).get? p=some {cls:=.type "list",data:=.seq its'.toArray dX}:=by
  rw[aeO f aU (by rw[hf] <;> rfl),hf]
 refine J.write (x:=p) (e:=p) (by rw[h];trivial) (.inl rfl) (λb u aa q=>(qr _ _ (dm aa)).trans q) (_,e) ?_;exact(aO,its',dX,r,e)
def N1:V->V->V->aw->(aw->Prop)->Prop:=λo i v H Q=>fQ o λp=>∃xs,hh i λk=>H p\(.lst xs)/\∃j,p1 ↑xs k\j/\Q (upd H p (.lst (xs.set j v)))
def aaU:Qv X N1:=by
 intro ae s σ H o i v eC hb u Q J ar4 GG cM h;let(p,rfl,xs,jo):=fQ.out h;let(k,rfl,aq,j,aI,q):=hh.out jo;cases ar4;let(t,rfl):=GG;let(a3,n,r,aU,aO):=J.lst aq;let(af,ak,a8,bZ):=SW aI;have aN:=↑r;have a5:=uW;have i':Inv X ae σ (upd H p (.lst (xs.set j v))) {s with heap:=s.heap.update p (oT (·.setIfInBounds j u))}:=
  J.ai5 aq aU (anS a3 n j u) (r.set cM j) (by rw[abz];exact aO) s.toks
 by_cases h0:0<=k
 .have aB:k.toNat=j:=by
   rw[seqIndex_of h0 bZ]at af;exact er af
  exact PySem.W.ki_setAt aU h0 () (by rw[e2,<- aN];exact bZ) (by rw[aB];exact(_,i',q))
 .have aB:(k+(a3.toArray.size:Int)).toNat=j:=by
   rw[seqIndex_neg () a8]at af;rw[e2,<- aN];exact er af
  exact PySem.W.ki_setBack aU () (by rw[e2,<- aN];exact a8) () (by rw[aB];exact(_,i',q))
theorem arL(lo ai:Option Int)(n:Nat):(sliceBounds lo ai none n).1=((e'.dn n 0 lo:Nat):Int)/\(sliceBounds lo ai none n).2.1=((e'.dn n n ai:Nat):Int)/\(sliceBounds lo ai none n).2.2=1:=by
 refine(?_,?_,rfl)
 .cases lo with
  |none=>simp[sliceBounds,e'.dn]
  |some i=>
   simp only[sliceBounds,e'.dn,aiB,(∅:(1:Int)>0),if_true];by_cases h:i<0
   .simp only[h,if_true] <;> omega
   .simp only[h,if_false] <;> omega
 .cases ai with
  |none=>simp[sliceBounds,e'.dn]
  |some i=>
   simp only[sliceBounds,e'.dn,aiB,(∅:(1:Int)>0),if_true];by_cases h:i<0
   .simp only[h,if_true] <;> omega
   .simp only[h,if_false] <;> omega
def akV(a3:List Value)(lo ai:Option Int):slicePick a3.toArray lo ai none=((a3.drop (e'.dn ↑a3 0 lo)).take (e'.dn ↑a3 ↑a3 ai-e'.dn ↑a3 0 lo)).toArray:=by
 let(af,ak,a8):=arL lo ai a3.toArray.size;unfold slicePick;rw[af,ak,a8];simp only[sliceRange_one,pick_run,e2] <;> rfl
def Nd(K:bq):V->Option Int->Option Int->aw->c6->Prop:=λx lo ai H Q=>∃a xs,x=⇑a/\ay K H a xs/\∀p,H p=none->Q ⇑p (upd H p (.lst (jC xs lo ai)))
def wb:EN X (Nd X.K):=by
 intro ae s σ H x v lp lb lo ai cX Q J bk az pl pu h;let(a,xs,rfl,ag,q):=h;cases bk;let(a3,r,c9,aO):=J.list ag;have hlen:=↑r;refine("list",_,slot_list_getitem.lookup,c9.isList.typeIs,?_);refine wpAny_getItem_list_slice c9.isList az pl pu .none (by simp) ?_ (by rw[e2] <;> omega);rw[akV,<- hlen];refine(.ref ↥s,_,J.laid (t':=s.toks) (o:=.lst (jC xs lo ai)) (λb cG q=>fk _ q) (bR _) ?_,rfl,q _ (J.bC.fresh (bR _)));exact(cZ (YG xs lo ai) aO,_,0,(r.drop (e'.dn ↑xs 0 lo)).take (e'.dn ↑xs ↑xs ai-e'.dn ↑xs 0 lo),hC _ rfl)
noncomputable def mQ:V->Bool
 | .cF=>true
 | .bG _=>true
 | .int _=>true
 | .str _=>true
 |_=>false
noncomputable def nI:V->V->Bool
 | .cF,.cF=>true
 | .bG a,.bG b=>a==b
 | .bG a,.int b=>(if a then 1 else 0)==b
 | .int a,.bG b=>a==(if b then 1 else 0)
 | .int a,.int b=>a==b
 | .str a,.str b=>a==b
 |_,_=>false
theorem e'a{a b}:nI (.int a) (.int b)=(a==b):=rfl
theorem e'b{a b}:nI (.str a) (.str b)=(a==b):=rfl
theorem e'c{a b}:nI (.bG a) (.bG b)=(a==b):=rfl
theorem alz{A:Around}{y x:V}(bB:bX y u)(bk:bX x v)(aa8:mQ y=true)(nS:mQ x=true):alM A s u v (nI y x):=by
 cases y with
 |cF=>
  cases bB;cases x with
  |cF=>cases bk;exact SeqAt.EqAt.same _
  |bG b=>cases bk;exact SeqAt.EqAt.none_bool b
  |int b=>let(t,rfl):=bk;exact SeqAt.EqAt.none_int b t
  |str b=>let(t,rfl):=bk;exact SeqAt.EqAt.none_str b t
  |_=>exact absurd (show false=true from nS) fT
 |bG a=>
  cases bB;cases x with
  |cF=>cases bk;exact SeqAt.EqAt.bool_none a
  |bG b=>cases bk;exact SeqAt.EqAt.bool_bool a b
  |int b=>let(t,rfl):=bk;exact SeqAt.EqAt.bool_int a b t
  |str b=>let(t,rfl):=bk;exact SeqAt.EqAt.bool_str a b t
  |_=>exact absurd (show false=true from nS) fT
 |int a=>
  let(t',rfl):=bB;cases x with
  |cF=>cases bk;exact SeqAt.EqAt.int_none a t'
  |bG b=>cases bk;exact SeqAt.EqAt.int_bool a t' b
  |int b=>let(t,rfl):=bk;exact SeqAt.EqAt.int_int a t' b t
  |str b=>let(t,rfl):=bk;exact asv a t' b t
  |_=>exact absurd (show false=true from nS) fT
 |str a=>
  let(t',rfl):=bB;cases x with
  |cF=>cases bk;exact SeqAt.EqAt.str_none a t'
  |bG b=>cases bk;exact SeqAt.EqAt.str_bool a t' b
  |int b=>let(t,rfl):=bk;exact aqI a t' b t
  |str b=>let(t,rfl):=bk;exact SeqAt.EqAt.str_str a t' b t
  |_=>exact absurd (show false=true from nS) fT
 |_=>exact absurd (show false=true from aa8) fT
noncomputable def l2(x:V)(u:Value):Bool:=match u with
 | .none=>nI .cF x
 | .bool b=>nI (.bG b) x
 | .int i _=>nI (.int i) x
 | .str z _=>nI (.str z) x
 |_=>false
theorem Vr{x y:V}(r:bX y u)(f:mQ y=true):l2 x u=nI y x:=by
 cases y with
 |cF=>cases r;rfl
 |bG b=>cases r;rfl
 |int i=>let(t,rfl):=r;rfl
 |str z=>let(t,rfl):=r;rfl
 |_=>exact absurd (show false=true from f) fT
theorem Bu{x:V}:∀{xs:List V} {us:List Value},cN xs us->xs.all mQ=true->us.any (l2 x)=xs.any λy=>nI y x
 |_,_,.nil,_=>rfl
 |y::xs,u::us,.cons r t,f=>by
  rw[aka,kb]at f;rw[AR,AR,Vr r f.1,Bu t f.2]
theorem zh{A:Around}{x:V}(bk:bX x v)(nS:mQ x=true):∀{xs:List V} {us:List Value},cN xs us->xs.all mQ=true->∀u∈us,alM A s u v (l2 x u)
 |_,_,.nil,_=>λu bJ=>by cases bJ
 |y::xs,u::us,.cons r t,f=>λvf bJ=>by
  rw[aka,kb]at f;rcases d6.mp bJ with rfl|bJ
  .rw [Vr r f.1];exact alz r bk f.1 nS
  .exact zh bk nS t f.2 vf bJ
noncomputable def tG(x:V)(xs:List V):Bool:=xs.any λy=>nI y x
def FN(K:bq)(neg:Bool):fK:=λx y H Q=>∃p xs,y=⇑p/\(ay K H p xs\/d4 K H p xs)/\mQ x=true/\xs.all mQ=true/\Q (.bG (if neg then !tG x xs else tG x xs)) H
def xn:i8 X (compareOp .In) (FN X.K false):=by
 intro ae s σ H x y v u Q J bk bB h;let(p,xs,rfl,aL,nS,a6,q):=h;cases bB;rcases aL with aL|aL
 .let(a3,r,pl,aO):=J.list aL;refine SeqAt.in_listAt (l2 x) pl.isList (λw hw=>zh bk nS r a6 w (by simpa using hw)) (.bG _,H,J,rfl,?_);rw[show a3.toArray.any (l2 x)=a3.any (l2 x)by simp,Bu r a6];exact q
 .let(a3,r,pl,aO):=J.tuple aL;refine SeqAt.in_tupleAt (l2 x) pl (λw hw=>zh bk nS r a6 w (by simpa using hw)) (.bG _,H,J,rfl,?_);rw[show a3.toArray.any (l2 x)=a3.any (l2 x)by simp,Bu r a6];exact q
def LK:i8 X (compareOp .NotIn) (FN X.K true):=by
 intro ae s σ H x y v u Q J bk bB h;let(p,xs,rfl,aL,nS,a6,q):=h;cases bB;rcases aL with aL|aL
 .let(a3,r,pl,aO):=J.list aL;refine SeqAt.notIn_listAt (l2 x) pl.isList (λw hw=>zh bk nS r a6 w (by simpa using hw)) (.bG _,H,J,rfl,?_);rw[show a3.toArray.any (l2 x)=a3.any (l2 x)by simp,Bu r a6];exact q
 .let(a3,r,pl,aO):=J.tuple aL;refine SeqAt.notIn_tupleAt (l2 x) pl (λw hw=>zh bk nS r a6 w (by simpa using hw)) (.bG _,H,J,rfl,?_);rw[show a3.toArray.any (l2 x)=a3.any (l2 x)by simp,Bu r a6];exact q
def iu:mv X (.builtin "len") (λxs H Q=>ov xs λx=>fQ x λp=>∃ys,(ay X.K H p ys\/d4 X.K H p ys)/\Q (.int ↑ys) H):=by
 intro ae s σ H xs us Q J r h;let(akK,rfl,jo):=ov.out h;let(p,rfl,ys,aL,q):=fQ.out jo;let(u,rfl,bk):=mr r;cases bk;have a5:=uW;rcases aL with aL|aL
 .let(a3,eU,pl,aO):=J.list aL;have hlen:=↑eU;exact Calls.call_len_list pl.isList (by simp only[e2] <;> omega) (.int ↑ys,H,J.tok _,(s.toks+1,by rw[e2,hlen]),q)
 .let(a3,eU,pl,aO):=J.tuple aL;have hlen:=↑eU;exact len_tuple pl (by simp only[e2] <;> omega) (.int ↑ys,H,J.tok _,(s.toks+1,by rw[e2,hlen]),q)
def ahT:mv X (.builtin "len") (λxs H Q=>∃z,xs=[.str z]/\↑z<=sizeLine/\Q (.int ↑z) H):=by
 intro ae s σ H xs us Q J r h;let(z,rfl,aO,q):=h;let(u,rfl,t,rfl):=mr r;have a5:=uW;exact len_str () (.int ↑z,H,J.tok _,(_,rfl),q)
def afZ:mv X (.type "list") (λxs H Q=>∃p ys,xs=[⇑p]/\(ay X.K H p ys\/d4 X.K H p ys)/\∀l,H l=none->Q ⇑l (upd H l (.lst ys))):=by
 intro ae s σ H xs us Q J r h;let(p,ys,rfl,aL,q):=h;let(u,rfl,bk):=mr r;cases bk;have fin:∀(a3:List Value),cN ys a3->↑ys<=sizeLine->∀(h':Heap) (c':Nat),(∀b eF,s.heap.get? b\eF->h'.get? b\eF) ->
   h'.get? ↥s=some {cls:=.type "list",dict:=none,data:=.seq a3.toArray c',slots:=#[]}->gT X ae σ Q (.ref ↥s) {s with heap:=h' }:=λa3 eU aO h' c' bp e=>
  (.ref ↥s,_,J.laid (t':=s.toks) bp (bR _) (show gk X.prog X.w _ h' _ (.lst ys)from(aO,a3,c',eU,e)),rfl,q _ (J.bC.fresh (bR _)))
 rcases aL with aL|aL
 .let(a3,eU,pl,aO):=J.list aL;have hlen:=↑eU;let(o,aU,aC,n,hd):=pl.isList;exact call_list_seq p (.inl rfl) aU aC hd (λh' c' bp e=>fin a3 eU aO h' c' bp e) (by simp only[e2] <;> omega)
 .let(a3,eU,pl,aO):=J.tuple aL;have hlen:=↑eU;let(o,aU,aC,n,hd):=pl;exact call_list_seq p (.inr rfl) aU aC hd (λh' c' bp e=>fin a3 eU aO h' c' bp e) (by simp only[e2] <;> omega)
def O7(K:bq)(T:String)(x:V)(H:aw):Prop:=match x with
 | .str _=>T="str"
 | .int _=>T="int"
 | .ref p=>(T="list"/\∃xs,ay K H p xs)\/(T="tuple"/\∃o,K.lookup p\o/\o.cls=.type "tuple"/\o.dict=none) \/
   (T="dict"/\((∃kvs,H p\(.bu kvs))\/∃kvs,H p\(.hl kvs)))\/(T="set"/\∃S n,H p\(.set S n))
 |_=>False
theorem aeH{x:V}(J:Inv X ae σ H s)(r:bX x v)(ty:O7 X.K T x H) :
  s.TypeIs v T/\∀a,v=⇑a->∃cG,s.heap.get? a\cG/\cG.dict=none:=by
 cases x with
 |str z=>
  let(t,rfl):=r;cases(show T="str" from ty);exact(typeIs_str s z t,λ_ e=>nomatch e)
 |int i=>
  let(t,rfl):=r;cases(show T="int" from ty);exact(typeIs_int s i t,λ_ e=>nomatch e)
 | ref p=>
  cases r;rcases ty with⟨rfl,xs,aL⟩|⟨rfl,o,aB,aC,hd⟩|⟨rfl,aB⟩|⟨rfl,S,n,aB⟩
  .let(a3,_,pl,_):=J.list aL;refine(pl.isList.typeIs,λa e=>?_);cases e;let(o,n,e,c,hd,_):=pl;exact(o,e,hd)
  .refine ((o,J.kj p o aB,aC),λa e=>?_);cases e;exact(o,J.kj _ o aB,hd)
  .have z:∃o,s.heap.get? p\o/\o.ExactDict:=by
    rcases aB with⟨kvs,aB⟩|⟨kvs,aB⟩
    .let(_,_,_,_,o,_,_,e,ex,_):=J.bC p _ aB;exact(o,e,ex)
    .let(_,_,_,_,o,_,_,e,ex,_):=J.bC p _ aB;exact(o,e,ex)
   let(o,e,ex):=z;refine((o,e,ex.1),λa aE=>?_);cases aE;exact(o,e,ex.2.1)
  .let(o,_,_,_,e,ex,_):=J.bC p _ aB;refine((o,e,ex.1),λa aE=>?_);cases aE;exact(o,e,ex.2.1)
 |_=>exact lE ty
def H5(K:bq)(T:String)(r:V->List V->aw->c6->Prop)(to:TE)(t:fO):TE:=λσ H Q=>to σ H λx H1=>O7 K T x H1/\t σ H1 λxs ar=>r x xs ar Q
variable{o e:Expr}{aW:List Expr}{to:TE}{t:fO}{name:Str}{fR iV:Pos}{T id:String}{r:V->List V->aw->c6->Prop}
def eS(ia:PlainAttrs T)(slot:Slot T name id)(alF:typeOf (.builtin id)=pure (.type "method_descriptor"))(hm:Cg X id r)(aU:bw X o to)(aV:g6 X (e::aW) t)
  (aeo:autoParam (attributeBase o name X.env (eval o X.env)=eval o X.env) A'r)
  (ajP:((backTo iV (starEach (e::aW) X.env)).all (λx=>!x.1)&&(backToKw iV (keywordEach [] X.env)).all (λx=>x.1.isSome)
   && decide (↑(e::aW)+↑([]:List Keyword)+(if([]:List Keyword).isEmpty then 0 else 1)<30))=true:=by rfl)
  (alU:autoParam ((fR.endLine==iV.line)=true) A'r) (az:autoParam (starEach (e::aW) X.env=(p'p false (eval e X.env))::starEach aW X.env) A'r) (hplain:autoParam ((backTo iV (starEach aW X.env)).any (·.1)=false) A'r) :
  bw X (.Call (.Attribute o name fR) (e::aW) [] iV) (H5 X.K T r to t):=by
 intro ae s σ H Q J h;refine wpAny_Call_method_late aeo ajP alU rfl (bK (aU ae s σ H _ J h) λv s1 c7=>?_);let(x,H1,aZ,b3,ty,bU):=c7;let(af,ak):=aeH aZ b3 ty;refine(T,id,ia,slot,alF,af,ak,?_);have ll:=aV iV ae s1 σ H1 _ aZ bU;rw[az]at ll⊢;refine XJ (by show(false||(backTo iV (starEach aW X.env)).any (·.1))=false;rw[hplain] <;> rfl) (Uc ?_);exact bK ll λus s2 ⟨vs,ar,b0,fV,dV⟩=>hm ae s2 σ ar x vs v us Q b0 b3 fV dV
end
def B8(X:bg)(id:String)(r:V->List V->aw->c6->Prop):Prop:=
 ∀(ae:List (Addr×Obj)) (s:Shared) (σ:St) (H:aw) (x:V) (xs:List V) (v:Value) (us:List Value) (Q:c6),Inv X ae σ H s->bX x v->cN xs us->r x xs H Q ->
  wpAny (model X.prog X.w) X.A (call (.builtin id) (v::us)) (gT X ae σ Q) X.d_ s
theorem cN.one:∀{x:V} {us:List Value},cN [x] us->∃u,us=[u]/\bX x u
 |_,_,.cons r .nil=>(_,rfl,r)
theorem cN.eraseIdx:∀{xs:List V} {us:List Value} (i:Nat),cN xs us->cN (xs.eraseIdx i) (us.eraseIdx i)
 |_,_,_,.nil=>.nil
 |_,_,0,.cons _ t=>t
 |_,_,i+1,.cons r t=>.cons r (cN.eraseIdx i t)
theorem QS:∀(l:List α) (i:Nat),↑(l.eraseIdx i)<=↑l
 |[],_=>bR _
 |_::_,0=>y1 _
 |_::r,i+1=>Ti (QS r i)
section
variable{X:bg}{ae:List (Addr×Obj)}{σ:St}{H:aw}{s:Shared}{l b:Addr}{xs ys zs:List V}
def Inv.F5{a3 its':List Value}(J:Inv X ae σ H s)(j':H l\(.lst xs))
  (e:s.heap.get? l=some {cls:=.type "list",data:=.seq a3.toArray n}) (hf:f a3.toArray=its'.toArray) (aK:cN ys its') (aO:↑ys<=sizeLine) :
  Inv X ae σ (upd H l (.lst ys)) {s with heap:=s.heap.update l (oT f),toks:=t' }:=by
 have q:=PySem.IsL.update e f;rw[hf]at q;refine J.write (x:=l) (e:=l) (by rw[j'];exact trivial) (.inl rfl) (λhr u aa bJ=>(qr s.heap (oT f) (dm aa)).trans bJ) (_,q) ?_;exact(aO,its',_,aK,q)
def Inv.ajs{a3:List Value}(J:Inv X ae σ H s)(aK:cN ys a3)(aO:↑ys<=sizeLine) :
  Inv X ae σ (upd H ↥s (.lst ys)) {s with heap:=s.heap.push {cls:=.type "list",data:=.seq a3.toArray},toks:=t' }:=
 J.laid (λ_ _ q=>fk _ q) (bR _) (aO,a3,0,aK,hC _ rfl)
theorem Inv.fresh(J:Inv X ae σ H s):H ↥s=none:=J.bC.fresh (bR _)
def Inv.vv(J:Inv X ae σ H s)(j':H l\(.lst xs)):↑xs<=sizeLine/\∃(a3:List Value) (n:Nat),cN xs a3/\↑xs=↑a3/\s.heap.get? l=some {cls:=.type "list",data:=.seq a3.toArray n}:=by
 let(z,a3,n,r,e):=J.bC l _ j';exact(z,a3,n,r,↑r,e)
def ass(h:n<=sizeLine):Zw n=false:=by
 unfold Zw;exact decide_eq_false ()
end
section
variable{X:bg}
def Mj:V->List V->aw->c6->Prop:=λx vs H Q=>fQ x λl=>ov vs λy=>∃xs,H l\(.lst xs)/\↑xs<sizeLine/\Q .cF (upd H l (.lst (xs++[y])))
def kO:B8 X "list.append" Mj:=by
 intro ae s σ H x vs v us Q J bk cM h;let(l,rfl,jo):=fQ.out h;let(y,rfl,xs,j',aO,q):=ov.out jo;cases bk;let(u,rfl,e1):=cM.one;let(z,a3,n,r,aN,e):=J.vv j';refine call_meets kQ (_,e,rfl) F.entry_list_append (F.args_list_append_2 _ _) (PySem.list_append l a3.toArray n u (by rw[e2];omega)) (e,?_);refine(.cF,_,J.F5 (its':=a3++[u]) j' e (by simp) (r.append (.cons e1 .nil)) ?_,rfl,q);rw[cU,mq];omega
def UF:V->List V->aw->c6->Prop:=λx vs H Q=>∃l b xs zs,x=⇑l/\vs=[⇑b]/\H l\(.lst xs)/\H b\(.lst zs)/\↑xs+↑zs<=sizeLine/\Q .cF (upd H l (.lst (xs++zs)))
def qT:B8 X "list.extend" UF:=by
 intro ae s σ H x vs v us Q J bk cM h;let(l,b,xs,zs,rfl,rfl,j',g4,aO,q):=h;cases bk;let(u,rfl,e1):=cM.one;cases e1;let(z,a3,n,r,aN,e):=J.vv j';let(eE,v8,cC,fV,vN,aE):=J.vv g4;have hsz:a3.toArray.size+v8.toArray.size<=sizeLine:=by rw[e2,e2];omega
 have ag_:¬(!a3.toArray.isEmpty&&Zw (a3.toArray.size+v8.toArray.size))=true:=by
  rw[ass hsz,arC];exact fT
 refine call_meets rq (_,e,rfl) F.entry_list_extend (F.args_list_extend_2 _ _)
  (AutoSeq1.list_extend_list_list_0 l a3.toArray n b v8.toArray cC ag_ (by rw[e2];omega) ()) (e,aE,?_)
 refine(.cF,_,J.F5 (its':=a3++v8) j' e (by simp) (r.append fV) ?_,rfl,q);rw[cU];omega
def O2:V->List V->aw->c6->Prop:=λx vs H Q=>∃l xs i k y,x=⇑l/\vs=[.int i]/\H l\(.lst xs)/\-(2 ^ 63)<=i/\i<2 ^ 63/\seqIndex? i ↑xs\k/\xs[k]?\y/\Q y (upd H l (.lst (xs.eraseIdx k)))
def aav:B8 X "list.pop" O2:=by
 intro ae s σ H x vs v us Q J bk cM h;let(l,xs,i,k,y,rfl,rfl,j',af,ak,aB,aQ,q):=h;cases bk;let(u,rfl,e1):=cM.one;let(t,rfl):=e1;let(z,a3,n,r,aN,e):=J.vv j';let(w,hw,f6):=r.get aQ;refine call_meets Qy (_,e,rfl) F.entry_list_pop (F.args_list_pop_2 _ _)
  (MeetsSeq.list_pop_at l a3.toArray n i t k w (fitsIndex_both af ak) (by rw[e2,<- aN];exact aB) (by rw[<- X1];exact hw) (by rw[e2];omega)) (e,?_)
 refine(y,_,J.F5 (its':=a3.eraseIdx k) j' e ?_ (r.eraseIdx k) ?_,f6,q)
 .show a3.toArray.eraseIdxIfInBounds k=(a3.eraseIdx k).toArray;rw[List.eraseIdxIfInBounds_toArray]
 .have:=QS xs k;omega
def Ml:fK:=λx y H Q=>∃l b xs zs,x=⇑l/\y=⇑b/\H l\(.lst xs)/\H b\(.lst zs)/\↑xs+↑zs<=sizeLine/\∀p,H p=none->Q ⇑p (upd H p (.lst (xs++zs)))
def LZ:i8 X (binaryOp .Add) Ml:=by
 intro ae s σ H x y v u Q J bk bB h;let(l,b,xs,zs,rfl,rfl,j',g4,aO,q):=h;cases bk;cases bB;let(z,a3,n,r,aN,e):=J.vv j';let(eE,v8,cC,fV,vN,aE):=J.vv g4;refine PySem.P.add_list e aE ?_ (by rw[e2,e2];omega);have iy:a3.toArray++v8.toArray=(a3++v8).toArray:=by simp
 rw[iy];exact(⇑_,_,J.ajs (t':=s.toks) (r.append fV) (by rw[cU];omega),rfl,q _ J.fresh)
end
section
variable{fh:Type}[DecidableEq fh]
noncomputable def df(kvs:List (fh×V))(k:fh):Option V:=(kvs.find? λdE=>decide (dE.1=k)).map (·.2)
noncomputable def d8(kvs:List (fh×V))(k:fh)(v:V):List (fh×V):=
 if(kvs.any λdE=>decide (dE.1=k))=true then kvs.map (λdE=>if dE.1=k then(p'p dE.1 v)else dE)else kvs++[(p'p k v)]
noncomputable def tR(kvs:List (fh×V))(k:fh):List (fh×V):=kvs.filter λdE=>decide (dE.1≠k)
def qg{p:fh×V}{k:fh}(e:p.1=k):df (p::r) k\p.2:=by simp[df,pC,e]
def qv{p:fh×V}{k:fh}(e:¬p.1=k):df (p::r) k=df r k:=by simp[df,pC,e]
theorem zT(k:fh):∀kvs:List (fh×V),(kvs.any λdE=>decide (dE.1=k))=(df kvs k).isSome
 |[]=>rfl
 |p::r=>by
  rw[AR];by_cases e:p.1=k
  .simp only[qg e,decide_eq_true e,we,Option.isSome_some]
  .rw [qv e,decide_eq_false e,nY];exact zT k r
theorem Sa(k j:fh)(y:V):∀kvs:List (fh×V),df (kvs.map λdE=>if dE.1=k then(p'p dE.1 y)else dE) j=(df kvs j).map λx=>if j=k then y else x
 |[]=>rfl
 | p::r=>by
  have c4:=Sa k j y r;rw[es];by_cases h:p.1=k
  .rw[if_pos h];by_cases e:p.1=j
   .rw [qg (p:=(p'p p.1 y)) e,qg e,Ek,if_pos (e.symm.trans h)]
   .rw [qv (p:=(p'p p.1 y)) e,qv e,c4]
  .rw[if_neg h];by_cases e:p.1=j
   .rw [qg (p:=p) e,qg e,Ek,if_neg (λz=>h (e.trans z))]
   .rw [qv (p:=p) e,qv e,c4]
theorem Tr(k j:fh)(y:V):∀kvs:List (fh×V),df kvs k=none->df (kvs++[(p'p k y)]) j=if j=k then some y else df kvs j
 |[],_=>by
  by_cases e:k=j
  .rw [if_pos e.symm];exact qg (p:=(p'p k y)) e
  .rw [if_neg (λz=>e z.symm)];exact qv (p:=(p'p k y)) e
 |p::r,a5=>by
  rw[AX];have aB:¬p.1=k:=λz=>by rw[qg z]at a5;cases a5
  rw[qv aB]at a5;have c4:=Tr k j y r a5;by_cases e:p.1=j
  .rw [qg e,qg e,if_neg (λz=>aB (e.trans z))]
  .rw [qv e,qv e,c4]
theorem Zd(kvs:List (fh×V))(k j:fh)(y:V):df (d8 kvs k y) j=if j=k then some y else df kvs j:=by
 unfold d8;by_cases a:(kvs.any λdE=>decide (dE.1=k))=true
 .rw[if_pos a,Sa];rw[zT]at a;by_cases e:j=k
  .let(x,ag):=alm.mp a;rw[if_pos e,e,ag,Ek,if_pos rfl]
  .rw[if_neg e];cases df kvs j with
   |none=>rfl
   |some x=>rw[Ek,if_neg e]
 .rw[if_neg a];refine Tr k j y kvs ?_;rw[zT]at a;cases q:df kvs k with
  |none=>rfl
  |some x=>rw[q]at a;exact(a rfl).elim
def Kl(kvs:List (fh×V))(k:fh)(v:V):↑(d8 kvs k v)<=↑kvs+1:=by
 unfold d8;split
 .rw [aT];omega
 .rw [cU,gW,zr];omega
def ajp{k:fh}(v:V)(h:df kvs k=none):d8 kvs k v=kvs++[(p'p k v)]:=by
 unfold d8;rw[zT,h];exact if_neg ∅
theorem ji.OT(r:ji o u):o.isSome=u.isSome:=by
 cases o with
 |none=>cases u with
  |none=>rfl
  |some _=>exact(show False from r).elim
 |some _=>cases u with
  |none=>exact(show False from r).elim
  |some _=>rfl
theorem ji.getD(r:ji o u)(h2:bX d d'):bX (o.getD d) (u.getD d'):=by
 cases o with
 |none=>cases u with
  |none=>exact h2
  |some _=>exact(show False from r).elim
 |some _=>cases u with
  |none=>exact(show False from r).elim
  |some _=>exact r
theorem fF.val(r:fF kvs vs)(k:fh):ji (df kvs k) (valueAt vs k):=by
 unfold fF at r
 induction r with
 |nil=>exact m5
 | @cons p q ps qs h t c4=>
  let(af,ak):=h;by_cases e:p.1=k
  .have bF:q.1=k:=af.symm.trans e;have b:valueAt (q::qs) k\q.2:=by simp[valueAt,pC,bF]
   rw[qg e,b];exact ak
  .have bF:¬q.1=k:=λz=>e (af.trans z)
   have b:valueAt (q::qs) k=valueAt qs k:=by simp[valueAt,pC,bF]
   rw[qv e,b];exact c4
theorem fF.any(r:fF kvs vs)(k:fh):(kvs.any λdE=>decide (dE.1=k))=vs.any λdE=>decide (dE.1=k):=by
 unfold fF at r
 induction r with
 |nil=>rfl
 |cons h t c4=>rw[AR,AR,c4,h.1]
theorem fF.NN(r:fF kvs vs)(k:fh)(bB:bX y u) :
  fF (kvs.map λdE=>if dE.1=k then(p'p dE.1 y)else dE) (vs.map λdE=>if dE.1=k then(p'p dE.1 u)else dE):=by
 unfold fF at r⊢
 induction r with
 |nil=>exact .nil
 | @cons p q ps qs h t c4=>
  rw[es,es];refine .cons ?_ c4;let(af,ak):=h;by_cases e:p.1=k
  .rw [if_pos e,if_pos (af.symm.trans e)];exact(af,bB)
  .rw [if_neg e,if_neg (λz=>e (af.trans z))];exact(af,ak)
def fF.put(r:fF kvs vs)(k:fh)(bB:bX y u):fF (d8 kvs k y) (stored vs k u):=by
 unfold d8 stored;rw[r.any k];by_cases e:(vs.any λdE=>decide (dE.1=k))=true
 .rw [if_pos e,if_pos e];exact r.NN k bB
 .rw [if_neg e,if_neg e];exact VH r (rfl,bB)
theorem fF.drop(r:fF kvs vs)(k:fh):fF (tR kvs k) (without vs k):=by
 unfold fF at r⊢;unfold tR without
 induction r with
 |nil=>exact .nil
 | @cons p q ps qs h t c4=>
  let(af,ak):=h;rw[arX,arX];by_cases e:p.1=k
  .have a:¬decide (p.1≠k)=true:=by simp[e]
   have b:¬decide (q.1≠k)=true:=by simp[af.symm.trans e]
   rw[if_neg a,if_neg b];exact c4
  .have bF:¬q.1=k:=λz=>e (af.trans z)
   have a:decide (p.1≠k)=true:=by simp[e]
   have b:decide (q.1≠k)=true:=by simp[bF]
   rw[if_pos a,if_pos b];exact .cons (af,ak) c4
def fF.length(r:fF kvs vs):↑kvs=↑vs:=Mz r
def apm(kvs:List (fh×V))(k:fh):↑(tR kvs k)<=↑kvs:=uH _ _
end
theorem tY{w:World}{k:Key}(r:bX (d9 k) u):(iI P w).is k u=true:=by
 cases k with
 |inl i=>let(t,e):=(show ∃t,u=od i t from r);subst e;exact agG P w i t
 |inr x=>let(t,e):=(show ∃t,u=zd x t from r);subst e;exact asE P w x t
theorem XI{w:World}:∀{bE:List Key} {us:List Value},cN (bE.map d9) us->ItemsAre (iI P w) bE us
 |[],_,r=>by rw[qE]at r;cases r;exact .nil
 |k::bE,_,r=>by
  rw[es]at r;cases r with
  |cons h t=>exact .cons (tY h) (XI t)
abbrev KT(H:aw):List (List Key×V)->List (List Key×Addr×Value)->Prop:=Paired λp q=>p.1=q.1/\H q.2.1\(.tup (p.1.map d9))/\bX p.2 q.2.2
theorem KT.val(r:KT H kvs xs)(k:List Key):ji (df kvs k) ((atKey xs k).map (·.2)):=by
 induction r with
 |nil=>exact m5
 | @cons p q ps qs h t c4=>
  let(af,_,ak):=h;by_cases e:p.1=k
  .have bF:q.1=k:=af.symm.trans e;have b:atKey (q::qs) k\q.2:=by simp[atKey,pC,bF]
   rw[qg e,b];exact ak
  .have bF:¬q.1=k:=λz=>e (af.trans z)
   have b:atKey (q::qs) k=atKey qs k:=by simp[atKey,pC,bF]
   rw[qv e,b];exact c4
theorem KT.NN(r:KT H kvs xs)(k:List Key)(bB:bX y u) :
  KT H (kvs.map λdE=>if dE.1=k then(p'p dE.1 y)else dE) (xs.map (putAt k u)):=by
 induction r with
 |nil=>exact .nil
 | @cons p q ps qs h t c4=>
  rw[es,es];refine .cons ?_ c4;let(af,ak,a8):=h;unfold putAt;by_cases e:p.1=k
  .rw [if_pos e,if_pos (af.symm.trans e)];exact(af,ak,bB)
  .rw [if_neg e,if_neg (λz=>e (af.trans z))];exact(af,ak,a8)
def KT.put(r:KT H kvs xs)(k:List Key)(aa:H b\(.tup (k.map d9)))(bB:bX y u) :
  KT H (d8 kvs k y) (storedH xs k b u):=by
 have e:(kvs.any λdE=>decide (dE.1=k))=(atKey xs k).isSome:=by
  rw[zT,(r.val k).OT,al7]
 unfold d8 storedH;rw[e];by_cases q:(atKey xs k).isSome=true
 .rw [if_pos q,if_pos q];exact r.NN k bB
 .rw [if_neg q,if_neg q];exact VH r (rfl,aa,bB)
def KT.keeps(r:KT H kvs xs)(c9:∀b ys,H b\(.tup ys)->I b\(.tup ys)):KT I kvs xs:=
 Paired.td r λ_ _ z=>(z.1,c9 _ _ z.2.1,z.2.2)
section
variable{P:Program}{w:World}{H:aw}{h:Heap}{a:Addr}
def Sv(ok:fD P w H h)(e:m6 H a u):gk P w H h a u:=e.ok ok
def wy(ok:fD P w H h)(e:m6 H a (.bu kvs)):↑kvs<=sizeLine/\(a==sysModules)=false/\∃vs,fF kvs vs/\h.DictOf (iI P w) a vs:=
 show gk P w H h a (.bu kvs)from Sv ok e
def Bo(ok:fD P w H h)(e:H a\(.bu kvs)):↑kvs<=sizeLine/\(a==sysModules)=false/\∃vs,fF kvs vs/\h.DictOf (iI P w) a vs:=wy ok (.inl e)
def xm{bE:List Key}(ok:fD P w H h)(e:H a\(.tup (bE.map d9))):(tupleKind (iI P w)).is h bE a:=by
 let(_,a3,r,o,af,ak,n,a8):=(show gk P w H h a (.tup (bE.map d9))from ok a _ e);exact(o,a3.toArray,n,af,ak,a8,by simpa using XI r)
theorem wk(ok:fD P w H h)(e:m6 H a (.hl kvs)):↑kvs<=sizeLine/\(a==sysModules)=false /\
  ∃xs,KT H kvs xs/\h.DictOfH (tupleKind (iI P w)) a xs:=by
 let(z,y,xs,r,o,aW,cJ,af,ak,a8,bZ,dS):=(show gk P w H h a (.hl kvs)from Sv ok e);refine(z,y,xs,r,o,aW,cJ,af,ak,a8,bZ,λx ag=>?_,dS);have all:∀{l:List (List Key×V)} {m:List (List Key×Addr×Value)},KT H l m->∀x∈m,(tupleKind (iI P w)).is h x.1 x.2.1:=by
  intro l m q
  induction q with
  |nil=>intro x ag;exact nomatch ag
  | @cons p q ps qs aL t c4=>
   intro x ag;rcases d6.mp ag with e|ag
   .subst e;exact xm ok (by rw[<- aL.1];exact aL.2.1)
   .exact c4 x ag
 exact all r x ag
def S7(ok:fD P w H h)(e:H a\(.hl kvs)):↑kvs<=sizeLine/\(a==sysModules)=false /\
  ∃xs,KT H kvs xs/\h.DictOfH (tupleKind (iI P w)) a xs:=wk ok (.inl e)
end
def gw(H:aw)(a:Addr)(y:V)(r:Option V):Prop:=
 (∃kvs k,m6 H a (.bu kvs)/\y=d9 k/\r=df kvs k)\/∃kvs k b,m6 H a (.hl kvs)/\y=⇑b/\H b\(.tup (k.map d9))/\r=df kvs k
def jh(H:aw)(a:Addr)(y v:V)(I:aw):Prop:=
 (∃kvs k,H a\(.bu kvs)/\y=d9 k/\↑kvs<sizeLine/\I=upd H a (.bu (d8 kvs k v))) \/
 ∃kvs k b,H a\(.hl kvs)/\y=⇑b/\H b\(.tup (k.map d9))/\↑kvs<sizeLine/\I=upd H a (.hl (d8 kvs k v))
theorem gw.k{k:Key}(e:H a\(.bu kvs)):gw H a (d9 k) (df kvs k):=.inl (kvs,k,.inl e,rfl,rfl)
theorem jh.k{k:Key}(e:H a\(.bu kvs))(aN:↑kvs<sizeLine):jh H a (d9 k) v (upd H a (.bu (d8 kvs k v))):=.inl (kvs,k,e,rfl,aN,rfl)
def jh.t{k:List Key}(e:H a\(.hl kvs))(bD:H b\(.tup (k.map d9)))(aN:↑kvs<sizeLine) :
  jh H a ⇑b v (upd H a (.hl (d8 kvs k v))):=.inr (kvs,k,b,e,rfl,bD,aN,rfl)
section
variable{X:bg}{ae:List (Addr×Obj)}{σ:St}{H:aw}{s:Shared}{a:Addr}{y v:V}{u r:Value}{o:Option V}{A:Around}{E:Value->Shared->Prop}
def Inv.big(J:Inv X ae σ H s):sysModules<↥s:=by
 have h:mainGlobals<↥s:=(J.mod.glob.keeps J.c_).lt;exact Tx ∅ h
def ZD(bJ:A.units+1<cLine)(J:Inv X ae σ H s)(g:gw H a y (some v))(bB:bX y u)(h:∀eK aj,Inv X ae σ H aj->bX v eK->Q eK aj) :
  wpAny (model X.prog X.w) A (getItem ⇑a u) Q E s:=by
 rcases g with⟨kvs,k,e,hY,l⟩|⟨kvs,k,b,e,hY,bD,l⟩
 .subst hY;let(z,hd,vs,rel,c3):=wy J.bC e;let(eK,hw,f6):=ji.some_of (v:=v) (o:=valueAt vs k) (by rw[l];exact rel.val k);exact wpAny_getItem_of (tY bB) c3.mapOf hw (h eK _ (J.tok _) f6)
 .subst hY;cases(show u=fE b from bB);let(z,hd,xs,rel,c3):=wk J.bC e;let(eK,hw,f6):=ji.some_of (v:=v) (o:=(atKey xs k).map (·.2)) (by rw[l];exact rel.val k);let(p,aq,gF):=Ab.mp hw;refine wpAny_getItem_heap (tupleKind_room_in1 bJ) (xm J.bC bD) c3 aq ?_;rw[gF];exact h eK _ (J.tok _) f6
def aa1(bJ:A.units+1<cLine)(J:Inv X ae σ H s)(g:gw H a y o)(bB:bX y u)(h:∀aj,Inv X ae σ H aj->Q (.bool (!o.isSome)) aj) :
  wpAny (model X.prog X.w) A (compareOp .NotIn u ⇑a) Q E s:=by
 rcases g with⟨kvs,k,e,hY,l⟩|⟨kvs,k,b,e,hY,bD,l⟩
 .subst hY;let(z,hd,vs,rel,c3):=wy J.bC e;refine wpAny_notIn_of (tY bB) hd c3.mapOf ?_;rw[<- (rel.val k).OT,<- l];exact h _ (J.tok _)
 .subst hY;cases(show u=fE b from bB);let(z,hd,xs,rel,c3):=wk J.bC e;refine wpAny_notIn_heap (tupleKind_room_in1 bJ) (xm J.bC bD) hd c3 ?_;have q:=(rel.val k).OT;rw[al7]at q;rw[<- q,<- l];exact h _ (J.tok _)
def GS(J:Inv X ae σ H s)(k5:uA (H a))(az:yj a s.heap h')(he:∃q,h'.get? a\q)(new:gk X.prog X.w (upd H a cG) h' a cG) :
  Inv X ae σ (upd H a cG) {s with heap:=h',toks:=t' }:=
 J.write (x:=a) (e:=a) k5 (.inl rfl) (λb q aa z=>(az.2 b aa).trans z) he new
def Nk{w:World}(z:↑kvs<=sizeLine)(hd:(a==sysModules)=false)(rel:fF kvs vs)(c3:h'.DictOf (iI P w) a vs) :
  gk P w I h' a (.bu kvs):=(z,hd,vs,rel,c3)
def Pk(bJ:A.units+1<cLine)(J:Inv X ae σ H s)(g:jh H a y v I)(bB:bX y u)(cM:bX v r)(h:∀aj,Inv X ae σ I aj->Q ⟨⟩ aj) :
  wpAny (model X.prog X.w) A (setItem ⇑a u r) Q E s:=by
 rcases g with⟨kvs,k,e,hY,l,AK⟩|⟨kvs,k,b,e,hY,bD,l,AK⟩
 .subst hY AK;let(z,hd,vs,rel,c3):=Bo J.bC e;have aO:↑vs<=sizeLine:=by rw[<- ↑rel];exact z
  have aN:↑(d8 kvs k v)<=sizeLine:=by have:=Kl kvs k v;omega
  refine wpAny_setItem_pairs (hsz:=aO) (tY bB) c3 λh' pF az=>h _ ?_
  have he:∃q,h'.get? a\q:=let⟨q,_,_,aL,_⟩:=pF;(q,aL);exact GS J (by rw[e];exact m5) az he (Nk aN hd (rel.put k cM) pF)
 .subst hY AK;cases(show u=fE b from bB);let(z,hd,xs,rel,c3):=S7 J.bC e;have aO:↑xs<=sizeLine:=by rw[<- Mz rel];exact z
  have aN:↑(d8 kvs k v)<=sizeLine:=by have:=Kl kvs k v;omega
  refine wpAny_setItem_heap (hsz:=aO) (tupleKind_room_in1 bJ) (xm J.bC bD) c3 λh' pF az=>h _ ?_
  let(q,aW,cJ,aL,ak,a8,bZ,_,dS):=pF;refine GS J (by rw[e];exact m5) az (q,aL) (aN,hd,_,(rel.put k bD cM).keeps λc ys g7=>?_,q,aW,cJ,aL,ak,a8,bZ,dS);rw[aD (bW g7 e (λz=>nomatch z))];exact g7
end
section
variable{X:bg}{ae:List (Addr×Obj)}{σ:St}{H:aw}{s:Shared}{a:Addr}{kvs:List (Key×V)}{k:Key}{u:Value}{A:Around}{E:Value->Shared->Prop}
theorem ajr(J:Inv X ae σ H s)(e:H a\(.bu kvs))(bB:bX (d9 k) u)(l:df kvs k\v)(hm:more=[]\/∃x,more=[x])
  (h:∀eK aj,Inv X ae σ (upd H a (.bu (tR kvs k))) aj->bX v eK->Q eK aj):wpAny (model X.prog X.w) A (call (.builtin "dict.pop") (⇑a::u::more)) Q E s:=by
 let(z,hd,vs,rel,c3):=Bo J.bC e;let(eK,hw,f6):=ji.some_of (v:=v) (o:=valueAt vs k) (by rw[<- l];exact rel.val k);have aq:(keyPart u).isSome=true:=by
  cases k with
  |inl i=>let(t,q):=(show ∃t,u=od i t from bB);subst q;rfl
  |inr x=>let(t,q):=(show ∃t,u=zd x t from bB);subst q;rfl
 have aV:argsOk "dict.pop" (⇑a::u::more,[]):=by
  rcases hm with q|⟨x,q⟩
  .subst q;exact PySem.F.args_dict_pop_2 _ _
  .subst q;exact ar5 _ _ _
 refine call_meetsIn Qc c3.typeIs aqu aV (meets_dict_pop_there (iI X.prog X.w) a (tY bB) more hm aq)
  (vs,eK,c3,by rw[<- ↑rel];exact z,hw,λh' pF az=>h eK _ ?_ f6)
 have he:∃q,h'.get? a\q:=let⟨q,_,_,aL,_⟩:=pF;(q,aL);exact GS J (by rw[e];exact m5) az he (Nk (cZ (apm kvs k) z) hd (rel.drop k) pF)
theorem anR(J:Inv X ae σ H s)(e:H a\(.bu kvs))(bB:bX (d9 k) u)(l:df kvs k=none)(h:∀aj,Inv X ae σ H aj->Q r aj) :
  wpAny (model X.prog X.w) A (call (.builtin "dict.pop") [⇑a,u,r]) Q E s:=by
 let(z,hd,vs,rel,c3):=Bo J.bC e;have a5:valueAt vs k=none:=ji.none_of (by rw[<- l];exact rel.val k);have aq:(keyPart u).isSome=true:=by
  cases k with
  |inl i=>let(t,q):=(show ∃t,u=od i t from bB);subst q;rfl
  |inr x=>let(t,q):=(show ∃t,u=zd x t from bB);subst q;rfl
 exact call_meetsIn Qc c3.typeIs aqu (ar5 _ _ _) (meets_dict_pop_default (iI X.prog X.w) a (tY bB) hd aq r) (vs,c3,a5,h _ (J.tok _))
end
def JW(i:Expr):Prop:=∀eC hb,subscripted i false eC hb=operate [eC,hb] (getItem eC hb)
theorem Sy{prog:Program}{w:World}{A:Around}{E:Value->Shared->Prop}{s:Shared}{env:Env}{value slice:Expr}{pos:Pos}{T id:String}{Q:Value->Shared->Prop}
  (aN:typeLookup (.type T) "__getitem__"=pure (some (.builtin id))) (az:JW slice)
  (h:wpAny (model prog w) A (eval value env) (λo dQ=>wpAny (model prog w) A (eval slice env) (λi eh=>eh.TypeIs o T/\wpAny (model prog w) A (getItem o i) Q E eh) E dQ) E s) :
  wpAny (model prog w) A (eval (.Subscript value slice pos) env) Q E s:=by
 refine Subscript_ (wpAny_mono h (λo dQ h₁=>wpAny_mono h₁ (λi eh yH=>?_) λ_ _ x=>x) λ_ _ x=>x);let(jR,yH):=yH;unfold subscriptTail;refine wpAny_bind ?_;rw[getitemInPython_of_ne jR.not_modules];refine wpAny_bind (wpAny_specialOf jR aN ?_);have fin:wpAny (model prog w) A (subscripted slice false o i) (λr mL=>wpAny (model prog w) A (letTemporaryGo value o r >>= λ_=>pure r) Q E mL) E eh:=by
  rw[az o i];exact wpAny_operating (wpAny_mono yH (λr mL Cj=>wpAny_bind (wpAny_letTemporaryGo (wpAny_pure Cj))) λ_ _ x=>x)
 first
  |exact wpAny_pure (wpAny_bind fin)
  |exact wpAny_bind (wpAny_pure (wpAny_bind fin))
  |exact wpAny_bind fin
def ajM(J:Inv X ae σ H s)(g:gw H a y o):s.TypeIs ⇑a "dict":=by
 rcases g with⟨kvs,k,e,_,_⟩|⟨kvs,k,b,e,_,_,_⟩
 .let(_,_,vs,_,c3):=wy J.bC e;exact c3.typeIs
 .let(_,_,xs,_,c3):=wk J.bC e;exact c3.typeIs
def LF(e3 ty:TE):TE:=λσ H Q=>e3 σ H λx H1=>ty σ H1 λy ar=>fQ x λa=>∃v,gw ar a y (some v)/\Q v ar
def LQ(ty e3:TE):TE:=λσ H Q=>ty σ H λy H1=>e3 σ H1 λx ar=>fQ x λa=>∃o,gw ar a y o/\Q (.bG (!o.isSome)) ar
def L1(e3 ty ff:TE):eI:=λD σ H=>ff σ H λv H1=>e3 σ H1 λx ar=>ty σ ar λy a'=>fQ x λa=>∃cb,jh a' a y v cb/\D.cP σ cb
def Ut(e3 ty ff:TE)(h2:V->V->aw->c6->Prop):eI:=λD σ H=>e3 σ H λx H1=>ty σ H1 λy ar=>∃a v,x=⇑a/\gw ar a y (some v) /\
 ff σ ar λiY a'=>h2 v iY a' λz cb=>∃bP,jh cb a y z bP/\D.cP σ bP
section
variable{X:bg}{o i e value:Expr}{pos pos' x2:Pos}{e3 ty ff:TE}
def l7(bJ:X.A.units+1<cLine)(aU:bw X o e3)(ai:bw X i ty)(az:JW i):bw X (.Subscript o i pos) (LF e3 ty):=by
 intro ae s σ H Q J h;refine Sy apw.lookup az (bK (aU ae s σ H _ J h) λu s1 cw=>et cw λx H1 aZ bk bU=>bK (ai ae s1 σ H1 _ aZ bU) λhb s2 cw=>et cw λy ar b0 bB hT=>?_);let(a,ex,v,g,dV):=fQ.out hT;subst ex;obtain rfl:u=fE a:=bk;exact(ajM b0 g,ZD bJ b0 g bB λeK s3 eM f6=>(v,ar,eM,f6,dV))
def aaJ(bJ:X.A.units+1<cLine)(ai:bw X i ty)(aU:bw X o e3):TG X .NotIn i o (LQ ty e3):=by
 intro ae s σ H Q J h;refine bK (ai ae s σ H _ J h) λhb s1 cw=>et cw λy H1 aZ bB bU=>bK (aU ae s1 σ H1 _ aZ bU) λu s2 cw=>et cw λx ar b0 bk hT=>?_
 let(a,ex,eC,g,dV):=fQ.out hT;subst ex;obtain rfl:u=fE a:=bk;exact aa1 bJ b0 g bB λs3 eM=>(.bG (!eC.isSome),ar,eM,rfl,dV)
def r3(bJ:X.A.units+1<cLine)(aU:bw X o e3)(ai:bw X i ty)(aK:bw X value ff)(az:swapsWith value (some (.Subscript o i pos')) pos.line X.env=pure false) :
  gO X (.Assign [.Subscript o i pos'] value pos) (L1 e3 ty ff):=by
 intro ae s σ H D J h;refine wpAny_Assign_Subscript (bK (aK ae s σ H _ J h) λr s1 cw=>et cw λv H1 aZ cM bU=>bK (aU ae s1 σ H1 _ aZ bU) λu s2 cw=>et cw λx ar b0 bk dV=>bK (ai ae s2 σ ar _ b0 dV) λhb s3 cw=>et cw λy a' eM bB hT=>?_) az;let(a,ex,cb,g,hj):=fQ.out hT;subst ex;obtain rfl:u=fE a:=bk;exact Pk bJ eM g bB cM λs4 h4=>(σ,cb,h4,hj)
def WE{h2:V->V->aw->c6->Prop}(bJ:X.A.units+1<cLine)(aU:bw X o e3)(ai:bw X i ty)(aK:bw X value ff)(pM:Fe X op h2)
  (aV:∀eC hb new,augStore i eC hb new=(do holding [new,eC,hb] (setItem eC hb new);release [new,eC,hb] [];pure .next)):gO X (.AugAssign (.Subscript o i x2) op value pos) (Ut e3 ty ff h2):=by
 intro ae s σ H D J h;refine wpAny_AugAssign_SubscriptAny (bK (aU ae s σ H _ J h) λu s1 cw=>et cw λx H1 aZ bk bU=>bK (ai ae s1 σ H1 _ aZ bU) λhb s2 c7=>?_) aV;let(y,ar,b0,bB,a,v,ex,g,dV):=c7;subst ex;obtain rfl:u=fE a:=bk;refine ZD bJ b0 g bB λeK s3 eM f6=>bK (aK ae s3 σ ar _ eM dV) λej s4 cw=>et cw λiY a' h4 aa_ hj=>bK (pM ae s4 σ a' v iY eK ej _ h4 f6 aa_ hj) λhA s5 c7=>?_
 let(z,cb,uV,va,bP,GK,vm):=c7;exact Pk bJ uV GK bB va λeo z0=>(σ,bP,z0,vm)
end
def aaz{w:World}(h:Heap)(aa:sysModules<h.objs.size):gk P w H (h.push {cls:=.type "dict",data:=.dict #[]}) h.objs.size (.bu []):=
 (eO _,beq_eq_false_iff_ne.mpr (dm (gN aa)),[],.nil,Heap.DictOf.new h)
def akz{w:World}(h:Heap)(aa:sysModules<h.objs.size):gk P w H (h.push {cls:=.type "dict",data:=.dict #[]}) h.objs.size (.hl []):=
 (eO _,beq_eq_false_iff_ne.mpr (dm (gN aa)),[],.nil,_,#[],0,hC _ rfl,(rfl,rfl,rfl),rfl,rfl,NO)
def Nt:TE:=λ_ H Q=>∀p,H p=none->Q ⇑p (upd H p (.bu []))
def NG:TE:=λ_ H Q=>∀p,H p=none->Q ⇑p (upd H p (.hl []))
section
variable{X:bg}{pos:Pos}
def vl:bw X (.Dict [] [] pos) Nt:=λae s σ H Q J h=>
 wpAny_Dict_empty (.ref ↥s,_,J.laid (a:=↥s) (o:=.bu []) (t':=s.toks) (λ_ _ q=>fk _ q) (bR _) (aaz s.heap J.big),rfl,h _ (J.bC.fresh (bR _)))
def amI:bw X (.Dict [] [] pos) NG:=λae s σ H Q J h=>
 wpAny_Dict_empty (.ref ↥s,_,J.laid (a:=↥s) (o:=.hl []) (t':=s.toks) (λ_ _ q=>fk _ q) (bR _) (akz s.heap J.big),rfl,h _ (J.bC.fresh (bR _)))
end
def G2:List (TE×TE)->St->aw->(List (V×V)->aw->Prop)->Prop
 |[],_,H,Q=>Q [] H
 |(tk,ff)::r,σ,H,Q=>tk σ H λx H1=>ff σ H1 λy ar=>G2 r σ ar λps a'=>Q ((p'p x y)::ps) a'
abbrev Tb:List (V×V)->List (Value×Value)->Prop:=Paired λp q=>bX p.1 q.1/\bX p.2 q.2
def B5(X:bg)(pos:Pos)(keys:List (Option Expr))(values:List Expr)(vU:List (TE×TE)):Prop:=
 ∀(ae:List (Addr×Obj)) (s:Shared) (σ:St) (H:aw) (Q:List (V×V)->aw->Prop),Inv X ae σ H s->G2 vU σ H Q ->
  wpAny (model X.prog X.w) X.A (evalPairs (pairTrees keys values X.env pos)) (λvs aj=>∃ps I,Inv X ae σ I aj/\Tb ps vs/\Q ps I) X.d_ s
def agB:B5 X pos [] [] []:=λae s σ H Q J h=>pairTrees_nil_walk ([],H,J,.nil,h)
def Rr{k v:Expr}{bE:List (Option Expr)}(aB:bw X k tk)(aK:bw X v ff)(ao:B5 X pos bE vs vU) :
  B5 X pos (some k::bE) (v::vs) ((p'p tk ff)::vU):=λae s σ H Q J h=>
 pairTrees_cons_walk (bK (aB ae s σ H _ J h) λu s1 cw=>et cw λx H1 aZ bk bU=>bK (aK ae s1 σ H1 _ aZ bU) λej s2 ⟨y,ar,b0,bB,dV⟩=>
  bK (ao ae s2 σ ar _ b0 dV) λws s3 ⟨ps,a',eM,rel,hj⟩=>((p'p x y)::ps,a',eM,.cons (bk,bB) rel,hj))
noncomputable def uY(kvs more:List (Key×V)):List (Key×V):=more.foldl (λacc dE=>d8 acc dE.1 dE.2) kvs
theorem fF.merge:∀{more:List (Key×V)} {rs:List (Key×Value)} {kvs:List (Key×V)} {vs:List (Key×Value)},fF more rs->fF kvs vs->fF (uY kvs more) (merged vs rs):=by
 intro more rs kvs vs r;unfold fF at r
 induction r generalizing kvs vs with
 |nil=>intro q;exact q
 | @cons p q ps qs h t c4=>
  intro kF;have e:fF (d8 kvs p.1 p.2) (stored vs q.1 q.2):=by
   have:=kF.put p.1 h.2;rw[<- h.1];exact this
  exact c4 e
theorem At:∀(more kvs:List (Key×V)),↑(uY kvs more)<=↑kvs+↑more
 |[],kvs=>by show ↑kvs<=↑kvs+0;omega
 |p::r,kvs=>by
  have af:=At r (d8 kvs p.1 p.2);have ak:=Kl kvs p.1 p.2;show ↑(uY (d8 kvs p.1 p.2) r)<=_;rw[gW];omega
theorem V6{w:World}:∀{kvs:List (Key×V)} {ws:List (Value×Value)},Tb (kvs.map λdE=>(p'p (d9 dE.1) dE.2)) ws->∃rs,Carries (iI P w) ws rs/\fF kvs rs
 |[],_,r=>by rw[qE]at r;cases r;exact([],m5,.nil)
 | p::kvs,_,r=>by
  rw[es]at r;cases r with
  | @cons a b as bs h t=>
   let(rs,c,q):=V6 (P:=P) (w:=w) t;let(gq,gj):=b;exact((p'p p.1 gj)::rs,(tY h.1,rfl,c),.cons (rfl,h.2) q)
def HI(vU:List (TE×TE)):TE:=λσ H Q=>∀p,H p=none->G2 vU σ (upd H p (.bu [])) λps ar=>ar p\(.bu [])/\∃kvs:List (Key×V),ps=kvs.map (λdE=>(p'p (d9 dE.1) dE.2))/\↑kvs<=15/\Q ⇑p (upd ar p (.bu (uY [] kvs)))
def abp{keys:List (Option Expr)}(h:B5 X pos keys values vU)(pE:keys.all (·.isSome)=true)(aN:↑keys=↑values)(h0:keys≠[])
  (aiz:↑keys<=15):bw X (.Dict keys values pos) (HI vU):=by
 intro ae s σ H Q J q;have a5:=J.bC.fresh (bR ↥s);have aZ:=J.laid (a:=↥s) (o:=.bu []) (h':=s.heap.push {cls:=.type "dict",data:=.dict #[]}) (t':=s.toks) (λ_ _ q=>fk _ q) (bR _) (aaz s.heap J.big);refine wpAny_Dict_walk (knd:=iI X.prog X.w) pE aN h0 aiz (bK (h ae _ σ _ _ aZ (q _ a5)) λws s2 c7=>?_);let(ps,ar,b0,rel,e,kvs,cJ,lk,dV):=c7;subst cJ;let(rs,c,I2):=V6 (P:=X.prog) (w:=X.w) rel;let(z,hd,Z',kF,c3):=Bo b0.bC e;cases kF;refine(rs,c,c3,λh' pF az=>(.ref ↥s,_,?_,rfl,dV));have aO:↑(uY [] kvs)<=sizeLine:=by
  have af:=At kvs [];rw[zr]at af;rw[sizeLine_eq];omega
 have he:∃q,h'.get? ↥s\q:=let⟨q,_,_,aL,_⟩:=pF;(q,aL);exact GS b0 (by rw[e];exact m5) az he (Nk aO hd (I2.merge .nil) pF)
structure M2(X:bg)(o:Expr)(m:Str)(fR:Pos)(e f:Expr)(iV:Pos):Prop where
 base:attributeBase o m X.env (eval o X.env)=eval o X.env
 IE:((backTo iV (starEach [e,f] X.env)).all (λx=>!x.1)&&(backToKw iV (keywordEach [] X.env)).all (λx=>x.1.isSome)
  && decide (↑([e,f]:List Expr)+↑([]:List Keyword)+(if([]:List Keyword).isEmpty then 0 else 1)<30))=true
 line:(fR.endLine==iV.line)=true
 trees:backTo iV (starEach [e,f] X.env)=[(p'p false (eval e X.env)),(p'p false (eval f X.env))]
def B3(H:aw)(a:Addr):Prop:=(∃kvs,m6 H a (.bu kvs))\/∃kvs,m6 H a (.hl kvs)
def Y'(J:Inv X ae σ H s)(d:B3 H a) :
  s.TypeIs ⇑a "dict"/\(∀b,fE a=⇑b->∃cG,s.heap.get? b\cG/\cG.dict=none)/\(a==sysModules)=false:=by
 rcases d with⟨kvs,e⟩|⟨kvs,e⟩
 .let(_,hd,vs,_,c3):=wy J.bC e;refine(c3.typeIs,λb q=>?_,hd);cases q;let(cG,_,_,af,ak,_):=c3;exact(cG,af,ak.2.1)
 .let(_,hd,xs,_,c3):=wk J.bC e;refine(c3.typeIs,λb q=>?_,hd);cases q;let(cG,_,_,af,ak,_):=c3;exact(cG,af,ak.2.1)
section
variable{X:bg}{ae:List (Addr×Obj)}{σ:St}{H:aw}{s:Shared}{a:Addr}{y d:V}{u r:Value}{o:Option V}{A:Around}{E:Value->Shared->Prop}
def ahD(bJ:A.units+1<cLine)(J:Inv X ae σ H s)(g:gw H a y o)(bB:bX y u)(h2:bX d r)(h:∀eK aj,Inv X ae σ H aj->bX (o.getD d) eK->Q eK aj) :
  wpAny (model X.prog X.w) A (call (.builtin "dict.get") [⇑a,u,r]) Q E s:=by
 rcases g with⟨kvs,k,e,hY,l⟩|⟨kvs,k,b,e,hY,bD,l⟩
 .subst hY;let(z,hd,vs,rel,c3):=wy J.bC e;refine call_meetsIn QK c3.typeIs ait (aoM _ _ _) (meets_dict_get_default (iI X.prog X.w) a (tY bB) hd r) (_,c3.mapOf,h _ _ (J.tok _) ?_);rw[l];exact(rel.val k).getD h2
 .subst hY;cases(show u=fE b from bB);let(z,hd,xs,rel,c3):=wk J.bC e;refine call_meetsIn QK c3.typeIs ait (aoM _ _ _) (meetsH_dict_get_default (tupleKind (iI X.prog X.w)) a b hd r) (tupleKind_room_in1 bJ,k,xs,xm J.bC bD,c3,h _ _ (J.tok _) ?_);rw[l];exact(rel.val k).getD h2
end
def N6(e3 ty pH:TE):TE:=λσ H Q=>e3 σ H λx H1=>∃a,x=⇑a/\B3 H1 a/\ty σ H1 λy ar=>pH σ ar λz a'=>∃o,gw a' a y o/\Q (o.getD z) a'
def VP(e3 ty pH:TE):TE:=λσ H Q=>e3 σ H λx H1=>∃a,x=⇑a/\B3 H1 a/\ty σ H1 λy ar=>pH σ ar λz a'=>∃kvs k,a' a\(.bu kvs)/\y=d9 k /\
 (∀v,df kvs k\v->Q v (upd a' a (.bu (tR kvs k))))/\(df kvs k=none->Q z a')
section
variable{X:bg}{o e f:Expr}{fR iV:Pos}{e3 ty pH:TE}
def aca(bJ:X.A.units+1<cLine)(aU:bw X o e3)(he:bw X e ty)(hf:bw X f pH)(m:M2 X o "get" fR e f iV):bw X (.Call (.Attribute o "get" fR) [e,f] [] iV) (N6 e3 ty pH):=by
 intro ae s σ H Q J h;refine wpAny_Call_method m.base m.IE m.line ac9 QK PySem.F.type_dict_get (bK (aU ae s σ H _ J h) λu s1 c7=>?_);let(x,H1,aZ,bk,a,ex,d,bU):=c7;subst ex;obtain rfl:u=fE a:=bk;let(t1,ew,_):=Y' aZ d;refine(t1,ew,?_);rw[m.trees];refine XJ rfl (Uc (EW (bK (he ae s1 σ H1 _ aZ bU) λhb s2 ⟨y,ar,b0,bB,dV⟩=>
  EW (bK (hf ae s2 σ ar _ b0 dV) λTS s3 ⟨z,a',eM,va,eC,g,hj⟩=>Sr ?_))))
 exact ahD bJ eM g bB va λeK s4 h4 f6=>(_,a',h4,f6,hj)
theorem aht(aU:bw X o e3)(he:bw X e ty)(hf:bw X f pH)(m:M2 X o "pop" fR e f iV):bw X (.Call (.Attribute o "pop" fR) [e,f] [] iV) (VP e3 ty pH):=by
 intro ae s σ H Q J h;refine wpAny_Call_method m.base m.IE m.line ac9 Qc PySem.F.type_dict_pop (bK (aU ae s σ H _ J h) λu s1 c7=>?_);let(x,H1,aZ,bk,a,ex,d,bU):=c7;subst ex;obtain rfl:u=fE a:=bk;let(t1,ew,_):=Y' aZ d;refine(t1,ew,?_);rw[m.trees];refine XJ rfl (Uc (EW (bK (he ae s1 σ H1 _ aZ bU) λhb s2 ⟨y,ar,b0,bB,dV⟩=>
  EW (bK (hf ae s2 σ ar _ b0 dV) λTS s3 ⟨z,a',eM,va,kvs,k,iy,hY,hj,vm⟩=>Sr ?_))))
 subst hY;cases l:df kvs k with
 |some v=>exact ajr eM iy bB l (.inr (TS,rfl)) λeK s4 h4 f6=>(v,_,h4,f6,hj v l)
 |none=>exact anR eM iy bB l λs4 h4=>(z,a',h4,va,vm l)
end
end L2
namespace Xv
open PySem PySem.W PySem.Calls PyProof.Rows
theorem aeu{h:Heap}:∀(ns:List Int) (vs:List Value),WellAll P h vs (ns.map aj')->IntsAre vs ns:=by
 intro ns
 induction ns with
 |nil=>
  intro vs w;rw[qE]at w;cases w;exact .nil
 | cons n ns c4=>
  intro vs w;rw[es]at w;cases w with
  |cons a b=>
   cases a;exact .cons _ _ (c4 _ b)
theorem adQ{l:OpenLaw}{n:Nat}(a5:l.most\n){P:Params}{h:Heap}{args:List WData}{Hk:List Value}
  (BX:l.row.toRowW.claim.pre args=true) (gz:WellAll P h Hk args) :
  ∃a vs ns,Hk=[fE a]/\args=[WData.list (ns.map aj')]/\h.get? a=some {cls:=.type "list",data:=.seq vs.toArray}/\IntsAre vs ns/\↑ns<=n:=by
 have hq:WShape.hasAll [] args [.list .int]=true:=(pre_splitW BX).1;have aC:l.pre.holds [] {args:=args}=true:=(pre_splitW BX).2;let(d,r,rfl,af,ak):=hasAllW_cons hq;obtain rfl:=hasAllW_nil ak;let(xs,rfl,a8):=hasW_list af;let(ns,rfl):=items_int a8;have hlen:↑ns<=n:=by
  unfold OpenLaw.pre at aC;have bZ:(WTm.not (.lt (.lit (.int (n:Int))) (.len (.arg 0)))).holds [] {args:=[.list (ns.map .int)]}=true:=by
   have bZ:=(holds_andW aC).1;rw[a5]at bZ;exact bZ
  have dS:=condW_of bZ (w_not (w_lt w_lit (w_len_list (w_arg rfl))));rw[aT]at dS;refine ae6 λq=>?_
  have dB:(n:Int)<((↑ns:Nat):Int):=()
  first
   |(rw[decide_eq_true dB]at dS;exact absurd dS ∅)
   |(simp at dS;omega)
 cases gz with
 |cons dP ej=>
  cases ej;cases dP with
  |list aU pE=>exact(_,_,ns,rfl,rfl,aU,aeu ns _ pE,hlen)
def al3(l:OpenLaw)(args:List WData):l.row.toRowW.claim.post args (.bool true) args=true:=
 postW_of (r:=l.row.toRowW) (X:=(true==true))
  (show amm [] (.bool true) .bool=true by first|rfl|decide|simp[amm,WShape.arms,WShape.armsAll])
  (show(WTm.eq .res (.lit (.bool true))).value [] {args:=args,res:=some (.bool true),after:=args}\(.bool (true==true))from w_eq_bool (w_res rfl) w_lit) rfl
def abQ{l:OpenLaw}{n:Nat}{q:Program}{loose:List Str}{C':(Str->Option Value)->Heap->Prop}{xk:World->Heap->Prop}{d:DefRec}
  (a5:l.most\n) (OF:d.params.defaults=[])
  (call:∀(w:World) (gE dQ:Shared) (mg oP:Str->Option Value) (gX:Addr) (o:Obj) (pm cd doc:Value) (a:Addr) (vs:List Value) (ns:List Int),
   Ground q loose [] C' w gE mg oP dQ.heap->xk w dQ.heap ->
   dQ.heap.get? gX\o->o.data=.func (docDef d.name d.params d.body d.scope pm cd doc)->dQ.heap.CodeRec cd d.name->mg d.name\⇑gX ->
   dQ.heap.get? a=some {cls:=.type "list",data:=.seq vs.toArray}->IntsAre vs ns->↑ns<=n->dQ.gens=#[] ->
   codeAny (model l.prog w) callerA (.call ⇑gX ([⇑a],[])) (λr aj=>r=.ok (.ret (.bool true))/\OldK dQ.heap aj.heap/\aj.os=dQ.os/\AllBare aj.gens) dQ) :
  WalkO q loose C' xk l.row.toRowW d [] (λf vs=>aoS f vs):=by
 intro w gE dQ mg oP G Y gX o pm cd doc Fp d9 aU hd kq b1 Bg a7 args Hk as BX auC auZ gz ub;obtain rfl:Fp=.none:=Dflts.none b1 OF;obtain rfl:d9=.none:=Dflts.noKw b1;let(a,vs,ns,rfl,rfl,LI,hints,hlen):=adQ a5 BX gz;refine enter_call (codeAny_mono (call w gE dQ mg oP gX o pm cd doc a vs ns G Y aU (fd_plain hd) kq Bg LI hints hlen a7) λr aj aL=>?_);let(rfl,ak,a8,bZ):=aL;exact(.inl (.bool true,.bool true,[],rfl,λ_=>rfl,.bool true,al3 l _,λ_=>(auK,λ_ hm=>(nomatch hm))),ak,a8,bZ)
end Xv
namespace L2
open PySem PySem.Spec PyProof.Rows
theorem UI:∀{vs:List Value} {ns:List Int},IntsAre vs ns->cN (ns.map V.int) vs
 |_,_,.nil=>.nil
 |_,_,.cons n t h=>.cons (t,rfl) (UI h)
noncomputable abbrev FH{K:bq}{h:Heap}(_:K.In h):bq:=K
noncomputable def Gc(s:Stmt)(j:Nat):Stmt:=match s with
 | .ClassDef _ _ _ body _ _ _ _ _ _ _=>body.getD j (.Pass (0,0,0,0))
 |_=>.Pass (0,0,0,0)
noncomputable def Gv(s:Stmt):Arguments:=match s with
 | .FunctionDef _ a _ _ _ _ _ _ _ _=>a
 |_=>{posonlyargs:=[],args:=[],vararg:=none,kwonlyargs:=[],kw_defaults:=[],kwarg:=none,defaults:=[]}
noncomputable def tr(s:Stmt):List Stmt:=match s with
 | .FunctionDef _ _ b _ _ _ _ _ _ _=>b
 |_=>[]
noncomputable def bx(s:Stmt):Scope:=match s with
 | .FunctionDef _ _ _ _ _ _ sc _ _ _=>sc
 |_=>{kind:=.function,names:=[],isGenerator:=false,isCoroutine:=false}
abbrev dt:kd:=λ_ _ _ _ _ _=>False
abbrev Ko:f7:=λ_ _ _=>False
def cY:rh dt X Ko:=λ_ _ _ _ _ _ _ h=>h.elim
structure b9(K:bq)(x qual:Str)(st:Stmt)(f:Addr)(fd:FuncData):Prop where
 ex:∃(pN:Value) (fN:Option Addr) (d9 doc pm:Value) (an:Option Addr) (f5 gf:Value) (uE:Array (Option Value)),
  fd=Bw x qual (Gv st) (tr st) (bx st) .none d9 doc pm an f5 gf/\K.lookup f\(pN,fN,.func fd,uE)/\aah K f5 qual=true
 bp:vy K ⇑f=true
section
variable{P:Program}{w:World}{K:bq}{mg:Str->Option Value}{base:Heap}
def b9.ok{x qual:Str}{st:Stmt}{fd:FuncData}{N ps:List Str}{k:Nat}(F:b9 K x qual st f fd)(S:Db N ps (bx st))(len:∀vs H Q E,sp vs H Q E->↑vs=↑ps)
  (pb:∀(f5:Value) (A:Around) (outer:List Env) (s:Shared) (H:aw) (vs:List V) (Q:c6) (E:f7),bn k (A.deeper (envOfC qual (bx st) ↥s f f5))->sp vs H Q E ->
   ∃t,iS (sZ dt P w K mg base N qual (bx st) f f5 A outer s H E).u_ (tr st) t/\t {cP:=λ_ I=>Q .cF I,m':=Q} (start N vs) H):cT P w K mg base dt (k+1) f fd ps sp:=by
 let(pN,fN,d9,doc,pm,an,f5,gf,uE,rfl,lk,kq):=F.ex;refine Ql lk kq S len λA outer s H vs Q E ao jk=>?_
 let(t,h,q):=pb f5 A outer s H vs Q E ao jk;exact(t,h.u_,q)
def b9.binds{x qual:Str}{st:Stmt}{fd:FuncData}(F:b9 K x qual st f fd)
  (h:∀(d9 doc pm:Value) (an:Option Addr) (f5 gf:Value) (us:List Value),↑us=↑ps->bindArgs (Bw x qual (Gv st) (tr st) (bx st) .none d9 doc pm an f5 gf) (us,[])=pure (ps.zip us)):b7 K fd ps []:=by
 let(pN,fN,d9,doc,pm,an,f5,gf,uE,rfl,lk,kq):=F.ex;exact .all (h d9 doc pm an f5 gf)
def aoL{x qual:Str}{st:Stmt}{d9 doc pm f5 gf:Value}(l:K.lookup f\(pN,fN,.func (Bw x qual (Gv st) (tr st) (bx st) .none d9 doc pm an f5 gf),uE))
  (c:aah K f5 qual=true) (k:vy K ⇑f=true):b9 K x qual st f (Bw x qual (Gv st) (tr st) (bx st) .none d9 doc pm an f5 gf):=((pN,fN,d9,doc,pm,an,f5,gf,uE,rfl,l,c),k)
end
def ahc(A:Around):Prop:=A.units+1<cLine
def adv(A:Around):Prop:=A.units+64<cLine
def adq{A:Around}{k:Nat}(ao:bn k A):adv A:=ao.units
def h9{A:Around}{k:Nat}(ao:bn k A):ahc A:=gv (Nat.add_le_add_left (by decide:1<=64) _) ao.units
section
variable{X:bg}
def U(i:Nat){x:Str}(bo:autoParam (X.N[i]?\x) A'r)(aK:Bl X.env.scope x:=by first|exact lY rfl|exact nC (lY rfl)|exact nC (nC rfl))(hd:(x==("__debug__":Str))=false:=by decide)
  (kq:autoParam ((x==("__classdict__":Str))=false) A'd):bw X (.Name x pos) (Ck i):=af3 bo aK hd kq
end
def aM(H I:aw):Prop:=∀b o,H b\o->I b\o
def aM.refl(H:aw):aM H H:=λ_ _ h=>h
def aM.trans(a:aM H H1)(b:aM H1 ar):aM H ar:=λc o h=>b c o (a c o h)
theorem aM.free(e:aM H I)(h:I l=wC):H l=wC:=by
 cases q:H l with
 |none=>rfl
 |some o=>
  rw[e l o q]at h;cases h
end L2
set_option maxHeartbeats 4000000
namespace L2
open PySem PySem.Spec PyProof.Rows
noncomputable def kX(cells:List (Str×Addr)):List (Str×NameKind)->List (Str×Addr)->List (Str×Addr)
 |[],acc=>acc
 |(n,k)::r,acc=>if k == .free then(match cells.lookup n with|some c=>kX cells r ((p'p n c)::acc)|none=>kX cells r acc)else kX cells r acc
theorem Ot{env:Env}:∀(names:List (Str×NameKind)) (acc:List (Str×Addr)),(∀y∈names,y.2=.free->∃c,env.cells.lookup y.1\c) ->
  (forIn names acc (λ(x:Str×NameKind) (cs:List (Str×Addr))=>(if(x.2 == .free)=true then do let a <- cellOf env x.1;pure (A4 ((p'p x.1 a)::cs))else pure (A4 cs):Sem (ForInStep (List (Str×Addr))))))=pure (kX env.cells names acc)
 |[],acc,_=>rfl
 | (n,k)::r,acc,h=>by
  have ao:∀y∈r,y.2=.free->∃c,env.cells.lookup y.1\c:=λy aQ=>h y (jj _ aQ)
  rw[List.forIn_cons];by_cases aB:(k==s7)=true
  .have e:k=.free:=by simpa using aB
   let(c,aC):=h (p'p n k) ox e;have xJ:env.cells.lookup n\c:=aC;simp only[kX,aB,if_true,xJ,cellOf];exact Ot r _ ao
  .simp only[kX,aB];exact Ot r _ ao
def U0{env:Env}(h:∀y∈scope.names,y.2=.free->∃c,env.cells.lookup y.1\c):closureFor scope env=pure (kX env.cells scope.names []):=by
 unfold closureFor;exact congrArg (λt=>t >>= pure) (Ot scope.names [] h)
theorem lw{cells:List (Str×Addr)}:∀(names:List (Str×NameKind)) (acc:List (Str×Addr)) {x:Str} {c:Addr},(kX cells names acc).lookup x\c->acc.lookup x\c\/cells.lookup x\c
 |[],acc,x,c,h=>.inl h
 | (n,k)::r,acc,x,c,h=>by
  unfold kX at h;split at h
  .cases q:cells.lookup n with
   |none=>rw[q]at h;exact lw r acc h
   | some d=>
    rw[q]at h;rcases lw r _ h with z|z
    .rw[l5]at z;by_cases ag:(x==n)=true
     .rw[ag]at z;have e:x=n:=by simpa using ag
      subst e
      right;rw[q];exact z
     .have eb:(x==n)=false:=by simpa using ag
      rw[eb]at z;exact .inl z
    .exact .inr z
  .exact lw r acc h
theorem F'{cells:List (Str×Addr)}:∀(names:List (Str×NameKind)) (acc:List (Str×Addr)) {x:Str} {c:Addr},acc.lookup x\c->cells.lookup x\c->(kX cells names acc).lookup x\c
 |[],acc,x,c,h,_=>h
 | (n,k)::r,acc,x,c,h,aC=>by
  unfold kX;split
  .cases q:cells.lookup n with
   |none=>exact F' r acc h aC
   | some d=>
    refine F' r _ ?_ aC;rw[l5];by_cases ag:(x==n)=true
    .have e:x=n:=by simpa using ag
     subst e;rw[ag];rw[q]at aC;exact aC
    .have eb:(x==n)=false:=by simpa using ag
     rw[eb];exact h
  .exact F' r acc h aC
theorem Bp{cells:List (Str×Addr)}:∀(names:List (Str×NameKind)) (acc:List (Str×Addr)) {x:Str} {c:Addr},(p'p x s7)∈names->cells.lookup x\c->(kX cells names acc).lookup x\c
 |[],_,_,_,h,_=>nomatch h
 | (n,k)::r,acc,x,c,h,aC=>by
  rcases d6.mp h with e|h
  .cases e;unfold kX;rw[if_pos ∅,aC];refine F' r _ ?_ aC;rw[l5];simp
  .unfold kX;split
   .cases q:cells.lookup n with
    |none=>exact Bp r acc h aC
    |some d=>exact Bp r _ h aC
   .exact Bp r acc h aC
theorem Oj:∀{l:List (Str×α)} {x:Str} {a:α},l.lookup x\a->(p'p x a)∈l
 |[],_,_,h=>by simp at h
 | (n,b)::r,x,a,h=>by
  rw[l5]at h;by_cases ag:(x==n)=true
  .have e:x=n:=by simpa using ag
   subst e;rw[ag]at h;have aE:b=a:=er h;subst aE;exact ox
  .have eb:(x==n)=false:=by simpa using ag
   rw[eb]at h;exact jj _ (Oj h)
def agu{env:Env}{x:Str}{k:NameKind}(h:(relabel scope env).names.lookup x\k)(aB:k=.cell\/k=.free)(aC:∀y∈scope.names,y.2≠.cell):(p'p x s7)∈scope.names:=by
 have af:=Oj h;let((n,j),hm,e):=cf.mp af;have bF:(if(j==s7&&env.scope.kind == .function&&env.kindOf n==some .cell)=true then(p'p n XA)else(p'p n j))=(p'p x k):=e;split at bF
 .rename_i QF;have au:n=x:=(QD bF).1;subst au;have aI:j=.free:=by
   simp only[kb]at QF;simpa using QF.1.1
  subst aI;exact hm
 .have au:n=x:=(QD bF).1;have aE:j=k:=(QD bF).2;subst au;subst aE;rcases aB with z|z
  .exact absurd z (aC _ hm)
  .subst z;exact hm
theorem acN{env:Env}{x:Str}(h:scope.names.lookup x\.free):(relabel scope env).names.lookup x\.cell\/(relabel scope env).names.lookup x\.free:=by
 have all:∀(names:List (Str×NameKind)),names.lookup x\.free ->
   (names.map λ(n,k)=>if(k==s7&&env.scope.kind == .function&&env.kindOf n==some .cell)then(p'p n XA)else(p'p n k)).lookup x\.cell \/
   (names.map λ(n,k)=>if(k==s7&&env.scope.kind == .function&&env.kindOf n==some .cell)then(p'p n XA)else(p'p n k)).lookup x\.free:=by
  intro names
  induction names with
  |nil=>intro h;simp at h
  | cons p r c4=>
   let(n,k):=p;intro h;rw[es];by_cases ag:(x==n)=true
   .simp only[l5,ag]at h;have aB:k=.free:=er h;subst aB;by_cases aC:(s7==s7&&env.scope.kind == .function&&env.kindOf n==some .cell)=true
    .left;simp only[if_pos aC,l5,ag]
    .right;simp only[if_neg aC,l5,ag]
   .have eb:(x==n)=false:=by simpa using ag
    simp only[l5,eb]at h;by_cases aC:(k==s7&&env.scope.kind == .function&&env.kindOf n==some .cell)=true
    .simp only[if_pos aC,l5,eb];exact c4 h
    .simp only[if_neg aC,l5,eb];exact c4 h
 exact all scope.names h
noncomputable abbrev bg.block(X:bg)(scope:Scope)(C:Addr)(N:List Str)(s:Shared)(H:aw)(bl:List Addr):bg where
 prog:=X.prog
 w:=X.w
 K:=X.K
 mg:=X.mg
 base:=X.base
 A:=X.A
 N:=N
 gE:=s
 tO:=H
 env:=compEnvC scope (kX X.env.cells scope.names []) C X.env
 outer:=X.stack
 stack:=X.stack
 ex:=bl
 fn:=λ_=>false
 calm:=X.calm
 dZ:=[]
 d_:=λ_ _=>False
structure wv(env:Env)(scope:Scope):Prop where
 kind:scope.kind=.function
 xf:∀y∈scope.names,y.2≠.cell
 fr:∀y∈scope.names,y.2=.free->env.kindOf y.1\.cell\/env.kindOf y.1\.free
 loc:∀x∈scope.names,x.2=.local->scope.names.lookup x.1\.local
noncomputable def oy(sel:List (Option Nat))(σ:St):St:=sel.map λo=>o.bind λj=>(σ[j]?).join
def KK(M:List Str)(scope:Scope)(N:List Str)(sel:List (Option Nat)):Prop:=
 ↑sel=↑N/\∀(i j:Nat) (x:Str),sel[i]?\(some j)->N[i]?\x->M[j]?\x/\scope.names.lookup x\.free
section
variable{X:bg}{ae:List (Addr×Obj)}{σ:St}{H:aw}{s:Shared}{scope:Scope}{bl:List Addr}{C:Addr}{N:List Str}
theorem wv.cells(S:wv X.env scope)(ok:X.Ok):∀y∈scope.names,y.2=.free->∃c,X.env.cells.lookup y.1\c:=λy aQ e=>ok.has y.1 (S.fr y aQ e)
def yp{x:Str}(h:(kX X.env.cells scope.names []).lookup x\c):X.env.cells.lookup x\c:=by
 rcases lw _ _ h with z|z
 .simp at z
 .exact z
def Qj(J:Inv X ae σ H s)(S:wv X.env scope)(hf:∀b∈bl,jO X ae H b)(az:∀b∈bl,b<↥s)(dd:↥s<=C):(X.block scope C N s H bl).Ok where
 mod:=J.ok.mod
 kind:=S.kind
 glob:=J.ok.glob
 blt:=J.ok.blt
 above:=dd
 inj:=λx y c af ak=>J.ok.inj x y c (yp af) (yp ak)
 has:=λx h=>by
  have aB:∃k,(relabel scope X.env).names.lookup x\k/\(k=.cell\/k=.free):=by
   rcases h with h|h
   .exact (_,h,.inl rfl)
   .exact (_,h,.inr rfl)
  let(k,af,ak):=aB;have hm:=agu af ak S.xf;let(c,aC):=S.cells J.ok _ hm rfl;exact(c,Bp _ _ hm aC)
 yq:=λ_ _ h _=>nomatch h
 hd:=J.ok.hd
 frames:=J.ok.frames
 zo:=.inl rfl
 Jq:=λb aa=>(gN (ja (az b aa) dd),λx c e=>(hf b aa).2.2.2.2.1 x c (yp e))
 bs:=J.bs
 oC:=cZ J.ok.oC J.qm
 xi:=λb o e aa=>by
  rcases(hf b aa).2.2.2.1 with z|z
  .exact J.ok.xi b o e z
  .exact absurd (ja (ja (eD e) J.ok.oC) z) (qq _)
 w3:=λb aa aO=>by
  rcases d6.mp (J.E7 b aO)with z|z
  .exact (hf b aa).2.1 z
  .exact (hf b aa).2.2.1 z
 n':=J.stack
 tA:=J.O1
theorem aej(J:Inv X ae σ H s)(S:wv X.env scope)(hf:∀b∈bl,jO X ae H b)(az:∀b∈bl,b<↥s)(dd:↥s<=C)
  (k:∀b o,s.heap.get? b\o->h'.get? b\o) (a5:h'.Ns C m) (uf:KK X.N scope N sel):Inv (X.block scope C N s H bl) [] (oy sel σ) H {s with heap:=h',toks:=t' }where
 ok:=Qj J S hf az dd
 os:=rfl
 bare:=J.bare
 base:=h8.kept k
 loc:=by
  refine(m,a5,λi x v au aE bI=>?_);let(m0,sk,aN):=J.loc;let(j,ud,amd):∃j,sel[i]?\(some j)/\σ[j]?\(some v):=by
   unfold oy at aE;rw[dv]at aE;cases q:sel[i]? with
   |none=>rw[q]at aE;cases aE
   | some o=>
    rw[q]at aE;cases o with
    |none=>cases aE
    |some j=>
     refine(j,rfl,?_);have G5:(σ[j]?).join\v:=er aE;cases r:σ[j]? with
     |none=>rw[r]at G5;cases G5
     |some z=>rw[r]at G5;exact congrArg some G5
  let(anl,uQ):=uf.2 i j x ud au;have hm:=Oj uQ;have aB:=S.fr _ hm rfl;have aK:Bl X.env.scope x:=aB.elim (λz=>.inr (.inl z)) λz=>.inr (.inr z)
  let(u,r,l):=aN j x v anl amd aK;refine(u,r,?_);rcases l with⟨aeG,_⟩|⟨_,c,aC,xy⟩
  .rcases aB with z|z <;> (have hB:X.env.kindOf x=_:=z;rw[aeG]at hB;cases hB)
  .refine .inr (?_,c,Bp _ _ hm aC,?_)
   .exact acN uQ
   .let(o,aU,hd):=xy;exact(o,k _ _ aU,hd)
 cell:=λx c e=>by
  let(v,o,aU,hd):=J.cell x c (yp e);exact(v,o,k _ _ aU,hd)
 free:=J.bC.fresh dd
 kG:=λx c e=>J.kG x c (yp e)
 pin:=λp aq=>nomatch aq
 bC:=J.bC.kept k
 len:=by unfold oy;rw[aT];exact uf.1
def Inv.adopt(J:Inv X ae σ H s)(ig:jO X ae H a)(new:gk X.prog X.w (upd H a o) s.heap a o):Inv X ae σ (upd H a o) s:=by
 let(a5,eN,Fz,hex,n6,hZ):=ig;refine J.step (g':=s.gens) (d':=s.drawn) (t':=s.toks) (h':=s.heap) (ch:=[a]) (λb aa=>?_) (λb o _ _ _ e _=>e) (λb o _ _ _ e _=>(o.slots,e)) (λb o aa e n=>?_) (λb o _ e=>(o,e))
  (λb xs e=>?_) (λb o u e=>?_) (λb ps e=>(#[],?_)) (λm hm=>hm) (λb u e=>?_) J.bare
 .have e:b=a:=by simpa using aa
  subst e;exact(hex,eN,n6,hZ)
 .rw [aD (λz=>aa (by simp[z]))];exact n
 .rw [aD (dF e a5)];exact e
 .rw [aD (dF e a5)];exact e
 .rw [aD (dF e a5),e];simp
 .by_cases aa:b=a
  .subst aa;rw[db]at e;cases e;exact new
  .rw [aD aa]at e;exact(J.bC b u e).pd (λc v _ q=>q) (λc q=>by rw[aD (dF q a5)];exact q) λc xs q=>by rw[aD (dF q a5)];exact q
end
theorem alB{prog:Program}{w:World}{A:Around}{it acc:Value}{env:Env}(J:Nat->Shared->Prop)
  (turn:∀n s,J n s->wpAny (model prog w) A (pyNext it) (λr dQ=>match r with
   |none=>R (.ok .next) dQ
   | some v=>wpAny (model prog w) A (letOwnedTupleGo Az it v) (λ_ gE=>wpAny (model prog w) A (assign Az env v) (λ_ eh=>
     wpAny (model prog w) A (forIn ifs true λc r=>if r=true then do let ok <- isTrue c env (eval c env);pure (A4 ok)else pure (A4 r)) (λok mL=>
      if ok=true then wpAny (model prog w) A (eval elt env) (λx EM=>
       wpAny (model prog w) A (call (.builtin "list.append") [acc,x]) (λ_ Wi=>∃m,m<n/\J m Wi) (λ_ _=>False) EM) (λ_ _=>False) mL
      else ∃m,m<n/\J m mL) (λ_ _=>False) eh) (λ_ _=>False) gE) (λ_ _=>False) dQ) (λ_ _=>False) s)
  (n:Nat) (h:J n s) :
  codeAny (model prog w) A (.compLoop (.ListComp elt [(Az,iter,ifs,0)] scope pos) 0 it acc env) R s:=by
 refine codeAny_loop rfl J (λn s Pw=>?_) n h;show wpAny _ A ((compTurn (.ListComp elt [(Az,iter,ifs,0)] scope pos) 0 it acc env).onRaise (λx=>do noteFrame x env;theTreesLotGoes x)) _ _ s;refine wpAny_noted (wpAny_noRaise ?_);rw[compTurn_list];refine wpAny_bind (wpAny_standAt (wpAny_bind (wpAny_mono (turn n s Pw) (λr dQ h₁=>?_) λ_ _ h'=>h')));cases r with
 |none=>exact wpAny_pure h₁
 | some v=>
  refine wpAny_bind (wpAny_mono h₁ (λ_ gE h₀=>?_) λ_ _ h'=>h');refine wpAny_bind (wpAny_mono h₀ (λ_ eh yH=>wpAny_bind (wpAny_mono yH (λok mL Cj=>?_) λ_ _ h'=>h')) λ_ _ h'=>h');cases ok with
  |false=>exact wpAny_pure (rfl,Cj)
  |true=>
   exact wpAny_bind (wpAny_bind (wpAny_mono Cj (λx EM asD=>wpAny_bind (wpAny_mono asD (λ_ Wi apG=>wpAny_pure (wpAny_pure (rfl,apG))) λ_ _ h'=>h')) λ_ _ h'=>h'))
def zW(X:bg)(ifs:List Expr)(t:TT):Prop:=
 ∀(ae:List (Addr×Obj)) (s:Shared) (σ:St) (H:aw) (Q:Bool->aw->Prop),Inv X ae σ H s->t σ H Q ->
  wpAny (model X.prog X.w) X.A (forIn ifs true λc r=>if r=true then do let ok <- isTrue c X.env (eval c X.env);pure (A4 ok)else pure (A4 r)) (GL X ae σ Q) X.d_ s
def sm:TT:=λ_ H Q=>Q true H
def iA:zW X [] sm:=λ_ _ _ H _ J h=>wpAny_tests_nil (H,J,h)
def s6{t:TT}(h:iz X c t):zW X [c] t:=λae s σ H Q J q=>wpAny_tests_one (h ae s σ H Q J q)
def Sub(σ av:St):Prop:=↑av=↑σ/\∀(i:Nat) (v:V),σ[i]?\(some v)->av[i]?\(some v)
def wa(bH:kP)(g:g9)(dJ:TT)(b2:TE)(dM:St)(Q:c6)(W:Nat->Nat->List V->aw->Prop):Prop:=∀i m ys H,W i m ys H ->
 (bH.stop i H/\∀p,H p=none->Q ⇑p (upd H p (.lst ys))) \/
 (bH.go i H/\↑ys<sizeLine/\∀x I,bH.sC i H x I->g x dM I λcv ar=>Sub dM cv/\dJ cv ar λc a'=>if c=true then b2 cv a' λy cb=>∃dI,dI<m/\W (i+1) dI (ys++[y]) cb else ∃dI,dI<m/\W (i+1) dI ys a')
def Of(ix:TI)(g:g9)(dJ:TT)(b2:TE)(sel:List (Option Nat)):TE:=λσ H Q=>ix σ H λbH H1=>∃W:Nat->Nat->List V->aw->Prop,(∃m,W 0 m [] H1)/\wa bH g dJ b2 (oy sel σ) Q W
section
variable{X:bg}{elt dG iter:Expr}{ifs:List Expr}{scope:Scope}{pos:Pos}{ix:TI}{g:g9}{dJ:TT}{b2:TE}{N:List Str}{sel:List (Option Nat)}
structure fm(X:bg)(scope:Scope)(N:List Str)(dG elt:Expr)(ifs:List Expr)(g:g9)(dJ:TT)(b2:TE):Prop where
 WV:∀C s H bl,ql (X.block scope C N s H bl) dG g
 tests:∀C s H bl,zW (X.block scope C N s H bl) ifs dJ
 elem:∀C s H bl,bw (X.block scope C N s H bl) elt b2
def fm.of{N:List Str}(af:∀C s H bl,ql (X.block scope C N s H bl) dG g)
  (ak:∀C s H bl,∃t,zW (X.block scope C N s H bl) ifs t/\t=dJ) (a8:∀C s H bl,∃t,bw (X.block scope C N s H bl) elt t/\t=b2):fm X scope N dG elt ifs g dJ b2:=
 (af,λC s H bl=>by let(t,h,rfl):=ak C s H bl;exact h,λC s H bl=>by let(t,h,rfl):=a8 C s H bl;exact h)
theorem Y0{ae:List (Addr×Obj)}{eh:Shared}{σ:St}{jJ:aw}{Q:c6}{it:Addr}{bl:List Addr}{cc:Nat->Heap->Prop}{bH:kP}{W:Nat->Nat->List V->aw->Prop}{E:Value->Shared->Prop}{RR:Value->Addr->Result->Shared->Prop}
  (aC:X.calm=true) (S:wv X.env scope) (uf:KK X.N scope N sel) (B:fm X scope N dG elt ifs g dJ b2) (b0:Inv X ae σ jJ eh) (T:r5 X.prog X.w X.K dG bH bl it cc) (tM:cc 0 eh.heap) (f2:∀b∈bl,jO X ae jJ b)
  (qd:∃m,W 0 m [] jJ) (gY:wa bH g dJ b2 (oy sel σ) Q W)
  (fin:∀D C ys I aj,Inv X ae σ (upd I D (.lst ys)) aj->(∃m,aj.heap.Ns C m)->jO X ae (upd I D (.lst ys)) C->Q ⇑D (upd I D (.lst ys))->RR ⇑D C (.ok .next) aj) :
  wpAny (model X.prog X.w) X.A (newList []) (λacc mL=>wpAny (model X.prog X.w) X.A (newFunctionEnv scope X.env.globals (kX X.env.cells scope.names []) [] X.env.qual none .none (some X.env)) (λYh EM=>
   codeAny (model X.prog X.w) X.A (.compStart (.ListComp elt [(dG,iter,ifs,0)] scope pos) 0 ⇑it acc {Yh with scope:=relabel scope X.env}) (RR acc Yh.locals) EM) E mL) E eh:=by
 refine wpAny_newObj_type (wpAny_newFunctionEnv S.xf (by intro y aQ;simp at aQ) (λh₁ H8 Fu=>?_) S.kind);dsimp only at H8 Fu⊢;generalize rR:eh.heap.push {cls:=.type "list",dict:=none,data:=.seq ([]:List Value).toArray}=ar at H8 Fu⊢;have dd:ar.objs.size=↥eh+1:=by rw[<- rR,QA]
 have A2:↥eh≠ar.objs.size:=by rw[dd];exact gN (wW _)
 have It:↥eh<=ar.objs.size:=by rw[dd];exact y1 _
 have below:∀b,b<↥eh->b≠ar.objs.size/\b≠↥eh:=λb aa=>(by rw[dd];exact gN (Nat.lt_succ_of_lt aa),gN aa)
 have old:∀b o,eh.heap.get? b\o->h₁.get? b\o:=λb o e=>Fu.extBut b o (below b (eD e)).1 (fk _ (rR ▸ fk _ e))
 have afF:h₁.get? ↥eh=some {cls:=.type "list",data:=.seq ([]:List Value).toArray}:=Fu.extBut _ _ A2 (fk _ (rR ▸ hC _ rfl));have Al:∀b∈bl,b<↥eh:=λb aa=>by
  let(o,e,_):=T.obj _ _ tM b aa;exact eD e
 generalize avb:ar.objs.size=C at *;generalize qy:↥eh=D at *;have ZY:cc 0 h₁:=T.keep _ _ _ tM λb _ o e=>old b o e
 have alP:Inv (X.block scope C N eh jJ bl) [] (oy sel σ) jJ {eh with heap:=h₁,toks:=eh.toks+↑([]:List (Str×Value))}:=
  aej b0 S f2 (λb aa=>by rw[qy];exact Al b aa) (by rw[qy];exact It) old H8 uf
 have ML:D∉(X.block scope C N eh jJ bl).a6:=λz=>by
  have hB:=b0.E7 D z;rcases d6.mp hB with e|e
  .exact absurd b0.lt (by rw[<- e,qy];exact qq _)
  .exact b0.MY (by rw[qy];exact bR _) e
 have loop:∀mL:Shared,mL={eh with heap:=h₁,toks:=eh.toks+↑([]:List (Str×Value))} ->
   codeAny (model X.prog X.w) X.A (.compLoop (.ListComp elt [(dG,iter,ifs,0)] scope pos) 0 ⇑it ⇑D (compEnvC scope (kX X.env.cells scope.names []) C X.env)) (RR ⇑D C) mL:=by
  rintro mL rfl;let(m0,qd):=qd;refine alB (λk aj=>∃i ys us n I,Inv (X.block scope C N eh jJ bl) [(p'p D ({cls:=.type "list",data:=.seq us n}))] (oy sel σ) I aj/\(∃vs:List Value,us=vs.toArray/\cN ys vs)/\↑ys<=sizeLine/\cc i aj.heap/\(∀b∈bl,I b=none)/\W i k ys I) ?_ m0
   (0,[],_,0,jJ,alP.uz λp aq=>?_,([],rfl,.nil),eO _,ZY,λb aa=>(f2 b aa).1,qd)
  .rintro k aj ⟨i,ys,us,n,I,I8,⟨vs,rfl,cM⟩,SH,st,fr,w⟩;have Li:∀{pl:List (Addr×Obj)} {i4:aw},(∀p∈pl,p.1=D)->(∀b∈bl,i4 b=none)->∀b∈bl,jO (X.block scope C N eh jJ bl) pl i4 b:=fun {pl i4} aq a5 b aa=>
    (a5 b aa,(below b (Al b aa)).1,(Qj (N:=N) (C:=C) b0 S f2 (λb aa=>by rw[qy];exact Al b aa) (by rw[qy];exact It)).w3 b aa,.inl aa,λx c e=>(f2 b aa).2.2.2.2.1 x c (yp e),λp ak3 z=>by
     have agg:p∈pl:=by simpa using ak3
     exact(below b (Al b aa)).2 (by rw[<- z];exact aq p agg))
   have uM:∀p∈[((p'p D ({cls:=.type "list",data:=.seq vs.toArray n})):Addr×Obj)],p.1=D:=λp aq=>by
    have e:p=(p'p D ({cls:=.type "list",data:=.seq vs.toArray n})):=by simpa using aq
    rw[e]
   rcases gY i k ys I w with⟨stop,OU⟩|⟨go,hlen,step⟩
   .refine bK (T.done (X.block scope C N eh jJ bl) rfl rfl rfl aC i _ aj _ I _ I8 (Li uM fr) st stop) λr s4 c7=>?_
    let(ao,h4):=c7;subst ao;have vd:=h4.pin (p'p D ({cls:=.type "list",data:=.seq vs.toArray n})) (by simp);have Vc:I D=none:=vd.2.1;have aoE:Inv X ae σ I s4:=b0.an_ (ch:=bl) h4.os h4.base h4.bC h4.bare λb aa=>((f2 b aa).2.2.2.1,(f2 b aa).2.1,(f2 b aa).2.2.2.2.1,(f2 b aa).2.2.2.2.2)
    have vE:jO X ae I D:=b0.pK (by rw[qy];exact bR _) Vc;have ab4:Inv X ae σ (upd I D (.lst ys)) s4:=aoE.adopt vE (SH,vs,n,cM,vd.1);let(al',arq,_):=h4.loc;refine fin D C ys I s4 ab4 (al',arq) (b0.pK (by rw[qy];exact It) ?_) (OU D Vc);rw[aD (dm A2)];exact h4.free
   .refine bK (T.item (X.block scope C N eh jJ bl) rfl rfl rfl aC i _ aj _ I _ I8 (Li uM fr) st go) λr s4 c7=>?_
    let(u,ao,bZ):=c7;subst ao;refine bK bZ λ_ s5 c7=>?_
    let(x,bP,uV,IK,k1,vj,Jn):=c7;have Mk:=uV.pinned (Li uM Jn) (T.obj _ _ vj);refine bK (B.WV C eh jJ bl _ s5 _ bP x u _ Mk IK (step x bP k1)) λ_ eo c7=>?_
    let(mP,eX,z0,qC,Jc):=c7;refine bK (B.tests C eh jJ bl _ eo mP eX _ z0 Jc) λc h5 c7=>?_
    let(eL,lW,qf):=c7;have again:∀{vt:St} {h6:aw} {gS:Shared},Inv (X.block scope C N eh jJ bl) ([(p'p D ({cls:=.type "list",data:=.seq vs.toArray n}))]++Bs bl s5.heap) vt h6 gS->cc (i+1) gS.heap/\(∀b∈bl,h6 b=none):=λ{vt h6 gS} sD=>by
     refine(T.keep _ _ _ vj λb aa o e=>(sD.pin (p'p b o) (l1 _ (l1 _ (DP aa e)))).1,λb aa=>?_);let(o,e,d):=T.obj _ _ vj b aa;exact(sD.pin (p'p b o) (l1 _ (l1 _ (DP aa e)))).2.1
    have back:∀{h6:aw} {gS:Shared} {pl:List (Addr×Obj)},Inv (X.block scope C N eh jJ bl) pl mP h6 gS->Inv (X.block scope C N eh jJ bl) pl (oy sel σ) h6 gS:=λ{h6 gS pl} sD=>sD.weak qC.1.symm qC.2
    cases c with
    |false=>
     let(dI,hm,eK):=qf;let(t1,ew):=again lW;exact(dI,hm,i+1,ys,_,n,eL,back lW.Ds,(vs,rfl,cM),SH,t1,ew,eK)
    | true=>
     refine bK (B.elem C eh jJ bl _ h5 mP eL _ lW qf) λv gS c7=>?_
     let(y,h6,sD,apt,dI,hm,eK):=c7;let(t1,ew):=again sD;have vd:=sD.pin (p'p D ({cls:=.type "list",data:=.seq vs.toArray n})) (by simp);refine append_at (hsz:=by have:=↑cM;rw[e2];omega) vd.1 λA9 Ui asp=>?_
     have ak7:Inv (X.block scope C N eh jJ bl) [] (oy sel σ) h6 gS:=(back sD).uz λp aq=>nomatch aq
     have vE:jO (X.block scope C N eh jJ bl) [] h6 D:=(vd.2.1,A2,ML,.inr (by show ↥eh<=D;rw[qy];exact bR _),(λx c e z=>by
      let(bh,o,aU,hd):=sD.cell x c e;rw[z,vd.1]at aU;cases aU;cases hd),(λp aq=>nomatch aq))
     have ah3:Inv (X.block scope C N eh jJ bl) [] (oy sel σ) h6 {gS with heap:=A9}:=ak7.turned (t':=gS.toks) (it:=D) (λb o aa e=>(Ui.2 b aa).trans e) vE.1 vE.2.1 vE.2.2.2.1 vE.2.2.2.2.1 vE.2.2.2.2.2;refine(dI,hm,i+1,ys++[y],vs.toArray.push v,n+1,h6,ah3.uz λp aq=>?_,(vs++[v],by simp,VH cM apt),by rw[cU,mq];omega,T.keep _ _ _ t1 λb aa o e=>(Ui.2 b (below b (Al b aa)).2).trans e,ew,eK);have e:p=(p'p D ({cls:=.type "list",data:=.seq (vs.toArray.push v) (n+1)})):=by simpa using aq
     subst e;exact(asp,vd.2.1,A2,ML,λv z=>by cases z)
  .have e:p=(p'p D ({cls:=.type "list",data:=.seq ([]:List Value).toArray})):=by simpa using aq
   subst e;exact(afF,b0.bC.fresh (by rw[qy];exact bR _),A2,ML,λv z=>by cases z)
 exact codeAny_compStart_list (loop _ rfl) (T.self _ 0 _ _ _ ZY (loop _ rfl))
def hL(aC:X.calm=true)(ai:pZ X dG iter ix)(S:wv X.env scope)(uf:KK X.N scope N sel)(B:fm X scope N dG elt ifs g dJ b2)
  (az:autoParam (∀x,foldedSetIterable iter X.env x=pure x) A'i):bw X (.ListComp elt [(dG,iter,ifs,0)] scope pos) (Of ix g dJ b2 sel):=by
 intro ae s σ H Q J h;rw[eval_ListComp];refine wpAny_comprehension_free (use:=none) rfl az (U0 (S.cells J.ok)) S.kind S.loc ?_;refine bK (ai ae s σ H _ J h) λv s1 af=>bK af λDp s2 ak=>?_
 let(it,bl,cc,bH,ar,e,b0,T,tM,f2,W,qd,gY):=ak;subst e;refine Y0 (RR:=λacc C=>compPost (model X.prog X.w) X.A X.d_ none (gT X ae σ Q) acc C) aC S uf B b0 T tM f2 qd gY λD C ys I aj i' ⟨m,hm⟩ ig q=>?_
 exact(m,hm,λh' yg=>(⇑D,_,i'.turned (t':=aj.toks) (it:=C) (λb o aa e=>(yg.2 b aa).trans e) ig.1 ig.2.1 ig.2.2.2.1 ig.2.2.2.2.1 ig.2.2.2.2.2,rfl,q))
def xR{i:Nat}{y:Str}{py ZN:Pos}(bo:X.N.Nodup)(ai:X.N[i]?\y)(ag:Loc X.env.scope y)(aC:X.calm=true)(hit:pZ X dG iter ix)(S:wv X.env scope)(uf:KK X.N scope N sel)(B:fm X scope N dG elt ifs g dJ b2)
  (EC:swapsWith (.ListComp elt [(dG,iter,ifs,0)] scope pos) (some (.Name y py)) ZN.line X.env=pure true) (hf:X.fn y=true\/X.env.scope.names.lookup y\.local:=by first|exact .inl rfl|exact .inr rfl|assumption)
  (az:autoParam (∀x,foldedSetIterable iter X.env x=pure x) A'i):gO X (.Assign [.Name y py] (.ListComp elt [(dG,iter,ifs,0)] scope pos) ZN) (xB (Of ix g dJ b2 sel) (fH i)):=by
 intro ae s σ H D J h;rw[exec_Assign_Name_used _ _ _ _ EC];refine wpAny_bind (wpAny_standAt (wpAny_bind ?_));show wpAny _ X.A (do let _ <- comprehension (.ListComp elt [(dG,iter,ifs,0)] scope pos) scope X.env _ (newList []) false (eval iter X.env) (some (assign (.Name y py) X.env))) _ _ s;refine wpAny_bind (wpAny_mono (wpAny_comprehension_free (use:=some (assign (.Name y py) X.env)) (Q:=λ_ aj=>tU X ae D .next aj) rfl az (U0 (S.cells J.ok)) S.kind S.loc ?_) (λ_ aj aL=>wpAny_pure (wpAny_pure aL)) λ_ _ e=>e);refine bK (hit ae s σ H _ J h) λv s1 af=>bK af λDp s2 ak=>?_
 let(it,bl,cc,bH,ar,e,b0,T,tM,f2,W,qd,gY):=ak;subst e;refine Y0 (RR:=λacc C=>compPost (model X.prog X.w) X.A X.d_ (some (assign (.Name y py) X.env)) (λ_ aj=>tU X ae D .next aj) acc C) aC S uf B b0 T tM f2 qd gY λDa C ys I aj i' ⟨m,hm⟩ ig q=>?_
 show wpAny _ X.A (assign (.Name y py) X.env ⇑Da) _ _ _;refine wpAny_assign_Name (wE i' bo ai ag (show bX ⇑Da ⇑Da from rfl) (λs3 eM c7=>?_) hf);let(a,yg,aV):=c7;have acG:C≠a:=by
  rcases aV with z|z
  .rw [z];exact ig.2.1
  .exact λw=>ig.2.2.2.2.1 y a z w.symm
 refine(m,hm.sameBut yg acG,λh' ahj=>(_,_,eM.turned (t':=s3.toks) (it:=C) (λb o aa e=>(ahj.2 b aa).trans e) ig.1 ig.2.1 ig.2.2.2.1 ig.2.2.2.2.1 ig.2.2.2.2.2,q))
end
def qB(Pv:Nat->List V->aw->Prop)(g:g9)(dJ:TT)(b2:TE)(dM:St)(i:Nat)(x:V)(ys:List V)(H:aw):Prop:=
 ∀N:List V->aw->Prop,(∀k' I,Pv (i+1) k' I->N k' I)->g x dM H λcv ar=>Sub dM cv/\dJ cv ar λc a'=>if c=true then b2 cv a' λy cb=>N (ys++[y]) cb else N ys a'
def agk{K:bq}(Pv:Nat->List V->aw->Prop)(aO:↑xs<=sizeLine)(h0:Pv 0 [] H)(aN:∀i ys H,i<=↑xs->Pv i ys H->ay K H a xs/\↑ys<=i)
  (az:∀i x ys H,xs[i]?\x->Pv i ys H->qB Pv g dJ b2 dM i x ys H) (hd:∀ys H,Pv ↑xs ys H->∀p,H p=none->Q ⇑p (upd H p (.lst ys))) :
  ∃W:Nat->Nat->List V->aw->Prop,(∃m,W 0 m [] H)/\wa (pJ K a) g dJ b2 dM Q W:=by
 refine(λi m ys H=>m=↑xs-i/\i<=↑xs/\Pv i ys H,(↑xs,by simp,eO _,h0),?_);intro i m ys H (rfl,ai,p);have q:=(aN i ys H ai p).1;have C0:=(aN i ys H ai p).2;by_cases dU:i<↑xs
 .refine .inr ((xs,xs[i],q,by simp[dU]),(),λx I y=>?_);let(e,y):=y;subst e;exact az i x ys _ (y xs q) p (λk' I=>∃dI,dI<↑xs-i/\dI=↑xs-(i+1)/\i+1<=↑xs/\Pv (i+1) k' I) λk' I r=>(↑xs-(i+1),(),rfl,dU,r)
 .have e:i=↑xs:=()
  subst e;exact .inl ((xs,q,bR _),hd ys H p)
def acs{K:bq}(Pv:Nat->List V->aw->Prop)(aO:↑xs<=sizeLine)(h0:Pv 0 [] H)(aN:∀i ys H,i<=↑xs->Pv i ys H->d4 K H a xs/\↑ys<=i)
  (az:∀i x ys H,xs[i]?\x->Pv i ys H->qB Pv g dJ b2 dM i x ys H) (hd:∀ys H,Pv ↑xs ys H->∀p,H p=none->Q ⇑p (upd H p (.lst ys))) :
  ∃W:Nat->Nat->List V->aw->Prop,(∃m,W 0 m [] H)/\wa (Cc K a) g dJ b2 dM Q W:=by
 refine(λi m ys H=>m=↑xs-i/\i<=↑xs/\Pv i ys H,(↑xs,by simp,eO _,h0),?_);intro i m ys H (rfl,ai,p);have q:=(aN i ys H ai p).1;have C0:=(aN i ys H ai p).2;by_cases dU:i<↑xs
 .refine .inr ((xs,xs[i],q,by simp[dU]),(),λx I y=>?_);let(e,y):=y;subst e;exact az i x ys _ (y xs q) p (λk' I=>∃dI,dI<↑xs-i/\dI=↑xs-(i+1)/\i+1<=↑xs/\Pv (i+1) k' I) λk' I r=>(↑xs-(i+1),(),rfl,dU,r)
 .have e:i=↑xs:=()
  subst e;exact .inl ((xs,q,bR _),hd ys H p)
def asA{lo:Int}{n:Nat}{g:g9}{dJ:TT}{b2:TE}{dM:St}{Q:c6}{H:aw}(Pv:Nat->List V->aw->Prop)(aO:n<=sizeLine)(h0:Pv 0 [] H)(aN:∀i ys H,i<=n->Pv i ys H->↑ys<=i)
  (az:∀i ys H,i<n->Pv i ys H->qB Pv g dJ b2 dM i (.int (lo+i)) ys H) (hd:∀ys H,Pv n ys H->∀p,H p=none->Q ⇑p (upd H p (.lst ys))) :
  ∃W:Nat->Nat->List V->aw->Prop,(∃m,W 0 m [] H)/\wa (mH lo n) g dJ b2 dM Q W:=by
 refine(λi m ys H=>m=n-i/\i<=n/\Pv i ys H,(n,by simp,eO _,h0),?_);intro i m ys H (rfl,ai,p);have C0:=aN i ys H ai p;by_cases dU:i<n
 .refine .inr (dU,(),λx I y=>?_);let(e,y):=y;subst e y;exact az i ys _ dU p (λk' I=>∃dI,dI<n-i/\dI=n-(i+1)/\i+1<=n/\Pv (i+1) k' I) λk' I r=>(n-(i+1),(),rfl,dU,r)
 .have e:i=n:=()
  subst e;exact .inl (bR _,hd ys H p)
noncomputable def AI(xs:List V):kP:=(λi _=>i<↑xs,λi H x I=>I=H/\xs[i]?\x,λi _=>↑xs<=i)
def Ue{w:World}{K:bq}{it:Addr}{St:Nat->Heap->Prop}(gY:∀A:Around,A.handled=none->Walks P w A it [it] [it] ↑xs amo St)
  (c1:∀i v,amo i v->∃x,xs[i]?\x/\bX x v)
  (xA:∀i h,St i h->∃o n vs,h.get? it\o/\o.cls=.type n/\o.data=.fields vs/\["enumerate","zip","dict_itemiterator","dict_reverseitemiterator","odict_iterator","itertools.zip_longest","itertools.pairwise"].contains n=false)
  (uQ:∀i h h',St i h->(∀o,h.get? it\o->h'.get? it\o)->St i h')
  (aeK:∀(A:Around) (i:Nat) (s:Shared) (Q:Value->Shared->Prop) (E:Value->Shared->Prop),St i s.heap->Q ⇑it s->wpAny (model P w) A (pyIter ⇑it) Q E s) :
  r5 P w K dG (AI xs) [it] it (λi h=>i<=↑xs/\St i h)where
 mem:=by simp
 obj:=λi h st b aa=>by
  have e:b=it:=by simpa using aa
  subst e;let(o,n,vs,e,_,d,_):=xA i h st.2;exact(o,e,λv z=>by rw[d]at z;cases z)
 keep:=λi h h' st k=>(st.1,uQ i h h' st.2 λo e=>k it (by simp) o e)
 item:=by
  intro X Hw hw gn aC i ae s σ H E J hf st a7;subst Hw hw gn;let(f0,f1,f2,e6,f4,fw):=hf it (by simp);refine(gY X.A (J.ok.hd aC)).item i s _ _ a7 st.2 λv h' tk aK ni rP=>?_
  let(x,ag,bk):=c1 i v aK;have aZ:Inv X ae σ H {s with heap:=h',toks:=tk}:=J.turned (λb o aa e=>rP b o (by simpa using aa) e) f0 f1 e6 f4 fw;let(o,n,vs,e,c,d,nm):=xA _ _ ni;exact(v,rfl,A3 (s:={s with heap:=h',toks:=tk}) e c d nm (x,H,aZ,bk,(rfl,ag),(a7,ni),λb aa=>(hf b aa).1))
 done:=by
  intro X Hw hw gn aC i ae s σ H E J hf st a7;subst Hw hw gn;let(f0,f1,f2,e6,f4,fw):=hf it (by simp);have e:i=↑xs:=Nat.le_antisymm st.1 a7;subst e;exact(gY X.A (J.ok.hd aC)).done s _ _ st.2 λh' tk rP=>(rfl,J.turned (λb o aa e=>rP b o (by simpa using aa) e) f0 f1 e6 f4 fw)
 self:=λA i s Q E st h=>aeK A i s Q E st.2 h
noncomputable def kK(c:Nat):Str:=⟨#[c]⟩
noncomputable def p3(x:Str):List V:=x.cps.toList.map λc=>V.str (kK c)
def Yk(x:Str):↑(p3 x)=x.cps.size:=by unfold p3;simp
def aiV{x:Str}{i c:Nat}(h:x.cps[i]?\c):(p3 x)[i]?\(.str (kK c)):=by
 unfold p3;rw[dv,X1,h];rfl
def Vs{x:Str}{i:Nat}{v:Value}(h:SignAt x i v):∃y,(p3 x)[i]?\y/\bX y v:=by
 let(c,u,aC,rfl):=h;exact(.str (kK c),aiV aC,u,rfl)
section
variable{X:bg}{dG:Expr}
def XV(dk:TE):TI:=λσ H R=>dk σ H λx H1=>∃z,x=.str z/\R (AI (p3 z)) H1
theorem acg(aN:bw X l dk):pZ X dG l (XV dk):=by
 intro ae s σ H R J h;refine bK (aN ae s σ H _ J h) λv s1 cw=>et cw λx H1 aZ b3 bU=>?_
 let(z,e,q):=bU;subst e;let(t,rfl):=b3;have ig:∀b∈[↥s1],jO X ae H1 b:=λb aa=>by
  have e:b=↥s1:=by simpa using aa
  subst e;exact aZ.pK (bR _) (aZ.bC.fresh (bR _))
 have aO:=Yk z;cases aV:z.cps.all (· < 128)with
 | false=>
  refine wpAny_pyIter_wide aV (↥s1,[↥s1],λi h=>i<=↑(p3 z)/\h.IsStrIter ↥s1 "str_iterator" z t i,_,H1,rfl,aZ.kept (t':=s1.toks) λb o e=>fk _ e,
   Ue (λA ll=>by rw[aO];exact Walks.strWide ll _ z t) (λi v=>Vs) (λi h ⟨o,e,c,d⟩=>(o,_,_,e,c,d,∅)) (λi h h' ⟨o,e,r⟩ k=>(o,k o e,r)) (λA i s Q E st q=>wpAny_pyIter_striter_wide st q),
   (eO _,_,hC _ rfl,rfl,rfl),ig,q)
 | true=>
  refine wpAny_pyIter_ascii aV (↥s1,[↥s1],λi h=>i<=↑(p3 z)/\h.IsStrIter ↥s1 "str_ascii_iterator" z t i,_,H1,rfl,aZ.kept (t':=s1.toks) λb o e=>fk _ e,
   Ue (λA ll=>by rw[aO];exact Walks.strAscii ll _ z t) (λi v=>Vs) (λi h ⟨o,e,c,d⟩=>(o,_,_,e,c,d,∅)) (λi h h' ⟨o,e,r⟩ k=>(o,k o e,r)) (λA i s Q E st q=>wpAny_pyIter_striter_ascii st q),
   (eO _,_,hC _ rfl,rfl,rfl),ig,q)
end
def aeg(Pv:Nat->List V->aw->Prop)(aO:↑xs<=sizeLine)(h0:Pv 0 [] H)(aN:∀i ys H,i<=↑xs->Pv i ys H->↑ys<=i)
  (az:∀i x ys H,xs[i]?\x->Pv i ys H->qB Pv g dJ b2 dM i x ys H) (hd:∀ys H,Pv ↑xs ys H->∀p,H p=none->Q ⇑p (upd H p (.lst ys))) :
  ∃W:Nat->Nat->List V->aw->Prop,(∃m,W 0 m [] H)/\wa (AI xs) g dJ b2 dM Q W:=by
 refine(λi m ys H=>m=↑xs-i/\i<=↑xs/\Pv i ys H,(↑xs,by simp,eO _,h0),?_);intro i m ys H (rfl,ai,p);have C0:=aN i ys H ai p;by_cases dU:i<↑xs
 .refine .inr (dU,(),λx I y=>?_);let(e,y):=y;subst e;exact az i x ys _ y p (λk' I=>∃dI,dI<↑xs-i/\dI=↑xs-(i+1)/\i+1<=↑xs/\Pv (i+1) k' I) λk' I r=>(↑xs-(i+1),(),rfl,dU,r)
 .have e:i=↑xs:=()
  subst e;exact .inl (bR _,hd ys H p)
section
variable{X:bg}
def JM:V->Option Int->Option Int->aw->c6->Prop:=λx lo ai H Q=>∃z,x=.str z/\↑z<=sizeLine/\Q (.str (nv z lo ai)) H
theorem FL:EN X JM:=by
 intro ae s σ H x v lp lb lo ai cX Q J bk az pl pu h;let(z,rfl,aO,q):=h;let(t,rfl):=bk;refine("str",_,F.slot_str_getitem.lookup,typeIs_str s z t,?_);have fin:∀t' k,gT X ae σ Q (.str (nv z lo ai) t') {s with toks:=k}:=λt' k=>(.str _,H,J.tok _,(_,rfl),q)
 cases pl with
 |none=>
  cases pu with
  |none=>exact wpAny_getItem_str_slice (l:=none) (u:=none) (st:=none) az rfl (post_val_or_str (cZ (wX z _ _) aO,fin))
  |int j OI=>exact wpAny_getItem_str_slice (l:=none) (u:=some (p'p j OI)) (st:=none) az rfl (post_val_or_str (cZ (wX z _ _) aO,fin))
 |int i Y1=>
  cases pu with
  |none=>exact wpAny_getItem_str_slice (l:=some (p'p i Y1)) (u:=none) (st:=none) az rfl (post_val_or_str (cZ (wX z _ _) aO,fin))
  |int j OI=>exact wpAny_getItem_str_slice (l:=some (p'p i Y1)) (u:=some (p'p j OI)) (st:=none) az rfl (post_val_or_str (cZ (wX z _ _) aO,fin))
noncomputable def a0(ys:List Str):List V:=ys.map V.str
theorem aoI:∀{ys:List Str} {us:List Value},cN (a0 ys) us->StrsAre us ys:=by
 intro ys
 induction ys with
 |nil=>intro us r;cases r;exact .nil
 | cons y ys c4=>
  intro us r;cases r with
  |cons b3 fV=>
   let(t,rfl):=b3;exact .cons y t (c4 fV)
theorem Tz:∀(l:List (Str×Tok)),cN (a0 (l.map (·.1))) (strValues l)
 |[]=>.nil
 |(x,t)::r=>.cons (t,rfl) (Tz r)
def M6(K:bq):V->List V->aw->c6->Prop:=λx vs H Q=>∃sep p ys,x=.str sep/\vs=[⇑p]/\ay K H p (a0 ys)/\(ys.map (·.length)).sum+↑ys*↑sep<=16777216/\Q (.str (r4 sep ys)) H
def A1:Cg X "str.join" (M6 X.K):=by
 intro ae s σ H x xs v us Q J bk cM h;let(sep,p,ys,rfl,rfl,aL,aO,q):=h;let(t,rfl):=bk;let(u,rfl,e1):=mr cM;cases e1;let(a3,r,pl,_):=J.list aL;exact join_list pl.isList (by simpa using aoI r) aO λt' k=>(.str _,H,J.tok _,(_,rfl),q)
end
def aiG {prog:Program} {w:World} {A:Around} {x y:Str} {t u:Tok} (aQ:(↑y==0)=false)
  (h:∀l k,l.map (·.1)=jL x y->Q (.ref ↥s) {s with heap:=s.heap.push {cls:=.type "list",data:=.seq (strValues l).toArray},toks:=k}) (hsz:↑x+2<=sizeLine) :
  wpAny (model prog w) A (call (.builtin "str.split") [.str x t,.str y u]) Q E s:=by
 have a5:↑(anO x (vR x y 0 ↑x (↑x+1)) ↑y)<=sizeLine:=by
  have au:=StrLaws.occ_length_le x y 0 ↑x (↑x+1);rw[length_partsBetween];omega
 cases af:(decide (↑x<↑y)||decide (amF x<amF y))
 .cases hf:(vR x y 0 ↑x (↑x+1)).isEmpty
  .refine call_meets Ex (typeIs_str _ _ _) Qt (Y5 _ _) (meets_str_split_sep x y t u af aQ hf () a5) ?_;show wants Q E _ {s with toks:=_,heap:=s.heap.push {cls:=.type "list",data:=.seq (strsFrom s.toks (anO x (vR x y 0 ↑x (↑x+1)) ↑y)).toArray} };rw[strsFrom_eq];exact h (numbered s.toks _) _ ((numbered_texts _ _).trans ((if_neg (ne_true_of_eq_false af)).trans (if_neg (ne_true_of_eq_false hf))).symm)
  .exact call_meets Ex (typeIs_str _ _ _) Qt (Y5 _ _) (meets_str_split_not_found x y t u af aQ hf)
    (h [(p'p x t)] s.toks ((if_neg (ne_true_of_eq_false af)).trans (if_pos hf)).symm)
 .exact call_meets Ex (typeIs_str _ _ _) Qt (Y5 _ _) (meets_str_split_cannot_occur x y t u af)
   (h [(p'p x t)] s.toks (if_pos af).symm)
section
variable{X:bg}
def JC:V->List V->aw->c6->Prop:=λx vs H Q=>∃z y,x=.str z/\vs=[.str y]/\↑y≠0/\↑z+2<=sizeLine/\↑(jL z y)<=sizeLine/\∀p,H p=none->Q ⇑p (upd H p (.lst (a0 (jL z y))))
def Sh:Cg X "str.split" JC:=by
 intro ae s σ H x xs v us Q J bk cM h;let(z,y,rfl,rfl,aQ,aO,a5,q):=h;let(t,rfl):=bk;let(u,rfl,e1):=mr cM;let(kE,rfl):=e1;refine aiG (by simpa using aQ) (λl k aN=>?_) aO;refine(.ref ↥s,_,J.laid (t':=k) (o:=.lst (a0 (jL z y))) (λb o e=>fk _ e) (bR _) (by unfold a0;rw[aT];exact a5,strValues l,0,by rw[<- aN];exact Tz l,hC _ rfl),rfl,q _ (J.bC.fresh (bR _)))
def adV:mv X (.type "int") (λxs H Q=>∃z n,xs=[.str z]/\intText? z\n/\↑z<=640/\Q (.int n) H):=by
 intro ae s σ H xs us Q J r h;let(z,n,rfl,a5,aO,q):=h;let(u,rfl,t,rfl):=mr r;exact PySem.W.KIN.call_text a5 aO (.int n,H,J.tok _,(_,rfl),q)
theorem JN:∀{bs:List Bool} {us:List Value},cN (bs.map V.bG) us->us=bs.map lZ
 |[],_,.nil=>rfl
 |b::bs,_,.cons r t=>by
  have e:_=lZ b:=r;rw[e,JN t];rfl
theorem Ub{A:Around}(bs:List Bool):TruthOf X.prog X.w A (λi v=>(bs.map lZ).toArray[i]?\v) (λi=>bs.getD i true):=by
 intro i v s Q E c1 aX;have e:(bs.map lZ)[i]?\v:=by simpa using c1
 rw[dv]at e;cases q:bs[i]? with
 |none=>rw[q]at e;cases e
 |some b=>
  rw[q]at e;have bF:lZ b=v:=er e;subst bF;refine wpAny_truthy_bool ?_;have:bs.getD i true=b:=by simp[Ca,q]
  have Ei:Q (bs.getD i true) s:=aX;rw[this]at Ei;exact Ei
def ajF(bs:List Bool):(fp ↑bs).all (λi=>bs.getD i true)=bs.all id:=by
 rw[m8];simp only[vH,pY,id];constructor
 .intro h b aa;let(i,ai,e):=ajW.mp aa;have:=h i ai;simp[Ca,ai,e]at this;exact this
 .intro h i ai;simp[Ca,ai];exact h _ (ic ai)
def ajc(bs:List Bool):(fp ↑bs).any (λi=>bs.getD i true)=bs.any id:=by
 rw[m8];simp only[rg,pY,id];constructor
 .intro (i,ai,h);refine(bs[i],ic ai,?_);simp[Ca,ai]at h;exact h
 .intro (b,aa,h);let(i,ai,e):=ajW.mp aa;refine(i,ai,?_);simp[Ca,ai,e];exact h
def ad8(aC:X.calm=true):mv X (.builtin "all") (λxs H Q=>∃(p:Addr) (bs:List Bool),xs=[⇑p]/\ay X.K H p (bs.map V.bG)/\Q (.bG (bs.all id)) H):=by
 intro ae s σ H xs us Q J r h;let(p,bs,rfl,aL,q):=h;let(u,rfl,e1):=mr r;cases e1;let(a3,cM,pl,_):=J.list aL;have e:=JN cM;subst e;refine call_all_walk (wpAny_pyIter_list pl.isList ?_);have cA:p≠↥s:=gN (by let(o,_,aU,_):=pl;exact eD aU);refine(↥s,_,_,_,_,_,λi=>bs.getD i true,rfl,v3 (show X.A.in1.handled=none from J.ok.hd aC) _ p cA (bs.map lZ).toArray,((_,hC _ rfl,rfl,rfl),pl.isList.at λo e=>fk _ e),Ub bs,λh' tk rP=>?_);refine(.bG (bs.all id),H,J.kept λb o e=>rP b o (by simpa using gN (eD e)) (fk _ e),?_,q);show lZ _=lZ _;rw[show(bs.map lZ).toArray.size=↑bs by simp,ajF]
def arJ(aC:X.calm=true):mv X (.builtin "any") (λxs H Q=>∃(p:Addr) (bs:List Bool),xs=[⇑p]/\ay X.K H p (bs.map V.bG)/\Q (.bG (bs.any id)) H):=by
 intro ae s σ H xs us Q J r h;let(p,bs,rfl,aL,q):=h;let(u,rfl,e1):=mr r;cases e1;let(a3,cM,pl,_):=J.list aL;have e:=JN cM;subst e;refine call_any_walk (wpAny_pyIter_list pl.isList ?_);have cA:p≠↥s:=gN (by let(o,_,aU,_):=pl;exact eD aU);refine(↥s,_,_,_,_,_,λi=>bs.getD i true,rfl,v3 (show X.A.in1.handled=none from J.ok.hd aC) _ p cA (bs.map lZ).toArray,((_,hC _ rfl,rfl,rfl),pl.isList.at λo e=>fk _ e),Ub bs,λh' tk rP=>?_);refine(.bG (bs.any id),H,J.kept λb o e=>rP b o (by simpa using gN (eD e)) (fk _ e),?_,q);show lZ _=lZ _;rw[show(bs.map lZ).toArray.size=↑bs by simp,ajc]
end
def ek{X:bg}{N:List Str}(h:N.Nodup)(e:X.N=N):X.N.Nodup:=e ▸ h
noncomputable def XT(sc scope:Scope):Bool:=
 (scope.kind == .function)&&scope.names.all (λy=>y.2 != .cell)&&scope.names.all (λy=>y.2 != .free||sc.names.lookup y.1==some .cell||sc.names.lookup y.1==some .free) &&
  scope.names.all (λy=>y.2 != .local||scope.names.lookup y.1==some .local)
def gu{env:Env}(he:env.scope=sc)(h:XT sc scope=true):wv env scope:=by
 subst he;unfold XT at h;simp only[kb,vH]at h;let(((af,ak),a8),bZ):=h;refine(by simpa using af,λy aQ e=>?_,λy aQ e=>?_,λy aQ e=>?_)
 .have:=ak y aQ;rw[e]at this;exact absurd this ∅
 .have:=a8 y aQ;rw[e]at this;simp only[u5]at this;rcases this with(z|z)|z
  .exact absurd z ∅
  .exact .inl (show env.scope.names.lookup y.1\.cell by simpa using z)
  .exact .inr (show env.scope.names.lookup y.1\.free by simpa using z)
 .have:=bZ y aQ;rw[e]at this;simp only[u5]at this;rcases this with z|z
  .exact absurd z ∅
  .simpa using z
noncomputable def Y9(M:List Str)(scope:Scope)(N:List Str)(sel:List (Option Nat)):Bool:=
 ↑sel==↑N&&(sel.zip N).all λp=>match p.1 with|none=>true|some j=>M[j]? == some p.2&&scope.names.lookup p.2==some .free
def gx{N:List Str}(h:Y9 M scope N sel=true):KK M scope N sel:=by
 unfold Y9 at h;simp only[kb,vH]at h;refine(by simpa using h.1,λi j x au aE=>?_);have hm:(p'p (some j) x)∈sel.zip N:=by
  rw[List.mem_iff_getElem?];exact(i,by rw[List.getElem?_zip_eq_some];exact(au,aE))
 have:=h.2 _ hm;simp only[kb]at this;exact(by simpa using this.1,by simpa using this.2)
noncomputable def rE:eH->Bool
 | .hl _=>false
 | .ei _ u=>rE u
 |_=>true
def aF(H:aw):Prop:=∀b o,H b\o->rE o=true
theorem gk.back{w:World}{h h':Heap}:∀(o:eH),rE o=true->gk P w I h' a o->gk P w H h a o->gk P w H h' a o
 | .lst _,_,x,_=>x
 | .tup _,_,x,_=>x
 | .bu _,_,x,_=>x
 | .hl _,e,_,_=>absurd e (by unfold rE;decide)
 | .set _ _,_,x,_=>x
 | .ins _ _ _,_,x,y=>(y.1,x.2)
 | .own _,_,x,_=>x
 | .G6 _,_,x,_=>x
 | .met _ _,_,x,_=>x
 | .DH _ _,_,x,_=>x
 | .ei cG u,e,x,y=>(x.1,gk.back u (by unfold rE at e;exact e) x.2 y.2)
 | .hS _,_,x,_=>x
 | .ext _,_,x,_=>x
section
variable{P:Program}{w:World}{K:bq}{mg:Str->Option Value}{base:Heap}
theorem cT.forget{k:Nat}{fd:FuncData}(F:cT P w K mg base dt k f fd ps sp)
  (h:∀vs H Q E,kC vs H Q E->aF H/\sp vs H (λv I=>aM H I/\Q v H) E):cT P w K mg base dt k f fd ps kC:=by
 refine(λvs H Q E q=>F.len vs H _ E (h vs H Q E q).2,λA outer s H args us vs Q E ao he aa aK az=>?_);let(bz,q):=h vs H Q E az;refine codeAny_mono (F.run A outer s H args us vs _ E ao he aa aK q) λr aj aL=>?_
 cases r with
 |error e=>exact aL
 | ok fv=>
  cases fv with
  |next=>exact aL
  |brk=>exact aL
  |cont=>exact aL
  |ret u=>
   let(v,I,os,bare,un,bC,cM,bb,dB):=aL;exact(v,H,os,bare,(un.keep,un.slot,λ_ _ _ n _=>n,un.there,λ_ _ z=>z,λ_ _ _ z=>z,λ_ ps z=>(#[],by rw[z];simp)),λa o e=>(bC a o (bb a o e)).back o (bz a o e) (he.bC a o e),cM,dB)
end
def a_{p:Addr}(h:H p=none):aM H (upd H p o):=λb u q=>by rw[aD (dF q h)];exact q
def aM.hE{p:Addr}(s:aM H H1)(h:H p=none):aM H (upd H1 p o):=λb u q=>by rw[aD (dF q h)];exact s b u q
structure Sc(K:bq)(a:Addr)(ns:List Int)(H:aw):Prop where
 zm:(∃o,H a\(.ei o (.lst (ns.map V.int))))\/∃(o:Obj) (a3:Array Value) (n:Nat),K.lookup a\o/\o.cls=.type "list"/\o.dict=none/\o.data=.seq a3 n/\a3.size<=sizeLine/\cN (ns.map V.int) a3.toList
 bz:aF H
section
variable{K:bq}{a p:Addr}{ns:List Int}{H I:aw}{o:eH}
def Sc.seq(s:Sc K a ns H):ay K H a (ns.map V.int):=by
 rcases s.zm with⟨o,h⟩|h
 .exact .inl (.inr (o,h))
 .exact .inr h
def Sc.new(s:Sc K a ns H)(aq:H p=none)(aU:autoParam (rE o=true) A'r):Sc K a ns (upd H p o):=by
 refine(?_,λb u e=>?_)
 .rcases s.zm with⟨cG,h⟩|h
  .exact .inl (cG,by rw[aD (dF h aq)];exact h)
  .exact .inr h
 .by_cases aa:b=p
  .subst aa;rw[db]at e;cases e;exact aU
  .rw [aD aa]at e;exact s.bz b u e
def Sc.set(s:Sc K a ns H)(aq:H p\u)(bJ:∀cG z,u≠.ei cG z)(aU:autoParam (rE o=true) A'r):Sc K a ns (upd H p o):=by
 refine(?_,λb x e=>?_)
 .rcases s.zm with⟨cG,h⟩|h
  .refine .inl (cG,?_);have cA:a≠p:=λz=>by subst z;rw[aq]at h;exact bJ _ _ (er h)
   rw[aD cA];exact h
  .exact .inr h
 .by_cases aa:b=p
  .subst aa;rw[db]at e;cases e;exact aU
  .rw [aD aa]at e;exact s.bz b x e
end
def hU:bootBuiltins "len"\(.builtin "len"):=PySem.boot_len
def aor:bootBuiltins "all"\(.builtin "all"):=∅
def ah4:bootBuiltins "any"\(.builtin "any"):=∅
def BF:bootBuiltins "min"\(.builtin "min"):=∅
def HL:bootBuiltins "max"\(.builtin "max"):=∅
def Uw:bootBuiltins "sum"\(.builtin "sum"):=∅
def Hu:bootBuiltins "int"\(.type "int"):=∅
def Av:bootBuiltins "str"\(.type "str"):=∅
def afa:bootBuiltins "list"\(.type "list"):=∅
def m6.same(h:m6 H a o)(s:aM H I):m6 I a o:=by
 rcases h with h|⟨cG,h⟩
 .exact .inl (s _ _ h)
 .exact .inr (cG,s _ _ h)
theorem ay.same{K:bq}(h:ay K H a xs)(s:aM H I):ay K I a xs:=by
 rcases h with h|h
 .exact .inl (h.same s)
 .exact .inr h
theorem aF.upd{p:Addr}(h:aF H)(aU:autoParam (rE o=true) A'r):aF (upd H p o):=λb u e=>by
 by_cases aa:b=p
 .subst aa;rw[db]at e;cases e;exact aU
 .rw [aD aa]at e;exact h b u e
def Sc.same{K:bq}{ns:List Int}(s:Sc K a ns H)(bb:aM H I)(bz:aF I):Sc K a ns I:=by
 refine(?_,bz);rcases s.zm with⟨o,h⟩|h
 .exact .inl (o,bb _ _ h)
 .exact .inr h
structure Qh(K:bq)(C:Addr)(m:Str)(f:Addr):Prop where
 h2:al9 K C (.type "type")=true
 fd:ase K ⇑C (.type "type") m\(.val ⇑f)
 ga:yv K ⇑C "__getattribute__"\(some (.builtin "type.__getattribute__"))
 bp:vy K ⇑f=true
structure om(P:Program)(w:World)(K:bq)(mg:Str->Option Value)(base:Heap)(CX:kd)(k:Nat)(oK:Addr->Prop)(m:Str)(ps:List Str)(oG:Addr->bV):Prop where
 ok:∀C,oK C->∃f fd,h3 K C/\fq K C m f/\cT P w K mg base CX k f fd ps (oG C)/\b7 K fd ps []
def OS(oK:Addr->Prop)(m:Str)(oG:Addr->bV)(E:f7)(ba:TE)(t:fO):TE:=λσ H Q=>ba σ H λx H1=>∃a C ax a6,x=⇑a/\H1 a\(.ins C ax a6)/\oK C/\a6.lookup m=none /\
 t σ H1 λvs ar=>oG C (x::vs) ar Q E
section
variable{X:bg}{CX:kd}{k:Nat}{f C:Addr}{fd:FuncData}{ps:List Str}{sp:bV}{dvs:List V}{ds:List Value}{E:f7}{x m:Str}{p pos fR:Pos}{e o:Expr}{aW:List Expr}{ba:TE}{t:fO}
def AC(a7:l6 X x)(hm:X.mg x\⇑C)(c:Qh X.K C m f)(F:cT X.prog X.w X.K X.mg X.base CX k f fd ps sp)(ao:bn k X.A)(aa:b7 X.K fd ps ds)(hd:cN dvs ds)(ag:rh CX X E)(aV:g6 X (e::aW) t)
  (p_:autoParam ((x==("__debug__":Str))=false) A'd) (fB:autoParam (starEach (e::aW) X.env=(p'p false (eval e X.env))::starEach aW X.env) A'r) (cV:autoParam ((backTo pos (starEach aW X.env)).any (·.1)=false) A'r)
  (c9:eval (.Call (.Attribute (.Name x p) m fR) (e::aW) [] pos) X.env=(do
   let eC <- eval (.Name x p) X.env
   standAt fR.atName
   let (f,first) <- holding [eC] (getMethod eC m pl)
   callWith pos f first (backTo pos (starEach (e::aW) X.env)) (backToKw pos (keywordEach [] X.env))):=by rfl) :
  bw X (.Call (.Attribute (.Name x p) m fR) (e::aW) [] pos) (Bf sp dvs E t):=by
 intro ae s σ H Q J h;refine D5 (pl:=pl) (EO J a7 hm ?_ p_) c9;refine PySem.W.method_cls J.kj c.ga (PySem.W.cls_value J.kj c.h2 c.fd rfl ?_);have aZ:=J.tok (s.toks+1);refine D9 (first:=[]) (h₀:=X.base) J.ok.mod.uI c.bp (bK (aV pos ae _ σ H _ aZ h) λus s2 ⟨vs,ar,b0,r,dV⟩=>(b0.kj,?_)) fB cV;exact xe F ao aa hd ag b0 r dV
variable{oK:Addr->Prop}{oG:Addr->bV}
def aoh(he:bw X o ba)(V:om X.prog X.w X.K X.mg X.base CX k oK m ps oG)(ao:bn k X.A)(ag:rh CX X E)(aV:g6 X (e::aW) t)
  (fB:autoParam (starEach (e::aW) X.env=(p'p false (eval e X.env))::starEach aW X.env) A'r) (cV:autoParam ((backTo pos (starEach aW X.env)).any (·.1)=false) A'r)
  (c9:eval (.Call (.Attribute o m fR) (e::aW) [] pos) X.env=(do
   let eC <- eval o X.env
   standAt fR.atName
   let (f,first) <- holding [eC] (getMethod eC m pl)
   callWith pos f first (backTo pos (starEach (e::aW) X.env)) (backToKw pos (keywordEach [] X.env))):=by rfl) :
  bw X (.Call (.Attribute o m fR) (e::aW) [] pos) (OS oK m oG E ba t):=by
 intro ae s σ H Q J h;refine D5 (pl:=pl) (bK (he ae s σ H _ J h) λu s1 c7=>?_) c9;let(x,H1,aZ,bk,a,C,ax,a6,ex,iy,ok,l,q):=c7;subst ex;obtain rfl:u=fE a:=bk;let(f,fd,c,hm,F,aa):=V.ok C ok;refine FD aZ iy c hm l ?_;refine D9 (first:=[⇑a]) (h₀:=X.base) J.ok.mod.uI hm.bp (bK (aV pos ae s1 σ H1 _ aZ q) λus s2 ⟨vs,ar,b0,r,dV⟩=>(b0.kj,?_)) fB cV;exact xe (us:=⇑a::us) (vs:=⇑a::vs) (dvs:=[]) F ao aa .nil ag b0 (.cons rfl r) (by rw[uy];exact dV)
def Cy(he:bw X o ba)(V:om X.prog X.w X.K X.mg X.base CX k oK m ps oG)(ao:bn k X.A)(ag:rh CX X E)
  (c9:eval (.Call (.Attribute o m fR) [] [] pos) X.env=(do
   let eC <- eval o X.env
   standAt fR.atName
   let (f,first) <- holding [eC] (getMethod eC m pl)
   callWith pos f first (backTo pos (starEach [] X.env)) (backToKw pos (keywordEach [] X.env))):=by rfl) :
  bw X (.Call (.Attribute o m fR) [] [] pos) (OS oK m oG E ba yP):=by
 intro ae s σ H Q J h;refine D5 (pl:=pl) (bK (he ae s σ H _ J h) λu s1 c7=>?_) c9;let(x,H1,aZ,bk,a,C,ax,a6,ex,iy,ok,l,q):=c7;subst ex;obtain rfl:u=fE a:=bk;let(f,fd,c,hm,F,aa):=V.ok C ok;refine FD aZ iy c hm l ?_;exact ac' (first:=[⇑a]) aZ.kj hm.bp (xe (us:=[⇑a]) (vs:=[⇑a]) (dvs:=[]) F ao aa .nil ag aZ (.cons rfl .nil) q)
end
theorem gi:∀{a6:List (Str×V)} (bE:List Str),a6.map (·.1)=bE->bE.contains f=false->dg f v a6=a6++[(p'p f v)]
 |[],_,_,_=>rfl
 | (g,y)::r,bE,e,h=>by
  cases e;rw[es,aey]at h;have af:=(FW.mp h);have cA:¬g=f:=λz=>by
   have:=af.1;rw[z]at this;simp at this
  show(if g=f then _ else _)=_;rw[if_neg cA,gi _ rfl af.2];rfl
def hP{a6:List (Str×V)}(h:↑a6<n):↑(dg f v a6)<n+1:=gv (OA f v a6) ()
theorem fX:∀{a6:List (Str×V)} (bE:List Str) (i:Nat),a6.map (·.1)=bE->bE.findIdx? (· == f)\i->a6[i]?\(p'p f v)->a6.lookup f\v
 |[],_,_,_,_,h=>by simp at h
 | (g,y)::r,bE,i,e,h,aK=>by
  cases e;rw[es,List.findIdx?_cons]at h;rw[rZ];by_cases e:g=f
  .subst e;rw[beq_self_eq_true,if_pos rfl]at h;cases h;have:(p'p g y)=(p'p g v):=by simpa using aK
   cases this;rw[beq_self_eq_true]
  .rw [beq_eq_false_iff_ne.mpr e,if_neg ∅]at h;let(j,aI,rfl):=Ab.mp h;rw[beq_eq_false_iff_ne.mpr (λz=>e z.symm)];exact fX _ j rfl aI (by simpa using aK)
theorem wL:∀{a6:List (Str×V)} (bE:List Str),a6.map (·.1)=bE->bE.contains f=false->a6.lookup f=none
 |[],_,_,_=>rfl
 |(g,y)::r,bE,e,h=>by
  cases e;rw[es,aey]at h;have af:=(FW.mp h);rw[rZ,af.1];exact wL _ rfl af.2
def Inv.CH{X:bg}{ae:List (Addr×Obj)}{σ:St}{H:aw}{s:Shared}{h':Heap}{t':Nat}{bl:List Addr}(J:Inv X ae σ H s)(k:∀b o,b∉bl->s.heap.get? b\o->h'.get? b\o)
  (hf:∀b∈bl,jO X ae H b):Inv X ae σ H {s with heap:=h',toks:=t' }:=by
 have BA:∀b u,H b\u->b∉bl:=λb u e z=>by rw[(hf b z).1]at e;cases e
 refine J.step (g':=s.gens) (d':=s.drawn) (ch:=bl) (λb aa=>?_) (λb o _ _ aC e _=>k b o aC e) (λb o _ _ aC e _=>(o.slots,k b o aC e)) (λ_ _ _ _ n=>n)
  (λb o aC e=>(o,k b o aC e)) (λ_ _ e=>e) (λ_ _ _ e=>e) (λb ps e=>(#[],by rw[e];simp)) (λm hm=>?_) (λb u e=>?_) J.bare
 .let(f0,f1,f2,e6,f4,fw):=hf b aa;exact(e6,f1,f4,fw)
 .let(o,aW,cJ,aU,r):=hm;exact(o,aW,cJ,k _ o (λz=>(hf _ z).2.1 rfl) aU,r)
 .refine(J.bC b u e).pd (λc v aC q=>k c v ?_ q) (λ_ q=>q) λ_ _ q=>q
  rcases aC with z|z
  .rw [z];exact BA b u e
  .exact BA c _ z
noncomputable def Cb(K:bq)(a:Addr):kP:=
 (λi H=>∃xs x,ay K H a xs/\xs[i]?\x,λi H v I=>∃p y,H p=none/\v=⇑p/\(∀xs,ay K H a xs->xs[i]?\y)/\I=upd H p (.tup [.int i,y]),λi H=>∃xs,ay K H a xs/\↑xs<=i)
def an4 {P:Program} {w:World} {K:bq} {aW:List Expr} {k} {pos:Pos} (a e it:Addr) (cA:e≠it) :
  r5 P w K (.Tuple aW k pos) (Cb K a) [e,it] e (λi h=>∃old,IsEnum h e it ((i:Nat):Int) old/\h.IsListIter it a i)where
 mem:=by simp
 obj:=λi h ⟨old,he,ai⟩ b aa=>by
  simp only[d6,pI,or_false]at aa;rcases aa with rfl|rfl
  .exact (_,he,λv z=>by
    have hB:Xt _=F7 v:=z;cases hB)
  .let(o,q,c,d):=ai;exact(o,q,λv z=>by rw[d]at z;cases z)
 keep:=λi h h' ⟨old,he,ai⟩ k=>(old,k e (by simp) _ he,ai.at λo q=>k it (by simp) o q)
 item:=by
  intro X c1 hw gn aC i ae s σ H E J hf ⟨old,he,ai⟩ a7;subst c1 hw gn;let(xs,x,aL,ag):=a7;let(a3,cM,p,aO):=J.list aL;let(u,bJ,e1):=cM.get ag;refine wpAny_pyNext_enum_item he ai p.isList (x:=u) (by simpa using bJ) cA λaf ahY acW Wf AE JQ=>(_,rfl,?_)
  refine wpAny_letOwnedTupleGo_enum ahY λak ad0 ik=>?_
  replace ik:yj e af ak:=ik;have SY:e<↥s:=eD he;have aB:∀b o,b∉[e,it]->s.heap.get? b\o->ak.get? b\o:=λb o aa q=>by
   simp only[d6,pI,or_false,not_or]at aa;exact ik.extBut _ _ aa.1 (JQ b o aa.1 aa.2 q)
  have aZ:Inv X ae σ H {s with heap:=ak,toks:=s.toks+1}:=J.CH aB hf;have ig:jO X ae H ↥s:=J.pK (bR _) (J.bC.fresh (bR _));have vh:ak.get? ↥s=some {cls:=.type "tuple",data:=.seq #[.int i s.toks,u]}:=(ik.2 _ (EL SY)).trans Wf;have b0:=aZ.adopt (o:=.tup [.int i,x]) ig ((by show 2<=sizeLine;decide,_,vh,rfl),[.int i s.toks,u],.cons (_,rfl) (.cons e1 .nil),(_,vh,rfl,_,rfl));refine(.ref ↥s,_,b0,rfl,(_,x,ig.1,rfl,λys aQ=>by rw[J.C6 aQ aL];exact ag,rfl),(u,?_,?_),λb aa=>?_)
  .have au:((i+1:Nat):Int)=(i:Int)+1:=()
   rw[au];exact ad0
  .exact acW.extBut ik.extBut (dm cA)
  .have dU:b<↥s:=by
    simp only[d6,pI,or_false]at aa;rcases aa with rfl|rfl
    .exact SY
    .let(o,q,_):=ai;exact eD q
   rw[aD (gN dU)];exact(hf b aa).1
 done:=by
  intro X c1 hw gn aC i ae s σ H E J hf ⟨old,he,ai⟩ a7;subst c1 hw gn;let(xs,aL,ag):=a7;let(a3,cM,p,aO):=J.list aL;have aN:=↑cM;exact wpAny_pyNext_enum_end (J.ok.hd aC) he ai p.isList (by simp;omega) λh' bD=>(rfl,J.CH (t':=s.toks) (λb o aa q=>bD b o (λz=>aa (by simp[z])) q) hf)
 self:=λ_ _ _ _ _ ⟨_,he,_⟩ h=>wpAny_pyIter_enum he h
def af0:bootBuiltins "enumerate"\(.type "enumerate"):=∅
def aeQ:bootBuiltins "zip"\(.type "zip"):=∅
noncomputable def B6(K:bq)(a b:Addr):kP:=
  ⟨fun i H=>∃xs ys x y,ay K H a xs/\ay K H b ys/\xs[i]?\x/\ys[i]?\y,
   fun i H v I=>∃p x y,H p=none/\v=⇑p/\(∀xs,ay K H a xs->xs[i]?\x)/\(∀ys,ay K H b ys->ys[i]?\y)/\I=upd H p (.tup [x,y]),
   fun i H=>∃xs ys,ay K H a xs/\ay K H b ys/\(↑xs<=i\/↑ys<=i)⟩
def lF{h:Heap}(aV:h.get? a\o)(aa:h.get? b\eF)(aC:o.cls=.type c)(hd:eF.cls=.type d)(n:c≠d):a≠b:=λz=>by
 subst z;rw[aV]at aa;cases aa;rw[aC]at hd;cases hd;exact n rfl
def Q5{h:Heap}{z TI k7 i1 i2 cx cQ:Addr}(aO:IsZip h z TI k7 f0)(lr:IsPair h TI QR aay)(kU:IsPair h k7 v1 v2)(af:h.IsListIter i1 cx cn)(ak:h.IsListIter i2 cQ dz)
  (g1:h.IsList cx xs) (g2:h.IsList cQ ys) (Gg:TI≠k7) (B9:i1≠i2):ZipApart z TI k7 i1 i2 cx cQ:=by
 let(gR,au,bc,_):=af;let(q9,aE,bY,_):=ak;let(dy,f1,ea,_):=g1;let(du,f2,ey,_):=g2;exact(lF lr aO rfl rfl ∅,lF kU aO rfl rfl ∅,lF au aO bc rfl ∅,lF aE aO bY rfl ∅,Gg,lF lr au rfl bc ∅,lF lr aE rfl bY ∅,
  lF kU au rfl bc ∅,lF kU aE rfl bY ∅,B9,lF f1 aO ea rfl ∅,lF f1 kU ea rfl ∅,lF f1 au ea bc ∅,lF f1 aE ea bY ∅,
  lF f2 aO ey rfl ∅,lF f2 kU ey rfl ∅,lF f2 au ey bc ∅,lF f2 aE ey bY ∅)
def aex {P:Program} {w:World} {K:bq} {aW:List Expr} {k} {pos:Pos} (a b z TI k7 i1 i2:Addr) (Gg:TI≠k7) (B9:i1≠i2) :
  r5 P w K (.Tuple aW k pos) (B6 K a b) [z,TI,k7,i1,i2] z (λi h=>IsZip h z TI k7 .none/\IsPair h TI ⇑i1 ⇑i2/\(∃u v,IsPair h k7 u v)/\h.IsListIter i1 a i/\h.IsListIter i2 b i)where
 mem:=by simp
 obj:=λi h ⟨aO,lr,⟨u,v,kU⟩,⟨gR,au,_,ea⟩,q9,aE,_,ey⟩ c aC=>by
  simp only[d6,pI,or_false]at aC;rcases aC with rfl|rfl|rfl|rfl|rfl
  .exact (_,aO,λv z=>by
    have hB:Xt _=F7 v:=z;cases hB)
  .exact (_,lr,λv z=>by
    have hB:Data.seq _ _=F7 v:=z;cases hB)
  .exact (_,kU,λv z=>by
    have hB:Data.seq _ _=F7 v:=z;cases hB)
  .exact (gR,au,λv z=>by rw[ea]at z;cases z)
  .exact (q9,aE,λv z=>by rw[ey]at z;cases z)
 keep:=λi h h' ⟨aO,lr,⟨u,v,kU⟩,af,ak⟩ k=>(k z (by simp) _ aO,k TI (by simp) _ lr,(u,v,k k7 (by simp) _ kU),af.at λo q=>k i1 (by simp) o q,ak.at λo q=>k i2 (by simp) o q)
 item:=by
  intro X c1 hw gn aC i ae s σ H E J hf ⟨aO,lr,⟨u,v,kU⟩,af,ak⟩ a7;subst c1 hw gn;let(xs,ys,x,y,aL,ao,ag,aQ):=a7;let(a3,cM,p,AE):=J.list aL;let(So,f6,iZ,CP):=J.list ao;let(FO,bJ,e1):=cM.get ag;let(HK,aK,Zj):=f6.get aQ;have D:=Q5 aO lr kU af ak p.isList iZ.isList Gg B9;refine wpAny_pyNext_zip_item D aO lr kU af ak p.isList iZ.isList (x:=FO) (y:=HK) (by simpa using bJ) (by simpa using aK) λg aqN aq9 g1 g2 aia cB Xg=>(_,rfl,?_)
  refine wpAny_letOwnedTupleGo_zip aqN λg' ajh lq=>?_
  replace lq:yj z g g':=lq;have RS:z<↥s:=eD aO;have aB:∀c o,c∉[z,TI,k7,i1,i2]->s.heap.get? c\o->g'.get? c\o:=λc o aC q=>by
   simp only[d6,pI,or_false,not_or]at aC;exact lq.extBut _ _ aC.1 (Xg c o aC.1 aC.2.2.1 aC.2.2.2.1 aC.2.2.2.2 q)
  have aZ:Inv X ae σ H {s with heap:=g',toks:=s.toks}:=J.CH aB hf;have ig:jO X ae H ↥s:=J.pK (bR _) (J.bC.fresh (bR _));have vh:IsPair g' ↥s FO HK:=(lq.2 _ (EL RS)).trans aia;have b0:=aZ.adopt (o:=.tup [x,y]) ig ((by show 2<=sizeLine;decide,_,vh,rfl),[FO,HK],.cons e1 (.cons Zj .nil),(_,vh,rfl,_,rfl));refine(.ref ↥s,_,b0,rfl,(_,x,y,ig.1,rfl,λys aQ=>by rw[J.C6 aQ aL];exact ag,λzs agh=>by rw[J.C6 agh ao];exact aQ,rfl),(ajh,?_,(_,_,lq.extBut _ _ D.TOz aq9),g1.extBut lq.extBut D.i1z,g2.extBut lq.extBut D.i2z),λb aa=>?_)
  .exact lq.extBut _ _ D.TIz (Xg _ _ D.TIz D.TITO D.TIi1 D.TIi2 lr)
  .have dU:b<↥s:=by
    let(gR,au,_):=af;let(q9,aE,_):=ak;simp only[d6,pI,or_false]at aa;rcases aa with rfl|rfl|rfl|rfl|rfl
    .exact RS
    .exact eD lr
    .exact eD kU
    .exact eD au
    .exact eD aE
   rw[aD (gN dU)];exact(hf b aa).1
 done:=by
  intro X c1 hw gn aC i ae s σ H E J hf ⟨aO,lr,⟨u,v,kU⟩,af,ak⟩ a7;subst c1 hw gn;let(xs,ys,aL,ao,ag):=a7;let(a3,cM,p,AE):=J.list aL;let(So,f6,iZ,CP):=J.list ao;have aN:=↑cM;have y3:=↑f6;have D:=Q5 aO lr kU af ak p.isList iZ.isList Gg B9;exact wpAny_pyNext_zip_end (J.ok.hd aC) D aO lr kU af ak p.isList iZ.isList (by simp;omega) λh' bD=>(rfl,J.CH (t':=s.toks) (λb o aa q=>bD b o (λz=>aa (by simp[z])) (λz=>aa (by simp[z])) (λz=>aa (by simp[z])) (λz=>aa (by simp[z])) q) hf)
 self:=λ_ _ _ _ _ ⟨aO,_⟩ h=>wpAny_pyIter_zip aO h
section
variable{X:bg}
def O3(K:bq)(ba:fO):TI:=λσ H R=>ba σ H λvs H1=>∃a,vs=[⇑a]/\(∃xs,ay K H1 a xs)/\R (Cb K a) H1
theorem C8{k}{p pos:Pos}(a7:l6 X "enumerate")(hm:X.mg "enumerate"=none)(aV:g6 X [a] ba)(az:autoParam (starEach [a] X.env=[(p'p false (eval a X.env))]) A'r) :
  pZ X (.Tuple aW k x2) (.Call (.Name "enumerate" p) [a] [] pos) (O3 X.K ba):=by
 intro ae s σ H R J h;refine Call_ (sM J a7 hm af0 (Fj (bK (aV pos ae s σ H _ J h) λus s1 c7=>?_) az rfl));let(vs,H1,aZ,b3,bU):=c7;let(a,e,(xs,aL),q):=bU;subst e;cases b3 with
 | cons r k_=>
  cases k_;cases r;let(a3,cM,pl,aO):=aZ.list aL;refine call_enumerate_list pl.isList λh' aan Pw hsz aB=>wpAny_pyIter_enum aan ?_
  refine(↥s1+1,[↥s1+1,↥s1],_,_,H1,rfl,aZ.kept (t':=s1.toks) aB,an4 a _ _ (Nat.succ_ne_self _),(_,aan,Pw),λb aa=>?_,q);have ep:↥s1<=b:=by
   simp only[d6,pI,or_false]at aa;rcases aa with rfl|rfl
   .exact y1 _
   .exact bR _
  exact aZ.pK ep (aZ.bC.fresh ep)
def KR(K:bq)(ba:fO):TI:=λσ H R=>ba σ H λvs H1=>∃a b,vs=[⇑a,⇑b]/\(∃xs,ay K H1 a xs)/\(∃ys,ay K H1 b ys)/\R (B6 K a b) H1
theorem K7{k}{p pos:Pos}(a7:l6 X "zip")(hm:X.mg "zip"=none)(aV:g6 X [a,b] ba)(az:autoParam (starEach [a,b] X.env=[(p'p false (eval a X.env)),(p'p false (eval b X.env))]) A'r)
  (ik:autoParam (starEach [b] X.env=[(p'p false (eval b X.env))]) A'r):pZ X (.Tuple aW k x2) (.Call (.Name "zip" p) [a,b] [] pos) (KR X.K ba):=by
 intro ae s σ H R J h;refine Call_ (sM J a7 hm aeQ (Fj (bK (aV pos ae s σ H _ J h) λus s1 c7=>?_) (by rw[az,ik]) (by rw[ik];rfl)));let(vs,H1,aZ,b3,bU):=c7;let(a,b,e,(xs,aL),(ys,ao),q):=bU;subst e;cases b3 with
 | cons r k_=>
  cases k_ with
  | cons eU k_=>
   cases k_;cases r;cases eU;let(a3,cM,pl,aO):=aZ.list aL;let(So,Zj,amv,ht):=aZ.list ao;refine call_zip_2 pl.isList amv.isList λh' aO lr kU af ak hsz aB=>wpAny_pyIter_zip aO ?_
   refine(↥s1+4,[↥s1+4,↥s1+2,↥s1+3,↥s1,↥s1+1],_,_,H1,rfl,aZ.kept (t':=s1.toks) aB,
    aex a b _ _ _ _ _ (gN (wW _)) (gN (wW _)),(aO,lr,(_,_,kU),af,ak),λc aC=>?_,q)
   have ep:↥s1<=c:=by
    simp only[d6,pI,or_false]at aC;rcases aC with rfl|rfl|rfl|rfl|rfl
    .exact EF _ _
    .exact EF _ _
    .exact EF _ _
    .exact bR _
    .exact EF _ _
   exact aZ.pK ep (aZ.bC.fresh ep)
end
def la{k:Nat}{t:vQ}{K:bq}(gn:X.K=K)(aC:X.calm=true)(h:Ah X aW t)
  (a5:autoParam (↑(assignEach aW X.env)=n) A'r) (fB:autoParam ((assignEach aW X.env).findIdx? (·.1)=none) A'r):ql X (.Tuple aW k pos) (wo K n t):=by
 subst gn;exact ao0 aC h a5 fB
section
variable{X:bg}
def Nf:V->List V->aw->c6->Prop:=λx vs H Q=>∃l xs i y,x=⇑l/\vs=[.int i,y]/\H l\(.lst xs)/\0<=i/\i<2 ^ 62/\i<=(↑xs:Int)/\↑xs<sizeLine/\Q .cF (upd H l (.lst (xs.take i.toNat++y::xs.drop i.toNat)))
theorem VG:B8 X "list.insert" Nf:=by
 intro ae s σ H x vs v us Q J bk cM h;let(l,xs,i,y,rfl,rfl,j',h0,af,ak,aO,q):=h;cases bk;cases cM with
 | cons Am aeU=>
  cases aeU with
  | @cons _ w _ _ f6 rc=>
   cases rc;let(t,rfl):=Am;let(z,a3,n,r,aN,e):=J.vv j';refine call_meets aaG (_,e,rfl) F.entry_list_insert (F.args_list_insert_3 _ _ _) (AutoListH.list_insert_list_int_val_1 l a3.toArray n i t w (by rw[fitsIndex_both (k:=i) () ()];decide) (by rw[e2];omega)) (e,?_);refine(.cF,_,J.F5 (its':=a3.take i.toNat++w::a3.drop i.toNat) j' e ?_ ((r.take i.toNat).append (.cons f6 (r.drop i.toNat))) ?_,rfl,q)
   .have aB:(if i<0 then(i+((a3.toArray.size:Nat):Int)).toNat else min i.toNat a3.toArray.size)=i.toNat:=by
     rw[if_neg (),e2];omega
    show(a3.toArray.extract 0 (if i<0 then(i+((a3.toArray.size:Nat):Int)).toNat else min i.toNat a3.toArray.size)).push w++a3.toArray.extract (if i<0 then(i+((a3.toArray.size:Nat):Int)).toNat else min i.toNat a3.toArray.size)=_;rw[aB];apply RP.mp;simp;exact Jr (by rw[k4];exact bR _)
   .rw [cU,gW,ha,k4];omega
end
inductive yB(K:bq)(H:aw):Nat->V->V->Bool->Prop
 |flat {k:Nat} {x y:V} (ag:mQ x=true) (aQ:mQ y=true):yB K H k x y (nI x y)
 |lst {k:Nat} {p q:Addr} {xs ys:List V} {e:Nat->Bool} (aq:ay K H p xs) (aL:ay K H q ys) (aN:↑xs=↑ys) (he:∀(j:Nat) (x y:V),xs[j]?\x->ys[j]?\y->yB K H k x y (e j)):yB K H (k+1) (.ref p) (.ref q) ((fp ↑xs).all e)
 |atL {k:Nat} {p q:Addr} {xs ys:List V} (aq:ay K H p xs) (aL:ay K H q ys) (aN:↑xs≠↑ys):yB K H (k+1) (.ref p) (.ref q) false
 |tup {k:Nat} {p q:Addr} {xs ys:List V} {e:Nat->Bool} (aq:d4 K H p xs) (aL:d4 K H q ys) (he:∀(j:Nat) (x y:V),xs[j]?\x->ys[j]?\y->yB K H k x y (e j)):yB K H (k+1) (.ref p) (.ref q) ((fp (min ↑xs ↑ys)).all e&&↑xs==↑ys)
end L2
namespace L2
open PySem PySem.Spec PyProof.Rows PySem.Builtin PySem.Builtin.ObjectAttr
abbrev aou:=St->aw->(aw->Prop)->Prop
section
variable{M:Model}{A:Around}{E:Value->Shared->Prop}{s:Shared}
def R_{base h:Heap}(aN:h.FunFrames base l)(e:h.get? b\o)(d:o.data=.fields vs):b∉oE l:=λhm=>by
 let(_,eF,bF,iw):=aN.mem hm;rw[e]at bF;cases bF;exact iw vs d
end
noncomputable def iK.gone(D:iK)(i:Nat):iK:={cP:=λσ H=>D.cP (σ.set i none) H,m':=D.m',c_:=λσ H=>D.c_ (σ.set i none) H,gf:=λσ H=>D.gf (σ.set i none) H}
def Yn(D:iK)(i:Nat)(σ:St)(H:aw):(D.gone i).cP σ H=D.cP (σ.set i none) H:=rfl
def Zi(D:iK)(i:Nat)(v:V)(H:aw):(D.gone i).m' v H=D.m' v H:=rfl
end L2
namespace L2
open PySem PySem.Spec PyProof.Rows
noncomputable def ajv(CX:kd)(P:Program)(w:World)(K:bq)(mg:Str->Option Value)(base:Heap)(N:List Str)(qual:Str)(scope:Scope)(f:Addr)(cd:Value)(A:Around)(outer:List Env)(s:Shared)(H:aw)(E:f7):bg where
 prog:=P
 w:=w
 K:=K
 mg:=mg
 base:=base
 A:=A.deeper (envOfC qual scope ↥s f cd)
 N:=N
 gE:=s
 tO:=H
 env:=envOfC qual scope ↥s f cd
 outer:=outer
 stack:=envOfC qual scope ↥s f cd::outer
 ex:=[]
 calm:=false
 fn:=λ_=>true
 dZ:=[]
 d_:=λe aj=>wpAny (model P w) (A.deeper (envOfC qual scope ↥s f cd)) (leaving (envOfC qual scope ↥s f cd) e) (λ_ u4=>CX outer H s E e u4) (λbF u4=>CX outer H s E bF u4) aj
section
variable{α:Type}{M:List α->Prop}
theorem jF(h:∀a,M [a]):∀us:List α,↑us=1->M us|[a],_=>h a
theorem fI(h:∀a b,M [a,b]):∀us:List α,↑us=2->M us|[a,b],_=>h a b
theorem hN(h:∀a b c,M [a,b,c]):∀us:List α,↑us=3->M us|[a,b,c],_=>h a b c
theorem Qg(h:∀a b c d,M [a,b,c,d]):∀us:List α,↑us=4->M us|[a,b,c,d],_=>h a b c d
theorem Es(h:∀a b c d e f g,M [a,b,c,d,e,f,g]):∀us:List α,↑us=7->M us|[a,b,c,d,e,f,g],_=>h a b c d e f g
theorem aet(h:∀a b c d e f g i,M [a,b,c,d,e,f,g,i]):∀us:List α,↑us=8->M us|[a,b,c,d,e,f,g,i],_=>h a b c d e f g i
end
structure I8(K:bq)(C:Addr):Prop where
 aV:dA K ⇑C "__class__"\(some (.builtin "object.__class__"))
 a5:yv K (.builtin "object.__class__") "__get__"\(some (.builtin "getset_descriptor.__get__"))
 HU:Kx K (.builtin "object.__class__")\true
 hm:M_ K C (.type "object")\true
theorem Po{bE:List Int}:∀{a3:List Value},cN (bE.map V.int) a3->∃xs:List (Int×Tok),a3=xs.map (λp=>od p.1 p.2)/\xs.map (·.1)=bE:=by
 induction bE with
 |nil=>intro a3 r;cases r;exact([],rfl,rfl)
 | cons k bE c4=>
  intro a3 r;cases r with
  |cons h t=>
   let(xs,au,aE):=c4 t;let(tk,rfl):=(show ∃t,_=od k t from h);exact((p'p k tk)::xs,by rw[es,<- au],by rw[es,aE])
section
variable{X:bg}
def Qs(aC:X.calm=true):mv X (.builtin "max") (λxs H Q=>∃l bE m,xs=[⇑l]/\ay X.K H l (oh V.int bE)/\(m∈bE/\∀k∈bE,k<=m)/\Q (.int m) H):=by
 intro ae s σ H xs us Q J r h;let(l,bE,m,rfl,aL,hm,q):=h;let(u,rfl,e1):=mr r;cases e1;let(a3,cM,pl,aO):=J.list aL;let(xs,au,aE):=Po cM;have gI:a3.toArray=intItems xs.toArray:=by rw[au];unfold intItems;simp
 have kS:s.heap.IsList l (intItems xs.toArray):=by rw[<- gI];exact pl.isList
 have lh:↑xs=↑bE:=by rw[<- aE,aT]
 have cA:0<xs.toArray.size:=by
  rw[e2,lh];exact Wt hm.1
 refine max_intList (J.ok.hd aC) kS cA λv h' tk aK aB=>(.int m,H,J.kept aB,?_,q)
 let(ff,rfl):=intItems_at aK;refine(ff,?_);have aa:=argBest_gt (numAt xs.toArray) (xs.toArray.size-1);generalize argBest (λi j=>decide (numAt xs.toArray i>numAt xs.toArray j)) (xs.toArray.size-1)=j at aa⊢;have a5:∀i,i<↑bE->bE[i]?\(numAt xs.toArray i):=λi ai=>by
  rw[numAt_eq,ku];show bE[i]?\(((xs.map (·.1))[i]?).getD 0);rw[aE,bj ai];rfl
 rw[e2]at aa cA;have af:=hm.2 _ (cm (a5 j ()));let(i,ai):=g8 hm.1;have gI:i<↑bE:=(b5.mp ai).1;have ak:=aa.2 i ();have a8:m=numAt xs.toArray i:=er (ai.symm.trans (a5 i gI));rw[show numAt xs.toArray j=m by omega]
def Hp(K:bq):V->List V->aw->c6->Prop:=λx vs H Q=>∃l bE k,x=⇑l/\vs=[.int k]/\ay K H l (oh V.int bE)/\k∈bE/\↑bE<=1000/\Q (.int (bE.idxOf k:Nat)) H
def Xd:Cg X "list.index" (Hp X.K):=by
 intro ae s σ H x xs v us Q J bk cM h;let(l,bE,k,rfl,rfl,aL,aB,aN,q):=h;cases(show v=fE l from bk);let(u,rfl,e1):=mr cM;let(kE,rfl):=(show ∃t,u=od k t from e1);let(a3,GG,pl,aO):=J.list aL;have ai:=ad1 GG;have hlen:=↑ai;have aI:bE.idxOf k<↑bE:=agZ.mpr aB;let((cls,c3,data,cX),aU,aC,n,hd):=id pl.isList;simp only at aC hd;subst aC hd;refine call_meets Wk (_,aU,rfl) PySem.F.entry_list_index (PySem.F.args_list_index_2 _ _)
  (PySem.SeqAt.list_indexAt l a3.toArray n c3 cX (.int k kE) (isInt k) (bE.idxOf k) (by simpa[hlen]using aI) () ?_ ?_) (aU,λy aQ=>(eq_isInt k kE ai y (by simpa using aQ)).at _ _,.int _,H,J.tok _,(_,rfl),q)
 .show isInt k a3[bE.idxOf k]=true;rw[isInt_at k ai _ () aI];simpa using afx aI
 .intro j ajN dU;show isInt k a3[j]=false;rw[isInt_at k ai j (by simpa using ajN) ()];exact ne_of_lt_idxOf dU _
end
def anw(p d:Addr):Heap->Prop:=λh=>PySem.W.KdlKeysView h p d
section
variable{X:bg}
def sb:V->List V->aw->c6->Prop:=λx vs H Q=>∃d kvs,x=⇑d/\vs=[]/\H d\(.bu kvs)/\∀p,H p=none->Q ⇑p (upd H p (.ext (anw p d)))
end
abbrev ads:=St->aw->Str->(Str->aw->Prop)->Prop
def nN(f:Addr)(qual:Str)(params:Arguments)(body:Expr)(scope:Scope)(jQ:List (Str×Addr))(c':Addr):Heap->Prop:=
 λh=>∃pm jM,h.get? f\(AB "<lambda>" qual params body scope jQ pm c' jM)
def ow(c:Addr)(qual:Str):Heap->Prop:=λh=>h.CodeRec ⇑c qual
def Tab(H:aw)(bL:Addr)(pos:Pos)(qual:Str):Prop:=
 ∃ps,H bL\(.hS ps)/\(ps=#[]\/∃c',ps=#[rawInt pos.line,rawInt pos.col,⇑c']/\H c'\(.ext (ow c' qual)))
def lH(bL:Addr)(H I:aw):Prop:=∀b o,b≠bL->H b\o->I b\o
def lH.trans(a:lH bL H H1)(b:lH bL H1 ar):lH bL H ar:=λc o n h=>b c o n (a c o n h)
def aM.p(s:aM H I):lH bL H I:=λb o _ h=>s b o h
def Tab.ne(t:Tab H bL pos qual)(h:H b\o)(aU:∀ps,o≠.hS ps):b≠bL:=λe=>by
 let(ps,au,_):=t;subst e;rw[au]at h;exact aU ps (er h).symm
def Tab.step(t:Tab H bL pos qual)(s:aM H I):Tab I bL pos qual:=by
 let(ps,e,d):=t;refine(ps,s _ _ e,?_);rcases d with d|⟨c',d,bF⟩
 .exact .inl d
 .exact .inr (c',d,s _ _ bF)
def TQ{w:World}{h:Heap}
  (e:h.get? f\(AB "<lambda>" qual params body scope jQ pm c' jM)):gk P w H h f (.ext (nN f qual params body scope jQ c')):=
 ((pm,jM,e),(_,e),λ_ _ ⟨p,c,au⟩ k=>(p,c,k _ au))
def adH{w:World}{h:Heap}(e:h.CodeRec ⇑c qual):gk P w H h c (.ext (ow c qual)):=by
 refine(e,?_,λaf ak x k=>?_)
 .let(bY,o,vs,t,au,aE,_):=e;cases au;exact(o,aE)
 .let(bY,o,vs,t,au,aE,bI,ec):=x;cases au;exact(_,o,vs,t,rfl,k o aE,bI,ec)
structure IU(X:bg)(c bL:Addr):Prop where
 code:X.env.code=⇑c
 hd:mD X.base c bL
 bm:X.base.BuiltinsAt X.mg bL
def akt:TriplesOk [rawInt a,rawInt b,v]:=m5
def an7:codeAmong pos [rawInt pos.line,rawInt pos.col,v]\v:=by
 have:=codeAmong_snoc (pos:=pos) (c:=v) [] m5 rfl;simpa using this
section
variable{X:bg}{ae:List (Addr×Obj)}{σ:St}{H:aw}{s:Shared}{params:Arguments}{body:Expr}{scope:Scope}{pos:Pos}{c bL:Addr}{jQ:List (Str×Addr)}{Q:Value->Shared->Prop}
def Rn (J:Inv X ae σ H s) (T:IU X c bL) (bS:Tab H bL pos (X.env.qual++"<lambda>")) (n6:closureFor scope X.env=pure jQ) (Ao:defaultsOf params X.env=(p'p [] []))
  (h:∀f c' H1 s1,Inv X ae σ H1 s1->lH bL H H1->(aF H->aF H1)->Tab H1 bL pos (X.env.qual++"<lambda>")->H1 f\(.ext (nN f (X.env.qual++"<lambda>") params body scope jQ c'))->H1 c'\(.ext (ow c' (X.env.qual++"<lambda>")))->H f=none->Q ⇑f s1) :
  wpAny (model X.prog X.w) X.A (eval (.Lambda params body scope pos) X.env) Q X.d_ s:=by
 refine PySem.W.kla_eval Ao ?_;let(ps,l9,d):=bS;have c1:s.heap.get? bL\(K3 ps):=J.bC _ _ l9;have qu:s.heap.Ns mainGlobals X.mg:=J.mod.glob.keeps J.c_;have dd:=T.hd.keeps J.c_;have ant:mainGlobals≠bL:=λq=>by
  let(o,aW,cJ,e,hd,_):=qu;rw[q,c1]at e;cases e;cases hd
 have g4:s.heap.BuiltinsAt X.mg bL:=by
  let(bm,o,af,ak,a8,bZ,dS,iU):=T.bm;exact(bm,o,af,ak,a8,bZ,J.c_ _ _ dS,iU)
 rcases d with rfl|⟨c',rfl,g7⟩
 .refine PySem.W.kla_makeFunction (mg:=X.mg) n6 J.ok.glob qu T.code dd c1 m5 rfl ant g4 λc' jM h' tk ag Cr dU aoP aaa=>?_
  have tq:H c'=none:=J.bC.fresh Cr;have iw:H h'.objs.size=none:=J.bC.fresh (cZ Cr (nR dU));have agt:c'≠h'.objs.size:=gN dU;have ajC:bL≠c':=λz=>by rw[z,tq]at l9;cases l9
  have aoO:bL≠h'.objs.size:=λz=>by rw[z,iw]at l9;cases l9
  have put:∀b o,b≠bL->H b\o->upd (upd (upd H bL (.hS (#[] ++ #[rawInt pos.line,rawInt pos.col,⇑c']))) c' (.ext (ow c' (X.env.qual++"<lambda>")))) h'.objs.size (.ext (nN h'.objs.size (X.env.qual++"<lambda>") params body scope jQ c')) b\o:=λb o n e=>by
   rw[aD (λz=>by rw[z,iw]at e;cases e),aD (λz=>by rw[z,tq]at e;cases e),aD n];exact e
  have BO:upd (upd (upd H bL (.hS (#[] ++ #[rawInt pos.line,rawInt pos.col,⇑c']))) c' (.ext (ow c' (X.env.qual++"<lambda>")))) h'.objs.size (.ext (nN h'.objs.size (X.env.qual++"<lambda>") params body scope jQ c')) bL\(.hS (#[] ++ #[rawInt pos.line,rawInt pos.col,⇑c'])):=by
   rw[aD aoO,aD ajC,db]
  have x':upd (upd (upd H bL (.hS (#[] ++ #[rawInt pos.line,rawInt pos.col,⇑c']))) c' (.ext (ow c' (X.env.qual++"<lambda>")))) h'.objs.size (.ext (nN h'.objs.size (X.env.qual++"<lambda>") params body scope jQ c')) c'\(.ext (ow c' (X.env.qual++"<lambda>"))):=by
   rw[aD agt,db]
  have NW:upd (upd (upd H bL (.hS (#[] ++ #[rawInt pos.line,rawInt pos.col,⇑c']))) c' (.ext (ow c' (X.env.qual++"<lambda>")))) h'.objs.size (.ext (nN h'.objs.size (X.env.qual++"<lambda>") params body scope jQ c')) h'.objs.size\(.ext (nN h'.objs.size (X.env.qual++"<lambda>") params body scope jQ c')):=db;have cF:∀b,b≠bL->b≠c'->b≠h'.objs.size->upd (upd (upd H bL (.hS (#[] ++ #[rawInt pos.line,rawInt pos.col,⇑c']))) c' (.ext (ow c' (X.env.qual++"<lambda>")))) h'.objs.size (.ext (nN h'.objs.size (X.env.qual++"<lambda>") params body scope jQ c')) b=H b:=λb cK cC dc=>by
   rw[aD dc,aD cC,aD cK]
  have j3:aF H->aF (upd (upd (upd H bL (.hS (#[] ++ #[rawInt pos.line,rawInt pos.col,⇑c']))) c' (.ext (ow c' (X.env.qual++"<lambda>")))) h'.objs.size (.ext (nN h'.objs.size (X.env.qual++"<lambda>") params body scope jQ c'))):=λn=>n.upd.upd.upd
  generalize upd (upd (upd H bL (.hS (#[] ++ #[rawInt pos.line,rawInt pos.col,⇑c']))) c' (.ext (ow c' (X.env.qual++"<lambda>")))) h'.objs.size (.ext (nN h'.objs.size (X.env.qual++"<lambda>") params body scope jQ c'))=H1 at put BO x' NW cF j3;have bp:∀b o,b≠bL->s.heap.get? b\o->(h'.push (AB "<lambda>" (X.env.qual++"<lambda>") params body scope jQ ((X.mg "__name__").getD .none) c' jM)).get? b\o:=λb o n e=>fk _ (ag b o n e)
  have KN:∀b,H b=none->b≠bL:=λb n z=>by rw[z,l9]at n;cases n
  have u:h8 X.a6 [] H H1 s.heap (h'.push (AB "<lambda>" (X.env.qual++"<lambda>") params body scope jQ ((X.mg "__name__").getD .none) c' jM)):=by
   refine(λb o e n _ _=>bp b o (KN b n) e,λb o e n _ _=>(o.slots,bp b o (KN b n) e),λb o e n _=>?_,λb o e _=>?_,λb xs e=>put b _ (λz=>by rw[z,l9]at e;cases e) e,λb o x e=>put b _ (λz=>by rw[z,l9]at e;cases e) e,λb ps e=>?_)
   .have aa:=eD e;rw[cF b (KN b n) (gN (ja aa Cr)) (gN (ja aa (cZ Cr (nR dU))))];exact n
   .by_cases aa:b=bL
    .subst aa;exact(_,fk _ aaa)
    .exact (o,bp b o aa e)
   .by_cases aa:b=bL
    .subst aa;rw[l9]at e;cases e;exact(_,BO)
    .exact (#[],by rw[put b _ aa e];simp)
  have bC:fD X.prog X.w H1 (h'.push (AB "<lambda>" (X.env.qual++"<lambda>") params body scope jQ ((X.mg "__name__").getD .none) c' jM)):=λb o e=>by
   by_cases af:b=bL
   .subst af;rw[BO]at e;cases e;exact fk _ aaa
   by_cases ak:b=c'
   .subst ak;rw[x']at e;cases e;refine adH ?_;let(bY,o,vs,t,au,aE,bI):=aoP;exact(bY,o,vs,t,au,fk _ aE,bI)
   by_cases a8:b=h'.objs.size
   .subst a8;rw[NW]at e;cases e;exact TQ (hC _ rfl)
   rw[cF b af ak a8]at e;refine(J.bC b o e).pd (λd v hd q=>bp d v ?_ q) (λd q=>put d _ (λz=>by rw[z,l9]at q;cases q) q) λd xs q=>put d _ (λz=>by rw[z,l9]at q;cases q) q
   rcases hd with z|z
   .rw [z];exact af
   .intro eE;rw[eE,l9]at z;cases z
  exact h _ c' H1 _ (J.un (t':=tk) u bC) (λb o n e=>put b o n e) j3 (_,BO,.inr (c',by simp,x')) NW x' iw
 .refine PySem.W.kla_makeFunctionHit (mg:=X.mg) n6 J.ok.glob qu T.code dd c1 akt an7 g4 λjM h' tk aB hsz=>?_
  have iw:H h'.objs.size=none:=J.bC.fresh hsz;have aZ:Inv X ae σ (upd H h'.objs.size (.ext (nN h'.objs.size (X.env.qual++"<lambda>") params body scope jQ c'))) {s with heap:=h'.push (AB "<lambda>" (X.env.qual++"<lambda>") params body scope jQ ((X.mg "__name__").getD .none) c' jM),toks:=tk}:=
   J.laid (t':=tk) (λb o e=>fk _ (aB b o e)) hsz (TQ (hC _ rfl))
  have bb:=a_ (o:=.ext (nN h'.objs.size (X.env.qual++"<lambda>") params body scope jQ c')) iw;exact h _ c' _ _ aZ bb.p (λn=>n.upd) (_,bb _ _ l9,.inr (c',rfl,bb _ _ g7)) db (bb _ _ g7) iw
end
noncomputable def Tg:Expr->Scope
 | .Lambda _ _ s _=>s
 |_=>{kind:=.function,names:=[],isGenerator:=false,isCoroutine:=false}
noncomputable def Wv:Expr->Pos
 | .Lambda _ _ _ p=>p
 |_=>(0,0,0,0)
section
variable{P:Program}{w:World}{A:Around}{E:Value->Shared->Prop}{s:Shared}
structure vF(h:Heap)(d:Addr)(o:Obj)(aW:Array DictEntry)(cJ:Nat):Prop where
 at_:h.get? d\o
 ex:o.ExactDict
 dat:o.data=.dict aW cJ
def Xf(r:vF s.heap d o aW cJ):s.TypeIs ⇑d "dict":=(o,r.at_,r.ex.1)
def akB(hd:(d==sysModules)=false)(r:vF s.heap d o aW cJ)
  (aX:Q (.ref ↥s) {s with heap:=s.heap.push {cls:=.type "dict_keyiterator",data:=.fields #[⇑d,.int 0 0,.int aW.size 0,.int cJ 0]} }) :
  wpAny (model P w) A (pyIter ⇑d) Q E s:=by
 have jR:=Xf r;refine wpAny_pyIter_slot jR asz (wpAny_call_entry asz jR F.entry_dict_iter ?_ (F.args_dict_iter_1 _));unfold Builtin.«dict.__iter__» asN;refine wpAny_bind (wpAny_bind (wpAny_notOrdered_dict jR (wpAny_pure ?_)));show wpAny _ _ (aqd d >>= _) _ _ s;unfold aqd;rw[if_neg (by rw[hd];exact fT)];refine wpAny_bind (wpAny_pure (wpAny_bind (wpAny_dictEntries r.at_ r.dat (wpAny_bind (wpAny_dictEpoch r.at_ r.dat ?_)))));refine wpAny_bind (wpAny_newObj_type (wpAny_pure (_,rfl,"dict_keyiterator",_,(_,hC _ rfl,rfl),Gb.lookup,?_)));simpa[rawInt]using aX
def aqD{it d:Addr}{e:DictEntry}(hit:s.heap.IsKeyIter it d i aW.size cJ)(r:vF s.heap d o aW cJ)(ag:aW[i]?\e)
  (aX:∀h',h'.IsKeyIter it d (i+1) aW.size cJ->yj it s.heap h'->Q (some e.key) {s with heap:=h' }):wpAny (model P w) A (pyNext ⇑it) Q E s:=by
 let(acQ,aU,aC,hd):=id hit;have uG:ao6 "dict_keyiterator"=false:=∅
 have dU:i<aW.size:=by
  rcases Nat.lt_or_ge i aW.size with h|h
  .exact h
  .rw [aeY h]at ag;cases ag
 unfold pyNext;refine wpAny_bind (wpAny_attempt (wpAny_callSpecial?_slot (name:=ab "__next__") hit.typeIs Gb
  (wpAny_call_entry Gb hit.typeIs ab6 ?_ (ahm _))))
 refine wpAny_bind (wpAny_pure (wpAny_bind (wpAny_bind ?_)))
 first|refine wpAny_bind (wpAny_typeNameOfWhole_keyiter hit.typeIs (wpAny_pure ?_))|refine wpAny_bind (wpAny_typeNameOf_keyiter hit.typeIs (wpAny_pure ?_))
 refine wpAny_bind (wpAny_fieldsOf aU hd ?_);show wpAny _ _ (if(fE d==vZ)=true then _ else _) _ _ s;rw[if_neg (show ¬((fE d==vZ)=true)from fT)];refine wpAny_bind (wpAny_pure (wpAny_bind (wpAny_dictEntries r.at_ r.dat ?_)));rw[if_neg (by simp)];refine wpAny_bind (wpAny_pure (wpAny_bind (wpAny_dictEpoch r.at_ r.dat ?_)));rw[if_neg (by simp)];refine wpAny_pure ?_;simp only[show ¬((i:Int)<0)from by omega,if_false,mG,ag];refine wpAny_bind ?_
 first|refine wpAny_bind (wpAny_typeNameOfWhole_keyiter hit.typeIs (wpAny_pure ?_))|refine wpAny_bind (wpAny_typeNameOf_keyiter hit.typeIs (wpAny_pure ?_))
 refine wpAny_bind (wpAny_isOneOf_keyiter hit.typeIs ?_);show wpAny _ _ (setField ⇑it 1 (rawInt ((i:Int)+1)) >>= _) _ _ s;refine wpAny_bind (wpAny_setField aU hd (by simp) ?_);have To:(s.heap.update it (anM (·.setIfInBounds 1 (rawInt ((i:Int)+1))))).IsKeyIter it d (i+1) aW.size cJ:=
  (_,aeO _ aU (Obj.isFreed_of_fields (abi hd _)),(Obj.cls_mapFields ..).trans aC,by rw[abi hd];simp[rawInt])
 refine wpAny_bind (wpAny_holding (wpAny_bind (wpAny_isOneOf_keyiter (s:={s with heap:=s.heap.update it (anM (·.setIfInBounds 1 (rawInt ((i:Int)+1))))}) To.typeIs ?_)));show wpAny _ _ (pure e.key) _ _ _;exact wpAny_pure (wpAny_pure (_,rfl,wpAny_pure (aX _ To (arj ..))))
def acC{it d:Addr}(ct:A.handled=none)(hit:s.heap.IsKeyIter it d i aW.size cJ)(r:vF s.heap d o aW cJ)(ag:aW.size<=i)
  (aX:∀h',Heap.ExtBut it s.heap h'->Q none {s with heap:=h' }):wpAny (model P w) A (pyNext ⇑it) Q E s:=by
 let(acQ,aU,aC,hd):=id hit;have uG:ao6 "dict_keyiterator"=false:=∅
 unfold pyNext;refine wpAny_bind (wpAny_attempt (wpAny_callSpecial?_slot (name:=ab "__next__") hit.typeIs Gb
  (wpAny_call_entry Gb hit.typeIs ab6 ?_ (ahm _))))
 refine wpAny_bind (wpAny_pure (wpAny_bind (wpAny_bind ?_)))
 first|refine wpAny_bind (wpAny_typeNameOfWhole_keyiter hit.typeIs (wpAny_pure ?_))|refine wpAny_bind (wpAny_typeNameOf_keyiter hit.typeIs (wpAny_pure ?_))
 refine wpAny_bind (wpAny_fieldsOf aU hd ?_);show wpAny _ _ (if(fE d==vZ)=true then _ else _) _ _ s;rw[if_neg (show ¬((fE d==vZ)=true)from fT)];refine wpAny_bind (wpAny_pure (wpAny_bind (wpAny_dictEntries r.at_ r.dat ?_)));rw[if_neg (by simp)];refine wpAny_bind (wpAny_pure (wpAny_bind (wpAny_dictEpoch r.at_ r.dat ?_)));rw[if_neg (by simp)];refine wpAny_pure ?_;simp only[show ¬((i:Int)<0)from by omega,if_false,mG,aeY ag];refine wpAny_bind ?_
 first|refine wpAny_bind (wpAny_typeNameOfWhole_keyiter hit.typeIs (wpAny_pure ?_))|refine wpAny_bind (wpAny_typeNameOf_keyiter hit.typeIs (wpAny_pure ?_))
 show wpAny _ _ (setField ⇑it 0 .none >>= _) _ _ s;refine wpAny_bind (wpAny_setField aU hd (by simp) ?_);show wpAny _ _ (newExc (.type "StopIteration") [] >>= _) _ _ _;refine wpAny_bind ?_;simp only[newExc,newTuple];refine wpAny_bind (wpAny_newObj_type ?_ (by size_fits));refine wpAny_bind (m:=firstArgMember _ _) (wpAny_of_eq (a:=vZ) (by first|rfl|(simp only[firstArgMember];rfl)) ?_);refine wpAny_newObj_type ?_ (by size_fits);simp only[raiseNew];refine wpAny_bind (wpAny_handled ?_);rw[show A.in1.handled=none from ct];refine wpAny_bind (wpAny_pure (wpAny_throw ?_));refine wpAny_bind (wpAny_isInstance (T:="StopIteration") (b:=true) (_,hC _ rfl,rfl) isSubtype_stop ?_);exact wpAny_pure (aX _ (((arj ..).extBut.push _).push _))
end
def rd(a:Addr)(o:Obj):Heap->Prop:=λh=>h.get? a\o
structure PK(P:Program)(w:World)(H:aw)(a:Addr)(kvs:List (List Key×V))(o:Obj)(aW:Array DictEntry)(cJ:Nat)(xs:List (List Key×Addr×Value)):Prop where
 at_:H a\(.ext (rd a o))
 ex:o.ExactDict
 dat:o.data=.dict aW cJ
 ent:aW.toList=xs.map (entryOfKey (tupleKind (iI P w)))
 aH:(xs.map (·.1)).Nodup
 bE:Paired (λ(p:List Key×V) (q:List Key×Addr×Value)=>p.1=q.1/\H q.2.1\(.tup (p.1.map d9))/\bX p.2 q.2.2) kvs xs
 qm:↑kvs<=sizeLine
 ns:(a==sysModules)=false
def jX(P:Program)(w:World)(H:aw)(a:Addr)(kvs:List (List Key×V)):Prop:=∃o aW cJ xs,PK P w H a kvs o aW cJ xs
section
variable{P:Program}{w:World}{H I:aw}{h:Heap}{a:Addr}{kvs:List (List Key×V)}
def Nx(d:jX P w H a kvs)(s:aM H I):jX P w I a kvs:=by
 let(o,aW,cJ,xs,r):=d;exact(o,aW,cJ,xs,s _ _ r.at_,r.ex,r.dat,r.ent,r.aH,Paired.td r.bE λp q z=>(z.1,s _ _ z.2.1,z.2.2),r.qm,r.ns)
def af6{p:Addr}(d:jX P w H a kvs)(aq:p≠a)(c9:∀xs,H p≠some (.tup xs)):jX P w (upd H p u) a kvs:=by
 let(o,aW,cJ,xs,r):=d;exact(o,aW,cJ,xs,by rw[aD (dm aq)];exact r.at_,r.ex,r.dat,r.ent,r.aH,Paired.td r.bE λq dB z=>(z.1,by rw[aD (λe=>c9 _ (e ▸ z.2.1))];exact z.2.1,z.2.2),r.qm,r.ns)
def aab(ok:fD P w H h)(r:PK P w H a kvs o aW cJ xs):vF h a o aW cJ:=
 ((ok a _ r.at_).1,r.ex,r.dat)
def SK(ok:fD P w H h)(d:jX P w H a kvs):uA (H a)/\(∃u,h.get? a\u)/\gk P w (upd H a (.hl kvs)) h a (.hl kvs):=by
 let(o,aW,cJ,xs,r):=d;have e:=(aab ok r).at_;refine(by rw[r.at_];exact m5,(o,e),r.qm,r.ns,xs,Paired.td r.bE λq dB z=>(z.1,?_,z.2.2),o,aW,cJ,e,r.ex,r.dat,r.ent,r.aH);rw[aD (λe=>by have:=z.2.1;rw[e,r.at_]at this;cases this)];exact z.2.1
def aek(ok:fD P w H h)(d:jX P w H a kvs):fD P w (upd H a (.hl kvs)) h:=
 have z:=SK ok d
 ok.write z.1 (.inl rfl) (λ_ _ _ q=>q) z.2.1 z.2.2
def acO(d:jX P w H a kvs)(e:H b\(.tup xs)):b≠a:=λz=>by
 let(o,aW,cJ,ys,r):=d;have:=r.at_;rw[<- z,e]at this;cases this
end
section
variable{X:bg}{ae:List (Addr×Obj)}{σ:St}{H:aw}{s:Shared}{a b:Addr}{kvs:List (List Key×V)}{k:List Key}{v:V}{r:Value}{A:Around}{E:Value->Shared->Prop}
def Lx(J:Inv X ae σ H s)(k5:uA (H a))(ex:∃u,s.heap.get? a\u)(new:gk X.prog X.w (upd H a eF) s.heap a eF):Inv X ae σ (upd H a eF) s:=
 J.un (t':=s.toks) (h':=s.heap) (h8.write k5 (.inl rfl) (λ_ _ _ q=>q) ex) (J.bC.write k5 (.inl rfl) (λ_ _ _ q=>q) ex new)
def ab0(J:Inv X ae σ H s)(d:jX X.prog X.w H a kvs):Inv X ae σ (upd H a (.hl kvs)) s:=
 have z:=SK J.bC d
 Lx J z.1 z.2.1 z.2.2
def TM(J:Inv X ae σ H s)(e:H a\(.hl kvs)):∃o,Inv X ae σ (upd H a (.ext (rd a o))) s/\jX X.prog X.w (upd H a (.ext (rd a o))) a kvs:=by
 let(z,y,xs,r,o,aW,cJ,af,ak,a8,bZ,dS):=(show gk X.prog X.w H s.heap a (.hl kvs)from J.bC a _ e);refine(o,Lx J (by rw[e];exact m5) (o,af) (af,(o,af),λ_ _ q k=>k o q),o,aW,cJ,xs,db ..,ak,a8,bZ,dS,Paired.td r λp q z=>(z.1,?_,z.2.2),z,y);rw[aD (λq=>by have:=z.2.1;rw[q,e]at this;cases this)];exact z.2.1
def aaX(bJ:A.units+1<cLine)(J:Inv X ae σ H s)(d:jX X.prog X.w H a kvs)(bD:H b\(.tup (k.map d9)))(l:df kvs k\v)(h:∀eK aj,Inv X ae σ H aj->bX v eK->Q eK aj) :
  wpAny (model X.prog X.w) A (getItem ⇑a ⇑b) Q E s:=by
 let(z,hd,xs,rel,c3):=S7 (aek J.bC d) (db ..);let(eK,hw,f6):=ji.some_of (v:=v) (o:=(atKey xs k).map (·.2)) (by rw[<- l];exact rel.val k);let(p,aq,gF):=Ab.mp hw;refine wpAny_getItem_heap (tupleKind_room_in1 bJ) (xm J.bC bD) c3 aq ?_;rw[gF];exact h eK _ (J.tok _) f6
def adF(bJ:A.units+1<cLine)(J:Inv X ae σ H s)(d:jX X.prog X.w H a kvs)(bD:H b\(.tup (k.map d9)))(aN:↑kvs<sizeLine)(cM:bX v r)
  (h:∀o aj,Inv X ae σ (upd H a (.ext (rd a o))) aj->jX X.prog X.w (upd H a (.ext (rd a o))) a (d8 kvs k v)->Q ⟨⟩ aj):wpAny (model X.prog X.w) A (setItem ⇑a ⇑b r) Q E s:=by
 refine Pk bJ (ab0 J d) (jh.t (db ..) (by rw[aD (acO d bD)];exact bD) aN) (show bX ⇑b ⇑b from rfl) cM λaj i'=>?_
 rw[ug]at i';let(o,b0,ey):=TM i' (db ..);rw[ug]at b0 ey;exact h o aj b0 ey
end
def Jd(P:Program)(w:World)(e3 ty:TE):TE:=λσ H Q=>e3 σ H λx H1=>ty σ H1 λy ar=>∃a b kvs k v,x=⇑a/\y=⇑b/\jX P w ar a kvs/\ar b\(.tup (k.map d9))/\df kvs k\v/\Q v ar
def OE(P:Program)(w:World)(e3 ty ff:TE):eI:=λD σ H=>ff σ H λv H1=>e3 σ H1 λx ar=>ty σ ar λy a'=>∃a b kvs k,x=⇑a/\y=⇑b/\jX P w a' a kvs/\a' b\(.tup (k.map d9))/\↑kvs<sizeLine/\∀o,jX P w (upd a' a (.ext (rd a o))) a (d8 kvs k v)->D.cP σ (upd a' a (.ext (rd a o)))
def Pt(P:Program)(w:World):TE:=λ_ H Q=>∀p o,H p=none->jX P w (upd H p (.ext (rd p o))) p []->Q ⇑p (upd H p (.ext (rd p o)))
section
variable{X:bg}{o i e value:Expr}{pos pos' x2:Pos}{e3 ty ff:TE}
def BT(bJ:X.A.units+1<cLine)(aU:bw X o e3)(ai:bw X i ty)(az:JW i):bw X (.Subscript o i pos) (Jd X.prog X.w e3 ty):=by
 intro ae s σ H Q J h;refine Sy apw.lookup az (bK (aU ae s σ H _ J h) λu s1 cw=>et cw λx H1 aZ bk bU=>bK (ai ae s1 σ H1 _ aZ bU) λhb s2 c7=>?_);let(y,ar,b0,bB,a,b,kvs,k,v,ex,hY,d,bD,l,dV):=c7;subst ex hY;obtain rfl:u=fE a:=bk;obtain rfl:hb=fE b:=bB;refine(?_,aaX bJ b0 d bD l λeK s3 eM f6=>(v,ar,eM,f6,dV));let(cG,aW,cJ,xs,r):=d;exact Xf (aab b0.bC r)
def al0(bJ:X.A.units+1<cLine)(aU:bw X o e3)(ai:bw X i ty)(aK:bw X value ff)(az:swapsWith value (some (.Subscript o i pos')) pos.line X.env=pure false) :
  gO X (.Assign [.Subscript o i pos'] value pos) (OE X.prog X.w e3 ty ff):=by
 intro ae s σ H D J h;refine wpAny_Assign_Subscript (bK (aK ae s σ H _ J h) λr s1 cw=>et cw λv H1 aZ cM bU=>bK (aU ae s1 σ H1 _ aZ bU) λu s2 cw=>et cw λx ar b0 bk dV=>bK (ai ae s2 σ ar _ b0 dV) λhb s3 c7=>?_) az;let(y,a',eM,bB,a,b,kvs,k,ex,hY,d,bD,aN,hj):=c7;subst ex hY;obtain rfl:u=fE a:=bk;obtain rfl:hb=fE b:=bB;exact adF bJ eM d bD aN cM λcG s4 h4 r8=>(σ,_,h4,hj cG r8)
def apI:bw X (.Dict [] [] pos) (Pt X.prog X.w):=λae s σ H Q J h=>by
 refine bK (amI ae s σ H (λx H1=>∃p,x=⇑p/\H p=none/\H1=upd H p (.hl [])) J λp aq=>(p,rfl,aq,rfl)) λv s1 c7=>?_
 let(x,H1,aZ,b3,p,ex,aq,AK):=c7;subst ex AK;let(o,b0,ey):=TM aZ (db ..);rw[ug]at b0 ey;exact(⇑p,_,b0,b3,h p o aq ey)
end
section
open AutoSeq1 (wpAny_loadPart')
open MeetsSeq MeetsSeq2 MeetsSeq3 SeqRoads2
variable{P:Program}{w:World}{l b:Addr}{xs ys:Array Value}{n m:Nat}{c3 aun:Option Addr}{cX bb:Array (Option Value)}
end
section
variable{X:bg}{ae:List (Addr×Obj)}{σ:St}{H:aw}{s:Shared}
structure n5(H:aw)(p:Addr)(ps:List Addr)(bE:List (List (Key×V))):Prop where
 at_:H p\(.lst (ps.map V.ref))
 len:↑ps=↑bE
 al:∀(j:Nat) (a:Addr) (kvs:List (Key×V)),ps[j]?\a->bE[j]?\kvs->H a\(.bu kvs)
end
section
variable{X:bg}{ae:List (Addr×Obj)}{σ:St}{H:aw}{s:Shared}{d:Addr}{o:Obj}{kvs:List (Key×V)}
def anp(J:Inv X ae σ H s)(e:H d\(.bu kvs))(g:s.heap.get? d\o):Inv X ae σ (upd H d (.ei o (.bu kvs))) s:=
 Lx J (by rw[e];exact m5) (o,g) (g,J.bC d _ e)
def V0(J:Inv X ae σ H s)(e:H d\(.ei o (.bu kvs)))(iw:∀o u,X.tO d≠some (.ei o u)):Inv X ae σ (upd H d (.bu kvs)) s:=by
 have ne:∀{b:Addr} {u:Option eH},H b=u->(∀eF,u≠some (.ei eF (.bu kvs)))->b≠d:=λ{b u} q h z=>h o (by rw[<- q,z];exact e)
 refine(J.ok,J.os,J.bare,(J.base.keep,J.base.slot,λb eF q n ag=>?_,J.base.there,λb xs q=>?_,λb eF u q=>?_,λb ps q=>?_),J.loc,J.cell,?_,λx c q=>?_,λp aq=>?_,λb u q=>?_,J.len)
 .have h:=J.base.free b eF q n ag;rw[aD (ne h (λ_ z=>by cases z))];exact h
 .have h:=J.base.rN b xs q;rw[aD (ne h (λ_ z=>by cases z))];exact h
 .have h:=J.base.ot b eF u q;rw[aD (λz=>iw eF u (by rw[<- z];exact q))];exact h
 .let(m,h):=J.base.qW b ps q;exact(m,by rw[aD (ne h (λ_ z=>by cases z))];exact h)
 .rw [aD (ne J.free (λ_ z=>by cases z))];exact J.free
 .rw [aD (ne (J.kG x c q) (λ_ z=>by cases z))];exact J.kG x c q
 .let(af,ak,a8):=J.pin p aq;exact(af,by rw[aD (ne ak (λ_ z=>by cases z))];exact ak,a8)
 .by_cases aa:b=d
  .subst aa;rw[db]at q;cases q;exact(J.bC b _ e).2
  .rw[aD aa]at q;refine(J.bC b u q).pd (λ_ _ _ r=>r) (λc r=>?_) (λc xs r=>?_)
   .rw [aD (ne r (λ_ z=>by cases z))];exact r
   .rw [aD (ne r (λ_ z=>by cases z))];exact r
end
noncomputable def O8(d:Addr)(o:Obj)(kvs:List (Key×V)):kP:=
 (λi H=>H d\(.ei o (.bu kvs))/\i<↑kvs,λi H x I=>I=H/\∃k v,kvs[i]?\(p'p k v)/\x=d9 k,λi H=>H d\(.ei o (.bu kvs))/\↑kvs<=i)
def adz{w:World}{K:bq}{d it:Addr}(ex:o.ExactDict)(aU:o.data=.dict aW cJ)
  (aN:aW.size=↑kvs) (bE:∀(i:Nat) (e:DictEntry),aW[i]?\e->∃k v,kvs[i]?\(p'p k v)/\bX (d9 k) e.key):r5 P w K dG (O8 d o kvs) [it] it (λi h=>h.IsKeyIter it d i aW.size cJ)where
 mem:=by simp
 obj:=λi h st b aa=>by
  have e:b=it:=by simpa using aa
  subst e;let(o,e,c,d):=st;exact(o,e,λv z=>by rw[d]at z;cases z)
 keep:=λi h h' st k=>st.at λo e=>k it (by simp) o e
 item:=by
  intro X c1 hw gn aC i ae s σ H E J hf st a7;subst c1 hw gn;let(aL,ag):=a7;have r:vF s.heap d o aW cJ:=((J.bC d _ aL).1,ex,aU);let(f0,f1,f2,e6,f4,fw):=hf it (by simp);let(q,xM):∃q,aW[i]?\q:=(_,Array.getElem?_eq_getElem (show i<aW.size by omega));let(k,v,uC,I2):=bE i q xM;refine aqD st r xM λh' ni qC=>?_
  have aZ:Inv X ae σ H {s with heap:=h' }:=J.turned (t':=s.toks) (λb o aa e=>(qC.2 b aa).trans e) f0 f1 e6 f4 fw;let(q9,e,c,c3):=id ni;exact(_,rfl,A3 (s:={s with heap:=h' }) e c c3 ∅ (d9 k,H,aZ,I2,(rfl,k,v,uC,rfl),ni,λb aa=>(hf b aa).1))
 done:=by
  intro X c1 hw gn aC i ae s σ H E J hf st a7;subst c1 hw gn;let(aL,ag):=a7;have r:vF s.heap d o aW cJ:=((J.bC d _ aL).1,ex,aU);let(f0,f1,f2,e6,f4,fw):=hf it (by simp);exact acC (J.ok.hd aC) st r () λh' bD=>(rfl,J.turned (t':=s.toks) (λb o aa e=>bD b o aa e) f0 f1 e6 f4 fw)
 self:=λ_ _ _ _ _ st h=>wpAny_pyIter_keyiter st h
def ai9{w:World}{k:Key}(h:(iI P w).is k v=true):bX (d9 k) v:=by
 rcases qU (k:=k) (v:=v) h with⟨i,t,rfl,rfl⟩|⟨x,t,rfl,rfl⟩
 .exact (t,rfl)
 .exact (t,rfl)
theorem Vl{w:World}:∀{aW:List DictEntry} {vs:List (Key×Value)} {kvs:List (Key×V)},Pairs (iI P w) aW vs->fF kvs vs->↑aW=↑kvs/\∀(i:Nat) (e:DictEntry),aW[i]?\e->∃k v,kvs[i]?\(p'p k v)/\bX (d9 k) e.key
 |_,_,_,.nil,r=>by
  unfold fF at r;cases r;exact(rfl,λi e h=>by simp at h)
 | _,_,_,.cons aB _ t,r=>by
  unfold fF at r;cases r with
  | @cons p q ps qs h eU=>
   let(l,al):=Vl t (kvs:=ps) eU;refine(by rw[gW,gW,l],λi e he=>?_);cases i with
   |zero=>
    cases he;refine(p.1,p.2,rfl,ai9 (P:=P) (w:=w) ?_);rw[h.1];exact aB
   |succ i=>exact al i e he
section
variable{X:bg}{dG:Expr}
def Lz(dk:TE):TI:=λσ H R=>dk σ H λx H1=>∃d kvs,x=⇑d/\H1 d\(.bu kvs)/\∀o,R (O8 d o kvs) (upd H1 d (.ei o (.bu kvs)))
def F4(aN:bw X l dk):pZ X dG l (Lz dk):=by
 intro ae s σ H R J h;refine bK (aN ae s σ H _ J h) λv s1 cw=>et cw λx H1 aZ b3 bU=>?_
 let(d,kvs,e,kA,q):=bU;subst e;cases b3;let(_,hd,vs,rel,o,aW,cJ,g,ex,dat,_,pr,_):=Bo aZ.bC kA;let(aN,bE):=Vl pr rel;have b0:=anp aZ kA g;refine akB hd (g,ex,dat) ?_;refine(↥s1,[↥s1],_,_,_,rfl,b0.kept (t':=s1.toks) λb o e=>fk _ e,adz ex dat (by rw[<- aN];exact Hc.symm) (λi e h=>bE i e (by rw[<- X1]at h;exact h)),(_,hC _ rfl,rfl,rfl),λb aa=>?_,q o);have e:b=↥s1:=by simpa using aa
 subst e;exact b0.pK (bR _) (b0.bC.fresh (bR _))
def NF(t:TE):TE:=λσ H Q=>∃d kvs,H d\(.bu kvs)/\t σ H λv I=>∃o,I d\(.ei o (.bu kvs))/\Q v (upd I d (.bu kvs))
def ahJ{e:Expr}{t:TE}(h:bw X e t):bw X e (NF t):=by
 intro ae s σ H Q J q;let(d,kvs,kA,q):=q;refine bK (h ae s σ H _ J q) λv s1 ⟨x,H1,aZ,b3,o,au,bU⟩=>(x,_,V0 aZ au (λeF u z=>?_),b3,bU)
 have:=J.base.ot d eF u z;rw[kA]at this;cases this
end
structure nf(X:bg)(ae:List (Addr×Obj))(H:aw)(S:Addr):Prop where
 nn:H S=none
 nl:S≠X.env.locals
 ge:↥X.gE<=S
 tq:∀x c,X.env.cells.lookup x\c->c≠S
 np:∀p∈X.dZ++ae,p.1≠S
 iw:S∉X.a6
def nf.of(J:Inv X ae σ H s)(h:↥s<=S):nf X ae H S:=
 (J.bC.fresh h,λz=>absurd (ja J.lt h) (by rw[z];exact qq _),cZ J.qm h,λx c e z=>by
  let(v,o,aU,_):=J.cell x c e;exact absurd (ja (eD aU) h) (by rw[z];exact qq _),λp aq z=>by
  have aU:=(J.pin p aq).1;exact absurd (ja (eD aU) h) (by rw[z];exact qq _),J.MY h)
def nf.turn(o:nf X ae H S)(J:Inv X ae σ H s)(k:∀b o,b≠S->s.heap.get? b\o->h'.get? b\o):Inv X ae σ H {s with heap:=h',toks:=t' }:=
 J.turned k o.nn o.nl (.inr o.ge) o.tq o.np
section
variable{X:bg}{A:Around}{ae:List (Addr×Obj)}{σ:St}{H:aw}{l q J S:Addr}{n:Nat}{P:Nat->Value->Prop}{R:Result->Shared->Prop}
def CV(bH:Inv X ae σ H s)(ko:nf X ae H S)(j9:nf X ae H J)(afR:s.heap.get? S\YF)(ams:s.heap.get? J\ZI)(ad4:∀v,YF.data≠.cell v)(amg:∀v,ZI.data≠.cell v):Inv X ((p'p S YF)::(p'p J ZI)::ae) σ H s:=
 bH.uz λp aq=>by
  rcases d6.mp aq with rfl|aq
  .exact (afR,ko.nn,ko.nl,ko.iw,ad4)
  rcases d6.mp aq with rfl|aq
  .exact (ams,j9.nn,j9.nl,j9.iw,amg)
  exact bH.pin p (l1 _ aq)
def BM(bH:Inv X (Ho::K0::ae) σ H s):Inv X ae σ H s/\s.heap.get? Ho.1\Ho.2/\s.heap.get? K0.1\K0.2:=
 (bH.uz λp aq=>bH.pin p (l1 _ (.tail _ (.tail _ aq))),(bH.pin Ho (l1 _ (.head _))).1,(bH.pin K0 (l1 _ (.tail _ (.head _)))).1)
theorem afj(c5:Nat->Int)(ct:A.handled=none)(aN:∀s,Inv X ae σ H s->∃vs:List Value,↑vs=n/\(∀i v,vs[i]?\v->P i v)/\s.heap.IsList l vs.toArray)(px:l≠J)(mh:S≠J)(ko:nf X ae H S)(j9:nf X ae H J)
  (turn:∀(i:Nat) (v:Value),i<n->P i v->∀(ae:List (Addr×Obj)) (s:Shared),Inv X ae σ H s ->
   wpAny (model X.prog X.w) A.in1 (call ⇑q [v]) (gT X ae σ λx I=>x=.int (c5 i)/\I=H) (λ_ _=>False) s)
  (ho:∀i v aj,i<n->P i v->(∀j,j<n->c5 i<=c5 j/\(j<i->c5 i<c5 j))->Inv X ae σ H aj->R (.ok (.ret v)) aj) :
  ∀(r j i:Nat) (s:Shared) (n7:Value) (bS:Tok) (c:Nat),n-(j+1)=r->j+1<=n->Inv X ae σ H s ->
   s.heap.get? S\(seqObj "list" #[n7,.int (c5 i) bS] c)->s.heap.IsListIter J l (j+1)->P i n7->i<=j->(∀eZ,eZ<=j->c5 i<=c5 eZ/\(eZ<i->c5 i<c5 eZ)) ->
   codeAny (model X.prog X.w) A (.builtin "min.loop" ([⇑J,⇑q,⇑S],[])) R s:=by
 have pk:(toString "min"++toString ".loop":String)="min.loop":=by decide
 intro r
 induction r with
 |zero=>
  intro j i s n7 bS c ao aI bH dY hit wg lI nG;let(vs,r_,r6,pW):=aN s bH;have W:=v3 (prog:=X.prog) (w:=X.w) (A:=A.in1) ct J l px vs.toArray;have hsz:vs.toArray.size=↑vs:=e2 ..;have hy:j+1=↑vs:=()
  refine codeAny_builtin aaf ?_;rw[zP xP _];show wpAny _ A.in1 (seqItems? ⇑S >>= _) _ _ _;refine wpAny_bind (wpAny_seqItems dY rfl ?_);show wpAny _ A.in1 (tryCatch (pyNext ⇑J) _ >>= _) _ _ _;refine wpAny_bind (wpAny_tryCatch (W.done _ _ _ (by rw[hsz,<- hy];exact hit,pW) λh' p7 fa=>?_));have mY:Inv X ae σ H {s with heap:=h',toks:=p7}:=j9.turn bH λb o n e=>fa b o (by simpa using n) e
  have qt:=fa S _ (by simpa using mh) dY;show wpAny _ A.in1 (updateSeq S (λ_=>#[]) >>= _) _ _ _;refine wpAny_bind ?_;refine wpAny_updateSeq qt rfl (wpAny_bind (wpAny_letGo (wpAny_pure ?_)));exact ho i n7 _ () wg (λeZ il=>nG eZ ()) (ko.turn mY λb o n e=>(qr _ _ (dm n)).trans e)
 | succ r c4=>
  intro j i s n7 bS c ao aI bH dY hit wg lI nG;let(vs,r_,r6,pW):=aN s bH;have W:=v3 (prog:=X.prog) (w:=X.w) (A:=A.in1) ct J l px vs.toArray;have hsz:vs.toArray.size=↑vs:=e2 ..;have dU:j+1<n:=()
  refine codeAny_builtin aaf ?_;rw[zP xP _];show wpAny _ A.in1 (seqItems? ⇑S >>= _) _ _ _;refine wpAny_bind (wpAny_seqItems dY rfl ?_);show wpAny _ A.in1 (tryCatch (pyNext ⇑J) _ >>= _) _ _ _;refine wpAny_bind (wpAny_tryCatch (W.item (j+1) _ _ _ (by rw[hsz,r_];exact dU) (hit,pW) λv h' p7 c1 uX fa=>?_));have aK:P (j+1) v:=r6 _ _ (by simpa using c1);let(su,uZ,oz,n3):=id uX.1;have mY:Inv X ae σ H {s with heap:=h',toks:=p7}:=j9.turn bH λb o n e=>fa b o (by simpa using n) e
  have qt:=fa S _ (by simpa using mh) dY;have sv:=CV mY ko j9 qt uZ (λ_ z=>by cases z) (λ_ z=>by rw[n3]at z;cases z);show wpAny _ A.in1 (tryCatch (holding [v] (call ⇑q [v])) _ >>= _) _ _ _;refine wpAny_bind (wpAny_tryCatch (wpAny_holding (wpAny_mono (turn (j+1) v dU aK _ _ sv) (λx s2 he=>?_) λ_ _ rO=>rO.elim)));let(eR,I,pX,bk,rfl,rfl):=he;let(ew,rfl):=bk;let(pT,nM,sl):=BM pX;have Od:s2.heap.IsListIter J l (j+1+1):=(su,sl,oz,n3);show wpAny _ A.in1 (tryCatch (holding [v,.int (c5 (j+1)) ew] (richCompare .Lt (.int (c5 (j+1)) ew) (.int (c5 i) bS) >>= _)) _ >>= _) _ _ _;refine wpAny_bind (wpAny_tryCatch (wpAny_holding (wpAny_bind (CmpOf.ints_lt (prog:=X.prog) (w:=X.w) (A:=A.in1) (P:=λi v=>∃t,v=.int (c5 i) t) c5 (λi v h=>h) (j+1) i _ _ _ _ _ (ew,rfl) (bS,rfl) ?_))));refine wpAny_bind (wpAny_holding (wpAny_truthy_bool ?_));refine wpAny_bind (wpAny_letGo (wpAny_pure ?_));by_cases ep:c5 (j+1)<c5 i
  .obtain⟨bY,r1⟩:∃bY,(s2.heap.update S (oT fun _=>#[v,.int (c5 (j+1)) ew])).get? S=some (seqObj "list" #[v,.int (c5 (j+1)) ew] bY):=⟨_,get?_update_seq nM fun _=>#[v,.int (c5 (j+1)) ew]⟩;simp only[ep,decide_true,if_true];refine wpAny_bind ?_;refine wpAny_updateSeq nM rfl (wpAny_bind (wpAny_letGo ?_));rw[pk];have qS:=ko.turn (t':=s2.toks) pT (h':=s2.heap.update S (oT fun _=>#[v,.int (c5 (j+1)) ew])) fun b o n e=>(qr _ _ (dm n)).trans e
   refine wpAny_pure (plainId_quiet xP _,c4 (j+1) (j+1) _ v ew bY () dU qS r1 (su,(qr _ _ mh).trans sl,oz,n3) aK (bR _) λeZ il=>?_);by_cases e:eZ=j+1
   .subst e;exact((),λ_=>())
   .have t7:=nG eZ ();have kY:=t7.1;exact((),λ_=>())
  .simp only[ep,decide_false,EJ,if_false];refine wpAny_bind (wpAny_letGo ?_);rw[pk];refine wpAny_pure (plainId_quiet xP _,c4 (j+1) i _ n7 bS c () dU pT nM Od wg () λeZ il=>?_);by_cases e:eZ=j+1
   .subst e;exact((),λ_=>())
   .exact nG eZ ()
def ao_(c5:Nat->Int)(ct:A.handled=none)(bH:Inv X ae σ H s)(aN:∀ae s,Inv X ae σ H s->∃vs:List Value,↑vs=n/\(∀i v,vs[i]?\v->P i v)/\s.heap.IsList l vs.toArray)(cA:0<n)
  (turn:∀(i:Nat) (v:Value),i<n->P i v->∀(ae:List (Addr×Obj)) (s:Shared),Inv X ae σ H s ->
   wpAny (model X.prog X.w) A.in1 (call ⇑q [v]) (gT X ae σ λx I=>x=.int (c5 i)/\I=H) (λ_ _=>False) s)
  (aX:∀i v aj,i<n->P i v->(∀j,j<n->c5 i<=c5 j/\(j<i->c5 i<c5 j))->Inv X ae σ H aj->Q v aj) :
  wpAny (model X.prog X.w) A (call (.builtin "min") [⇑l] [(p'p (ab "key") (⇑q))]) Q E s:=by
 have pk:(toString "min"++toString ".loop":String)="min.loop":=by decide
 let(Z',_,_,kS):=aN _ s bH;let(ol,Mh,_):=id kS;have qo:l<↥s:=eD Mh;refine kmk_tree PySem.F.kind_min PySem.F.plain_min PySem.F.entry_min (kmk_min_key _ _) ?_;show wpAny _ A.in1 (JO "min" ["key","default"] 0 ([],[(p'p (ab "key") (⇑q))]) >>= _) _ _ s;refine wpAny_bind (wpAny_of_eq (show JO "min" ["key","default"] 0 ([],[(p'p (ab "key") (⇑q))])=pure [some ⇑q,none]from rfl) ?_);refine wpAny_bind (wpAny_pure ?_);refine wpAny_bind (wpAny_pyIter_list kS ?_);refine wpAny_bind (wpAny_newList ?_ (eO _));rw[pk];have dY:(s.heap.push {cls:=.type "list_iterator",data:=.fields #[⇑l,.int 0 0]}).objs.size=↥s+1:=size_push' ..;have px:l≠↥s:=gN qo;have mh:(s.heap.push {cls:=.type "list_iterator",data:=.fields #[⇑l,.int 0 0]}).objs.size≠↥s:=by rw[dY];exact EL (wW _)
 refine wpAny_pure (plainId_quiet xP _,?_);have j9:nf X ae H ↥s:=.of bH (bR _);have ko:nf X ae H (s.heap.push {cls:=.type "list_iterator",data:=.fields #[⇑l,.int 0 0]}).objs.size:=.of bH (by rw[dY];exact y1 _);have Jx:((s.heap.push {cls:=.type "list_iterator",data:=.fields #[⇑l,.int 0 0]}).push (seqObj "list" #[] 0)).get? ↥s=some {cls:=.type "list_iterator",data:=.fields #[⇑l,.int 0 0]}:=
  fk _ (hC _ rfl)
 have yU:((s.heap.push {cls:=.type "list_iterator",data:=.fields #[⇑l,.int 0 0]}).push (seqObj "list" #[] 0)).get? (s.heap.push {cls:=.type "list_iterator",data:=.fields #[⇑l,.int 0 0]}).objs.size\(seqObj "list" #[] 0):=hC _ rfl;have yG:Inv X ae σ H {s with heap:=(s.heap.push {cls:=.type "list_iterator",data:=.fields #[⇑l,.int 0 0]}).push (seqObj "list" #[] 0)}:=bH.kept (t':=s.toks) λb o e=>fk _ (fk _ e)
 let(vs,r_,r6,pW):=aN _ _ yG;have W:=v3 (prog:=X.prog) (w:=X.w) (A:=A.in1) ct ↥s l px vs.toArray;have hsz:vs.toArray.size=↑vs:=e2 ..;refine codeAny_builtin aaf ?_;rw[zP xP _];show wpAny _ A.in1 (seqItems? ⇑_ >>= _) _ _ _;refine wpAny_bind (wpAny_seqItems yU rfl ?_);show wpAny _ A.in1 (tryCatch (pyNext (.ref ↥s)) _ >>= _) _ _ _;refine wpAny_bind (wpAny_tryCatch (W.item 0 _ _ _ (by rw[hsz,r_];exact cA) ((_,Jx,rfl,rfl),pW) λv h' p7 c1 uX fa=>?_));have aK:P 0 v:=r6 _ _ (by simpa using c1);let(su,uZ,oz,n3):=id uX.1;have mY:=j9.turn (h':=h') (t':=p7) yG λb o n e=>fa b o (by simpa using n) e
 have qt:=fa _ _ (by simpa using mh) yU;have sv:=CV mY ko j9 qt uZ (λ_ z=>by cases z) (λ_ z=>by rw[n3]at z;cases z);show wpAny _ A.in1 (tryCatch (holding [v] (call ⇑q [v])) _ >>= _) _ _ _;refine wpAny_bind (wpAny_tryCatch (wpAny_holding (wpAny_mono (turn 0 v cA aK _ _ sv) (λx s2 he=>?_) λ_ _ rO=>rO.elim)));let(eR,I,pX,bk,rfl,rfl):=he;let(ew,rfl):=bk;let(pT,nM,sl):=BM pX;let(bY,r1):∃bY,(s2.heap.update (s.heap.push {cls:=.type "list_iterator",data:=.fields #[⇑l,.int 0 0]}).objs.size (oT λ_=>#[v,.int (c5 0) ew])).get? (s.heap.push {cls:=.type "list_iterator",data:=.fields #[⇑l,.int 0 0]}).objs.size=some (seqObj "list" #[v,.int (c5 0) ew] bY):=(_,get?_update_seq nM λ_=>#[v,.int (c5 0) ew]);show wpAny _ A.in1 (updateSeq (s.heap.push {cls:=.type "list_iterator",data:=.fields #[⇑l,.int 0 0]}).objs.size (λ_=>#[v,.int (c5 0) ew]) >>= _) _ _ _;refine wpAny_bind ?_;refine wpAny_updateSeq nM rfl ?_;rw[pk];have qS:=ko.turn (t':=s2.toks) pT (h':=s2.heap.update (s.heap.push {cls:=.type "list_iterator",data:=.fields #[⇑l,.int 0 0]}).objs.size (oT λ_=>#[v,.int (c5 0) ew])) λb o n e=>(qr _ _ (dm n)).trans e
 refine wpAny_pure (plainId_quiet xP _,afj c5 ct (λs bH=>aN _ s bH) px mh ko j9 turn aX _ 0 0 _ v ew bY rfl cA qS r1 (su,(qr _ _ mh).trans sl,oz,n3) aK (bR _) λeZ il=>?_);have e:eZ=0:=()
 subst e;exact((),λh=>absurd h (qq _))
end
structure xI(p y z:Str)(sc:Scope):Prop where
 kind:sc.kind=.function
 co:sc.isCoroutine=false
 gen:sc.isGenerator=false
 ne:y≠z
 par:sc.names.lookup p\.local
 TF:sc.names.lookup y\.free
 Nm:sc.names.lookup z\.free
 xf:∀z∈sc.names,z.2≠.cell
 two:∀b∈sc.names,b.2=.free->b.1=y\/b.1=z
noncomputable def qA(X:bg)(A:Around)(N:List Str)(q:Str)(scope:Scope)(f c':Addr)(cl:List (Str×Addr))(s:Shared)(H:aw):bg where
 prog:=X.prog
 w:=X.w
 K:=X.K
 mg:=X.mg
 base:=X.base
 A:=A.deeper (L8 q scope ↥s f ⇑c' cl)
 N:=N
 gE:=s
 tO:=H
 env:=L8 q scope ↥s f ⇑c' cl
 outer:=X.stack
 stack:=L8 q scope ↥s f ⇑c' cl::X.stack
 ex:=[]
 fn:=λ_=>false
 calm:=true
 dZ:=[]
 d_:=λ_ _=>False
section
variable{X:bg}{A:Around}{ae:List (Addr×Obj)}{σ:St}{H:aw}{s:Shared}{k:Nat}{f c' bc bY:Addr}{q p y z:Str}{params:Arguments}{body:Expr}{scope:Scope}{v1 v2:V}{t:TE}
theorem E1{x:Str}(e:([(p'p y bc),(p'p z bY)]:List (Str×Addr)).lookup x\c):(x=y/\c=bc)\/(x=z/\c=bY):=by
 rw[l5]at e;cases aa:x==y with
 |true=>rw[aa]at e;cases e;exact .inl (eq_of_beq aa,rfl)
 |false=>
  rw[aa]at e;simp only[l5]at e;cases kY:x==z with
  |true=>rw[kY]at e;cases e;exact .inr (eq_of_beq kY,rfl)
  |false=>rw[kY]at e;cases e
theorem aqp(S:xI p y z scope)(ao:bn k A)(ll:A.frames\X.stack)(J:Inv X ae σ H s)(ne:bc≠bY)(cK:H bc=none)(cC:H bY=none)
  (cx:∃u,bX v1 u/\s.heap.IsCell bc (some u)) (cQ:∃u,bX v2 u/\s.heap.IsCell bY (some u)) (Am:bX a u)
  (qu:af.Ns ↥s (λx=>[(p'p p u)].reverse.lookup x)) (aB:∀b o,s.heap.get? b\o->af.get? b\o) :
  Inv (qA X A [p,y,z] q scope f c' [(p'p y bc),(p'p z bY)] s H) [] [some a,some v1,some v2] H {s with heap:=af,toks:=tk}:=by
 let(QR,b3,gR,z5,Bn):=cx;let(aay,fV,q9,RX,V7):=cQ;have Up:([(p'p y bc),(p'p z bY)]:List (Str×Addr)).lookup y\bc:=by rw[l5,beq_self_eq_true]
 have XP:([(p'p y bc),(p'p z bY)]:List (Str×Addr)).lookup z\bY:=by
  rw[l5,show(z==y)=false from by simpa using dm S.ne];simp only[l5,beq_self_eq_true]
 have vb:∀b:Addr,b∉(qA X A [p,y,z] q scope f c' [(p'p y bc),(p'p z bY)] s H).ex:=λb z=>absurd (show b∈([]:List Addr)from z) (by simp)
 refine((J.ok.mod,S.kind,rfl,rfl,bR _,λx w c au aE=>?_,λx ag=>?_,λx c hf e=>?_,λ_=>ao.hd,acq ll,.inr (rfl,rfl),λb z=>absurd z (vb b),J.bs,cZ J.ok.oC J.qm,λb _ _=>vb b,λb z=>absurd z (vb b),J.stack,J.O1),
  rfl,J.bare,h8.kept aB,(_,qu,λi x NJ au aE bI=>?_),λx c e=>?_,J.bC.fresh (bR _),λx c e=>?_,λz aO=>absurd (show z∈([]:List (Addr×Obj))from aO) (by simp),J.bC.kept aB,rfl)
 .rcases E1 au with⟨rfl,rfl⟩|⟨rfl,rfl⟩ <;> rcases E1 aE with⟨rfl,h⟩|⟨rfl,h⟩
  .rfl
  .exact absurd h ne
  .exact absurd h.symm ne
  .rfl
 .have ag:scope.names.lookup x\.cell\/scope.names.lookup x\.free:=ag;rcases ag with ag|ag
  .exact absurd rfl (S.xf _ (wD ag))
  .rcases S.two _ (wD ag) rfl with h|h
   .have h:x=y:=h;exact(bc,by rw[h];exact Up)
   .have h:x=z:=h;exact(bY,by rw[h];exact XP)
 .cases hf
 .match i,au,aE with
  |0,au,aE=>
   cases au;cases aE;exact(u,Am,.inl (S.par,by show rZ p [(p'p p u)]\u;rw[l5,beq_self_eq_true]))
  |1,au,aE=>
   cases au;cases aE;exact(QR,b3,.inr (.inr S.TF,bc,Up,(gR,aB _ _ z5,Bn)))
  |2,au,aE=>
   cases au;cases aE;exact(aay,fV,.inr (.inr S.Nm,bY,XP,(q9,aB _ _ RX,V7)))
  |i+3,au,_=>simp[qA]at au
 .rcases E1 e with⟨_,rfl⟩|⟨_,rfl⟩
  .exact (_,gR,aB _ _ z5,Bn)
  .exact (_,q9,aB _ _ RX,V7)
 .rcases E1 e with⟨_,rfl⟩|⟨_,rfl⟩
  .exact cK
  .exact cC
theorem TX(S:xI p y z scope)(ao:bn k A)(ll:A.frames\X.stack)(J:Inv X ae σ H s)(ne:bc≠bY)(cK:H bc=none)(cC:H bY=none)
  (cx:∃u,bX v1 u/\s.heap.IsCell bc (some u)) (cQ:∃u,bX v2 u/\s.heap.IsCell bY (some u))
  (rY:H f\(.ext (nN f q params body scope [(y,bc),(z,bY)] c'))) (g7:H c'\(.ext (ow c' q)))
  (aa:∀pm jM,bindArgs (VZ "<lambda>" q params body scope [(p'p y bc),(p'p z bY)] pm ⇑c' jM) ([u],[])=pure [(p'p p u)]) (Am:bX a u)
  (pb:bw (qA X A [p,y,z] q scope f c' [(p'p y bc),(p'p z bY)] s H) body t) (h:t [some a,some v1,some v2] H Q) :
  wpAny (model X.prog X.w) A (call ⇑f [u]) (gT X ae σ Q) E s:=by
 have inner:codeAny (model X.prog X.w) A (.call ⇑f ([u],[])) (DG dt X.stack X.prog X.w H s Q Ko) s:=by
  let((pm,jM,aU),_):=J.bC _ _ rY;refine PySem.W.kla_callFunE ao.depth aU rfl S.co S.gen rfl (J.bC _ _ g7).1 ?_;rw[aa];refine wpAny_pure (wpAny_newFunctionEnv S.xf (λz aO=>by rw[eB.mp aO];exact S.par) (λaf qu yg=>(J.nolimit.fresh _ yg,?_)) S.kind);have aB:∀b o,s.heap.get? b\o->af.get? b\o:=λb o e=>yg.extBut b o (gN (eD e)) (fk _ e)
  show codeAny _ _ (.expr body (L8 q scope ↥s f ⇑c' [(p'p y bc),(p'p z bY)])) _ _;have bH:=aqp (f:=f) (c':=c') (q:=q) (tk:=s.toks+↑[(p'p p u)]) S ao ll J ne cK cC cx cQ Am qu aB;refine PySem.W.kla_codeExpr (wpAny_mono (pb [] _ _ _ _ bH h) (λFO aj aL=>?_) λ_ _ z=>lE z);let(x,I,Cx,bk,dB):=aL;exact(x,I,Cx.os,Cx.bare,Cx.base,Cx.bC,bk,dB)
 refine wpAny_call (codeAny_mono inner λr aj aL=>?_);cases r with
 |error e=>exact aL.elim
 |ok fv=>
  cases fv with
  |ret u=>exact J.after aL
  |next=>exact lE aL
  |brk=>exact lE aL
  |cont=>exact lE aL
end
def ay.p{K:bq}(s:lH bL H I)(t:Tab H bL pos q)(h:ay K H a xs):ay K I a xs:=by
 rcases h with(h|⟨o,h⟩)|h
 .exact .inl (.inl (s _ _ (t.ne h (λ_ z=>by cases z)) h))
 .exact .inl (.inr (o,s _ _ (t.ne h (λ_ z=>by cases z)) h))
 .exact .inr h
def Q_(K:bq)(bL:Addr)(m4:Pos)(q:Str)(i1 i2:Nat)(t:TE)(ba:fO):TE:=λσ H Q=>ba σ H λvs H1=>∃l bE v1 v2,∃g:Int->Int,vs=[⇑l]/\ay K H1 l (oh V.int bE)/\bE≠[] /\
 σ[i1]?\(some v1)/\σ[i2]?\(some v2)/\Tab H1 bL m4 q/\∀ar,lH bL H1 ar->(aF H1->aF ar)->Tab ar bL m4 q ->
  (∀n∈bE,t [some (.int n),some v1,some v2] ar λx I=>x=.int (g n)/\I=ar)/\∀(i:Nat) m,bE[i]?\m->(∀(j:Nat) n,bE[j]?\n->g m<=g n/\(j<i->g m<g n))->Q (.int m) ar
theorem ahs{k:Nat}{t:TE}{p bp pos m4:Pos}
  (aC:X.calm=true) (a7:l6 X "min") (hm:X.mg "min"=none) (aV:g6 X [a] ba) (T:IU X c bL) (ao:bn (k+1) X.A) (S:xI pr y z scope) (af:X.env.cells.lookup y\bc) (ak:X.env.cells.lookup z\bY) (Ao:defaultsOf params X.env=(p'p [] [])) (n6:closureFor scope X.env=pure [(p'p y bc),(p'p z bY)])
  (cn:X.env.scope.names.lookup y\.cell) (dz:X.env.scope.names.lookup z\.cell) (J3:X.N[i1]?\y) (JZ:X.N[i2]?\z)
  (aa:∀c' pm jM u,bindArgs (VZ "<lambda>" (X.env.qual++"<lambda>") params body scope [(p'p y bc),(p'p z bY)] pm ⇑c' jM) ([u],[])=pure [(p'p pr u)])
  (pb:∀f c' s H,∃t',bw (qA X X.A.in1 [pr,y,z] (X.env.qual++"<lambda>") scope f c' [(p'p y bc),(p'p z bY)] s H) body t'/\t'=t)
  (he:autoParam (∀pos,backTo pos (starEach [a] X.env)=(p'p false (eval a X.env))::backTo pos (starEach [] X.env)) A'i) (cV:autoParam (∀pos,(backTo pos (starEach [a] X.env)).any (·.1)=false) A'i) :
  bw X (.Call (.Name "min" p) [a] [(some "key",.Lambda params body scope m4,bp)] pos) (Q_ X.K bL m4 (X.env.qual++"<lambda>") i1 i2 t ba):=by
 intro ae s σ H Q J h;refine wpAny_Call_Name_kw (sM J a7 hm ((∅:bootBuiltins "min"\(.builtin "min"))) ?_);refine callWith_kw (id:="min") (bK (aV pos ae s σ H _ J h) λus s1 c7=>?_) (he:=he pos) (hplain:=cV pos);let(vs,H1,aZ,b3,bU):=c7;let(l,bE,v1,v2,g,rfl,aL,cA,au,aE,bS,q):=bU;refine kws_cons (Rn aZ T bS n6 Ao λf c' ar s2 b0 bb bz nQ rY g7 iw=>kws_nil ?_);let(lK,N9):=q ar bb bz nQ;have xM:=aL.p bb bS;have cell:∀{ae:List (Addr×Obj)} {s:Shared} (bH:Inv X ae σ ar s) {i:Nat} {x:Str} {v:V} {cl:Addr},X.N[i]?\x->σ[i]?\(some v)->X.env.scope.names.lookup x\.cell->X.env.cells.lookup x\cl->∃u,bX v u/\s.heap.IsCell cl (some u):=by
  intro ae s bH i x v cl bo ev ag rG;let(m,a5,O_):=bH.loc;let(u,e1,lo):=O_ i x v bo ev (.inr (.inl ag));have aB:X.env.kindOf x\.cell:=ag;rcases lo with⟨w,_⟩|⟨_,ae0,dP,ej⟩
  .rw [aB]at w;cases w
  .rw [rG]at dP;cases dP;exact(u,e1,ej)
 have Io:bc≠bY:=λw=>S.ne (J.ok.inj _ _ _ af (by rw[w];exact ak))
 cases b3 with
 | cons r k_=>
  cases k_;cases r;have u7:0<↑bE:=w0.mpr cA;refine ao_ (n:=↑bE) (P:=λi v=>∃t,v=.int (bE.getD i 0) t) (λi=>g (bE.getD i 0)) (aZ.ok.hd aC) b0 (λae s bH=>?_) u7 (λi v ai aK ae s bH=>?_) λi v aj ai aK nG bH=>?_
  .obtain⟨a3,cM,pl,aO⟩:=bH.list xM;have aN:=↑cM;rw[aT]at aN;refine⟨a3,aN.symm,fun i v aK=>?_,pl.isList⟩;have ai:i<↑bE:=by have:=(b5.mp aK).1;omega
   let(w,hw,f6):=cM.get (show(bE.map V.int)[i]?\(.int bE[i])by rw[dv,bj ai];rfl);rw[aK]at hw;cases hw;rw[ku,bj ai];exact f6
  .obtain⟨t',t7,rfl⟩:=pb f c' s ar;have hm:bE.getD i 0∈bE:=by rw[ku,bj ai];exact ic ai
   exact TX (a:=.int (bE.getD i 0)) S ao.in1 aZ.ok.frames bH Io (bH.kG _ _ af) (bH.kG _ _ ak) (cell bH J3 au cn af) (cell bH JZ aE dz ak) rY g7 (λpm jM=>aa c' pm jM v) aK t7 (lK _ hm)
  .obtain⟨tk,rfl⟩:=aK;refine⟨.int (bE.getD i 0),ar,bH,⟨tk,rfl⟩,N9 i _ (by rw[ku,bj ai];rfl) fun j n aI=>?_⟩;have hi:j<↑bE:=(b5.mp aI).1;have e:bE.getD j 0=n:=by rw[ku,aI];rfl
   have:=nG j hi;rw[e]at this;exact this
def b9.US{w:World}{K:bq}{mg:Str->Option Value}{base:Heap}{x qual:Str}{st:Stmt}{fd:FuncData}{N ps:List Str}{k:Nat}(F:b9 K x qual st f fd)(S:Db N ps (bx st))(len:∀vs H Q E,sp vs H Q E->↑vs=↑ps)
  (pb:∀(f5:Value),fd.code=f5->∀(A:Around) (outer:List Env) (s:Shared) (H:aw) (vs:List V) (Q:c6) (E:f7),bn k (A.deeper (envOfC qual (bx st) ↥s f f5))->sp vs H Q E ->
   ∃t,iS (sZ dt P w K mg base N qual (bx st) f f5 A outer s H E).u_ (tr st) t/\t {cP:=λ_ I=>Q .cF I,m':=Q} (start N vs) H):cT P w K mg base dt (k+1) f fd ps sp:=by
 let(pN,fN,d9,doc,pm,an,f5,gf,uE,rfl,lk,kq):=F.ex;refine Ql lk kq S len λA outer s H vs Q E ao jk=>?_
 let(t,h,q):=pb f5 rfl A outer s H vs Q E ao jk;exact(t,h.u_,q)
def HT(_:Addr):Prop:=True
noncomputable abbrev J6{P:Addr}(_:HT P):Addr:=P
noncomputable def Vn(st:Stmt):Expr:=match (tr st).getLast? with
 |some (.Return (some (.Call _ _ [⟨_,e,_⟩] _)) _)=>e
 |_=>.Constant .none 0 (0,0,0,0)
def GM(t:eI):eI:=λD σ H=>∃d kvs,H d\(.bu kvs)/\t {cP:=λav I=>∃o,I d\(.ei o (.bu kvs))/\D.cP av (upd I d (.bu kvs)),m':=λ_ _=>False} σ H
theorem MV{st:Stmt}{t:eI}(h:gO X st t):gO X st (GM t):=by
 intro ae s σ H D J q;let(d,kvs,kA,q):=q;refine bK (h ae s σ H _ J q) λf s1 aL=>?_
 cases f with
 |next=>
  let(fo,H1,aZ,o,au,bU):=aL;refine(fo,_,V0 aZ au (λeF u z=>?_),bU);have:=J.base.ot d eF u z;rw[kA]at this;cases this
 |ret u=>let(_,_,_,_,_,z):=aL;exact z.elim
 |brk=>let(_,_,_,z):=aL;exact z.elim
 |cont=>let(_,_,_,z):=aL;exact z.elim
section
open PySem.Spec PyProof.Rows
variable{prog:Program}{w:World}{A:Around}{E:Value->Shared->Prop}{s:Shared}
end
def dx(t u:eI)(D:iK)(σ:St)(H:aw):Pf t u D σ H=(t {D with cP:=u D} σ H):=rfl
def Si(K:bq):Rd K ba ff f D σ H=(ff σ H λy H1=>ba σ H1 λx ar=>fQ x λa=>∃C ax a6,ar a\(.ins C ax a6)/\h3 K C/\dD K C f/\↑a6<1000 /\
 D.cP σ (upd ar a (.ins C ax (dg f y a6)))):=rfl
def YY(K:bq)(h2:V->V->aw->c6->Prop):Z1 K ba ff h2 f D σ H=(ba σ H λx H1=>∃a C ax a6 v,x=⇑a/\H1 a\(.ins C ax a6)/\h3 K C/\dD K C f/\a6.lookup f\v /\
 ff σ H1 λy ar=>h2 v y ar λz a'=>∃ie q0,a' a\(.ins C ie q0)/\↑q0<1000/\D.cP σ (upd a' a (.ins C ie (dg f z q0)))):=rfl
def T4(t:fO):Ou C m sp dvs E ba t σ H Q=(ba σ H λx H1=>fQ x λa=>∃ax a6,H1 a\(.ins C ax a6)/\a6.lookup m=none /\
 t σ H1 λvs ar=>sp (x::(vs++dvs)) ar Q E):=rfl
def Z2(t:fO):VB C sp dvs E t σ H Q=(t σ H λvs H1=>∀x ax,H1 x=none->H1 ax=none->ax≠x ->
 sp (⇑x::(vs++dvs)) (upd (upd H1 ax (.own x)) x (.ins C ax [])) (λv ar=>v=.cF/\Q ⇑x ar) E):=rfl
def Us(K:bq)(x:V)(lo:Option Int)(ai:Option Int)(H:aw)(Q:c6):SI K x lo ai H Q=(∃a xs,x=⇑a/\d4 K H a xs /\
 ¬(e'.dn ↑xs 0 lo=0/\e'.dn ↑xs ↑xs ai=↑xs)/\∀p,H p=none->Q ⇑p (upd H p (.tup (jC xs lo ai)))):=rfl
def Wa(e3 ty ff:TE)(h2:V->V->aw->c6->Prop):Ut e3 ty ff h2 D σ H=(e3 σ H λx H1=>ty σ H1 λy ar=>∃a v,x=⇑a/\gw ar a y (some v) /\
 ff σ ar λiY a'=>h2 v iY a' λz cb=>∃bP,jh cb a y z bP/\D.cP σ bP):=rfl
def Wr(e3 ty pH:TE):VP e3 ty pH σ H Q=(e3 σ H λx H1=>∃a,x=⇑a/\B3 H1 a/\ty σ H1 λy ar=>pH σ ar λz a'=>∃kvs k,a' a\(.bu kvs)/\y=d9 k /\
 (∀v,df kvs k\v->Q v (upd a' a (.bu (tR kvs k))))/\(df kvs k=none->Q z a')):=rfl
def WI(t:fO):OS oK m oG E ba t σ H Q=(ba σ H λx H1=>∃a C ax a6,x=⇑a/\H1 a\(.ins C ax a6)/\oK C/\a6.lookup m=none /\
 t σ H1 λvs ar=>oG C (x::vs) ar Q E):=rfl
def Vt(K:bq)(t:TE):Q_ K bL m4 q i1 i2 t ba σ H Q=(ba σ H λvs H1=>∃l bE v1 v2,∃g:Int->Int,vs=[⇑l]/\ay K H1 l (oh V.int bE)/\bE≠[] /\
 σ[i1]?\(some v1)/\σ[i2]?\(some v2)/\Tab H1 bL m4 q/\∀ar,lH bL H1 ar->(aF H1->aF ar)->Tab ar bL m4 q ->
  (∀n∈bE,t [some (.int n),some v1,some v2] ar λx I=>x=.int (g n)/\I=ar)/\∀(i:Nat) m,bE[i]?\m->(∀(j:Nat) n,bE[j]?\n->g m<=g n/\(j<i->g m<g n))->Q (.int m) ar):=rfl
def d1(bH:kP)(g:g9)(bS:eI)(D:iK)(σ:St)(H:aw):Prop:=∃W:Nat->Nat->St->aw->Prop,(∃m,W 0 m σ H)/\∀i m σ H,W i m σ H ->
 (bH.stop i H/\D.cP σ H)\/(bH.go i H/\∃N:St->aw->Prop,(∀av I,N av I->∃dI,dI<m/\W (i+1) dI av I)/\∀x I,bH.sC i H x I->g x σ I λcv ar=>bS {D with cP:=N,gf:=N,c_:=D.cP} cv ar)
def ZW:Ys ix g bS D σ H=ix σ H λbH H1=>d1 bH g bS D σ H1:=rfl
def dh(bH:kP)(g:g9)(dJ:TT)(b2:TE)(dM:St)(Q:c6)(H:aw):Prop:=∃W:Nat->Nat->List V->aw->Prop,(∃m,W 0 m [] H)/\wa bH g dJ b2 dM Q W
def WJ:Of ix g dJ b2 sel σ H Q=ix σ H λbH H1=>dh bH g dJ b2 (oy sel σ) Q H1:=rfl
def Ya:ZQ ba σ H R=(ba σ H λvs H1=>ov vs λx=>hh x λj=>-4611686018427387904<=j/\j<4611686018427387904/\R (mH 0 j.toNat) H1):=rfl
def Vv:S1 ba σ H R=(ba σ H λvs H1=>∃i j:Int,vs=[.int i,.int j]/\(-4611686018427387904<=i/\i<4611686018427387904/\-4611686018427387904<=j/\j<4611686018427387904)/\R (mH i (j-i).toNat) H1):=rfl
def agT(f:α->β):[].map f=[]:=rfl
def anU(f:α->β)(a:α)(l:List α):(a::l).map f=f a::l.map f:=rfl
def aim(l:List α):[]++l=l:=rfl
def akC(a:α)(l r:List α):(a::l)++r=a::(l++r):=rfl
def ahV(a b:α)(l:List α):(a::l).set 0 b=b::l:=rfl
def al8(a b:α)(l:List α)(n:Nat):(a::l).set (n+1) b=a::l.set n b:=rfl
def acP(a:α)(l:List α):(a::l)[0]?\a:=rfl
def alo(a:α)(l:List α)(n:Nat):(a::l)[n+1]? = l[n]?:=rfl
def aiO:↑([]:List α)=0:=rfl
def aif(a:α)(l:List α):↑(a::l)=↑l+1:=rfl
def ar8(f:α->Option β):(none:Option α).bind f=none:=rfl
def ai8(f:α->Option β)(a:α):(some a).bind f=f a:=rfl
def alK(a:Option α):(some a).join=a:=rfl
def ajf:(none:Option (Option α)).join=none:=rfl
def TC(sel:List (Option Nat))(σ:St):oy sel σ=sel.map λo=>o.bind λj=>(σ[j]?).join:=rfl
theorem dC{t u:eI}(b:Bool)(aC:∀Q:Bool->aw->Prop,Q b H->c σ H Q)(af:b=true->t D σ H)(ak:b=false->u D σ H):Iq c t u D σ H:=by
 refine aC _ ?_;cases b with
 |true=>exact af rfl
 |false=>exact ak rfl
theorem SB{t u:eI}(R:Bool->aw->Prop)(aC:∀Q:Bool->aw->Prop,(∀b I,R b I->Q b I)->c σ H Q)(af:∀I,R true I->t D σ I)(ak:∀I,R false I->u D σ I):Iq c t u D σ H:=by
 refine aC _ λb I r=>?_
 cases b with
 |true=>exact af I r
 |false=>exact ak I r
def t8{t:eI}{D:iK}{σ:St}{H:aw}(R:St->aw->Prop)(h:∀gG:iK,(∀σ H,R σ H->gG.cP σ H)->gG.m'=D.m'->gG.c_=D.c_->gG.gf=D.gf->t gG σ H)(ho:∀σ H,R σ H->D.cP σ H):t D σ H:=h D ho rfl rfl rfl
def II{t:eI}{D:iK}{σ:St}{H:aw}(R:St->aw->Prop)(h:∀gG:iK,(∀σ H,R σ H->gG.cP σ H)->t gG σ H)(ho:∀M,M=D.cP->∀σ H,R σ H->M σ H):t D σ H:=h D (ho _ rfl)
def TH{p:Prop}(h:∀q,q=p->q):p:=h p rfl
def zH{t:eI}{D:iK}{σ:St}{H:aw}(R:St->aw->Prop)(h:∀gG:iK,(∀σ H,R σ H->gG.cP σ H)->t gG σ H)(ho:∀σ H,R σ H->D.cP σ H):t D σ H:=h D ho
def I1{t u:eI}{D:iK}{σ:St}{H:aw}(R:St->aw->Prop)(h:∀gG:iK,(∀σ H,R σ H->gG.cP σ H)->t gG σ H)(ho:∀M,M=u D->∀σ H,R σ H->M σ H):Pf t u D σ H:=h {D with cP:=u D} (ho _ rfl)
def ah7(v:V)(aC:∀Q:c6,Q v H->b2 σ H Q)(h:D.m' v H):Eo b2 D σ H:=aC _ h
def rj(x y:Str):↑(x++y)=↑x+↑y:=by
 show(x.cps++y.cps).size=_;rw[Array.size_append];rfl
def d1.range{lo:Int}{n:Nat}{g:g9}{bS:eI}{D:iK}{σ:St}{H:aw}(Pv:Nat->St->aw->Prop)(h0:Pv 0 σ H)
  (az:∀i σ H,i<n->Pv i σ H->g (.int (lo+i)) σ H λcv ar=>bS {D with cP:=Pv (i+1),gf:=Pv (i+1),c_:=D.cP} cv ar) (hd:∀σ H,Pv n σ H->D.cP σ H):d1 (mH lo n) g bS D σ H:=ane Pv h0 az hd
def d1.list{K:bq}(Pv:Nat->St->aw->Prop)(h0:Pv 0 σ H)(aN:∀i σ H,i<=↑xs->Pv i σ H->ay K H a xs)
  (az:∀i x σ H,xs[i]?\x->Pv i σ H->g x σ H λcv ar=>bS {D with cP:=Pv (i+1),gf:=Pv (i+1),c_:=D.cP} cv ar) (hd:∀σ H,Pv ↑xs σ H->D.cP σ H):d1 (pJ K a) g bS D σ H:=aki Pv h0 aN az hd
def dh.list{K:bq}(Pv:Nat->List V->aw->Prop)(aO:↑xs<=sizeLine)(h0:Pv 0 [] H)(aN:∀i ys H,i<=↑xs->Pv i ys H->ay K H a xs/\↑ys<=i)
  (az:∀i x ys H,xs[i]?\x->Pv i ys H->qB Pv g dJ b2 dM i x ys H) (hd:∀ys H,Pv ↑xs ys H->∀p,H p=none->Q ⇑p (upd H p (.lst ys))):dh (pJ K a) g dJ b2 dM Q H:=agk Pv aO h0 aN az hd
def dh.a3(Pv:Nat->List V->aw->Prop)(aO:↑xs<=sizeLine)(h0:Pv 0 [] H)(aN:∀i ys H,i<=↑xs->Pv i ys H->↑ys<=i)
  (az:∀i x ys H,xs[i]?\x->Pv i ys H->qB Pv g dJ b2 dM i x ys H) (hd:∀ys H,Pv ↑xs ys H->∀p,H p=none->Q ⇑p (upd H p (.lst ys))):dh (AI xs) g dJ b2 dM Q H:=aeg Pv aO h0 aN az hd
def dh.range{lo:Int}{n:Nat}{g:g9}{dJ:TT}{b2:TE}{dM:St}{Q:c6}{H:aw}(Pv:Nat->List V->aw->Prop)(aO:n<=sizeLine)(h0:Pv 0 [] H)(aN:∀i ys H,i<=n->Pv i ys H->↑ys<=i)
  (az:∀i ys H,i<n->Pv i ys H->qB Pv g dJ b2 dM i (.int (lo+i)) ys H) (hd:∀ys H,Pv n ys H->∀p,H p=none->Q ⇑p (upd H p (.lst ys))):dh (mH lo n) g dJ b2 dM Q H:=asA Pv aO h0 aN az hd
def aoc{α β:Type}{xs:List α}{i:Nat}{x:α}(f:α->β)(h:xs[i]?\x):(xs.take (i+1)).map f=(xs.take i).map f++[f x]:=by
 rw[oo,h,ee];rfl
def dh.aha{xs:List V}{g:g9}{b2:TE}{dM:St}{Q:c6}{H:aw}(f:V->V)(aO:↑xs<=sizeLine)(az:∀(i:Nat) (x:V) (N:V->aw->Prop),xs[i]?\x->N (f x) H->g x dM H λcv ar=>Sub dM cv/\b2 cv ar N)
  (hd:∀p,H p=none->Q ⇑p (upd H p (.lst (xs.map f)))):dh (AI xs) g sm b2 dM Q H:=by
 refine dh.a3 (λi ys I=>I=H/\ys=(xs.take i).map f) aO (rfl,rfl) (λi ys I ai ⟨_,e⟩=>?_) (λi x ys I ag ⟨au,aE⟩ N bo=>?_) (λys I ⟨au,aE⟩ p aq=>?_)
 .rw [e,aT,ha];omega
 .subst au;exact az i x (λy cb=>N (ys++[y]) cb) ag (bo _ _ (rfl,by rw[aE,aoc f ag]))
 .subst au;rw[aE,hO];exact hd p aq
def dh.QE{lo:Int}{n:Nat}{g:g9}{b2:TE}{dM:St}{Q:c6}{H:aw}(f:Nat->V)(aO:n<=sizeLine)(az:∀(i:Nat) (N:V->aw->Prop),i<n->N (f i) H->g (.int (lo+i)) dM H λcv ar=>Sub dM cv/\b2 cv ar N)
  (hd:∀p,H p=none->Q ⇑p (upd H p (.lst ((fp n).map f)))):dh (mH lo n) g sm b2 dM Q H:=by
 refine dh.range (λi ys I=>I=H/\ys=(fp i).map f) aO (rfl,rfl) (λi ys I ai ⟨_,e⟩=>?_) (λi ys I ai ⟨au,aE⟩ N bo=>?_) (λys I ⟨au,aE⟩ p aq=>?_)
 .rw [e,aT,tv];exact bR _
 .subst au;exact az i (λy cb=>N (ys++[y]) cb) ai (bo _ _ (rfl,by rw[aE,wB,ee];rfl))
 .subst au;rw[aE];exact hd p aq
theorem dh.amb{K:bq}(f:V->eH)(aN:ay K H a xs)(aO:↑xs<=sizeLine)(a5:∀x,rE (f x)=true)
  (az:∀(i:Nat) (x:V) (H1:aw) (N:V->aw->Prop),xs[i]?\x->aM H H1->(aF H->aF H1)->(∀q,H1 q=none->N ⇑q (upd H1 q (f x)))->g x dM H1 λcv ar=>Sub dM cv/\b2 cv ar N)
  (hd:∀(qs:List Addr) (H1:aw),aM H H1->(aF H->aF H1)->↑qs=↑xs->(∀(j:Nat) (q:Addr) (x:V),qs[j]?\q->xs[j]?\x->H1 q\(f x)/\H q=none)->∀p,H1 p=none->Q ⇑p (upd H1 p (.lst (qs.map V.ref)))):dh (pJ K a) g sm b2 dM Q H:=by
 refine dh.list (λi ys I=>∃qs:List Addr,ys=qs.map V.ref/\↑qs=i/\aM H I/\(aF H->aF I)/\∀(j:Nat) (q:Addr) (x:V),qs[j]?\q->xs[j]?\x->I q\(f x)/\H q=none) aO
  ([],rfl,rfl,aM.refl H,id,λj q x h _=>by simp at h) ?_ ?_ ?_
 .rintro i ys I ai a9;refine TH λuT aS=>?_
  let(qs,e,aE,bb,_,_):=a9;subst aS;exact(aN.same bb,by rw[e,aT];omega)
 .rintro i x ys I ag ⟨qs,au,aE,bb,bz,al⟩ N bo;refine az i x I (fun y cb=>N (ys++[y]) cb) ag bb bz fun q aL=>bo _ _ ⟨qs++[q],by rw[au,ee];rfl,by rw[cU,aE];rfl,bb.hE (bb.free aL),fun n=>(bz n).upd (a5 x),fun j dB eR af ak=>?_⟩
  by_cases aI:j<↑qs
  .rw [lg aI]at af;let(gy,eE):=al j dB eR af ak;exact(by rw[aD (dF gy aL)];exact gy,eE)
  .rw[j7 ()]at af;have sI:j-↑qs=0:=by
    cases ct:j-↑qs with
    |zero=>rfl
    |succ n=>rw[ct]at af;simp at af
   rw[sI]at af;have bI:q=dB:=by simpa using af
   subst bI;have ec:j=i:=()
   subst ec;rw[ag]at ak;cases ak;exact(db,bb.free aL)
 .intro ys I (qs,au,aE,bb,bz,al) p aq;subst au;exact hd qs I bb bz aE al p aq
def d1.of(Pv:Nat->St->aw->Prop)(h0:Pv 0 σ H)(xA:∀i σ H,i<n->Pv i σ H->bH.go i H)(fB:∀σ H,Pv n σ H->bH.stop n H)
  (az:∀i σ H x I,i<n->Pv i σ H->bH.sC i H x I->g x σ I λcv ar=>bS {D with cP:=Pv (i+1),gf:=Pv (i+1),c_:=D.cP} cv ar) (hd:∀σ H,Pv n σ H->D.cP σ H):d1 bH g bS D σ H:=by
 refine(λi m σ H=>m=n-i/\i<=n/\Pv i σ H,(n,by simp,eO _,h0),?_);intro i m σ H (rfl,ai,p);by_cases dU:i<n
 .exact .inr (xA i σ H dU p,Pv (i+1),λav I iZ=>(n-(i+1),(),rfl,dU,iZ),λx I y=>az i σ H x I dU p y)
 .have e:i=n:=()
  subst e;exact .inl (fB σ H p,hd σ H p)
def dh.of(Pv:Nat->List V->aw->Prop)(aO:n<=sizeLine)(h0:Pv 0 [] H)(xA:∀i ys H,i<n->Pv i ys H->bH.go i H)(fB:∀ys H,Pv n ys H->bH.stop n H)(aN:∀i ys H,i<n->Pv i ys H->↑ys<=i)
  (az:∀i ys H x I,i<n->Pv i ys H->bH.sC i H x I->qB Pv g dJ b2 dM i x ys I) (hd:∀ys H,Pv n ys H->∀p,H p=none->Q ⇑p (upd H p (.lst ys))):dh bH g dJ b2 dM Q H:=by
 refine(λi m ys H=>m=n-i/\i<=n/\Pv i ys H,(n,by simp,eO _,h0),?_);intro i m ys H (rfl,ai,p);by_cases dU:i<n
 .have C0:=aN i ys H dU p;refine .inr (xA i ys H dU p,(),λx I y=>?_);exact az i ys H x I dU p y (λk' I=>∃dI,dI<n-i/\dI=n-(i+1)/\i+1<=n/\Pv (i+1) k' I) λk' I r=>(n-(i+1),(),rfl,dU,r)
 .have e:i=n:=()
  subst e;exact .inl (fB ys H p,hd ys H p)
section
variable{K:bq}{a b:Addr}{xs ys:List V}{g:g9}{bS:eI}{D:iK}{σ dM:St}{H:aw}{dJ:TT}{b2:TE}{Q:c6}
def d1.enum(Pv:Nat->St->aw->Prop)(h0:Pv 0 σ H)(aN:∀i σ H,i<=↑xs->Pv i σ H->ay K H a xs)
  (az:∀i x σ H p,xs[i]?\x->Pv i σ H->H p=none->g ⇑p σ (upd H p (.tup [.int i,x])) λcv ar=>bS {D with cP:=Pv (i+1),gf:=Pv (i+1),c_:=D.cP} cv ar) (hd:∀σ H,Pv ↑xs σ H->D.cP σ H):d1 (Cb K a) g bS D σ H:=by
 refine d1.of (n:=↑xs) Pv h0 (λi σ H ai p=>(xs,xs[i],aN i σ H (nR ai) p,by simp[ai])) (λσ H p=>(xs,aN _ σ H (bR _) p,bR _)) (λi σ H v I ai p y=>?_) hd;let(q,x,aL,rfl,ag,rfl):=y;exact az i x σ H q (ag xs (aN i σ H (nR ai) p)) p aL
def d1.zip(Pv:Nat->St->aw->Prop)(h0:Pv 0 σ H)(aN:∀i σ H,i<=↑xs->Pv i σ H->ay K H a xs/\ay K H b ys)(n:Nat)(a5:n=min ↑xs ↑ys)
  (az:∀i x y σ H p,xs[i]?\x->ys[i]?\y->Pv i σ H->H p=none->g ⇑p σ (upd H p (.tup [x,y])) λcv ar=>bS {D with cP:=Pv (i+1),gf:=Pv (i+1),c_:=D.cP} cv ar) (hd:∀σ H,Pv n σ H->D.cP σ H):d1 (B6 K a b) g bS D σ H:=by
 subst a5;refine d1.of (n:=min ↑xs ↑ys) Pv h0 (λi σ H ai p=>?_) (λσ H p=>?_) (λi σ H v I ai p y=>?_) hd
 .let(gy,eE):=aN i σ H () p;exact(xs,ys,xs[i],ys[i],gy,eE,by rw[bj ()],by rw[bj ()])
 .let(gy,eE):=aN _ σ H () p;exact(xs,ys,gy,eE,())
 .let(q,x,y,aL,rfl,ag,aQ,rfl):=y;let(gy,eE):=aN i σ H () p;exact az i x y σ H q (ag xs gy) (aQ ys eE) p aL
def dh.enum(Pv:Nat->List V->aw->Prop)(aO:↑xs<=sizeLine)(h0:Pv 0 [] H)(aN:∀i ys H,i<=↑xs->Pv i ys H->ay K H a xs/\↑ys<=i)
  (az:∀i x ys H p,xs[i]?\x->Pv i ys H->H p=none->qB Pv g dJ b2 dM i ⇑p ys (upd H p (.tup [.int i,x]))) (hd:∀ys H,Pv ↑xs ys H->∀p,H p=none->Q ⇑p (upd H p (.lst ys))):dh (Cb K a) g dJ b2 dM Q H:=by
 refine dh.of (n:=↑xs) Pv aO h0 (λi ys H ai p=>(xs,xs[i],(aN i ys H (nR ai) p).1,by simp[ai])) (λys H p=>(xs,(aN _ ys H (bR _) p).1,bR _)) (λi ys H ai p=>(aN i ys H (nR ai) p).2) (λi zs H v I ai p y=>?_) hd;let(q,x,aL,rfl,ag,rfl):=y;exact az i x zs H q (ag xs (aN i zs H (nR ai) p).1) p aL
def aa6{p:Addr}{x y:V}(h:d4 K H p [x,y])(q:R ((σ.set i (some x)).set j (some y)) H):wo K 2 (u2 (fH i) (u2 (fH j) y6)) ⇑p σ H R:=
 (p,_,rfl,h,rfl,x,_,rfl,y,_,rfl,rfl,q)
def uw{p:Addr}{x y:V}(q:R ((σ.set i (some x)).set j (some y)) (upd H p (.tup [x,y]))):wo K 2 (u2 (fH i) (u2 (fH j) y6)) ⇑p σ (upd H p (.tup [x,y])) R:=
 aa6 (.inl (.inl db)) q
end
theorem Sub.Su{v w:Option V}:Sub (none::none::r) (v::w::r):=by
 refine(rfl,λi u h=>?_)
 match i with
 |0=>cases h
 |1=>cases h
 |i+2=>exact h
theorem Sub.yl{v w z:Option V}:Sub (none::none::none::r) (v::w::z::r):=by
 refine(rfl,λi u h=>?_)
 match i with
 |0=>cases h
 |1=>cases h
 |2=>cases h
 |i+3=>exact h
def dh.n1{K:bq}(aN:ay K H a xs)(aO:↑xs<=sizeLine)(he:↑zs=↑xs)
  (az:∀(i:Nat) (x z:V) (N:V->aw->Prop),xs[i]?\x->zs[i]?\z->N z H->g x dM H λcv ar=>Sub dM cv/\b2 cv ar N) (hd:∀p,H p=none->Q ⇑p (upd H p (.lst zs))):dh (pJ K a) g sm b2 dM Q H:=by
 refine dh.list (λi ys I=>I=H/\ys=zs.take i) aO (rfl,rfl) (λi ys I ai ⟨fb,e⟩=>?_) (λi x ys I ag ⟨au,aE⟩ N bo=>?_) (λys I ⟨au,aE⟩ p aq=>?_)
 .subst fb;exact(aN,by rw[e,ha];omega)
 .subst au;have ai:i<↑zs:=by rw[he];exact(b5.mp ag).1
  have ht:zs[i]?\zs[i]:=bj ai;exact az i x zs[i] (λy cb=>N (ys++[y]) cb) ag ht (bo _ _ (rfl,by rw[aE,oo,ht];rfl))
 .subst au;rw[aE,<- he,hO];exact hd p aq
def dh.akY{K:bq}(aN:d4 K H a xs)(aO:↑xs<=sizeLine)(he:↑zs=↑xs)
  (az:∀(i:Nat) (x z:V) (N:V->aw->Prop),xs[i]?\x->zs[i]?\z->N z H->g x dM H λcv ar=>Sub dM cv/\b2 cv ar N) (hd:∀p,H p=none->Q ⇑p (upd H p (.lst zs))):dh (Cc K a) g sm b2 dM Q H:=by
 refine acs (xs:=xs) (λi ys I=>I=H/\ys=zs.take i) aO (rfl,rfl) (λi ys I ai ⟨fb,e⟩=>?_) (λi x ys I ag ⟨au,aE⟩ N bo=>?_) (λys I ⟨au,aE⟩ p aq=>?_)
 .subst fb;exact(aN,by rw[e,ha];omega)
 .subst au;have ai:i<↑zs:=by rw[he];exact(b5.mp ag).1
  have ht:zs[i]?\zs[i]:=bj ai;exact az i x zs[i] (λy cb=>N (ys++[y]) cb) ag ht (bo _ _ (rfl,by rw[aE,oo,ht];rfl))
 .subst au;rw[aE,<- he,hO];exact hd p aq
def dh.u6{K:bq}{a:Addr}{xs:List V}{ss:List (Option V)}{g:g9}{dJ:TT}{b2:TE}{dM:St}{Q:c6}{H:aw}(aN:ay K H a xs)(aO:↑xs<=sizeLine)(he:↑ss=↑xs)
  (az:∀(i:Nat) (x:V) (o:Option V) (ys:List V) (N:List V->aw->Prop),xs[i]?\x->ss[i]?\o->N (ys++o.toList) H->g x dM H λcv ar=>Sub dM cv/\dJ cv ar λc a'=>if c=true then b2 cv a' λy cb=>N (ys++[y]) cb else N ys a')
  (hd:∀p,H p=none->Q ⇑p (upd H p (.lst (ss.flatMap x1)))):dh (pJ K a) g dJ b2 dM Q H:=by
 refine dh.list (λi ys I=>I=H/\ys=(ss.take i).flatMap x1/\↑ys<=i) aO (rfl,rfl,bR _) (λi ys I ai ⟨fb,e,bF⟩=>?_) (λi x ys I ag ⟨au,aE,bI⟩ N bo=>?_) (λys I ⟨au,aE,_⟩ p aq=>?_)
 .subst fb;exact(aN,bF)
 .subst au;have ai:i<↑ss:=by rw[he];exact(b5.mp ag).1
  have ht:ss[i]?\ss[i]:=bj ai;refine az i x ss[i] ys N ag ht (bo _ _ (rfl,by rw[aE,oo,ht,zO];simp,?_));rw[cU];cases ss[i] <;> simp <;> omega
 .subst au;rw[aE,<- he,hO];exact hd p aq
def dh.akj{lo:Int}{n:Nat}{ss:List (Option V)}{g:g9}{dJ:TT}{b2:TE}{dM:St}{Q:c6}{H:aw}(aO:n<=sizeLine)(he:↑ss=n)
  (az:∀(i:Nat) (o:Option V) (ys:List V) (N:List V->aw->Prop),i<n->ss[i]?\o->N (ys++o.toList) H->g (.int (lo+i)) dM H λcv ar=>Sub dM cv/\dJ cv ar λc a'=>if c=true then b2 cv a' λy cb=>N (ys++[y]) cb else N ys a')
  (hd:∀p,H p=none->Q ⇑p (upd H p (.lst (ss.flatMap x1)))):dh (mH lo n) g dJ b2 dM Q H:=by
 refine dh.range (λi ys I=>I=H/\ys=(ss.take i).flatMap x1/\↑ys<=i) aO (rfl,rfl,bR _) (λi ys I ai ⟨fb,e,bF⟩=>bF) (λi ys I ai ⟨au,aE,bI⟩ N bo=>?_) (λys I ⟨au,aE,_⟩ p aq=>?_)
 .subst au;have fY:i<↑ss:=()
  have ht:ss[i]?\ss[i]:=bj fY;refine az i ss[i] ys N ai ht (bo _ _ (rfl,by rw[aE,oo,ht,zO];simp,?_));rw[cU];cases ss[i] <;> simp <;> omega
 .subst au;rw[aE,<- he,hO];exact hd p aq
theorem XF(Pv:St->aw->Prop)(A6:St->aw->Nat)(h0:Pv σ H)
  (az:∀σ H,Pv σ H->∃b:Bool,(∀Q:Bool->aw->Prop,Q b H->c σ H Q)/\(b=true->bS {D with cP:=λav I=>Pv av I/\A6 av I<A6 σ H,gf:=λav I=>Pv av I/\A6 av I<A6 σ H,c_:=D.cP} σ H)/\(b=false->D.cP σ H)):Xa c bS D σ H:=by
 refine(λm σ H=>m=A6 σ H/\Pv σ H,(_,rfl,h0),?_);intro m σ H (rfl,p);let(b,aC,af,ak):=az σ H p;refine aC _ ?_;cases b with
 |true=>exact(_,λav I ⟨iZ,l⟩=>(_,l,rfl,iZ),af rfl)
 |false=>exact ak rfl
theorem Sub.name:Sub (none::r) (v::r):=by
 refine(rfl,λi w h=>?_);cases i with
 |zero=>cases h
 |succ i=>exact h
def b8{x:Str}{e:Expr}(bo:X.N.Nodup)(he:bw X e b2)(ai:autoParam (X.N[i]?\x) A'r)(ag:Loc X.env.scope x:=by exact lY rfl)(az:swapsWith e (some (.Name x pos')) pos.line X.env=pure false:=by rfl)(hf:X.fn x=true\/X.env.scope.names.lookup x\.local:=by first|exact .inl rfl|exact .inr rfl|assumption):gO X (.Assign [.Name x pos'] e pos) (xB b2 (fH i)):=pG bo ai ag he az hf
def b_{x:Str}(bo:X.N.Nodup)(ai:autoParam (X.N[i]?\x) A'r)(ag:Loc X.env.scope x:=by exact lY rfl)(hf:X.fn x=true\/X.env.scope.names.lookup x\.local:=by first|exact .inl rfl|exact .inr rfl|assumption):ql X (.Name x pos) (fH i):=FM bo ai ag hf
def cj(ao:yJ X r)(aV:bw X a ba)(aa:bw X b bS)(az:Tc b:=by exact λ_ _=>rfl):bw X (.Subscript a b pos) (ui r ba bS):=amU ao aV aa az
def ck{k:Nat}{fd:FuncData}{x:Str}{p pos:Pos}{e:Expr}{t:fO}(F:cT X.prog X.w X.K X.mg X.base dt k f fd ps sp)(ao:bn k X.A)(hm:X.mg x\⇑f)(aB:vy X.K ⇑f=true)(aa:b7 X.K fd ps [])(aV:g6 X (e::aW) t)(a7:autoParam (l6 X x) A'r)(p_:autoParam ((x==("__debug__":Str))=false) A'd)(he:autoParam (starEach (e::aW) X.env=(p'p false (eval e X.env))::starEach aW X.env) A'r)(cV:autoParam ((backTo pos (starEach aW X.env)).any (·.1)=false) A'r):bw X (.Call (.Name x p) (e::aW) [] pos) (Bf sp [] Ko t):=aaB F ao a7 hm aB aa .nil cY aV p_ he cV
end L2
local macro_rules|`(tactic|nofun)=>do let f(s:String):=(s.splitOn " ").toArray.map fun x=>Lean.mkCIdent x.toName;let c:=f "L2.Ck L2.v' L2.DY L2.JI L2.O' L2.OH L2.Nj L2.Mv L2.La L2.Ow L2.hI L2.dx L2.LX L2.Eo L2.wS L2.OL L2.fH L2.y6 L2.u2 L2.wo L2.Kt L2.xB L2.Ja L2.J4 L2.Ls L2.ui L2.MF L2.yD L2.r9 L2.CD L2.Kp L2.I5 L2.Nw L2.Oo L2.Si L2.YY L2.JA L2.Ki L2.yP L2.Lh L2.OM L2.Pq L2.Bf L2.T4 L2.Z2 L2.EP L2.LM L2.Md L2.Hj L2.Us L2.IZ L2.TW L2.N5 L2.N1 L2.Nd L2.FN L2.H5 L2.Mj L2.UF L2.O2 L2.Ml L2.LF L2.LQ L2.L1 L2.Wa L2.Nt L2.NG L2.HI L2.N6 L2.Wr L2.sm L2.XV L2.JM L2.M6 L2.JC L2.WI L2.O3 L2.KR L2.Nf L2.Hp L2.sb L2.Jd L2.OE L2.Pt L2.Lz L2.NF L2.Vt L2.GM L2.ZW L2.WJ L2.Ya L2.Vv L2.Yn L2.Zi L2.Tj L2.Vp L2.P4 L2.QV L2.Rv L2.start L2.TC Nat.reduceAdd Nat.reduceSub List.replicate";let a:=f "L2.sZ L2.ajv L2.bg.u_ L2.bg.mN L2.bg.block L2.agT L2.anU L2.aim L2.akC L2.ahV L2.al8 L2.acP L2.alo L2.aiO L2.aif L2.ar8 L2.ai8 L2.alK L2.ajf"++c;let b:=c++f "L2.ar1 L2.ahl L2.abG L2.ady L2.FS List.map_cons List.map_nil Option.bind_none Option.bind_some Option.join_some Option.join_none List.length_cons List.length_nil Nat.zero_add List.cons_append List.nil_append List.append_nil List.set_cons_zero List.set_cons_succ List.getElem?_cons_zero List.getElem?_cons_succ Option.some.injEq L2.V.int.injEq L2.V.bG.injEq L2.V.str.injEq L2.V.ref.injEq L2.V.ty.injEq exists_eq_left' exists_eq_left exists_and_left List.cons.injEq and_true true_and and_assoc Int.zero_add reduceCtorEq false_and exists_false and_false ite_true ite_false if_true if_false Bool.false_eq_true L2.i'a L2.i'b L2.i'c L2.O7 false_or or_false Bool.not_true Bool.not_false decide_true decide_false";`(tactic|((try dsimp only [$[$a:ident],*]);(try simp only [$[$b:ident],*])))
local macro_rules | `(tactic| walk_at "B")=>`(tactic| first | rfl | (dsimp only [L2.bg.block];done) | (dsimp only [L2.bg.block];exact rfl))
local macro_rules | `(tactic| walk_at "F")=>`(tactic| exact ⟨rfl,rfl,rfl,∅,rfl,∅,∅⟩)
namespace L2
open PySem
def cD{P:Program}{w:World}{K:bq}{mg:Str->Option Value}{base:Heap}{C:kd}{m n:Nat}{f a:Addr}{fd b:FuncData}{ps q:List Str}{sp S:bV}(h:cT P w K mg base C m f fd ps sp)(g:cT P w K mg base C n f fd ps sp->cT P w K mg base C (n+1) a b q S)(hm:autoParam (m<=n) A'd):cT P w K mg base C (n+1) a b q S:=g (h.mono hm)
end L2
set_option hygiene false
local macro_rules | `(tactic| walk_at "O")=>`(tactic| (intro vs H Q E h;repeat (first | (obtain ⟨rfl,_⟩:=h;rfl) | (obtain ⟨_,h⟩:=h))))
set_option hygiene true
set_option hygiene false
local macro_rules | `(tactic| ac_rfl)=>`(tactic| refine TH fun uT aS=>?_)
local macro_rules | `(tactic| exists $e,0)=>`(tactic| refine II $e (fun gG b1=>?_) fun uT aS=>?_)
local macro_rules | `(tactic| exists $e,2)=>`(tactic| refine II $e (fun gG c2=>?_) fun uT aS=>?_)
local macro_rules | `(tactic| exists $e,3)=>`(tactic| refine I1 $e (fun gG b1=>?_) fun uT aS=>?_)
local macro_rules | `(tactic| exists $e,4)=>`(tactic| refine I1 $e (fun D b1=>?_) fun uT aS=>?_)
local macro_rules | `(tactic| exists $e,5)=>`(tactic| refine I1 $e (fun gG c2=>?_) fun uT aS=>?_)
local macro_rules | `(tactic| exists $e,9)=>`(tactic| refine ($e) (by walk_at "O") (fun _ _ _ s H vs Q E ao h=>?_))
set_option hygiene true
namespace My
open PySem L2
local macro_rules|`(~~~$x)=>`(some (L2.V.ref $x))
abbrev js:List Str:=["self","name"]
abbrev k9:List Str:=["stages","home"]
abbrev jK:List Str:=["least","most","members"]
abbrev mb:List Str:=["crossing","rows"]
abbrev mw:List Str:=["self","name","start","end","off","near","least"]
abbrev mW:List Str:=["self","many"]
abbrev sO:List Str:=["self","own_asked"]
abbrev s9:List Str:=["crossing","one","other"]
abbrev Ay:List Str:=["stages","one","other"]
abbrev z4:List Str:=["_law_script","_law_k","_law_many"]
abbrev sf:List Str:=["self","stages"]
abbrev Ar:List Str:=["word","signs","most"]
abbrev yn:List Str:=["chain","own","others","place"]
abbrev G1:List Str:=["self","good"]
abbrev H_:List Str:=["self","choices"]
abbrev LS:List Str:=["self","low","high"]
abbrev DR:List Str:=["self","kind","name","start","end","off","near","least"]
abbrev Fd:List Str:=["crossing","name"]
abbrev xK:List Str:=["name","self"]
abbrev F1:List Str:=["places","way","second"]
abbrev F9:List Str:=["word","most_figures"]
abbrev A7:List Str:=["crossing","text"]
abbrev CC:List Str:=["stages","number"]
abbrev Dz:List Str:=["reader","places","start"]
abbrev Di:List Str:=["sort","name","start","end","off","near","least"]
abbrev Fg:List Str:=["own","first","second"]
abbrev y2:List Str:=["stages","home","chain"]
abbrev AD:List Str:=["self","row","told"]
abbrev AQ:List Str:=["self","crossing","rows","one","other"]
abbrev DS:List Str:=["self","number"]
abbrev G0:List Str:=["self","name","many"]
abbrev EZ:List Str:=["places","way","place"]
abbrev M3:List Str:=["word","low","high"]
abbrev Cw:List Str:=["crossing","first","second","turns","one"]
abbrev H0:List Str:=["crossing","first","second"]
abbrev Pg:List Str:=["reader","crossing","left"]
abbrev Gn:List Str:=["reader","crossing","rows"]
abbrev KX:List Str:=["reader","ways"]
abbrev G7:List Str:=["reader","places","ways"]
abbrev MC:List Str:=["stages","number","following","turns"]
abbrev MX:List Str:=["stages","home","first"]
abbrev Fq:List Str:=["stages","name","chain"]
abbrev Dv:List Str:=["stages","name"]
abbrev Hh:List Str:=["_law_script","_law_many"]
abbrev FP:List Str:=["_law_script","_law_most"]
abbrev CJ:List Str:=["_law_places","_law_ways_here"]
abbrev JB:List Str:=["_law_one","_law_other","_law_places"]
abbrev IY:List Str:=["_law_ways_here","_law_one","_law_other"]
abbrev D8:List Str:=["_law_script","_law_places","_law_ways_here"]
abbrev EG:List Str:=["_law_ways_here","_law_stages_here"]
abbrev GA:List Str:=["_law_script","_law_turn","_law_ways_here"]
abbrev BR:List Str:=["self","crossing","rows"]
abbrev JL:List Str:=["self","asks"]
abbrev G':List Str:=["self","comings"]
abbrev FI:List Str:=["self","places","ways"]
abbrev Ga:List Str:=["name","crossing"]
abbrev Ec:List Str:=["least","most","members","crossing"]
abbrev Ft:List Str:=["_law_i","_law_ways_here"]
abbrev EY:List Str:=["number","stages","home"]
abbrev KZ:List Str:=["crossing","rows","told"]
abbrev Ny:List Str:=["reader","crossing","left","first","members","alike"]
abbrev JD:List Str:=["stages","home","numbers"]
abbrev LH:List Str:=["stages","home","chain","stays","changes"]
abbrev IA:List Str:=["stages","number","following","turns","own","sought","asks"]
abbrev Mu:List Str:=["self","waited","same","others","choices","last","many"]
abbrev KU:List Str:=["one","other","stages"]
seal L2.g6 L2.bw L2.gO L2.iS L2.iz L2.gs
noncomputable def top(i:Nat):Stmt:=PySem.Challenge.pw_lampway_k53_whole_the_nth_goes.main.body.getD i (.Pass (0,0,0,0))
def YL:Db ["places","way","place","steps"] EZ (bx (top 9)):=∅
def amu:Db F1 F1 (bx (top 10)):=∅
def L7:Db ["crossing","one","other","way","second"] s9 (bx (top 11)):=∅
def KL:Db ["crossing","one","other","way","second"] s9 (bx (top 12)):=∅
def acB:Db ["text"] ["text"] (bx (top 18)):=∅
def aiC:Db Ar Ar (bx (top 19)):=∅
def alC:Db F9 F9 (bx (top 20)):=∅
def Qk:Db ["word","low","high","number"] M3 (bx (top 21)):=∅
def alV:Db ["word"] ["word"] (bx (top 22)):=∅
def aqZ:Db ["text"] ["text"] (bx (top 25)):=∅
def ark:Db Fd Fd (bx (top 30)):=∅
def yC:Db ["members","homes","number","names","name"] ["members"] (bx (top 31)):=∅
def NI:Db Cw H0 (bx (top 32)):=∅
def Vq:Db KZ mb (bx (top 33)):=∅
def DQ:Db Ny Pg (bx (top 34)):=∅
def NC:Db ["reader","crossing","rows","least","most"] Gn (bx (top 35)):=∅
def aax:Db ["crossing","rows","left"] mb (bx (top 36)):=∅
def D_:Db ["crossing","rows","homes","name","number"] mb (bx (top 37)):=∅
def ze:Db ["crossing","rows","number","row","one","other"] mb (bx (top 38)):=∅
def LY:Db ["crossing","text","rows","reader"] A7 (bx (top 39)):=∅
def ai1:Db CC CC (bx (top 40)):=∅
def aj_:Db Ay Ay (bx (top 41)):=∅
def ZV:Db ["reader","places"] ["reader"] (bx (top 59)):=∅
def Yl:Db ["reader","ways","name"] KX (bx (top 60)):=∅
def alD:Db Dz Dz (bx (top 61)):=∅
def asx:Db Di Di (bx (top 62)):=∅
def tc:Db ["reader","places","ways","sort","name","start","end","off","near","least"] G7 (bx (top 63)):=∅
def zX:Db ["text","rows","places","ways","reader"] ["text"] (bx (top 64)):=∅
def XC:Db JD k9 (bx (top 66)):=∅
def ab8:Db k9 k9 (bx (top 67)):=∅
def anT:Db Fg Fg (bx (top 68)):=∅
def w9:Db ["chain","own","others","place","last","found","step","number"] yn (bx (top 69)):=∅
def xX:Db ["stages","home","own","others","found","first","second"] k9 (bx (top 70)):=∅
def ae3:Db k9 k9 (bx (top 71)):=∅
def Hb:Db LH y2 (bx (top 72)):=∅
def Dn:Db IA MC (bx (top 73)):=∅
def Hv:Db ["stages","home","first","stops","number"] MX (bx (top 74)):=∅
def qZ:Db ["stages","name","chain","home","stops","rows","number","following","turn","stays"] Fq (bx (top 75)):=∅
def yZ:Db ["stages","name","home","chain","rows","turn"] Dv (bx (top 76)):=∅
def xg:Db ["_law_script","_law_k","_law_many","_law_cell","_law_seed"] z4 (bx (top 78)):=∅
def tl:Db ["_law_script","_law_many","_law_letters","_law_base","_law_way","_law_at","_law_names_here","_law_k","_law_sign"] Hh (bx (top 79)):=∅
def oZ:Db ["_law_script","_law_most","_law_places","_law_names_here","_law_ways_here","_law_k","_law_start","_law_end","_law_sort","_law_off","_law_near"] FP (bx (top 80)):=∅
def NA:Db ["_law_places","_law_ways_here","_law_rows","_law_way"] CJ (bx (top 81)):=∅
def GX:Db ["_law_one","_law_other","_law_places","_law_length","_law_start","_law_end"] JB (bx (top 82)):=∅
def YO:Db ["_law_ways_here","_law_one","_law_other","_law_tram"] IY (bx (top 83)):=∅
def mM:Db ["_law_script","_law_places","_law_ways_here","_law_some","_law_k","_law_fits","_law_j","_law_good","_law_i","_law_stages_here","_law_low","_law_more"] D8 (bx (top 84)):=∅
def AV:Db ["_law_ways_here","_law_stages_here","_law_rows","_law_low","_law_high","_law_some"] EG (bx (top 85)):=∅
def Cp:Db ["_law_script","_law_turn","_law_ways_here","_law_rate","_law_comings_here","_law_k"] GA (bx (top 86)):=∅
def lB:Db ["_law_script","_law_places","_law_ways_here","_law_stages_here","_law_plan","_law_name","_law_most","_law_road","_law_line","_law_turn","_law_comings_here","_law_k","_law_gone","_law_one"] ["_law_script"] (bx (top 87)):=∅
def alc:Db AD AD (bx (Gc (top 24) 0)):=∅
def ajq:Db ["self"] ["self"] (bx (Gc (top 24) 1)):=∅
def ag2:Db ["self"] ["self"] (bx (Gc (top 24) 2)):=∅
def abK:Db G1 G1 (bx (Gc (top 24) 4)):=∅
def WG:Db ["self","choices","found"] H_ (bx (Gc (top 24) 5)):=∅
def R6:Db ["self","low","high","found"] LS (bx (Gc (top 24) 6)):=∅
def arz:Db ["self"] ["self"] (bx (Gc (top 24) 7)):=∅
def Lo:Db AQ BR (bx (Gc (top 29) 0)):=∅
def arQ:Db sf sf (bx (Gc (top 43) 0)):=∅
def O0:Db ["self","colours","name"] ["self"] (bx (Gc (top 43) 3)):=∅
def afJ:Db js js (bx (Gc (top 43) 4)):=∅
def Lb:Db ["self","name","way","home"] js (bx (Gc (top 43) 5)):=∅
def wO:Db ["self","asks","name","colours","own_asked"] JL (bx (Gc (top 43) 6)):=∅
def afO:Db sO sO (bx (Gc (top 43) 7)):=∅
def agv:Db sO sO (bx (Gc (top 43) 8)):=∅
def ahK:Db ["self"] ["self"] (bx (Gc (top 43) 9)):=∅
def Re:Db Mu ["self"] (bx (Gc (top 43) 10)):=∅
def aqU:Db DS DS (bx (Gc (top 43) 11)):=∅
def Za:Db js ["self"] (bx (Gc (top 43) 12)):=∅
def W4:Db ["self","stages","name"] sf (bx (Gc (top 45) 0)):=∅
def yz:Db ["self","comings","name","colours","went"] G' (bx (Gc (top 45) 3)):=∅
def aq3:Db G0 G0 (bx (Gc (top 45) 4)):=∅
def re:Db ["self","name","left","lots","went","came","many","some"] js (bx (Gc (top 45) 5)):=∅
def aes:Db DR DR (bx (Gc (top 47) 0)):=∅
def acy:Db mw mw (bx (Gc (top 48) 0)):=∅
def aqo:Db ["self"] ["self"] (bx (Gc (top 48) 1)):=∅
def adt:Db ["self"] ["self"] (bx (Gc (top 48) 2)):=∅
def acA:Db mW mW (bx (Gc (top 48) 3)):=∅
def akA:Db mw mw (bx (Gc (top 49) 0)):=∅
def acL:Db ["self"] ["self"] (bx (Gc (top 49) 1)):=∅
def am8:Db ["self"] ["self"] (bx (Gc (top 49) 2)):=∅
def adJ:Db mW mW (bx (Gc (top 49) 3)):=∅
def amQ:Db mw mw (bx (Gc (top 50) 0)):=∅
def amP:Db ["self"] ["self"] (bx (Gc (top 50) 1)):=∅
def alj:Db ["self"] ["self"] (bx (Gc (top 50) 2)):=∅
def ajH:Db mW mW (bx (Gc (top 50) 3)):=∅
def IG:Db ["self","places","ways","number","way"] FI (bx (Gc (top 58) 0)):=∅
def aob:Db ["self"] ["self"] (bx (Gc (top 58) 1)):=∅
def amw:Db js js (bx (Gc (top 58) 2)):=∅
def aa2:Db js js (bx (Gc (top 58) 3)):=∅
set_option genInjectivity false in
set_option genInjectivity false in
structure bQ where
 {Ej LA GV Eu E5 L_ OO JR N7 An H6 HW Ih Hr ci EU FF ES CG y' I' E8 GY Iz Lq KI Gk GR OZ ON MQ wq EI wf zB Py NM Cl GZ zC Tk sn Tm Ii LL EK CN Fc N0 Bb DO B_ ce BC Eg GN zv zQ I3 Fv Co EA GH Gs FA BP Fb CZ DL zM I7 zY FG Gf F_ zx BY Dc D4 AN E2 Fn Ce yI Gw Ci DI yO ad F8 x3 hW gh dN gD GP jU j0 jB iN tb AG:Addr}
 {EE Ph B1 E9 BZ KJ IS Kf H4 zG M' JP N2 NZ I_ GQ CF GD C3 zS Nb C_ Ef Js Ol Wp C7 FY MH JJ Oy w1 zn EB zj MA K6 FX yN Au OB B0 ET Pm ul CL Cv BQ Er Fs MK MT Lm PC MS Kk CB GF afy NX Jp HP NS Lk bi OV Dg Pn N4 FZ aqz F6 H3 OC Pa Gr HE N8 IP Fo HJ Mi Lf Gi Ig Jg K5 De A0 Uf Bk:FuncData}
 {T5 S_ QW Wl SN ZP Yp W_ Y3 T2 P2 Qo:Value}
section
variable(w:World)(K:bq)(mg:Str->Option Value)(t:bQ)
abbrev a0_aa:=(mg "in_bow"\⇑t.Ej)/\(b9 K "in_bow" "in_bow" (top 9) t.Ej t.EE)/\(mg "bows_cross"\⇑t.LA)/\(b9 K "bows_cross" "bows_cross" (top 10) t.LA t.Ph)/\(mg "meet"\⇑t.GV)/\(b9 K "meet" "meet" (top 11) t.GV t.B1)/\(mg "gap"\⇑t.Eu)/\(b9 K "gap" "gap" (top 12) t.Eu t.E9)/\(mg "words"\⇑t.E5)/\(b9 K "words" "words" (top 18) t.E5 t.BZ)/\(mg "is_made_of"\⇑t.L_)/\(b9 K "is_made_of" "is_made_of" (top 19) t.L_ t.KJ)/\(mg "is_number"\⇑t.OO)/\(b9 K "is_number" "is_number" (top 20) t.OO t.IS)/\(mg "figured"\⇑t.JR)/\(b9 K "figured" "figured" (top 21) t.JR t.Kf)/\(mg "is_name"\⇑t.N7)/\(b9 K "is_name" "is_name" (top 22) t.N7 t.H4)/\(mg "readers"\⇑t.An)/\(b9 K "readers" "readers" (top 25) t.An t.zG)
abbrev a0_ab:=(mg "sort_of"\⇑t.H6)/\(b9 K "sort_of" "sort_of" (top 30) t.H6 t.M')/\(mg "homes_in"\⇑t.HW)/\(b9 K "homes_in" "homes_in" (top 31) t.HW t.JP)/\(mg "change_turns"\⇑t.Ih)/\(b9 K "change_turns" "change_turns" (top 32) t.Ih t.N2)/\(mg "names_left"\⇑t.Hr)/\(b9 K "names_left" "names_left" (top 33) t.Hr t.NZ)/\(mg "read_members"\⇑t.ci)/\(b9 K "read_members" "read_members" (top 34) t.ci t.I_)/\(mg "read_stage"\⇑t.EU)/\(b9 K "read_stage" "read_stage" (top 35) t.EU t.GQ)/\(mg "refuse_never"\⇑t.FF)/\(b9 K "refuse_never" "refuse_never" (top 36) t.FF t.CF)/\(mg "refuse_short"\⇑t.ES)/\(b9 K "refuse_short" "refuse_short" (top 37) t.ES t.GD)/\(mg "refuse_clash"\⇑t.CG)/\(b9 K "refuse_clash" "refuse_clash" (top 38) t.CG t.C3)/\(mg "read_stages"\⇑t.y')/\(b9 K "read_stages" "read_stages" (top 39) t.y' t.zS)
abbrev a0_ac:=(mg "ways_in"\⇑t.I')/\(b9 K "ways_in" "ways_in" (top 40) t.I' t.Nb)/\(mg "change"\⇑t.E8)/\(b9 K "change" "change" (top 41) t.E8 t.C_)/\(mg "read_ring"\⇑t.GY)/\(b9 K "read_ring" "read_ring" (top 59) t.GY t.Ef)/\(mg "read_new_name"\⇑t.Iz)/\(b9 K "read_new_name" "read_new_name" (top 60) t.Iz t.Js)/\(mg "read_end"\⇑t.Lq)/\(b9 K "read_end" "read_end" (top 61) t.Lq t.Ol)/\(mg "made_way"\⇑t.KI)/\(b9 K "made_way" "made_way" (top 62) t.KI t.Wp)/\(mg "read_way"\⇑t.Gk)/\(b9 K "read_way" "read_way" (top 63) t.Gk t.C7)/\(mg "read_crossing"\⇑t.GR)/\(b9 K "read_crossing" "read_crossing" (top 64) t.GR t.FY)/\(mg "counted_to"\⇑t.OZ)/\(b9 K "counted_to" "counted_to" (top 66) t.OZ t.MH)/\(mg "of_other_sort"\⇑t.ON)/\(b9 K "of_other_sort" "of_other_sort" (top 67) t.ON t.JJ)
abbrev a0_ad:=(mg "place_at_first"\⇑t.MQ)/\(b9 K "place_at_first" "place_at_first" (top 68) t.MQ t.Oy)/\(mg "grown"\⇑t.wq)/\(b9 K "grown" "grown" (top 69) t.wq t.w1)/\(mg "chains_to"\⇑t.EI)/\(b9 K "chains_to" "chains_to" (top 70) t.EI t.zn)/\(mg "stays_in_chain"\⇑t.wf)/\(b9 K "stays_in_chain" "stays_in_chain" (top 71) t.wf t.EB)/\(mg "length"\⇑t.zB)/\(b9 K "length" "length" (top 72) t.zB t.zj)/\(mg "asks_of_leg"\⇑t.Py)/\(b9 K "asks_of_leg" "asks_of_leg" (top 73) t.Py t.MA)/\(mg "lead_in"\⇑t.NM)/\(b9 K "lead_in" "lead_in" (top 74) t.NM t.K6)/\(mg "asks_along"\⇑t.Cl)/\(b9 K "asks_along" "asks_along" (top 75) t.Cl t.FX)/\(mg "worst"\⇑t.GZ)/\(b9 K "worst" "worst" (top 76) t.GZ t.yN)/\(mg "_law_draw"\⇑t.zC)/\(b9 K "_law_draw" "_law_draw" (top 78) t.zC t.Au)
abbrev a0_ae:=(mg "_law_names"\⇑t.Tk)/\(b9 K "_law_names" "_law_names" (top 79) t.Tk t.OB)/\(mg "_law_ways"\⇑t.sn)/\(b9 K "_law_ways" "_law_ways" (top 80) t.sn t.B0)/\(mg "_law_text"\⇑t.Tm)/\(b9 K "_law_text" "_law_text" (top 81) t.Tm t.ET)/\(mg "_law_meet"\⇑t.Ii)/\(b9 K "_law_meet" "_law_meet" (top 82) t.Ii t.Pm)/\(mg "_law_alike"\⇑t.LL)/\(b9 K "_law_alike" "_law_alike" (top 83) t.LL t.ul)/\(mg "_law_stages"\⇑t.EK)/\(b9 K "_law_stages" "_law_stages" (top 84) t.EK t.CL)/\(mg "_law_stages_text"\⇑t.CN)/\(b9 K "_law_stages_text" "_law_stages_text" (top 85) t.CN t.Cv)/\(mg "_law_comings"\⇑t.Fc)/\(b9 K "_law_comings" "_law_comings" (top 86) t.Fc t.BQ)/\(mg "law"\⇑t.N0)/\(b9 K "law" "law" (top 87) t.N0 t.Er)/\(mg "RowReader"\⇑t.hW)/\(dA K ⇑t.hW "__init__"\(some ⇑t.Bb))
abbrev a0_af:=(b9 K "__init__" "RowReader.__init__" (Gc (top 24) 0) t.Bb t.Fs)/\(dA K ⇑t.hW "ahead"\(some ⇑t.DO))/\(b9 K "ahead" "RowReader.ahead" (Gc (top 24) 1) t.DO t.MK)/\(dA K ⇑t.hW "has_more"\(some ⇑t.B_))/\(b9 K "has_more" "RowReader.has_more" (Gc (top 24) 2) t.B_ t.MT)/\(dA K ⇑t.hW "take"\(some ⇑t.ce))/\(b9 K "take" "RowReader.take" (Gc (top 24) 4) t.ce t.Lm)/\(dA K ⇑t.hW "one_of"\(some ⇑t.BC))/\(b9 K "one_of" "RowReader.one_of" (Gc (top 24) 5) t.BC t.PC)/\(dA K ⇑t.hW "figures"\(some ⇑t.Eg))/\(b9 K "figures" "RowReader.figures" (Gc (top 24) 6) t.Eg t.MS)/\(dA K ⇑t.hW "finish"\(some ⇑t.GN))/\(b9 K "finish" "RowReader.finish" (Gc (top 24) 7) t.GN t.Kk)/\(mg "Stages"\⇑t.gh)/\(dA K ⇑t.gh "__init__"\(some ⇑t.zv))/\(b9 K "__init__" "Stages.__init__" (Gc (top 29) 0) t.zv t.CB)/\(mg "Keeper"\⇑t.dN)/\(dA K ⇑t.dN "__init__"\(some ⇑t.zQ))/\(b9 K "__init__" "Keeper.__init__" (Gc (top 43) 0) t.zQ t.GF)/\(dA K ⇑t.dN "stage"\(some ⇑t.I3))
abbrev a0_ag:=(b9 K "stage" "Keeper.stage" (Gc (top 43) 1) t.I3 t.afy)/\(dA K ⇑t.dN "shown"\(some ⇑t.Fv))/\(b9 K "shown" "Keeper.shown" (Gc (top 43) 3) t.Fv t.NX)/\(dA K ⇑t.dN "stage_colour"\(some ⇑t.Co))/\(b9 K "stage_colour" "Keeper.stage_colour" (Gc (top 43) 4) t.Co t.Jp)/\(dA K ⇑t.dN "change_colour"\(some ⇑t.EA))/\(b9 K "change_colour" "Keeper.change_colour" (Gc (top 43) 5) t.EA t.HP)/\(dA K ⇑t.dN "pass_turn"\(some ⇑t.GH))/\(b9 K "pass_turn" "Keeper.pass_turn" (Gc (top 43) 6) t.GH t.NS)/\(dA K ⇑t.dN "settle"\(some ⇑t.Gs))/\(b9 K "settle" "Keeper.settle" (Gc (top 43) 7) t.Gs t.Lk)/\(dA K ⇑t.dN "stays"\(some ⇑t.FA))/\(b9 K "stays" "Keeper.stays" (Gc (top 43) 8) t.FA t.bi)/\(dA K ⇑t.dN "tram_waits"\(some ⇑t.BP))/\(b9 K "tram_waits" "Keeper.tram_waits" (Gc (top 43) 9) t.BP t.OV)/\(dA K ⇑t.dN "pick"\(some ⇑t.Fb))/\(b9 K "pick" "Keeper.pick" (Gc (top 43) 10) t.Fb t.Dg)/\(dA K ⇑t.dN "leave_for"\(some ⇑t.CZ))/\(b9 K "leave_for" "Keeper.leave_for" (Gc (top 43) 11) t.CZ t.Pn)/\(dA K ⇑t.dN "show_sought"\(some ⇑t.DL))
abbrev a0_ah:=(b9 K "show_sought" "Keeper.show_sought" (Gc (top 43) 12) t.DL t.N4)/\(mg "Road"\⇑t.gD)/\(dA K ⇑t.gD "__init__"\(some ⇑t.zM))/\(b9 K "__init__" "Road.__init__" (Gc (top 45) 0) t.zM t.FZ)/\(dA K ⇑t.gD "shown"\(some ⇑t.I7))/\(b9 K "shown" "Road.shown" (Gc (top 45) 1) t.I7 t.aqz)/\(dA K ⇑t.gD "pass_turn"\(some ⇑t.zY))/\(b9 K "pass_turn" "Road.pass_turn" (Gc (top 45) 3) t.zY t.F6)/\(dA K ⇑t.gD "come"\(some ⇑t.FG))/\(b9 K "come" "Road.come" (Gc (top 45) 4) t.FG t.H3)/\(dA K ⇑t.gD "let_go"\(some ⇑t.Gf))/\(b9 K "let_go" "Road.let_go" (Gc (top 45) 5) t.Gf t.OC)/\(mg "Way"\⇑t.GP)/\(dA K ⇑t.GP "__init__"\(some ⇑t.F_))/\(b9 K "__init__" "Way.__init__" (Gc (top 47) 0) t.F_ t.Pa)/\(mg "CarWay"\⇑t.jU)/\(dA K ⇑t.jU "__init__"\(some ⇑t.zx))/\(b9 K "__init__" "CarWay.__init__" (Gc (top 48) 0) t.zx t.Gr)/\(dA K ⇑t.jU "ready"\(some ⇑t.BY))/\(b9 K "ready" "CarWay.ready" (Gc (top 48) 1) t.BY t.HE)
abbrev a0_ai:=(dA K ⇑t.jU "fade"\(some ⇑t.Dc))/\(b9 K "fade" "CarWay.fade" (Gc (top 48) 2) t.Dc t.N8)/\(dA K ⇑t.jU "goes"\(some ⇑t.D4))/\(b9 K "goes" "CarWay.goes" (Gc (top 48) 3) t.D4 t.IP)/\(mg "FootWay"\⇑t.j0)/\(dA K ⇑t.j0 "__init__"\(some ⇑t.AN))/\(b9 K "__init__" "FootWay.__init__" (Gc (top 49) 0) t.AN t.Fo)/\(dA K ⇑t.j0 "ready"\(some ⇑t.E2))/\(b9 K "ready" "FootWay.ready" (Gc (top 49) 1) t.E2 t.HJ)/\(dA K ⇑t.j0 "fade"\(some ⇑t.Fn))/\(b9 K "fade" "FootWay.fade" (Gc (top 49) 2) t.Fn t.Mi)/\(dA K ⇑t.j0 "goes"\(some ⇑t.Ce))/\(b9 K "goes" "FootWay.goes" (Gc (top 49) 3) t.Ce t.Lf)/\(mg "TramWay"\⇑t.jB)/\(dA K ⇑t.jB "__init__"\(some ⇑t.yI))/\(b9 K "__init__" "TramWay.__init__" (Gc (top 50) 0) t.yI t.Gi)/\(dA K ⇑t.jB "ready"\(some ⇑t.Gw))/\(b9 K "ready" "TramWay.ready" (Gc (top 50) 1) t.Gw t.Ig)/\(dA K ⇑t.jB "fade"\(some ⇑t.Ci))/\(b9 K "fade" "TramWay.fade" (Gc (top 50) 2) t.Ci t.Jg)
abbrev a0_aj:=(dA K ⇑t.jB "goes"\(some ⇑t.DI))/\(b9 K "goes" "TramWay.goes" (Gc (top 50) 3) t.DI t.K5)/\(mg "Crossing"\⇑t.iN)/\(dA K ⇑t.iN "__init__"\(some ⇑t.yO))/\(b9 K "__init__" "Crossing.__init__" (Gc (top 58) 0) t.yO t.De)/\(dA K ⇑t.iN "names"\(some ⇑t.ad))/\(b9 K "names" "Crossing.names" (Gc (top 58) 1) t.ad t.A0)/\(dA K ⇑t.iN "number"\(some ⇑t.F8))/\(b9 K "number" "Crossing.number" (Gc (top 58) 2) t.F8 t.Uf)/\(dA K ⇑t.iN "called"\(some ⇑t.x3))/\(b9 K "called" "Crossing.called" (Gc (top 58) 3) t.x3 t.Bk)/\(h3 K t.hW)/\(q8 K t.hW t.Bb)/\(fq K t.hW "ahead" t.DO)/\(fq K t.hW "has_more" t.B_)/\(fq K t.hW "take" t.ce)/\(fq K t.hW "one_of" t.BC)/\(fq K t.hW "figures" t.Eg)/\(fq K t.hW "finish" t.GN)/\(dD K t.hW "row")
abbrev a0_ak:=(dD K t.hW "told")/\(dD K t.hW "place")/\(h3 K t.gh)/\(q8 K t.gh t.zv)/\(dD K t.gh "crossing")/\(dD K t.gh "many")/\(dD K t.gh "leasts")/\(dD K t.gh "mosts")/\(dD K t.gh "members")/\(dD K t.gh "sorts")/\(dD K t.gh "homes")/\(dD K t.gh "changes")/\(h3 K t.dN)/\(q8 K t.dN t.zQ)/\(fq K t.dN "stage" t.I3)/\(fq K t.dN "shown" t.Fv)/\(fq K t.dN "stage_colour" t.Co)/\(fq K t.dN "change_colour" t.EA)/\(fq K t.dN "pass_turn" t.GH)/\(fq K t.dN "settle" t.Gs)
abbrev a0_al:=(fq K t.dN "stays" t.FA)/\(fq K t.dN "tram_waits" t.BP)/\(fq K t.dN "pick" t.Fb)/\(fq K t.dN "leave_for" t.CZ)/\(fq K t.dN "show_sought" t.DL)/\(dD K t.dN "stages")/\(dD K t.dN "showing")/\(dD K t.dN "lasted")/\(dD K t.dN "left")/\(dD K t.dN "sought")/\(dD K t.dN "gone")/\(dD K t.dN "waiting")/\(dD K t.dN "picked")/\(h3 K t.gD)/\(q8 K t.gD t.zM)/\(fq K t.gD "shown" t.I7)/\(fq K t.gD "pass_turn" t.zY)/\(fq K t.gD "come" t.FG)/\(fq K t.gD "let_go" t.Gf)/\(dD K t.gD "crossing")
abbrev a0_am:=(dD K t.gD "keeper")/\(dD K t.gD "turn")/\(dD K t.gD "standing")/\(dD K t.gD "lots")/\(h3 K t.GP)/\(h3 K t.jU)/\(q8 K t.jU t.zx)/\(fq K t.jU "ready" t.BY)/\(fq K t.jU "fade" t.Dc)/\(fq K t.jU "goes" t.D4)/\(dD K t.jU "kind")/\(dD K t.jU "name")/\(dD K t.jU "start")/\(dD K t.jU "end")/\(dD K t.jU "off")/\(dD K t.jU "near")/\(dD K t.jU "least")/\(h3 K t.j0)/\(q8 K t.j0 t.AN)/\(fq K t.j0 "ready" t.E2)
abbrev a0_an:=(fq K t.j0 "fade" t.Fn)/\(fq K t.j0 "goes" t.Ce)/\(dD K t.j0 "kind")/\(dD K t.j0 "name")/\(dD K t.j0 "start")/\(dD K t.j0 "end")/\(dD K t.j0 "off")/\(dD K t.j0 "near")/\(dD K t.j0 "least")/\(h3 K t.jB)/\(q8 K t.jB t.yI)/\(fq K t.jB "ready" t.Gw)/\(fq K t.jB "fade" t.Ci)/\(fq K t.jB "goes" t.DI)/\(dD K t.jB "kind")/\(dD K t.jB "name")/\(dD K t.jB "start")/\(dD K t.jB "end")/\(dD K t.jB "off")/\(dD K t.jB "near")
abbrev a0_ao:=(dD K t.jB "least")/\(h3 K t.iN)/\(q8 K t.iN t.yO)/\(fq K t.iN "names" t.ad)/\(fq K t.iN "number" t.F8)/\(fq K t.iN "called" t.x3)/\(dD K t.iN "places")/\(dD K t.iN "ways")/\(dD K t.iN "numbers")/\(t.jU≠t.j0)/\(t.jU≠t.jB)/\(t.j0≠t.jB)/\(Qh K t.GP "__init__" t.F_)/\(mg "FIGURES"\t.T5)/\(bX (.str (ab "0123456789")) t.T5)/\(mg "LEAST_PLACES"\t.S_)/\(bX (.int 2) t.S_)/\(mg "LETTERS"\t.QW)/\(bX (.str (ab "abcdefghijklmnopqrstuvwxyz")) t.QW)/\(mg "MOST_FIGURES"\t.Wl)
abbrev a0_ap:=(bX (.int 3) t.Wl)/\(mg "MOST_LEAST"\t.SN)/\(bX (.int 60) t.SN)/\(mg "MOST_LETTERS"\t.ZP)/\(bX (.int 8) t.ZP)/\(mg "MOST_NEAR"\t.Yp)/\(bX (.int 30) t.Yp)/\(mg "MOST_OFF"\t.W_)/\(bX (.int 30) t.W_)/\(mg "MOST_PLACES"\t.Y3)/\(bX (.int 99) t.Y3)/\(mg "MOST_STAGES"\t.T2)/\(bX (.int 6) t.T2)/\(mg "MOST_TURNS"\t.P2)/\(bX (.int 60) t.P2)/\(mg "MOST_WAYS"\t.Qo)/\(bX (.int 12) t.Qo)/\(mg "all"=none)/\(mg "any"=none)/\(mg "enumerate"=none)
abbrev a0_aq:=(mg "int"=none)/\(mg "len"=none)/\(mg "list"=none)/\(mg "max"=none)/\(mg "min"=none)/\(mg "range"=none)/\(mg "str"=none)/\(mg "sum"=none)/\(mg "zip"=none)/\(t.Dg.code=⇑t.tb)/\(t.yN.code=⇑t.AG)/\(∀(s:Shared) (u:Value),BindsTo s t.Er ([u],[]) [(p'p ("_law_script") u)])
end
structure Txt(w:World)(K:bq)(mg:Str->Option Value)(t:bQ):Prop where
 jG:a0_aa K mg t
 jD:a0_ab K mg t
 j2:a0_ac K mg t
 jI:a0_ad K mg t
 km:a0_ae K mg t
 ph:a0_af K mg t
 rL:a0_ag K t
 pS:a0_ah K mg t
 qe:a0_ai K mg t
 l_:a0_aj K mg t
 j4:a0_ak K t
 kr:a0_al K t
 ki:a0_am K t
 jW:a0_an K t
 jz:a0_ao K mg t
 jY:a0_ap mg t
 o6:a0_aq mg t
section
variable{w:World}{K:bq}{mg:Str->Option Value}{t:bQ}(T:Txt w K mg t)
include T
def Txt.Vf:=T.jG.1
def Txt.ww:=T.jG.2.1
def Txt.alq:=T.jG.2.2.1
def Txt.Ka:=T.jG.2.2.2.1
def Txt.ZK:=T.jG.2.2.2.2.1
def Txt.Cd:=T.jG.2.2.2.2.2.1
def Txt.agp:=T.jG.2.2.2.2.2.2.1
def Txt.IF:=T.jG.2.2.2.2.2.2.2.1
def Txt.aow:=T.jG.2.2.2.2.2.2.2.2.1
def Txt.MP:=T.jG.2.2.2.2.2.2.2.2.2.1
def Txt.Ws:=T.jG.2.2.2.2.2.2.2.2.2.2.1
def Txt.F3:=T.jG.2.2.2.2.2.2.2.2.2.2.2.1
def Txt.anr:=T.jG.2.2.2.2.2.2.2.2.2.2.2.2.1
def Txt.J9:=T.jG.2.2.2.2.2.2.2.2.2.2.2.2.2.1
def Txt.ac4:=T.jG.2.2.2.2.2.2.2.2.2.2.2.2.2.2.1
def Txt.OP:=T.jG.2.2.2.2.2.2.2.2.2.2.2.2.2.2.2.1
def Txt.aoD:=T.jG.2.2.2.2.2.2.2.2.2.2.2.2.2.2.2.2.1
def Txt.Kq:=T.jG.2.2.2.2.2.2.2.2.2.2.2.2.2.2.2.2.2.1
def Txt.WR:=T.jG.2.2.2.2.2.2.2.2.2.2.2.2.2.2.2.2.2.2.1
def Txt.CU:=T.jG.2.2.2.2.2.2.2.2.2.2.2.2.2.2.2.2.2.2.2
def Txt.HA:=T.jD.1
def Txt.z1:=T.jD.2.1
def Txt.Ox:=T.jD.2.2.1
def Txt.Bt:=T.jD.2.2.2.1
def Txt.agw:=T.jD.2.2.2.2.1
def Txt.OR:=T.jD.2.2.2.2.2.1
def Txt.VN:=T.jD.2.2.2.2.2.2.1
def Txt.DE:=T.jD.2.2.2.2.2.2.2.1
def Txt.ai0:=T.jD.2.2.2.2.2.2.2.2.1
def Txt.OJ:=T.jD.2.2.2.2.2.2.2.2.2.1
def Txt.acZ:=T.jD.2.2.2.2.2.2.2.2.2.2.1
def Txt.Kj:=T.jD.2.2.2.2.2.2.2.2.2.2.2.1
def Txt.abj:=T.jD.2.2.2.2.2.2.2.2.2.2.2.2.1
def Txt.Oi:=T.jD.2.2.2.2.2.2.2.2.2.2.2.2.2.1
def Txt.agP:=T.jD.2.2.2.2.2.2.2.2.2.2.2.2.2.2.1
def Txt.KQ:=T.jD.2.2.2.2.2.2.2.2.2.2.2.2.2.2.2.1
def Txt.ab1:=T.jD.2.2.2.2.2.2.2.2.2.2.2.2.2.2.2.2.1
def Txt.Jz:=T.jD.2.2.2.2.2.2.2.2.2.2.2.2.2.2.2.2.2.1
def Txt.ab_:=T.jD.2.2.2.2.2.2.2.2.2.2.2.2.2.2.2.2.2.2.1
def Txt.LB:=T.jD.2.2.2.2.2.2.2.2.2.2.2.2.2.2.2.2.2.2.2
def Txt.VD:=T.j2.1
def Txt.C9:=T.j2.2.1
def Txt.yE:=T.j2.2.2.1
def Txt.vz:=T.j2.2.2.2.1
def Txt.akE:=T.j2.2.2.2.2.1
def Txt.Ms:=T.j2.2.2.2.2.2.1
def Txt.ak_:=T.j2.2.2.2.2.2.2.1
def Txt.Lc:=T.j2.2.2.2.2.2.2.2.1
def Txt.asj:=T.j2.2.2.2.2.2.2.2.2.1
def Txt.Ip:=T.j2.2.2.2.2.2.2.2.2.2.1
def Txt.agi:=T.j2.2.2.2.2.2.2.2.2.2.2.1
def Txt.HG:=T.j2.2.2.2.2.2.2.2.2.2.2.2.1
def Txt.ac6:=T.j2.2.2.2.2.2.2.2.2.2.2.2.2.1
def Txt.NV:=T.j2.2.2.2.2.2.2.2.2.2.2.2.2.2.1
def Txt.acX:=T.j2.2.2.2.2.2.2.2.2.2.2.2.2.2.2.1
def Txt.Hf:=T.j2.2.2.2.2.2.2.2.2.2.2.2.2.2.2.2.1
def Txt.akp:=T.j2.2.2.2.2.2.2.2.2.2.2.2.2.2.2.2.2.1
def Txt.Il:=T.j2.2.2.2.2.2.2.2.2.2.2.2.2.2.2.2.2.2.1
def Txt.alp:=T.j2.2.2.2.2.2.2.2.2.2.2.2.2.2.2.2.2.2.2.1
def Txt.HC:=T.j2.2.2.2.2.2.2.2.2.2.2.2.2.2.2.2.2.2.2.2
def Txt.ap0:=T.jI.1
def Txt.HF:=T.jI.2.1
def Txt.O9:=T.jI.2.2.1
def Txt.x8:=T.jI.2.2.2.1
def Txt.acD:=T.jI.2.2.2.2.1
def Txt.Mx:=T.jI.2.2.2.2.2.1
def Txt.Vz:=T.jI.2.2.2.2.2.2.1
def Txt.Dm:=T.jI.2.2.2.2.2.2.2.1
def Txt.Yq:=T.jI.2.2.2.2.2.2.2.2.1
def Txt.Ea:=T.jI.2.2.2.2.2.2.2.2.2.1
def Txt.Tp:=T.jI.2.2.2.2.2.2.2.2.2.2.1
def Txt.BG:=T.jI.2.2.2.2.2.2.2.2.2.2.2.1
def Txt.adB:=T.jI.2.2.2.2.2.2.2.2.2.2.2.2.1
def Txt.Kd:=T.jI.2.2.2.2.2.2.2.2.2.2.2.2.2.1
def Txt.agf:=T.jI.2.2.2.2.2.2.2.2.2.2.2.2.2.2.1
def Txt.Mo:=T.jI.2.2.2.2.2.2.2.2.2.2.2.2.2.2.2.1
def Txt.amN:=T.jI.2.2.2.2.2.2.2.2.2.2.2.2.2.2.2.2.1
def Txt.Nr:=T.jI.2.2.2.2.2.2.2.2.2.2.2.2.2.2.2.2.2.1
def Txt.gQ:=T.jI.2.2.2.2.2.2.2.2.2.2.2.2.2.2.2.2.2.2.1
def Txt.f':=T.jI.2.2.2.2.2.2.2.2.2.2.2.2.2.2.2.2.2.2.2
def Txt.aaR:=T.km.1
def Txt.Kc:=T.km.2.1
def Txt.ahf:=T.km.2.2.1
def Txt.Pp:=T.km.2.2.2.1
def Txt.am4:=T.km.2.2.2.2.1
def Txt.K9:=T.km.2.2.2.2.2.1
def Txt.alY:=T.km.2.2.2.2.2.2.1
def Txt.HO:=T.km.2.2.2.2.2.2.2.1
def Txt.alu:=T.km.2.2.2.2.2.2.2.2.1
def Txt.Nh:=T.km.2.2.2.2.2.2.2.2.2.1
def Txt.afs:=T.km.2.2.2.2.2.2.2.2.2.2.1
def Txt.NK:=T.km.2.2.2.2.2.2.2.2.2.2.2.1
def Txt.apO:=T.km.2.2.2.2.2.2.2.2.2.2.2.2.1
def Txt.MU:=T.km.2.2.2.2.2.2.2.2.2.2.2.2.2.1
def Txt.abW:=T.km.2.2.2.2.2.2.2.2.2.2.2.2.2.2.1
def Txt.am:=T.km.2.2.2.2.2.2.2.2.2.2.2.2.2.2.2.1
def Txt.aeJ:=T.km.2.2.2.2.2.2.2.2.2.2.2.2.2.2.2.2.1
def Txt.afw:=T.km.2.2.2.2.2.2.2.2.2.2.2.2.2.2.2.2.2.1
def Txt.an':=T.km.2.2.2.2.2.2.2.2.2.2.2.2.2.2.2.2.2.2.1
def Txt.YC:=T.ph.1
def Txt.aag:=T.ph.2.2.1
def Txt.Yy:=T.ph.2.2.2.2.1
def Txt.Xs:=T.ph.2.2.2.2.2.2.1
def Txt.W2:=T.ph.2.2.2.2.2.2.2.2.1
def Txt.SV:=T.ph.2.2.2.2.2.2.2.2.2.2.1
def Txt.SP:=T.ph.2.2.2.2.2.2.2.2.2.2.2.2.1
def Txt.arl:=T.ph.2.2.2.2.2.2.2.2.2.2.2.2.2.1
def Txt.X8:=T.ph.2.2.2.2.2.2.2.2.2.2.2.2.2.2.2.1
def Txt.ace:=T.ph.2.2.2.2.2.2.2.2.2.2.2.2.2.2.2.2.1
def Txt.Qx:=T.ph.2.2.2.2.2.2.2.2.2.2.2.2.2.2.2.2.2.2.1
def Txt.T8:=T.rL.2.2.1
def Txt.VA:=T.rL.2.2.2.2.1
def Txt.Zs:=T.rL.2.2.2.2.2.2.1
def Txt.PR:=T.rL.2.2.2.2.2.2.2.2.1
def Txt.PF:=T.rL.2.2.2.2.2.2.2.2.2.2.1
def Txt.Yb:=T.rL.2.2.2.2.2.2.2.2.2.2.2.2.1
def Txt.Vy:=T.rL.2.2.2.2.2.2.2.2.2.2.2.2.2.2.1
def Txt.Rh:=T.rL.2.2.2.2.2.2.2.2.2.2.2.2.2.2.2.2.1
def Txt.Zr:=T.rL.2.2.2.2.2.2.2.2.2.2.2.2.2.2.2.2.2.2.1
def Txt.aad:=T.pS.1
def Txt.ajS:=T.pS.2.1
def Txt.Sp:=T.pS.2.2.2.1
def Txt.Yv:=T.pS.2.2.2.2.2.2.2.1
def Txt.T1:=T.pS.2.2.2.2.2.2.2.2.2.1
def Txt.XE:=T.pS.2.2.2.2.2.2.2.2.2.2.2.1
def Txt.Lp:=T.pS.2.2.2.2.2.2.2.2.2.2.2.2.1
def Txt.Qe:=T.pS.2.2.2.2.2.2.2.2.2.2.2.2.2.2.1
def Txt.amL:=T.pS.2.2.2.2.2.2.2.2.2.2.2.2.2.2.2.1
def Txt.RL:=T.pS.2.2.2.2.2.2.2.2.2.2.2.2.2.2.2.2.2.1
def Txt.UM:=T.pS.2.2.2.2.2.2.2.2.2.2.2.2.2.2.2.2.2.2.2
def Txt.Vj:=T.qe.2.1
def Txt.Uv:=T.qe.2.2.2.1
def Txt.aby:=T.qe.2.2.2.2.1
def Txt.S4:=T.qe.2.2.2.2.2.2.1
def Txt.aaD:=T.qe.2.2.2.2.2.2.2.2.1
def Txt.QM:=T.qe.2.2.2.2.2.2.2.2.2.2.1
def Txt.WY:=T.qe.2.2.2.2.2.2.2.2.2.2.2.2.1
def Txt.akr:=T.qe.2.2.2.2.2.2.2.2.2.2.2.2.2.1
def Txt.Rt:=T.qe.2.2.2.2.2.2.2.2.2.2.2.2.2.2.2.1
def Txt.Do:=T.qe.2.2.2.2.2.2.2.2.2.2.2.2.2.2.2.2.2.1
def Txt.Wy:=T.qe.2.2.2.2.2.2.2.2.2.2.2.2.2.2.2.2.2.2.2
def Txt.Ym:=T.l_.2.1
def Txt.aaM:=T.l_.2.2.1
def Txt.TK:=T.l_.2.2.2.2.1
def Txt.QQ:=T.l_.2.2.2.2.2.2.1
def Txt.Sx:=T.l_.2.2.2.2.2.2.2.2.1
def Txt.U9:=T.l_.2.2.2.2.2.2.2.2.2.2.1
def Txt.gK:=T.l_.2.2.2.2.2.2.2.2.2.2.2.1
def Txt.aiK:=T.l_.2.2.2.2.2.2.2.2.2.2.2.2.1
def Txt.D3:=T.l_.2.2.2.2.2.2.2.2.2.2.2.2.2.1
def Txt.Wb:=T.l_.2.2.2.2.2.2.2.2.2.2.2.2.2.2.1
def Txt.MB:=T.l_.2.2.2.2.2.2.2.2.2.2.2.2.2.2.2.1
def Txt.AJ:=T.l_.2.2.2.2.2.2.2.2.2.2.2.2.2.2.2.2.1
def Txt.s8:=T.l_.2.2.2.2.2.2.2.2.2.2.2.2.2.2.2.2.2.1
def Txt.aaw:=T.l_.2.2.2.2.2.2.2.2.2.2.2.2.2.2.2.2.2.2.1
def Txt.asy:=T.l_.2.2.2.2.2.2.2.2.2.2.2.2.2.2.2.2.2.2.2
def Txt.XR:=T.j4.1
def Txt.L9:=T.j4.2.1
def Txt.k8:=T.j4.2.2.1
def Txt.WP:=T.j4.2.2.2.1
def Txt.aaE:=T.j4.2.2.2.2.1
def Txt.UC:=T.j4.2.2.2.2.2.1
def Txt.UP:=T.j4.2.2.2.2.2.2.1
def Txt.Wn:=T.j4.2.2.2.2.2.2.2.1
def Txt.KP:=T.j4.2.2.2.2.2.2.2.2.1
def Txt.Zy:=T.j4.2.2.2.2.2.2.2.2.2.1
def Txt.ZU:=T.j4.2.2.2.2.2.2.2.2.2.2.1
def Txt.PG:=T.j4.2.2.2.2.2.2.2.2.2.2.2.1
def Txt.fA:=T.j4.2.2.2.2.2.2.2.2.2.2.2.2.1
def Txt.ap2:=T.j4.2.2.2.2.2.2.2.2.2.2.2.2.2.1
def Txt.arc:=T.j4.2.2.2.2.2.2.2.2.2.2.2.2.2.2.2.1
def Txt.No:=T.j4.2.2.2.2.2.2.2.2.2.2.2.2.2.2.2.2.1
def Txt.aj2:=T.j4.2.2.2.2.2.2.2.2.2.2.2.2.2.2.2.2.2.1
def Txt.aju:=T.j4.2.2.2.2.2.2.2.2.2.2.2.2.2.2.2.2.2.2.1
def Txt.an6:=T.j4.2.2.2.2.2.2.2.2.2.2.2.2.2.2.2.2.2.2.2
def Txt.ak2:=T.kr.1
def Txt.aeA:=T.kr.2.1
def Txt.aru:=T.kr.2.2.1
def Txt.Os:=T.kr.2.2.2.1
def Txt.Un:=T.kr.2.2.2.2.1
def Txt.Zu:=T.kr.2.2.2.2.2.1
def Txt.Cf:=T.kr.2.2.2.2.2.2.1
def Txt.GW:=T.kr.2.2.2.2.2.2.2.1
def Txt.Tl:=T.kr.2.2.2.2.2.2.2.2.1
def Txt.Mm:=T.kr.2.2.2.2.2.2.2.2.2.1
def Txt.BN:=T.kr.2.2.2.2.2.2.2.2.2.2.1
def Txt.QX:=T.kr.2.2.2.2.2.2.2.2.2.2.2.1
def Txt.S5:=T.kr.2.2.2.2.2.2.2.2.2.2.2.2.1
def Txt.mU:=T.kr.2.2.2.2.2.2.2.2.2.2.2.2.2.1
def Txt.akl:=T.kr.2.2.2.2.2.2.2.2.2.2.2.2.2.2.1
def Txt.ajV:=T.kr.2.2.2.2.2.2.2.2.2.2.2.2.2.2.2.2.1
def Txt.abg:=T.kr.2.2.2.2.2.2.2.2.2.2.2.2.2.2.2.2.2.1
def Txt.arN:=T.kr.2.2.2.2.2.2.2.2.2.2.2.2.2.2.2.2.2.2.1
def Txt.Ua:=T.kr.2.2.2.2.2.2.2.2.2.2.2.2.2.2.2.2.2.2.2
def Txt.RQ:=T.ki.1
def Txt.NH:=T.ki.2.1
def Txt.P0:=T.ki.2.2.1
def Txt.RJ:=T.ki.2.2.2.1
def Txt.DB:=T.ki.2.2.2.2.2.1
def Txt.aiq:=T.ki.2.2.2.2.2.2.1
def Txt.arx:=T.ki.2.2.2.2.2.2.2.1
def Txt.adA:=T.ki.2.2.2.2.2.2.2.2.1
def Txt.ahZ:=T.ki.2.2.2.2.2.2.2.2.2.1
def Txt.asm:=T.ki.2.2.2.2.2.2.2.2.2.2.1
def Txt.aft:=T.ki.2.2.2.2.2.2.2.2.2.2.2.1
def Txt.ahE:=T.ki.2.2.2.2.2.2.2.2.2.2.2.2.1
def Txt.alH:=T.ki.2.2.2.2.2.2.2.2.2.2.2.2.2.1
def Txt.ahO:=T.ki.2.2.2.2.2.2.2.2.2.2.2.2.2.2.1
def Txt.ahx:=T.ki.2.2.2.2.2.2.2.2.2.2.2.2.2.2.2.1
def Txt.aiQ:=T.ki.2.2.2.2.2.2.2.2.2.2.2.2.2.2.2.2.1
def Txt.B2:=T.ki.2.2.2.2.2.2.2.2.2.2.2.2.2.2.2.2.2.1
def Txt.ahS:=T.ki.2.2.2.2.2.2.2.2.2.2.2.2.2.2.2.2.2.2.1
def Txt.apL:=T.ki.2.2.2.2.2.2.2.2.2.2.2.2.2.2.2.2.2.2.2
def Txt.akU:=T.jW.1
def Txt.abN:=T.jW.2.1
def Txt.aj8:=T.jW.2.2.1
def Txt.ao1:=T.jW.2.2.2.1
def Txt.aph:=T.jW.2.2.2.2.1
def Txt.aiF:=T.jW.2.2.2.2.2.1
def Txt.afg:=T.jW.2.2.2.2.2.2.1
def Txt.aqb:=T.jW.2.2.2.2.2.2.2.1
def Txt.akH:=T.jW.2.2.2.2.2.2.2.2.1
def Txt.GO:=T.jW.2.2.2.2.2.2.2.2.2.1
def Txt.adf:=T.jW.2.2.2.2.2.2.2.2.2.2.1
def Txt.aem:=T.jW.2.2.2.2.2.2.2.2.2.2.2.1
def Txt.abO:=T.jW.2.2.2.2.2.2.2.2.2.2.2.2.1
def Txt.agQ:=T.jW.2.2.2.2.2.2.2.2.2.2.2.2.2.1
def Txt.asr:=T.jW.2.2.2.2.2.2.2.2.2.2.2.2.2.2.1
def Txt.aod:=T.jW.2.2.2.2.2.2.2.2.2.2.2.2.2.2.2.1
def Txt.ap_:=T.jW.2.2.2.2.2.2.2.2.2.2.2.2.2.2.2.2.1
def Txt.amZ:=T.jW.2.2.2.2.2.2.2.2.2.2.2.2.2.2.2.2.2.1
def Txt.alZ:=T.jW.2.2.2.2.2.2.2.2.2.2.2.2.2.2.2.2.2.2.1
def Txt.asw:=T.jW.2.2.2.2.2.2.2.2.2.2.2.2.2.2.2.2.2.2.2
def Txt.ad':=T.jz.1
def Txt.ac:=T.jz.2.1
def Txt.aiI:=T.jz.2.2.1
def Txt.be:=T.jz.2.2.2.1
def Txt.aiA:=T.jz.2.2.2.2.1
def Txt.nE:=T.jz.2.2.2.2.2.1
def Txt.W7:=T.jz.2.2.2.2.2.2.1
def Txt.Ri:=T.jz.2.2.2.2.2.2.2.1
def Txt.Sj:=T.jz.2.2.2.2.2.2.2.2.1
def Txt.P1:=T.jz.2.2.2.2.2.2.2.2.2.1
def Txt.PN:=T.jz.2.2.2.2.2.2.2.2.2.2.1
def Txt.VM:=T.jz.2.2.2.2.2.2.2.2.2.2.2.1
def Txt.Jo:=T.jz.2.2.2.2.2.2.2.2.2.2.2.2.1
def Txt.aqf:=T.jz.2.2.2.2.2.2.2.2.2.2.2.2.2.1
def Txt.alE:=T.jz.2.2.2.2.2.2.2.2.2.2.2.2.2.2.1
def Txt.agS:=T.jz.2.2.2.2.2.2.2.2.2.2.2.2.2.2.2.1
def Txt.adZ:=T.jz.2.2.2.2.2.2.2.2.2.2.2.2.2.2.2.2.1
def Txt.ahC:=T.jz.2.2.2.2.2.2.2.2.2.2.2.2.2.2.2.2.2.1
def Txt.alx:=T.jz.2.2.2.2.2.2.2.2.2.2.2.2.2.2.2.2.2.2.1
def Txt.ajk:=T.jz.2.2.2.2.2.2.2.2.2.2.2.2.2.2.2.2.2.2.2
def Txt.akT:=T.jY.1
def Txt.aeV:=T.jY.2.1
def Txt.adR:=T.jY.2.2.1
def Txt.ank:=T.jY.2.2.2.1
def Txt.ad5:=T.jY.2.2.2.2.1
def Txt.afX:=T.jY.2.2.2.2.2.1
def Txt.arZ:=T.jY.2.2.2.2.2.2.1
def Txt.apC:=T.jY.2.2.2.2.2.2.2.1
def Txt.anB:=T.jY.2.2.2.2.2.2.2.2.1
def Txt.ak1:=T.jY.2.2.2.2.2.2.2.2.2.1
def Txt.adK:=T.jY.2.2.2.2.2.2.2.2.2.2.1
def Txt.abJ:=T.jY.2.2.2.2.2.2.2.2.2.2.2.1
def Txt.agr:=T.jY.2.2.2.2.2.2.2.2.2.2.2.2.1
def Txt.aak:=T.jY.2.2.2.2.2.2.2.2.2.2.2.2.2.1
def Txt.RU:=T.jY.2.2.2.2.2.2.2.2.2.2.2.2.2.2.1
def Txt.al2:=T.jY.2.2.2.2.2.2.2.2.2.2.2.2.2.2.2.1
def Txt.aog:=T.jY.2.2.2.2.2.2.2.2.2.2.2.2.2.2.2.2.1
def Txt.aoT:=T.jY.2.2.2.2.2.2.2.2.2.2.2.2.2.2.2.2.2.1
def Txt.afu:=T.jY.2.2.2.2.2.2.2.2.2.2.2.2.2.2.2.2.2.2.1
def Txt.B':=T.jY.2.2.2.2.2.2.2.2.2.2.2.2.2.2.2.2.2.2.2
def Txt.Nu:=T.o6.1
def Txt.hX:=T.o6.2.1
def Txt.adE:=T.o6.2.2.1
def Txt.E6:=T.o6.2.2.2.1
def Txt.yQ:=T.o6.2.2.2.2.1
def Txt.j5:=T.o6.2.2.2.2.2.1
def Txt.dL:=T.o6.2.2.2.2.2.2.1
def Txt.YD:=T.o6.2.2.2.2.2.2.2.1
def Txt.Hg:=T.o6.2.2.2.2.2.2.2.2.1
def Txt.ak':=T.o6.2.2.2.2.2.2.2.2.2.1
def Txt.abe:=T.o6.2.2.2.2.2.2.2.2.2.2.1
def Txt.agD:=T.o6.2.2.2.2.2.2.2.2.2.2.2
def Txt.We:b7 K t.EE EZ []:=T.ww.binds λ_ _ _ _ _ _=>hN λ_ _ _=>rfl
def Txt.adT:b7 K t.Ph F1 []:=T.Ka.binds λ_ _ _ _ _ _=>hN λ_ _ _=>rfl
def Txt.T6:b7 K t.B1 s9 []:=T.Cd.binds λ_ _ _ _ _ _=>hN λ_ _ _=>rfl
def Txt.ajX:b7 K t.E9 s9 []:=T.IF.binds λ_ _ _ _ _ _=>hN λ_ _ _=>rfl
def Txt.apR:b7 K t.BZ ["text"] []:=T.MP.binds λ_ _ _ _ _ _=>jF λ_=>rfl
def Txt.Wz:b7 K t.KJ Ar []:=T.F3.binds λ_ _ _ _ _ _=>hN λ_ _ _=>rfl
def Txt.apS:b7 K t.IS F9 []:=T.J9.binds λ_ _ _ _ _ _=>fI λ_ _=>rfl
def Txt.KM:b7 K t.Kf M3 []:=T.OP.binds λ_ _ _ _ _ _=>hN λ_ _ _=>rfl
def Txt.amH:b7 K t.H4 ["word"] []:=T.Kq.binds λ_ _ _ _ _ _=>jF λ_=>rfl
def Txt.YN:b7 K t.zG ["text"] []:=T.CU.binds λ_ _ _ _ _ _=>jF λ_=>rfl
def Txt.JE:b7 K t.M' Fd []:=T.z1.binds λ_ _ _ _ _ _=>fI λ_ _=>rfl
def Txt.Hn:b7 K t.JP ["members"] []:=T.Bt.binds λ_ _ _ _ _ _=>jF λ_=>rfl
def Txt.ak0:b7 K t.N2 H0 []:=T.OR.binds λ_ _ _ _ _ _=>hN λ_ _ _=>rfl
def Txt.lv:b7 K t.NZ mb []:=T.DE.binds λ_ _ _ _ _ _=>fI λ_ _=>rfl
def Txt.asq:b7 K t.I_ Pg []:=T.OJ.binds λ_ _ _ _ _ _=>hN λ_ _ _=>rfl
def Txt.age:b7 K t.GQ Gn []:=T.Kj.binds λ_ _ _ _ _ _=>hN λ_ _ _=>rfl
def Txt.aoo:b7 K t.CF mb []:=T.Oi.binds λ_ _ _ _ _ _=>fI λ_ _=>rfl
def Txt.aep:b7 K t.GD mb []:=T.KQ.binds λ_ _ _ _ _ _=>fI λ_ _=>rfl
def Txt.aqR:b7 K t.C3 mb []:=T.Jz.binds λ_ _ _ _ _ _=>fI λ_ _=>rfl
def Txt.afY:b7 K t.zS A7 []:=T.LB.binds λ_ _ _ _ _ _=>fI λ_ _=>rfl
def Txt.QZ:b7 K t.Nb CC []:=T.C9.binds λ_ _ _ _ _ _=>fI λ_ _=>rfl
def Txt.za:b7 K t.C_ Ay []:=T.vz.binds λ_ _ _ _ _ _=>hN λ_ _ _=>rfl
def Txt.KF:b7 K t.Ef ["reader"] []:=T.Ms.binds λ_ _ _ _ _ _=>jF λ_=>rfl
def Txt.afo:b7 K t.Js KX []:=T.Lc.binds λ_ _ _ _ _ _=>fI λ_ _=>rfl
def Txt.agU:b7 K t.Ol Dz []:=T.Ip.binds λ_ _ _ _ _ _=>hN λ_ _ _=>rfl
def Txt.aj3:b7 K t.Wp Di []:=T.HG.binds λ_ _ _ _ _ _=>Es λ_ _ _ _ _ _ _=>rfl
def Txt.aiP:b7 K t.C7 G7 []:=T.NV.binds λ_ _ _ _ _ _=>hN λ_ _ _=>rfl
def Txt.acK:b7 K t.FY ["text"] []:=T.Hf.binds λ_ _ _ _ _ _=>jF λ_=>rfl
def Txt.aq_:b7 K t.MH k9 []:=T.Il.binds λ_ _ _ _ _ _=>fI λ_ _=>rfl
def Txt.aqY:b7 K t.JJ k9 []:=T.HC.binds λ_ _ _ _ _ _=>fI λ_ _=>rfl
def Txt.ahb:b7 K t.Oy Fg []:=T.HF.binds λ_ _ _ _ _ _=>hN λ_ _ _=>rfl
def Txt.J_:b7 K t.w1 yn []:=T.x8.binds λ_ _ _ _ _ _=>Qg λ_ _ _ _=>rfl
def Txt.aiM:b7 K t.zn k9 []:=T.Mx.binds λ_ _ _ _ _ _=>fI λ_ _=>rfl
def Txt.XB:b7 K t.EB k9 []:=T.Dm.binds λ_ _ _ _ _ _=>fI λ_ _=>rfl
def Txt.Qf:b7 K t.zj y2 []:=T.Ea.binds λ_ _ _ _ _ _=>hN λ_ _ _=>rfl
def Txt.Xu:b7 K t.MA MC []:=T.BG.binds λ_ _ _ _ _ _=>Qg λ_ _ _ _=>rfl
def Txt.aaW:b7 K t.K6 MX []:=T.Kd.binds λ_ _ _ _ _ _=>hN λ_ _ _=>rfl
def Txt.aoe:b7 K t.FX Fq []:=T.Mo.binds λ_ _ _ _ _ _=>hN λ_ _ _=>rfl
def Txt.amh:b7 K t.yN Dv []:=T.Nr.binds λ_ _ _ _ _ _=>fI λ_ _=>rfl
def Txt.gV:b7 K t.Au z4 []:=T.f'.binds λ_ _ _ _ _ _=>hN λ_ _ _=>rfl
def Txt.afv:b7 K t.OB Hh []:=T.Kc.binds λ_ _ _ _ _ _=>fI λ_ _=>rfl
def Txt.ars:b7 K t.B0 FP []:=T.Pp.binds λ_ _ _ _ _ _=>fI λ_ _=>rfl
def Txt.aiW:b7 K t.ET CJ []:=T.K9.binds λ_ _ _ _ _ _=>fI λ_ _=>rfl
def Txt.akP:b7 K t.Pm JB []:=T.HO.binds λ_ _ _ _ _ _=>hN λ_ _ _=>rfl
def Txt.GE:b7 K t.ul IY []:=T.Nh.binds λ_ _ _ _ _ _=>hN λ_ _ _=>rfl
def Txt.adG:b7 K t.CL D8 []:=T.NK.binds λ_ _ _ _ _ _=>hN λ_ _ _=>rfl
def Txt.arA:b7 K t.Cv EG []:=T.MU.binds λ_ _ _ _ _ _=>fI λ_ _=>rfl
def Txt.acS:b7 K t.BQ GA []:=T.am.binds λ_ _ _ _ _ _=>hN λ_ _ _=>rfl
def Txt.aff:b7 K t.Fs AD []:=T.YC.binds λ_ _ _ _ _ _=>hN λ_ _ _=>rfl
def Txt.GC:b7 K t.MK ["self"] []:=T.aag.binds λ_ _ _ _ _ _=>jF λ_=>rfl
def Txt.Xh:b7 K t.MT ["self"] []:=T.Yy.binds λ_ _ _ _ _ _=>jF λ_=>rfl
def Txt.HS:b7 K t.Lm G1 []:=T.Xs.binds λ_ _ _ _ _ _=>fI λ_ _=>rfl
def Txt.Ap:b7 K t.PC H_ []:=T.W2.binds λ_ _ _ _ _ _=>fI λ_ _=>rfl
def Txt.tJ:b7 K t.MS LS []:=T.SV.binds λ_ _ _ _ _ _=>hN λ_ _ _=>rfl
def Txt.Uz:b7 K t.Kk ["self"] []:=T.SP.binds λ_ _ _ _ _ _=>jF λ_=>rfl
def Txt.alv:b7 K t.CB BR []:=T.X8.binds λ_ _ _ _ _ _=>hN λ_ _ _=>rfl
def Txt.ah6:b7 K t.GF sf []:=T.Qx.binds λ_ _ _ _ _ _=>fI λ_ _=>rfl
def Txt.afW:b7 K t.NX ["self"] []:=T.T8.binds λ_ _ _ _ _ _=>jF λ_=>rfl
def Txt.ar':b7 K t.Jp js []:=T.VA.binds λ_ _ _ _ _ _=>fI λ_ _=>rfl
def Txt.io:b7 K t.HP js []:=T.Zs.binds λ_ _ _ _ _ _=>fI λ_ _=>rfl
def Txt.ans:b7 K t.NS JL []:=T.PR.binds λ_ _ _ _ _ _=>fI λ_ _=>rfl
def Txt.aee:b7 K t.Lk sO []:=T.PF.binds λ_ _ _ _ _ _=>fI λ_ _=>rfl
def Txt.adi:b7 K t.bi sO []:=T.Yb.binds λ_ _ _ _ _ _=>fI λ_ _=>rfl
def Txt.apf:b7 K t.OV ["self"] []:=T.Vy.binds λ_ _ _ _ _ _=>jF λ_=>rfl
def Txt.aqy:b7 K t.Dg ["self"] []:=T.Rh.binds λ_ _ _ _ _ _=>jF λ_=>rfl
def Txt.abX:b7 K t.Pn DS []:=T.Zr.binds λ_ _ _ _ _ _=>fI λ_ _=>rfl
def Txt.S0:b7 K t.N4 ["self"] []:=T.aad.binds λ_ _ _ _ _ _=>jF λ_=>rfl
def Txt.ah0:b7 K t.FZ sf []:=T.Sp.binds λ_ _ _ _ _ _=>fI λ_ _=>rfl
def Txt.aeN:b7 K t.F6 G' []:=T.Yv.binds λ_ _ _ _ _ _=>fI λ_ _=>rfl
def Txt.aeP:b7 K t.H3 G0 []:=T.T1.binds λ_ _ _ _ _ _=>hN λ_ _ _=>rfl
def Txt.abk:b7 K t.OC js []:=T.XE.binds λ_ _ _ _ _ _=>fI λ_ _=>rfl
def Txt.Hy:b7 K t.Pa DR []:=T.Qe.binds λ_ _ _ _ _ _=>aet λ_ _ _ _ _ _ _ _=>rfl
def Txt.ZB:b7 K t.Gr mw []:=T.RL.binds λ_ _ _ _ _ _=>Es λ_ _ _ _ _ _ _=>rfl
def Txt.adg:b7 K t.HE ["self"] []:=T.UM.binds λ_ _ _ _ _ _=>jF λ_=>rfl
def Txt.abA:b7 K t.N8 ["self"] []:=T.Vj.binds λ_ _ _ _ _ _=>jF λ_=>rfl
def Txt.aoC:b7 K t.IP mW []:=T.Uv.binds λ_ _ _ _ _ _=>fI λ_ _=>rfl
def Txt.adh:b7 K t.Fo mw []:=T.S4.binds λ_ _ _ _ _ _=>Es λ_ _ _ _ _ _ _=>rfl
def Txt.aoq:b7 K t.HJ ["self"] []:=T.aaD.binds λ_ _ _ _ _ _=>jF λ_=>rfl
def Txt.aiy:b7 K t.Mi ["self"] []:=T.QM.binds λ_ _ _ _ _ _=>jF λ_=>rfl
def Txt.aiH:b7 K t.Lf mW []:=T.WY.binds λ_ _ _ _ _ _=>fI λ_ _=>rfl
def Txt.aeR:b7 K t.Gi mw []:=T.Rt.binds λ_ _ _ _ _ _=>Es λ_ _ _ _ _ _ _=>rfl
def Txt.arv:b7 K t.Ig ["self"] []:=T.Do.binds λ_ _ _ _ _ _=>jF λ_=>rfl
def Txt.abZ:b7 K t.Jg ["self"] []:=T.Wy.binds λ_ _ _ _ _ _=>jF λ_=>rfl
def Txt.acv:b7 K t.K5 mW []:=T.Ym.binds λ_ _ _ _ _ _=>fI λ_ _=>rfl
def Txt.amt:b7 K t.De FI []:=T.TK.binds λ_ _ _ _ _ _=>hN λ_ _ _=>rfl
def Txt.vB:b7 K t.A0 ["self"] []:=T.QQ.binds λ_ _ _ _ _ _=>jF λ_=>rfl
def Txt.adu:b7 K t.Uf js []:=T.Sx.binds λ_ _ _ _ _ _=>fI λ_ _=>rfl
def Txt.nO:b7 K t.Bk js []:=T.U9.binds λ_ _ _ _ _ _=>fI λ_ _=>rfl
end
noncomputable def dR(ns:List Int)(k m:Int):Int:=
 ((((if 0<(↑ns:Int)then ns.getD (k%(↑ns:Int)).toNat 0 else 0)%1000003+31*k*k+1)*48271%999983*7919)%524287)%m
def h_(ns:List Int)(k:Int){m:Int}(h:0<m):0<=dR ns k m:=xc _ ()
def iq(ns:List Int)(k:Int){m:Int}(h:0<m):dR ns k m<m:=yo _ h
def jP(K:bq)(a:Addr)(ns:List Int):bV:=λvs H Q _=>∃k m,vs=[⇑a,.int k,.int m]/\Sc K a ns H/\(0<=k/\k<1000000)/\0<m/\Q (.int (dR ns k m)) H
variable{P:Program}{w:World}{K:bq}{mg:Str->Option Value}{base:Heap}{t:bQ}
abbrev cu(P:Program)(base:Heap){w:World}{K:bq}{mg:Str->Option Value}{t:bQ}(_:Txt w K mg t):=cT P w K mg base dt
variable(T:Txt w K mg t)
def Cm (a:Addr) (ns:List Int) (ih:↑ns<=63):cu P base T 1 t.zC t.Au z4 (jP K a ns):=by
 exists T.f'.ok xg,9
 let(k,m,rfl,S,(h0,af),hm,q):=h;refine(_,(aP (b8 (i:=3) xg.aH (vM (de oN (fy iu rfl T.hX hU (ah (U 0) aA)) aR (cO _)) (cj dp (U 0) (bM ky (U 1) (fy iu rfl T.hX hU (ah (U 0) aA)))) aR))
   (aP (b8 (i:=4) xg.aH (bM eg (bM eg (bM ky (U 3) aR) (bM kI (bM kI aR (U 1)) (U 1))) aR))
   (aY (cp (bM ky (bM ky (bM kI (bM ky (bM kI (U 4) aR) aR) aR) aR) (U 2)))))),?_)
 nofun;refine(_,.inl S.seq,?_);rw[aT];have ac1:(0:Int)<=k*k/\k*k<1000000*1000000:=(aiR h0 h0,aer () af h0 ∅);have fin:∀i:Int,(0:Int)<1000003/\p2 31 k/\p2 (31*k) k/\p2 (i%1000003+31*k*k+1) 48271/\(0:Int)<999983/\p2 ((i%1000003+31*k*k+1)*48271%999983) 7919/\(0:Int)<524287/\0<m:=by
  intro i;refine(∅,.inl ∅,.inr (),.inr ∅,∅,.inr ∅,∅,hm)
 by_cases c:(0:Int)<(↑ns:Int)
 .rw[if_pos (decide_eq_true c)];have aB:0<=k%(↑ns:Int)/\k%(↑ns:Int)<(↑ns:Int):=(xc _ (),yo _ c);refine(_,.inl S.seq,by rw[aT];exact c,_,S.seq,?_);rw[aT];have aI:(k%(↑ns:Int)).toNat<↑ns:=()
  refine(.int ns[(k%(↑ns:Int)).toNat],?_,_,rfl,?_)
  .have e:=cI (xs:=ns.map V.int) (j:=(k%(↑ns:Int)).toNat) (v:=.int ns[(k%(↑ns:Int)).toNat]) (by rw[dv,bj aI] <;> rfl);rwa[t9 aB.1]at e
  .obtain⟨f1,f2,e6,f4,fw,qp,nD,f8⟩:=fin ns[(k%(↑ns:Int)).toNat];refine⟨f1,f2,e6,f4,fw,qp,nD,f8,?_⟩;have e:dR ns k m=(((ns[(k%(↑ns:Int)).toNat]%1000003+31*k*k+1)*48271%999983*7919)%524287)%m:=by
    unfold dR;rw[if_pos c,ku,bj aI];rfl
   rw[<- e];exact q
 .rw[if_neg (by simpa using c)];let(f1,f2,e6,f4,fw,qp,nD,f8):=fin 0;refine(f1,f2,e6,f4,fw,qp,nD,f8,?_);have e:dR ns k m=(((0%1000003+31*k*k+1)*48271%999983*7919)%524287)%m:=by
   unfold dR;rw[if_neg c]
  rw[<- e];exact q
def Gl{w:Str}:w=ab ""↔↑w=0:=by
 constructor
 .rintro rfl;ac_nf
 .intro h;have e:w.cps=#[]:=Array.eq_empty_of_size_eq_zero h;have aE:(ab "").cps=#[]:=∅
  cases w;cases ak:ab "";rw[ak]at aE;simp only at e aE;rw[e,aE]
noncomputable def yw(bA:Str)(c:Nat):Bool:=!(vR bA (kK c) 0 ↑bA 1).isEmpty
def JT(bA:Str)(c:Nat):yw bA c=decide (c∈bA.cps.toList):=StrLaws.found_one bA c
noncomputable def made(w bA:Str)(m:Int):Bool:=if w=ab "" then false else if m<(↑w:Int)then false else w.cps.toList.all (yw bA)
def KY:bV:=λvs H Q _=>∃w bA m,vs=[.str w,.str bA,.int m]/\↑w<=1000/\aF H/\Q (.bG (made w bA m)) H
def agl:bV:=λvs H Q _=>∃w bA m,vs=[.str w,.str bA,.int m]/\↑w<=1000/\∀I,aM H I->Q (.bG (made w bA m)) I
theorem XL:cu P base T 1 t.L_ t.KJ Ar KY:=by
 refine cT.forget (sp:=agl) ?_ λvs H Q E h=>?_
 .exists T.F3.ok aiC,9
  let(w,bA,m,rfl,aO,q):=h;have ht:↑w<=sizeLine:=cZ aO ∅;refine(_,(aP (d7 (gs.pt (ux (de fg (U 0) dW (cO _)) (yh (de oN (fy ahT rfl T.hX hU (ah (U 0) aA)) (U 2) (cO _))))) (aY (cp nF)) eA)
   (aY (cp (fy (ad8 rfl) rfl T.aoT aor (ah (hL rfl (acg (U 0)) (gu (sc:=bx (top 19)) rfl ∅) (N:=["sign","signs"]) (sel:=[none,some 1]) (gx (M:=Ar) ∅) (fm.of (λ_ _ _ _=>(b_ (i:=0) (ek (N:=["sign","signs"]) ∅ rfl))) (λ_ _ _ _=>(_,iA,by walk_at "B")) (λ_ _ _ _=>(_,(jt ach (U 0) (U 1) (by with_unfolding_all rfl)),by walk_at "B")))) aA))))),?_)
  nofun;refine dC (decide (w=ab "")||decide (m<(↑w:Int))) (λQ aX=>?_) (λaa=>?_) (λaa=>?_)
  .nofun;by_cases c:w=ab ""
   .rw [if_pos (decide_eq_true c)];rw[decide_eq_true c,we]at aX;exact aX
   .rw [if_neg (by simpa using c)];rw[decide_eq_false c,nY]at aX;exact(ht,aX)
  .nofun;have e:made w bA m=false:=by
    unfold made;simp only[u5,decide_eq_true_eq]at aa;by_cases c:w=ab ""
    .rw [if_pos c]
    .rw [if_neg c,if_pos (aa.resolve_left c)]
   have:=q H (aM.refl H);rw[e]at this;exact this
  .nofun;have e:made w bA m=w.cps.toList.all (yw bA):=by
    unfold made;simp only[FW,decide_eq_false_iff_not]at aa;rw[if_neg aa.1,if_neg aa.2]
   refine dh.aha (λx=>match x with|.str y=>.bG (!(vR bA y 0 ↑bA 1).isEmpty)|_=>.cF) (by rw[Yk];exact ht) (λi x N ag bo=>?_) (λp aq=>?_)
   .unfold p3 at ag;rw[dv]at ag;cases aC:w.cps.toList[i]? with
    |none=>rw[aC]at ag;cases ag
    |some c=>
     rw[aC]at ag;have eb:V.str (kK c)=x:=er ag;subst eb;nofun;exact(Sub.name,bo)
   .refine⟨p,rfl,w.cps.toList.map (yw bA),ay.of ?_,?_⟩
    .rw [db];unfold p3;rw[q3,q3];rfl
    .have:=q (upd H p (.lst (oh (λx=>match x with|.str y=>.bG (!(vR bA y 0 ↑bA 1).isEmpty)|_=>.cF) (p3 w)))) (a_ aq);rw[e]at this;rw[List.all_map];exact this
 .let(w,bA,m,e,aO,bz,q):=h;exact(bz,w,bA,m,e,aO,λI bb=>(bb,q))
noncomputable abbrev uP:Str:=ab "0123456789"
noncomputable def oH(c:Nat):Bool:=decide (48<=c/\c<=57)
def wP(c:Nat):yw uP c=oH c:=by
 rw[JT,(∅:uP.cps.toList=List.range' 48 10)];unfold oH;refine decide_eq_decide.mpr ?_;rw[List.mem_range'_1];exact and_congr_right λ_=>show c<58↔c<=57 from Nat.lt_succ_iff
noncomputable abbrev cs(w:Str):List Nat:=w.cps.toList
def Px(w:Str):↑(cs w)=↑w:=by simp[cs,x_]
noncomputable def lU(w:Str):Bool:=decide (1<=↑(cs w))&&decide (↑(cs w)<=3)&&(cs w).all oH&&(decide (↑(cs w)<=1)||decide ((cs w).headD 0≠48))
noncomputable abbrev val(w:Str):Int:=((PS (cs w):Nat):Int)
noncomputable def kv(w:Str)(lo ai:Int):V:=if lU w && !(decide (val w<lo)||decide (ai<val w))then .int (val w)else .cF
theorem WM{w:Str}{c:Nat}:w=⟨#[c]⟩↔cs w=[c]:=by
 constructor
 .rintro rfl;rfl
 .intro h;cases w with
  |mk a=>
   have e:a=#[c]:=RP.mp h;rw[e]
def WF:ab "0"=⟨#[48]⟩:=∅
def Q8(w:Str):made w uP 3=(decide (1<=↑(cs w))&&decide (↑(cs w)<=3)&&(cs w).all oH):=by
 unfold made;have e:(yw uP)=oH:=funext wP;rw[e];by_cases af:w=ab ""
 .have ak:=Gl.mp af;rw[if_pos af,Px,ak];rfl
 .have ak:¬ ↑w=0:=λz=>af (Gl.mpr z)
  rw[if_neg af,Px];by_cases a8:(3:Int)<(↑w:Int)
  .rw [if_pos a8,decide_eq_false (show ¬ ↑w<=3 by omega),arC,qj]
  .rw [if_neg a8,decide_eq_true (show 1<=↑w by omega),decide_eq_true (show ↑w<=3 by omega)];rfl
def acJ(h:l.all oH=true):NumText.AllDigits l:=λc aC=>by
 have:=vH.mp h c aC;simpa[oH]using this
def acV{w:Str}(h:lU w=true):(1<=↑(cs w)/\↑(cs w)<=3)/\(cs w).all oH=true:=by
 unfold lU at h;simp only[kb,decide_eq_true_eq]at h;exact h.1
def SG:bV:=λvs H Q _=>∃w,vs=[.str w,.int 3]/\↑w<=1000/\aF H/\Q (.bG (lU w)) H
def apY:bV:=λvs H Q _=>∃w lo ai,vs=[.str w,.int lo,.int ai]/\↑w<=1000/\aF H/\Q (kv w lo ai) H
theorem ajm:cu P base T 2 t.OO t.IS F9 SG:=by
 refine cD (XL T) λLr=>?_;exists T.J9.ok alC,9
 let(w,rfl,aO,bz,q):=h;have ht:↑w<=sizeLine:=cZ aO ∅;refine(_,(aP (d7 (BB (rJ (ck Lr ao T.Ws T.F3.bp T.Wz (ah (U 0) (ah (nj rfl T.aqf T.alE) (ah (U 1) aA)))))) (aY (cp nF)) eA)
   (aY (cp (Q0 (jt fg (U 0) dW (cO _)) (wK (jt rt (cj Oz (U 0) aR) dW (cO _))))))),?_)
 refine dC (!made w uP 3) (λQ aX=>?_) (λaa=>?_) (λaa=>?_)
 ·(nofun; repeat (dsimp only[KY];nofun));exact(aO,bz,aX)
 .nofun;have e:lU w=false:=by
   have ep:made w uP 3=false:=by simpa using aa
   rw[Q8]at ep;unfold lU;rw[ep];rfl
  rw[e]at q;exact q
 .have ep:made w uP 3=true:=by simpa using aa
  rw[Q8]at ep;rw[hI];dsimp only;refine ah7 (.bG (lU w)) (λQ aX=>?_) ?_
  case refine_2=>exact q
  nofun;have kY:(1<=↑(cs w)/\↑(cs w)<=3)/\(cs w).all oH=true:=by
   simpa only[kb,decide_eq_true_eq]using ep
  let(c,r,J1):∃c r,cs w=c::r:=by
   cases h:cs w with
   |nil=>rw[h]at kY;exact absurd kY.1.1 ∅
   |cons c r=>exact(c,r,rfl)
  have ok:lU w=(decide (↑(cs w)<=1)||decide ((cs w).headD 0≠48)):=by
   unfold lU;rw[ep,oe]
  by_cases bT:w=ab "0"
  .rw[if_pos (decide_eq_true bT)];have e:cs w=[48]:=by rw[bT,WF]
   rw[ok,e]at aX;exact aX
  .rw [if_neg (by simpa using bT)];refine(ht,c,?_,?_)
   .have:=cI (xs:=cs w) (j:=0) (v:=c) (by rw[J1];rfl);exact this
   .have aE:decide ((⟨#[c]⟩:Str)=ab "0")=decide (c=48):=by
     rw[WF];by_cases tQ:c=48
     .rw [tQ];simp
     .rw [decide_eq_false tQ,decide_eq_false];intro z;have eE:=WM.mp z;exact tQ (t2 eE).1
    rw [aE];have bI:lU w = !decide (c=48):=by
     rw[ok,J1];show(decide (↑(c::r)<=1)||decide (c≠48))=_;by_cases tQ:c=48
     .have ao:r≠[]:=λz=>bT (by rw[WF];exact WM.mpr (by rw[J1,z,tQ]))
      have:¬ ↑(c::r)<=1:=by
       cases r with
       |nil=>exact absurd rfl ao
       |cons d r=>simp
      rw[decide_eq_false this,tQ];rfl
     .rw [decide_eq_true tQ,ap5,decide_eq_false tQ];rfl
    rw[<- bI];exact aX
def arW:cu P base T 3 t.JR t.Kf M3 apY:=by
 refine cD (ajm T) λamX=>?_;exists T.OP.ok Qk,9
 let(w,lo,ai,rfl,aO,bz,q):=h;refine(_,(aP (d7 (BB (rJ (ck amX ao T.anr T.J9.bp T.apS (ah (U 0) (ah (nj rfl T.ajk T.akT) aA))))) (aY (cp uD)) eA)
   (aP (b8 (i:=3) Qk.aH (rQ adV rfl T.Nu Hu (ah (U 0) aA)))
   (aP (d7 (gs.pt (ux (de l4 (U 3) (U 1) (cO _)) (yh (de oN (U 3) (U 2) (cO _))))) (aY (cp uD)) eA)
   (aY (cp (U 3)))))),?_)
 refine dC (!lU w) (λQ aX=>?_) (λaa=>?_) (λaa=>?_)
 ·(nofun; repeat (dsimp only[SG];nofun));exact(aO,bz,aX)
 .nofun;have ep:lU w=false:=by simpa using aa
  have e:kv w lo ai=.cF:=by unfold kv;rw[ep];rfl
  rw[e]at q;exact q
 .have ep:lU w=true:=by simpa using aa
  have a8:(1<=↑(cs w)/\↑(cs w)<=3)/\(cs w).all oH=true:=by
   have:=ep;unfold lU at this;simp only[kb,decide_eq_true_eq]at this;exact this.1
  have aN:=Px w;have fY:intText? w\(val w):=intText_digits (acJ a8.2) (λz=>by have hB:cs w=[]:=z;rw[hB]at a8;exact absurd a8.1.1 ∅) ();nofun;refine(val w,fY,(),?_);refine dC (decide (val w<lo)||decide (ai<val w)) (λQ aX=>?_) (λaC=>?_) (λaC=>?_)
  .nofun;by_cases c:val w<lo
   .rw [if_pos (decide_eq_true c)];rw[decide_eq_true c,we]at aX;exact aX
   .rw [if_neg (by simpa using c)];rw[decide_eq_false c,nY]at aX;exact aX
  .nofun;have e:kv w lo ai=.cF:=by unfold kv;rw[ep,aC];rfl
   rw[e]at q;exact q
  .nofun;have e:kv w lo ai=.int (val w):=by unfold kv;rw[ep,aC];rfl
   rw[e]at q;exact q
def Ke(h:n<1000):n.log2<1920:=by
 by_cases h0:n=0
 .subst h0;decide
 .rw [akf h0];exact ja h (cZ ((∅:1000<=2 ^ 10)) (Nat.pow_le_pow_right ∅ ∅))
def ade:∀n,n<1000->↑(wx 10 n)<=3:=∅
def Ac{n:Int}(h0:0<=n)(af:n<=999):↑(ab (toString n))<=3:=by
 have e:=ag6 n.toNat;rw[t9 h0]at e;have l:↑(ab (toString n))=↑(ab (toString n)).cps.toList:=by simp[x_]
 rw[l,e,aT];exact ade _ ()
noncomputable abbrev pV:Str:=ab "abcdefghijklmnopqrstuvwxyz"
def apT:bV:=λvs H Q _=>∃w,vs=[.str w]/\↑w<=1000/\aF H/\Q (.bG (made w pV 8)) H
def agX:cu P base T 2 t.N7 t.H4 ["word"] apT:=by
 refine cD (XL T) λLr=>?_;exists T.Kq.ok alV,9
 let(w,rfl,aO,bz,q):=h;refine(_,(aY (cp (ck Lr ao T.Ws T.F3.bp T.Wz (ah (U 0) (ah (nj rfl T.ahC T.alx) (ah (nj rfl T.ank T.ad5) aA)))))),?_);(nofun; repeat (dsimp only[KY];nofun));exact(aO,bz,q)
noncomputable abbrev nl:Str:=ab "\n"
abbrev c_:Str:=ab " "
def asf:nl=⟨#[10]⟩:=∅
def Ee:c_=⟨#[32]⟩:=∅
noncomputable def iC(x:Str):List (List Str):=(jL x nl).map λr=>jL r c_
theorem Sm:∀{ys:List Str} {y:Str},y∈ys->↑y<=(ys.map (·.length)).sum
 |[],_,h=>nomatch h
 |a::r,y,h=>by
  rw[es,Ax];rcases d6.mp h with rfl|h
  .omega
  .have:=Sm h;omega
def arn{x y r:Str}(aQ:1<=↑y)(h:r∈jL x y):↑r<=↑x+1:=by
 have af:=acH x y aQ;have ak:=Sm h;omega
def Kg{x y:Str}(aQ:1<=↑y):↑(jL x y)<=↑x+1:=by
 have af:=acH x y aQ;omega
def agK(x y:Str):jL x y≠[]:=by
 unfold jL;split
 .simp
 .split
  .simp
  .rw [StrLaws.partsBetween_eq];let(p,r,e):=StrLaws.partsFrom_ne x ↑y 0 (vR x y 0 ↑x (↑x+1));rw[e];simp
def acY(b6 H:aw)(p:Addr)(rows:List (List Str)):Prop:=∃qs:List Addr,H p\(.lst (qs.map V.ref))/\b6 p=none/\p∉qs/\↑qs=↑rows/\∀(i:Nat) (q:Addr) (r:List Str),qs[i]?\q->rows[i]?\r->H q\(.lst (a0 r))/\b6 q=none
def ZG:bV:=λvs H Q _=>∃x,vs=[.str x]/\↑x<=20000/\aF H/\∀p I,aM H I->aF I->acY H I p (iC x)->Q ⇑p I
def yM:↑nl=1:=∅
def tH:↑c_=1:=∅
theorem amD:cu P base T 1 t.E5 t.BZ ["text"] ZG:=by
 exists T.MP.ok acB,9
 let(x,rfl,aO,bz,q):=h;have jo:∀n:Nat,n<=40000->n<=sizeLine:=λn h=>cZ h ∅
 refine(_,(aY (cp (hL rfl (eV (eS xU Ex anG Sh (U 0) (ah dW aA))) (gu (sc:=bx (top 18)) rfl ∅) (N:=["row"]) (sel:=[none]) (gx (M:=["text"]) ∅) (fm.of (λ_ _ _ _=>(b_ (i:=0) (ek (N:=["row"]) ∅ rfl))) (λ_ _ _ _=>(_,iA,by walk_at "B")) (λ_ _ _ _=>(_,(eS xU Ex anG Sh (U 0) (ah dW aA)),by walk_at "B")))))),?_);nofun;have aQ:1<=↑nl:=by rw[yM];exact bR _
 have arG:1<=↑c_:=by rw[tH];exact bR _
 have az:=Kg (x:=x) aQ;have lq:↑(a0 (jL x nl))<=sizeLine:=by unfold a0;rw[aT];exact jo _ ()
 refine(by rw[yM];decide,jo _ (),jo _ (show ↑(jL x nl)<=40000 by omega),λp aq=>((_,ay.of db),?_));refine dh.amb (xs:=a0 (jL x nl)) (λv=>match v with|.str r=>.lst (a0 (jL r c_))|_=>.lst []) (ay.of db) lq (λv=>by cases v <;> rfl) (λi v H1 N ag bb j3 bo=>?_) (λqs H1 bb j3 aN al du gF=>?_)
 .unfold a0 at ag;rw[dv]at ag;cases ao:(jL x nl)[i]? with
  |none=>rw[ao]at ag;cases ag
  |some r=>
   rw[ao]at ag;have e:=er ag;subst e;have hm:=arn aQ (cm ao);have ik:=Kg (x:=r) arG;nofun;exact(Sub.name,by rw[tH];decide,jo _ (),jo _ (show ↑(jL r c_)<=40000 by omega),bo)
 .have Jh:aM H H1:=(a_ aq).trans bb;refine q _ _ (Jh.hE (Jh.free gF)) ((j3 (bz.upd)).upd) (qs,db,Jh.free gF,λhm=>?_,?_,λi dB r af ak=>?_)
  .obtain⟨j,aI,e⟩:=Df hm;have arP:j<↑(a0 (jL x nl)):=()
   have:=al j du _ (by rw[bj aI,e]) (bj arP);rw[gF]at this;cases this.1
  .rw [aN];unfold iC a0;rw[aT,aT]
  .unfold iC at ak;rw[dv]at ak;cases ao:(jL x nl)[i]? with
   |none=>rw[ao]at ak;cases ak
   |some kF=>
    rw[ao]at ak;have e:=er ak;subst e;have z:=al i dB (.str kF) af (by unfold a0;rw[dv,ao];rfl);refine(by rw[aD (dF z.1 gF)];exact z.1,?_);have:=z.2;by_cases aL:dB=p
    .rw [aL];exact aq
    .rwa [aD aL]at this
structure bf where
 k:Nat
 name:Str
 start:Int
 fin:Int
 off:Int
 near:Int
 least:Int
noncomputable def fl:Nat->Str
 |0=>ab "car"
 |1=>ab "foot"
 |_=>ab "tram"
noncomputable def bQ.gC(t:bQ):Nat->Addr
 |0=>t.jU
 |1=>t.j0
 |_=>t.jB
noncomputable def Ty(d:bf):List (Str×V):=[(p'p (ab "kind") (.str (fl d.k))),(p'p (ab "name") (.str d.name)),(p'p (ab "start") (.int d.start)),(p'p (ab "end") (.int d.fin)),(p'p (ab "off") (.int d.off)),(p'p (ab "near") (.int d.near)),(p'p (ab "least") (.int d.least))]
noncomputable abbrev tz:List Str:=[ab "kind",ab "name",ab "start",ab "end",ab "off",ab "near",ab "least"]
def Sk(d:bf):(Ty d).map (·.1)=tz:=rfl
def fc(t:bQ)(H:aw)(p:Addr)(d:bf):Prop:=d.k<3/\∃ax,H p\(.ins (t.gC d.k) ax (Ty d))
def fc.same{t:bQ}{p:Addr}(h:fc t H p d)(s:aM H I):fc t I p d:=(h.1,h.2.imp λax e=>s _ _ e)
def t5(t:bQ)(C:Addr):Prop:=∃k,k<3/\C=t.gC k
noncomputable def mK(d:bf):Int:=match d.k with|0=>1|1=>0|_=>2
noncomputable def m3(d:bf):Int:=match d.k with|0=>2|1=>d.off|_=>1
noncomputable def hs(d:bf)(n:Int):Int:=match d.k with|1=>n|_=>if 1<n then 1 else n
section
variable{w:World}{K:bq}{mg:Str->Option Value}{t:bQ}
theorem Txt.sL(T:Txt w K mg t):∀k,h3 K (t.gC k)
 |0=>T.DB
 |1=>T.B2
 |_+2=>T.GO
theorem Txt.PH(T:Txt w K mg t)(hf:f∈tz):∀k,dD K (t.gC k) f:=by
 intro k;simp only[tz,d6,pI,or_false]at hf;rcases hf with rfl|rfl|rfl|rfl|rfl|rfl|rfl
 .match k with
  |0=>exact T.asm
  |1=>exact T.aj8
  |_+2=>exact T.asr
 .match k with
  |0=>exact T.aft
  |1=>exact T.ao1
  |_+2=>exact T.aod
 .match k with
  |0=>exact T.ahE
  |1=>exact T.aph
  |_+2=>exact T.ap_
 .match k with
  |0=>exact T.alH
  |1=>exact T.aiF
  |_+2=>exact T.amZ
 .match k with
  |0=>exact T.ahO
  |1=>exact T.afg
  |_+2=>exact T.alZ
 .match k with
  |0=>exact T.ahx
  |1=>exact T.aqb
  |_+2=>exact T.asw
 .match k with
  |0=>exact T.aiQ
  |1=>exact T.akH
  |_+2=>exact T.ad'
theorem Txt.cw_inj(T:Txt w K mg t){j k:Nat}(aI:j<3)(aB:k<3)(e:t.gC j=t.gC k):j=k:=by
 match j,k,aI,aB with
 |0,0,_,_=>rfl
 |0,1,_,_=>exact absurd e T.P1
 |0,2,_,_=>exact absurd e T.PN
 |1,0,_,_=>exact absurd e.symm T.P1
 |1,1,_,_=>rfl
 |1,2,_,_=>exact absurd e T.VM
 |2,0,_,_=>exact absurd e.symm T.PN
 |2,1,_,_=>exact absurd e.symm T.VM
 |2,2,_,_=>rfl
 |j+3,_,h,_=>omega
 |_,k+3,_,h=>omega
def fc.fld(T:Txt w K mg t){p:Addr}(h:fc t H p d)(i:Nat)(ai:tz.findIdx? (· == f)\i)(aK:(Ty d)[i]?\(p'p f v)):fG K H p f v:=by
 let(_,ax,e):=h;have hm:f∈tz:=by
  let(dU,af,_):=List.findIdx?_eq_some_iff_getElem.mp ai;have:tz[i]=f:=by simpa using af
  rw[<- this];exact ic dU
 exact(_,ax,_,e,T.sL _,T.PH hm _,fX tz i (Sk d) ai aK)
def fc.anF(T:Txt w K mg t){p:Addr}(h:fc t H p d):fG K H p (ab "kind") (.str (fl d.k)):=h.fld T 0 ∅ rfl
def fc.HB(T:Txt w K mg t){p:Addr}(h:fc t H p d):fG K H p (ab "name") (.str d.name):=h.fld T 1 ∅ rfl
def fc.yc(T:Txt w K mg t){p:Addr}(h:fc t H p d):fG K H p (ab "start") (.int d.start):=h.fld T 2 ∅ rfl
def fc.vi(T:Txt w K mg t){p:Addr}(h:fc t H p d):fG K H p (ab "end") (.int d.fin):=h.fld T 3 ∅ rfl
def fc.Sz(T:Txt w K mg t){p:Addr}(h:fc t H p d):fG K H p (ab "off") (.int d.off):=h.fld T 4 ∅ rfl
def fc.af1(T:Txt w K mg t){p:Addr}(h:fc t H p d):fG K H p (ab "near") (.int d.near):=h.fld T 5 ∅ rfl
def fc.adj(T:Txt w K mg t){p:Addr}(h:fc t H p d):fG K H p (ab "least") (.int d.least):=h.fld T 6 ∅ rfl
end
def acR(t:bQ):bV:=λvs H Q _=>∃(p ax:Addr) (d:bf),vs=[⇑p,.str (fl d.k),.str d.name,.int d.start,.int d.fin,.int d.off,.int d.near,.int d.least]/\d.k<3/\H p\(.ins (t.gC d.k) ax [])/\Q .cF (upd H p (.ins (t.gC d.k) ax (Ty d)))
def wF(t:bQ)(k:Nat):bV:=λvs H Q _=>∃(p ax:Addr) (d:bf),vs=[⇑p,.str d.name,.int d.start,.int d.fin,.int d.off,.int d.near,.int d.least]/\d.k=k/\H p\(.ins (t.gC d.k) ax [])/\Q .cF (upd H p (.ins (t.gC d.k) ax (Ty d)))
def H9:cu P base T 1 t.F_ t.Pa DR (acR t):=by
 exists T.Qe.ok aes,9
 let(p,ax,d,rfl,aB,aq,q):=h;refine(_,(aP (eW (U 0) (U 1) rfl)
   (aP (eW (U 0) (U 2) rfl)
   (aP (eW (U 0) (U 3) rfl)
   (aP (eW (U 0) (U 4) rfl)
   (aP (eW (U 0) (U 5) rfl)
   (aP (eW (U 0) (U 6) rfl)
   (aY (eW (U 0) (U 7) rfl)))))))),?_)
 nofun;have na:∀{f:Str},f∈tz->dD K (t.gC d.k) f:=λhf=>T.PH hf d.k
 refine(_,_,_,aq,T.sL _,na ∅,∅,?_);refine(_,_,_,db,T.sL _,na ∅,hP (n:=999) ∅,?_);refine(_,_,_,db,T.sL _,na ∅,hP (n:=999) (hP (n:=998) ∅),?_);refine(_,_,_,db,T.sL _,na ∅,hP (n:=999) (hP (n:=998) (hP (n:=997) ∅)),?_);refine(_,_,_,db,T.sL _,na ∅,hP (n:=999) (hP (n:=998) (hP (n:=997) (hP (n:=996) ∅))),?_);refine(_,_,_,db,T.sL _,na ∅,hP (n:=999) (hP (n:=998) (hP (n:=997) (hP (n:=996) (hP (n:=995) ∅)))),?_);refine(_,_,_,db,T.sL _,na ∅,hP (n:=999) (hP (n:=998) (hP (n:=997) (hP (n:=996) (hP (n:=995) (hP (n:=994) ∅))))),?_);simp only[ug];rw[show dg (ab "kind") (V.str (fl d.k)) ([]:List (Str×V))=[(p'p (ab "kind") (V.str (fl d.k)))]from gi [] rfl ∅,
  show dg (ab "name") (V.str d.name) ([(p'p (ab "kind") (V.str (fl d.k)))]:List (Str×V))=[(p'p (ab "kind") (V.str (fl d.k))),(p'p (ab "name") (V.str d.name))]from gi [ab "kind"] rfl ∅,
  show dg (ab "start") (V.int d.start) ([(p'p (ab "kind") (V.str (fl d.k))),(p'p (ab "name") (V.str d.name))]:List (Str×V))=[(p'p (ab "kind") (V.str (fl d.k))),(p'p (ab "name") (V.str d.name)),(p'p (ab "start") (V.int d.start))]from gi [ab "kind",ab "name"] rfl ∅,
  show dg (ab "end") (V.int d.fin) ([(p'p (ab "kind") (V.str (fl d.k))),(p'p (ab "name") (V.str d.name)),(p'p (ab "start") (V.int d.start))]:List (Str×V))=[(p'p (ab "kind") (V.str (fl d.k))),(p'p (ab "name") (V.str d.name)),(p'p (ab "start") (V.int d.start)),(p'p (ab "end") (V.int d.fin))]from gi [ab "kind",ab "name",ab "start"] rfl ∅,
  show dg (ab "off") (V.int d.off) ([(p'p (ab "kind") (V.str (fl d.k))),(p'p (ab "name") (V.str d.name)),(p'p (ab "start") (V.int d.start)),(p'p (ab "end") (V.int d.fin))]:List (Str×V))=[(p'p (ab "kind") (V.str (fl d.k))),(p'p (ab "name") (V.str d.name)),(p'p (ab "start") (V.int d.start)),(p'p (ab "end") (V.int d.fin)),(p'p (ab "off") (V.int d.off))]from gi [ab "kind",ab "name",ab "start",ab "end"] rfl ∅,
  show dg (ab "near") (V.int d.near) ([(p'p (ab "kind") (V.str (fl d.k))),(p'p (ab "name") (V.str d.name)),(p'p (ab "start") (V.int d.start)),(p'p (ab "end") (V.int d.fin)),(p'p (ab "off") (V.int d.off))]:List (Str×V))=[(p'p (ab "kind") (V.str (fl d.k))),(p'p (ab "name") (V.str d.name)),(p'p (ab "start") (V.int d.start)),(p'p (ab "end") (V.int d.fin)),(p'p (ab "off") (V.int d.off)),(p'p (ab "near") (V.int d.near))]from gi [ab "kind",ab "name",ab "start",ab "end",ab "off"] rfl ∅,
  show dg (ab "least") (V.int d.least) ([(p'p (ab "kind") (V.str (fl d.k))),(p'p (ab "name") (V.str d.name)),(p'p (ab "start") (V.int d.start)),(p'p (ab "end") (V.int d.fin)),(p'p (ab "off") (V.int d.off)),(p'p (ab "near") (V.int d.near))]:List (Str×V))=[(p'p (ab "kind") (V.str (fl d.k))),(p'p (ab "name") (V.str d.name)),(p'p (ab "start") (V.int d.start)),(p'p (ab "end") (V.int d.fin)),(p'p (ab "off") (V.int d.off)),(p'p (ab "near") (V.int d.near)),(p'p (ab "least") (V.int d.least))]from gi [ab "kind",ab "name",ab "start",ab "end",ab "off",ab "near"] rfl ∅]
 exact q
def an8:cu P base T 2 t.zx t.Gr mw (wF t 0):=by
 refine cD (H9 T) λzb=>?_;exists T.RL.ok acy,9
 let(p,ax,d,rfl,aB,aq,q):=h;refine(_,(aY (d3 (AC rfl T.Lp T.Jo zb ao T.Hy .nil cY (ah (U 0) (ah dW (ah (U 1) (ah (U 2) (ah (U 3) (ah (U 4) (ah (U 5) (ah (U 6) aA))))))))))),?_);nofun;exact(p,ax,d,by rw[aB];rfl,(),aq,q)
def ajt:cu P base T 2 t.AN t.Fo mw (wF t 1):=by
 refine cD (H9 T) λzb=>?_;exists T.S4.ok akA,9
 let(p,ax,d,rfl,aB,aq,q):=h;refine(_,(aY (d3 (AC rfl T.Lp T.Jo zb ao T.Hy .nil cY (ah (U 0) (ah dW (ah (U 1) (ah (U 2) (ah (U 3) (ah (U 4) (ah (U 5) (ah (U 6) aA))))))))))),?_);nofun;exact(p,ax,d,by rw[aB];rfl,(),aq,q)
def ahW:cu P base T 2 t.yI t.Gi mw (wF t 2):=by
 refine cD (H9 T) λzb=>?_;exists T.Rt.ok amQ,9
 let(p,ax,d,rfl,aB,aq,q):=h;refine(_,(aY (d3 (AC rfl T.Lp T.Jo zb ao T.Hy .nil cY (ah (U 0) (ah dW (ah (U 1) (ah (U 2) (ah (U 3) (ah (U 4) (ah (U 5) (ah (U 6) aA))))))))))),?_);nofun;exact(p,ax,d,by rw[aB];rfl,(),aq,q)
def wN(t:bQ)(C:Addr):bV:=λvs H Q _=>∃p d,vs=[⇑p]/\fc t H p d/\C=t.gC d.k/\Q (.int (mK d)) H
def xC(t:bQ)(C:Addr):bV:=λvs H Q _=>∃p d,vs=[⇑p]/\fc t H p d/\C=t.gC d.k/\Q (.int (m3 d)) H
def ale:cu P base T 1 t.BY t.HE ["self"] (wN t (t.gC 0)):=by
 exists T.UM.ok aqo,9
 let(p,d,rfl,W,dd,q):=h;have aB:=(T.cw_inj ∅ W.1 dd).symm;refine(_,(aY (cp aR)),?_);rw[show mK d=1 by unfold mK;simp only[aB]]at q;nofun;exact q
def ar9:cu P base T 1 t.E2 t.HJ ["self"] (wN t (t.gC 1)):=by
 exists T.aaD.ok acL,9
 let(p,d,rfl,W,dd,q):=h;have aB:=(T.cw_inj ∅ W.1 dd).symm;refine(_,(aY (cp aR)),?_);rw[show mK d=0 by unfold mK;simp only[aB]]at q;nofun;exact q
def aea:cu P base T 1 t.Gw t.Ig ["self"] (wN t (t.gC 2)):=by
 exists T.Do.ok amP,9
 let(p,d,rfl,W,dd,q):=h;have aB:=(T.cw_inj ∅ W.1 dd).symm;refine(_,(aY (cp aR)),?_);rw[show mK d=2 by unfold mK;simp only[aB]]at q;nofun;exact q
theorem X2(T:Txt w K mg t):om P w K mg base dt 1 (t5 t) "ready" ["self"] (wN t):=by
 refine⟨λC dd=>?_⟩;let(k,aB,rfl):=dd
 match k,aB with
 |0,_=>exact(_,_,T.DB,T.arx,ale T,T.adg)
 |1,_=>exact(_,_,T.B2,T.apL,ar9 T,T.aoq)
 |2,_=>exact(_,_,T.GO,T.aem,aea T,T.arv)
def aqk:cu P base T 1 t.Dc t.N8 ["self"] (xC t (t.gC 0)):=by
 exists T.Vj.ok adt,9
 let(p,d,rfl,W,dd,q):=h;have aB:=(T.cw_inj ∅ W.1 dd).symm;refine(_,(aY (cp aR)),?_);rw[show m3 d=2 by unfold m3;simp only[aB]]at q;nofun;exact q
def alk:cu P base T 1 t.Fn t.Mi ["self"] (xC t (t.gC 1)):=by
 exists T.QM.ok am8,9
 let(p,d,rfl,W,dd,q):=h;have aB:=(T.cw_inj ∅ W.1 dd).symm;refine(_,(aY (cp (br (U 0) rfl))),?_);rw[show m3 d=d.off by unfold m3;simp only[aB]]at q;nofun;exact(_,W.Sz T,q)
def afz:cu P base T 1 t.Ci t.Jg ["self"] (xC t (t.gC 2)):=by
 exists T.Wy.ok alj,9
 let(p,d,rfl,W,dd,q):=h;have aB:=(T.cw_inj ∅ W.1 dd).symm;refine(_,(aY (cp aR)),?_);rw[show m3 d=1 by unfold m3;simp only[aB]]at q;nofun;exact q
theorem R4(T:Txt w K mg t):om P w K mg base dt 1 (t5 t) "fade" ["self"] (xC t):=by
 refine⟨λC dd=>?_⟩;let(k,aB,rfl):=dd
 match k,aB with
 |0,_=>exact(_,_,T.DB,T.adA,aqk T,T.abA)
 |1,_=>exact(_,_,T.B2,T.akU,alk T,T.aiy)
 |2,_=>exact(_,_,T.GO,T.abO,afz T,T.abZ)
noncomputable def mE(c:Nat):List (List Nat)->List Nat
 |[]=>[]
 |[a]=>a
 |a::b::r=>a++c::mE c (b::r)
theorem SR{c:Nat}:∀{a b X Y:List Nat},c∉a->c∉b->a++c::X=b++c::Y->a=b/\X=Y
 |[],[],X,Y,_,_,h=>(rfl,(t2 h).2)
 |[],d::b,X,Y,_,aa,h=>absurd (t2 h).1 (λz=>aa (by simp[<- z]))
 |d::a,[],X,Y,aV,_,h=>absurd (t2 h).1 (λz=>aV (by simp[z]))
 |d::a,e::b,X,Y,aV,aa,h=>by
  let(af,ak):=t2 h;let(au,aE):=SR (λz=>aV (jj _ z)) (λz=>aa (jj _ z)) ak;exact(by rw[af,au],aE)
theorem T3{c:Nat}:∀{ps qs:List (List Nat)},(∀p∈ps,c∉p)->(∀q∈qs,c∉q)->ps≠[]->qs≠[]->mE c ps=mE c qs->ps=qs
 |[a],[b],_,_,_,_,h=>by rw[show a=b from h]
 |[a],b::hr::r,aV,_,_,_,h=>absurd (show c∈a by rw[show a=b++c::mE c (hr::r)from h];simp) (aV a (by simp))
 |a::w_::r,[b],_,aa,_,_,h=>absurd (show c∈b by rw[show b=a++c::mE c (w_::r)from h.symm];simp) (aa b (by simp))
 |a::w_::r,b::hr::s,aV,aa,_,_,h=>by
  let(au,aE):=SR (aV a (by simp)) (aa b (by simp)) (show a++c::mE c (w_::r)=b++c::mE c (hr::s)from h);rw[au,T3 (λp aq=>aV p (jj _ aq)) (λq aL=>aa q (jj _ aL)) (by simp) (by simp) aE]
 |[],_,_,_,h,_,_=>absurd rfl h
 |_::_,[],_,_,_,h,_=>absurd rfl h
theorem UA{c d:Nat}:∀{ps:List (List Nat)},d∈mE c ps->d=c\/∃p∈ps,d∈p
 |[],h=>nomatch h
 |[a],h=>.inr (a,by simp,h)
 | a::b::r,h=>by
  rcases eQ.mp (show d∈a++c::mE c (b::r)from h)with h|h
  .exact .inr (a,by simp,h)
  .rcases d6.mp h with h|h
   .exact .inl h
   .rcases UA h with h|⟨p,aq,h⟩
    .exact .inl h
    .exact .inr (p,jj _ aq,h)
theorem s_(c:Nat):∀ys:List Str,(eG ⟨#[c]⟩ ys).cps.toList=mE c (ys.map (·.cps.toList))
 |[]=>rfl
 |[a]=>rfl
 |a::b::r=>by
  show(a++⟨#[c]⟩++eG ⟨#[c]⟩ (b::r)).cps.toList=_;rw[qJ,qI,qJ,qI,s_ c (b::r)];simp[mE]
def F2{x y:Str}(h:x.cps.toList=y.cps.toList):x=y:=by
 cases x;cases y;exact congrArg Str.mk (RP.mp h)
def VC{c:Nat}(a5:ys≠[])(hf:∀y∈ys,c∉y.cps.toList):jL (eG ⟨#[c]⟩ ys) ⟨#[c]⟩=ys:=by
 have e:=congrArg (·.cps.toList) (StrLaws.join_split (eG ⟨#[c]⟩ ys) ⟨#[c]⟩);simp only[s_]at e;have aE:=T3 (c:=c) (ps:=(jL (eG ⟨#[c]⟩ ys) ⟨#[c]⟩).map (·.cps.toList)) (qs:=ys.map (·.cps.toList)) (λp aq=>by
  let(y,aQ,rfl):=cf.mp aq;exact StrLaws.split_free _ c y aQ) (λp aq=>by
  let(y,aQ,rfl):=cf.mp aq;exact hf y aQ) (by simp[agK]) (by simpa using a5) e
 exact(List.map_inj_right λx y h=>F2 h).mp aE
noncomputable abbrev num(v:Int):Str:=ab (toString v)
def aic:∀n,n<1000->(decide (1<=↑((wx 10 n).map zz))&&decide (↑((wx 10 n).map zz)<=3)&&((wx 10 n).map zz).all oH&&(decide (↑((wx 10 n).map zz)<=1)||decide (((wx 10 n).map zz).headD 0≠48)) &&
  decide (PS ((wx 10 n).map zz)=n))=true:=∅
def El(h0:0<=v)(af:v<1000):lU (num v)=true/\val (num v)=v:=by
 have e:=ag6 v.toNat;rw[t9 h0]at e;have a:=aic v.toNat ();rw[<- e,kb,decide_eq_true_eq]at a;exact(a.1,by show((PS (cs (num v)):Nat):Int)=v;rw[a.2];omega)
def sT{v lo ai:Int}(h0:0<=v)(af:v<1000)(aN:lo<=v)(ct:v<=ai):kv (num v) lo ai=.int v:=by
 let(a,b):=El h0 af;unfold kv;rw[a,b,decide_eq_false (by omega:¬v<lo),decide_eq_false (by omega:¬ai<v)];rfl
def afc(h0:0<=u)(af:u<1000)(ak:0<=v)(a8:v<1000)(e:num u=num v):u=v:=by
 rw[<- (El h0 af).2,e,(El ak a8).2]
def QG(h0:0<=v)(af:v<1000):∀c∈(num v).cps.toList,48<=c/\c<=57:=λc aC=>by
 have:=vH.mp (acV (El h0 af).1).2 c aC;simpa[oH]using this
def aoa:∀c∈pV.cps.toList,97<=c/\c<=122:=∅
def aq4:∀k,k<26->97+k∈pV.cps.toList:=∅
def xv{x:Str}(h:made x pV 8=true):(1<=↑x/\↑x<=8)/\∀c∈x.cps.toList,97<=c/\c<=122:=by
 unfold made at h;split at h
 .cases h
 .rename_i af;split at h
  .cases h
  .rename_i ak;have a8:¬ ↑x=0:=λz=>af (Gl.mpr z)
   refine((),λc aC=>?_);have:=vH.mp h c aC;rw[JT]at this;exact aoa c (of_decide_eq_true this)
def aoi{x:Str}(h0:1<=↑x)(af:↑x<=8)(h:∀c∈x.cps.toList,97<=c/\c<=122):made x pV 8=true:=by
 unfold made;rw[if_neg (λz=>by have:=Gl.mp z;omega),if_neg ()];refine vH.mpr λc aC=>?_
 have:=h c aC;rw[JT];have e:=aq4 (c-97) ();rw[show 97+(c-97)=c by omega]at e;exact decide_eq_true e
structure pQ(n:Int)(d:bf):Prop where
 k:d.k<3
 nm:made d.name pV 8=true
 st:0<=d.start/\d.start<n
 f_:0<=d.fin/\d.fin<n
 ne:d.start≠d.fin
 of:0<=d.off/\d.off<=30
 xF:0<=d.near/\d.near<=30
 le:1<=d.least/\d.least<=60
structure wc(n:Int)(ds:List bf):Prop where
 nn:2<=n/\n<=99
 ln:1<=↑ds/\↑ds<=12
 al:∀d∈ds,pQ n d
 aH:(ds.map (·.name)).Nodup
noncomputable def pR(d:bf):List Str:=[fl d.k,d.name,num d.start,num d.fin,num d.off,num d.near,num d.least]
noncomputable def jg(n:Int)(ds:List bf):List (List Str):=[ab "ring",num n]::ds.map pR
noncomputable def r2(n:Int)(ds:List bf):Str:=eG nl ((jg n ds).map (eG c_))
def sx(x:Str):Prop:=↑x<=8/\(32:Nat)∉x.cps.toList/\(10:Nat)∉x.cps.toList
theorem RN(k:Nat):sx (fl k):=by
 match k with
 |0=>exact(∅,∅,∅)
 |1=>exact(∅,∅,∅)
 |_+2=>exact(show ↑(ab "tram")<=8 by ac_nf,(∅:(32:Nat)∉(ab "tram").cps.toList),show(10:Nat)∉(ab "tram").cps.toList by ac_nf)
def m1(h0:0<=v)(af:v<1000):sx (num v):=
 (cZ (Ac h0 ()) ∅,λz=>by have:=QG h0 af _ z;omega,λz=>by have:=QG h0 af _ z;omega)
def Mn{x:Str}(h:made x pV 8=true):sx x:=
 ((xv h).1.2,λz=>by have:=(xv h).2 _ z;omega,λz=>by have:=(xv h).2 _ z;omega)
def pQ.plain(h:pQ n d)(a5:n<=99):∀x∈pR d,sx x:=λx ag=>by
 have af:=h.st;have ak:=h.f_;have a8:=h.of;have bZ:=h.xF;have dS:=h.le;simp only[pR,d6,pI,or_false]at ag;rcases ag with rfl|rfl|rfl|rfl|rfl|rfl|rfl
 .exact RN _
 .exact Mn h.nm
 .exact m1 () ()
 .exact m1 () ()
 .exact m1 () ()
 .exact m1 () ()
 .exact m1 () ()
theorem wc.plain(h:wc n ds):∀r∈jg n ds,∀x∈r,sx x:=λr ao x ag=>by
 have a5:=h.nn;rcases d6.mp ao with rfl|ao
 .simp only[d6,pI,or_false]at ag;rcases ag with rfl|rfl
  .exact (∅,∅,∅)
  .exact m1 () ()
 .let(d,hd,rfl):=cf.mp ao;exact(h.al d hd).plain a5.2 x ag
def ZL(h0:rs≠[])(af:∀r∈rs,r≠[])(ak:∀r∈rs,∀x∈r,sx x):iC (eG nl (rs.map (eG c_)))=rs:=by
 unfold iC;rw[asf,Ee];rw[VC (by simpa using h0) (λy aQ=>by
  let(r,ao,rfl):=cf.mp aQ;rw[s_];intro z;rcases UA z with z|⟨p,aq,z⟩
  .cases z
  .let(x,ag,rfl):=cf.mp aq;exact(ak r ao x ag).2.2 z)]
 rw[q3];have:∀r∈rs,((λr=>jL r ⟨#[32]⟩) ∘ eG ⟨#[32]⟩) r=r:=λr ao=>VC (af r ao) λx ag=>(ak r ao x ag).2.1
 exact(Pz this).trans (List.map_id rs)
def alr(h:wc n ds):iC (r2 n ds)=jg n ds:=ZL (by simp[jg]) (λr ao=>by
 rcases d6.mp ao with rfl|ao
 .simp
 .let(d,hd,rfl):=cf.mp ao;simp[pR]) h.plain
theorem rU(sep:Str)(B:Nat):∀ys:List Str,(∀y∈ys,↑y<=B)->↑(eG sep ys)<=↑ys*(B+↑sep)
 |[],_=>by show ↑(Str.empty)<=_;exact eO _
 |[a],h=>by
  have:=h a (by simp);show ↑a<=_;simp only[gW,zr];omega
 |a::b::r,h=>by
  have af:=h a (by simp);have ak:=rU sep B (b::r) λy aQ=>h y (jj _ aQ)
  show ↑(a++sep++eG sep (b::r))<=_;rw[rj,rj,gW,y_];omega
def aco(h:wc n ds):↑(r2 n ds)<=1000:=by
 have af:∀y∈(jg n ds).map (eG c_),↑y<=63:=λy aQ=>by
  let(r,ao,rfl):=cf.mp aQ;have:=rU c_ 8 r λx ag=>(h.plain r ao x ag).1
  rw[tH]at this;have aN:↑r<=7:=by
   rcases d6.mp ao with rfl|ao
   .simp
   .let(d,hd,rfl):=cf.mp ao;simp[pR]
  omega
 have ak:=rU nl 63 _ af;rw[yM]at ak;have a8:↑((jg n ds).map (eG c_))<=13:=by
  have:=h.ln;simp[jg];omega
 unfold r2;omega
abbrev sb:List Str:=[ab "row",ab "told",ab "place"]
noncomputable def oO(row:Int)(ba:Addr)(pl:Int):List (Str×V):=[(p'p (ab "row") (.int row)),(p'p (ab "told") (⇑ba)),(p'p (ab "place") (.int pl))]
def y4(row:Int)(ba:Addr)(pl:Int):(oO row ba pl).map (·.1)=sb:=rfl
def amB(row:Int)(ba:Addr)(pl v:Int):dg (ab "place") (.int v) (oO row ba pl)=oO row ba v:=by
 unfold oO;simp only[dg];rw[if_neg ∅,if_neg ∅];rfl
def dH(t:bQ)(H:aw)(p:Addr)(row:Int)(ws:List Str)(pl:Nat):Prop:=
 (↑ws<=1000/\∀x∈ws,↑x<=1000)/\∃ax ba,H p\(.ins t.hW ax (oO row ba pl))/\H ba\(.lst (a0 ws))
def da(p:Addr)(H I:aw):Prop:=∀b u,b≠p->H b\u->I b\u
def da.trans{p:Addr}(a:da p H H1)(b:da p H1 ar):da p H ar:=λc u n e=>b c u n (a c u n e)
def da.of{p:Addr}(a:aM H H1):da p H H1:=λc u _ e=>a c u e
def da.put{p:Addr}:da p H (upd H p o):=λc u n e=>by rw[aD n];exact e
def gb(ws:List Str):↑(a0 ws)=↑ws:=by unfold a0;rw[aT]
def oL{ws:List Str}{i:Nat}{x:Str}(h:ws[i]?\x):(a0 ws)[i]?\(.str x):=by unfold a0;rw[dv,h];rfl
def Op(ws:List Str):(a0 ws).all mQ=true:=by unfold a0;simp[mQ]
def ER(x:Str)(xs:List Str):tG (.str x) (a0 xs)=decide (x∈xs):=by
 unfold tG a0;rw[Yc,m8];simp only[rg,ado,e'a,e'b,e'c,beq_iff_eq,decide_eq_true_eq];constructor
 .intro (y,aQ,rfl);exact aQ
 .intro h;exact(x,h,rfl)
section
variable{w:World}{K:bq}{mg:Str->Option Value}{t:bQ}{H I:aw}{p:Addr}{row:Int}{ws:List Str}{pl:Nat}
def dH.same(h:dH t H p row ws pl)(s:aM H I):dH t I p row ws pl:=by
 let(aO,ax,ba,au,aE):=h;exact(aO,ax,ba,s _ _ au,s _ _ aE)
def dH.Ad(h:dH t H p row ws pl)(s:da q H I)(n:p≠q)(k:∃C ax a6,H q\(.ins C ax a6)):dH t I p row ws pl:=by
 let(aO,ax,ba,au,aE):=h;let(C,CO,a6,bI):=k;exact(aO,ax,ba,s _ _ n au,s _ _ (bW aE bI (by intro z;cases z)) aE)
theorem dH.ins(h:dH t H p row ws pl):∃C ax a6,H p\(.ins C ax a6):=by
 let(aO,ax,ba,au,aE):=h;exact(_,_,_,au)
def dH.no{m:Str}(row:Int)(ba:Addr)(pl:Int)(h:sb.contains m=false):(oO row ba pl).lookup m=none:=wL sb (y4 ..) h
def MI(T:Txt w K mg t){pl:Int}(e:H p\(.ins t.hW ax (oO row ba pl))):fG K H p (ab "place") (.int pl):=
 (_,ax,_,e,T.gK,T.L9,fX sb 2 (y4 ..) ∅ rfl)
def Oa(T:Txt w K mg t){pl:Int}(e:H p\(.ins t.hW ax (oO row ba pl))):fG K H p (ab "told") ⇑ba:=
 (_,ax,_,e,T.gK,T.XR,fX sb 1 (y4 ..) ∅ rfl)
end
def ZC(t:bQ):bV:=λvs H Q _=>∃(p ax ba:Addr) (row:Int),vs=[⇑p,.int row,⇑ba]/\H p\(.ins t.hW ax [])/\Q .cF (upd H p (.ins t.hW ax (oO row ba 0)))
def ajx(t:bQ):bV:=λvs H Q _=>∃p row ws pl,vs=[⇑p]/\dH t H p row ws pl/\pl<=↑ws/\Q (.str (ws.getD pl (ab ""))) H
def anP(t:bQ):bV:=λvs H Q _=>∃p row ws pl,vs=[⇑p]/\dH t H p row ws pl/\Q (.bG (decide (pl<↑ws))) H
def HM(t:bQ)(H:aw)(p:Addr)(row:Int)(ws:List Str)(pl:Nat)(R:aw->Prop):Prop:=∀I,da p H I->(aF H->aF I)->dH t I p row ws pl->R I
def ai3(t:bQ):bV:=λvs H Q _=>∃p row ws pl,vs=[⇑p,.bG true]/\dH t H p row ws pl/\HM t H p row ws (pl+1) (Q .cF)
def aec(K:bq)(t:bQ):bV:=λvs H Q _=>∃p row ws pl x c xs,vs=[⇑p,⇑c]/\dH t H p row ws pl/\ws[pl]?\x/\ay K H c (a0 xs)/\x∈xs/\HM t H p row ws (pl+1) (Q (.str x))
def Ix(t:bQ):bV:=λvs H Q _=>∃p row ws pl x lo ai v,vs=[⇑p,.int lo,.int ai]/\dH t H p row ws pl/\ws[pl]?\x/\kv x lo ai=.int v/\aF H/\HM t H p row ws (pl+1) (Q (.int v))
def arU(t:bQ):bV:=λvs H Q _=>∃p row ws pl,vs=[⇑p]/\dH t H p row ws pl/\pl=↑ws/\Q .cF H
def adO:cu P base T 1 t.Bb t.Fs AD (ZC t):=by
 exists T.YC.ok alc,9
 let(p,ax,ba,row,rfl,aq,q):=h;refine(_,(aP (eW (U 0) (U 1) rfl)
   (aP (eW (U 0) (U 2) rfl)
   (aY (eW (U 0) aR rfl)))),?_)
 nofun;refine(_,_,_,aq,T.gK,T.asy,∅,?_);refine(_,_,_,db,T.gK,T.XR,hP (n:=999) ∅,?_);refine(_,_,_,db,T.gK,T.L9,hP (n:=999) (hP (n:=998) ∅),?_);simp only[ug];rw[show dg (ab "row") (V.int row) ([]:List (Str×V))=[(p'p (ab "row") (V.int row))]from gi [] rfl ∅,
  show dg (ab "told") (V.ref ba) ([(p'p (ab "row") (V.int row))]:List (Str×V))=[(p'p (ab "row") (V.int row)),(p'p (ab "told") (V.ref ba))]from gi [ab "row"] rfl ∅,
  show dg (ab "place") (V.int 0) ([(p'p (ab "row") (V.int row)),(p'p (ab "told") (V.ref ba))]:List (Str×V))=[(p'p (ab "row") (V.int row)),(p'p (ab "told") (V.ref ba)),(p'p (ab "place") (V.int 0))]from gi [ab "row",ab "told"] rfl ∅]
 exact q
def Dd:cu P base T 1 t.DO t.MK ["self"] (ajx t):=by
 exists T.aag.ok ajq,9
 let(p,row,ws,pl,rfl,(aO,ax,ba,au,aE),hle,q):=h;refine(_,(aP (d7 (de fg (br (U 0) rfl) (fy iu rfl T.hX hU (ah (br (U 0) rfl) aA)) (cO _)) (aY (cp dW)) eA)
   (aY (cp (cj dp (br (U 0) rfl) (br (U 0) rfl))))),?_)
 nofun;refine dC (decide ((pl:Int)=(↑ws:Int))) (λQ aX=>?_) (λc=>?_) (λc=>?_)
 .nofun;refine(_,MI T au,_,Oa T au,_,rfl,_,.inl (ay.of aE),rfl,?_);rw[gb];nofun;exact aX
 .nofun;have c':pl=↑ws:=by have:=of_decide_eq_true c;omega
  rw[show ws.getD pl (ab "")=ab "" by rw[ku,aot ()];rfl]at q;exact q
 .nofun;have c':pl<↑ws:=by have:=of_decide_eq_false c;omega
  have ag:ws[pl]?\ws[pl]:=bj c';rw[ku,ag]at q;exact(_,Oa T au,_,MI T au,_,rfl,_,_,rfl,ay.of aE,_,cI (oL ag),q)
def SA:cu P base T 1 t.B_ t.MT ["self"] (anP t):=by
 exists T.Yy.ok ag2,9
 let(p,row,ws,pl,rfl,(aO,ax,ba,au,aE),q):=h;refine(_,(aY (cp (jt l4 (br (U 0) rfl) (fy iu rfl T.hX hU (ah (br (U 0) rfl) aA)) (cO _)))),?_);nofun;have e:decide (pl<↑ws)=decide ((pl:Int)<(↑ws:Int)):=by rw[m8];simp
 rw[e]at q;refine(_,MI T au,_,Oa T au,_,rfl,_,.inl (ay.of aE),?_);rw[gb];exact(_,rfl,q)
def OQ:cu P base T 1 t.ce t.Lm G1 (ai3 t):=by
 exists T.Xs.ok abK,9
 let(p,row,ws,pl,rfl,(aO,ax,ba,au,aE),q):=h;refine(_,(aP (d7 (BB (rJ (U 1))) (aY qG) eA)
   (aY (DC (U 0) aR Ba))),?_)
 nofun;refine dC false (λQ aX=>?_) (λaC=>nomatch aC) (λ_=>?_)
 .nofun;exact aX
 .nofun;refine⟨_,_,_,au,T.gK,T.L9,_,fX sb 2 (y4 ..) ∅ rfl,_,rfl,_,_,au,by rw[<- aT (f:=(·.1)),y4];decide,?_⟩;rw[amB];exact q _ da.put (λn=>n.upd) (aO,ax,ba,db,by rw[aD (bW aE au (by intro z;cases z))];exact aE)
def sw:cu P base T 2 t.BC t.PC H_ (aec K t):=by
 refine cD (Dd T) λvX=>cD (OQ T) λA8=>?_;exists T.W2.ok WG,9
 let(p,row,ws,pl,x,c,xs,rfl,R,ag,aC,hm,q):=h;refine(_,(aP (b8 (i:=2) WG.aH (jZ (U 0) T.gK T.D3 vX ao T.GC .nil cY))
   (aP (d3 (e8 (U 0) T.gK T.MB A8 ao T.HS .nil cY (ah (jt xn (U 2) (U 1) (by with_unfolding_all rfl)) aA)))
   (aY (cp (U 2))))),?_)
 have dU:pl<↑ws:=(b5.mp ag).1;have a7:ws.getD pl (ab "")=x:=by rw[ku,ag];rfl
 let(_,ax,ba,au,aE):=id R;nofun;refine(_,_,au,dH.no _ _ _ ∅,(p,row,ws,pl,rfl,R,(),?_));rw[a7];nofun;refine(_,_,au,dH.no _ _ _ ∅,_,.inl aC,rfl,Op xs,?_);rw[ER,decide_eq_true hm];refine(p,row,ws,pl,rfl,R,λI s1 s2 s3=>?_);nofun;exact q I s1 s2 s3
def E_:cu P base T 4 t.Eg t.MS LS (Ix t):=by
 refine cD (Dd T) λvX=>cD (OQ T) λA8=>cD (arW T) λagH=>?_;exists T.SV.ok R6,9
 let(p,row,ws,pl,x,lo,ai,v,rfl,R,ag,aK,bz,q):=h;refine(_,(aP (b8 (i:=3) R6.aH (ck agH ao T.ac4 T.OP.bp T.KM (ah (jZ (U 0) T.gK T.D3 vX ao T.GC .nil cY) (ah (U 1) (ah (U 2) aA)))))
   (aP (d3 (e8 (U 0) T.gK T.MB A8 ao T.HS .nil cY (ah (jt Yd (U 3) uD (cO _)) aA)))
   (aY (cp (U 3))))),?_)
 have dU:pl<↑ws:=(b5.mp ag).1;have a7:ws.getD pl (ab "")=x:=by rw[ku,ag];rfl
 let(aO,ax,ba,au,aE):=id R;nofun;refine(_,_,au,dH.no _ _ _ ∅,(p,row,ws,pl,rfl,R,(),?_));rw[a7];nofun;refine(x,lo,ai,rfl,aO.2 x (cm ag),bz,?_);rw[aK];nofun;refine(_,_,au,dH.no _ _ _ ∅,?_);refine(p,row,ws,pl,rfl,R,λI s1 s2 s3=>?_);nofun;exact q I s1 s2 s3
def PO:cu P base T 2 t.GN t.Kk ["self"] (arU t):=by
 refine cD (SA T) λNU=>?_;exists T.SP.ok arz,9
 let(p,row,ws,pl,rfl,R,aN,q):=h;let(aO,ax,ba,au,aE):=id R;refine(_,(aY (d7 (rJ (jZ (U 0) T.gK T.Wb NU ao T.Xh .nil cY)) (aY qG) eA)),?_);nofun;refine dC false (λQ aX=>?_) (λaC=>nomatch aC) (λ_=>?_)
 .nofun;refine(_,_,au,dH.no _ _ _ ∅,(p,row,ws,pl,rfl,R,?_));rw[decide_eq_false ()];exact(_,rfl,aX)
 .nofun;exact q
noncomputable abbrev aJ(ws:List Str)(k:Nat):Str:=ws.getD k (ab "")
def Ij{k:Nat}(h:aJ ws k≠ab ""):k<↑ws:=by
 refine Classical.byContradiction λz=>h ?_
 unfold aJ;rw[ku,aot ()];rfl
def aaO(w:Str)(lo ai:Int):(∃v,kv w lo ai=.int v/\lo<=v/\v<=ai/\w≠ab "")\/kv w lo ai=.cF:=by
 unfold kv;split
 .rename_i h;rw[kb]at h;refine .inl (val w,rfl,?_,?_,λz=>?_)
  .have:=h.2;simp at this;omega
  .have:=h.2;simp at this;omega
  .have af:=h.1;rw[z]at af;exact absurd af ∅
 .exact .inr rfl
def abS(x:Str):Prop:=↑x<=1000/\∀c∈x.cps.toList,c<16 ^ 8
noncomputable def iO(ds:List bf)(x:Str):Option bf:=ds.find? λd=>decide (d.name=x)
def y0{w:World}{K:bq}{mg:Str->Option Value}{base:Heap}{j k:Nat}{m:Str}(V:om P w K mg base CX j oK m ps oG)(h:j<=k):om P w K mg base CX k oK m ps oG:=⟨λC dd=>by
 let(f,fd,af,ak,a8,bZ):=V.ok C dd;exact(f,fd,af,ak,a8.mono h,bZ)⟩
noncomputable def mA(x:Str)(lo ai:Int):Option Int:=if lU x && !(decide (val x<lo)||decide (ai<val x))then some (val x)else none
def Og(x:Str)(lo ai:Int):kv x lo ai=(mA x lo ai).elim .cF .int:=by
 unfold kv mA;split <;> rfl
theorem TL{x:Str}{lo ai v:Int}(h:kv x lo ai=.int v):mA x lo ai\v:=by
 rw[Og]at h;cases e:mA x lo ai with
 |none=>rw[e]at h;cases h
 |some u=>rw[e]at h;injection h with h;rw[h]
def LU{k:Nat}{lo ai v:Int}(h:kv (aJ ws k) lo ai=.int v):k+1<=↑ws/\lo<=v/\v<=ai:=by
 rcases aaO (aJ ws k) lo ai with⟨u,bJ,af,ak,a8⟩|a5
 .rw [bJ]at h;injection h with h;subst h;exact(Ij a8,af,ak)
 .rw [a5]at h;cases h
theorem nZ{a x:α}(h:(l++[a])[i]?\x):(i<↑l/\l[i]?\x)\/(i=↑l/\x=a):=by
 by_cases ai:i<↑l
 .rw [lg ai]at h;exact .inl (ai,h)
 .rw[j7 ()]at h;have h0:i-↑l=0:=by
   cases ct:i-↑l with
   |zero=>rfl
   |succ m=>rw[ct]at h;simp at h
  rw[h0]at h;exact .inr ((),(by simpa using h:a=x).symm)
def zV{k:Nat}(h:k<↑ws):ws[k]?\(aJ ws k):=by
 unfold aJ;rw[ku,bj h];rfl
theorem b'{α β:Type}{f:α->β}{l:List α}{i:Nat}{y:β}(h:(l.map f)[i]?\y):∃x,l[i]?\x/\y=f x:=by
 rw[dv]at h;cases e:l[i]? with
 |none=>rw[e]at h;cases h
 |some x=>rw[e]at h;exact(x,rfl,(er h).symm)
def ai6(t:bQ)(b6 H:aw)(p:Addr)(rows:List (List Str)):Prop:=∃qs:List Addr,H p\(.lst (qs.map V.ref))/\b6 p=none/\↑qs=↑rows/\∀(i:Nat) (q:Addr) (r:List Str),qs[i]?\q->rows[i]?\r->dH t H q i r 0/\b6 q=none
def Hq(t:bQ):bV:=λvs H Q _=>∃x,vs=[.str x]/\↑x<=20000/\(∀r∈iC x,↑r<=1000/\∀y∈r,↑y<=1000)/\aF H/\∀p I,aM H I->aF I->ai6 t H I p (iC x)->Q ⇑p I
theorem ZX:cu P base T 3 t.An t.zG ["text"] (Hq t):=by
 have ahP:cT P w K mg base dt 2 t.E5 t.BZ ["text"] ZG:=(amD T).mono ∅;have aqL:cT P w K mg base dt 1 t.Bb t.Fs AD (ZC t):=adO T;exists T.CU.ok aqZ,9
 let(x,rfl,aO,ya,bz,q):=h;refine(_,(aY (cp (hL rfl (C8 rfl T.B' (ah (ck ahP ao T.aow T.MP.bp T.apR (ah (U 0) aA)) aA)) (gu (sc:=bx (top 25)) rfl ∅) (N:=["row","told"]) (sel:=[none,none]) (gx (M:=["text"]) ∅) (fm.of (λ_ _ _ _=>(la (K:=K) (n:=2) rfl rfl (eT (b_ (i:=0) (ek (N:=["row","told"]) ∅ rfl)) (eT (b_ (i:=1) (ek (N:=["row","told"]) ∅ rfl)) lj)))) (λ_ _ _ _=>(_,iA,by walk_at "B")) (λ_ _ _ _=>(_,(sY T.aiK aqL ao rfl T.an' T.aff .nil cY (ah (U 0) (ah (U 1) aA))),by walk_at "B")))))),?_);nofun;refine(x,rfl,aO,bz,λp H1 xb j3 ⟨ps,aq,hJ,hZ,cV,rK⟩=>?_);nofun;refine((_,ay.of aq),?_);have hlen:↑ps<=sizeLine:=by
  rw[cV];unfold iC;rw[aT];have:=Kg (x:=x) (y:=nl) (by rw[yM];exact bR _);exact cZ (show _<=40000 by omega) ∅
 refine dh.enum (xs:=ps.map V.ref) (λi ys ar=>aM H1 ar/\aF ar/\∃qs:List Addr,ys=qs.map V.ref/\↑qs=i/\∀(j:Nat) (q:Addr) (r:List Str),qs[j]?\q->(iC x)[j]?\r->dH t ar q j r 0/\H1 q=none)
  (by rw[aT];exact hlen) (aM.refl H1,j3,[],rfl,rfl,λj q r h _=>by simp at h) ?_ ?_ ?_
 .rintro i ys ar ai a9;ac_rfl
  let(s2,cC,qs,rfl,aL,_):=a9;subst aS;exact(ay.of (s2 _ _ aq),by rw[aT];omega)
 .rintro i v ys ar du aK ⟨s2,cC,qs,rfl,aL,al⟩ gF N bo;rw[dv]at aK;cases B7:ps[i]? with
  |none=>rw[B7]at aK;cases aK
  | some pi=>
   rw[B7]at aK;have e:=(er aK).symm;subst e;refine uw ?_;nofun;refine(Sub.Su,λa ax aV hd cA=>?_);refine(a,ax,pi,i,rfl,db,rfl,?_);rw[ug];have s3:aM ar (upd (upd (upd ar du (.tup [.int i,⇑pi])) ax (.own a)) a (.ins t.hW ax (oO i pi 0))):=by
    have aj:aM ar (upd ar du (.tup [.int i,⇑pi])):=a_ gF;exact((aM.trans aj (a_ hd)).hE (aj.free aV))
   let(r,ao):∃r,(iC x)[i]?\r:=((iC x)[i]'(by rw[<- cV];exact(b5.mp B7).1),bj _);have Yi:ar a=none:=(a_ gF).free aV;refine bo _ _ (s2.trans s3,((cC.upd).upd).upd,qs++[a],by rw[ee];rfl,by rw[cU,aL];rfl,λj dB eU af ak=>?_);by_cases aI:j<↑qs
   .rw [lg aI]at af;let(gy,eE):=al j dB eU af ak;exact(gy.same s3,eE)
   .rw[j7 ()]at af;have sI:j-↑qs=0:=by
     cases ct:j-↑qs with
     |zero=>rfl
     |succ n=>rw[ct]at af;simp at af
    rw[sI]at af;have bI:a=dB:=by simpa using af
    subst bI;have ec:j=i:=()
    subst ec;rw[ao]at ak;cases ak;refine((ya r (cm ao),ax,pi,db,?_),s2.free Yi);exact s3 _ _ (s2 _ _ (rK j pi r B7 ao).1)
 .intro ys ar (s2,cC,qs,rfl,aL,al) du gF;refine q du _ ((xb.trans s2).hE ((xb.trans s2).free gF)) (cC.upd) (qs,db,(xb.trans s2).free gF,by rw[aL,aT,cV],λi dB r af ak=>?_);let(gy,eE):=al i dB r af ak;exact(gy.same (a_ gF),xb.free eE)
def ap1(q:Addr)(H:aw)(R:aw->Prop):Prop:=∀I,da q H I->aF I->R I
def Q1(t:bQ):bV:=λvs H Q _=>∃q row n,vs=[⇑q]/\dH t H q row [ab "ring",num n] 0/\(2<=n/\n<=99)/\aF H/\ap1 q H (Q (.int n))
def pU(t:bQ)(H:aw)(wl:Addr)(ds:List bf):Prop:=∃as:List Addr,H wl\(.lst (as.map V.ref))/\↑as=↑ds/\∀(i:Nat) (a:Addr) (d:bf),as[i]?\a->ds[i]?\d->fc t H a d
def agj(t:bQ):bV:=λvs H Q _=>∃q row ws pl wl ds x,vs=[⇑q,⇑wl]/\dH t H q row ws pl/\ws[pl]?\x/\made x pV 8=true/\pU t H wl ds/\↑ds<=12/\(∀d∈ds,d.name≠x)/\aF H /\
 ∀I,da q H I->aF I->dH t I q row ws (pl+1)->Q (.str x) I
def agL(t:bQ):bV:=λvs H Q _=>∃q row ws pl n st f_,vs=[⇑q,.int n,.int st]/\dH t H q row ws pl/\ws[pl]?\(num f_)/\(0<=st/\st<n)/\(0<=f_/\f_<n)/\st≠f_/\n<=99/\aF H /\
 ∀I,da q H I->aF I->dH t I q row ws (pl+1)->Q (.int f_) I
def ajL(t:bQ):bV:=λvs H Q _=>∃d:bf,vs=[.str (fl d.k),.str d.name,.int d.start,.int d.fin,.int d.off,.int d.near,.int d.least]/\d.k<3/\∀x I,aM H I->(aF H->aF I)->fc t I x d->H x=none->Q ⇑x I
def Xr(t:bQ):bV:=λvs H Q _=>∃q row n wl ds d,vs=[⇑q,.int n,⇑wl]/\dH t H q row (pR d) 0/\pQ n d/\(2<=n/\n<=99)/\pU t H wl ds/\↑ds<=12/\(∀e∈ds,e.name≠d.name)/\aF H /\
 ∀x I,da q H I->aF I->fc t I x d->H x=none->Q ⇑x I
def pU.Ad{t:bQ}{pl:Nat}(h:pU t H wl ds)(s:da q H I)(r:dH t H q row ws pl):pU t I wl ds:=by
 let(as,au,aE,al):=h;let(aO,ax,ba,bI,ec):=r;refine(as,s _ _ (bW au bI (by intro z;cases z)) au,aE,λi a d af ak=>?_);let(aB,ie,gm):=al i a d af ak;refine(aB,ie,s _ _ (λz=>?_) gm);subst z;rw[gm]at bI;have ez:=er bI;injection ez with _ _ j1;have jn:(7:Nat)=3:=congrArg tw j1;omega
theorem pU.same{t:bQ}(h:pU t H wl ds)(s:aM H I):pU t I wl ds:=by
 let(as,au,aE,al):=h;exact(as,s _ _ au,aE,λi a d af ak=>(al i a d af ak).same s)
def afh:cu P base T 5 t.GY t.Ef ["reader"] (Q1 t):=by
 refine cD (sw T) λtK=>cD (E_ T) λqn=>cD (PO T) λNc=>?_;exists T.Ms.ok ZV,9
 let(q,row,n,rfl,R,a5,bz,mz):=h;refine(_,(aP (d3 (e8 (U 0) T.gK T.AJ tK ao T.Ap .nil cY (ah (eJ (ah dW aA)) aA)))
   (aP (b8 (i:=1) ZV.aH (e8 (U 0) T.gK T.s8 qn ao T.tJ .nil cY (ah (nj rfl T.agS T.adZ) (ah (nj rfl T.ak1 T.adK) aA))))
   (aP (d3 (jZ (U 0) T.gK T.aaw Nc ao T.Uz .nil cY))
   (aY (cp (U 1)))))),?_)
 let(_,ax,ba,au,aE):=id R;nofun;refine(_,_,au,dH.no _ _ _ ∅,∅,λp aq=>?_);have s0:aM H (upd H p (.lst [V.str (ab "ring")])):=a_ aq;refine(q,row,_,0,ab "ring",p,[ab "ring"],rfl,R.same s0,rfl,ay.of db,by simp,λH1 s1 cK lV=>?_);let(_,K4,Z4,f1,f2):=id lV;nofun;refine(_,_,f1,dH.no _ _ _ ∅,?_);have j3:=cK bz.upd;refine(q,row,_,1,num n,2,99,n,rfl,lV,rfl,sT () () a5.1 a5.2,j3,λar s2 cC fK=>?_);let(_,vr,JF,g1,g2):=id fK;nofun;refine(_,_,g1,dH.no _ _ _ ∅,?_);refine(q,row,_,2,rfl,fK,rfl,?_);nofun;exact mz ar (((da.of s0).trans s1).trans s2) (cC j3)
def agW:cu P base T 3 t.Iz t.Js KX (agj t):=by
 refine cD (Dd T) λvX=>cD (OQ T) λA8=>cD (agX T) λaiS=>?_;exists T.Lc.ok Yl,9
 let(q,row,ws,pl,wl,ds,x,rfl,R,ag,hm,gY,fP,xo,bz,mz):=h;refine(_,(aP (b8 (i:=2) Yl.aH (jZ (U 0) T.gK T.D3 vX ao T.GC .nil cY))
   (aP (d3 (e8 (U 0) T.gK T.MB A8 ao T.HS .nil cY (ah (zN (ck aiS ao T.aoD T.Kq.bp T.amH (ah (U 2) aA)) (wK (jt LK (U 2) (hL rfl (eV (U 1)) (gu (sc:=bx (top 60)) rfl ∅) (N:=["way"]) (sel:=[none]) (gx (M:=["reader","ways","name"]) ∅) (fm.of (λ_ _ _ _=>(b_ (i:=0) (ek (N:=["way"]) ∅ rfl))) (λ_ _ _ _=>(_,iA,by walk_at "B")) (λ_ _ _ _=>(_,(br (U 0) rfl),by walk_at "B")))) (by with_unfolding_all rfl)))) aA)))
   (aY (cp (U 2))))),?_)
 have dU:pl<↑ws:=(b5.mp ag).1;have a7:ws.getD pl (ab "")=x:=by rw[ku,ag];rfl
 let(aO,ax,ba,au,aE):=id R;nofun;refine(_,_,au,dH.no _ _ _ ∅,(q,row,ws,pl,rfl,R,(),?_));rw[a7];nofun;refine(_,_,au,dH.no _ _ _ ∅,?_);refine(x,rfl,aO.2 x (cm ag),bz,?_);rw[hm];nofun;let(as,dP,ej,al):=gY;refine((_,ay.of dP),?_);have hle:↑(as.map V.ref)<=sizeLine:=by rw[aT,ej];exact cZ fP ∅
 refine dh.n1 (xs:=as.map V.ref) (zs:=ds.map λd=>V.str d.name) (ay.of dP) hle (by rw[aT,aT,ej]) (λi v z N aK ht bo=>?_) (λp aq=>?_)
 .let(a,aV,rfl):=b' aK;let(d,hd,rfl):=b' ht;nofun;exact(Sub.name,_,(al i a d aV hd).HB T,bo)
 .nofun;have fb:(ds.map λd=>V.str d.name)=a0 (ds.map (·.name)):=by unfold a0;rw[q3];rfl
  rw[fb];refine(_,.inl (ay.of db),rfl,Op _,?_);rw[ER,decide_eq_false (λz=>by
   let(d,hd,e):=cf.mp z;exact xo d hd e)]
  have s0:aM H (upd H p (.lst (a0 (ds.map (·.name))))):=a_ aq;exact(q,row,ws,pl,rfl,R.same s0,λI s1 cK lV=>mz I ((da.of s0).trans s1) (cK bz.upd) lV)
def abM:cu P base T 5 t.Lq t.Ol Dz (agL t):=by
 refine cD (Dd T) λvX=>cD (E_ T) λqn=>?_;exists T.Ip.ok alD,9
 let(q,row,ws,pl,n,st,f_,rfl,R,ag,fB,HR,cA,a5,bz,mz):=h;refine(_,(aP (d7 (de fg (jZ (U 0) T.gK T.D3 vX ao T.GC .nil cY) (rQ As rfl T.dL Av (ah (U 2) aA)) (cO _)) (aY qG) eA)
   (aY (cp (e8 (U 0) T.gK T.s8 qn ao T.tJ .nil cY (ah aR (ah (bM lC (U 1) aR) aA)))))),?_)
 have dU:pl<↑ws:=(b5.mp ag).1;have a7:ws.getD pl (ab "")=num f_:=by rw[ku,ag];rfl
 let(aO,ax,ba,au,aE):=id R;nofun;refine dC false (λQ aX=>?_) (λaC=>nomatch aC) (λ_=>?_)
 .nofun;refine(_,_,au,dH.no _ _ _ ∅,(q,row,ws,pl,rfl,R,(),?_));rw[a7];nofun;refine(Ke (),?_);rw[decide_eq_false (λz=>cA (afc () () () () z).symm)];exact aX
 .nofun;refine(_,_,au,dH.no _ _ _ ∅,(q,row,ws,pl,num f_,0,n-1,f_,rfl,R,ag,sT () () () (),bz,λH1 s1 cK lV=>?_));exact mz H1 s1 (cK bz) lV
def anm{t:bQ}{x ax:Addr}(ag:H x=none)(hd:H ax=none)(aB:d.k<3) :
  aM H (upd (upd (upd H ax (.own x)) x (.ins (t.gC d.k) ax [])) x (.ins (t.gC d.k) ax (Ty d)))/\(aF H->aF (upd (upd (upd H ax (.own x)) x (.ins (t.gC d.k) ax [])) x (.ins (t.gC d.k) ax (Ty d)))) /\
   fc t (upd (upd (upd H ax (.own x)) x (.ins (t.gC d.k) ax [])) x (.ins (t.gC d.k) ax (Ty d))) x d:=
 ((((aM.refl H).hE hd).hE ag).hE ag,λn=>((n.upd).upd).upd,aB,ax,db)
theorem adb:cu P base T 4 t.KI t.Wp Di (ajL t):=by
 have amc:cT P w K mg base dt 2 t.zx t.Gr mw (wF t 0):=an8 T;have arR:cT P w K mg base dt 2 t.AN t.Fo mw (wF t 1):=ajt T;have arM:cT P w K mg base dt 2 t.yI t.Gi mw (wF t 2):=ahW T;exists T.HG.ok asx,9
 let(d,rfl,aB,q):=h;refine(_,(aP (d7 (de fg (U 0) dW (cO _)) (aY (cp (sY T.aiq amc ao rfl T.amL T.ZB .nil cY (ah (U 1) (ah (U 2) (ah (U 3) (ah (U 4) (ah (U 5) (ah (U 6) aA))))))))) eA)
   (aP (d7 (de fg (U 0) dW (cO _)) (aY (cp (sY T.ahS arR ao rfl T.aby T.adh .nil cY (ah (U 1) (ah (U 2) (ah (U 3) (ah (U 4) (ah (U 5) (ah (U 6) aA))))))))) eA)
   (aY (cp (sY T.adf arM ao rfl T.akr T.aeR .nil cY (ah (U 1) (ah (U 2) (ah (U 3) (ah (U 4) (ah (U 5) (ah (U 6) aA))))))))))),?_)
 have fin:∀(x ax:Addr),H x=none->H ax=none->Q ⇑x (upd (upd (upd H ax (.own x)) x (.ins (t.gC d.k) ax [])) x (.ins (t.gC d.k) ax (Ty d))):=λx ax ag hd=>by
  let(jc,jb,md):=anm (t:=t) (d:=d) ag hd aB;exact q x _ jc jb md ag
 let(k,name,start,f_,off,near,least):=d
 match k,aB with
 |0,_=>
  (nofun; repeat (dsimp only[fl];nofun));refine dC true (λQ aX=>?_) (λ_=>?_) (λaC=>nomatch aC)
  .nofun;exact aX
  .nofun;exact λx ax ag hd cA=>(x,ax,(0,name,start,f_,off,near,least),rfl,rfl,db,rfl,fin x ax ag hd)
 | 1,_=>
  (nofun; repeat (dsimp only[fl];nofun));refine dC false (λQ aX=>?_) (λaC=>nomatch aC) (λ_=>?_)
  .nofun;rw[decide_eq_false ∅];exact aX
  .nofun;refine dC true (λQ aX=>?_) (λ_=>?_) (λaC=>nomatch aC)
   .nofun;exact aX
   .nofun;exact λx ax ag hd cA=>(x,ax,(1,name,start,f_,off,near,least),rfl,rfl,db,rfl,fin x ax ag hd)
 | 2,_=>
  (nofun; repeat (dsimp only[fl];nofun));refine dC false (λQ aX=>?_) (λaC=>nomatch aC) (λ_=>?_)
  .nofun;rw[decide_eq_false ∅];exact aX
  .nofun;refine dC false (λQ aX=>?_) (λaC=>nomatch aC) (λ_=>?_)
   .nofun;rw[decide_eq_false ∅];exact aX
   .nofun;exact λx ax ag hd cA=>(x,ax,(2,name,start,f_,off,near,least),rfl,rfl,db,rfl,fin x ax ag hd)
theorem aos:cu P base T 6 t.Gk t.C7 G7 (Xr t):=by
 refine cD (sw T) λtK=>cD (E_ T) λqn=>cD (PO T) λNc=>cD (agW T) λaoj=>cD (abM T) λajA=>cD (adb T) λaa5=>?_;exists T.NV.ok tc,9
 let(q,row,n,wl,ds,d,rfl,R,hd,a5,gY,fP,xo,bz,mz):=h;refine(_,(aP (b8 (i:=3) tc.aH (e8 (U 0) T.gK T.AJ tK ao T.Ap .nil cY (ah (eJ (ah dW (ah dW (ah dW aA)))) aA)))
   (aP (b8 (i:=4) tc.aH (ck aoj ao T.ak_ T.Lc.bp T.afo (ah (U 0) (ah (U 2) aA))))
   (aP (b8 (i:=5) tc.aH (e8 (U 0) T.gK T.s8 qn ao T.tJ .nil cY (ah aR (ah (bM lC (U 1) aR) aA))))
   (aP (b8 (i:=6) tc.aH (ck ajA ao T.asj T.Ip.bp T.agU (ah (U 0) (ah (U 1) (ah (U 5) aA)))))
   (aP (b8 (i:=7) tc.aH (e8 (U 0) T.gK T.s8 qn ao T.tJ .nil cY (ah aR (ah (nj rfl T.apC T.anB) aA))))
   (aP (b8 (i:=8) tc.aH (e8 (U 0) T.gK T.s8 qn ao T.tJ .nil cY (ah aR (ah (nj rfl T.afX T.arZ) aA))))
   (aP (b8 (i:=9) tc.aH (e8 (U 0) T.gK T.s8 qn ao T.tJ .nil cY (ah aR (ah (nj rfl T.aeV T.adR) aA))))
   (aP (d3 (jZ (U 0) T.gK T.aaw Nc ao T.Uz .nil cY))
   (aY (cp (ck aa5 ao T.agi T.HG.bp T.aj3 (ah (U 3) (ah (U 4) (ah (U 5) (ah (U 6) (ah (U 7) (ah (U 8) (ah (U 9) aA)))))))))))))))))),?_)
 have gq:=hd.st;have gj:=hd.f_;have jf:=hd.of;have iF:=hd.xF;have lx:=hd.le;let(_,ax,ba,au,aE):=id R;nofun;refine(_,_,au,dH.no _ _ _ ∅,∅,λp aq=>?_);have s0:aM H (upd H p (.lst [V.str (ab "car"),V.str (ab "foot"),V.str (ab "tram")])):=a_ aq;have hy:fl d.k∈[ab "car",ab "foot",ab "tram"]:=by
  have:=hd.k
  match d.k,this with
  |0,_=>simp[fl]
  |1,_=>simp[fl]
  |2,_=>simp[fl]
 refine(q,row,_,0,fl d.k,p,[ab "car",ab "foot",ab "tram"],rfl,R.same s0,rfl,ay.of db,hy,λH1 s1 cK lV=>?_);have cz:da q H H1:=(da.of s0).trans s1;have jc:=cK bz.upd;nofun;refine(q,row,_,1,wl,ds,d.name,rfl,lV,rfl,hd.nm,gY.Ad cz R,fP,xo,jc,λar s2 jb fK=>?_);let(_,vr,JF,f2,g2):=id fK;have ef:=cz.trans s2;nofun;refine(_,_,f2,dH.no _ _ _ ∅,(q,row,_,2,num d.start,0,n-1,d.start,rfl,fK,rfl,sT () () () (),jb,λa' s3 dc o5=>?_));have fU:=ef.trans s3;have md:=dc jb;nofun;refine(q,row,_,3,n,d.start,d.fin,rfl,o5,rfl,gq,gj,hd.ne,a5.2,md,λcb s4 tI oa=>?_);let(_,wU,auH,f4,qX):=id oa;have dr:=fU.trans s4;nofun;refine(_,_,f4,dH.no _ _ _ ∅,(q,row,_,4,num d.off,0,30,d.off,rfl,oa,rfl,sT () () () (),tI,λbP s5 dK sR=>?_));let(_,DT,atl,fw,GK):=id sR;have ed:=dr.trans s5;have mn:=dK tI;nofun;refine(_,_,fw,dH.no _ _ _ ∅,(q,row,_,5,num d.near,0,30,d.near,rfl,sR,rfl,sT () () () (),mn,λeX eo i9 ED=>?_));let(_,ato,at0,qp,VO):=id ED;have cL:=ed.trans eo;have tZ:=i9 mn;nofun;refine(_,_,qp,dH.no _ _ _ ∅,(q,row,_,6,num d.least,1,60,d.least,rfl,ED,rfl,sT () () () (),tZ,λeL h5 gr RM=>?_));let(_,at5,auj,nD,tX):=id RM;have di:=cL.trans h5;have afb:=gr tZ;nofun;refine(_,_,nD,dH.no _ _ _ ∅,(q,row,_,7,rfl,RM,rfl,?_));nofun;refine(d,rfl,hd.k,λx h6 gS mx Mt BE=>?_);refine mz x h6 (di.trans (da.of gS)) (mx afb) Mt ?_;cases j':H x with
 |none=>rfl
 |some u=>
  by_cases aal:x=q
  .subst aal;rw[nD]at BE;cases BE
  .rw [di x u aal j']at BE;cases BE
noncomputable abbrev xV:List Str:=[ab "places",ab "ways",ab "numbers"]
noncomputable def rk(n:Int)(wl aH:Addr):List (Str×V):=[(p'p (ab "places") (.int n)),(p'p (ab "ways") (⇑wl)),(p'p (ab "numbers") (⇑aH))]
def Fl(n:Int)(wl aH:Addr):(rk n wl aH).map (·.1)=xV:=rfl
noncomputable def nm(ds:List bf)(i:Nat):Str:=((ds[i]?).map (·.name)).getD (ab "")
noncomputable def oI(ds:List bf)(i:Nat):List (Key×V):=(fp i).map λj=>(p'p (bO (nm ds j)) (V.int j))
def o_(h:ds[i]?\d):nm ds i=d.name:=by unfold nm;rw[h];rfl
def xj(h:(ds.map (·.name)).Nodup)(ai:i<↑ds)(aI:j<↑ds)(e:nm ds i=nm ds j):i=j:=by
 rw[o_ (bj ai),o_ (bj aI)]at e;have:=(wM (xs:=ds.map (·.name)) (i:=i) (j:=j) (h₀:=by rw[aT];exact ai) (h₁:=by rw[aT];exact aI) h).mp (by rw[sr,sr];exact e);exact this
theorem aql(h:(ds.map (·.name)).Nodup):∀{n:Nat},i<n->n<=↑ds->df (oI ds n) (bO (nm ds i))\(.int i):=by
 intro n
 induction n with
 |zero=>intro ai _;omega
 | succ n c4=>
  intro ai a5;unfold oI df;rw[wB,ee,List.find?_append];by_cases c:i<n
  .have:=c4 c ();unfold oI df at this;cases e:aje (λdE=>decide (dE.fst=bO (nm ds i))) (oh (λj=>(p'p (bO (nm ds j):Key) (V.int j))) (fp n))with
   |none=>rw[e]at this;cases this
   |some p=>rw[e]at this;exact this
  .have e:i=n:=()
   subst e;have no:aje (λdE=>decide (dE.fst=bO (nm ds i))) (oh (λj=>(p'p (bO (nm ds j):Key) (V.int j))) (fp i))=none:=by
    rw[abm];intro p aq;let(j,aI,rfl):=cf.mp aq;have il:=pY.mp aI;simp only[decide_eq_true_eq];intro z;have:=xj h () () (sg z);omega
   rw[no];simp
def abd(h:(ds.map (·.name)).Nodup)(a5:n<↑ds):d8 (oI ds n) (bO (nm ds n)) (.int n)=oI ds (n+1):=by
 unfold d8;have no:((oI ds n).any λdE=>decide (dE.1=bO (nm ds n)))=false:=by
  rw[Jk];intro p aq;let(j,aI,rfl):=cf.mp aq;have il:=pY.mp aI;simp only[decide_eq_true_eq];intro z;have:=xj h () a5 (sg z);omega
 rw[no];unfold oI;rw[wB,ee];rfl
def zI(a:aM H H1)(b:da q H1 ar)(n:H q=none):aM H ar:=λc u e=>b c u (dF e n) (a c u e)
def M1{t:bQ}{p q:Addr}{k l:Nat}(a:dH t H p i ws k)(b:dH t H q j vs l)(n:i≠j):p≠q:=λz=>by
 subst z;let(_,ax,ba,au,_):=a;let(_,ie,am7,aE,_):=b;rw[au]at aE;have bI:=er aE;injection bI with _ _ ec;unfold oO at ec;injection ec with gm _;injection gm with _ ez;injection ez with g5;exact n g5
def TD{t:bQ}{p q:Addr}(a:fc t H p d)(b:dH t H q j vs l):p≠q:=λz=>by
 subst z;let(_,ax,au):=a;let(_,ie,am7,aE,_):=b;rw[au]at aE;have bI:=er aE;injection bI with _ _ ec;exact absurd (congrArg tw ec) (by show ¬(7:Nat)=3;decide)
def gp(t:bQ)(H:aw)(c:Addr)(n:Int)(ds:List bf):Prop:=
 ((ds.map (·.name)).Nodup/\↑ds<=12)/\∃ax wl aH,H c\(.ins t.iN ax (rk n wl aH))/\pU t H wl ds/\H aH\(.bu (oI ds ↑ds))
theorem gp.same{t:bQ}{c:Addr}(h:gp t H c n ds)(s:aM H I):gp t I c n ds:=by
 let(h0,ax,wl,aH,au,aE,bI):=h;exact(h0,ax,wl,aH,s _ _ au,aE.same s,s _ _ bI)
def jv{m:Str}(n:Int)(wl aH:Addr)(h:xV.contains m=false):(rk n wl aH).lookup m=none:=wL xV (Fl ..) h
section
variable{w:World}{K:bq}{mg:Str->Option Value}{t:bQ}{H:aw}{c ax wl aH:Addr}{n:Int}
def aqK(T:Txt w K mg t)(e:H c\(.ins t.iN ax (rk n wl aH))):fG K H c (ab "places") (.int n):=(_,ax,_,e,T.ac,T.W7,fX xV 0 (Fl ..) ∅ rfl)
def UJ(T:Txt w K mg t)(e:H c\(.ins t.iN ax (rk n wl aH))):fG K H c (ab "ways") ⇑wl:=(_,ax,_,e,T.ac,T.Ri,fX xV 1 (Fl ..) ∅ rfl)
def Kh(T:Txt w K mg t)(e:H c\(.ins t.iN ax (rk n wl aH))):fG K H c (ab "numbers") ⇑aH:=(_,ax,_,e,T.ac,T.Sj,fX xV 2 (Fl ..) ∅ rfl)
end
def UT(t:bQ):bV:=λvs H Q _=>∃c ax n wl ds,vs=[⇑c,.int n,⇑wl]/\H c\(.ins t.iN ax [])/\pU t H wl ds/\(ds.map (·.name)).Nodup/\↑ds<=12/\aF H /\
 ∀I,da c H I->aF I->gp t I c n ds->Q .cF I
def ZH(t:bQ):bV:=λvs H Q _=>∃n ds,vs=[.str (r2 n ds)]/\wc n ds/\aF H/\∀c I,aM H I->aF I->gp t I c n ds->Q ⇑c I
def Ky(t:bQ):bV:=λvs H Q _=>∃c n ds,vs=[⇑c]/\gp t H c n ds/\∀p,H p=none->Q ⇑p (upd H p (.lst (a0 (ds.map (·.name)))))
def ags(t:bQ):bV:=λvs H Q _=>∃c n ds,∃i:Nat,∃d,vs=[⇑c,.str d.name]/\gp t H c n ds/\ds[i]?\d/\Q (.int (i:Nat)) H
def IV(t:bQ):bV:=λvs H Q _=>∃c n ds,∃i:Nat,∃d,vs=[⇑c,.str d.name]/\gp t H c n ds/\ds[i]?\d/\∀a,fc t H a d->Q ⇑a H
def ash:cu P base T 1 t.yO t.De FI (UT t):=by
 exists T.TK.ok IG,9
 let(c,ax,n,wl,ds,rfl,aC,gY,fS,fP,bz,q):=h;have bJ:=h9 ao;refine(_,(aP (eW (U 0) (U 1) rfl)
   (aP (eW (U 0) (U 2) rfl)
   (aP (eW (U 0) vl rfl)
   (aY (eY eP rfl (C8 rfl T.B' (ah (U 2) aA)) (la (K:=K) (n:=2) rfl rfl (eT (b_ (i:=3) IG.aH) (eT (b_ (i:=4) IG.aH) lj))) (aY (r3 bJ (br (U 0) rfl) (br (U 4) rfl) (U 3) rfl))))))),?_)
 nofun;refine(_,_,_,aC,T.ac,T.W7,∅,?_);refine(_,_,_,db,T.ac,T.Ri,hP (n:=999) ∅,λaH a5=>?_);simp only[ug]at a5⊢;rw[show dg (ab "places") (V.int n) ([]:List (Str×V))=[(p'p (ab "places") (V.int n))]from rfl,show dg (ab "ways") (V.ref wl) [(p'p (ab "places") (V.int n))]=[(p'p (ab "places") (V.int n)),(p'p (ab "ways") (V.ref wl))]from gi [ab "places"] rfl ∅]at a5⊢;have DW:c≠aH:=λz=>by subst z;rw[db]at a5;cases a5
 refine(t.iN,ax,[(p'p (ab "places") (V.int n)),(p'p (ab "ways") (V.ref wl))],by rw[aD DW];exact db,T.ac,T.Sj,(∅:(2:Nat)<1000),?_);rw[show dg (ab "numbers") (V.ref aH) [(p'p (ab "places") (V.int n)),(p'p (ab "ways") (V.ref wl))]=rk n wl aH from gi [ab "places",ab "ways"] rfl ∅];let(as,dP,ej,al):=gY;have SU:H aH=none:=by rw[aD (dm DW)]at a5;exact a5
 have k0:da c H (upd (upd (upd H c (.ins t.iN ax [(p'p (ab "places") (V.int n)),(p'p (ab "ways") (V.ref wl))])) aH (.bu [])) c (.ins t.iN ax (rk n wl aH))):=λb u aa e=>by
  rw[aD aa,aD (dF e SU),aD aa];exact e
 have Kv:wl≠c:=bW dP aC (by intro z;cases z);refine((_,ay.of (k0 _ _ Kv dP)),?_);refine d1.enum (xs:=as.map V.ref) (λi σ I=>(∃x y,σ=[some (V.ref c),some (V.int n),some (V.ref wl),x,y])/\I c\(.ins t.iN ax (rk n wl aH))/\I aH\(.bu (oI ds i))/\da c H I/\aF I) ?_ ?_ ?_ ?_
 .exact ((_,_,rfl),db,by rw[aD (dm DW),db];rfl,k0,((bz.upd).upd).upd)
 .rintro i σ I ai a9;ac_rfl
  let(_,_,_,th,_):=a9;subst aS;exact ay.of (th _ _ Kv dP)
 .rintro i v σ I p aK ⟨⟨x,y,rfl⟩,af,ak,th,mX⟩ aq;obtain⟨a,aV,rfl⟩:=b' aK;obtain⟨ai,_⟩:=b5.mp aV;have ny:i<↑ds:=()
  have hd:ds[i]?\ds[i]:=bj ny;have ks:fc t H a ds[i]:=al i a _ aV hd;have L3:a≠c:=by
   let(_,ie,e):=ks;intro z;subst z;rw[aC]at e;have aE:=er e;injection aE with _ _ bI;exact absurd (congrArg tw bI) (by show ¬(0:Nat)=7;decide)
  have akh:fc t I a ds[i]:=(ks.1,ks.2.imp λie e=>th _ _ L3 e);have sp:aM I (upd I p (.tup [.int i,⇑a])):=a_ aq;refine uw ?_;nofun;refine(_,Kh T (sp _ _ af),_,(akh.same sp).HB T,_,rfl,_,jh.k (k:=bO ds[i].name) (sp _ _ ak) (gv (show ↑(oI ds i)<=12 by unfold oI;rw[aT,tv];omega) ∅),?_);rw[<- o_ hd,abd fS ny];refine((_,rfl),?_,db,λb u aa e=>?_,(mX.upd).upd)
  .rw [aD DW];exact sp _ _ af
  .rw [aD (dF e SU)];exact sp _ _ (th b u aa e)
 .rintro σ I a9;ac_rfl
  let((x,y,rfl),af,ak,th,mX):=a9;subst aS;nofun;rw[aT,ej]at ak;refine q I th mX ((fS,fP),ax,wl,aH,af,(as,th _ _ Kv dP,ej,λi a d a8 bZ=>?_),ak);have ks:=al i a d a8 bZ;have L3:a≠c:=by
   let(_,ie,e):=ks;intro z;subst z;rw[aC]at e;have aE:=er e;injection aE with _ _ bI;exact absurd (congrArg tw bI) (by show ¬(0:Nat)=7;decide)
  exact(ks.1,ks.2.imp λie e=>th _ _ L3 e)
def aqC:cu P base T 1 t.F8 t.Uf js (ags t):=by
 exists T.Sx.ok amw,9
 let(c,n,ds,i,d,rfl,((fS,fP),ax,wl,aH,au,aE,bI),hd,q):=h;have bJ:=h9 ao;have aK:df (oI ds ↑ds) (bO d.name)\(.int i):=by
  rw[<- o_ hd];exact aql fS (b5.mp hd).1 (bR _)
 have a7:gw H aH (.str d.name) (some (.int i)):=by rw[<- aK];exact gw.k (k:=bO d.name) bI
 refine(_,(aP (d7 (Ww (aaJ bJ (U 1) (br (U 0) rfl))) (aY qG) eA)
   (aY (cp (l7 bJ (br (U 0) rfl) (U 1) (λ_ _=>rfl))))),?_)
 nofun;refine dC false (λQ aX=>?_) (λaC=>nomatch aC) (λ_=>?_)
 .nofun;refine(_,Kh T au,_,rfl,_,a7,?_);exact aX
 .nofun;exact(_,Kh T au,_,rfl,_,a7,q)
def qz:cu P base T 2 t.x3 t.Bk js (IV t):=by
 refine cD (aqC T) λahH=>?_;exists T.U9.ok aa2,9
 let(c,n,ds,i,d,rfl,C,hd,q):=h;let((fS,fP),ax,wl,aH,au,(as,dP,ej,al),bI):=id C;refine(_,(aY (cp (cj dp (br (U 0) rfl) (e8 (U 0) T.ac T.aiA ahH ao T.adu .nil cY (ah (U 1) aA))))),?_);nofun;refine(_,UJ T au,_,_,au,jv _ _ _ ∅,(c,n,ds,i,d,rfl,C,hd,?_));have ai:i<↑as:=by rw[ej];exact(b5.mp hd).1
 have aV:as[i]?\as[i]:=bj ai;nofun;refine(_,ay.of dP,_,cI (show(as.map V.ref)[i]?\(V.ref as[i])by rw[dv,aV];rfl),?_);exact q as[i] (al i _ d aV hd)
theorem acE:cu P base T 7 t.GR t.FY ["text"] (ZH t):=by
 have HH:cT P w K mg base dt 6 t.An t.zG ["text"] (Hq t):=(ZX T).mono ∅;have ag9:cT P w K mg base dt 6 t.GY t.Ef ["reader"] (Q1 t):=(afh T).mono ∅;have am3:cT P w K mg base dt 6 t.Gk t.C7 G7 (Xr t):=aos T;have abr:cT P w K mg base dt 5 t.yO t.De FI (UT t):=(ash T).mono ∅;exists T.Hf.ok zX,9
 obtain⟨n,ds,rfl,dd,bz,mz⟩:=h;refine⟨_,(aP (b8 (i:=1) zX.aH (ck HH ao T.WR T.CU.bp T.YN (ah (U 0) aA)))
   (aP (b8 (i:=2) zX.aH (ck ag9 ao T.akE T.Ms.bp T.KF (ah (cj dp (U 1) aR) aA)))
   (aP (b8 (i:=3) zX.aH (eJ aA))
   (aP (eY eP rfl (eV (o3 wb (U 1) (n_ aR) qc)) (b_ (i:=4) zX.aH) (aP (d7 (de fg (fy iu rfl T.hX hU (ah (U 3) aA)) (nj rfl T.al2 T.aog) (cO _)) (aY qG) eA)
   (aY (d3 (eS f9 kQ k2 kO (U 3) (ah (ck am3 ao T.ac6 T.NV.bp T.aiP (ah (U 4) (ah (U 2) (ah (U 3) aA)))) aA))))))
   (aP (d7 (BB (Gm (U 3) (fun _=>rfl))) (aY qG) eA)
   (aY (cp (sY T.aiI abr ao rfl T.aaM T.amt .nil cY (ah (U 2) (ah (U 3) aA)))))))))),?_⟩
 have ya:=alr dd;have hlen:=aco dd;have Tw:=dd.nn;have afU:=dd.ln;nofun;refine⟨r2 n ds,rfl,(),?_,bz,fun p H1 xb j3 R=>?_⟩
 .rw[ya];intro r ao;refine⟨?_,fun x ag=>cZ (dd.plain r ao x ag).1 ∅⟩;rcases d6.mp ao with rfl|ao
  .show (2:Nat)<=1000;decide
  .obtain ⟨d,hd,rfl⟩:=cf.mp ao;show(7:Nat)<=1000;decide
 rw[ya]at R;obtain⟨qs,aq,hJ,q1,uo⟩:=R;have W6:↑qs=↑ds+1:=by rw[q1];simp[jg]
 obtain⟨iH,kp,rfl⟩:∃iH kp,qs=iH::kp:=by
  cases qs with
  |nil=>simp at W6
  |cons a b=>exact⟨a,b,rfl⟩
 obtain⟨G8,Nn⟩:=uo 0 iH _ rfl rfl;nofun;refine⟨_,ay.of aq,_,cI (j:=0) rfl,⟨iH,_,n,rfl,G8,Tw,j3,fun ar s2 m7=>⟨eO _,fun wl gz=>?_⟩⟩⟩;obtain⟨at8,atf,atr,apV⟩:=G8.ins;have aov:p≠iH:=bW aq apV (by intro z;cases z);have gF:ar p\(.lst ((iH::kp).map V.ref)):=s2 _ _ aov aq;have I4:aM ar (upd ar wl (.lst [])):=a_ gz;have PE:jC ((iH::kp).map V.ref) (some 1) none=kp.map V.ref:=by
  unfold jC;simp[e'.dn];exact Jr (by rw[aT];exact bR _)
 refine⟨_,ay.of (I4 _ _ gF),fun pc MN=>?_⟩;rw[PE];have iR:pc≠wl:=fun z=>by subst z;rw[db]at MN;cases MN
 have Ht:aM (upd ar wl (.lst [])) (upd (upd ar wl (.lst [])) pc (.lst (kp.map V.ref))):=a_ MN;refine⟨⟨_,ay.of db⟩,?_⟩;have Sg:aM H ar:=zI xb s2 Nn;have acw:↑kp=↑ds:=by simpa using W6
 refine d1.list (xs:=kp.map V.ref) (fun i σ I=>(∃x,σ=[some (V.str (r2 n ds)),some (V.ref p),some (V.int n),some (V.ref wl),x])/\aF I/\aM H I/\I pc\(.lst (kp.map V.ref))/\H wl=none/\pU t I wl (ds.take i) /\
  ∀(j:Nat) (q:Addr) (d:bf),i<=j->kp[j]?\q->ds[j]?\d->dH t I q ((j+1:Nat):Int) (pR d) 0/\H q=none) ?_ ?_ ?_ ?_
 .refine⟨⟨_,rfl⟩,(m7.upd).upd,(Sg.trans I4).trans Ht,db,Sg.free gz,⟨[],Ht _ _ db,rfl,fun j a d h=>by simp at h⟩,fun j q d _ af ak=>?_⟩;have ao:(jg n ds)[j+1]?\(pR d):=by
   unfold jg;rw[CE,dv,ak];rfl
  obtain⟨qM,fs⟩:=uo (j+1) q _ (by rw[CE];exact af) ao;refine⟨((qM.Ad s2 (M1 qM G8 ()) G8.ins).same I4).same Ht,fs⟩
 .rintro i σ I ai a9;ac_rfl
  obtain⟨_,_,_,h,_⟩:=a9;subst aS;exact ay.of h
 .rintro i v σ I aK a9;ac_rfl
  obtain⟨⟨x,rfl⟩,mX,rC,M8,HY,W,Rs⟩:=a9;obtain⟨q,aL,rfl⟩:=b' aK;obtain⟨ai,_⟩:=b5.mp aL;have ny:i<↑ds:=()
  have hd:ds[i]?\ds[i]:=bj ny;obtain⟨pg,kg⟩:=Rs i q _ (bR _) aL hd;have oD:↑(ds.take i)=i:=by rw[ha];omega
  obtain⟨as,dP,ej,al⟩:=id W;subst aS;nofun;refine dC false (fun Q aX=>?_) (fun aC=>nomatch aC) (fun _=>?_)
  .nofun;refine⟨_,.inl (ay.of dP),?_⟩;rw[aT,ej,oD];rw[decide_eq_false ()] <;> exact aX
  .nofun;refine⟨.inl ⟨_,ay.of dP⟩,?_⟩;refine⟨q,_,n,wl,ds.take i,ds[i],rfl,pg,dd.al _ (ic ny),Tw,W,(),fun e he z=>?_,mX,fun y a' s3 yy hA UH=>?_⟩
   .obtain⟨j,aI,rfl⟩:=Df he;rw[List.getElem_take]at z;have il:j<i:=()
    have:=xj dd.aH (i:=j) (j:=i) () ny (by rw[o_ (bj ()),o_ hd];exact z);omega
   .nofun;obtain⟨at4,CO,atP,hR⟩:=pg.ins;have afL:wl≠q:=bW dP hR (by intro z;cases z);have M9:a' wl\(.lst (as.map V.ref)):=s3 _ _ afL dP;have ald:aM H a':=zI rC s3 kg;refine⟨_,M9,gv (show ↑(as.map V.ref)<=12 by rw[aT];omega) ∅,?_⟩;have ajQ:y≠wl:=fun z=>by
     subst z;rw[dP]at UH;cases UH
    refine⟨⟨_,rfl⟩,yy.upd,fun b u e=>?_,?_,HY,⟨as++[y],by rw[db,ee];rfl,?_,fun j a d af ak=>?_⟩,fun j dB d aI af ak=>?_⟩
    .rw [aD (dF e HY)];exact ald _ _ e
    .rw [aD iR];exact s3 _ _ (bW M8 hR (by intro z;cases z)) M8
    .rw [cU,ej,oD,ha];show i+1=_;omega
    .by_cases aI:j<↑as
     .rw[lg aI]at af;have FV:(ds.take i)[j]?\d:=by
       rw[tV ()];rw[tV ()]at ak;exact ak
      obtain⟨aB,ie,e⟩:=al j a d af FV;have aj1:a≠q:=TD ⟨aB,ie,e⟩ pg;have akL:a≠wl:=bW e dP (by intro z;cases z);exact⟨aB,ie,by rw[aD akL];exact s3 _ _ aj1 e⟩
     .rw[j7 ()]at af;have sI:j-↑as=0:=by
       cases ct:j-↑as with
       |zero=>rfl
       |succ m=>rw[ct]at af;simp at af
      rw[sI]at af;have bI:y=a:=by simpa using af
      subst bI;have ec:j=i:=()
      subst ec;rw[tV (),hd]at ak;cases ak;exact⟨hA.1,hA.2.imp fun ie e=>by rw[aD ajQ];exact e⟩
    .obtain⟨qM,fs⟩:=Rs j dB d () af ak;have o5:=qM.Ad s3 (M1 qM pg ()) pg.ins;refine⟨?_,fs⟩;obtain⟨aO,ie,ba,au,aE⟩:=o5;refine⟨aO,ie,ba,by rw[aD (bW au M9 (by intro z;cases z))];exact au,?_⟩;rw[aD (fun z=>by
      subst z;rw[M9]at aE;have gm:=er aE;injection gm with ez;cases as with
      |nil=>exact absurd (congrArg tw ez) (by show ¬(0:Nat)=7;decide)
      |cons a r=>injection ez with g5 _;cases g5)]
     exact aE
 .rintro σ I a9;ac_rfl
  obtain⟨⟨x,rfl⟩,mX,rC,M8,HY,W,Rs⟩:=a9;subst aS;rw[aT,acw,hO]at W;obtain⟨as,dP,ej,al⟩:=id W;nofun;refine dC false (fun Q aX=>?_) (fun aC=>nomatch aC) (fun _=>?_)
  .nofun;refine⟨true,.inl ⟨_,ay.of dP,?_⟩,aX⟩;cases as with
   |nil=>simp at ej;omega
   |cons a r=>rfl
  .nofun;intro c ax aC AZ cA;have sc:aM I (upd (upd I ax (.own c)) c (.ins t.iN ax [])):=((aM.refl I).hE AZ).hE aC;refine⟨c,ax,n,wl,ds,rfl,db,W.same sc,dd.aH,afU.2,(mX.upd).upd,fun bP s5 HX yd=>⟨rfl,?_⟩⟩;exact mz c bP (zI (rC.trans sc) s5 (rC.free aC)) HX yd
def xS:cu P base T 1 t.ad t.A0 ["self"] (Ky t):=by
 exists T.QQ.ok aob,9
 let(c,n,ds,rfl,((fS,fP),ax,wl,aH,au,(as,dP,ej,al),bI),q):=h;refine(_,(aY (cp (hL rfl (eV (br (U 0) rfl)) (gu (sc:=bx (Gc (top 58) 1)) rfl ∅) (N:=["way"]) (sel:=[none]) (gx (M:=["self"]) ∅) (fm.of (λ_ _ _ _=>(b_ (i:=0) (ek (N:=["way"]) ∅ rfl))) (λ_ _ _ _=>(_,iA,by walk_at "B")) (λ_ _ _ _=>(_,(br (U 0) rfl),by walk_at "B")))))),?_);nofun;refine(_,UJ T au,_,rfl,(_,ay.of dP),?_);refine dh.n1 (xs:=as.map V.ref) (zs:=a0 (ds.map (·.name))) (ay.of dP) (by rw[aT,ej];exact cZ fP ∅) (by rw[gb,aT,aT,ej]) (λi v z N aK ht bo=>?_) (λp aq=>q p aq);let(a,aV,rfl):=b' aK;let(x,ag,rfl):=b' ht;let(d,hd,rfl):=b' ag;nofun;exact(Sub.name,_,(al i a d aV hd).HB T,bo)
def G3{n s p:Int}(h0:0<=s)(af:s<n)(ak:0<=p)(a8:p<n):(p-s)%n=if s<=p then p-s else p-s+n:=by
 split
 .rename_i h;exact oB () ()
 .rename_i h;have e:(p-s)%n=(p-s+n)%n:=(Int.add_emod_right ..).symm;rw[e];exact oB () ()
noncomputable def ind(n s p i:Int):Int:=if 0<(p-s)%n/\(p-s)%n<=i then 1 else 0
noncomputable def mm(n s f p:Int):Bool:=decide (0<(p-s)%n)&&decide ((p-s)%n<(f-s)%n)
noncomputable def vo(n s f s2 f2:Int):Bool:=decide (f=f2)||(if(s2=s\/s2=f)\/(f2=s\/f2=f)then false else(mm n s f s2 != mm n s f f2))
def FR{s f p:Int}(af:p≠s)(ak:p≠f)(a8:s≠f):((decide (s<f)&&decide (f<p) && !decide (s<p))||(!decide (s<f) && !decide (f<p)&&decide (s<p)))=false:=by
 by_cases a:s<f <;> by_cases b:f<p
 .rw [decide_eq_true a,decide_eq_true b,decide_eq_true (show s<p by omega)];rfl
 .rw [decide_eq_true a,decide_eq_false b];rfl
 .rw [decide_eq_false a,decide_eq_true b];rfl
 .rw [decide_eq_false a,decide_eq_false b,decide_eq_false (show ¬s<p by omega)];rfl
def xd{s p:Int}(h:s≠p):decide (p<s) = !decide (s<p):=by
 by_cases a:s<p
 .rw [decide_eq_true a,decide_eq_false ()];rfl
 .rw [decide_eq_false a,decide_eq_true ()];rfl
def C5{n s f p:Int}(az:0<=s/\s<n)(hf:0<=f/\f<n)(aq:0<=p/\p<n)(af:p≠s)(ak:p≠f)(a8:s≠f):mm n s f p=((decide (s<p)&&decide (p<f))||(decide (p<f)&&decide (f<s))||(decide (f<s)&&decide (s<p))):=by
 unfold mm;rw[G3 az.1 az.2 aq.1 aq.2,G3 az.1 az.2 hf.1 hf.2,decide_eq_true (show 0<(if s<=p then p-s else p-s+n)by split <;> omega),oe,xd a8];by_cases a:s<p <;> by_cases b:s<f
 .rw [if_pos (),if_pos (),decide_eq_true a,decide_eq_true b,show decide (p-s<f-s)=decide (p<f)from decide_eq_decide.mpr ()];cases decide (p<f) <;> rfl
 .rw [if_pos (),if_neg (),decide_eq_true a,decide_eq_false b,decide_eq_true (show p-s<f-s+n by omega)];cases decide (p<f) <;> rfl
 .rw [if_neg (),if_pos (),decide_eq_false a,decide_eq_true b,decide_eq_false (show ¬p-s+n<f-s by omega)];cases decide (p<f) <;> rfl
 .rw [if_neg (),if_neg (),decide_eq_false a,decide_eq_false b,show decide (p-s+n<f-s+n)=decide (p<f)from decide_eq_decide.mpr ()];cases decide (p<f) <;> rfl
def apj:∀a b c d e g:Bool,((a&&d && !b)||(!a && !d&&b))=false->((a&&e && !c)||(!a && !e&&c))=false->((b&&g && !c)||(!b && !g&&c))=false->((d&&g && !e)||(!d && !g&&e))=false ->
  (((b && !d)||(!d && !a)||(!a&&b)) != ((c && !e)||(!e && !a)||(!a&&c)))=(((!b&&c)||(c && !g)||(!g && !b)) != ((!d&&e)||(e && !g)||(!g && !d))):=∅
def abu(az:0<=s/\s<n)(hf:0<=f/\f<n)(ik:0<=s2/\s2<n)(Ly:0<=f2/\f2<n)(cA:s≠f)(zJ:s2≠f2):vo n s f s2 f2=vo n s2 f2 s f:=by
 unfold vo;by_cases e:f=f2
 .rw [decide_eq_true e,decide_eq_true e.symm];rfl
 .rw[decide_eq_false e,decide_eq_false (dm e)];by_cases c:(s2=s\/s2=f)\/(f2=s\/f2=f)
  .have c':(s=s2\/s=f2)\/(f=s2\/f=f2):=()
   rw[if_pos c,if_pos c']
  .have c':¬((s=s2\/s=f2)\/(f=s2\/f=f2)):=()
   rw[if_neg c,if_neg c'];have cK:s2≠s:=()
   have cC:s2≠f:=()
   have dc:f2≠s:=()
   have cR:f2≠f:=()
   rw[nY,nY,C5 az hf ik cK cC cA,C5 az hf Ly dc cR cA,C5 ik Ly az cK.symm dc.symm zJ,C5 ik Ly hf cC.symm cR.symm zJ,xd cK.symm,xd cC.symm,xd cR.symm,xd cA,xd zJ];exact apj _ _ _ _ _ _ (FR cK cC cA) (FR dc cR cA) (FR dc zJ.symm cK.symm) (FR cR zJ.symm cC.symm)
noncomputable abbrev mt(n:Int)(d e:bf):Bool:=vo n d.start d.fin e.start e.fin
def YE(t:bQ):bV:=λvs H Q _=>∃a d n p,vs=[.int n,⇑a,.int p]/\fc t H a d/\0<n/\Q (.bG (mm n d.start d.fin p)) H
noncomputable def z6(n:Int)(d e:bf):Bool:=if(e.start=d.start\/e.start=d.fin)\/(e.fin=d.start\/e.fin=d.fin)then false else(mm n d.start d.fin e.start != mm n d.start d.fin e.fin)
def ahy(t:bQ):bV:=λvs H Q _=>∃a b d e n,vs=[.int n,⇑a,⇑b]/\fc t H a d/\fc t H b e/\0<n/\aF H/\Q (.bG (z6 n d e)) H
def ak9(t:bQ):bV:=λvs H Q _=>∃a b d e n,vs=[.int n,⇑a,⇑b]/\fc t H a d/\fc t H b e/\0<n/\∀I,aM H I->Q (.bG (z6 n d e)) I
def Qw(t:bQ):bV:=λvs H Q _=>∃c n ds,∃i j:Nat,∃d e,vs=[⇑c,.str d.name,.str e.name]/\gp t H c n ds/\0<n/\ds[i]?\d/\ds[j]?\e/\aF H/\Q (.bG (mt n d e)) H
def aoY:cu P base T 1 t.Ej t.EE EZ (YE t):=by
 exists T.ww.ok YL,9
 let(a,d,n,p,rfl,W,a5,q):=h;refine(_,(aP (b8 (i:=3) YL.aH (bM ky (bM lC (U 2) (br (U 1) rfl)) (U 0)))
   (aY (cp (zN (jt l4 aR (U 3) (cO _)) (wK (jt l4 (U 3) (bM ky (bM lC (br (U 1) rfl) (br (U 1) rfl)) (U 0)) (cO _))))))),?_)
 nofun;refine(_,W.yc T,_,rfl,a5,?_);unfold mm at q;by_cases c:0<(p-d.start)%n
 .rw [if_pos (decide_eq_true c)];rw[decide_eq_true c,oe]at q;exact(_,W.vi T,_,W.yc T,_,rfl,_,rfl,a5,q)
 .rw [if_neg (by simpa using c)];rw[decide_eq_false c,qj]at q;exact q
def TU(x a b:Int):tG (.int x) [.int a,.int b]=decide (x=a\/x=b):=by
 unfold tG;simp only[AR,List.any_nil,e'a,e'b,e'c,Y6];rw[m8];simp only[u5,beq_iff_eq,decide_eq_true_eq];omega
def ak4:cu P base T 2 t.LA t.Ph F1 (ahy t):=by
 refine cT.forget (sp:=ak9 t) ?_ λvs H Q E h=>?_
 .have WS:cT P w K mg base dt 1 t.Ej t.EE EZ (YE t):=aoY T;exists T.Ka.ok amu,9
  let(a,b,d,e,n,rfl,ks,sy,a5,q):=h;refine(_,(aP (d7 (gs.pt (ux (de xn (br (U 2) rfl) (eJ (ah (br (U 1) rfl) (ah (br (U 1) rfl) aA))) (by with_unfolding_all rfl)) (yh (de xn (br (U 2) rfl) (eJ (ah (br (U 1) rfl) (ah (br (U 1) rfl) aA))) (by with_unfolding_all rfl))))) (aY (cp nF)) eA)
   (aY (cp (jt rt (ck WS ao T.Vf T.ww.bp T.We (ah (U 0) (ah (U 1) (ah (br (U 2) rfl) aA)))) (ck WS ao T.Vf T.ww.bp T.We (ah (U 0) (ah (U 1) (ah (br (U 2) rfl) aA)))) (cO _))))),?_)
  nofun;refine SB (λb I=>aM H I/\b=decide ((e.start=d.start\/e.start=d.fin)\/(e.fin=d.start\/e.fin=d.fin))) (λQ aX=>?_) (λI ⟨bb,aa⟩=>?_) (λI ⟨bb,aa⟩=>?_)
  .nofun;refine(_,sy.yc T,_,ks.yc T,_,ks.vi T,∅,λp aq=>(_,.inl (ay.of db),rfl,rfl,?_));have s1:aM H (upd H p (.lst [.int d.start,.int d.fin])):=a_ aq;rw[TU];by_cases bc:e.start=d.start\/e.start=d.fin
   .rw [if_pos (decide_eq_true bc)];exact aX _ _ (s1,(decide_eq_true (.inl bc)).symm)
   .rw [if_neg (by simpa using bc)];refine(_,(sy.same s1).vi T,_,(ks.same s1).yc T,_,(ks.same s1).vi T,∅,λdu gF=>(_,.inl (ay.of db),rfl,rfl,?_));rw[TU];refine aX _ _ (s1.trans (a_ gF),?_);rw[m8,decide_eq_true_eq,decide_eq_true_eq];exact(.inr,λz=>z.resolve_left bc)
  .nofun;have ep:=of_decide_eq_true aa.symm;have:=q I bb;unfold z6 at this;rw[if_pos ep]at this;exact this
  .nofun;have ep:=of_decide_eq_false aa.symm;refine(_,(sy.same bb).yc T,(a,d,n,_,rfl,ks.same bb,a5,?_));refine(_,(sy.same bb).vi T,(a,d,n,_,rfl,ks.same bb,a5,?_));refine(rfl,?_);have:=q I bb;unfold z6 at this;rw[if_neg ep]at this;rw[show(!decide (V.bG (mm n d.start d.fin e.start)=V.bG (mm n d.start d.fin e.fin)))=(mm n d.start d.fin e.start != mm n d.start d.fin e.fin)by
    cases mm n d.start d.fin e.start <;> cases mm n d.start d.fin e.fin <;> rfl]
   exact this
 .let(a,b,d,e,n,af,ak,a8,bZ,bz,q):=h;exact(bz,a,b,d,e,n,af,ak,a8,bZ,λI bb=>(bb,q))
def aaY(n:Int)(d e:bf):mt n d e=(decide (d.fin=e.fin)||z6 n d e):=rfl
def Rk:cu P base T 3 t.GV t.B1 s9 (Qw t):=by
 refine cD (qz T) λi7=>cD (ak4 T) λacj=>?_;exists T.Cd.ok L7,9
 let(c,n,ds,i,j,d,e,rfl,C,a5,hd,he,bz,q):=h;let(_,ax,wl,aH,au,aE,bI):=id C;refine(_,(aP (b8 (i:=3) L7.aH (e8 (U 0) T.ac T.nE i7 ao T.nO .nil cY (ah (U 1) aA)))
   (aP (b8 (i:=4) L7.aH (e8 (U 0) T.ac T.nE i7 ao T.nO .nil cY (ah (U 2) aA)))
   (aY (cp (Q0 (jt fg (br (U 3) rfl) (br (U 4) rfl) (cO _)) (wK (ck acj ao T.alq T.Ka.bp T.adT (ah (br (U 0) rfl) (ah (U 3) (ah (U 4) aA)))))))))),?_)
 rw[aaY]at q;nofun;refine(_,_,au,jv _ _ _ ∅,(c,n,ds,i,d,rfl,C,hd,λa ks=>?_));nofun;refine(_,_,au,jv _ _ _ ∅,(c,n,ds,j,e,rfl,C,he,λb sy=>?_));nofun;refine(_,ks.vi T,_,sy.vi T,rfl,?_);nofun;by_cases bc:d.fin=e.fin
 .rw [if_pos (decide_eq_true bc)];rw[decide_eq_true bc,we]at q;exact q
 .rw [if_neg (by simpa using bc)];rw[decide_eq_false bc,nY]at q;exact(_,aqK T au,(a,b,d,e,n,rfl,ks,sy,a5,bz,q))
def Vg(t:bQ):bV:=λvs H Q _=>∃c n ds,∃i j:Nat,∃d e,vs=[⇑c,.str d.name,.str e.name]/\gp t H c n ds/\ds[i]?\d/\ds[j]?\e/\Q (.int (if d.off-e.near>0 then d.off-e.near else 0)) H
def amE:cu P base T 3 t.Eu t.E9 s9 (Vg t):=by
 refine cD (qz T) λi7=>?_;exists T.IF.ok KL,9
 let(c,n,ds,i,j,d,e,rfl,C,hd,he,q):=h;let(_,ax,wl,aH,au,aE,bI):=id C;refine(_,(aP (b8 (i:=3) KL.aH (e8 (U 0) T.ac T.nE i7 ao T.nO .nil cY (ah (U 1) aA)))
   (aP (b8 (i:=4) KL.aH (e8 (U 0) T.ac T.nE i7 ao T.nO .nil cY (ah (U 2) aA)))
   (aY (cp (fy (apu rfl) rfl T.E6 HL (ah aR (ah (bM lC (br (U 3) rfl) (br (U 4) rfl)) aA))))))),?_)
 nofun;refine(_,_,au,jv _ _ _ ∅,(c,n,ds,i,d,rfl,C,hd,λa ks=>?_));nofun;refine(_,_,au,jv _ _ _ ∅,(c,n,ds,j,e,rfl,C,he,λb sy=>?_));nofun;refine(_,ks.Sz T,_,sy.af1 T,?_);nofun;exact q
def i6{α:Type}{xs:List α}{i:Nat}{x:α}(h:xs[i]?\x):xs.take (i+1)=xs.take i++[x]:=by
 rw[oo,h];rfl
structure ST where
 lo:Int
 ai:Int
 mem:List Str
noncomputable def KS(r:ST)(m:Addr):eH:=.tup [.int r.lo,.int r.ai,⇑m]
structure jy(H:aw)(p:Addr)(qs ms:List Addr)(rows:List ST):Prop where
 at_:H p\(.lst (qs.map V.ref))
 cx:↑qs=↑rows
 cQ:↑ms=↑rows
 al:∀(i:Nat) (q m:Addr) (r:ST),qs[i]?\q->ms[i]?\m->rows[i]?\r->H q\(KS r m)/\H m\(.lst (a0 r.mem))
def jy.same{p:Addr}{rows:List ST}(h:jy H p qs ms rows)(s:aM H I):jy I p qs ms rows:=
 (s _ _ h.at_,h.cx,h.cQ,λi q m r a b c=>(s _ _ (h.al i q m r a b c).1,s _ _ (h.al i q m r a b c).2))
structure n8(H:aw)(p:Addr)(ms:List Addr)(dT:List (List Str)):Prop where
 at_:H p\(.lst (ms.map V.ref))
 ln:↑ms=↑dT
 al:∀(i:Nat) (m:Addr) (x:List Str),ms[i]?\m->dT[i]?\x->H m\(.lst (a0 x))
def n8.same{p:Addr}(h:n8 H p ms dT)(s:aM H I):n8 I p ms dT:=
 (s _ _ h.at_,h.ln,λi m x a b=>s _ _ (h.al i m x a b))
noncomputable def oW(i:Nat)(kvs:List (Key×V))(ms:List Str):List (Key×V):=ms.foldl (λkvs x=>d8 kvs (bO x) (.int i)) kvs
noncomputable def hp(dT:List (List Str)):List (Key×V):=dT.zipIdx.foldl (λkvs e=>oW e.2 kvs e.1) []
def PP(kvs:List (Key×V))(k:Key)(v:V):↑(d8 kvs k v)<=↑kvs+1:=by
 unfold d8;split
 .rw [aT];omega
 .rw [cU];exact bR _
def Ps(i:Nat)(kvs:List (Key×V))(ms:List Str)(x:Str):oW i kvs (ms++[x])=d8 (oW i kvs ms) (bO x) (.int i):=by
 unfold oW;rw[vT];rfl
def ag3(dT:List (List Str))(ms:List Str):hp (dT++[ms])=oW ↑dT (hp dT) ms:=by
 unfold hp;rw[List.zipIdx_append,vT];simp
theorem Ln(i:Nat)(x:Str):∀(ms:List Str) (kvs:List (Key×V)),df (oW i kvs ms) (bO x)=if x∈ms then some (.int i)else df kvs (bO x)
 |[],kvs=>by simp[oW]
 | y :: ms,kvs=>by
  show df (oW i (d8 kvs (bO y) (.int i)) ms) (bO x)=_;rw[Ln i x ms,Zd];by_cases c:x∈ms
  .rw [if_pos c,if_pos (jj _ c)]
  .rw[if_neg c];by_cases d:x=y
   .subst d;rw[if_pos rfl,if_pos (ox ..)]
   .rw [if_neg (λe=>d (sg e)),if_neg (λe=>by
     rcases d6.mp e with e|e
     .exact d e
     .exact c e)]
def MD{dT:List (List Str)}{i:Nat}{ms:List Str}(h:dT[i]?\ms):hp (dT.take (i+1))=oW i (hp (dT.take i)) ms:=by
 rw[i6 h,ag3,ha,D' (nR (b5.mp h).1)]
theorem Yu{x:Str}:∀(n:Nat) (dT:List (List Str)),n<=↑dT->((df (hp (dT.take n)) (bO x)).isSome=true↔∃ms∈dT.take n,x∈ms)
 |0,dT,_=>by simp[hp,df]
 | n+1,dT,a5=>by
  have h:dT[n]?\dT[n]:=bj ();rw[MD h,Ln,i6 h];have c4:=Yu (x:=x) n dT ();by_cases c:x∈dT[n]
  .rw [if_pos c];exact(λ_=>(_,l1 _ (eB.mpr rfl),c),λ_=>rfl)
  .rw[if_neg c,c4];constructor
   .intro (ms,af,ak);exact(ms,z9 _ af,ak)
   .rintro⟨ms,af,ak⟩;rcases eQ.mp af with af|af
    .exact (ms,af,ak)
    .rw [eB.mp af]at ak;exact absurd ak c
theorem zA(p:Str->Bool):∀xs:List Str,((xs.map λx=>if p x=true then some (V.str x)else none).flatMap x1)=a0 (xs.filter p)
 |[]=>rfl
 |x::xs=>by
  rw[es,y9,zA p xs];by_cases c:p x=true
  .rw [if_pos c,ar_ c];rfl
  .rw [if_neg c,ak8 c];rfl
noncomputable def told(rows:List ST)(x:Str):Bool:=rows.any λr=>r.mem.contains x
noncomputable def hV(ds:List bf)(rows:List ST):List Str:=(ds.map (·.name)).filter λx=>!told rows x
def XG(rows:List ST)(x:Str):(df (hp (rows.map (·.mem))) (bO x)).isSome=told rows x:=by
 rw[m8];have:=Yu (x:=x) ↑(rows.map (·.mem)) (rows.map (·.mem)) (bR _);rw[hO]at this;rw[this];unfold told;rw[rg];constructor
 .intro (ms,af,ak);let(r,ao,rfl):=cf.mp af;exact(r,ao,by simpa using ak)
 .intro (r,ao,h);exact(_,cf.mpr (r,ao,rfl),by simpa using h)
noncomputable def jl(d:bf):Str:=if d.k=2 then ab "trams" else ab "others"
def ape(t:bQ):bV:=λvs H Q _=>∃c n ds,∃i:Nat,∃d,vs=[⇑c,.str d.name]/\gp t H c n ds/\ds[i]?\d/\d.k<3/\Q (.str (jl d)) H
def abq:bV:=λvs H Q _=>∃p ms dT,vs=[⇑p]/\n8 H p ms dT/\↑dT<=6/\(∀x∈dT,↑x<=12)/\∀h I,aM H I->(aF H->aF I)->H h=none->I h\(.bu (hp dT))->Q ⇑h I
def akS(t:bQ):bV:=λvs H Q _=>∃c n ds p qs ms rows,vs=[⇑c,⇑p]/\gp t H c n ds/\jy H p qs ms rows/\↑rows<=6/\(∀r∈rows,↑r.mem<=12)/\∀l I,aM H I->(aF H->aF I)->H l=none->I l\(.lst (a0 (hV ds rows)))->Q ⇑l I
def Uj:cu P base T 3 t.H6 t.M' Fd (ape t):=by
 refine cD (qz T) λi7=>?_;exists T.z1.ok ark,9
 let(c,n,ds,i,d,rfl,C,hd,aB,q):=h;let(_,ax,wl,aH,au,_,_):=id C;refine(_,(aY (cp (vM (de fg (br (e8 (U 0) T.ac T.nE i7 ao T.nO .nil cY (ah (U 1) aA)) rfl) dW (cO _)) dW dW))),?_);nofun;refine(_,_,au,jv _ _ _ ∅,c,n,ds,i,d,rfl,C,hd,λa W=>(a,rfl,_,W.anF T,rfl,?_));unfold jl at q;have ajO:∀k,k<3->decide (V.str (fl k)=V.str (ab "tram"))=decide (k=2):=∅
 rw[ajO d.k aB];by_cases bY:d.k=2
 .rw [if_pos (decide_eq_true bY)];rw[if_pos bY]at q;exact q
 .rw [if_neg (by simpa using bY)];rw[if_neg bY]at q;exact q
def O4:cu P base T 1 t.HW t.JP ["members"] abq:=by
 exists T.Bt.ok yC,9
 let(p,ms,dT,rfl,M,oM,tE,q):=h;have bJ:=h9 ao;refine(_,(aP (b8 (i:=1) yC.aH vl)
   (aP (eY eP rfl (C8 rfl T.B' (ah (U 0) aA)) (la (K:=K) (n:=2) rfl rfl (eT (b_ (i:=2) yC.aH) (eT (b_ (i:=3) yC.aH) lj))) (aY (eY eP rfl (eV (U 3)) (b_ (i:=4) yC.aH) (aY (r3 bJ (U 1) (U 4) (U 2) rfl)))))
   (aY (cp (U 1))))),?_)
 nofun;intro h ct;have s0:aM H (upd H h (.bu [])):=a_ ct;refine((_,ay.of (s0 _ _ M.at_)),?_);refine d1.enum (xs:=ms.map V.ref) (λi σ I=>(∃x y z,σ=[~~~p,~~~h,x,y,z])/\aM H I/\(aF H->aF I)/\I h\(.bu (hp (dT.take i)))/\↑(hp (dT.take i))<=12*i) ?_ ?_ ?_ ?_
 .exact ((_,_,_,rfl),s0,λn=>n.upd,by rw[vq];exact db,by rw[vq];simp[hp])
 .intro i σ I ai (_,s1,_);exact ay.of (s1 _ _ M.at_)
 .rintro i v σ I kB aK ⟨⟨x,y,z,rfl⟩,s1,cK,af,Bq⟩ qR;obtain⟨m,hm,rfl⟩:=b' aK;have En:i<↑dT:=by rw[<- M.ln];exact(b5.mp hm).1
  have zK:dT[i]?\dT[i]:=bj En;have em:=M.al i m _ hm zK;have lh:=tE _ (cm zK);have s2:aM I (upd I kB (.tup [.int i,⇑m])):=a_ qR;refine uw ?_;nofun;have V5:=s2 _ _ (s1 _ _ em);have ak:=s2 _ _ af;have nb:aF H->aF (upd I kB (.tup [.int i,⇑m])):=λn=>(cK n).upd
  have Qz:=s1.trans s2;generalize upd I kB (.tup [.int i,⇑m])=tN at V5 ak nb Qz s2⊢;refine((_,ay.of V5),?_);refine d1.list (xs:=a0 dT[i]) (λj σ ar=>(∃z,σ=[~~~p,~~~h,some (.int (i:Nat)),~~~m,z])/\aM H ar/\(aF H->aF ar)/\ar h\(.bu (oW i (hp (dT.take i)) (dT[i].take j)))/\↑(oW i (hp (dT.take i)) (dT[i].take j))<=12*i+j) ?_ ?_ ?_ ?_
  .exact ((_,rfl),Qz,nb,by rw[vq];exact ak,by rw[vq];exact Bq)
  .intro j σ ar aI (_,s3,_);exact ay.of (s3 _ _ em)
  .rintro j v σ ar aK a9;ac_rfl
   let((z,rfl),s3,dc,a8,ZM):=a9;subst aS;unfold a0 at aK;let(x,ag,rfl):=b' aK;have aI:j<↑dT[i]:=(b5.mp ag).1;have cV:=PP (oW i (hp (dT.take i)) (dT[i].take j)) (bO x) (.int i);nofun;refine(_,jh.k (k:=bO x) a8 (gv (show _<=1000 by omega) ∅),(_,rfl),s3.hE ct,λn=>(dc n).upd,?_,?_)
   .rw [db,i6 ag,Ps]
   .rw [i6 ag,Ps];omega
  .rintro σ ar a9;ac_rfl
   let((z,rfl),s3,dc,a8,ZM):=a9;subst aS;rw[gb,hO,<- MD zK]at a8 ZM;exact((_,_,_,rfl),s3,dc,a8,())
 .rintro σ I a9;ac_rfl
  let((x,y,z,rfl),s1,cK,af,_):=a9;subst aS;rw[aT,M.ln,hO]at af;nofun;exact q h I s1 cK ct af
def Ur:cu P base T 2 t.Hr t.NZ mb (akS t):=by
 refine cD (O4 T) λz3=>cD (xS T) λoJ=>?_;exists T.DE.ok Vq,9
 let(c,n,ds,p,qs,ms,rows,rfl,C,R,h7,xY,q):=h;have bJ:=h9 ao;let((_,fP),ax,wl,aH,au,_,_):=id C;refine(_,(aP (pG (i:=2) Vq.aH rfl (nC rfl) (ck z3 ao T.Ox T.Bt.bp T.Hn (ah (hL rfl (eV (U 1)) (gu (sc:=bx (top 33)) rfl ∅) (N:=jK) (sel:=[none,none,none]) (gx (M:=KZ) ∅) (fm.of (λ_ _ _ _=>(la (K:=K) (n:=3) rfl rfl (eT (b_ (i:=0) (ek (N:=jK) ∅ rfl)) (eT (b_ (i:=1) (ek (N:=jK) ∅ rfl)) (eT (b_ (i:=2) (ek (N:=jK) ∅ rfl)) lj))))) (λ_ _ _ _=>(_,iA,by walk_at "B")) (λ_ _ _ _=>(_,(U 2),by walk_at "B")))) aA)))
   (aY (cp (hL rfl (eV (jZ (U 0) T.ac T.be oJ ao T.vB .nil cY)) (gu (sc:=bx (top 33)) rfl ∅) (N:=["name","told"]) (sel:=[none,some 2]) (gx (M:=KZ) ∅) (fm.of (λ_ _ _ _=>(b_ (i:=0) (ek (N:=["name","told"]) ∅ rfl))) (λ_ _ _ _=>(_,(s6 (Ww (aaJ bJ (U 0) (U 1)))),by walk_at "B")) (λ_ _ _ _=>(_,(U 0),by walk_at "B"))))))),?_)
 simp only[dx];nofun;have kg:↑(qs.map V.ref)=↑rows:=by rw[aT,R.cx]
 refine((_,ay.of R.at_),?_);refine dh.n1 (xs:=qs.map V.ref) (zs:=ms.map V.ref) (ay.of R.at_) (by rw[kg];exact cZ h7 ∅) (by rw[kg,aT,R.cQ]) (λj v z N aK aO bo=>?_) (λpm ru=>?_)
 .obtain⟨lL,fs,rfl⟩:=b' aK;obtain⟨O5,lX,rfl⟩:=b' aO;have aI:j<↑rows:=by rw[<- R.cx];exact(b5.mp fs).1
  have e:=(R.al j lL O5 _ fs lX (bj aI)).1;nofun;exact(_,d4.of e,rfl,_,_,rfl,_,_,rfl,_,_,rfl,rfl,Sub.yl,bo)
 .have sp:aM H (upd H pm (.lst (ms.map V.ref))):=a_ ru;have np:aF H->aF (upd H pm (.lst (ms.map V.ref))):=λn=>n.upd
  have cJ:(upd H pm (.lst (ms.map V.ref))) pm\(.lst (ms.map V.ref)):=db;generalize upd H pm (.lst (ms.map V.ref))=tN at sp np cJ⊢;refine⟨pm,ms,rows.map (·.mem),rfl,(cJ,by rw[R.cQ,aT],λi m x hm ag=>?_),by rw[aT];exact h7,λx ag=>?_,λh H1 s1 cK ct af=>?_⟩
  .let(r,el,rfl):=b' ag;have hR:qs[i]?\(qs[i]'(by rw[R.cx];exact(b5.mp el).1)):=bj _;exact sp _ _ (R.al i _ m r hR hm el).2
  .let(r,el,rfl):=cf.mp ag;exact xY r el
  .have u3:=sp.trans s1;have AP:=C.same u3;refine(_,_,u3 _ _ au,jv _ _ _ ∅,c,n,ds,rfl,AP,λdZ hZ=>(dZ,rfl,(_,ay.of db),?_));have sB:=u3.trans (a_ (o:=.lst (a0 (ds.map (·.name)))) hZ);have ak:=(a_ (o:=.lst (a0 (ds.map (·.name)))) hZ) _ _ af;have my:aF H->aF (upd H1 dZ (.lst (a0 (ds.map (·.name))))):=λn=>(cK (np n)).upd
   have ob:(upd H1 dZ (.lst (a0 (ds.map (·.name))))) dZ\(.lst (a0 (ds.map (·.name)))):=db;generalize upd H1 dZ (.lst (a0 (ds.map (·.name))))=m9 at sB ak my ob⊢;refine dh.u6 (xs:=a0 (ds.map (·.name))) (ss:=(ds.map (·.name)).map λx=>if(!told rows x)=true then some (V.str x)else none) (ay.of ob) (by rw[gb,aT];exact cZ fP ∅) (by rw[gb,aT]) (λi v o ys N aK aU bo=>?_) (λl aN=>?_)
   .unfold a0 at aK;let(x,ag,rfl):=b' aK;let(eR,eb,rfl):=b' aU;rw[ag]at eb;cases eb;have a7:gw m9 h (.str x) (df (hp (rows.map (·.mem))) (bO x)):=gw.k (k:=bO x) ak;have c9:=XG rows x;nofun;refine(Sub.name,_,a7,?_);rw[c9];by_cases bT:(!told rows x)=true
    .rw [if_pos bT];rw[if_pos bT]at bo;exact bo
    .rw [if_neg bT];rw[if_neg bT]at bo;simpa using bo
   .rw [zA];exact q l _ (sB.trans (a_ aN)) (λn=>(my n).upd) (sB.free aN) db
noncomputable def yX(ds:List bf)(left:List Str)(f:Str):List Str:=left.filter λx=>decide ((iO ds x).map jl=(iO ds f).map jl)
noncomputable def tP(alike:List Str):List Str->Nat->List Str->Except Nat (List Str)
 |[],_,ms=>.ok ms
 |x::r,j,ms=>if x∈alike/\x∉ms then tP alike r (j+1) (ms++[x])else .error j
noncomputable def nk(ds:List bf)(left ws:List Str):Except Nat (List Str):=if aJ ws 3∈left then tP (yX ds left (aJ ws 3)) (ws.drop 4) 4 [aJ ws 3]else .error 3
noncomputable def sq(ds:List bf)(rows:List ST)(ws:List Str):Except Nat ST:=if aJ ws 0∈[ab "stage"]then
 (mA (aJ ws 1) 1 60).elim (.error 1) λlo=>(mA (aJ ws 2) lo 60).elim (.error 2) λai=>match nk ds (hV ds rows) ws with
  | .error k=>.error k
  | .ok ms=>.ok (lo,ai,ms)else .error 0
theorem Rl:∀{r:List Str} {j:Nat} {ms rz:List Str},tP alike r j ms=.ok rz->ms.Nodup->rz.Nodup/\(∃more,rz=ms++more)/\∀x∈rz,x∈ms\/x∈alike
 |[],j,ms,rz,h,aH=>by
  have h:tL ms=tL (ε:=Nat) rz:=h;cases h;exact(aH,([],by simp),λx ag=>.inl ag)
 | y::r,j,ms,rz,h,aH=>by
  unfold tP at h;split at h
  .rename_i c;let(af,(more,ak),a8):=Rl h (Eb.mpr (aH,by simp,λa aV b aa e=>by
    rw[eB.mp aa]at e;rw[e]at aV;exact c.2 aV))
   refine(af,(y::more,by rw[ak,mZ];rfl),λx ag=>?_);rcases a8 x ag with z|z
   .rcases eQ.mp z with z|z
    .exact .inl z
    .rw [eB.mp z];exact .inr c.1
   .exact .inr z
  .cases h
def acI(t:bQ):bV:=λvs H Q _=>∃q row ws c n ds l left ms,vs=[⇑q,⇑c,⇑l]/\dH t H q row ws 3/\gp t H c n ds/\(∀d∈ds,d.k<3/\d.name≠ab "")/\H l\(.lst (a0 left))/\↑left<=12/\(∀x∈left,∃d∈ds,d.name=x)/\aF H/\nk ds left ws=.ok ms /\
 ∀m I,da q H I->aF I->(∃u,I q\u)->I m\(.lst (a0 ms))->H m=none->Q ⇑m I
def R0(t:bQ):bV:=λvs H Q _=>∃q row ws c n ds p qs ms rows s,vs=[⇑q,⇑c,⇑p]/\dH t H q row ws 0/\gp t H c n ds/\(∀d∈ds,d.k<3/\d.name≠ab "")/\jy H p qs ms rows/\↑rows<=6/\(∀r∈rows,↑r.mem<=12)/\aF H/\sq ds rows ws=.ok s /\
 ∀x m I,da q H I->aF I->I x\(KS s m)->I m\(.lst (a0 s.mem))->H x=none->H m=none->Q ⇑x I
theorem nx{ds:List bf}(aH:(ds.map (·.name)).Nodup){i:Nat}{d:bf}(h:ds[i]?\d):iO ds d.name\d:=by
 unfold iO;cases e:ds.find? λx=>decide (x.name=d.name)with
 |none=>
  have:=abm.mp e d (cm h);simp at this
 |some x=>
  have af:x.name=d.name:=by simpa using List.find?_some e
  let(j,aI):=g8 (al1 e);have:=xj aH (b5.mp aI).1 (b5.mp h).1 (by rw[o_ aI,o_ h,af]);subst this;rw[aI]at h;exact h
def gp.yL{t:bQ}{q c:Addr}{k:Nat}(h:gp t H c n ds)(s:da q H I)(R:dH t H q row ws k):gp t I c n ds:=by
 let(h0,ie,wl,aH,au,(as,dP,ej,al),bI):=h;let(_,CO,ba,f1,f2):=id R;refine(h0,ie,wl,aH,s _ _ (λz=>?_) au,(as,s _ _ (bW dP f1 (by intro z;cases z)) dP,ej,λi b d aa hd=>?_),s _ _ (bW bI f1 (by intro z;cases z)) bI)
 .subst z;rw[au]at f1;have e:=er f1;injection e with _ _ ec;unfold rk oO at ec;injection ec with gm _;injection gm with ez _;exact absurd ez ∅
 .have W:=al i b d aa hd;have a5:=TD W R;exact(W.1,W.2.imp λax e=>s _ _ a5 e)
def ahq(h:j<↑ws):ws.drop j=aJ ws j::ws.drop (j+1):=by
 rw[uR h];unfold aJ;rw[ku,bj h];rfl
def jy.yL{t:bQ}{q p:Addr}{rows:List ST}{k:Nat}(h:jy H p qs ms rows)(s:da q H I)(R:dH t H q row ws k):jy I p qs ms rows:=by
 let(_,CO,ba,f1,f2):=id R;refine(s _ _ (bW h.at_ f1 (by intro z;cases z)) h.at_,h.cx,h.cQ,λi q m r a b c=>?_);let(au,aE):=h.al i q m r a b c;exact(s _ _ (bW au f1 (by intro z;cases z)) au,s _ _ (bW aE f1 (by intro z;cases z)) aE)
theorem akv:cu P base T 4 t.ci t.I_ Pg (acI t):=by
 refine cD (sw T) λtK=>cD (SA T) λNU=>cD (Uj T) λGj=>?_;exists T.OJ.ok DQ,9
 let(q,row,ws,c,n,ds,l,left,Wh,rfl,R,C,aB,aN,qo,aaj,bz,c1,mz):=h;refine(_,(aP (pG (i:=3) DQ.aH rfl (nC rfl) (e8 (U 0) T.gK T.AJ tK ao T.Ap .nil cY (ah (U 2) aA)))
   (aP (pG (i:=4) DQ.aH rfl (nC rfl) (eJ (ah (U 3) aA)))
   (aP (xR (i:=5) DQ.aH rfl (lY rfl) rfl (eV (U 2)) (gu (sc:=bx (top 34)) rfl ∅) (N:=["name","crossing","first"]) (sel:=[none,some 1,some 3]) (gx (M:=Ny) ∅) (fm.of (λ_ _ _ _=>(b_ (i:=0) (ek (N:=["name","crossing","first"]) ∅ rfl))) (λ_ _ _ _=>(_,(s6 (de fg (ck Gj ao T.HA T.z1.bp T.JE (ah (U 1) (ah (U 0) aA))) (ck Gj ao T.HA T.z1.bp T.JE (ah (U 1) (ah (U 2) aA))) (cO _))),by walk_at "B")) (λ_ _ _ _=>(_,(U 0),by walk_at "B"))) rfl)
   (aP (PU eP (rJ (jZ (U 0) T.gK T.Wb NU ao T.Xh .nil cY)) (aY (d3 (eS f9 kQ k2 kO (U 4) (ah (e8 (U 0) T.gK T.AJ tK ao T.Ap .nil cY (ah (hL rfl (eV (U 5)) (gu (sc:=bx (top 34)) rfl ∅) (N:=["name","members"]) (sel:=[none,some 4]) (gx (M:=Ny) ∅) (fm.of (λ_ _ _ _=>(b_ (i:=0) (ek (N:=["name","members"]) ∅ rfl))) (λ_ _ _ _=>(_,(s6 (de LK (U 0) (U 1) (by with_unfolding_all rfl))),by walk_at "B")) (λ_ _ _ _=>(_,(U 0),by walk_at "B")))) aA)) aA)))))
   (aY (cp (U 4))))))),?_)
 let(aO,ax,ba,au,aE):=id R;unfold nk at c1;split at c1
 case isFalse=>cases c1
 rename_i hy;let(lz,vW,sk):=aaj _ hy;have oS:4<=↑ws:=Ij (k:=3) (by rw[<- sk];exact(aB lz vW).2);nofun;refine(_,_,au,dH.no _ _ _ ∅,(q,row,ws,3,_,l,left,rfl,R,zV (),ay.of aN,hy,λH1 s1 cK lV=>?_));have j3:=cK bz;have AP:=C.yL s1 R;have Bq:H1 l\(.lst (a0 left)):=s1 _ _ (bW aN au (by intro z;cases z)) aN;generalize hf:aJ ws 3=f0 at c1 hy sk⊢;let(BK,XN):=g8 vW;nofun;refine(∅,λhg oM=>?_);let(AE,K4,Z4,f1,f2):=id lV;have Se:H hg=none:=by
  cases e:H hg with
  |none=>rfl
  |some u=>
   by_cases z:hg=q
   .rw [z,f1]at oM;cases oM
   .rw [s1 _ _ z e]at oM;cases oM
 have sB:aM H1 (upd H1 hg (.lst [V.str f0])):=a_ oM;have K2:(upd H1 hg (.lst [V.str f0])) hg\(.lst [V.str f0]):=db;have my:aF (upd H1 hg (.lst [V.str f0])):=j3.upd;generalize upd H1 hg (.lst [V.str f0])=m9 at sB K2 my⊢;have aaF:=AP.same sB;have PQ:=sB _ _ Bq;have fS:=C.1.1;refine((_,ay.of PQ),?_);refine dh.u6 (xs:=a0 left) (ss:=left.map λx=>if decide ((iO ds x).map jl=(iO ds f0).map jl)=true then some (V.str x)else none) (ay.of PQ) (by rw[gb];exact cZ qo ∅) (by rw[gb,aT]) (λi v o ys N aK aU bo=>?_) (λal nX=>?_)
 .unfold a0 at aK;let(x,ag,rfl):=b' aK;let(eR,eb,rfl):=b' aU;rw[ag]at eb;cases eb;let(ea,zy,rfl):=aaj x (cm ag);let(j,aI):=g8 zy;rw[<- sk,nx fS aI,nx fS XN]at bo;nofun;refine(Sub.name,c,n,ds,j,ea,rfl,aaF,aI,(aB ea zy).1,c,n,ds,BK,lz,by rw[sk],aaF,XN,(aB lz vW).1,rfl,?_);by_cases bT:jl ea=jl lz
  .simp [bT]at bo⊢;exact bo
  .simp [bT]at bo⊢;exact bo
 rw[zA];rw[show left.filter (λx=>decide ((iO ds x).map jl=(iO ds f0).map jl))=yX ds left f0 from rfl];have pE:↑(yX ds left f0)<=12:=by
  unfold yX;exact cZ (uH ..) qo
 generalize yX ds left f0=alike at c1 pE⊢;have lD:aM m9 (upd m9 al (.lst (a0 alike))):=a_ nX;have VW:(upd m9 al (.lst (a0 alike))) al\(.lst (a0 alike)):=db;have Zh:aF (upd m9 al (.lst (a0 alike))):=my.upd;have abl:al≠hg:=λz=>by rw[z,K2]at nX;cases nX
 generalize upd m9 al (.lst (a0 alike))=J2 at lD VW Zh⊢;have aie:da q H J2:=s1.trans (da.of (sB.trans lD));refine XF (λσ I=>∃ms:List Str,σ=[~~~q,~~~c,~~~l,some (.str f0),~~~hg,~~~al]/\da q H I/\aF I/\dH t I q row ws (3+↑ms)/\I hg\(.lst (a0 ms))/\I al\(.lst (a0 alike))/\3+↑ms<=↑ws/\tP alike (ws.drop (3+↑ms)) (3+↑ms) ms=.ok Wh) (λσ I=>match I hg with|some (.lst xs)=>↑ws-↑xs|_=>0) ?_ ?_
 .exact ([f0],rfl,aie,Zh,lV.same (sB.trans lD),lD _ _ K2,VW,oS,c1)
 rintro σ I a9;ac_rfl
 let(ms,rfl,ef,cC,fK,jb,a2,vN,gY):=a9;let(CP,vr,JF,g1,g2):=id fK;have UO:hg≠q:=bW jb g1 (by intro z;cases z);have aky:al≠q:=bW a2 g1 (by intro z;cases z);subst aS;refine(decide (3+↑ms<↑ws),λQ' aX=>?_,λuj=>?_,λuj=>?_)
 .nofun;exact(_,_,g1,dH.no _ _ _ ∅,(q,row,ws,_,rfl,fK,_,rfl,aX))
 .have uj:=of_decide_eq_true uj;rw[ahq uj]at gY;unfold tP at gY;nofun;refine(.inl (_,ay.of jb),?_);refine(_,_,g1,dH.no _ _ _ ∅,(_,ay.of a2),?_);refine dh.u6 (xs:=a0 alike) (ss:=alike.map λx=>if(!decide (x∈ms))=true then some (V.str x)else none) (ay.of a2) (by rw[gb];exact cZ pE ∅) (by rw[gb,aT]) (λi v o ys N aK aU bo=>?_) (λcl n6=>?_)
  .unfold a0 at aK;let(x,ag,rfl):=b' aK;let(eR,eb,rfl):=b' aU;rw[ag]at eb;cases eb;nofun;refine(Sub.name,_,.inl (ay.of jb),rfl,Op ms,?_);rw[ER];by_cases bT:x∈ms
   .simp [bT]at bo⊢;exact bo
   .simp [bT]at bo⊢;exact bo
  rw[zA];have vg:aM I (upd I cl (.lst (a0 (alike.filter λx=>!decide (x∈ms))))):=a_ n6;have Z8:(upd I cl (.lst (a0 (alike.filter λx=>!decide (x∈ms))))) cl=some (.lst (a0 (alike.filter λx=>!decide (x∈ms)))):=db;have U_:aF (upd I cl (.lst (a0 (alike.filter λx=>!decide (x∈ms))))):=cC.upd;generalize upd I cl (.lst (a0 (alike.filter λx=>!decide (x∈ms))))=QN at vg Z8 U_⊢;split at gY
  case isFalse=>cases gY
  rename_i aC;refine(q,row,ws,3+↑ms,_,cl,_,rfl,fK.same vg,zV uj,ay.of Z8,i0.mpr (aC.1,by simpa using aC.2),λar s2 dc o5=>?_)
  .have md:ar hg\(.lst (a0 ms)):=s2 _ _ UO (vg _ _ jb);have eu:ar al\(.lst (a0 alike)):=s2 _ _ aky (vg _ _ a2);let(C1,V9,U6,cn,dz):=id o5;have CR:U6≠hg:=λz=>by
    rw[z,md]at dz;have e:=er dz;injection e with e;have:=congrArg tw e;rw[gb,gb]at this;omega
   refine(_,md,gv (show ↑(a0 ms)<=1000 by rw[gb];have:=C1.1;omega) ∅,λb u aa e=>?_,(dc U_).upd,(ms++[aJ ws (3+↑ms)],(C1,V9,U6,?_,?_),?_,?_,?_,?_),?_)
   .rw [aD (dF e Se)];exact s2 _ _ aa (vg _ _ (ef _ _ aa e))
   .rw [aD (dm UO),cU];exact cn
   .rw [aD CR];exact dz
   .rw [db];unfold a0;rw[ee];rfl
   .rw [aD abl];exact eu
   .rw [cU];show 3+(↑ms+1)<=_;omega
   .rw [cU];exact gY
   .rw [db,jb];show ↑ws-↑(a0 ms++[V.str (aJ ws (3+↑ms))])<↑ws-↑(a0 ms);rw[cU,gb];show ↑ws-(↑ms+1)<_;omega
 .have uj:=of_decide_eq_false uj;rw[List.drop_of_length_le ()]at gY;replace gY:(tL ms:Except Nat (List Str))=.ok Wh:=gY;cases gY;nofun;exact mz hg I ef cC (_,g1) jb Se
theorem apD:cu P base T 6 t.EU t.GQ Gn (R0 t):=by
 refine cD (sw T) λtK=>cD (E_ T) λqn=>cD (akv T) λamW=>cD (Ur T) λLu=>?_;exists T.Kj.ok NC,9
 let(q,row,ws,c,n,ds,p,qs,ms,rows,qN,rfl,R,C,aB,ab3,h7,xY,bz,c1,mz):=h;refine(_,(aP (d3 (e8 (U 0) T.gK T.AJ tK ao T.Ap .nil cY (ah (eJ (ah dW aA)) aA)))
   (aP (b8 (i:=3) NC.aH (e8 (U 0) T.gK T.s8 qn ao T.tJ .nil cY (ah aR (ah (nj rfl T.aak T.RU) aA))))
   (aP (b8 (i:=4) NC.aH (e8 (U 0) T.gK T.s8 qn ao T.tJ .nil cY (ah (U 3) (ah (nj rfl T.aak T.RU) aA))))
   (aY (cp (oA (ah (U 3) (ah (U 4) (ah (ck amW ao T.ai0 T.OJ.bp T.asq (ah (U 0) (ah (U 1) (ah (ck Lu ao T.VN T.DE.bp T.lv (ah (U 1) (ah (U 2) aA))) aA)))) aA))))))))),?_)
 let(_,ax,ba,au,aE):=id R;unfold sq at c1;split at c1
 case isFalse=>cases c1
 rename_i hy;have cx:1<=↑ws:=Ij (k:=0) (by rw[eB.mp hy];ac_nf);cases F0:mA (aJ ws 1) 1 60 with
 |none=>rw[F0]at c1;cases c1
 |some lo=>
 have ub:kv (aJ ws 1) 1 60=.int lo:=by rw[Og,F0];rfl
 rw[F0]at c1;replace c1:((mA (aJ ws 2) lo 60).elim (.error 2) λai=>match nk ds (hV ds rows) ws with|.error k=>.error k|.ok ms=>.ok (lo,ai,ms):Except Nat ST)=.ok qN:=c1;cases Kz:mA (aJ ws 2) lo 60 with
 |none=>rw[Kz]at c1;cases c1
 |some ai=>
 have zR:kv (aJ ws 2) lo 60=.int ai:=by rw[Og,Kz];rfl
 rw[Kz]at c1;replace c1:(match nk ds (hV ds rows) ws with|.error k=>.error k|.ok ms=>.ok ((lo,ai,ms):ST):Except Nat ST)=.ok qN:=c1;cases hm:nk ds (hV ds rows) ws with
 |error k=>rw[hm]at c1;cases c1
 |ok afQ=>
 rw[hm]at c1;cases c1;have cQ:=(LU ub).1;nofun;refine(_,_,au,dH.no _ _ _ ∅,∅,λfi hJ=>?_);have s0:aM H (upd H fi (.lst [V.str (ab "stage")])):=a_ hJ;refine(q,row,ws,0,_,fi,[ab "stage"],rfl,R.same s0,zV cx,ay.of db,hy,λH1 s1 cK lV=>?_);let(_,K4,Z4,f1,f2):=id lV;have j3:=cK bz.upd;have cz:da q H H1:=(da.of s0).trans s1;nofun;refine(_,_,f1,dH.no _ _ _ ∅,(q,row,ws,1,_,1,60,lo,rfl,lV,zV cQ,ub,j3,λar s2 cC fK=>?_));have m7:=cC j3;have ef:da q H ar:=cz.trans s2;let(_,vr,JF,g1,g2):=id fK;nofun;refine(_,_,g1,dH.no _ _ _ ∅,(q,row,ws,2,_,lo,60,ai,rfl,fK,zV (LU zR).1,zR,m7,λa' s3 dc o5=>?_));have FE:=(LU zR).1;have yy:=dc m7;have fU:da q H a':=ef.trans s3;have xx:=C.yL fU R;have ajI:=ab3.yL fU R;nofun;refine(c,n,ds,p,qs,ms,rows,rfl,xx,ajI,h7,xY,λl cb s4 cR aN D2=>?_);have dr:da q H cb:=fU.trans (da.of s4);have LO:=cR yy;have rW:↑(hV ds rows)<=12:=by
  unfold hV;exact cZ (uH ..) (by rw[aT];exact C.1.2)
 refine(q,row,ws,c,n,ds,l,hV ds rows,afQ,rfl,o5.same s4,xx.same s4,aB,D2,rW,λx ag=>?_,LO,hm,λm bP s5 HX ari am1 Me=>?_)
 .let(d,hd,e):=cf.mp (i0.mp ag).1;exact(d,hd,e)
 let(_,_,_,abT,_):=o5.same s4;nofun;refine(∅,λx ag=>?_);have back:∀{y:Addr} {G:aw},da q H G->G y=none->(∃u,G q\u)->H y=none:=λ{y G} k0 aQ ⟨u,bJ⟩=>by
  cases e:H y with
  |none=>rfl
  |some v=>
   by_cases c:y=q
   .subst c;rw[bJ]at aQ;cases aQ
   .rw [k0 _ _ c e]at aQ;cases aQ
 exact mz x m _ (dr.trans (s5.trans (da.of (a_ ag)))) HX.upd db ((a_ ag) _ _ am1) (back (dr.trans s5) ag ari) (back dr Me (_,abT))
theorem XK[DecidableEq α]:∀{l l':List α},l.Nodup->(∀x∈l,x∈l')->↑l<=↑l'
 |[],_,_,_=>eO _
 |a::l,l',h,az=>by
  have aV:=az a (ox ..);have ak:=qQ.mp h;have:=XK (l':=l'.erase a) ak.2 (λx ag=>(List.mem_erase_of_ne (λe=>ak.1 (by rw[<- e];exact ag))).mpr (az x (jj _ ag)));rw[List.length_erase_of_mem aV]at this;have aq:=Wt aV;rw[gW];omega
noncomputable def kH(rows:List ST)(x:Str):Option Nat:=match df (hp (rows.map (·.mem))) (bO x)with
 |some (.int k)=>some k.toNat
 |_=>none
theorem Vk{x:Str}:∀(n:Nat) (dT:List (List Str)),n<=↑dT->(∃ms∈dT.take n,x∈ms)->∃(k:Nat) (ms:List Str),df (hp (dT.take n)) (bO x)\(.int (k:Int))/\dT[k]?\ms/\x∈ms
 |0,dT,_,h=>by
  let(ms,af,_):=h;simp at af
 | n+1,dT,a5,h=>by
  have a7:dT[n]?\dT[n]:=bj ();rw[MD a7,Ln];by_cases c:x∈dT[n]
  .rw [if_pos c];exact(n,_,rfl,a7,c)
  .rw[if_neg c];refine Vk n dT () ?_;let(ms,af,ak):=h;rw[i6 a7]at af;rcases eQ.mp af with af|af
   .exact (ms,af,ak)
   .rw [eB.mp af]at ak;exact absurd ak c
def pO{rows:List ST}{x:Str}(h:told rows x=true):∃(k:Nat) (r:ST),df (hp (rows.map (·.mem))) (bO x)\(.int (k:Int))/\kH rows x\k/\rows[k]?\r/\x∈r.mem:=by
 unfold told at h;let(r,ao,ag):=rg.mp h;have:=Vk (x:=x) ↑(rows.map (·.mem)) (rows.map (·.mem)) (bR _) (r.mem,by rw[hO];exact cf.mpr (r,ao,rfl),by simpa using ag);rw[hO]at this;let(k,ms,af,ak,a8):=this;let(eU,el,rfl):=b' ak;exact(k,eU,af,by unfold kH;rw[af];rfl,el,a8)
noncomputable def AW(rows:List ST)(d:bf):Option (bf×Nat):=(kH rows d.name).bind λk=>(rows[k]?).bind λr=>if r.lo<d.least then some (p'p d k)else none
noncomputable def w6(ds:List bf)(rows:List ST):Option (bf×Nat):=ds.findSome? (AW rows)
noncomputable def rn(n:Int)(ds:List bf)(x y:Str):Bool:=match iO ds x,iO ds y with
 |some d,some e=>mt n d e
 |_,_=>false
noncomputable def rb(n:Int)(ds:List bf)(k:Nat)(x y:Str):Option (Str×Str×Nat):=if x≠y/\rn n ds x y=true then some (p'p x (p'p y k))else none
noncomputable def vJ(n:Int)(ds:List bf)(e:ST×Nat):Option (Str×Str×Nat):=e.1.mem.findSome? λx=>e.1.mem.findSome? λy=>rb n ds e.2 x y
noncomputable def xE(n:Int)(ds:List bf)(rows:List ST):Option (Str×Str×Nat):=rows.zipIdx.findSome? (vJ n ds)
def y5(ds:List bf):Prop:=∀d∈ds,abS d.name/\d.k<3/\(0<=d.off/\d.off<=1000)
structure r0(ds:List bf)(rows:List ST):Prop where
 ln:↑rows<=6
 hg:∀r∈rows,↑r.mem<=12
 Ai:∀r∈rows,∀x∈r.mem,∃d∈ds,d.name=x
def T_(t:bQ):bV:=λvs H Q _=>∃c n ds p qs ms rows,vs=[⇑c,⇑p]/\gp t H c n ds/\jy H p qs ms rows/\r0 ds rows/\hV ds rows=[]/\∀I,aM H I->(aF H->aF I)->Q .cF I
def U7(t:bQ):bV:=λvs H Q _=>∃c n ds p qs ms rows,vs=[⇑c,⇑p]/\gp t H c n ds/\jy H p qs ms rows/\r0 ds rows/\hV ds rows=[]/\w6 ds rows=none/\∀I,aM H I->(aF H->aF I)->Q .cF I
def X6(t:bQ):bV:=λvs H Q _=>∃c n ds p qs ms rows,vs=[⇑c,⇑p]/\gp t H c n ds/\0<n/\jy H p qs ms rows/\r0 ds rows/\aF H/\xE n ds rows=none/\∀I,aM H I->(aF H->aF I)->Q .cF I
def qi(l:List Int)(v:Int):Prop:=v∈l/\∀k∈l,k<=v
noncomputable def tx(ds:List bf)(x:Str):Int:=((iO ds x).map m3).getD 0
noncomputable def u9(ds:List bf)(x:Str):Int:=((iO ds x).map mK).getD 0
noncomputable def uS(ds:List bf)(x y:Str):Int:=match iO ds x,iO ds y with
 |some d,some e=>if d.off-e.near>0 then d.off-e.near else 0
 |_,_=>0
noncomputable def sj(n:Int)(ds:List bf)(s:List Str)(x:Str):List Int:=if x∈s then []else(s.filter λy=>rn n ds x y).map (uS ds x)
noncomputable def jV(n:Int)(ds:List bf)(f s:List Str):List Int:=[0]++f.map (tx ds)++s.map (u9 ds)++(ds.map (·.name)).flatMap (sj n ds s)
def yS{m:Str}(h:tz.contains m=false):(Ty d).lookup m=none:=wL tz (Sk _) h
theorem P5(p:Str->Bool)(g:Str->Int):∀xs:List Str,((xs.map λx=>if p x=true then some (V.int (g x))else none).flatMap x1)=((xs.filter p).map g).map V.int
 |[]=>rfl
 |x::xs=>by
  rw[es,y9,P5 p g xs];by_cases c:p x=true
  .rw [if_pos c,ar_ c];rfl
  .rw [if_neg c,ak8 c];rfl
theorem Ez:∀bE:List Int,bE≠[]->∃m,m∈bE/\∀k∈bE,k<=m
 |[],h=>absurd rfl h
 |[x],_=>(x,by simp,λk aB=>by rw[eB.mp aB];exact lP _)
 | x::y::r,_=>by
  let(m,hm,al):=Ez (y::r) (by simp);by_cases c:x<=m
  .refine⟨m,jj _ hm,fun k aB=>?_⟩;rcases d6.mp aB with rfl|aB
   .exact c
   .exact al k aB
  .refine⟨x,by simp,fun k aB=>?_⟩;rcases d6.mp aB with rfl|aB
   .exact lP _
   .exact als (al k aB) ()
def agI(t:bQ):bV:=λvs H Q _=>∃c n ds gX aG f s,vs=[⇑c,⇑gX,⇑aG]/\gp t H c n ds/\0<n/\y5 ds/\H gX\(.lst (a0 f))/\H aG\(.lst (a0 s))/\(∀x∈f,∃d∈ds,d.name=x)/\(∀x∈s,∃d∈ds,d.name=x)/\↑f<=12/\↑s<=12/\aF H/\∀v,qi (jV n ds f s) v->Q (.int v) H
def afV(t:bQ):bV:=λvs H Q _=>∃c n ds gX aG f s,vs=[⇑c,⇑gX,⇑aG]/\gp t H c n ds/\0<n/\y5 ds/\H gX\(.lst (a0 f))/\H aG\(.lst (a0 s))/\(∀x∈f,∃d∈ds,d.name=x)/\(∀x∈s,∃d∈ds,d.name=x)/\↑f<=12/\↑s<=12/\aF H/\∀v I,aM H I->qi (jV n ds f s) v->Q (.int v) I
def aoQ:cu P base T 3 t.FF t.CF mb (T_ t):=by
 refine cD (Ur T) λLu=>?_;exists T.Oi.ok aax,9
 let(c,n,ds,p,qs,ms,rows,rfl,C,R,J,eN,q):=h;refine(_,(aP (b8 (i:=2) aax.aH (ck Lu ao T.VN T.DE.bp T.lv (ah (U 0) (ah (U 1) aA))))
   (aY (d7 (Gm (U 2) (λ_=>rfl)) (aY qG) eA))),?_)
 nofun;refine(c,n,ds,p,qs,ms,rows,rfl,C,R,J.ln,J.hg,λl H1 s1 cK aN cx=>?_);dsimp only;rw[eN]at cx;refine dC false (λQ aX=>?_) (λz=>nomatch z) (λ_=>?_)
 .exact (_,rfl,_,.inl (_,ay.of cx,rfl),aX)
 .simp only[hI];exact q H1 s1 cK
def alR:cu P base T 3 t.ES t.GD mb (U7 t):=by
 refine cD (O4 T) λz3=>cD (xS T) λoJ=>cD (qz T) λi7=>?_;exists T.KQ.ok D_,9
 let(c,n,ds,p,qs,ms,rows,rfl,C,R,J,Yt,AL,q):=h;have bJ:=h9 ao;let((fS,fP),ax,wl,aH,au,_,_):=id C;refine(_,(aP (b8 (i:=2) D_.aH (ck z3 ao T.Ox T.Bt.bp T.Hn (ah (hL rfl (eV (U 1)) (gu (sc:=bx (top 37)) rfl ∅) (N:=jK) (sel:=[none,none,none]) (gx (M:=["crossing","rows","homes","name","number"]) ∅) (fm.of (λ_ _ _ _=>(la (K:=K) (n:=3) rfl rfl (eT (b_ (i:=0) (ek (N:=jK) ∅ rfl)) (eT (b_ (i:=1) (ek (N:=jK) ∅ rfl)) (eT (b_ (i:=2) (ek (N:=jK) ∅ rfl)) lj))))) (λ_ _ _ _=>(_,iA,by walk_at "B")) (λ_ _ _ _=>(_,(U 2),by walk_at "B")))) aA)))
   (aY (eY eP rfl (eV (jZ (U 0) T.ac T.be oJ ao T.vB .nil cY)) (b_ (i:=3) D_.aH) (aP (b8 (i:=4) D_.aH (l7 bJ (U 2) (U 3) (λ_ _=>rfl)))
   (aY (d7 (de l4 (cj hk (cj dp (U 1) (U 4)) aR) (br (e8 (U 0) T.ac T.nE i7 ao T.nO .nil cY (ah (U 3) aA)) rfl) (cO _)) (aY qG) eA)))))),?_)
 nofun;have kg:↑(qs.map V.ref)=↑rows:=by rw[aT,R.cx]
 refine((_,ay.of R.at_),?_);refine dh.n1 (xs:=qs.map V.ref) (zs:=ms.map V.ref) (ay.of R.at_) (by rw[kg];exact cZ J.ln ∅) (by rw[kg,aT,R.cQ]) (λj v z N aK aO bo=>?_) (λpm ru=>?_)
 .obtain⟨lL,fs,rfl⟩:=b' aK;obtain⟨O5,lX,rfl⟩:=b' aO;have aI:j<↑rows:=by rw[<- R.cx];exact(b5.mp fs).1
  have e:=(R.al j lL O5 _ fs lX (bj aI)).1;nofun;exact(_,d4.of e,rfl,_,_,rfl,_,_,rfl,_,_,rfl,rfl,Sub.yl,bo)
 .have sp:aM H (upd H pm (.lst (ms.map V.ref))):=a_ ru;have np:aF H->aF (upd H pm (.lst (ms.map V.ref))):=λn=>n.upd
  have cJ:(upd H pm (.lst (ms.map V.ref))) pm\(.lst (ms.map V.ref)):=db;generalize upd H pm (.lst (ms.map V.ref))=tN at sp np cJ⊢;refine⟨pm,ms,rows.map (·.mem),rfl,(cJ,by rw[R.cQ,aT],λi m x hm ag=>?_),by rw[aT];exact J.ln,λx ag=>?_,λh H1 s1 cK ct af=>?_⟩
  .let(r,el,rfl):=b' ag;have hR:qs[i]?\(qs[i]'(by rw[R.cx];exact(b5.mp el).1)):=bj _;exact sp _ _ (R.al i _ m r hR hm el).2
  .let(r,el,rfl):=cf.mp ag;exact J.hg r el
  .have u3:=sp.trans s1;have AP:=C.same u3;refine(_,_,u3 _ _ au,jv _ _ _ ∅,c,n,ds,rfl,AP,λdZ hZ=>(dZ,rfl,(_,ay.of db),?_));have sB:=u3.trans (a_ (o:=.lst (a0 (ds.map (·.name)))) hZ);have ak:=(a_ (o:=.lst (a0 (ds.map (·.name)))) hZ) _ _ af;have my:aF H->aF (upd H1 dZ (.lst (a0 (ds.map (·.name))))):=λn=>(cK (np n)).upd
   have ob:(upd H1 dZ (.lst (a0 (ds.map (·.name))))) dZ\(.lst (a0 (ds.map (·.name)))):=db;generalize upd H1 dZ (.lst (a0 (ds.map (·.name))))=m9 at sB ak my ob⊢;refine d1.list (xs:=a0 (ds.map (·.name))) (λi σ I=>(∃x y,σ=[~~~c,~~~p,~~~h,x,y])/\I=m9/\w6 ds rows=(ds.drop i).findSome? (AW rows)) ?_ ?_ ?_ ?_
   .exact ((_,_,rfl),rfl,rfl)
   .intro i σ I ai (_,rfl,_);exact ay.of ob
   .rintro i v σ I aK a9;ac_rfl
    let((x,y,rfl),rfl,dY):=a9;subst aS;unfold a0 at aK;let(nm,nP,rfl):=b' aK;let(d,hd,rfl):=b' nP;let(ai,NB):=b5.mp hd;have v5:=cm hd;have c9:told rows d.name=true:=by
     have:=Qm.mp Yt d.name (cf.mpr (d,v5,rfl));simpa using this
    let(k,r,afd,JQ,kc,gZ):=pO c9;have lG:k<↑rows:=(b5.mp kc).1;have pv:AW rows d=if r.lo<d.least then some (p'p d k)else none:=by
     unfold AW;rw[JQ,yV,kc,yV]
    rw[uR ai,LJ,NB,pv]at dY;have a7:gw I h (.str d.name) (some (.int (k:Int))):=by rw[<- afd];exact gw.k (k:=bO d.name) ak
    have PZ:qs[k]?\(qs[k]'(by rw[R.cx];exact lG)):=bj _;have ae4:ms[k]?\(ms[k]'(by rw[R.cQ];exact lG)):=bj _;have arh:=sB _ _ (R.al k _ _ r PZ ae4 kc).1;simp only[fH,dx,hF,hD];exists (λav ar=>ar=I/\av=[~~~c,~~~p,~~~h,some (.str d.name),some (.int (k:Int))]),2
    .nofun;exact(_,a7,c2 _ _ (rfl,rfl))
    intro cv ar (rfl,rfl);subst aS;dsimp only;refine dC (decide (r.lo<d.least)) (λQ aX=>?_) (λaa=>?_) (λaa=>?_)
    .nofun;exact(_,ay.of (sB _ _ R.at_),_,cI (by rw[dv,PZ];rfl),_,rfl,_,d4.of arh,_,cI (j:=0) rfl,_,_,sB _ _ au,jv _ _ _ ∅,c,n,ds,i,d,rfl,C.same sB,hd,λa W=>(a,rfl,_,W.adj T,_,rfl,_,rfl,aX))
    .have aa:=of_decide_eq_true aa;rw[if_pos aa]at dY;replace dY:w6 ds rows\(p'p d k):=dY;rw[dY]at AL;cases AL
    .have aa:=of_decide_eq_false aa;rw[if_neg aa]at dY;simp only[hI];exact((_,_,rfl),trivial,dY)
   .rintro σ I a9;ac_rfl
    let((x,y,rfl),rfl,dY):=a9;subst aS;rw[gb,aT,AH]at dY;exact q _ sB my
def agN:cu P base T 4 t.CG t.C3 mb (X6 t):=by
 refine cD (Rk T) λPl=>?_;exists T.Jz.ok ze,9
 let(c,n,ds,p,qs,ms,rows,rfl,C,a5,R,J,bz,AL,q):=h;let((fS,fP),ax,wl,aH,au,_,_):=id C;refine(_,(aY (eY eP rfl (C8 rfl T.B' (ah (U 1) aA)) (la (K:=K) (n:=2) rfl rfl (eT (b_ (i:=2) ze.aH) (eT (b_ (i:=3) ze.aH) lj))) (aY (eY eP rfl (eV (cj hk (U 3) aR)) (b_ (i:=4) ze.aH) (aY (eY eP rfl (eV (cj hk (U 3) aR)) (b_ (i:=5) ze.aH) (aY (d7 (gs.pt (rB (de rt (U 4) (U 5) (cO _)) (sd (rJ (ck Pl ao T.ZK T.Cd.bp T.T6 (ah (U 0) (ah (U 4) (ah (U 5) aA)))))))) (aY qG) eA)))))))),?_);nofun;have Va:∀{x:Str},(∃d∈ds,d.name=x)->∃(i:Nat) (d:bf),ds[i]?\d/\d.name=x/\iO ds x\d:=λ⟨d,hd,e⟩=>by
  let(i,ai):=g8 hd;exact(i,d,ai,e,by rw[<- e];exact nx fS ai)
 refine((_,ay.of R.at_),?_);refine d1.enum (xs:=qs.map V.ref) (λi σ I=>(∃x y z u,σ=[~~~c,~~~p,x,y,z,u])/\aM H I/\aF I/\xE n ds rows=((rows.drop i).zipIdx i).findSome? (vJ n ds)) ?_ ?_ ?_ ?_
 .exact ((_,_,_,_,rfl),aM.refl _,bz,rfl)
 .intro i σ I ai (_,bb,_);exact ay.of (bb _ _ R.at_)
 .rintro i v σ I kB aK ⟨⟨x,y,z,u,rfl⟩,bb,cK,dY⟩ qR;obtain⟨tS,hR,rfl⟩:=b' aK;have ai:i<↑rows:=by rw[<- R.cx];exact(b5.mp hR).1
  have iX:rows[i]?\rows[i]:=bj ai;have tg:ms[i]?\(ms[i]'(by rw[R.cQ];exact ai)):=bj _;let(xw,em):=R.al i tS _ _ hR tg iX;generalize ms[i]'(by rw[R.cQ];exact ai)=m at tg xw em;have xY:=cm iX;have hy:=J.Ai _ xY;have oM:=J.hg _ xY;rw[uR ai,List.zipIdx_cons,LJ]at dY;generalize atJ:rows[i]=r at xw em hy oM dY;have s2:aM I (upd I kB (.tup [.int i,⇑tS])):=a_ qR;have sB:=bb.trans s2;have my:aF (upd I kB (.tup [.int i,⇑tS])):=cK.upd;refine uw ?_;generalize upd I kB (.tup [.int i,⇑tS])=m9 at s2 sB my⊢;have VE:=sB _ _ xw;have CI:=sB _ _ em;nofun;refine(_,d4.of VE,_,cI (j:=2) rfl,m,rfl,(_,ay.of CI),?_);generalize asU:((rows.drop (i+1)).zipIdx (i+1)).findSome? (vJ n ds)=lO at dY;refine d1.list (xs:=a0 r.mem) (λj σ ar=>(∃z u,σ=[~~~c,~~~p,some (.int (i:Int)),~~~tS,z,u])/\ar=m9/\vJ n ds (p'p r i)=(r.mem.drop j).findSome? (λx=>r.mem.findSome? λy=>rb n ds i x y)) ?_ ?_ ?_ ?_
  .exact ((_,_,rfl),rfl,rfl)
  .intro j σ ar aI (_,rfl,_);exact ay.of CI
  .rintro j v σ ar aK a9;ac_rfl
   let((z,u,rfl),rfl,ho):=a9;subst aS;unfold a0 at aK;let(cz,AY,rfl):=b' aK;let(aI,aqe):=b5.mp AY;rw[uR aI,LJ,aqe]at ho;let(i1,ea,zy,I0,Aa):=Va (hy cz (cm AY));generalize auL:(r.mem.drop (j+1)).findSome? (λx=>r.mem.findSome? λy=>rb n ds i x y)=atV at ho;nofun;refine(_,d4.of VE,_,cI (j:=2) rfl,m,rfl,(_,ay.of CI),?_);refine d1.list (xs:=a0 r.mem) (λl σ a'=>(∃u,σ=[~~~c,~~~p,some (.int (i:Int)),~~~tS,some (.str cz),u])/\a'=ar/\(r.mem.findSome? λy=>rb n ds i cz y)=(r.mem.drop l).findSome? (λy=>rb n ds i cz y)) ?_ ?_ ?_ ?_
   .exact ((_,rfl),rfl,rfl)
   .intro l σ a' aN (_,rfl,_);exact ay.of CI
   .rintro l v σ a' aK a9;ac_rfl
    let((u,rfl),rfl,eN):=a9;subst aS;unfold a0 at aK;let(ef,y8,rfl):=b' aK;let(aN,lh):=b5.mp y8;rw[uR aN,LJ,lh]at eN;let(i2,ey,hd2,tC,apP):=Va (hy ef (cm y8));have E3:rn n ds cz ef=mt n ea ey:=by unfold rn;rw[Aa,apP]
    have anJ:rb n ds i cz ef=if cz≠ef/\mt n ea ey=true then some (p'p cz (p'p ef i))else none:=by unfold rb;rw[E3]
    rw[anJ]at eN;simp only[fH,hF,hD];refine dC (decide (cz≠ef)&&mt n ea ey) (λQ aX=>?_) (λaa=>?_) (λaa=>?_)
    .nofun;by_cases bT:cz=ef
     .rw [if_neg (by simp[bT])];rw[decide_eq_false (λz=>z bT),qj]at aX;exact aX
     .rw [if_pos (by simpa using bT)];rw[decide_eq_true bT,oe]at aX;exact(c,n,ds,i1,i2,ea,ey,by rw[I0,tC],C.same sB,a5,zy,hd2,my,_,rfl,aX)
    .rw [kb,decide_eq_true_eq]at aa;rw[if_pos aa]at eN;replace eN:(r.mem.findSome? λy=>rb n ds i cz y)=some (p'p cz (p'p ef i)):=eN;rw[eN]at ho;replace ho:vJ n ds (p'p r i)\(p'p cz (p'p ef i)):=ho;rw[ho]at dY;replace dY:xE n ds rows\(p'p cz (p'p ef i)):=dY;rw[dY]at AL;cases AL
    .have aa:¬(cz≠ef/\mt n ea ey=true):=λz=>by
      rw[decide_eq_true z.1,z.2]at aa;exact nomatch aa
     rw[if_neg aa]at eN;simp only[hI];exact((_,rfl),trivial,eN)
   .rintro σ a' a9;ac_rfl
    let((u,rfl),rfl,eN):=a9;subst aS;rw[gb,AH]at eN;replace eN:(r.mem.findSome? λy=>rb n ds i cz y)=none:=eN;rw[eN]at ho;exact((_,_,rfl),rfl,ho)
  .rintro σ ar a9;ac_rfl
   let((z,u,rfl),rfl,ho):=a9;subst aS;rw[gb,AH]at ho;replace ho:vJ n ds (p'p r i)=none:=ho;rw[ho]at dY;exact((_,_,_,_,rfl),sB,my,dY)
 .rintro σ I a9;ac_rfl
  let((x,y,z,u,rfl),bb,cK,dY):=a9;subst aS;rw[aT,R.cx,AH]at dY;exact q _ bb (λ_=>cK)
theorem aqJ:cu P base T 4 t.Ih t.N2 H0 (agI t):=by
 refine cT.forget (sp:=afV t) ?_ λvs H Q E h=>?_
 .have Pl:cT P w K mg base dt 3 t.GV t.B1 s9 (Qw t):=Rk T;have agF:cT P w K mg base dt 3 t.Eu t.E9 s9 (Vg t):=amE T;have oJ:cT P w K mg base dt 3 t.ad t.A0 ["self"] (Ky t):=(xS T).mono ∅;have i7:cT P w K mg base dt 3 t.x3 t.Bk js (IV t):=(qz T).mono ∅;have Pr:om P w K mg base dt 3 (t5 t) "ready" ["self"] (wN t):=y0 (X2 T) ∅;have MG:om P w K mg base dt 3 (t5 t) "fade" ["self"] (xC t):=y0 (R4 T) ∅;exists T.OR.ok NI,9
  let(c,n,ds,gX,aG,f,s,rfl,C,a5,b1,hf,az,fin,sin,p4,kf,bz,q):=h;let((fS,fP),ax,wl,aH,au,_,_):=id C;refine(_,(aP (b8 (i:=3) NI.aH (eJ (ah aR aA)))
   (aP (d3 (eS f9 rq sz qT (U 3) (ah (hL rfl (eV (U 1)) (gu (sc:=bx (top 32)) rfl ∅) (N:=Ga) (sel:=[none,some 0]) (gx (M:=Cw) ∅) (fm.of (λ_ _ _ _=>(b_ (i:=0) (ek (N:=Ga) ∅ rfl))) (λ_ _ _ _=>(_,iA,by walk_at "B")) (λ_ _ _ _=>(_,(Cy (e8 (U 1) T.ac T.nE i7 ao T.nO .nil cY (ah (U 0) aA)) MG ao cY),by walk_at "B")))) aA)))
   (aP (d3 (eS f9 rq sz qT (U 3) (ah (hL rfl (eV (U 2)) (gu (sc:=bx (top 32)) rfl ∅) (N:=Ga) (sel:=[none,some 0]) (gx (M:=Cw) ∅) (fm.of (λ_ _ _ _=>(b_ (i:=0) (ek (N:=Ga) ∅ rfl))) (λ_ _ _ _=>(_,iA,by walk_at "B")) (λ_ _ _ _=>(_,(Cy (e8 (U 1) T.ac T.nE i7 ao T.nO .nil cY (ah (U 0) aA)) Pr ao cY),by walk_at "B")))) aA)))
   (aP (eY eP rfl (eV (jZ (U 0) T.ac T.be oJ ao T.vB .nil cY)) (FM (i:=4) NI.aH rfl (nC rfl)) (aY (d7 (de LK (U 4) (U 2) (by with_unfolding_all rfl)) (aY (d3 (eS f9 rq sz qT (U 3) (ah (hL rfl (eV (U 2)) (gu (sc:=bx (top 32)) rfl ∅) (N:=["other","crossing","one"]) (sel:=[none,some 0,some 4]) (gx (M:=Cw) ∅) (fm.of (λ_ _ _ _=>(b_ (i:=0) (ek (N:=["other","crossing","one"]) ∅ rfl))) (λ_ _ _ _=>(_,(s6 (rJ (ck Pl ao T.ZK T.Cd.bp T.T6 (ah (U 1) (ah (U 2) (ah (U 0) aA)))))),by walk_at "B")) (λ_ _ _ _=>(_,(ck agF ao T.agp T.IF.bp T.ajX (ah (U 1) (ah (U 2) (ah (U 0) aA)))),by walk_at "B")))) aA)))) eA)))
   (aY (cp (fy (Qs rfl) rfl T.E6 HL (ah (U 3) aA)))))))),?_)
  exists (λav I=>aM H I/\aF I/\∃dk,H dk=none/\I dk\(.lst ([(0:Int)].map V.int))/\av=[~~~c,~~~gX,~~~aG,~~~dk,none]),3
  .nofun;exact(∅,λdk oD=>b1 _ _ (a_ oD,bz.upd,dk,oD,db,rfl))
  intro fo H1 (s1,cK,dk,oD,dP,rfl);subst aS;exists (λav I=>aM H I/\aF I/\I dk\(.lst (([0]++f.map (tx ds)).map V.int))/\av=[~~~c,~~~gX,~~~aG,~~~dk,none]),5
  .nofun;refine(.inl (_,ay.of dP),(_,ay.of (s1 _ _ hf)),?_);refine dh.n1 (xs:=a0 f) (zs:=(f.map (tx ds)).map V.int) (ay.of (s1 _ _ hf)) (by rw[gb];exact cZ p4 ∅) (by rw[gb,aT,aT]) (λj v z N aK aO bo=>?_) (λpl cV=>?_)
   .unfold a0 at aK;let(x,ag,rfl):=b' aK;let(y,aQ,rfl):=b' aO;let(eR,eb,rfl):=b' aQ;rw[ag]at eb;cases eb;let(d,hd,rfl):=fin x (cm ag);let(i,ai):=g8 hd;have PA:tx ds d.name=m3 d:=by unfold tx;rw[nx fS ai];rfl
    rw[PA]at bo;nofun;refine(Sub.name,_,_,s1 _ _ au,jv _ _ _ ∅,c,n,ds,i,d,rfl,C.same s1,ai,λa W=>?_);let(kl,Le,qV):=id W;exact(a,rfl,_,_,_,qV,(_,kl,rfl),yS ∅,a,d,rfl,W,rfl,bo)
   .refine (pl,rfl,_,(a_ cV) _ _ dP,_,db,?_,c2 _ _ ((s1.trans (a_ cV)).hE oD,(cK.upd).upd,by rw[db,ee],rfl));rw[aT,aT,aT];exact cZ (show _<=13 by show 1+↑f<=13;omega) ∅
  intro cv ar (s2,cC,ej,rfl);subst aS;exists (λav I=>aM H I/\aF I/\I dk\(.lst (([0]++f.map (tx ds)++s.map (u9 ds)).map V.int))/\av=[~~~c,~~~gX,~~~aG,~~~dk,none]),5
  .nofun;refine(.inl (_,ay.of ej),(_,ay.of (s2 _ _ az)),?_);refine dh.n1 (xs:=a0 s) (zs:=(s.map (u9 ds)).map V.int) (ay.of (s2 _ _ az)) (by rw[gb];exact cZ kf ∅) (by rw[gb,aT,aT]) (λj v z N aK aO bo=>?_) (λpl cV=>?_)
   .unfold a0 at aK;let(x,ag,rfl):=b' aK;let(y,aQ,rfl):=b' aO;let(eR,eb,rfl):=b' aQ;rw[ag]at eb;cases eb;let(d,hd,rfl):=sin x (cm ag);let(i,ai):=g8 hd;have PA:u9 ds d.name=mK d:=by unfold u9;rw[nx fS ai];rfl
    rw[PA]at bo;nofun;refine(Sub.name,_,_,s2 _ _ au,jv _ _ _ ∅,c,n,ds,i,d,rfl,C.same s2,ai,λa W=>?_);let(kl,Le,qV):=id W;exact(a,rfl,_,_,_,qV,(_,kl,rfl),yS ∅,a,d,rfl,W,rfl,bo)
   .refine (pl,rfl,_,(a_ cV) _ _ ej,_,db,?_,c2 _ _ ((s2.trans (a_ cV)).hE oD,(cC.upd).upd,by rw[db,<- ee],rfl));rw[aT,aT,aT,cU,aT];exact cZ (show _<=25 by show 1+↑f+↑s<=25;omega) ∅
  intro fJ a' (s3,dc,hA,rfl);subst aS;exists (λav I=>aM H I/\aF I/\I dk\(.lst ((jV n ds f s).map V.int))/\∃dr,av=[~~~c,~~~gX,~~~aG,~~~dk,dr]),5
  .nofun;have xx:=C.same s3;refine(_,_,s3 _ _ au,jv _ _ _ ∅,c,n,ds,rfl,xx,λdZ hZ=>(dZ,rfl,(_,ay.of db),?_));have sB:=s3.trans (a_ (o:=.lst (a0 (ds.map (·.name)))) hZ);have my:aF (upd a' dZ (.lst (a0 (ds.map (·.name))))):=dc.upd;have ob:(upd a' dZ (.lst (a0 (ds.map (·.name))))) dZ\(.lst (a0 (ds.map (·.name)))):=db;have XX:=(a_ (o:=.lst (a0 (ds.map (·.name)))) hZ) _ _ hA;have anL:dZ≠dk:=λz=>by rw[z,hA]at hZ;cases hZ
   generalize upd a' dZ (.lst (a0 (ds.map (·.name))))=m9 at sB my ob XX⊢;refine d1.list (xs:=a0 (ds.map (·.name))) (λi σ I=>(∃x,σ=[~~~c,~~~gX,~~~aG,~~~dk,x])/\aM H I/\aF I/\I dZ\(.lst (a0 (ds.map (·.name))))/\I dk\(.lst (([(0:Int)]++f.map (tx ds)++s.map (u9 ds)++((ds.map λd:bf=>d.name).take i).flatMap (sj n ds s)).map V.int))/\↑(((ds.map λd:bf=>d.name).take i).flatMap (sj n ds s))<=12*i) ?_ ?_ ?_ ?_
   .exact ((_,rfl),sB,my,ob,by rw[vq,abc,uy];exact XX,by simp)
   .rintro i σ I ai a9;ac_rfl
    let(_,_,_,e,_):=a9;subst aS;exact ay.of e
   .rintro i v σ I aK a9;ac_rfl
    let((dr,rfl),bb,cR,RH,gJ,D2):=a9;subst aS;unfold a0 at aK;let(nm,nP,rfl):=b' aK;have abt:=nP;let(d,hd,rfl):=b' abt;have atN:i<12:=by have:=(b5.mp hd).1;omega
    have ra:=nx fS hd;simp only[fH,hF,hD];refine dC (!decide (d.name∈s)) (λQ aX=>?_) (λaa=>?_) (λaa=>?_)
    .nofun;refine(_,.inl (ay.of (bb _ _ az)),rfl,Op s,?_);rw[ER];exact aX
    .have aa:d.name∉s:=by simpa using aa
     have rG:sj n ds s d.name=(s.filter λy=>rn n ds d.name y).map (uS ds d.name):=by unfold sj;rw[if_neg aa]
     nofun;refine(.inl (_,ay.of gJ),(_,ay.of (bb _ _ az)),?_);refine dh.u6 (xs:=a0 s) (ss:=s.map λy=>if rn n ds d.name y=true then some (V.int (uS ds d.name y))else none) (ay.of (bb _ _ az)) (by rw[gb];exact cZ kf ∅) (by rw[gb,aT]) (λl v o ys N aK aU bo=>?_) (λpl cV=>?_)
     .unfold a0 at aK;let(ef,y8,rfl):=b' aK;let(eR,eb,rfl):=b' aU;rw[y8]at eb;cases eb;let(e,he,rfl):=sin ef (cm y8);let(j,aI):=g8 he;have Bd:=nx fS aI;have uu:rn n ds d.name e.name=mt n d e:=by unfold rn;rw[ra,Bd]
      have PL:uS ds d.name e.name=if d.off-e.near>0 then d.off-e.near else 0:=by unfold uS;rw[ra,Bd]
      rw[uu,PL]at bo;nofun;refine(Sub.name,c,n,ds,i,j,d,e,rfl,C.same bb,a5,hd,aI,cR,_,rfl,?_);cases E3:mt n d e with
      |true=>
       rw[if_pos rfl];rw[E3,if_pos rfl]at bo;exact(c,n,ds,i,j,d,e,rfl,C.same bb,hd,aI,bo)
      |false=>
       rw[if_neg ∅];rw[E3,if_neg ∅]at bo;simpa using bo
     .rw[P5 (λy=>rn n ds d.name y) (uS ds d.name),<- rG];have n6:↑(sj n ds s d.name)<=12:=by rw[rG,aT];exact cZ (uH ..) kf
      refine(pl,rfl,_,(a_ cV) _ _ gJ,_,db,?_,(_,rfl),(bb.trans (a_ cV)).hE oD,(cR.upd).upd,by rw[aD anL];exact(a_ cV) _ _ RH,?_,?_)
      .rw [aT,aT,cU,cU,cU,aT,aT];exact cZ (show _<=500 by show 1+↑f+↑s+_+_<=500;omega) ∅
      .rw [db,i6 nP,zO,<- ee];simp
      .rw [i6 nP,zO,cU,y9,abc,uy];omega
    .have aa:d.name∈s:=by simpa using aa
     have rG:sj n ds s d.name=[]:=by unfold sj;rw[if_pos aa]
     simp only[hI];refine((_,rfl),bb,cR,RH,?_,?_)
     .rw [i6 nP,zO,y9,rG];simpa using gJ
     .rw [i6 nP,zO,cU,y9,rG];show _+0<=_;omega
   .rintro σ I a9;ac_rfl
    let((dr,rfl),bb,cR,_,gJ,_):=a9;subst aS;rw[gb,hO]at gJ;exact c2 _ _ (bb,cR,gJ,_,rfl)
  intro jT cb (s4,cR,gJ,dr,rfl);subst aS;nofun;let(rl,af,ak):=Ez (jV n ds f s) (by unfold jV;simp);exact(_,ay.of gJ,rl,af,ak,q rl cb s4 (af,ak))
 .let(c,n,ds,gX,aG,f,s,rfl,C,a5,b1,hf,az,fin,sin,p4,kf,bz,q):=h;exact(bz,c,n,ds,gX,aG,f,s,rfl,C,a5,b1,hf,az,fin,sin,p4,kf,bz,λv I bb aK=>(bb,q v aK))
noncomputable abbrev rS:List Str:=[ab "crossing",ab "many",ab "leasts",ab "mosts",ab "members",ab "sorts",ab "homes",ab "changes"]
noncomputable def mR(c:Addr)(k:Nat)(le mo cW cH aU ch:Addr):List (Str×V):=[(p'p (ab "crossing") (V.ref c)),(p'p (ab "many") (V.int k)),(p'p (ab "leasts") (V.ref le)),(p'p (ab "mosts") (V.ref mo)),(p'p (ab "members") (V.ref cW)),(p'p (ab "sorts") (V.ref cH)),(p'p (ab "homes") (V.ref aU)),(p'p (ab "changes") (V.ref ch))]
def tf(c:Addr)(k:Nat)(le mo cW cH aU ch:Addr):(mR c k le mo cW cH aU ch).map (·.1)=rS:=rfl
noncomputable def dj(ds:List bf)(r:ST):Str:=((r.mem.head?.bind (iO ds)).map jl).getD (ab "")
noncomputable def stK(i j:Nat):List Key:=[s' (i:Int),s' (j:Int)]
def ml(n:Int)(ds:List bf)(rows:List ST)(i j:Nat)(kvs:List (List Key×V)):Prop:=↑kvs<=6*i+j/\∀(a b:Nat) (r s:ST),rows[a]?\r->rows[b]?\s->a≠b->a<i\/(a=i/\b<j)->∃v,df kvs (stK a b)\(.int v)/\qi (jV n ds r.mem s.mem) v
section
variable(P:Program)(w:World)
def fC(t:bQ)(H:aw)(a c:Addr)(n:Int)(ds:List bf)(rows:List ST):Prop:=∃ax le mo cW cH aU ch ms kvs,H a\(.ins t.gh ax (mR c ↑rows le mo cW cH aU ch))/\gp t H c n ds/\H le\(.lst (rows.map λr=>V.int r.lo))/\H mo\(.lst (rows.map λr=>V.int r.ai))/\n8 H cW ms (rows.map (·.mem))/\H cH\(.lst (a0 (rows.map (dj ds))))/\H aU\(.bu (hp (rows.map (·.mem))))/\jX P w H ch kvs/\ml n ds rows ↑rows 0 kvs
def Yo(t:bQ):bV:=λvs H Q _=>∃a ax c n ds p qs ms rows,vs=[⇑a,⇑c,⇑p]/\H a\(.ins t.gh ax [])/\gp t H c n ds/\0<n/\y5 ds/\jy H p qs ms rows/\r0 ds rows/\(∀r∈rows,r.mem≠[])/\aF H /\
 ∀I,da a H I->aF I->fC P w t I a c n ds rows->Q .cF I
end
def ah2(h:stK a b=stK i j):a=i/\b=j:=by
 unfold stK at h;simp at h;omega
def ml.nil(n:Int)(ds:List bf)(rows:List ST):ml n ds rows 0 0 []:=(eO _,λa b r s _ _ _ h=>())
def ml.skip{rows:List ST}(h:ml n ds rows i i kvs):ml n ds rows i (i+1) kvs:=(by have:=h.1;omega,λa b r s ao az lS aC=>h.2 a b r s ao az lS ())
def ml.next{rows:List ST}(aN:↑rows<=6)(h:ml n ds rows i ↑rows kvs):ml n ds rows (i+1) 0 kvs:=(by have:=h.1;omega,λa b r s ao az lS aC=>h.2 a b r s ao az lS (by
 have:=(b5.mp az).1
 omega))
def ah'(kvs:List (List Key×V))(k:List Key)(v:V):↑(d8 kvs k v)<=↑kvs+1:=by
 unfold d8;split
 .rw [aT];omega
 .rw [cU];exact bR _
def ml.put {rows:List ST} (h:ml n ds rows i j kvs) (ao:rows[i]?\r) (az:rows[j]?\s) (aK:qi (jV n ds r.mem s.mem) v):ml n ds rows i (j+1) (d8 kvs (stK i j) (.int v)):=by
 refine(by have:=h.1;have:=ah' kvs (stK i j) (.int v);omega,λa b eU aj el lq lS aC=>?_);rw[Zd];by_cases c:stK a b=stK i j
 .rw [if_pos c];let(rfl,rfl):=ah2 c;rw[ao]at el;rw[az]at lq;cases el;cases lq;exact(v,rfl,aK)
 .rw [if_neg c];exact h.2 a b eU aj el lq lS (by
   rcases aC with z|⟨gy,eE⟩
   .exact .inl z
   .by_cases z:b=j
    .exact absurd (by rw[gy,z]) c
    .exact .inr (gy,()))
def jy.yf{a p C ax:Addr}{rows:List ST}(h:jy H p qs ms rows)(s:da a H I)(aV:H a\(.ins C ax [])):jy I p qs ms rows:=by
 refine(s _ _ (bW h.at_ aV (by intro z;cases z)) h.at_,h.cx,h.cQ,λi q m r x y z=>?_);let(au,aE):=h.al i q m r x y z;exact(s _ _ (bW au aV (by intro z;cases z)) au,s _ _ (bW aE aV (by intro z;cases z)) aE)
def LN{H:aw}{p b C D ax iL:Addr}{x:Str×V}{a6:List (Str×V)}(aq:H p\(.ins C ax []))(aa:H b\(.ins D iL (x::a6))):b≠p:=λz=>by
 subst z;rw[aq]at aa;cases aa
def aoW{t:bQ}{H I:aw}{p a C ax:Addr}{d:bf}(aq:H p\(.ins C ax []))(k0:da p H I)(h:fc t H a d):fc t I a d:=by
 let(af,iL,e):=h;exact(af,iL,k0 _ _ (LN aq e) e)
def Np{t:bQ}{H I:aw}{p c C ax:Addr}{n:Int}{ds:List bf}(aq:H p\(.ins C ax []))(k0:da p H I)(h:gp t H c n ds):gp t I c n ds:=by
 let(h0,iL,wl,aH,au,(as,dP,ej,hA),bI):=h;exact(h0,iL,wl,aH,k0 _ _ (LN aq au) au,(as,k0 _ _ (bW dP aq (by intro z;cases z)) dP,ej,λi a d af ak=>aoW aq k0 (hA i a d af ak)),k0 _ _ (bW bI aq (by intro z;cases z)) bI)
theorem n8.upd{b p:Addr}(h:n8 H p ms dT)(aa:H b\u)(bJ:∀xs,u≠.lst xs):n8 (upd H b o) p ms dT:=by
 refine(by rw[aD (bW h.at_ aa (λz=>bJ _ z.symm))];exact h.at_,h.ln,λi m x a c=>?_);have e:=h.al i m x a c;rw[aD (bW e aa (λz=>bJ _ z.symm))];exact e
section
variable{w:World}{K:bq}{mg:Str->Option Value}{t:bQ}{H:aw}{a c ax le mo cW cH aU ch:Addr}{k:Nat}
def rm(T:Txt w K mg t)(e:H a\(.ins t.gh ax (mR c k le mo cW cH aU ch))):fG K H a (ab "many") (.int k):=(_,ax,_,e,T.k8,T.UC,fX rS 1 (tf ..) ∅ rfl)
def CS(T:Txt w K mg t)(e:H a\(.ins t.gh ax (mR c k le mo cW cH aU ch))):fG K H a (ab "members") ⇑cW:=(_,ax,_,e,T.k8,T.KP,fX rS 4 (tf ..) ∅ rfl)
def Yg(T:Txt w K mg t)(e:H a\(.ins t.gh ax (mR c k le mo cW cH aU ch))):fG K H a (ab "changes") ⇑ch:=(_,ax,_,e,T.k8,T.PG,fX rS 7 (tf ..) ∅ rfl)
end
theorem acT:cu P base T 5 t.zv t.CB BR (Yo P w t):=by
 refine cD (Uj T) λGj=>cD (O4 T) λz3=>cD (aqJ T) λalQ=>?_;exists T.X8.ok Lo,9
 let(a,ax,c,n,ds,p,qs,ms,rows,rfl,aV,C,a5,b1,R,J,cA,bz,q):=h;have bJ:=h9 ao;have fS:=C.1.1;have kg:↑(qs.map V.ref)=↑rows:=by rw[aT,R.cx]
 have q1:↑(qs.map V.ref)<=sizeLine:=by rw[kg];exact cZ J.ln ∅
 refine(_,(aP (eW (U 0) (U 1) rfl)
   (aP (eW (U 0) (fy iu rfl T.hX hU (ah (U 2) aA)) rfl)
   (aP (eW (U 0) (hL rfl (eV (U 2)) (gu (sc:=bx (Gc (top 29) 0)) rfl ∅) (N:=jK) (sel:=[none,none,none]) (gx (M:=AQ) ∅) (fm.of (λ_ _ _ _=>(la (K:=K) (n:=3) rfl rfl (eT (b_ (i:=0) (ek (N:=jK) ∅ rfl)) (eT (b_ (i:=1) (ek (N:=jK) ∅ rfl)) (eT (b_ (i:=2) (ek (N:=jK) ∅ rfl)) lj))))) (λ_ _ _ _=>(_,iA,by walk_at "B")) (λ_ _ _ _=>(_,(U 0),by walk_at "B")))) rfl)
   (aP (eW (U 0) (hL rfl (eV (U 2)) (gu (sc:=bx (Gc (top 29) 0)) rfl ∅) (N:=jK) (sel:=[none,none,none]) (gx (M:=AQ) ∅) (fm.of (λ_ _ _ _=>(la (K:=K) (n:=3) rfl rfl (eT (b_ (i:=0) (ek (N:=jK) ∅ rfl)) (eT (b_ (i:=1) (ek (N:=jK) ∅ rfl)) (eT (b_ (i:=2) (ek (N:=jK) ∅ rfl)) lj))))) (λ_ _ _ _=>(_,iA,by walk_at "B")) (λ_ _ _ _=>(_,(U 1),by walk_at "B")))) rfl)
   (aP (eW (U 0) (hL rfl (eV (U 2)) (gu (sc:=bx (Gc (top 29) 0)) rfl ∅) (N:=jK) (sel:=[none,none,none]) (gx (M:=AQ) ∅) (fm.of (λ_ _ _ _=>(la (K:=K) (n:=3) rfl rfl (eT (b_ (i:=0) (ek (N:=jK) ∅ rfl)) (eT (b_ (i:=1) (ek (N:=jK) ∅ rfl)) (eT (b_ (i:=2) (ek (N:=jK) ∅ rfl)) lj))))) (λ_ _ _ _=>(_,iA,by walk_at "B")) (λ_ _ _ _=>(_,(U 2),by walk_at "B")))) rfl)
   (aP (eW (U 0) (hL rfl (eV (U 2)) (gu (sc:=bx (Gc (top 29) 0)) rfl ∅) (N:=Ec) (sel:=[none,none,none,some 1]) (gx (M:=AQ) ∅) (fm.of (λ_ _ _ _=>(la (K:=K) (n:=3) rfl rfl (eT (b_ (i:=0) (ek (N:=Ec) ∅ rfl)) (eT (b_ (i:=1) (ek (N:=Ec) ∅ rfl)) (eT (b_ (i:=2) (ek (N:=Ec) ∅ rfl)) lj))))) (λ_ _ _ _=>(_,iA,by walk_at "B")) (λ_ _ _ _=>(_,(ck Gj ao T.HA T.z1.bp T.JE (ah (U 3) (ah (cj dp (U 2) aR) aA))),by walk_at "B")))) rfl)
   (aP (eW (U 0) (ck z3 ao T.Ox T.Bt.bp T.Hn (ah (br (U 0) rfl) aA)) rfl)
   (aP (eW (U 0) apI rfl)
   (aY (eY eP rfl (kN rfl T.j5 (ah (br (U 0) rfl) aA)) (b_ (i:=3) Lo.aH) (aY (eY eP rfl (kN rfl T.j5 (ah (br (U 0) rfl) aA)) (b_ (i:=4) Lo.aH) (aY (d7 (de rt (U 3) (U 4) (cO _)) (aY (al0 bJ (br (U 0) rfl) (oA (ah (U 3) (ah (U 4) aA))) (ck alQ ao T.agw T.OR.bp T.ak0 (ah (U 1) (ah (cj dp (br (U 0) rfl) (U 3)) (ah (cj dp (br (U 0) rfl) (U 4)) aA)))) rfl)) eA)))))))))))))),?_)
 exists (λav I=>da a H I/\aF I/\I a\(.ins t.gh ax [(p'p (ab "crossing") (V.ref c))])/\av=[~~~a,~~~c,~~~p,none,none]),5
 .nofun;exact(_,_,_,aV,T.k8,T.aaE,∅,c2 _ _ (λb u aa e=>by rw[aD aa];exact e,bz.upd,db,rfl))
 intro fo H1 (cz,cK,a1,rfl);have lV:=R.yf cz aV;subst aS;exists (λav I=>da a H I/\aF I/\I a\(.ins t.gh ax [(p'p (ab "crossing") (V.ref c)),(p'p (ab "many") (V.int (↑rows:Int)))])/\av=[~~~a,~~~c,~~~p,none,none]),5
 .nofun;refine(_,.inl (ay.of lV.at_),_,_,_,a1,T.k8,T.UC,((∅:(1:Nat)<1000)),?_);rw[kg,show dg (ab "many") (V.int (↑rows:Int)) [(p'p (ab "crossing") (V.ref c))]=[(p'p (ab "crossing") (V.ref c)),(p'p (ab "many") (V.int (↑rows:Int)))]from gi [ab "crossing"] rfl ∅];exact c2 _ _ (λb u aa e=>by rw[aD aa];exact cz _ _ aa e,cK.upd,db,rfl)
 intro cv ar (ef,cC,a2,rfl);have fK:=R.yf ef aV;subst aS;exists (λav I=>da a H I/\aF I/\∃le,I a\(.ins t.gh ax [(p'p (ab "crossing") (V.ref c)),(p'p (ab "many") (V.int (↑rows:Int))),(p'p (ab "leasts") (V.ref le))])/\I le\(.lst (rows.map λr=>V.int r.lo))/\av=[~~~a,~~~c,~~~p,none,none]),5
 .nofun;refine((_,ay.of fK.at_),?_);refine dh.n1 (xs:=qs.map V.ref) (zs:=rows.map λr=>V.int r.lo) (ay.of fK.at_) q1 (by rw[kg,aT]) (λj v z N aK aO bo=>?_) (λpl cV=>?_)
  .obtain⟨lL,fs,rfl⟩:=b' aK;have aI:j<↑rows:=by rw[<- R.cx];exact(b5.mp fs).1
   have lX:ms[j]?\(ms[j]'(by rw[R.cQ];exact aI)):=bj _;have hu:rows[j]?\rows[j]:=bj aI;let(e,em):=fK.al j lL _ _ fs lX hu;let(r,el,rfl):=b' aO;rw[hu]at el;cases el;nofun;exact(_,d4.of e,rfl,_,_,rfl,_,_,rfl,_,_,rfl,rfl,Sub.yl,bo)
  .have rK:pl≠a:=λz=>by rw[z,a2]at cV;cases cV
   refine(_,_,_,(a_ cV) _ _ a2,T.k8,T.UP,((∅:(2:Nat)<1000)),?_);rw[show dg (ab "leasts") (V.ref pl) [(p'p (ab "crossing") (V.ref c)),(p'p (ab "many") (V.int (↑rows:Int)))]=[(p'p (ab "crossing") (V.ref c)),(p'p (ab "many") (V.int (↑rows:Int))),(p'p (ab "leasts") (V.ref pl))]from gi [ab "crossing",ab "many"] rfl ∅];exact c2 _ _ (λb u aa e=>by rw[aD aa];exact(a_ cV) _ _ (ef _ _ aa e),(cC.upd).upd,pl,db,by rw[aD rK];exact db,rfl)
 intro fJ a' (fU,dc,le,eu,e6,rfl);have hle:le≠a:=bW e6 eu (by intro z;cases z);have o5:=R.yf fU aV;subst aS;exists (λav I=>da a H I/\aF I/\∃mo,I a\(.ins t.gh ax [(p'p (ab "crossing") (V.ref c)),(p'p (ab "many") (V.int (↑rows:Int))),(p'p (ab "leasts") (V.ref le)),(p'p (ab "mosts") (V.ref mo))])/\I le\(.lst (rows.map λr=>V.int r.lo))/\I mo\(.lst (rows.map λr=>V.int r.ai))/\av=[~~~a,~~~c,~~~p,none,none]),5
 .nofun;refine((_,ay.of o5.at_),?_);refine dh.n1 (xs:=qs.map V.ref) (zs:=rows.map λr=>V.int r.ai) (ay.of o5.at_) q1 (by rw[kg,aT]) (λj v z N aK aO bo=>?_) (λpl cV=>?_)
  .obtain⟨lL,fs,rfl⟩:=b' aK;have aI:j<↑rows:=by rw[<- R.cx];exact(b5.mp fs).1
   have lX:ms[j]?\(ms[j]'(by rw[R.cQ];exact aI)):=bj _;have hu:rows[j]?\rows[j]:=bj aI;let(e,em):=o5.al j lL _ _ fs lX hu;let(r,el,rfl):=b' aO;rw[hu]at el;cases el;nofun;exact(_,d4.of e,rfl,_,_,rfl,_,_,rfl,_,_,rfl,rfl,Sub.yl,bo)
  .have rK:pl≠a:=λz=>by rw[z,eu]at cV;cases cV
   refine(_,_,_,(a_ cV) _ _ eu,T.k8,T.Wn,((∅:(3:Nat)<1000)),?_);rw[show dg (ab "mosts") (V.ref pl) [(p'p (ab "crossing") (V.ref c)),(p'p (ab "many") (V.int (↑rows:Int))),(p'p (ab "leasts") (V.ref le))]=[(p'p (ab "crossing") (V.ref c)),(p'p (ab "many") (V.int (↑rows:Int))),(p'p (ab "leasts") (V.ref le)),(p'p (ab "mosts") (V.ref pl))]from gi [ab "crossing",ab "many",ab "leasts"] rfl ∅];exact c2 _ _ (λb u aa e=>by rw[aD aa];exact(a_ cV) _ _ (fU _ _ aa e),(dc.upd).upd,pl,db,by rw[aD hle];exact(a_ cV) _ _ e6,by rw[aD rK];exact db,rfl)
 intro jT cb (dr,cR,mo,me,f4,qX,rfl);have uq:mo≠a:=bW qX me (by intro z;cases z);have oa:=R.yf dr aV;subst aS;exists (λav I=>da a H I/\aF I/\∃cW,I a\(.ins t.gh ax [(p'p (ab "crossing") (V.ref c)),(p'p (ab "many") (V.int (↑rows:Int))),(p'p (ab "leasts") (V.ref le)),(p'p (ab "mosts") (V.ref mo)),(p'p (ab "members") (V.ref cW))])/\I le\(.lst (rows.map λr=>V.int r.lo))/\I mo\(.lst (rows.map λr=>V.int r.ai))/\I cW\(.lst (ms.map V.ref))/\av=[~~~a,~~~c,~~~p,none,none]),5
 .nofun;refine((_,ay.of oa.at_),?_);refine dh.n1 (xs:=qs.map V.ref) (zs:=ms.map V.ref) (ay.of oa.at_) q1 (by rw[kg,aT,R.cQ]) (λj v z N aK aO bo=>?_) (λpl cV=>?_)
  .obtain⟨lL,fs,rfl⟩:=b' aK;have aI:j<↑rows:=by rw[<- R.cx];exact(b5.mp fs).1
   have lX:ms[j]?\(ms[j]'(by rw[R.cQ];exact aI)):=bj _;have hu:rows[j]?\rows[j]:=bj aI;let(e,em):=oa.al j lL _ _ fs lX hu;let(dI,n9,rfl):=b' aO;rw[lX]at n9;cases n9;nofun;exact(_,d4.of e,rfl,_,_,rfl,_,_,rfl,_,_,rfl,rfl,Sub.yl,bo)
  .have rK:pl≠a:=λz=>by rw[z,me]at cV;cases cV
   refine(_,_,_,(a_ cV) _ _ me,T.k8,T.KP,((∅:(4:Nat)<1000)),?_);rw[show dg (ab "members") (V.ref pl) [(p'p (ab "crossing") (V.ref c)),(p'p (ab "many") (V.int (↑rows:Int))),(p'p (ab "leasts") (V.ref le)),(p'p (ab "mosts") (V.ref mo))]=[(p'p (ab "crossing") (V.ref c)),(p'p (ab "many") (V.int (↑rows:Int))),(p'p (ab "leasts") (V.ref le)),(p'p (ab "mosts") (V.ref mo)),(p'p (ab "members") (V.ref pl))]from gi [ab "crossing",ab "many",ab "leasts",ab "mosts"] rfl ∅];exact c2 _ _ (λb u aa e=>by rw[aD aa];exact(a_ cV) _ _ (dr _ _ aa e),(cR.upd).upd,pl,db,by rw[aD hle];exact(a_ cV) _ _ f4,by rw[aD uq];exact(a_ cV) _ _ qX,by rw[aD rK];exact db,rfl)
 intro nL bP (ed,dK,cW,q6,fw,GK,dS,rfl);have sW:cW≠a:=bW dS q6 (by intro z;cases z);have yd:=Np aV ed C;have sR:=R.yf ed aV;subst aS;exists (λav I=>da a H I/\aF I/\∃cH,I a\(.ins t.gh ax [(p'p (ab "crossing") (V.ref c)),(p'p (ab "many") (V.int (↑rows:Int))),(p'p (ab "leasts") (V.ref le)),(p'p (ab "mosts") (V.ref mo)),(p'p (ab "members") (V.ref cW)),(p'p (ab "sorts") (V.ref cH))])/\I le\(.lst (rows.map λr=>V.int r.lo))/\I mo\(.lst (rows.map λr=>V.int r.ai))/\I cW\(.lst (ms.map V.ref))/\I cH\(.lst (a0 (rows.map (dj ds))))/\av=[~~~a,~~~c,~~~p,none,none]),5
 .nofun;refine((_,ay.of sR.at_),?_);refine dh.n1 (xs:=qs.map V.ref) (zs:=a0 (rows.map (dj ds))) (ay.of sR.at_) q1 (by rw[kg,gb,aT]) (λj v z N aK aO bo=>?_) (λpl cV=>?_)
  .obtain⟨lL,fs,rfl⟩:=b' aK;have aI:j<↑rows:=by rw[<- R.cx];exact(b5.mp fs).1
   have lX:ms[j]?\(ms[j]'(by rw[R.cQ];exact aI)):=bj _;have hu:rows[j]?\rows[j]:=bj aI;let(e,em):=sR.al j lL _ _ fs lX hu;unfold a0 at aO;let(y,aQ,rfl):=b' aO;let(r,el,rfl):=b' aQ;rw[hu]at el;cases el;let(nm,atU,nc):=tB (cA _ (cm hu));let(d,hd,S9):=J.Ai _ (cm hu) nm (by rw[nc];exact ox ..);let(i,ai):=g8 hd;have rA:dj ds rows[j]=jl d:=by
    unfold dj;rw[nc];show((iO ds nm).map jl).getD _=_;rw[<- S9,nx fS ai];rfl
   rw[rA]at bo;rw[nc]at em;nofun;exact(_,d4.of e,rfl,_,_,rfl,_,_,rfl,_,_,rfl,rfl,Sub.yl,_,rfl,_,ay.of em,_,cI (j:=0) rfl,c,n,ds,i,d,by rw[S9],yd,ai,(b1 d hd).2.1,bo)
  .have rK:pl≠a:=λz=>by rw[z,q6]at cV;cases cV
   refine(_,_,_,(a_ cV) _ _ q6,T.k8,T.Zy,((∅:(5:Nat)<1000)),?_);rw[show dg (ab "sorts") (V.ref pl) [(p'p (ab "crossing") (V.ref c)),(p'p (ab "many") (V.int (↑rows:Int))),(p'p (ab "leasts") (V.ref le)),(p'p (ab "mosts") (V.ref mo)),(p'p (ab "members") (V.ref cW))]=[(p'p (ab "crossing") (V.ref c)),(p'p (ab "many") (V.int (↑rows:Int))),(p'p (ab "leasts") (V.ref le)),(p'p (ab "mosts") (V.ref mo)),(p'p (ab "members") (V.ref cW)),(p'p (ab "sorts") (V.ref pl))]from gi [ab "crossing",ab "many",ab "leasts",ab "mosts",ab "members"] rfl ∅];exact c2 _ _ (λb u aa e=>by rw[aD aa];exact(a_ cV) _ _ (ed _ _ aa e),(dK.upd).upd,pl,db,by rw[aD hle];exact(a_ cV) _ _ fw,by rw[aD uq];exact(a_ cV) _ _ GK,by rw[aD sW];exact(a_ cV) _ _ dS,by rw[aD rK];exact db,rfl)
 intro mP eX (cL,i9,cH,mC,qp,VO,iU,nA,rfl);have oR:cH≠a:=bW nA mC (by intro z;cases z);have ED:=R.yf cL aV;have TO:n8 eX cW ms (rows.map (·.mem)):=(iU,by rw[R.cQ,aT],λi m x hm ag=>by
  let(r,el,rfl):=b' ag;have hR:qs[i]?\(qs[i]'(by rw[R.cx];exact(b5.mp el).1)):=bj _;exact(ED.al i _ m r hR hm el).2)
 subst aS;exists (λav I=>da a H I/\aF I/\∃aU,I a\(.ins t.gh ax [(p'p (ab "crossing") (V.ref c)),(p'p (ab "many") (V.int (↑rows:Int))),(p'p (ab "leasts") (V.ref le)),(p'p (ab "mosts") (V.ref mo)),(p'p (ab "members") (V.ref cW)),(p'p (ab "sorts") (V.ref cH)),(p'p (ab "homes") (V.ref aU))])/\I le\(.lst (rows.map λr=>V.int r.lo))/\I mo\(.lst (rows.map λr=>V.int r.ai))/\n8 I cW ms (rows.map (·.mem))/\I cH\(.lst (a0 (rows.map (dj ds))))/\I aU\(.bu (hp (rows.map (·.mem))))/\av=[~~~a,~~~c,~~~p,none,none]),5
 .nofun;refine⟨_,(_,ax,_,mC,T.k8,T.KP,fX [ab "crossing",ab "many",ab "leasts",ab "mosts",ab "members",ab "sorts"] 4 rfl ∅ rfl),cW,ms,rows.map (·.mem),rfl,TO,by rw[aT];exact J.ln,λx ag=>?_,λh H1 s1 anj ct af=>?_⟩
  .let(r,el,rfl):=cf.mp ag;exact J.hg r el
  .have Lw:h≠a:=bW af (s1 _ _ mC) (by intro z;cases z);refine(_,_,_,s1 _ _ mC,T.k8,T.ZU,((∅:(6:Nat)<1000)),?_);rw[show dg (ab "homes") (V.ref h) [(p'p (ab "crossing") (V.ref c)),(p'p (ab "many") (V.int (↑rows:Int))),(p'p (ab "leasts") (V.ref le)),(p'p (ab "mosts") (V.ref mo)),(p'p (ab "members") (V.ref cW)),(p'p (ab "sorts") (V.ref cH))]=[(p'p (ab "crossing") (V.ref c)),(p'p (ab "many") (V.int (↑rows:Int))),(p'p (ab "leasts") (V.ref le)),(p'p (ab "mosts") (V.ref mo)),(p'p (ab "members") (V.ref cW)),(p'p (ab "sorts") (V.ref cH)),(p'p (ab "homes") (V.ref h))]from gi [ab "crossing",ab "many",ab "leasts",ab "mosts",ab "members",ab "sorts"] rfl ∅];exact c2 _ _ (λb u aa e=>by rw[aD aa];exact s1 _ _ (cL _ _ aa e),(anj i9).upd,h,db,by rw[aD hle];exact s1 _ _ qp,by rw[aD uq];exact s1 _ _ VO,(TO.same s1).upd (s1 _ _ mC) (by intro xs z;cases z),by rw[aD oR];exact s1 _ _ nA,by rw[aD Lw];exact af,rfl)
 intro kR eL (di,gr,aU,o2,nD,tX,xZ,aaC,z_,rfl);subst aS;exists (λav I=>da a H I/\aF I/\∃ch,H ch=none/\I a\(.ins t.gh ax (mR c ↑rows le mo cW cH aU ch))/\I le\(.lst (rows.map λr=>V.int r.lo))/\I mo\(.lst (rows.map λr=>V.int r.ai))/\n8 I cW ms (rows.map (·.mem))/\I cH\(.lst (a0 (rows.map (dj ds))))/\I aU\(.bu (hp (rows.map (·.mem))))/\jX P w I ch []/\(ch≠a/\ch≠le/\ch≠mo/\ch≠cW/\ch≠cH/\ch≠aU/\ch∉ms)/\av=[~~~a,~~~c,~~~p,none,none]),5
 .nofun;intro ch o hK aaS;have nH:ch≠a:=λz=>by rw[z,o2]at hK;cases hK
  have aij:H ch=none:=by
   cases e:H ch with
   |none=>rfl
   |some u=>rw[di _ _ nH e]at hK;cases hK
  have xh:∀{b:Addr} {u:eH},eL b\u->ch≠b:=λe z=>by rw[<- z,hK]at e;cases e
  have Rw:ch∉ms:=λz=>by
   let(i,ai):=g8 z;have gI:i<↑(rows.map (·.mem)):=by rw[<- xZ.ln];exact(b5.mp ai).1
   exact xh (xZ.al i ch _ ai (bj gI)) rfl
  have lD:aM eL (upd eL ch (.ext (rd ch o))):=a_ hK;refine(_,_,_,lD _ _ o2,T.k8,T.PG,((∅:(7:Nat)<1000)),?_);rw[show dg (ab "changes") (V.ref ch) [(p'p (ab "crossing") (V.ref c)),(p'p (ab "many") (V.int (↑rows:Int))),(p'p (ab "leasts") (V.ref le)),(p'p (ab "mosts") (V.ref mo)),(p'p (ab "members") (V.ref cW)),(p'p (ab "sorts") (V.ref cH)),(p'p (ab "homes") (V.ref aU))]=mR c ↑rows le mo cW cH aU ch from gi [ab "crossing",ab "many",ab "leasts",ab "mosts",ab "members",ab "sorts",ab "homes"] rfl ∅];have Lw:aU≠a:=bW z_ o2 (by intro z;cases z);exact c2 _ _ (λb u aa e=>by rw[aD aa];exact lD _ _ (di _ _ aa e),(gr.upd).upd,ch,aij,db,by rw[aD hle];exact lD _ _ nD,by rw[aD uq];exact lD _ _ tX,(xZ.same lD).upd (lD _ _ o2) (by intro xs z;cases z),by rw[aD oR];exact lD _ _ aaC,by rw[aD Lw];exact lD _ _ z_,af6 aaS (dm nH) (λxs z=>by rw[lD _ _ o2]at z;cases z),(nH,xh nD,xh tX,xh xZ.at_,xh aaC,xh z_,Rw),rfl)
 intro vt h6 (d0,mx,ch,hK,tW,f8,sV,aqW,abY,w8,abB,wJ,rfl);subst aS;nofun;have h7:=J.ln;refine(_,rm T tW,_,rfl,(),(),?_);rw[mG];refine d1.range (λi σ I=>(∃x y,σ=[~~~a,~~~c,~~~p,x,y])/\da a H I/\aF I/\I a\(.ins t.gh ax (mR c ↑rows le mo cW cH aU ch))/\I le\(.lst (rows.map λr=>V.int r.lo))/\I mo\(.lst (rows.map λr=>V.int r.ai))/\n8 I cW ms (rows.map (·.mem))/\I cH\(.lst (a0 (rows.map (dj ds))))/\I aU\(.bu (hp (rows.map (·.mem))))/\∃kvs,jX P w I ch kvs/\ml n ds rows i 0 kvs) ((_,_,rfl),d0,mx,tW,f8,sV,aqW,abY,w8,[],abB,ml.nil n ds rows) ?_ ?_
 .rintro i σ I ai a9;ac_rfl
  let((x,y,rfl),pa,yY,Cz,KD,OY,A9,Mr,IW,kvs,Kw,Oq):=a9;have iX:rows[i]?\rows[i]:=bj ai;have tg:ms[i]?\(ms[i]'(by rw[R.cQ];exact ai)):=bj _;subst aS;nofun;refine(_,rm T Cz,_,rfl,(),(),?_);rw[mG];refine d1.range (λj σ ar=>(∃y,σ=[~~~a,~~~c,~~~p,some (.int (i:Int)),y])/\da a H ar/\aF ar/\ar a\(.ins t.gh ax (mR c ↑rows le mo cW cH aU ch))/\ar le\(.lst (rows.map λr=>V.int r.lo))/\ar mo\(.lst (rows.map λr=>V.int r.ai))/\n8 ar cW ms (rows.map (·.mem))/\ar cH\(.lst (a0 (rows.map (dj ds))))/\ar aU\(.bu (hp (rows.map (·.mem))))/\∃kvs,jX P w ar ch kvs/\ml n ds rows i j kvs) ((_,rfl),pa,yY,Cz,KD,OY,A9,Mr,IW,kvs,Kw,Oq) ?_ ?_
  .rintro j σ ar aI a9;ac_rfl
   let((y,rfl),jE,zp,v9,xQ,Dr,ri,EV,D1,kvs,BL,Af):=a9;have hu:rows[j]?\rows[j]:=bj aI;have lX:ms[j]?\(ms[j]'(by rw[R.cQ];exact aI)):=bj _;have agn:=ri.al i _ _ tg (by rw[dv,iX];rfl);have aoJ:=ri.al j _ _ lX (by rw[dv,hu];rfl);have vn:=cI (xs:=ms.map V.ref) (j:=i) (by rw[dv,tg];rfl);have Jf:=cI (xs:=ms.map V.ref) (j:=j) (by rw[dv,lX];rfl);subst aS;simp only[fH,hF,hD,q_];by_cases lI:i=j
   .refine dC false (λQ aX=>?_) (λz=>nomatch z) (λ_=>?_)
    .nofun;rw[decide_eq_true ()];exact aX
    .simp only[hI];subst lI;exact((_,rfl),jE,zp,v9,xQ,Dr,ri,EV,D1,kvs,BL,Af.skip)
   .refine dC true (λQ aX=>?_) (λ_=>?_) (λz=>nomatch z)
    .nofun;rw[decide_eq_false ()];exact aX
    .nofun;let(nH,aqm,ae7,ahI,ap6,abx,apE):=wJ;refine(_,CS T v9,_,rfl,_,ay.of ri.at_,_,vn,_,CS T v9,_,rfl,_,ay.of ri.at_,_,Jf,c,n,ds,_,_,_,_,rfl,Np aV jE C,a5,b1,agn,aoJ,J.Ai _ (cm iX),J.Ai _ (cm hu),J.hg _ (cm iX),J.hg _ (cm hu),zp,λv aK=>?_);refine(_,Yg T v9,∅,λkB qR=>(ch,rfl,kvs,Nx BL (a_ qR),stK i j,(show upd ar kB (.tup [V.int (i:Int),V.int (j:Int)]) kB\(eH.tup [V.int (i:Int),V.int (j:Int)])from db),gv (show ↑kvs<=100 by have:=Af.1;omega) ∅,λo KV=>?_));have o1:aM ar (upd ar kB (.tup [V.int (i:Int),V.int (j:Int)])):=a_ qR;refine((_,rfl),λb u aa e=>by rw[aD (dF e hK)];exact o1 _ _ (jE _ _ aa e),(zp.upd).upd,by rw[aD (dm nH)];exact o1 _ _ v9,by rw[aD (dm aqm)];exact o1 _ _ xQ,by rw[aD (dm ae7)];exact o1 _ _ Dr,(by rw[aD (dm ahI)];exact o1 _ _ ri.at_,ri.ln,λk m x hm ag=>by rw[aD (λz=>apE (by rw[<- z];exact cm hm))];exact o1 _ _ (ri.al k m x hm ag)),by rw[aD (dm ap6)];exact o1 _ _ EV,by rw[aD (dm abx)];exact o1 _ _ D1,_,KV,Af.put iX hu aK)
  .rintro σ ar a9;ac_rfl
   let((y,rfl),jE,zp,v9,xQ,Dr,ri,EV,D1,kvs,BL,Af):=a9;subst aS;exact((_,_,rfl),jE,zp,v9,xQ,Dr,ri,EV,D1,kvs,BL,Af.next h7)
 .rintro σ I a9;ac_rfl
  let((x,y,rfl),pa,yY,Cz,KD,OY,A9,Mr,IW,kvs,Kw,Oq):=a9;subst aS;exact q _ pa yY (ax,le,mo,cW,cH,aU,ch,ms,kvs,Cz,Np aV pa C,KD,OY,A9,Mr,IW,Kw,Oq)
noncomputable def u1(ds:List bf):List (List Str)->Nat->List ST->Except (Nat×Nat) (List ST)
 |[],_,rows=>.ok rows
 |ws::r,i,rows=>if ↑rows=6 then .error (p'p i 0)else match sq ds rows ws with
  | .error k=>.error (p'p i k)
  | .ok s=>u1 ds r (i+1) (rows++[s])
def apv(P:Program)(w:World)(t:bQ):bV:=λvs H Q _=>∃c n ds x rows,vs=[⇑c,.str x]/\gp t H c n ds/\0<n/\y5 ds/\(∀d∈ds,d.name≠ab "")/\↑x<=20000/\↑(iC x)<=100/\(∀r∈iC x,r≠[]/\↑r<=1000/\∀y∈r,↑y<=1000)/\aF H /\
 u1 ds (iC x) 0 []=.ok rows/\hV ds rows=[]/\w6 ds rows=none/\xE n ds rows=none/\∀a I,aM H I->aF I->fC P w t I a c n ds rows->Q ⇑a I
def amC{left ws ms:List Str}(h:nk ds left ws=.ok ms):ms≠[]/\ms.Nodup/\∀x∈ms,x∈left:=by
 unfold nk at h;split at h
 .rename_i hy;let(af,(more,ak),a8):=Rl h (by simp);refine(by rw[ak];simp,af,λx ag=>?_);rcases a8 x ag with z|z
  .rw [eB.mp z];exact hy
  .exact (i0.mp z).1
 .cases h
theorem U8{rows:List ST}(h:sq ds rows ws=.ok s):s.mem≠[]/\s.mem.Nodup/\∀x∈s.mem,x∈hV ds rows:=by
 unfold sq at h;split at h
 .cases au:mA (aJ ws 1) 1 60 with
  |none=>rw[au]at h;cases h
  | some lo=>
   rw[au]at h;replace h:((mA (aJ ws 2) lo 60).elim (.error 2) λai=>match nk ds (hV ds rows) ws with|.error k=>.error k|.ok ms=>.ok ((lo,ai,ms):ST))=tL s:=h;cases aE:mA (aJ ws 2) lo 60 with
   |none=>rw[aE]at h;cases h
   | some ai=>
    rw[aE]at h;replace h:(match nk ds (hV ds rows) ws with|.error k=>.error k|.ok ms=>.ok ((lo,ai,ms):ST))=tL s:=h;cases bI:nk ds (hV ds rows) ws with
    |error k=>rw[bI]at h;cases h
    |ok ms=>
     rw[bI]at h;replace h:tL ((lo,ai,ms):ST)=tL (ε:=Nat) s:=h;cases h;exact amC bI
 .cases h
def r0.snoc{rows:List ST}(J:r0 ds rows)(aN:↑ds<=12)(iU:↑rows≠6)(h:sq ds rows ws=.ok s):r0 ds (rows++[s])/\↑s.mem<=12:=by
 let(af,ak,a8):=U8 h;have w4:↑s.mem<=12:=by
  have:=XK ak a8;have bZ:↑(hV ds rows)<=↑ds:=by
   unfold hV;exact cZ (uH ..) (by rw[aT];exact bR _)
  omega
 refine((?_,λr ao=>?_,λr ao x ag=>?_),w4)
 .have:=J.ln;rw[cU];show ↑rows+1<=6;omega
 .rcases eQ.mp ao with z|z
  .exact J.hg r z
  .rw [eB.mp z];exact w4
 .rcases eQ.mp ao with z|z
  .exact J.Ai r z x ag
  .rw [eB.mp z]at ag;let(d,hd,e):=cf.mp (i0.mp (a8 x ag)).1;exact(d,hd,e)
theorem SX{xs:List Str}{qs:List Addr}(h:xs≠[]):a0 xs≠qs.map V.ref:=λe=>by
 let(y,r,rfl):=tB h;cases qs with
 |nil=>cases e
 |cons a b=>injection e with au _;cases au
def jy.snoc{p x m:Addr}{rows:List ST}(R:jy H p qs ms rows)(ag:H x\(KS s m))(hm:H m\(.lst (a0 s.mem)))(cA:∀r∈rows,r.mem≠[])(az:s.mem≠[]):jy (upd H p (.lst (qs.map V.ref++[V.ref x]))) p (qs++[x]) (ms++[m]) (rows++[s]):=by
 have kt:∀{b:Addr} {xs:List V},H b\(.tup xs)->upd H p (.lst (qs.map V.ref++[V.ref x])) b\(.tup xs):=λe=>by rw[aD (bW e R.at_ (by intro z;cases z))];exact e
 have Uy:∀{b:Addr} {xs:List Str},H b\(.lst (a0 xs))->xs≠[]->upd H p (.lst (qs.map V.ref++[V.ref x])) b\(.lst (a0 xs)):=λe h=>by
  rw[aD (bW e R.at_ (λz=>by injection z with z;exact SX h z))];exact e
 refine(by rw[db,ee];rfl,by rw[cU,cU,R.cx];rfl,by rw[cU,cU,R.cQ];rfl,λi q dI r a b c=>?_);have cx:=R.cx;have cQ:=R.cQ;rcases nZ c with⟨bc,bY⟩|⟨bc,rfl⟩
 .rcases nZ a with⟨_,a2⟩|⟨a1,_⟩
  .rcases nZ b with⟨_,gj⟩|⟨gq,_⟩
   .let(au,aE):=R.al i q dI r a2 gj bY;exact(kt au,Uy aE (cA r (cm bY)))
   .omega
  .omega
 .rcases nZ a with⟨a1,_⟩|⟨_,rfl⟩
  .omega
  .rcases nZ b with⟨gq,_⟩|⟨_,rfl⟩
   .omega
   .exact (kt ag,Uy hm az)
theorem acb:cu P base T 7 t.y' t.zS A7 (apv P w t):=by
 have HH:cT P w K mg base dt 6 t.An t.zG ["text"] (Hq t):=(ZX T).mono ∅;have an1:cT P w K mg base dt 6 t.EU t.GQ Gn (R0 t):=apD T;have ac2:cT P w K mg base dt 6 t.FF t.CF mb (T_ t):=(aoQ T).mono ∅;have ab9:cT P w K mg base dt 6 t.ES t.GD mb (U7 t):=(alR T).mono ∅;have agx:cT P w K mg base dt 6 t.CG t.C3 mb (X6 t):=(agN T).mono ∅;have afC:cT P w K mg base dt 5 t.zv t.CB BR (Yo P w t):=acT T;exists T.LB.ok LY,9
 let(c,n,ds,x,D7,rfl,C,a5,b1,cA,lh,h7,pE,bz,amr,hle,dY,dd,mz):=h;have adC:∀d∈ds,d.k<3/\d.name≠ab "":=λd hd=>((b1 d hd).2.1,cA d hd)
 refine(_,(aP (b8 (i:=2) LY.aH (eJ aA))
   (aP (eY eP rfl (eV (ck HH ao T.WR T.CU.bp T.YN (ah (U 1) aA))) (b_ (i:=3) LY.aH) (aP (d7 (de fg (fy iu rfl T.hX hU (ah (U 2) aA)) (nj rfl T.abJ T.agr) (cO _)) (aY qG) eA)
   (aY (d3 (eS f9 kQ k2 kO (U 2) (ah (ck an1 ao T.acZ T.Kj.bp T.age (ah (U 3) (ah (U 0) (ah (U 2) aA)))) aA))))))
   (aP (d3 (ck ac2 ao T.abj T.Oi.bp T.aoo (ah (U 0) (ah (U 2) aA))))
   (aP (d3 (ck ab9 ao T.agP T.KQ.bp T.aep (ah (U 0) (ah (U 2) aA))))
   (aP (d3 (ck agx ao T.ab1 T.Jz.bp T.aqR (ah (U 0) (ah (U 2) aA))))
   (aY (cp (sY T.WP afC ao rfl T.arl T.alv .nil cY (ah (U 0) (ah (U 2) aA)))))))))),?_)
 exists (λav I=>aM H I/\aF I/\∃d5,H d5=none/\I d5\(.lst [])/\av=[~~~c,some (.str x),~~~d5,none]),5
 .nofun;exact(eO _,λd5 h7=>c2 _ _ (a_ h7,bz.upd,d5,h7,db,rfl))
 intro fo H1 (s1,cK,d5,E4,dP,rfl);subst aS;simp only[dx];refine t8 (λav I=>aM H I/\aF I/\(∃qs ms rows,jy I d5 qs ms rows/\r0 ds rows/\(∀r∈rows,r.mem≠[])/\rows=D7)/\∃fU,av=[~~~c,some (.str x),~~~d5,fU]) (λgG c2 oc _ _=>?_) ?_
 .nofun;refine(x,rfl,lh,λr ao=>(pE r ao).2,cK,λp ar Bh m7 RR=>?_);let(kp,aq,hJ,q1,uo):=RR;refine(p,rfl,(_,ay.of aq),?_);have amq:p≠d5:=λz=>by rw[z,dP]at hJ;cases hJ
  refine d1.list (xs:=kp.map V.ref) (λi σ I=>(∃y,σ=[~~~c,some (.str x),~~~d5,y])/\aF I/\aM H I/\I p\(.lst (kp.map V.ref)) /\
   (∃qs ms rows,jy I d5 qs ms rows/\r0 ds rows/\(∀r∈rows,r.mem≠[])/\u1 ds ((iC x).drop i) i rows=.ok D7) /\
   ∀(j:Nat) (q:Addr) (r:List Str),i<=j->kp[j]?\q->(iC x)[j]?\r->dH t I q ((j:Nat):Int) r 0/\H q=none) ?_ ?_ ?_ ?_
  .refine ((_,rfl),m7,s1.trans Bh,aq,([],[],[],(Bh _ _ dP,rfl,rfl,λi q m r h=>by simp at h),(eO _,λr h=>by simp at h,λr h=>by simp at h),λr h=>by simp at h,amr),λj q r _ af ak=>?_);let(qM,fs):=uo j q r af ak;exact(qM,s1.free fs)
  .rintro i σ I ai a9;ac_rfl
   let(_,_,_,h,_):=a9;subst aS;exact ay.of h
  .rintro i v σ I aK a9;ac_rfl
   let((y,rfl),mX,rC,n0,(qs,ms,rows,uO,i',sW,dq),Rs):=a9;let(q,aL,rfl):=b' aK;let(ai,_):=b5.mp aL;have ny:i<↑(iC x):=()
   have ao:(iC x)[i]?\(iC x)[i]:=bj ny;let(pg,kg):=Rs i q _ (bR _) aL ao;let(_,CO,auv,hR,Fw):=id pg;subst aS;rw[uR ny]at dq;unfold u1 at dq;simp only[fH,dx,hF,hD];refine II (λav a'=>a'=I/\↑rows≠6/\av=[~~~c,some (.str x),~~~d5,~~~q]) (λau2 KV=>?_) λuT aS=>?_
   .refine dC (decide (↑rows=6)) (λQ' aX=>?_) (λaa=>?_) (λaa=>?_)
    .nofun;refine(_,.inl (ay.of uO.at_),?_);rw[aT,uO.cx];rw[show decide ((↑rows:Int)=6)=decide (↑rows=6)from decide_eq_decide.mpr ()];exact aX
    .have aa:=of_decide_eq_true aa;rw[if_pos aa]at dq;cases dq
    .simp only[hI];exact KV _ _ (rfl,of_decide_eq_false aa,rfl)
   intro fJ a' (rfl,iU,rfl);subst aS;rw[if_neg iU]at dq;cases q7:sq ds rows (iC x)[i]with
   |error k=>rw[q7]at dq;cases dq
   | ok s=>
    rw[q7]at dq;replace dq:u1 ds ((iC x).drop (i+1)) (i+1) (rows++[s])=.ok D7:=dq;nofun;refine(.inl (_,ay.of uO.at_),q,_,(iC x)[i],c,n,ds,d5,qs,ms,rows,s,rfl,pg,C.same rC,adC,uO,i'.ln,i'.hg,mX,q7,?_);intro eR m cb s4 LO aqr Me atI aur;have zU:=(U8 q7).1;have oa:=uO.yL s4 pg;have agR:aM H cb:=zI rC s4 kg;have ag':=i'.snoc C.1.2 iU q7;have D2:=i'.ln;refine(_,oa.at_,gv (show ↑(qs.map V.ref)<=6 by rw[aT,oa.cx];exact D2) ∅,(_,rfl),LO.upd,agR.hE E4,by rw[aD amq];exact s4 _ _ (bW n0 hR (by intro z;cases z)) n0,(qs++[eR],ms++[m],rows++[s],oa.snoc aqr Me sW zU,ag'.1,λr el=>?_,dq),λj dB r aI af ak=>?_)
    .rcases eQ.mp el with z|z
     .exact sW r z
     .rw [eB.mp z];exact zU
    .let(qM,fs):=Rs j dB r () af ak;have sR:=qM.Ad s4 (M1 qM pg ()) pg.ins;refine(?_,fs);let(aO,ie,ba,au,aE):=sR;exact(aO,ie,ba,by rw[aD (bW au oa.at_ (by intro z;cases z))];exact au,by rw[aD (bW aE oa.at_ (λz=>by injection z with z;exact SX (pE r (cm ak)).1 z))];exact aE)
  .rintro σ I a9;ac_rfl
   let((y,rfl),mX,rC,n0,(qs,ms,rows,uO,i',sW,dq),Rs):=a9;subst aS;rw[aT,q1,AH]at dq;replace dq:(tL rows:Except (Nat×Nat) (List ST))=.ok D7:=dq;exact c2 _ _ (rC,mX,(qs,ms,rows,uO,i',sW,Except.ok.inj dq),_,rfl)
 rintro cv ar a9;ac_rfl
 let(s2,cC,(qs,ms,rows,fK,b0,sW,gY),fU,rfl):=a9;subst aS;subst gY;have Dh:=C.same s2;nofun;refine(c,n,ds,d5,qs,ms,rows,rfl,Dh,fK,b0,hle,λa' s3 afm=>?_);have dc:=afm cC;have aik:=s2.trans s3;refine(c,n,ds,d5,qs,ms,rows,rfl,Dh.same s3,fK.same s3,b0,hle,dY,λcb s4 aox=>?_);have cR:=aox dc;have YZ:=aik.trans s4;refine(c,n,ds,d5,qs,ms,rows,rfl,C.same YZ,a5,(fK.same s3).same s4,b0,cR,dd,λbP s5 ada a ax aV AZ asV=>?_);have dK:=ada cR;have Km:=YZ.trans s5;have sc:aM bP (upd (upd bP ax (.own a)) a (.ins t.gh ax [])):=((aM.refl bP).hE AZ).hE aV;refine(a,ax,c,n,ds,d5,qs,ms,rows,rfl,db,(C.same Km).same sc,a5,b1,(((fK.same s3).same s4).same s5).same sc,b0,sW,(dK.upd).upd,λeX eo i9 c8=>(rfl,?_));exact mz a eX (zI (Km.trans sc) eo (Km.free aV)) i9 c8
def Vd(P:Program)(w:World)(t:bQ):bV:=λvs H Q _=>∃a c n ds rows,∃i j:Nat,∃r s,vs=[⇑a,.int i,.int j]/\fC P w t H a c n ds rows/\rows[i]?\r/\rows[j]?\s/\i≠j/\aF H/\∀v,qi (jV n ds r.mem s.mem) v->Q (.int v) H
def wT(P:Program)(w:World)(t:bQ):bV:=λvs H Q _=>∃a c n ds rows,∃i j:Nat,∃r s,vs=[⇑a,.int i,.int j]/\fC P w t H a c n ds rows/\rows[i]?\r/\rows[j]?\s/\i≠j/\∀v I,aM H I->qi (jV n ds r.mem s.mem) v->Q (.int v) I
def z7:cu P base T 1 t.E8 t.C_ Ay (Vd P w t):=by
 refine cT.forget (sp:=wT P w t) ?_ λvs H Q E h=>?_
 .exists T.vz.ok aj_,9
  let(a,c,n,ds,rows,i,j,r,aj,rfl,(ax,le,mo,cW,cH,aU,ch,ms,kvs,au,_,_,_,_,_,_,asu,rp),ai,aI,lI,q):=h;have bJ:=h9 ao;let(v,aK,tE):=rp.2 i j r aj ai aI lI (.inl (b5.mp ai).1);refine(_,(aY (cp (BT bJ (br (U 0) rfl) (oA (ah (U 1) (ah (U 2) aA))) (λ_ _=>rfl)))),?_);nofun;exact(_,Yg T au,∅,λp aq=>(ch,rfl,kvs,Nx asu (a_ aq),stK i j,db,_,aK,q v _ (a_ aq) tE))
 .let(a,c,n,ds,rows,i,j,r,aj,rfl,c8,ai,aI,lI,bz,q):=h;exact(bz,a,c,n,ds,rows,i,j,r,aj,rfl,c8,ai,aI,lI,λv I bb aK=>(bb,q v aK))
noncomputable abbrev nW:List Str:=[ab "stages",ab "showing",ab "lasted",ab "left",ab "sought",ab "gone",ab "waiting",ab "picked"]
noncomputable def gd(aG:Addr)(b4:V)(bt lf bA cS:Int)(aJ a4:Addr):List (Str×V):=[(p'p (ab "stages") (V.ref aG)),(p'p (ab "showing") b4),(p'p (ab "lasted") (V.int bt)),(p'p (ab "left") (V.int lf)),(p'p (ab "sought") (V.int bA)),(p'p (ab "gone") (V.int cS)),(p'p (ab "waiting") (V.ref aJ)),(p'p (ab "picked") (V.ref a4))]
def j8(aG:Addr)(b4:V)(bt lf bA cS:Int)(aJ a4:Addr):(gd aG b4 bt lf bA cS aJ a4).map (·.1)=nW:=rfl
def Xe(aG:Addr)(b4:V)(bt lf bA cS:Int)(aJ a4:Addr)(v:V):dg (ab "showing") v (gd aG b4 bt lf bA cS aJ a4)=gd aG v bt lf bA cS aJ a4:=by
 unfold gd;simp only[dg];rw[if_neg ∅];rfl
def V1(aG:Addr)(b4:V)(bt lf bA cS:Int)(aJ a4:Addr)(v:Int):dg (ab "lasted") (.int v) (gd aG b4 bt lf bA cS aJ a4)=gd aG b4 v lf bA cS aJ a4:=by
 unfold gd;simp only[dg];rw[if_neg ∅,if_neg ∅];rfl
def ak6(aG:Addr)(b4:V)(bt lf bA cS:Int)(aJ a4:Addr)(v:Int):dg (ab "left") (.int v) (gd aG b4 bt lf bA cS aJ a4)=gd aG b4 bt v bA cS aJ a4:=by
 unfold gd;simp only[dg];rw[if_neg ∅,if_neg ∅,if_neg ∅];rfl
def amV(aG:Addr)(b4:V)(bt lf bA cS:Int)(aJ a4:Addr)(v:Int):dg (ab "sought") (.int v) (gd aG b4 bt lf bA cS aJ a4)=gd aG b4 bt lf v cS aJ a4:=by
 unfold gd;simp only[dg];rw[if_neg ∅,if_neg ∅,if_neg ∅,if_neg ∅];rfl
def aaq(aG:Addr)(b4:V)(bt lf bA cS:Int)(aJ a4:Addr)(v:Int):dg (ab "gone") (.int v) (gd aG b4 bt lf bA cS aJ a4)=gd aG b4 bt lf bA v aJ a4:=by
 unfold gd;simp only[dg];rw[if_neg ∅,if_neg ∅,if_neg ∅,if_neg ∅,if_neg ∅];rfl
section
variable{w:World}{K:bq}{mg:Str->Option Value}{t:bQ}{H:aw}{a c ax le mo cW cH aU ch:Addr}{k:Nat}
def Bv(T:Txt w K mg t)(e:H a\(.ins t.gh ax (mR c k le mo cW cH aU ch))):fG K H a (ab "crossing") ⇑c:=(_,ax,_,e,T.k8,T.aaE,fX rS 0 (tf ..) ∅ rfl)
def p8(T:Txt w K mg t)(e:H a\(.ins t.gh ax (mR c k le mo cW cH aU ch))):fG K H a (ab "sorts") ⇑cH:=(_,ax,_,e,T.k8,T.Zy,fX rS 5 (tf ..) ∅ rfl)
def A5(T:Txt w K mg t)(e:H a\(.ins t.gh ax (mR c k le mo cW cH aU ch))):fG K H a (ab "homes") ⇑aU:=(_,ax,_,e,T.k8,T.ZU,fX rS 6 (tf ..) ∅ rfl)
end
def p6{m:Str}(aG:Addr)(b4:V)(bt lf bA cS:Int)(aJ a4:Addr)(h:nW.contains m=false):(gd aG b4 bt lf bA cS aJ a4).lookup m=none:=wL nW (j8 ..) h
section
variable{w:World}{K:bq}{mg:Str->Option Value}{t:bQ}{H:aw}{k aG ax aJ a4:Addr}{b4:V}{bt lf bA cS:Int}
def kT(T:Txt w K mg t)(e:H k\(.ins t.dN ax (gd aG b4 bt lf bA cS aJ a4))):fG K H k (ab "stages") ⇑aG:=(_,ax,_,e,T.fA,T.Zu,fX nW 0 (j8 ..) ∅ rfl)
def ta(T:Txt w K mg t)(e:H k\(.ins t.dN ax (gd aG b4 bt lf bA cS aJ a4))):fG K H k (ab "showing") b4:=(_,ax,_,e,T.fA,T.Cf,fX nW 1 (j8 ..) ∅ rfl)
def Ag(T:Txt w K mg t)(e:H k\(.ins t.dN ax (gd aG b4 bt lf bA cS aJ a4))):fG K H k (ab "waiting") ⇑aJ:=(_,ax,_,e,T.fA,T.QX,fX nW 6 (j8 ..) ∅ rfl)
def KA(T:Txt w K mg t)(e:H k\(.ins t.dN ax (gd aG b4 bt lf bA cS aJ a4))):fG K H k (ab "picked") ⇑a4:=(_,ax,_,e,T.fA,T.S5,fX nW 7 (j8 ..) ∅ rfl)
def Ze(T:Txt w K mg t)(e:H k\(.ins t.dN ax (gd aG b4 bt lf bA cS aJ a4))):fG K H k (ab "lasted") (.int bt):=(_,ax,_,e,T.fA,T.GW,fX nW 2 (j8 ..) ∅ rfl)
def LC(T:Txt w K mg t)(e:H k\(.ins t.dN ax (gd aG b4 bt lf bA cS aJ a4))):fG K H k (ab "left") (.int lf):=(_,ax,_,e,T.fA,T.Tl,fX nW 3 (j8 ..) ∅ rfl)
def pp(T:Txt w K mg t)(e:H k\(.ins t.dN ax (gd aG b4 bt lf bA cS aJ a4))):fG K H k (ab "sought") (.int bA):=(_,ax,_,e,T.fA,T.Mm,fX nW 4 (j8 ..) ∅ rfl)
def Ji(T:Txt w K mg t)(e:H k\(.ins t.dN ax (gd aG b4 bt lf bA cS aJ a4))):fG K H k (ab "gone") (.int cS):=(_,ax,_,e,T.fA,T.BN,fX nW 5 (j8 ..) ∅ rfl)
end
section
variable{w:World}{K:bq}{mg:Str->Option Value}{t:bQ}{H:aw}{a c ax le mo cW cH aU ch:Addr}{k:Nat}
def Pu(T:Txt w K mg t)(e:H a\(.ins t.gh ax (mR c k le mo cW cH aU ch))):fG K H a (ab "leasts") ⇑le:=(_,ax,_,e,T.k8,T.UP,fX rS 2 (tf ..) ∅ rfl)
def ZE(T:Txt w K mg t)(e:H a\(.ins t.gh ax (mR c k le mo cW cH aU ch))):fG K H a (ab "mosts") ⇑mo:=(_,ax,_,e,T.k8,T.Wn,fX rS 3 (tf ..) ∅ rfl)
end
theorem fC.same{w:World}{t:bQ}{a c:Addr}{rows:List ST}(h:fC P w t H a c n ds rows)(s:aM H I):fC P w t I a c n ds rows:=by
 let(ax,le,mo,cW,cH,aU,ch,ms,kvs,au,aE,bI,ec,gm,ez,g5,j1,jn):=h;exact(ax,le,mo,cW,cH,aU,ch,ms,kvs,s _ _ au,aE.same s,s _ _ bI,s _ _ ec,gm.same s,s _ _ ez,s _ _ g5,Nx j1 s,jn)
noncomputable abbrev dw:Str:=ab "trams"
noncomputable abbrev iT:Str:=ab "others"
structure fx where
 b4:Option Nat
 bt:Int
 lf:Nat
 bA:Nat
 cS:Int
 wt:List Str
 pt:Int
 po:Int
noncomputable def r7:Option Nat->V
 |none=>.cF
 |some i=>.int (i:Nat)
noncomputable def g0(xs:List Str):List (Key×V):=xs.map λx=>(p'p (bO x) (V.bG true))
noncomputable def nT(a b:Int):List (Key×V):=[(p'p (bO dw) (.int a)),(p'p (bO iT) (.int b))]
def fz(t:bQ)(H:aw)(k aG aJ a4:Addr)(s:fx):Prop:=aJ≠a4/\∃ax,H k\(.ins t.dN ax (gd aG (r7 s.b4) s.bt s.lf s.bA s.cS aJ a4))/\H aJ\(.bu (g0 s.wt))/\H a4\(.bu (nT s.pt s.po))
def fz.same{t:bQ}{k aG aJ a4:Addr}(h:fz t H k aG aJ a4 s)(e:aM H I):fz t I k aG aJ a4 s:=by
 let(h0,ax,af,ak,a8):=h;exact(h0,ax,e _ _ af,e _ _ ak,e _ _ a8)
def Pi(k aJ a4:Addr)(H I:aw):Prop:=∀b u,b≠k->b≠aJ->b≠a4->H b\u->I b\u
def Pi.trans{k aJ a4:Addr}(a:Pi k aJ a4 H H1)(b:Pi k aJ a4 H1 ar):Pi k aJ a4 H ar:=λc u x y z e=>b c u x y z (a c u x y z e)
def Pi.of{k aJ a4:Addr}(a:aM H H1):Pi k aJ a4 H H1:=λc u _ _ _ e=>a c u e
def Pi.zE{k aJ a4:Addr}(a:Pi k aJ a4 H H1)(s:aM b6 H)(af:b6 k=none)(ak:b6 aJ=none)(a8:b6 a4=none):aM b6 H1:=λc u e=>a c u (dF e af) (dF e ak) (dF e a8) (s c u e)
def ae8:uY [] [(p'p (bO dw) (V.int (-1))),(p'p (bO iT) (V.int (-1)))]=nT (-1) (-1):=by
 have h:(bO dw:Key)≠bO iT:=λz=>absurd (sg z) ∅
 simp[uY,d8,nT,h]
def UB(h:s=dw\/s=iT):d8 (nT a b) (bO s) (.int v)=nT (if s=dw then v else a) (if s=dw then b else v):=by
 have af:dw≠iT:=∅
 rcases h with rfl|rfl
 .simp [d8,nT,af,af.symm]
 .simp [d8,nT,af,af.symm]
def adX(h:s=dw\/s=iT):df (nT a b) (bO s)\(.int (if s=dw then a else b)):=by
 have af:dw≠iT:=∅
 rcases h with rfl|rfl
 .simp [df,nT,af,af.symm]
 .simp [df,nT,af,af.symm]
theorem ap9(xs:List Str)(x:Str):(df (g0 xs) (bO x)).isSome=decide (x∈xs):=by
 rw[m8,decide_eq_true_eq]
 induction xs with
 |nil=>simp[g0,df]
 | cons y ys c4=>
  by_cases c:y=x
  .simp [g0,df,c]
  .have c':x≠y:=λz=>c z.symm
   simp only[g0,df,es,pC]at c4⊢;simp[c,c']at c4⊢
   try exact c4
noncomputable def zw(ds:List bf)(r:ST):fx:=(some 0,1,0,0,0,[],if dj ds r=dw then 0 else -1,if dj ds r=dw then -1 else 0)
noncomputable def w7(rows:List ST)(i:Nat)(x:Str):Str:=if kH rows x\i then ab "free" else ab "stop"
section
variable(P:Program)(w:World)
def ZO(t:bQ):bV:=λvs H Q _=>∃k ax aG c n ds rows r,vs=[⇑k,⇑aG]/\H k\(.ins t.dN ax [])/\fC P w t H aG c n ds rows/\rows[0]?\r/\(dj ds r=dw\/dj ds r=iT)/\aF H/\∀aJ a4 I,da k H I->aF I->H aJ=none->H a4=none->fz t I k aG aJ a4 (zw ds r)->Q .cF I
def aml(t:bQ):bV:=λvs H Q _=>∃k aG aJ a4 s,∃i:Nat,∃c n ds rows,∃d:bf,vs=[⇑k,.str d.name]/\fz t H k aG aJ a4 s/\s.b4\i/\fC P w t H aG c n ds rows/\told rows d.name=true/\Q (.str (w7 rows i d.name)) H
end
theorem asG:cu P base T 1 t.zQ t.GF sf (ZO P w t):=by
 exists T.Qx.ok arQ,9
 let(k,ax,aG,c,n,ds,rows,r,rfl,aB,c8,h0,oR,bz,q):=h;let(iL,le,mo,cW,cH,aU,ch,ms,kvs,au,C,bI,ec,gm,ez,g5,j1,jn):=c8;have bJ:=h9 ao;refine(_,(aP (eW (U 0) (U 1) rfl)
   (aP (eW (U 0) aR rfl)
   (aP (eW (U 0) aR rfl)
   (aP (eW (U 0) aR rfl)
   (aP (eW (U 0) aR rfl)
   (aP (eW (U 0) aR rfl)
   (aP (eW (U 0) vl rfl)
   (aP (eW (U 0) (abp (Rr dW (si ry aR) (Rr dW (si ry aR) agB)) rfl rfl (by simp) ∅) rfl)
   (aY (r3 bJ (br (U 0) rfl) (cj dp (br (U 1) rfl) aR) aR rfl)))))))))),?_)
 exists (λav I=>da k H I/\aF I/\I k\(.ins t.dN ax [(p'p (ab "stages") (V.ref aG))])/\av=[~~~k,~~~aG]),5
 .nofun;refine(_,_,_,aB,T.fA,T.Zu,((∅:(0:Nat)<1000)),?_);rw[show dg (ab "stages") (V.ref aG) ([]:List (Str×V))=[(p'p (ab "stages") (V.ref aG))]from gi [] rfl ∅];exact c2 _ _ (λb u aa e=>by rw[aD aa];exact e,bz.upd,db,rfl)
 intro fo H1 (cz,cK,a1,rfl);subst aS;exists (λav I=>da k H I/\aF I/\I k\(.ins t.dN ax [(p'p (ab "stages") (V.ref aG)),(p'p (ab "showing") (V.int 0))])/\av=[~~~k,~~~aG]),5
 .nofun;refine(_,_,_,a1,T.fA,T.Cf,((∅:(1:Nat)<1000)),?_);rw[show dg (ab "showing") (V.int 0) ([(p'p (ab "stages") (V.ref aG))]:List (Str×V))=[(p'p (ab "stages") (V.ref aG)),(p'p (ab "showing") (V.int 0))]from gi [ab "stages"] rfl ∅];exact c2 _ _ (λb u aa e=>by rw[aD aa];exact cz _ _ aa e,cK.upd,db,rfl)
 intro cv ar (ef,cC,a2,rfl);subst aS;exists (λav I=>da k H I/\aF I/\I k\(.ins t.dN ax [(p'p (ab "stages") (V.ref aG)),(p'p (ab "showing") (V.int 0)),(p'p (ab "lasted") (V.int 1))])/\av=[~~~k,~~~aG]),5
 .nofun;refine(_,_,_,a2,T.fA,T.GW,((∅:(2:Nat)<1000)),?_);rw[show dg (ab "lasted") (V.int 1) ([(p'p (ab "stages") (V.ref aG)),(p'p (ab "showing") (V.int 0))]:List (Str×V))=[(p'p (ab "stages") (V.ref aG)),(p'p (ab "showing") (V.int 0)),(p'p (ab "lasted") (V.int 1))]from gi [ab "stages",ab "showing"] rfl ∅];exact c2 _ _ (λb u aa e=>by rw[aD aa];exact ef _ _ aa e,cC.upd,db,rfl)
 intro fJ a' (fU,dc,eu,rfl);subst aS;exists (λav I=>da k H I/\aF I/\I k\(.ins t.dN ax [(p'p (ab "stages") (V.ref aG)),(p'p (ab "showing") (V.int 0)),(p'p (ab "lasted") (V.int 1)),(p'p (ab "left") (V.int 0))])/\av=[~~~k,~~~aG]),5
 .nofun;refine(_,_,_,eu,T.fA,T.Tl,((∅:(3:Nat)<1000)),?_);rw[show dg (ab "left") (V.int 0) ([(p'p (ab "stages") (V.ref aG)),(p'p (ab "showing") (V.int 0)),(p'p (ab "lasted") (V.int 1))]:List (Str×V))=[(p'p (ab "stages") (V.ref aG)),(p'p (ab "showing") (V.int 0)),(p'p (ab "lasted") (V.int 1)),(p'p (ab "left") (V.int 0))]from gi [ab "stages",ab "showing",ab "lasted"] rfl ∅];exact c2 _ _ (λb u aa e=>by rw[aD aa];exact fU _ _ aa e,dc.upd,db,rfl)
 intro jT cb (dr,cR,me,rfl);subst aS;exists (λav I=>da k H I/\aF I/\I k\(.ins t.dN ax [(p'p (ab "stages") (V.ref aG)),(p'p (ab "showing") (V.int 0)),(p'p (ab "lasted") (V.int 1)),(p'p (ab "left") (V.int 0)),(p'p (ab "sought") (V.int 0))])/\av=[~~~k,~~~aG]),5
 .nofun;refine(_,_,_,me,T.fA,T.Mm,((∅:(4:Nat)<1000)),?_);rw[show dg (ab "sought") (V.int 0) ([(p'p (ab "stages") (V.ref aG)),(p'p (ab "showing") (V.int 0)),(p'p (ab "lasted") (V.int 1)),(p'p (ab "left") (V.int 0))]:List (Str×V))=[(p'p (ab "stages") (V.ref aG)),(p'p (ab "showing") (V.int 0)),(p'p (ab "lasted") (V.int 1)),(p'p (ab "left") (V.int 0)),(p'p (ab "sought") (V.int 0))]from gi [ab "stages",ab "showing",ab "lasted",ab "left"] rfl ∅];exact c2 _ _ (λb u aa e=>by rw[aD aa];exact dr _ _ aa e,cR.upd,db,rfl)
 intro nL bP (ed,dK,q6,rfl);subst aS;exists (λav I=>da k H I/\aF I/\I k\(.ins t.dN ax [(p'p (ab "stages") (V.ref aG)),(p'p (ab "showing") (V.int 0)),(p'p (ab "lasted") (V.int 1)),(p'p (ab "left") (V.int 0)),(p'p (ab "sought") (V.int 0)),(p'p (ab "gone") (V.int 0))])/\av=[~~~k,~~~aG]),5
 .nofun;refine(_,_,_,q6,T.fA,T.BN,((∅:(5:Nat)<1000)),?_);rw[show dg (ab "gone") (V.int 0) ([(p'p (ab "stages") (V.ref aG)),(p'p (ab "showing") (V.int 0)),(p'p (ab "lasted") (V.int 1)),(p'p (ab "left") (V.int 0)),(p'p (ab "sought") (V.int 0))]:List (Str×V))=[(p'p (ab "stages") (V.ref aG)),(p'p (ab "showing") (V.int 0)),(p'p (ab "lasted") (V.int 1)),(p'p (ab "left") (V.int 0)),(p'p (ab "sought") (V.int 0)),(p'p (ab "gone") (V.int 0))]from gi [ab "stages",ab "showing",ab "lasted",ab "left",ab "sought"] rfl ∅];exact c2 _ _ (λb u aa e=>by rw[aD aa];exact ed _ _ aa e,dK.upd,db,rfl)
 intro mP eX (cL,i9,mC,rfl);subst aS;exists (λav I=>da k H I/\aF I/\∃aJ,H aJ=none/\I k\(.ins t.dN ax [(p'p (ab "stages") (V.ref aG)),(p'p (ab "showing") (V.int 0)),(p'p (ab "lasted") (V.int 1)),(p'p (ab "left") (V.int 0)),(p'p (ab "sought") (V.int 0)),(p'p (ab "gone") (V.int 0)),(p'p (ab "waiting") (V.ref aJ))])/\I aJ\(.bu [])/\av=[~~~k,~~~aG]),5
 .nofun;intro aJ ra;have VX:aJ≠k:=λz=>by rw[z,mC]at ra;cases ra
  have hH:H aJ=none:=by
   cases e:H aJ with
   |none=>rfl
   |some u=>have:=cL _ _ VX e;rw[ra]at this;cases this
  refine(_,_,_,(a_ ra) _ _ mC,T.fA,T.QX,((∅:(6:Nat)<1000)),?_);rw[show dg (ab "waiting") (V.ref aJ) ([(p'p (ab "stages") (V.ref aG)),(p'p (ab "showing") (V.int 0)),(p'p (ab "lasted") (V.int 1)),(p'p (ab "left") (V.int 0)),(p'p (ab "sought") (V.int 0)),(p'p (ab "gone") (V.int 0))]:List (Str×V))=[(p'p (ab "stages") (V.ref aG)),(p'p (ab "showing") (V.int 0)),(p'p (ab "lasted") (V.int 1)),(p'p (ab "left") (V.int 0)),(p'p (ab "sought") (V.int 0)),(p'p (ab "gone") (V.int 0)),(p'p (ab "waiting") (V.ref aJ))]from gi [ab "stages",ab "showing",ab "lasted",ab "left",ab "sought",ab "gone"] rfl ∅];exact c2 _ _ (λb u aa e=>by rw[aD aa];exact(a_ ra) _ _ (cL _ _ aa e),i9.upd.upd,aJ,hH,db,by rw[aD VX];exact db,rfl)
 intro kR eL (di,gr,aJ,hH,o2,ym,rfl);subst aS;exists (λav I=>da k H I/\aF I/\∃a4,I k\(.ins t.dN ax (gd aG (.int 0) 1 0 0 0 aJ a4))/\I aJ\(.bu [])/\I a4\(.bu (nT (-1) (-1)))/\a4≠aJ/\H a4=none/\av=[~~~k,~~~aG]),5
 .nofun;simp only[G2];nofun;intro a4 oF;have wj:a4≠k:=λz=>by rw[z,o2]at oF;cases oF
  have iR:a4≠aJ:=λz=>by rw[z,ym]at oF;cases oF
  have hJ:H a4=none:=by
   cases e:H a4 with
   |none=>rfl
   |some u=>have:=di _ _ wj e;rw[oF]at this;cases this
  refine(db,[(p'p (bO (ab "trams")) (.int (-1))),(p'p (bO (ab "others")) (.int (-1)))],rfl,by show 2<=15;decide,_,_,_,(aD wj.symm).trans ((aD wj.symm).trans o2),T.fA,T.S5,((∅:(7:Nat)<1000)),?_);rw[show dg (ab "picked") (V.ref a4) ([(p'p (ab "stages") (V.ref aG)),(p'p (ab "showing") (V.int 0)),(p'p (ab "lasted") (V.int 1)),(p'p (ab "left") (V.int 0)),(p'p (ab "sought") (V.int 0)),(p'p (ab "gone") (V.int 0)),(p'p (ab "waiting") (V.ref aJ))]:List (Str×V))=gd aG (.int 0) 1 0 0 0 aJ a4 from gi [ab "stages",ab "showing",ab "lasted",ab "left",ab "sought",ab "gone",ab "waiting"] rfl ∅];refine c2 _ _ (λb u aa e=>?_,gr.upd.upd.upd,a4,db,?_,(aD wj).trans (db.trans (congrArg (λx=>some (eH.bu x)) (ae8))),iR,hJ,rfl)
  .have:=di _ _ aa e;rw[aD aa,aD (dF this oF),aD (dF this oF)];exact this
  .rw [aD (bW ym o2 (by intro z;cases z)),aD iR.symm,aD iR.symm];exact ym
 intro vt h6 (d0,mx,a4,tW,DD,WZ,iR,oF,rfl);subst aS;nofun;refine(_,KA T tW,_,p8 T (d0 _ _ (LN aB au) au),_,rfl,_,ay.of (d0 _ _ (bW ez aB (by intro z;cases z)) ez),_,cI (j:=0) (oL (by rw[dv,h0];rfl)),_,rfl,_,jh.k (k:=bO (dj ds r)) WZ (gv (show ↑(nT (-1) (-1))<=2 from bR 2) ∅),q aJ a4 _ (λb u aa e=>?_) mx.upd hH oF (iR.symm,ax,?_,?_,?_))
 .rw [aD (dF e oF)];exact d0 _ _ aa e
 .rw [aD (bW tW WZ (by intro z;cases z))];exact tW
 .rw [aD iR.symm];exact DD
 .rw [db,UB oR];rfl
def al6:cu P base T 1 t.Co t.Jp js (aml P w t):=by
 exists T.VA.ok afJ,9
 let(k,aG,aJ,a4,aj,i,c,n,ds,rows,d,rfl,(_,ax,cn,dz,e0),hq,(iL,le,mo,cW,cH,aU,ch,ms,kvs,au,C,bI,ec,gm,ez,g5,j1,jn),c9,q):=h;have bJ:=h9 ao;let(j,r,aI,aB,kc,_):=pO c9;refine(_,(aY (cp (vM (de fg (l7 bJ (br (br (U 0) rfl) rfl) (U 1) (λ_ _=>rfl)) (br (U 0) rfl) (cO _)) dW dW))),?_);rw[hq]at cn;nofun;have a7:=gw.k (k:=bO d.name) g5;rw[aI]at a7;refine(_,kT T cn,_,rfl,_,A5 T au,_,rfl,_,a7,_,ta T cn,rfl,?_);unfold w7 at q;rw[aB]at q;by_cases hm:j=i
 .rw [if_pos (by rw[hm])]at q;rw[hm,if_pos (show decide (V.int ((i:Nat):Int)=r7 (some i))=true from decide_eq_true rfl)];exact q
 .rw [if_neg (λz=>hm (er z))]at q;rw[if_neg (show ¬decide (V.int ((j:Nat):Int)=r7 (some i))=true from λz=>hm (by have z:=of_decide_eq_true z;injection z with z;omega))];exact q
noncomputable def hv(n:Int)(ds:List bf)(rows:List ST)(i j:Nat):Int:=match rows[i]?,rows[j]? with
 |some r,some s=>((jV n ds r.mem s.mem).max?).getD 0
 |_,_=>0
def NP{rows:List ST}(ai:rows[i]?\r)(aI:rows[j]?\s)(h:qi (jV n ds r.mem s.mem) v):hv n ds rows i j=v:=by
 unfold hv;rw[ai,aI];show((jV n ds r.mem s.mem).max?).getD 0=v;rw[(List.max?_eq_some_iff (xs:=jV n ds r.mem s.mem) (a:=v)).mpr (h.1,h.2)];rfl
noncomputable def wz(n:Int)(ds:List bf)(rows:List ST)(s:fx)(d:bf):Str:=if kH rows d.name\s.lf/\s.cS<m3 d then ab "fade" else if kH rows d.name=some s.bA/\hv n ds rows s.lf s.bA-s.cS<=mK d then ab "ready" else ab "stop"
noncomputable def jq(n:Int)(ds:List bf)(rows:List ST)(s:fx)(d:bf):Str:=match s.b4 with
 |some i=>w7 rows i d.name
 |none=>wz n ds rows s d
section
variable(P:Program)(w:World)
def ary(t:bQ):bV:=λvs H Q _=>∃k aG aJ a4 s c n ds rows,∃i:Nat,∃d:bf,vs=[⇑k,.str d.name]/\fz t H k aG aJ a4 s/\fC P w t H aG c n ds rows/\told rows d.name=true/\ds[i]?\d/\s.lf<↑rows/\s.bA<↑rows/\s.lf≠s.bA/\aF H/\Q (.str (wz n ds rows s d)) H
end
def aqt:cu P base T 3 t.EA t.HP js (ary P w t):=by
 refine cD (qz T) λi7=>cD (z7 T) λsA=>?_;have Pr:om P w K mg base dt 2 (t5 t) "ready" ["self"] (wN t):=y0 (X2 T) ∅;have MG:om P w K mg base dt 2 (t5 t) "fade" ["self"] (xC t):=y0 (R4 T) ∅;exists T.Zs.ok Lb,9
 let(k,aG,aJ,a4,aj,c,n,ds,rows,i,d,rfl,(_,ax,cn,dz,e0),c8,c9,hd,rW,Y_,cA,bz,q):=h;let(iL,le,mo,cW,cH,aU,ch,ms,kvs,au,C,bI,ec,gm,ez,g5,j1,jn):=id c8;have bJ:=h9 ao;let((fS,fP),w2,wl,aH,bc,_,_):=id C;let(j,r,aI,aB,kc,_):=pO c9;have a7:=gw.k (k:=bO d.name) g5;rw[aI]at a7;refine(_,(aP (b8 (i:=2) Lb.aH (e8 (br (br (U 0) rfl) rfl) T.ac T.nE i7 ao T.nO .nil cY (ah (U 1) aA)))
   (aP (b8 (i:=3) Lb.aH (l7 bJ (br (br (U 0) rfl) rfl) (U 1) (λ_ _=>rfl)))
   (aP (d7 (gs.pt (rB (de fg (U 3) (br (U 0) rfl) (cO _)) (sd (de l4 (br (U 0) rfl) (Cy (U 2) MG ao cY) (cO _))))) (aY (cp dW)) eA)
   (aP (d7 (gs.pt (rB (de fg (U 3) (br (U 0) rfl) (cO _)) (sd (de aau (bM lC (ck sA ao T.yE T.vz.bp T.za (ah (br (U 0) rfl) (ah (br (U 0) rfl) (ah (br (U 0) rfl) aA)))) (br (U 0) rfl)) (Cy (U 2) Pr ao cY) (cO _))))) (aY (cp dW)) eA)
   (aY (cp dW)))))),?_)
 exists (λav I=>I=H/\∃a,fc t H a d/\av=[~~~k,some (.str d.name),~~~a,none]),5
 .nofun;exact(_,kT T cn,_,rfl,_,Bv T au,_,rfl,_,_,bc,jv _ _ _ ∅,c,n,ds,i,d,rfl,C,hd,λa W=>c2 _ _ (rfl,a,W,rfl))
 intro fo H1 (rfl,a,W,rfl);subst aS;exists (λav I=>I=H1/\av=[~~~k,some (.str d.name),~~~a,some (.int (j:Nat))]),5
 .nofun;exact(_,kT T cn,_,rfl,_,A5 T au,_,rfl,_,a7,c2 _ _ (rfl,rfl))
 intro cv ar (rfl,rfl);let(kl,Le,qV):=id W;subst aS;unfold wz at q;rw[aB]at q;simp only[dx];refine t8 (λav I=>I=ar/\¬(some j\aj.lf/\aj.cS<m3 d)/\av=[~~~k,some (.str d.name),~~~a,some (.int (j:Nat))]) (λgG c2 oc _ _=>?_) ?_
 .refine dC (decide (j=aj.lf)&&decide (aj.cS<m3 d)) (λQ' aX=>?_) (λaa=>?_) (λaa=>?_)
  .nofun;refine(_,LC T cn,rfl,?_);by_cases bT:j=aj.lf
   .rw [decide_eq_true bT,oe]at aX;rw[if_pos (show decide (V.int ((j:Nat):Int)=V.int ((aj.lf:Nat):Int))=true from decide_eq_true (by rw[bT]))];exact(_,Ji T cn,_,_,_,qV,(_,kl,rfl),yS ∅,a,d,rfl,W,rfl,_,rfl,_,rfl,aX)
   .rw [decide_eq_false bT,qj]at aX;rw[if_neg (show ¬decide (V.int ((j:Nat):Int)=V.int ((aj.lf:Nat):Int))=true from λz=>bT (by have z:=of_decide_eq_true z;injection z with z;omega))];exact aX
  .rw [kb,decide_eq_true_eq,decide_eq_true_eq]at aa;rw[if_pos (by rw[aa.1],aa.2)]at q;nofun;rw[oc];exact q
  .simp only[hI];refine c2 _ _ (rfl,λz=>?_,rfl);rw[decide_eq_true (er z.1),decide_eq_true z.2]at aa;cases aa
 intro fJ a' (rfl,I0,rfl);rw[if_neg I0]at q;simp only[dx];refine t8 (λav I=>I=a'/\¬(some j\aj.bA/\hv n ds rows aj.lf aj.bA-aj.cS<=mK d)/\av=[~~~k,some (.str d.name),~~~a,some (.int (j:Nat))]) (λgG c2 oc _ _=>?_) ?_
 .refine dC (decide (j=aj.bA)&&decide (hv n ds rows aj.lf aj.bA-aj.cS<=mK d)) (λQ' aX=>?_) (λaa=>?_) (λaa=>?_)
  .nofun;refine(_,pp T cn,rfl,?_);by_cases bT:j=aj.bA
   .rw [decide_eq_true bT,oe]at aX;rw[if_pos (show decide (V.int ((j:Nat):Int)=V.int ((aj.bA:Nat):Int))=true from decide_eq_true (by rw[bT]))];refine(_,kT T cn,_,LC T cn,_,pp T cn,aG,c,n,ds,rows,aj.lf,aj.bA,_,_,rfl,c8,bj rW,bj Y_,cA,bz,λv aK=>(_,Ji T cn,_,rfl,_,rfl,_,_,_,qV,(_,kl,rfl),yS ∅,a,d,rfl,W,rfl,_,rfl,?_));rw[NP (bj rW) (bj Y_) aK]at aX;exact aX
   .rw [decide_eq_false bT,qj]at aX;rw[if_neg (show ¬decide (V.int ((j:Nat):Int)=V.int ((aj.bA:Nat):Int))=true from λz=>bT (by have z:=of_decide_eq_true z;injection z with z;omega))];exact aX
  .rw [kb,decide_eq_true_eq,decide_eq_true_eq]at aa;rw[if_pos (by rw[aa.1],aa.2)]at q;nofun;rw[oc];exact q
  .simp only[hI];refine c2 _ _ (rfl,λz=>?_,rfl);rw[decide_eq_true (er z.1),decide_eq_true z.2]at aa;cases aa
 intro jT cb (rfl,tC,rfl);rw[if_neg tC]at q;nofun;exact q
def ac5{ds:List bf}(h:(ds.map (·.name)).Nodup){i j:Nat}{d e:bf}(ai:ds[i]?\d)(aI:ds[j]?\e)(z:d.name=e.name):i=j:=by
 let(af,au):=b5.mp ai;let(ak,aE):=b5.mp aI;have e:(ds.map (·.name))[i]'(by simpa using af)=(ds.map (·.name))[j]'(by simpa using ak):=by
  rw[sr,sr,au,aE];exact z
 exact(wM h).mp e
noncomputable def jA(ds:List bf)(f:bf->Str):List (Key×V):=ds.map λd=>(p'p (bO d.name) (V.str (f d)))
def ano{ds:List bf}{f:bf->Str}(h:(ds.map (·.name)).Nodup){i:Nat}{d:bf}(hd:ds[i]?\d):d8 (jA (ds.take i) f) (bO d.name) (.str (f d))=jA (ds.take (i+1)) f:=by
 unfold d8;have no:((jA (ds.take i) f).any λdE=>decide (dE.1=bO d.name))=false:=by
  rw[Jk];intro p aq;unfold jA at aq;let(e,he,rfl):=cf.mp aq;let(j,aI):=g8 he;have hi:=(b5.mp aI).1;rw[ha]at hi;rw[tV ()]at aI;simp only[decide_eq_true_eq];intro z;have:=ac5 h aI hd (sg z);omega
 rw[if_neg (by rw[no];exact fT),i6 hd];unfold jA;rw[ee];rfl
theorem Rf{ds:List bf}{f:bf->Str}(h:(ds.map (·.name)).Nodup){i:Nat}{d:bf}(hd:ds[i]?\d):df (jA ds f) (bO d.name)\(.str (f d)):=by
 have:∀(l:List bf),(l.map (·.name)).Nodup->d∈l->df (jA l f) (bO d.name)\(.str (f d)):=λl=>by
  induction l with
  |nil=>intro _ h;cases h
  | cons x l c4=>
   intro a5 hm;by_cases c:x.name=d.name
   .have:x=d:=by
     rcases d6.mp hm with e|e
     .exact e.symm
     .exact absurd (cf.mpr (d,e,c.symm)) (qQ.mp a5).1
    subst this;simp[df,jA]
   .have n9:d∈l:=by
     rcases d6.mp hm with e|e
     .exact absurd (by rw[e]) c
     .exact e
    have:=c4 (qQ.mp a5).2 n9;simp only[df,jA,es,pC]at this⊢;simp[c]at this⊢;exact this
 exact this ds h (cm hd)
def acp(rows:List ST)(s:fx):Prop:=s.b4=none->s.lf<↑rows/\s.bA<↑rows/\s.lf≠s.bA
def agd(P:Program)(w:World)(t:bQ):bV:=λvs H Q _=>∃k aG aJ a4 s c n ds rows,vs=[⇑k]/\fz t H k aG aJ a4 s/\fC P w t H aG c n ds rows/\(∀d∈ds,told rows d.name=true)/\acp rows s/\aF H/\∀p I,aM H I->aF I->H p=none->I p\(.bu (jA ds (jq n ds rows s)))->Q ⇑p I
theorem SL:cu P base T 4 t.Fv t.NX ["self"] (agd P w t):=by
 refine cD (xS T) λoJ=>cD (al6 T) λaoB=>cD (aqt T) λag4=>?_;exists T.T8.ok O0,9
 let(k,aG,aJ,a4,aj,c,n,ds,rows,rfl,hx,c8,oD,aoz,bz,q):=h;have bJ:=h9 ao;let(_,ax,cn,dz,e0):=id hx;let(iL,le,mo,cW,cH,aU,ch,ms,kvs,au,C,_):=id c8;let((fS,fP),w2,wl,aH,bc,_,_):=id C;refine(_,(aP (b8 (i:=1) O0.aH vl)
   (aP (eY eP rfl (eV (jZ (br (br (U 0) rfl) rfl) T.ac T.be oJ ao T.vB .nil cY)) (b_ (i:=2) O0.aH) (aY (r3 bJ (U 1) (U 2) (vM (de Yd (br (U 0) rfl) uD (cO _)) (e8 (U 0) T.fA T.No aoB ao T.ar' .nil cY (ah (U 2) aA)) (e8 (U 0) T.fA T.aj2 ag4 ao T.io .nil cY (ah (U 2) aA))) rfl)))
   (aY (cp (U 1))))),?_)
 exists (λav I=>aM H I/\aF I/\∃jS,H jS=none/\I jS\(.bu [])/\av=[~~~k,~~~jS,none]),4
 .nofun;exact λjS wu=>b1 _ _ (a_ wu,bz.upd,jS,wu,db,rfl)
 intro fo H1 (s1,cK,jS,wu,dP,rfl);subst aS;nofun;refine(_,kT T (s1 _ _ cn),_,rfl,_,Bv T (s1 _ _ au),_,rfl,_,_,s1 _ _ bc,jv _ _ _ ∅,c,n,ds,rfl,C.same s1,λdZ hZ=>(dZ,rfl,(_,ay.of db),?_));refine d1.list (xs:=a0 (ds.map (·.name))) (λi σ I=>aM H I/\aF I/\I dZ\(.lst (a0 (ds.map (·.name))))/\I jS\(.bu (jA (ds.take i) (jq n ds rows aj)))/\∃y,σ=[~~~k,~~~jS,y]) ?_ ?_ ?_ ?_
 .exact (s1.trans (a_ hZ),cK.upd,db,(a_ hZ) _ _ dP,_,rfl)
 .rintro i σ I ai a9;ac_rfl
  let(_,_,h,_):=a9;subst aS;exact ay.of h
 .rintro i v σ I aK a9;ac_rfl
  let(s2,cC,Ie,wG,y,rfl):=a9;let(x,ag,rfl):=b' aK;let(d,hd,rfl):=b' ag;have v5:=cm hd;have hlen:↑(jA (ds.take i) (jq n ds rows aj))<=12:=by unfold jA;rw[aT,ha];omega
  have xN:upd I jS (.bu (d8 (jA (ds.take i) (jq n ds rows aj)) (bO d.name) (.str (jq n ds rows aj d)))) dZ\(.lst (a0 (ds.map (·.name)))):=by
   rw[aD (bW Ie wG (by intro z;cases z))];exact Ie
  have Gy:upd I jS (.bu (d8 (jA (ds.take i) (jq n ds rows aj)) (bO d.name) (.str (jq n ds rows aj d)))) jS\(.bu (jA (ds.take (i+1)) (jq n ds rows aj))):=by
   rw[db,ano (f:=jq n ds rows aj) fS hd]
  subst aS;nofun;refine(_,ta T (s2 _ _ cn),?_);cases hq:aj.b4 with
  |some BK=>
   have LV:jq n ds rows aj d=w7 rows BK d.name:=by unfold jq;rw[hq]
   rw[LV]at xN Gy;rw[if_pos (by rfl)];exact(_,_,s2 _ _ cn,p6 _ _ _ _ _ _ _ _ ∅,k,aG,aJ,a4,aj,BK,c,n,ds,rows,d,rfl,hx.same s2,hq,c8.same s2,oD d v5,_,jh.k (k:=bO d.name) wG (gv hlen ∅),s2.hE wu,cC.upd,xN,Gy,_,rfl)
  |none=>
   have LV:jq n ds rows aj d=wz n ds rows aj d:=by unfold jq;rw[hq]
   rw[LV]at xN Gy;let(g1,g2,g3):=aoz hq;rw[if_neg (by intro z;cases z)];exact(_,_,s2 _ _ cn,p6 _ _ _ _ _ _ _ _ ∅,k,aG,aJ,a4,aj,c,n,ds,rows,i,d,rfl,hx.same s2,c8.same s2,oD d v5,hd,g1,g2,g3,cC,_,jh.k (k:=bO d.name) wG (gv hlen ∅),s2.hE wu,cC.upd,xN,Gy,_,rfl)
 .rintro σ I a9;ac_rfl
  let(s2,cC,Ie,wG,y,rfl):=a9;have kf:↑(a0 (ds.map (·.name)))=↑ds:=by unfold a0;simp
  subst aS;rw[kf,hO]at wG;nofun;exact q jS I s2 cC wu wG
def dh.XY(hf:H d\(.ei o (.bu kvs)))(aO:↑kvs<=sizeLine)(he:↑zs=↑kvs)
  (az:∀(i:Nat) (k:Key) (v z:V) (N:V->aw->Prop),kvs[i]?\(p'p k v)->zs[i]?\z->N z H->g (d9 k) dM H λcv ar=>Sub dM cv/\b2 cv ar N) (hd:∀p,H p=none->Q ⇑p (upd H p (.lst zs))):dh (O8 d o kvs) g sm b2 dM Q H:=by
 refine dh.of (n:=↑kvs) (λi ys I=>I=H/\ys=zs.take i) aO (rfl,rfl) (λi ys I ai ⟨fb,_⟩=>by subst fb;exact(hf,ai)) (λys I ⟨fb,_⟩=>by subst fb;exact(hf,bR _)) (λi ys I ai ⟨_,e⟩=>by rw[e,ha];omega) (λi ys I x ar ai ⟨au,aE⟩ y=>?_) (λys I ⟨au,aE⟩ p aq=>?_)
 .obtain⟨bI,k,v,aB,ec⟩:=y;subst au bI ec;intro N bo;have fY:i<↑zs:=()
  have ht:zs[i]?\zs[i]:=bj fY;exact az i k v zs[i] (λy cb=>N (ys++[y]) cb) aB ht (bo _ _ (rfl,by rw[aE,oo,ht];rfl))
 .subst au;rw[aE,<- he,hO];exact hd p aq
noncomputable def yt(ds:List bf)(rows:List ST)(x:Str):Str:=(((kH rows x).bind λj=>rows[j]?).map (dj ds)).getD (ab "")
noncomputable def zq(ds:List bf)(rows:List ST)(xs:List Str):Bool:=xs.any λx=>decide (yt ds rows x=dw)
section
variable(P:Program)(w:World)
def aeC(t:bQ):bV:=λvs H Q _=>∃b6 k aG aJ a4 s c n ds rows,vs=[⇑k]/\fz t H k aG aJ a4 s/\fC P w t b6 aG c n ds rows/\aM b6 H/\b6 aJ=none/\(∀x∈s.wt,told rows x=true)/\↑s.wt<=12/\∀I,aM H I->(aF H->aF I)->Q (.bG (zq ds rows s.wt)) I
end
def abR:cu P base T 1 t.BP t.OV ["self"] (aeC P w t):=by
 exists T.Vy.ok ahK,9
 let(b6,k,aG,aJ,a4,aj,c,n,ds,rows,rfl,(_,ax,cn,dz,e0),c8,s0,hH,c9,aN,q):=h;let(iL,le,mo,cW,cH,aU,ch,ms,kvs,au,C,bI,ec,gm,ez,g5,j1,jn):=id c8;have bJ:=h9 ao;refine(_,(aY (cp (fy (arJ rfl) rfl T.afu ah4 (ah (ahJ (hL rfl (F4 (br (U 0) rfl)) (gu (sc:=bx (Gc (top 43) 9)) rfl ∅) (N:=xK) (sel:=[none,some 0]) (gx (M:=["self"]) ∅) (fm.of (λ_ _ _ _=>(b_ (i:=0) (ek (N:=xK) ∅ rfl))) (λ_ _ _ _=>(_,iA,by walk_at "B")) (λ_ _ _ _=>(_,(jt fg (cj dp (br (br (U 1) rfl) rfl) (l7 bJ (br (br (U 1) rfl) rfl) (U 0) (λ_ _=>rfl))) dW (cO _)),by walk_at "B"))))) aA)))),?_);nofun;refine(aJ,_,dz,_,Ag T cn,_,rfl,_,dz,λo=>?_);have gz:↑(g0 aj.wt)=↑aj.wt:=by unfold g0;rw[aT]
 have qN:aM b6 (upd H aJ (.ei o (.bu (g0 aj.wt)))):=λb u e=>by rw[aD (dF e hH)];exact s0 _ _ e
 have Gz:(upd H aJ (.ei o (.bu (g0 aj.wt)))) k\(.ins t.dN ax (gd aG (r7 aj.b4) aj.bt aj.lf aj.bA aj.cS aJ a4)):=by rw[aD (bW cn dz (by intro z;cases z))];exact cn
 have ur:(upd H aJ (.ei o (.bu (g0 aj.wt)))) aJ\(.ei o (.bu (g0 aj.wt))):=db;refine dh.XY (zs:=(aj.wt.map λx=>decide (yt ds rows x=dw)).map V.bG) ur (by rw[gz];exact cZ aN ∅) (by rw[aT,aT,gz]) (λi afG v z N aB aO bo=>?_) (λp aq=>?_)
 .unfold g0 at aB;let(x,ag,ex):=b' aB;cases ex;let(b,aa,rfl):=b' aO;let(eR,eb,rfl):=b' aa;rw[ag]at eb;cases eb;let(j,r,aI,fa,kc,_):=pO (c9 x (cm ag));have az:yt ds rows x=dj ds r:=by unfold yt;rw[fa,yV,kc];rfl
  rw[az]at bo;have a7:=gw.k (k:=bO x) (qN _ _ g5);rw[aI]at a7;nofun;refine(Sub.name,_,kT T Gz,_,rfl,_,p8 T (qN _ _ au),_,kT T Gz,_,rfl,_,A5 T (qN _ _ au),_,rfl,_,a7,_,rfl,_,_,rfl,ay.of (qN _ _ ez),_,cI (oL (by rw[dv,kc];rfl)),rfl,?_);rw[show decide (V.str (dj ds r)=V.str (ab "trams"))=decide (dj ds r=dw)from decide_eq_decide.mpr (λz=>by injection z,λz=>by rw[z])];exact bo
 .have iR:p≠aJ:=λz=>by rw[z,ur]at aq;cases aq
  have D6:H p=none:=by rw[aD iR]at aq;exact aq
  refine(o,by rw[aD (dm iR)];exact ur,p,rfl,_,ay.of (by rw[aD iR];exact db),?_);have he:((aj.wt.map λx=>decide (yt ds rows x=dw)).any id)=zq ds rows aj.wt:=by unfold zq;rw[Yc];rfl
  rw[he];refine q _ (λb u e=>?_) (λz=>((z.upd).upd).upd);by_cases bT:b=aJ
  .subst bT;rw[dz]at e;cases e;exact db
  .rw [aD bT,aD (dF e D6),aD bT];exact e
noncomputable def tD(ds:List bf)(rows:List ST)(s:fx)(r:ST)(own:Bool):Bool:=s.wt.isEmpty||decide (s.bt<r.lo)||(decide (s.bt<r.ai)&&own && !zq ds rows s.wt)
def ahX(P:Program)(w:World)(t:bQ):bV:=λvs H Q _=>∃b6 k aG aJ a4 s c n ds rows,∃i:Nat,∃r own,vs=[⇑k,.bG own]/\fz t H k aG aJ a4 s/\s.b4\i/\rows[i]?\r/\fC P w t b6 aG c n ds rows/\aM b6 H/\b6 aJ=none/\(∀x∈s.wt,told rows x=true)/\↑s.wt<=12/\∀I,aM H I->(aF H->aF I)->Q (.bG (tD ds rows s r own)) I
theorem IN:cu P base T 2 t.FA t.bi sO (ahX P w t):=by
 refine cD (abR T) λahz=>?_;exists T.Yb.ok agv,9
 let(b6,k,aG,aJ,a4,aj,c,n,ds,rows,i,r,own,rfl,hx,hq,iX,c8,s0,hH,c9,aN,q):=h;let(_,ax,cn,dz,e0):=id hx;let(iL,le,mo,cW,cH,aU,ch,ms,kvs,au,C,bI,ec,gm,ez,g5,j1,jn):=id (c8.same s0);have bJ:=h9 ao;have nt:=cn;rw[hq]at nt;refine(_,(aP (d7 (gs.pt (ux (BB (Gm (br (U 0) rfl) (λ_=>rfl))) (yh (de l4 (br (U 0) rfl) (cj dp (br (br (U 0) rfl) rfl) (br (U 0) rfl)) (cO _))))) (aY (cp nF)) eA)
   (aY (cp (zN (jt l4 (br (U 0) rfl) (cj dp (br (br (U 0) rfl) rfl) (br (U 0) rfl)) (cO _)) (zN (U 1) (wK (U1 (jZ (U 0) T.fA T.aeA ahz ao T.apf .nil cY)))))))),?_)
 simp only[dx];refine t8 (λav I=>I=H/\(aj.wt.isEmpty||decide (aj.bt<r.lo))=false/\av=[~~~k,some (.bG own)]) (λgG c2 oc _ _=>?_) ?_
 .refine dC (aj.wt.isEmpty||decide (aj.bt<r.lo)) (λQ' aX=>?_) (λaa=>?_) (λaa=>?_)
  .nofun;refine(_,Ag T cn,!aj.wt.isEmpty,.inr (.inr (_,dz,?_)),?_)
   .cases aj.wt <;> rfl
   .cases Bd:aj.wt.isEmpty with
    |true=>
     rw[Bd]at aX;exact aX
    |false=>
     rw[Bd,nY]at aX;exact(_,Ze T cn,_,kT T cn,_,rfl,_,Pu T au,_,ta T nt,_,rfl,_,_,rfl,ay.of bI,_,cI (by rw[dv,iX];rfl),_,rfl,_,rfl,aX)
  .nofun;rw[oc];have:=q H (aM.refl H) (λz=>z);unfold tD at this;rw[aa,we]at this;exact this
  .simp only[hI];exact c2 _ _ (rfl,aa,rfl)
 intro fo H1 (rfl,aa,rfl);unfold tD at q;rw[aa]at q;nofun;refine(_,Ze T cn,_,kT T cn,_,rfl,_,ZE T au,_,ta T nt,_,rfl,_,_,rfl,ay.of ec,_,cI (by rw[dv,iX];rfl),_,rfl,_,rfl,?_);by_cases bT:aj.bt<r.ai
 .rw[if_pos (decide_eq_true bT)];rw[decide_eq_true bT,oe,nY]at q;cases own with
  |true=>
   rw[if_pos rfl];rw[oe]at q;exact(_,_,cn,p6 _ _ _ _ _ _ _ _ ∅,b6,k,aG,aJ,a4,aj,c,n,ds,rows,rfl,hx,c8,s0,hH,c9,aN,λI s1 cK=>(_,rfl,q I s1 cK))
  |false=>
   rw[if_neg fT];rw[qj]at q;exact q _ (aM.refl _) (λz=>z)
 .rw [if_neg (by simpa using bT)];rw[decide_eq_false bT,qj,qj,nY]at q;exact q _ (aM.refl _) (λz=>z)
noncomputable def oX(n:Int)(ds:List bf)(rows:List ST)(s:fx)(m:List Str):fx:=if s.cS<hv n ds rows s.lf s.bA then s else {s with b4:=some s.bA,bt:=1,wt:=s.wt.filter λx=>!decide (x∈m)}
def af8(ys:List Str)(x:Str):tR (g0 ys) (bO x)=g0 (ys.filter λy=>decide (y≠x)):=by
 unfold tR g0;rw[List.filter_map];congr 1;refine alT λy _=>?_
 show decide ((bO y:Key)≠bO x)=decide (y≠x);exact decide_eq_decide.mpr (λz e=>z (by rw[e]),λz e=>z (sg e))
def ajJ{ms wt:List Str}{x:Str}(ag:ms[i]?\x):(wt.filter λy=>!decide (y∈ms.take (i+1)))=(wt.filter λy=>!decide (y∈ms.take i)).filter λy=>decide (y≠x):=by
 rw[i6 ag,List.filter_filter];refine alT λy _=>?_
 rw[m8];simp;exact(λz=>(z.2,z.1),λz=>(z.2,z.1))
def amO(P:Program)(w:World)(t:bQ):bV:=λvs H Q _=>∃b6 k aG aJ a4 s c n ds rows r,vs=[⇑k]/\fz t H k aG aJ a4 s/\fC P w t b6 aG c n ds rows/\aM b6 H/\b6 k=none/\b6 aJ=none/\b6 a4=none/\s.lf<↑rows/\rows[s.bA]?\r/\s.lf≠s.bA/\↑r.mem<=12/\aF H/\∀I,Pi k aJ a4 H I->aF I->fz t I k aG aJ a4 (oX n ds rows s r.mem)->Q .cF I
def X0:cu P base T 2 t.DL t.N4 ["self"] (amO P w t):=by
 refine cD (z7 T) λsA=>?_;exists T.aad.ok Za,9
 let(b6,k,aG,aJ,a4,aj,c,n,ds,rows,r,rfl,hx,c8,s0,ke,hH,hJ,rW,iX,cA,oM,bz,q):=h;let(dq,ax,cn,dz,e0):=id hx;let(iL,le,mo,cW,cH,aU,ch,ms,kvs,au,C,bI,ec,gm,ez,g5,j1,jn):=id (c8.same s0);have bJ:=h9 ao;refine(_,(aP (d7 (de l4 (br (U 0) rfl) (ck sA ao T.yE T.vz.bp T.za (ah (br (U 0) rfl) (ah (br (U 0) rfl) (ah (br (U 0) rfl) aA)))) (cO _)) (aY aqx) eA)
   (aP (eW (U 0) (br (U 0) rfl) rfl)
   (aP (eW (U 0) aR rfl)
   (aY (eY eP rfl (eV (cj dp (br (br (U 0) rfl) rfl) (br (U 0) rfl))) (b_ (i:=1) Za.aH) (aY (d3 (aht (br (U 0) rfl) (U 1) uD (rfl,rfl,rfl,rfl))))))))),?_)
 simp only[dx];refine t8 (λav I=>I=H/\¬aj.cS<hv n ds rows aj.lf aj.bA/\av=[~~~k,none]) (λgG c2 oc _ _=>?_) ?_
 .refine dC (decide (aj.cS<hv n ds rows aj.lf aj.bA)) (λQ' aX=>?_) (λaa=>?_) (λaa=>?_)
  .nofun;refine(_,Ji T cn,_,kT T cn,_,LC T cn,_,pp T cn,aG,c,n,ds,rows,aj.lf,aj.bA,_,_,rfl,c8.same s0,bj rW,iX,cA,bz,λv aK=>(_,rfl,_,rfl,?_));rw[NP (bj rW) iX aK]at aX;exact aX
  .nofun;rw[oc];refine q H (Pi.of (aM.refl H)) bz ?_;unfold oX;rw[if_pos (of_decide_eq_true aa)];exact hx
  .simp only[hI];exact c2 _ _ (rfl,of_decide_eq_false aa,rfl)
 intro fo H1 (rfl,aa,rfl);unfold oX at q;rw[if_neg aa]at q;simp only[dx];exists (λav I=>Pi k aJ a4 H1 I/\aF I/\fz t I k aG aJ a4 {aj with b4:=some aj.bA}/\av=[~~~k,none]),2
 .nofun;refine⟨_,pp T cn,_,_,_,cn,T.fA,T.Cf,by rw[<- aT (f:=(·.1)),j8];decide,?_⟩;rw[Xe];exact c2 _ _ (λb u af _ _ e=>by rw[aD af];exact e,bz.upd,(dq,ax,db,by rw[aD (bW dz cn (by intro z;cases z))];exact dz,by rw[aD (bW e0 cn (by intro z;cases z))];exact e0),rfl)
 intro cv ar (ef,cC,(_,vr,a1,a2,eu),rfl);subst aS;simp only[dx];exists (λav I=>Pi k aJ a4 H1 I/\aF I/\fz t I k aG aJ a4 {aj with b4:=some aj.bA,bt:=1}/\av=[~~~k,none]),2
 .nofun;refine⟨_,_,_,a1,T.fA,T.GW,by rw[<- aT (f:=(·.1)),j8];decide,?_⟩;rw[V1];exact c2 _ _ (λb u af ak a8 e=>by rw[aD af];exact ef _ _ af ak a8 e,cC.upd,(dq,vr,db,by rw[aD (bW a2 a1 (by intro z;cases z))];exact a2,by rw[aD (bW eu a1 (by intro z;cases z))];exact eu),rfl)
 intro fJ a' (fU,dc,Du,rfl);let(_,V9,gq,gj,jf):=id Du;have s3:aM b6 a':=fU.zE s0 ke hH hJ;let(QO,atX,atE,auN,wQ,ka,auI,rz,atM,xQ,_,_,_,WC,_):=id c8;have f1:=s3 _ _ xQ;have fw:=WC.same s3;have Zx:(rows.map (·.mem))[aj.bA]?\r.mem:=by rw[dv,iX];rfl
 have zK:aj.bA<↑rz:=by rw[fw.ln];exact(b5.mp Zx).1
 have hm:=bj zK;have Xy:=WC.al _ _ _ hm Zx;have em:=s3 _ _ Xy;subst aS;nofun;refine(_,kT T gq,_,rfl,_,CS T f1,_,pp T gq,_,rfl,_,_,rfl,ay.of fw.at_,_,cI (by rw[dv,hm];rfl),_,rfl,(_,ay.of em),?_);refine d1.list (xs:=a0 r.mem) (λi σ I=>Pi k aJ a4 H1 I/\aF I/\fz t I k aG aJ a4 {aj with b4:=some aj.bA,bt:=1,wt:=aj.wt.filter λy=>!decide (y∈r.mem.take i)}/\∃y,σ=[~~~k,y]) ?_ ?_ ?_ ?_
 .refine (fU,dc,?_,_,rfl);rw[show(aj.wt.filter λy=>!decide (y∈r.mem.take 0))=aj.wt by simp];exact Du
 .rintro i σ I ai a9;ac_rfl
  let(dr,_,_,_):=a9;subst aS;exact ay.of (dr.zE s0 ke hH hJ _ _ Xy)
 .rintro i v σ I aK a9;ac_rfl
  let(dr,cR,(_,wU,bc,bY,oV),y,rfl):=a9;subst aS;unfold a0 at aK;let(x,ag,rfl):=b' aK;have Rx:=ajJ (wt:=aj.wt) ag;nofun;refine(_,Ag T bc,_,rfl,.inl (_,.inl bY),_,bY,bO x,rfl,λv aK=>?_,λaK=>?_)
  .refine (λb u af ak a8 e=>by rw[aD ak];exact dr _ _ af ak a8 e,cR.upd,?_,_,rfl);refine(dq,wU,by rw[aD (bW bc bY (by intro z;cases z))];exact bc,?_,by rw[aD (dm dq)];exact oV);rw[db,af8,<- Rx]
  .refine⟨dr,cR,?_,_,rfl⟩;have sE:x∉aj.wt.filter fun y=>!decide (y∈r.mem.take i):=fun z=>by
    have:=ap9 (aj.wt.filter λy=>!decide (y∈r.mem.take i)) x;rw[aK,decide_eq_true z]at this;cases this
   have ny:(aj.wt.filter λy=>!decide (y∈r.mem.take i)).filter (λy=>decide (y≠x))=aj.wt.filter λy=>!decide (y∈r.mem.take i):=List.filter_eq_self.mpr λy aQ=>decide_eq_true (show y≠x from λz=>sE (by rw[<- z];exact aQ))
   rw[Rx,ny];exact(dq,wU,bc,bY,oV)
 .rintro σ I a9;ac_rfl
  let(dr,cR,uF,y,rfl):=a9;subst aS;rw[gb,hO]at uF;nofun;exact q I dr cR uF
noncomputable def so(s:fx)(i j:Nat)(cH:Str):fx:={s with b4:=none,lf:=i,bA:=j,cS:=0,pt:=if cH=dw then(j:Int)else s.pt,po:=if cH=dw then s.po else(j:Int)}
def alX(P:Program)(w:World)(t:bQ):bV:=λvs H Q _=>∃b6 k aG aJ a4 s c n ds rows,∃i j:Nat,∃r,vs=[⇑k,.int (j:Nat)]/\fz t H k aG aJ a4 s/\s.b4\i/\fC P w t b6 aG c n ds rows/\aM b6 H/\b6 k=none/\b6 aJ=none/\b6 a4=none/\i<↑rows/\rows[j]?\r/\i≠j/\↑r.mem<=12/\(dj ds r=dw\/dj ds r=iT)/\aF H/\∀I,Pi k aJ a4 H I->aF I->fz t I k aG aJ a4 (oX n ds rows (so s i j (dj ds r)) r.mem)->Q .cF I
def aqQ:cu P base T 3 t.CZ t.Pn DS (alX P w t):=by
 refine cD (X0 T) λNY=>?_;exists T.Zr.ok aqU,9
 let(b6,k,aG,aJ,a4,aj,c,n,ds,rows,i,j,r,rfl,hx,hq,c8,s0,ke,hH,hJ,gI,hu,lI,oM,oR,bz,q):=h;let(dq,ax,cn,dz,e0):=id hx;let(iL,le,mo,cW,cH,aU,ch,ms,kvs,au,C,bI,ec,gm,ez,g5,j1,jn):=id (c8.same s0);have bJ:=h9 ao;refine(_,(aP (r3 bJ (br (U 0) rfl) (cj dp (br (br (U 0) rfl) rfl) (U 1)) (U 1) rfl)
   (aP (eW (U 0) (br (U 0) rfl) rfl)
   (aP (eW (U 0) (U 1) rfl)
   (aP (eW (U 0) aR rfl)
   (aP (eW (U 0) uD rfl)
   (aY (d3 (jZ (U 0) T.fA T.Un NY ao T.S0 .nil cY)))))))),?_)
 exists (λav I=>Pi k aJ a4 H I/\aF I/\fz t I k aG aJ a4 {aj with pt:=if dj ds r=dw then(j:Int)else aj.pt,po:=if dj ds r=dw then aj.po else(j:Int)}/\av=[~~~k,some (.int (j:Nat))]),5
 .nofun;refine(_,KA T cn,_,kT T cn,_,rfl,_,p8 T au,_,rfl,_,ay.of ez,_,cI (oL (by rw[dv,hu];rfl)),_,rfl,_,jh.k (k:=bO (dj ds r)) e0 (gv (show ↑(nT aj.pt aj.po)<=2 from bR 2) ∅),c2 _ _ (λb u _ _ a8 e=>by rw[aD a8];exact e,bz.upd,(dq,ax,by rw[aD (bW cn e0 (by intro z;cases z))];exact cn,by rw[aD dq];exact dz,by rw[db,UB oR]),rfl))
 intro fo H1 (cz,cK,(_,ea,a1,gq,bc),rfl);have Vb:=a1;subst aS;rw[show({aj with pt:=if dj ds r=dw then(j:Int)else aj.pt,po:=if dj ds r=dw then aj.po else(j:Int)}:fx).b4\i from hq]at Vb;exists (λav I=>Pi k aJ a4 H I/\aF I/\fz t I k aG aJ a4 {aj with pt:=if dj ds r=dw then(j:Int)else aj.pt,po:=if dj ds r=dw then aj.po else(j:Int),lf:=i}/\av=[~~~k,some (.int (j:Nat))]),5
 .nofun;refine⟨_,ta T Vb,_,_,_,a1,T.fA,T.Tl,by rw[<- aT (f:=(·.1)),j8];decide,?_⟩;rw[show r7 (some i)=V.int (i:Nat)from rfl,ak6];exact c2 _ _ (λb u af ak a8 e=>by rw[aD af];exact cz _ _ af ak a8 e,cK.upd,(dq,ea,db,by rw[aD (bW gq a1 (by intro z;cases z))];exact gq,by rw[aD (bW bc a1 (by intro z;cases z))];exact bc),rfl)
 intro cv ar (ef,cC,(_,ey,a2,gj,bY),rfl);subst aS;exists (λav I=>Pi k aJ a4 H I/\aF I/\fz t I k aG aJ a4 {aj with pt:=if dj ds r=dw then(j:Int)else aj.pt,po:=if dj ds r=dw then aj.po else(j:Int),lf:=i,bA:=j}/\av=[~~~k,some (.int (j:Nat))]),5
 .nofun;refine⟨_,_,_,a2,T.fA,T.Mm,by rw[<- aT (f:=(·.1)),j8];decide,?_⟩;rw[amV];exact c2 _ _ (λb u af ak a8 e=>by rw[aD af];exact ef _ _ af ak a8 e,cC.upd,(dq,ey,db,by rw[aD (bW gj a2 (by intro z;cases z))];exact gj,by rw[aD (bW bY a2 (by intro z;cases z))];exact bY),rfl)
 intro fJ a' (fU,dc,(_,sG,eu,jf,oV),rfl);subst aS;exists (λav I=>Pi k aJ a4 H I/\aF I/\fz t I k aG aJ a4 {aj with pt:=if dj ds r=dw then(j:Int)else aj.pt,po:=if dj ds r=dw then aj.po else(j:Int),lf:=i,bA:=j,cS:=0}/\av=[~~~k,some (.int (j:Nat))]),5
 .nofun;refine⟨_,_,_,eu,T.fA,T.BN,by rw[<- aT (f:=(·.1)),j8];decide,?_⟩;rw[aaq];exact c2 _ _ (λb u af ak a8 e=>by rw[aD af];exact fU _ _ af ak a8 e,dc.upd,(dq,sG,db,by rw[aD (bW jf eu (by intro z;cases z))];exact jf,by rw[aD (bW oV eu (by intro z;cases z))];exact oV),rfl)
 intro jT cb (dr,cR,(_,r8,me,iF,By),rfl);subst aS;exists (λav I=>Pi k aJ a4 H I/\aF I/\fz t I k aG aJ a4 {aj with pt:=if dj ds r=dw then(j:Int)else aj.pt,po:=if dj ds r=dw then aj.po else(j:Int),lf:=i,bA:=j,cS:=0,b4:=none}/\av=[~~~k,some (.int (j:Nat))]),5
 .nofun;refine⟨_,_,_,me,T.fA,T.Cf,by rw[<- aT (f:=(·.1)),j8];decide,?_⟩;rw[Xe];exact c2 _ _ (λb u af ak a8 e=>by rw[aD af];exact dr _ _ af ak a8 e,cR.upd,(dq,r8,db,by rw[aD (bW iF me (by intro z;cases z))];exact iF,by rw[aD (bW By me (by intro z;cases z))];exact By),rfl)
 intro nL bP (ed,dK,wA,rfl);let(_,ati,akk,_,_):=id wA;subst aS;nofun;exact(_,_,akk,p6 _ _ _ _ _ _ _ _ ∅,b6,k,aG,aJ,a4,_,c,n,ds,rows,r,rfl,wA,c8,ed.zE s0 ke hH hJ,ke,hH,hJ,gI,hu,lI,oM,dK,λI eR dX uv=>q I (ed.trans eR) dX uv)
noncomputable abbrev anb:Str:=ab "Keeper.pick"++ab ".<locals>."++ab "<lambda>"
def an0:xI "number" "many" "last" (Tg (Vn (Gc (top 43) 10))):=(rfl,rfl,rfl,∅,rfl,rfl,rfl,∅,∅)
abbrev kz(bL:Addr)(H:aw):Prop:=Tab H bL (Wv (Vn (Gc (top 43) 10))) anb
noncomputable def cE(ds:List bf)(rows:List ST)(j:Nat):Str:=((rows[j]?).map (dj ds)).getD (ab "")
noncomputable def vu(rows:List ST)(x:Str):Nat:=(kH rows x).getD 0
noncomputable def lN(rows:List ST)(s:fx):List Nat:=s.wt.map (vu rows)
noncomputable def nq(ds:List bf)(rows:List ST)(s:fx)(i:Nat):List Nat:=(lN rows s).filter λj=>!decide (cE ds rows j=cE ds rows i)
noncomputable def iv(ds:List bf)(rows:List ST)(s:fx)(i:Nat):List Nat:=if(nq ds rows s i).isEmpty then lN rows s else nq ds rows s i
noncomputable def bv(ds:List bf)(rows:List ST)(s:fx)(ch:List Nat):Int:=if cE ds rows (ch.headD 0)=dw then s.pt else s.po
noncomputable def o7(last many m:Int):Int:=(m-last-1)%many
def CT(ds:List bf)(rows:List ST)(s:fx)(i j:Nat):Prop:=j∈iv ds rows s i/\∀eZ∈iv ds rows s i,o7 (bv ds rows s (iv ds rows s i)) ↑rows j<=o7 (bv ds rows s (iv ds rows s i)) ↑rows eZ
def ami(P:Program)(w:World)(t:bQ)(bL:Addr):bV:=λvs H Q _=>∃b6 k aG aJ a4 s c n ds rows,∃i:Nat,vs=[⇑k]/\fz t H k aG aJ a4 s/\s.b4\i/\i<↑rows/\fC P w t b6 aG c n ds rows/\aM b6 H/\b6 aJ=none/\(∀x∈s.wt,told rows x=true)/\s.wt≠[]/\↑s.wt<=12/\(∀r∈rows,dj ds r=dw\/dj ds r=iT)/\kz bL H/\aF H /\
 ∀(j:Nat) I,lH bL H I->aF I->kz bL I->CT ds rows s i j->Q (.int j) I
def ag0{rows:List ST}{x:Str}(h:told rows x=true):vu rows x<↑rows:=by
 let(j,r,aI,aB,kc,_):=pO h;unfold vu;rw[aB];exact(b5.mp kc).1
def Ep{rows:List ST}(h:∀x∈s.wt,told rows x=true):∀j∈lN rows s,j<↑rows:=λj aI=>by
 let(x,ag,rfl):=cf.mp aI;exact ag0 (h x ag)
def Gx{rows:List ST}(h:∀x∈s.wt,told rows x=true):∀j∈iv ds rows s i,j<↑rows:=λj aI=>by
 unfold iv at aI;split at aI
 .exact Ep h j aI
 .exact Ep h j (i0.mp aI).1
def XW{rows:List ST}(h:s.wt≠[]):iv ds rows s i≠[]:=by
 unfold iv;split
 .unfold lN;simpa using h
 .rename_i af;simpa using af
def sX{rows:List ST}(h:j<↑rows):(rows.map (dj ds))[j]?\(cE ds rows j):=by
 unfold cE;rw[dv,bj h];rfl
noncomputable def bN(nd:List Nat):List V:=nd.map λj=>V.int (j:Nat)
def NE(nd:List Nat):bN nd=oh V.int (nd.map λj=>((j:Nat):Int)):=by
 unfold bN;rw[q3];rfl
theorem FQ(p:Nat->Bool):∀xs:List Nat,((xs.map λx=>if p x=true then some (V.int (x:Nat))else none).flatMap x1)=bN (xs.filter p)
 |[]=>rfl
 |x::xs=>by
  rw[es,y9,FQ p xs];cases h:p x <;> simp[bN,h]
theorem ani(dd:mD base t.tb bL)(g4:base.BuiltinsAt mg bL):cu P base T 2 t.Fb t.Dg ["self"] (ami P w t bL):=by
 have KC:=T.ak';refine T.Rh.US Re (λvs H Q E h=>?_) (λf5 kq A outer s H vs Q E ao h=>?_)
 .let(b6,k,aG,aJ,a4,aj,c,n,ds,rows,i,rfl,_):=h;rfl
 let(b6,k,aG,aJ,a4,aj,c,n,ds,rows,i,rfl,(dq,ax,cn,dz,e0),hq,gI,c8,s0,hH,c9,cA,aN,oR,bS,bz,q):=h;let(iL,le,mo,cW,cH,aU,ch,ms,kvs,au,C,bI,ec,gm,ez,g5,j1,jn):=id c8;have bJ:=h9 ao;refine(_,(aP (MV (xR (i:=1) Re.aH rfl (lY rfl) rfl (F4 (br (U 0) rfl)) (gu (sc:=bx (Gc (top 43) 10)) rfl ∅) (N:=xK) (sel:=[none,some 0]) (gx (M:=Mu) ∅) (fm.of (λ_ _ _ _=>(b_ (i:=0) (ek (N:=xK) ∅ rfl))) (λ_ _ _ _=>(_,iA,by walk_at "B")) (λ_ _ _ _=>(_,(l7 bJ (br (br (U 1) rfl) rfl) (U 0) (λ_ _=>rfl)),by walk_at "B"))) rfl))
   (aP (pG (i:=2) Re.aH rfl (nC rfl) (cj dp (br (br (U 0) rfl) rfl) (br (U 0) rfl)))
   (aP (xR (i:=3) Re.aH rfl (lY rfl) rfl (eV (U 1)) (gu (sc:=bx (Gc (top 43) 10)) rfl ∅) (N:=["number","self","same"]) (sel:=[none,some 0,some 2]) (gx (M:=Mu) ∅) (fm.of (λ_ _ _ _=>(b_ (i:=0) (ek (N:=["number","self","same"]) ∅ rfl))) (λ_ _ _ _=>(_,(s6 (de rt (cj dp (br (br (U 1) rfl) rfl) (U 0)) (U 2) (cO _))),by walk_at "B")) (λ_ _ _ _=>(_,(U 0),by walk_at "B"))) rfl)
   (aP (b8 (i:=4) Re.aH (vM (Gm (U 3) (λ_=>rfl)) (U 3) (U 1)))
   (aP (pG (i:=5) Re.aH rfl (nC rfl) (l7 bJ (br (U 0) rfl) (cj dp (br (br (U 0) rfl) rfl) (cj dp (U 4) aR)) (λ_ _=>rfl)))
   (aP (pG (i:=6) Re.aH rfl (nC rfl) (br (br (U 0) rfl) rfl))
   (aY (cp (ahs (pr:="number") (y:="many") (z:="last") (i1:=6) (i2:=5) rfl rfl T.yQ (ah (U 4) aA) (kq.symm.trans KC,dd,g4) ao an0 rfl rfl rfl rfl rfl rfl rfl rfl (λ_ _ _ _=>rfl) (λ_ _ _ _=>(_,(bM ky (bM lC (bM lC (U 0) (U 2)) aR) (U 1)),by first|rfl|(dsimp only[qA];done)|(dsimp only[qA];exact rfl)))))))))))),?_)
 simp only[dx];exists (λav I=>aM H I/\aF I/\∃wp,H wp=none/\I wp\(.lst (bN (lN rows aj)))/\av=[~~~k,~~~wp,none,none,none,none,none]),2
 .nofun;refine(aJ,_,dz,_,Ag T cn,_,rfl,_,dz,λo=>?_);have gz:↑(g0 aj.wt)=↑aj.wt:=by unfold g0;rw[aT]
  have qN:aM b6 (upd H aJ (.ei o (.bu (g0 aj.wt)))):=λb u e=>by rw[aD (dF e hH)];exact s0 _ _ e
  have Gz:(upd H aJ (.ei o (.bu (g0 aj.wt)))) k\(.ins t.dN ax (gd aG (r7 aj.b4) aj.bt aj.lf aj.bA aj.cS aJ a4)):=by rw[aD (bW cn dz (by intro z;cases z))];exact cn
  have ur:(upd H aJ (.ei o (.bu (g0 aj.wt)))) aJ\(.ei o (.bu (g0 aj.wt))):=db;refine dh.XY (zs:=bN (lN rows aj)) ur (by rw[gz];exact cZ aN ∅) (by unfold bN lN;rw[aT,aT,gz]) (λkZ afG v z N aB aO bo=>?_) (λp aq=>?_)
  .unfold g0 at aB;let(x,ag,ex):=b' aB;cases ex;unfold bN lN at aO;let(eZ,aa,rfl):=b' aO;let(eR,eb,rfl):=b' aa;rw[ag]at eb;cases eb;let(j,r,aI,fa,kc,_):=pO (c9 x (cm ag));have a7:=gw.k (k:=bO x) (qN _ _ g5);rw[aI]at a7;have he:vu rows x=j:=by unfold vu;rw[fa];rfl
   rw[he]at bo;nofun;exact(Sub.name,_,kT T Gz,_,rfl,_,A5 T (qN _ _ au),_,rfl,_,a7,bo)
  .have iR:p≠aJ:=λz=>by rw[z,ur]at aq;cases aq
   have D6:H p=none:=by rw[aD iR]at aq;exact aq
   refine(o,by rw[aD (dm iR)];exact ur,c2 _ _ (λb u e=>?_,bz.upd.upd.upd,p,D6,by rw[aD iR];exact db,rfl));by_cases bT:b=aJ
   .subst bT;rw[dz]at e;cases e;exact db
   .rw [aD bT,aD (dF e D6),aD bT];exact e
 intro fo H1 (s1,cK,wp,aai,dP,rfl);subst aS;simp only[dx];exists (λav I=>I=H1/\av=[~~~k,~~~wp,some (.str (cE ds rows i)),none,none,none,none]),2
 .nofun;have nt:=s1 _ _ cn;rw[hq]at nt;exact(_,kT T nt,_,rfl,_,p8 T (s1 _ _ (s0 _ _ au)),_,ta T nt,_,rfl,_,_,rfl,ay.of (s1 _ _ (s0 _ _ ez)),_,cI (oL (sX gI)),c2 _ _ (rfl,rfl))
 intro cv ar (rfl,rfl);subst aS;simp only[dx];exists (λav I=>aM ar I/\aF I/\∃op,ar op=none/\I op\(.lst (bN (nq ds rows aj i)))/\av=[~~~k,~~~wp,some (.str (cE ds rows i)),~~~op,none,none,none]),2
 .nofun;refine((_,ay.of dP),?_);refine dh.u6 (xs:=bN (lN rows aj)) (ss:=(lN rows aj).map λj=>if(!decide (cE ds rows j=cE ds rows i))=true then some (V.int (j:Nat))else none) (ay.of dP) (by unfold bN lN;rw[aT,aT];exact cZ aN ∅) (by unfold bN;rw[aT,aT]) (λkZ v o ys N aK aU bo=>?_) (λl y3=>?_)
  .unfold bN at aK;let(j,aI,rfl):=b' aK;let(eZ,il,rfl):=b' aU;rw[aI]at il;cases il;have hi:=Ep c9 j (cm aI);nofun;refine(Sub.name,_,kT T (s1 _ _ cn),_,rfl,_,p8 T (s1 _ _ (s0 _ _ au)),_,rfl,_,ay.of (s1 _ _ (s0 _ _ ez)),_,cI (oL (sX hi)),rfl,?_);by_cases bT:cE ds rows j=cE ds rows i
   .rw [if_neg (by rw[bT,decide_eq_true rfl];exact fT)];simp[bT]at bo;exact bo
   .rw [if_pos (by rw[decide_eq_false (λz=>bT (by injection z))];rfl)];simp[bT]at bo;exact bo
  .rw [FQ];exact c2 _ _ (a_ y3,cK.upd,l,y3,db,rfl)
 intro fJ a' (s3,dc,op,ava,UW,rfl);have hA:=s3 _ _ dP;subst aS;simp only[dx];exists (λav I=>I=a'/\∃fu,a' fu\(.lst (bN (iv ds rows aj i)))/\av=[~~~k,~~~wp,some (.str (cE ds rows i)),~~~op,~~~fu,none,none]),2
 .nofun;refine(!(nq ds rows aj i).isEmpty,.inl (_,ay.of UW,?_),?_)
  .unfold bN;cases nq ds rows aj i <;> rfl
  .cases UY:(nq ds rows aj i).isEmpty with
   |true=>
    rw[if_neg (by rw[akb];exact fT)];exact c2 _ _ (rfl,wp,by unfold iv;rw[if_pos UY];exact hA,rfl)
   |false=>
    rw[if_pos (by rfl)];exact c2 _ _ (rfl,op,by unfold iv;rw[if_neg (by rw[UY];exact fT)];exact UW,rfl)
 intro jT cb (rfl,fu,By,rfl);subst aS;simp only[dx];exists (λav I=>I=cb/\av=[~~~k,~~~wp,some (.str (cE ds rows i)),~~~op,~~~fu,some (.int (bv ds rows aj (iv ds rows aj i))),none]),2
 .nofun;have Rj:=s3 _ _ (s1 _ _ cn);have qX:∀{b u},b6 b\u->cb b\u:=λe=>s3 _ _ (s1 _ _ (s0 _ _ e))
  let(zZ,lO,hK):=tB (XW (ds:=ds) (rows:=rows) (i:=i) cA);have sI:zZ<↑rows:=Gx c9 zZ (by rw[hK];exact .head _);have Lg:=sX (ds:=ds) sI;have apd:cE ds rows zZ=dw\/cE ds rows zZ=iT:=by
   unfold cE;rw[bj sI];exact oR _ (ic sI)
  have wj:=adX (a:=aj.pt) (b:=aj.po) apd;have a7:=gw.k (k:=bO (cE ds rows zZ)) (s3 _ _ (s1 _ _ e0));rw[wj]at a7;refine(_,KA T Rj,_,kT T Rj,_,rfl,_,p8 T (qX au),_,ay.of By,_,cI (j:=0) (by rw[hK];rfl),_,rfl,_,_,rfl,ay.of (qX ez),_,cI (oL Lg),_,rfl,_,a7,c2 _ _ (rfl,?_));unfold bv;rw[hK];rfl
 intro nL bP (rfl,rfl);subst aS;simp only[dx];exists (λav I=>I=bP/\av=[~~~k,~~~wp,some (.str (cE ds rows i)),~~~op,~~~fu,some (.int (bv ds rows aj (iv ds rows aj i))),some (.int ↑rows)]),2
 .nofun;exact(_,kT T (s3 _ _ (s1 _ _ cn)),_,rfl,_,rm T (s3 _ _ (s1 _ _ (s0 _ _ au))),c2 _ _ (rfl,rfl))
 intro mP eX (rfl,rfl);subst aS;nofun;have J':kz bL eX:=(bS.step s1).step s3;refine((iv ds rows aj i).map λj=>((j:Nat):Int),ay.of (by rw[<- NE];exact By),by simpa using XW (ds:=ds) (rows:=rows) (i:=i) cA,J',o7 (bv ds rows aj (iv ds rows aj i)) ↑rows,λar bb ao3 nQ=>(λn a5=>((),rfl),λkZ m hm aa=>?_));rw[dv]at hm;let(j,aI,rfl):=Ab.mp hm;refine q j ar (λb u ep e=>bb _ _ ep (s3 _ _ (s1 _ _ e))) (ao3 dc) nQ (cm aI,λeZ il=>?_);let(x,ag,ex):=Df il;exact(aa x (eZ:Int) (by rw[dv,bj ag,ex];rfl)).1
def ip(H I:aw):Prop:=∀b o,(∀ps,o≠eH.hS ps)->H b\o->I b\o
def Dw{pos:Pos}(bS:Tab H bL pos q)(s:lH bL H I):ip H I:=λb o n e=>s b o (bS.ne e n) e
def afi(s:aM H I):ip H I:=λb o _ e=>s b o e
def ip.trans(a:ip H H1)(b:ip H1 ar):ip H ar:=λc o n h=>b c o n (a c o n h)
theorem ip.lst(s:ip H I)(e:H b\(.lst xs)):I b\(.lst xs):=s b _ (λ_ z=>by cases z) e
theorem ip.tup(s:ip H I)(e:H b\(.tup xs)):I b\(.tup xs):=s b _ (λ_ z=>by cases z) e
theorem ip.ins(s:ip H I){a6:List (Str×V)}(e:H b\(.ins C ax a6)):I b\(.ins C ax a6):=s b _ (λ_ z=>by cases z) e
theorem ip.bu(s:ip H I)(e:H b\(.bu kvs)):I b\(.bu kvs):=s b _ (λ_ z=>by cases z) e
def UQ{K:bq}{ns:List Int}(S:Sc K a ns H)(s:ip H I)(bz:aF I):Sc K a ns I:=by
 refine(?_,bz);rcases S.zm with⟨o,h⟩|h
 .exact .inl (o,s _ _ (λ_ z=>by cases z) h)
 .exact .inr h
def gp.oY{t:bQ}{c:Addr}(h:gp t H c n ds)(s:ip H I):gp t I c n ds:=by
 let(h0,ax,wl,aH,au,(as,dP,ej,al),bI):=h;refine(h0,ax,wl,aH,s.ins au,(as,s.lst dP,ej,λi b d aa hd=>?_),s.bu bI);let(k,aps,bD):=al i b d aa hd;exact(k,aps,s.ins bD)
theorem fC.oY{w:World}{t:bQ}{a c:Addr}{rows:List ST}(h:fC P w t H a c n ds rows)(s:ip H I):fC P w t I a c n ds rows:=by
 let(ax,le,mo,cW,cH,aU,ch,ms,kvs,au,aE,bI,ec,gm,ez,g5,(o,aW,cJ,xs,r),jn):=h;exact(ax,le,mo,cW,cH,aU,ch,ms,kvs,s.ins au,aE.oY s,s.lst bI,s.lst ec,(s.lst gm.at_,gm.ln,λi m x a b=>s.lst (gm.al i m x a b)),s.lst ez,s.bu g5,
  (o,aW,cJ,xs,s _ _ (λ_ z=>by cases z) r.at_,r.ex,r.dat,r.ent,r.aH,Paired.td r.bE λp q z=>(z.1,s.tup z.2.1,z.2.2),r.qm,r.ns),jn)
noncomputable def kV(H:aw):aw:=λb=>match H b with
 |some (.hS _)=>none
 |o=>o
def aaZ{pos:Pos}(bS:Tab H bL pos q):kV H bL=none:=by
 let(ps,e,_):=bS;unfold kV;rw[e]
def aae(h:H b=none):kV H b=none:=by
 unfold kV;rw[h]
def YP(H:aw):aM (kV H) H:=λb u e=>by
 unfold kV at e;split at e
 .cases e
 .exact e
set_option tactic.hygienic true in
def LD(H:aw):ip H (kV H):=λb u n e=>by
 unfold kV;split
 .rename_i ps h;rw[h]at e;cases e;exact absurd rfl (n ps)
 .exact e
structure oU(ds:List bf)(rows:List ST):Prop where
 dk:∀d∈ds,told rows d.name=true
 hg:∀r∈rows,↑r.mem<=12
 cH:∀r∈rows,dj ds r=dw\/dj ds r=iT
 dl:↑ds<=12
structure jH(ds:List bf)(rows:List ST)(s:fx):Prop where
 wn:s.wt.Nodup
 aJ:∀x∈s.wt,x∈ds.map (·.name)
 b4:∀i,s.b4\i->i<↑rows/\∀x∈s.wt,kH rows x≠some i
 ch:s.b4=none->s.lf<↑rows/\s.bA<↑rows/\s.lf≠s.bA
theorem jH.told{rows:List ST}(k:jH ds rows s)(R:oU ds rows):∀x∈s.wt,told rows x=true:=λx ag=>by
 let(d,hd,rfl):=cf.mp (k.aJ x ag);exact R.dk d hd
def jH.len{rows:List ST}(k:jH ds rows s)(R:oU ds rows):↑s.wt<=12:=by
 have:=k.wn.length_le_of_subset (l₂:=ds.map (·.name)) λx ag=>k.aJ x ag
 rw[aT]at this;have:=R.dl;omega
def tT(n:Int)(ds:List bf)(rows:List ST)(s:fx)(own:Bool)(aj:fx):Prop:=
 (s.b4=none/\∃r,rows[s.bA]?\r/\aj=oX n ds rows {s with cS:=s.cS+1} r.mem) \/
 (∃i r,s.b4\i/\rows[i]?\r/\tD ds rows s r own=true/\aj={s with bt:=s.bt+1}) \/
 (∃i r j xl,s.b4\i/\rows[i]?\r/\tD ds rows s r own=false/\CT ds rows s i j/\rows[j]?\xl/\aj=oX n ds rows (so s i j (dj ds xl)) xl.mem)
def Ob{rows:List ST}(c9:∀x∈s.wt,told rows x=true)(h:j∈iv ds rows s i):∃x∈s.wt,kH rows x\j:=by
 have hm:j∈lN rows s:=by
  unfold iv at h;split at h
  .exact h
  .exact (i0.mp h).1
 let(x,ag,rfl):=cf.mp hm;let(j,r,aI,aB,kc,_):=pO (c9 x ag);refine(x,ag,?_);unfold vu;rw[aB];rfl
def SO{rows:List ST}(R:oU ds rows)(wn:s.wt.Nodup)(aJ:∀x∈s.wt,x∈ds.map (·.name))(az:s.b4=none)(aN:s.lf<↑rows)(ao:rows[s.bA]?\r)(cA:s.lf≠s.bA):jH ds rows (oX n ds rows s r.mem):=by
 have kf:s.bA<↑rows:=(b5.mp ao).1;unfold oX;split
 .exact (wn,aJ,λi h=>(by rw[az]at h;cases h),λ_=>(aN,kf,cA))
 .refine (wn.filter _,λx ag=>aJ x (i0.mp ag).1,λi h=>?_,λh=>by cases h);cases h;refine(kf,λx ag e=>?_);have eb:=i0.mp ag;let(d,hd,kA):=cf.mp (aJ x eb.1);let(j,eU,aI,aB,kc,hm):=pO (R.dk d hd);rw[kA]at aB hm;rw[aB]at e;cases e;rw[ao]at kc;cases kc;have:=eb.2;simp[hm]at this
def anE{rows:List ST}{own:Bool}(R:oU ds rows)(k:jH ds rows s)(h:tT n ds rows s own aj):jH ds rows aj:=by
 rcases h with⟨af,r,ao,rfl⟩|⟨i,r,af,ao,_,rfl⟩|⟨i,r,j,xl,af,ao,_,aq,aI,rfl⟩
 .let(a,b,c):=k.ch af;exact SO (s:={s with cS:=s.cS+1}) R k.wn k.aJ af a ao c
 .exact (k.wn,k.aJ,k.b4,k.ch)
 .let(a,b):=k.b4 i af;let(x,ag,aB):=Ob (k.told R) aq.1;refine SO (s:=so s i j (dj ds xl)) R k.wn k.aJ rfl a aI (λe=>?_);have e:i=j:=e;subst e;exact b x ag aB
def YX(k aJ a4 bL:Addr)(H I:aw):Prop:=∀b u,b≠k->b≠aJ->b≠a4->b≠bL->H b\u->I b\u
def Be{t:bQ}{k aG aJ a4 bL:Addr}{pos:Pos}(hx:fz t H k aG aJ a4 s)(bS:Tab H bL pos q)(x:Pi k aJ a4 H I):Tab I bL pos q:=by
 let(_,ax,cn,dz,e0):=hx;let(ps,e,d):=bS;refine(ps,x _ _ (bW e cn (by intro z;cases z)) (bW e dz (by intro z;cases z)) (bW e e0 (by intro z;cases z)) e,?_);rcases d with d|⟨c',d,bF⟩
 .exact .inl d
 .exact .inr (c',d,x _ _ (bW bF cn (by intro z;cases z)) (bW bF dz (by intro z;cases z)) (bW bF e0 (by intro z;cases z)) bF)
def fz.oY{t:bQ}{k aG aJ a4:Addr}(h:fz t H k aG aJ a4 s)(x:ip H I):fz t I k aG aJ a4 s:=by
 let(h0,ax,cn,dz,e0):=h;exact(h0,ax,x.ins cn,x.bu dz,x.bu e0)
def ard(P:Program)(w:World)(t:bQ)(bL:Addr):bV:=λvs H Q _=>∃b6 k aG aJ a4 s c n ds rows own,vs=[⇑k,.bG own]/\fz t H k aG aJ a4 s/\fC P w t b6 aG c n ds rows/\aM b6 H/\b6 k=none/\b6 aJ=none/\b6 a4=none/\b6 bL=none/\oU ds rows/\jH ds rows s/\kz bL H/\aF H /\
 ∀aj I,tT n ds rows s own aj->YX k aJ a4 bL H I->aF I->kz bL I->fz t I k aG aJ a4 aj->Q .cF I
theorem aew(dd:mD base t.tb bL)(g4:base.BuiltinsAt mg bL):cu P base T 4 t.Gs t.Lk sO (ard P w t bL):=by
 refine cD (X0 T) λNY=>cD (IN T) λanz=>cD (aqQ T) λabD=>cD (ani T dd g4) λadD=>?_;exists T.PF.ok afO,9
 let(b6,k,aG,aJ,a4,aj,c,n,ds,rows,own,rfl,hx,c8,s0,ke,hH,hJ,Ey,R,lM,bS,bz,q):=h;let(dq,ax,cn,dz,e0):=id hx;have bJ:=h9 ao;refine(_,(aY (d7 (de aj9 (br (U 0) rfl) uD (cO _)) (aP (DC (U 0) aR Ba)
   (aY (d3 (jZ (U 0) T.fA T.Un NY ao T.S0 .nil cY)))) (aY (d7 (rJ (e8 (U 0) T.fA T.ak2 anz ao T.adi .nil cY (ah (U 1) aA))) (aY (DC (U 0) aR Ba)) (aY (d3 (e8 (U 0) T.fA T.Os abD ao T.abX .nil cY (ah (jZ (U 0) T.fA T.aru adD ao T.aqy .nil cY) aA)))))))),?_)
 cases hq:aj.b4 with
 |none=>
  rw[hq]at cn;let(g1,g2,g3):=lM.ch hq;have Pe:=bj g2;nofun;refine dC true (λQ aX=>?_) (λ_=>?_) (λaC=>nomatch aC)
  .nofun;exact(_,ta T cn,aX)
  simp only[dx];exists (λav I=>Pi k aJ a4 H I/\aF I/\fz t I k aG aJ a4 {aj with cS:=aj.cS+1}/\av=[~~~k,some (.bG own)]),2
  .nofun;refine⟨_,_,_,cn,T.fA,T.BN,_,fX nW 5 (j8 ..) ∅ rfl,_,rfl,_,_,cn,by rw[<- aT (f:=(·.1)),j8];decide,?_⟩;rw[aaq];exact c2 _ _ (λb u af _ _ e=>by rw[aD af];exact e,bz.upd,(dq,ax,by rw[db];exact congrArg (λz=>some (eH.ins t.dN ax (gd aG (r7 z) aj.bt aj.lf aj.bA (aj.cS+1) aJ a4))) hq.symm,by rw[aD (bW dz cn (by intro z;cases z))];exact dz,by rw[aD (bW e0 cn (by intro z;cases z))];exact e0),rfl)
  intro fo H1 (cz,cK,LW,rfl);let(_,ea,a1,gq,bc):=id LW;subst aS;nofun;exact(_,_,a1,p6 _ _ _ _ _ _ _ _ ∅,b6,k,aG,aJ,a4,_,c,n,ds,rows,_,rfl,LW,c8,cz.zE s0 ke hH hJ,ke,hH,hJ,g1,Pe,g3,R.hg _ (ic g2),cK,λI eR dX uv=>q _ I (.inl (hq,_,Pe,rfl)) (λb u af ak a8 _ e=>eR _ _ af ak a8 (cz _ _ af ak a8 e)) dX (Be LW (Be hx bS cz) eR) uv)
 | some i=>
  rw[hq]at cn;let(g1,g2):=lM.b4 i hq;have iX:=bj g1;nofun;refine dC false (λQ aX=>?_) (λaC=>nomatch aC) (λ_=>?_)
  .nofun;exact(_,ta T cn,aX)
  have c9:=lM.told R;have aN:=lM.len R;refine SB (λb I=>aM H I/\aF I/\b=tD ds rows aj rows[i] own) (λQ' Ei=>?_) ?_ ?_
  .nofun;exact(_,_,cn,p6 _ _ _ _ _ _ _ _ ∅,b6,k,aG,aJ,a4,aj,c,n,ds,rows,i,_,own,rfl,hx,hq,iX,c8,s0,hH,c9,aN,λI s1 cK=>(_,rfl,Ei _ _ (s1,cK bz,rfl)))
  .rintro H1 ⟨s1,cK,aa⟩;have nt:=s1 _ _ cn;nofun;refine⟨_,_,_,nt,T.fA,T.GW,_,fX nW 2 (j8 ..) ∅ rfl,_,rfl,_,_,nt,by rw[<- aT (f:=(·.1)),j8];decide,?_⟩;rw[V1];have cz:Pi k aJ a4 H (upd H1 k (.ins t.dN ax (gd aG (r7 (some i)) (aj.bt+1) aj.lf aj.bA aj.cS aJ a4))):=fun b u af _ _ e=>by rw[aD af];exact s1 _ _ e
   exact q {aj with bt:=aj.bt+1} _ (.inr (.inl (i,_,hq,iX,aa.symm,rfl))) (λb u af ak a8 _ e=>cz _ _ af ak a8 e) cK.upd (Be hx bS cz) (dq,ax,by rw[db];exact congrArg (λz=>some (eH.ins t.dN ax (gd aG (r7 z) (aj.bt+1) aj.lf aj.bA aj.cS aJ a4))) hq.symm,by rw[aD (bW dz cn (by intro z;cases z))];exact s1 _ _ dz,by rw[aD (bW e0 cn (by intro z;cases z))];exact s1 _ _ e0)
  .rintro H1 ⟨s1,cK,aa⟩;have nt:=s1 _ _ cn;have cA:aj.wt≠[]:=fun z=>by
    unfold tD at aa;rw[z]at aa;simp at aa
   nofun;refine(_,_,nt,p6 _ _ _ _ _ _ _ _ ∅,_,_,nt,p6 _ _ _ _ _ _ _ _ ∅,b6,k,aG,aJ,a4,aj,c,n,ds,rows,i,rfl,hx.same s1,hq,g1,c8,s0.trans s1,hH,c9,cA,aN,R.cH,bS.step s1,cK,λj ar bb cC nQ aq=>?_);have Gu:=(hx.same s1).oY (Dw (bS.step s1) bb);let(x,ag,aB):=Ob c9 aq.1;have hi:=Gx c9 j aq.1;have hu:=bj hi;exact(b6,k,aG,aJ,a4,aj,c,n,ds,rows,i,j,_,rfl,Gu,hq,c8,λb u e=>bb _ _ (dF e Ey) ((s0.trans s1) _ _ e),ke,hH,hJ,g1,hu,λe=>g2 x ag (by rw[aB,e]),R.hg _ (ic hi),R.cH _ (ic hi),cC,λI eR dX uv=>q _ I (.inr (.inr (i,_,j,_,hq,iX,aa.symm,aq,hu,rfl))) (λb u af ak a8 bZ e=>eR _ _ af ak a8 (bb _ _ bZ (s1 _ _ e))) dX (Be Gu nQ eR) uv)
noncomputable def ib(rows:List ST)(s:fx)(x:Str):Bool:=match s.b4 with
 |some i=>decide (kH rows x\i)
 |none=>false
theorem WB(n:Int)(ds:List bf)(rows:List ST)(s:fx)(d:bf):decide (V.str (jq n ds rows s d)=V.str (ab "free"))=ib rows s d.name:=by
 have af:(V.str (ab "stop"):V)≠V.str (ab "free"):=λz=>absurd (V.str.inj z) ∅
 have ak:(V.str (ab "fade"):V)≠V.str (ab "free"):=λz=>absurd (V.str.inj z) ∅
 have a8:(V.str (ab "ready"):V)≠V.str (ab "free"):=λz=>absurd (V.str.inj z) ∅
 unfold jq ib;cases s.b4 with
 | none=>
  show decide (V.str (wz n ds rows s d)=_)=false;unfold wz;split
  .exact decide_eq_false ak
  .split
   .exact decide_eq_false a8
   .exact decide_eq_false af
 |some i=>
  show decide (V.str (w7 rows i d.name)=_)=decide (kH rows d.name\i);unfold w7;split
  .rename_i h;rw[decide_eq_true rfl,decide_eq_true h]
  .rename_i h;rw[decide_eq_false af,decide_eq_false h]
noncomputable def q'(rows:List ST)(s:fx)(wt:List Str)(x:Str):List Str:=if ib rows s x=true\/x∈wt then wt else wt++[x]
noncomputable def p'(rows:List ST)(s:fx)(wt:List Str)(xs:List Str):List Str:=xs.foldl (q' rows s) wt
noncomputable def tm(rows:List ST)(s:fx)(xs:List Str):fx:={s with wt:=p' rows s s.wt xs}
def apx(wt:List Str)(x:Str):d8 (g0 wt) (bO x) (.bG true)=g0 (if x∈wt then wt else wt++[x]):=by
 unfold d8;have DU:((g0 wt).any λdE=>decide (dE.1=bO x))=decide (x∈wt):=by
  rw[m8,decide_eq_true_eq,rg];constructor
  .intro (p,aq,ag);let(y,aQ,rfl):=cf.mp aq;have:=sg (of_decide_eq_true ag);rw[<- this];exact aQ
  .exact λh=>((p'p (bO x) (V.bG true)),cf.mpr (x,h,rfl),decide_eq_true rfl)
 by_cases h:x∈wt
 .rw[if_pos (by rw[DU];exact decide_eq_true h),if_pos h];unfold g0;rw[q3];refine Pz λy _=>?_
  show(if(bO y:Key)=bO x then(p'p (bO y:Key) (V.bG true))else(p'p (bO y) (V.bG true)))=_;split <;> rfl
 .rw [if_neg (by rw[DU,decide_eq_false h];exact fT),if_neg h];unfold g0;rw[ee];rfl
def aqE{ds:List bf}{rows:List ST}{s:fx}{wt:List Str}{x:Str}(ag:x∈ds.map (·.name))(k:jH ds rows {s with wt:=wt}):jH ds rows {s with wt:=q' rows s wt x}:=by
 unfold q';split
 .exact k
 .rename_i h;have af:x∉wt:=λz=>h (.inr z)
  refine(?_,λy aQ=>?_,λi ai=>((k.b4 i ai).1,λy aQ=>?_),k.ch)
  .show (wt++[x]).Nodup;rw[Eb];exact(k.wn,by simp,λa aV b aa e=>by rw[eB.mp aa]at e;exact af (e ▸ aV))
  .rcases eQ.mp aQ with aQ|aQ
   .exact k.aJ y aQ
   .rw [eB.mp aQ];exact ag
  .rcases eQ.mp aQ with aQ|aQ
   .exact (k.b4 i ai).2 y aQ
   .rw [eB.mp aQ];intro e;refine h (.inl ?_);have ai:s.b4\i:=ai;unfold ib;rw[ai];exact decide_eq_true e
theorem IT{ds:List bf}{rows:List ST}{s:fx}:∀(xs wt:List Str),(∀x∈xs,x∈ds.map (·.name))->jH ds rows {s with wt:=wt}->jH ds rows {s with wt:=p' rows s wt xs}
 |[],_,_,k=>k
 |x::xs,wt,h,k=>IT xs (q' rows s wt x) (λy aQ=>h y (.tail _ aQ)) (aqE (h x (.head _)) k)
def Qq{rows:List ST}(h:∀x∈xs,x∈ds.map (·.name))(k:jH ds rows s):jH ds rows (tm rows s xs):=IT xs s.wt h k
def ag7(rows:List ST)(s:fx)(wt xs:List Str)(x:Str):p' rows s wt (xs++[x])=q' rows s (p' rows s wt xs) x:=by
 unfold p';rw[vT];rfl
def ah8(P:Program)(w:World)(K:bq)(t:bQ)(bL:Addr):bV:=λvs H Q _=>∃b6 k aG aJ a4 s c n ds rows a xs,vs=[⇑k,⇑a]/\fz t H k aG aJ a4 s/\fC P w t b6 aG c n ds rows/\aM b6 H/\b6 k=none/\b6 aJ=none/\b6 a4=none/\b6 bL=none/\oU ds rows/\jH ds rows s/\H a\(.lst (a0 xs))/\↑xs<=1000/\(∀x∈xs,x∈ds.map (·.name))/\kz bL H/\aF H /\
 ∀p aj I,tT n ds rows (tm rows s xs) (xs.any (ib rows s)) aj->YX k aJ a4 bL H I->H p=none->I p\(.bu (jA ds (jq n ds rows s)))->aF I->kz bL I->fz t I k aG aJ a4 aj->Q ⇑p I
def agm (dd:mD base t.tb bL) (g4:base.BuiltinsAt mg bL):cu P base T 5 t.GH t.NS JL (ah8 P w K t bL):=by
 refine cD (qz T) λi7=>cD (SL T) λag5=>cD (aew T dd g4) λad6=>?_;exists T.PR.ok wO,9
 let(b6,k,aG,aJ,a4,aj,c,n,ds,rows,a,xs,rfl,hx,c8,s0,ke,hH,hJ,Ey,R,lM,aV,lh,Mc,bS,bz,q):=h;let(dq,ax,cn,dz,e0):=id hx;let(iL,le,mo,cW,cH,aU,ch,ms,kvs,au,C,bI,ec,gm,ez,g5,j1,jn):=id (c8.same s0);let((fS,fP),w2,wl,aH,bc,_,_):=id C;have bJ:=h9 ao;have i3:∀{i:Nat} {x:Str},xs[i]?\x->∃(j:Nat) (d:bf),ds[j]?\d/\d.name=x:=λ{i x} ag=>by
  let(d,hd,e):=cf.mp (Mc x (cm ag));let(j,aI):=g8 hd;exact(j,d,aI,e)
 refine(_,(aP (eY eP rfl (eV (U 1)) (b_ (i:=2) wO.aH) (aY (d3 (e8 (br (br (U 0) rfl) rfl) T.ac T.nE i7 ao T.nO .nil cY (ah (U 2) aA)))))
   (aP (b8 (i:=3) wO.aH (jZ (U 0) T.fA T.arc ag5 ao T.afW .nil cY))
   (aP (b8 (i:=4) wO.aH nF)
   (aP (eY eP rfl (eV (U 1)) (b_ (i:=2) wO.aH) (aY (d7 (de fg (l7 bJ (U 3) (U 2) (λ_ _=>rfl)) dW (cO _)) (aY (b8 (i:=4) wO.aH nF)) (aY (r3 bJ (br (U 0) rfl) (U 2) nF rfl)))))
   (aP (d3 (e8 (U 0) T.fA T.an6 ad6 ao T.aee .nil cY (ah (U 4) aA)))
   (aY (cp (U 3)))))))),?_)
 exists (λav I=>I=H/\∃y,av=[~~~k,~~~a,y,none,none]),5
 .nofun;refine((_,ay.of aV),?_);refine d1.list (xs:=a0 xs) (λi σ I=>I=H/\∃y,σ=[~~~k,~~~a,y,none,none]) ?_ ?_ ?_ ?_
  .exact (rfl,_,rfl)
  .intro i σ I ai (rfl,_);exact ay.of aV
  .intro i v σ I aK (rfl,y,rfl);unfold a0 at aK;let(x,ag,rfl):=b' aK;let(j,d,hd,rfl):=i3 ag;nofun;exact(_,kT T cn,_,rfl,_,Bv T au,_,rfl,_,_,bc,jv _ _ _ ∅,c,n,ds,j,d,rfl,C,hd,λ_ _=>(rfl,_,rfl))
  .intro σ I (rfl,y,rfl);exact c2 _ _ (rfl,_,rfl)
 intro fo H1 (rfl,oj,rfl);subst aS;exists (λav I=>aM H1 I/\aF I/\∃p,H1 p=none/\I p\(.bu (jA ds (jq n ds rows aj)))/\av=[~~~k,~~~a,oj,~~~p,none]),5
 .nofun;exact(_,_,cn,p6 _ _ _ _ _ _ _ _ ∅,k,aG,aJ,a4,aj,c,n,ds,rows,rfl,hx,c8.same s0,R.dk,lM.ch,bz,λp I s2 cC aq n0=>c2 _ _ (s2,cC,p,aq,n0,rfl))
 intro cv ar (s2,cC,p,pz,du,rfl);subst aS;exists (λav I=>I=ar/\av=[~~~k,~~~a,oj,~~~p,some (.bG false)]),5
 .nofun;exact c2 _ _ (rfl,rfl)
 intro fJ a' (rfl,rfl);subst aS;exists (λav I=>Pi k aJ a4 a' I/\aF I/\fz t I k aG aJ a4 (tm rows aj xs)/\∃y,av=[~~~k,~~~a,y,~~~p,some (.bG (xs.any (ib rows aj)))]),5
 .have eu:=s2 _ _ aV;have gq:=s2 _ _ cn;have gj:=s2 _ _ dz;have jf:=s2 _ _ e0;nofun;refine((_,ay.of eu),?_);refine d1.list (xs:=a0 xs) (λi σ I=>Pi k aJ a4 a' I/\aF I/\fz t I k aG aJ a4 {aj with wt:=p' rows aj aj.wt (xs.take i)}/\∃y,σ=[~~~k,~~~a,y,~~~p,some (.bG ((xs.take i).any (ib rows aj)))]) ?_ ?_ ?_ ?_
  .exact (Pi.of (aM.refl a'),cC,hx.same s2,_,rfl)
  .intro i σ I ai (eR,_);exact ay.of (eR _ _ (bW eu gq (by intro z;cases z)) (bW eu gj (by intro z;cases z)) (bW eu jf (by intro z;cases z)) eu)
  .rintro i v σ I aK a9;ac_rfl
   let(eR,dX,(_,d',f1,f2,e6),y,rfl):=a9;subst aS;unfold a0 at aK;let(x,ag,rfl):=b' aK;let(j,d,hd,rfl):=i3 ag;have lT:=eR _ _ (bW du gq (by intro z;cases z)) (λe=>by rw[e,dz]at pz;cases pz) (λe=>by rw[e,e0]at pz;cases pz) du;have a7:=gw.k (k:=bO d.name) lT;rw[Rf (f:=jq n ds rows aj) fS hd]at a7;have eN:↑(g0 (p' rows aj aj.wt (xs.take i)))<=12:=by
    have:=(IT (xs.take i) aj.wt (λx ag=>Mc x (wZ ag)) lM).len R;unfold g0;rw[aT];exact this
   have gY:p' rows aj aj.wt (xs.take (i+1))=q' rows aj (p' rows aj aj.wt (xs.take i)) d.name:=by rw[i6 ag,ag7]
   have ll:(xs.take (i+1)).any (ib rows aj)=((xs.take i).any (ib rows aj)||ib rows aj d.name):=by rw[i6 ag,List.any_append];simp
   nofun;refine dC (ib rows aj d.name) (λQ' aX=>?_) (λaa=>?_) (λaa=>?_)
   .nofun;rw[<- WB n ds rows aj d]at aX;exact(_,a7,rfl,aX)
   .nofun;refine(eR,dX,(dq,d',f1,?_,e6),?_)
    .rw [gY];unfold q';rw[if_pos (.inl aa)];exact f2
    .rw [ll,aa,ap5]
   .nofun;refine(_,Ag T f1,_,rfl,_,jh.k (k:=bO d.name) f2 (gv eN ∅),λb u af ak a8 e=>by rw[aD ak];exact eR _ _ af ak a8 e,dX.upd,(dq,d',by rw[aD (bW f1 f2 (by intro z;cases z))];exact f1,?_,by rw[aD (dm dq)];exact e6),?_)
    .rw[db,apx,gY];unfold q';by_cases h:d.name∈p' rows aj aj.wt (xs.take i)
     .rw [if_pos h,if_pos (.inr h)]
     .rw [if_neg h,if_neg (λz=>z.elim (λz=>by rw[aa]at z;cases z) h)]
    .rw [ll,aa,Y6]
  .rintro σ I a9;ac_rfl
   let(eR,dX,uv,y,rfl):=a9;subst aS;rw[gb,hO]at *;exact c2 _ _ (eR,dX,uv,y,rfl)
 intro jT cb (dr,cR,uF,auw,rfl);let(_,r8,f1,f2,e6):=id uF;have Du:=hx.same s2;have gq:=s2 _ _ cn;subst aS;nofun;refine(_,_,f1,p6 _ _ _ _ _ _ _ _ ∅,b6,k,aG,aJ,a4,_,c,n,ds,rows,_,rfl,uF,c8,dr.zE (s0.trans s2) ke hH hJ,ke,hH,hJ,Ey,R,Qq Mc lM,Be Du (bS.step s2) dr,cR,λs5 bP az ed dK arp wA=>?_);have Um:p≠k:=bW du gq (by intro z;cases z);have nw:p≠aJ:=λe=>by rw[e,dz]at pz;cases pz
 have np:p≠a4:=λe=>by rw[e,e0]at pz;cases pz
 have alf:p≠bL:=λe=>by
  let(ps,bF,_):=bS;rw[e,bF]at pz;cases pz
 exact q p s5 bP az (λb u af ak a8 bZ e=>ed _ _ af ak a8 bZ (dr _ _ af ak a8 (s2 _ _ e))) pz (ed _ _ Um nw np alf (dr _ _ Um nw np du)) dK arp wA
def Uh{i:Int}(h:i.natAbs<100000):i.natAbs.log2<1920:=by
 by_cases h0:i.natAbs=0
 .rw [h0];decide
 .exact (akf h0).mpr (Tx h ∅)
def acr(K:bq):bV:=λvs H Q _=>∃(a:Addr) (ns:List Int) (k m:Int),vs=[⇑a,.int k,.int m]/\↑ns<=63/\ay K H a (ns.map V.int)/\(0<=k/\k<1000000)/\0<m/\Q (.int (dR ns k m)) H
def aip:cu P base T 1 t.zC t.Au z4 (acr K):=by
 exists T.f'.ok xg,9
 let(a,ns,k,m,rfl,ih,S,(h0,af),hm,q):=h;refine(_,(aP (b8 (i:=3) xg.aH (vM (de oN (fy iu rfl T.hX hU (ah (U 0) aA)) aR (cO _)) (cj dp (U 0) (bM ky (U 1) (fy iu rfl T.hX hU (ah (U 0) aA)))) aR))
   (aP (b8 (i:=4) xg.aH (bM eg (bM eg (bM ky (U 3) aR) (bM kI (bM kI aR (U 1)) (U 1))) aR))
   (aY (cp (bM ky (bM ky (bM kI (bM ky (bM kI (U 4) aR) aR) aR) aR) (U 2)))))),?_)
 nofun;refine(_,.inl S,?_);rw[aT];have ac1:(0:Int)<=k*k/\k*k<1000000*1000000:=(aiR h0 h0,aer () af h0 ∅);have fin:∀i:Int,(0:Int)<1000003/\p2 31 k/\p2 (31*k) k/\p2 (i%1000003+31*k*k+1) 48271/\(0:Int)<999983/\p2 ((i%1000003+31*k*k+1)*48271%999983) 7919/\(0:Int)<524287/\0<m:=by
  intro i;refine(∅,.inl ∅,.inr (),.inr ∅,∅,.inr ∅,∅,hm)
 by_cases c:(0:Int)<(↑ns:Int)
 .rw[if_pos (decide_eq_true c)];have aB:0<=k%(↑ns:Int)/\k%(↑ns:Int)<(↑ns:Int):=(xc _ (),yo _ c);refine(_,.inl S,by rw[aT];exact c,_,S,?_);rw[aT];have aI:(k%(↑ns:Int)).toNat<↑ns:=()
  refine(.int ns[(k%(↑ns:Int)).toNat],?_,_,rfl,?_)
  .have e:=cI (xs:=ns.map V.int) (j:=(k%(↑ns:Int)).toNat) (v:=.int ns[(k%(↑ns:Int)).toNat]) (by rw[dv,bj aI] <;> rfl);rwa[t9 aB.1]at e
  .obtain⟨f1,f2,e6,f4,fw,qp,nD,f8⟩:=fin ns[(k%(↑ns:Int)).toNat];refine⟨f1,f2,e6,f4,fw,qp,nD,f8,?_⟩;have e:dR ns k m=(((ns[(k%(↑ns:Int)).toNat]%1000003+31*k*k+1)*48271%999983*7919)%524287)%m:=by
    unfold dR;rw[if_pos c,ku,bj aI];rfl
   rw[<- e];exact q
 .rw[if_neg (by simpa using c)];let(f1,f2,e6,f4,fw,qp,nD,f8):=fin 0;refine(f1,f2,e6,f4,fw,qp,nD,f8,?_);have e:dR ns k m=(((0%1000003+31*k*k+1)*48271%999983*7919)%524287)%m:=by
   unfold dR;rw[if_neg c]
  rw[<- e];exact q
noncomputable def ins{α:Type}(l:List α)(i:Nat)(a:α):List α:=l.take i++a::l.drop i
def w'(ai:i<=↑l)(j:Nat):(ins l i a)[j]? = if j<i then l[j]? else if j=i then some a else l[j-1]?:=by
 unfold ins;have c9:↑(l.take i)=i:=by rw[ha];omega
 by_cases af:j<i
 .rw [if_pos af,lg (),tV af]
 .rw[if_neg af,j7 (),c9];by_cases ak:j=i
  .subst ak;rw[if_pos rfl];simp
  .rw [if_neg ak];let(k,rfl):=Nat.exists_eq_add_of_lt (Nat.lt_of_le_of_ne (ae6 af) (dm ak));rw[Nat.add_assoc,Nat.add_sub_cancel_left,CE,AS];rfl
def UD(ai:i<=↑l):↑(ins l i a)=↑l+1:=by
 unfold ins;rw[cU,gW,ha,k4];omega
def aqa(h:l.Nodup)(n:a∉l):(ins l i a).Nodup:=by
 unfold ins;rw[(arO).nodup_iff,qQ,QL];exact(n,h)
def pB{a x:α}(h:x∈ins l i a):x=a\/x∈l:=by
 unfold ins at h;rcases eQ.mp h with z|z
 .exact .inr (wZ z)
 .rcases d6.mp z with z|z
  .exact .inl z
  .exact .inr (SM z)
def Qi(f:α->β)(l:List α)(i:Nat)(a:α):(ins l i a).map f=ins (l.map f) i (f a):=by
 unfold ins;rw[ee,es,Wg,A']
def R5(x:Str)(lS:a<=b)(aa:b<=↑x.cps.toList):(nv x (some (a:Int)) (some (b:Int))).cps.toList=(x.cps.toList.drop a).take (b-a):=by
 have ag:↑x=↑x.cps.toList:=by simp[x_]
 have e:=StrLaws.sliceText_nat x lS (by rw[ag];exact aa);rw[show nv x (some (a:Int)) (some (b:Int))=x6 x (some (a:Int)) (some (b:Int))from rfl,e]
def FB(x:Str)(aa:b<=↑x.cps.toList):(nv x none (some (b:Int))).cps.toList=x.cps.toList.take b:=by
 have:nv x none (some (b:Int))=nv x (some ((0:Nat):Int)) (some (b:Int)):=by
  show x6 x none (some (b:Int))=x6 x (some ((0:Nat):Int)) (some (b:Int));unfold x6;rw[StrLaws.sliceIdx_none_lo];rfl
 rw[this,R5 x (eO _) aa,adM,Nat.sub_zero]
def ahk(x:Str)(aV:a<=↑x.cps.toList):(nv x (some (a:Int)) none).cps.toList=x.cps.toList.drop a:=by
 have ag:↑x=↑x.cps.toList:=by simp[x_]
 have:nv x (some (a:Int)) none=nv x (some (a:Int)) (some ((↑x.cps.toList:Nat):Int)):=by
  show x6 x (some (a:Int)) none=x6 x (some (a:Int)) (some ((↑x.cps.toList:Nat):Int));unfold x6;rw[StrLaws.sliceIdx_none_hi,<- ag]
 rw[this,R5 x aV (bR _)];exact Jr (by rw[k4];exact bR _)
noncomputable def AO(l:List Nat)(k:Nat):List Nat:=l.take (k+1)
noncomputable def q5(l:List Nat)(at_ f k:Nat):List Nat:=l.take at_++[97+(f+k)%26]++l.drop (at_+1)
noncomputable def qY(l:List Nat)(f k j:Nat):List Nat:=[97+(f+k)%26]++l.take j
def Oh(aN:↑l=8)(al:∀c∈l,97<=c/\c<=122){k:Nat}(aB:k<8):↑(AO l k)=k+1/\∀c∈AO l k,97<=c/\c<=122:=by
 unfold AO;exact(by rw[ha];omega,λc aC=>al c (wZ aC))
def aqG(aN:↑l=8)(al:∀c∈l,97<=c/\c<=122){a f k:Nat}(aV:a<8):↑(q5 l a f k)=8/\∀c∈q5 l a f k,97<=c/\c<=122:=by
 unfold q5;refine(by rw[cU,cU,ha,k4,mq];omega,λc aC=>?_);rcases eQ.mp aC with aC|aC
 .rcases eQ.mp aC with aC|aC
  .exact al c (wZ aC)
  .rw [eB.mp aC];omega
 .exact al c (SM aC)
def aqn(aN:↑l=8)(al:∀c∈l,97<=c/\c<=122){f k j:Nat}(aI:j<8):(1<=↑(qY l f k j)/\↑(qY l f k j)<=8)/\∀c∈qY l f k j,97<=c/\c<=122:=by
 unfold qY;refine(by rw[cU,ha,mq];omega,λc aC=>?_);rcases eQ.mp aC with aC|aC
 .rw [eB.mp aC];omega
 .exact al c (wZ aC)
def arb(aN:↑l=8)(aV:a<8)(ai:i<8)(aI:j<8)(e:q5 l a f i=q5 l a f j):i=j:=by
 have af:∀k,(q5 l a f k)[a]?\(97+(f+k)%26):=λk=>by
  unfold q5;rw[mZ,j7 (by rw[ha];omega),ha,show a-min a ↑l=0 by omega];rfl
 have ak:=af i;rw[e,af j]at ak;have:=er ak;omega
def aiE(ai:i<8)(aI:j<8)(e:qY l f i u=qY l f j v):i=j:=by
 unfold qY at e;have:=(t2 e).1;omega
def acx{k:Nat}(h:k<=↑xs):jC xs none (some ((k:Nat):Int))=xs.take k:=by
 unfold jC;rw[e'.Ed,D' h,e'.aix];simp
noncomputable def six:List Str:=[ab "stage",ab "tram",ab "car",ab "foot",ab "ring",ab "free"]
def aji{x:Str}(e:x.cps.toList=l)(h0:1<=↑l)(af:↑l<=8)(al:∀c∈l,97<=c/\c<=122):made x pV 8=true:=by
 have ag:↑x=↑x.cps.toList:=by simp[x_]
 exact aoi (by rw[ag,e];exact h0) (by rw[ag,e];exact af) (by rw[e];exact al)
def Na(m:Nat)(xs:List Str):Prop:=↑xs=m/\xs.Nodup/\∀x∈xs,made x pV 8=true
def XM(h0:0<=i)(af:i<26):∃c:Nat,gU (ab "abcdefghijklmnopqrstuvwxyz").cps.toList i\c/\c=97+i.toNat:=by
 have:∀k,k<26->gU (ab "abcdefghijklmnopqrstuvwxyz").cps.toList ((k:Nat):Int)\(97+k):=∅
 refine(97+i.toNat,?_,rfl);have e:=this i.toNat ();rwa[t9 h0]at e
theorem TA:∀ys:List Str,(eG ⟨#[]⟩ ys).cps.toList=(ys.map (·.cps.toList)).flatten
 |[]=>rfl
 |[a]=>by
  show a.cps.toList=_;simp
 |a::b::r=>by
  show(a++⟨#[]⟩++eG ⟨#[]⟩ (b::r)).cps.toList=_;rw[qJ,qI,qJ,qI,TA (b::r)];simp
theorem X5(f:Nat->Nat)(n:Nat):(r4 (ab "") ((fp n).map λi=>kK (f i))).cps.toList=(fp n).map f:=by
 rw[show r4 (ab "") ((fp n).map λi=>kK (f i))=eG ⟨#[]⟩ ((fp n).map λi=>kK (f i))from z2 _ _,TA,q3];have:((λx:Str=>x.cps.toList) ∘ λi=>kK (f i))=λi=>[f i]:=rfl
 rw[this]
 induction (fp n)with
 |nil=>rfl
 |cons a l c4=>rw[es,xH,c4];rfl
def anD:∀m,m<7->↑(six.take m)=m/\(six.take m).Nodup/\∀x∈six.take m,made x pV 8=true:=∅
def aqS(K:bq)(a:Addr)(ns:List Int):bV:=λvs H Q _=>∃m:Nat,vs=[⇑a,.int m]/\Sc K a ns H/\(1<=m/\m<=8)/\∀p xs I,aM H I->Sc K a ns I->H p=none->I p\(.lst (a0 xs))->Na m xs->Q ⇑p I
def aqv (a:Addr) (ns:List Int) (ih:↑ns<=63):cu P base T 2 t.Tk t.OB Hh (aqS K a ns):=by
 refine cD (Cm T a ns ih) λfM=>?_;exists T.Kc.ok tl,9
 let(m,rfl,S,hm,q):=h;have eN:↑(ab "abcdefghijklmnopqrstuvwxyz")=26:=∅
 refine(_,(aP (pG (i:=2) tl.aH rfl (nC rfl) dW)
   (aP (b8 (i:=3) tl.aH (eS xU Gh CY A1 dW (ah (hL rfl (kN rfl T.j5 (ah aR aA)) (gu (sc:=bx (top 79)) rfl ∅) (N:=["_law_k","_law_letters","_law_script"]) (sel:=[none,some 2,some 0]) (gx (M:=["_law_script","_law_many","_law_letters","_law_base","_law_way","_law_at","_law_names_here","_law_k","_law_sign"]) ∅) (fm.of (λ_ _ _ _=>(b_ (i:=0) (ek (N:=["_law_k","_law_letters","_law_script"]) ∅ rfl))) (λ_ _ _ _=>(_,iA,by walk_at "B")) (λ_ _ _ _=>(_,(cj Oz (U 1) (ck fM ao T.gQ T.f'.bp T.gV (ah (U 2) (ah (bM eg aR (U 0)) (ah aR aA))))),by walk_at "B")))) aA)))
   (aP (b8 (i:=4) tl.aH (ck fM ao T.gQ T.f'.bp T.gV (ah (U 0) (ah aR (ah aR aA)))))
   (aP (b8 (i:=5) tl.aH (ck fM ao T.gQ T.f'.bp T.gV (ah (U 0) (ah aR (ah aR aA)))))
   (aP (b8 (i:=6) tl.aH (eJ aA))
   (aP (d7 (gs.pt (rB (de fg (ck fM ao T.gQ T.f'.bp T.gV (ah (U 0) (ah aR (ah aR aA)))) aR (cO _)) (sd (de l4 (U 1) aR (cO _))))) (aY (cp (o3 wb (eJ (ah dW (ah dW (ah dW (ah dW (ah dW (ah dW aA))))))) qc (n_ (U 1))))) eA)
   (aP (eY eP rfl (kN rfl T.j5 (ah (U 1) aA)) (b_ (i:=7) tl.aH) (aP (b8 (i:=8) tl.aH (cj Oz (U 2) (bM ky (bM eg (ck fM ao T.gQ T.f'.bp T.gV (ah (U 0) (ah aR (ah aR aA)))) (U 7)) aR)))
   (aY (d7 (de fg (U 4) aR (cO _)) (aY (d3 (eS f9 kQ k2 kO (U 6) (ah (bM nu (bM nu (o3 FL (U 3) qc (n_ (U 5))) (U 8)) (o3 FL (U 3) (n_ (bM eg (U 5) aR)) qc)) aA)))) (aY (d7 (gs.pt (rB (de fg (U 4) aR (cO _)) (sd (de l4 (U 1) aR (cO _))))) (aY (d3 (eS f9 kQ k2 kO (U 6) (ah (o3 FL (U 3) qc (n_ (bM eg (U 7) aR))) aA)))) (aY (d3 (eS f9 kQ k2 kO (U 6) (ah (bM nu (U 8) (o3 FL (U 3) qc (n_ (ck fM ao T.gQ T.f'.bp T.gV (ah (U 0) (ah (bM eg aR (U 7)) (ah aR aA))))))) aA))))))))))
   (aY (cp (U 6)))))))))),?_)
 exists (λav I=>I=H/\av=[~~~a,some (.int m),some (.str (ab "abcdefghijklmnopqrstuvwxyz")),none,none,none,none,none,none]),3
 .nofun;exact b1 _ _ (rfl,rfl)
 intro fo H1 (rfl,rfl);subst aS;exists (λav I=>aM H1 I/\Sc K a ns I/\∃aJ:Str,↑aJ.cps.toList=8/\(∀c∈aJ.cps.toList,97<=c/\c<=122)/\av=[~~~a,some (.int m),some (.str (ab "abcdefghijklmnopqrstuvwxyz")),some (.str aJ),none,none,none,none,none]),3
 .nofun;refine(∅,∅,?_);refine dh.QE (n:=8) (λi=>V.str (kK (97+(dR ns (300+(i:Int)) 26).toNat))) ∅ (λi N ai bo=>?_) (λp aq=>?_)
  .have ea:=h_ ns (300+(i:Int)) (m:=26) ∅;have ey:=iq ns (300+(i:Int)) (m:=26) ∅;let(c,aC,rfl):=XM ea ey;(nofun; repeat (dsimp only[jP];nofun));exact(Sub.name,S,(),(),∅,by rw[eN];decide,_,aC,bo)
  .have e:(fp 8).map (λi:Nat=>V.str (kK (97+(dR ns (300+(i:Int)) 26).toNat)))=a0 ((fp 8).map λi:Nat=>kK (97+(dR ns (300+(i:Int)) 26).toNat)):=by unfold a0;rw[q3];rfl
   refine(p,rfl,(fp 8).map λi:Nat=>kK (97+(dR ns (300+(i:Int)) 26).toNat),by rw[<- e];exact ay.of db,?_,?_)
   .have af:(oh (λx:Str=>↑x) ((fp 8).map λi:Nat=>kK (97+(dR ns (300+(i:Int)) 26).toNat))).sum=8:=by
     rw[q3];rfl
    rw[af,aT,tv];ac_nf
   .refine b1 _ _ (a_ aq,S.new aq,_,?_,λc aC=>?_,rfl)
    .rw [X5 (λi:Nat=>97+(dR ns (300+(i:Int)) 26).toNat) 8,aT,tv]
    .rw [X5 (λi:Nat=>97+(dR ns (300+(i:Int)) 26).toNat) 8]at aC;let(i,_,rfl):=cf.mp aC;have ea:=h_ ns (300+(i:Int)) (m:=26) ∅;have ey:=iq ns (300+(i:Int)) (m:=26) ∅;omega
 intro cv ar (s2,kL,aJ,gz,zL,rfl);have FK:↑aJ=8:=by
  have:↑aJ=↑aJ.cps.toList:=by simp[x_]
  omega
 have ahd:=h_ ns 310 (m:=3) ∅;have amJ:=iq ns 310 (m:=3) ∅;subst aS;generalize qV:dR ns 310 3=way at ahd amJ;exists (λav I=>I=ar/\av=[~~~a,some (.int m),some (.str (ab "abcdefghijklmnopqrstuvwxyz")),some (.str aJ),some (.int way),none,none,none,none]),3
 ·(nofun; repeat (dsimp only[jP];nofun));rw[qV];exact(kL,(),(),∅,b1 _ _ (rfl,rfl))
 intro fJ a' (rfl,rfl);let(at_,i3,Zz):∃at_:Nat,dR ns 311 8=(at_:Nat)/\at_<8:=by
  have ea:=h_ ns 311 (m:=8) ∅;have ey:=iq ns 311 (m:=8) ∅;exact((dR ns 311 8).toNat,(),())
 subst aS;exists (λav I=>I=a'/\av=[~~~a,some (.int m),some (.str (ab "abcdefghijklmnopqrstuvwxyz")),some (.str aJ),some (.int way),some (.int (at_:Nat)),none,none,none]),3
 ·(nofun; repeat (dsimp only[jP];nofun));rw[i3];exact(kL,(),(),(),b1 _ _ (rfl,rfl))
 intro jT cb (rfl,rfl);let(f,hf,atu):∃f:Nat,dR ns 312 26=(f:Nat)/\f<26:=by
  have ea:=h_ ns 312 (m:=26) ∅;have ey:=iq ns 312 (m:=26) ∅;exact((dR ns 312 26).toNat,(),())
 subst aS;exists (λav I=>Sc K a ns I/\aM cb I/\∃d5,cb d5=none/\I d5\(.lst [])/\av=[~~~a,some (.int m),some (.str (ab "abcdefghijklmnopqrstuvwxyz")),some (.str aJ),some (.int way),some (.int (at_:Nat)),~~~d5,none,none]),3
 .nofun;exact(eO _,λd5 h7=>b1 _ _ (kL.new h7,a_ h7,d5,h7,db,rfl))
 intro mP eX (Aq,eo,d5,h7,pj,rfl);subst aS;simp only[dx];refine t8 (λav I=>I=eX/\av=[~~~a,some (.int m),some (.str (ab "abcdefghijklmnopqrstuvwxyz")),some (.str aJ),some (.int way),some (.int (at_:Nat)),~~~d5,none,none]) (λgG b1 oc _ _=>?_) ?_
 .refine dC (decide (dR ns 313 8=0)&&decide (m<7)) (λQ aX=>?_) (λaa=>?_) (λaa=>?_)
  ·(nofun; repeat (dsimp only[jP];nofun));refine(Aq,∅,∅,∅,?_);by_cases bT:dR ns 313 8=0
   .rw [if_pos (decide_eq_true bT),show decide ((m:Int)<7)=decide (m<7)from decide_eq_decide.mpr ()];rw[decide_eq_true bT,oe]at aX;exact aX
   .rw [if_neg (by simpa using bT)];rw[decide_eq_false bT,qj]at aX;exact aX
  .rw [kb,decide_eq_true_eq,decide_eq_true_eq]at aa;let(cn,dz,e0):=anD m aa.2;nofun;refine(∅,λp aq=>(_,ay.of db,λdy mB=>?_));rw[oc];refine q dy (six.take m) _ (s2.trans (eo.trans ((a_ aq).trans (a_ mB)))) ((Aq.new aq).new mB) ((s2.trans (eo.trans (a_ aq))).free mB) ?_ (cn,dz,e0);rw[db,acx (show m<=6 by omega)];unfold a0 six;rw[Wg];rfl
  .simp only[hI];exact b1 _ _ (rfl,rfl)
 intro kR eL (rfl,rfl);let(g,a7):∃g:Nat->List Nat,g=λk=>if way=0 then q5 aJ.cps.toList at_ f k else if way=1 then AO aJ.cps.toList k else qY aJ.cps.toList f k (dR ns (320+(k:Int)) 8).toNat:=(_,rfl)
 simp only[dx];exists (λav I=>Sc K a ns I/\aM cb I/\(∃xs:List Str,I d5\(.lst (a0 xs))/\xs.map (·.cps.toList)=(fp m).map g)/\∃di d0,av=[~~~a,some (.int m),some (.str (ab "abcdefghijklmnopqrstuvwxyz")),some (.str aJ),some (.int way),some (.int (at_:Nat)),~~~d5,di,d0]),0
 .nofun;refine((),(),?_);refine d1.range (λi σ I=>Sc K a ns I/\aM cb I/\(∃xs:List Str,I d5\(.lst (a0 xs))/\xs.map (·.cps.toList)=(fp i).map g)/\∃di d0,σ=[~~~a,some (.int m),some (.str (ab "abcdefghijklmnopqrstuvwxyz")),some (.str aJ),some (.int way),some (.int (at_:Nat)),~~~d5,di,d0]) (Aq,eo,([],pj,rfl),_,_,rfl) ?_ ?_
  .rintro i σ I ai a9;ac_rfl
   let(Br,h5,(xs,o',sa),di,d0,rfl):=a9;have ats:i<8:=by have:i<(m:Int).toNat:=ai;omega
   have lh:↑xs=i:=by have:=congrArg tw sa;rwa[aT,aT,tv]at this
   let(c,aC,rfl):=XM (i:=((f:Int)+(i:Int))%26) (xc _ ∅) (yo _ ∅);have aol:(((f:Int)+(i:Int))%26).toNat=(f+i)%26:=()
   subst aS;rw[aol]at aC;simp only[fH,dx,hF,hD,q_];exists (λav i4=>i4=I/\av=[~~~a,some (.int m),some (.str (ab "abcdefghijklmnopqrstuvwxyz")),some (.str aJ),some (.int way),some (.int (at_:Nat)),~~~d5,some (.int (i:Nat)),some (.str (kK (97+(f+i)%26)))]),0
   ·(nofun; repeat (dsimp only[jP];nofun));rw[hf];exact(Br,∅,∅,∅,∅,by rw[eN];decide,_,aC,b1 _ _ (rfl,rfl))
   intro acF tN (rfl,rfl);have qx:∀k:Nat,k<=1000->k<=sizeLine:=λk h=>cZ h ∅
   have FE:↑(kK (97+(f+i)%26))=1:=rfl;have put:∀nm:Str,nm.cps.toList=g i->Sc K a ns (upd tN d5 (.lst (a0 xs++[.str nm])))/\aM cb (upd tN d5 (.lst (a0 xs++[.str nm])))/\(∃ys:List Str,(upd tN d5 (.lst (a0 xs++[.str nm]))) d5\(.lst (a0 ys))/\ys.map (·.cps.toList)=(fp (i+1)).map g):=λnm nP=>by
    refine(Br.set o' (λ_ _ z=>by cases z),h5.hE h7,xs++[nm],?_,?_)
    .rw [db];unfold a0;rw[ee];rfl
    .rw [ee,sa,wB,ee,es,qE,nP];rfl
   have Ir:↑(a0 xs)<sizeLine:=gv (show ↑(a0 xs)<=8 by unfold a0;rw[aT];omega) ∅;subst aS;dsimp only;refine dC (decide (way=0)) (λQ aX=>?_) (λN'=>?_) (λMp=>?_)
   .nofun;exact aX
   .have hw:=of_decide_eq_true N';have sH:g i=q5 aJ.cps.toList at_ f i:=by rw[a7];exact if_pos hw
    have cx:=wX aJ none (some (at_:Int));have cQ:=wX aJ (some ((at_:Int)+1)) none;nofun;refine(.inl (_,ay.of o'),by rw[FK];decide,qx _ (),by rw[FK];decide,qx _ (by rw[rj];omega),_,o',Ir,?_);let(dy,du,lT):=put (nv aJ none (some (at_:Int))++kK (97+(f+i)%26)++nv aJ (some ((at_:Int)+1)) none) (by
     rw[sH];unfold q5;rw[qJ,qI,qJ,qI,FB aJ (),show((at_:Int)+1)=((at_+1:Nat):Int)by omega,ahk aJ ()]
     rfl)
    exact(dy,du,lT,_,rfl)
   .have hw:=of_decide_eq_false Mp;refine dC (decide (way=1)) (λQ aX=>?_) (λN'=>?_) (λMp=>?_)
    .nofun;by_cases bc:way=1
     .rw [if_pos (decide_eq_true bc),decide_eq_true (show(m:Int)<9 by omega)];rw[decide_eq_true bc]at aX;exact aX
     .rw [if_neg (by simpa using bc)];rw[decide_eq_false bc]at aX;exact aX
    .have Aa:=of_decide_eq_true N';have sH:g i=AO aJ.cps.toList i:=by rw[a7];exact(if_neg hw).trans (if_pos Aa)
     nofun;refine(.inl (_,ay.of o'),by rw[FK];decide,_,o',Ir,?_);let(dy,du,lT):=put (nv aJ none (some ((i:Int)+1))) (by
      rw[sH,show((i:Int)+1)=((i+1:Nat):Int)by omega,FB aJ ()]
      rfl)
     exact(dy,du,lT,_,rfl)
    .have Aa:=of_decide_eq_false Mp;have sH:g i=qY aJ.cps.toList f i (dR ns (320+(i:Int)) 8).toNat:=by rw[a7];exact(if_neg hw).trans (if_neg Aa)
     have ea:=h_ ns (320+(i:Int)) (m:=8) ∅;have ey:=iq ns (320+(i:Int)) (m:=8) ∅;(nofun; repeat (dsimp only[jP];nofun));let(BV,Yj):∃BV:Nat,dR ns (320+(i:Int)) 8=(BV:Int):=(_,(t9 ea).symm);rw[Yj]at sH ey;rw[Yj];rw[mG]at sH;have cx:=wX aJ none (some (BV:Int));refine(.inl (_,ay.of o'),Br,(),(),∅,by rw[FK];decide,qx _ (),_,o',Ir,?_);let(dy,du,lT):=put (kK (97+(f+i)%26)++nv aJ none (some (BV:Int))) (by
      rw[sH];unfold qY;rw[qJ,qI,FB aJ ()]
      rfl)
     exact(dy,du,lT,_,rfl)
  .rintro σ I a9;ac_rfl
   let(Br,h5,(xs,o',sa),di,d0,rfl):=a9;subst aS;exact b1 _ _ (Br,h5,(xs,o',by rw[sa,show(m:Int).toNat=m by omega]),di,d0,rfl)
 intro vt h6 (aio,gS,(xs,Mt,sa),di,d0,rfl);have lh:↑xs=m:=by have:=congrArg tw sa;rwa[aT,aT,tv]at this
 have akG:∀k:Nat,(dR ns (320+(k:Int)) 8).toNat<8:=λk=>by
  have ea:=h_ ns (320+(k:Int)) (m:=8) ∅;have ey:=iq ns (320+(k:Int)) (m:=8) ∅;omega
 have ahU:∀k,k<m->(1<=↑(g k)/\↑(g k)<=8)/\∀c∈g k,97<=c/\c<=122:=λk aB=>by
  rw[a7];dsimp only;split
  .have:=aqG gz zL (f:=f) (k:=k) Zz;exact((),this.2)
  .split
   .have:=Oh gz zL (k:=k) ();exact((),this.2)
   .exact aqn gz zL (akG k)
 have akn:∀i j,i<m->j<m->g i=g j->i=j:=λi j ai aI e=>by
  rw[a7]at e;dsimp only at e;by_cases bT:way=0
  .rw [if_pos bT,if_pos bT]at e;exact arb gz Zz () () e
  .rw[if_neg bT,if_neg bT]at e;by_cases bc:way=1
   .rw [if_pos bc,if_pos bc]at e;have af:=Oh gz zL (k:=i) ();have ak:=Oh gz zL (k:=j) ();rw[e]at af;omega
   .rw [if_neg bc,if_neg bc]at e;exact aiE () () e
 have OX:∀(i:Nat) (x:Str),xs[i]?\x->i<m/\x.cps.toList=g i:=λi x ag=>by
  have ai:i<m:=by rw[<- lh];exact(b5.mp ag).1
  have e:=congrArg (λl=>l[i]?) sa
  try dsimp only at e
  rw[dv,ag,dv,BD ai]at e;exact(ai,er e)
 have N:Na m xs:=by
  refine(lh,ab'.mpr λi j ai aI lI e=>?_,λx ag=>?_)
  .let(a1,a2):=OX i _ (bj ai);let(gq,gj):=OX j _ (bj aI);rw[e,gj]at a2;have:=akn i j a1 gq a2.symm;omega
  .let(i,ai):=g8 ag;let(a1,a2):=OX i _ ai;have:=ahU i a1;exact aji a2 this.1.1 this.1.2 this.2
 subst aS;nofun;exact q d5 xs h6 (s2.trans gS) aio (s2.free h7) Mt N
noncomputable abbrev mj(d:bf):List V:=[.str (fl d.k),.str d.name,.int d.start,.int d.fin,.int d.off,.int d.near,.int d.least]
def kn(H:aw)(wl:Addr)(ds:List bf):Prop:=∃qs:List Addr,H wl\(.lst (qs.map V.ref))/\↑qs=↑ds/\∀(i:Nat) (q:Addr) (d:bf),qs[i]?\q->ds[i]?\d->H q\(.tup (mj d))
def kn.same(h:kn H wl ds)(s:aM H I):kn I wl ds:=by
 let(qs,au,aE,al):=h;exact(qs,s _ _ au,aE,λi q d af ak=>s _ _ (al i q d af ak))
def kn.snoc{H:aw}{wl p:Addr}{ds:List bf}{d:bf}{qs:List Addr}(cx:H wl\(.lst (qs.map V.ref)))(cQ:↑qs=↑ds)
  (al:∀(i:Nat) (q:Addr) (d:bf),qs[i]?\q->ds[i]?\d->H q\(.tup (mj d))) (aq:H p=none) :
  kn (upd (upd H p (.tup (mj d))) wl (.lst (qs.map V.ref++[⇑p]))) wl (ds++[d]):=by
 have iR:p≠wl:=(dF cx aq).symm;refine(qs++[p],by rw[db,ee];rfl,by rw[cU,cU,cQ];rfl,λi q e af ak=>?_);rcases nZ af with⟨gy,eE⟩|⟨gy,rfl⟩
 .rcases nZ ak with⟨oj,iY⟩|⟨oj,_⟩
  .have:=al i q e eE iY;rw[aD (bW this cx (by intro z;cases z)),aD (dF this aq)];exact this
  .omega
 .rcases nZ ak with⟨oj,iY⟩|⟨oj,rfl⟩
  .omega
  .rw [aD iR,db]
def ahg{n s j:Int}(h0:0<=s)(af:s<n)(ak:0<=j)(a8:j<n-1):s≠(s+1+j)%n:=by
 by_cases c:s+1+j<n
 .rw [oB () c];omega
 .rw [show s+1+j=(s+1+j-n)+n*1 by omega,DV,oB () ()];omega
structure u'(n:Int)(ds:List bf):Prop where
 al:∀d∈ds,pQ n d/\True
 aH:(ds.map (·.name)).Nodup
def u'.Zb(h:u' n ds)(a5:2<=n/\n<=99)(aN:1<=↑ds/\↑ds<=12):wc n ds:=(a5,aN,λd hd=>(h.al d hd).1,h.aH)
def SQ(K:bq)(a:Addr)(ns:List Int):bV:=λvs H Q _=>∃most:Int,vs=[⇑a,.int most]/\(1<=most/\most<=8)/\Sc K a ns H /\
 ∀kB wl n ds I,aM H I->Sc K a ns I->I kB\(.tup [.int n,⇑wl])->kn I wl ds->u' n ds->(∀d∈ds,d.least<=4)->(4<=n/\n<=99)->(1<=↑ds/\(↑ds:Int)<=most)->Q ⇑kB I
def ab7(h0:0<=i)(af:i<4):∃k:Nat,k<3/\gU [V.str (ab "car"),V.str (ab "car"),V.str (ab "foot"),V.str (ab "tram")] i\(.str (fl k)):=by
 have:i=0\/i=1\/i=2\/i=3:=()
 rcases this with rfl|rfl|rfl|rfl
 .exact (0,∅,cI (j:=0) rfl)
 .exact (0,∅,cI (j:=1) rfl)
 .exact (1,∅,cI (j:=2) rfl)
 .exact (2,∅,cI (j:=3) rfl)
theorem at2(x y:V)(c:Bool):gU [x,y] (if c=true then 1 else 0)\(if c=true then y else x):=by
 cases c with
 |true=>exact cI (j:=1) rfl
 |false=>exact cI (j:=0) rfl
theorem ajT(a:Addr)(ns:List Int)(ih:↑ns<=63):cu P base T 3 t.sn t.B0 FP (SQ K a ns):=by
 refine cD (Cm T a ns ih) λfM=>cD (aqv T a ns ih) λag1=>?_;exists T.Pp.ok oZ,9
 let(most,rfl,atx,S,q):=h;refine(_,(aP (b8 (i:=2) oZ.aH (cj dp (eJ (ah (bM eg aR (ck fM ao T.gQ T.f'.bp T.gV (ah (U 0) (ah aR (ah aR aA))))) (ah aR aA))) (rQ Z0 rfl T.Nu Hu (ah (jt fg (ck fM ao T.gQ T.f'.bp T.gV (ah (U 0) (ah aR (ah aR aA)))) aR (cO _)) aA))))
   (aP (b8 (i:=3) oZ.aH (ck ag1 ao T.aaR T.Kc.bp T.afv (ah (U 0) (ah (bM eg aR (ck fM ao T.gQ T.f'.bp T.gV (ah (U 0) (ah aR (ah (U 1) aA))))) aA))))
   (aP (b8 (i:=4) oZ.aH (eJ aA))
   (aP (eY eP rfl (kN rfl T.j5 (ah (fy iu rfl T.hX hU (ah (U 3) aA)) aA)) (b_ (i:=5) oZ.aH) (aP (b8 (i:=6) oZ.aH (ck fM ao T.gQ T.f'.bp T.gV (ah (U 0) (ah (bM eg aR (bM kI aR (U 5))) (ah (U 2) aA)))))
   (aP (b8 (i:=7) oZ.aH (bM ky (bM eg (bM eg (U 6) aR) (ck fM ao T.gQ T.f'.bp T.gV (ah (U 0) (ah (bM eg aR (bM kI aR (U 5))) (ah (bM lC (U 2) aR) aA))))) (U 2)))
   (aP (b8 (i:=8) oZ.aH (cj dp (eJ (ah dW (ah dW (ah dW (ah dW aA))))) (ck fM ao T.gQ T.f'.bp T.gV (ah (U 0) (ah (bM eg aR (bM kI aR (U 5))) (ah aR aA))))))
   (aP (b8 (i:=9) oZ.aH (cj dp (eJ (ah (ck fM ao T.gQ T.f'.bp T.gV (ah (U 0) (ah (bM eg aR (bM kI aR (U 5))) (ah aR aA)))) (ah aR aA))) (rQ Z0 rfl T.Nu Hu (ah (jt fg (ck fM ao T.gQ T.f'.bp T.gV (ah (U 0) (ah (bM eg aR (bM kI aR (U 5))) (ah aR aA)))) aR (cO _)) aA))))
   (aP (b8 (i:=10) oZ.aH (ck fM ao T.gQ T.f'.bp T.gV (ah (U 0) (ah (bM eg aR (bM kI aR (U 5))) (ah aR aA)))))
   (aP (d7 (gs.pt (rB (de fg (ck fM ao T.gQ T.f'.bp T.gV (ah (U 0) (ah aR (ah aR aA)))) aR (cO _)) (sd (de oN (ck fM ao T.gQ T.f'.bp T.gV (ah (U 0) (ah (bM eg aR (U 5)) (ah aR aA)))) aR (cO _))))) (aP (b8 (i:=8) oZ.aH dW)
   (aY (b8 (i:=9) oZ.aH aR))) eA)
   (aY (d3 (eS f9 kQ k2 kO (U 4) (ah (oA (ah (U 8) (ah (cj dp (U 3) (U 5)) (ah (U 6) (ah (U 7) (ah (U 9) (ah (U 10) (ah (bM eg aR (ck fM ao T.gQ T.f'.bp T.gV (ah (U 0) (ah (bM eg aR (bM kI aR (U 5))) (ah aR aA))))) aA)))))))) aA)))))))))))
   (aY (cp (oA (ah (U 2) (ah (U 4) aA))))))))),?_)
 exists (λav I=>aM H I/\Sc K a ns I/\∃n:Int,(4<=n/\n<=99)/\av=[~~~a,some (.int most),some (.int n),none,none,none,none,none,none,none,none]),3
 .have ea:=h_ ns 2 (m:=13) ∅;have ey:=iq ns 2 (m:=13) ∅;(nofun; repeat (dsimp only[jP];nofun));let(n,a5,rx):∃n:Int,(4<=n/\n<=99)/\(if decide (dR ns 3 6=0)=true then V.int 99 else V.int (4+dR ns 2 13))=V.int n:=by
   split
   .exact (99,∅,rfl)
   .exact (_,(),rfl)
  refine(S,∅,∅,∅,∅,λp aq=>(S.new aq,∅,∅,∅,_,ay.of db,_,at2 _ _ _,?_));rw[rx];exact b1 _ _ (a_ aq,S.new aq,n,a5,rfl)
 intro auE b6 (s0,Ff,n,a5,rfl);let(m,ae9,hm):∃m:Nat,1+dR ns 1 most=(m:Nat)/\(1<=m/\m<=8/\(m:Int)<=most):=by
  have ea:=h_ ns 1 (m:=most) ();have ey:=iq ns 1 (m:=most) ();exact((1+dR ns 1 most).toNat,(),())
 subst aS;exists (λav I=>aM b6 I/\Sc K a ns I/\∃nl xs,I nl\(.lst (a0 xs))/\Na m xs/\av=[~~~a,some (.int most),some (.int n),~~~nl,none,none,none,none,none,none,none]),3
 .nofun;refine(_,_,rfl,Ff,∅,(),_,rfl,?_);rw[ae9];exact(m,rfl,Ff,(),λp xs I s1 p5 _ e N=>b1 _ _ (s1,p5,p,xs,e,N,rfl))
 intro fo H1 (s1,p5,nl,xs,rx,N,rfl);subst aS;exists (λav I=>Sc K a ns I/\aM H1 I/\∃wl,H1 wl=none/\I wl\(.lst [])/\av=[~~~a,some (.int most),some (.int n),~~~nl,~~~wl,none,none,none,none,none,none]),3
 .nofun;exact(eO _,λwl gz=>b1 _ _ (p5.new gz,a_ gz,wl,gz,db,rfl))
 intro fJ a' (vA,s3,wl,gz,hA,rfl);have X9:↑(a0 xs)=m:=by unfold a0;rw[aT,N.1]
 subst aS;nofun;refine(_,.inl (ay.of (s3 _ _ rx)),(),by rw[X9];omega,?_);rw[show((↑(a0 xs):Nat):Int).toNat=m by rw[X9];rfl];refine d1.range (λi σ I=>Sc K a ns I/\aM H1 I/\(∃ds,kn I wl ds/\↑ds=i/\(∀d∈ds,pQ n d/\d.least<=4)/\∀(j:Nat) (d:bf),ds[j]?\d->xs[j]?\d.name)/\∃ed cL di d0 pa jE,σ=[~~~a,some (.int most),some (.int n),~~~nl,~~~wl,ed,cL,di,d0,pa,jE]) (vA,s3,([],([],hA,rfl,λi q d h=>by simp at h),rfl,λd h=>by simp at h,λj d h=>by simp at h),_,_,_,_,_,_,rfl) ?_ ?_
 .rintro i σ I ai a9;ac_rfl
  let(mI,s4,(ds,ij,fP,bC,nP),ed,cL,di,d0,pa,jE,rfl):=a9;have En:i<m:=ai;have FJ:xs[i]?\(xs[i]'(by rw[N.1];exact En)):=bj _;subst aS;generalize xs[i]'(by rw[N.1];exact En)=nm at FJ;have aaN:=s4 _ _ rx;have anf:gU (a0 xs) ((i:Nat):Int)\(.str nm):=cI (by unfold a0;rw[dv,FJ];rfl);simp only[fH,dx,hF,hD,q_];exists (λav i4=>i4=I/\∃st:Int,(0<=st/\st<n)/\av=[~~~a,some (.int most),some (.int n),~~~nl,~~~wl,some (.int (i:Nat)),some (.int st),di,d0,pa,jE]),0
  .have ea:=h_ ns (10+7*(i:Int)) (m:=n) ();have ey:=iq ns (10+7*(i:Int)) (m:=n) ();(nofun; repeat (dsimp only[jP];nofun));exact(.inl (∅,∅),mI,(),(),(),b1 _ _ (rfl,_,(ea,ey),rfl))
  intro acF tN (rfl,st,fB,rfl);subst aS;simp only[dx];exists (λav i4=>i4=tN/\∃f_:Int,(0<=f_/\f_<n)/\st≠f_/\av=[~~~a,some (.int most),some (.int n),~~~nl,~~~wl,some (.int (i:Nat)),some (.int st),some (.int f_),d0,pa,jE]),0
  .have ea:=h_ ns (11+7*(i:Int)) (m:=n-1) ();have ey:=iq ns (11+7*(i:Int)) (m:=n-1) ();have m0:=xc (st+1+dR ns (11+7*(i:Int)) (n-1)) (show n≠0 by omega);have jc:=yo (st+1+dR ns (11+7*(i:Int)) (n-1)) (show 0<n by omega);(nofun; repeat (dsimp only[jP];nofun));exact(.inl (∅,∅),mI,(),(),(),(),b1 _ _ (rfl,_,(m0,jc),ahg fB.1 fB.2 ea (),rfl))
  intro atB m9 (rfl,f_,HR,cA,rfl);subst aS;simp only[dx];exists (λav i4=>aM m9 i4/\Sc K a ns i4/\∃k:Nat,k<3/\av=[~~~a,some (.int most),some (.int n),~~~nl,~~~wl,some (.int (i:Nat)),some (.int st),some (.int f_),some (.str (fl k)),pa,jE]),0
  .have ea:=h_ ns (12+7*(i:Int)) (m:=4) ∅;have ey:=iq ns (12+7*(i:Int)) (m:=4) ∅;let(k,aB,i3):=ab7 ea ey;(nofun; repeat (dsimp only[jP];nofun));exact(∅,λp aq=>(.inl (∅,∅),mI.new aq,(),(),∅,_,ay.of db,_,i3,b1 _ _ (a_ aq,mI.new aq,k,aB,rfl)))
  intro atj J2 (lD,SC,oQ,ke,rfl);subst aS;simp only[dx];exists (λav i4=>aM J2 i4/\Sc K a ns i4/\∃uK:Int,(0<=uK/\uK<=30)/\av=[~~~a,some (.int most),some (.int n),~~~nl,~~~wl,some (.int (i:Nat)),some (.int st),some (.int f_),some (.str (fl oQ)),some (.int uK),jE]),0
  .have ea:=h_ ns (13+7*(i:Int)) (m:=9) ∅;have ey:=iq ns (13+7*(i:Int)) (m:=9) ∅;(nofun; repeat (dsimp only[jP];nofun));let(v,aK,rx):∃v:Int,(0<=v/\v<=30)/\(if decide (dR ns (14+7*(i:Int)) 12=0)=true then V.int 30 else V.int (dR ns (13+7*(i:Int)) 9))=V.int v:=by
    split
    .exact (30,∅,rfl)
    .exact (_,(),rfl)
   refine(.inl (∅,∅),SC,(),(),∅,∅,λp aq=>(.inl (∅,∅),SC.new aq,(),(),∅,_,ay.of db,_,at2 _ _ _,?_));rw[rx];exact b1 _ _ (a_ aq,SC.new aq,v,aK,rfl)
  intro atk QN (vg,yR,R2,aef,rfl);subst aS;simp only[dx];exists (λav i4=>i4=QN/\∃Iw:Int,(0<=Iw/\Iw<=5)/\av=[~~~a,some (.int most),some (.int n),~~~nl,~~~wl,some (.int (i:Nat)),some (.int st),some (.int f_),some (.str (fl oQ)),some (.int R2),some (.int Iw)]),0
  .have ea:=h_ ns (15+7*(i:Int)) (m:=6) ∅;have ey:=iq ns (15+7*(i:Int)) (m:=6) ∅;(nofun; repeat (dsimp only[jP];nofun));exact(.inl (∅,∅),yR,(),(),∅,b1 _ _ (rfl,_,(),rfl))
  intro auO aen (rfl,ne1,ai2,rfl);subst aS;simp only[dx];exists (λav i4=>i4=aen/\∃(k:Nat) (uK:Int),k<3/\(0<=uK/\uK<=30)/\av=[~~~a,some (.int most),some (.int n),~~~nl,~~~wl,some (.int (i:Nat)),some (.int st),some (.int f_),some (.str (fl k)),some (.int uK),some (.int ne1)]),0
  .refine dC (decide (dR ns 9 6=0)&&decide (0<dR ns (60+(i:Int)) 4)) (λQ aX=>?_) (λ_=>?_) (λ_=>?_)
   ·(nofun; repeat (dsimp only[jP];nofun));refine(yR,(),(),∅,?_);by_cases bT:dR ns 9 6=0
    .rw [if_pos (decide_eq_true bT)];rw[decide_eq_true bT,oe]at aX;exact(yR,(),(),∅,aX)
    .rw [if_neg (by simpa using bT)];rw[decide_eq_false bT,qj]at aX;exact aX
   .nofun;exact b1 _ _ (rfl,1,0,∅,∅,rfl)
   .nofun;exact b1 _ _ (rfl,oQ,R2,ke,aef,rfl)
  intro aua auh (rfl,k,of2,aB,alW,rfl);have iW:=lD.trans vg;have apq:=iW _ _ aaN;have arY:=ij.same iW;have ea:=h_ ns (16+7*(i:Int)) (m:=4) ∅;have ey:=iq ns (16+7*(i:Int)) (m:=4) ∅;let(wI,aiY,hle):∃wI:Int,1+dR ns (16+7*(i:Int)) 4=wI/\1<=wI/\wI<=4:=(_,rfl,(),());let(qs,cx,cQ,al):=arY;subst aS;(nofun; repeat (dsimp only[jP];nofun));rw[aiY];refine(.inl (_,ay.of cx),_,ay.of apq,_,anf,.inl (∅,∅),yR,(),(),∅,∅,λp aq=>?_);have dq:wl≠p:=dF cx aq;have pD:=kn.snoc (d:=(k,nm,st,f_,of2,ne1,wI)) cx cQ al aq;refine(_,by rw[aD dq];exact cx,gv (show ↑(qs.map V.ref)<=8 by rw[aT];omega) ∅,(yR.new aq).set (by rw[aD dq];exact cx) (λ_ _ z=>by cases z),((s4.trans iW).trans (a_ aq)).hE gz,(ds++[(k,nm,st,f_,of2,ne1,wI)],pD,by rw[cU,fP];rfl,λd hd=>?_,λj d hd=>?_),?_)
  .rcases eQ.mp hd with hd|hd
   .exact bC d hd
   .rw [eB.mp hd];exact((aB,N.2.2 nm (cm FJ),(fB.1,fB.2),(HR.1,HR.2),cA,alW,(ai2.1,by dsimp only;omega),(hle.1,by dsimp only;omega)),hle.2)
  .rcases nZ hd with⟨_,z⟩|⟨z,rfl⟩
   .exact nP j d z
   .rw [z,fP];exact FJ
  .repeat (first|exact(_,rfl)|refine((_,rfl),?_))
 .rintro σ I a9;ac_rfl
  let(mI,s4,(ds,ij,fP,bC,nP),ed,cL,di,d0,pa,jE,rfl):=a9;subst aS;nofun;refine(∅,λkB qR=>?_);refine q kB wl n ds _ (((s0.trans s1).trans s4).trans (a_ qR)) (mI.new qR) db (ij.same (a_ qR)) (λd hd=>((bC d hd).1,trivial),?_) (λd hd=>(bC d hd).2) a5 ();have e:ds.map (·.name)=xs:=by
   refine List.ext_getElem? λj=>?_
   rw[dv];cases h:ds[j]? with
   |some d=>exact(nP j d h).symm
   |none=>
    have:↑ds<=j:=ajB.mp h;exact(ajB.mpr (by rw[N.1];omega)).symm
  rw[e];exact N.2.1
def aoA(d:bf):((((fl d.k++ab " ")++d.name)++ab " ")++r4 (ab " ") [num d.start,num d.fin,num d.off,num d.near,num d.least])=eG c_ (pR d):=by
 apply F2;have gm:(ab " ").cps.toList=[32]:=∅
 rw[show r4 (ab " ") [num d.start,num d.fin,num d.off,num d.near,num d.least]=eG c_ [num d.start,num d.fin,num d.off,num d.near,num d.least]from z2 _ _];rw[qJ,qI,Ee,s_,s_];unfold pR;simp only[qJ,qI,es,qE,mE,gm,mZ,AX,MW]
def aa7(n:Int):ab "ring "++num n=eG c_ [ab "ring",num n]:=by
 apply F2;have au:(ab "ring ").cps.toList=[114,105,110,103,32]:=∅
 have aE:(ab "ring").cps.toList=[114,105,110,103]:=∅
 rw[Ee,s_];simp only[qJ,qI,es,qE,mE,au,aE,AX,MW]
theorem GU:∀{ys:List Str},(∀y∈ys,↑y<=B)->(ys.map (·.length)).sum<=↑ys*B
 |[],_=>by simp
 |a::r,h=>by
  have af:=h a (by simp);have ak:=GU (B:=B) (ys:=r) λy aQ=>h y (jj _ aQ)
  rw[es,Ax,gW,y_];omega
def aro(h:wc n ds):∀y∈(jg n ds).map (eG c_),↑y<=63:=λy aQ=>by
 let(r,ao,rfl):=cf.mp aQ;have:=rU c_ 8 r λx ag=>(h.plain r ao x ag).1
 rw[tH]at this;have aN:↑r<=7:=by
  rcases d6.mp ao with rfl|ao
  .simp
  .let(d,hd,rfl):=cf.mp ao;simp[pR]
 omega
def QJ(K:bq):bV:=λvs H Q _=>∃n wl ds,vs=[.int n,⇑wl]/\kn H wl ds/\u' n ds/\(2<=n/\n<=99)/\(1<=↑ds/\↑ds<=12)/\aF H/\Q (.str (r2 n ds)) H
def amk(K:bq):bV:=λvs H Q _=>∃n wl ds,vs=[.int n,⇑wl]/\kn H wl ds/\u' n ds/\(2<=n/\n<=99)/\(1<=↑ds/\↑ds<=12)/\∀I,aM H I->Q (.str (r2 n ds)) I
theorem am2:cu P base T 1 t.Tm t.ET CJ (QJ K):=by
 refine cT.forget (sp:=amk K) ?_ λvs H Q E h=>?_
 .exists T.K9.ok NA,9
  let(n,wl,ds,rfl,L,D,a5,aN,q):=h;refine(_,(aP (b8 (i:=2) NA.aH (eJ (ah (bM nu dW (rQ As rfl T.dL Av (ah (U 0) aA))) aA)))
   (aP (eY eP rfl (eV (U 1)) (b_ (i:=3) NA.aH) (aY (d3 (eS f9 kQ k2 kO (U 2) (ah (bM nu (bM nu (bM nu (bM nu (cj hk (U 3) aR) dW) (cj hk (U 3) aR)) dW) (eS xU Gh CY A1 dW (ah (hL rfl (ahp (o3 apQ (U 3) (n_ aR) qc)) (gu (sc:=bx (top 81)) rfl ∅) (N:=["_law_number"]) (sel:=[none]) (gx (M:=["_law_places","_law_ways_here","_law_rows","_law_way"]) ∅) (fm.of (λ_ _ _ _=>(b_ (i:=0) (ek (N:=["_law_number"]) ∅ rfl))) (λ_ _ _ _=>(_,iA,by walk_at "B")) (λ_ _ _ _=>(_,(rQ As rfl T.dL Av (ah (U 0) aA)),by walk_at "B")))) aA))) aA)))))
   (aY (cp (eS xU Gh CY A1 dW (ah (U 2) aA)))))),?_)
  have dd:=D.Zb a5 aN;let(qs,cx,cQ,al):=L;have hlen:∀x:Str,sx x->↑x<=8:=λx h=>h.1
  have qx:∀k:Nat,k<=1000->k<=sizeLine:=λk h=>cZ h ∅
  have afl:↑(ab "ring ")=5:=∅
  have t7:↑(ab " ")=1:=∅
  nofun;have atc:↑(ab (toString n))<=8:=(m1 (v:=n) () ()).1;refine(Ke (),qx _ (by rw[afl];omega),∅,λd5 E4=>?_);rw[aa7];have s0:aM H (upd H d5 (.lst [V.str (eG c_ [ab "ring",num n])])):=a_ E4;refine((_,ay.of (s0 _ _ cx)),?_);refine d1.list (xs:=qs.map V.ref) (λi σ I=>aM H I/\I d5\(.lst (a0 ((jg n (ds.take i)).map (eG c_))))/\∃x,σ=[some (.int n),~~~wl,~~~d5,x]) ?_ ?_ ?_ ?_
  .exact (s0,db,none,rfl)
  .intro i σ I ai (bb,_,_);exact ay.of (bb _ _ cx)
  .rintro i v σ I aK a9;ac_rfl
   let(bb,ao,x,rfl):=a9;let(dB,aL,rfl):=b' aK;have ny:i<↑ds:=by rw[<- cQ];exact(b5.mp aL).1
   have hd:ds[i]?\ds[i]:=bj ny;have jR:d4 K I dB (mj ds[i]):=d4.of (bb _ _ (al i dB _ aL hd));have hw:=(D.al _ (cm hd)).1;have gq:=hw.st;have gj:=hw.f_;have jf:=hw.of;have iF:=hw.xF;have lx:=hw.le;have gy:=hlen _ (RN ds[i].k);have eE:=hlen _ (Mn hw.nm);have Cs:↑(num ds[i].start)<=8:=hlen _ (m1 (v:=ds[i].start) () ());have E0:↑(num ds[i].fin)<=8:=hlen _ (m1 (v:=ds[i].fin) () ());have FC:↑(num ds[i].off)<=8:=hlen _ (m1 (v:=ds[i].off) () ());have auV:↑(num ds[i].least)<=8:=hlen _ (m1 (v:=ds[i].least) () ());have atD:↑(num ds[i].near)<=8:=hlen _ (m1 (v:=ds[i].near) () ());subst aS;nofun;refine(.inl (_,ay.of ao),?_);have aq5:gU (mj ds[i]) 0\(.str (fl ds[i].k)):=cI (j:=0) rfl;have amA:gU (mj ds[i]) 1\(.str ds[i].name):=cI (j:=1) rfl;refine(_,jR,_,aq5,_,rfl,qx _ (),_,jR,_,amA,_,rfl,qx _ (by rw[rj];omega),qx _ (by simp only[rj];omega),?_);have PE:jC (mj ds[i]) (some 2) none=[.int ds[i].start,.int ds[i].fin,.int ds[i].off,.int ds[i].near,.int ds[i].least]:=rfl;refine(_,jR,?_,λp aq=>((_,d4.of db),?_))
   .show ¬(e'.dn 7 0 (some 2)=0/\e'.dn 7 7 none=7);decide
   rw[PE];have asO:↑(r4 (ab " ") [num ds[i].start,num ds[i].fin,num ds[i].off,num ds[i].near,num ds[i].least])<=50:=by
    rw[show r4 (ab " ") [num ds[i].start,num ds[i].fin,num ds[i].off,num ds[i].near,num ds[i].least]=eG c_ [num ds[i].start,num ds[i].fin,num ds[i].off,num ds[i].near,num ds[i].least]from z2 _ _];have:=rU c_ 8 [num ds[i].start,num ds[i].fin,num ds[i].off,num ds[i].near,num ds[i].least] (λy aQ=>by
     simp only[d6,pI,or_false]at aQ;rcases aQ with rfl|rfl|rfl|rfl|rfl <;> assumption)
    rw[tH]at this;simp only[gW,zr]at this;omega
   refine dh.akY (xs:=[.int ds[i].start,.int ds[i].fin,.int ds[i].off,.int ds[i].near,.int ds[i].least]) (zs:=a0 [num ds[i].start,num ds[i].fin,num ds[i].off,num ds[i].near,num ds[i].least]) (d4.of db) (qx _ ((∅:5<=1000))) rfl (λj v z N aK aO bo=>?_) (λdu gF=>?_)
   .have key:∃a:Int,v=.int a/\z=.str (num a)/\0<=a/\a<100:=by
     match j,aK,aO with
     |0,aK,aO=>cases aK;cases aO;exact(_,rfl,rfl,gq.1,())
     |1,aK,aO=>cases aK;cases aO;exact(_,rfl,rfl,gj.1,())
     |2,aK,aO=>cases aK;cases aO;exact(_,rfl,rfl,jf.1,())
     |3,aK,aO=>cases aK;cases aO;exact(_,rfl,rfl,iF.1,())
     |4,aK,aO=>cases aK;cases aO;exact(_,rfl,rfl,(),())
     |k+5,aK,aO=>simp at aK
    let(a,rfl,rfl,auz,atz):=key;nofun;exact(Sub.name,Ke (),bo)
   .nofun;have aom:d5≠du:=by
     rintro rfl;rw[aD (dF ao aq)]at gF;rw[gF]at ao;cases ao
    have h7:(upd (upd I p (.tup [.int ds[i].start,.int ds[i].fin,.int ds[i].off,.int ds[i].near,.int ds[i].least])) du (.lst (a0 [num ds[i].start,num ds[i].fin,num ds[i].off,num ds[i].near,num ds[i].least]))) d5\(.lst (a0 ((jg n (ds.take i)).map (eG c_)))):=by
     rw[aD aom,aD (dF ao aq)];exact ao
    have Bh:aM I (upd (upd I p (.tup [.int ds[i].start,.int ds[i].fin,.int ds[i].off,.int ds[i].near,.int ds[i].least])) du (.lst (a0 [num ds[i].start,num ds[i].fin,num ds[i].off,num ds[i].near,num ds[i].least]))):=(a_ aq).trans (a_ gF);have XH:=ay.of (K:=K) (H:=upd (upd I p (.tup [.int ds[i].start,.int ds[i].fin,.int ds[i].off,.int ds[i].near,.int ds[i].least])) du (.lst (a0 [num ds[i].start,num ds[i].fin,num ds[i].off,num ds[i].near,num ds[i].least]))) (a:=du) db;generalize upd (upd I p (.tup [.int ds[i].start,.int ds[i].fin,.int ds[i].off,.int ds[i].near,.int ds[i].least])) du (.lst (a0 [num ds[i].start,num ds[i].fin,num ds[i].off,num ds[i].near,num ds[i].least]))=ar at h7 Bh XH⊢;refine(_,XH,?_,qx _ (by simp only[rj];omega),_,h7,?_,?_,?_,_,rfl)
    .simp only[es,qE,Ax,ahL,gW,zr];omega
    .rw [gb,aT];exact gv (show ↑(jg n (ds.take i))<=13 by unfold jg;rw[gW,aT,ha];omega) ∅
    .exact λb u e=>by rw[aD (dF e E4)];exact Bh _ _ (bb _ _ e)
    .rw [db,aoA ds[i]];congr 2;unfold jg a0;simp;rw[oo,dv,hd];rfl
  .rintro σ I a9;ac_rfl
   let(bb,ao,x,rfl):=a9;subst aS;nofun;rw[aT,cQ,hO]at ao;refine(_,ay.of ao,?_,?_)
   .have ih:∀y∈(jg n ds).map (eG c_),↑y<=63:=aro dd;have auq:↑((jg n ds).map (eG c_))<=13:=by
     unfold jg;rw[aT,gW,aT];omega
    have:=GU ih;rw[(∅:↑(ab "\n")=1)];omega
   .have:=q I bb;unfold r2 at this;rw[show r4 (ab "\n") ((jg n ds).map (eG c_))=eG nl ((jg n ds).map (eG c_))from z2 _ _];exact this
 .let(n,wl,ds,af,ak,a8,bZ,dS,bz,q):=h;exact(bz,n,wl,ds,af,ak,a8,bZ,dS,λI bb=>(bb,q))
def ajY(K:bq):bV:=λvs H Q _=>∃n a b d e,vs=[⇑a,⇑b,.int n]/\d4 K H a (mj d)/\d4 K H b (mj e)/\pQ n d/\pQ n e/\Q (.bG (mt n d e)) H
noncomputable def iG(d e:bf):Bool:=decide (d.k=2)==decide (e.k=2)
def am5(K:bq):bV:=λvs H Q _=>∃wl ds,∃i j:Nat,∃d e,vs=[⇑wl,.int i,.int j]/\kn H wl ds/\ds[i]?\d/\ds[j]?\e/\d.k<3/\e.k<3/\Q (.bG (iG d e)) H
def alI:cu P base T 1 t.Ii t.Pm JB (ajY K):=by
 exists T.HO.ok GX,9
 let(n,a,b,d,e,rfl,sP,x9,hd,he,q):=h;refine(_,(aP (d7 (de fg (cj hk (U 0) aR) (cj hk (U 1) aR) (cO _)) (aY (cp nF)) eA)
   (aP (d7 (gs.pt (ux (de fg (cj hk (U 0) aR) (cj hk (U 1) aR) (cO _)) (ux (de fg (cj hk (U 0) aR) (cj hk (U 1) aR) (cO _)) (yh (de fg (cj hk (U 0) aR) (cj hk (U 1) aR) (cO _)))))) (aY (cp nF)) eA)
   (aP (b8 (i:=3) GX.aH (bM ky (bM lC (cj hk (U 0) aR) (cj hk (U 0) aR)) (U 2)))
   (aP (b8 (i:=4) GX.aH (bM ky (bM lC (cj hk (U 1) aR) (cj hk (U 0) aR)) (U 2)))
   (aP (b8 (i:=5) GX.aH (bM ky (bM lC (cj hk (U 1) aR) (cj hk (U 0) aR)) (U 2)))
   (aY (cp (jt rt (jt l4 (U 4) (U 3) (cO _)) (jt l4 (U 5) (U 3) (cO _)) (cO _))))))))),?_)
 have a2:gU (mj d) 2\(.int d.start):=cI (j:=2) rfl;have eu:gU (mj d) 3\(.int d.fin):=cI (j:=3) rfl;have gj:gU (mj e) 2\(.int e.start):=cI (j:=2) rfl;have jf:gU (mj e) 3\(.int e.fin):=cI (j:=3) rfl;have f1:=hd.st;have f2:=hd.f_;have e6:=he.st;have f4:=he.f_;refine dC (decide (d.fin=e.fin)) (λQ aX=>?_) (λc=>?_) (λc=>?_)
 .nofun;refine(_,sP,_,eu,_,x9,_,jf,rfl,?_);nofun;exact aX
 .nofun;unfold mt vo at q;rw[c,we]at q;exact q
 .have c':=of_decide_eq_false c;nofun;refine dC (decide (d.start=e.start)||(decide (d.start=e.fin)||decide (d.fin=e.start))) (λQ aX=>?_) (λaa=>?_) (λaa=>?_)
  .nofun;refine(_,sP,_,a2,_,x9,_,gj,rfl,?_);by_cases bc:d.start=e.start
   .rw [if_pos (by simp[bc])];rw[decide_eq_true bc,we]at aX;exact aX
   .rw[if_neg (by simpa using bc)];refine(_,sP,_,a2,_,x9,_,jf,rfl,?_);by_cases bY:d.start=e.fin
    .rw [if_pos (by simp[bY])];rw[decide_eq_false bc,decide_eq_true bY,nY,we]at aX;exact aX
    .rw [if_neg (by simpa using bY)];refine(_,sP,_,eu,_,x9,_,gj,rfl,?_);rw[decide_eq_false bc,decide_eq_false bY,nY,nY]at aX;rw[show decide (V.int d.fin=V.int e.start)=decide (d.fin=e.start)from decide_eq_decide.mpr (by simp)];exact aX
  .nofun;unfold mt vo at q;rw[c,nY,if_pos (by
    rw[u5,u5,decide_eq_true_eq,decide_eq_true_eq,decide_eq_true_eq]at aa
    omega)]at q
   exact q
  .rw[FW,FW,decide_eq_false_iff_not,decide_eq_false_iff_not,decide_eq_false_iff_not]at aa;have sk:0<n:=()
   have dy:0<(e.start-d.start)%n:=by rw[G3 f1.1 f1.2 e6.1 e6.2];split <;> omega
   have du:0<(e.fin-d.start)%n:=by rw[G3 f1.1 f1.2 f4.1 f4.2];split <;> omega
   unfold mt vo mm at q;rw[c,nY,if_neg (),decide_eq_true dy,decide_eq_true du,oe,oe]at q;nofun;refine(_,sP,_,eu,_,sP,_,a2,_,rfl,_,rfl,sk,_,x9,_,gj,_,sP,_,a2,_,rfl,_,rfl,sk,_,x9,_,jf,_,sP,_,a2,_,rfl,_,rfl,sk,?_);generalize decide ((e.start-d.start)%n<(d.fin-d.start)%n)=X at q⊢;generalize decide ((e.fin-d.start)%n<(d.fin-d.start)%n)=Y at q⊢;cases X <;> cases Y <;> exact q
def aiN:cu P base T 1 t.LL t.ul IY (am5 K):=by
 exists T.Nh.ok YO,9
 let(wl,ds,i,j,d,e,rfl,(qs,cx,cQ,al),ai,aI,aB,fa,q):=h;have hR:qs[i]?\(qs[i]'(by rw[cQ];exact(b5.mp ai).1)):=bj _;have fs:qs[j]?\(qs[j]'(by rw[cQ];exact(b5.mp aI).1)):=bj _;have rv:=al i _ d hR ai;have ud:=al j _ e fs aI;have vn:=cI (xs:=qs.map V.ref) (j:=i) (by rw[dv,hR];rfl);have Jf:=cI (xs:=qs.map V.ref) (j:=j) (by rw[dv,fs];rfl);refine(_,(aP (b8 (i:=3) YO.aH (jt fg (cj hk (cj dp (U 0) (U 1)) aR) dW (cO _)))
   (aY (cp (jt fg (U 3) (jt fg (cj hk (cj dp (U 0) (U 2)) aR) dW (cO _)) (cO _))))),?_)
 nofun;refine(_,ay.of cx,_,vn,_,rfl,_,d4.of rv,_,cI (j:=0) rfl,rfl,_,ay.of cx,_,Jf,_,rfl,_,d4.of ud,_,cI (j:=0) rfl,rfl,?_);have af:∀k,k<3->decide (V.str (fl k)=V.str (ab "tram"))=decide (k=2):=∅
 rw[af d.k aB,af e.k fa];unfold iG at q;rw[show decide (decide (d.k=2)=decide (e.k=2))=(decide (d.k=2)==decide (e.k=2))from rfl];exact q
structure lR(b6 H:aw)(gl:Addr)(qs:List Addr)(cB:List (List Nat)):Prop where
 af:H gl\(.lst (qs.map V.ref))
 ak:↑qs=↑cB
 a8:qs.Nodup
 bZ:gl∉qs
 dS:∀(i:Nat) (q:Addr) (g:List Nat),qs[i]?\q->cB[i]?\g->H q\(.lst (g.map λk:Nat=>V.int k))
 iU:∀q∈qs,b6 q=none
def lR.same(h:lR b6 H gl qs cB)(s:aM H I):lR b6 I gl qs cB:=
 (s _ _ h.af,h.ak,h.a8,h.bZ,λi q g a b=>s _ _ (h.dS i q g a b),h.iU)
structure kD(n:Int)(ds:List bf)(m:Nat)(cB:List (List Nat)):Prop where
 ne:∀g∈cB,g≠[]
 pm:cB.flatten.Perm (fp m)
 Dj:∀g∈cB,∀i∈g,∀j∈g,i≠j->∀d e,ds[i]?\d->ds[j]?\e->mt n d e=false
 al:∀g∈cB,∀i∈g,∀j∈g,∀d e,ds[i]?\d->ds[j]?\e->iG d e=true
def kD.nil(n:Int)(ds:List bf):kD n ds 0 []:=(by simp,by simp,by simp,by simp)
def wY:iG y z=true↔(y.k=2↔z.k=2):=by
 unfold iG;simp
def aj6(h:iG y z=true):iG z y=true:=wY.mpr (wY.mp h).symm
def akg{x y z:bf}(h:iG x y=true)(h':iG y z=true):iG x z=true:=wY.mpr ((wY.mp h).trans (wY.mp h'))
def lR.off{gl x:Addr}(h:lR b6 H gl qs cB)(ag:x≠gl)(aL:x∉qs):lR b6 (upd H x o) gl qs cB:=
 (by rw[aD (dm ag)];exact h.af,h.ak,h.a8,h.bZ,λi q g a b=>by rw[aD (λz=>aL (by rw[<- z];exact cm a))];exact h.dS i q g a b,h.iU)
def Ud(l:List α)(i:Nat)(a:α):(ins l i a).Perm (l++[a]):=by
 unfold ins;refine arO.trans ?_;rw[QL];exact(abE (l₁:=[a]) (l₂:=l))
def agb:∀{l l':List (List α)},l.Perm l'->l.flatten.Perm l'.flatten:=λh=>h.flatten
theorem Zp:∀{cB:List (List Nat)} {j:Nat} {g g':List Nat} {k:Nat},cB[j]?\g->g'.Perm (g++[k])->(cB.set j g').flatten.Perm (cB.flatten++[k])
 |[],j,g,g',k,h,_=>by simp at h
 |qO::cB,0,g,g',k,h,p=>by
  cases(show qO=g by simpa using h);show(g'::cB).flatten.Perm _;rw[xH,xH,mZ];refine(p.append_right _).trans ?_;rw[mZ];exact ap7 qO abE
 |qO::cB,j+1,g,g',k,h,p=>by
  rw[CE]at h;show(qO::cB.set j g').flatten.Perm _;rw[xH,xH,mZ];exact ap7 qO (Zp h p)
def kD.put {m:Nat} (S:kD n ds m cB) {j p:Nat} (a7:cB[j]?\g) (hd:ds[m]?\d)
  (Dq:∀i∈g,∀e,ds[i]?\e->mt n e d=false/\mt n d e=false/\iG e d=true):kD n ds (m+1) (cB.set j (ins g p m)):=by
 have mT:=cm a7;refine(λx ag=>?_,?_,λx ag i ai kZ fY cA e bF he iM=>?_,λx ag i ai kZ fY e bF he iM=>?_)
 .rcases RT ag with z|z
  .exact S.ne x z
  .rw [z];unfold ins;simp
 .rw [wB];exact(Zp a7 (Ud g p m)).trans (S.pm.append_right [m])
 .rcases RT ag with z|z
  .exact S.Dj x z i ai kZ fY cA e bF he iM
  .rw[z]at ai fY;rcases pB ai with u|u
   .subst u;rw[hd]at he;cases he;rcases pB fY with v|v
    .exact absurd v.symm cA
    .exact (Dq kZ v bF iM).2.1
   .rcases pB fY with v|v
    .subst v;rw[hd]at iM;cases iM;exact(Dq i u e he).1
    .exact S.Dj g mT i u kZ v cA e bF he iM
 .rcases RT ag with z|z
  .exact S.al x z i ai kZ fY e bF he iM
  .rw[z]at ai fY;have self:∀y:bf,iG y y=true:=λy=>by unfold iG;simp
   have sym:∀y z:bf,iG y z=true->iG z y=true:=λy z h=>aj6 h
   rcases pB ai with u|u
   .subst u;rw[hd]at he;cases he;rcases pB fY with v|v
    .subst v;rw[hd]at iM;cases iM;exact self _
    .exact sym _ _ (Dq kZ v bF iM).2.2
   .rcases pB fY with v|v
    .subst v;rw[hd]at iM;cases iM;exact(Dq i u e he).2.2
    .exact S.al g mT i u kZ v e bF he iM
def kD.new{m:Nat}(S:kD n ds m cB)(p:Nat):kD n ds (m+1) (ins cB p [m]):=by
 have self:∀y:bf,iG y y=true:=λy=>by unfold iG;simp
 refine(λx ag=>?_,?_,λx ag i ai kZ fY cA e bF he iM=>?_,λx ag i ai kZ fY e bF he iM=>?_)
 .rcases pB ag with z|z
  .rw [z];simp
  .exact S.ne x z
 .rw [wB];refine(agb (Ud cB p [m])).trans ?_;rw[aoG];simpa using S.pm.append_right [m]
 .rcases pB ag with z|z
  .rw [z]at ai fY;exact absurd ((eB.mp ai).trans (eB.mp fY).symm) cA
  .exact S.Dj x z i ai kZ fY cA e bF he iM
 .rcases pB ag with z|z
  .rw [z]at ai fY;rw[eB.mp ai]at he;rw[eB.mp fY,he]at iM;cases iM;exact self _
  .exact S.al x z i ai kZ fY e bF he iM
def lR.put(h:lR b6 H gl qs cB)(aL:qs[j]?\q)(aI:j<↑cB) :
  lR b6 (upd H q (.lst (g'.map λk:Nat=>V.int k))) gl qs (cB.set j g'):=by
 let(af,ak,a8,bZ,dS,iU):=h;have nK:gl≠q:=λz=>bZ (by rw[z];exact cm aL)
 refine(by rw[aD nK];exact af,by rw[abz];exact ak,a8,bZ,λi r g a b=>?_,iU);by_cases c:i=j
 .subst c;rw[aL]at a;cases a;rw[Ux aI]at b;cases b;exact db
 .rw[RA (λe=>c e.symm)]at b;have cA:r≠q:=λe=>by
   subst e;let(a1,gq):=b5.mp a;let(a2,gj):=b5.mp aL;exact c ((wM a8).mp (gq.trans gj.symm))
  rw[aD cA];exact dS i r g a b
def lR.new{gl p:Addr}{k:Nat}(h:lR b6 H gl qs cB)(h0:aM b6 H)(aq:H p=none)(aB:k<=↑cB) :
  lR b6 (upd (upd H p (.lst (g.map λk:Nat=>V.int k))) gl (.lst ((ins qs k p).map V.ref))) gl (ins qs k p) (ins cB k g):=by
 have Fx:gl≠p:=dF h.af aq;have akD:p∉qs:=λz=>by
  let(i,ai):=g8 z;have ME:i<↑cB:=by rw[<- h.ak];exact(b5.mp ai).1
  have e:=h.dS i p _ ai (bj ME);rw[aq]at e;cases e
 have Qd:k<=↑qs:=by rw[h.ak];exact aB
 refine(db,by rw[UD Qd,UD aB,h.ak],aqa h.a8 akD,λz=>?_,λi q g' a b=>?_,λq aL=>?_)
 .rcases pB z with z|z
  .exact Fx z
  .exact h.bZ z
 .rw[w' Qd]at a;rw[w' aB]at b;have keep:∀{i:Nat} {q:Addr} {g':List Nat},qs[i]?\q->cB[i]?\g'->upd (upd H p (.lst (g.map λk:Nat=>V.int k))) gl (.lst ((ins qs k p).map V.ref)) q=some (.lst (g'.map λk:Nat=>V.int k)):=λ{i q g'} a b=>by
   have e:=h.dS i q g' a b;have nK:q≠gl:=λz=>h.bZ (by rw[<- z];exact cm a)
   rw[aD nK,aD (dF e aq)];exact e
  by_cases bc:i<k
  .rw [if_pos bc]at a b;exact keep a b
  .rw[if_neg bc]at a b;by_cases bY:i=k
   .rw [if_pos bY]at a b;cases a;cases b;rw[aD (dm Fx),db]
   .rw [if_neg bY]at a b;exact keep a b
 .rcases pB aL with z|z
  .rw [z];exact h0.free aq
  .exact h.iU q z
structure hG where
 lo:Int
 ai:Int
 fe:List Nat
structure qk(H:aw)(cX:Addr)(qs ms:List Addr)(sts:List hG):Prop where
 at_:H cX\(.lst (qs.map V.ref))
 cx:↑qs=↑sts
 cQ:↑ms=↑sts
 al:∀(i:Nat) (q m:Addr) (s:hG),qs[i]?\q->ms[i]?\m->sts[i]?\s->H q\(.tup [.int s.lo,.int s.ai,⇑m])/\H m\(.lst (s.fe.map λk:Nat=>V.int k))
def qk.same(h:qk H cX qs ms sts)(s:aM H I):qk I cX qs ms sts:=
 (s _ _ h.at_,h.cx,h.cQ,λi q m r a b c=>(s _ _ (h.al i q m r a b c).1,s _ _ (h.al i q m r a b c).2))
structure DN(n:Int)(ds:List bf)(sts:List hG):Prop where
 bA:kD n ds ↑ds (sts.map (·.fe))
 le:∀s∈sts,∀i∈s.fe,∀d,ds[i]?\d->d.least<=s.lo
 bd:∀s∈sts,1<=s.lo/\s.lo<=21/\s.lo<=s.ai/\s.ai<=40
theorem kD.len{m:Nat}(S:kD n ds m cB):↑cB<=m/\↑cB.flatten=m:=by
 have af:=S.pm.length_eq;rw[tv]at af;have:∀{cB:List (List Nat)},(∀g∈cB,g≠[])->↑cB<=↑cB.flatten:=λ{cB}=>by
  induction cB with
  |nil=>intro _;simp
  |cons g cB c4=>
   intro h;have a1:=c4 λx ag=>h x (jj _ ag)
   have a2:=w0.mpr (h g (by simp));rw[xH,cU,gW];omega
 have:=this S.ne;omega
def kD.lt{m:Nat}(S:kD n ds m cB)(a7:g∈cB)(ai:i∈g):i<m:=pY.mp (S.pm.mem_iff.mp (Om.mpr (g,a7,ai)))
def kD.M7{m:Nat}(S:kD n ds m cB)(a7:g∈cB):↑g<=m:=by
 have af:=(aqP a7).length_le;have:=S.len.2;omega
def aaP(h0:0<=i)(af:i<6):∃mo:Int,(1<=mo/\mo<=20)/\gU [V.int 4,V.int 4,V.int 4,V.int 4,V.int 4,V.int 20] i\(.int mo):=by
 have:i=0\/i=1\/i=2\/i=3\/i=4\/i=5:=()
 rcases this with rfl|rfl|rfl|rfl|rfl|rfl
 .exact (4,∅,cI (j:=0) rfl)
 .exact (4,∅,cI (j:=1) rfl)
 .exact (4,∅,cI (j:=2) rfl)
 .exact (4,∅,cI (j:=3) rfl)
 .exact (4,∅,cI (j:=4) rfl)
 .exact (20,∅,cI (j:=5) rfl)
def TN(K:bq):bV:=λvs H Q _=>∃(a:Addr) (ns:List Int) (n:Int) (wl:Addr) (ds:List bf),vs=[⇑a,.int n,⇑wl]/\↑ns<=63/\ay K H a (ns.map V.int)/\aF H/\kn H wl ds/\u' n ds/\(∀d∈ds,d.least<=4)/\(1<=↑ds/\↑ds<=8) /\
 ∀cX qs ms sts I,aM H I->aF I->qk I cX qs ms sts->DN n ds sts->Q ⇑cX I
theorem ac8:cu P base T 2 t.EK t.CL D8 (TN K):=by
 refine cD (aip T) λfM=>cD (alI T) λaiv=>cD (aiN T) λapn=>?_;exists T.NK.ok mM,9
 let(a,ns,n,wl,ds,rfl,ih,S,bz,L,D,hle,fP,q):=h;let(pP,cx,cQ,JV):=id L;have kg:↑(pP.map V.ref)=↑ds:=by rw[aT,cQ]
 have yK:∀(i:Nat) (d:bf),ds[i]?\d->∃rf,gU (pP.map V.ref) (i:Int)\⇑rf/\H rf\(.tup (mj d)):=λi d hd=>by
  have hR:pP[i]?\(pP[i]'(by rw[cQ];exact(b5.mp hd).1)):=bj _;exact(_,cI (by rw[dv,hR];rfl),JV i _ d hR hd)
 refine(_,(aP (b8 (i:=3) mM.aH (eJ aA))
   (aP (eY eP rfl (kN rfl T.j5 (ah (fy iu rfl T.hX hU (ah (U 2) aA)) aA)) (b_ (i:=4) mM.aH) (aP (b8 (i:=5) mM.aH (eJ aA))
   (aP (eY eP rfl (kN rfl T.j5 (ah (fy iu rfl T.hX hU (ah (U 3) aA)) aA)) (b_ (i:=6) mM.aH) (aP (b8 (i:=7) mM.aH (ck apn ao T.alu T.Nh.bp T.GE (ah (U 2) (ah (cj dp (cj dp (U 3) (U 6)) aR) (ah (U 4) aA)))))
   (aP (eY eP rfl (eV (cj dp (U 3) (U 6))) (b_ (i:=8) mM.aH) (aY (b8 (i:=7) mM.aH (zN (U 7) (wK (U1 (ck aiv ao T.alY T.HO.bp T.akP (ah (cj dp (U 2) (U 8)) (ah (cj dp (U 2) (U 4)) (ah (U 1) aA))))))))))
   (aY (d7 (rJ (U 7)) (aY (d3 (eS f9 kQ k2 kO (U 5) (ah (U 6) aA)))) eA)))))
   (aY (d7 (gs.pt (rB (de oN (fy iu rfl T.hX hU (ah (U 5) aA)) aR (cO _)) (sd (de oN (ck fM ao T.gQ T.f'.bp T.gV (ah (U 0) (ah (bM eg aR (U 4)) (ah aR aA)))) aR (cO _))))) (aP (b8 (i:=6) mM.aH (cj dp (U 5) (ck fM ao T.gQ T.f'.bp T.gV (ah (U 0) (ah (bM eg aR (U 4)) (ah (fy iu rfl T.hX hU (ah (U 5) aA)) aA))))))
   (aY (d3 (eS f9 aaG aok VG (cj dp (U 3) (U 6)) (ah (ck fM ao T.gQ T.f'.bp T.gV (ah (U 0) (ah (bM eg aR (U 4)) (ah (bM eg (fy iu rfl T.hX hU (ah (cj dp (U 3) (U 6)) aA)) aR) aA)))) (ah (U 4) aA)))))) (aY (d3 (eS f9 aaG aok VG (U 3) (ah (ck fM ao T.gQ T.f'.bp T.gV (ah (U 0) (ah (bM eg aR (U 4)) (ah (bM eg (fy iu rfl T.hX hU (ah (U 3) aA)) aR) aA)))) (ah (eJ (ah (U 4) aA)) aA))))))))))
   (aP (b8 (i:=9) mM.aH (eJ aA))
   (aP (eY eP rfl (kN rfl T.j5 (ah (fy iu rfl T.hX hU (ah (U 3) aA)) aA)) (b_ (i:=6) mM.aH) (aP (b8 (i:=10) mM.aH (bM eg (fy (Qs rfl) rfl T.E6 HL (ah (hL rfl (eV (cj dp (U 3) (U 6))) (gu (sc:=bx (top 84)) rfl ∅) (N:=Ft) (sel:=[none,some 2]) (gx (M:=["_law_script","_law_places","_law_ways_here","_law_some","_law_k","_law_fits","_law_j","_law_good","_law_i","_law_stages_here","_law_low","_law_more"]) ∅) (fm.of (λ_ _ _ _=>(b_ (i:=0) (ek (N:=Ft) ∅ rfl))) (λ_ _ _ _=>(_,iA,by walk_at "B")) (λ_ _ _ _=>(_,(cj hk (cj dp (U 1) (U 0)) aR),by walk_at "B")))) aA)) (ck fM ao T.gQ T.f'.bp T.gV (ah (U 0) (ah (bM eg aR (U 6)) (ah aR aA))))))
   (aP (d7 (de fg (ck fM ao T.gQ T.f'.bp T.gV (ah (U 0) (ah (bM eg aR (U 6)) (ah aR aA)))) aR (cO _)) (aY (b8 (i:=10) mM.aH (bM eg (U 10) aR))) eA)
   (aP (b8 (i:=11) mM.aH (cj dp (eJ (ah aR (ah aR (ah aR (ah aR (ah aR (ah aR aA))))))) (ck fM ao T.gQ T.f'.bp T.gV (ah (U 0) (ah (bM eg aR (U 6)) (ah aR aA))))))
   (aY (d3 (eS f9 kQ k2 kO (U 9) (ah (oA (ah (U 10) (ah (bM eg (U 10) (ck fM ao T.gQ T.f'.bp T.gV (ah (U 0) (ah (bM eg aR (U 6)) (ah (U 11) aA))))) (ah (cj dp (U 3) (U 6)) aA)))) aA))))))))
   (aY (cp (U 9))))))),?_)
 exists (λav I=>aM H I/\aF I/\∃gl,H gl=none/\I gl\(.lst [])/\av=[~~~a,some (.int n),~~~wl,~~~gl,none,none,none,none,none,none,none,none]),3
 .nofun;exact(eO _,λgl g_=>b1 _ _ (a_ g_,bz.upd,gl,g_,db,rfl))
 intro fo H1 (s1,cK,gl,g_,dP,rfl);subst aS;exists (λav I=>aM H I/\aF I/\(∃qs cB,lR H I gl qs cB/\kD n ds ↑ds cB)/\∃dr ed cL di d0,av=[~~~a,some (.int n),~~~wl,~~~gl,dr,ed,cL,di,d0,none,none,none]),3
 .nofun;refine⟨_,.inl (ay.of (s1 _ _ cx)),(),by rw[kg];omega,?_⟩;rw[show((↑(pP.map V.ref):Nat):Int).toNat=↑ds by rw[kg];rfl];refine d1.range (fun k σ I=>aM H I/\aF I/\(∃qs cB,lR H I gl qs cB/\kD n ds k cB)/\∃dr ed cL di d0,σ=[~~~a,some (.int n),~~~wl,~~~gl,dr,ed,cL,di,d0,none,none,none]) ⟨s1,cK,⟨[],[],⟨dP,rfl,NO,by simp,fun i q g h=>by simp at h,fun q h=>by simp at h⟩,kD.nil n ds⟩,_,_,_,_,_,rfl⟩ ?_ ?_
  .rintro k σ I aB a9;ac_rfl
   let(s2,cC,(qs,cB,G,l3),dr,ed,cL,di,d0,rfl):=a9;have vD:ds[k]?\ds[k]:=bj aB;subst aS;generalize at7:ds[k]=d at vD;have hd:=(D.al d (cm vD)).1;have ajR:=l3.len;simp only[fH,dx,hF,hD,q_];exists (λav ar=>aM I ar/\aF ar/\∃fv,I fv=none/\ar fv\(.lst [])/\av=[~~~a,some (.int n),~~~wl,~~~gl,some (.int (k:Nat)),~~~fv,cL,di,d0,none,none,none]),0
   .nofun;exact(eO _,λfv p4=>b1 _ _ (a_ p4,cC.upd,fv,p4,db,rfl))
   intro cv ar (s3,dc,fv,p4,hA,rfl);have GI:fv≠gl:=λe=>by rw[e,G.af]at p4;cases p4
   have afI:fv∉qs:=λz=>by
    let(i,ai):=g8 z;have ME:i<↑cB:=by rw[<- G.ak];exact(b5.mp ai).1
    have e:=G.dS i fv _ ai (bj ME);rw[p4]at e;cases e
   subst aS;simp only[dx];exists (λav a'=>aM I a'/\aF a'/\lR H a' gl qs cB/\(∃a6:List Nat,a' fv\(.lst (a6.map λk:Nat=>V.int k))/\↑a6<=↑cB/\∀f∈a6,∃g,cB[f]?\g/\∀i∈g,∀e,ds[i]?\e->mt n e d=false/\mt n d e=false/\iG e d=true)/\∃cL di d0,av=[~~~a,some (.int n),~~~wl,~~~gl,some (.int (k:Nat)),~~~fv,cL,di,d0,none,none,none]),0
   .nofun;have nK:↑(qs.map V.ref)=↑cB:=by rw[aT,G.ak]
    refine(_,.inl (ay.of (s3 _ _ G.af)),(),by rw[nK];omega,?_);rw[show((↑(qs.map V.ref):Nat):Int).toNat=↑cB by rw[nK];rfl];refine d1.range (λj σ a'=>aM I a'/\aF a'/\lR H a' gl qs cB/\(∃a6:List Nat,a' fv\(.lst (a6.map λk:Nat=>V.int k))/\↑a6<=j/\∀f∈a6,∃g,cB[f]?\g/\∀i∈g,∀e,ds[i]?\e->mt n e d=false/\mt n d e=false/\iG e d=true)/\∃cL di d0,σ=[~~~a,some (.int n),~~~wl,~~~gl,some (.int (k:Int)),~~~fv,cL,di,d0,none,none,none]) (s3,dc,G.same s3,([],hA,bR _,λf h=>by simp at h),_,_,_,rfl) ?_ ?_
    .rintro j σ a' aI a9;ac_rfl
     let(s4,cR,iD,(a6,gJ,Fz,wi),cL,di,d0,rfl):=a9;have rT:cB[j]?\cB[j]:=bj aI;have fs:qs[j]?\(qs[j]'(by rw[G.ak];exact aI)):=bj _;subst aS;generalize qs[j]'(by rw[G.ak];exact aI)=lL at fs;generalize aed:cB[j]=g at rT;have mT:=cm rT;let(qO,atn,ro):=tB (l3.ne g mT);have hy:∀i∈g,∃e,ds[i]?\e:=λi ai=>(_,bj (Tx (l3.lt mT ai) aB))
     have sN:qO∈g:=by rw[ro];exact ox ..
     let(lz,vW):=hy qO sN;have wH:=iD.dS j lL g fs rT;have zD:=cI (xs:=qs.map V.ref) (j:=j) (by rw[dv,fs];rfl);have iW:=s2.trans s4;have ij:=L.same iW;have DJ:=iW _ _ cx;simp only[fH,dx,hF,hD,q_];exists (λav cb=>cb=a'/\av=[~~~a,some (.int n),~~~wl,~~~gl,some (.int (k:Int)),~~~fv,some (.int (j:Int)),some (.bG (iG lz d)),d0,none,none,none]),0
     .nofun;exact(_,ay.of iD.af,_,zD,_,rfl,_,ay.of wH,_,by rw[ro];exact cI (j:=0) rfl,wl,ds,qO,k,lz,d,rfl,ij,vW,vD,(D.al lz (cm vW)).1.k,hd.k,b1 _ _ (rfl,rfl))
     intro jT cb (rfl,rfl);subst aS;simp only[dx];exists (λav bP=>bP=cb/\∃(o9:Bool) (d0:Option V),(o9=true->iG lz d=true/\∀i∈g,∀e,ds[i]?\e->mt n e d=false)/\av=[~~~a,some (.int n),~~~wl,~~~gl,some (.int (k:Int)),~~~fv,some (.int (j:Int)),some (.bG o9),d0,none,none,none]),0
     .nofun;refine(_,ay.of iD.af,_,zD,_,rfl,(_,ay.of wH),?_);refine d1.list (xs:=g.map λk:Nat=>V.int k) (λl σ bP=>bP=cb/\∃(o9:Bool) (d0:Option V),(o9=true->iG lz d=true/\∀i∈g.take l,∀e,ds[i]?\e->mt n e d=false)/\σ=[~~~a,some (.int n),~~~wl,~~~gl,some (.int (k:Int)),~~~fv,some (.int (j:Int)),some (.bG o9),d0,none,none,none]) ?_ ?_ ?_ ?_
      .exact (rfl,_,_,λz=>(z,λi h=>by simp at h),rfl)
      .intro l σ bP aN (rfl,_);exact ay.of wH
      .rintro l v σ bP aK a9;ac_rfl
       let(rfl,o9,d0,sQ,rfl):=a9;let(i,ai,rfl):=b' aK;let(e,he):=hy i (cm ai);let(ix,vn,Jl):=yK i e he;let(afE,ah_,anI):=yK k d vD;have step:∀gj:Bool,(gj=true->o9=true/\mt n e d=false)->(gj=true->iG lz d=true/\∀i∈g.take (l+1),∀e,ds[i]?\e->mt n e d=false):=λgj h z=>by
        let(gy,eE):=h z;let(oj,iY):=sQ gy;refine(oj,λkZ fY bF iM=>?_);rw[oo,ai]at fY;rcases eQ.mp fY with u|u
        .exact iY kZ u bF iM
        .rw [show kZ=i by simpa using u,he]at iM;cases iM;exact eE
       subst aS;nofun;cases o9 with
       |true=>
        rw[if_pos rfl];refine(_,ay.of DJ,_,vn,_,ay.of DJ,_,ah_,n,ix,afE,e,d,rfl,d4.of (iW _ _ Jl),d4.of (iW _ _ anI),(D.al e (cm he)).1,hd,_,rfl,?_);exact(rfl,_,step _ (λz=>(rfl,by simpa using z)),rfl,_,rfl)
       |false=>
        rw[if_neg ∅];exact(false,(λz=>nomatch z),rfl,_,rfl)
      .rintro σ bP a9;ac_rfl
       let(rfl,o9,d0,sQ,rfl):=a9;subst aS;rw[aT,hO]at sQ;exact b1 _ _ (rfl,o9,d0,sQ,rfl)
     intro nL bP (rfl,o9,d0,sQ,rfl);subst aS;dsimp only;refine dC o9 (λQ aX=>?_) (λaa=>?_) (λaa=>?_)
     .nofun;exact aX
     .obtain⟨oj,iY⟩:=sQ aa;nofun;refine⟨.inl ⟨_,ay.of gJ⟩,_,gJ,gv (show ↑(a6.map fun k:Nat=>V.int k)<=8 by rw[aT];omega) ∅,s4.hE p4,cR.upd,iD.off GI afI,⟨a6++[j],by rw[db,ee];rfl,by rw[cU];show ↑a6+1<=j+1;omega,fun f hf=>?_⟩,?_⟩
      .rcases eQ.mp hf with z|z
       .exact wi f z
       .rw [eB.mp z];refine(g,rT,λi ai e he=>(iY i ai e he,?_,akg (l3.al g mT i ai qO sN e lz he vW) oj));have gR:=(D.al e (cm he)).1;have:=abu gR.st gR.f_ hd.st hd.f_ gR.ne hd.ne;exact(this.symm.trans (iY i ai e he):mt n d e=false)
      .exact (_,rfl)
     .simp only[hI];exact(s4,cR,iD,(a6,gJ,(),wi),_,_,_,rfl)
    .rintro σ a' a9;ac_rfl
     let(s4,cR,iD,(a6,gJ,Fz,wi),cL,di,d0,rfl):=a9;subst aS;exact b1 _ _ (s4,cR,iD,(a6,gJ,Fz,wi),_,_,_,rfl)
   intro fJ a' (s4,cR,iD,(a6,gJ,Fz,wi),cL,di,d0,rfl);have iW:=s2.trans s4;have mI:=S.same iW;have nK:↑(qs.map V.ref)=↑cB:=by rw[aT,G.ak]
   subst aS;dsimp only;refine dC (decide (0<↑a6)&&decide (0<dR ns (100+(k:Int)) 3)) (λQ aX=>?_) (λaa=>?_) (λaa=>?_)
   .nofun;refine(_,.inl (ay.of gJ),?_);rw[aT];by_cases bT:0<↑a6
    .rw [if_pos (decide_eq_true ())];rw[decide_eq_true bT,oe]at aX;exact(a,ns,_,_,rfl,ih,mI,((),()),∅,_,rfl,aX)
    .rw [if_neg (by rw[decide_eq_true_eq];omega)];rw[decide_eq_false bT,qj]at aX;exact aX
   .rw[kb,decide_eq_true_eq]at aa;have au:=h_ ns (110+(k:Int)) (m:=(↑a6:Int)) ();have aE:=iq ns (110+(k:Int)) (m:=(↑a6:Int)) ();let(u,bJ):∃u:Nat,dR ns (110+(k:Int)) (↑a6:Int)=(u:Int):=(_,(t9 au).symm);have arS:u<↑a6:=()
    have K8:a6[u]?\a6[u]:=bj arS;generalize au0:a6[u]=f at K8;let(g,G4,aq8):=wi f (cm K8);have L6:f<↑cB:=(b5.mp G4).1;have zg:qs[f]?\(qs[f]'(by rw[G.ak];exact L6)):=bj _;generalize qs[f]'(by rw[G.ak];exact L6)=OK at zg;have HD:=iD.dS f OK g zg G4;have X7:=cI (xs:=qs.map V.ref) (j:=f) (by rw[dv,zg];rfl);have ahR:=cI (xs:=a6.map λk:Nat=>V.int k) (j:=u) (v:=.int (f:Int)) (by rw[dv,K8];rfl);have ave:=l3.M7 (cm G4);have dy:=h_ ns (160+(k:Int)) (m:=(↑g:Int)+1) ();have du:=iq ns (160+(k:Int)) (m:=(↑g:Int)+1) ();nofun;let(v,aK):∃v:Nat,dR ns (160+(k:Int)) ((↑g:Int)+1)=(v:Int):=(_,(t9 dy).symm);refine(_,.inl (ay.of gJ),?_);rw[aT];refine(a,ns,_,_,rfl,ih,mI,((),()),(),?_);rw[bJ];refine(_,_,rfl,ay.of gJ,_,ahR,_,_,rfl,ay.of iD.af,_,X7,.inl (_,ay.of HD),_,_,rfl,ay.of iD.af,_,X7,_,rfl,_,.inl (ay.of HD),?_);rw[aT];refine(a,ns,_,_,rfl,ih,mI,((),()),(),OK,rfl,_,_,rfl,HD,?_);rw[aK,mG];have UK:v<=↑g:=()
    have em:(g.map λk:Nat=>V.int k).take v++V.int (k:Int)::(g.map λk:Nat=>V.int k).drop v=(ins g v k).map λk:Nat=>V.int k:=(Qi (λk:Nat=>V.int k) g v k).symm
    refine((),(),by rw[aT];omega,gv (show ↑(g.map λk:Nat=>V.int k)<=8 by rw[aT];omega) ∅,iW.hE (iD.iU OK (cm zg)),cR.upd,?_,_,rfl);rw[em];exact(qs,_,iD.put zg L6,l3.put G4 vD aq8)
   .have dy:=h_ ns (120+(k:Int)) (m:=(↑cB:Int)+1) ();have du:=iq ns (120+(k:Int)) (m:=(↑cB:Int)+1) ();nofun;let(v,aK):∃v:Nat,dR ns (120+(k:Int)) ((↑cB:Int)+1)=(v:Int):=(_,(t9 dy).symm);refine(.inl (_,ay.of iD.af),_,.inl (ay.of iD.af),?_);rw[nK];refine(a,ns,_,_,rfl,ih,mI,((),()),(),∅,λp aq=>(_,_,rfl,(a_ aq) _ _ iD.af,?_));rw[aK,mG];have UK:v<=↑cB:=()
    have em:(qs.map V.ref).take v++V.ref p::(qs.map V.ref).drop v=(ins qs v p).map V.ref:=(Qi V.ref qs v p).symm;refine((),(),by rw[nK];omega,gv (show ↑(qs.map V.ref)<=8 by rw[nK];omega) ∅,(iW.trans (a_ aq)).hE g_,(cR.upd).upd,?_,_,rfl);rw[em];exact(_,_,iD.new (g:=[k]) iW aq UK,l3.new v)
  .rintro σ I a9;ac_rfl
   let(s2,cC,(qs,cB,G,l3),dr,ed,cL,di,d0,rfl):=a9;subst aS;exact b1 _ _ (s2,cC,(qs,cB,G,l3),_,_,_,_,_,rfl)
 intro cv ar (s2,cC,(qs,cB,G,l3),dr,ed,cL,di,d0,rfl);subst aS;exists (λav I=>aM ar I/\aF I/\∃cX,ar cX=none/\I cX\(.lst [])/\av=[~~~a,some (.int n),~~~wl,~~~gl,dr,ed,cL,di,d0,~~~cX,none,none]),3
 .nofun;exact(eO _,λcX kf=>b1 _ _ (a_ kf,cC.upd,cX,kf,db,rfl))
 intro fJ a' (s3,dc,cX,kf,hA,rfl);have ajR:=l3.len;have nK:↑(qs.map V.ref)=↑cB:=by rw[aT,G.ak]
 subst aS;exists (λav I=>aM ar I/\aF I/\(∃lK sts,qk I cX lK qs sts/\DN n ds sts)/\∃cL d0 jE uc,av=[~~~a,some (.int n),~~~wl,~~~gl,dr,ed,cL,di,d0,~~~cX,jE,uc]),3
 .nofun;refine(_,.inl (ay.of (s3 _ _ G.af)),(),by rw[nK];omega,?_);rw[show((↑(qs.map V.ref):Nat):Int).toNat=↑cB by rw[nK];rfl];refine d1.range (λj σ I=>aM ar I/\aF I/\(∃(lK:List Addr) (sts:List hG),I cX\(.lst (lK.map V.ref))/\↑lK=j/\↑sts=j/\(∀(i:Nat) (q:Addr) (s:hG),lK[i]?\q->sts[i]?\s->∃m,qs[i]?\m/\I q\(.tup [.int s.lo,.int s.ai,⇑m]))/\sts.map (·.fe)=cB.take j/\∀s∈sts,(∀i∈s.fe,∀d,ds[i]?\d->d.least<=s.lo)/\1<=s.lo/\s.lo<=21/\s.lo<=s.ai/\s.ai<=40)/\∃cL d0 jE uc,σ=[~~~a,some (.int n),~~~wl,~~~gl,dr,ed,cL,di,d0,~~~cX,jE,uc]) (s3,dc,([],[],hA,rfl,rfl,λi q s h=>by simp at h,by rw[vq];rfl,λs h=>by simp at h),_,_,_,_,rfl) ?_ ?_
  .rintro j σ I aI a9;ac_rfl
   let(s4,cR,(lK,sts,gJ,Fw,fB,nX,Ak,DK),cL,d0,jE,uc,rfl):=a9;have rT:cB[j]?\cB[j]:=bj aI;have fs:qs[j]?\(qs[j]'(by rw[G.ak];exact aI)):=bj _;subst aS;generalize qs[j]'(by rw[G.ak];exact aI)=lL at fs;generalize aed:cB[j]=g at rT;have mT:=cm rT;have hy:∀i∈g,∃e,ds[i]?\e:=λi ai=>(_,bj (l3.lt mT ai))
   have iD:=G.same s4;have wH:=iD.dS j lL g fs rT;have zD:=cI (xs:=qs.map V.ref) (j:=j) (by rw[dv,fs];rfl);have iW:=s2.trans s4;have mI:=S.same iW;have DJ:=iW _ _ cx;have asM:=l3.M7 mT;let(bt,aq7):∃bt:Nat->Int,bt=λi=>((ds[i]?).map (·.least)).getD 0:=(_,rfl)
   have OD:∀i e,ds[i]?\e->bt i=e.least:=λi e he=>by rw[aq7];show((ds[i]?).map (·.least)).getD 0=_;rw[he];rfl
   let(rl,tu,uu):=Ez (g.map bt) (λz=>l3.ne g mT (ZF.mp z));have tE:1<=rl/\rl<=4:=by
    let(i,ai,rfl):=cf.mp tu;let(e,he):=hy i ai;rw[OD i e he];exact((D.al e (cm he)).1.le.1,hle e (cm he))
   have ea:=h_ ns (130+(j:Int)) (m:=3) ∅;have ey:=iq ns (130+(j:Int)) (m:=3) ∅;simp only[fH,dx,hF,hD,q_];exists (λav cb=>aM I cb/\aF cb/\∃lo:Int,(rl<=lo/\lo<=rl+2)/\av=[~~~a,some (.int n),~~~wl,~~~gl,dr,ed,some (.int (j:Int)),di,d0,~~~cX,some (.int lo),uc]),0
   .nofun;refine(_,ay.of iD.af,_,zD,_,rfl,(_,ay.of wH),?_);refine dh.n1 (xs:=g.map λk:Nat=>V.int k) (zs:=(g.map bt).map V.int) (ay.of wH) (cZ (show ↑(g.map λk:Nat=>V.int k)<=8 by rw[aT];omega) ∅) (by rw[aT,aT,aT]) (λl v z N aK aO bo=>?_) (λpl cV=>?_)
    .let(i,ai,rfl):=b' aK;let(y,aQ,rfl):=b' aO;let(kZ,fY,rfl):=b' aQ;rw[ai]at fY;cases fY;let(e,he):=hy i (cm ai);let(ix,vn,Jl):=yK i e he;rw[OD i e he]at bo;nofun;exact(Sub.name,_,ay.of DJ,_,vn,_,rfl,_,d4.of (iW _ _ Jl),_,cI (j:=6) rfl,bo)
    .have aam:=a_ (o:=.lst ((g.map bt).map V.int)) cV;refine(_,rfl,_,ay.of db,rl,tu,uu,a,ns,_,_,rfl,ih,mI.same aam,((),()),∅,_,rfl,b1 _ _ (aam,cR.upd,_,((),()),rfl))
   intro jT cb (s5,dK,au1,F0,rfl);have IX:=mI.same s5;subst aS;simp only[dx];exists (λav bP=>bP=cb/\∃lo:Int,(rl<=lo/\lo<=21)/\av=[~~~a,some (.int n),~~~wl,~~~gl,dr,ed,some (.int (j:Int)),di,d0,~~~cX,some (.int lo),uc]),0
   .refine dC (decide (dR ns (150+(j:Int)) 12=0)) (λQ aX=>?_) (λ_=>?_) (λ_=>?_)
    .nofun;refine(a,ns,_,_,rfl,ih,IX,((),()),∅,rfl,?_);rw[show decide (V.int (dR ns (150+(j:Int)) 12)=V.int 0)=decide (dR ns (150+(j:Int)) 12=0)from decide_eq_decide.mpr (by simp)];exact aX
    .nofun;exact b1 _ _ (rfl,_,(),rfl)
    .simp only[hI];exact b1 _ _ (rfl,_,(),rfl)
   intro nL bP (rfl,lo,ub,rfl);have jc:=h_ ns (180+(j:Int)) (m:=6) ∅;have jb:=iq ns (180+(j:Int)) (m:=6) ∅;subst aS;simp only[dx];exists (λav eX=>aM bP eX/\aF eX/\∃mo:Int,(1<=mo/\mo<=20)/\av=[~~~a,some (.int n),~~~wl,~~~gl,dr,ed,some (.int (j:Int)),di,d0,~~~cX,some (.int lo),some (.int mo)]),0
   .let(mo,uq,i3):=aaP jc jb;nofun;exact(∅,λp aq=>(a,ns,_,_,rfl,ih,IX.same (a_ aq),((),()),∅,_,_,rfl,ay.of db,_,i3,b1 _ _ (a_ aq,dK.upd,mo,uq,rfl)))
   intro mP eX (eo,i9,mo,uq,rfl);have Cq:=s5.trans eo;have Aq:=IX.same eo;have pj:=Cq _ _ gJ;have oj:=h_ ns (140+(j:Int)) (m:=mo) ();have iY:=iq ns (140+(j:Int)) (m:=mo) ();subst aS;nofun;refine(.inl (_,ay.of pj),a,ns,_,_,rfl,ih,Aq,((),()),(),_,rfl,_,ay.of (Cq _ _ iD.af),_,zD,∅,λp aq=>(_,(a_ aq) _ _ pj,gv (show ↑(lK.map V.ref)<=8 by rw[aT];omega) ∅,((s4.trans Cq).trans (a_ aq)).hE kf,(i9.upd).upd,(lK++[p],by rw[db,ee];rfl,by rw[cU,Fw];rfl,sts++[(lo,lo+dR ns (140+(j:Int)) mo,g)],by rw[cU,fB];rfl,λi q s a1 a2=>?_,?_,λs az=>?_),?_))
   .have pq:cX≠p:=dF pj aq;rcases nZ a1 with⟨gq,gj⟩|⟨gq,rfl⟩
    .rcases nZ a2 with⟨bc,bY⟩|⟨bc,_⟩
     .let(m,hm,e):=nX i q s gj bY;have ez:=Cq _ _ e;refine(m,hm,?_);rw[aD (bW ez pj (by intro z;cases z)),aD (dF ez aq)];exact ez
     .omega
    .rcases nZ a2 with⟨bc,_⟩|⟨_,rfl⟩
     .omega
     .refine (lL,by rw[gq,Fw];exact fs,?_);rw[aD (dm pq),db]
   .rw [ee,Ak,oo,rT];rfl
   .rcases eQ.mp az with z|z
    .exact DK s z
    .rw [eB.mp z];refine(λi ai e he=>?_,by show 1<=lo;omega,ub.2,by show lo<=lo+dR ns (140+(j:Int)) mo;omega,by show lo+dR ns (140+(j:Int)) mo<=40;omega);have:=uu (bt i) (cf.mpr (i,ai,rfl));rw[OD i e he]at this;show e.least<=lo;omega
   .repeat (first|exact(_,rfl)|refine((_,rfl),?_))
  .rintro σ I a9;ac_rfl
   let(s4,cR,(lK,sts,gJ,Fw,fB,nX,Ak,DK),cL,d0,jE,uc,rfl):=a9;subst aS;rw[hO]at Ak;have iD:=G.same s4;refine b1 _ _ (s4,cR,(lK,sts,(gJ,(),by rw[G.ak];omega,λi q m s a1 a2 eu=>?_),(by rw[Ak];exact l3,λs az=>(DK s az).1,λs az=>(DK s az).2)),_,_,_,_,rfl);let(dI,n9,e):=nX i q s a1 eu;rw[a2]at n9;cases n9;refine(e,iD.dS i m s.fe a2 ?_);rw[<- Ak,dv,eu];rfl
 intro jT cb (s4,cR,(lK,sts,p0,ail),cL,d0,jE,uc,rfl);subst aS;nofun;exact q cX lK qs sts cb (s2.trans s4) cR p0 ail
noncomputable def ju(ds:List bf)(i:Nat):Str:=((ds[i]?).map (·.name)).getD (ab "")
noncomputable def e7(ds:List bf)(s:hG):List Str:=s.fe.map (ju ds)
noncomputable def i_(ds:List bf)(s:hG):List Str:=[ab "stage",num s.lo,num s.ai]++e7 ds s
noncomputable def hz(ds:List bf)(sts:List hG):List (List Str):=sts.map (i_ ds)
noncomputable def v7(ds:List bf)(sts:List hG):Str:=eG nl ((hz ds sts).map (eG c_))
structure Kb(ds:List bf)(sts:List hG):Prop where
 ln:↑sts<=8
 bd:∀s∈sts,(0<=s.lo/\s.lo<1000)/\(0<=s.ai/\s.ai<1000)/\s.fe≠[]/\↑s.fe<=8/\∀i∈s.fe,∃d,ds[i]?\d
 nm:∀d∈ds,↑d.name<=8
def ao7(ds:List bf)(s:hG)(h:s.fe≠[]):ab "stage "++num s.lo++ab " "++num s.ai++ab " "++eG c_ (e7 ds s)=eG c_ (i_ ds s):=by
 apply F2;have au:(ab "stage ").cps.toList=[115,116,97,103,101,32]:=∅
 have aE:(ab "stage").cps.toList=[115,116,97,103,101]:=∅
 have bI:(ab " ").cps.toList=[32]:=∅
 unfold i_ e7;let(i,r,aC):=tB h;rw[aC,Ee,s_];simp only[qJ,qI,s_,es,qE,AX,MW,mE,au,aE,bI,mZ]
def Tt:bV:=λvs H Q _=>∃wl ds cX qs ms sts,vs=[⇑wl,⇑cX]/\kn H wl ds/\qk H cX qs ms sts/\Kb ds sts/\aF H/\Q (.str (v7 ds sts)) H
def ahF:bV:=λvs H Q _=>∃wl ds cX qs ms sts,vs=[⇑wl,⇑cX]/\kn H wl ds/\qk H cX qs ms sts/\Kb ds sts/\∀I,aM H I->Q (.str (v7 ds sts)) I
def adm:cu P base T 1 t.CN t.Cv EG Tt:=by
 refine cT.forget (sp:=ahF) ?_ λvs H Q E h=>?_
 .exists T.MU.ok AV,9
  let(wl,ds,cX,qs,ms,sts,rfl,(pP,cx,cQ,JV),p0,X,q):=h;have aeZ:=X.ln;have yK:∀(i:Nat) (d:bf),ds[i]?\d->∃rf,gU (pP.map V.ref) (i:Int)\⇑rf/\H rf\(.tup (mj d)):=λi d hd=>by
   have hR:pP[i]?\(pP[i]'(by rw[cQ];exact(b5.mp hd).1)):=bj _;exact(_,cI (by rw[dv,hR];rfl),JV i _ d hR hd)
  have Aw:∀k:Nat,k<=1000->k<=sizeLine:=λk h=>cZ h ∅
  refine(_,(aP (b8 (i:=2) AV.aH (eJ aA))
   (aP (eY eP rfl (eV (U 1)) (la (K:=K) (n:=3) rfl rfl (eT (b_ (i:=3) AV.aH) (eT (b_ (i:=4) AV.aH) (eT (b_ (i:=5) AV.aH) lj)))) (aY (d3 (eS f9 kQ k2 kO (U 2) (ah (bM nu (bM nu (bM nu (bM nu (bM nu dW (rQ As rfl T.dL Av (ah (U 3) aA))) dW) (rQ As rfl T.dL Av (ah (U 4) aA))) dW) (eS xU Gh CY A1 dW (ah (hL rfl (eV (U 5)) (gu (sc:=bx (top 85)) rfl ∅) (N:=Ft) (sel:=[none,some 0]) (gx (M:=["_law_ways_here","_law_stages_here","_law_rows","_law_low","_law_high","_law_some"]) ∅) (fm.of (λ_ _ _ _=>(b_ (i:=0) (ek (N:=Ft) ∅ rfl))) (λ_ _ _ _=>(_,iA,by walk_at "B")) (λ_ _ _ _=>(_,(cj hk (cj dp (U 1) (U 0)) aR),by walk_at "B")))) aA))) aA)))))
   (aY (cp (eS xU Gh CY A1 dW (ah (U 2) aA)))))),?_)
  exists (λav I=>aM H I/\∃d5,H d5=none/\I d5\(.lst (a0 []))/\av=[~~~wl,~~~cX,~~~d5,none,none,none]),3
  .nofun;exact(eO _,λd5 h7=>b1 _ _ (a_ h7,d5,h7,db,rfl))
  intro fo H1 (s1,d5,h7,dP,rfl);subst aS;exists (λav I=>aM H I/\I d5\(.lst (a0 ((hz ds sts).map (eG c_))))/\∃fU dr ed,av=[~~~wl,~~~cX,~~~d5,fU,dr,ed]),3
  .nofun;refine((_,ay.of (s1 _ _ p0.at_)),?_);refine d1.list (xs:=qs.map V.ref) (λi σ I=>aM H I/\I d5\(.lst (a0 ((hz ds (sts.take i)).map (eG c_))))/\∃fU dr ed,σ=[~~~wl,~~~cX,~~~d5,fU,dr,ed]) ?_ ?_ ?_ ?_
   .exact (s1,by rw[vq];exact dP,_,_,_,rfl)
   .intro i σ I ai (bb,_);exact ay.of (bb _ _ p0.at_)
   .rintro i v σ I aK a9;ac_rfl
    let(bb,ej,fU,dr,ed,rfl):=a9;let(tS,hR,rfl):=b' aK;have ai:i<↑sts:=by rw[<- p0.cx];exact(b5.mp hR).1
    have yb:sts[i]?\sts[i]:=bj ai;have tg:ms[i]?\(ms[i]'(by rw[p0.cQ];exact ai)):=bj _;let(au,aE):=p0.al i tS _ _ hR tg yb;subst aS;generalize ms[i]'(by rw[p0.cQ];exact ai)=m at tg au aE;generalize aub:sts[i]=s at yb au aE;let(RK,VQ,bne,Dy,yu):=X.bd s (cm yb);have af:=Ac (n:=s.lo) () ();have ak:=Ac (n:=s.ai) () ();have t1:↑(ab "stage ")=6:=∅
    have ew:↑(ab " ")=1:=∅
    have nc:∀y∈e7 ds s,↑y<=8:=λy aQ=>by
     let(k,aB,rfl):=cf.mp aQ;let(d,hd):=yu k aB;unfold ju;rw[hd];exact X.nm d (cm hd)
    have hi:↑(eG c_ (e7 ds s))<=100:=by
     have:=rU c_ 8 (e7 ds s) nc;rw[tH]at this;have aN:↑(e7 ds s)=↑s.fe:=by unfold e7;rw[aT]
     have:↑(e7 ds s)*9<=72:=()
     omega
    nofun;refine(_,d4.of (bb _ _ au),rfl,_,_,rfl,_,_,rfl,_,_,rfl,rfl,.inl (_,ay.of ej),_,rfl,Uh (),Aw _ (by rw[t1];omega),Aw _ (by simp only[rj,t1,ew];omega),_,rfl,Uh (),Aw _ (by simp only[rj,t1,ew];omega),Aw _ (by simp only[rj,t1,ew];omega),m,rfl,(_,ay.of (bb _ _ aE)),?_);refine dh.n1 (xs:=s.fe.map λk:Nat=>V.int k) (zs:=a0 (e7 ds s)) (ay.of (bb _ _ aE)) (cZ (show ↑(s.fe.map λk:Nat=>V.int k)<=8 by rw[aT];exact Dy) ∅) (by rw[gb,aT];unfold e7;rw[aT]) (λl v z N aK aO bo=>?_) (λpl cV=>?_)
    .obtain⟨k,aB,rfl⟩:=b' aK;unfold a0 e7 at aO;obtain⟨y,aQ,rfl⟩:=b' aO;obtain⟨vp,fa,rfl⟩:=b' aQ;rw[aB]at fa;cases fa;obtain⟨d,hd⟩:=yu k (cm aB);obtain⟨rf,ai',eq⟩:=yK k d hd;have aqX:ju ds k=d.name:=by unfold ju;rw[hd];rfl
     rw[aqX]at bo;nofun;exact(Sub.name,_,ay.of (bb _ _ cx),_,ai',_,rfl,_,d4.of (bb _ _ eq),_,cI (j:=1) rfl,bo)
    .have oM:↑(e7 ds s)<=8:=by unfold e7;rw[aT];exact Dy
     refine(pl,rfl,e7 ds s,ay.of db,?_,?_)
     .have:=GU nc;rw[ew];omega
     .rw[show r4 (ab " ") (e7 ds s)=eG c_ (e7 ds s)from z2 _ _];have ya:=ao7 ds s bne;have gI:↑(a0 ((hz ds (sts.take i)).map (eG c_)))<=8:=by
       unfold a0 hz;rw[aT,aT,aT,ha];omega
      refine(Aw _ (by simp only[rj,t1,ew];omega),_,(a_ cV) _ _ ej,gv gI ∅,(bb.trans (a_ cV)).hE h7,?_,?_)
      .rw [db,ya,oo,yb];unfold hz a0;rw[ee,ee,ee];rfl
      .repeat (first|exact(_,rfl)|refine((_,rfl),?_))
   .rintro σ I a9;ac_rfl
    let(bb,ej,fU,dr,ed,rfl):=a9;subst aS;rw[aT,p0.cx,hO]at ej;exact b1 _ _ (bb,ej,_,_,_,rfl)
  intro cv ar (s2,ej,fU,dr,ed,rfl);subst aS;nofun;have g4:∀y∈(hz ds sts).map (eG c_),↑y<=200:=λy aQ=>by
   let(r,el,rfl):=cf.mp aQ;let(s,az,rfl):=cf.mp el;let(RK,VQ,bne,Dy,yu):=X.bd s az;have af:=Ac (n:=s.lo) () ();have ak:=Ac (n:=s.ai) () ();have nc:∀y∈i_ ds s,↑y<=8:=λy aQ=>by
    unfold i_ at aQ;rcases eQ.mp aQ with z|z
    .have z:y=ab "stage"\/y=num s.lo\/y=num s.ai:=by simpa using z
     rcases z with rfl|rfl|rfl
     .ac_nf
     .exact cZ af ∅
     .exact cZ ak ∅
    .let(k,aB,rfl):=cf.mp z;let(d,hd):=yu k aB;unfold ju;rw[hd];exact X.nm d (cm hd)
   have:=rU c_ 8 (i_ ds s) nc;rw[tH]at this;have aN:↑(i_ ds s)<=11:=by
    unfold i_ e7;rw[cU,aT];show 3+↑s.fe<=11;omega
   omega
  refine(_,ay.of ej,?_,?_)
  .have:=GU g4;rw[(∅:↑(ab "\n")=1)];have aN:↑((hz ds sts).map (eG c_))<=8:=by
    unfold hz;rw[aT,aT];exact aeZ
   omega
  .rw [show r4 (ab "\n") ((hz ds sts).map (eG c_))=eG nl ((hz ds sts).map (eG c_))from z2 _ _];exact q _ s2
 .let(wl,ds,cX,qs,ms,sts,rfl,L,p0,X,bz,q):=h;exact(bz,wl,ds,cX,qs,ms,sts,rfl,L,p0,X,λI bb=>(bb,q))
noncomputable def k3(ds:List bf)(s:hG):ST:=(s.lo,s.ai,e7 ds s)
noncomputable def c0(ds:List bf)(sts:List hG):List ST:=sts.map (k3 ds)
def lm(h:ds[i]?\d):ju ds i=d.name:=by unfold ju;rw[h];rfl
def ID(aH:(ds.map (·.name)).Nodup)(ai:i<↑ds)(aI:j<↑ds)(e:ju ds i=ju ds j):i=j:=by
 rw[lm (bj ai),lm (bj aI)]at e;exact xj aH ai aI (by rw[o_ (bj ai),o_ (bj aI)];exact e)
structure d2(n:Int)(ds:List bf)(sts:List hG):Prop where
 aH:(ds.map (·.name)).Nodup
 l8:DN n ds sts
 je:↑ds<=6
 cx:1<=↑ds
 ok:∀d∈ds,pQ n d
def d2.fv(h:d2 n ds sts):(sts.map (·.fe)).flatten.Nodup:=h.l8.bA.pm.nodup_iff.mpr List.nodup_range
theorem d2.lt(h:d2 n ds sts)(az:s∈sts)(ai:i∈s.fe):i<↑ds:=h.l8.bA.lt (cf.mpr (s,az,rfl)) ai
theorem d2.len(h:d2 n ds sts):↑sts<=6:=by
 have:=h.l8.bA.len.1;rw[aT]at this;have:=h.je;omega
def d2.k0(h:d2 n ds sts):Kb ds sts:=by
 refine(by have:=h.len;omega,λs az=>?_,λd hd=>((xv (h.ok d hd).nm).1).2);have b:=h.l8.bd s az;have hm:s.fe∈sts.map (·.fe):=cf.mpr (s,az,rfl);have a7:=h.l8.bA.M7 hm;have:=h.je;exact(((),()),((),()),h.l8.bA.ne _ hm,(),λi ai=>(_,bj (h.lt az ai)))
def d2.aeX(h:d2 n ds sts)(az:s∈sts):(e7 ds s).Nodup:=by
 have ag:s.fe.Nodup:=h.fv.sublist (aqP (cf.mpr (s,az,rfl)));unfold e7;refine aeM.mpr (aga (λ{a b} aV aa lS e=>?_) ag);exact lS (ID h.aH (h.lt az aV) (h.lt az aa) e)
theorem d2.told(h:d2 n ds sts)(az:sts[i]?\s){x:Str}(ag:x∈e7 ds s):told (c0 ds (sts.take i)) x=false:=by
 cases e:My.told (c0 ds (sts.take i)) x with
 |false=>rfl
 |true=>
  exfalso;unfold My.told at e;let(r,ao,aC):=rg.mp e;let(aj,lq,rfl):=cf.mp ao;have aC:x∈e7 ds aj:=by simpa[k3]using aC
  let(k,aB,rfl):=cf.mp ag;let(vp,fa,K'):=cf.mp aC;have:=ID h.aH (h.lt (wZ lq) fa) (h.lt (cm az) aB) K';subst this;let(ai,yb):=b5.mp az;have hf:=h.fv;rw[<- QL i sts,ee,aoG,uR ai,yb,es,xH]at hf;exact(Eb.mp hf).2.2 vp (Om.mpr (aj.fe,cf.mpr (aj,lq,rfl),fa)) vp (z9 _ aB) rfl
theorem P7:∀{r:List Str} {j:Nat} {ms:List Str},(∀x∈r,x∈alike)->(ms++r).Nodup->tP alike r j ms=.ok (ms++r)
 |[],j,ms,_,_=>by
  show tL ms=_;rw[uy]
 |x::r,j,ms,aV,a5=>by
  unfold tP;have ag:x∉ms:=λz=>(Eb.mp a5).2.2 x z x (ox ..) rfl
  rw[if_pos (aV x (ox ..),ag),P7 (λy aQ=>aV y (jj _ aQ)) (by rw[mZ];exact a5),mZ];rfl
def d2.left(h:d2 n ds sts)(az:sts[i]?\s){x:Str}(ag:x∈e7 ds s):x∈hV ds (c0 ds (sts.take i)):=by
 unfold hV;refine i0.mpr (?_,by rw[h.told az ag];rfl);let(k,aB,rfl):=cf.mp ag;have fa:=h.lt (cm az) aB;rw[lm (bj fa)];exact cf.mpr (_,ic fa,rfl)
def d2.ac3(h:d2 n ds sts)(az:sts[i]?\s):sq ds (c0 ds (sts.take i)) (i_ ds s)=.ok (k3 ds s):=by
 have hm:=cm az;have b:=h.l8.bd s hm;have cA:=h.l8.bA.ne s.fe (cf.mpr (s,hm,rfl));let(k,r,aC):=tB cA;have nc:e7 ds s=ju ds k::r.map (ju ds):=by unfold e7;rw[aC];rfl
 have hw:i_ ds s=ab "stage"::num s.lo::num s.ai::ju ds k::r.map (ju ds):=by unfold i_;rw[nc];rfl
 have c1:nk ds (hV ds (c0 ds (sts.take i))) (i_ ds s)=.ok (e7 ds s):=by
  have hf:ju ds k∈e7 ds s:=by rw[nc];exact ox ..
  have a8:aJ (i_ ds s) 3=ju ds k:=by rw[hw];rfl
  have bZ:(i_ ds s).drop 4=r.map (ju ds):=by rw[hw];rfl
  unfold nk;rw[a8,bZ,if_pos (h.left az hf),P7 (λx ag=>?_) (by have:=h.aeX hm;rw[nc]at this;exact this),nc]
  .rfl
  .have gZ:x∈e7 ds s:=by rw[nc];exact jj _ ag
   refine i0.mpr (h.left az gZ,decide_eq_true ?_);let(dz,anQ,rfl):=cf.mp ag;have J7:dz∈s.fe:=by rw[aC];exact jj _ anQ
   have Vm:k∈s.fe:=by rw[aC];exact ox ..
   have cx:=bj (h.lt hm Vm);have cQ:=bj (h.lt hm J7);have al:=h.l8.bA.al s.fe (cf.mpr (s,hm,rfl)) dz J7 k Vm _ _ cQ cx;show(iO ds (ju ds dz)).map jl=(iO ds (ju ds k)).map jl;rw[lm cx,lm cQ,nx h.aH cx,nx h.aH cQ];have:=wY.mp al;show some (jl _)\(jl _);unfold jl;by_cases c:(ds[dz]'(h.lt hm J7)).k=2
   .rw [if_pos c,if_pos (this.mp c)]
   .rw [if_neg c,if_neg (λz=>c (this.mpr z))]
 have h0:aJ (i_ ds s) 0=ab "stage":=by rw[hw];rfl
 have af:aJ (i_ ds s) 1=num s.lo:=by rw[hw];rfl
 have ak:aJ (i_ ds s) 2=num s.ai:=by rw[hw];rfl
 have au:mA (num s.lo) 1 60\s.lo:=TL (sT () () () ());have aE:mA (num s.ai) s.lo 60\s.ai:=TL (sT () () () ());unfold sq;rw[h0,af,ak,c1,if_pos (eB.mpr rfl),au];show(mA (num s.ai) s.lo 60).elim _ _=_;rw[aE];rfl
theorem d2.parse(h:d2 n ds sts):∀(m i:Nat),↑sts-i=m->i<=↑sts->u1 ds ((hz ds sts).drop i) i (c0 ds (sts.take i))=.ok (c0 ds sts)
 |0,i,hm,ai=>by
  have:i=↑sts:=()
  subst this;have aN:↑(hz ds sts)=↑sts:=by unfold hz;rw[aT]
  rw[<- aN,AH,aN,hO];rfl
 |m+1,i,hm,ai=>by
  have fY:i<↑sts:=()
  have az:sts[i]?\sts[i]:=bj fY;have aN:i<↑(hz ds sts):=by unfold hz;rw[aT];exact fY
  have a7:(hz ds sts)[i]=i_ ds sts[i]:=(b5.mp (show(hz ds sts)[i]?\(i_ ds sts[i])by unfold hz;rw[dv,az];rfl)).2;rw[uR aN,a7];unfold u1;have iU:=h.len;rw[if_neg (by unfold c0;rw[aT,ha];omega),h.ac3 az];have c4:=h.parse m (i+1) () fY;rw[i6 az]at c4;unfold c0 at c4⊢;rw[ee]at c4;exact c4
theorem d2.none(h:d2 n ds sts):(hV ds (c0 ds sts)).head? = wC/\w6 ds (c0 ds sts)=wC/\xE n ds (c0 ds sts)=wC:=by
 refine(?_,?_,?_)
 .have:hV ds (c0 ds sts)=[]:=by
   unfold hV;refine Qm.mpr λx ag=>?_
   let(d,hd,rfl):=cf.mp ag;let(k,aB):=g8 hd;have lG:=(b5.mp aB).1;have hf:=h.l8.bA.pm.mem_iff.mpr (pY.mpr lG);let(g,a7,agV):=Om.mp hf;let(s,az,rfl):=cf.mp a7;have:My.told (c0 ds sts) d.name=true:=by
    unfold My.told;refine rg.mpr (k3 ds s,cf.mpr (s,az,rfl),?_);have:d.name∈e7 ds s:=cf.mpr (k,agV,lm aB);simpa[k3]using this
   rw[this];simp
  rw[this];rfl
 .unfold w6;refine JY.mpr λd hd=>?_
  unfold AW;cases aB:kH (c0 ds sts) d.name with
  |none=>rfl
  | some k=>
   rw[yV];cases ao:(c0 ds sts)[k]? with
   |none=>rfl
   | some r=>
    rw[yV];have ag:My.told (c0 ds sts) d.name=true:=by
     have:=XG (c0 ds sts) d.name;rw[<- this];unfold kH at aB;cases e:df (hp ((c0 ds sts).map (·.mem))) (bO d.name)with
     |none=>rw[e]at aB;cases aB
     |some v=>rfl
    let(vp,eU,_,fa,el,hm):=pO ag;rw[aB]at fa;cases fa;rw[ao]at el;cases el;let(s,az,rfl):=b' ao;let(i,ai,rv):=cf.mp hm;have wm:=cm az;have gI:=h.lt wm ai;rw[lm (bj gI)]at rv;let(j,aI):=g8 hd;have:i=j:=xj h.aH gI (b5.mp aI).1 (by rw[o_ (bj gI),o_ aI,rv]);subst this;have:=h.l8.le s wm i ai d aI;show(if s.lo<d.least then some (p'p d k)else wC)=wC;rw[if_neg (show ¬s.lo<d.least by omega)]
 .unfold xE;refine JY.mpr λe he=>?_
  let(r,k):=e;have ao:r∈c0 ds sts:=List.fst_mem_of_mem_zipIdx he;let(s,az,rfl):=cf.mp ao;unfold vJ;refine JY.mpr λx ag=>JY.mpr λy aQ=>?_
  let(i,ai,rfl):=cf.mp ag;let(j,aI,rfl):=cf.mp aQ;unfold rb;rw[if_neg];intro(gy,eE);have li:=bj (h.lt az ai);have yi:=bj (h.lt az aI);unfold rn at eE;rw[lm li,lm yi,nx h.aH li,nx h.aH yi]at eE;have:=h.l8.bA.Dj s.fe (cf.mpr (s,az,rfl)) i ai j aI (λz=>gy (by rw[z])) _ _ li yi;replace eE:mt n _ _=true:=eE;rw[this]at eE;cases eE
def ZA(P:Program)(w:World)(t:bQ):bV:=λvs H Q _=>∃c n ds sts,vs=[⇑c,.str (v7 ds sts)]/\gp t H c n ds/\(4<=n/\n<=99)/\d2 n ds sts/\aF H/\∀a I,aM H I->aF I->fC P w t I a c n ds (c0 ds sts)->Q ⇑a I
def d2.plain(h:d2 n ds sts):∀r∈hz ds sts,r≠[]/\↑r<=11/\∀x∈r,sx x:=λr ao=>by
 let(s,az,rfl):=cf.mp ao;let(RK,VQ,bne,Dy,yu):=h.k0.bd s az;refine(by unfold i_;simp,?_,λx ag=>?_)
 .unfold i_ e7;rw[cU,aT];show 3+↑s.fe<=11;omega
 .unfold i_ at ag;rcases eQ.mp ag with z|z
  .have z:x=ab "stage"\/x=num s.lo\/x=num s.ai:=by simpa using z
   rcases z with rfl|rfl|rfl
   .unfold sx;ac_nf
   .exact m1 () ()
   .exact m1 () ()
  .let(k,aB,rfl):=cf.mp z;let(d,hd):=yu k aB;rw[lm hd];exact Mn (h.ok d (cm hd)).nm
def d2.rows(h:d2 n ds sts)(cA:sts≠[]):iC (v7 ds sts)=hz ds sts:=by
 unfold v7;exact ZL (by unfold hz;simpa using cA) (λr ao=>(h.plain r ao).1) (λr ao=>(h.plain r ao).2.2)
def d2.ne(h:d2 n ds sts):sts≠[]:=λe=>by
 have:=h.l8.bA.len.2;rw[e]at this;simp at this;have:=h.cx;omega
def d2.txt(h:d2 n ds sts):↑(v7 ds sts)<=20000:=by
 have g4:∀y∈(hz ds sts).map (eG c_),↑y<=200:=λy aQ=>by
  let(r,ao,rfl):=cf.mp aQ;let(_,ak,a8):=h.plain r ao;have:=rU c_ 8 r λx ag=>(a8 x ag).1
  rw[tH]at this;omega
 have:=rU nl 200 _ g4;rw[yM,aT]at this;have aN:↑(hz ds sts)<=6:=by unfold hz;rw[aT];exact h.len
 unfold v7;omega
def agc:cu P base T 7 t.y' t.zS A7 (ZA P w t):=by
 refine(acb T).imp λvs H Q E h=>?_
 let(c,n,ds,sts,rfl,C,a5,X,bz,q):=h;let(gy,eE,Cs):=X.none;have cA:∀d∈ds,d.name≠ab "":=λd hd e=>by
  have h:=(xv (X.ok d hd).nm).1.1;rw[e]at h;exact absurd h ∅
 have b1:y5 ds:=λd hd=>by
  let(af,ak):=xv (X.ok d hd).nm;exact((cZ af.2 ∅,λc aC=>by have:=ak c aC;omega),(X.ok d hd).k,(X.ok d hd).of.1,by have:=(X.ok d hd).of;omega)
 have aq:=X.parse ↑sts 0 rfl (eO _);rw[adM,vq,show c0 ds []=[]from rfl]at aq;refine(c,n,ds,_,_,rfl,C,(),b1,cA,X.txt,by rw[X.rows X.ne];unfold hz;rw[aT];have:=X.len;omega,λr ao=>?_,bz,by rw[X.rows X.ne];exact aq,aq0.mp gy,eE,Cs,λa I aj dX c8=>q a I aj dX c8);rw[X.rows X.ne]at ao;let(af,ak,a8):=X.plain r ao;exact(af,(),λy aQ=>cZ (a8 y aQ).1 ∅)
def Zf(aH:(ds.map (·.name)).Nodup)(az:∀i∈s.fe,i<↑ds){k:Nat}(aB:ds[k]?\d):d.name∈e7 ds s↔k∈s.fe:=by
 have lG:=(b5.mp aB).1;refine(λh=>?_,λh=>cf.mpr (k,h,lm aB));let(j,aI,e):=cf.mp h;rw[<- lm aB]at e;rw[<- ID aH (az j aI) lG e];exact aI
noncomputable def m2(sts:List hG)(j:Nat):List Nat:=((sts[j]?).map (·.fe)).getD []
def EH{x:hG}(h:sts[j]?\x):m2 sts j=x.fe:=by unfold m2;rw[h];rfl
noncomputable def U2(ds:List bf)(i:Nat):Bool:=decide ((ds[i]?).map (·.k)\2)
noncomputable def IC(ds:List bf)(sts:List hG)(j:Nat):Bool:=U2 ds ((m2 sts j).headD 0)
def d2.six{n:Int}{ds:List bf}{sts:List hG}(h:d2 n ds sts){j:Nat}(aI:j<↑sts):sts[j].fe≠[]/\↑sts[j].fe<=8:=by
 let(_,_,a,b,_):=h.k0.bd _ (ic aI);exact(a,b)
section
variable{n:Int}{ds:List bf}{sts:List hG}
def d2.tell(X:d2 n ds sts){d:bf}(hd:d∈ds):My.told (c0 ds sts) d.name=true:=by
 have h:hV ds (c0 ds sts)=[]:=aq0.mp X.none.1;unfold hV at h;have:=Qm.mp h d.name (cf.mpr (d,hd,rfl));simpa using this
theorem WN{j k:Nat}(h:k∈m2 sts j):∃x,sts[j]?\x/\k∈x.fe:=by
 unfold m2 at h;cases e:sts[j]? with
 |none=>rw[e]at h;simp at h
 |some x=>rw[e]at h;exact(x,rfl,h)
def d2.uniq(X:d2 n ds sts){j i k:Nat}(af:k∈m2 sts j)(ak:k∈m2 sts i):j=i:=by
 have half:∀{a b:Nat},a<b->k∈m2 sts a->k∈m2 sts b->False:=λ{a b} lS aV aa=>by
  let(x,ag,HN):=WN aV;let(y,aQ,amM):=WN aa;have hf:=X.told aQ (x:=ju ds k) (cf.mpr (k,amM,rfl));have gZ:x∈sts.take b:=cm (by rw[tV lS];exact ag);have:My.told (c0 ds (sts.take b)) (ju ds k)=true:=by
   unfold My.told;refine rg.mpr (k3 ds x,cf.mpr (x,gZ,rfl),?_);have hm:ju ds k∈e7 ds x:=cf.mpr (k,HN,rfl);simpa[k3]using hm
  rw[hf]at this;cases this
 rcases af2 j i with h|h|h
 .exact (half h af ak).elim
 .exact h
 .exact (half h ak af).elim
def d2.Rg(X:d2 n ds sts){j k:Nat}{d:bf}(hd:ds[k]?\d):kH (c0 ds sts) d.name\j↔k∈m2 sts j:=by
 let(eZ,r,_,aB,kc,hm):=pO (X.tell (cm hd));unfold c0 at kc;rw[dv]at kc;let(x,ag,rfl):=Ab.mp kc;have hm:d.name∈e7 ds x:=hm;have HN:k∈x.fe:=(Zf X.aH (λi ai=>X.lt (cm ag) ai) hd).mp hm;have il:k∈m2 sts eZ:=by rw[EH ag];exact HN
 rw[aB];constructor
 .intro e;cases e;exact il
 .intro h;rw[X.uniq h il]
def d2.sort(X:d2 n ds sts){j:Nat}(aI:j<↑sts):cE ds (c0 ds sts) j=if IC ds sts j=true then dw else iT:=by
 have ag:=bj aI;let(oQ,r,e):=tB (X.six aI).1;have ke:oQ∈sts[j].fe:=by rw[e];exact .head _
 have lz:=bj (X.lt (ic aI) ke);unfold cE c0;rw[dv,ag];show dj ds (k3 ds sts[j])=_;unfold dj k3 e7;rw[e,es,lm lz];show(((iO ds _).map jl).getD _)=_;rw[nx X.aH lz];show jl _=_;unfold jl IC U2;rw[EH ag,e];show _=if decide ((ds[oQ]?).map (·.k)\2)=true then dw else iT;rw[lz,Ek];by_cases h:(ds[oQ]'(X.lt (ic aI) ke)).k=2
 .rw [if_pos h,if_pos (decide_eq_true (congrArg some h))]
 .rw [if_neg h,if_neg (λz=>h (er (of_decide_eq_true z)))]
end
def Mg{ds:List bf}{sts:List hG}{j:Nat}{x:hG}(h:sts[j]?\x):(c0 ds sts)[j]?\(k3 ds x):=by unfold c0;rw[dv,h];rfl
def kn.oY{H I:aw}{wl:Addr}{ds:List bf}(h:kn H wl ds)(s:ip H I):kn I wl ds:=by
 let(qs,au,aE,bI):=h;exact(qs,s.lst au,aE,λi q d a b=>s.tup (bI i q d a b))
def qk.oY{H I:aw}{cX:Addr}{qs ms:List Addr}{sts:List hG}(h:qk H cX qs ms sts)(s:ip H I):qk I cX qs ms sts:=
 (s.lst h.at_,h.cx,h.cQ,λi q m x a b c=>(s.tup (h.al i q m x a b c).1,s.lst (h.al i q m x a b c).2))
def d2.agO{n:Int}{ds:List bf}{sts:List hG}(X:d2 n ds sts):oU ds (c0 ds sts):=by
 refine(λd hd=>X.tell hd,λr ao=>?_,λr ao=>?_,by have:=X.je;omega)
 .let(x,ag,rfl):=cf.mp ao;show ↑(e7 ds x)<=12;unfold e7;rw[aT];have:=(X.k0.bd x ag).2.2.2.1;omega
 .obtain⟨x,ag,rfl⟩:=cf.mp ao;obtain⟨j,aI,e⟩:=Df ag;have:=X.sort aI;unfold cE at this;rw[Mg (bj aI),e]at this;have this:dj ds (k3 ds x)=_:=this;rw[this];split
  .exact .inl rfl
  .exact .inr rfl
def BU{last m v:Int}(af:-1<=last)(ak:last<v)(a8:v<m):o7 last m v=v-last-1:=by
 unfold o7;exact oB () ()
def C4{last m v:Int}(af:last<m)(ak:0<=v)(a8:v<=last):o7 last m v=v-last-1+m:=by
 unfold o7;have e:(v-last-1)%m=(v-last-1+m)%m:=by simp
 rw[e];exact oB () ()
def ao8{last:Int}{m a b:Nat}(af:-1<=last)(ak:last<m)(aV:a<m)(aa:b<m)(h:o7 last m a=o7 last m b):a=b:=by
 by_cases ca:last<(a:Int) <;> by_cases Yf:last<(b:Int)
 .rw [BU af ca (),BU af Yf ()]at h;omega
 .rw [BU af ca (),C4 ak () ()]at h;omega
 .rw [C4 ak () (),BU af Yf ()]at h;omega
 .rw [C4 ak () (),C4 ak () ()]at h;omega
unseal L2.g6 L2.bw L2.gO L2.iS L2.iz L2.gs
section
open PySem PySem.Spec PyProof.Rows L2
def Dx(ts:List Addr)(H:aw):Prop:=(∀p∈ts,H p\(.hS #[]))/\∀b,H b=none\/b∈ts\/∃o xs,H b\(.ei o (.lst xs))
def aks{K:bq}{ns:List Int}(mV:Dx ts H)(dY:ay K H a (ns.map V.int)):Sc K a ns H:=by
 refine(?_,λb u e=>?_)
 .rcases dY with(h|⟨o,h⟩)|h
  .rcases mV.2 a with z|z|⟨cG,xs,z⟩
   .rw [h]at z;cases z
   .rw [mV.1 a z]at h;cases h
   .rw [h]at z;cases z
  .exact .inl (o,h)
  .exact .inr h
 .rcases mV.2 b with z|z|⟨o,xs,z⟩
  .rw [e]at z;cases z
  .rw [mV.1 b z]at e;cases e;rfl
  .rw [e]at z;cases z;rfl
theorem abn{P:Program}{w:World}{K:bq}{mg oP:Str->Option Value}{CX:kd}{k:Nat}{gX a:Addr}{ts:List Addr}{cd:Addr->Addr}{fd:FuncData}{x:Str}{sp:bV}{dQ:Shared}{vs:List Value}{ns:List Int}
  (k6:K.In dQ.heap) (gn:anx K=true) (qu:dQ.heap.Ns mainGlobals mg) (aa:dQ.heap.Ns builtinsNs oP) (sQ:∀x:Str,x≠"__name__"->oP x=bootBuiltins x) (aqT:dQ.heap.NoLimit) (a7:dQ.gens=#[])
  (apK:∃bm cG,mg "__builtins__"\⇑bm/\bm≠builtinsNs/\dQ.heap.get? bm\cG/\cG.cls=.type "module"/\cG.dict\builtinsNs/\cG.data=.plain)
  (dd:∀p∈ts,mD dQ.heap (cd p) p) (c1:∀p∈ts,dQ.heap.get? p\(K3 #[]))
  (aV:dQ.heap.get? a=some {cls:=.type "list",data:=.seq vs.toArray}) (ai:IntsAre vs ns) (aN:↑ns<=sizeLine) (ao:bn k callerA)
  (F:∀base:Heap,K.In base->base.Ns mainGlobals mg->(∀p∈ts,mD base (cd p) p/\base.BuiltinsAt mg p)->cT P w K mg base CX k gX fd [x] sp) (asB:∀(s:Shared) (u:Value),BindsTo s fd ([u],[]) [(p'p x u)])
  (jk:∀H:aw,Dx ts H->ay K H a (ns.map V.int)->sp [⇑a] H (λv _=>v=.bG true) λ_ _ _=>False)
  (J0:∀H e aj,CX [] H dQ (λ_ _ _=>False) e aj->False) :
  codeAny (model P w) callerA (.call ⇑gX ([⇑a],[])) (λr aj=>r=.ok (.ret (.bool true))/\OldK dQ.heap aj.heap/\aj.os=dQ.os/\AllBare aj.gens) dQ:=by
 have cM:=UI ai;have akw:=↑ai;have XU:a∉ts:=λz=>by rw[c1 a z]at aV;cases aV
 have am0:∀p∈ts,∀o,K.lookup p\o->False:=λp aq o e=>by
  have au:=k6 _ _ e;rw[c1 p aq]at au;cases au;have:=vH.mp gn _ (PySem.W.mem_of_lookupK e);exact absurd (show false=true from this) fT
 have core:∀H:aw,Dx ts H->ay K H a (ns.map V.int)->fD P w H dQ.heap->(∀b,H b≠none->b∈ts\/b=a)->(H a≠none->K.lookup a=none) ->
   codeAny (model P w) callerA (.call ⇑gX ([⇑a],[])) (λr aj=>r=.ok (.ret (.bool true))/\OldK dQ.heap aj.heap/\aj.os=dQ.os/\AllBare aj.gens) dQ:=by
  intro H mV dY bC ll acd;have Td:∀{b:Addr} {o:Obj},dQ.heap.get? b\o->o.cls≠.none->(∀a3 n,o.data≠.seq a3 n)->(qa dQ.heap H).get? b\o:=λ{b o} e af ak=>by
   refine OW e ?_;cases q:H b with
   |none=>rfl
   |some u=>
    rcases ll b (by rw[q];simp)with z|z
    .rw [c1 b z]at e;cases e;exact absurd rfl af
    .subst z;rw[aV]at e;cases e;exact absurd rfl (ak _ _)
  have Fy:∀{b:Addr} {m:Str->Option Value},dQ.heap.Ns b m->(qa dQ.heap H).Ns b m:=λ{b m} ⟨o,aW,cJ,e,d,r⟩=>(o,aW,cJ,(by
   refine OW e ?_;cases q:H b with
   |none=>rfl
   |some u=>
    rcases ll b (by rw[q];simp)with z|z
    .rw [c1 b z]at e;cases e;cases d
    .subst z;rw[aV]at e;cases e;cases d),d,r)
  have R3:K.In (qa dQ.heap H):=λb o e=>OW (k6 b o e) (by
   cases q:H b with
   |none=>rfl
   |some u=>
    rcases ll b (by rw[q];simp)with z|z
    .exact (am0 b z o e).elim
    .subst z;rw[acd (by rw[q];simp)]at e;cases e)
  have adn:Mod K mg (qa dQ.heap H):=(R3,Fy qu,(oP,Fy aa,sQ),let⟨ajl,af,ak⟩:=aqT;(ajl,Fy af,ak));have afK:∀p∈ts,mD (qa dQ.heap H) (cd p) p:=λp aq=>by
   let(o,aiU,file,acn,flags,dG,afp,text,tt,au,aE,bI,r):=dd p aq;exact(o,aiU,file,acn,flags,dG,afp,text,tt,Td au (by rw[aE];intro z;cases z) (λ_ _ z=>by rw[bI]at z;cases z),aE,bI,r)
  have ah9:∀p∈ts,(qa dQ.heap H).BuiltinsAt mg p:=λp aq=>by
   let(bm,cG,af,ak,a8,bZ,dS,iU):=apK;refine(bm,cG,af,ak,λz=>?_,λz=>?_,Td a8 (by rw[bZ];intro z;cases z) (λ_ _ z=>by rw[iU]at z;cases z),bZ,dS,iU)
   .let(o,aW,cJ,e,d,_):=qu;rw[z,e]at a8;cases a8;rw[d]at iU;cases iU
   .rw [z,c1 p aq]at a8;cases a8;cases bZ
  have fb:rX P w K mg (qa dQ.heap H) callerA [] dQ H:=(rfl,adn,λb o e=>aso e,abb (aa3 _ _),trivial,λb aa=>absurd (show b∈([]:List Addr)from aa) (by simp),bC,.of_eq a7);refine codeAny_mono ((F _ R3 (Fy qu) (λp aq=>(afK p aq,ah9 p aq))).run callerA [] dQ H ([⇑a],[]) [⇑a] [⇑a] _ _ ao fb (asB dQ ⇑a) (.cons rfl .nil) (jk H mV dY)) λr aj h=>?_
  cases r with
  |error e=>exact(J0 H e aj h).elim
  | ok fv=>
   cases fv with
   |next=>exact lE h
   |brk=>exact lE h
   |cont=>exact lE h
   | ret u=>
    let(v,I,os,bare,un,V3,eU,q):=h;have dB:v=.bG true:=q;subst dB;obtain rfl:u=lZ true:=eU;have bS:∀p∈ts,∃more,aj.heap.get? p=some {cls:=.none,data:=.fields (#[]++more)}:=λp aq=>by
     let(more,l9):=un.qW p _ (mV.1 p aq);exact(more,V3 _ _ l9)
    have bp:∀b o,b∉ts->dQ.heap.get? b\o->aj.heap.get? b\o:=λb o nb e=>by
     rcases mV.2 b with z|z|⟨cG,xs,z⟩
     .exact un.keep b o e z (by intro z;exact absurd (show b∈([]:List Addr)from z) (by simp)) (by simp)
     .exact absurd z nb
     .have eE:=un.ot b cG _ z;let(au,_):=bC b _ z;let(aE,_):=V3 b _ eE;rw[e]at au;cases au;exact aE
    refine(rfl,(λb o e=>?_,λb o e=>?_),os,bare)
    .by_cases sU:b∈ts
     .rw [c1 b sU]at e;cases e;let(more,LG):=bS b sU;exact .inr (.inl (((dd b sU).tab (c1 b sU)).isCodeTable,rfl,#[],more,rfl,LG))
     .exact .inl (bp b o sU e)
    .by_cases sU:b∈ts
     .let(more,LG):=bS b sU;exact(_,LG)
     .exact (o,bp b o sU e)
 cases aB:K.lookup a with
 | some o=>
  have e:=k6 a o aB;rw[aV]at e;cases e;refine core (λb=>if b∈ts then some (.hS #[])else none) (λp aq=>if_pos aq,λb=>?_) (.inr (_,vs.toArray,_,aB,rfl,rfl,rfl,by rw[e2,akw];exact aN,by simpa using cM)) (λb u z=>?_) (λb z=>?_) λz=>absurd (if_neg XU) z
  .by_cases aa:b∈ts
   .exact .inr (.inl aa)
   .exact .inl (if_neg aa)
  .by_cases aa:b∈ts
   .have hB:=(if_pos aa).symm.trans z;cases hB;exact c1 b aa
   .have hB:=(if_neg aa).symm.trans z;cases hB
  .by_cases aa:b∈ts
   .exact .inl aa
   .exact absurd (if_neg aa) z
 | none=>
  have iy:(λb=>if b∈ts then some (eH.hS #[])else if b=a then some (.ei {cls:=.type "list",data:=.seq vs.toArray} (.lst (ns.map V.int)))else none) a\(.ei {cls:=.type "list",data:=.seq vs.toArray} (.lst (ns.map V.int))):=by
   show(if a∈ts then _ else if a=a then _ else _)=_;rw[if_neg XU,if_pos rfl]
  refine core (λb=>if b∈ts then some (.hS #[])else if b=a then some (.ei {cls:=.type "list",data:=.seq vs.toArray} (.lst (ns.map V.int)))else none) (λp aq=>if_pos aq,λb=>?_) (.inl (.inr (_,iy))) (λb u z=>?_) (λb z=>?_) λ_=>aB
  .by_cases aa:b∈ts
   .exact .inr (.inl aa)
   .by_cases kY:b=a
    .exact .inr (.inr (_,_,by rw[kY];exact iy))
    .exact .inl ((if_neg aa).trans (if_neg kY))
  .by_cases aa:b∈ts
   .have hB:=(if_pos aa).symm.trans z;cases hB;exact c1 b aa
   .by_cases kY:b=a
    .subst kY;rw[iy]at z;cases z;exact(aV,by rw[aT];exact aN,vs,_,cM,aV)
    .have hB:=((if_neg aa).trans (if_neg kY)).symm.trans z;cases hB
  .by_cases aa:b∈ts
   .exact .inl aa
   .by_cases kY:b=a
    .exact .inr kY
    .exact absurd ((if_neg aa).trans (if_neg kY)) z
def amj {l:PySem.W.OpenLaw} {n k:Nat} {q:Program} {loose:List Str} {C':(Str->Option Value)->Heap->Prop} {xk:World->Heap->Prop} {d:DefRec} {K:Params->bq} {CX:kd} {sp:bq->Addr->Addr->bV} {x:Str} {hM jd:Addr}
  (a5:l.most\n) (tC:n<=sizeLine) (OF:d.params.defaults=[]) (ao:bn k callerA)
  (agy:∀(w:World) (h:Heap),xk w h->(K w.params).In h) (jR:∀(w:World) (h:Heap),xk w h->h.get? hM\(K3 #[])/\h.get? jd\(K3 #[])) (lS:hM≠jd) (gn:∀p,anx (K p)=true)
  (F:∀(w:World) (mg:Str->Option Value) (gX:Addr) (h:Heap),(K w.params).In h->h.Ns mainGlobals mg->mg d.name\⇑gX->HT hM->HT jd ->
   ∃(fd:FuncData) (c c':Addr),(∀(s:Shared) (u:Value),BindsTo s fd ([u],[]) [(p'p x u)])/\Hm (K w.params) c hM=true/\Hm (K w.params) c' jd=true /\
    ∀(base:Heap),(K w.params).In base->base.Ns mainGlobals mg->mD base c hM->base.BuiltinsAt mg hM->mD base c' jd->base.BuiltinsAt mg jd->cT l.prog w (K w.params) mg base CX k gX fd [x] (sp (K w.params) hM jd))
  (jk:∀(K:bq) (H:aw) (a hM jd:Addr) (ns:List Int),↑ns<=n->hM≠jd->Dx [hM,jd] H->ay K H a (ns.map V.int)->sp K hM jd [⇑a] H (λv _=>v=.bG true) λ_ _ _=>False)
  (J0:∀(H:aw) (s:Shared) (e:Value) (aj:Shared),CX [] H s (λ_ _ _=>False) e aj->False) :
  PySem.W.WalkO q loose C' xk l.row.toRowW d [] (λf vs=>aoS f vs):=by
 refine Xv.abQ a5 OF λw gE dQ mg oP gX o pm cd doc a vs ns G Y aU hd kq Bg LI hints hlen a7=>?_
 have k6:=agy w _ Y;let(fd,c,c',aa,aC,xJ,rO):=F w mg gX _ k6 G.T.g Bg trivial trivial;have two:∀{Q:Addr->Prop},Q hM->Q jd->∀p∈[hM,jd],Q p:=λaf ak p aq=>by
  rcases d6.mp aq with e|e
  .rw [e];exact af
  .rw [eB.mp e];exact ak
 have au:(if hM=hM then c else c')=c:=if_pos rfl;have aE:(if jd=hM then c else c')=c':=if_neg (dm lS);refine abn (ts:=[hM,jd]) (cd:=λp=>if p=hM then c else c') k6 (gn w.params) G.T.g G.T.b G.T.builtins G.T.nolimit a7 G.T.bmain (two (by show mD _ (if hM=hM then c else c') _;rw[au];exact aeW k6 aC) (by show mD _ (if jd=hM then c else c') _;rw[aE];exact aeW k6 xJ)) (two (jR w _ Y).1 (jR w _ Y).2) LI hints (cZ hlen tC) ao (λbase V' nb h=>?_) aa (λH mV dY=>jk (K w.params) H a hM jd ns hlen lS mV dY) λH e aj=>J0 H dQ e aj
 have aV:=h hM (.head _);have ep:=h jd (.tail _ (.head _))
 (try dsimp only at aV ep)
 rw[au]at aV;rw[aE]at ep;exact rO base V' nb aV.1 aV.2 ep.1 ep.2
end
section
open PySem.Spec PyProof.Rows
section
variable{X:bg}{A:Around}{ae:List (Addr×Obj)}{σ:L2.St}{H:aw}{l q J S:Addr}{n:Nat}{P:Nat->Value->Prop}{R:Result->Shared->Prop}
theorem akZ(c5:Nat->Int)(ct:A.handled=none)(aN:∀s,L2.Inv X ae σ H s->∃vs:List Value,↑vs=n/\(∀i v,vs[i]?\v->P i v)/\s.heap.IsList l vs.toArray)(px:l≠J)(mh:S≠J)(ko:nf X ae H S)(j9:nf X ae H J)
  (turn:∀(i:Nat) (v:Value),i<n->P i v->∀(ae:List (Addr×Obj)) (s:Shared),L2.Inv X ae σ H s ->
   wpAny (model X.prog X.w) A.in1 (call ⇑q [v]) (gT X ae σ λx I=>x=.int (c5 i)/\I=H) (λ_ _=>False) s)
  (ho:∀i v aj,i<n->P i v->(∀j,j<n->c5 j<=c5 i/\(j<i->c5 j<c5 i))->L2.Inv X ae σ H aj->R (.ok (.ret v)) aj) :
  ∀(r j i:Nat) (s:Shared) (n7:Value) (bS:Tok) (c:Nat),n-(j+1)=r->j+1<=n->L2.Inv X ae σ H s ->
   s.heap.get? S\(seqObj "list" #[n7,.int (c5 i) bS] c)->s.heap.IsListIter J l (j+1)->P i n7->i<=j->(∀eZ,eZ<=j->c5 eZ<=c5 i/\(eZ<i->c5 eZ<c5 i)) ->
   codeAny (model X.prog X.w) A (.builtin "max.loop" ([⇑J,⇑q,⇑S],[])) R s:=by
 have pk:(toString "max"++toString ".loop":String)="max.loop":=by decide
 intro r
 induction r with
 |zero=>
  intro j i s n7 bS c ao aI bH dY hit wg lI nG;let(vs,r_,r6,pW):=aN s bH;have W:=v3 (prog:=X.prog) (w:=X.w) (A:=A.in1) ct J l px vs.toArray;have hsz:vs.toArray.size=↑vs:=e2 ..;have hy:j+1=↑vs:=()
  refine codeAny_builtin Zq ?_;rw[zP xa _];show wpAny _ A.in1 (seqItems? ⇑S >>= _) _ _ _;refine wpAny_bind (wpAny_seqItems dY rfl ?_);show wpAny _ A.in1 (tryCatch (pyNext ⇑J) _ >>= _) _ _ _;refine wpAny_bind (wpAny_tryCatch (W.done _ _ _ (by rw[hsz,<- hy];exact hit,pW) λh' p7 fa=>?_));have mY:L2.Inv X ae σ H {s with heap:=h',toks:=p7}:=j9.turn bH λb o n e=>fa b o (by simpa using n) e
  have qt:=fa S _ (by simpa using mh) dY;show wpAny _ A.in1 (updateSeq S (λ_=>#[]) >>= _) _ _ _;refine wpAny_bind ?_;refine wpAny_updateSeq qt rfl (wpAny_bind (wpAny_letGo (wpAny_pure ?_)));exact ho i n7 _ () wg (λeZ il=>nG eZ ()) (ko.turn mY λb o n e=>(qr _ _ (dm n)).trans e)
 | succ r c4=>
  intro j i s n7 bS c ao aI bH dY hit wg lI nG;let(vs,r_,r6,pW):=aN s bH;have W:=v3 (prog:=X.prog) (w:=X.w) (A:=A.in1) ct J l px vs.toArray;have hsz:vs.toArray.size=↑vs:=e2 ..;have dU:j+1<n:=()
  refine codeAny_builtin Zq ?_;rw[zP xa _];show wpAny _ A.in1 (seqItems? ⇑S >>= _) _ _ _;refine wpAny_bind (wpAny_seqItems dY rfl ?_);show wpAny _ A.in1 (tryCatch (pyNext ⇑J) _ >>= _) _ _ _;refine wpAny_bind (wpAny_tryCatch (W.item (j+1) _ _ _ (by rw[hsz,r_];exact dU) (hit,pW) λv h' p7 c1 uX fa=>?_));have aK:P (j+1) v:=r6 _ _ (by simpa using c1);let(su,uZ,oz,n3):=id uX.1;have mY:L2.Inv X ae σ H {s with heap:=h',toks:=p7}:=j9.turn bH λb o n e=>fa b o (by simpa using n) e
  have qt:=fa S _ (by simpa using mh) dY;have sv:=CV mY ko j9 qt uZ (λ_ z=>by cases z) (λ_ z=>by rw[n3]at z;cases z);show wpAny _ A.in1 (tryCatch (holding [v] (call ⇑q [v])) _ >>= _) _ _ _;refine wpAny_bind (wpAny_tryCatch (wpAny_holding (wpAny_mono (turn (j+1) v dU aK _ _ sv) (λx s2 he=>?_) λ_ _ rO=>rO.elim)));let(eR,I,pX,bk,rfl,rfl):=he;let(ew,rfl):=bk;let(pT,nM,sl):=BM pX;have Od:s2.heap.IsListIter J l (j+1+1):=(su,sl,oz,n3);show wpAny _ A.in1 (tryCatch (holding [v,.int (c5 (j+1)) ew] (richCompare .Gt (.int (c5 (j+1)) ew) (.int (c5 i) bS) >>= _)) _ >>= _) _ _ _;refine wpAny_bind (wpAny_tryCatch (wpAny_holding (wpAny_bind (CmpOf.ints_gt (prog:=X.prog) (w:=X.w) (A:=A.in1) (P:=λi v=>∃t,v=.int (c5 i) t) c5 (λi v h=>h) (j+1) i _ _ _ _ _ (ew,rfl) (bS,rfl) ?_))));refine wpAny_bind (wpAny_holding (wpAny_truthy_bool ?_));refine wpAny_bind (wpAny_letGo (wpAny_pure ?_));by_cases ep:c5 (j+1)>c5 i
  .obtain⟨bY,r1⟩:∃bY,(s2.heap.update S (oT fun _=>#[v,.int (c5 (j+1)) ew])).get? S=some (seqObj "list" #[v,.int (c5 (j+1)) ew] bY):=⟨_,get?_update_seq nM fun _=>#[v,.int (c5 (j+1)) ew]⟩;simp only[ep,decide_true,if_true];refine wpAny_bind ?_;refine wpAny_updateSeq nM rfl (wpAny_bind (wpAny_letGo ?_));rw[pk];have qS:=ko.turn (t':=s2.toks) pT (h':=s2.heap.update S (oT fun _=>#[v,.int (c5 (j+1)) ew])) fun b o n e=>(qr _ _ (dm n)).trans e
   refine wpAny_pure (plainId_quiet xa _,c4 (j+1) (j+1) _ v ew bY () dU qS r1 (su,(qr _ _ mh).trans sl,oz,n3) aK (bR _) λeZ il=>?_);by_cases e:eZ=j+1
   .subst e;exact((),λ_=>())
   .have t7:=nG eZ ();have kY:=t7.1;exact((),λ_=>())
  .simp only[ep,decide_false,EJ,if_false];refine wpAny_bind (wpAny_letGo ?_);rw[pk];refine wpAny_pure (plainId_quiet xa _,c4 (j+1) i _ n7 bS c () dU pT nM Od wg () λeZ il=>?_);by_cases e:eZ=j+1
   .subst e;exact((),λ_=>())
   .exact nG eZ ()
def anA(c5:Nat->Int)(ct:A.handled=none)(bH:L2.Inv X ae σ H s)(aN:∀ae s,L2.Inv X ae σ H s->∃vs:List Value,↑vs=n/\(∀i v,vs[i]?\v->P i v)/\s.heap.IsList l vs.toArray)(cA:0<n)
  (turn:∀(i:Nat) (v:Value),i<n->P i v->∀(ae:List (Addr×Obj)) (s:Shared),L2.Inv X ae σ H s ->
   wpAny (model X.prog X.w) A.in1 (call ⇑q [v]) (gT X ae σ λx I=>x=.int (c5 i)/\I=H) (λ_ _=>False) s)
  (aX:∀i v aj,i<n->P i v->(∀j,j<n->c5 j<=c5 i/\(j<i->c5 j<c5 i))->L2.Inv X ae σ H aj->Q v aj) :
  wpAny (model X.prog X.w) A (call (.builtin "max") [⇑l] [(p'p (ab "key") (⇑q))]) Q E s:=by
 have pk:(toString "max"++toString ".loop":String)="max.loop":=by decide
 let(Z',_,_,kS):=aN _ s bH;let(ol,Mh,_):=id kS;have qo:l<↥s:=eD Mh;refine kmk_tree PySem.F.kind_max PySem.F.plain_max PySem.F.entry_max (kmk_max_key _ _) ?_;show wpAny _ A.in1 (JO "max" ["key","default"] 0 ([],[(p'p (ab "key") (⇑q))]) >>= _) _ _ s;refine wpAny_bind (wpAny_of_eq (show JO "max" ["key","default"] 0 ([],[(p'p (ab "key") (⇑q))])=pure [some (fE q),none]from rfl) ?_);refine wpAny_bind (wpAny_pure ?_);refine wpAny_bind (wpAny_pyIter_list kS ?_);refine wpAny_bind (wpAny_newList ?_ (eO _));rw[pk];have dY:(s.heap.push {cls:=.type "list_iterator",data:=.fields #[⇑l,.int 0 0]}).objs.size=↥s+1:=size_push' ..;have px:l≠↥s:=gN qo;have mh:(s.heap.push {cls:=.type "list_iterator",data:=.fields #[⇑l,.int 0 0]}).objs.size≠↥s:=by rw[dY];exact EL (wW _)
 refine wpAny_pure (plainId_quiet xa _,?_);have j9:nf X ae H ↥s:=.of bH (bR _);have ko:nf X ae H (s.heap.push {cls:=.type "list_iterator",data:=.fields #[⇑l,.int 0 0]}).objs.size:=.of bH (by rw[dY];exact y1 _);have Jx:((s.heap.push {cls:=.type "list_iterator",data:=.fields #[⇑l,.int 0 0]}).push (seqObj "list" #[] 0)).get? ↥s=some {cls:=.type "list_iterator",data:=.fields #[⇑l,.int 0 0]}:=
  fk _ (hC _ rfl)
 have yU:((s.heap.push {cls:=.type "list_iterator",data:=.fields #[⇑l,.int 0 0]}).push (seqObj "list" #[] 0)).get? (s.heap.push {cls:=.type "list_iterator",data:=.fields #[⇑l,.int 0 0]}).objs.size\(seqObj "list" #[] 0):=hC _ rfl;have yG:L2.Inv X ae σ H {s with heap:=(s.heap.push {cls:=.type "list_iterator",data:=.fields #[⇑l,.int 0 0]}).push (seqObj "list" #[] 0)}:=bH.kept (t':=s.toks) λb o e=>fk _ (fk _ e)
 let(vs,r_,r6,pW):=aN _ _ yG;have W:=v3 (prog:=X.prog) (w:=X.w) (A:=A.in1) ct ↥s l px vs.toArray;have hsz:vs.toArray.size=↑vs:=e2 ..;refine codeAny_builtin Zq ?_;rw[zP xa _];show wpAny _ A.in1 (seqItems? ⇑_ >>= _) _ _ _;refine wpAny_bind (wpAny_seqItems yU rfl ?_);show wpAny _ A.in1 (tryCatch (pyNext (.ref ↥s)) _ >>= _) _ _ _;refine wpAny_bind (wpAny_tryCatch (W.item 0 _ _ _ (by rw[hsz,r_];exact cA) ((_,Jx,rfl,rfl),pW) λv h' p7 c1 uX fa=>?_));have aK:P 0 v:=r6 _ _ (by simpa using c1);let(su,uZ,oz,n3):=id uX.1;have mY:=j9.turn (h':=h') (t':=p7) yG λb o n e=>fa b o (by simpa using n) e
 have qt:=fa _ _ (by simpa using mh) yU;have sv:=CV mY ko j9 qt uZ (λ_ z=>by cases z) (λ_ z=>by rw[n3]at z;cases z);show wpAny _ A.in1 (tryCatch (holding [v] (call ⇑q [v])) _ >>= _) _ _ _;refine wpAny_bind (wpAny_tryCatch (wpAny_holding (wpAny_mono (turn 0 v cA aK _ _ sv) (λx s2 he=>?_) λ_ _ rO=>rO.elim)));let(eR,I,pX,bk,rfl,rfl):=he;let(ew,rfl):=bk;let(pT,nM,sl):=BM pX;let(bY,r1):∃bY,(s2.heap.update (s.heap.push {cls:=.type "list_iterator",data:=.fields #[⇑l,.int 0 0]}).objs.size (oT λ_=>#[v,.int (c5 0) ew])).get? (s.heap.push {cls:=.type "list_iterator",data:=.fields #[⇑l,.int 0 0]}).objs.size=some (seqObj "list" #[v,.int (c5 0) ew] bY):=(_,get?_update_seq nM λ_=>#[v,.int (c5 0) ew]);show wpAny _ A.in1 (updateSeq (s.heap.push {cls:=.type "list_iterator",data:=.fields #[⇑l,.int 0 0]}).objs.size (λ_=>#[v,.int (c5 0) ew]) >>= _) _ _ _;refine wpAny_bind ?_;refine wpAny_updateSeq nM rfl ?_;rw[pk];have qS:=ko.turn (t':=s2.toks) pT (h':=s2.heap.update (s.heap.push {cls:=.type "list_iterator",data:=.fields #[⇑l,.int 0 0]}).objs.size (oT λ_=>#[v,.int (c5 0) ew])) λb o n e=>(qr _ _ (dm n)).trans e
 refine wpAny_pure (plainId_quiet xa _,akZ c5 ct (λs bH=>aN _ s bH) px mh ko j9 turn aX _ 0 0 _ v ew bY rfl cA qS r1 (su,(qr _ _ mh).trans sl,oz,n3) aK (bR _) λeZ il=>?_);have e:eZ=0:=()
 subst e;exact((),λh=>absurd h (qq _))
end
def Tu(K:bq)(bL:Addr)(m4:Pos)(q:Str)(i1 i2:Nat)(t:TE)(ba:fO):TE:=λσ H Q=>ba σ H λvs H1=>∃l xs v1 v2,∃g:Nat->Int,vs=[⇑l]/\ay K H1 l xs/\xs≠[] /\
 σ[i1]?\(some v1)/\σ[i2]?\(some v2)/\Tab H1 bL m4 q/\∀ar,lH bL H1 ar->(aF H1->aF ar)->Tab ar bL m4 q ->
  (∀(i:Nat) x,xs[i]?\x->t [some x,some v1,some v2] ar λr I=>r=.int (g i)/\I=ar)/\∀(i:Nat) m,xs[i]?\m->(∀(j:Nat) n,xs[j]?\n->g j<=g i)->Q m ar
theorem asi{k:Nat}{t:TE}{p bp pos m4:Pos}{c bL bc bY:Addr}
  (aC:X.calm=true) (a7:l6 X "max") (hm:X.mg "max"=none) (aV:g6 X [a] ba) (T:IU X c bL) (ao:bn (k+1) X.A) (S:xI pr y z scope) (af:X.env.cells.lookup y\bc) (ak:X.env.cells.lookup z\bY) (Ao:defaultsOf params X.env=(p'p [] [])) (n6:closureFor scope X.env=pure [(p'p y bc),(p'p z bY)])
  (cn:X.env.scope.names.lookup y\.cell) (dz:X.env.scope.names.lookup z\.cell) (J3:X.N[i1]?\y) (JZ:X.N[i2]?\z)
  (aa:∀c' pm jM u,bindArgs (VZ "<lambda>" (X.env.qual++"<lambda>") params body scope [(p'p y bc),(p'p z bY)] pm ⇑c' jM) ([u],[])=pure [(p'p pr u)])
  (pb:∀f c' s H,∃t',bw (qA X X.A.in1 [pr,y,z] (X.env.qual++"<lambda>") scope f c' [(p'p y bc),(p'p z bY)] s H) body t'/\t'=t)
  (he:autoParam (∀pos,backTo pos (starEach [a] X.env)=(p'p false (eval a X.env))::backTo pos (starEach [] X.env)) A'i) (cV:autoParam (∀pos,(backTo pos (starEach [a] X.env)).any (·.1)=false) A'i) :
  bw X (.Call (.Name "max" p) [a] [(some "key",.Lambda params body scope m4,bp)] pos) (Tu X.K bL m4 (X.env.qual++"<lambda>") i1 i2 t ba):=by
 intro ae s σ H Q J h;refine wpAny_Call_Name_kw (sM J a7 hm ((∅:bootBuiltins "max"\(.builtin "max"))) ?_);refine callWith_kw (id:="max") (bK (aV pos ae s σ H _ J h) λus s1 ⟨vs,H1,aZ,b3,bU⟩=>?_) (he:=he pos) (hplain:=cV pos);let(l,xs,v1,v2,g,rfl,aL,cA,au,aE,bS,q):=bU;refine kws_cons (Rn aZ T bS n6 Ao λf c' ar s2 b0 bb bz nQ rY g7 iw=>kws_nil ?_);let(lK,N9):=q ar bb bz nQ;have xM:=aL.p bb bS;have cell:∀{ae:List (Addr×Obj)} {s:Shared} (bH:L2.Inv X ae σ ar s) {i:Nat} {x:Str} {v:V} {cl:Addr},X.N[i]?\x->σ[i]?\(some v)->X.env.scope.names.lookup x\.cell->X.env.cells.lookup x\cl->∃u,bX v u/\s.heap.IsCell cl (some u):=by
  intro ae s bH i x v cl bo ev ag rG;let(m,a5,O_):=bH.loc;let(u,e1,lo):=O_ i x v bo ev (.inr (.inl ag));have aB:X.env.kindOf x\.cell:=ag;rcases lo with⟨w,_⟩|⟨_,ae0,dP,ej⟩
  .rw [aB]at w;cases w
  .rw [rG]at dP;cases dP;exact(u,e1,ej)
 have Io:bc≠bY:=λw=>S.ne (J.ok.inj _ _ _ af (by rw[w];exact ak))
 cases b3 with
 | cons r k_=>
  cases k_;cases r;have u7:0<↑xs:=w0.mpr cA;refine anA (n:=↑xs) (P:=λi v=>∃x,xs[i]?\x/\bX x v) g (aZ.ok.hd aC) b0 (λae s bH=>?_) u7 (λi v ai aK ae s bH=>?_) λi v aj ai aK nG bH=>?_
  .obtain⟨a3,cM,pl,aO⟩:=bH.list xM;have aN:=↑cM;refine⟨a3,aN.symm,fun i v aK=>?_,pl.isList⟩;have ai:i<↑xs:=by have:=(b5.mp aK).1;omega
   have ag:xs[i]?\xs[i]:=bj ai;let(w,hw,f6):=cM.get ag;rw[aK]at hw;cases hw;exact(_,ag,f6)
  .let(x,ag,bk):=aK;let(t',t7,rfl):=pb f c' s ar;exact TX (a:=x) S ao.in1 aZ.ok.frames bH Io (bH.kG _ _ af) (bH.kG _ _ ak) (cell bH J3 au cn af) (cell bH JZ aE dz ak) rY g7 (λpm jM=>aa c' pm jM v) bk t7 (lK i x ag)
  .let(x,ag,bk):=aK;exact(x,ar,bH,bk,N9 i x ag λj n aI=>(nG j (b5.mp aI).1).1)
end
seal L2.g6 L2.bw L2.gO L2.iS L2.iz L2.gs
structure fZ where
 m:Nat
 h:Nat
 Fi:Nat->Bool
noncomputable def fZ.own(S:fZ)(x:Nat):Bool:=S.Fi x==S.Fi S.h
noncomputable def fZ.e5(S:fZ)(x:Nat):Int:=((x:Int)-(S.h:Int)-1)%(S.m:Int)
structure fZ.Ok(S:fZ):Prop where
 hm:S.h<S.m
 tZ:S.m<=6
def jw(S:fZ):Nat->Int->List Nat->Prop
 |p,_,[]=>p=S.h
 |p,sp,x::r=>p≠S.h/\x<S.m/\((S.own x=true/\sp<S.e5 x/\jw S x (S.e5 x) r)\/(S.own p=true/\S.own x=false/\jw S x sp r))
noncomputable def ut(S:fZ)(s:Nat):Nat:=(S.h+1+s)%S.m
noncomputable def fj(S:fZ):List Nat:=((fp S.m).map (ut S)).filter S.own
noncomputable def ma(S:fZ):List Nat:=(fp S.m).filter λx=>!S.own x
section
variable{S:fZ}
def IL:S.own S.h=true:=by unfold fZ.own;simp
def WD(k:S.Ok)(s:Nat):ut S s<S.m:=Nat.mod_lt _ (by have:=k.hm;omega)
def VS(k:S.Ok)(az:s<S.m):S.e5 (ut S s)=(s:Int):=by
 have af:=k.hm;unfold fZ.e5 ut;by_cases c:S.h+1+s<S.m
 .rw [Et c,show(((S.h+1+s:Nat):Int)-(S.h:Int)-1)=(s:Int)by omega,oB () ()]
 .rw [Nat.mod_eq_sub_mod (),Et ()];rw[show(((S.h+1+s-S.m:Nat):Int)-(S.h:Int)-1)=(s:Int)+(S.m:Int)*(-1)by omega,DV,oB () ()]
def Oe(k:S.Ok){x:Nat}(ag:x<S.m):∃s,s<S.m/\ut S s=x/\S.e5 x=(s:Int):=by
 have af:=k.hm;have dy:=xc ((x:Int)-(S.h:Int)-1) (show(S.m:Int)≠0 by omega);have du:=yo ((x:Int)-(S.h:Int)-1) (show(0:Int)<S.m by omega);by_cases c:S.h<x
 .refine⟨x-S.h-1,(),?_,?_⟩
  .unfold ut;rw[show S.h+1+(x-S.h-1)=x by omega,Et ag]
  .unfold fZ.e5;rw[oB () ()];omega
 .refine⟨x+S.m-S.h-1,(),?_,?_⟩
  .unfold ut;rw[show S.h+1+(x+S.m-S.h-1)=x+S.m by omega,agJ,Et ag]
  .unfold fZ.e5;rw[show(x:Int)-(S.h:Int)-1=((x+S.m-S.h-1:Nat):Int)+(S.m:Int)*(-1)by omega,DV,oB () ()]
def qK(k:S.Ok)(x:Nat):0<=S.e5 x/\S.e5 x<S.m:=(xc _ (by have:=k.hm;omega),yo _ (by have:=k.hm;omega))
def Jm(k:S.Ok):S.e5 S.h=(S.m:Int)-1:=by
 have af:=k.hm;unfold fZ.e5;rw[show(S.h:Int)-(S.h:Int)-1=((S.m:Int)-1)+(S.m:Int)*(-1)by omega,DV,oB () ()]
def anc(k:S.Ok){x y:Nat}(ag:x<S.m)(aQ:y<S.m)(e:S.e5 x=S.e5 y):x=y:=by
 let(s,_,au,aE):=Oe k ag;let(aj,_,bI,ec):=Oe k aQ;rw[aE,ec]at e;rw[<- au,<- bI,show s=aj by omega]
def rH(k:S.Ok){x:Nat}:x∈fj S↔x<S.m/\S.own x=true:=by
 unfold fj;rw[i0,cf];constructor
 .intro ((s,az,rfl),h);exact(WD k s,h)
 .intro (af,ak);let(s,az,e,_):=Oe k af;exact((s,pY.mpr az,e),ak)
def Ng{x:Nat}:x∈ma S↔x<S.m/\S.own x=false:=by
 unfold ma;rw[i0,pY];simp
def akJ(k:S.Ok):(fj S).Pairwise λx y=>S.e5 x<S.e5 y:=by
 unfold fj;refine as3 _ ?_;rw[aeM];refine aga (R:=λa b=>a<b) (λ{a b} aV aa h=>?_) List.pairwise_lt_range;rw[VS k (pY.mp aV),VS k (pY.mp aa)];omega
def agY(k:S.Ok){i j x y:Nat}(ai:(fj S)[i]?\x)(aI:(fj S)[j]?\y):i<j↔S.e5 x<S.e5 y:=by
 have aq:=ab'.mp (akJ k);let(li,rv):=b5.mp ai;let(yi,ud):=b5.mp aI;constructor
 .intro h;have:=aq i j li yi h;rw[rv,ud]at this;exact this
 .intro h;rcases af2 i j with c|c|c
  .exact c
  .subst c;rw[ai]at aI;cases aI;omega
  .have:=aq j i yi li c;rw[rv,ud]at this;omega
def Ll(S:fZ):↑(fj S)<=S.m:=by
 unfold fj;exact cZ (uH _ _) (by simp)
def Uu(S:fZ):↑(ma S)<=S.m:=by
 unfold ma;exact cZ (uH _ _) (by simp)
def Qr(k:S.Ok):∃r,fj S=r++[S.h]:=by
 have af:=k.hm;have e:fp S.m=fp (S.m-1)++[S.m-1]:=by
  rw[show S.m=(S.m-1)+1 by omega,wB];simp
 unfold fj;rw[e,ee,List.filter_append];refine(_,congrArg _ ?_);have:ut S (S.m-1)=S.h:=by
  unfold ut;rw[show S.h+1+(S.m-1)=S.h+S.m by omega,agJ,Et af]
 simp[this,IL]
end
def xt(S:fZ)(place sp:Int):Prop:=(place = -1/\sp = -1)\/∃(i:Nat) (y:Nat),place=(i:Int)/\(fj S)[i]?\y/\sp=S.e5 y
def Iu{S:fZ}(k:S.Ok){place sp:Int}(h:xt S place sp){j y:Nat}(aI:(fj S)[j]?\y):place<(j:Int)↔sp<S.e5 y:=by
 rcases h with⟨rfl,rfl⟩|⟨i,x,rfl,ai,rfl⟩
 .have:=(qK k y).1;constructor <;> intro <;> omega
 .rw [<- agY k ai aI];omega
def VY(h:xt S place sp):-1<=place:=by
 rcases h with⟨rfl,_⟩|⟨i,_,rfl,_⟩ <;> omega
noncomputable def iJ(o:Nat):Nat->Nat
 |0=>0
 |j+1=>if j=0 then 1 else(2+o)*iJ o j
noncomputable def sS(o j:Nat):Nat:=if j=0 then 1 else(1+o)*iJ o j
theorem agz(o j:Nat):iJ o (j+1)=iJ o j+sS o j:=by
 unfold sS;cases j with
 |zero=>rfl
 |succ j=>
  rw[if_neg ()];show(if j+1=0 then 1 else(2+o)*iJ o (j+1))=_;rw[if_neg (),aj5,aj5];omega
def Q3:∀o,o<=6->∀j,j<=6->sS o j<=300000/\iJ o j<=300000:=∅
noncomputable def n4(S:fZ)(p:Nat)(sp:Int):Nat:=2*((S.m:Int)-sp).toNat+(if S.own p=true then 1 else 0)
def xq(h:xs[↑xs-1]?\v):gU xs (-1)\v:=by
 have aN:0<↑xs:=by have:=(b5.mp h).1;omega
 unfold gU p1;rw[if_neg ∅,if_pos ()];rw[show((-1+(↑xs:Int)).toNat)=↑xs-1 by omega];exact h
def h1(nd:List Nat):↑(bN nd)=↑nd:=by unfold bN;rw[aT]
def ii{i x:Nat}(h:nd[i]?\x):(bN nd)[i]?\(.int (x:Nat)):=by unfold bN;rw[dv,h];rfl
def Ch(nd:List Nat):(bN nd).all mQ=true:=by unfold bN;simp[mQ]
def vI(x:Nat)(nd:List Nat):tG (.int (x:Nat)) (bN nd)=decide (x∈nd):=by
 unfold tG bN;rw[Yc,m8];simp only[rg,ado,decide_eq_true_eq];constructor
 .rintro⟨y,aQ,e⟩;have:(y:Int)=(x:Int):=by simpa[e'a,e'b,e'c]using e
  rw[show x=y by omega];exact aQ
 .intro h;exact(x,h,by simp[e'a,e'b,e'c])
theorem Rm(x:Nat):∀xs:List Nat,((xs.map λj=>((j:Nat):Int)).idxOf (x:Int))=xs.idxOf x
 |[]=>rfl
 |y::ys=>by
  rw[es,aeS,aeS,Rm x ys];by_cases h:y=x
  .subst h;simp
  .rw [show((y:Int)==(x:Int))=false by rw[beq_eq_false_iff_ne];omega,show(y==x)=false by simpa using h]
noncomputable def en(ds:List bf)(rows:List ST)(h:Nat):fZ:=(↑rows,h,λi=>decide (cE ds rows i=dw))
structure jm(ds:List bf)(rows:List ST):Prop where
 cH:∀r∈rows,dj ds r=dw\/dj ds r=iT
 je:↑rows<=6
 lo:∀r∈rows,1<=r.lo/\r.lo<=r.ai/\r.ai<=1000
 cW:∀r∈rows,r.mem≠[]
def jm.ok{rows:List ST}(R:jm ds rows){h:Nat}(ct:h<↑rows):(en ds rows h).Ok:=(ct,R.je)
def jm.two{rows:List ST}(R:jm ds rows)(aI:j<↑rows):cE ds rows j=dw\/cE ds rows j=iT:=by
 unfold cE;rw[bj aI];exact R.cH _ (ic aI)
def CA{rows:List ST}(R:jm ds rows){h j:Nat}(ct:h<↑rows)(aI:j<↑rows):(en ds rows h).own j=decide (cE ds rows j=cE ds rows h):=by
 have ne:¬iT=dw:=∅
 have ne':¬dw=iT:=∅
 unfold fZ.own en;rcases R.two aI with e|e <;> rcases R.two ct with bF|bF <;> simp[e,bF,ne,ne']
section
variable(P:Program)(w:World)
def afH(t:bQ):bV:=λvs H Q _=>∃aG c n ds rows,∃h:Nat,vs=[⇑aG,.int h]/\fC P w t H aG c n ds rows/\jm ds rows/\h<↑rows/\aF H/\∀p I,aM H I->aF I->I p\(.lst (bN (fj (en ds rows h))))->Q ⇑p I
def aiJ(t:bQ):bV:=λvs H Q _=>∃aG c n ds rows,∃h:Nat,vs=[⇑aG,.int h]/\fC P w t H aG c n ds rows/\jm ds rows/\h<↑rows/\aF H/\∀p I,aM H I->aF I->I p\(.lst (bN (ma (en ds rows h))))->Q ⇑p I
end
noncomputable def jN(S:fZ)(f s:Nat):Int:=if S.own s=true then S.e5 s else if S.own f=true/\f≠S.h then S.e5 f else -1
def aqq:bV:=λvs H Q _=>∃l,∃S:fZ,∃f s:Nat,vs=[⇑l,.int f,.int s]/\H l\(.lst (bN (fj S)))/\S.Ok/\f<S.m/\s<S.m/\∀place,xt S place (jN S f s)->Q (.int place) H
def al4:cu P base T 1 t.OZ t.MH k9 (afH P w t):=by
 exists T.Il.ok XC,9
 let(aG,c,n,ds,rows,h,rfl,c8,R,ct,bz,q):=h;let(iL,le,mo,cW,cH,aU,ch,ms,kvs,au,C,bI,ec,gm,ez,g5,j1,jn):=id c8;have je:=R.je;refine(_,(aP (xR (i:=2) XC.aH rfl (lY rfl) rfl (kN rfl T.j5 (ah (br (U 0) rfl) aA)) (gu (sc:=bx (top 66)) rfl ∅) (N:=["step","home","stages"]) (sel:=[none,some 1,some 0]) (gx (M:=JD) ∅) (fm.of (λ_ _ _ _=>(b_ (i:=0) (ek (N:=["step","home","stages"]) ∅ rfl))) (λ_ _ _ _=>(_,iA,by walk_at "B")) (λ_ _ _ _=>(_,(bM ky (bM eg (bM eg (U 1) aR) (U 0)) (br (U 2) rfl)),by walk_at "B"))) rfl)
   (aY (cp (hL rfl (eV (U 2)) (gu (sc:=bx (top 66)) rfl ∅) (N:=EY) (sel:=[none,some 0,some 1]) (gx (M:=JD) ∅) (fm.of (λ_ _ _ _=>(b_ (i:=0) (ek (N:=EY) ∅ rfl))) (λ_ _ _ _=>(_,(s6 (de fg (cj dp (br (U 1) rfl) (U 0)) (cj dp (br (U 1) rfl) (U 2)) (cO _))),by walk_at "B")) (λ_ _ _ _=>(_,(U 0),by walk_at "B"))))))),?_)
 exists (λav I=>aM H I/\aF I/\∃np,I np\(.lst (bN ((fp ↑rows).map (ut (en ds rows h)))))/\av=[~~~aG,some (.int h),~~~np]),3
 .nofun;refine(_,rm T au,_,rfl,(),(),?_);rw[mG];refine dh.QE (λs=>.int (ut (en ds rows h) s:Nat)) (cZ je ∅) (λi N ai bo=>?_) (λp aq=>?_)
  .nofun;refine(Sub.name,_,rm T au,_,rfl,(),?_);rw[show((h:Int)+1+(i:Int))%(↑rows:Int)=((ut (en ds rows h) i:Nat):Int)by
    unfold ut en;rw[Int.natCast_emod];congr 1]
   exact bo
  .refine b1 _ _ (a_ aq,bz.upd,p,?_,rfl);rw[db];unfold bN;rw[q3];rfl
 intro fo H1 (s1,cK,np,rx,rfl);subst aS;simp only[dx];have z5:=s1 _ _ au;nofun;refine((_,ay.of rx),?_);refine dh.u6 (ss:=((fp ↑rows).map (ut (en ds rows h))).map λj=>if(en ds rows h).own j=true then some (V.int (j:Nat))else none) (ay.of rx) (by rw[h1,aT,tv];exact cZ je ∅) (by rw[h1,aT]) (λi v o ys N aK aU bo=>?_) (λp aq=>?_)
 .unfold bN at aK;let(j,aI,rfl):=b' aK;let(eZ,il,rfl):=b' aU;rw[aI]at il;cases il;have hi:j<↑rows:=by
   let(s0,_,rfl):=b' aI;exact WD (R.ok ct) _
  rw[CA R ct hi]at bo;nofun;refine(Sub.name,_,p8 T z5,_,rfl,_,ay.of (s1 _ _ ez),_,cI (oL (sX hi)),_,p8 T z5,_,rfl,_,ay.of (s1 _ _ ez),_,cI (oL (sX ct)),rfl,?_);by_cases bT:cE ds rows j=cE ds rows h
  .rw [if_pos (by rw[bT,decide_eq_true rfl])];rw[if_pos (decide_eq_true bT)]at bo;exact bo
  .rw [if_neg (by rw[decide_eq_false (λz=>bT (by injection z))];exact fT)];rw[if_neg (by simpa using bT)]at bo;simpa using bo
 .rw [FQ];exact q p _ (s1.trans (a_ aq)) cK.upd db
def aeb:cu P base T 1 t.ON t.JJ k9 (aiJ P w t):=by
 exists T.HC.ok ab8,9
 let(aG,c,n,ds,rows,h,rfl,c8,R,ct,bz,q):=h;let(iL,le,mo,cW,cH,aU,ch,ms,kvs,au,C,bI,ec,gm,ez,g5,j1,jn):=id c8;have je:=R.je;refine(_,(aY (cp (hL rfl (kN rfl T.j5 (ah (br (U 0) rfl) aA)) (gu (sc:=bx (top 67)) rfl ∅) (N:=EY) (sel:=[none,some 0,some 1]) (gx (M:=k9) ∅) (fm.of (λ_ _ _ _=>(b_ (i:=0) (ek (N:=EY) ∅ rfl))) (λ_ _ _ _=>(_,(s6 (de rt (cj dp (br (U 1) rfl) (U 0)) (cj dp (br (U 1) rfl) (U 2)) (cO _))),by walk_at "B")) (λ_ _ _ _=>(_,(U 0),by walk_at "B")))))),?_);nofun;refine(_,rm T au,_,rfl,(),(),?_);rw[mG];refine dh.akj (ss:=(fp ↑rows).map λj=>if(!(en ds rows h).own j)=true then some (V.int (j:Nat))else none) (cZ je ∅) (by rw[aT,tv]) (λj o ys N hi aU bo=>?_) (λp aq=>?_)
 .obtain⟨eZ,il,rfl⟩:=b' aU;rw[BD hi]at il;cases il;rw[CA R ct hi]at bo;nofun;refine⟨Sub.name,_,p8 T au,_,rfl,_,ay.of ez,_,cI (oL (sX hi)),_,p8 T au,_,rfl,_,ay.of ez,_,cI (oL (sX ct)),rfl,?_⟩;by_cases bT:cE ds rows j=cE ds rows h
  .rw [if_neg (by rw[bT,decide_eq_true rfl];exact fT)];simp[bT]at bo;exact bo
  .rw [if_pos (by rw[decide_eq_false (λz=>bT (by injection z))];rfl)];simp[bT]at bo;exact bo
 .rw [FQ];exact q p _ (a_ aq) bz.upd db
theorem ai_:cu P base T 1 t.MQ t.Oy Fg aqq:=by
 exists T.HF.ok anT,9
 let(l,S,f,aj,rfl,aN,k,hf,az,q):=h;refine(_,(aP (d7 (de xn (U 2) (U 0) (by with_unfolding_all rfl)) (aY (cp (eS f9 Wk aiZ Xd (U 0) (ah (U 2) aA)))) eA)
   (aP (d7 (gs.pt (rB (de xn (U 1) (U 0) (by with_unfolding_all rfl)) (sd (de rt (U 1) (cj dp (U 0) (si ry aR)) (cO _))))) (aY (cp (eS f9 Wk aiZ Xd (U 0) (ah (U 1) aA)))) eA)
   (aY (cp (si ry aR))))),?_)
 have aui:=Ll S;have nA:=k.tZ;have idx:∀{x:Nat},x∈fj S->(((fj S).map λj=>((j:Nat):Int)).idxOf (x:Int)=(fj S).idxOf x)/\(fj S)[(fj S).idxOf x]?\x:=λ{x} ag=>by
  refine(Rm x (fj S),?_);have aN:=agZ.mpr ag;rw[bj aN,afx]
 have ind:∀{x:Nat} {Q':c6},x∈fj S->Q' (.int ((fj S).idxOf x:Nat)) H->∃bE:List Int,ay K H l (oh V.int bE)/\(x:Int)∈bE/\↑bE<=1000/\Q' (.int (bE.idxOf (x:Int):Nat)) H:=λ{x Q'} ag aL=>by
  refine((fj S).map λj=>((j:Nat):Int),by rw[<- NE];exact ay.of aN,cf.mpr (x,ag,rfl),by rw[aT];omega,?_);rw[(idx ag).1];exact aL
 let(r,uN):=Qr k;have i3:gU (bN (fj S)) (-1)\(.int (S.h:Nat)):=xq (by
  rw[h1];refine ii ?_;rw[uN,cU,mq,Uk,j7 (bR _),vV];rfl)
 simp only[dx];by_cases bc:aj∈fj S
 .refine dC true (λQ aX=>?_) (λ_=>?_) (λz=>nomatch z)
  .nofun;refine(_,.inl (ay.of aN),rfl,Ch _,?_);rw[vI,decide_eq_true bc];exact aX
  .nofun;refine(.inl (_,ay.of aN),ind (Q':=Q) bc (q _ (.inr (_,aj,rfl,(idx bc).2,?_))));unfold jN;rw[if_pos ((rH k).mp bc).2]
 have gR:S.own aj=false:=by
  cases h:S.own aj with
  |true=>exact absurd ((rH k).mpr (az,h)) bc
  |false=>rfl
 refine dC false (λQ aX=>?_) (λz=>nomatch z) (λ_=>?_)
 .nofun;refine(_,.inl (ay.of aN),rfl,Ch _,?_);rw[vI,decide_eq_false bc];exact aX
 simp only[hI,dx];by_cases bY:f∈fj S
 .by_cases oV:f=S.h
  .refine dC false (λQ aX=>?_) (λz=>nomatch z) (λ_=>?_)
   .nofun;refine(_,.inl (ay.of aN),rfl,Ch _,?_);rw[vI,decide_eq_true bY,if_pos rfl];refine(_,ay.of aN,_,i3,rfl,?_);rw[oV,decide_eq_true rfl];exact aX
   .nofun;refine q (-1) (.inl (rfl,?_));unfold jN;rw[if_neg (by rw[gR];decide),if_neg (λz=>z.2 oV)]
  .refine dC true (λQ aX=>?_) (λ_=>?_) (λz=>nomatch z)
   .nofun;refine(_,.inl (ay.of aN),rfl,Ch _,?_);rw[vI,decide_eq_true bY,if_pos rfl];refine(_,ay.of aN,_,i3,rfl,?_);rw[decide_eq_false (λz=>oV (by injection z with z;omega))];exact aX
   .nofun;refine(.inl (_,ay.of aN),ind (Q':=Q) bY (q _ (.inr (_,f,rfl,(idx bY).2,?_))));unfold jN;rw[if_neg (by rw[gR];decide),if_pos (((rH k).mp bY).2,oV)]
 .refine dC false (λQ aX=>?_) (λz=>nomatch z) (λ_=>?_)
  .nofun;refine(_,.inl (ay.of aN),rfl,Ch _,?_);rw[vI,decide_eq_false bY,if_neg ∅];exact aX
  .nofun;refine q (-1) (.inl (rfl,?_));unfold jN;rw[if_neg (by rw[gR];decide),if_neg (λz=>bY ((rH k).mpr (hf,z.1)))]
structure jx(H:aw)(p:Addr)(qs:List Addr)(cy:List (List Nat)):Prop where
 at_:H p\(.lst (qs.map V.ref))
 ln:↑qs=↑cy
 al:∀(i:Nat) (q:Addr) (xs:List Nat),qs[i]?\q->cy[i]?\xs->H q\(.lst (bN xs))
def jx.same{p:Addr}(h:jx H p qs cy)(s:aM H I):jx I p qs cy:=(s _ _ h.at_,h.ln,λi q xs af ak=>s _ _ (h.al i q xs af ak))
def jx.ext{p b:Addr}(h:jx H p qs cy)(g:jx H b o8 gA)(cK:p∉qs)(cC:p∉o8):jx (upd H p (.lst (qs.map V.ref++o8.map V.ref))) p (qs++o8) (cy++gA):=by
 refine(by rw[db,ee],by rw[cU,cU,h.ln,g.ln],λi q xs af ak=>?_);by_cases c:i<↑qs
 .rw [lg c]at af;rw[lg (by rw[<- h.ln];exact c)]at ak;rw[aD (λz=>cK (by rw[<- z];exact cm af))];exact h.al i q xs af ak
 .rw [j7 ()]at af;rw[j7 (by rw[<- h.ln];omega),<- h.ln]at ak;rw[aD (λz=>cC (by rw[<- z];exact cm af))];exact g.al _ q xs af ak
def Lj(S:fZ)(ch:List Nat)(p:Nat)(sp:Int)(cy:List (List Nat)):Prop:=∀ys,ys∈cy↔∃ext,ys=ch++ext/\jw S p sp ext
noncomputable def nr(S:fZ)(p:Nat)(place:Int):Nat:=if p=S.h then 1 else if S.own p=true then sS ↑(ma S) (↑(fj S)-(place+1).toNat)else iJ ↑(ma S) (↑(fj S)-(place+1).toNat)
structure adw(S:fZ)(d:Nat)(vs:List V)(H:aw)(ch:List Nat)(p:Nat)(sp place:Int):Prop where
 akd:∃cl ol dk,vs=[⇑cl,⇑ol,⇑dk,.int place]/\H cl\(.lst (bN ch))/\H ol\(.lst (bN (fj S)))/\H dk\(.lst (bN (ma S)))
 k:S.Ok
 bt:∃r,ch=r++[p]
 cl:↑ch+d<=40
 pm:p<S.m
 pl:xt S place sp
 cW:n4 S p sp<=d
 bz:aF H
 op:S.own p=true->sp=S.e5 p
def BH(d:Nat):bV:=λvs H Q _=>∃S ch p sp place,adw S d vs H ch p sp place/\∀r qs cy I,aM H I->aF I->jx I r qs cy->H r=none->r∉qs->Lj S ch p sp cy->↑cy<=nr S p place->Q ⇑r I
def aao:Nat->bV
 |0=>λ_ _ _ _=>False
 |d+1=>BH d
def aas(k:S.Ok){p x:Nat}(h:sp<S.e5 x):n4 S x (S.e5 x)<n4 S p sp:=by
 have:=(qK k x).2;unfold n4;split <;> split <;> omega
def Z_{p x:Nat}(h:S.own p=true)(g:S.own x=false):n4 S x sp<n4 S p sp:=by
 unfold n4;rw[if_pos h,if_neg (by rw[g];decide)];omega
theorem WW(o:Nat):∀j,1<=j->1<=iJ o j
 |0,h=>absurd h ∅
 |j+1,_=>by
  show 1<=(if j=0 then 1 else(2+o)*iJ o j);split
  .exact bR _
  .rename_i h;exact aoV (show 0<2+o by omega) (WW o j ())
def af4(o j:Nat):1<=sS o j:=by
 unfold sS;split
 .exact bR _
 .rename_i h;exact aoV (show 0<1+o by omega) (WW o j ())
theorem Rz{S:fZ}(k:S.Ok){d':Nat}{H1 bP:aw}{cl ol dk bl:Addr}{ch:List Nat}{qs:List Addr}{cy:List (List Nat)}(au:H1 cl\(.lst (bN ch)))(aE:H1 ol\(.lst (bN (fj S))))(bI:H1 dk\(.lst (bN (ma S))))(s5:aM H1 bP)(dK:aF bP)(nB:H1 bl=none)(jr:jx bP bl qs cy)(ly:bl∉qs)(n6:↑ch+(d'+1)<=40){x:Nat}(ag:x<S.m){yT kC:Int}(pl:xt S yT kC)(cW:n4 S x kC<=d')(op:S.own x=true->kC=S.e5 x)(aO:↑cy+nr S x yT<=sizeLine){E:f7}{R:aw->Prop}
  (ho:∀eL og gA,aM H1 eL->aF eL->jx eL bl (qs++og) (cy++gA)->bl∉qs++og->Lj S (ch++[x]) x kC gA->↑gA<=nr S x yT->R eL) :
  ∀du:Addr,bP du=none->∃X,upd bP du (.lst [V.int (x:Nat)]) cl\(.lst X)/\∃Y,upd bP du (.lst [V.int (x:Nat)]) du\(.lst Y)/\↑X+↑Y<=sizeLine/\∀lT:Addr,upd bP du (.lst [V.int (x:Nat)]) lT=none ->
   aao (d'+1) [V.ref lT,V.ref ol,V.ref dk,V.int yT] (upd (upd bP du (.lst [V.int (x:Nat)])) lT (.lst (X++Y))) (λv eX=>∃b,v=V.ref b/\∃Pd,eX bl\(.lst Pd)/\∃W,eX b\(.lst W)/\↑Pd+↑W<=sizeLine/\R (upd eX bl (.lst (Pd++W)))) E:=by
 intro du gF;have eo:aM bP (upd bP du (.lst [V.int (x:Nat)])):=a_ gF;refine(_,eo _ _ (s5 _ _ au),_,db,cZ (show _<=64 by rw[h1];show ↑ch+1<=64;omega) ∅,λlT aqF=>?_);have h5:=eo.trans (a_ (o:=.lst (bN ch++[V.int (x:Nat)])) aqF);have QP:=s5.trans h5;refine(S,ch++[x],x,kC,yT,((lT,ol,dk,rfl,by rw[db];unfold bN;rw[ee];rfl,QP _ _ aE,QP _ _ bI),k,(ch,rfl),by rw[cU];show ↑ch+1+d'<=40;omega,ag,pl,cW,(dK.upd).upd,op),λr og gA eL gS mx ng ao xF sV DD=>?_);have kJ:=jr.same (h5.trans gS);have gr:bl∉og:=λhm=>by
  let(j,aI):=g8 hm;have hi:j<↑gA:=by rw[<- ng.ln];exact(b5.mp aI).1
  have aQ:gA[j]?\gA[j]:=bj hi;have e:=ng.al j bl _ aI aQ;rw[kJ.at_]at e;have bF:qs.map V.ref=bN gA[j]:=eH.lst.inj (er e);let(ext,hY,_):=(sV gA[j]).mp (ic hi);rw[hY]at bF;cases ch with
  |nil=>cases qs with
   |nil=>cases bF
   |cons iH kF=>cases(t2 bF).1
  |cons bT cr=>cases qs with
   |nil=>cases bF
   |cons iH kF=>cases(t2 bF).1
 refine(r,rfl,_,kJ.at_,_,ng.at_,?_,ho _ og gA (λb u e=>?_) mx.upd (kJ.ext ng ly gr) (λhm=>(eQ.mp hm).elim ly gr) sV DD)
 .rw [aT,aT,kJ.ln,ng.ln];omega
 .rw [aD (dF e nB)];exact gS _ _ (h5 _ _ (s5 _ _ e))
theorem Zn (T:Txt w K mg t) (d:Nat) (Em:cT P w K mg base dt (d+2) t.wq t.w1 yn (aao d)):cT P w K mg base dt (d+3) t.wq t.w1 yn (BH d):=by
 refine T.x8.ok w9 (λvs H Q E h=>?_) (λ_ _ _ s H vs Q E ao h=>?_)
 .let(S,ch,p,sp,place,((cl,ol,dk,rfl,_),_),_):=h;rfl
 let(S,ch,p,sp,place,J,q):=h;let(cl,ol,dk,rfl,au,aE,bI):=J.akd;have k:=J.k;have nA:=k.tZ;have alS:=Ll S;have apy:=Uu S;let(cr,anV):=J.bt;have i3:gU (bN ch) (-1)\(.int (p:Nat)):=xq (by
  rw[h1];refine ii ?_;rw[anV,cU,mq,Uk,j7 (bR _),vV];rfl)
 let(kF,uN):=Qr k;have Xw:gU (bN (fj S)) (-1)\(.int (S.h:Nat)):=xq (by
  rw[h1];refine ii ?_;rw[uN,cU,mq,Uk,j7 (bR _),vV];rfl)
 refine(_,(aP (b8 (i:=4) w9.aH (cj dp (U 0) (si ry aR)))
   (aP (d7 (de fg (U 4) (cj dp (U 1) (si ry aR)) (cO _)) (aY (cp (eJ (ah (U 0) aA)))) eA)
   (aP (b8 (i:=5) w9.aH (eJ aA))
   (aP (eY eP rfl (akq rfl T.j5 (ah (bM eg (U 3) aR) (ah (fy iu rfl T.hX hU (ah (U 1) aA)) aA))) (b_ (i:=6) w9.aH) (aY (d3 (eS f9 rq sz qT (U 5) (ah (ck Em ao T.O9 T.x8.bp T.J_ (ah (bM LZ (U 0) (eJ (ah (cj dp (U 1) (U 6)) aA))) (ah (U 1) (ah (U 2) (ah (U 6) aA))))) aA)))))
   (aP (d7 (de xn (U 4) (U 1) (by with_unfolding_all rfl)) (aY (eY eP rfl (eV (U 2)) (b_ (i:=7) w9.aH) (aY (d3 (eS f9 rq sz qT (U 5) (ah (ck Em ao T.O9 T.x8.bp T.J_ (ah (bM LZ (U 0) (eJ (ah (U 7) aA))) (ah (U 1) (ah (U 2) (ah (U 3) aA))))) aA)))))) eA)
   (aY (cp (U 5)))))))),?_)
 exists (λav I=>I=H/\av=[~~~cl,~~~ol,~~~dk,some (.int place),some (.int (p:Nat)),none,none,none]),3
 .nofun;exact(_,ay.of au,_,i3,b1 _ _ (rfl,rfl))
 intro fo H1 (rfl,rfl);subst aS;simp only[dx];by_cases bc:p=S.h
 .refine dC true (λQ aX=>?_) (λ_=>?_) (λz=>nomatch z)
  .nofun;refine(_,ay.of aE,_,Xw,rfl,?_);rw[bc,decide_eq_true rfl];exact aX
  .nofun;refine(∅,λr ao=>q r [cl] [ch] _ (a_ ao) J.bz.upd (db,rfl,λi dB xs af ak=>?_) ao (λz=>by rw[eB.mp z,au]at ao;cases ao) (λys=>?_) ?_)
   .match i,af,ak with
    |0,af,ak=>cases af;cases ak;exact a_ ao _ _ au
    |i+1,af,_=>simp at af
   .rw[eB];constructor
    .rintro rfl;exact([],by simp,bc)
    .rintro⟨ext,rfl,aU⟩;cases ext with
     |nil=>simp
     |cons x r=>exact absurd bc aU.1
   .unfold nr;rw[if_pos bc];exact bR _
 refine dC false (λQ aX=>?_) (λz=>nomatch z) (λ_=>?_)
 .nofun;refine(_,ay.of aE,_,Xw,rfl,?_);rw[decide_eq_false (λz=>bc (by injection z with z;omega))];exact aX
 simp only[hI,dx];let(o,aU):∃o,↑(ma S)=o:=(_,rfl);let(L,eN):∃L,↑(fj S)=L:=(_,rfl);let(b,aa):∃b:Nat,place+1=(b:Int):=((place+1).toNat,by have:=VY J.pl;omega);let(d',rfl):∃d',d=d'+1:=(d-1,by
  have af:=J.cW;have ak:sp<S.m:=by
   rcases J.pl with⟨_,e⟩|⟨i,y,_,_,e⟩
   .rw [e];omega
   .rw [e];exact(qK k y).2
  unfold n4 at af
  omega)
 have auA:b<=L:=by
  rcases J.pl with⟨e,_⟩|⟨i,y,e,ai,_⟩
  .omega
  .have:=(b5.mp ai).1;omega
 have g4:iJ o (L-b)<=300000:=(Q3 o () _ ()).2;exists (λav I=>aM H1 I/\aF I/\∃bl,H1 bl=none/\I bl\(.lst [])/\av=[~~~cl,~~~ol,~~~dk,some (.int place),some (.int (p:Nat)),~~~bl,none,none]),0
 .nofun;exact(∅,λbl nB=>b1 _ _ (a_ nB,J.bz.upd,bl,nB,db,rfl))
 intro cv ar (s2,cC,bl,nB,ec,rfl);subst aS;simp only[dx];exists (λav I=>aM H1 I/\aF I/\∃qs cy cL,jx I bl qs cy/\bl∉qs/\(∀ys,ys∈cy↔∃x r,ys=ch++x::r/\x<S.m/\S.own x=true/\sp<S.e5 x/\jw S x (S.e5 x) r)/\↑cy<=iJ o (L-b)/\av=[~~~cl,~~~ol,~~~dk,some (.int place),some (.int (p:Nat)),~~~bl,cL,none]),0
 .nofun;refine(_,.inl (ay.of (s2 _ _ aE)),(),by rw[aa];omega,by rw[h1];omega,by rw[h1];omega,?_);rw[h1,eN,show((L:Int)-(place+1)).toNat=L-b by omega];refine d1.range (λi σ I=>aM H1 I/\aF I/\∃qs cy cL,jx I bl qs cy/\bl∉qs/\(∀ys,ys∈cy↔∃x r s,(fj S)[s]?\x/\b<=s/\s<b+i/\ys=ch++x::r/\jw S x (S.e5 x) r)/\↑cy+iJ o (L-b-i)<=iJ o (L-b)/\σ=[~~~cl,~~~ol,~~~dk,some (.int place),some (.int (p:Nat)),~~~bl,cL,none]) ?_ ?_ ?_
  .exact (s2,cC,[],[],none,(ec,rfl,λi q xs h=>by simp at h),by simp,λys=>(λh=>by simp at h,λ⟨x,r,s,_,af,ak,_⟩=>()),by simp,rfl)
  .rintro i σ bP ai a9;ac_rfl
   let(s5,dK,qs,cy,cL,jr,ly,mn,lx,rfl):=a9;let(x,ag):∃x,(fj S)[b+i]?\x:=((fj S)[b+i]'(),bj _);let(gZ,mc):=(rH k).mp (cm ag);have sa:sp<S.e5 x:=(Iu k J.pl ag).mp ();subst aS;simp only[fH,hF,hD];rw[show place+1+(i:Int)=((b+i:Nat):Int)by omega];nofun;have Hz:nr S x ((b+i:Nat):Int)<=sS o (L-b-(i+1)):=by
    unfold nr;by_cases P8:x=S.h
    .rw [if_pos P8];exact af4 _ _
    .rw [if_neg P8,if_pos mc,aU,eN,show(((b+i:Nat):Int)+1).toNat=b+i+1 by omega,show L-(b+i+1)=L-b-(i+1)by omega];exact bR _
   have DF:=agz o (L-b-(i+1));rw[show L-b-(i+1)+1=L-b-i by omega]at DF;refine(.inl (_,ay.of jr.at_),_,ay.of (s5 _ _ aE),_,cI (ii ag),∅,Rz k au aE bI s5 dK nB jr ly J.cl gZ (.inr (_,x,rfl,ag,rfl)) (by have:=aas k (p:=p) sa;have:=J.cW;omega) (λ_=>rfl) (cZ (show _<=300000 by omega) ∅) (R:=λI=>aM H1 I/\aF I/\∃qs cy,jx I bl qs cy/\¬bl∈qs/\(∀ys,ys∈cy↔∃x r s,(fj S)[s]?\x/\b<=s/\s<b+(i+1)/\ys=ch++x::r/\jw S x (S.e5 x) r)/\↑cy+iJ o (L-b-(i+1))<=iJ o (L-b)/\∃x,some (V.int ((b+i:Nat):Int))=x) λeL og gA h5 gr kJ HZ tX ym=>(h5,gr,_,_,kJ,HZ,λys=>?_,by rw[cU];omega,_,rfl));rw[eQ,mn,tX];constructor
   .rintro(⟨eR,r,s,af,ak,a8,bZ,dS⟩|⟨ext,bZ,dS⟩)
    .exact (eR,r,s,af,ak,(),bZ,dS)
    .exact (x,ext,b+i,ag,(),(),by rw[bZ,mZ];rfl,dS)
   .rintro⟨eR,r,s,af,ak,a8,bZ,dS⟩;by_cases c:s<b+i
    .exact .inl (eR,r,s,af,ak,c,bZ,dS)
    .have aW:s=b+i:=()
     rw[aW,ag]at af;cases af;exact .inr (r,by rw[bZ,mZ];rfl,dS)
  .rintro σ bP a9;ac_rfl
   let(s5,dK,qs,cy,cL,jr,ly,mn,lx,rfl):=a9;subst aS;refine b1 _ _ (s5,dK,qs,cy,cL,jr,ly,λys=>?_,(),rfl);rw[mn];constructor
   .intro (x,r,s,ag,af,ak,rfl,ka);let(gZ,mc):=(rH k).mp (cm ag);exact(x,r,rfl,gZ,mc,(Iu k J.pl ag).mp (),ka)
   .intro (x,r,rfl,gZ,mc,af,ka);let(s,az):=g8 ((rH k).mpr (gZ,mc));have ak:=(Iu k J.pl az).mpr af;have a8:=(b5.mp az).1;exact(x,r,s,az,(),(),rfl,ka)
 intro fJ a' (s3,dc,qs,cy,cL,qD,Qa,md,jf,rfl);subst aS;simp only[dx];exists (λav I=>aM H1 I/\aF I/\∃qs cy cL di,jx I bl qs cy/\bl∉qs/\Lj S ch p sp cy/\↑cy<=nr S p place/\av=[~~~cl,~~~ol,~~~dk,some (.int place),some (.int (p:Nat)),~~~bl,cL,di]),0
 .have gt:∀(ys:List Nat),(∃ext,ys=ch++ext/\jw S p sp ext)↔(ys∈cy\/∃x r,ys=ch++x::r/\x<S.m/\S.own p=true/\S.own x=false/\jw S x sp r):=λys=>by
   rw[md];constructor
   .rintro⟨ext,rfl,ka⟩;cases ext with
    |nil=>exact absurd ka bc
    |cons x r=>
     obtain⟨_,ag,⟨a1,a2,eu⟩|⟨a1,a2,eu⟩⟩:=ka
     .exact .inl (x,r,rfl,ag,a1,a2,eu)
     .exact .inr (x,r,rfl,ag,a1,a2,eu)
   .rintro(⟨x,r,rfl,ag,a1,a2,eu⟩|⟨x,r,rfl,ag,a1,a2,eu⟩)
    .exact (x::r,rfl,bc,ag,.inl (a1,a2,eu))
    .exact (x::r,rfl,bc,ag,.inr (a1,a2,eu))
  cases pM:S.own p with
  | false=>
   refine dC false (λQ aX=>?_) (λz=>nomatch z) (λ_=>?_)
   .nofun;refine(_,.inl (ay.of (s3 _ _ aE)),rfl,Ch _,?_);rw[vI,decide_eq_false (λz=>by have:=((rH k).mp z).2;rw[pM]at this;cases this)];exact aX
   .simp only[hI];refine b1 _ _ (s3,dc,qs,cy,cL,_,qD,Qa,λys=>?_,?_,rfl)
    .rw[gt];constructor
     .exact .inl
     .rintro(h|⟨x,r,_,_,h,_⟩)
      .exact h
      .rw [pM]at h;cases h
    .unfold nr;rw[if_neg bc,pM,if_neg ∅,aU,eN,show(place+1).toNat=b by omega];exact jf
  | true=>
   refine dC true (λQ aX=>?_) (λ_=>?_) (λz=>nomatch z)
   .nofun;refine(_,.inl (ay.of (s3 _ _ aE)),rfl,Ch _,?_);rw[vI,decide_eq_true ((rH k).mpr (J.pm,pM))];exact aX
   .nofun;refine((_,ay.of (s3 _ _ bI)),?_);refine d1.list (xs:=bN (ma S)) (λi σ I=>aM H1 I/\aF I/\∃qs gA cL di,jx I bl qs gA/\bl∉qs/\(∀ys,ys∈gA↔(ys∈cy\/∃x r s,(ma S)[s]?\x/\s<i/\ys=ch++x::r/\jw S x sp r))/\↑gA<=(1+i)*iJ o (L-b)/\σ=[~~~cl,~~~ol,~~~dk,some (.int place),some (.int (p:Nat)),~~~bl,cL,di]) ?_ ?_ ?_ ?_
    .exact (s3,dc,qs,cy,cL,none,qD,Qa,λys=>(.inl,λh=>h.elim id (λ⟨x,r,s,_,h,_⟩=>())),by rw[ad9,Nat.one_mul];exact jf,rfl)
    .intro i σ bP ai (s5,_);exact ay.of (s5 _ _ bI)
    .rintro i v σ bP aK a9;ac_rfl
     let(s5,dK,pA,gA,m_,nJ,jr,ly,mn,lx,rfl):=a9;subst aS;unfold bN at aK;let(x,ag,rfl):=b' aK;have gI:i<o:=by rw[<- aU];exact(b5.mp ag).1
     let(gZ,mc):=Ng.mp (cm ag);simp only[fH,hF,hD];nofun;have Hz:nr S x place<=iJ o (L-b):=by
      unfold nr;rw[if_neg (λz=>by rw[z,IL]at mc;cases mc),mc,if_neg ∅,aU,eN,show(place+1).toNat=b by omega];exact bR _
     have hmul:(1+(i+1))*iJ o (L-b)=(1+i)*iJ o (L-b)+iJ o (L-b):=y_ (1+i) _;have hle:(1+(i+1))*iJ o (L-b)<=8*300000:=Nat.mul_le_mul () g4;refine(.inl (_,ay.of jr.at_),∅,Rz k au aE bI s5 dK nB jr ly J.cl gZ J.pl (by have:=Z_ (sp:=sp) pM mc;have:=J.cW;omega) (λz=>by rw[mc]at z;cases z) (cZ (show _<=8*300000 by omega) ∅) (R:=λI=>aM H1 I/\aF I/\∃qs gA,jx I bl qs gA/\¬bl∈qs/\(∀ys,ys∈gA↔(ys∈cy\/∃x r s,(ma S)[s]?\x/\s<i+1/\ys=ch++x::r/\jw S x sp r))/\↑gA<=(1+(i+1))*iJ o (L-b)/\∃di,some (V.int (x:Int))=di) λeL og Dl h5 gr kJ HZ tX ym=>(h5,gr,_,_,kJ,HZ,λys=>?_,by rw[cU];omega,_,rfl));rw[eQ,mn,tX];constructor
     .rintro((h|⟨eR,r,s,af,a8,bZ,dS⟩)|⟨ext,bZ,dS⟩)
      .exact .inl h
      .exact .inr (eR,r,s,af,(),bZ,dS)
      .exact .inr (x,ext,i,ag,(),by rw[bZ,mZ];rfl,dS)
     .rintro(h|⟨eR,r,s,af,a8,bZ,dS⟩)
      .exact .inl (.inl h)
      .by_cases c:s<i
       .exact .inl (.inr (eR,r,s,af,c,bZ,dS))
       .have aW:s=i:=()
        rw[aW,ag]at af;cases af;exact .inr (r,by rw[bZ,mZ];rfl,dS)
    .rintro σ bP a9;ac_rfl
     let(s5,dK,pA,gA,m_,nJ,jr,ly,mn,lx,rfl):=a9;subst aS;refine b1 _ _ (s5,dK,pA,gA,m_,nJ,jr,ly,λys=>?_,?_,rfl)
     .rw[mn,gt];constructor
      .rintro(h|⟨x,r,s,az,_,rfl,ka⟩)
       .exact .inl h
       .let(gZ,mc):=Ng.mp (cm az);exact .inr (x,r,rfl,gZ,pM,mc,ka)
      .rintro(h|⟨x,r,rfl,gZ,_,mc,ka⟩)
       .exact .inl h
       .let(s,az):=g8 (Ng.mpr (gZ,mc));exact .inr (x,r,s,az,by rw[h1];exact(b5.mp az).1,rfl,ka)
     .unfold nr sS;rw[if_neg bc,if_pos pM,aU,eN,show(place+1).toNat=b by omega];rw[h1,aU]at lx;split
      .rename_i h0;rw[h0,show iJ o 0=0 from rfl,Nat.mul_zero]at lx;omega
      .exact lx
 intro jT cb (s4,cR,j6,af5,m_,nJ,ij,xT,qX,iF,rfl);subst aS;nofun;exact q bl j6 af5 _ s4 cR ij nB xT qX iF
theorem Hl(T:Txt w K mg t):∀d,cT P w K mg base dt (d+3) t.wq t.w1 yn (BH d)
 |0=>Zn T 0 (T.x8.ok w9 (λvs H Q E h=>h.elim) (λf5 A outer s H vs Q E ao h=>h.elim))
 |d+1=>Zn T (d+1) (Hl T d)
def yF(S:fZ)(cy:List (List Nat)):Prop:=∀ys,ys∈cy↔∃f s ext,ys=f::s::ext/\f<S.m/\s<S.m/\f≠s/\jw S s (jN S f s) ext
section
variable(P:Program)(w:World)
def YI(t:bQ):bV:=λvs H Q _=>∃aG c n ds rows,∃h:Nat,vs=[⇑aG,.int h]/\fC P w t H aG c n ds rows/\jm ds rows/\h<↑rows/\aF H/\∀r qs cy I,aM H I->aF I->jx I r qs cy->yF (en ds rows h) cy->Q ⇑r I
end
def aln(k:S.Ok)(p:Nat)(h:xt S place sp):nr S p place<=300000:=by
 have nA:=k.tZ;have alS:=Ll S;have apy:=Uu S;have:=VY h;let(a,b):=Q3 ↑(ma S) () (↑(fj S)-(place+1).toNat) ();unfold nr;split
 .decide
 .split
  .exact a
  .exact b
def ab2(T:Txt w K mg t){m:Nat}:cT P w K mg base dt (m+3) t.wq t.w1 yn (λvs H Q E=>∃d,d<=m/\BH d vs H Q E):=
 (λvs H Q E ⟨d,hd,h⟩=>(Hl (P:=P) (base:=base) T d).len vs H Q E h,λA outer s H args us vs Q E ao he aa aK ⟨d,hd,h⟩=>((Hl T d).mono (show d+3<=m+3 by omega)).run A outer s H args us vs Q E ao he aa aK h)
theorem aq':cu P base T 19 t.EI t.zn k9 (YI P w t):=by
 refine cD (al4 T) λahw=>cD (aeb T) λao2=>cD (ai_ T) λar2=>cD (ab2 T (m:=15)) λEm=>?_;exists T.Mx.ok xX,9
 let(aG,c,n,ds,rows,h,rfl,c8,R,ct,bz,q):=h;let(iL,le,mo,cW,cH,aU,ch,ms,kvs,au,C,bI,ec,gm,ez,g5,j1,jn):=id c8;have je:=R.je;have k:=R.ok ct;let(i5,avc):∃i5:Nat,i5=300000:=(_,rfl);refine(_,(aP (b8 (i:=2) xX.aH (ck ahw ao T.akp T.Il.bp T.aq_ (ah (U 0) (ah (U 1) aA))))
   (aP (b8 (i:=3) xX.aH (ck ao2 ao T.alp T.HC.bp T.aqY (ah (U 0) (ah (U 1) aA))))
   (aP (b8 (i:=4) xX.aH (eJ aA))
   (aP (eY eP rfl (kN rfl T.j5 (ah (br (U 0) rfl) aA)) (b_ (i:=5) xX.aH) (aY (eY eP rfl (kN rfl T.j5 (ah (br (U 0) rfl) aA)) (b_ (i:=6) xX.aH) (aY (d7 (de rt (U 5) (U 6) (cO _)) (aY (d3 (eS f9 rq sz qT (U 4) (ah (ck Em ao T.O9 T.x8.bp T.J_ (ah (eJ (ah (U 5) (ah (U 6) aA))) (ah (U 2) (ah (U 3) (ah (ck ar2 ao T.ap0 T.HF.bp T.ahb (ah (U 2) (ah (U 5) (ah (U 6) aA)))) aA))))) aA)))) eA)))))
   (aY (cp (U 4))))))),?_)
 exists (λav I=>aM H I/\aF I/\∃ol,I ol\(.lst (bN (fj (en ds rows h))))/\av=[~~~aG,some (.int h),~~~ol,none,none,none,none]),3
 .nofun;exact(aG,c,n,ds,rows,h,rfl,c8,R,ct,bz,λp I aj dX e=>b1 _ _ (aj,dX,p,e,rfl))
 intro fo H1 (s1,cK,ol,Vo,rfl);subst aS;exists (λav I=>aM H1 I/\aF I/\∃dk,I dk\(.lst (bN (ma (en ds rows h))))/\av=[~~~aG,some (.int h),~~~ol,~~~dk,none,none,none]),3
 .nofun;exact(aG,c,n,ds,rows,h,rfl,c8.same s1,R,ct,cK,λp I aj dX e=>b1 _ _ (aj,dX,p,e,rfl))
 intro cv ar (s2,cC,dk,aiX,rfl);subst aS;exists (λav I=>aM ar I/\aF I/\∃bl,ar bl=none/\I bl\(.lst [])/\av=[~~~aG,some (.int h),~~~ol,~~~dk,~~~bl,none,none]),3
 .nofun;exact(∅,λbl nB=>b1 _ _ (a_ nB,cC.upd,bl,nB,db,rfl))
 intro fJ a' (s3,dc,bl,nB,rY,rfl);have Bn:=(s1.trans s2) _ _ au;subst aS;simp only[dx];generalize dY:en ds rows h=S at *;have hm:S.m=↑rows:=by rw[<- dY];rfl
 exists (λav I=>aM ar I/\aF I/\∃qs cy ed cL,jx I bl qs cy/\bl∉qs/\(∀ys,ys∈cy↔∃f s ext,ys=f::s::ext/\f<S.m/\s<S.m/\f≠s/\jw S s (jN S f s) ext)/\av=[~~~aG,some (.int h),~~~ol,~~~dk,~~~bl,ed,cL]),0
 .nofun;refine⟨_,rm T (s3 _ _ Bn),_,rfl,(),(),?_⟩;rw[mG];refine d1.range (fun i σ I=>aM ar I/\aF I/\∃qs cy ed cL,jx I bl qs cy/\bl∉qs/\↑cy<=i*(6*i5)/\(∀ys,ys∈cy↔∃f s ext,ys=f::s::ext/\f<i/\s<S.m/\f≠s/\jw S s (jN S f s) ext)/\σ=[~~~aG,some (.int h),~~~ol,~~~dk,~~~bl,ed,cL]) ?_ ?_ ?_
  .exact (s3,dc,[],[],_,_,(rY,rfl,λi q xs h=>by simp at h),by simp,eO _,λys=>(λh=>by simp at h,λ⟨f,s,ext,_,h,_⟩=>()),rfl)
  .rintro i σ cb ai a9;ac_rfl
   let(s4,cR,qs,cy,ed,cL,ij,xT,iF,tI,rfl):=a9;subst aS;simp only[fH,hF,hD];rw[q_];nofun;refine(_,rm T (s4 _ _ Bn),_,rfl,(),(),?_);rw[mG];refine d1.range (λj σ I=>aM ar I/\aF I/\∃qs gA cL,jx I bl qs gA/\bl∉qs/\↑gA<=i*(6*i5)+j*i5/\(∀ys,ys∈gA↔(ys∈cy\/∃s ext,ys=i::s::ext/\s<j/\i≠s/\jw S s (jN S i s) ext))/\σ=[~~~aG,some (.int h),~~~ol,~~~dk,~~~bl,some (.int i),cL]) ?_ ?_ ?_
   .exact (s4,cR,qs,cy,_,ij,xT,cZ iF (EF _ _),λys=>(.inl,λh=>h.elim id (λ⟨s,ext,_,h,_⟩=>())),rfl)
   .rintro j σ bP aI a9;ac_rfl
    let(s5,dK,pA,gA,m_,jr,ly,lx,mn,rfl):=a9;subst aS;simp only[fH,hF,hD];rw[q_];by_cases MZ:i=j
    .refine dC false (λQ aX=>?_) (λz=>nomatch z) (λ_=>?_)
     .nofun;rw[MZ,decide_eq_true rfl];exact aX
     .simp only[hI];refine(s5,dK,pA,gA,_,jr,ly,by have:(j+1)*i5=j*i5+i5:=y_ j i5;omega,λys=>?_,rfl);rw[mn];constructor
      .rintro(h|⟨s,ext,af,ak,a8,bZ⟩)
       .exact .inl h
       .exact .inr (s,ext,af,(),a8,bZ)
      .rintro(h|⟨s,ext,af,ak,a8,bZ⟩)
       .exact .inl h
       .exact .inr (s,ext,af,(),a8,bZ)
    .refine dC true (λQ aX=>?_) (λ_=>?_) (λz=>nomatch z)
     .nofun;rw[decide_eq_false (λz=>MZ ())];exact aX
     .nofun;refine(.inl (_,ay.of jr.at_),∅,λp aq=>?_);have eo:aM bP (upd bP p (.lst [V.int (i:Nat),V.int (j:Nat)])):=a_ aq;have Ge:=s5.trans eo;refine(ol,S,i,j,rfl,Ge _ _ (s2 _ _ Vo),k,(),(),λplace pl=>(15,bR _,S,[i,j],j,jN S i j,place,((p,ol,dk,rfl,db,Ge _ _ (s2 _ _ Vo),Ge _ _ aiX),k,([i],rfl),((∅:(2:Nat)+15<=40)),(),pl,?_,dK.upd,λz=>by unfold jN;rw[if_pos z]),λr og Dl eL gS mx ng auB xF sV DD=>?_))
      .have af:-1<=jN S i j:=by
        rcases pl with⟨_,e⟩|⟨_,y,_,_,e⟩
        .omega
        .rw [e];have:=(qK k y).1;omega
       have:=k.tZ;unfold n4;split <;> omega
      .have kJ:=jr.same (eo.trans gS);have gr:bl∉og:=λn9=>by
        let(a,aV):=g8 n9;have nX:a<↑Dl:=by rw[<- ng.ln];exact(b5.mp aV).1
        have e:=ng.al a bl _ aV (bj nX);rw[kJ.at_]at e;have bF:pA.map V.ref=bN Dl[a]:=eH.lst.inj (er e);let(ext,hY,_):=(sV Dl[a]).mp (ic nX);rw[hY]at bF;cases pA with
        |nil=>cases bF
        |cons iH kF=>cases(t2 bF).1
       have Hz:=aln k j pl;have Sd:(j+1)*i5=j*i5+i5:=y_ j i5;have tu:i*(6*i5)<=5*(6*i5):=SE _ ();have uu:j*i5<=5*i5:=SE _ ();refine(r,rfl,_,kJ.at_,_,ng.at_,cZ (show _<=36*300000 by rw[aT,aT,kJ.ln,ng.ln];omega) ∅,λb u e=>?_,mx.upd,_,_,kJ.ext ng ly gr,(λn9=>(eQ.mp n9).elim ly gr),by rw[cU];omega,λys=>?_,_,rfl)
       .rw [aD (dF e nB)];exact gS _ _ (Ge _ _ e)
       .rw [eQ,mn,sV];constructor
        .rintro((h|⟨s,ext,af,ak,a8,bZ⟩)|⟨ext,af,bZ⟩)
         .exact .inl h
         .exact .inr (s,ext,af,(),a8,bZ)
         .exact .inr (j,ext,af,(),MZ,bZ)
        .rintro(h|⟨s,ext,af,ak,a8,bZ⟩)
         .exact .inl (.inl h)
         .by_cases cs:s<j
          .exact .inl (.inr (s,ext,af,cs,a8,bZ))
          .have aW:s=j:=()
           subst aW;exact .inr (ext,af,bZ)
   .rintro σ bP a9;ac_rfl
    let(s5,dK,pA,gA,m_,jr,ly,lx,mn,rfl):=a9;subst aS;refine(s5,dK,(pA,gA,jr,ly,by have:(i+1)*(6*i5)=i*(6*i5)+6*i5:=y_ i (6*i5);have:=SE i5 je;omega,λys=>?_,_,_,rfl));rw[mn,tI];constructor
    .rintro(⟨f,s,ext,af,ak,a8,bZ⟩|⟨s,ext,af,ak,a8,bZ⟩)
     .exact (f,s,ext,af,(),a8,bZ)
     .exact (i,s,ext,af,(),(),a8,bZ)
    .rintro⟨f,s,ext,af,ak,a8,bZ,dS⟩;by_cases aqh:f<i
     .exact .inl (f,s,ext,af,aqh,a8,bZ,dS)
     .have rY:f=i:=()
      subst rY;exact .inr (s,ext,af,(),bZ,dS)
  .rintro σ cb a9;ac_rfl
   let(s4,cR,qs,cy,ed,cL,ij,xT,iF,tI,rfl):=a9;subst aS;refine b1 _ _ (s4,cR,qs,cy,ed,cL,ij,xT,λys=>?_,rfl);rw[tI,hm]
 intro jT cb (s4,cR,qs,cy,ed,cL,ij,xT,tI,rfl);subst aS;nofun;exact q bl qs cy _ ((s1.trans s2).trans s4) cR ij tI
unseal L2.g6 L2.bw L2.gO L2.iS L2.iz L2.gs
section
open PySem.Spec PyProof.Rows
theorem U3(aC:X.calm=true):mv X (.builtin "sum") (λxs H Q=>∃l bE,xs=[⇑l]/\ay X.K H l (oh V.int bE)/\(∀k∈bE,0<=k/\k<=1000000000)/\↑bE<=1000/\Q (.int bE.sum) H):=by
 intro ae s σ H xs us Q J r h;let(l,bE,rfl,aL,aB,aN,q):=h;let(u,rfl,e1):=mr r;cases e1;let(a3,cM,pl,aO):=J.list aL;let(xs,au,aE):=Po cM;have gI:a3.toArray=intItems xs.toArray:=by rw[au];unfold intItems;simp
 have kS:s.heap.IsList l (intItems xs.toArray):=by rw[<- gI];exact pl.isList
 have lh:↑xs=↑bE:=by rw[<- aE,aT]
 have a5:∀i,i<↑bE->bE[i]?\(numAt xs.toArray i):=λi ai=>by
  rw[numAt_eq,ku];show bE[i]?\(((xs.map (·.1))[i]?).getD 0);rw[aE,bj ai];rfl
 have pq:∀n,n<=↑bE->preSum (numAt xs.toArray) n=(bE.take n).sum/\0<=(bE.take n).sum/\(bE.take n).sum<=1000000000*(n:Int):=λn=>by
  induction n with
  |zero=>intro _;exact(by simp[preSum],by simp,by simp)
  | succ n c4=>
   intro ZT;let(i1,i2,auP):=c4 ();have e:=a5 n ();have aK:=aB _ (cm e);have aW:(bE.take (n+1)).sum=(bE.take n).sum+numAt xs.toArray n:=by
    rw[oo,e,aqV];simp
   refine(?_,(),());show preSum (numAt xs.toArray) n+numAt xs.toArray n=_;rw[i1,aW]
 have hsz:xs.toArray.size=↑bE:=by rw[e2,lh]
 refine sum_intList (J.ok.hd aC) kS (λj aI=>?_) λh' tk t' k=>(.int bE.sum,H,J.kept k,(t',?_),q)
 .rw [hsz]at aI;have e:=a5 j aI;have aK:=aB _ (cm e);let(dy,du,lT):=pq (j+1) ();unfold InLong;rw[dy];omega
 .rw [hsz,(pq _ (bR _)).1,hO]
end
seal L2.g6 L2.bw L2.gO L2.iS L2.iz L2.gs
def aaV{K:bq}(Pv:Nat->List V->aw->Prop)(n:Nat)(a5:n=min ↑xs ↑ys)(aO:n<=sizeLine)(h0:Pv 0 [] H)(aN:∀i zs H,i<=n->Pv i zs H->(ay K H a xs/\ay K H b ys)/\↑zs<=i)
  (az:∀i x y zs H p,xs[i]?\x->ys[i]?\y->Pv i zs H->H p=none->qB Pv g dJ b2 dM i ⇑p zs (upd H p (.tup [x,y]))) (hd:∀zs H,Pv n zs H->∀p,H p=none->Q ⇑p (upd H p (.lst zs))):dh (B6 K a b) g dJ b2 dM Q H:=by
 refine dh.of (n:=n) Pv aO h0 (λi zs H ai p=>?_) (λzs H p=>?_) (λi zs H ai p=>(aN i zs H (nR ai) p).2) (λi zs H v I ai p y=>?_) hd
 .let((gy,eE),_):=aN i zs H (nR ai) p;exact(xs,ys,xs[i],ys[i],gy,eE,by rw[bj ()],by rw[bj ()])
 .let((gy,eE),_):=aN n zs H (bR _) p;exact(xs,ys,gy,eE,())
 .let(q,x,y,aL,rfl,ag,aQ,rfl):=y;let((gy,eE),_):=aN i zs H (nR ai) p;exact az i x y zs H q (ag xs gy) (aQ ys eE) p aL
theorem Nz(xs:List V):jC xs (some 1) none=xs.drop 1:=by
 unfold jC;rw[show e'.dn ↑xs ↑xs none=↑xs from rfl,show e'.dn ↑xs 0 (some 1)=min 1 ↑xs from e'.Ed _ _ 1];cases xs with
 |nil=>rfl
 |cons x r=>rw[D' (by rw[gW];omega)];simp
def aqw(xs:List V)(h:2<=↑xs):jC xs (some 1) (some (-1))=(xs.drop 1).take (↑xs-2):=by
 unfold jC;have e:e'.dn ↑xs ↑xs (some (-1))=↑xs-1:=by
  show(if(-1:Int)<0 then((-1:Int)+(↑xs:Int)).toNat else min (-1:Int).toNat ↑xs)=_;rw[if_pos ∅];omega
 rw[e,show e'.dn ↑xs 0 (some 1)=min 1 ↑xs from e'.Ed _ _ 1,D' (),show ↑xs-1-1=↑xs-2 by omega]
structure se(n:Int)(ds:List bf)(rows:List ST)(cg:Nat->Nat->Int):Prop where
 is:∀(i j:Nat) (r s:ST),rows[i]?\r->rows[j]?\s->i≠j->qi (jV n ds r.mem s.mem) (cg i j)
 lo:∀i j,i<↑rows->j<↑rows->i≠j->0<=cg i j/\cg i j<=1000
def KO(h:qi l v)(h':qi l hc):v=hc:=by
 have:=h.2 _ h'.1;have:=h'.2 _ h.1;omega
noncomputable def e9(ds:List bf)(rows:List ST)(h i:Nat):Int:=match rows[i]? with
 |some r=>if cE ds rows h=dw then r.lo else r.ai
 |none=>0
noncomputable def kM(cg:Nat->Nat->Int):List Nat->List Int
 |a::b::r=>cg a b::kM cg (b::r)
 |_=>[]
noncomputable def mO(ch:List Nat):List Nat:=(ch.drop 1).take (↑ch-2)
noncomputable def xz(cg:Nat->Nat->Int)(st:Nat->Int)(ch:List Nat):Int:=(kM cg ch).sum+((mO ch).map st).sum
structure Dk(m:Nat)(ch:List Nat):Prop where
 cQ:2<=↑ch
 MM:↑ch<=40
 lt:∀x∈ch,x<m
 ne:∀(i:Nat) (a b:Nat),ch[i]?\a->ch[i+1]?\b->a≠b
theorem IB(cg:Nat->Nat->Int):∀{ch:List Nat} {i a b:Nat},ch[i]?\a->ch[i+1]?\b->(kM cg ch)[i]?\(cg a b)
 |x::y::r,0,a,b,af,ak=>by cases af;cases ak;rfl
 |x::y::r,i+1,a,b,af,ak=>IB cg (ch:=y::r) (i:=i) af ak
 |[x],0,a,b,af,ak=>by simp at ak
 |[x],i+1,a,b,af,_=>by simp at af
 |[],i,a,b,af,_=>by simp at af
theorem Cu(cg:Nat->Nat->Int):∀ch:List Nat,↑(kM cg ch)=↑ch-1
 |[]=>rfl
 |[x]=>rfl
 |x::y::r=>by show ↑(kM cg (y::r))+1=_;rw[Cu cg (y::r)];simp
section
variable(P:Program)(w:World)
def Yz(t:bQ):bV:=λvs H Q _=>∃aG c n ds rows,∃h:Nat,vs=[⇑aG,.int h]/\fC P w t H aG c n ds rows/\h<↑rows/\∀b,H b\(.lst ((fp ↑rows).map λi=>V.int (e9 ds rows h i)))->Q ⇑b H
def Ic(t:bQ):bV:=λvs H Q _=>∃aG c n ds rows cg cl ch,∃h:Nat,vs=[⇑aG,.int h,⇑cl]/\fC P w t H aG c n ds rows/\jm ds rows/\se n ds rows cg/\h<↑rows/\H cl\(.lst (bN ch))/\Dk ↑rows ch/\aF H/\Q (.int (xz cg (e9 ds rows h) ch)) H
def amy(t:bQ):bV:=λvs H Q _=>∃aG c n ds rows cg cl ch,∃h:Nat,vs=[⇑aG,.int h,⇑cl]/\fC P w t H aG c n ds rows/\jm ds rows/\se n ds rows cg/\h<↑rows/\H cl\(.lst (bN ch))/\Dk ↑rows ch/\aF H/\∀I,aM H I->Q (.int (xz cg (e9 ds rows h) ch)) I
end
def Ru{α:Type}(rows:List ST)(f:ST->V)(g:Nat->V)(h:∀i r,rows[i]?\r->f r=g i):rows.map f=(fp ↑rows).map g:=by
 refine List.ext_getElem (by simp) λi af ak=>?_
 rw[aT]at af;rw[sr,sr,List.getElem_range];exact h i _ (bj af)
def QH:cu P base T 1 t.wf t.EB k9 (Yz P w t):=by
 exists T.Dm.ok ae3,9
 let(aG,c,n,ds,rows,h,rfl,c8,ct,q):=h;let(iL,le,mo,cW,cH,aU,ch,ms,kvs,au,C,bI,ec,gm,ez,g5,j1,jn):=id c8;refine(_,(aY (cp (vM (de fg (cj dp (br (U 0) rfl) (U 1)) dW (cO _)) (br (U 0) rfl) (br (U 0) rfl)))),?_);nofun;refine(_,p8 T au,_,rfl,_,ay.of ez,_,cI (oL (sX ct)),rfl,?_);by_cases bT:cE ds rows h=dw
 .rw [if_pos (by rw[bT];exact decide_eq_true rfl)];refine(_,Pu T au,q le ?_);rw[bI,Ru (α:=Nat) rows (λr=>V.int r.lo) (λi=>V.int (e9 ds rows h i)) (λi r el=>by unfold e9;rw[el];simp only[];rw[if_pos bT])]
 .rw [if_neg (by rw[decide_eq_false (λz=>bT (by injection z))];exact fT)];refine(_,ZE T au,q mo ?_);rw[ec,Ru (α:=Nat) rows (λr=>V.int r.ai) (λi=>V.int (e9 ds rows h i)) (λi r el=>by unfold e9;rw[el];simp only[];rw[if_neg bT])]
def TV:cu P base T 2 t.zB t.zj y2 (Ic P w t):=by
 refine cT.forget (sp:=amy P w t) ?_ λvs H Q E h=>?_
 .have LP:cT P w K mg base dt 1 t.wf t.EB k9 (Yz P w t):=QH T;have sA:cT P w K mg base dt 1 t.E8 t.C_ Ay (Vd P w t):=z7 T;exists T.Ea.ok Hb,9
  let(aG,c,n,ds,rows,cg,cl,ch,h,rfl,c8,R,gL,ct,g7,co,bz,q):=h;refine(_,(aP (pG (i:=3) Hb.aH rfl (nC rfl) (ck LP ao T.Vz T.Dm.bp T.XB (ah (U 0) (ah (U 1) aA))))
   (aP (xR (i:=4) Hb.aH rfl (lY rfl) rfl (K7 rfl T.Hg (ah (U 2) (ah (o3 wb (U 2) (n_ aR) qc) aA))) (gu (sc:=bx (top 72)) rfl ∅) (N:=KU) (sel:=[none,none,some 0]) (gx (M:=LH) ∅) (fm.of (λ_ _ _ _=>(la (K:=K) (n:=2) rfl rfl (eT (b_ (i:=0) (ek (N:=KU) ∅ rfl)) (eT (b_ (i:=1) (ek (N:=KU) ∅ rfl)) lj)))) (λ_ _ _ _=>(_,iA,by walk_at "B")) (λ_ _ _ _=>(_,(ck sA ao T.yE T.vz.bp T.za (ah (U 2) (ah (U 0) (ah (U 1) aA)))),by walk_at "B"))) rfl)
   (aY (cp (bM eg (fy (U3 rfl) rfl T.YD Uw (ah (U 4) aA)) (fy (U3 rfl) rfl T.YD Uw (ah (hL rfl (eV (o3 wb (U 2) (n_ aR) (n_ (si ry aR)))) (gu (sc:=bx (top 72)) rfl ∅) (N:=["number","stays"]) (sel:=[none,some 3]) (gx (M:=LH) ∅) (fm.of (λ_ _ _ _=>(b_ (i:=0) (ek (N:=["number","stays"]) ∅ rfl))) (λ_ _ _ _=>(_,iA,by walk_at "B")) (λ_ _ _ _=>(_,(cj dp (U 1) (U 0)),by walk_at "B")))) aA))))))),?_)
  exists (λav I=>I=H/\∃b,H b\(.lst ((fp ↑rows).map λi=>V.int (e9 ds rows h i)))/\av=[~~~aG,some (.int h),~~~cl,~~~b,none]),3
  .nofun;exact(aG,c,n,ds,rows,h,rfl,c8,ct,λb e=>b1 _ _ (rfl,b,e,rfl))
  intro fo H1 (rfl,b,bD,rfl);subst aS;exists (λav I=>aM H1 I/\aF I/\∃Aj,I Aj\(.lst ((kM cg ch).map V.int))/\av=[~~~aG,some (.int h),~~~cl,~~~b,~~~Aj]),3
  .have vN:=co.cQ;have QB:=co.MM;nofun;refine(_,ay.of g7,λp aq=>((_,ay.of (a_ aq _ _ g7)),(_,ay.of db),?_));have kA:jC (bN ch) (some 1) none=bN (ch.drop 1):=by rw[Nz];unfold bN;rw[A']
   rw[kA];have s1:aM H1 (upd H1 p (.lst (bN (ch.drop 1)))):=a_ aq;have cJ:upd H1 p (.lst (bN (ch.drop 1))) p\(.lst (bN (ch.drop 1))):=db;have j3:aF (upd H1 p (.lst (bN (ch.drop 1)))):=bz.upd;generalize upd H1 p (.lst (bN (ch.drop 1)))=ar at s1 cJ j3⊢;refine aaV (xs:=bN ch) (ys:=bN (ch.drop 1)) (λi zs I=>aM ar I/\aF I/\zs=((kM cg ch).take i).map V.int) (↑ch-1) (by rw[h1,h1,k4];omega) (cZ (show _<=40 by omega) ∅) (aM.refl _,j3,rfl) (λi zs I ai ⟨bb,_,e⟩=>((ay.of (bb _ _ (s1 _ _ g7)),ay.of (bb _ _ cJ)),by rw[e,aT,ha];omega)) ?_ ?_
   .intro i x y zs I r ag aQ (bb,dX,rfl) el N bo;unfold bN at ag aQ;let(a,aV,rfl):=b' ag;let(hr,aa,rfl):=b' aQ;rw[AS,aeT]at aa;have Qn:aM I (upd I r (.tup [.int (a:Nat),.int (hr:Nat)])):=a_ el;have nX:=co.lt a (cm aV);have Te:=co.lt hr (cm aa);refine uw ?_;nofun;refine(Sub.Su,aG,c,n,ds,rows,a,hr,_,_,rfl,c8.same (s1.trans (bb.trans Qn)),bj nX,bj Te,co.ne i a hr aV aa,dX.upd,λv aK=>bo _ _ (bb.trans Qn,dX.upd,?_));have ev:=KO aK (gL.is a hr _ _ (bj nX) (bj Te) (co.ne i a hr aV aa));rw[oo,IB cg aV aa,ee,ev];rfl
   .intro zs I (bb,dX,rfl) Aj Fx;rw[Jr (by rw[Cu];exact bR _)];exact b1 _ _ (s1.trans (bb.trans (a_ Fx)),dX.upd,Aj,db,rfl)
  intro cv ar (s2,cC,Aj,agM,rfl);have vN:=co.cQ;have QB:=co.MM;have hy:∀x∈mO ch,x<↑rows:=λx ag=>co.lt x (SM (wZ ag))
  have fB:∀x,x<↑rows->0<=e9 ds rows h x/\e9 ds rows h x<=1000:=λx ag=>by
   have:=R.lo _ (ic ag);unfold e9;rw[bj ag];simp only[];split <;> omega
  have HV:∀v∈kM cg ch,0<=v/\v<=1000000000:=λv aK=>by
   let(i,ai):=g8 aK;have gI:i<↑ch-1:=by rw[<- Cu cg];exact(b5.mp ai).1
   have aV:ch[i]?\(ch[i]'()):=bj ();have aa:ch[i+1]?\(ch[i+1]'()):=bj ();rw[IB cg aV aa]at ai;have:=gL.lo _ _ (co.lt _ (cm aV)) (co.lt _ (cm aa)) (co.ne i _ _ aV aa);cases ai;omega
  subst aS;nofun;refine(kM cg ch,ay.of agM,HV,by rw[Cu];omega,_,ay.of (s2 _ _ g7),λp aq=>((_,ay.of db),?_));have kA:jC (bN ch) (some 1) (some (-1))=bN (mO ch):=by
   rw[aqw _ (by rw[h1];exact vN),h1];unfold bN mO;rw[Wg,A']
  rw[kA];have s3:aM ar (upd ar p (.lst (bN (mO ch)))):=a_ aq;refine dh.n1 (xs:=bN (mO ch)) (zs:=((mO ch).map (e9 ds rows h)).map V.int) (ay.of db) (cZ (show _<=40 by rw[h1];unfold mO;rw[ha];omega) ∅) (by rw[h1,aT,aT]) (λi v z N aK aO bo=>?_) (λl aN=>?_)
  .unfold bN at aK;let(x,ag,rfl):=b' aK;let(y,aQ,rfl):=b' aO;let(eR,eb,rfl):=b' aQ;rw[ag]at eb;cases eb;have lh:=hy x (cm ag);nofun;exact(Sub.name,_,ay.of (s3 _ _ (s2 _ _ bD)),_,cI (by rw[dv,BD lh];rfl),bo)
  .refine (l,rfl,_,ay.of db,λv aK=>?_,by rw[aT];unfold mO;rw[ha];omega,q _ (s2.trans (s3.trans (a_ aN))));let(x,ag,rfl):=cf.mp aK;have:=fB x (hy x ag);omega
 .let(aG,c,n,ds,rows,cg,cl,ch,h,rfl,c8,R,gL,ct,g7,co,bz,q):=h;exact(bz,aG,c,n,ds,rows,cg,cl,ch,h,rfl,c8,R,gL,ct,g7,co,bz,λI bb=>(bb,q))
def af'(P:Program)(w:World)(t:bQ):bV:=λvs H Q _=>∃a c n ds rows,∃k:Nat,∃r,vs=[⇑a,.int k]/\fC P w t H a c n ds rows/\rows[k]?\r/\∀p,H p=none->Q ⇑p (upd H p (.lst (a0 r.mem)))
structure iE(B H:aw)(p:Addr)(qs:List Addr):Prop where
 at_:H p\(.lst (qs.map V.ref))
 al:∀q∈qs,B q=none/\q≠p/\∃ys,H q\(.lst ys)/\↑ys<=1
def iE.same{p:Addr}(h:iE B H p qs)(s:aM H I):iE B I p qs:=(s _ _ h.at_,λq aL=>let⟨a,b,ys,e,l⟩:=h.al q aL;(a,b,ys,s _ _ e,l))
def iE.put{p:Addr}(h:∀q∈qs,B q=none/\q≠p/\∃ys,H q\(.lst ys)/\↑ys<=1)(e:zs=qs.map V.ref):iE B (upd H p (.lst zs)) p qs:=(by rw[db,e],λq aL=>by
 let(a,b,ys,e,l):=h q aL;exact(a,b,ys,by rw[aD b];exact e,l))
def iE.ext{p b:Addr}(h:iE B H p qs)(s:aM H I)(g:iE C I b o8)(anh:aM B C)(dd:C p=H p):iE B (upd I p (.lst (qs.map V.ref++o8.map V.ref))) p (qs++o8):=by
 refine iE.put (λq aL=>?_) (by rw[ee]);rcases eQ.mp aL with z|z
 .let(a,b,ys,e,l):=h.al q z;exact(a,b,ys,s _ _ e,l)
 .let(a,_,ys,e,l):=g.al q z;refine(anh.free a,λw=>?_,ys,e,l);rw[w,dd,h.at_]at a;cases a
section
variable(P:Program)(w:World)
def EQ(t:bQ):bV:=λvs H Q _=>∃aG c n ds rows cg,∃i j:Nat,∃kE:Int,vs=[⇑aG,.int i,.int j,.int kE]/\fC P w t H aG c n ds rows/\jm ds rows/\se n ds rows cg/\i<↑rows/\j<↑rows/\i≠j/\(1<=kE/\kE<=1000)/\aF H /\
 ∀p qs I,aM H I->aF I->iE H I p qs->(↑qs:Int)=kE+cg i j->Q ⇑p I
end
structure qH(m h f i:Nat)(st:List Nat):Prop where
 Ha:st≠[]
 len:↑st<=1+i
 lt:∀x∈st,x<m
 ne:∀(k a b:Nat),st[k]?\a->st[k+1]?\b->a≠b
 cx:i=1->st.getLast?\h
 cQ:i=2->st.getLast?\f
def qH.put{m h f i:Nat}{st:List Nat}(S:qH m h f i st){x y:Nat}(aQ:st.getLast?\y)(ag:x<m)(cA:x≠y)(af:i+1=1->x=h)(ak:i+1=2->x=f):qH m h f (i+1) (st++[x]):=by
 refine(by simp,by rw[cU];show ↑st+1<=_;have:=S.len;omega,λz aO=>?_,λk a b aV aa=>?_,λz=>by rw[ajD];simp[af z],λz=>by rw[ajD];simp[ak z])
 .rcases eQ.mp aO with z|z
  .exact S.lt _ z
  .rw [eB.mp z];exact ag
 .rcases nZ aa with⟨g1,g2⟩|⟨g1,g2⟩
  .rw [lg ()]at aV;exact S.ne k a b aV g2
  .rw [lg ()]at aV;rw[Y2,show ↑st-1=k by omega,aV]at aQ;cases aQ;rw[g2];exact dm cA
def qH.pd{m h f i:Nat}{st:List Nat}(S:qH m h f i st){x:Nat}(aQ:st.getLast?\x)(af:i+1=1->x=h)(ak:i+1=2->x=f):qH m h f (i+1) st:=(S.Ha,by have:=S.len;omega,S.lt,S.ne,λz=>by rw[aQ,af z],λz=>by rw[aQ,ak z])
def abH:bV:=λvs H Q _=>∃aG,∃m h f:Nat,vs=[⇑aG,.int h,.int f]/\h<m/\f<m/\aF H/\∀p st I,aM H I->aF I->I p\(.lst (bN st))->qH m h f 2 st->Q ⇑p I
def asd:cu P base T 1 t.I' t.Nb CC (af' P w t):=by
 exists T.C9.ok ai1,9
 let(a,c,n,ds,rows,k,r,rfl,(ax,le,mo,cW,cH,aU,ch,ms,kvs,au,_,_,_,M,_),aB,q):=h;have UE:ms[k]?\(ms[k]'(by rw[M.ln,aT];exact(b5.mp aB).1)):=bj _;have em:=M.al k _ _ UE (by rw[dv,aB];rfl);refine(_,(aY (cp (rQ afZ rfl T.adE afa (ah (cj dp (br (U 0) rfl) (U 1)) aA)))),?_);nofun;exact(_,CS T au,_,rfl,_,ay.of M.at_,_,cI (by rw[dv,UE];rfl),_,rfl,_,.inl (ay.of em),λl aN=>q l aN)
def aiu:cu P base T 2 t.Py t.MA MC (EQ P w t):=by
 refine cD (asd T) λXz=>cD (z7 T) λsA=>?_;exists T.BG.ok Dn,9
 let(aG,c,n,ds,rows,cg,i,j,kE,rfl,c8,R,gL,ai,aI,lI,aud,bz,q):=h;have iX:rows[i]?\rows[i]:=bj ai;have hu:rows[j]?\rows[j]:=bj aI;let(zi,GG,rv):=tB (R.cW _ (ic ai));let(Fm,xl,ud):=tB (R.cW _ (ic aI));have HV:=gL.lo i j ai aI lI;refine(_,(aP (pG (i:=4) Dn.aH rfl (nC rfl) (cj dp (ck Xz ao T.VD T.C9.bp T.QZ (ah (U 0) (ah (U 1) aA))) aR))
   (aP (b8 (i:=5) Dn.aH (cj dp (ck Xz ao T.VD T.C9.bp T.QZ (ah (U 0) (ah (U 2) aA))) aR))
   (aP (xR (i:=6) Dn.aH rfl (lY rfl) rfl (kN rfl T.j5 (ah (bM lC (U 3) aR) aA)) (gu (sc:=bx (top 73)) rfl ∅) (N:=["turn","own"]) (sel:=[none,some 4]) (gx (M:=IA) ∅) (fm.of (λ_ _ _ _=>(b_ (i:=0) (ek (N:=["turn","own"]) ∅ rfl))) (λ_ _ _ _=>(_,iA,by walk_at "B")) (λ_ _ _ _=>(_,(eJ (ah (U 1) aA)),by walk_at "B"))) rfl)
   (aP (d3 (eS f9 kQ k2 kO (U 6) (ah (eJ (ah (U 5) aA)) aA)))
   (aP (d3 (eS f9 rq sz qT (U 6) (ah (hL rfl (kN rfl T.j5 (ah (ck sA ao T.yE T.vz.bp T.za (ah (U 0) (ah (U 1) (ah (U 2) aA)))) aA)) (gu (sc:=bx (top 73)) rfl ∅) (N:=["turn"]) (sel:=[none]) (gx (M:=IA) ∅) (fm.of (λ_ _ _ _=>(b_ (i:=0) (ek (N:=["turn"]) ∅ rfl))) (λ_ _ _ _=>(_,iA,by walk_at "B")) (λ_ _ _ _=>(_,(eJ aA),by walk_at "B")))) aA)))
   (aY (cp (U 6)))))))),?_)
 exists (λav I=>aM H I/\aF I/\av=[~~~aG,some (.int i),some (.int j),some (.int kE),some (.str zi),none,none]),3
 .nofun;exact(aG,c,n,ds,rows,i,_,rfl,c8,iX,λp aq=>(p,rfl,_,ay.of db,_,by rw[rv];exact cI (j:=0) rfl,b1 _ _ (a_ aq,bz.upd,rfl)))
 intro fo H1 (s1,cK,rfl);subst aS;exists (λav I=>aM H1 I/\aF I/\av=[~~~aG,some (.int i),some (.int j),some (.int kE),some (.str zi),some (.str Fm),none]),3
 .nofun;exact(aG,c,n,ds,rows,j,_,rfl,c8.same s1,hu,λp aq=>(p,rfl,_,ay.of db,_,by rw[ud];exact cI (j:=0) rfl,b1 _ _ (a_ aq,cK.upd,rfl)))
 intro cv ar (s2,cC,rfl);have nz:=s1.trans s2;subst aS;exists (λav I=>aM ar I/\aF I/\∃ap qs,ar ap=none/\iE H I ap qs/\(↑qs:Int)=kE-1/\av=[~~~aG,some (.int i),some (.int j),some (.int kE),some (.str zi),some (.str Fm),~~~ap]),3
 .nofun;refine((),(),?_);refine dh.range (λk ys I=>aM ar I/\aF I/\∃gH:List Addr,ys=gH.map V.ref/\↑gH=k/\∀q∈gH,ar q=none/\∃zs,I q\(.lst zs)/\↑zs<=1) (cZ (show _<=1000 by omega) ∅) (aM.refl _,cC,[],rfl,rfl,λq h=>by simp at h) ?_ ?_ ?_
  .rintro k ys I aB a9;ac_rfl
   let(_,_,gH,rfl,aL,_):=a9;subst aS;rw[aT,aL];exact bR _
  .rintro k ys I aB ⟨bb,dX,gH,rfl,aL,al⟩ N bo;nofun;refine⟨Sub.name,∅,fun p aq=>bo _ _ ⟨bb.trans (a_ aq),dX.upd,gH++[p],by rw[ee];rfl,by rw[cU,aL];rfl,fun dB kx=>?_⟩⟩;rcases eQ.mp kx with z|z
   .let(a,zs,e,l):=al dB z;exact(a,zs,a_ aq _ _ e,l)
   .rw [eB.mp z];exact(bb.free aq,_,db,by simp)
  .intro ys I (bb,dX,gH,rfl,aL,al) ap yx;exact b1 _ _ (bb.trans (a_ yx),dX.upd,ap,gH,bb.free yx,iE.put (λdB kx=>by let(a,zs,e,l):=al dB kx;exact(nz.free a,dF e yx,zs,e,l)) rfl,by rw[aL];omega,rfl)
 intro fJ a' (s3,dc,ap,qs,yx,qD,FE,rfl);subst aS;exists (λav I=>aM ar I/\aF I/\∃qs,iE H I ap qs/\(↑qs:Int)=kE/\av=[~~~aG,some (.int i),some (.int j),some (.int kE),some (.str zi),some (.str Fm),~~~ap]),3
 .nofun;refine(.inl (_,ay.of qD.at_),∅,λp aq=>(_,a_ aq _ _ qD.at_,gv (show _<=1000 by rw[aT];omega) ∅,b1 _ _ (λb u e=>?_,(dc.upd).upd,qs++[p],iE.put (λdB kx=>?_) (by rw[ee];rfl),by rw[cU];show((↑qs+1:Nat):Int)=kE;omega,rfl)))
  .rw [aD (dF e yx)];exact a_ aq _ _ (s3 _ _ e)
  .rcases eQ.mp kx with z|z
   .let(a,b,zs,e,l):=qD.al dB z;exact(a,b,zs,a_ aq _ _ e,l)
   .rw [eB.mp z];exact((nz.trans s3).free aq,λw=>(by rw[w,qD.at_]at aq;cases aq),_,db,bR 1)
 intro jT cb (s4,cR,j6,ij,oS,rfl);subst aS;exists (λav I=>aM ar I/\aF I/\∃qs,iE H I ap qs/\(↑qs:Int)=kE+cg i j/\av=[~~~aG,some (.int i),some (.int j),some (.int kE),some (.str zi),some (.str Fm),~~~ap]),3
 .nofun;refine(.inl (_,ay.of ij.at_),aG,c,n,ds,rows,i,j,_,_,rfl,c8.same (nz.trans s4),iX,hu,lI,cR,λv aK=>?_);have ev:=KO aK (gL.is i j _ _ iX hu lI);subst ev;refine(_,rfl,(),(),?_);refine dh.range (λk ys I=>aM cb I/\aF I/\∃gH:List Addr,ys=gH.map V.ref/\↑gH=k/\∀q∈gH,cb q=none/\∃zs,I q\(.lst zs)/\↑zs<=1) (cZ (show _<=1000 by omega) ∅) (aM.refl _,cR,[],rfl,rfl,λq h=>by simp at h) ?_ ?_ ?_
  .rintro k ys I aB a9;ac_rfl
   let(_,_,gH,rfl,aL,_):=a9;subst aS;rw[aT,aL];exact bR _
  .rintro k ys I aB ⟨bb,dX,gH,rfl,aL,al⟩ N bo;nofun;refine⟨Sub.name,∅,fun p aq=>bo _ _ ⟨bb.trans (a_ aq),dX.upd,gH++[p],by rw[ee];rfl,by rw[cU,aL];rfl,fun dB kx=>?_⟩⟩;rcases eQ.mp kx with z|z
   .let(a,zs,e,l):=al dB z;exact(a,zs,a_ aq _ _ e,l)
   .rw [eB.mp z];exact(bb.free aq,_,db,by simp)
  .rintro ys I ⟨bb,dX,gH,rfl,aL,al⟩ af7 U4;have s5:=bb.trans (a_ (o:=.lst (gH.map V.ref)) U4);refine⟨af7,rfl,_,s5 _ _ ij.at_,_,db,cZ (show _<=3000 by rw[aT,aT,aL];omega) ∅,b1 _ _ ⟨fun b u e=>?_,(dX.upd).upd,j6++gH,iE.put (fun dB kx=>?_) (by rw[ee]),by rw[cU,aL];omega,rfl⟩⟩
   .rw [aD (dF e yx)];exact s5 _ _ (s4 _ _ e)
   .rcases eQ.mp kx with z|z
    .let(a,b,zs,e,l):=ij.al dB z;exact(a,b,zs,s5 _ _ e,l)
    .let(a,zs,e,l):=al dB z;exact((nz.trans s4).free a,λw=>(by rw[w,ij.at_]at a;cases a),zs,a_ U4 _ _ e,l)
 intro nL bP (s5,dK,pA,jr,aa',rfl);subst aS;nofun;exact q ap pA _ (nz.trans s5) dK jr aa'
theorem ao4{m h f:Nat}(ct:h<m)(hf:f<m):∀{i:Nat} {v:V},[V.int (h:Nat),V.int (f:Nat)][i]?\v->∃x:Nat,x<m/\v=.int (x:Nat)/\(i+1=1->x=h)/\(i+1=2->x=f)
 |0,_,aK=>by cases aK;exact(h,ct,rfl,λ_=>rfl,(λz=>by cases z))
 |1,_,aK=>by cases aK;exact(f,hf,rfl,(λz=>by cases z),λ_=>rfl)
 |i+2,_,aK=>by simp at aK
def an2:cu P base T 1 t.NM t.K6 MX abH:=by
 exists T.Kd.ok Hv,9
 let(aG,m,h,f,rfl,ct,hf,bz,q):=h;refine(_,(aP (b8 (i:=3) Hv.aH (eJ (ah aR aA)))
   (aP (eY eP rfl (eV (eJ (ah (U 1) (ah (U 2) aA)))) (b_ (i:=4) Hv.aH) (aY (d7 (de rt (U 4) (cj dp (U 3) (si ry aR)) (cO _)) (aY (d3 (eS f9 kQ k2 kO (U 3) (ah (U 4) aA)))) eA)))
   (aY (cp (U 3))))),?_)
 exists (λav I=>aM H I/\aF I/\∃sp,H sp=none/\I sp\(.lst (bN [0]))/\av=[~~~aG,some (.int h),some (.int f),~~~sp,none]),3
 .nofun;exact(∅,λsp jk=>b1 _ _ (a_ jk,bz.upd,sp,jk,db,rfl))
 intro fo H1 (s1,cK,sp,jk,au,rfl);subst aS;exists (λav I=>aM H I/\aF I/\∃st dr,I sp\(.lst (bN st))/\qH m h f 2 st/\av=[~~~aG,some (.int h),some (.int f),~~~sp,dr]),3
 .nofun;refine(∅,λp aq=>((_,ay.of db),?_));have s2:aM H1 (upd H1 p (.lst [V.int (h:Nat),V.int (f:Nat)])):=a_ aq;have pq:p≠sp:=λz=>by rw[z,au]at aq;cases aq
  refine d1.list (xs:=[V.int (h:Nat),V.int (f:Nat)]) (λi σ I=>aM H I/\aF I/\I p\(.lst [V.int (h:Nat),V.int (f:Nat)])/\∃st dr,I sp\(.lst (bN st))/\qH m h f i st/\σ=[~~~aG,some (.int h),some (.int f),~~~sp,dr]) ?_ ?_ ?_ ?_
  .refine (s1.trans s2,cK.upd,db,[0],_,s2 _ _ au,(by simp,bR _,λx ag=>?_,(λk a b aV aa=>by simp at aa),(λz=>by cases z),(λz=>by cases z)),rfl);rw[eB.mp ag];omega
  .rintro i σ I ai a9;ac_rfl
   let(_,_,e,_):=a9;subst aS;exact ay.of e
  .rintro i v σ I aK a9;ac_rfl
   let(s3,dc,cJ,st,dr,aW,S,rfl):=a9;let(x,ag,Nv,Ss,FV):=ao4 ct hf aK;subst aS;subst Nv;let(y,aQ):∃y,st.getLast?\y:=(st.getLast S.Ha,List.getLast?_eq_some_getLast S.Ha);have i3:gU (bN st) (-1)\(.int (y:Nat)):=xq (by rw[h1];exact ii (by rw[<- Y2];exact aQ));have ath:=S.len;have gI:i<2:=(b5.mp aK).1;simp only[fH,hF,hD];by_cases Ew:x=y
   .refine dC false (λQ aX=>?_) (λz=>nomatch z) (λ_=>?_)
    .nofun;refine(_,ay.of aW,_,i3,rfl,?_);rw[Ew,decide_eq_true rfl];exact aX
    .simp only[hI];exact(s3,dc,cJ,st,_,aW,S.pd (by rw[Ew];exact aQ) Ss FV,rfl)
   .refine dC true (λQ aX=>?_) (λ_=>?_) (λz=>nomatch z)
    .nofun;refine(_,ay.of aW,_,i3,rfl,?_);rw[decide_eq_false (λz=>Ew (by injection z with z;omega))];exact aX
    .nofun;refine(.inl (_,ay.of aW),_,aW,gv (show _<=10 by rw[h1];omega) ∅,λb u e=>?_,dc.upd,by rw[aD pq];exact cJ,st++[x],by rw[db];unfold bN;rw[ee];rfl,S.put aQ ag Ew Ss FV,_,rfl);rw[aD (dF e jk)];exact s3 _ _ e
  .rintro σ I a9;ac_rfl
   let(s3,dc,cJ,st,dr,aW,S,rfl):=a9;subst aS;exact b1 _ _ (s3,dc,st,dr,aW,S,rfl)
 intro cv ar (s2,cC,st,dr,aE,kL,rfl);subst aS;nofun;exact q sp st _ s2 cC aE kL
theorem ang(xs:List V):jC xs (some 2) none=xs.drop 2:=by
 unfold jC;rw[show e'.dn ↑xs ↑xs none=↑xs from rfl,show e'.dn ↑xs 0 (some 2)=min 2 ↑xs from e'.Ed _ _ 2]
 match xs with
 |[]=>rfl
 |[x]=>rfl
 |x::y::r=>rw[D' (by simp)];simp
section
variable(P:Program)(w:World)
def WX(t:bQ):bV:=λvs H Q _=>∃aG c n ds rows cg name cl ch,vs=[⇑aG,.str name,⇑cl]/\fC P w t H aG c n ds rows/\jm ds rows/\se n ds rows cg/\H cl\(.lst (bN ch))/\Dk ↑rows ch/\aF H /\
 ∀r a b I,aM H I->aF I->I r\(.tup [⇑a,.int b])->Q ⇑r I
end
theorem afT:cu P base T 3 t.Cl t.FX Fq (WX P w t):=by
 refine cD (an2 T) fun ap3=>cD (aiu T) fun RG=>cD (z7 T) fun sA=>cD (QH T) fun LP=>?_;exists T.Mo.ok qZ,9
 obtain⟨aG,c,n,ds,rows,cg,name,cl,ch,rfl,c8,R,gL,g7,co,bz,q⟩:=h;have vN:=co.cQ;have QB:=co.MM;obtain⟨bT,h0⟩:∃bT,ch[0]?\bT:=⟨ch[0]'(),bj _⟩;obtain⟨bc,af⟩:∃bc,ch[1]?\bc:=⟨ch[1]'(),bj _⟩;obtain⟨hm,ct⟩:∃hm,ch[↑ch-1]?\hm:=⟨ch[↑ch-1]'(),bj _⟩;have ye:=co.lt bT (cm h0);have gq:=co.lt bc (cm af);have YH:=co.lt hm (cm ct);have DA:=co.ne 0 bT bc h0 af;have HV:=gL.lo bT bc ye gq DA;have fB:∀x,x<↑rows->1<=e9 ds rows hm x/\e9 ds rows hm x<=1000:=fun x ag=>by
  have:=R.lo _ (ic ag);unfold e9;rw[bj ag];simp only[];split <;> omega
 obtain⟨iL,le,mo,cW,cH,aU,ael,ms,kvs,au,C,bI,ec,gm,ez,g5,j1,jn⟩:=id c8;refine⟨_,(aP (b8 (i:=3) qZ.aH (cj dp (U 2) (si ry aR)))
   (aP (b8 (i:=4) qZ.aH (ck ap3 ao T.adB T.Kd.bp T.aaW (ah (U 0) (ah (U 3) (ah (cj dp (U 2) aR) aA)))))
   (aP (b8 (i:=5) qZ.aH (eJ aA))
   (aP (eY eP rfl (K7 rfl T.Hg (ah (U 4) (ah (bM LZ (o3 wb (U 4) (n_ aR) qc) (eJ (ah (cj dp (U 2) aR) aA))) aA))) (la (K:=K) (n:=2) rfl rfl (eT (b_ (i:=6) qZ.aH) (eT (b_ (i:=7) qZ.aH) lj))) (aY (d3 (eS f9 rq sz qT (U 5) (ah (ck RG ao T.Tp T.BG.bp T.Xu (ah (U 0) (ah (U 6) (ah (U 7) (ah (cj dp (br (U 0) rfl) (U 6)) aA))))) aA)))))
   (aP (b8 (i:=8) qZ.aH (bM lC (fy iu rfl T.hX hU (ah (U 5) aA)) (ck sA ao T.yE T.vz.bp T.za (ah (U 0) (ah (cj dp (U 2) aR) (ah (cj dp (U 2) aR) aA))))))
   (aP (b8 (i:=9) qZ.aH (ck LP ao T.Vz T.Dm.bp T.XB (ah (U 0) (ah (U 3) aA))))
   (aP (eY eP rfl (K7 rfl T.Hg (ah (o3 wb (U 2) (n_ aR) qc) (ah (o3 wb (U 2) (n_ aR) qc) aA))) (la (K:=K) (n:=2) rfl rfl (eT (b_ (i:=6) qZ.aH) (eT (b_ (i:=7) qZ.aH) lj))) (aY (d3 (eS f9 rq sz qT (U 5) (ah (ck RG ao T.Tp T.BG.bp T.Xu (ah (U 0) (ah (U 6) (ah (U 7) (ah (cj dp (U 9) (U 6)) aA))))) aA)))))
   (aP (d3 (eS f9 kQ k2 kO (U 5) (ah (eJ aA) aA)))
   (aP (d3 (eS f9 kQ k2 kO (cj dp (U 5) (U 8)) (ah (U 1) aA)))
   (aY (cp (oA (ah (U 5) (ah (U 8) aA)))))))))))))),?_⟩
 exists (fun av I=>I=H/\av=[~~~aG,some (.str name),~~~cl,some (.int hm),none,none,none,none,none,none]),3
 .nofun;exact⟨_,ay.of g7,_,xq (by rw[h1];exact ii ct),b1 _ _ ⟨rfl,rfl⟩⟩
 rintro fo H1 ⟨rfl,rfl⟩;subst aS;exists (fun av I=>aM H1 I/\aF I/\∃sp st,I sp\(.lst (bN st))/\qH ↑rows hm bT 2 st/\av=[~~~aG,some (.str name),~~~cl,some (.int hm),~~~sp,none,none,none,none,none]),3
 .nofun;exact⟨_,ay.of g7,_,cI (j:=0) (ii h0),aG,↑rows,hm,bT,rfl,YH,ye,bz,fun p st I aj dX bF sJ=>b1 _ _ ⟨aj,dX,p,st,bF,sJ,rfl⟩⟩
 rintro cv ar ⟨s2,cC,sp,st,aW,kL,rfl⟩;subst aS;exists (fun av I=>aM ar I/\aF I/\∃hQ,ar hQ=none/\I hQ\(.lst [])/\av=[~~~aG,some (.str name),~~~cl,some (.int hm),~~~sp,~~~hQ,none,none,none,none]),3
 .nofun;exact⟨∅,fun hQ yA=>b1 _ _ ⟨a_ yA,cC.upd,hQ,yA,db,rfl⟩⟩
 rintro fJ a' ⟨s3,dc,hQ,yA,xw,rfl⟩;have att:=kL.len;have uN:=kL.cQ rfl;subst aS;exists (fun av I=>aM ar I/\aF I/\∃qs cL di,iE H1 I hQ qs/\1+cg bT bc<=(↑qs:Int)/\↑qs<=6000/\av=[~~~aG,some (.str name),~~~cl,some (.int hm),~~~sp,~~~hQ,cL,di,none,none]),3
 .have aum:1<=↑st:=w0.mpr kL.Ha;have abF:st[↑st-1]?\bT:=by rw[<- Y2];exact uN
  nofun;refine⟨_,ay.of (s3 _ _ aW),fun p aq=>?_⟩;rw[Nz,show(bN st).drop 1=bN (st.drop 1)by unfold bN;rw[A']];refine⟨_,ay.of (a_ aq _ _ (s3 _ _ (s2 _ _ g7))),_,cI (j:=1) (ii af),∅,fun dy mB=>?_⟩;have cA:p≠dy:=fun z=>by rw[<- z,db]at mB;cases mB
  refine⟨_,by rw[aD cA];exact db,_,db,cZ (show _<=10 by rw[h1,k4];show _+1<=10;omega) ∅,fun du gF=>?_⟩;have s5:=((a_ (o:=.lst (bN (st.drop 1))) aq).trans (a_ (o:=.lst [V.int (bc:Nat)]) mB)).trans (a_ (o:=.lst (bN (st.drop 1)++[V.int (bc:Nat)])) gF);have lu:upd (upd (upd a' p (.lst (bN (st.drop 1)))) dy (.lst [V.int (bc:Nat)])) du (.lst (bN (st.drop 1)++[V.int (bc:Nat)])) du\(.lst (bN (st.drop 1++[bc]))):=by rw[db];unfold bN;rw[ee];rfl
  have dK:aF (upd (upd (upd a' p (.lst (bN (st.drop 1)))) dy (.lst [V.int (bc:Nat)])) du (.lst (bN (st.drop 1)++[V.int (bc:Nat)]))):=((dc.upd).upd).upd;generalize upd (upd (upd a' p (.lst (bN (st.drop 1)))) dy (.lst [V.int (bc:Nat)])) du (.lst (bN (st.drop 1)++[V.int (bc:Nat)]))=bP at s5 lu dK⊢;have abv:du≠hQ:=fun z=>by
   rw[z,s5 _ _ xw]at lu;have wV:([]:List V)=bN (st.drop 1++[bc]):=eH.lst.inj (er lu);unfold bN at wV;rw[ee]at wV;cases hd:oh (fun j=>V.int ((j:Nat):Int)) (st.drop 1)with
   |nil=>rw[hd]at wV;cases wV
   |cons a b=>rw[hd]at wV;cases wV
  refine⟨⟨_,ay.of (s5 _ _ (s3 _ _ aW))⟩,⟨_,ay.of lu⟩,?_⟩;have xN:∀{k a b:Nat},st[k]?\a->(st.drop 1++[bc])[k]?\b->a≠b/\b<↑rows/\(k+1=↑st->a=bT/\b=bc):=fun {k a b} aV aa=>by
   have aB:=(b5.mp aV).1;by_cases atF:k+1<↑st
   .rw [lg (by rw[k4];omega),AS,aeT]at aa;exact⟨kL.ne k a b aV aa,kL.lt b (cm aa),fun z=>absurd z ()⟩
   .have K':k=↑st-1:=()
    rw[K',abF]at aV;cases aV;rw[j7 (by rw[k4];omega),k4,show k-(↑st-1)=0 by omega]at aa;cases aa;exact⟨DA,gq,fun _=>⟨rfl,rfl⟩⟩
  refine d1.zip (xs:=bN st) (ys:=bN (st.drop 1++[bc])) (fun k σ I=>(∀b u,b≠hQ->bP b\u->I b\u)/\aM ar I/\aF I/\∃qs cL di,iE H1 I hQ qs/\(k=↑st->1+cg bT bc<=(↑qs:Int))/\↑qs<=k*2000/\σ=[~~~aG,some (.str name),~~~cl,some (.int hm),~~~sp,~~~hQ,cL,di,none,none]) ?_ ?_ ↑st (by rw[h1,h1,cU,k4];show _=min _ (_+1);omega) ?_ ?_
  .exact ⟨fun b u _ e=>e,s3.trans s5,dK,[],_,_,⟨s5 _ _ xw,fun q h=>by simp at h⟩,fun z=>absurd z (),eO _,rfl⟩
  .rintro k σ I aB ⟨bp,bb,_⟩;refine⟨ay.of (bb _ _ aW),ay.of (bp _ _ abv lu)⟩
  .rintro k x y σ I r ag aQ ⟨bp,bb,dX,qs,cL,di,pD,g',hr,rfl⟩ el;unfold bN at ag aQ;obtain⟨a,aV,rfl⟩:=b' ag;obtain⟨hr,ep,rfl⟩:=b' aQ;obtain⟨yW,bG,fin⟩:=xN aV ep;have al:=kL.lt a (cm aV);have aB:=(b5.mp aV).1;have eo:aM I (upd I r (.tup [.int (a:Nat),.int (hr:Nat)])):=a_ el;have lo:=R.lo _ (ic al);have r1:=gL.lo a hr al bG yW;have ti:=s2.trans (bb.trans eo);refine uw ?_;simp only[hF,hD];nofun;refine⟨.inl ⟨_,ay.of (eo _ _ pD.at_)⟩,_,Pu T (ti _ _ au),_,rfl,_,ay.of (ti _ _ bI),_,cI (by rw[dv,bj al];rfl),aG,c,n,ds,rows,cg,a,hr,_,rfl,c8.same ti,R,gL,al,bG,yW,(),dX.upd,fun fL pP aja sc tq Bz lc=>?_⟩;have z8:=pD.same eo;refine⟨fL,rfl,_,sc _ _ z8.at_,_,Bz.at_,cZ (show _<=100000 by rw[aT,aT];omega) ∅,fun b u nb e=>?_,fun b u e=>?_,tq.upd,_,z8.ext sc Bz ti rfl,fun z=>?_,by rw[cU];omega,?_⟩
   .rw [aD nb];exact sc _ _ (eo _ _ (bp _ _ nb e))
   .rw [aD (dF e yA)];exact sc _ _ (eo _ _ (bb _ _ e))
   .obtain ⟨iy,arf⟩:=fin z;rw[cU,<- iy,<- arf];omega
   .exact ⟨_,rfl⟩
  .rintro σ I a9;ac_rfl
   obtain⟨bp,bb,dX,qs,cL,di,pD,g',hr,rfl⟩:=a9;subst aS;refine b1 _ _ ⟨bb,dX,qs,cL,di,pD,g' rfl,(),rfl⟩
 rintro jT cb ⟨s4,cR,j6,cL,di,ij,qX,iF,rfl⟩;have wd:=s2.trans s4;subst aS;exists (fun av I=>I=cb/\av=[~~~aG,some (.str name),~~~cl,some (.int hm),~~~sp,~~~hQ,cL,di,some (.int ((↑j6:Int)-cg bT bc)),none]),3
 .nofun;refine⟨_,.inl (ay.of ij.at_),_,ay.of (wd _ _ g7),_,cI (j:=0) (ii h0),_,ay.of (wd _ _ g7),_,cI (j:=1) (ii af),aG,c,n,ds,rows,bT,bc,_,_,rfl,c8.same wd,bj ye,bj gq,DA,cR,fun v aK=>⟨_,rfl,?_⟩⟩;have ev:=KO aK (gL.is bT bc _ _ (bj ye) (bj gq) DA);rw[ev,aT];exact b1 _ _ ⟨rfl,rfl⟩
 rintro nL bP ⟨rfl,rfl⟩;subst aS;exists (fun av I=>I=bP/\∃b,bP b\(.lst ((fp ↑rows).map fun i=>V.int (e9 ds rows hm i)))/\av=[~~~aG,some (.str name),~~~cl,some (.int hm),~~~sp,~~~hQ,cL,di,some (.int ((↑j6:Int)-cg bT bc)),~~~b]),3
 .nofun;exact⟨aG,c,n,ds,rows,hm,rfl,c8.same wd,YH,fun b e=>b1 _ _ ⟨rfl,b,e,rfl⟩⟩
 rintro mP eX ⟨rfl,b,bD,rfl⟩;subst aS;exists (fun av I=>aM H1 I/\aF I/\∃qs cL di,iE H1 I hQ qs/\↑j6<=↑qs/\↑qs<=100000/\av=[~~~aG,some (.str name),~~~cl,some (.int hm),~~~sp,~~~hQ,cL,di,some (.int ((↑j6:Int)-cg bT bc)),~~~b]),3
 .nofun;refine⟨_,ay.of (wd _ _ g7),fun p aq=>⟨_,ay.of (a_ aq _ _ (wd _ _ g7)),fun dy mB=>?_⟩⟩;rw[Nz,ang,show(bN ch).drop 1=bN (ch.drop 1)by unfold bN;rw[A'],show(bN ch).drop 2=bN (ch.drop 2)by unfold bN;rw[A']]at *;have cA:p≠dy:=fun z=>by rw[<- z,db]at mB;cases mB
  have s5:=(a_ (o:=.lst (bN (ch.drop 1))) aq).trans (a_ (o:=.lst (bN (ch.drop 2))) mB);have cJ:upd (upd eX p (.lst (bN (ch.drop 1)))) dy (.lst (bN (ch.drop 2))) p\(.lst (bN (ch.drop 1))):=by rw[aD cA];exact db
  have Iy:upd (upd eX p (.lst (bN (ch.drop 1)))) dy (.lst (bN (ch.drop 2))) dy\(.lst (bN (ch.drop 2))):=db;have pr:p≠hQ:=fun z=>by rw[z,ij.at_]at aq;cases aq
  have af9:dy≠hQ:=fun z=>by rw[z,aD (dm pr),ij.at_]at mB;cases mB
  have dK:aF (upd (upd eX p (.lst (bN (ch.drop 1)))) dy (.lst (bN (ch.drop 2)))):=(cR.upd).upd;generalize upd (upd eX p (.lst (bN (ch.drop 1)))) dy (.lst (bN (ch.drop 2)))=eL at s5 cJ Iy dK⊢;refine⟨⟨_,ay.of cJ⟩,⟨_,ay.of Iy⟩,?_⟩;refine d1.zip (xs:=bN (ch.drop 1)) (ys:=bN (ch.drop 2)) (fun k σ I=>(∀b u,b≠hQ->eL b\u->I b\u)/\aM H1 I/\aF I/\∃qs cL di,iE H1 I hQ qs/\↑j6<=↑qs/\↑qs<=6000+k*2000/\σ=[~~~aG,some (.str name),~~~cl,some (.int hm),~~~sp,~~~hQ,cL,di,some (.int ((↑j6:Int)-cg bT bc)),~~~b]) ?_ ?_ (↑ch-2) (by rw[h1,h1,k4,k4];omega) ?_ ?_
  .exact ⟨fun b u _ e=>e,wd.trans s5,dK,j6,_,_,ij.same s5,bR _,(),rfl⟩
  .rintro k σ I aB ⟨bp,bb,_⟩;exact⟨ay.of (bp _ _ pr cJ),ay.of (bp _ _ af9 Iy)⟩
  .rintro k x y σ I r ag aQ ⟨bp,bb,dX,qs,cL,di,pD,g',hr,rfl⟩ el;unfold bN at ag aQ;obtain⟨a,aV,rfl⟩:=b' ag;obtain⟨hr,ep,rfl⟩:=b' aQ;rw[AS]at aV ep;have yW:=co.ne (1+k) a hr aV (by rw[show 1+k+1=2+k by omega];exact ep);have al:=co.lt a (cm aV);have bG:=co.lt hr (cm ep);have eo:aM I (upd I r (.tup [.int (a:Nat),.int (hr:Nat)])):=a_ el;have lo:=fB a al;have r1:=gL.lo a hr al bG yW;have ti:=bb.trans eo;have lG:2+k<↑ch:=(b5.mp ep).1;have arK:upd I r (.tup [.int (a:Nat),.int (hr:Nat)]) b\(.lst ((fp ↑rows).map fun i=>V.int (e9 ds rows hm i))):=eo _ _ (bp _ _ (fun z=>by
    rw[z,ij.at_]at bD;have Ld:j6.map V.ref=(fp ↑rows).map fun i=>V.int (e9 ds rows hm i):=eH.lst.inj (er bD)
    obtain⟨iH,kp,eq⟩:∃iH kp,j6=iH::kp:=by
     cases j6 with
     |nil=>exact absurd qX (show ¬(1+cg bT bc<=((0:Nat):Int))by omega)
     |cons iH kp=>exact⟨iH,kp,rfl⟩
    have fb:=congrArg (fun l=>l[0]?) Ld;rw[eq,dv,dv,BD (show 0<↑rows by omega)]at fb;cases fb) (s5 _ _ bD))
   refine uw ?_;simp only[hF,hD];nofun;refine⟨.inl ⟨_,ay.of (eo _ _ pD.at_)⟩,_,ay.of arK,_,cI (by rw[dv,BD al];rfl),aG,c,n,ds,rows,cg,a,hr,_,rfl,c8.same ti,R,gL,al,bG,yW,(),dX.upd,fun fL pP aja sc tq Bz lc=>?_⟩;have z8:=pD.same eo;refine⟨fL,rfl,_,sc _ _ z8.at_,_,Bz.at_,cZ (show _<=200000 by rw[aT,aT];omega) ∅,fun b u nb e=>?_,fun b u e=>?_,tq.upd,_,z8.ext sc Bz ti rfl,by rw[cU];omega,by rw[cU];omega,?_⟩
   .rw [aD nb];exact sc _ _ (eo _ _ (bp _ _ nb e))
   .rw [aD (dF e (s2.free yA))];exact sc _ _ (ti _ _ e)
   .exact ⟨_,rfl⟩
  .rintro σ I a9;ac_rfl
   obtain⟨bp,bb,dX,qs,cL,di,pD,g',hr,rfl⟩:=a9;subst aS;exact b1 _ _ ⟨bb,dX,qs,cL,di,pD,g',(),rfl⟩
 rintro kR eL ⟨h5,gr,og,m_,nJ,kJ,tX,ym,rfl⟩;subst aS;exists (fun av I=>aM H1 I/\aF I/\∃qs,iE H1 I hQ qs/\↑j6<↑qs/\av=[~~~aG,some (.str name),~~~cl,some (.int hm),~~~sp,~~~hQ,m_,nJ,some (.int ((↑j6:Int)-cg bT bc)),~~~b]),3
 .nofun;refine⟨.inl ⟨_,ay.of kJ.at_⟩,eO _,fun p aq=>⟨_,a_ aq _ _ kJ.at_,gv (show _<=100000 by rw[aT];omega) ∅,b1 _ _ ⟨fun b u e=>?_,(gr.upd).upd,og++[p],iE.put (fun dB kx=>?_) (by rw[ee];rfl),by rw[cU];show _<↑og+1;omega,rfl⟩⟩⟩
  .rw [aD (dF e (s2.free yA))];exact a_ aq _ _ (h5 _ _ e)
  .rcases eQ.mp kx with z|z
   .obtain ⟨a,b,zs,e,l⟩:=kJ.al dB z;exact⟨a,b,zs,a_ aq _ _ e,l⟩
   .rw [eB.mp z];exact⟨h5.free aq,fun w=>(by rw[w,kJ.at_]at aq;cases aq),_,db,∅⟩
 rintro vt h6 ⟨gS,mx,x4,ng,sV,rfl⟩;subst aS;exists (fun av I=>aM H1 I/\aF I/\av=[~~~aG,some (.str name),~~~cl,some (.int hm),~~~sp,~~~hQ,m_,nJ,some (.int ((↑j6:Int)-cg bT bc)),~~~b]),3
 .nofun;obtain⟨yr,S6⟩:∃yr:Nat,(↑j6:Int)-cg bT bc=(yr:Int):=⟨((↑j6:Int)-cg bT bc).toNat,()⟩;have aaH:yr<↑x4:=()
  have anv:x4[yr]?\x4[yr]:=bj aaH;obtain⟨tW,_,ys,R',w8⟩:=ng.al _ (ic aaH);rw[S6];refine⟨_,ay.of ng.at_,V.ref x4[yr],cI (by rw[dv,anv];rfl),lY ⟨_,ay.of R'⟩,_,rfl,_,R',gv w8 ∅,?_⟩;rw[<- S6];refine b1 _ _ ⟨fun b u e=>?_,mx.upd,rfl⟩;rw[aD (dF e tW)];exact gS _ _ e
 rintro asJ auu ⟨ago,yY,rfl⟩;subst aS;nofun;exact⟨∅,fun r ao=>q r hQ _ _ (ago.trans (a_ ao)) yY.upd db⟩
theorem JK(k:S.Ok):∀{ext:List Nat} {p:Nat} {sp:Int},jw S p sp ext->-1<=sp->(S.own p=true->sp=S.e5 p)->↑ext<=n4 S p sp/\(∀x∈ext,x<S.m)/\(∀(i a b:Nat),(p::ext)[i]?\a->(p::ext)[i+1]?\b->a≠b)/\(p::ext).getLast?\S.h
 |[],p,sp,h,_,_=>(eO _,(λx h=>by simp at h),(λi a b af ak=>by simp at ak),by rw[show p=S.h from h];rfl)
 | x::r,p,sp,h,az,aU=>by
  obtain⟨af,ag,⟨a1,a2,eu⟩|⟨a1,a2,eu⟩⟩:=h
  .obtain⟨gq,gj,jf,iF⟩:=JK k eu (by have:=(qK k x).1;omega) (fun _=>rfl);have hw:=aas k (p:=p) a2;refine⟨by rw[gW];omega,fun y aQ=>(d6.mp aQ).elim (fun e=>by rw[e];exact ag) (gj y),fun i a b aV aa=>?_,by rw[PY];exact iF⟩;cases i with
   |zero=>
    cases aV;cases aa;intro e;subst e;rw[aU a1]at a2;omega
   |succ i=>exact jf i a b aV aa
  .obtain⟨gq,gj,jf,iF⟩:=JK k eu az (fun z=>by rw[a2]at z;cases z);have hw:=Z_ (sp:=sp) a1 a2;refine⟨by rw[gW];omega,fun y aQ=>(d6.mp aQ).elim (fun e=>by rw[e];exact ag) (gj y),fun i a b aV aa=>?_,by rw[PY];exact iF⟩;cases i with
   |zero=>
    cases aV;cases aa;intro e;subst e;rw[a1]at a2;cases a2
   |succ i=>exact jf i a b aV aa
def W8(k:S.Ok)(f s:Nat):-1<=jN S f s:=by
 unfold jN;have:=(qK k s).1;have:=(qK k f).1;split
 .omega
 .split <;> omega
def alA(k:S.Ok){p:Nat}(h:-1<=sp):n4 S p sp<=15:=by
 have:=k.tZ;unfold n4;split <;> omega
theorem Yx(k:S.Ok)(h:yF S cy)(aQ:ys∈cy):Dk S.m ys/\ys.getLast?\S.h:=by
 let(f,s,ext,rfl,af,ak,a8,bZ):=(h ys).mp aQ;let(gq,gj,jf,iF):=JK k bZ (W8 k f s) (λz=>by unfold jN;rw[if_pos z]);have:=alA k (p:=s) (W8 k f s);refine((by simp,by rw[gW,gW];omega,λx ag=>?_,λi a b aV aa=>?_),by rw[PY];exact iF)
 .rcases d6.mp ag with e|e
  .rw [e];exact af
  .rcases d6.mp e with e|e
   .rw [e];exact ak
   .exact gj x e
 .cases i with
  |zero=>cases aV;cases aa;exact a8
  |succ i=>exact jf i a b aV aa
def xL(k:S.Ok)(h:yF S cy)(ak:S.m≠1):cy≠[]:=λz=>by
 have hm:=k.hm;have:[if S.h=0 then 1 else 0,S.h]∈cy:=(h _).mpr (_,S.h,[],rfl,by split <;> omega,hm,by split <;> omega,rfl);rw[z]at this;cases this
def SS(S:fZ)(cg:Nat->Nat->Int)(st:Nat->Int)(z:Int):Prop:=(S.m=1/\z=0)\/(S.m≠1/\∃cy ch,yF S cy/\ch∈cy/\z=xz cg st ch/\∀ys∈cy,xz cg st ys<=z)
noncomputable def Tv:Expr:=match tr (top 76)with
 |[_,_,_,.Assign _ (.Call _ _ [⟨_,e,_⟩] _) _,_,_]=>e
 |_=>.Constant .none 0 (0,0,0,0)
noncomputable abbrev akx:Str:=ab "worst"++ab ".<locals>."++ab "<lambda>"
def ac7:xI "each" "stages" "home" (Tg Tv):=(rfl,rfl,rfl,∅,rfl,rfl,rfl,∅,∅)
abbrev NL(bL:Addr)(H:aw):Prop:=Tab H bL (Wv Tv) akx
section
variable(P:Program)(w:World)
def Y7(t:bQ)(bL:Addr):bV:=λvs H Q _=>∃aG c n ds rows cg,∃h i:Nat,∃d,vs=[⇑aG,.str d.name]/\fC P w t H aG c n ds rows/\jm ds rows/\se n ds rows cg/\ds[i]?\d/\df (hp (rows.map (·.mem))) (bO d.name)\(.int (h:Nat))/\h<↑rows/\NL bL H/\aF H /\
 ∀r z a b I,lH bL H I->aF I->I r\(.tup [.int z,a,b])->SS (en ds rows h) cg (e9 ds rows h) z->Q ⇑r I
end
def abL(dd:mD base t.AG bL)(g4:base.BuiltinsAt mg bL):cu P base T 20 t.GZ t.yN Dv (Y7 P w t bL):=by
 have KC:=T.abe;have i7:cT P w K mg base dt 19 t.x3 t.Bk js (IV t):=(qz T).mono ∅;have anH:cT P w K mg base dt 19 t.EI t.zn k9 (YI P w t):=aq' T;have ajo:cT P w K mg base dt 19 t.Cl t.FX Fq (WX P w t):=(afT T).mono ∅;have anC:cT P w K mg base dt 19 t.zB t.zj y2 (Ic P w t):=(TV T).mono ∅;have ar3:cT P w K mg base dt 17 t.zB t.zj y2 (Ic P w t):=(TV T).mono ∅;refine T.Nr.US yZ (λvs H Q E h=>?_) (λf5 kq A outer s H vs Q E ao h=>?_)
 .let(aG,c,n,ds,rows,cg,h,i,d,rfl,_):=h;rfl
 let(aG,c,n,ds,rows,cg,h,i,d,rfl,c8,R,gL,hd,aK,ct,bS,bz,q):=h;have bJ:=h9 ao;refine(_,(aP (d3 (e8 (br (U 0) rfl) T.ac T.nE i7 ao T.nO .nil cY (ah (U 1) aA)))
   (aP (d7 (de fg (br (U 0) rfl) aR (cO _)) (aY (cp (oA (ah aR (ah (eJ (ah (eJ (ah (U 1) aA)) aA)) (ah aR aA)))))) eA)
   (aP (pG (i:=2) yZ.aH rfl (nC rfl) (l7 bJ (br (U 0) rfl) (U 1) (λ_ _=>rfl)))
   (aP (b8 (i:=3) yZ.aH (asi (pr:="each") (y:="stages") (z:="home") (i1:=0) (i2:=2) rfl rfl T.E6 (ah (ck anH ao T.acD T.Mx.bp T.aiM (ah (U 0) (ah (U 2) aA))) aA) (kq.symm.trans KC,dd,g4) ao ac7 rfl rfl rfl rfl rfl rfl rfl rfl (λ_ _ _ _=>rfl) (λ_ _ _ _=>(_,(aaB ar3 (bn.deeper ao.in1 _) rfl T.Yq T.Ea.bp T.Qf .nil cY (ah (U 1) (ah (U 2) (ah (U 0) aA)))),by first|rfl|(dsimp only[qA];done)|(dsimp only[qA];exact rfl)))))
   (aP (GB (ck ajo ao T.agf T.Mo.bp T.aoe (ah (U 0) (ah (U 1) (ah (U 3) aA)))) (la (K:=K) (n:=2) rfl rfl (eT (b_ (i:=4) yZ.aH) (eT (b_ (i:=5) yZ.aH) lj))))
   (aY (cp (oA (ah (ck anC ao T.Yq T.Ea.bp T.Qf (ah (U 0) (ah (U 2) (ah (U 3) aA)))) (ah (U 4) (ah (U 5) aA))))))))))),?_)
 let(iL,le,mo,cW,cH,aU,ael,ms,kvs,au,C,bI,ec,gm,ez,g5,j1,jn):=id c8;let(_,w2,au6,avg,x',auM,asY):=id C;have je:=R.je;have k:=R.ok ct;have hm:(en ds rows h).m=↑rows:=rfl;simp only[dx];exists (λav I=>I=H/\av=[~~~aG,some (.str d.name),none,none,none,none]),0
 .nofun;exact(_,Bv T au,_,rfl,_,_,x',jv _ _ _ ∅,c,n,ds,i,d,rfl,C,hd,λa _=>b1 _ _ (rfl,rfl))
 intro fo H1 (rfl,rfl);subst aS;simp only[dx];by_cases bc:↑rows=1
 .refine dC true (λQ aX=>?_) (λ_=>?_) (λz=>nomatch z)
  .nofun;refine(_,rm T au,rfl,?_);rw[bc];exact aX
  .nofun;exact(∅,λp aq=>(∅,λdy mB=>(∅,λdu gF=>q du 0 _ _ _ (aM.p ((a_ aq).trans ((a_ mB).trans (a_ gF)))) bz.upd.upd.upd db (.inl (bc,rfl)))))
 refine dC false (λQ aX=>?_) (λz=>nomatch z) (λ_=>?_)
 .nofun;refine(_,rm T au,rfl,?_);rw[decide_eq_false (λz=>bc (by injection z with z;omega))];exact aX
 simp only[hI,dx];exists (λav I=>I=H1/\av=[~~~aG,some (.str d.name),some (.int h),none,none,none]),0
 .have a7:=gw.k (k:=bO d.name) g5;rw[aK]at a7;nofun;exact(_,A5 T au,_,rfl,_,a7,b1 _ _ (rfl,rfl))
 intro cv ar (rfl,rfl);subst aS;simp only[dx];exists (λav I=>lH bL ar I/\aF I/\∃cl ch cy,I cl\(.lst (bN ch))/\yF (en ds rows h) cy/\ch∈cy/\(∀ys∈cy,xz cg (e9 ds rows h) ys<=xz cg (e9 ds rows h) ch)/\av=[~~~aG,some (.str d.name),some (.int h),~~~cl,none,none]),0
 ·(nofun; repeat (dsimp only[Tu];nofun));refine(aG,c,n,ds,rows,h,rfl,c8,R,ct,bz,λr qs cy I aj dX L rp=>?_);have aeL:=xL k rp bc;have at_:∀{i:Nat} {dB:Addr},qs[i]?\dB->∃xs,cy[i]?\xs/\xs∈cy/\I dB\(.lst (bN xs))/\cy.getD i []=xs:=λ{i dB} aL=>by
   have ai:i<↑cy:=by rw[<- L.ln];exact(b5.mp aL).1
   have ag:cy[i]?\cy[i]:=bj ai;exact(_,ag,cm ag,L.al i dB _ aL ag,by rw[ku,ag];rfl)
  refine(r,rfl,qs.map V.ref,ay.of L.at_,λz=>aeL (List.eq_nil_of_length_eq_zero (by rw[<- L.ln];exact List.length_eq_zero_iff.mpr (ZF.mp z))),bS.step aj,λi=>xz cg (e9 ds rows h) (cy.getD i []),λa' sp yy MO=>?_);have o1:ip I a':=Dw (bS.step aj) sp;have aoN:lH bL ar a':=(aM.p aj).trans sp;have aba:ip ar a':=(afi aj).trans o1;refine(λi x ag=>?_,λi m n9 art=>?_)
  .let(dB,aL,rfl):=b' ag;let(xs,af,ak,a8,bZ):=at_ aL;exact(aG,c,n,ds,rows,cg,dB,xs,h,rfl,c8.oY aba,R,gL,ct,o1.lst a8,(Yx k rp ak).1,yy dX,(by show V.int _=V.int (xz cg (e9 ds rows h) (cy.getD i []));rw[bZ]),rfl)
  .obtain⟨dB,aL,rfl⟩:=b' n9;obtain⟨xs,af,ak,a8,bZ⟩:=at_ aL;refine b1 _ _ ⟨aoN,yy dX,dB,xs,cy,o1.lst a8,rp,ak,fun ys aQ=>?_,rfl⟩;obtain⟨j,aI⟩:=g8 aQ;have hi:j<↑qs:=by rw[L.ln];exact(b5.mp aI).1
   have:=art j (⇑qs[j]) (by rw[dv,bj hi];rfl);have this:xz cg (e9 ds rows h) (cy.getD j [])<=xz cg (e9 ds rows h) (cy.getD i []):=this;rw[bZ,ku,aI]at this;exact this
 intro fJ a' (s3,dc,cl,ch,cy,Wu,rp,hK,tE,rfl);let(co,_):=Yx k rp hK;have UU:=c8.oY (Dw bS s3);subst aS;simp only[dx];exists (λav I=>aM a' I/\aF I/\∃a b,av=[~~~aG,some (.str d.name),some (.int h),~~~cl,some a,some b]),0
 .nofun;exact(aG,c,n,ds,rows,cg,d.name,cl,ch,rfl,UU,R,gL,Wu,co,dc,λr a b I aj dX bF=>(r,rfl,_,d4.of bF,rfl,_,_,rfl,_,_,rfl,rfl,b1 _ _ (aj,dX,_,_,rfl)))
 intro jT cb (s4,cR,a,b,rfl);subst aS;nofun;refine(aG,c,n,ds,rows,cg,cl,ch,h,rfl,UU.same s4,R,gL,ct,s4 _ _ Wu,co,cR,∅,λr ao=>q r _ a b _ (s3.trans (aM.p (s4.trans (a_ ao)))) cR.upd db (.inr (bc,cy,ch,rp,hK,rfl,tE)))
noncomputable def gg(ds:List bf)(rows:List ST)(s:fx)(j:Nat):Int:=if cE ds rows j=dw then s.pt else s.po
theorem Qu{rows:List ST}(R:oU ds rows)(c9:∀x∈s.wt,told rows x=true)(ai:i<↑rows)(aI:j∈lN rows s)(ub:-1<=gg ds rows s j)(zR:gg ds rows s j<↑rows)(P:CT ds rows s i g)(a7:g≠j) :
  (cE ds rows g=cE ds rows j->o7 (gg ds rows s j) ↑rows g<o7 (gg ds rows s j) ↑rows j)/\(cE ds rows g≠cE ds rows j->cE ds rows i=cE ds rows j):=by
 have cH:∀{k:Nat},k<↑rows->cE ds rows k=dw\/cE ds rows k=iT:=λ{k} aB=>by
  unfold cE;rw[bj aB];exact R.cH _ (ic aB)
 have hi:=Ep c9 j aI;let(ro,ad_):=P;have g_:=Gx (ds:=ds) (i:=i) c9 g ro;have EX:∀{k:Nat},k∈nq ds rows s i->cE ds rows k≠cE ds rows i:=λ{k} aB=>by
  have:=(i0.mp aB).2;simpa using this
 have w4:dw≠iT:=∅
 have UG:∀{a b c:Nat},a<↑rows->b<↑rows->c<↑rows->cE ds rows a≠cE ds rows c->cE ds rows b≠cE ds rows c->cE ds rows a=cE ds rows b:=λ{a b c} aV aa aC af ak=>by
  rcases cH aV with au|au <;> rcases cH aa with aE|aE <;> rcases cH aC with bI|bI <;> simp_all
 refine(λaz=>?_,λaz=>?_)
 .have ue:j∈iv ds rows s i:=by
   unfold iv at ro⊢;by_cases c:(nq ds rows s i).isEmpty=true
   .rw [if_pos c];exact aI
   .rw [if_neg c]at ro⊢;exact i0.mpr (aI,by have:=EX ro;rw[az]at this;simpa using this)
  have pE:∀k∈iv ds rows s i,cE ds rows k=cE ds rows j:=λk aB=>by
   have lG:=Gx (ds:=ds) (i:=i) c9 k aB;unfold iv at aB ue;by_cases c:(nq ds rows s i).isEmpty=true
   .rw[if_pos c]at aB ue;have apX:nq ds rows s i=[]:=UR.mp c;have Ug:∀q∈lN rows s,cE ds rows q=cE ds rows i:=λq aL=>by
     by_cases z:cE ds rows q=cE ds rows i
     .exact z
     .have:q∈nq ds rows s i:=i0.mpr (aL,by simpa using z);rw[apX]at this;cases this
    rw[Ug k aB,Ug j ue]
   .rw [if_neg c]at aB ue;exact UG lG hi ai (EX aB) (EX ue)
  have uN:bv ds rows s (iv ds rows s i)=gg ds rows s j:=by
   unfold bv gg;cases aC:iv ds rows s i with
   |nil=>rw[aC]at ue;cases ue
   |cons q r=>rw[show(q::r).headD 0=q from rfl,pE q (by rw[aC];exact .head _)]
  have hle:=ad_ j ue;rw[uN]at hle;rcases Int.lt_or_eq_of_le hle with h|h
  .exact h
  .exact absurd (ao8 ub zR g_ hi h) a7
 .by_cases z:cE ds rows i=cE ds rows j
  .exact z
  .have Wc:j∈nq ds rows s i:=i0.mpr (aI,by simpa using λe=>z e.symm);have cA:¬(nq ds rows s i).isEmpty=true:=λe=>by rw[UR.mp e]at Wc;cases Wc
   unfold iv at ro;rw[if_neg cA]at ro;exact absurd (UG g_ hi ai (EX ro) (λe=>z e.symm)) az
def CM(S:fZ)(ys:List Nat):Prop:=∃f s ext,ys=f::s::ext/\f<S.m/\s<S.m/\f≠s/\jw S s (jN S f s) ext
noncomputable def qF(S:fZ)(last:Int):Int:=if 0<=last/\last≠S.h then S.e5 last.toNat else -1
def YQ(k:S.Ok)(last:Int):-1<=qF S last:=by
 unfold qF;have:=(qK k last.toNat).1;split <;> omega
def WQ(k:S.Ok){last:Int}(h:last<S.m):qF S last<(S.m:Int)-1:=by
 have hm:=k.hm;unfold qF;split
 .rename_i c;have af:=(qK k last.toNat).2;have ak:=Jm k;have a8:S.e5 last.toNat≠(S.m:Int)-1:=λe=>by
   have:=anc k (show last.toNat<S.m by omega) hm (by rw[e,ak]);omega
  omega
 .omega
def P6{m a b:Int}(aV:0<=a)(Yi:a<m)(aa:0<=b)(kY:b<m):(a-b-1)%m=if b<a then a-b-1 else a-b-1+m:=by
 split
 .exact oB () ()
 .rw [show a-b-1=(a-b-1+m)+m*(-1)by omega,DV,oB () ()];omega
structure pf(n:Int)(ds:List bf)(rows:List ST)(s:fx):Prop where
 t0:-1<=s.pt/\s.pt<↑rows
 o0:-1<=s.po/\s.po<↑rows
 b4:∀i,s.b4\i->gg ds rows s i=i/\1<=s.bt
 ch:s.b4=none->gg ds rows s s.bA=s.bA/\(cE ds rows s.lf≠cE ds rows s.bA->gg ds rows s s.lf=s.lf)/\0<=s.cS/\s.cS<hv n ds rows s.lf s.bA
def pf.last{rows:List ST}(h:pf n ds rows s)(j:Nat):-1<=gg ds rows s j/\gg ds rows s j<↑rows:=by
 unfold gg;split
 .exact h.t0
 .exact h.o0
def ZJ{rows:List ST}(W:jm ds rows)(a7:rows[g]?\mf)(aI:j<↑rows):gg ds rows (so s i g (dj ds mf)) j=if cE ds rows j=cE ds rows g then(g:Int)else gg ds rows s j:=by
 have g_:=(b5.mp a7).1;have e:cE ds rows g=dj ds mf:=by unfold cE;rw[a7];rfl
 have w4:dw≠iT:=∅
 unfold gg so;show(if cE ds rows j=dw then(if dj ds mf=dw then(g:Int)else s.pt)else(if dj ds mf=dw then s.po else(g:Int)))=_;rw[<- e];rcases W.two g_ with a|a <;> rcases W.two aI with b|b <;> rw[a,b] <;> simp[w4,w4.symm]
def Xb{n:Int}{ds:List bf}{rows:List ST}{s:fx}{m:List Str}(az:s.b4=none)(t0:-1<=s.pt/\s.pt<↑rows)(o0:-1<=s.po/\s.po<↑rows)(af:gg ds rows s s.bA=s.bA)(ak:cE ds rows s.lf≠cE ds rows s.bA->gg ds rows s s.lf=s.lf)(a8:0<=s.cS):pf n ds rows (oX n ds rows s m):=by
 unfold oX;split
 .rename_i c;exact(t0,o0,λi h=>(by rw[az]at h;cases h),λ_=>(af,ak,a8,c))
 .exact (t0,o0,λi h=>(by cases h;exact(af,lP 1)),λh=>by cases h)
def ah5{n:Int}{ds:List bf}{rows:List ST}{s aj:fx}{own:Bool}(W:jm ds rows)(R:oU ds rows)(k:jH ds rows s)(L:pf n ds rows s)(h:tT n ds rows s own aj):pf n ds rows aj:=by
 rcases h with⟨az,r,ao,rfl⟩|⟨i,r,az,ao,fB,rfl⟩|⟨i,r,g,mf,az,ao,fB,P,a7,rfl⟩
 .let(a,b,c,d):=L.ch az;exact Xb (s:={s with cS:=s.cS+1}) az L.t0 L.o0 a b (show 0<=s.cS+1 by omega)
 .exact (L.t0,L.o0,λi h=>((L.b4 i h).1,by have:=(L.b4 i h).2;show 1<=s.bt+1;omega),λh=>by have h:s.b4=none:=h;rw[az]at h;cases h)
 .have ai:=(k.b4 i az).1;have g_:=(b5.mp a7).1;have cx:∀{j:Nat},j<↑rows->_:=λ{j} aI=>ZJ (s:=s) (i:=i) (j:=j) W a7 aI
  refine Xb (s:=so s i g (dj ds mf)) rfl ?_ ?_ (by show gg _ _ (so s i g (dj ds mf)) g=(g:Int);rw[cx g_,if_pos rfl]) (λct=>?_) (lP 0)
  .show -1<=(if dj ds mf=dw then(g:Int)else s.pt)/\(if dj ds mf=dw then(g:Int)else s.pt)<↑rows;split
   .omega
   .exact L.t0
  .show -1<=(if dj ds mf=dw then s.po else(g:Int))/\(if dj ds mf=dw then s.po else(g:Int))<↑rows;split
   .exact L.o0
   .omega
  .show gg _ _ (so s i g (dj ds mf)) i=(i:Int);have ct:cE ds rows i≠cE ds rows g:=ct;rw[cx ai,if_neg ct,(L.b4 i az).1]
theorem Zt(cg:Nat->Nat->Int)(p g:Nat):∀ys:List Nat,(kM cg (ys++[p,g])).sum=(kM cg (ys++[p])).sum+cg p g
 |[]=>by simp[kM]
 |[y]=>by simp[kM]
 |y::z::ys=>by
  have c4:=Zt cg p g (z::ys);show(cg y z::kM cg (z::(ys++[p,g]))).sum=(cg y z::kM cg (z::(ys++[p]))).sum+_;rw[Ax,Ax];have c4:(kM cg (z::(ys++[p,g]))).sum=(kM cg (z::(ys++[p]))).sum+cg p g:=c4;omega
theorem WA{st:Nat->Int}{pre:List Nat}{p g:Nat}(h:pre.getLast?\p)(ak:2<=↑pre):xz cg st (pre++[g])=xz cg st pre+cg p g+st p:=by
 let(ys,rfl):=List.getLast?_eq_some_iff.mp h;rw[cU,mq]at ak;let(f,zs,rfl):∃f zs,ys=f::zs:=by
  cases ys with
  |nil=>simp at ak
  |cons f zs=>exact(f,zs,rfl)
 have au:mO (f::zs++[p])=zs:=by
  unfold mO;show(zs++[p]).take (↑(f::(zs++[p]))-2)=zs;rw[gW,cU,mq,show ↑zs+1+1-2=↑zs by omega];exact apJ
 have aE:mO (f::zs++[p]++[g])=zs++[p]:=by
  unfold mO;show(zs++[p]++[g]).take (↑(f::(zs++[p]++[g]))-2)=zs++[p];rw[gW,cU,mq,show ↑(zs++[p])+1+1-2=↑(zs++[p])by omega];exact apJ
 unfold xz;rw[au,aE,mZ,show [p]++[g]=[p,g]from rfl,Zt,ee,aqV];simp only[es,qE,Ax,ahL];omega
def DM{rows:List ST}(R:jm ds rows){h x:Nat}(ag:x<↑rows):1<=e9 ds rows h x:=by
 have:=R.lo _ (ic ag);unfold e9;rw[bj ag];simp only[];split <;> omega
structure rF(n:Int)(ds:List bf)(rows:List ST)(h:Nat)(s:fx)(pre:List Nat)(p:Nat)(sp e:Int):Prop where
 ok:∀ext,jw (en ds rows h) p sp ext->CM (en ds rows h) (pre++ext)
 bt:pre.getLast?\p
 cQ:2<=↑pre
 pm:p<↑rows
 ve:p≠h->sp<=qF (en ds rows h) (gg ds rows s h)
 b4:∀i,s.b4\i->i=p/\p≠h/\e+1<=xz (hv n ds rows) (e9 ds rows h) pre+e9 ds rows h p/\e+1<=xz (hv n ds rows) (e9 ds rows h) pre+s.bt
 ch:s.b4=none->s.bA=p/\e+(hv n ds rows s.lf s.bA-s.cS)<=xz (hv n ds rows) (e9 ds rows h) pre
section
variable{n:Int}{ds:List bf}{rows:List ST}{h:Nat}
def rF.keep{pre:List Nat}{p:Nat}{sp e:Int}(W:rF n ds rows h s pre p sp e)(af:aj.b4=s.b4)(ak:aj.bt=s.bt)(a8:aj.lf=s.lf)(bZ:aj.bA=s.bA)(dS:aj.cS=s.cS)(iU:aj.pt=s.pt)(xZ:aj.po=s.po):rF n ds rows h aj pre p sp e:=by
 have akO:gg ds rows aj h=gg ds rows s h:=by unfold gg;rw[iU,xZ]
 exact(W.ok,W.bt,W.cQ,W.pm,by rw[akO];exact W.ve,by rw[af,ak];exact W.b4,by rw[af,a8,bZ,dS];exact W.ch)
def Mq(f p:Nat)(cg:Nat->Nat->Int)(st:Nat->Int):xz cg st [f,p]=cg f p:=by simp[xz,kM,mO]
def KW(e:cE ds rows i=cE ds rows j):gg ds rows s i=gg ds rows s j:=by unfold gg;rw[e]
def DZ(ai:i≠h):qF (en ds rows h) (i:Int)=(en ds rows h).e5 i:=by
 have e:(en ds rows h).h=h:=rfl;unfold qF;rw[if_pos ((),by rw[e];omega),mG]
theorem ar6(W:jm ds rows)(gL:se n ds rows (hv n ds rows))(ct:h<↑rows)(k:jH ds rows s)(L:pf n ds rows s)(a5:s.b4≠some h):∃pre p sp,rF n ds rows h s pre p sp 0:=by
 have qP:=W.ok ct;have aW:∀{j:Nat},j<↑rows->((en ds rows h).own j=true↔cE ds rows j=cE ds rows h):=λ{j} aI=>by rw[CA W ct aI];simp
 cases az:s.b4 with
 | some i=>
  have Gd:i≠h:=λz=>a5 (by rw[az,z])
  have ai:=(k.b4 i az).1;let(cx,cQ):=L.b4 i az;have bT:=(gL.lo h i ct ai (dm Gd)).1;have sp:=DM (h:=h) W ai;refine([h,i],i,jN (en ds rows h) h i,λext aU=>(h,i,ext,rfl,ct,ai,dm Gd,aU),rfl,by simp,ai,λ_=>?_,λj aI=>?_,λz=>by rw[az]at z;cases z)
  .unfold jN;split
   .rename_i c;rw[KW ((aW ai).mp c).symm,cx,DZ Gd];exact lP _
   .rw [if_neg (λz=>z.2 rfl)];exact YQ qP _
  .rw [az]at aI;cases aI;rw[Mq];exact(rfl,Gd,(),())
 | none=>
  let(a,b,c):=k.ch az;let(cx,cQ,FE,oS):=L.ch az;refine([s.lf,s.bA],s.bA,jN (en ds rows h) s.lf s.bA,λext aU=>(s.lf,s.bA,ext,rfl,a,b,c,aU),rfl,by simp,b,λa7=>?_,λj aI=>(by rw[az]at aI;cases aI),λ_=>(rfl,by rw[Mq];omega));unfold jN;split
  .rename_i z;rw[KW ((aW b).mp z).symm,cx,DZ a7];exact lP _
  .rename_i z;split
   .rename_i y;have iY:s.lf≠h:=y.2;have au:=(aW a).mp y.1;have:cE ds rows s.lf≠cE ds rows s.bA:=λq=>z ((aW b).mpr (q.symm.trans au))
    rw[KW au.symm,cQ this,DZ iY];exact lP _
   .exact YQ qP _
def aci(W:jm ds rows)(R:oU ds rows)(c9:∀x∈s.wt,told rows x=true)(ct:h<↑rows)(ai:i<↑rows)(aI:h∈lN rows s)(L:pf n ds rows s)(P:CT ds rows s i g)(a7:g<↑rows)(az:cE ds rows g=cE ds rows h):qF (en ds rows h) (gg ds rows s h)<(en ds rows h).e5 g:=by
 have qP:=W.ok ct;let(a1,a2):=L.last h;by_cases e:g=h
 .subst e;have:=WQ qP (last:=gg ds rows s g) a2;have aE:(en ds rows g).e5 g=((en ds rows g).m:Int)-1:=Jm qP;omega
 .have dZ:=(Qu R c9 ai aI a1 a2 P e).1 az;have z:=(qK qP g).1;unfold qF;split
  .rename_i c;have bY:gg ds rows s h≠(h:Int):=c.2;unfold o7 at dZ;generalize gg ds rows s h=y at *;let(y,rfl):=Int.eq_ofNat_of_zero_le c.1;show(((y:Int).toNat:Int)-(h:Int)-1)%(↑rows:Int)<((g:Int)-(h:Int)-1)%(↑rows:Int);rw[mG];rw[P6 () () () (),P6 () () () ()]at *;split <;> split <;> omega
  .omega
def amz {own:Bool} {x:Str} {pre:List Nat} {p:Nat} {sp e:Int} (W:jm ds rows) (R:oU ds rows) (gL:se n ds rows (hv n ds rows)) (ct:h<↑rows) (k:jH ds rows s) (L:pf n ds rows s) (ag:x∈s.wt) (YV:kH rows x\h) (AY:∀(g:Nat) (r:ST),rows[g]?\r->x∈r.mem->g=h) (A:rF n ds rows h s pre p sp e) (dY:tT n ds rows s own aj):aj.b4\h\/(x∈aj.wt/\∃pre p sp,rF n ds rows h aj pre p sp (e+1)):=by
 have qP:=W.ok ct;have c9:=k.told R;have aW:∀{j:Nat},j<↑rows->((en ds rows h).own j=true↔cE ds rows j=cE ds rows h):=λ{j} aI=>by rw[CA W ct aI];simp
 have aI:h∈lN rows s:=cf.mpr (x,ag,by unfold vu;rw[YV];rfl);rcases dY with⟨az,r,ao,rfl⟩|⟨i,r,az,ao,fB,rfl⟩|⟨i,r,g,mf,az,ao,fB,P,a7,rfl⟩
 .obtain⟨a1,a2⟩:=A.ch az;obtain⟨cx,cQ,FE,oS⟩:=L.ch az;unfold oX;split
  .refine .inr (ag,pre,p,sp,A.ok,A.bt,A.cQ,A.pm,A.ve,λi ai=>?_,λ_=>(a1,?_))
   .have ai:s.b4\i:=ai;rw[az]at ai;cases ai
   .show e+1+(hv n ds rows s.lf s.bA-(s.cS+1))<=_;omega
  .by_cases aq:p=h
   .refine .inl ?_;show some s.bA\h;rw[a1,aq]
   .refine .inr (i0.mpr (ag,?_),pre,p,sp,A.ok,A.bt,A.cQ,A.pm,A.ve,λi ai=>?_,λz=>by cases z)
    .have:x∉r.mem:=λz=>aq (by rw[<- a1];exact AY _ _ ao z)
     simp[this]
    .cases ai;have:=DM (h:=h) W A.pm;refine(a1,aq,(),?_);show e+1+1<=_+1;omega
 .obtain⟨a1,a2,eu,me⟩:=A.b4 i az;subst a1;have dU:s.bt<e9 ds rows h i:=by
   have lo:=R.cH;have b:=W.lo r (cm ao);unfold tD at fB;unfold e9;rw[ao];simp only[];rw[u5,u5]at fB;rcases fB with(af|af)|af
   .rw [UR.mp af]at ag;cases ag
   .have:=of_decide_eq_true af;split <;> omega
   .rw[kb,kb]at af;have:=of_decide_eq_true af.1.1;split
    .rename_i c;exfalso;have adL:zq ds rows s.wt=true:=by
      refine rg.mpr (x,ag,decide_eq_true ?_);unfold yt;rw[YV];unfold cE at c;rw[bj ct]at c;show(((rows[h]?).map (dj ds)).getD _)=dw;rw[bj ct];exact c
     rw[adL]at af;cases af.2
    .omega
  refine .inr (ag,pre,i,sp,A.ok,A.bt,A.cQ,A.pm,A.ve,λj aI=>?_,λz=>?_)
  .have aI:s.b4\j:=aI;rw[az]at aI;cases aI;refine(rfl,a2,(),?_);show e+1+1<=_+(s.bt+1);omega
  .have z:s.b4=none:=z;rw[az]at z;cases z
 .obtain⟨a1,a2,eu,me⟩:=A.b4 i az;subst a1;have ai:=A.pm;have g_:=(b5.mp a7).1;have sH:g≠i:=fun z=>by
   let(y,aQ,acf):=Ob c9 P.1;exact(k.b4 i az).2 y aQ (z ▸ acf)
  have bT:=(gL.lo i g ai g_ (dm sH)).1;have aN:=ZJ (s:=s) (i:=i) (j:=h) W a7 ct;have ls:=WA (cg:=hv n ds rows) (st:=e9 ds rows h) (g:=g) A.bt A.cQ;let(kC,bC,jk):∃kC,(∀ext,jw (en ds rows h) g kC ext->jw (en ds rows h) i sp (g::ext))/\(g≠h->kC<=qF (en ds rows h) (gg ds rows (so s i g (dj ds mf)) h)):=by
   by_cases aU:cE ds rows g=cE ds rows h
   .have ps:=aci W R c9 ct ai aI L P g_ aU;have:=A.ve a2;refine((en ds rows h).e5 g,λext y7=>(a2,g_,.inl ((aW g_).mpr aU,(),y7)),λu0=>?_);rw[aN,if_pos aU.symm,DZ u0];exact lP _
   .have u0:g≠h:=λz=>aU (by rw[z])
    have aq:=(Qu R c9 ai aI (L.last h).1 (L.last h).2 P u0).2 aU;refine(sp,λext y7=>(a2,g_,.inr ((aW ai).mpr aq,?_,y7)),λ_=>?_)
    .cases z:(en ds rows h).own g
     .rfl
     .exact absurd ((aW g_).mp z) aU
    .rw [aN,if_neg (λz=>aU z.symm)];exact A.ve a2
  have PM:∀ext,jw (en ds rows h) g kC ext->CM (en ds rows h) (pre++[g]++ext):=λext y7=>by
   rw[mZ];exact A.ok _ (bC ext y7)
  have QT:(pre++[g]).getLast?\g:=by simp
  have QU:2<=↑(pre++[g]):=by rw[cU];have:=A.cQ;omega
  unfold oX;split
  .refine .inr (ag,pre++[g],g,kC,PM,QT,QU,g_,jk,λj aI=>(by cases aI),λ_=>(rfl,?_));show e+1+(hv n ds rows i g-0)<=_;omega
  .by_cases u0:g=h
   .exact .inl (by show some g\h;rw[u0])
   .refine .inr (i0.mpr (ag,?_),pre++[g],g,kC,PM,QT,QU,g_,jk,λj aI=>?_,λz=>by cases z)
    .have:x∉mf.mem:=λz=>u0 (AY _ _ a7 z)
     simp[this]
    .cases aI;have:=DM (h:=h) W g_;refine(rfl,u0,(),?_);show e+1+1<=_+1;omega
theorem adl{pre:List Nat}{p:Nat}{sp e z:Int}(W:jm ds rows)(gL:se n ds rows (hv n ds rows))(ct:h<↑rows)(L:pf n ds rows s)(A:rF n ds rows h s pre p sp e)(aO:∀ys,CM (en ds rows h) ys->xz (hv n ds rows) (e9 ds rows h) ys<=z):e<z:=by
 have qP:=W.ok ct;have more:p≠h->xz (hv n ds rows) (e9 ds rows h) pre+e9 ds rows h p<=z:=λaq=>by
  have af:=A.ve aq;have ak:=WQ qP (last:=gg ds rows s h) (L.last h).2;have a8:(en ds rows h).e5 h=((en ds rows h).m:Int)-1:=Jm qP;have bZ:=aO (pre++[h]) (A.ok [h] (aq,ct,.inl (IL,by show sp<(en ds rows h).e5 h;omega,rfl)));rw[WA A.bt A.cQ]at bZ;have:=(gL.lo p h A.pm ct aq).1;omega
 cases az:s.b4 with
 |some i=>
  let(_,a2,eu,_):=A.b4 i az;have:=more a2;omega
 |none=>
  let(a1,a2):=A.ch az;let(_,_,_,oS):=L.ch az;by_cases aq:p=h
  .have:=aO (pre++[]) (A.ok [] aq);rw[uy]at this;omega
  .have:=more aq;have:=DM (h:=h) W A.pm;omega
end
def d2.aoy{n:Int}{ds:List bf}{sts:List hG}(h:d2 n ds sts){k:Nat}(aB:k<↑ds):∃j,j<↑sts/\k∈m2 sts j:=by
 have hm:k∈(sts.map (·.fe)).flatten:=h.l8.bA.pm.mem_iff.mpr (pY.mpr aB);let(l,aN,lG):=Om.mp hm;let(x,ag,rfl):=cf.mp aN;let(j,aI,e):=Df ag;exact(j,aI,by rw[EH (bj aI),e];exact lG)
def abo(h:pQ n d):m3 d<=1000:=by
 have:=h.of;unfold m3;split <;> omega
def ahu(d:bf):mK d<=1000:=by
 unfold mK;split <;> omega
section
variable{n:Int}{ds:List bf}{sts:List hG}
def JS:↑(c0 ds sts)=↑sts:=by unfold c0;rw[aT]
def arV{j:Nat}{r:ST}(h:(c0 ds sts)[j]?\r):∃x,sts[j]?\x/\r=k3 ds x:=by
 unfold c0 at h;rw[dv]at h;let(x,ag,rfl):=Ab.mp h;exact(x,ag,rfl)
def d2.agq(X:d2 n ds sts):jm ds (c0 ds sts):=by
 refine(λr ao=>?_,by rw[JS];exact X.len,λr ao=>?_,λr ao=>?_)
 .obtain⟨j,aI⟩:=g8 ao;have hi:j<↑sts:=by rw[<- JS (ds:=ds)];exact(b5.mp aI).1
  have:=X.sort hi;unfold cE at this;rw[aI]at this;have this:dj ds r=if IC ds sts j=true then dw else iT:=this;rw[this];split
  .exact .inl rfl
  .exact .inr rfl
 .let(x,ag,rfl):=cf.mp ao;have:=X.l8.bd x ag;exact(this.1,this.2.2.1,by show x.ai<=1000;omega)
 .let(x,ag,rfl):=cf.mp ao;show e7 ds x≠[];unfold e7;exact λz=>(X.k0.bd x ag).2.2.1 (ZF.mp z)
def d2.ajU(X:d2 n ds sts){k h:Nat}(hd:ds[k]?\d)(aB:k∈m2 sts h):df (hp ((c0 ds sts).map (·.mem))) (bO d.name)\(.int (h:Nat)):=by
 let(eZ,r,aK,fa,_):=pO (X.tell (cm hd));rw[(X.Rg hd).mpr aB]at fa;rw[aK,er fa]
theorem aly(h:∀d∈ds,pQ n d){x:Int}(ag:x∈jV n ds f g):x<=1000:=by
 have Mf:∀{y:Str} {d:bf},iO ds y\d->d∈ds:=λe=>al1 e
 unfold jV at ag;rcases eQ.mp ag with ag|ag
 .rcases eQ.mp ag with ag|ag
  .rcases eQ.mp ag with ag|ag
   .rw [eB.mp ag];decide
   .obtain⟨y,_,rfl⟩:=cf.mp ag;unfold tx;cases e:iO ds y with
    |none=>simp
    |some d=>exact abo (h d (Mf e))
  .obtain⟨y,_,rfl⟩:=cf.mp ag;unfold u9;cases e:iO ds y with
   |none=>simp
   |some d=>exact ahu d
 .obtain⟨y,_,ag⟩:=List.mem_flatMap.mp ag;unfold sj at ag;split at ag
  .cases ag
  .obtain⟨z,_,rfl⟩:=cf.mp ag;unfold uS;split
   .rename_i d e af ak;have:=(h d (Mf af)).of;have:=(h e (Mf ak)).xF;split <;> omega
   .decide
theorem d2.hv(X:d2 n ds sts):se n ds (c0 ds sts) (My.hv n ds (c0 ds sts)):=by
 have is:∀(i j:Nat) (r s:ST),(c0 ds sts)[i]?\r->(c0 ds sts)[j]?\s->qi (jV n ds r.mem s.mem) (My.hv n ds (c0 ds sts) i j):=λi j r s ai aI=>by
  let(rl,af,ak):=Ez (jV n ds r.mem s.mem) (by unfold jV;simp);rw[NP ai aI (af,ak)];exact(af,ak)
 refine(λi j r s ai aI _=>is i j r s ai aI,λi j ai aI _=>?_);have h:=is i j _ _ (bj ai) (bj aI);exact(h.2 0 (by unfold jV;simp),aly X.ok h.1)
def d2.one(X:d2 n ds sts){k h g:Nat}(hd:ds[k]?\d)(aB:k∈m2 sts h)(a7:(c0 ds sts)[g]?\r)(ag:d.name∈r.mem):g=h:=by
 let(x,eb,rfl):=arV a7;have:k∈x.fe:=(Zf X.aH (λi ai=>X.lt (cm eb) ai) hd).mp ag;exact X.uniq (by rw[EH eb];exact this) aB
end
unseal L2.g6 L2.bw L2.gO L2.iS L2.iz L2.gs
section
open PySem.Spec PyProof.Rows
end
seal L2.g6 L2.bw L2.gO L2.iS L2.iz L2.gs
def zk(t:bQ)(C:Addr):bV:=λvs H Q _=>∃p d n,vs=[⇑p,.int n]/\fc t H p d/\C=t.gC d.k/\Q (.int (hs d n)) H
def abV:cu P base T 1 t.D4 t.IP mW (zk t (t.gC 0)):=by
 exists T.Uv.ok acA,9
 let(p,d,n,rfl,W,dd,q):=h;have aB:=(T.cw_inj ∅ W.1 dd).symm;refine(_,(aY (cp (fy (JU rfl) rfl T.yQ BF (ah (U 1) (ah aR aA))))),?_);rw[show hs d n=(if 1<n then 1 else n)by unfold hs;simp only[aB]]at q;nofun;exact q
def aa9:cu P base T 1 t.Ce t.Lf mW (zk t (t.gC 1)):=by
 exists T.WY.ok adJ,9
 let(p,d,n,rfl,W,dd,q):=h;have aB:=(T.cw_inj ∅ W.1 dd).symm;refine(_,(aY (cp (U 1))),?_);rw[show hs d n=n by unfold hs;simp only[aB]]at q;nofun;exact q
def aoU:cu P base T 1 t.DI t.K5 mW (zk t (t.gC 2)):=by
 exists T.Ym.ok ajH,9
 let(p,d,n,rfl,W,dd,q):=h;have aB:=(T.cw_inj ∅ W.1 dd).symm;refine(_,(aY (cp (fy (JU rfl) rfl T.yQ BF (ah (U 1) (ah aR aA))))),?_);rw[show hs d n=(if 1<n then 1 else n)by unfold hs;simp only[aB]]at q;nofun;exact q
theorem adN(T:Txt w K mg t):om P w K mg base dt 1 (t5 t) "goes" mW (zk t):=by
 refine⟨λC dd=>?_⟩;let(k,aB,rfl):=dd
 match k,aB with
 |0,_=>exact(_,_,T.DB,T.ahZ,abV T,T.aoC)
 |1,_=>exact(_,_,T.B2,T.abN,aa9 T,T.aiH)
 |2,_=>exact(_,_,T.GO,T.agQ,aoU T,T.acv)
noncomputable def e4(ns:List Str)(f:Str->V):List (Key×V):=ns.map λx=>(p'p (bO x) (f x))
theorem AA{ns:List Str}{x:Str}(h:x∈ns):df (e4 ns f) (bO x)\(f x):=by
 induction ns with
 |nil=>cases h
 | cons y ys c4=>
  by_cases c:y=x
  .subst c;simp[e4,df]
  .have hm:x∈ys:=by
    rcases d6.mp h with e|e
    .exact absurd e.symm c
    .exact e
   have:=c4 hm;simp only[e4,df,es,pC]at this⊢;simp[c]at this⊢;exact this
theorem ar7{ns:List Str}{x:Str}(h:x∉ns):df (e4 ns f) (bO x)=none:=by
 induction ns with
 |nil=>rfl
 |cons y ys c4=>
  have c:¬y=x:=λz=>h (z ▸ .head _)
  have:=c4 (λz=>h (.tail _ z));simp only[e4,df,es,pC]at this⊢;simp[c]at this⊢;exact this
noncomputable def dO{α:Type}(f:Str->α)(x:Str)(a:α):Str->α:=λy=>if y=x then a else f y
def lQ(f:Str->α)(x:Str)(a:α):dO f x a x=a:=if_pos rfl
def kh{x y:Str}(h:y≠x):dO f x a y=f y:=if_neg h
def Xn{ns:List Str}{x:Str}(h:x∉ns):d8 (e4 ns f) (bO x) (f x)=e4 (ns++[x]) f:=by
 rw[ajp _ (ar7 h)];unfold e4;rw[ee];rfl
def Q2{ns:List Str}{x:Str}(h:x∈ns)(a7:∀y∈ns,g y=if y=x then v else f y):d8 (e4 ns f) (bO x) v=e4 ns g:=by
 unfold d8;have DU:((e4 ns f).any λdE=>decide (dE.1=bO x))=true:=rg.mpr ((p'p (bO x) (f x)),cf.mpr (x,h,rfl),decide_eq_true rfl);rw[if_pos DU];unfold e4;rw[q3];refine Pz λy aQ=>?_
 show(if(bO y:Key)=bO x then(p'p (bO y:Key) v)else(p'p (bO y) (f y)))=(p'p (bO y) (g y));rw[a7 y aQ];by_cases c:y=x
 .rw [if_pos (by rw[c]),if_pos c]
 .rw [if_neg (λz=>c (sg z)),if_neg c]
noncomputable def e_:List (Int×Int)->Int
 |[]=>0
 |p::ps=>p.2+e_ ps
theorem Z6:∀(a b:List (Int×Int)),e_ (a++b)=e_ a+e_ b
 |[],b=>by simp[e_]
 |p::a,b=>by rw[AX,e_,e_,Z6 a b];omega
theorem Ni:∀{l:List (Int×Int)},(∀p∈l,0<p.2)->0<=e_ l
 |[],_=>lP _
 |p::l,h=>by
  have:=h p (.head _);have:=Ni (l:=l) λq aL=>h q (.tail _ aL)
  rw[e_];omega
noncomputable def gc:Int->List (Int×Int)->List (Int×Int)×List (Int×Int)
 |_,[]=>(p'p [] [])
 |left,p::ps=>if left<=0 then(p'p [] (p::ps))else if p.2<=left then(p'p (p::(gc (left-p.2) ps).1) ((gc (left-p.2) ps).2))else(p'p [(p'p p.1 left)] ((p'p p.1 (p.2-left))::ps))
theorem Rc(l:List (Int×Int)):gc 0 l=(p'p [] l):=by
 cases l with
 |nil=>rfl
 |cons p l=>unfold gc;rw[if_pos (lP _)]
theorem FT:∀(l:List (Int×Int)) (left:Int),(∀p∈l,0<p.2)->0<=left->left<=e_ l->e_ (gc left l).1=left/\e_ (gc left l).2=e_ l-left/\(∀p∈(gc left l).1,0<p.2)/\(∀p∈(gc left l).2,0<p.2)/\↑(gc left l).1<=↑l/\↑(gc left l).2<=↑l
 |[],left,_,h0,af=>by
  rw[e_]at af;have:left=0:=()
  subst this;exact(rfl,rfl,(λp h=>by cases h),(λp h=>by cases h),bR _,bR _)
 | p :: l,left,aq,h0,af=>by
  have hJ:=aq p (.head _);have cV:∀q∈l,0<q.2:=λq aL=>aq q (.tail _ aL)
  rw[e_]at af;unfold gc;by_cases c:left<=0
  .have:left=0:=()
   subst this;rw[if_pos c];exact(rfl,by simp,(λp h=>by cases h),aq,eO _,bR _)
  .rw[if_neg c];by_cases bY:p.2<=left
   .rw[if_pos bY];let(a,b,oV,d,e,f):=FT l (left-p.2) cV () ();refine(?_,?_,λq aL=>?_,d,?_,?_)
    .show p.2+e_ (gc (left-p.2) l).1=left;omega
    .show e_ (gc (left-p.2) l).2=e_ (p::l)-left;rw[e_];omega
    .rcases d6.mp aL with z|z
     .rw [z];exact hJ
     .exact oV q z
    .exact Ti e
    .exact Nat.le_succ_of_le f
   .rw[if_neg bY];refine(?_,?_,λq aL=>?_,λq aL=>?_,?_,bR _)
    .show left+0=left;omega
    .show p.2-left+e_ l=e_ (p::l)-left;rw[e_];omega
    .rw [eB.mp aL];show 0<left;omega
    .rcases d6.mp aL with z|z
     .rw [z];show 0<p.2-left;omega
     .exact cV q z
    .exact Ti (eO _)
noncomputable abbrev r':List Str:=[ab "crossing",ab "keeper",ab "turn",ab "standing",ab "lots"]
noncomputable def mS(c k:Addr)(cc:Int)(cq ld:Addr):List (Str×V):=[(p'p (ab "crossing") (V.ref c)),(p'p (ab "keeper") (V.ref k)),(p'p (ab "turn") (V.int cc)),(p'p (ab "standing") (V.ref cq)),(p'p (ab "lots") (V.ref ld))]
def vk(c k:Addr)(cc:Int)(cq ld:Addr):(mS c k cc cq ld).map (·.1)=r':=rfl
def aoH(c k:Addr)(cc:Int)(cq ld:Addr)(v:Int):dg (ab "turn") (.int v) (mS c k cc cq ld)=mS c k v cq ld:=by
 unfold mS;simp only[dg];rw[if_neg ∅,if_neg ∅];rfl
def Hx{m:Str}(c k:Addr)(cc:Int)(cq ld:Addr)(h:r'.contains m=false):(mS c k cc cq ld).lookup m=none:=wL r' (vk ..) h
section
variable{w:World}{K:bq}{mg:Str->Option Value}{t:bQ}{H:aw}{r c k ax cq ld:Addr}{cc:Int}
def zF(T:Txt w K mg t)(e:H r\(.ins t.gD ax (mS c k cc cq ld))):fG K H r (ab "crossing") ⇑c:=(_,ax,_,e,T.mU,T.Ua,fX r' 0 (vk ..) ∅ rfl)
def ar0(T:Txt w K mg t)(e:H r\(.ins t.gD ax (mS c k cc cq ld))):fG K H r (ab "keeper") ⇑k:=(_,ax,_,e,T.mU,T.RQ,fX r' 1 (vk ..) ∅ rfl)
def abP(T:Txt w K mg t)(e:H r\(.ins t.gD ax (mS c k cc cq ld))):fG K H r (ab "turn") (.int cc):=(_,ax,_,e,T.mU,T.NH,fX r' 2 (vk ..) ∅ rfl)
def Bm(T:Txt w K mg t)(e:H r\(.ins t.gD ax (mS c k cc cq ld))):fG K H r (ab "standing") ⇑cq:=(_,ax,_,e,T.mU,T.P0,fX r' 3 (vk ..) ∅ rfl)
def Ks(T:Txt w K mg t)(e:H r\(.ins t.gD ax (mS c k cc cq ld))):fG K H r (ab "lots") ⇑ld:=(_,ax,_,e,T.mU,T.RJ,fX r' 4 (vk ..) ∅ rfl)
end
def mJ(H:aw)(l:Addr)(qs:List Addr)(ls:List (Int×Int)):Prop:=H l\(.lst (qs.map V.ref))/\↑qs=↑ls/\∀(i:Nat) (q:Addr) (x:Int×Int),qs[i]?\q->ls[i]?\x->H q\(.tup [.int x.1,.int x.2])
structure Lv where
 c:Addr
 k:Addr
 aG:Addr
 aJ:Addr
 a4:Addr
 cq:Addr
 ld:Addr
 bt:Str->Addr
structure j_ where
 cc:Int
 st:Str->Int
 lo:Str->List (Int×Int)
structure gM(t:bQ)(ns:List Str)(H:aw)(r:Addr)(o:Lv)(s:fx)(v:j_):Prop where
 at_:∃ax,H r\(.ins t.gD ax (mS o.c o.k v.cc o.cq o.ld))
 bp:fz t H o.k o.aG o.aJ o.a4 s
 cq:H o.cq\(.bu (e4 ns λx=>.int (v.st x)))
 ld:H o.ld\(.bu (e4 ns λx=>⇑(o.bt x)))
 t4:∀x∈ns,∃qs,mJ H (o.bt x) qs (v.lo x)
 cK:o.cq≠o.ld
 cC:o.cq≠o.aJ
 dc:o.cq≠o.a4
 cR:o.ld≠o.aJ
 dK:o.ld≠o.a4
 i9:r≠o.k
 inj:∀x∈ns,∀y∈ns,o.bt x=o.bt y->x=y
def Own(ns:List Str)(r:Addr)(o:Lv)(b:Addr):Prop:=b=r\/b=o.k\/b=o.aJ\/b=o.a4\/b=o.cq\/b=o.ld\/∃x∈ns,b=o.bt x
def iB(O:Addr->Prop)(H I:aw):Prop:=∀b u,¬O b->H b\u->I b\u
section
variable{t:bQ}{ns:List Str}{H I:aw}{r:Addr}{o:Lv}{s:fx}{v:j_}
def mJ.keep(h:mJ H l qs ls)(af:∀u,H l\u->I l\u)(ak:∀q xs,H q\(.tup xs)->I q\(.tup xs)):mJ I l qs ls:=
 (af _ h.1,h.2.1,λi q x a b=>ak _ _ (h.2.2 i q x a b))
theorem gM.keep(h:gM t ns H r o s v)(af:∀b u,Own ns r o b->H b\u->I b\u)(ak:∀q xs,H q\(.tup xs)->I q\(.tup xs)):gM t ns I r o s v:=by
 let(ax,e):=h.at_;let(oQ,kl,cn,dz,e0):=h.bp;refine((ax,af _ _ (.inl rfl) e),(oQ,kl,af _ _ (.inr (.inl rfl)) cn,af _ _ (.inr (.inr (.inl rfl))) dz,af _ _ (.inr (.inr (.inr (.inl rfl)))) e0),af _ _ (.inr (.inr (.inr (.inr (.inl rfl))))) h.cq,af _ _ (.inr (.inr (.inr (.inr (.inr (.inl rfl)))))) h.ld,λx ag=>?_,h.cK,h.cC,h.dc,h.cR,h.dK,h.i9,h.inj);let(qs,L):=h.t4 x ag;exact(qs,L.keep (λu e=>af _ _ (.inr (.inr (.inr (.inr (.inr (.inr (x,ag,rfl))))))) e) ak)
def gM.same(h:gM t ns H r o s v)(e:aM H I):gM t ns I r o s v:=h.keep (λb u _=>e b u) (λq xs=>e q _)
def gM.has(h:gM t ns H r o s v)(aa:Own ns r o b):∃u,H b\u/\((∃a b c,u=.ins a b c)\/(∃k,u=.bu k)\/∃xs,u=.lst xs):=by
 let(ax,e):=h.at_;let(oQ,kl,cn,dz,e0):=h.bp;rcases aa with rfl|rfl|rfl|rfl|rfl|rfl|⟨x,ag,rfl⟩
 .exact (_,e,.inl (_,_,_,rfl))
 .exact (_,cn,.inl (_,_,_,rfl))
 .exact (_,dz,.inr (.inl (_,rfl)))
 .exact (_,e0,.inr (.inl (_,rfl)))
 .exact (_,h.cq,.inr (.inl (_,rfl)))
 .exact (_,h.ld,.inr (.inl (_,rfl)))
 .let(qs,L):=h.t4 x ag;exact(_,L.1,.inr (.inr (_,rfl)))
def gM.off(h:gM t ns H r o s v)(e:H b\u)(af:∀a b c,u≠.ins a b c)(ak:∀k,u≠.bu k)(a8:∀xs,u≠.lst xs):¬Own ns r o b:=λaa=>by
 let(vf,bF,k):=h.has aa;rw[e]at bF;cases bF;rcases k with⟨a,b,c,z⟩|⟨k,z⟩|⟨xs,z⟩
 .exact af _ _ _ z
 .exact ak _ z
 .exact a8 _ z
def iB.trans(a:iB O H1 ar)(b:iB O ar a'):iB O H1 a':=λx u h e=>b x u h (a x u h e)
def iB.wide(a:iB O H1 ar)(h:∀b,O b->Bj b):iB Bj H1 ar:=λx u ag e=>a x u (λz=>ag (h x z)) e
end
noncomputable def p9(v:j_)(x:Str)(m:Int):j_:=if 0<m then {v with st:=dO v.st x (v.st x+m),lo:=dO v.lo x (v.lo x++[(p'p v.cc m)])}else v
noncomputable def KG(v:j_)(x:Str)(left:Int):j_:={v with st:=dO v.st x (v.st x-left),lo:=dO v.lo x (gc left (v.lo x)).2}
def anW(left:Int)(p:Int×Int)(ps:List (Int×Int)):gc left (p::ps)=if left<=0 then(p'p [] (p::ps))else if p.2<=left then(p'p (p::(gc (left-p.2) ps).1) ((gc (left-p.2) ps).2))else(p'p [(p'p p.1 left)] ((p'p p.1 (p.2-left))::ps)):=by rw[gc]
def akW(t:bQ):bV:=λvs H Q _=>∃ns r o s v x m,vs=[⇑r,.str x,.int m]/\gM t ns H r o s v/\x∈ns/\↑ns<=12/\↑(v.lo x)<=1000/\aF H/\∀I,iB (λb=>b=o.cq\/b=o.bt x) H I->aF I->gM t ns I r o s (p9 v x m)->Q .cF I
def tj(H:aw)(p:Addr)(x:Str)(qs:List Addr)(ls:List (Int×Int)):Prop:=H p\(.lst (qs.map V.ref))/\↑qs=↑ls/\∀(i:Nat) (q:Addr) (y:Int×Int),qs[i]?\q->ls[i]?\y->H q\(.tup [.str x,.int y.1,.int y.2])
def apz(h:mJ H l qs ls)(au:I l\(.lst (qs.map V.ref++[V.ref q])))(aE:I q\(.tup [.int y.1,.int y.2]))(bI:∀b xs,H b\(.tup xs)->I b\(.tup xs)):mJ I l (qs++[q]) (ls++[y]):=by
 refine(by rw[au,ee];rfl,by rw[cU,cU,h.2.1];rfl,λi dB x aL ag=>?_);by_cases bc:i<↑qs
 .rw [lg bc]at aL;rw[lg (by rw[<- h.2.1];exact bc)]at ag;exact bI _ _ (h.2.2 i dB x aL ag)
 .have ai:i=↑qs:=by
   have:=(b5.mp aL).1;rw[cU,mq]at this;omega
  subst ai;rw[j7 (bR _),vV]at aL;rw[h.2.1,j7 (bR _),vV]at ag;cases aL;cases ag;exact aE
def afn{x:Str}(h:tj H l x qs ls)(au:I l\(.lst (qs.map V.ref++[V.ref q])))(aE:I q\(.tup [.str x,.int y.1,.int y.2]))(bI:∀b xs,H b\(.tup xs)->I b\(.tup xs)):tj I l x (qs++[q]) (ls++[y]):=by
 refine(by rw[au,ee];rfl,by rw[cU,cU,h.2.1];rfl,λi dB z aL ag=>?_);by_cases bc:i<↑qs
 .rw [lg bc]at aL;rw[lg (by rw[<- h.2.1];exact bc)]at ag;exact bI _ _ (h.2.2 i dB z aL ag)
 .have ai:i=↑qs:=by
   have:=(b5.mp aL).1;rw[cU,mq]at this;omega
  subst ai;rw[j7 (bR _),vV]at aL;rw[h.2.1,j7 (bR _),vV]at ag;cases aL;cases ag;exact aE
def gM.PV{t:bQ}{ns:List Str}(h:gM t ns H r o s v){x:Str}(ag:x∈ns)(au:I o.cq\(.bu (e4 ns λy=>.int (dO v.st x a y))))(aE:mJ I (o.bt x) qs ls)(bI:iB (λb=>b=o.cq\/b=o.bt x) H I):gM t ns I r o s {v with st:=dO v.st x a,lo:=dO v.lo x ls}:=by
 let(ax,e):=h.at_;let(oQ,kl,cn,dz,e0):=h.bp;let(asQ,W'):=h.t4 x ag;have uJ:∀{b:Addr} {u:eH},H b\u->(∀kvs,u≠.bu kvs)->(∀xs,u≠.lst xs)->I b\u:=λ{b u} bD af ak=>bI b u (λz=>by
  rcases z with rfl|rfl
  .rw [h.cq]at bD;exact af _ (er bD).symm
  .rw [W'.1]at bD;exact ak _ (er bD).symm) bD
 have Jw:∀{b:Addr} {kvs:List (Key×V)},H b\(.bu kvs)->b≠o.cq->I b\(.bu kvs):=λ{b kvs} bD aa=>bI b _ (λz=>by
  rcases z with z|rfl
  .exact aa z
  .rw [W'.1]at bD;cases bD) bD
 refine((ax,uJ e (λ_ z=>by cases z) (λ_ z=>by cases z)),(oQ,kl,uJ cn (λ_ z=>by cases z) (λ_ z=>by cases z),Jw dz (dm h.cC),Jw e0 (dm h.dc)),au,Jw h.ld (dm h.cK),λy aQ=>?_,h.cK,h.cC,h.dc,h.cR,h.dK,h.i9,h.inj);by_cases c:y=x
 .subst c;refine(qs,?_);show mJ I (o.bt y) qs (dO v.lo y ls y);rw[lQ];exact aE
 .obtain⟨Xm,X'⟩:=h.t4 y aQ;refine⟨Xm,?_⟩;show mJ I (o.bt y) Xm (dO v.lo x ls y);rw[kh c];refine X'.keep (fun u hn=>bI _ _ (fun z=>?_) hn) (fun q xs eq=>uJ eq (fun _ z=>by cases z) (fun _ z=>by cases z));rcases z with z|z
  .have:=X'.1;rw[z,h.cq]at this;cases this
  .exact c (h.inj y aQ x ag z)
def aqg(P:Program)(w:World)(t:bQ):bV:=λvs H Q _=>∃n ds r o s v,∃i:Nat,∃d:bf,vs=[⇑r,.str d.name]/\gM t (ds.map (·.name)) H r o s v/\gp t H o.c n ds/\ds[i]?\d/\↑ds<=12/\↑(v.lo d.name)<=1000/\(∀p∈v.lo d.name,0<p.2)/\e_ (v.lo d.name)=v.st d.name/\aF H /\
 ∀p qs I,iB (λb=>b=o.cq\/b=o.bt d.name) H I->aF I->H p=none->tj I p d.name qs (gc (hs d (v.st d.name)) (v.lo d.name)).1->gM t (ds.map (·.name)) I r o s (KG v d.name (hs d (v.st d.name)))->Q ⇑p I
def aiT:cu P base T 1 t.FG t.H3 G0 (akW t):=by
 exists T.T1.ok aq3,9
 let(ns,r,o,aj,v,x,m,rfl,gB,ag,aei,qo,bz,q):=h;have bJ:=h9 ao;refine(_,(aY (d7 (de oN (U 2) aR (cO _)) (aP (d3 (eS f9 kQ k2 kO (l7 bJ (br (U 0) rfl) (U 1) (λ_ _=>rfl)) (ah (oA (ah (br (U 0) rfl) (ah (U 2) aA))) aA)))
   (aY (WE bJ (br (U 0) rfl) (U 1) (U 2) Ba (λ_ _ _=>rfl)))) eA)),?_)
 let(ax,e):=gB.at_;let(qs,L):=gB.t4 x ag;have gl:=gw.k (k:=bO x) gB.ld;rw[AA ag]at gl;refine dC (decide (0<m)) (λQ' aX=>?_) (λaa=>?_) (λaa=>?_)
 .nofun;exact aX
 .have hm:=of_decide_eq_true aa;have kS:o.bt x≠o.cq:=λz=>by have:=L.1;rw[z,gB.cq]at this;cases this
  have uB:r≠o.bt x:=λz=>by have:=L.1;rw[<- z,e]at this;cases this
  have N_:d8 (e4 ns λy=>.int (v.st y)) (bO x) (.int (v.st x+m))=e4 ns λy=>.int (dO v.st x (v.st x+m) y):=Q2 ag (λy aQ=>by unfold dO;split <;> rfl)
  nofun;refine(_,Ks T e,_,rfl,_,gl,lY (_,ay.of L.1),_,abP T e,∅,λp aq=>?_);have np:∀{b:Addr} {u:eH},H b\u->b≠p:=λ{b u} e z=>by rw[z,aq]at e;cases e
  have q4:∀{b:Addr} {u a1 a2:eH},b≠o.bt x->H b\u->upd (upd H p a1) (o.bt x) a2 b\u:=λ{b u a1 a2} af e=>by rw[aD af,aD (np e)];exact e
  refine(_,rfl,_,by rw[aD (np L.1)];exact L.1,by rw[aT,L.2.1];exact gv qo ∅,_,Bm T (q4 uB e),_,rfl,_,by have:=gw.k (k:=bO x) (q4 (dm kS) gB.cq (a1:=.tup [.int v.cc,.int m]) (a2:=.lst (qs.map V.ref++[V.ref p])));rw[AA ag]at this;exact this,_,rfl,_,jh.k (k:=bO x) (q4 (dm kS) gB.cq) (by unfold e4;rw[aT];exact gv aei ∅),?_);rw[N_];have cH:iB (λb=>b=o.cq\/b=o.bt x) H (upd (upd (upd H p (.tup [.int v.cc,.int m])) (o.bt x) (.lst (qs.map V.ref++[V.ref p]))) o.cq (.bu (e4 ns λy=>.int (dO v.st x (v.st x+m) y)))):=λb u aa bD=>by
   rw[aD (λz=>aa (.inl z))];exact q4 (λz=>aa (.inr z)) bD
  refine q _ cH bz.upd.upd.upd ?_;unfold p9;rw[if_pos hm];have pq:p≠o.cq:=λz=>by rw[z,gB.cq]at aq;cases aq
  have cV:p≠o.bt x:=λz=>by rw[z,L.1]at aq;cases aq
  exact gB.PV ag db (apz (y:=(p'p v.cc m)) L (by rw[aD kS];exact db) (by rw[aD pq,aD cV];exact db) (λb xs bD=>cH b _ (λz=>by
   rcases z with rfl|rfl
   .rw [gB.cq]at bD;cases bD
   .rw [L.1]at bD;cases bD) bD)) cH
 .have hm:=of_decide_eq_false aa;nofun;refine q H (λ_ _ _ e=>e) bz ?_;unfold p9;rw[if_neg hm];exact gB
theorem afS:cu P base T 3 t.Gf t.OC js (aqg P w t):=by
 refine cD (qz T) λi7=>?_;have akX:om P w K mg base dt 2 (t5 t) "goes" mW (zk t):=y0 (adN T) ∅;exists T.XE.ok re,9
 let(n,ds,r,o,aj,v,i,d,rfl,gB,C,hd,fP,qo,u7,Yw,bz,q):=h;have bJ:=h9 ao;refine(_,(aP (b8 (i:=2) re.aH (aoh (e8 (br (U 0) rfl) T.ac T.nE i7 ao T.nO .nil cY (ah (U 1) aA)) akX ao cY (ah (l7 bJ (br (U 0) rfl) (U 1) (λ_ _=>rfl)) aA)))
   (aP (WE bJ (br (U 0) rfl) (U 1) (U 2) aoF (λ_ _ _=>rfl))
   (aP (b8 (i:=3) re.aH (l7 bJ (br (U 0) rfl) (U 1) (λ_ _=>rfl)))
   (aP (b8 (i:=4) re.aH (eJ aA))
   (aP (PU eP (de oN (U 2) aR (cO _)) (aP (GB (cj dp (U 3) aR) (la (K:=K) (n:=2) rfl rfl (eT (b_ (i:=5) re.aH) (eT (b_ (i:=6) re.aH) lj))))
   (aP (b8 (i:=7) re.aH (fy (JU rfl) rfl T.yQ BF (ah (U 6) (ah (U 2) aA))))
   (aP (d3 (eS f9 kQ k2 kO (U 4) (ah (oA (ah (U 1) (ah (U 5) (ah (U 7) aA)))) aA)))
   (aP (d7 (de fg (U 7) (U 6) (cO _)) (aY (d3 (eS f9 Qy afA aav (U 3) (ah aR aA)))) (aY (GB (oA (ah (U 5) (ah (bM lC (U 6) (U 7)) aA))) (an3 (U 3) aR aaU))))
   (aY (alN (i:=2) re.aH rfl (lY rfl) (U 7) aev)))))))
   (aY (cp (U 4)))))))),?_)
 have ag:d.name∈ds.map (·.name):=cf.mpr (d,cm hd,rfl);let(ax,e):=gB.at_;let(qs,L):=gB.t4 _ ag;have cB:=gw.k (k:=bO d.name) gB.cq;rw[AA ag]at cB;let((fS,asT),w2,wl,aH,bc,_,_):=id C;exists (λav I=>I=H/\av=[~~~r,some (.str d.name),some (.int (hs d (v.st d.name))),none,none,none,none,none]),3
 .nofun;refine(_,zF T e,_,rfl,_,_,bc,jv _ _ _ ∅,o.c,n,ds,i,d,rfl,C,hd,λa W=>?_);let(kl,Le,qV):=id W;exact(a,rfl,_,_,_,qV,(_,kl,rfl),yS ∅,_,Bm T e,_,rfl,_,cB,a,d,_,rfl,W,rfl,b1 _ _ (rfl,rfl))
 intro fo H1 (rfl,rfl);have aqB:0<=v.st d.name:=by rw[<- Yw];exact Ni u7
 have sN:0<=hs d (v.st d.name)/\hs d (v.st d.name)<=e_ (v.lo d.name):=by
  rw[Yw];unfold hs;split
  .omega
  .split <;> omega
 subst aS;generalize Yt:hs d (v.st d.name)=left at q sN⊢;have N_:d8 (e4 (ds.map (·.name)) λy=>.int (v.st y)) (bO d.name) (.int (v.st d.name-left))=e4 (ds.map (·.name)) λy=>.int (dO v.st d.name (v.st d.name-left) y):=Q2 ag (λy aQ=>by unfold dO;split <;> rfl)
 have kS:o.bt d.name≠o.cq:=λz=>by have:=L.1;rw[z,gB.cq]at this;cases this
 exists (λav I=>I=upd H1 o.cq (.bu (e4 (ds.map (·.name)) λy=>.int (dO v.st d.name (v.st d.name-left) y)))/\av=[~~~r,some (.str d.name),some (.int left),none,none,none,none,none]),3
 .nofun;exact(_,Bm T e,_,rfl,_,cB,_,rfl,_,jh.k (k:=bO d.name) gB.cq (by unfold e4;rw[aT,aT];exact gv fP ∅),b1 _ _ (by rw[N_],rfl))
 intro cv ar (rR,rfl);have sF:iB (λb=>b=o.cq\/b=o.bt d.name) H1 ar:=λb u aa bD=>by rw[rR,aD (λz=>aa (.inl z))];exact bD
 have cC:aF ar:=by rw[rR];exact bz.upd
 have W3:ar o.cq\(.bu (e4 (ds.map (·.name)) λy=>.int (dO v.st d.name (v.st d.name-left) y))):=by rw[rR];exact db
 have q4:∀{b:Addr} {u:eH},b≠o.cq->H1 b\u->ar b\u:=λ{b u} aa bD=>by rw[rR,aD aa];exact bD
 have L2:mJ ar (o.bt d.name) qs (v.lo d.name):=L.keep (λu hn=>q4 kS hn) (λq xs eq=>q4 (λz=>by rw[z,gB.cq]at eq;cases eq) eq);have aE:=q4 (λz=>by rw[z,gB.cq]at e;cases e) e;have gl:=gw.k (k:=bO d.name) (q4 (dm gB.cK) gB.ld);subst aS;rw[AA ag]at gl;clear rR;exists (λav I=>I=ar/\av=[~~~r,some (.str d.name),some (.int left),some ⇑(o.bt d.name),none,none,none,none]),3
 .nofun;exact(_,Ks T aE,_,rfl,_,gl,b1 _ _ (rfl,rfl))
 intro fJ a' (rfl,rfl);subst aS;exists (λav I=>aM a' I/\aF I/\∃wp,a' wp=none/\I wp\(.lst [])/\av=[~~~r,some (.str d.name),some (.int left),some ⇑(o.bt d.name),~~~wp,none,none,none]),3
 .nofun;exact(eO _,λwp dq=>b1 _ _ (a_ dq,cC.upd,wp,dq,db,rfl))
 intro jT cb (s4,cR,wp,dq,gJ,rfl);have gz:wp≠o.bt d.name:=λz=>by rw[z,L2.1]at dq;cases dq
 have Mw:wp≠o.cq:=λz=>by rw[z,W3]at dq;cases dq
 subst aS;exists (λav I=>iB (λb=>b=o.bt d.name\/b=wp) cb I/\aF I/\(∃qs gH,mJ I (o.bt d.name) qs (gc left (v.lo d.name)).2/\tj I wp d.name gH (gc left (v.lo d.name)).1)/\∃iY k1 m_ nJ,av=[~~~r,some (.str d.name),iY,some ⇑(o.bt d.name),~~~wp,k1,m_,nJ]),3
 .refine XF (λav I=>iB (λb=>b=o.bt d.name\/b=wp) cb I/\aF I/\∃(lf:Int) (ls ws:List (Int×Int)) (qs gH:List Addr),mJ I (o.bt d.name) qs ls/\tj I wp d.name gH ws/\0<=lf/\lf<=e_ ls/\(∀p∈ls,0<p.2)/\gc left (v.lo d.name)=(p'p (ws++(gc lf ls).1) ((gc lf ls).2))/\∃k1 m_ nJ,av=[~~~r,some (.str d.name),some (.int lf),some ⇑(o.bt d.name),~~~wp,k1,m_,nJ]) (λav _=>match av[2]? with|some (some (V.int y))=>y.toNat|_=>0) (λ_ _ _ e=>e,cR,left,v.lo d.name,[],qs,[],L2.keep (λu hn=>s4 _ _ hn) (λq xs eq=>s4 _ _ eq),(gJ,rfl,λi q y h=>(by simp at h)),sN.1,sN.2,u7,rfl,_,_,_,rfl) ?_;rintro av I a9;ac_rfl
  let(cH,mX,lf,ls,ws,o8,gH,zc,kW,h0,af,n0,jR,k1,m_,nJ,rfl):=a9;subst aS;refine(decide (0<lf),λQ aX=>?_,λc=>?_,λc=>?_)
  .nofun;exact aX
  .have rW:=of_decide_eq_true c;let(fi,t_,rfl):∃fi t_,ls=fi::t_:=by
    cases ls with
    |nil=>rw[e_]at af;omega
    |cons fi t_=>exact(fi,t_,rfl)
   let(iH,ua,rfl):∃iH ua,o8=iH::ua:=by
    cases o8 with
    |nil=>have:=zc.2.1;cases this
    |cons iH ua=>exact(iH,ua,rfl)
   have Nn:=zc.2.2 0 iH fi rfl rfl;have hJ:=n0 fi (.head _);have aeh:↑ws<=1000:=by
    have h:=(FT (v.lo d.name) left u7 sN.1 sN.2).2.2.2.2.1;rw[jR,cU]at h;omega
   rw[e_]at af;simp only[dx];exists (λcv ar=>ar=I/\cv=[~~~r,some (.str d.name),some (.int lf),some ⇑(o.bt d.name),~~~wp,some (.int fi.1),some (.int fi.2),nJ]),2
   .nofun;exact(_,ay.of zc.1,_,cI (j:=0) rfl,_,rfl,_,d4.of Nn,rfl,_,_,rfl,_,_,rfl,rfl,c2 _ _ (rfl,rfl))
   intro nL bP (rfl,rfl);subst aS;simp only[dx];exists (λcv ar=>ar=bP/\cv=[~~~r,some (.str d.name),some (.int lf),some ⇑(o.bt d.name),~~~wp,some (.int fi.1),some (.int fi.2),some (.int (if lf<fi.2 then lf else fi.2))]),2
   .nofun;exact c2 _ _ (rfl,rfl)
   intro mP eX (rfl,rfl);subst aS;generalize wm:(if lf<fi.2 then lf else fi.2)=bb;have atp:0<bb/\bb<=lf/\bb<=fi.2/\(bb=fi.2\/bb=lf):=by
    rw[<- wm];split <;> omega
   simp only[dx];exists (λcv ar=>iB (λb=>b=wp) eX ar/\aF ar/\(∃gH,tj ar wp d.name gH (ws++[(p'p fi.1 bb)]))/\cv=[~~~r,some (.str d.name),some (.int lf),some ⇑(o.bt d.name),~~~wp,some (.int fi.1),some (.int fi.2),some (.int bb)]),2
   .nofun;refine(lY (_,ay.of kW.1),∅,λp aq=>?_);have iR:p≠wp:=λz=>by rw[z,kW.1]at aq;cases aq
    have up:∀b u,b≠wp->eX b\u->upd (upd eX p (.tup [.str d.name,.int fi.1,.int bb])) wp (.lst (gH.map V.ref++[V.ref p])) b\u:=λb u aa bD=>by rw[aD aa,aD (λz=>by rw[z,aq]at bD;cases bD)];exact bD
    exact(_,by rw[aD (dm iR)];exact kW.1,by rw[aT,kW.2.1];exact gv aeh ∅,c2 _ _ (up,mX.upd.upd,(_,afn (y:=(p'p fi.1 bb)) kW db (by rw[aD iR];exact db) (λb xs bD=>up b _ (λz=>by rw[z,kW.1]at bD;cases bD) bD)),rfl))
   intro kR eL (HQ,gr,(Ts,Ov),rfl);have pn:mJ eL (o.bt d.name) (iH::ua) (fi::t_):=zc.keep (λu hn=>HQ _ _ (λz=>gz z.symm) hn) (λq xs eq=>HQ _ _ (λz=>by rw[z,kW.1]at eq;cases eq) eq);have ais:iB (λb=>b=o.bt d.name\/b=wp) cb eL:=cH.trans (HQ.wide λb z=>.inr z);subst aS;simp only[dx];exists (λcv ar=>iB (λb=>b=o.bt d.name) eL ar/\aF ar/\(∃qs,mJ ar (o.bt d.name) qs (if bb=fi.2 then t_ else(p'p fi.1 (fi.2-bb))::t_))/\cv=[~~~r,some (.str d.name),some (.int lf),some ⇑(o.bt d.name),~~~wp,some (.int fi.1),some (.int fi.2),some (.int bb)]),2
   .refine dC (decide (bb=fi.2)) (λQ' aX=>?_) (λaa=>?_) (λaa=>?_)
    .nofun;exact aX
    .nofun;refine(lY (_,ay.of pn.1),_,pn.1,∅,∅,0,seqIndex_of ∅ (by rw[aT,gW];omega),_,rfl,c2 _ _ (λb u aa bD=>by rw[aD aa];exact bD,gr.upd,(ua,?_),rfl));rw[if_pos (of_decide_eq_true aa)];exact(db,Nat.succ.inj pn.2.1,λi q x aL ag=>by
      have:=pn.2.2 (i+1) q x aL ag;rw[aD (bW this pn.1 (by intro z;cases z))];exact this)
    .nofun;refine(∅,λp aq=>?_);have cV:p≠o.bt d.name:=λz=>by rw[z,pn.1]at aq;cases aq
     have up:∀b u,b≠o.bt d.name->eL b\u->upd (upd eL p (.tup [.int fi.1,.int (fi.2-bb)])) (o.bt d.name) (.lst (((iH::ua).map V.ref).set 0 (V.ref p))) b\u:=λb u aa bD=>by rw[aD aa,aD (λz=>by rw[z,aq]at bD;cases bD)];exact bD
     refine(_,by rw[aD (dm cV)];exact pn.1,0,?_,c2 _ _ (up,gr.upd.upd,(p::ua,?_),rfl))
     .unfold p1;rw[if_pos ∅,if_pos (by rw[aT,gW];omega)];rfl
     .rw[if_neg (of_decide_eq_false aa)];refine(db,pn.2.1,λi q x aL ag=>?_);cases i with
      |zero=>
       cases aL;cases ag;rw[aD cV];exact db
      |succ i=>
       have:=pn.2.2 (i+1) q x aL ag;exact up _ _ (bW this pn.1 (by intro z;cases z)) this
   intro vt h6 (MR,mx,(x4,apW),rfl);subst aS;nofun;have amS:tj h6 wp d.name Ts (ws++[(p'p fi.1 bb)]):=(MR _ _ gz Ov.1,Ov.2.1,λi q y aL aQ=>by
    have:=Ov.2.2 i q y aL aQ;exact MR _ _ (bW this pn.1 (by intro z;cases z)) this)
   unfold U5;refine(_,_,rfl,rfl,ais.trans (MR.wide λb z=>.inl z),mx,(lf-bb,_,_,x4,apW,Ts,amS,(),?_,?_,?_,rfl,_,rfl),?_)
   .split
    .omega
    .rw [e_];show lf-bb<=fi.2-bb+e_ t_;omega
   .split
    .exact λp aq=>n0 p (.tail _ aq)
    .intro p aq;rcases d6.mp aq with z|z
     .rw [z];show 0<fi.2-bb;omega
     .exact n0 p (.tail _ z)
   .rw[jR,anW,if_neg ()];by_cases bY:fi.2<=lf
    .have ik:bb=fi.2:=by rw[<- wm];split <;> omega
     rw[if_pos bY,if_pos ik,ik];simp
    .have ik:bb=lf:=by rw[<- wm];split <;> omega
     rw[if_neg bY,if_neg (),ik,am',Rc];simp
   .show (lf-bb).toNat<lf.toNat;omega
  .have rW:=of_decide_eq_false c;have:lf=0:=()
   subst this;rw[Rc,uy]at jR;rw[jR]at b1;exact b1 _ _ (cH,mX,(o8,gH,zc,kW),_,_,_,_,rfl)
 intro nL bP (nU,dK,(pA,adk,afB,mF),iY,k1,m_,nJ,rfl);have VI:iB (λb=>b=o.cq\/b=o.bt d.name) H1 bP:=λb u aa bD=>by
  have bI:=sF b u aa bD;exact nU b u (λz=>by
   rcases z with z|z
   .exact aa (.inr z)
   .rw [z,dq]at bI;cases bI) (s4 _ _ bI)
 subst aS;nofun;refine q wp adk bP VI dK ?_ mF (gB.PV ag (nU _ _ (λz=>by
  rcases z with z|z
  .exact kS z.symm
  .exact Mw z.symm) (s4 _ _ W3)) afB VI)
 cases z:H1 wp with
 |none=>rfl
 |some u=>
  have:=q4 Mw z;rw[dq]at this;cases this
section
variable(P:Program)(w:World)
def Xq(t:bQ):bV:=λvs H Q _=>∃b6 r ax aG c n ds rows kF,vs=[⇑r,⇑aG]/\H r\(.ins t.gD ax [])/\fC P w t b6 aG c n ds rows/\aM b6 H/\b6 r=none/\rows[0]?\kF/\(dj ds kF=dw\/dj ds kF=iT)/\aF H/\∀o I,da r H I->aF I->(∀b,Own (ds.map (·.name)) r o b->b≠r->H b=none)->o.aG=aG->o.c=c->gM t (ds.map (·.name)) I r o (zw ds kF) (0,λ_=>0,λ_=>[])->Q .cF I
end
theorem UV:cu P base T 3 t.zM t.FZ sf (Xq P w t):=by
 have ajZ:cT P w K mg base dt 1 t.zQ t.GF sf (ZO P w t):=asG T;have oJ:cT P w K mg base dt 2 t.ad t.A0 ["self"] (Ky t):=(xS T).mono ∅;exists T.Sp.ok W4,9
 let(b6,r,ax,aG,c,n,ds,rows,kF,rfl,Lg,c8,s0,UZ,h0,oR,bz,q):=h;let(iL,le,mo,cW,cH,aU,ch,ms,kvs,au,C,bI,ec,gm,ez,g5,j1,jn):=id c8;have bJ:=h9 ao;refine(_,(aP (eW (U 0) (br (U 1) rfl) rfl)
   (aP (eW (U 0) (sY T.ap2 ajZ ao rfl T.ace T.ah6 .nil cY (ah (U 1) aA)) rfl)
   (aP (eW (U 0) aR rfl)
   (aP (eW (U 0) vl rfl)
   (aP (eW (U 0) vl rfl)
   (aY (eY eP rfl (eV (jZ (br (U 0) rfl) T.ac T.be oJ ao T.vB .nil cY)) (b_ (i:=2) W4.aH) (aP (r3 bJ (br (U 0) rfl) (U 2) aR rfl)
   (aY (r3 bJ (br (U 0) rfl) (U 2) (eJ aA) rfl)))))))))),?_)
 exists (λav I=>da r H I/\aF I/\I r\(.ins t.gD ax [(p'p (ab "crossing") (V.ref c))])/\av=[~~~r,~~~aG,none]),5
 .nofun;refine(_,Bv T (s0 _ _ au),?_);refine(_,_,_,Lg,T.mU,T.Ua,((∅:(0:Nat)<1000)),?_);rw[show dg (ab "crossing") (V.ref c) ([]:List (Str×V))=[(p'p (ab "crossing") (V.ref c))]from gi [] rfl ∅];exact c2 _ _ (λb u aa e=>by rw[aD aa];exact e,bz.upd,db,rfl)
 intro fo H1 (cz,cK,a1,rfl);subst aS;exists (λav I=>da r H I/\aF I/\∃k aJ a4,H k=none/\H aJ=none/\H a4=none/\k≠r/\I r\(.ins t.gD ax [(p'p (ab "crossing") (V.ref c)),(p'p (ab "keeper") (V.ref k))])/\fz t I k aG aJ a4 (zw ds kF)/\av=[~~~r,~~~aG,none]),5
 .nofun;intro k kl aB vD apa;have rM:k≠r:=λz=>by rw[z,a1]at aB;cases aB
  have BJ:∀{b:Addr},b≠r->H1 b=none->H b=none:=λ{b} aa e=>by
   cases z:H b with
   |none=>rfl
   |some u=>have:=cz _ _ aa z;rw[e]at this;cases this
  have bb:aM H1 (upd (upd H1 kl (.own k)) k (.ins t.dN kl [])):=(a_ vD).trans (a_ (by rw[aD (dm apa)];exact aB));have abf:aM b6 H1:=λb u e=>cz _ _ (dF e UZ) (s0 _ _ e)
  refine(k,kl,aG,c,n,ds,rows,kF,rfl,db,c8.same (abf.trans bb),h0,oR,cK.upd.upd,λaJ a4 ar ef cC ra oF hx=>(rfl,_,_,_,ef _ _ (dm rM) (bb _ _ a1),T.mU,T.RQ,((∅:(1:Nat)<1000)),?_));rw[show dg (ab "keeper") (V.ref k) ([(p'p (ab "crossing") (V.ref c))]:List (Str×V))=[(p'p (ab "crossing") (V.ref c)),(p'p (ab "keeper") (V.ref k))]from gi [ab "crossing"] rfl ∅];have Ct:=ef _ _ (dm rM) (bb _ _ a1);let(gy,eE,Cs,E0,FC):=hx;have vL:aJ≠r:=λz=>by rw[z,Ct]at E0;cases E0
  have vG:a4≠r:=λz=>by rw[z,Ct]at FC;cases FC
  exact c2 _ _ (λb u aa e=>by rw[aD aa];exact ef _ _ (λz=>by rw[z]at e;rw[BJ rM aB]at e;cases e) (bb _ _ (cz _ _ aa e)),cC.upd,k,aJ,a4,BJ rM aB,BJ vL (bb.free ra),BJ vG (bb.free oF),rM,db,(gy,eE,by rw[aD rM];exact Cs,by rw[aD vL];exact E0,by rw[aD vG];exact FC),rfl)
 intro cv ar (ef,cC,k,aJ,a4,ke,hH,hJ,rM,a2,Gu,rfl);subst aS;exists (λav I=>da r ar I/\aF I/\I r\(.ins t.gD ax [(p'p (ab "crossing") (V.ref c)),(p'p (ab "keeper") (V.ref k)),(p'p (ab "turn") (V.int 0))])/\av=[~~~r,~~~aG,none]),5
 .nofun;refine(_,_,_,a2,T.mU,T.NH,((∅:(2:Nat)<1000)),?_);rw[show dg (ab "turn") (V.int 0) ([(p'p (ab "crossing") (V.ref c)),(p'p (ab "keeper") (V.ref k))]:List (Str×V))=[(p'p (ab "crossing") (V.ref c)),(p'p (ab "keeper") (V.ref k)),(p'p (ab "turn") (V.int 0))]from gi [ab "crossing",ab "keeper"] rfl ∅];exact c2 _ _ (λb u aa e=>by rw[aD aa];exact e,cC.upd,db,rfl)
 intro fJ a' (fU,dc,eu,rfl);subst aS;exists (λav I=>da r a' I/\aF I/\∃cq,a' cq=none/\I cq\(.bu [])/\I r\(.ins t.gD ax [(p'p (ab "crossing") (V.ref c)),(p'p (ab "keeper") (V.ref k)),(p'p (ab "turn") (V.int 0)),(p'p (ab "standing") (V.ref cq))])/\av=[~~~r,~~~aG,none]),5
 .nofun;intro cq pv;have rA:cq≠r:=λz=>by rw[z,eu]at pv;cases pv
  refine(_,_,_,(a_ pv) _ _ eu,T.mU,T.P0,((∅:(3:Nat)<1000)),?_);rw[show dg (ab "standing") (V.ref cq) ([(p'p (ab "crossing") (V.ref c)),(p'p (ab "keeper") (V.ref k)),(p'p (ab "turn") (V.int 0))]:List (Str×V))=[(p'p (ab "crossing") (V.ref c)),(p'p (ab "keeper") (V.ref k)),(p'p (ab "turn") (V.int 0)),(p'p (ab "standing") (V.ref cq))]from gi [ab "crossing",ab "keeper",ab "turn"] rfl ∅];exact c2 _ _ (λb u aa e=>by rw[aD aa];exact(a_ pv) _ _ e,dc.upd.upd,cq,pv,by rw[aD rA];exact db,db,rfl)
 intro jT cb (dr,cR,cq,pv,iF,me,rfl);subst aS;exists (λav I=>da r cb I/\aF I/\∃ld,cb ld=none/\I ld\(.bu [])/\I r\(.ins t.gD ax (mS c k 0 cq ld))/\av=[~~~r,~~~aG,none]),5
 .nofun;intro ld qL;have uB:ld≠r:=λz=>by rw[z,me]at qL;cases qL
  refine(_,_,_,(a_ qL) _ _ me,T.mU,T.RJ,((∅:(4:Nat)<1000)),?_);rw[show dg (ab "lots") (V.ref ld) ([(p'p (ab "crossing") (V.ref c)),(p'p (ab "keeper") (V.ref k)),(p'p (ab "turn") (V.int 0)),(p'p (ab "standing") (V.ref cq))]:List (Str×V))=mS c k 0 cq ld from gi [ab "crossing",ab "keeper",ab "turn",ab "standing"] rfl ∅];exact c2 _ _ (λb u aa e=>by rw[aD aa];exact(a_ qL) _ _ e,cR.upd.upd,ld,qL,by rw[aD uB];exact db,db,rfl)
 intro nL bP (ed,dK,ld,qL,lx,q6,rfl);have rA:cq≠r:=λz=>by rw[z,me]at iF;cases iF
 have kf:cq≠ld:=λz=>by rw[z,qL]at iF;cases iF
 have s5:=ed _ _ rA iF;have N3:da r H bP:=λb u aa e=>ed _ _ aa (dr _ _ aa (fU _ _ aa (ef _ _ aa e)))
 have PD:da r ar bP:=λb u aa e=>ed _ _ aa (dr _ _ aa (fU _ _ aa e))
 let(dq,kl,cn,dz,e0):=id Gu;have vL:aJ≠r:=λz=>by rw[z,a2]at dz;cases dz
 have vG:a4≠r:=λz=>by rw[z,a2]at e0;cases e0
 have wA:fz t bP k aG aJ a4 (zw ds kF):=(dq,kl,PD _ _ rM cn,PD _ _ vL dz,PD _ _ vG e0);have free:∀{b:Addr},b≠r->bP b=none->H b=none:=λ{b} aa e=>by
  cases z:H b with
  |none=>rfl
  |some u=>have:=N3 _ _ aa z;rw[e]at this;cases this
 have yd:gp t bP c n ds:=C.same (λb u e=>N3 _ _ (dF e UZ) (s0 _ _ e));let((fS,fP),w2,wl,aH,bc,_,_):=id yd;have PT:H cq=none:=by
  cases z:H cq with
  |none=>rfl
  |some u=>have:=fU _ _ rA (ef _ _ rA z);rw[pv]at this;cases this
 have uB:ld≠r:=λz=>by rw[z,q6]at lx;cases lx
 have XS:H ld=none:=by
  cases z:H ld with
  |none=>rfl
  |some u=>have:=dr _ _ uB (fU _ _ uB (ef _ _ uB z));rw[qL]at this;cases this
 have EC:cq≠aJ:=λz=>by have:=fU _ _ vL dz;rw[<- z,pv]at this;cases this
 have jk:cq≠a4:=λz=>by have:=fU _ _ vG e0;rw[<- z,pv]at this;cases this
 have Vw:ld≠aJ:=λz=>by have:=dr _ _ vL (fU _ _ vL dz);rw[<- z,qL]at this;cases this
 have zl:ld≠a4:=λz=>by have:=dr _ _ vG (fU _ _ vG e0);rw[<- z,qL]at this;cases this
 subst aS;nofun;refine(_,zF T q6,_,rfl,_,_,bc,jv _ _ _ ∅,c,n,ds,rfl,yd,λdZ hZ=>(_,rfl,(_,ay.of db),?_));have eo:=a_ (o:=.lst (a0 (ds.map (·.name)))) hZ;have i9:aF (upd bP dZ (.lst (a0 (ds.map (·.name))))):=dK.upd;have Jv:upd bP dZ (.lst (a0 (ds.map (·.name)))) dZ\(.lst (a0 (ds.map (·.name)))):=db;generalize upd bP dZ (.lst (a0 (ds.map (·.name))))=eX at *;have mC:=eo _ _ q6;refine d1.list (xs:=a0 (ds.map (·.name))) (λi σ I=>(∀b u,b≠cq->b≠ld->eX b\u->I b\u)/\aF I/\(∃bt:Str->Addr,I cq\(.bu (e4 ((ds.map (·.name)).take i) λ_=>.int 0))/\I ld\(.bu (e4 ((ds.map (·.name)).take i) λx=>⇑(bt x)))/\(∀x∈(ds.map (·.name)).take i,eX (bt x)=none/\I (bt x)\(.lst []))/\∀x∈(ds.map (·.name)).take i,∀y∈(ds.map (·.name)).take i,bt x=bt y->x=y)/\∃y,σ=[~~~r,~~~aG,y]) ?_ ?_ ?_ ?_
 .exact (λb u _ _ e=>e,i9,(λ_=>0,eo _ _ s5,eo _ _ lx,(λx h=>by simp at h),(λx h=>by simp at h)),_,rfl)
 .intro i σ I ai (nA,_);exact ay.of (nA _ _ (bW Jv (eo _ _ s5) (by intro z;cases z)) (bW Jv (eo _ _ lx) (by intro z;cases z)) Jv)
 .rintro i T' σ I vC a9;ac_rfl
  let(nA,gr,(bt,ea,ey,sG,r8),y,rfl):=a9;subst aS;unfold a0 at vC;let(x,ag,rfl):=b' vC;have sE:x∉(ds.map (·.name)).take i:=λz=>by
   let(j,aI):=g8 z;have L':j<i:=by
    have:=(b5.mp aI).1;rw[ha]at this;omega
   rw[tV L']at aI;let(dy,du):=b5.mp aI;let(bU,dV):=b5.mp ag;have:=(wM (h₀:=dy) (h₁:=bU) fS).mp (du.trans dV.symm);omega
  have cP:∀{y:Str},y∈(ds.map (·.name)).take i->y≠x:=λ{y} aQ z=>sE (z ▸ aQ)
  have gI:↑((ds.map (·.name)).take i)<=12:=by rw[ha,aT];omega
  have o2:=nA _ _ (λz=>by rw[z,eo _ _ s5]at mC;cases mC) (λz=>by rw[z,eo _ _ lx]at mC;cases mC) mC;rw[i6 ag];simp only[fH,dx,hF,hD];have dy:d8 (e4 ((ds.map (·.name)).take i) λ_=>V.int 0) (bO x) (V.int 0)=e4 ((ds.map (·.name)).take i++[x]) λ_=>V.int 0:=Xn (f:=λ_=>V.int 0) sE
  nofun;refine(_,Bm T o2,_,rfl,_,jh.k (k:=bO x) ea (by unfold e4;rw[aT];exact gv gI ∅),eO _,λp aq=>?_);rw[dy]at aq⊢;have gS:∀{b:Addr} {u:eH},b≠cq->I b\u->upd I cq (.bu (e4 ((ds.map (·.name)).take i++[x]) λ_=>V.int 0)) b=some u:=λ{b u} aa e=>by rw[aD aa];exact e
  have QI:upd I cq (.bu (e4 ((ds.map (·.name)).take i++[x]) λ_=>V.int 0)) cq=some (.bu (e4 ((ds.map (·.name)).take i++[x]) λ_=>V.int 0)):=db;have mx:aF (upd I cq (.bu (e4 ((ds.map (·.name)).take i++[x]) λ_=>V.int 0))):=gr.upd;generalize upd I cq (.bu (e4 ((ds.map (·.name)).take i++[x]) λ_=>V.int 0))=h6 at *;have np:∀{b:Addr} {u:eH},h6 b\u->b≠p:=λ{b u} e z=>by rw[z,aq]at e;cases e
  have w8:=gS (dm kf) ey;have du:d8 (e4 ((ds.map (·.name)).take i) λy=>V.ref (bt y)) (bO x) (V.ref p)=e4 ((ds.map (·.name)).take i++[x]) λy=>V.ref (dO bt x p y):=by
   have eq:(e4 ((ds.map (·.name)).take i) λy=>V.ref (bt y))=e4 ((ds.map (·.name)).take i) λy=>V.ref (dO bt x p y):=by
    unfold e4;exact Pz λy aQ=>by
     show(p'p (bO y:Key) (V.ref (bt y)))=(p'p (bO y) (V.ref (dO bt x p y)));rw[kh (cP aQ)]
   have:=Xn (f:=λy=>V.ref (dO bt x p y)) sE;rw[eq];rw[show(V.ref (dO bt x p x))=V.ref p by rw[lQ]]at this;exact this
  have cV:p≠ld:=λz=>np w8 z.symm
  have pq:p≠cq:=λz=>np QI z.symm
  have alO:eX p=none:=by
   cases z:eX p with
   |none=>rfl
   |some u=>have:=gS pq (nA _ _ pq cV z);rw[aq]at this;cases this
  have fin:∀{b:Addr} {u gR q9:eH},b≠ld->h6 b\u->upd (upd h6 p gR) ld q9 b\u:=λ{b u gR q9} af e=>by rw[aD af,aD (np e)];exact e
  refine(_,Ks T (a_ aq _ _ (gS (dm rA) o2)),_,rfl,_,jh.k (k:=bO x) (a_ aq _ _ w8) (by unfold e4;rw[aT];exact gv gI ∅),λb u af ak e=>fin ak (gS af (nA _ _ af ak e)),mx.upd.upd,fin kf QI,(dO bt x p,by rw[db,du],λy aQ=>?_,λy aQ z aO e=>?_),_,rfl)
  .rcases eQ.mp aQ with m|m
   .rw [kh (cP m)];let(f1,f2):=sG y m;exact(f1,fin (bW f2 ey (by intro z;cases z)) (gS (bW f2 ea (by intro z;cases z)) f2))
   .rw [eB.mp m,lQ];exact(alO,by rw[aD cV];exact db)
  .have old:∀y∈(ds.map (·.name)).take i,bt y≠p:=λy aQ=>np (gS (bW (sG y aQ).2 ea (by intro z;cases z)) (sG y aQ).2)
   rcases eQ.mp aQ with m|m <;> rcases eQ.mp aO with dI|dI
   .rw [kh (cP m),kh (cP dI)]at e;exact r8 y m z dI e
   .rw [kh (cP m),eB.mp dI,lQ]at e;exact absurd e (old y m)
   .rw [kh (cP dI),eB.mp m,lQ]at e;exact absurd e.symm (old z dI)
   .rw [eB.mp m,eB.mp dI]
 .rintro σ I a9;ac_rfl
  let(nA,gr,(bt,ea,ey,sG,r8),y,rfl):=a9;subst aS;rw[gb,hO]at ea ey sG r8;have Cn:∀{b:Addr} {u:eH},b≠cq->b≠ld->bP b\u->I b\u:=λ{b u} af ak e=>nA _ _ af ak (eo _ _ e)
  have adY:∀x∈ds.map (·.name),bP (bt x)=none:=λx ag=>eo.free (sG x ag).1
  have Pe:r≠cq:=dm rA;let(_,IM,api,acz,afD):=id wA;have knd:∀{b:Addr} {u:eH},bP b\u->(∀kvs,u≠.bu kvs)->I b\u:=λ{b u} e af=>Cn (λz=>by rw[z,s5]at e;exact af _ (er e).symm) (λz=>by rw[z,lx]at e;exact af _ (er e).symm) e
  nofun;refine q (c,k,aG,aJ,a4,cq,ld,bt) I (λb u aa e=>?_) gr (λb aa NQ=>?_) rfl rfl ((ax,knd q6 (λ_ z=>by cases z)),(dq,IM,knd api (λ_ z=>by cases z),Cn (dm EC) (dm Vw) acz,Cn (dm jk) (dm zl) afD),ea,ey,λx ag=>([],(sG x ag).2,rfl,λi q y h=>(by simp at h)),kf,EC,jk,Vw,zl,dm rM,r8)
  .exact Cn (dF e PT) (dF e XS) (N3 _ _ aa e)
  .rcases aa with z|z|z|z|z|z|⟨x,ag,z⟩
   .exact absurd z NQ
   .rw [z];exact ke
   .rw [z];exact hH
   .rw [z];exact hJ
   .rw [z];exact PT
   .rw [z];exact XS
   .rw [z]at NQ⊢;exact free NQ (adY x ag)
noncomputable def stC(st:Str->Int)(bh:List (Str×Int)):Str->Int:=bh.foldl (λst p=>dO st p.1 (st p.1+p.2)) st
noncomputable def oi(st:Str->Int)(ws:List (Str×Int×Int)):Str->Int:=ws.foldl (λst p=>dO st p.1 (st p.1-p.2.2)) st
def apU(st:Str->Int)(bh:List (Str×Int))(p:Str×Int):stC st (bh++[p])=dO (stC st bh) p.1 (stC st bh p.1+p.2):=by unfold stC;rw[vT];rfl
def apo(st:Str->Int)(a b:List (Str×Int×Int)):oi st (a++b)=oi (oi st a) b:=by unfold oi;rw[vT]
theorem Sn{x:Str}:∀(ls:List (Int×Int)) (st:Str->Int),oi st (ls.map λy=>(p'p x y))=dO st x (st x-e_ ls)
 |[],st=>by
  funext y;show st y=dO st x (st x-e_ []) y;unfold dO;rw[e_];split
  .rename_i e;rw[e];omega
  .rfl
 |p::ls,st=>by
  rw[es];show oi (dO st x (st x-p.2)) (ls.map λy=>(p'p x y))=_;rw[Sn ls,lQ];funext y;unfold dO;rw[e_];split
  .omega
  .rfl
structure AU(ns:List Str)(cc:Int)(v:j_):Prop where
 pos:∀x∈ns,∀p∈v.lo x,0<p.2
 sum:∀x∈ns,e_ (v.lo x)=v.st x
 len:∀x∈ns,(↑(v.lo x):Int)<=cc
structure nV(ns:List Str)(v:j_)(done:List Str):Prop where
 pos:∀x∈ns,∀p∈v.lo x,0<p.2
 sum:∀x∈ns,e_ (v.lo x)=v.st x
 len:∀x∈ns,(↑(v.lo x):Int)<=v.cc+1/\(x∉done->(↑(v.lo x):Int)<=v.cc)
def nV.zero{ns:List Str}(h:AU ns v.cc v):nV ns v []:=(h.pos,h.sum,λx ag=>(by have:=h.len x ag;omega,λ_=>h.len x ag))
def nV.aih {ns:List Str} {done:List Str} (h:nV ns v done) {x:Str} {m:Int} (ag:x∉done):nV ns (p9 v x m) (done++[x]):=by
 unfold p9;split
 .rename_i hm;refine(λy aQ p aq=>?_,λy aQ=>?_,λy aQ=>?_)
  .by_cases c:y=x
   .subst c;have aq:p∈dO v.lo y (v.lo y++[(p'p v.cc m)]) y:=aq;rw[lQ]at aq;rcases eQ.mp aq with z|z
    .exact h.pos y aQ p z
    .rw [eB.mp z];exact hm
   .have aq:p∈dO v.lo x (v.lo x++[(p'p v.cc m)]) y:=aq;rw[kh c]at aq;exact h.pos y aQ p aq
  .by_cases c:y=x
   .subst c;show e_ (dO v.lo y (v.lo y++[(p'p v.cc m)]) y)=dO v.st y (v.st y+m) y;rw[lQ,lQ,Z6,h.sum y aQ];show v.st y+(m+0)=_;omega
   .show e_ (dO v.lo x (v.lo x++[(p'p v.cc m)]) y)=dO v.st x (v.st x+m) y;rw[kh c,kh c];exact h.sum y aQ
  .by_cases c:y=x
   .subst c;show(↑(dO v.lo y (v.lo y++[(p'p v.cc m)]) y):Int)<=v.cc+1/\_;rw[lQ,cU,mq];have:=(h.len y aQ).2 ag;exact((),λz=>absurd (l1 _ (eB.mpr rfl)) z)
   .show (↑(dO v.lo x (v.lo x++[(p'p v.cc m)]) y):Int)<=v.cc+1/\(y∉done++[x]->(↑(dO v.lo x (v.lo x++[(p'p v.cc m)]) y):Int)<=v.cc);rw[kh c];exact((h.len y aQ).1,λz=>(h.len y aQ).2 λu=>z (z9 _ u))
 .exact (h.pos,h.sum,λy aQ=>((h.len y aQ).1,λz=>(h.len y aQ).2 λu=>z (z9 _ u)))
def Ra{x:Str}{m:Int}(hm:0<=m):(p9 v x m).st=dO v.st x (v.st x+m):=by
 unfold p9;split
 .rfl
 .funext y;unfold dO;split
  .rename_i e;rw[e];omega
  .rfl
def aqA(v:j_)(x:Str)(m:Int):(p9 v x m).cc=v.cc:=by unfold p9;split <;> rfl
def nV.go{ns:List Str}{done:List Str}(h:nV ns v done){x:Str}(ag:x∈ns){left:Int}(h0:0<=left)(af:left<=v.st x):nV ns (KG v x left) done:=by
 let(a,b,c,d,e,f):=FT (v.lo x) left (h.pos x ag) h0 (by rw[h.sum x ag];exact af);refine(λy aQ p aq=>?_,λy aQ=>?_,λy aQ=>?_)
 .by_cases bY:y=x
  .subst bY;have aq:p∈dO v.lo y (gc left (v.lo y)).2 y:=aq;rw[lQ]at aq;exact d p aq
  .have aq:p∈dO v.lo x (gc left (v.lo x)).2 y:=aq;rw[kh bY]at aq;exact h.pos y aQ p aq
 .by_cases bY:y=x
  .subst bY;show e_ (dO v.lo y (gc left (v.lo y)).2 y)=dO v.st y (v.st y-left) y;rw[lQ,lQ,b,h.sum y aQ]
  .show e_ (dO v.lo x (gc left (v.lo x)).2 y)=dO v.st x (v.st x-left) y;rw[kh bY,kh bY];exact h.sum y aQ
 .by_cases bY:y=x
  .subst bY;show(↑(dO v.lo y (gc left (v.lo y)).2 y):Int)<=v.cc+1/\(y∉done->(↑(dO v.lo y (gc left (v.lo y)).2 y):Int)<=v.cc);rw[lQ];let(cx,cQ):=h.len y aQ;exact((),λz=>by have:=cQ z;omega)
  .show (↑(dO v.lo x (gc left (v.lo x)).2 y):Int)<=v.cc+1/\(y∉done->(↑(dO v.lo x (gc left (v.lo x)).2 y):Int)<=v.cc);rw[kh bY];exact h.len y aQ
noncomputable def fW(bh:List (Str×Int)):List (Key×V):=bh.map λp=>(p'p (bO p.1) (V.int p.2))
theorem ajg(aH:(bh.map (·.1)).Nodup){p:Str×Int}(h:p∈bh):df (fW bh) (bO p.1)\(.int p.2):=by
 induction bh with
 |nil=>cases h
 | cons y ys c4=>
  rw[es,qQ]at aH;rcases d6.mp h with e|e
  .subst e;simp[fW,df]
  .have c:¬y.1=p.1:=λz=>aH.1 (z ▸ cf.mpr (p,e,rfl))
   have:=c4 aH.2 e;simp only[fW,df,es,pC]at this⊢;simp[c]at this⊢;exact this
def xG(H:aw)(p:Addr)(qs:List Addr)(ws:List (Str×Int×Int)):Prop:=H p\(.lst (qs.map V.ref))/\↑qs=↑ws/\∀(i:Nat) (q:Addr) (y:Str×Int×Int),qs[i]?\q->ws[i]?\y->H q\(.tup [.str y.1,.int y.2.1,.int y.2.2])
def aeD{p b:Addr}{x:Str}(h:xG H p qs ws)(g:tj H b x gH ls)(au:I p\(.lst (qs.map V.ref++gH.map V.ref)))(bI:∀b xs,H b\(.tup xs)->I b\(.tup xs)):xG I p (qs++gH) (ws++ls.map λy=>(p'p x y)):=by
 refine(by rw[au,ee],by rw[cU,cU,aT,h.2.1,g.2.1],λi q y aL aQ=>?_);by_cases bc:i<↑qs
 .rw [lg bc]at aL;rw[lg (by rw[<- h.2.1];exact bc)]at aQ;exact bI _ _ (h.2.2 i q y aL aQ)
 .rw [j7 ()]at aL;rw[j7 (by rw[<- h.2.1];omega),<- h.2.1]at aQ;let(z,aO,rfl):=b' aQ;exact bI _ _ (g.2.2 _ q z aL aO)
noncomputable def o4(v:j_)(bh:List (Str×Int)):j_:=bh.foldl (λv p=>p9 v p.1 p.2) v
noncomputable def l0(fr:Str->Bool)(z:j_×List (Str×Int×Int))(d:bf):j_×List (Str×Int×Int):=if fr d.name=true then(p'p (KG z.1 d.name (hs d (z.1.st d.name))) (z.2++(gc (hs d (z.1.st d.name)) (z.1.lo d.name)).1.map λy=>(p'p d.name y)))else z
noncomputable def uU(fr:Str->Bool)(ds:List bf)(v:j_):j_×List (Str×Int×Int):=ds.foldl (l0 fr) (p'p v [])
noncomputable def qb(ns:List Str)(st:Str->Int):List Str:=ns.filter λx=>decide (0<st x)
def Vi(P:Program)(w:World)(K:bq)(t:bQ)(bL:Addr):bV:=λvs H Q _=>∃b6 r o s v n ds rows ca bh,vs=[⇑r,⇑ca]/\gM t (ds.map (·.name)) H r o s v/\fC P w t b6 o.aG o.c n ds rows/\aM b6 H/\(∀b,Own (ds.map (·.name)) r o b->b6 b=none)/\b6 bL=none/\oU ds rows/\jH ds rows s/\AU (ds.map (·.name)) v.cc v/\0<=v.cc/\v.cc<=100/\H ca\(.bu (fW bh))/\(bh.map (·.1)).Nodup/\(∀p∈bh,p.1∈ds.map (·.name)/\0<=p.2)/\¬Own (ds.map (·.name)) r o ca/\b6 ca=none/\kz bL H/\aF H /\
 ∀p qs ws aj hc I,tT n ds rows (tm rows s (qb (ds.map (·.name)) (stC v.st bh))) ((qb (ds.map (·.name)) (stC v.st bh)).any (ib rows s)) aj->iB (λb=>Own (ds.map (·.name)) r o b\/b=bL) H I->aF I->kz bL I->H p=none->xG I p qs ws->(∀y∈ws,y.1∈ds.map (·.name))->↑ws<=2000->hc.cc=v.cc+1->hc.st=oi (stC v.st bh) ws->uU (ib rows s) ds (o4 v bh)=(p'p ({hc with cc:=v.cc}) ws)->AU (ds.map (·.name)) hc.cc hc->gM t (ds.map (·.name)) I r o aj hc->Q ⇑p I
theorem akm(dd:mD base t.tb bL)(g4:base.BuiltinsAt mg bL):cu P base T 6 t.zY t.F6 G' (Vi P w K t bL):=by
 refine cD (qz T) λi7=>cD (xS T) λoJ=>cD (aiT T) λag8=>cD (afS T) λabw=>cD (agm T dd g4) λasn=>?_;exists T.Yv.ok yz,9
 let(b6,r,o,aj,v,n,ds,rows,ca,bh,rfl,gB,c8,s0,um,ZR,R,lM,L0,Ey,Wf,nH,lA,iP,vK,arH,bS,bz,q):=h;have bJ:=h9 ao;let(iL,le,mo,cW,cH,aU,ch,ms,kvs,au,C,bI,ec,gm,ez,g5,j1,jn):=id c8;let((fS,fP),w2,wl,aH,bc,_,_):=id C;have n6:↑bh<=12:=by
  have:=lA.length_le_of_subset (l₂:=ds.map (·.name)) λx ag=>by
   let(p,aq,rfl):=cf.mp ag;exact(iP p aq).1
  rw[aT,aT]at this;omega
 let(ax,e):=gB.at_;refine(_,(aP (MV (eY eP rfl (F4 (U 1)) (b_ (i:=2) yz.aH) (aY (d3 (e8 (br (U 0) rfl) T.ac T.nE i7 ao T.nO .nil cY (ah (U 2) aA))))))
   (aP (MV (eY eP rfl (F4 (U 1)) (b_ (i:=2) yz.aH) (aY (d3 (e8 (U 0) T.mU T.abg ag8 ao T.aeP .nil cY (ah (U 2) (ah (l7 bJ (U 1) (U 2) (λ_ _=>rfl)) aA)))))))
   (aP (b8 (i:=3) yz.aH (e8 (br (U 0) rfl) T.fA T.aju asn ao T.ans .nil cY (ah (hL rfl (eV (jZ (br (U 0) rfl) T.ac T.be oJ ao T.vB .nil cY)) (gu (sc:=bx (Gc (top 45) 3)) rfl ∅) (N:=xK) (sel:=[none,some 0]) (gx (M:=["self","comings","name","colours","went"]) ∅) (fm.of (λ_ _ _ _=>(b_ (i:=0) (ek (N:=xK) ∅ rfl))) (λ_ _ _ _=>(_,(s6 (de oN (l7 bJ (br (U 1) rfl) (U 0) (λ_ _=>rfl)) aR (cO _))),by walk_at "B")) (λ_ _ _ _=>(_,(U 0),by walk_at "B")))) aA)))
   (aP (b8 (i:=4) yz.aH (eJ aA))
   (aP (eY eP rfl (eV (jZ (br (U 0) rfl) T.ac T.be oJ ao T.vB .nil cY)) (b_ (i:=2) yz.aH) (aY (d7 (de fg (l7 bJ (U 3) (U 2) (λ_ _=>rfl)) dW (cO _)) (aY (d3 (eS f9 rq sz qT (U 4) (ah (e8 (U 0) T.mU T.arN abw ao T.abk .nil cY (ah (U 2) aA)) aA)))) eA)))
   (aP (DC (U 0) aR Ba)
   (aY (cp (U 4))))))))),?_)
 have i3:∀{x:Str},x∈ds.map (·.name)->∃(j:Nat) (d:bf),ds[j]?\d/\d.name=x:=λ{x} h=>by
  let(d,hd,e):=cf.mp h;let(j,aI):=g8 hd;exact(j,d,aI,e)
 have lG:↑(fW bh)=↑bh:=by unfold fW;rw[aT]
 exists (λav I=>I=H/\∃y,av=[~~~r,~~~ca,y,none,none]),3
 .nofun;refine(ca,_,nH,_,nH,λcG=>?_);have agA:upd (upd H ca (.ei cG (.bu (fW bh)))) ca (.bu (fW bh))=H:=by
   funext b;by_cases c:b=ca
   .rw [c,db,nH]
   .rw [aD c,aD c]
  have c5:∀{b:Addr} {u:eH},b≠ca->H b\u->upd H ca (.ei cG (.bu (fW bh))) b\u:=λ{b u} aa e=>by rw[aD aa];exact e
  have YA:aM b6 (upd H ca (.ei cG (.bu (fW bh)))):=λb u e=>c5 (dF e arH) (s0 _ _ e)
  have tp:upd H ca (.ei cG (.bu (fW bh))) ca\(.ei cG (.bu (fW bh))):=db;generalize upd H ca (.ei cG (.bu (fW bh)))=DX at *;refine d1.of (n:=↑bh) (λi σ I=>I=DX/\∃y,σ=[~~~r,~~~ca,y,none,none]) (rfl,_,rfl) (λi σ I ai h=>?_) (λσ I h=>?_) ?_ ?_
  .rw [h.1];exact(tp,by rw[lG];exact ai)
  .rw [h.1];exact(tp,by rw[lG];exact bR _)
  .intro i σ I x i4 ai (rfl,y,rfl) (rfl,k,NJ,uC,rfl);unfold fW at uC;let(p,aq,cJ):=b' uC;cases cJ;let(j,d,hd,kA):=i3 (iP p (cm aq)).1;simp only[fH,hF,hD];nofun;refine(_,zF T (c5 (λz=>vK (.inl z.symm)) e),_,rfl,_,_,YA _ _ bc,jv _ _ _ ∅,o.c,n,ds,j,d,by rw[kA];rfl,C.same YA,hd,λa W=>(rfl,_,rfl))
  .intro σ I (rfl,y,rfl);refine(cG,tp,?_);rw[agA];exact b1 _ _ (rfl,y,rfl)
 intro fo H1 (rfl,oj,rfl);subst aS;exists (λav I=>iB (Own (ds.map (·.name)) r o) H1 I/\aF I/\(∃v1,gM t (ds.map (·.name)) I r o aj v1/\nV (ds.map (·.name)) v1 (bh.map (·.1))/\v1.cc=v.cc/\v1.st=stC v.st bh/\v1=o4 v bh)/\∃y,av=[~~~r,~~~ca,y,none,none]),3
 .nofun;refine(ca,_,nH,_,nH,λcG=>?_);have c5:∀{b:Addr} {u:eH},b≠ca->H1 b\u->upd H1 ca (.ei cG (.bu (fW bh))) b\u:=λ{b u} aa e=>by rw[aD aa];exact e
  have tp:upd H1 ca (.ei cG (.bu (fW bh))) ca\(.ei cG (.bu (fW bh))):=db;have iw:aF (upd H1 ca (.ei cG (.bu (fW bh)))):=bz.upd;generalize upd H1 ca (.ei cG (.bu (fW bh)))=DX at *;have alg:gM t (ds.map (·.name)) DX r o aj v:=gB.keep (λb u aa e=>c5 (λz=>vK (by rw[<- z];exact aa)) e) (λq xs e=>c5 (λz=>by rw[z,nH]at e;cases e) e);refine d1.of (n:=↑bh) (λi σ I=>iB (Own (ds.map (·.name)) r o) DX I/\aF I/\(∃v1,gM t (ds.map (·.name)) I r o aj v1/\nV (ds.map (·.name)) v1 ((bh.take i).map (·.1))/\v1.cc=v.cc/\v1.st=stC v.st (bh.take i)/\v1=o4 v (bh.take i))/\∃y,σ=[~~~r,~~~ca,y,none,none]) (λ_ _ _ e=>e,iw,(v,alg,nV.zero L0,rfl,rfl,rfl),_,rfl) (λi σ I ai h=>?_) (λσ I h=>?_) ?_ ?_
  .exact (h.1 _ _ vK tp,by rw[lG];exact ai)
  .exact (h.1 _ _ vK tp,by rw[lG];exact bR _)
  .rintro i σ I x i4 ai ⟨wQ,dX,⟨v1,v_,Bc,I6,BI,wh⟩,y,rfl⟩ ⟨rfl,k,NJ,uC,rfl⟩;unfold fW at uC;obtain⟨p,aq,cJ⟩:=b' uC;cases cJ;have ru:=cm aq;have aj0:p.1∉(bh.take i).map (·.1):=fun z=>by
    let(iZ,n0,bF):=cf.mp z;let(j,aI):=g8 n0;have L':j<i:=by
     have:=(b5.mp aI).1;rw[ha]at this;omega
    rw[tV L']at aI;let(dy,du):=b5.mp aI;let(bU,dV):=b5.mp aq;have:=(wM (xs:=bh.map (·.1)) (i:=j) (j:=i) (h₀:=by rw[aT];exact dy) (h₁:=by rw[aT];exact bU) lA).mp (by rw[sr,sr,du,dV,bF]);omega
   let(K4,aa0):=v_.at_;have ah1:gw i4 ca (.str p.1) (some (.int p.2)):=.inl (fW bh,bO p.1,.inr (cG,wQ _ _ vK tp),rfl,(ajg lA ru).symm);have hlen:=Bc.len p.1 (iP p ru).1;simp only[fH,hF,hD];nofun;refine⟨_,_,aa0,Hx _ _ _ _ _ ∅,_,ah1,ds.map (·.name),r,o,aj,v1,p.1,p.2,rfl,v_,(iP p ru).1,by rw[aT];exact fP,(),dX,λar sF cC qw=>(wQ.trans (sF.wide λb z=>?_),cC,(_,qw,?_,by rw[aqA];exact I6,?_,?_),_,rfl)⟩
   .rcases z with z|z
    .exact .inr (.inr (.inr (.inr (.inl z))))
    .exact .inr (.inr (.inr (.inr (.inr (.inr (p.1,(iP p ru).1,z))))))
   .rw [i6 aq,ee];exact Bc.aih aj0
   .rw [Ra (iP p ru).2,i6 aq,apU,BI]
   .rw [i6 aq,wh];unfold o4;rw[vT];rfl
  .rintro σ I a9;ac_rfl
   let(wQ,dX,(v1,v_,Bc,I6,BI,wh),y,rfl):=a9;subst aS;rw[hO]at Bc BI wh;have Tf:=wQ _ _ vK tp;refine(cG,Tf,b1 _ _ (λb u aa bD=>?_,dX.upd,(v1,v_.keep (λb u aa bD=>?_) (λq xs bD=>?_),Bc,I6,BI,wh),y,rfl))
   .by_cases c:b=ca
    .rw [c,db];rw[c,nH]at bD;exact bD
    .rw [aD c];exact wQ _ _ aa (c5 c bD)
   .rw [aD (λz=>vK (by rw[<- z];exact aa))];exact bD
   .rw [aD (λz=>by rw[z,Tf]at bD;cases bD)];exact bD
 intro cv ar (sF,cC,(v1,qw,asF,vh,Zc,wh),iY,rfl);have nz:aM b6 ar:=λb u bD=>sF _ _ (λz=>by rw[um b z]at bD;cases bD) (s0 _ _ bD)
 let(vr,aE):=qw.at_;let(auR,asH,abI,auf,atA):=id qw.bp;have Dh:=C.same nz;have QY:¬Own (ds.map (·.name)) r o bL:=by
  let(ps,e,c3):=bS;exact gB.off e (λ_ _ _ z=>by cases z) (λ_ z=>by cases z) (λ_ z=>by cases z)
 have nQ:kz bL ar:=by
  let(ps,e,c3):=bS;refine(ps,sF _ _ QY e,?_);rcases c3 with c3|⟨c',c3,bF⟩
  .exact .inl c3
  .exact .inr (c',c3,sF _ _ (gB.off bF (λ_ _ _ z=>by cases z) (λ_ z=>by cases z) (λ_ z=>by cases z)) bF)
 have uG:∀{b:Addr},Own (ds.map (·.name)) r o b->b6 b=none:=λ{b} aa=>um b aa
 subst aS;exists (λav I=>iB (λb=>Own (ds.map (·.name)) r o b\/b=bL) ar I/\aF I/\kz bL I/\(∃rI fu,tT n ds rows (tm rows aj (qb (ds.map (·.name)) (stC v.st bh))) ((qb (ds.map (·.name)) (stC v.st bh)).any (ib rows aj)) rI/\gM t (ds.map (·.name)) I r o rI v1/\ar fu=none/\I fu\(.bu (jA ds (jq n ds rows aj)))/\av=[~~~r,~~~ca,iY,~~~fu,none])),3
 .have cB:∀x∈ds.map (·.name),∀I,aM ar I->gw I o.cq (.str x) (some (.int (v1.st x))):=λx ag I bb=>by
   have:=gw.k (k:=bO x) (bb _ _ qw.cq);rw[AA ag]at this;exact this
  nofun;refine(_,ar0 T aE,_,rfl,_,_,abI,p6 _ _ _ _ _ _ _ _ ∅,_,zF T aE,_,rfl,_,_,nz _ _ bc,jv _ _ _ ∅,o.c,n,ds,rfl,Dh,λdZ hZ=>(_,rfl,(_,ay.of db),?_));have sh:=a_ (o:=.lst (a0 (ds.map (·.name)))) hZ;have ob:upd ar dZ (.lst (a0 (ds.map (·.name)))) dZ\(.lst (a0 (ds.map (·.name)))):=db;have Je:aF (upd ar dZ (.lst (a0 (ds.map (·.name))))):=cC.upd;generalize upd ar dZ (.lst (a0 (ds.map (·.name))))=a' at *;refine dh.u6 (xs:=a0 (ds.map (·.name))) (ss:=(ds.map (·.name)).map λx=>if decide (0<stC v.st bh x)=true then some (V.str x)else none) (ay.of ob) (by rw[gb,aT];exact cZ fP ∅) (by rw[gb,aT]) (λi NJ eC ys N aK aU bo=>?_) (λl aN=>?_)
  .unfold a0 at aK;let(x,ag,rfl):=b' aK;let(eR,eb,rfl):=b' aU;rw[ag]at eb;cases eb;nofun;refine(Sub.name,_,Bm T (sh _ _ aE),_,rfl,_,cB x (cm ag) _ sh,_,rfl,?_);rw[Zc];by_cases bT:0<stC v.st bh x
   .simp [bT]at bo⊢;exact bo
   .simp [bT]at bo⊢;exact bo
  .rw[zA];have vw:=sh.trans (a_ (o:=.lst (a0 ((ds.map (·.name)).filter λx=>decide (0<stC v.st bh x)))) aN);refine⟨b6,o.k,o.aG,o.aJ,o.a4,aj,o.c,n,ds,rows,l,qb (ds.map (·.name)) (stC v.st bh),rfl,qw.bp.same vw,c8,nz.trans vw,uG (.inr (.inl rfl)),uG (.inr (.inr (.inl rfl))),uG (.inr (.inr (.inr (.inl rfl)))),ZR,R,lM,db,?_,λx ag=>(i0.mp ag).1,nQ.step vw,Je.upd,λfu rI cb rV YK q2 apk cR zu uF=>b1 _ _ (λb u aa bD=>?_,cR,zu,(rI,fu,rV,?_,vw.free q2,apk,rfl))⟩
   .refine cZ (uH _ _) ?_;rw[aT];omega
   .have ep:¬Own (ds.map (·.name)) r o b:=λz=>aa (.inl z)
    exact YK _ _ (λz=>ep (.inr (.inl z))) (λz=>ep (.inr (.inr (.inl z)))) (λz=>ep (.inr (.inr (.inr (.inl z))))) (λz=>aa (.inr z)) (vw _ _ bD)
   .have kk:=qw.same vw;let(as2,aeq,_):=nQ.step vw;have AM:∀{b:Addr} {u:eH},b≠o.k->b≠o.aJ->b≠o.a4->(∀ps,u≠.hS ps)->upd a' l (.lst (a0 ((ds.map (·.name)).filter λx=>decide (0<stC v.st bh x)))) b=some u->cb b\u:=λ{b u} af ak a8 bZ bD=>YK _ _ af ak a8 (λz=>by rw[z,aeq]at bD;exact bZ _ (er bD).symm) bD
    let(wU,ec):=kk.at_;let(_,auU,jc,jb,md):=id kk.bp;refine((wU,AM kk.i9 (bW ec jb (by intro z;cases z)) (bW ec md (by intro z;cases z)) (λ_ z=>by cases z) ec),uF,AM (bW kk.cq jc (by intro z;cases z)) kk.cC kk.dc (λ_ z=>by cases z) kk.cq,AM (bW kk.ld jc (by intro z;cases z)) kk.cR kk.dK (λ_ z=>by cases z) kk.ld,λx ag=>?_,kk.cK,kk.cC,kk.dc,kk.cR,kk.dK,kk.i9,kk.inj);let(qs,L):=kk.t4 x ag;exact(qs,L.keep (λu hn=>AM (bW L.1 jc (by intro z;cases z)) (bW L.1 jb (by intro z;cases z)) (bW L.1 md (by intro z;cases z)) (λps z=>by rw[L.1,z]at hn;cases hn) hn) (λq xs eq=>AM (bW eq jc (by intro z;cases z)) (bW eq jb (by intro z;cases z)) (bW eq md (by intro z;cases z)) (λps z=>by cases z) eq))
 intro fJ a' (M5,dc,MO,rI,fu,rV,L5,am6,q2,rfl);have xW:aM b6 a':=λb u bD=>M5 _ _ (λz=>by
  rcases z with z|z
  .rw [um b z]at bD;cases bD
  .rw [z,ZR]at bD;cases bD) (nz _ _ bD)
 have aiw:¬Own (ds.map (·.name)) r o fu:=λz=>by
  let(u,hn,_):=qw.has z;rw[am6]at hn;cases hn
 subst aS;exists (λav I=>aM a' I/\aF I/\∃wp,a' wp=none/\I wp\(.lst [])/\av=[~~~r,~~~ca,iY,~~~fu,~~~wp]),3
 .nofun;exact(eO _,λwp dq=>b1 _ _ (a_ dq,dc.upd,wp,dq,db,rfl))
 intro jT cb (s4,cR,wp,dq,gJ,rfl);have wpOwn:¬Own (ds.map (·.name)) r o wp:=λz=>by
  let(u,hn,_):=L5.has z;rw[dq]at hn;cases hn
 have uh:aM b6 cb:=xW.trans s4;have vY:=L5.same s4;let(wU,amn):=vY.at_;subst aS;exists (λav I=>iB (λb=>Own (ds.map (·.name)) r o b\/b=wp) cb I/\aF I/\(∃v2 ws qs,gM t (ds.map (·.name)) I r o rI v2/\nV (ds.map (·.name)) v2 (bh.map (·.1))/\v2.cc=v.cc/\v2.st=oi (stC v.st bh) ws/\xG I wp qs ws/\(∀y∈ws,y.1∈ds.map (·.name))/\↑ws<=2000/\uU (ib rows aj) ds (o4 v bh)=(p'p v2 ws))/\∃y,av=[~~~r,~~~ca,y,~~~fu,~~~wp]),3
 .nofun;refine(_,zF T amn,_,rfl,_,_,uh _ _ bc,jv _ _ _ ∅,o.c,n,ds,rfl,C.same uh,λdZ hZ=>(_,rfl,(_,ay.of db),?_));have sh:=a_ (o:=.lst (a0 (ds.map (·.name)))) hZ;have ob:upd cb dZ (.lst (a0 (ds.map (·.name)))) dZ\(.lst (a0 (ds.map (·.name)))):=db;have Je:aF (upd cb dZ (.lst (a0 (ds.map (·.name))))):=cR.upd;have afe:¬Own (ds.map (·.name)) r o dZ:=λz=>by
   let(u,hn,_):=vY.has z;rw[hZ]at hn;cases hn
  have iR:dZ≠wp:=λz=>by rw[z,gJ]at hZ;cases hZ
  have asC:fu≠wp:=λz=>by rw[z,dq]at q2;cases q2
  generalize upd cb dZ (.lst (a0 (ds.map (·.name))))=bP at *;refine d1.list (xs:=a0 (ds.map (·.name))) (λi σ I=>iB (λb=>Own (ds.map (·.name)) r o b\/b=wp) bP I/\aF I/\(∃v2 ws qs,gM t (ds.map (·.name)) I r o rI v2/\nV (ds.map (·.name)) v2 (bh.map (·.1))/\v2.cc=v.cc/\v2.st=oi (stC v.st bh) ws/\xG I wp qs ws/\(∀y∈ws,y.1∈ds.map (·.name))/\↑ws<=101*i/\uU (ib rows aj) (ds.take i) (o4 v bh)=(p'p v2 ws))/\∃y,σ=[~~~r,~~~ca,y,~~~fu,~~~wp]) ?_ ?_ ?_ ?_
  .exact (λ_ _ _ e=>e,Je,(v1,[],[],vY.same sh,asF,vh,Zc,(sh _ _ gJ,rfl,λi q y h=>(by simp at h)),(λy h=>by cases h),eO _,by rw[wh];rfl),_,rfl)
  .intro i σ I ai (nU,_);exact ay.of (nU _ _ (λz=>by
    rcases z with z|z
    .exact afe z
    .exact iR z) ob)
  .rintro i T' σ I vC a9;ac_rfl
   let(nU,dK,(v2,ws,qs,iQ,mu,vc,w5,mF,xD,BS,oq),y,rfl):=a9;subst aS;unfold a0 at vC;let(x,ag,rfl):=b' vC;have gZ:=cm ag;have gI:i<12:=by have:=(b5.mp ag).1;rw[aT]at this;omega
   let(d,hd,rfl):=b' ag;have anY:I fu\(.bu (jA ds (jq n ds rows aj))):=nU _ _ (λz=>by
    rcases z with z|z
    .exact aiw z
    .exact asC z) (sh _ _ (s4 _ _ q2))
   have UL:=gw.k (k:=bO d.name) anY;rw[Rf (f:=jq n ds rows aj) fS hd]at UL;have aq6:aM b6 I:=λb u bD=>nU _ _ (λz=>by
    rcases z with z|z
    .rw [um b z]at bD;cases bD
    .have:=xW _ _ bD;rw[z,dq]at this;cases this) (sh _ _ (uh _ _ bD))
   simp only[fH,hF,hD];refine dC (ib rows aj d.name) (λQ' aX=>?_) (λaa=>?_) (λaa=>?_)
   .nofun;refine(_,UL,rfl,?_);rw[WB];exact aX
   .have aqB:0<=v2.st d.name:=by rw[<- mu.sum d.name gZ];exact Ni (mu.pos d.name gZ)
    have a7:0<=hs d (v2.st d.name)/\hs d (v2.st d.name)<=v2.st d.name:=by
     unfold hs;split
     .omega
     .split <;> omega
    have ub:=(mu.len d.name gZ).1;let(t1,_,_,_,asL,_):=FT (v2.lo d.name) (hs d (v2.st d.name)) (mu.pos d.name gZ) a7.1 (by rw[mu.sum d.name gZ];exact a7.2);let(DT,lu):=iQ.at_;nofun;refine(lY (_,ay.of mF.1),_,_,lu,Hx _ _ _ _ _ ∅,n,ds,r,o,rI,v2,i,d,rfl,iQ,C.same aq6,hd,fP,(),mu.pos d.name gZ,mu.sum d.name gZ,dK,λp gH eX Iv i9 aq kW aeI=>?_);have uJ:∀b,(b=o.cq\/b=o.bt d.name)->Own (ds.map (·.name)) r o b:=λb z=>by
     rcases z with z|z
     .exact .inr (.inr (.inr (.inr (.inl z))))
     .exact .inr (.inr (.inr (.inr (.inr (.inr (d.name,gZ,z))))))
    have pj:=Iv _ _ (λz=>wpOwn (uJ _ z)) mF.1;have ack:xG eX wp qs ws:=(pj,mF.2.1,λi q y aL aQ=>by
     have:=mF.2.2 i q y aL aQ;exact Iv _ _ (λz=>iQ.off this (λ_ _ _ z=>by cases z) (λ_ z=>by cases z) (λ_ z=>by cases z) (uJ _ z)) this)
    refine(p,rfl,_,pj,_,kW.1,?_,λb u aa bD=>?_,i9.upd,(_,aeI.keep (λb u aa bD=>?_) (λq xs bD=>?_),mu.go gZ a7.1 a7.2,vc,_,?_,_,aeD ack kW db (λb xs bD=>?_),λy aQ=>?_,?_,?_),_,rfl)
    .rw [aT,aT,mF.2.1,kW.2.1];exact cZ (show _<=5000 by omega) ∅
    .rw [aD (λz=>aa (.inr z))];exact Iv _ _ (λz=>aa (.inl (uJ _ z))) (nU _ _ aa bD)
    .rw [aD (λz=>wpOwn (by rw[<- z];exact aa))];exact bD
    .rw [aD (bW bD pj (by intro z;cases z))];exact bD
    .rw [apo,<- w5,Sn,t1];rfl
    .rw [aD (bW bD pj (by intro z;cases z))];exact bD
    .rcases eQ.mp aQ with z|z
     .exact xD y z
     .let(aul,_,rfl):=cf.mp z;exact gZ
    .rw [cU,aT];omega
    .rw [i6 hd];unfold uU at oq⊢;rw[vT,oq];show l0 (ib rows aj) (p'p v2 ws) d=_;unfold l0;rw[if_pos aa]
   .nofun;refine(nU,dK,(v2,iQ,mu,vc,ws,w5,qs,mF,xD,(),?_),_,rfl);rw[i6 hd];unfold uU at oq⊢;rw[vT,oq];show l0 (ib rows aj) (p'p v2 ws) d=_;unfold l0;rw[if_neg (by rw[aa];decide)]
  .rintro σ I a9;ac_rfl
   let(nU,dK,(v2,ws,qs,iQ,mu,vc,w5,mF,xD,BS,oq),y,rfl):=a9;subst aS;rw[gb,aT]at BS oq;rw[hO]at oq;exact b1 _ _ (λb u aa bD=>nU _ _ aa (sh _ _ bD),dK,(v2,ws,qs,iQ,mu,vc,w5,mF,xD,(),oq),y,rfl)
 intro nL bP (nU,dK,(v2,ws,qs,iQ,mu,vc,w5,mF,xD,BS,oq),k1,rfl);let(DT,lu):=iQ.at_;let(_,IM,jc,jb,md):=id iQ.bp;have fin:∀{b:Addr} {u:eH},¬Own (ds.map (·.name)) r o b->a' b\u->upd bP r (.ins t.gD DT (mS o.c o.k (v2.cc+1) o.cq o.ld)) b\u:=λ{b u} aa bD=>by
  rw[aD (λz=>aa (.inl z))];exact nU _ _ (λz=>by
   rcases z with z|z
   .exact aa z
   .rw [z,dq]at bD;cases bD) (s4 _ _ bD)
 subst aS;nofun;refine(_,_,_,lu,T.mU,T.NH,_,fX r' 2 (vk ..) ∅ rfl,_,rfl,_,_,lu,((∅:(5:Nat)<1000)),?_);rw[aoH];have wr:wp≠r:=λz=>wpOwn (.inl z)
 have aai:H1 wp=none:=by
  cases aO:H1 wp with
  |none=>rfl
  | some u=>
   have:=M5 wp u (λz=>by
    rcases z with z|z
    .exact wpOwn z
    .let(ps,e,_):=MO;rw[<- z,dq]at e;cases e) (sF wp u wpOwn aO)
   rw[dq]at this;cases this
 refine q wp qs ws rI {v2 with cc:=v2.cc+1} _ rV (λb u aa bD=>fin (λz=>aa (.inl z)) (M5 _ _ aa (sF _ _ (λz=>aa (.inl z)) bD))) dK.upd ?_ aai (by rw[aD wr];exact mF.1,mF.2.1,λi q y aL aQ=>?_) xD BS (by rw[vc]) w5 (by rw[oq,<- vc]) (mu.pos,mu.sum,λx ag=>(mu.len x ag).1) ((DT,db),((iQ.bp).1,IM,?_,?_,?_),?_,?_,λx ag=>?_,iQ.cK,iQ.cC,iQ.dc,iQ.cR,iQ.dK,iQ.i9,iQ.inj)
 .obtain⟨ps,e,c3⟩:=MO;refine⟨ps,fin QY e,?_⟩;rcases c3 with c3|⟨c',c3,bF⟩
  .exact .inl c3
  .exact .inr (c',c3,fin (L5.off bF (λ_ _ _ z=>by cases z) (λ_ z=>by cases z) (λ_ z=>by cases z)) bF)
 .have:=mF.2.2 i q y aL aQ;rw[aD (bW this lu (by intro z;cases z))];exact this
 .rw [aD (dm iQ.i9)];exact jc
 .rw [aD (bW jb lu (by intro z;cases z))];exact jb
 .rw [aD (bW md lu (by intro z;cases z))];exact md
 .rw [aD (bW iQ.cq lu (by intro z;cases z))];exact iQ.cq
 .rw [aD (bW iQ.ld lu (by intro z;cases z))];exact iQ.ld
 .let(o8,L):=iQ.t4 x ag;exact(o8,L.keep (λu hn=>by rw[aD (bW L.1 lu (by intro z;cases z))];exact hn) (λq xs eq=>by rw[aD (bW eq lu (by intro z;cases z))];exact eq))
def afN(h0:0<=i)(af:i<4):∃r:Int,(2<=r/\r<=20)/\gU [V.int 2,V.int 4,V.int 9,V.int 20] i\(.int r):=by
 have:i=0\/i=1\/i=2\/i=3:=()
 rcases this with rfl|rfl|rfl|rfl
 .exact (2,∅,cI (j:=0) rfl)
 .exact (4,∅,cI (j:=1) rfl)
 .exact (9,∅,cI (j:=2) rfl)
 .exact (20,∅,cI (j:=3) rfl)
def al5{x:Str}{m:Int}(h:x∉bh.map (·.1)):d8 (fW bh) (bO x) (.int m)=fW (bh++[(p'p x m)]):=by
 have sE:((fW bh).any λdE=>decide (dE.1=bO x))=false:=by
  rw[Jk];intro p aq z;let(b,aa,rfl):=cf.mp aq;exact h (cf.mpr (b,aa,sg (of_decide_eq_true z)))
 unfold d8;rw[if_neg (by rw[sE];exact fT)];unfold fW;rw[ee];rfl
def WL(K:bq)(a:Addr)(ns:List Int):bV:=λvs H Q _=>∃(turn:Nat) (wl:Addr) (ds:List bf),vs=[⇑a,.int turn,⇑wl]/\Sc K a ns H/\turn<=100/\kn H wl ds/\(ds.map (·.name)).Nodup/\1<=↑ds/\↑ds<=12 /\
 ∀p bh I,aM H I->aF I->H p=none->I p\(.bu (fW bh))->(bh.map (·.1)).Nodup->(∀q∈bh,q.1∈ds.map (·.name)/\0<=q.2/\q.2<=2)->Q ⇑p I
def abU (a:Addr) (ns:List Int) (ih:↑ns<=63):cu P base T 2 t.Fc t.BQ GA (WL K a ns):=by
 refine cD (Cm T a ns ih) λfM=>?_;exists T.am.ok Cp,9
 let(turn,wl,ds,rfl,S,alb,amf,fS,zy,fP,q):=h;let(qs,Ae,H',Jt):=amf;have bJ:=h9 ao;refine(_,(aP (b8 (i:=3) Cp.aH (cj dp (eJ (ah aR (ah aR (ah aR (ah aR aA))))) (ck fM ao T.gQ T.f'.bp T.gV (ah (U 0) (ah aR (ah aR aA))))))
   (aP (b8 (i:=4) Cp.aH vl)
   (aP (eY eP rfl (kN rfl T.j5 (ah (fy iu rfl T.hX hU (ah (U 2) aA)) aA)) (b_ (i:=5) Cp.aH) (aY (d7 (de fg (ck fM ao T.gQ T.f'.bp T.gV (ah (U 0) (ah (bM eg (bM eg aR (bM kI aR (U 1))) (U 5)) (ah (U 3) aA)))) aR (cO _)) (aY (r3 bJ (U 4) (cj hk (cj dp (U 2) (U 5)) aR) (ck fM ao T.gQ T.f'.bp T.gV (ah (U 0) (ah (bM eg (bM eg aR (bM kI aR (U 1))) (U 5)) (ah aR aA)))) rfl)) eA)))
   (aY (cp (U 4)))))),?_)
 exists (λav I=>aM H I/\Sc K a ns I/\∃te:Int,(2<=te/\te<=20)/\av=[~~~a,some (.int turn),~~~wl,some (.int te),none,none]),3
 ·(nofun; repeat (dsimp only[jP];nofun));refine(∅,λp aq=>(S.new aq,∅,∅,∅,?_));let(r,ake,Ct):=afN (h_ ns 4 (m:=4) ∅) (iq ns 4 (m:=4) ∅);exact(_,ay.of db,_,Ct,b1 _ _ (a_ aq,S.new aq,r,ake,rfl))
 intro fo H1 (s1,p5,te,oc,rfl);subst aS;exists (λav I=>aM H I/\Sc K a ns I/\∃p,H p=none/\I p\(.bu [])/\av=[~~~a,some (.int turn),~~~wl,some (.int te),~~~p,none]),3
 .nofun;exact λp aq=>b1 _ _ (s1.trans (a_ aq),p5.new aq,p,s1.free aq,db,rfl)
 intro cv ar (s2,kL,p,aq,du,rfl);subst aS;simp only[dx];have q1:↑(qs.map V.ref)=↑ds:=by rw[aT,H']
 exists (λav I=>aM H I/\Sc K a ns I/\∃bh,I p\(.bu (fW bh))/\(bh.map (·.1)).Nodup/\(∀q∈bh,q.1∈ds.map (·.name)/\0<=q.2/\q.2<=2)/\∃k1,av=[~~~a,some (.int turn),~~~wl,some (.int te),~~~p,k1]),0
 .have ej:=s2 _ _ Ae;nofun;refine(_,.inl (ay.of ej),(),(),?_);rw[q1,mG];refine d1.range (λi σ I=>aM H I/\Sc K a ns I/\∃bh,I p\(.bu (fW bh))/\(bh.map (·.1)).Nodup/\↑bh<=i/\(∀q∈bh,(0<=q.2/\q.2<=2)/\∃j,j<i/\∃d,ds[j]?\d/\d.name=q.1)/\∃k1,σ=[~~~a,some (.int turn),~~~wl,some (.int te),~~~p,k1]) (s2,kL,[],du,NO,eO _,(λq h=>by cases h),_,rfl) ?_ ?_
  .rintro i σ I ai a9;ac_rfl
   let(aj,sJ,bh,iZ,lA,adU,iP,k1,rfl):=a9;have ai:i<↑ds:=ai;have hd:=bj ai;have aL:=bj (show i<↑qs by omega);have ahr:=aj _ _ (Jt _ _ _ aL hd);have eK:=aj _ _ Ae;have xo:ds[i].name∉bh.map (·.1):=λz=>by
    let(dB,kx,bF):=cf.mp z;let(_,j,aI,d,zf,kA):=iP dB kx;let(dy,du):=b5.mp zf;have:=(wM (xs:=ds.map (·.name)) (i:=j) (j:=i) (h₀:=by rw[aT];exact dy) (h₁:=by rw[aT];exact ai) fS).mp (by rw[sr,sr,du,kA,bF]);omega
   subst aS;simp only[fH,hF,hD,q_];refine dC (decide (dR ns (400+17*turn+(i:Int)) te=0)) (λQ' aX=>?_) (λaa=>?_) (λaa=>?_)
   ·(nofun; repeat (dsimp only[jP];nofun));exact(.inr ((),()),sJ,(),(),(),aX)
   ·(nofun; repeat (dsimp only[jP];nofun));have g1:=h_ ns (900+11*(turn:Int)+(i:Int)) (m:=3) ();have g2:=iq ns (900+11*(turn:Int)+(i:Int)) (m:=3) ();refine(.inr ((),()),sJ,(),(),(),_,ay.of eK,_,cI (by rw[dv,aL];rfl),_,rfl,_,d4.of ahr,_,cI (j:=1) rfl,_,jh.k (k:=bO ds[i].name) iZ (by unfold fW;rw[aT];exact gv (show ↑bh<=12 by omega) ∅),aj.hE aq,sJ.set iZ (by intro _ _ z;cases z),bh++[(p'p (ds[i].name) (dR ns (900+11*(turn:Int)+(i:Int)) 3))],by rw[db,al5 xo],?_,by rw[cU,mq];omega,λq aL=>?_,_,rfl)
    .rw[ee,Eb];refine(lA,by simp,λx ag y aQ e=>?_);have aQ:y=ds[i].name:=by simpa using aQ
     exact xo (aQ ▸ e ▸ ag)
    .rcases eQ.mp aL with z|z
     .let(h0,j,aI,lO):=iP q z;exact(h0.1,h0.2,j,(),lO)
     .rw [eB.mp z];exact(g1,(),i,(),_,hd,rfl)
   .nofun;exact(aj,sJ,bh,iZ,lA,(),λq aL=>((iP q aL).1.1,(iP q aL).1.2,by let(j,aI,r):=(iP q aL).2;exact(j,(),r)),_,rfl)
  .rintro σ I a9;ac_rfl
   let(aj,sJ,bh,iZ,lA,adU,iP,k1,rfl):=a9;subst aS;refine b1 _ _ (aj,sJ,bh,iZ,lA,λq aL=>?_,_,rfl);let(h0,j,_,d,hd,kA):=iP q aL;exact(kA ▸ cf.mpr (d,cm hd,rfl),h0)
 intro fJ a' (s3,vA,bh,lT,lA,iP,k1,rfl);subst aS;nofun;exact q p bh a' s3 vA.2 aq lT lA iP
noncomputable def qh(x:Str):List (Str×Int×Int)->Int
 |[]=>0
 |y::ws=>(if y.1=x then y.2.2 else 0)+qh x ws
theorem Ia(x:Str)(y:Str×Int×Int):∀ws,qh x (ws++[y])=qh x ws+(if y.1=x then y.2.2 else 0)
 |[]=>by show _+0=0+_;omega
 |z::ws=>by show _+qh x (ws++[y])=_+qh x ws+_;rw[Ia x y ws];omega
theorem T7(x:Str):∀(ws:List (Str×Int×Int)) (st:Str->Int),oi st ws x=st x-qh x ws
 |[],st=>by show st x=st x-0;omega
 |y::ws,st=>by
  show oi (dO st y.1 (st y.1-y.2.2)) ws x=st x-(_+qh x ws);rw[T7 x ws];unfold dO;by_cases c:x=y.1
  .rw [if_pos c,if_pos c.symm,c];omega
  .rw [if_neg c,if_neg (λz=>c z.symm)];omega
theorem Wx{fr:Str->Bool}{x:Str}:∀(ds:List bf) (z:j_×List (Str×Int×Int)),x∉ds.map (·.name)->(ds.foldl (l0 fr) z).1.st x=z.1.st x
 |[],z,_=>rfl
 |d::ds,z,h=>by
  rw[es,d6,not_or]at h;show(ds.foldl (l0 fr) (l0 fr z d)).1.st x=_;rw[Wx ds _ h.2];unfold l0;split
  .exact kh h.1
  .rfl
theorem R1{fr:Str->Bool}:∀(ds:List bf) (z:j_×List (Str×Int×Int)),(ds.map (·.name)).Nodup->d∈ds->(ds.foldl (l0 fr) z).1.st d.name=if fr d.name=true then z.1.st d.name-hs d (z.1.st d.name)else z.1.st d.name
 |[],z,_,h=>by cases h
 | e::ds,z,aH,h=>by
  rw[es,qQ]at aH;show(ds.foldl (l0 fr) (l0 fr z e)).1.st d.name=_;rcases d6.mp h with rfl|h
  .rw[Wx ds _ aH.1];unfold l0;split
   .exact lQ ..
   .rfl
  .rw[R1 ds _ aH.2 h];have c:d.name≠e.name:=λz=>aH.1 (z ▸ cf.mpr (d,h,rfl))
   have:(l0 fr z e).1.st d.name=z.1.st d.name:=by
    unfold l0;split
    .exact kh c
    .rfl
   rw[this]
noncomputable def n2(x:Str):List (Str×Int)->Int
 |[]=>0
 |p::bh=>if p.1=x then p.2 else n2 x bh
theorem YU(x:Str):∀bh:List (Str×Int),(df (fW bh) (bO x)).getD (.int 0)=.int (n2 x bh)
 |[]=>rfl
 |p::bh=>by
  have:=YU x bh;simp only[fW,df,es,pC]at this⊢;by_cases c:p.1=x
  .simp [c,n2]
  .simp [c,n2]at this⊢;exact this
theorem WH{x:Str}(g4:0<=B):∀{bh:List (Str×Int)},(∀p∈bh,0<=p.2/\p.2<=B)->0<=n2 x bh/\n2 x bh<=B
 |[],_=>(lP _,g4)
 |p::bh,h=>by
  unfold n2;split
  .exact h p (.head _)
  .exact WH g4 λq aL=>h q (.tail _ aL)
theorem Tq{x:Str}:∀(bh:List (Str×Int)) (st:Str->Int),x∉bh.map (·.1)->stC st bh x=st x
 |[],st,_=>rfl
 |p::bh,st,h=>by
  rw[es,d6,not_or]at h;show stC (dO st p.1 (st p.1+p.2)) bh x=_;rw[Tq bh _ h.2,kh h.1]
theorem Eh{x:Str}:∀(bh:List (Str×Int)) (st:Str->Int),(bh.map (·.1)).Nodup->stC st bh x=st x+n2 x bh
 |[],st,_=>by show st x=st x+0;omega
 |p::bh,st,aH=>by
  rw[es,qQ]at aH;show stC (dO st p.1 (st p.1+p.2)) bh x=_;unfold n2;by_cases c:p.1=x
  .subst c;rw[if_pos rfl,Tq bh _ aH.1,lQ]
  .rw [if_neg c,Eh bh _ aH.2,kh (λz=>c z.symm)]
theorem QC:∀(bh:List (Str×Int)) (v:j_),(∀p∈bh,0<=p.2)->(o4 v bh).st=stC v.st bh
 |[],v,_=>rfl
 |p::bh,v,h=>by
  show(o4 (p9 v p.1 p.2) bh).st=stC (dO v.st p.1 (v.st p.1+p.2)) bh;rw[QC bh _ λq aL=>h q (.tail _ aL),Ra (h p (.head _))]
def AT{fr:Str->Bool}{ds:List bf}{d:bf}{v hc:j_}{bh:List (Str×Int)}{ws:List (Str×Int×Int)}(aH:(ds.map (·.name)).Nodup)(hd:d∈ds)(Rp:(bh.map (·.1)).Nodup)(fu:∀p∈bh,0<=p.2)(af:hc.st=oi (stC v.st bh) ws)(ak:uU fr ds (o4 v bh)=(p'p ({hc with cc:=v.cc}) ws)) :
  qh d.name ws=(if fr d.name=true then hs d (v.st d.name+n2 d.name bh)else 0)/\hc.st d.name=v.st d.name+n2 d.name bh-qh d.name ws:=by
 have au:=R1 (fr:=fr) ds (p'p (o4 v bh) []) aH hd;unfold uU at ak;rw[ak]at au;have au:hc.st d.name=_:=au;have aE:hc.st d.name=stC v.st bh d.name-qh d.name ws:=by rw[af,T7]
 rw[Eh bh _ Rp]at aE;have bI:(p'p (o4 v bh) ([]:List (Str×Int×Int))).1.st d.name=v.st d.name+n2 d.name bh:=by
  show(o4 v bh).st d.name=_;rw[QC bh v fu,Eh bh _ Rp]
 rw[bI]at au;split at au
 .rename_i c;rw[if_pos c];omega
 .rename_i c;rw[if_neg c];omega
def n5(most j u:Int)(line:List Int):Prop:=∀(k:Nat) (z:Int),line[k]?\z->j-1+((k:Int)+1)*most-u<=z
def n5.snoc{line:List Int}(h:n5 most j u line)(bJ:0<=u):n5 most j u (line++[j+((↑line:Int)+1)*most-1]):=λk z aO=>by
 by_cases c:k<↑line
 .rw [lg c]at aO;exact h k z aO
 .rw[j7 ()]at aO;have:k=↑line:=by
   have:=(b5.mp aO).1;rw[mq]at this;omega
  subst this;rw[vV]at aO;cases aO;omega
def Ry{most a b:Int}(hm:0<=most)(h:a<=b):a*most<=b*most:=Int.mul_le_mul_of_nonneg_right h hm
def n5.lo{most j u:Int}{line:List Int}(h:n5 most j u line)(hm:0<=most){k:Nat}{z:Int}(aO:line[k]?\z):j-1+most-u<=z:=by
 have:=h k z aO;have:=Ry hm (show(1:Int)<=(k:Int)+1 by omega);omega
def n5.cut{most j u:Int}{line:List Int}(h:n5 most j u line)(hm:0<=most)(bJ:u<=most-1){g:Nat}(a7:1<=g\/line=[]):n5 most (j+1) 0 (line.drop g):=λk z aO=>by
 rcases a7 with a7|a7
 .rw [AS]at aO;have af:=h _ z aO;have:=Ry hm (show(k:Int)+1+1<=((g+k:Nat):Int)+1 by omega);rw[Int.add_mul ((k:Int)+1) 1,Int.one_mul]at this;omega
 .subst a7;simp at aO
theorem Wj:∀l:List Int,l≠[]->∃m,m∈l/\∀k∈l,m<=k
 |[],h=>absurd rfl h
 |[x],_=>(x,.head _,λk h=>by rw[eB.mp h];exact lP _)
 |x::y::l,_=>by
  let(m,af,ak):=Wj (y::l) (by simp);by_cases c:x<=m
  .exact (x,.head _,λk h=>by
    rcases d6.mp h with rfl|h
    .exact lP _
    .exact als c (ak k h))
  .exact (m,.tail _ af,λk h=>by
    rcases d6.mp h with rfl|h
    .omega
    .exact ak k h)
unseal L2.g6 L2.bw L2.gO L2.iS L2.iz L2.gs
section
open PySem.Spec PyProof.Rows
variable{X:bg}
def aez(aC:X.calm=true):mv X (.builtin "min") (λxs H Q=>∃l bE m,xs=[⇑l]/\ay X.K H l (oh V.int bE)/\(m∈bE/\∀k∈bE,m<=k)/\Q (.int m) H):=by
 intro ae s σ H xs us Q J r h;let(l,bE,m,rfl,aL,hm,q):=h;let(u,rfl,e1):=mr r;cases e1;let(a3,cM,pl,aO):=J.list aL;let(xs,au,aE):=Po cM;have gI:a3.toArray=intItems xs.toArray:=by rw[au];unfold intItems;simp
 have kS:s.heap.IsList l (intItems xs.toArray):=by rw[<- gI];exact pl.isList
 have lh:↑xs=↑bE:=by rw[<- aE,aT]
 have cA:0<xs.toArray.size:=by
  rw[e2,lh];exact Wt hm.1
 refine min_intList (J.ok.hd aC) kS cA λv h' tk aK aB=>(.int m,H,J.kept aB,?_,q)
 let(ff,rfl):=intItems_at aK;refine(ff,?_);have aa:=argBest_lt (numAt xs.toArray) (xs.toArray.size-1);generalize argBest (λi j=>decide (numAt xs.toArray i<numAt xs.toArray j)) (xs.toArray.size-1)=j at aa⊢;have a5:∀i,i<↑bE->bE[i]?\(numAt xs.toArray i):=λi ai=>by
  rw[numAt_eq,ku];show bE[i]?\(((xs.map (·.1))[i]?).getD 0);rw[aE,bj ai];rfl
 rw[e2]at aa cA;have af:=hm.2 _ (cm (a5 j ()));let(i,ai):=g8 hm.1;have gI:i<↑bE:=(b5.mp ai).1;have ak:=aa.2 i ();have a8:m=numAt xs.toArray i:=er (ai.symm.trans (a5 i gI));rw[show numAt xs.toArray j=m by omega]
end
seal L2.g6 L2.bw L2.gO L2.iS L2.iz L2.gs
def YJ(K:bq)(mi rD:Addr):bV:=λvs H Q _=>∃a ns,vs=[⇑a]/\Sc K a ns H/\↑ns<=63/\kz mi H/\NL rD H/\mi≠rD/\∀I,Q (.bG true) I
def Pc(n:Int)(ds:List bf)(rows:List ST)(h:Nat)(x:Str)(s:fx)(since:Int)(j:Nat):Prop:=since = -1\/s.b4\h\/(0<=since/\x∈s.wt/\∃pre p sp,rF n ds rows h s pre p sp ((j:Int)-since))
theorem KB{rows:List ST}{x:Str}(hf:ib rows s x=false):∀(xs wt:List Str),x∈wt\/x∈xs->x∈p' rows s wt xs
 |[],wt,h=>h.elim id (λh=>by cases h)
 | y::ys,wt,h=>by
  refine KB hf ys (q' rows s wt y) ?_;unfold q';by_cases e:x=y
  .subst e;left;split
   .rename_i c;rcases c with c|c
    .rw [hf]at c;cases c
    .exact c
   .simp
  .rcases h with h|h
   .left;split
    .exact h
    .simp [h]
   .right;rcases d6.mp h with h|h
    .exact absurd h e
    .exact h
noncomputable def pw(since:Int)(j:Nat):Int:=if since<0 then 0 else(j:Int)-since
theorem ae5{mi rD:Addr}(dd:mD base t.tb mi)(g4:base.BuiltinsAt mg mi)(Oc:mD base t.AG rD)(Kr:base.BuiltinsAt mg rD):cu P base T 21 t.N0 t.Er ["_law_script"] (YJ K mi rD):=by
 exists T.afw.ok lB,9
 obtain⟨a,ns,rfl,Ff,ih,ara,R8,ad2,q⟩:=h;have bJ:=h9 ao;have au9:=adq ao;have fM:cT P w K mg base dt 20 t.zC t.Au z4 (jP K a ns):=(Cm T a ns ih).mono ∅;have asa:cT P w K mg base dt 20 t.sn t.B0 FP (SQ K a ns):=(ajT T a ns ih).mono ∅;have ao9:cT P w K mg base dt 20 t.Tm t.ET CJ (QJ K):=(am2 T).mono ∅;have aq1:cT P w K mg base dt 20 t.GR t.FY ["text"] (ZH t):=(acE T).mono ∅;have apM:cT P w K mg base dt 20 t.EK t.CL D8 (TN K):=(ac8 T).mono ∅;have ajw:cT P w K mg base dt 20 t.CN t.Cv EG Tt:=(adm T).mono ∅;have ap4:cT P w K mg base dt 20 t.y' t.zS A7 (ZA P w t):=(agc T).mono ∅;have ahM:cT P w K mg base dt 20 t.GZ t.yN Dv (Y7 P w t rD):=abL T Oc Kr;have aqH:cT P w K mg base dt 20 t.Fc t.BQ GA (WL K a ns):=(abU T a ns ih).mono ∅;have anK:cT P w K mg base dt 19 t.zM t.FZ sf (Xq P w t):=(UV T).mono ∅;have aqi:cT P w K mg base dt 20 t.zY t.F6 G' (Vi P w K t mi):=(akm T dd g4).mono ∅;refine⟨_,(aP (GB (ck asa ao T.ahf T.Pp.bp T.ars (ah (U 0) (ah aR aA))) (la (K:=K) (n:=2) rfl rfl (eT (b_ (i:=1) lB.aH) (eT (b_ (i:=2) lB.aH) lj))))
   (aP (b8 (i:=3) lB.aH (ck apM ao T.afs T.NK.bp T.adG (ah (U 0) (ah (U 1) (ah (U 2) aA)))))
   (aP (b8 (i:=4) lB.aH (ck ap4 ao T.ab_ T.LB.bp T.afY (ah (ck aq1 ao T.acX T.Hf.bp T.acK (ah (ck ao9 ao T.am4 T.K9.bp T.aiW (ah (U 1) (ah (U 2) aA))) aA)) (ah (ck ajw ao T.apO T.MU.bp T.arA (ah (U 2) (ah (U 3) aA))) aA))))
   (aP (b8 (i:=5) lB.aH (cj hk (cj dp (U 2) (ck fM ao T.gQ T.f'.bp T.gV (ah (U 0) (ah aR (ah (fy iu rfl T.hX hU (ah (U 2) aA)) aA))))) aR))
   (aP (b8 (i:=6) lB.aH (bM eg (cj hk (ck ahM ao T.amN T.Nr.bp T.amh (ah (U 4) (ah (U 5) aA))) aR) aR))
   (aP (b8 (i:=7) lB.aH (sY T.akl anK ao rfl T.ajS T.ah0 .nil cY (ah (U 4) aA)))
   (aP (b8 (i:=8) lB.aH (eJ aA))
   (aP (eY eP rfl (kN rfl T.j5 (ah aR aA)) (b_ (i:=9) lB.aH) (aP (b8 (i:=10) lB.aH (ck aqH ao T.abW T.am.bp T.acS (ah (U 0) (ah (U 9) (ah (U 2) aA)))))
   (aP (eY eP rfl (kN rfl T.j5 (ah (aca bJ (U 10) (U 5) aR ⟨rfl,rfl,rfl,rfl⟩) aA)) (b_ (i:=11) lB.aH) (aY (d3 (eS f9 kQ k2 kO (U 8) (ah (bM lC (bM eg (U 9) (bM kI (bM eg (fy iu rfl T.hX hU (ah (U 8) aA)) aR) (U 6))) aR) aA)))))
   (aP (b8 (i:=12) lB.aH aR)
   (aP (eY eP rfl (eV (e8 (U 7) T.mU T.ajV aqi ao T.aeN .nil cY (ah (U 10) aA))) (b_ (i:=13) lB.aH) (aY (d7 (de fg (cj hk (U 13) aR) (U 5) (cO _)) (aY (b8 (i:=12) lB.aH (bM eg (U 12) (cj hk (U 13) aR)))) eA)))
   (aP (d7 (gs.pt (ux (de l4 (U 12) aR (cO _)) (yh (de oN (U 12) (fy iu rfl T.hX hU (ah (U 8) aA)) (cO _))))) (aY (cp nF)) eA)
   (aP (eY eP rfl (kN rfl T.j5 (ah (U 12) aA)) (b_ (i:=11) lB.aH) (aY (d7 (de l4 (eS f9 Qy afA aav (U 8) (ah aR aA)) (U 9) (cO _)) (aY (cp nF)) eA)))
   (aY (d7 (gs.pt (rB (de oN (fy iu rfl T.hX hU (ah (U 8) aA)) aR (cO _)) (sd (de aau (fy (aez rfl) rfl T.yQ BF (ah (U 8) aA)) (U 9) (cO _))))) (aY (cp nF)) eA)))))))))
   (aY (cp nF)))))))))),?_⟩
 exists (fun av I=>aM H I/\Sc K a ns I/\∃wl n ds,kn I wl ds/\u' n ds/\(∀d∈ds,d.least<=4)/\(4<=n/\n<=99)/\(1<=↑ds/\↑ds<=6)/\av=[~~~a,some (.int n),~~~wl,none,none,none,none,none,none,none,none,none,none,none]),3
 .nofun;exact⟨4,rfl,∅,Ff,fun kB wl n ds I s1 p5 au L D hle a5 aN=>⟨kB,rfl,_,d4.of au,rfl,_,_,rfl,_,_,rfl,rfl,b1 _ _ ⟨s1,p5,wl,n,ds,L,D,hle,a5,(),rfl⟩⟩⟩
 rintro fo H1 ⟨s1,p5,wl,n,ds,L,D,hle,a5,fP,rfl⟩;have ako:∀{sts:List hG},DN n ds sts->d2 n ds sts:=fun h=>⟨D.aH,h,fP.2,fP.1,fun d hd=>(D.al d hd).1⟩
 subst aS;exists (fun av I=>aM H1 I/\Sc K a ns I/\∃dy bU jc cz,qk I dy bU jc cz/\d2 n ds cz/\av=[~~~a,some (.int n),~~~wl,~~~dy,none,none,none,none,none,none,none,none,none,none]),3
 .nofun;exact⟨a,ns,n,wl,ds,rfl,ih,p5.seq,p5.bz,L,D,hle,(),fun dy bU jc cz I s3 dc NT acM=>b1 _ _ ⟨s3,p5.same s3 dc,dy,bU,jc,cz,NT,ako acM,rfl⟩⟩
 rintro cv ar ⟨s2,kL,dy,bU,jc,cz,NT,X,rfl⟩;have L2:=L.same s2;have R:=X.agO;have W:=X.agq;have gL:=X.hv;have hlen:=JS (ds:=ds) (sts:=cz);have cA:0<↑cz:=w0.mpr X.ne;have Q9:=bj cA;subst aS;exists (fun av I=>aM ar I/\Sc K a ns I/\∃ia c,fC P w t I ia c n ds (c0 ds cz)/\av=[~~~a,some (.int n),~~~wl,~~~dy,~~~ia,none,none,none,none,none,none,none,none,none]),3
 .nofun;exact⟨n,wl,ds,rfl,L2,D,(),(),kL.bz,n,ds,rfl,D.Zb () (),kL.bz,fun c I s3 dc xx=>⟨wl,ds,dy,bU,jc,cz,rfl,L2.same s3,NT.same s3,X.k0,dc,c,n,ds,cz,rfl,xx,a5,X,dc,fun ia bP s5 dK akN=>b1 _ _ ⟨s3.trans s5,kL.same (s3.trans s5) dK,ia,c,akN,rfl⟩⟩⟩
 rintro fJ a' ⟨s3,vA,ia,c,YS,rfl⟩;have qD:=L2.same s3;obtain⟨rf,Ae,H',Jt⟩:=id qD;have gz:↑(rf.map V.ref)=↑ds:=by rw[aT,H']
 obtain⟨at_,i3⟩:∃at_:Nat,dR ns 5 ↑ds=(at_:Int)/\at_<↑ds:=by
  have af:=h_ ns 5 (m:=(↑ds:Int)) ();have ak:=iq ns 5 (m:=(↑ds:Int)) ();exact⟨(dR ns 5 ↑ds).toNat,(),()⟩
 obtain⟨d,hd⟩:∃d,ds[at_]?\d:=⟨_,bj i3.2⟩;obtain⟨g,a7,mT⟩:=X.aoy i3.2;have g_:g<↑(c0 ds cz):=by rw[hlen];exact a7
 have Vu:kH (c0 ds cz) d.name\g:=(X.Rg hd).mpr mT;subst aS;exists (fun av I=>I=a'/\av=[~~~a,some (.int n),~~~wl,~~~dy,~~~ia,some (.str d.name),none,none,none,none,none,none,none,none]),3
 ·(nofun; repeat (dsimp only[jP];nofun));exact⟨_,.inl (ay.of Ae),vA,∅,∅,by rw[gz];omega,_,ay.of Ae,_,by rw[gz,i3.1];exact cI (by rw[dv,bj (show at_<↑rf by omega)];rfl),_,rfl,_,d4.of (Jt at_ _ _ (bj (show at_<↑rf by omega)) hd),_,cI (j:=1) rfl,b1 _ _ ⟨rfl,rfl⟩⟩
 rintro jT cb ⟨rfl,rfl⟩;have xW:=(s1.trans s2).trans s3;subst aS;exists (fun av I=>lH rD cb I/\aF I/\∃z,SS (en ds (c0 ds cz) g) (My.hv n ds (c0 ds cz)) (e9 ds (c0 ds cz) g) z/\av=[~~~a,some (.int n),~~~wl,~~~dy,~~~ia,some (.str d.name),some (.int (z+1)),none,none,none,none,none,none,none]),3
 .nofun;exact⟨ia,c,n,ds,_,_,g,at_,d,rfl,YS,W,gL,hd,X.ajU hd mT,g_,R8.step xW,vA.bz,fun r z w_ hr I aj dX bF apH=>⟨r,rfl,_,d4.of bF,_,cI (j:=0) rfl,_,rfl,b1 _ _ ⟨aj,dX,z,apH,rfl⟩⟩⟩
 rintro nL bP ⟨s5,dK,z,aO,rfl⟩;have R9:NL rD cb:=R8.step xW;have ali:kz mi cb:=ara.step xW;have LR:ip cb bP:=Dw R9 s5;have jr:=qD.oY LR;have SD:=YS.oY LR;have aj4:Sc K a ns bP:=UQ vA LR dK;have RB:kz mi bP:=by
  obtain⟨ps,e,c3⟩:=ali;obtain⟨atm,bF,pF⟩:=R9;refine⟨ps,s5 _ _ ad2 e,?_⟩;rcases c3 with c3|⟨c',c3,g7⟩
  .exact .inl c3
  .exact .inr ⟨c',c3,s5 _ _ (bW g7 bF (by intro z;cases z)) g7⟩
 have oR:=R.cH _ (cf.mpr ⟨_,ic cA,rfl⟩);have ht:↑(c0 ds cz)≠1->∀ys,CM (en ds (c0 ds cz) g) ys->xz (My.hv n ds (c0 ds cz)) (e9 ds (c0 ds cz) g) ys<=z:=fun hm ys aQ=>by
  rcases aO with⟨af,_⟩|⟨_,cy,ch,rp,_,_,tE⟩
  .exact absurd af hm
  .exact tE ys ((rp ys).mpr aQ)
 have YB:0<=z:=by
  by_cases hm:↑(c0 ds cz)=1
  .rcases aO with⟨_,h⟩|⟨af,_⟩
   .omega
   .exact absurd hm af
  .obtain⟨f,hf,GI⟩:∃f,f<↑(c0 ds cz)/\f≠g:=by
    by_cases c:g=0
    .exact ⟨1,(),()⟩
    .exact ⟨0,(),()⟩
   have af:=ht hm [f,g] ⟨f,g,[],rfl,hf,g_,GI,rfl⟩;rw[Mq]at af;have:=(gL.lo f g hf g_ GI).1;omega
 subst aS;exists (fun av I=>∃b3 gR,aM bP I/\aF I/\(∀b,Own (ds.map (·.name)) b3 gR b->bP b=none)/\gR.aG=ia/\gR.c=c/\gM t (ds.map (·.name)) I b3 gR (zw ds (k3 ds cz[0])) ⟨0,fun _=>0,fun _=>[]⟩/\av=[~~~a,some (.int n),~~~wl,~~~dy,~~~ia,some (.str d.name),some (.int (z+1)),~~~b3,none,none,none,none,none,none]),3
 .nofun;intro r Jj ao AZ aid;have bb:aM bP (upd (upd bP Jj (.own r)) r (.ins t.gD Jj [])):=(a_ AZ).trans (a_ (by rw[aD (dm aid)];exact ao));refine⟨bP,r,Jj,ia,c,n,ds,_,_,rfl,db,SD,bb,ao,Mg Q9,oR,dK.upd.upd,fun o I acU Jb fr ap8 aC gB=>⟨rfl,b1 _ _ ⟨r,o,fun b u e=>acU _ _ (dF e ao) (bb _ _ e),Jb,fun b aa=>?_,ap8,aC,gB,rfl⟩⟩⟩;by_cases z:b=r
  .rw [z];exact ao
  .exact bb.free (fr b aa z)
 rintro mP eX ⟨b3,gR,eo,i9,apb,ajb,ajn,v_,rfl⟩;subst aS;exists (fun av I=>∃fL,eX fL=none/\aM eX I/\aF I/\I fL\(.lst [])/\av=[~~~a,some (.int n),~~~wl,~~~dy,~~~ia,some (.str d.name),some (.int (z+1)),~~~b3,~~~fL,none,none,none,none,none]),3
 .nofun;exact⟨eO _,fun p aq=>b1 _ _ ⟨p,aq,a_ aq,i9.upd,db,rfl⟩⟩
 rintro kR eL ⟨fL,zl,h5,gr,z_,rfl⟩;subst aS;simp only[dx];refine t8 (fun av I=>True) (fun gG b1 oc _ _=>?_) ?_
 .nofun;have X3:aM bP eL:=eo.trans h5;have ahe:aM (kV bP) eL:=(YP bP).trans X3;have RE:kV bP fL=none:=aae (eo.free zl);have Wm:kV bP mi=none:=aaZ RB;have ap':=SD.oY (LD bP);have apc:=jr.oY (LD bP);have al_:Sc K a ns (kV bP):=UQ aj4 (LD bP) (fun b u e=>dK b u (YP bP _ _ e));have fS:(ds.map (·.name)).Nodup:=D.aH;have v5:d∈ds:=cm hd;have gZ:d.name∈ds.map (·.name):=cf.mpr ⟨d,v5,rfl⟩;have um:∀b,Own (ds.map (·.name)) b3 gR b->kV bP b=none:=fun b aa=>aae (apb b aa)
  have JH:¬Own (ds.map (·.name)) b3 gR fL:=fun aa=>by
   obtain⟨u,hn,_⟩:=v_.has aa;rw[zl]at hn;cases hn
  refine⟨∅,∅,?_⟩;refine d1.range (fun j σ I=>aF I/\aM (kV bP) I/\kz mi I/\(∃s v line since,gM t (ds.map (·.name)) I b3 gR s v/\AU (ds.map (·.name)) v.cc v/\v.cc=(j:Int)/\jH ds (c0 ds cz) s/\pf n ds (c0 ds cz) s/\Pc n ds (c0 ds cz) g d.name s since j/\-1<=since/\since<=(j:Int)/\(0<=since->(j:Int)-since<=z)/\I fL\(.lst (line.map V.int))/\(↑line:Int)=v.st d.name/\↑line<=2*j/\n5 (z+1) j (pw since j) line)/\∃ZS Uo pL zt rr,σ=[~~~a,some (.int n),~~~wl,~~~dy,~~~ia,some (.str d.name),some (.int (z+1)),~~~b3,~~~fL,ZS,Uo,pL,zt,rr]) ?_ ?_ ?_
  .have aL:∀q:Prop,∀ [Decidable q],(-1<=(if q then(0:Int)else -1)/\(if q then(0:Int)else -1)<↑(c0 ds cz))/\(-1<=(if q then(-1:Int)else 0)/\(if q then(-1:Int)else 0)<↑(c0 ds cz)):=fun q _=>by rw[hlen];split <;> omega
   refine⟨gr,ahe,RB.step X3,⟨_,_,[],-1,v_.same h5,⟨(fun x ag p aq=>by cases aq),fun x ag=>rfl,fun x ag=>lP _⟩,rfl,⟨NO,fun x h=>(by cases h),fun i h=>(by cases h;exact⟨by rw[hlen];exact cA,fun x h=>(by cases h)⟩),fun h=>(by cases h)⟩,⟨(aL _).1,(aL _).2,fun i h=>?_,fun h=>(by cases h)⟩,.inl rfl,lP _,(),fun h=>(),z_,rfl,∅,fun k z h=>by simp at h⟩,_,_,_,_,_,rfl⟩;cases h;refine⟨?_,lP 1⟩;unfold gg;have fb:cE ds (c0 ds cz) 0=dj ds (k3 ds cz[0]):=by unfold cE;rw[Mg Q9];rfl
   rw[fb];show(if dj ds (k3 ds cz[0])=dw then(if dj ds (k3 ds cz[0])=dw then(0:Int)else -1)else(if dj ds (k3 ds cz[0])=dw then -1 else 0))=0;split <;> rfl
  .rintro j σ I aI a9;ac_rfl
   obtain⟨Jb,iW,amG,⟨sK,v,line,since,gB,L0,auJ,lM,xu,amK,zU,Sd,hsz,IJ,qo,vN,adS⟩,ZS,Uo,pL,zt,rr,rfl⟩:=a9;have aI:j<80:=aI;subst aS;simp only[fH,dx,hF,hD,q_];refine zH (fun av H1=>aM I H1/\aF H1/\∃fu bh,I fu=none/\H1 fu\(.bu (fW bh))/\(bh.map (·.1)).Nodup/\(∀q∈bh,q.1∈ds.map (·.name)/\0<=q.2/\q.2<=2)/\av=[~~~a,some (.int n),~~~wl,~~~dy,~~~ia,some (.str d.name),some (.int (z+1)),~~~b3,~~~fL,some (.int j),~~~fu,pL,zt,rr]) (fun gG c2=>?_) ?_
   .nofun;exact⟨_,wl,ds,rfl,al_.same iW Jb,(),apc.same iW,fS,(),(),fun p bh H1 bb nm aq n0 lA iP=>c2 _ _ ⟨bb,nm,p,bh,aq,n0,lA,iP,rfl⟩⟩
   rintro cv mY a9;ac_rfl
   obtain⟨t1,afr,fu,bh,q2,Ma,lA,iP,rfl⟩:=a9;have ama:0<=pw since j/\pw since j<=z:=by
    unfold pw;split
    .omega
    .exact ⟨(),hsz ()⟩
   have Rw:=WH (x:=d.name) (B:=2) ∅ (fun p aq=>(iP p aq).2);subst aS;simp only[dx];refine zH (fun av ar=>aF ar/\(∀b u,b≠fL->mY b\u->ar b\u)/\(∃gP,ar fL\(.lst (gP.map V.int))/\(↑gP:Int)=↑line+n2 d.name bh/\n5 (z+1) j (pw since j) gP)/\∃pL,av=[~~~a,some (.int n),~~~wl,~~~dy,~~~ia,some (.str d.name),some (.int (z+1)),~~~b3,~~~fL,some (.int j),~~~fu,pL,zt,rr]) (fun gG c2=>?_) ?_
   .nofun;have AF:=t1 _ _ IJ;refine⟨.inl ⟨_,.inl Ma⟩,_,.inl ⟨fW bh,bO d.name,.inl Ma,rfl,rfl⟩,_,YU d.name bh,(),(),?_⟩;refine d1.range (fun i σ ar=>aF ar/\(∀b u,b≠fL->mY b\u->ar b\u)/\(∃gP:List Int,ar fL\(.lst (gP.map V.int))/\↑gP=↑line+i/\n5 (z+1) j (pw since j) gP)/\∃pL,σ=[~~~a,some (.int n),~~~wl,~~~dy,~~~ia,some (.str d.name),some (.int (z+1)),~~~b3,~~~fL,some (.int j),~~~fu,pL,zt,rr]) ⟨afr,fun _ _ _ e=>e,⟨line,AF,rfl,adS⟩,_,rfl⟩ ?_ ?_
    .rintro i σ ar ai a9;ac_rfl
     obtain⟨m7,ef,⟨cx,aE,aN,uM⟩,y,rfl⟩:=a9;have Vh:↑(cx.map V.int)=↑cx:=aT ..;subst aS;simp only[fH,hF,hD];nofun;refine⟨.inl ⟨_,ay.of aE⟩,_,.inl (ay.of aE),?_⟩;rw[Vh];exact⟨.inl ⟨(),()⟩,_,aE,by rw[Vh];exact gv (show ↑cx<=170 by omega) ∅,m7.upd,fun b u aa e=>by rw[aD aa];exact ef _ _ aa e,⟨cx++[(j:Int)+((↑cx:Int)+1)*(z+1)-1],by rw[db,ee];rfl,by rw[cU,mq];omega,uM.snoc ama.1⟩,_,rfl⟩
    .rintro σ ar a9;ac_rfl
     obtain⟨m7,ef,⟨cx,aE,aN,uM⟩,y,rfl⟩:=a9;subst aS;exact c2 _ _ ⟨m7,ef,⟨cx,aE,(),uM⟩,_,rfl⟩
   rintro fJ sv a9;ac_rfl
   obtain⟨afM,ef,⟨gP,cQ,Bq,CW⟩,FU,rfl⟩:=a9;subst aS;simp only[dx];refine zH (fun av ar=>ar=sv/\av=[~~~a,some (.int n),~~~wl,~~~dy,~~~ia,some (.str d.name),some (.int (z+1)),~~~b3,~~~fL,some (.int j),~~~fu,FU,some (.int 0),rr]) (fun gG c2=>?_) ?_
   .nofun;exact c2 _ _ ⟨rfl,rfl⟩
   rintro jT pX ⟨rfl,rfl⟩;have uQ:ib (c0 ds cz) sK d.name=decide (sK.b4\g):=by
    unfold ib;cases sK.b4 with
    |none=>simp
    |some i=>
     show decide (kH (c0 ds cz) d.name\i)=_;rw[Vu];exact decide_eq_decide.mpr ⟨fun z=>z.symm,fun z=>z.symm⟩
   have AF:=t1 _ _ IJ;have qw:gM t (ds.map (·.name)) pX b3 gR sK v:=(gB.same t1).keep (fun b u aa e=>ef _ _ (fun z=>JH (z ▸ aa)) e) (fun q xs e=>ef _ _ (bW e AF (by intro z;cases z)) e);have nz:aM (kV bP) pX:=fun b u e=>ef _ _ (dF e RE) (t1 _ _ (iW _ _ e))
   have am_:fu≠fL:=fun z=>by rw[z,IJ]at q2;cases q2
   have aii:=ef _ _ am_ Ma;have apN:¬Own (ds.map (·.name)) b3 gR fu:=fun aa=>by
    obtain⟨u,hn,_⟩:=gB.has aa;rw[q2]at hn;cases hn
   have nQ:kz mi pX:=by
    obtain⟨ps,e,c3⟩:=amG.step t1;refine⟨ps,ef _ _ (bW e AF (by intro z;cases z)) e,?_⟩;rcases c3 with c3|⟨c',c3,bF⟩
    .exact .inl c3
    .exact .inr ⟨c',c3,ef _ _ (bW bF AF (by intro z;cases z)) bF⟩
   have Zk:fL≠mi:=fun z=>by
    obtain⟨ps,e,_⟩:=nQ;rw[<- z,cQ]at e;cases e
   have aoZ:∀m:Int,0<=m->0<=hs d m/\hs d m<=m/\(1<=m->1<=hs d m):=fun m hm=>by
    unfold hs;split
    .omega
    .split <;> omega
   simp only[dx];refine zH (fun av ar=>∃aj hc cS,tT n ds (c0 ds cz) (tm (c0 ds cz) sK (qb (ds.map (·.name)) (stC v.st bh))) ((qb (ds.map (·.name)) (stC v.st bh)).any (ib (c0 ds cz) sK)) aj/\aF ar/\aM (kV bP) ar/\kz mi ar/\gM t (ds.map (·.name)) ar b3 gR aj hc/\AU (ds.map (·.name)) hc.cc hc/\hc.cc=(j:Int)+1/\cS=(if sK.b4\g then hs d ↑gP else 0)/\hc.st d.name=↑gP-cS/\ar fL\(.lst (gP.map V.int))/\∃rr,av=[~~~a,some (.int n),~~~wl,~~~dy,~~~ia,some (.str d.name),some (.int (z+1)),~~~b3,~~~fL,some (.int j),~~~fu,FU,some (.int cS),rr]) (fun gG c2=>?_) ?_
   .nofun;obtain⟨vr,aE⟩:=qw.at_;refine⟨_,_,aE,Hx _ _ _ _ _ ∅,kV bP,b3,gR,sK,v,n,ds,c0 ds cz,fu,bh,rfl,qw,by rw[ajb,ajn];exact ap',nz,um,Wm,R,lM,L0,(),(),aii,lA,fun p aq=>⟨(iP p aq).1,(iP p aq).2.1⟩,apN,iW.free q2,nQ,afM,fun p qs ws aj hc cb rV S' cR zu aq kW Mw gz alb fB oq Pj vY=>?_⟩;obtain⟨ain,PL⟩:=AT fS v5 lA (fun p aq=>(iP p aq).2.1) fB oq;have uh:aM (kV bP) cb:=fun b u e=>S' _ _ (fun z=>by
     rcases z with z|z
     .rw [um b z]at e;cases e
     .rw [z,Wm]at e;cases e) (nz _ _ e)
    have oS:=S' fL _ (fun z=>z.elim JH Zk) cQ;refine⟨p,rfl,⟨_,ay.of kW.1⟩,?_⟩;refine d1.list (xs:=qs.map V.ref) (fun i σ C2=>C2=cb/\∃rr,σ=[~~~a,some (.int n),~~~wl,~~~dy,~~~ia,some (.str d.name),some (.int (z+1)),~~~b3,~~~fL,some (.int j),~~~fu,FU,some (.int (qh d.name (ws.take i))),rr]) ⟨rfl,_,rfl⟩ ?_ ?_ ?_
    .rintro i σ C2 ai ⟨rfl,_⟩;exact ay.of kW.1
    .rintro i T' σ C2 vC ⟨rfl,y,rfl⟩;obtain⟨atv,uo,rfl⟩:=b' vC;have ahQ:i<↑ws:=by rw[<- kW.2.1];exact(b5.mp uo).1
     have He:=bj ahQ;have CR:=kW.2.2 i _ _ uo He;simp only[fH,hF,hD];refine dC (decide (ws[i].1=d.name)) (fun Q' aX=>?_) (fun aa=>?_) (fun aa=>?_)
     .nofun;refine⟨_,d4.of CR,_,cI (j:=0) rfl,rfl,?_⟩;rw[show decide (V.str ws[i].1=V.str d.name)=decide (ws[i].1=d.name)from decide_eq_decide.mpr ⟨fun e=>V.str.inj e,fun e=>by rw[e]⟩];exact aX
     .nofun;exact⟨_,d4.of CR,_,cI (j:=2) rfl,_,rfl,by rw[i6 He,Ia,if_pos (of_decide_eq_true aa)],_,rfl⟩
     .nofun;exact⟨by rw[i6 He,Ia,if_neg (of_decide_eq_false aa)];omega,_,rfl⟩
    .rintro σ C2 ⟨rfl,y,rfl⟩;rw[aT,kW.2.1,hO];refine c2 _ _ ⟨aj,hc,_,rV,cR,uh,zu,vY,Pj,(),?_,(),oS,_,rfl⟩;rw[ain,uQ,<- qo,<- Bq];by_cases c:sK.b4\g
     .rw [if_pos (decide_eq_true c),if_pos c]
     .rw [if_neg (by simpa using c),if_neg c]
   rintro nL pT a9;ac_rfl
   obtain⟨aj,hc,cS,rV,cR,uh,zu,vY,Pj,akc,D0,ahG,oS,H2,rfl⟩:=a9;have Hz:=aoZ ↑gP ();have akR:0<=cS/\cS<=↑gP:=by rw[D0];split <;> omega
   have aus:↑gP<=2*j+2:=()
   subst aS;simp only[dx];refine zH (fun av ar=>ar=pT/\av=[~~~a,some (.int n),~~~wl,~~~dy,~~~ia,some (.str d.name),some (.int (z+1)),~~~b3,~~~fL,some (.int j),~~~fu,FU,some (.int cS),H2]) (fun gG c2=>?_) ?_
   .refine dC false (fun Q' aX=>?_) (fun aa=>by cases aa) (fun _=>?_)
    .nofun;rw[if_neg (by simpa using akR.1)];refine⟨_,.inl (ay.of oS),?_⟩;rw[aT,decide_eq_false ()];exact aX
    .simp only[hI];exact c2 _ _ ⟨rfl,rfl⟩
   rintro mP qS ⟨rfl,rfl⟩;simp only[dx];refine t8 (fun av ar=>aF ar/\(∀b u,b≠fL->qS b\u->ar b\u)/\ar fL\(.lst ((gP.drop cS.toNat).map V.int))/\∃pL,av=[~~~a,some (.int n),~~~wl,~~~dy,~~~ia,some (.str d.name),some (.int (z+1)),~~~b3,~~~fL,some (.int j),~~~fu,pL,some (.int cS),H2]) (fun gG c2 as8 _ _=>?_) ?_
   .nofun;refine⟨(),(),?_⟩;refine d1.range (fun i σ ar=>aF ar/\(∀b u,b≠fL->qS b\u->ar b\u)/\ar fL\(.lst ((gP.drop i).map V.int))/\∃pL,σ=[~~~a,some (.int n),~~~wl,~~~dy,~~~ia,some (.str d.name),some (.int (z+1)),~~~b3,~~~fL,some (.int j),~~~fu,pL,some (.int cS),H2]) ⟨cR,fun _ _ _ e=>e,oS,_,rfl⟩ ?_ ?_
    .rintro i σ ar ai a9;ac_rfl
     obtain⟨m7,Nq,aE,y,rfl⟩:=a9;have gI:i<↑gP:=()
     subst aS;simp only[fH,hF,hD];refine SB (fun b a'=>b=false/\a'=upd ar fL (.lst ((gP.drop (i+1)).map V.int))) (fun Q' aX=>?_) (fun a' r=>(by cases r.1)) (fun a' r=>?_)
     .nofun;have fP:0<↑(gP.drop i):=by rw[k4];omega
      have NB:(gP.drop i)[0]?\gP[i]:=by rw[AS,ad9];exact bj gI
      refine⟨.inl ⟨_,ay.of aE⟩,_,aE,∅,∅,0,seqIndex_of ∅ (by rw[aT];omega),_,by rw[dv,NB];rfl,_,rfl,?_⟩;have af:=CW.lo () (bj gI);refine aX _ _ ⟨decide_eq_false (),?_⟩;rw[show((gP.drop i).map V.int).eraseIdx 0=(gP.drop (i+1)).map V.int by rw[List.eraseIdx_zero,<- List.map_tail,List.tail_drop]]
     .obtain ⟨_,rfl⟩:=r;simp only[hI];exact⟨m7.upd,fun b u aa e=>by rw[aD aa];exact Nq _ _ aa e,db,_,rfl⟩
    .rintro σ ar a9;ac_rfl
     obtain⟨m7,Nq,aE,y,rfl⟩:=a9;subst aS;exact c2 _ _ ⟨m7,Nq,aE,_,rfl⟩
   rintro kR akM a9;ac_rfl
   obtain⟨ae',cL,je,auF,rfl⟩:=a9;have RO:pf n ds (c0 ds cz) (tm (c0 ds cz) sK (qb (ds.map (·.name)) (stC v.st bh))):=⟨xu.t0,xu.o0,xu.b4,xu.ch⟩;have ac0:∀x∈qb (ds.map (·.name)) (stC v.st bh),x∈ds.map (·.name):=fun x ag=>(i0.mp ag).1
   have JX:=Qq ac0 lM;have tu:sK.b4≠some g->↑(c0 ds cz)≠1:=fun a5 e=>by
    cases az:sK.b4 with
    |some i=>have:=(lM.b4 i az).1;exact a5 (by rw[az,show i=g by omega])
    |none=>have:=lM.ch az;omega
   have anq:0<↑gP->d.name∈qb (ds.map (·.name)) (stC v.st bh):=fun h=>i0.mpr ⟨gZ,decide_eq_true (by rw[Eh bh _ lA];omega)⟩
   have amY:∃s2:Int,Pc n ds (c0 ds cz) g d.name aj s2 (j+1)/\-1<=s2/\s2<=((j+1:Nat):Int)/\(0<=s2->((j+1:Nat):Int)-s2<=z)/\n5 (z+1) ((j+1:Nat):Int) (pw s2 (j+1)) (gP.drop cS.toNat):=by
    by_cases c:sK.b4\g
    .rw [if_pos c]at D0;refine⟨-1,.inl rfl,∅,(),fun h=>(),?_⟩;exact CW.cut () () (g:=cS.toNat) (by
      by_cases e:gP=[]
      .exact .inr e
      .have:0<↑gP:=w0.mpr e;exact .inl ())
    .rw[if_neg c]at D0;subst D0;have TP:ib (c0 ds cz) sK d.name=false:=by rw[uQ];exact decide_eq_false c
     have fin:∀{s2:Int} {pre:List Nat} {p:Nat} {sp:Int},0<=s2->s2<=j->d.name∈(tm (c0 ds cz) sK (qb (ds.map (·.name)) (stC v.st bh))).wt->rF n ds (c0 ds cz) g sK pre p sp ((j:Int)-s2)->Pc n ds (c0 ds cz) g d.name aj s2 (j+1)/\((j+1:Nat):Int)-s2<=z:=fun {s2 pre p sp} h0 _ ag A=>by
      have af:=adl W gL g_ xu A (ht (tu c));refine⟨?_,()⟩;rcases amz W R gL g_ JX RO ag Vu (fun _ _ af ak=>X.one hd mT af ak) (A.keep rfl rfl rfl rfl rfl rfl rfl) rV with h|⟨eb,alh,iZ,kC,arF⟩
      .exact .inr (.inl h)
      .refine .inr (.inr ⟨h0,eb,alh,iZ,kC,?_⟩);rw[show(((j+1:Nat):Int))-s2=(j:Int)-s2+1 by omega];exact arF
     by_cases h0:0<=since
     .rcases amK with h|h|⟨_,bZ,pre,p,sp,A⟩
      .omega
      .exact absurd h c
      .obtain ⟨f1,f2⟩:=fin h0 Sd (KB TP _ _ (.inl bZ)) A;refine⟨since,f1,zU,(),fun _=>f2,fun k y aQ=>?_⟩;have:=CW k y aQ;unfold pw at this⊢;rw[if_neg ()]at this⊢;omega
     .by_cases e:gP=[]
      .refine ⟨since,.inl (),zU,(),fun h=>absurd h h0,fun k y aQ=>?_⟩;rw[e]at aQ;simp at aQ
      .obtain ⟨pre,p,sp,A⟩:=ar6 W gL g_ lM xu c;obtain⟨f1,f2⟩:=fin (s2:=j) () (lP _) (KB TP _ _ (.inr (anq (w0.mpr e)))) (by rw[am'];exact A);refine⟨j,f1,(),(),fun _=>f2,fun k y aQ=>?_⟩;have:=CW k y aQ;unfold pw at this⊢;rw[if_pos ()]at this;rw[if_neg ()];omega
   obtain⟨s2,dP,ej,hA,gJ,V8⟩:=amY;have avd:pw s2 (j+1)<=z:=by
    unfold pw;split
    .omega
    .exact gJ ()
   subst aS
   (try dsimp only)
   refine dC false (fun Q' aX=>?_) (fun aa=>by cases aa) (fun _=>?_)
   .nofun;refine⟨_,.inl (ay.of je),?_⟩;split
    .rename_i c;obtain⟨m,tu,uu⟩:=Wj (gP.drop cS.toNat) (fun e=>by rw[e]at c;cases c);obtain⟨k,aB⟩:=g8 tu;have af:=V8.lo () aB;refine⟨_,ay.of je,m,tu,uu,?_⟩;rw[decide_eq_false ()];exact aX
    .exact aX
   .simp only[hI];have J':kz mi akM:=by
     obtain⟨ps,e,c3⟩:=zu;refine⟨ps,cL _ _ (dm Zk) e,?_⟩;rcases c3 with c3|⟨c',c3,bF⟩
     .exact .inl c3
     .exact .inr ⟨c',c3,cL _ _ (bW bF oS (by intro z;cases z)) bF⟩
    exact⟨ae',fun b u e=>cL _ _ (dF e RE) (uh _ _ e),J',⟨aj,hc,gP.drop cS.toNat,s2,vY.keep (fun b u aa e=>cL _ _ (fun z=>JH (z ▸ aa)) e) (fun q xs e=>cL _ _ (bW e oS (by intro z;cases z)) e),Pj,akc,anE R JX rV,ah5 W R JX RO rV,dP,ej,hA,gJ,je,by rw[k4,ahG];omega,by rw[k4];omega,V8⟩,_,_,_,_,_,rfl⟩
  .rintro σ I _;exact b1 _ _ trivial
 rintro asK asX _;nofun;exact q _
end My
end
section
local macro_rules|`(universe $x*)=>do return Lean.mkNullNode (← Lean.withRef .missing (x.mapM fun i=>`(command|theorem $(Lean.mkIdent (`PySem.W.Fast ++ i.getId)):ident:True:=⟨⟩)))
universe tw6304015713114188172 tw15689588018361447782 tw4444747376482361757 tw16503216713601587877 tw6874779116007577846 tw14856183296055581017 tw5674279565167364049 tw8109655804731449029 tw16616657371540871280 tw11774952219737866168 tw1082742884334199466 tw2020748040207491154 tw5999124057506976389 tw13414188091765890567 tw3923099014814041362 tw3877810010031804190 tw2585301185361183009 tw2594769505741935067 tw2651631727024133127 tw8438431351600721922 tw8958585656227748041 tw3464801544141137671 tw10630070755678053567 tw2126829872538752786 tw370358036553150710 tw8869519225221345102 tw15302783701703850160 tw4976646135702635173 tw7926318045917993960 tw11333563249557428585 tw6185931237955416427 tw13933479764448723318 tw12506140897175736700 tw13043379416792160438 tw668298485516333650 tw13436926207313141363 tw18067153599624909035 tw630931570952253885 tw8215316588579621085 tw7152316262945834389 tw8546801723646865767 tw3251381216564298470 tw10735668477306498772 tw5766061690874841123 tw8984826060298257416 tw3076888981216028022 tw858326344717693480 tw17038568197251368754 tw17833309202639860808 tw11024710873573683558 tw5994706782617122660 tw455440179160158602 tw5475509800610934827 tw13715165019771935677 tw3826819281811169453 tw909908992567088284 tw13396139506363836413 tw10221325466642162714 tw12668234946845146096 tw15762606970083446977 tw14003990129752428064 tw7115313547207781806 tw13435820626449119149 tw9211896895880789394 tw18101223548889237736 tw6931486723562555982 tw16213201527787990537 tw18358878138445884856 tw4141890321842805611 tw11403793294938370092 tw3226863715673782790 tw12651462551264544457 tw12784505603750738052 tw6744323910872932143 tw15530105131423517117 tw2383068178979321470 tw8723431551941643010 tw10358769494662809850 tw17058669722051027405 tw6816270948584430962 tw16039164352970995167 tw5507114399202321419 tw7351724424486282599 tw17345891678570484787 tw8490635946622037262 tw6560447961089575943 tw17920161711672322245 tw12159420952852277296 tw11442394598493557971 tw7640727445765564730 tw16329750689917939611 tw3707859285806513274 tw17023429514244920885 tw7293019746379901883 tw740651174791525046 tw17602532913326157119 tw15219974838449908855 tw8943492417812156893 tw12982107078295002922 tw11489043517838815972 tw14574768614252879023 tw1826742447167872466 tw10507256979931655398 tw9543305815682604479 tw11785414143576846709 tw12883296132509454672 tw8467524568044880626 tw8408628389978188537 tw12955572184375652263 tw3044336526426143708 tw11171673805985376735 tw18427224817965750394 tw4140655909967712029 tw4932909479801062757 tw3689327111775066750 tw12367203938036742721 tw253660754960470161 tw6715118761771518366 tw15390448649447056810 tw17618601188408405182 tw1643606040285966109 tw9678128761696251520 tw9578569631337982597 tw13135319151506186795 tw11049256180414231063 tw3924258730333034419 tw13718638793234842863 tw15278550507471173296 tw8108916300477002028 tw5795303920049583129 tw14833887623389846653 tw10910214292344223968 tw2576238667296496586 tw4456997401338004854 tw12375850393791047057 tw18277838931373832383 tw2014934254904148254 tw14118009899569592173 tw5533887504283185802 tw10742132688456415767 tw7820347110743774109 tw4407921508669982552 tw17382761497340217754 tw5996556309428992475 tw9769560785809119143 tw12935461163842020539 tw11854870691831163056 tw8286930614717168952 tw2082676291691836245 tw16084343061594048535 tw7948244911009090999 tw16345184539923065853 tw12436366371011501355 tw11560997045010990859 tw3664047462575821358 tw8627419179385511778 tw15766382306355638994 tw16806260967981864673 tw12210902069662226463 tw16393786561323076045 tw6683960299370051843 tw17332165533793969656 tw4314722340083186820 tw2288248282582859851 tw13996094189173167998 tw7930432123831082488 tw3572930938909550681 tw16585109616849176085 tw799174003376226717 tw12279456554391878411 tw3316727439284441291 tw3700532612230984428 tw6694114936998814479 tw13286478241440918612 tw9421352052083251091 tw6954711403275950542 tw11468586862284522001 tw17060240568091965787 tw6817416604107306406 tw13918807845795882128 tw17742056392233792288 tw15796840733668568017 tw9843348700298458272 tw12887915603284541363 tw13160856681360469537 tw13612401812132182715 tw11182247975027412744 tw3265465721937029892 tw9809078553832810355 tw14973290871332064389 tw15191564951945342734 tw9308199938211156918 tw2231167325187208732 tw9654945932254128105 tw14548108254817891265 tw2294453842120765745 tw7231668916115637059 tw17299165613436269996 tw13750834284539653499 tw6814751702786499512 tw8850441835236945762 tw14662627748497079745 tw4419026633279702238 tw16856833491704044398 tw12972033979686335693 tw13507096065964232975 tw8510985100012818788 tw11949063456284859361 tw3039365542606774722 tw2314262849681501540 tw319215774727696385 tw11758339171770184159 tw759733428621772455 tw10802257132886135722 tw3059974002529727471 tw2361035444648322129 tw9394979426103743481 tw5808434771255404942 tw16998948968008849930 tw518089169705750953 tw4192980224248561303 tw542035331369100206 tw16322479512706113239 tw7420444192612866661 tw17206070416340519343 tw17273943528575678682 tw8628386187954208604 tw16519133126323702055 tw11612649712271229468 tw4248479344859123990 tw3791525017945709159 tw18281164132449636201 tw6946099330781431018 tw15976963162873437654 tw4485083150853262247 tw834288763646462789 tw15136955172903199579 tw18399415984259183033 tw11960236199959633970 tw17166217378769430382 tw7922469002715852988 tw11502467658530436047 tw15112728141410222155 tw4882237230600925608 tw17127305688755947747 tw16570467431848881398 tw2371307455342543485 tw15532074031817181000 tw13841854867795804376 tw13088922307372716974 tw14786959611081956448 tw2093854017445941625 tw14269275034640971656 tw16676332934401213678 tw17027843539289042600 tw6502489230564830333 tw4818240704992857128 tw7034312075114233426 tw3490850695355240296 tw2779634284606922617 tw5632514506718704279 tw16280000485864228656 tw14796048621356437462 tw12544570215523062725 tw16579918323791759131 tw918611732833504742 tw11450685195276125318 tw4342701436385701612 tw17825930983853028930 tw11549287271547721841 tw8883694829432476410 tw2859634237583085529 tw15948213789526160498 tw4178376868879765490 tw13244426912957443146 tw11809996620712836522 tw11650038644859986288 tw13410951118165849166 tw8833853880668088492 tw935550792973465640 tw9871706210510815220 tw6533588205253099793 tw6175580028912490377 tw2162070668726692341 tw2342325074635510817 tw9067805375145576322 tw16414760362845785213 tw2929888101033952595 tw7966075865925989185 tw3031069214618606912 tw530357230483925041 tw4926585353810299583 tw7587917016154335250 tw15663825141796858580 tw4870662570018580003 tw1249719145070746972 tw16023047811520677680 tw584191603466903896 tw3308226551965929361 tw7555890450128801094 tw10263956156022791835 tw9400434837617156091 tw7281493533236231254 tw14526536473683595213 tw11526224505342019443 tw9756683926728610715 tw16955332875337213585 tw1508383457881723442 tw3181237285867517603 tw16838729658026232306 tw8149671224024029399 tw14254730236442788651 tw10107229118515356591 tw3567791598737872004 tw2037462376857957563 tw3419539656650822447 tw990869321963100576 tw859750952580670510 tw12124733243532217463 tw15248659373742718153 tw10161505116563333705 tw1604401074873775404 tw18044855467777479811 tw3298056214666314504 tw16999717954839714692 tw13543210439899490718 tw829008653892561545 tw11009613921928604611 tw3815214282055847999 tw8839650395269021459 tw8926971234829556438 tw7325153845787990655 tw6642964056077549940 tw2505599522337420767 tw13183970769084180169 tw9476503986821152913 tw3558289978155455006 tw15281022594318408208 tw11244961002482966286 tw8991329508132199392 tw15496047491807536943 tw11734116872366017452 tw11545475550783017908 tw11232323601039836365 tw2956152176393569583 tw5564280678287241876 tw7557147823263570074 tw3861636271958363376 tw7084994073171727492 tw2869252622515141841 tw2282337138136701374 tw15527607942964540356 tw9261437678490048427 tw5753613107527528653 tw4916686794343216964 tw16827526526197185320 tw11474132356986520415 tw15578810637338272916 tw11329980642050295162 tw18158363252032094824 tw5012448934853327547 tw6217069720747830950 tw6039378287269707143 tw5459677052644282734 tw4606258912774055542 tw12847437025384883128 tw8497523147777544832 tw8046417006964391621 tw2876528156444841610 tw9425508245168622247 tw8627817080962708215 tw6649788462712020547 tw6352210419873946808 tw6156740717457395203 tw2566228484775332609 tw6058882538667687507 tw14881634390126501566 tw15258566714069846516 tw13702129718509554088 tw13468486740255287426 tw10665824802987969098 tw17373917984136882530 tw9250279084920800809 tw6575553270161533605 tw4530418307005710132 tw18360951701119784497 tw16897011426494300351 tw14507374981058679886 tw8788224699891713256 tw8025455560783467631 tw4836886265301654007 tw3342545275775739543 tw1709263766726284726 tw13302538248023513766 tw14475066324532671426 tw5710750587038029828 tw5357505406147444533 tw2519853472861814375 tw13907134289450629731 tw1343165677439104811 tw12680977518750326717 tw8421413787907369636 tw809964453162186908 tw5052932170384833286 tw4204095364169154437 tw17187345270669150433 tw17088075786452375070 tw15457825979131127048 tw15380884191424985198 tw13747025350627952008 tw12258366193673655424 tw8411948764886303422 tw11548518473291709752 tw10654796019693856167 tw10464351268825993118 tw15055572353064455125 tw14960127710803344089 tw15151919830526593409 tw14922517974042936996 tw1488402196118112796 tw7219654668742146990 tw14915184654422482127 tw10439063199382469832 tw12424910126792825664 tw10867391180057613554 tw14213663838304745490 tw14184196422389615063 tw8481683834640849973 tw17717411779322019866 tw1881219537249509777 tw12457585727900746652 tw2631013495519293695 tw11473077723580107309 tw8986505022276299158 tw490391554876943919 tw15310309099551080988 tw11523286999606954054 tw11499001919735979688 tw5231009031919686755 tw15561126476449308637 tw2630195251240313171 tw17843476442801247366 tw16849008496549351263 tw15549299477491544773 tw15096151946914769632 tw6768584304026753603 tw16268757124874527932 tw14098936516273583518 tw1662371613775736905 tw14012700755956237577 tw7687212940724375368 tw3741721851466941753 tw1308266574319251919 tw10881775137894838172 tw10502677099937452331 tw9085034912977488862 tw1433890423008910160 tw12392251501426152823 tw17376025282122166398 tw12905457948138961598 tw11149152545572761838 tw3439585848686687513 tw16183445988089185218 tw10759346650599124871 tw3051221453828502603 tw11701070548526616801 tw4287251203265335303 tw14634805429079720966 tw9950374077571515858 tw17628637507966339249 tw10254862564120603457 tw223876027154469983 tw5862227324150793032 tw8673723070295126265 tw606842102058991526 tw15334899268848309709 tw13599765753417833146 tw8255982479802710967 tw2330907505868705918 tw10156797173700445106 tw11231633570361040565 tw3197299797942016728 tw14658757713018076924 tw15874298426016919226 tw10727273771780425979 tw2251138335209276503 tw11287843760385620742 tw1011341867405927180 tw486657377810118550 tw13133777408085778068 tw1295545405865585851 tw9549808024268551875 tw7831717058513814113 tw15492672334813743570 tw17973316395249029798 tw16120941526947224013 tw971697054260903709 tw7110311558291792676 tw42859260072149839 tw12148006851646086591 tw5712482820654033935 tw16836725200542382392 tw2585213908934375688 tw2582303127184594078 tw8956574162577236787 tw10869816829268985905 tw5998637380640838218 tw11684185101353591777 tw16282277818356323356 tw8254861166452510919 tw14431038871329868929 tw12322411168827457542 tw16539826393186197700 tw7825786689029602765 tw16375053909844015012 tw14386656614069396149 tw6667964992069948277 tw18376293793802049764 tw3927741931559158769 tw3103031753268028210 tw17203625866377434776 tw15730110732069114901 tw15761949564951565608 tw12093952530860363631 tw8875111888438696313 tw8355111278883591743 tw284914028979556198 tw5357050158761292123 tw6608835928008824538 tw5911423321966376715 tw1286312106563399532 tw5293009131641059717 tw17894268098563304241 tw11589507228963653381 tw3179884970952971287 tw930924118464351046 tw9169512535888973632 tw8565241377966688872 tw6310705375777419547 tw5634846840857274712 tw4844778684132097148 tw3062123646115856772 tw199929805319495210 tw17136071541322192392 tw14111214913545213740 tw12485372477669202886 tw14867693425662053498 tw13453222444497019516 tw2439004302298704189 tw2212514482617447017 tw9554058198489781374 tw8477240251367519786 tw8399957984251041990 tw7642730761946996873 tw7013201439867160559 tw6439828711504166320 tw17371906723812455137 tw15801608230153121540 tw15779470493195918287 tw13469666819130474025 tw10452699626766679574 tw17238125143676147285 tw847075773761162058 tw7472793983910843613 tw5566140778680898484 tw525188783976879971 tw5191931699011218257 tw10448398760590280416 tw10127687855581391454 tw5657365225714022466 tw311945923568205424 tw3058252250722707443 tw2121141777913511051 tw12795908281313787969 tw11400778786699326308 tw10100021259640020983 tw9278454163549046161 tw736470424230965951 tw733884052678085126 tw3841404593672591382 tw16175581065232645229 tw14933074730047778796 tw12650018910777223203 tw10757307986064701782 tw10219016467804073248 tw6674758600556803360 tw6545517243311601572 tw1728499433975995845 tw10561808361571576305 tw10190016772822888352 tw14511129834090887112 tw12507574629847495647 tw7389191949472890781 tw11089536821945675367 tw9240664588015468429 tw8446319651269736911 tw8372090862000560229 tw8285436597210709420 tw728107709356330504 tw5908545648176554073 tw5704102059145991639 tw5571527384240125874 tw17274723497705046129 tw17153388494924813091 tw15961682921696959041 tw15939764331169898490 tw15576539895884120346 tw14383125279935355904 tw12775598209751389297 tw12732150312944974113 tw12474553388689394135 tw12179208042763718619 tw15870596253483452397 tw6909486061837342321 tw10419313701585146067 tw9739705352966287312 tw8974280619367468936 tw8842776499079281753 tw6629746211383840570 tw5144047194384979904 tw5071016097880722582 tw4247153146036220397 tw18364679012787639860 tw15547849817235220374 tw15493122627778281999 tw15396575259024200164 tw14875697272613650601 tw13279496772961190315 tw11883481580111509872 tw10396495105523414402 tw10251532798297539744 tw9687773690438538521 tw9487181365982293263 tw7715544458168346030 tw5704820376960629999 tw4068576960095404829 tw2968207840626019362 tw2763271724639198716 tw18127476766246480890 tw17406283770689968919 tw164519808111263467 tw15959412668377246368 tw15284274220201536955 tw1409590446921792673 tw10864755406913776936 tw10025327360430739199 tw16670630604128542237 tw7223922503709189274 tw5011767384249416500 tw4428712585831802854 tw4229389762693586896 tw3044083937501188614 tw2601084401303804672 tw17748755769479607477 tw16558515875390981784 tw8788530215562622088 tw7176887443347978589 tw3840009951676057987 tw2663959404753503729 tw2301935178950925909 tw1848927196259562929 tw18261082950194092732 tw15804336827007701742 tw13320365154440270216 tw12479930039381341364 tw11923772679815439181 tw11639492574956848243 tw11564432642234391945 tw10802356316677060212 tw10518545289929711647 tw9955829716013493505 tw9913583391750380554 tw9859568801211080726 tw9838131917470751781 tw9831770716867658192 tw9740700774871953256 tw9657077021785670259 tw9616863055309895458 tw948832707556947290 tw9469926250400444213 tw9459557460741780213 tw9423203982606342063 tw9312935974572190256 tw9309690712587682895 tw9258184546129950065 tw9227986129676122610 tw9187398623778458120 tw9094330613569164227 tw8982396064255780116 tw8905787804415236749 tw8903995875608218198 tw8741521756665129718 tw8496521434782920794 tw8466837675474445855 tw8456116878802897442 tw8400999977544647514 tw8355189811126023773 tw8337685798191166688 tw8224942793717062800 tw8165846775229564959 tw8159111843851224100 tw8116960560363306666 tw8102386831064284025 tw8083850166687057809 tw8065977471369227486 tw8028147696100469758 tw789516769940974963 tw7876897447425711297 tw7837767789738658722 tw7609507983644518166 tw7598855684474852440 tw7429912226403103807 tw7360724050913343147 tw7343150092878272013 tw7337376757753087131 tw7331825748718299901 tw7258121826257026171 tw7228344327972531140 tw7186231297395009662 tw6958494708241644859 tw6955205272794689976 tw6895536044127878236 tw68597719956673766 tw6854595529480439176 tw6759990311376653355 tw6636750577044038874 tw6531650267129280319 tw6413712176870098490 tw6228568893143435071 tw6213029600312378221 tw6172763873869023937 tw6055999420360182878 tw5985358154509820504 tw589326293440239671 tw5796276803606462204 tw5663855249303611659 tw5634183164159287097 tw5364604456449891964 tw5165686547734173917 tw5154916366728234044 tw5124884735674962029 tw505257674024855080 tw5027445357484538935 tw5002010867258419575 tw4900776587450747700 tw4895637406730088867 tw4879012723912340919 tw4786806065128754227 tw4777621981005528198 tw4650372867977663185 tw4643366924788595816 tw4613672025323970372 tw4589305692733551826 tw4509440934062316736 tw4477799112878346743 tw4453744987542870286 tw4259007991329116790 tw42181025800229428 tw4191520264883209438 tw4143104865548599804 tw40571916294641365 tw3808303999593428428 tw3797307290717384646 tw3712446978984440891 tw365032190009845635 tw3603850406088646586 tw3541555332757237130 tw3375640080287871378 tw3196224675210209869 tw3184590790993559698 tw2980156316975281052 tw2962392157317618560 tw289151192257063248 tw267529120796806244 tw2626458787198362429 tw2594690070680837514 tw2517434400140762102 tw2400739590904834518 tw2394332598377372481 tw2382524294355736999 tw2217798099606415322 tw2187263998404277400 tw2016661596009213764 tw1982332990099344568 tw18445358750106253510 tw18249217886229945807 tw18224797460786589062 tw18221149620432547147 tw18136919734885374236 tw18093784723912144942 tw18000666228790643723 tw17997414130720545476 tw17945706903592985302 tw17926135439225042554 tw17806147963714703129 tw17796274457594635665 tw17721664155245387540 tw1771411859017567013 tw17708077787579940464 tw17695842219685840490 tw17624037662909310504
end
open PySem PySem.W PyProof.Rows
set_option tactic.hygienic true
set_option maxRecDepth 100000 in
set_option maxHeartbeats 0 in
theorem PySem.Challenge.cw_lampway_k53_whole_the_nth_goes_holds : PySem.Challenge.rw_lampway_k53_whole_the_nth_goes.Holds := by
 w_on;o_law;k_head;(case hw=>w_witness2)
 k_fill
 refine My.amj (l:=PySem.Challenge.rw_lampway_k53_whole_the_nth_goes) (n:=63) (k:=21) (x:="_law_script") (CX:=L2.dt) (sp:=fun K hM jd=>My.YJ K jd hM) rfl (by decide) rfl ⟨rfl,by decide,by decide⟩ (fun w h Y=>PySem.W.km_in_of Y) (fun w h Y=>⟨afk Y _ (aoX _),afk Y _ (List.Mem.tail _ (aoX _))⟩) (by decide) (by intro p;kernel_rfl) ?F ?S ?C
 case F=>
  intro w mg gX h k6 G Bg aq gF;have T:∃t,My.Txt w (L2.FH k6) mg t/\Hm (L2.FH k6) t.AG (L2.J6 aq)=true/\Hm (L2.FH k6) t.tb (L2.J6 gF)=true:=by
   dsimp only[L2.FH,L2.J6];refine' ⟨My.bQ.mk,⟨⟨?mqaa,?Fqab,?mqac,?Fqad,?mqae,?Fqaf,?mqag,?Fqah,?mqai,?Fqaj,?mqak,?Fqal,?mqam,?Fqan,?mqao,?Fqap,?mqaq,?Fqar,?mqas,?Fqat⟩,⟨?mqau,?Fqav,?mqaw,?Fqax,?mqay,?Fqaz,?mqba,?Fqbb,?mqbc,?Fqbd,?mqbe,?Fqbf,?mqbg,?Fqbh,?mqbi,?Fqbj,?mqbk,?Fqbl,?mqbm,?Fqbn⟩,⟨?mqbo,?Fqbp,?mqbq,?Fqbr,?mqbs,?Fqbt,?mqbu,?Fqbv,?mqbw,?Fqbx,?mqby,?Fqbz,?mqca,?Fqcb,?mqcc,?Fqcd,?mqce,?Fqcf,?mqcg,?Fqch⟩,⟨?mqci,?Fqcj,?mqck,?Fqcl,?mqcm,?Fqcn,?mqco,?Fqcp,?mqcq,?Fqcr,?mqcs,?Fqct,?mqcu,?Fqcv,?mqcw,?Fqcx,?mqcy,?Fqcz,?mqda,?Fqdb⟩,⟨?mqdc,?Fqdd,?mqde,?Fqdf,?mqdg,?Fqdh,?mqdi,?Fqdj,?mqdk,?Fqdl,?mqdm,?Fqdn,?mqdo,?Fqdp,?mqdq,?Fqdr,?mqds,?Fqdt,?mqdu,?eqdv⟩,⟨?Fqdw,?eqdx,?Fqdy,?eqdz,?Fqea,?eqeb,?Fqec,?eqed,?Fqee,?eqef,?Fqeg,?eqeh,?Fqei,?mqej,?eqek,?Fqel,?mqem,?eqen,?Fqeo,?eqep⟩,⟨?Fqeq,?eqer,?Fqes,?eqet,?Fqeu,?eqev,?Fqew,?eqex,?Fqey,?eqez,?Fqfa,?eqfb,?Fqfc,?eqfd,?Fqfe,?eqff,?Fqfg,?eqfh,?Fqfi,?eqfj⟩,⟨?Fqfk,?mqfl,?eqfm,?Fqfn,?eqfo,?Fqfp,?eqfq,?Fqfr,?eqfs,?Fqft,?eqfu,?Fqfv,?mqfw,?eqfx,?Fqfy,?mqfz,?eqga,?Fqgb,?eqgc,?Fqgd⟩,⟨?eqge,?Fqgf,?eqgg,?Fqgh,?mqgi,?eqgj,?Fqgk,?eqgl,?Fqgm,?eqgn,?Fqgo,?eqgp,?Fqgq,?mqgr,?eqgs,?Fqgt,?eqgu,?Fqgv,?eqgw,?Fqgx⟩,⟨?eqgy,?Fqgz,?mqha,?eqhb,?Fqhc,?eqhd,?Fqhe,?eqhf,?Fqhg,?eqhh,?Fqhi,?sqhj,?sqhk,?sqhl,?sqhm,?sqhn,?sqho,?sqhp,?sqhq,?nqhr⟩,⟨?nqhs,?nqht,?sqhu,?sqhv,?nqhw,?nqhx,?nqhy,?nqhz,?nqia,?nqib,?nqic,?nqid,?sqie,?sqif,?sqig,?sqih,?sqii,?sqij,?sqik,?sqil⟩,⟨?sqim,?sqin,?sqio,?sqip,?sqiq,?nqir,?nqis,?nqit,?nqiu,?nqiv,?nqiw,?nqix,?nqiy,?sqiz,?sqja,?sqjb,?sqjc,?sqjd,?sqje,?nqjf⟩,⟨?nqjg,?nqjh,?nqji,?nqjj,?sqjk,?sqjl,?sqjm,?sqjn,?sqjo,?sqjp,?nqjq,?nqjr,?nqjs,?nqjt,?nqju,?nqjv,?nqjw,?sqjx,?sqjy,?sqjz⟩,⟨?sqka,?sqkb,?nqkc,?nqkd,?nqke,?nqkf,?nqkg,?nqkh,?nqki,?sqkj,?sqkk,?sqkl,?sqkm,?sqkn,?nqko,?nqkp,?nqkq,?nqkr,?nqks,?nqkt⟩,⟨?nqku,?sqkv,?sqkw,?sqkx,?sqky,?sqkz,?nqla,?nqlb,?nqlc,?dqld,?dqle,?dqlf,?sqlg,?mqlh,?vqli,?mqlj,?vqlk,?mqll,?vqlm,?mqln⟩,⟨?vqlo,?mqlp,?vqlq,?mqlr,?vqls,?mqlt,?vqlu,?mqlv,?vqlw,?mqlx,?vqly,?mqlz,?vqma,?mqmb,?vqmc,?mqmd,?vqme,?bqmf,?bqmg,?bqmh⟩,⟨?bqmi,?bqmj,?bqmk,?bqml,?bqmm,?bqmn,?bqmo,?bqmp,?bqmq,?cqmr,?cqms,?lqmt⟩⟩,?zcc,?zcd⟩
   case mqaa|mqac|mqae|mqag|mqai|mqak|mqam|mqao|mqaq|mqas|mqau|mqaw|mqay|mqba|mqbc|mqbe|mqbg|mqbi|mqbk|mqbm|mqbo|mqbq|mqbs|mqbu|mqbw|mqby|mqca|mqcc|mqce|mqcg|mqci|mqck|mqcm|mqco|mqcq|mqcs|mqcu|mqcw|mqcy|mqda|mqdc|mqde|mqdg|mqdi|mqdk|mqdm|mqdo|mqdq|mqds|mqdu|mqej|mqem|mqfl|mqfw|mqfz|mqgi|mqgr|mqha|mqlh|mqlj|mqll|mqln|mqlp|mqlr|mqlt|mqlv|mqlx|mqlz|mqmb|mqmd=>(try dsimp only);refine' PySem.W.mg_of k6 G ?z;case z=>k_is
   case eqdv|eqdx|eqdz|eqeb|eqed|eqef|eqeh|eqek|eqen|eqep|eqer|eqet|eqev|eqex|eqez|eqfb|eqfd|eqff|eqfh|eqfj|eqfm|eqfo|eqfq|eqfs|eqfu|eqfx|eqga|eqgc|eqge|eqgg|eqgj|eqgl|eqgn|eqgp|eqgs|eqgu|eqgw|eqgy|eqhb|eqhd|eqhf|eqhh=>(try dsimp only);k_is
   case sqhj|sqhk|sqhl|sqhm|sqhn|sqho|sqhp|sqhq|sqhu|sqhv|sqie|sqif|sqig|sqih|sqii|sqij|sqik|sqil|sqim|sqin|sqio|sqip|sqiq|sqiz|sqja|sqjb|sqjc|sqjd|sqje|sqjk|sqjl|sqjm|sqjn|sqjo|sqjp|sqjx|sqjy|sqjz|sqka|sqkb|sqkj|sqkk|sqkl|sqkm|sqkn|sqkv|sqkw|sqkx|sqky|sqkz|sqlg=>(try dsimp only);constructor <;> k_is
   case Fqab|Fqad|Fqaf|Fqah|Fqaj|Fqal|Fqan|Fqap|Fqar|Fqat|Fqav|Fqax|Fqaz|Fqbb|Fqbd|Fqbf|Fqbh|Fqbj|Fqbl|Fqbn|Fqbp|Fqbr|Fqbt|Fqbv|Fqbx|Fqbz|Fqcb|Fqcd|Fqcf|Fqch|Fqcj|Fqcl|Fqcn|Fqcp|Fqcr|Fqct|Fqcv|Fqcx|Fqcz|Fqdb|Fqdd|Fqdf|Fqdh|Fqdj|Fqdl|Fqdn|Fqdp|Fqdr|Fqdt|Fqdw|Fqdy|Fqea|Fqec|Fqee|Fqeg|Fqei|Fqel|Fqeo|Fqeq|Fqes|Fqeu|Fqew|Fqey|Fqfa|Fqfc|Fqfe|Fqfg|Fqfi|Fqfk|Fqfn|Fqfp|Fqfr|Fqft|Fqfv|Fqfy|Fqgb|Fqgd|Fqgf|Fqgh|Fqgk|Fqgm|Fqgo|Fqgq|Fqgt|Fqgv|Fqgx|Fqgz|Fqhc|Fqhe|Fqhg|Fqhi=>(try dsimp only);refine' L2.aoL ?x ?y ?z;(case x=>k_is);(case y=>k_is);(case z=>k_is)
   case cqmr|cqms=>(try dsimp only);(try rfl)
   case nqhr|nqhs|nqht|nqhw|nqhx|nqhy|nqhz|nqia|nqib|nqic|nqid|nqir|nqis|nqit|nqiu|nqiv|nqiw|nqix|nqiy|nqjf|nqjg|nqjh|nqji|nqjj|nqjq|nqjr|nqjs|nqjt|nqju|nqjv|nqjw|nqkc|nqkd|nqke|nqkf|nqkg|nqkh|nqki|nqko|nqkp|nqkq|nqkr|nqks|nqkt|nqku|nqla|nqlb|nqlc=>(try dsimp only);unfold L2.dD;k_is
   case dqld|dqle|dqlf=>(try dsimp only);decide
   case vqli|vqlk|vqlm|vqlo|vqlq|vqls|vqlu|vqlw|vqly|vqma|vqmc|vqme=>(try dsimp only);exact⟨_,rfl⟩
   case bqmf|bqmg|bqmh|bqmi|bqmj|bqmk|bqml|bqmm|bqmn|bqmo|bqmp|bqmq=>(try dsimp only);refine' PySem.W.mg_none_of k6 G ?z;case z=>k_is
   case lqmt=>(try dsimp only);exact fun _ _=>.of_eq rfl
   case zcc=>(try dsimp only);kernel_rfl
   case zcd=>(try dsimp only);kernel_rfl
  obtain⟨t,T,wJ,kq⟩:=T;have fb:=Bg.symm.trans T.aeJ;cases fb;exact⟨t.Er,t.AG,t.tb,T.agD,wJ,kq,fun base V' nb dd g4 Oc Kr=>My.ae5 T Oc Kr dd g4⟩
 case S=>exact fun K H a hM jd ns aN lS mV dY=>⟨a,ns,rfl,My.aks mV dY,aN,⟨#[],mV.1 _ (.tail _ (.head _)),.inl rfl⟩,⟨#[],mV.1 _ (.head _),.inl rfl⟩,dm lS,fun _=>rfl⟩
 case C=>exact fun _ _ _ _ z=>z
