import PyProof.Rows.All
import Wide.All
import OpenK.AllK
import Wide.FinOn
import Lean
import PyProof.EqAt
import PyProof.EqKinds
import PyProof.TupleCall
import KE.IntBitsLaws
import PySem.Challenge.RW_bellwrite_k79_whole_desk_goes_on
set_option Elab.async false
set_option linter.all false
set_option maxRecDepth 100000
set_option maxHeartbeats 4000000
set_option genSizeOf false
set_option compiler.extract_closed false
theorem Op.said : PySem.Challenge.rw_bellwrite_k79_whole_desk_goes_on.wellSaid = true := by kernel_rfl
open Array renaming length_toList→zW,toList_append→jo,getElem?_toList→xm,toList_extract→vz,getElem?_eq_getElem→yr,toList_reverse→Z3,toList_push→JC,toList_setIfInBounds→Xf,append_assoc→VD,toList_eraseIdxIfInBounds→Wq,eq_empty_of_size_eq_zero→W3,getElem_mem→dj,size_extract→uI,toList→BR,size_map→Mi,map→Ur,ext'→zga
open Array.Perm renaming refl→Gp
open Bool renaming false_ne_true→qI,false_eq_true→xq,and_eq_true→vh,not_eq_true'→yX,eq_iff_iff→Jc,or_eq_true→Vm,not_true→Yx,or_false→rW,and_true→RN
open Char renaming toNat→Ml
open Classical renaming byContradiction→cP
open Eq renaming symm→bf
open False renaming elim→xQ
open ForInStep renaming yield→yj
open Int renaming le_refl→jl,emod_lt_of_pos→jH,emod_nonneg→xM,lt_of_lt_of_le→xR,le_trans→vL,mul_le_mul_of_nonneg_right→vO,lt_of_le_of_lt→wR,toNat_natCast→yf,mul_nonneg→yQ,ediv_nonneg→ZR,le_of_lt→Z5,mul_ediv_add_emod→Jr,ediv_le_self→Xq,eq_ofNat_of_zero_le→V6,add_mul_ediv_right→K7,ediv_eq_zero_of_lt→K8,mul_comm→K9,mul_le_mul→Wa,mul_zero→Wc,pow_succ→Wd,mul_le_mul_of_nonneg_left→YW,natCast_mul→aA,lt_trans→bh,fdiv_eq_ediv_of_nonneg→cD,natCast_nonneg→cF,add_mul→du,one_mul→dw,le_ediv_iff_mul_le→iW,pow_zero→iY,mul_one→oO,mul_ediv_cancel→rm,add_assoc→rY,mul_assoc→rZ,add_comm→Ca,natCast_ediv→Ek,natCast_add→Gr,natCast_pow→Gs,natAbs_pow→Mr,add_zero→zbl,zero_mul→zbm
open List renaming length_map→zf,getElem?_eq_getElem→zq,getD_eq_getElem?_getD→zA,mem_cons_of_mem→zG,mem_cons_self→zJ,length_append→zM,map_cons→zY,size_toArray→z7,mem_append_right→z8,mem_of_getElem?→qw,length_cons→qx,getElem?_map→qF,replicate→qH,range→qJ,getElem?_append_left→qP,append_assoc→qQ,getElem?_append_right→jj,append_nil→jr,map_append→jw,length_replicate→jE,lookup_cons→jK,not_mem_nil→jL,extract_eq_take_drop→xu,length_take→xK,getElem?_eq_none→xT,mem_cons→xX,getElem?_of_mem→vA,length_range→vB,mem_append_left→vU,getElem?_replicate→kE,filterMap_cons→wB,map_map→wM,replicate_succ→yh,length_singleton→yz,getElem?_drop→yE,length_drop→yF,sum_cons→yL,mem_of_mem_take→yR,flatten_cons→yZ,getElem?_set_self→Zj,lookup→Z6,mem_of_mem_drop→Z7,take_add_one→Z8,reverse_append→Qq,ext_getElem→QC,take_of_length_le→QZ,find?_cons→Jd,nil_append→Je,range_succ→Jf,any_cons→Jm,perm_append_comm→Jt,take_append_drop→Ju,all_eq_true→Xr,cons_append→Xu,getElem_mem→Xv,take_length→Xw,foldl_cons→Vp,forIn_cons→Vq,getElem?_take→VF,length→V7,drop_zero→We,ext_getElem?→Wf,getElem?_set_ne→YX,reverse_reverse→YZ,of_mem_zip→aB,drop_succ_cons→aH,length_reverse→aJ,map_congr_left→aK,map_nil→bj,drop_eq_getElem_cons→cQ,map_reverse→gh,range'_succ→gj,drop_of_length_le→iZ,zipWith_cons_cons→lq,length_set→lQ,getElem?_zipWith→my,drop_drop→oV,getElem?_range→rn,foldl→uK,getElem_range→uL,foldl_append→Cd,drop_length→Em,filter_nil→Gu,length_nil→Gv,drop_take→Mt,take_zero→Mu,all_cons→RX,any_nil→zbn,mem_map→zbo,range'→zdM
open List.Pairwise renaming nil→JD,imp_of_mem→RW
open List.Perm renaming append_right→QX,append_left→Js,trans→Vo,cons_inv→uJ,eq_nil→El,refl→Ms
open List.cons renaming inj→Vb
open Nat renaming le_refl→zE,le_trans→qd,lt_of_lt_of_le→qy,zero_le→qX,ne_of_lt→qY,succ_pos→jJ,lt_irrefl→vH,le_of_lt→kj,toDigits_of_lt_base→kI,toDigits→wk,zero_add→yM,toDigits_append_toDigits→Zb,lt_or_eq_of_le→ZG,mul_le_mul_right→Z9,add_one_sub_one→Qs,mul_comm→Q0,succ_mul→Q3,mul_le_mul→Xh,sub_self→Xx,mul_le_mul_left→XC,strongRecOn→Vr,le_succ_of_le→Wg,lt_succ_self→W5,mod_lt→W6,mul_assoc→Yz,div_add_mod→aC,lt_of_le_of_lt→cG,add_mul→dz,le_succ→dB,lt_succ_of_lt→dD,digitChar→fu,le_add_right→gk,pow_succ→lr,not_lt_zero→lR,add_le_add_right→oW,mul_add→oX,pow_le_pow_right→oY,pow_le_pow_left→rA,le_of_eq→Ce,lt_or_ge→Cg,succ_le_succ→En,one_mul→Fw,add_zero→zbr,ne_of_gt→zbs,sub_zero→zbt
open Nat.succ renaming inj→Wh
open Ne renaming symm→Xy
open Option renaming getD_some→xf,map_some→Jg,none→dF,isSome_none→uM,isSome_map→Ci,getD_none→Eo
open Option.some renaming inj→xr,injEq→Cj
open Or renaming inl→zN,inr→cH
open PyProof.Rows renaming wpS_bind→zQ,wpS_pure→qi,Keyed→ql,arrOf→qT,pendingOf→jC,SortSt→jT,wpS_forRange→vM,callWith_type1→km,wpS_mono→Zg,AllBare→K3,IntsAre→Yy,wpS_get→bw,wpS_modify→cM,wpS_lift→gG,pairsOf_size→lE,subscriptTail_builtinR→lF,K_mirror_equal→oU,listUpdate_at→tu,callWith_builtin1→Ep,seqEpoch_at→FN,entry_list_sort→Gy,signs_ofString→Hd,StrsAre→Hh,Subscript_→MN,args_list_sort→MP,boot_range→M9,slot_list_sort→Nf,importsNone→R6
open PyProof.Rows.LSm renaming kept_iter→My,range_all→Mz
open PyProof.Rows.SortSt renaming mk'→zgD
open PySem renaming Value→zc,Addr→zm,Shared→zp,wpAny_bind→zr,starEach→z9,wpAny_pure→qj,mainGlobals→qp,Program→qz,sizeLine_eq→qC,World→jd,Around→jg,wpAny_mono→jt,Expr→jD,intBits_le_of_natAbs→jN,FuncData→jQ,Stmt→jV,Heap→jW,wpAny_holding→jY,intBits_add_le→vP,Params→wC,wpAny_truthy_bool→yg,NameKind→yS,typeIs_str→Zd,Scope→Zr,wpAny_Call_Name_kw→ZK,wpAny_passesOwn→ZS,call_meets→Qm,mem_of_lookup→Qt,OsState→Q4,codeAny_mono→Q5,wpAny_execs_nil→Ji,wpAny_rule→Xi,wpAny_standAt→Ve,Keyword→Vn,tupleKind_room_in1→VN,GenState→K5,intBits_mul_le→Wm,wpAny_newObj_type→Wn,wpAny_isOneOf_keyiter→Wt,wpAny_call→W9,wpAny_call_entry→Yb,wpAny_attempt→YC,codeAny_call_builtin→Y4,wpAny_newFunctionEnv→Y5,wpAny_typeNameOfWhole_keyiter→Y6,Model→aM,intBits_sub_le→cJ,wpAny_assign_Name→dJ,wpAny_comprehension_free→fD,wpAny_typeNameOf_keyiter→fG,wpAny_callSpecial?_slot→gD,wpAny_comp_letGo→gF,codeAny_compStart_list→lD,wpAny_Call_method_late→lG,wpAny_pyIter_rangeiter→lH,wpAny_pyNext_range_end→lJ,codeAny_builtin→lX,wpAny_specialOf→lY,exec_Assign_Name_used→mF,wpAny_isTrue_Compare1→mG,IsRangeIter→oR,wpAny_of_eq→pq,BindsTo→pX,Builtin→pY,any_of_findIdx_some→rD,wpAny_isSubtype_exc→rE,wpAny_newList→tD,call→uY,Result→uZ,wpAny_pyIter_range→Af,Within→Cq,passOn→Cr,call_meetsIn→Cy,slot_dict_setitem→CK,wpAny_Call_method→CP,wpAny_loadPart_at→CQ,wpAny_pyIter_enum→CV,wpAny_pyIter_list→CW,DictEntry→Ej,Ctx→Er,wpAny_Try_except→Ew,wpAny_execs_cons→Ex,seqIndex_of→FP,wpAny_looks_onW→GC,CmpOp→Mm,Paired→Mw,PlainAttrs→Mx,intText?→MF,joinTail→MK,joinFit_length→Nb,typeIs_int→Ng,wpAny_Name→Nh,wpAny_fieldsOf→Ni,wpAny_loadPart→Nk,wpAny_setField→Nq,Comprehension→RQ,ExceptHandler→RT,Builtin→R8,call_list_seq→Tc,compTurn_list→Td,evalPart_none→Tf,plainId_quiet→Tg,PassesOwn→UL
open PySem.Around renaming under_plainId→oM,under→BP
open PySem.Builtin.Dict_items renaming ownsTuple→Gq
open PySem.Builtin.Int renaming intBits→zZ,intBits→vZ
open PySem.Builtin.List renaming listTooLong→Qi,listExtendWith→aX,listLengthHint→aY,listSameRef→fj,listFitsIndex→Mj
open PySem.Builtin.Range renaming rangeSize→xW,small→Qp,rangeFitsLong→aZ
open PySem.Builtin.Str renaming occurrences→jB,strKind→wA,strSub→wQ,partsBetween→Qj,glued→BW
open PySem.Calls renaming callWith_builtin→Zi,spliced_cons→ZF,evalArgs_plain→Z4,Name_function_global→Xg,spliced_nil→K4,call_function_entry→cO,loadGlobal_global→gf
open PySem.Code renaming isFrame→BX,frames→zdE
open PySem.Data renaming fields→dq,cell→Us
open PySem.Draws renaming list→zgg
open PySem.EqMixed renaming eq_bool_str→Nx,eq_str_bool→Ny,ne_bool_str→Nz,ne_str_bool→NB,eq_int_str→R9,eq_str_int→Sd,ne_int_str→Sg,ne_str_int→Sh
open PySem.EqNone renaming eq_bool_none→NK,eq_none_bool→NP,eq_none_none→NQ,ne_bool_none→NZ,ne_none_bool→N5,ne_none_none→N6,eq_int_none→Sq,eq_none_int→Ss,eq_none_str→Su,eq_str_none→Sv,ne_int_none→Sw,ne_none_int→Sx,ne_none_str→Sy,ne_str_none→SJ
open PySem.F renaming excBase_ValueError→qu,plainAttrs_str→jm,plainAttrs_list→xg,slot_list_append→xH,type_list_append→xJ,slot_str_join→xU,type_str_join→xV,slot_str_split→vC,entry_str_split→wU,args_str_split_2→Vc,args_str_split_3→Vd,slot_dict_keyiterator_next→VH,type_str_split→Wj,slot_dict_get→Ws,slot_dict_setdefault→aD,args_dict_get_3→gw,plainAttrs_dict→gA,entry_dict_get→lu
open PySem.Heap renaming get?_push_of_some→zO,lt_size→zV,get?_push_size→jf,SameBut→wL,get?_update_self→yx,get?_update_other→K6,size_push→oN,FlyingW→zbk
open PySem.Heap.IsSliceOf renaming new→zgi
open PySem.Heap.SameBut renaming update→Xz,refl→BZ
open PySem.Heap.UpToSlots renaming of_keeps→Ut
open PySem.IsRange renaming new→zdI
open PySem.Made renaming val→zdN
open PySem.NameKind renaming free→jX,cell→Qk
open PySem.NumText renaming AllDigits→pW
open PySem.Obj renaming mapSeq→Ql,data_mapFields→VG,mapFields→YB,data_mapDictKeys→Y0,data_mapDict→gq,isFreed_of_fields→mC,isFreed_of_dict→rB
open PySem.P renaming str_of_int→uN
open PySem.Paired renaming length→fC,snoc→zdS
open PySem.PassesOwn renaming never→kW,leaving→Qa
open PySem.PyData renaming canLay0→Wi,depth→bu,canLayAll0→dG,depthAll→lU
open PySem.Sem renaming wp_mono→Fy,wp_bind'→zbx,wp→zgz
open PySem.SeqAt renaming EqAt→zgA
open PySem.SeqAt.EqAt renaming int_str→u0,str_int→Aa
open PySem.Spec renaming same→aF,sameAll→uO
open PySem.Str renaming ofString→Qc,empty→W7,join→zd0
open PySem.StrLaws renaming occBody→wN,partsBetween_eq→gB,occ_length_le→mD,join_split→Ab,split_free→Ac,found_one→Cu,subAt_one→Cw
open PySem.Value renaming ref→jx,str→V8,none→W8,int→bA,bool→lB,type→Ad,float→Fz,isStrOf→S9,bytes→zd3,isInt→zd4
open PySem.W renaming Frag→zg,excIn→qD,findIn→qL,nsIn→qO,kitOne→jk,mg_none_of→jy,mg_of→jO,keepIn→jR,fnOf→xj,codeIn→vD,kia_one→kY,emptyDict→wG,isFn→yN,instObj→Zc,mroIn→Zq,plainGet→QD,looks_pair→Q6,hasDictIn→JF,callWith_K→VM,plainOver→Wk,makesIn→aG,plainGet_of→aN,lookIn→cI,methodObj→dH,specialIn→dI,boot_heap→gC,cellsFrom_some→lz,OpenLaw→lV,takerIn→lW,hideAll_none→oZ,SharedT→pZ,of_hideAll→Ae,kitx_dict→Cm,kitx_list→Cp,looks_findIn→Cz,handedIn→Et,boot_o_10→Eu,takesIn→Gx,boot_o_0→MT,boot_o_1→M3,boot_o_2→M4,boot_o_4→M5,boot_o_5→M6,boot_o_6→M7,boot_o_9→M8,WalkO→S7,Looks→UG
open PySem.W.Fast renaming te14364793385576792824→wK,te3399658132070893891→VJ,te5923862056798008813→VL,te821141287760084731→V9,te10110043849684766642→sG,te10880121769531294198→sH,te10994771534591457954→sI,te11698064438423848299→sJ,te11892475500146522536→sO,te13664370479719496447→sS,te14082659384304107361→sU,te14374325043358763698→sV,te14722251495701143533→sW,te15667345088766844465→sX,te16090120013241838585→sY,te2386780881361962483→uP,te3247288618530077131→uQ,te5160383126252970620→uR,te5991557255702980513→uT,te7317090234206586261→uU,te7369524293546568484→uV,te7409074990110511671→uW,te8920871248978507458→uX,te479339242167458305→Ah
open PySem.W.Looks renaming ld→Mv,here→zgr
open PySem.W.R renaming mapR_eq→Ck
open PySem.W.WData renaming int→Zu,weightAll→Jh,weight→Wl,list→lC,layable→sZ
open PySem.W.WShape renaming has→zgF
open PySem.Walks renaming range→zd5
open PySem.Within renaming cons→zia
open Sum renaming inr→xG,inl→vW
open Sum.inl renaming inj→zd2
open Sum.inr renaming inj→ph
open True renaming intro→ZJ
namespace L2
open PySem PySem.Spec PyProof.Rows
abbrev Key:=Sum Int Str
noncomputable def Fd:Key->zc->Bool
 | .inl k,v=>zd4 k v
 | .inr x,v=>S9 x v
noncomputable def zyj (w:jd):Key->Int
 | .inl k=>hashInt k
 | .inr x=>hashStr w x
theorem Zo:∀{k:Key}{v:zc},Fd k v=true->(∃i t,k=vW i/\v=bA i t)∨(∃x t,k=xG x/\v=V8 x t)
 | .inl i,v,h=>by
  obtain⟨t,e⟩:=Value.isInt_shape (k:=i) (v:=v) h;exact .inl ⟨i,t,rfl,e⟩
 | .inr x,v,h=>by
  obtain⟨t,e⟩:=Value.isStrOf_shape (x:=x) (v:=v) h;exact .inr ⟨x,t,rfl,e⟩
theorem ziO (i:Int) (t:Tok):Fd (.inl i) (.int i t)=true:=by simp[Fd,zd4]
theorem ziP (x:Str) (t:Tok):Fd (.inr x) (.str x t)=true:=by simp[Fd,S9]
theorem zq7 (a b:Int):decide ((vW a:Key)=vW b)=(a == b):=by
 by_cases e:a=b
 .subst e;simp
 .have h:¬(vW a:Key)=vW b:=fun q=>e (zd2 q);rw[decide_eq_false h];exact(beq_eq_false_iff_ne.mpr e).symm
theorem zra (a b:Str):decide ((xG a:Key)=xG b)=decide (a=b):=by
 by_cases e:a=b
 .subst e;simp
 .have h:¬(xG a:Key)=xG b:=fun q=>e (ph q);rw[decide_eq_false h,decide_eq_false e]
theorem zq8 (a:Int) (b:Str):decide ((vW a:Key)=xG b)=false:=decide_eq_false (fun q=>nomatch q)
theorem zq9 (a:Str) (b:Int):decide ((xG a:Key)=vW b)=false:=decide_eq_false (fun q=>nomatch q)
noncomputable def xF (prog:qz) (w:jd):PySem.KeyKind prog w Key where
 is:=Fd
 hash:=zyj w
 inj:=fun v a b ha hb=>by
  rcases Zo ha with ⟨i,t,rfl,rfl⟩ | ⟨x,t,rfl,rfl⟩
  .rcases Zo hb with ⟨j,u,rfl,e⟩ | ⟨y,u,rfl,e⟩
   .injection e with e1 _;rw[e1]
   .exact nomatch e
  .rcases Zo hb with ⟨j,u,rfl,e⟩ | ⟨y,u,rfl,e⟩
   .exact nomatch e
   .injection e with e1 _;rw[e1]
 byValue:=fun k v h=>by
  rcases Zo h with ⟨i,t,rfl,rfl⟩ | ⟨x,t,rfl,rfl⟩ <;> rfl
 pyHash:=fun hv h=>by
  rcases Zo hv with ⟨i,t,rfl,rfl⟩ | ⟨x,t,rfl,rfl⟩
  .exact wpAny_pyHash_int h
  .exact wpAny_pyHash_str h
 eqBool:=fun hu hv h=>by
  rcases Zo hu with ⟨i,t,rfl,rfl⟩ | ⟨x,t,rfl,rfl⟩
  .rcases Zo hv with ⟨j,u,rfl,rfl⟩ | ⟨y,u,rfl,rfl⟩
   .rw[zq7] at h;exact wpAny_eqBool_int h
   .rw[zq8] at h;exact u0 i t y u _ _ _ _ h
  .rcases Zo hv with ⟨j,u,rfl,rfl⟩ | ⟨y,u,rfl,rfl⟩
   .rw[zq9] at h;exact Aa x t j u _ _ _ _ h
   .rw[zra] at h;exact wpAny_eqBool_str h
 «strs»:=fun k x t v h=>by
  rcases Zo h with ⟨i,u,rfl,e⟩ | ⟨y,u,rfl,e⟩
  .exact nomatch e
  .injection e with e1 _;subst e1;cases v <;> rfl
theorem zfx (prog:qz) (w:jd) (k:Key) (v:zc):(xF prog w).is k v=Fd k v:=rfl
theorem zcR (prog:qz) (w:jd) (i:Int) (t:Tok):(xF prog w).is (.inl i) (.int i t)=true:=ziO i t
theorem zcS (prog:qz) (w:jd) (x:Str) (t:Tok):(xF prog w).is (.inr x) (.str x t)=true:=ziP x t
theorem DW {M:aM}{Γ:Er}{p:Pos}{t:Sem PySem.Fin}{fs:List Frame} {s s':zp}{e:End} (h:Runs M Γ p t fs s e s'):s.toks<=s'.toks:=by
 induction h with
 | done=>exact zE _
 | raise=>exact zE _
 | yield=>exact zE _
 | fresh _ ih=>exact Nat.le_of_succ_le ih
 | call _ _ i1 i2=>exact qd i1 i2
 | resumeFresh _ _ _ _ i1 i2=>exact qd i1 i2
 | resumeSuspended _ _ _ _ i1 i2=>exact qd i1 i2
 | segRet _ _ i1 i2=>exact qd i1 i2
 | segGen _ _ i1 i2=>exact qd i1 i2
 | segSuspGen _ _ _ _ i1 i2=>exact qd i1 i2
 | _=>assumption
theorem zf6 {M:aM}{Γ:Er}{p:Pos}{g:Nat}{r:Resume} {s s':zp}{res:GenResult} (h:Wakes M Γ p g r s res s'):s.toks<=s'.toks:=by
 unfold Wakes at h;split at h
 .exact h.elim
 .split at h
  .obtain⟨e,s1,hr,_,_,rfl⟩:=h;have:=DW hr;exact this
  .rw[h.2];exact zE _
  .rw[h.2];exact zE _
 .obtain⟨e,s1,hr,_,_,rfl⟩:=h;have:=DW hr;exact this
 all_goals (rw[h.2];exact zE _)
theorem zp4 {α:Type}{M:aM}{Γ:Er}{n:Nat} (t:Sem α){Q:α->Pos->zp->Prop}{E:zc->Pos->zp->Prop}:∀{p:Pos}{s:zp},n<=s.toks ->
  zgz M Γ t (fun a p' s'=>n<=s'.toks->Q a p' s') (fun e p' s'=>n<=s'.toks->E e p' s') p s->zgz M Γ t Q E p s:=by
 induction t with
 | pure a=>intro p s h q;exact q h
 | raise e=>intro p s h q;exact q h
 | unsupported w=>intro p s h q;exact q
 | finish w=>intro p s h q;exact q
 | register a k ih=>intro p s h q;exact q
 | yield v g l k ih=>intro p s h q;exact q
 | fork c k ih=>intro p s h q;exact q
 | await a f d l k ih=>intro p s h q;exact q
 | load a part k ih=>intro p s h ⟨o,e,q⟩;exact⟨o,e,ih o h q⟩
 | update a part f k ih=>intro p s h ⟨e,q⟩;exact⟨e,ih () (s:={ s with heap:=_ }) h q⟩
 | choose src m k ih=>intro p s h ⟨e,q⟩;exact⟨e,ih _ (s:={ s with drawn:=_ }) h q⟩
 | genState g k ih=>intro p s h ⟨st,e,q⟩;exact⟨st,e,ih _ h q⟩
 | resume g r l k ih=>intro p s h ⟨res,s1,hw,q⟩;exact⟨res,s1,hw,ih _ (qd h (zf6 hw)) q⟩
 | call c hd g l k ih=>intro p s h ⟨r,s1,hr,q⟩;exact⟨r,s1,hr,ih r (qd h (DW hr)) q⟩
 | fresh k ih=>intro p s h q;exact ih _ (s:={ s with toks:=s.toks+1 }) (Wg h) q
 | rule tag k ih=>intro p s h q;exact ih () h q
 | «at» pos k ih=>intro p s h q;exact ih () h q
 | alloc o k ih=>intro p s h q;exact ih _ (s:={ s with heap:=s.heap.push o }) h q
 | loadIfAlive a k ih=>intro p s h q;exact ih _ h q
 | point l k ih=>intro p s h q;exact ih () h q
 | ask k ih=>intro p s h q;exact ih _ h q
 | os q l k ih=>intro p s h q';exact ih _ (s:={ s with os:=_ }) h q'
 | handled own k ih=>intro p s h q;exact ih _ h q
 | newGen c k ih=>intro p s h q;exact ih _ (s:={ s with gens:=_ }) h q
 | stack k ih=>intro p s h q;exact ih _ h q
 | thread k ih=>intro p s h q;exact ih 0 h q
theorem Ja {α:Type}{M:aM}{A:jg}{t:Sem α}{Q:α->zp->Prop}{E:zc->zp->Prop}{s:zp}
  (h:wpAny M A t (fun a s'=>s.toks<=s'.toks->Q a s') (fun e s'=>s.toks<=s'.toks->E e s') s):wpAny M A t Q E s:=
 fun Γ p hΓ=>zp4 t (zE _) (h Γ p hΓ)
theorem zmo {β:Type}{M:aM}{Γ:Er}{K:Setting->Tok->Sem Unit}{m:Sem Unit} (hm:m=.ask fun st=>.fresh fun t=>K st t){f:Unit->Sem β}{Q:β->Pos->zp->Prop}{E:zc->Pos->zp->Prop}{p:Pos}{s:zp}
  (h:zgz M Γ (m >>= f) (fun a p' s'=>0<s'.toks->Q a p' s') E p s):zgz M Γ (m >>= f) Q E p s:=by
 subst hm;refine zp4 (M:=M) (Γ:=Γ) (n:=1) ((K ⟨M.prog,M.w.params⟩ s.toks).bind f) (s:={ s with toks:=s.toks+1 }) (Nat.le_add_left 1 s.toks) ?_;refine Fy M Γ ((K ⟨M.prog,M.w.params⟩ s.toks).bind f) (fun _ _ _ h=>h) (fun _ _ _ h=>?_) p { s with toks:=s.toks+1 } h;exact fun _=>h
theorem zdu {env:Env}{x:Str}{v:zc} (hk:env.scope.kind=.function) (hx:env.kindOf x=some .local):∃K:Setting->Tok->Sem Unit,storeName env x v=.ask fun st=>.fresh fun t=>K st t:=by
 unfold storeName;rw[hx,hk];exact⟨_,rfl⟩
theorem zqU {M:aM}{A:jg}{E:zc->zp->Prop}{s:zp}{scope:Zr}{globals:zm}{binds:List (Str×zc)}{qual:Str}{func:Option zm}{code:zc}{builtins:zm}{Q:Env->zp->Prop}
  (hk:scope.kind=.function) (hp:0<s.toks∨∃x v r,binds=(x,v)::r/\scope.names.lookup x=some .local)
  (h:wpAny M A (newFunctionEnv scope globals [] binds qual func code none builtins) (fun env s'=>0<s'.toks->Q env s') E s) :
  wpAny M A (newFunctionEnv scope globals [] binds qual func code none builtins) Q E s:=by
 rcases hp with hp | ⟨x,v,r,rfl,hx⟩
 .exact Ja (jt h (fun _ _ q e=>q (qy hp e)) fun _ _ q _=>q)
 .intro Γ p hΓ;have q:=h Γ p hΓ;simp only[newFunctionEnv,uM,xq,if_false] at q ⊢;rw[zbx] at q ⊢;refine Fy M Γ _ (fun locals p' s' q=>?_) (fun _ _ _ z=>z) p s q;rw[zbx] at q ⊢;refine Fy M Γ _ (fun cells p2 s2 q=>?_) (fun _ _ _ z=>z) p' s' q;simp only[Vq,bind_assoc] at q ⊢;obtain⟨K,e⟩:=zdu (env:={ scope:=scope,locals:=locals,globals:=globals,cells:=cells,qual:=qual,func:=func,code:=code,frame:=some locals,builtins:=builtins }) (x:=x) (v:=v) hk hx;exact zmo e q
inductive V where
 | non | bl (b:Bool) | int (i:Int) | str (x:Str) | byt (b:Array UInt8) | flt (b:UInt64) | ref (a:zm) | ty (n:String)
 deriving DecidableEq
abbrev NT:={t:Tok // t≠0}
def RelV:V->zc->Prop
 | .non,u=>u=W8
 | .bl b,u=>u=lB b
 | .int i,u=>∃t,u=bA i t
 | .str x,u=>∃t:NT,u=V8 x t.1
 | .byt b,u=>∃t,u=zd3 b t
 | .flt b,u=>∃t,u=Fz b t
 | .ref a,u=>u=jx a
 | .ty n,u=>u=Ad n
abbrev Vals:List V->List zc->Prop:=Mw RelV
theorem Vals.length {xs:List V}{us:List zc} (r:Vals xs us):xs.length=us.length:=fC r
theorem Vals.get:∀{xs:List V}{us:List zc}{i:Nat}{x:V},Vals xs us->xs[i]?=some x->∃u,us[i]?=some u/\RelV x u
 | _,_,_,_,.nil,e=>by simp at e
 | _,_,0,_,.cons r _,e=>by simp at e;subst e;exact⟨_,rfl,r⟩
 | _,_,i+1,x,.cons _ t,e=>by
  obtain⟨u,h1,h2⟩:=Vals.get (i:=i) (x:=x) t (by simpa using e);exact⟨u,by simpa using h1,h2⟩
theorem Vals.set {x:V}{u:zc} (r:RelV x u):∀{xs:List V}{us:List zc} (i:Nat),Vals xs us->Vals (xs.set i x) (us.set i u)
 | _,_,_,.nil=>.nil
 | _,_,0,.cons _ t=>.cons r t
 | _,_,i+1,.cons q t=>.cons q (Vals.set r i t)
theorem Vals.append:∀{xs ys:List V}{us ws:List zc},Vals xs us->Vals ys ws->Vals (xs++ys) (us++ws)
 | _,_,_,_,.nil,s=>s
 | _,_,_,_,.cons r t,s=>.cons r (Vals.append t s)
theorem Vals.take:∀{xs:List V}{us:List zc} (n:Nat),Vals xs us->Vals (xs.take n) (us.take n)
 | _,_,0,_=>.nil
 | _,_,_+1,.nil=>.nil
 | _,_,n+1,.cons r t=>.cons r (Vals.take n t)
theorem Vals.drop:∀{xs:List V}{us:List zc} (n:Nat),Vals xs us->Vals (xs.drop n) (us.drop n)
 | _,_,0,r=>r
 | _,_,_+1,.nil=>.nil
 | _,_,n+1,.cons _ t=>Vals.drop n t
def mj:Option V->Option zc->Prop
 | some v,some u=>RelV v u
 | none,none=>True
 | _,_=>False
def KV {κ:Type}:List (κ×V)->List (κ×zc)->Prop:=Mw fun(p:κ×V) (q:κ×zc)=>p.1=q.1/\RelV p.2 q.2
noncomputable def kV:Key->V
 | .inl i=>.int i
 | .inr x=>.str x
inductive HO where
 | lst (xs:List V)
 | tup (xs:List V)
 | dK (kvs:List (Key×V)) | dT (kvs:List (List Key×V))
 | set (S:Int->Bool) (n:Nat)
 | ins (C dx:zm) (fs:List (Str×V))
 | own (x:zm)
 | xd (fs:List (Str×V))
 | met (f x:zm)
 | rng (lo hi:Int)
 | frz (o:Obj) (u:HO)
 | tbl (ps:Array zc)
 | ext (φ:jW->Prop)
abbrev Hp:=zm->Option HO
noncomputable def upd (H:Hp) (a:zm) (o:HO):Hp:=fun b=>if b=a then some o else H b
theorem zL {H:Hp}{a:zm}{o:HO}:upd H a o a=some o:=by unfold upd;rw[if_pos rfl]
theorem jM {H:Hp}{a b:zm}{o:HO} (h:b≠a):upd H a o b=H b:=by unfold upd;rw[if_neg h]
theorem Hb {H:Hp}{a:zm}{o u:HO}:upd (upd H a o) a u=upd H a u:=by
 funext b;unfold upd;split <;> rfl
theorem zta {H:Hp}{a b:zm}{o u:HO} (h:H a=some o) (h':H b=some u) (d:o≠u):a≠b:=by
 intro e;subst e;rw[h] at h';exact d (xr h')
def NZK (h:jW) (a:zm):Prop:=∀o es ep,h.get? a=some o->o.data=.dict es ep->∀e∈es,∀x,e.key≠.str x 0
theorem NZK.at {h h':jW}{a:zm}{o:Obj} (n:NZK h a) (e:h.get? a=some o) (e':h'.get? a=some o):NZK h' a:=fun o' es ep q=>by
 rw[e'] at q;cases q;exact n o es ep e
theorem v9 {H:Hp}{a b:zm}{o:HO} (h:H a=some o) (h':H b=none):a≠b:=by
 intro e;subst e;rw[h] at h';cases h'
section
variable (P:qz) (w:jd)
noncomputable def Zn (H:Hp) (h:jW) (a:zm):HO->Prop
 | .lst xs=>xs.length<=sizeLine/\∃(its:List zc) (n:Nat),Vals xs its/\h.get? a=some { cls:=.type "list",data:=.seq its.toArray n }
 | .tup xs=>xs.length<=sizeLine/\∃its:List zc,Vals xs its/\IsTup h a its.toArray
 | .dK kvs=>kvs.length<=sizeLine/\(a == sysModules)=false/\∃vs,(KV kvs vs/\NZK h a)/\h.DictOf (xF P w) a vs
 | .dT kvs=>kvs.length<=sizeLine/\(a == sysModules)=false/\∃xs:List (List Key×zm×zc),
   Mw (fun(p:List Key×V) (q:List Key×zm×zc)=>p.1=q.1/\H q.2.1=some (.tup (p.1.map kV))/\RelV p.2 q.2.2) kvs xs /\
   ∃o es ep,h.get? a=some o/\o.ExactDict/\o.data=.dict es ep/\es.toList=xs.map (entryOfKey (tupleKind (xF P w)))/\(xs.map (·.1)).Nodup
 | .set S n=>h.SetOf (intKind P w) a S n
 | .ins C dx fs=>H dx=some (.own a)/\fs.length<=1000/\dx≠a/\h.get? a=some (Zc C dx) /\
   ∃mA,h.Ns1 dx mA/\(∀f,mj (fs.lookup f) (mA f))/\Cq mA (fs.map (·.1))
 | .own _=>∃o,h.get? a=some o
 | .xd fs=>∃mA,h.Ns1 a mA/\∀f,mj (fs.lookup f) (mA f)
 | .rng lo hi=>∃t u v,h.get? a=some { cls:=.type "range",data:=.fields #[.int lo t,.int hi u,.int 1 v] }
 | .frz o u=>h.get? a=some o/\Zn H h a u
 | .tbl ps=>h.get? a=some { cls:=.none,data:=.fields ps }
 | .met f x=>h.get? a=some (dH (.ref f) (.ref x))
 | .ext φ=>φ h/\(∃o,h.get? a=some o)/\∀h1 h2:jW,φ h1->(∀o,h1.get? a=some o->h2.get? a=some o)->φ h2
def HOk (H:Hp) (h:jW):Prop:=∀a o,H a=some o->Zn P w H h a o
end
section
variable {P:qz}{w:jd} {H H':Hp} {h h':jW}{a:zm}{o:HO}
theorem Zn.lt (x:Zn P w H h a o):a<h.objs.size:=by
 cases o with
 | lst xs=>obtain⟨_,_,_,_,e⟩:=x;exact zV e
 | tup xs=>obtain⟨_,_,_,p⟩:=x;exact p.lt
 | dK kvs=>obtain⟨_,_,_,_,o,_,_,e,_⟩:=x;exact zV e
 | dT kvs=>obtain⟨_,_,_,_,o,_,_,e,_⟩:=x;exact zV e
 | set S n=>obtain⟨o,_,_,_,e,_⟩:=x;exact zV e
 | ins C dx fs=>obtain⟨_,_,_,e,_⟩:=x;exact zV e
 | own y=>obtain⟨_,e⟩:=x;exact zV e
 | xd fs=>obtain⟨_,⟨_,_,_,e,_⟩,_⟩:=x;exact zV e
 | rng lo hi=>obtain⟨_,_,_,e⟩:=x;exact zV e
 | frz ob u=>obtain⟨e,_⟩:=x;exact zV e
 | tbl ps=>exact zV (show h.get? a=some _ from x)
 | met f y=>exact zV (show h.get? a=some _ from x)
 | ext φ=>obtain⟨_,⟨_,e⟩,_⟩:=x;exact zV e
theorem Paired.mapP {α β:Type}{F G:α->β->Prop}:∀{l₁:List α}{l₂:List β},Mw F l₁ l₂->(∀a b,F a b->G a b)->Mw G l₁ l₂
 | _,_,.nil,_=>.nil
 | _,_,.cons r t,f=>.cons (f _ _ r) (Paired.mapP t f)
theorem Zn.stay (x:Zn P w H h a o) (k:∀b u,(b=a∨H b=some (.own a))->h.get? b=some u->h'.get? b=some u)
  (ho:∀b,H b=some (.own a)->H' b=some (.own a)) (ht:∀b xs,H b=some (.tup xs)->H' b=some (.tup xs)):Zn P w H' h' a o:=by
 induction o with
 | lst xs=>obtain⟨z,its,n,r,e⟩:=x;exact⟨z,its,n,r,k _ _ (.inl rfl) e⟩
 | tup xs=>obtain⟨z,its,r,ob,e,c⟩:=x;exact⟨z,its,r,ob,k _ _ (.inl rfl) e,c⟩
 | dK kvs=>obtain⟨z,y,vs,r,ob,es,ep,e,c⟩:=x;exact⟨z,y,vs,⟨r.1,r.2.at e (k _ _ (.inl rfl) e)⟩,ob,es,ep,k _ _ (.inl rfl) e,c⟩
 | dT kvs=>
  obtain⟨z,y,xs,r,ob,es,ep,e,c⟩:=x;exact⟨z,y,xs,Paired.mapP r fun p q z=>⟨z.1,ht _ _ z.2.1,z.2.2⟩,ob,es,ep,k _ _ (.inl rfl) e,c⟩
 | set S n=>obtain⟨ob,es,ep,t,e,c⟩:=x;exact⟨ob,es,ep,t,k _ _ (.inl rfl) e,c⟩
 | ins C dx fs=>
  obtain⟨d,z,ne,e,mA,⟨od,es,ep,e2,c⟩,r⟩:=x;exact⟨ho _ d,z,ne,k _ _ (.inl rfl) e,mA,⟨od,es,ep,k _ _ (.inr d) e2,c⟩,r⟩
 | own y=>obtain⟨ob,e⟩:=x;exact⟨ob,k _ _ (.inl rfl) e⟩
 | xd fs=>obtain⟨mA,⟨od,es,ep,e,c⟩,r⟩:=x;exact⟨mA,⟨od,es,ep,k _ _ (.inl rfl) e,c⟩,r⟩
 | rng lo hi=>obtain⟨t,u,v,e⟩:=x;exact⟨t,u,v,k _ _ (.inl rfl) e⟩
 | frz ob u ih=>obtain⟨e,q⟩:=x;exact⟨k _ _ (.inl rfl) e,ih q⟩
 | tbl ps=>
  have e:h.get? a=some { cls:=.none,data:=.fields ps }:=x;show h'.get? a=some { cls:=.none,data:=.fields ps };exact k a _ (.inl rfl) e
 | met f y=>
  have e:h.get? a=some (dH (.ref f) (.ref y)):=x;show h'.get? a=some (dH (.ref f) (.ref y));exact k a _ (.inl rfl) e
 | ext φ=>obtain⟨p,⟨o,e⟩,st⟩:=x;exact⟨st _ _ p fun o q=>k _ _ (.inl rfl) q,⟨o,k _ _ (.inl rfl) e⟩,st⟩
theorem HOk.lt (x:HOk P w H h) (e:H a=some o):a<h.objs.size:=(x a o e).lt
theorem HOk.fresh (x:HOk P w H h) (e:h.objs.size<=a):H a=none:=by
 cases q:H a with
 | none=>rfl
 | some u=>exact absurd (qy (x.lt q) e) (vH _)
theorem HOk.kept (x:HOk P w H h) (k:∀b u,h.get? b=some u->h'.get? b=some u):HOk P w H h':=fun a o e=>
 (x a o e).stay (fun b u _ q=>k b u q) (fun _ q=>q) fun _ _ q=>q
theorem HOk.laid (x:HOk P w H h) (k:∀b u,h.get? b=some u->h'.get? b=some u) (hp:h.objs.size<=a) (new:Zn P w (upd H a o) h' a o):HOk P w (upd H a o) h':=fun b u e=>by
 have hn:=x.fresh hp;by_cases hb:b=a
 .subst hb;rw[zL] at e;cases e;exact new
 .rw[jM hb] at e;exact(x b u e).stay (fun c v _ q=>k c v q) (fun c q=>by rw[jM (v9 q hn)];exact q) fun c xs q=>by rw[jM (v9 q hn)];exact q
end
def Rd (H:Hp) (a:zm) (u:HO):Prop:=H a=some u∨∃o,H a=some (.frz o u)
theorem Rd.ok {P:qz}{w:jd}{H:Hp}{h:jW}{a:zm}{u:HO} (r:Rd H a u) (x:HOk P w H h):Zn P w H h a u:=by
 rcases r with r | ⟨o,r⟩
 .exact x a u r
 .obtain⟨_,q⟩:=x a _ r;exact q
noncomputable def Mut:Option HO->Prop
 | some (.lst _)=>True
 | some (.dK _)=>True
 | some (.dT _)=>True
 | some (.set _ _)=>True
 | some (.ins _ _ _)=>True
 | some (.ext _)=>True
 | _=>False
section
variable {P:qz}{w:jd}{H:Hp} {h h':jW}{x e:zm} {o':HO}
theorem HOk.write (ok:HOk P w H h) (mu:Mut (H x)) (he:e=x∨H e=some (.own x)) (k:∀b u,b≠e->h.get? b=some u->h'.get? b=some u) (heo:∃u,h'.get? e=some u)
  (new:Zn P w (upd H x o') h' x o'):HOk P w (upd H x o') h':=fun b u q=>by
 have ztb:∀c y,H c=some (.own y)->c≠x:=fun c y r z=>by subst z;rw[r] at mu;exact mu
 have zyp:∀c xs,H c=some (.tup xs)->c≠x:=fun c xs r z=>by subst z;rw[r] at mu;exact mu
 by_cases hb:b=x
 .subst hb;rw[zL] at q;cases q;exact new
 .rw[jM hb] at q;by_cases hbe:b=e
  .have q':H b=some (.own x):=by
    rcases he with z | z
    .exact absurd (hbe.trans z) hb
    .rw[hbe];exact z
   rw[q] at q';cases q';obtain⟨v,hv⟩:=heo;exact⟨v,by rw[hbe];exact hv⟩
  .refine(ok b u q).stay (fun c v hc r=>k c v ?_ r) (fun c r=>by rw[jM (ztb c b r)];exact r) fun c xs r=>by rw[jM (zyp c xs r)];exact r
   rcases hc with rfl | hc
   .exact hbe
   .rintro rfl;rcases he with z | z
    .exact ztb c b hc z
    .rw[hc] at z;cases z;exact hb rfl
end
structure Un (fs ex:List zm) (H H':Hp) (h h':jW):Prop where
 keep:∀b o,h.get? b=some o->H b=none->b ∉ fs->b ∉ ex->h'.get? b=some o
 slot:∀b o,h.get? b=some o->H b=none->b∈fs->b ∉ ex->∃sl,h'.get? b=some { o with slots:=sl }
 free:∀b o,h.get? b=some o->H b=none->b ∉ ex->H' b=none
 there:∀b o,h.get? b=some o->b ∉ ex->∃o',h'.get? b=some o'
 tups:∀b xs,H b=some (.tup xs)->H' b=some (.tup xs)
 frzs:∀b o u,H b=some (.frz o u)->H' b=some (.frz o u)
 tbls:∀b ps,H b=some (.tbl ps)->∃more,H' b=some (.tbl (ps++more))
section
variable {fs fs' ex ex':List zm}{H H1 H2:Hp} {h h1 h2 h':jW}{a x e:zm}{o:HO}
theorem Un.any (u:Un fs ex H H1 h h1){b:zm}{ob:Obj} (q:h.get? b=some ob) (n:H b=none) (hx:b ∉ ex):∃sl,h1.get? b=some { ob with slots:=sl }:=by
 by_cases hb:b∈fs
 .exact u.slot b ob q n hb hx
 .exact⟨ob.slots,u.keep b ob q n hb hx⟩
theorem Un.trans (a:Un fs ex H H1 h h1) (b:Un fs ex H1 H2 h1 h2):Un fs ex H H2 h h2 where
 keep:=fun c ob q n hc hx=>b.keep c ob (a.keep c ob q n hc hx) (a.free c ob q n hx) hc hx
 slot:=fun c ob q n hc hx=>by
  obtain⟨sl,e1⟩:=a.slot c ob q n hc hx;obtain⟨sl',e2⟩:=b.slot c _ e1 (a.free c ob q n hx) hc hx;exact⟨sl',e2⟩
 free:=fun c ob q n hx=>by
  obtain⟨o',e1⟩:=a.there c ob q hx;exact b.free c o' e1 (a.free c ob q n hx) hx
 there:=fun c ob q hx=>by
  obtain⟨o',e1⟩:=a.there c ob q hx;exact b.there c o' e1 hx
 tups:=fun c xs q=>b.tups c xs (a.tups c xs q)
 frzs:=fun c ob xs q=>b.frzs c ob xs (a.frzs c ob xs q)
 tbls:=fun c ps q=>by
  obtain⟨m1,e1⟩:=a.tbls c ps q;obtain⟨m2,e2⟩:=b.tbls c _ e1;exact⟨m1++m2,by rw[e2,VD]⟩
theorem Un.kept (k:∀b u,h.get? b=some u->h'.get? b=some u):Un fs ex H H h h':=
 ⟨fun b ob q _ _ _=>k b ob q,fun b ob q _ _ _=>⟨ob.slots,k b ob q⟩,fun _ _ _ n _=>n,fun b ob q _=>⟨ob,k b ob q⟩,fun _ _ q=>q,fun _ _ _ q=>q,fun _ ps q=>⟨#[],by rw[q];simp⟩⟩
theorem Un.refl:Un fs ex H H h h:=Un.kept fun _ _ q=>q
theorem Un.laid (k:∀b u,h.get? b=some u->h'.get? b=some u) (hp:h.objs.size<=a) (hn:H a=none):Un fs ex H (upd H a o) h h' where
 keep:=fun b u q _ _ _=>k b u q
 slot:=fun b u q _ _ _=>⟨u.slots,k b u q⟩
 free:=fun b u q n _=>by rw[jM (qY (qy (zV q) hp))];exact n
 there:=fun b u q _=>⟨u,k b u q⟩
 tups:=fun b xs q=>by rw[jM (v9 q hn)];exact q
 frzs:=fun b u xs q=>by rw[jM (v9 q hn)];exact q
 tbls:=fun b ps q=>⟨#[],by rw[jM (v9 q hn),q];simp⟩
theorem Un.write (mu:Mut (H x)) (he:e=x∨H e=some (.own x)) (k:∀b u,b≠e->h.get? b=some u->h'.get? b=some u) (heo:∃u,h'.get? e=some u):Un fs ex H (upd H x o) h h':=by
 have hx:∀b,H b=none->b≠x:=fun b n z=>by subst z;rw[n] at mu;exact mu
 have hb:∀b,H b=none->b≠e:=fun b n z=>by
  subst z;rcases he with r | r
  .exact hx b n r
  .rw[n] at r;cases r
 have hm:∀b u,H b=some u->¬Mut (some u)->b≠x:=fun b u q nm z=>by subst z;rw[q] at mu;exact nm mu
 refine⟨fun b u q n _ _=>k b u (hb b n) q,fun b u q n _ _=>⟨u.slots,k b u (hb b n) q⟩,fun b u q n _=>by rw[jM (hx b n)];exact n,fun b u q _=>?_,
  fun b xs q=>by rw[jM (hm b _ q fun z=>z)];exact q,fun b u xs q=>by rw[jM (hm b _ q fun z=>z)];exact q,fun b ps q=>⟨#[],by rw[jM (hm b _ q fun z=>z),q];simp⟩⟩
 by_cases hbe:b=e
 .subst hbe;exact heo
 .exact⟨u,k b u hbe q⟩
theorem Un.mono (u:Un fs ex H H1 h h1) (hs:∀b∈fs,b∈fs') (hx:∀b∈ex,b∈ex'):Un fs' ex' H H1 h h1:=
 ⟨fun b ob q n hb he=>u.keep b ob q n (fun z=>hb (hs b z)) fun z=>he (hx b z),fun _ _ q n _ he=>u.any q n fun z=>he (hx _ z),fun b ob q n he=>u.free b ob q n fun z=>he (hx b z),fun b ob q he=>u.there b ob q fun z=>he (hx b z),u.tups,u.frzs,u.tbls⟩
end
noncomputable def trk (h:jW) (H:Hp):List zm:=(qJ h.objs.size).filter fun a=>(H a).isSome
noncomputable def Pa (h:jW) (H:Hp):jW:=W.hideAll h (trk h H)
theorem ziL (h:jW) (H:Hp):(Pa h H).objs.size=h.objs.size:=W.hideAll_size _ _
theorem zlb {h:jW}{H:Hp}{b:zm}{o:Obj} (e:h.get? b=some o) (n:H b=none):(Pa h H).get? b=some o:=
 W.hideAll_get _ e fun hm=>by
  have q:(H b).isSome=true:=(List.mem_filter.mp hm).2;rw[n] at q;simp at q
theorem zol {h:jW}{H:Hp}{b:zm}{o:Obj} (e:(Pa h H).get? b=some o):h.get? b=some o/\H b=none:=by
 have e':h.get? b=some o:=W.of_hideAll (trk h H) e;refine⟨e',?_⟩;cases q:H b with
 | none=>rfl
 | some x=>
  have hm:b∈trk h H:=List.mem_filter.mpr ⟨List.mem_range.mpr (zV e'),by simp[q]⟩;have z:(Pa h H).get? b=none:=oZ (trk h H) hm;rw[z] at e;cases e
structure Mod (K:zg) (mg:Str->Option zc) (base:jW):Prop where
 kin:K.In base
 glob:base.Ns qp mg
 blt:∃mb,base.Ns builtinsNs mb/\∀x:Str,x≠"__name__"->mb x=bootBuiltins x
 nolimit:base.NoLimit
 seer:base.NoSeer
structure Cx where
 prog:qz
 w:jd
 K:zg
 mg:Str->Option zc
 base:jW
 A:jg
 N:List Str
 s₀:zp
 H₀:Hp
 env:Env
 outer:List Env
 stack:List Env
 ex:List zm
 fn:Str->Bool
 calm:Bool
 pn:List (zm×Obj)
 xe:zc->zp->Prop
def frs (l:List Env):List zm:=l.filterMap (·.frame)
abbrev Cx.fs (X:Cx):List zm:=frs X.outer
def Vis (sc:Zr) (x:Str):Prop:=sc.names.lookup x=some .local∨sc.names.lookup x=some .cell∨sc.names.lookup x=some .free
def Loc (sc:Zr) (x:Str):Prop:=sc.names.lookup x=some .local∨sc.names.lookup x=some .cell
def Look (env:Env) (h:jW) (m:Str->Option zc) (x:Str) (u:zc):Prop:=
 (env.kindOf x=some .local/\m x=some u)∨((env.kindOf x=some .cell∨env.kindOf x=some .free)/\∃c,env.cells.lookup x=some c/\h.IsCell c (some u))
structure Cx.Ok (X:Cx):Prop where
 mod:Mod X.K X.mg X.base
 kind:X.env.scope.kind=.function
 glob:X.env.globals=qp
 blt:X.env.builtins=builtinsNs
 above:X.s₀.heap.objs.size<=X.env.locals
 inj:∀x y c,X.env.cells.lookup x=some c->X.env.cells.lookup y=some c->x=y
 has:∀x,(X.env.kindOf x=some .cell∨X.env.kindOf x=some .free)->∃c,X.env.cells.lookup x=some c
 cab:∀x c,X.fn x=true->X.env.cells.lookup x=some c->X.s₀.heap.objs.size<=c
 hd:X.calm=true->X.A.handled=none
 frames:X.A.frames=some X.stack
 stk:X.stack=X.outer∨(X.stack=X.env::X.outer/\X.env.frame=some X.env.locals)
 exf:∀b∈X.ex,b≠X.env.locals/\∀x c,X.env.cells.lookup x=some c->c≠b
 bs:∀b o,X.base.get? b=some o->X.s₀.heap.get? b=some o/\X.H₀ b=none
 bsz:X.base.objs.size<=X.s₀.heap.objs.size
 noex:∀b o,X.base.get? b=some o->b ∉ X.ex
 exfs:∀b∈X.ex,b ∉ X.fs
 funs:X.s₀.heap.FunFrames X.base X.outer
 frf:∀b∈X.fs,X.H₀ b=none
structure Inv (X:Cx) (zj:List (zm×Obj)) (σ:List (Option V)) (H:Hp) (s:zp):Prop where
 ok:X.Ok
 os:s.os=X.s₀.os/\0<s.toks
 bare:K3 s.gens
 base:Un X.fs X.ex X.H₀ H X.s₀.heap s.heap
 loc:∃m,s.heap.Ns X.env.locals m/\∀(i:Nat) (x:Str) (v:V),X.N[i]?=some x->σ[i]?=some (some v)->Vis X.env.scope x->∃u,RelV v u/\Look X.env s.heap m x u
 cell:∀x c,X.env.cells.lookup x=some c->∃v,s.heap.IsCell c v
 free:H X.env.locals=none
 freeC:∀x c,X.env.cells.lookup x=some c->H c=none
 pin:∀p∈X.pn++zj,s.heap.get? p.1=some p.2/\H p.1=none/\p.1≠X.env.locals/\p.1 ∉ X.fs/\∀v,p.2.data≠.cell v
 hok:HOk X.prog X.w H s.heap
 len:σ.length=X.N.length
section
variable {X:Cx}{zj:List (zm×Obj)}{σ:List (Option V)} {H H':Hp}{s:zp} {h':jW}
theorem Cx.Ok.nofr (ok:X.Ok){b:zm}{o:Obj} (e:X.base.get? b=some o):b ∉ X.fs:=fun hb=>by
 have:=(ok.funs.mem hb).1;rw[e] at this;cases this
theorem Inv.bs (I:Inv X zj σ H s):∀b o,X.base.get? b=some o->s.heap.get? b=some o/\H b=none:=fun b o e=>
 ⟨I.base.keep b o (I.ok.bs b o e).1 (I.ok.bs b o e).2 (I.ok.nofr e) (I.ok.noex b o e),I.base.free b o (I.ok.bs b o e).1 (I.ok.bs b o e).2 (I.ok.noex b o e)⟩
theorem Inv.tk (I:Inv X zj σ H s):0<s.toks:=I.os.2
theorem Inv.nz (I:Inv X zj σ H s):s.toks≠0:=Nat.pos_iff_ne_zero.mp I.os.2
theorem Inv.tkL {n:Nat} (I:Inv X zj σ H s) (h:s.toks<=n):0<n:=qy I.os.2 h
theorem Inv.bk (I:Inv X zj σ H s):∀b o,X.base.get? b=some o->s.heap.get? b=some o:=fun b o e=>(I.bs b o e).1
theorem Inv.mod (I:Inv X zj σ H s):Mod X.K X.mg X.base:=I.ok.mod
theorem Inv.kIn (I:Inv X zj σ H s):X.K.In s.heap:=I.ok.mod.kin.keeps I.bk
theorem Inv.nolimit (I:Inv X zj σ H s):s.heap.NoLimit:=I.ok.mod.nolimit.keeps I.bk
theorem Inv.lt (I:Inv X zj σ H s):X.env.locals<s.heap.objs.size:=let ⟨_,hn,_⟩:=I.loc;hn.lt
theorem Inv.sz (I:Inv X zj σ H s):X.s₀.heap.objs.size<=s.heap.objs.size:=qd I.ok.above (kj I.lt)
theorem Inv.nofs (I:Inv X zj σ H s){a:zm} (h:s.heap.objs.size<=a):a ∉ X.fs:=fun hb=>by
 obtain⟨_,o,ho,_⟩:=I.ok.funs.mem hb;exact absurd (qy (zV ho) (qd I.sz h)) (vH _)
theorem Inv.cne (I:Inv X zj σ H s):∀x c,X.env.cells.lookup x=some c->c≠X.env.locals:=fun x c e z=>by
 obtain⟨v,o,ho,hd⟩:=I.cell x c e;obtain⟨m,⟨o',es,ep,ho',hd',_⟩,_⟩:=I.loc;rw[z,ho'] at ho;cases ho;rw[hd'] at hd;cases hd
theorem Inv.funs (I:Inv X zj σ H s):s.heap.FunFrames X.base X.outer:=by
 have all:∀(l:List Env),(∀b∈frs l,b∈X.fs)->X.s₀.heap.FunFrames X.base l->s.heap.FunFrames X.base l:=by
  intro l
  induction l with
  | nil=>intro _ _;trivial
  | cons env r ih=>
   intro hs hl;obtain⟨hk,⟨L,o,hf,hn,ho,hd⟩,hr⟩:=hl;have hL:L∈X.fs:=hs L (by unfold frs;rw[wB,hf];exact zJ);obtain⟨sl,e⟩:=I.base.slot L o ho (I.ok.frf L hL) hL fun z=>I.ok.exfs L z hL;exact⟨hk,⟨L,_,hf,hn,e,hd⟩,ih (fun b hb=>hs b (by unfold frs;rw[wB,hf];exact zG _ hb)) hr⟩
 exact all X.outer (fun _ hb=>hb) I.ok.funs
theorem Inv.stack (I:Inv X zj σ H s):s.heap.FunFrames X.base X.stack:=by
 rcases I.ok.stk with e | ⟨e,hf⟩
 .rw[e];exact I.funs
 .rw[e];obtain⟨m,hn,_⟩:=I.loc;refine .cons (by rw[I.ok.kind];decide) hf hn ?_ I.funs;exact Heap.get?_none_of_le (qd I.ok.bsz I.ok.above)
theorem Inv.stkSub (I:Inv X zj σ H s):∀b∈frs X.stack,b∈X.env.locals::X.fs:=fun b hb=>by
 rcases I.ok.stk with e | ⟨e,hf⟩
 .rw[e] at hb;exact zG _ hb
 .rw[e] at hb;unfold frs at hb;rw[wB,hf] at hb;exact hb
theorem Inv.stkFree (I:Inv X zj σ H s):∀b∈frs X.stack,H b=none:=fun b hb=>by
 rcases List.mem_cons.mp (I.stkSub b hb) with e | hb
 .rw[e];exact I.free
 .obtain⟨_,o,ho,_⟩:=I.ok.funs.mem hb;exact I.base.free b o ho (I.ok.frf b hb) fun z=>I.ok.exfs b z hb
theorem Inv.step {g':Array K5} {t':Nat} {d':Drawn}{ch:List zm} (I:Inv X zj σ H s)
  (hch:∀b∈ch,(b∈X.ex∨X.s₀.heap.objs.size<=b)/\b≠X.env.locals/\(∀x c,X.env.cells.lookup x=some c->c≠b)/\∀p∈X.pn++zj,p.1≠b)
  (keep:∀b o,b≠X.env.locals->b ∉ X.fs->b ∉ ch->s.heap.get? b=some o->H b=none->h'.get? b=some o)
  (slot:∀b o,b≠X.env.locals->b∈X.fs->b ∉ ch->s.heap.get? b=some o->H b=none->∃sl,h'.get? b=some { o with slots:=sl }) (free:∀b o,b ∉ ch->s.heap.get? b=some o->H b=none->H' b=none)
  (there:∀b o,b ∉ ch->s.heap.get? b=some o->∃o',h'.get? b=some o')
  (tups:∀b xs,H b=some (.tup xs)->H' b=some (.tup xs)) (frzs:∀b o u,H b=some (.frz o u)->H' b=some (.frz o u)) (tbls:∀b ps,H b=some (.tbl ps)->∃more,H' b=some (.tbl (ps++more)))
  (ns:∀m,s.heap.Ns X.env.locals m->h'.Ns X.env.locals m) (hok:HOk X.prog X.w H' h') (hg:K3 g') (ht:0<t':=by first|exact jJ _|assumption|exact Inv.tk ‹_›|exact Inv.tkL ‹_› ‹_›|(have:=Inv.tk ‹_›;simp only[] at *;omega)) :
  Inv X zj σ H' { s with heap:=h',gens:=g',drawn:=d',toks:=t' }:=by
 have neL:∀b o,X.s₀.heap.get? b=some o->b≠X.env.locals:=fun b o e=>qY (qy (zV e) I.ok.above);have neC:∀b o,X.s₀.heap.get? b=some o->b ∉ X.ex->b ∉ ch:=fun b o e hx hb=>by
  rcases (hch b hb).1 with z | z
  .exact hx z
  .exact absurd (qy (zV e) z) (vH _)
 have cellK:∀x c,X.env.cells.lookup x=some c->∀v,s.heap.IsCell c v->h'.IsCell c v:=fun x c e v ⟨o,ho,hd⟩=>by
  have nch:c ∉ ch:=fun z=>(hch c z).2.2.1 x c e rfl;by_cases hc:c∈X.fs
  .obtain⟨sl,q⟩:=slot c o (I.cne x c e) hc nch ho (I.freeC x c e);exact⟨_,q,hd⟩
  .exact⟨o,keep c o (I.cne x c e) hc nch ho (I.freeC x c e),hd⟩
 refine⟨I.ok,⟨I.os.1,ht⟩,hg,⟨fun b o e n hb hx=>?_,fun b o e n hb hx=>?_,fun b o e n hx=>?_,fun b o e hx=>?_,fun b xs e=>tups b xs (I.base.tups b xs e),fun b o xs e=>frzs b o xs (I.base.frzs b o xs e),fun b ps e=>?_⟩,?_,fun x c e=>?_,?_,fun x c e=>?_,fun p hp=>?_,hok,I.len⟩
 .exact keep b o (neL b o e) hb (neC b o e hx) (I.base.keep b o e n hb hx) (I.base.free b o e n hx)
 .obtain⟨sl,e1⟩:=I.base.slot b o e n hb hx;obtain⟨sl',e2⟩:=slot b _ (neL b o e) hb (neC b o e hx) e1 (I.base.free b o e n hx);exact⟨sl',e2⟩
 .obtain⟨o',e1⟩:=I.base.there b o e hx;exact free b o' (neC b o e hx) e1 (I.base.free b o e n hx)
 .obtain⟨o',e1⟩:=I.base.there b o e hx;exact there b o' (neC b o e hx) e1
 .obtain⟨m1,e1⟩:=I.base.tbls b ps e;obtain⟨m2,e2⟩:=tbls b _ e1;exact⟨m1++m2,by rw[e2,VD]⟩
 .obtain⟨m,hn,hl⟩:=I.loc;refine⟨m,ns m hn,fun i x v e1 e2 e3=>?_⟩;obtain⟨u,r,l⟩:=hl i x v e1 e2 e3;refine⟨u,r,?_⟩;rcases l with l | ⟨k,c,e,z⟩
  .exact .inl l
  .exact .inr ⟨k,c,e,cellK x c e _ z⟩
 .obtain⟨v,z⟩:=I.cell x c e;exact⟨v,cellK x c e v z⟩
 .obtain⟨m,⟨o,_,_,ho,_⟩,_⟩:=I.loc;exact free _ o (fun z=>(hch _ z).2.1 rfl) ho I.free
 .obtain⟨v,o,ho,hd⟩:=I.cell x c e;exact free c o (fun z=>(hch c z).2.2.1 x c e rfl) ho (I.freeC x c e)
 .obtain⟨e,n,ne,nf,d⟩:=I.pin p hp;have nch:p.1 ∉ ch:=fun z=>(hch p.1 z).2.2.2 p hp rfl;exact⟨keep p.1 p.2 ne nf nch e n,free p.1 p.2 nch e n,ne,nf,d⟩
theorem Inv.un {t':Nat} (I:Inv X zj σ H s) (u:Un X.fs [] H H' s.heap h') (hok:HOk X.prog X.w H' h') (ht:0<t':=by first|exact jJ _|assumption|exact Inv.tk ‹_›|exact Inv.tkL ‹_› ‹_›|(have:=Inv.tk ‹_›;simp only[] at *;omega)):Inv X zj σ H' { s with heap:=h',toks:=t' }:=by
 obtain⟨m,⟨o,es,ep,ho,r⟩,_⟩:=id I.loc;obtain⟨sl,hL⟩:=u.any ho I.free (by simp);exact I.step (g':=s.gens) (d':=s.drawn) (ch:=[]) (fun _ z=>nomatch z) (fun b o _ hb _ e n=>u.keep b o e n hb (by simp)) (fun b o _ hb _ e n=>u.slot b o e n hb (by simp)) (fun b o _ e n=>u.free b o e n (by simp)) (fun b o _ e=>u.there b o e (by simp)) u.tups u.frzs u.tbls (fun m' hm=>by
  obtain⟨o',es',ep',ho',r'⟩:=hm;rw[ho] at ho';cases ho';exact⟨_,es',ep',hL,r'⟩) hok I.bare
theorem Inv.call {g':Array K5} {t':Nat} {d':Drawn}{ch:List zm} (I:Inv X zj σ H s) (u:Un (frs X.stack) ch H H' s.heap h') (hok:HOk X.prog X.w H' h') (hg:K3 g')
  (hch:∀b∈ch,(b∈X.ex∨X.s₀.heap.objs.size<=b)/\b≠X.env.locals/\(∀x c,X.env.cells.lookup x=some c->c≠b)/\∀p∈X.pn++zj,p.1≠b) (ht:0<t':=by first|exact jJ _|assumption|exact Inv.tk ‹_›|exact Inv.tkL ‹_› ‹_›|(have:=Inv.tk ‹_›;simp only[] at *;omega)) :
  Inv X zj σ H' { s with heap:=h',gens:=g',drawn:=d',toks:=t' }:=by
 obtain⟨m,⟨o,es,ep,ho,r⟩,_⟩:=id I.loc;obtain⟨sl,hL⟩:=u.any ho I.free fun z=>(hch _ z).2.1 rfl;exact I.step (ch:=ch) hch (fun b o hL hb hc e n=>u.keep b o e n (fun z=>(List.mem_cons.mp (I.stkSub b z)).elim hL hb) hc) (fun b o _ _ hc e n=>u.any e n hc) (fun b o hc e n=>u.free b o e n hc) (fun b o hc e=>u.there b o e hc) u.tups u.frzs u.tbls (fun m' hm=>by
  obtain⟨o',es',ep',ho',r'⟩:=hm;rw[ho] at ho';cases ho';exact⟨_,es',ep',hL,r'⟩) hok hg
theorem Inv.turned {t':Nat}{it:zm} (I:Inv X zj σ H s) (k:∀b o,b≠it->s.heap.get? b=some o->h'.get? b=some o) (hn:H it=none) (hL:it≠X.env.locals)
  (h1:it∈X.ex∨X.s₀.heap.objs.size<=it) (h2:∀x c,X.env.cells.lookup x=some c->c≠it) (h3:∀p∈X.pn++zj,p.1≠it) (ht:0<t':=by first|exact jJ _|assumption|exact Inv.tk ‹_›|exact Inv.tkL ‹_› ‹_›|(have:=Inv.tk ‹_›;simp only[] at *;omega)):Inv X zj σ H { s with heap:=h',toks:=t' }:=by
 have nit:∀b u,H b=some u->b≠it:=fun b u e z=>by rw[z,hn] at e;cases e
 refine I.step (g':=s.gens) (d':=s.drawn) (ch:=[it]) (fun b hb=>?_) (fun b o _ _ hc e _=>k b o (fun z=>hc (by simp[z])) e) (fun b o _ _ hc e _=>⟨o.slots,k b o (fun z=>hc (by simp[z])) e⟩) (fun _ _ _ _ n=>n)
  (fun b o hc e=>⟨o,k b o (fun z=>hc (by simp[z])) e⟩) (fun _ _ e=>e) (fun _ _ _ e=>e) (fun b ps e=>⟨#[],by rw[e];simp⟩) (fun m hm=>?_) (fun b u e=>?_) I.bare
 .have e:b=it:=by simpa using hb
  subst e;exact⟨h1,hL,h2,h3⟩
 .obtain⟨o,es,ep,ho,r⟩:=hm;exact⟨o,es,ep,k _ o (Xy hL) ho,r⟩
 .refine(I.hok b u e).stay (fun c v hc q=>k c v ?_ q) (fun _ q=>q) fun _ _ q=>q;rcases hc with z | z
  .rw[z];exact nit b u e
  .exact nit c _ z
theorem Inv.tok (I:Inv X zj σ H s) (t:Nat) (ht:0<t:=by first|exact jJ _|assumption|exact Inv.tk ‹_›|exact Inv.tkL ‹_› ‹_›|(have:=Inv.tk ‹_›;simp only[] at *;omega)):Inv X zj σ H { s with toks:=t }:=I.un (h':=s.heap) (t':=t) Un.refl I.hok
theorem Inv.kept {t':Nat} (I:Inv X zj σ H s) (k:∀b u,s.heap.get? b=some u->h'.get? b=some u) (ht:0<t':=by first|exact jJ _|assumption|exact Inv.tk ‹_›|exact Inv.tkL ‹_› ‹_›|(have:=Inv.tk ‹_›;simp only[] at *;omega)):Inv X zj σ H { s with heap:=h',toks:=t' }:=I.un (Un.kept k) (I.hok.kept k)
theorem Inv.laid {a:zm}{o:HO} {t':Nat} (I:Inv X zj σ H s) (k:∀b u,s.heap.get? b=some u->h'.get? b=some u) (hp:s.heap.objs.size<=a) (new:Zn X.prog X.w (upd H a o) h' a o) (ht:0<t':=by first|exact jJ _|assumption|exact Inv.tk ‹_›|exact Inv.tkL ‹_› ‹_›|(have:=Inv.tk ‹_›;simp only[] at *;omega)) :
  Inv X zj σ (upd H a o) { s with heap:=h',toks:=t' }:=I.un (Un.laid k hp (I.hok.fresh hp)) (I.hok.laid k hp new)
theorem Inv.write {x e:zm}{o:HO} {t':Nat} (I:Inv X zj σ H s) (mu:Mut (H x)) (he:e=x∨H e=some (.own x)) (k:∀b u,b≠e->s.heap.get? b=some u->h'.get? b=some u) (heo:∃u,h'.get? e=some u)
  (new:Zn X.prog X.w (upd H x o) h' x o) (ht:0<t':=by first|exact jJ _|assumption|exact Inv.tk ‹_›|exact Inv.tkL ‹_› ‹_›|(have:=Inv.tk ‹_›;simp only[] at *;omega)):Inv X zj σ (upd H x o) { s with heap:=h',toks:=t' }:=I.un (Un.write mu he k heo) (I.hok.write mu he k heo new)
theorem Inv.weak {σ':List (Option V)} (I:Inv X zj σ H s) (hl:σ'.length=σ.length) (w:∀(i:Nat) v,σ'[i]?=some (some v)->σ[i]?=some (some v)):Inv X zj σ' H s:=
 ⟨I.ok,I.os,I.bare,I.base,let ⟨m,hn,hl'⟩:=I.loc;⟨m,hn,fun i x v e1 e2 e3=>hl' i x v e1 (w i v e2) e3⟩,I.cell,I.free,I.freeC,I.pin,I.hok,hl.trans I.len⟩
theorem Inv.pins_of {zpT:List (zm×Obj)} (I:Inv X zj σ H s) (h:∀p∈zpT,s.heap.get? p.1=some p.2/\H p.1=none/\p.1≠X.env.locals/\p.1 ∉ X.fs/\∀v,p.2.data≠.cell v):Inv X zpT σ H s:=
 ⟨I.ok,I.os,I.bare,I.base,I.loc,I.cell,I.free,I.freeC,fun p hp=>(List.mem_append.mp hp).elim (fun z=>I.pin p (vU _ z)) (h p),I.hok,I.len⟩
theorem Ir {N:List Str} (hN:N.Nodup){i j:Nat}{x:Str} (a:N[i]?=some x) (b:N[j]?=some x):i=j:=by
 obtain⟨h1,e1⟩:=List.getElem?_eq_some_iff.mp a;obtain⟨h2,e2⟩:=List.getElem?_eq_some_iff.mp b;exact(List.getElem_inj hN).mp (e1.trans e2.symm)
theorem zjn {M:aM}{A:jg}{E:zc->zp->Prop}{i:Nat}{x:Str}{v:V}{u:zc}{Q:Unit->zp->Prop} (I:Inv X zj σ H s) (hN:X.N.Nodup) (hi:X.N[i]?=some x) (hx:Loc X.env.scope x) (r:RelV v u)
  (h:∀s',Inv X zj (σ.set i (some v)) H s'->(∃a,wL a s.heap s'.heap/\(a=X.env.locals∨X.env.cells.lookup x=some a))->Q () s') (hf:X.fn x=true∨X.env.scope.names.lookup x=some .local:=by first | exact .inl rfl | exact .inr rfl | assumption):wpAny M A (storeName X.env x u) Q E s:=by
 obtain⟨m,hn,hl⟩:=id I.loc;have hcls:(X.env.scope.kind == .class || (X.env.scope.kind == .module && X.env.locals != X.env.globals))=false:=by rw[I.ok.kind];rfl
 have hiσ:i < σ.length:=by rw[I.len];exact(List.getElem?_eq_some_iff.mp hi).1
 have cne:=I.cne;have tracked:∀{a:zm} {h':jW},(∃o,s.heap.get? a=some o/\H a=none)->wL a s.heap h'->HOk X.prog X.w H h':=fun {a h'} ha hs b ob e=>by
  obtain⟨_,_,hfree⟩:=ha;refine(I.hok b ob e).stay (fun c w' hc q=>(hs.2 c ?_).trans q) (fun _ q=>q) fun _ _ q=>q;rintro rfl;rcases hc with rfl | hc
  .rw[hfree] at e;cases e
  .rw[hfree] at hc;cases hc
 rcases hx with hk | hk
 .refine wpAny_storeName_local hk hn (fun h' hn' hs=>?_) hcls;obtain⟨oL,_,_,hoL,_⟩:=id hn;refine h _ ⟨I.ok,⟨I.os.1,jJ _⟩,I.bare,⟨fun b o e n hb hx=>?_,fun b o e n hb hx=>?_,I.base.free,fun b o e hx=>?_,I.base.tups,I.base.frzs,I.base.tbls⟩,⟨_,hn',fun j y v' e1 e2 e3=>?_⟩,fun y c e=>?_,I.free,I.freeC,fun p hp=>?_,tracked ⟨oL,hoL,I.free⟩ hs,by simpa using I.len⟩ ⟨_,hs,.inl rfl⟩
  .exact(hs.2 b (qY (qy (zV e) I.ok.above))).trans (I.base.keep b o e n hb hx)
  .obtain⟨sl,e1⟩:=I.base.slot b o e n hb hx;exact⟨sl,(hs.2 b (qY (qy (zV e) I.ok.above))).trans e1⟩
  .obtain⟨o',e1⟩:=I.base.there b o e hx;exact⟨o',(hs.2 b (qY (qy (zV e) I.ok.above))).trans e1⟩
  .by_cases hj:j=i
   .subst hj;rw[hi] at e1;cases e1;rw[Zj hiσ] at e2;cases e2;exact⟨u,r,.inl ⟨hk,by simp⟩⟩
   .rw[YX (Xy hj)] at e2;obtain⟨u',r',q⟩:=hl j y v' e1 e2 e3;refine⟨u',r',?_⟩;rcases q with ⟨k,e⟩ | ⟨k,c,e,z⟩
    .refine .inl ⟨k,?_⟩;have:y≠x:=fun e=>hj (Ir hN e1 (e ▸ hi));simp[this,e]
    .exact .inr ⟨k,c,e,z.sameBut hs (cne y c e)⟩
  .obtain⟨w',z⟩:=I.cell y c e;exact⟨w',z.sameBut hs (cne y c e)⟩
  .obtain⟨e,n,ne,nf,d⟩:=I.pin p hp;exact⟨(hs.2 p.1 ne).trans e,n,ne,nf,d⟩
 .have hfn:X.fn x=true:=by
   rcases hf with z | z
   .exact z
   .rw[z] at hk;cases hk
  obtain⟨c,hc⟩:=I.ok.has x (.inl hk);obtain⟨w',z⟩:=I.cell x c hc;refine wpAny_storeName_cell I.ok.kind hk hc z (fun h' hc' hs=>?_);obtain⟨oc,hoc,hocd⟩:=id z;refine h { s with heap:=h' } ⟨I.ok,I.os,I.bare,⟨fun b o e n hb hx=>?_,fun b o e n hb hx=>?_,I.base.free,fun b o e hx=>?_,I.base.tups,I.base.frzs,I.base.tbls⟩,⟨m,hn.sameBut hs (Xy (cne x c hc)),fun j y v' e1 e2 e3=>?_⟩,fun y c' e=>?_,I.free,I.freeC,fun p hp=>?_,tracked ⟨oc,hoc,I.freeC x c hc⟩ hs,by simpa using I.len⟩ ⟨c,hs,.inr hc⟩
  .exact(hs.2 b (qY (qy (zV e) (I.ok.cab x c hfn hc)))).trans (I.base.keep b o e n hb hx)
  .obtain⟨sl,e1⟩:=I.base.slot b o e n hb hx;exact⟨sl,(hs.2 b (qY (qy (zV e) (I.ok.cab x c hfn hc)))).trans e1⟩
  .obtain⟨o',e1⟩:=I.base.there b o e hx;exact⟨o',(hs.2 b (qY (qy (zV e) (I.ok.cab x c hfn hc)))).trans e1⟩
  .by_cases hj:j=i
   .subst hj;rw[hi] at e1;cases e1;rw[Zj hiσ] at e2;cases e2;exact⟨u,r,.inr ⟨.inl hk,c,hc,hc'⟩⟩
   .rw[YX (Xy hj)] at e2;obtain⟨u',r',q⟩:=hl j y v' e1 e2 e3;refine⟨u',r',?_⟩;rcases q with q | ⟨k,c',e,z'⟩
    .exact .inl q
    .refine .inr ⟨k,c',e,z'.sameBut hs ?_⟩;rintro rfl;exact hj (Ir hN e1 (I.ok.inj _ _ _ e hc ▸ hi))
  .by_cases hcc:c'=c
   .subst hcc;exact⟨_,hc'⟩
   .obtain⟨w2,z2⟩:=I.cell y c' e;exact⟨w2,z2.sameBut hs hcc⟩
  .obtain⟨e,n,ne,nf,d⟩:=I.pin p hp;refine⟨(hs.2 p.1 ?_).trans e,n,ne,nf,d⟩;intro q;rw[q,hoc] at e;have q':oc=p.2:=xr e;exact d w' (by rw[<- q'];exact hocd)
theorem fX {M:aM}{A:jg}{E:zc->zp->Prop}{i:Nat}{x:Str}{v:V}{u:zc}{Q:Unit->zp->Prop} (I:Inv X zj σ H s) (hN:X.N.Nodup) (hi:X.N[i]?=some x) (hx:Loc X.env.scope x) (r:RelV v u)
  (h:∀s',Inv X zj (σ.set i (some v)) H s'->Q () s') (hf:X.fn x=true∨X.env.scope.names.lookup x=some .local:=by first | exact .inl rfl | exact .inr rfl | assumption):wpAny M A (storeName X.env x u) Q E s:=
 zjn I hN hi hx r (fun s' I' _=>h s' I') hf
theorem Inv.call' {s':zp}{ch:List zm} (I:Inv X zj σ H s) (ho:s'.os=s.os/\0<s'.toks) (u:Un (frs X.stack) ch H H' s.heap s'.heap) (hok:HOk X.prog X.w H' s'.heap) (hg:K3 s'.gens)
  (hch:∀b∈ch,(b∈X.ex∨X.s₀.heap.objs.size<=b)/\b≠X.env.locals/\(∀x c,X.env.cells.lookup x=some c->c≠b)/\∀p∈X.pn++zj,p.1≠b):Inv X zj σ H' s':=by
 obtain⟨h',g',d',t',o'⟩:=s';have e:o'=s.os:=ho.1;subst e;have ht:0<t':=ho.2;exact I.call (g':=g') (t':=t') (d':=d') u hok hg hch
end
abbrev XK:=zc->Option zm->Hp->Prop
abbrev St:=List (Option V)
abbrev VK:=V->Hp->Prop
abbrev TE:=St->Hp->VK->Prop
abbrev TT:=St->Hp->(Bool->Hp->Prop)->Prop
abbrev TA:=St->Hp->(List V->Hp->Prop)->Prop
structure Ends where
 nx:St->Hp->Prop
 rt:VK
 bk:St->Hp->Prop:=fun _ _=>False
 ct:St->Hp->Prop:=fun _ _=>False
abbrev TS:=Ends->St->Hp->Prop
def EP (X:Cx) (zj:List (zm×Obj)) (σ:St) (Q:VK) (u:zc) (s':zp):Prop:=∃v H',Inv X zj σ H' s'/\RelV v u/\Q v H'
def TP (X:Cx) (zj:List (zm×Obj)) (σ:St) (Q:Bool->Hp->Prop) (b:Bool) (s':zp):Prop:=∃H',Inv X zj σ H' s'/\Q b H'
def AP (X:Cx) (zj:List (zm×Obj)) (σ:St) (Q:List V->Hp->Prop) (us:List zc) (s':zp):Prop:=∃vs H',Inv X zj σ H' s'/\Vals vs us/\Q vs H'
def SP (X:Cx) (zj:List (zm×Obj)) (D:Ends) (f:Flow) (s':zp):Prop:=
 match f with
 | .next=>∃σ' H',Inv X zj σ' H' s'/\D.nx σ' H'
 | .brk=>∃σ' H',Inv X zj σ' H' s'/\D.bk σ' H'
 | .cont=>∃σ' H',Inv X zj σ' H' s'/\D.ct σ' H'
 | .ret u=>∃v σ' H',Inv X zj σ' H' s'/\RelV v u/\D.rt v H'
def PE (X:Cx) (e:jD) (t:TE):Prop:=
 ∀(zj:List (zm×Obj)) (s:zp) (σ:St) (H:Hp) (Q:VK),Inv X zj σ H s->t σ H Q->wpAny (model X.prog X.w) X.A (eval e X.env) (EP X zj σ Q) X.xe s
def PT (X:Cx) (e:jD) (t:TT):Prop:=
 ∀(zj:List (zm×Obj)) (s:zp) (σ:St) (H:Hp) (Q:Bool->Hp->Prop),Inv X zj σ H s->t σ H Q->wpAny (model X.prog X.w) X.A (isTrue e X.env (eval e X.env)) (TP X zj σ Q) X.xe s
def PW (X:Cx) (e:jD) (t:TT):Prop:=
 ∀(whole:Sem zc) (zj:List (zm×Obj)) (s:zp) (σ:St) (H:Hp) (Q:Bool->Hp->Prop),Inv X zj σ H s->t σ H Q->wpAny (model X.prog X.w) X.A (isTrue e X.env whole) (TP X zj σ Q) X.xe s
theorem PW.pt {X:Cx}{e:jD}{t:TT} (h:PW X e t):PT X e t:=h _
def PA (X:Cx) (es:List jD) (t:TA):Prop:=
 ∀(pos:Pos) (zj:List (zm×Obj)) (s:zp) (σ:St) (H:Hp) (Q:List V->Hp->Prop),Inv X zj σ H s->t σ H Q->wpAny (model X.prog X.w) X.A (spliced (backTo pos (z9 es X.env))) (AP X zj σ Q) X.xe s
def PS (X:Cx) (st:jV) (t:TS):Prop:=
 ∀(zj:List (zm×Obj)) (s:zp) (σ:St) (H:Hp) (D:Ends),Inv X zj σ H s->t D σ H->wpAny (model X.prog X.w) X.A (exec st X.env) (SP X zj D) X.xe s
def PSs (X:Cx) (st:List jV) (t:TS):Prop:=
 ∀(zj:List (zm×Obj)) (s:zp) (σ:St) (H:Hp) (D:Ends),Inv X zj σ H s->t D σ H->wpAny (model X.prog X.w) X.A (execs st X.env) (SP X zj D) X.xe s
theorem thn {α:Type}{t:Sem α} {Q Q':α->zp->Prop}{M:aM}{A:jg}{E:zc->zp->Prop}{s:zp} (h:wpAny M A t Q E s) (hQ:∀a s,Q a s->Q' a s):wpAny M A t Q' E s:=jt h hQ fun _ _ x=>x
section
variable {X:Cx}
def zxm (i:Nat):TE:=fun σ H Q=>∃v,σ[i]?=some (some v)/\Q v H
def tC (v:V):TE:=fun _ H Q=>Q v H
theorem zrr {i:Nat}{x:Str}{pos:Pos} (hN:X.N[i]?=some x) (hv:Vis X.env.scope x) (hd:(x == ("__debug__":Str))=false:=by decide) (hcd:(x == ("__classdict__":Str))=false:=by decide):PE X (.Name x pos) (zxm i):=by
 intro zj s σ H Q I h;obtain⟨v,e,h⟩:=h;obtain⟨m,hn,hl⟩:=I.loc;obtain⟨u,r,l⟩:=hl i x v hN e hv;have fin:EP X zj σ Q u s:=⟨v,H,I,r,h⟩;rcases l with ⟨hk,hm⟩ | ⟨hk,c,hc,hcell⟩
 .exact Nh (wpAny_loadName_local I.ok.kind hk hn hm fin) hd
 .rcases hk with hk | hk
  .exact Nh (wpAny_loadName_cell I.ok.kind hk hc hcell fin) hd
  .exact Nh (wpAny_loadName_free I.ok.kind hk hc hcell fin hcd) hd
theorem zH {i j pos}:PE X (.Constant (.int i) j pos) (tC (.int i)):=fun _ _ _ H _ I h=>wpAny_Constant_int ⟨.int i,H,I.tok _,⟨_,rfl⟩,h⟩
theorem Le {b j pos}:PE X (.Constant (.bool b) j pos) (tC (.bl b)):=fun _ _ _ H _ I h=>Constant_bool ⟨.bl b,H,I,rfl,h⟩
theorem az {j pos}:PE X (.Constant .none j pos) (tC .non):=fun _ _ _ H _ I h=>Constant_none ⟨.non,H,I,rfl,h⟩
theorem jG {x j pos}:PE X (.Constant (.str x) j pos) (tC (.str x)):=fun _ _ _ H _ I h=>Calls.Constant_str ⟨.str x,H,I.tok _,⟨⟨_,I.nz⟩,rfl⟩,h⟩
def Gl (X:Cx) (x:Str):Prop:=X.env.kindOf x=some .globalImplicit
theorem pM {E:zc->zp->Prop}{zj:List (zm×Obj)}{s:zp}{σ:St}{H:Hp}{x:Str}{u:zc}{pos:Pos}{Q:zc->zp->Prop} (I:Inv X zj σ H s) (hg:Gl X x) (hm:X.mg x=some u) (h:Q u s)
  (hd:(x == ("__debug__":Str))=false:=by decide):wpAny (model X.prog X.w) X.A (eval (.Name x pos) X.env) Q E s:=
 Xg I.ok.kind hg (gf (by rw[I.ok.glob];exact I.mod.glob.keeps I.bk) hm h) hd
theorem nM {E:zc->zp->Prop}{zj:List (zm×Obj)}{s:zp}{σ:St}{H:Hp}{x:Str}{u:zc}{pos:Pos}{Q:zc->zp->Prop} (I:Inv X zj σ H s) (hg:Gl X x) (hm:X.mg x=none) (hv:bootBuiltins x=some u) (h:Q u s)
  (hn:x≠"__name__":=by decide) (hd:(x == ("__debug__":Str))=false:=by decide):wpAny (model X.prog X.w) X.A (eval (.Name x pos) X.env) Q E s:=by
 obtain⟨mb,h1,h2⟩:=I.mod.blt;exact Xg I.ok.kind hg (Calls.loadGlobal_builtin (by rw[I.ok.glob];exact I.mod.glob.keeps I.bk) hm (by rw[I.ok.blt];exact h1.keeps I.bk) ((h2 x hn).trans hv) h) hd
theorem yq {x:Str}{v:V}{u:zc}{pos:Pos} (hg:Gl X x) (hm:X.mg x=some u) (r:RelV v u) (hd:(x == ("__debug__":Str))=false:=by decide):PE X (.Name x pos) (tC v):=
 fun _ _ _ H _ I h=>pM I hg hm ⟨v,H,I,r,h⟩ hd
theorem iI {x:Str}{v:V}{u:zc}{pos:Pos} (hg:Gl X x) (hm:X.mg x=none) (hv:bootBuiltins x=some u) (r:RelV v u) (hn:x≠"__name__":=by decide) (hd:(x == ("__debug__":Str))=false:=by decide):PE X (.Name x pos) (tC v):=
 fun _ _ _ H _ I h=>nM I hg hm hv ⟨v,H,I,r,h⟩ hn hd
variable {a b:jD}{ta tb:TE}{pos:Pos}
def PC (X:Cx) (op:Mm) (a b:jD) (t:TE):Prop:=
 ∀(zj:List (zm×Obj)) (s:zp) (σ:St) (H:Hp) (Q:VK),Inv X zj σ H s->t σ H Q ->
  wpAny (model X.prog X.w) X.A (eval a X.env) (fun v s₁=>wpAny (model X.prog X.w) X.A (eval b X.env) (fun u s₂=>wpAny (model X.prog X.w) X.A (compareOp op v u) (EP X zj σ Q) X.xe s₂) X.xe s₁) X.xe s
def tB (t:TE):TT:=fun σ H Q=>t σ H fun x H1=>∃c,x=.bl c/\Q c H1
theorem zru {op:Mm}{t:TE} (h:PC X op a b t) (h1:behindInMarks op b=false:=by first | exact nobehind _ (by decide) (by decide) | rfl):PT X (.Compare a [op] [b] pos) (tB t):=by
 intro zj s σ H Q I hw;refine mG (thn (h zj s σ H _ I hw) fun v s1 h1=>thn h1 fun u s2 h2=>thn h2 fun c s3 ⟨x,H1,I1,r1,q1⟩=>?_) h1;obtain⟨d,rfl,q⟩:=q1;cases r1;exact yg ⟨H1,I1,q⟩
theorem Jq {e:jD}{t:TE} (h:PE X e t) (he:∀whole,isTrue e X.env whole=(do let v <- whole;standAt e.pos;holding [v] (truthy v)):=by intro _;rfl):PT X e (tB t):=by
 intro zj s σ H Q I hw;refine isTrue_plain (thn (h zj s σ H _ I hw) fun v s1 ⟨x,H1,I1,r1,q1⟩=>?_) (he _);obtain⟨d,rfl,q⟩:=q1;cases r1;exact yg ⟨H1,I1,q⟩
variable {tA tB':TT}{rest:List jD}
def zyF (t u:TT):TT:=fun σ H Q=>t σ H fun c H1=>if c=true then u σ H1 Q else Q false H1
def tOr (t u:TT):TT:=fun σ H Q=>t σ H fun c H1=>if c=true then Q true H1 else u σ H1 Q
def zyL (t:TT):TT:=fun σ H Q=>t σ H fun c H1=>Q (!c) H1
theorem pw_and1 (ha:PT X a tA):PW X (.BoolOp .And [a] pos) tA:=by
 intro wh zj s σ H Q I h;refine isTrue_and (thn (ha zj s σ H Q I h) fun c s1 e=>?_);cases c with
 | true=>exact isTrue_and_nil e
 | false=>exact e
theorem pw_or1 (ha:PT X a tA):PW X (.BoolOp .Or [a] pos) tA:=by
 intro wh zj s σ H Q I h;refine isTrue_or (thn (ha zj s σ H Q I h) fun c s1 e=>?_);cases c with
 | false=>exact isTrue_or_nil e
 | true=>exact e
theorem pw_and (ha:PT X a tA) (hb:PW X (.BoolOp .And (b::rest) pos) tB'):PW X (.BoolOp .And (a::b::rest) pos) (zyF tA tB'):=by
 intro wh zj s σ H Q I h;refine isTrue_and (thn (ha zj s σ H _ I h) fun c s1 ⟨H1,I1,q1⟩=>?_);cases c with
 | true=>exact hb wh zj s1 σ H1 Q I1 q1
 | false=>exact⟨H1,I1,q1⟩
theorem pw_or (ha:PT X a tA) (hb:PW X (.BoolOp .Or (b::rest) pos) tB'):PW X (.BoolOp .Or (a::b::rest) pos) (tOr tA tB'):=by
 intro wh zj s σ H Q I h;refine isTrue_or (thn (ha zj s σ H _ I h) fun c s1 ⟨H1,I1,q1⟩=>?_);cases c with
 | true=>exact⟨H1,I1,q1⟩
 | false=>exact hb wh zj s1 σ H1 Q I1 q1
theorem nZ (ha:PT X a tA):PT X (.UnaryOp .Not a pos) (zyL tA):=by
 intro zj s σ H Q I h;exact isTrue_not (ha zj s σ H (fun c H1=>Q (!c) H1) I h)
def zxd (ta tb:TE):TE:=fun σ H Q=>ta σ H fun x H1=>∃c,x=.bl c/\if c=true then tb σ H1 Q else Q (.bl false) H1
def zyM (ta tb:TE):TE:=fun σ H Q=>ta σ H fun x H1=>∃c,x=.bl c/\if c=true then Q (.bl true) H1 else tb σ H1 Q
theorem zlM {op}{t:TE} (h:PE X a t):PE X (.BoolOp op [a] pos) t:=fun zj s σ H Q I hw=>BoolOp_one (h zj s σ H Q I hw)
theorem zro (ha:PE X a ta) (hb:PE X (.BoolOp .And (b::rest) pos) tb):PE X (.BoolOp .And (a::b::rest) pos) (zxd ta tb):=by
 intro zj s σ H Q I h;refine BoolOp_and (thn (ha zj s σ H _ I h) fun v s1 ⟨x,H1,I1,r1,q1⟩=>?_);obtain⟨c,rfl,q1⟩:=q1;cases r1;refine yg ?_;cases c with
 | true=>exact hb zj s1 σ H1 Q I1 q1
 | false=>exact⟨.bl false,H1,I1,rfl,q1⟩
theorem zwT (ha:PE X a ta) (hb:PE X (.BoolOp .Or (b::rest) pos) tb):PE X (.BoolOp .Or (a::b::rest) pos) (zyM ta tb):=by
 intro zj s σ H Q I h;refine BoolOp_or (thn (ha zj s σ H _ I h) fun v s1 ⟨x,H1,I1,r1,q1⟩=>?_);obtain⟨c,rfl,q1⟩:=q1;cases r1;refine yg ?_;cases c with
 | false=>exact hb zj s1 σ H1 Q I1 q1
 | true=>exact⟨.bl true,H1,I1,rfl,q1⟩
def tIf (t:TT) (ta tb:TE):TE:=fun σ H Q=>t σ H fun c H1=>if c=true then ta σ H1 Q else tb σ H1 Q
theorem Bh {c:jD} (hc:PT X c tA) (ha:PE X a ta) (hb:PE X b tb):PE X (.IfExp c a b pos) (tIf tA ta tb):=by
 intro zj s σ H Q I h;refine wpAny_IfExp (thn (hc zj s σ H _ I h) fun d s1 ⟨H1,I1,q1⟩=>?_);cases d with
 | true=>exact ha zj s1 σ H1 Q I1 q1
 | false=>exact hb zj s1 σ H1 Q I1 q1
end
def SqL (K:zg) (H:Hp) (a:zm) (xs:List V):Prop:=
 Rd H a (.lst xs) ∨
  ∃(o:Obj) (its:Array zc) (n:Nat),K.lookup a=some o/\o.cls=.type "list"/\o.dict=none/\o.data=.seq its n/\its.size<=sizeLine/\Vals xs its.toList
def SqT (K:zg) (H:Hp) (a:zm) (xs:List V):Prop:=
 Rd H a (.tup xs) ∨
  ∃(o:Obj) (its:Array zc) (n:Nat),K.lookup a=some o/\o.cls=.type "tuple"/\o.data=.seq its n/\its.size<=sizeLine/\Vals xs its.toList
noncomputable def zx6:zc->Option V
 | .none=>some .non
 | .bool b=>some (.bl b)
 | .int i _=>some (.int i)
 | .str x _=>some (.str x)
 | .bytes b _=>some (.byt b)
 | .float b _=>some (.flt b)
 | .ref a=>some (.ref a)
 | .type n=>some (.ty n)
 | _=>none
theorem RelV.abs {x:V}{u:zc} (r:RelV x u):zx6 u=some x:=by
 cases x with
 | non=>cases r;rfl
 | bl _=>cases r;rfl
 | int _=>obtain⟨t,rfl⟩:=r;rfl
 | str _=>obtain⟨t,rfl⟩:=r;rfl
 | byt _=>obtain⟨t,rfl⟩:=r;rfl
 | flt _=>obtain⟨t,rfl⟩:=r;rfl
 | ref _=>cases r;rfl
 | ty _=>cases r;rfl
theorem RelV.inj {x y:V}{u:zc} (r:RelV x u) (q:RelV y u):x=y:=xr (r.abs.symm.trans q.abs)
theorem Vals.inj:∀{xs ys:List V}{us:List zc},Vals xs us->Vals ys us->xs=ys
 | _,_,_,.nil,.nil=>rfl
 | _,_,_,.cons r t,.cons r' t'=>by rw[r.inj r',Vals.inj t t']
section
variable {X:Cx}{zj:List (zm×Obj)}{σ:St}{H:Hp}{s:zp}{a:zm}{xs ys:List V}
theorem SqL.of {K:zg} (h:H a=some (.lst xs)):SqL K H a xs:=.inl (.inl h)
theorem SqT.of {K:zg} (h:H a=some (.tup xs)):SqT K H a xs:=.inl (.inl h)
theorem Inv.list (I:Inv X zj σ H s) (h:SqL X.K H a xs):∃its:List zc,Vals xs its/\PlainL s.heap a its.toArray/\xs.length<=sizeLine:=by
 rcases h with h | ⟨o,its,n,hk,hc,hd,hs,hz,r⟩
 .obtain⟨z,its,n,r,e⟩:=h.ok I.hok;exact⟨its,r,⟨_,n,e,rfl,rfl,rfl⟩,z⟩
 .refine⟨its.toList,r,⟨o,n,I.kIn a o hk,hc,hd,by simpa using hs⟩,?_⟩;have e:=r.length;simp only[zW] at e;omega
theorem Inv.tuple (I:Inv X zj σ H s) (h:SqT X.K H a xs):∃its:List zc,Vals xs its/\IsTup s.heap a its.toArray/\xs.length<=sizeLine:=by
 rcases h with h | ⟨o,its,n,hk,hc,hs,hz,r⟩
 .obtain⟨z,its,r,p⟩:=h.ok I.hok;exact⟨its,r,p,z⟩
 .refine⟨its.toList,r,⟨o,I.kIn a o hk,hc,n,by simpa using hs⟩,?_⟩;have e:=r.length;simp only[zW] at e;omega
theorem Inv.list_inj (I:Inv X zj σ H s) (h:SqL X.K H a xs) (h':SqL X.K H a ys):xs=ys:=by
 obtain⟨its,r,⟨o,n,e,_,_,d⟩,_⟩:=I.list h;obtain⟨its',r',⟨o',n',e',_,_,d'⟩,_⟩:=I.list h';rw[e] at e';cases e';rw[d] at d';injection d' with d1 _;have:its=its':=by simpa using congrArg BR d1
 subst this;exact r.inj r'
theorem Inv.tuple_inj (I:Inv X zj σ H s) (h:SqT X.K H a xs) (h':SqT X.K H a ys):xs=ys:=by
 obtain⟨its,r,⟨o,e,_,n,d⟩,_⟩:=I.tuple h;obtain⟨its',r',⟨o',e',_,n',d'⟩,_⟩:=I.tuple h';rw[e] at e';cases e';rw[d] at d';injection d' with d1 _;have:its=its':=by simpa using congrArg BR d1
 subst this;exact r.inj r'
end
abbrev Cx.wish (X:Cx) (E:zc->zp->Prop):Cx:={ X with xe:=E }
abbrev Cx.nox (X:Cx):Cx:=X.wish fun _ _=>False
theorem Cx.Ok.wish {X:Cx} (ok:X.Ok) (E:zc->zp->Prop):(X.wish E).Ok:=
 ⟨ok.mod,ok.kind,ok.glob,ok.blt,ok.above,ok.inj,ok.has,ok.cab,ok.hd,ok.frames,ok.stk,ok.exf,ok.bs,ok.bsz,ok.noex,ok.exfs,ok.funs,ok.frf⟩
theorem Cx.Ok.unwish {X:Cx}{E:zc->zp->Prop} (ok:(X.wish E).Ok):X.Ok:=
 ⟨ok.mod,ok.kind,ok.glob,ok.blt,ok.above,ok.inj,ok.has,ok.cab,ok.hd,ok.frames,ok.stk,ok.exf,ok.bs,ok.bsz,ok.noex,ok.exfs,ok.funs,ok.frf⟩
section
variable {X:Cx}{zj:List (zm×Obj)}{σ:St}{H:Hp}{s:zp}{E:zc->zp->Prop}
theorem Inv.wish (I:Inv X zj σ H s) (E:zc->zp->Prop):Inv (X.wish E) zj σ H s:=⟨I.ok.wish E,I.os,I.bare,I.base,I.loc,I.cell,I.free,I.freeC,I.pin,I.hok,I.len⟩
theorem Inv.unwish (I:Inv (X.wish E) zj σ H s):Inv X zj σ H s:=⟨I.ok.unwish,I.os,I.bare,I.base,I.loc,I.cell,I.free,I.freeC,I.pin,I.hok,I.len⟩
theorem SP.unwish {D:Ends}{f:Flow} {s':zp} (h:SP (X.wish E) zj D f s'):SP X zj D f s':=by
 cases f with
 | next=>obtain⟨σ',H',I,q⟩:=h;exact⟨σ',H',I.unwish,q⟩
 | brk=>obtain⟨σ',H',I,q⟩:=h;exact⟨σ',H',I.unwish,q⟩
 | cont=>obtain⟨σ',H',I,q⟩:=h;exact⟨σ',H',I.unwish,q⟩
 | ret u=>obtain⟨v,σ',H',I,r,q⟩:=h;exact⟨v,σ',H',I.unwish,r,q⟩
theorem PSs.nox {st:List jV}{t:TS} (h:PSs X.nox st t):PSs X st t:=fun zj s σ H D I hw=>
 jt (h zj s σ H D (I.wish _) hw) (fun _ _ q=>q.unwish) fun _ _ z=>xQ z
end
section
variable {X:Cx}{st:jV}{rest:List jV}{t u:TS}{e:jD}{te:TE}{pos:Pos}
def zp1:TS:=fun D σ H=>D.nx σ H
def zmf (t u:TS):TS:=fun D σ H=>t { D with nx:=u D } σ H
theorem j4:PSs X [] zp1:=fun _ _ σ H _ I h=>Ji ⟨σ,H,I,h⟩
theorem zF (h1:PS X st t) (h2:PSs X rest u):PSs X (st::rest) (zmf t u):=by
 intro zj s σ H D I h;refine Ex (thn (h1 zj s σ H { D with nx:=u D } I h) fun f s1 q=>?_);cases f with
 | next=>
  obtain⟨σ',H',I',q⟩:=q;exact h2 zj s1 σ' H' D I' q
 | ret v=>exact q
 | brk=>exact q
 | cont=>exact q
theorem zR (h1:PS X st t):PSs X [st] t:=by
 intro zj s σ H D I h;refine Ex (thn (h1 zj s σ H D I h) fun f s1 q=>?_);cases f with
 | next=>exact Ji q
 | ret v=>exact q
 | brk=>exact q
 | cont=>exact q
theorem Inv.quiet {zj:List (zm×Obj)}{σ:St}{H:Hp}{s:zp} (I:Inv X zj σ H s):interactive X.env=false:=by simp[interactive,I.ok.kind]
def zp0 (te:TE):TS:=fun D σ H=>te σ H fun _ H1=>D.nx σ H1
theorem aP (he:PE X e te) (hs:swapsWith e none pos.line X.env=pure false:=by rfl):PS X (.Expr e pos) (zp0 te):=by
 intro zj s σ H D I h;exact wpAny_Expr_any (thn (he zj s σ H _ I h) fun v s1 ⟨x,H1,I1,r1,q1⟩=>⟨σ,H1,I1,q1⟩) I.quiet hs
def zxj (te:TE):TS:=fun D σ H=>te σ H D.rt
theorem ju (he:PE X e te):PS X (.Return (some e) pos) (zxj te):=by
 intro zj s σ H D I h;exact wpAny_Return_some (thn (he zj s σ H _ I h) fun v s1 ⟨x,H1,I1,r1,q1⟩=>⟨x,σ,H1,I1,r1,q1⟩)
def zmd (c:TT) (t u:TS):TS:=fun D σ H=>c σ H fun b H1=>if b=true then t D σ H1 else u D σ H1
theorem wO {c:jD}{a b:List jV}{tc:TT} (hc:PT X c tc) (ha:PSs X a t) (hb:PSs X b u):PS X (.If c a b pos) (zmd tc t u):=by
 intro zj s σ H D I h;refine wpAny_If (thn (hc zj s σ H _ I h) fun d s1 ⟨H1,I1,q1⟩=>?_);cases d with
 | true=>exact ha zj s1 σ H1 D I1 q1
 | false=>exact hb zj s1 σ H1 D I1 q1
def zrL:TS:=fun _ _ _=>False
theorem zlP:PS X st zrL:=fun _ _ _ _ _ _ h=>h.elim
end
abbrev TG:=V->St->Hp->(St->Hp->Prop)->Prop
abbrev TGs:=List V->St->Hp->(St->Hp->Prop)->Prop
def PG (X:Cx) (target:jD) (t:TG):Prop:=
 ∀(zj:List (zm×Obj)) (s:zp) (σ:St) (H:Hp) (v:V) (u:zc) (Q:St->Hp->Prop),Inv X zj σ H s->RelV v u->t v σ H Q ->
  wpAny (model X.prog X.w) X.A (assign target X.env u) (fun _ s'=>∃σ' H',Inv X zj σ' H' s'/\Q σ' H') X.xe s
def PGs (X:Cx) (ts:List jD) (t:TGs):Prop:=
 ∀(zj:List (zm×Obj)) (s:zp) (σ:St) (H:Hp) (vs:List V) (us:List zc) (Q:St->Hp->Prop),Inv X zj σ H s->Vals vs us->t vs σ H Q ->
  wpAny (model X.prog X.w) X.A (assignInOrder ((assignEach ts X.env).map (·.2)) us) (fun _ s'=>∃σ' H',Inv X zj σ' H' s'/\Q σ' H') X.xe s
abbrev zqC:=V->V->V->Hp->(Hp->Prop)->Prop
def zsF (X:Cx) (t:zqC):Prop:=
 ∀(zj:List (zm×Obj)) (s:zp) (σ:St) (H:Hp) (o i v:V) (ov iv u:zc) (Q:Hp->Prop),Inv X zj σ H s->RelV o ov->RelV i iv->RelV v u->t o i v H Q ->
  wpAny (model X.prog X.w) X.A (setItem ov iv u) (fun _ s'=>∃H',Inv X zj σ H' s'/\Q H') X.xe s
section
variable {X:Cx}{pos:Pos}
def rP (i:Nat):TG:=fun v σ H Q=>Q (σ.set i (some v)) H
theorem j9 {i:Nat}{x:Str} (hN:X.N.Nodup) (hi:X.N[i]?=some x) (hx:Loc X.env.scope x) (hf:X.fn x=true∨X.env.scope.names.lookup x=some .local:=by first | exact .inl rfl | exact .inr rfl | assumption):PG X (.Name x pos) (rP i):=by
 intro zj s σ H v u Q I r h;exact dJ (fX I hN hi hx r (fun s' I'=>⟨_,H,I',h⟩) hf)
def zyd:TGs:=fun vs σ H Q=>vs=[]/\Q σ H
def zsR (t:TG) (u:TGs):TGs:=fun vs σ H Q=>∃v r,vs=v::r/\t v σ H fun σ' H'=>u r σ' H' Q
theorem iJ:PGs X [] zyd:=by
 intro zj s σ H vs us Q I r h;obtain⟨e,h⟩:=h;subst e;cases r;exact assignInOrder_nil ⟨σ,H,I,h⟩
theorem Ze {e:jD}{es:List jD}{t:TG}{u:TGs} (h1:PG X e t) (h2:PGs X es u)
  (hs:(assignEach (e::es) X.env).map (·.2)=assign e X.env::(assignEach es X.env).map (·.2):=by rfl):PGs X (e::es) (zsR t u):=by
 intro zj s σ H vs us Q I r h;obtain⟨v,vr,e1,h⟩:=h;subst e1;cases r with
 | cons r rr=>
  rw[hs];refine assignInOrder_cons (thn (h1 zj s σ H _ _ _ I r h) fun _ s1 ⟨σ1,H1,I1,q1⟩=>?_);exact h2 zj s1 σ1 H1 _ _ Q I1 rr q1
def zsS (K:zg) (n:Nat) (t:TGs):TG:=fun v σ H Q=>∃a xs,v=.ref a/\SqT K H a xs/\xs.length=n/\t xs σ H Q
theorem Lg {es:List jD}{k:Nat}{t:TGs}{n:Nat} (hc:X.calm=true) (h:PGs X es t)
  (hn:(assignEach es X.env).length=n:=by rfl) (hst:(assignEach es X.env).findIdx? (·.1)=none:=by rfl):PG X (.Tuple es k pos) (zsS X.K n t):=by
 intro zj s σ H v u Q I r hw;obtain⟨a,xs,e1,hq,hl,hw⟩:=hw;subst e1;cases r;obtain⟨its,rv,ht,hz⟩:=I.tuple hq;refine assign_Tuple_tuple (I.ok.hd hc) ht (by simp[hn,<- hl,rv.length]) hst fun h' hx=>?_;have I1:Inv X zj σ H { s with heap:=h' }:=I.kept (t':=s.toks) fun b o e=>hx b o (qY (zV e)) e;exact h zj _ σ H xs _ Q I1 (by simpa using rv) hw
def zye (to ti:TE) (t:zqC):TG:=fun v σ H Q=>to σ H fun o H1=>ti σ H1 fun i H2=>t o i v H2 fun H3=>Q σ H3
theorem zrs {o i:jD}{to ti:TE}{t:zqC} (ho:PE X o to) (hi:PE X i ti) (hs:zsF X t)
  (ha:∀v,assign (.Subscript o i pos) X.env v=(do
   let ov <- holding [v] (eval o X.env)
   let iv <- holding [v,ov] (eval i X.env)
   standAt pos
   holding [v,ov,iv] (setItem ov iv v)
   release [v,ov,iv] []):=by intro _;rfl):PG X (.Subscript o i pos) (zye to ti t):=by
 intro zj s σ H v u Q I r h;rw[ha];refine zr (jY (thn (ho zj s σ H _ I h) fun ov s1 ⟨x,H1,I1,r1,q1⟩=>?_));refine zr (jY (thn (hi zj s1 σ H1 _ I1 q1) fun iv s2 ⟨y,H2,I2,r2,q2⟩=>?_));refine zr (Ve (zr (jY (thn (hs zj s2 σ H2 x y v ov iv u _ I2 r1 r2 r q2) fun _ s3 ⟨H3,I3,q3⟩=>?_))));exact wpAny_release ⟨σ,H3,I3,q3⟩
def zmb (te:TE) (g:TG):TS:=fun D σ H=>te σ H fun x H1=>g x σ H1 D.nx
theorem zaV {tg e:jD}{te:TE}{g:TG} (he:PE X e te) (hg:PG X tg g) (hs:swapsWithSole [tg] e pos.line X.env=pure false:=by rfl) (hw:swappedStores [tg] e X.env=pure none:=by rfl)
  (h1:(assignEach [tg] X.env).map (·.2)=[assign tg X.env]:=by rfl):PS X (.Assign [tg] e pos) (zmb te g):=by
 intro zj s σ H D I h;refine wpAny_Assign_stores (thn (he zj s σ H _ I h) fun v s1 ⟨x,H1,I1,r1,q1⟩=>?_) hs hw;rw[h1];exact thn (hg zj s1 σ H1 x v _ I1 r1 q1) fun _ s2 q=>q
theorem jb {i:Nat}{x:Str}{e:jD}{te:TE} {pos':Pos} (hN:X.N.Nodup) (hi:X.N[i]?=some x) (hx:Loc X.env.scope x) (he:PE X e te) (hs:swapsWith e (some (.Name x pos')) pos.line X.env=pure false:=by rfl) (hf:X.fn x=true∨X.env.scope.names.lookup x=some .local:=by first | exact .inl rfl | exact .inr rfl | assumption) :
  PS X (.Assign [.Name x pos'] e pos) (zmb te (rP i)):=by
 intro zj s σ H D I h;refine wpAny_Assign_Name (thn (he zj s σ H _ I h) fun v s1 ⟨y,H1,I1,r1,q1⟩=>?_) hs;exact fX I1 hN hi hx r1 (fun s2 I2=>⟨_,H1,I2,q1⟩) hf
def zmg (c:TT) (tb:TS):TS:=fun D σ H=>∃W:Nat->St->Hp->Prop,(∃m,W m σ H)/\∀m σ H,W m σ H ->
 c σ H fun b H1=>if b=true then ∃N:St->Hp->Prop,(∀σ' H',N σ' H'->∃m',m'<m/\W m' σ' H')/\tb { D with nx:=N,ct:=N,bk:=D.nx } σ H1 else D.nx σ H1
theorem nY {c:jD}{body:List jV}{tc:TT}{tb:TS} (hp:UL (model X.prog X.w) X.A X.env X.xe) (hc:PT X c tc) (hb:PSs X body tb):PS X (.While c body [] pos) (zmg tc tb):=by
 intro zj s σ H D I h;obtain⟨W,⟨m0,w0⟩,turn⟩:=h;refine wpAny_While (codeAny_whileLoop (fun n s'=>∃σ' H',Inv X zj σ' H' s'/\W n σ' H') ?_ m0 ⟨σ,H,I,w0⟩);rintro n s1 ⟨σ1,H1,I1,w1⟩;refine ZS hp (thn (hc zj s1 σ1 H1 _ I1 (turn n σ1 H1 w1)) fun b s2 ⟨H2,I2,q2⟩=>?_);cases b with
 | true=>
  obtain⟨N,hN,q2⟩:=q2;rw[if_pos rfl];refine ZS hp (thn (hb zj s2 σ1 H2 _ I2 q2) fun f s3 q3=>?_);cases f with
  | next=>
   obtain⟨σ3,H3,I3,n3⟩:=q3;obtain⟨m',hm,w3⟩:=hN σ3 H3 n3;exact⟨m',hm,σ3,H3,I3,w3⟩
  | cont=>
   obtain⟨σ3,H3,I3,n3⟩:=q3;obtain⟨m',hm,w3⟩:=hN σ3 H3 n3;exact⟨m',hm,σ3,H3,I3,w3⟩
  | brk=>exact q3
  | ret v=>exact q3
 | false=>
  rw[if_neg qI];exact Ji ⟨σ1,H2,I2,q2⟩
end
structure It where
 go:Nat->Hp->Prop
 yld:Nat->Hp->V->Hp->Prop
 stop:Nat->Hp->Prop
def mW (X:Cx) (zj:List (zm×Obj)) (H:Hp) (b:zm):Prop:=
 H b=none/\b≠X.env.locals/\b ∉ X.fs/\(b∈X.ex∨X.s₀.heap.objs.size<=b)/\(∀x c,X.env.cells.lookup x=some c->c≠b)/\∀p∈X.pn++zj,p.1≠b
theorem Inv.fpOk {X:Cx}{zj:List (zm×Obj)}{σ:St} {H H':Hp}{s:zp}{b:zm} (I:Inv X zj σ H s) (hb:s.heap.objs.size<=b) (hn:H' b=none):mW X zj H' b:=by
 refine⟨hn,zbs (qy I.lt hb),I.nofs hb,.inr (qd I.sz hb),fun x c e z=>?_,fun p hp z=>?_⟩
 .obtain⟨v,q⟩:=I.cell x c e;exact absurd (qy q.lt (by rw[z];exact hb)) (vH _)
 .exact absurd (qy (zV (I.pin p hp).1) (by rw[z];exact hb)) (vH _)
structure Turn (P:qz) (w:jd) (K:zg) (tg:jD) (J:It) (fp:List zm) (it:zm) (tn:Nat->jW->Prop):Prop where
 mem:it∈fp
 obj:∀i h,tn i h->∀b∈fp,∃o,h.get? b=some o/\∀v,o.data≠.cell v
 keep:∀i h h',tn i h->(∀b∈fp,∀o,h.get? b=some o->h'.get? b=some o)->tn i h'
 item:∀(X:Cx),X.prog=P->X.w=w->X.K=K->X.calm=true->∀(i:Nat) (zj:List (zm×Obj)) (s:zp) (σ:St) (H:Hp) (E:zc->zp->Prop),Inv X zj σ H s->(∀b∈fp,mW X zj H b)->tn i s.heap->J.go i H ->
  wpAny (model P w) X.A (pyNext (.ref it)) (fun r s1=>∃u,r=some u /\
   wpAny (model P w) X.A (letOwnedTupleGo tg (.ref it) u) (fun _ s2=>∃x H',Inv X zj σ H' s2/\RelV x u/\J.yld i H x H'/\tn (i+1) s2.heap/\∀b∈fp,H' b=none) E s1) E s
 done:∀(X:Cx),X.prog=P->X.w=w->X.K=K->X.calm=true->∀(i:Nat) (zj:List (zm×Obj)) (s:zp) (σ:St) (H:Hp) (E:zc->zp->Prop),Inv X zj σ H s->(∀b∈fp,mW X zj H b)->tn i s.heap->J.stop i H ->
  wpAny (model P w) X.A (pyNext (.ref it)) (fun r s1=>r=none/\Inv X zj σ H s1) E s
 self:∀(A:jg) (i:Nat) (s:zp) (Q:zc->zp->Prop) (E:zc->zp->Prop),tn i s.heap->Q (.ref it) s->wpAny (model P w) A (pyIter (.ref it)) Q E s
abbrev TI:=St->Hp->(It->Hp->Prop)->Prop
def PIE (X:Cx) (zj:List (zm×Obj)) (σ:St) (tg:jD) (R:It->Hp->Prop) (itv:zc) (s2:zp):Prop:=
 ∃(it:zm) (fp:List zm) (tn:Nat->jW->Prop) (J:It) (H':Hp),itv=.ref it/\Inv X zj σ H' s2/\Turn X.prog X.w X.K tg J fp it tn/\tn 0 s2.heap/\(∀b∈fp,mW X zj H' b)/\R J H'
def PI (X:Cx) (tg iter:jD) (wi:TI):Prop:=
 ∀(zj:List (zm×Obj)) (s:zp) (σ:St) (H:Hp) (R:It->Hp->Prop),Inv X zj σ H s->wi σ H R ->
  wpAny (model X.prog X.w) X.A (eval iter X.env) (fun v s1=>wpAny (model X.prog X.w) X.A (pyIter v) (PIE X zj σ tg R) X.xe s1) X.xe s
theorem zcG {M:aM}{A:jg}{E:zc->zp->Prop}{s:zp}{tg:jD}{it:zm}{u:zc}{o:Obj}{n:String}{vs:Array zc}{Q:Unit->zp->Prop} (ho:s.heap.get? it=some o) (hc:o.cls=.type n) (hd:o.data=.fields vs)
    (hn:["enumerate","zip","dict_itemiterator","dict_reverseitemiterator","odict_iterator","itertools.zip_longest","itertools.pairwise"].contains n=false) (hQ:Q () s):wpAny M A (letOwnedTupleGo tg (.ref it) u) Q E s:=by
  unfold letOwnedTupleGo;cases tg <;> first
    | exact qj hQ
    | (cases u <;> first
        | exact qj hQ
        | (refine zr (wpAny_load ho ?_)
           rw[hc,hd];show wpAny M A (if (["enumerate","zip","dict_itemiterator","dict_reverseitemiterator","odict_iterator","itertools.zip_longest","itertools.pairwise"].contains n && vs[0]? == some (rawInt _))=true then _ else _) Q E s;rw[if_neg (by intro h;rw[hn,Bool.false_and] at h;cases h)];exact qj hQ))
noncomputable def Itl (K:zg) (a:zm):It:=
 ⟨fun i H=>∃xs x,SqL K H a xs/\xs[i]?=some x,fun i H x H'=>H'=H/\∀xs,SqL K H a xs->xs[i]?=some x,fun i H=>∃xs,SqL K H a xs/\xs.length<=i⟩
noncomputable def Itt (K:zg) (a:zm):It:=
 ⟨fun i H=>∃xs x,SqT K H a xs/\xs[i]?=some x,fun i H x H'=>H'=H/\∀xs,SqT K H a xs->xs[i]?=some x,fun i H=>∃xs,SqT K H a xs/\xs.length<=i⟩
noncomputable def Itr (lo:Int) (n:Nat):It:=⟨fun i _=>i<n,fun i H x H'=>H'=H/\x=.int (lo+i),fun i _=>n<=i⟩
theorem zjq {P:qz}{w:jd}{K:zg}{tg:jD} (a it:zm):Turn P w K tg (Itl K a) [it] it (fun i h=>h.IsListIter it a i) where
 mem:=by simp
 obj:=fun i h st b hb=>by
  have e:b=it:=by simpa using hb
  subst e;obtain⟨o,e,c,d⟩:=st;exact⟨o,e,fun v z=>by rw[d] at z;cases z⟩
 keep:=fun i h h' st k=>st.at fun o e=>k it (by simp) o e
 item:=by
  intro X hP hw hK hc i zj s σ H E I hf st hg;subst hP hw hK;obtain⟨xs,x,hq,hx⟩:=hg;obtain⟨its,rv,p,hz⟩:=I.list hq;obtain⟨u,hu,ru⟩:=rv.get hx;obtain⟨f0,f1,f2,f3,f4,f5⟩:=hf it (by simp);refine wpAny_pyNext_list_item st p.isList (x:=u) (by simpa using hu) fun h' st' sb=>?_;have I1:Inv X zj σ H { s with heap:=h' }:=I.turned (t':=s.toks) (fun b o hb e=>(sb.2 b hb).trans e) f0 f1 f3 f4 f5;obtain⟨o,e,c,d⟩:=id st';exact⟨u,rfl,zcG (s:={ s with heap:=h' }) e c d (by decide) ⟨x,H,I1,ru,⟨rfl,fun ys hy=>by rw[I.list_inj hy hq];exact hx⟩,st',fun b hb=>(hf b hb).1⟩⟩
 done:=by
  intro X hP hw hK hc i zj s σ H E I hf st hg;subst hP hw hK;obtain⟨xs,hq,hx⟩:=hg;obtain⟨its,rv,p,hz⟩:=I.list hq;obtain⟨f0,f1,f2,f3,f4,f5⟩:=hf it (by simp);have hl:=rv.length;exact wpAny_pyNext_list_end (I.ok.hd hc) st p.isList (by simp;omega) fun h' eb=>⟨rfl,I.turned (t':=s.toks) (fun b o hb e=>eb b o hb e) f0 f1 f3 f4 f5⟩
 self:=fun _ _ _ _ _ st h=>wpAny_pyIter_listiter st h
theorem zf2 {P:qz}{w:jd}{K:zg}{tg:jD} (a it:zm):Turn P w K tg (Itt K a) [it] it (fun i h=>h.IsTupleIter it a i) where
 mem:=by simp
 obj:=fun i h st b hb=>by
  have e:b=it:=by simpa using hb
  subst e;obtain⟨o,e,c,d⟩:=st;exact⟨o,e,fun v z=>by rw[d] at z;cases z⟩
 keep:=fun i h h' st k=>st.at fun o e=>k it (by simp) o e
 item:=by
  intro X hP hw hK hc i zj s σ H E I hf st hg;subst hP hw hK;obtain⟨xs,x,hq,hx⟩:=hg;obtain⟨its,rv,p,hz⟩:=I.tuple hq;obtain⟨u,hu,ru⟩:=rv.get hx;obtain⟨f0,f1,f2,f3,f4,f5⟩:=hf it (by simp);refine wpAny_pyNext_tuple_item st (show s.heap.IsTuple a its.toArray from p) (x:=u) (by simpa using hu) fun h' st' sb=>?_;have I1:Inv X zj σ H { s with heap:=h' }:=I.turned (t':=s.toks) (fun b o hb e=>(sb.2 b hb).trans e) f0 f1 f3 f4 f5;obtain⟨o,e,c,d⟩:=id st';exact⟨u,rfl,zcG (s:={ s with heap:=h' }) e c d (by decide) ⟨x,H,I1,ru,⟨rfl,fun ys hy=>by rw[I.tuple_inj hy hq];exact hx⟩,st',fun b hb=>(hf b hb).1⟩⟩
 done:=by
  intro X hP hw hK hc i zj s σ H E I hf st hg;subst hP hw hK;obtain⟨xs,hq,hx⟩:=hg;obtain⟨its,rv,p,hz⟩:=I.tuple hq;obtain⟨f0,f1,f2,f3,f4,f5⟩:=hf it (by simp);have hl:=rv.length;exact wpAny_pyNext_tuple_end (I.ok.hd hc) st (show s.heap.IsTuple a its.toArray from p) (by simp;omega) fun h' eb=>⟨rfl,I.turned (t':=s.toks) (fun b o hb e=>eb b o hb e) f0 f1 f3 f4 f5⟩
 self:=fun _ _ _ _ _ st h=>wpAny_pyIter_tupleiter st h
theorem zf1 {P:qz}{w:jd}{K:zg}{tg:jD} (it:zm) (lo:Int) (n:Nat):Turn P w K tg (Itr lo n) [it] it (fun i h=>oR h it (lo+(i:Nat)*1) ((n:Int)-(i:Nat)) 1) where
 mem:=by simp
 obj:=fun i h st b hb=>by
  have e:b=it:=by simpa using hb
  subst e;exact⟨_,st,fun v z=>by
   have z':dq _=Us v:=z;cases z'⟩
 keep:=fun i h h' st k=>k it (by simp) _ st
 item:=by
  intro X hP hw hK hc i zj s σ H E I hf st hg;subst hP hw hK;obtain⟨f0,f1,f2,f3,f4,f5⟩:=hf it (by simp);have W:=zd5 (prog:=X.prog) (w:=X.w) (I.ok.hd hc) it lo 1 n;refine Ja (W.item i s _ _ hg st fun v h' tk hv st' kk htk=>?_);obtain⟨t,rfl⟩:=hv;have ht:=I.tkL (n:=tk) htk;have I1:Inv X zj σ H { s with heap:=h',toks:=tk }:=I.turned (fun b o hb e=>kk b o (by simpa using hb) e) f0 f1 f3 f4 f5;refine⟨_,rfl,zcG (s:={ s with heap:=h',toks:=tk }) (n:="range_iterator") st' rfl rfl (by decide) ⟨.int (lo+i),H,I1,⟨t,?_⟩,⟨rfl,rfl⟩,st',fun b hb=>(hf b hb).1⟩⟩;rw[oO]
 done:=by
  intro X hP hw hK hc i zj s σ H E I hf st hg;subst hP hw hK;obtain⟨f0,f1,f2,f3,f4,f5⟩:=hf it (by simp);exact lJ (I.ok.hd hc) st (by have:n<=i:=hg;omega) fun h' eb=>⟨rfl,I.turned (t':=s.toks) (fun b o hb e=>eb b o hb e) f0 f1 f3 f4 f5⟩
 self:=fun _ _ _ _ _ st h=>lH st h
section
variable {X:Cx}{tg:jD}
def zsY (K:zg) (tl:TE):TI:=fun σ H R=>tl σ H fun x H1=>∃a,x=.ref a/\(∃xs,SqL K H1 a xs)/\R (Itl K a) H1
def zyh (K:zg) (tl:TE):TI:=fun σ H R=>tl σ H fun x H1=>∃a,x=.ref a/\(∃xs,SqT K H1 a xs)/\R (Itt K a) H1
theorem Vl {l:jD}{tl:TE} (hl:PE X l tl):PI X tg l (zsY X.K tl):=by
 intro zj s σ H R I h;refine thn (hl zj s σ H _ I h) fun v s1 ⟨x,H1,I1,r1,q1⟩=>?_;obtain⟨a,e,⟨xs,hq⟩,q⟩:=q1;subst e;cases r1;obtain⟨its,rv,p,hz⟩:=I1.list hq;refine CW p.isList ?_;refine⟨s1.heap.objs.size,[s1.heap.objs.size],_,_,H1,rfl,I1.kept (t':=s1.toks) fun b o e=>zO _ e,zjq a _,⟨_,jf _ rfl,rfl,rfl⟩,fun b hb=>?_,q⟩;have e:b=s1.heap.objs.size:=by simpa using hb
 subst e;exact I1.fpOk (zE _) (I1.hok.fresh (zE _))
theorem zrt {l:jD}{tl:TE} (hl:PE X l tl):PI X tg l (zyh X.K tl):=by
 intro zj s σ H R I h;refine thn (hl zj s σ H _ I h) fun v s1 ⟨x,H1,I1,r1,q1⟩=>?_;obtain⟨a,e,⟨xs,hq⟩,q⟩:=q1;subst e;cases r1;obtain⟨its,rv,p,hz⟩:=I1.tuple hq;refine wpAny_pyIter_tuple (show s1.heap.IsTuple a its.toArray from p) ?_;refine⟨s1.heap.objs.size,[s1.heap.objs.size],_,_,H1,rfl,I1.kept (t':=s1.toks) fun b o e=>zO _ e,zf2 a _,⟨_,jf _ rfl,rfl,rfl⟩,fun b hb=>?_,q⟩;have e:b=s1.heap.objs.size:=by simpa using hb
 subst e;exact I1.fpOk (zE _) (I1.hok.fresh (zE _))
theorem zdd {zj:List (zm×Obj)}{σ:St}{H:Hp}{s:zp}{R:It->Hp->Prop}{E:zc->zp->Prop}{lo hi:Int}{t u v:Tok}{tk:Nat} (I:Inv X zj σ H s) (htk:0<tk) (h1:-(2 ^ 62)<=lo) (h2:lo<2 ^ 62) (h3:-(2 ^ 62)<=hi) (h4:hi<2 ^ 62)
  (q:R (Itr lo (hi-lo).toNat) H):wpAny (model X.prog X.w) X.A (pyIter (.ref s.heap.objs.size)) (PIE X zj σ tg R) E { s with heap:=s.heap.push { cls:=.type "range",data:=.fields #[.int lo t,.int hi u,.int 1 v] },toks:=tk }:=by
 refine Af (zdI ..) (small_one h1 h2 h3 h4) ?_;have I1:Inv X zj σ H { s with heap:=s.heap.push { cls:=.type "range",data:=.fields #[.int lo t,.int hi u,.int 1 v] },toks:=tk }:=I.kept fun b o e=>zO _ e;refine⟨(s.heap.push { cls:=.type "range",data:=.fields #[.int lo t,.int hi u,.int 1 v] }).objs.size,[(s.heap.push { cls:=.type "range",data:=.fields #[.int lo t,.int hi u,.int 1 v] }).objs.size],_,_,H,rfl,
  I1.kept (t':=tk) fun b o e=>zO _ e,zf1 _ lo (hi-lo).toNat,?_,fun b hb=>?_,q⟩
 .have e1:lo+((0:Nat):Int)*1=lo:=by simp
  have e2:(((hi-lo).toNat:Nat):Int)-((0:Nat):Int)=xW lo hi 1:=by rw[rangeSize_one];split <;> omega
  show oR _ _ (lo+((0:Nat):Int)*1) ((((hi-lo).toNat:Nat):Int)-((0:Nat):Int)) 1;rw[e1,e2];exact jf _ rfl
 .have e:b=(s.heap.push { cls:=.type "range",data:=.fields #[.int lo t,.int hi u,.int 1 v] }).objs.size:=by simpa using hb
  subst e;exact I1.fpOk (zE _) (I1.hok.fresh (zE _))
def zsZ (ta:TA):TI:=fun σ H R=>ta σ H fun vs H1=>∃j:Int,vs=[.int j]/\-(2 ^ 62)<=j/\j<2 ^ 62/\R (Itr 0 j.toNat) H1
def zs0 (ta:TA):TI:=fun σ H R=>ta σ H fun vs H1=>∃i j:Int,vs=[.int i,.int j]/\(-(2 ^ 62)<=i/\i<2 ^ 62/\-(2 ^ 62)<=j/\j<2 ^ 62)/\R (Itr i (j-i).toNat) H1
theorem WR {a:jD}{ta:TA}{p pos:Pos} (hg:Gl X "range") (hm:X.mg "range"=none) (ha:PA X [a] ta) (hs:z9 [a] X.env=[(false,eval a X.env)]:=by rfl):PI X tg (.Call (.Name "range" p) [a] [] pos) (zsZ ta):=by
 intro zj s σ H R I h;refine Call_ (nM I hg hm M9 (km (thn (ha pos zj s σ H _ I h) fun us s1 ⟨vs,H1,I1,r1,q1⟩=>?_) hs rfl));obtain⟨j,e,q1,q2,q⟩:=q1;subst e;cases r1 with
 | cons r rr=>
  cases rr;obtain⟨t,rfl⟩:=r;exact call_range_1 (zdd I1 (by first|exact jJ _|assumption|exact Inv.tk ‹_›|exact Inv.tkL ‹_› ‹_›|(have:=Inv.tk ‹_›;simp only[] at *;omega)) (by omega) (by omega) q1 q2 (by simpa using q))
theorem zi7 {a b:jD}{ta:TA}{p pos:Pos} (hg:Gl X "range") (hm:X.mg "range"=none) (ha:PA X [a,b] ta) (hs:z9 [a,b] X.env=[(false,eval a X.env),(false,eval b X.env)]:=by rfl) (hs2:z9 [b] X.env=[(false,eval b X.env)]:=by rfl) :
  PI X tg (.Call (.Name "range" p) [a,b] [] pos) (zs0 ta):=by
 intro zj s σ H R I h;refine Call_ (nM I hg hm M9 (km (thn (ha pos zj s σ H _ I h) fun us s1 ⟨vs,H1,I1,r1,q1⟩=>?_) (by rw[hs,hs2]) (by rw[hs2];rfl)));obtain⟨i,j,e,⟨q1,q2,q3,q4⟩,q⟩:=q1;subst e;cases r1 with
 | cons r rr=>
  cases rr with
  | cons r' rr=>
   cases rr;obtain⟨t,rfl⟩:=r;obtain⟨t',rfl⟩:=r';exact call_range_2 (zdd I1 (by first|exact jJ _|assumption|exact Inv.tk ‹_›|exact Inv.tkL ‹_› ‹_›|(have:=Inv.tk ‹_›;simp only[] at *;omega)) q1 q2 q3 q4 q)
def zxg (wi:TI) (g:TG) (tb:TS):TS:=fun D σ H=>wi σ H fun J H1=>∃W:Nat->Nat->St->Hp->Prop,(∃m,W 0 m σ H1)/\∀i m σ H,W i m σ H ->
 (J.stop i H/\D.nx σ H)∨(J.go i H/\∃N:St->Hp->Prop,(∀σ' H',N σ' H'->∃m',m'<m/\W (i+1) m' σ' H')/\∀x H',J.yld i H x H'->g x σ H' fun σ2 H2=>tb { D with nx:=N,ct:=N,bk:=D.nx } σ2 H2)
noncomputable def DQ (fp:List zm) (h:jW):List (zm×Obj):=fp.filterMap fun b=>(h.get? b).map fun o=>(b,o)
theorem WN {fp:List zm}{h:jW}{b:zm}{o:Obj} (hb:b∈fp) (e:h.get? b=some o):(b,o)∈DQ fp h:=List.mem_filterMap.mpr ⟨b,hb,by rw[e];rfl⟩
theorem ziV {fp:List zm}{h:jW}{p:zm×Obj} (hp:p∈DQ fp h):p.1∈fp/\h.get? p.1=some p.2:=by
 obtain⟨b,hb,e⟩:=List.mem_filterMap.mp hp;cases q:h.get? b with
 | none=>rw[q] at e;cases e
 | some o=>
  rw[q] at e;have e':(b,o)=p:=xr e;subst e';exact⟨hb,q⟩
theorem Inv.pinned {zj:List (zm×Obj)}{σ:St}{H:Hp}{s:zp}{fp:List zm} (I:Inv X zj σ H s) (hf:∀b∈fp,mW X zj H b) (ho:∀b∈fp,∃o,s.heap.get? b=some o/\∀v,o.data≠.cell v):Inv X (zj++DQ fp s.heap) σ H s:=
 I.pins_of fun p hp=>(List.mem_append.mp hp).elim (fun z=>I.pin p (z8 _ z)) fun z=>by
  obtain⟨hb,e⟩:=ziV z;obtain⟨f0,f1,f2,_⟩:=hf p.1 hb;obtain⟨o,e',d⟩:=ho p.1 hb;rw[e] at e';cases e';exact⟨e,f0,f1,f2,d⟩
theorem Inv.unpinned {zj pl:List (zm×Obj)}{σ:St}{H:Hp}{s:zp} (I:Inv X (zj++pl) σ H s):Inv X zj σ H s:=I.pins_of fun p hp=>I.pin p (z8 _ (vU _ hp))
theorem bY {iter:jD}{body:List jV}{wi:TI}{g:TG}{tb:TS}{pos:Pos} (hp:UL (model X.prog X.w) X.A X.env X.xe) (hc:X.calm=true) (hi:PI X tg iter wi) (hg:PG X tg g) (hb:PSs X body tb)
  (hs:∀x,foldedSetIterable iter X.env x=pure x:=by intro _;rfl):PS X (.For tg iter body [] pos) (zxg wi g tb):=by
 intro zj s σ H D I h;refine wpAny_For (thn (hi zj s σ H _ I h) fun v s1 h1=>thn h1 fun itv s2 h2=>?_) hs;obtain⟨it,fp,tn,J,H2,e,I2,T,st2,f2,W,⟨m0,w0⟩,turn⟩:=h2;subst e;have stat:∀{H':Hp},(∀b∈fp,H' b=none)->∀b∈fp,mW X zj H' b:=fun hn b hb=>⟨hn b hb,(f2 b hb).2⟩;refine codeAny_forLoop_any (fun n s'=>∃i σ' H',Inv X zj σ' H' s'/\tn i s'.heap/\(∀b∈fp,H' b=none)/\W i n σ' H') ?_ m0 ⟨0,σ,H2,I2,st2,fun b hb=>(f2 b hb).1,w0⟩;rintro n s3 ⟨i,σ3,H3,I3,st3,fr3,w3⟩;rcases turn i n σ3 H3 w3 with ⟨stop,qn⟩ | ⟨go,N,hN,step⟩
 .refine ZS hp (thn (T.done X rfl rfl rfl hc i zj s3 σ3 H3 X.xe I3 (stat fr3) st3 stop) fun r s4 ⟨hr,I4⟩=>?_);subst hr;exact Ji ⟨σ3,H3,I4,qn⟩
 .refine ZS hp (thn (T.item X rfl rfl rfl hc i zj s3 σ3 H3 X.xe I3 (stat fr3) st3 go) fun r s4 ⟨u,hr,h4⟩=>?_);subst hr;refine ZS hp (thn h4 fun _ s5 ⟨x,H5,I5,r5,y5,st5,fr5⟩=>?_);have I5':=I5.pinned (stat fr5) (T.obj _ _ st5);refine ZS hp (thn (hg _ s5 σ3 H5 x u _ I5' r5 (step x H5 y5)) fun _ s6 ⟨σ6,H6,I6,q6⟩=>?_);refine ZS hp (thn (hb _ s6 σ6 H6 _ I6 q6) fun f s7 q7=>?_);have again:∀{σ7:St}{H7:Hp},Inv X (zj++DQ fp s5.heap) σ7 H7 s7->N σ7 H7->∃m,m<n/\∃i σ' H',Inv X zj σ' H' s7/\tn i s7.heap/\(∀b∈fp,H' b=none)/\W i m σ' H':=fun {σ7 H7} I7 n7=>by
   obtain⟨m',hm,w7⟩:=hN σ7 H7 n7;refine⟨m',hm,i+1,σ7,H7,I7.unpinned,T.keep _ _ _ st5 fun b hb o e=>(I7.pin (b,o) (z8 _ (z8 _ (WN hb e)))).1,fun b hb=>?_,w7⟩;obtain⟨o,e,d⟩:=T.obj _ _ st5 b hb;exact(I7.pin (b,o) (z8 _ (z8 _ (WN hb e)))).2.1
  cases f with
  | next=>obtain⟨σ7,H7,I7,n7⟩:=q7;exact again I7 n7
  | cont=>obtain⟨σ7,H7,I7,n7⟩:=q7;exact again I7 n7
  | brk=>obtain⟨σ7,H7,I7,q7⟩:=q7;exact⟨σ7,H7,I7.unpinned,q7⟩
  | ret v=>obtain⟨x7,σ7,H7,I7,r7,q7⟩:=q7;exact⟨x7,σ7,H7,I7.unpinned,r7,q7⟩
end
theorem Az {K:zg}{a:zm}{xs:List V}{g:TG}{tb:TS}{D:Ends}{σ:St}{H:Hp} (Pv:Nat->St->Hp->Prop) (h0:Pv 0 σ H) (hl:∀i σ H,i<=xs.length->Pv i σ H->SqL K H a xs)
  (hs:∀i x σ H,xs[i]?=some x->Pv i σ H->g x σ H fun σ2 H2=>tb { D with nx:=Pv (i+1),ct:=Pv (i+1),bk:=D.nx } σ2 H2) (hd:∀σ H,Pv xs.length σ H->D.nx σ H) :
  ∃W:Nat->Nat->St->Hp->Prop,(∃m,W 0 m σ H)/\∀i m σ H,W i m σ H ->
   ((Itl K a).stop i H/\D.nx σ H)∨((Itl K a).go i H/\∃N:St->Hp->Prop,(∀σ' H',N σ' H'->∃m',m'<m/\W (i+1) m' σ' H')/\∀x H',(Itl K a).yld i H x H'->g x σ H' fun σ2 H2=>tb { D with nx:=N,ct:=N,bk:=D.nx } σ2 H2):=by
 refine⟨fun i m σ H=>m=xs.length-i/\i<=xs.length/\Pv i σ H,⟨xs.length,by simp,qX _,h0⟩,?_⟩;rintro i m σ H ⟨rfl,hi,p⟩;have q:=hl i σ H hi p;by_cases hlt:i<xs.length
 .refine .inr ⟨⟨xs,xs[i],q,by simp[hlt]⟩,Pv (i+1),fun σ' H' p'=>⟨xs.length-(i+1),by omega,rfl,hlt,p'⟩,fun x H' y=>?_⟩;obtain⟨e,y⟩:=y;subst e;exact hs i x σ _ (y xs q) p
 .have e:i=xs.length:=by omega
  subst e;exact .inl ⟨⟨xs,q,zE _⟩,hd σ H p⟩
theorem fK {lo:Int}{n:Nat}{g:TG}{tb:TS}{D:Ends}{σ:St}{H:Hp} (Pv:Nat->St->Hp->Prop) (h0:Pv 0 σ H)
  (hs:∀i σ H,i<n->Pv i σ H->g (.int (lo+i)) σ H fun σ2 H2=>tb { D with nx:=Pv (i+1),ct:=Pv (i+1),bk:=D.nx } σ2 H2) (hd:∀σ H,Pv n σ H->D.nx σ H) :
  ∃W:Nat->Nat->St->Hp->Prop,(∃m,W 0 m σ H)/\∀i m σ H,W i m σ H ->
   ((Itr lo n).stop i H/\D.nx σ H)∨((Itr lo n).go i H/\∃N:St->Hp->Prop,(∀σ' H',N σ' H'->∃m',m'<m/\W (i+1) m' σ' H')/\∀x H',(Itr lo n).yld i H x H'->g x σ H' fun σ2 H2=>tb { D with nx:=N,ct:=N,bk:=D.nx } σ2 H2):=by
 refine⟨fun i m σ H=>m=n-i/\i<=n/\Pv i σ H,⟨n,by simp,qX _,h0⟩,?_⟩;rintro i m σ H ⟨rfl,hi,p⟩;by_cases hlt:i<n
 .refine .inr ⟨hlt,Pv (i+1),fun σ' H' p'=>⟨n-(i+1),by omega,rfl,hlt,p'⟩,fun x H' y=>?_⟩;obtain⟨e,y⟩:=y;subst e y;exact hs i σ _ hlt p
 .have e:i=n:=by omega
  subst e;exact .inl ⟨zE _,hd σ H p⟩
theorem oK {c:TT}{tb:TS}{D:Ends}{σ:St}{H:Hp} (Pv:St->Hp->Prop) (μ:St->Hp->Nat) (h0:Pv σ H)
  (hs:∀σ H,Pv σ H->c σ H fun b H1=>if b=true then tb { D with nx:=fun σ' H'=>Pv σ' H'/\μ σ' H' < μ σ H,ct:=fun σ' H'=>Pv σ' H'/\μ σ' H' < μ σ H,bk:=D.nx } σ H1 else D.nx σ H1)
  (mono:∀σ H Q Q',(∀b H1,Q b H1->Q' b H1)->c σ H Q->c σ H Q'):zmg c tb D σ H:=by
 refine⟨fun m σ H=>m=μ σ H/\Pv σ H,⟨_,rfl,h0⟩,?_⟩;rintro m σ H ⟨rfl,p⟩;refine mono σ H _ _ (fun b H1 q=>?_) (hs σ H p);cases b with
 | true=>exact⟨_,fun σ' H' ⟨p',l⟩=>⟨_,l,rfl,p'⟩,q⟩
 | false=>exact q
abbrev R2:=V->V->Hp->VK->Prop
def OpR (X:Cx) (f:zc->zc->Sem zc) (r:R2):Prop:=
 ∀(zj:List (zm×Obj)) (s:zp) (σ:St) (H:Hp) (x y:V) (v u:zc) (Q:VK),Inv X zj σ H s->RelV x v->RelV y u->r x y H Q ->
  wpAny (model X.prog X.w) X.A (f v u) (EP X zj σ Q) X.xe s
def UnR (X:Cx) (f:zc->Sem zc) (r:V->Hp->VK->Prop):Prop:=
 ∀(zj:List (zm×Obj)) (s:zp) (σ:St) (H:Hp) (x:V) (v:zc) (Q:VK),Inv X zj σ H s->RelV x v->r x H Q ->
  wpAny (model X.prog X.w) X.A (f v) (EP X zj σ Q) X.xe s
def VP (X:Cx) (f:zc) (r:List V->Hp->VK->Prop):Prop:=
 ∀(zj:List (zm×Obj)) (s:zp) (σ:St) (H:Hp) (xs:List V) (us:List zc) (Q:VK),Inv X zj σ H s->Vals xs us->r xs H Q ->
  wpAny (model X.prog X.w) X.A (call f us) (EP X zj σ Q) X.xe s
def zx5 (X:Cx) (r:V->Hp->(Bool->Hp->Prop)->Prop):Prop:=
 ∀(zj:List (zm×Obj)) (s:zp) (σ:St) (H:Hp) (x:V) (v:zc) (Q:Bool->Hp->Prop),Inv X zj σ H s->RelV x v->r x H Q ->
  wpAny (model X.prog X.w) X.A (truthy v) (TP X zj σ Q) X.xe s
def tOp (r:R2) (ta tb:TE):TE:=fun σ H Q=>ta σ H fun x H1=>tb σ H1 fun y H2=>r x y H2 Q
def tUn (r:V->Hp->VK->Prop) (ta:TE):TE:=fun σ H Q=>ta σ H fun x H1=>r x H1 Q
def rI (C:Int->Int->Prop) (g:Int->Int->V):R2:=fun x y H Q=>∃i j,x=.int i/\y=.int j/\C i j/\Q (g i j) H
def rI0 (g:Int->Int->V):R2:=fun x y H Q=>∃i j,x=.int i/\y=.int j/\Q (g i j) H
def rU (g:Int->V):V->Hp->VK->Prop:=fun x H Q=>∃i,x=.int i/\Q (g i) H
section
variable {X:Cx}{a b c:jD}{ta tb tc:TE}{pos:Pos}
theorem zqJ (ha:PE X a ta) (hb:PE X b tb){zj:List (zm×Obj)}{s:zp}{σ:St}{H:Hp}{R:V->V->Hp->Prop} (I:Inv X zj σ H s)
  (h:ta σ H fun x H1=>tb σ H1 fun y H2=>R x y H2){Q:zc->zp->Prop}{f:zc->zc->Sem zc}
  (hf:∀v u s2 x y H2,Inv X zj σ H2 s2->RelV x v->RelV y u->R x y H2->wpAny (model X.prog X.w) X.A (f v u) Q X.xe s2) :
  wpAny (model X.prog X.w) X.A (eval a X.env) (fun v s₁=>wpAny (model X.prog X.w) X.A (eval b X.env) (fun u s₂=>wpAny (model X.prog X.w) X.A (f v u) Q X.xe s₂) X.xe s₁) X.xe s:=by
 refine thn (ha zj s σ H _ I h) fun v s1 ⟨x,H1,I1,r1,q1⟩=>?_;refine thn (hb zj s1 σ H1 _ I1 q1) fun u s2 ⟨y,H2,I2,r2,q2⟩=>?_;exact hf v u s2 x y H2 I2 r1 r2 q2
theorem jc {op:Operator}{r:R2} (ho:OpR X (binaryOp op) r) (ha:PE X a ta) (hb:PE X b tb):PE X (.BinOp a op b pos) (tOp r ta tb):=by
 intro zj s σ H Q I h;exact wpAny_BinOp (zqJ ha hb I h fun v u s2 x y H2 I2 rx ry q=>ho zj s2 σ H2 x y v u Q I2 rx ry q)
theorem zlN {op:UnaryOp}{r:V->Hp->VK->Prop} (ho:UnR X (unaryOp op) r) (ha:PE X a ta):PE X (.UnaryOp op a pos) (tUn r ta):=by
 intro zj s σ H Q I h;exact UnaryOp_ (thn (ha zj s σ H _ I h) fun v s1 ⟨x,H1,I1,r1,q1⟩=>ho zj s1 σ H1 x v Q I1 r1 q1)
theorem opI {f:zc->zc->Sem zc}{C:Int->Int->Prop}{g:Int->Int->Int}
  (rule:∀(i j:Int) (t u:Tok) (s:zp) (Q:zc->zp->Prop) (E:zc->zp->Prop),C i j->Q (.int (g i j) s.toks) { s with toks:=s.toks+1 }->wpAny (model X.prog X.w) X.A (f (.int i t) (.int j u)) Q E s) :
  OpR X f (rI C fun i j=>.int (g i j)):=by
 intro zj s σ H x y v u Q I rx ry h;obtain⟨i,j,rfl,rfl,hc,q⟩:=h;obtain⟨t,rfl⟩:=rx;obtain⟨t',rfl⟩:=ry;exact rule i j t t' s _ _ hc ⟨.int (g i j),H,I.tok _,⟨_,rfl⟩,q⟩
theorem zwK {f:zc->zc->Sem zc}{g:Int->Int->Int}
  (rule:∀(i j:Int) (t u:Tok) (s:zp) (Q:zc->zp->Prop) (E:zc->zp->Prop),Q (.int (g i j) s.toks) { s with toks:=s.toks+1 }->wpAny (model X.prog X.w) X.A (f (.int i t) (.int j u)) Q E s) :
  OpR X f (rI0 fun i j=>.int (g i j)):=by
 intro zj s σ H x y v u Q I rx ry h;obtain⟨i,j,rfl,rfl,q⟩:=h;obtain⟨t,rfl⟩:=rx;obtain⟨t',rfl⟩:=ry;exact rule i j t t' s _ _ ⟨.int (g i j),H,I.tok _,⟨_,rfl⟩,q⟩
theorem zoy {f:zc->zc->Sem zc}{g:Int->Int->Bool}
  (rule:∀(i j:Int) (t u:Tok) (s:zp) (Q:zc->zp->Prop) (E:zc->zp->Prop),Q (.bool (g i j)) s->wpAny (model X.prog X.w) X.A (f (.int i t) (.int j u)) Q E s) :
  OpR X f (rI0 fun i j=>.bl (g i j)):=by
 intro zj s σ H x y v u Q I rx ry h;obtain⟨i,j,rfl,rfl,q⟩:=h;obtain⟨t,rfl⟩:=rx;obtain⟨t',rfl⟩:=ry;exact rule i j t t' s _ _ ⟨.bl (g i j),H,I,rfl,q⟩
def znT (i j:Int):Prop:=0<=j/\j<=1000000/\i.natAbs<2 ^ 64
theorem zrh:OpR X (binaryOp .Add) (rI0 fun i j=>.int (i+j)):=zwK fun _ _ _ _ _ _ _ q=>add_int q
theorem zrm:OpR X (binaryOp .Sub) (rI0 fun i j=>.int (i-j)):=zwK fun _ _ _ _ _ _ _ q=>sub_int q
theorem zri:OpR X (binaryOp .Mod) (rI (fun _ j=>0<j) fun i j=>.int (i % j)):=opI fun i j _ _ _ _ _ hc q=>by
 have h1:(0:Int)<j:=hc;exact mod_int' (by omega) (by rw[Int.fmod_eq_emod_of_nonneg i (by omega)];exact q)
theorem zrj:OpR X (binaryOp .Pow) (rI znT fun i j=>.int (i ^ j.toNat)):=opI fun _ _ _ _ _ _ _ hc q=>pow_int_small hc.1 hc.2.1 hc.2.2 q
theorem zrl:OpR X (binaryOp .LShift) (rI znT fun i j=>.int (i*2 ^ j.toNat)):=opI fun _ _ _ _ _ _ _ hc q=>lshift_int_small hc.1 hc.2.1 hc.2.2 q
theorem unI {f:zc->Sem zc}{g:Int->Int}
  (rule:∀(i:Int) (t:Tok) (s:zp) (Q:zc->zp->Prop) (E:zc->zp->Prop),Q (.int (g i) s.toks) { s with toks:=s.toks+1 }->wpAny (model X.prog X.w) X.A (f (.int i t)) Q E s) :
  UnR X f (rU fun i=>.int (g i)):=by
 intro zj s σ H x v Q I rx h;obtain⟨i,rfl,q⟩:=h;obtain⟨t,rfl⟩:=rx;exact rule i t s _ _ ⟨.int (g i),H,I.tok _,⟨_,rfl⟩,q⟩
theorem zf5:UnR X (unaryOp .USub) (rU fun i=>.int (-i)):=unI fun _ _ _ _ _ q=>neg_int q
end
def zw9:V->V->Bool
 | .non,.non=>true | .non,.int _=>true | .int _,.non=>true | .non,.bl _=>true | .bl _,.non=>true | .non,.str _=>true | .str _,.non=>true
 | .int _,.int _=>true | .bl _,.bl _=>true | .str _,.str _=>true | .byt _,.byt _=>true
 | .int _,.str _=>true | .str _,.int _=>true | .bl _,.str _=>true | .str _,.bl _=>true
 | _,_=>false
def rEq:R2:=fun x y H Q=>zw9 x y=true/\Q (.bl (decide (x=y))) H
def rNe:R2:=fun x y H Q=>zw9 x y=true/\Q (.bl (!decide (x=y))) H
theorem zg7 {i j:Int}:decide (V.int i=V.int j)=(i == j):=by
 rw[Jc];simp
theorem zkX {i j:Bool}:decide (V.bl i=V.bl j)=(i == j):=by
 rw[Jc];simp
theorem zg8 {i j:Str}:decide (V.str i=V.str j)=(i == j):=by
 rw[Jc];simp
theorem zg6 {i j:Array UInt8}:decide (V.byt i=V.byt j)=(i.toList == j.toList):=by
 rw[Jc];cases i;cases j;simp
section
variable {X:Cx}{a b c:jD}{ta tb tc:TE}{pos:Pos}
theorem ww {zj:List (zm×Obj)}{σ:St}{H:Hp}{s:zp}{Q:VK} {k k':Bool} (I:Inv X zj σ H s) (q:Q (.bl k) H) (e:k=k'):EP X zj σ Q (.bool k') s:=by
 subst e;exact⟨.bl k,H,I,rfl,q⟩
theorem nQ:OpR X (compareOp .Eq) rEq:=by
 intro zj s σ H x y v u Q I rx ry h;obtain⟨hs,q⟩:=h;cases x with
 | non=>
  cases rx;cases y with
  | non=>cases ry;exact NQ (ww I q (by simp))
  | bl j=>cases ry;exact NP (ww I q (by simp))
  | int j=>obtain⟨t',rfl⟩:=ry;exact Ss (ww I q (by simp))
  | str j=>obtain⟨t',rfl⟩:=ry;exact Su (ww I q (by simp))
  | _=>exact absurd (show false=true from hs) qI
 | bl i=>
  cases rx;cases y with
  | non=>cases ry;exact NK (ww I q (by simp))
  | bl j=>cases ry;exact eq_bool (ww I q zkX)
  | str j=>obtain⟨t',rfl⟩:=ry;exact Nx (ww I q (by simp))
  | _=>exact absurd (show false=true from hs) qI
 | int i=>
  obtain⟨t,rfl⟩:=rx;cases y with
  | non=>cases ry;exact Sq (ww I q (by simp))
  | int j=>obtain⟨t',rfl⟩:=ry;exact eq_int (ww I q zg7)
  | str j=>obtain⟨t',rfl⟩:=ry;exact R9 (ww I q (by simp))
  | _=>exact absurd (show false=true from hs) qI
 | str i=>
  obtain⟨t,rfl⟩:=rx;cases y with
  | non=>cases ry;exact Sv (ww I q (by simp))
  | bl j=>cases ry;exact Ny (ww I q (by simp))
  | int j=>obtain⟨t',rfl⟩:=ry;exact Sd (ww I q (by simp))
  | str j=>obtain⟨t',rfl⟩:=ry;exact eq_str (ww I q zg8)
  | _=>exact absurd (show false=true from hs) qI
 | byt i=>
  obtain⟨t,rfl⟩:=rx;cases y with
  | byt j=>obtain⟨t',rfl⟩:=ry;exact W.eq_bytes (ww I q zg6)
  | _=>exact absurd (show false=true from hs) qI
 | _=>cases y <;> exact absurd (show false=true from hs) qI
theorem zlI:OpR X (compareOp .NotEq) rNe:=by
 intro zj s σ H x y v u Q I rx ry h;obtain⟨hs,q⟩:=h;cases x with
 | non=>
  cases rx;cases y with
  | non=>cases ry;exact N6 (ww I q (by simp))
  | bl j=>cases ry;exact N5 (ww I q (by simp))
  | int j=>obtain⟨t',rfl⟩:=ry;exact Sx (ww I q (by simp))
  | str j=>obtain⟨t',rfl⟩:=ry;exact Sy (ww I q (by simp))
  | _=>exact absurd (show false=true from hs) qI
 | bl i=>
  cases rx;cases y with
  | non=>cases ry;exact NZ (ww I q (by simp))
  | bl j=>cases ry;exact ne_bool (ww I q (congrArg not zkX))
  | str j=>obtain⟨t',rfl⟩:=ry;exact Nz (ww I q (by simp))
  | _=>exact absurd (show false=true from hs) qI
 | int i=>
  obtain⟨t,rfl⟩:=rx;cases y with
  | non=>cases ry;exact Sw (ww I q (by simp))
  | int j=>obtain⟨t',rfl⟩:=ry;exact ne_int (ww I q (congrArg not zg7))
  | str j=>obtain⟨t',rfl⟩:=ry;exact Sg (ww I q (by simp))
  | _=>exact absurd (show false=true from hs) qI
 | str i=>
  obtain⟨t,rfl⟩:=rx;cases y with
  | non=>cases ry;exact SJ (ww I q (by simp))
  | bl j=>cases ry;exact NB (ww I q (by simp))
  | int j=>obtain⟨t',rfl⟩:=ry;exact Sh (ww I q (by simp))
  | str j=>obtain⟨t',rfl⟩:=ry;exact ne_str (ww I q (congrArg not zg8))
  | _=>exact absurd (show false=true from hs) qI
 | byt i=>
  obtain⟨t,rfl⟩:=rx;cases y with
  | byt j=>obtain⟨t',rfl⟩:=ry;exact W.ne_bytes (ww I q (congrArg not zg6))
  | _=>exact absurd (show false=true from hs) qI
 | _=>cases y <;> exact absurd (show false=true from hs) qI
theorem zwO:OpR X (compareOp .Lt) (rI0 fun i j=>.bl (decide (i<j))):=zoy fun _ _ _ _ _ _ _ q=>lt_int q
theorem zwN:OpR X (compareOp .LtE) (rI0 fun i j=>.bl (decide (i<=j))):=zoy fun _ _ _ _ _ _ _ q=>le_int q
theorem zwM:OpR X (compareOp .Gt) (rI0 fun i j=>.bl (decide (j<i))):=zoy fun _ _ _ _ _ _ _ q=>gt_int q
theorem zwL:OpR X (compareOp .GtE) (rI0 fun i j=>.bl (decide (j<=i))):=zoy fun _ _ _ _ _ _ _ q=>ge_int q
theorem zi5:OpR X (compareOp .In) (fun x y H Q=>∃i j,x=.str i/\y=.str j/\Q (.bl (!(jB j i 0 j.length 1).isEmpty)) H):=by
 intro zj s σ H x y v u Q I rx ry h;obtain⟨i,j,rfl,rfl,q⟩:=h;obtain⟨t,rfl⟩:=rx;obtain⟨t',rfl⟩:=ry;exact in_str (ww I q rfl)
theorem zaQ:OpR X (compareOp .Is) (fun x y H Q=>y=.non/\Q (.bl (decide (x=.non))) H):=by
 intro zj s σ H x y v u Q I rx ry h;obtain⟨rfl,q⟩:=h;cases ry;refine is_none_gen (ww I q ?_);cases x <;> first
  | (cases rx;rfl)
  | (obtain⟨t,rfl⟩:=rx;rfl)
theorem zaR:OpR X (compareOp .IsNot) (fun x y H Q=>y=.non/\Q (.bl (!decide (x=.non))) H):=by
 intro zj s σ H x y v u Q I rx ry h;obtain⟨rfl,q⟩:=h;cases ry;refine isnot_none_gen (ww I q ?_);cases x <;> first
  | (cases rx;rfl)
  | (obtain⟨t,rfl⟩:=rx;rfl)
theorem qZ (b:jD){op:Mm} (h:op≠.In:=by decide) (h2:op≠.NotIn:=by decide):behindInMarks op b=false:=by
 have e1:(op == CmpOp.In)=false:=by cases op <;> first | rfl | exact absurd rfl h
 have e2:(op == CmpOp.NotIn)=false:=by cases op <;> first | rfl | exact absurd rfl h2
 cases b <;> simp[behindInMarks,e1,e2]
theorem G3 {op:Mm}{r:R2} (ho:OpR X (compareOp op) r) (ha:PE X a ta) (hb:PE X b tb) (hm:behindInMarks op b=false):PE X (.Compare a [op] [b] pos) (tOp r ta tb):=by
 intro zj s σ H Q I h;exact wpAny_Compare1 (zqJ ha hb I h fun v u s2 x y H2 I2 rx ry q=>ho zj s2 σ H2 x y v u Q I2 rx ry q) hm
def zp2 (t:TE):TT:=fun σ H Q=>t σ H fun x H'=>∃k,x=.bl k/\Q k H'
theorem jh {op:Mm}{r:R2} (ho:OpR X (compareOp op) r) (ha:PE X a ta) (hb:PE X b tb) (hm:behindInMarks op b=false):PT X (.Compare a [op] [b] pos) (zp2 (tOp r ta tb)):=by
 intro zj s σ H Q I h;refine mG (thn (ha zj s σ H _ I h) fun v s1 ⟨x,H1,I1,r1,q1⟩=>thn (hb zj s1 σ H1 _ I1 q1) fun u s2 ⟨y,H2,I2,r2,q2⟩=>
  thn (ho zj s2 σ H2 x y v u _ I2 r1 r2 q2) fun c s3 ⟨z,H3,I3,r3,k,e,q3⟩=>?_) hm
 subst e;cases r3;exact yg ⟨H3,I3,q3⟩
def zrH (r r':R2) (ta tb tc:TE):TE:=fun σ H Q=>ta σ H fun x H1=>tb σ H1 fun y H2=>r x y H2 fun z H3=>∃k,z=.bl k /\
 (if k=true then tc σ H3 fun w' H4=>r' y w' H4 Q else Q (.bl false) H3)
theorem zlK {op op':Mm} {r r':R2} (ho:OpR X (compareOp op) r) (ho':OpR X (compareOp op') r') (ha:PE X a ta) (hb:PE X b tb) (hc:PE X c tc)
  (hm:lastMarks [op,op'] [b,c]=false:=by with_unfolding_all rfl):PE X (.Compare a [op,op'] [b,c] pos) (zrH r r' ta tb tc):=by
 intro zj s σ H Q I h;refine Compare_chain (thn (ha zj s σ H _ I h) fun v s1 ⟨x,H1,I1,r1,q1⟩=>chain_link (thn (hb zj s1 σ H1 _ I1 q1) fun u s2 ⟨y,H2,I2,r2,q2⟩=>
  thn (ho zj s2 σ H2 x y v u _ I2 r1 r2 q2) fun d s3 ⟨z,H3,I3,r3,k,e,q3⟩=>?_)) hm
 subst e;cases r3;refine yg ?_;cases k with
 | false=>exact ite_ff ⟨.bl false,H3,I3,rfl,q3⟩
 | true=>exact ite_tt (chain_last (thn (hc zj s3 σ H3 _ I3 q3) fun w' s4 ⟨z',H4,I4,r4,q4⟩=>ho' zj s4 σ H4 y z' u w' Q I4 r2 r4 q4))
def zsG (K:zg) (x:V) (H:Hp) (k:Bool):Prop:=
 match x with
 | .non=>k=false
 | .bl b=>k=b
 | .int i=>k=(i != 0)
 | .str y=>y.length<=sizeLine/\k=((y.length:Int) != 0)
 | .byt y=>y.size<=sizeLine/\k=((y.size:Int) != 0)
 | .ref p=>(∃xs,SqL K H p xs/\k=!xs.isEmpty)∨(∃xs,SqT K H p xs/\k=!xs.isEmpty)∨∃kvs,H p=some (.dK kvs)/\k=!kvs.isEmpty
 | _=>False
theorem zfr {κ:Type}{kvs:List (κ×V)}{vs:List (κ×zc)} (r:KV kvs vs):(!vs.isEmpty)=!kvs.isEmpty:=by
 cases r <;> rfl
theorem Ia {xs:List V}{its:List zc} (r:Vals xs its):(!its.toArray.isEmpty)=!xs.isEmpty:=by
 cases r <;> simp
theorem uh:(sizeLine:Nat)<2 ^ 63:=by rw[qC];decide
theorem zrO:zx5 X (fun x H Q=>∃k,zsG X.K x H k/\Q k H):=by
 intro zj s σ H x v Q I rx h;obtain⟨k,e,q⟩:=h;have hl:=uh;have hs:sizeLine=16777216:=qC;cases x with
 | non=>
  cases rx;have e':k=false:=e;subst e';exact truthy_none ⟨H,I,q⟩
 | bl b=>
  cases rx;have e':k=b:=e;subst e';exact yg ⟨H,I,q⟩
 | int i=>
  obtain⟨t,rfl⟩:=rx;have e':k=(i != 0):=e;subst e';exact PySem.P.truthy_int ⟨H,I,q⟩
 | str y=>
  obtain⟨t,rfl⟩:=rx;obtain⟨hy,e'⟩:y.length<=sizeLine/\k=((y.length:Int) != 0):=e;subst e';exact PySem.P.truthy_str (by omega) ⟨H,I.tok _,q⟩
 | byt y=>
  obtain⟨t,rfl⟩:=rx;obtain⟨hy,e'⟩:y.size<=sizeLine/\k=((y.size:Int) != 0):=e;subst e';exact W.truthy_bytes (by omega) ⟨H,I.tok _,q⟩
 | ref p=>
  cases rx;have e':(∃xs,SqL X.K H p xs/\k=!xs.isEmpty)∨(∃xs,SqT X.K H p xs/\k=!xs.isEmpty)∨∃kvs,H p=some (.dK kvs)/\k=!kvs.isEmpty:=e;rcases e' with ⟨xs,hx,e'⟩ | ⟨xs,hx,e'⟩ | ⟨kvs,hx,e'⟩
  .subst e';obtain⟨its,r,pl,hz⟩:=I.list hx;have hlen:=r.length;exact wpAny_truthy_list pl.isList (by simp only[z7];omega) ⟨H,I.tok _,by rw[Ia r];exact q⟩
  .subst e';obtain⟨its,r,pl,hz⟩:=I.tuple hx;have hlen:=r.length;exact truthy_tuple pl (by simp only[z7];omega) ⟨H,I.tok _,by rw[Ia r];exact q⟩
  .subst e';obtain⟨hz,hS,vs,⟨r,_⟩,m⟩:kvs.length<=sizeLine/\(p == sysModules)=false/\∃vs,(KV kvs vs/\NZK s.heap p)/\s.heap.DictOf (xF X.prog X.w) p vs:=I.hok p _ hx;have hlen:kvs.length=vs.length:=fC r;exact wpAny_truthy_dict hS m (by omega) ⟨H,I.tok _,by rw[zfr r];exact q⟩
 | _=>exact(show False from e).elim
theorem zlR (ha:PE X a ta) (he:∀whole,isTrue a X.env whole=(do let v <- whole;standAt a.pos;holding [v] (truthy v))) :
  PT X a (fun σ H Q=>ta σ H fun x H'=>∃k,zsG X.K x H' k/\Q k H'):=by
 intro zj s σ H Q I h;exact isTrue_plain (thn (ha zj s σ H _ I h) fun v s1 ⟨x,H1,I1,r1,q1⟩=>zrO zj s1 σ H1 x v Q I1 r1 q1) (he _)
theorem zln {i j:Str}{t u:NT}{s:zp}{Q:zc->zp->Prop} (h0:0<s.toks) (hz:i.length+j.length<=sizeLine) (h:∀(n:NT) k,0<k->Q (.str (i++j) n.1) { s with toks:=k }) :
  (if i.length == 0 then zdN (.str j u.1) else if j.length == 0 then zdN (.str i t.1) else Made.str (i++j)).post Q s:=by
 split
 .rename_i e;have e':i.length=0:=by simpa using e
  have:i++j=j:=by
   obtain⟨a⟩:=i;obtain⟨b⟩:=j;have e2:a=#[]:=W3 e';subst e2;show Str.mk (#[]++b)=_;simp
  have q:=h u s.toks h0;rw[this] at q;exact q
 .split
  .rename_i e;have e':j.length=0:=by simpa using e
   have:i++j=i:=by
    obtain⟨a⟩:=i;obtain⟨b⟩:=j;have e2:b=#[]:=W3 e';subst e2;show Str.mk (a++#[])=_;simp
   have q:=h t s.toks h0;rw[this] at q;exact q
  .exact⟨by show (i++j).length<=_;rw[Str.length_append];exact hz,h ⟨_,Nat.pos_iff_ne_zero.mp h0⟩ _ (jJ _)⟩
theorem vG:OpR X (binaryOp .Add) (fun x y H Q=>∃i j,x=.str i/\y=.str j/\i.length+j.length<=sizeLine/\Q (.str (i++j)) H):=by
 intro zj s σ H x y v u Q I rx ry h;obtain⟨i,j,rfl,rfl,hz,q⟩:=h;obtain⟨t,rfl⟩:=rx;obtain⟨t',rfl⟩:=ry;exact PySem.P.add_str (zln I.tk hz fun n k hk=>⟨.str (i++j),H,I.tok _,⟨n,rfl⟩,q⟩)
theorem vals1 {x:V}{us:List zc} (r:Vals [x] us):∃u,us=[u]/\RelV x u:=by
 cases r with
 | cons r1 r2=>cases r2;exact⟨_,rfl,r1⟩
theorem vals2 {x y:V}{us:List zc} (r:Vals [x,y] us):∃u w',us=[u,w']/\RelV x u/\RelV y w':=by
 cases r with
 | cons r1 r2=>
  cases r2 with
  | cons r3 r4=>cases r4;exact⟨_,_,rfl,r1,r3⟩
theorem zix (hc:X.calm=true):VP X (.builtin "max") (fun xs H Q=>∃i j,xs=[.int i,.int j]/\Q (.int (if j > i then j else i)) H):=by
 intro zj s σ H xs us Q I r h;obtain⟨i,j,rfl,q⟩:=h;obtain⟨u,w',rfl,⟨t,rfl⟩,⟨t',rfl⟩⟩:=vals2 r;refine Ja <| max_two_ints (I.ok.hd hc) fun h' tk k (htk:s.toks<=tk)=>⟨_,H,I.kept k,?_,q⟩;by_cases hj:j > i
 .rw[if_pos hj,if_pos hj];exact⟨_,rfl⟩
 .rw[if_neg hj,if_neg hj];exact⟨_,rfl⟩
theorem ziy (hc:X.calm=true):VP X (.builtin "min") (fun xs H Q=>∃i j,xs=[.int i,.int j]/\Q (.int (if j<i then j else i)) H):=by
 intro zj s σ H xs us Q I r h;obtain⟨i,j,rfl,q⟩:=h;obtain⟨u,w',rfl,⟨t,rfl⟩,⟨t',rfl⟩⟩:=vals2 r;refine Ja <| min_two_ints (I.ok.hd hc) fun h' tk k (htk:s.toks<=tk)=>⟨_,H,I.kept k,?_,q⟩;by_cases hj:j<i
 .rw[if_pos hj,if_pos hj];exact⟨_,rfl⟩
 .rw[if_neg hj,if_neg hj];exact⟨_,rfl⟩
theorem TJ:VP X (.type "int") (fun xs H Q=>(∃i,xs=[.int i]/\Q (.int i) H)∨∃k,xs=[.bl k]/\Q (.int (if k then 1 else 0)) H):=by
 intro zj s σ H xs us Q I r h;rcases h with ⟨i,rfl,q⟩ | ⟨k,rfl,q⟩
 .obtain⟨u,rfl,t,rfl⟩:=vals1 r;exact call_int_int ⟨.int i,H,I,⟨_,rfl⟩,q⟩
 .obtain⟨u,rfl,r1⟩:=vals1 r;cases r1;exact call_int_bool ⟨.int (if k then 1 else 0),H,I.tok _,⟨_,rfl⟩,q⟩
theorem j7:VP X (.type "str") (fun xs H Q=>∃i,xs=[.int i]/\i.natAbs.log2<1920/\Q (.str (toString i)) H):=by
 intro zj s σ H xs us Q I r h;obtain⟨i,rfl,hz,q⟩:=h;obtain⟨u,rfl,t,rfl⟩:=vals1 r;exact uN hz ⟨.str _,H,I.tok _,⟨⟨_,I.nz⟩,rfl⟩,q⟩
end
structure ze9 (h:jW) (x dx C:zm) (mA:Str->Option zc):Prop where
 obj:h.get? x=some (Zc C dx)
 ns:h.Ns1 dx mA
 ne:dx≠x
theorem ziQ {h:jW}{dx:zm}{mA:Str->Option zc} (n:h.Ns1 dx mA):∃od,h.get? dx=some od/\∀name,cI name od=some (mA name):=by
 obtain⟨o,es,ep,ho,hd,hk,_,hm⟩:=n;refine⟨o,ho,fun name=>?_⟩;have e:=hm name;unfold nsFind findBy at e;rw[<- Array.find?_toList] at e;unfold cI;rw[hd];dsimp only;split
 .rename_i y q;rw[q] at e;exact congrArg some e
 .rename_i q;rw[q] at e;have a:es.toList.any (·.refKey)=false:=by
   rw[List.any_eq_false];intro y hy;obtain⟨z,t,hkey⟩:=hk y (Array.mem_toList_iff.mp hy);simp[DictEntry.refKey,hkey]
  have a':¬es.toList.any (·.refKey)=true:=by rw[a];exact qI
  rw[if_neg a'];exact congrArg some e
theorem ze9.look {h:jW}{x dx C:zm}{mA:Str->Option zc} (I:ze9 h x dx C mA):∃od,W.InstAt h x (Zc C dx) C (some od)/\∀name,cI name od=some (mA name):=
 let ⟨od,ho,hl⟩:=ziQ I.ns
 ⟨od,⟨I.obj,rfl,rfl,ho⟩,hl⟩
section
variable {prog:qz}{w:jd}{A:jg}{E:zc->zp->Prop}{s:zp}{K:zg}{x dx C f:zm}{mA:Str->Option zc}{name:Str}{v:zc}
theorem zn9 {expr:Bool}{Q:zc->zp->Prop} (X:K.In s.heap) (I:ze9 s.heap x dx C mA) (hg:QD K C name=true) (hh:JF K C=true)
  (ha:qL K (.ref C) name=some none) (hv:mA name=some v) (hv':Et v=true) (h:Q v { s with toks:=s.toks+1 }) :
  wpAny (model prog w) A (getAttr (.ref x) name expr) Q E s:=by
 obtain⟨od,J,hl⟩:=I.look;exact W.get_value X J (aN hg).1 (W.findObj_own hh ha rfl (by rw[hl,hv])) hv' h
theorem zk7 {pl:Sem Bool}{Q:zc×List zc->zp->Prop} (X:K.In s.heap) (I:ze9 s.heap x dx C mA) (hg:QD K C name=true)
  (hf:qL K (.ref C) name=some (some (.ref f))) (ht:yN K (.ref f)=true) (hv:mA name=none) (h:Q (.ref f,[.ref x]) s) :
  wpAny (model prog w) A (getMethod (.ref x) name pl) Q E s:=by
 obtain⟨od,J,hl⟩:=I.look;exact W.method_fn X J (aN hg).1 (aN hg).2 hf (beq_iff_eq.mp ht) (by show (cI name od).map (·.isSome)=some false;rw[hl,hv];rfl) h
theorem zoJ {ns:List Str}{Q:Unit->zp->Prop} (X:K.In s.heap) (I:ze9 s.heap x dx C mA)
  (hs:qL K (.ref C) "__setattr__"=some (some (.builtin "object.__setattr__"))) (hp:Wk K C=true) (ht:lW K C name=some none) (hh:JF K C=true)
  (hw:Cq mA ns) (hsz:ns.length<=sizeLine)
  (h:∀h',ze9 h' x dx C (fun y=>if y=name then some v else mA y)->wL dx s.heap h'->Q () { s with heap:=h',toks:=s.toks+2 }) :
  wpAny (model prog w) A (setAttr (.ref x) name v) Q E s:=by
 obtain⟨od,J,hl⟩:=I.look;refine W.set_plain X J hs (W.osa_open (s:={ s with toks:=s.toks+1 }) (r:=none) X J hp ht fun b=>?_);obtain⟨cd,hc,hd'⟩:=W.any_some hh;have hx:s.heap.get? x=some ⟨.ref C,some dx,.plain,#[]⟩:=I.obj;refine zr (qj (zr (zr (Nk hx (zr (zgr (s:={ s with toks:=s.toks+1 }) (W.looks_clsIn X hc) ?_))))));rw[hd'];refine qj (a:=some dx) (zr (qj (zr ?_)));refine wpAny_nsSet1 (s:={ s with toks:=s.toks+1 }) I.ns fun h' hn2 hs2=>?_;obtain⟨oD,esD,epD,hoD,hdD,hcD⟩:=hn2.count (zia name v hw);refine zr (wpAny_lookBehind hoD (by rw[hdD];exact pastItsLine_dict (qd hcD (by rw[qx];omega))) ?_);exact qj (h _ ⟨(hs2.2 _ (Xy I.ne)).trans I.obj,hn2,I.ne⟩ hs2)
theorem zlo {R:uZ->zp->Prop}{vs:List zc}{kw:List (Str×zc)} (X:K.In s.heap) (hm:aG K C=true)
  (hi:qL K (.ref C) "__init__"=some (some (.ref f))) (hf:W.typeIn K (.ref f)=some (.type "function"))
  (h:codeAny (model prog w) (A.under (.builtin "type.__call__" ⟨.ref C::vs,kw⟩)) (.call (.ref f) ⟨.ref (s.heap.objs.size+1)::vs,kw⟩) (W.InitBack (s.heap.objs.size+1) R)
   { s with heap:=(s.heap.push wG).push (Zc C s.heap.objs.size) }) :
  codeAny (model prog w) A (.call (.ref C) ⟨vs,kw⟩) R s:=by
 obtain⟨hh,g,d,t,os⟩:=s;exact W.make_core (W.makes_of X hm) (W.looks_findIn X hi) (fun self=>W.bind_fn X self hf) (.inl rfl) h
end
noncomputable def eY (f:Str) (v:V):List (Str×V)->List (Str×V)
 | []=>[(f,v)]
 | (g,x)::r=>if g=f then (g,v)::r else (g,x)::eY f v r
theorem Ff (f g:Str) (v:V):∀fs:List (Str×V),(eY f v fs).lookup g=if g=f then some v else fs.lookup g
 | []=>by
  show Z6 g [(f,v)]=_;by_cases h:g=f
  .have hb:(g == f)=true:=beq_iff_eq.mpr h;simp only[Z6,hb,if_pos h]
  .have hb:(g == f)=false:=beq_eq_false_iff_ne.mpr h;simp only[Z6,hb,if_neg h]
 | (k,x)::r=>by
  have ih:=Ff f g v r;rw[show eY f v ((k,x)::r)=(if k=f then (k,v)::r else (k,x)::eY f v r) from rfl];by_cases hk:k=f
  .rw[if_pos hk];by_cases h:g=k
   .have hb:(g == k)=true:=beq_iff_eq.mpr h;simp only[Z6,hb,if_pos (h.trans hk)]
   .have hb:(g == k)=false:=beq_eq_false_iff_ne.mpr h;simp only[Z6,hb,if_neg (fun e:g=f=>h (e.trans hk.symm))]
  .rw[if_neg hk];by_cases h:g=k
   .have hb:(g == k)=true:=beq_iff_eq.mpr h;simp only[Z6,hb,if_neg (fun e:g=f=>hk (h.symm.trans e))]
   .have hb:(g == k)=false:=beq_eq_false_iff_ne.mpr h;simp only[Z6,hb];exact ih
theorem Dn (f:Str) (v:V):∀fs:List (Str×V),f∈(eY f v fs).map (·.1)/\∀g,g∈fs.map (·.1)->g∈(eY f v fs).map (·.1)
 | []=>⟨by simp[eY],fun g h=>by simp at h⟩
 | (k,x)::r=>by
  obtain⟨i1,i2⟩:=Dn f v r;rw[show eY f v ((k,x)::r)=(if k=f then (k,v)::r else (k,x)::eY f v r) from rfl];by_cases hk:k=f
  .rw[if_pos hk];subst hk;exact⟨by simp,fun g h=>by simpa using h⟩
  .rw[if_neg hk];refine⟨?_,fun g h=>?_⟩
   .rw[zY];exact zG _ i1
   .rw[zY] at h ⊢;rcases List.mem_cons.mp h with e | e
    .exact List.mem_cons.mpr (.inl e)
    .exact zG _ (i2 g e)
theorem Fe (f:Str) (v:V):∀fs:List (Str×V),(eY f v fs).length<=fs.length+1
 | []=>by simp[eY]
 | (k,x)::r=>by
  have ih:=Fe f v r;rw[show eY f v ((k,x)::r)=(if k=f then (k,v)::r else (k,x)::eY f v r) from rfl];by_cases hk:k=f
  .rw[if_pos hk,qx,qx];omega
  .rw[if_neg hk,qx,qx];omega
theorem mj.some_of {v:V}{o:Option zc} (r:mj (some v) o):∃u,o=some u/\RelV v u:=by
 cases o with
 | none=>exact(show False from r).elim
 | some u=>exact⟨u,rfl,r⟩
theorem mj.none_of {o:Option zc} (r:mj none o):o=none:=by
 cases o with
 | none=>rfl
 | some u=>exact(show False from r).elim
theorem ziK {v:V}{u:zc} (r:RelV v u):Et u=true:=by
 cases v with
 | non=>cases (show u=W8 from r);rfl
 | bl b=>cases (show u=lB b from r);rfl
 | int i=>obtain⟨t,e⟩:=(show ∃t,u=bA i t from r);cases e;rfl
 | str x=>obtain⟨t,e⟩:=(show ∃t:NT,u=V8 x t.1 from r);cases e;rfl
 | byt b=>obtain⟨t,e⟩:=(show ∃t,u=zd3 b t from r);cases e;rfl
 | flt b=>obtain⟨t,e⟩:=(show ∃t,u=Fz b t from r);cases e;rfl
 | ref a=>cases (show u=jx a from r);rfl
 | ty n=>cases (show u=Ad n from r);rfl
section
variable {P:qz}{w:jd} {H H':Hp} {h h':jW}{a C dx:zm} {fs fs':List (Str×V)}
theorem GQ (hok:HOk P w H h) (e:H a=some (.ins C dx fs)):∃mA,ze9 h a dx C mA/\(∀f,mj (fs.lookup f) (mA f))/\Cq mA (fs.map (·.1))/\fs.length<=1000/\H dx=some (.own a):=by
 obtain⟨d,z,ne,ob,mA,n,r,q⟩:=(show Zn P w H h a (.ins C dx fs) from hok a _ e);exact⟨mA,⟨ob,n,ne⟩,r,q,z,d⟩
end
structure Cls (K:zg) (C:zm):Prop where
 pg:QD K C W7=true
 hd:JF K C=true
 po:Wk K C=true
 sa:qL K (.ref C) "__setattr__"=some (some (.builtin "object.__setattr__"))
theorem Cls.get {K:zg}{C:zm} (c:Cls K C) (f:Str):QD K C f=true:=c.pg
def Jo (K:zg) (C:zm) (f:Str):Prop:=qL K (.ref C) f=some none
theorem Jo.taker {K:zg}{C:zm}{f:Str} (n:Jo K C f):lW K C f=some none:=by
 unfold lW;rw[show qL K (.ref C) f=some none from n];rfl
structure Con (K:zg) (C:zm) (f:Str) (v:V) (u:zc):Prop where
 at_:qL K (.ref C) f=some (some u)
 rel:RelV v u
 get:dI K u "__get__"=some none
 cp:W.copiedNames.contains f=false
structure Meth (K:zg) (C:zm) (m:Str) (f:zm):Prop where
 at_:qL K (.ref C) m=some (some (.ref f))
 fn:yN K (.ref f)=true
 kp:jR K (.ref f)=true
section
variable {X:Cx}{zj:List (zm×Obj)}{σ:St}{H:Hp}{s:zp}{a C dx:zm}{fs:List (Str×V)}{f:Str}{v:V}{A:jg}{E:zc->zp->Prop}
theorem zfo {b:Bool}{Q:zc->zp->Prop} (I:Inv X zj σ H s) (e:H a=some (.ins C dx fs)) (c:Cls X.K C) (n:Jo X.K C f) (l:fs.lookup f=some v)
  (h:∀u s',Inv X zj σ H s'->RelV v u->Q u s'):wpAny (model X.prog X.w) A (getAttr (.ref a) f b) Q E s:=by
 obtain⟨mA,O,r,_,_,_⟩:=GQ I.hok e;obtain⟨u,hu,ru⟩:=mj.some_of (v:=v) (o:=mA f) (by rw[<- l];exact r f);exact zn9 I.kIn O (c.get f) c.hd n hu (ziK ru) (h u _ (I.tok _) ru)
theorem zfp {m:Str}{g:zm}{pl:Sem Bool}{Q:zc×List zc->zp->Prop} (I:Inv X zj σ H s) (e:H a=some (.ins C dx fs)) (c:Cls X.K C) (k:Meth X.K C m g) (l:fs.lookup m=none)
  (h:Q (.ref g,[.ref a]) s):wpAny (model X.prog X.w) A (getMethod (.ref a) m pl) Q E s:=by
 obtain⟨mA,O,r,_,_,_⟩:=GQ I.hok e;have hn:mA m=none:=mj.none_of (by rw[<- l];exact r m);exact zk7 I.kIn O (c.get m) k.at_ k.fn hn h
theorem zfP {y:V}{u:zc}{Q:Unit->zp->Prop} (I:Inv X zj σ H s) (e:H a=some (.ins C dx fs)) (c:Cls X.K C) (n:Jo X.K C f) (hl:fs.length<1000) (ry:RelV y u)
  (h:∀s',Inv X zj σ (upd H a (.ins C dx (eY f y fs))) s'->Q () s'):wpAny (model X.prog X.w) A (setAttr (.ref a) f u) Q E s:=by
 obtain⟨mA,O,r,wi,_,ho⟩:=GQ I.hok e;have hz:(fs.map (·.1)).length<=sizeLine:=by rw[zf,qC];omega
 refine zoJ I.kIn O c.sa c.po n.taker c.hd wi hz fun h' O' sb=>h _ ?_;have hd:∃o,h'.get? dx=some o:=let ⟨o,_,_,e',_⟩:=O'.ns;⟨o,e'⟩;refine I.write (x:=a) (e:=dx) (by rw[e];exact ZJ) (.inr ho) (fun b q hb z=>(sb.2 b hb).trans z) hd ?_;refine⟨by rw[jM O.ne];exact ho,?_,O.ne,O'.obj,_,O'.ns,fun g=>?_,fun g hg=>?_⟩
 .have:=Fe f y fs;omega
 .show mj ((eY f y fs).lookup g) (if g=f then some u else mA g);rw[Ff];by_cases q:g=f
  .rw[if_pos q,if_pos q];exact ry
  .rw[if_neg q,if_neg q];exact r g
 .by_cases q:g=f
  .rw[q];exact(Dn f y fs).1
  .refine(Dn f y fs).2 g (wi g fun z=>hg ?_);show (if g=f then some u else mA g)=none;rw[if_neg q];exact z
theorem Inv.made (I:Inv X zj σ H s):Inv X zj σ (upd (upd H s.heap.objs.size (.own (s.heap.objs.size+1))) (s.heap.objs.size+1) (.ins C s.heap.objs.size []))
  { s with heap:=(s.heap.push wG).push (Zc C s.heap.objs.size) }:=by
 have e1:(s.heap.push wG).get? s.heap.objs.size=some wG:=jf s.heap rfl;have e2:((s.heap.push wG).push (Zc C s.heap.objs.size)).get? (s.heap.objs.size+1)=some (Zc C s.heap.objs.size):=by
  have:=jf (s.heap.push wG) (o:=Zc C s.heap.objs.size) rfl;rwa[oN] at this
 have e3:(s.heap.push wG).Ns s.heap.objs.size (fun _=>none):=⟨wG,#[],_,e1,rfl,(fun e he=>absurd he (by simp)),fun _=>rfl⟩;have I1:=I.laid (a:=s.heap.objs.size) (o:=.own (s.heap.objs.size+1)) (h':=s.heap.push wG) (t':=s.toks) (fun b u q=>zO _ q) (zE _) ⟨_,e1⟩;refine I1.laid (a:=s.heap.objs.size+1) (o:=.ins C s.heap.objs.size []) (t':=s.toks) (fun b u q=>zO _ q) (Ce (oN _ _)) ?_;have ne:s.heap.objs.size≠s.heap.objs.size+1:=qY (W5 _);refine⟨by rw[jM ne,zL],qX _,ne,e2,fun _=>none,(Heap.Ns1.of_empty e3).at fun o q=>zO _ q,fun _=>ZJ,fun y hy=>absurd rfl hy⟩
theorem znY {prog:qz}{w:jd}{env:Env}{e:jD}{f:Str}{pos:Pos}{s:zp}{Q:zc->zp->Prop} (hb:attributeBase e f env (eval e env)=eval e env)
  (h:wpAny (model prog w) A (eval e env) (fun o s₁=>wpAny (model prog w) A (getAttr o f true) Q E s₁) E s):wpAny (model prog w) A (eval (.Attribute e f pos) env) Q E s:=
 Attribute_any_ h (by rw[arm_eval_Attribute,hb])
end
def zyH (K:zg) (ta:TE) (f:Str):TE:=fun σ H Q=>ta σ H fun x H1=>∃a C dx fs v,x=.ref a/\H1 a=some (.ins C dx fs)/\Cls K C/\Jo K C f/\fs.lookup f=some v/\Q v H1
def zyE (K:zg) (ta tv:TE) (f:Str):TS:=fun D σ H=>tv σ H fun y H1=>ta σ H1 fun x H2=>∃a C dx fs,x=.ref a/\H2 a=some (.ins C dx fs)/\Cls K C/\Jo K C f/\fs.length<1000 /\
 D.nx σ (upd H2 a (.ins C dx (eY f y fs)))
section
variable {X:Cx}{o e value:jD}{f:Str} {pos pos' tpos:Pos}{ta tv:TE}
theorem Zh (he:PE X e ta) (hb:attributeBase e f X.env (eval e X.env)=eval e X.env):PE X (.Attribute e f pos) (zyH X.K ta f):=by
 intro zj s σ H Q I h;refine znY hb (thn (he zj s σ H _ I h) fun u s1 ⟨x,H1,I1,rx,a,C,dx,fs,v,ex,ea,c,n,l,q⟩=>?_);subst ex;obtain rfl:u=jx a:=rx;exact zfo I1 ea c n l fun u' s2 I2 ru=>⟨v,H1,I2,ru,q⟩
theorem zaW (ha:PE X o ta) (hv:PE X value tv) (hs:swapsWith value (some (.Attribute o f pos')) pos.line X.env=pure false):PS X (.Assign [.Attribute o f pos'] value pos) (zyE X.K ta tv f):=by
 intro zj s σ H D I h;refine plainObj_wpAny_Assign_Attribute (thn (hv zj s σ H _ I h) fun u s1 ⟨y,H1,I1,ry,q⟩=>thn (ha zj s1 σ H1 _ I1 q) fun ov s2 ⟨x,H2,I2,rx,a,C,dx,fs,ex,ea,c,n,l,q2⟩=>?_) hs;subst ex;obtain rfl:ov=jx a:=rx;exact zfP I2 ea c n l ry fun s3 I3=>⟨σ,_,I3,q2⟩
end
section
variable {X:Cx}{zj:List (zm×Obj)}{σ:St}{H:Hp}{s:zp}{A:jg}{E:zc->zp->Prop}{Q:zc->zp->Prop}{c:zc}{b:Bool}
inductive aa (K:zg) (H:Hp):V->zc->Prop where
 | non:aa K H .non (.type "NoneType")
 | bl (x:Bool):aa K H (.bl x) (.type "bool")
 | int (i:Int):aa K H (.int i) (.type "int")
 | str (x:Str):aa K H (.str x) (.type "str")
 | flt (x:UInt64):aa K H (.flt x) (.type "float")
 | lst {a:zm}{xs:List V} (e:H a=some (.lst xs)):aa K H (.ref a) (.type "list")
 | frz {a:zm}{o:Obj}{xs:List V} (e:H a=some (.frz o (.lst xs))):aa K H (.ref a) (.type "list")
 | tup {a:zm}{xs:List V} (e:H a=some (.tup xs)):aa K H (.ref a) (.type "tuple")
 | dK {a:zm}{kvs:List (Key×V)} (e:H a=some (.dK kvs)):aa K H (.ref a) (.type "dict")
 | dT {a:zm}{kvs:List (List Key×V)} (e:H a=some (.dT kvs)):aa K H (.ref a) (.type "dict")
 | ins {a C dx:zm}{fs:List (Str×V)} (e:H a=some (.ins C dx fs)) (cl:Cls K C) (ha:qL K (.ref C) "__class__"=some (some (.builtin "object.__class__")))
   (hn:dI K (.builtin "object.__class__") "__get__"=some (some (.builtin "getset_descriptor.__get__"))) (htk:Gx K (.builtin "object.__class__")=some true)
   (hm:Zq K C (.type "object")=some true):aa K H (.ref a) (.ref C)
theorem T7 {x:V}{u t:zc} (I:Inv X zj σ H s) (rx:RelV x u) (ty:aa X.K H x t) (e:jk X.K t c=some b) (h:∀tk,Q (.bool b) { s with toks:=tk }) :
  wpAny (model X.prog X.w) A (call (.builtin "isinstance") [u,c]) Q E s:=by
 cases ty with
 | non=>cases (show u=W8 from rx);exact kY W.kitx_none I.kIn ZJ e (fun z=>nomatch z) h
 | bl y=>cases (show u=lB y from rx);exact kY W.kitx_bool I.kIn ZJ e (fun z=>nomatch z) h
 | int i=>obtain⟨t,q⟩:=(show ∃t,u=bA i t from rx);cases q;exact kY W.kitx_int I.kIn ZJ e (fun z=>nomatch z) h
 | str y=>obtain⟨t,q⟩:=(show ∃t:NT,u=V8 y t.1 from rx);cases q;exact kY W.kitx_str I.kIn ZJ e (fun z=>nomatch z) h
 | flt y=>obtain⟨t,q⟩:=(show ∃t,u=Fz y t from rx);cases q;exact kY W.kitx_float I.kIn ZJ e (fun z=>nomatch z) h
 | @lst a xs ea=>
  cases (show u=jx a from rx);obtain⟨_,_,n,_,h1⟩:=(show Zn X.prog X.w H s.heap a (.lst xs) from I.hok a _ ea);exact kY Cp I.kIn ⟨_,h1,rfl⟩ e (fun z=>nomatch z) h
 | @frz a ob xs ea=>
  cases (show u=jx a from rx);obtain⟨_,_,_,n,_,h1⟩:=(show Zn X.prog X.w H s.heap a (.frz ob (.lst xs)) from I.hok a _ ea);exact kY Cp I.kIn ⟨_,h1,rfl⟩ e (fun z=>nomatch z) h
 | @tup a xs ea=>
  cases (show u=jx a from rx);obtain⟨_,_,_,p⟩:=(show Zn X.prog X.w H s.heap a (.tup xs) from I.hok a _ ea);obtain⟨o,h1,h2,_⟩:=p;exact kY W.kitx_tuple I.kIn ⟨o,h1,h2⟩ e (fun z=>nomatch z) h
 | @dK a kvs ea=>
  cases (show u=jx a from rx);obtain⟨_,_,vs,_,p⟩:=(show Zn X.prog X.w H s.heap a (.dK kvs) from I.hok a _ ea);obtain⟨o,es,ep,h1,h2,_⟩:=p;exact kY Cm I.kIn ⟨o,h1,h2.1⟩ e (fun z=>nomatch z) h
 | @dT a kvs ea=>
  cases (show u=jx a from rx);obtain⟨_,_,xs,_,o,es,ep,h1,h2,_⟩:=(show Zn X.prog X.w H s.heap a (.dT kvs) from I.hok a _ ea);exact kY Cm I.kIn ⟨o,h1,h2.1⟩ e (fun z=>nomatch z) h
 | @ins a C dx fs ea cl ha hn htk hm=>
  cases (show u=jx a from rx);obtain⟨mA,O,_⟩:=GQ I.hok ea;obtain⟨od,J,_⟩:=O.look;exact kY (W.kitx_own (cl.get _) cl.hd ha hn htk hm) I.kIn J e (fun z=>nomatch z) h
end
structure JG (k:Nat) (A:jg):Prop where
 hd:A.handled=none
 dp:A.depth+3*k+5<recursionLimit
 un:A.units+16*k+200<cLine
theorem JG.mono {j k:Nat}{A:jg} (r:JG k A) (h:j<=k):JG j A:=⟨r.hd,by have:=r.dp;omega,by have:=r.un;omega⟩
theorem JG.deeper {k:Nat}{A:jg} (r:JG (k+1) A) (env:Env):JG k (A.deeper env):=
 ⟨r.hd,by have:=r.dp;show A.depth+1+3*k+5 < _;omega,by have:=r.un;show A.units+3+16*k+200 < _;omega⟩
theorem zfu {A:jg}{C:zm}{us:List zc}{kw:List (Str×zc)}:(A.under (.builtin "type.__call__" ⟨.ref C::us,kw⟩)).depth=A.depth+1:=by
 first | rfl | simp[BP,Code.weight,Code.isCreation,Code.isGuard,Code.isCaller,zdE,BX,guardIds]
theorem zfv {A:jg}{C:zm}{us:List zc}{kw:List (Str×zc)}:(A.under (.builtin "type.__call__" ⟨.ref C::us,kw⟩)).units=A.units+1:=by
 first | rfl | simp[BP,Code.cUnits,zdE,BX]
theorem JG.make {k:Nat}{A:jg} (r:JG (k+1) A) (C:zm) (us:List zc) (kw:List (Str×zc)):JG k (A.under (.builtin "type.__call__" ⟨.ref C::us,kw⟩)):=
 ⟨r.hd,by have:=r.dp;rw[zfu];omega,by have:=r.un;rw[zfv];omega⟩
theorem JG.depth {k:Nat}{A:jg} (r:JG k A):A.depth<recursionLimit:=by have:=r.dp;omega
theorem JG.units {k:Nat}{A:jg} (r:JG k A):A.units+64<cLine:=by have:=r.un;omega
def zrM:TA:=fun _ H Q=>Q [] H
def zpZ (ta:TE) (tr:TA):TA:=fun σ H Q=>ta σ H fun x H1=>tr σ H1 fun xs H2=>Q (x::xs) H2
section
variable {X:Cx}{e:jD}{es:List jD}{te:TE}{t:TA}{pos:Pos}
theorem zB:PA X [] zrM:=fun _ _ _ _ H Q I h=>K4 ⟨[],H,I,.nil,h⟩
theorem za (ha:PE X e te) (hr:PA X es t) (hs:z9 (e::es) X.env=(false,eval e X.env)::z9 es X.env:=by rfl):PA X (e::es) (zpZ te t):=by
 intro pos zj s σ H Q I h;rw[hs];show wpAny _ _ (spliced ((false,eval e X.env)::backTo pos (z9 es X.env))) _ _ s;refine ZF (thn (ha zj s σ H _ I h) fun u s1 ⟨x,H1,I1,r1,q1⟩=>?_);exact thn (hr pos zj s1 σ H1 _ I1 q1) fun us s2 ⟨xs,H2,I2,r2,q2⟩=>⟨x::xs,H2,I2,.cons r1 r2,q2⟩
def zxl (t:TA):TE:=fun σ H Q=>t σ H fun xs H1=>xs.length<=sizeLine/\∀p,H1 p=none->Q (.ref p) (upd H1 p (.tup xs))
def zxh (t:TA):TE:=fun σ H Q=>t σ H fun xs H1=>xs.length<=sizeLine/\∀p,H1 p=none->Q (.ref p) (upd H1 p (.lst xs))
theorem nW {x1} (h:PA X es t):PE X (.Tuple es x1 pos) (zxl t):=by
 intro zj s σ H Q I hq;refine wpAny_Tuple_spliced (thn (h pos zj s σ H _ I hq) fun us s1 ⟨xs,H1,I1,r,z,q⟩=>⟨by rw[<- r.length];exact z,?_⟩);have hf:H1 s1.heap.objs.size=none:=I1.hok.fresh (zE _);refine⟨.ref s1.heap.objs.size,upd H1 s1.heap.objs.size (.tup xs),I1.laid (t':=s1.toks) (fun b u e=>zO _ e) (zE _) ?_,rfl,q _ hf⟩;exact⟨z,us,r,⟨_,jf _ rfl,rfl,_,rfl⟩⟩
theorem eX (h:PA X es t):PE X (.List es pos) (zxh t):=by
 intro zj s σ H Q I hq;refine wpAny_List_spliced (thn (h pos zj s σ H _ I hq) fun us s1 ⟨xs,H1,I1,r,z,q⟩=>⟨by rw[<- r.length];exact z,?_⟩);have hf:H1 s1.heap.objs.size=none:=I1.hok.fresh (zE _);refine⟨.ref s1.heap.objs.size,upd H1 s1.heap.objs.size (.lst xs),I1.laid (t':=s1.toks) (fun b u e=>zO _ e) (zE _) ?_,rfl,q _ hf⟩;exact⟨z,us,0,r,jf _ rfl⟩
end
abbrev Sp:=List V->Hp->VK->XK->Prop
abbrev CXT:=List Env->Hp->zp->XK->zc->zp->Prop
structure ze2 (P:qz) (w:jd) (K:zg) (mg:Str->Option zc) (base:jW) (A:jg) (outer:List Env) (s:zp) (H:Hp):Prop where
 frames:A.frames=some outer
 mod:Mod K mg base
 bs:∀b o,base.get? b=some o->s.heap.get? b=some o/\H b=none
 bsz:base.objs.size<=s.heap.objs.size
 funs:s.heap.FunFrames base outer
 frf:∀b∈frs outer,H b=none
 hok:HOk P w H s.heap
 bare:K3 s.gens
def CE (outer:List Env) (P:qz) (w:jd) (H:Hp) (s:zp) (Q:VK) (u:zc) (s':zp):Prop:=
 ∃v H',(s'.os=s.os/\0<s'.toks)/\K3 s'.gens/\Un (frs outer) [] H H' s.heap s'.heap/\HOk P w H' s'.heap/\RelV v u/\Q v H'
def CR (CX:CXT) (outer:List Env) (P:qz) (w:jd) (H:Hp) (s:zp) (Q:VK) (E:XK) (r:uZ) (s':zp):Prop:=
 match r with
 | .ok (.ret u)=>CE outer P w H s Q u s'
 | .ok _=>False
 | .error e=>CX outer H s E e s'
def Go (s:zp) (fd:jQ) (ps:List Str):Prop:=0<s.toks∨∃x r,ps=x::r/\fd.scope.names.lookup x=some .local
theorem zk2 {s:zp}{fd:jQ}{ps:List Str}{us:List zc}{vs:List V} (hl:vs.length=ps.length) (r:Vals vs us) (h:Go s fd ps):0<s.toks∨∃x v r,ps.zip us=(x,v)::r/\fd.scope.names.lookup x=some .local:=by
 rcases h with h | ⟨x,p,rfl,h⟩
 .exact .inl h
 .cases r with
  | nil=>cases hl
  | cons a b=>exact .inr ⟨x,_,_,rfl,h⟩
structure Kc (P:qz) (w:jd) (K:zg) (mg:Str->Option zc) (base:jW) (CX:CXT) (k:Nat) (f:zm) (fd:jQ) (ps:List Str) (sp:Sp):Prop where
 len:∀vs H Q E,sp vs H Q E->vs.length=ps.length
 run:∀(A:jg) (outer:List Env) (s:zp) (H:Hp) (args:Args) (us:List zc) (vs:List V) (Q:VK) (E:XK),JG k A->ze2 P w K mg base A outer s H->Go s fd ps->pX s fd args (ps.zip us)->Vals vs us->sp vs H Q E ->
  codeAny (model P w) A (.call (.ref f) args) (CR CX outer P w H s Q E) s
theorem Kc.mono {P:qz}{w:jd}{K:zg}{mg:Str->Option zc}{base:jW}{CX:CXT}{j k:Nat}{f:zm}{fd:jQ}{ps:List Str}{sp:Sp} (F:Kc P w K mg base CX j f fd ps sp) (h:j<=k) :
  Kc P w K mg base CX k f fd ps sp:=⟨F.len,fun A outer s H args us vs Q E hr=>F.run A outer s H args us vs Q E (hr.mono h)⟩
theorem ze2.make {P:qz}{w:jd}{K:zg}{mg:Str->Option zc}{base:jW}{A:jg}{outer:List Env}{s:zp}{H:Hp} (e:ze2 P w K mg base A outer s H) (C:zm) (us:List zc) (kw:List (Str×zc)) :
  ze2 P w K mg base (A.under (.builtin "type.__call__" ⟨.ref C::us,kw⟩)) outer s H:=⟨by first | exact e.frames | (simpa [BP,Code.envs,BX,pushEnvs] using e.frames),e.mod,e.bs,e.bsz,e.funs,e.frf,e.hok,e.bare⟩
section
variable {X:Cx}{zj:List (zm×Obj)}{σ:St}{H:Hp} {s s':zp}
theorem Inv.env0 (I:Inv X zj σ H s):ze2 X.prog X.w X.K X.mg X.base X.A X.stack s H:=
 ⟨I.ok.frames,I.ok.mod,I.bs,qd I.ok.bsz I.sz,I.stack,I.stkFree,I.hok,I.bare⟩
theorem Inv.after {Q:VK}{u:zc} (I:Inv X zj σ H s) (h:CE X.stack X.prog X.w H s Q u s'):EP X zj σ Q u s':=by
 obtain⟨v,H',os,bare,un,hok,r,q⟩:=h;obtain⟨hh,g,d,t,os'⟩:=s';obtain rfl:os'=s.os:=os.1;have ht:0<t:=os.2;exact⟨v,H',I.call (h':=hh) (g':=g) (d':=d) (t':=t) (ch:=[]) un hok bare (fun b z=>absurd z (by simp)),r,q⟩
end
def zxe (sp:Sp) (dvs:List V) (E:XK) (t:TA):TE:=fun σ H Q=>t σ H fun vs H1=>sp (vs++dvs) H1 Q E
def Binds (K:zg) (fd:jQ) (ps:List Str) (ds:List zc):Prop:=
 ∀(s:zp) (us:List zc),K.In s.heap->(us++ds).length=ps.length->pX s fd ⟨us,[]⟩ (ps.zip (us++ds))
theorem Binds.all {K:zg}{fd:jQ}{ps:List Str} (h:∀us:List zc,us.length=ps.length->bindArgs fd ⟨us,[]⟩=pure (ps.zip us)):Binds K fd ps []:=fun s us _ hl=>by
 rw[jr] at hl ⊢;exact .of_eq (h us hl)
def zfa (CX:CXT) (X:Cx) (E:XK):Prop:=∀(zj:List (zm×Obj)) (σ:St) (H:Hp) (s:zp) (e:zc) (s':zp),Inv X zj σ H s->CX X.stack H s E e s'->X.xe e s'
section
variable {X:Cx}{CX:CXT}{k:Nat}{f C:zm}{fd:jQ}{ps:List Str}{sp:Sp}{dvs:List V}{ds:List zc}{E:XK}{x m:Str}{p pos WF:Pos}{e o:jD}{es:List jD}{ta:TE}{t:TA}
theorem zrw {zj:List (zm×Obj)}{σ:St}{H:Hp}{s:zp}{Q:VK}{us:List zc}{vs:List V} (F:Kc X.prog X.w X.K X.mg X.base CX k f fd ps sp) (hr:JG k X.A) (hb:Binds X.K fd ps ds) (hd:Vals dvs ds) (hx:zfa CX X E)
  (I:Inv X zj σ H s) (r:Vals vs us) (h:sp (vs++dvs) H Q E):wpAny (model X.prog X.w) X.A (call (.ref f) us) (EP X zj σ Q) X.xe s:=by
 have r2:Vals (vs++dvs) (us++ds):=r.append hd;have hl:(us++ds).length=ps.length:=by rw[<- r2.length];exact F.len _ _ _ _ h
 refine W9 (Q5 (F.run X.A X.stack s H ⟨us,[]⟩ (us++ds) (vs++dvs) Q E hr I.env0 (.inl I.tk) (hb s us I.kIn hl) r2 h) fun r s' hq=>?_);cases r with
 | error e=>exact hx zj σ H s e s' I hq
 | ok fl=>
  cases fl with
  | ret u=>exact I.after hq
  | next=>exact xQ hq
  | brk=>exact xQ hq
  | cont=>exact xQ hq
theorem zoD (F:Kc X.prog X.w X.K X.mg X.base CX k f fd ps sp) (hr:JG k X.A) (hg:Gl X x) (hm:X.mg x=some (.ref f)) (hk:jR X.K (.ref f)=true) (hb:Binds X.K fd ps ds) (hd:Vals dvs ds) (hx:zfa CX X E)
  (ha:PA X (e::es) t) (hdb:(x == ("__debug__":Str))=false:=by decide) (he:z9 (e::es) X.env=(false,eval e X.env)::z9 es X.env:=by rfl) (hpl:(backTo pos (z9 es X.env)).any (·.1)=false:=by rfl) :
  PE X (.Call (.Name x p) (e::es) [] pos) (zxe sp dvs E t):=by
 intro zj s σ H Q I h;refine ZK (pM I hg hm ?_ hdb);refine VM (h₀:=X.base) I.ok.mod.kin hk (thn (ha pos zj s σ H _ I h) fun us s1 ⟨vs,H1,I1,r,q⟩=>⟨I1.kIn,?_⟩) he hpl;exact zrw F hr hb hd hx I1 r q
structure Mk (K:zg) (C f:zm):Prop where
 makes:aG K C=true
 init:qL K (.ref C) "__init__"=some (some (.ref f))
 fn:yN K (.ref f)=true
 kp:jR K (.ref C)=true
end
section
variable {X:Cx}{CX:CXT}{k:Nat}{f C:zm}{fd:jQ}{ps ks:List Str}{sp:Sp}{E:XK}{x m:Str}{p pos WF zyk:Pos}{e o:jD}{es:List jD}{kws:List Vn}{te ta:TE}{t tk:TA}{nm:Option Str}
structure zx4 (K:zg) (fd:jQ) (ps ks:List Str) (g:List zc->List zc->List zc) (gV:List V->List V->List V):Prop where
 to:∀(s:zp) (us ws:List zc),K.In s.heap->(g us ws).length=ps.length->pX s fd ⟨us,ks.zip ws⟩ (ps.zip (g us ws))
 rel:∀{vs:List V}{us:List zc}{zs:List V}{ws:List zc},Vals vs us->Vals zs ws->Vals (gV vs zs) (g us ws)
variable {g:List zc->List zc->List zc}{gV:List V->List V->List V}
end
structure qU (N P:List Str) (sc:Zr):Prop where
 kind:sc.kind=.function
 co:sc.isCoroutine=false
 gen:sc.isGenerator=false
 nd:N.Nodup
 pre:N.take P.length=P
 par:∀x∈P,sc.names.lookup x=some .local∨sc.names.lookup x=some .cell
 nofree:∀y∈sc.names,y.2≠.free
theorem Tz {kindOf:Str->Option yS}{x:Str}:∀{binds:List (Str×zc)}{m:Str->Option zc},(∀v,(x,v) ∉ binds)->bindL kindOf binds m x=m x
 | [],_,_=>rfl
 | (n,v)::r,m,h=>by
  unfold bindL;rw[Tz fun w hw=>h w (zG _ hw)];split
  .have:x≠n:=by rintro rfl;exact h v zJ
   simp[this]
  .rfl
theorem Tv {kindOf:Str->Option yS}{x:Str}:∀{binds:List (Str×zc)}{m:Str->Option zc},(∀v,(x,v) ∉ binds)->bindC kindOf binds m x=m x
 | [],_,_=>rfl
 | (n,v)::r,m,h=>by
  unfold bindC;rw[Tv fun w hw=>h w (zG _ hw)];split
  .rfl
  .have:x≠n:=by rintro rfl;exact h v zJ
   simp[this]
theorem Tw {kindOf:Str->Option yS}{x:Str}{v:zc}:∀{P:List Str}{vs:List zc}{i:Nat}{m:Str->Option zc},P.Nodup->P[i]?=some x->vs[i]?=some v->kindOf x=some .local ->
  bindL kindOf (P.zip vs) m x=some v
 | [],_,_,_,_,h,_,_=>by simp at h
 | _::_,[],_,_,_,_,h,_=>by simp at h
 | p::P,w::vs,0,m,nd,h1,h2,hk=>by
  simp at h1 h2;subst h1;subst h2;show bindL kindOf ((p,w)::P.zip vs) m p=_;unfold bindL;rw[Tz fun v hv=>(List.nodup_cons.mp nd).1 (aB hv).1,if_pos hk];simp
 | p::P,w::vs,i+1,m,nd,h1,h2,hk=>by
  show bindL kindOf ((p,w)::P.zip vs) m x=_;unfold bindL;exact Tw (i:=i) (List.nodup_cons.mp nd).2 (by simpa using h1) (by simpa using h2) hk
theorem Tu {kindOf:Str->Option yS}{x:Str}{v:zc}:∀{P:List Str}{vs:List zc}{i:Nat}{m:Str->Option zc},P.Nodup->P[i]?=some x->vs[i]?=some v->kindOf x≠some .local ->
  bindC kindOf (P.zip vs) m x=some v
 | [],_,_,_,_,h,_,_=>by simp at h
 | _::_,[],_,_,_,_,h,_=>by simp at h
 | p::P,w::vs,0,m,nd,h1,h2,hk=>by
  simp at h1 h2;subst h1;subst h2;show bindC kindOf ((p,w)::P.zip vs) m p=_;unfold bindC;rw[Tv fun v hv=>(List.nodup_cons.mp nd).1 (aB hv).1,if_neg hk];simp
 | p::P,w::vs,i+1,m,nd,h1,h2,hk=>by
  show bindC kindOf ((p,w)::P.zip vs) m x=_;unfold bindC;exact Tu (i:=i) (List.nodup_cons.mp nd).2 (by simpa using h1) (by simpa using h2) hk
noncomputable def start (N:List Str) (vs:List V):St:=vs.map some++qH (N.length-vs.length) none
noncomputable def yI (CX:CXT) (P:qz) (w:jd) (K:zg) (mg:Str->Option zc) (base:jW) (N:List Str) (qual:Str) (scope:Zr) (f:zm) (cd:zc) (A:jg) (outer:List Env) (s:zp) (H:Hp) (E:XK):Cx where
 prog:=P
 w:=w
 K:=K
 mg:=mg
 base:=base
 A:=A.deeper (envOfC qual scope s.heap.objs.size f cd)
 N:=N
 s₀:=s
 H₀:=H
 env:=envOfC qual scope s.heap.objs.size f cd
 outer:=outer
 stack:=envOfC qual scope s.heap.objs.size f cd::outer
 ex:=[]
 calm:=true
 fn:=fun _=>true
 pn:=[]
 xe:=fun e s'=>wpAny (model P w) (A.deeper (envOfC qual scope s.heap.objs.size f cd)) (leaving (envOfC qual scope s.heap.objs.size f cd) e) (fun _ s''=>CX outer H s E e s'') (fun e' s''=>CX outer H s E e' s'') s'
theorem zcs {sc:Zr}{n:Nat}{x:Str} (h:sc.names.lookup x=some .cell):∃c,(cellsFrom n sc.names []).lookup x=some c:=by
 have q:=lz sc.names n [] (.inl h);exact Option.isSome_iff_exists.mp q
theorem ziM {CX:CXT}{P:qz}{w:jd}{K:zg}{mg:Str->Option zc}{base:jW}{N ps:List Str}{qual:Str}{scope:Zr}{f:zm}{cd:zc}{A:jg}{outer:List Env}{s s1:zp}{H:Hp}{E:XK}{us:List zc}{vs:List V}
  (S:qU N ps scope) (hd:A.handled=none) (e0:ze2 P w K mg base A outer s H) (hl:vs.length=ps.length) (r:Vals vs us)
  (x:InCallC s s.heap.objs.size (bindL (envOfC qual scope s.heap.objs.size f cd).kindOf (ps.zip us) fun _=>none) (cellsFrom (s.heap.objs.size+1) scope.names []) (bindC (envOfC qual scope s.heap.objs.size f cd).kindOf (ps.zip us) fun _=>none) s1) (hup:0<s1.toks) :
  Inv (yI CX P w K mg base N qual scope f cd A outer s H E) [] (start N vs) H s1:=by
 have hpl:ps.length<=N.length:=by have:=congrArg V7 S.pre;rw[xK] at this;omega
 obtain⟨h1,tk,rfl,hk⟩:=x.done;have noA:∀b:zm,b ∉ (yI CX P w K mg base N qual scope f cd A outer s H E).ex:=fun b z=>absurd (show b∈([]:List zm) from z) (by simp);refine⟨⟨e0.mod,S.kind,rfl,rfl,zE _,fun y z c h1 h2=>?_,fun y hy=>?_,fun y c _ h=>?_,fun _=>hd,Around.frames_deeper e0.frames,.inr ⟨rfl,rfl⟩,fun b z=>absurd z (noA b),e0.bs,e0.bsz,fun b _ _=>noA b,fun b z=>absurd z (noA b),e0.funs,e0.frf⟩,
  ⟨rfl,hup⟩,e0.bare,Un.kept hk,⟨_,x.toInCall.ns,fun i y v h1 h2 h3=>?_⟩,fun y c h=>⟨_,x.cell y c h⟩,e0.hok.fresh (zE _),fun y c h=>?_,fun p hp=>absurd (show p∈([]:List (zm×Obj)) from hp) (by simp),e0.hok.kept hk,?_⟩
 .exact name_of_addr x.apart (Qt h1) (Qt h2)
 .have hy:scope.names.lookup y=some .cell∨scope.names.lookup y=some .free:=hy;rcases hy with hy | hy
  .exact zcs hy
  .exact absurd rfl (S.nofree _ (Qt hy))
 .exact kj (x.above y c (Qt h))
 .have hi:i<vs.length:=by
   unfold start at h2;by_cases hi:i<vs.length
   .exact hi
   .rw[jj (by simpa using hi)] at h2;rw[kE] at h2;split at h2 <;> cases h2
  have ha:vs[i]?=some v:=by
   unfold start at h2;rw[qP (by simpa using hi),qF] at h2;cases e:vs[i]? with
   | none=>rw[e] at h2;cases h2
   | some a=>rw[e] at h2;cases h2;rfl
  obtain⟨u,hu,rv⟩:=r.get ha;have hp:ps[i]?=some y:=by
   rw[<- S.pre,List.getElem?_take_of_lt (by omega)];exact h1
  have ndP:ps.Nodup:=by rw[<- S.pre];exact S.nd.sublist (List.take_sublist _ _)
  refine⟨u,rv,?_⟩;rcases S.par y (qw hp) with k | k
  .exact .inl ⟨k,Tw ndP hp hu k⟩
  .obtain⟨c,e⟩:=zcs (n:=s.heap.objs.size+1) k;refine .inr ⟨.inl k,c,e,?_⟩;have q:=x.cell y c e;rw[Tu ndP hp hu (by show scope.names.lookup y≠_;rw[k];decide)] at q;exact q
 .exact e0.hok.fresh (kj (x.above y c (Qt h)))
 .unfold start;show _=N.length;rw[zM,zf,jE];omega
theorem zhd {CX:CXT}{P:qz}{w:jd}{K:zg}{mg:Str->Option zc}{base:jW}{k:Nat}{f:zm}{name qual:Str}{params:Arguments}{body:List jV}{scope:Zr}{dV kV doc pm cdv ct oc:zc}{an od:Option zm}
  {osl:Array (Option zc)}{N ps:List Str}{sp:Sp} (lk:K.lookup f=some ⟨oc,od,.func (xj name qual params body scope dV kV doc pm an cdv ct),osl⟩) (hcd:vD K cdv qual=true) (S:qU N ps scope)
  (len:∀vs H Q E,sp vs H Q E->vs.length=ps.length)
  (hbody:∀(A:jg) (outer:List Env) (s:zp) (H:Hp) (vs:List V) (Q:VK) (E:XK),JG k (A.deeper (envOfC qual scope s.heap.objs.size f cdv))->sp vs H Q E ->
   ∃t,PSs (yI CX P w K mg base N qual scope f cdv A outer s H E) body t/\t { nx:=fun _ H'=>Q .non H',rt:=Q } (start N vs) H) :
  Kc P w K mg base CX (k+1) f (xj name qual params body scope dV kV doc pm an cdv ct) ps sp:=by
 refine⟨len,fun A outer s H args us vs Q E hr e0 hp hb r hsp=>?_⟩;have hl:=len _ _ _ _ hsp;have KX:K.In s.heap:=e0.mod.kin.keeps fun b o e=>(e0.bs b o e).1;have lim:s.heap.NoLimit:=e0.mod.nolimit.keeps fun b o e=>(e0.bs b o e).1;have hkind:∀y∈ps.zip us,scope.names.lookup y.1=some .local∨(scope.names.lookup y.1=some .cell/\((cellsFrom (s.heap.objs.size+1) scope.names []).lookup y.1).isSome=true):=fun⟨n,v⟩ hy=>by
  rcases S.par n (aB hy).1 with q | q
  .exact .inl q
  .exact .inr ⟨q,lz _ _ _ (.inl q)⟩
 refine codeAny_call_function hr.depth (KX _ _ lk) rfl S.co S.gen rfl (W.codeRec_of KX hcd) (hb _ _ _ _ ?_);refine zqU S.kind (zk2 hl r hp) (wpAny_newFunctionEnv_cells S.kind hkind fun env he s1 x hup=>?_);subst he;refine⟨lim.keeps x.toInCall.keep,codeAny_func ?_⟩;obtain⟨t,ht,hq⟩:=hbody A outer s H vs Q E (hr.deeper _) hsp;have I:Inv (yI CX P w K mg base N qual scope f cdv A outer s H E) [] (start N vs) H s1:=ziM S hr.hd e0 hl r x hup;refine jt (ht [] s1 (start N vs) H _ I hq) (fun fl s' hs=>?_) fun e s' hs=>hs;have fin:∀{σ':St} {H':Hp}{v:V}{u:zc},Inv (yI CX P w K mg base N qual scope f cdv A outer s H E) [] σ' H' s'->RelV v u->Q v H'->CE outer P w H s Q u s':=
  fun {σ' H' v u} J rv q=>⟨v,H',J.os,J.bare,J.base,J.hok,rv,q⟩
 cases fl with
 | ret u=>
  obtain⟨v,σ',H',J,rv,q⟩:=hs;exact fin J rv q
 | next=>
  obtain⟨σ',H',J,q⟩:=hs;exact fin (v:=V.non) (u:=W8) J rfl q
 | brk=>
  obtain⟨_,_,_,q⟩:=hs;exact xQ q
 | cont=>
  obtain⟨_,_,_,q⟩:=hs;exact xQ q
section
variable {X:Cx}{x:Str}{p pos:Pos}{e:jD}{es:List jD}{t:TA}{id T:String}{r:List V->Hp->VK->Prop}
def tCB (r:List V->Hp->VK->Prop) (t:TA):TE:=fun σ H Q=>t σ H fun vs H1=>r vs H1 Q
theorem jz (hc:VP X (.builtin id) r) (hg:Gl X x) (hm:X.mg x=none) (hv:bootBuiltins x=some (.builtin id)) (ha:PA X (e::es) t) (hn:x≠"__name__":=by decide) (hdb:(x == ("__debug__":Str))=false:=by decide)
  (he:z9 (e::es) X.env=(false,eval e X.env)::z9 es X.env:=by rfl) (hpl:(backTo pos (z9 es X.env)).any (·.1)=false:=by rfl):PE X (.Call (.Name x p) (e::es) [] pos) (tCB r t):=by
 intro zj s σ H Q I h;refine ZK (nM I hg hm hv ?_ hn hdb);exact Ep (thn (ha pos zj s σ H _ I h) fun us s1 ⟨vs,H1,I1,r1,q1⟩=>hc zj s1 σ H1 vs us Q I1 r1 q1) he hpl
theorem Xo (hc:VP X (.type T) r) (hg:Gl X x) (hm:X.mg x=none) (hv:bootBuiltins x=some (.type T)) (ha:PA X (e::es) t) (hn:x≠"__name__":=by decide) (hdb:(x == ("__debug__":Str))=false:=by decide)
  (he:z9 (e::es) X.env=(false,eval e X.env)::z9 es X.env:=by rfl) (hpl:(backTo pos (z9 es X.env)).any (·.1)=false:=by rfl):PE X (.Call (.Name x p) (e::es) [] pos) (tCB r t):=by
 intro zj s σ H Q I h;refine ZK (nM I hg hm hv ?_ hn hdb);exact km (thn (ha pos zj s σ H _ I h) fun us s1 ⟨vs,H1,I1,r1,q1⟩=>hc zj s1 σ H1 vs us Q I1 r1 q1) he hpl
end
end L2
namespace HT
open PySem PyProof.Rows
section
open PySem.SeqAt
open PySem.AutoSeq1 (wpAny_loadPart')
open PySem.MeetsSeq PySem.MeetsSeq2 PySem.MeetsSeq3
end
section
variable {prog:qz}{w:jd}{A:jg}{E:zc->zp->Prop}{s:zp}
noncomputable def sIx (n d:Nat):Option Int->Nat
 | none=>d
 | some v=>if v<0 then (v+(n:Int)).toNat else min v.toNat n
theorem sIx_nat (n d k:Nat):sIx n d (some (k:Int))=min k n:=by
 show (if (k:Int)<0 then ((k:Int)+(n:Int)).toNat else min (k:Int).toNat n)=min k n;rw[if_neg (by omega),yf]
end
end HT
namespace L2
open PySem PySem.Spec PyProof.Rows
abbrev TO:=St->Hp->(Option Int->Hp->Prop)->Prop
def PO (X:Cx) (e:Option jD) (t:TO):Prop:=
 ∀(zj:List (zm×Obj)) (s:zp) (σ:St) (H:Hp) (Q:Option Int->Hp->Prop),Inv X zj σ H s->t σ H Q ->
  wpAny (model X.prog X.w) X.A (evalPart e X.env) (fun u s'=>∃o H',Inv X zj σ H' s'/\IsPart u o/\Q o H') X.xe s
noncomputable def zoO:TO:=fun _ H Q=>Q none H
noncomputable def zxi (t:TE):TO:=fun σ H Q=>t σ H fun x H1=>∃i,x=.int i/\Q (some i) H1
theorem intsAre_of {ns:List Int}:∀{us:List zc},Vals (ns.map V.int) us->Yy us ns:=by
 induction ns with
 | nil=>intro us r;rw[bj] at r;cases r;exact .nil
 | cons n ns ih=>
  intro us r;rw[zY] at r;cases r with
  | cons r1 r2=>
   obtain⟨t,e⟩:=r1;subst e;exact .cons n t (ih r2)
section
variable {X:Cx}{e:jD}{te:TE}{lo hi:Option jD}{tl th:TO}{pos p2:Pos}
theorem zht:PO X none zoO:=by
 intro zj s σ H Q I h;rw[Tf];exact qj ⟨none,H,I,.none,h⟩
theorem zhu (h:PE X e te):PO X (some e) (zxi te):=by
 intro zj s σ H Q I hw;rw[evalPart_some];refine thn (h zj s σ H _ I hw) fun u s1 ⟨x,H1,I1,r1,q1⟩=>?_;obtain⟨i,rfl,q⟩:=q1;obtain⟨t,rfl⟩:=r1;exact⟨some i,H1,I1,.int i t,q⟩
def SlR (X:Cx) (r:V->Option Int->Option Int->Hp->VK->Prop):Prop:=
 ∀(zj:List (zm×Obj)) (s:zp) (σ:St) (H:Hp) (x:V) (v vl vu:zc) (lo hi:Option Int) (sl:zm) (Q:VK),Inv X zj σ H s->RelV x v->s.heap.IsSliceOf sl vl vu .none->IsPart vl lo->IsPart vu hi->r x lo hi H Q ->
  ∃T id,typeLookup (.type T) "__getitem__"=pure (some (.builtin id))/\s.TypeIs v T/\wpAny (model X.prog X.w) X.A (getItem v (.ref sl)) (EP X zj σ Q) X.xe s
def tSl (r:V->Option Int->Option Int->Hp->VK->Prop) (te:TE) (tl th:TO):TE:=fun σ H Q=>te σ H fun x H1=>tl σ H1 fun l H2=>th σ H2 fun u H3=>r x l u H3 Q
theorem zda {r:V->Option Int->Option Int->Hp->VK->Prop} (hr:SlR X r) (he:PE X e te) (hl:PO X lo tl) (hu:PO X hi th):PE X (.Subscript e (.Slice lo hi none p2) pos) (tSl r te tl th):=by
 intro zj s σ H Q I h;refine MN (thn (he zj s σ H _ I h) fun v s1 ⟨x,H1,I1,r1,q1⟩=>?_);refine wpAny_Slice (thn (hl zj s1 σ H1 _ I1 q1) fun vl s2 ⟨l,H2,I2,pl,q2⟩=>thn (hu zj s2 σ H2 _ I2 q2) fun vu s3 ⟨u,H3,I3,pu,q3⟩=>?_);rw[Tf];refine qj ?_;have I4:Inv X zj σ H3 { s3 with heap:=s3.heap.push { cls:=.type "slice",data:=.fields #[vl,vu,.none] } }:=I3.kept (t':=s3.toks) fun b ob q=>zO _ q;obtain⟨T,id,hT,ht,hg⟩:=hr zj { s3 with heap:=s3.heap.push { cls:=.type "slice",data:=.fields #[vl,vu,.none] } } σ H3 x v vl vu l u s3.heap.objs.size Q I4 r1 (zgi ..) pl pu q3;show wpAny (model X.prog X.w) X.A (subscriptTail e (.Slice lo hi none p2) v (.ref s3.heap.objs.size)) (EP X zj σ Q) X.xe { s3 with heap:=s3.heap.push { cls:=.type "slice",data:=.fields #[vl,vu,.none] } };exact tail_any (ops:=[.ref s3.heap.objs.size,v]) ht hT hg (by with_unfolding_all rfl)
noncomputable def zaz (xs:List V) (lo hi:Option Int):List V:=(xs.drop (HT.sIx xs.length 0 lo)).take (HT.sIx xs.length xs.length hi-HT.sIx xs.length 0 lo)
theorem zcz (xs:List V) (lo hi:Option Int):(zaz xs lo hi).length<=xs.length:=by
 unfold zaz;rw[xK,yF];omega
end
noncomputable def ixN (n:Nat) (i:Int):Option Nat:=if 0<=i then (if i<n then some i.toNat else none) else if -(n:Int)<=i then some (i+n).toNat else none
noncomputable def atI {α:Type} (xs:List α) (i:Int):Option α:=(ixN xs.length i).bind fun j=>xs[j]?
theorem zhg {n:Nat}{i:Int}{j:Nat} (h:ixN n i=some j):seqIndex? i n=some j/\j<n/\-(n:Int)<=i/\i<n:=by
 unfold ixN at h;by_cases h0:0<=i
 .rw[if_pos h0] at h;by_cases h1:i<n
  .rw[if_pos h1] at h;have e:i.toNat=j:=xr h;exact⟨by rw[FP h0 h1,e],by omega,by omega,h1⟩
  .rw[if_neg h1] at h;cases h
 .rw[if_neg h0] at h;by_cases h1:-(n:Int)<=i
  .rw[if_pos h1] at h;have e:(i+n).toNat=j:=xr h;exact⟨by rw[seqIndex_neg (by omega) h1,e],by omega,h1,by omega⟩
  .rw[if_neg h1] at h;cases h
theorem zak {α:Type}{xs:List α}{i:Int}{v:α} (h:atI xs i=some v):∃j,seqIndex? i xs.length=some j/\xs[j]?=some v/\j<xs.length/\-(xs.length:Int)<=i/\i<xs.length:=by
 unfold atI at h;cases e:ixN xs.length i with
 | none=>rw[e] at h;cases h
 | some j=>
  rw[e] at h;obtain⟨h1,h2,h3,h4⟩:=zhg e;exact⟨j,h1,h,h2,h3,h4⟩
theorem Yc {α:Type}{xs:List α}{j:Nat}{v:α} (h:xs[j]?=some v):atI xs (j:Int)=some v:=by
 have hj:j<xs.length:=(List.getElem?_eq_some_iff.mp h).1;have e:ixN xs.length (j:Int)=some j:=by
  unfold ixN;rw[if_pos (by omega),if_pos (by omega)];simp
 unfold atI;rw[e];exact h
def zgZ (b:jD):Prop:=∀o i,subscripted b false o i=operate [o,i] (getItem o i)
def IxR (X:Cx) (r:R2):Prop:=
 ∀(value slice:jD) (zj:List (zm×Obj)) (s:zp) (σ:St) (H:Hp) (x y:V) (v u:zc) (Q:VK),Inv X zj σ H s->RelV x v->RelV y u->r x y H Q ->
  subscripted slice false v u=operate [v,u] (getItem v u)->wpAny (model X.prog X.w) X.A (subscriptTail value slice v u) (EP X zj σ Q) X.xe s
def MtR (X:Cx) (id:String) (r:V->List V->Hp->VK->Prop):Prop:=
 ∀(zj:List (zm×Obj)) (s:zp) (σ:St) (H:Hp) (x:V) (xs:List V) (v:zc) (us:List zc) (Q:VK),Inv X zj σ H s->RelV x v->Vals xs us->r x xs H Q ->
  wpAny (model X.prog X.w) X.A (call (.builtin id) (v::us)) (EP X zj σ Q) X.xe s
section
variable {X:Cx}{a b:jD}{ta tb:TE}{pos:Pos}
theorem kZ {r:R2} (hr:IxR X r) (ha:PE X a ta) (hb:PE X b tb) (hs:zgZ b):PE X (.Subscript a b pos) (tOp r ta tb):=by
 intro zj s σ H Q I h;exact MN (zqJ ha hb I h fun v u s2 x y H2 I2 rx ry q=>hr a b zj s2 σ H2 x y v u Q I2 rx ry q (hs _ _))
def zwZ (K:zg):R2:=fun x y H Q=>∃p xs i v,x=.ref p/\y=.int i/\SqL K H p xs/\atI xs i=some v/\Q v H
def zyv (K:zg):R2:=fun x y H Q=>∃p xs i v,x=.ref p/\y=.int i/\SqT K H p xs/\atI xs i=some v/\Q v H
def zyu:R2:=fun x y H Q=>∃z i c,x=.str z/\y=.int i/\z.length<=sizeLine/\atI z.cps.toList i=some c/\Q (.str ⟨#[c]⟩) H
theorem j8:IxR X (zwZ X.K):=by
 intro value slice zj s σ H x y v u Q I rx ry h hs;obtain⟨p,xs,i,z,rfl,rfl,hq,he,q⟩:=h;cases rx;obtain⟨t,rfl⟩:=ry;obtain⟨its,r,pl,hz⟩:=I.list hq;obtain⟨j,h1,h2,h3,h4,h5⟩:=zak he;obtain⟨w,ew,rw'⟩:=r.get h2;have hl:=r.length;have hn:=uh;have fin:EP X zj σ Q w s:=⟨z,H,I,rw',q⟩;by_cases h0:0<=i
 .have hj:i.toNat=j:=by
   rw[FP h0 h5] at h1;exact xr h1
  exact item_listR pl.isList h0 (by omega) (by rw[hj];simpa using ew) fin hs
 .have hj:(i+(its.toArray.size:Int)).toNat=j:=by
   rw[seqIndex_neg (by omega) h4] at h1;rw[z7,<- hl];exact xr h1
  exact lF (x:=w) pl.isList.typeIs slot_list_getitem.lookup
   (wpAny_getItem_list_neg (Q:=fun r s'=>r=w/\EP X zj σ Q r s') pl.isList (by omega) (by rw[z7] <;> omega) (by omega) (by rw[hj];simpa using ew) ⟨rfl,fin⟩) hs
theorem uf:IxR X (zyv X.K):=by
 intro value slice zj s σ H x y v u Q I rx ry h hs;obtain⟨p,xs,i,z,rfl,rfl,hq,he,q⟩:=h;cases rx;obtain⟨t,rfl⟩:=ry;obtain⟨its,r,pl,hz⟩:=I.tuple hq;obtain⟨j,h1,h2,h3,h4,h5⟩:=zak he;obtain⟨w,ew,rw'⟩:=r.get h2;have hl:=r.length;have hn:=uh;have fin:EP X zj σ Q w s:=⟨z,H,I,rw',q⟩;exact lF (x:=w) pl.typeIs slot_tuple_getitem.lookup
  (getItem_tuple (j:=j) (Q:=fun r s'=>r=w/\EP X zj σ Q r s') pl (by omega) (by omega) (by rw[z7,<- hl];exact h1) (by simpa using ew) ⟨rfl,fin⟩) hs
theorem zaF:IxR X zyu:=by
 intro value slice zj s σ H x y v u Q I rx ry h hs;obtain⟨z,i,c,rfl,rfl,hz,he,q⟩:=h;obtain⟨t,rfl⟩:=rx;obtain⟨t',rfl⟩:=ry;obtain⟨j,h1,h2,h3,h4,h5⟩:=zak he;have hl:z.cps.toList.length=z.length:=by simp[Str.length]
 rw[hl] at h1 h4 h5;have hn:=uh;exact tail_any (Zd s z t) slot_str_getitem.lookup (getItem_str (c:=c) (by
  have e1:decide (i < -(2 ^ 63:Int))=false:=decide_eq_false (by omega);have e2:decide (i ≥ 2 ^ 63)=false:=decide_eq_false (by omega);rw[e1,e2,rW]) (by rw[h1];simpa using h2) ⟨.str ⟨#[c]⟩,H,I.tok _,⟨⟨_,I.nz⟩,rfl⟩,q⟩) hs
theorem zfw (its:List zc) (n j:Nat) (u:zc):Ql (·.setIfInBounds j u) { cls:=.type "list",data:=.seq its.toArray n }={ cls:=.type "list",data:=.seq (its.set j u).toArray n }:=by
 simp[Ql]
theorem Inv.lst {zj:List (zm×Obj)}{σ:St}{H:Hp}{s:zp}{p:zm}{xs:List V} (I:Inv X zj σ H s) (h:H p=some (.lst xs)) :
  ∃(its:List zc) (n:Nat),Vals xs its/\s.heap.get? p=some { cls:=.type "list",data:=.seq its.toArray n }/\xs.length<=sizeLine:=by
 obtain⟨z,its,n,r,e⟩:=I.hok p _ h;exact⟨its,n,r,e,z⟩
theorem Inv.lstUpd {zj:List (zm×Obj)}{σ:St}{H:Hp}{s:zp}{p:zm}{xs ys:List V} {its its':List zc} {n n':Nat}{f:Obj->Obj} (I:Inv X zj σ H s) (h:H p=some (.lst xs))
  (ho:s.heap.get? p=some { cls:=.type "list",data:=.seq its.toArray n }) (hf:f { cls:=.type "list",data:=.seq its.toArray n }={ cls:=.type "list",data:=.seq its'.toArray n' }) (r:Vals ys its') (hz:ys.length<=sizeLine) (t:Nat) (ht:0<t:=by first|exact jJ _|assumption|exact Inv.tk ‹_›|exact Inv.tkL ‹_› ‹_›|(have:=Inv.tk ‹_›;simp only[] at *;omega)) :
  Inv X zj σ (upd H p (.lst ys)) { s with heap:=s.heap.update p f,toks:=t }:=by
 have e:(s.heap.update p f).get? p=some { cls:=.type "list",data:=.seq its'.toArray n' }:=by
  rw[yx f ho (by rw[hf] <;> rfl),hf]
 refine I.write (x:=p) (e:=p) (by rw[h];trivial) (.inl rfl) (fun b u hb q=>(K6 _ _ (Xy hb)).trans q) ⟨_,e⟩ ?_;exact⟨hz,its',n',r,e⟩
def zw4:V->V->V->Hp->(Hp->Prop)->Prop:=fun o i v H Q=>∃p xs k j,o=.ref p/\i=.int k/\H p=some (.lst xs)/\ixN xs.length k=some j/\Q (upd H p (.lst (xs.set j v)))
theorem set_list:zsF X zw4:=by
 intro zj s σ H o i v ov iv u Q I ro ri rv h;obtain⟨p,xs,k,j,rfl,rfl,hp,hj,q⟩:=h;cases ro;obtain⟨t,rfl⟩:=ri;obtain⟨its,n,r,ho,hz⟩:=I.lst hp;obtain⟨h1,h2,h3,h4⟩:=zhg hj;have hl:=r.length;have hn:=uh;have I':Inv X zj σ (upd H p (.lst (xs.set j v))) { s with heap:=s.heap.update p (Ql (·.setIfInBounds j u)) }:=
  I.lstUpd hp ho (zfw its n j u) (r.set rv j) (by rw[lQ];exact hz) s.toks
 by_cases h0:0<=k
 .have hk:k.toNat=j:=by
   rw[FP h0 h4] at h1;exact xr h1
  exact W.ki_setAt ho h0 (by omega) (by rw[z7,<- hl];exact h4) (by rw[hk];exact⟨_,I',q⟩)
 .have hk:(k+(its.toArray.size:Int)).toNat=j:=by
   rw[seqIndex_neg (by omega) h3] at h1;rw[z7,<- hl];exact xr h1
  exact W.ki_setBack ho (by omega) (by rw[z7,<- hl];exact h3) (by omega) (by rw[hk];exact⟨_,I',q⟩)
theorem za3 (lo hi:Option Int) (n:Nat):(sliceBounds lo hi none n).1=((HT.sIx n 0 lo:Nat):Int)/\(sliceBounds lo hi none n).2.1=((HT.sIx n n hi:Nat):Int)/\(sliceBounds lo hi none n).2.2=1:=by
 refine⟨?_,?_,rfl⟩
 .cases lo with
  | none=>simp[sliceBounds,HT.sIx]
  | some i=>
   simp only[sliceBounds,HT.sIx,Eo,show (1:Int) > 0 by decide,if_true];by_cases h:i<0
   .simp only[h,if_true] <;> omega
   .simp only[h,if_false] <;> omega
 .cases hi with
  | none=>simp[sliceBounds,HT.sIx]
  | some i=>
   simp only[sliceBounds,HT.sIx,Eo,show (1:Int) > 0 by decide,if_true];by_cases h:i<0
   .simp only[h,if_true] <;> omega
   .simp only[h,if_false] <;> omega
theorem Rv (its:List zc) (lo hi:Option Int):slicePick its.toArray lo hi none=((its.drop (HT.sIx its.length 0 lo)).take (HT.sIx its.length its.length hi-HT.sIx its.length 0 lo)).toArray:=by
 obtain⟨h1,h2,h3⟩:=za3 lo hi its.toArray.size;unfold slicePick;rw[h1,h2,h3];simp only[sliceRange_one,pick_run,z7] <;> rfl
def zyA (K:zg):V->Option Int->Option Int->Hp->VK->Prop:=fun x lo hi H Q=>∃a xs,x=.ref a/\SqL K H a xs/\∀p,H p=none->Q (.ref p) (upd H p (.lst (zaz xs lo hi)))
theorem zhz:SlR X (zyA X.K):=by
 intro zj s σ H x v vl vu lo hi sl Q I rx hs pl pu h;obtain⟨a,xs,rfl,hx,q⟩:=h;cases rx;obtain⟨its,r,ht,hz⟩:=I.list hx;have hlen:=r.length;refine⟨"list",_,slot_list_getitem.lookup,ht.isList.typeIs,?_⟩;refine wpAny_getItem_list_slice ht.isList hs pl pu .none (by simp) ?_ (by rw[z7] <;> omega);rw[Rv,<- hlen];refine⟨.ref s.heap.objs.size,_,I.laid (t':=s.toks) (o:=.lst (zaz xs lo hi)) (fun b ob q=>zO _ q) (zE _) ?_,rfl,q _ (I.hok.fresh (zE _))⟩;exact⟨qd (zcz xs lo hi) hz,_,0,(r.drop (HT.sIx xs.length 0 lo)).take (HT.sIx xs.length xs.length hi-HT.sIx xs.length 0 lo),jf _ rfl⟩
noncomputable def Fb:V->Bool
 | .non=>true
 | .bl _=>true
 | .int _=>true
 | .str _=>true
 | _=>false
noncomputable def eqV:V->V->Bool
 | .non,.non=>true
 | .bl a,.bl b=>a == b
 | .bl a,.int b=>(if a then 1 else 0) == b
 | .int a,.bl b=>a == (if b then 1 else 0)
 | .int a,.int b=>a == b
 | .str a,.str b=>a == b
 | _,_=>false
theorem zqV {A:jg}{s:zp}{y x:V}{u v:zc} (ry:RelV y u) (rx:RelV x v) (fy:Fb y=true) (fx:Fb x=true):zgA A s u v (eqV y x):=by
 cases y with
 | non=>
  cases ry;cases x with
  | non=>cases rx;exact SeqAt.EqAt.same _
  | bl b=>cases rx;exact SeqAt.EqAt.none_bool b
  | int b=>obtain⟨t,rfl⟩:=rx;exact SeqAt.EqAt.none_int b t
  | str b=>obtain⟨t,rfl⟩:=rx;exact SeqAt.EqAt.none_str b t
  | _=>exact absurd (show false=true from fx) qI
 | bl a=>
  cases ry;cases x with
  | non=>cases rx;exact SeqAt.EqAt.bool_none a
  | bl b=>cases rx;exact SeqAt.EqAt.bool_bool a b
  | int b=>obtain⟨t,rfl⟩:=rx;exact SeqAt.EqAt.bool_int a b t
  | str b=>obtain⟨t,rfl⟩:=rx;exact SeqAt.EqAt.bool_str a b t
  | _=>exact absurd (show false=true from fx) qI
 | int a=>
  obtain⟨t',rfl⟩:=ry;cases x with
  | non=>cases rx;exact SeqAt.EqAt.int_none a t'
  | bl b=>cases rx;exact SeqAt.EqAt.int_bool a t' b
  | int b=>obtain⟨t,rfl⟩:=rx;exact SeqAt.EqAt.int_int a t' b t
  | str b=>obtain⟨t,rfl⟩:=rx;exact u0 a t' b t
  | _=>exact absurd (show false=true from fx) qI
 | str a=>
  obtain⟨t',rfl⟩:=ry;cases x with
  | non=>cases rx;exact SeqAt.EqAt.str_none a t'
  | bl b=>cases rx;exact SeqAt.EqAt.str_bool a t' b
  | int b=>obtain⟨t,rfl⟩:=rx;exact Aa a t' b t
  | str b=>obtain⟨t,rfl⟩:=rx;exact SeqAt.EqAt.str_str a t' b t
  | _=>exact absurd (show false=true from fx) qI
 | _=>exact absurd (show false=true from fy) qI
noncomputable def eqU (x:V) (u:zc):Bool:=match u with
 | .none=>eqV .non x
 | .bool b=>eqV (.bl b) x
 | .int i _=>eqV (.int i) x
 | .str z _=>eqV (.str z) x
 | _=>false
theorem zk0 {x y:V}{u:zc} (r:RelV y u) (f:Fb y=true):eqU x u=eqV y x:=by
 cases y with
 | non=>cases r;rfl
 | bl b=>cases r;rfl
 | int i=>obtain⟨t,rfl⟩:=r;rfl
 | str z=>obtain⟨t,rfl⟩:=r;rfl
 | _=>exact absurd (show false=true from f) qI
theorem zah {x:V}:∀{xs:List V}{us:List zc},Vals xs us->xs.all Fb=true->us.any (eqU x)=xs.any fun y=>eqV y x
 | _,_,.nil,_=>rfl
 | y::xs,u::us,.cons r t,f=>by
  rw[RX,vh] at f;rw[Jm,Jm,zk0 r f.1,zah t f.2]
theorem Im {A:jg}{s:zp}{x:V}{v:zc} (rx:RelV x v) (fx:Fb x=true):∀{xs:List V}{us:List zc},Vals xs us->xs.all Fb=true->∀u∈us,zgA A s u v (eqU x u)
 | _,_,.nil,_=>fun u hu=>by cases hu
 | y::xs,u::us,.cons r t,f=>fun u' hu=>by
  rw[RX,vh] at f;rcases List.mem_cons.mp hu with rfl | hu
  .rw[zk0 r f.1];exact zqV r rx f.1 fx
  .exact Im rx fx t f.2 u' hu
noncomputable def inV (x:V) (xs:List V):Bool:=xs.any fun y=>eqV y x
def rIn (K:zg) (neg:Bool):R2:=fun x y H Q=>∃p xs,y=.ref p/\(SqL K H p xs∨SqT K H p xs)/\Fb x=true/\xs.all Fb=true/\Q (.bl (if neg then !inV x xs else inV x xs)) H
theorem Ud:OpR X (compareOp .In) (rIn X.K false):=by
 intro zj s σ H x y v u Q I rx ry h;obtain⟨p,xs,rfl,hq,fx,fs,q⟩:=h;cases ry;rcases hq with hq | hq
 .obtain⟨its,r,pl,hz⟩:=I.list hq;refine SeqAt.in_listAt (eqU x) pl.isList (fun w hw=>Im rx fx r fs w (by simpa using hw)) ⟨.bl _,H,I,rfl,?_⟩;rw[show its.toArray.any (eqU x)=its.any (eqU x) by simp,zah r fs];exact q
 .obtain⟨its,r,pl,hz⟩:=I.tuple hq;refine SeqAt.in_tupleAt (eqU x) pl (fun w hw=>Im rx fx r fs w (by simpa using hw)) ⟨.bl _,H,I,rfl,?_⟩;rw[show its.toArray.any (eqU x)=its.any (eqU x) by simp,zah r fs];exact q
theorem vK:VP X (.builtin "len") (fun xs H Q=>∃p ys,xs=[.ref p]/\(SqL X.K H p ys∨SqT X.K H p ys)/\Q (.int ys.length) H):=by
 intro zj s σ H xs us Q I r h;obtain⟨p,ys,rfl,hq,q⟩:=h;obtain⟨u,rfl,rx⟩:=vals1 r;cases rx;have hn:=uh;rcases hq with hq | hq
 .obtain⟨its,r',pl,hz⟩:=I.list hq;have hlen:=r'.length;exact Calls.call_len_list pl.isList (by simp only[z7] <;> omega) ⟨.int ys.length,H,I.tok _,⟨s.toks+1,by rw[z7,hlen]⟩,q⟩
 .obtain⟨its,r',pl,hz⟩:=I.tuple hq;have hlen:=r'.length;exact len_tuple pl (by simp only[z7] <;> omega) ⟨.int ys.length,H,I.tok _,⟨s.toks+1,by rw[z7,hlen]⟩,q⟩
theorem Xl:VP X (.builtin "len") (fun xs H Q=>∃z,xs=[.str z]/\z.length<=sizeLine/\Q (.int z.length) H):=by
 intro zj s σ H xs us Q I r h;obtain⟨z,rfl,hz,q⟩:=h;obtain⟨u,rfl,t,rfl⟩:=vals1 r;have hn:=uh;exact len_str (by omega) ⟨.int z.length,H,I.tok _,⟨_,rfl⟩,q⟩
theorem zau:VP X (.type "list") (fun xs H Q=>∃p ys,xs=[.ref p]/\(SqL X.K H p ys∨SqT X.K H p ys)/\∀l,H l=none->Q (.ref l) (upd H l (.lst ys))):=by
 intro zj s σ H xs us Q I r h;obtain⟨p,ys,rfl,hq,q⟩:=h;obtain⟨u,rfl,rx⟩:=vals1 r;cases rx;have fin:∀(its:List zc),Vals ys its->ys.length<=sizeLine->∀(h':jW) (c':Nat),(∀b o',s.heap.get? b=some o'->h'.get? b=some o') ->
   h'.get? s.heap.objs.size=some { cls:=.type "list",dict:=none,data:=.seq its.toArray c',slots:=#[] }->EP X zj σ Q (.ref s.heap.objs.size) { s with heap:=h' }:=fun its r' hz h' c' kp e=>
  ⟨.ref s.heap.objs.size,_,I.laid (t':=s.toks) kp (zE _) (show Zn X.prog X.w _ h' _ (.lst ys) from ⟨hz,its,c',r',e⟩),rfl,q _ (I.hok.fresh (zE _))⟩
 rcases hq with hq | hq
 .obtain⟨its,r',pl,hz⟩:=I.list hq;have hlen:=r'.length;obtain⟨o,ho,hc,n,hd⟩:=pl.isList;exact Tc p (.inl rfl) ho hc hd (fun h' c' kp e=>fin its r' hz h' c' kp e) (by simp only[z7] <;> omega)
 .obtain⟨its,r',pl,hz⟩:=I.tuple hq;have hlen:=r'.length;obtain⟨o,ho,hc,n,hd⟩:=pl;exact Tc p (.inr rfl) ho hc hd (fun h' c' kp e=>fin its r' hz h' c' kp e) (by simp only[z7] <;> omega)
def tyV (K:zg) (T:String) (x:V) (H:Hp):Prop:=match x with
 | .str _=>T="str"
 | .int _=>T="int"
 | .ref p=>(T="list"/\∃xs,SqL K H p xs)∨(T="tuple"/\∃o,K.lookup p=some o/\o.cls=.type "tuple"/\o.dict=none) ∨
   (T="dict"/\((∃kvs,H p=some (.dK kvs))∨∃kvs,H p=some (.dT kvs)))∨(T="set"/\∃S n,H p=some (.set S n))
 | _=>False
theorem zmi {zj:List (zm×Obj)}{σ:St}{H:Hp}{s:zp}{T:String}{x:V}{v:zc} (I:Inv X zj σ H s) (r:RelV x v) (ty:tyV X.K T x H) :
  s.TypeIs v T/\∀a,v=.ref a->∃ob,s.heap.get? a=some ob/\ob.dict=none:=by
 cases x with
 | str z=>
  obtain⟨t,rfl⟩:=r;cases (show T="str" from ty);exact⟨Zd s z t,fun _ e=>nomatch e⟩
 | int i=>
  obtain⟨t,rfl⟩:=r;cases (show T="int" from ty);exact⟨Ng s i t,fun _ e=>nomatch e⟩
 | ref p=>
  cases r;rcases ty with ⟨rfl,xs,hq⟩ | ⟨rfl,o,hk,hc,hd⟩ | ⟨rfl,hk⟩ | ⟨rfl,S,n,hk⟩
  .obtain⟨its,_,pl,_⟩:=I.list hq;refine⟨pl.isList.typeIs,fun a e=>?_⟩;cases e;obtain⟨o,n,e,c,hd,_⟩:=pl;exact⟨o,e,hd⟩
  .refine⟨⟨o,I.kIn p o hk,hc⟩,fun a e=>?_⟩;cases e;exact⟨o,I.kIn _ o hk,hd⟩
  .have z:∃o,s.heap.get? p=some o/\o.ExactDict:=by
    rcases hk with ⟨kvs,hk⟩ | ⟨kvs,hk⟩
    .obtain⟨_,_,_,_,o,_,_,e,ex,_⟩:=I.hok p _ hk;exact⟨o,e,ex⟩
    .obtain⟨_,_,_,_,o,_,_,e,ex,_⟩:=I.hok p _ hk;exact⟨o,e,ex⟩
   obtain⟨o,e,ex⟩:=z;refine⟨⟨o,e,ex.1⟩,fun a e2=>?_⟩;cases e2;exact⟨o,e,ex.2.1⟩
  .obtain⟨o,_,_,_,e,ex,_⟩:=I.hok p _ hk;refine⟨⟨o,e,ex.1⟩,fun a e2=>?_⟩;cases e2;exact⟨o,e,ex.2.1⟩
 | _=>exact xQ ty
def zyG (K:zg) (T:String) (r:V->List V->Hp->VK->Prop) (to:TE):TE:=fun σ H Q=>to σ H fun x H1=>tyV K T x H1/\r x [] H1 Q
def tBM (K:zg) (T:String) (r:V->List V->Hp->VK->Prop) (to:TE) (t:TA):TE:=fun σ H Q=>to σ H fun x H1=>tyV K T x H1/\t σ H1 fun xs H2=>r x xs H2 Q
variable {o e:jD}{es:List jD}{to:TE}{t:TA}{name:Str}{WF Q8:Pos}{T id:String}{r:V->List V->Hp->VK->Prop}
theorem zrp (pa:Mx T) (slot:Slot T name id) (hty:typeOf (.builtin id)=pure (.type "method_descriptor")) (hm:MtR X id r) (ho:PE X o to)
  (hbase:attributeBase o name X.env (eval o X.env)=eval o X.env:=by rfl) (hline:(WF.endLine == Q8.line)=true:=by rfl):PE X (.Call (.Attribute o name WF) [] [] Q8) (zyG X.K T r to):=by
 intro zj s σ H Q I h;refine wpAny_Call_method0_late hbase hline (thn (ho zj s σ H _ I h) fun v s1 ⟨x,H1,I1,r1,ty,q1⟩=>?_);obtain⟨h1,h2⟩:=zmi I1 r1 ty;exact⟨T,id,pa,slot,hty,h1,h2,Zi rfl (PySem.evalArgs_none (hm zj s1 σ H1 x [] v [] Q I1 r1 .nil q1))⟩
theorem lO (pa:Mx T) (slot:Slot T name id) (hty:typeOf (.builtin id)=pure (.type "method_descriptor")) (hm:MtR X id r) (ho:PE X o to) (ha:PA X (e::es) t)
  (hbase:attributeBase o name X.env (eval o X.env)=eval o X.env:=by rfl)
  (hfew:((backTo Q8 (z9 (e::es) X.env)).all (fun x=>!x.1) && (backToKw Q8 (keywordEach [] X.env)).all (fun x=>x.1.isSome)
   && decide ((e::es).length+([]:List Vn).length+(if ([]:List Vn).isEmpty then 0 else 1)<30))=true:=by rfl)
  (hline:(WF.endLine == Q8.line)=true:=by rfl) (hs:z9 (e::es) X.env=(false,eval e X.env)::z9 es X.env:=by rfl) (hplain:(backTo Q8 (z9 es X.env)).any (·.1)=false:=by rfl) :
  PE X (.Call (.Attribute o name WF) (e::es) [] Q8) (tBM X.K T r to t):=by
 intro zj s σ H Q I h;refine lG hbase hfew hline rfl (thn (ho zj s σ H _ I h) fun v s1 ⟨x,H1,I1,r1,ty,q1⟩=>?_);obtain⟨h1,h2⟩:=zmi I1 r1 ty;refine⟨T,id,pa,slot,hty,h1,h2,?_⟩;have hA:=ha Q8 zj s1 σ H1 _ I1 q1;rw[hs] at hA ⊢;refine Zi (by show (false || (backTo Q8 (z9 es X.env)).any (·.1))=false;rw[hplain] <;> rfl) (Z4 ?_);exact thn hA fun us s2 ⟨vs,H2,I2,r2,q2⟩=>hm zj s2 σ H2 x vs v us Q I2 r1 r2 q2
end
def MtM (X:Cx) (id:String) (r:V->List V->Hp->VK->Prop):Prop:=
 ∀(zj:List (zm×Obj)) (s:zp) (σ:St) (H:Hp) (x:V) (xs:List V) (v:zc) (us:List zc) (Q:VK),Inv X zj σ H s->RelV x v->Vals xs us->r x xs H Q ->
  wpAny (model X.prog X.w) X.A (call (.builtin id) (v::us)) (EP X zj σ Q) X.xe s
theorem Vals.one:∀{x:V}{us:List zc},Vals [x] us->∃u,us=[u]/\RelV x u
 | _,_,.cons r .nil=>⟨_,rfl,r⟩
theorem Vals.rep {xs:List V}{us:List zc} (h:Vals xs us):∀k:Nat,Vals (qH k xs).flatten (qH k us).flatten
 | 0=>.nil
 | k+1=>by
  rw[yh,yh,yZ,yZ];exact Vals.append h (Vals.rep h k)
theorem foldl_rep (its:List zc):∀(k:Nat) (acc:List zc),
  uK (fun x1 x2=>x1++x2) acc.toArray (qH k its.toArray)=(acc++(qH k its).flatten).toArray
 | 0,acc=>by simp
 | k+1,acc=>by
  have e:acc.toArray++its.toArray=(acc++its).toArray:=by simp
  have e2:(acc++its)++(qH k its).flatten=acc++(qH (k+1) its).flatten:=by
   rw[yh,yZ,qQ]
  rw[<- e2,<- foldl_rep its k (acc++its),<- e,yh,Vp]
section
variable {X:Cx}{zj:List (zm×Obj)}{σ:St}{H:Hp}{s:zp}{l b:zm}{xs ys zs:List V}
theorem Inv.lset {its its':List zc}{n:Nat}{f:Array zc->Array zc} {t':Nat} (I:Inv X zj σ H s) (hH:H l=some (.lst xs))
  (e:s.heap.get? l=some { cls:=.type "list",data:=.seq its.toArray n }) (hf:f its.toArray=its'.toArray) (hv:Vals ys its') (hz:ys.length<=sizeLine) (ht:0<t':=by first|exact jJ _|assumption|exact Inv.tk ‹_›|exact Inv.tkL ‹_› ‹_›|(have:=Inv.tk ‹_›;simp only[] at *;omega)) :
  Inv X zj σ (upd H l (.lst ys)) { s with heap:=s.heap.update l (Ql f),toks:=t' }:=by
 have q:=PySem.IsL.update e f;rw[hf] at q;refine I.write (x:=l) (e:=l) (by rw[hH];exact trivial) (.inl rfl) (fun b' u hb hu=>(K6 s.heap (Ql f) (Xy hb)).trans hu) ⟨_,q⟩ ?_;exact⟨hz,its',_,hv,q⟩
theorem Inv.lnew {its:List zc} {t':Nat} (I:Inv X zj σ H s) (hv:Vals ys its) (hz:ys.length<=sizeLine) (ht:0<t':=by first|exact jJ _|assumption|exact Inv.tk ‹_›|exact Inv.tkL ‹_› ‹_›|(have:=Inv.tk ‹_›;simp only[] at *;omega)) :
  Inv X zj σ (upd H s.heap.objs.size (.lst ys)) { s with heap:=s.heap.push { cls:=.type "list",data:=.seq its.toArray },toks:=t' }:=
 I.laid (fun _ _ q=>zO _ q) (zE _) ⟨hz,its,0,hv,jf _ rfl⟩
theorem Inv.fresh (I:Inv X zj σ H s):H s.heap.objs.size=none:=I.hok.fresh (zE _)
theorem Inv.lstM (I:Inv X zj σ H s) (hH:H l=some (.lst xs)):xs.length<=sizeLine/\∃(its:List zc) (n:Nat),Vals xs its/\xs.length=its.length/\s.heap.get? l=some { cls:=.type "list",data:=.seq its.toArray n }:=by
 obtain⟨z,its,n,r,e⟩:=I.hok l _ hH;exact⟨z,its,n,r,r.length,e⟩
theorem zcV {n:Nat} (h:n<=sizeLine):Qi n=false:=by
 unfold Qi;exact decide_eq_false (by omega)
end
section
variable {X:Cx}
def zoG:V->List V->Hp->VK->Prop:=fun x vs H Q=>∃l xs y,x=.ref l/\vs=[y]/\H l=some (.lst xs)/\xs.length<sizeLine/\Q .non (upd H l (.lst (xs++[y])))
theorem Qx:MtM X "list.append" zoG:=by
 intro zj s σ H x vs v us Q I rx rv h;obtain⟨l,xs,y,rfl,rfl,hH,hz,q⟩:=h;cases rx;obtain⟨u,rfl,ru⟩:=rv.one;obtain⟨z,its,n,r,hl,e⟩:=I.lstM hH;refine Qm F.slot_list_append ⟨_,e,rfl⟩ F.entry_list_append (F.args_list_append_2 _ _) (PySem.list_append l its.toArray n u (by rw[z7];omega)) ⟨e,?_⟩;refine⟨.non,_,I.lset (its':=its++[u]) hH e (by simp) (r.append (.cons ru .nil)) ?_,rfl,q⟩;rw[zM,yz];omega
def zoH:V->List V->Hp->VK->Prop:=fun x vs H Q=>∃l b xs zs,x=.ref l/\vs=[.ref b]/\H l=some (.lst xs)/\H b=some (.lst zs)/\xs.length+zs.length<=sizeLine/\Q .non (upd H l (.lst (xs++zs)))
theorem ziR:MtM X "list.extend" zoH:=by
 intro zj s σ H x vs v us Q I rx rv h;obtain⟨l,b,xs,zs,rfl,rfl,hH,hB,hz,q⟩:=h;cases rx;obtain⟨u,rfl,ru⟩:=rv.one;cases ru;obtain⟨z,its,n,r,hl,e⟩:=I.lstM hH;obtain⟨z2,its2,n2,r2,hl2,e2⟩:=I.lstM hB;have hsz:its.toArray.size+its2.toArray.size<=sizeLine:=by rw[z7,z7];omega
 have zle:¬(!its.toArray.isEmpty && Qi (its.toArray.size+its2.toArray.size))=true:=by
  rw[zcV hsz,Bool.and_false];exact qI
 refine Qm F.slot_list_extend ⟨_,e,rfl⟩ F.entry_list_extend (F.args_list_extend_2 _ _)
  (AutoSeq1.list_extend_list_list_0 l its.toArray n b its2.toArray n2 zle (by rw[z7];omega) (by omega)) ⟨e,e2,?_⟩
 refine⟨.non,_,I.lset (its':=its++its2) hH e (by simp) (r.append r2) ?_,rfl,q⟩;rw[zM];omega
def zyq:R2:=fun x y H Q=>∃l b xs zs,x=.ref l/\y=.ref b/\H l=some (.lst xs)/\H b=some (.lst zs)/\xs.length+zs.length<=sizeLine/\∀p,H p=none->Q (.ref p) (upd H p (.lst (xs++zs)))
theorem DP:OpR X (binaryOp .Add) zyq:=by
 intro zj s σ H x y v u Q I rx ry h;obtain⟨l,b,xs,zs,rfl,rfl,hH,hB,hz,q⟩:=h;cases rx;cases ry;obtain⟨z,its,n,r,hl,e⟩:=I.lstM hH;obtain⟨z2,its2,n2,r2,hl2,e2⟩:=I.lstM hB;refine PySem.P.add_list e e2 ?_ (by rw[z7,z7];omega);have ea:its.toArray++its2.toArray=(its++its2).toArray:=by simp
 rw[ea];exact⟨.ref _,_,I.lnew (t':=s.toks) (r.append r2) (by rw[zM];omega),rfl,q _ I.fresh⟩
def zyz:R2:=fun x y H Q=>∃l k xs,x=.ref l/\y=.int k/\H l=some (.lst xs)/\-(2 ^ 63)<=k/\k<2 ^ 63/\xs.length*k.toNat<=sizeLine /\
 ∀p,H p=none->Q (.ref p) (upd H p (.lst (qH k.toNat xs).flatten))
theorem len_rep {α:Type} (xs:List α) (k:Nat):(qH k xs).flatten.length=k*xs.length:=by
 induction k with
 | zero=>simp
 | succ k ih=>rw[yh,yZ,zM,ih,Q3,Nat.add_comm]
theorem zrk:OpR X (binaryOp .Mult) zyz:=by
 intro zj s σ H x y v u Q I rx ry h;obtain⟨l,k,xs,rfl,rfl,hH,h1,h2,hz,q⟩:=h;cases rx;obtain⟨t,rfl⟩:=ry;obtain⟨z,its,n,r,hl,e⟩:=I.lstM hH;have hlen:its.toArray.size*k.toNat<=sizeLine:=by rw[z7,<- hl];exact hz
 have zyf:¬its.toArray.size*k.toNat > (2 ^ 63-1) / 8:=by
  have:(sizeLine:Nat)<=(2 ^ 63-1) / 8:=by decide
  omega
 have hfit:¬(!Mj k)=true:=by
  rw[fitsIndex_both h1 h2];exact qI
 have zle:¬Qi (its.toArray.size*k.toNat)=true:=by
  rw[zcV hlen];exact qI
 have hnew:uK (fun x1 x2=>x1++x2) #[] (qH (if its.toArray.isEmpty=true then 0 else k.toNat) its.toArray)=(qH k.toNat its).flatten.toArray:=by
  have f0:∀m:Nat,uK (fun x1 x2=>x1++x2) #[] (qH m its.toArray)=(qH m its).flatten.toArray:=fun m=>by
   have:=foldl_rep its m [];rw[Je] at this;exact this
  rw[f0];cases its with
  | nil=>simp
  | cons a r'=>rw[if_neg (by simp)]
 refine wpAny_binaryOp_repeat_ref (T:="list") (U:="int") (by decide) ⟨_,e,rfl⟩ (fun s'=>Ng s' k t) noFill_list_mul F.fills_int_mul F.slot_int_rmul repeat_list F.slot_int_index.lookup
  (Qm F.slot_int_rmul (Ng s k t) F.entry_int_rmul (F.args_int_rmul_2 _ _) (int___rmul___int_list k t l its.toArray n)
   ⟨e,rfl,⟨_,e,rfl⟩,Qm F.slot_list_mul ⟨_,e,rfl⟩ F.entry_list_mul (F.args_list_mul_2 _ _) (AutoListH.list___mul___list_int_3 l its.toArray n k t hfit zyf zle) ⟨e,?_⟩⟩)
 rw[hnew];exact⟨.ref _,_,I.lnew (t':=s.toks) (r.rep k.toNat) (by rw[len_rep,Q0];exact hz),rfl,q _ I.fresh⟩
end
section
variable {prog:qz}{w:jd}{A:jg}{E:zc->zp->Prop}{s:zp}
end
section
variable {X:Cx}
end
end L2
namespace Att
open PySem PySem.W PySem.Calls PyProof.Rows
theorem Ge {P:wC}{h:jW}:∀(ns:List Int) (vs:List zc),WellAll P h vs (ns.map Zu)->Yy vs ns:=by
 intro ns
 induction ns with
 | nil=>
  intro vs w;rw[bj] at w;cases w;exact .nil
 | cons n ns ih=>
  intro vs w;rw[zY] at w;cases w with
  | cons a b=>
   cases a;exact .cons _ _ (ih _ b)
theorem zji {l:OpenLaw}{n:Nat} (hn:l.most=some n){P:wC}{h:jW}{args:List WData}{vals:List zc}
  (hpre:l.row.toRowW.claim.pre args=true) (hwl:WellAll P h vals args) :
  ∃a vs ns,vals=[jx a]/\args=[lC (ns.map Zu)]/\h.get? a=some { cls:=.type "list",data:=.seq vs.toArray }/\Yy vs ns/\ns.length<=n:=by
 have hsh:WShape.hasAll [] args [.list .int]=true:=(pre_splitW hpre).1;have hc:l.pre.holds [] { args:=args }=true:=(pre_splitW hpre).2;obtain⟨d,r,rfl,h1,h2⟩:=hasAllW_cons hsh;obtain rfl:=hasAllW_nil h2;obtain⟨xs,rfl,h3⟩:=hasW_list h1;obtain⟨ns,rfl⟩:=items_int h3;have hlen:ns.length<=n:=by
  unfold OpenLaw.pre at hc;have h4:(WTm.not (.lt (.lit (.int (n:Int))) (.len (.arg 0)))).holds [] { args:=[.list (ns.map .int)] }=true:=by
   have h4:=(holds_andW hc).1;rw[hn] at h4;exact h4
  have h5:=condW_of h4 (w_not (w_lt w_lit (w_len_list (w_arg rfl))));rw[zf] at h5;refine Nat.le_of_not_lt fun q=>?_;have q':(n:Int)<((ns.length:Nat):Int):=by omega
  first
   | (rw[decide_eq_true q'] at h5;exact absurd h5 (by decide))
   | (simp at h5;omega)
 cases hwl with
 | cons w1 w2=>
  cases w2;cases w1 with
  | list ho hall=>exact⟨_,_,ns,rfl,rfl,ho,Ge ns _ hall,hlen⟩
theorem zi8 (l:OpenLaw) (args:List WData):l.row.toRowW.claim.post args (.bool true) args=true:=
 postW_of (r:=l.row.toRowW) (X:=(true == true))
  (show zgF [] (.bool true) .bool=true by first | rfl | decide | simp[zgF,WShape.arms,WShape.armsAll])
  (show (WTm.eq .res (.lit (.bool true))).value [] { args:=args,res:=some (.bool true),after:=args }=some (.bool (true == true)) from w_eq_bool (w_res rfl) w_lit) rfl
theorem zll {ns:List Int} (h:WData.layableAll [lC (ns.map Zu)]=true):∀x∈ns,vZ x<=1048576:=by
 have h1:sZ (lC (ns.map Zu))=true:=by
  have h':(sZ (lC (ns.map Zu)) && true)=true:=h;rwa[RN] at h'
 unfold sZ at h1;rw[vh] at h1;have h2:=of_decide_eq_true h1.2;have h3:Jh (ns.map Zu)<=2 ^ 20:=by
  have e:Wl (lC (ns.map Zu))=Jh (ns.map Zu):=by simp only[Wl]
  rwa[e] at h2
 have h4:∀(l:List Int),∀x∈l,Wl (Zu x)<=Jh (l.map Zu):=by
  intro l
  induction l with
  | nil=>intro x hx;cases hx
  | cons y r ih=>
   intro x hx;have e:Jh ((y::r).map Zu)=Wl (Zu y)+1+Jh (r.map Zu):=by
    rw[zY];simp only[Jh]
   rw[e];rcases List.mem_cons.mp hx with z | z
   .subst z;omega
   .have:=ih x z;omega
 intro x hx;have h5:=qd (h4 ns x hx) h3;have e:Wl (Zu x)=vZ x:=by
  simp only[Wl];unfold vZ;by_cases hz:x=0
  .subst hz;rfl
  .have hb:(x == 0)=false:=by simpa using hz
   simp[hz]
 rw[e] at h5;exact h5
theorem attach_call {l:OpenLaw}{n:Nat}{q:qz}{loose:List Str}{XP:(Str->Option zc)->jW->Prop}{YP:jd->jW->Prop}{d:DefRec}
  (hn:l.most=some n) (hdf:d.params.defaults=[])
  (call:∀(w:jd) (s₀ s₁:zp) (mg mb:Str->Option zc) (fa:zm) (o:Obj) (pm cd doc:zc) (a:zm) (vs:List zc) (ns:List Int),
   Ground q loose [] XP w s₀ mg mb s₁.heap->YP w s₁.heap ->
   s₁.heap.get? fa=some o->o.data=.func (docDef d.name d.params d.body d.scope pm cd doc)->s₁.heap.CodeRec cd d.name->mg d.name=some (.ref fa) ->
   s₁.heap.get? a=some { cls:=.type "list",data:=.seq vs.toArray }->Yy vs ns->ns.length<=n->(∀x∈ns,vZ x<=1048576)->s₁.gens=#[] ->
   codeAny (model l.prog w) callerA (.call (.ref fa) ⟨[.ref a],[]⟩) (fun r s'=>r=.ok (.ret (.bool true))/\OldK s₁.heap s'.heap/\s'.os=s₁.os/\K3 s'.gens) s₁) :
  WalkO q loose XP YP l.row.toRowW d [] (fun f vs=>uY f vs):=by
 intro w s₀ s₁ mg mb G Y fa o pm cd doc dV kV ho hd hcd hD hmg hg args vals as hpre hlay hrd hwl hlo;obtain rfl:dV=.none:=Dflts.none hD hdf;obtain rfl:kV=.none:=Dflts.noKw hD;obtain⟨a,vs,ns,rfl,rfl,hobj,hints,hlen⟩:=zji hn hpre hwl;refine enter_call (Q5 (call w s₀ s₁ mg mb fa o pm cd doc a vs ns G Y ho (fd_plain hd) hcd hmg hobj hints hlen (zll hlay) hg) fun r s' hq=>?_);obtain⟨rfl,h2,h3,h4⟩:=hq;exact⟨.inl ⟨.bool true,.bool true,[],rfl,fun _=>rfl,.bool true,zi8 l _,fun _=>⟨JD,fun _ hm=>(nomatch hm)⟩⟩,h2,h3,h4⟩
section
variable {prog:qz}{w:jd}{A:jg}{E:zc->zp->Prop}{s:zp}{K:Frag}
end
end Att
namespace L2
open PySem PySem.Spec PyProof.Rows
theorem Eh:∀{vs:List zc}{ns:List Int},Yy vs ns->Vals (ns.map V.int) vs
 | _,_,.nil=>.nil
 | _,_,.cons n t h=>.cons ⟨t,rfl⟩ (Eh h)
def Only (H:Hp):Prop:=∀b,H b=none∨∃o xs,H b=some (.frz o (.lst xs))
theorem zlk {P:qz}{w:jd}{K:zg}{mg mb:Str->Option zc}{CX:CXT}{k:Nat}{fa a:zm}{fd:jQ}{x:Str}{sp:Sp}{s₁:zp}{vs:List zc}{ns:List Int}
  (KX:K.In s₁.heap) (hns:s₁.heap.Ns qp mg) (hb:s₁.heap.Ns builtinsNs mb) (hbb:∀x:Str,x≠"__name__"->mb x=bootBuiltins x) (hlim:s₁.heap.NoLimit) (hsr:s₁.heap.NoSeer) (hg:s₁.gens=#[])
  (ha:s₁.heap.get? a=some { cls:=.type "list",data:=.seq vs.toArray }) (hi:Yy vs ns) (hl:ns.length<=sizeLine) (hr:JG k callerA) (hfx:fd.scope.names.lookup x=some .local)
  (F:∀base:jW,K.In base->base.Ns qp mg->Kc P w K mg base CX k fa fd [x] sp) (hbind:∀(s:zp) (u:zc),pX s fd ⟨[u],[]⟩ [(x,u)])
  (hsp:∀H:Hp,Only H->SqL K H a (ns.map V.int)->sp [.ref a] H (fun v _=>v=.bl true) fun _ _ _=>False)
  (hCX:∀H e s',CX [] H s₁ (fun _ _ _=>False) e s'->False) :
  codeAny (model P w) callerA (.call (.ref fa) ⟨[.ref a],[]⟩) (fun r s'=>r=.ok (.ret (.bool true))/\OldK s₁.heap s'.heap/\s'.os=s₁.os/\K3 s'.gens) s₁:=by
 have rv:=Eh hi;have lenV:=hi.length;have core:∀H:Hp,Only H->SqL K H a (ns.map V.int)->HOk P w H s₁.heap->(∀b,H b≠none->b=a)->(H a≠none->K.lookup a=none) ->
   codeAny (model P w) callerA (.call (.ref fa) ⟨[.ref a],[]⟩) (fun r s'=>r=.ok (.ret (.bool true))/\OldK s₁.heap s'.heap/\s'.os=s₁.os/\K3 s'.gens) s₁:=by
  intro H hO hS hok hA hK;have zap:∀{b:zm}{o:Obj},s₁.heap.get? b=some o->H b=none->(Pa s₁.heap H).get? b=some o:=fun e n=>zlb e n;have noA:∀{b:zm}{o:Obj}{es:Array Ej}{ep:Nat},s₁.heap.get? b=some o->o.data=.dict es ep->H b=none:=fun {b o es ep} e d=>by
   cases q:H b with
   | none=>rfl
   | some u=>
    have e':b=a:=hA b (by rw[q];simp);subst e';rw[ha] at e;cases e;have d':Data.seq vs.toArray _=Data.dict es ep:=d;cases d'
  have nsK:∀{b:zm}{m:Str->Option zc},s₁.heap.Ns b m->(Pa s₁.heap H).Ns b m:=fun {b m} ⟨o,es,ep,e,d,r⟩=>⟨o,es,ep,zap e (noA e d),d,r⟩;have hKb:K.In (Pa s₁.heap H):=fun b o e=>zap (KX b o e) (by
   cases q:H b with
   | none=>rfl
   | some u=>
    have e':b=a:=hA b (by rw[q];simp);subst e';rw[hK (by rw[q];simp)] at e;cases e)
  have noC:∀{b:zm}{o:Obj},s₁.heap.get? b=some o->o.cls≠.type "list"->H b=none:=fun {b o} e d=>by
   cases q:H b with
   | none=>rfl
   | some u=>
    have e':b=a:=hA b (by rw[q];simp);subst e';rw[ha] at e;cases e;exact absurd rfl d
  have hSr:(Pa s₁.heap H).NoSeer:=⟨let ⟨mc,h1,h2⟩:=hsr.statics;⟨mc,nsK h1,h2⟩,let ⟨mc,h1,h2⟩:=hsr.mods;⟨mc,nsK h1,h2⟩,let ⟨mc,h1,h2⟩:=hsr.imp;⟨mc,nsK h1,h2⟩,
   let ⟨mg',bm,ob,h1,h2,h3,h4,h5⟩:=hsr.main;⟨mg',bm,ob,nsK h1,h2,zap h3 (noC h3 (by rw[h4];decide)),h4,h5⟩⟩
  have hM:Mod K mg (Pa s₁.heap H):=⟨hKb,nsK hns,⟨mb,nsK hb,hbb⟩,let ⟨mc,h1,h2⟩:=hlim;⟨mc,nsK h1,h2⟩,hSr⟩;have e0:ze2 P w K mg (Pa s₁.heap H) callerA [] s₁ H:=⟨rfl,hM,fun b o e=>zol e,Ce (ziL _ _),trivial,fun b hb=>absurd (show b∈([]:List zm) from hb) (by simp),hok,.of_eq hg⟩;refine Q5 ((F _ hKb (nsK hns)).run callerA [] s₁ H ⟨[.ref a],[]⟩ [.ref a] [.ref a] _ _ hr e0 (.inr ⟨x,[],rfl,hfx⟩) (hbind s₁ (.ref a)) (.cons rfl .nil) (hsp H hO hS)) fun r s' h=>?_;cases r with
  | error e=>exact(hCX H e s' h).elim
  | ok fl=>
   cases fl with
   | next=>exact xQ h
   | brk=>exact xQ h
   | cont=>exact xQ h
   | ret u=>
    obtain⟨v,H',os,bare,un,hok',r',q⟩:=h;have q':v=.bl true:=q;subst q';obtain rfl:u=lB true:=r';refine⟨rfl,OldK.of_keep fun b o e=>?_,os.1,bare⟩;cases q:H b with
    | none=>exact un.keep b o e q (by intro z;exact absurd (show b∈([]:List zm) from z) (by simp)) (by simp)
    | some u=>
     rcases hO b with z | ⟨ob,xs,z⟩
     .rw[q] at z;cases z
     .have z2:=un.frzs b ob _ z;obtain⟨e1,_⟩:=hok b _ z;obtain⟨e2,_⟩:=hok' b _ z2;rw[e] at e1;cases e1;exact e2
 cases hk:K.lookup a with
 | some o=>
  have e:=KX a o hk;rw[ha] at e;cases e;refine core (fun _=>none) (fun _=>.inl rfl) (.inr ⟨_,vs.toArray,_,hk,rfl,rfl,rfl,by rw[z7,lenV];exact hl,by simpa using rv⟩) (fun b u z=>by have z':(none:Option HO)=some u:=z;cases z') (fun b z=>absurd rfl z) fun z=>absurd rfl z
 | none=>
  refine core (fun b=>if b=a then some (.frz { cls:=.type "list",data:=.seq vs.toArray } (.lst (ns.map V.int))) else none) (fun b=>?_) (.inl (.inr ⟨{ cls:=.type "list",data:=.seq vs.toArray },if_pos rfl⟩)) (fun b u z=>?_) (fun b z=>?_) fun _=>hk
  .by_cases hb:b=a
   .exact .inr ⟨_,_,if_pos hb⟩
   .exact .inl (if_neg hb)
  .by_cases hb:b=a
   .have z':=(if_pos hb).symm.trans z;cases z';subst hb;exact⟨ha,by rw[zf];exact hl,vs,_,rv,ha⟩
   .have z':=(if_neg hb).symm.trans z;cases z'
  .by_cases hb:b=a
   .exact hb
   .exact absurd (if_neg hb) z
theorem walk_of {l:lV}{n k:Nat}{q:qz}{loose:List Str}{XP:(Str->Option zc)->jW->Prop}{YP:jd->jW->Prop}{d:DefRec}{K:wC->zg}{CX:jd->CXT}{sp:jd->Sp}{x:Str}
  (hn:l.most=some n) (hn2:n<=sizeLine) (hdf:d.params.defaults=[]) (hq:importsNone q=true) (hr:JG k callerA)
  (hY:∀(w:jd) (h:jW),YP w h->(K w.params).In h)
  (F:∀(w:jd) (mg:Str->Option zc) (fa:zm) (h:jW),(K w.params).In h->h.Ns qp mg->mg d.name=some (.ref fa) ->
   ∃fd:jQ,((∀(s:zp) (u:zc),pX s fd ⟨[u],[]⟩ [(x,u)])/\fd.scope.names.lookup x=some .local) /\
    ∀base:jW,(K w.params).In base->base.Ns qp mg->Kc l.prog w (K w.params) mg base (CX w) k fa fd [x] (sp w))
  (hsp:∀(w:jd) (H:Hp) (a:zm) (ns:List Int),ns.length<=n->(∀x∈ns,vZ x<=1048576)->Only H->SqL (K w.params) H a (ns.map V.int)->sp w [.ref a] H (fun v _=>v=.bl true) fun _ _ _=>False)
  (hCX:∀(w:jd) (H:Hp) (s:zp) (e:zc) (s':zp),CX w [] H s (fun _ _ _=>False) e s'->False) :
  S7 q loose XP YP l.row.toRowW d [] (fun f vs=>uY f vs):=by
 refine Att.attach_call hn hdf fun w s₀ s₁ mg mb fa o pm cd doc a vs ns G Y ho hd hcd hmg hobj hints hlen hbt hg=>?_;have KX:=hY w _ Y;obtain⟨fd,hb,hF⟩:=F w mg fa _ KX G.T.g hmg;exact zlk KX G.T.g G.T.b G.T.builtins G.T.nolimit (G.T.seer hq) hg hobj hints (qd hlen hn2) hr hb.2 hF hb.1 (fun H hO hS=>hsp w H a ns hlen hbt hO hS) fun H e s'=>hCX w H s₁ e s'
def inClass (s:jV) (j:Nat):jV:=match s with
 | .ClassDef _ _ _ body _ _ _ _ _ _ _=>body.getD j (.Pass ⟨0,0,0,0⟩)
 | _=>.Pass ⟨0,0,0,0⟩
noncomputable def yU (s:jV):Arguments:=match s with
 | .FunctionDef _ a _ _ _ _ _ _ _ _=>a
 | _=>{ posonlyargs:=[],args:=[],vararg:=none,kwonlyargs:=[],kw_defaults:=[],kwarg:=none,defaults:=[] }
noncomputable def wD (s:jV):List jV:=match s with
 | .FunctionDef _ _ b _ _ _ _ _ _ _=>b
 | _=>[]
noncomputable def zP (s:jV):Zr:=match s with
 | .FunctionDef _ _ _ _ _ _ sc _ _ _=>sc
 | _=>{ kind:=.function,names:=[],isGenerator:=false,isCoroutine:=false }
abbrev CX0:CXT:=fun _ _ _ _ _ _=>False
abbrev E0:XK:=fun _ _ _=>False
theorem zwR {X:Cx}:zfa CX0 X E0:=fun _ _ _ _ _ _ _ h=>h.elim
structure Fun (K:zg) (x qual:Str) (st:jV) (f:zm) (fd:jQ):Prop where
 ex:∃(oc:zc) (od:Option zm) (kV doc pm:zc) (an:Option zm) (cdv ct:zc) (osl:Array (Option zc)),
  fd=xj x qual (yU st) (wD st) (zP st) .none kV doc pm an cdv ct/\K.lookup f=some ⟨oc,od,.func fd,osl⟩/\vD K cdv qual=true
 kp:jR K (.ref f)=true
section
variable {P:qz}{w:jd}{K:zg}{mg:Str->Option zc}{base:jW}
theorem Fun.ok {x qual:Str}{st:jV}{f:zm}{fd:jQ}{N ps:List Str}{k:Nat}{sp:Sp} (F:Fun K x qual st f fd) (S:qU N ps (zP st)) (len:∀vs H Q E,sp vs H Q E->vs.length=ps.length)
  (hbody:∀(cdv:zc) (A:jg) (outer:List Env) (s:zp) (H:Hp) (vs:List V) (Q:VK) (E:XK),JG k (A.deeper (envOfC qual (zP st) s.heap.objs.size f cdv))->sp vs H Q E ->
   ∃t,PSs (yI CX0 P w K mg base N qual (zP st) f cdv A outer s H E).nox (wD st) t/\t { nx:=fun _ H'=>Q .non H',rt:=Q } (start N vs) H):Kc P w K mg base CX0 (k+1) f fd ps sp:=by
 obtain⟨oc,od,kV,doc,pm,an,cdv,ct,osl,rfl,lk,hcd⟩:=F.ex;refine zhd lk hcd S len fun A outer s H vs Q E hr hsp=>?_;obtain⟨t,h,q⟩:=hbody cdv A outer s H vs Q E hr hsp;exact⟨t,h.nox,q⟩
theorem Fun.binds {x qual:Str}{st:jV}{f:zm}{fd:jQ}{ps:List Str} (F:Fun K x qual st f fd)
  (h:∀(kV doc pm:zc) (an:Option zm) (cdv ct:zc) (us:List zc),us.length=ps.length->bindArgs (xj x qual (yU st) (wD st) (zP st) .none kV doc pm an cdv ct) ⟨us,[]⟩=pure (ps.zip us)):Binds K fd ps []:=by
 obtain⟨oc,od,kV,doc,pm,an,cdv,ct,osl,rfl,lk,hcd⟩:=F.ex;exact .all (h kV doc pm an cdv ct)
theorem bI {x qual:Str}{st:jV}{f:zm}{oc:zc}{od an:Option zm}{osl:Array (Option zc)}{kV doc pm cdv ct:zc} (l:K.lookup f=some ⟨oc,od,.func (xj x qual (yU st) (wD st) (zP st) .none kV doc pm an cdv ct),osl⟩)
  (c:vD K cdv qual=true) (k:jR K (.ref f)=true):Fun K x qual st f (xj x qual (yU st) (wD st) (zP st) .none kV doc pm an cdv ct):=⟨⟨oc,od,kV,doc,pm,an,cdv,ct,osl,rfl,l,c⟩,k⟩
end
theorem Bb {A:jg}{k:Nat} (hr:JG k A):A.units+1<cLine:=cG (Nat.add_le_add_left (by decide:1<=64) _) hr.units
theorem yV {n:Nat} (h:n<=1000):n<sizeLine:=cG h (by decide)
section
variable {X:Cx}
theorem pv (i:Nat){x:Str}{pos:Pos} (hN:X.N[i]?=some x:=by rfl) (hv:Vis X.env.scope x:=by first | exact zN rfl | exact cH (zN rfl) | exact cH (cH rfl)) (hd:(x == ("__debug__":Str))=false:=by decide)
  (hcd:(x == ("__classdict__":Str))=false:=by decide):PE X (.Name x pos) (zxm i):=zrr hN hv hd hcd
end
theorem Vu {A B:Prop} (h:B):if false=true then A else B:=by
 rw[if_neg qI];exact h
theorem Ib {A B:Prop} (h:A):if true=true then A else B:=by
 rw[if_pos rfl];exact h
theorem zyi {c A B:Prop} [Decidable c] (h1:c->A) (h2:¬c->B):if c then A else B:=by
 by_cases h:c
 .rw[if_pos h];exact h1 h
 .rw[if_neg h];exact h2 h
theorem zs3 {c A B:Prop} [Decidable c] (hc:c) (h:B):if (!decide c)=true then A else B:=by
 rw[decide_eq_true hc];exact Vu h
def zX (H H':Hp):Prop:=∀b o,H b=some o->H' b=some o
theorem zX.refl (H:Hp):zX H H:=fun _ _ h=>h
theorem zX.trans {H H1 H2:Hp} (a:zX H H1) (b:zX H1 H2):zX H H2:=fun c o h=>b c o (a c o h)
theorem zX.free {H H':Hp} (e:zX H H'){l:zm} (h:H' l=dF):H l=dF:=by
 cases q:H l with
 | none=>rfl
 | some o=>
  rw[e l o q] at h;cases h
theorem zX.seq {K:zg} {H H':Hp}{a:zm}{xs:List V} (e:zX H H') (h:SqL K H a xs):SqL K H' a xs:=by
 rcases h with (h | ⟨o,h⟩) | h
 .exact .inl (.inl (e _ _ h))
 .exact .inl (.inr ⟨o,e _ _ h⟩)
 .exact .inr h
section
variable {X:Cx}
def zwV:R2:=fun x y H Q=>∃i j,x=.int i/\y=.int j/\Q (.int (i+j)) H
def zw6:R2:=fun x y H Q=>∃i j,x=.int i/\y=.int j/\Q (.int (i-j)) H
theorem jP:OpR X (binaryOp .Add) zwV:=zrh
theorem ZM:OpR X (binaryOp .Sub) zw6:=zrm
def zpE (i j:Int):Prop:=∃m n:Nat,vZ i<=m/\vZ j<=n/\m+n<=134217728
def zw1:R2:=fun x y H Q=>∃i j,x=.int i/\y=.int j/\zpE i j/\Q (.int (i*j)) H
theorem ZZ:OpR X (binaryOp .Mult) zw1:=opI (C:=zpE) (g:=fun i j=>i*j) fun _ _ _ _ _ _ _ hc q=>by
 obtain⟨m,n,h1,h2,h3⟩:=hc;exact mul_int q (IntMulOk.of_le h1 h2 h3)
def zpD (j:Int):Prop:=0<j/\vZ j<=9000
def zwW:R2:=fun x y H Q=>∃i j,x=.int i/\y=.int j/\zpD j/\Q (.int (i / j)) H
theorem bT:OpR X (binaryOp .FloorDiv) zwW:=opI (C:=fun _ j=>zpD j) (g:=fun i j=>i / j) fun i j _ _ _ _ _ hc q=>by
 have h1:(0:Int)<j:=hc.1;have h3:j.natAbs.log2<9000:=(Nat.log2_lt (by omega)).mpr (intBits_le_iff.mp hc.2);exact floordiv_int (by omega) (by rw[cD i (by omega)];exact q) (.inl (PyProof.noPylong_of_log2 h3))
def zw0:R2:=fun x y H Q=>∃i j,x=.int i/\y=.int j/\0<j/\Q (.int (i % j)) H
theorem vQ:OpR X (binaryOp .Mod) zw0:=zri
def zw3:R2:=fun x y H Q=>∃i j,x=.int i/\y=.int j/\znT i j/\Q (.int (i ^ j.toNat)) H
theorem zoA:OpR X (binaryOp .Pow) zw3:=zrj
def zw5:R2:=fun x y H Q=>∃i j,x=.int i/\y=.int j/\znT i j/\Q (.int (i*2 ^ j.toNat)) H
theorem zoB:OpR X (binaryOp .LShift) zw5:=zrl
def zyx:R2:=fun x y H Q=>∃i j,x=.int i/\y=.int j/\Q (.bl (decide (i<j))) H
def zyw:R2:=fun x y H Q=>∃i j,x=.int i/\y=.int j/\Q (.bl (decide (i<=j))) H
def zyt:R2:=fun x y H Q=>∃i j,x=.int i/\y=.int j/\Q (.bl (decide (j<i))) H
def zys:R2:=fun x y H Q=>∃i j,x=.int i/\y=.int j/\Q (.bl (decide (j<=i))) H
def zyr:R2:=fun x y H Q=>∃i j:Int,x=.int i/\y=.int j/\Q (.bl (decide (i=j))) H
def zyy:R2:=fun x y H Q=>∃i j:Int,x=.int i/\y=.int j/\Q (.bl (!decide (i=j))) H
theorem bU:OpR X (compareOp .Lt) zyx:=zwO
theorem zlH:OpR X (compareOp .LtE) zyw:=zwN
theorem Ks:OpR X (compareOp .Gt) zyt:=zwM
theorem zaP:OpR X (compareOp .GtE) zys:=zwL
theorem Zy:OpR X (compareOp .Eq) zyr:=by
 intro zj s σ H x y v u Q I rx ry h;obtain⟨i,j,rfl,rfl,q⟩:=h;refine nQ zj s σ H _ _ v u Q I rx ry ⟨rfl,?_⟩;have e:decide (V.int i=V.int j)=decide (i=j):=decide_eq_decide.mpr ⟨fun z=>V.int.inj z,fun z=>by rw[z]⟩;rw[e];exact q
theorem zfF:OpR X (compareOp .NotEq) zyy:=by
 intro zj s σ H x y v u Q I rx ry h;obtain⟨i,j,rfl,rfl,q⟩:=h;refine zlI zj s σ H _ _ v u Q I rx ry ⟨rfl,?_⟩;have e:decide (V.int i=V.int j)=decide (i=j):=decide_eq_decide.mpr ⟨fun z=>V.int.inj z,fun z=>by rw[z]⟩;rw[e];exact q
def zpH (X:Cx):Prop:=∀(zj:List (zm×Obj)) (σ:St) (H:Hp) (s:zp),Inv X zj σ H s->PylongRoom (model X.prog X.w) X.A s
def zwX:R2:=fun x y H Q=>∃i j,x=.int i/\y=.int j/\0<j/\Q (.int (i / j)) H
theorem zc7 (hp:zpH X):OpR X (binaryOp .FloorDiv) zwX:=by
 intro zj s σ H x y v u Q I rx ry h;obtain⟨i,j,rfl,rfl,hj,q⟩:=h;obtain⟨t,rfl⟩:=rx;obtain⟨t',rfl⟩:=ry;refine floordiv_int (by omega) ?_ (.inr (hp zj σ H s I));rw[cD i (by omega)];exact⟨.int (i / j),H,I.tok _,⟨_,rfl⟩,q⟩
theorem zlU {CX:CXT}{P:qz}{w:jd}{K:zg}{mg:Str->Option zc}{base:jW}{N ps:List Str}{qual:Str}{scope:Zr}{f:zm}{cdv:zc}{A:jg}{outer:List Env}{s:zp}{H:Hp}{E:XK}
  (hP:P.given.tree=none) (S:qU N ps scope) (hr:JG 35 (A.deeper (envOfC qual scope s.heap.objs.size f cdv))):zpH ((yI CX P w K mg base N qual scope f cdv A outer s H E).nox):=by
 intro zj σ H' s' I;have I':=I.unwish;refine PylongRoom.of I'.nolimit ?_ (SeerAt.of (I'.mod.seer.keeps I'.bk) hP I'.ok.frames S.gen S.co rfl rfl);have:=hr.dp;show (A.deeper (envOfC qual scope s.heap.objs.size f cdv)).depth+100 < _;omega
theorem Pn:MtR X "int.bit_length" (fun x vs H Q=>∃i,x=.int i/\vs=[]/\Q (.int (vZ i:Nat)) H):=by
 intro zj s σ H x xs v us Q I rx rv h;obtain⟨i,rfl,rfl,q⟩:=h;obtain⟨t,rfl⟩:=rx;cases rv;exact call_int_bit_length ⟨.int _,H,I.tok _,⟨_,rfl⟩,q⟩
theorem VV:VP X (.builtin "isinstance") (fun xs H Q=>∃x n t b,xs=[x,.ty n]/\aa X.K H x t/\jk X.K t (.type n)=some b/\Q (.bl b) H):=by
 intro zj s σ H xs us Q I r h;obtain⟨x,n,t,b,rfl,ty,e,q⟩:=h;obtain⟨u,c,rfl,rx,rc⟩:=vals2 r;cases (show c=Ad n from rc);exact Ja (T7 I rx ty e fun tk (htk:s.toks<=tk)=>⟨.bl b,H,I.tok tk,rfl,q⟩)
end
theorem zcL (K:zg):jk K (.type "int") (.type "int")=some true:=by with_unfolding_all rfl
theorem zaH (K:zg):jk K (.type "int") (.type "bool")=some false:=by with_unfolding_all rfl
def Def (K:zg) (mg:Str->Option zc) (x:Str) (st:jV) (ps:List Str):Prop:=
 ∃f fd,Fun K x x st f fd/\Binds K fd ps []/\mg x=some (.ref f)
def Fn (P:qz) (w:jd) (K:zg) (mg:Str->Option zc) (base:jW) (k:Nat) (x:Str) (ps:List Str) (sp:Sp):Prop:=
 ∃f fd,Kc P w K mg base CX0 k f fd ps sp/\jR K (.ref f)=true/\Binds K fd ps []/\mg x=some (.ref f)
section
variable {P:qz}{w:jd}{K:zg}{mg:Str->Option zc}{base:jW}
theorem Def.fn {x:Str}{st:jV}{N ps:List Str}{k:Nat}{sp:Sp} (D:Def K mg x st ps) (S:qU N ps (zP st)) (len:∀vs H Q E,sp vs H Q E->vs.length=ps.length)
  (hbody:∀(f:zm) (cdv:zc) (A:jg) (outer:List Env) (s:zp) (H:Hp) (vs:List V) (Q:VK) (E:XK),JG k (A.deeper (envOfC x (zP st) s.heap.objs.size f cdv))->sp vs H Q E ->
   ∃t,PSs (yI CX0 P w K mg base N x (zP st) f cdv A outer s H E).nox (wD st) t/\t { nx:=fun _ H'=>Q .non H',rt:=Q } (start N vs) H):Fn P w K mg base (k+1) x ps sp:=by
 obtain⟨f,fd,F,b,m⟩:=D;exact⟨f,fd,F.ok S len (fun cdv A outer s H vs Q E hr h=>hbody f cdv A outer s H vs Q E hr h),F.kp,b,m⟩
end
section
variable {X:Cx}{k:Nat}{x:Str}{ps:List Str}{sp:Sp}{p pos:Pos}{e:jD}{es:List jD}{t:TA}
def tFn (sp:Sp) (t:TA):TE:=fun σ H Q=>t σ H fun vs H1=>sp vs H1 Q E0
theorem vJ (F:Fn X.prog X.w X.K X.mg X.base k x ps sp) (hr:JG k X.A) (hg:Gl X x) (ha:PA X (e::es) t) (hdb:(x == ("__debug__":Str))=false:=by decide)
  (he:z9 (e::es) X.env=(false,eval e X.env)::z9 es X.env:=by rfl) (hpl:(backTo pos (z9 es X.env)).any (·.1)=false:=by rfl) :
  PE X (.Call (.Name x p) (e::es) [] pos) (tFn sp t):=by
 obtain⟨f,fd,F,kp,b,m⟩:=F;have h:=zoD (p:=p) (pos:=pos) (dvs:=[]) (ds:=[]) F hr hg m kp b .nil zwR ha hdb he hpl;intro zj s σ H Q I q;refine h zj s σ H Q I ?_;show t σ H fun vs H1=>sp (vs++[]) H1 Q E0;have q':t σ H fun vs H1=>sp vs H1 Q E0:=q;simpa only[jr] using q'
end
theorem ifD {c A B:Prop} [Decidable c] (h1:c->A) (h2:¬c->B):if decide c=true then A else B:=by
 by_cases h:c
 .rw[if_pos (decide_eq_true h)];exact h1 h
 .rw[if_neg (fun z=>h (of_decide_eq_true z))];exact h2 h
theorem zcJ {c A B:Prop} [Decidable c] (h1:¬c->A) (h2:c->B):if (!decide c)=true then A else B:=by
 by_cases h:c
 .rw[if_neg (by rw[decide_eq_true h];decide)];exact h2 h
 .rw[if_pos (by rw[decide_eq_false h];decide)];exact h1 h
theorem ifT {c A B:Prop} [Decidable c] (h:c) (a:A):if decide c=true then A else B:=ifD (fun _=>a) (fun z=>absurd h z)
theorem ifF {c A B:Prop} [Decidable c] (h:¬c) (b:B):if decide c=true then A else B:=ifD (fun z=>absurd z h) (fun _=>b)
theorem kh:bootBuiltins "isinstance"=some (.builtin "isinstance"):=by decide +kernel
theorem zcl:bootBuiltins "int"=some (.type "int"):=by decide +kernel
theorem zqE:bootBuiltins "bool"=some (.type "bool"):=by decide +kernel
theorem zqF:bootBuiltins "list"=some (.type "list"):=by decide +kernel
theorem Q7:bootBuiltins "str"=some (.type "str"):=by decide +kernel
theorem Jv:bootBuiltins "len"=some (.builtin "len"):=by decide +kernel
theorem zsJ:bootBuiltins "max"=some (.builtin "max"):=by decide +kernel
theorem zsK:bootBuiltins "min"=some (.builtin "min"):=by decide +kernel
theorem Hy:bootBuiltins "sorted"=some (.builtin "sorted"):=by decide +kernel
theorem zsI:bootBuiltins "all"=some (.builtin "all"):=by decide +kernel
theorem zck:bootBuiltins "enumerate"=some (.type "enumerate"):=by decide +kernel
theorem zfe:bootBuiltins "reversed"=some (.type "reversed"):=by decide +kernel
theorem zao:bootBuiltins "ValueError"=some (.type "ValueError"):=by decide +kernel
theorem zX.put {H H':Hp}{p:zm}{o:HO} (s:zX H H') (h:H' p=dF):zX H (upd H' p o):=fun b u e=>by
 have e':=s b u e;rw[jM (v9 e' h)];exact e'
theorem zX.new {H:Hp}{p:zm}{o:HO} (h:H p=dF):zX H (upd H p o):=(zX.refl H).put h
noncomputable def ziu (lo c:Int) (n:Nat):It:=⟨fun i _=>i<n,fun i H x H'=>H'=H/\x=.int (lo+i*c),fun i _=>n<=i⟩
theorem zdw {P:qz}{w:jd}{K:zg}{tg:jD} (it:zm) (lo c:Int) (n:Nat):Turn P w K tg (ziu lo c n) [it] it (fun i h=>oR h it (lo+(i:Nat)*c) ((n:Int)-(i:Nat)) c) where
 mem:=by simp
 obj:=fun i h st b hb=>by
  have e:b=it:=by simpa using hb
  subst e;exact⟨_,st,fun v z=>by
   have z':dq _=Us v:=z;cases z'⟩
 keep:=fun i h h' st k=>k it (by simp) _ st
 item:=by
  intro X hP hw hK hc i zj s σ H E I hf st hg;subst hP hw hK;obtain⟨f0,f1,f2,f3,f4,f5⟩:=hf it (by simp);have W:=zd5 (prog:=X.prog) (w:=X.w) (I.ok.hd hc) it lo c n;refine Ja (W.item i s _ _ hg st fun v h' tk hv st' kk htk=>?_);obtain⟨t,rfl⟩:=hv;have ht:=I.tkL (n:=tk) htk;have I1:Inv X zj σ H { s with heap:=h',toks:=tk }:=I.turned (fun b o hb e=>kk b o (by simpa using hb) e) f0 f1 f3 f4 f5;exact⟨_,rfl,zcG (s:={ s with heap:=h',toks:=tk }) (n:="range_iterator") st' rfl rfl (by decide) ⟨.int (lo+i*c),H,I1,⟨t,rfl⟩,⟨rfl,rfl⟩,st',fun b hb=>(hf b hb).1⟩⟩
 done:=by
  intro X hP hw hK hc i zj s σ H E I hf st hg;subst hP hw hK;obtain⟨f0,f1,f2,f3,f4,f5⟩:=hf it (by simp);exact lJ (I.ok.hd hc) st (by have:n<=i:=hg;omega) fun h' eb=>⟨rfl,I.turned (t':=s.toks) (fun b o hb e=>eb b o hb e) f0 f1 f3 f4 f5⟩
 self:=fun _ _ _ _ _ st h=>lH st h
section
variable {X:Cx}{tg:jD}
def zs1 (ta:TA):TI:=fun σ H R=>ta σ H fun vs H1=>∃(i j c:Int) (n:Nat),vs=[.int i,.int j,.int c]/\(c≠0/\c.natAbs<1073741824/\Qp i j c=true/\xW i j c=(n:Int))/\R (ziu i c n) H1
theorem Ue {a b c:jD}{ta:TA}{p pos:Pos} (hg:Gl X "range") (hm:X.mg "range"=none) (ha:PA X [a,b,c] ta) (hs:z9 [a,b,c] X.env=(false,eval a X.env)::z9 [b,c] X.env:=by rfl) (hs2:(backTo pos (z9 [b,c] X.env)).any (·.1)=false:=by rfl) :
  PI X tg (.Call (.Name "range" p) [a,b,c] [] pos) (zs1 ta):=by
 intro zj s σ H R I h;refine Call_ (nM I hg hm M9 (km (thn (ha pos zj s σ H _ I h) fun us s1 ⟨vs,H1,I1,r1,q1⟩=>?_) hs hs2));obtain⟨i,j,k,n,e,⟨q1,q2,q3,q4⟩,q⟩:=q1;subst e;cases r1 with
 | cons r rr=>
  cases rr with
  | cons r' rr=>
   cases rr with
   | cons r'' rr=>
    cases rr;obtain⟨t,rfl⟩:=r;obtain⟨t',rfl⟩:=r';obtain⟨t'',rfl⟩:=r'';refine call_range_3 q1 ?_ (.inl (PyProof.noPylong_small q2));refine Af (zdI ..) q3 ?_;have I2:Inv X zj σ H1 { s1 with heap:=s1.heap.push { cls:=.type "range",data:=.fields #[.int i t,.int j t',.int k t''] },toks:=s1.toks }:=I1.kept fun b o e=>zO _ e;refine⟨(s1.heap.push { cls:=.type "range",data:=.fields #[.int i t,.int j t',.int k t''] }).objs.size,[(s1.heap.push { cls:=.type "range",data:=.fields #[.int i t,.int j t',.int k t''] }).objs.size],_,_,H1,rfl,
     I2.kept (t':=s1.toks) fun b o e=>zO _ e,zdw _ i k n,?_,fun b hb=>?_,q⟩
    .have e1:i+((0:Nat):Int)*k=i:=by simp
     have e2:((n:Nat):Int)-((0:Nat):Int)=xW i j k:=by rw[q4];simp
     show oR _ _ (i+((0:Nat):Int)*k) (((n:Nat):Int)-((0:Nat):Int)) k;rw[e1,e2];exact jf _ rfl
    .have e:b=(s1.heap.push { cls:=.type "range",data:=.fields #[.int i t,.int j t',.int k t''] }).objs.size:=by simpa using hb
     subst e;exact I2.fpOk (zE _) (I2.hok.fresh (zE _))
end
theorem zfm {lo c:Int}{n:Nat}{g:TG}{tb:TS}{D:Ends}{σ:St}{H:Hp} (Pv:Nat->St->Hp->Prop) (h0:Pv 0 σ H)
  (hs:∀i σ H,i<n->Pv i σ H->g (.int (lo+i*c)) σ H fun σ2 H2=>tb { D with nx:=Pv (i+1),ct:=Pv (i+1),bk:=D.nx } σ2 H2) (hd:∀σ H,Pv n σ H->D.nx σ H) :
  ∃W:Nat->Nat->St->Hp->Prop,(∃m,W 0 m σ H)/\∀i m σ H,W i m σ H ->
   ((ziu lo c n).stop i H/\D.nx σ H)∨((ziu lo c n).go i H/\∃N:St->Hp->Prop,(∀σ' H',N σ' H'->∃m',m'<m/\W (i+1) m' σ' H')/\∀x H',(ziu lo c n).yld i H x H'->g x σ H' fun σ2 H2=>tb { D with nx:=N,ct:=N,bk:=D.nx } σ2 H2):=by
 refine⟨fun i m σ H=>m=n-i/\i<=n/\Pv i σ H,⟨n,by simp,qX _,h0⟩,?_⟩;rintro i m σ H ⟨rfl,hi,p⟩;by_cases hlt:i<n
 .refine .inr ⟨hlt,Pv (i+1),fun σ' H' p'=>⟨n-(i+1),by omega,rfl,hlt,p'⟩,fun x H' y=>?_⟩;obtain⟨e,y⟩:=y;subst e y;exact hs i σ _ hlt p
 .have e:i=n:=by omega
  subst e;exact .inl ⟨zE _,hd σ H p⟩
def XD (env:Env):List (Str×yS)->List (Str×zm)->List (Str×zm)
 | [],acc=>acc
 | (n,k)::r,acc=>if k == .free then XD env r ((n,(env.cells.lookup n).getD 0)::acc) else XD env r acc
theorem t7 {scope:Zr}{env:Env} (h:∀p∈scope.names,p.2=.free->∃c,env.cells.lookup p.1=some c):closureFor scope env=pure (XD env scope.names []):=by
 unfold closureFor;have key:∀(names:List (Str×yS)) (acc:List (Str×zm)),(∀p∈names,p.2=.free->∃c,env.cells.lookup p.1=some c) ->
   (forIn names acc (fun(x:Str×yS) (cs:List (Str×zm))=>match x with
    | (name,kind)=>if (kind == jX)=true then (cellOf env name >>= fun c=>pure (yj ((name,c)::cs))) else pure (yj cs)):Sem (List (Str×zm)))=pure (XD env names acc):=by
  intro names
  induction names with
  | nil=>intro acc _;rfl
  | cons p r ih=>
   intro acc hp;obtain⟨n,k⟩:=p;have hr:∀p∈r,p.2=.free->∃c,env.cells.lookup p.1=some c:=fun p hm=>hp p (zG _ hm);rw[Vq];by_cases hk:k=.free
   .subst hk;obtain⟨c,hc⟩:=hp (n,.free) zJ rfl;have hc:env.cells.lookup n=some c:=hc;have e1:cellOf env n=pure c:=by unfold cellOf;rw[hc]
    have e2:XD env ((n,.free)::r) acc=XD env r ((n,c)::acc):=by
     show XD env r ((n,(env.cells.lookup n).getD 0)::acc)=_;rw[hc];rfl
    simp only[beq_self_eq_true,if_true,e1,pure_bind];rw[e2];exact ih _ hr
   .have hb:(k == jX)=false:=by simpa using hk
    have e2:XD env ((n,k)::r) acc=XD env r acc:=by
     show (if (k == jX)=true then XD env r ((n,(env.cells.lookup n).getD 0)::acc) else XD env r acc)=_;rw[hb];rfl
    simp only[hb,xq,if_false,pure_bind];rw[e2];exact ih _ hr
 have k0:=key scope.names [] h;show (forIn scope.names ([]:List (Str×zm)) _ >>= fun r=>pure r)=_;refine Eq.trans (congrArg (fun m=>m >>= fun r=>pure r) k0) ?_;rfl
theorem Dl {env:Env}:∀{names:List (Str×yS)}{acc:List (Str×zm)},(∀p∈names,p.2=.free->∃c,env.cells.lookup p.1=some c)->(∀x c,acc.lookup x=some c->env.cells.lookup x=some c) ->
  ∀x c,(XD env names acc).lookup x=some c->env.cells.lookup x=some c
 | [],_,_,ha,x,c,h=>ha x c h
 | (n,k)::r,acc,hp,ha,x,c,h=>by
  have hr:∀p∈r,p.2=.free->∃c,env.cells.lookup p.1=some c:=fun p hm=>hp p (zG _ hm);by_cases hk:k=.free
  .subst hk;obtain⟨d,hd⟩:=hp (n,.free) zJ rfl;have hd:env.cells.lookup n=some d:=hd;have e2:XD env ((n,.free)::r) acc=XD env r ((n,d)::acc):=by
    show XD env r ((n,(env.cells.lookup n).getD 0)::acc)=_;rw[hd];rfl
   rw[e2] at h;refine Dl hr (fun y e hy=>?_) x c h;rw[jK] at hy;cases hyn:y == n with
   | true=>rw[hyn] at hy;cases hy;rw[beq_iff_eq.mp hyn];exact hd
   | false=>rw[hyn] at hy;exact ha y e hy
  .have hb:(k == jX)=false:=by simpa using hk
   have e2:XD env ((n,k)::r) acc=XD env r acc:=by
    show (if (k == jX)=true then XD env r ((n,(env.cells.lookup n).getD 0)::acc) else XD env r acc)=_;rw[hb];rfl
   rw[e2] at h;exact Dl hr ha x c h
theorem Ax {env:Env}:∀{names:List (Str×yS)}{acc:List (Str×zm)}{x:Str},((x,jX)∈names∨∃c,acc.lookup x=some c)->∃c,(XD env names acc).lookup x=some c
 | [],_,_,h=>h.elim (fun z=>nomatch z) id
 | (n,k)::r,acc,x,h=>by
  by_cases hk:k=.free
  .subst hk;show ∃c,(XD env r ((n,(env.cells.lookup n).getD 0)::acc)).lookup x=some c;refine Ax ?_;by_cases hx:x=n
   .subst hx;exact .inr ⟨_,by rw[jK,beq_self_eq_true]⟩
   .rcases h with h | ⟨c,h⟩
    .rcases List.mem_cons.mp h with e | e
     .cases e;exact absurd rfl hx
     .exact .inl e
    .exact .inr ⟨c,by rw[jK,beq_eq_false_iff_ne.mpr hx];exact h⟩
  .have hb:(k == jX)=false:=by simpa using hk
   have e2:XD env ((n,k)::r) acc=XD env r acc:=by
    show (if (k == jX)=true then XD env r ((n,(env.cells.lookup n).getD 0)::acc) else XD env r acc)=_;rw[hb];rfl
   rw[e2];refine Ax ?_;rcases h with h | h
   .rcases List.mem_cons.mp h with e | e
    .cases e;exact absurd rfl hk
    .exact .inl e
   .exact .inr h
section
variable {prog:qz}{w:jd}{A:jg}
theorem nC {elt target iter:jD}{ifs:List jD}{scope:Zr}{pos:Pos}{it acc:zc}{env:Env}{s:zp}{R:uZ->zp->Prop} (I:Nat->zp->Prop)
  (turn:∀n s,I n s->wpAny (model prog w) A (pyNext it) (fun r s₁=>match r with
   | none=>R (.ok .next) s₁
   | some v=>wpAny (model prog w) A (letOwnedTupleGo target it v) (fun _ s₁'=>wpAny (model prog w) A (assign target env v) (fun _ s₂=>
     wpAny (model prog w) A (forIn ifs true fun c r=>if r=true then do let ok <- isTrue c env (eval c env);pure (yj ok) else pure (yj r)) (fun ok s₃=>
      if ok=true then wpAny (model prog w) A (eval elt env) (fun x s₄=>wpAny (model prog w) A (call (.builtin "list.append") [acc,x]) (fun _ s₅=>∃m,m<n/\I m s₅) (fun _ _=>False) s₄) (fun _ _=>False) s₃
      else ∃m,m<n/\I m s₃) (fun _ _=>False) s₂) (fun _ _=>False) s₁') (fun _ _=>False) s₁) (fun _ _=>False) s)
  (n:Nat) (h:I n s):codeAny (model prog w) A (.compLoop (.ListComp elt [⟨target,iter,ifs,0⟩] scope pos) 0 it acc env) R s:=by
 refine codeAny_loop rfl I (fun n s hI=>?_) n h;show wpAny _ A ((compTurn (.ListComp elt [⟨target,iter,ifs,0⟩] scope pos) 0 it acc env).onRaise (fun x=>do noteFrame x env;theTreesLotGoes x)) _ _ s;refine wpAny_noted ?_;rw[Td];refine zr (Ve (zr (jt (turn n s hI) (fun r s₁ h₁=>?_) fun _ _ h'=>h'.elim)));cases r with
 | none=>exact qj h₁
 | some v=>
  refine zr (jt h₁ (fun _ s₁' h₁'=>?_) fun _ _ h'=>h'.elim);refine zr (jt h₁' (fun _ s₂ h₂=>zr (jt h₂ (fun ok s₃ h₃=>?_) fun _ _ h'=>h'.elim)) fun _ _ h'=>h'.elim);cases ok with
  | false=>exact qj ⟨rfl,h₃⟩
  | true=>exact zr (zr (jt h₃ (fun x s₄ h₄=>zr (jt h₄ (fun _ s₅ h₅=>qj (qj ⟨rfl,h₅⟩)) fun _ _ h'=>h'.elim)) fun _ _ h'=>h'.elim))
end
abbrev wW (X:Cx) (zj:List (zm×Obj)) (N:List Str) (scope:Zr) (C:zm) (sF:zp) (HF:Hp) (fp:List zm):Cx where
 prog:=X.prog
 w:=X.w
 K:=X.K
 mg:=X.mg
 base:=X.base
 A:=X.A
 N:=N
 s₀:=sF
 H₀:=HF
 env:=compEnvC scope (XD X.env scope.names []) C X.env
 outer:=X.stack
 stack:=X.stack
 ex:=fp
 fn:=fun _=>false
 calm:=X.calm
 pn:=X.pn++zj
 xe:=fun _ _=>False
noncomputable def yH (own:Nat) (ix:List Nat) (σ:St):St:=qH own none++ix.map fun i=>(σ[i]?).getD none
def mH (J:It) (own:Nat) (ix:List Nat) (g:TG) (tt:TT) (te:TE) (σ:St) (H1:Hp) (acc:zm) (Q:VK):Prop:=
 ∃W:Nat->Nat->List V->Hp->Prop,(∃m,W 0 m [] (upd H1 acc (.lst [])))/\∀i m ys H2,W i m ys H2 ->
  H2 acc=some (.lst ys)/\((J.stop i H2/\Q (.ref acc) H2)∨(J.go i H2/\ys.length<sizeLine/\∀x H3,J.yld i H2 x H3->g x (yH own ix σ) H3 fun σ4 H4=>σ4.drop own=ix.map (fun i=>(σ[i]?).getD none)/\tt σ4 H4 fun ok H5=>
   if ok=true then te σ4 H5 fun y H6=>H6 acc=some (.lst ys)/\∃m',m'<m/\W (i+1) m' (ys++[y]) (upd H6 acc (.lst (ys++[y])))
   else ∃m',m'<m/\W (i+1) m' ys H5))
def zmc (wi:TI) (own:Nat) (ix:List Nat) (g:TG) (tt:TT) (te:TE):TE:=fun σ H Q=>wi σ H fun J H1=>∀acc,H1 acc=none->mH J own ix g tt te σ H1 acc Q
def cZ:TT:=fun _ H Q=>Q true H
def PTs (X:Cx) (ifs:List jD) (t:TT):Prop:=
 ∀(zj:List (zm×Obj)) (s:zp) (σ:St) (H:Hp) (Q:Bool->Hp->Prop),Inv X zj σ H s->t σ H Q ->
  wpAny (model X.prog X.w) X.A (forIn ifs true fun c r=>if r=true then do let ok <- isTrue c X.env (eval c X.env);pure (yj ok) else pure (yj r)) (TP X zj σ Q) X.xe s
theorem Z0 {X:Cx}:PTs X [] cZ:=fun _ _ _ H _ I h=>wpAny_tests_nil ⟨H,I,h⟩
structure GD (X:Cx) (scope:Zr) (own:List Str) (fr:List Str) (ix:List Nat):Prop where
 kind:scope.kind=.function
 nocell:∀y∈scope.names,y.2≠.cell
 names:∀y∈scope.names,y.2=.local->scope.names.lookup y.1=some .local
 free:∀p∈scope.names,p.2=.free->∃c,X.env.cells.lookup p.1=some c
 frd:∀x∈fr,(x,jX)∈scope.names/\X.env.kindOf x=some .cell/\scope.names.lookup x=some .free
 len:fr.length=ix.length
 at_:∀(j:Nat) x i,fr[j]?=some x->ix[j]?=some i->X.N[i]?=some x
structure Hi (X:Cx) (scope:Zr) (own:List Str) (fr:List Str) (ix:List Nat):Prop where
 kind:scope.kind=.function
 nocell:(scope.names.all fun y=>y.2 != .cell)=true
 names:(scope.names.all fun y=>y.2 != .local || scope.names.lookup y.1 == some .local)=true
 free:(scope.names.all fun p=>p.2 != .free || X.env.kindOf p.1 == some .cell)=true
 frd:(fr.all fun x=>X.env.kindOf x == some .cell && scope.names.lookup x == some .free)=true
 at_:(ix.map fun i=>X.N[i]?)=fr.map some
theorem mem_of_lookup {x:Str}{k:yS}:∀{names:List (Str×yS)},names.lookup x=some k->(x,k)∈names
 | [],h=>by simp at h
 | (n,k')::r,h=>by
  rw[jK] at h;cases hx:x == n with
  | true=>
   rw[hx] at h;cases h;rw[beq_iff_eq.mp hx];exact zJ
  | false=>
   rw[hx] at h;exact zG _ (mem_of_lookup h)
theorem Hi.ok {X:Cx}{scope:Zr}{own fr:List Str}{ix:List Nat} (B:Hi X scope own fr ix) (ok:X.Ok):GD X scope own fr ix where
 kind:=B.kind
 nocell:=fun y hy=>by simpa using List.all_eq_true.mp B.nocell y hy
 names:=fun y hy hl=>by
  have:=List.all_eq_true.mp B.names y hy;rw[hl] at this;simpa using this
 free:=fun p hp hf=>by
  have:=List.all_eq_true.mp B.free p hp;rw[hf] at this;exact ok.has p.1 (.inl (by simpa using this))
 frd:=fun x hx=>by
  have:=List.all_eq_true.mp B.frd x hx;rw[vh] at this;have h2:scope.names.lookup x=some .free:=by simpa using this.2
  exact⟨mem_of_lookup h2,by simpa using this.1,h2⟩
 len:=by
  have:=congrArg V7 B.at_;simpa using this.symm
 at_:=fun j x i hx hi=>by
  have e:=congrArg (fun l=>l[j]?) B.at_;simp only[qF,hx,hi,Jg] at e;exact xr e
theorem Bk {env:Env} (hf:env.scope.kind=.function):∀{names:List (Str×yS)}{x:Str},names.lookup x=some .free->env.kindOf x=some .cell ->
  (names.map fun(n,k)=>if (k == jX && env.scope.kind == .function && env.kindOf n == some .cell) then (n,Qk) else (n,k)).lookup x=some .cell
 | [],_,h,_=>by simp at h
 | (n,k)::r,x,h,hx=>by
  have ih:=@Bk env hf r x;show Z6 x ((if (k == jX && env.scope.kind == .function && env.kindOf n == some .cell)=true then (n,Qk) else (n,k))::_)=_;cases hxn:x == n with
  | true=>
   have e:=beq_iff_eq.mp hxn;subst e;simp only[jK,hxn] at h;cases h;rw[if_pos (by rw[hf,hx];rfl)];simp only[jK,hxn]
  | false=>
   simp only[jK,hxn] at h;by_cases hc:(k == jX && env.scope.kind == .function && env.kindOf n == some .cell)=true
   .rw[if_pos hc];simp only[jK,hxn];exact ih h hx
   .rw[if_neg hc];simp only[jK,hxn];exact ih h hx
theorem Fj {env:Env}:∀{names:List (Str×yS)}{x:Str},(∀y∈names,y.2≠.cell) ->
    ((names.map fun(n,k)=>if (k == jX && env.scope.kind == .function && env.kindOf n == some .cell) then (n,Qk) else (n,k)).lookup x=some .cell ∨
     (names.map fun(n,k)=>if (k == jX && env.scope.kind == .function && env.kindOf n == some .cell) then (n,Qk) else (n,k)).lookup x=some .free)->(x,jX)∈names
  | [],_,_,h=>by simp at h
  | (n,k)::r,x,hn,h=>by
    have ih:=@Fj env r x (fun y hy=>hn y (zG _ hy));have hk:k≠.cell:=hn (n,k) zJ;have h':Z6 x ((if (k == jX && env.scope.kind == .function && env.kindOf n == some .cell)=true then (n,Qk) else (n,k))::r.map fun(n,k)=>if (k == jX && env.scope.kind == .function && env.kindOf n == some .cell) then (n,Qk) else (n,k))=some .cell ∨
      Z6 x ((if (k == jX && env.scope.kind == .function && env.kindOf n == some .cell)=true then (n,Qk) else (n,k))::r.map fun(n,k)=>if (k == jX && env.scope.kind == .function && env.kindOf n == some .cell) then (n,Qk) else (n,k))=some .free:=h
    by_cases hc:(k == jX && env.scope.kind == .function && env.kindOf n == some .cell)=true
    . have hf:k=.free:=by
        rw[vh,vh] at hc;exact beq_iff_eq.mp hc.1.1
      subst hf;cases hxn:x == n with
      | true=>rw[beq_iff_eq.mp hxn];exact zJ
      | false=>
        rw[if_pos hc] at h';simp only[jK,hxn] at h';exact zG _ (ih h')
    . rw[if_neg hc] at h'
      cases hxn:x == n with
      | true=>
        simp only[jK,hxn] at h';rcases h' with e | e
        . cases e;exact absurd rfl hk
        . cases e;rw[beq_iff_eq.mp hxn];exact zJ
      | false=>
        simp only[jK,hxn] at h';exact zG _ (ih h')
section
variable {X:Cx}{zj:List (zm×Obj)}{σ:St}{H:Hp}{s:zp}
theorem Ez {scope:Zr}{own fr:List Str}{ix:List Nat}{C:zm}{h₁:jW}{tk:Nat}{fp:List zm}{m:Str->Option zc} (I:Inv X zj σ H s) (B:GD X scope own fr ix) (hC:C=s.heap.objs.size)
  (hf:∀b∈fp,mW X zj H b) (hb:∀b∈fp,∃o,s.heap.get? b=some o) (old:∀b o,s.heap.get? b=some o->h₁.get? b=some o) (hns:h₁.Ns C m) (ht:0<tk) :
  Inv (wW X zj (own++fr) scope C s H fp) [] (yH own.length ix σ) H { s with heap:=h₁,toks:=tk }:=by
 have look:∀x c,(XD X.env scope.names []).lookup x=some c->X.env.cells.lookup x=some c:=Dl B.free (fun _ _ z=>by cases z);have lt:∀b o,s.heap.get? b=some o->b≠C:=fun b o e=>by rw[hC];exact qY (zV e)
 have ok:(wW X zj (own++fr) scope C s H fp).Ok:={
  mod:=I.ok.mod
  kind:=B.kind
  glob:=I.ok.glob
  blt:=I.ok.blt
  above:=by show s.heap.objs.size<=C;rw[hC];exact zE _
  inj:=fun x y c a b=>I.ok.inj x y c (look x c a) (look y c b)
  has:=fun x hx=>Ax (.inl (Fj B.nocell hx))
  cab:=fun x c z=>nomatch z
  hd:=I.ok.hd
  frames:=I.ok.frames
  stk:=.inl rfl
  exf:=fun b hbf=>⟨by obtain⟨o,e⟩:=hb b hbf;exact lt b o e,fun x c e=>(hf b hbf).2.2.2.2.1 x c (look x c e)⟩
  bs:=I.bs
  bsz:=qd I.ok.bsz I.sz
  noex:=fun b o e hbf=>by
   rcases (hf b hbf).2.2.2.1 with z | z
   .exact I.ok.noex b o e z
   .exact absurd (qy (zV e) (qd I.ok.bsz z)) (vH _)
  exfs:=fun b hbf hs=>by
   rcases List.mem_cons.mp (I.stkSub b hs) with z | z
   .exact(hf b hbf).2.1 z
   .exact(hf b hbf).2.2.1 z
  funs:=I.stack
  frf:=I.stkFree }
 refine⟨ok,⟨rfl,ht⟩,I.bare,Un.kept old,⟨m,hns,fun i x v e1 e2 e3=>?_⟩,fun x c e=>?_,?_,fun x c e=>I.freeC x c (look x c e),fun p hp=>?_,I.hok.kept old,?_⟩
 .have e1:(own++fr)[i]?=some x:=e1;have e2:(qH own.length none++ix.map fun i=>(σ[i]?).getD none)[i]?=some (some v):=e2;by_cases hi:i<own.length
  .rw[qP (by rw[jE];exact hi),kE,if_pos hi] at e2;cases e2
  .rw[jj (by omega)] at e1;rw[jj (by rw[jE];omega),jE,qF] at e2;obtain⟨i',hi',e4⟩:=Option.map_eq_some_iff.mp e2;have e5:σ[i']?=some (some v):=by
    cases z:σ[i']? with
    | none=>rw[z] at e4;cases e4
    | some y=>rw[z] at e4;exact congrArg some e4
   have hm:x∈fr:=qw e1;obtain⟨f1,f2,f3⟩:=B.frd x hm;obtain⟨mX,_,hl⟩:=I.loc;obtain⟨u,r,l⟩:=hl i' x v (B.at_ _ x i' e1 hi') e5 (.inr (.inl f2));rcases l with ⟨l,_⟩ | ⟨_,c,ec,z⟩
   .rw[f2] at l;cases l
   .obtain⟨c',ec'⟩:=Ax (env:=X.env) (names:=scope.names) (acc:=[]) (x:=x) (.inl f1);have:=look x c' ec';rw[ec] at this;cases this;obtain⟨o,ho,hd⟩:=z;exact⟨u,r,.inr ⟨.inl (Bk I.ok.kind f3 f2),c,ec',o,old _ _ ho,hd⟩⟩
 .obtain⟨v,o,ho,hd⟩:=I.cell x c (look x c e);exact⟨v,o,old _ _ ho,hd⟩
 .show H C=none;rw[hC];exact I.hok.fresh (zE _)
 .have hp':p∈X.pn++zj:=by simpa using hp
  obtain⟨e,n,ne,nf,d⟩:=I.pin p hp';refine⟨old _ _ e,n,lt _ _ e,fun z=>?_,d⟩;rcases List.mem_cons.mp (I.stkSub _ z) with q | q
  .exact ne q
  .exact nf q
 .show (qH own.length none++ix.map fun i=>(σ[i]?).getD none).length=(own++fr).length;rw[zM,zM,jE,zf,B.len]
theorem Dk {N:List Str}{scope:Zr}{C:zm}{fp:List zm} {σ':St} {H':Hp} {s':zp} {h'':jW}{pl:List (zm×Obj)} (I:Inv X zj σ H s) (hf:∀b∈fp,mW X zj H b) (hC:C=s.heap.objs.size)
  (J:Inv (wW X zj N scope C s H fp) pl σ' H' s') (hs:wL C s'.heap h''):Inv X zj σ H' { s' with heap:=h'' }:=by
 have u:=J.base;have k:∀b o,b≠C->s'.heap.get? b=some o->h''.get? b=some o:=fun b o hb e=>hs.extBut b o hb e;have hn:H' C=none:=J.free;have lt:∀b o,s.heap.get? b=some o->b≠C:=fun b o e=>by rw[hC];exact qY (zV e)
 refine I.call' (s':={ s' with heap:=h'' }) (ch:=fp) J.os ?_ ?_ J.bare fun b hb=>⟨(hf b hb).2.2.2.1,(hf b hb).2.1,(hf b hb).2.2.2.2.1,(hf b hb).2.2.2.2.2⟩
 .exact⟨fun b o q n hb he=>k b o (lt b o q) (u.keep b o q n hb he),fun b o q n hb he=>by
    obtain⟨sl,e⟩:=u.slot b o q n hb he;exact⟨sl,k b _ (lt b o q) e⟩,u.free,fun b o q he=>by
    obtain⟨o',e⟩:=u.there b o q he;exact⟨o',k b _ (lt b o q) e⟩,u.tups,u.frzs,u.tbls⟩
 .intro b o e;have nit:∀b u,H' b=some u->b≠C:=fun b u e z=>by rw[z,hn] at e;cases e
  refine(J.hok b o e).stay (fun c v hc q=>k c v ?_ q) (fun _ q=>q) fun _ _ q=>q;rcases hc with z | z
  .rw[z];exact nit b o e
  .exact nit c _ z
theorem HH {tg iter elt:jD}{ifs:List jD}{scope:Zr}{own fr:List Str}{ix:List Nat}{g:TG}{tt:TT}{te:TE}{pos:Pos}{Q:VK}{sF:zp}{HF:Hp}{C acc it:zm}{h₁:jW}{fp:List zm}{tn:Nat->jW->Prop}{J:It}{W:Nat->Nat->List V->Hp->Prop}{m:Str->Option zc}{m0:Nat}{RR:uZ->zp->Prop}
  (hc:X.calm=true) (B:GD X scope own fr ix)
  (hg:∀zj C sF HF fp,PG (wW X zj (own++fr) scope C sF HF fp) tg g) (ht:∀zj C sF HF fp,PTs (wW X zj (own++fr) scope C sF HF fp) ifs tt) (he:∀zj C sF HF fp,PE (wW X zj (own++fr) scope C sF HF fp) elt te)
  (I3:Inv X zj σ HF sF) (T:Turn X.prog X.w X.K tg J fp it tn) (st3:tn 0 sF.heap) (f3:∀b∈fp,mW X zj HF b) (f3':∀b∈fp,∃o,sF.heap.get? b=some o) (hC:sF.heap.objs.size=C) (old:∀b o,sF.heap.get? b=some o->h₁.get? b=some o) (hns₁:h₁.Ns C m)
  (w0:W 0 m0 [] HF) (turn:∀i m ys H2,W i m ys H2->H2 acc=some (.lst ys)/\((J.stop i H2/\Q (.ref acc) H2)∨(J.go i H2/\ys.length<sizeLine/\∀x H3,J.yld i H2 x H3->g x (yH own.length ix σ) H3 fun σ4 H4=>σ4.drop own.length=ix.map (fun i=>(σ[i]?).getD none)/\tt σ4 H4 fun ok H5=>
   if ok=true then te σ4 H5 fun y H6=>H6 acc=some (.lst ys)/\∃m',m'<m/\W (i+1) m' (ys++[y]) (upd H6 acc (.lst (ys++[y])))
   else ∃m',m'<m/\W (i+1) m' ys H5)))
  (fin:∀s6 H5,Inv (wW X zj (own++fr) scope C sF HF fp) [] (yH own.length ix σ) H5 s6->Q (.ref acc) H5->RR (.ok .next) s6) :
  codeAny (model X.prog X.w) X.A (.compStart (.ListComp elt [⟨tg,iter,ifs,0⟩] scope pos) 0 (.ref it) (.ref acc) (compEnvC scope (XD X.env scope.names []) C X.env)) RR
   { sF with heap:=h₁,toks:=sF.toks+([]:List (Str×zc)).length }:=by
 have J0:Inv (wW X zj (own++fr) scope C sF HF fp) [] (yH own.length ix σ) HF { sF with heap:=h₁,toks:=sF.toks+([]:List (Str×zc)).length }:=Ez I3 B hC.symm f3 f3' old hns₁ I3.tk;have st4:tn 0 h₁:=T.keep _ _ _ st3 fun b _ o e=>old b o e;have fY:∀{pl:List (zm×Obj)} {H':Hp},(∀b∈fp,H' b=none)->(∀p∈pl,p.1 ∉ fp)->∀b∈fp,mW (wW X zj (own++fr) scope C sF HF fp) pl H' b:=fun {pl H'} hn hp b hb=>by
  refine⟨hn b hb,(J0.ok.exf b hb).1,J0.ok.exfs b hb,.inl hb,(J0.ok.exf b hb).2,fun p hpm=>?_⟩;rcases List.mem_append.mp hpm with z | z
  .exact(f3 b hb).2.2.2.2.2 p z
  .exact fun e=>hp p z (by rw[e];exact hb)
 have weak:∀{pl:List (zm×Obj)}{σ4:St}{H4:Hp}{s4:zp},Inv (wW X zj (own++fr) scope C sF HF fp) pl σ4 H4 s4->σ4.drop own.length=ix.map (fun i=>(σ[i]?).getD none)->Inv (wW X zj (own++fr) scope C sF HF fp) pl (yH own.length ix σ) H4 s4:=fun {pl σ4 H4 s4} J e=>by
  refine J.weak ?_ fun i v hv=>?_
  .have:=J.len;have:=J0.len;omega
  .have hv':(qH own.length none++ix.map fun i=>(σ[i]?).getD none)[i]?=some (some v):=hv;by_cases hi:i<own.length
   .rw[qP (by rw[jE];exact hi),kE,if_pos hi] at hv';cases hv'
   .rw[jj (by rw[jE];omega),jE,<- e,yE] at hv';rw[show own.length+(i-own.length)=i by omega] at hv';exact hv'
 have loop:∀s4:zp,s4={ sF with heap:=h₁,toks:=sF.toks+([]:List (Str×zc)).length } ->
   codeAny (model X.prog X.w) X.A (.compLoop (.ListComp elt [⟨tg,iter,ifs,0⟩] scope pos) 0 (.ref it) (.ref acc) (compEnvC scope (XD X.env scope.names []) C X.env)) RR s4:=by
  rintro s4 rfl;refine nC (fun n s'=>∃i ys H',Inv (wW X zj (own++fr) scope C sF HF fp) [] (yH own.length ix σ) H' s'/\tn i s'.heap/\(∀b∈fp,H' b=none)/\W i n ys H') ?_ m0 ⟨0,[],HF,J0,st4,fun b hb=>(f3 b hb).1,w0⟩;rintro n s5 ⟨i,ys,H5,J5,st5,fr5,w5⟩;obtain⟨ha,hturn⟩:=turn i n ys H5 w5;rcases hturn with ⟨stop,qn⟩ | ⟨go,hsz,step⟩
  .refine thn (T.done (wW X zj (own++fr) scope C sF HF fp) rfl rfl rfl hc i [] s5 _ H5 (fun _ _=>False) J5 (fY fr5 (fun _ z=>by cases z)) st5 stop) fun r s6 ⟨hr,J6⟩=>?_;subst hr;exact fin s6 H5 J6 qn
  .refine thn (T.item (wW X zj (own++fr) scope C sF HF fp) rfl rfl rfl hc i [] s5 _ H5 (fun _ _=>False) J5 (fY fr5 (fun _ z=>by cases z)) st5 go) fun r s6 ⟨u,hr,h6⟩=>?_;subst hr;refine thn h6 fun _ s7 ⟨x,H7,J7,r7,y7,st7,fr7⟩=>?_;have J7':=J7.pinned (fY fr7 (fun _ z=>by cases z)) (T.obj _ _ st7);refine thn (hg zj C sF HF fp _ s7 _ H7 x u _ J7' r7 (step x H7 y7)) fun _ s8 ⟨σ8,H8,J8,k8,q8⟩=>?_;have back:∀{s9:zp}{H9:Hp},Inv (wW X zj (own++fr) scope C sF HF fp) ([]++DQ fp s7.heap) σ8 H9 s9->Inv (wW X zj (own++fr) scope C sF HF fp) [] (yH own.length ix σ) H9 s9/\tn (i+1) s9.heap/\∀b∈fp,H9 b=none:=fun {s9 H9} J9=>by
    refine⟨weak J9.unpinned k8,T.keep _ _ _ st7 fun b hb o e=>(J9.pin (b,o) (z8 _ (z8 _ (WN hb e)))).1,fun b hb=>?_⟩;obtain⟨o,e,d⟩:=T.obj _ _ st7 b hb;exact(J9.pin (b,o) (z8 _ (z8 _ (WN hb e)))).2.1
   refine thn (ht zj C sF HF fp _ s8 σ8 H8 _ J8 q8) fun ok s9 ⟨H9,J9,q9⟩=>?_;cases ok with
   | false=>
    obtain⟨m',hm,w9⟩:=q9;obtain⟨b1,b2,b3⟩:=back J9;exact⟨m',hm,i+1,ys,H9,b1,b2,b3,w9⟩
   | true=>
    refine thn (he zj C sF HF fp _ s9 σ8 H9 _ J9 q9) fun v s10 ⟨y,H10,J10,r10,a10,m',hm,w10⟩=>?_;refine thn (Qx _ s10 σ8 H10 (.ref acc) [y] (.ref acc) [v] (fun _ H'=>H'=upd H10 acc (.lst (ys++[y]))) J10 rfl (.cons r10 .nil) ⟨acc,ys,y,rfl,rfl,a10,hsz,rfl⟩) fun _ s11 ⟨_,H11,J11,_,e11⟩=>?_;subst e11;obtain⟨b1,b2,b3⟩:=back J11;exact⟨m',hm,i+1,ys++[y],_,b1,b2,b3,w10⟩
 exact lD (loop _ rfl) (T.self _ 0 _ _ _ st4 (loop _ rfl))
theorem Jy {tg iter elt:jD}{ifs:List jD}{scope:Zr}{own fr:List Str}{ix:List Nat}{wi:TI}{g:TG}{tt:TT}{te:TE}{pos:Pos} (hc:X.calm=true) (BB:Hi X scope own fr ix) (hi:PI X tg iter wi)
  (hg:∀zj C sF HF fp,PG (wW X zj (own++fr) scope C sF HF fp) tg g) (ht:∀zj C sF HF fp,PTs (wW X zj (own++fr) scope C sF HF fp) ifs tt) (he:∀zj C sF HF fp,PE (wW X zj (own++fr) scope C sF HF fp) elt te)
  (hs:∀x,foldedSetIterable iter X.env x=pure x:=by intro _;rfl):PE X (.ListComp elt [⟨tg,iter,ifs,0⟩] scope pos) (zmc wi own.length ix g tt te):=by
 intro zj s σ H Q I h;have B:=BB.ok I.ok;rw[eval_ListComp];refine fD (use:=none) rfl hs (t7 B.free) B.kind B.names (thn (hi zj s σ H _ I h) fun xv s1 h1=>thn h1 fun itv s2 h2=>?_);obtain⟨it,fp,tn,J,H2,rfl,I2,T,st2,f2,R⟩:=h2;refine Wn (Y5 B.nocell (by intro y hy;simp at hy) (fun h₁ hns₁ hsb₁=>?_) B.kind);dsimp only at hns₁ hsb₁;have I3:=I2.lnew (t':=s2.toks) (its:=[]) (ys:=[]) .nil (qX _);obtain⟨W,⟨m0,w0⟩,turn⟩:=R _ I2.fresh;have fF:∀b∈fp,∃o,s2.heap.get? b=some o:=fun b hb=>let ⟨o,e,_⟩:=T.obj _ _ st2 b hb;⟨o,e⟩;have ziS:∀b∈fp,b≠s2.heap.objs.size:=fun b hb=>let ⟨o,e⟩:=fF b hb;qY (zV e);have push:∀b o,s2.heap.get? b=some o->(s2.heap.push { cls:=.type "list",data:=.seq ([]:List zc).toArray }).get? b=some o:=fun b o e=>zO _ e;exact HH hc B hg ht he I3 T (T.keep _ _ _ st2 fun b _ o e=>push b o e) (fun b hb=>⟨by rw[jM (ziS b hb)];exact(f2 b hb).1,(f2 b hb).2⟩) (fun b hb=>let ⟨o,e⟩:=fF b hb;⟨o,push b o e⟩) rfl
  (fun b o e=>hsb₁.extBut b o (qY (zV e)) (zO _ e)) hns₁ w0 turn fun s6 H5 J6 qn=>by
   obtain⟨m6,hn6,_⟩:=J6.loc;exact⟨m6,hn6,fun h' hs'=>⟨.ref _,H5,Dk I3 (fun b hb=>⟨by rw[jM (ziS b hb)];exact(f2 b hb).1,(f2 b hb).2⟩) rfl J6 hs',rfl,qn⟩⟩
theorem zhw {tg iter elt:jD}{ifs:List jD}{scope:Zr}{own fr:List Str}{ix:List Nat}{wi:TI}{g:TG}{tt:TT}{te:TE}{pos spos py:Pos}{k:Nat}{y:Str} (hc:X.calm=true) (hN:X.N.Nodup) (hk:X.N[k]?=some y) (hy:X.env.scope.names.lookup y=some .local) (BB:Hi X scope own fr ix) (hi:PI X tg iter wi)
  (hg:∀zj C sF HF fp,PG (wW X zj (own++fr) scope C sF HF fp) tg g) (ht:∀zj C sF HF fp,PTs (wW X zj (own++fr) scope C sF HF fp) ifs tt) (he:∀zj C sF HF fp,PE (wW X zj (own++fr) scope C sF HF fp) elt te)
  (hsw:swapsWith (.ListComp elt [⟨tg,iter,ifs,0⟩] scope pos) (some (.Name y py)) spos.line X.env=pure true:=by rfl)
  (hs:∀x,foldedSetIterable iter X.env x=pure x:=by intro _;rfl):PS X (.Assign [.Name y py] (.ListComp elt [⟨tg,iter,ifs,0⟩] scope pos) spos) (zmb (zmc wi own.length ix g tt te) (rP k)):=by
 intro zj s σ H D I h;have B:=BB.ok I.ok;rw[mF _ _ _ _ hsw];refine zr (Ve (zr ?_));show wpAny _ X.A (do let _ <- comprehension (.ListComp elt [⟨tg,iter,ifs,0⟩] scope pos) scope X.env _ (newList []) false (eval iter X.env) (some (assign (.Name y py) X.env))) _ _ s;refine zr (jt (fD (use:=some (assign (.Name y py) X.env)) (Q:=fun _ s'=>SP X zj D .next s') rfl hs (t7 B.free) B.kind B.names
  (thn (hi zj s σ H _ I h) fun xv s1 h1=>thn h1 fun itv s2 h2=>?_)) (fun _ s' hq=>qj (qj hq)) fun _ _ e=>e)
 obtain⟨it,fp,tn,J,H2,rfl,I2,T,st2,f2,R⟩:=h2;refine Wn (Y5 B.nocell (by intro y hy;simp at hy) (fun h₁ hns₁ hsb₁=>?_) B.kind);dsimp only at hns₁ hsb₁;have I3:=I2.lnew (t':=s2.toks) (its:=[]) (ys:=[]) .nil (qX _);obtain⟨W,⟨m0,w0⟩,turn⟩:=R _ I2.fresh;have fF:∀b∈fp,∃o,s2.heap.get? b=some o:=fun b hb=>let ⟨o,e,_⟩:=T.obj _ _ st2 b hb;⟨o,e⟩;have ziS:∀b∈fp,b≠s2.heap.objs.size:=fun b hb=>let ⟨o,e⟩:=fF b hb;qY (zV e);have push:∀b o,s2.heap.get? b=some o->(s2.heap.push { cls:=.type "list",data:=.seq ([]:List zc).toArray }).get? b=some o:=fun b o e=>zO _ e;have f3:∀b∈fp,mW X zj (upd H2 s2.heap.objs.size (.lst [])) b:=fun b hb=>⟨by rw[jM (ziS b hb)];exact(f2 b hb).1,(f2 b hb).2⟩;refine HH (Q:=fun x H1=>rP k x σ H1 D.nx) hc B hg ht he I3 T (T.keep _ _ _ st2 fun b _ o e=>push b o e) f3 (fun b hb=>let ⟨o,e⟩:=fF b hb;⟨o,push b o e⟩) rfl
  (fun b o e=>hsb₁.extBut b o (qY (zV e)) (zO _ e)) hns₁ w0 turn fun s6 H5 J6 qn=>?_
 have I6:Inv X zj σ H5 { s6 with heap:=s6.heap }:=Dk I3 f3 rfl J6 (BZ ..);have I6:Inv X zj σ H5 s6:=I6;obtain⟨m6,⟨o6,es6,ep6,ho6,rest6⟩,_⟩:=id J6.loc;have sz:∀b o,(s2.heap.push { cls:=.type "list",data:=.seq ([]:List zc).toArray }).get? b=some o->b≠(s2.heap.push { cls:=.type "list",data:=.seq ([]:List zc).toArray }).objs.size:=fun b o e=>qY (zV e);have hge:X.s₀.heap.objs.size<=(s2.heap.push { cls:=.type "list",data:=.seq ([]:List zc).toArray }).objs.size:=I3.sz;have hloc:(s2.heap.push { cls:=.type "list",data:=.seq ([]:List zc).toArray }).objs.size≠X.env.locals:=fun z=>by
  have:=I3.lt;rw[<- z] at this;exact vH _ this
 have hfs:(s2.heap.push { cls:=.type "list",data:=.seq ([]:List zc).toArray }).objs.size ∉ X.fs:=I3.nofs (zE _);have hcell:∀x c,X.env.cells.lookup x=some c->c≠(s2.heap.push { cls:=.type "list",data:=.seq ([]:List zc).toArray }).objs.size:=fun x c e=>by
  obtain⟨v,ob,hob,_⟩:=I3.cell x c e;exact sz _ _ hob
 have hpin:∀p∈X.pn++zj,p.1≠(s2.heap.push { cls:=.type "list",data:=.seq ([]:List zc).toArray }).objs.size:=fun p hp=>sz _ _ (I3.pin p hp).1;have I7:Inv X (zj++[((s2.heap.push { cls:=.type "list",data:=.seq ([]:List zc).toArray }).objs.size,o6)]) σ H5 s6:=I6.pins_of fun p hp=>by
  rcases List.mem_append.mp hp with z | z
  .exact I6.pin p (z8 _ z)
  .rw[List.mem_singleton.mp z];refine⟨ho6,J6.free,hloc,hfs,fun v z=>?_⟩;rw[rest6.1] at z;cases z
 refine dJ (fX (v:=.ref s2.heap.objs.size) I7 hN hk (.inl hy) rfl (fun s8 I8=>?_) (.inr hy));have h8:=(I8.pin ((s2.heap.push { cls:=.type "list",data:=.seq ([]:List zc).toArray }).objs.size,o6) (z8 _ (z8 _ (List.mem_singleton.mpr rfl)))).1;refine⟨m6,⟨o6,es6,ep6,h8,rest6⟩,fun h' hs'=>⟨_,H5,(I8.unpinned).turned (t':=s8.toks) (fun b o hb e=>hs'.extBut b o hb e) J6.free hloc (.inr hge) hcell hpin,qn⟩⟩
end
end L2
namespace L2
open PySem PySem.Spec PyProof.Rows PySem.SeqAt
section
variable {X:Cx}{zj:List (zm×Obj)}{σ:St}{H:Hp}{s:zp}
theorem Inv.ints (I:Inv X zj σ H s){a:zm}{ns:List Int} (h:SqL X.K H a (ns.map V.int)):∃vs:List zc,s.heap.IsList a vs.toArray/\Yy vs ns/\ns.length<=sizeLine:=by
 obtain⟨its,r,p,z⟩:=I.list h;exact⟨its,p.isList,intsAre_of r,by rwa[zf] at z⟩
end
section
variable {X:Cx}
theorem zkT (hc:X.calm=true):VP X (.builtin "all") (fun xs H Q=>∃(p:zm) (bs:List Bool),xs=[.ref p]/\SqL X.K H p (bs.map V.bl)/\Q (.bl (bs.all id)) H):=by
 intro zj s σ H xs us Q I r h;obtain⟨p,bs,rfl,hq,q⟩:=h;obtain⟨u,rfl,ru⟩:=vals1 r;cases ru;obtain⟨its,rv,pl,hz⟩:=I.list hq;have hl:=pl.isList;have hlt:p<s.heap.objs.size:=by obtain⟨_,e,_⟩:=hl;exact zV e
 refine Ja (call_all_walk (CW hl ?_));refine⟨s.heap.objs.size,[s.heap.objs.size,p],[s.heap.objs.size],its.toArray.size,_,_,fun i=>(bs[i]?).getD true,rfl,Walks.list (A:=X.A.in1) (I.ok.hd hc) _ p (qY hlt) its.toArray,
  ⟨⟨_,jf _ rfl,rfl,rfl⟩,hl.push _⟩,fun i v s' Q' E' hP hQ=>?_,fun h' tk hk (htk:s.toks<=tk)=>?_⟩
 .have hP':its[i]?=some v:=by simpa using hP
  have zrb:bs.length=its.length:=by have:=rv.length;rwa[zf] at this
  have hi:i<bs.length:=by rw[zrb];exact(List.getElem?_eq_some_iff.mp hP').1
  obtain⟨w,ew,rw'⟩:=rv.get (x:=V.bl bs[i]) (i:=i) (by rw[qF,zq hi];rfl);rw[hP'] at ew;cases ew;cases (show v=lB bs[i] from rw');simp only[zq hi,xf] at hQ;exact yg hQ
 .have e:((qJ its.toArray.size).all fun i=>(bs[i]?).getD true)=bs.all id:=by
   have zrb:bs.length=its.length:=by have:=rv.length;rwa[zf] at this
   rw[z7,<- zrb];exact Mz bs
  rw[e];exact⟨.bl _,H,I.kept (My hk),rfl,q⟩
end
end L2
namespace L2
open PySem PySem.Spec PyProof.Rows
theorem zX.wr {H H':Hp}{p:zm}{o:HO} (s:zX H H') (h:H p=dF):zX H (upd H' p o):=fun b u e=>by
 rw[jM (v9 e h)];exact s b u e
theorem zq4 {A:jg}{k:Nat} (hr:JG k A):A.units+64<cLine:=hr.units
section
variable {X:Cx}
theorem Ie (K:zg) (hK:X.K=K:=by rfl):IxR X (zwZ K):=by subst hK;exact j8
theorem zaU (K:zg){es:List jD}{k:Nat}{t:TGs}{n:Nat}{pos:Pos} (hc:X.calm=true) (h:PGs X es t) (hK:X.K=K:=by rfl)
  (hn:(assignEach es X.env).length=n:=by rfl) (hst:(assignEach es X.env).findIdx? (·.1)=none:=by rfl):PG X (.Tuple es k pos) (zsS K n t):=by subst hK;exact Lg hc h hn hst
end
theorem Vt {K:zg}{a acc:zm}{xs:List V}{own:Nat}{ix:List Nat}{g:TG}{te:TE}{σ:St}{H1:Hp}{Q:VK} (f:Nat->V) (hq:SqL K H1 a xs) (hn:H1 acc=none) (hz:xs.length<=sizeLine)
  (step:∀i x H (R:VK),xs[i]?=some x->zX H1 H->R (f i) H->g x (yH own ix σ) H fun σ4 H4=>σ4.drop own=ix.map (fun i=>(σ[i]?).getD none)/\te σ4 H4 R)
  (hd:Q (.ref acc) (upd H1 acc (.lst ((qJ xs.length).map f)))) :
  mH (Itl K a) own ix g cZ te σ H1 acc Q:=by
 refine⟨fun i m ys H=>m=xs.length-i/\i<=xs.length/\ys=(qJ i).map f/\H=upd H1 acc (.lst ys),⟨xs.length,by simp,qX _,rfl,rfl⟩,?_⟩;rintro i m ys H ⟨rfl,hi,rfl,rfl⟩;have q:SqL K (upd H1 acc (.lst ((qJ i).map f))) a xs:=(zX.new hn).seq hq;refine⟨zL,?_⟩;by_cases hlt:i<xs.length
 .refine .inr ⟨⟨xs,xs[i],q,by simp[hlt]⟩,by rw[zf,vB];omega,fun x H3 y=>?_⟩;obtain⟨e,y⟩:=y;subst e;exact step i x _ _ (y xs q) (zX.new hn) ⟨zL,xs.length-(i+1),by omega,rfl,hlt,by rw[Jf,jw];rfl,by rw[Hb]⟩
 .have e:i=xs.length:=by omega
  subst e;exact .inl ⟨⟨xs,q,zE _⟩,hd⟩
theorem Inv.turns {X:Cx}{zj:List (zm×Obj)}{σ:St}{H:Hp}{s:zp} {h':jW}{ch:List zm} {t':Nat} (I:Inv X zj σ H s) (hf:∀b∈ch,mW X zj H b) (k:∀b o,b ∉ ch->s.heap.get? b=some o->h'.get? b=some o) (htp:0<t':=by first|exact jJ _|assumption|exact Inv.tk ‹_›|exact Inv.tkL ‹_› ‹_›|(have:=Inv.tk ‹_›;simp only[] at *;omega)) :
  Inv X zj σ H { s with heap:=h',toks:=t' }:=by
 have nit:∀b u,H b=some u->b ∉ ch:=fun b u e z=>by rw[(hf b z).1] at e;cases e
 refine I.step (g':=s.gens) (d':=s.drawn) (ch:=ch) (fun b hb=>⟨(hf b hb).2.2.2.1,(hf b hb).2.1,(hf b hb).2.2.2.2.1,(hf b hb).2.2.2.2.2⟩) (fun b o _ _ hc e _=>k b o hc e) (fun b o _ _ hc e _=>⟨o.slots,k b o hc e⟩) (fun _ _ _ _ n=>n)
  (fun b o hc e=>⟨o,k b o hc e⟩) (fun _ _ e=>e) (fun _ _ _ e=>e) (fun b ps e=>⟨#[],by rw[e];simp⟩) (fun m hm=>?_) (fun b u e=>?_) I.bare
 .obtain⟨o,es,ep,ho,r⟩:=hm;exact⟨o,es,ep,k _ o (fun z=>(hf _ z).2.1 rfl) ho,r⟩
 .refine(I.hok b u e).stay (fun c v hc q=>k c v ?_ q) (fun _ q=>q) fun _ _ q=>q;rcases hc with z | z
  .rw[z];exact nit b u e
  .exact nit c _ z
theorem Inv.turnsT {X:Cx}{zj:List (zm×Obj)}{σ:St}{H:Hp}{s:zp} {h':jW}{ch:List zm} {t':Nat}{T:zm}{xs:List V}{its:List zc} (I:Inv X zj σ H s) (hf:∀b∈ch,mW X zj H b) (k:∀b o,b ∉ ch->s.heap.get? b=some o->h'.get? b=some o)
  (hT:s.heap.objs.size<=T) (r:Vals xs its) (ht:IsTup h' T its.toArray) (hz:xs.length<=sizeLine) (htp:0<t':=by first|exact jJ _|assumption|exact Inv.tk ‹_›|exact Inv.tkL ‹_› ‹_›|(have:=Inv.tk ‹_›;simp only[] at *;omega)):Inv X zj σ (upd H T (.tup xs)) { s with heap:=h',toks:=t' }:=by
 have hn:H T=none:=I.hok.fresh hT;have nit:∀b u,H b=some u->b ∉ ch:=fun b u e z=>by rw[(hf b z).1] at e;cases e
 have lt:∀b o,s.heap.get? b=some o->b≠T:=fun b o e=>qY (qy (zV e) hT);refine I.step (g':=s.gens) (d':=s.drawn) (ch:=ch) (fun b hb=>⟨(hf b hb).2.2.2.1,(hf b hb).2.1,(hf b hb).2.2.2.2.1,(hf b hb).2.2.2.2.2⟩) (fun b o _ _ hc e _=>k b o hc e) (fun b o _ _ hc e _=>⟨o.slots,k b o hc e⟩) (fun b o _ e n=>by rw[jM (lt b o e)];exact n)
  (fun b o hc e=>⟨o,k b o hc e⟩) (fun b ys e=>by rw[jM (v9 e hn)];exact e) (fun b o u e=>by rw[jM (v9 e hn)];exact e) (fun b ps e=>⟨#[],by rw[jM (v9 e hn),e];simp⟩) (fun m hm=>?_) (fun b u e=>?_) I.bare
 .obtain⟨o,es,ep,ho,r⟩:=hm;exact⟨o,es,ep,k _ o (fun z=>(hf _ z).2.1 rfl) ho,r⟩
 .by_cases hb:b=T
  .subst hb;rw[zL] at e;cases e;exact⟨hz,its,r,ht⟩
  .rw[jM hb] at e;refine(I.hok b u e).stay (fun c v hc q=>k c v ?_ q) (fun c q=>?_) fun c w q=>?_
   .rcases hc with z | z
    .rw[z];exact nit b u e
    .exact nit c _ z
   .rw[jM (v9 q hn)];exact q
   .rw[jM (v9 q hn)];exact q
section
variable {X:Cx}
end
end L2
namespace Bw
noncomputable def C:Nat->Nat->Nat
 | _,0=>1
 | 0,_+1=>0
 | n+1,k+1=>C n k+C n (k+1)
theorem tE (n:Nat):C n 0=1:=by cases n <;> rfl
theorem zcg (k:Nat):C 0 (k+1)=0:=rfl
theorem dM (n k:Nat):C (n+1) (k+1)=C n k+C n (k+1):=rfl
theorem pA:∀(n k:Nat),n<k->C n k=0
 | n,0,h=>absurd h (lR _)
 | 0,_+1,_=>rfl
 | n+1,k+1,h=>by
  rw[dM,pA n k (by omega),pA n (k+1) (by omega)]
theorem zkJ:∀n:Nat,C n n=1
 | 0=>rfl
 | n+1=>by rw[dM,zkJ n,pA n (n+1) (by omega)]
theorem zkI:∀n:Nat,C n 1=n
 | 0=>rfl
 | n+1=>by rw[dM,tE,zkI n];omega
theorem U6:∀(n k:Nat),(k+1)*C n (k+1)+k*C n k=n*C n k
 | 0,0=>by simp[C]
 | 0,k+1=>by simp[C]
 | n+1,0=>by rw[zkI,tE];omega
 | n+1,k+1=>by
  have h1:=U6 n k;have h2:=U6 n (k+1);rw[dM n (k+1),dM n k];have e1:(k+1+1)*(C n (k+1)+C n (k+1+1))=(k+1+1)*C n (k+1)+(k+1+1)*C n (k+1+1):=oX _ _ _;have e2:(k+1)*(C n k+C n (k+1))=(k+1)*C n k+(k+1)*C n (k+1):=oX _ _ _;have e3:(n+1)*(C n k+C n (k+1))=(n*C n k+C n k)+(n*C n (k+1)+C n (k+1)):=by rw[oX,Q3,Q3]
  have e4:(k+1+1)*C n (k+1)=(k+1)*C n (k+1)+C n (k+1):=Q3 _ _;have e5:(k+1)*C n k=k*C n k+C n k:=Q3 _ _;rw[e1,e2,e3,e4,e5];omega
theorem zgY {n k:Nat} (h:k<=n):(k+1)*C n (k+1)=C n k*(n-k):=by
 have e:=U6 n k;have e2:C n k*(n-k)+k*C n k=n*C n k:=by
  rw[Q0 (C n k),<- dz,Nat.sub_add_cancel h]
 omega
theorem zpF {n k:Nat} (h:k<=n):C n k*(n-k) / (k+1)=C n (k+1):=by
 rw[<- zgY h,Nat.mul_div_cancel_left _ (jJ k)]
theorem zcf:∀(n k:Nat),C n k<=n ^ k
 | n,0=>by rw[tE];exact zE _
 | n,k+1=>by
  have ih:=zcf n k;by_cases h:k<=n
  .rw[<- zpF h,lr];refine qd (Nat.div_le_self _ _) ?_;exact Xh ih (Nat.sub_le _ _)
  .rw[pA n (k+1) (by omega)];exact qX _
noncomputable def ch (n k:Int):Int:=(C n.toNat k.toNat:Nat)
theorem pF (n k:Int):0<=ch n k:=cF _
theorem t6 (n k:Nat):ch (n:Int) (k:Int)=(C n k:Nat):=by
 unfold ch;rw[yf,yf]
theorem Aq {n k:Int} (h0:0<=n) (h:n<k):ch n k=0:=by
 unfold ch;rw[pA _ _ (by omega)];rfl
theorem iD (n:Int):ch n 0=1:=by
 unfold ch;rw[show (0:Int).toNat=0 from rfl,tE];rfl
theorem zav {n k:Int} (hn:0<=n) (hk:0<=k):ch (n+1) (k+1)=ch n k+ch n (k+1):=by
 unfold ch;rw[show (n+1).toNat=n.toNat+1 by omega,show (k+1).toNat=k.toNat+1 by omega,dM];omega
theorem zn1 {n:Int}{i:Nat} (hn:(i:Int)<=n):ch n i*(n-i) / ((i:Int)+1)=ch n ((i:Int)+1):=by
 unfold ch;have e:n=((n.toNat:Nat):Int):=by omega
 have e1:((i:Int)+1).toNat=i+1:=by omega
 have e2:((i:Nat):Int).toNat=i:=by omega
 have e3:n-(i:Int)=((n.toNat-i:Nat):Int):=by omega
 rw[e1,e2,e3,<- zpF (n:=n.toNat) (k:=i) (by omega)];have e4:((i:Int)+1)=((i+1:Nat):Int):=by omega
 rw[e4,<- aA,<- Ek]
noncomputable def fac:Nat->Int
 | 0=>1
 | i+1=>fac i*((i:Int)+1)
theorem HS (i:Nat):fac (i+1)=fac i*((i:Int)+1):=rfl
end Bw
namespace Bw
theorem znU:∀(n k:Nat),C n k<=C (n+1) k
 | n,0=>by rw[tE,tE];exact zE _
 | n,k+1=>by rw[dM];omega
theorem zeY {m n:Nat} (k:Nat) (h:m<=n):C m k<=C n k:=by
 induction h with
 | refl=>exact zE _
 | step _ ih=>exact qd ih (znU _ _)
theorem zpG {n k:Nat} (h:k<=n):0<C n k:=by
 have:=zeY k h;rw[zkJ] at this;omega
theorem Hj {n k:Nat} (h:0<C n k):k<=n:=by
 rcases Cg n k with z | z
 .rw[pA n k z] at h;omega
 .exact z
theorem zeX (n k:Nat):∀j:Nat,j<=n->C n (k+1)<=C (n-j) (k+1)+j*C (n-1) k
 | 0,_=>by simp
 | j+1,h=>by
  have ih:=zeX n k j (by omega);obtain⟨r,hr⟩:∃r,n-j=r+1:=⟨n-j-1,by omega⟩;have e:n-(j+1)=r:=by omega
  have m:=zeY (m:=r) (n:=n-1) k (by omega);rw[hr,dM] at ih;rw[e,Q3];omega
theorem zjm {t k jq:Nat} (h:jq<C t (k+1)) (d:Nat) (hd:d=(C t (k+1)-jq+C (t-1) k-1) / C (t-1) k) :
  0<C (t-1) k/\1<=d/\d<=t/\jq<C (t-d+1) (k+1):=by
 have hk:k+1<=t:=Hj (by omega);have ho:0<C (t-1) k:=zpG (by omega);have hdm:d*C (t-1) k<=C t (k+1)-jq+C (t-1) k-1:=by
  rw[hd];exact Nat.div_mul_le_self _ _
 have d1:1<=d:=by
  rw[hd];exact(Nat.le_div_iff_mul_le ho).mpr (by omega)
 have s:(d-1)*C (t-1) k+C (t-1) k=d*C (t-1) k:=by
  have e:d=d-1+1:=by omega
  conv=>rhs;rw[e,Q3]
 have lt:(d-1)*C (t-1) k<C t (k+1)-jq:=by omega
 have dt:d-1<=t:=by
  rcases Cg t (d-1) with z | z
  .have q:=zeX t k t (zE _);rw[Xx,zcg] at q;have w:t*C (t-1) k<=(d-1)*C (t-1) k:=Z9 _ (by omega);omega
  .exact z
 have q:=zeX t k (d-1) dt;have gt:jq<C (t-(d-1)) (k+1):=by omega
 have ge:=Hj (n:=t-(d-1)) (k:=k+1) (by omega);have e:t-d+1=t-(d-1):=by omega
 rw[e];exact⟨ho,d1,by omega,gt⟩
noncomputable def O9:Nat->Nat
 | 0=>1
 | i+1=>O9 i*(i+1)
theorem zce:∀{n k:Nat},k<=n->(n+1-k) ^ k<=C n k*O9 k
 | n,0,_=>by rw[tE];exact zE _
 | n,k+1,h=>by
  have ih:=zce (n:=n) (k:=k) (by omega);have st:=zgY (n:=n) (k:=k) (by omega);have e:C n (k+1)*O9 (k+1)=C n k*O9 k*(n-k):=by
   show C n (k+1)*(O9 k*(k+1))=_;rw[Q0 (O9 k),<- Yz,Q0 (C n (k+1)),st,Yz,Q0 (n-k),<- Yz]
  rw[e];have e2:n+1-(k+1)=n-k:=by omega
  rw[e2,lr];refine Z9 _ (qd (rA (by omega) k) ih)
theorem zdt {jq k f:Nat} (h:jq*O9 k<2 ^ (f*k)):jq<C (2 ^ f+k) k:=by
 rw[Nat.pow_mul] at h;generalize 2 ^ f=p at h ⊢;have q:=zce (n:=p+k) (k:=k) (by omega);have e:p+k+1-k=p+1:=by omega
 rw[e] at q;have r:p ^ k<=(p+1) ^ k:=rA (by omega) k;rcases Cg jq (C (p+k) k) with z | z
 .exact z
 .have:=Z9 (O9 k) z;omega
theorem zhb:∀i:Nat,fac i=(O9 i:Nat)
 | 0=>rfl
 | i+1=>by
  rw[HS,zhb i];show _=((O9 i*(i+1):Nat):Int);rw[aA];rfl
structure Ht (k jq t:Int):Prop where
 lo:k-1<=t
 le:ch t k<=jq
 lt:jq<ch (t+1) k
theorem Ar {m n k:Int} (h:m<=n):ch m k<=ch n k:=by
 unfold ch;exact Int.ofNat_le.mpr (zeY _ (by omega))
theorem Ht.unique {k jq t u:Int} (a:Ht k jq t) (b:Ht k jq u):t=u:=by
 rcases (by omega:t=u∨t+1<=u∨u+1<=t) with e | e | e
 .exact e
 .have:=Ar (k:=k) e;have h1:=a.lt;have h2:=b.le;omega
 .have:=Ar (k:=k) e;have h1:=b.lt;have h2:=a.le;omega
theorem ziB {n k:Int} (hn:0<=n) (h:0<ch n k):k<=n:=by
 rcases (by omega:k<=n∨n<k) with z | z
 .exact z
 .rw[Aq hn z] at h;omega
theorem zqL {n k:Int} (hk:0<=k) (h:k<=n):0<ch n k:=by
 unfold ch;exact Int.ofNat_lt.mpr (zpG (by omega))
theorem zfX {t k jq:Int} (hk:1<=k) (h0:0<=jq) (ht:0<=t) (h:jq<ch t k) (d:Int) (hd:d=(ch t k-jq+ch (t-1) (k-1)-1) / ch (t-1) (k-1)) :
  k<=t/\0<ch (t-1) (k-1)/\1<=d/\k-1<=t-d/\jq<ch (t-d+1) k:=by
 have kt:k<=t:=ziB ht (by omega);obtain⟨j,hj⟩:∃j:Nat,k=(j:Int)+1:=⟨(k-1).toNat,by omega⟩;obtain⟨m,hm⟩:∃m:Nat,t=(m:Int):=⟨t.toNat,by omega⟩;obtain⟨r,hr⟩:∃r:Nat,jq=(r:Int):=⟨jq.toNat,by omega⟩;subst hj hm hr;have e1:ch (m:Int) ((j:Int)+1)=(C m (j+1):Nat):=by
  rw[show ((j:Int)+1)=((j+1:Nat):Int) by omega,t6]
 have e2:ch ((m:Int)-1) ((j:Int)+1-1)=(C (m-1) j:Nat):=by
  rw[show ((m:Int)-1)=((m-1:Nat):Int) by omega,show ((j:Int)+1-1)=((j:Nat):Int) by omega,t6]
 rw[e1] at h;rw[e1,e2] at hd;have h':r<C m (j+1):=by omega
 obtain⟨s1,s2,s3,s4⟩:=zjm h' _ rfl;have ed:d=(((C m (j+1)-r+C (m-1) j-1) / C (m-1) j:Nat):Int):=by
  rw[hd,Ek];congr 1;omega
 generalize (C m (j+1)-r+C (m-1) j-1) / C (m-1) j=dn at s2 s3 s4 ed;subst ed;have e3:ch ((m:Int)-(dn:Int)+1) ((j:Int)+1)=(C (m-dn+1) (j+1):Nat):=by
  rw[show ((m:Int)-(dn:Int)+1)=((m-dn+1:Nat):Int) by omega,show ((j:Int)+1)=((j+1:Nat):Int) by omega,t6]
 have le:=Hj (n:=m-dn+1) (k:=j+1) (by omega);rw[e2,e3];exact⟨kt,by omega,by omega,by omega,by omega⟩
theorem zqD {jq k:Int}{F b:Nat} (hk:1<=k) (h0:0<=jq) (hb:(jq*fac k.toNat).natAbs<2 ^ b) (hF:(b:Int)<=(F:Int)*k):jq<ch ((2:Int) ^ F+k-1+1) k:=by
 obtain⟨j,hj⟩:∃j:Nat,k=(j:Int):=⟨k.toNat,by omega⟩;obtain⟨r,hr⟩:∃r:Nat,jq=(r:Int):=⟨jq.toNat,by omega⟩;subst hj hr;rw[yf,zhb,<- aA,Int.natAbs_natCast] at hb;have hF':b<=F*j:=by
  have:((F*j:Nat):Int)=(F:Int)*(j:Int):=aA _ _;omega
 have s:=zdt (jq:=r) (k:=j) (f:=F) (qy hb (oY (by decide) hF'));have e:(2:Int) ^ F+(j:Int)-1+1=((2 ^ F+j:Nat):Int):=by
  rw[Gr,Gs];show _=(2:Int) ^ F+(j:Int);omega
 rw[e,t6];exact Int.ofNat_lt.mpr s
end Bw
namespace Bw
open PySem L2
open Builtin.Int (intBits)
variable {P:qz}{w:jd}{K:zg}{mg:Str->Option zc}{base:jW}
def fP:Sp:=fun vs H Q _=>∃n k:Int,vs=[.int n,.int k]/\0<=n/\0<=k/\k<=1000/\zZ n<=100000/\Q (.int (ch n k)) H
def zbb:Sp:=fun vs H Q _=>∃a b:Int,vs=[.int a,.int b]/\0<b/\Q (.int ((a+b-1) / b)) H
def za4:Sp:=fun vs H Q _=>∃k jq:Int,vs=[.int k,.int jq]/\1<=k/\k<=60/\0<=jq/\zZ jq<=50000/\∀t:Int,k-1<=t->jq<ch (t+1) k->zZ t<=60000->Q (.int t) H
def zpX:Sp:=fun vs H Q _=>∃k jq:Int,vs=[.int k,.int jq]/\1<=k/\k<=60/\0<=jq/\zZ jq<=50000/\∀t:Int,Ht k jq t->zZ t<=60000->Q (.int t) H
theorem vI {x:Int}{m:Nat} (h1:0<=x) (h2:x<(2:Int) ^ m):zZ x<=m:=by
 refine intBits_le_iff.mpr ?_;have e:((2 ^ m:Nat):Int)=(2:Int) ^ m:=by
  rw[Gs];rfl
 rw[<- e] at h2;omega
theorem zU {x:Int}{m n:Nat} (h:zZ x<=m) (hm:m<=n):zZ x<=n:=qd h hm
theorem GJ {n:Int}{k m:Nat} (h:zZ n<=m) (hn:0<=n):zZ (ch n k)<=m*k+1:=by
 refine jN (y:=n ^ k) ?_ (intBits_pow_le h k);unfold ch;rw[yf];have e:n=((n.toNat:Nat):Int):=by omega
 have e2:(n ^ k).natAbs=n.toNat ^ k:=by
  rw[Mr];congr 1;omega
 rw[e2];have:=zcf n.toNat k;omega
theorem zcn:∀i:Nat,i<=64->zZ (fac i)<=7*i+1
 | 0,_=>by decide
 | i+1,hi=>by
  rw[HS];exact zU (Wm (m:=7*i+1) (n:=7) (zcn i (by omega)) (vI (by omega) (by omega))) (by omega)
end Bw
namespace L2
open PySem PySem.Spec PyProof.Rows
section
variable {X:Cx}
end
section
variable {prog:qz}{w:jd}{A:jg}{E:zc->zp->Prop}{s:zp}
end
section
variable {X:Cx}
end
end L2
namespace L2
open PySem PySem.Spec PyProof.Rows
open PySem.W (hideAll of_hideAll hideAll_get)
def CXE (P:qz) (w:jd):CXT:=fun outer H s E e s'=>∃(x:zm) (C a0:zc) (H':Hp) (B:jW),e=.ref x/\(s'.os=s.os/\0<s'.toks)/\K3 s'.gens/\zbk B outer x C a0 s'.heap /\
 (∀h3,B.StaysIn h3->s'.heap.UpToSlots h3->Un (frs outer) [] H H' s.heap h3/\HOk P w H' h3)/\s.heap.get? x=none/\H' x=none/\E C none H'
theorem zaS {K:zg}{h:jW}{C:zm}{bmB:List zc}{newId:String} (X:K.In h) (q:qD K C bmB newId=true) :
  ∃bm N nm q bs hdct sn sub ab col dd k0 k1 k2 k3 k5 mN,h.get? C=some (excClassObj nm q C N bs bm hdct sn sub ab col dd k0 k1 k2 k3 k5 newId)/\h.Ns N mN/\mN "__init__"=none/\OwnTail h bmB bm/\∀v b,Zq K C v=some b->(jx C::bm).contains v=b:=by
 unfold qD at q;split at q
 .rename_i dd cd sl ho;split at q
  .rename_i C' bm k0 k1 k2 k3 n k5 hm hs;simp only[vh,beq_iff_eq,yX] at q;obtain⟨⟨⟨⟨⟨rfl,rfl⟩,hdel⟩,ht⟩,hok⟩,hni⟩:=q;obtain⟨nm,bs,mro,ns,qn,hd,sn,sub,ab,col,del⟩:=cd;dsimp only at hm hdel hok hni;subst hm hdel;have hsl:sl=#[k0,k1,k2,k3,some (.builtin n),k5]:=by
    obtain⟨l⟩:=sl;simp only at hs;rw[hs]
   subst hsl;exact⟨bm,ns,nm,qn,bs,hd,sn,sub,ab,col,dd,k0,k1,k2,k3,k5,_,X _ _ ho,.of_isNs (W.isNs_of_in X hok),W.nsMap_none_of_in X hok hni,W.tail_of_in X ht,fun v b e=>by
    unfold Zq W.clsIn at e;rw[ho] at e;simpa using e⟩
  .cases q
 .cases q
theorem Zn.there {P:qz}{w:jd}{H:Hp}{h:jW}{a:zm}{o:HO} (x:Zn P w H h a o):∃ob,h.get? a=some ob:=by
 cases o with
 | lst xs=>obtain⟨_,_,_,_,e⟩:=x;exact⟨_,e⟩
 | tup xs=>obtain⟨_,_,_,ob,e,_⟩:=x;exact⟨_,e⟩
 | dK kvs=>obtain⟨_,_,_,_,o,_,_,e,_⟩:=x;exact⟨_,e⟩
 | dT kvs=>obtain⟨_,_,_,_,o,_,_,e,_⟩:=x;exact⟨_,e⟩
 | set S n=>obtain⟨o,_,_,_,e,_⟩:=x;exact⟨_,e⟩
 | ins C dx fs=>obtain⟨_,_,_,e,_⟩:=x;exact⟨_,e⟩
 | own y=>obtain⟨_,e⟩:=x;exact⟨_,e⟩
 | xd fs=>obtain⟨_,⟨_,_,_,e,_⟩,_⟩:=x;exact⟨_,e⟩
 | rng lo hi=>obtain⟨_,_,_,e⟩:=x;exact⟨_,e⟩
 | frz ob u=>obtain⟨e,_⟩:=x;exact⟨_,e⟩
 | tbl ps=>exact⟨_,(show h.get? a=some _ from x)⟩
 | met f y=>exact⟨_,(show h.get? a=some _ from x)⟩
 | ext φ=>obtain⟨_,⟨_,e⟩,_⟩:=x;exact⟨_,e⟩
section
variable {P:qz}{w:jd}{K:zg}{mg:Str->Option zc}{base:jW}{N:List Str}{qual:Str}{scope:Zr}{f:zm}{cdv:zc}{A:jg}{outer:List Env}{s s2:zp}{H H1:Hp}{E:XK}{zj:List (zm×Obj)}{σ:St}
theorem stands (I:Inv (yI (CXE P w) P w K mg base N qual scope f cdv A outer s H E) zj σ H1 s2){h3:jW} (hst:(hideAll s2.heap (frs (envOfC qual scope s.heap.objs.size f cdv::outer))).StaysIn h3) (up:s2.heap.UpToSlots h3) :
  Un (frs outer) [] H H1 s.heap h3/\HOk P w H1 h3:=by
 have kk:∀b o,s2.heap.get? b=some o->b ∉ frs (envOfC qual scope s.heap.objs.size f cdv::outer)->h3.get? b=some o:=fun b o e hb=>hst b o (hideAll_get _ e hb);have frz:∀b,b∈frs (envOfC qual scope s.heap.objs.size f cdv::outer)->b=s.heap.objs.size∨b∈frs outer:=fun b hb=>by
  unfold frs at hb;rw[wB] at hb;exact List.mem_cons.mp hb
 have zyo:∀b o,s.heap.get? b=some o->b ∉ frs outer->b ∉ frs (envOfC qual scope s.heap.objs.size f cdv::outer):=fun b o e hb z=>by
  rcases frz b z with q | q
  .exact absurd (zV e) (by rw[q];exact vH _)
  .exact hb q
 have U:=I.base;have stk:=I.stack;refine⟨⟨fun b o e n hb hx=>kk b o (U.keep b o e n hb hx) (zyo b o e hb),fun b o e n hb hx=>?_,fun b o e n hx=>U.free b o e n hx,fun b o e hx=>?_,U.tups,U.frzs,U.tbls⟩,fun a u e=>?_⟩
 .obtain⟨sl,q⟩:=U.slot b o e n hb hx;obtain⟨_,o2,ho2,hd2⟩:=I.ok.funs.mem hb;have ho2':s.heap.get? b=some o2:=ho2;rw[e] at ho2';cases ho2';obtain⟨sl2,q2⟩:=up b _ q hd2;exact⟨sl2,q2⟩
 .obtain⟨o2,q⟩:=U.there b o e hx;by_cases hb:b∈frs (envOfC qual scope s.heap.objs.size f cdv::outer)
  .obtain⟨_,o3,ho3,hd3⟩:=stk.mem hb;obtain⟨sl,q3⟩:=up b _ ho3 hd3;exact⟨_,q3⟩
  .exact⟨_,kk b o2 q hb⟩
 .refine(I.hok a u e).stay (fun b v hb q=>kk b v q fun z=>?_) (fun _ q=>q) fun _ _ q=>q;have hn:=I.stkFree b z;rcases hb with r | r
  .rw[r] at hn;rw[hn] at e;cases e
  .rw[hn] at r;cases r
theorem zo2 {h':jW}{e:zm}{C:zc}{vs:List zc} (I:Inv (yI (CXE P w) P w K mg base N qual scope f cdv A outer s H E) zj σ H1 s2) (m:Heap.MadeExcOf s2.heap h' e C vs) (h:E C none H1) :
  (yI (CXE P w) P w K mg base N qual scope f cdv A outer s H E).xe (.ref e) { s2 with heap:=h' }:=by
 show wpAny (model P w) (A.deeper (envOfC qual scope s.heap.objs.size f cdv)) (leaving (envOfC qual scope s.heap.objs.size f cdv) (.ref e)) (fun _ s''=>CXE P w outer H s E (.ref e) s'') (fun e' s''=>CXE P w outer H s E e' s'') { s2 with heap:=h' };have stk:=I.stack;refine wpAny_leaves_madeW (s:={ s2 with heap:=h' }) (base:=hideAll s2.heap (frs (envOfC qual scope s.heap.objs.size f cdv::outer))) (h:=s2.heap) I.ok.frames rfl (fun b o q=>Ae _ q) (W.funFrames_hide stk fun env he b hb=>List.mem_filterMap.mpr ⟨env,he,hb⟩) m fun h'' t fl tup bt ups=>?_;have up1:s2.heap.UpToSlots h'':=(Ut m.keeps).trans ups;refine⟨e,C,.ref t,H1,_,rfl,I.os,I.bare,fl,fun h3 st3 up3=>stands I st3 (up1.trans up3),?_,?_,h⟩
 .have en:=m.new;cases q:s.heap.get? e with
  | none=>rfl
  | some o=>
   obtain⟨o2,q2⟩:=I.base.there e o q (by show e ∉ ([]:List zm);simp);rw[en] at q2;cases q2
 .cases q:H1 e with
  | none=>rfl
  | some u=>
   obtain⟨ob,q2⟩:=Zn.there (I.hok e u q);rw[m.new] at q2;cases q2
theorem zpQ {b:zm}{o:Obj} (e:s.heap.get? b=some o) (hb:b ∉ frs outer):b ∉ frs (envOfC qual scope s.heap.objs.size f cdv::outer):=fun z=>by
 have z':b∈s.heap.objs.size::frs outer:=by
  unfold frs at z ⊢;rw[wB] at z;exact z
 rcases List.mem_cons.mp z' with q | q
 .exact absurd (zV e) (by rw[q];exact vH _)
 .exact hb q
theorem zo3 {x:zm} {s':zp}{e:zc} {E':XK} (I:Inv (yI (CXE P w) P w K mg base N qual scope f cdv A outer s H E) zj σ H1 s2) (hx:CXE P w (envOfC qual scope s.heap.objs.size f cdv::outer) H1 s2 E' e s') (h:∀C H',E' C none H'->E C none H') :
  (yI (CXE P w) P w K mg base N qual scope f cdv A outer s H E).xe e s':=by
 obtain⟨x,C,a0,H',B,rfl,os,bare,fl,st,xn,xh,q⟩:=hx;show wpAny (model P w) (A.deeper (envOfC qual scope s.heap.objs.size f cdv)) (leaving (envOfC qual scope s.heap.objs.size f cdv) (.ref x)) (fun _ s''=>CXE P w outer H s E (.ref x) s'') (fun e' s''=>CXE P w outer H s E e' s'') s';refine wpAny_leaves_onW I.ok.frames rfl fl fun h'' fl2 up=>?_;have U:=I.base;refine⟨x,C,a0,H',B,rfl,⟨os.1.trans I.os.1,os.2⟩,bare,fl2,fun h3 st3 up3=>?_,?_,xh,h C H' q⟩
 .obtain⟨u,ok⟩:=st h3 st3 (up.trans up3);refine⟨⟨fun b o e n hb hx=>u.keep b o (U.keep b o e n hb hx) (U.free b o e n hx) (zpQ e hb) hx,fun b o e n hb hx=>?_,fun b o e n hx=>?_,fun b o e hx=>?_,fun b xs e=>u.tups b xs (U.tups b xs e),fun b o v e=>u.frzs b o v (U.frzs b o v e),fun b ps e=>?_⟩,ok⟩
  .obtain⟨sl,q1⟩:=U.slot b o e n hb hx;have hb':b∈frs (envOfC qual scope s.heap.objs.size f cdv::outer):=by
    unfold frs;rw[wB];exact zG _ hb
   obtain⟨sl2,q2⟩:=u.slot b _ q1 (U.free b o e n hx) hb' hx;exact⟨sl2,q2⟩
  .obtain⟨o2,q2⟩:=U.there b o e hx;exact u.free b o2 q2 (U.free b o e n hx) hx
  .obtain⟨o2,q2⟩:=U.there b o e hx;exact u.there b o2 q2 hx
  .obtain⟨m1,q1⟩:=U.tbls b ps e;obtain⟨m2,q2⟩:=u.tbls b _ q1;exact⟨m1++m2,by rw[q2,VD]⟩
 .cases q1:s.heap.get? x with
  | none=>rfl
  | some o=>
   obtain⟨o2,q2⟩:=U.there x o q1 (by show x ∉ ([]:List zm);simp);rw[xn] at q2;cases q2
end
section
variable {P:qz}{w:jd}{K:zg}{mg:Str->Option zc}{base:jW}
def FnE (P:qz) (w:jd) (K:zg) (mg:Str->Option zc) (base:jW) (k:Nat) (x:Str) (ps:List Str) (sp:Sp):Prop:=
 ∃f fd,Kc P w K mg base (CXE P w) k f fd ps sp/\jR K (.ref f)=true/\Binds K fd ps []/\mg x=some (.ref f)
def zrN (C:zm) (E:XK) (t:TA):TS:=fun _ σ H=>t σ H fun vs H1=>vs.length<=sizeLine/\E (.ref C) none H1
theorem yc {N:List Str}{qual:Str}{scope:Zr}{f:zm}{cdv:zc}{A:jg}{outer:List Env}{s:zp}{H:Hp}{E:XK}{xn:Str}{C:zm}{bmB:List zc}{B newId initId:String}{e:jD}{es:List jD}{t:TA}{np Q8 pos:Pos}
  (FB:ExcBaseFacts B newId initId bmB) (hq:qD K C bmB newId=true) (hg:Gl (yI (CXE P w) P w K mg base N qual scope f cdv A outer s H E) xn) (hm:mg xn=some (.ref C)) (ha:PA (yI (CXE P w) P w K mg base N qual scope f cdv A outer s H E) (e::es) t)
  (hd:(xn == ("__debug__":Str))=false:=by decide)
  (he:z9 (e::es) (yI (CXE P w) P w K mg base N qual scope f cdv A outer s H E).env=(false,eval e (yI (CXE P w) P w K mg base N qual scope f cdv A outer s H E).env)::z9 es (yI (CXE P w) P w K mg base N qual scope f cdv A outer s H E).env:=by rfl)
  (hpl:(backTo Q8 (z9 es (yI (CXE P w) P w K mg base N qual scope f cdv A outer s H E).env)).any (·.1)=false:=by rfl) :
  PS (yI (CXE P w) P w K mg base N qual scope f cdv A outer s H E) (.Raise (some (.Call (.Name xn np) (e::es) [] Q8)) none pos) (zrN C E t):=by
 intro zj s1 σ H0 D I h;obtain⟨bm,N',nm,q,bs,hdct,sn,sub,ab,col,dd,k0,k1,k2,k3,k5,mN,hC,hN,hni,TL,_⟩:=zaS I.mod.kin hq;refine wpAny_Raise_call_subT (C:=C) (nm:=nm) (q:=q) (N:=N') (bs:=bs) (bm:=bm) (hdct:=hdct) (sn:=sn) (sub:=sub) (ab:=ab) (col:=col) (dd:=dd) (k0:=k0) (k1:=k1) (k2:=k2) (k3:=k3) (k5:=k5)
  FB (mN:=mN) (TL.hasType FB.hasBase) (I.ok.hd rfl) (by rw[he];show (false || (backTo Q8 (z9 es _)).any (·.1))=false;rw[hpl];rfl) hni (pM I hg hm ⟨rfl,?_⟩ hd)
 have hs:=ha Q8 zj s1 σ H0 _ I h;rw[he] at hs ⊢;exact Z4 (thn hs fun us s2 x=>by
  obtain⟨vs,H1,I1,r1,z,q1⟩:=x;exact⟨rfl,by rw[<- r1.length];exact z,I1.bk _ _ hC,hN.keeps I1.bk,TL.keeps I1.bk,fun h' x m=>zo2 I1 m q1⟩)
theorem Fun.okE {x qual:Str}{st:jV}{f:zm}{fd:jQ}{N ps:List Str}{k:Nat}{sp:Sp} (F:Fun K x qual st f fd) (S:qU N ps (zP st)) (len:∀vs H Q E,sp vs H Q E->vs.length=ps.length)
  (hbody:∀(cdv:zc) (A:jg) (outer:List Env) (s:zp) (H:Hp) (vs:List V) (Q:VK) (E:XK),JG k (A.deeper (envOfC qual (zP st) s.heap.objs.size f cdv))->sp vs H Q E ->
   ∃t,PSs (yI (CXE P w) P w K mg base N qual (zP st) f cdv A outer s H E) (wD st) t/\t { nx:=fun _ H'=>Q .non H',rt:=Q } (start N vs) H):Kc P w K mg base (CXE P w) (k+1) f fd ps sp:=by
 obtain⟨oc,od,kV,doc,pm,an,cdv,ct,osl,rfl,lk,hcd⟩:=F.ex;exact zhd lk hcd S len fun A outer s H vs Q E hr hsp=>hbody cdv A outer s H vs Q E hr hsp
theorem Def.fnE {x:Str}{st:jV}{N ps:List Str}{k:Nat}{sp:Sp} (D:Def K mg x st ps) (S:qU N ps (zP st)) (len:∀vs H Q E,sp vs H Q E->vs.length=ps.length)
  (hbody:∀(f:zm) (cdv:zc) (A:jg) (outer:List Env) (s:zp) (H:Hp) (vs:List V) (Q:VK) (E:XK),JG k (A.deeper (envOfC x (zP st) s.heap.objs.size f cdv))->sp vs H Q E ->
   ∃t,PSs (yI (CXE P w) P w K mg base N x (zP st) f cdv A outer s H E) (wD st) t/\t { nx:=fun _ H'=>Q .non H',rt:=Q } (start N vs) H):FnE P w K mg base (k+1) x ps sp:=by
 obtain⟨f,fd,F,b,m⟩:=D;exact⟨f,fd,F.okE S len (hbody f),F.kp,b,m⟩
end
section
variable {M:aM}{A:jg}{E:zc->zp->Prop}{h:jW}{g:Array K5}{d:Drawn}{t:Nat}{os:Q4}
def zci (h:jW) (C:zm) (bm:List zc):Prop:=∃N nm q bs hdct sn sub ab col dd k0 k1 k2 k3 k5 newId,h.get? C=some (excClassObj nm q C N bs bm hdct sn sub ab col dd k0 k1 k2 k3 k5 newId)/\bm.contains (.type "BaseException")=true
end
section
variable {X:Cx}{zj:List (zm×Obj)}{σ:St}{H:Hp}{s:zp}
theorem zjs {M:aM}{A:jg}{E:zc->zp->Prop}{i:Nat}{x:Str}{v:V}{Q:Unit->zp->Prop} (I:Inv X zj σ H s) (hN:X.N.Nodup) (hi:X.N[i]?=some x) (hk:X.env.kindOf x=some .local) (hs':X.env.scope.names.lookup x=some .local) (hv:σ[i]?=some (some v))
  (h:∀s',Inv X zj (σ.set i none) H s'->Q () s'):wpAny M A (unbindName X.env x) Q E s:=by
 obtain⟨m,hn,hl⟩:=id I.loc;have hcls:(X.env.scope.kind == .class || (X.env.scope.kind == .module && X.env.locals != X.env.globals))=false:=by rw[I.ok.kind];rfl
 have hiσ:i < σ.length:=by rw[I.len];exact(List.getElem?_eq_some_iff.mp hi).1
 have cne:=I.cne;obtain⟨u,_,lk⟩:=hl i x v hi hv (.inl hs');have mx:m x=some u:=by
  rcases lk with ⟨_,e⟩ | ⟨k,_⟩
  .exact e
  .rw[hk] at k;rcases k with k | k <;> cases k
 refine wpAny_unbindName_local hk hn mx hcls fun h' u' hn' hs=>?_;obtain⟨oL,_,_,hoL,_⟩:=id hn;refine h _ ⟨I.ok,I.os,I.bare,⟨fun b o e n hb hx=>?_,fun b o e n hb hx=>?_,I.base.free,fun b o e hx=>?_,I.base.tups,I.base.frzs,I.base.tbls⟩,⟨_,hn',fun j y v' e1 e2 e3=>?_⟩,fun y c e=>?_,I.free,I.freeC,fun p hp=>?_,fun b ob e=>?_,by simpa using I.len⟩
 .exact(hs.2 b (qY (qy (zV e) I.ok.above))).trans (I.base.keep b o e n hb hx)
 .obtain⟨sl,e1⟩:=I.base.slot b o e n hb hx;exact⟨sl,(hs.2 b (qY (qy (zV e) I.ok.above))).trans e1⟩
 .obtain⟨o',e1⟩:=I.base.there b o e hx;exact⟨o',(hs.2 b (qY (qy (zV e) I.ok.above))).trans e1⟩
 .by_cases hj:j=i
  .subst hj;rw[Zj hiσ] at e2;cases e2
  .rw[YX (Xy hj)] at e2;obtain⟨u2,r',q⟩:=hl j y v' e1 e2 e3;refine⟨u2,r',?_⟩;rcases q with ⟨k,e⟩ | ⟨k,c,e,z⟩
   .refine .inl ⟨k,?_⟩;have:y≠x:=fun e=>hj (Ir hN e1 (e ▸ hi));simp[this,e]
   .exact .inr ⟨k,c,e,z.sameBut hs (cne y c e)⟩
 .obtain⟨w',z⟩:=I.cell y c e;exact⟨w',z.sameBut hs (cne y c e)⟩
 .obtain⟨a,b,c,d,e⟩:=I.pin p hp;exact⟨(hs.2 p.1 c).trans a,b,c,d,e⟩
 .refine(I.hok b ob e).stay (fun c w' hc q=>(hs.2 c ?_).trans q) (fun _ q=>q) fun _ _ q=>q;rintro rfl;rcases hc with rfl | hc
  .rw[I.free] at e;cases e
  .rw[I.free] at hc;cases hc
abbrev Cx.inX (X:Cx) (x:zm):Cx:={ X with A:=X.A.mark (some (.ref x)),calm:=false,xe:=fun _ _=>False }
theorem Inv.inX (I:Inv X zj σ H s) (x:zm):Inv (X.inX x) zj σ H s:=
 ⟨⟨I.ok.mod,I.ok.kind,I.ok.glob,I.ok.blt,I.ok.above,I.ok.inj,I.ok.has,I.ok.cab,fun z=>Bool.noConfusion z,I.ok.frames,I.ok.stk,I.ok.exf,I.ok.bs,I.ok.bsz,I.ok.noex,I.ok.exfs,I.ok.funs,I.ok.frf⟩,I.os,I.bare,I.base,I.loc,I.cell,I.free,I.freeC,I.pin,I.hok,I.len⟩
theorem Inv.outX {x:zm} (hh:X.calm=true->X.A.handled=none) (I:Inv (X.inX x) zj σ H s):Inv X zj σ H s:=
 ⟨⟨I.ok.mod,I.ok.kind,I.ok.glob,I.ok.blt,I.ok.above,I.ok.inj,I.ok.has,I.ok.cab,hh,I.ok.frames,I.ok.stk,I.ok.exf,I.ok.bs,I.ok.bsz,I.ok.noex,I.ok.exfs,I.ok.funs,I.ok.frf⟩,I.os,I.bare,I.base,I.loc,I.cell,I.free,I.freeC,I.pin,I.hok,I.len⟩
noncomputable def fJ (x:zm) (C:zc):HO:=.ext fun h=>∃o,h.get? x=some o/\o.cls=C
theorem zfg {x:zm}{C:zc} {H':Hp}{s6:zp}{o:Obj} (I:Inv X zj σ H s) (ho:s6.os=s.os/\0<s6.toks) (hg:K3 s6.gens) (u:Un (frs X.stack) [] H H' s.heap s6.heap) (ok:HOk X.prog X.w H' s6.heap) (xn:s.heap.get? x=none) (xh:H' x=none) (he:s6.heap.get? x=some o) (hc:o.cls=C) :
  Inv X zj σ (upd H' x (fJ x C)) s6:=by
 have ne:∀b q,s.heap.get? b=some q->b≠x:=fun b q e z=>by rw[z,xn] at e;cases e
 refine I.call' (ch:=[]) ho ⟨u.keep,u.slot,fun b q e n hx=>by rw[jM (ne b q e)];exact u.free b q e n hx,u.there,fun b xs e=>by rw[jM (v9 (u.tups b xs e) xh)];exact u.tups b xs e,fun b q v e=>by rw[jM (v9 (u.frzs b q v e) xh)];exact u.frzs b q v e,fun b ps e=>?_⟩ ?_ hg (fun b z=>absurd z (by simp))
 .obtain⟨more,q⟩:=u.tbls b ps e;exact⟨more,by rw[jM (v9 q xh)];exact q⟩
 .intro b v e;by_cases hb:b=x
  .subst hb;rw[zL] at e;cases e;exact⟨⟨o,he,hc⟩,⟨o,he⟩,fun h1 h2 ⟨o1,e1,c1⟩ k=>⟨o1,k o1 e1,c1⟩⟩
  .rw[jM hb] at e;exact(ok b v e).stay (fun _ _ _ q=>q) (fun c q=>by rw[jM (v9 q xh)];exact q) fun c xs q=>by rw[jM (v9 q xh)];exact q
end
end L2
namespace L2
open PySem PySem.Spec PyProof.Rows
noncomputable def Ite (K:zg) (l:zm) (N:Nat):It:=
  ⟨fun i H=>∃xs x,SqL K H l xs/\xs.length=N/\xs[i]?=some x,
   fun i H v H'=>∃t,H t=none/\v=.ref t/\∀xs x,SqL K H l xs->xs[i]?=some x->H'=upd H t (.tup [.int i,x]),
   fun i H=>i=N/\∃xs,SqL K H l xs/\xs.length=N⟩
theorem zf0 {P:qz}{w:jd}{K:zg}{elts:List jD}{x1:Nat}{tp:Pos} (l e it:zm) (N:Nat) (hei:e≠it) (hle:l≠e) (hli:l≠it) :
  Turn P w K (.Tuple elts x1 tp) (Ite K l N) [e,it] e (fun i h=>(∃old,IsEnum h e it i old)/\h.IsListIter it l i) where
 mem:=by simp
 obj:=fun i h ⟨⟨old,h1⟩,h2⟩ c hc=>by
  simp only[xX,jL,or_false] at hc;rcases hc with z | z
  .subst z;exact⟨_,h1,fun v q=>by have q':dq _=Us v:=q;cases q'⟩
  .subst z;obtain⟨o,ho,_,hd⟩:=h2;exact⟨o,ho,fun v q=>by rw[hd] at q;cases q⟩
 keep:=fun i h h' ⟨⟨old,h1⟩,h2⟩ k=>⟨⟨old,k e (by simp) _ h1⟩,h2.at fun o z=>k it (by simp) o z⟩
 item:=by
  intro X hP hw hK hc i zj s σ H E I hf ⟨⟨old,h1⟩,h2⟩ ⟨xs,x,q1,hN,hx⟩;subst hP hw hK;obtain⟨it1,v1,p1,z1⟩:=I.list q1;have hl1:=v1.length;have hsz:it1.toArray.size=N:=by rw[z7];omega
  have hi:i<N:=by have:=(List.getElem?_eq_some_iff.mp hx).1;omega
  obtain⟨u1,e1,r1⟩:=v1.get hx;have D:=zgg (prog:=X.prog) (w:=X.w) (A:=X.A.in1) (I.ok.hd hc) it l hli it1.toArray;rw[hsz] at D;refine wpAny_pyNext_enum_itemD D h1 ⟨h2,p1.isList⟩ hi hei (by simp only[xX,jL,or_false,not_or];exact⟨hei,Xy hle⟩) fun u h' tk hu g1 gst gT gs k=>?_;refine⟨_,rfl,wpAny_letOwnedTupleGo_enum g1 fun h'' g1' sb=>?_⟩;have hzT:s.heap.objs.size≠e:=zbs (zV h1);have eu:u=u1:=by
   have hu':it1[i]?=some u:=by simpa using hu
   rw[e1] at hu';exact(xr hu').symm
  subst eu;have gT':IsTup h'' s.heap.objs.size [bA i tk,u].toArray:=⟨_,sb.extBut _ _ hzT gT,rfl,_,rfl⟩;have hlz:∀{c:zm}{o:Obj},c≠e->h'.get? c=some o->h''.get? c=some o:=fun hcz z=>sb.extBut _ _ hcz z;refine⟨.ref s.heap.objs.size,upd H s.heap.objs.size (.tup [.int i,x]),I.turnsT (ch:=[e,it]) (t':=tk+1) (fun c hcm=>hf c hcm) (fun c o hcn z=>?_) (zE _) (.cons ⟨tk,rfl⟩ (.cons r1 .nil)) gT' (by show 2<=sizeLine;decide),rfl,
   ⟨_,I.hok.fresh (zE _),rfl,fun xs' x' w1 w2=>?_⟩,⟨⟨_,g1'⟩,gst.1.at fun o z=>hlz (Xy hei) z⟩,fun c hcm=>?_⟩
  .simp only[xX,jL,or_false,not_or] at hcn;exact hlz hcn.1 (k c o hcn.1 hcn.2 z)
  .have a1:=I.list_inj w1 q1;subst a1;rw[hx] at w2;cases w2;rfl
  .obtain⟨o,z,_⟩:∃o,s.heap.get? c=some o/\True:=by
    simp only[xX,jL,or_false] at hcm;rcases hcm with z | z
    .subst z;exact⟨_,h1,trivial⟩
    .subst z;obtain⟨o,ho,_⟩:=h2;exact⟨o,ho,trivial⟩
   rw[jM (qY (zV z))];exact(hf c hcm).1
 done:=by
  intro X hP hw hK hc i zj s σ H E I hf ⟨⟨old,h1⟩,h2⟩ ⟨hi,xs,q1,hN⟩;subst hP hw hK hi;obtain⟨it1,v1,p1,z1⟩:=I.list q1;have hl1:=v1.length;have hsz:it1.toArray.size=i:=by rw[z7];omega
  have D:=zgg (prog:=X.prog) (w:=X.w) (A:=X.A.in1) (I.ok.hd hc) it l hli it1.toArray;rw[hsz] at D;refine wpAny_pyNext_enum_endD D h1 ⟨h2,p1.isList⟩ fun h' k=>⟨rfl,I.turns (ch:=[e,it]) (t':=s.toks) hf fun c o hcn z=>?_⟩;simp only[xX,jL,or_false,not_or] at hcn;exact k c o hcn.2 z
 self:=fun _ _ _ _ _ st h=>let ⟨⟨_,z⟩,_⟩:=st;CV z h
section
variable {X:Cx}
def zq5 (K:zg) (ta:TA):TI:=fun σ H R=>ta σ H fun vs H1=>∃a xs,vs=[.ref a]/\SqL K H1 a xs/\R (Ite K a xs.length) H1
theorem Bj {a:jD}{ta:TA}{p pos:Pos}{elts:List jD}{x1:Nat}{tp:Pos} (hg:Gl X "enumerate") (hm:X.mg "enumerate"=none) (ha:PA X [a] ta)
  (hs:z9 [a] X.env=(false,eval a X.env)::z9 [] X.env:=by rfl) (hs2:(backTo pos (z9 [] X.env)).any (·.1)=false:=by rfl) :
  PI X (.Tuple elts x1 tp) (.Call (.Name "enumerate" p) [a] [] pos) (zq5 X.K ta):=by
 intro zj s σ H R I h;refine Call_ (nM I hg hm zck (km (thn (ha pos zj s σ H _ I h) fun us s1 ⟨vs,H1,I1,r1,q1⟩=>?_) hs hs2));obtain⟨l,xs,e,q1,q⟩:=q1;subst e;obtain⟨u,rfl,w1⟩:=vals1 r1;cases w1;obtain⟨its,v1,p1,z1⟩:=I1.list q1;have hl:l<s1.heap.objs.size:=by obtain⟨_,_,e,_⟩:=p1;exact zV e
 refine call_enumerate_list p1.isList fun h' g1 g2 gs k=>?_;refine CV g1 ?_;refine⟨s1.heap.objs.size+1,[s1.heap.objs.size+1,s1.heap.objs.size],_,_,H1,rfl,I1.kept (t':=s1.toks) k,zf0 l _ s1.heap.objs.size xs.length ?_ ?_ ?_,⟨⟨_,g1⟩,g2⟩,fun c hcm=>?_,q⟩
 .exact Nat.succ_ne_self _
 .exact qY (dD hl)
 .exact qY hl
 .have hc:s1.heap.objs.size<=c:=by
   simp only[xX,jL,or_false] at hcm;rcases hcm with e | e
   .rw[e];exact dB _
   .rw[e];exact zE _
  exact I1.fpOk hc (I1.hok.fresh hc)
theorem zcp (hc:X.calm=true):VP X (.builtin "sum") (fun xs H Q=>∃(p:zm) (ns:List Int),xs=[.ref p]/\SqL X.K H p (ns.map V.int)/\Q (.int ns.sum) H):=by
 intro zj s σ H xs us Q I r h;obtain⟨p,ns,rfl,hq,q⟩:=h;obtain⟨u,rfl,ru⟩:=vals1 r;cases ru;obtain⟨its,hl,hi,hz⟩:=I.ints hq;obtain⟨xs,hx⟩:=hi.allInts.items;have hl':s.heap.IsList p (intItems xs):=hx ▸ hl;refine Ja <| sum_intListG (I.ok.hd hc) hl' fun h' tk t' hk (htk:s.toks<=tk)=>?_;have e1:ns=xs.toList.map (·.1):=by
  rw[<- nums_intItems,<- hx];exact(show numsOf its.toArray.toList=ns from hi.numsOf).symm
 have e2:preSum (numAt xs) xs.size=ns.sum:=by
  rw[preSum_eq,QZ (by simp),e1]
 rw[e2];exact⟨.int _,H,I.kept (t':=tk) hk,⟨_,rfl⟩,q⟩
end
theorem zpL:bootBuiltins "sum"=some (.builtin "sum"):=by decide +kernel
theorem t8 {K:zg}{a acc:zm}{xs:List V}{own:Nat}{ix:List Nat}{g:TG}{te:TE}{σ:St}{H1:Hp}{Q:VK} (f:Nat->V) (hq1:SqL K H1 a xs) (hn:H1 acc=none) (hz:xs.length<=sizeLine)
  (step:∀(i:Nat) (x:V) (t:zm) (H:Hp) (R:VK),xs[i]?=some x->zX H1 H->H t=some (.tup [.int i,x])->R (f i) H->g (.ref t) (yH own ix σ) H fun σ4 H4=>σ4.drop own=ix.map (fun i=>(σ[i]?).getD none)/\te σ4 H4 R)
  (hd:∀H',zX H1 H'->H' acc=some (.lst ((qJ xs.length).map f))->Q (.ref acc) H'):mH (Ite K a xs.length) own ix g cZ te σ H1 acc Q:=by
 refine⟨fun i m ys H=>m=xs.length-i/\i<=xs.length/\ys=(qJ i).map f/\zX H1 H/\H acc=some (.lst ys),⟨xs.length,by simp,qX _,rfl,zX.new hn,zL⟩,?_⟩;rintro i m zs H ⟨rfl,hi,rfl,sm,ha⟩;refine⟨ha,?_⟩;by_cases hlt:i<xs.length
 .refine .inr ⟨⟨xs,xs[i],sm.seq hq1,rfl,zq hlt⟩,by rw[zf,vB];omega,fun v H3 ⟨t,ht,hv,hy⟩=>?_⟩;have e:=hy xs _ (sm.seq hq1) (zq hlt);subst hv e;have ha3:(upd H t (.tup [.int i,xs[i]])) acc=some (.lst ((qJ i).map f)):=by rw[jM (v9 ha ht)];exact ha
  exact step i _ t _ _ (zq hlt) (sm.put ht) zL ⟨ha3,_,by omega,rfl,hlt,by rw[Jf,jw];rfl,(sm.put ht).wr hn,zL⟩
 .have e:i=xs.length:=by omega
  subst e;exact .inl ⟨⟨rfl,xs,sm.seq hq1,rfl⟩,hd H sm ha⟩
theorem zk5 {K:zg}{a:zm}{xs:List V}{g:TG}{tb:TS}{D:Ends}{σ:St}{H:Hp} (Pv:Nat->St->Hp->Prop) (h0:Pv 0 σ H) (hl:∀i σ H,Pv i σ H->SqL K H a xs)
  (hs:∀(i:Nat) x t σ H,xs[i]?=some x->Pv i σ H->H t=none->g (.ref t) σ (upd H t (.tup [.int i,x])) fun σ2 H2=>tb { D with nx:=Pv (i+1),ct:=Pv (i+1),bk:=D.nx } σ2 H2) (hd:∀σ H,Pv xs.length σ H->D.nx σ H) :
  ∃W:Nat->Nat->St->Hp->Prop,(∃m,W 0 m σ H)/\∀i m σ H,W i m σ H ->
   ((Ite K a xs.length).stop i H/\D.nx σ H)∨((Ite K a xs.length).go i H/\∃N:St->Hp->Prop,(∀σ' H',N σ' H'->∃m',m'<m/\W (i+1) m' σ' H')/\∀x H',(Ite K a xs.length).yld i H x H'->g x σ H' fun σ2 H2=>tb { D with nx:=N,ct:=N,bk:=D.nx } σ2 H2):=by
 refine⟨fun i m σ H=>m=xs.length-i/\i<=xs.length/\Pv i σ H,⟨_,rfl,qX _,h0⟩,?_⟩;rintro i m σ H ⟨rfl,hi,p⟩;have q1:=hl i σ H p;by_cases hlt:i<xs.length
 .refine .inr ⟨⟨xs,xs[i],q1,rfl,zq hlt⟩,Pv (i+1),fun σ' H' p'=>⟨_,by omega,rfl,hlt,p'⟩,fun v H3 ⟨t,ht,hv,hy⟩=>?_⟩;have e:=hy xs _ q1 (zq hlt);subst hv e;exact hs i _ t σ H (zq hlt) p ht
 .have e:i=xs.length:=by omega
  subst e;exact .inl ⟨⟨rfl,xs,q1,rfl⟩,hd σ H p⟩
theorem nD {lo:Int}{n:Nat}{acc:zm}{own:Nat}{ix:List Nat}{g:TG}{te:TE}{σ:St}{H1:Hp}{Q:VK} (Pr:Nat->V->Prop) (hn:H1 acc=none) (hz:n<=sizeLine)
  (step:∀(i:Nat) (H:Hp) (R:VK),i<n->zX H1 H->(∀v H',zX H H'->Pr i v->R v H')->g (.int (lo+i)) (yH own ix σ) H fun σ4 H4=>σ4.drop own=ix.map (fun i=>(σ[i]?).getD none)/\te σ4 H4 R)
  (hd:∀ys H',zX H1 H'->H' acc=some (.lst ys)->ys.length=n->(∀i v,ys[i]?=some v->Pr i v)->Q (.ref acc) H') :
  mH (Itr lo n) own ix g cZ te σ H1 acc Q:=by
 refine⟨fun i m ys H=>m=n-i/\i<=n/\ys.length=i/\(∀j v,ys[j]?=some v->Pr j v)/\zX H1 H/\H acc=some (.lst ys),⟨n,by simp,qX _,rfl,fun j v h=>by simp at h,zX.new hn,zL⟩,?_⟩;rintro i m ys H ⟨rfl,hi,hl,pr,sm,ha⟩;refine⟨ha,?_⟩;by_cases hlt:i<n
 .refine .inr ⟨hlt,by omega,fun x H3 y=>?_⟩;obtain⟨e,y⟩:=y;subst e y;refine step i _ _ hlt sm fun v H' s' pv=>⟨s' _ _ ha,n-(i+1),by omega,rfl,hlt,by rw[zM,hl];rfl,fun j u hj=>?_,(sm.trans s').wr hn,zL⟩;by_cases hji:j<ys.length
  .rw[qP hji] at hj;exact pr j u hj
  .have hj2:=(List.getElem?_eq_some_iff.mp hj).1;rw[zM,yz] at hj2;have ej:j=i:=by omega
   subst ej;rw[jj (by omega),hl,Xx] at hj;have:v=u:=by simpa using hj
   subst this;exact pv
 .have e:i=n:=by omega
  subst e;exact .inl ⟨zE _,hd ys H sm ha hl pr⟩
theorem zfi {K:zg}{a acc:zm}{xs:List V}{own:Nat}{ix:List Nat}{g:TG}{te:TE}{σ:St}{H1:Hp}{Q:VK} (Pr:Nat->V->Hp->Prop) (zsX:∀i v H H',zX H H'->Pr i v H->Pr i v H') (Qn:∀i v H o,H acc=some o->∀o',Pr i v H->Pr i v (upd H acc o'))
  (hq:SqL K H1 a xs) (hn:H1 acc=none) (hz:xs.length<=sizeLine)
  (step:∀(i:Nat) (x:V) (H:Hp) (R:VK),xs[i]?=some x->zX H1 H->(∀v H',zX H H'->Pr i v H'->R v H')->g x (yH own ix σ) H fun σ4 H4=>σ4.drop own=ix.map (fun i=>(σ[i]?).getD none)/\te σ4 H4 R)
  (hd:∀ys H',zX H1 H'->H' acc=some (.lst ys)->ys.length=xs.length->(∀i v,ys[i]?=some v->Pr i v H')->Q (.ref acc) H') :
  mH (Itl K a) own ix g cZ te σ H1 acc Q:=by
 refine⟨fun i m ys H=>m=xs.length-i/\i<=xs.length/\ys.length=i/\(∀j v,ys[j]?=some v->Pr j v H)/\zX H1 H/\H acc=some (.lst ys),⟨xs.length,by simp,qX _,rfl,fun j v h=>by simp at h,zX.new hn,zL⟩,?_⟩;rintro i m ys H ⟨rfl,hi,hl,pr,sm,ha⟩;refine⟨ha,?_⟩;have q:=sm.seq hq;by_cases hlt:i<xs.length
 .refine .inr ⟨⟨xs,xs[i],q,by simp[hlt]⟩,by omega,fun x H3 y=>?_⟩;obtain⟨e,y⟩:=y;subst e;refine step i x _ _ (y xs q) sm fun v H' s' pv=>⟨s' _ _ ha,xs.length-(i+1),by omega,rfl,hlt,by rw[zM,hl];rfl,fun j u hj=>?_,(sm.trans s').wr hn,zL⟩;by_cases hji:j<ys.length
  .rw[qP hji] at hj;exact Qn j u H' _ (s' _ _ ha) _ (zsX j u _ _ s' (pr j u hj))
  .have hj2:=(List.getElem?_eq_some_iff.mp hj).1;rw[zM,yz] at hj2;have ej:j=i:=by omega
   subst ej;rw[jj (by omega),hl,Xx] at hj;have:v=u:=by simpa using hj
   subst this;exact Qn j v H' _ (s' _ _ ha) _ pv
 .have e:i=xs.length:=by omega
  subst e;exact .inl ⟨⟨xs,q,zE _⟩,hd ys H sm ha hl pr⟩
section
variable {X:Cx}
end
end L2
namespace L2
open PySem PySem.Spec PyProof.Rows PySem.W PySem.Calls
section
variable {prog:qz}{w:jd}{A:jg}{E:zc->zp->Prop}{s:zp}{K:Frag}{x C:zm}{ox:Obj}
structure ie (K:Frag) (C:zm):Prop where
 ga:findIn K (.ref C) "__getattribute__"=some (some (.builtin "BaseException.__getattribute__"))
 hk:findIn K (.ref C) "__getattr__"=some none
 cl:findIn K (.ref C) "__class__"=some (some (.builtin "object.__class__"))
 gt:specialIn K (.builtin "object.__class__") "__get__"=some (some (.builtin "getset_descriptor.__get__"))
 tk:takesIn K (.builtin "object.__class__")=some true
 mo:mroIn K C (.type "object")=some true
 mb:mroIn K C (.type "BaseException")=some true
open PySem.Builtin PySem.Builtin.ObjectAttr in
theorem zft {M:aM}{h:jW} (X:K.In h) (L:ie K C):UG M h (find (.ref x) (.ref C) "__class__") (Found.bind (.builtin "getset_descriptor.__get__") (.builtin "object.__class__")):=by
 have L1:=Cz (M:=M) X L.cl;have L2:UG M h (getOf (some (.builtin "object.__class__"))) (some (.builtin "getset_descriptor.__get__")):=looks_specialIn X L.gt;have L3:=looks_takesIn (M:=M) X L.tk;exact L1.andThen (L2.andThen ((show UG M h (dataDescriptor? (some (.builtin "object.__class__")) (some (.builtin "getset_descriptor.__get__"))) (some (.builtin "getset_descriptor.__get__",.builtin "object.__class__")) from L3.andThen .now).andThen (Looks.tag .now)))
theorem zkV {M:aM}{nameV:zc}{Q:Unit->zp->Prop}{h:jW}{g:Array K5}{d:Drawn}{t:Nat}{os:Q4} (X:K.In h) (L:ie K C) (hx:h.get? x=some ox) (hc:ox.cls=.ref C) (hq:Q () ⟨h,g,d,t,os⟩) :
  wpAny M A (checkBuiltinCall "BaseException.__getattribute__" ⟨[.ref x,nameV],[]⟩) Q E ⟨h,g,d,t,os⟩:=by
 have hk:builtinKind "BaseException.__getattribute__"=some .slot:=by decide +kernel
 have hsplit:splitId "BaseException.__getattribute__"=some ("BaseException","__getattribute__"):=by decide +kernel
 have ha:=F.args_bexc_ga (.ref x) nameV;have LT:UG M h (typeOf (.ref x)) (.ref C):=hc ▸ (Mv hx).andThen .now;have LI:UG M h (isInstance (.ref x) (.type "BaseException")) true:=LT.andThen (looks_mroIn X L.mb);simp only[checkBuiltinCall,hk,hsplit];refine zr (LI.at ?_)
 repeat (first | assumption | wp_step)
open PySem.Builtin PySem.Builtin.ObjectAttr PySem.Builtin.Getset_descriptor in
theorem zfh {tp:zc}{R:uZ->zp->Prop} (X:K.In s.heap) (L:ie K C) (hx:s.heap.get? x=some ox) (hc:ox.cls=.ref C)
  (h:R (.ok (.ret (.ref C))) s):codeAny (model prog w) A (.call (.builtin "getset_descriptor.__get__") ⟨[.builtin "object.__class__",.ref x,tp],[]⟩) R s:=by
 obtain⟨hh,g,dr,t,os⟩:=s;have L0:UG (model prog w) hh (typeOf (.ref x)) (.ref C):=hc ▸ (Mv hx).andThen .now;have L1:=looks_mroIn (M:=model prog w) X L.mo;refine Y4 KF.slot_gs.plain KF.entry_gs (KF.slot_gs.check _ _ _ _ _ _ _ _ KF.type_class (KF.args_gs _ _ _) ?_);unfold pY.«getset_descriptor.__get__» descrGet;rw[dga_obj];refine zr (qj ?_);unfold descrGetter descrCheckInstance descrNameAndClass isInstance;simp only[KF.owner_class]
 repeat lk
 refine⟨Code.quiet_builtin _ (by decide +kernel),lX KF.entry_class ?_⟩;unfold pY.«object.__class__» shownTypeOf
 repeat lk
 exact h
theorem ziJ {Q:Option zc->zp->Prop} (X:K.In s.heap) (L:ie K C) (hx:s.heap.get? x=some ox) (hc:ox.cls=.ref C) (h:Q (some (.ref C)) { s with toks:=s.toks+1 }):wpAny (model prog w) A (getAttr? (.ref x) "__class__") Q E s:=by
 obtain⟨hh,g,d,t,os⟩:=s;have L0:UG (model prog w) hh (typeOf (.ref x)) (.ref C):=hc ▸ (Mv hx).andThen .now;have L1:=Cz (M:=model prog w) X L.ga;have L2:=Cz (M:=model prog w) X L.hk;unfold getAttr? getAttrBy? getAttrBy;refine zr (wpAny_mkText (zr (YC (jY (zr (L0.at (zr (L1.at ?_))))))));show wpAny _ _ (getAttrByItsOwn _ _ _ _ _ _) _ _ _;unfold getAttrByItsOwn hookBefore;refine zr ?_;show wpAny _ _ (typeLookup (.ref C) "__getattr__") _ _ _;refine L2.at ?_;refine zr (YC (jY ?_));show wpAny _ _ (boundAndCalled (.builtin "BaseException.__getattribute__") (.ref x) (.str "__class__" t)) _ _ _;unfold boundAndCalled;refine zr (pq (F.excAttr_ValueError.ga.bind (.ref x)) ?_);show wpAny _ _ (call (.builtin "BaseException.__getattribute__") [.ref x,.str "__class__" t]) _ _ _;refine W9 (Y4 F.excAttr_ValueError.ga.plain F.entry_bexc_ga (zkV (t:=t+1) X L hx hc ?_));unfold pY.«object.__getattribute__»;refine zr (pq (a:=(jx x,[V8 "__class__" t])) rfl ?_);refine zr (pq (a:=Qc "__class__") rfl ?_);refine zr (L0.at (zr ((zft X L).at ?_)));show wpAny _ _ (holding [.builtin "object.__class__"] (call (.builtin "getset_descriptor.__get__") [.builtin "object.__class__",.ref x,.ref C]) >>= ret) _ _ _;refine zr (jY (W9 (zfh (s:=⟨hh,g,d,t+1,os⟩) X L hx hc (qj ?_))));exact handed_on rfl (qj h)
end
section
variable {K:Frag}{x C:zm}
theorem zlj (L:ie K C):KitX K (.ref x) (.ref C) (fun h=>∃o,h.get? x=some o/\o.cls=.ref C) where
 ty:=fun M h _ p=>by
  obtain⟨o,h1,h2⟩:=p;exact h2 ▸ (Mv h1).andThen .now
 it:=fun _ _ X _=>by
  obtain⟨cd,hcd,_⟩:=Option.bind_eq_some_iff.mp (show (clsIn K C).bind _=some true from L.mo);unfold clsIn at hcd;split at hcd
  .rename_i c' d' cd' sl' ho;intro A' Q' E' s' k q;unfold isType loadHead;exact zr (Nk (k _ _ (X _ _ ho)) (qj q))
  .cases hcd
 ne:=fun h tp dd its n sl X htp=>by
  obtain⟨cd,hcd,_⟩:=Option.bind_eq_some_iff.mp (show (clsIn K C).bind _=some true from L.mo);refine Bool.eq_false_iff.mpr fun q=>?_;have e:C=tp:=Value.ref.inj (beq_iff_eq.mp q);subst e;unfold clsIn at hcd;split at hcd
  .rename_i c' d' cd' sl' ho;have z:=(X _ _ ho).symm.trans htp;cases z
  .cases hcd
 ca:=fun X p k=>by
  obtain⟨o,h1,h2⟩:=p;exact ziJ X L h1 h2 k
end
inductive XTy (K:zg) (H:Hp):V->zc->Prop where
 | of {x:V}{t:zc} (h:aa K H x t):XTy K H x t
 | exc {a C:zm} (L:ie K C) (h:H a=some (fJ a (.ref C))):XTy K H (.ref a) (.ref C)
section
variable {X:Cx}
theorem ZW:VP X (.builtin "isinstance") (fun xs H Q=>∃(x c:V) (u t:zc) (b:Bool),xs=[x,c]/\(∀u',RelV c u'->u'=u)/\XTy X.K H x t/\kitOne X.K t u=some b/\Q (.bl b) H):=by
 intro zj s σ H xs us Q I r h;obtain⟨x,c,u,t,b,rfl,hu,ty,e,q⟩:=h;obtain⟨u1,u2,rfl,r1,r2⟩:=vals2 r;have e2:=hu u2 r2;subst e2;cases ty with
 | of ty=>exact Ja (T7 I r1 ty e fun tk (htk:s.toks<=tk)=>⟨.bl b,H,I.tok tk,rfl,q⟩)
 | @exc a C L hx=>
  cases (show u1=jx a from r1);obtain⟨⟨o,ho,hc⟩,_,_⟩:=(show Zn X.prog X.w H s.heap a (fJ a (.ref C)) from I.hok a _ hx);exact Ja (kia_one (zlj L) I.kIn ⟨o,ho,hc⟩ e (fun z=>nomatch z) fun tk (htk:s.toks<=tk)=>⟨.bl b,H,I.tok tk,rfl,q⟩)
end
def Am (X:Cx) (G:St->zc->Hp->Prop):Prop:=∀(zj:List (zm×Obj)) (σ:St) (H:Hp) (s:zp) (e:zc) (s':zp),Inv X zj σ H s->CXE X.prog X.w X.stack H s (fun C _ H'=>G σ C H') e s'->X.xe e s'
def zyJ (sp:Sp) (G:St->zc->Hp->Prop) (t:TA):TE:=fun σ H Q=>t σ H fun vs H1=>sp vs H1 Q fun C _ H'=>G σ C H'
section
variable {X:Cx}{k:Nat}{x:Str}{ps:List Str}{sp:Sp}{p pos:Pos}{e:jD}{es:List jD}{t:TA}{G:St->zc->Hp->Prop}
theorem vN (F:FnE X.prog X.w X.K X.mg X.base k x ps sp) (hr:JG k X.A) (hg:Gl X x) (hx:Am X G) (ha:PA X (e::es) t) (hdb:(x == ("__debug__":Str))=false:=by decide)
  (he:z9 (e::es) X.env=(false,eval e X.env)::z9 es X.env:=by rfl) (hpl:(backTo pos (z9 es X.env)).any (·.1)=false:=by rfl) :
  PE X (.Call (.Name x p) (e::es) [] pos) (zyJ sp G t):=by
 obtain⟨f,fd,F,kp,b,m⟩:=F;intro zj s σ H Q I h;refine ZK (pM I hg m ?_ hdb);refine VM (h₀:=X.base) I.ok.mod.kin kp (thn (ha pos zj s σ H _ I h) fun us s1 ⟨vs,H1,I1,r,q⟩=>⟨I1.kIn,?_⟩) he hpl;have hl:us.length=ps.length:=by rw[<- r.length];exact F.len _ _ _ _ q
 have bb:=b s1 us I1.kIn (by rw[jr];exact hl);rw[jr] at bb;refine W9 (Q5 (F.run X.A X.stack s1 H1 ⟨us,[]⟩ us vs Q _ hr I1.env0 (.inl I1.tk) bb r q) fun rr s' hq=>?_);cases rr with
 | error e=>exact hx zj σ H1 s1 e s' I1 hq
 | ok fl=>
  cases fl with
  | ret u=>exact I1.after hq
  | next=>exact xQ hq
  | brk=>exact xQ hq
  | cont=>exact xQ hq
end
theorem jF {P:qz}{w:jd}{K:zg}{mg:Str->Option zc}{base:jW}{N:List Str}{qual:Str}{scope:Zr}{f:zm}{cdv:zc}{A:jg}{outer:List Env}{s:zp}{H:Hp}{E:XK} :
  Am (yI (CXE P w) P w K mg base N qual scope f cdv A outer s H E) (fun _ C H'=>E C none H'):=
 fun _ _ _ _ _ _ I h=>zo3 (x:=0) I h fun _ _ z=>z
abbrev Cx.pinned (X:Cx) (pn:List (zm×Obj)):Cx:={ X with pn:=pn }
theorem Inv.intoPn {X:Cx}{zj:List (zm×Obj)}{σ:St}{H:Hp}{s:zp} (I:Inv X zj σ H s):Inv (X.pinned (X.pn++zj)) [] σ H s:=
 ⟨⟨I.ok.mod,I.ok.kind,I.ok.glob,I.ok.blt,I.ok.above,I.ok.inj,I.ok.has,I.ok.cab,I.ok.hd,I.ok.frames,I.ok.stk,I.ok.exf,I.ok.bs,I.ok.bsz,I.ok.noex,I.ok.exfs,I.ok.funs,I.ok.frf⟩,I.os,I.bare,I.base,I.loc,I.cell,I.free,I.freeC,fun p hp=>I.pin p (by rw[jr] at hp;exact hp),I.hok,I.len⟩
theorem Inv.outPn {X:Cx}{zj Ug:List (zm×Obj)}{σ:St}{H:Hp}{s:zp} (I:Inv (X.pinned (X.pn++zj)) Ug σ H s):Inv X zj σ H s:=
 ⟨⟨I.ok.mod,I.ok.kind,I.ok.glob,I.ok.blt,I.ok.above,I.ok.inj,I.ok.has,I.ok.cab,I.ok.hd,I.ok.frames,I.ok.stk,I.ok.exf,I.ok.bs,I.ok.bsz,I.ok.noex,I.ok.exfs,I.ok.funs,I.ok.frf⟩,I.os,I.bare,I.base,I.loc,I.cell,I.free,I.freeC,fun p hp=>I.pin p (vU _ hp),I.hok,I.len⟩
theorem Gd {M:aM}{A:jg}{E:zc->zp->Prop}{h:jW}{g:Array K5}{d:Drawn}{t:Nat}{os:Q4}{x C CB:zm}{ox:Obj}{bm bm2:List zc}{Q:Bool->zp->Prop} (hC:zci h C bm) (hB:zci h CB bm2) (hx:h.get? x=some ox) (hxc:ox.cls=.ref C)
  (hm:(jx C::bm).contains (.ref CB)=true) (hq:Q true ⟨h,g,d,t,os⟩):wpAny M A (excMatches (.ref x) (.ref CB)) Q E ⟨h,g,d,t,os⟩:=by
 obtain⟨N,nm,q,bs,hdct,sn,sub,ab,col,dd,k0,k1,k2,k3,k5,newId,hC,hb⟩:=hC;obtain⟨N',nm',q',bs',hdct',sn',sub',ab',col',dd',k0',k1',k2',k3',k5',newId',hB,hb'⟩:=hB;have hcB:(jx CB::bm2).contains (.type "BaseException")=true:=by rw[List.contains_cons,hb',Bool.or_true]
 have f:=tc_notTuple;unfold excMatches
 repeat (first | (with_reducible refine CQ hx ?_;rw[hxc]) | with_reducible refine CQ hB ?_ | (with_reducible refine rE hB ?_;rw[hcB]) | (with_reducible refine rE hC ?_;rw[hm]) | wp_step)
 exact hq
def zxk (K:zg) (CB:zm) (i:Nat) (tb:(St->zc->Hp->Prop)->TS) (t2:TS):TS:=fun D σ H=>tb (fun σ1 Cv H'=>∃(C:zm) (bmB:List zc) (newId:String),Cv=.ref C/\qD K C bmB newId=true/\bmB.contains (.type "BaseException")=true/\Zq K C (.ref CB)=some true /\
 ∀x,H' x=none->t2 { nx:=fun σ3 H3=>D.nx ((σ3.set i (some .non)).set i none) H3,rt:=fun _ _=>False } (σ1.set i (some (.ref x))) (upd H' x (fJ x (.ref C)))) D σ H
theorem zoE {X:Cx}{n xn:Str}{tb:(St->zc->Hp->Prop)->TS}{t2:TS}{CB:zm}{i:Nat}{body:List jV}{b2:jV}{bs2:List jV}{np pos2 pos:Pos}{bmC:List zc}{idC:String}
  (hst:X.stack=X.env::X.outer) (hfr:X.env.frame=some X.env.locals) (hN:X.N.Nodup) (hi:X.N[i]?=some n) (hl:X.env.scope.names.lookup n=some .local) (hkl:X.env.kindOf n=some .local)
  (hgC:Gl X xn) (hmC:X.mg xn=some (.ref CB)) (hqB:qD X.K CB bmC idC=true) (hbB:bmC.contains (.type "BaseException")=true)
  (hb:∀(pn:List (zm×Obj)) (xe:zc->zp->Prop) (G:St->zc->Hp->Prop),Am ((X.pinned pn).wish xe) G->PSs ((X.pinned pn).wish xe) body (tb G)) (hb2:∀x,PSs (X.inX x) (b2::bs2) t2)
  (hdC:(xn == ("__debug__":Str))=false:=by decide) :
  PS X.nox (.Try body [.ExceptHandler (some (.Name xn np)) (some n) (b2::bs2) pos2] [] [] pos) (zxk X.K CB i tb t2):=by
 intro zj s σ H D I h;have I0:Inv X zj σ H s:=I.unwish;refine Ew (jt (hb (X.pn++zj) (fun e s'=>∃(Ug:List (zm×Obj)) (σ1:St) (H1:Hp) (s1:zp),Inv (X.pinned (X.pn++zj)) Ug σ1 H1 s1/\CXE X.prog X.w X.stack H1 s1 (fun Cv _ H'=>∃(C:zm) (bmB:List zc) (newId:String),Cv=.ref C/\qD X.K C bmB newId=true/\bmB.contains (.type "BaseException")=true/\Zq X.K C (.ref CB)=some true /\
   ∀x,H' x=none->t2 { nx:=fun σ3 H3=>D.nx ((σ3.set i (some .non)).set i none) H3,rt:=fun _ _=>False } (σ1.set i (some (.ref x))) (upd H' x (fJ x (.ref C)))) e s') _ (fun Ug σ1 H1 s1 e s' I1 z=>⟨Ug,σ1,H1,s1,I1.unwish,z⟩) [] s σ H D (I0.intoPn.wish _) h) (fun fl s1 x=>?_) fun e s' x=>?_)
 .cases fl with
  | next=>
   obtain⟨σ',H',I',q⟩:=x;exact Ji ⟨σ',H',I'.unwish.outPn.wish _,q⟩
  | brk=>
   obtain⟨σ',H',I',q⟩:=x;exact⟨σ',H',I'.unwish.outPn.wish _,q⟩
  | cont=>
   obtain⟨σ',H',I',q⟩:=x;exact⟨σ',H',I'.unwish.outPn.wish _,q⟩
  | ret u=>
   obtain⟨v,σ',H',I',r,q⟩:=x;exact⟨v,σ',H',I'.unwish.outPn.wish _,r,q⟩
 .obtain⟨Ug,σ1,H1,s1,I1',x,Cv,a0,H',B,rfl,os,bare,fl,st,xn',xh,C,bmB,newId,rfl,hq,hbase,hmro,q2⟩:=x;have I1:Inv X zj σ1 H1 s1:=I1'.outPn;have fl':zbk B (X.env::X.outer) x (.ref C) a0 s'.heap:=by rw[<- hst];exact fl
  have hfs:X.A.frames=some (X.env::X.outer):=by rw[<- hst];exact I.ok.frames
  refine GC hfs hfr fl' fun h₄ held up4=>wpAny_landsW held fun h₅ fl5 up5=>?_;have u05:=up4.trans up5;obtain⟨un5,ok5⟩:=st h₅ fl5.1 u05;have I5:Inv X zj σ1 H' { s' with heap:=h₅ }:=I1.call' (ch:=[]) os un5 ok5 bare (fun b z=>absurd z (by simp));obtain⟨ob,hob,hobc⟩:=fl5.there;obtain⟨bm,N',nm,qn,bs,hdct,sn,sub,ab,col,dd,k0,k1,k2,k3,k5,mN,hC,hNs,hni,TL,mro⟩:=zaS I5.kIn hq;obtain⟨bm',N'',nm',qn',bs',hdct',sn',sub',ab',col',dd',k0',k1',k2',k3',k5',mN',hB',hNs',hni',TL',mro'⟩:=zaS I5.kIn hqB;refine wpAny_handleBy_cons (codeAny_handlers_test (Xg I.ok.kind hgC (gf (by rw[I.ok.glob];exact(I.ok.mod.glob.keeps fun b o e=>I5.bk b o e)) hmC ?_) hdC)) (by intro q;cases q);refine Gd ⟨N',nm,qn,bs,hdct,sn,sub,ab,col,dd,k0,k1,k2,k3,k5,newId,hC,TL.hasType hbase⟩ ⟨N'',nm',qn',bs',hdct',sn',sub',ab',col',dd',k0',k1',k2',k3',k5',_,hB',TL'.hasType hbB⟩ hob hobc (mro _ _ hmro) (codeAny_handlers_suite_as ?_);refine lands_againW fl5 fun h₇ fl7 up7=>?_;obtain⟨un7,ok7⟩:=st h₇ fl7.1 (u05.trans up7);obtain⟨ob7,hob7,hc7⟩:=fl7.there;have I7:Inv X.nox zj σ1 (upd H' x (fJ x (.ref C))) { s' with heap:=h₇ }:=zfg (I1.wish _) os bare un7 ok7 xn' xh hob7 hc7;refine fX I7 hN hi (.inl hl) (v:=.ref x) rfl (fun s8 I8=>?_) (.inr hl);refine jt (hb2 x zj s8 _ _ _ (I8.unwish.inX x) (q2 x xh)) (fun fl9 s9 x9=>?_) fun _ _ z=>xQ z;have hh:X.nox.calm=true->X.nox.A.handled=none:=I.ok.hd;cases fl9 with
  | next=>
   obtain⟨σ3,H3,I9,q9⟩:=x9;have I9':Inv X.nox zj σ3 H3 s9:=(Inv.outX (X:=X) hh I9).wish _;have hi3:i < σ3.length:=by rw[I9'.len];exact(List.getElem?_eq_some_iff.mp hi).1
   refine zr (wpAny_bindName (fX I9' hN hi (.inl hl) (v:=.non) (u:=.none) rfl (fun s10 I10=>?_) (.inr hl)));unfold unbindBehindTheSuite;exact wpAny_onRaise (zjs I10 hN hi hkl hl (Zj hi3) fun s11 I11=>⟨_,_,I11,q9⟩)
  | ret u=>obtain⟨_,_,_,_,_,z⟩:=x9;exact xQ z
  | brk=>obtain⟨_,_,_,z⟩:=x9;exact xQ z
  | cont=>obtain⟨_,_,_,z⟩:=x9;exact xQ z
end L2
namespace L2
open PySem PySem.Spec PyProof.Rows
section
variable {X:Cx}
variable {a b:jD}{ta tb:TE}{pos:Pos}
variable {tA tB':TT}{rest:List jD}
end
section
variable {X:Cx}{CX:CXT}{k:Nat}{f C:zm}{fd:jQ}{ps ks:List Str}{sp:Sp}{E:XK}{x m:Str}{p pos WF zyk:Pos}{e o:jD}{es:List jD}{kws:List Vn}{te ta:TE}{t tk:TA}{nm:Option Str}
variable {g:List zc->List zc->List zc}{gV:List V->List V->List V}
end
section
variable {κ:Type} [DecidableEq κ]
noncomputable def Xa (kvs:List (κ×V)) (k:κ):Option V:=(kvs.find? fun kv=>decide (kv.1=k)).map (·.2)
noncomputable def putK (kvs:List (κ×V)) (k:κ) (v:V):List (κ×V):=
 if (kvs.any fun kv=>decide (kv.1=k))=true then kvs.map (fun kv=>if kv.1=k then (kv.1,v) else kv) else kvs++[(k,v)]
theorem Xc {p:κ×V}{r:List (κ×V)}{k:κ} (e:p.1=k):Xa (p::r) k=some p.2:=by simp[Xa,Jd,e]
theorem Xb {p:κ×V}{r:List (κ×V)}{k:κ} (e:¬p.1=k):Xa (p::r) k=Xa r k:=by simp[Xa,Jd,e]
theorem oG (k:κ):∀kvs:List (κ×V),(kvs.any fun kv=>decide (kv.1=k))=(Xa kvs k).isSome
 | []=>rfl
 | p::r=>by
  rw[Jm];by_cases e:p.1=k
  .simp only[Xc e,decide_eq_true e,Bool.true_or,Option.isSome_some]
  .rw[Xb e,decide_eq_false e,Bool.false_or];exact oG k r
theorem zdx (k j:κ) (y:V):∀kvs:List (κ×V),Xa (kvs.map fun kv=>if kv.1=k then (kv.1,y) else kv) j=(Xa kvs j).map fun x=>if j=k then y else x
 | []=>rfl
 | p::r=>by
  have ih:=zdx k j y r;rw[zY];by_cases h:p.1=k
  .rw[if_pos h];by_cases e:p.1=j
   .rw[Xc (p:=(p.1,y)) e,Xc e,Jg,if_pos (e.symm.trans h)]
   .rw[Xb (p:=(p.1,y)) e,Xb e,ih]
  .rw[if_neg h];by_cases e:p.1=j
   .rw[Xc (p:=p) e,Xc e,Jg,if_neg (fun z=>h (e.trans z))]
   .rw[Xb (p:=p) e,Xb e,ih]
theorem Up (k j:κ) (y:V):∀kvs:List (κ×V),Xa kvs k=none->Xa (kvs++[(k,y)]) j=if j=k then some y else Xa kvs j
 | [],_=>by
  by_cases e:k=j
  .rw[if_pos e.symm];exact Xc (p:=(k,y)) e
  .rw[if_neg (fun z=>e z.symm)];exact Xb (p:=(k,y)) e
 | p::r,hn=>by
  rw[Xu];have hk:¬p.1=k:=fun z=>by rw[Xc z] at hn;cases hn
  rw[Xb hk] at hn;have ih:=Up k j y r hn;by_cases e:p.1=j
  .rw[Xc e,Xc e,if_neg (fun z=>hk (e.trans z))]
  .rw[Xb e,Xb e,ih]
theorem oH (kvs:List (κ×V)) (k j:κ) (y:V):Xa (putK kvs k y) j=if j=k then some y else Xa kvs j:=by
 unfold putK;by_cases a:(kvs.any fun kv=>decide (kv.1=k))=true
 .rw[if_pos a,zdx];rw[oG] at a;by_cases e:j=k
  .obtain⟨x,hx⟩:=Option.isSome_iff_exists.mp a;rw[if_pos e,e,hx,Jg,if_pos rfl]
  .rw[if_neg e];cases Xa kvs j with
   | none=>rfl
   | some x=>rw[Jg,if_neg e]
 .rw[if_neg a];refine Up k j y kvs ?_;rw[oG] at a;cases q:Xa kvs k with
  | none=>rfl
  | some x=>rw[q] at a;exact(a rfl).elim
theorem nO (kvs:List (κ×V)) (k:κ) (v:V):(putK kvs k v).length<=kvs.length+1:=by
 unfold putK;split
 .rw[zf];omega
 .rw[zM,qx,Gv];omega
theorem zlT {kvs:List (κ×V)}{k:κ} (v:V) (h:Xa kvs k=none):putK kvs k v=kvs++[(k,v)]:=by
 unfold putK;rw[oG,h];exact if_neg (by decide)
theorem mj.isSome_eq {o:Option V}{u:Option zc} (r:mj o u):o.isSome=u.isSome:=by
 cases o with
 | none=>cases u with
  | none=>rfl
  | some _=>exact(show False from r).elim
 | some _=>cases u with
  | none=>exact(show False from r).elim
  | some _=>rfl
theorem mj.getD {o:Option V}{u:Option zc}{d:V} {d':zc} (r:mj o u) (rd:RelV d d'):RelV (o.getD d) (u.getD d'):=by
 cases o with
 | none=>cases u with
  | none=>exact rd
  | some _=>exact(show False from r).elim
 | some _=>cases u with
  | none=>exact(show False from r).elim
  | some _=>exact r
theorem KV.val {kvs:List (κ×V)}{vs:List (κ×zc)} (r:KV kvs vs) (k:κ):mj (Xa kvs k) (valueAt vs k):=by
 unfold KV at r
 induction r with
 | nil=>exact ZJ
 | @cons p q ps qs h t ih=>
  obtain⟨h1,h2⟩:=h;by_cases e:p.1=k
  .have e':q.1=k:=h1.symm.trans e;have b:valueAt (q::qs) k=some q.2:=by simp[valueAt,Jd,e']
   rw[Xc e,b];exact h2
  .have e':¬q.1=k:=fun z=>e (h1.trans z);have b:valueAt (q::qs) k=valueAt qs k:=by simp[valueAt,Jd,e']
   rw[Xb e,b];exact ih
theorem KV.any {kvs:List (κ×V)}{vs:List (κ×zc)} (r:KV kvs vs) (k:κ):(kvs.any fun kv=>decide (kv.1=k))=vs.any fun kv=>decide (kv.1=k):=by
 unfold KV at r
 induction r with
 | nil=>rfl
 | cons h t ih=>rw[Jm,Jm,ih,h.1]
theorem KV.repl {kvs:List (κ×V)}{vs:List (κ×zc)} (r:KV kvs vs) (k:κ){y:V}{u:zc} (ry:RelV y u) :
  KV (kvs.map fun kv=>if kv.1=k then (kv.1,y) else kv) (vs.map fun kv=>if kv.1=k then (kv.1,u) else kv):=by
 unfold KV at r ⊢
 induction r with
 | nil=>exact .nil
 | @cons p q ps qs h t ih=>
  rw[zY,zY];refine .cons ?_ ih;obtain⟨h1,h2⟩:=h;by_cases e:p.1=k
  .rw[if_pos e,if_pos (h1.symm.trans e)];exact⟨h1,ry⟩
  .rw[if_neg e,if_neg (fun z=>e (h1.trans z))];exact⟨h1,h2⟩
theorem KV.put {kvs:List (κ×V)}{vs:List (κ×zc)} (r:KV kvs vs) (k:κ){y:V}{u:zc} (ry:RelV y u):KV (putK kvs k y) (stored vs k u):=by
 unfold putK stored;rw[r.any k];by_cases e:(vs.any fun kv=>decide (kv.1=k))=true
 .rw[if_pos e,if_pos e];exact r.repl k ry
 .rw[if_neg e,if_neg e];exact zdS r ⟨rfl,ry⟩
theorem KV.keys {kvs:List (κ×V)}{vs:List (κ×zc)} (r:KV kvs vs):kvs.map (·.1)=vs.map (·.1):=by
 unfold KV at r
 induction r with
 | nil=>rfl
 | cons h t ih=>rw[zY,zY,ih,h.1]
theorem KV.length {kvs:List (κ×V)}{vs:List (κ×zc)} (r:KV kvs vs):kvs.length=vs.length:=fC r
end
section
variable {P:qz}{w:jd}{A:jg}{E:zc->zp->Prop}{s:zp}
theorem NZK.any {h:jW}{a:zm}{o:Obj}{es:Array Ej}{ep:Nat} (e:h.get? a=some o) (d:o.data=.dict es ep) (z:∀e∈es,∀x,e.key≠.str x 0):NZK h a:=fun o' es' ep' q q'=>by
 rw[e] at q;cases q;rw[d] at q';cases q';exact z
theorem NZK.ints {h:jW}{a:zm}{vs:List (Key×zc)} (d:h.DictOf (xF P w) a vs) (hi:∀p∈vs,∃i,p.1=vW i):NZK h a:=by
 obtain⟨o,es,ep,ho,_,hd,_,hp,_⟩:=d;refine .any ho hd fun e he x z=>?_;have key:∀(l:List Ej) (ks:List (Key×zc)),Pairs (xF P w) l ks->(∀p∈ks,∃i,p.1=vW i)->∀e∈l,∃i t,e.key=.int i t:=by
  intro l ks r
  induction r with
  | nil=>exact fun _ _ q=>nomatch q
  | cons h1 _ _ ih=>
   intro hk e he;rcases List.mem_cons.mp he with q | q
   .subst q;obtain⟨i,ei⟩:=hk _ (zJ ..);rw[ei] at h1;rw[zfx] at h1;rcases Zo h1 with ⟨_,t,_,e⟩ | ⟨_,_,z,_⟩
    .exact⟨_,t,e⟩
    .cases z
   .exact ih (fun p hp=>hk p (zG _ hp)) e q
 obtain⟨i,t,q⟩:=key _ _ hp hi e (by simpa using he);rw[q] at z;cases z
theorem zs4 {k:Key}{u:zc} (r:RelV (kV k) u) (x:Str):u≠.str x 0:=by
 cases k with
 | inl i=>obtain⟨t,e⟩:=(show ∃t,u=bA i t from r);subst e;intro z;cases z
 | inr y=>obtain⟨t,e⟩:=(show ∃t:NT,u=V8 y t.1 from r);subst e;intro z;injection z with _ z;exact t.2 z
theorem zn6 {d:zm}{vs:List (Key×zc)}{k:Key}{key v:zc}{Q:Unit->zp->Prop} (hk:(xF P w).is k key=true) (hz:∀x,key≠.str x 0) (m:s.heap.DictOf (xF P w) d vs) (n:NZK s.heap d) (l:vs.length<=sizeLine)
  (q:∀h',h'.DictOf (xF P w) d (stored vs k v)->wL d s.heap h'->NZK h' d->Q () { s with heap:=h',toks:=s.toks+1 }):wpAny (model P w) A (dictSet d key v) Q E s:=by
 obtain⟨o,es,ep,o1,o2,o3,o4,o5,o6⟩:=m;have n0:=n o es ep o1 o3;have le:es.size<=sizeLine:=by have:=o5.length;rw[zW] at this;omega
 unfold dictSet
 try with_reducible refine jY ?_
 refine zr ((xF P w).pyHash hk ?_);unfold dictSetHashed
 try with_reducible refine jY ?_
 refine zr (wpAny_dictFind_of (s:={ s with toks:=s.toks+1 }) hk o1 o3 o4 ?_);have ix:(es.findIdx? fun e=>(xF P w).is k e.key)=vs.findIdx? fun kv=>decide (kv.1=k):=by rw[<- o5.findIdx k];obtain⟨l⟩:=es;simp
 cases hi:es.findIdx? fun e=>(xF P w).is k e.key with
 | some i=>
  rw[hi] at ix;have g:=yx (Obj.mapDict fun x=>x.modify i fun e=>{ e with val:=v }) o1 (rB (gq o3 _));refine zr (Xi (zr (wpAny_updateDict (s:={ s with toks:=s.toks+1 }) o1 o3 (wpAny_point (q _ ⟨_,_,ep,g,o2.mapDict _,gq o3 _,o4.modify _ _,?_,?_⟩ (Xz ..) (.any g (gq o3 _) ?_))))))
  .rw[stored,if_pos (rD ix.symm)];have:=o5.modify o6 (k:=k) (i:=i) (by rw[<- hi];obtain⟨l⟩:=es;simp) v;obtain⟨l⟩:=es;simpa using this
  .rw[stored,if_pos (rD ix.symm),keys_map_store];exact o6
  .intro e he x;obtain⟨j,hj,rfl⟩:=Array.mem_iff_getElem.mp he;rw[Array.size_modify] at hj;rw[Array.getElem_modify];split
   .exact n0 _ (dj hj) x
   .exact n0 _ (dj hj) x
 | none=>
  rw[hi] at ix;have no:=not_mem_of_findIdx_none ix.symm;have an:¬(vs.any fun kv=>decide (kv.1=k))=true:=fun z=>by
   obtain⟨p,hp,e⟩:=List.any_eq_true.mp z;exact no (List.mem_map.mpr ⟨p,hp,of_decide_eq_true e⟩)
  have g:=yx (Obj.mapDictKeys fun x=>x.push ⟨(xF P w).hash k,key,v⟩) o1 (rB (Y0 o3 _));refine zr (Xi (wpAny_updateDictKeys (hz:=le) (s:={ s with toks:=s.toks+1 }) o1 o3 (q _ ⟨_,_,ep+1,g,o2.mapDictKeys _,Y0 o3 _,o4.push hk _,?_,?_⟩ (Xz ..) (.any g (Y0 o3 _) ?_))))
  .rw[stored,if_neg an];have:=o5.append hk ((xF P w).hash k) v;obtain⟨l⟩:=es;simpa using this
  .rw[stored,if_neg an,jw];exact List.nodup_append.mpr ⟨o6,by simp,fun a ha b hb e=>no (by simp at hb;rw[<- hb,<- e];exact ha)⟩
  .intro e he x;rcases Array.mem_push.mp he with z | z
   .exact n0 e z x
   .rw[z];exact hz x
theorem zry {d:zm}{vs:List (Key×zc)}{k:Key}{key v:zc}{Q:Unit->zp->Prop} (hk:(xF P w).is k key=true) (hz:∀x,key≠.str x 0) (m:s.heap.DictOf (xF P w) d vs) (n:NZK s.heap d) (l:vs.length<=sizeLine)
  (q:∀h',h'.DictOf (xF P w) d (stored vs k v)->wL d s.heap h'->NZK h' d->Q () { s with heap:=h',toks:=s.toks+1 }):wpAny (model P w) A (setItem (.ref d) key v) Q E s:=by
 have T:=m.typeIs;unfold setItem
 try with_reducible refine jY ?_
 refine zr (wpAny_sequenceKey T (by decide) (zr (gD (name:=Qc "__setitem__") T CK (Yb CK T entry_dict_setitem (zr (wpAny_notOrdered_dict T ?_)) (args_dict_setitem _ _ _)))));change wpAny _ _ (dictSet d key v >>= _) _ _ s;exact zr (zn6 hk hz m n l fun h' a b c=>qj ⟨.none,rfl,qj (q h' a b c)⟩)
end
theorem T9 {P:qz}{w:jd}{k:Key}{u:zc} (r:RelV (kV k) u):(xF P w).is k u=true:=by
 cases k with
 | inl i=>obtain⟨t,e⟩:=(show ∃t,u=bA i t from r);subst e;exact zcR P w i t
 | inr x=>obtain⟨t,e⟩:=(show ∃t:NT,u=V8 x t.1 from r);subst e;exact zcS P w x t
theorem T8 {P:qz}{w:jd}:∀{ks:List Key}{us:List zc},Vals (ks.map kV) us->ItemsAre (xF P w) ks us
 | [],_,r=>by rw[bj] at r;cases r;exact .nil
 | k::ks,_,r=>by
  rw[zY] at r;cases r with
  | cons h t=>exact .cons (T9 h) (T8 t)
abbrev KT (H:Hp):List (List Key×V)->List (List Key×zm×zc)->Prop:=Mw fun p q=>p.1=q.1/\H q.2.1=some (.tup (p.1.map kV))/\RelV p.2 q.2.2
theorem KT.val {H:Hp}{kvs:List (List Key×V)}{xs:List (List Key×zm×zc)} (r:KT H kvs xs) (k:List Key):mj (Xa kvs k) ((atKey xs k).map (·.2)):=by
 induction r with
 | nil=>exact ZJ
 | @cons p q ps qs h t ih=>
  obtain⟨h1,_,h2⟩:=h;by_cases e:p.1=k
  .have e':q.1=k:=h1.symm.trans e;have b:atKey (q::qs) k=some q.2:=by simp[atKey,Jd,e']
   rw[Xc e,b];exact h2
  .have e':¬q.1=k:=fun z=>e (h1.trans z);have b:atKey (q::qs) k=atKey qs k:=by simp[atKey,Jd,e']
   rw[Xb e,b];exact ih
theorem KT.repl {H:Hp}{kvs:List (List Key×V)}{xs:List (List Key×zm×zc)} (r:KT H kvs xs) (k:List Key){y:V}{u:zc} (ry:RelV y u) :
  KT H (kvs.map fun kv=>if kv.1=k then (kv.1,y) else kv) (xs.map (putAt k u)):=by
 induction r with
 | nil=>exact .nil
 | @cons p q ps qs h t ih=>
  rw[zY,zY];refine .cons ?_ ih;obtain⟨h1,h2,h3⟩:=h;unfold putAt;by_cases e:p.1=k
  .rw[if_pos e,if_pos (h1.symm.trans e)];exact⟨h1,h2,ry⟩
  .rw[if_neg e,if_neg (fun z=>e (h1.trans z))];exact⟨h1,h2,h3⟩
theorem KT.put {H:Hp}{kvs:List (List Key×V)}{xs:List (List Key×zm×zc)} (r:KT H kvs xs) (k:List Key){b:zm}{y:V}{u:zc} (hb:H b=some (.tup (k.map kV))) (ry:RelV y u) :
  KT H (putK kvs k y) (storedH xs k b u):=by
 have e:(kvs.any fun kv=>decide (kv.1=k))=(atKey xs k).isSome:=by
  rw[oG,(r.val k).isSome_eq,Ci]
 unfold putK storedH;rw[e];by_cases q:(atKey xs k).isSome=true
 .rw[if_pos q,if_pos q];exact r.repl k ry
 .rw[if_neg q,if_neg q];exact zdS r ⟨rfl,hb,ry⟩
theorem KT.keeps {H H':Hp}{kvs:List (List Key×V)}{xs:List (List Key×zm×zc)} (r:KT H kvs xs) (ht:∀b ys,H b=some (.tup ys)->H' b=some (.tup ys)):KT H' kvs xs:=
 Paired.mapP r fun _ _ z=>⟨z.1,ht _ _ z.2.1,z.2.2⟩
section
variable {P:qz}{w:jd}{H:Hp}{h:jW}{a:zm}
theorem zlV {u:HO} (ok:HOk P w H h) (e:Rd H a u):Zn P w H h a u:=e.ok ok
theorem HR {kvs:List (Key×V)} (ok:HOk P w H h) (e:Rd H a (.dK kvs)):kvs.length<=sizeLine/\(a == sysModules)=false/\∃vs,KV kvs vs/\h.DictOf (xF P w) a vs:=
 by
  obtain⟨z,d,vs,r,m⟩:=(show Zn P w H h a (.dK kvs) from zlV ok e);exact⟨z,d,vs,r.1,m⟩
theorem zsM {kvs:List (Key×V)} (ok:HOk P w H h) (e:Rd H a (.dK kvs)):NZK h a:=by
 obtain⟨z,d,vs,r,m⟩:=(show Zn P w H h a (.dK kvs) from zlV ok e);exact r.2
theorem zpM {kvs:List (Key×V)} (ok:HOk P w H h) (e:H a=some (.dK kvs)):kvs.length<=sizeLine/\(a == sysModules)=false/\∃vs,KV kvs vs/\h.DictOf (xF P w) a vs:=HR ok (.inl e)
theorem Ih {ks:List Key} (ok:HOk P w H h) (e:H a=some (.tup (ks.map kV))):(tupleKind (xF P w)).is h ks a:=by
 obtain⟨_,its,r,o,h1,h2,n,h3⟩:=(show Zn P w H h a (.tup (ks.map kV)) from ok a _ e);exact⟨o,its.toArray,n,h1,h2,h3,by simpa using T8 r⟩
theorem TX {kvs:List (List Key×V)} (ok:HOk P w H h) (e:Rd H a (.dT kvs)):kvs.length<=sizeLine/\(a == sysModules)=false /\
  ∃xs,KT H kvs xs/\h.DictOfH (tupleKind (xF P w)) a xs:=by
 obtain⟨z,y,xs,r,o,es,ep,h1,h2,h3,h4,h5⟩:=(show Zn P w H h a (.dT kvs) from zlV ok e);refine⟨z,y,xs,r,o,es,ep,h1,h2,h3,h4,fun x hx=>?_,h5⟩;have all:∀{l:List (List Key×V)}{m:List (List Key×zm×zc)},KT H l m->∀x∈m,(tupleKind (xF P w)).is h x.1 x.2.1:=by
  intro l m q
  induction q with
  | nil=>intro x hx;exact nomatch hx
  | @cons p q ps qs hq t ih=>
   intro x hx;rcases List.mem_cons.mp hx with e | hx
   .subst e;exact Ih ok (by rw[<- hq.1];exact hq.2.1)
   .exact ih x hx
 exact all r x hx
theorem zsO {kvs:List (List Key×V)} (ok:HOk P w H h) (e:H a=some (.dT kvs)):kvs.length<=sizeLine/\(a == sysModules)=false /\
  ∃xs,KT H kvs xs/\h.DictOfH (tupleKind (xF P w)) a xs:=TX ok (.inl e)
end
def tG (H:Hp) (a:zm) (y:V) (r:Option V):Prop:=
 (∃kvs k,Rd H a (.dK kvs)/\y=kV k/\r=Xa kvs k)∨∃kvs k b,Rd H a (.dT kvs)/\y=.ref b/\H b=some (.tup (k.map kV))/\r=Xa kvs k
def zis (H:Hp) (a:zm) (y v:V) (H':Hp):Prop:=
 (∃kvs k,H a=some (.dK kvs)/\y=kV k/\kvs.length<sizeLine/\H'=upd H a (.dK (putK kvs k v))) ∨
 ∃kvs k b,H a=some (.dT kvs)/\y=.ref b/\H b=some (.tup (k.map kV))/\kvs.length<sizeLine/\H'=upd H a (.dT (putK kvs k v))
theorem tG.k {H:Hp}{a:zm}{kvs:List (Key×V)}{k:Key} (e:H a=some (.dK kvs)):tG H a (kV k) (Xa kvs k):=.inl ⟨kvs,k,.inl e,rfl,rfl⟩
theorem zis.k {H:Hp}{a:zm}{kvs:List (Key×V)}{k:Key}{v:V} (e:H a=some (.dK kvs)) (hl:kvs.length<sizeLine):zis H a (kV k) v (upd H a (.dK (putK kvs k v))):=.inl ⟨kvs,k,e,rfl,hl,rfl⟩
section
variable {X:Cx}{zj:List (zm×Obj)}{σ:St}{H:Hp}{s:zp}{a:zm}{y v:V}{u r:zc}{o:Option V}{A:jg}{E:zc->zp->Prop}
theorem Inv.big (I:Inv X zj σ H s):sysModules<s.heap.objs.size:=by
 have h:qp<s.heap.objs.size:=(I.mod.glob.keeps I.bk).lt;exact Nat.lt_trans (by decide) h
theorem ziH {Q:zc->zp->Prop} (hu:A.units+1<cLine) (I:Inv X zj σ H s) (g:tG H a y (some v)) (ry:RelV y u) (h:∀w' s',Inv X zj σ H s'->RelV v w'->Q w' s') :
  wpAny (model X.prog X.w) A (getItem (.ref a) u) Q E s:=by
 rcases g with ⟨kvs,k,e,ey,l⟩ | ⟨kvs,k,b,e,ey,eb,l⟩
 .subst ey;obtain⟨z,hd,vs,rel,dd⟩:=HR I.hok e;obtain⟨w',hw,rw'⟩:=mj.some_of (v:=v) (o:=valueAt vs k) (by rw[l];exact rel.val k);exact wpAny_getItem_of (T9 ry) dd.mapOf hw (h w' _ (I.tok _) rw')
 .subst ey;cases (show u=jx b from ry);obtain⟨z,hd,xs,rel,dd⟩:=TX I.hok e;obtain⟨w',hw,rw'⟩:=mj.some_of (v:=v) (o:=(atKey xs k).map (·.2)) (by rw[l];exact rel.val k);obtain⟨p,hp,hp2⟩:=Option.map_eq_some_iff.mp hw;refine wpAny_getItem_heap (VN hu) (Ih I.hok eb) dd hp ?_;rw[hp2];exact h w' _ (I.tok _) rw'
theorem zn5 {Q:zc->zp->Prop} (hu:A.units+1<cLine) (I:Inv X zj σ H s) (g:tG H a y o) (ry:RelV y u) (h:∀s',Inv X zj σ H s'->Q (.bool (!o.isSome)) s') :
  wpAny (model X.prog X.w) A (compareOp .NotIn u (.ref a)) Q E s:=by
 rcases g with ⟨kvs,k,e,ey,l⟩ | ⟨kvs,k,b,e,ey,eb,l⟩
 .subst ey;obtain⟨z,hd,vs,rel,dd⟩:=HR I.hok e;refine wpAny_notIn_of (T9 ry) hd dd.mapOf ?_;rw[<- (rel.val k).isSome_eq,<- l];exact h _ (I.tok _)
 .subst ey;cases (show u=jx b from ry);obtain⟨z,hd,xs,rel,dd⟩:=TX I.hok e;refine wpAny_notIn_heap (VN hu) (Ih I.hok eb) hd dd ?_;have q:=(rel.val k).isSome_eq;rw[Ci] at q;rw[<- q,<- l];exact h _ (I.tok _)
theorem zaA {h':jW} {t':Nat}{ob:HO} (I:Inv X zj σ H s) (mu:Mut (H a)) (hs:wL a s.heap h') (he:∃q,h'.get? a=some q) (new:Zn X.prog X.w (upd H a ob) h' a ob) (htp:0<t':=by first|exact jJ _|assumption|exact Inv.tk ‹_›|exact Inv.tkL ‹_› ‹_›|(have:=Inv.tk ‹_›;simp only[] at *;omega)) :
  Inv X zj σ (upd H a ob) { s with heap:=h',toks:=t' }:=
 I.write (x:=a) (e:=a) mu (.inl rfl) (fun b q hb z=>(hs.2 b hb).trans z) he new
theorem zkZ {P:qz}{w:jd} {H':Hp} {h':jW}{kvs:List (Key×V)}{vs:List (Key×zc)} (z:kvs.length<=sizeLine) (hd:(a == sysModules)=false) (rel:KV kvs vs) (dd:h'.DictOf (xF P w) a vs) (nz:NZK h' a) :
  Zn P w H' h' a (.dK kvs):=⟨z,hd,vs,⟨rel,nz⟩,dd⟩
theorem ziI {H':Hp}{Q:Unit->zp->Prop} (hu:A.units+1<cLine) (I:Inv X zj σ H s) (g:zis H a y v H') (ry:RelV y u) (rv:RelV v r) (h:∀s',Inv X zj σ H' s'->Q () s') :
  wpAny (model X.prog X.w) A (setItem (.ref a) u r) Q E s:=by
 rcases g with ⟨kvs,k,e,ey,l,eH⟩ | ⟨kvs,k,b,e,ey,eb,l,eH⟩
 .subst ey eH;obtain⟨z,hd,vs,rel,dd⟩:=zpM I.hok e;have hz:vs.length<=sizeLine:=by rw[<- rel.length];exact z
  have hl:(putK kvs k v).length<=sizeLine:=by have:=nO kvs k v;omega
  refine zry (T9 ry) (zs4 ry) dd (zsM I.hok (.inl e)) hz fun h' dd' hs nz=>h _ ?_;have he:∃q,h'.get? a=some q:=let ⟨q,_,_,hq,_⟩:=dd';⟨q,hq⟩;exact zaA I (by rw[e];exact ZJ) hs he (zkZ hl hd (rel.put k rv) dd' nz)
 .subst ey eH;cases (show u=jx b from ry);obtain⟨z,hd,xs,rel,dd⟩:=zsO I.hok e;have hz:xs.length<=sizeLine:=by rw[<- fC rel];exact z
  have hl:(putK kvs k v).length<=sizeLine:=by have:=nO kvs k v;omega
  refine wpAny_setItem_heap (hsz:=hz) (VN hu) (Ih I.hok eb) dd fun h' dd' hs=>h _ ?_;obtain⟨q,es,ep,hq,h2,h3,h4,_,h5⟩:=dd';refine zaA I (by rw[e];exact ZJ) hs ⟨q,hq⟩ ⟨hl,hd,_,(rel.put k eb rv).keeps fun c ys ec=>?_,q,es,ep,hq,h2,h3,h4,h5⟩;rw[jM (zta ec e (fun z=>nomatch z))];exact ec
end
section
variable {X:Cx}{zj:List (zm×Obj)}{σ:St}{H:Hp}{s:zp}{a:zm}{kvs:List (Key×V)}{k:Key}{u:zc}{A:jg}{E:zc->zp->Prop}
theorem zsL {Q:zc->zp->Prop} (I:Inv X zj σ H s) (e:Rd H a (.dK kvs)) (h:∀t s',Inv X zj σ H s'->Q (.int kvs.length t) s'):wpAny (model X.prog X.w) A (call (.builtin "len") [.ref a]) Q E s:=by
 obtain⟨z,hd,vs,rel,dd⟩:=HR I.hok e;refine call_len_dict hd dd (by rw[<- rel.length];rw[qC] at z;omega) ?_;rw[<- rel.length];exact h _ _ (I.tok _)
end
def zsE (i:jD):Prop:=∀ov iv,subscripted i false ov iv=operate [ov,iv] (getItem ov iv)
theorem zoM {prog:qz}{w:jd}{A:jg}{E:zc->zp->Prop}{s:zp}{env:Env}{value slice:jD}{pos:Pos}{T id:String}{Q:zc->zp->Prop}
  (hl:typeLookup (.type T) "__getitem__"=pure (some (.builtin id))) (hs:zsE slice)
  (h:wpAny (model prog w) A (eval value env) (fun o s₁=>wpAny (model prog w) A (eval slice env) (fun i s₂=>s₂.TypeIs o T/\wpAny (model prog w) A (getItem o i) Q E s₂) E s₁) E s) :
  wpAny (model prog w) A (eval (.Subscript value slice pos) env) Q E s:=by
 refine MN (jt h (fun o s₁ h₁=>jt h₁ (fun i s₂ h₂=>?_) fun _ _ x=>x) fun _ _ x=>x);obtain⟨hT,h₂⟩:=h₂;unfold subscriptTail;refine zr ?_;rw[getitemInPython_of_ne hT.not_modules];refine zr (lY hT hl ?_);have fin:wpAny (model prog w) A (subscripted slice false o i) (fun r s₃=>wpAny (model prog w) A (letTemporaryGo value o r >>= fun _=>pure r) Q E s₃) E s₂:=by
  rw[hs o i];exact wpAny_operating (jt h₂ (fun r s₃ h₃=>zr (wpAny_letTemporaryGo (qj h₃))) fun _ _ x=>x)
 first
  | exact qj (zr fin)
  | exact zr (qj (zr fin))
  | exact zr fin
theorem zcA {X:Cx}{zj:List (zm×Obj)}{σ:St}{H:Hp}{s:zp}{a:zm}{y:V}{o:Option V} (I:Inv X zj σ H s) (g:tG H a y o):s.TypeIs (.ref a) "dict":=by
 rcases g with ⟨kvs,k,e,_,_⟩ | ⟨kvs,k,b,e,_,_,_⟩
 .obtain⟨_,_,vs,_,dd⟩:=HR I.hok e;exact dd.typeIs
 .obtain⟨_,_,xs,_,dd⟩:=TX I.hok e;exact dd.typeIs
def zxf (td ty:TE):TE:=fun σ H Q=>td σ H fun x H1=>ty σ H1 fun y H2=>∃a v,x=.ref a/\tG H2 a y (some v)/\Q v H2
def zoN (ty td:TE):TE:=fun σ H Q=>ty σ H fun y H1=>td σ H1 fun x H2=>∃a o,x=.ref a/\tG H2 a y o/\Q (.bl (!o.isSome)) H2
def zw8 (td ty tv:TE):TS:=fun D σ H=>tv σ H fun v H1=>td σ H1 fun x H2=>ty σ H2 fun y H3=>∃a H4,x=.ref a/\zis H3 a y v H4/\D.nx σ H4
section
variable {X:Cx}{o i e value:jD} {pos pos' tpos:Pos}{td ty tv:TE}
theorem G4 (hu:X.A.units+1<cLine) (ho:PE X o td) (hi:PE X i ty) (hs:zsE i):PE X (.Subscript o i pos) (zxf td ty):=by
 intro zj s σ H Q I h;refine zoM PySem.F.slot_dict_getitem.lookup hs (thn (ho zj s σ H _ I h) fun u s1 ⟨x,H1,I1,rx,q1⟩=>thn (hi zj s1 σ H1 _ I1 q1) fun iv s2 ⟨y,H2,I2,ry,a,v,ex,g,q2⟩=>?_);subst ex;obtain rfl:u=jx a:=rx;exact⟨zcA I2 g,ziH hu I2 g ry fun w' s3 I3 rw'=>⟨v,H2,I3,rw',q2⟩⟩
theorem zi6 (hu:X.A.units+1<cLine) (hi:PE X i ty) (ho:PE X o td):PC X .NotIn i o (zoN ty td):=by
 intro zj s σ H Q I h;refine thn (hi zj s σ H _ I h) fun iv s1 ⟨y,H1,I1,ry,q1⟩=>thn (ho zj s1 σ H1 _ I1 q1) fun u s2 ⟨x,H2,I2,rx,a,ov,ex,g,q2⟩=>?_;subst ex;obtain rfl:u=jx a:=rx;exact zn5 hu I2 g ry fun s3 I3=>⟨.bl (!ov.isSome),H2,I3,rfl,q2⟩
theorem zhv (hu:X.A.units+1<cLine) (ho:PE X o td) (hi:PE X i ty) (hv:PE X value tv) (hs:swapsWith value (some (.Subscript o i pos')) pos.line X.env=pure false) :
  PS X (.Assign [.Subscript o i pos'] value pos) (zw8 td ty tv):=by
 intro zj s σ H D I h;refine wpAny_Assign_Subscript (thn (hv zj s σ H _ I h) fun r s1 ⟨v,H1,I1,rv,q1⟩=>thn (ho zj s1 σ H1 _ I1 q1) fun u s2 ⟨x,H2,I2,rx,q2⟩=>thn (hi zj s2 σ H2 _ I2 q2) fun iv s3 ⟨y,H3,I3,ry,a,H4,ex,g,q3⟩=>?_) hs;subst ex;obtain rfl:u=jx a:=rx;exact ziI hu I3 g ry rv fun s4 I4=>⟨σ,H4,I4,q3⟩
end
theorem zkY {P:qz}{w:jd}{H:Hp} (h:jW) (hb:sysModules<h.objs.size):Zn P w H (h.push { cls:=.type "dict",data:=.dict #[] }) h.objs.size (.dK []):=
 ⟨qX _,beq_eq_false_iff_ne.mpr (Xy (qY hb)),[],⟨.nil,.any (jf _ rfl) rfl fun _ he=>by simp at he⟩,Heap.DictOf.new h⟩
def zrJ:TE:=fun _ H Q=>∀p,H p=none->Q (.ref p) (upd H p (.dK []))
section
variable {X:Cx}{pos:Pos}
theorem Lf:PE X (.Dict [] [] pos) zrJ:=fun zj s σ H Q I h=>
 wpAny_Dict_empty ⟨.ref s.heap.objs.size,_,I.laid (a:=s.heap.objs.size) (o:=.dK []) (t':=s.toks) (fun _ _ q=>zO _ q) (zE _) (zkY s.heap I.big),rfl,h _ (I.hok.fresh (zE _))⟩
end
structure M1 (X:Cx) (o:jD) (m:Str) (WF:Pos) (e:jD) (Q8:Pos):Prop where
 base:attributeBase o m X.env (eval o X.env)=eval o X.env
 few:((backTo Q8 (z9 [e] X.env)).all (fun x=>!x.1) && (backToKw Q8 (keywordEach [] X.env)).all (fun x=>x.1.isSome)
  && decide (([e]:List jD).length+([]:List Vn).length+(if ([]:List Vn).isEmpty then 0 else 1)<30))=true
 line:(WF.endLine == Q8.line)=true
 trees:backTo Q8 (z9 [e] X.env)=[(false,eval e X.env)]
structure M2 (X:Cx) (o:jD) (m:Str) (WF:Pos) (e f:jD) (Q8:Pos):Prop where
 base:attributeBase o m X.env (eval o X.env)=eval o X.env
 few:((backTo Q8 (z9 [e,f] X.env)).all (fun x=>!x.1) && (backToKw Q8 (keywordEach [] X.env)).all (fun x=>x.1.isSome)
  && decide (([e,f]:List jD).length+([]:List Vn).length+(if ([]:List Vn).isEmpty then 0 else 1)<30))=true
 line:(WF.endLine == Q8.line)=true
 trees:backTo Q8 (z9 [e,f] X.env)=[(false,eval e X.env),(false,eval f X.env)]
def IsD (H:Hp) (a:zm):Prop:=(∃kvs,Rd H a (.dK kvs))∨∃kvs,Rd H a (.dT kvs)
theorem zlg {X:Cx}{zj:List (zm×Obj)}{σ:St}{H:Hp}{s:zp}{a:zm} (I:Inv X zj σ H s) (d:IsD H a) :
  s.TypeIs (.ref a) "dict"/\(∀b,jx a=.ref b->∃ob,s.heap.get? b=some ob/\ob.dict=none)/\(a == sysModules)=false:=by
 rcases d with ⟨kvs,e⟩ | ⟨kvs,e⟩
 .obtain⟨_,hd,vs,_,dd⟩:=HR I.hok e;refine⟨dd.typeIs,fun b q=>?_,hd⟩;cases q;obtain⟨ob,_,_,h1,h2,_⟩:=dd;exact⟨ob,h1,h2.2.1⟩
 .obtain⟨_,hd,xs,_,dd⟩:=TX I.hok e;refine⟨dd.typeIs,fun b q=>?_,hd⟩;cases q;obtain⟨ob,_,_,h1,h2,_⟩:=dd;exact⟨ob,h1,h2.2.1⟩
section
variable {X:Cx}{zj:List (zm×Obj)}{σ:St}{H:Hp}{s:zp}{a:zm}{y d:V}{u r:zc}{o:Option V}{A:jg}{E:zc->zp->Prop}
theorem zqR {Q:zc->zp->Prop} (hu:A.units+1<cLine) (I:Inv X zj σ H s) (g:tG H a y o) (ry:RelV y u) (rd:RelV d r) (h:∀w' s',Inv X zj σ H s'->RelV (o.getD d) w'->Q w' s') :
  wpAny (model X.prog X.w) A (call (.builtin "dict.get") [.ref a,u,r]) Q E s:=by
 rcases g with ⟨kvs,k,e,ey,l⟩ | ⟨kvs,k,b,e,ey,eb,l⟩
 .subst ey;obtain⟨z,hd,vs,rel,dd⟩:=HR I.hok e;refine Cy Ws dd.typeIs lu (gw _ _ _) (meets_dict_get_default (xF X.prog X.w) a (T9 ry) hd r) ⟨_,dd.mapOf,h _ _ (I.tok _) ?_⟩;rw[l];exact(rel.val k).getD rd
 .subst ey;cases (show u=jx b from ry);obtain⟨z,hd,xs,rel,dd⟩:=TX I.hok e;refine Cy Ws dd.typeIs lu (gw _ _ _) (meetsH_dict_get_default (tupleKind (xF X.prog X.w)) a b hd r) ⟨VN hu,k,xs,Ih I.hok eb,dd,h _ _ (I.tok _) ?_⟩;rw[l];exact(rel.val k).getD rd
end
def zrI (td ty tx:TE):TE:=fun σ H Q=>td σ H fun x H1=>∃a,x=.ref a/\IsD H1 a/\ty σ H1 fun y H2=>tx σ H2 fun z H3=>∃o,tG H3 a y o/\Q (o.getD z) H3
section
variable {X:Cx}{o e f:jD}{WF Q8:Pos}{td ty tx:TE}
theorem zc9 (hu:X.A.units+1<cLine) (ho:PE X o td) (he:PE X e ty) (hf:PE X f tx) (m:M2 X o "get" WF e f Q8):PE X (.Call (.Attribute o "get" WF) [e,f] [] Q8) (zrI td ty tx):=by
 intro zj s σ H Q I h;refine CP m.base m.few m.line gA Ws PySem.F.type_dict_get (thn (ho zj s σ H _ I h) fun u s1 ⟨x,H1,I1,rx,a,ex,d,q1⟩=>?_);subst ex;obtain rfl:u=jx a:=rx;obtain⟨t1,t2,_⟩:=zlg I1 d;refine⟨t1,t2,?_⟩;rw[m.trees];refine Zi rfl (Z4 (ZF (thn (he zj s1 σ H1 _ I1 q1) fun iv s2 ⟨y,H2,I2,ry,q2⟩=>
  ZF (thn (hf zj s2 σ H2 _ I2 q2) fun fv s3 ⟨z,H3,I3,rz,ov,g,q3⟩=>K4 ?_))))
 exact zqR hu I3 g ry rz fun w' s4 I4 rw'=>⟨_,H3,I4,rw',q3⟩
end
section
variable {X:Cx}{zj:List (zm×Obj)}{σ:St}{H:Hp}{s:zp}{a:zm}{kvs:List (Key×V)}{A:jg}{E:zc->zp->Prop}
end
section
variable {X:Cx}{zj:List (zm×Obj)}{σ:St}{H:Hp}{s:zp}{a:zm}{y:V}{u:zc}{A:jg}{E:zc->zp->Prop}
end
end L2
namespace Att
open PySem PySem.W PySem.Calls PyProof.Rows
end Att
namespace L2
open PySem PySem.Spec PyProof.Rows
section
variable {X:Cx}
theorem TV:VP X (.builtin "len") (fun xs H Q=>∃a kvs,xs=[V.ref a]/\H a=some (.dK kvs)/\Q (.int kvs.length) H):=by
 intro zj s σ H xs us Q I r h;obtain⟨a,kvs,rfl,ha,q⟩:=h;obtain⟨u,rfl,ru⟩:=vals1 r;cases ru;exact zsL I (.inl ha) fun t s' I'=>⟨.int kvs.length,H,I',⟨t,rfl⟩,q⟩
end
section
variable {κ:Type} [DecidableEq κ]
end
theorem zlt:typeLookup (.type "list_reverseiterator") (Qc "__len__")=pure none:=by with_unfolding_all rfl
theorem zob:typeLookup (.type "list_reverseiterator") (Qc "__length_hint__")=pure (some (.builtin "list_reverseiterator.__length_hint__")):=by with_unfolding_all rfl
theorem zl9:splitId "list_reverseiterator.__length_hint__"=some ("list_reverseiterator","__length_hint__"):=by with_unfolding_all rfl
theorem zrG:isSubtype (.type "list_reverseiterator") (.type "list_reverseiterator")=pure true:=by with_unfolding_all rfl
theorem zlc {prog:qz}{w:jd}{A:jg}{E:zc->zp->Prop}{s:zp}{I:zm}{Q:Bool->zp->Prop} (ty:s.TypeIs (.ref I) "list_reverseiterator") (q:Q false s):wpAny (model prog w) A (aY (.ref I)) Q E s:=by
 unfold aY;refine zr (lY ty zlt ?_);dsimp only;rw[if_neg (by with_unfolding_all decide)];simp only[uM,xq,↓reduceIte];refine zr (lY ty zob ?_);dsimp only;rw[zl9];dsimp only;refine zr (wpAny_isInstance ty zrG ?_);simp only[Yx,xq,↓reduceIte];rw[if_pos (by with_unfolding_all decide),if_neg (by with_unfolding_all decide)];exact qj q
section
variable {X:Cx}
theorem zof:MtR X "str.find" (fun x vs H Q=>∃a b,x=.str a/\vs=[.str b]/\Q (.int (Txt.find a b)) H):=by
 intro zj s σ H x xs v us Q I rx rs h;obtain⟨a,b,rfl,rfl,q⟩:=h;obtain⟨t,rfl⟩:=rx;obtain⟨u,rfl,w1⟩:=vals1 rs;obtain⟨t',rfl⟩:=w1;exact SC.find ⟨.int (Txt.find a b),H,I.tok _,⟨_,rfl⟩,q⟩
theorem zpY:∀{ys:List Str}{us:List zc},Vals (ys.map V.str) us->∃l:List (Str×Tok),us=strValues l/\l.map (·.1)=ys/\∀p∈l,p.2≠0:=by
 intro ys
 induction ys with
 | nil=>intro us r;rw[bj] at r;cases r;exact⟨[],rfl,rfl,fun _ z=>nomatch z⟩
 | cons n ns ih=>
  intro us r;rw[zY] at r;cases r with
  | cons r1 r2=>
   obtain⟨t,e⟩:=r1;obtain⟨l,e1,e2,e3⟩:=ih r2;exact⟨(n,t.1)::l,by rw[e,e1];rfl,by rw[zY,e2],fun p hp=>(List.mem_cons.mp hp).elim (fun z=>by rw[z];exact t.2) (e3 p)⟩
theorem Li {s:zp}{sep:Str}{Q:zc->zp->Prop} (h0:0<s.toks):∀(l:List (Str×Tok)),(∀p∈l,p.2≠0)->(Txt.join sep (l.map (·.1))).length<=sizeLine->(∀(t:NT) k,0<k->Q (.str (Txt.join sep (l.map (·.1))) t.1) { s with toks:=k })->(joinMade sep l).post Q s
 | [],_,z,h=>⟨z,h ⟨_,Nat.pos_iff_ne_zero.mp h0⟩ _ (jJ _)⟩
 | [p],n,_,h=>h ⟨p.2,n p (List.mem_singleton_self _)⟩ s.toks h0
 | _::_::_,_,z,h=>⟨z,h ⟨_,Nat.pos_iff_ne_zero.mp h0⟩ _ (jJ _)⟩
theorem zdb {s:zp}{c:Prop} [Decidable c] {y z:Str}{t:Tok}{Q:zc->zp->Prop} (h0:0<s.toks) (ht:t≠0) (hz:¬c->z.length<=sizeLine) (h:∀(t':NT) k,0<k->Q (.str (if c then y else z) t'.1) { s with toks:=k }) :
  (if c then zdN (.str y t) else Made.str z).post Q s:=by
 by_cases hc:c
 .rw[if_pos hc];have h':=h ⟨t,ht⟩ s.toks h0;rw[if_pos hc] at h';exact h'
 .rw[if_neg hc];have h':=h ⟨s.toks,Nat.pos_iff_ne_zero.mp h0⟩ (s.toks+1) (jJ _);rw[if_neg hc] at h';exact⟨hz hc,h'⟩
theorem zyn {P:qz}{w:jd}{A:jg}{E:zc->zp->Prop}{s:zp}{x:Str}{t u:Tok}{n:Int}{Q:zc->zp->Prop} (h0:0<s.toks) (ht:t≠0) (ok:MulOk x n) (h:∀(t':NT) k,0<k->Q (.str (Txt.mul x n) t'.1) { s with toks:=k }) :
  wpAny (model P w) A (binaryOp .Mult (.str x t) (.int n u)) Q E s:=by
 refine PySem.P.mul_str ok.1 ok.2.1 ok.2.2 ?_;unfold Txt.mul at h;by_cases h1:n<1
 .rw[if_pos h1] at h ⊢;exact⟨by decide,h ⟨_,Nat.pos_iff_ne_zero.mp h0⟩ _ (jJ _)⟩
 .rw[if_neg h1] at h ⊢;exact zdb h0 ht (fun hc=>fits_reps (ok.2.2 h1 (by simpa using hc))) h
theorem zfY {ys:List Str}:∀{us:List zc},Vals (ys.map V.str) us->Hh us ys:=by
 induction ys with
 | nil=>intro us r;rw[bj] at r;cases r;exact .nil
 | cons n ns ih=>
  intro us r;rw[zY] at r;cases r with
  | cons r1 r2=>
   obtain⟨t,e⟩:=r1;subst e;exact .cons n t.1 (ih r2)
def rJoin (K:zg):V->List V->Hp->VK->Prop:=fun x vs H Q=>∃a p ys,x=.str a/\vs=[.ref p]/\SqL K H p (ys.map V.str)/\(ys.map (·.length)).sum+ys.length*a.length<=16777216/\Q (.str (Txt.join a ys)) H
theorem Ye:MtR X "str.join" (rJoin X.K):=by
 intro zj s σ H x xs v us Q I rx rs h;obtain⟨a,p,ys,rfl,rfl,hq,hz,q⟩:=h;obtain⟨t,rfl⟩:=rx;obtain⟨u,rfl,w1⟩:=vals1 rs;cases w1;obtain⟨its,r,pl,_⟩:=I.list hq;obtain⟨l,rfl,rfl,hn⟩:=zpY r;have ok:=joinOk_of hz;unfold JoinOk at ok;rw[yX] at ok;exact Qm F.slot_str_join (Zd _ _ _) F.entry_str_join (F.args_str_join_2 _ _) (meets_str_join_list a t.1 p l ok) ⟨pl.isList,Li I.tk l hn (Nb ok) fun t' k hk=>⟨.str (Txt.join a (l.map (·.1))),H,I.tok _,⟨t',rfl⟩,q⟩⟩
theorem zoz:OpR X (binaryOp .Mult) (fun x y H Q=>∃a n,x=.str a/\y=.int n/\MulOk a n/\Q (.str (Txt.mul a n)) H):=by
 intro zj s σ H x y v u Q I rx ry h;obtain⟨a,n,rfl,rfl,ok,q⟩:=h;obtain⟨t,rfl⟩:=rx;obtain⟨t',rfl⟩:=ry;exact zyn I.tk t.2 ok fun t' k hk=>⟨.str (Txt.mul a n),H,I.tok _,⟨t',rfl⟩,q⟩
noncomputable def Its (x:Str):It:=⟨fun i _=>i<x.cps.size,fun i H v H'=>H'=H/\∃c,x.cps[i]?=some c/\v=.str ⟨#[c]⟩,fun i _=>x.cps.size<=i⟩
theorem Uo {P:qz}{w:jd}{K:zg}{tg:jD} (it:zm) (x:Str) (t:Tok) (T:String) (hT:["enumerate","zip","dict_itemiterator","dict_reverseitemiterator","odict_iterator","itertools.zip_longest","itertools.pairwise"].contains T=false)
  (W:∀A:jg,A.handled=none->Walks P w A it [it] [it] x.cps.size (SignAt x) (fun i h=>h.IsStrIter it T x t i))
  (hit:∀(A:jg) (i c:Nat) (s:zp) (Q:Option zc->zp->Prop) (E:zc->zp->Prop),s.heap.IsStrIter it T x t i->x.cps[i]?=some c->(∀h',h'.IsStrIter it T x t (i+1)->wL it s.heap h'->Q (some (.str ⟨#[c]⟩ s.toks)) { s with heap:=h',toks:=s.toks+1 })->wpAny (model P w) A (pyNext (.ref it)) Q E s)
  (hself:∀(A:jg) (i:Nat) (s:zp) (Q:zc->zp->Prop) (E:zc->zp->Prop),s.heap.IsStrIter it T x t i->Q (.ref it) s->wpAny (model P w) A (pyIter (.ref it)) Q E s) :
  Turn P w K tg (Its x) [it] it (fun i h=>i<=x.cps.size/\h.IsStrIter it T x t i) where
 mem:=by simp
 obj:=fun i h st b hb=>by
  have e:b=it:=by simpa using hb
  subst e;obtain⟨_,o,e,c,d⟩:=st;exact⟨o,e,fun v z=>by rw[d] at z;cases z⟩
 keep:=fun i h h' st k=>by
  obtain⟨hi,o,e,c,d⟩:=st;exact⟨hi,o,k it (by simp) o e,c,d⟩
 item:=by
  intro X hP hw hK hc i zj s σ H E I hf st hg;subst hP hw hK;obtain⟨f0,f1,f2,f3,f4,f5⟩:=hf it (by simp);obtain⟨c,hcc⟩:∃c,x.cps[i]?=some c:=⟨_,yr hg⟩;refine hit X.A i c s _ _ st.2 hcc fun h' st' sb=>?_;have I1:Inv X zj σ H { s with heap:=h',toks:=s.toks+1 }:=I.turned (fun b o hb e=>sb.extBut b o hb e) f0 f1 f3 f4 f5;obtain⟨o,e,cc,d⟩:=id st';exact⟨_,rfl,zcG (s:={ s with heap:=h',toks:=s.toks+1 }) e cc d hT ⟨.str ⟨#[c]⟩,H,I1,⟨⟨_,I.nz⟩,rfl⟩,⟨rfl,c,hcc,rfl⟩,⟨hg,st'⟩,fun b hb=>(hf b hb).1⟩⟩
 done:=by
  intro X hP hw hK hc i zj s σ H E I hf st hg;subst hP hw hK;obtain⟨f0,f1,f2,f3,f4,f5⟩:=hf it (by simp);have e:i=x.cps.size:=Nat.le_antisymm st.1 hg;subst e;exact Ja <| (W X.A (I.ok.hd hc)).done s _ _ st.2 fun h' tk kk (htk:s.toks<=tk)=>⟨rfl,I.turned (t':=tk) (fun b o hb e=>kk b o (by simpa using hb) e) f0 f1 f3 f4 f5⟩
 self:=fun A i s Q E st h=>hself A i s Q E st.2 h
def zs2 (tl:TE):TI:=fun σ H R=>tl σ H fun x H1=>∃a,x=.str a/\R (Its a) H1
theorem zhs {tg l:jD}{tl:TE} (hl:PE X l tl):PI X tg l (zs2 tl):=by
 intro zj s σ H R I h;refine thn (hl zj s σ H _ I h) fun v s1 ⟨x,H1,I1,r1,q1⟩=>?_;obtain⟨a,rfl,q⟩:=q1;obtain⟨t,rfl⟩:=r1;have fp:∀b∈[s1.heap.objs.size],mW X zj H1 b:=fun b hb=>by
  have e:b=s1.heap.objs.size:=by simpa using hb
  subst e;exact I1.fpOk (zE _) (I1.hok.fresh (zE _))
 cases ha:a.cps.all (·<128)
 .exact wpAny_pyIter_wide ha ⟨s1.heap.objs.size,[s1.heap.objs.size],_,_,H1,rfl,I1.kept (t':=s1.toks) fun b o e=>zO _ e,
   Uo _ a t.1 "str_iterator" (by decide) (fun A hA=>Walks.strWide hA _ a t.1) (fun A i c s Q E st hc h=>wpAny_pyNext_wide_item st hc h) (fun A i s Q E st h=>wpAny_pyIter_striter_wide st h),⟨qX _,_,jf _ rfl,rfl,rfl⟩,fp,q⟩
 .exact wpAny_pyIter_ascii ha ⟨s1.heap.objs.size,[s1.heap.objs.size],_,_,H1,rfl,I1.kept (t':=s1.toks) fun b o e=>zO _ e,
   Uo _ a t.1 "str_ascii_iterator" (by decide) (fun A hA=>Walks.strAscii hA _ a t.1) (fun A i c s Q E st hc h=>wpAny_pyNext_ascii_item st hc h) (fun A i s Q E st h=>wpAny_pyIter_striter_ascii st h),⟨qX _,_,jf _ rfl,rfl,rfl⟩,fp,q⟩
theorem zk6 {x:Str}{g:TG}{tb:TS}{D:Ends}{σ:St}{H:Hp} (Pv:Nat->St->Hp->Prop) (h0:Pv 0 σ H)
  (hs:∀i c σ H,x.cps[i]?=some c->Pv i σ H->g (.str ⟨#[c]⟩) σ H fun σ2 H2=>tb { D with nx:=Pv (i+1),ct:=Pv (i+1),bk:=D.nx } σ2 H2) (hd:∀σ H,Pv x.cps.size σ H->D.nx σ H) :
  ∃W:Nat->Nat->St->Hp->Prop,(∃m,W 0 m σ H)/\∀i m σ H,W i m σ H ->
   ((Its x).stop i H/\D.nx σ H)∨((Its x).go i H/\∃N:St->Hp->Prop,(∀σ' H',N σ' H'->∃m',m'<m/\W (i+1) m' σ' H')/\∀v H',(Its x).yld i H v H'->g v σ H' fun σ2 H2=>tb { D with nx:=N,ct:=N,bk:=D.nx } σ2 H2):=by
 refine⟨fun i m σ H=>m=x.cps.size-i/\i<=x.cps.size/\Pv i σ H,⟨x.cps.size,by simp,qX _,h0⟩,?_⟩;rintro i m σ H ⟨rfl,hi,p⟩;by_cases hlt:i<x.cps.size
 .refine .inr ⟨hlt,Pv (i+1),fun σ' H' p'=>⟨x.cps.size-(i+1),by omega,rfl,hlt,p'⟩,fun v H' y=>?_⟩;obtain⟨e,c,hc,e2⟩:=y;subst e e2;exact hs i c σ _ hc p
 .have e:i=x.cps.size:=by omega
  subst e;exact .inl ⟨zE _,hd σ H p⟩
theorem zcv {prog:qz}{w:jd}{A:jg}{E:zc->zp->Prop}{s:zp}{I:zm}{fp wr:List zm}{G:Array K5->Array K5->Prop}{n:Nat}{P:Nat->zc->Prop}{St:Nat->zp->Prop}{Q:List zc->zp->Prop}
  (W:WalksS prog w A.in1 I fp wr G n P St) (hT:∀i s,St i s->s.TypeIs (.ref I) "list_reverseiterator") (hst:St 0 s) (hfp:∀b∈fp,b<s.heap.objs.size) (hI:I∈fp)
  (hQ:∀s' acc,Moved wr G s s'->ItemsOf P acc n->Q acc.toList s') (hn:n<=sizeLine):wpAny (model prog w) A (collect (.ref I)) Q E s:=by
 have hSf:s.heap.objs.size ∉ fp:=fun hm=>vH _ (hfp _ hm);have hSI:s.heap.objs.size≠I:=fun e=>hSf (e ▸ hI);unfold collect;refine zr (wpAny_runValue (lX F.entry_proto_collect ?_));rw[oM F.plain_proto_collect _];show wpAny _ A.in1 (newList [] >>= fun l=>again (.builtin "list.__iadd__" ⟨[l,.ref I],[]⟩)) _ _ s;refine zr (Wn ?_);refine qj ⟨Tg F.plain_list_iadd _,lX F.entry_list_iadd ?_⟩;rw[oM F.plain_list_iadd _];have hst₁:=W.frame 0 s (s.heap.push { cls:=.type "list",data:=.seq ([]:List zc).toArray }) s.toks hst (zE _) fun b _ o e=>zO _ e;have hS₁:(s.heap.push { cls:=.type "list",data:=.seq ([]:List zc).toArray }).get? s.heap.objs.size=some { cls:=.type "list",data:=.seq ([]:List zc).toArray }:=jf _ rfl;have h1:fj (.ref s.heap.objs.size) (.ref I)=false:=by simp[fj,hSI]
 show wpAny _ A.in1 (aX (.ref s.heap.objs.size) (.ref I) (.ref s.heap.objs.size)) _ _ _;unfold aX;refine zr (wpAny_typeOf (hT 0 _ hst₁) ?_);rw[if_neg (by rw[h1];decide)];refine zr (W.self 0 _ _ _ hst₁ ?_);refine zr (jY (zlc (hT 0 _ hst₁) ?_));rw[if_neg (by decide)];refine qj ⟨Tg F.plain_extend_loop _,codeAny_extend_loopS W hn _ hSf _ n 0 _ _ _ rfl (qX _) hst₁ hS₁ (ItemsOf.nil P) fun s' acc' c' hm hS' Qn=>?_⟩;show wpAny _ A (load s.heap.objs.size >>= _) _ _ s';refine zr (wpAny_load hS' ?_);exact qj (hQ s' acc' (Moved.drop_new (o:={ cls:=.type "list",data:=.seq ([]:List zc).toArray }) (tk:=s.toks) hm (zE _)) Qn)
theorem zlh {prog:qz}{w:jd}{A:jg}{E:zc->zp->Prop}{s:zp}{x:Str}{t:Tok}{Q:zc->zp->Prop}
 {I:zm}{fp wr:List zm}{G:Array K5->Array K5->Prop}{n:Nat}{P:Nat->zc->Prop}{St:Nat->zp->Prop} (W:WalksS prog w A.in1.in1 I fp wr G n P St) (hT:∀i s,St i s->s.TypeIs (.ref I) "list_reverseiterator") (hst:St 0 s) (hfp:∀b∈fp,b<s.heap.objs.size) (hI:I∈fp)
  (h0:0<s.toks) (hstr:∀i v,P i v->∃y u,v=V8 y u/\u≠0)
  (hq:∀s' (l:List (Str×Tok)),Moved wr G s s'->ItemsOf P (strValues l).toArray n->JoinOk x (l.map (·.1))=true/\∀(t':NT) k,0<k->Q (.str (Txt.join x (l.map (·.1))) t'.1) { s' with toks:=k })
  (hsz:n<=sizeLine) :
  wpAny (model prog w) A (call (.builtin "str.join") [.str x t,.ref I]) Q E s:=by
 refine W9 (Y4 F.slot_str_join.plain F.entry_str_join (F.slot_str_join.check _ _ _ _ _ _ _ _ (Zd _ _ _) (F.args_str_join_2 _ _) ?_));rw[join_tree_other];refine zr (wpAny_typeOf (hT 0 s hst) ?_);show wpAny _ A.in1 ((pyIter (.ref I)).tryCatch _ >>= fun it=>collect it >>= fun items=>MK x items) _ _ s;refine zr (wpAny_tryCatch (W.of_in1.self 0 s _ _ hst ?_));refine zr (zcv W hT hst hfp hI (fun s' acc hm Qn=>?_) hsz);obtain⟨l,hl⟩:=exists_strValues acc.toList fun v hv=>by
  obtain⟨j,hj,rfl⟩:=Array.mem_iff_getElem.mp (Array.mem_toList_iff.mp hv);obtain⟨y,u,e,_⟩:=hstr j _ (Qn.2 j _ (yr hj));exact⟨y,u,e⟩
 have hn:∀p∈l,p.2≠0:=fun p hp=>by
  have hv:V8 p.1 p.2∈acc.toList:=by rw[<- hl];exact List.mem_map.mpr ⟨p,hp,rfl⟩
  obtain⟨j,hj,ej⟩:=Array.mem_iff_getElem.mp (Array.mem_toList_iff.mp hv);obtain⟨y,u,e,hu⟩:=hstr j _ (Qn.2 j _ (yr hj));rw[ej] at e;injection e with _ e;rw[e];exact hu
 rw[<- hl];have hacc':ItemsOf P (strValues l).toArray n:=by rw[hl];simpa using Qn
 obtain⟨hok,hpost⟩:=hq s' l hm hacc';unfold JoinOk at hok;rw[yX] at hok;have g:Gives (MK x (strValues l)) (joinMade x l):=by
  have g0:=gives_joinTail x l hok;cases l with
  | nil=>exact g0
  | cons p r=>cases r with
   | nil=>exact g0
   | cons q r'=>exact g0
 exact g prog w A (wants Q E) s' (Li (qy h0 hm.toks) l hn (Nb hok) hpost)
def zme (K:zg) (to:TE) (ta:TA):TE:=fun σ H Q=>to σ H fun x H1=>ta σ H1 fun vs H2=>∃(sep:Str) (l:zm) (ys:List Str),x=.str sep/\vs=[.ref l]/\SqL K H2 l (ys.map V.str)/\(ys.map (·.length)).sum+ys.length*sep.length<=16777216/\Q (.str (Txt.join sep ys.reverse)) H2
theorem zfG {o a:jD}{to:TE}{ta:TA}{p2 pos2 WF Q8:Pos} (hc:X.calm=true) (hg2:Gl X "reversed") (hm2:X.mg "reversed"=none) (ho:PE X o to) (ht:∀σ H Q,to σ H Q->to σ H fun x H1=>(∃sep,x=.str sep)/\Q x H1) (ha:PA X [a] ta)
  (hbase:attributeBase o "join" X.env (eval o X.env)=eval o X.env:=by rfl)
  (hfew:((backTo Q8 (z9 [.Call (.Name "reversed" p2) [a] [] pos2] X.env)).all (fun x=>!x.1) && (backToKw Q8 (keywordEach [] X.env)).all (fun x=>x.1.isSome)
   && decide (([.Call (.Name "reversed" p2) [a] [] pos2]:List jD).length+([]:List Vn).length+(if ([]:List Vn).isEmpty then 0 else 1)<30))=true:=by rfl)
  (hline:(WF.endLine == Q8.line)=true:=by rfl)
  (hs:z9 [.Call (.Name "reversed" p2) [a] [] pos2] X.env=(false,eval (.Call (.Name "reversed" p2) [a] [] pos2) X.env)::z9 [] X.env:=by rfl) (hs2:(backTo Q8 (z9 [] X.env)).any (·.1)=false:=by rfl)
  (hs3:z9 [a] X.env=(false,eval a X.env)::z9 [] X.env:=by rfl) (hs4:(backTo pos2 (z9 [] X.env)).any (·.1)=false:=by rfl) :
  PE X (.Call (.Attribute o "join" WF) [.Call (.Name "reversed" p2) [a] [] pos2] [] Q8) (zme X.K to ta):=by
 intro zj s σ H Q I h;refine lG hbase hfew hline rfl (thn (ho zj s σ H _ I (ht σ H _ h)) fun v s1 ⟨x,H1,I1,r1,⟨sep0,esep⟩,q1⟩=>?_);subst esep;obtain⟨t1,rfl⟩:=r1;refine⟨"str","str.join",F.plainAttrs_str,F.slot_str_join,F.type_str_join,Zd s1 sep0 t1.1,(fun b e=>nomatch e),?_⟩;rw[hs];refine Zi (by show (false || (backTo Q8 (z9 [] X.env)).any (·.1))=false;rw[hs2] <;> rfl) (Z4 ?_);show wpAny _ _ (spliced ((false,eval (.Call (.Name "reversed" p2) [a] [] pos2) X.env)::backTo Q8 (z9 [] X.env))) _ _ s1;refine ZF (Call_ (nM I1 hg2 hm2 zfe (km (thn (ha pos2 zj s1 σ H1 _ I1 q1) fun us s2 ⟨vs,H2,I2,r2,q2⟩=>?_) hs3 hs4)));obtain⟨sep,l,ys,e0,e,hq,hz,q⟩:=q2;cases e0;subst e;obtain⟨u,rfl,w1⟩:=vals1 r2;cases w1;obtain⟨its,v1,p1,z1⟩:=I2.list hq;have hl:l<s2.heap.objs.size:=by obtain⟨_,_,e,_⟩:=p1;exact zV e
 have hlen:=v1.length;refine call_reversed_list p1.isList ?_;refine K4 ?_;have hne:l≠s2.heap.objs.size:=qY hl;have hsz:(s2.heap.push (revObj l ((its.toArray.size:Int)-1))).objs.size=s2.heap.objs.size+1:=oN ..;have hr:(s2.heap.push (revObj l ((its.toArray.size:Int)-1))).get? s2.heap.objs.size=some (revObj l ((its.toArray.size:Int)-1)):=jf _ rfl;have W:=(PySem.Walks.listRev (prog:=X.prog) (w:=X.w) (A:=X.A.in1.in1) (I.ok.hd hc) s2.heap.objs.size l hne its.toArray).toS;have SA:Hh its ys:=zfY v1;obtain⟨ls,els,eys,enz⟩:=zpY v1;refine zlh W (fun i s st=>st.2.1.typeIs) ⟨qX _,⟨_,hr,rfl,?_⟩,?_⟩ (fun b hb=>?_) (by simp) I2.tk (fun i v hv=>?_) (fun s' lv m it=>?_) (by rw[z7];omega)
 .show dq #[jx l,rawInt ((its.toArray.size:Int)-1)]=dq #[jx l,rawInt ((its.toArray.size:Int)-1-((0:Nat):Int))];rw[show (its.toArray.size:Int)-1-((0:Nat):Int)=(its.toArray.size:Int)-1 by omega]
 .obtain⟨o,ho,rr⟩:=p1.isList;exact⟨o,zO _ ho,rr⟩
 .show b<(s2.heap.push (revObj l ((its.toArray.size:Int)-1))).objs.size;rw[hsz];simp only[xX,jL,or_false] at hb;rcases hb with e | e
  .rw[e];exact W5 _
  .rw[e];exact dD hl
 .have hm:=qw (by simpa using hv:its[its.toArray.size-1-i]?=some v);rw[els] at hm;obtain⟨pr,hpr,e⟩:=List.mem_map.mp hm;exact⟨_,_,e.symm,enz pr hpr⟩
 .have elv:strValues lv=its.reverse:=by
   apply Wf;intro j;have h1:=it.1;by_cases hj:j<its.length
   .have hj2:j<(strValues lv).length:=by have:(strValues lv).toArray.size=its.toArray.size:=h1;simp only[z7] at this;omega
    have:=it.2 j (strValues lv)[j] (by simp[zq hj2]);rw[z7] at this;rw[List.getElem?_reverse hj,zq hj2];simpa using this.symm
   .have h2:(strValues lv).length=its.length:=by simpa using h1
    rw[xT (by omega),xT (by rw[aJ];omega)]
  have em:lv.map (·.1)=ys.reverse:=by
   have e1:strValues lv=strValues ls.reverse:=by rw[elv,els];simp[strValues]
   have e2:∀(a b:List (Str×Tok)),strValues a=strValues b->a.map (·.1)=b.map (·.1):=by
    intro a
    induction a with
    | nil=>intro b e;cases b with
     | nil=>rfl
     | cons _ _=>simp[strValues] at e
    | cons p r ih=>intro b e;cases b with
     | nil=>simp[strValues] at e
     | cons p' r'=>
      simp only[strValues,zY,List.cons.injEq] at e;have e3:=e.1;injection e3 with e4 _;rw[zY,zY,e4,ih r' e.2]
   rw[e2 _ _ e1,gh,eys]
  refine⟨by rw[em];exact joinOk_of (by rw[gh,List.sum_reverse,aJ];exact hz),fun t' k hk=>?_⟩;rw[em];have es:({ s' with toks:=k }:zp)={ s2 with heap:=s'.heap,toks:=k }:=by
   have g:=m.gens;have d:=m.drawn;have o:=m.os;cases s';simp only at g d o;subst g d o;rfl
  rw[es];have kp:∀b u,s2.heap.get? b=some u->s'.heap.get? b=some u:=fun b u e=>m.heap b u (by
   have:=zV e;simp only[xX,jL,or_false];exact fun z=>by rw[z] at this;exact vH _ this) (zO _ e)
  exact⟨.str (Txt.join sep0 ys.reverse),H2,I2.kept (t':=k) kp,⟨t',rfl⟩,q⟩
end
end L2
namespace L2
open PySem PySem.Spec PyProof.Rows PySem.SeqAt
noncomputable def dV:V->PyData
 | .bl b=>.bool b
 | .int i=>.int i
 | .str x=>.str x
 | _=>.none
noncomputable def okF:V->Bool
 | .non=>true
 | .bl _=>true
 | .int _=>true
 | .str x=>Wi (.str x)
 | _=>false
theorem zfI {h:jW}{v:V}{u:zc} (r:RelV v u) (ok:okF v=true):Reads h u (dV v) []:=by
 cases v with
 | non=>cases r;exact .none
 | bl b=>cases r;exact .bool b
 | int i=>obtain⟨t,rfl⟩:=r;exact .int i t
 | str x=>obtain⟨t,rfl⟩:=r;exact .str x t
 | _=>cases ok
theorem rQ {h:jW}:∀{xs:List V}{us:List zc},Vals xs us->(∀v∈xs,okF v=true)->ReadsAll h us (xs.map dV) []
 | _,_,.nil,_=>.nil
 | _,_,.cons r1 r2,ok=>.cons (zfI r1 (ok _ (zJ ..))) (rQ r2 fun v hv=>ok v (zG _ hv))
theorem EY:∀{xs:List V},(∀v∈xs,okF v=true)->dG (xs.map dV)=true
 | [],_=>by simp[dG]
 | v::xs,ok=>by
  have h1:Wi (dV v)=true:=by
   have:=ok v (zJ ..);cases v <;> first | rfl | exact this | (simp[dV,Wi];done) | cases this
  simp[dG,h1,EY fun v hv=>ok v (zG _ hv)]
theorem HQ:∀xs:List V,lU (xs.map dV)<=1
 | []=>by simp[lU]
 | v::xs=>by
  have:=HQ xs;have h1:bu (dV v)<=1:=by cases v <;> simp[dV,bu]
  simp only[zY,lU];omega
section
variable {X:Cx}
end
end L2
namespace L2
open PySem PySem.Spec PyProof.Rows
theorem zoF {X:Cx}{tb:TS}{body:List jV}{h₀:RT}{hs:List RT}{pos:Pos} (hb:PSs X.nox body tb):PS X (.Try body (h₀::hs) [] [] pos) tb:=by
 intro zj s σ H D I h;refine Ew (jt (hb zj s σ H D (I.wish _) h) (fun fl s1 x=>?_) fun e s' x=>x.elim);cases fl with
 | next=>
  obtain⟨σ',H',I',q⟩:=x;exact Ji ⟨σ',H',I'.unwish,q⟩
 | brk=>
  obtain⟨σ',H',I',q⟩:=x;exact⟨σ',H',I'.unwish,q⟩
 | cont=>
  obtain⟨σ',H',I',q⟩:=x;exact⟨σ',H',I'.unwish,q⟩
 | ret u=>
  obtain⟨v,σ',H',I',r,q⟩:=x;exact⟨v,σ',H',I'.unwish,r,q⟩
structure Ai (K:zg) (x qual:Str) (st:jV) (f:zm) (fd:jQ):Prop where
 ex:∃(oc:zc) (od:Option zm) (dV kV doc pm:zc) (an:Option zm) (cdv ct:zc) (osl:Array (Option zc)),fd=xj x qual (yU st) (wD st) (zP st) dV kV doc pm an cdv ct/\K.lookup f=some ⟨oc,od,.func fd,osl⟩/\vD K cdv qual=true
section
variable {P:qz}{w:jd}{K:zg}{mg:Str->Option zc}{base:jW}
theorem Ai.ok {x qual:Str}{st:jV}{f:zm}{fd:jQ}{N ps:List Str}{k:Nat}{sp:Sp} (F:Ai K x qual st f fd) (S:qU N ps (zP st)) (len:∀vs H Q E,sp vs H Q E->vs.length=ps.length)
  (hbody:∀(cdv:zc) (A:jg) (outer:List Env) (s:zp) (H:Hp) (vs:List V) (Q:VK) (E:XK),JG k (A.deeper (envOfC qual (zP st) s.heap.objs.size f cdv))->sp vs H Q E ->
   ∃t,PSs (yI CX0 P w K mg base N qual (zP st) f cdv A outer s H E).nox (wD st) t/\t { nx:=fun _ H'=>Q .non H',rt:=Q } (start N vs) H):Kc P w K mg base CX0 (k+1) f fd ps sp:=by
 obtain⟨oc,od,dV,kV,doc,pm,an,cdv,ct,osl,rfl,lk,hcd⟩:=F.ex;refine zhd lk hcd S len fun A outer s H vs Q E hr hsp=>?_;obtain⟨t,h,q⟩:=hbody cdv A outer s H vs Q E hr hsp;exact⟨t,fun zj s1 σ H1 D I h1=>jt (h zj s1 σ H1 D (I.wish _) h1) (fun fl s2 x=>by
  cases fl with
  | next=>obtain⟨σ',H',I',q⟩:=x;exact⟨σ',H',I'.unwish,q⟩
  | brk=>obtain⟨σ',H',I',q⟩:=x;exact⟨σ',H',I'.unwish,q⟩
  | cont=>obtain⟨σ',H',I',q⟩:=x;exact⟨σ',H',I'.unwish,q⟩
  | ret u=>obtain⟨v,σ',H',I',r,q⟩:=x;exact⟨v,σ',H',I'.unwish,r,q⟩) fun _ _ z=>z.elim,q⟩
theorem Ai.okE {x qual:Str}{st:jV}{f:zm}{fd:jQ}{N ps:List Str}{k:Nat}{sp:Sp} (F:Ai K x qual st f fd) (S:qU N ps (zP st)) (len:∀vs H Q E,sp vs H Q E->vs.length=ps.length)
  (hbody:∀(cdv:zc) (A:jg) (outer:List Env) (s:zp) (H:Hp) (vs:List V) (Q:VK) (E:XK),JG k (A.deeper (envOfC qual (zP st) s.heap.objs.size f cdv))->sp vs H Q E ->
   ∃t,PSs (yI (CXE P w) P w K mg base N qual (zP st) f cdv A outer s H E) (wD st) t/\t { nx:=fun _ H'=>Q .non H',rt:=Q } (start N vs) H):Kc P w K mg base (CXE P w) (k+1) f fd ps sp:=by
 obtain⟨oc,od,dV,kV,doc,pm,an,cdv,ct,osl,rfl,lk,hcd⟩:=F.ex;exact zhd lk hcd S len fun A outer s H vs Q E hr hsp=>hbody cdv A outer s H vs Q E hr hsp
theorem cU {x qual:Str}{st:jV}{f:zm}{oc:zc}{od an:Option zm}{osl:Array (Option zc)}{dV kV doc pm cdv ct:zc} (l:K.lookup f=some ⟨oc,od,.func (xj x qual (yU st) (wD st) (zP st) dV kV doc pm an cdv ct),osl⟩)
  (c:vD K cdv qual=true):Ai K x qual st f (xj x qual (yU st) (wD st) (zP st) dV kV doc pm an cdv ct):=⟨⟨oc,od,dV,kV,doc,pm,an,cdv,ct,osl,rfl,l,c⟩⟩
end
def zch (K:zg) (x qual:Str) (st:jV) (ps:List Str) (f:zm):Prop:=∃fd,Ai K x qual st f fd/\Binds K fd ps []
def MtX (CX:CXT) (P:qz) (w:jd) (K:zg) (mg:Str->Option zc) (base:jW) (k:Nat) (C:zm) (m:Str) (ps:List Str) (sp:Sp):Prop:=
 ∃f fd,Kc P w K mg base CX k f fd ps sp/\Cls K C/\Meth K C m f/\Binds K fd ps []
abbrev MtE (P:qz) (w:jd) (K:zg) (mg:Str->Option zc) (base:jW) (k:Nat) (C:zm) (m:Str) (ps:List Str) (sp:Sp):Prop:=MtX (CXE P w) P w K mg base k C m ps sp
def MkX (CX:CXT) (P:qz) (w:jd) (K:zg) (mg:Str->Option zc) (base:jW) (k:Nat) (C:zm) (ps:List Str) (sp:Sp):Prop:=
 ∃f fd,Kc P w K mg base CX k f fd ps sp/\Mk K C f/\Binds K fd ps []
def zyK (C:zm) (m:Str) (sp:Sp) (G:St->zc->Hp->Prop) (ta:TE) (t:TA):TE:=fun σ H Q=>ta σ H fun x H1=>∃a dx fs,x=.ref a/\H1 a=some (.ins C dx fs)/\fs.lookup m=none/\t σ H1 fun vs H2=>sp (x::vs) H2 Q fun C _ H'=>G σ C H'
def tMk (C:zm) (sp:Sp) (t:TA):TE:=fun σ H Q=>t σ H fun vs H1=>∀x dx,H1 x=none->H1 dx=none->dx≠x->sp (.ref x::vs) (upd (upd H1 dx (.own x)) x (.ins C dx [])) (fun v H2=>v=.non/\Q (.ref x) H2) E0
section
variable {X:Cx}{CX:CXT}{k:Nat}{C:zm}{x m:Str}{ps:List Str}{sp:Sp}{p pos WF:Pos}{e o:jD}{es:List jD}{ta:TE}{t:TA}{G:St->zc->Hp->Prop}
theorem zrx {f a:zm}{fd:jQ}{zj:List (zm×Obj)}{σ:St}{H:Hp}{s:zp}{Q:VK}{E:XK}{us:List zc}{vs:List V} (F:Kc X.prog X.w X.K X.mg X.base CX k f fd ps sp) (hr:JG k X.A) (b:Binds X.K fd ps [])
  (hx:∀e s',CX X.stack H s E e s'->X.xe e s') (I:Inv X zj σ H s) (r:Vals vs us) (h:sp (.ref a::vs) H Q E):wpAny (model X.prog X.w) X.A (call (.ref f) (.ref a::us)) (EP X zj σ Q) X.xe s:=by
 have r2:Vals (V.ref a::vs) (jx a::us):=.cons rfl r;have hl:(jx a::us).length=ps.length:=by rw[<- r2.length];exact F.len _ _ _ _ h
 have bb:=b s (.ref a::us) I.kIn (by rw[jr];exact hl);rw[jr] at bb;refine W9 (Q5 (F.run X.A X.stack s H ⟨.ref a::us,[]⟩ (.ref a::us) (.ref a::vs) Q E hr I.env0 (.inl I.tk) bb r2 h) fun rr s' hq=>?_);cases rr with
 | error e=>exact hx e s' hq
 | ok fl=>
  cases fl with
  | ret u=>exact I.after hq
  | next=>exact xQ hq
  | brk=>exact xQ hq
  | cont=>exact xQ hq
theorem nU {pl:Sem Bool} (he:PE X o ta) (F:MtE X.prog X.w X.K X.mg X.base k C m ps sp) (hr:JG k X.A) (hx:Am X G) (ha:PA X (e::es) t)
  (hst:z9 (e::es) X.env=(false,eval e X.env)::z9 es X.env:=by rfl) (hpl:(backTo pos (z9 es X.env)).any (·.1)=false:=by rfl)
  (ht:eval (.Call (.Attribute o m WF) (e::es) [] pos) X.env=(do
   let ov <- eval o X.env
   standAt WF.atName
   let (f,first) <- holding [ov] (getMethod ov m pl)
   callWith pos f first (backTo pos (z9 (e::es) X.env)) (backToKw pos (keywordEach [] X.env))):=by rfl) :
  PE X (.Call (.Attribute o m WF) (e::es) [] pos) (zyK C m sp G ta t):=by
 obtain⟨f,fd,F,c,hm,b⟩:=F;intro zj s σ H Q I h;refine W.methodCall_KW (pl:=pl) (thn (he zj s σ H _ I h) fun u s1 ⟨x,H1,I1,rx,a,dx,fs,ex,ea,l,q⟩=>?_) ht;subst ex;obtain rfl:u=jx a:=rx;refine zfp I1 ea c hm l ?_;refine VM (first:=[.ref a]) (h₀:=X.base) I.ok.mod.kin hm.kp (thn (ha pos zj s1 σ H1 _ I1 q) fun us s2 ⟨vs,H2,I2,r,q2⟩=>⟨I2.kIn,?_⟩) hst hpl;exact zrx F hr b (fun e s' z=>hx zj σ H2 s2 e s' I2 z) I2 r q2
theorem zlX {f:zm}{fd:jQ}{zj:List (zm×Obj)}{σ:St}{H:Hp}{s:zp}{Q:VK}{E:XK}{us:List zc}{vs:List V} (M:Mk X.K C f) (F:Kc X.prog X.w X.K X.mg X.base CX k f fd ps sp) (hr:JG (k+1) X.A) (hb:Binds X.K fd ps [])
  (hx:∀(H:Hp) (s:zp) (e:zc) (s':zp),Inv X zj σ H s->CX X.stack H s E e s'->X.xe e s') (I:Inv X zj σ H s) (r:Vals vs us)
  (h:∀x dx,H x=none->H dx=none->dx≠x->sp (.ref x::vs) (upd (upd H dx (.own x)) x (.ins C dx [])) (fun v H2=>v=.non/\Q (.ref x) H2) E) :
  wpAny (model X.prog X.w) X.A (call (.ref C) us) (EP X zj σ Q) X.xe s:=by
 have hq:=h (s.heap.objs.size+1) s.heap.objs.size (I.hok.fresh (dB _)) (I.hok.fresh (zE _)) (qY (W5 _));have I2:=Inv.made (C:=C) I;have r2:Vals (V.ref (s.heap.objs.size+1)::vs) (jx (s.heap.objs.size+1)::us):=.cons rfl r;have hl:(jx (s.heap.objs.size+1)::us).length=ps.length:=by rw[<- r2.length];exact F.len _ _ _ _ hq
 have bb:=hb _ (jx (s.heap.objs.size+1)::us) I2.kIn (by rw[jr];exact hl);rw[jr] at bb;refine W9 (zlo (f:=f) I.kIn M.makes M.init (beq_iff_eq.mp M.fn) (Q5 (F.run _ X.stack _ _ ⟨jx (s.heap.objs.size+1)::us,[]⟩ (jx (s.heap.objs.size+1)::us) _ _ E (hr.make C us [])
  (I2.env0.make C us []) (.inl I2.tk) bb r2 hq) fun r s' hq'=>?_))
 cases r with
 | error e=>exact hx _ _ e s' I2 hq'
 | ok fl=>
  cases fl with
  | ret u=>
   obtain⟨v,H',I3,rv,ev,q3⟩:=I2.after hq';subst ev;exact⟨rv,⟨V.ref (s.heap.objs.size+1),H',I3,rfl,q3⟩⟩
  | next=>exact xQ hq'
  | brk=>exact xQ hq'
  | cont=>exact xQ hq'
theorem zwS (F:MkX CX0 X.prog X.w X.K X.mg X.base k C ps sp) (hr:JG (k+1) X.A) (hg:Gl X x) (hm:X.mg x=some (.ref C)) (ha:PA X (e::es) t) (hdb:(x == ("__debug__":Str))=false:=by decide)
  (he:z9 (e::es) X.env=(false,eval e X.env)::z9 es X.env:=by rfl) (hpl:(backTo pos (z9 es X.env)).any (·.1)=false:=by rfl):PE X (.Call (.Name x p) (e::es) [] pos) (tMk C sp t):=by
 obtain⟨f,fd,F,M,b⟩:=F;intro zj s σ H Q I h;refine ZK (pM I hg hm ?_ hdb);refine VM (h₀:=X.base) I.ok.mod.kin M.kp (thn (ha pos zj s σ H _ I h) fun us s1 ⟨vs,H1,I1,r,q⟩=>⟨I1.kIn,?_⟩) he hpl;exact zlX M F hr b (fun _ _ _ _ _ z=>z.elim) I1 r q
end
end L2
namespace L2
open PySem PySem.Spec PyProof.Rows PySem.SeqAt
section
variable {X:Cx}{zj:List (zm×Obj)}{σ:St}{H:Hp}{s:zp}
end
section
variable {X:Cx}
end
theorem ziE {K:zg}{a acc:zm}{xs:List V}{own:Nat}{ix:List Nat}{g:TG}{te:TE}{σ:St}{H1:Hp}{Q:VK} (f:Nat->V) (hq:H1 a=some (.tup xs)) (hn:H1 acc=none) (hz:xs.length<=sizeLine)
  (step:∀i x H (R:VK),xs[i]?=some x->zX H1 H->R (f i) H->g x (yH own ix σ) H fun σ4 H4=>σ4.drop own=ix.map (fun i=>(σ[i]?).getD none)/\te σ4 H4 R)
  (hd:Q (.ref acc) (upd H1 acc (.lst ((qJ xs.length).map f)))) :
  mH (Itt K a) own ix g cZ te σ H1 acc Q:=by
 refine⟨fun i m ys H=>m=xs.length-i/\i<=xs.length/\ys=(qJ i).map f/\H=upd H1 acc (.lst ys),⟨xs.length,by simp,qX _,rfl,rfl⟩,?_⟩;rintro i m ys H ⟨rfl,hi,rfl,rfl⟩;have q:SqT K (upd H1 acc (.lst ((qJ i).map f))) a xs:=SqT.of ((zX.new hn) _ _ hq);refine⟨zL,?_⟩;by_cases hlt:i<xs.length
 .refine .inr ⟨⟨xs,xs[i],q,by simp[hlt]⟩,by rw[zf,vB];omega,fun x H3 y=>?_⟩;obtain⟨e,y⟩:=y;subst e;exact step i x _ _ (y xs q) (zX.new hn) ⟨zL,xs.length-(i+1),by omega,rfl,hlt,by rw[Jf,jw];rfl,by rw[Hb]⟩
 .have e:i=xs.length:=by omega
  subst e;exact .inl ⟨⟨xs,q,zE _⟩,hd⟩
end L2
namespace L2
open PySem PySem.Spec PyProof.Rows
open PySem.W (hideAll of_hideAll hideAll_get)
section
variable {M:aM}{A:jg}{E:zc->zp->Prop}{s:zp}{env:Env}
def zg5 (M:aM) (A:jg) (E:zc->zp->Prop) (use:Option (zc->Sem Unit)) (Q:zc->zp->Prop) (acc:zc) (cenv:Env) (r:uZ) (s':zp):Prop:=
 match r with
 | .error x=>∃m,s'.heap.Ns cenv.locals m/\∀h' m',h'.Ns cenv.locals m'->wL cenv.locals s'.heap h'->wpAny M A (Cr "comprehension.variables-let-go" x cenv:Sem zc) (fun _ _=>False) E { s' with heap:=h' }
 | .ok f=>compPost M A E use Q acc cenv.locals (.ok f) s'
theorem ziD {e:jD}{scope:Zr}{pos:Pos}{newAcc first:Sem zc}{g:RQ}{gs:List RQ}{cl:List (Str×zm)}{use:Option (zc->Sem Unit)}{Q:zc->zp->Prop}
  (hcl:clausesOf e=g::gs) (hs:∀x,foldedSetIterable g.iter env x=pure x) (hclos:closureFor scope env=pure cl) (hkind:scope.kind=.function) (hnames:∀y∈scope.names,y.2=.local->scope.names.lookup y.1=some .local)
  (h:wpAny M A first (fun x s1=>wpAny M A (pyIter x) (fun it s2=>wpAny M A newAcc (fun acc s3=>wpAny M A (newFunctionEnv scope env.globals cl [] env.qual none .none (some env)) (fun cenv s4=>
   codeAny M A (.compStart e 0 it acc { cenv with scope:=relabel scope env }) (zg5 M A E use Q acc { cenv with scope:=relabel scope env }) s4) E s3) E s2) E s1) E s) :
  wpAny M A (comprehension e scope env pos newAcc false first use) Q E s:=by
 unfold comprehension;rw[hclos,hcl];refine zr (jt h (fun x s1 h1=>?_) fun _ _ z=>z);refine zr (Ve (zr (pq (hs x) (zr (jY ?_)))));refine jt h1 (fun it s2 h2=>wpAny_standIf ?_) fun _ _ z=>z;refine zr (jt h2 (fun acc s3 h3=>zr (qj (zr ?_))) fun _ _ z=>z);refine jt h3 (fun cenv s4 h4=>?_) fun _ _ z=>z;dsimp only;have hv:∀l:List (Str×yS),(∀y∈l,y∈scope.names)->∀y∈l,y.2=.local->Env.kindOf { cenv with scope:=relabel scope env } y.1=some .local:=fun l hl y hy hk=>lookup_relabel_local (hnames y (hl y hy) hk);have mem:∀(p:Str×yS->Bool) (y:Str×yS),y∈(scope.names.filter p).reverse->y∈scope.names:=fun p y hy=>(List.mem_filter.mp (List.mem_reverse.mp hy)).1;have zym:∀(p:Str×yS->Bool) (y:Str×yS),y∈(scope.names.filter p).reverse.drop 1++(scope.names.filter p).reverse.take 1->y∈scope.names:=fun p y hy=>
  (List.mem_append.mp hy).elim (fun z=>mem p y (Z7 z)) fun z=>mem p y (yR z)
 refine jY (zr (YC (jY (wpAny_run (Q5 h4 fun r s' hr=>?_)))));cases r with
 | ok f=>
  cases use with
  | none=>
   obtain⟨m,hn,hq⟩:=(show ∃m,s'.heap.Ns cenv.locals m/\∀h',wL cenv.locals s'.heap h'->Q acc { s' with heap:=h' } from hr);refine zr (jY (gF (cenv:={ cenv with scope:=relabel scope env }) hkind _ s' m ?_ hn fun h' m' _ hs'=>qj (hq h' hs')));exact hv _ (mem _)
  | some u=>
   have hr:wpAny M A (u acc) (fun _ s''=>∃m,s''.heap.Ns cenv.locals m/\∀h',wL cenv.locals s''.heap h'->Q .none { s'' with heap:=h' }) E s':=hr;refine zr (Xi (zr (jY (jt hr (fun _ s'' ⟨m,hn,hq⟩=>?_) fun _ _ z=>z))));refine zr (gF (cenv:={ cenv with scope:=relabel scope env }) hkind _ s'' m ?_ hn fun h' m' _ hs'=>qj (hq h' hs'));exact hv _ (zym _)
 | error x=>
  obtain⟨m,hn,hq⟩:=hr;refine zr (jY (gF (cenv:={ cenv with scope:=relabel scope env }) hkind _ s' m ?_ hn fun h' m' hn' hs'=>jt (hq h' m' hn' hs') (fun _ _ z=>z.elim) fun _ _ z=>z));exact hv _ (mem _)
theorem Ru {base:jW}{l:List Env}{e L:zm}{cls a0 fl:zc}{Q:Unit->zp->Prop} (kb:base.StaysIn s.heap) (ne:base.get? e=none) (ff:s.heap.FunFrames base l) (tr:s.heap.TracedAtW base e cls a0 fl)
  (h:∀h',Heap.HeldW base l e cls a0 L h'->s.heap.UpToSlots h'->Q () { s with heap:=h' }):wpAny M A (setFlight (.ref e) (some L)) Q E s:=by
 obtain⟨oe,vs,T,oT,ts,he,hc,hd,h1,nT,Te,hT,dT,h3⟩:=tr;have z3:3<ts.size:=(Array.getElem?_eq_some_iff.mp h3).1;have sb:=Xz s.heap T (YB (·.setIfInBounds 3 ((some L).elim W8 fun f=>rawInt f)));have up:∀b o,s.heap.get? b=some o->(∀us,o.data≠.fields us)->(s.heap.update T (YB (·.setIfInBounds 3 ((some L).elim W8 fun f=>rawInt f)))).get? b=some o:=fun b o q nf=>
  (sb.2 b fun z=>by subst z;rw[hT] at q;cases q;exact nf ts dT).trans q
 unfold setFlight;refine zr (wpAny_field he hd h1 ?_);rw[if_pos (by simp)];refine Nq hT dT z3 (h _ ⟨fun b o q=>(sb.2 b fun z=>by subst z;rw[nT] at q;cases q).trans (kb b o q),ne,ff.of_keeps fun b o q nf=>⟨o,up b o q nf,rfl⟩,?_⟩ fun b o q nf=>⟨o.slots,up b o q nf⟩);exact⟨oe,vs,T,_,_,(sb.2 e (Xy Te)).trans he,hc,hd,h1,nT,Te,yx _ hT (mC (VG dT _)),VG dT _,by simp[z3]⟩
end
theorem rO {h h' B:jW}{C:zm} (k:∀b o,b≠C->h.get? b=some o->h'.get? b=some o):∀{l:List Env},C ∉ frs l->h.FunFrames B l->h'.FunFrames (hideAll B [C]) l
 | [],_,_=>trivial
 | env::r,hc,⟨hk,⟨L,o,hf,hn,ho,hd⟩,hr⟩=>by
  have hm:frs (env::r)=L::frs r:=by unfold frs;rw[wB,hf]
  rw[hm] at hc;refine⟨hk,⟨L,o,hf,?_,k L o (fun z=>hc (by rw[z];exact zJ)) ho,hd⟩,rO k (fun z=>hc (zG _ z)) hr⟩;cases q:(hideAll B [C]).get? L with
  | none=>rfl
  | some u=>
   have:=Ae _ q;rw[hn] at this;cases this
section
variable {P:qz}{w:jd}{K:zg}{mg:Str->Option zc}{base:jW}{N:List Str}{qual:Str}{scope:Zr}{f:zm}{cdv:zc}{A:jg}{outer:List Env}{s s2:zp}{H H1:Hp}{E:XK}{zj:List (zm×Obj)}{σ:St}
theorem zo1 {fp:List zm}{x:zm} {s':zp}{C a0:zc} {H':Hp}{B:jW} (I:Inv (yI (CXE P w) P w K mg base N qual scope f cdv A outer s H E) zj σ H1 s2) (hfp:∀b∈fp,s.heap.objs.size<=b) (os:s'.os=s2.os/\0<s'.toks) (bare:K3 s'.gens)
  (hh:Heap.HeldW B (envOfC qual scope s.heap.objs.size f cdv::outer) x C a0 s.heap.objs.size s'.heap)
  (st:∀h3,B.StaysIn h3->s'.heap.UpToSlots h3->Un (frs (envOfC qual scope s.heap.objs.size f cdv::outer)) fp H1 H' s2.heap h3/\HOk P w H' h3) (xn:s.heap.get? x=none) (xh:H' x=none) (h:E C none H') :
  (yI (CXE P w) P w K mg base N qual scope f cdv A outer s H E).xe (.ref x) s':=by
 show wpAny (model P w) (A.deeper (envOfC qual scope s.heap.objs.size f cdv)) (leaving (envOfC qual scope s.heap.objs.size f cdv) (.ref x)) (fun _ s''=>CXE P w outer H s E (.ref x) s'') (fun e' s''=>CXE P w outer H s E e' s'') s';unfold leaving;refine zr (wpAny_noteFrame_againW rfl hh.2.2.2 (wpAny_landsW hh fun h'' fl up=>?_));obtain⟨f1,f2,⟨_,_,f3⟩,f4⟩:=fl;have U:=I.base;have nfp:∀b o,s.heap.get? b=some o->b ∉ fp:=fun b o e z=>absurd (qy (zV e) (hfp b z)) (vH _);refine⟨x,C,a0,H',B,rfl,⟨os.1.trans I.os.1,os.2⟩,bare,⟨f1,f2,f3,f4⟩,fun h3 st3 up3=>?_,xn,xh,h⟩
 .obtain⟨u,ok⟩:=st h3 st3 (up.trans up3);refine⟨⟨fun b o e n hb hx=>u.keep b o (U.keep b o e n hb hx) (U.free b o e n hx) (zpQ e hb) (nfp b o e),fun b o e n hb hx=>?_,fun b o e n hx=>?_,fun b o e hx=>?_,fun b xs e=>u.tups b xs (U.tups b xs e),fun b o v e=>u.frzs b o v (U.frzs b o v e),fun b ps e=>?_⟩,ok⟩
  .obtain⟨sl,q1⟩:=U.slot b o e n hb hx;have hb':b∈frs (envOfC qual scope s.heap.objs.size f cdv::outer):=by
    unfold frs;rw[wB];exact zG _ hb
   obtain⟨sl2,q2⟩:=u.slot b _ q1 (U.free b o e n hx) hb' (nfp b o e);exact⟨sl2,q2⟩
  .obtain⟨o2,q2⟩:=U.there b o e hx;exact u.free b o2 q2 (U.free b o e n hx) (nfp b o e)
  .obtain⟨o2,q2⟩:=U.there b o e hx;exact u.there b o2 q2 (nfp b o e)
  .obtain⟨m1,q1⟩:=U.tbls b ps e;obtain⟨m2,q2⟩:=u.tbls b _ q1;exact⟨m1++m2,by rw[q2,VD]⟩
end
def zas (X:Cx) (C:zm) (fp:List zm) (sF:zp) (HF:Hp) (G:zc->Hp->Prop):zc->zp->Prop:=fun e s'=>∃(s1:zp) (H1:Hp) (m:Str->Option zc),s1.os=sF.os/\Un (frs X.stack) fp HF H1 sF.heap s1.heap/\s1.heap.Ns C m/\H1 C=none /\
 CXE X.prog X.w X.stack H1 s1 (fun Cv _ H'=>G Cv H') e s'
abbrev yP (X:Cx) (zj:List (zm×Obj)) (N:List Str) (scope:Zr) (C:zm) (sF:zp) (HF:Hp) (fp:List zm) (G:zc->Hp->Prop):Cx:=(wW X zj N scope C sF HF fp).wish (zas X C fp sF HF G)
theorem zoC {X:Cx}{zj:List (zm×Obj)}{N:List Str}{scope:Zr}{C:zm}{sF:zp}{HF:Hp}{fp:List zm}{G:zc->Hp->Prop}:Am (yP X zj N scope C sF HF fp G) (fun _ Cv H'=>G Cv H'):=fun pl σ H s e s' I h=>by
 obtain⟨m,hn,_⟩:=I.loc;exact⟨s,H,m,I.os.1,I.base,hn,I.free,h⟩
section
variable {prog:qz}{w:jd}{A:jg}
theorem Oq {elt target iter:jD}{ifs:List jD}{scope:Zr}{pos:Pos}{it acc:zc}{env:Env}{s:zp}{R:uZ->zp->Prop}{EE:zc->zp->Prop} (hE:∀x s',EE x s'->notedBy (model prog w) A env (fun e s''=>R (.error e) s'') x s') (I:Nat->zp->Prop)
  (turn:∀n s,I n s->wpAny (model prog w) A (pyNext it) (fun r s1=>match r with
   | none=>R (.ok .next) s1
   | some v=>wpAny (model prog w) A (letOwnedTupleGo target it v) (fun _ s1'=>wpAny (model prog w) A (assign target env v) (fun _ s2=>
     wpAny (model prog w) A (forIn ifs true fun c r=>if r=true then do let ok <- isTrue c env (eval c env);pure (yj ok) else pure (yj r)) (fun ok s3=>
      if ok=true then wpAny (model prog w) A (eval elt env) (fun x s4=>wpAny (model prog w) A (call (.builtin "list.append") [acc,x]) (fun _ s5=>∃m,m<n/\I m s5) EE s4) EE s3
      else ∃m,m<n/\I m s3) EE s2) EE s1') EE s1) EE s)
  (n:Nat) (h:I n s):codeAny (model prog w) A (.compLoop (.ListComp elt [⟨target,iter,ifs,0⟩] scope pos) 0 it acc env) R s:=by
 refine codeAny_loop rfl I (fun n s hI=>?_) n h;show wpAny _ A ((compTurn (.ListComp elt [⟨target,iter,ifs,0⟩] scope pos) 0 it acc env).onRaise (fun x=>do noteFrame x env;theTreesLotGoes x)) _ _ s;refine wpAny_noted ?_;rw[Td];refine zr (Ve (zr (jt (turn n s hI) (fun r s1 h1=>?_) hE)));cases r with
 | none=>exact qj h1
 | some v=>
  refine zr (jt h1 (fun _ s1' h1'=>?_) hE);refine zr (jt h1' (fun _ s2 h2=>zr (jt h2 (fun ok s3 h3=>?_) hE)) hE);cases ok with
  | false=>exact qj ⟨rfl,h3⟩
  | true=>exact zr (zr (jt h3 (fun x s4 h4=>zr (jt h4 (fun _ s5 h5=>qj (qj ⟨rfl,h5⟩)) hE)) hE))
end
section
variable {X:Cx}{zj:List (zm×Obj)}{σ:St}
theorem zcw {tg iter elt:jD}{ifs:List jD}{scope:Zr}{own fr:List Str}{ix:List Nat}{g:TG}{tt:TT}{te:TE}{pos:Pos}{Q:VK}{sF:zp}{HF:Hp}{C acc it:zm}{h₁:jW}{fp:List zm}{tn:Nat->jW->Prop}{J:It}{W:Nat->Nat->List V->Hp->Prop}{m:Str->Option zc}{m0:Nat}{RR:uZ->zp->Prop}{G:zc->Hp->Prop}
  (hc:X.calm=true) (B:GD X scope own fr ix)
  (hg:∀zj C sF HF fp,PG (yP X zj (own++fr) scope C sF HF fp G) tg g) (ht:∀zj C sF HF fp,PTs (yP X zj (own++fr) scope C sF HF fp G) ifs tt) (he:∀zj C sF HF fp,PE (yP X zj (own++fr) scope C sF HF fp G) elt te)
  (I3:Inv X zj σ HF sF) (T:Turn X.prog X.w X.K tg J fp it tn) (st3:tn 0 sF.heap) (f3:∀b∈fp,mW X zj HF b) (f3':∀b∈fp,∃o,sF.heap.get? b=some o) (hC:sF.heap.objs.size=C) (old:∀b o,sF.heap.get? b=some o->h₁.get? b=some o) (hns₁:h₁.Ns C m)
  (w0:W 0 m0 [] HF) (turn:∀i m ys H2,W i m ys H2->H2 acc=some (.lst ys)/\((J.stop i H2/\Q (.ref acc) H2)∨(J.go i H2/\ys.length<sizeLine/\∀x H3,J.yld i H2 x H3->g x (yH own.length ix σ) H3 fun σ4 H4=>σ4.drop own.length=ix.map (fun i=>(σ[i]?).getD none)/\tt σ4 H4 fun ok H5=>
   if ok=true then te σ4 H5 fun y H6=>H6 acc=some (.lst ys)/\∃m',m'<m/\W (i+1) m' (ys++[y]) (upd H6 acc (.lst (ys++[y])))
   else ∃m',m'<m/\W (i+1) m' ys H5)))
  (hE:∀x s',zas X C fp sF HF G x s'->notedBy (model X.prog X.w) X.A (compEnvC scope (XD X.env scope.names []) C X.env) (fun e s''=>RR (.error e) s'') x s')
  (fin:∀s6 H5,Inv (wW X zj (own++fr) scope C sF HF fp) [] (yH own.length ix σ) H5 s6->Q (.ref acc) H5->RR (.ok .next) s6) :
  codeAny (model X.prog X.w) X.A (.compStart (.ListComp elt [⟨tg,iter,ifs,0⟩] scope pos) 0 (.ref it) (.ref acc) (compEnvC scope (XD X.env scope.names []) C X.env)) RR
   { sF with heap:=h₁,toks:=sF.toks+([]:List (Str×zc)).length }:=by
 have J0:Inv (yP X zj (own++fr) scope C sF HF fp G) [] (yH own.length ix σ) HF { sF with heap:=h₁,toks:=sF.toks+([]:List (Str×zc)).length }:=(Ez I3 B hC.symm f3 f3' old hns₁ I3.tk).wish _;have st4:tn 0 h₁:=T.keep _ _ _ st3 fun b _ o e=>old b o e;have fY:∀{pl:List (zm×Obj)} {H':Hp},(∀b∈fp,H' b=none)->(∀p∈pl,p.1 ∉ fp)->∀b∈fp,mW (yP X zj (own++fr) scope C sF HF fp G) pl H' b:=fun {pl H'} hn hp b hb=>by
  refine⟨hn b hb,(J0.ok.exf b hb).1,J0.ok.exfs b hb,.inl hb,(J0.ok.exf b hb).2,fun p hpm=>?_⟩;rcases List.mem_append.mp hpm with z | z
  .exact(f3 b hb).2.2.2.2.2 p z
  .exact fun e=>hp p z (by rw[e];exact hb)
 have weak:∀{pl:List (zm×Obj)}{σ4:St}{H4:Hp}{s4:zp},Inv (yP X zj (own++fr) scope C sF HF fp G) pl σ4 H4 s4->σ4.drop own.length=ix.map (fun i=>(σ[i]?).getD none)->Inv (yP X zj (own++fr) scope C sF HF fp G) pl (yH own.length ix σ) H4 s4:=fun {pl σ4 H4 s4} J e=>by
  refine J.weak ?_ fun i v hv=>?_
  .have:=J.len;have:=J0.len;omega
  .have hv':(qH own.length none++ix.map fun i=>(σ[i]?).getD none)[i]?=some (some v):=hv;by_cases hi:i<own.length
   .rw[qP (by rw[jE];exact hi),kE,if_pos hi] at hv';cases hv'
   .rw[jj (by rw[jE];omega),jE,<- e,yE] at hv';rw[show own.length+(i-own.length)=i by omega] at hv';exact hv'
 have loop:∀s4:zp,s4={ sF with heap:=h₁,toks:=sF.toks+([]:List (Str×zc)).length } ->
   codeAny (model X.prog X.w) X.A (.compLoop (.ListComp elt [⟨tg,iter,ifs,0⟩] scope pos) 0 (.ref it) (.ref acc) (compEnvC scope (XD X.env scope.names []) C X.env)) RR s4:=by
  rintro s4 rfl;refine Oq hE (fun n s'=>∃i ys H',Inv (yP X zj (own++fr) scope C sF HF fp G) [] (yH own.length ix σ) H' s'/\tn i s'.heap/\(∀b∈fp,H' b=none)/\W i n ys H') ?_ m0 ⟨0,[],HF,J0,st4,fun b hb=>(f3 b hb).1,w0⟩;rintro n s5 ⟨i,ys,H5,J5,st5,fr5,w5⟩;obtain⟨ha,hturn⟩:=turn i n ys H5 w5;rcases hturn with ⟨stop,qn⟩ | ⟨go,hsz,step⟩
  .refine thn (T.done (yP X zj (own++fr) scope C sF HF fp G) rfl rfl rfl hc i [] s5 _ H5 _ J5 (fY fr5 (fun _ z=>by cases z)) st5 stop) fun r s6 ⟨hr,J6⟩=>?_;subst hr;exact fin s6 H5 J6.unwish qn
  .refine thn (T.item (yP X zj (own++fr) scope C sF HF fp G) rfl rfl rfl hc i [] s5 _ H5 _ J5 (fY fr5 (fun _ z=>by cases z)) st5 go) fun r s6 ⟨u,hr,h6⟩=>?_;subst hr;refine thn h6 fun _ s7 ⟨x,H7,J7,r7,y7,st7,fr7⟩=>?_;have J7':=J7.pinned (fY fr7 (fun _ z=>by cases z)) (T.obj _ _ st7);refine thn (hg zj C sF HF fp _ s7 _ H7 x u _ J7' r7 (step x H7 y7)) fun _ s8 ⟨σ8,H8,J8,k8,q8⟩=>?_;have back:∀{s9:zp}{H9:Hp},Inv (yP X zj (own++fr) scope C sF HF fp G) ([]++DQ fp s7.heap) σ8 H9 s9->Inv (yP X zj (own++fr) scope C sF HF fp G) [] (yH own.length ix σ) H9 s9/\tn (i+1) s9.heap/\∀b∈fp,H9 b=none:=fun {s9 H9} J9=>by
    refine⟨weak J9.unpinned k8,T.keep _ _ _ st7 fun b hb o e=>(J9.pin (b,o) (z8 _ (z8 _ (WN hb e)))).1,fun b hb=>?_⟩;obtain⟨o,e,d⟩:=T.obj _ _ st7 b hb;exact(J9.pin (b,o) (z8 _ (z8 _ (WN hb e)))).2.1
   refine thn (ht zj C sF HF fp _ s8 σ8 H8 _ J8 q8) fun ok s9 ⟨H9,J9,q9⟩=>?_;cases ok with
   | false=>
    obtain⟨m',hm,w9⟩:=q9;obtain⟨b1,b2,b3⟩:=back J9;exact⟨m',hm,i+1,ys,H9,b1,b2,b3,w9⟩
   | true=>
    refine thn (he zj C sF HF fp _ s9 σ8 H9 _ J9 q9) fun v s10 ⟨y,H10,J10,r10,a10,m',hm,w10⟩=>?_;refine thn (Qx (X:=yP X zj (own++fr) scope C sF HF fp G) _ s10 σ8 H10 (.ref acc) [y] (.ref acc) [v] (fun _ H'=>H'=upd H10 acc (.lst (ys++[y]))) J10 rfl (.cons r10 .nil) ⟨acc,ys,y,rfl,rfl,a10,hsz,rfl⟩) fun _ s11 ⟨_,H11,J11,_,e11⟩=>?_;subst e11;obtain⟨b1,b2,b3⟩:=back J11;exact⟨m',hm,i+1,ys++[y],_,b1,b2,b3,w10⟩
 exact lD (loop _ rfl) (T.self _ 0 _ _ _ st4 (loop _ rfl))
end
section
variable {P:qz}{w:jd}{K:zg}{mg:Str->Option zc}{base:jW}{N:List Str}{qual:Str}{scope:Zr}{f:zm}{cdv:zc}{A:jg}{outer:List Env}{s0:zp}{H0:Hp}{E:XK}{zj:List (zm×Obj)}{σ:St}
theorem zat {sF:zp}{HF:Hp}{C:zm}{fp:List zm}{bs:Zr}{cl:List (Str×zm)}{use:Option (zc->Sem Unit)}{Q:zc->zp->Prop}{acc e:zc} {s':zp} (I3:Inv (yI (CXE P w) P w K mg base N qual scope f cdv A outer s0 H0 E) zj σ HF sF) (hC:sF.heap.objs.size=C) (hfp:∀b∈fp,s0.heap.objs.size<=b)
  (hx:zas (yI (CXE P w) P w K mg base N qual scope f cdv A outer s0 H0 E) C fp sF HF (fun Cv H'=>E Cv none H') e s') :
  notedBy (model P w) (A.deeper (envOfC qual scope s0.heap.objs.size f cdv)) (compEnvC bs cl C (envOfC qual scope s0.heap.objs.size f cdv)) (fun e s''=>zg5 (model P w) (A.deeper (envOfC qual scope s0.heap.objs.size f cdv)) (yI (CXE P w) P w K mg base N qual scope f cdv A outer s0 H0 E).xe use Q acc (compEnvC bs cl C (envOfC qual scope s0.heap.objs.size f cdv)) (.error e) s'') e s':=by
 obtain⟨s1,H1,m,os1,U2,⟨oC,es,ep,hoC,dC,rest⟩,hCn,x,Cv,a0,H',B,rfl,os',bare,fl,st,xn,xh,q⟩:=hx;show wpAny (model P w) _ (noteFrame (.ref x) (envOfC qual scope s0.heap.objs.size f cdv)) _ _ s';refine GC (L:=s0.heap.objs.size) I3.ok.frames rfl fl fun h2 hh up=>?_;have Cnf:C ∉ frs (envOfC qual scope s0.heap.objs.size f cdv::outer):=fun z=>by
  obtain⟨_,o,ho,_⟩:=(show sF.heap.FunFrames base (envOfC qual scope s0.heap.objs.size f cdv::outer) from I3.stack).mem z;exact absurd (zV ho) (by rw[hC];exact vH _)
 have h2C:h2.get? C=some oC:=(st h2 hh.1 up).1.keep C oC hoC hCn Cnf (by simp);refine⟨m,⟨oC,es,ep,h2C,dC,rest⟩,fun h' m' hn' sb=>?_⟩;have hn':h'.Ns C m':=hn';have sb:wL C h2 h':=sb;have sb':∀b o,b≠C->h2.get? b=some o->h'.get? b=some o:=fun b o hb z=>(sb.2 b hb).trans z;obtain⟨k1,k2,k3,oe,vs,T,oT,ts,he,hcl,hd,h1,nT,Te,hT,dT,h3⟩:=hh;have xC:x≠C:=fun z=>by rw[z,hoC] at xn;cases xn
 have TC:T≠C:=fun z=>by rw[z,h2C] at hT;cases hT;rw[dC] at dT;cases dT
 have none':∀b,B.get? b=none->(hideAll B [C]).get? b=none:=fun b hb=>by
  cases z:(hideAll B [C]).get? b with
  | none=>rfl
  | some u=>have:=Ae _ z;rw[hb] at this;cases this
 have BC:(hideAll B [C]).get? C=none:=oZ [C] zJ;have K1:(hideAll B [C]).StaysIn h':=fun b o z=>sb' b o (fun y=>by rw[y,BC] at z;cases z) (k1 b o (Ae _ z));have he':=sb' x oe xC he;show wpAny (model P w) _ (Cr "comprehension.variables-let-go" (.ref x) (envOfC qual scope s0.heap.objs.size f cdv):Sem zc) _ _ _;unfold Cr;refine zr (wpAny_field he' hd h1 ?_);rw[if_neg (by simp)];have fin:wpAny (model P w) (A.deeper (envOfC qual scope s0.heap.objs.size f cdv)) (setFlight (.ref x) (some s0.heap.objs.size)) (fun _ s4=>(yI (CXE P w) P w K mg base N qual scope f cdv A outer s0 H0 E).xe (.ref x) s4) (yI (CXE P w) P w K mg base N qual scope f cdv A outer s0 H0 E).xe { s' with heap:=h' }:=by
  refine Ru (s:={ s' with heap:=h' }) K1 (none' x k2) (rO sb' Cnf k3) ⟨oe,vs,T,oT,ts,he',hcl,hd,h1,none' T nT,Te,sb' T oT TC hT,dT,h3⟩ fun h5 hh5 up5=>?_;refine zo1 (s':={ s' with heap:=h5 }) (fp:=fp) (H':=H') (C:=Cv) I3 hfp ⟨os'.1.trans os1,os'.2⟩ bare hh5 (fun h6 st6 up6=>?_) ?_ xh q
  .obtain⟨oC',_,_,hoC',dC',_⟩:=hn';obtain⟨sl,h6C⟩:=(up5.trans up6) C oC' hoC' (fun us z=>by rw[dC'] at z;cases z);have nf:oC.isFreed=false:=(Heap.get?_some_iff.mp h2C).2;have r1:(h6.update C fun _=>oC).get? C=some oC:=yx (fun _=>oC) h6C nf;have r2:∀b,b≠C->(h6.update C fun _=>oC).get? b=h6.get? b:=fun b hb=>K6 _ _ (Xy hb);obtain⟨u3,ok3⟩:=st (h6.update C fun _=>oC) (fun b o z=>by
    by_cases hb:b=C
    .subst hb;have:=k1 _ _ z;rw[h2C] at this;cases this;exact r1
    .exact(r2 b hb).trans (st6 b o (hideAll_get _ z (by simpa using hb)))) (fun b o z nfd=>by
    obtain⟨sl2,z2⟩:=up b o z nfd;by_cases hb:b=C
    .subst hb;rw[h2C] at z2;cases z2;exact⟨_,r1⟩
    .obtain⟨sl3,z3⟩:=(up5.trans up6) b _ (sb' b _ hb z2) nfd;exact⟨sl3,(r2 b hb).trans z3⟩)
   have hC':H' C=none:=u3.free C oC hoC hCn (by simp);have U:Un (frs (envOfC qual scope s0.heap.objs.size f cdv::outer)) fp HF H' sF.heap (h6.update C fun _=>oC):=Un.trans U2 (Un.mono u3 (fun _ z=>z) (fun _ z=>nomatch z));have tr:∀b o v,sF.heap.get? b=some o->(h6.update C fun _=>oC).get? b=some v->h6.get? b=some v:=fun b o v z y=>(r2 b (by rw[<- hC];exact qY (zV z))).symm.trans y;refine⟨⟨fun b o z n hb hx=>tr b o _ z (U.keep b o z n hb hx),fun b o z n hb hx=>?_,U.free,fun b o z hx=>?_,U.tups,U.frzs,U.tbls⟩,fun b u z=>?_⟩
   .obtain⟨sl4,y⟩:=U.slot b o z n hb hx;exact⟨sl4,tr b o _ z y⟩
   .obtain⟨o4,y⟩:=U.there b o z hx;exact⟨o4,tr b o _ z y⟩
   .have nit:∀c v,H' c=some v->c≠C:=fun c v y zz=>by rw[zz,hC'] at y;cases y
    refine(ok3 b u z).stay (fun c v hc y=>(r2 c ?_).symm.trans y) (fun _ y=>y) fun _ _ y=>y;rcases hc with y | y
    .rw[y];exact nit b u z
    .exact nit c _ y
  .cases z:s0.heap.get? x with
   | none=>rfl
   | some o=>
    obtain⟨o1,z1⟩:=I3.base.there x o z (by show x ∉ ([]:List zm);simp);obtain⟨o2,z2⟩:=U2.there x o1 z1 fun y=>absurd (qy (zV z) (hfp x y)) (vH _);rw[xn] at z2;cases z2
 first
  | exact zr (qj (zr (jt fin (fun _ _ z=>wpAny_throw z) fun _ _ z=>z)))
  | exact zr (jt fin (fun _ _ z=>wpAny_throw z) fun _ _ z=>z)
theorem zlQ {tg iter elt:jD}{ifs:List jD}{bsc:Zr}{own fr:List Str}{ix:List Nat}{wi:TI}{g:TG}{tt:TT}{te:TE}{pos spos py:Pos}{k:Nat}{y:Str} (hN:N.Nodup) (hk:N[k]?=some y) (hy:(envOfC qual scope s0.heap.objs.size f cdv).scope.names.lookup y=some .local) (BB:Hi (yI (CXE P w) P w K mg base N qual scope f cdv A outer s0 H0 E) bsc own fr ix) (hi:PI (yI (CXE P w) P w K mg base N qual scope f cdv A outer s0 H0 E) tg iter wi)
  (hg:∀zj C sF HF fp,PG (yP (yI (CXE P w) P w K mg base N qual scope f cdv A outer s0 H0 E) zj (own++fr) bsc C sF HF fp (fun Cv H'=>E Cv none H')) tg g) (ht:∀zj C sF HF fp,PTs (yP (yI (CXE P w) P w K mg base N qual scope f cdv A outer s0 H0 E) zj (own++fr) bsc C sF HF fp (fun Cv H'=>E Cv none H')) ifs tt)
  (he:∀zj C sF HF fp,PE (yP (yI (CXE P w) P w K mg base N qual scope f cdv A outer s0 H0 E) zj (own++fr) bsc C sF HF fp (fun Cv H'=>E Cv none H')) elt te)
  (hsw:swapsWith (.ListComp elt [⟨tg,iter,ifs,0⟩] bsc pos) (some (.Name y py)) spos.line (yI (CXE P w) P w K mg base N qual scope f cdv A outer s0 H0 E).env=pure true:=by rfl)
  (hs:∀x,foldedSetIterable iter (envOfC qual scope s0.heap.objs.size f cdv) x=pure x:=by intro _;rfl):PS (yI (CXE P w) P w K mg base N qual scope f cdv A outer s0 H0 E) (.Assign [.Name y py] (.ListComp elt [⟨tg,iter,ifs,0⟩] bsc pos) spos) (zmb (zmc wi own.length ix g tt te) (rP k)):=by
 intro zj s σ H D I h;have B:=BB.ok I.ok;rw[mF _ _ _ _ hsw];refine zr (Ve (zr ?_));show wpAny _ (yI (CXE P w) P w K mg base N qual scope f cdv A outer s0 H0 E).A (do let _ <- comprehension (.ListComp elt [⟨tg,iter,ifs,0⟩] bsc pos) bsc (yI (CXE P w) P w K mg base N qual scope f cdv A outer s0 H0 E).env _ (newList []) false (eval iter (yI (CXE P w) P w K mg base N qual scope f cdv A outer s0 H0 E).env) (some (assign (.Name y py) (yI (CXE P w) P w K mg base N qual scope f cdv A outer s0 H0 E).env))) _ _ s;refine zr (jt (ziD (use:=some (assign (.Name y py) (yI (CXE P w) P w K mg base N qual scope f cdv A outer s0 H0 E).env)) (Q:=fun _ s'=>SP (yI (CXE P w) P w K mg base N qual scope f cdv A outer s0 H0 E) zj D .next s') rfl hs (t7 B.free) B.kind B.names
  (thn (hi zj s σ H _ I h) fun xv s1 h1=>thn h1 fun itv s2 h2=>?_)) (fun _ s' hq=>qj (qj hq)) fun _ _ e=>e)
 obtain⟨it,fp,tn,J,H2,rfl,I2,T,st2,f2,R⟩:=h2;refine Wn (Y5 B.nocell (by intro y hy;simp at hy) (fun h₁ hns₁ hsb₁=>?_) B.kind);dsimp only at hns₁ hsb₁;have I3:=I2.lnew (t':=s2.toks) (its:=[]) (ys:=[]) .nil (qX _);obtain⟨W,⟨m0,w0⟩,turn⟩:=R _ I2.fresh;have fF:∀b∈fp,∃o,s2.heap.get? b=some o:=fun b hb=>let ⟨o,e,_⟩:=T.obj _ _ st2 b hb;⟨o,e⟩;have ziS:∀b∈fp,b≠s2.heap.objs.size:=fun b hb=>let ⟨o,e⟩:=fF b hb;qY (zV e);have push:∀b o,s2.heap.get? b=some o->(s2.heap.push { cls:=.type "list",data:=.seq ([]:List zc).toArray }).get? b=some o:=fun b o e=>zO _ e;have f3:∀b∈fp,mW (yI (CXE P w) P w K mg base N qual scope f cdv A outer s0 H0 E) zj (upd H2 s2.heap.objs.size (.lst [])) b:=fun b hb=>⟨by rw[jM (ziS b hb)];exact(f2 b hb).1,(f2 b hb).2⟩;refine zcw (Q:=fun x H1=>rP k x σ H1 D.nx) (G:=fun Cv H'=>E Cv none H') rfl B hg ht he I3 T (T.keep _ _ _ st2 fun b _ o e=>push b o e) f3 (fun b hb=>let ⟨o,e⟩:=fF b hb;⟨o,push b o e⟩) rfl
  (fun b o e=>hsb₁.extBut b o (qY (zV e)) (zO _ e)) hns₁ w0 turn (fun x s' hx=>zat I3 rfl (fun b hb=>?_) hx) fun s6 H5 J6 qn=>?_
 .exact(f2 b hb).2.2.2.1.elim (fun z=>absurd (show b∈([]:List zm) from z) (by simp)) fun z=>z
 have I6:Inv (yI (CXE P w) P w K mg base N qual scope f cdv A outer s0 H0 E) zj σ H5 { s6 with heap:=s6.heap }:=Dk I3 f3 rfl J6 (BZ ..);have I6:Inv (yI (CXE P w) P w K mg base N qual scope f cdv A outer s0 H0 E) zj σ H5 s6:=I6;obtain⟨m6,⟨o6,es6,ep6,ho6,rest6⟩,_⟩:=id J6.loc;have sz:∀b o,(s2.heap.push { cls:=.type "list",data:=.seq ([]:List zc).toArray }).get? b=some o->b≠(s2.heap.push { cls:=.type "list",data:=.seq ([]:List zc).toArray }).objs.size:=fun b o e=>qY (zV e);have hge:(yI (CXE P w) P w K mg base N qual scope f cdv A outer s0 H0 E).s₀.heap.objs.size<=(s2.heap.push { cls:=.type "list",data:=.seq ([]:List zc).toArray }).objs.size:=I3.sz;have hloc:(s2.heap.push { cls:=.type "list",data:=.seq ([]:List zc).toArray }).objs.size≠(yI (CXE P w) P w K mg base N qual scope f cdv A outer s0 H0 E).env.locals:=fun z=>by
  have:=I3.lt;rw[<- z] at this;exact vH _ this
 have hfs:(s2.heap.push { cls:=.type "list",data:=.seq ([]:List zc).toArray }).objs.size ∉ (yI (CXE P w) P w K mg base N qual scope f cdv A outer s0 H0 E).fs:=I3.nofs (zE _);have hcell:∀x c,(yI (CXE P w) P w K mg base N qual scope f cdv A outer s0 H0 E).env.cells.lookup x=some c->c≠(s2.heap.push { cls:=.type "list",data:=.seq ([]:List zc).toArray }).objs.size:=fun x c e=>by
  obtain⟨v,ob,hob,_⟩:=I3.cell x c e;exact sz _ _ hob
 have hpin:∀p∈(yI (CXE P w) P w K mg base N qual scope f cdv A outer s0 H0 E).pn++zj,p.1≠(s2.heap.push { cls:=.type "list",data:=.seq ([]:List zc).toArray }).objs.size:=fun p hp=>sz _ _ (I3.pin p hp).1;have I7:Inv (yI (CXE P w) P w K mg base N qual scope f cdv A outer s0 H0 E) (zj++[((s2.heap.push { cls:=.type "list",data:=.seq ([]:List zc).toArray }).objs.size,o6)]) σ H5 s6:=I6.pins_of fun p hp=>by
  rcases List.mem_append.mp hp with z | z
  .exact I6.pin p (z8 _ z)
  .rw[List.mem_singleton.mp z];refine⟨ho6,J6.free,hloc,hfs,fun v z=>?_⟩;rw[rest6.1] at z;cases z
 refine dJ (fX (v:=.ref s2.heap.objs.size) I7 hN hk (.inl hy) rfl (fun s8 I8=>?_) (.inr hy));have h8:=(I8.pin ((s2.heap.push { cls:=.type "list",data:=.seq ([]:List zc).toArray }).objs.size,o6) (z8 _ (z8 _ (List.mem_singleton.mpr rfl)))).1;refine⟨m6,⟨o6,es6,ep6,h8,rest6⟩,fun h' hs'=>⟨_,H5,(I8.unpinned).turned (t':=s8.toks) (fun b o hb e=>hs'.extBut b o hb e) J6.free hloc (.inr hge) hcell hpin,qn⟩⟩
end
end L2
namespace L2
open PySem PySem.NumText
abbrev cpl (x:Str):List Nat:=x.cps.toList
theorem Vh {x y:Str} (h:cpl x=cpl y):x=y:=Str.ext' (Array.toList_inj.mp h)
theorem wj (x:Str):(cpl x).length=x.length:=zW
theorem Qo (x y:Str):cpl (x++y)=cpl x++cpl y:=by simp only[cpl,Str.cps_append,jo]
noncomputable def JL (c:Nat):List (List Nat)->List Nat
 | []=>[]
 | [x]=>x
 | x::y::r=>x++c::JL c (y::r)
theorem nF (c:Nat):∀ws:List Str,cpl (zd0 ⟨#[c]⟩ ws)=JL c (ws.map cpl)
 | []=>rfl
 | [x]=>rfl
 | x::y::r=>by
  show cpl (x++⟨#[c]⟩++zd0 ⟨#[c]⟩ (y::r))=cpl x++c::JL c (cpl y::r.map cpl);rw[Qo,Qo,nF c (y::r),qQ];rfl
theorem zkW {c:Nat}:∀{x y A B:List Nat},c ∉ x->c ∉ y->x++c::A=y++c::B->x=y/\A=B
 | [],[],_,_,_,_,h=>⟨rfl,(Vb h).2⟩
 | [],b::y,_,_,_,hy,h=>absurd (show c∈b::y by rw[(Vb h).1];exact zJ ..) hy
 | a::x,[],_,_,hx,_,h=>absurd (show c∈a::x by rw[<- (Vb h).1];exact zJ ..) hx
 | a::x,b::y,A,B,hx,hy,h=>by
  obtain⟨h1,h2⟩:=Vb h;obtain⟨e1,e2⟩:=zkW (fun z=>hx (zG _ z)) (fun z=>hy (zG _ z)) h2;exact⟨by rw[h1,e1],e2⟩
theorem T4 {c:Nat}:∀{xs ys:List (List Nat)},xs≠[]->ys≠[]->(∀x∈xs,c ∉ x)->(∀y∈ys,c ∉ y)->JL c xs=JL c ys->xs=ys
 | [],_,h,_,_,_,_=>absurd rfl h
 | _,[],_,h,_,_,_=>absurd rfl h
 | [x],[y],_,_,_,_,h=>by rw[show x=y from h]
 | [x],y::y2::r,_,_,hx,_,h=>by
  have h:x=y++c::JL c (y2::r):=h;exact absurd (by rw[h];exact z8 _ (zJ ..)) (hx x (zJ ..))
 | x::x2::r,[y],_,_,_,hy,h=>by
  have h:x++c::JL c (x2::r)=y:=h;exact absurd (by rw[<- h];exact z8 _ (zJ ..)) (hy y (zJ ..))
 | x::x2::r,y::y2::s,_,_,hx,hy,h=>by
  have h:x++c::JL c (x2::r)=y++c::JL c (y2::s):=h;obtain⟨e1,e2⟩:=zkW (hx x (zJ ..)) (hy y (zJ ..)) h;have:=T4 (by simp) (by simp) (fun z hz=>hx z (zG _ hz)) (fun z hz=>hy z (zG _ hz)) e2;rw[e1,this]
theorem Il:∀{a b:List Str},a.map cpl=b.map cpl->a=b
 | [],[],_=>rfl
 | [],_::_,h=>by simp at h
 | _::_,[],h=>by simp at h
 | x::a,y::b,h=>by
  obtain⟨h1,h2⟩:=Vb h;rw[Vh h1,Il h2]
theorem Ly (x y:Str):Txt.split x y≠[]:=by
 unfold Txt.split;split
 .simp
 .split
  .simp
  .rw[gB];obtain⟨p,r,e⟩:=StrLaws.partsFrom_ne x y.length 0 (jB x y 0 x.length (x.length+1));rw[e];simp
abbrev sp:Str:=" "
theorem zds:sp=⟨#[32]⟩:=by decide +kernel
theorem Bc (y:Str) (ws:List Str):Txt.join y ws=zd0 y ws:=by
 unfold Txt.join;rw[StrLaws.glued_eq_join]
def Vs (x:Str):Prop:=32 ∉ cpl x
theorem WW {ws:List Str} (hn:ws≠[]) (hw:∀w∈ws,Vs w):Txt.split (Txt.join sp ws) sp=ws:=by
 have h1:=Ab (Txt.join sp ws) sp;rw[Bc,zds] at h1;rw[Bc,zds];have h2:=congrArg cpl h1;rw[nF,nF] at h2;refine Il (T4 (c:=32) ?_ ?_ ?_ ?_ h2)
 .intro z;exact Ly _ _ (List.map_eq_nil_iff.mp z)
 .intro z;exact hn (List.map_eq_nil_iff.mp z)
 .intro x hx;obtain⟨p,hp,rfl⟩:=List.mem_map.mp hx;exact Ac _ 32 p hp
 .intro x hx;obtain⟨p,hp,rfl⟩:=List.mem_map.mp hx;exact hw p hp
theorem zfW (x:Str):∀w∈Txt.split x sp,Vs w:=by
 rw[zds];exact Ac x 32
theorem zcK (x:Str):Txt.join sp (Txt.split x sp)=x:=by rw[Bc,Ab]
structure Num (most:Nat) (x:Str):Prop where
 ne:1<=x.length
 le:x.length<=most
 dig:pW (cpl x)
 led:(cpl x)[0]?=some 48->cpl x=[48]
noncomputable def xN (x:Str):Int:=((digitsVal (cpl x):Nat):Int)
theorem Jw (x:Str):0<=xN x:=cF _
theorem Num.ne' {most:Nat}{x:Str} (h:Num most x):cpl x≠[]:=fun z=>by
 have:=h.ne;rw[<- wj,z] at this;exact absurd this (by decide)
theorem zaC:∀(cs:List Nat),pW cs->digitsVal cs<10 ^ cs.length:=by
 intro cs;have key:∀(cs:List Nat) (a:Nat),pW cs->cs.foldl (fun acc c=>acc*10+(c-48)) a<(a+1)*10 ^ cs.length:=by
  intro cs
  induction cs with
  | nil=>intro a _;simp
  | cons c r ih=>
   intro a h;have hc:=h.head;have:=ih (a*10+(c-48)) h.tail;rw[Vp,qx,lr];refine qy this ?_;rw[Q0 (10 ^ r.length) 10,<- Yz];exact Z9 _ (by omega)
 intro h;have:=key cs 0 h;simpa [digitsVal] using this
theorem zhk {most:Nat}{x:Str} (h:Num most x):xN x<10 ^ most:=by
 have h1:=zaC _ h.dig;have h2:10 ^ (cpl x).length<=10 ^ most:=oY (by decide) (by rw[wj];exact h.le);unfold xN;have:digitsVal (cpl x)<10 ^ most:=by omega
 exact_mod_cast this
noncomputable def txt (n:Int):Str:=Qc (toString n)
theorem zqO (s:String):cpl (Qc s)=s.toList.map Ml:=by
 exact Hd s
theorem pG (m:Nat):cpl (txt ((m:Nat):Int))=(wk 10 m).map Ml:=by
 unfold txt;rw[zqO];show (Nat.repr m).toList.map Ml=_;rw[Nat.toList_repr]
theorem O8 (a b:List Nat):digitsVal (a++b)=b.foldl (fun acc c=>acc*10+(c-48)) (digitsVal a):=by
 unfold digitsVal;rw[Cd]
theorem fH:∀d:Nat,d<10->(fu d).toNat=48+d:=by decide
theorem zfl {m:Nat}:∀ch∈wk 10 m,48<=ch.toNat/\ch.toNat<=57:=by
 induction m using Vr with
 | _ m ih=>
  intro ch hch;by_cases h:m<10
  .rw[kI h] at hch;rw[List.mem_singleton.mp hch,fH m h];omega
  .have hm:m % 10<10:=W6 m (by decide);have t:wk 10 (m / 10)++wk 10 (m % 10)=wk 10 (10*(m / 10)+m % 10):=Zb (by decide) (by omega) hm;rw[aC] at t;rw[<- t] at hch;rcases List.mem_append.mp hch with z | z
   .exact ih (m / 10) (by omega) ch z
   .rw[kI hm] at z;rw[List.mem_singleton.mp z,fH _ hm];omega
theorem Ha (m:Nat):pW (cpl (txt ((m:Nat):Int))):=by
 intro c hc;rw[pG] at hc;obtain⟨ch,hch,e⟩:=List.mem_map.mp hc;rw[<- e];exact zfl ch hch
theorem zoS (m:Nat):digitsVal (cpl (txt ((m:Nat):Int)))=m:=by
 rw[pG]
 induction m using Vr with
 | _ m ih=>
  by_cases h:m<10
  .rw[kI h];show 0*10+((fu m).toNat-48)=m;rw[fH m h];omega
  .have hm:m % 10<10:=W6 m (by decide);have t:wk 10 (m / 10)++wk 10 (m % 10)=wk 10 (10*(m / 10)+m % 10):=Zb (by decide) (by omega) hm;rw[aC] at t;rw[<- t,jw,kI hm,O8,ih (m / 10) (by omega)];show m / 10*10+((fu (m % 10)).toNat-48)=m;rw[fH _ hm];omega
theorem zmh (m:Nat):1<=(cpl (txt ((m:Nat):Int))).length:=by
 cases h:cpl (txt ((m:Nat):Int)) with
 | nil=>
  rw[pG] at h;have:=List.map_eq_nil_iff.mp h;exact absurd this (Nat.toDigits_ne_nil)
 | cons a r=>exact En (qX _)
theorem zoQ (m:Nat) (h:(cpl (txt ((m:Nat):Int)))[0]?=some 48):m=0:=by
 rw[pG] at h
 induction m using Vr with
 | _ m ih=>
  by_cases hm10:m<10
  .rw[kI hm10] at h;have:(fu m).toNat=48:=by simpa using h
   rw[fH m hm10] at this;omega
  .have hm:m % 10<10:=W6 m (by decide);have t:wk 10 (m / 10)++wk 10 (m % 10)=wk 10 (10*(m / 10)+m % 10):=Zb (by decide) (by omega) hm;rw[aC] at t;rw[<- t,jw,qP (by rw[<- pG];exact zmh _)] at h;have:=ih (m / 10) (by omega) h;omega
theorem zoR {m k:Nat} (hk:1<=k) (h:m<10 ^ k):(cpl (txt ((m:Nat):Int))).length<=k:=by
 rw[pG,zf]
 induction k generalizing m with
 | zero=>exact absurd hk (by decide)
 | succ k ih=>
  by_cases hm10:m<10
  .rw[kI hm10];exact En (qX _)
  .have hm:m % 10<10:=W6 m (by decide);have t:wk 10 (m / 10)++wk 10 (m % 10)=wk 10 (10*(m / 10)+m % 10):=Zb (by decide) (by omega) hm;rw[aC] at t;rw[<- t,zM,kI hm,yz];have h2:m / 10<10 ^ k:=Nat.div_lt_of_lt_mul (by rw[lr,Q0] at h;exact h);have k1:1<=k:=by
    cases k with
    | zero=>simp at h2;omega
    | succ k=>omega
   have:=ih k1 h2;omega
theorem Xn {n:Int}{k:Nat} (hk:1<=k) (h0:0<=n) (h1:n<10 ^ k):Num k (txt n):=by
 obtain⟨m,rfl⟩:=V6 h0;have hm:m<10 ^ k:=by exact_mod_cast h1
 refine⟨by rw[<- wj];exact zmh m,by rw[<- wj];exact zoR hk hm,Ha m,fun z=>?_⟩;have:=zoQ m z;subst this;rfl
theorem wZ {n:Int} (h0:0<=n):xN (txt n)=n:=by
 obtain⟨m,rfl⟩:=V6 h0;unfold xN;rw[zoS]
theorem zmm {x:Str} (h:pW (cpl x)):Vs x:=fun z=>by
 have:=h 32 z;omega
theorem zmn {n:Int} (h0:0<=n):Vs (txt n):=by
 obtain⟨m,rfl⟩:=V6 h0;exact zmm (Ha m)
theorem num_reads {most:Nat}{x:Str} (h:Num most x) (hm:most<=4300):MF x=some (xN x):=intText_digits h.dig h.ne' (qd h.le hm)
end L2
namespace L2
open PySem PySem.Spec PyProof.Rows
theorem Ef:∀(ws:List Str) (k:Nat),0<k->Vals (ws.map V.str) (strsFrom k ws)
 | [],_,_=>.nil
 | x::r,k,h=>.cons ⟨⟨k,Nat.pos_iff_ne_zero.mp h⟩,rfl⟩ (Ef r (k+1) (jJ _))
section
variable {X:Cx}
def zrv:V->List V->Hp->VK->Prop:=fun x vs H Q=>∃a b,x=.str a/\vs=[.str b]/\(b.length == 0)=false/\a.length+2<=sizeLine/\∀l,H l=none->Q (.ref l) (upd H l (.lst ((Txt.split a b).map V.str)))
theorem zcT:MtR X "str.split" zrv:=by
 intro zj s σ H v vs u us Q I rx rs h;obtain⟨x,y,rfl,rfl,hy,hz,q⟩:=h;obtain⟨t,rfl⟩:=rx;obtain⟨u1,rfl,w1⟩:=vals1 rs;obtain⟨t',rfl⟩:=w1;have hn:(Qj x (jB x y 0 x.length (x.length+1)) y.length).length<=sizeLine:=by
  have e1:=mD x y 0 x.length (x.length+1);rw[length_partsBetween];omega
 have q:=q _ I.fresh;cases h1:(decide (x.length<y.length) || decide (wA x<wA y)) with
 | false=>
  cases hf:(jB x y 0 x.length (x.length+1)).isEmpty with
  | false=>
   have e:Txt.split x y=Qj x (jB x y 0 x.length (x.length+1)) y.length:=by
    unfold Txt.split;rw[h1,hf];rfl
   rw[e] at q;exact Qm vC (Zd _ _ _) wU (Vc _ _) (meets_str_split_sep x y t.1 t'.1 h1 hy hf (by omega) hn) ⟨.ref _,_,I.lnew (ht:=qy I.tk (gk _ _)) (Ef _ _ I.tk) (by rw[zf];exact hn),rfl,q⟩
  | true=>
   have e:Txt.split x y=[x]:=by
    unfold Txt.split;rw[h1,hf];rfl
   rw[e] at q;exact Qm vC (Zd _ _ _) wU (Vc _ _) (meets_str_split_not_found x y t.1 t'.1 h1 hy hf) ⟨.ref _,_,I.lnew (its:=[.str x t.1]) (ys:=[V.str x]) (t':=s.toks) (.cons ⟨t,rfl⟩ .nil) (by show 1<=sizeLine;decide),rfl,q⟩
 | true=>
  have e:Txt.split x y=[x]:=by
   unfold Txt.split;rw[h1];rfl
  rw[e] at q;exact Qm vC (Zd _ _ _) wU (Vc _ _) (meets_str_split_cannot_occur x y t.1 t'.1 h1) ⟨.ref _,_,I.lnew (its:=[.str x t.1]) (ys:=[V.str x]) (t':=s.toks) (.cons ⟨t,rfl⟩ .nil) (by show 1<=sizeLine;decide),rfl,q⟩
def zi9:V->List V->Hp->VK->Prop:=fun x vs H Q=>∃a b k,x=.str a/\vs=[.str b,.int k]/\(decide (k < -(2 ^ 63:Int)) || decide (k ≥ 2 ^ 63))=false/\(b.length == 0)=false/\a.length+2<=sizeLine/\(Txt.splitMax a b k).length<=sizeLine/\∀l,H l=none->Q (.ref l) (upd H l (.lst ((Txt.splitMax a b k).map V.str)))
theorem zcU:MtR X "str.split" zi9:=by
 intro zj s σ H v vs u us Q I rx rs h;obtain⟨x,y,k,rfl,rfl,hk,hy,hz,hn,q⟩:=h;obtain⟨t,rfl⟩:=rx;obtain⟨u1,u2,rfl,w1,w2⟩:=vals2 rs;obtain⟨t',rfl⟩:=w1;obtain⟨t2,rfl⟩:=w2;have q:=q _ I.fresh;cases h1:(decide (x.length<y.length) || decide (wA x<wA y)) with
 | false=>
  cases hf:(jB x y 0 x.length (limitOf x k)).isEmpty with
  | false=>
   have e:Txt.splitMax x y k=Qj x (jB x y 0 x.length (limitOf x k)) y.length:=by
    unfold Txt.splitMax;rw[h1,hf];rfl
   rw[e] at q hn;exact Qm vC (Zd _ _ _) wU (Vd _ _ _) (meets_str_split_sep_max x y k t.1 t'.1 t2 hk h1 hy hf (by omega) hn) ⟨.ref _,_,I.lnew (ht:=qy I.tk (gk _ _)) (Ef _ _ I.tk) (by rw[zf];exact hn),rfl,q⟩
  | true=>
   have e:Txt.splitMax x y k=[x]:=by
    unfold Txt.splitMax;rw[h1,hf];rfl
   rw[e] at q;exact Qm vC (Zd _ _ _) wU (Vd _ _ _) (meets_str_split_max_not_found x y k t.1 t'.1 t2 hk h1 hy hf) ⟨.ref _,_,I.lnew (its:=[.str x t.1]) (ys:=[V.str x]) (t':=s.toks) (.cons ⟨t,rfl⟩ .nil) (by show 1<=sizeLine;decide),rfl,q⟩
 | true=>
  have e:Txt.splitMax x y k=[x]:=by
   unfold Txt.splitMax;rw[h1];rfl
  rw[e] at q;exact Qm vC (Zd _ _ _) wU (Vd _ _ _) (meets_str_split_max_cannot_occur x y k t.1 t'.1 t2 hk h1) ⟨.ref _,_,I.lnew (its:=[.str x t.1]) (ys:=[V.str x]) (t':=s.toks) (.cons ⟨t,rfl⟩ .nil) (by show 1<=sizeLine;decide),rfl,q⟩
theorem zrq {k:Nat}{C:zm}{x:Str}{ps:List Str}{sp:Sp}{p pos:Pos} (F:MkX CX0 X.prog X.w X.K X.mg X.base k C ps sp) (hr:JG (k+1) X.A) (hg:Gl X x) (hm:X.mg x=some (.ref C)) (hdb:(x == ("__debug__":Str))=false:=by decide) :
  PE X (.Call (.Name x p) [] [] pos) (tMk C sp zrM):=by
 obtain⟨f,fd,F,M,b⟩:=F;intro zj s σ H Q I h;refine ZK (pM I hg hm ?_ hdb);exact W.callWith_K0 I.kIn M.kp (zlX (us:=[]) (vs:=[]) M F hr b (fun _ _ _ _ _ z=>z.elim) I .nil h)
theorem TQ:VP X (.type "int") (fun xs H Q=>∃x n,xs=[.str x]/\MF x=some n/\x.length<=640/\Q (.int n) H):=by
 intro zj s σ H xs us Q I r h;obtain⟨x,n,rfl,hn,hl,q⟩:=h;obtain⟨u,rfl,t,rfl⟩:=vals1 r;exact W.KIN.call_text hn hl ⟨.int n,H,I.tok _,⟨_,rfl⟩,q⟩
def zyI (t:TE):TE:=fun σ H Q=>t σ H fun x H1=>∃i,x=.int i/\i.natAbs.log2<1920/\Q (.str (toString i)) H1
theorem zaT {e:jD}{t:TE}{pos:Pos} (h:PE X e t):PE X (.FormattedValue e (-1) none pos) (zyI t):=by
 intro zj s σ H Q I hw;refine FormattedValue_plain (thn (h zj s σ H _ I hw) fun v s1 ⟨x,H1,I1,r1,q1⟩=>?_);obtain⟨i,rfl,hi,q⟩:=q1;obtain⟨t',rfl⟩:=r1;exact formatField_int_small hi ⟨.str _,H1,I1.tok _,⟨⟨_,Nat.succ_ne_zero _⟩,rfl⟩,q⟩
noncomputable def tPs:List TE->Str->TE
 | [],acc=>fun _ H Q=>acc.length<=sizeLine/\Q (.str acc) H
 | t::ts,acc=>fun σ H Q=>t σ H fun x H1=>∃y,x=.str y/\(acc++y).length<=sizeLine/\tPs ts (acc++y) σ H1 Q
inductive PJs (X:Cx):List jD->List TE->Prop where
 | nil:PJs X [] []
 | cons {e:jD}{t:TE}{es:List jD}{ts:List TE} (h:PE X e t) (r:PJs X es ts):PJs X (e::es) (t::ts)
theorem zlO:∀{es:List jD}{ts:List TE},PJs X es ts->∀(acc:Str) (zj:List (zm×Obj)) (s:zp) (σ:St) (H:Hp) (Q:VK),Inv X zj σ H s->tPs ts acc σ H Q ->
  wpAny (model X.prog X.w) X.A (joinParts acc (evalEach es X.env)) (EP X zj σ Q) X.xe s
 | _,_,.nil,acc,zj,s,σ,H,Q,I,h=>joinParts_nil ⟨.str acc,H,I.tok _,⟨⟨_,I.nz⟩,rfl⟩,h.2⟩ h.1
 | _,_,.cons h r,acc,zj,s,σ,H,Q,I,hw=>by
  refine joinParts_cons (thn (h zj s σ H _ I hw) fun v s1 ⟨x,H1,I1,r1,q1⟩=>?_);obtain⟨y,rfl,hz,q⟩:=q1;obtain⟨t',rfl⟩:=r1;exact⟨hz,zlO r (acc++y) zj s1 σ H1 Q I1 q⟩
theorem zpS {e1 e2:jD}{es:List jD}{ts:List TE}{pos:Pos} (h:PJs X (e1::e2::es) ts):PE X (.JoinedStr (e1::e2::es) pos) (tPs ts W7):=
 fun zj s σ H Q I hw=>JoinedStr_many (zlO h W7 zj s σ H Q I hw)
end
end L2
namespace SB
open PySem PyProof.Rows
abbrev kx (p:ql):Int:=numOf p.1
abbrev LE (x y:ql):Prop:=kx x<=kx y
structure MI (W out U V:List ql):Prop where
 so:out.Pairwise LE
 su:U.Pairwise LE
 sv:V.Pairwise LE
 ou:∀x∈out,∀y∈U,LE x y
 ov:∀x∈out,∀y∈V,LE x y
 pm:(out++U++V).Perm W
theorem MI.takeU {W out U1 U2 V:List ql} (h:MI W out (U1++U2) V) (c:∀x∈U1,∀y∈V,LE x y):MI W (out++U1) U2 V:=by
 obtain⟨so,su,sv,ou,ov,pm⟩:=h;have s:=List.pairwise_append.mp su;refine⟨List.pairwise_append.mpr ⟨so,s.1,fun x hx y hy=>ou x hx y (vU _ hy)⟩,s.2.1,sv,fun x hx y hy=>?_,fun x hx y hy=>?_,by simpa only[qQ] using pm⟩
 .rcases List.mem_append.mp hx with z | z
  .exact ou x z y (z8 _ hy)
  .exact s.2.2 x z y hy
 .rcases List.mem_append.mp hx with z | z
  .exact ov x z y hy
  .exact c x z y hy
theorem MI.takeV {W out U V1 V2:List ql} (h:MI W out U (V1++V2)) (c:∀x∈V1,∀y∈U,LE x y):MI W (out++V1) U V2:=by
 obtain⟨so,su,sv,ou,ov,pm⟩:=h;have s:=List.pairwise_append.mp sv;refine⟨List.pairwise_append.mpr ⟨so,s.1,fun x hx y hy=>ov x hx y (vU _ hy)⟩,su,s.2.1,fun x hx y hy=>?_,fun x hx y hy=>?_,?_⟩
 .rcases List.mem_append.mp hx with z | z
  .exact ou x z y hy
  .exact c x z y hy
 .rcases List.mem_append.mp hx with z | z
  .exact ov x z y (z8 _ hy)
  .exact s.2.2 x z y hy
 .refine Vo ?_ pm;simp only[qQ];refine Js _ ?_;rw[<- qQ,<- qQ];exact QX _ Jt
structure Mg (W m:List ql):Prop where
 so:m.Pairwise LE
 pm:m.Perm W
theorem MI.fin {W out U V:List ql} (h:MI W out U V) (c:∀x∈U,∀y∈V,LE x y):Mg W (out++U++V):=by
 obtain⟨so,su,sv,ou,ov,pm⟩:=h;refine⟨List.pairwise_append.mpr ⟨List.pairwise_append.mpr ⟨so,su,ou⟩,sv,fun x hx y hy=>?_⟩,pm⟩;rcases List.mem_append.mp hx with z | z
 .exact ov x z y hy
 .exact c x z y hy
theorem MI.fin' {W out U V:List ql} (h:MI W out U V) (c:∀x∈V,∀y∈U,LE x y):Mg W (out++V++U):=by
 obtain⟨so,su,sv,ou,ov,pm⟩:=h;refine⟨List.pairwise_append.mpr ⟨List.pairwise_append.mpr ⟨so,sv,ov⟩,su,fun x hx y hy=>?_⟩,Vo ?_ pm⟩
 .rcases List.mem_append.mp hx with z | z
  .exact ou x z y hy
  .exact c x z y hy
 .simp only[qQ];exact Js _ Jt
structure MJ (W U V O:List ql):Prop where
 so:O.Pairwise LE
 su:U.Pairwise LE
 sv:V.Pairwise LE
 uo:∀x∈U,∀y∈O,LE x y
 vo:∀x∈V,∀y∈O,LE x y
 pm:(U++V++O).Perm W
theorem MJ.takeU {W U1 U2 V O:List ql} (h:MJ W (U1++U2) V O) (c:∀x∈V,∀y∈U2,LE x y):MJ W U1 V (U2++O):=by
 obtain⟨so,su,sv,uo,vo,pm⟩:=h;have s:=List.pairwise_append.mp su;refine⟨List.pairwise_append.mpr ⟨s.2.1,so,fun x hx y hy=>uo x (z8 _ hx) y hy⟩,s.1,sv,fun x hx y hy=>?_,fun x hx y hy=>?_,?_⟩
 .rcases List.mem_append.mp hy with z | z
  .exact s.2.2 x hx y z
  .exact uo x (vU _ hx) y z
 .rcases List.mem_append.mp hy with z | z
  .exact c x hx y z
  .exact vo x hx y z
 .refine Vo ?_ pm;simp only[qQ];refine Js _ ?_;rw[<- qQ,<- qQ];exact QX _ Jt
theorem MJ.takeV {W U V1 V2 O:List ql} (h:MJ W U (V1++V2) O) (c:∀x∈U,∀y∈V2,LE x y):MJ W U V1 (V2++O):=by
 obtain⟨so,su,sv,uo,vo,pm⟩:=h;have s:=List.pairwise_append.mp sv;refine⟨List.pairwise_append.mpr ⟨s.2.1,so,fun x hx y hy=>vo x (z8 _ hx) y hy⟩,su,s.1,fun x hx y hy=>?_,fun x hx y hy=>?_,by simpa only[qQ] using pm⟩
 .rcases List.mem_append.mp hy with z | z
  .exact c x hx y z
  .exact uo x hx y z
 .rcases List.mem_append.mp hy with z | z
  .exact s.2.2 x hx y z
  .exact vo x (vU _ hx) y z
theorem MJ.fin {W U V O:List ql} (h:MJ W U V O) (c:∀x∈U,∀y∈V,LE x y):Mg W (U++V++O):=by
 obtain⟨so,su,sv,uo,vo,pm⟩:=h;refine⟨List.pairwise_append.mpr ⟨List.pairwise_append.mpr ⟨su,sv,c⟩,so,fun x hx y hy=>?_⟩,pm⟩;rcases List.mem_append.mp hx with z | z
 .exact uo x z y hy
 .exact vo x z y hy
theorem MJ.fin' {W U V O:List ql} (h:MJ W U V O) (c:∀x∈V,∀y∈U,LE x y):Mg W (V++U++O):=by
 obtain⟨so,su,sv,uo,vo,pm⟩:=h;refine⟨List.pairwise_append.mpr ⟨List.pairwise_append.mpr ⟨sv,su,c⟩,so,fun x hx y hy=>?_⟩,Vo (QX _ Jt) pm⟩;rcases List.mem_append.mp hx with z | z
 .exact vo x z y hy
 .exact uo x z y hy
section
variable {prog:qz}{w:jd}{A:jg}{E:zc->zp->Prop}{s:zp}
def IK (x:ql):Prop:=∃n t,x.1=.int n t
theorem IK.eq {x:ql} (h:IK x):∃t,x=(.int (kx x) t,x.2):=by
 obtain⟨n,t,e⟩:=h;refine⟨t,?_⟩;unfold kx;rw[e];exact Prod.ext e rfl
theorem zf7 {st:jT}{x y:ql}{Q:Option Bool->jT->Prop} (hk:kindOf st=oneType') (hx:IK x) (hy:IK y) (h:Q (some (decide (kx x<kx y))) st):wpS (model prog w) A E s (lt' x y) Q st:=by
 obtain⟨t,ex⟩:=hx.eq;obtain⟨u,ey⟩:=hy.eq;rw[lt'_eq];refine zQ (bw ?_);rw[hk,ex,ey,keyLt'_oneType];refine zQ (gG (YC (oneLt_int ⟨rfl,?_⟩)));exact qi h
theorem zbi {st:jT}{x y:ql}{Q:Option Bool->jT->Prop} (hk:kindOf st=oneType') (hx:IK x) (hy:IK y) (h:kx x<kx y->Q (some true) st) (h':¬kx x<kx y->Q (some false) st):wpS (model prog w) A E s (lt' x y) Q st:=by
 refine zf7 hk hx hy ?_;by_cases e:kx x<kx y
 .rw[decide_eq_true e];exact h e
 .rw[decide_eq_false e];exact h' e
theorem kO {st:jT}{arr:Array ql}{i:Nat}{x:ql}{Q:ql->jT->Prop} (hx:arr[i]?=some x) (h:Q x st):wpS (model prog w) A E s (elem' arr i) Q st:=by
 rw[elem'_eq,hx];exact qi h
noncomputable def cV:Bool->ql->Array ql->Nat->Nat->Nat->StateT jT Sem (Option Nat):=sortPriv% PySem.Builtin.gallop
noncomputable def Ip:Array ql->Array ql->StateT jT Sem (Array ql):=sortPriv% PySem.Builtin.mergeLo
noncomputable def Io:Array ql->Array ql->StateT jT Sem (Array ql):=sortPriv% PySem.Builtin.mergeHi
noncomputable def pD (left:Bool) (key:ql) (arr:Array ql) (base i:Nat):StateT jT Sem (Option Bool):=do
 let x <- elem' arr (base+i)
 if left then lt' x key else return (<- lt' key x).map (!·)
theorem zfn (left:Bool) (key:ql) (arr:Array ql) (base n hint:Nat):cV left key arr base n hint=(do
 let mut la:=0
 let mut of:=1
 let mut lw:=0
 let mut hg:=0
 let some rg <- pD left key arr base hint | return none
 if rg then
  let mx:=n-hint
  for _ in [0:n] do
   if of ≥ mx then break
   let some mo <- pD left key arr base (hint+of) | return none
   if !mo then break
   la:=of
   of:=2*of+1
  lw:=hint+la+1
  hg:=hint+min of mx
 else
  let mx:=hint+1
  for _ in [0:n] do
   if of ≥ mx then break
   let some fo <- pD left key arr base (hint-of) | return none
   if fo then break
   la:=of
   of:=2*of+1
  lw:=hint+1-min of mx
  hg:=hint-la
 for _ in [0:n] do
  if lw ≥ hg then break
  let m:=lw+(hg-lw) / 2
  let some mo <- pD left key arr base m | return none
  if mo then lw:=m+1 else hg:=m
 return some hg):=rfl
noncomputable def bb (left:Bool) (key:ql) (arr:Array ql) (base i:Nat):Bool:=if left then decide (K arr (base+i)<kx key) else !decide (kx key<K arr (base+i))
theorem iU {st:jT}{left:Bool}{key:ql}{arr:Array ql}{base i:Nat}{Q:Option Bool->jT->Prop} (hk:kindOf st=oneType') (hkey:IK key) (hx:∃x,arr[base+i]?=some x/\IK x) (h:Q (some (bb left key arr base i)) st):wpS (model prog w) A E s (pD left key arr base i) Q st:=by
 obtain⟨x,hx,ix⟩:=hx;unfold pD;refine zQ (kO hx ?_);have e:K arr (base+i)=kx x:=by unfold K;rw[hx]
 cases left with
 | true=>
  rw[if_pos rfl];refine zf7 hk ix hkey ?_;unfold bb at h;rw[e] at h;exact h
 | false=>
  rw[if_neg (by decide)];refine zQ (zf7 hk hkey ix (qi ?_));unfold bb at h;rw[e] at h;exact h
theorem znZ {left:Bool}{key:ql}{arr:Array ql}{base n i j:Nat} (hs:∀i j,i<=j->j<n->K arr (base+i)<=K arr (base+j)) (hij:i<=j) (hj:j<n) (h:bb left key arr base j=true):bb left key arr base i=true:=by
 have:=hs i j hij hj;unfold bb at h ⊢;cases left with
 | true=>
  rw[if_pos rfl,decide_eq_true_eq] at h ⊢;omega
 | false=>
  rw[if_neg (by decide),yX,decide_eq_false_iff_not] at h ⊢;omega
theorem jn2 {α β:Type}{C P:α->β->Prop}{R:Prop} (g:(∀s i,C s i->P s i)->R) (b:∀s i,C s i->P s i):R:=g b
theorem W0 {st:jT}{left:Bool}{key:ql}{arr:Array ql}{base n hint:Nat}{Q:Option Nat->jT->Prop} (hk:kindOf st=oneType') (hkey:IK key) (hA:∀i,i<n->∃x,arr[base+i]?=some x/\IK x) (hs:∀i j,i<=j->j<n->K arr (base+i)<=K arr (base+j)) (hh:hint<n)
  (h:∀k,k<=n->(∀i,i<k->bb left key arr base i=true)->(∀i,k<=i->i<n->bb left key arr base i=false)->Q (some k) st):wpS (model prog w) A E s (cV left key arr base n hint) Q st:=by
 have mono:∀{i j},i<=j->j<n->bb left key arr base j=true->bb left key arr base i=true:=fun a b c=>znZ hs a b c;have mono':∀{i j},i<=j->j<n->bb left key arr base i=false->bb left key arr base j=false:=fun {i j} a b c=>by
  cases hj:bb left key arr base j with
  | false=>rfl
  | true=>rw[mono a b hj] at c;cases c
 rw[zfn];refine zQ (iU hk hkey (hA _ hh) ?_);apply jn2 (C:=fun lw hg=>lw<=hg/\hg<=n/\(∀i,i<lw->bb left key arr base i=true)/\(∀i,hg<=i->i<n->bb left key arr base i=false))
 case g=>
  intro G;cases hb:bb left key arr base hint
  case true=>
   dsimp only;rw[if_pos rfl];refine zQ (Zg (vM (I:=fun x c st'=>st=st'/\∃la of,c=(none,la,of)/\la<of/\x+1<=of/\hint+la<n/\bb left key arr base (hint+la)=true)
    (Q:=fun c st'=>st=st'/\∃la of,c=(none,la,of)/\la<of/\hint+la<n/\bb left key arr base (hint+la)=true/\(of ≥ n-hint∨bb left key arr base (hint+of)=false)) ?s1 ?f1 ⟨rfl,0,1,rfl,by decide,by decide,hh,hb⟩) ?p1)
   case s1=>
    rintro x c st' _ hx ⟨rfl,la,of,rfl,h1,h2,h3,h4⟩;dsimp only;by_cases hge:of ≥ n-hint
    .rw[if_pos hge];exact qi ⟨rfl,_,_,rfl,h1,h3,h4,.inl hge⟩
    .rw[if_neg hge];refine zQ (iU hk hkey (hA _ (by omega)) ?_);cases hb2:bb left key arr base (hint+of) with
     | true=>
      simp only[Yx,xq,if_false];exact qi ⟨rfl,_,_,rfl,by omega,by omega,by omega,hb2⟩
     | false=>
      simp only[Bool.not_false,if_true];exact qi ⟨rfl,_,_,rfl,h1,h3,h4,.inr hb2⟩
   case f1=>
    rintro c st' ⟨rfl,la,of,rfl,h1,h2,h3,h4⟩;exact⟨rfl,_,_,rfl,h1,h3,h4,.inl (by omega)⟩
   rintro c st' ⟨rfl,la,of,rfl,h1,h3,h4,h5⟩;dsimp only;have g1:∀i,i<hint+la+1->bb left key arr base i=true:=fun i hi=>mono (by omega) h3 h4;have g2:∀i,hint+min of (n-hint)<=i->i<n->bb left key arr base i=false:=fun i hi hin=>by
    rcases h5 with z | z
    .omega
    .by_cases y:of ≥ n-hint
     .omega
     .exact mono' (by omega) hin z
   have g3:hint+la+1<=hint+min of (n-hint):=by omega
   have g4:hint+min of (n-hint)<=n:=by omega
   generalize hint+la+1=lw at g1 g3 ⊢;generalize hint+min of (n-hint)=hg at g2 g3 g4 ⊢;exact G lw hg ⟨g3,g4,g1,g2⟩
  case false=>
   dsimp only;rw[if_neg (by decide)];refine zQ (Zg (vM (I:=fun x c st'=>st=st'/\∃la of,c=(none,la,of)/\la<of/\x+1<=of/\la<=hint/\bb left key arr base (hint-la)=false)
    (Q:=fun c st'=>st=st'/\∃la of,c=(none,la,of)/\la<of/\la<=hint/\bb left key arr base (hint-la)=false/\(of ≥ hint+1∨bb left key arr base (hint-of)=true)) ?s2 ?f2 ⟨rfl,0,1,rfl,by decide,by decide,by omega,hb⟩) ?p2)
   case s2=>
    rintro x c st' _ hx ⟨rfl,la,of,rfl,h1,h2,h3,h4⟩;dsimp only;by_cases hge:of ≥ hint+1
    .rw[if_pos hge];exact qi ⟨rfl,_,_,rfl,h1,h3,h4,.inl hge⟩
    .rw[if_neg hge];refine zQ (iU hk hkey (hA _ (by omega)) ?_);cases hb2:bb left key arr base (hint-of) with
     | true=>
      simp only[if_true];exact qi ⟨rfl,_,_,rfl,h1,h3,h4,.inr hb2⟩
     | false=>
      simp only[xq,if_false];exact qi ⟨rfl,_,_,rfl,by omega,by clear hh hx;omega,by omega,hb2⟩
   case f2=>
    rintro c st' ⟨rfl,la,of,rfl,h1,h2,h3,h4⟩;exact⟨rfl,_,_,rfl,h1,h3,h4,.inl (by omega)⟩
   rintro c st' ⟨rfl,la,of,rfl,h1,h3,h4,h5⟩;dsimp only;have g1:∀i,i<hint+1-min of (hint+1)->bb left key arr base i=true:=fun i hi=>by
    rcases h5 with z | z
    .clear hh h1 h3;omega
    .by_cases y:of ≥ hint+1
     .clear hh h1 h3;omega
     .exact mono (by clear hh h1 h3;omega) (by omega) z
   have g2:∀i,hint-la<=i->i<n->bb left key arr base i=false:=fun i hi hin=>mono' hi hin h4;have g3:hint+1-min of (hint+1)<=hint-la:=by clear hh;omega
   have g4:hint-la<=n:=by clear h1 g3;omega
   generalize hint+1-min of (hint+1)=lw at g1 g3 ⊢;generalize hint-la=hg at g2 g3 g4 ⊢;exact G lw hg ⟨g3,g4,g1,g2⟩
 case b=>
  rintro lw hg ⟨g3,g4,g1,g2⟩;refine zQ (Zg (vM (I:=fun x c st''=>st''=st/\∃lw hg,c=(none,lw,hg)/\lw<=hg/\hg<=n/\hg-lw<=n-x/\(∀i,i<lw->bb left key arr base i=true)/\(∀i,hg<=i->i<n->bb left key arr base i=false))
   (Q:=fun c st''=>st''=st/\∃lw hg,c=(none,lw,hg)/\hg<=n/\(∀i,i<hg->bb left key arr base i=true)/\(∀i,hg<=i->i<n->bb left key arr base i=false)) ?_ ?_ ⟨rfl,lw,hg,rfl,g3,g4,by omega,g1,g2⟩) ?_)
  .rintro x c st'' _ hx ⟨rfl,lw,hg,rfl,hl,hn,hm,h1,h2⟩;dsimp only;by_cases hge:lw ≥ hg
   .rw[if_pos hge];have:lw=hg:=by omega
    subst this;exact qi ⟨rfl,_,_,rfl,hn,h1,h2⟩
   .rw[if_neg hge];refine zQ (iU hk hkey (hA _ (by clear hh g3 g4;omega)) ?_);cases hb:bb left key arr base (lw+(hg-lw) / 2) with
    | true=>
     simp only[if_true];exact qi ⟨rfl,_,_,rfl,by clear hh g3 g4 hx hn;omega,hn,by clear hh g3 g4;omega,fun i hi=>mono (by omega) (by clear hh g3 g4;omega) hb,h2⟩
    | false=>
     simp only[xq,if_false];exact qi ⟨rfl,_,_,rfl,by omega,by clear hh g3 g4 hm;omega,by omega,h1,fun i hi hin=>mono' hi hin hb⟩
  .rintro c st'' ⟨rfl,lw,hg,rfl,hl,hn,hm,h1,h2⟩;have:lw=hg:=by clear hh g3 g4 hn;omega
   subst this;exact⟨rfl,_,_,rfl,hn,h1,h2⟩
  .rintro c st'' ⟨rfl,lw,hg,rfl,hn,h1,h2⟩;exact qi (h hg hn h1 h2)
end
noncomputable def Uj:Nat->StateT jT Sem Unit:=sortPriv% PySem.Builtin.setMinGallop
theorem zl0 (g:Nat):Uj g=modify fun x=>zgD (kindOf x) (qT x) (jC x) g (failedOf x):=rfl
theorem zcQ (a b:Array ql):Ip a b=(do
 rule "list.sort.merge-lo"
 let tt:=a.size+b.size
 let dn (o:Array ql) (i j:Nat):=o++a.extract i a.size++b.extract j b.size
 let lA (o:Array ql) (i j:Nat):=o++b.extract j b.size++a.extract i a.size
 let mut o:Array ql:=#[<- elem' b 0]
 let mut ia:=0
 let mut ib:=1
 if ib == b.size then return dn o ia ib
 if ia+1 == a.size then return lA o ia ib
 let mut mg:=gallopOf (<- get)
 for _ in [0:tt] do
  let mut ac:=0
  let mut bc:=0
  for _ in [0:tt] do
   let some bW <- lt' (<- elem' b ib) (<- elem' a ia) | return dn o ia ib
   if bW then
    o:=o.push (<- elem' b ib)
    ib:=ib+1
    bc:=bc+1
    ac:=0
    if ib == b.size then return dn o ia ib
    if bc ≥ mg then break
   else
    o:=o.push (<- elem' a ia)
    ia:=ia+1
    ac:=ac+1
    bc:=0
    if ia+1 == a.size then return lA o ia ib
    if ac ≥ mg then break
  rule "list.sort.gallop"
  mg:=mg+1
  for _ in [0:tt] do
   if mg > 1 then mg:=mg-1
   Uj mg
   let some k <- cV false (<- elem' b ib) a ia (a.size-ia) 0 | return dn o ia ib
   ac:=k
   if k > 0 then
    o:=o++a.extract ia (ia+k)
    ia:=ia+k
    if ia+1 == a.size then return lA o ia ib
    if ia == a.size then return dn o ia ib
   o:=o.push (<- elem' b ib)
   ib:=ib+1
   if ib == b.size then return dn o ia ib
   let some k <- cV true (<- elem' a ia) b ib (b.size-ib) 0 | return dn o ia ib
   bc:=k
   if k > 0 then
    o:=o++b.extract ib (ib+k)
    ib:=ib+k
    if ib == b.size then return dn o ia ib
   o:=o.push (<- elem' a ia)
   ia:=ia+1
   if ia+1 == a.size then return lA o ia ib
   if ac<7 && bc<7 then break
  mg:=mg+1
  Uj mg
 unsupported "internal:list.sort.merge-bound"):=rfl
theorem zcP (a b:Array ql):Io a b=(do
 rule "list.sort.merge-hi"
 let tt:=a.size+b.size
 let dn (o:Array ql) (i j:Nat):=a.extract 0 i++b.extract 0 j++o.reverse
 let fB (o:Array ql) (i j:Nat):=b.extract 0 j++a.extract 0 i++o.reverse
 let mut na:=a.size-1
 let mut nb:=b.size
 let mut o:Array ql:=#[<- elem' a na]
 if na == 0 then return dn o na nb
 if nb == 1 then return fB o na nb
 let mut mg:=gallopOf (<- get)
 for _ in [0:tt] do
  let mut ac:=0
  let mut bc:=0
  for _ in [0:tt] do
   let some aW <- lt' (<- elem' b (nb-1)) (<- elem' a (na-1)) | return dn o na nb
   if aW then
    na:=na-1
    o:=o.push (<- elem' a na)
    ac:=ac+1
    bc:=0
    if na == 0 then return dn o na nb
    if ac ≥ mg then break
   else
    nb:=nb-1
    o:=o.push (<- elem' b nb)
    bc:=bc+1
    ac:=0
    if nb == 1 then return fB o na nb
    if bc ≥ mg then break
  rule "list.sort.gallop"
  mg:=mg+1
  for _ in [0:tt] do
   if mg > 1 then mg:=mg-1
   Uj mg
   let some p <- cV false (<- elem' b (nb-1)) a 0 na (na-1) | return dn o na nb
   let k:=na-p
   ac:=k
   if k > 0 then
    o:=o++(a.extract p na).reverse
    na:=p
    if na == 0 then return dn o na nb
   nb:=nb-1
   o:=o.push (<- elem' b nb)
   if nb == 1 then return fB o na nb
   let some p <- cV true (<- elem' a (na-1)) b 0 nb (nb-1) | return dn o na nb
   let k:=nb-p
   bc:=k
   if k > 0 then
    o:=o++(b.extract p nb).reverse
    nb:=p
    if nb == 1 then return fB o na nb
    if nb == 0 then return dn o na nb
   na:=na-1
   o:=o.push (<- elem' a na)
   if na == 0 then return dn o na nb
   if ac<7 && bc<7 then break
  mg:=mg+1
  Uj mg
 unsupported "internal:list.sort.merge-bound"):=rfl
structure Pre (a b:Array ql):Prop where
 ka:∀x∈a.toList,IK x
 kb:∀x∈b.toList,IK x
 sa:a.toList.Pairwise LE
 sb:b.toList.Pairwise LE
 na:0<a.size
 nb:0<b.size
 lo:∀x,b[0]?=some x->∀y∈a.toList,LE x y
 hi:∀x,a[a.size-1]?=some x->∀y∈b.toList,LE y x
def GS (st st':jT):Prop:=kindOf st'=kindOf st/\qT st'=qT st/\jC st'=jC st/\failedOf st'=failedOf st
theorem GS.refl (st:jT):GS st st:=⟨rfl,rfl,rfl,rfl⟩
theorem GS.trans {a b c:jT} (h:GS a b) (h':GS b c):GS a c:=⟨h'.1.trans h.1,h'.2.1.trans h.2.1,h'.2.2.1.trans h.2.2.1,h'.2.2.2.trans h.2.2.2⟩
theorem zfc {a:Array ql}{i:Nat}{x:ql} (h:a[i]?=some x):a.toList[i]?=some x:=by rw[xm];exact h
theorem zpJ {a:Array ql}{i:Nat}{x:ql} (h:a[i]?=some x):a.toList.drop i=x::a.toList.drop (i+1):=by
 obtain⟨hi,e⟩:=List.getElem?_eq_some_iff.mp (zfc h);rw[cQ hi,e]
theorem zpK {a:Array ql}{i:Nat}{x:ql} (h:a[i]?=some x):a.toList.take (i+1)=a.toList.take i++[x]:=by
 rw[Z8,zfc h];rfl
theorem znX {a:Array ql}{j:Nat}{y:ql} (h:y∈a.toList.drop j):∃i,j<=i/\i<a.size/\a[i]?=some y/\kx y=K a i:=by
 obtain⟨k,hk⟩:=vA h;rw[yE] at hk;have hl:=(List.getElem?_eq_some_iff.mp hk).1;rw[zW] at hl;rw[xm] at hk;exact⟨j+k,by omega,hl,hk,by unfold K;rw[hk]⟩
theorem zg1 {a:Array ql}{j:Nat}{y:ql} (h:y∈a.toList.take j):∃i,i<j/\i<a.size/\a[i]?=some y/\kx y=K a i:=by
 obtain⟨k,hk⟩:=vA h;have hl:=(List.getElem?_eq_some_iff.mp hk).1;rw[xK,zW] at hl;rw[VF,if_pos (by omega),xm] at hk;exact⟨k,by omega,by omega,hk,by unfold K;rw[hk]⟩
theorem pC {a:Array ql} (h:a.toList.Pairwise LE){i j:Nat} (hij:i<=j) (hj:j<a.size):K a i<=K a j:=by
 rcases ZG hij with z | z
 .have hi:i<a.size:=by omega
  have e1:K a i=kx a[i]:=K_eq hi;have e2:K a j=kx a[j]:=K_eq hj;rw[e1,e2];have:=List.pairwise_iff_getElem.mp h i j (by rw[zW];omega) (by rw[zW];omega) z;exact this
 .subst z;exact jl _
theorem V0 {a:Array ql} (h:∀x∈a.toList,IK x){i:Nat} (hi:i<a.size):∃x,a[i]?=some x/\IK x:=⟨a[i],getElem?_pos _ i hi,h _ (by simp)⟩
section
variable {W V:List ql}{o a b:Array ql}{ia ib k:Nat}{x:ql}
theorem zlS (h:MI W o.toList (a.toList.drop ia) V) (hx:a[ia]?=some x) (c:∀y∈V,LE x y):MI W (o.push x).toList (a.toList.drop (ia+1)) V:=by
 rw[zpJ hx] at h;rw[JC];exact MI.takeU (U1:=[x]) h fun z hz y hy=>by rw[List.mem_singleton.mp hz];exact c y hy
theorem zfH (h:MI W o.toList V (b.toList.drop ib)) (hx:b[ib]?=some x) (c:∀y∈V,LE x y):MI W (o.push x).toList V (b.toList.drop (ib+1)):=by
 rw[zpJ hx] at h;rw[JC];exact MI.takeV (V1:=[x]) h fun z hz y hy=>by rw[List.mem_singleton.mp hz];exact c y hy
theorem DY {a:Array ql}{i k:Nat}{z:ql} (hz:z∈(a.toList.drop i).take k):∃j,j<k/\i+j<a.size/\kx z=K a (i+j):=by
 obtain⟨j,hj⟩:=vA hz;have hl:=(List.getElem?_eq_some_iff.mp hj).1;rw[xK,yF,zW] at hl;rw[VF,if_pos (by omega),yE,xm] at hj;exact⟨j,by omega,by omega,by unfold K;rw[hj]⟩
theorem zcB (a:Array ql) (i k:Nat):(a.extract i (i+k)).toList=(a.toList.drop i).take k:=by
 rw[vz,xu,show i+k-i=k by omega]
theorem pI (a:Array ql) (i:Nat):(a.extract i a.size).toList=a.toList.drop i:=by
 rw[vz,xu];exact QZ (by rw[yF,zW];omega)
theorem pH (a:Array ql) (i:Nat):(a.extract 0 i).toList=a.toList.take i:=by
 rw[vz,xu,We,zbt]
theorem zsT (h:MI W o.toList (a.toList.drop ia) V) (c:∀j,j<k->∀y∈V,K a (ia+j)<=kx y):MI W (o++a.extract ia (ia+k)).toList (a.toList.drop (ia+k)) V:=by
 rw[<- Ju k (a.toList.drop ia)] at h;have:=MI.takeU h fun z hz y hy=>by
  obtain⟨j,hj,_,e⟩:=DY hz;show kx z<=kx y;rw[e];exact c j hj y hy
 rw[oV] at this;rw[jo,zcB];exact this
theorem zsU (h:MI W o.toList V (b.toList.drop ib)) (c:∀j,j<k->∀y∈V,K b (ib+j)<=kx y):MI W (o++b.extract ib (ib+k)).toList V (b.toList.drop (ib+k)):=by
 rw[<- Ju k (b.toList.drop ib)] at h;have:=MI.takeV h fun z hz y hy=>by
  obtain⟨j,hj,_,e⟩:=DY hz;show kx z<=kx y;rw[e];exact c j hj y hy
 rw[oV] at this;rw[jo,zcB];exact this
theorem zg9 (h:MI W o.toList (a.toList.drop ia) (b.toList.drop ib)) (e:ib=b.size):Mg W (o++a.extract ia a.size++b.extract ib b.size).toList:=by
 rw[jo,jo,pI,pI];refine h.fin fun x _ y hy=>?_;rw[e,iZ (by rw[zW];exact zE _)] at hy;cases hy
theorem zsP (h:MI W o.toList (a.toList.drop ia) (b.toList.drop ib)) (e:ia=a.size):Mg W (o++a.extract ia a.size++b.extract ib b.size).toList:=by
 rw[jo,jo,pI,pI];refine h.fin fun x hx y _=>?_;rw[e,iZ (by rw[zW];exact zE _)] at hx;cases hx
theorem zha (pre:Pre a b) (h:MI W o.toList (a.toList.drop ia) (b.toList.drop ib)) (e:ia+1=a.size):Mg W (o++b.extract ib b.size++a.extract ia a.size).toList:=by
 rw[jo,jo,pI,pI];refine h.fin' fun x hx y hy=>?_;obtain⟨i,hi1,hi2,hi3,_⟩:=znX hy;have:i=a.size-1:=by omega
 subst this;exact pre.hi y hi3 x (Z7 hx)
theorem GP {a:Array ql} (h:a.toList.Pairwise LE){i:Nat}{x:ql} (hx:a[i]?=some x){y:ql} (hy:y∈a.toList.drop i):LE x y:=by
 obtain⟨j,h1,h2,h3,h4⟩:=znX hy;show kx x<=kx y;rw[h4,show kx x=K a i by unfold K;rw[hx]];exact pC h h1 h2
end
section
variable {prog:qz}{w:jd}{A:jg}{E:zc->zp->Prop}{s:zp}
theorem pU {st:jT}{g:Nat}{Q:Unit->jT->Prop} (h:∀st',GS st st'->Q () st'):wpS (model prog w) A E s (Uj g) Q st:=by
 rw[zl0];exact cM (h _ ⟨rfl,rfl,rfl,rfl⟩)
def LoI (a b o:Array ql) (ia ib:Nat):Prop:=MI (a.toList++b.toList) o.toList (a.toList.drop ia) (b.toList.drop ib)/\ia+1<a.size/\ib<b.size
theorem jnS {C P:jT->Prop}{R:Prop} (g:(∀s,C s->P s)->R) (b:∀s,C s->P s):R:=g b
theorem jn1 {P:Nat->Prop}{R:Prop} (g:(∀i,P i)->R) (b:∀i,P i):R:=g b
theorem jn {α:Type}{C P:α->Nat->Nat->Prop}{R:Prop} (g:(∀o i k,C o i k->P o i k)->R) (b:∀o i k,C o i k->P o i k):R:=g b
theorem Tp {left:Bool}{key:ql}{arr:Array ql}{base i:Nat} (h:bb left key arr base i=true):K arr (base+i)<=kx key:=by
 unfold bb at h;split at h
 .exact Z5 (of_decide_eq_true h)
 .exact Int.not_lt.mp (of_decide_eq_false (yX _ ▸ h))
theorem Tn {left:Bool}{key:ql}{arr:Array ql}{base i:Nat} (h:bb left key arr base i=false):kx key<=K arr (base+i):=by
 unfold bb at h;split at h
 .exact Int.not_lt.mp (of_decide_eq_false h)
 .exact Z5 (of_decide_eq_true (Bool.not_eq_false' _ ▸ h))
theorem JB {st:jT}{α:Type}{c:Prop} [Decidable c] {x y:StateT jT Sem α}{Q:α->jT->Prop} (h1:c->wpS (model prog w) A E s x Q st) (h2:¬c->wpS (model prog w) A E s y Q st):wpS (model prog w) A E s (if c then x else y) Q st:=by
 by_cases e:c
 .rw[if_pos e];exact h1 e
 .rw[if_neg e];exact h2 e
theorem yW {st:jT}{α:Type}{i j:Nat}{x y:StateT jT Sem α}{Q:α->jT->Prop} (h1:i=j->wpS (model prog w) A E s x Q st) (h2:i≠j->wpS (model prog w) A E s y Q st):wpS (model prog w) A E s (if (i == j)=true then x else y) Q st:=
 JB (fun e=>h1 (eq_of_beq e)) fun e=>h2 fun z=>e (beq_iff_eq.mpr z)
abbrev O1:=Option (Array ql)
abbrev LS1 (a b:Array ql) (c:O1×Array ql×Nat×Nat×Nat):Prop:=∃m o ia ib mg,c=(some m,o,ia,ib,mg)/\Mg (a.toList++b.toList) m.toList
abbrev LN1 (a b:Array ql) (n:Nat) (c:O1×Array ql×Nat×Nat×Nat):Prop:=∃o ia ib mg,c=(none,o,ia,ib,mg)/\LoI a b o ia ib/\n<=ia+ib
abbrev LS2 (a b:Array ql) (c:O1×Array ql×Nat×Nat×Nat×Nat):Prop:=∃m o ia ib ac bc,c=(some m,o,ia,ib,ac,bc)/\Mg (a.toList++b.toList) m.toList
abbrev LN2 (a b:Array ql) (r:Nat->Prop) (c:O1×Array ql×Nat×Nat×Nat×Nat):Prop:=∃o ia ib ac bc,c=(none,o,ia,ib,ac,bc)/\LoI a b o ia ib/\r (ia+ib)
abbrev LS3 (a b:Array ql) (c:O1×Array ql×Nat×Nat×Nat×Nat×Nat):Prop:=∃m o ia ib mg ac bc,c=(some m,o,ia,ib,mg,ac,bc)/\Mg (a.toList++b.toList) m.toList
abbrev LN3 (a b:Array ql) (n:Nat) (c:O1×Array ql×Nat×Nat×Nat×Nat×Nat):Prop:=∃o ia ib mg ac bc,c=(none,o,ia,ib,mg,ac,bc)/\LoI a b o ia ib/\n<=ia+ib
theorem zdA {st:jT}{a b:Array ql}{Q:Array ql->jT->Prop} (hk:kindOf st=oneType') (pre:Pre a b)
  (h:∀m st',Mg (a.toList++b.toList) m.toList->GS st st'->Q m st'):wpS (model prog w) A E s (Ip a b) Q st:=by
 rw[zcQ];refine zQ (gG (Xi ⟨rfl,?_⟩));obtain⟨b0,hb0,_⟩:=V0 pre.kb pre.nb;refine zQ (kO hb0 ?_);have h0:MI (a.toList++b.toList) (#[]:Array ql).toList (a.toList.drop 0) (b.toList.drop 0):=⟨JD,pre.sa,pre.sb,(fun _ z=>nomatch z),(fun _ z=>nomatch z),Ms _⟩;have h1:MI (a.toList++b.toList) (#[b0]:Array ql).toList (a.toList.drop 0) (b.toList.drop 1):=zfH h0 hb0 fun y hy=>pre.lo b0 hb0 y hy;refine yW (fun e1=>qi (h _ _ (zg9 h1 e1) (GS.refl _))) fun e1=>?_;refine yW (fun e2=>qi (h _ _ (zha pre h1 e2) (GS.refl _))) fun e2=>?_;have na:=pre.na;have nb:=pre.nb;have L1:LoI a b #[b0] 0 1:=⟨h1,by omega,by omega⟩;refine zQ (bw ?_);generalize gallopOf st=mg0;refine zQ (Zg (vM (I:=fun x c st'=>GS st st'/\LN1 a b x c)
  (Q:=fun c st'=>GS st st'/\LS1 a b c) ?step ?fin ⟨GS.refl _,_,_,_,_,rfl,L1,by omega⟩) ?post)
 case post=>
  rintro c st' ⟨g,m,o,ia,ib,mg,rfl,hm⟩;exact qi (h m st' hm g)
 case fin=>
  rintro c st' ⟨g,o,ia,ib,mg,rfl,⟨_,h2,h3⟩,hx⟩;exfalso;omega
 case step=>
  rintro x c st1 _ hx ⟨g1,o1,ia1,ib1,mg1,rfl,L1,p1⟩;have hk1:kindOf st1=oneType':=g1.1.trans hk;refine zQ (Zg (vM (I:=fun y c st'=>st'=st1/\LN2 a b (fun n=>n=ia1+ib1+y) c)
   (Q:=fun c st'=>st'=st1/\(LS2 a b c∨LN2 a b (fun n=>ia1+ib1+1<=n) c)) ?s2 ?f2 ⟨rfl,o1,ia1,ib1,0,0,rfl,L1,by omega⟩) ?p2)
  case f2=>
   rintro c st' ⟨rfl,o,ia,ib,ac,bc,rfl,⟨m1,m2,m3⟩,hy⟩;exfalso;omega
  case s2=>
   rintro y c st' _ hy ⟨rfl,o,ia,ib,ac,bc,rfl,⟨m1,m2,m3⟩,hp⟩;dsimp only;obtain⟨bx,hbx,kbx⟩:=V0 pre.kb m3;obtain⟨ax,hax,kax⟩:=V0 pre.ka (show ia<a.size by omega);refine zQ (kO hbx (zQ (kO hax (zQ (zbi hk1 kbx kax (fun hw=>?_) fun hw=>?_)))))
   .refine zQ (kO hbx ?_);have M:=zfH m1 hbx fun z hz=>vL (Z5 hw) (GP pre.sa hax hz);refine yW (fun e1=>qi ⟨rfl,.inl ⟨_,_,_,_,_,_,rfl,zg9 M e1⟩⟩) fun e1=>?_;have L:LoI a b (o.push bx) ia (ib+1):=⟨M,m2,by omega⟩;exact JB (fun _=>qi ⟨rfl,.inr ⟨_,_,_,_,_,rfl,L,by omega⟩⟩) fun _=>qi ⟨rfl,_,_,_,_,_,rfl,L,by omega⟩
   .refine zQ (kO hax ?_);have M:=zlS m1 hax fun z hz=>vL (Int.not_lt.mp hw) (GP pre.sb hbx hz);refine yW (fun e1=>qi ⟨rfl,.inl ⟨_,_,_,_,_,_,rfl,zha pre M e1⟩⟩) fun e1=>?_;have L:LoI a b (o.push ax) (ia+1) ib:=⟨M,by omega,m3⟩;exact JB (fun _=>qi ⟨rfl,.inr ⟨_,_,_,_,_,rfl,L,by omega⟩⟩) fun _=>qi ⟨rfl,_,_,_,_,_,rfl,L,by omega⟩
  case p2=>
   rintro c st' ⟨rfl,⟨m,o,ia,ib,ac,bc,rfl,hm⟩ | ⟨o2,ia2,ib2,ac2,bc2,rfl,L2,p2⟩⟩
   .exact qi ⟨g1,_,_,_,_,_,rfl,hm⟩
   .refine zQ (gG (Xi ⟨rfl,?_⟩));refine zQ (Zg (vM (I:=fun y c st''=>GS st st''/\LN3 a b (ia2+ib2) c)
     (Q:=fun c st''=>GS st st''/\(LS3 a b c∨LN3 a b (ia2+ib2) c)) ?s3 (fun c st''=>.imp_right .inr) ⟨g1,o2,ia2,ib2,mg1+1,ac2,bc2,rfl,L2,by omega⟩) ?p3)
    case p3=>
     rintro c st'' ⟨g,⟨m,o,ia,ib,mg,ac,bc,rfl,hm⟩ | ⟨o3,ia3,ib3,mg3,ac3,bc3,rfl,L3,p3⟩⟩
     .exact qi ⟨g,_,_,_,_,_,rfl,hm⟩
     .dsimp only;exact zQ (pU fun st3 g3=>qi ⟨g.trans g3,_,_,_,_,rfl,L3,by clear na nb hx;omega⟩)
    case s3=>
     rintro y c st'' _ hy ⟨g,o,ia,ib,mg,ac,bc,rfl,⟨m1,m2,m3⟩,hp⟩;obtain⟨bx,hbx,kbx⟩:=V0 pre.kb m3
     extract_lets -underBinder +onlyGivenNames u1 u2 u3 u4 u5 u6 u7 u8 u9 v1 v2 jp
     apply jn1
     case g=>
      intro G;refine JB (fun _=>?x) fun _=>?y
      case y=>
       generalize u8=m;exact G m
      case x=>exact G _
     case b=>
     intro m;dsimp -zetaHave only [jp,v2,v1,u9,u8,u7,u6,u5,u4,u3,u2,u1];refine zQ (pU fun st3 g3=>?_);have gg:=g.trans g3;have hk3:kindOf st3=oneType':=gg.1.trans hk;refine zQ (kO hbx (zQ (W0 hk3 kbx (fun i hi=>V0 pre.ka (by clear nb hx p1 p2 hy hp m3;omega)) (fun i j hij hj=>pC pre.sa (by omega) (by clear nb hx p1 p2 hy hp m3 hij;omega)) (by omega) fun k k1 k2 k3=>?_)));dsimp -zetaHave only
     extract_lets -underBinder +onlyGivenNames ac1 jp2
     have c2:∀z∈a.toList.drop (ia+k),LE bx z:=fun z hz=>by
      obtain⟨i,h1,h2,h3,h4⟩:=znX hz;have:=Tn (k3 (i-ia) (by clear na nb hx p1 p2 hy hp m2 m3 k1 h2 h4;omega) (by clear nb hx p1 p2 hy hp m3 k1 h4;omega));rwa[show ia+(i-ia)=i by clear na nb p1 p2 hp m3 h4 this;omega,<- h4] at this
     have M:=zsT (k:=k) m1 fun j hj z hz=>vL (Tp (k2 j hj)) (GP pre.sb hbx hz);apply jn (C:=fun(o':Array ql) i' _=>MI (a.toList++b.toList) o'.toList (a.toList.drop i') (b.toList.drop ib)/\i'+1<a.size/\(∀z∈a.toList.drop i',LE bx z)/\ia2+ib2<=i'+ib)
     case g=>
      intro G;refine JB (fun hkp=>?_) fun hkp=>?_
      .try dsimp only
       refine yW (fun e1=>qi ⟨gg,.inl ⟨_,_,_,_,_,_,_,rfl,zha pre M e1⟩⟩) fun e1=>?_;refine yW (fun e2=>qi ⟨gg,.inl ⟨_,_,_,_,_,_,_,rfl,zsP M e2⟩⟩) fun e2=>?_;have hia:ia+k+1<a.size:=by omega
       have hp':ia2+ib2<=ia+k+ib:=by omega
       have M':=M;have c3:=c2;generalize o++a.extract ia (ia+k)=o' at M' ⊢;generalize ia+k=ia' at M' hia c3 hp' ⊢;generalize k=k';exact G o' ia' k' ⟨M',hia,c3,hp'⟩
      .exact G o ia k ⟨m1,m2,(by rw[show k=0 by omega] at c2;exact c2),hp⟩
     case b=>
     rintro o' ia' k' ⟨M',hia,c3,hp'⟩;dsimp -zetaHave only [jp2,ac1];refine zQ (kO hbx ?_)
     extract_lets -underBinder +onlyGivenNames z1 z2
     dsimp -zetaHave only [z1,z2];have N:=zfH M' hbx c3;refine yW (fun e1=>qi ⟨gg,.inl ⟨_,_,_,_,_,_,_,rfl,zg9 N e1⟩⟩) fun e1=>?_;obtain⟨ax,hax,kax⟩:=V0 pre.ka (show ia'<a.size by omega);refine zQ (kO hax (zQ (W0 hk3 kax (fun i hi=>V0 pre.kb (by clear na hx p1 p2 hy hp m2 k1 hia hp';omega)) (fun i j hij hj=>pC pre.sb (by omega) (by clear na hx p1 p2 hy hp m2 k1 hia hp' hij;omega)) (by clear na hx p1 p2 hy hp m2 k1 hia hp';omega) fun kk q1 q2 q3=>?_)));dsimp -zetaHave only
     extract_lets -underBinder +onlyGivenNames ac2 jp3
     have d2:∀z∈b.toList.drop (ib+1+kk),LE ax z:=fun z hz=>by
      obtain⟨i,h1,h2,h3,h4⟩:=znX hz;have:=Tn (q3 (i-(ib+1)) (by clear na nb hx p1 p2 hy hp m2 m3 k1 hia hp' q1 h2 h4;omega) (by clear na hx p1 p2 hy hp m2 k1 hia hp' q1 h4;omega));rwa[show ib+1+(i-(ib+1))=i by omega,<- h4] at this
     have R:=zsU (k:=kk) N fun j hj z hz=>vL (Tp (q2 j hj)) (GP pre.sa hax hz);apply jn (C:=fun(o':Array ql) i' _=>MI (a.toList++b.toList) o'.toList (a.toList.drop ia') (b.toList.drop i')/\i'<b.size/\(∀z∈b.toList.drop i',LE ax z)/\ia2+ib2<=ia'+i')
     case g=>
      intro G;refine JB (fun hkq=>?_) fun hkq=>?_
      .try dsimp only
       refine yW (fun e2=>qi ⟨gg,.inl ⟨_,_,_,_,_,_,_,rfl,zg9 R e2⟩⟩) fun e2=>?_;have hib:ib+1+kk<b.size:=by omega
       have hp2:ia2+ib2<=ia'+(ib+1+kk):=by omega
       have R':=R;have d3:=d2;generalize o'.push bx++b.extract (ib+1) (ib+1+kk)=o'' at R' ⊢;generalize ib+1+kk=ib' at R' hib d3 hp2 ⊢;generalize kk=k';exact G o'' ib' k' ⟨R',hib,d3,hp2⟩
      .exact G _ _ kk ⟨N,by clear na hx p1 p2 hy hp m2 k1 hia hp' q1;omega,(by rw[show kk=0 by clear na nb hx p1 p2 hy hp m2 m3 k1 hia hp' q1;omega] at d2;exact d2),by omega⟩
     case b=>
     rintro o'' ib' k'' ⟨R',hib,d3,hp2⟩;dsimp only[jp3,ac2];refine zQ (kO hax ?_);have F:=zlS R' hax d3;refine yW (fun e1=>qi ⟨gg,.inl ⟨_,_,_,_,_,_,_,rfl,zha pre F e1⟩⟩) fun e1=>?_;have L:LoI a b (o''.push ax) (ia'+1) ib':=⟨F,by omega,hib⟩;exact JB (fun _=>qi ⟨gg,.inr ⟨_,_,_,_,_,_,rfl,L,by omega⟩⟩) fun _=>qi ⟨gg,_,_,_,_,_,_,rfl,L,by omega⟩
end
section
variable {W V:List ql}{o a b:Array ql}{na nb p:Nat}{x:ql}
theorem zaX (h:MJ W (a.toList.take (na+1)) V o.toList.reverse) (hx:a[na]?=some x) (c:∀y∈V,LE y x):MJ W (a.toList.take na) V (o.push x).toList.reverse:=by
 rw[zpK hx] at h;rw[JC,Qq];exact MJ.takeU (U2:=[x]) h fun y hy z hz=>by rw[List.mem_singleton.mp hz];exact c y hy
theorem zhx (h:MJ W V (b.toList.take (nb+1)) o.toList.reverse) (hx:b[nb]?=some x) (c:∀y∈V,LE y x):MJ W V (b.toList.take nb) (o.push x).toList.reverse:=by
 rw[zpK hx] at h;rw[JC,Qq];exact MJ.takeV (V2:=[x]) h fun y hy z hz=>by rw[List.mem_singleton.mp hz];exact c y hy
theorem iR {a:Array ql}{p n:Nat} (hp:p<=n):a.toList.take n=a.toList.take p++(a.extract p n).toList:=by
 rw[vz,xu,<- Mt];have:=Ju p (a.toList.take n);rw[List.take_take,Nat.min_eq_left hp] at this;exact this.symm
theorem part_mem {a:Array ql}{p n:Nat}{z:ql} (hz:z∈(a.extract p n).toList):∃i,p<=i/\i<n/\i<a.size/\kx z=K a i:=by
 rw[vz,xu] at hz;obtain⟨j,h1,h2,h3⟩:=DY hz;exact⟨p+j,by clear h1 h2 h3;omega,by omega,h2,h3⟩
theorem zq1 (h:MJ W (a.toList.take na) V o.toList.reverse) (hp:p<=na) (c:∀i,p<=i->i<na->∀y∈V,kx y<=K a i):MJ W (a.toList.take p) V (o++(a.extract p na).reverse).toList.reverse:=by
 rw[iR hp] at h;rw[jo,Qq,Z3,YZ];refine MJ.takeU h fun y hy z hz=>?_;obtain⟨i,h1,h2,h3,h4⟩:=part_mem hz;show kx y<=kx z;rw[h4];exact c i h1 h2 y hy
theorem zq2 (h:MJ W V (b.toList.take nb) o.toList.reverse) (hp:p<=nb) (c:∀i,p<=i->i<nb->∀y∈V,kx y<=K b i):MJ W V (b.toList.take p) (o++(b.extract p nb).reverse).toList.reverse:=by
 rw[iR hp] at h;rw[jo,Qq,Z3,YZ];refine MJ.takeV h fun y hy z hz=>?_;obtain⟨i,h1,h2,h3,h4⟩:=part_mem hz;show kx y<=kx z;rw[h4];exact c i h1 h2 y hy
theorem zaD (h:MJ W (a.toList.take na) (b.toList.take nb) o.toList.reverse) (e:na=0):Mg W (a.extract 0 na++b.extract 0 nb++o.reverse).toList:=by
 rw[jo,jo,pH,pH,Z3];refine h.fin fun x hx y _=>?_;rw[e,Mu] at hx;cases hx
theorem zqT (h:MJ W (a.toList.take na) (b.toList.take nb) o.toList.reverse) (e:nb=0):Mg W (a.extract 0 na++b.extract 0 nb++o.reverse).toList:=by
 rw[jo,jo,pH,pH,Z3];refine h.fin fun x _ y hy=>?_;rw[e,Mu] at hy;cases hy
theorem zaE (pre:Pre a b) (h:MJ W (a.toList.take na) (b.toList.take nb) o.toList.reverse) (e:nb=1):Mg W (b.extract 0 nb++a.extract 0 na++o.reverse).toList:=by
 rw[jo,jo,pH,pH,Z3];refine h.fin' fun x hx y hy=>?_;obtain⟨i,hi1,hi2,hi3,_⟩:=zg1 hx;have:i=0:=by omega
 subst this;exact pre.lo x hi3 y (yR hy)
theorem GR {a:Array ql} (h:a.toList.Pairwise LE){i:Nat}{x:ql} (hx:a[i]?=some x){y:ql} (hy:y∈a.toList.take (i+1)):LE y x:=by
 obtain⟨j,h1,h2,h3,h4⟩:=zg1 hy;show kx y<=kx x;rw[h4,show kx x=K a i by unfold K;rw[hx]];have hi:i<a.size:=by
  by_cases z:i<a.size
  .exact z
  .rw[getElem?_neg _ i z] at hx;cases hx
 exact pC h (by omega) hi
end
section
variable {prog:qz}{w:jd}{A:jg}{E:zc->zp->Prop}{s:zp}
def HiI (a b o:Array ql) (na nb:Nat):Prop:=MJ (a.toList++b.toList) (a.toList.take na) (b.toList.take nb) o.toList.reverse/\1<=na/\na<a.size/\2<=nb/\nb<=b.size
abbrev HS1 (a b:Array ql) (c:O1×Nat×Nat×Array ql×Nat):Prop:=∃m na nb o mg,c=(some m,na,nb,o,mg)/\Mg (a.toList++b.toList) m.toList
abbrev HN1 (a b:Array ql) (n:Nat) (c:O1×Nat×Nat×Array ql×Nat):Prop:=∃na nb o mg,c=(none,na,nb,o,mg)/\HiI a b o na nb/\na+nb+n<=a.size+b.size
abbrev HS2 (a b:Array ql) (c:O1×Nat×Nat×Array ql×Nat×Nat):Prop:=∃m na nb o ac bc,c=(some m,na,nb,o,ac,bc)/\Mg (a.toList++b.toList) m.toList
abbrev HN2 (a b:Array ql) (r:Nat->Prop) (c:O1×Nat×Nat×Array ql×Nat×Nat):Prop:=∃na nb o ac bc,c=(none,na,nb,o,ac,bc)/\HiI a b o na nb/\r (na+nb)
abbrev HS3 (a b:Array ql) (c:O1×Nat×Nat×Array ql×Nat×Nat×Nat):Prop:=∃m na nb o mg ac bc,c=(some m,na,nb,o,mg,ac,bc)/\Mg (a.toList++b.toList) m.toList
abbrev HN3 (a b:Array ql) (n:Nat) (c:O1×Nat×Nat×Array ql×Nat×Nat×Nat):Prop:=∃na nb o mg ac bc,c=(none,na,nb,o,mg,ac,bc)/\HiI a b o na nb/\na+nb<=n
theorem zdz {st:jT}{a b:Array ql}{Q:Array ql->jT->Prop} (hk:kindOf st=oneType') (pre:Pre a b)
  (h:∀m st',Mg (a.toList++b.toList) m.toList->GS st st'->Q m st'):wpS (model prog w) A E s (Io a b) Q st:=by
 rw[zcP];refine zQ (gG (Xi ⟨rfl,?_⟩));have na0:=pre.na;have nb0:=pre.nb;obtain⟨al,hal,_⟩:=V0 pre.ka (show a.size-1<a.size by omega);refine zQ (kO hal ?_);have h0:MJ (a.toList++b.toList) (a.toList.take (a.size-1+1)) (b.toList.take b.size) (#[]:Array ql).toList.reverse:=by
  rw[show a.size-1+1=a.toList.length by rw[zW];omega,Xw,show b.size=b.toList.length from (zW).symm,Xw];exact⟨JD,pre.sa,pre.sb,(fun _ _ _ z=>nomatch z),(fun _ _ _ z=>nomatch z),by rw[show (#[]:Array ql).toList.reverse=[] from rfl,jr]⟩
 have h1:MJ (a.toList++b.toList) (a.toList.take (a.size-1)) (b.toList.take b.size) (#[al]:Array ql).toList.reverse:=zaX h0 hal fun y hy=>pre.hi al hal y (yR hy);refine yW (fun e1=>qi (h _ _ (zaD h1 e1) (GS.refl _))) fun e1=>?_;refine yW (fun e2=>qi (h _ _ (zaE pre h1 e2) (GS.refl _))) fun e2=>?_;have L1:HiI a b #[al] (a.size-1) b.size:=⟨h1,by omega,by omega,by omega,zE _⟩;refine zQ (bw ?_);generalize gallopOf st=mg0;refine zQ (Zg (vM (I:=fun x c st'=>GS st st'/\HN1 a b x c)
  (Q:=fun c st'=>GS st st'/\HS1 a b c) ?step ?fin ⟨GS.refl _,_,_,_,_,rfl,L1,by omega⟩) ?post)
 case post=>
  rintro c st' ⟨g,m,na,nb,o,mg,rfl,hm⟩;exact qi (h m st' hm g)
 case fin=>
  rintro c st' ⟨g,na,nb,o,mg,rfl,⟨_,h2,h3,h4,h5⟩,hx⟩;exfalso;omega
 case step=>
  rintro x c st1 _ hx ⟨g1,na1,nb1,o1,mg1,rfl,L1,p1⟩;have hk1:kindOf st1=oneType':=g1.1.trans hk;refine zQ (Zg (vM (I:=fun y c st'=>st'=st1/\HN2 a b (fun n=>n+y=na1+nb1) c)
   (Q:=fun c st'=>st'=st1/\(HS2 a b c∨HN2 a b (fun n=>n+1<=na1+nb1) c)) ?s2 ?f2 ⟨rfl,na1,nb1,o1,0,0,rfl,L1,by omega⟩) ?p2)
  case f2=>
   rintro c st' ⟨rfl,na,nb,o,ac,bc,rfl,⟨m1,m2,m3,m4,m5⟩,hy⟩;obtain⟨_,n2,n3,n4,n5⟩:=L1;exfalso;omega
  case s2=>
   rintro y c st' _ hy ⟨rfl,na,nb,o,ac,bc,rfl,⟨m1,m2,m3,m4,m5⟩,hp⟩;dsimp only;obtain⟨n',rfl⟩:∃n',na=n'+1:=⟨na-1,by omega⟩;obtain⟨k',rfl⟩:∃k',nb=k'+1:=⟨nb-1,by omega⟩;dsimp only[Qs];obtain⟨bx,hbx,kbx⟩:=V0 pre.kb (show k'<b.size by omega);obtain⟨ax,hax,kax⟩:=V0 pre.ka (show n'<a.size by omega);refine zQ (kO hbx (zQ (kO hax (zQ (zbi hk1 kbx kax (fun hw=>?_) fun hw=>?_)))))
   .refine zQ (kO hax ?_);have M:=zaX m1 hax fun z hz=>vL (GR pre.sb hbx hz) (Z5 hw);refine yW (fun e1=>qi ⟨rfl,.inl ⟨_,_,_,_,_,_,rfl,zaD M e1⟩⟩) fun e1=>?_;have L:HiI a b (o.push ax) n' (k'+1):=⟨M,by omega,by omega,m4,m5⟩;exact JB (fun _=>qi ⟨rfl,.inr ⟨_,_,_,_,_,rfl,L,by omega⟩⟩) fun _=>qi ⟨rfl,_,_,_,_,_,rfl,L,by omega⟩
   .refine zQ (kO hbx ?_);have M:=zhx m1 hbx fun z hz=>vL (GR pre.sa hax hz) (Int.not_lt.mp hw);refine yW (fun e1=>qi ⟨rfl,.inl ⟨_,_,_,_,_,_,rfl,zaE pre M e1⟩⟩) fun e1=>?_;have L:HiI a b (o.push bx) (n'+1) k':=⟨M,m2,m3,by omega,by omega⟩;exact JB (fun _=>qi ⟨rfl,.inr ⟨_,_,_,_,_,rfl,L,by omega⟩⟩) fun _=>qi ⟨rfl,_,_,_,_,_,rfl,L,by omega⟩
  case p2=>
   rintro c st' ⟨rfl,⟨m,na,nb,o,ac,bc,rfl,hm⟩ | ⟨na2,nb2,o2,ac2,bc2,rfl,L2,p2⟩⟩
   .exact qi ⟨g1,_,_,_,_,_,rfl,hm⟩
   .refine zQ (gG (Xi ⟨rfl,?_⟩));refine zQ (Zg (vM (I:=fun y c st''=>GS st st''/\HN3 a b (na2+nb2) c)
     (Q:=fun c st''=>GS st st''/\(HS3 a b c∨HN3 a b (na2+nb2) c)) ?s3 (fun c st''=>.imp_right .inr) ⟨g1,na2,nb2,o2,mg1+1,ac2,bc2,rfl,L2,by omega⟩) ?p3)
    case p3=>
     rintro c st'' ⟨g,⟨m,na,nb,o,mg,ac,bc,rfl,hm⟩ | ⟨na3,nb3,o3,mg3,ac3,bc3,rfl,L3,p3⟩⟩
     .exact qi ⟨g,_,_,_,_,_,rfl,hm⟩
     .dsimp only;exact zQ (pU fun st3 g3=>qi ⟨g.trans g3,_,_,_,_,rfl,L3,by omega⟩)
    case s3=>
     rintro y c st'' _ hy ⟨g,na,nb,o,mg,ac,bc,rfl,⟨m1,m2,m3,m4,m5⟩,hp⟩;obtain⟨k',rfl⟩:∃k',nb=k'+1:=⟨nb-1,by omega⟩;obtain⟨bx,hbx,kbx⟩:=V0 pre.kb (show k'<b.size by omega)
     extract_lets -underBinder +onlyGivenNames u1 u2 u3 u4 u5 u6 u7 u8 u9 v1 v2 jp
     apply jn1
     case g=>
      intro G;refine JB (fun _=>?x) fun _=>?y
      case y=>
       generalize u8=m;exact G m
      case x=>exact G _
     case b=>
     intro m;dsimp -zetaHave +instances only [jp,v2,v1,u9,u8,u7,u6,u5,u4,u3,u2,u1,Qs];refine zQ (pU fun st3 g3=>?_);have gg:=g.trans g3;have hk3:kindOf st3=oneType':=gg.1.trans hk;refine zQ (kO hbx (zQ (W0 hk3 kbx (fun i hi=>by rw[yM];exact V0 pre.ka (by omega)) (fun i j hij hj=>by rw[yM,yM];exact pC pre.sa hij (by omega)) (by omega) fun p q1 q2 q3=>?_)));dsimp -zetaHave only
     extract_lets -underBinder +onlyGivenNames kk1 ac1 jp2
     have c2:∀z∈a.toList.take p,LE z bx:=fun z hz=>by
      obtain⟨i,h1,h2,h3,h4⟩:=zg1 hz;have:=Tp (q2 i h1);rwa[yM,<- h4] at this
     have M:=zq1 (p:=p) m1 q1 fun i hi hin z hz=>vL (GR pre.sb hbx hz) (yM i ▸ Tn (q3 i hi hin));apply jn (C:=fun(o':Array ql) i' _=>MJ (a.toList++b.toList) (a.toList.take i') (b.toList.take (k'+1)) o'.toList.reverse/\1<=i'/\i'<a.size/\(∀z∈a.toList.take i',LE z bx)/\i'+(k'+1)<=na2+nb2)
     case g=>
      intro G;refine JB (fun hkp=>?_) fun hkp=>?_
      .try dsimp only
       refine yW (fun e1=>qi ⟨gg,.inl ⟨_,_,_,_,_,_,_,rfl,zaD M e1⟩⟩) fun e1=>?_;have hia:1<=p:=by omega
       have hib:p<a.size:=by omega
       have hp':p+(k'+1)<=na2+nb2:=by omega
       have M':=M;generalize o++(a.extract p na).reverse=o',na-p=k at M' ⊢;have c3:=c2;generalize p=p' at M' hia hib c3 hp' ⊢;exact G o' p' k ⟨M',hia,hib,c3,hp'⟩
      .have k0:p=na:=by clear na0 nb0 hx p1 p2 hy m3 hp m4 m5;omega
       exact G o na 0 ⟨m1,m2,m3,k0 ▸ c2,hp⟩
     case b=>
     rintro o' na' kp ⟨M',hia,hib,c3,hp'⟩;dsimp -zetaHave +instances only [jp2,ac1,kk1,Qs];refine zQ (kO hbx ?_)
     extract_lets -underBinder +onlyGivenNames z1
     dsimp -zetaHave only [z1];have N:=zhx M' hbx c3;refine yW (fun e1=>qi ⟨gg,.inl ⟨_,_,_,_,_,_,_,rfl,zaE pre N e1⟩⟩) fun e1=>?_;obtain⟨n',rfl⟩:∃n',na'=n'+1:=⟨na'-1,by omega⟩;dsimp -zetaHave +instances only [Qs];obtain⟨ax,hax,kax⟩:=V0 pre.ka (show n'<a.size by omega);refine zQ (kO hax (zQ (W0 hk3 kax (fun i hi=>by rw[yM];exact V0 pre.kb (by omega)) (fun i j hij hj=>by rw[yM,yM];exact pC pre.sb hij (by omega)) (by omega) fun r u1 u2 u3=>?_)));dsimp -zetaHave only
     extract_lets -underBinder +onlyGivenNames kk2 ac2 jp3
     have d2:∀z∈b.toList.take r,LE z ax:=fun z hz=>by
      obtain⟨i,h1,h2,h3,h4⟩:=zg1 hz;have:=Tp (u2 i h1);rwa[yM,<- h4] at this
     have R:=zq2 (p:=r) N u1 fun i hi hin z hz=>vL (GR pre.sa hax hz) (yM i ▸ Tn (u3 i hi hin));apply jn (C:=fun(o':Array ql) i' _=>MJ (a.toList++b.toList) (a.toList.take (n'+1)) (b.toList.take i') o'.toList.reverse/\2<=i'/\i'<=b.size/\(∀z∈b.toList.take i',LE z ax)/\n'+1+i'<=na2+nb2)
     case g=>
      intro G;refine JB (fun hkq=>?_) fun hkq=>?_
      .try dsimp only
       refine yW (fun e2=>qi ⟨gg,.inl ⟨_,_,_,_,_,_,_,rfl,zaE pre R e2⟩⟩) fun e2=>?_;refine yW (fun e4=>qi ⟨gg,.inl ⟨_,_,_,_,_,_,_,rfl,zqT R e4⟩⟩) fun e4=>?_;have hb2:2<=r:=by omega
       have hb3:r<=b.size:=by omega
       have hp2:n'+1+r<=na2+nb2:=by omega
       have R':=R;generalize o'.push bx++(b.extract r k').reverse=o'',k'-r=k at R' ⊢;have d3:=d2;generalize r=r' at R' hb2 hb3 d3 hp2 ⊢;exact G o'' r' k ⟨R',hb2,hb3,d3,hp2⟩
      .have k0:r=k':=by clear na0 nb0 hx p1 p2 hy m2 m3 hp m5 q1 hia hib hp';omega
       exact G _ k' 0 ⟨N,by clear na0 nb0 hx p1 p2 hy m2 m3 hp m5 q1 hia hib hp' hkq;omega,by omega,k0 ▸ d2,by omega⟩
     case b=>
     rintro o'' nb' kr ⟨R',hb2,hb3,d3,hp2⟩;dsimp +instances only [jp3,ac2,kk2,Qs];refine zQ (kO hax ?_);have F:=zaX R' hax d3;refine yW (fun e3=>qi ⟨gg,.inl ⟨_,_,_,_,_,_,_,rfl,zaD F e3⟩⟩) fun e3=>?_;have L:HiI a b (o''.push ax) n' nb':=⟨F,by omega,by omega,hb2,hb3⟩;exact JB (fun _=>qi ⟨gg,.inr ⟨_,_,_,_,_,_,rfl,L,by omega⟩⟩) fun _=>qi ⟨gg,_,_,_,_,_,_,rfl,L,by omega⟩
end
theorem zcO (i:Nat):mergeAt' i=(do
 let x <- get
 let (some (sa,na,pw),some (sb,nb,_)):=((jC x)[i]?,(jC x)[i+1]?) | unsupported "internal:list.sort.pending"
 set (setPending x (((jC x).setIfInBounds i (sa,na+nb,pw)).eraseIdxIfInBounds (i+1)))
 let some k <- cV false (<- elem' (qT x) sb) (qT x) sa na 0 | return false
 let (sa,na):=(sa+k,na-k)
 if na == 0 then return true
 let some nb <- cV true (<- elem' (qT x) (sa+na-1)) (qT x) sb nb (nb-1) | return false
 if nb == 0 then return true
 let u:=(qT x).extract sa sb
 let v:=(qT x).extract sb (sb+nb)
 let m <- if na<=nb then Ip u v else Io u v
 modify fun x=>setArr x (m.toList.zipIdx.foldl (fun c (p,j)=>c.setIfInBounds (sa+j) p) (qT x))
 return (failedOf (<- get)).isNone):=rfl
theorem zcE (s:Nat):∀(l:List ql) (j0:Nat) (xs:Array ql),s+j0+l.length<=xs.size->((l.zipIdx j0).foldl (fun c p=>c.setIfInBounds (s+p.2) p.1) xs).toList=xs.toList.take (s+j0)++l++xs.toList.drop (s+j0+l.length)
 | [],j0,xs,_=>by simp
 | x::r,j0,xs,h=>by
  rw[qx] at h;rw[List.zipIdx_cons,Vp,zcE s r (j0+1) _ (by rw[Array.size_setIfInBounds];omega)];have e:(xs.setIfInBounds (s+j0) x).toList=xs.toList.set (s+j0) x:=Xf ..;show List.take (s+(j0+1)) (xs.setIfInBounds (s+j0) x).toList++r++List.drop (s+(j0+1)+r.length) (xs.setIfInBounds (s+j0) x).toList=_;rw[e,show s+(j0+1)=s+j0+1 by omega,Z8,Zj (by rw[zW];omega),List.take_set_of_le (zE _),List.drop_set_of_lt (by omega),qx,show s+j0+1+r.length=s+j0+(r.length+1) by omega];simp
def xP (xs:Array ql) (lo hi:Nat):Prop:=∀i j,lo<=i->i<=j->j<hi->K xs i<=K xs j
def Ak (xs ys:Array ql) (lo hi:Nat):Prop:=∀k,k<lo∨hi<=k->K ys k=K xs k
theorem ze7 {xs:Array ql}{i:Nat}{x:ql} (h:xs.toList[i]?=some x):K xs i=kx x:=by
 rw[xm] at h;unfold K;rw[h]
theorem zpN {xs:Array ql}{lo hi j:Nat}{x:ql} (h:(xs.extract lo hi)[j]?=some x):kx x=K xs (lo+j):=by
 have h:=zfc h;rw[vz,xu,VF] at h;split at h
 .rw[yE] at h;exact(ze7 h).symm
 .cases h
theorem Lp {xs:Array ql}{lo hi:Nat} (h:xP xs lo hi) (hb:hi<=xs.size):(xs.extract lo hi).toList.Pairwise LE:=by
 rw[vz,xu,List.pairwise_iff_getElem];intro i j hi' hj hij;rw[xK,yF,zW] at hi' hj;have e:∀k (hk:k<((xs.toList.drop lo).take (hi-lo)).length),kx ((xs.toList.drop lo).take (hi-lo))[k]=K xs (lo+k):=fun k hk=>by
  rw[xK,yF,zW] at hk;refine(ze7 ?_).symm;rw[<- yE,zq (by rw[yF,zW];omega),List.getElem_take]
 show kx _<=kx _;rw[e,e];exact h _ _ (by omega) (by clear hb hi' hj;omega) (by omega)
section
variable {prog:qz}{w:jd}{A:jg}{E:zc->zp->Prop}{s:zp}
theorem zoZ {st st':jT}{Q:PUnit->jT->Prop} (h:Q ⟨⟩ st'):wpS (model prog w) A E s (set st':StateT jT Sem PUnit) Q st:=by
 unfold wpS;rw[StateT.run_set];exact qj ⟨rfl,h⟩
theorem zdy {st:jT}{i sa na pw nb pw2:Nat}{Q:Bool->jT->Prop} (hk:kindOf st=oneType') (hf:failedOf st=none) (hI:∀x∈(qT st).toList,IK x)
  (hp1:(jC st)[i]?=some (sa,na,pw)) (hp2:(jC st)[i+1]?=some (sa+na,nb,pw2)) (n1:1<=na) (n2:1<=nb) (hb:sa+na+nb<=(qT st).size)
  (s1:xP (qT st) sa (sa+na)) (s2:xP (qT st) (sa+na) (sa+na+nb))
  (h:∀st',kindOf st'=oneType'->failedOf st'=none->(qT st').Perm (qT st)->Ak (qT st) (qT st') sa (sa+na+nb)->xP (qT st') sa (sa+na+nb)->jC st'=((jC st).setIfInBounds i (sa,na+nb,pw)).eraseIdxIfInBounds (i+1)->Q true st') :
  wpS (model prog w) A E s (mergeAt' i) Q st:=by
 rw[zcO];refine zQ (bw ?_);rw[hp1,hp2];dsimp only;refine zQ (zoZ ?_);generalize hst:setPending st (((jC st).setIfInBounds i (sa,na+nb,pw)).eraseIdxIfInBounds (i+1))=st1;have k1:kindOf st1=oneType':=by rw[<- hst];exact hk
 have f1:failedOf st1=none:=by rw[<- hst];exact hf
 have a1:qT st1=qT st:=by rw[<- hst]
 have p1:jC st1=((jC st).setIfInBounds i (sa,na+nb,pw)).eraseIdxIfInBounds (i+1):=by rw[<- hst]
 clear hst;generalize qT st=xs at *
 obtain⟨b0,hb0,kb0⟩:=V0 hI (show sa+na<xs.size by omega);have eb0:K xs (sa+na)=kx b0:=ze7 (zfc hb0);refine zQ (kO hb0 (zQ (W0 k1 kb0 (fun j hj=>V0 hI (by omega)) (fun j l hjl hl=>s1 _ _ (by omega) (by omega) (by omega)) (by omega) fun k q1 q2 q3=>?_)));dsimp only;have zrd:∀u,sa<=u->u<sa+k->K xs u<=K xs (sa+na):=fun u h1 h2=>by
  have:=Tp (q2 (u-sa) (by omega));rwa[show sa+(u-sa)=u by clear n1 n2 hb eb0 q1 h2 this;omega,<- eb0] at this
 have zpO:∀u,sa+k<=u->u<sa+na->K xs (sa+na)<=K xs u:=fun u h1 h2=>by
  have:=Tn (q3 (u-sa) (by clear n1 n2 hb eb0 q1 h2;omega) (by clear n2 hb eb0 q1;omega));rwa[show sa+(u-sa)=u by clear n1 n2 hb eb0 this;omega,<- eb0] at this
 have two:(∀u v,sa<=u->u<sa+na->sa+na<=v->v<sa+na+nb->K xs u<=K xs v)->wpS (model prog w) A E s (pure true) Q st1:=fun c=>by
  refine qi (h st1 k1 f1 (by rw[a1]) (by rw[a1];exact fun _ _=>rfl) ?_ p1);rw[a1];intro u v hu huv hv;by_cases y1:v<sa+na
  .exact s1 u v hu huv y1
  .by_cases y2:sa+na<=u
   .exact s2 u v y2 huv hv
   .exact c u v hu (by omega) (by omega) hv
 refine yW (fun e1=>two fun u v h1 h2 h3 h4=>vL (zrd u h1 (by clear n2 hb eb0 h4;omega)) (s2 _ _ (zE _) h3 h4)) fun e1=>?_;rw[show sa+k+(na-k)-1=sa+na-1 by clear n2 eb0;omega];obtain⟨al,hal,kal⟩:=V0 hI (show sa+na-1<xs.size by omega);have eal:K xs (sa+na-1)=kx al:=ze7 (zfc hal);refine zQ (kO hal (zQ (W0 k1 kal (fun j hj=>V0 hI (by clear eb0 q1 eal;omega)) (fun j l hjl hl=>s2 _ _ (by clear n2 hb eb0 q1 eal hjl hl;omega) (by clear n2 hb eb0 q1 eal hl;omega) (by omega)) (by clear n1 hb eb0 q1 eal;omega) fun r u1 u2 u3=>?_)));dsimp only;have zyl:∀u,sa+na<=u->u<sa+na+r->K xs u<=K xs (sa+na-1):=fun u h1 h2=>by
  have:=Tp (u2 (u-(sa+na)) (by clear n2 hb eb0 q1 eal u1;omega));rwa[show sa+na+(u-(sa+na))=u by clear n2 hb eb0 q1 eal u1 h2 this;omega,<- eal] at this
 have zpP:∀u,sa+na+r<=u->u<sa+na+nb->K xs (sa+na-1)<=K xs u:=fun u h1 h2=>by
  have:=Tn (u3 (u-(sa+na)) (by clear n2 hb eb0 q1 eal u1 h2;omega) (by clear hb eb0 q1 eal u1;omega));rwa[show sa+na+(u-(sa+na))=u by clear n1 n2 hb eb0 q1 eal this;omega,<- eal] at this
 refine yW (fun e2=>two fun u v h1 h2 h3 h4=>vL (s1 u (sa+na-1) h1 (by clear n2 hb eb0 q1 eal u1 e2 h1 h3 h4;omega) (by clear n2 hb eb0 q1 eal u1 e2 h1 h3 h4;omega)) (zpP v (by clear n2 hb eb0 q1 eal u1 h1 h2;omega) h4)) fun e2=>?_;have szU:(xs.extract (sa+k) (sa+na)).size=na-k:=by rw[uI];clear eb0 eal;omega
 have szV:(xs.extract (sa+na) (sa+na+r)).size=r:=by rw[uI];clear eb0 eal szU;omega
 have pre:Pre (xs.extract (sa+k) (sa+na)) (xs.extract (sa+na) (sa+na+r)):=by
  refine⟨fun x hx=>hI x ?_,fun x hx=>hI x ?_,Lp (fun u v hu huv hv=>s1 u v (by clear n1 n2 hb eb0 eal u1 szU szV;omega) huv hv) (by omega),Lp (fun u v hu huv hv=>s2 u v hu huv (by clear n1 hb eb0 q1 eal szU hu huv;omega)) (by clear eb0 q1 eal szU;omega),by clear n2 hb eb0 eal u1;omega,by clear n2 hb eb0 eal u1 szU;omega,fun x hx y hy=>?_,fun x hx y hy=>?_⟩
  .rw[vz,xu] at hx;exact Z7 (yR hx)
  .rw[vz,xu] at hx;exact Z7 (yR hx)
  .have ex:kx x=K xs (sa+na):=by have:=zpN (lo:=sa+na) (j:=0) hx;exact this
   obtain⟨j,h1,h2,_,h3⟩:=part_mem hy;show kx x<=kx y;rw[ex,h3];exact zpO j h1 h2
  .have ex:kx x=K xs (sa+na-1):=by
    have:=zpN hx;rw[szU,show sa+k+(na-k-1)=sa+na-1 by clear n2 hb eb0 eal u1 szU this;omega] at this;exact this
   obtain⟨j,h1,h2,_,h3⟩:=part_mem hy;show kx y<=kx x;rw[ex,h3];exact zyl j h1 h2
 have fin:∀(m:Array ql) (st2:jT),Mg ((xs.extract (sa+k) (sa+na)).toList++(xs.extract (sa+na) (sa+na+r)).toList) m.toList->GS st1 st2 ->
   wpS (model prog w) A E s (do
    modify fun x=>setArr x (m.toList.zipIdx.foldl (fun c x=>c.setIfInBounds (sa+k+x.2) x.1) (qT x))
    let y <- get
    pure (failedOf y).isNone) Q st2:=by
  intro m st2 hm g;refine zQ (cM (zQ (bw ?_)));have ml:m.toList.length=na-k+r:=by rw[hm.pm.length_eq,zM,zW,zW,szU,szV]
  have al2:qT st2=xs:=g.2.1.trans a1;have ef:failedOf st2=none:=g.2.2.2.trans f1;rw[al2];have L:(m.toList.zipIdx.foldl (fun c x=>c.setIfInBounds (sa+k+x.2) x.1) xs).toList=xs.toList.take (sa+k)++m.toList++xs.toList.drop (sa+na+r):=by
   have:=zcE (sa+k) m.toList 0 xs (by clear n1 n2 eb0 eal szU;omega);rw[zbr,ml,show sa+k+(na-k+r)=sa+na+r by clear n2 eb0 eal szU;omega] at this;exact this
  generalize m.toList.zipIdx.foldl (fun c x=>c.setIfInBounds (sa+k+x.2) x.1) xs=ys at L ⊢;have kL:∀j,j<sa+k->K ys j=K xs j:=fun j hj=>by
   refine K_congr ?_;rw[<- xm,L,<- xm,qQ,qP (by rw[xK,zW];clear eb0 eal u1 szU szV ml;omega),VF,if_pos hj]
  have kR:∀j,sa+na+r<=j->K ys j=K xs j:=fun j hj=>by
   refine K_congr ?_;have hl:(xs.toList.take (sa+k)++m.toList).length=sa+na+r:=by rw[zM,xK,zW,ml];clear eb0 eal szU hj;omega
   rw[<- xm,L,<- xm,jj (by clear n2 hb eb0 q1 eal u1 szU ml;omega),hl,yE,show sa+na+r+(j-(sa+na+r))=j by clear n2 hb eb0 q1 eal u1 szU ml;omega]
  have kM:∀j,sa+k<=j->j<sa+na+r->∃z,m.toList[j-(sa+k)]?=some z/\K ys j=kx z:=fun j h1 h2=>by
   have hj:j-(sa+k)<m.toList.length:=by clear n2 hb eb0 eal u1 szU;omega
   refine⟨_,zq hj,ze7 ?_⟩;have hl:(xs.toList.take (sa+k)).length=sa+k:=by rw[xK,zW];clear eb0 eal u1 szU szV ml h2 hj;omega
   rw[L,qQ,jj (by clear n1 n2 hb eb0 q1 eal u1 szU szV ml h2 hj;omega),hl,qP hj,zq hj]
  have mb:∀z∈m.toList,K xs (sa+na)<=kx z/\∀j,sa+na+r<=j->j<sa+na+nb->kx z<=K xs j:=fun z hz=>by
   rcases List.mem_append.mp (hm.pm.mem_iff.mp hz) with y | y
   .obtain⟨l,h1,h2,_,h3⟩:=part_mem y;rw[h3];exact⟨zpO l h1 h2,fun j hj1 hj2=>vL (s1 l (sa+na-1) (by omega) (by clear n2 hb eb0 q1 eal u1 szU szV ml h1 h3 hj1 hj2;omega) (by clear n2 hb eb0 q1 eal u1 szU szV ml h1 h3 hj1 hj2;omega)) (zpP j hj1 hj2)⟩
   .obtain⟨l,h1,h2,_,h3⟩:=part_mem y;rw[h3];exact⟨s2 _ l (zE _) h1 (by clear n1 hb eb0 q1 eal szU ml h3;omega),fun j hj1 hj2=>s2 l j h1 (by clear n2 hb eb0 q1 eal u1 szU ml h3;omega) hj2⟩
  have zwU:ys.Perm xs:=by
   rw[Array.perm_iff_toList_perm,L];have e:xs.toList=xs.toList.take (sa+k)++((xs.extract (sa+k) (sa+na)).toList++(xs.extract (sa+na) (sa+na+r)).toList)++xs.toList.drop (sa+na+r):=by
    rw[<- qQ,<- iR (show sa+k<=sa+na by omega),<- iR (show sa+na<=sa+na+r by clear n2 hb eb0 q1 eal u1 szU ml;omega),Ju]
   refine Vo ?_ (List.Perm.of_eq e.symm);exact QX _ (Js _ hm.pm)
  show wpS _ _ _ _ (pure (failedOf st2).isNone) _ _;rw[ef];refine qi (h _ (g.1.trans k1) ef zwU ?_ ?_ (g.2.2.1.trans p1))
  .intro j hj;rcases hj with y | y
   .exact kL j (by clear n1 n2 hb eb0 eal u1 szU szV ml;omega)
   .exact kR j (by clear n1 hb eb0 q1 eal szU ml;omega)
  .intro u v hu huv hv;by_cases c1:v<sa+k
   .rw[kL u (by clear n1 n2 hb eb0 q1 eal u1 szU szV ml hv;omega),kL v c1];exact s1 u v hu huv (by clear n2 hb eb0 eal u1 szU szV ml hu huv hv;omega)
   by_cases c2:v<sa+na+r
   .obtain⟨zv,hzv,ev⟩:=kM v (by omega) c2;rw[ev];by_cases c3:u<sa+k
    .rw[kL u c3];exact vL (zrd u hu c3) (mb zv (qw hzv)).1
    .obtain⟨zu,hzu,eu⟩:=kM u (by omega) (by clear n2 hb eb0 q1 eal u1 szU ml ev;omega);rw[eu];rcases ZG huv with y | y
     .obtain⟨hu1,hu2⟩:=List.getElem?_eq_some_iff.mp hzu;obtain⟨hv1,hv2⟩:=List.getElem?_eq_some_iff.mp hzv;have:=List.pairwise_iff_getElem.mp hm.so _ _ hu1 hv1 (by clear n1 n2 hb eb0 q1 eal u1 szU szV ml hu hv c2 ev eu hu1 hu2 hv1 hv2;omega);rw[hu2,hv2] at this;exact this
     .subst y;rw[hzu] at hzv;cases hzv;exact jl _
   .rw[kR v (by clear n2 hb eb0 q1 eal u1 szU ml hu huv hv;omega)];by_cases c3:u<sa+k
    .rw[kL u c3];exact vL (zrd u hu c3) (s2 _ _ (zE _) (by clear n2 hb eb0 q1 eal u1 szU ml hu huv hv;omega) hv)
    .by_cases c4:u<sa+na+r
     .obtain⟨zu,hzu,eu⟩:=kM u (by omega) c4;rw[eu];exact(mb zu (qw hzu)).2 v (by clear n2 hb eb0 q1 eal u1 szU ml hu huv hv eu;omega) hv
     .rw[kR u (by clear n2 hb eb0 q1 eal u1 szU ml;omega)];exact s2 u v (by clear n2 hb eb0 q1 eal u1 szU ml;omega) huv hv
 exact JB (fun _=>zQ (zdA k1 pre fin)) fun _=>zQ (zdz k1 pre fin)
end
structure SG (a₀:Array ql) (p:Array (Nat×Nat×Nat)) (st:jT):Prop where
 perm:(qT st).Perm a₀
 kind:kindOf st=oneType'
 fail:failedOf st=none
 pend:jC st=p
theorem SG.size {a₀:Array ql}{p:Array (Nat×Nat×Nat)}{st:jT} (h:SG a₀ p st):(qT st).size=a₀.size:=h.perm.size_eq
theorem SG.arr {a₀:Array ql}{p:Array (Nat×Nat×Nat)}{st:jT} (h:SG a₀ p st){xs:Array ql} (hp:xs.Perm (qT st)):SG a₀ p (setArr st xs):=⟨hp.trans h.perm,h.kind,h.fail,h.pend⟩
theorem SG.ik {a₀:Array ql}{p:Array (Nat×Nat×Nat)}{st:jT} (h:SG a₀ p st) (h0:IntKeys a₀):∀x∈(qT st).toList,IK x:=fun x hx=>h0 x ((Array.perm_iff_toList_perm.mp h.perm).mem_iff.mp hx)
def cT (xs:Array ql) (lo k:Nat):Prop:=∀i j,lo<=i->i<=j->j<lo+k->K xs j<=K xs i
section
variable {prog:qz}{w:jd}{A:jg}{E:zc->zp->Prop}{s:zp}{a₀:Array ql}{p:Array (Nat×Nat×Nat)}
theorem pR {st:jT}{i j:Nat}{Q:Option Bool->jT->Prop} (hB:SG a₀ p st) (h0:IntKeys a₀) (hi:i<a₀.size) (hj:j<a₀.size)
  (h:K (qT st) i<K (qT st) j->Q (some true) st) (h':¬K (qT st) i<K (qT st) j->Q (some false) st):wpS (model prog w) A E s (ltAt' i j) Q st:=by
 obtain⟨x,hx,kx1⟩:=V0 (hB.ik h0) (show i<(qT st).size by rw[hB.size];exact hi);obtain⟨y,hy,kx2⟩:=V0 (hB.ik h0) (show j<(qT st).size by rw[hB.size];exact hj);rw[ltAt'_eq];refine zQ (bw ?_);rw[ze7 (zfc hx),ze7 (zfc hy)] at h h';exact zQ (kO hx (zQ (kO hy (zbi hB.kind kx1 kx2 h h'))))
theorem BL {st:jT}{i j:Nat}{Q:Unit->jT->Prop} (hB:SG a₀ p st) (h:∀st',SG a₀ p st'->qT st'=mirror (qT st) i j ((j-i) / 2)->Q () st'):wpS (model prog w) A E s (reverseSlice' i j) Q st:=wpS_reverse (h _ (hB.arr (mirror_perm _ _ _ _)) rfl)
theorem cT.snoc {xs:Array ql}{lo x:Nat} (h:cT xs lo x) (h1:K xs (lo+x)<=K xs (lo+x-1)):cT xs lo (x+1):=fun i j hi hij hj=>by
 by_cases hjx:j<lo+x
 .exact h i j hi hij hjx
 .rw[show j=lo+x by clear h1 hi hij;omega];by_cases hi':i=lo+x
  .subst hi';exact jl _
  .exact vL h1 (h i (lo+x-1) hi (by clear h1;omega) (by clear h1;omega))
theorem RK {st:jT}{lo nrem:Nat}{Q:Option Nat->jT->Prop} (h0:IntKeys a₀) (hn:lo+nrem<=a₀.size) (h1:1<=nrem) (hB:SG a₀ p st)
  (h:∀m st',SG a₀ p st'->1<=m->m<=nrem->xP (qT st') lo (lo+m)->Ak (qT st) (qT st') lo (lo+nrem)->Q (some m) st') :
  wpS (model prog w) A E s (countRun' lo nrem) Q st:=by
 have asc:∀{xs:Array ql}{x:Nat},1<=x->xP xs lo (lo+x)->¬K xs (lo+x)<K xs (lo+x-1)->xP xs lo (lo+(x+1)):=by
  intro xs x hx hs hl i j hi hij hj;by_cases hjx:j<lo+x
  .exact hs i j hi hij hjx
  .have hj':j=lo+x:=by clear hn h1 hl hi hij;omega
   subst hj';by_cases hi':i=lo+x
   .subst hi';exact jl _
   .exact vL (hs i (lo+x-1) hi (by clear hn h1 hl;omega) (by clear hn h1 hl hi hij hj hjx;omega)) (Int.not_lt.mp hl)
 rw[countRun'_eq];refine zQ (Zg (vM (I:=fun x c st'=>st'=st/\c=(none,x)/\xP (qT st) lo (lo+x))
  (Q:=fun c st'=>st'=st/\∃n,c=(none,n)/\1<=n/\n<=nrem/\xP (qT st) lo (lo+n)/\(n=nrem∨K (qT st) (lo+n)<K (qT st) (lo+n-1))) ?s1 ?f1 ⟨rfl,rfl,fun i j hi hij hj=>by rw[show i=j by omega];exact jl _⟩) ?p1)
 case f1=>
  rintro c st' ⟨rfl,rfl,hs⟩;rw[show max 1 nrem=nrem by omega] at hs ⊢;exact⟨rfl,_,rfl,h1,zE _,hs,.inl rfl⟩
 case s1=>
  rintro x c st' hax hxn ⟨rfl,rfl,hs⟩;dsimp only;refine zQ (pR hB h0 (by omega) (by omega) (fun hl=>?_) fun hl=>?_)
  .exact qi ⟨rfl,_,rfl,hax,by clear hn hl;omega,hs,.inr hl⟩
  .exact qi ⟨rfl,rfl,asc hax hs hl⟩
 case p1=>
  rintro c st' ⟨rfl,n,rfl,n1,n2,hs,hor⟩;dsimp only;by_cases hnn:n=nrem
  .rw[if_pos (by simpa using hnn)];exact qi (h n st' hB n1 n2 hs (fun _ _=>rfl))
  rw[if_neg (by simpa using hnn)];have hlt:=hor.resolve_left hnn;have sz:=hB.size;obtain⟨xs0,hx0⟩:∃xs0,xs0=qT st':=⟨_,rfl⟩;rw[<- hx0] at h;have hn1:n+1<=nrem:=by clear hn hlt sz;omega
  apply jnS (C:=fun st2=>SG a₀ p st2/\Ak xs0 (qT st2) lo (lo+nrem)/\cT (qT st2) lo (n+1))
  case g=>
   intro G;by_cases hgt:n > 1
   case neg=>
    rw[if_neg hgt];have n1':n=1:=by omega
    have B2:SG a₀ p st':=hB;have O2:Ak xs0 (qT st') lo (lo+nrem):=fun _ _=>by rw[hx0]
    have NI:cT (qT st') lo (n+1):=cT.snoc (fun i j hi hij hj=>by rw[show i=j by omega];exact jl _) (Z5 hlt);exact G st' ⟨B2,O2,NI⟩
   case pos=>
    rw[if_pos hgt];refine zQ (pR hB h0 (by omega) (by omega) (fun hr=>?_) fun hr=>?_)
    .exact qi (h n st' hB n1 n2 hs (fun _ _=>by rw[hx0]))
    have hall:∀k,lo<=k->k<lo+n->K (qT st') k=K (qT st') (lo+n-1):=fun k k1 k2=>by
     have a1:=hs lo k (zE _) k1 k2;have a2:=hs k (lo+n-1) k1 (by omega) (by clear hn h1 n2 hlt sz hn1 hr k1 k2 a1;omega);omega
    refine zQ (BL hB fun st2 B2 e2=>?_);have hKm:=oU (xs:=qT st') (i:=lo) (j:=lo+n) (by omega) hall;rw[<- e2] at hKm;have O2:Ak xs0 (qT st2) lo (lo+nrem):=fun k _=>by rw[hx0];exact hKm k
    have NI:cT (qT st2) lo (n+1):=cT.snoc (fun i j hi hij hj=>by rw[hKm,hKm,hall i hi (by omega),hall j (by omega) hj];exact jl _) (by rw[hKm,hKm];exact Z5 hlt);exact G st2 ⟨B2,O2,NI⟩
  case b=>
   rintro st2 ⟨B2,O2,NI⟩;clear hB hs hor hlt sz hx0;refine zQ (gG (Xi ⟨rfl,?_⟩));refine zQ (Zg (vM (I:=fun x c st3=>∃neq,c=(none,x,neq)/\SG a₀ p st3/\Ak xs0 (qT st3) lo (lo+nrem)/\cT (qT st3) lo x/\neq+1<=x/\(∀i,lo+x-(neq+1)<=i->i<lo+x->K (qT st3) i=K (qT st3) (lo+x-1)))
    (Q:=fun c st3=>∃m neq,c=(none,m,neq)/\n+1<=m/\m<=nrem/\SG a₀ p st3/\Ak xs0 (qT st3) lo (lo+nrem)/\cT (qT st3) lo m/\neq+1<=m/\(∀i,lo+m-(neq+1)<=i->i<lo+m->K (qT st3) i=K (qT st3) (lo+m-1))) ?_ ?_ ⟨0,rfl,B2,O2,NI,by omega,fun i z1 z2=>by rw[show i=lo+(n+1)-1 by omega]⟩) ?_)
   .rintro x c st3 hax hxn ⟨neq,rfl,B3,O3,N3,q3,e3⟩;dsimp only;have sz3:=B3.size;refine zQ (pR B3 h0 (by omega) (by omega) (fun hl=>?_) fun hl=>?_)
    .have step1:∀xs:Array ql,(∀k,K xs k=K (qT st3) k)->cT xs lo (x+1):=fun xs hk=>cT.snoc (fun i j a b c=>by rw[hk,hk];exact N3 i j a b c) (by rw[hk,hk];exact Z5 hl);by_cases hq:neq > 0
     .rw[if_pos hq];have hKm:=oU (xs:=qT st3) (i:=lo+x-(neq+1)) (j:=lo+x) (by omega) e3;exact zQ (BL B3 fun st4 B4 e4=>qi (by rw[<- e4] at hKm;exact⟨0,rfl,B4,fun k hk=>(hKm k).trans (O3 k hk),step1 _ hKm,by omega,fun i z1 z2=>by rw[show i=lo+(x+1)-1 by clear hn h1 n2 hn1 hxn q3 sz3 hl hq;omega]⟩))
     .rw[if_neg hq];exact qi ⟨0,rfl,B3,O3,step1 _ (fun _=>rfl),by omega,fun i z1 z2=>by rw[show i=lo+(x+1)-1 by clear hn h1 n2 hn1 hxn q3 sz3 hl hq;omega]⟩
    .refine zQ (pR B3 h0 (by omega) (by omega) (fun hg=>?_) fun hg=>?_)
     .exact qi ⟨_,_,rfl,hax,by omega,B3,O3,N3,q3,e3⟩
     .have heq:K (qT st3) (lo+x)=K (qT st3) (lo+x-1):=by omega
      refine qi ⟨neq+1,rfl,B3,O3,N3.snoc (by omega),by omega,fun i z1 z2=>?_⟩;rw[show lo+(x+1)-1=lo+x by omega];by_cases hix:i=lo+x
      .subst hix;rfl
      .rw[heq];exact e3 i (by clear hn h1 n1 n2 hn1 hax hxn sz3 hl hg heq;omega) (by omega)
   .rintro c st3 ⟨neq,rfl,B3,O3,N3,q3,e3⟩;rw[show max (n+1) nrem=nrem by omega] at N3 q3 e3 ⊢;exact⟨_,_,rfl,hn1,zE _,B3,O3,N3,q3,e3⟩
   .rintro c st3 ⟨m,neq,rfl,hm1,hm2,B3,O3,N3,q3,e3⟩;dsimp only;have sz3:=B3.size;apply jnS (C:=fun st4=>SG a₀ p st4/\Ak xs0 (qT st4) lo (lo+nrem)/\cT (qT st4) lo m)
    case g=>
     intro G;by_cases hq:neq > 0
     case pos=>
      rw[if_pos hq];refine zQ (BL B3 fun st4 B4 e4=>?_);have hKm:=oU (xs:=qT st3) (i:=lo+m-(neq+1)) (j:=lo+m) (by omega) e3;rw[<- e4] at hKm;have O4:Ak xs0 (qT st4) lo (lo+nrem):=fun k hk=>(hKm k).trans (O3 k hk);have N4:cT (qT st4) lo m:=fun i j hi hij hj=>by
       rw[hKm,hKm];exact N3 i j hi hij hj
      exact G st4 ⟨B4,O4,N4⟩
     case neg=>
      rw[if_neg hq];exact G st3 ⟨B3,O3,N3⟩
    case b=>
     rintro st4 ⟨B4,O4,N4⟩;have sz4:=B4.size;refine zQ (BL B4 fun st5 B5 e5=>?_);have hKr:∀k,K (qT st5) k=if lo<=k/\k<lo+m then K (qT st4) (lo+(lo+m)-1-k) else K (qT st4) k:=fun k=>by rw[e5];exact K_mirror (by omega) k
     have O5:Ak xs0 (qT st5) lo (lo+nrem):=fun k hk=>by
      rw[hKr,if_neg (by omega)];exact O4 k hk
     have S5:xP (qT st5) lo (lo+m):=fun i j hi hij hj=>by
      rw[hKr,hKr,if_pos (by clear hn h1 n1 n2 hn1 hm1 hm2 q3 sz3 sz4;omega),if_pos (by omega)];exact N4 _ _ (by omega) (by clear hn h1 n1 n2 hn1 hm1 hm2 q3 sz3 sz4;omega) (by clear hn h1 n1 n2 hn1 hm1 hm2 q3 sz3 sz4;omega)
     refine zQ (Zg (vM (I:=fun x c st'=>st'=st5/\c=(none,x)/\xP (qT st5) lo (lo+x))
      (Q:=fun c st'=>st'=st5/\∃n,c=(none,n)/\1<=n/\n<=nrem/\xP (qT st5) lo (lo+n)) ?_ ?_ ⟨rfl,rfl,S5⟩) ?_)
     .rintro x c st' hax hxn ⟨rfl,rfl,hs⟩;dsimp only;refine zQ (pR B5 h0 (by omega) (by omega) (fun hl=>?_) fun hl=>?_)
      .exact qi ⟨rfl,_,rfl,by clear hn h1 n1 n2 hn1 hm1 hm2 sz3 sz4 hl;omega,by omega,hs⟩
      .exact qi ⟨rfl,rfl,asc (by clear hn h1 n1 n2 hn1 hm1 hm2 sz3 sz4 hl;omega) hs hl⟩
     .rintro c st' ⟨rfl,rfl,hs⟩;rw[show max m nrem=nrem by omega] at hs ⊢;exact⟨rfl,_,rfl,h1,zE _,hs⟩
     .rintro c st' ⟨rfl,n5,rfl,z1,z2,hs⟩;exact qi (h n5 st' B5 z1 z2 hs O5)
end
noncomputable def Runs (xs:Array ql):List (Nat×Nat×Nat)->Nat->Nat->Prop
 | [],a,b=>a=b
 | (s,n,_)::r,a,b=>s=a/\1<=n/\xP xs s (s+n)/\Runs xs r (s+n) b
theorem Runs.le {xs:Array ql}:∀{l:List (Nat×Nat×Nat)}{a b:Nat},Runs xs l a b->a+l.length<=b
 | [],a,b,h=>by cases h;simp
 | (s,n,_)::r,a,b,⟨h1,h2,_,h4⟩=>by
  have:=Runs.le h4;rw[qx];omega
theorem xP.congr {xs ys:Array ql}{lo hi:Nat} (h:xP xs lo hi) (e:∀k,lo<=k->k<hi->K ys k=K xs k):xP ys lo hi:=fun i j hi' hij hj=>by
 rw[e i hi' (by omega),e j (by omega) hj];exact h i j hi' hij hj
theorem Runs.congr {xs ys:Array ql}:∀{l:List (Nat×Nat×Nat)}{a b:Nat},Runs xs l a b->(∀k,a<=k->k<b->K ys k=K xs k)->Runs ys l a b
 | [],_,_,h,_=>h
 | (s,n,_)::r,a,b,⟨h1,h2,h3,h4⟩,e=>by
  have:=h4.le;exact⟨h1,h2,h3.congr fun k k1 k2=>e k (by omega) (by omega),Runs.congr h4 fun k k1 k2=>e k (by omega) k2⟩
theorem Runs.snoc {xs:Array ql}{q n:Nat}:∀{l:List (Nat×Nat×Nat)}{a b:Nat},Runs xs l a b->1<=n->xP xs b (b+n)->Runs xs (l++[(b,n,q)]) a (b+n)
 | [],a,b,h,h1,h2=>by cases h;exact⟨rfl,h1,h2,rfl⟩
 | (s,m,_)::r,a,b,⟨g1,g2,g3,g4⟩,h1,h2=>⟨g1,g2,g3,Runs.snoc g4 h1 h2⟩
theorem Runs.pow {xs:Array ql}{q:Nat}:∀{l:List (Nat×Nat×Nat)}{a b:Nat} (k:Nat),Runs xs l a b->Runs xs (l.modify k fun x=>(x.1,x.2.1,q)) a b
 | [],_,_,_,h=>by simpa using h
 | (s,m,z)::r,a,b,0,⟨g1,g2,g3,g4⟩=>by
  rw[List.modify_zero_cons];exact⟨g1,g2,g3,g4⟩
 | (s,m,z)::r,a,b,k+1,⟨g1,g2,g3,g4⟩=>by
  rw[List.modify_succ_cons];exact⟨g1,g2,g3,Runs.pow k g4⟩
theorem Runs.at {xs:Array ql}:∀{l:List (Nat×Nat×Nat)}{a b:Nat}{j:Nat},Runs xs l a b->j+1<l.length->∃s n pw m pw2,l[j]?=some (s,n,pw)/\l[j+1]?=some (s+n,m,pw2)/\1<=n/\1<=m/\a<=s/\s+n+m<=b/\xP xs s (s+n)/\xP xs (s+n) (s+n+m)/\∀ys:Array ql,Ak xs ys s (s+n+m)->xP ys s (s+n+m)->Runs ys ((l.set j (s,n+m,pw)).eraseIdx (j+1)) a b
 | [],_,_,_,_,h=>by simp at h
 | [_],_,_,j,_,h=>by simp at h
 | (s,n,pw)::(s2,m,pw2)::r,a,b,0,⟨g1,g2,g3,g4,g5,g6,g7⟩,_=>by
  subst g4;have:=g7.le;refine⟨s,n,pw,m,pw2,rfl,rfl,g2,g5,by omega,by omega,g3,g6,fun ys hy hs=>?_⟩;show Runs ys ((s,n+m,pw)::r) a b;refine⟨g1,by omega,by rw[show s+(n+m)=s+n+m by omega];exact hs,?_⟩;rw[show s+(n+m)=s+n+m by omega];exact g7.congr fun k k1 k2=>hy k (.inr k1)
 | (s0,n0,p0)::y::r,a,b,j+1,⟨g1,g2,g3,g4⟩,hj=>by
  obtain⟨s,n,pw,m,pw2,e1,e2,h1,h2,h3,h4,h5,h6,h7⟩:=Runs.at (j:=j) g4 (by simpa using hj);refine⟨s,n,pw,m,pw2,by simpa using e1,by simpa using e2,h1,h2,by clear hj h1 h2 h4;omega,h4,h5,h6,fun ys hy hs=>?_⟩;have:=h7 ys hy hs;show Runs ys ((s0,n0,p0)::(((y::r).set j (s,n+m,pw)).eraseIdx (j+1))) a b;exact⟨g1,g2,g3.congr fun k k1 k2=>hy k (.inl (by clear hj h1 h2 h4;omega)),this⟩
section
variable {prog:qz}{w:jd}{A:jg}{E:zc->zp->Prop}{s:zp}{a₀:Array ql}{p:Array (Nat×Nat×Nat)}
theorem Gn {st:jT}{lo n ok:Nat}{Q:Bool->jT->Prop} (h0:IntKeys a₀) (hn:lo+n<=a₀.size) (hok:ok<=n) (hB:SG a₀ p st) (hs:xP (qT st) lo (lo+ok))
  (h:∀st',SG a₀ p st'->xP (qT st') lo (lo+n)->Ak (qT st) (qT st') lo (lo+n)->Q true st'):wpS (model prog w) A E s (binarySort' lo n ok) Q st:=by
 rw[binarySort'_eq];obtain⟨xs0,hx0⟩:∃xs0,xs0=qT st:=⟨_,rfl⟩;rw[<- hx0] at h;refine zQ (Zg (vM (I:=fun k c st'=>c=(none,())/\SG a₀ p st'/\Ak xs0 (qT st') lo (lo+n)/\xP (qT st') lo (lo+min k n))
  (Q:=fun c st'=>c=(none,())/\SG a₀ p st'/\Ak xs0 (qT st') lo (lo+n)/\xP (qT st') lo (lo+n)) ?step ?fin ?init) ?post)
 case post=>
  rintro c st' ⟨rfl,hB',hO,hs'⟩;exact qi (h st' hB' hs' hO)
 case init=>
  refine⟨rfl,hB,fun _ _=>by rw[hx0],fun i j hi hij hj=>?_⟩;by_cases e:ok=0
  .rw[show i=j by omega];exact jl _
  .exact hs i j hi hij (by clear hn hi hij;omega)
 case fin=>
  rintro c st' ⟨hc,hB',hO,hs'⟩;refine⟨hc,hB',hO,?_⟩;rwa[show min (max (max ok 1) n) n=n by omega] at hs'
 case step=>
  rintro k c st' hak hkn ⟨rfl,hB',hO,hs'⟩;rw[show min k n=k by clear hn hok hak;omega] at hs';have sz:=hB'.size;refine zQ (Zg (vM (I:=fun x c st''=>st''=st'/\∃l r,c=(none,l,r)/\l<=r/\r<=k/\r-l<=k-x /\
    (∀i,i<l->K (qT st') (lo+i)<=K (qT st') (lo+k))/\(∀i,r<=i->i<k->K (qT st') (lo+k)<K (qT st') (lo+i)))
   (Q:=fun c st''=>st''=st'/\∃l r,c=(none,l,r)/\l<=k /\
    (∀i,i<l->K (qT st') (lo+i)<=K (qT st') (lo+k))/\(∀i,l<=i->i<k->K (qT st') (lo+k)<K (qT st') (lo+i))) ?istep ?ifin ?iinit) ?ipost)
  case iinit=>exact⟨rfl,0,k,rfl,by clear hn hok hak hkn sz;omega,by omega,by clear hn hok hak hkn sz;omega,fun i hi=>by clear hn hok hak hkn sz;omega,fun i h1 h2=>by clear hn hok hak hkn sz;omega⟩
  case ifin=>
   rintro c st'' ⟨rfl,l,r,rfl,hlr,hrk,hm,hlo,hhi⟩;have:l=r:=by clear hn hok hak hkn sz hrk;omega
   subst this;exact⟨rfl,l,l,rfl,hrk,hlo,hhi⟩
  case istep=>
   rintro x c st'' _ hxk ⟨rfl,l,r,rfl,hlr,hrk,hm,hlo,hhi⟩;dsimp only;by_cases hge:l ≥ r
   .rw[if_pos hge];have:l=r:=by clear hn hok hak hkn hxk sz hm;omega
    subst this;exact qi ⟨rfl,l,l,rfl,hrk,hlo,hhi⟩
   .rw[if_neg hge];refine zQ (pR hB' h0 (by omega) (by clear hok hak hm;omega) (fun hl=>?_) fun hl=>?_)
    .refine qi ⟨rfl,l,(l+r) / 2,rfl,by clear hn hok hak hkn hxk sz hrk hm hl;omega,by clear hn hok hak hkn sz hm hl;omega,by clear hn hok hak hkn sz hlr hrk hl;omega,hlo,fun i h1 h2=>?_⟩;exact xR hl (hs' _ _ (by clear hn hak hkn hxk sz hrk hm hl h1 h2;omega) (by omega) (by clear hn hok hak hkn sz hlr hrk hm hge hl h1;omega))
    .refine qi ⟨rfl,(l+r) / 2+1,r,rfl,by clear hn hok hak hkn hxk sz hrk hm hl;omega,by omega,by clear hn hok hak hkn sz hl;omega,fun i h1=>?_,hhi⟩;exact vL (hs' (lo+i) (lo+(l+r) / 2) (by clear hn hok hak hkn hxk sz hlr hrk hm hge hl h1;omega) (by omega) (by clear hn hok hak hkn sz hm hl h1;omega)) (Int.not_lt.mp hl)
  case ipost=>
   rintro c st'' ⟨rfl,l,r,rfl,hlk,hlo,hhi⟩;show wpS _ _ _ _ (do moveDown' (lo+k) (lo+l);pure (yj (none,()))) _ _;rw[moveDown'_eq];have kB:∀j,K (bubble (qT st'') (lo+k) (lo+k-(lo+l))) j=if j=lo+k-(lo+k-(lo+l)) then K (qT st'') (lo+k) else if lo+k-(lo+k-(lo+l))<j/\j<=lo+k then K (qT st'') (j-1) else K (qT st'') j:=fun j=>K_bubble (by omega) (by clear hn hok hak hkn sz;omega) j;rw[show lo+k-(lo+k-(lo+l))=lo+l by omega] at kB;refine zQ (cM (qi ⟨rfl,hB'.arr (bubble_perm _ _ _),fun j hj=>?_,?_⟩))
   .refine Eq.trans ?_ (hO j hj);show K (bubble _ _ _) j=_;rw[kB,if_neg (by clear hn hok hak sz;omega),if_neg (by clear hn hak sz;omega)]
   .rw[show min (k+1) n=k+1 by clear hn hok sz hlk;omega];intro i j hi hij hj;show K (bubble _ _ _) i<=K (bubble _ _ _) j;rw[kB,kB];by_cases i1:i=lo+l
    .rw[if_pos i1];by_cases j1:j=lo+l
     .rw[if_pos j1];exact jl _
     .rw[if_neg j1,if_pos (by clear hn hok hak hkn sz hlk hi;omega)];have:=hhi (j-1-lo) (by clear hn hok hak hkn sz hlk hi hj;omega) (by clear hn hak hkn sz;omega);rw[show lo+(j-1-lo)=j-1 by clear hok hak hkn sz hlk hj this;omega] at this;exact Z5 this
    .rw[if_neg i1];by_cases i2:lo+l<i
     .rw[if_pos (by clear hn hok hak hkn sz hi;omega),if_neg (by clear hn hok hak hkn sz hlk hi hj;omega),if_pos (by clear hn hok hak hkn sz hlk hi;omega)];exact hs' _ _ (by clear hn hok hak hkn sz hlk hij hj;omega) (by clear hn hok hak hkn sz hlk hi hj;omega) (by clear hn hok hak hkn sz;omega)
     .rw[if_neg (by omega)];by_cases j1:j=lo+l
      .rw[if_pos j1];have:=hlo (i-lo) (by clear hn hok hak hkn sz;omega);rw[show lo+(i-lo)=i by clear hn hok hak hkn sz this;omega] at this;exact this
      .rw[if_neg j1];by_cases j2:lo+l<j
       .rw[if_pos (by omega)];exact hs' _ _ (by omega) (by clear hn hok hak hkn sz;omega) (by clear hn hok hak hkn sz hlk hi hij i2;omega)
       .rw[if_neg (by omega)];exact hs' _ _ (by omega) (by omega) (by clear hn hok hak hkn sz hi hij;omega)
end
section
variable {prog:qz}{w:jd}{A:jg}{E:zc->zp->Prop}{s:zp}{a₀:Array ql}
structure SR (a₀:Array ql) (st:jT) (lo:Nat):Prop where
 perm:(qT st).Perm a₀
 kind:kindOf st=oneType'
 fail:failedOf st=none
 runs:Runs (qT st) (jC st).toList 0 lo
 le:lo<=a₀.size
theorem SR.sg {st:jT}{lo:Nat} (h:SR a₀ st lo):SG a₀ (jC st) st:=⟨h.perm,h.kind,h.fail,rfl⟩
theorem SR.len {st:jT}{lo:Nat} (h:SR a₀ st lo):(jC st).size<=lo:=by
 have:=h.runs.le;rw[zW] at this;omega
theorem Ma {st:jT}{lo j hi:Nat}{Q:Bool->jT->Prop} (h0:IntKeys a₀) (hB:SR a₀ st lo) (hj:j+1<(jC st).size) (hS:xP (qT st) lo hi)
  (h:∀st',SR a₀ st' lo->(jC st').size+1=(jC st).size->xP (qT st') lo hi->Q true st'):wpS (model prog w) A E s (mergeAt' j) Q st:=by
 obtain⟨sa,na,pw,nb,pw2,e1,e2,n1,n2,_,g4,g5,g6,g7⟩:=Runs.at (j:=j) hB.runs (by rw[zW];exact hj);rw[xm] at e1 e2;have sz:(qT st).size=a₀.size:=hB.perm.size_eq;have hle:=hB.le;refine zdy hB.kind hB.fail (hB.sg.ik h0) e1 e2 n1 n2 (by clear hj;omega) g5 g6 fun st' k' f' p' o' s' pd'=>?_;refine h st' ⟨p'.trans hB.perm,k',f',?_,hB.le⟩ ?_ (hS.congr fun k k1 k2=>o' k (.inr (by clear hj sz hle;omega)))
 .have:=g7 (qT st') o' s';rw[pd',Wq,Xf];exact this
 .have e:(jC st').toList=((jC st).toList.set j (sa,na+nb,pw)).eraseIdx (j+1):=by rw[pd',Wq,Xf]
  have:=congrArg V7 e;rw[zW,List.length_eraseIdx,lQ,zW,if_pos hj] at this;omega
theorem RL {st:jT}{Q:Unit->jT->Prop} (h0:IntKeys a₀) (hB:SBase a₀ st) (h2:2<=a₀.size)
  (h:∀st',(qT st').Perm a₀->failedOf st'=none->SortedTo (qT st') a₀.size->Q () st'):wpS (model prog w) A E s sortRuns' Q st:=by
 have B0:SR a₀ st 0:=⟨hB.perm,hB.kind,hB.failed,by rw[hB.pend];rfl,qX _⟩;rw[sortRuns'_eq];refine zQ (bw ?_);dsimp only;simp only[hB.size];generalize minRun' a₀.size a₀.size 0=mr;refine zQ (Zg (vM (I:=fun x c st'=>∃lo,c=(none,lo)/\SR a₀ st' lo/\x<=lo)
  (Q:=fun c st'=>c=(none,a₀.size)/\SR a₀ st' a₀.size) ?step ?fin ⟨0,rfl,B0,zE _⟩) ?post)
 case fin=>
  rintro c st' ⟨lo,rfl,B,hx⟩;have:=B.le;have e:lo=a₀.size:=by omega
  subst e;exact⟨rfl,B⟩
 case step=>
  rintro x c st1 _ hx ⟨lo,rfl,B,hxl⟩;dsimp only;have hle:=B.le;by_cases hge:lo ≥ a₀.size
  .rw[if_pos hge];have e:lo=a₀.size:=by omega
   subst e;exact qi ⟨rfl,B⟩
  rw[if_neg hge];refine zQ (RK h0 (by omega) (by omega) B.sg fun m st2 B2 m1 m2 S2 O2=>?_);dsimp only;have R2:SR a₀ st2 lo:=⟨B2.perm,B2.kind,B2.fail,by rw[B2.pend];exact B.runs.congr fun k _ k2=>O2 k (.inl k2),hle⟩;apply jn2 (C:=fun st3 n=>SR a₀ st3 lo/\xP (qT st3) lo (lo+n)/\1<=n/\lo+n<=a₀.size)
  case g=>
   intro G;by_cases hlt:m<mr
   case pos=>
    rw[if_pos hlt];refine zQ (gG (Xi ⟨rfl,?_⟩));refine zQ (Gn h0 (by omega) (by omega) R2.sg S2 fun st3 B3 S3 O3=>?_);simp only[Yx,xq,if_false];have R3:SR a₀ st3 lo:=⟨B3.perm,B3.kind,B3.fail,by rw[B3.pend];exact R2.runs.congr fun k _ k2=>O3 k (.inl k2),hle⟩;have n1:1<=min (a₀.size-lo) mr:=by omega
    have n2:lo+min (a₀.size-lo) mr<=a₀.size:=by omega
    generalize min (a₀.size-lo) mr=n at S3 n1 n2 ⊢;exact G st3 n ⟨R3,S3,n1,n2⟩
   case neg=>
    rw[if_neg hlt];exact G st2 m ⟨R2,S2,m1,by omega⟩
  case b=>
   rintro st3 n ⟨R3,S3,n1,n2⟩;refine zQ (bw ?_);have push:∀st4:jT,SR a₀ st4 lo->xP (qT st4) lo (lo+n)->SR a₀ (setPending st4 ((jC st4).push (lo,n,0))) (lo+n):=fun st4 R4 S4=>
    ⟨R4.perm,R4.kind,R4.fail,by show Runs (qT st4) ((jC st4).push _).toList 0 _;rw[JC];exact R4.runs.snoc n1 S4,n2⟩
   cases hbk:(jC st3).back? with
   | none=>
    dsimp only;exact zQ (cM (qi ⟨_,rfl,push st3 R3 S3,by omega⟩))
   | some t=>
    obtain⟨s1,q1,z1⟩:=t;dsimp only;generalize power' a₀.size (2*s1+q1) (2*s1+q1+q1+n) a₀.size=pw;refine zQ (Zg (vM (I:=fun _ c st4=>c=(none,())/\SR a₀ st4 lo/\xP (qT st4) lo (lo+n))
     (Q:=fun c st4=>c=(none,())/\SR a₀ st4 lo/\xP (qT st4) lo (lo+n)) ?_ (fun _ _ y=>y) ⟨rfl,R3,S3⟩) ?_)
    .rintro y c st4 _ hy ⟨rfl,R4,S4⟩;refine zQ (bw ?_);by_cases hp:(jC st4).size > 1
     .rw[if_pos hp];cases hq:(jC st4)[(jC st4).size-2]? with
      | none=>
       dsimp only;exact qi ⟨rfl,R4,S4⟩
      | some u=>
       obtain⟨u1,u2,older⟩:=u;dsimp only;by_cases ho:older<=pw
       .rw[if_pos ho];exact qi ⟨rfl,R4,S4⟩
       .rw[if_neg ho];refine zQ (Ma h0 R4 (by omega) S4 fun st5 R5 _ S5=>?_);simp only[Yx,xq,if_false];exact qi ⟨rfl,R5,S5⟩
     .rw[if_neg hp];dsimp only;exact qi ⟨rfl,R4,S4⟩
    .rintro c st4 ⟨rfl,R4,S4⟩;dsimp only;refine zQ (cM ?_);have R5:SR a₀ (setPending st4 ((jC st4).modify ((jC st4).size-1) fun x=>(x.1,x.2.1,pw))) lo:=
      ⟨R4.perm,R4.kind,R4.fail,by show Runs (qT st4) ((jC st4).modify _ _).toList 0 _;rw[Array.toList_modify];exact R4.runs.pow _,hle⟩
     exact zQ (cM (qi ⟨_,rfl,push _ R5 S4,by omega⟩))
 case post=>
  rintro c st1 ⟨rfl,R1⟩;dsimp only;refine zQ (Zg (vM (I:=fun x c st2=>c=(none,())/\SR a₀ st2 a₀.size/\(jC st2).size<=max 1 (a₀.size-x))
   (Q:=fun c st2=>c=(none,())/\SR a₀ st2 a₀.size/\(jC st2).size<=1) ?_ ?_ ⟨rfl,R1,by have:=R1.len;omega⟩) ?_)
  .rintro x c st2 _ hx ⟨rfl,R2,p2⟩;refine zQ (bw ?_);by_cases hp:(jC st2).size<=1
   .rw[if_pos hp];exact qi ⟨rfl,R2,hp⟩
   rw[if_neg hp]
   try dsimp only
   have hS:xP (qT st2) a₀.size a₀.size:=fun i j a b c=>by clear p2 hp;omega
   split
   all_goals
    refine zQ (Ma h0 R2 (by split <;> omega) hS fun st3 R3 l3 _=>?_);simp only[Yx,xq,if_false];exact qi ⟨rfl,R3,by omega⟩
  .rintro c st2 ⟨rfl,R2,p2⟩;exact⟨rfl,R2,by omega⟩
  .rintro c st2 ⟨rfl,R2,p2⟩;refine qi (h st2 R2.perm R2.fail ?_);have hr:=R2.runs
   match hl:(jC st2).toList,hr with
   | [],hr=>
    have:(0:Nat)=a₀.size:=hr;omega
   | [(s1,n1,_)],⟨g1,g2,g3,g4⟩=>
    have e:s1+n1=a₀.size:=g4;subst g1;intro i j hij hj;exact g3 i j (qX _) hij (by omega)
   | _::_::_,_=>
    have:(jC st2).toList.length<=1:=by rw[zW];exact p2
    rw[hl] at this;simp at this
end
section
variable {prog:qz}{w:jd}{A:jg}{E:zc->zp->Prop}{s:zp}
theorem zrP {α:Type}:∀{l:List α},¬l.length<2->∃x y r,l=x::y::r
 | [],h=>absurd (by decide:(0:Nat)<2) h
 | [_],h=>absurd (by decide:(1:Nat)<2) h
 | x::y::r,_=>⟨x,y,r,rfl⟩
theorem zfs {a:zm}{vs:List zc}{ns:List Int}{n:Nat}{P:Fin->zp->Prop} (ho:s.heap.get? a=some (seqObj "list" vs.toArray n)) (hI:Yy vs ns) (hz:vs.length<=sizeLine)
  (h:∀(o:Array zc) (ms:List Int),Yy o.toList ms->ms.Perm ns->ms.Pairwise (·<=·)->P (.done (.ret .none)) { s with heap:=sortedHeap s.heap a vs o }) :
  wpAny (model prog w) A (pY.«list.sort» ⟨[.ref a],[]⟩) P E s:=by
 have ha:a<s.heap.objs.size:=zV ho;obtain⟨e1,ho1⟩:∃e1,(s.heap.update a (Ql fun _=>(#[]:Array zc))).get? a=some (seqObj "list" #[] e1):=⟨_,get?_update_seq ho fun _=>#[]⟩;rw[list_sort_plain];refine zr (listItems_at ho rfl ?_);refine zr (tu ho rfl ?_ (by rw[z7];exact hz) (qX _));refine zr (FN ho1 rfl ?_);refine zr (wpAny_newTuple ?_ (by show vs.length<=_;exact hz));refine zr (tD ?_ (qX _));refine jY ?_;show wpAny (model prog w) A _ P E { s with heap:=((s.heap.update a (Ql fun _=>(#[]:Array zc))).push (seqObj "tuple" vs.toArray 0)).push (seqObj "list" #[] 0) };dsimp only;have ho6:(((s.heap.update a (Ql fun _=>(#[]:Array zc))).push (seqObj "tuple" vs.toArray 0)).push (seqObj "list" #[] 0)).get? a=some (seqObj "list" #[] e1):=zO _ (zO _ ho1);have fin:∀c:Array ql,c.Perm (pairsOf vs)->SortedTo c (pairsOf vs).size->P (.done (.ret .none)) { s with heap:=sortedHeap s.heap a vs (c.map (·.2)) }:=fun c hp hs=>by
  obtain⟨ms,h1,h2,h3⟩:=sorted_out hI hp hs;exact h _ ms h1 h2 h3
 by_cases h2:vs.toArray.size<2
 .rw[if_pos h2,if_pos h2];refine zr (qj ?_);rw[StateT.run_pure];refine zr (qj ?_);dsimp only;refine zr (FN ho6 rfl ?_);refine zr (tu ho6 rfl ?_ (qX _) (by rw[Mi];show (pairsOf vs).size<=_;rw[lE];exact Wg hz));simp only[bne_self_eq_false,xq,if_false];rw[z7] at h2;refine qj (fin (pairsOf vs) (Gp _) fun i j hij hj=>?_);rw[lE] at hj;rw[show i=j by omega];exact jl _
 .rw[if_neg h2,if_neg h2];rw[z7] at h2;have kk:keyKind' vs.toArray=pure oneType':=by
   obtain⟨x,y,r,rfl⟩:=zrP h2;exact keyKind_ints hI
  rw[kk];refine zr (qj ?_);refine zr (jt (RL (a₀:=pairsOf vs) (st:=zgD oneType' (vs.toArray.zip vs.toArray) #[] 7 none)
   (Q:=fun _ st=>(qT st).Perm (pairsOf vs)/\failedOf st=none/\SortedTo (qT st) (pairsOf vs).size) hI.intKeys ⟨Gp _,rfl,rfl,rfl⟩ (by rw[lE];omega) fun st c1 c2 c3=>⟨c1,c2,c3⟩) ?_ fun _ _ e=>e)
  rintro⟨⟨⟩,st⟩ s' ⟨rfl,hp,hf,hs⟩;dsimp only;refine zr (FN ho6 rfl ?_);refine zr (tu ho6 rfl ?_ (qX _) (qd (Ce ((Mi ..).trans (hp.size_eq.trans (lE _)))) (Wg hz)));rw[hf];simp only[bne_self_eq_false,xq,if_false];exact qj (fin (qT st) hp hs)
theorem sortedB {l:zm}{vs:List zc}{ns:List Int}{Q:zc->zp->Prop} (hl:s.heap.IsList l vs.toArray) (hI:Yy vs ns) (hz:vs.length<=sizeLine)
  (h:∀(o:Array zc) (ms:List Int),Yy o.toList ms->ms.Perm ns->ms.Pairwise (·<=·)->Q (.ref (s.heap.objs.size+1)) { s with heap:=sortedAll s.heap vs o }) :
  wpAny (model prog w) A (call (.builtin "sorted") [.ref l]) Q E s:=by
 refine cO kind_sorted plain_sorted entry_sorted (args_sorted1 _) ?_;unfold pY.«sorted»;refine zr (m:=checkCount "sorted" 1 1 _) (qj ?_);refine zr (collect_list hl ?_ hz);refine zr (tD ?_ (by show vs.length<=_;exact hz));have hsz:((s.heap.push (seqObj "list" #[] 0)).update s.heap.objs.size (Ql (·++vs.toArray))).objs.size=s.heap.objs.size+1:=by
  rw[Heap.size_update,size_push']
 have hoL:(((s.heap.push (seqObj "list" #[] 0)).update s.heap.objs.size (Ql (·++vs.toArray))).push (seqObj "list" vs.toArray 0)).get? (s.heap.objs.size+1)=some (seqObj "list" vs.toArray 0):=by
  rw[<- hsz];exact jf _ rfl
 show wpAny _ _ _ _ _ { s with heap:=((s.heap.push (seqObj "list" #[] 0)).update s.heap.objs.size (Ql (·++vs.toArray))).push (seqObj "list" vs.toArray 0) };rw[hsz];refine zr (jY (Yb Nf ⟨_,hoL,rfl⟩ Gy (zfs hoL hI hz fun o ms c1 c2 c3=>⟨_,rfl,?_⟩) (MP _)));exact qj ⟨_,rfl,h o ms c1 c2 c3⟩
end
end SB
namespace L2
open PySem PyProof.Rows
section
variable {X:Cx}
theorem Oo:VP X (.builtin "sorted") (fun xs H Q=>∃(p:zm) (ns:List Int),xs=[.ref p]/\SqL X.K H p (ns.map V.int)/\∀(l:zm) (ms:List Int),H l=none->ms.Perm ns->ms.Pairwise (·<=·)->Q (.ref l) (upd H l (.lst (ms.map V.int)))):=by
 intro zj s σ H xs us Q I r h;obtain⟨p,ns,rfl,hq,q⟩:=h;obtain⟨u,rfl,ru⟩:=vals1 r;cases ru;obtain⟨vs,hl,hi,hz⟩:=I.ints hq;refine SB.sortedB hl hi (by rw[hi.length];exact hz) fun out ms a1 a2 a3=>?_;obtain⟨e,he⟩:=sortedAll_at s.heap vs out;have new:Zn X.prog X.w (upd H (s.heap.objs.size+1) (.lst (ms.map V.int))) (sortedAll s.heap vs out) (s.heap.objs.size+1) (.lst (ms.map V.int)):=⟨by rw[zf,a2.length_eq];exact hz,out.toList,e,Eh a1,by simpa [seqObj] using he⟩;exact⟨.ref (s.heap.objs.size+1),_,I.laid (t':=s.toks) (fun _ _=>sortedAll_old) (dB _) new,rfl,q _ ms (I.hok.fresh (dB _)) a2 a3⟩
end
end L2
namespace L2
open PySem PySem.Spec PyProof.Rows
def zpI (kvs:List (Key×V)):Prop:=∀p∈kvs,∃s:Str,p.1=xG s
theorem zod {P:qz}{w:jd}{s:Str}{u:zc} (h:(xF P w).is (xG s) u=true):∃t,u=.str s t:=by
 have h:Fd (xG s) u=true:=h;cases u <;> first
  | exact⟨_,by rw[show _=s from eq_of_beq h]⟩
  | cases h
section
variable {P:qz}{w:jd}{A:jg}{E:zc->zp->Prop}{s:zp}
theorem zog {it d:zm}{i ep:Nat}{vs:List (Key×zc)}{p:Key×zc}{Q:Option zc->zp->Prop} (ki:s.heap.IsKeyIter it d i vs.length ep) (da:s.heap.DictAt (xF P w) d vs ep) (nz:NZK s.heap d) (hx:vs[i]?=some p)
  (q:∀key h',(xF P w).is p.1 key=true->(∀x,key≠.str x 0)->h'.IsKeyIter it d (i+1) vs.length ep->wL it s.heap h'->Q (some key) { s with heap:=h' }):wpAny (model P w) A (pyNext (.ref it)) Q E s:=by
 have T:=ki.typeIs;obtain⟨o,k1,k2,k3⟩:=ki;obtain⟨od,es,d1,d2,d3,d4,d5,d6⟩:=da;have sz:es.size=vs.length:=by have:=d5.length;rwa[zW] at this
 have hi:i<es.size:=by rw[sz];exact(List.getElem?_eq_some_iff.mp hx).1
 unfold pyNext;refine zr (YC (gD (name:=Qc "__next__") T VH (Yb VH T PySem.F.entry_dict_keyiterator_next (zr (qj (zr (zr ?_)))) (PySem.F.args_dict_keyiterator_next_1 _))))
 first
  | refine zr (Y6 T (qj (zr (Ni k1 k3 ?_))))
  | refine zr (fG T (qj (zr (Ni k1 k3 ?_))))
 simp only[show Gq "dict_keyiterator"=false by decide,xq,if_false];change wpAny _ _ (if (jx d == W8)=true then _ else _) _ _ s;rw[if_neg (by exact qI)];refine zr (qj (zr (wpAny_dictEntries d1 d3 ?_)));rw[if_neg (by rw[sz];simp)];refine zr (qj (zr (wpAny_dictEpoch d1 d3 ?_)));rw[if_neg (by simp)];refine qj ?_;simp only[show ¬((i:Int)<0) by omega,if_false,yf,yr hi];refine zr ?_
 first
  | refine zr (Y6 T (qj (zr (Wt T ?_))))
  | refine zr (fG T (qj (zr (Wt T ?_))))
 change wpAny _ _ (setField (.ref it) 1 (rawInt ((i:Int)+1)) >>= _) _ _ s;have g:=yx (YB (·.setIfInBounds 1 (rawInt ((i:Int)+1)))) k1 (mC (VG k3 _));have st:(s.heap.update it (YB (·.setIfInBounds 1 (rawInt ((i:Int)+1))))).IsKeyIter it d (i+1) vs.length ep:=⟨_,g,(Obj.cls_mapFields ..).trans k2,by rw[VG k3];simp[rawInt]⟩;refine zr (Nq k1 k3 (by simp) (zr (jY (zr (Wt (s:={ s with heap:=s.heap.update it (YB (·.setIfInBounds 1 (rawInt ((i:Int)+1)))) }) st.typeIs ?_)))));change wpAny _ _ (pure es[i].key) _ _ _;exact qj (qj ⟨_,rfl,qj (q _ _ (d5.get? (e:=es[i]) (by simp[hi]) hx).1 (nz od es ep d1 d3 _ (dj hi)) st (Xz ..))⟩)
theorem zoV (hh:A.handled=none) (it d:zm) (ne:d≠it) (vs:List (Key×zc)) (ep:Nat) :
  Walks P w A it [it,d] [it] vs.length (fun i v=>(∃p,vs[i]?=some p/\(xF P w).is p.1 v=true)/\∀x,v≠.str x 0) (fun i h=>h.IsKeyIter it d i vs.length ep/\h.DictAt (xF P w) d vs ep/\NZK h d) where
 sub:=fun b hb=>by
  rw[List.mem_singleton] at hb;simp[hb]
 frame:=fun i h h' st k=>by
  obtain⟨o,es,d1,_⟩:=id st.2.1;exact⟨st.1.at (k it (by simp)),st.2.1.at' (k d (by simp)),st.2.2.at d1 (k d (by simp) _ d1)⟩
 item:=fun i s Q E hi st q=>by
  refine zog st.1 st.2.1 st.2.2 (zq hi) fun key h' a b c sb=>?_;obtain⟨o,es,d1,_⟩:=id st.2.1;exact q key h' s.toks ⟨⟨_,zq hi,a⟩,b⟩ ⟨c,st.2.1.extBut sb.extBut ne,st.2.2.at d1 (sb.extBut d _ ne d1)⟩ fun b o hb e=>sb.extBut b o (fun z=>hb (by simp[z])) e
 done:=fun s Q E st q=>wpAny_pyNext_dict_end hh st.1 st.2.1 (by simp) fun h' e=>q h' s.toks fun b o hb z=>e b o (fun y=>hb (by simp[y])) z
 self:=fun _ _ _ _ st q=>wpAny_pyIter_keyiter st.1 q
theorem zrE {d:zm}{vs:List (Key×zc)}{ep:Nat} (lo:(d == sysModules)=false) :
  W.KdlSrc P w "dict" d d vs.length (fun i v=>(∃p,vs[i]?=some p/\(xF P w).is p.1 v=true)/\∀x,v≠.str x 0) (fun h=>h.DictAt (xF P w) d vs ep/\NZK h d) where
 type:=fun _ m=>m.1.dictOf.typeIs
 there:=fun _ m=>⟨m.1.lt_size,m.1.lt_size⟩
 keep:=fun _ _ m k=>by
  obtain⟨o,es,d1,_⟩:=id m.1;exact⟨m.1.at' (k d (.inl rfl)),m.2.at d1 (k d (.inl rfl) _ d1)⟩
 notList:=by decide
 notTuple:=by decide
 hint:=fun _ _ _ _ m q=>W.kdl_hint_dict m.1.dictOf.typeIs q
 iter:=fun _ _ hh m=>by
  obtain⟨o,es,d1,_⟩:=id m.1;exact⟨_,_,(fun _ _ q=>wpAny_pyIter_dict lo m.1 q),zoV hh _ d (qY m.1.lt_size) vs ep,⟨_,jf _ rfl,rfl,rfl⟩,m.1.push _,m.2.at d1 (zO _ d1)⟩
end
theorem zoL:∀{l l':List zc},(∀v∈l',v∈l)->(∀v∈l,∀x,v≠.str x 0)->∀{ss:List Str},Hh l' ss->Vals (ss.map V.str) l':=by
 intro l l' p h ss r;have h':∀v∈l',∀x,v≠.str x 0:=fun v hv=>h v (p v hv);clear p h
 induction r with
 | nil=>exact .nil
 | cons y t r ih=>exact .cons ⟨⟨t,fun z=>h' _ (zJ ..) y (by rw[z])⟩,rfl⟩ (ih fun v hv=>h' v (zG _ hv))
section
variable {X:Cx}
theorem rG (hc:X.calm=true):VP X (.builtin "sorted") (fun xs H Q=>∃(d:zm) (kvs:List (Key×V)),xs=[.ref d]/\H d=some (.dK kvs)/\zpI kvs/\kvs.length<64/\∀(l:zm) (ss:List Str),H l=none->(ss.map xG).Perm (kvs.map (·.1))->Q (.ref l) (upd H l (.lst (ss.map V.str)))):=by
  intro zj s σ H xs us Q I r h;obtain⟨d,kvs,rfl,hd,ht,h64,q⟩:=h;obtain⟨u,rfl,ru⟩:=vals1 r;cases ru;obtain⟨_,hs,vs,⟨r,nz⟩,dof⟩:=I.hok d _ hd;obtain⟨ep,da⟩:=dof.dictAt;have hl:=r.length;refine cO kind_sorted plain_sorted entry_sorted (args_sorted1 _) ?_;unfold pY.«sorted»;refine zr (m:=checkCount "sorted" 1 1 _) (qj ?_);refine zr (Ja (W.kdu_collect (zrE (P:=X.prog) (w:=X.w) (vs:=vs) (ep:=ep) hs) (by show X.A.handled=none;exact I.ok.hd hc) ⟨da,nz⟩ (by
       have h:(64:Nat)<=sizeLine:=by decide
       omega) fun h' tk acc k ia (htk:s.toks<=tk)=>?_))
  have hal:acc.toList.length=kvs.length:=by rw[zW,ia.1,hl]
  obtain⟨ss,hss,hkeys⟩:∃ss:List Str,Hh acc.toList ss/\ss.map xG=kvs.map (·.1):=by
    have key:∀(l:List zc) (ks:List (Key×V)),l.length=ks.length->zpI ks->(∀(i:Nat) v,l[i]?=some v->∃p,ks[i]?=some p/\(xF X.prog X.w).is p.1 v=true)->∃ss:List Str,Hh l ss/\ss.map xG=ks.map (·.1):=by
      intro l
      induction l with
      | nil=>
        intro ks hl _ _;cases ks with
        | nil=>exact⟨[],.nil,rfl⟩
        | cons _ _=>cases hl
      | cons v l ih=>
        intro ks hl ht hp;cases ks with
        | nil=>cases hl
        | cons p ks=>
          obtain⟨p',e1,e2⟩:=hp 0 v rfl;cases e1;obtain⟨sx,es⟩:=ht p (zJ ..);rw[es] at e2;obtain⟨t,rfl⟩:=zod e2;obtain⟨ss,i1,i2⟩:=ih ks (Wh hl) (fun z hz=>ht z (zG _ hz)) (fun i v hv=>hp (i+1) v hv);exact⟨sx::ss,.cons sx t i1,by rw[zY,zY,i2,es]⟩
    refine key _ _ hal ht fun i v hv=>?_;rw[xm] at hv;obtain⟨⟨⟨kk,x⟩,h1,h2⟩,_⟩:=ia.2 i v hv;have hi:i<kvs.length:=by
      have:=(List.getElem?_eq_some_iff.mp h1).1;omega
    have:=congrArg (fun l=>l[i]?) r.keys;simp only[qF,h1,zq hi,Jg,Cj] at this;exact⟨kvs[i],zq hi,by rw[this];exact h2⟩
  refine zr (tD ?_ (by
       have h:(64:Nat)<=sizeLine:=by decide
       omega))
  have hoL:(h'.push (seqObj "list" acc.toList.toArray 0)).get? h'.objs.size=some (seqObj "list" acc.toList.toArray 0):=jf _ rfl;have I1:Inv X zj σ H { s with heap:=h',toks:=tk }:=I.kept k;refine zr (jY (Yb Nf ⟨_,hoL,rfl⟩ Gy (list_sort_treeK strKind_oneLt hoL hss.keysOf (fun v1 v2 rest e=>keyKind_strs (e ▸ hss)) (by rw[hal];exact h64) fun st p1 p2=>⟨_,rfl,?_⟩) (MP _)));obtain⟨ss',a1,a2,a3⟩:=sorted_out_str hss p1 p2;have hmm:∀v∈(Ur (fun x=>x.snd) (qT st)).toList,v∈acc.toList:=fun v hv=>by
    rw[Array.toList_map] at hv;obtain⟨p,hp,rfl⟩:=List.mem_map.mp hv;have:=(Array.perm_iff_toList_perm.mp p1).mem_iff.mp hp;rw[pairsOf_toList] at this;exact(aB this).2
  have hnz:∀v∈acc.toList,∀x,v≠.str x 0:=fun v hv=>by
    obtain⟨i,hi,rfl⟩:=List.mem_iff_getElem.mp hv;exact(ia.2 i _ (by rw[yr (by simpa using hi)];simp)).2
  obtain⟨e,he⟩:=sortedHeap_at (out:=Ur (fun x=>x.snd) (qT st)) hoL;have hl':ss'.length=kvs.length:=by
    rw[a2.length_eq];have:=congrArg V7 hkeys;simpa using this
  refine qj ⟨_,rfl,.ref h'.objs.size,_,I1.laid (t':=tk) (fun b o hb=>?_) (zE _) (o:=.lst (ss'.map V.str)) ⟨by
       have h:(64:Nat)<=sizeLine:=by decide
       rw[zf];omega,(Ur (fun x=>x.snd) (qT st)).toList,e,zoL hmm hnz a1,by rw[Array.toArray_toList];exact he⟩,rfl,q _ ss' (I1.hok.fresh (zE _)) (by rw[<- hkeys];exact a2.map _)⟩
  have hlt:b<h'.objs.size:=zV hb;rw[sortedHeap_old (qY hlt) (by rw[size_push'];exact dD hlt)];exact zO _ hb
end
end L2
namespace L2
open PySem
section
variable {env:Env}{es:List jD}
theorem z6 {c:Const}{j:Nat}{p:Pos}:z9 (.Constant c j p::es) env=(false,eval (.Constant c j p) env)::z9 es env:=rfl
theorem qm {x:Str}{p:Pos}:z9 (.Name x p::es) env=(false,eval (.Name x p) env)::z9 es env:=rfl
theorem KY {a b:jD}{o:Operator}{p:Pos}:z9 (.BinOp a o b p::es) env=(false,eval (.BinOp a o b p) env)::z9 es env:=rfl
theorem Zf {f:jD}{as:List jD}{ks:List Vn}{p:Pos}:z9 (.Call f as ks p::es) env=(false,eval (.Call f as ks p) env)::z9 es env:=rfl
theorem LC {a b:jD}{p:Pos}:z9 (.Subscript a b p::es) env=(false,eval (.Subscript a b p) env)::z9 es env:=rfl
end
end L2
namespace L2
open PySem PySem.Spec PyProof.Rows
structure WE (X:Cx) (e:jD) (t:TE):Prop where
 h:PE X e t
structure WA (X:Cx) (es:List jD) (t:TA):Prop where
 h:PA X es t
structure WT (X:Cx) (e:jD) (t:TT):Prop where
 h:PT X e t
structure WS (X:Cx) (st:jV) (t:TS):Prop where
 h:PS X st t
structure WSs (X:Cx) (b:List jV) (t:TS):Prop where
 h:PSs X b t
section
variable {X:Cx}{e a b o:jD}{es:List jD}{te ta tb to:TE}{t:TA}{u v:TS}{st:jV}{rest:List jV}{pos:Pos}
theorem zbg {D:Ends}{σ:St}{H:Hp} (h:WSs X rest u) (k:u D σ H):∃t,PSs X rest t/\t D σ H:=⟨u,h.h,k⟩
theorem ZP:WSs X [] zp1:=⟨j4⟩
theorem je (h1:WS X st u) (h2:WSs X rest v):WSs X (st::rest) (zmf u v):=⟨zF h1.h h2.h⟩
theorem wz (h1:WS X st u):WSs X [st] u:=⟨zR h1.h⟩
theorem cN {c:jD}{x y:List jV}{tc:TT} (hc:WT X c tc) (ha:WSs X x u) (hb:WSs X y v):WS X (.If c x y pos) (zmd tc u v):=⟨wO hc.h ha.h hb.h⟩
theorem Jz (he:WE X e te):WS X (.Return (some e) pos) (zxj te):=⟨ju he.h⟩
theorem wX {i:Nat}{x:Str} {pos':Pos} (hN:X.N.Nodup) (hi:X.N[i]?=some x) (hx:L2.Loc X.env.scope x) (he:WE X e te) (hs:swapsWith e (some (.Name x pos')) pos.line X.env=pure false:=by rfl) (hl:X.fn x=true∨X.env.scope.names.lookup x=some .local:=by first | exact .inl rfl | exact .inr rfl | assumption):WS X (.Assign [.Name x pos'] e pos) (zmb te (rP i)):=⟨jb hN hi hx he.h hs hl⟩
theorem zbf (he:WE X e te) (hs:swapsWith e none pos.line X.env=pure false:=by rfl):WS X (.Expr e pos) (zp0 te):=⟨aP he.h hs⟩
theorem zp3 {tg iter:jD}{body:List jV}{wi:TI}{g:TG}{tb:TS} (hp:UL (model X.prog X.w) X.A X.env X.xe) (hc:X.calm=true) (hi:PI X tg iter wi) (hg:PG X tg g) (hb:WSs X body tb) (hs:∀x,foldedSetIterable iter X.env x=pure x:=by intro _;rfl):WS X (.For tg iter body [] pos) (zxg wi g tb):=⟨bY hp hc hi hg hb.h hs⟩
theorem jA {x:Str}{j:Nat}:WE X (.Constant (.str x) j pos) (tC (.str x)):=⟨jG⟩
theorem di (h:WA X es t):WE X (.List es pos) (zxh t):=⟨eX h.h⟩
theorem rT {x1} (h:WA X es t):WE X (.Tuple es x1 pos) (zxl t):=⟨nW h.h⟩
theorem zbh {r:R2} (hr:IxR X r) (ha:WE X a ta) (hb:WE X b tb) (hs:zgZ b):WE X (.Subscript a b pos) (tOp r ta tb):=⟨kZ hr ha.h hb.h hs⟩
theorem Qh {op:Operator}{r:R2} (ho:OpR X (binaryOp op) r) (ha:WE X a ta) (hb:WE X b tb):WE X (.BinOp a op b pos) (tOp r ta tb):=⟨jc ho ha.h hb.h⟩
theorem qK:WA X [] zrM:=⟨zB⟩
theorem zx (ha:WE X e te) (hr:WA X es t) (hs:z9 (e::es) X.env=(false,eval e X.env)::z9 es X.env:=by rfl):WA X (e::es) (zpZ te t):=⟨za ha.h hr.h hs⟩
theorem dh {op:Mm}{r:R2} (ho:OpR X (compareOp op) r) (ha:WE X a ta) (hb:WE X b tb) (hm:behindInMarks op b=false):WT X (.Compare a [op] [b] pos) (zp2 (tOp r ta tb)):=⟨jh ho ha.h hb.h hm⟩
theorem oJ {op:Mm}{r:R2} (ho:OpR X (compareOp op) r) (ha:WE X a ta) (hb:WE X b tb) (hm:behindInMarks op b=false):WE X (.Compare a [op] [b] pos) (tOp r ta tb):=⟨G3 ho ha.h hb.h hm⟩
theorem Xd {k:Nat}{x:Str}{ps:List Str}{sp:Sp}{p:Pos} (F:Fn X.prog X.w X.K X.mg X.base k x ps sp) (hr:JG k X.A) (hg:Gl X x) (ha:WA X (e::es) t) (hdb:(x == ("__debug__":Str))=false:=by decide) (hs:z9 (e::es) X.env=(false,eval e X.env)::z9 es X.env:=by rfl) (hs2:(backTo pos (z9 es X.env)).any (·.1)=false:=by rfl):WE X (.Call (.Name x p) (e::es) [] pos) (tFn sp t):=⟨vJ F hr hg ha.h hdb hs hs2⟩
theorem yw {x:Str}{p:Pos}{T:String}{r:List V->Hp->VK->Prop} (hc:VP X (.type T) r) (hg:Gl X x) (hm:X.mg x=none) (hv:bootBuiltins x=some (.type T)) (ha:WA X (e::es) t) (hn:x≠"__name__":=by decide) (hdb:(x == ("__debug__":Str))=false:=by decide) (hs:z9 (e::es) X.env=(false,eval e X.env)::z9 es X.env:=by rfl) (hs2:(backTo pos (z9 es X.env)).any (·.1)=false:=by rfl):WE X (.Call (.Name x p) (e::es) [] pos) (tCB r t):=⟨Xo hc hg hm hv ha.h hn hdb hs hs2⟩
theorem pQ {x:Str}{p:Pos}{id:String}{r:List V->Hp->VK->Prop} (hc:VP X (.builtin id) r) (hg:Gl X x) (hm:X.mg x=none) (hv:bootBuiltins x=some (.builtin id)) (ha:WA X (e::es) t) (hn:x≠"__name__":=by decide) (hdb:(x == ("__debug__":Str))=false:=by decide) (hs:z9 (e::es) X.env=(false,eval e X.env)::z9 es X.env:=by rfl) (hs2:(backTo pos (z9 es X.env)).any (·.1)=false:=by rfl):WE X (.Call (.Name x p) (e::es) [] pos) (tCB r t):=⟨jz hc hg hm hv ha.h hn hdb hs hs2⟩
theorem BJ {name:Str}{WF:Pos}{T id:String}{r:V->List V->Hp->VK->Prop} (pa:Mx T) (slot:Slot T name id) (hty:typeOf (.builtin id)=pure (.type "method_descriptor")) (hm:MtR X id r) (ho:WE X o to) (ha:WA X (e::es) t)
  (hb:attributeBase o name X.env (eval o X.env)=eval o X.env:=by rfl) (h2:((backTo pos (z9 (e::es) X.env)).all (fun x=>!x.1) && (backToKw pos (keywordEach [] X.env)).all (fun x=>x.1.isSome) && decide ((e::es).length+([]:List Vn).length+(if ([]:List Vn).isEmpty=true then 0 else 1)<30))=true:=by rfl) (h3:(WF.endLine == pos.line)=true:=by rfl) (hs:z9 (e::es) X.env=(false,eval e X.env)::z9 es X.env:=by rfl) (hs2:(backTo pos (z9 es X.env)).any (·.1)=false:=by rfl):WE X (.Call (.Attribute o name WF) (e::es) [] pos) (tBM X.K T r to t):=⟨lO pa slot hty hm ho.h ha.h hb h2 h3 hs hs2⟩
end
end L2
namespace L2
open PySem PySem.Spec PyProof.Rows Builtin.Str
theorem zja (x y z:Str) (t u:Tok) (h0:u≠0):Gives (pY.«str.replace» ⟨[.str x t,.str y u,.str z u],[]⟩) (.val (.str x t)):=by
 have e:isSame (.str y u) (.str z u)=pure true:=by
  show (if (u == 0 || u == 0)=true then _ else if (u == u)=true then _ else _:Sem Bool)=_;rw[if_neg (by simp[h0]),if_pos (by simp)]
 show Gives (if _=true then _ else (isSame (.str y u) (.str z u) >>= _)) _;rw[e];split
 .exact .rule (.of_eq rfl)
 .exact .rule (.of_eq rfl)
section
variable {X:Cx}
theorem ziz:VP X (.type "str") (fun xs H Q=>∃x,xs=[x]/\((x=.non/\Q (.str "None") H)∨∃i,x=.int i/\i.natAbs.log2<1920/\Q (.str (toString i)) H)):=by
 intro zj s σ H xs us Q I r h;obtain⟨x,rfl,⟨rfl,q⟩ | ⟨i,rfl,hz,q⟩⟩:=h
 .obtain⟨u,rfl,e⟩:=vals1 r;cases e;exact PySem.P.str_of_none ⟨.str _,H,I.tok _,⟨⟨_,I.nz⟩,rfl⟩,q⟩
 .obtain⟨u,rfl,t,rfl⟩:=vals1 r;exact uN hz ⟨.str _,H,I.tok _,⟨⟨_,I.nz⟩,rfl⟩,q⟩
theorem zfz:MtR X "str.replace" (fun x vs H Q=>∃a b c,x=.str a/\vs=[.str b,.str c]/\b≠c/\a.length+(a.length+1)*c.length<=16777216/\Q (.str a) H/\Q (.str (Txt.replace a b c)) H):=by
 intro zj s σ H x xs v us Q I rx rs h;obtain⟨a,b,c,rfl,rfl,hn,hz,q1,q2⟩:=h;obtain⟨t,rfl⟩:=rx;obtain⟨u1,u2,rfl,w1,w2⟩:=vals2 rs;obtain⟨t1,rfl⟩:=w1;obtain⟨t2,rfl⟩:=w2;by_cases e:t1.1=t2.1
 .rw[<- e];exact call_gives F.slot_str_replace (Zd _ _ _) F.entry_str_replace (F.args_str_replace_3 _ _ _) (zja a b c t.1 t1.1 t1.2) ⟨.str a,H,I.tok _,⟨t,rfl⟩,q1⟩
 .have h1:=mD a b 0 a.length (a.length+1);have h2:(occurrences a b 0 a.length (a.length+1)).length*c.length<=(a.length+1)*c.length:=Z9 _ h1;have hl:tooLong (a.length+(occurrences a b 0 a.length (a.length+1)).length*c.length)=false:=by
   unfold tooLong sizeLine;exact decide_eq_false (by omega)
  refine call_gives F.slot_str_replace (Zd _ _ _) F.entry_str_replace (F.args_str_replace_3 _ _ _) (gives_str_replace a b c t.1 t1.1 t2.1 fun _=>⟨by simp[t1.2,t2.2],by simp[e],by simp[hn],hl⟩) ?_;unfold Txt.replace at q2;exact zdb I.tk t.2 (fun _=>fits_replaced b hz) fun t' k hk=>⟨.str _,H,I.tok _,⟨t',rfl⟩,q2⟩
end
end L2
namespace Bw
open PySem L2
open Builtin.Int (intBits)
variable {P:qz}{w:jd}{K:zg}{mg:Str->Option zc}{base:jW}
def top (i:Nat):jV:=PySem.Challenge.pw_bellwrite_k79_whole_desk_goes_on.main.body.getD i (.Pass ⟨0,0,0,0⟩)
abbrev fV:jV:=top 1
abbrev fW:jV:=top 2
abbrev YQ:jV:=top 3
abbrev KJ:jV:=top 4
abbrev X8:jV:=top 5
abbrev fU:jV:=top 16
abbrev YH:jV:=top 17
abbrev KQ:jV:=top 18
abbrev KN:jV:=top 19
abbrev QB:jV:=top 20
abbrev Z2:jV:=top 22
abbrev XX:jV:=top 23
abbrev YK:jV:=top 25
abbrev X3:jV:=top 27
abbrev Z1:jV:=top 28
abbrev cA:jV:=top 29
abbrev Bs:jV:=top 30
abbrev cj:jV:=top 32
abbrev Lz:jV:=top 33
abbrev uF:jV:=top 34
abbrev Zt:jV:=top 36
abbrev Bt:jV:=top 37
abbrev JW:jV:=top 38
abbrev JZ:jV:=top 43
abbrev cz:jV:=top 44
abbrev oE:jV:=top 45
abbrev ZD:jV:=top 46
abbrev Bu:jV:=top 47
abbrev YM:jV:=top 48
abbrev wJ:jV:=top 49
abbrev X5:jV:=top 57
abbrev cu:jV:=top 58
abbrev X4:jV:=top 59
abbrev KR:jV:=top 60
abbrev X6:jV:=top 61
abbrev YJ:jV:=top 62
abbrev YS:jV:=top 63
abbrev J1:jV:=top 64
abbrev Va:jV:=top 65
abbrev YL:jV:=top 69
abbrev X7:jV:=top 70
abbrev JX:jV:=top 71
abbrev Qz:jV:=top 72
abbrev Q9:jV:=top 74
abbrev XN:jV:=top 75
abbrev KC:jV:=top 76
abbrev XQ:jV:=top 77
abbrev Kz:jV:=top 78
abbrev KH:jV:=top 79
abbrev XS:jV:=top 80
abbrev JT:jV:=top 81
abbrev XR:jV:=top 82
abbrev KD:jV:=top 83
abbrev JV:jV:=top 84
abbrev Ed:jV:=top 85
abbrev Qf:jV:=inClass (top 67) 0
abbrev QQ:jV:=inClass (top 68) 0
abbrev QV:jV:=inClass (top 68) 1
abbrev QR:jV:=inClass (top 68) 2
abbrev QT:jV:=inClass (top 68) 3
abbrev ZC:jV:=inClass (top 68) 4
abbrev ye:jV:=inClass (top 68) 5
abbrev QS:jV:=inClass (top 68) 6
structure Own (K:zg) (xZ j5:zm):Prop where
 c_Frame:Cls K xZ
 n_Frame_turns:Jo K xZ "turns"
 n_Frame_bells:Jo K xZ "bells"
 n_Frame_late:Jo K xZ "late"
 n_Frame_frames:Jo K xZ "frames"
 c_Desk:Cls K j5
 n_Desk_turns:Jo K j5 "turns"
 n_Desk_bells:Jo K j5 "bells"
 n_Desk_late:Jo K j5 "late"
 n_Desk_frames:Jo K j5 "frames"
 d_Frame_init:∃f,zch K "__init__" "Frame.__init__" Qf ["self","turns","bells","late"] f/\Mk K xZ f
 d_Desk_init:∃f,zch K "__init__" "Desk.__init__" QQ ["self"] f/\Mk K j5 f
 d_Desk_told:∃f,zch K "told" "Desk.told" QV ["self","order"] f/\Meth K j5 "told" f
 d_Desk_keep:∃f,zch K "keep" "Desk.keep" QR ["self","words"] f/\Meth K j5 "keep" f
 d_Desk_ring:∃f,zch K "ring" "Desk.ring" QT ["self","words"] f/\Meth K j5 "ring" f
 d_Desk_listen:∃f,zch K "listen" "Desk.listen" ZC ["self","words"] f/\Meth K j5 "listen" f
 d_Desk_send_note:∃f,zch K "send_note" "Desk.send_note" ye ["self","words"] f/\Meth K j5 "send_note" f
 d_Desk_kept:∃f,zch K "kept" "Desk.kept" QS ["self","name"] f/\Meth K j5 "kept" f
structure Txt (K:zg) (mg:Str->Option zc):Prop where
 z_range:mg "range"=none
 z_isinstance:mg "isinstance"=none
 z_int:mg "int"=none
 z_bool:mg "bool"=none
 z_len:mg "len"=none
 z_list:mg "list"=none
 z_max:mg "max"=none
 z_min:mg "min"=none
 z_enumerate:mg "enumerate"=none
 z_sorted:mg "sorted"=none
 z_sum:mg "sum"=none
 z_all:mg "all"=none
 z_str:mg "str"=none
 zhK:mg "zip"=none
 z_reversed:mg "reversed"=none
 z_ValueError:mg "ValueError"=none
noncomputable def cellOf (ns:List Int) (k:Int):Int:=ns.getD k.toNat 0
def zl3 (K:zg):Sp:=fun vs H Q _=>∃(a:zm) (ns:List Int) (k:Int),vs=[.ref a,.int k]/\SqL K H a (ns.map V.int)/\0<=k/\Q (.int (cellOf ns k)) H
structure zzk (row:List Int):Prop where
 inc:row.Pairwise (· < ·)
 nn:∀x∈row,0<=x
 sz:∀x∈row,x<2 ^ 200
theorem zal {ns:List Int}{k:Nat}{x:Int} (h:ns[k]?=some x):atI (ns.map V.int) (k:Int)=some (V.int x):=Yc (by rw[qF,h];rfl)
noncomputable def ziG (ns:List Int) (lo hi:Option Int):List Int:=(ns.drop (HT.sIx ns.length 0 lo)).take (HT.sIx ns.length ns.length hi-HT.sIx ns.length 0 lo)
theorem zn3 (ns:List Int) (lo hi:Option Int):zaz (ns.map V.int) lo hi=(ziG ns lo hi).map V.int:=by
 unfold zaz ziG;rw[zf,List.map_take,List.map_drop]
abbrev bmV:List zc:=[.type "ValueError",.type "Exception",.type "BaseException",.type "object"]
theorem zk3 {P:qz}{w:jd}{K:zg}{mg:Str->Option zc}{base:jW}{k:Nat}{x:Str}{ps:List Str}{sp:Sp} (F:FnE P w K mg base k x ps sp):Fn P w K mg base k x ps (fun vs H Q _=>sp vs H Q E0):=by
 obtain⟨f,fd,F,kp,b,m⟩:=F;refine⟨f,fd,⟨fun vs H Q _ h=>F.len vs H Q E0 h,fun A outer s H args us vs Q E hr e0 hp hb r h=>Q5 (F.run A outer s H args us vs Q E0 hr e0 hp hb r h) fun rr s' q=>?_⟩,kp,b,m⟩;cases rr with
 | ok fl=>cases fl <;> exact q
 | error e=>
  obtain⟨_,_,_,_,_,_,_,_,_,_,_,_,z⟩:=q;exact xQ z
section
theorem Gk:qU ["script","k"] ["script","k"] (zP Q9):=⟨rfl,rfl,rfl,by decide +kernel,rfl,by decide +kernel,by decide +kernel⟩
theorem zfC (D:Def K mg "_law_cell_at" Q9 ["script","k"]) (T:Txt K mg):Fn P w K mg base 1 "_law_cell_at" ["script","k"] (zl3 K):=by
 refine D.fn Gk (fun vs H Q E h=>?_) (fun f cdv A outer s H vs Q E hr h=>?_)
 .obtain⟨n,k,c,rfl,_⟩:=h;rfl
 .obtain⟨a,ns,k,rfl,hS,k0,q⟩:=h;refine⟨_,(zF (wO (jh bU (pv 1) (jz vK (by rfl) T.z_len Jv (za (pv 0) zB)) (qZ _))
    (zR (ju (kZ j8 (pv 0) (pv 1) (fun _ _=>rfl))))
    j4)
   (zR (ju zH))),?_⟩
  refine⟨_,rfl,_,rfl,_,_,rfl,.inl hS,_,_,rfl,rfl,_,rfl,?_⟩;rw[zf];refine ifD (fun h=>?_) (fun h=>?_)
  .have hk:k.toNat<ns.length:=by omega
   have e:atI (ns.map V.int) k=some (V.int (cellOf ns k)):=by
    have:=zal (ns:=ns) (k:=k.toNat) (x:=cellOf ns k) (by unfold cellOf;rw[zA,zq hk];rfl);rwa[show ((k.toNat:Nat):Int)=k by omega] at this
   exact⟨_,rfl,_,rfl,_,_,_,_,rfl,rfl,hS,e,q⟩
  .have e:cellOf ns k=0:=by
    unfold cellOf;rw[zA,xT (by omega)];rfl
   rw[e] at q;exact q
end
section
def za6:Sp:=fun vs H Q _=>∃c k:Int,vs=[.int c,.int k]/\zZ k<=100/\∀d:Int,0<=d->d<2 ^ 61->Q (.int d) H
theorem eZ:qU ["cell","k","number"] ["cell","k"] (zP XN):=⟨rfl,rfl,rfl,by decide +kernel,rfl,by decide +kernel,by decide +kernel⟩
theorem zwJ (D:Def K mg "_law_drawn" XN ["cell","k"]):Fn P w K mg base 1 "_law_drawn" ["cell","k"] za6:=by
 refine D.fn eZ (fun vs H Q E h=>?_) (fun f cdv A outer s H vs Q E hr h=>?_)
 .obtain⟨c,k,rfl,_⟩:=h;rfl
 .obtain⟨c,k,rfl,kb,q⟩:=h;refine⟨_,(zF (jb (i:=2) eZ.nd rfl (zN rfl) (jc vQ (jc ZZ (jc jP (jc jP (jc vQ (pv 0) (jc zoA zH zH)) (jc ZZ zH (pv 1))) zH) zH) zH))
   (zF (jb (i:=2) eZ.nd rfl (zN rfl) (jc vQ (jc ZZ (pv 2) (pv 2)) zH))
   (zR (ju (jc bT (jc vQ (jc jP (jc ZZ (pv 2) zH) (jc ZZ (pv 1) (pv 1))) zH) zH))))),?_⟩
  have p40:(0:Int)<10 ^ (40:Int).toNat:=by decide
  have l40:(10:Int) ^ (40:Int).toNat<2 ^ 140:=by decide
  have c0:=xM c (show (10:Int) ^ (40:Int).toNat≠0 by decide);have c1:=jH c p40;have cb:zZ (c % 10 ^ (40:Int).toNat)<=140:=vI c0 (bh c1 l40);have kb7:zZ (7*k)<=103:=Wm (m:=3) (n:=100) (by decide) kb;have b1:zZ (c % 10 ^ (40:Int).toNat+7*k+1)<=142:=zU (vP (m:=141) (n:=1) (zU (vP cb kb7) (by decide)) (by decide)) (by decide);refine⟨_,rfl,_,_,rfl,rfl,⟨by decide,by decide,by decide⟩,_,_,rfl,rfl,p40,_,rfl,_,_,rfl,rfl,⟨3,100,by decide,kb,by decide⟩,_,_,rfl,rfl,_,_,rfl,rfl,_,_,rfl,rfl,⟨142,40,b1,by decide,by decide⟩,_,_,rfl,rfl,(by decide),?_⟩;have n0:=xM ((c % 10 ^ (40:Int).toNat+7*k+1)*2654435769) (show (2305843009213693951:Int)≠0 by decide);have n1:=jH ((c % 10 ^ (40:Int).toNat+7*k+1)*2654435769) (show (0:Int)<2305843009213693951 by decide);generalize (c % 10 ^ (40:Int).toNat+7*k+1)*2654435769 % 2305843009213693951=jq at n0 n1 ⊢;have nb:zZ jq<=62:=vI n0 (by omega);refine⟨_,rfl,_,rfl,_,_,rfl,rfl,⟨62,62,nb,nb,by decide⟩,_,_,rfl,rfl,(by decide),?_⟩;have m0:=xM (jq*jq) (show (2305843009213693951:Int)≠0 by decide);have m1:=jH (jq*jq) (show (0:Int)<2305843009213693951 by decide);generalize jq*jq % 2305843009213693951=num at m0 m1 ⊢;have mb:zZ num<=62:=vI m0 (by omega);have r0:=xM (num*40503+k*k) (show (2305843009213693951:Int)≠0 by decide);have r1:=jH (num*40503+k*k) (show (0:Int)<2305843009213693951 by decide);refine⟨_,rfl,_,_,rfl,rfl,⟨62,20,mb,by decide,by decide⟩,_,rfl,_,rfl,_,_,rfl,rfl,⟨100,100,kb,kb,by decide⟩,_,_,rfl,rfl,_,_,rfl,rfl,(by decide),_,_,rfl,rfl,⟨by decide,by decide⟩,q _ ?_ ?_⟩
  .clear kb p40 l40 c0 c1 cb kb7 b1 n0 n1 nb mb;omega
  .clear kb p40 l40 c0 c1 cb kb7 b1 n0 n1 nb mb;omega
end
section
def zhC (K:zg):Sp:=fun vs H Q _=>∃(a:zm) (ns:List Int),vs=[.ref a]/\SqL K H a (ns.map V.int)/\ns.length<=63/\∀H',Q (.bl true) H'
end
theorem zkS {a b:Int}{m:Nat} (h:zZ a<=m) (hb:0<b):zZ (a / b)<=m:=by
 refine jN (y:=a) ?_ h;rcases (by omega:0<=a∨a<0) with z | z
 .have h1:=ZR z (by omega:0<=b);have h2:=Xq b z;clear h hb;omega
 .have h1:=Int.ediv_neg_of_neg_of_pos z hb;have h2:a<=a / b:=by
   refine(iW hb).mpr ?_;have:=Int.mul_le_mul_of_nonpos_left (a:=a) (b:=b) (c:=1) (by omega) (by omega);clear h hb h1;omega
  clear h hb;omega
section
theorem pN:qU ["n","k","ways","taken"] ["n","k"] (zP fV):=⟨rfl,rfl,rfl,by decide +kernel,rfl,by decide +kernel,by decide +kernel⟩
theorem ziX (D:Def K mg "choose" fV ["n","k"]) (T:Txt K mg):Fn P w K mg base 1 "choose" ["n","k"] fP:=by
 refine D.fn pN (fun vs H Q E h=>?_) (fun f cdv A outer s H vs Q E hr h=>?_)
 .obtain⟨n,k,rfl,_⟩:=h;rfl
 .obtain⟨n,k,rfl,hn,hk,hk2,hb,q⟩:=h;refine⟨_,(zF (wO (jh Ks (pv 1) (pv 0) (qZ _))
    (zR (ju zH))
    j4)
   (zF (jb (i:=2) pN.nd rfl (zN rfl) zH)
   (zF (bY kW rfl (WR (by rfl) T.z_range (za (pv 1) zB)) (j9 (i:=3) pN.nd rfl (zN rfl))
    (zR (jb (i:=2) pN.nd rfl (zN rfl) (jc bT (jc ZZ (pv 2) (jc ZM (pv 0) (pv 3))) (jc jP (pv 3) zH)))))
   (zR (ju (pv 2)))))),?_⟩
  refine⟨_,rfl,_,rfl,_,_,rfl,rfl,_,rfl,?_⟩;refine zyi (fun h=>?_) (fun h=>?_)
  .have h':n<k:=of_decide_eq_true h;have e:=Aq hn h';rw[e] at q;exact q
  .have h':¬n<k:=fun z=>h (decide_eq_true z);refine⟨_,rfl,k,rfl,by omega,by omega,fK (n:=k.toNat) (fun i σ H'=>∃v,σ=[some (.int n),some (.int k),some (.int (ch n i)),v]/\H'=H) ⟨none,?_,rfl⟩ ?_ ?_⟩
   .have e:=iD n;show _=[some (V.int n),some (V.int k),some (V.int (ch n 0)),none];rw[e];rfl
   .rintro i σ H' hi ⟨v,rfl,rfl⟩;have hi':(i:Int)<k:=by omega
    refine⟨_,rfl,_,rfl,_,rfl,_,_,rfl,rfl,_,_,rfl,rfl,?_,_,rfl,_,_,rfl,rfl,_,_,rfl,rfl,?_,?_⟩
    .refine⟨100000*i+1,100000,GJ hb hn,?_,by omega⟩;exact jN (by clear hk2 hb hi;omega) hb
    .exact⟨by omega,vI (by omega) (by omega)⟩
    .have e:=zn1 (n:=n) (i:=i) (by omega);have e0:(0:Int)+(i:Int)=(i:Int):=by omega
     refine⟨some (.int (0+(i:Int))),?_,rfl⟩;rw[e0,e];rfl
   .rintro σ H' ⟨v,rfl,rfl⟩;refine⟨_,rfl,?_⟩;have e:((k.toNat:Nat):Int)=k:=by omega
    rw[e];exact q
end
section
theorem rR:qU ["number","divisor"] ["number","divisor"] (zP X8):=⟨rfl,rfl,rfl,by decide +kernel,rfl,by decide +kernel,by decide +kernel⟩
theorem Rc (D:Def K mg "rounded_up" X8 ["number","divisor"]) (hP:P.given.tree=none):Fn P w K mg base 36 "rounded_up" ["number","divisor"] zbb:=by
 refine D.fn rR (fun vs H Q E h=>?_) (fun f cdv A outer s H vs Q E hr h=>?_)
 .obtain⟨n,k,rfl,_⟩:=h;rfl
 .obtain⟨a,b,rfl,hb,q⟩:=h;refine⟨_,(zR (ju (jc (zc7 (zlU hP rR hr)) (jc ZM (jc jP (pv 0) (pv 1)) zH) (pv 1)))),?_⟩;exact⟨_,rfl,_,rfl,_,_,rfl,rfl,_,_,rfl,rfl,_,rfl,_,_,rfl,rfl,hb,q⟩
theorem Kv:qU ["k","number","product","factor","figures"] ["k","number"] (zP KJ):=⟨rfl,rfl,rfl,by decide +kernel,rfl,by decide +kernel,by decide +kernel⟩
theorem zaL (D:Def K mg "above_top" KJ ["k","number"]) (T:Txt K mg) (iy:Fn P w K mg base 36 "rounded_up" ["number","divisor"] zbb):Fn P w K mg base 37 "above_top" ["k","number"] za4:=by
 refine D.fn Kv (fun vs H Q E h=>?_) (fun f cdv A outer s H vs Q E hr h=>?_)
 .obtain⟨n,k,rfl,_⟩:=h;rfl
 .obtain⟨k,jq,rfl,k1,k60,n0,nb,q⟩:=h;refine⟨_,(zF (jb (i:=2) Kv.nd rfl (zN rfl) (pv 1))
   (zF (bY kW rfl (zi7 (by rfl) T.z_range (za zH (za (jc jP (pv 0) zH) zB))) (j9 (i:=3) Kv.nd rfl (zN rfl))
    (zR (jb (i:=2) Kv.nd rfl (zN rfl) (jc ZZ (pv 2) (pv 3)))))
   (zF (jb (i:=4) Kv.nd rfl (zN rfl) (vJ iy (hr.mono (by decide)) (by rfl) (za (zrp PySem.F.plainAttrs_int PySem.F.slot_int_bit_length PySem.F.type_int_bit_length Pn (pv 2)) (za (pv 0) zB))))
   (zR (ju (jc ZM (jc jP (jc zoB zH (pv 4)) (pv 0)) zH)))))),?_⟩
  have ek:((k.toNat:Nat):Int)=k:=by omega
  have pb:∀i:Nat,(i:Int)<=60->zZ (jq*fac i)<=50000+(7*i+1):=fun i hi=>Wm nb (zcn i (by omega));refine⟨_,rfl,_,rfl,_,_,rfl,rfl,1,k+1,rfl,⟨by omega,by omega,by omega,by omega⟩,fK (lo:=1) (n:=(k+1-1).toNat) (fun i σ H2=>∃v,σ=[some (.int k),some (.int jq),some (.int (jq*fac i)),v,none]/\H2=H) ⟨none,?_,rfl⟩ ?_ ?_⟩
  .show _=[some (V.int k),some (V.int jq),some (V.int (jq*1)),none,none];rw[oO];rfl
  .rintro i σ H2 hi ⟨v,rfl,rfl⟩;have hi':(i:Int)<k:=by omega
   refine⟨_,rfl,_,rfl,_,_,rfl,rfl,⟨_,64,pb i (by omega),vI (by omega) (by omega),by clear n0 nb hi;omega⟩,some (.int (1+(i:Int))),?_,rfl⟩;rw[HS,<- rZ,Ca (i:Int) 1];rfl
  .rintro σ H2 ⟨v,rfl,rfl⟩;have en:(k+1-1).toNat=k.toNat:=by omega
   rw[en];have pk:=pb k.toNat (by omega);have hsz:=intBits_le_iff.mp (zE (zZ (jq*fac k.toNat)));refine⟨_,rfl,rfl,_,rfl,rfl,_,rfl,_,_,rfl,by clear n0 nb pk hsz;omega,?_⟩;generalize hbn:zZ (jq*fac k.toNat)=b at pk hsz ⊢;have d1:=Jr ((b:Int)+k-1) k;have d2:=xM ((b:Int)+k-1) (show k≠0 by clear n0 nb hbn pk hsz;omega);have d3:=jH ((b:Int)+k-1) (show 0<k by clear n0 nb hbn hsz;omega);have f0:0<=((b:Int)+k-1) / k:=ZR (by clear n0 nb pk hsz;omega) (by clear n0 nb hbn hsz;omega);have f1:((b:Int)+k-1) / k<=(b:Int)+k-1:=Xq _ (by omega);generalize ((b:Int)+k-1) / k=fg at d1 f0 f1 ⊢;generalize ((b:Int)+k-1) % k=r at d1 d2 d3;refine⟨_,rfl,_,_,rfl,rfl,⟨f0,by clear n0 nb hbn hsz;omega,by decide⟩,_,rfl,_,_,rfl,rfl,_,_,rfl,rfl,?_⟩;have ef:((fg.toNat:Nat):Int)=fg:=by clear k1 k60 n0 nb ek en hbn pk hsz f1 d1 d2 d3;omega
   have hp:(0:Int)<2 ^ fg.toNat:=Int.pow_pos (by decide);have ab:=zqD (F:=fg.toNat) (b:=b) k1 n0 hsz (by rw[ef,K9];clear n0 nb hbn pk hsz f0 f1 ef hp;omega);have e1:(1:Int)*2 ^ fg.toNat=2 ^ fg.toNat:=dw _;rw[e1];refine q _ (by clear n0 nb ek en hbn pk hsz f1 d1 d2 d3 ef ab;omega) ab ?_;have hb2:zZ ((2:Int) ^ fg.toNat)<=fg.toNat+1:=by
    refine intBits_le_iff.mpr ?_;rw[Mr];exact Nat.pow_lt_pow_right (by decide) (by omega)
   refine zU (cJ (m:=50600) (n:=64) (zU (vP (m:=50599) (n:=64) (zU hb2 (by clear n0 nb hbn hsz hp ab e1 hb2;omega)) (vI (by clear n0 nb hbn hsz f0 f1 ef hp ab e1 hb2;omega) (by clear n0 nb hbn pk hsz f0 f1 ef ab hb2;omega))) (by decide)) (by decide)) (by decide)
theorem zkG (n k:Nat):(k+1)*C (n+1) (k+1)=(n+1)*C n k:=by
 have h:=U6 n k;rw[dM,oX,dz,dz,Fw,Fw,dz n 1,Fw];rw[dz] at h;omega
theorem ziA {t k:Int} (hk:1<=k) (ht:1<=t):ch t k*k / t=ch (t-1) (k-1):=by
 obtain⟨j,hj⟩:∃j:Nat,k=(j:Int)+1:=⟨(k-1).toNat,by omega⟩;obtain⟨m,hm⟩:∃m:Nat,t=(m:Int)+1:=⟨(t-1).toNat,by omega⟩;subst hj hm;have e1:ch ((m:Int)+1) ((j:Int)+1)=(C (m+1) (j+1):Nat):=by
  rw[show ((m:Int)+1)=((m+1:Nat):Int) by omega,show ((j:Int)+1)=((j+1:Nat):Int) by omega,t6]
 have e2:ch ((m:Int)+1-1) ((j:Int)+1-1)=(C m j:Nat):=by
  rw[show ((m:Int)+1-1)=((m:Nat):Int) by omega,show ((j:Int)+1-1)=((j:Nat):Int) by omega,t6]
 rw[e1,e2];have a:=zkG m j;have a':((C (m+1) (j+1):Nat):Int)*((j:Int)+1)=((m:Int)+1)*((C m j:Nat):Int):=by
  rw[K9]
  exact_mod_cast a
 rw[a'];exact Int.mul_ediv_cancel_left _ (by clear hk e1 e2 a a';omega)
def Eb:Sp:=fun vs H Q _=>∃start k jq:Int,vs=[.int start,.int k,.int jq]/\1<=k/\k<=60/\0<=jq/\k-1<=start/\jq<ch (start+1) k/\zZ start<=60000/\∀t:Int,Ht k jq t->zZ t<=60000->Q (.int t) H
theorem QF:qU ["start","k","number","top","ways","most_off","step"] ["start","k","number"] (zP YQ):=⟨rfl,rfl,rfl,by decide +kernel,rfl,by decide +kernel,by decide +kernel⟩
theorem zc4 (D:Def K mg "top_from" YQ ["start","k","number"]) (Qw:Fn P w K mg base 1 "choose" ["n","k"] fP) (iy:Fn P w K mg base 36 "rounded_up" ["number","divisor"] zbb) (hP:P.given.tree=none) :
  Fn P w K mg base 37 "top_from" ["start","k","number"] Eb:=by
 refine D.fn QF (fun vs H Q E h=>?_) (fun f cdv A outer s H vs Q E hr h=>?_)
 .obtain⟨a,n,k,rfl,_⟩:=h;rfl
 .obtain⟨t0,k,jq,rfl,k1,k60,n0,t1,t2,t3,q⟩:=h;refine⟨_,(zF (jb (i:=3) QF.nd rfl (zN rfl) (pv 0))
   (zF (jb (i:=4) QF.nd rfl (zN rfl) (vJ Qw (hr.mono (by decide)) (by rfl) (za (pv 3) (za (pv 1) zB))))
   (zF (nY kW (jh Ks (pv 4) (pv 2) (qZ _))
    (zF (jb (i:=5) QF.nd rfl (zN rfl) (jc (zc7 (zlU hP QF (hr.mono (by decide)))) (jc ZZ (pv 4) (pv 1)) (pv 3)))
    (zF (jb (i:=6) QF.nd rfl (zN rfl) (vJ iy (hr.mono (by decide)) (by rfl) (za (jc ZM (pv 4) (pv 2)) (za (pv 5) zB))))
    (zF (jb (i:=3) QF.nd rfl (zN rfl) (jc ZM (pv 3) (pv 6)))
    (zR (jb (i:=4) QF.nd rfl (zN rfl) (Bh (jh Zy (pv 6) zH (qZ _)) (jc ZM (pv 4) (pv 5)) (vJ Qw (hr.mono (by decide)) (by rfl) (za (pv 3) (za (pv 1) zB))))))))))
   (zR (ju (pv 3)))))),?_⟩
  refine⟨_,rfl,_,rfl,_,rfl,t0,k,rfl,by omega,by omega,by omega,zU t3 (by decide),?_⟩;refine oK (fun σ H2=>∃t v v',σ=[some (.int t0),some (.int k),some (.int jq),some (.int t),some (.int (ch t k)),v,v']/\H2=H/\k-1<=t/\jq<ch (t+1) k/\zZ t<=60000)
   (fun σ _=>match σ with | [_,_,_,some (.int t),_,_,_]=>t.toNat | _=>0) ⟨t0,none,none,rfl,rfl,t1,t2,t3⟩ ?_ ?_
  .rintro σ H2 ⟨t,v,v',rfl,rfl,u1,u2,u3⟩;refine⟨_,rfl,_,rfl,_,_,rfl,rfl,_,rfl,ifD (fun h=>?_) (fun h=>?_)⟩
   .obtain⟨a1,a2,a3,a4,a5⟩:=zfX k1 n0 (by omega) h _ rfl;have wb:zZ (ch t k)<=60000*60+1:=by
     have:=GJ (k:=k.toNat) u3 (by omega);rw[show ((k.toNat:Nat):Int)=k by omega] at this;exact zU this (oW (XC _ (by omega)) _)
    refine⟨_,rfl,_,rfl,_,_,rfl,rfl,⟨_,64,wb,vI (by omega) (by omega),by decide⟩,_,rfl,_,_,rfl,rfl,by omega,?_⟩;rw[ziA k1 (by omega)];have sb:ch (t-1) k=ch t k-ch (t-1) (k-1):=by
     have:=zav (n:=t-1) (k:=k-1) (by omega) (by omega);rw[show t-1+1=t by omega,show k-1+1=k by omega] at this;omega
    refine⟨_,rfl,_,rfl,_,_,rfl,rfl,_,rfl,ch t k-jq,ch (t-1) (k-1),rfl,a2,?_⟩;generalize (ch t k-jq+ch (t-1) (k-1)-1) / ch (t-1) (k-1)=d at a3 a4 a5 ⊢;have tb:zZ (t-d)<=60000:=jN (y:=t) (by clear n0 t1 t2 t3 u2 u3 h a2 wb sb a5;omega) u3;refine⟨_,rfl,_,rfl,_,_,rfl,rfl,_,rfl,_,_,rfl,rfl,_,rfl,ifD (fun e=>?_) (fun e=>?_)⟩
    .subst e;refine⟨_,rfl,_,rfl,_,_,rfl,rfl,⟨t-1,_,_,by rw[sb];rfl,rfl,a4,a5,tb⟩,?_⟩;show (t-1).toNat<t.toNat;clear n0 t1 t2 t3 u2 u3 h a2 wb sb a5 tb;omega
    .refine⟨_,rfl,_,rfl,t-d,k,rfl,by omega,by omega,by omega,zU tb (by decide),?_⟩;refine⟨⟨t-d,_,_,rfl,rfl,a4,a5,tb⟩,?_⟩;show (t-d).toNat<t.toNat;clear n0 t1 t2 t3 u2 u3 h wb sb a5 tb;omega
   .refine⟨_,rfl,q t ⟨u1,by omega,u2⟩ u3⟩
  .intro σ H2 R R' m h;obtain⟨v,e1,u,e2,i,j,e3,e4,b,e5,z⟩:=h;exact⟨v,e1,u,e2,i,j,e3,e4,b,e5,m _ _ z⟩
end
section
theorem zjh:qU ["k","number"] ["k","number"] (zP fW):=⟨rfl,rfl,rfl,by decide +kernel,rfl,by decide +kernel,by decide +kernel⟩
theorem zi3 (D:Def K mg "top_of" fW ["k","number"]) (VR:Fn P w K mg base 37 "above_top" ["k","number"] za4) (Wz:Fn P w K mg base 37 "top_from" ["start","k","number"] Eb) :
  Fn P w K mg base 38 "top_of" ["k","number"] zpX:=by
 refine D.fn zjh (fun vs H Q E h=>?_) (fun f cdv A outer s H vs Q E hr h=>?_)
 .obtain⟨n,k,rfl,_⟩:=h;rfl
 .obtain⟨k,jq,rfl,k1,k60,n0,nb,q⟩:=h;refine⟨_,(zR (ju (vJ Wz (hr.mono (by decide)) (by rfl) (za (vJ VR (hr.mono (by decide)) (by rfl) (za (pv 0) (za (pv 1) zB))) (za (pv 0) (za (pv 1) zB)))))),?_⟩;exact⟨_,rfl,_,rfl,k,jq,rfl,k1,k60,n0,nb,fun t0 t1 t2 t3=>⟨_,rfl,_,rfl,t0,k,jq,rfl,k1,k60,n0,t1,t2,t3,q⟩⟩
end
def Fits (ns ms:List Int) (zy:Int):Prop:=ns.length=ms.length/\∀(i:Nat) (x y:Int),ns[i]?=some x->ms[i]?=some y->x<=y/\y<=x+zy
noncomputable def Al (l:Int):List Int->List Int->Prop
 | [],[]=>True
 | n::ns,z::zs=>n<=z/\z<=n+l/\Al l ns zs
 | _,_=>False
theorem zfd (l:Int):∀ns zs,Al l ns zs↔Fits ns zs l
 | [],[]=>⟨fun _=>⟨rfl,fun i x y h=>by simp at h⟩,fun _=>trivial⟩
 | [],_::_=>⟨fun h=>h.elim,fun h=>by have:=h.1;simp at this⟩
 | _::_,[]=>⟨fun h=>h.elim,fun h=>by have:=h.1;simp at this⟩
 | n::ns,z::zs=>by
  have ih:=zfd l ns zs;constructor
  .rintro⟨h1,h2,h3⟩;obtain⟨e,f⟩:=ih.mp h3;refine⟨by simp[e],fun i x y hx hy=>?_⟩;cases i with
   | zero=>
    simp only[List.getElem?_cons_zero,Cj] at hx hy;subst hx hy;exact⟨h1,h2⟩
   | succ i=>
    rw[List.getElem?_cons_succ] at hx hy;exact f i x y hx hy
  .rintro⟨e,f⟩;have h0:=f 0 n z rfl rfl;exact⟨h0.1,h0.2,ih.mpr ⟨by simpa using e,fun i x y hx hy=>f (i+1) x y (by simpa using hx) (by simpa using hy)⟩⟩
theorem zg0 {l n z m:Int} (hm:m<=z) (hz:z<=n+l):∀(ns zs:List Int),(∀x∈ns,n<=x)->Al l ns zs->m∈zs->∃ws,Al l ns ws/\(z::zs).Perm (m::ws)
 | [],[],_,_,h=>nomatch h
 | [],_::_,_,h,_=>h.elim
 | _::_,[],_,h,_=>h.elim
 | a::ns,b::zs,hn,⟨h1,h2,h3⟩,h=>by
  have ha:=hn a (by simp);by_cases e:m=b
  .subst e;exact⟨z::zs,⟨by omega,by omega,h3⟩,.swap ..⟩
  .have h':m∈zs:=by
    rcases List.mem_cons.mp h with x | x
    .exact absurd x e
    .exact x
   obtain⟨ws,w1,w2⟩:=zg0 hm hz ns zs (fun x hx=>hn x (by simp[hx])) h3 h';exact⟨b::ws,⟨h1,h2,w1⟩,((List.Perm.swap b z zs).trans (w2.cons b)).trans (.swap ..)⟩
theorem zkR {l:Int}{n:Int}:∀{ns zs:List Int},(∀x∈ns,n<=x)->Al l ns zs->∀z∈zs,n<=z
 | [],[],_,_,_,h=>nomatch h
 | [],_::_,_,h,_,_=>h.elim
 | _::_,[],_,h,_,_=>h.elim
 | a::ns,b::zs,hn,⟨h1,_,h3⟩,z,hz=>by
  have:=hn a (by simp);rcases List.mem_cons.mp hz with e | e
  .omega
  .exact zkR (fun x hx=>hn x (by simp[hx])) h3 z e
theorem GF {l:Int}:∀{ns zs ms:List Int},ns.Pairwise (·<=·)->Al l ns zs->ms.Perm zs->ms.Pairwise (·<=·)->Al l ns ms
 | [],[],ms,_,_,p,_=>by rw[List.perm_nil.mp p];trivial
 | [],_::_,_,_,h,_,_=>h.elim
 | _::_,[],_,_,h,_,_=>h.elim
 | n::ns,z::zs,ms,hs,⟨h1,h2,h3⟩,p,q=>by
  obtain⟨hn,hs'⟩:=List.pairwise_cons.mp hs;cases ms with
  | nil=>exact absurd (List.nil_perm.mp p) (by simp)
  | cons m ms=>
   obtain⟨hm,q'⟩:=List.pairwise_cons.mp q;have mz:m<=z:=by
    rcases List.mem_cons.mp (p.mem_iff.mpr (by simp:z∈z::zs)) with e | e
    .omega
    .exact hm z e
   have mm:m∈z::zs:=p.mem_iff.mp (by simp);have nm:n<=m:=by
    rcases List.mem_cons.mp mm with e | e
    .omega
    .exact zkR (fun x hx=>hn x hx) h3 m e
   refine⟨nm,by omega,?_⟩;rcases List.mem_cons.mp mm with e | e
   .subst e;exact GF hs' h3 (uJ p) q'
   .obtain⟨ws,w1,w2⟩:=zg0 mz h2 ns zs hn h3 e;exact GF hs' w1 (uJ (p.trans w2)) q'
noncomputable def sums (ns ds:List Int):List Int:=List.zipWith (·+·) ns ds
theorem Fp (ns ds:List Int) (h:ns.length=ds.length):(sums ns ds).length=ns.length:=by
 unfold sums;rw[List.length_zipWith];omega
theorem zag {zy:Int}:∀{ns ds:List Int},ns.length=ds.length->(∀d∈ds,0<=d/\d<=zy)->Al zy ns (sums ns ds)
 | [],[],_,_=>trivial
 | [],_::_,h,_=>by simp at h
 | _::_,[],h,_=>by simp at h
 | n::ns,d::ds,h,hd=>by
  have h1:=hd d (by simp);refine⟨by show n<=n+d;omega,by show n+d<=n+zy;omega,?_⟩;exact zag (by simpa using h) (fun x hx=>hd x (by simp[hx]))
theorem zkQ {l:Int}{ns ms:List Int} (h:Al l ns ms):ms.length=ns.length:=((zfd _ _ _).mp h).1.symm
noncomputable def Wo (zy:Int) (ns:List Int):List Int:=(qJ ns.length).map fun i=>(ns.getD i 0-(i:Int)) / (zy+1)
noncomputable def vf (zy:Int) (bs:List Int):List Int:=(qJ bs.length).map fun i=>bs.getD i 0*(zy+1)+(i:Int)
theorem nq (zy:Int) (ns:List Int):(Wo zy ns).length=ns.length:=by unfold Wo;simp
theorem ZV (zy:Int) (ns:List Int):(vf zy ns).length=ns.length:=by unfold vf;simp
theorem zco {zy:Int}{ns:List Int}{i:Nat}{x:Int} (h:ns[i]?=some x):(Wo zy ns)[i]?=some ((x-(i:Int)) / (zy+1)):=by
 have hi:=(List.getElem?_eq_some_iff.mp h).1;unfold Wo;rw[qF,rn hi];simp[zA,h]
theorem Tq {zy:Int}{ns:List Int}{i:Nat}{x:Int} (h:ns[i]?=some x):(vf zy ns)[i]?=some (x*(zy+1)+(i:Int)):=by
 have hi:=(List.getElem?_eq_some_iff.mp h).1;unfold vf;rw[qF,rn hi];simp[zA,h]
theorem TF {zy:Int}{ns:List Int}{i:Nat}{y:Int} (h:(Wo zy ns)[i]?=some y):∃x,ns[i]?=some x/\y=(x-(i:Int)) / (zy+1):=by
 have hi:=(List.getElem?_eq_some_iff.mp h).1;rw[nq] at hi;have g:=zco (zy:=zy) (zq hi);rw[g] at h;exact⟨_,zq hi,(xr h).symm⟩
theorem tY {zy:Int}{ns:List Int}{i:Nat}{y:Int} (h:(vf zy ns)[i]?=some y):∃x,ns[i]?=some x/\y=x*(zy+1)+(i:Int):=by
 have hi:=(List.getElem?_eq_some_iff.mp h).1;rw[ZV] at hi;have g:=Tq (zy:=zy) (zq hi);rw[g] at h;exact⟨_,zq hi,(xr h).symm⟩
structure zzj (bs:List Int):Prop where
 inc:bs.Pairwise (·<=·)
 nn:∀x∈bs,0<=x
 sz:∀x∈bs,x<2 ^ 200
def Szs (m:Nat) (ns:List Int):Prop:=∀x∈ns,zZ x<=m
section
def zhA (K:zg):Sp:=fun vs H Q _=>∃(a:zm) (ns:List Int) (zy:Int),vs=[.ref a,.int zy]/\SqL K H a (ns.map V.int)/\ns.length<=1000/\0<=zy/\zZ zy<=8000 /\
 ∀(p:zm) (H':Hp),zX H H'->H p=none->H' p=some (.lst ((Wo zy ns).map V.int))->Q (.ref p) H'
end
section
theorem zjg:qU ["row","late"] ["row","late"] (zP fU):=⟨rfl,rfl,rfl,by decide +kernel,rfl,by decide +kernel,by decide +kernel⟩
theorem ziW (D:Def K mg "box_of" fU ["row","late"]) (T:Txt K mg):Fn P w K mg base 1 "box_of" ["row","late"] (zhA K):=by
 refine D.fn zjg (fun vs H Q E h=>?_) (fun f cdv A outer s H vs Q E hr h=>?_)
 .obtain⟨a,ns,zy,rfl,_⟩:=h;rfl
 .obtain⟨a,ns,zy,rfl,hA,hl,l0,lb,q⟩:=h;refine⟨_,(zR (ju (Jy (own:=["place","turn"]) (fr:=["late"]) (ix:=[1]) rfl ⟨rfl,rfl,rfl,rfl,rfl,rfl⟩ (Bj (by rfl) T.z_enumerate (za (pv 0) zB)) (fun _ _ _ _ _=>(zaU K (n:=2) rfl (Ze (j9 (i:=0) (show (["place","turn","late"]:List Str).Nodup by decide +kernel) rfl (zN rfl)) (Ze (j9 (i:=1) (show (["place","turn","late"]:List Str).Nodup by decide +kernel) rfl (zN rfl)) iJ)))) (fun _ _ _ _ _=>Z0) (fun _ _ _ _ _=>(jc bT (jc ZM (pv 1) (pv 0)) (jc jP (pv 2) zH)))))),?_⟩;have lb1:zZ (zy+1)<=9000:=zU (vP (m:=8000) (n:=1) lb (by decide)) (by decide);refine⟨_,rfl,a,_,rfl,hA,fun acc Qn=>t8 (K:=K) (a:=a) (xs:=ns.map V.int) (fun i=>V.int ((ns.getD i 0-(i:Int)) / (zy+1))) hA Qn ?_ ?_ ?_⟩
  .rw[zf];exact kj (yV hl)
  .intro i x t H2 R hx sm ht hR;rw[qF] at hx;obtain⟨x',hx',rfl⟩:=Option.map_eq_some_iff.mp hx;simp only[zA,hx',xf] at hR;exact⟨t,_,rfl,SqT.of ht,rfl,_,_,rfl,_,_,rfl,rfl,rfl,_,rfl,_,rfl,_,_,rfl,rfl,_,rfl,_,_,rfl,rfl,_,_,rfl,rfl,⟨by omega,lb1⟩,hR⟩
  .intro H2 sm ha;rw[zf] at ha;refine q acc H2 sm Qn ?_;rw[ha];unfold Wo;rw[wM];rfl
end
section
def Uk (K:zg):Sp:=fun vs H Q _=>∃(a:zm) (ns:List Int) (zy:Int),vs=[.ref a,.int zy]/\SqL K H a (ns.map V.int)/\ns.length<=1000/\zZ zy<=8000/\Szs 70000 ns /\
 ∀(p:zm) (H':Hp),zX H H'->H p=none->H' p=some (.lst ((vf zy ns).map V.int))->Q (.ref p) H'
theorem zdg:qU ["box","late"] ["box","late"] (zP YH):=⟨rfl,rfl,rfl,by decide +kernel,rfl,by decide +kernel,by decide +kernel⟩
theorem zcY (D:Def K mg "bell_row" YH ["box","late"]) (T:Txt K mg):Fn P w K mg base 1 "bell_row" ["box","late"] (Uk K):=by
 refine D.fn zdg (fun vs H Q E h=>?_) (fun f cdv A outer s H vs Q E hr h=>?_)
 .obtain⟨a,ns,zy,rfl,_⟩:=h;rfl
 .obtain⟨a,ns,zy,rfl,hA,hl,lb,hz,q⟩:=h;refine⟨_,(zR (ju (Jy (own:=["place","part"]) (fr:=["late"]) (ix:=[1]) rfl ⟨rfl,rfl,rfl,rfl,rfl,rfl⟩ (Bj (by rfl) T.z_enumerate (za (pv 0) zB)) (fun _ _ _ _ _=>(zaU K (n:=2) rfl (Ze (j9 (i:=0) (show (["place","part","late"]:List Str).Nodup by decide +kernel) rfl (zN rfl)) (Ze (j9 (i:=1) (show (["place","part","late"]:List Str).Nodup by decide +kernel) rfl (zN rfl)) iJ)))) (fun _ _ _ _ _=>Z0) (fun _ _ _ _ _=>(jc jP (jc ZZ (pv 1) (jc jP (pv 2) zH)) (pv 0)))))),?_⟩;have lb1:zZ (zy+1)<=9000:=zU (vP (m:=8000) (n:=1) lb (by decide)) (by decide);refine⟨_,rfl,a,_,rfl,hA,fun acc Qn=>t8 (K:=K) (a:=a) (xs:=ns.map V.int) (fun i=>V.int (ns.getD i 0*(zy+1)+(i:Int))) hA Qn ?_ ?_ ?_⟩
  .rw[zf];exact kj (yV hl)
  .intro i x t H2 R hx sm ht hR;rw[qF] at hx;obtain⟨x',hx',rfl⟩:=Option.map_eq_some_iff.mp hx;simp only[zA,hx',xf] at hR;exact⟨t,_,rfl,SqT.of ht,rfl,_,_,rfl,_,_,rfl,rfl,rfl,_,rfl,_,rfl,_,_,rfl,rfl,_,_,rfl,rfl,⟨70000,9000,hz x' (qw hx'),lb1,by decide⟩,_,rfl,_,_,rfl,rfl,hR⟩
  .intro H2 sm ha;rw[zf] at ha;refine q acc H2 sm Qn ?_;rw[ha];unfold vf;rw[wM];rfl
end
noncomputable def JP (bs:List Int):Nat->Int
 | 0=>0
 | i+1=>JP bs i+ch (bs.getD i 0+(i:Int)) ((i:Int)+1)
noncomputable def Ko (bs:List Int):Int:=JP bs bs.length
structure yO (bs:List Int):Prop where
 inc:bs.Pairwise (·<=·)
 nn:∀x∈bs,0<=x
theorem RD (f:Nat->Int) (n:Nat):((qJ (n+1)).map f).sum=((qJ n).map f).sum+f n:=by
 rw[Jf,jw,List.sum_append];simp
theorem Uc (bs:List Int):∀n:Nat,JP bs n=((qJ n).map fun i=>ch (bs.getD i 0+(i:Int)) ((i:Int)+1)).sum
 | 0=>rfl
 | n+1=>by
  rw[RD,<- Uc bs n];rfl
theorem yO.get {bs:List Int} (B:yO bs){i j:Nat}{x y:Int} (h:i<=j) (hx:bs[i]?=some x) (hy:bs[j]?=some y):x<=y:=by
 obtain⟨h1,e1⟩:=List.getElem?_eq_some_iff.mp hx;obtain⟨h2,e2⟩:=List.getElem?_eq_some_iff.mp hy;rcases ZG h with z | z
 .have:=List.pairwise_iff_getElem.mp B.inc i j h1 h2 z;omega
 .subst z;omega
theorem yO.nn' {bs:List Int} (B:yO bs){i:Nat}:0<=bs.getD i 0:=by
 rw[zA];cases h:bs[i]? with
 | none=>exact jl _
 | some x=>exact B.nn x (qw h)
theorem yO.le' {bs:List Int} (B:yO bs){i j:Nat} (h:i<=j) (hj:j<bs.length):bs.getD i 0<=bs.getD j 0:=by
 have hi:i<bs.length:=by omega
 rw[zA,zA,zq hi,zq hj];exact B.get h (zq hi) (zq hj)
theorem Kp (bs:List Int):∀n,0<=JP bs n
 | 0=>jl _
 | n+1=>by
  have:=Kp bs n;have:=pF (bs.getD n 0+(n:Int)) ((n:Int)+1);show 0<=JP bs n+_;omega
theorem zcW {bs:List Int} (B:yO bs):∀(i:Nat) (c:Int),i<=bs.length->0<=c->(∀j,j<i->bs.getD j 0<=c)->JP bs i<ch (c+(i:Int)) (i:Int)
 | 0,c,_,_,_=>by
  show (0:Int)<ch (c+((0:Nat):Int)) 0;rw[iD];decide
 | i+1,c,hi,hc,hb=>by
  have b0:=B.nn' (i:=i);have ih:=zcW B i (bs.getD i 0) (by omega) b0 (fun j hj=>B.le' (by omega) (by omega));have p:=zav (n:=bs.getD i 0+(i:Int)) (k:=(i:Int)) (by omega) (by omega);have m:=Ar (m:=bs.getD i 0+(i:Int)+1) (n:=c+((i+1:Nat):Int)) (k:=((i+1:Nat):Int)) (by have:=hb i (by omega);omega);rw[show ((i+1:Nat):Int)=(i:Int)+1 by omega] at m ⊢;show JP bs i+ch (bs.getD i 0+(i:Int)) ((i:Int)+1) < _;clear hi hc b0;omega
theorem Dr {bs:List Int} (B:yO bs){i:Nat} (hi:i<bs.length):Ht ((i:Int)+1) (JP bs (i+1)) (bs.getD i 0+(i:Int)):=by
 have b0:=B.nn' (i:=i);have a:=zcW B (i+1) (bs.getD i 0) hi b0 (fun j hj=>B.le' (by omega) hi);have n0:=Kp bs i;refine⟨by omega,?_,?_⟩
 .show _<=JP bs i+_;clear hi b0 a;omega
 .rw[show ((i+1:Nat):Int)=(i:Int)+1 by omega] at a;rw[show bs.getD i 0+(i:Int)+1=bs.getD i 0+((i:Int)+1) by omega];exact a
theorem Ua {as bs:List Int} (A:yO as) (B:yO bs):∀i:Nat,i<=as.length->i<=bs.length->JP as i=JP bs i->∀j,j<i->as.getD j 0=bs.getD j 0
 | 0,_,_,_,j,hj=>absurd hj (lR _)
 | i+1,ha,hb,e,j,hj=>by
  have ta:=Dr A (i:=i) ha;have tb:=Dr B (i:=i) hb;rw[e] at ta;have u:=ta.unique tb;have u':as.getD i 0=bs.getD i 0:=by clear ha hb e hj;omega
  by_cases hji:j=i
  .rw[hji];exact u'
  .have e':JP as i+ch (as.getD i 0+(i:Int)) ((i:Int)+1)=JP bs i+ch (bs.getD i 0+(i:Int)) ((i:Int)+1):=e;rw[u'] at e';exact Ua A B i (by omega) (by omega) (by clear ha hb e hj u u';omega) j (by clear ha hb e u u' e';omega)
theorem zlw {as bs:List Int} (A:yO as) (B:yO bs) (hl:as.length=bs.length) (e:Ko as=Ko bs):as=bs:=by
 refine Wf fun i=>?_;unfold Ko at e;rw[hl] at e;by_cases hi:i<as.length
 .have:=Ua A B bs.length (by omega) (zE _) e i (by omega);rw[zA,zA,zq hi,zq (by omega:i<bs.length)] at this;rw[zq hi,zq (by omega:i<bs.length)];congr 1
 .rw[xT (by omega),xT (by omega)]
section
def zpW (K:zg):Sp:=fun vs H Q _=>∃(a:zm) (bs:List Int),vs=[.ref a]/\SqL K H a (bs.map V.int)/\bs.length<=900/\(∀x∈bs,0<=x)/\Szs 70000 bs /\
 ∀H',zX H H'->Q (.int (Ko bs)) H'
theorem Rn:qU ["box"] ["box"] (zP X3):=⟨rfl,rfl,rfl,by decide +kernel,rfl,by decide +kernel,by decide +kernel⟩
theorem PQ (D:Def K mg "box_number" X3 ["box"]) (T:Txt K mg) (Qw:Fn P w K mg base 1 "choose" ["n","k"] fP):Fn P w K mg base 2 "box_number" ["box"] (zpW K):=by
 refine D.fn Rn (fun vs H Q E h=>?_) (fun f cdv A outer s H vs Q E hr h=>?_)
 .obtain⟨a,bs,rfl,_⟩:=h;rfl
 .obtain⟨a,bs,rfl,hA,hl,nn,sz,q⟩:=h;refine⟨_,(zR (ju (jz (zcp rfl) (by rfl) T.z_sum zpL (za (Jy (own:=["place","part"]) (fr:=[]) (ix:=[]) rfl ⟨rfl,rfl,rfl,rfl,rfl,rfl⟩ (Bj (by rfl) T.z_enumerate (za (pv 0) zB)) (fun _ _ _ _ _=>(zaU K (n:=2) rfl (Ze (j9 (i:=0) (show (["place","part"]:List Str).Nodup by decide +kernel) rfl (zN rfl)) (Ze (j9 (i:=1) (show (["place","part"]:List Str).Nodup by decide +kernel) rfl (zN rfl)) iJ)))) (fun _ _ _ _ _=>Z0) (fun _ _ _ _ _=>(vJ Qw (hr.mono (by decide)) (by rfl) (za (jc jP (pv 1) (pv 0)) (za (jc jP (pv 0) zH) zB))))) zB)))),?_⟩;refine⟨_,rfl,a,_,rfl,hA,fun acc Qn=>t8 (K:=K) (a:=a) (xs:=bs.map V.int) (fun i=>V.int (ch (bs.getD i 0+(i:Int)) ((i:Int)+1))) hA Qn ?_ ?_ ?_⟩
  .rw[zf];exact kj (yV (by omega))
  .intro i x t H2 R hx sm ht hR;rw[qF] at hx;obtain⟨x',hx',rfl⟩:=Option.map_eq_some_iff.mp hx;simp only[zA,hx',xf] at hR;have hi:=(List.getElem?_eq_some_iff.mp hx').1;have x0:=nn x' (qw hx');have xb:=sz x' (qw hx');exact⟨t,_,rfl,SqT.of ht,rfl,_,_,rfl,_,_,rfl,rfl,rfl,_,rfl,_,rfl,_,_,rfl,rfl,_,rfl,_,_,rfl,rfl,_,_,rfl,by omega,by omega,by omega,zU (vP (m:=70000) (n:=64) xb (vI (by omega) (by omega))) (by decide),hR⟩
  .intro H2 sm ha;rw[zf] at ha;refine⟨acc,(qJ bs.length).map fun i=>ch (bs.getD i 0+(i:Int)) ((i:Int)+1),rfl,SqL.of ?_,?_⟩
   .rw[ha,wM];rfl
   .rw[<- Uc];exact q H2 sm
end
noncomputable def Oc:Int->List Int->Prop
 | _,[]=>True
 | b,x::r=>b<=x/\Oc x r
theorem Hx:∀{b:Int}{xs:List Int},Oc b xs->∀x∈xs,b<=x
 | _,[],_,_,z=>nomatch z
 | b,y::r,h,x,hx=>by
  rcases List.mem_cons.mp hx with e | e
  .rw[e];exact h.1
  .have:=Hx h.2 x e;have:=h.1;omega
theorem zaj:∀{b:Int}{xs:List Int},Oc b xs->xs.Pairwise (·<=·)
 | _,[],_=>JD
 | _,_::_,h=>List.pairwise_cons.mpr ⟨Hx h.2,zaj h.2⟩
theorem zai:∀{b:Int}{xs:List Int},xs.Pairwise (·<=·)->(∀x∈xs,b<=x)->Oc b xs
 | _,[],_,_=>trivial
 | _,x::r,hp,h=>by
  obtain⟨p1,p2⟩:=List.pairwise_cons.mp hp;exact⟨h x (by simp),zai p2 p1⟩
theorem ziN {bs:List Int}:yO bs↔Oc 0 bs:=⟨fun h=>zai h.inc h.nn,fun h=>⟨zaj h,Hx h⟩⟩
theorem Tj {bs:List Int}{i:Nat}{x b:Int} (h:bs[i]?=some x):Oc b (bs.drop i)↔b<=x/\Oc x (bs.drop (i+1)):=by
 obtain⟨hi,e⟩:=List.getElem?_eq_some_iff.mp h;rw[cQ hi,e];exact Iff.rfl
section
def zhB (K:zg) (C:zm):Sp:=fun vs H Q E=>∃(a:zm) (ns:List Int) (zy:Int),vs=[.ref a,.int zy]/\SqL K H a (ns.map V.int)/\ns.length<=1000/\0<=zy/\zZ zy<=8000 /\
 (yO (Wo zy ns)->∀(p:zm) (H':Hp),zX H H'->H p=none->H' p=some (.lst ((Wo zy ns).map V.int))->Q (.ref p) H') /\
 (¬yO (Wo zy ns)->∀H',zX H H'->E (.ref C) none H')
theorem Ky:qU ["reading","late","box","before","part"] ["reading","late"] (zP KQ):=⟨rfl,rfl,rfl,by decide +kernel,rfl,by decide +kernel,by decide +kernel⟩
theorem P0 {qM:zm} (D:Def K mg "heard_box" KQ ["reading","late"]) (T:Txt K mg) (vR:mg "NoReading"=some (.ref qM)) (wF:qD K qM bmV "ValueError.__new__"=true) (zkL:Fn P w K mg base 1 "box_of" ["row","late"] (zhA K)):FnE P w K mg base 2 "heard_box" ["reading","late"] (zhB K qM):=by
 refine D.fnE Ky (fun vs H Q E h=>?_) (fun f cdv A outer s H vs Q E hr h=>?_)
 .obtain⟨a,ns,zy,rfl,_⟩:=h;rfl
 .obtain⟨a,ns,zy,rfl,hA,hl,l0,lb,q,q2⟩:=h;refine⟨_,(zF (jb (i:=2) Ky.nd rfl (zN rfl) (vJ zkL (hr.mono (by decide)) (by rfl) (za (pv 0) (za (pv 1) zB))))
   (zF (jb (i:=3) Ky.nd rfl (zN rfl) zH)
   (zF (bY Qa rfl (Vl (pv 2)) (j9 (i:=4) Ky.nd rfl (zN rfl))
    (zF (wO (jh bU (pv 4) (pv 3) (qZ _))
     (zR (yc qu wF (by rfl) vR (za jG zB)))
     j4)
    (zR (jb (i:=3) Ky.nd rfl (zN rfl) (pv 4)))))
   (zR (ju (pv 2)))))),?_⟩
  refine⟨_,rfl,_,rfl,a,ns,zy,rfl,hA,hl,l0,lb,fun p H1 s1 hp h1=>?_⟩;generalize hbs:Wo zy ns=bs at h1 q q2;refine⟨_,rfl,p,rfl,⟨_,SqL.of h1⟩,Az (K:=K) (a:=p) (xs:=bs.map V.int) (fun i σ H2=>∃(before:Int) (v4:Option V),σ=[some (.ref a),some (.int zy),some (.ref p),some (.int before),v4]/\H2=H1/\(yO bs↔Oc before (bs.drop i)))
   ⟨0,none,rfl,rfl,by rw[We];exact ziN⟩ (fun i σ H2 _ ⟨_,_,_,e,_⟩=>e ▸ SqL.of h1) ?_ ?_⟩
  .rintro i y σ H2 hi ⟨before,v4,rfl,rfl,hb⟩;rw[qF] at hi;obtain⟨x,hx,rfl⟩:=Option.map_eq_some_iff.mp hi;rw[Tj hx] at hb;refine⟨_,rfl,_,rfl,_,_,rfl,rfl,_,rfl,ifD (fun h=>?_) (fun h=>⟨_,rfl,x,_,rfl,rfl,hb.trans ⟨fun z=>z.2,fun z=>⟨by omega,z⟩⟩⟩)⟩;exact⟨(by decide),q2 (fun B=>by have:=(hb.mp B).1;omega) _ s1⟩
  .rintro σ H2 ⟨before,v4,rfl,rfl,hb⟩;rw[zf,Em] at hb;exact⟨_,rfl,q (hb.mpr trivial) p _ s1 hp h1⟩
end
theorem zcI {zy:Int}{bs ms:List Int} (l0:0<=zy) (h:Al zy (vf zy bs) ms):Wo zy ms=bs:=by
 obtain⟨hl,hf⟩:=(zfd _ _ _).mp h;rw[ZV] at hl;refine Wf fun i=>?_;by_cases hi:i<bs.length
 .have hm:i<ms.length:=by omega
  have gb:=Tq (zy:=zy) (zq hi);have gm:=zq hm;obtain⟨f1,f2⟩:=hf i _ _ gb gm;rw[zco gm,zq hi];congr 1;generalize bs[i]=b at gb f1 f2;generalize ms[i]=m at gm f1 f2;have e:m-(i:Int)=(m-(i:Int)-b*(zy+1))+b*(zy+1):=by omega
  rw[e,K7 _ _ (by omega),K8 (by omega) (by omega)];omega
 .rw[xT (by rw[nq];omega),xT (by omega)]
theorem Ey {zy:Int}{bs:List Int} (l0:0<=zy) (B:yO bs):(vf zy bs).Pairwise (·<=·):=by
 refine List.pairwise_iff_getElem.mpr fun i j hi hj hij=>?_;obtain⟨x,hx,ex⟩:=tY (zq hi);obtain⟨y,hy,ey⟩:=tY (zq hj);rw[ex,ey];have:=vO (B.get (by omega) hx hy) (show 0<=zy+1 by clear ex ey;omega);omega
theorem fL {bs:List Int}{i j:Nat}{v:Int} (hi:i<bs.length):(bs.set i v).getD j 0=if j=i then v else bs.getD j 0:=by
 rw[zA,zA,List.getElem?_set];by_cases h:i=j
 .subst h;simp[hi]
 .rw[if_neg h,if_neg (fun z=>h z.symm)]
theorem Ub {bs:List Int}{i:Nat}{v:Int} (hi:i<bs.length):∀n:Nat,JP (bs.set i v) n=JP bs n+if i<n then ch (v+(i:Int)) ((i:Int)+1)-ch (bs.getD i 0+(i:Int)) ((i:Int)+1) else 0
 | 0=>by rw[if_neg (lR _)];rfl
 | n+1=>by
  show JP (bs.set i v) n+ch ((bs.set i v).getD n 0+(n:Int)) ((n:Int)+1)=JP bs n+ch (bs.getD n 0+(n:Int)) ((n:Int)+1)+_;rw[Ub hi n,fL hi];by_cases h1:n=i
  .subst h1;rw[if_pos rfl,if_neg (vH _),if_pos (W5 _)];omega
  .rw[if_neg h1];by_cases h2:i<n
   .rw[if_pos h2,if_pos (by omega)];clear hi h2;omega
   .rw[if_neg h2,if_neg (by omega)];omega
theorem Fg (m:Nat):∀n:Nat,JP (qH m 0) n=0
 | 0=>rfl
 | n+1=>by
  have e:(qH m (0:Int)).getD n 0=0:=by
   rw[zA,kE];split <;> rfl
  show JP (qH m 0) n+ch ((qH m (0:Int)).getD n 0+(n:Int)) ((n:Int)+1)=0;rw[Fg m n,e,Aq (by omega) (by omega)];rfl
theorem HW:∀n:Nat,(qH n [V.int 0]).flatten=(qH n (0:Int)).map V.int
 | 0=>rfl
 | n+1=>by
  rw[yh,yZ,HW n,yh,zY];rfl
theorem zlW {n:Nat} (h:n<=1000):(-1:Int)≠0/\(-1:Int).natAbs<1073741824/\Qp ((n:Int)-1) (-1) (-1)=true/\xW ((n:Int)-1) (-1) (-1)=(n:Int):=by
 have hs:xW ((n:Int)-1) (-1) (-1)=(n:Int):=by
  unfold xW;rw[if_neg (by decide)];by_cases z:n=0
  .subst z;rfl
  .rw[if_pos (by omega)];show ((n:Int)-1 - -1-1) / (- -1)+1=n;rw[show (- -1:Int)=1 by decide,Int.ediv_one];omega
 refine⟨by decide,by decide,?_,hs⟩;unfold Qp;rw[hs];simp only[aZ];simp;omega
theorem zlf {bs:List Int} (h0:∀j,j<bs.length->0<=bs.getD j 0) (hm:∀j k,j<=k->k<bs.length->bs.getD j 0<=bs.getD k 0):yO bs:=by
 have eg:∀(j:Nat) (h:j<bs.length),bs.getD j 0=bs[j]:=fun j h=>by rw[zA,zq h];rfl
 refine⟨List.pairwise_iff_getElem.mpr fun i j hi hj hij=>?_,fun x hx=>?_⟩
 .have:=hm i j (by omega) hj;rw[eg i hi,eg j hj] at this;exact this
 .obtain⟨j,hj,rfl⟩:=List.getElem_of_mem hx;rw[<- eg j hj];exact h0 j hj
theorem zkH (m:Nat):∀n:Nat,m<C (m+(n+1)) (n+1)
 | 0=>by rw[zkI];omega
 | n+1=>by
  have:=zkH m n;rw[show m+(n+1+1)=(m+(n+1))+1 by omega,dM];omega
theorem zg2 {m:Int}{n:Nat} (h0:0<=m) (hz:(n:Int)=0->m=0):m<ch (m+(n:Int)) (n:Int):=by
 cases n with
 | zero=>
  have:=hz rfl;subst this;rw[show ((0:Nat):Int)=0 from rfl,iD];decide
 | succ n=>
  obtain⟨r,rfl⟩:∃r:Nat,m=(r:Int):=⟨m.toNat,by omega⟩;rw[<- Gr,t6];have:=zkH r n;omega
theorem top_lt {k a b c:Int} (h1:ch a k<=c) (h2:c<ch b k):a<b:=by
 rcases (by omega:a<b∨b<=a) with z | z
 .exact z
 .have:=Ar (k:=k) z;omega
section
def zkM (jZ zK:Int):Prop:=0<=jZ/\(zK=0->jZ=0)
def Ul (K:zg) (C:zm):Sp:=fun vs H Q E=>∃jZ zK:Int,vs=[.int jZ,.int zK]/\0<=zK/\zK<=60/\zZ jZ<=50000 /\
 (zkM jZ zK->∀(p:zm) (bs:List Int) (H':Hp),zX H H'->H p=none->H' p=some (.lst (bs.map V.int))->yO bs->bs.length=zK.toNat->Ko bs=jZ->Szs 60010 bs->Q (.ref p) H') /\
 (¬zkM jZ zK->E (.ref C) none H)
theorem yd:qU ["message","bells","box","left","top","place"] ["message","bells"] (zP Z1):=⟨rfl,rfl,rfl,by decide +kernel,rfl,by decide +kernel,by decide +kernel⟩
theorem uy {ji:zm} (D:Def K mg "box_of_message" Z1 ["message","bells"]) (T:Txt K mg) (wy:mg "TooGreat"=some (.ref ji)) (yD:qD K ji bmV "ValueError.__new__"=true) (VR:Fn P w K mg base 37 "above_top" ["k","number"] za4) (Wz:Fn P w K mg base 37 "top_from" ["start","k","number"] Eb) (Qw:Fn P w K mg base 1 "choose" ["n","k"] fP) :
  FnE P w K mg base 39 "box_of_message" ["message","bells"] (Ul K ji):=by
 refine D.fnE yd (fun vs H Q E h=>?_) (fun f cdv A outer s H vs Q E hr h=>?_)
 .obtain⟨a,bs,rfl,_⟩:=h;rfl
 .obtain⟨jZ,zK,rfl,b0,b60,mb,q1,q2⟩:=h;refine⟨_,(zF (wO (pw_or (jh bU (pv 0) zH (qZ _)) (pw_or1 (pw_and (jh Zy (pv 1) zH (qZ _)) (pw_and1 (jh zfF (pv 0) zH (qZ _)))).pt)).pt
    (zR (yc qu yD (by rfl) wy (za jG zB)))
    j4)
   (zF (jb (i:=2) yd.nd rfl (zN rfl) (jc zrk (eX (za zH zB)) (pv 1)))
   (zF (jb (i:=3) yd.nd rfl (zN rfl) (pv 0))
   (zF (jb (i:=4) yd.nd rfl (zN rfl) (jc jP (pv 0) (pv 1)))
   (zF (bY Qa rfl (Ue (by rfl) T.z_range (za (jc ZM (pv 1) zH) (za (zlN zf5 zH) (za (zlN zf5 zH) zB)))) (j9 (i:=5) yd.nd rfl (zN rfl))
    (zF (jb (i:=4) yd.nd rfl (zN rfl) (vJ Wz (hr.mono (by decide)) (by rfl) (za (jz (ziy rfl) (by rfl) T.z_min zsK (za (jc ZM (pv 4) zH) (za (vJ VR (hr.mono (by decide)) (by rfl) (za (jc jP (pv 5) zH) (za (pv 3) zB))) zB))) (za (jc jP (pv 5) zH) (za (pv 3) zB)))))
    (zF (zaV (jc ZM (pv 4) (pv 5)) (zrs (pv 2) (pv 5) set_list))
    (zR (jb (i:=3) yd.nd rfl (zN rfl) (jc ZM (pv 3) (vJ Qw (hr.mono (by decide)) (by rfl) (za (pv 4) (za (jc jP (pv 5) zH) zB)))))))))
   (zR (ju (pv 2)))))))),?_⟩
  obtain⟨n,rfl⟩:∃n:Nat,zK=(n:Int):=⟨zK.toNat,by omega⟩;refine⟨_,rfl,_,_,rfl,rfl,_,rfl,ifD (fun h=>⟨(by decide),q2 (fun g=>by have:=g.1;omega)⟩) (fun h=>⟨_,rfl,_,_,rfl,rfl,_,rfl,?_⟩)⟩;refine(fun(G:0<=jZ->((n:Int)=0->jZ=0)->_)=>ifD (fun z=>⟨_,rfl,_,_,rfl,rfl,_,rfl,zcJ (fun e=>⟨(by decide),q2 (fun g=>e (g.2 z))⟩) (fun e=>G (by omega) (fun _=>by omega))⟩) (fun z=>G (by omega) (fun z'=>absurd z' z))) (fun m0 mz=>?_);have q:=q1 ⟨m0,mz⟩;refine⟨(by decide),fun l hl=>⟨_,rfl,l,(n:Int),_,rfl,rfl,zL,by omega,by omega,?_,fun p hp=>?_⟩⟩
  .show 1*((n:Int)).toNat<=sizeLine;exact kj (yV (by omega))
  rw[show ((n:Int)).toNat=n by omega,HW];have hp0:H p=none:=(zX.new hl).free hp;have s1:zX H (upd (upd H l (.lst [V.int 0])) p (.lst ((qH n (0:Int)).map V.int))):=(zX.new hl).put hp;have h1:(upd (upd H l (.lst [V.int 0])) p (.lst ((qH n (0:Int)).map V.int))) p=some (.lst ((qH n (0:Int)).map V.int)):=zL;generalize upd (upd H l (.lst [V.int 0])) p (.lst ((qH n (0:Int)).map V.int))=H1 at s1 h1 ⊢;have mb2:zZ (jZ+(n:Int))<=60000:=zU (vP (m:=50000) (n:=64) mb (vI (by omega) (by omega))) (by decide);refine⟨_,rfl,_,rfl,_,rfl,_,_,rfl,rfl,_,rfl,_,_,rfl,rfl,1,rfl,1,rfl,(n:Int)-1,-1,-1,n,rfl,zlW (by omega),zfm (lo:=(n:Int)-1) (c:=-1) (n:=n) (fun i σ H2=>∃(bs:List Int) (left top:Int) (v5:Option V),σ=[some (.int jZ),some (.int (n:Int)),some (.ref p),some (.int left),some (.int top),v5]/\zX H H2/\H2 p=some (.lst (bs.map V.int))/\bs.length=n/\0<=left/\left<=jZ/\left+JP bs n=jZ/\(∀j,j<n-i->bs.getD j 0=0)/\(∀j,j<n->0<=bs.getD j 0)/\(∀j k,n-i<=j->j<=k->k<n->bs.getD j 0<=bs.getD k 0)/\left<ch top ((n-i:Nat):Int)/\((n-i:Nat):Int)<=top/\zZ top<=60000/\(0<i->top=bs.getD (n-i) 0+((n-i:Nat):Int))/\Szs 60010 bs)
   ⟨qH n 0,jZ,jZ+(n:Int),none,rfl,s1,h1,by rw[jE],m0,jl _,by rw[Fg];omega,fun j _=>?_,fun j _=>?_,fun j k h1 h2 h3=>by omega,by rw[zbt];exact zg2 m0 mz,by omega,mb2,fun z=>absurd z (by omega),fun x hx=>?_⟩ ?_ ?_⟩
  .rw[zA,kE];split <;> rfl
  .rw[zA,kE];split <;> decide
  .rw[(List.mem_replicate.mp hx).2];decide
  .rintro i σ H2 hi ⟨bs,left,top,v5,rfl,sm,hB,hl2,l0,l1,sum,z0,nn,mono,lt,tge,tbb,teq,sz⟩;obtain⟨pl,hpl⟩:∃pl:Nat,pl=n-1-i:=⟨_,rfl⟩;have ep:(n:Int)-1+(i:Int)*-1=(pl:Int):=by clear mb h m0 mb2 l0 l1 sum lt tge tbb;omega
   rw[ep];have hpb:pl<bs.length:=by clear mb h m0 mb2 hi l0 l1 sum lt tge tbb;omega
   have hni:n-i=pl+1:=by clear mb h m0 mb2 l0 l1 sum lt tge tbb;omega
   rw[hni] at lt tge teq;refine⟨_,rfl,_,_,rfl,rfl,_,rfl,_,_,rfl,rfl,_,rfl,(pl:Int)+1,left,rfl,by clear mb h m0 mb2 l0 l1 sum tbb tge lt;omega,by clear mb h m0 mb2 hi l0 l1 sum tbb tge lt;omega,l0,jN (y:=jZ) (by clear mb b0 b60 mb2 hi hl2 tbb tge lt hpl ep hpb hni;omega) mb,fun a a1 a2 a3=>⟨_,_,rfl,_,rfl,_,_,rfl,rfl,_,rfl,_,(pl:Int)+1,left,rfl,by clear mb h m0 mb2 l0 l1 sum tbb tge lt a2;omega,by clear mb h m0 mb2 hi l0 l1 sum tbb tge lt a2;omega,l0,?_,?_,?_,fun t tp tb=>?_⟩⟩
   .split <;> omega
   .split
    .exact a2
    .rw[show top-1+1=top by omega,show ((pl:Int)+1)=((pl+1:Nat):Int) by omega];exact lt
   .split
    .exact a3
    .exact jN (y:=top) (by clear h m0 mb2 l0 l1 sum tbb lt a2 a3;omega) tbb
   have t0:=tp.lo;have t1:=tp.le;have t2:=tp.lt;refine⟨_,rfl,_,rfl,_,_,rfl,rfl,_,rfl,_,rfl,p,_,_,pl,rfl,rfl,hB,?_,?_⟩
   .unfold ixN;rw[zf,if_pos (by clear mb h m0 mb2 l0 l1 sum tbb tge lt a2 tb t1 t2;omega),if_pos (by clear mb h m0 mb2 hi l0 l1 sum tbb tge lt a2 t1 t2;omega),yf]
   have pas:=zav (n:=t) (k:=(pl:Int)) (by clear mb h m0 mb2 l0 l1 sum tbb tge lt a1 a2 a3 tb t1 t2;omega) (by clear mb h m0 mb2 l0 l1 sum tbb tge lt a2 tb t1 t2;omega);refine⟨_,rfl,_,rfl,_,rfl,_,_,rfl,rfl,t,(pl:Int)+1,rfl,by clear mb h m0 mb2 l0 l1 sum tbb tge lt a1 a2 a3 tb t1 t2 pas;omega,by clear mb h m0 mb2 l0 l1 sum tbb tge lt a2 tb t1 t2 pas;omega,by clear mb h m0 mb2 hi l0 l1 sum tbb tge lt a2 tb t1 t2 pas;omega,zU tb (by decide),_,_,rfl,rfl,?_⟩;have ge:=pF t ((pl:Int)+1);refine⟨bs.set pl (t-(pl:Int)),left-ch t ((pl:Int)+1),t,_,rfl,sm.wr hp0,by rw[zL,List.map_set],by rw[lQ];exact hl2,by clear mb b0 b60 h m0 mb2 hi hl2 l1 sum tbb tge lt hpl ep hpb hni a1 a2 a3 tb t0;omega,by clear mb b0 b60 mb2 hi hl2 tbb tge lt hpl ep hpb hni a1 a2 a3 tb t0 t1;omega,?_,fun j hj=>?_,fun j hj=>?_,fun j k h1 h2 h3=>?_,?_,by clear mb h m0 mb2 l0 l1 sum tbb tge lt a1 a2 a3 tb t1 t2 pas ge;omega,tb,fun _=>?_,fun x hx=>?_⟩
   .rw[Ub hpb,if_pos (by clear mb b0 b60 h m0 mb2 hi l0 l1 sum tbb tge lt a2 tb t0 t1 t2 pas ge;omega),z0 pl (by omega),Aq (n:=0+(pl:Int)) (by clear mb h m0 mb2 l0 l1 sum tbb tge lt a2 tb t1 t2 pas;omega) (by omega),show t-(pl:Int)+(pl:Int)=t by omega];omega
   .rw[fL hpb,if_neg (by clear mb b0 b60 h m0 mb2 hi l0 l1 sum tbb tge lt a1 a2 a3 tb t0 t1 t2 pas ge;omega)];exact z0 j (by clear mb h m0 mb2 l0 l1 sum tbb tge lt a1 a2 a3 tb t0 t1 t2 pas ge;omega)
   .rw[fL hpb];split
    .clear mb b0 b60 h m0 mb2 hi hl2 l0 l1 sum tbb tge lt ep hpb a1 a2 a3 tb t1 t2 pas ge hj;omega
    .exact nn j hj
   .rw[fL hpb,fL hpb];by_cases e1:j=pl
    .rw[if_pos e1];by_cases e2:k=pl
     .rw[if_pos e2];exact jl _
     .rw[if_neg e2];have:=top_lt t1 (by rw[show ((pl:Int)+1)=((pl+1:Nat):Int) by omega];exact lt);have:=teq (by clear mb b0 b60 h m0 mb2 hi l0 l1 sum tbb tge lt a1 a2 a3 tb t0 t1 t2 pas ge h1 this;omega);have:=mono (pl+1) k (by omega) (by clear mb b0 b60 h m0 mb2 hi hl2 l0 l1 sum tbb tge lt ep hpb a1 a2 a3 tb t0 t1 t2 pas ge h1 this;omega) h3;clear mb b0 b60 h m0 mb2 hi hl2 l0 l1 sum tbb tge lt ep hpb a1 a2 a3 tb t0 t1 t2 pas ge h1 h2 h3;omega
    .rw[if_neg e1,if_neg (by clear mb b0 b60 h m0 mb2 hi l0 l1 sum tbb tge lt a2 a3 tb t0 t1 t2 pas ge;omega)];exact mono j k (by clear mb h m0 mb2 l0 l1 sum tbb tge lt a1 a2 a3 tb t0 t1 t2 pas ge h2 h3;omega) h2 h3
   .rw[show n-(i+1)=pl by clear mb h m0 mb2 l0 l1 sum tbb tge lt a1 a2 a3 tb t0 t1 t2 pas ge;omega];clear mb b0 b60 h m0 mb2 hi hl2 l1 sum tbb tge lt hpl ep hpb hni a1 a2 a3 tb t0 t1;omega
   .rw[show n-(i+1)=pl by clear mb h m0 mb2 l0 l1 sum tbb tge lt a1 a2 a3 tb t0 t1 t2 pas ge;omega,fL hpb,if_pos rfl,show t-(pl:Int)+(pl:Int)=t by omega]
   .rcases List.mem_or_eq_of_mem_set hx with z | z
    .exact sz x z
    .rw[z];exact zU (cJ (m:=60000) (n:=64) tb (vI (by clear mb h m0 mb2 l0 l1 sum tbb tge lt a1 a2 a3 tb t1 t2 pas ge;omega) (by clear mb h m0 mb2 hi l0 l1 sum tbb tge lt a1 a2 a3 tb t1 t2 pas;omega))) (by decide)
  .rintro σ H2 ⟨bs,left,top,v5,rfl,sm,hB,hl2,l0,l1,sum,z0,nn,mono,lt,tge,tbb,teq,sz⟩;rw[Xx] at z0 mono lt;have e0:left=0:=by
    by_cases hn:n=0
    .subst hn;have:jZ=0:=mz rfl;omega
    .rw[show ((0:Nat):Int)=0 from rfl,iD] at lt;omega
   refine⟨_,rfl,q p bs H2 sm hp0 hB (zlf (fun j hj=>nn j (by omega)) (fun j k h1 h2=>mono j k (qX _) h1 (by omega))) (by omega) ?_ sz⟩;unfold Ko;rw[hl2];omega
end
noncomputable def cnt (turns zK zy:Int):Int:=if turns<zK then 0 else ch ((turns-zK) / (zy+1)+zK) zK
def Yv:Sp:=fun vs H Q _=>∃turns zK zy:Int,vs=[.int turns,.int zK,.int zy]/\0<=zK/\zK<=1000/\0<=zy/\zZ zy<=8000/\zZ turns<=70000/\Q (.int (cnt turns zK zy)) H
section
def za7:Sp:=fun vs H Q _=>∃turns zK zy:Int,vs=[.int turns,.int zK,.int zy]/\0<=zy/\zZ zy<=8000/\Q (.int ((turns-zK) / (zy+1))) H
theorem DX:qU ["turns","bells","late"] ["turns","bells","late"] (zP QB):=⟨rfl,rfl,rfl,by decide +kernel,rfl,by decide +kernel,by decide +kernel⟩
theorem DG (D:Def K mg "greatest_part" QB ["turns","bells","late"]):Fn P w K mg base 1 "greatest_part" ["turns","bells","late"] za7:=by
 refine D.fn DX (fun vs H Q E h=>?_) (fun f cdv A outer s H vs Q E hr h=>?_)
 .obtain⟨a,b,c,rfl,_⟩:=h;rfl
 .obtain⟨turns,zK,zy,rfl,l0,lb,q⟩:=h;refine⟨_,(zR (ju (jc bT (jc ZM (pv 0) (pv 1)) (jc jP (pv 2) zH)))),?_⟩;have lb1:zZ (zy+1)<=9000:=zU (vP (m:=8000) (n:=1) lb (by decide)) (by decide);exact⟨_,rfl,_,rfl,_,_,rfl,rfl,_,rfl,_,_,rfl,rfl,_,_,rfl,rfl,⟨by omega,lb1⟩,q⟩
theorem za1:qU ["turns","bells","late"] ["turns","bells","late"] (zP KN):=⟨rfl,rfl,rfl,by decide +kernel,rfl,by decide +kernel,by decide +kernel⟩
theorem zaM (D:Def K mg "box_count" KN ["turns","bells","late"]) (T:Txt K mg) (Y9:Fn P w K mg base 1 "greatest_part" ["turns","bells","late"] za7) (Qw:Fn P w K mg base 1 "choose" ["n","k"] fP):Fn P w K mg base 2 "box_count" ["turns","bells","late"] Yv:=by
 refine D.fn za1 (fun vs H Q E h=>?_) (fun f cdv A outer s H vs Q E hr h=>?_)
 .obtain⟨a,b,c,rfl,_⟩:=h;rfl
 .obtain⟨turns,zK,zy,rfl,b0,b1,l0,lb,tb,q⟩:=h;refine⟨_,(zF (wO (jh Ks (pv 1) (pv 0) (qZ _))
    (zR (ju zH))
    j4)
   (zR (ju (vJ Qw (hr.mono (by decide)) (by rfl) (za (jc jP (vJ Y9 (hr.mono (by decide)) (by rfl) (za (pv 0) (za (pv 1) (za (pv 2) zB)))) (pv 1)) (za (pv 1) zB)))))),?_⟩
  unfold cnt at q;refine⟨_,rfl,_,rfl,_,_,rfl,rfl,_,rfl,ifD (fun h=>?_) (fun h=>?_)⟩
  .rw[if_pos h] at q;exact q
  .rw[if_neg h] at q;have d0:0<=(turns-zK) / (zy+1):=ZR (by omega) (by omega);have db:zZ ((turns-zK) / (zy+1))<=70000:=by
    have h2:=Xq (zy+1) (show 0<=turns-zK by omega);exact jN (y:=turns) (by clear l0 lb tb;omega) tb
   refine⟨_,rfl,_,rfl,_,rfl,turns,zK,zy,rfl,l0,lb,_,rfl,_,_,rfl,rfl,_,rfl,_,zK,rfl,by omega,b0,b1,?_,q⟩;exact zU (vP (m:=70000) (n:=64) db (vI b0 (by omega))) (by decide)
end
theorem zn2 {turns zK zy:Int} (b0:0<=zK) (h:zK<=turns) (l0:0<=zy):0<cnt turns zK zy:=by
 unfold cnt;rw[if_neg (by omega)];have d0:0<=(turns-zK) / (zy+1):=ZR (by omega) (by omega);exact zqL b0 (by omega)
theorem bH (turns zK zy:Int):0<=cnt turns zK zy:=by
 unfold cnt;split
 .exact jl _
 .exact pF _ _
theorem zct {turns zK zy:Int}{m:Nat} (b0:0<=zK) (b1:zK<=61) (l0:0<=zy) (t0:0<=turns) (tb:zZ turns<=m) (hm:7<=m):zZ (cnt turns zK zy)<=(m+1)*61+1:=by
 unfold cnt;split
 .exact qX _
 .have d0:0<=(turns-zK) / (zy+1):=ZR (by omega) (by omega);have d1:(turns-zK) / (zy+1)<=turns-zK:=Xq _ (by omega);have nb:zZ ((turns-zK) / (zy+1)+zK)<=m+1:=zU (jN (y:=turns) (by clear l0 tb hm;omega) tb) (by omega);have:=GJ (k:=zK.toNat) nb (by omega);rw[show ((zK.toNat:Nat):Int)=zK by clear l0 tb hm d0 d1 nb this;omega] at this;exact zU this (oW (XC _ (by clear l0 tb hm d0 d1 nb this;omega)) _)
theorem Ao {x y:Int}{m:Nat} (h0:0<=x) (h1:x<y) (hy:zZ y<=m):zZ x<=m:=jN (y:=y) (by omega) hy
def ZL (zK zy XM t:Int):Prop:=0<=t/\XM<=cnt t zK zy/\(t=0∨cnt (t-1) zK zy<XM)
theorem zfQ {zK zy:Int}:ZL zK zy 0 0:=⟨jl _,bH _ _ _,zN rfl⟩
theorem zjj {zy:Int} (l0:0<=zy):ZL 0 zy 1 0:=⟨jl _,by have:=zn2 (turns:=0) (zK:=0) (zy:=zy) (by decide) (by decide) l0;omega,zN rfl⟩
theorem zjk {zK zy XM t:Int} (b1:1<=zK) (l0:0<=zy) (m1:1<=XM) (h:Ht zK (XM-1) t):ZL zK zy XM ((t+1-zK)*(zy+1)+zK):=by
 have h1:=h.lo;have h2:=h.le;have h3:=h.lt;have g0:0<=t+1-zK:=by omega
 have p0:0<=(t+1-zK)*(zy+1):=yQ g0 (by omega);refine⟨by omega,?_,cH ?_⟩
 .unfold cnt;rw[if_neg (by omega),show (t+1-zK)*(zy+1)+zK-zK=(t+1-zK)*(zy+1) by omega,rm _ (by omega),show t+1-zK+zK=t+1 by omega];omega
 .unfold cnt;split
  .omega
  .rename_i z;have e:((t+1-zK)*(zy+1)+zK-1-zK) / (zy+1)=t-zK:=by
    have e1:(t+1-zK)*(zy+1)=(t-zK)*(zy+1)+(zy+1):=by
     rw[show t+1-zK=(t-zK)+1 by omega,du,dw]
    rw[show (t+1-zK)*(zy+1)+zK-1-zK=zy+(t-zK)*(zy+1) by omega,K7 _ _ (by omega),K8 l0 (by omega)];omega
   rw[e,show t-zK+zK=t by omega];omega
section
def G9:Sp:=fun vs H Q _=>∃zK zy XM:Int,vs=[.int zK,.int zy,.int XM]/\0<=zK/\zK<=60/\0<=zy/\0<=XM/\zZ zy<=8000/\zZ XM<=40000/\(zK=0->1<XM->Q .non H)/\((zK=0->XM<=1)->∀t:Int,ZL zK zy XM t->zZ t<=69000->Q (.int t) H)
theorem cY:qU ["bells","late","many","greatest"] ["bells","late","many"] (zP Z2):=⟨rfl,rfl,rfl,by decide +kernel,rfl,by decide +kernel,by decide +kernel⟩
theorem Bg (D:Def K mg "shortest_frame" Z2 ["bells","late","many"]) (T:Txt K mg) (Hq:Fn P w K mg base 38 "top_of" ["k","number"] zpX):Fn P w K mg base 39 "shortest_frame" ["bells","late","many"] G9:=by
 refine D.fn cY (fun vs H Q E h=>?_) (fun f cdv A outer s H vs Q E hr h=>?_)
 .obtain⟨a,b,c,rfl,_⟩:=h;rfl
 .obtain⟨zK,zy,XM,rfl,b0,b60,l0,m0,lb,mb,q1,q2⟩:=h;refine⟨_,(zF (wO (jh Zy (pv 2) zH (qZ _))
    (zR (ju zH))
    j4)
   (zF (wO (jh Zy (pv 0) zH (qZ _))
    (zR (ju (Bh (jh Zy (pv 2) zH (qZ _)) zH az)))
    j4)
   (zF (jb (i:=3) cY.nd rfl (zN rfl) (jc ZM (jc jP (vJ Hq (hr.mono (by decide)) (by rfl) (za (pv 0) (za (jc ZM (pv 2) zH) zB))) zH) (pv 0)))
   (zR (ju (jc jP (jc ZZ (pv 3) (jc jP (pv 1) zH)) (pv 0))))))),?_⟩
  refine⟨_,rfl,_,_,rfl,rfl,_,rfl,ifD (fun h=>?_) (fun h=>⟨_,rfl,_,_,rfl,rfl,_,rfl,ifD (fun z=>⟨_,rfl,_,_,rfl,rfl,_,rfl,ifD (fun o=>?_) (fun o=>?_)⟩) (fun z=>?_)⟩)⟩
  .subst h;exact q2 (fun _=>by decide) 0 zfQ (by decide)
  .subst o z;exact q2 (fun _=>by decide) 0 (zjj l0) (by decide)
  .exact q1 z (by omega)
  .refine⟨_,rfl,_,rfl,_,_,rfl,rfl,zK,XM-1,rfl,by omega,b60,by omega,jN (y:=XM) (by clear l0 lb mb;omega) (zU mb (by decide)),fun t tp tb=>?_⟩;have gb:zZ (t+1-zK)<=60064:=zU (cJ (m:=60001) (n:=64) (vP (m:=60000) (n:=1) tb (by decide)) (vI (by omega) (by omega))) (by decide);have lb1:zZ (zy+1)<=8001:=zU (vP (m:=8000) (n:=1) lb (by decide)) (by decide);refine⟨_,_,rfl,rfl,_,rfl,_,_,rfl,rfl,_,rfl,_,rfl,_,_,rfl,rfl,_,_,rfl,rfl,⟨60064,8001,gb,lb1,by decide⟩,_,rfl,_,_,rfl,rfl,?_⟩;exact q2 (fun e=>absurd e z) _ (zjk (by omega) l0 (by clear l0 lb mb tb gb lb1;omega) tp) (zU (vP (m:=68065) (n:=64) (Wm gb lb1) (vI (by omega) (by omega))) (by decide))
end
def Di (turns zy most b:Int):Prop:=0<=b/\b<=most/\∀j:Int,0<=j->j<=most->cnt turns j zy<=cnt turns b zy/\(j<b->cnt turns j zy<cnt turns b zy)
section
def zfR:Sp:=fun vs H Q _=>∃turns zy most:Int,vs=[.int turns,.int zy,.int most]/\0<=zy/\0<=most/\most<=1000/\zZ zy<=8000/\zZ turns<=70000/\∀b:Int,Di turns zy most b->Q (.int b) H
theorem Qe:qU ["turns","late","most","best","greatest","bells","many"] ["turns","late","most"] (zP XX):=⟨rfl,rfl,rfl,by decide +kernel,rfl,by decide +kernel,by decide +kernel⟩
theorem PP (D:Def K mg "best_bells" XX ["turns","late","most"]) (T:Txt K mg) (jU:Fn P w K mg base 2 "box_count" ["turns","bells","late"] Yv):Fn P w K mg base 3 "best_bells" ["turns","late","most"] zfR:=by
 refine D.fn Qe (fun vs H Q E h=>?_) (fun f cdv A outer s H vs Q E hr h=>?_)
 .obtain⟨a,b,c,rfl,_⟩:=h;rfl
 .obtain⟨turns,zy,most,rfl,l0,m0,m1,lb,tb,q⟩:=h;refine⟨_,(zF (jb (i:=3) Qe.nd rfl (zN rfl) zH)
   (zF (jb (i:=4) Qe.nd rfl (zN rfl) zH)
   (zF (bY kW rfl (WR (by rfl) T.z_range (za (jc jP (pv 2) zH) zB)) (j9 (i:=5) Qe.nd rfl (zN rfl))
    (zF (jb (i:=6) Qe.nd rfl (zN rfl) (vJ jU (hr.mono (by decide)) (by rfl) (za (pv 0) (za (pv 5) (za (pv 1) zB)))))
    (zR (wO (jh Ks (pv 6) (pv 4) (qZ _))
     (zF (jb (i:=3) Qe.nd rfl (zN rfl) (pv 5))
     (zR (jb (i:=4) Qe.nd rfl (zN rfl) (pv 6))))
     j4))))
   (zR (ju (pv 3)))))),?_⟩
  refine⟨_,rfl,_,_,rfl,rfl,most+1,rfl,by omega,by omega,fK (n:=(most+1).toNat) (fun i σ H'=>∃(b g:Int) (v5 v6:Option V),σ=[some (.int turns),some (.int zy),some (.int most),some (.int b),some (.int g),v5,v6]/\H'=H/\0<=b/\(i=0->b=0/\g=0)/\(0<i->b<(i:Int)/\g=cnt turns b zy)/\(∀j:Int,0<=j->j<(i:Int)->cnt turns j zy<=g/\(j<b->cnt turns j zy<g)))
   ⟨0,0,none,none,rfl,rfl,by omega,fun _=>⟨rfl,rfl⟩,fun z=>absurd z (by omega),fun j _ _=>by omega⟩ ?_ ?_⟩
  .rintro i σ H' hi ⟨b,g,v5,v6,rfl,rfl,b0,iz,ip,al⟩;have e0:(0:Int)+(i:Int)=(i:Int):=by omega
   rw[e0];refine⟨_,rfl,_,rfl,_,rfl,turns,(i:Int),zy,rfl,by omega,by omega,l0,lb,tb,?_⟩;have c0:=bH turns (i:Int) zy;have bi:b<=(i:Int):=by
    by_cases z:i=0
    .have:=iz z;omega
    .have:=ip (by omega);omega
   refine⟨_,rfl,_,rfl,_,_,rfl,rfl,_,rfl,ifD (fun h=>⟨_,rfl,_,rfl,?_⟩) (fun h=>?_)⟩
   .refine⟨(i:Int),_,_,_,rfl,rfl,by omega,fun z=>absurd z (by omega),fun _=>⟨by omega,rfl⟩,fun j j0 j1=>?_⟩;by_cases z:j=(i:Int)
    .subst z;exact⟨jl _,fun z=>absurd z (by omega)⟩
    .have:=(al j j0 (by omega)).1;exact⟨by omega,fun _=>by omega⟩
   .refine⟨b,g,_,_,rfl,rfl,b0,fun z=>absurd z (by omega),fun _=>?_,fun j j0 j1=>?_⟩
    .by_cases z:i=0
     .obtain⟨z1,z2⟩:=iz z;subst z z1 z2;exact⟨by omega,by have:((0:Nat):Int)=0:=rfl;rw[this] at c0 h;omega⟩
     .have:=ip (by omega);exact⟨by omega,this.2⟩
    .by_cases z:j=(i:Int)
     .subst z;exact⟨by omega,fun z=>absurd z (by omega)⟩
     .exact al j j0 (by omega)
  .rintro σ H' ⟨b,g,v5,v6,rfl,rfl,b0,iz,ip,al⟩;obtain⟨p1,p2⟩:=ip (by omega);refine⟨_,rfl,q b ⟨b0,by omega,fun j j0 j1=>?_⟩⟩;rw[<- p2];exact al j j0 (by clear l0 lb tb b0 p1 p2;omega)
end
section
open PySem.Spec PyProof.Rows PySem.SeqAt
variable {X:Cx}
end
theorem zcu {t u zK zy:Int} (b0:0<=zK) (l0:0<=zy) (h:t<=u):cnt t zK zy<=cnt u zK zy:=by
 unfold cnt;split
 .split
  .exact jl _
  .exact pF _ _
 .rw[if_neg (by omega)];have:(t-zK) / (zy+1)<=(u-zK) / (zy+1):=Int.ediv_le_ediv (by omega) (by omega);exact Ar (by omega)
theorem iM {zK zy XM t u:Int} (b0:0<=zK) (l0:0<=zy) (h1:ZL zK zy XM t) (h2:ZL zK zy XM u):t=u:=by
 obtain⟨a0,a1,a2⟩:=h1;obtain⟨c0,c1,c2⟩:=h2;rcases (by omega:t=u∨t<u∨u<t) with z | z | z
 .exact z
 .have:=zcu (t:=t) (u:=u-1) b0 l0 (by omega);clear b0 l0 c1;omega
 .have:=zcu (t:=u) (u:=t-1) b0 l0 (by omega);clear b0 l0 a1;omega
noncomputable def shT (b l m:Int):Int:=Classical.epsilon (ZL b l m)
theorem zrA {b l m t:Int} (b0:0<=b) (l0:0<=l) (h:ZL b l m t):shT b l m=t:=iM b0 l0 (Classical.epsilon_spec ⟨t,h⟩) h
noncomputable def shO (b l m:Int):Option Int:=if b=0/\1<m then none else some (shT b l m)
theorem zdi {b l m:Int} (h1:b=0) (h2:1<m):shO b l m=none:=by unfold shO;rw[if_pos ⟨h1,h2⟩]
theorem zdj {b l m t:Int} (b0:0<=b) (l0:0<=l) (h:b=0->m<=1) (ht:ZL b l m t):shO b l m=some t:=by
 unfold shO;rw[if_neg (fun z=>by have:=h z.1;omega),zrA b0 l0 ht]
abbrev Tr:=Int×Int×Int
abbrev trV (x:Tr):HO:=.tup [V.int x.1,V.int x.2.1,V.int x.2.2]
noncomputable def Um:Option Tr->Tr->Option Tr
 | none,x=>some x
 | some y,x=>if x.1<y.1 then some x else some y
theorem uG (y x:Tr):Um (some y) x=if x.1<y.1 then some x else some y:=rfl
noncomputable def Wr (l:List Tr):Option Tr:=l.foldl Um none
theorem tZ (l:List Tr) (x:Tr):Wr (l++[x])=Um (Wr l) x:=by
 unfold Wr;rw[Cd];rfl
noncomputable def zlG (tc bc l m:Int) (i:Nat):List Tr:=match shO (i:Int) l m with
 | none=>[]
 | some t=>[(t*tc+(i:Int)*bc,t,(i:Int))]
noncomputable def listS (tc bc l m:Int):Nat->List Tr
 | 0=>[]
 | i+1=>listS tc bc l m i++zlG tc bc l m i
theorem Ii {tc bc l m:Int}{i:Nat} (h:shO (i:Int) l m=none):listS tc bc l m (i+1)=listS tc bc l m i:=by
 show listS tc bc l m i++zlG tc bc l m i=_;unfold zlG;rw[h];exact jr _
theorem Ij {tc bc l m t:Int}{i:Nat} (h:shO (i:Int) l m=some t):listS tc bc l m (i+1)=listS tc bc l m i++[(t*tc+(i:Int)*bc,t,(i:Int))]:=by
 show listS tc bc l m i++zlG tc bc l m i=_;unfold zlG;rw[h]
inductive zgX (H:Hp):V->Option Tr->Prop where
 | non:zgX H .non none
 | tup (p:zm) (x:Tr) (h:H p=some (trV x)):zgX H (.ref p) (some x)
section
def za5:Sp:=fun vs H Q _=>∃XM zy tc bc most:Int,vs=[.int XM,.int zy,.int tc,.int bc,.int most]/\0<=most/\most<=60/\0<=zy/\0<=XM/\zZ zy<=8000/\zZ XM<=40000/\zZ tc<=8000/\zZ bc<=8000 /\
 ∀(v:V) (H':Hp),zX H H'->zgX H' v (Wr (listS tc bc zy XM (most+1).toNat))->Q v H'
theorem V3:qU ["many","late","turn_cost","bell_cost","most","best","bells","turns","cost"] ["many","late","turn_cost","bell_cost","most"] (zP YK):=⟨rfl,rfl,rfl,by decide +kernel,rfl,by decide +kernel,by decide +kernel⟩
theorem zc0 (D:Def K mg "cheapest" YK ["many","late","turn_cost","bell_cost","most"]) (T:Txt K mg) (wg:Fn P w K mg base 39 "shortest_frame" ["bells","late","many"] G9):Fn P w K mg base 40 "cheapest" ["many","late","turn_cost","bell_cost","most"] za5:=by
 refine D.fn V3 (fun vs H Q E h=>?_) (fun f cdv A outer s H vs Q E hr h=>?_)
 .obtain⟨a,b,c,d,e,rfl,_⟩:=h;rfl
 .obtain⟨XM,zy,tc,bc,most,rfl,o0,o60,l0,m0,lb,mb,tb,bb,q⟩:=h;refine⟨_,(zF (jb (i:=5) V3.nd rfl (zN rfl) az)
   (zF (bY kW rfl (WR (by rfl) T.z_range (za (jc jP (pv 4) zH) zB)) (j9 (i:=6) V3.nd rfl (zN rfl))
    (zF (jb (i:=7) V3.nd rfl (zN rfl) (vJ wg (hr.mono (by decide)) (by rfl) (za (pv 6) (za (pv 1) (za (pv 0) zB)))))
    (zR (wO (jh zaR (pv 7) az (qZ _))
     (zF (jb (i:=8) V3.nd rfl (zN rfl) (jc jP (jc ZZ (pv 7) (pv 2)) (jc ZZ (pv 6) (pv 3))))
     (zR (wO (pw_or (jh zaQ (pv 5) az (qZ _)) (pw_or1 (jh bU (pv 8) (kZ uf (pv 5) zH (fun _ _=>rfl)) (qZ _)))).pt
      (zR (jb (i:=5) V3.nd rfl (zN rfl) (nW (za (pv 8) (za (pv 7) (za (pv 6) zB))))))
      j4)))
     j4))))
   (zR (ju (pv 5))))),?_⟩
  refine⟨_,rfl,_,_,rfl,rfl,_,rfl,by omega,by omega,fK (n:=(most+1).toNat) (fun i σ H2=>∃(bv:V) (v6 v7 v8:Option V),σ=[some (.int XM),some (.int zy),some (.int tc),some (.int bc),some (.int most),some bv,v6,v7,v8]/\zX H H2/\zgX H2 bv (Wr (listS tc bc zy XM i))) ⟨.non,none,none,none,rfl,zX.refl _,.non⟩ ?_ ?_⟩
  .rintro i σ H2 hi ⟨bv,v6,v7,v8,rfl,sm,B⟩;rw[show (0:Int)+(i:Int)=(i:Int) by omega];refine⟨_,rfl,_,rfl,_,rfl,(i:Int),zy,XM,rfl,by omega,by clear l0 m0 lb mb tb bb;omega,l0,m0,lb,mb,fun z1 z2=>?n1,fun hz t ht tbb=>?s1⟩
   case n1=>
    refine⟨_,rfl,rfl,_,rfl,zcJ (fun z=>absurd rfl z) (fun _=>?_)⟩;exact⟨bv,_,_,_,rfl,sm,by rw[Ii (zdi z1 z2)];exact B⟩
   case s1=>
    have eS:=Ij (tc:=tc) (bc:=bc) (zdj (by omega) l0 hz ht);refine⟨_,rfl,rfl,_,rfl,zcJ (fun _=>?_) (fun z=>nomatch z)⟩;refine⟨_,rfl,_,rfl,_,_,rfl,rfl,⟨69000,8000,tbb,tb,by decide⟩,_,rfl,_,rfl,_,_,rfl,rfl,⟨64,8000,vI (by omega) (by omega),bb,by decide⟩,_,_,rfl,rfl,?_⟩;generalize hB:Wr (listS tc bc zy XM i)=ob at B;cases B with
    | non=>
     refine⟨_,rfl,rfl,_,rfl,ifT rfl ?_⟩;refine⟨_,rfl,_,rfl,_,rfl,(by show 3<=sizeLine;decide),fun p hp=>?_⟩;refine⟨.ref p,_,_,_,rfl,sm.put hp,?_⟩;rw[eS,tZ,hB];exact .tup p _ zL
    | tup b x hb=>
     refine⟨_,rfl,rfl,_,rfl,ifF (fun z=>nomatch z) ⟨_,rfl,_,rfl,_,_,_,_,rfl,rfl,SqT.of hb,rfl,_,_,rfl,rfl,_,rfl,ifD (fun lt=>?_) (fun nlt=>?_)⟩⟩
     .refine⟨_,rfl,_,rfl,_,rfl,(by show 3<=sizeLine;decide),fun p hp=>?_⟩;refine⟨.ref p,_,_,_,rfl,sm.put hp,?_⟩;rw[eS,tZ,hB];rw[uG];dsimp only;rw[if_pos lt];exact .tup p _ zL
     .refine⟨.ref b,_,_,_,rfl,sm,?_⟩;rw[eS,tZ,hB];rw[uG];dsimp only;rw[if_neg nlt];exact .tup b _ hb
  .rintro σ H2 ⟨bv,v6,v7,v8,rfl,sm,B⟩;exact⟨_,rfl,q bv H2 sm B⟩
end
theorem Fo {b l m:Int}:∀n:Nat,m<=cnt (n:Int) b l->∃t:Int,ZL b l m t/\t<=(n:Int)
 | 0,h=>⟨0,⟨jl _,h,.inl rfl⟩,jl _⟩
 | n+1,h=>by
  by_cases z:m<=cnt (n:Int) b l
  .obtain⟨t,ht,hn⟩:=Fo n z;exact⟨t,ht,by omega⟩
  .refine⟨((n+1:Nat):Int),⟨by omega,h,.inr ?_⟩,jl _⟩;rw[show ((n+1:Nat):Int)-1=(n:Int) by omega];omega
theorem zdk {b l m:Int} (b0:0<=b) (l0:0<=l) (m0:0<=m) (h:b=0->m<=1):∃t:Int,ZL b l m t/\t<=m*(l+1)+b:=by
 have mn:0<=m*(l+1):=yQ m0 (by omega);have e:(((m*(l+1)+b).toNat:Nat):Int)=m*(l+1)+b:=by omega
 have hc:m<=cnt (m*(l+1)+b) b l:=by
  unfold cnt;rw[if_neg (by omega),show m*(l+1)+b-b=m*(l+1) by omega,rm m (show l+1≠0 by omega)];by_cases z:b=0
  .subst z;rw[iD];exact h rfl
  .have:=zg2 (n:=b.toNat) m0 (fun y=>absurd y (by omega));rw[show ((b.toNat:Nat):Int)=b by omega] at this;clear b0 l0 mn e;omega
 have:=Fo (b:=b) (l:=l) (m:=m) (m*(l+1)+b).toNat (by rw[e];exact hc);rw[e] at this;exact this
theorem zl2 {b l m t:Int} (b0:0<=b) (l0:0<=l) (m0:0<=m) (h:b=0->m<=1) (ht:ZL b l m t):0<=t/\t<=m*(l+1)+b:=by
 obtain⟨u,hu,hl⟩:=zdk b0 l0 m0 h;rw[iM b0 l0 ht hu];exact⟨hu.1,hl⟩
theorem zcm {t l o a b:Int} (h1:Di t l o a) (h2:Di t l o b):a=b:=by
 obtain⟨a0,a1,a2⟩:=h1;obtain⟨c0,c1,c2⟩:=h2;rcases (by omega:a=b∨a<b∨b<a) with z | z | z
 .exact z
 .have:=(c2 a a0 a1).2 z;have:=(a2 b c0 c1).1;omega
 .have:=(a2 b c0 c1).2 z;have:=(c2 a a0 a1).1;omega
theorem zjl {o:Option Tr}{x y:Tr} (h:Um o x=some y):y=x∨o=some y:=by
 cases o with
 | none=>cases h;exact .inl rfl
 | some z=>
  rw[uG] at h;split at h
  .cases h;exact .inl rfl
  .exact .inr h
theorem zcD:∀(l:List Tr) (o:Option Tr) (y:Tr),l.foldl Um o=some y->y∈l∨o=some y
 | [],_,_,h=>.inr h
 | x::r,o,y,h=>by
  rcases zcD r (Um o x) y h with z | z
  .exact .inl (zG _ z)
  .rcases zjl z with w | w
   .exact .inl (by rw[w];exact zJ ..)
   .exact .inr w
theorem ziv {l:List Tr}{y:Tr} (h:Wr l=some y):y∈l:=(zcD l none y h).resolve_right (fun z=>nomatch z)
theorem Do {tc bc l m:Int} (l0:0<=l) (m0:0<=m):∀(i:Nat) (x:Tr),x∈listS tc bc l m i->0<=x.2.2/\x.2.2<(i:Int)/\0<=x.2.1/\x.2.1<=m*(l+1)+x.2.2/\x.1=x.2.1*tc+x.2.2*bc
 | 0,x,h=>nomatch h
 | i+1,x,h=>by
  cases e:shO (i:Int) l m with
  | none=>
   rw[Ii e] at h;have:=Do l0 m0 i x h;clear l0 m0;omega
  | some t=>
   rw[Ij e] at h;rcases List.mem_append.mp h with z | z
   .have:=Do l0 m0 i x z;omega
   .rw[List.mem_singleton.mp z];have hz:(i:Int)=0->m<=1:=fun y=>by
     apply cP;intro n;rw[zdi y (by omega)] at e;cases e
    obtain⟨u,hu,hl⟩:=zdk (b:=(i:Int)) (by omega) l0 m0 hz;rw[zdj (by omega) l0 hz hu] at e;cases e;exact⟨by show 0<=(i:Int);omega,by show (i:Int)<((i+1:Nat):Int);omega,hu.1,hl,rfl⟩
section
def uE (K:zg) (C:zm):Sp:=fun vs H Q E=>∃jZ turns zK zy:Int,vs=[.int jZ,.int turns,.int zK,.int zy]/\0<=zK/\zK<=60/\0<=zy/\zZ zy<=8000/\zZ turns<=70000/\zZ jZ<=50000 /\
 ((0<=jZ/\jZ<cnt turns zK zy)->∀(p:zm) (bs:List Int) (H':Hp),zX H H'->H p=none->H' p=some (.lst ((vf zy bs).map V.int))->yO bs->bs.length=zK.toNat->Ko bs=jZ->Szs 60010 bs->Q (.ref p) H') /\
 (¬(0<=jZ/\jZ<cnt turns zK zy)->E (.ref C) none H)
theorem zaw {jZ turns zy:Int} (h0:0<=jZ) (h:jZ<cnt turns 0 zy):jZ=0:=by
 unfold cnt at h;split at h
 .omega
 .rw[iD] at h;omega
theorem zfN:qU ["message","turns","bells","late"] ["message","turns","bells","late"] (zP cA):=⟨rfl,rfl,rfl,by decide +kernel,rfl,by decide +kernel,by decide +kernel⟩
theorem zc6 {ji:zm} (D:Def K mg "written" cA ["message","turns","bells","late"]) (T:Txt K mg) (wy:mg "TooGreat"=some (.ref ji)) (yD:qD K ji bmV "ValueError.__new__"=true) (jU:Fn P w K mg base 2 "box_count" ["turns","bells","late"] Yv) (Kd:FnE P w K mg base 39 "box_of_message" ["message","bells"] (Ul K ji)) (ze5:Fn P w K mg base 1 "bell_row" ["box","late"] (Uk K)) :
  FnE P w K mg base 40 "written" ["message","turns","bells","late"] (uE K ji):=by
 refine D.fnE zfN (fun vs H Q E h=>?_) (fun f cdv A outer s H vs Q E hr h=>?_)
 .obtain⟨a,b,c,d,rfl,_⟩:=h;rfl
 .obtain⟨jZ,turns,zK,zy,rfl,b0,b60,l0,lb,tb,mb,q1,q2⟩:=h;refine⟨_,(zF (wO (pw_or (jh bU (pv 0) zH (qZ _)) (pw_or1 (jh zaP (pv 0) (vJ jU (hr.mono (by decide)) (by rfl) (za (pv 1) (za (pv 2) (za (pv 3) zB)))) (qZ _)))).pt
    (zR (yc qu yD (by rfl) wy (za jG zB)))
    j4)
   (zR (ju (vJ ze5 (hr.mono (by decide)) (by rfl) (za (vN Kd (hr.mono (by decide)) (by rfl) jF (za (pv 0) (za (pv 2) zB))) (za (pv 3) zB)))))),?_⟩
  refine⟨_,rfl,_,_,rfl,rfl,_,rfl,ifD (fun h=>⟨(by decide),q2 (fun g=>by omega)⟩) (fun h=>⟨_,rfl,_,rfl,_,rfl,_,rfl,turns,zK,zy,rfl,b0,by omega,l0,lb,tb,_,_,rfl,rfl,_,rfl,ifD (fun h2=>⟨(by decide),q2 (fun g=>by omega)⟩) (fun h2=>?_)⟩)⟩;have m0:0<=jZ:=by omega
  have m1:jZ<cnt turns zK zy:=by omega
  have q:=q1 ⟨m0,m1⟩;have gm:zkM jZ zK:=⟨m0,fun z=>zaw m0 (z ▸ m1)⟩;refine⟨_,rfl,_,rfl,jZ,zK,rfl,b0,b60,mb,fun _ p bs H1 s1 hp h1 B hl hnum sz=>?_,fun nb=>absurd gm nb⟩;refine⟨_,rfl,p,bs,zy,rfl,SqL.of h1,by omega,lb,fun x hx=>zU (sz x hx) (by decide),fun p2 H2 s2 hp2 h2=>?_⟩;exact q p2 bs H2 (s1.trans s2) (s1.free hp2) h2 B hl hnum sz
end
theorem zqK {bs:List Int} (B:yO bs){turns zy:Int}{i:Nat} (l0:0<=zy) (h:Ko bs<cnt turns (bs.length:Int) zy) (hi:i<bs.length):(bs.length:Int)<=turns/\bs.getD i 0*(zy+1)<=turns-(bs.length:Int):=by
 unfold cnt at h;have n0:=Kp bs bs.length;split at h
 .have:Ko bs=JP bs bs.length:=rfl;omega
 .rename_i hle;refine⟨by omega,?_⟩;have tp:=Dr B (i:=bs.length-1) (by clear l0 n0 hle h;omega);have t1:=tp.le;have e1:bs.length-1+1=bs.length:=by omega
  have e2:((bs.length-1:Nat):Int)+1=(bs.length:Int):=by clear l0 hi n0 hle h t1;omega
  rw[e1,e2] at t1;have lt:=top_lt t1 (show JP bs bs.length < _ from h);have m:=B.le' (i:=i) (j:=bs.length-1) (by clear l0 n0 hle h t1 lt;omega) (by clear l0 hi n0 hle h t1 lt;omega);have d1:bs.getD i 0<=(turns-(bs.length:Int)) / (zy+1):=by clear l0 hi n0 hle h t1;omega
  exact(iW (by omega)).mp d1
def GoodR (turns zK zy:Int) (ns:List Int):Prop:=(ns.length:Int)=zK/\yO (Wo zy ns)/\Ko (Wo zy ns)<cnt turns zK zy
section
def zba (K:zg) (C:zm):Sp:=fun vs H Q E=>∃(a:zm) (ns:List Int) (turns zK zy:Int),vs=[.ref a,.int turns,.int zK,.int zy]/\SqL K H a (ns.map V.int)/\0<=zK/\zK<=60/\0<=zy/\zZ zy<=8000/\zZ turns<=70000/\((ns.length:Int)=zK->Szs 70000 (Wo zy ns)) /\
 (GoodR turns zK zy ns->∀H',zX H H'->Q (.int (Ko (Wo zy ns))) H')/\(¬GoodR turns zK zy ns->∀H',zX H H'->E (.ref C) none H')
theorem zhy:qU ["reading","turns","bells","late","message"] ["reading","turns","bells","late"] (zP Bs):=⟨rfl,rfl,rfl,by decide +kernel,rfl,by decide +kernel,by decide +kernel⟩
theorem zlD {qM:zm} (D:Def K mg "read" Bs ["reading","turns","bells","late"]) (T:Txt K mg) (vR:mg "NoReading"=some (.ref qM)) (wF:qD K qM bmV "ValueError.__new__"=true) (jU:Fn P w K mg base 2 "box_count" ["turns","bells","late"] Yv) (ig:FnE P w K mg base 2 "heard_box" ["reading","late"] (zhB K qM)) (zab:Fn P w K mg base 2 "box_number" ["box"] (zpW K)) :
  FnE P w K mg base 3 "read" ["reading","turns","bells","late"] (zba K qM):=by
 refine D.fnE zhy (fun vs H Q E h=>?_) (fun f cdv A outer s H vs Q E hr h=>?_)
 .obtain⟨a,b,c,d,e,rfl,_⟩:=h;rfl
 .obtain⟨a,ns,turns,zK,zy,rfl,hA,b0,b60,l0,lb,tb,sz,q1,q2⟩:=h;refine⟨_,(zF (wO (jh zfF (jz vK (by rfl) T.z_len Jv (za (pv 0) zB)) (pv 2) (qZ _))
    (zR (yc qu wF (by rfl) vR (za jG zB)))
    j4)
   (zF (jb (i:=4) zhy.nd rfl (zN rfl) (vJ zab (hr.mono (by decide)) (by rfl) (za (vN ig (hr.mono (by decide)) (by rfl) jF (za (pv 0) (za (pv 3) zB))) zB)))
   (zF (wO (jh zaP (pv 4) (vJ jU (hr.mono (by decide)) (by rfl) (za (pv 1) (za (pv 2) (za (pv 3) zB)))) (qZ _))
    (zR (yc qu wF (by rfl) vR (za jG zB)))
    j4)
   (zR (ju (pv 4)))))),?_⟩
  refine⟨_,rfl,_,_,rfl,.inl hA,_,rfl,_,_,rfl,rfl,_,rfl,?_⟩;rw[zf];refine zcJ (fun e=>⟨(by decide),q2 (fun g=>e g.1) _ (zX.refl _)⟩) (fun e=>?_);refine⟨_,rfl,_,rfl,a,ns,zy,rfl,hA,by omega,l0,lb,fun B p H1 s1 hp h1=>?_,fun nB H1 s1=>q2 (fun g=>nB g.2.1) _ s1⟩;refine⟨p,Wo zy ns,rfl,SqL.of h1,by rw[nq];omega,B.nn,sz e,fun H2 s2=>?_⟩;refine⟨_,rfl,_,rfl,_,rfl,_,rfl,turns,zK,zy,rfl,by omega,by omega,l0,lb,tb,_,_,rfl,rfl,_,rfl,ifD (fun h=>?_) (fun h=>?_)⟩
  .exact⟨(by decide),q2 (fun g=>by have:=g.2.2;omega) _ (s1.trans s2)⟩
  .exact⟨_,rfl,q1 ⟨e,B,by omega⟩ _ (s1.trans s2)⟩
end
theorem Ga {c:TT}{tA tB R:TS}{D:Ends}{σ:St}{H:Hp} (Pre:St->Hp->Prop) (tail:∀σ H,Pre σ H->R D σ H) (h:∀N:St->Hp->Prop,(∀σ H,Pre σ H->N σ H)->zmd c tA tB { D with nx:=N } σ H):zmf (zmd c tA tB) R D σ H:=h (fun σ H=>R D σ H) tail
theorem zar {bs:List Int}{turns zy:Int} (B:yO bs) (l0:0<=zy) (h:Ko bs<cnt turns (bs.length:Int) zy):∀x∈vf zy bs,0<=x/\x<turns:=fun x hx=>by
 obtain⟨i,hi⟩:=vA hx;obtain⟨c,hc,rfl⟩:=tY hi;have il:=(List.getElem?_eq_some_iff.mp hc).1;have:=zqK B l0 h il;rw[zA,hc,xf] at this;have:=yQ (B.2 c (qw hc)) (show 0<=zy+1 by clear h il this;omega);clear l0 h;omega
theorem zfj {x:Str}{acc:zm}{own:Nat}{ix:List Nat}{g:TG}{te:TE}{σ:St}{H1:Hp}{Q:VK} (f:Nat->V) (hn:H1 acc=none) (hz:x.length<=sizeLine)
  (step:∀(i c:Nat) (H:Hp) (R:VK),x.cps[i]?=some c->zX H1 H->R (f c) H->g (.str ⟨#[c]⟩) (yH own ix σ) H fun σ4 H4=>σ4.drop own=ix.map (fun i=>(σ[i]?).getD none)/\te σ4 H4 R)
  (hd:Q (.ref acc) (upd H1 acc (.lst ((cpl x).map f)))):mH (Its x) own ix g cZ te σ H1 acc Q:=by
 have sz:x.cps.size=(cpl x).length:=by simp[cpl]
 refine⟨fun i m ys H=>m=x.cps.size-i/\i<=x.cps.size/\ys=((cpl x).take i).map f/\H=upd H1 acc (.lst ys),⟨x.cps.size,by simp,qX _,rfl,rfl⟩,?_⟩;rintro i m ys H ⟨rfl,hi,rfl,rfl⟩;refine⟨zL,?_⟩;by_cases hlt:i<x.cps.size
 .refine .inr ⟨hlt,?_,fun v H3 y=>?_⟩
  .rw[zf,xK];have:x.length=x.cps.size:=rfl;omega
  obtain⟨e,c,hc,e2⟩:=y;subst e e2;refine step i c _ _ hc (zX.new hn) ⟨zL,x.cps.size-(i+1),by clear hz;omega,rfl,hlt,?_,by rw[Hb]⟩;have hc':(cpl x)[i]?=some c:=by rw[<- hc];simp[cpl]
  rw[Z8,hc',jw];rfl
 .have e:i=x.cps.size:=by omega
  subst e;rw[sz,Xw];exact .inl ⟨zE _,hd⟩
def ze8 (x s:Str) (most:Int):Prop:=1<=x.length/\(x.length:Int)<=most/\∀c∈cpl x,c∈cpl s
structure vp (x:Str):Prop where
 ne:1<=x.length
 le:x.length<=8
 let_:∀c∈cpl x,97<=c/\c<=122
theorem zhi:∀c:Nat,c∈cpl "abcdefghijklmnopqrstuvwxyz"↔97<=c/\c<=122:=fun c=>by
 have e:cpl "abcdefghijklmnopqrstuvwxyz"=(qJ 26).map (·+97):=by decide +kernel
 rw[e,zbo];constructor
 .rintro⟨i,hi,rfl⟩;have:=List.mem_range.mp hi;omega
 .intro h;exact⟨c-97,List.mem_range.mpr (by omega),by omega⟩
theorem zhc:∀c:Nat,c∈cpl "0123456789"↔48<=c/\c<=57:=fun c=>by
 have e:cpl "0123456789"=(qJ 10).map (·+48):=by decide +kernel
 rw[e,zbo];constructor
 .rintro⟨i,hi,rfl⟩;have:=List.mem_range.mp hi;omega
 .intro h;exact⟨c-48,List.mem_range.mpr (by omega),by omega⟩
theorem ziT {x:Str}:ze8 x "abcdefghijklmnopqrstuvwxyz" 8↔vp x:=by
 constructor
 .rintro⟨h1,h2,h3⟩;exact⟨h1,by omega,fun c hc=>(zhi c).mp (h3 c hc)⟩
 .rintro⟨h1,h2,h3⟩;exact⟨h1,by omega,fun c hc=>(zhi c).mpr (h3 c hc)⟩
theorem WP {x:Str} (h:vp x):Vs x:=fun z=>by
 have:=h.let_ 32 z;omega
theorem zlY:cpl "0"=[48]:=by decide +kernel
theorem Bf {x:Str}{most:Nat}:Num most x↔ze8 x "0123456789" (most:Int)/\¬((cpl x)[0]?=some 48/\x≠"0"):=by
 constructor
 .intro h;refine⟨⟨h.ne,by have:=h.le;omega,fun c hc=>(zhc c).mpr (h.dig c hc)⟩,fun z=>z.2 (Vh ?_)⟩;rw[h.led z.1,zlY]
 .rintro⟨⟨h1,h2,h3⟩,h4⟩;refine⟨h1,by omega,fun c hc=>(zhc c).mp (h3 c hc),fun z=>?_⟩;have:x="0":=cP fun n=>h4 ⟨z,n⟩;rw[this,zlY]
section
def za8:Sp:=fun vs H Q _=>∃(x s:Str) (most:Int),vs=[.str x,.str s,.int most]/\x.length<=1000000/\∀(b:Bool) (H':Hp),zX H H'->(b=true↔ze8 x s most)->Q (.bl b) H'
theorem Rp:qU ["word","signs","most"] ["word","signs","most"] (zP X5):=⟨rfl,rfl,rfl,by decide +kernel,rfl,by decide +kernel,by decide +kernel⟩
theorem zor (D:Def K mg "is_made_of" X5 ["word","signs","most"]) (T:Txt K mg):Fn P w K mg base 1 "is_made_of" ["word","signs","most"] za8:=by
 refine D.fn Rp (fun vs H Q E h=>?_) (fun f cdv A outer s H vs Q E hr h=>?_)
 .obtain⟨x,sg,most,rfl,_⟩:=h;rfl
 .obtain⟨x,sg,most,rfl,xl,q⟩:=h;have xs:x.length<=sizeLine:=by rw[qC];omega
  refine⟨_,(zR (ju (zro (zlK zlH zlH zH (jz Xl (by rfl) T.z_len Jv (za (pv 0) zB)) (pv 2)) (zlM (jz (zkT rfl) (by rfl) T.z_all zsI (za (Jy (own:=["sign"]) (fr:=["signs"]) (ix:=[1]) rfl ⟨rfl,rfl,rfl,rfl,rfl,rfl⟩ (zhs (pv 0)) (fun _ _ _ _ _=>(j9 (i:=0) (show (["sign","signs"]:List Str).Nodup by decide +kernel) rfl (zN rfl))) (fun _ _ _ _ _=>Z0) (fun _ _ _ _ _=>(G3 zi5 (pv 0) (pv 1) (by with_unfolding_all rfl)))) zB)))))),?_⟩;refine⟨_,rfl,x,rfl,xs,_,_,rfl,rfl,_,rfl,ifD (fun h1=>⟨_,rfl,_,_,rfl,rfl,_,rfl,ifD (fun h2=>?_) (fun h2=>q false H (zX.refl _) ⟨(fun z=>nomatch z),fun z=>absurd z.2.1 h2⟩)⟩) (fun h1=>⟨_,rfl,Vu (q false H (zX.refl _) ⟨(fun z=>nomatch z),fun z=>absurd (show (1:Int)<=(x.length:Int) by have:=z.1;omega) h1⟩)⟩)⟩;refine⟨_,rfl,x,rfl,fun acc Qn=>zfj (fun c=>V.bl (decide (c∈cpl sg))) Qn xs (fun i c H6 R hc s6 hR=>?_) ?_⟩
  .refine⟨rfl,_,rfl,_,rfl,_,_,rfl,rfl,?_⟩;rw[Cu];exact hR
  .refine⟨acc,(cpl x).map (fun c=>decide (c∈cpl sg)),rfl,SqL.of (by rw[zL,wM];rfl),q _ _ (zX.new Qn) ?_⟩;rw[Xr];constructor
   .intro z;exact⟨by omega,h2,fun c hc=>of_decide_eq_true (z _ (List.mem_map.mpr ⟨c,hc,rfl⟩))⟩
   .rintro⟨_,_,z⟩ b hb;obtain⟨c,hc,rfl⟩:=List.mem_map.mp hb;exact decide_eq_true (z c hc)
def Br (C:zm):Sp:=fun vs H Q E=>∃x:Str,vs=[.str x]/\x.length<=1000000/\(vp x->∀H',zX H H'->Q (.str x) H')/\(¬vp x->∀H',zX H H'->E (.ref C) none H')
theorem zfM:qU ["word"] ["word"] (zP cu):=⟨rfl,rfl,rfl,by decide +kernel,rfl,by decide +kernel,by decide +kernel⟩
theorem zfD (D:Def K mg "name_in" cu ["word"]) (T:Txt K mg){zT:zm} (vg:mg "NoOrder"=some (.ref zT)) (vV:qD K zT bmV "ValueError.__new__"=true){V5:NT}{J3:Tok} (WL:mg "LETTERS"=some (.str "abcdefghijklmnopqrstuvwxyz" V5.1)) (Zw:mg "MOST_LETTERS"=some (.int 8 J3)) (Xk:Fn P w K mg base 1 "is_made_of" ["word","signs","most"] za8):FnE P w K mg base 2 "name_in" ["word"] (Br zT):=by
 refine D.fnE zfM (fun vs H Q E h=>?_) (fun f cdv A outer s H vs Q E hr h=>?_)
 .obtain⟨x,rfl,_⟩:=h;rfl
 .obtain⟨x,rfl,xl,q1,q2⟩:=h;refine⟨_,(zF (wO (nZ (Jq (vJ Xk (hr.mono (by decide)) (by rfl) (za (pv 0) (za (yq (v:=.str "abcdefghijklmnopqrstuvwxyz") (by rfl) WL ⟨_,rfl⟩) (za (yq (v:=.int 8) (by rfl) Zw ⟨_,rfl⟩) zB))))))
    (zR (yc qu vV (by rfl) vg (za jG zB)))
    j4)
   (zR (ju (pv 0)))),?_⟩
  refine⟨_,rfl,x,_,8,rfl,xl,fun b H1 s1 hb=>?_⟩;rw[ziT] at hb;cases b
  .exact⟨_,rfl,Ib ⟨(by decide),q2 (fun z=>by cases hb.mpr z) H1 s1⟩⟩
  .exact⟨_,rfl,Vu ⟨_,rfl,q1 (hb.mp rfl) H1 s1⟩⟩
def zfS (C:zm):Sp:=fun vs H Q E=>∃(x:Str) (most:Nat),vs=[.str x,.int (most:Int)]/\x.length<=1000000/\most<=4300/\(Num most x->x.length<=640)/\(Num most x->∀H',zX H H'->Q (.int (xN x)) H')/\(¬Num most x->∀H',zX H H'->E (.ref C) none H')
theorem Ro:qU ["word","most"] ["word","most"] (zP X4):=⟨rfl,rfl,rfl,by decide +kernel,rfl,by decide +kernel,by decide +kernel⟩
theorem PX (D:Def K mg "figures_in" X4 ["word","most"]) (T:Txt K mg){zT:zm} (vg:mg "NoOrder"=some (.ref zT)) (vV:qD K zT bmV "ValueError.__new__"=true){V4:NT} (WK:mg "FIGURES"=some (.str "0123456789" V4.1)) (Xk:Fn P w K mg base 1 "is_made_of" ["word","signs","most"] za8):FnE P w K mg base 2 "figures_in" ["word","most"] (zfS zT):=by
 refine D.fnE Ro (fun vs H Q E h=>?_) (fun f cdv A outer s H vs Q E hr h=>?_)
 .obtain⟨x,most,rfl,_⟩:=h;rfl
 .obtain⟨x,most,rfl,xl,ml,sz,q1,q2⟩:=h;have xs:x.length<=sizeLine:=by rw[qC];omega
  refine⟨_,(zF (wO (pw_or (nZ (Jq (vJ Xk (hr.mono (by decide)) (by rfl) (za (pv 0) (za (yq (v:=.str "0123456789") (by rfl) WK ⟨_,rfl⟩) (za (pv 1) zB)))))) (pw_or1 (pw_and (jh nQ (kZ zaF (pv 0) zH (fun _ _=>rfl)) jG (qZ _)) (pw_and1 (jh zlI (pv 0) jG (qZ _)))).pt)).pt
    (zR (yc qu vV (by rfl) vg (za jG zB)))
    j4)
   (zR (ju (Xo TQ (by rfl) T.z_int zcl (za (pv 0) zB))))),?_⟩
  refine⟨_,rfl,_,rfl,x,_,_,rfl,xl,fun b H1 s1 hb=>?_⟩;cases b
  .exact⟨_,rfl,Ib (Ib ⟨(by decide),q2 (fun z=>by cases hb.mpr (Bf.mp z).1) H1 s1⟩)⟩
  .have hm:=hb.mp rfl;refine⟨_,rfl,Vu ?_⟩;obtain⟨c,r,hx⟩:∃c r,cpl x=c::r:=by
    cases e:cpl x with
    | nil=>
     have:=hm.1;rw[<- wj,e] at this;exact absurd this (by decide)
    | cons c r=>exact⟨c,r,rfl⟩
   have e0:(cpl x)[0]?=some c:=by rw[hx];rfl
   have ha:atI x.cps.toList 0=some c:=by
    show atI (cpl x) 0=some c;rw[hx];exact(show atI (c::r) ((0:Nat):Int)=some c from Yc rfl)
   refine⟨_,rfl,x,0,c,rfl,rfl,xs,ha,rfl,_,rfl,ifD (fun z=>?_) (fun z=>?_)⟩
   .have z:(⟨#[c]⟩:Str)="0":=V.str.inj z;have ec:c=48:=by
     have:=congrArg cpl z;rw[zlY] at this;simpa [cpl] using this
    subst ec;refine⟨_,rfl,rfl,_,rfl,zcJ (fun n=>⟨(by decide),q2 (fun y=>(Bf.mp y).2 ⟨e0,fun k=>n (by rw[k])⟩) H1 s1⟩) (fun n=>?_)⟩;have n:x="0":=V.str.inj n;have y:Num most x:=Bf.mpr ⟨hm,fun k=>k.2 n⟩;exact⟨_,rfl,x,xN x,rfl,num_reads y ml,sz y,q1 y H1 s1⟩
   .have y:Num most x:=Bf.mpr ⟨hm,fun k=>z (by rw[e0] at k;cases k.1;rfl)⟩;exact Vu ⟨_,rfl,x,xN x,rfl,num_reads y ml,sz y,q1 y H1 s1⟩
def fc (C:zm) (most:Nat):Sp:=fun vs H Q E=>∃x:Str,vs=[.str x]/\x.length<=1000000/\(Num most x->x.length<=640)/\(Num most x->∀H',zX H H'->Q (.int (xN x)) H')/\(¬Num most x->∀H',zX H H'->E (.ref C) none H')
theorem za2:qU ["word"] ["word"] (zP KR):=⟨rfl,rfl,rfl,by decide +kernel,rfl,by decide +kernel,by decide +kernel⟩
theorem zaN (D:Def K mg "number_in" KR ["word"]) (T:Txt K mg){zT:zm}{J2:Tok} (Zv:mg "MOST_FIGURES"=some (.int 60 J2)) (Jj:FnE P w K mg base 2 "figures_in" ["word","most"] (zfS zT)):FnE P w K mg base 3 "number_in" ["word"] (fc zT 60):=by
 refine D.fnE za2 (fun vs H Q E h=>?_) (fun f cdv A outer s H vs Q E hr h=>?_)
 .obtain⟨x,rfl,_⟩:=h;rfl
 .obtain⟨x,rfl,xl,sz,q1,q2⟩:=h;exact⟨_,(zR (ju (vN Jj (hr.mono (by decide)) (by rfl) jF (za (pv 0) (za (yq (v:=.int 60) (by rfl) Zv ⟨_,rfl⟩) zB))))),_,rfl,x,60,rfl,xl,by decide,sz,q1,q2⟩
theorem Rq:qU ["word"] ["word"] (zP X6):=⟨rfl,rfl,rfl,by decide +kernel,rfl,by decide +kernel,by decide +kernel⟩
theorem Ra (D:Def K mg "message_in" X6 ["word"]) (T:Txt K mg){zT:zm}{wu:Tok} (vd:mg "MOST_FIGURES_OF_MESSAGE"=some (.int 3000 wu)) (Jj:FnE P w K mg base 2 "figures_in" ["word","most"] (zfS zT)):FnE P w K mg base 3 "message_in" ["word"] (fc zT 3000):=by
 refine D.fnE Rq (fun vs H Q E h=>?_) (fun f cdv A outer s H vs Q E hr h=>?_)
 .obtain⟨x,rfl,_⟩:=h;rfl
 .obtain⟨x,rfl,xl,sz,q1,q2⟩:=h;exact⟨_,(zR (ju (vN Jj (hr.mono (by decide)) (by rfl) jF (za (pv 0) (za (yq (v:=.int 3000) (by rfl) vd ⟨_,rfl⟩) zB))))),_,rfl,x,3000,rfl,xl,by decide,sz,q1,q2⟩
theorem Iu {x:Str} (h:Num 60 x):x.length<=640:=qd h.le (by decide)
def Jk (x:Str):Prop:=Num 60 x/\xN x<=60
def Bq (C:zm):Sp:=fun vs H Q E=>∃x:Str,vs=[.str x]/\x.length<=1000000/\(Jk x->∀H',zX H H'->Q (.int (xN x)) H')/\(¬Jk x->∀H',zX H H'->E (.ref C) none H')
theorem Fl:qU ["word","bells"] ["word"] (zP YJ):=⟨rfl,rfl,rfl,by decide +kernel,rfl,by decide +kernel,by decide +kernel⟩
theorem zcZ (D:Def K mg "bells_in" YJ ["word"]) (T:Txt K mg){zT:zm} (vg:mg "NoOrder"=some (.ref zT)) (vV:qD K zT bmV "ValueError.__new__"=true){KZ:Tok} (QJ:mg "MOST_BELLS"=some (.int 60 KZ)) (j6:FnE P w K mg base 3 "number_in" ["word"] (fc zT 60)):FnE P w K mg base 4 "bells_in" ["word"] (Bq zT):=by
 refine D.fnE Fl (fun vs H Q E h=>?_) (fun f cdv A outer s H vs Q E hr h=>?_)
 .obtain⟨x,rfl,_⟩:=h;rfl
 .obtain⟨x,rfl,xl,q1,q2⟩:=h;refine⟨_,(zF (jb (i:=1) Fl.nd rfl (zN rfl) (vN j6 (hr.mono (by decide)) (by rfl) jF (za (pv 0) zB)))
   (zF (wO (jh Ks (pv 1) (yq (v:=.int 60) (by rfl) QJ ⟨_,rfl⟩) (qZ _))
    (zR (yc qu vV (by rfl) vg (za jG zB)))
    j4)
   (zR (ju (pv 1))))),?_⟩
  refine⟨_,rfl,x,rfl,xl,Iu,fun n H1 s1=>?_,fun n H1 s1=>q2 (fun z=>n z.1) H1 s1⟩;exact⟨_,rfl,_,_,rfl,rfl,_,rfl,ifD (fun z=>⟨(by decide),q2 (fun y=>by have:=y.2;omega) H1 s1⟩) (fun z=>⟨_,rfl,q1 ⟨n,by omega⟩ H1 s1⟩)⟩
structure WD (ws:List Str):Prop where
 num:∀x∈ws,Num 60 x
 inc:(ws.map xN).Pairwise (·<=·)
def zdr (K:zg) (C:zm):Sp:=fun vs H Q E=>∃(a:zm) (ws:List Str),vs=[.ref a]/\SqL K H a (ws.map V.str)/\ws.length<=1000000/\(∀x∈ws,x.length<=1000000)/\(WD ws->∀(p:zm) (H':Hp),zX H H'->H p=none->H' p=some (.lst ((ws.map xN).map V.int))->Q (.ref p) H')/\(¬WD ws->∀H',zX H H'->E (.ref C) none H')
theorem YF:qU ["words","turns","before","turn"] ["words"] (zP YS):=⟨rfl,rfl,rfl,by decide +kernel,rfl,by decide +kernel,by decide +kernel⟩
theorem zc5 (D:Def K mg "turns_in" YS ["words"]) (T:Txt K mg){zT:zm} (vg:mg "NoOrder"=some (.ref zT)) (vV:qD K zT bmV "ValueError.__new__"=true) (j6:FnE P w K mg base 3 "number_in" ["word"] (fc zT 60)):FnE P w K mg base 4 "turns_in" ["words"] (zdr K zT):=by
 refine D.fnE YF (fun vs H Q E h=>?_) (fun f cdv A outer s H vs Q E hr h=>?_)
 .obtain⟨a,ws,rfl,_⟩:=h;rfl
 .obtain⟨a,ws,rfl,hS,wl,wb,q1,q2⟩:=h;refine⟨_,(zF (zlQ (k:=1) (own:=["word"]) (fr:=[]) (ix:=[]) YF.nd rfl rfl ⟨rfl,rfl,rfl,rfl,rfl,rfl⟩ (Vl (pv 0)) (fun _ _ _ _ _=>(j9 (i:=0) (show (["word"]:List Str).Nodup by decide +kernel) rfl (zN rfl))) (fun _ _ _ _ _=>Z0) (fun _ _ _ _ _=>(vN j6 (hr.mono (by decide)) (by rfl) zoC (za (pv 0) zB))))
   (zF (jb (i:=2) YF.nd rfl (zN rfl) zH)
   (zF (bY Qa rfl (Vl (pv 1)) (j9 (i:=3) YF.nd rfl (zN rfl))
    (zF (wO (jh bU (pv 3) (pv 2) (qZ _))
     (zR (yc qu vV (by rfl) vg (za jG zB)))
     j4)
    (zR (jb (i:=2) YF.nd rfl (zN rfl) (pv 3)))))
   (zR (ju (pv 1)))))),?_⟩
  refine⟨_,rfl,a,rfl,⟨_,hS⟩,fun acc Qn=>zfi (K:=K) (a:=a) (xs:=ws.map V.str) (fun i v _=>∃x,ws[i]?=some x/\Num 60 x/\v=V.int (xN x)) (fun _ _ _ _ _ h=>h) (fun _ _ _ _ _ _ h=>h) hS Qn (by rw[zf,qC];omega) (fun i x H6 R hx s6 hR=>?_) ?_⟩
  .rw[qF] at hx;obtain⟨y,hy,rfl⟩:=Option.map_eq_some_iff.mp hx;have ym:=qw hy;exact⟨rfl,_,rfl,y,rfl,wb y ym,Iu,fun n H7 s7=>hR _ _ s7 ⟨y,hy,n,rfl⟩,fun n H7 s7=>q2 (fun z=>n (z.num y ym)) H7 (s6.trans s7)⟩
  intro ys H2 s2 hY yl yp;rw[zf] at yl;have zx7:∀x∈ws,Num 60 x:=fun x hx=>by
   obtain⟨i,hi⟩:=vA hx;have il:=(List.getElem?_eq_some_iff.mp hi).1;obtain⟨y,h1,h2,_⟩:=yp i _ (zq (by omega));rw[hi] at h1;cases h1;exact h2
  have ey:ys=(ws.map xN).map V.int:=by
   apply Wf;intro i;rw[wM,qF];by_cases hi:i<ys.length
   .obtain⟨y,h1,_,h3⟩:=yp i _ (zq hi);rw[zq hi,h3,h1];rfl
   .rw[xT (by omega),xT (by omega)];rfl
  rw[ey] at hY;clear ey yp yl;generalize hns:ws.map xN=ns at hY q1;have nl:ns.length=ws.length:=by rw[<- hns,zf]
  have n0:∀x∈ns,0<=x:=fun x hx=>by
   rw[<- hns] at hx;obtain⟨y,_,rfl⟩:=List.mem_map.mp hx;exact Jw y
  have zx8:ns.Pairwise (·<=·)↔Oc 0 ns:=⟨fun h=>zai h n0,zaj⟩;refine⟨_,rfl,acc,rfl,⟨_,SqL.of hY⟩,Az (K:=K) (a:=acc) (xs:=ns.map V.int) (fun i σ H3=>∃(before:Int) (v3:Option V),σ=[some (.ref a),some (.ref acc),some (.int before),v3]/\H3=H2/\(ns.Pairwise (·<=·)↔Oc before (ns.drop i)))
   ⟨0,none,rfl,rfl,by rw[We];exact zx8⟩ (fun i σ H3 _ ⟨_,_,_,e,_⟩=>e ▸ SqL.of hY) ?_ ?_⟩
  .rintro i y σ H3 hi ⟨before,v3,rfl,rfl,hb⟩;rw[qF] at hi;obtain⟨x,hx,rfl⟩:=Option.map_eq_some_iff.mp hi;rw[Tj hx] at hb;refine⟨_,rfl,_,rfl,_,_,rfl,rfl,_,rfl,ifD (fun h=>⟨(by decide),q2 (fun G=>?_) _ s2⟩) (fun h=>⟨_,rfl,x,_,rfl,rfl,hb.trans ⟨fun z=>z.2,fun z=>⟨by omega,z⟩⟩⟩)⟩;have gi:=G.inc;rw[hns] at gi;have:=(hb.mp gi).1;omega
  .rintro σ H3 ⟨before,v3,rfl,rfl,hb⟩;rw[zf,Em] at hb;exact⟨_,rfl,q1 ⟨zx7,by rw[hns];exact hb.mpr trivial⟩ acc _ s2 Qn hY⟩
theorem lg {n:Int} (h0:0<=n) (h1:n<10 ^ 500):n.natAbs.log2<1920:=by
 have h2:n.natAbs<2 ^ 1920:=by
  have:(10:Int) ^ 500<=2 ^ 1920:=by decide +kernel
  omega
 by_cases hz:n.natAbs=0
 .rw[hz];decide
 .exact(Nat.log2_lt hz).mpr h2
def pP:Sp:=fun vs H Q _=>∃v:V,vs=[v]/\((v=.non/\Q (.str "none") H)∨∃n:Int,v=.int n/\0<=n/\n<10 ^ 500/\Q (.str (txt n)) H)
theorem Ln:qU ["number"] ["number"] (zP J1):=⟨rfl,rfl,rfl,by decide +kernel,rfl,by decide +kernel,by decide +kernel⟩
theorem Ld (D:Def K mg "number_told" J1 ["number"]) (T:Txt K mg):Fn P w K mg base 1 "number_told" ["number"] pP:=by
 refine D.fn Ln (fun vs H Q E h=>?_) (fun f cdv A outer s H vs Q E hr h=>?_)
 .obtain⟨v,rfl,_⟩:=h;rfl
 .obtain⟨v,rfl,h⟩:=h;refine⟨_,(zR (ju (Bh (jh zaQ (pv 0) az (qZ _)) jG (Xo j7 (by rfl) T.z_str Q7 (za (pv 0) zB))))),?_⟩;rcases h with ⟨rfl,q⟩ | ⟨n,rfl,h0,h1,q⟩
  .exact⟨_,rfl,rfl,_,rfl,Ib q⟩
  .exact⟨_,rfl,rfl,_,rfl,Vu ⟨_,rfl,n,rfl,lg h0 h1,q⟩⟩
noncomputable def yu (ns:List Int):Str:=if ns=[] then "none" else Txt.join " " (ns.map txt)
theorem iQ {ns:List Int} (h:∀n∈ns,0<=n/\n<10 ^ 500):((ns.map txt).map (·.length)).sum<=ns.length*500:=by
 induction ns with
 | nil=>exact zE _
 | cons n r ih=>
  have h1:=h n (zJ ..);have h2:=(Xn (k:=500) (by decide) h1.1 h1.2).le;have h3:=ih fun m hm=>h m (zG _ hm);simp only[zY,yL,qx];omega
theorem DR (ns:List Int):(qJ (ns.map V.int).length).map (fun i=>V.str (txt (ns.getD i 0)))=(ns.map txt).map V.str:=by
 apply QC
 .simp
 .intro i h1 h2;simp at h1 h2;simp[zA,h2]
def YG (K:zg):Sp:=fun vs H Q _=>∃(a:zm) (ns:List Int),vs=[.ref a]/\SqL K H a (ns.map V.int)/\ns.length<=30000/\(∀n∈ns,0<=n/\n<10 ^ 500)/\∀H',zX H H'->Q (.str (yu ns)) H'
theorem Rt:qU ["turns"] ["turns"] (zP Va):=⟨rfl,rfl,rfl,by decide +kernel,rfl,by decide +kernel,by decide +kernel⟩
theorem Rf (D:Def K mg "turns_told" Va ["turns"]) (T:Txt K mg):Fn P w K mg base 1 "turns_told" ["turns"] (YG K):=by
 refine D.fn Rt (fun vs H Q E h=>?_) (fun f cdv A outer s H vs Q E hr h=>?_)
 .obtain⟨a,ns,rfl,_⟩:=h;rfl
 .obtain⟨a,ns,rfl,hS,nl,nb,q⟩:=h;refine⟨_,(zR (ju (Bh (zlR (pv 0) (fun _=>rfl)) (lO jm xU xV Ye jG (za (Jy (own:=["turn"]) (fr:=[]) (ix:=[]) rfl ⟨rfl,rfl,rfl,rfl,rfl,rfl⟩ (Vl (pv 0)) (fun _ _ _ _ _=>(j9 (i:=0) (show (["turn"]:List Str).Nodup by decide +kernel) rfl (zN rfl))) (fun _ _ _ _ _=>Z0) (fun _ _ _ _ _=>(Xo j7 (by rfl) T.z_str Q7 (za (pv 0) zB)))) zB)) jG))),?_⟩;refine⟨_,rfl,_,.inl ⟨_,hS,rfl⟩,?_⟩;cases ns with
  | nil=>exact Vu (by have:=q H (zX.refl _);exact this)
  | cons n0 r=>
   refine Ib ⟨rfl,_,rfl,a,rfl,⟨_,hS⟩,fun acc Qn=>Vt (K:=K) (a:=a) (xs:=(n0::r).map V.int) (fun i=>V.str (txt ((n0::r).getD i 0))) hS Qn (by rw[zf,qC];omega) (fun i x H6 R hx s6 hR=>?_) ?_⟩
   .rw[qF] at hx;obtain⟨n,hn,rfl⟩:=Option.map_eq_some_iff.mp hx;have b:=nb n (qw hn);simp only[zA,hn,xf] at hR;exact⟨rfl,_,rfl,n,rfl,lg b.1 b.2,hR⟩
   .have e:=DR (n0::r);rw[e];refine⟨" ",acc,(n0::r).map txt,rfl,rfl,SqL.of zL,?_,?_⟩
    .have h1:=iQ nb;have h2:(" ":Str).length=1:=by decide +kernel
     rw[h2,zf];omega
    .have:=q _ (zX.new (o:=.lst (((n0::r).map txt).map V.str)) Qn);unfold yu at this;rw[if_neg (by simp)] at this;exact this
end
noncomputable def fl3 (t b l:Int):List (Str×V):=[("turns",.int t),("bells",.int b),("late",.int l)]
theorem zk4:¬(("turns":Str)="bells"):=by decide +kernel
theorem zq0:¬(("turns":Str)="late"):=by decide +kernel
theorem zqX:¬(("bells":Str)="turns"):=by decide +kernel
theorem zqW:¬(("bells":Str)="late"):=by decide +kernel
theorem zqZ:¬(("late":Str)="turns"):=by decide +kernel
theorem zqY:¬(("late":Str)="bells"):=by decide +kernel
theorem nH (t b l:Int):(fl3 t b l).lookup ("turns":Str)=some (V.int t):=by
 unfold fl3;simp only[jK,beq_self_eq_true]
theorem nG (t b l:Int):(fl3 t b l).lookup ("bells":Str)=some (V.int b):=by
 unfold fl3;simp only[jK,show (("bells":Str) == "turns")=false from beq_eq_false_iff_ne.mpr zqX,beq_self_eq_true]
theorem Ay (t b l:Int):(fl3 t b l).lookup ("late":Str)=some (V.int l):=by
 unfold fl3;simp only[jK,show (("late":Str) == "turns")=false from beq_eq_false_iff_ne.mpr zqZ,show (("late":Str) == "bells")=false from beq_eq_false_iff_ne.mpr zqY,beq_self_eq_true]
theorem put3 (t b l:Int):eY "late" (V.int l) (eY "bells" (V.int b) (eY "turns" (V.int t) []))=fl3 t b l:=by
 unfold fl3;simp only[eY,if_neg zk4,if_neg zq0,if_neg zqW]
noncomputable def fr1 (d:zm):List (Str×V):=[("frames",.ref d)]
theorem ue (d:zm):(fr1 d).lookup ("frames":Str)=some (V.ref d):=by
 unfold fr1;simp only[jK,beq_self_eq_true]
theorem JK {d:zm}{m:Str} (h:¬m="frames"):(fr1 d).lookup m=none:=by
 unfold fr1;simp only[jK,List.lookup_nil,beq_eq_false_iff_ne.mpr h]
def Ke (x:zm) (H H':Hp):Prop:=∀a o,H a=some o->a≠x->H' a=some o
theorem Ke.of {x:zm} {H H':Hp} (s:zX H H'):Ke x H H':=fun a o h _=>s a o h
theorem Ke.trans {x:zm} {H H' H2:Hp} (s:Ke x H H') (s2:Ke x H' H2):Ke x H H2:=fun a o h n=>s2 a o (s a o h n) n
theorem Ke.put {x:zm} {H H':Hp}{o:HO} (s:Ke x H H'):Ke x H (upd H' x o):=fun a v h n=>by rw[jM n];exact s a v h n
structure DkT (K:zg) (CD CF:zm):Prop where
 cd:Cls K CD
 cf:Cls K CF
 n1:Jo K CF "turns"
 n2:Jo K CF "bells"
 n3:Jo K CF "late"
 n4:Jo K CD "frames"
structure ze3 (t b l:Int):Prop where
 t0:0<=t
 t1:t<10 ^ 60
 b0:0<=b
 b1:b<=60
 l0:0<=l
 l1:l<10 ^ 60
 c1:cnt t b l<10 ^ 500
theorem p60:(10:Int) ^ 60<=2 ^ 200:=by decide +kernel
theorem nj {x:Int} (h0:0<=x) (h1:x<10 ^ 60):zZ x<=200:=vI h0 (xR h1 p60)
def zkN (CF:zm) (H:Hp) (p:zm) (t b l:Int):Prop:=∃dx,H p=some (.ins CF dx (fl3 t b l))
structure yo (CD CF x d:zm) (n:Nat) (fr:Str->Option (Int×Int×Int)) (H:Hp):Prop where
 self:∃dx,H x=some (.ins CD dx (fr1 d))
 dict:∃kvs,H d=some (.dK kvs)/\kvs.length<=n/\(∀nm,fr nm=none->Xa kvs (xG nm)=none)/\∀nm t b l,fr nm=some (t,b,l)->∃p,Xa kvs (xG nm)=some (.ref p)/\zkN CF H p t b l
 ok:∀nm t b l,fr nm=some (t,b,l)->ze3 t b l
theorem yo.mono {CD CF x d:zm}{n:Nat}{fr:Str->Option (Int×Int×Int)} {H H':Hp} (s:zX H H') (h:yo CD CF x d n fr H):yo CD CF x d n fr H':=by
 obtain⟨⟨dx,h1⟩,⟨kvs,h2,h3,h4,h5⟩,h6⟩:=h;exact⟨⟨dx,s _ _ h1⟩,⟨kvs,s _ _ h2,h3,h4,fun nm t b l e=>(h5 nm t b l e).imp fun p hp=>⟨hp.1,hp.2.imp fun dx h=>s _ _ h⟩⟩,h6⟩
theorem zdc {κ:Type} [DecidableEq κ] (kvs:List (κ×V)) (k:κ) (v:V):(putK kvs k v).length<=kvs.length+1:=by
 unfold putK;split <;> simp
section
variable {CD CF:zm}
def Ls (CF:zm):Sp:=fun vs H Q _=>∃(x dx:zm) (t b l:Int),vs=[.ref x,.int t,.int b,.int l]/\H x=some (.ins CF dx [])/\∀H',Ke x H H'->H' x=some (.ins CF dx (fl3 t b l))->Q .non H'
theorem Rm:qU ["self","turns","bells","late"] ["self","turns","bells","late"] (zP Qf):=⟨rfl,rfl,rfl,by decide +kernel,rfl,by decide +kernel,by decide +kernel⟩
theorem ziZ {f:zm}{fd:jQ} (F:Ai K "__init__" "Frame.__init__" Qf f fd) (hT:DkT K CD CF):Kc P w K mg base CX0 1 f fd ["self","turns","bells","late"] (Ls CF):=by
 refine F.ok Rm (fun vs H Q E h=>?_) (fun cdv A outer s H vs Q E hr h=>?_)
 .obtain⟨x,dx,t,b,l,rfl,_⟩:=h;rfl
 .obtain⟨x,dx,t,b,l,rfl,hx,q⟩:=h;refine⟨_,(zF (zaW (pv 0) (pv 1) rfl)
   (zF (zaW (pv 0) (pv 2) rfl)
   (zR (zaW (pv 0) (pv 3) rfl)))),?_⟩
  refine⟨_,rfl,_,rfl,x,CF,dx,_,rfl,hx,hT.cf,hT.n1,(by show 0<1000;decide),?_⟩;refine⟨_,rfl,_,rfl,x,CF,dx,_,rfl,zL,hT.cf,hT.n2,(by show 1<1000;decide),?_⟩;refine⟨_,rfl,_,rfl,x,CF,dx,_,rfl,zL,hT.cf,hT.n3,(by simp only[eY,if_neg zk4];show 2<1000;decide),?_⟩;rw[put3];exact q _ ((Ke.of (zX.refl _)).put.put.put) zL
def zdo (CD CF:zm):Sp:=fun vs H Q _=>∃(x dx:zm),vs=[.ref x]/\H x=some (.ins CD dx [])/\∀d H',Ke x H H'->H d=none->yo CD CF x d 0 (fun _=>none) H'->Q .non H'
theorem zaZ:qU ["self"] ["self"] (zP QQ):=⟨rfl,rfl,rfl,by decide +kernel,rfl,by decide +kernel,by decide +kernel⟩
theorem ziY {f:zm}{fd:jQ} (F:Ai K "__init__" "Desk.__init__" QQ f fd) (hT:DkT K CD CF):Kc P w K mg base CX0 1 f fd ["self"] (zdo CD CF):=by
 refine F.ok zaZ (fun vs H Q E h=>?_) (fun cdv A outer s H vs Q E hr h=>?_)
 .obtain⟨x,dx,rfl,_⟩:=h;rfl
 .obtain⟨x,dx,rfl,hx,q⟩:=h;refine⟨_,(zR (zaW (pv 0) Lf rfl)),?_⟩;refine fun d hd=>⟨_,rfl,x,CD,dx,_,rfl,(zX.new hd) _ _ hx,hT.cd,hT.n4,(by show 0<1000;decide),?_⟩;have nd:d≠x:=fun e=>by rw[e,hx] at hd;cases hd
  refine q d _ ((Ke.of (zX.new hd)).put) hd ⟨⟨dx,zL⟩,⟨[],by rw[jM nd,zL],zE _,fun _ _=>rfl,fun _ _ _ _ e=>nomatch e⟩,fun _ _ _ _ e=>nomatch e⟩
def Ea (CF:zm):Sp:=fun vs H Q _=>∃(p:zm) (t b l:Int),vs=[.ref p]/\zkN CF H p t b l/\ze3 t b l/\Q (.int (cnt t b l)) H
theorem zdh:qU ["frame"] ["frame"] (zP YL):=⟨rfl,rfl,rfl,by decide +kernel,rfl,by decide +kernel,by decide +kernel⟩
theorem zc1 (D:Def K mg "count_of" YL ["frame"]) (hT:DkT K CD CF) (jU:Fn P w K mg base 2 "box_count" ["turns","bells","late"] Yv):Fn P w K mg base 3 "count_of" ["frame"] (Ea CF):=by
 refine D.fn zdh (fun vs H Q E h=>?_) (fun f cdv A outer s H vs Q E hr h=>?_)
 .obtain⟨p,t,b,l,rfl,_⟩:=h;rfl
 .obtain⟨p,t,b,l,rfl,⟨dx,hx⟩,ok,q⟩:=h;refine⟨_,(zR (ju (vJ jU (hr.mono (by decide)) (by rfl) (za (Zh (pv 0) rfl) (za (Zh (pv 0) rfl) (za (Zh (pv 0) rfl) zB)))))),?_⟩;exact⟨_,rfl,p,CF,dx,_,_,rfl,hx,hT.cf,hT.n1,nH ..,_,rfl,p,CF,dx,_,_,rfl,hx,hT.cf,hT.n2,nG ..,_,rfl,p,CF,dx,_,_,rfl,hx,hT.cf,hT.n3,Ay ..,t,b,l,rfl,ok.b0,vL ok.b1 (by decide),ok.l0,zU (nj ok.l0 ok.l1) (by decide),zU (nj ok.t0 ok.t1) (by decide),q⟩
def Lw (CD CF CN:zm):Sp:=fun vs H Q E=>∃(x d:zm) (n:Nat) (fr:Str->Option (Int×Int×Int)) (nm:Str),vs=[.ref x,.str nm]/\yo CD CF x d n fr H/\(fr nm=none->E (.ref CN) none H)/\∀t b l,fr nm=some (t,b,l)->∀p,zkN CF H p t b l->Q (.ref p) H
theorem za0:qU ["self","name"] ["self","name"] (zP QS):=⟨rfl,rfl,rfl,by decide +kernel,rfl,by decide +kernel,by decide +kernel⟩
theorem zop {f:zm}{fd:jQ} (F:Ai K "kept" "Desk.kept" QS f fd) (hT:DkT K CD CF){xY:zm} (XJ:mg "NoName"=some (.ref xY)) (cC:qD K xY bmV "ValueError.__new__"=true):Kc P w K mg base (CXE P w) 1 f fd ["self","name"] (Lw CD CF xY):=by
 refine F.okE za0 (fun vs H Q E h=>?_) (fun cdv A outer s H vs Q E hr h=>?_)
 .obtain⟨x,d,n,fr,nm,rfl,_⟩:=h;rfl
 .obtain⟨x,d,n,fr,nm,rfl,⟨⟨dx,hx⟩,⟨kvs,hd,_,k1,k2⟩,_⟩,q1,q2⟩:=h;refine⟨_,(zF (wO (zru (zi6 (Bb hr) (pv 1) (Zh (pv 0) rfl)))
    (zR (yc qu cC (by rfl) XJ (za jG zB)))
    j4)
   (zR (ju (G4 (Bb hr) (Zh (pv 0) rfl) (pv 1) (fun _ _=>rfl))))),?_⟩
  refine⟨_,rfl,_,rfl,x,CD,dx,_,_,rfl,hx,hT.cd,hT.n4,ue d,d,_,rfl,tG.k (k:=xG nm) hd,?_⟩;cases e:fr nm with
  | none=>
   rw[k1 nm e];exact⟨_,rfl,Ib ⟨(by decide),q1 e⟩⟩
  | some z=>
   obtain⟨t,b,l⟩:=z;obtain⟨p,hp,ip⟩:=k2 nm t b l e;rw[hp];refine⟨_,rfl,Vu ⟨_,rfl,x,CD,dx,_,_,rfl,hx,hT.cd,hT.n4,ue d,_,rfl,d,V.ref p,rfl,?_,q2 t b l e p ip⟩⟩;have:=tG.k (k:=xG nm) hd;rw[hp] at this;exact this
end
noncomputable def n6 (fr:Str->Option (Int×Int×Int)) (nm:Str) (z:Int×Int×Int):Str->Option (Int×Int×Int):=fun m=>if m=nm then some z else fr m
section
variable {CD CF:zm}
structure Hr (w1 w2 w3 w4:Str):Prop where
 a:vp w1
 b:Num 60 w2
 c:Jk w3
 d:Num 60 w4
def zfT (CD CF CO:zm):Sp:=fun vs H Q E=>∃(x a d:zm) (n:Nat) (fr:Str->Option (Int×Int×Int)) (w0 w1 w2 w3 w4:Str),vs=[.ref x,.ref a]/\yo CD CF x d n fr H/\n<1000/\H a=some (.lst ([w0,w1,w2,w3,w4].map V.str))/\w1.length<=1000000/\w2.length<=1000000/\w3.length<=1000000/\w4.length<=1000000 /\
 (¬Hr w1 w2 w3 w4->∀H',zX H H'->E (.ref CO) none H')/\(Hr w1 w2 w3 w4->ze3 (xN w2) (xN w3) (xN w4)/\∀H',Ke d H H'->yo CD CF x d (n+1) (n6 fr w1 (xN w2,xN w3,xN w4)) H'->Q (.str ("messages "++txt (cnt (xN w2) (xN w3) (xN w4)))) H')
theorem aQ:qU ["self","words","name","frame","count"] ["self","words"] (zP QR):=⟨rfl,rfl,rfl,by decide +kernel,rfl,by decide +kernel,by decide +kernel⟩
theorem zoo {f:zm}{fd:jQ} (F:Ai K "keep" "Desk.keep" QR f fd) (hT:DkT K CD CF){zT:zm} (iG:mg "Frame"=some (.ref CF)) (Za:FnE P w K mg base 2 "name_in" ["word"] (Br zT)) (j6:FnE P w K mg base 3 "number_in" ["word"] (fc zT 60)) (Zk:FnE P w K mg base 4 "bells_in" ["word"] (Bq zT)) (Hu:MkX CX0 P w K mg base 1 CF ["self","turns","bells","late"] (Ls CF)) (Wy:Fn P w K mg base 3 "count_of" ["frame"] (Ea CF)):Kc P w K mg base (CXE P w) 5 f fd ["self","words"] (zfT CD CF zT):=by
 refine F.okE aQ (fun vs H Q E h=>?_) (fun cdv A outer s H vs Q E hr h=>?_)
 .obtain⟨x,a,d,n,fr,w0,w1,w2,w3,w4,rfl,_⟩:=h;rfl
 .obtain⟨x,a,d,n,fr,w0,w1,w2,w3,w4,rfl,hD,hn,hA,l1,l2,l3,l4,q2,q1⟩:=h;refine⟨_,(zF (jb (i:=2) aQ.nd rfl (zN rfl) (vN Za (hr.mono (by decide)) (by rfl) jF (za (kZ j8 (pv 1) zH (fun _ _=>rfl)) zB)))
   (zF (jb (i:=3) aQ.nd rfl (zN rfl) (zwS Hu (hr.mono (by decide)) (by rfl) iG (za (vN j6 (hr.mono (by decide)) (by rfl) jF (za (kZ j8 (pv 1) zH (fun _ _=>rfl)) zB)) (za (vN Zk (hr.mono (by decide)) (by rfl) jF (za (kZ j8 (pv 1) zH (fun _ _=>rfl)) zB)) (za (vN j6 (hr.mono (by decide)) (by rfl) jF (za (kZ j8 (pv 1) zH (fun _ _=>rfl)) zB)) zB)))))
   (zF (zhv (Bb hr) (Zh (pv 0) rfl) (pv 2) (pv 3) rfl)
   (zF (jb (i:=4) aQ.nd rfl (zN rfl) (vJ Wy (hr.mono (by decide)) (by rfl) (za (pv 3) zB)))
   (zR (ju (zpS (.cons jG (.cons (zaT (pv 4)) .nil))))))))),?_⟩
  refine⟨_,rfl,a,_,1,_,rfl,rfl,SqL.of hA,rfl,w1,rfl,l1,fun g1 H1 s1=>?_,fun g1 H1 s1=>q2 (fun z=>g1 z.a) H1 s1⟩;have hA1:=s1 _ _ hA;refine⟨_,rfl,a,_,2,_,rfl,rfl,SqL.of hA1,rfl,w2,rfl,l2,Iu,fun g2 H2 s2=>?_,fun g2 H2 s2=>q2 (fun z=>g2 z.b) H2 (s1.trans s2)⟩;have hA2:=s2 _ _ hA1;refine⟨_,rfl,a,_,3,_,rfl,rfl,SqL.of hA2,rfl,w3,rfl,l3,fun g3 H3 s3=>?_,fun g3 H3 s3=>q2 (fun z=>g3 z.c) H3 ((s1.trans s2).trans s3)⟩;have hA3:=s3 _ _ hA2;refine⟨_,rfl,a,_,4,_,rfl,rfl,SqL.of hA3,rfl,w4,rfl,l4,Iu,fun g4 H4 s4=>?_,fun g4 H4 s4=>q2 (fun z=>g4 z.d) H4 (((s1.trans s2).trans s3).trans s4)⟩;have s04:=((s1.trans s2).trans s3).trans s4;obtain⟨ok,q1⟩:=q1 ⟨g1,g2,g3,g4⟩;refine fun p dx hp hdx ne=>⟨p,dx,_,_,_,rfl,zL,fun H5 s5 h5=>⟨rfl,?_⟩⟩;have s45:zX H4 H5:=fun c o hc=>by
   have n1:c≠p:=fun e=>by rw[e,hp] at hc;cases hc
   have n2:c≠dx:=fun e=>by rw[e,hdx] at hc;cases hc
   exact s5 c o (by rw[jM n1,jM n2];exact hc) n1
  have s05:=s04.trans s45;obtain⟨⟨dd,hx⟩,⟨kvs,hd,kl,k1,k2⟩,fo⟩:=hD.mono s05;have np:p≠d:=fun e=>by
   obtain⟨kv0,hd0,_⟩:=hD.dict;have:=s04 _ _ hd0;rw[<- e,hp] at this;cases this
  refine⟨_,rfl,_,rfl,x,CD,dd,_,_,rfl,hx,hT.cd,hT.n4,ue d,_,rfl,d,_,rfl,zis.k (k:=xG w1) hd (by rw[qC];omega),?_⟩;have nx:x≠d:=fun e=>by rw[e,hd] at hx;cases hx
  have hp6:(upd H5 d (.dK (putK kvs (xG w1) (V.ref p)))) p=some (.ins CF dx (fl3 (xN w2) (xN w3) (xN w4))):=by rw[jM np];exact h5
  refine⟨_,rfl,p,_,_,_,rfl,⟨dx,hp6⟩,ok,?_⟩;have c0:=bH (xN w2) (xN w3) (xN w4);have em:W7++("messages ":Str)="messages ":=by decide +kernel
  have lm:("messages ":Str).length=9:=by decide +kernel
  have lc:("messages "++txt (cnt (xN w2) (xN w3) (xN w4))).length<=sizeLine:=by
   have h2:=(Xn (k:=500) (by decide) c0 ok.c1).le;rw[<- wj,Qo,zM,wj,wj,lm,qC];omega
  refine⟨"messages ",rfl,by rw[em,lm,qC];decide,_,rfl,_,rfl,lg c0 ok.c1,txt (cnt (xN w2) (xN w3) (xN w4)),rfl,by rw[em];exact lc,by rw[em];exact lc,?_⟩;rw[em];refine q1 _ ((Ke.of s05).put) ⟨⟨dd,by rw[jM nx];exact hx⟩,⟨_,zL,?_,fun nm e=>?_,fun nm t b l e=>?_⟩,fun nm t b l e=>?_⟩
  .have:=zdc kvs (xG w1) (V.ref p);clear l1 l2 l3 l4 c0 lm lc;omega
  .unfold n6 at e;split at e
   .cases e
   .rename_i h;rw[oH,if_neg (fun z=>h (ph z))];exact k1 nm e
  .unfold n6 at e;rw[oH];split at e
   .rename_i h;cases e;rw[if_pos (by rw[h])];exact⟨p,rfl,dx,hp6⟩
   .rename_i h;rw[if_neg (fun z=>h (ph z))];obtain⟨r,hr1,dr,hr2⟩:=k2 nm t b l e;have nr:r≠d:=fun z=>by rw[z,hd] at hr2;cases hr2
    exact⟨r,hr1,dr,by rw[jM nr];exact hr2⟩
  .unfold n6 at e;split at e
   .cases e;exact ok
   .exact fo nm t b l e
end
theorem zcF (c:Nat):∀xs:List (List Nat),(JL c xs).length<=(xs.map V7).sum+xs.length
 | []=>zE _
 | [x]=>by simp[JL]
 | x::y::r=>by
  have:=zcF c (y::r);show (x++c::JL c (y::r)).length<=_;rw[zM,qx,zY,yL,qx];omega
theorem Be (ws:List Str):(Txt.join " " ws).length<=(ws.map (·.length)).sum+ws.length:=by
 rw[Bc,<- wj,show (" ":Str)=⟨#[32]⟩ by decide +kernel,nF];have:=zcF 32 (ws.map cpl);rw[wM,zf] at this;have e:(ws.map (V7 ∘ cpl))=ws.map (·.length):=aK fun x _=>wj x;rw[e] at this;exact this
theorem oA:(" ":Str)=sp:=by decide +kernel
theorem Vg (a b:Str):(a++b).length=a.length+b.length:=by rw[<- wj,Qo,zM,wj,wj]
theorem ziC {t b l:Int} (b0:0<=b) (b6:b<=8) (t1:t<10 ^ 40) (l0:0<=l):cnt t b l<10 ^ 500:=by
 unfold cnt;split
 .exact(show (0:Int)<10 ^ 500 by decide +kernel)
 .have h2:=Xq (l+1) (show 0<=t-b by omega);have h3:0<=(t-b) / (l+1):=ZR (by omega) (by omega);have e40:(10:Int) ^ 40<=2 ^ 133:=by decide +kernel
  have nb:zZ ((t-b) / (l+1)+b)<=140:=vI (by omega) (by omega);have h4:=GJ (k:=b.toNat) nb (by omega);rw[show ((b.toNat:Nat):Int)=b by clear l0 h2 h3 nb h4;omega] at h4;have h5:zZ (ch ((t-b) / (l+1)+b) b)<=1200:=zU h4 (by omega);have h6:=intBits_le_iff.mp h5;have zyc:(2:Int) ^ 1200<=10 ^ 500:=by decide +kernel
  omega
theorem zsQ {t b l:Int} (b0:0<=b) (b8:b<=8) (t0:0<=t) (t1:t<10 ^ 40) (l0:0<=l) (l1:l<10 ^ 40):ze3 t b l:=
 ⟨t0,by omega,b0,by omega,l0,by omega,ziC b0 b8 t1 l0⟩
theorem zn8 {P:qz}{w:jd}{K:zg}{mg:Str->Option zc}{base:jW}{k:Nat}{x:Str}{ps:List Str} {sp sp':Sp} (h:∀vs H Q E,sp' vs H Q E->sp vs H Q E) (F:Fn P w K mg base k x ps sp):Fn P w K mg base k x ps sp':=by
 obtain⟨f,fd,F,kp,b,m⟩:=F;exact⟨f,fd,⟨fun vs H Q E hh=>F.len vs H Q E (h _ _ _ _ hh),fun A outer s H args us vs Q E hr e0 hp hb r hh=>F.run A outer s H args us vs Q E hr e0 hp hb r (h _ _ _ _ hh)⟩,kp,b,m⟩
def Ec (K:zg):Sp:=fun vs H Q _=>∃jZ turns zK zy:Int,vs=[.int jZ,.int turns,.int zK,.int zy]/\0<=jZ/\jZ<cnt turns zK zy/\0<=zK/\zK<=60/\0<=zy/\zZ zy<=8000/\zZ turns<=70000/\zZ jZ<=50000 /\
 ∀(p:zm) (bs:List Int) (H':Hp),zX H H'->H p=none->H' p=some (.lst ((vf zy bs).map V.int))->yO bs->bs.length=zK.toNat->Ko bs=jZ->Szs 60010 bs->Q (.ref p) H'
theorem Mf {P:qz}{w:jd}{K:zg}{mg:Str->Option zc}{base:jW}{k:Nat}{C:zm} (G:FnE P w K mg base k "written" ["message","turns","bells","late"] (uE K C)):Fn P w K mg base k "written" ["message","turns","bells","late"] (Ec K):=
 zn8 (fun vs H Q E h=>by
  obtain⟨m,t,b,l,rfl,m0,m1,b0,b60,l0,lb,tb,mb,q⟩:=h;exact⟨m,t,b,l,rfl,b0,b60,l0,lb,tb,mb,fun _=>q,fun z=>absurd ⟨m0,m1⟩ z⟩) (zk3 G)
theorem FnE.mono {P:qz}{w:jd}{K:zg}{mg:Str->Option zc}{base:jW}{k j:Nat}{x:Str}{ps:List Str}{sp:Sp} (G:FnE P w K mg base k x ps sp) (h:k<=j):FnE P w K mg base j x ps sp:=by
 obtain⟨f,fd,F,r⟩:=G;exact⟨f,fd,F.mono h,r⟩
theorem zn4 (x y:V) (r:List V):zaz (x::y::r) (some 2) none=r:=by
 unfold zaz;have e:HT.sIx (x::y::r).length 0 (some 2)=min 2 (x::y::r).length:=HT.sIx_nat ..;rw[e];show ((x::y::r).drop (min 2 (r.length+2))).take ((r.length+2)-min 2 (r.length+2))=r;rw[show min 2 (r.length+2)=2 by omega];exact QZ (zE _)
theorem zwQ:(10:Int) ^ 3000<=2 ^ 10000:=by decide +kernel
theorem zlJ:(10:Int) ^ 60<=10 ^ 500:=by decide +kernel
def Bd (m:Nat) (ns:List Int):Prop:=∀x∈ns,0<=x/\x<2 ^ m
theorem zn0 {ns:List Int}{zy:Int} (h:Bd 200 ns) (hl:ns.length<=100) (l0:0<=zy):Szs 70000 (Wo zy ns):=fun y hy=>by
 obtain⟨i,hi⟩:=vA hy;obtain⟨x,hx,rfl⟩:=TF hi;have hb:=h x (qw hx);have hi':=(List.getElem?_eq_some_iff.mp hx).1;refine zU (zkS (m:=300) ?_ (by omega)) (by decide);refine jN (y:=2 ^ 200) ?_ (by decide);have e1:((2:Int) ^ 200).natAbs=2 ^ 200:=by decide
 rw[e1];have h1:=hb.1;have h2:=hb.2;omega
section
variable {CD CF:zm}
def zfU (CD CF CO CN CT:zm):Sp:=fun vs H Q E=>∃(x a d:zm) (n:Nat) (fr:Str->Option (Int×Int×Int)) (w0 w1 w2:Str),vs=[.ref x,.ref a]/\yo CD CF x d n fr H/\H a=some (.lst ([w0,w1,w2].map V.str))/\w1.length<=1000000/\w2.length<=1000000/\(Num 3000 w2->w2.length<=640) /\
 (¬(vp w1/\Num 3000 w2)->∀H',zX H H'->E (.ref CO) none H')/\(vp w1->Num 3000 w2->fr w1=none->∀H',zX H H'->E (.ref CN) none H') /\
 (vp w1->Num 3000 w2->∀t b l,fr w1=some (t,b,l)->w0≠"key"/\(xN w2<cnt t b l->∀bs H',zX H H'->yO bs->bs.length=b.toNat->Ko bs=xN w2->Q (.str (yu (vf l bs))) H')/\(¬xN w2<cnt t b l->∀H',zX H H'->E (.ref CT) none H'))
theorem aR:qU ["self","words","name","message","frame"] ["self","words"] (zP QT):=⟨rfl,rfl,rfl,by decide +kernel,rfl,by decide +kernel,by decide +kernel⟩
theorem zou {f:zm}{fd:jQ} (F:Ai K "ring" "Desk.ring" QT f fd) (hT:DkT K CD CF){zT xY ji:zm} (Za:FnE P w K mg base 2 "name_in" ["word"] (Br zT)) (yG:FnE P w K mg base 3 "message_in" ["word"] (fc zT 3000)) (aO:MtE P w K mg base 1 CD "kept" ["self","name"] (Lw CD CF xY)) (bD:FnE P w K mg base 40 "written" ["message","turns","bells","late"] (uE K ji)) (zkK:FnE P w K mg base 41 "keyed" ["message","turns","bells","late"] (fun _ _ _ _=>False)) (QG:Fn P w K mg base 1 "turns_told" ["turns"] (YG K)):Kc P w K mg base (CXE P w) 45 f fd ["self","words"] (zfU CD CF zT xY ji):=by
 refine F.okE aR (fun vs H Q E h=>?_) (fun cdv A outer s H vs Q E hr h=>?_)
 .obtain⟨x,a,d,n,fr,w0,w1,w2,rfl,_⟩:=h;rfl
 .obtain⟨x,a,d,n,fr,w0,w1,w2,rfl,hD,hA,l1,l2,l3,q1,q2,q3⟩:=h;refine⟨_,(zF (jb (i:=2) aR.nd rfl (zN rfl) (vN Za (hr.mono (by decide)) (by rfl) jF (za (kZ j8 (pv 1) zH (fun _ _=>rfl)) zB)))
   (zF (jb (i:=3) aR.nd rfl (zN rfl) (vN yG (hr.mono (by decide)) (by rfl) jF (za (kZ j8 (pv 1) zH (fun _ _=>rfl)) zB)))
   (zF (jb (i:=4) aR.nd rfl (zN rfl) (nU (pv 0) aO (hr.mono (by decide)) jF (za (pv 2) zB)))
   (zF (wO (jh nQ (kZ j8 (pv 1) zH (fun _ _=>rfl)) jG (qZ _))
    (zR (ju (vJ QG (hr.mono (by decide)) (by rfl) (za (vN zkK (hr.mono (by decide)) (by rfl) jF (za (pv 3) (za (Zh (pv 4) rfl) (za (Zh (pv 4) rfl) (za (Zh (pv 4) rfl) zB))))) zB))))
    j4)
   (zR (ju (vJ QG (hr.mono (by decide)) (by rfl) (za (vN bD (hr.mono (by decide)) (by rfl) jF (za (pv 3) (za (Zh (pv 4) rfl) (za (Zh (pv 4) rfl) (za (Zh (pv 4) rfl) zB))))) zB)))))))),?_⟩
  refine⟨_,rfl,a,_,1,_,rfl,rfl,SqL.of hA,rfl,w1,rfl,l1,fun g1 H1 s1=>?_,fun g1 H1 s1=>q1 (fun z=>g1 z.1) H1 s1⟩;have hA1:=s1 _ _ hA;refine⟨_,rfl,a,_,2,_,rfl,rfl,SqL.of hA1,rfl,w2,rfl,l2,l3,fun g2 H2 s2=>?_,fun g2 H2 s2=>q1 (fun z=>g2 z.2) H2 (s1.trans s2)⟩;have s02:=s1.trans s2;have hD2:=hD.mono s02;have hA2:=s2 _ _ hA1;obtain⟨dx,hx⟩:=hD2.self;refine⟨_,rfl,x,dx,_,rfl,hx,JK (by decide +kernel),_,rfl,x,d,n,fr,w1,rfl,hD2,fun e=>q2 g1 g2 e H2 s02,fun t b l e p ip=>?_⟩;obtain⟨pdx,hp⟩:=ip;have ok:=hD.ok w1 t b l e;obtain⟨nk,q4,q5⟩:=q3 g1 g2 t b l e;have m0:=Jw w2;have mb:zZ (xN w2)<=50000:=zU (vI m0 (xR (zhk g2) zwQ)) (by decide);refine⟨_,rfl,a,_,0,_,rfl,rfl,SqL.of hA2,rfl,rfl,_,rfl,ifD (fun z=>absurd (V.str.inj z) nk) (fun z=>?_)⟩;refine⟨_,rfl,_,rfl,p,CF,pdx,_,_,rfl,hp,hT.cf,hT.n1,nH ..,_,rfl,p,CF,pdx,_,_,rfl,hp,hT.cf,hT.n2,nG ..,_,rfl,p,CF,pdx,_,_,rfl,hp,hT.cf,hT.n3,Ay ..,xN w2,t,b,l,rfl,ok.b0,ok.b1,ok.l0,zU (nj ok.l0 ok.l1) (by decide),zU (nj ok.t0 ok.t1) (by decide),mb,fun g r bs H3 s3 _ h3 B bl nb sz=>?_,fun g=>q5 (fun y=>g ⟨m0,y⟩) H2 s02⟩;have b0:=ok.b0;have eb:(bs.length:Int)=b:=by clear l1 l2 m0 mb g nb;omega
  refine⟨r,vf l bs,rfl,SqL.of h3,by rw[ZV];have:=ok.b1;clear l1 l2 m0 mb g nb;omega,fun y hy=>?_,fun H4 s4=>q4 g.2 bs H4 ((s02.trans s3).trans s4) B bl nb⟩;obtain⟨k2,k1⟩:=zar B ok.l0 (by rw[nb,eb];exact g.2) y hy;exact⟨k2,bh k1 (xR ok.t1 zlJ)⟩
def Lx (CD CF CO CR:zm) (NH:Sp):Sp:=fun vs H Q E=>∃(x a d:zm) (n:Nat) (fr:Str->Option (Int×Int×Int)) (w0 w1:Str) (ws:List Str),vs=[.ref x,.ref a]/\yo CD CF x d n fr H/\H a=some (.lst ((w0::w1::ws).map V.str))/\w1.length<=1000000/\ws.length<=1000000/\(∀y∈ws,y.length<=1000000) /\
 (¬(vp w1/\WD ws)->∀H',zX H H'->E (.ref CO) none H') /\
 (vp w1->WD ws->∃t b l,fr w1=some (t,b,l)/\w0≠"unkey" /\
  (w0="read"->GoodR t b l (ws.map xN)/\∀H',zX H H'->Q (.str (txt (Ko (Wo l (ws.map xN))))) H') /\
  (w0≠"read"->∀r p H',zX H H'->H' r=some (.lst ((ws.map xN).map V.int))->zkN CF H' p t b l->NH [.ref r,.ref p] H' (fun v H2=>∃i j:Str,V.str "note "=.str i/\v=.str j/\i.length+j.length<=sizeLine/\Q (.str (i++j)) H2) (fun C _ H2=>E C none H2)))
theorem zoi {bs:List Int} (B:yO bs):0<=Ko bs:=Kp bs _
theorem Ku:qU ["self","words","name","reading","frame"] ["self","words"] (zP ZC):=⟨rfl,rfl,rfl,by decide +kernel,rfl,by decide +kernel,by decide +kernel⟩
theorem zi0 {f:zm}{fd:jQ} (F:Ai K "listen" "Desk.listen" ZC f fd) (hT:DkT K CD CF){zT xY qM:zm}{NH UK:Sp} (Za:FnE P w K mg base 2 "name_in" ["word"] (Br zT)) (mZ:FnE P w K mg base 4 "turns_in" ["words"] (zdr K zT)) (aO:MtE P w K mg base 1 CD "kept" ["self","name"] (Lw CD CF xY)) (ir:FnE P w K mg base 3 "read" ["reading","turns","bells","late"] (zba K qM)) (ze4:FnE P w K mg base 4 "unkeyed" ["reading","turns","bells","late"] UK) (Zm:Fn P w K mg base 1 "number_told" ["number"] pP) (dZ:FnE P w K mg base 44 "note_heard" ["reading","frame"] NH):Kc P w K mg base (CXE P w) 45 f fd ["self","words"] (Lx CD CF zT qM NH):=by
 refine F.okE Ku (fun vs H Q E h=>?_) (fun cdv A outer s H vs Q E hr h=>?_)
 .obtain⟨x,a,d,n,fr,w0,w1,ws,rfl,_⟩:=h;rfl
 .obtain⟨x,a,d,n,fr,w0,w1,ws,rfl,hD,hA,l1,l2,l3,q1,q3⟩:=h;refine⟨_,(zF (jb (i:=2) Ku.nd rfl (zN rfl) (vN Za (hr.mono (by decide)) (by rfl) jF (za (kZ j8 (pv 1) zH (fun _ _=>rfl)) zB)))
   (zF (jb (i:=3) Ku.nd rfl (zN rfl) (vN mZ (hr.mono (by decide)) (by rfl) jF (za (zda zhz (pv 1) (zhu zH) zht) zB)))
   (zF (jb (i:=4) Ku.nd rfl (zN rfl) (nU (pv 0) aO (hr.mono (by decide)) jF (za (pv 2) zB)))
   (zF (wO (jh nQ (kZ j8 (pv 1) zH (fun _ _=>rfl)) jG (qZ _))
    (zR (ju (vJ Zm (hr.mono (by decide)) (by rfl) (za (vN ir (hr.mono (by decide)) (by rfl) jF (za (pv 3) (za (Zh (pv 4) rfl) (za (Zh (pv 4) rfl) (za (Zh (pv 4) rfl) zB))))) zB))))
    j4)
   (zF (wO (jh nQ (kZ j8 (pv 1) zH (fun _ _=>rfl)) jG (qZ _))
    (zR (ju (vJ Zm (hr.mono (by decide)) (by rfl) (za (vN ze4 (hr.mono (by decide)) (by rfl) jF (za (pv 3) (za (Zh (pv 4) rfl) (za (Zh (pv 4) rfl) (za (Zh (pv 4) rfl) zB))))) zB))))
    j4)
   (zR (ju (jc vG jG (vN dZ (hr.mono (by decide)) (by rfl) jF (za (pv 3) (za (pv 4) zB))))))))))),?_⟩
  refine⟨_,rfl,a,_,1,_,rfl,rfl,SqL.of hA,(show atI ((w0::w1::ws).map V.str) ((1:Nat):Int)=some (V.str w1) from Yc rfl),w1,rfl,l1,fun g1 H1 s1=>?_,fun g1 H1 s1=>q1 (fun z=>g1 z.1) H1 s1⟩;have hA1:=s1 _ _ hA;refine⟨_,rfl,_,rfl,_,_,rfl,SqL.of hA1,fun pc hpc=>?_⟩;have ec:zaz ((w0::w1::ws).map V.str) (some 2) none=ws.map V.str:=zn4 ..;rw[ec];refine⟨pc,ws,rfl,SqL.of zL,l2,l3,fun g2 rp H2 s2 _ h2=>?_,fun g2 H2 s2=>q1 (fun z=>g2 z.2) H2 ((s1.trans (zX.new hpc)).trans s2)⟩;have s02:=(s1.trans (zX.new (o:=.lst (ws.map V.str)) hpc)).trans s2;have hD2:=hD.mono s02;have hA2:=s02 _ _ hA;obtain⟨dx,hx⟩:=hD2.self;obtain⟨t,b,l,e,nu,qr,qn⟩:=q3 g1 g2;refine⟨_,rfl,x,dx,_,rfl,hx,JK (by decide +kernel),_,rfl,x,d,n,fr,w1,rfl,hD2,(fun z=>by rw[e] at z;cases z),fun t' b' l' e' p ip=>?_⟩;rw[e] at e';cases e';have ip':=ip;obtain⟨pdx,hp⟩:=ip;have ok:=hD.ok w1 t b l e;have h0:atI ((w0::w1::ws).map V.str) ((0:Nat):Int)=some (V.str w0):=Yc rfl;refine⟨_,rfl,a,_,0,_,rfl,rfl,SqL.of hA2,h0,rfl,_,rfl,ifD (fun z=>?_) (fun z=>?_)⟩
  .obtain⟨gr,q4⟩:=qr (V.str.inj z);have hb:Bd 200 (ws.map xN):=fun y hy=>by
    obtain⟨z,hz,rfl⟩:=List.mem_map.mp hy;exact⟨Jw z,xR (zhk (g2.num z hz)) p60⟩
   have ob:=ok.b1;refine⟨_,rfl,_,rfl,p,CF,pdx,_,_,rfl,hp,hT.cf,hT.n1,nH ..,_,rfl,p,CF,pdx,_,_,rfl,hp,hT.cf,hT.n2,nG ..,_,rfl,p,CF,pdx,_,_,rfl,hp,hT.cf,hT.n3,Ay ..,rp,ws.map xN,t,b,l,rfl,SqL.of h2,ok.b0,ok.b1,ok.l0,zU (nj ok.l0 ok.l1) (by decide),zU (nj ok.t0 ok.t1) (by decide),fun el=>zn0 hb (by omega) ok.l0,fun g H3 s3=>?_,fun g=>absurd gr g⟩;exact⟨_,rfl,.inr ⟨_,rfl,zoi g.2.1,bh g.2.2 ok.c1,q4 H3 (s02.trans s3)⟩⟩
  .have q6:=qn (fun y=>z (by rw[y])) rp p H2 s02 h2 ip';exact⟨_,rfl,a,_,0,_,rfl,rfl,SqL.of hA2,h0,rfl,_,rfl,ifF (fun y=>nu (V.str.inj y)) ⟨_,rfl,_,rfl,q6⟩⟩
def zbc (K:zg) (CD CF CO CN:zm) (SN:Sp):Sp:=fun vs H Q E=>∃(x a d:zm) (n:Nat) (fr:Str->Option (Int×Int×Int)) (w0 w1 w2:Str),vs=[.ref x,.ref a]/\yo CD CF x d n fr H/\H a=some (.lst ([w0,w1,w2].map V.str))/\w1.length<=1000000 /\
 (¬vp w1->∀H',zX H H'->E (.ref CO) none H')/\(vp w1->fr w1=none->∀H',zX H H'->E (.ref CN) none H') /\
 (vp w1->∀t b l,fr w1=some (t,b,l)->∀H',zX H H'->SN [.str w2,.int t,.int b,.int l] H' (fun v H2=>YG K [v] H2 Q E0) (fun C _ H2=>E C none H2))
theorem cX:qU ["self","words","frame"] ["self","words"] (zP ye):=⟨rfl,rfl,rfl,by decide +kernel,rfl,by decide +kernel,by decide +kernel⟩
theorem zc3 {f:zm}{fd:jQ} (F:Ai K "send_note" "Desk.send_note" ye f fd) (hT:DkT K CD CF){zT xY:zm}{SN:Sp} (Za:FnE P w K mg base 2 "name_in" ["word"] (Br zT)) (aO:MtE P w K mg base 1 CD "kept" ["self","name"] (Lw CD CF xY)) (U9:FnE P w K mg base 44 "sent" ["note","turns","bells","late"] SN) (QG:Fn P w K mg base 1 "turns_told" ["turns"] (YG K)):Kc P w K mg base (CXE P w) 45 f fd ["self","words"] (zbc K CD CF zT xY SN):=by
 refine F.okE cX (fun vs H Q E h=>?_) (fun cdv A outer s H vs Q E hr h=>?_)
 .obtain⟨x,a,d,n,fr,w0,w1,w2,rfl,_⟩:=h;rfl
 .obtain⟨x,a,d,n,fr,w0,w1,w2,rfl,hD,hA,l1,q1,q2,q3⟩:=h;refine⟨_,(zF (jb (i:=2) cX.nd rfl (zN rfl) (nU (pv 0) aO (hr.mono (by decide)) jF (za (vN Za (hr.mono (by decide)) (by rfl) jF (za (kZ j8 (pv 1) zH (fun _ _=>rfl)) zB)) zB)))
   (zR (ju (vJ QG (hr.mono (by decide)) (by rfl) (za (vN U9 (hr.mono (by decide)) (by rfl) jF (za (kZ j8 (pv 1) zH (fun _ _=>rfl)) (za (Zh (pv 2) rfl) (za (Zh (pv 2) rfl) (za (Zh (pv 2) rfl) zB))))) zB))))),?_⟩
  obtain⟨dx,hx⟩:=hD.self;refine⟨_,rfl,x,dx,_,rfl,hx,JK (by decide +kernel),_,rfl,a,_,1,_,rfl,rfl,SqL.of hA,rfl,w1,rfl,l1,fun g1 H1 s1=>?_,fun g1 H1 s1=>q1 g1 H1 s1⟩;refine⟨x,d,n,fr,w1,rfl,hD.mono s1,fun e=>q2 g1 e H1 s1,fun t b l e p ip=>?_⟩;obtain⟨pdx,hp⟩:=ip;have hA1:=s1 _ _ hA;exact⟨_,rfl,a,_,2,_,rfl,rfl,SqL.of hA1,rfl,_,rfl,p,CF,pdx,_,_,rfl,hp,hT.cf,hT.n1,nH ..,_,rfl,p,CF,pdx,_,_,rfl,hp,hT.cf,hT.n2,nG ..,_,rfl,p,CF,pdx,_,_,rfl,hp,hT.cf,hT.n3,Ay ..,q3 g1 t b l e H1 s1⟩
def pB (a b c d e:Str):Prop:=Num 3000 a/\Num 60 b/\Num 60 c/\Num 60 d/\Jk e
noncomputable def bG:Option Tr->Str
 | none=>"none"
 | some x=>txt x.1++" for "++txt x.2.1++" turns and "++txt x.2.2++" bells"
theorem empty_app (x:Str):W7++x=x:=Vh (by rw[Qo];rfl)
theorem l7 {n:Int} (h:n<=10 ^ 7):n<10 ^ 500:=wR h (by decide +kernel)
theorem fZ {n:Int} (h0:0<=n) (h1:n<=10 ^ 7):(txt n).length<=8:=(Xn (k:=8) (by decide) h0 (by omega)).le
theorem zan {n:Int} (h0:0<=n) (h:n<=100):zZ n<=7:=vI h0 (by omega)
theorem zdl {b l m t:Int} (b0:0<=b) (l0:0<=l) (m0:0<=m) (b1:b<=100) (l1:l<=100) (m1:m<=100) (h:b=0->m<=1) (ht:ZL b l m t):0<=t/\t<=10 ^ 7:=by
 have h1:=zl2 b0 l0 m0 h ht;have h2:m*(l+1)<=100*101:=Wa m1 (by omega) (by omega) (by decide);omega
theorem Lr {tc bc l m b:Int}{x:Tr} (b1:b<=100) (l0:0<=l) (l1:l<=100) (t0:0<=tc) (t1:tc<=100) (c0:0<=bc) (c1:bc<=100) (m0:0<=m) (m1:m<=100) (h:Wr (listS tc bc l m (b+1).toNat)=some x) :
  (0<=x.1/\x.1<=10 ^ 7)/\(0<=x.2.1/\x.2.1<=10 ^ 7)/\0<=x.2.2/\x.2.2<=10 ^ 7:=by
 obtain⟨h1,h2,h3,h4,h5⟩:=Do l0 m0 _ x (ziv h);have h6:m*(l+1)<=100*101:=Wa m1 (by omega) (by omega) (by decide);have h7:x.2.1*tc<=11000*100:=Wa (by clear t0 t1 c0 c1 m0 m1 h5;omega) t1 t0 (by decide);have h8:x.2.2*bc<=101*100:=Wa (by omega) c1 c0 (by decide);have h9:=yQ h3 t0;have h10:=yQ h1 c0;clear l0 l1 t0 t1 c0 c1 m0 m1;omega
def zdm (CO:zm):Sp:=fun vs H Q E=>∃(p:zm) (w0 a b c d e:Str),vs=[.ref p]/\H p=some (.lst ([w0,a,b,c,d,e].map V.str))/\(∀x∈[a,b,c,d,e],x.length<=640)/\(¬pB a b c d e->∀H',zX H H'->E (.ref CO) none H') /\
 (pB a b c d e->(∀x∈[a,b,c,d,e],xN x<=100)/\∀H',zX H H'->Q (.str (bG (Wr (listS (xN c) (xN d) (xN b) (xN a) (xN e+1).toNat)))) H')
theorem yC:qU ["words","many","late","found","cost","turns","bells"] ["words"] (zP Qz):=⟨rfl,rfl,rfl,by decide +kernel,rfl,by decide +kernel,by decide +kernel⟩
theorem Dz (D:Def K mg "cheapest_told" Qz ["words"]){zT:zm} (j6:FnE P w K mg base 3 "number_in" ["word"] (fc zT 60)) (yG:FnE P w K mg base 3 "message_in" ["word"] (fc zT 3000)) (Zk:FnE P w K mg base 4 "bells_in" ["word"] (Bq zT)) (Wx:Fn P w K mg base 40 "cheapest" ["many","late","turn_cost","bell_cost","most"] za5):FnE P w K mg base 42 "cheapest_told" ["words"] (zdm zT):=by
 refine D.fnE yC (fun vs H Q E h=>?_) (fun f cdv A outer s H vs Q E hr h=>?_)
 .obtain⟨p,w0,a,b,c,d,e,rfl,_⟩:=h;rfl
 .obtain⟨p,w0,a,b,c,d,e,rfl,hA,hl,q,qg⟩:=h;refine⟨_,(zF (jb (i:=1) yC.nd rfl (zN rfl) (vN yG (hr.mono (by decide)) (by rfl) jF (za (kZ j8 (pv 0) zH (fun _ _=>rfl)) zB)))
   (zF (jb (i:=2) yC.nd rfl (zN rfl) (vN j6 (hr.mono (by decide)) (by rfl) jF (za (kZ j8 (pv 0) zH (fun _ _=>rfl)) zB)))
   (zF (jb (i:=3) yC.nd rfl (zN rfl) (vJ Wx (hr.mono (by decide)) (by rfl) (za (pv 1) (za (pv 2) (za (vN j6 (hr.mono (by decide)) (by rfl) jF (za (kZ j8 (pv 0) zH (fun _ _=>rfl)) zB)) (za (vN j6 (hr.mono (by decide)) (by rfl) jF (za (kZ j8 (pv 0) zH (fun _ _=>rfl)) zB)) (za (vN Zk (hr.mono (by decide)) (by rfl) jF (za (kZ j8 (pv 0) zH (fun _ _=>rfl)) zB)) zB)))))))
   (zF (wO (jh zaQ (pv 3) az (qZ _))
    (zR (ju jG))
    j4)
   (zF (jb (i:=4) yC.nd rfl (zN rfl) (kZ uf (pv 3) zH (fun _ _=>rfl)))
   (zF (jb (i:=5) yC.nd rfl (zN rfl) (kZ uf (pv 3) zH (fun _ _=>rfl)))
   (zF (jb (i:=6) yC.nd rfl (zN rfl) (kZ uf (pv 3) zH (fun _ _=>rfl)))
   (zR (ju (zpS (.cons (zaT (pv 4)) (.cons jG (.cons (zaT (pv 5)) (.cons jG (.cons (zaT (pv 6)) (.cons jG .nil)))))))))))))))),?_⟩
  have h6:∀x∈[a,b,c,d,e],x.length<=1000000:=fun x hx=>qd (hl x hx) (by decide);refine⟨_,rfl,p,_,1,_,rfl,rfl,SqL.of hA,rfl,a,rfl,h6 a (by simp),(fun _=>hl a (by simp)),fun g1 H1 s1=>?_,fun g1 H1 s1=>q (fun z=>g1 z.1) H1 s1⟩;have hA1:=s1 _ _ hA;refine⟨_,rfl,p,_,2,_,rfl,rfl,SqL.of hA1,rfl,b,rfl,h6 b (by simp),(fun _=>hl b (by simp)),fun g2 H2 s2=>?_,fun g2 H2 s2=>q (fun z=>g2 z.2.1) H2 (s1.trans s2)⟩;have s02:=s1.trans s2;have hA2:=s02 _ _ hA;refine⟨_,rfl,_,rfl,_,rfl,p,_,3,_,rfl,rfl,SqL.of hA2,rfl,c,rfl,h6 c (by simp),(fun _=>hl c (by simp)),fun g3 H3 s3=>?_,fun g3 H3 s3=>q (fun z=>g3 z.2.2.1) H3 (s02.trans s3)⟩;have s03:=s02.trans s3;have hA3:=s03 _ _ hA;refine⟨_,rfl,p,_,4,_,rfl,rfl,SqL.of hA3,rfl,d,rfl,h6 d (by simp),(fun _=>hl d (by simp)),fun g4 H4 s4=>?_,fun g4 H4 s4=>q (fun z=>g4 z.2.2.2.1) H4 (s03.trans s4)⟩;have s04:=s03.trans s4;have hA4:=s04 _ _ hA;refine⟨_,rfl,p,_,5,_,rfl,rfl,SqL.of hA4,rfl,e,rfl,h6 e (by simp),fun g5 H5 s5=>?_,fun g5 H5 s5=>q (fun z=>g5 z.2.2.2.2) H5 (s04.trans s5)⟩;obtain⟨sm,qg⟩:=qg ⟨g1,g2,g3,g4,g5⟩;have n1:=Jw a;have n2:=Jw b;have n3:=Jw c;have n4:=Jw d;have n5:=Jw e;have m1:=sm a (by simp);have m2:=sm b (by simp);have m3:=sm c (by simp);have m4:=sm d (by simp);have m5:=sm e (by simp);refine⟨_,_,_,_,_,rfl,n5,g5.2,n2,n1,zU (zan n2 m2) (by decide),zU (zan n1 m1) (by decide),zU (zan n3 m3) (by decide),zU (zan n4 m4) (by decide),fun v H6 s6 B=>?_⟩;have q:=qg H6 ((s04.trans s5).trans s6);generalize hx:Wr (listS (xN c) (xN d) (xN b) (xN a) (xN e+1).toNat)=ox at B q;cases B with
  | non=>exact⟨_,rfl,rfl,_,rfl,ifT rfl q⟩
  | tup p x hp=>
   obtain⟨⟨c0,c1⟩,⟨d0,d1⟩,e0,e1⟩:=Lr m5 n2 m2 n3 m3 n4 m4 n1 m1 hx;have k1:=fZ c0 c1;have k2:=fZ d0 d1;have k3:=fZ e0 e1;have f1:(" for ":Str).length=5:=by decide +kernel
   have f2:(" turns and ":Str).length=11:=by decide +kernel
   have f3:(" bells":Str).length=6:=by decide +kernel
   refine⟨_,rfl,rfl,_,rfl,ifF (fun z=>nomatch z) ⟨_,rfl,_,_,_,_,rfl,rfl,SqT.of hp,rfl,_,rfl,_,_,_,_,rfl,rfl,SqT.of hp,rfl,_,rfl,_,_,_,_,rfl,rfl,SqT.of hp,rfl,?_⟩⟩;refine⟨_,rfl,x.1,rfl,lg c0 (l7 c1),txt x.1,rfl,?_," for ",rfl,?_,_,rfl,x.2.1,rfl,lg d0 (l7 d1),txt x.2.1,rfl,?_," turns and ",rfl,?_,_,rfl,x.2.2,rfl,lg e0 (l7 e1),txt x.2.2,rfl,?_," bells",rfl,?_,?_,?_⟩;rotate_right
   .rw[empty_app];exact q
   all_goals
    simp only[empty_app,Vg,qC];omega
def tW (w0:Str) (ws:List Str):Prop:=(w0="short"/\∃a b c,ws=[a,b,c]/\Jk a/\Num 60 b/\Num 3000 c)∨(w0="best"/\∃a b c,ws=[a,b,c]/\Num 60 a/\Num 60 b/\Jk c)∨(w0="cheap"/\∃a b c d e,ws=[a,b,c,d,e]/\pB a b c d e)
def zdn (CO:zm):Sp:=fun vs H Q E=>∃(p:zm) (w0:Str) (ws:List Str),vs=[.ref p]/\H p=some (.lst ((w0::ws).map V.str))/\(∀x∈ws,x.length<=640)/\(¬tW w0 ws->∀H',zX H H'->E (.ref CO) none H')/\(tW w0 ws->(∀x∈ws,xN x<=100) /\
 (w0="short"->∀a b c,ws=[a,b,c]->(xN a=0->1<xN c->∀H',zX H H'->Q (.str "none") H')/\((xN a=0->xN c<=1)->∀t H',zX H H'->ZL (xN a) (xN b) (xN c) t->Q (.str (txt t)) H')) /\
 (w0="best"->∀a b c,ws=[a,b,c]->∀t H',zX H H'->Di (xN a) (xN b) (xN c) t->Q (.str (txt t)) H') /\
 (w0="cheap"->∀a b c d e,ws=[a,b,c,d,e]->∀H',zX H H'->Q (.str (bG (Wr (listS (xN c) (xN d) (xN b) (xN a) (xN e+1).toNat)))) H'))
theorem ws3 {α:Type}{l:List α} (h:l.length=3):∃a b c,l=[a,b,c]:=by
 match l,h with
 | [a,b,c],_=>exact⟨a,b,c,rfl⟩
theorem ws5 {α:Type}{l:List α} (h:l.length=5):∃a b c d e,l=[a,b,c,d,e]:=by
 match l,h with
 | [a,b,c,d,e],_=>exact⟨a,b,c,d,e,rfl⟩
theorem nJ {a b c:Str}:tW "short" [a,b,c]↔Jk a/\Num 60 b/\Num 3000 c:=by
 constructor
 .rintro (⟨_,a',b',c',e,h⟩ | ⟨e,_⟩ | ⟨e,_⟩)
  .cases e;exact h
  .exact absurd e (by decide +kernel)
  .exact absurd e (by decide +kernel)
 .exact fun h=>.inl ⟨rfl,a,b,c,rfl,h⟩
theorem Ba {a b c:Str}:tW "best" [a,b,c]↔Num 60 a/\Num 60 b/\Jk c:=by
 constructor
 .rintro (⟨e,_⟩ | ⟨_,a',b',c',e,h⟩ | ⟨e,_⟩)
  .exact absurd e (by decide +kernel)
  .cases e;exact h
  .exact absurd e (by decide +kernel)
 .exact fun h=>.inr (.inl ⟨rfl,a,b,c,rfl,h⟩)
theorem HX {a b c d e:Str}:tW "cheap" [a,b,c,d,e]↔pB a b c d e:=by
 constructor
 .rintro (⟨e,_⟩ | ⟨e,_⟩ | ⟨_,a',b',c',d',e',e,h⟩)
  .exact absurd e (by decide +kernel)
  .exact absurd e (by decide +kernel)
  .cases e;exact h
 .exact fun h=>.inr (.inr ⟨rfl,a,b,c,d,e,rfl,h⟩)
theorem Lk:qU ["words"] ["words"] (zP JX):=⟨rfl,rfl,rfl,by decide +kernel,rfl,by decide +kernel,by decide +kernel⟩
theorem La (D:Def K mg "choice_told" JX ["words"]) (T:Txt K mg){zT:zm} (vg:mg "NoOrder"=some (.ref zT)) (vV:qD K zT bmV "ValueError.__new__"=true) (j6:FnE P w K mg base 3 "number_in" ["word"] (fc zT 60)) (yG:FnE P w K mg base 3 "message_in" ["word"] (fc zT 3000)) (Zk:FnE P w K mg base 4 "bells_in" ["word"] (Bq zT)) (Zm:Fn P w K mg base 1 "number_told" ["number"] pP) (wg:Fn P w K mg base 39 "shortest_frame" ["bells","late","many"] G9) (Xj:Fn P w K mg base 3 "best_bells" ["turns","late","most"] zfR) (Ww:FnE P w K mg base 42 "cheapest_told" ["words"] (zdm zT)):FnE P w K mg base 45 "choice_told" ["words"] (zdn zT):=by
 refine D.fnE Lk (fun vs H Q E h=>?_) (fun f cdv A outer s H vs Q E hr h=>?_)
 .obtain⟨p,w0,ws,rfl,_⟩:=h;rfl
 .obtain⟨p,w0,ws,rfl,hA,hl,q,qg⟩:=h;refine⟨_,(zF (wO (pw_and (jh nQ (kZ j8 (pv 0) zH (fun _ _=>rfl)) jG (qZ _)) (pw_and1 (jh Zy (jz vK (by rfl) T.z_len Jv (za (pv 0) zB)) zH (qZ _)))).pt
    (zR (ju (vJ Zm (hr.mono (by decide)) (by rfl) (za (vJ wg (hr.mono (by decide)) (by rfl) (za (vN Zk (hr.mono (by decide)) (by rfl) jF (za (kZ j8 (pv 0) zH (fun _ _=>rfl)) zB)) (za (vN j6 (hr.mono (by decide)) (by rfl) jF (za (kZ j8 (pv 0) zH (fun _ _=>rfl)) zB)) (za (vN yG (hr.mono (by decide)) (by rfl) jF (za (kZ j8 (pv 0) zH (fun _ _=>rfl)) zB)) zB)))) zB))))
    j4)
   (zF (wO (pw_and (jh nQ (kZ j8 (pv 0) zH (fun _ _=>rfl)) jG (qZ _)) (pw_and1 (jh Zy (jz vK (by rfl) T.z_len Jv (za (pv 0) zB)) zH (qZ _)))).pt
    (zR (ju (vJ Zm (hr.mono (by decide)) (by rfl) (za (vJ Xj (hr.mono (by decide)) (by rfl) (za (vN j6 (hr.mono (by decide)) (by rfl) jF (za (kZ j8 (pv 0) zH (fun _ _=>rfl)) zB)) (za (vN j6 (hr.mono (by decide)) (by rfl) jF (za (kZ j8 (pv 0) zH (fun _ _=>rfl)) zB)) (za (vN Zk (hr.mono (by decide)) (by rfl) jF (za (kZ j8 (pv 0) zH (fun _ _=>rfl)) zB)) zB)))) zB))))
    j4)
   (zF (wO (pw_and (jh nQ (kZ j8 (pv 0) zH (fun _ _=>rfl)) jG (qZ _)) (pw_and1 (jh Zy (jz vK (by rfl) T.z_len Jv (za (pv 0) zB)) zH (qZ _)))).pt
    (zR (ju (vN Ww (hr.mono (by decide)) (by rfl) jF (za (pv 0) zB))))
    j4)
   (zR (yc qu vV (by rfl) vg (za jG zB)))))),?_⟩
  have h6:∀x∈ws,x.length<=1000000:=fun x hx=>qd (hl x hx) (by decide);have h0:atI ((w0::ws).map V.str) ((0:Nat):Int)=some (V.str w0):=Yc rfl;have el:(((w0::ws).map V.str).length:Int)=(ws.length:Int)+1:=by rw[zf,qx];omega
  refine Ga (fun σ' H'=>σ'=[some (.ref p)]/\H'=H/\¬(w0="short"/\ws.length=3)) ?_ (fun N hN=>?_);rotate_left
  .refine⟨_,rfl,p,_,0,_,rfl,rfl,SqL.of hA,h0,rfl,_,rfl,ifD (fun z=>⟨_,rfl,_,_,rfl,.inl (SqL.of hA),_,_,rfl,rfl,_,rfl,?_⟩) (fun z=>Vu (hN _ _ ⟨rfl,rfl,fun y=>z (by rw[y.1])⟩))⟩;rw[el];refine ifD (fun z2=>?_) (fun z2=>hN _ _ ⟨rfl,rfl,fun y=>by have:=y.2;omega⟩);obtain⟨a,b,c,rfl⟩:=ws3 (l:=ws) (by omega);obtain rfl:=V.str.inj z;refine⟨_,rfl,p,_,1,_,rfl,rfl,SqL.of hA,rfl,a,rfl,h6 a (by simp),fun g1 H1 s1=>?_,fun g1 H1 s1=>q (fun z=>g1 (nJ.mp z).1) H1 s1⟩;have hA1:=s1 _ _ hA;refine⟨_,rfl,p,_,2,_,rfl,rfl,SqL.of hA1,rfl,b,rfl,h6 b (by simp),Iu,fun g2 H2 s2=>?_,fun g2 H2 s2=>q (fun z=>g2 (nJ.mp z).2.1) H2 (s1.trans s2)⟩;have s02:=s1.trans s2;have hA2:=s02 _ _ hA;refine⟨_,rfl,p,_,3,_,rfl,rfl,SqL.of hA2,rfl,c,rfl,h6 c (by simp),(fun _=>hl c (by simp)),fun g3 H3 s3=>?_,fun g3 H3 s3=>q (fun z=>g3 (nJ.mp z).2.2) H3 (s02.trans s3)⟩;obtain⟨sm,qs,_⟩:=qg (nJ.mpr ⟨g1,g2,g3⟩);obtain⟨qn,qt⟩:=qs rfl a b c rfl;have s03:=s02.trans s3;have n1:=Jw a;have n2:=Jw b;have n3:=Jw c;have m1:=sm a (by simp);have m2:=sm b (by simp);have m3:=sm c (by simp);refine⟨_,_,_,rfl,n1,g1.2,n2,n3,zU (zan n2 m2) (by decide),zU (zan n3 m3) (by decide),fun z1 z2=>⟨_,rfl,.inl ⟨rfl,qn z1 z2 H3 s03⟩⟩,fun z t ht _=>?_⟩;have hb:=zdl n1 n2 n3 m1 m2 m3 z ht;exact⟨_,rfl,.inr ⟨t,rfl,hb.1,l7 hb.2,qt z t H3 s03 ht⟩⟩
  rintro σ' H' ⟨rfl,rfl,n1⟩;refine Ga (fun σ' H2=>σ'=[some (.ref p)]/\H2=H'/\¬(w0="best"/\ws.length=3)) ?_ (fun N hN=>?_);rotate_left
  .refine⟨_,rfl,p,_,0,_,rfl,rfl,SqL.of hA,h0,rfl,_,rfl,ifD (fun z=>⟨_,rfl,_,_,rfl,.inl (SqL.of hA),_,_,rfl,rfl,_,rfl,?_⟩) (fun z=>Vu (hN _ _ ⟨rfl,rfl,fun y=>z (by rw[y.1])⟩))⟩;rw[el];refine ifD (fun z2=>?_) (fun z2=>hN _ _ ⟨rfl,rfl,fun y=>by have:=y.2;omega⟩);obtain⟨a,b,c,rfl⟩:=ws3 (l:=ws) (by omega);obtain rfl:=V.str.inj z;refine⟨_,rfl,p,_,1,_,rfl,rfl,SqL.of hA,rfl,a,rfl,h6 a (by simp),Iu,fun g1 H1 s1=>?_,fun g1 H1 s1=>q (fun z=>g1 (Ba.mp z).1) H1 s1⟩;have hA1:=s1 _ _ hA;refine⟨_,rfl,p,_,2,_,rfl,rfl,SqL.of hA1,rfl,b,rfl,h6 b (by simp),Iu,fun g2 H2 s2=>?_,fun g2 H2 s2=>q (fun z=>g2 (Ba.mp z).2.1) H2 (s1.trans s2)⟩;have s02:=s1.trans s2;have hA2:=s02 _ _ hA;refine⟨_,rfl,p,_,3,_,rfl,rfl,SqL.of hA2,rfl,c,rfl,h6 c (by simp),fun g3 H3 s3=>?_,fun g3 H3 s3=>q (fun z=>g3 (Ba.mp z).2.2) H3 (s02.trans s3)⟩;obtain⟨sm,_,qb,_⟩:=qg (Ba.mpr ⟨g1,g2,g3⟩);have n1:=Jw a;have n2:=Jw b;have n3:=Jw c;have m3:=sm c (by simp);refine⟨_,_,_,rfl,n2,n3,by clear z2 el n1 n2;omega,zU (zan n2 (sm b (by simp))) (by decide),zU (zan n1 (sm a (by simp))) (by decide),fun x hx=>?_⟩;have x1:=hx.1;have x2:=hx.2.1;exact⟨_,rfl,.inr ⟨x,rfl,x1,l7 (by clear z2 el n1 n2;omega),qb rfl a b c rfl x H3 (s02.trans s3) hx⟩⟩
  rintro σ' H2 ⟨rfl,rfl,n2⟩;refine Ga (fun σ' H3=>σ'=[some (.ref p)]/\H3=H2/\¬(w0="cheap"/\ws.length=5)) ?_ (fun N hN=>?_);rotate_left
  .refine⟨_,rfl,p,_,0,_,rfl,rfl,SqL.of hA,h0,rfl,_,rfl,ifD (fun z=>⟨_,rfl,_,_,rfl,.inl (SqL.of hA),_,_,rfl,rfl,_,rfl,?_⟩) (fun z=>Vu (hN _ _ ⟨rfl,rfl,fun y=>z (by rw[y.1])⟩))⟩;rw[el];refine ifD (fun z2=>?_) (fun z2=>hN _ _ ⟨rfl,rfl,fun y=>by have:=y.2;omega⟩);obtain⟨a,b,c,d,e,rfl⟩:=ws5 (l:=ws) (by omega);obtain rfl:=V.str.inj z;refine⟨_,rfl,p,_,a,b,c,d,e,rfl,hA,hl,fun g=>q (fun z=>g (HX.mp z)),fun g=>?_⟩;obtain⟨sm,_,_,qc⟩:=qg (HX.mpr g);exact⟨sm,qc rfl a b c d e rfl⟩
  rintro σ' H3 ⟨rfl,rfl,n3⟩;refine⟨(by decide),q (fun z=>?_) H3 (zX.refl _)⟩;rcases z with ⟨e,a,b,c,rfl,_⟩ | ⟨e,a,b,c,rfl,_⟩ | ⟨e,a,b,c,d,f,rfl,_⟩
  .exact n1 ⟨e,rfl⟩
  .exact n2 ⟨e,rfl⟩
  .exact n3 ⟨e,rfl⟩
def zrD (CD CO:zm) (KP RG LS SN CT:Sp):Sp:=fun vs H Q E=>∃(x dx d:zm) (o w0:Str) (ws:List Str),vs=[.ref x,.str o]/\H x=some (.ins CD dx (fr1 d))/\o.length+2<=sizeLine/\Txt.split o " "=w0::ws /\
 (w0="frame"->ws.length=4->∀a H',zX H H'->H' a=some (.lst ((w0::ws).map V.str))->KP [.ref x,.ref a] H' Q (fun C _ H2=>E C none H2)) /\
 (w0="write"∨w0="key"->ws.length=2->∀a H',zX H H'->H' a=some (.lst ((w0::ws).map V.str))->RG [.ref x,.ref a] H' Q (fun C _ H2=>E C none H2)) /\
 (w0="read"∨w0="unkey"∨w0="hear"->1<=ws.length->∀a H',zX H H'->H' a=some (.lst ((w0::ws).map V.str))->LS [.ref x,.ref a] H' Q (fun C _ H2=>E C none H2)) /\
 (w0="note"->2<=ws.length->(Txt.splitMax o " " 2).length<=sizeLine/\∀a H',zX H H'->H' a=some (.lst ((Txt.splitMax o " " 2).map V.str))->SN [.ref x,.ref a] H' Q (fun C _ H2=>E C none H2)) /\
 (¬(w0="frame"/\ws.length=4)->¬((w0="write"∨w0="key")/\ws.length=2)->¬((w0="read"∨w0="unkey"∨w0="hear")/\1<=ws.length)->¬(w0="note"/\2<=ws.length)->∀a H',zX H H'->H' a=some (.lst ((w0::ws).map V.str))->CT [.ref a] H' Q (fun C _ H2=>E C none H2))
theorem zff:((" ":Str).length == 0)=false:=by decide +kernel
theorem in2 {x a b:Str}:inV (.str x) [.str a,.str b]=decide (x=a∨x=b):=by
 rw[Jc];simp only[inV,Jm,zbn,eqV,rW,Vm,beq_iff_eq,decide_eq_true_eq];exact⟨fun h=>h.imp bf bf,fun h=>h.imp bf bf⟩
theorem in3 {x a b c:Str}:inV (.str x) [.str a,.str b,.str c]=decide (x=a∨x=b∨x=c):=by
 rw[Jc];simp only[inV,Jm,zbn,eqV,rW,Vm,beq_iff_eq,decide_eq_true_eq];exact⟨fun h=>h.imp bf fun h=>h.imp bf bf,fun h=>h.imp bf fun h=>h.imp bf bf⟩
theorem cW (K:zg):jk K (.type "str") (.type "str")=some true:=by with_unfolding_all rfl
theorem Bl:qU ["self","order","words"] ["self","order"] (zP QV):=⟨rfl,rfl,rfl,by decide +kernel,rfl,by decide +kernel,by decide +kernel⟩
def zaf (K:zg) (H:Hp) (v:V):Prop:=∃T:String,aa K H v (.type T)/\jk K (.type T) (.type "str")=some false
def zhE (K:zg) (CD CO:zm) (KP RG LS SN CT:Sp):Sp:=fun vs H Q E=>zrD CD CO KP RG LS SN CT vs H Q E∨∃(x:zm) (v:V),vs=[.ref x,v]/\zaf K H v/\E (.ref CO) none H
theorem zox {f:zm}{fd:jQ} (F:Ai K "told" "Desk.told" QV f fd) (T:Txt K mg) (hT:DkT K CD CF){zT:zm}{KP RG LS SN CT:Sp} (vg:mg "NoOrder"=some (.ref zT)) (vV:qD K zT bmV "ValueError.__new__"=true) (zac:MtE P w K mg base 45 CD "keep" ["self","words"] KP) (zad:MtE P w K mg base 45 CD "ring" ["self","words"] RG) (Dj:MtE P w K mg base 45 CD "listen" ["self","words"] LS) (iB:MtE P w K mg base 45 CD "send_note" ["self","words"] SN) (bC:FnE P w K mg base 45 "choice_told" ["words"] CT):Kc P w K mg base (CXE P w) 46 f fd ["self","order"] (zhE K CD zT KP RG LS SN CT):=by
 refine F.okE Bl (fun vs H Q E h=>?_) (fun cdv A outer s H vs Q E hr h=>?_)
 .rcases h with ⟨x,dx,d,o,w0,ws,rfl,_⟩ | ⟨x,v,rfl,_⟩ <;> rfl
 .refine⟨_,(zF (wO (nZ (Jq (jz VV (by rfl) T.z_isinstance kh (za (pv 1) (za (iI (v:=.ty "str") (by rfl) T.z_str Q7 rfl) zB)))))
    (zR (yc qu vV (by rfl) vg (za jG zB)))
    j4)
   (zF (jb (i:=2) Bl.nd rfl (zN rfl) (lO jm vC Wj zcT (pv 1) (za jG zB)))
   (zF (wO (pw_and (jh nQ (kZ j8 (pv 2) zH (fun _ _=>rfl)) jG (qZ _)) (pw_and1 (jh Zy (jz vK (by rfl) T.z_len Jv (za (pv 2) zB)) zH (qZ _)))).pt
    (zR (ju (nU (pv 0) zac (hr.mono (by decide)) jF (za (pv 2) zB))))
    j4)
   (zF (wO (pw_and (jh Ud (kZ j8 (pv 2) zH (fun _ _=>rfl)) (nW (za jG (za jG zB))) (by with_unfolding_all rfl)) (pw_and1 (jh Zy (jz vK (by rfl) T.z_len Jv (za (pv 2) zB)) zH (qZ _)))).pt
    (zR (ju (nU (pv 0) zad (hr.mono (by decide)) jF (za (pv 2) zB))))
    j4)
   (zF (wO (pw_and (jh Ud (kZ j8 (pv 2) zH (fun _ _=>rfl)) (nW (za jG (za jG (za jG zB)))) (by with_unfolding_all rfl)) (pw_and1 (jh zaP (jz vK (by rfl) T.z_len Jv (za (pv 2) zB)) zH (qZ _)))).pt
    (zR (ju (nU (pv 0) Dj (hr.mono (by decide)) jF (za (pv 2) zB))))
    j4)
   (zF (wO (pw_and (jh nQ (kZ j8 (pv 2) zH (fun _ _=>rfl)) jG (qZ _)) (pw_and1 (jh zaP (jz vK (by rfl) T.z_len Jv (za (pv 2) zB)) zH (qZ _)))).pt
    (zR (ju (nU (pv 0) iB (hr.mono (by decide)) jF (za (lO jm vC Wj zcU (pv 1) (za jG (za zH zB))) zB))))
    j4)
   (zR (ju (vN bC (hr.mono (by decide)) (by rfl) jF (za (pv 2) zB)))))))))),?_⟩
  rcases h with h | ⟨x,v,rfl,⟨TT,ty,kt⟩,q⟩;rotate_left
  .exact⟨_,rfl,_,_,_,false,rfl,ty,kt,_,rfl,Ib ⟨(by decide),q⟩⟩
  obtain⟨x,dx,d,o,w0,ws,rfl,hx,ol,es,q1,q2,q3,q4,q5⟩:=h;refine⟨_,rfl,_,_,_,true,rfl,aa.str _,cW K,_,rfl,Vu ?_⟩;refine⟨_,rfl,rfl,o," ",rfl,rfl,zff,ol,fun a ha=>?_⟩;rw[es];have sA:zX H (upd H a (.lst ((w0::ws).map V.str))):=zX.new ha;have hA:(upd H a (.lst ((w0::ws).map V.str))) a=some (.lst ((w0::ws).map V.str)):=zL;generalize upd H a (.lst ((w0::ws).map V.str))=H1 at sA hA ⊢;have h0:atI ((w0::ws).map V.str) ((0:Nat):Int)=some (V.str w0):=Yc rfl;have hx1:=sA _ _ hx;have el:(((w0::ws).map V.str).length:Int)=(ws.length:Int)+1:=by rw[zf,qx];omega
  dsimp only[rP];refine Ga (fun σ' H'=>σ'=[some (.ref x),some (.str o),some (.ref a)]/\H'=H1/\¬(w0="frame"/\ws.length=4)) ?_ (fun N hN=>?_);rotate_left
  .refine⟨_,rfl,a,_,0,_,rfl,rfl,SqL.of hA,h0,rfl,_,rfl,ifD (fun z=>⟨_,rfl,_,_,rfl,.inl (SqL.of hA),_,_,rfl,rfl,_,rfl,?_⟩) (fun z=>Vu (hN _ _ ⟨rfl,rfl,fun y=>z (by rw[y.1])⟩))⟩;rw[el];refine ifD (fun z2=>⟨_,rfl,x,dx,_,rfl,hx1,JK (by decide +kernel),_,rfl,?_⟩) (fun z2=>hN _ _ ⟨rfl,rfl,fun y=>by have:=y.2;omega⟩);exact q1 (V.str.inj z) (by omega) a H1 sA hA
  rintro σ' H' ⟨rfl,rfl,n1⟩;refine Ga (fun σ' H2=>σ'=[some (.ref x),some (.str o),some (.ref a)]/\zX H' H2/\¬((w0="write"∨w0="key")/\ws.length=2)) ?_ (fun N hN=>?_);rotate_left
  .refine⟨_,rfl,a,_,0,_,rfl,rfl,SqL.of hA,h0,(by show 2<=sizeLine;decide),fun tp htp=>⟨tp,_,rfl,.inr (SqT.of zL),rfl,rfl,?_⟩⟩;have sT:zX H' (upd H' tp (.tup [V.str "write",V.str "key"])):=zX.new htp;generalize upd H' tp (.tup [V.str "write",V.str "key"])=H3 at sT ⊢;refine⟨inV (.str w0) [V.str "write",V.str "key"],rfl,?_⟩;rw[in2];refine ifD (fun z=>⟨_,rfl,_,_,rfl,.inl (SqL.of (sT _ _ hA)),_,_,rfl,rfl,_,rfl,?_⟩) (fun z=>Vu (hN _ _ ⟨rfl,sT,fun y=>z y.1⟩));rw[el];refine ifD (fun z2=>⟨_,rfl,x,dx,_,rfl,sT _ _ hx1,JK (by decide +kernel),_,rfl,?_⟩) (fun z2=>hN _ _ ⟨rfl,sT,fun y=>by have:=y.2;omega⟩);exact q2 z (by omega) a H3 (sA.trans sT) (sT _ _ hA)
  rintro σ' H2 ⟨rfl,s2,n2⟩;have sA2:=sA.trans s2;have hA2:=s2 _ _ hA;have hx2:=s2 _ _ hx1;refine Ga (fun σ' H3=>σ'=[some (.ref x),some (.str o),some (.ref a)]/\zX H2 H3/\¬((w0="read"∨w0="unkey"∨w0="hear")/\1<=ws.length)) ?_ (fun N hN=>?_);rotate_left
  .refine⟨_,rfl,a,_,0,_,rfl,rfl,SqL.of hA2,h0,(by show 3<=sizeLine;decide),fun tp htp=>⟨tp,_,rfl,.inr (SqT.of zL),rfl,rfl,?_⟩⟩;have sT:zX H2 (upd H2 tp (.tup [V.str "read",V.str "unkey",V.str "hear"])):=zX.new htp;generalize upd H2 tp (.tup [V.str "read",V.str "unkey",V.str "hear"])=H3 at sT ⊢;refine⟨inV (.str w0) [V.str "read",V.str "unkey",V.str "hear"],rfl,?_⟩;rw[in3];refine ifD (fun z=>⟨_,rfl,_,_,rfl,.inl (SqL.of (sT _ _ hA2)),_,_,rfl,rfl,_,rfl,?_⟩) (fun z=>Vu (hN _ _ ⟨rfl,sT,fun y=>z y.1⟩));rw[el];refine ifD (fun z2=>⟨_,rfl,x,dx,_,rfl,sT _ _ hx2,JK (by decide +kernel),_,rfl,?_⟩) (fun z2=>hN _ _ ⟨rfl,sT,fun y=>by have:=y.2;omega⟩);exact q3 z (by omega) a H3 (sA2.trans sT) (sT _ _ hA2)
  rintro σ' H3 ⟨rfl,s3,n3⟩;have sA3:=sA2.trans s3;have hA3:=s3 _ _ hA2;have hx3:=s3 _ _ hx2;refine Ga (fun σ' H4=>σ'=[some (.ref x),some (.str o),some (.ref a)]/\H4=H3/\¬(w0="note"/\2<=ws.length)) ?_ (fun N hN=>?_);rotate_left
  .refine⟨_,rfl,a,_,0,_,rfl,rfl,SqL.of hA3,h0,rfl,_,rfl,ifD (fun z=>⟨_,rfl,_,_,rfl,.inl (SqL.of hA3),_,_,rfl,rfl,_,rfl,?_⟩) (fun z=>Vu (hN _ _ ⟨rfl,rfl,fun y=>z (by rw[y.1])⟩))⟩;rw[el];refine ifD (fun z2=>⟨_,rfl,x,dx,_,rfl,hx3,JK (by decide +kernel),?_⟩) (fun z2=>hN _ _ ⟨rfl,rfl,fun y=>by have:=y.2;omega⟩);obtain⟨zl,q6⟩:=q4 (V.str.inj z) (by omega);exact⟨_,rfl,rfl,o," ",2,rfl,rfl,rfl,zff,ol,zl,fun b hb=>q6 b _ (sA3.trans (zX.new hb)) zL⟩
  rintro σ' H4 ⟨rfl,rfl,n4⟩;exact⟨_,rfl,q5 n1 n2 n3 n4 a H4 sA3 hA3⟩
end
section
open PySem.Spec PyProof.Rows
variable {X:Cx}{zj:List (zm×Obj)}{σ:L2.St}{H:Hp}{s:zp}{a:zm}{kvs:List (Key×V)}{k:Key}{u r:zc}{v:V}{A:jg}{E:zc->zp->Prop}
theorem Uh (h:(∀p∈kvs,∃i,p.1=vW i)){j:Int}:∀p∈putK kvs (vW j) v,∃i,p.1=vW i:=fun p hp=>by
 unfold putK at hp;split at hp
 .obtain⟨q,hq,rfl⟩:=List.mem_map.mp hp;split
  .exact h q hq
  .exact h q hq
 .rcases List.mem_append.mp hp with z | z
  .exact h p z
  .rw[List.mem_singleton.mp z];exact⟨j,rfl⟩
theorem zqS {Q:zc->zp->Prop} (I:L2.Inv X zj σ H s) (e:H a=some (.dK kvs)) (ry:RelV (kV k) u) (rv:RelV v r) (hl:kvs.length<sizeLine) (hi:(∀p∈kvs,∃i,p.1=vW i)) (hj:∃i,k=vW i)
  (h1:∀v0 w' s',Xa kvs k=some v0->L2.Inv X zj σ H s'->RelV v0 w'->Q w' s') (h2:∀s',Xa kvs k=none->L2.Inv X zj σ (upd H a (.dK (putK kvs k v))) s'->Q r s') :
  wpAny (model X.prog X.w) A (call (.builtin "dict.setdefault") [.ref a,u,r]) Q E s:=by
 obtain⟨z,hd,vs,rel,dd⟩:=zpM I.hok e;have hz:vs.length<=sizeLine:=by rw[<- rel.length];exact z
 have hl2:(putK kvs k v).length<=sizeLine:=by have:=nO kvs k v;omega
 refine Cy aD dd.typeIs PySem.F.entry_dict_setdefault (PySem.F.args_dict_setdefault_3 _ _ _) (kt_meets_setdefault (xF X.prog X.w) a (T9 ry) hd r) ⟨vs,dd,hz,fun w' hw=>?_,fun hn h' dd' hs=>?_⟩
 .have rr:=rel.val k;rw[hw] at rr;cases e2:Xa kvs k with
  | none=>rw[e2] at rr;exact absurd rr (by intro z;cases z)
  | some v0=>
   rw[e2] at rr;exact h1 v0 w' _ e2 (I.tok _) rr
 .have hv:Xa kvs k=none:=by
   have rr:=rel.val k;rw[hn] at rr;cases e2:Xa kvs k with
   | none=>rfl
   | some v0=>rw[e2] at rr;exact absurd rr (by intro z;cases z)
  have he:∃q,h'.get? a=some q:=let ⟨q,_,_,hq,_⟩:=dd';⟨q,hq⟩;refine h2 _ hv (zaA I (by rw[e];exact ZJ) hs he (zkZ hl2 hd (rel.put k rv) dd' (NZK.ints dd' fun p hp=>?_)));obtain⟨j,rfl⟩:=hj;have hm:p.1∈(putK kvs (vW j) v).map (·.1):=by rw[(rel.put (vW j) rv).keys];exact List.mem_map.mpr ⟨p,hp,rfl⟩
  obtain⟨p',hp',e'⟩:=List.mem_map.mp hm;rw[<- e'];exact Uh hi p' hp'
end
section
open PySem.Spec PyProof.Rows
variable {X:Cx}{o e f:jD}{WF Q8:Pos}{td ty tx:TE}
def zrK (td ty tx:TE):TE:=fun σ H Q=>td σ H fun x H1=>∃a,x=.ref a/\IsD H1 a/\ty σ H1 fun y H2=>tx σ H2 fun z H3=>∃kvs k,H3 a=some (.dK kvs)/\y=kV k/\kvs.length<sizeLine/\(∀p∈kvs,∃i,p.1=vW i)/\(∃i,k=vW i) /\
 (∀v,Xa kvs k=some v->Q v H3)/\(Xa kvs k=none->Q z (upd H3 a (.dK (putK kvs k z))))
theorem zlL (ho:PE X o td) (he:PE X e ty) (hf:PE X f tx) (m:M2 X o "setdefault" WF e f Q8):PE X (.Call (.Attribute o "setdefault" WF) [e,f] [] Q8) (zrK td ty tx):=by
 intro zj s σ H Q I h;refine CP m.base m.few m.line gA aD PySem.F.type_dict_setdefault (thn (ho zj s σ H _ I h) fun u s1 ⟨x,H1,I1,rx,a,ex,d,q1⟩=>?_);subst ex;obtain rfl:u=jx a:=rx;obtain⟨t1,t2,_⟩:=zlg I1 d;refine⟨t1,t2,?_⟩;rw[m.trees];refine Zi rfl (Z4 (ZF (thn (he zj s1 σ H1 _ I1 q1) fun iv s2 ⟨y,H2,I2,ry,q2⟩=>
  ZF (thn (hf zj s2 σ H2 _ I2 q2) fun fv s3 ⟨z,H3,I3,rz,kvs,k,e3,ey,hl,hi,hj,c1,c2⟩=>K4 ?_))))
 subst ey;exact zqS I3 e3 ry rz hl hi hj (fun v0 w' s4 hv I4 rw'=>⟨v0,H3,I4,rw',c1 v0 hv⟩) (fun s4 hv I4=>⟨z,_,I4,rz,c2 hv⟩)
end
noncomputable def yt (L zy:Int):Int->List (List Int)->List Int
 | _,[]=>[]
 | k,bs::r=>(vf zy bs).map (fun x=>k*L+x)++yt L zy (k+1) r
theorem uC (L zy:Int) (bs:List Int):∀(bss:List (List Int)) (k:Int),yt L zy k (bss++[bs])=yt L zy k bss++(vf zy bs).map (fun x=>(k+(bss.length:Int))*L+x)
 | [],k=>by
  show (vf zy bs).map (fun x=>k*L+x)++[]=[]++(vf zy bs).map (fun x=>(k+((0:Nat):Int))*L+x);rw[jr,Je,show k+((0:Nat):Int)=k by omega]
 | b::r,k=>by
  show (vf zy b).map (fun x=>k*L+x)++yt L zy (k+1) (r++[bs])=(vf zy b).map (fun x=>k*L+x)++yt L zy (k+1) r++_;rw[uC L zy bs r (k+1),qQ,qx,show k+1+(r.length:Int)=k+((r.length+1:Nat):Int) by omega]
noncomputable def grp (L k:Int) (ms:List Int):List Int:=(ms.filter (fun t=>decide (t / L=k))).map (fun t=>t % L)
theorem JM (L k:Int) (a b:List Int):grp L k (a++b)=grp L k a++grp L k b:=by
 unfold grp;rw[List.filter_append,jw]
theorem bJ {L k t:Int} (h:t / L=k):grp L k [t]=[t % L]:=by
 unfold grp;rw[List.filter_cons_of_pos (by rw[decide_eq_true h]),Gu];rfl
theorem bK {L k t:Int} (h:¬t / L=k):grp L k [t]=[]:=by
 unfold grp;rw[List.filter_cons_of_neg (by rw[decide_eq_false h];decide),Gu];rfl
theorem zk9 {L k:Int}{a b:List Int} (h:a.Perm b):(grp L k a).Perm (grp L k b):=(h.filter _).map _
theorem zfq {L k:Int} (hL:0<L){a:List Int} (h:a.Pairwise (·<=·)):(grp L k a).Pairwise (·<=·):=by
 unfold grp;rw[List.pairwise_map];have h1:=h.filter (fun t=>decide (t / L=k));refine RW ?_ h1;intro x y hx hy hxy;have ex:=of_decide_eq_true (List.mem_filter.mp hx).2;have ey:=of_decide_eq_true (List.mem_filter.mp hy).2;have d1:=Jr x L;have d2:=Jr y L;rw[ex] at d1;rw[ey] at d2;clear hL ex ey;omega
theorem pJ {L k j:Int} (hL:0<L):∀(ys:List Int),(∀y∈ys,0<=y/\y<L)->grp L k (ys.map (fun x=>j*L+x))=if j=k then ys else []
 | [],_=>by split <;> rfl
 | y::ys,h=>by
  have h1:=h y (zJ ..);have ih:=pJ (k:=k) (j:=j) hL ys fun z hz=>h z (zG _ hz);have ed:(j*L+y) / L=j:=by
   rw[Ca,K7 _ _ (by omega),K8 h1.1 h1.2];omega
  have em:(j*L+y) % L=y:=by
   rw[Ca,Int.add_mul_emod_self_right,Int.emod_eq_of_lt h1.1 h1.2]
  rw[zY,show (j*L+y)::ys.map (fun x=>j*L+x)=[j*L+y]++ys.map (fun x=>j*L+x) from rfl,JM,ih];by_cases e:j=k
  .rw[bJ (by rw[ed,e]),em,if_pos e,if_pos e];rfl
  .rw[bK (by rw[ed];exact e),if_neg e,if_neg e];rfl
theorem zdv (a b:List Int):∀(ds:List Int),sums (a++b) ds=sums a (ds.take a.length)++sums b (ds.drop a.length):=by
 induction a with
 | nil=>intro ds;rfl
 | cons x a ih=>
  intro ds;cases ds with
  | nil=>
   unfold sums;simp
  | cons d ds=>
   have:=ih ds;unfold sums at this ⊢;simp only[Xu,lq,qx,List.take_succ_cons,aH,this]
theorem LK (c:Int):∀(a ds:List Int),sums (a.map (fun x=>c+x)) ds=(sums a ds).map (fun x=>c+x)
 | [],_=>rfl
 | x::a,[]=>rfl
 | x::a,d::ds=>by
  have:=LK c a ds;unfold sums at this ⊢;simp only[zY,lq,this,rY]
theorem zcH {L zy:Int} (hL:0<L) (l0:0<=zy):∀(bss:List (List Int)) (j:Int) (ds:List Int),(∀bs∈bss,∀x∈vf zy bs,0<=x/\x+zy<L)->ds.length=(yt L zy j bss).length->(∀d∈ds,0<=d/\d<=zy) ->
  (∀k:Int,k<j->grp L k (sums (yt L zy j bss) ds)=[])/\∀(i:Nat),(∀bs,bss[i]?=some bs->∃es:List Int,(vf zy bs).length=es.length/\(∀d∈es,0<=d/\d<=zy)/\grp L (j+(i:Int)) (sums (yt L zy j bss) ds)=sums (vf zy bs) es)/\(bss[i]?=none->grp L (j+(i:Int)) (sums (yt L zy j bss) ds)=[])
 | [],j,ds,_,_,_=>⟨fun k _=>by show grp L k (sums [] ds)=[];unfold sums;rfl,fun i=>⟨fun bs h=>by simp at h,fun _=>by show grp L _ (sums [] ds)=[];unfold sums;rfl⟩⟩
 | b::r,j,ds,hb,hd,dd=>by
  have el:((vf zy b).map (fun x=>j*L+x)).length=(vf zy b).length:=zf ..;have e0:sums (yt L zy j (b::r)) ds=(sums (vf zy b) (ds.take (vf zy b).length)).map (fun x=>j*L+x)++sums (yt L zy (j+1) r) (ds.drop (vf zy b).length):=by
   show sums ((vf zy b).map (fun x=>j*L+x)++yt L zy (j+1) r) ds=_;rw[zdv,el,LK]
  have hd':ds.length=(vf zy b).length+(yt L zy (j+1) r).length:=by
   have:(yt L zy j (b::r)).length=((vf zy b).map (fun x=>j*L+x)++yt L zy (j+1) r).length:=rfl;rw[this,zM,el] at hd;exact hd
  have tl:(vf zy b).length=(ds.take (vf zy b).length).length:=by rw[xK];clear hL l0 el;omega
  have td:∀d∈ds.take (vf zy b).length,0<=d/\d<=zy:=fun d h=>dd d (yR h);have bd:∀y∈sums (vf zy b) (ds.take (vf zy b).length),0<=y/\y<L:=fun y hy=>by
   obtain⟨i,hi⟩:=vA hy;unfold sums at hi;rw[my] at hi;cases ex:(vf zy b)[i]? with
   | none=>rw[ex] at hi;simp at hi
   | some x=>
    cases ed:(ds.take (vf zy b).length)[i]? with
    | none=>rw[ex,ed] at hi;simp at hi
    | some d=>
     rw[ex,ed] at hi;have hy':x+d=y:=by simpa using hi
     have h1:=hb b (zJ ..) x (qw ex);have h2:=td d (qw ed);clear hL l0 hd el hd' tl;omega
  obtain⟨ih1,ih2⟩:=zcH hL l0 r (j+1) (ds.drop (vf zy b).length) (fun bs h=>hb bs (zG _ h)) (by rw[yF];clear hL l0 el tl;omega) (fun d h=>dd d (Z7 h));refine⟨fun k hk=>?_,fun i=>?_⟩
  .rw[e0,JM,pJ hL _ bd,if_neg (by clear hL l0 hd el hd' tl;omega),ih1 k (by clear hL l0 hd el hd' tl;omega)];rfl
  .cases i with
   | zero=>
    refine⟨fun bs h=>?_,fun h=>by simp at h⟩;have eb:b=bs:=by simpa using h
    subst eb;refine⟨_,tl,td,?_⟩;rw[show j+((0:Nat):Int)=j by clear hL l0 hd el hd' tl;omega,e0,JM,pJ hL _ bd,if_pos rfl,ih1 j (by clear hL l0 hd el hd' tl;omega),jr]
   | succ i=>
    have ej:j+((i+1:Nat):Int)=j+1+(i:Int):=by clear hL l0 hd el hd' tl;omega
    have eg:grp L (j+((i+1:Nat):Int)) (sums (yt L zy j (b::r)) ds)=grp L (j+1+(i:Int)) (sums (yt L zy (j+1) r) (ds.drop (vf zy b).length)):=by
     rw[e0,JM,pJ hL _ bd,if_neg (by clear hL l0 hd el hd' tl;omega),Je,ej]
    rw[eg];exact⟨fun bs h=>(ih2 i).1 bs (by simpa using h),fun h=>(ih2 i).2 (by simpa using h)⟩
section
def zdq:Sp:=fun vs H Q _=>∃turns zK:Int,vs=[.int turns,.int zK]/\1<=zK/\zK<=turns/\Q .non H
theorem fO:qU ["turns","bells"] ["turns","bells"] (zP Zt):=⟨rfl,rfl,rfl,by decide +kernel,rfl,by decide +kernel,by decide +kernel⟩
theorem DK (D:Def K mg "refuse_silent" Zt ["turns","bells"]) (T:Txt K mg):Fn P w K mg base 1 "refuse_silent" ["turns","bells"] zdq:=by
 refine D.fn fO (fun vs H Q E h=>?_) (fun f cdv A outer s H vs Q E hr h=>?_)
 .obtain⟨a,b,rfl,_⟩:=h;rfl
 .obtain⟨turns,zK,rfl,b1,bt,q⟩:=h;refine⟨_,(zR (wO (pw_or (jh Zy (pv 1) zH (qZ _)) (pw_or1 (jh Ks (pv 1) (pv 0) (qZ _)))).pt
    (zR (zlP))
    j4)),?_⟩
  exact⟨_,rfl,_,_,rfl,rfl,_,rfl,ifF (by omega) ⟨_,rfl,_,rfl,_,_,rfl,rfl,_,rfl,ifF (by omega) q⟩⟩
def zfV (K:zg):Sp:=fun vs H Q _=>∃(a:zm) (ms:List Int) (turns zK zy:Int),vs=[.ref a,.int turns,.int zK,.int zy]/\SqL K H a (ms.map V.int)/\ms.length<=400/\1<=zK/\zK<=60/\zK<=turns/\0<=zy/\zZ zy<=8000/\zZ turns<=60000/\(∀m∈ms,0<=m/\m<cnt turns zK zy/\zZ m<=50000) /\
 ∀(p:zm) (bss:List (List Int)) (H':Hp),zX H H'->H p=none->H' p=some (.lst ((yt (turns+zy) zy 0 bss).map V.int))->bss.length=ms.length->(∀(i:Nat) (bs:List Int) (m:Int),bss[i]?=some bs->ms[i]?=some m->yO bs/\bs.length=zK.toNat/\Ko bs=m)->(∀bs∈bss,Szs 60010 bs)->Q (.ref p) H'
theorem Bp:qU ["messages","turns","bells","late","talk","place","message","start"] ["messages","turns","bells","late"] (zP Bt):=⟨rfl,rfl,rfl,by decide +kernel,rfl,by decide +kernel,by decide +kernel⟩
theorem zow (D:Def K mg "rung" Bt ["messages","turns","bells","late"]) (T:Txt K mg) (FQ:Fn P w K mg base 1 "refuse_silent" ["turns","bells"] zdq) (Dh:Fn P w K mg base 40 "written" ["message","turns","bells","late"] (Ec K)):Fn P w K mg base 41 "rung" ["messages","turns","bells","late"] (zfV K):=by
 refine D.fn Bp (fun vs H Q E h=>?_) (fun f cdv A outer s H vs Q E hr h=>?_)
 .obtain⟨a,ms,b,c,d,rfl,_⟩:=h;rfl
 .obtain⟨a,ms,turns,zK,zy,rfl,hS,hl,b1,b60,bt,l0,lb,tb,hm,q⟩:=h;refine⟨_,(zF (aP (vJ FQ (hr.mono (by decide)) (by rfl) (za (pv 1) (za (pv 2) zB))))
   (zF (jb (i:=4) Bp.nd rfl (zN rfl) (eX zB))
   (zF (bY kW rfl (Bj (by rfl) T.z_enumerate (za (pv 0) zB)) (Lg (n:=2) rfl (Ze (j9 (i:=5) Bp.nd rfl (zN rfl)) (Ze (j9 (i:=6) Bp.nd rfl (zN rfl)) iJ)))
    (zF (jb (i:=7) Bp.nd rfl (cH rfl) (jc ZZ (pv 5) (jc jP (pv 1) (pv 3))))
    (zR (aP (lO xg PySem.F.slot_list_extend PySem.F.type_list_extend ziR (pv 4) (za (Jy (own:=["turn"]) (fr:=["start"]) (ix:=[7]) rfl ⟨rfl,rfl,rfl,rfl,rfl,rfl⟩ (Vl (vJ Dh (hr.mono (by decide)) (by rfl) (za (pv 6) (za (pv 1) (za (pv 2) (za (pv 3) zB)))))) (fun _ _ _ _ _=>(j9 (i:=0) (show (["turn","start"]:List Str).Nodup by decide +kernel) rfl (zN rfl))) (fun _ _ _ _ _=>Z0) (fun _ _ _ _ _=>(jc jP (pv 1) (pv 0)))) zB))))))
   (zR (ju (pv 4)))))),?_⟩
  refine⟨_,rfl,_,rfl,turns,zK,rfl,b1,bt,(by decide),fun p hp=>?_⟩;have sb:zZ (turns+zy)<=70000:=zU (vP (m:=60000) (n:=60000) tb (zU lb (by decide))) (by decide);refine⟨_,rfl,a,ms.map V.int,rfl,(zX.new hp).seq hS,zk5 (K:=K) (a:=a) (xs:=ms.map V.int) (fun i σ H2=>∃(bss:List (List Int)) (v5 v6 v7:Option V),σ=[some (.ref a),some (.int turns),some (.int zK),some (.int zy),some (.ref p),v5,v6,v7]/\zX H H2/\H2 p=some (.lst ((yt (turns+zy) zy 0 bss).map V.int))/\bss.length=i/\(yt (turns+zy) zy 0 bss).length<=i*60/\(∀(j:Nat) (bs:List Int) (m:Int),bss[j]?=some bs->ms[j]?=some m->yO bs/\bs.length=zK.toNat/\Ko bs=m)/\(∀bs∈bss,Szs 60010 bs))
   ⟨[],none,none,none,rfl,zX.new hp,zL,rfl,qX _,(fun j bs m h=>by simp at h),(fun _ z=>nomatch z)⟩ (fun i σ H2 ⟨_,_,_,_,_,sm,_⟩=>sm.seq hS) ?_ ?_⟩
  .rintro i xv t σ H2 hx ⟨bss,v5,v6,v7,rfl,sm,hT,bl,rl,hb,hz⟩ ht;have hil:i<ms.length:=by have:=(List.getElem?_eq_some_iff.mp hx).1;rwa[zf] at this
   rw[qF] at hx;obtain⟨m,hmi,rfl⟩:=Option.map_eq_some_iff.mp hx;obtain⟨m0,m1,mb⟩:=hm m (qw hmi);have s3:zX H (upd H2 t (.tup [.int i,.int m])):=sm.put ht;have ht3:(upd H2 t (.tup [.int i,.int m])) t=some (.tup [.int i,.int m]):=zL;have hT3:(upd H2 t (.tup [.int i,.int m])) p=some (.lst ((yt (turns+zy) zy 0 bss).map V.int)):=(zX.new ht) _ _ hT;generalize upd H2 t (.tup [.int i,.int m])=H3 at s3 ht3 hT3 ⊢;refine⟨t,_,rfl,SqT.of ht3,rfl,_,_,rfl,_,_,rfl,rfl,?_⟩;refine⟨_,rfl,_,rfl,_,rfl,_,_,rfl,rfl,_,_,rfl,rfl,⟨64,70000,vI (by omega) (by omega),sb,by decide⟩,?_⟩;refine⟨_,rfl,.inl ⟨rfl,_,SqL.of hT3⟩,_,rfl,_,rfl,_,rfl,_,rfl,m,turns,zK,zy,rfl,m0,m1,by omega,b60,l0,lb,zU tb (by decide),mb,fun pw bs H4 s4 hpw hW B hbl hnum sz=>?_⟩;have bll:(vf zy bs).length<=60:=by rw[ZV,hbl];omega
   refine⟨pw,rfl,⟨_,SqL.of hW⟩,fun acc Qn=>Vt (K:=K) (a:=pw) (xs:=(vf zy bs).map V.int) (fun j=>V.int ((i:Int)*(turns+zy)+(vf zy bs).getD j 0)) (SqL.of hW) Qn (by rw[zf];exact kj (yV (by omega))) (fun j x H6 R' hx s6 hR=>?_) ?_⟩
   .rw[qF] at hx;obtain⟨z,hz',rfl⟩:=Option.map_eq_some_iff.mp hx;simp only[zA,hz',xf] at hR;exact⟨rfl,_,rfl,_,rfl,_,_,rfl,rfl,hR⟩
   have eL:(qJ ((vf zy bs).map V.int).length).map (fun j=>V.int ((i:Int)*(turns+zy)+(vf zy bs).getD j 0))=((vf zy bs).map (fun x=>(0+(bss.length:Int))*(turns+zy)+x)).map V.int:=by
    rw[bl,show (0:Int)+(i:Int)=(i:Int) by omega];apply QC
    .simp
    .intro j h1 h2;simp at h1 h2;simp[zA,h2]
   rw[eL];have s5:zX H3 (upd H4 acc (.lst (((vf zy bs).map (fun x=>(0+(bss.length:Int))*(turns+zy)+x)).map V.int))):=s4.put Qn;have h5:(upd H4 acc (.lst (((vf zy bs).map (fun x=>(0+(bss.length:Int))*(turns+zy)+x)).map V.int))) acc=some (.lst (((vf zy bs).map (fun x=>(0+(bss.length:Int))*(turns+zy)+x)).map V.int)):=zL;generalize upd H4 acc (.lst (((vf zy bs).map (fun x=>(0+(bss.length:Int))*(turns+zy)+x)).map V.int))=H5 at s5 h5 ⊢;refine⟨p,acc,_,_,rfl,rfl,s5 _ _ hT3,h5,?_,?_⟩
   .rw[zf,zf,zf,qC];omega
   refine⟨bss++[bs],_,_,_,rfl,(s3.trans s5).wr hp,?_,by rw[zM,bl];rfl,?_,fun j c mm hj hmj=>?_,fun c hc=>?_⟩
   .rw[zL,<- jw,<- uC]
   .rw[uC,zM,zf];clear hl b1 b60 bt l0 lb tb sb bl hil m0 m1 mb hbl hnum;omega
   .by_cases hji:j<bss.length
    .rw[qP hji] at hj;exact hb j c mm hj hmj
    .have hj2:=(List.getElem?_eq_some_iff.mp hj).1;rw[zM,yz] at hj2;have ej:j=i:=by clear hl b1 b60 bt l0 lb tb sb rl hil m0 m1 mb hbl hnum bll;omega
     subst ej;rw[jj (by omega),bl,Xx] at hj;have:bs=c:=by simpa using hj
     subst this;rw[hmi] at hmj;cases hmj;exact⟨B,hbl,hnum⟩
   .rcases List.mem_append.mp hc with hc | hc
    .exact hz c hc
    .rw[List.mem_singleton.mp hc];exact sz
  .rintro σ H2 ⟨bss,v5,v6,v7,rfl,sm,hT,bl,rl,hb,hz⟩;rw[zf] at bl;exact⟨_,rfl,q p bss H2 sm hp hT bl hb hz⟩
end
section
structure ByM (L:Int) (rd:List Int) (kvs:List (Key×V)) (ks:List Int) (ad:Int->zm) (H:Hp):Prop where
 nd:ks.Nodup
 len:kvs.length=ks.length
 int:(∀p∈kvs,∃i,p.1=vW i)
 val:∀k:Int,Xa kvs (vW k)=if k∈ks then some (.ref (ad k)) else none
 ls:∀k∈ks,H (ad k)=some (.lst ((grp L k rd).map V.int))
 mem:∀k:Int,k∈ks↔grp L k rd≠[]
def zxa (K:zg):Sp:=fun vs H Q _=>∃(a:zm) (rd:List Int) (turns zy:Int),vs=[.ref a,.int turns,.int zy]/\SqL K H a (rd.map V.int)/\rd.length<=20000/\0<turns+zy/\zZ (turns+zy)<=9000 /\
 ∀(d:zm) (kvs:List (Key×V)) (ks:List Int) (ad:Int->zm) (H':Hp),zX H H'->H' d=some (.dK kvs)->ByM (turns+zy) rd kvs ks ad H'->Q (.ref d) H'
theorem Kw:qU ["reading","turns","late","length","heard_of","turn"] ["reading","turns","late"] (zP JW):=⟨rfl,rfl,rfl,by decide +kernel,rfl,by decide +kernel,by decide +kernel⟩
theorem IW (D:Def K mg "by_messages" JW ["reading","turns","late"]) (T:Txt K mg):Fn P w K mg base 1 "by_messages" ["reading","turns","late"] (zxa K):=by
 refine D.fn Kw (fun vs H Q E h=>?_) (fun f cdv A outer s H vs Q E hr h=>?_)
 .obtain⟨a,rd,t,l,rfl,_⟩:=h;rfl
 .obtain⟨a,rd,turns,zy,rfl,hS,hl,hL,lb,q⟩:=h;refine⟨_,(zF (jb (i:=3) Kw.nd rfl (zN rfl) (jc jP (pv 1) (pv 2)))
   (zF (jb (i:=4) Kw.nd rfl (zN rfl) Lf)
   (zF (bY kW rfl (Vl (pv 0)) (j9 (i:=5) Kw.nd rfl (zN rfl))
    (zR (aP (lO xg xH xJ Qx (zlL (pv 4) (jc bT (pv 5) (pv 3)) (eX zB) ⟨rfl,rfl,rfl,rfl⟩) (za (jc vQ (pv 5) (pv 3)) zB)))))
   (zR (ju (pv 4)))))),?_⟩
  refine⟨_,rfl,_,rfl,_,_,rfl,rfl,fun d hd=>?_⟩;generalize turns+zy=L at hL lb q ⊢;refine⟨_,rfl,a,rfl,⟨_,(zX.new hd).seq hS⟩,Az (K:=K) (a:=a) (xs:=rd.map V.int) (fun i σ H2=>∃(kvs:List (Key×V)) (ks:List Int) (ad:Int->zm) (v5:Option V),σ=[some (.ref a),some (.int turns),some (.int zy),some (.int L),some (.ref d),v5]/\zX H H2/\H2 d=some (.dK kvs)/\i<=rd.length/\ks.length<=i/\ByM L (rd.take i) kvs ks ad H2/\(∀k∈ks,ad k≠d/\H (ad k)=none)/\(∀k∈ks,∀k'∈ks,ad k=ad k'->k=k'))
   ⟨[],[],fun _=>d,none,rfl,zX.new hd,zL,qX _,qX _,⟨List.nodup_nil,rfl,(fun _ z=>nomatch z),fun k=>rfl,(fun _ z=>nomatch z),fun k=>⟨(fun z=>nomatch z),(fun z=>absurd rfl z)⟩⟩,(fun _ z=>nomatch z),(fun _ z=>nomatch z)⟩ (fun i σ H2 _ ⟨_,_,_,_,_,sm,_⟩=>sm.seq hS) ?_ ?_⟩
  .rintro i xv σ H2 hx ⟨kvs,ks,ad,v5,rfl,sm,hD,_,kl,M,fr,inj⟩;have hil:i<rd.length:=by have:=(List.getElem?_eq_some_iff.mp hx).1;rwa[zf] at this
   rw[qF] at hx;obtain⟨t,hti,rfl⟩:=Option.map_eq_some_iff.mp hx;have ert:rd.take (i+1)=rd.take i++[t]:=by rw[Z8,hti];rfl
   have zs6:kvs.length<sizeLine:=by rw[M.len,qC];omega
   have grl:∀k:Int,(grp L k (rd.take i)).length<=20000:=fun k=>by
    unfold grp;rw[zf];have h1:=List.length_filter_le (fun t=>decide (t / L=k)) (rd.take i);rw[xK] at h1;clear hL lb kl zs6;omega
   refine⟨_,rfl,d,rfl,.inl ⟨kvs,.inl hD⟩,_,rfl,_,rfl,_,_,rfl,rfl,⟨hL,lb⟩,(by decide),fun p hp=>⟨kvs,vW (t / L),(zX.new hp) _ _ hD,rfl,zs6,M.int,⟨_,rfl⟩,fun v hv=>?_,fun hv=>?_⟩⟩
   .rw[M.val] at hv;have hk:t / L∈ks:=by
     by_cases z:t / L∈ks
     .exact z
     .rw[if_neg z] at hv;cases hv
    rw[if_pos hk] at hv;cases hv;have s3:zX H (upd H2 p (.lst [])):=sm.put hp;have s23:zX H2 (upd H2 p (.lst [])):=zX.new hp;generalize upd H2 p (.lst [])=H3 at s3 s23 ⊢;have hA:=s23 _ _ (M.ls _ hk);have fk:=fr _ hk;refine⟨.inl ⟨rfl,_,SqL.of hA⟩,_,rfl,_,rfl,_,_,rfl,rfl,hL,ad (t / L),_,_,rfl,rfl,hA,?_,?_⟩
    .rw[zf,qC];have:=grl (t / L);omega
    refine⟨kvs,ks,ad,_,rfl,s3.wr fk.2,by rw[jM fk.1.symm];exact s23 _ _ hD,hil,by omega,⟨M.nd,M.len,M.int,M.val,fun k hk'=>?_,fun k=>?_⟩,fr,inj⟩
    .rw[ert,JM];by_cases e:k=t / L
     .subst e;rw[zL,bJ rfl,jw];rfl
     .rw[jM (fun z=>e (inj k hk' _ hk z)),bK (fun z=>e z.symm),jr];exact s23 _ _ (M.ls k hk')
    .rw[ert,JM,M.mem];by_cases e:k=t / L
     .subst e;rw[bJ rfl];exact⟨fun _ z=>by simp at z,fun _=>(M.mem _).mp hk⟩
     .rw[bK (fun z=>e z.symm),jr]
   .rw[M.val] at hv;have hk:¬t / L∈ks:=fun z=>by rw[if_pos z] at hv;cases hv
    have pd:p≠d:=fun e=>by subst e;rw[hD] at hp;cases hp
    have pn:H p=none:=sm.free hp;have hP:(upd (upd H2 p (.lst [])) d (.dK (putK kvs (vW (t / L)) (.ref p)))) p=some (.lst []):=by rw[jM pd];exact zL
    have g0:grp L (t / L) (rd.take i)=[]:=by
     by_cases z:grp L (t / L) (rd.take i)=[]
     .exact z
     .exact absurd ((M.mem _).mpr z) hk
    refine⟨.inl ⟨rfl,_,SqL.of hP⟩,_,rfl,_,rfl,_,_,rfl,rfl,hL,p,_,_,rfl,rfl,hP,(by decide),?_⟩;have s4:zX H (upd (upd H2 p (.lst [])) d (.dK (putK kvs (vW (t / L)) (.ref p)))):=(sm.put hp).wr hd;have h4d:(upd (upd H2 p (.lst [])) d (.dK (putK kvs (vW (t / L)) (.ref p)))) d=some (.dK (putK kvs (vW (t / L)) (.ref p))):=zL;have h4o:∀k∈ks,(upd (upd H2 p (.lst [])) d (.dK (putK kvs (vW (t / L)) (.ref p)))) (ad k)=some (.lst ((grp L k (rd.take i)).map V.int)):=fun k hk'=>by
     rw[jM (fr k hk').1];exact(zX.new hp) _ _ (M.ls k hk')
    have adp:∀k∈ks,ad k≠p:=fun k hk' e=>by
     have:=M.ls k hk';rw[e,hp] at this;cases this
    generalize upd (upd H2 p (.lst [])) d (.dK (putK kvs (vW (t / L)) (.ref p)))=H4 at s4 h4d h4o ⊢;have hv0:Xa kvs (vW (t / L))=none:=by rw[M.val,if_neg hk]
    refine⟨putK kvs (vW (t / L)) (.ref p),ks++[t / L],fun k=>if k=t / L then p else ad k,_,rfl,s4.wr pn,by rw[jM pd.symm];exact h4d,hil,by rw[zM,yz];omega,⟨?_,?_,Uh M.int,fun k=>?_,fun k hk'=>?_,fun k=>?_⟩,fun k hk'=>?_,fun k hk1 k' hk2 e=>?_⟩
    .rw[List.nodup_append];refine⟨M.nd,by simp,fun a ha b hb=>?_⟩;rw[List.mem_singleton.mp hb];exact fun e=>hk (e ▸ ha)
    .rw[zlT _ hv0,zM,zM,M.len];rfl
    .rw[oH];by_cases e:k=t / L
     .subst e;rw[if_pos rfl,if_pos (by simp)];simp
     .rw[if_neg (fun z=>e (zd2 z)),M.val];by_cases z:k∈ks
      .rw[if_pos z,if_pos (vU _ z),if_neg e]
      .rw[if_neg z,if_neg (by intro y;rcases List.mem_append.mp y with y | y;exact z y;exact e (List.mem_singleton.mp y))]
    .rw[ert,JM];by_cases e:k=t / L
     .subst e;rw[if_pos rfl,zL,g0,bJ rfl];rfl
     .have hk2:k∈ks:=by
       rcases List.mem_append.mp hk' with y | y
       .exact y
       .exact absurd (List.mem_singleton.mp y) e
      rw[if_neg e,jM (adp k hk2),bK (fun z=>e z.symm),jr];exact h4o k hk2
    .rw[ert,JM];by_cases e:k=t / L
     .subst e;rw[bJ rfl];exact⟨fun _ z=>by simp at z,fun _=>by simp⟩
     .rw[bK (fun z=>e z.symm),jr,<- M.mem];exact⟨(fun y=>by rcases List.mem_append.mp y with y | y;exact y;exact absurd (List.mem_singleton.mp y) e),(fun y=>vU _ y)⟩
    .show (if k=t / L then p else ad k)≠d/\H (if k=t / L then p else ad k)=none;by_cases e:k=t / L
     .rw[if_pos e];exact⟨pd,pn⟩
     .rw[if_neg e];rcases List.mem_append.mp hk' with y | y
      .exact fr k y
      .exact absurd (List.mem_singleton.mp y) e
    .have e:(if k=t / L then p else ad k)=(if k'=t / L then p else ad k'):=e;have m1:k≠t / L->k∈ks:=fun z=>by
      rcases List.mem_append.mp hk1 with y | y
      .exact y
      .exact absurd (List.mem_singleton.mp y) z
     have m2:k'≠t / L->k'∈ks:=fun z=>by
      rcases List.mem_append.mp hk2 with y | y
      .exact y
      .exact absurd (List.mem_singleton.mp y) z
     by_cases e1:k=t / L
     .by_cases e2:k'=t / L
      .rw[e1,e2]
      .rw[if_pos e1,if_neg e2] at e;exact absurd e.symm (adp k' (m2 e2))
     .by_cases e2:k'=t / L
      .rw[if_neg e1,if_pos e2] at e;exact absurd e (adp k (m1 e1))
      .rw[if_neg e1,if_neg e2] at e;exact inj k (m1 e1) k' (m2 e2) e
  .rintro σ H2 ⟨kvs,ks,ad,v5,rfl,sm,hD,_,kl,M,fr,inj⟩;rw[zf,Xw] at M;exact⟨_,rfl,q d kvs ks ad H2 sm hD M⟩
end
noncomputable def val (b:Int):List Int->Int
 | []=>0
 | x::xs=>x+b*val b xs
theorem uH (b x:Int):∀xs:List Int,val b (xs++[x])=val b xs+x*b ^ xs.length
 | []=>by show x+b*0=0+x*b ^ 0;rw[Wc,iY,oO];omega
 | y::ys=>by
  show y+b*val b (ys++[x])=y+b*val b ys+x*b ^ (ys.length+1);rw[uH b x ys,Int.mul_add,Wd,Int.mul_left_comm b x,K9 b (b ^ ys.length),<- rY]
theorem iT {b:Int} (hb:0<=b):∀xs:List Int,(∀x∈xs,0<=x)->0<=val b xs
 | [],_=>jl _
 | x::xs,h=>by
  have h1:=h x (zJ ..);have h2:=iT hb xs fun y hy=>h y (zG _ hy);have h3:=yQ hb h2;show 0<=x+b*val b xs;omega
section
def zhD:Sp:=fun vs H Q _=>∃n b:Int,vs=[.int n,.int b]/\0<=n/\2<=b/\n<2 ^ 8000/\zZ b<=8000 /\
 ∀(p:zm) (ys:List Int) (H':Hp),zX H H'->H p=none->H' p=some (.lst (ys.map V.int))->(∀y∈ys,0<=y/\y<b)->(∀y,ys.getLast?=some y->y≠0)->val b ys=n->ys.length<=8000->Q (.ref p) H'
theorem Bo:qU ["number","base","figures","left"] ["number","base"] (zP oE):=⟨rfl,rfl,rfl,by decide +kernel,rfl,by decide +kernel,by decide +kernel⟩
theorem zlC (D:Def K mg "parts" oE ["number","base"]) (T:Txt K mg):Fn P w K mg base 1 "parts" ["number","base"] zhD:=by
 refine D.fn Bo (fun vs H Q E h=>?_) (fun f cdv A outer s H vs Q E hr h=>?_)
 .obtain⟨a,b,rfl,_⟩:=h;rfl
 .obtain⟨n,b,rfl,n0,b2,nb,bb,q⟩:=h;refine⟨_,(zF (jb (i:=2) Bo.nd rfl (zN rfl) (eX zB))
   (zF (jb (i:=3) Bo.nd rfl (zN rfl) (pv 0))
   (zF (nY kW (jh Ks (pv 3) zH (qZ _))
    (zF (aP (lO xg xH xJ Qx (pv 2) (za (jc vQ (pv 3) (pv 1)) zB)))
    (zR (jb (i:=3) Bo.nd rfl (zN rfl) (jc bT (pv 3) (pv 1))))))
   (zR (ju (pv 2)))))),?_⟩
  refine⟨(by decide),fun p hp=>⟨_,rfl,?_⟩⟩;refine oK (fun σ H2=>∃(ys:List Int) (left:Int) (k:Nat),σ=[some (.int n),some (.int b),some (.ref p),some (.int left)]/\zX H H2/\H2 p=some (.lst (ys.map V.int))/\0<=left/\left<2 ^ k/\ys.length+k=8000/\(∀y∈ys,0<=y/\y<b)/\(left=0->∀y,ys.getLast?=some y->y≠0)/\val b ys+left*b ^ ys.length=n)
   (fun σ _=>match σ with | [_,_,_,some (.int t)]=>t.toNat | _=>0) ⟨[],n,8000,rfl,zX.new hp,zL,n0,nb,rfl,(fun _ z=>nomatch z),(fun _ _ z=>nomatch z),?_⟩ ?_ ?_
  .show 0+n*b ^ 0=n;rw[iY];omega
  .rintro σ H2 ⟨ys,left,k,rfl,sm,hH,l0,lk,yk,yb,yl,yv⟩;refine⟨_,rfl,_,_,rfl,rfl,_,rfl,ifD (fun h=>?_) (fun h=>?_)⟩
   .have r0:0<=left % b:=xM _ (by clear n0 bb lk yk yv;omega);have r1:left % b<b:=jH _ (by clear n0 bb lk yk yv r0;omega);have d0:0<=left / b:=ZR l0 (by omega);have dm:=Jr left b;have k1:k≠0:=fun z=>by subst z;rw[iY] at lk;clear n0 b2 nb bb yv;omega
    obtain⟨k',rfl⟩:∃k',k=k'+1:=⟨k-1,by clear n0 b2 nb bb l0 lk yv h r0 r1 d0 dm;omega⟩;have d1:left / b<2 ^ k':=by
     have h2:2*(left / b)<=b*(left / b):=vO b2 d0;rw[Wd] at lk;clear n0 b2 nb bb yv r1 d0 yk;omega
    have dl:left / b<left:=by
     have h2:2*(left / b)<=b*(left / b):=vO b2 d0;clear n0 b2 nb bb yv r1 lk yk d1;omega
    refine⟨_,rfl,.inl ⟨rfl,_,SqL.of hH⟩,_,rfl,_,rfl,_,_,rfl,rfl,by omega,_,_,_,rfl,rfl,hH,?_,?_⟩
    .rw[zf,qC];clear n0 b2 nb bb l0 yv h r0 r1 d0 dm lk d1 dl;omega
    refine⟨_,rfl,_,rfl,_,_,rfl,rfl,⟨by omega,zU bb (by decide)⟩,⟨ys++[left % b],left / b,k',rfl,sm.wr hp,by rw[zL,jw];rfl,d0,d1,by rw[zM];simp;clear n0 b2 nb bb l0 yv h r0 r1 d0 dm lk d1 dl;omega,fun y hy=>?_,fun z y hy=>?_,?_⟩,?_⟩
    .rcases List.mem_append.mp hy with hy | hy
     .exact yb y hy
     .rw[List.mem_singleton.mp hy];exact⟨r0,r1⟩
    .rw[List.getLast?_concat] at hy;cases hy;rw[z,Wc] at dm;omega
    .rw[uH,zM,rY];show val b ys+(left % b*b ^ ys.length+left / b*b ^ (ys.length+1))=n;rw[Wd,K9 (b ^ ys.length) b,<- rZ,<- du,show left % b+left / b*b=left by rw[K9 (left / b)];clear n0 b2 nb bb yv lk yk d1;omega];exact yv
    .show (left / b).toNat<left.toNat;clear n0 b2 nb bb yv r0 r1 lk yk d1;omega
   .have e:left=0:=by clear n0 b2 nb bb lk yk yv;omega
    subst e;rw[zbm,zbl] at yv;exact⟨_,rfl,q p ys H2 sm hp hH yb (yl rfl) yv (by omega)⟩
  .intro σ H2 R R' m h;obtain⟨v,e1,i,j,e3,e4,b,e5,z⟩:=h;exact⟨v,e1,i,j,e3,e4,b,e5,m _ _ z⟩
end
noncomputable def pairs (W:Int):List Int->List Int
 | a::b::r=>(a+b*W)::pairs W r
 | [a]=>[a]
 | []=>[]
theorem Uq (W:Int):∀xs:List Int,val (W*W) (pairs W xs)=val W xs
 | []=>rfl
 | [a]=>by show a+W*W*0=a+W*0;rw[Wc,Wc]
 | a::b::r=>by
  show a+b*W+W*W*val (W*W) (pairs W r)=a+W*(b+W*val W r);rw[Uq W r,Int.mul_add,rZ,K9 b W];omega
theorem nR (W:Int):∀(n:Nat) (xs:List Int),xs.length=2*n->(qJ n).map (fun i=>V.int (xs.getD (2*i) 0+xs.getD (2*i+1) 0*W))=(pairs W xs).map V.int
 | 0,xs,h=>by
  have:xs=[]:=List.eq_nil_of_length_eq_zero (by omega);subst this;rfl
 | n+1,xs,h=>by
  match xs,h with
  | a::b::r,h=>
   have ih:=nR W n r (by simp at h;omega);rw[List.range_succ_eq_map,zY,wM];show V.int (a+b*W)::_=V.int (a+b*W)::(pairs W r).map V.int;rw[<- ih];congr 1
theorem pairs_len (W:Int):∀(n:Nat) (xs:List Int),xs.length=2*n->(pairs W xs).length=n
 | n,xs,h=>by
  have:=congrArg V7 (nR W n xs h);rw[zf,vB,zf] at this;exact this.symm
theorem zc8 {W:Int} (hW:1<=W):∀xs:List Int,(∀x∈xs,0<=x/\x<W)->∀x∈pairs W xs,0<=x/\x<W*W
 | [],_,x,hx=>nomatch hx
 | [a],h,x,hx=>by
  have e:x=a:=List.mem_singleton.mp hx;subst e;have h1:=h x (zJ ..);have h2:W*1<=W*W:=YW hW (by omega);rw[oO] at h2;exact⟨h1.1,by omega⟩
 | a::b::r,h,x,hx=>by
  have h1:=h a (zJ ..);have h2:=h b (zG _ (zJ ..));rcases List.mem_cons.mp hx with e | hx
  .subst e;have h3:b*W<=(W-1)*W:=vO (by omega) (by omega);have h4:0<=b*W:=yQ h2.1 (by omega);rw[Int.sub_mul,dw] at h3;exact⟨by omega,by omega⟩
  .exact zc8 hW r (fun y hy=>h y (zG _ (zG _ hy))) x hx
theorem zoU (b:Int) (xs:List Int):val b (xs++[0])=val b xs:=by
 rw[uH,zbm,zbl]
theorem zmj {b:Int}{xs:List Int} (h:xs.length<=1):xs.sum=val b xs:=by
 match xs,h with
 | [],_=>rfl
 | [a],_=>show a+0=a+b*0;rw[Wc]
theorem zoI {n:Nat} (h:n<=100000):(2:Int)≠0/\(2:Int).natAbs<1073741824/\Qp 0 ((2*n:Nat):Int) 2=true/\xW 0 ((2*n:Nat):Int) 2=(n:Int):=by
 have hs:xW 0 ((2*n:Nat):Int) 2=(n:Int):=by
  unfold xW;rw[if_pos (by decide)];by_cases z:n=0
  .subst z;rfl
  .rw[if_pos (by omega)];omega
 refine⟨by decide,by decide,?_,hs⟩;unfold Qp;rw[hs];generalize hm:((2*n:Nat):Int)=m;have m1:m<=200000:=by omega
 have m0:0<=m:=by omega
 simp only[aZ];simp;omega
theorem zax {lo c:Int}{n:Nat}{acc:zm}{own:Nat}{ix:List Nat}{g:TG}{te:TE}{σ:St}{H1:Hp}{Q:VK} (f:Nat->V) (hn:H1 acc=none) (hz:n<=sizeLine)
  (step:∀i H (R:VK),i<n->zX H1 H->R (f i) H->g (.int (lo+i*c)) (yH own ix σ) H fun σ4 H4=>σ4.drop own=ix.map (fun i=>(σ[i]?).getD none)/\te σ4 H4 R)
  (hd:Q (.ref acc) (upd H1 acc (.lst ((qJ n).map f)))) :
  mH (ziu lo c n) own ix g cZ te σ H1 acc Q:=by
 refine⟨fun i m ys H=>m=n-i/\i<=n/\ys=(qJ i).map f/\H=upd H1 acc (.lst ys),⟨n,by simp,qX _,rfl,rfl⟩,?_⟩;rintro i m ys H ⟨rfl,hi,rfl,rfl⟩;refine⟨zL,?_⟩;by_cases hlt:i<n
 .refine .inr ⟨hlt,by rw[zf,vB];omega,fun x H3 y=>?_⟩;obtain⟨e,y⟩:=y;subst e y;exact step i _ _ hlt (zX.new hn) ⟨zL,n-(i+1),by omega,rfl,hlt,by rw[Jf,jw];rfl,by rw[Hb]⟩
 .have e:i=n:=by omega
  subst e;exact .inl ⟨zE _,hd⟩
section
def zxc (K:zg):Sp:=fun vs H Q _=>∃(a:zm) (xs:List Int) (b:Int),vs=[.ref a,.int b]/\SqL K H a (xs.map V.int)/\xs.length<=8000/\2<=b/\zZ b<=8000/\(∀x∈xs,0<=x/\x<b)/\∀H',zX H H'->Q (.int (val b xs)) H'
theorem Zz:qU ["figures","base","left","weight"] ["figures","base"] (zP ZD):=⟨rfl,rfl,rfl,by decide +kernel,rfl,by decide +kernel,by decide +kernel⟩
theorem jnH {C P:Hp->Prop}{R:Prop} (g:(∀s,C s->P s)->R) (b:∀s,C s->P s):R:=g b
theorem uz (D:Def K mg "number_of_parts" ZD ["figures","base"]) (T:Txt K mg):Fn P w K mg base 1 "number_of_parts" ["figures","base"] (zxc K):=by
 refine D.fn Zz (fun vs H Q E h=>?_) (fun f cdv A outer s H vs Q E hr h=>?_)
 .obtain⟨a,xs,b,rfl,_⟩:=h;rfl
 .obtain⟨a,xs,b,rfl,hS,hl,b2,bb,xb,q⟩:=h;refine⟨_,(zF (jb (i:=2) Zz.nd rfl (cH rfl) (Xo zau (by rfl) T.z_list zqF (za (pv 0) zB)))
   (zF (jb (i:=3) Zz.nd rfl (cH rfl) (pv 1))
   (zF (nY kW (jh Ks (jz vK (by rfl) T.z_len Jv (za (pv 2) zB)) zH (qZ _))
    (zF (wO (jh Zy (jc vQ (jz vK (by rfl) T.z_len Jv (za (pv 2) zB)) zH) zH (qZ _))
     (zR (aP (lO xg xH xJ Qx (pv 2) (za zH zB))))
     j4)
    (zF (jb (i:=2) Zz.nd rfl (cH rfl) (Jy (own:=["place"]) (fr:=["left","weight"]) (ix:=[2,3]) rfl ⟨rfl,rfl,rfl,rfl,rfl,rfl⟩ (Ue (by rfl) T.z_range (za zH (za (jz vK (by rfl) T.z_len Jv (za (pv 2) zB)) (za zH zB)))) (fun _ _ _ _ _=>(j9 (i:=0) (show (["place","left","weight"]:List Str).Nodup by decide +kernel) rfl (zN rfl))) (fun _ _ _ _ _=>Z0) (fun _ _ _ _ _=>(jc jP (kZ (Ie K) (pv 1) (pv 0) (fun _ _=>rfl)) (jc ZZ (kZ (Ie K) (pv 1) (jc jP (pv 0) zH) (fun _ _=>rfl)) (pv 2))))))
    (zR (jb (i:=3) Zz.nd rfl (cH rfl) (jc ZZ (pv 3) (pv 3)))))))
   (zR (ju (jz (zcp rfl) (by rfl) T.z_sum zpL (za (pv 2) zB))))))),?_⟩
  refine⟨_,rfl,_,_,rfl,.inl hS,fun p0 hp0=>⟨_,rfl,?_⟩⟩;refine oK (fun σ H2=>∃(p:zm) (ys:List Int) (W:Int) (k:Nat),σ=[some (.ref a),some (.int b),some (.ref p),some (.int W)]/\zX H H2/\H p=none/\H2 p=some (.lst (ys.map V.int))/\2<=W/\zZ W<=8000*k/\k*(ys.length-1)<xs.length+1/\ys.length<=8000/\(∀y∈ys,0<=y/\y<W)/\val W ys=val b xs)
   (fun σ H2=>match σ with | [_,_,some (.ref p),_]=>(match H2 p with | some (.lst l)=>l.length | _=>0) | _=>0) ⟨p0,xs,b,1,rfl,zX.new hp0,hp0,zL,b2,by omega,by omega,hl,xb,rfl⟩ ?_ ?_
  .rintro σ H2 ⟨p,ys,W,k,rfl,sm,hp,hH,W2,Wb,kb,yl,yb,yv⟩;refine⟨_,rfl,_,_,rfl,.inl (SqL.of hH),_,_,rfl,rfl,_,rfl,?_⟩;rw[zf];refine ifD (fun h=>?_) (fun h=>?_)
   .have kk:k<=8000:=by
     have h1:k*1<=k*(ys.length-1):=XC _ (by clear hl b2 bb W2 Wb kb yv;omega);omega
    refine⟨_,rfl,_,_,rfl,.inl (SqL.of hH),_,_,rfl,rfl,(by decide),_,_,rfl,rfl,_,rfl,?_⟩;rw[zf];apply jnH (C:=fun H3=>∃(zs:List Int) (n:Nat),zX H H3/\H3 p=some (.lst (zs.map V.int))/\zs.length=2*n/\n<ys.length/\2*(n-1)<=ys.length-1/\(∀y∈zs,0<=y/\y<W)/\val W zs=val b xs)
    case g=>
     intro G;refine ifD (fun o=>?x1) (fun o=>?x2)
     case x1=>
      refine⟨_,rfl,.inl ⟨rfl,_,SqL.of hH⟩,_,_,_,rfl,rfl,hH,by rw[zf,qC];omega,?_⟩;have sm3:zX H (upd H2 p (.lst (ys.map V.int++[V.int 0]))):=sm.wr hp;obtain⟨zs,hzs⟩:∃zs,zs=ys++[(0:Int)]:=⟨_,rfl⟩;have hH3:(upd H2 p (.lst (ys.map V.int++[V.int 0]))) p=some (.lst (zs.map V.int)):=by rw[zL,hzs,jw];rfl
      obtain⟨n,hn⟩:∃n,n=(ys.length+1) / 2:=⟨_,rfl⟩;have zl:zs.length=ys.length+1:=by rw[hzs,zM];rfl
      have zn:zs.length=2*n:=by omega
      have n1:n<ys.length:=by omega
      have n2:2*(n-1)<=ys.length-1:=by omega
      have zb:∀y∈zs,0<=y/\y<W:=fun y hy=>by
       rw[hzs] at hy;rcases List.mem_append.mp hy with hy | hy
       .exact yb y hy
       .rw[List.mem_singleton.mp hy];omega
      have zv:val W zs=val b xs:=by rw[hzs,zoU];exact yv
      generalize upd H2 p (.lst (ys.map V.int++[V.int 0]))=H3 at sm3 hH3 ⊢;exact G H3 ⟨zs,n,sm3,hH3,zn,n1,n2,zb,zv⟩
     case x2=>
      exact G H2 ⟨ys,ys.length / 2,sm,hH,by clear hl b2 bb W2 Wb kb yv kk;omega,by clear hl b2 bb W2 Wb kb yv kk;omega,by clear hl b2 bb W2 Wb kb yv kk;omega,yb,yv⟩
    case b=>
     rintro H3 ⟨zs,n,sm3,hH3,zn,n1,n2,zb,zv⟩;refine⟨_,rfl,_,_,rfl,.inl (SqL.of hH3),?_⟩;rw[zf,zn];refine⟨0,_,2,n,rfl,zoI (by clear hl b2 bb W2 Wb kb yv kk zn n2 zv;omega),fun pl hpl=>zax (lo:=0) (c:=2) (n:=n) (fun i=>V.int (zs.getD (2*i) 0+zs.getD (2*i+1) 0*W)) hpl ?_ ?_ ?_⟩
     .rw[qC];clear hl b2 bb W2 Wb kb yv kk zn n2 zv;omega
     .intro i H6 R' hi s6 hR;have hi1:2*i<zs.length:=by clear hl b2 bb W2 Wb kb yl yv h kk n1 n2 zv;omega
      have hi2:2*i+1<zs.length:=by clear hl b2 bb W2 Wb kb yl yv h kk n1 n2 zv;omega
      have e0:(0:Int)+(i:Int)*2=((2*i:Nat):Int):=by omega
      rw[e0];have g1:=zal (ns:=zs) (k:=2*i) (zq hi1);have g2:atI (zs.map V.int) (((2*i:Nat):Int)+1)=some (V.int zs[2*i+1]):=zal (ns:=zs) (k:=2*i+1) (zq hi2);have x2:=zb _ (Xv hi2);refine⟨rfl,_,rfl,_,rfl,_,_,_,_,rfl,rfl,SqL.of (s6 _ _ hH3),g1,_,rfl,_,rfl,_,_,rfl,rfl,_,_,_,_,rfl,rfl,SqL.of (s6 _ _ hH3),g2,_,rfl,_,_,rfl,rfl,⟨8000*k,8000*k,jN (y:=W) (by clear hl b2 bb Wb kb yl yv h kk zn n1 n2 zv hi;omega) Wb,Wb,by clear hl b2 bb W2 Wb kb yl yv h n1 n2 zv x2;omega⟩,_,_,rfl,rfl,?_⟩;simp only[zA,zq hi1,zq hi2,xf] at hR;exact hR
     .rw[nR W n zs zn];have pl':=pairs_len W n zs zn;have W4:W*2<=W*W:=YW W2 (by omega);refine⟨_,rfl,_,rfl,_,_,rfl,rfl,⟨8000*k,8000*k,Wb,Wb,by omega⟩,⟨pl,pairs W zs,W*W,2*k,rfl,sm3.put hpl,sm3.free hpl,zL,by clear hl b2 bb Wb kb yl yv h kk zn n1 n2 zv pl';omega,zU (Wm Wb Wb) (by omega),?_,by clear hl b2 bb W2 Wb kb yv kk zn n2 zv W4;omega,zc8 (by omega) zs zb,by rw[Uq];exact zv⟩,?_⟩
      .rw[pl',Q0 2 k,Yz];exact cG (XC _ n2) kb
      .simp only[List.set,zL,hH,zf];clear hl b2 bb W2 Wb kb yv kk zn n2 zv W4;omega
   .have y1:ys.length<=1:=by clear hl bb W2 Wb kb yv;omega
    refine⟨_,rfl,_,ys,rfl,SqL.of hH,?_⟩;rw[zmj (b:=W) y1,yv];exact q _ sm
  .intro σ H2 R R' m h;obtain⟨v,e1,p,l,e2,e3,i,j,e4,e5,c,e6,z⟩:=h;exact⟨v,e1,p,l,e2,e3,i,j,e4,e5,c,e6,m _ _ z⟩
end
noncomputable def sg:List Nat:=[97,98,99,100,101,102,103,104,105,106,107,108,109,110,111,112,113,114,115,116,117,118,119,120,121,122,32]
noncomputable def SG:Str:="abcdefghijklmnopqrstuvwxyz "
noncomputable def dig (c:Nat):Int:=(sg.idxOf c:Nat)+1
theorem zfb:SG.cps.toList=sg:=by decide +kernel
theorem zn7:∀c∈sg,Txt.find SG ⟨#[c]⟩=dig c-1:=by decide +kernel
theorem zaB:∀c∈sg,1<=dig c/\dig c<=27:=by decide +kernel
theorem zl1:∀k:Fin 27,dig (sg.getD k.val 0)=(k.val:Int)+1/\sg.getD k.val 0∈sg:=by decide +kernel
theorem zrz:∀c∈sg,sg.getD (dig c-1).toNat 0=c:=by decide +kernel
noncomputable def nv (l:List Nat):Int:=val 27 (l.reverse.map dig)
theorem zok (l:List Nat) (c:Nat):nv (l++[c])=nv l*27+dig c:=by
 unfold nv;rw[Qq,List.reverse_singleton,List.singleton_append,zY];show dig c+27*_=_;omega
noncomputable def chs (n:Nat):List Nat:=if h:n=0 then [] else sg.getD ((n-1) % 27) 0::chs ((n-1) / 27)
termination_by n
decreasing_by omega
theorem Av:chs 0=[]:=by rw[chs];rfl
theorem GK {n:Nat} (h:0<n):chs n=sg.getD ((n-1) % 27) 0::chs ((n-1) / 27):=by rw[chs,dif_neg (by omega)]
theorem zoT:∀n:Nat,val 27 ((chs n).map dig)=n:=by
 intro n
 induction n using Vr with
 | ind n ih=>
  by_cases h:n=0
  .subst h;rw[Av];rfl
  .rw[GK (by omega),zY];show dig _+27*val 27 _=_;rw[ih ((n-1) / 27) (by omega),(zl1 ⟨(n-1) % 27,W6 _ (by decide)⟩).1];show ((n-1) % 27:Nat)+(1:Int)+27*((n-1) / 27:Nat)=n;omega
theorem zqM:∀n:Nat,∀c∈chs n,c∈sg:=by
 intro n
 induction n using Vr with
 | ind n ih=>
  by_cases h:n=0
  .subst h;rw[Av];intro c hc;cases hc
  .rw[GK (by omega)];intro c hc;rcases List.mem_cons.mp hc with e | e
   .subst e;exact(zl1 ⟨(n-1) % 27,W6 _ (by decide)⟩).2
   .exact ih ((n-1) / 27) (by omega) c e
theorem By:∀l:List Nat,(∀c∈l,c∈sg)->0<=val 27 (l.map dig):=fun l h=>iT (by decide) _ fun x hx=>by
 obtain⟨c,hc,rfl⟩:=List.mem_map.mp hx;have:=zaB c (h c hc);omega
theorem zg4:∀l:List Nat,(∀c∈l,c∈sg)->chs (val 27 (l.map dig)).toNat=l
 | [],_=>Av
 | c::l,h=>by
  have h1:=h c (zJ ..);have h2:=fun y hy=>h y (zG c hy);have b:=zaB c h1;have z:=By l h2;have ih:=zg4 l h2;rw[zY];show chs (dig c+27*val 27 (l.map dig)).toNat=_;rw[GK (by omega)];have e1:((dig c+27*val 27 (l.map dig)).toNat-1) % 27=(dig c-1).toNat:=by omega
  have e2:((dig c+27*val 27 (l.map dig)).toNat-1) / 27=(val 27 (l.map dig)).toNat:=by omega
  rw[e1,e2,ih,zrz c h1]
noncomputable def ones (m:Nat):Int:=val 27 (qH m 1)
noncomputable def tops (m:Nat):Int:=val 27 (qH m 27)
theorem DN (m:Nat):ones (m+1)=1+27*ones m:=rfl
theorem Eg (m:Nat):tops (m+1)=27+27*tops m:=rfl
theorem Fi:∀m,0<=ones m
 | 0=>jl _
 | m+1=>by have:=Fi m;rw[DN];omega
theorem Fq:∀m,0<=tops m
 | 0=>jl _
 | m+1=>by have:=Fq m;rw[Eg];omega
theorem zi4 {a b:Nat} (h:a<=b):ones a<=ones b:=by
 induction b with
 | zero=>
      have:a=0:=by omega
      subst this;exact jl _
 | succ b ih=>
  by_cases e:a=b+1
  .subst e;exact jl _
  .have:=ih (by omega);have:=Fi b;rw[DN];omega
theorem zjo {a b:Nat} (h:a<=b):tops a<=tops b:=by
 induction b with
 | zero=>
      have:a=0:=by omega
      subst this;exact jl _
 | succ b ih=>
  by_cases e:a=b+1
  .subst e;exact jl _
  .have:=ih (by omega);have:=Fq b;rw[Eg];omega
theorem LR:∀l:List Nat,(∀c∈l,c∈sg)->ones l.length<=val 27 (l.map dig)/\val 27 (l.map dig)<=tops l.length
 | [],_=>⟨jl _,jl _⟩
 | c::l,h=>by
  have b:=zaB c (h c (zJ ..));have ih:=LR l fun y hy=>h y (zG c hy);rw[qx,DN,Eg,zY];show _<=dig c+27*val 27 (l.map dig)/\dig c+27*val 27 (l.map dig)<=_;omega
noncomputable def lN:Int:=79107246047630484352339332632946929510056524533256550444155472119763181086995847174200
theorem zlq:tops 60=lN:=by decide +kernel
theorem zfy:ones 61=lN+1:=by decide +kernel
theorem zg3 {n:Nat} (h:(n:Int)<=lN):(chs n).length<=60:=by
 have h1:=(LR (chs n) (zqM n)).1;rw[zoT] at h1;by_cases e:(chs n).length<=60
 .exact e
 .have:=zi4 (show 61<=(chs n).length by omega);rw[zfy] at this;omega
theorem zlx {l:List Nat} (h:∀c∈l,c∈sg) (hl:l.length<=60):0<=nv l/\nv l<=lN:=by
 have hr:∀c∈l.reverse,c∈sg:=fun c hc=>h c (List.mem_reverse.mp hc);have h1:=LR l.reverse hr;have h2:=zjo (show l.reverse.length<=60 by rw[aJ];exact hl);rw[zlq] at h2;have h3:=By l.reverse hr;unfold nv;omega
theorem zoj {l:List Nat} (h:∀c∈l,c∈sg) (hl:l.length<=60):zZ (nv l)<=300:=by
 have:=zlx h hl;have e:lN<2 ^ 300:=by decide +kernel
 exact vI this.1 (by omega)
theorem zqN {l:List Nat} (h:∀c∈l,c∈sg):(chs (nv l).toNat).reverse=l:=by
 unfold nv;rw[zg4 l.reverse (fun c hc=>h c (List.mem_reverse.mp hc)),YZ]
noncomputable def tx (l:List Nat):Str:=⟨l.toArray⟩
theorem zbe (l:List Nat):(tx l).cps.toList=l:=by simp[tx]
noncomputable def uA (c:Nat):Str:=⟨#[c]⟩
theorem T3:∀(l:List Nat) (a:Array Nat),(l.map uA).foldl (fun(acc:Array Nat) (p:Str)=>acc++("":Str).cps++p.cps) a=a++l.toArray
 | [],a=>by simp
 | c::l,a=>by
  rw[zY,Vp,T3 l];have:("":Str).cps=#[]:=by decide +kernel
  rw[this];apply zga;simp[uA]
theorem join_ones (l:List Nat):Txt.join "" (l.map uA)=tx l:=by
 unfold Txt.join BW tx;cases l with
 | nil=>simp[W7]
 | cons c l=>
  rw[zY,aH,We,T3];congr 1;apply zga;simp[uA]
theorem zma (l:List Nat):((l.map uA).map (·.length)).sum=l.length:=by
 induction l with
 | nil=>rfl
 | cons c r ih=>
  simp only[zY,yL,qx,ih];show 1+r.length=r.length+1;omega
theorem Dm {l:List Nat} (h:l.length<=1000):((l.map uA).map (·.length)).sum+(l.map uA).length*("":Str).length<=16777216:=by
 rw[zma];have:("":Str).length=0:=by decide +kernel
 rw[this];omega
section
theorem iC:SG.length=27:=by decide +kernel
theorem Hv:SG.length<=sizeLine:=by rw[iC];exact kj (yV (by decide))
theorem blanks:Txt.mul (Qc " ") 60=tx (qH 60 32):=by decide +kernel
theorem ziw:MulOk (Qc " ") 60:=by
 refine⟨by decide +kernel,fun _ _=>by decide +kernel,fun _ _=>by decide +kernel⟩
theorem ziU:nv (qH 60 32)=lN:=by decide +kernel
theorem zsH (k:Nat) (h:k<27):atI SG.cps.toList (k:Int)=some (sg.getD k 0):=by
 rw[zfb];refine Yc ?_;have:k<sg.length:=h;rw[zA,zq this];rfl
end
theorem zk1 {c:Nat} (h:c ∉ sg):Txt.find SG ⟨#[c]⟩=-1:=by
 have h1:=Cu SG c;rw[zfb,decide_eq_false h] at h1;unfold Txt.find;cases e:jB SG ⟨#[c]⟩ 0 SG.length 1 with
 | nil=>rfl
 | cons i r=>rw[e] at h1;cases h1
def lK (x:Str):Prop:=(∀c∈x.cps.toList,c∈sg)/\x.cps.toList.length<=60
section
def zl4 (K:zg) (C:zm):Sp:=fun vs H Q E=>∃v:V,vs=[v]/\((∃x:Str,v=.str x/\x.cps.toList.length<=900/\(lK x->Q (.int (nv x.cps.toList)) H)/\(¬lK x->E (.ref C) none H)) ∨
 (∃t,aa K H v t/\jk K t (.type "str")=some false/\E (.ref C) none H))
theorem JS:qU ["note","number","sign","place"] ["note"] (zP JZ):=⟨rfl,rfl,rfl,by decide +kernel,rfl,by decide +kernel,by decide +kernel⟩
theorem Gi {xO:zm} (D:Def K mg "note_number" JZ ["note"]) (T:Txt K mg){Yw:NT}{QW:Tok} (Xm:mg "SIGNS"=some (.str "abcdefghijklmnopqrstuvwxyz " Yw.1)) (yJ:mg "MOST_SIGNS"=some (.int 60 QW)) (Zx:mg "NoNote"=some (.ref xO)) (Jb:qD K xO bmV "ValueError.__new__"=true):FnE P w K mg base 1 "note_number" ["note"] (zl4 K xO):=by
 refine D.fnE JS (fun vs H Q E h=>?_) (fun f cdv A outer s H vs Q E hr h=>?_)
 .obtain⟨v,rfl,_⟩:=h;rfl
 .obtain⟨v,rfl,h⟩:=h;refine⟨_,(zF (wO (pw_or (nZ (Jq (jz VV (by rfl) T.z_isinstance kh (za (pv 0) (za (iI (v:=.ty "str") (by rfl) T.z_str Q7 rfl) zB))))) (pw_or1 (jh Ks (jz Xl (by rfl) T.z_len Jv (za (pv 0) zB)) (yq (v:=.int 60) (by rfl) yJ ⟨_,rfl⟩) (qZ _)))).pt
    (zR (yc qu Jb (by rfl) Zx (za jG zB)))
    j4)
   (zF (jb (i:=1) JS.nd rfl (zN rfl) zH)
   (zF (bY Qa rfl (zhs (pv 0)) (j9 (i:=2) JS.nd rfl (zN rfl))
    (zF (jb (i:=3) JS.nd rfl (zN rfl) (lO jm PySem.F.slot_str_find PySem.F.type_str_find zof (yq (v:=.str "abcdefghijklmnopqrstuvwxyz ") (by rfl) Xm ⟨_,rfl⟩) (za (pv 2) zB)))
    (zF (wO (jh Zy (pv 3) (zlN zf5 zH) (qZ _))
     (zR (yc qu Jb (by rfl) Zx (za jG zB)))
     j4)
    (zR (jb (i:=1) JS.nd rfl (zN rfl) (jc jP (jc jP (jc ZZ (pv 1) (jz Xl (by rfl) T.z_len Jv (za (yq (v:=.str "abcdefghijklmnopqrstuvwxyz ") (by rfl) Xm ⟨_,rfl⟩) zB))) (pv 3)) zH))))))
   (zR (ju (pv 1)))))),?_⟩
  rcases h with ⟨x,rfl,hl,q,q2⟩ | ⟨t,ty,kt,q2⟩
  .have hlx:x.length=x.cps.toList.length:=by simp[Str.length]
   have hz:x.length<=sizeLine:=by rw[hlx];exact kj (yV (by omega))
   refine⟨_,rfl,_,_,_,true,rfl,aa.str _,cW K,_,rfl,Vu ⟨_,rfl,x,rfl,hz,_,_,rfl,rfl,_,rfl,ifD (fun z=>⟨(by decide),q2 fun g=>?_⟩) (fun z=>?_)⟩⟩
   .have:=g.2;omega
   have l60:x.cps.toList.length<=60:=by omega
   refine⟨_,rfl,x,rfl,zk6 (x:=x) (fun i σ H'=>∃v v',σ=[some (.str x),some (.int (nv (x.cps.toList.take i))),v,v']/\H'=H/\∀d∈x.cps.toList.take i,d∈sg) ⟨none,none,rfl,rfl,fun _ z=>nomatch z⟩ ?_ ?_⟩
   .rintro i c σ H' hc ⟨v,v',rfl,rfl,htk⟩;have hc':x.cps.toList[i]?=some c:=by simpa using hc
    have hbn:=zoj htk (qd (by rw[xK];clear hl hz;omega) l60);refine⟨rfl,_,rfl,SG,⟨#[c]⟩,rfl,rfl,?_⟩;by_cases hm:c∈sg
    .have hb:=zaB c hm;rw[zn7 c hm];refine⟨_,rfl,_,rfl,_,_,rfl,rfl,_,rfl,ifF (by omega) ?_⟩;refine⟨_,rfl,SG,rfl,Hv,_,_,rfl,rfl,⟨300,5,hbn,by rw[iC];decide,by decide⟩,_,rfl,_,_,rfl,rfl,_,_,rfl,rfl,some (.str ⟨#[c]⟩),some (.int (dig c-1)),?_,rfl,?_⟩
     .have e:x.cps.toList.take (i+1)=x.cps.toList.take i++[c]:=by rw[Z8,hc'];rfl
      rw[e,zok,iC];have e2:nv (x.cps.toList.take i)*((27:Nat):Int)+(dig c-1)+1=nv (x.cps.toList.take i)*27+dig c:=by omega
      show [some (V.str x),some (V.int (nv (x.cps.toList.take i)*((27:Nat):Int)+(dig c-1)+1)),_,_]=_;rw[e2]
     .have e:x.cps.toList.take (i+1)=x.cps.toList.take i++[c]:=by rw[Z8,hc'];rfl
      rw[e];intro d hd;rcases List.mem_append.mp hd with z | z
      .exact htk d z
      .rw[List.mem_singleton.mp z];exact hm
    .rw[zk1 hm];exact⟨_,rfl,_,rfl,_,_,rfl,rfl,_,rfl,ifT rfl ⟨(by decide),q2 fun g=>hm (g.1 c (qw hc'))⟩⟩
   .rintro σ H' ⟨v,v',rfl,rfl,htk⟩;refine⟨_,rfl,?_⟩;have e:x.cps.toList.take x.cps.size=x.cps.toList:=by rw[<- zW,Xw]
    rw[e] at htk ⊢;exact q ⟨htk,l60⟩
  .exact⟨_,rfl,_,_,_,false,rfl,ty,kt,_,rfl,Ib ⟨(by decide),q2⟩⟩
end
section
def zpV (C:zm):Sp:=fun vs H Q E=>∃n:Int,vs=[.int n]/\(0<=n/\n<=lN->∀H',zX H H'->Q (.str (tx (chs n.toNat).reverse)) H')/\(¬(0<=n/\n<=lN)->E (.ref C) none H)
theorem cg:qU ["number","signs","left"] ["number"] (zP cz):=⟨rfl,rfl,rfl,by decide +kernel,rfl,by decide +kernel,by decide +kernel⟩
theorem zc2 {xO:zm} (D:Def K mg "note_of" cz ["number"]) (T:Txt K mg){Yw:NT}{QW:Tok} (Xm:mg "SIGNS"=some (.str "abcdefghijklmnopqrstuvwxyz " Yw.1)) (yJ:mg "MOST_SIGNS"=some (.int 60 QW)) (Zx:mg "NoNote"=some (.ref xO)) (Jb:qD K xO bmV "ValueError.__new__"=true) (Qv:FnE P w K mg base 1 "note_number" ["note"] (zl4 K xO)):FnE P w K mg base 2 "note_of" ["number"] (zpV xO):=by
 refine D.fnE cg (fun vs H Q E h=>?_) (fun f cdv A outer s H vs Q E hr h=>?_)
 .obtain⟨n,rfl,_⟩:=h;rfl
 .obtain⟨n,rfl,q,q2⟩:=h;refine⟨_,(zF (wO (pw_or (nZ (Jq (jz VV (by rfl) T.z_isinstance kh (za (pv 0) (za (iI (v:=.ty "int") (by rfl) T.z_int zcl rfl) zB))))) (pw_or1 (Jq (jz VV (by rfl) T.z_isinstance kh (za (pv 0) (za (iI (v:=.ty "bool") (by rfl) T.z_bool zqE rfl) zB)))))).pt
    (zR (yc qu Jb (by rfl) Zx (za jG zB)))
    j4)
   (zF (wO (pw_or (jh bU (pv 0) zH (qZ _)) (pw_or1 (jh Ks (pv 0) (vN Qv (hr.mono (by decide)) (by rfl) jF (za (jc zoz jG (yq (v:=.int 60) (by rfl) yJ ⟨_,rfl⟩)) zB)) (qZ _)))).pt
    (zR (yc qu Jb (by rfl) Zx (za jG zB)))
    j4)
   (zF (jb (i:=1) cg.nd rfl (zN rfl) (eX zB))
   (zF (jb (i:=2) cg.nd rfl (zN rfl) (pv 0))
   (zF (nY Qa (jh Ks (pv 2) zH (qZ _))
    (zF (jb (i:=2) cg.nd rfl (zN rfl) (jc ZM (pv 2) zH))
    (zF (aP (lO xg xH xJ Qx (pv 1) (za (kZ zaF (yq (v:=.str "abcdefghijklmnopqrstuvwxyz ") (by rfl) Xm ⟨_,rfl⟩) (jc vQ (pv 2) (jz Xl (by rfl) T.z_len Jv (za (yq (v:=.str "abcdefghijklmnopqrstuvwxyz ") (by rfl) Xm ⟨_,rfl⟩) zB))) (fun _ _=>rfl)) zB)))
    (zR (jb (i:=2) cg.nd rfl (zN rfl) (jc bT (pv 2) (jz Xl (by rfl) T.z_len Jv (za (yq (v:=.str "abcdefghijklmnopqrstuvwxyz ") (by rfl) Xm ⟨_,rfl⟩) zB))))))))
   (zR (ju (zfG rfl (by rfl) T.z_reversed jG (fun _ _ _ h=>⟨⟨_,rfl⟩,h⟩) (za (pv 1) zB))))))))),?_⟩
  refine⟨_,rfl,_,_,_,true,rfl,aa.int _,zcL K,_,rfl,Vu ⟨_,rfl,_,_,_,false,rfl,aa.int _,zaH K,_,rfl,Vu ?_⟩⟩;refine⟨_,rfl,_,_,rfl,rfl,_,rfl,ifD (fun z=>⟨(by decide),q2 (by omega)⟩) (fun n0=>⟨_,rfl,_,_,rfl,rfl,ziw,?_⟩)⟩;rw[blanks];have gb:lK (tx (qH 60 32)):=by
   refine⟨?_,?_⟩
   .rw[zbe];intro c hc;rw[List.eq_of_mem_replicate hc];decide
   .rw[zbe,jE];exact zE _
  refine⟨_,rfl,.inl ⟨_,rfl,qd gb.2 (by decide),fun _=>?_,fun z=>absurd gb z⟩⟩;rw[zbe,ziU];refine⟨_,_,rfl,rfl,_,rfl,ifD (fun z=>⟨(by decide),q2 (by omega)⟩) (fun n1=>?_)⟩;obtain⟨n,rfl⟩:∃k:Nat,n=(k:Int):=⟨n.toNat,by omega⟩;have hn:(n:Int)<=lN:=by omega
  have q:=q ⟨by omega,hn⟩;rw[yf] at q;refine⟨(by decide),fun l hl=>⟨_,rfl,?_⟩⟩;refine oK (fun σ H'=>∃(m:Nat) (cs:List Nat),σ=[some (.int n),some (.ref l),some (.int m)]/\H' l=some (.lst ((cs.map uA).map V.str))/\zX H H'/\cs++chs m=chs n/\(m:Int)<=lN) (fun(σ:L2.St) (_:Hp)=>match σ[2]? with | some (some (V.int m))=>m.toNat | _=>0) ⟨n,[],rfl,zL,zX.new hl,rfl,hn⟩ ?_ (fun σ H Q Q' m h=>?_)
  .rintro σ H' ⟨m,cs,rfl,hH,sm,ec,hm⟩;refine⟨_,rfl,_,_,rfl,rfl,_,rfl,ifD (fun z=>?_) (fun z=>?_)⟩
   .have m0:0<m:=by omega
    have e1:(m:Int)-1=((m-1:Nat):Int):=by omega
    have zyb:cs.length<=60:=by
     have:=zg3 hn;rw[<- ec,zM] at this;omega
    refine⟨_,rfl,_,_,rfl,rfl,?_⟩;rw[e1];refine⟨_,rfl,.inl ⟨rfl,_,SqL.of hH⟩,_,rfl,SG,rfl,Hv,_,_,rfl,rfl,(by rw[iC];decide),SG,((m-1) % 27:Nat),sg.getD ((m-1) % 27) 0,rfl,?_,Hv,zsH _ (W6 _ (by decide)),l,_,_,rfl,rfl,hH,?_,?_⟩
    .rw[iC];rfl
    .rw[zf,zf];exact yV (by omega)
    refine⟨_,rfl,SG,rfl,Hv,_,_,rfl,rfl,⟨by rw[iC];decide,by rw[iC];decide +kernel⟩,?_⟩;refine⟨⟨(m-1) / 27,cs++[sg.getD ((m-1) % 27) 0],?_,?_,?_,?_,?_⟩,?_⟩
    .rw[iC];rfl
    .rw[zL,jw,jw];rfl
    .exact sm.wr hl
    .rw[qQ,<- ec,GK m0];rfl
    .omega
    .rw[iC];show ((((m-1:Nat):Int) / ((27:Nat):Int))).toNat<((m:Nat):Int).toNat;clear n0 n1 hn hm zyb;omega
   .have m0:m=0:=by omega
    subst m0;rw[Av,jr] at ec;subst ec;refine⟨_,rfl,"",l,(chs n).map uA,rfl,rfl,SqL.of hH,Dm (qd (zg3 hn) (by decide)),?_⟩;rw[<- gh,join_ones];exact q _ sm
  .obtain⟨v,hv,a,b,e1,e2,c,e3,r⟩:=h;exact⟨v,hv,a,b,e1,e2,c,e3,m _ _ r⟩
end
theorem zcx (ns:List Int) (lo hi:Option Int):(ziG ns lo hi).length=min (HT.sIx ns.length ns.length hi-HT.sIx ns.length 0 lo) (ns.length-HT.sIx ns.length 0 lo):=by
 unfold ziG;rw[xK,yF]
theorem zq6 {L:Str}{ls:List Nat} (h:L.cps.toList=ls) (hl:ls.length=27) (n:Int):atI L.cps.toList (n % 27)=some (ls.getD (n % 27).toNat 0):=by
 have h0:0<=n % 27:=xM _ (by decide);have h1:n % 27<27:=jH _ (by decide);have e:n % 27=(((n % 27).toNat:Nat):Int):=by omega
 rw[h];generalize (n % 27).toNat=k at e;have hk:k<ls.length:=by omega
 rw[e];refine Yc ?_;rw[zA,zq hk];rfl
theorem zrc {ls:List Nat} (h:∀k:Fin 27,ls.getD k.val 0∈sg) (n:Int):ls.getD (n % 27).toNat 0∈sg:=by
 have h0:0<=n % 27:=xM _ (by decide);have h1:n % 27<27:=jH _ (by decide);exact h ⟨(n % 27).toNat,by omega⟩
theorem zhJ {b:Int} (hb:2<=b):∀ys:List Int,(∀y∈ys,0<=y)->(∀y,ys.getLast?=some y->y≠0)->ys≠[]->(2:Int) ^ (ys.length-1)<=val b ys
 | [],_,_,h=>absurd rfl h
 | [a],h,l,_=>by
  have h1:=h a (zJ ..);have h2:=l a rfl;show (2:Int) ^ 0<=a+b*0;rw[iY,Wc];omega
 | a::c::r,h,l,_=>by
  have h0:∀y∈c::r,0<=y:=fun y hy=>h y (zG _ hy);have ih:=zhJ hb (c::r) h0 (fun y hy=>l y (by rw[List.getLast?_cons_cons];exact hy)) (by simp);have h1:=h a (zJ ..);have h2:=iT (show 0<=b by clear ih;omega) (c::r) h0;show (2:Int) ^ (r.length+1)<=a+b*val b (c::r);have e:(c::r).length-1=r.length:=rfl;rw[e] at ih;rw[Wd];have h3:=vO hb h2;omega
theorem two_pow_pos (n:Nat):(0:Int)<2 ^ n:=by
 induction n with
 | zero=>decide
 | succ n ih=>rw[Wd];omega
theorem Bv {m n:Nat} (h:m<=n):(2:Int) ^ m<=2 ^ n:=by
 induction n with
 | zero=>
      have:m=0:=by omega
      subst this;exact jl _
 | succ n ih=>
  by_cases e:m=n+1
  .subst e;exact jl _
  .have:=ih (by omega);have:=two_pow_pos n;rw[Wd];omega
theorem zhI {b:Int} (hb:2<=b){ys:List Int} (h:∀y∈ys,0<=y/\y<b) (l:∀y,ys.getLast?=some y->y≠0){k:Nat} (hv:val b ys<2 ^ k):ys.length<=k:=by
 by_cases e:ys=[]
 .subst e;exact qX _
 .have h1:=zhJ hb ys (fun y hy=>(h y hy).1) l e;by_cases hk:ys.length<=k
  .exact hk
  .have:=Bv (show k<=ys.length-1 by clear hb hv h1;omega);omega
theorem zoe:lN<2 ^ 300:=by decide +kernel
theorem zpR {l:List Nat} (h:∀c∈l,c∈sg) (hl:l.length<=60):0<=nv l/\nv l<2 ^ 300:=by
 have h1:=zlx h hl;have h2:=zoe;omega
section
def zl7 (C:zm):Sp:=fun vs H Q E=>∃turns zK:Int,vs=[.int turns,.int zK]/\0<=zK/\((1<=zK/\zK<=turns)->Q .non H)/\(¬(1<=zK/\zK<=turns)->E (.ref C) none H)
theorem zfE (D:Def K mg "refuse_silent" Zt ["turns","bells"]) (T:Txt K mg){wV:zm} (Yd:mg "NoRow"=some (.ref wV)) (iV:qD K wV bmV "ValueError.__new__"=true):FnE P w K mg base 1 "refuse_silent" ["turns","bells"] (zl7 wV):=by
 refine D.fnE fO (fun vs H Q E h=>?_) (fun f cdv A outer s H vs Q E hr h=>?_)
 .obtain⟨a,b,rfl,_⟩:=h;rfl
 .obtain⟨turns,zK,rfl,b0,q1,q2⟩:=h;refine⟨_,(zR (wO (pw_or (jh Zy (pv 1) zH (qZ _)) (pw_or1 (jh Ks (pv 1) (pv 0) (qZ _)))).pt
    (zR (yc qu iV (by rfl) Yd (za jG zB)))
    j4)),?_⟩
  exact⟨_,rfl,_,_,rfl,rfl,_,rfl,ifD (fun z=>⟨(by decide),q2 (by omega)⟩) (fun z=>⟨_,rfl,_,rfl,_,_,rfl,rfl,_,rfl,ifD (fun z2=>⟨(by decide),q2 (by omega)⟩) (fun z2=>q1 (by omega))⟩)⟩
structure zkP (x:Str) (turns zK zy:Int) (ys:List Int) (bss:List (List Int)):Prop where
 bd:∀y∈ys,0<=y/\y<cnt turns zK zy-1
 last:∀y,ys.getLast?=some y->y≠0
 num:val (cnt turns zK zy-1) ys=nv x.cps.toList
 len:bss.length=ys.length+1
 box:∀(i:Nat) (bs:List Int) (m:Int),bss[i]?=some bs->(ys.map (·+1)++[0])[i]?=some m->yO bs/\bs.length=zK.toNat/\Ko bs=m
 sz:∀bs∈bss,Szs 60010 bs
def G8 (CN CR CG:zm):Sp:=fun vs H Q E=>∃(x:Str) (turns zK zy:Int),vs=[.str x,.int turns,.int zK,.int zy]/\x.cps.toList.length<=900/\0<=zK/\zK<=60/\0<=zy/\zZ zy<=100/\0<=turns/\zZ turns<=100 /\
 (¬lK x->E (.ref CN) none H)/\(lK x->¬(1<=zK/\zK<=turns)->E (.ref CR) none H)/\(lK x->1<=zK->zK<=turns->cnt turns zK zy<3->E (.ref CG) none H) /\
 (lK x->1<=zK->zK<=turns->3<=cnt turns zK zy->∀(p:zm) (ys:List Int) (bss:List (List Int)) (H':Hp),zX H H'->H' p=some (.lst ((yt (turns+zy) zy 0 bss).map V.int))->zkP x turns zK zy ys bss->Q (.ref p) H')
theorem G6:qU ["note","turns","bells","late","number","count","messages"] ["note","turns","bells","late"] (zP Bu):=⟨rfl,rfl,rfl,by decide +kernel,rfl,by decide +kernel,by decide +kernel⟩
theorem zlE (D:Def K mg "sent" Bu ["note","turns","bells","late"]) (T:Txt K mg){xO wV ji:zm} (wy:mg "TooGreat"=some (.ref ji)) (yD:qD K ji bmV "ValueError.__new__"=true){Qg:Tok} (wY:mg "LEAST_COUNT"=some (.int 3 Qg)) (Qv:FnE P w K mg base 1 "note_number" ["note"] (zl4 K xO)) (Dg:FnE P w K mg base 1 "refuse_silent" ["turns","bells"] (zl7 wV)) (jU:Fn P w K mg base 2 "box_count" ["turns","bells","late"] Yv) (znV:Fn P w K mg base 1 "parts" ["number","base"] zhD) (ze6:Fn P w K mg base 41 "rung" ["messages","turns","bells","late"] (zfV K)):FnE P w K mg base 42 "sent" ["note","turns","bells","late"] (G8 xO wV ji):=by
 refine D.fnE G6 (fun vs H Q E h=>?_) (fun f cdv A outer s H vs Q E hr h=>?_)
 .obtain⟨x,t,b,l,rfl,_⟩:=h;rfl
 .obtain⟨x,turns,zK,zy,rfl,xl,b0,b60,l0,lb,t0,tb,qN,qR,qG,q⟩:=h;refine⟨_,(zF (jb (i:=4) G6.nd rfl (zN rfl) (vN Qv (hr.mono (by decide)) (by rfl) jF (za (pv 0) zB)))
   (zF (aP (vN Dg (hr.mono (by decide)) (by rfl) jF (za (pv 1) (za (pv 2) zB))))
   (zF (jb (i:=5) G6.nd rfl (zN rfl) (vJ jU (hr.mono (by decide)) (by rfl) (za (pv 1) (za (pv 2) (za (pv 3) zB)))))
   (zF (wO (jh bU (pv 5) (yq (v:=.int 3) (by rfl) wY ⟨_,rfl⟩) (qZ _))
    (zR (yc qu yD (by rfl) wy (za jG zB)))
    j4)
   (zF (zhw (k:=6) (own:=["figure"]) (fr:=[]) (ix:=[]) rfl G6.nd rfl rfl ⟨rfl,rfl,rfl,rfl,rfl,rfl⟩ (Vl (vJ znV (hr.mono (by decide)) (by rfl) (za (pv 4) (za (jc ZM (pv 5) zH) zB)))) (fun _ _ _ _ _=>(j9 (i:=0) (show (["figure"]:List Str).Nodup by decide +kernel) rfl (zN rfl))) (fun _ _ _ _ _=>Z0) (fun _ _ _ _ _=>(jc jP (pv 0) zH)))
   (zR (ju (vJ ze6 (hr.mono (by decide)) (by rfl) (za (jc DP (pv 6) (eX (za zH zB))) (za (pv 1) (za (pv 2) (za (pv 3) zB)))))))))))),?_⟩
  have lb8:zZ zy<=8000:=zU lb (by decide);refine⟨_,rfl,.str x,rfl,.inl ⟨x,rfl,xl,fun g=>?_,qN⟩⟩;refine⟨_,rfl,_,rfl,turns,zK,rfl,b0,fun gb=>?_,qR g⟩;obtain⟨b1,bt⟩:=gb;refine⟨_,rfl,_,rfl,_,rfl,turns,zK,zy,rfl,b0,by omega,l0,lb8,zU tb (by decide),?_⟩;refine⟨_,rfl,_,_,rfl,rfl,_,rfl,ifD (fun z=>⟨(by decide),qG g b1 bt z⟩) (fun z=>?_)⟩;have q:=q g b1 bt (by omega);have cb:=zct (turns:=turns) (zK:=zK) (zy:=zy) (by omega) (by omega) l0 (by omega) tb (by decide);have cb':zZ (cnt turns zK zy)<=50000:=zU cb (by decide);have nb:=zpR g.1 g.2;have cb1:zZ (cnt turns zK zy-1)<=50000:=Ao (y:=cnt turns zK zy) (by omega) (by omega) cb';refine⟨_,rfl,_,rfl,_,_,rfl,rfl,_,_,rfl,nb.1,by omega,xR nb.2 (Bv (by decide)),?_,fun p ys H1 s1 _ h1 yb yl yv _=>?_⟩
  .exact Ao (y:=cnt turns zK zy) (by omega) (by omega) (zU cb (by decide))
  have mq:ys.length<=300:=zhI (by omega) yb yl (by rw[yv];exact nb.2);refine⟨p,rfl,⟨_,SqL.of h1⟩,fun acc Qn=>Vt (K:=K) (a:=p) (xs:=ys.map V.int) (fun j=>V.int (ys.getD j 0+1)) (SqL.of h1) Qn (by rw[zf];exact kj (yV (by omega))) (fun j v H6 R' hx s6 hR=>?_) ?_⟩
  .rw[qF] at hx;obtain⟨z,hz',rfl⟩:=Option.map_eq_some_iff.mp hx;simp only[zA,hz',xf] at hR;exact⟨rfl,_,rfl,_,_,rfl,rfl,hR⟩
  have eL:(qJ (ys.map V.int).length).map (fun j=>V.int (ys.getD j 0+1))=(ys.map (·+1)).map V.int:=by
   apply QC
   .simp
   .intro j h1 h2;simp at h1 h2;simp[zA,h2]
  rw[eL];have s2:zX H (upd H1 acc (.lst ((ys.map (·+1)).map V.int))):=s1.put Qn;have h2:(upd H1 acc (.lst ((ys.map (·+1)).map V.int))) acc=some (.lst ((ys.map (·+1)).map V.int)):=zL;generalize upd H1 acc (.lst ((ys.map (·+1)).map V.int))=H2 at s2 h2 ⊢;refine⟨_,rfl,(by show 1<=sizeLine;decide),fun p2 hp2=>⟨acc,p2,_,_,rfl,rfl,(zX.new hp2) _ _ h2,zL,?_,fun p3 hp3=>?_⟩⟩
  .rw[zf,zf];exact kj (yV (by show ys.length+1<=1000;omega))
  have e3:(ys.map (·+1)).map V.int++[V.int 0]=(ys.map (·+1)++[0]).map V.int:=by rw[jw];rfl
  rw[e3];have s3:=(s2.put (o:=.lst [V.int 0]) hp2).put (o:=.lst ((ys.map (·+1)++[0]).map V.int)) hp3;refine⟨_,rfl,_,rfl,_,rfl,p3,ys.map (·+1)++[0],turns,zK,zy,rfl,SqL.of zL,by rw[zM,zf];show ys.length+1<=400;omega,b1,b60,bt,l0,lb8,zU tb (by decide),fun m hm=>?_,fun p4 bss H4 s4 _ h4 bl hb hz=>q p4 ys bss H4 (s3.trans s4) h4 ⟨yb,yl,yv,by rw[bl,zM,zf];rfl,hb,hz⟩⟩;have m01:0<=m/\m<cnt turns zK zy:=by
   rcases List.mem_append.mp hm with z | z
   .obtain⟨y,hy,rfl⟩:=List.mem_map.mp z;have:=yb y hy;omega
   .rw[List.mem_singleton.mp z];omega
  exact⟨m01.1,m01.2,Ao m01.1 m01.2 cb'⟩
end
theorem Ui {L zy:Int}{b:Nat}:∀(bss:List (List Int)) (k:Int),(∀bs∈bss,bs.length=b)->(yt L zy k bss).length=bss.length*b
 | [],_,_=>by simp[yt]
 | c::r,k,h=>by
  show ((vf zy c).map (fun x=>k*L+x)++yt L zy (k+1) r).length=_;rw[zM,zf,ZV,h c (zJ ..),Ui r (k+1) fun bs hb=>h bs (zG _ hb),qx,Q3];omega
theorem zq3 {L k:Int} (hL:0<L){rd:List Int}:∀x∈grp L k rd,0<=x/\x<L:=fun x hx=>by
 unfold grp at hx;obtain⟨t,_,rfl⟩:=List.mem_map.mp hx;exact⟨xM _ (by omega),jH _ hL⟩
theorem zhG {L k zy:Int} (hL:0<L) (lb:zZ L<=9000){rd:List Int} (h60:(grp L k rd).length<=60):Szs 70000 (Wo zy (grp L k rd)):=fun y hy=>by
 obtain⟨i,hi⟩:=vA hy;obtain⟨x,hx,rfl⟩:=TF hi;have hb:=zq3 hL x (qw hx);have il:=(List.getElem?_eq_some_iff.mp hx).1;have ib:zZ (i:Int)<=64:=vI (by omega) (by omega);have xb:zZ x<=9000:=Ao hb.1 hb.2 lb;have sb:=cJ (m:=9000) (n:=64) xb ib;exact zU (jN (y:=x-(i:Int)) (Int.natAbs_ediv_le_natAbs _ _) sb) (by decide)
noncomputable def Jp (turns zy:Int) (rd:List Int) (i:Nat):Int:=Ko (Wo zy (grp (turns+zy) (i:Int) rd))
structure zqB (rd:List Int) (turns zK zy:Int) (n:Nat):Prop where
 rl:rd.length<=2000
 b0:0<=zK
 b60:zK<=60
 l0:0<=zy
 lb:zZ zy<=100
 L0:0<turns+zy
 t0:0<=turns
 tb:zZ turns<=100
 n100:n<=1000
 good:∀i:Nat,i<n->GoodR turns zK zy (grp (turns+zy) (i:Int) rd)/\Jp turns zy rd i≠0
theorem zhr {L:Int}{rd:List Int}{kvs:List (Key×V)}{ks:List Int}{ad:Int->zm}{H H2:Hp} (M:ByM L rd kvs ks ad H) (s:zX H H2){p0:zm} (hp0:H2 p0=none) (k:Int) :
  ∃q,(Xa kvs (vW k)).getD (.ref p0)=.ref q/\(upd H2 p0 (.lst [])) q=some (.lst ((grp L k rd).map V.int)):=by
 rw[M.val];by_cases hk:k∈ks
 .rw[if_pos hk];exact⟨ad k,rfl,(zX.new hp0) _ _ (s _ _ (M.ls k hk))⟩
 .rw[if_neg hk];have g0:grp L k rd=[]:=by
   by_cases z:grp L k rd=[]
   .exact z
   .exact absurd ((M.mem k).mpr z) hk
  rw[g0];exact⟨p0,rfl,zL⟩
section
def zpU (K:zg) (C:zm):Sp:=fun vs H Q E=>∃(a:zm) (rd:List Int) (turns zK zy:Int) (n:Nat),vs=[.ref a,.int turns,.int zK,.int zy]/\SqL K H a (rd.map V.int)/\zqB rd turns zK zy n /\
 (GoodR turns zK zy (grp (turns+zy) (n:Int) rd)->Jp turns zy rd n=0/\∀(p:zm) (H':Hp),zX H H'->H' p=some (.lst ((qJ n).map fun i=>V.int (Jp turns zy rd i)))->Q (.ref p) H') /\
 (¬GoodR turns zK zy (grp (turns+zy) (n:Int) rd)->∀H',zX H H'->E (.ref C) none H')
theorem wI:qU ["reading","turns","bells","late","heard_of","messages","message"] ["reading","turns","bells","late"] (zP wJ):=⟨rfl,rfl,rfl,by decide +kernel,rfl,by decide +kernel,by decide +kernel⟩
theorem zos {qM:zm} (D:Def K mg "messages_ahead_of_end" wJ ["reading","turns","bells","late"]) (T:Txt K mg) (Og:Fn P w K mg base 1 "by_messages" ["reading","turns","late"] (zxa K)) (ir:FnE P w K mg base 3 "read" ["reading","turns","bells","late"] (zba K qM)):FnE P w K mg base 4 "messages_ahead_of_end" ["reading","turns","bells","late"] (zpU K qM):=by
 refine D.fnE wI (fun vs H Q E h=>?_) (fun f cdv A outer s H vs Q E hr h=>?_)
 .obtain⟨a,rd,t,b,l,n,rfl,_⟩:=h;rfl
 .obtain⟨a,rd,turns,zK,zy,n,rfl,hS,R,q1,q2⟩:=h;obtain⟨rl,b0,b60,l0,lb,L0,t0,tb,n100,good⟩:=R;refine⟨_,(zF (jb (i:=4) wI.nd rfl (zN rfl) (vJ Og (hr.mono (by decide)) (by rfl) (za (pv 0) (za (pv 1) (za (pv 3) zB)))))
   (zF (jb (i:=5) wI.nd rfl (zN rfl) (eX zB))
   (zF (jb (i:=6) wI.nd rfl (zN rfl) (vN ir (hr.mono (by decide)) (by rfl) jF (za (zc9 (Bb hr) (pv 4) zH (eX zB) ⟨rfl,rfl,rfl,rfl⟩) (za (pv 1) (za (pv 2) (za (pv 3) zB))))))
   (zF (nY Qa (jh zfF (pv 6) zH (qZ _))
    (zF (aP (lO xg xH xJ Qx (pv 5) (za (pv 6) zB)))
    (zR (jb (i:=6) wI.nd rfl (zN rfl) (vN ir (hr.mono (by decide)) (by rfl) jF (za (zc9 (Bb hr) (pv 4) (jz vK (by rfl) T.z_len Jv (za (pv 5) zB)) (eX zB) ⟨rfl,rfl,rfl,rfl⟩) (za (pv 1) (za (pv 2) (za (pv 3) zB)))))))))
   (zR (ju (pv 5))))))),?_⟩
  have lb8:zZ zy<=8000:=zU lb (by decide);have Lb:zZ (turns+zy)<=9000:=zU (vP (m:=100) (n:=100) tb lb) (by decide);have bad:∀i:Nat,i<=n->¬GoodR turns zK zy (grp (turns+zy) (i:Int) rd)->i=n:=fun i hi ng=>by
   rcases ZG hi with z | z
   .exact absurd (good i z).1 ng
   .exact z
  refine⟨_,rfl,_,rfl,_,rfl,a,rd,turns,zy,rfl,hS,by omega,L0,Lb,fun d kvs ks ad H1 s1 hD M=>?_⟩;refine⟨(by decide),fun p hp=>?_⟩;have s2:zX H1 (upd H1 p (.lst [])):=zX.new hp;have h2:(upd H1 p (.lst [])) p=some (.lst []):=zL;generalize upd H1 p (.lst [])=H2 at s2 h2 ⊢;refine⟨_,rfl,d,rfl,.inl ⟨kvs,.inl (s2 _ _ hD)⟩,(by decide),fun p0 hp0=>⟨_,tG.k (k:=vW 0) ((zX.new hp0) _ _ (s2 _ _ hD)),?_⟩⟩;obtain⟨q0,e0,c0⟩:=zhr M s2 hp0 0;rw[e0];have s3:=s2.put (o:=.lst []) hp0;have s23:=zX.new (o:=.lst []) hp0;generalize upd H2 p0 (.lst [])=H3 at s3 s23 c0 ⊢;refine⟨_,rfl,_,rfl,_,rfl,q0,grp (turns+zy) 0 rd,turns,zK,zy,rfl,SqL.of c0,b0,b60,l0,lb8,zU tb (by decide),(fun el=>zhG L0 Lb (by omega)),fun g H4 s4=>?_,fun ng H4 s4=>?_⟩
  case refine_2=>
   have e:=bad 0 (qX _) ng;subst e;exact q2 ng H4 (s1.trans (s3.trans s4))
  refine oK (fun σ H5=>∃i:Nat,i<=n/\σ=[some (.ref a),some (.int turns),some (.int zK),some (.int zy),some (.ref d),some (.ref p),some (.int (Jp turns zy rd i))]/\zX H1 H5/\H5 p=some (.lst ((qJ i).map fun i=>V.int (Jp turns zy rd i)))/\GoodR turns zK zy (grp (turns+zy) (i:Int) rd))
   (fun _ H5=>match H5 p with | some (.lst xs)=>n-xs.length | _=>0) ⟨0,qX _,rfl,s3.trans s4,s4 _ _ (s23 _ _ h2),g⟩ ?_ ?_
  .rintro σ H5 ⟨i,hi,rfl,s5,h5,gi⟩;refine⟨_,rfl,_,_,rfl,rfl,_,rfl,zcJ (fun z=>?_) (fun z=>?_)⟩
   .have hin:i<n:=by
     rcases ZG hi with y | y
     .exact y
     .subst y;exact absurd (q1 gi).1 z
    have zyC:((qJ i).map fun i=>V.int (Jp turns zy rd i)).length=i:=by rw[zf,vB]
    refine⟨_,rfl,.inl ⟨rfl,_,SqL.of h5⟩,_,rfl,_,_,_,rfl,rfl,h5,by rw[zyC];exact yV (by omega),?_⟩;have s6:zX H1 (upd H5 p (.lst (((qJ i).map fun i=>V.int (Jp turns zy rd i))++[V.int (Jp turns zy rd i)]))):=s5.wr hp;have h6:(upd H5 p (.lst (((qJ i).map fun i=>V.int (Jp turns zy rd i))++[V.int (Jp turns zy rd i)]))) p=some (.lst ((qJ (i+1)).map fun i=>V.int (Jp turns zy rd i))):=by
     rw[zL,Jf,jw];rfl
    generalize upd H5 p (.lst (((qJ i).map fun i=>V.int (Jp turns zy rd i))++[V.int (Jp turns zy rd i)]))=H6 at s6 h6 ⊢;have zw7:(((qJ (i+1)).map fun i=>V.int (Jp turns zy rd i)).length:Int)=((i+1:Nat):Int):=by rw[zf,vB]
    refine⟨_,rfl,d,rfl,.inl ⟨kvs,.inl (s6 _ _ hD)⟩,_,rfl,_,_,rfl,.inl (SqL.of h6),?_⟩;rw[zw7];refine⟨(by decide),fun p7 hp7=>⟨_,tG.k (k:=vW ((i+1:Nat):Int)) ((zX.new hp7) _ _ (s6 _ _ hD)),?_⟩⟩;obtain⟨q7,e7,c7⟩:=zhr M s6 hp7 ((i+1:Nat):Int);rw[e7];have s7:=s6.put (o:=.lst []) hp7;have s67:=zX.new (o:=.lst []) hp7;generalize upd H6 p7 (.lst [])=H7 at s7 s67 c7 ⊢;refine⟨_,rfl,_,rfl,_,rfl,q7,grp (turns+zy) ((i+1:Nat):Int) rd,turns,zK,zy,rfl,SqL.of c7,b0,b60,l0,lb8,zU tb (by decide),(fun el=>zhG L0 Lb (by omega)),fun g8 H8 s8=>?_,fun ng H8 s8=>?_⟩
    .refine⟨⟨i+1,hin,rfl,s7.trans s8,s8 _ _ (s67 _ _ h6),g8⟩,?_⟩;show (match H8 p with | some (.lst xs)=>n-xs.length | _=>0)<(match H5 p with | some (.lst xs)=>n-xs.length | _=>0);rw[s8 _ _ (s67 _ _ h6),h5];show n-((qJ (i+1)).map fun i=>V.int (Jp turns zy rd i)).length<n-((qJ i).map fun i=>V.int (Jp turns zy rd i)).length;rw[zf,vB,zf,vB];clear rl b0 b60 l0 lb L0 t0 tb lb8 Lb;omega
    .have e:=bad (i+1) hin ng;subst e;exact q2 ng H8 (s1.trans (s7.trans s8))
   .have e:i=n:=by
     rcases ZG hi with y | y
     .exact absurd z (good i y).2
     .exact y
    subst e;exact⟨_,rfl,(q1 gi).2 p H5 (s1.trans s5) h5⟩
  .intro σ H Q Q' m h;obtain⟨v,hv,a,b,e1,e2,c,e3,r⟩:=h;exact⟨v,hv,a,b,e1,e2,c,e3,m _ _ r⟩
def za9 (K:zg) (C:zm):Sp:=fun vs H Q E=>∃(a:zm) (rd:List Int) (turns zK zy:Int) (n:Nat),vs=[.ref a,.int turns,.int zK,.int zy]/\SqL K H a (rd.map V.int)/\zqB rd turns zK zy n /\
 (GoodR turns zK zy (grp (turns+zy) (n:Int) rd)->Jp turns zy rd n=0/\3<=cnt turns zK zy/\val (cnt turns zK zy-1) ((qJ n).map fun i=>Jp turns zy rd i-1)<=lN/\∀H',zX H H'->Q (.str (tx (chs (val (cnt turns zK zy-1) ((qJ n).map fun i=>Jp turns zy rd i-1)).toNat).reverse)) H') /\
 (¬GoodR turns zK zy (grp (turns+zy) (n:Int) rd)->∀H',zX H H'->E (.ref C) none H')
theorem oh:qU ["reading","turns","bells","late","figures","base","refusal"] ["reading","turns","bells","late"] (zP YM):=⟨rfl,rfl,rfl,by decide +kernel,rfl,by decide +kernel,by decide +kernel⟩
theorem zaO {qM:zm}{xO:zm} (D:Def K mg "received" YM ["reading","turns","bells","late"]) (T:Txt K mg) (dY:FnE P w K mg base 4 "messages_ahead_of_end" ["reading","turns","bells","late"] (zpU K qM)) (jU:Fn P w K mg base 2 "box_count" ["turns","bells","late"] Yv) (Aj:Fn P w K mg base 1 "number_of_parts" ["figures","base"] (zxc K)) (tV:FnE P w K mg base 2 "note_of" ["number"] (zpV xO)):FnE P w K mg base 5 "received" ["reading","turns","bells","late"] (za9 K qM):=by
 have zit:=zk3 tV;refine D.fnE oh (fun vs H Q E h=>?_) (fun f cdv A outer s H vs Q E hr h=>?_)
 .obtain⟨a,rd,t,b,l,n,rfl,_⟩:=h;rfl
 .obtain⟨a,rd,turns,zK,zy,n,rfl,hS,R,q1,q2⟩:=h;have R':=R;obtain⟨rl,b0,b60,l0,lb,L0,t0,tb,n100,good⟩:=R';refine⟨_,(zF (zhw (k:=4) (own:=["message"]) (fr:=[]) (ix:=[]) rfl oh.nd rfl rfl ⟨rfl,rfl,rfl,rfl,rfl,rfl⟩ (Vl (vN dY (hr.mono (by decide)) (by rfl) jF (za (pv 0) (za (pv 1) (za (pv 2) (za (pv 3) zB)))))) (fun _ _ _ _ _=>(j9 (i:=0) (show (["message"]:List Str).Nodup by decide +kernel) rfl (zN rfl))) (fun _ _ _ _ _=>Z0) (fun _ _ _ _ _=>(jc ZM (pv 0) zH)))
   (zF (jb (i:=5) oh.nd rfl (zN rfl) (jc ZM (vJ jU (hr.mono (by decide)) (by rfl) (za (pv 1) (za (pv 2) (za (pv 3) zB)))) zH))
   (zR (zoF (zR (ju (vJ zit (hr.mono (by decide)) (by rfl) (za (vJ Aj (hr.mono (by decide)) (by rfl) (za (pv 4) (za (pv 5) zB))) zB)))))))),?_⟩
  have lb8:zZ zy<=8000:=zU lb (by decide);have cb:zZ (cnt turns zK zy)<=8000:=zU (zct (turns:=turns) (zK:=zK) (zy:=zy) (by omega) (by omega) l0 (by omega) tb (by decide)) (by decide);refine⟨_,rfl,_,rfl,_,rfl,_,rfl,a,rd,turns,zK,zy,n,rfl,hS,R,fun g=>?_,q2⟩;obtain⟨z0,c3,vm,q⟩:=q1 g;refine⟨z0,fun p H1 s1 h1=>?_⟩;have mb:∀i:Nat,i<n->1<=Jp turns zy rd i/\Jp turns zy rd i<cnt turns zK zy:=fun i hi=>by
   obtain⟨g1,g2⟩:=good i hi;have h1:=Kp (Wo zy (grp (turns+zy) (i:Int) rd)) (Wo zy (grp (turns+zy) (i:Int) rd)).length;have h2:Ko (Wo zy (grp (turns+zy) (i:Int) rd))=JP (Wo zy (grp (turns+zy) (i:Int) rd)) (Wo zy (grp (turns+zy) (i:Int) rd)).length:=rfl;have h3:=g1.2.2;unfold Jp at g2 ⊢;clear rl b0 b60 l0 lb L0 t0 tb n100 lb8 cb z0 vm hi;omega
  refine⟨p,rfl,⟨_,SqL.of h1⟩,fun acc Qn=>Vt (K:=K) (a:=p) (xs:=(qJ n).map fun i=>V.int (Jp turns zy rd i)) (fun i=>V.int (Jp turns zy rd i-1)) (SqL.of h1) Qn (by rw[zf,vB];exact kj (yV (by omega))) (fun i v H6 R' hx s6 hR=>?_) ?_⟩
  .rw[qF] at hx;obtain⟨j,hj,rfl⟩:=Option.map_eq_some_iff.mp hx;have ej:j=i:=by
    have h3:=(List.getElem?_eq_some_iff.mp hj).2;rw[uL] at h3;exact h3.symm
   subst ej;exact⟨rfl,_,rfl,_,_,rfl,rfl,hR⟩
  rw[zf,vB];have ef:(qJ n).map (fun i=>V.int (Jp turns zy rd i-1))=((qJ n).map fun i=>Jp turns zy rd i-1).map V.int:=by rw[wM];rfl
  rw[ef];have fb:∀x∈(qJ n).map (fun i=>Jp turns zy rd i-1),0<=x/\x<cnt turns zK zy-1:=fun x hx=>by
   obtain⟨i,hi,rfl⟩:=List.mem_map.mp hx;have:=mb i (List.mem_range.mp hi);omega
  have fl:((qJ n).map fun i=>Jp turns zy rd i-1).length<=8000:=by rw[zf,vB];omega
  have v0:=iT (show 0<=cnt turns zK zy-1 by omega) _ (fun x hx=>(fb x hx).1);have s2:=s1.put (o:=.lst (((qJ n).map fun i=>Jp turns zy rd i-1).map V.int)) Qn;have h2:(upd H1 acc (.lst (((qJ n).map fun i=>Jp turns zy rd i-1).map V.int))) acc=some (.lst (((qJ n).map fun i=>Jp turns zy rd i-1).map V.int)):=zL;generalize upd H1 acc (.lst (((qJ n).map fun i=>Jp turns zy rd i-1).map V.int))=H2 at s2 h2 ⊢;generalize (qJ n).map (fun i=>Jp turns zy rd i-1)=fs at fb fl v0 vm q h2 ⊢;refine⟨_,rfl,_,rfl,_,rfl,turns,zK,zy,rfl,b0,by omega,l0,lb8,zU tb (by decide),_,_,rfl,rfl,?_⟩;exact⟨_,rfl,_,rfl,acc,fs,_,rfl,SqL.of h2,fl,by omega,Ao (y:=cnt turns zK zy) (by omega) (by omega) cb,fb,fun H3 s3=>⟨_,rfl,fun _ H4 s4=>q _ ((s2.trans s3).trans s4),fun ng=>absurd ⟨v0,vm⟩ ng⟩⟩
end
theorem zcC {P:qz}{w:jd}{K:zg}{mg:Str->Option zc}{base:jW}{k:Nat}{x:Str}{st:jV}{ps:List Str} (D:Def K mg x st ps):FnE P w K mg base k x ps (fun _ _ _ _=>False):=by
 obtain⟨f,fd,F,b,m⟩:=D;exact⟨f,fd,⟨fun _ _ _ _ h=>h.elim,fun _ _ _ _ _ _ _ _ _ _ _ _ _ _ h=>h.elim⟩,F.kp,b,m⟩
structure Cs where
 nn:zm
 tg:zm
 nr:zm
 nt:zm
 rw:zm
 od:zm
 tm:zm
 be:zm
structure XF (K:zg) (S:Cs) (C:zm) (i:Fin 5):Prop where
 ex:qD K C bmV "ValueError.__new__"=true
 mr:Zq K C (.ref S.be)=some true
 xl:ie K C
 i0:jk K (.ref C) (.ref S.nn)=some (decide (i=0))
 i1:jk K (.ref C) (.ref S.tg)=some (decide (i=1))
 i2:jk K (.ref C) (.ref S.nr)=some (decide (i=2))
 i3:jk K (.ref C) (.ref S.nt)=some (decide (i=3))
 i4:jk K (.ref C) (.ref S.rw)=some (decide (i=4))
 i5:jk K (.ref C) (.ref S.od)=some false
 i6:jk K (.ref C) (.ref S.tm)=some false
 iv:jk K (.ref C) (.type "ValueError")=some true
theorem xf_of {K:zg}{nn tg nr nt rw od tm be C:zm} (i:Fin 5) (b0 b1 b2 b3 b4:Bool) (h:(b0,b1,b2,b3,b4)=(decide (i=0),decide (i=1),decide (i=2),decide (i=3),decide (i=4))) (x:qD K C bmV "ValueError.__new__"=true) (r0:Zq K C (.ref be)=some true)
  (r1:qL K (.ref C) "__getattribute__"=some (some (.builtin "BaseException.__getattribute__"))) (r2:qL K (.ref C) "__getattr__"=some none) (r3:qL K (.ref C) "__class__"=some (some (.builtin "object.__class__"))) (r4:dI K (.builtin "object.__class__") "__get__"=some (some (.builtin "getset_descriptor.__get__"))) (r5:Gx K (.builtin "object.__class__")=some true) (r6:Zq K C (.type "object")=some true) (r7:Zq K C (.type "BaseException")=some true)
  (i0:jk K (.ref C) (.ref nn)=some b0) (i1:jk K (.ref C) (.ref tg)=some b1) (i2:jk K (.ref C) (.ref nr)=some b2) (i3:jk K (.ref C) (.ref nt)=some b3) (i4:jk K (.ref C) (.ref rw)=some b4) (i5:jk K (.ref C) (.ref od)=some false) (i6:jk K (.ref C) (.ref tm)=some false) (i7:jk K (.ref C) (.type "ValueError")=some true):XF K ⟨nn,tg,nr,nt,rw,od,tm,be⟩ C i:=by
 cases h;exact⟨x,r0,⟨r1,r2,r3,r4,r5,r6,r7⟩,i0,i1,i2,i3,i4,i5,i6,i7⟩
noncomputable def kdN (i:Fin 5):Str:=([("NoOrder":Str),"TooGreat"].getD i.val "")
noncomputable def p8 (b:Bool) (nm:Str) (l:List Str):List Str:=if b then l++[nm] else l
theorem kd_all:∀i:Fin 5,i.val<2->p8 (decide (i=1)) "TooGreat" (p8 (decide (i=0)) "NoOrder" [])=[kdN i]:=by decide +kernel
theorem zhh:∀i:Fin 5,Txt.join " " [kdN i]=kdN i/\([kdN i].map (·.length)).sum+[kdN i].length*(" ":Str).length<=16777216:=by decide +kernel
theorem zs5:∀i:Fin 5,i.val<2->decide (i=2)=false/\decide (i=3)=false/\decide (i=4)=false:=by decide
theorem zcj (b:Bool) (nm:Str) (l:List Str):(p8 b nm l).length<=l.length+1:=by
 unfold p8;split <;> simp
section
def zrB (K:zg) (S:Cs):Sp:=fun vs H Q _=>∃(x C:zm) (i:Fin 5),vs=[.ref x]/\H x=some (fJ x (.ref C))/\XF K S C i/\i.val<2/\∀H',zX H H'->Q (.str (kdN i)) H'
theorem Bm:qU ["e","kinds"] ["e"] (zP Kz):=⟨rfl,rfl,rfl,by decide +kernel,rfl,by decide +kernel,by decide +kernel⟩
theorem zoq (D:Def K mg "_law_kind" Kz ["e"]) (T:Txt K mg){xY ji qM xO wV zT ZQ vX:zm} (XJ:mg "NoName"=some (.ref xY)) (wy:mg "TooGreat"=some (.ref ji)) (vR:mg "NoReading"=some (.ref qM)) (Zx:mg "NoNote"=some (.ref xO)) (Yd:mg "NoRow"=some (.ref wV)) (vg:mg "NoOrder"=some (.ref zT)) (WM:mg "TooMany"=some (.ref ZQ)):Fn P w K mg base 1 "_law_kind" ["e"] (zrB K ⟨zT,ji,xY,xO,qM,wV,ZQ,vX⟩):=by
 refine D.fn Bm (fun vs H Q E h=>?_) (fun f cdv A outer s H vs Q E hr h=>?_)
 .obtain⟨x,C,i,rfl,_⟩:=h;rfl
 .obtain⟨x,C,i,rfl,hx,F,i2,q⟩:=h;obtain⟨e2,e3,e4⟩:=zs5 i i2;refine zbg (je (wX (i:=1) Bm.nd rfl (zN rfl) (di qK))
   (je (cN (WT.mk (Jq (jz ZW (by rfl) T.z_isinstance kh (za (pv 0) (za (yq (v:=.ref zT) (by rfl) vg rfl) zB)))))
    (wz (zbf (BJ xg xH xJ Qx (WE.mk (pv 1)) (zx jA qK z6))))
    ZP)
   (je (cN (WT.mk (Jq (jz ZW (by rfl) T.z_isinstance kh (za (pv 0) (za (yq (v:=.ref ji) (by rfl) wy rfl) zB)))))
    (wz (zbf (BJ xg xH xJ Qx (WE.mk (pv 1)) (zx jA qK z6))))
    ZP)
   (je (cN (WT.mk (pw_or (Jq (jz ZW (by rfl) T.z_isinstance kh (za (pv 0) (za (yq (v:=.ref xY) (by rfl) XJ rfl) zB)))) (pw_or (Jq (jz ZW (by rfl) T.z_isinstance kh (za (pv 0) (za (yq (v:=.ref xO) (by rfl) Zx rfl) zB)))) (pw_or (Jq (jz ZW (by rfl) T.z_isinstance kh (za (pv 0) (za (yq (v:=.ref qM) (by rfl) vR rfl) zB)))) (pw_or1 (Jq (jz ZW (by rfl) T.z_isinstance kh (za (pv 0) (za (yq (v:=.ref wV) (by rfl) Yd rfl) zB)))))))).pt)
    (wz (zbf (BJ xg xH xJ Qx (WE.mk (pv 1)) (zx jA qK z6))))
    ZP)
   (je (cN (WT.mk (pw_or (Jq (jz ZW (by rfl) T.z_isinstance kh (za (pv 0) (za (yq (v:=.ref ZQ) (by rfl) WM rfl) zB)))) (pw_or1 (nZ (Jq (jz ZW (by rfl) T.z_isinstance kh (za (pv 0) (za (iI (v:=.ty "ValueError") (by rfl) T.z_ValueError zao rfl) zB))))))).pt)
    (wz (zbf (BJ xg xH xJ Qx (WE.mk (pv 1)) (zx jA qK z6))))
    ZP)
   (wz (Jz (BJ jm xU xV Ye jA (zx (WE.mk (pv 1)) qK qm))))))))) ?_
  refine⟨(by decide),fun p hp=>?_⟩;have npx:x≠p:=fun e=>by rw[e,hp] at hx;cases hx
  obtain⟨l,el,ll⟩:∃l:List Str,l=[]/\l.length<=0:=⟨[],rfl,zE _⟩;have s1:zX H (upd H p (.lst (l.map V.str))):=zX.new hp;have h1:(upd H p (.lst (l.map V.str))) p=some (.lst (l.map V.str)):=zL;have hx1:=s1 _ _ hx;rw[show (HO.lst []:HO)=.lst (l.map V.str) by rw[el];rfl];generalize upd H p (.lst (l.map V.str))=H1 at s1 h1 hx1 ⊢;dsimp only[rP];refine Ga (fun σ' H'=>σ'=[some (.ref x),some (.ref p)]/\zX H H'/\H' p=some (.lst ((p8 (decide (i=0)) "NoOrder" l).map V.str))/\H' x=some (fJ x (.ref C))) ?_ (fun N hN=>?_);rotate_left
  .refine⟨_,rfl,_,_,_,_,_,rfl,fun _ z=>z,.exc F.xl hx1,F.i0,_,rfl,ifD (fun z=>⟨_,rfl,.inl ⟨rfl,_,SqL.of h1⟩,p,_,_,rfl,rfl,h1,(by rw[zf,qC];omega),hN _ _ ⟨rfl,s1.wr hp,by rw[zL,p8,if_pos (decide_eq_true z),jw];rfl,by rw[jM npx];exact hx1⟩⟩) (fun z=>hN _ _ ⟨rfl,s1,by rw[p8,if_neg (by rw[decide_eq_false z];decide)];exact h1,hx1⟩)⟩
  clear h1 s1 hx1;rintro σ' H1 ⟨rfl,s1,h1,hx1⟩;have ll:(p8 (decide (i=0)) "NoOrder" l).length<=1:=qd (zcj ..) (by omega);have el:=congrArg (p8 (decide (i=0)) "NoOrder") el;generalize p8 (decide (i=0)) "NoOrder" l=l at h1 ll el;refine Ga (fun σ' H'=>σ'=[some (.ref x),some (.ref p)]/\zX H H'/\H' p=some (.lst ((p8 (decide (i=1)) "TooGreat" l).map V.str))/\H' x=some (fJ x (.ref C))) ?_ (fun N hN=>?_);rotate_left
  .refine⟨_,rfl,_,_,_,_,_,rfl,fun _ z=>z,.exc F.xl hx1,F.i1,_,rfl,ifD (fun z=>⟨_,rfl,.inl ⟨rfl,_,SqL.of h1⟩,p,_,_,rfl,rfl,h1,(by rw[zf,qC];omega),hN _ _ ⟨rfl,s1.wr hp,by rw[zL,p8,if_pos (decide_eq_true z),jw];rfl,by rw[jM npx];exact hx1⟩⟩) (fun z=>hN _ _ ⟨rfl,s1,by rw[p8,if_neg (by rw[decide_eq_false z];decide)];exact h1,hx1⟩)⟩
  clear h1 s1 hx1;rintro σ' H1 ⟨rfl,s1,h1,hx1⟩;have ll:(p8 (decide (i=1)) "TooGreat" l).length<=2:=qd (zcj ..) (by omega);have el:=congrArg (p8 (decide (i=1)) "TooGreat") el;generalize p8 (decide (i=1)) "TooGreat" l=l at h1 ll el;rw[kd_all i i2] at el;subst el;refine Ga (fun σ' H'=>σ'=[some (.ref x),some (.ref p)]/\H'=H1) ?_ (fun N hN=>?_);rotate_left
  .exact⟨_,rfl,_,_,_,_,false,rfl,fun _ z=>z,.exc F.xl hx1,by rw[<- e2];exact F.i2,_,rfl,Vu ⟨_,rfl,_,_,_,_,false,rfl,fun _ z=>z,.exc F.xl hx1,by rw[<- e3];exact F.i3,_,rfl,Vu ⟨_,rfl,_,_,_,_,false,rfl,fun _ z=>z,.exc F.xl hx1,by rw[<- e4];exact F.i4,_,rfl,Vu ⟨_,rfl,_,_,_,_,false,rfl,fun _ z=>z,.exc F.xl hx1,F.i5,_,rfl,hN _ _ ⟨rfl,rfl⟩⟩⟩⟩⟩
  rintro σ' H2 ⟨rfl,rfl⟩;refine Ga (fun σ' H'=>σ'=[some (.ref x),some (.ref p)]/\H'=H2) ?_ (fun N hN=>?_);rotate_left
  .exact⟨_,rfl,_,_,_,_,false,rfl,fun _ z=>z,.exc F.xl hx1,F.i6,_,rfl,Vu ⟨_,rfl,_,_,_,_,true,rfl,fun _ z=>z,.exc F.xl hx1,F.iv,_,rfl,Vu (hN _ _ ⟨rfl,rfl⟩)⟩⟩
  rintro σ' H3 ⟨rfl,rfl⟩;refine⟨rfl,_,rfl," ",p,[kdN i],rfl,rfl,SqL.of h1,(zhh i).2,?_⟩;rw[(zhh i).1];exact q H3 s1
def FT (TD:Sp) (vs:List V) (H:Hp) (A:V->Hp->Prop) (R:zc->Hp->Prop):Prop:=∀(Q:VK) (E:XK),(∀v H',A v H'->Q v H')->(∀C H',R C H'->E C none H')->TD vs H Q E
def G7 (K:zg) (S:Cs) (CD:zm) (TD:Sp):Sp:=fun vs H Q _=>∃(x dx:zm) (fs:List (Str×V)) (o:V) (A:V->Hp->Prop) (R:zc->Hp->Prop),vs=[.ref x,o]/\H x=some (.ins CD dx fs)/\fs.lookup ("told":Str)=none/\FT TD [.ref x,o] H A R /\
 (∀v H1,A v H1->∃r:Str,v=.str r/\∀p H',zX H1 H'->H' p=some (.tup [.str "told",.str r])->Q (.ref p) H') /\
 (∀C H1,R C H1->∃(C':zm) (i:Fin 5),C=.ref C'/\XF K S C' i/\i.val<2/\∀p H',zX H1 H'->H' p=some (.tup [.str "refused",.str (kdN i)])->Q (.ref p) H')
theorem Xp:qU ["desk","order","caught","found","e"] ["desk","order"] (zP KH):=⟨rfl,rfl,rfl,by decide +kernel,rfl,by decide +kernel,by decide +kernel⟩
theorem zlA (D:Def K mg "_law_told" KH ["desk","order"]) (T:Txt K mg){S:Cs}{vX:zm} (eb:S.be=vX) (JN:mg "BellError"=some (.ref vX)) (Xe:qD K vX bmV "ValueError.__new__"=true){CD:zm}{TD:Sp} (zae:MtE P w K mg base 46 CD "told" ["self","order"] TD) (m8:Fn P w K mg base 1 "_law_kind" ["e"] (zrB K S)):Fn P w K mg base 47 "_law_told" ["desk","order"] (G7 K S CD TD):=by
 refine D.fn Xp (fun vs H Q E h=>?_) (fun f cdv A outer s H vs Q E hr h=>?_)
 .obtain⟨x,dx,fs,o,A,R,rfl,_⟩:=h;rfl
 .obtain⟨x,dx,fs,o,Aw,Rw,rfl,hx,hl,td,qa,qr⟩:=h;refine⟨_,(zF (jb (i:=2) Xp.nd rfl (zN rfl) az)
   (zF (jb (i:=3) Xp.nd rfl (zN rfl) az)
   (zF (zoE (i:=4) rfl rfl Xp.nd rfl rfl rfl (by rfl) JN Xe (by decide) (fun pn xe G hx=>(zR (jb (i:=3) Xp.nd rfl (zN rfl) (nU (pv 0) zae (hr.mono (by decide)) hx (za (pv 1) zB))))) (fun x=>(zR (jb (i:=2) Xp.nd rfl (zN rfl) (pv 4)))))
   (zF (wO (jh zaR (pv 2) az (qZ _))
    (zR (ju (nW (za jG (za (vJ m8 (hr.mono (by decide)) (by rfl) (za (pv 2) zB)) zB)))))
    j4)
   (zF (wO (Jq (jz VV (by rfl) T.z_isinstance kh (za (pv 3) (za (iI (v:=.ty "str") (by rfl) T.z_str Q7 rfl) zB))))
    (zR (ju (nW (za jG (za (pv 3) zB)))))
    j4)
   (zR (ju (nW (za jG (za jG zB)))))))))),?_⟩
  refine⟨_,rfl,x,dx,fs,rfl,hx,hl,_,rfl,td _ _ (fun v H1 a=>?_) (fun C H1 r=>?_)⟩
  .obtain⟨r,rfl,q⟩:=qa v H1 a;refine⟨_,rfl,rfl,_,rfl,Vu ⟨_,rfl,_,_,_,true,rfl,aa.str _,cW K,_,rfl,Ib ⟨_,rfl,(by show 2<=sizeLine;decide),fun p hp=>q p _ (zX.new hp) zL⟩⟩⟩
  .obtain⟨C',i,rfl,F,i2,q⟩:=qr C H1 r;refine⟨C',bmV,_,rfl,F.ex,by decide,eb ▸ F.mr,fun y hy=>⟨_,rfl,?_⟩⟩;have s2:zX H1 (upd H1 y (fJ y (.ref C'))):=zX.new hy;have h2:(upd H1 y (fJ y (.ref C'))) y=some (fJ y (.ref C')):=zL;generalize upd H1 y (fJ y (.ref C'))=H2 at s2 h2 ⊢;refine⟨_,rfl,rfl,_,rfl,Ib ⟨_,rfl,y,C',i,rfl,h2,F,i2,fun H3 s3=>⟨(by show 2<=sizeLine;decide),fun p hp=>q p _ ((s2.trans s3).trans (zX.new hp)) zL⟩⟩⟩
end
theorem zfk:cpl (" ":Str)=[32]:=by decide +kernel
theorem bz (ws:List Str):cpl (Txt.join " " ws)=JL 32 (ws.map cpl):=by
 rw[Bc,show (" ":Str)=⟨#[32]⟩ by decide +kernel,nF]
theorem join_one (x:Str):Txt.join " " [x]=x:=Vh (by rw[bz];rfl)
theorem pK {x:Str}{r:List Str} (h:r≠[]):cpl (Txt.join " " (x::r))=cpl x++32::cpl (Txt.join " " r):=by
 cases r with
 | nil=>exact absurd rfl h
 | cons y r=>
  rw[bz,bz];rfl
theorem zrn {h w0 nm:Str}{r:List Str} (e:cpl h=cpl w0++[32]) (hr:r≠[]):((h++nm)++" ")++Txt.join " " r=Txt.join " " (w0::nm::r):=by
 apply Vh;rw[pK (by simp),pK hr,Qo,Qo,Qo,zfk,e];simp only[qQ,Xu,Je]
theorem fQ {w0 nm:Str}{r:List Str} (h0:Vs w0) (h1:Vs nm) (h2:∀w∈r,Vs w):Txt.split (Txt.join " " (w0::nm::r)) " "=w0::nm::r:=by
 rw[oA];refine WW (by simp) fun w hw=>?_;rcases List.mem_cons.mp hw with rfl | hw
 .exact h0
 rcases List.mem_cons.mp hw with rfl | hw
 .exact h1
 exact h2 w hw
theorem WY {ns:List Int} (h:∀n∈ns,0<=n):∀w∈ns.map txt,Vs w:=fun w hw=>by
 obtain⟨n,hn,rfl⟩:=List.mem_map.mp hw;exact zmn (h n hn)
theorem LQ {ns:List Int} (h:∀n∈ns,0<=n):(ns.map txt).map xN=ns:=by
 rw[wM];have:ns.map (xN ∘ txt)=ns.map id:=aK fun n hn=>wZ (h n hn);rw[this,List.map_id]
theorem GZ {w0 nm:Str}{ns:List Int} (h0:w0.length<=100) (h1:nm.length<=100) (hl:ns.length<=2000) (hb:∀n∈ns,0<=n/\n<10 ^ 500):(Txt.join " " (w0::nm::ns.map txt)).length+2<=sizeLine:=by
 have h2:=Be (w0::nm::ns.map txt);have h3:=iQ hb;simp only[zY,yL,qx,zf] at h2;rw[qC];omega
theorem T6 {ns:List Int} (h:∀n∈ns,0<=n/\n<10 ^ 60) (pw:ns.Pairwise (·<=·)):WD (ns.map txt):=by
 refine⟨fun x hx=>?_,by rw[LQ fun n hn=>(h n hn).1];exact pw⟩;obtain⟨n,hn,rfl⟩:=List.mem_map.mp hx;exact Xn (by decide) (h n hn).1 (h n hn).2
theorem J4 {n:Int} (h0:0<=n) (h1:n<10 ^ 500):(txt n).length<=500:=(Xn (k:=500) (by decide) h0 h1).le
theorem zhj {n:Int} (h0:0<=n) (h1:n<10 ^ 500):Num 3000 (txt n):=by
 have h:=Xn (k:=500) (by decide) h0 h1;exact⟨h.ne,qd h.le (by decide),h.dig,h.led⟩
noncomputable def Iv (x:Str):Bool:=decide (1<=x.length) && (cpl x).all (fun c=>decide (48<=c) && decide (c<=57)) && (!(decide ((cpl x)[0]?=some 48)) || decide (cpl x=[48]))
theorem nP {m:Nat}{x:Str} (h:Num m x):Iv x=true:=by
 unfold Iv;simp only[vh,Vm,yX,decide_eq_true_eq,decide_eq_false_iff_not,Xr];refine⟨⟨h.ne,fun c hc=>h.dig c hc⟩,?_⟩;by_cases z:(cpl x)[0]?=some 48
 .exact .inr (h.led z)
 .exact .inl z
noncomputable def zaq (x:Str):Bool:=Iv x && decide (xN x<=60)
theorem Tt {x:Str} (h:Jk x):zaq x=true:=by
 unfold zaq;rw[nP h.1,decide_eq_true h.2];rfl
noncomputable def zfZ (r:List Str):Bool:=r.all Iv && decide ((r.map xN).Pairwise (·<=·))
theorem zjp {r:List Str} (h:WD r):zfZ r=true:=by
 unfold zfZ;rw[decide_eq_true h.inc,RN,Xr];exact fun x hx=>nP (h.num x hx)
noncomputable def zqH (w0:Str):List Str->Bool
 | []=>true
 | _::r=>(decide (w0≠"note") || r.isEmpty) && (decide (w0≠"frame") || decide (r.length≠3) || !(Iv (r.getD 0 "") && zaq (r.getD 1 "") && Iv (r.getD 2 ""))) && (decide (¬(w0="write"∨w0="key")) || decide (r.length≠1) || !Iv (r.getD 0 "")) && (decide (¬(w0="read"∨w0="unkey"∨w0="hear")) || !zfZ r) && (decide (w0≠"short") || decide (r.length≠2)) && (decide (w0≠"best") || decide (r.length≠2) || !zaq (r.getD 1 "")) && (decide (w0≠"cheap") || decide (r.length≠4))
structure Bad (w0:Str) (ws:List Str):Prop where
 nt:¬(w0="note"/\2<=ws.length)
 fr:w0="frame"->∀a b c d,ws=[a,b,c,d]->¬Hr a b c d
 wr:w0="write"∨w0="key"->∀a b,ws=[a,b]->¬(vp a/\Num 3000 b)
 rd:w0="read"∨w0="unkey"∨w0="hear"->∀a r,ws=a::r->¬(vp a/\WD r)
 ch:¬tW w0 ws
theorem zqI {w0:Str}{ws:List Str} (h:zqH w0 ws=true):Bad w0 ws:=by
 cases ws with
 | nil=>
  refine⟨(fun z=>by have:=z.2;simp at this),(fun _ _ _ _ _ z=>nomatch z),(fun _ _ _ z=>nomatch z),(fun _ _ _ z=>nomatch z),fun z=>?_⟩;rcases z with ⟨_,_,_,_,z,_⟩ | ⟨_,_,_,_,z,_⟩ | ⟨_,_,_,_,_,_,z,_⟩ <;> cases z
 | cons a r=>
  simp only[zqH,vh,Vm,decide_eq_true_eq,List.isEmpty_iff] at h;obtain⟨⟨⟨⟨⟨⟨h1,h2⟩,h3⟩,h4⟩,h5⟩,h6⟩,h7⟩:=h;refine⟨fun z=>?_,fun e a b c d z g=>?_,fun e a b z g=>?_,fun e a r z g=>?_,fun z=>?_⟩
  .rcases h1 with h1 | h1
   .exact h1 z.1
   .have:=z.2;rw[h1] at this;simp at this
  .cases z;rcases h2 with (h2 | h2) | h2
   .exact h2 e
   .exact h2 rfl
   .simp[nP g.b,Tt g.c,nP g.d] at h2
  .cases z;rcases h3 with (h3 | h3) | h3
   .exact h3 e
   .exact h3 rfl
   .simp[nP g.2] at h3
  .cases z;rcases h4 with h4 | h4
   .exact h4 e
   .simp[zjp g.2] at h4
  .rcases z with ⟨e,_,_,_,z,_⟩ | ⟨e,_,_,_,z,g⟩ | ⟨e,_,_,_,_,_,z,_⟩ <;> cases z
   .rcases h5 with h5 | h5
    .exact h5 e
    .exact h5 rfl
   .rcases h6 with (h6 | h6) | h6
    .exact h6 e
    .exact h6 rfl
    .simp[Tt g.2.2] at h6
   .rcases h7 with h7 | h7
    .exact h7 e
    .exact h7 rfl
def WrT (o:Str):Prop:=∃w0 ws,Txt.split o " "=w0::ws/\Bad w0 ws/\o.length<=600/\ws.length<=6/\∀y∈ws,y.length<=20
noncomputable def zqG:List Str->Bool
 | []=>false
 | w0::ws=>zqH w0 ws
abbrev Pt:=List (Option Str)
noncomputable def atN (p:Pt) (nm:Str):List Str:=p.map (·.getD nm)
noncomputable def okP (p:Pt):Bool:=decide (p≠[]) && decide (p.length<=6) && p.all fun o=>match o with | none=>true | some w=>!(cpl w).contains 32 && decide (w.length<=20)
theorem zf8 {o nm:Str}{p:Pt} (g:Vs nm) (gl:nm.length<=20) (k:okP p=true) (b:zqG (atN p nm)=true) (e:cpl o=JL 32 ((atN p nm).map cpl)):WrT o:=by
 unfold okP at k;simp only[vh,decide_eq_true_eq,Xr] at k;obtain⟨⟨k1,k2⟩,k3⟩:=k;have hw:∀w∈atN p nm,Vs w/\w.length<=20:=fun w hw=>by
  obtain⟨o,ho,rfl⟩:=List.mem_map.mp hw;have:=k3 o ho;cases o with
  | none=>exact⟨g,gl⟩
  | some y=>
   simp only[vh,decide_eq_true_eq,yX,List.contains_eq_mem,decide_eq_false_iff_not] at this;exact this
 have eo:o=Txt.join " " (atN p nm):=Vh (by rw[e,bz]);have ne:atN p nm≠[]:=by
  unfold atN;simpa using k1
 have sj:Txt.split o " "=atN p nm:=by
  rw[eo,oA];exact WW ne fun w h=>(hw w h).1
 have ln:=Be (atN p nm);have l2:((atN p nm).map (·.length)).sum<=(atN p nm).length*20:=by
  have:∀l:List Str,(∀w∈l,w.length<=20)->(l.map (·.length)).sum<=l.length*20:=by
   intro l
   induction l with
   | nil=>exact fun _=>zE _
   | cons x l ih=>
    intro h;have h1:=h x (zJ ..);have h2:=ih fun w hw=>h w (zG _ hw);simp only[zY,yL,qx];clear gl k2 ln;omega
  exact this _ fun w h=>(hw w h).2
 have l3:(atN p nm).length<=6:=by
  unfold atN;rw[zf];exact k2
 cases h:atN p nm with
 | nil=>exact absurd h ne
 | cons w0 ws=>
  have l4:=l3;rw[h] at b sj hw l4;exact⟨w0,ws,sj,zqI b,by rw[eo];clear gl k2 l4;omega,by rw[qx] at l4;clear gl k2 ln l2 l3;omega,fun y hy=>(hw y (zG _ hy)).2⟩
def zkO (x:Str):Prop:=x.length<=20/\WrT x/\∀nm,vp nm->WrT (Txt.replace x "N" nm)
theorem zxn:Vs "N":=by unfold Vs;decide +kernel
theorem bV {x:Str} (p:Pt) (h:okP p=true/\zqG (atN p "N")=true/\cpl x=JL 32 ((atN p "N").map cpl)/\x.length<=20) (h2:jB x "N" 0 x.length (x.length+1)=[]):zkO x:=by
 obtain⟨h1,hb,he,hl⟩:=h;have w:=zf8 zxn (by decide +kernel) h1 hb he;refine⟨hl,w,fun nm _=>?_⟩;have e:Txt.replace x "N" nm=x:=by
  unfold Txt.replace;rw[h2];rfl
 rw[e];exact w
theorem Jx {x p1 p2:Str} (p:Pt) (h:okP p=true/\cpl x=JL 32 ((atN p "N").map cpl)/\x.length<=20) (h2:(jB x "N" 0 x.length (x.length+1)).isEmpty=false/\Qj x (jB x "N" 0 x.length (x.length+1)) ("N":Str).length=[p1,p2]) (hb:∀nm,zqG (atN p nm)=true) (he:∀nm,cpl p1++(cpl nm++cpl p2)=JL 32 ((atN p nm).map cpl)):zkO x:=by
 obtain⟨h1,e,hl⟩:=h;refine⟨hl,zf8 zxn (by decide +kernel) h1 (hb _) e,fun nm g=>zf8 (WP g) (qd g.le (by decide)) h1 (hb nm) ?_⟩;rw[<- he nm];unfold Txt.replace;rw[h2.1,h2.2,if_neg (by rw[show ("N":Str).length=1 by decide +kernel];simp)];show ((p1.cps++nm.cps)++p2.cps:Array Nat).toList=_;simp[cpl]
theorem zay:cpl ("":Str)=[]:=by decide +kernel
noncomputable def Ei:List Str:=["frame N 4 2 x","frame N 4 61 1","frame N 4 2","frame N 007 2 1","frame N 4 2 1 1","write N 3x","write N","write N -1","read N 3 2","read N ","note N","hear N 1  2","Write N 1","N",""," ","frame","frame ","short 1 2","best 1 2 61","cheap 1 1 1 1"]
theorem zmq:∀x∈Ei,zkO x:=by
 intro x hx;simp only[Ei,xX,jL,or_false] at hx;rcases hx with rfl | rfl | rfl | rfl | rfl | rfl | rfl | rfl | rfl | rfl | rfl | rfl | rfl | rfl | rfl | rfl | rfl | rfl | rfl | rfl | rfl
 .exact Jx (p1:="frame ") (p2:=" 4 2 x") [some "frame",none,some "4",some "2",some "x"] (by decide +kernel) (by decide +kernel) (fun _=>by kernel_rfl) (fun _=>by kernel_rfl)
 .exact Jx (p1:="frame ") (p2:=" 4 61 1") [some "frame",none,some "4",some "61",some "1"] (by decide +kernel) (by decide +kernel) (fun _=>by kernel_rfl) (fun _=>by kernel_rfl)
 .exact Jx (p1:="frame ") (p2:=" 4 2") [some "frame",none,some "4",some "2"] (by decide +kernel) (by decide +kernel) (fun _=>by kernel_rfl) (fun _=>by kernel_rfl)
 .exact Jx (p1:="frame ") (p2:=" 007 2 1") [some "frame",none,some "007",some "2",some "1"] (by decide +kernel) (by decide +kernel) (fun _=>by kernel_rfl) (fun _=>by kernel_rfl)
 .exact Jx (p1:="frame ") (p2:=" 4 2 1 1") [some "frame",none,some "4",some "2",some "1",some "1"] (by decide +kernel) (by decide +kernel) (fun _=>by kernel_rfl) (fun _=>by kernel_rfl)
 .exact Jx (p1:="write ") (p2:=" 3x") [some "write",none,some "3x"] (by decide +kernel) (by decide +kernel) (fun _=>by kernel_rfl) (fun _=>by kernel_rfl)
 .exact Jx (p1:="write ") (p2:="") [some "write",none] (by decide +kernel) (by decide +kernel) (fun _=>by kernel_rfl) (fun _=>by rw[zay,jr];kernel_rfl)
 .exact Jx (p1:="write ") (p2:=" -1") [some "write",none,some "-1"] (by decide +kernel) (by decide +kernel) (fun _=>by kernel_rfl) (fun _=>by kernel_rfl)
 .exact Jx (p1:="read ") (p2:=" 3 2") [some "read",none,some "3",some "2"] (by decide +kernel) (by decide +kernel) (fun _=>by kernel_rfl) (fun _=>by kernel_rfl)
 .exact Jx (p1:="read ") (p2:=" ") [some "read",none,some ""] (by decide +kernel) (by decide +kernel) (fun _=>by kernel_rfl) (fun _=>by kernel_rfl)
 .exact Jx (p1:="note ") (p2:="") [some "note",none] (by decide +kernel) (by decide +kernel) (fun _=>by kernel_rfl) (fun _=>by rw[zay,jr];kernel_rfl)
 .exact Jx (p1:="hear ") (p2:=" 1  2") [some "hear",none,some "1",some "",some "2"] (by decide +kernel) (by decide +kernel) (fun _=>by kernel_rfl) (fun _=>by kernel_rfl)
 .exact Jx (p1:="Write ") (p2:=" 1") [some "Write",none,some "1"] (by decide +kernel) (by decide +kernel) (fun _=>by kernel_rfl) (fun _=>by kernel_rfl)
 .exact Jx (p1:="") (p2:="") [none] (by decide +kernel) (by decide +kernel) (fun _=>by kernel_rfl) (fun _=>by rw[zay,jr];kernel_rfl)
 .exact bV [some ""] (by decide +kernel) (by decide +kernel)
 .exact bV [some "",some ""] (by decide +kernel) (by decide +kernel)
 .exact bV [some "frame"] (by decide +kernel) (by decide +kernel)
 .exact bV [some "frame",some ""] (by decide +kernel) (by decide +kernel)
 .exact bV [some "short",some "1",some "2"] (by decide +kernel) (by decide +kernel)
 .exact bV [some "best",some "1",some "2",some "61"] (by decide +kernel) (by decide +kernel)
 .exact bV [some "cheap",some "1",some "1",some "1",some "1"] (by decide +kernel) (by decide +kernel)
theorem zcX (s sub:Str) (hi limit:Nat):∀(l:List Nat) (st:Array Nat×Nat),limit<=st.fst.size->forIn (m:=Id) l st (wN s sub hi limit)=pure st
 | [],st,_=>rfl
 | a::l,st,h=>by
  rw[Vq];unfold wN;rw[if_neg (by omega)];exact zcX s sub hi limit l _ h
theorem zhl {s:Str}{limit i free:Nat}{l:List Nat}{f:Array Nat} (hf:f.size<limit) (hi:free<=i) (h:(cpl s)[i]?=some 32):forIn (m:=Id) (i::l) (f,free) (wN s sp s.length limit)=forIn (m:=Id) l (f.push i,i+1) (wN s sp s.length limit):=by
 have h1:=(Cw s 32 i).mpr h;rw[<- zds] at h1;rw[Vq]
 conv=>lhs;unfold wN
 rw[if_pos ⟨⟨⟨hf,hi⟩,h1.1⟩,h1.2⟩];rfl
theorem zly {s:Str}{limit i free c:Nat}{l:List Nat}{f:Array Nat} (h:(cpl s)[i]?=some c) (hc:c≠32):forIn (m:=Id) (i::l) (f,free) (wN s sp s.length limit)=forIn (m:=Id) l (f,free) (wN s sp s.length limit):=by
 have h1:¬(i+sp.length<=s.length/\Builtin.Str.subAt s sp i=true):=fun z=>by
  rw[zds] at z;have:=(Cw s 32 i).mp z;rw[show s.cps.toList=cpl s from rfl,h] at this;exact hc (xr this)
 rw[Vq]
 conv=>lhs;unfold wN
 rw[if_neg (fun z=>h1 ⟨z.1.2,z.2⟩)];rfl
theorem zbd (s:Str) (i j:Nat):cpl (wQ s i j)=((cpl s).take j).drop i:=by
 unfold wQ cpl;rw[vz,List.extract_eq_drop_take];simp[Mt]
theorem zli (x:Str):wA sp<=wA x:=by
 have h:wA sp=1:=by decide +kernel
 rw[h];unfold wA;split
 .exact zE _
 split <;> decide
theorem zoX:Vs "note":=by unfold Vs;decide +kernel
theorem TY:∀(ws:List Str) (a:Array Nat),(ws.foldl (fun(acc:Array Nat) (p:Str)=>acc++("":Str).cps++p.cps) a).toList=a.toList++(ws.map cpl).flatten
 | [],a=>by simp
 | x::ws,a=>by
  have:("":Str).cps=#[]:=by decide +kernel
  rw[Vp,TY ws,this];simp[cpl]
theorem ziF (ws:List Str):cpl (Txt.join "" ws)=(ws.map cpl).flatten:=by
 unfold Txt.join BW;cases ws with
 | nil=>rfl
 | cons x ws=>
  show BR (uK _ _ _)=_;rw[aH,We,TY];rfl
noncomputable def came (ms:List Int):Str:=Txt.join "" (ms.map fun n=>" "++txt n)
theorem zcq (ms:List Int):cpl (came ms)=(ms.map fun n=>32::cpl (txt n)).flatten:=by
 unfold came;rw[ziF,wM];congr 1;refine aK fun n _=>?_;show cpl (" "++txt n)=_;rw[Qo,zfk];rfl
theorem T5 (x:List Nat):∀ys:List (List Nat),JL 32 (x::ys)=x++(ys.map fun y=>32::y).flatten
 | []=>by simp[JL]
 | y::ys=>by
  show x++32::JL 32 (y::ys)=_;rw[T5 y ys];simp
theorem zkU {h w0 nm:Str} (e:cpl h=cpl w0++32::cpl nm) (ms:List Int):h++came ms=Txt.join " " (w0::nm::ms.map txt):=by
 apply Vh;rw[Qo,e,zcq,bz,zY,T5,zY,zY,yZ,wM,wM];simp[Function.comp_def]
theorem zcr {ms:List Int} (hb:∀n∈ms,0<=n/\n<10 ^ 60):(came ms).length<=ms.length*61:=by
 rw[<- wj,zcq]
 induction ms with
 | nil=>exact zE _
 | cons n ms ih=>
  have h1:=hb n (zJ ..);have h2:=(Xn (k:=60) (by decide) h1.1 h1.2).le;rw[zY,yZ,zM,qx,wj,qx];have:=ih fun m hm=>hb m (zG _ hm);omega
theorem zde {L zy:Int} (L0:0<=L):∀(bss:List (List Int)) (k:Int),(∀bs∈bss,∀x∈vf zy bs,0<=x/\x<L)->∀y∈yt L zy k bss,k*L<=y/\y<(k+(bss.length:Int))*L
 | [],_,_,_,h=>nomatch h
 | bs::r,k,h,y,hy=>by
  rcases List.mem_append.mp hy with z | z
  .obtain⟨x,hx,rfl⟩:=List.mem_map.mp z;have hb:=h bs (zJ ..) x hx;have e:(k+((bs::r).length:Int))*L=k*L+(((r.length:Int)+1)*L):=by rw[du,qx];rfl
   have m:L<=((r.length:Int)+1)*L:=by
    rw[du,dw];have:=yQ (cF r.length) L0;omega
   show k*L<=k*L+x/\k*L+x < _;omega
  .have ih:=zde L0 r (k+1) (fun b hb=>h b (zG _ hb)) y z;rw[show k+1+(r.length:Int)=k+((bs::r).length:Int) by rw[qx];clear L0 ih;omega,du,dw] at ih;omega
theorem Iw {s:Str}{limit free:Nat}{f:Array Nat}:∀(k i m:Nat),(∀j,i<=j->j<i+k->∃c,(cpl s)[j]?=some c/\c≠32)->forIn (m:=Id) (zdM i (k+m)) (f,free) (wN s sp s.length limit)=forIn (m:=Id) (zdM (i+k) m) (f,free) (wN s sp s.length limit)
 | 0,i,m,_=>by rw[yM,zbr]
 | k+1,i,m,h=>by
  obtain⟨c,h1,h2⟩:=h i (zE _) (by omega);rw[show k+1+m=(k+m)+1 by omega,gj,zly h1 h2,Iw k (i+1) m fun j h1 h2=>h j (by omega) (by omega),show i+1+k=i+(k+1) by omega]
theorem zre (nm x:Str):cpl ((("note "++nm)++" ")++x)=([110,111,116,101,32]++cpl nm)++32::cpl x:=by
 rw[Qo,Qo,Qo,zfk,show cpl ("note ":Str)=[110,111,116,101,32] by decide +kernel];simp only[qQ,Xu,Je]
def NtO (o nm x:Str):Prop:=cpl o=([110,111,116,101,32]++cpl nm)++32::cpl x
theorem zfB {o nm x:Str} (e:NtO o nm x):o.length=6+nm.length+x.length:=by
 rw[<- wj,e];simp only[zM,qx,Gv,wj];omega
theorem zrf {o nm x:Str} (e:NtO o nm x) (hw:Vs nm):jB o sp 0 o.length 2=[4,5+nm.length]:=by
 rw[StrLaws.occ_eq];have el:=zfB e;have e:cpl o=([110,111,116,101,32]++cpl nm)++32::cpl x:=e;have g1:∀j,0<=j->j<0+4->∃c,(cpl o)[j]?=some c/\c≠32:=fun j _ hj=>by
  rw[e,qP (by rw[zM];show j<5+_;omega),qP (by show j<5;omega)]
  match j,hj with
  | 0,_=>exact⟨110,rfl,by decide⟩
  | 1,_=>exact⟨111,rfl,by decide⟩
  | 2,_=>exact⟨116,rfl,by decide⟩
  | 3,_=>exact⟨101,rfl,by decide⟩
 have g2:(cpl o)[4]?=some 32:=by
  rw[e,qP (by rw[zM];show 4<5+_;omega),qP (by decide)];rfl
 have g3:∀j,5<=j->j<5+nm.length->∃c,(cpl o)[j]?=some c/\c≠32:=fun j h1 h2=>by
  have hl:j-5<(cpl nm).length:=by rw[wj];omega
  rw[e,qP (by rw[zM,wj];show j<5+_;omega),jj (by show 5<=j;omega)];refine⟨_,zq hl,fun z=>hw ?_⟩;have:=Xv hl;rwa[z] at this
 have g4:(cpl o)[5+nm.length]?=some 32:=by
  rw[e,jj (by rw[zM,wj];exact zE _),zM,wj];show (32::cpl x)[5+nm.length-(5+nm.length)]?=some 32;rw[Xx];rfl
 have er:o.length+1-0=4+((nm.length+(x.length+1+1))+1):=by omega
 rw[er,Iw 4 0 _ g1,show 0+4=4 from rfl,gj,zhl (by decide) (by decide) g2,show 4+1=5 from rfl,Iw nm.length 5 _ g3,gj,zhl (by decide) (by clear el;omega) g4,zcX _ _ _ _ _ _ (by simp)];rfl
theorem zoh {o nm x:Str} (e:NtO o nm x) (hw:Vs nm):Txt.splitMax o " " 2=[("note":Str),nm,x]:=by
 have el:=zfB e;have hk:=zli o;have hl:sp.length=1:=by decide +kernel
 unfold Txt.splitMax;rw[oA,if_neg (by simp only[Vm,decide_eq_true_eq];omega)];have lo:limitOf o 2=2:=by
  unfold limitOf;simp
 rw[lo,zrf e hw,if_neg (by simp),gB];show [wQ o 0 4,wQ o (4+sp.length) (5+nm.length),wQ o (5+nm.length+sp.length) o.length]=_;have e:cpl o=([110,111,116,101,32]++cpl nm)++32::cpl x:=e;have l5:([110,111,116,101,32]++cpl nm:List Nat).length=5+nm.length:=by rw[zM,wj];rfl
 have a1:wQ o 0 4="note":=Vh (by rw[zbd,e,qQ];show _=cpl ("note":Str);rw[show cpl ("note":Str)=[110,111,116,101] by decide +kernel];rfl);have a2:wQ o (4+sp.length) (5+nm.length)=nm:=Vh (by rw[zbd,e,hl,List.take_left' l5];rfl);have a3:wQ o (5+nm.length+sp.length) o.length=x:=Vh (by
  rw[zbd,hl,QZ (by rw[wj];exact zE _),e,<- oV,List.drop_left' l5];rfl)
 rw[a1,a2,a3]
theorem zlv {o nm x:Str} (e:NtO o nm x) (hw:Vs nm):Txt.split o " "=("note":Str)::nm::Txt.split x sp:=by
 have eo:o=Txt.join " " (("note":Str)::nm::Txt.split x sp):=by
  apply Vh;rw[pK (by simp),pK (Ly x sp),oA,zcK,e,show cpl ("note":Str)=[110,111,116,101] by decide +kernel];simp only[qQ,Xu,Je]
 rw[eo];exact fQ zoX hw (zfW x)
theorem zrQ (x:Str):tx x.cps.toList=x:=Str.ext' (by simp[tx])
structure Hs (rd:List Int) (turns zK zy:Int) (ms:List Int):Prop where
 part:∀(i:Nat) (m:Int),ms[i]?=some m->GoodR turns zK zy (grp (turns+zy) (i:Int) rd)/\Jp turns zy rd i=m
 out:∀k:Int,¬(0<=k/\k<(ms.length:Int))->grp (turns+zy) k rd=[]
theorem zlr {ys:List Int}{i:Nat} (h:i<=ys.length):∃m,(ys.map (·+1)++[0])[i]?=some m/\(i<ys.length->m=ys.getD i 0+1)/\(i=ys.length->m=0):=by
 by_cases e:i<ys.length
 .refine⟨ys.getD i 0+1,?_,fun _=>rfl,fun z=>by omega⟩;rw[qP (by rw[zf];exact e),qF,zA,zq e];rfl
 .have e':i=ys.length:=by omega
  refine⟨0,?_,fun z=>absurd z e,fun _=>rfl⟩;rw[jj (by rw[zf];omega),zf,e',Xx];rfl
theorem Hs.ok {rd:List Int}{t b l:Int}{ys:List Int} (hd:Hs rd t b l (ys.map (·+1)++[0])) (b1:1<=b) (b60:b<=60) (bt:b<=t) (l0:0<=l) (lb:zZ l<=100) (tb:zZ t<=100) (yb:∀y∈ys,0<=y) (yl:ys.length<=1000) (rl:rd.length<=2000):zqB rd t b l ys.length:=by
 refine⟨rl,by omega,b60,l0,lb,by omega,by omega,tb,yl,fun i hi=>?_⟩;obtain⟨m,hm,hm1,_⟩:=zlr (ys:=ys) (i:=i) (by omega);have hp:=hd.part i m hm;rw[hp.2,hm1 hi];refine⟨hp.1,?_⟩;have:=yb _ (Xv hi);rw[zA,zq hi,xf];omega
theorem Hs.all {rd:List Int}{turns zK zy:Int}{ys:List Int} (hd:Hs rd turns zK zy (ys.map (·+1)++[0])):GoodR turns zK zy (grp (turns+zy) (ys.length:Int) rd)/\Jp turns zy rd ys.length=0/\(qJ ys.length).map (fun i=>Jp turns zy rd i-1)=ys:=by
 obtain⟨m,hm,_,hm2⟩:=zlr (ys:=ys) (i:=ys.length) (zE _);have hp:=hd.part _ m hm;rw[hp.2,hm2 rfl];refine⟨hp.1,rfl,?_⟩;apply QC
 .simp
 .intro i h1 h2;obtain⟨m,hm,hm1,_⟩:=zlr (ys:=ys) (i:=i) (by clear hp h1;omega);have hq:=hd.part i m hm;rw[List.getElem_map,uL,hq.2,hm1 h2,zA,zq h2,xf];clear hp h1 hq;omega
theorem pO {x:Str}{t b l:Int}{ys:List Int}{bss:List (List Int)} (S:zkP x t b l ys bss) (g:lK x) (b1:1<=b) (bt:b<=t) (l0:0<=l) (c3:3<=cnt t b l) :
  ys.length<=300/\(∀(i:Nat) (bs:List Int),bss[i]?=some bs->∃m,(ys.map (·+1)++[0])[i]?=some m/\m<cnt t b l/\yO bs/\bs.length=b.toNat/\Ko bs=m)/\(∀bs∈bss,yO bs/\bs.length=b.toNat/\Ko bs<cnt t b l)/\(yt (t+l) l 0 bss).length=(ys.length+1)*b.toNat/\(∀bs∈bss,∀y∈vf l bs,0<=y/\y<t)/\∀y∈yt (t+l) l 0 bss,0<=y/\y<301*(t+l):=by
 have nb:=zpR g.1 g.2;have mq:ys.length<=300:=zhI (by omega) S.bd S.last (by rw[S.num];exact nb.2);have ml:(ys.map (·+1)++[0]).length=bss.length:=by rw[S.len,zM,zf];rfl
 have mlt:∀m∈ys.map (·+1)++[0],m<cnt t b l:=fun m hm=>by
  rcases List.mem_append.mp hm with z | z
  .obtain⟨y,hy,rfl⟩:=List.mem_map.mp z;have:=S.bd y hy;clear b1 bt l0 nb mq ml;omega
  .rw[List.mem_singleton.mp z];clear nb mq ml;omega
 have zoa:∀(i:Nat) (bs:List Int),bss[i]?=some bs->∃m,(ys.map (·+1)++[0])[i]?=some m/\m<cnt t b l/\yO bs/\bs.length=b.toNat/\Ko bs=m:=fun i bs hi=>by
  have il:=(List.getElem?_eq_some_iff.mp hi).1;have hm:(ys.map (·+1)++[0])[i]?=some (ys.map (·+1)++[0])[i]:=zq (by rw[ml];exact il);exact⟨_,hm,mlt _ (qw hm),S.box i bs _ hi hm⟩
 have hall:∀bs∈bss,yO bs/\bs.length=b.toNat/\Ko bs<cnt t b l:=fun bs hbs=>by
  obtain⟨i,hi⟩:=vA hbs;obtain⟨m,hm,hlt,g1,g2,g3⟩:=zoa i bs hi;exact⟨g1,g2,by clear b1 bt l0 nb mq ml g2;omega⟩
 have hbl:∀bs∈bss,∀y∈vf l bs,0<=y/\y<t:=fun bs hbs y hy=>by
  obtain⟨g1,g2,g3⟩:=hall bs hbs;exact zar (turns:=t) g1 l0 (by rw[g2,show ((b.toNat:Nat):Int)=b by clear bt l0 c3 nb mq ml g2 g3;omega];exact g3) y hy
 refine⟨mq,zoa,hall,?_,hbl,fun y hy=>?_⟩
 .rw[Ui bss 0 fun bs hbs=>(hall bs hbs).2.1,S.len]
 .have h1:=zde (L:=t+l) (by clear nb mq ml;omega) bss 0 (fun bs hbs z hz=>by have:=hbl bs hbs z hz;clear b1 bt c3 nb mq ml;omega) y hy;have h2:(0+(bss.length:Int))*(t+l)<=301*(t+l):=vO (by rw[S.len];clear bt l0 c3 nb ml h1;omega) (by clear nb mq ml h1;omega);clear b1 bt c3 nb mq ml;omega
theorem zfO {x:Str}{t b l:Int}{ys rd ds:List Int}{bss:List (List Int)} (S:zkP x t b l ys bss) (g:lK x) (b1:1<=b) (bt:b<=t) (l0:0<=l) (c3:3<=cnt t b l)
  (dl:(yt (t+l) l 0 bss).length=ds.length) (db:∀d∈ds,0<=d/\d<=l) (pmr:rd.Perm (sums (yt (t+l) l 0 bss) ds)) (pw:rd.Pairwise (·<=·)):Hs rd t b l (ys.map (·+1)++[0]):=by
 obtain⟨mq,zoa,hall,rl,hbl,_⟩:=pO S g b1 bt l0 c3;have ml:(ys.map (·+1)++[0]).length=bss.length:=by rw[S.len,zM,zf];rfl
 have hL:0<t+l:=by clear dl mq rl ml;omega
 have gr:=zcH (L:=t+l) (zy:=l) hL l0 bss 0 ds (fun bs hbs y hy=>by have:=hbl bs hbs y hy;clear b1 bt c3 dl mq rl ml hL;omega) dl.symm db;have gp:∀k:Int,(grp (t+l) k rd).Perm (grp (t+l) k (sums (yt (t+l) l 0 bss) ds)):=fun k=>zk9 pmr;refine⟨fun i m hm=>?_,fun k hk=>?_⟩
 .have il:i<bss.length:=by rw[<- ml];exact(List.getElem?_eq_some_iff.mp hm).1
  have hi:=zq il;obtain⟨m',hm',hlt,g1,g2,g3⟩:=zoa i _ hi;rw[hm] at hm';cases hm';obtain⟨es,el,ed,eg⟩:=(gr.2 i).1 _ hi;rw[show (0:Int)+(i:Int)=(i:Int) by clear b1 bt l0 c3 dl mq rl ml hL g2 hlt g3 el;omega] at eg;have pi:=gp (i:Int);rw[eg] at pi;have al:=GF (Ey l0 g1) (zag el ed) pi (zfq hL pw);have ll:=zkQ al;rw[ZV,g2] at ll;have eb:=zcI l0 al;refine⟨⟨by rw[ll];clear c3 dl mq rl ml g2 hlt g3 el;omega,by rw[eb];exact g1,by rw[eb,g3];exact hlt⟩,?_⟩;unfold Jp;rw[eb,g3]
 .rcases (by clear b1 bt l0 c3 dl mq rl hL;omega:k<0∨(0<=k/\k<((ys.map (·+1)++[0]).length:Int))∨((ys.map (·+1)++[0]).length:Int)<=k) with z | z | z
  .have:=gp k;rw[gr.1 k z] at this;exact El this
  .exact absurd z hk
  .rw[ml] at z;have h0:=(gr.2 k.toNat).2 (xT (by clear b1 bt l0 c3 dl mq rl ml hL;omega));rw[show (0:Int)+((k.toNat:Nat):Int)=k by clear b1 bt l0 c3 dl mq rl hL;omega] at h0;have:=gp k;rw[h0] at this;exact El this
section
variable {CD CF CO CN CT CR:zm}
def zrC (K:zg) (CF CR:zm):Sp:=fun vs H Q E=>∃(r p:zm) (t b l:Int),vs=[.ref r,.ref p]/\zkN CF H p t b l/\ze3 t b l/\3<=cnt t b l/\za9 K CR [.ref r,.int t,.int b,.int l] H Q E
theorem Rr:qU ["reading","frame"] ["reading","frame"] (zP X7):=⟨rfl,rfl,rfl,by decide +kernel,rfl,by decide +kernel,by decide +kernel⟩
theorem Rb (D:Def K mg "note_heard" X7 ["reading","frame"]) (T:Txt K mg) (hT:DkT K CD CF){qM:zm} (vR:mg "NoReading"=some (.ref qM)) (wF:qD K qM bmV "ValueError.__new__"=true){Qg:Tok} (wY:mg "LEAST_COUNT"=some (.int 3 Qg)) (Wy:Fn P w K mg base 3 "count_of" ["frame"] (Ea CF)) (mY:FnE P w K mg base 5 "received" ["reading","turns","bells","late"] (za9 K qM)):FnE P w K mg base 6 "note_heard" ["reading","frame"] (zrC K CF qM):=by
 refine D.fnE Rr (fun vs H Q E h=>?_) (fun f cdv A outer s H vs Q E hr h=>?_)
 .obtain⟨r,p,t,b,l,rfl,_⟩:=h;rfl
 .obtain⟨r,p,t,b,l,rfl,ip,ok,c3,q⟩:=h;refine⟨_,(zF (wO (jh bU (vJ Wy (hr.mono (by decide)) (by rfl) (za (pv 1) zB)) (yq (v:=.int 3) (by rfl) wY ⟨_,rfl⟩) (qZ _))
    (zR (yc qu wF (by rfl) vR (za jG zB)))
    j4)
   (zR (ju (vN mY (hr.mono (by decide)) (by rfl) jF (za (pv 0) (za (Zh (pv 1) rfl) (za (Zh (pv 1) rfl) (za (Zh (pv 1) rfl) zB)))))))),?_⟩
  have ip':=ip;obtain⟨pdx,hp⟩:=ip;exact⟨_,rfl,p,t,b,l,rfl,ip',ok,_,_,rfl,rfl,_,rfl,ifF (by omega) ⟨_,rfl,_,rfl,p,CF,pdx,_,_,rfl,hp,hT.cf,hT.n1,nH ..,_,rfl,p,CF,pdx,_,_,rfl,hp,hT.cf,hT.n2,nG ..,_,rfl,p,CF,pdx,_,_,rfl,hp,hT.cf,hT.n3,Ay ..,q⟩⟩
end
structure Od (t b l:Int):Prop where
 t0:0<=t
 t1:t<=40
 b0:0<=b
 b5:b<=5
 l0:0<=l
 l3:l<=3
theorem Od.ok {t b l:Int} (F:Od t b l):ze3 t b l:=by
 obtain⟨t0,t1,b0,b5,l0,l3⟩:=F;exact zsQ b0 (by omega) t0 (by omega) l0 (by omega)
abbrev TD (K:zg) (CD CF CO CN CT CR C1 C2 C3:zm):Sp:=zhE K CD CO (zfT CD CF CO) (zfU CD CF CO CN CT) (Lx CD CF CO CR (zrC K CF CR)) (zbc K CD CF CO CN (G8 C1 C2 C3)) (zdn CO)
section
variable {K:zg}{CD CF CO CN CT CR C1 C2 C3:zm}{x d:zm}{n:Nat}{fr:Str->Option (Int×Int×Int)}{H:Hp}
theorem zmk:Vs "frame":=by unfold Vs;decide +kernel
theorem zml:Vs "write":=by unfold Vs;decide +kernel
theorem zoY:Vs "read":=by unfold Vs;decide +kernel
theorem zoW:Vs "hear":=by unfold Vs;decide +kernel
theorem zfK {nm:Str}{t b l:Int} (hD:yo CD CF x d n fr H) (hn:n<1000) (g:vp nm) (ok:ze3 t b l) :
  FT (TD K CD CF CO CN CT CR C1 C2 C3) [.ref x,.str (Txt.join " " ("frame"::nm::[t,b,l].map txt))] H (fun v H'=>v=.str ("messages "++txt (cnt t b l))/\Ke d H H'/\yo CD CF x d (n+1) (n6 fr nm (t,b,l)) H') (fun _ _=>False):=by
 intro Q E qa _;obtain⟨dx,hx⟩:=hD.self;have gl:=g.le;have b60:b<10 ^ 60:=wR ok.b1 (by decide);have hb:∀m∈[t,b,l],0<=m/\m<10 ^ 60:=fun m hm=>by
  rcases List.mem_cons.mp hm with rfl | hm
  .exact⟨ok.t0,ok.t1⟩
  rcases List.mem_cons.mp hm with rfl | hm
  .exact⟨ok.b0,b60⟩
  rw[List.mem_singleton.mp hm];exact⟨ok.l0,ok.l1⟩
 have hb5:∀m∈[t,b,l],0<=m/\m<10 ^ 500:=fun m hm=>⟨(hb m hm).1,xR (hb m hm).2 zlJ⟩;refine .inl ⟨x,dx,d,_,"frame",nm::[t,b,l].map txt,rfl,hx,GZ (by decide +kernel) (by omega) (by show 3<=2000;decide) hb5,fQ zmk (WP g) (WY fun m hm=>(hb m hm).1),fun _ _ a H' s h=>?_,fun z=>?_,fun z=>?_,fun z=>?_,fun z=>?_⟩
 .have vt:=wZ ok.t0;have vb:=wZ ok.b0;have vl:=wZ ok.l0;refine⟨x,a,d,n,fr,"frame",nm,txt t,txt b,txt l,rfl,hD.mono s,hn,h,by omega,qd (J4 ok.t0 (hb5 t (by simp)).2) (by decide),qd (J4 ok.b0 (hb5 b (by simp)).2) (by decide),qd (J4 ok.l0 (hb5 l (by simp)).2) (by decide),fun z=>?_,fun _=>?_⟩
  .exact absurd ⟨g,Xn (by decide) ok.t0 ok.t1,⟨Xn (by decide) ok.b0 b60,by rw[vb];exact ok.b1⟩,Xn (by decide) ok.l0 ok.l1⟩ z
  .rw[vt,vb,vl];exact⟨ok,fun H2 s2 h2=>qa _ H2 ⟨rfl,(Ke.of s).trans s2,h2⟩⟩
 .exact absurd z (by decide +kernel)
 .exact absurd z (by decide +kernel)
 .exact absurd z (by decide +kernel)
 .exact absurd ⟨rfl,rfl⟩ z
theorem Lj {nm:Str}{t b l m:Int} (hD:yo CD CF x d n fr H) (g:vp nm) (e:fr nm=some (t,b,l)) (m0:0<=m) (m5:m<10 ^ 500) :
  FT (TD K CD CF CO CN CT CR C1 C2 C3) [.ref x,.str (Txt.join " " ("write"::nm::[m].map txt))] H (fun v H'=>m<cnt t b l/\(∃bs,yO bs/\bs.length=b.toNat/\Ko bs=m/\v=.str (yu (vf l bs)))/\zX H H') (fun C H'=>¬m<cnt t b l/\C=.ref CT/\zX H H'):=by
 intro Q E qa qe;obtain⟨dx,hx⟩:=hD.self;have gl:=g.le;have hb5:∀y∈[m],0<=y/\y<10 ^ 500:=fun y hy=>by rw[List.mem_singleton.mp hy];exact⟨m0,m5⟩
 have vm:=wZ m0;refine .inl ⟨x,dx,d,_,"write",nm::[m].map txt,rfl,hx,GZ (by decide +kernel) (by omega) (by show 1<=2000;decide) hb5,fQ zml (WP g) (WY fun y hy=>(hb5 y hy).1),fun z=>?_,fun _ _ a H' s h=>?_,fun z=>?_,fun z=>?_,fun _ z=>?_⟩
 .exact absurd z (by decide +kernel)
 .refine⟨x,a,d,n,fr,"write",nm,txt m,rfl,hD.mono s,h,by omega,qd (J4 m0 m5) (by decide),fun _=>qd (J4 m0 m5) (by decide),fun z=>absurd ⟨g,zhj m0 m5⟩ z,(fun _ _ z=>by rw[e] at z;cases z),fun _ _ t' b' l' e'=>?_⟩;rw[e] at e';cases e';rw[vm];exact⟨(by decide +kernel),fun hm bs H2 s2 B bl nb=>qa _ H2 ⟨hm,⟨bs,B,bl,nb,rfl⟩,s.trans s2⟩,fun hm H2 s2=>qe _ H2 ⟨hm,rfl,s.trans s2⟩⟩
 .exact absurd z (by decide +kernel)
 .exact absurd z (by decide +kernel)
 .exact absurd ⟨.inl rfl,rfl⟩ z
theorem zjf {nm:Str}{t b l:Int}{ms:List Int} (hD:yo CD CF x d n fr H) (g:vp nm) (e:fr nm=some (t,b,l)) (ml:ms.length<=2000) (mb:∀y∈ms,0<=y/\y<10 ^ 60) (pw:ms.Pairwise (·<=·)) (gr:GoodR t b l ms) :
  FT (TD K CD CF CO CN CT CR C1 C2 C3) [.ref x,.str (Txt.join " " ("read"::nm::ms.map txt))] H (fun v H'=>v=.str (txt (Ko (Wo l ms)))/\zX H H') (fun _ _=>False):=by
 intro Q E qa _;obtain⟨dx,hx⟩:=hD.self;have gl:=g.le;have mb5:∀y∈ms,0<=y/\y<10 ^ 500:=fun y hy=>⟨(mb y hy).1,xR (mb y hy).2 zlJ⟩;have vm:=LQ fun y hy=>(mb y hy).1;have gt:=T6 mb pw;refine .inl ⟨x,dx,d,_,"read",nm::ms.map txt,rfl,hx,GZ (by decide +kernel) (by omega) ml mb5,fQ zoY (WP g) (WY fun y hy=>(mb y hy).1),fun z=>?_,fun z=>?_,fun _ _ a H' s h=>?_,fun z=>?_,fun _ _ z=>?_⟩
 .exact absurd z (by decide +kernel)
 .exact absurd z (by decide +kernel)
 .refine⟨x,a,d,n,fr,"read",nm,ms.map txt,rfl,hD.mono s,h,by omega,by rw[zf];omega,fun y hy=>?_,fun z=>absurd ⟨g,gt⟩ z,fun _ _=>⟨t,b,l,e,(by decide +kernel),fun _=>?_,fun z=>absurd rfl z⟩⟩
  .obtain⟨u,hu,rfl⟩:=List.mem_map.mp hy;exact qd (J4 (mb5 u hu).1 (mb5 u hu).2) (by decide)
  .rw[vm];exact⟨gr,fun H2 s2=>qa _ H2 ⟨rfl,s.trans s2⟩⟩
 .exact absurd z (by decide +kernel)
 .refine absurd ⟨.inl rfl,?_⟩ z;simp
theorem zje {o nm nt:Str}{t b l:Int} (eo:NtO o nm nt) (hD:yo CD CF x d n fr H) (g:vp nm) (e:fr nm=some (t,b,l)) (F:Od t b l) (b1:1<=b) (bt:b<=t) (c3:3<=cnt t b l) (gt:lK nt) :
  FT (TD K CD CF CO CN CT CR C1 C2 C3) [.ref x,.str o] H (fun v H'=>(∃ys bss,zkP nt t b l ys bss/\v=.str (Txt.join " " ((yt (t+l) l 0 bss).map txt)))/\zX H H') (fun _ _=>False):=by
 intro Q E qa _;obtain⟨dx,hx⟩:=hD.self;obtain⟨t0,t1,b0,b5,l0,l3⟩:=F;have nl:nt.length<=60:=by rw[<- wj];exact gt.2
 have hl:=zfB eo;have gl:=g.le;refine .inl ⟨x,dx,d,_,"note",nm::Txt.split nt sp,rfl,hx,by rw[hl,qC];omega,zlv eo (WP g),fun z=>?_,fun z=>?_,fun z=>?_,fun _ _=>?_,fun _ _ _ z=>?_⟩
 .exact absurd z (by decide +kernel)
 .exact absurd z (by decide +kernel)
 .exact absurd z (by decide +kernel)
 .rw[zoh eo (WP g)];refine⟨(by show 3<=sizeLine;decide),fun a H' s h=>⟨x,a,d,n,fr,"note",nm,nt,rfl,hD.mono s,h,by omega,fun z=>absurd g z,(fun _ z=>by rw[e] at z;cases z),fun _ t' b' l' e' H2 s2=>?_⟩⟩;rw[e] at e';cases e';refine⟨nt,t,b,l,rfl,qd gt.2 (by decide),by omega,by omega,l0,zU (vI (m:=2) l0 (by omega)) (by decide),t0,zU (vI (m:=6) t0 (by omega)) (by decide),fun z=>absurd gt z,fun _ z=>absurd ⟨b1,bt⟩ z,fun _ _ _ z=>by omega,fun _ _ _ _ p ys bss H3 s3 h3 S=>?_⟩;obtain⟨yl,_,_,rl,_,rb⟩:=pO S gt b1 bt l0 c3;have r8:=Xh (show ys.length+1<=301 by clear nl hl gl rl;omega) (show b.toNat<=5 by clear nl hl gl yl rl;omega);have r1:=Xh (show 1<=ys.length+1 by omega) (show 1<=b.toNat by clear nl hl gl yl rl r8;omega);have zyc:(301:Int)*43<=10 ^ 500:=by decide +kernel
  refine⟨p,yt (t+l) l 0 bss,rfl,SqL.of h3,by omega,fun y hy=>by have:=rb y hy;clear nl hl gl yl rl r8 r1;omega,fun H4 s4=>?_⟩;unfold yu;rw[if_neg (fun z=>by rw[z] at rl;simp at rl;omega)];exact qa _ H4 ⟨⟨ys,bss,S,rfl⟩,(s.trans s2).trans (s3.trans s4)⟩
 .refine absurd ⟨rfl,?_⟩ z;have:=Ly nt sp;cases h:Txt.split nt sp with
  | nil=>exact absurd h this
  | cons y r=>simp
theorem zjd {nm nt:Str}{t b l:Int}{ys ms:List Int}{bss:List (List Int)} (hD:yo CD CF x d n fr H) (g:vp nm) (e:fr nm=some (t,b,l)) (F:Od t b l) (b1:1<=b) (bt:b<=t) (c3:3<=cnt t b l) (gn:lK nt) (S:zkP nt t b l ys bss) (ml:ms.length<=2000) (mb:∀y∈ms,0<=y/\y<10 ^ 60) (pw:ms.Pairwise (·<=·)) (hd:Hs ms t b l (ys.map (·+1)++[0])) :
  FT (TD K CD CF CO CN CT CR C1 C2 C3) [.ref x,.str (Txt.join " " ("hear"::nm::ms.map txt))] H (fun v H'=>v=.str ("note "++nt)/\zX H H') (fun _ _=>False):=by
 intro Q E qa _;obtain⟨dx,hx⟩:=hD.self;have ok:=F.ok;obtain⟨t0,t1,b0,b5,l0,l3⟩:=F;have gl:=g.le;have yl:=(pO S gn b1 bt l0 c3).1;have mb5:∀y∈ms,0<=y/\y<10 ^ 500:=fun y hy=>⟨(mb y hy).1,xR (mb y hy).2 zlJ⟩;have vm:=LQ fun y hy=>(mb y hy).1;have gt:=T6 mb pw;refine .inl ⟨x,dx,d,_,"hear",nm::ms.map txt,rfl,hx,GZ (by decide +kernel) (by omega) ml mb5,fQ zoW (WP g) (WY fun y hy=>(mb y hy).1),fun z=>?_,fun z=>?_,fun _ _ a H' s h=>?_,fun z=>?_,fun _ _ z=>?_⟩
 .exact absurd z (by decide +kernel)
 .exact absurd z (by decide +kernel)
 .refine⟨x,a,d,n,fr,"hear",nm,ms.map txt,rfl,hD.mono s,h,by omega,by rw[zf];omega,fun y hy=>?_,fun z=>absurd ⟨g,gt⟩ z,fun _ _=>⟨t,b,l,e,(by decide +kernel),fun z=>absurd z (by decide +kernel),fun _ r p H2 s2 hr ip=>?_⟩⟩
  .obtain⟨u,hu,rfl⟩:=List.mem_map.mp hy;exact qd (J4 (mb5 u hu).1 (mb5 u hu).2) (by decide)
  rw[vm] at hr;refine⟨r,p,t,b,l,rfl,ip,ok,c3,r,ms,t,b,l,ys.length,rfl,SqL.of hr,?_,fun _=>?_,fun ng=>absurd hd.all.1 ng⟩
  .exact hd.ok b1 (by omega) bt l0 (zU (vI (m:=2) l0 (by omega)) (by decide)) (zU (vI (m:=6) t0 (by omega)) (by decide)) (fun y hy=>(S.bd y hy).1) (by omega) ml
  .obtain⟨h1,h2,h3⟩:=hd.all;rw[h3,S.num];refine⟨h2,c3,(zlx gn.1 gn.2).2,fun H3 s3=>?_⟩;rw[zqN gn.1,zrQ];have nl:nt.length<=60:=by rw[<- wj];exact gn.2
   exact⟨"note ",nt,rfl,rfl,by rw[show ("note ":Str).length=5 by decide +kernel,qC];omega,qa _ H3 ⟨rfl,(s.trans s2).trans s3⟩⟩
 .exact absurd z (by decide +kernel)
 .refine absurd ⟨.inr (.inr rfl),?_⟩ z;simp
theorem zlZ {o:Str} (hD:yo CD CF x d n fr H) (hn:n<1000) (W:WrT o):FT (TD K CD CF CO CN CT CR C1 C2 C3) [.ref x,.str o] H (fun _ _=>False) (fun C H'=>C=.ref CO/\zX H H'):=by
 intro Q E _ qe;obtain⟨dx,hx⟩:=hD.self;obtain⟨w0,ws,es,B,ol,wn,wl⟩:=W;have w6:∀y∈ws,y.length<=1000000:=fun y hy=>qd (wl y hy) (by decide);refine .inl ⟨x,dx,d,o,w0,ws,rfl,hx,by rw[qC];omega,es,fun e len a H' s h=>?_,fun e len a H' s h=>?_,fun e len a H' s h=>?_,fun e len=>absurd ⟨e,len⟩ B.nt,fun _ _ _ _ a H' s h=>?_⟩
 .match ws,len with
  | [w1,w2,w3,w4],_=>exact⟨x,a,d,n,fr,w0,w1,w2,w3,w4,rfl,hD.mono s,hn,h,w6 w1 (by simp),w6 w2 (by simp),w6 w3 (by simp),w6 w4 (by simp),fun _ H2 s2=>qe _ H2 ⟨rfl,s.trans s2⟩,fun g=>absurd g (B.fr e _ _ _ _ rfl)⟩
 .match ws,len with
  | [w1,w2],_=>exact⟨x,a,d,n,fr,w0,w1,w2,rfl,hD.mono s,h,w6 w1 (by simp),w6 w2 (by simp),(fun _=>qd (wl w2 (by simp)) (by decide)),fun _ H2 s2=>qe _ H2 ⟨rfl,s.trans s2⟩,fun g1 g2=>absurd ⟨g1,g2⟩ (B.wr e _ _ rfl),fun g1 g2=>absurd ⟨g1,g2⟩ (B.wr e _ _ rfl)⟩
 .match ws,len with
  | w1::r,_=>exact⟨x,a,d,n,fr,w0,w1,r,rfl,hD.mono s,h,w6 w1 (by simp),by simp only[qx] at wn;omega,fun y hy=>w6 y (zG _ hy),fun _ H2 s2=>qe _ H2 ⟨rfl,s.trans s2⟩,fun g1 g2=>absurd ⟨g1,g2⟩ (B.rd e _ _ rfl)⟩
 .exact⟨a,w0,ws,rfl,h,fun y hy=>qd (wl y hy) (by decide),fun _ H2 s2=>qe _ H2 ⟨rfl,s.trans s2⟩,fun g=>absurd g B.ch⟩
theorem zdf {v:V} (h:zaf K H v):FT (TD K CD CF CO CN CT CR C1 C2 C3) [.ref x,v] H (fun _ _=>False) (fun C H'=>C=.ref CO/\zX H H'):=
 fun _ _ _ qe=>.inr ⟨x,v,rfl,h,qe _ H ⟨rfl,zX.refl _⟩⟩
theorem zaY {w0:Str}{ns:List Int}{A:V->Hp->Prop} (hx:∃dx,H x=some (.ins CD dx (fr1 d))) (hw:Vs w0) (wl:w0.length<=20) (nl:ns.length<=5) (nb:∀m∈ns,0<=m/\m<=60) (n1:w0≠"frame") (n2:¬(w0="write"∨w0="key")) (n3:¬(w0="read"∨w0="unkey"∨w0="hear")) (n4:w0≠"note") (gc:tW w0 (ns.map txt))
  (q:∀(Q:VK) (H':Hp),zX H H'->(∀v H2,A v H2->Q v H2)->(w0="short"->∀a b c,ns.map txt=[a,b,c]->(xN a=0->1<xN c->∀H2,zX H' H2->Q (.str "none") H2)/\((xN a=0->xN c<=1)->∀t H2,zX H' H2->ZL (xN a) (xN b) (xN c) t->Q (.str (txt t)) H2)) /\
   (w0="best"->∀a b c,ns.map txt=[a,b,c]->∀t H2,zX H' H2->Di (xN a) (xN b) (xN c) t->Q (.str (txt t)) H2) /\
   (w0="cheap"->∀a b c d e,ns.map txt=[a,b,c,d,e]->∀H2,zX H' H2->Q (.str (bG (Wr (listS (xN c) (xN d) (xN b) (xN a) (xN e+1).toNat)))) H2)) :
  FT (TD K CD CF CO CN CT CR C1 C2 C3) [.ref x,.str (Txt.join " " (w0::ns.map txt))] H A (fun _ _=>False):=by
 intro Q E qa _;obtain⟨dx,hx⟩:=hx;have tl:∀y∈ns.map txt,y.length<=3/\xN y<=100:=fun y hy=>by
  obtain⟨m,hm,rfl⟩:=List.mem_map.mp hy;have:=nb m hm;rw[wZ this.1];exact⟨(Xn (k:=3) (by decide) this.1 (by omega)).le,by omega⟩
 refine .inl ⟨x,dx,d,_,w0,ns.map txt,rfl,hx,?_,?_,fun z=>absurd z n1,fun z=>absurd z n2,fun z=>absurd z n3,fun z=>absurd z n4,fun _ _ _ _ a H' s h=>?_⟩
 .have h1:=Be (w0::ns.map txt);have h2:((ns.map txt).map (·.length)).sum<=ns.length*500:=iQ fun m hm=>⟨(nb m hm).1,wR (nb m hm).2 (by decide +kernel)⟩;simp only[zY,yL,qx,zf] at h1;rw[qC];omega
 .rw[oA];refine WW (by simp) fun w h=>?_;rcases List.mem_cons.mp h with rfl | h
  .exact hw
  .exact WY (fun m hm=>(nb m hm).1) w h
 .exact⟨a,w0,ns.map txt,rfl,h,fun y hy=>qd (tl y hy).1 (by decide),fun g=>absurd gc g,fun _=>⟨fun y hy=>(tl y hy).2,q Q H' s qa⟩⟩
end
section
open PySem.Spec PyProof.Rows PySem.SeqAt
variable {X:Cx}
theorem aV {xs:List V} (ok:∀v∈xs,okF v=true):shaped (.tuple (xs.map dV))=true:=by
 have h1:=HQ xs;have h2:bu (.tuple (xs.map dV))<=64:=by simp only[bu];omega
 show (Wi (.tuple (xs.map dV)) && decide (bu (.tuple (xs.map dV))<=64))=true;rw[vh];exact⟨by simp only[Wi];exact EY ok,decide_eq_true h2⟩
theorem G5 {zj:List (zm×Obj)}{σ:L2.St}{H:Hp}{s:zp} (I:Inv X zj σ H s){a:zm}{xs:List V} (h:SqT X.K H a xs) (ok:∀v∈xs,okF v=true):∃bs,Reads s.heap (.ref a) (.tuple (xs.map dV)) bs:=by
 obtain⟨its,r,⟨o,ho,hc,n,hd⟩,z⟩:=I.tuple h;exact⟨_,.tuple ho hc hd (by simpa using rQ r ok)⟩
def YD (x:Str):Prop:=∀c∈cpl x,c<1114112
def zwY:R2:=fun x y H Q=>∃(a b:zm) (i j:Str),x=.ref a/\y=.ref b/\H a=some (.tup [.str i,.str j])/\H b=some (.tup [.str i,.str j])/\YD i/\YD j/\Q (.bl true) H
theorem GX {x:Str} (h:YD x):okF (.str x)=true:=by
 show (x.cps.all (·<0x110000))=true;rw[Array.all_eq_true'];intro c hc;exact decide_eq_true (h c (Array.mem_toList_iff.mpr hc))
theorem iH (hu:X.A.units+64<cLine):OpR X (compareOp .Eq) zwY:=by
 intro zj s σ H x y v u Q I rx ry h;obtain⟨a,b,i,j,rfl,rfl,h1,h2,o1,o2,q⟩:=h;cases rx;cases ry;have ok:∀v∈[V.str i,V.str j],okF v=true:=fun v hv=>by
  rcases List.mem_cons.mp hv with rfl | hv
  .exact GX o1
  .rw[List.mem_singleton.mp hv];exact GX o2
 obtain⟨_,r1⟩:=G5 I (SqT.of h1) ok;obtain⟨_,r2⟩:=G5 I (SqT.of h2) ok;refine eq_dataH_same r1 r2 (aV ok) (aV ok) hu ?_ ?_
 .simp[noMix,noMixAll,dV]
 .rw[show aF (.tuple ([V.str i,V.str j].map dV)) (.tuple ([V.str i,V.str j].map dV))=true by simp[aF,uO,dV]];exact⟨.bl _,H,I,rfl,q⟩
def zw2:R2:=fun x y H Q=>∃(a b:zm) (i j:Str),x=.ref a/\y=.ref b/\H a=some (.tup [.str i,.str j])/\H b=some (.tup [.str i,.str j])/\YD i/\YD j/\Q (.bl false) H
theorem zhq (hu:X.A.units+64<cLine):OpR X (compareOp .NotEq) zw2:=by
 intro zj s σ H x y v u Q I rx ry h;obtain⟨a,b,i,j,rfl,rfl,h1,h2,o1,o2,q⟩:=h;cases rx;cases ry;have ok:∀v∈[V.str i,V.str j],okF v=true:=fun v hv=>by
  rcases List.mem_cons.mp hv with rfl | hv
  .exact GX o1
  .rw[List.mem_singleton.mp hv];exact GX o2
 obtain⟨_,r1⟩:=G5 I (SqT.of h1) ok;obtain⟨_,r2⟩:=G5 I (SqT.of h2) ok;refine ne_dataH_same r1 r2 (aV ok) (aV ok) hu ?_ ?_
 .simp[noMix,noMixAll,dV]
 .rw[show aF (.tuple ([V.str i,V.str j].map dV)) (.tuple ([V.str i,V.str j].map dV))=true by simp[aF,uO,dV]];exact⟨.bl _,H,I,rfl,q⟩
end
theorem zhe:∀{l:List (List Nat)},(∀x∈l,∀c∈x,c<1114112)->∀c∈JL 32 l,c<1114112
 | [],_,c,h=>absurd h (by simp[JL])
 | [x],hx,c,h=>hx x (by simp) c h
 | x::y::r,hx,c,h=>by
  have h:c∈x++32::JL 32 (y::r):=h;rcases List.mem_append.mp h with h | h
  .exact hx x (by simp) c h
  rcases List.mem_cons.mp h with rfl | h
  .decide
  .exact zhe (fun z hz=>hx z (zG _ hz)) c h
theorem YT {n:Int} (h:0<=n):YD (txt n):=fun c hc=>by
 obtain⟨m,rfl⟩:∃m:Nat,n=(m:Int):=⟨n.toNat,by omega⟩;have:=Ha m c hc;omega
theorem zf4 {ns:List Int} (h:∀n∈ns,0<=n):YD (yu ns):=by
 unfold yu;split
 .unfold YD;decide +kernel
 .intro c hc;rw[bz] at hc;refine zhe (fun x hx=>?_) c hc;obtain⟨y,hy,rfl⟩:=List.mem_map.mp hx;obtain⟨n,hn,rfl⟩:=List.mem_map.mp hy;exact YT (h n hn)
theorem cB {x y:Str} (h1:YD x) (h2:YD y):YD (x++y):=fun c hc=>by
 rw[Qo] at hc;exact(List.mem_append.mp hc).elim (h1 c) (h2 c)
theorem WX:YD "told":=by unfold YD;decide +kernel
theorem Bx:YD "refused":=by unfold YD;decide +kernel
theorem RJ:YD "messages ":=by unfold YD;decide +kernel
theorem zjr:YD "note ":=by unfold YD;decide +kernel
theorem zoP {l:List Nat} (h:∀c∈l,c∈sg):YD (tx l):=fun c hc=>by
 rw[show cpl (tx l)=l from zbe l] at hc;have:∀c∈sg,c<1114112:=by decide
 exact this c (h c hc)
noncomputable def zk8 (x:Str):Bool:=decide (1<=x.length) && decide (x.length<=8) && (cpl x).all fun c=>decide (97<=c) && decide (c<=122)
theorem zhf {x:Str} (h:zk8 x=true):vp x:=by
 unfold zk8 at h;simp only[vh,decide_eq_true_eq,Xr] at h;exact⟨h.1.1,h.1.2,h.2⟩
theorem zam {ws:List Str}{i:Int} (h0:0<=i) (h1:i<ws.length):∃x,atI (ws.map V.str) i=some (.str x)/\x∈ws:=by
 obtain⟨n,rfl⟩:∃n:Nat,i=(n:Int):=⟨i.toNat,by omega⟩;have hn:n<ws.length:=by omega
 exact⟨ws[n],Yc (by rw[qF,zq hn];rfl),Xv hn⟩
theorem zhH:∀i:Fin 5,YD (kdN i):=fun i=>by
 have:∀i:Fin 5,((cpl (kdN i)).all fun c=>decide (c<1114112))=true:=by decide +kernel
 exact fun c hc=>of_decide_eq_true (List.all_eq_true.mp (this i) c hc)
theorem zqP {p:Nat->Prop}:∀(ys:List V),(∀(i:Nat) (v:V),ys[i]?=some v->∃c,p c/\v=.str (uA c))->∃l:List Nat,l.length=ys.length/\(∀c∈l,p c)/\ys=(l.map uA).map V.str
 | [],_=>⟨[],rfl,(fun _ z=>nomatch z),rfl⟩
 | y::ys,f=>by
  obtain⟨c,hc,e⟩:=f 0 y rfl;obtain⟨l,ll,hl,e2⟩:=zqP ys fun i v hv=>f (i+1) v (by simpa using hv);refine⟨c::l,by simp[ll],fun z hz=>?_,by rw[e,e2];rfl⟩;rcases List.mem_cons.mp hz with rfl | hz
  .exact hc
  .exact hl z hz
noncomputable def names12:List Str:=["frame","write","read","key","unkey","note","hear","short","best","cheap","none","messages"]
theorem zfA:∀x∈names12,zk8 x=true:=by decide +kernel
theorem zs9 (d:Int):∃c,(97<=c/\c<=122)/\atI ("abcdefghijklmnopqrstuvwxyz":Str).cps.toList (d % 26)=some c:=by
 have h:∀k:Fin 26,atI ("abcdefghijklmnopqrstuvwxyz":Str).cps.toList (k.val:Int)=some (97+k.val):=by decide +kernel
 have:=h ⟨(d % 26).toNat,by omega⟩;rw[show (((⟨(d % 26).toNat,by omega⟩:Fin 26).val:Nat):Int)=d % 26 by show (((d % 26).toNat:Nat):Int)=d % 26;omega] at this;exact⟨_,⟨gk _ _,by show 97+(d % 26).toNat<=122;omega⟩,this⟩
theorem zaI (K:zg):jk K (.type "NoneType") (.type "str")=some false:=by with_unfolding_all rfl
theorem zcM (K:zg):jk K (.type "int") (.type "str")=some false:=by with_unfolding_all rfl
theorem zcN (K:zg):jk K (.type "list") (.type "str")=some false:=by with_unfolding_all rfl
section
def zl5:Sp:=fun vs H Q _=>∃c:Int,vs=[.int c]/\∀(nm:Str) (H':Hp),zX H H'->vp nm->Q (.str nm) H'
theorem aU:qU ["cell","some","letters"] ["cell"] (zP KC):=⟨rfl,rfl,rfl,by decide +kernel,rfl,by decide +kernel,by decide +kernel⟩
theorem zot (D:Def K mg "_law_name" KC ["cell"]) (T:Txt K mg) (qW:Fn P w K mg base 1 "_law_drawn" ["cell","k"] za6):Fn P w K mg base 2 "_law_name" ["cell"] zl5:=by
 refine D.fn aU (fun vs H Q E h=>?_) (fun f cdv A outer s H vs Q E hr h=>?_)
 .obtain⟨c,rfl,_⟩:=h;rfl
 .obtain⟨cell,rfl,q⟩:=h;refine zbg (je (wX (i:=1) aU.nd rfl (zN rfl) (di (zx jA (zx jA (zx jA (zx jA (zx jA (zx jA qK z6) z6) z6) z6) z6) z6)))
   (je (wX (i:=1) aU.nd rfl (zN rfl) (Qh DP (WE.mk (pv 1)) (di (zx jA (zx jA (zx jA (zx jA (zx jA (zx jA qK z6) z6) z6) z6) z6) z6))))
   (je (cN (dh Zy (Qh vQ (Xd qW (hr.mono (by decide)) (by rfl) (zx (WE.mk (pv 0)) (zx (WE.mk zH) qK z6) qm)) (WE.mk zH)) (WE.mk zH) (qZ _))
    (wz (Jz (zbh j8 (WE.mk (pv 1)) (Qh vQ (Xd qW (hr.mono (by decide)) (by rfl) (zx (WE.mk (pv 0)) (zx (WE.mk zH) qK z6) qm)) (WE.mk zH)) (fun _ _=>rfl))))
    ZP)
   (je (wX (i:=2) aU.nd rfl (cH rfl) jA)
   (wz (Jz (BJ jm xU xV Ye jA (zx (WE.mk (Jy (own:=["k"]) (fr:=["letters","cell"]) (ix:=[2,0]) rfl ⟨rfl,rfl,rfl,rfl,rfl,rfl⟩ (WR (by rfl) T.z_range (za (jc jP zH (jc vQ (vJ qW (hr.mono (by decide)) (by rfl) (za (pv 0) (za zH zB))) zH)) zB)) (fun _ _ _ _ _=>(j9 (i:=0) (show (["k","letters","cell"]:List Str).Nodup by decide +kernel) rfl (zN rfl))) (fun _ _ _ _ _=>Z0) (fun _ _ _ _ _=>(kZ zaF (pv 1) (jc vQ (vJ qW (hr.mono (by decide)) (by rfl) (za (pv 2) (za (jc jP zH (pv 0)) zB))) zH) (fun _ _=>rfl))))) qK)))))))) ?_
  refine⟨(by decide),fun p1 hp1=>⟨_,rfl,(by decide),fun p2 hp2=>⟨p1,p2,_,_,rfl,rfl,(zX.new hp2) _ _ zL,zL,(by show 12<=sizeLine;decide),fun p3 hp3=>?_⟩⟩⟩;have s3:=fun o=>((zX.new (o:=.lst [V.str "frame",V.str "write",V.str "read",V.str "key",V.str "unkey",V.str "note"]) hp1).put (o:=.lst [V.str "hear",V.str "short",V.str "best",V.str "cheap",V.str "none",V.str "messages"]) hp2).put (o:=o) hp3;refine⟨_,rfl,cell,0,rfl,by decide,fun d0 d00 d01=>⟨_,_,rfl,rfl,(by decide),_,_,rfl,rfl,_,rfl,ifD (fun z=>?_) (fun z=>?_)⟩⟩
  .refine⟨_,rfl,_,rfl,cell,1,rfl,by decide,fun d d0 d1=>⟨_,_,rfl,rfl,(by decide),?_⟩⟩;obtain⟨x,hx,hm⟩:=zam (ws:=names12) (i:=d % 12) (by omega) (by show d % 12<12;omega);exact⟨_,_,_,_,rfl,rfl,SqL.of zL,hx,q x _ (s3 _) (zhf (zfA x hm))⟩
  .refine⟨rfl,_,rfl,cell,1,rfl,by decide,fun d d0 d1=>⟨_,_,rfl,rfl,(by decide),_,_,rfl,rfl,_,rfl,by omega,by omega,fun acc Qn=>nD (lo:=0) (n:=(1+d % 8).toNat) (fun _ v=>∃c,(97<=c/\c<=122)/\v=.str (uA c)) Qn (kj (yV (by clear d00 d01 d0 d1;omega))) ?_ ?_⟩⟩
   .intro i H6 R hi s6 hR;have hi':i<9:=by clear d00 d01 d0 d1;omega
    refine⟨rfl,_,rfl,_,rfl,_,rfl,_,_,rfl,rfl,cell,_,rfl,vI (by omega) (by omega),fun d d0 d1=>⟨_,_,rfl,rfl,(by decide),?_⟩⟩;obtain⟨c,hc,e⟩:=zs9 d;exact⟨_,_,c,rfl,rfl,(by decide +kernel),e,hR _ _ (zX.refl _) ⟨c,hc,rfl⟩⟩
   .intro ys H2 s2 hY yl yp;obtain⟨l,ll,hl,rfl⟩:=zqP ys yp;refine⟨"",acc,l.map uA,rfl,rfl,SqL.of hY,Dm (by clear d00 d01 d0 d1;omega),?_⟩;rw[join_ones];have e:cpl (tx l)=l:=by simp[cpl,tx]
    have el:(tx l).length=l.length:=by rw[<- wj,e]
    exact q _ H2 ((s3 _).trans s2) ⟨by rw[el];omega,by rw[el];clear d00 d01 d0 d1;omega,fun c hc=>hl c (by rw[e] at hc;exact hc)⟩
def zxb:Sp:=fun vs H Q _=>∃c:Int,vs=[.int c]/\∀(p:zm) (t b l:Int) (H':Hp),zX H H'->H' p=some (.tup [.int t,.int b,.int l])->Od t b l->Q (.ref p) H'
theorem Yu:qU ["cell","bells","late","turns"] ["cell"] (zP XQ):=⟨rfl,rfl,rfl,by decide +kernel,rfl,by decide +kernel,by decide +kernel⟩
theorem zlz (D:Def K mg "_law_frame" XQ ["cell"]) (T:Txt K mg) (qW:Fn P w K mg base 1 "_law_drawn" ["cell","k"] za6):Fn P w K mg base 2 "_law_frame" ["cell"] zxb:=by
 refine D.fn Yu (fun vs H Q E h=>?_) (fun f cdv A outer s H vs Q E hr h=>?_)
 .obtain⟨c,rfl,_⟩:=h;rfl
 .obtain⟨cell,rfl,q⟩:=h;refine zbg (je (wX (i:=1) Yu.nd rfl (zN rfl) (Qh vQ (Xd qW (hr.mono (by decide)) (by rfl) (zx (WE.mk (pv 0)) (zx (WE.mk zH) qK z6) qm)) (WE.mk zH)))
   (je (wX (i:=2) Yu.nd rfl (zN rfl) (Qh vQ (Xd qW (hr.mono (by decide)) (by rfl) (zx (WE.mk (pv 0)) (zx (WE.mk zH) qK z6) qm)) (WE.mk zH)))
   (je (cN (dh Zy (Qh vQ (Xd qW (hr.mono (by decide)) (by rfl) (zx (WE.mk (pv 0)) (zx (WE.mk zH) qK z6) qm)) (WE.mk zH)) (WE.mk zH) (qZ _))
    (wz (Jz (rT (zx (Qh vQ (Xd qW (hr.mono (by decide)) (by rfl) (zx (WE.mk (pv 0)) (zx (WE.mk zH) qK z6) qm)) (pQ (zix rfl) (by rfl) T.z_max zsJ (zx (WE.mk zH) (zx (WE.mk (pv 1)) qK qm) z6))) (zx (WE.mk (pv 1)) (zx (WE.mk (pv 2)) qK qm) qm) KY))))
    ZP)
   (je (wX (i:=3) Yu.nd rfl (zN rfl) (Qh jP (WE.mk (pv 1)) (Qh ZZ (Qh vQ (Xd qW (hr.mono (by decide)) (by rfl) (zx (WE.mk (pv 0)) (zx (WE.mk zH) qK z6) qm)) (WE.mk zH)) (Qh jP (WE.mk (pv 2)) (WE.mk zH)))))
   (wz (Jz (rT (zx (Qh jP (WE.mk (pv 3)) (Qh vQ (Xd qW (hr.mono (by decide)) (by rfl) (zx (WE.mk (pv 0)) (zx (WE.mk zH) qK z6) qm)) (Qh jP (WE.mk (pv 2)) (WE.mk zH)))) (zx (WE.mk (pv 1)) (zx (WE.mk (pv 2)) qK qm) qm) KY)))))))) ?_
  refine⟨_,rfl,cell,12,rfl,by decide,fun d2 d20 d21=>⟨_,_,rfl,rfl,(by decide),?_⟩⟩;have b1:0<=d2 % 6/\d2 % 6<=5:=by omega
  generalize d2 % 6=b at b1 ⊢;refine⟨_,rfl,cell,13,rfl,by decide,fun d4 d40 d41=>⟨_,_,rfl,rfl,(by decide),?_⟩⟩;have l1:0<=d4 % 4/\d4 % 4<=3:=by omega
  generalize d4 % 4=l at l1 ⊢;refine⟨_,rfl,cell,14,rfl,by decide,fun d8 d80 d81=>⟨_,_,rfl,rfl,(by decide),_,_,rfl,rfl,_,rfl,ifD (fun z=>?_) (fun z=>?_)⟩⟩
  .refine⟨_,rfl,cell,15,rfl,by decide,fun d7 d70 d71=>⟨_,rfl,_,_,rfl,_,_,rfl,rfl,by omega,_,rfl,_,rfl,(by show 3<=sizeLine;decide),fun p hp=>q p _ b l _ (zX.new hp) zL ?_⟩⟩;have k:0<(if b > 1 then b else 1)/\(if b > 1 then b else 1)<=5:=by split <;> omega
   have r0:=xM d7 (show (if b > 1 then b else 1)≠0 by omega);have r1:=jH d7 k.1;exact⟨r0,by omega,b1.1,b1.2,l1.1,l1.2⟩
  refine⟨_,rfl,_,rfl,cell,15,rfl,by decide,fun d6 d60 d61=>⟨_,_,rfl,rfl,(by decide),_,rfl,_,_,rfl,rfl,_,_,rfl,rfl,⟨10,10,vI (by omega) (by omega),vI (by omega) (by omega),by decide⟩,_,_,rfl,rfl,?_⟩⟩;have st:0<=d6 % 7/\d6 % 7<=6:=by omega
  generalize d6 % 7=st' at st ⊢;have m0:0<=st'*(l+1):=yQ st.1 (by omega);have m1:st'*(l+1)<=6*4:=Wa st.2 (by omega) (by omega) (by decide);refine⟨_,rfl,_,rfl,cell,16,rfl,by decide,fun d9 d90 d91=>⟨_,rfl,_,_,rfl,rfl,_,_,rfl,rfl,by omega,_,_,rfl,rfl,_,rfl,_,rfl,(by show 3<=sizeLine;decide),fun p hp=>q p _ b l _ (zX.new hp) zL ?_⟩⟩;have r0:=xM d9 (show l+1≠0 by omega);have r1:=jH d9 (show 0<l+1 by omega);exact⟨by omega,by omega,b1.1,b1.2,l1.1,l1.2⟩
def zhF (K:zg):Sp:=fun vs H Q _=>∃(c:Int) (nm:Str),vs=[.int c,.str nm]/\vp nm/\∀(v:V) (H':Hp),zX H H'->((∃o,v=.str o/\WrT o)∨zaf K H' v)->Q v H'
theorem Jl:qU ["cell","name","way","some"] ["cell","name"] (zP XS):=⟨rfl,rfl,rfl,by decide +kernel,rfl,by decide +kernel,by decide +kernel⟩
theorem zlF (D:Def K mg "_law_wrong" XS ["cell","name"]) (T:Txt K mg) (qW:Fn P w K mg base 1 "_law_drawn" ["cell","k"] za6):Fn P w K mg base 2 "_law_wrong" ["cell","name"] (zhF K):=by
 refine D.fn Jl (fun vs H Q E h=>?_) (fun f cdv A outer s H vs Q E hr h=>?_)
 .obtain⟨c,nm,rfl,_⟩:=h;rfl
 .obtain⟨cell,nm,rfl,g,q⟩:=h;refine zbg (je (wX (i:=2) Jl.nd rfl (zN rfl) (Qh vQ (Xd qW (hr.mono (by decide)) (by rfl) (zx (WE.mk (pv 0)) (zx (WE.mk zH) qK z6) qm)) (WE.mk zH)))
   (je (wX (i:=3) Jl.nd rfl (zN rfl) (di (zx jA (zx jA (zx jA (zx jA (zx jA qK z6) z6) z6) z6) z6)))
   (je (wX (i:=3) Jl.nd rfl (zN rfl) (Qh DP (WE.mk (pv 3)) (di (zx jA (zx jA (zx jA (zx jA (zx jA (zx jA (zx jA qK z6) z6) z6) z6) z6) z6) z6))))
   (je (wX (i:=3) Jl.nd rfl (zN rfl) (Qh DP (WE.mk (pv 3)) (di (zx jA (zx jA (zx jA (zx jA (zx jA (zx jA (zx jA (zx jA qK z6) z6) z6) z6) z6) z6) z6) z6))))
   (je (wX (i:=3) Jl.nd rfl (zN rfl) (Qh DP (WE.mk (pv 3)) (di (zx jA (zx (WE.mk az) (zx (WE.mk zH) (zx (di (zx jA qK z6)) qK) z6) z6) z6))))
   (je (cN (WT.mk (Jq (jz VV (by rfl) T.z_isinstance kh (za (kZ j8 (pv 3) (pv 2) (fun _ _=>rfl)) (za (iI (v:=.ty "str") (by rfl) T.z_str Q7 rfl) zB)))))
    (wz (Jz (BJ jm PySem.F.slot_str_replace PySem.F.type_str_replace zfz (zbh j8 (WE.mk (pv 3)) (WE.mk (pv 2)) (fun _ _=>rfl)) (zx jA (zx (WE.mk (pv 1)) qK qm) z6))))
    ZP)
   (wz (Jz (zbh j8 (WE.mk (pv 3)) (WE.mk (pv 2)) (fun _ _=>rfl)))))))))) ?_
  refine⟨_,rfl,cell,17,rfl,by decide,fun d d0 d1=>⟨_,_,rfl,rfl,(by decide),?_⟩⟩;have w0:0<=d % 24/\d % 24<24:=by omega
  generalize d % 24=way at w0 ⊢;refine⟨(by decide),fun p1 hp1=>⟨_,rfl,(by decide),fun p2 hp2=>⟨p1,p2,_,_,rfl,rfl,(zX.new hp2) _ _ zL,zL,(by show 12<=sizeLine;decide),fun p3 hp3=>⟨_,rfl,(by decide),fun p4 hp4=>⟨p3,p4,_,_,rfl,rfl,(zX.new hp4) _ _ zL,zL,(by show 20<=sizeLine;decide),fun p5 hp5=>⟨_,rfl,(by decide),fun pl hpl=>⟨(by show 4<=sizeLine;decide),fun p6 hp6=>⟨p5,p6,_,_,rfl,rfl,(zX.new hp6) _ _ ((zX.new hpl) _ _ zL),zL,(by show 24<=sizeLine;decide),fun p7 hp7=>?_⟩⟩⟩⟩⟩⟩⟩⟩;refine(fun(X:∀H',zX H H'->(∃xs,H' pl=some (.lst xs))->H' p7=some (.lst (Ei.map V.str++[V.non,V.int 7,V.ref pl]))->_)=>X _ (((((((zX.new hp1).put hp2).put hp3).put hp4).put hp5).put hpl).put hp6 |>.put hp7) ⟨_,((zX.new hp6).put hp7) _ _ zL⟩ zL) ?_;intro H1 s1 hl h1;obtain⟨xs,hl⟩:=hl;have i0:H1=H1:=rfl;obtain⟨v,ev,hv⟩:∃v,atI (Ei.map V.str++[V.non,V.int 7,V.ref pl]) way=some v/\((∃x∈Ei,v=.str x)∨v=.non∨v=.int 7∨v=.ref pl):=by
   obtain⟨k,rfl⟩:∃k:Nat,way=(k:Int):=⟨way.toNat,by omega⟩;have hk:k<(Ei.map V.str++[V.non,V.int 7,V.ref pl]).length:=by show k<24;omega
   refine⟨_,Yc (zq hk),?_⟩;rcases List.mem_append.mp (Xv hk) with z | z
   .obtain⟨x,hx,e⟩:=List.mem_map.mp z;exact .inl ⟨x,hx,e.symm⟩
   .simp only[xX,jL,or_false] at z;exact .inr z
  rcases hv with ⟨x,hx,rfl⟩ | hv
  .obtain⟨xl,w1,w2⟩:=zmq x hx;have gl:=g.le;refine⟨_,rfl,_,rfl,_,_,_,_,rfl,rfl,SqL.of h1,ev,_,_,_,true,rfl,aa.str _,cW K,_,rfl,Ib ⟨_,rfl,_,rfl,_,_,_,_,rfl,rfl,SqL.of h1,ev,rfl,_,rfl,x,"N",nm,rfl,rfl,?_,?_,q _ _ s1 (.inl ⟨_,rfl,w1⟩),q _ _ s1 (.inl ⟨_,rfl,w2 nm g⟩)⟩⟩
   .intro z;have:=g.let_ 78 (by rw[<- z];decide +kernel);omega
   .have:(x.length+1)*nm.length<=21*8:=Xh (by omega) gl;omega
  .obtain⟨TT,ty,kt⟩:zaf K H1 v:=by
    rcases hv with rfl | rfl | rfl
    .exact⟨_,aa.non,zaI K⟩
    .exact⟨_,aa.int _,zcM K⟩
    .exact⟨_,aa.lst hl,zcN K⟩
   exact⟨_,rfl,_,rfl,_,_,_,_,rfl,rfl,SqL.of h1,ev,_,_,_,false,rfl,ty,kt,_,rfl,Vu ⟨_,rfl,_,rfl,_,_,_,_,rfl,rfl,SqL.of h1,ev,q _ _ s1 (.inr ⟨TT,ty,kt⟩)⟩⟩
end
theorem zsN {zy:Int}:∀(rs:List Int) (ys:List V),ys.length=rs.length->(∀(i:Nat) (v:V),ys[i]?=some v->∃d,v=.int (rs.getD i 0+d)/\0<=d/\d<=zy)->∃ds:List Int,rs.length=ds.length/\(∀d∈ds,0<=d/\d<=zy)/\ys=(sums rs ds).map V.int
 | [],[],_,_=>⟨[],rfl,(fun _ z=>nomatch z),rfl⟩
 | [],_::_,h,_=>by simp at h
 | _::_,[],h,_=>by simp at h
 | r::rs,y::ys,h,f=>by
  obtain⟨d,e,d0,d1⟩:=f 0 y rfl;obtain⟨ds,dl,db,e2⟩:=zsN rs ys (by simpa using h) fun i v hv=>f (i+1) v (by simpa using hv);refine⟨d::ds,by simp[dl],fun z hz=>?_,?_⟩
  .rcases List.mem_cons.mp hz with rfl | hz
   .exact⟨d0,d1⟩
   .exact db z hz
  .rw[e,e2];rfl
theorem zlu {rs:List Int} (ne:rs≠[]) (h:∀n∈rs,0<=n):Txt.join " " (rs.map txt)≠"none":=fun z=>by
 have h1:Txt.split (Txt.join " " (rs.map txt)) " "=rs.map txt:=by
  rw[oA];exact WW (by simpa using ne) (WY h)
 have h2:Txt.split "none" " "=[("none":Str)]:=by
  have:=WW (ws:=[("none":Str)]) (by simp) (fun w hw=>by rw[List.mem_singleton.mp hw];unfold Vs;decide +kernel);rwa[<- oA,join_one] at this
 rw[z,h2] at h1;cases rs with
 | nil=>exact ne rfl
 | cons n r=>
  have e:("none":Str)=txt n:=(Vb h1).1;have hn:=h n (zJ ..);obtain⟨m,rfl⟩:∃m:Nat,n=(m:Int):=⟨n.toNat,by omega⟩;have hd:=Ha m;rw[<- e] at hd;exact absurd hd (by
   intro hd;have:=hd 110 (by decide +kernel);omega)
section
def zl6 (K:zg):Sp:=fun vs H Q _=>∃(cell zy:Int) (rs:List Int),vs=[.int cell,.str (yu rs),.int zy]/\rs.length<=1600/\(∀n∈rs,0<=n/\n<10 ^ 50)/\0<=zy/\zy<10 ^ 50 /\
 ∀(ds ms:List Int) (H':Hp),zX H H'->rs.length=ds.length->(∀d∈ds,0<=d/\d<=zy)->ms.Perm (sums rs ds)->ms.Pairwise (·<=·)->(∀n∈ms,0<=n/\n<10 ^ 60)->Q (.str (came ms)) H'
theorem iK:qU ["cell","answer","late","turns","came"] ["cell","answer","late"] (zP KD):=⟨rfl,rfl,rfl,by decide +kernel,rfl,by decide +kernel,by decide +kernel⟩
theorem zov (D:Def K mg "_law_road" KD ["cell","answer","late"]) (T:Txt K mg) (qW:Fn P w K mg base 1 "_law_drawn" ["cell","k"] za6):Fn P w K mg base 2 "_law_road" ["cell","answer","late"] (zl6 K):=by
 refine D.fn iK (fun vs H Q E h=>?_) (fun f cdv A outer s H vs Q E hr h=>?_)
 .obtain⟨c,l,rs,rfl,_⟩:=h;rfl
 .obtain⟨cell,zy,rs,rfl,rl,rb,l0,l1,q⟩:=h;refine zbg (je (cN (dh nQ (WE.mk (pv 1)) jA (qZ _))
    (wz (Jz jA))
    ZP)
   (je (wX (i:=3) iK.nd rfl (cH rfl) (WE.mk (Jy (own:=["word"]) (fr:=[]) (ix:=[]) rfl ⟨rfl,rfl,rfl,rfl,rfl,rfl⟩ (Vl (lO jm vC Wj zcT (pv 1) (za jG zB))) (fun _ _ _ _ _=>(j9 (i:=0) (show (["word"]:List Str).Nodup by decide +kernel) rfl (zN rfl))) (fun _ _ _ _ _=>Z0) (fun _ _ _ _ _=>(Xo TQ (by rfl) T.z_int zcl (za (pv 0) zB))))))
   (je (wX (i:=4) iK.nd rfl (zN rfl) (pQ Oo (by rfl) T.z_sorted Hy (zx (WE.mk (Jy (own:=["k"]) (fr:=["turns","cell","late"]) (ix:=[3,0,2]) rfl ⟨rfl,rfl,rfl,rfl,rfl,rfl⟩ (WR (by rfl) T.z_range (za (jz vK (by rfl) T.z_len Jv (za (pv 3) zB)) zB)) (fun _ _ _ _ _=>(j9 (i:=0) (show (["k","turns","cell","late"]:List Str).Nodup by decide +kernel) rfl (zN rfl))) (fun _ _ _ _ _=>Z0) (fun _ _ _ _ _=>(jc jP (kZ (Ie K) (pv 1) (pv 0) (fun _ _=>rfl)) (jc vQ (vJ qW (hr.mono (by decide)) (by rfl) (za (pv 2) (za (jc jP zH (pv 0)) zB))) (jc jP (pv 3) zH)))))) qK)))
   (wz (Jz (BJ jm xU xV Ye jA (zx (WE.mk (Jy (own:=["turn"]) (fr:=[]) (ix:=[]) rfl ⟨rfl,rfl,rfl,rfl,rfl,rfl⟩ (Vl (pv 4)) (fun _ _ _ _ _=>(j9 (i:=0) (show (["turn"]:List Str).Nodup by decide +kernel) rfl (zN rfl))) (fun _ _ _ _ _=>Z0) (fun _ _ _ _ _=>(jc vG jG (Xo j7 (by rfl) T.z_str Q7 (za (pv 0) zB)))))) qK))))))) ?_
  by_cases ne:rs=[]
  .subst ne;exact⟨_,rfl,rfl,_,rfl,ifT rfl (q [] [] H (zX.refl _) rfl (fun _ z=>nomatch z) (Ms _) JD (fun _ z=>nomatch z))⟩
  have et:yu rs=Txt.join " " (rs.map txt):=by unfold yu;rw[if_neg ne]
  rw[et];have rb5:∀n∈rs,0<=n/\n<10 ^ 500:=fun n hn=>⟨(rb n hn).1,bh (rb n hn).2 (by decide +kernel)⟩;have e60:(10:Int) ^ 50*4<=10 ^ 60:=by decide +kernel
  have hsp:Txt.split (Txt.join " " (rs.map txt)) " "=rs.map txt:=by
   rw[oA];exact WW (by simpa using ne) (WY fun n hn=>(rb n hn).1)
  have hlen:(Txt.join " " (rs.map txt)).length+2<=sizeLine:=by
   have h1:=Be (rs.map txt);have h2:=iQ rb5;rw[zf] at h1;rw[qC];omega
  refine⟨_,rfl,rfl,_,rfl,ifF (fun z=>zlu ne (fun n hn=>(rb n hn).1) (V.str.inj z)) ?_⟩;refine⟨_,rfl,rfl,_," ",rfl,rfl,zff,hlen,fun a ha=>?_⟩;rw[hsp];have sA:zX H (upd H a (.lst ((rs.map txt).map V.str))):=zX.new ha;have hA:(upd H a (.lst ((rs.map txt).map V.str))) a=some (.lst ((rs.map txt).map V.str)):=zL;generalize upd H a (.lst ((rs.map txt).map V.str))=H1 at sA hA ⊢;refine⟨a,rfl,⟨_,SqL.of hA⟩,fun acc Qn=>Vt (K:=K) (a:=a) (xs:=(rs.map txt).map V.str) (fun i=>V.int (rs.getD i 0)) (SqL.of hA) Qn (by rw[zf,zf,qC];omega) (fun i v H6 R hx s6 hR=>?_) ?_⟩
  .rw[wM,qF] at hx;obtain⟨n,hn,rfl⟩:=Option.map_eq_some_iff.mp hx;have b:=rb5 n (qw hn);have N:=Xn (k:=500) (by decide) b.1 b.2;simp only[zA,hn,xf] at hR;refine⟨rfl,_,rfl,txt n,xN (txt n),rfl,num_reads N (by decide),qd N.le (by decide),?_⟩;rw[wZ b.1];exact hR
  have eR:(qJ ((rs.map txt).map V.str).length).map (fun i=>V.int (rs.getD i 0))=rs.map V.int:=by
   apply QC
   .simp
   .intro j h1 h2;simp at h1 h2;simp[zA,h2]
  rw[eR];have sB:zX H (upd H1 acc (.lst (rs.map V.int))):=sA.put Qn;have hB:(upd H1 acc (.lst (rs.map V.int))) acc=some (.lst (rs.map V.int)):=zL;generalize upd H1 acc (.lst (rs.map V.int))=H2 at sB hB ⊢;refine⟨_,rfl,_,_,rfl,.inl (SqL.of hB),_,rfl,by rw[zf];omega,by rw[zf];omega,fun ac hac=>nD (lo:=0) (n:=((rs.map V.int).length:Int).toNat) (fun i v=>∃d,v=.int (rs.getD i 0+d)/\0<=d/\d<=zy) hac (by rw[zf,qC];omega) ?_ ?_⟩
  .intro i H6 R hi s6 hR;rw[zf] at hi;have hi':i<rs.length:=by omega
   rw[show (0:Int)+(i:Int)=(i:Int) by omega];have gx:=zal (ns:=rs) (k:=i) (x:=rs.getD i 0) (by rw[zA,zq hi'];rfl);refine⟨rfl,_,rfl,_,rfl,_,_,_,_,rfl,rfl,SqL.of (s6 _ _ hB),gx,_,rfl,_,rfl,_,_,rfl,rfl,cell,_,rfl,vI (m:=64) (by omega) (by omega) |> fun h=>zU h (by decide),fun d d0 d1=>⟨_,rfl,_,_,rfl,rfl,_,_,rfl,rfl,by omega,_,_,rfl,rfl,?_⟩⟩;exact hR _ _ (zX.refl _) ⟨_,rfl,xM d (by omega),by have:=jH d (show 0<zy+1 by omega);clear rl hlen hi hi';omega⟩
  .intro ys H3 s3 hY yl yp;rw[zf] at yl;obtain⟨ds,dl,db,rfl⟩:=zsN rs ys (by omega) yp;refine⟨ac,sums rs ds,rfl,SqL.of hY,fun pm ms hpm pms pw=>?_⟩;have s4:zX H (upd H3 pm (.lst (ms.map V.int))):=(sB.trans s3).put hpm;have h4:(upd H3 pm (.lst (ms.map V.int))) pm=some (.lst (ms.map V.int)):=zL;generalize upd H3 pm (.lst (ms.map V.int))=H4 at s4 h4 ⊢;have ml:ms.length=rs.length:=by rw[pms.length_eq,Fp _ _ dl]
   have mb:∀n∈ms,0<=n/\n<10 ^ 60:=fun n hn=>by
    have hs:=pms.mem_iff.mp hn;obtain⟨i,hi⟩:=vA hs;unfold sums at hi;rw[my] at hi;cases e1:rs[i]? with
    | none=>rw[e1] at hi;cases hi
    | some r=>
     cases e2:ds[i]? with
     | none=>rw[e1,e2] at hi;cases hi
     | some dd=>
      rw[e1,e2] at hi;have hi:r+dd=n:=xr hi;have h1:=rb r (qw e1);have h2:=db dd (qw e2);clear rl hlen dl yl ml;omega
   have mb5:∀n∈ms,0<=n/\n<10 ^ 500:=fun n hn=>⟨(mb n hn).1,xR (mb n hn).2 zlJ⟩;have hl1:(" ":Str).length=1:=by decide +kernel
   refine⟨rfl,_,rfl,pm,rfl,⟨_,SqL.of h4⟩,fun ak hak=>Vt (K:=K) (a:=pm) (xs:=ms.map V.int) (fun i=>V.str (" "++txt (ms.getD i 0))) (SqL.of h4) hak (by rw[zf,qC];clear l0 l1 hlen yl hl1;omega) (fun i v H6 R hx s6 hR=>?_) ?_⟩
   .rw[qF] at hx;obtain⟨n,hn,rfl⟩:=Option.map_eq_some_iff.mp hx;have b:=mb5 n (qw hn);have tl:=J4 b.1 b.2;simp only[zA,hn,xf] at hR;exact⟨rfl,_,rfl,n,rfl,lg b.1 b.2,_,_,rfl,rfl,by rw[hl1,qC];show 1+(txt n).length<=_;clear rl hlen dl yl ml hl1 b;omega,hR⟩
   have eM:(qJ (ms.map V.int).length).map (fun i=>V.str (" "++txt (ms.getD i 0)))=(ms.map fun n=>" "++txt n).map V.str:=by
    apply QC
    .simp
    .intro j h1 h2;simp at h1 h2;simp[zA,h2]
   rw[eM];have s5:zX H (upd H4 ak (.lst ((ms.map fun n=>" "++txt n).map V.str))):=s4.put hak;refine⟨"",ak,ms.map fun n=>" "++txt n,rfl,rfl,SqL.of zL,?_,q ds ms _ s5 dl db pms pw mb⟩;have h0:("":Str).length=0:=by decide +kernel
   have cl:((ms.map fun n=>" "++txt n).map (·.length)).sum<=ms.length*501:=by
    clear eM h4 s4 ml pms pw q mb s5 hak
    induction ms with
    | nil=>exact zE _
    | cons n ms ih=>
     have tl:=J4 (mb5 n (zJ ..)).1 (mb5 n (zJ ..)).2;have:=ih fun m hm=>mb5 m (zG _ hm);simp only[zY,yL,qx,Vg,hl1] at this ⊢;clear rl l0 l1 hlen dl yl hl1 h0;omega
   rw[h0];clear l0 l1 hlen yl hl1 h0;omega
end
section
variable {K:zg}{CD CF CO CN CT CR C1 C2 C3:zm}{x d:zm}{H:Hp}
theorem bL {n:Int} (h0:0<=n) (h1:n<=60):Num 60 (txt n)/\Num 3000 (txt n)/\Jk (txt n):=by
 have a:=Xn (k:=60) (by decide) h0 (wR h1 (by decide));exact⟨a,zhj h0 (wR h1 (by decide +kernel)),a,by rw[wZ h0];exact h1⟩
theorem zfL {b l m:Int}{u:Str} (hx:∃dx,H x=some (.ins CD dx (fr1 d))) (b0:0<=b/\b<=60) (l0:0<=l/\l<=60) (m0:0<=m/\m<=60) (h1:b=0->1<m->u="none") (h2:(b=0->m<=1)->∀t,ZL b l m t->u=txt t) :
  FT (TD K CD CF CO CN CT CR C1 C2 C3) [.ref x,.str (Txt.join " " ("short"::[b,l,m].map txt))] H (fun v H'=>v=.str u/\zX H H') (fun _ _=>False):=by
 refine zaY hx (by unfold Vs;decide +kernel) (by decide +kernel) (by show 3<=5;decide) (fun y hy=>?_) (by decide +kernel) (by decide +kernel) (by decide +kernel) (by decide +kernel) (nJ.mpr ⟨(bL b0.1 b0.2).2.2,(bL l0.1 l0.2).1,(bL m0.1 m0.2).2.1⟩) fun Q H' s qa=>⟨fun _ a b' c e=>?_,fun z=>absurd z (by decide +kernel),fun z=>absurd z (by decide +kernel)⟩
 .simp only[xX,jL,or_false] at hy;rcases hy with rfl | rfl | rfl <;> assumption
 .rw[show [b,l,m].map txt=[txt b,txt l,txt m] from rfl] at e;cases e;rw[wZ b0.1,wZ l0.1,wZ m0.1];exact⟨fun z1 z2 H2 s2=>qa _ H2 ⟨by rw[h1 z1 z2],s.trans s2⟩,fun z t H2 s2 ht=>qa _ H2 ⟨by rw[h2 z t ht],s.trans s2⟩⟩
theorem zjc {t l m:Int}{u:Str} (hx:∃dx,H x=some (.ins CD dx (fr1 d))) (t0:0<=t/\t<=60) (l0:0<=l/\l<=60) (m0:0<=m/\m<=60) (h:∀y,Di t l m y->u=txt y) :
  FT (TD K CD CF CO CN CT CR C1 C2 C3) [.ref x,.str (Txt.join " " ("best"::[t,l,m].map txt))] H (fun v H'=>v=.str u/\zX H H') (fun _ _=>False):=by
 refine zaY hx (by unfold Vs;decide +kernel) (by decide +kernel) (by show 3<=5;decide) (fun y hy=>?_) (by decide +kernel) (by decide +kernel) (by decide +kernel) (by decide +kernel) (Ba.mpr ⟨(bL t0.1 t0.2).1,(bL l0.1 l0.2).1,(bL m0.1 m0.2).2.2⟩) fun Q H' s qa=>⟨fun z=>absurd z (by decide +kernel),fun _ a b' c e=>?_,fun z=>absurd z (by decide +kernel)⟩
 .simp only[xX,jL,or_false] at hy;rcases hy with rfl | rfl | rfl <;> assumption
 .rw[show [t,l,m].map txt=[txt t,txt l,txt m] from rfl] at e;cases e;rw[wZ t0.1,wZ l0.1,wZ m0.1];exact fun y H2 s2 hy=>qa _ H2 ⟨by rw[h y hy],s.trans s2⟩
theorem zfJ {m l tc bc b:Int} (hx:∃dx,H x=some (.ins CD dx (fr1 d))) (m0:0<=m/\m<=60) (l0:0<=l/\l<=60) (t0:0<=tc/\tc<=60) (c0:0<=bc/\bc<=60) (b0:0<=b/\b<=60) :
  FT (TD K CD CF CO CN CT CR C1 C2 C3) [.ref x,.str (Txt.join " " ("cheap"::[m,l,tc,bc,b].map txt))] H (fun v H'=>v=.str (bG (Wr (listS tc bc l m (b+1).toNat)))/\zX H H') (fun _ _=>False):=by
 refine zaY hx (by unfold Vs;decide +kernel) (by decide +kernel) (by show 5<=5;decide) (fun y hy=>?_) (by decide +kernel) (by decide +kernel) (by decide +kernel) (by decide +kernel) (HX.mpr ⟨(bL m0.1 m0.2).2.1,(bL l0.1 l0.2).1,(bL t0.1 t0.2).1,(bL c0.1 c0.2).1,(bL b0.1 b0.2).2.2⟩) fun Q H' s qa=>⟨fun z=>absurd z (by decide +kernel),fun z=>absurd z (by decide +kernel),fun _ a1 a2 a3 a4 a5 e=>?_⟩
 .simp only[xX,jL,or_false] at hy;rcases hy with rfl | rfl | rfl | rfl | rfl <;> assumption
 .rw[show [m,l,tc,bc,b].map txt=[txt m,txt l,txt tc,txt bc,txt b] from rfl] at e;cases e;rw[wZ m0.1,wZ l0.1,wZ t0.1,wZ c0.1,wZ b0.1];exact fun H2 s2=>qa _ H2 ⟨rfl,s.trans s2⟩
end
theorem zcy {t R:TS}{D:Ends}{σ:St}{H:Hp} (Pre:St->Hp->Prop) (tail:∀σ H,Pre σ H->R D σ H) (h:∀N:St->Hp->Prop,(∀σ H,Pre σ H->N σ H)->t { D with nx:=N } σ H):zmf t R D σ H:=h (fun σ H=>R D σ H) tail
theorem zyN:("3":Str)=txt 3:=by decide +kernel
theorem zyO:("5":Str)=txt 5:=by decide +kernel
theorem zyP:("9":Str)=txt 9:=by decide +kernel
theorem oF {x:Str} (h:((cpl x).all fun c=>decide (c<1114112))=true):YD x:=fun c hc=>of_decide_eq_true (List.all_eq_true.mp h c hc)
theorem zf3 {m l tc bc b:Int} (l0:0<=l) (l1:l<=100) (t0:0<=tc) (t1:tc<=100) (c0:0<=bc) (c1:bc<=100) (m0:0<=m) (m1:m<=100) (b1:b<=100):YD (bG (Wr (listS tc bc l m (b+1).toNat))):=by
 cases h:Wr (listS tc bc l m (b+1).toNat) with
 | none=>exact oF (by decide +kernel)
 | some x=>
  obtain⟨⟨a0,_⟩,⟨a1,_⟩,a2,_⟩:=Lr b1 l0 l1 t0 t1 c0 c1 m0 m1 h;exact cB (cB (cB (cB (cB (YT a0) (oF (by decide +kernel))) (YT a1)) (oF (by decide +kernel))) (YT a2)) (oF (by decide +kernel))
theorem zaG {w0:Str}{ns:List Int} (wl:w0.length<=20) (nl:ns.length<=5) (nb:∀m∈ns,0<=m/\m<=60):((w0::ns.map txt).map (·.length)).sum+(w0::ns.map txt).length*(" ":Str).length<=16777216:=by
 have h2:((ns.map txt).map (·.length)).sum<=ns.length*500:=iQ fun m hm=>⟨(nb m hm).1,wR (nb m hm).2 (by decide +kernel)⟩;rw[show (" ":Str).length=1 by decide +kernel];simp only[zY,yL,qx,zf];omega
theorem zaJ {n:Int} (h0:0<=n) (h1:n<=60):n.natAbs.log2<1920:=lg h0 (wR h1 (by decide +kernel))
section
variable {CD CF CO CN CT CR C1 C2 C3:zm}{S:Cs}
def zdp (CD:zm):Sp:=fun vs H Q _=>∃(x d:zm) (cell:Int),vs=[.ref x,.int cell]/\(∃dx,H x=some (.ins CD dx (fr1 d)))/\∀H',zX H H'->Q (.bl true) H'
theorem wH:qU ["desk","cell","one","other","way","found","due"] ["desk","cell"] (zP JT):=⟨rfl,rfl,rfl,by decide +kernel,rfl,by decide +kernel,by decide +kernel⟩
theorem zi1 (D:Def K mg "_law_search" JT ["desk","cell"]) (T:Txt K mg) (qW:Fn P w K mg base 1 "_law_drawn" ["cell","k"] za6) (wg:Fn P w K mg base 39 "shortest_frame" ["bells","late","many"] G9) (Xj:Fn P w K mg base 3 "best_bells" ["turns","late","most"] zfR) (Wx:Fn P w K mg base 40 "cheapest" ["many","late","turn_cost","bell_cost","most"] za5) (vY:Fn P w K mg base 47 "_law_told" ["desk","order"] (G7 K S CD (TD K CD CF CO CN CT CR C1 C2 C3))):Fn P w K mg base 48 "_law_search" ["desk","cell"] (zdp CD):=by
 refine D.fn wH (fun vs H Q E h=>?_) (fun f cdv A outer s H vs Q E hr h=>?_)
 .obtain⟨x,d,c,rfl,_⟩:=h;rfl
 .obtain⟨x,d,cell,rfl,hx,q⟩:=h;have hu:=zq4 hr;refine zbg (je (wX (i:=2) wH.nd rfl (zN rfl) (Qh vQ (Xd qW (hr.mono (by decide)) (by rfl) (zx (WE.mk (pv 1)) (zx (WE.mk zH) qK z6) qm)) (WE.mk zH)))
   (je (wX (i:=3) wH.nd rfl (zN rfl) (Qh vQ (Xd qW (hr.mono (by decide)) (by rfl) (zx (WE.mk (pv 1)) (zx (WE.mk zH) qK z6) qm)) (WE.mk zH)))
   (je (wX (i:=4) wH.nd rfl (zN rfl) (Qh vQ (Xd qW (hr.mono (by decide)) (by rfl) (zx (WE.mk (pv 1)) (zx (WE.mk zH) qK z6) qm)) (WE.mk zH)))
   (je (cN (dh Zy (WE.mk (pv 4)) (WE.mk zH) (qZ _))
    (je (wX (i:=5) wH.nd rfl (zN rfl) (Xd wg (hr.mono (by decide)) (by rfl) (zx (WE.mk (pv 2)) (zx (Qh vQ (WE.mk (pv 3)) (WE.mk zH)) (zx (WE.mk (pv 3)) qK qm) KY) qm)))
    (je (wX (i:=6) wH.nd rfl (zN rfl) (zbh j8 (di (zx (yw ziz (by rfl) T.z_str Q7 (zx (WE.mk (pv 5)) qK qm)) (zx jA qK z6) Zf)) (yw TJ (by rfl) T.z_int zcl (zx (oJ zaQ (WE.mk (pv 5)) (WE.mk az) (qZ _)) qK)) (fun _ _=>rfl)))
    (wz (Jz (oJ (iH hu) (Xd vY (hr.mono (by decide)) (by rfl) (zx (WE.mk (pv 0)) (zx (BJ jm xU xV Ye jA (zx (di (zx jA (zx (yw j7 (by rfl) T.z_str Q7 (zx (WE.mk (pv 2)) qK qm)) (zx (yw j7 (by rfl) T.z_str Q7 (zx (Qh vQ (WE.mk (pv 3)) (WE.mk zH)) qK KY)) (zx (yw j7 (by rfl) T.z_str Q7 (zx (WE.mk (pv 3)) qK qm)) qK Zf) Zf) Zf) z6)) qK)) qK Zf) qm)) (rT (zx jA (zx (WE.mk (pv 6)) qK qm) z6)) (qZ _))))))
    ZP)
   (je (cN (dh Zy (WE.mk (pv 4)) (WE.mk zH) (qZ _))
    (je (wX (i:=6) wH.nd rfl (zN rfl) (yw j7 (by rfl) T.z_str Q7 (zx (Xd Xj (hr.mono (by decide)) (by rfl) (zx (WE.mk (pv 3)) (zx (WE.mk (pv 2)) (zx (WE.mk zH) qK z6) qm) qm)) qK Zf)))
    (wz (Jz (oJ (iH hu) (Xd vY (hr.mono (by decide)) (by rfl) (zx (WE.mk (pv 0)) (zx (BJ jm xU xV Ye jA (zx (di (zx jA (zx (yw j7 (by rfl) T.z_str Q7 (zx (WE.mk (pv 3)) qK qm)) (zx (yw j7 (by rfl) T.z_str Q7 (zx (WE.mk (pv 2)) qK qm)) (zx jA qK z6) Zf) Zf) z6)) qK)) qK Zf) qm)) (rT (zx jA (zx (WE.mk (pv 6)) qK qm) z6)) (qZ _)))))
    ZP)
   (je (wX (i:=5) wH.nd rfl (zN rfl) (Xd Wx (hr.mono (by decide)) (by rfl) (zx (WE.mk (pv 3)) (zx (WE.mk (pv 2)) (zx (WE.mk zH) (zx (WE.mk zH) (zx (WE.mk (pv 2)) qK qm) z6) z6) qm) qm)))
   (je (wX (i:=6) wH.nd rfl (zN rfl) jA)
   (je (cN (dh zaR (WE.mk (pv 5)) (WE.mk az) (qZ _))
    (wz (wX (i:=6) wH.nd rfl (zN rfl) (Qh vG (Qh vG (Qh vG (Qh vG (Qh vG (yw j7 (by rfl) T.z_str Q7 (zx (zbh uf (WE.mk (pv 5)) (WE.mk zH) (fun _ _=>rfl)) qK LC)) jA) (yw j7 (by rfl) T.z_str Q7 (zx (zbh uf (WE.mk (pv 5)) (WE.mk zH) (fun _ _=>rfl)) qK LC))) jA) (yw j7 (by rfl) T.z_str Q7 (zx (zbh uf (WE.mk (pv 5)) (WE.mk zH) (fun _ _=>rfl)) qK LC))) jA)))
    ZP)
   (wz (Jz (oJ (iH hu) (Xd vY (hr.mono (by decide)) (by rfl) (zx (WE.mk (pv 0)) (zx (BJ jm xU xV Ye jA (zx (di (zx jA (zx (yw j7 (by rfl) T.z_str Q7 (zx (WE.mk (pv 3)) qK qm)) (zx (yw j7 (by rfl) T.z_str Q7 (zx (WE.mk (pv 2)) qK qm)) (zx jA (zx jA (zx (yw j7 (by rfl) T.z_str Q7 (zx (WE.mk (pv 2)) qK qm)) qK Zf) z6) z6) Zf) Zf) z6)) qK)) qK Zf) qm)) (rT (zx jA (zx (WE.mk (pv 6)) qK qm) z6)) (qZ _)))))))))))) ?_
  refine⟨_,rfl,cell,18,rfl,by decide,fun d1 _ _=>⟨_,_,rfl,rfl,(by decide),_,rfl,cell,19,rfl,by decide,fun d2 _ _=>⟨_,_,rfl,rfl,(by decide),_,rfl,cell,20,rfl,by decide,fun d3 _ _=>⟨_,_,rfl,rfl,(by decide),?_⟩⟩⟩⟩;have o0:0<=d1 % 7/\d1 % 7<=60/\d1 % 7<=6:=by clear hu;omega
  generalize d1 % 7=one at o0 ⊢;have r0:0<=d2 % 40/\d2 % 40<=60:=by clear hu o0;omega
  generalize d2 % 40=other at r0 ⊢;have f0:0<=other % 5/\other % 5<=60:=by clear hu o0;omega
  generalize d3 % 3=way;have bt:∀{n:Int},0<=n->n<=60->zZ n<=7:=fun h0 h1=>zan h0 (by clear hu o0 r0 f0;omega);have hxs:∀{H':Hp},zX H H'->∃dx,H' x=some (.ins CD dx (fr1 d)):=fun s'=>hx.imp fun _ h=>s' _ _ h;refine⟨_,rfl,_,_,rfl,rfl,_,rfl,ifD (fun z=>?_) (fun z=>?_)⟩
  .refine zcy (fun σ' H'=>∃v,σ'=[some (.ref x),some (.int cell),some (.int one),some (.int other),some (.int way),some v,none]/\H'=H/\((v=.non/\one=0/\1<other)∨∃t,v=.int t/\(one=0->other<=1)/\ZL one (other % 5) other t)) ?_ (fun N hN=>⟨_,rfl,_,rfl,_,_,rfl,rfl,(by decide),_,rfl,one,other % 5,other,rfl,o0.1,o0.2.1,f0.1,r0.1,zU (bt f0.1 f0.2) (by decide),zU (bt r0.1 r0.2) (by decide),fun z1 z2=>hN _ _ ⟨_,rfl,rfl,.inl ⟨rfl,z1,z2⟩⟩,fun zz t ht _=>hN _ _ ⟨_,rfl,rfl,.inr ⟨t,rfl,zz,ht⟩⟩⟩);rintro σ' H' ⟨v,rfl,rfl,hv⟩;refine zcy (fun σ' H2=>∃u:Str,σ'=[some (.ref x),some (.int cell),some (.int one),some (.int other),some (.int way),some v,some (.str u)]/\zX H' H2/\(one=0->1<other->u="none")/\((one=0->other<=1)->∀t,ZL one (other % 5) other t->u=txt t)/\YD u) ?_ (fun N hN=>?_);rotate_left
   .rcases hv with ⟨rfl,z1,z2⟩ | ⟨t,rfl,zz,ht⟩
    .exact⟨_,rfl,_,rfl,.inl ⟨rfl,(by show 2<=sizeLine;decide),fun pl hpl=>⟨_,rfl,rfl,.inr ⟨_,rfl,_,_,_,_,rfl,rfl,SqL.of zL,rfl,hN _ _ ⟨"none",rfl,zX.new hpl,fun _ _=>rfl,fun y=>by have:=y z1;clear hu o0 f0;omega,oF (by decide +kernel)⟩⟩⟩⟩⟩
    .have tb:=zdl o0.1 f0.1 r0.1 (by clear hu f0;omega) (by clear hu o0;omega) (by clear hu o0 f0;omega) zz ht;exact⟨_,rfl,_,rfl,.inr ⟨t,rfl,lg tb.1 (l7 tb.2),(by show 2<=sizeLine;decide),fun pl hpl=>⟨_,rfl,rfl,.inr ⟨_,rfl,_,_,_,_,rfl,rfl,SqL.of zL,rfl,hN _ _ ⟨txt t,rfl,zX.new hpl,fun y1 y2=>by have:=zz y1;clear hu o0 f0;omega,fun _ t' ht'=>by rw[iM o0.1 f0.1 ht ht'],YT tb.1⟩⟩⟩⟩⟩
   rintro σ' H2 ⟨u,rfl,s2,h1,h2,tk⟩;refine⟨_,rfl,rfl,_,rfl,one,rfl,zaJ o0.1 o0.2.1,_,rfl,_,_,rfl,rfl,(by decide),_,rfl,zaJ f0.1 f0.2,_,rfl,other,rfl,zaJ r0.1 r0.2,(by show 4<=sizeLine;decide),fun pw hpw=>⟨" ",pw,"short"::[one,other % 5,other].map txt,rfl,rfl,SqL.of zL,zaG (by decide +kernel) (by show 3<=5;decide) (fun y hy=>?_),?_⟩⟩
   .simp only[xX,jL,or_false] at hy;rcases hy with rfl | rfl | rfl
    .exact⟨o0.1,o0.2.1⟩
    .exact f0
    .exact r0
   have s3:=s2.put hpw (o:=.lst ((("short":Str)::[one,other % 5,other].map txt).map V.str));obtain⟨dx,hx'⟩:=hxs s3;refine⟨x,dx,fr1 d,_,_,_,rfl,hx',JK (by decide +kernel),zfL ⟨dx,hx'⟩ ⟨o0.1,o0.2.1⟩ f0 r0 h1 h2,fun v' H3 a=>⟨u,a.1,fun pt H4 s4 h4=>⟨_,rfl,(by show 2<=sizeLine;decide),fun pu hpu=>⟨pt,pu,_,_,rfl,rfl,(zX.new hpu) _ _ h4,zL,WX,tk,q _ (((s3.trans a.2).trans s4).put hpu)⟩⟩⟩,fun _ _ z=>z.elim⟩
  refine⟨_,rfl,_,_,rfl,rfl,_,rfl,ifD (fun z=>?_) (fun z=>?_)⟩
  .refine⟨_,rfl,_,rfl,other,one,9,rfl,o0.1,by decide,by decide,zU (bt o0.1 o0.2.1) (by decide),zU (bt r0.1 r0.2) (by decide),fun y hy=>⟨y,rfl,zaJ hy.1 (by have:=hy.2.1;clear hu o0 r0 f0 z;omega),?_⟩⟩;refine⟨_,rfl,rfl,_,rfl,other,rfl,zaJ r0.1 r0.2,_,rfl,one,rfl,zaJ o0.1 o0.2.1,(by show 4<=sizeLine;decide),fun pw hpw=>⟨" ",pw,"best"::[other,one,9].map txt,rfl,rfl,SqL.of (by rw[zL,zyP];rfl),zaG (by decide +kernel) (by show 3<=5;decide) (fun y hy=>?_),?_⟩⟩
   .simp only[xX,jL,or_false] at hy;rcases hy with rfl | rfl | rfl
    .exact r0
    .exact⟨o0.1,o0.2.1⟩
    .decide
   have s3:=fun o=>zX.new (o:=o) hpw;obtain⟨dx,hx'⟩:=hxs (s3 _);exact⟨x,dx,fr1 d,_,_,_,rfl,hx',JK (by decide +kernel),zjc (u:=txt y) ⟨dx,hx'⟩ r0 ⟨o0.1,o0.2.1⟩ ⟨by decide,by decide⟩ (fun y' hy'=>by rw[zcm hy hy']),fun v' H3 a=>⟨_,a.1,fun pt H4 s4 h4=>⟨_,rfl,(by show 2<=sizeLine;decide),fun pu hpu=>⟨pt,pu,_,_,rfl,rfl,(zX.new hpu) _ _ h4,zL,WX,YT hy.1,q _ ((((s3 _).trans a.2).trans s4).put hpu)⟩⟩⟩,fun _ _ z=>z.elim⟩
  .refine⟨_,rfl,_,rfl,_,rfl,other,one,3,5,one,rfl,o0.1,o0.2.1,o0.1,r0.1,zU (bt o0.1 o0.2.1) (by decide),zU (bt r0.1 r0.2) (by decide),by decide,by decide,fun v H1 s1 B=>?_⟩;have tk:YD (bG (Wr (listS 3 5 one other (one+1).toNat))):=zf3 o0.1 (by clear hu f0;omega) (by decide) (by decide) (by decide) (by decide) r0.1 (by clear hu o0 f0;omega) (by clear hu f0;omega);refine zcy (fun σ' H0=>σ'=[some (.ref x),some (.int cell),some (.int one),some (.int other),some (.int way),some v,none]/\H0=H1) ?_ (fun N hN=>hN _ _ ⟨rfl,rfl⟩);rintro σ' H0 ⟨rfl,rfl⟩;refine zcy (fun σ' H2=>σ'=[some (.ref x),some (.int cell),some (.int one),some (.int other),some (.int way),some v,some (.str "none")]/\H2=H0) ?_ (fun N hN=>hN _ _ ⟨rfl,rfl⟩);rintro σ' H2 ⟨rfl,rfl⟩;refine zcy (fun σ' H3=>σ'=[some (.ref x),some (.int cell),some (.int one),some (.int other),some (.int way),some v,some (.str (bG (Wr (listS 3 5 one other (one+1).toNat))))]/\H3=H2) ?_ (fun N hN=>?_);rotate_left
   .generalize hb:Wr (listS 3 5 one other (one+1).toNat)=ox at B hN tk;cases B with
    | non=>exact⟨_,rfl,rfl,_,rfl,zcJ (fun n=>absurd rfl n) (fun _=>hN _ _ ⟨rfl,rfl⟩)⟩
    | tup p y hp=>
     obtain⟨⟨c0,c1⟩,⟨e0,e1⟩,g0,g1⟩:=Lr (show one<=100 by clear hu f0;omega) o0.1 (by clear hu f0;omega) (by decide) (by decide) (by decide) (by decide) r0.1 (by clear hu o0 f0;omega) hb;have k1:=fZ c0 c1;have k2:=fZ e0 e1;have k3:=fZ g0 g1;have f1:(" for ":Str).length=5:=by decide +kernel
     have f2:(" turns and ":Str).length=11:=by decide +kernel
     have f3:(" bells":Str).length=6:=by decide +kernel
     refine⟨_,rfl,rfl,_,rfl,zcJ (fun _=>⟨_,rfl,_,_,_,_,rfl,rfl,SqT.of hp,rfl,y.1,rfl,lg c0 (l7 c1),txt y.1," for ",rfl,rfl,?_,_,rfl,_,_,_,_,rfl,rfl,SqT.of hp,rfl,y.2.1,rfl,lg e0 (l7 e1),_,txt y.2.1,rfl,rfl,?_,_," turns and ",rfl,rfl,?_,_,rfl,_,_,_,_,rfl,rfl,SqT.of hp,rfl,y.2.2,rfl,lg g0 (l7 g1),_,txt y.2.2,rfl,rfl,?_,_," bells",rfl,rfl,?_,hN _ _ ⟨rfl,rfl⟩⟩) (fun y=>nomatch y)⟩
     all_goals
      simp only[Vg,qC];omega
   rintro σ' H3 ⟨rfl,rfl⟩;refine⟨_,rfl,rfl,_,rfl,other,rfl,zaJ r0.1 r0.2,_,rfl,one,rfl,zaJ o0.1 o0.2.1,_,rfl,one,rfl,zaJ o0.1 o0.2.1,(by show 6<=sizeLine;decide),fun pw hpw=>⟨" ",pw,"cheap"::[other,one,3,5,one].map txt,rfl,rfl,SqL.of (by rw[zL,zyN,zyO];rfl),zaG (by decide +kernel) (by show 5<=5;decide) (fun y hy=>?_),?_⟩⟩
   .simp only[xX,jL,or_false] at hy;rcases hy with rfl | rfl | rfl | rfl | rfl
    .exact r0
    .exact⟨o0.1,o0.2.1⟩
    .decide
    .decide
    .exact⟨o0.1,o0.2.1⟩
   have s3:=fun o=>s1.put (o:=o) hpw;obtain⟨dx,hx'⟩:=hxs (s3 _);exact⟨x,dx,fr1 d,_,_,_,rfl,hx',JK (by decide +kernel),zfJ ⟨dx,hx'⟩ r0 ⟨o0.1,o0.2.1⟩ ⟨by decide,by decide⟩ ⟨by decide,by decide⟩ ⟨o0.1,o0.2.1⟩,fun v' H3 a=>⟨_,a.1,fun pt H4 s4 h4=>⟨_,rfl,(by show 2<=sizeLine;decide),fun pu hpu=>⟨pt,pu,_,_,rfl,rfl,(zX.new hpu) _ _ h4,zL,WX,tk,q _ ((((s3 _).trans a.2).trans s4).put hpu)⟩⟩⟩,fun _ _ z=>z.elim⟩
end
structure lZ (CD CF x d e:zm) (n:Nat) (fr:Str->Option (Int×Int×Int)) (H:Hp):Prop where
 desk:yo CD CF x d n fr H
 ne:d≠e
 dict:∃kvs,H e=some (.dK kvs)/\kvs.length<=n/\(∀p∈kvs,∃nm,p.1=xG nm/\vp nm/\∃t b l,fr nm=some (t,b,l))/\∀nm t b l,fr nm=some (t,b,l)->∃p,Xa kvs (xG nm)=some (.ref p)/\H p=some (.tup [.int t,.int b,.int l])
 ok:∀nm t b l,fr nm=some (t,b,l)->Od t b l
theorem zlp {kvs:List (Key×V)}{k:Key}{v:V}{p:Key×V} (h:p∈putK kvs k v):p.1=k∨∃q∈kvs,p.1=q.1:=by
 unfold putK at h;split at h
 .obtain⟨q,hq,rfl⟩:=List.mem_map.mp h;exact .inr ⟨q,hq,by split <;> rfl⟩
 .rcases List.mem_append.mp h with z | z
  .exact .inr ⟨p,z,rfl⟩
  .rw[List.mem_singleton.mp z];exact .inl rfl
def An (d e:zm) (H H':Hp):Prop:=∀a o,H a=some o->a≠d->a≠e->H' a=some o
section
variable {CD CF x d e:zm}{n:Nat}{fr:Str->Option (Int×Int×Int)} {H H':Hp}
theorem yo.more {n':Nat} (h:yo CD CF x d n fr H) (hn:n<=n'):yo CD CF x d n' fr H:=by
 obtain⟨h1,⟨kvs,h2,h3,h4,h5⟩,h6⟩:=h;exact⟨h1,⟨kvs,h2,qd h3 hn,h4,h5⟩,h6⟩
theorem yo.keepX (h:yo CD CF x d n fr H) (s:∀a o,H a=some o->(∀kvs,o≠.dK kvs)∨a=d->H' a=some o):yo CD CF x d n fr H':=by
 obtain⟨⟨dx,h1⟩,⟨kvs,h2,h3,h4,h5⟩,h6⟩:=h;refine⟨⟨dx,s _ _ h1 (.inl fun _ z=>nomatch z)⟩,⟨kvs,s _ _ h2 (.inr rfl),h3,h4,fun nm t b l q=>?_⟩,h6⟩;obtain⟨p,hp,dx,hq⟩:=h5 nm t b l q;exact⟨p,hp,dx,s _ _ hq (.inl fun _ z=>nomatch z)⟩
theorem lZ.more (h:lZ CD CF x d e n fr H):lZ CD CF x d e (n+1) fr H:=by
 obtain⟨h1,h2,⟨kvs,h3,h4,h5⟩,h6⟩:=h;exact⟨h1.more (dB n),h2,⟨kvs,h3,Wg h4,h5⟩,h6⟩
theorem lZ.keepX (h:lZ CD CF x d e n fr H) (s:∀a o,H a=some o->(∀kvs,o≠.dK kvs)∨a=d∨a=e->H' a=some o):lZ CD CF x d e n fr H':=by
 obtain⟨h1,h2,⟨kvs,h3,h4,h5,h6⟩,h7⟩:=h;refine⟨h1.keepX fun a o q z=>s a o q (z.imp id .inl),h2,⟨kvs,s _ _ h3 (.inr (.inr rfl)),h4,h5,fun nm t b l q=>?_⟩,h7⟩;obtain⟨p,hp,hq⟩:=h6 nm t b l q;exact⟨p,hp,s _ _ hq (.inl fun _ z=>nomatch z)⟩
theorem lZ.mono (s:zX H H') (h:lZ CD CF x d e n fr H):lZ CD CF x d e n fr H':=h.keepX fun a o q _=>s a o q
theorem An.of (s:zX H H'):An d e H H':=fun a o h _ _=>s a o h
end
section
variable {CD CF x d e:zm}{n:Nat}{fr:Str->Option (Int×Int×Int)}{H:Hp}
theorem lZ.put (BK:lZ CD CF x d e n fr H):∃kvs,H e=some (.dK kvs)/\kvs.length<=n/\∀(nm:Str) (pf:zm) (t b l:Int),vp nm->H pf=some (.tup [.int t,.int b,.int l])->Od t b l ->
  yo CD CF x d n fr (upd H e (.dK (putK kvs (xG nm) (V.ref pf))))/\(upd H e (.dK (putK kvs (xG nm) (V.ref pf)))) pf=some (.tup [.int t,.int b,.int l])/\(∀a o,H a=some o->a≠e->(upd H e (.dK (putK kvs (xG nm) (V.ref pf)))) a=some o) /\
  ∀H3 H4,zX (upd H e (.dK (putK kvs (xG nm) (V.ref pf)))) H3->Ke d H3 H4->yo CD CF x d (n+1) (n6 fr nm (t,b,l)) H4->lZ CD CF x d e (n+1) (n6 fr nm (t,b,l)) H4/\An d e H H4:=by
 obtain⟨kvs,he,kl,k1,k2⟩:=BK.dict;refine⟨kvs,he,kl,fun nm pf t b l gn hF fo=>?_⟩;have hF2:(upd H e (.dK (putK kvs (xG nm) (V.ref pf)))) pf=some (.tup [.int t,.int b,.int l]):=by rw[jM fun z=>by rw[z,he] at hF;cases hF];exact hF
 have he2:(upd H e (.dK (putK kvs (xG nm) (V.ref pf)))) e=some (.dK (putK kvs (xG nm) (V.ref pf))):=zL;have y2:∀a o,H a=some o->a≠e->(upd H e (.dK (putK kvs (xG nm) (V.ref pf)))) a=some o:=fun a o h ne=>by rw[jM ne];exact h
 generalize upd H e (.dK (putK kvs (xG nm) (V.ref pf)))=H2 at hF2 he2 y2 ⊢;have hD2:yo CD CF x d n fr H2:=BK.desk.keepX fun a o h z=>y2 a o h fun w=>by
  rcases z with z | z
  .rw[w,he] at h;cases h;exact z _ rfl
  .exact BK.ne (z.symm.trans w)
 refine⟨hD2,hF2,y2,fun H3 H4 s3 s4 hD4=>?_⟩;obtain⟨kvd,hd3,_⟩:=(hD2.mono s3).dict;have hF3:=s3 _ _ hF2;have hF4:=s4 _ _ hF3 fun z=>by rw[z,hd3] at hF3;cases hF3
 have he4:=s4 _ _ (s3 _ _ he2) (Xy BK.ne);refine⟨⟨hD4,BK.ne,⟨_,he4,?_,fun p hp=>?_,fun nm' t' b' l' z=>?_⟩,fun nm' t' b' l' z=>?_⟩,fun a o h n1 n2=>s4 _ _ (s3 _ _ (y2 _ _ h n2)) n1⟩
 .have:=zdc kvs (xG nm) (V.ref pf);omega
 .rcases zlp hp with z | ⟨q,hq,z⟩
  .exact⟨nm,z,gn,t,b,l,by unfold n6;rw[if_pos rfl]⟩
  .obtain⟨nm',e1,g1,t',b',l',e2⟩:=k1 q hq;refine⟨nm',z.trans e1,g1,?_⟩;unfold n6;split
   .exact⟨t,b,l,rfl⟩
   .exact⟨t',b',l',e2⟩
 .unfold n6 at z;rw[oH];split at z
  .rename_i h;cases z;rw[if_pos (by rw[h])];exact⟨pf,rfl,hF4⟩
  .rename_i h;rw[if_neg (fun z=>h (ph z))];obtain⟨r,hr1,hr2⟩:=k2 nm' t' b' l' z;have hr3:=s3 _ _ (y2 _ _ hr2 fun z=>by rw[z,he] at hr2;cases hr2);exact⟨r,hr1,s4 _ _ hr3 fun z=>by rw[z,hd3] at hr3;cases hr3⟩
 .unfold n6 at z;split at z
  .cases z;exact fo
  .exact BK.ok nm' t' b' l' z
end
theorem bl9:("messages ":Str).length=9:=by decide +kernel
theorem bl5:("frame":Str).length=5:=by decide +kernel
theorem bl1:(" ":Str).length=1:=by decide +kernel
theorem HY:vp "other":=zhf (by decide +kernel)
theorem kd0:kdN 0="NoOrder":=by decide +kernel
theorem Od.b5' {t b l:Int} (F:Od t b l):∀m∈[t,b,l],0<=m/\m<10 ^ 500:=fun m hm=>by
 have e:(60:Int)<10 ^ 500:=by decide +kernel
 obtain⟨t0,t1,b0,b5,l0,l3⟩:=F;simp only[xX,jL,or_false] at hm;generalize (10:Int) ^ 500=B at e ⊢;rcases hm with rfl | rfl | rfl <;> omega
section
variable {CD CF CO CN CT CR C1 C2 C3:zm}{S:Cs}
def zoK (CD CF:zm):Sp:=fun vs H Q _=>∃(x d e:zm) (n:Nat) (fr:Str->Option (Int×Int×Int)) (cell:Int),vs=[.ref x,.ref e,.int cell]/\lZ CD CF x d e n fr H/\n<60/\∀fr' H',lZ CD CF x d e (n+1) fr' H'->An d e H H'->Q (.bl true) H'
theorem yK:qU ["desk","frames","cell","way","name","order","turns","bells","late"] ["desk","frames","cell"] (zP XR):=⟨rfl,rfl,rfl,by decide +kernel,rfl,by decide +kernel,by decide +kernel⟩
theorem zlB (D:Def K mg "_law_order" XR ["desk","frames","cell"]) (T:Txt K mg) (F0:XF K S CO 0) (qW:Fn P w K mg base 1 "_law_drawn" ["cell","k"] za6) (jU:Fn P w K mg base 2 "box_count" ["turns","bells","late"] Yv) (m9:Fn P w K mg base 2 "_law_name" ["cell"] zl5) (iu:Fn P w K mg base 2 "_law_frame" ["cell"] zxb) (iw:Fn P w K mg base 2 "_law_wrong" ["cell","name"] (zhF K)) (eE:Fn P w K mg base 48 "_law_search" ["desk","cell"] (zdp CD)) (vY:Fn P w K mg base 47 "_law_told" ["desk","order"] (G7 K S CD (TD K CD CF CO CN CT CR C1 C2 C3))):Fn P w K mg base 49 "_law_order" ["desk","frames","cell"] (zoK CD CF):=by
 refine D.fn yK (fun vs H Q E h=>?_) (fun f cdv A outer s H vs Q E hr h=>?_)
 .obtain⟨x,d,e,n,fr,cell,rfl,_⟩:=h;rfl
 .obtain⟨x,d,e,n,fr,cell,rfl,BK,hn,q⟩:=h;have hu:=zq4 hr;refine zbg (je (wX (i:=3) yK.nd rfl (zN rfl) (Qh vQ (Xd qW (hr.mono (by decide)) (by rfl) (zx (WE.mk (pv 2)) (zx (WE.mk zH) qK z6) qm)) (WE.mk zH)))
   (je (cN (dh bU (WE.mk (pv 3)) (WE.mk zH) (qZ _))
    (je (wX (i:=4) yK.nd rfl (zN rfl) (Xd m9 (hr.mono (by decide)) (by rfl) (zx (WE.mk (pv 2)) qK qm)))
    (je (WS.mk (zhv (Bb hr) (pv 1) (pv 4) (vJ iu (hr.mono (by decide)) (by rfl) (za (pv 2) zB)) rfl))
    (je (wX (i:=5) yK.nd rfl (zN rfl) (BJ jm xU xV Ye jA (zx (Qh DP (di (zx jA (zx (WE.mk (pv 4)) qK qm) z6)) (WE.mk (Jy (own:=["number"]) (fr:=[]) (ix:=[]) rfl ⟨rfl,rfl,rfl,rfl,rfl,rfl⟩ (zrt (G4 (Bb hr) (pv 1) (pv 4) (fun _ _=>rfl))) (fun _ _ _ _ _=>(j9 (i:=0) (show (["number"]:List Str).Nodup by decide +kernel) rfl (zN rfl))) (fun _ _ _ _ _=>Z0) (fun _ _ _ _ _=>(Xo j7 (by rfl) T.z_str Q7 (za (pv 0) zB)))))) qK KY)))
    (je (WS.mk (zaV (G4 (Bb hr) (pv 1) (pv 4) (fun _ _=>rfl)) (Lg (n:=3) rfl (Ze (j9 (i:=6) yK.nd rfl (zN rfl)) (Ze (j9 (i:=7) yK.nd rfl (zN rfl)) (Ze (j9 (i:=8) yK.nd rfl (zN rfl)) iJ))))))
    (wz (Jz (oJ (iH hu) (Xd vY (hr.mono (by decide)) (by rfl) (zx (WE.mk (pv 0)) (zx (WE.mk (pv 5)) qK qm) qm)) (rT (zx jA (zx (Qh vG jA (yw j7 (by rfl) T.z_str Q7 (zx (Xd jU (hr.mono (by decide)) (by rfl) (zx (WE.mk (pv 6)) (zx (WE.mk (pv 7)) (zx (WE.mk (pv 8)) qK qm) qm) qm)) qK Zf))) qK KY) z6)) (qZ _))))))))
    ZP)
   (je (cN (dh Zy (WE.mk (pv 3)) (WE.mk zH) (qZ _))
    (wz (Jz (Xd eE (hr.mono (by decide)) (by rfl) (zx (WE.mk (pv 0)) (zx (WE.mk (pv 2)) qK qm) qm))))
    ZP)
   (je (wX (i:=4) yK.nd rfl (zN rfl) jA)
   (je (cN (WT.mk (pw_and (jh Zy (pv 3) zH (qZ _)) (pw_and1 (jh Ks (jz TV (by rfl) T.z_len Jv (za (pv 1) zB)) zH (qZ _)))).pt)
    (wz (wX (i:=4) yK.nd rfl (zN rfl) (zbh j8 (pQ (rG rfl) (by rfl) T.z_sorted Hy (zx (WE.mk (pv 1)) qK qm)) (Qh vQ (Xd qW (hr.mono (by decide)) (by rfl) (zx (WE.mk (pv 2)) (zx (WE.mk zH) qK z6) qm)) (pQ TV (by rfl) T.z_len Jv (zx (WE.mk (pv 1)) qK qm))) (fun _ _=>rfl))))
    ZP)
   (wz (Jz (oJ (iH hu) (Xd vY (hr.mono (by decide)) (by rfl) (zx (WE.mk (pv 0)) (zx (Xd iw (hr.mono (by decide)) (by rfl) (zx (WE.mk (pv 2)) (zx (WE.mk (pv 4)) qK qm) qm)) qK Zf) qm)) (rT (zx jA (zx jA qK z6) z6)) (qZ _))))))))) ?_
  refine⟨_,rfl,cell,10,rfl,by decide,fun d10 _ _=>⟨_,_,rfl,rfl,(by decide),?_⟩⟩;generalize d10 % 5=way;refine⟨_,rfl,_,_,rfl,rfl,_,rfl,ifD (fun z=>?_) (fun z=>?_)⟩
  .refine⟨_,rfl,cell,rfl,fun nm H0 s0 g=>⟨_,rfl,cell,rfl,fun pf t b l H1 s1 hF fo=>?_⟩⟩;have s01:=s0.trans s1;have gl:=g.le;obtain⟨kvs,he,kl,kp⟩:=(BK.mono s01).put;obtain⟨hD2,hF2,_,kb⟩:=kp nm pf t b l g hF fo;have he2:(upd H1 e (.dK (putK kvs (xG nm) (V.ref pf)))) e=some (.dK (putK kvs (xG nm) (V.ref pf))):=zL;refine⟨_,rfl,_,rfl,e,_,rfl,zis.k (k:=xG nm) he (by rw[qC];clear hu z gl;omega),?_⟩;have hv:some (V.ref pf)=Xa (putK kvs (xG nm) (V.ref pf)) (xG nm):=by rw[oH,if_pos rfl]
   generalize upd H1 e (.dK (putK kvs (xG nm) (V.ref pf)))=H2 at hD2 hF2 kb he2 ⊢;have dg:∀{H':Hp},zX H2 H'->tG H' e (.str nm) (some (.ref pf)):=fun s'=>.inl ⟨_,xG nm,.inl (s' _ _ he2),rfl,hv⟩;have hb5:=fo.b5';refine⟨rfl,_,rfl,(by show 2<=sizeLine;decide),fun pl hpl=>?_⟩;have s3:zX H2 (upd H2 pl (.lst [V.str "frame",V.str nm])):=zX.new hpl;have h3:(upd H2 pl (.lst [V.str "frame",V.str nm])) pl=some (.lst [V.str "frame",V.str nm]):=zL;generalize upd H2 pl (.lst [V.str "frame",V.str nm])=H3 at s3 h3 ⊢;have hF3:H3 pf=some (.tup ([t,b,l].map V.int)):=s3 _ _ hF2;refine⟨_,rfl,_,rfl,e,_,rfl,dg s3,pf,rfl,⟨_,SqT.of hF3⟩,fun ac hac=>ziE (K:=K) (a:=pf) (xs:=[t,b,l].map V.int) (fun i=>V.str (txt ([t,b,l].getD i 0))) hF3 hac (by show 3<=sizeLine;decide) (fun i v H7 R hx s7 hR=>?_) ?_⟩
   .rw[qF] at hx;obtain⟨y,hy,rfl⟩:=Option.map_eq_some_iff.mp hx;have yb:=hb5 y (qw hy);simp only[zA,hy,xf] at hR;exact⟨rfl,_,rfl,y,rfl,lg yb.1 yb.2,hR⟩
   rw[DR [t,b,l]];have s4:zX H3 (upd H3 ac (.lst (([t,b,l].map txt).map V.str))):=zX.new hac;have h4:(upd H3 ac (.lst (([t,b,l].map txt).map V.str))) ac=some (.lst (([t,b,l].map txt).map V.str)):=zL;generalize upd H3 ac (.lst (([t,b,l].map txt).map V.str))=H4 at s4 h4 ⊢;have sl:=iQ hb5;refine⟨pl,ac,_,_,rfl,rfl,s4 _ _ h3,h4,(by show 2+3<=sizeLine;decide),fun pj hpj=>⟨" ",pj,"frame"::nm::[t,b,l].map txt,rfl,rfl,SqL.of zL,?_,?_⟩⟩
   .rw[bl1,zY,zY,yL,yL,bl5];show 5+(nm.length+(([t,b,l].map txt).map (·.length)).sum)+5*1<=_;have:[t,b,l].length=3:=rfl;clear hn hu z kl;omega
   have s5:=(s3.trans s4).put hpj (o:=.lst ([V.str "frame",V.str nm]++([t,b,l].map txt).map V.str));generalize upd H4 pj (.lst ([V.str "frame",V.str nm]++([t,b,l].map txt).map V.str))=H5 at s5 ⊢;have ok:=fo.ok;have hD5:=hD2.mono s5;obtain⟨dx,hx5⟩:=hD5.self;have c0:=bH t b l;have c1:=ok.c1;have tl:=J4 c0 c1;refine⟨_,rfl,_,rfl,e,_,rfl,dg s5,pf,_,rfl,SqT.of (s5 _ _ hF2),rfl,_,_,rfl,_,_,rfl,_,_,rfl,rfl,?_⟩;refine⟨_,rfl,_,rfl,x,dx,fr1 d,_,_,_,rfl,hx5,JK (by decide +kernel),zfK hD5 (by clear hu gl kl sl c0 c1 tl;omega) g ok,fun v H6 a6=>?_,fun _ _ z=>z.elim⟩;obtain⟨rfl,s6,hD6⟩:=a6;obtain⟨B6,y6⟩:=kb H5 H6 s5 s6 hD6;refine⟨_,rfl,fun pt H7 s7 h7=>⟨_,rfl,_,rfl,_,rfl,t,b,l,rfl,ok.b0,by have:=fo.b5;clear hn hu z gl kl sl c0 c1 tl;omega,ok.l0,zU (nj ok.l0 ok.l1) (by decide),zU (nj ok.t0 ok.t1) (by decide),_,rfl,lg c0 c1,_,_,rfl,rfl,(by rw[bl9,qC];show 9+(txt (cnt t b l)).length<=_;clear hn hu z gl kl sl;omega),(by show 2<=sizeLine;decide),fun pu hpu=>?_⟩⟩;exact⟨pt,pu,_,_,rfl,rfl,(zX.new hpu) _ _ h7,zL,WX,cB RJ (YT c0),q _ _ (B6.mono (s7.put hpu)) fun a o h n1 n2=>(s7.put hpu) _ _ (y6 a o (s01 _ _ h) n1 n2)⟩
  have fin:∀H',zX H H'->Q (.bl true) H':=fun H' s'=>q fr H' (BK.mono s').more (An.of s');refine⟨_,rfl,_,_,rfl,rfl,_,rfl,ifD (fun z2=>⟨_,rfl,_,rfl,x,d,cell,rfl,BK.desk.self,fin⟩) (fun z2=>?_)⟩;refine zcy (fun σ' H'=>σ'=[some (.ref x),some (.ref e),some (.int cell),some (.int way),none,none,none,none,none]/\H'=H) ?_ (fun N hN=>hN _ _ ⟨rfl,rfl⟩);rintro σ' H' ⟨rfl,rfl⟩;refine zcy (fun σ' H2=>σ'=[some (.ref x),some (.ref e),some (.int cell),some (.int way),some (.str "other"),none,none,none,none]/\H2=H') ?_ (fun N hN=>hN _ _ ⟨rfl,rfl⟩);rintro σ' H' ⟨rfl,rfl⟩;obtain⟨kvs,he,kl,k1,k2⟩:=BK.dict;refine zcy (fun σ' H2=>∃nm,σ'=[some (.ref x),some (.ref e),some (.int cell),some (.int way),some (.str nm),none,none,none,none]/\zX H' H2/\vp nm) ?_ (fun N hN=>?_);rotate_left
  .refine⟨_,rfl,_,_,rfl,rfl,_,rfl,ifD (fun z3=>⟨_,rfl,e,kvs,rfl,he,_,_,rfl,rfl,_,rfl,ifD (fun z4=>?_) (fun _=>hN _ _ ⟨_,rfl,zX.refl _,HY⟩)⟩) (fun _=>Vu (hN _ _ ⟨_,rfl,zX.refl _,HY⟩))⟩;refine⟨_,rfl,e,kvs,rfl,he,fun p hp=>(k1 p hp).imp fun s hs=>hs.1,by clear hu z;omega,fun ls ss hls pm=>?_⟩;have sL:ss.length=kvs.length:=by have:=pm.length_eq;rwa[zf,zf] at this
   refine⟨_,rfl,cell,21,rfl,by decide,fun d21 _ _=>⟨_,rfl,e,kvs,rfl,(zX.new hls) _ _ he,_,_,rfl,rfl,by omega,?_⟩⟩;obtain⟨nm,hx,hm⟩:=zam (ws:=ss) (i:=d21 % (kvs.length:Int)) (xM _ (by clear hn hu z kl z3;omega)) (by rw[sL];exact jH _ (by omega));refine⟨_,_,_,_,rfl,rfl,SqL.of zL,hx,hN _ _ ⟨nm,rfl,zX.new hls,?_⟩⟩;obtain⟨p,hp,ep⟩:=List.mem_map.mp (pm.mem_iff.mp (List.mem_map.mpr ⟨nm,hm,rfl⟩));obtain⟨nm',e1,g1,_⟩:=k1 p hp;rw[ep] at e1;cases e1;exact g1
  rintro σ' H2 ⟨nm,rfl,s2,g⟩;refine⟨_,rfl,_,rfl,_,rfl,cell,nm,rfl,g,fun v H3 s3 hv=>?_⟩;have s23:=s2.trans s3;have hD3:=BK.desk.mono s23;obtain⟨dx,hx3⟩:=hD3.self;refine⟨x,dx,fr1 d,v,(fun _ _=>False),(fun C H'=>C=.ref CO/\zX H3 H'),rfl,hx3,JK (by decide +kernel),?_,fun _ _ z=>z.elim,fun C H4 a=>?_⟩
  .rcases hv with ⟨o,rfl,w⟩ | w
   .exact zlZ hD3 (by clear hu kl;omega) w
   .exact zdf w
  obtain⟨rfl,s4⟩:=a;exact⟨_,0,rfl,F0,by decide,fun pt H5 s5 h5=>⟨(by show 2<=sizeLine;decide),fun pu hpu=>⟨pt,pu,_,_,rfl,rfl,(zX.new hpu) _ _ h5,by rw[zL,kd0],Bx,zhH 0,fin _ (((s23.trans s4).trans s5).put hpu)⟩⟩⟩
end
theorem zmp (nm:Str) (m:Int):(("write "++nm)++" ")++txt m=Txt.join " " ("write"::nm::[m].map txt):=by
 have:=zrn (h:="write ") (w0:="write") (nm:=nm) (r:=[txt m]) (by decide +kernel) (by simp);rw[join_one] at this;exact this
theorem zo0 (nm:Str):("write "++nm)++" 0"=Txt.join " " ("write"::nm::[0].map txt):=by
 rw[<- zmp];apply Vh;simp only[Qo];rw[show cpl (" 0":Str)=cpl " "++cpl (txt 0) by decide +kernel,qQ,qQ,qQ]
theorem zla {h w0:Str} (e:cpl h=cpl w0++[32]) (nm:Str) (ms:List Int):(h++nm)++came ms=Txt.join " " (w0::nm::ms.map txt):=zkU (by rw[Qo,e,qQ];rfl) ms
theorem zjb {t b l m:Int}{bs ds ms:List Int} (l0:0<=l) (B:yO bs) (bl:(bs.length:Int)=b) (nb:Ko bs=m) (hm:m<cnt t b l) (dl:(vf l bs).length=ds.length) (db:∀d∈ds,0<=d/\d<=l) (pm:ms.Perm (sums (vf l bs) ds)) (pw:ms.Pairwise (·<=·)):GoodR t b l ms/\Ko (Wo l ms)=m/\ms.length=bs.length:=by
 have al:=GF (Ey l0 B) (zag dl db) pm pw;have e:=zcI l0 al;have ml:=zkQ al;rw[ZV] at ml;exact⟨⟨by clear l0 nb hm dl;omega,by rw[e];exact B,by rw[e,nb];exact hm⟩,by rw[e,nb],ml⟩
theorem zya {t b l:Int} (b0:0<=b) (h:3<=cnt t b l):1<=b/\b<=t:=by
 unfold cnt at h;split at h
 .omega
 .by_cases z:b=0
  .subst z;rw[iD] at h;omega
  .omega
theorem kd1:kdN 1="TooGreat":=by decide +kernel
theorem zwP:(10:Int) ^ 500<=2 ^ 2000:=by decide +kernel
theorem zld:("write ":Str).length=6:=by decide +kernel
theorem zsW:("read ":Str).length=5:=by decide +kernel
theorem zsV:("hear ":Str).length=5:=by decide +kernel
theorem zoc:("note ":Str).length=5:=by decide +kernel
theorem zyg:(" 0":Str).length=2:=by decide +kernel
section
variable {CD CF CO CN CT CR C1 C2 C3:zm}{S:Cs}
def zl8 (CD CF:zm):Sp:=fun vs H Q _=>∃(x d pf:zm) (n:Nat) (fr:Str->Option (Int×Int×Int)) (nm:Str) (cell most t b l:Int),vs=[.ref x,.str nm,.ref pf,.int cell,.int most]/\yo CD CF x d n fr H/\vp nm/\fr nm=some (t,b,l)/\H pf=some (.tup [.int t,.int b,.int l])/\Od t b l/\0<=most/\most<=60/\∀H',zX H H'->Q (.bl true) H'
theorem vq:qU ["desk","name","frame","cell","most","turns","bells","late","count","message","row","signs","many","note","sort","answer","came"] ["desk","name","frame","cell","most"] (zP JV):=⟨rfl,rfl,rfl,by decide +kernel,rfl,by decide +kernel,by decide +kernel⟩
theorem zi2 (D:Def K mg "_law_stands" JV ["desk","name","frame","cell","most"]) (T:Txt K mg) (F1:XF K S CT 1) (qW:Fn P w K mg base 1 "_law_drawn" ["cell","k"] za6) (jU:Fn P w K mg base 2 "box_count" ["turns","bells","late"] Yv) (Dh:Fn P w K mg base 40 "written" ["message","turns","bells","late"] (Ec K)) (cR:Fn P w K mg base 2 "_law_road" ["cell","answer","late"] (zl6 K)) (vY:Fn P w K mg base 47 "_law_told" ["desk","order"] (G7 K S CD (TD K CD CF CO CN CT CR C1 C2 C3))):Fn P w K mg base 48 "_law_stands" ["desk","name","frame","cell","most"] (zl8 CD CF):=by
 refine D.fn vq (fun vs H Q E h=>?_) (fun f cdv A outer s H vs Q E hr h=>?_)
 .obtain⟨x,d,pf,n,fr,nm,cell,most,t,b,l,rfl,_⟩:=h;rfl
 .obtain⟨x,d,pf,n,fr,nm,cell,most,t,b,l,rfl,hD,g,e,hF,F,mo0,mo1,q⟩:=h;have hu:=zq4 hr;have gl:=g.le;have ok:=F.ok;obtain⟨t0,t1,b0,b5,l0,l3⟩:=id F;have lb:zZ l<=2:=vI l0 (by omega);have tb:zZ t<=6:=vI t0 (by clear mo0 mo1 hu gl lb;omega);have c0:=bH t b l;have c1:=ok.c1;have hxs:∀{H':Hp},zX H H'->∃dx,H' x=some (.ins CD dx (fr1 d)):=fun s'=>(hD.mono s').self;refine zbg (je (WS.mk (zaV (pv 2) (Lg (n:=3) rfl (Ze (j9 (i:=5) vq.nd rfl (zN rfl)) (Ze (j9 (i:=6) vq.nd rfl (zN rfl)) (Ze (j9 (i:=7) vq.nd rfl (zN rfl)) iJ))))))
   (je (wX (i:=8) vq.nd rfl (zN rfl) (Xd jU (hr.mono (by decide)) (by rfl) (zx (WE.mk (pv 5)) (zx (WE.mk (pv 6)) (zx (WE.mk (pv 7)) qK qm) qm) qm)))
   (je (cN (dh Zy (WE.mk (pv 8)) (WE.mk zH) (qZ _))
    (wz (Jz (oJ (iH hu) (Xd vY (hr.mono (by decide)) (by rfl) (zx (WE.mk (pv 0)) (zx (Qh vG (Qh vG jA (WE.mk (pv 1))) jA) qK KY) qm)) (rT (zx jA (zx jA qK z6) z6)) (qZ _))))
    ZP)
   (je (wX (i:=9) vq.nd rfl (zN rfl) (Qh vQ (Xd qW (hr.mono (by decide)) (by rfl) (zx (WE.mk (pv 3)) (zx (WE.mk zH) qK z6) qm)) (WE.mk (pv 8))))
   (je (wX (i:=10) vq.nd rfl (zN rfl) (BJ jm xU xV Ye jA (zx (WE.mk (Jy (own:=["turn"]) (fr:=[]) (ix:=[]) rfl ⟨rfl,rfl,rfl,rfl,rfl,rfl⟩ (Vl (vJ Dh (hr.mono (by decide)) (by rfl) (za (pv 9) (za (pv 5) (za (pv 6) (za (pv 7) zB)))))) (fun _ _ _ _ _=>(j9 (i:=0) (show (["turn"]:List Str).Nodup by decide +kernel) rfl (zN rfl))) (fun _ _ _ _ _=>Z0) (fun _ _ _ _ _=>(Xo j7 (by rfl) T.z_str Q7 (za (pv 0) zB))))) qK)))
   (je (cN (dh Zy (WE.mk (pv 6)) (WE.mk zH) (qZ _))
    (wz (wX (i:=10) vq.nd rfl (zN rfl) jA))
    ZP)
   (je (cN (dh (zhq hu) (Xd vY (hr.mono (by decide)) (by rfl) (zx (WE.mk (pv 0)) (zx (Qh vG (Qh vG (Qh vG jA (WE.mk (pv 1))) jA) (yw j7 (by rfl) T.z_str Q7 (zx (WE.mk (pv 9)) qK qm))) qK KY) qm)) (rT (zx jA (zx (WE.mk (pv 10)) qK qm) z6)) (qZ _))
    (wz (Jz (WE.mk Le)))
    ZP)
   (je (cN (dh (zhq hu) (Xd vY (hr.mono (by decide)) (by rfl) (zx (WE.mk (pv 0)) (zx (Qh vG (Qh vG jA (WE.mk (pv 1))) (Xd cR (hr.mono (by decide)) (by rfl) (zx (WE.mk (pv 3)) (zx (WE.mk (pv 10)) (zx (WE.mk (pv 7)) qK qm) qm) qm))) qK KY) qm)) (rT (zx jA (zx (yw j7 (by rfl) T.z_str Q7 (zx (WE.mk (pv 9)) qK qm)) qK Zf) z6)) (qZ _))
    (wz (Jz (WE.mk Le)))
    ZP)
   (je (cN (dh bU (WE.mk (pv 8)) (WE.mk zH) (qZ _))
    (wz (Jz (WE.mk Le)))
    ZP)
   (je (wX (i:=11) vq.nd rfl (cH rfl) jA)
   (je (wX (i:=12) vq.nd rfl (zN rfl) (Qh vQ (Xd qW (hr.mono (by decide)) (by rfl) (zx (WE.mk (pv 3)) (zx (WE.mk zH) qK z6) qm)) (Qh jP (WE.mk (pv 4)) (WE.mk zH))))
   (je (wX (i:=13) vq.nd rfl (zN rfl) (BJ jm xU xV Ye jA (zx (WE.mk (Jy (own:=["k"]) (fr:=["signs","cell"]) (ix:=[11,3]) rfl ⟨rfl,rfl,rfl,rfl,rfl,rfl⟩ (WR (by rfl) T.z_range (za (pv 12) zB)) (fun _ _ _ _ _=>(j9 (i:=0) (show (["k","signs","cell"]:List Str).Nodup by decide +kernel) rfl (zN rfl))) (fun _ _ _ _ _=>Z0) (fun _ _ _ _ _=>(kZ zaF (pv 1) (jc vQ (vJ qW (hr.mono (by decide)) (by rfl) (za (pv 2) (za (jc jP zH (pv 0)) zB))) zH) (fun _ _=>rfl))))) qK)))
   (je (WS.mk (zaV (vJ vY (hr.mono (by decide)) (by rfl) (za (pv 0) (za (jc vG (jc vG (jc vG jG (pv 1)) jG) (pv 13)) zB))) (Lg (n:=2) rfl (Ze (j9 (i:=14) vq.nd rfl (zN rfl)) (Ze (j9 (i:=15) vq.nd rfl (zN rfl)) iJ)))))
   (je (wX (i:=16) vq.nd rfl (zN rfl) (Xd cR (hr.mono (by decide)) (by rfl) (zx (WE.mk (pv 3)) (zx (WE.mk (pv 15)) (zx (WE.mk (pv 7)) qK qm) qm) qm)))
   (je (cN (dh zlI (WE.mk (pv 14)) jA (qZ _))
    (wz (Jz (WE.mk Le)))
    ZP)
   (wz (Jz (WE.mk (zwT (G3 Ks (jz Xl (by rfl) T.z_len Jv (za (pv 16) zB)) zH (qZ _)) (zlM (G3 (iH hu) (vJ vY (hr.mono (by decide)) (by rfl) (za (pv 0) (za (jc vG (jc vG jG (pv 1)) (pv 16)) zB))) (nW (za jG (za (jc vG jG (pv 13)) zB))) (qZ _)))))))))))))))))))))) ?_
  refine⟨_,rfl,pf,_,rfl,SqT.of hF,rfl,_,_,rfl,_,_,rfl,_,_,rfl,rfl,?_⟩;refine⟨_,rfl,_,rfl,_,rfl,t,b,l,rfl,b0,by omega,l0,zU lb (by decide),zU tb (by decide),?_⟩;refine⟨_,rfl,_,_,rfl,rfl,_,rfl,ifD (fun z=>?_) (fun z=>?_)⟩
  .obtain⟨dx,hx⟩:=hxs (zX.refl _);refine⟨_,rfl,_,rfl,_,_,rfl,rfl,(by rw[zld,qC];clear mo0 mo1 hu;omega),_,_,rfl,rfl,(by rw[Vg,zld,zyg,qC];clear mo0 mo1 hu;omega),x,dx,fr1 d,_,_,_,rfl,hx,JK (by decide +kernel),by rw[zo0];exact Lj hD g e (jl 0) (by decide +kernel),fun v H1 a=>by have:=a.1;clear mo0 mo1 hu gl lb tb;omega,fun C H1 a=>?_⟩;obtain⟨_,rfl,s1⟩:=a;exact⟨_,1,rfl,F1,by decide,fun pt H5 s5 h5=>⟨(by show 2<=sizeLine;decide),fun pu hpu=>⟨pt,pu,_,_,rfl,rfl,(zX.new hpu) _ _ h5,by rw[zL,kd1],Bx,zhH 1,q _ ((s1.trans s5).put hpu)⟩⟩⟩
  refine⟨_,rfl,cell,22,rfl,by decide,fun d22 _ _=>⟨_,rfl,_,_,rfl,rfl,by omega,?_⟩⟩;have m0:=xM d22 (show cnt t b l≠0 by omega);have m1:=jH d22 (show 0<cnt t b l by omega);generalize d22 % cnt t b l=m at m0 m1 ⊢;have m5:m<10 ^ 500:=bh m1 c1;have mbits:zZ m<=50000:=zU (vI m0 (xR m5 zwP)) (by decide);have mtl:=J4 m0 m5;refine⟨rfl,_,rfl,_,rfl,_,rfl,_,rfl,m,t,b,l,rfl,m0,m1,b0,by omega,l0,zU lb (by decide),zU tb (by decide),mbits,fun p bs H1 s1 _ h1 B bl nb _=>?_⟩;have eb:(bs.length:Int)=b:=by omega
  have rb:∀y∈vf l bs,0<=y/\y<t:=zar B l0 (by rw[nb,eb];exact m1);have rl:(vf l bs).length=bs.length:=ZV ..;generalize hrs:vf l bs=rs at h1 rb rl;have rb5:∀y∈rs,0<=y/\y<10 ^ 500:=fun y hy=>⟨(rb y hy).1,xR (rb y hy).2 (Z5 (wR t1 (by decide +kernel)))⟩;refine⟨p,rfl,⟨_,SqL.of h1⟩,fun ac hac=>Vt (K:=K) (a:=p) (xs:=rs.map V.int) (fun i=>V.str (txt (rs.getD i 0))) (SqL.of h1) hac (by rw[zf,qC];clear mo0 mo1 hu gl t0 t1 l0 l3 lb tb c0 c1 m0 m1 m5 mbits mtl nb;omega) (fun i v H6 R hx s6 hR=>?_) ?_⟩
  .rw[qF] at hx;obtain⟨y,hy,rfl⟩:=Option.map_eq_some_iff.mp hx;have yb:=rb5 y (qw hy);simp only[zA,hy,xf] at hR;exact⟨rfl,_,rfl,y,rfl,lg yb.1 yb.2,hR⟩
  rw[DR rs];have sl:=iQ rb5;refine⟨" ",ac,rs.map txt,rfl,rfl,SqL.of zL,by rw[bl1,zf];clear mo0 mo1 hu gl t0 t1 l0 l3 lb tb c0 c1 m0 m1 m5 mbits mtl nb;omega,?_⟩;have s2:=s1.put hac (o:=.lst ((rs.map txt).map V.str));generalize upd H1 ac (.lst ((rs.map txt).map V.str))=H2 at s2 ⊢
  try dsimp only[rP]
  change zmf (zmd _ _ _) _ _ _ _;refine Ga (fun σ' H3=>σ'=[some (.ref x),some (.str nm),some (.ref pf),some (.int cell),some (.int most),some (.int t),some (.int b),some (.int l),some (.int (cnt t b l)),some (.int m),some (.str (yu rs)),none,none,none,none,none,none]/\H3=H2) ?_ (fun N hN=>?_);rotate_left
  .refine⟨_,rfl,_,_,rfl,rfl,_,rfl,ifD (fun z=>hN _ _ ⟨?_,rfl⟩) (fun z=>hN _ _ ⟨?_,rfl⟩)⟩
   .have e0:yu rs="none":=by
     unfold yu;rw[if_pos (List.length_eq_zero_iff.mp (by clear mo0 mo1 hu gl t0 t1 l0 l3 lb tb c0 c1 m0 m1 m5 mbits mtl nb sl;omega))]
    rw[e0];rfl
   .have:rs≠[]:=fun y=>by rw[y] at rl;simp at rl;clear mo0 mo1 hu gl t0 t1 l0 l3 lb tb c0 c1 m0 m1 m5 mbits mtl nb sl;omega
    unfold yu;rw[if_neg this];rfl
  rintro σ' H' ⟨rfl,rfl⟩;obtain⟨dx,hx⟩:=hxs s2;have sy:=Lj (K:=K) (CO:=CO) (CN:=CN) (CT:=CT) (CR:=CR) (C1:=C1) (C2:=C2) (C3:=C3) (hD.mono s2) g e m0 m5;rw[<- zmp] at sy;refine⟨_,rfl,_,rfl,_,_,rfl,rfl,(by rw[zld,qC];clear mo0 mo1 hu bl nb eb rl sl;omega),_,_,rfl,rfl,(by rw[Vg,zld,bl1,qC];clear hu bl nb eb rl sl;omega),_,rfl,m,rfl,lg m0 m5,_,_,rfl,rfl,(by rw[Vg,Vg,zld,bl1,qC];show 6+nm.length+1+(txt m).length<=_;omega),x,dx,fr1 d,_,_,_,rfl,hx,JK (by decide +kernel),sy,fun v H3 a=>?_,fun C H3 a=>absurd m1 a.1⟩;obtain⟨_,⟨bs',B',bl',nb',rfl⟩,s3⟩:=a;have ebs:bs'=bs:=zlw B' B (bl'.trans bl.symm) (nb'.trans nb.symm);subst ebs;rw[hrs];refine⟨_,rfl,fun pt H4 s4 h4=>⟨_,rfl,(by show 2<=sizeLine;decide),fun pu hpu=>⟨pt,pu,_,_,rfl,rfl,(zX.new hpu) _ _ h4,zL,WX,zf4 fun y hy=>(rb y hy).1,_,rfl,Vu ?_⟩⟩⟩;have s5:=(s2.trans (s3.trans s4)).put hpu (o:=.tup [V.str "told",V.str (yu rs)]);generalize upd H4 pu (.tup [V.str "told",V.str (yu rs)])=H5 at s5 ⊢;clear s4 h4 s3 hx h1 s1;have e50:(60:Int)<10 ^ 50:=by decide +kernel
  have zyB:∀y∈rs,0<=y/\y<10 ^ 50:=fun y hy=>⟨(rb y hy).1,by have:=(rb y hy).2;clear mo0 mo1 hu gl lb tb mbits mtl sl bl' nb' bl nb eb rl;omega⟩;refine⟨_,rfl,_,rfl,_,_,rfl,rfl,(by rw[zsW,qC];clear mo0 mo1 hu sl bl' nb' bl nb eb rl;omega),_,rfl,_,rfl,_,rfl,cell,l,rs,rfl,by clear mo0 mo1 hu gl t0 t1 l0 l3 lb tb mbits mtl sl nb' nb;omega,zyB,l0,by omega,fun ds ms H6 s6 dl db pm pw mb=>?_⟩;rw[<- hrs] at dl pm;obtain⟨gr,nb2,ml⟩:=zjb l0 B eb nb m1 dl db pm pw;have cl:=zcr mb;have s06:=s5.trans s6;obtain⟨dx,hx⟩:=hxs s06;have sy:=zjf (K:=K) (CO:=CO) (CN:=CN) (CT:=CT) (CR:=CR) (C1:=C1) (C2:=C2) (C3:=C3) (hD.mono s06) g e (by clear mo0 mo1 hu gl t0 t1 l0 l3 lb tb mbits mtl sl nb' nb rl dl nb2 cl;omega) mb pw gr;rw[<- zla (h:="read ") (by decide +kernel)] at sy;refine⟨_,_,rfl,rfl,(by rw[Vg,zsW,qC];clear mo0 mo1 hu t0 t1 l0 l3 lb tb mbits mtl sl nb' nb rl dl nb2;omega),x,dx,fr1 d,_,_,_,rfl,hx,JK (by decide +kernel),sy,fun v H7 a=>?_,fun _ _ z=>z.elim⟩;obtain⟨rfl,s7⟩:=a;rw[nb2];refine⟨_,rfl,fun pt H8 s8 h8=>⟨_,rfl,m,rfl,lg m0 m5,(by show 2<=sizeLine;decide),fun pu hpu=>⟨pt,pu,_,_,rfl,rfl,(zX.new hpu) _ _ h8,zL,WX,YT m0,_,rfl,Vu ?_⟩⟩⟩;have s9:=((s06.trans s7).trans s8).put hpu (o:=.tup [V.str "told",V.str (txt m)]);change _ at s9;generalize hH9:upd H8 pu _=H9;have s9:zX H H9:=by rw[<- hH9];exact s9
  clear hH9 s8 h8 s7 hx s6 s06 s5 s2 mb pw pm cl;refine⟨_,rfl,_,_,rfl,rfl,_,rfl,ifD (fun _=>q H9 s9) (fun c3=>?_)⟩;have c3:3<=cnt t b l:=by omega
  obtain⟨b1,bt⟩:=zya b0 c3;refine⟨_,rfl,cell,23,rfl,by decide,fun d23 _ _=>⟨_,rfl,_,_,rfl,rfl,_,_,rfl,rfl,by omega,?_⟩⟩;have y0:=xM d23 (show most+1≠0 by omega);have y1:=jH d23 (show 0<most+1 by omega);generalize d23 % (most+1)=XM at y0 y1 ⊢;refine⟨rfl,_,rfl,XM,rfl,by omega,by clear hu gl lb tb mbits mtl sl bl' nb' bl nb eb rl dl nb2 ml;omega,fun acc Qn=>nD (lo:=0) (n:=XM.toNat) (fun _ v=>∃c,c∈sg/\v=.str (uA c)) Qn (kj (yV (by clear hu gl t0 t1 b0 b5 l0 l3 lb tb mbits mtl sl bl' nb' bl nb eb rl dl nb2 ml b1 bt;omega))) ?_ ?_⟩
  .intro i HA R hi sA hR;have hi':i<61:=by clear hu gl t0 t1 b0 b5 l0 l3 lb tb mbits mtl sl bl' nb' bl nb eb rl dl nb2 ml b1 bt;omega
   exact⟨rfl,_,rfl,_,rfl,_,rfl,_,_,rfl,rfl,cell,_,rfl,vI (m:=10) (by omega) (by omega) |> fun h=>zU h (by decide),fun d d0 d1=>⟨_,_,rfl,rfl,(by decide),SG,_,sg.getD (d % 27).toNat 0,rfl,rfl,Hv,zq6 zfb (by decide) d,hR _ _ (zX.refl _) ⟨_,zrc (fun k=>(zl1 k).2) d,rfl⟩⟩⟩
  intro ys HA sA hY yl yp;obtain⟨ls,ll,hl,rfl⟩:=zqP (p:=(·∈sg)) ys yp;refine⟨"",acc,ls.map uA,rfl,rfl,SqL.of hY,Dm (by clear hu gl t0 t1 b0 b5 l0 l3 lb tb mbits mtl sl bl' nb' bl nb eb rl dl nb2 ml b1 bt;omega),?_⟩;rw[join_ones];have gn:lK (tx ls):=⟨by simpa [tx] using hl,by simp[tx];clear hu gl t0 t1 b0 b5 l0 l3 lb tb mbits mtl sl bl' nb' bl nb eb rl dl nb2 ml b1 bt;omega⟩;have nl:(tx ls).length<=60:=by rw[<- wj];exact gn.2
  have sA:=s9.trans sA;clear hY yp Qn;generalize hnt:tx ls=nt at gn nl;have ck:YD nt:=by rw[<- hnt];exact zoP hl
  obtain⟨dx,hx⟩:=hxs sA;refine⟨_,rfl,_,rfl,_,_,rfl,rfl,(by rw[zoc,qC];clear mo0 mo1 hu sl bl' nb' bl nb eb rl dl nb2 ml yl ll nl;omega),_,_,rfl,rfl,(by rw[Vg,zoc,bl1,qC];clear hu sl bl' nb' bl nb eb rl dl nb2 ml yl ll nl;omega),_,rfl,_,_,rfl,rfl,(by rw[Vg,Vg,zoc,bl1,qC];omega),x,dx,fr1 d,_,_,_,rfl,hx,JK (by decide +kernel),zje (zre nm nt) (hD.mono sA) g e F b1 bt c3 gn,fun v HB a=>?_,fun _ _ z=>z.elim⟩;obtain⟨⟨ys,bss,ST,rfl⟩,sB⟩:=a;obtain⟨yl,_,_,rl2,_,rb2⟩:=pO ST gn b1 bt l0 c3;have r8:=Xh (show ys.length+1<=301 by omega) (show b.toNat<=5 by clear mo0 mo1 hu gl t0 t1 l0 l3 lb tb mbits mtl sl nb' nb rl dl nb2 nl rl2;omega);have r1:=Xh (show 1<=ys.length+1 by omega) (show 1<=b.toNat by clear mo0 mo1 hu gl t0 t1 l0 l3 lb tb mbits mtl sl nb' nb rl dl nb2 nl rl2 r8;omega);have hsh:∀(ds ms:List Int),(yt (t+l) l 0 bss).length=ds.length->(∀d∈ds,0<=d/\d<=l)->ms.Perm (sums (yt (t+l) l 0 bss) ds)->ms.Pairwise (·<=·)->Hs ms t b l (ys.map (·+1)++[0])/\ms.length=(yt (t+l) l 0 bss).length:=fun ds ms dl db pm pw=>⟨zfO ST gn b1 bt l0 c3 dl db pm pw,by rw[pm.length_eq,Fp _ _ dl]⟩;generalize yt (t+l) l 0 bss=r2 at rl2 rb2 hsh ⊢;have et:Txt.join " " (r2.map txt)=yu r2:=by
   unfold yu;rw[if_neg fun z=>by rw[z] at rl2;simp at rl2;omega]
  rw[et];refine⟨_,rfl,fun pt HC sC hC=>⟨pt,_,rfl,SqT.of hC,rfl,_,_,rfl,_,_,rfl,rfl,?_⟩⟩;refine⟨_,rfl,_,rfl,_,rfl,cell,l,r2,rfl,by omega,fun y hy=>⟨(rb2 y hy).1,by have:=(rb2 y hy).2;clear mo0 mo1 hu gl b0 b5 lb tb mbits mtl sl bl' nb' bl nb eb rl dl nb2 ml y0 y1 ll nl yl r8 r1 rl2;omega⟩,l0,by omega,fun ds ms HD sD dl db pm pw mb=>?_⟩;obtain⟨hd,ml2⟩:=hsh ds ms dl db pm pw;have cl:=zcr mb;have sD:=(sA.trans (sB.trans sC)).trans sD;refine⟨_,rfl,rfl,_,rfl,zs3 rfl ?_⟩;obtain⟨dx,hx⟩:=hxs sD;refine⟨_,rfl,_,rfl,(by rw[qC];clear mo0 mo1 hu gl t0 t1 b0 b5 l0 l3 lb tb mbits mtl sl bl' nb' bl nb eb rl nb2 ml b1 bt y0 y1 ll nl yl;omega),_,_,rfl,rfl,_,rfl,ifD (fun _=>q HD sD) (fun _=>?_)⟩;have sy:=zjd (K:=K) (CO:=CO) (CN:=CN) (CT:=CT) (CR:=CR) (C1:=C1) (C2:=C2) (C3:=C3) (hD.mono sD) g e F b1 bt c3 gn ST (by omega) mb pw hd;rw[<- zla (h:="hear ") (by decide +kernel)] at sy;refine⟨_,rfl,_,rfl,_,_,rfl,rfl,(by rw[zsV,qC];omega),_,rfl,_,_,rfl,rfl,(by rw[Vg,zsV,qC];omega),x,dx,fr1 d,_,_,_,rfl,hx,JK (by decide +kernel),sy,fun v HE a=>?_,fun _ _ z=>z.elim⟩;obtain⟨rfl,sE⟩:=a;exact⟨_,rfl,fun pt HF sF hF=>⟨_,rfl,_,_,rfl,rfl,(by rw[zoc,qC];omega),(by show 2<=sizeLine;decide),fun pu hpu=>⟨pt,pu,_,_,rfl,rfl,(zX.new hpu) _ _ hF,zL,WX,cB zjr ck,q _ (((sD.trans sE).trans sF).put hpu)⟩⟩⟩
end
theorem zls {H H0:Hp}{x dx:zm}{o1 o2:HO} (hx:H x=none) (hdx:H dx=none) (sx:Ke x (upd (upd H dx o1) x o2) H0):zX H H0:=fun c o hc=>by
 have n1:c≠x:=fun e=>by rw[e,hx] at hc;cases hc
 have n2:c≠dx:=fun e=>by rw[e,hdx] at hc;cases hc
 exact sx c o (by rw[jM n1,jM n2];exact hc) n1
theorem zlm {CD CF x d e a:zm}{n:Nat} {H H':Hp}{xs:List V}{fr:Str->Option (Int×Int×Int)} (B:lZ CD CF x d e n fr H) (s:An d e H H') (h:H a=some (.lst xs)):H' a=some (.lst xs):=by
 obtain⟨kd,hd,_⟩:=B.desk.dict;obtain⟨ke,he,_⟩:=B.dict;exact s a _ h (fun y=>by rw[y,hd] at h;cases h) (fun y=>by rw[y,he] at h;cases h)
theorem An.seq {CD CF x d e a:zm}{n:Nat}{K:zg} {H H':Hp}{xs:List V}{fr:Str->Option (Int×Int×Int)} (B:lZ CD CF x d e n fr H) (s:An d e H H') (h:SqL K H a xs):SqL K H' a xs:=by
 obtain⟨kd,hd,_⟩:=B.desk.dict;obtain⟨ke,he,_⟩:=B.dict;rcases h with h | h
 .rcases h with h | ⟨o,h⟩
  .exact .inl (.inl (s a _ h (fun y=>by rw[y,hd] at h;cases h) (fun y=>by rw[y,he] at h;cases h)))
  .exact .inl (.inr ⟨o,s a _ h (fun y=>by rw[y,hd] at h;cases h) (fun y=>by rw[y,he] at h;cases h)⟩)
 .exact .inr h
theorem zqQ (ns:List Int):(ziG ns none (some 40)).length<=40:=by
 have e:HT.sIx ns.length ns.length (some 40)=min 40 ns.length:=HT.sIx_nat ..;rw[zcx,e];clear e;omega
theorem zx9 (c:Bool):∃mo:Int,atI [V.int 6,V.int 60] (if c then 1 else 0)=some (V.int mo)/\0<=mo/\mo<=60:=by
 cases c
 .exact⟨6,rfl,by decide,by decide⟩
 .exact⟨60,rfl,by decide,by decide⟩
section
theorem n8:qU ["script","desk","frames","cell","names","last","k","most"] ["script"] (zP Ed):=⟨rfl,rfl,rfl,by decide +kernel,rfl,by decide +kernel,by decide +kernel⟩
theorem zrg (hP:P.given.tree=none){f:zm}{fd:jQ} (F:Fun K "law" "law" Ed f fd) (T:Txt K mg) (Hl:Def K mg "choose" fV ["n","k"]) (Ho:Def K mg "top_of" fW ["k","number"]) (tR:Def K mg "top_from" YQ ["start","k","number"]) (mQ:Def K mg "above_top" KJ ["k","number"]) (gY:Def K mg "rounded_up" X8 ["number","divisor"]) (Hk:Def K mg "box_of" fU ["row","late"]) (tH:Def K mg "bell_row" YH ["box","late"]) (mU:Def K mg "heard_box" KQ ["reading","late"]) (mR:Def K mg "box_count" KN ["turns","bells","late"]) (Y8:Def K mg "greatest_part" QB ["turns","bells","late"]) (Wv:Def K mg "shortest_frame" Z2 ["bells","late","many"]) (gO:Def K mg "best_bells" XX ["turns","late","most"]) (tM:Def K mg "cheapest" YK ["many","late","turn_cost","bell_cost","most"]) (gP:Def K mg "box_number" X3 ["box"]) (Wu:Def K mg "box_of_message" Z1 ["message","bells"]) (Df:Def K mg "written" cA ["message","turns","bells","late"]) (zeZ:Def K mg "read" Bs ["reading","turns","bells","late"]) (rF:Def K mg "keyed_count" cj ["turns","bells","late"]) (U7:Def K mg "keyed" Lz ["message","turns","bells","late"]) (De:Def K mg "unkeyed" uF ["reading","turns","bells","late"]) (Vf:Def K mg "refuse_silent" Zt ["turns","bells"]) (ze0:Def K mg "rung" Bt ["messages","turns","bells","late"]) (dR:Def K mg "by_messages" JW ["reading","turns","late"]) (dW:Def K mg "note_number" JZ ["note"]) (Dd:Def K mg "note_of" cz ["number"]) (U8:Def K mg "parts" oE ["number","base"]) (Ka:Def K mg "number_of_parts" ZD ["figures","base"]) (ze1:Def K mg "sent" Bu ["note","turns","bells","late"]) (tQ:Def K mg "received" YM ["reading","turns","bells","late"]) (Qu:Def K mg "messages_ahead_of_end" wJ ["reading","turns","bells","late"]) (gR:Def K mg "is_made_of" X5 ["word","signs","most"]) (Dc:Def K mg "name_in" cu ["word"]) (gQ:Def K mg "figures_in" X4 ["word","most"]) (mV:Def K mg "number_in" KR ["word"]) (gU:Def K mg "message_in" X6 ["word"]) (tK:Def K mg "bells_in" YJ ["word"]) (tU:Def K mg "turns_in" YS ["words"]) (dX:Def K mg "number_told" J1 ["number"]) (gZ:Def K mg "turns_told" Va ["turns"]) (tO:Def K mg "count_of" YL ["frame"]) (gW:Def K mg "note_heard" X7 ["reading","frame"]) (dU:Def K mg "choice_told" JX ["words"]) (Y7:Def K mg "cheapest_told" Qz ["words"]) (bB:Def K mg "_law_cell_at" Q9 ["script","k"]) (gH:Def K mg "_law_drawn" XN ["cell","k"]) (mK:Def K mg "_law_name" KC ["cell"]) (gJ:Def K mg "_law_frame" XQ ["cell"]) (mJ:Def K mg "_law_kind" Kz ["e"]) (mO:Def K mg "_law_told" KH ["desk","order"]) (gM:Def K mg "_law_wrong" XS ["cell","name"]) (dN:Def K mg "_law_search" JT ["desk","cell"]) (gK:Def K mg "_law_order" XR ["desk","frames","cell"]) (mL:Def K mg "_law_road" KD ["cell","answer","late"]) (dO:Def K mg "_law_stands" JV ["desk","name","frame","cell","most"]){vX:zm} (JN:mg "BellError"=some (.ref vX)){wV:zm} (Yd:mg "NoRow"=some (.ref wV)){qM:zm} (vR:mg "NoReading"=some (.ref qM)){ji:zm} (wy:mg "TooGreat"=some (.ref ji)){ZQ:zm} (WM:mg "TooMany"=some (.ref ZQ)){xO:zm} (Zx:mg "NoNote"=some (.ref xO)){zT:zm} (vg:mg "NoOrder"=some (.ref zT)){xY:zm} (XJ:mg "NoName"=some (.ref xY)){xZ:zm} (iG:mg "Frame"=some (.ref xZ)){j5:zm} (Ik:mg "Desk"=some (.ref j5)){V5:NT} (WL:mg "LETTERS"=some (.str "abcdefghijklmnopqrstuvwxyz" V5.1)){J3:Tok} (Zw:mg "MOST_LETTERS"=some (.int 8 J3)){V4:NT} (WK:mg "FIGURES"=some (.str "0123456789" V4.1)){J2:Tok} (Zv:mg "MOST_FIGURES"=some (.int 60 J2)){wu:Tok} (vd:mg "MOST_FIGURES_OF_MESSAGE"=some (.int 3000 wu)){KZ:Tok} (QJ:mg "MOST_BELLS"=some (.int 60 KZ)){Yw:NT} (Xm:mg "SIGNS"=some (.str "abcdefghijklmnopqrstuvwxyz " Yw.1)){QW:Tok} (yJ:mg "MOST_SIGNS"=some (.int 60 QW)){Qg:Tok} (wY:mg "LEAST_COUNT"=some (.int 3 Qg)) (Xe:qD K vX bmV "ValueError.__new__"=true) (iV:qD K wV bmV "ValueError.__new__"=true) (wF:qD K qM bmV "ValueError.__new__"=true) (yD:qD K ji bmV "ValueError.__new__"=true) (vV:qD K zT bmV "ValueError.__new__"=true) (cC:qD K xY bmV "ValueError.__new__"=true) (Jb:qD K xO bmV "ValueError.__new__"=true) (fM:XF K ⟨zT,ji,xY,xO,qM,wV,ZQ,vX⟩ zT 0) (bZ:XF K ⟨zT,ji,xY,xO,qM,wV,ZQ,vX⟩ ji 1) (O:Own K xZ j5):Kc P w K mg base CX0 50 f fd ["script"] (zhC K):=by
 have hT:DkT K j5 xZ:=⟨O.c_Desk,O.c_Frame,O.n_Frame_turns,O.n_Frame_bells,O.n_Frame_late,O.n_Desk_frames⟩;have Qw:Fn P w K mg base 1 "choose" ["n","k"] fP:=ziX Hl T;have Y9:Fn P w K mg base 1 "greatest_part" ["turns","bells","late"] za7:=DG Y8;have jU:Fn P w K mg base 2 "box_count" ["turns","bells","late"] Yv:=zaM mR T Y9 Qw;have Ti:=Rc (w:=w) (base:=base) gY hP;have VR:=zaL mQ T Ti;have Wz:=zc4 tR Qw Ti hP;have Kd:=uy Wu T wy yD VR Wz Qw;have bD:=zc6 Df T wy yD jU Kd (zcY tH T);have ig:=P0 mU T vR wF (ziW (P:=P) (w:=w) (base:=base) Hk T);have ir:=zlD zeZ T vR wF jU ig (PQ gP T Qw);have Xk:Fn P w K mg base 1 "is_made_of" ["word","signs","most"] za8:=zor gR T;have Za:=zfD Dc T vg vV WL Zw Xk;have Jj:=PX gQ T vg vV WK Xk;have j6:=zaN mV T Zv Jj;have Zk:=zcZ tK T vg vV QJ j6;have mZ:=zc5 tU T vg vV j6;have QG:Fn P w K mg base 1 "turns_told" ["turns"] (YG K):=Rf gZ T;have Wy:=zc1 tO hT jU;have Qv:=Gi (P:=P) (w:=w) (base:=base) dW T Xm yJ Zx Jb;have tV:=zc2 Dd T Xm yJ Zx Jb Qv;have ze6:Fn P w K mg base 41 "rung" ["messages","turns","bells","late"] (zfV K):=zow ze0 T (DK Vf T) (Mf bD);have U9:FnE P w K mg base 42 "sent" ["note","turns","bells","late"] (G8 xO wV ji):=zlE ze1 T wy yD wY Qv (zfE Vf T Yd iV) jU (zlC U8 T) ze6;have mY:FnE P w K mg base 5 "received" ["reading","turns","bells","late"] (za9 K qM):=zaO tQ T (zos Qu T (IW dR T) ir) jU (uz Ka T) tV;have dZ:=FnE.mono (Rb gW T hT vR wF wY Wy mY) (show 6<=44 by decide);have zqA:FnE P w K mg base 4 "unkeyed" ["reading","turns","bells","late"] (fun _ _ _ _=>False):=zcC De;have zqz:FnE P w K mg base 41 "keyed" ["message","turns","bells","late"] (fun _ _ _ _=>False):=zcC U7;have Hq:=zi3 Ho VR Wz;have wg:=Bg Wv T Hq;have Xj:=PP gO T jU;have Wx:=zc0 tM T wg;have yG:=Ra gU T vd Jj;have Zm:Fn P w K mg base 1 "number_told" ["number"] pP:=Ld dX T;have Ww:=Dz Y7 j6 yG Zk Wx;have bC:=La dU T vg vV j6 yG Zk Zm wg Xj Ww;obtain⟨f1,⟨fd1,F1',b1⟩,l1⟩:=O.d_Frame_init;obtain⟨f2,⟨fd2,F2',b2⟩,l2⟩:=O.d_Desk_init;obtain⟨f3,⟨fd3,F3',b3⟩,l3⟩:=O.d_Desk_told;obtain⟨f4,⟨fd4,F4',b4⟩,l4⟩:=O.d_Desk_keep;obtain⟨f5,⟨fd5,F5',b5⟩,l5⟩:=O.d_Desk_ring;obtain⟨f6,⟨fd6,F6',b6⟩,l6⟩:=O.d_Desk_listen;obtain⟨f7,⟨fd7,F7',b7⟩,l7⟩:=O.d_Desk_send_note;obtain⟨f8,⟨fd8,F8',b8⟩,l8⟩:=O.d_Desk_kept;have Hu:MkX CX0 P w K mg base 1 xZ ["self","turns","bells","late"] (Ls xZ):=⟨f1,fd1,ziZ F1' hT,l1,b1⟩;have znW:MkX CX0 P w K mg base 1 j5 ["self"] (zdo j5 xZ):=⟨f2,fd2,ziY F2' hT,l2,b2⟩;have aO:MtE P w K mg base 1 j5 "kept" ["self","name"] (Lw j5 xZ xY):=⟨f8,fd8,zop F8' hT XJ cC,hT.cd,l8,b8⟩;have zac:MtE P w K mg base 45 j5 "keep" ["self","words"] (zfT j5 xZ zT):=⟨f4,fd4,(zoo F4' hT iG Za j6 Zk Hu Wy).mono (by decide),hT.cd,l4,b4⟩;have zad:MtE P w K mg base 45 j5 "ring" ["self","words"] (zfU j5 xZ zT xY ji):=⟨f5,fd5,zou F5' hT Za yG aO bD zqz QG,hT.cd,l5,b5⟩;have Dj:MtE P w K mg base 45 j5 "listen" ["self","words"] (Lx j5 xZ zT qM (zrC K xZ qM)):=⟨f6,fd6,zi0 F6' hT Za mZ aO ir zqA Zm dZ,hT.cd,l6,b6⟩;have iB:MtE P w K mg base 45 j5 "send_note" ["self","words"] (zbc K j5 xZ zT xY (G8 xO wV ji)):=⟨f7,fd7,zc3 F7' hT Za aO (FnE.mono U9 (show 42<=44 by decide)) QG,hT.cd,l7,b7⟩;have zae:MtE P w K mg base 46 j5 "told" ["self","order"] (TD K j5 xZ zT xY ji qM xO wV ji):=⟨f3,fd3,zox F3' T hT vg vV zac zad Dj iB bC,hT.cd,l3,b3⟩
 let S:Cs:=⟨zT,ji,xY,xO,qM,wV,ZQ,vX⟩
 have X0:XF K S zT 0:=fM;have X1:XF K S ji 1:=bZ;have m7:Fn P w K mg base 1 "_law_cell_at" ["script","k"] (zl3 K):=zfC bB T;have qW:Fn P w K mg base 1 "_law_drawn" ["cell","k"] za6:=zwJ gH;have iu:=zlz gJ T qW;have m9:=zot mK T qW;have iw:=zlF gM T qW;have cR:=zov mL T qW;have m8:Fn P w K mg base 1 "_law_kind" ["e"] (zrB K S):=zoq mJ T XJ wy vR Zx Yd vg WM;have vY:=zlA mO T (S:=S) rfl JN Xe zae m8;have eE:=zi1 dN T qW wg Xj Wx vY;have zaa:=zlB gK T X0 qW jU m9 iu iw eE vY;have Oe:=zi2 dO T X1 qW jU (Mf bD) cR vY;refine F.ok n8 (fun vs H Q E h=>?_) (fun cdv A outer s H vs Q E hr h=>?_)
 .obtain⟨a,ns,rfl,_⟩:=h;rfl
 .obtain⟨a,ns,rfl,hS,hlen,q⟩:=h;refine zbg (je (wX (i:=1) n8.nd rfl (zN rfl) (WE.mk (zrq znW (hr.mono (by decide)) (by rfl) Ik)))
   (je (WS.mk (jb (i:=2) n8.nd rfl (zN rfl) Lf))
   (je (zp3 kW rfl (Vl (zda zhz (pv 0) zht (zhu zH))) (j9 (i:=3) n8.nd rfl (zN rfl))
    (wz (cN (WT.mk (nZ (Jq (vJ zaa (hr.mono (by decide)) (by rfl) (za (pv 1) (za (pv 2) (za (pv 3) zB)))))))
     (wz (Jz (WE.mk Le)))
     ZP)))
   (je (wX (i:=4) n8.nd rfl (zN rfl) (pQ (rG rfl) (by rfl) T.z_sorted Hy (zx (WE.mk (pv 2)) qK qm)))
   (je (wX (i:=5) n8.nd rfl (zN rfl) (Xd m7 (hr.mono (by decide)) (by rfl) (zx (WE.mk (pv 0)) (zx (WE.mk zH) qK z6) qm)))
   (je (zp3 kW rfl (WR (by rfl) T.z_range (za (jz vK (by rfl) T.z_len Jv (za (pv 4) zB)) zB)) (j9 (i:=6) n8.nd rfl (zN rfl))
    (je (wX (i:=7) n8.nd rfl (zN rfl) (zbh j8 (di (zx (WE.mk zH) (zx (WE.mk zH) qK z6) z6)) (yw TJ (by rfl) T.z_int zcl (zx (oJ Zy (WE.mk (pv 6)) (Qh vQ (WE.mk (pv 5)) (pQ vK (by rfl) T.z_len Jv (zx (WE.mk (pv 4)) qK qm))) (qZ _)) qK)) (fun _ _=>rfl)))
    (wz (cN (WT.mk (nZ (Jq (vJ Oe (hr.mono (by decide)) (by rfl) (za (pv 1) (za (kZ j8 (pv 4) (pv 6) (fun _ _=>rfl)) (za (G4 (Bb hr) (pv 2) (kZ j8 (pv 4) (pv 6) (fun _ _=>rfl)) (fun _ _=>rfl)) (za (jc jP (vJ m7 (hr.mono (by decide)) (by rfl) (za (pv 0) (za (jc jP zH (jc vQ (pv 6) zH)) zB))) (pv 6)) (za (pv 7) zB)))))))))
     (wz (Jz (WE.mk Le)))
     ZP))))
   (wz (Jz (WE.mk Le))))))))) ?_
  refine fun x1 y1 hx1 hy1 ne1=>⟨x1,y1,rfl,zL,fun d1 H2 sx1 hd1 hD1=>⟨rfl,fun e1 he1=>?_⟩⟩;have s2:=zls hx1 hy1 sx1;obtain⟨kd1,hkd1,_⟩:=hD1.dict;have c1:d1≠e1:=fun z=>by rw[z,he1] at hkd1;cases hkd1
  have s23:zX H2 (upd H2 e1 (.dK [])):=zX.new he1;have hE3:(upd H2 e1 (.dK [])) e1=some (.dK []):=zL;generalize upd H2 e1 (.dK [])=H3 at s23 hE3 ⊢;have BK3:lZ j5 xZ x1 d1 e1 0 (fun _=>none) H3:=⟨hD1.mono s23,c1,⟨[],hE3,zE _,(fun _ z=>nomatch z),fun _ _ _ _ z=>nomatch z⟩,fun _ _ _ _ z=>nomatch z⟩;have s3:=s2.trans s23;refine⟨_,rfl,_,rfl,_,_,rfl,s3.seq hS,fun ps hps=>?_⟩;rw[zn3];have cl:=zqQ ns;generalize ziG ns none (some 40)=cs at cl;have sE:zX H3 (upd H3 ps (.lst (cs.map V.int))):=zX.new hps;have hE:(upd H3 ps (.lst (cs.map V.int))) ps=some (.lst (cs.map V.int)):=zL;generalize upd H3 ps (.lst (cs.map V.int))=H4 at sE hE ⊢;refine⟨ps,rfl,⟨_,SqL.of hE⟩,Az (K:=K) (a:=ps) (xs:=cs.map V.int) (fun i σ Hn=>∃(n:Nat) (fr:Str->Option (Int×Int×Int)) (v3:Option V),σ=[some (.ref a),some (.ref x1),some (.ref e1),v3,none,none,none,none]/\n<=i/\lZ j5 xZ x1 d1 e1 n fr Hn/\SqL K Hn a (ns.map V.int)/\Hn ps=some (.lst (cs.map V.int))) ⟨0,_,none,rfl,zE _,BK3.mono sE,(s3.trans sE).seq hS,hE⟩ (fun i σ Hn _ ⟨_,_,_,_,_,_,_,h⟩=>SqL.of h) ?_ ?_⟩
  .rintro i y σ Hn hy ⟨n,fr,v3,rfl,ni,BK,hSn,hPs⟩;have il:=(List.getElem?_eq_some_iff.mp hy).1;rw[zf] at il;rw[qF] at hy;obtain⟨c,hc,rfl⟩:=Option.map_eq_some_iff.mp hy;exact⟨_,rfl,_,rfl,_,rfl,x1,d1,e1,n,fr,c,rfl,BK,by omega,fun fr' H' b' s'=>⟨_,rfl,Vu ⟨n+1,fr',_,rfl,by omega,b',An.seq BK s' hSn,zlm BK s' hPs⟩⟩⟩
  rintro σ Hn ⟨n,fr,v3,rfl,ni,BK,hSn,hPs⟩;rw[zf] at ni;obtain⟨kvs,he,kl,k1,k2⟩:=BK.dict;refine⟨_,rfl,e1,kvs,rfl,he,fun p hp=>(k1 p hp).imp fun s hs=>hs.1,by omega,fun ls ss hls pm=>?_⟩;have sL:ss.length=kvs.length:=by have:=pm.length_eq;rwa[zf,zf] at this
  have s5:zX Hn (upd Hn ls (.lst (ss.map V.str))):=zX.new hls;have h5:(upd Hn ls (.lst (ss.map V.str))) ls=some (.lst (ss.map V.str)):=zL;generalize upd Hn ls (.lst (ss.map V.str))=H5 at s5 h5 ⊢;refine⟨_,rfl,a,ns,40,rfl,s5.seq hSn,by decide,?_⟩;generalize cellOf ns 40=last;refine⟨_,rfl,_,_,rfl,.inl (SqL.of h5),_,rfl,by omega,by rw[zf];omega,fK (n:=((ss.map V.str).length:Int).toNat) (fun i σ Hm=>∃v6 v7,σ=[some (.ref a),some (.ref x1),some (.ref e1),v3,some (.ref ls),some (.int last),v6,v7]/\zX H5 Hm) ⟨none,none,rfl,zX.refl _⟩ ?_ ?_⟩
  .rintro i σ Hm hi ⟨v6,v7,rfl,sm⟩;rw[show (0:Int)+(i:Int)=(i:Int) by clear hlen cl ni kl sL hi;omega];have il:i<ss.length:=by rw[zf] at hi;clear hlen cl ni kl sL;omega
   refine⟨(by show 2<=sizeLine;decide),fun p6 hp6=>?_⟩;have s6:=sm.put hp6 (o:=.lst [V.int 6,V.int 60]);have h6:(upd Hm p6 (.lst [V.int 6,V.int 60])) p6=some (.lst [V.int 6,V.int 60]):=zL;generalize upd Hm p6 (.lst [V.int 6,V.int 60])=H6 at s6 h6 ⊢;have h56:=s6 _ _ h5;refine⟨_,rfl,_,rfl,_,rfl,_,_,rfl,.inl (SqL.of h56),_,_,rfl,rfl,by rw[zf];clear hlen cl ni hi;omega,_,_,rfl,rfl,.inr ⟨_,rfl,?_⟩⟩;obtain⟨mo,em,m0,m1⟩:=zx9 (decide ((i:Int)=last % ((ss.map V.str).length:Int)));obtain⟨nm,hx,hm⟩:=zam (ws:=ss) (i:=(i:Int)) (by omega) (by omega);obtain⟨p,hp,ep⟩:=List.mem_map.mp (pm.mem_iff.mp (List.mem_map.mpr ⟨nm,hm,rfl⟩));obtain⟨nm',e1',g,t,b,l,ef⟩:=k1 p hp;rw[ep] at e1';cases e1';obtain⟨pf,hv,hF⟩:=k2 nm t b l ef;have s06:=s5.trans s6;have dg:tG H6 e1 (.str nm) (some (.ref pf)):=.inl ⟨kvs,xG nm,.inl (s06 _ _ he),rfl,hv.symm⟩;refine⟨_,_,_,_,rfl,rfl,SqL.of h6,em,?_⟩;exact⟨_,rfl,_,rfl,_,rfl,_,_,_,_,rfl,rfl,SqL.of h56,hx,_,rfl,_,rfl,_,rfl,_,_,_,_,rfl,rfl,SqL.of h56,hx,e1,_,rfl,dg,_,rfl,_,rfl,_,_,rfl,rfl,(by decide),_,_,rfl,rfl,a,ns,_,rfl,s06.seq hSn,by clear hlen cl ni kl sL hi il m0 m1;omega,_,rfl,_,_,rfl,rfl,_,rfl,x1,d1,pf,n,fr,nm,_,mo,t,b,l,rfl,BK.desk.mono s06,g,ef,s06 _ _ hF,BK.ok nm t b l ef,m0,m1,fun H' s'=>⟨_,rfl,Vu ⟨_,_,rfl,s6.trans s'⟩⟩⟩
  .rintro σ Hm ⟨v6,v7,rfl,sm⟩;exact q _
end
theorem zom {α:Type}{F:List α->Prop}{us:List α} (h:us.length=0) (k:F []):F us:=by
 cases us with
 | nil=>exact k
 | cons a r=>cases h
theorem zhm {α:Type}{F:List α->Prop}{us:List α} (h:us.length=1) (k:∀a,F [a]):F us:=by
 cases us with
 | nil=>cases h
 | cons a r=>exact zom (F:=fun r=>F (a::r)) (Wh h) (k a)
theorem zhn {α:Type}{F:List α->Prop}{us:List α} (h:us.length=2) (k:∀a b,F [a,b]):F us:=by
 cases us with
 | nil=>cases h
 | cons a r=>exact zhm (F:=fun r=>F (a::r)) (Wh h) (k a)
theorem zho {α:Type}{F:List α->Prop}{us:List α} (h:us.length=3) (k:∀a b c,F [a,b,c]):F us:=by
 cases us with
 | nil=>cases h
 | cons a r=>exact zhn (F:=fun r=>F (a::r)) (Wh h) (k a)
theorem zhp {α:Type}{F:List α->Prop}{us:List α} (h:us.length=4) (k:∀a b c d,F [a,b,c,d]):F us:=by
 cases us with
 | nil=>cases h
 | cons a r=>exact zho (F:=fun r=>F (a::r)) (Wh h) (k a)
theorem zon {α:Type}{F:List α->Prop}{us:List α} (h:us.length=5) (k:∀a b c d e,F [a,b,c,d,e]):F us:=by
 cases us with
 | nil=>cases h
 | cons a r=>exact zhp (F:=fun r=>F (a::r)) (Wh h) (k a)
theorem kJ {fd:jQ}{ps:List Str}{us:List zc} (h:us.length=1) (k:∀a,bindArgs fd ⟨[a],[]⟩=pure (ps.zip [a])):bindArgs fd ⟨us,[]⟩=pure (ps.zip us):=zhm (F:=fun us=>bindArgs fd ⟨us,[]⟩=pure (ps.zip us)) h k
theorem xx {fd:jQ}{ps:List Str}{us:List zc} (h:us.length=2) (k:∀a b,bindArgs fd ⟨[a,b],[]⟩=pure (ps.zip [a,b])):bindArgs fd ⟨us,[]⟩=pure (ps.zip us):=zhn (F:=fun us=>bindArgs fd ⟨us,[]⟩=pure (ps.zip us)) h k
theorem Qd {fd:jQ}{ps:List Str}{us:List zc} (h:us.length=3) (k:∀a b c,bindArgs fd ⟨[a,b,c],[]⟩=pure (ps.zip [a,b,c])):bindArgs fd ⟨us,[]⟩=pure (ps.zip us):=zho (F:=fun us=>bindArgs fd ⟨us,[]⟩=pure (ps.zip us)) h k
theorem QH {fd:jQ}{ps:List Str}{us:List zc} (h:us.length=4) (k:∀a b c d,bindArgs fd ⟨[a,b,c,d],[]⟩=pure (ps.zip [a,b,c,d])):bindArgs fd ⟨us,[]⟩=pure (ps.zip us):=zhp (F:=fun us=>bindArgs fd ⟨us,[]⟩=pure (ps.zip us)) h k
theorem Hz {fd:jQ}{ps:List Str}{us:List zc} (h:us.length=5) (k:∀a b c d e,bindArgs fd ⟨[a,b,c,d,e],[]⟩=pure (ps.zip [a,b,c,d,e])):bindArgs fd ⟨us,[]⟩=pure (ps.zip us):=zon (F:=fun us=>bindArgs fd ⟨us,[]⟩=pure (ps.zip us)) h k
def DI (K:zg) (x:Str) (st:jV) (f:zm):Prop:=∃(oc:zc) (od:Option zm) (sl:Array (Option zc)) (kV dc pm:zc) (an:Option zm) (cd ct:zc),qO K qp x=some (some (.ref f))/\K.lookup f=some ⟨oc,od,.func (xj x x (yU st) (wD st) (zP st) .none kV dc pm an cd ct),sl⟩/\vD K cd x=true/\jR K (.ref f)=true
theorem DI.dd {K:zg}{h:jW}{mg:Str->Option zc}{x:Str}{st:jV}{f:zm}{ps:List Str} (d:DI K x st f) (X:K.In h) (G:h.Ns qp mg) (hb:∀(kV dc pm:zc) (an:Option zm) (cd ct:zc) (us:List zc),us.length=ps.length->bindArgs (xj x x (yU st) (wD st) (zP st) .none kV dc pm an cd ct) ⟨us,[]⟩=pure (ps.zip us)):Def K mg x st ps:=by
 obtain⟨oc,od,sl,kV,dc,pm,an,cd,ct,a,l,c,k⟩:=d;exact⟨f,_,bI l c k,(bI (st:=st) l c k).binds (ps:=ps) hb,jO X G a⟩
theorem di_mk {K:zg}{x:Str}{st:jV}{f:zm}{oc:zc}{od:Option zm}{sl:Array (Option zc)}{kV dc pm:zc}{an:Option zm}{cd ct:zc} (a:qO K qp x=some (some (.ref f))) (l:K.lookup f=some ⟨oc,od,.func (xj x x (yU st) (wD st) (zP st) .none kV dc pm an cd ct),sl⟩) (c:vD K cd x=true) (k:jR K (.ref f)=true):DI K x st f:=⟨_,_,_,_,_,_,_,_,_,a,l,c,k⟩
theorem all_mk {l:lV} (hP:l.prog.given.tree=none){w:jd}{K:zg}{h:jW}{mg:Str->Option zc}{fa:zm} (X:K.In h) (G:h.Ns qp mg) (hfa:mg "law"=some (.ref fa))
  {f0:zm} (d0:DI K "choose" fV f0)
  {f1:zm} (d1:DI K "top_of" fW f1)
  {f2:zm} (d2:DI K "top_from" YQ f2)
  {f3:zm} (d3:DI K "above_top" KJ f3)
  {f4:zm} (d4:DI K "rounded_up" X8 f4)
  {f5:zm} (d5:DI K "box_of" fU f5)
  {f6:zm} (d6:DI K "bell_row" YH f6)
  {f7:zm} (d7:DI K "heard_box" KQ f7)
  {f8:zm} (d8:DI K "box_count" KN f8)
  {f9:zm} (d9:DI K "greatest_part" QB f9)
  {f10:zm} (d10:DI K "shortest_frame" Z2 f10)
  {f11:zm} (d11:DI K "best_bells" XX f11)
  {f12:zm} (d12:DI K "cheapest" YK f12)
  {f13:zm} (d13:DI K "box_number" X3 f13)
  {f14:zm} (d14:DI K "box_of_message" Z1 f14)
  {f15:zm} (d15:DI K "written" cA f15)
  {f16:zm} (d16:DI K "read" Bs f16)
  {f17:zm} (d17:DI K "keyed_count" cj f17)
  {f18:zm} (d18:DI K "keyed" Lz f18)
  {f19:zm} (d19:DI K "unkeyed" uF f19)
  {f20:zm} (d20:DI K "refuse_silent" Zt f20)
  {f21:zm} (d21:DI K "rung" Bt f21)
  {f22:zm} (d22:DI K "by_messages" JW f22)
  {f23:zm} (d23:DI K "note_number" JZ f23)
  {f24:zm} (d24:DI K "note_of" cz f24)
  {f25:zm} (d25:DI K "parts" oE f25)
  {f26:zm} (d26:DI K "number_of_parts" ZD f26)
  {f27:zm} (d27:DI K "sent" Bu f27)
  {f28:zm} (d28:DI K "received" YM f28)
  {f29:zm} (d29:DI K "messages_ahead_of_end" wJ f29)
  {f30:zm} (d30:DI K "is_made_of" X5 f30)
  {f31:zm} (d31:DI K "name_in" cu f31)
  {f32:zm} (d32:DI K "figures_in" X4 f32)
  {f33:zm} (d33:DI K "number_in" KR f33)
  {f34:zm} (d34:DI K "message_in" X6 f34)
  {f35:zm} (d35:DI K "bells_in" YJ f35)
  {f36:zm} (d36:DI K "turns_in" YS f36)
  {f37:zm} (d37:DI K "number_told" J1 f37)
  {f38:zm} (d38:DI K "turns_told" Va f38)
  {f39:zm} (d39:DI K "count_of" YL f39)
  {f40:zm} (d40:DI K "note_heard" X7 f40)
  {f41:zm} (d41:DI K "choice_told" JX f41)
  {f42:zm} (d42:DI K "cheapest_told" Qz f42)
  {f43:zm} (d43:DI K "_law_cell_at" Q9 f43)
  {f44:zm} (d44:DI K "_law_drawn" XN f44)
  {f45:zm} (d45:DI K "_law_name" KC f45)
  {f46:zm} (d46:DI K "_law_frame" XQ f46)
  {f47:zm} (d47:DI K "_law_kind" Kz f47)
  {f48:zm} (d48:DI K "_law_told" KH f48)
  {f49:zm} (d49:DI K "_law_wrong" XS f49)
  {f50:zm} (d50:DI K "_law_search" JT f50)
  {f51:zm} (d51:DI K "_law_order" XR f51)
  {f52:zm} (d52:DI K "_law_road" KD f52)
  {f53:zm} (d53:DI K "_law_stands" JV f53)
  {f54:zm} (d54:DI K "law" Ed f54)
  (z_range:qO K qp "range"=some none)
  (z_isinstance:qO K qp "isinstance"=some none)
  (z_int:qO K qp "int"=some none)
  (z_bool:qO K qp "bool"=some none)
  (z_len:qO K qp "len"=some none)
  (z_list:qO K qp "list"=some none)
  (z_max:qO K qp "max"=some none)
  (z_min:qO K qp "min"=some none)
  (z_enumerate:qO K qp "enumerate"=some none)
  (z_sorted:qO K qp "sorted"=some none)
  (z_sum:qO K qp "sum"=some none)
  (z_all:qO K qp "all"=some none)
  (z_str:qO K qp "str"=some none)
  (zhK:qO K qp "zip"=some none)
  (z_reversed:qO K qp "reversed"=some none)
  (z_ValueError:qO K qp "ValueError"=some none)
  {vX:zm} (JN:qO K qp "BellError"=some (some (.ref vX)))
  {wV:zm} (Yd:qO K qp "NoRow"=some (some (.ref wV)))
  {qM:zm} (vR:qO K qp "NoReading"=some (some (.ref qM)))
  {ji:zm} (wy:qO K qp "TooGreat"=some (some (.ref ji)))
  {ZQ:zm} (WM:qO K qp "TooMany"=some (some (.ref ZQ)))
  {xO:zm} (Zx:qO K qp "NoNote"=some (some (.ref xO)))
  {zT:zm} (vg:qO K qp "NoOrder"=some (some (.ref zT)))
  {xY:zm} (XJ:qO K qp "NoName"=some (some (.ref xY)))
  {xZ:zm} (iG:qO K qp "Frame"=some (some (.ref xZ)))
  {j5:zm} (Ik:qO K qp "Desk"=some (some (.ref j5)))
  {V5:Tok} (WL:qO K qp "LETTERS"=some (some (.str "abcdefghijklmnopqrstuvwxyz" V5)))
  {J3:Tok} (Zw:qO K qp "MOST_LETTERS"=some (some (.int 8 J3)))
  {V4:Tok} (WK:qO K qp "FIGURES"=some (some (.str "0123456789" V4)))
  {J2:Tok} (Zv:qO K qp "MOST_FIGURES"=some (some (.int 60 J2)))
  {wu:Tok} (vd:qO K qp "MOST_FIGURES_OF_MESSAGE"=some (some (.int 3000 wu)))
  {KZ:Tok} (QJ:qO K qp "MOST_BELLS"=some (some (.int 60 KZ)))
  {Yw:Tok} (Xm:qO K qp "SIGNS"=some (some (.str "abcdefghijklmnopqrstuvwxyz " Yw)))
  {QW:Tok} (yJ:qO K qp "MOST_SIGNS"=some (some (.int 60 QW)))
  {Qg:Tok} (wY:qO K qp "LEAST_COUNT"=some (some (.int 3 Qg)))
  (Dq:V5≠0)
  (Dp:V4≠0)
  (zaK:Yw≠0)
  (Xe:qD K vX bmV "ValueError.__new__"=true)
  (iV:qD K wV bmV "ValueError.__new__"=true)
  (wF:qD K qM bmV "ValueError.__new__"=true)
  (yD:qD K ji bmV "ValueError.__new__"=true)
  (vV:qD K zT bmV "ValueError.__new__"=true)
  (cC:qD K xY bmV "ValueError.__new__"=true)
  (Jb:qD K xO bmV "ValueError.__new__"=true)
  (fM:XF K ⟨zT,ji,xY,xO,qM,wV,ZQ,vX⟩ zT 0)
  (bZ:XF K ⟨zT,ji,xY,xO,qM,wV,ZQ,vX⟩ ji 1)
  (ur:QD K xZ W7=true)
  (ul:JF K xZ=true)
  (ut:Wk K xZ=true)
  (uv:qL K (.ref xZ) "__setattr__"=some (some (.builtin "object.__setattr__")))
  (uq:aG K xZ=true)
  (um:jR K (.ref xZ)=true)
  (au:qL K (.ref xZ) "turns"=some none)
  (aq:qL K (.ref xZ) "bells"=some none)
  (bR:qL K (.ref xZ) "late"=some none)
  (WQ:qL K (.ref xZ) "frames"=some none)
  (Dv:QD K j5 W7=true)
  (Ds:JF K j5=true)
  (Dw:Wk K j5=true)
  (Dy:qL K (.ref j5) "__setattr__"=some (some (.builtin "object.__setattr__")))
  (Du:aG K j5=true)
  (Dt:jR K (.ref j5)=true)
  (bQ:qL K (.ref j5) "turns"=some none)
  (bO:qL K (.ref j5) "bells"=some none)
  (eV:qL K (.ref j5) "late"=some none)
  (ao:qL K (.ref j5) "frames"=some none)
  {XH:zm}{IV Hw:Option zm}{Lq:Array (Option zc)}{Iz Ig HN Lh nA HJ:zc}
  (JR:qL K (.ref xZ) "__init__"=some (some (.ref XH)))
  (Kr:K.lookup XH=some ⟨Iz,IV,.func (xj "__init__" "Frame.__init__" (yU Qf) (wD Qf) (zP Qf) .none Ig HN Lh Hw nA HJ),Lq⟩) (Kq:vD K nA "Frame.__init__"=true) (bN:jR K (.ref XH)=true) (bM:yN K (.ref XH)=true)
  {Kf:zm}{PB Oh:Option zm}{Rx:Array (Option zc)}{Pq Pb Oz Rg rH Ot:zc}
  (Vv:qL K (.ref j5) "__init__"=some (some (.ref Kf)))
  (Yp:K.lookup Kf=some ⟨Pq,PB,.func (xj "__init__" "Desk.__init__" (yU QQ) (wD QQ) (zP QQ) .none Pb Oz Rg Oh rH Ot),Rx⟩) (Yg:vD K rH "Desk.__init__"=true) (eU:jR K (.ref Kf)=true) (eF:yN K (.ref Kf)=true)
  {Km:zm}{PN Om:Option zm}{RC:Array (Option zc)}{Pz Pk O7 Rk rN Ox:zc}
  (Vz:qL K (.ref j5) "told"=some (some (.ref Km)))
  (Yt:K.lookup Km=some ⟨Pz,PN,.func (xj "told" "Desk.told" (yU QV) (wD QV) (zP QV) .none Pk O7 Rk Om rN Ox),RC⟩) (Yk:vD K rN "Desk.told"=true) (Yo:jR K (.ref Km)=true) (eQ:yN K (.ref Km)=true)
  {Kg:zm}{PJ Oi:Option zm}{Ry:Array (Option zc)}{Pu Pg OD Rh rJ Ou:zc}
  (Vw:qL K (.ref j5) "keep"=some (some (.ref Kg)))
  (Yq:K.lookup Kg=some ⟨Pu,PJ,.func (xj "keep" "Desk.keep" (yU QR) (wD QR) (zP QR) .none Pg OD Rh Oi rJ Ou),Ry⟩) (Yh:vD K rJ "Desk.keep"=true) (Yl:jR K (.ref Kg)=true) (eG:yN K (.ref Kg)=true)
  {Kl:zm}{PL Ol:Option zm}{RB:Array (Option zc)}{Py Pj O6 Rj rM Ow:zc}
  (Vy:qL K (.ref j5) "ring"=some (some (.ref Kl)))
  (Ys:K.lookup Kl=some ⟨Py,PL,.func (xj "ring" "Desk.ring" (yU QT) (wD QT) (zP QT) .none Pj O6 Rj Ol rM Ow),RB⟩) (Yj:vD K rM "Desk.ring"=true) (Yn:jR K (.ref Kl)=true) (eO:yN K (.ref Kl)=true)
  {JH:zm}{Gh FW:Option zm}{Gm:Array (Option zc)}{Gg Gf Gb Gj lM FZ:zc}
  (JQ:qL K (.ref j5) "listen"=some (some (.ref JH)))
  (Vk:K.lookup JH=some ⟨Gg,Gh,.func (xj "listen" "Desk.listen" (yU ZC) (wD ZC) (zP ZC) .none Gf Gb Gj FW lM FZ),Gm⟩) (Vi:vD K lM "Desk.listen"=true) (Vj:jR K (.ref JH)=true) (aj:yN K (.ref JH)=true)
  {ZX:zm}{ux tX:Option zm}{uD:Array (Option zc)}{uw ug ud uB bF uc:zc}
  (Qy:qL K (.ref j5) "send_note"=some (some (.ref ZX)))
  (QM:K.lookup ZX=some ⟨uw,ux,.func (xj "send_note" "Desk.send_note" (yU ye) (wD ye) (zP ye) .none ug ud uB tX bF uc),uD⟩) (QK:vD K bF "Desk.send_note"=true) (QL:jR K (.ref ZX)=true) (VB:yN K (.ref ZX)=true)
  {Kh:zm}{PK Oj:Option zm}{Rz:Array (Option zc)}{Px Ph OJ Ri rK Ov:zc}
  (Vx:qL K (.ref j5) "kept"=some (some (.ref Kh)))
  (Yr:K.lookup Kh=some ⟨Px,PK,.func (xj "kept" "Desk.kept" (yU QS) (wD QS) (zP QS) .none Ph OJ Ri Oj rK Ov),Rz⟩) (Yi:vD K rK "Desk.kept"=true) (Ym:jR K (.ref Kh)=true) (eN:yN K (.ref Kh)=true)
  : ∃fd:jQ,((∀(s:zp) (v:zc),pX s fd ⟨[v],[]⟩ [("script",v)])/\fd.scope.names.lookup ("script":Str)=some .local)/\∀base:jW,K.In base->base.Ns qp mg->Kc l.prog w K mg base CX0 50 fa fd ["script"] (zhC K):=by
 obtain⟨_,_,_,kL,dL,pL,nL,cL,tL,aL,lL,eL,rL⟩:=d54;have e:=hfa.symm.trans (jO X G aL);cases e;have Hl:Def K mg "choose" fV ["n","k"]:=d0.dd X G fun _ _ _ _ _ _ us hl=>xx hl fun _ _=>rfl;have Ho:Def K mg "top_of" fW ["k","number"]:=d1.dd X G fun _ _ _ _ _ _ us hl=>xx hl fun _ _=>rfl;have tR:Def K mg "top_from" YQ ["start","k","number"]:=d2.dd X G fun _ _ _ _ _ _ us hl=>Qd hl fun _ _ _=>rfl;have mQ:Def K mg "above_top" KJ ["k","number"]:=d3.dd X G fun _ _ _ _ _ _ us hl=>xx hl fun _ _=>rfl;have gY:Def K mg "rounded_up" X8 ["number","divisor"]:=d4.dd X G fun _ _ _ _ _ _ us hl=>xx hl fun _ _=>rfl;have Hk:Def K mg "box_of" fU ["row","late"]:=d5.dd X G fun _ _ _ _ _ _ us hl=>xx hl fun _ _=>rfl;have tH:Def K mg "bell_row" YH ["box","late"]:=d6.dd X G fun _ _ _ _ _ _ us hl=>xx hl fun _ _=>rfl;have mU:Def K mg "heard_box" KQ ["reading","late"]:=d7.dd X G fun _ _ _ _ _ _ us hl=>xx hl fun _ _=>rfl;have mR:Def K mg "box_count" KN ["turns","bells","late"]:=d8.dd X G fun _ _ _ _ _ _ us hl=>Qd hl fun _ _ _=>rfl;have Y8:Def K mg "greatest_part" QB ["turns","bells","late"]:=d9.dd X G fun _ _ _ _ _ _ us hl=>Qd hl fun _ _ _=>rfl;have Wv:Def K mg "shortest_frame" Z2 ["bells","late","many"]:=d10.dd X G fun _ _ _ _ _ _ us hl=>Qd hl fun _ _ _=>rfl;have gO:Def K mg "best_bells" XX ["turns","late","most"]:=d11.dd X G fun _ _ _ _ _ _ us hl=>Qd hl fun _ _ _=>rfl;have tM:Def K mg "cheapest" YK ["many","late","turn_cost","bell_cost","most"]:=d12.dd X G fun _ _ _ _ _ _ us hl=>Hz hl fun _ _ _ _ _=>rfl;have gP:Def K mg "box_number" X3 ["box"]:=d13.dd X G fun _ _ _ _ _ _ us hl=>kJ hl fun _=>rfl;have Wu:Def K mg "box_of_message" Z1 ["message","bells"]:=d14.dd X G fun _ _ _ _ _ _ us hl=>xx hl fun _ _=>rfl;have Df:Def K mg "written" cA ["message","turns","bells","late"]:=d15.dd X G fun _ _ _ _ _ _ us hl=>QH hl fun _ _ _ _=>rfl;have zeZ:Def K mg "read" Bs ["reading","turns","bells","late"]:=d16.dd X G fun _ _ _ _ _ _ us hl=>QH hl fun _ _ _ _=>rfl;have rF:Def K mg "keyed_count" cj ["turns","bells","late"]:=d17.dd X G fun _ _ _ _ _ _ us hl=>Qd hl fun _ _ _=>rfl;have U7:Def K mg "keyed" Lz ["message","turns","bells","late"]:=d18.dd X G fun _ _ _ _ _ _ us hl=>QH hl fun _ _ _ _=>rfl;have De:Def K mg "unkeyed" uF ["reading","turns","bells","late"]:=d19.dd X G fun _ _ _ _ _ _ us hl=>QH hl fun _ _ _ _=>rfl;have Vf:Def K mg "refuse_silent" Zt ["turns","bells"]:=d20.dd X G fun _ _ _ _ _ _ us hl=>xx hl fun _ _=>rfl;have ze0:Def K mg "rung" Bt ["messages","turns","bells","late"]:=d21.dd X G fun _ _ _ _ _ _ us hl=>QH hl fun _ _ _ _=>rfl;have dR:Def K mg "by_messages" JW ["reading","turns","late"]:=d22.dd X G fun _ _ _ _ _ _ us hl=>Qd hl fun _ _ _=>rfl;have dW:Def K mg "note_number" JZ ["note"]:=d23.dd X G fun _ _ _ _ _ _ us hl=>kJ hl fun _=>rfl;have Dd:Def K mg "note_of" cz ["number"]:=d24.dd X G fun _ _ _ _ _ _ us hl=>kJ hl fun _=>rfl;have U8:Def K mg "parts" oE ["number","base"]:=d25.dd X G fun _ _ _ _ _ _ us hl=>xx hl fun _ _=>rfl;have Ka:Def K mg "number_of_parts" ZD ["figures","base"]:=d26.dd X G fun _ _ _ _ _ _ us hl=>xx hl fun _ _=>rfl;have ze1:Def K mg "sent" Bu ["note","turns","bells","late"]:=d27.dd X G fun _ _ _ _ _ _ us hl=>QH hl fun _ _ _ _=>rfl;have tQ:Def K mg "received" YM ["reading","turns","bells","late"]:=d28.dd X G fun _ _ _ _ _ _ us hl=>QH hl fun _ _ _ _=>rfl;have Qu:Def K mg "messages_ahead_of_end" wJ ["reading","turns","bells","late"]:=d29.dd X G fun _ _ _ _ _ _ us hl=>QH hl fun _ _ _ _=>rfl;have gR:Def K mg "is_made_of" X5 ["word","signs","most"]:=d30.dd X G fun _ _ _ _ _ _ us hl=>Qd hl fun _ _ _=>rfl;have Dc:Def K mg "name_in" cu ["word"]:=d31.dd X G fun _ _ _ _ _ _ us hl=>kJ hl fun _=>rfl;have gQ:Def K mg "figures_in" X4 ["word","most"]:=d32.dd X G fun _ _ _ _ _ _ us hl=>xx hl fun _ _=>rfl;have mV:Def K mg "number_in" KR ["word"]:=d33.dd X G fun _ _ _ _ _ _ us hl=>kJ hl fun _=>rfl;have gU:Def K mg "message_in" X6 ["word"]:=d34.dd X G fun _ _ _ _ _ _ us hl=>kJ hl fun _=>rfl;have tK:Def K mg "bells_in" YJ ["word"]:=d35.dd X G fun _ _ _ _ _ _ us hl=>kJ hl fun _=>rfl;have tU:Def K mg "turns_in" YS ["words"]:=d36.dd X G fun _ _ _ _ _ _ us hl=>kJ hl fun _=>rfl;have dX:Def K mg "number_told" J1 ["number"]:=d37.dd X G fun _ _ _ _ _ _ us hl=>kJ hl fun _=>rfl;have gZ:Def K mg "turns_told" Va ["turns"]:=d38.dd X G fun _ _ _ _ _ _ us hl=>kJ hl fun _=>rfl;have tO:Def K mg "count_of" YL ["frame"]:=d39.dd X G fun _ _ _ _ _ _ us hl=>kJ hl fun _=>rfl;have gW:Def K mg "note_heard" X7 ["reading","frame"]:=d40.dd X G fun _ _ _ _ _ _ us hl=>xx hl fun _ _=>rfl;have dU:Def K mg "choice_told" JX ["words"]:=d41.dd X G fun _ _ _ _ _ _ us hl=>kJ hl fun _=>rfl;have Y7:Def K mg "cheapest_told" Qz ["words"]:=d42.dd X G fun _ _ _ _ _ _ us hl=>kJ hl fun _=>rfl;have bB:Def K mg "_law_cell_at" Q9 ["script","k"]:=d43.dd X G fun _ _ _ _ _ _ us hl=>xx hl fun _ _=>rfl;have gH:Def K mg "_law_drawn" XN ["cell","k"]:=d44.dd X G fun _ _ _ _ _ _ us hl=>xx hl fun _ _=>rfl;have mK:Def K mg "_law_name" KC ["cell"]:=d45.dd X G fun _ _ _ _ _ _ us hl=>kJ hl fun _=>rfl;have gJ:Def K mg "_law_frame" XQ ["cell"]:=d46.dd X G fun _ _ _ _ _ _ us hl=>kJ hl fun _=>rfl;have mJ:Def K mg "_law_kind" Kz ["e"]:=d47.dd X G fun _ _ _ _ _ _ us hl=>kJ hl fun _=>rfl;have mO:Def K mg "_law_told" KH ["desk","order"]:=d48.dd X G fun _ _ _ _ _ _ us hl=>xx hl fun _ _=>rfl;have gM:Def K mg "_law_wrong" XS ["cell","name"]:=d49.dd X G fun _ _ _ _ _ _ us hl=>xx hl fun _ _=>rfl;have dN:Def K mg "_law_search" JT ["desk","cell"]:=d50.dd X G fun _ _ _ _ _ _ us hl=>xx hl fun _ _=>rfl;have gK:Def K mg "_law_order" XR ["desk","frames","cell"]:=d51.dd X G fun _ _ _ _ _ _ us hl=>Qd hl fun _ _ _=>rfl;have mL:Def K mg "_law_road" KD ["cell","answer","late"]:=d52.dd X G fun _ _ _ _ _ _ us hl=>Qd hl fun _ _ _=>rfl;have dO:Def K mg "_law_stands" JV ["desk","name","frame","cell","most"]:=d53.dd X G fun _ _ _ _ _ _ us hl=>Hz hl fun _ _ _ _ _=>rfl;have O:Own K xZ j5:=⟨⟨ur,ul,ut,uv⟩,au,aq,bR,WQ,⟨Dv,Ds,Dw,Dy⟩,bQ,bO,eV,ao,⟨XH,⟨_,cU Kr Kq,(bI (st:=Qf) Kr Kq bN).binds (ps:=["self","turns","bells","late"]) (fun _ _ _ _ _ _ us hl=>QH hl fun _ _ _ _=>rfl)⟩,⟨uq,JR,bM,um⟩⟩,⟨Kf,⟨_,cU Yp Yg,(bI (st:=QQ) Yp Yg eU).binds (ps:=["self"]) (fun _ _ _ _ _ _ us hl=>kJ hl fun _=>rfl)⟩,⟨Du,Vv,eF,Dt⟩⟩,⟨Km,⟨_,cU Yt Yk,(bI (st:=QV) Yt Yk Yo).binds (ps:=["self","order"]) (fun _ _ _ _ _ _ us hl=>xx hl fun _ _=>rfl)⟩,⟨Vz,eQ,Yo⟩⟩,⟨Kg,⟨_,cU Yq Yh,(bI (st:=QR) Yq Yh Yl).binds (ps:=["self","words"]) (fun _ _ _ _ _ _ us hl=>xx hl fun _ _=>rfl)⟩,⟨Vw,eG,Yl⟩⟩,⟨Kl,⟨_,cU Ys Yj,(bI (st:=QT) Ys Yj Yn).binds (ps:=["self","words"]) (fun _ _ _ _ _ _ us hl=>xx hl fun _ _=>rfl)⟩,⟨Vy,eO,Yn⟩⟩,⟨JH,⟨_,cU Vk Vi,(bI (st:=ZC) Vk Vi Vj).binds (ps:=["self","words"]) (fun _ _ _ _ _ _ us hl=>xx hl fun _ _=>rfl)⟩,⟨JQ,aj,Vj⟩⟩,⟨ZX,⟨_,cU QM QK,(bI (st:=ye) QM QK QL).binds (ps:=["self","words"]) (fun _ _ _ _ _ _ us hl=>xx hl fun _ _=>rfl)⟩,⟨Qy,VB,QL⟩⟩,⟨Kh,⟨_,cU Yr Yi,(bI (st:=QS) Yr Yi Ym).binds (ps:=["self","name"]) (fun _ _ _ _ _ _ us hl=>xx hl fun _ _=>rfl)⟩,⟨Vx,eN,Ym⟩⟩⟩;have T:Txt K mg:=⟨jy X G z_range,jy X G z_isinstance,jy X G z_int,jy X G z_bool,jy X G z_len,jy X G z_list,jy X G z_max,jy X G z_min,jy X G z_enumerate,jy X G z_sorted,jy X G z_sum,jy X G z_all,jy X G z_str,jy X G zhK,jy X G z_reversed,jy X G z_ValueError⟩;exact⟨xj "law" "law" (yU Ed) (wD Ed) (zP Ed) .none kL dL pL nL cL tL,⟨fun s v=>.of_eq rfl,by kernel_rfl⟩,fun base _ _=>zrg hP (bI lL eL rL) T (V5:=⟨V5,Dq⟩) (V4:=⟨V4,Dp⟩) (Yw:=⟨Yw,zaK⟩) Hl Ho tR mQ gY Hk tH mU mR Y8 Wv gO tM gP Wu Df zeZ rF U7 De Vf ze0 dR dW Dd U8 Ka ze1 tQ Qu gR Dc gQ mV gU tK tU dX gZ tO gW dU Y7 bB gH mK gJ mJ mO gM dN gK mL dO (jO X G JN) (jO X G Yd) (jO X G vR) (jO X G wy) (jO X G WM) (jO X G Zx) (jO X G vg) (jO X G XJ) (jO X G iG) (jO X G Ik) (jO X G WL) (jO X G Zw) (jO X G WK) (jO X G Zv) (jO X G vd) (jO X G QJ) (jO X G Xm) (jO X G yJ) (jO X G wY) Xe iV wF yD vV cC Jb fM bZ O⟩
theorem walk {l:lV}{q:qz}{loose:List Str}{XP:(Str->Option zc)->jW->Prop}{YP:jd->jW->Prop}{d:DefRec}{K:wC->zg} (hn:l.most=some 63) (hdf:d.params.defaults=[]) (hq:R6 q=true)
  (hY:∀(w:jd) (h:jW),YP w h->(K w.params).In h)
  (F:∀(w:jd) (mg:Str->Option zc) (fa:zm) (h:jW),(K w.params).In h->h.Ns qp mg->mg d.name=some (.ref fa) ->
   ∃fd:jQ,((∀(s:zp) (u:zc),pX s fd ⟨[u],[]⟩ [("script",u)])/\fd.scope.names.lookup ("script":Str)=some .local)/\∀base:jW,(K w.params).In base->base.Ns qp mg->Kc l.prog w (K w.params) mg base CX0 50 fa fd ["script"] (zhC (K w.params))) :
  S7 q loose XP YP l.row.toRowW d [] (fun f vs=>uY f vs):=
 L2.walk_of (n:=63) (k:=50) (x:="script") (CX:=fun _=>CX0) (sp:=fun w=>zhC (K w.params)) hn (by decide) hdf hq ⟨rfl,by decide,by decide⟩ hY F (fun _ _ a ns hl hbt _ hS=>⟨a,ns,rfl,hS,hl,fun _=>rfl⟩) fun _ _ _ _ _ z=>z
end Bw
namespace Op
noncomputable section
open PySem PySem.W PyProof.Rows L2
noncomputable abbrev p:qz:=PySem.Challenge.pw_bellwrite_k79_whole_desk_goes_on
def t (i:Nat):jV:=p.main.body.getD i (.Pass ⟨0,0,0,0⟩)
def u (i j:Nat):jV:=inClass (t i) j
noncomputable abbrev fd (s:jV) (nm qn:Str) (g:zm) (cl:List (Str×zm)) (d kd dc pm:zc) (an:Option zm) (cd ct:zc) (bi:zm):jQ:=⟨nm,qn,yU s,.stmts (wD s),zP s,g,cl,d,kd,dc,pm,an,cd,ct,bi⟩
noncomputable abbrev e (P:wC) (s:Str) (k:Tok) (v:zc):Ej:=⟨PyData.keyHash P s,.str s k,v⟩
abbrev n:=BT.node
abbrev z:=BT.nil
noncomputable abbrev vi (k:Int):zc:=.int k 0
noncomputable abbrev vr (a:zm):zc:=.ref a
noncomputable abbrev vs (x:Str) (k:Tok):zc:=.str x k
noncomputable abbrev vc (k:Tok):zc:=.str "/claim/cut.py" k
noncomputable abbrev b7 (P:wC):=boot_o_7 P
noncomputable abbrev y7 (P:wC):BT:=n (boot_o_7 P) z z
noncomputable abbrev b8 (P:wC):=boot_o_8 P
noncomputable abbrev y8 (P:wC):BT:=n (boot_o_8 P) z z
noncomputable abbrev vy:=Ad
noncomputable abbrev vb:=Value.builtin
abbrev tp (xs:Array zc):Obj:=⟨vy "tuple",none,.seq xs 0,#[]⟩
abbrev co (xs:Array zc):Obj:=⟨vy "code",none,.fields xs,#[]⟩
noncomputable abbrev fo (x:jV) (nm qn:Str) (m:zc) (c:zm):Obj:=⟨vy "function",none,.func (fd x nm qn 3 [] .none .none .none m none (.ref c) .none 0),#[]⟩
noncomputable abbrev go (x:jV) (nm qn:Str):Obj:=⟨.none,none,.func (fd x nm qn 0 [] .none .none .none .none none .none .none 0),#[]⟩
def lf:Life:=⟨[],[],[],0,[],[],false,#[],[],0,false,false,false,0,[2000,10,10],false,0,true,[],[],0,false⟩
def o1:Obj:=co #[vs "<module>" 182,vs "<module>" 183,vc 184,vi 1,vi 0,vi 0,vi 0,vi 0,vr 11,(.bool false),vi 181,vr 12,.none,.none,.none,.none,vi 185,vi 1,vc 186]
def o2:Obj:=⟨vy "frame",none,.plain,#[(some (vr 13)),(some (vr 3)),(some (vr 3)),none,(some (vs "__main__" 164)),none,(some (vr 0))]⟩
def o3 (P:wC):Obj:=⟨vy "dict",none,(.dict #[e P "__name__" 165 (vs "law_bellwrite_k79_whole_desk_goes_on" 849),e P "__doc__" 166 .none,e P "__package__" 167 .none,e P "__loader__" 168 (vb "__main__.__loader__#opaque"),e P "__spec__" 169 .none,e P "__annotations__" 170 (vr 6),e P "__builtins__" 171 (vr 4),e P "__file__" 173 (vc 172),e P "__cached__" 174 .none,e P "choose" 198 (vr 21),e P "top_of" 206 (vr 28),e P "top_from" 219 (vr 35),e P "above_top" 230 (vr 42),e P "rounded_up" 238 (vr 49),e P "BellError" 258 (vr 59),e P "NoRow" 274 (vr 72),e P "NoReading" 290 (vr 84),e P "TooGreat" 306 (vr 96),e P "TooMany" 322 (vr 108),e P "NoNote" 338 (vr 120),e P "NoOrder" 354 (vr 132),e P "NoName" 370 (vr 144),e P "box_of" 378 (vr 151),e P "bell_row" 384 (vr 156),e P "heard_box" 395 (vr 163),e P "box_count" 404 (vr 170),e P "greatest_part" 413 (vr 177),e P "shortest_frame" 425 (vr 184),e P "best_bells" 438 (vr 191),e P "cheapest" 455 (vr 198),e P "box_number" 463 (vr 203),e P "box_of_message" 475 (vr 210),e P "written" 485 (vr 217),e P "read" 496 (vr 224),e P "keyed_count" 507 (vr 231),e P "keyed" 513 (vr 236),e P "unkeyed" 519 (vr 241),e P "refuse_silent" 529 (vr 248),e P "rung" 535 (vr 253),e P "by_messages" 547 (vr 260),e P "SIGNS" 551 (vs "abcdefghijklmnopqrstuvwxyz " 550),e P "MOST_SIGNS" 553 (.int 60 552),e P "LEAST_COUNT" 555 (.int 3 554),e P "note_number" 565 (vr 267),e P "note_of" 574 (vr 274),e P "parts" 584 (vr 281),e P "number_of_parts" 590 (vr 286),e P "sent" 596 (vr 291),e P "received" 602 (vr 296),e P "messages_ahead_of_end" 615 (vr 303),e P "LETTERS" 619 (vs "abcdefghijklmnopqrstuvwxyz" 618),e P "MOST_LETTERS" 621 (.int 8 620),e P "FIGURES" 623 (vs "0123456789" 622),e P "MOST_FIGURES" 625 (.int 60 624),e P "MOST_FIGURES_OF_MESSAGE" 627 (.int 3000 626),e P "MOST_BELLS" 629 (.int 60 628),e P "is_made_of" 635 (vr 308),e P "name_in" 642 (vr 315),e P "figures_in" 650 (vr 322),e P "number_in" 657 (vr 329),e P "message_in" 664 (vr 336),e P "bells_in" 672 (vr 343),e P "turns_in" 678 (vr 348),e P "number_told" 685 (vr 355),e P "turns_told" 691 (vr 360),e P "Frame" 726 (vr 377),e P "Desk" 813 (vr 440),e P "count_of" 820 (vr 451),e P "note_heard" 828 (vr 458),e P "choice_told" 835 (vr 465),e P "cheapest_told" 848 (vr 472),e P "_law_cell_at" 858 (vr 479),e P "_law_drawn" 867 (vr 486),e P "_law_name" 873 (vr 491),e P "_law_frame" 883 (vr 498),e P "_law_kind" 891 (vr 505),e P "_law_told" 902 (vr 512),e P "_law_wrong" 912 (vr 519),e P "_law_search" 925 (vr 526),e P "_law_order" 931 (vr 531),e P "_law_road" 937 (vr 536),e P "_law_stands" 943 (vr 541),e P "law" 957 (vr 548)] 83),#[]⟩
def o4:Obj:=⟨.none,none,(.fields #[vi 2,vi 0,vr 20,vi 9,vi 0,vr 27,vi 11,vi 0,vr 34,vi 20,vi 0,vr 41,vi 26,vi 0,vr 48,vi 29,vi 0,vr 55,vi 31,vi 0,vr 68,vi 33,vi 0,vr 80,vi 35,vi 0,vr 92,vi 37,vi 0,vr 104,vi 39,vi 0,vr 116,vi 41,vi 0,vr 128,vi 43,vi 0,vr 140,vi 46,vi 0,vr 150,vi 48,vi 0,vr 155,vi 50,vi 0,vr 162,vi 58,vi 0,vr 169,vi 62,vi 0,vr 176,vi 65,vi 0,vr 183,vi 72,vi 0,vr 190,vi 82,vi 0,vr 197,vi 92,vi 0,vr 202,vi 94,vi 0,vr 209,vi 105,vi 0,vr 216,vi 109,vi 0,vr 223,vi 117,vi 0,vr 230,vi 121,vi 0,vr 235,vi 126,vi 0,vr 240,vi 133,vi 0,vr 247,vi 136,vi 0,vr 252,vi 143,vi 0,vr 259,vi 153,vi 0,vr 266,vi 163,vi 0,vr 273,vi 175,vi 0,vr 280,vi 182,vi 0,vr 285,vi 191,vi 0,vr 290,vi 199,vi 0,vr 295,vi 206,vi 0,vr 302,vi 221,vi 0,vr 307,vi 223,vi 0,vr 314,vi 227,vi 0,vr 321,vi 231,vi 0,vr 328,vi 233,vi 0,vr 335,vi 235,vi 0,vr 342,vi 240,vi 0,vr 347,vi 248,vi 0,vr 354,vi 250,vi 0,vr 359,vi 253,vi 0,vr 366,vi 259,vi 0,vr 387,vi 311,vi 0,vr 450,vi 313,vi 0,vr 457,vi 317,vi 0,vr 464,vi 325,vi 0,vr 471,vi 336,vi 0,vr 478,vi 340,vi 0,vr 485,vi 344,vi 0,vr 490,vi 351,vi 0,vr 497,vi 358,vi 0,vr 504,vi 369,vi 0,vr 511,vi 381,vi 0,vr 518,vi 390,vi 0,vr 525,vi 406,vi 0,vr 530,vi 420,vi 0,vr 535,vi 426,vi 0,vr 540,vi 449,vi 0,vr 547]),#[]⟩
def o5:Obj:=tp #[vs "n" 192,vs "k" 193,vs "ways" 194,vs "taken" 195]
def o6:Obj:=go (t 1) "choose" "choose"
def o7:Obj:=co #[vs "choose" 189,vs "choose" 190,vc 191,vi 2,vi 2,vi 0,vi 0,vi 3,vr 15,(.bool true),vi 181,vr 16,.none,vr 17,vr 18,vr 19,vi 196,vi 2,vc 197]
def o8:Obj:=fo (t 1) "choose" "choose" (vs "bellwrite.choices" 187) 20
def o9:Obj:=tp #[vs "k" 202,vs "number" 203]
def o10:Obj:=go (t 2) "top_of" "top_of"
def o11:Obj:=co #[vs "top_of" 199,vs "top_of" 200,vc 201,vi 9,vi 2,vi 0,vi 0,vi 3,vr 22,(.bool true),vi 181,vr 23,.none,vr 24,vr 25,vr 26,vi 204,vi 9,vc 205]
def o12:Obj:=fo (t 2) "top_of" "top_of" (vs "bellwrite.choices" 187) 27
def o13:Obj:=tp #[vs "start" 210,vs "k" 211,vs "number" 212,vs "top" 213,vs "ways" 214,vs "most_off" 215,vs "step" 216]
def o14:Obj:=go (t 3) "top_from" "top_from"
def o15:Obj:=co #[vs "top_from" 207,vs "top_from" 208,vc 209,vi 11,vi 3,vi 0,vi 0,vi 3,vr 29,(.bool true),vi 181,vr 30,.none,vr 31,vr 32,vr 33,vi 217,vi 11,vc 218]
def o16:Obj:=fo (t 3) "top_from" "top_from" (vs "bellwrite.choices" 187) 34
def o17:Obj:=tp #[vs "k" 223,vs "number" 224,vs "product" 225,vs "factor" 226,vs "figures" 227]
def o18:Obj:=go (t 4) "above_top" "above_top"
def o19:Obj:=co #[vs "above_top" 220,vs "above_top" 221,vc 222,vi 20,vi 2,vi 0,vi 0,vi 3,vr 36,(.bool true),vi 181,vr 37,.none,vr 38,vr 39,vr 40,vi 228,vi 20,vc 229]
def o20:Obj:=fo (t 4) "above_top" "above_top" (vs "bellwrite.choices" 187) 41
def o21:Obj:=tp #[vs "number" 234,vs "divisor" 235]
def o22:Obj:=go (t 5) "rounded_up" "rounded_up"
def o23:Obj:=co #[vs "rounded_up" 231,vs "rounded_up" 232,vc 233,vi 26,vi 2,vi 0,vi 0,vi 3,vr 43,(.bool true),vi 181,vr 44,.none,vr 45,vr 46,vr 47,vi 236,vi 26,vc 237]
def o24:Obj:=fo (t 5) "rounded_up" "rounded_up" (vs "bellwrite.choices" 187) 48
def o25:Obj:=tp #[vy "ValueError"]
def o26:Obj:=⟨vy "builtin_function_or_method",none,(.fields #[vb "type.__prepare__",vy "type"]),#[]⟩
def o27 (P:wC):Obj:=⟨vy "dict",none,(.dict #[e P "__module__" 248 (vs "bellwrite.errors" 239),e P "__qualname__" 250 (vs "BellError" 249),e P "__firstlineno__" 252 (.int 29 251),e P "__static_attributes__" 253 (vr 57)] 4),#[]⟩
def o28:Obj:=co #[vs "BellError" 243,vs "BellError" 244,vc 245,vi 29,vi 0,vi 0,vi 0,vi 0,vr 53,(.bool false),vi 181,vr 54,.none,.none,.none,.none,vi 246,vi 29,vc 247]
def o29:Obj:=⟨vy "frame",none,.plain,#[(some (vr 55)),(some (vr 3)),(some (vr 52)),none,(some (vs "bellwrite.errors" 239)),none,(some (vr 0))]⟩
def o30 (P:wC):Obj:=⟨vy "dict",none,(.dict #[e P "__module__" 248 (vs "bellwrite.errors" 239),e P "__firstlineno__" 252 (.int 29 251),e P "__static_attributes__" 253 (vr 57),e P "__weakref__" 255 (vr 60),e P "__doc__" 256 .none] 3),#[]⟩
def o31:Obj:=⟨vy "type",none,(.cls ⟨"BellError",[vy "ValueError"],[vr 59,vy "ValueError",vy "Exception",vy "BaseException",vy "object"],58,"BellError",true,[],[vr 72,vr 84,vr 96,vr 108,vr 120,vr 132,vr 144],false,none,false⟩),#[(some (vr 50)),none,(some (vs "BellError" 241)),(some (vs "BellError" 249)),(some (vb "ValueError.__new__")),(some (.bool true))]⟩
def o32:Obj:=⟨vy "getset_descriptor",none,(.fields #[vs "__weakref__" 254,vr 59,vb "ExceptionGroup.__weakref__",.none]),#[]⟩
def o33:Obj:=⟨vy "super",none,(.fields #[vr 59,vr 59,vr 59]),#[]⟩
def o34:Obj:=⟨vy "builtin_function_or_method",none,(.fields #[vb "object.__init_subclass__",vr 59]),#[]⟩
def o35:Obj:=tp #[vr 59]
def o36 (P:wC):Obj:=⟨vy "dict",none,(.dict #[e P "__module__" 266 (vs "bellwrite.errors" 239),e P "__qualname__" 268 (vs "NoRow" 267),e P "__firstlineno__" 270 (.int 31 269),e P "__static_attributes__" 271 (vr 70)] 4),#[]⟩
def o37:Obj:=co #[vs "NoRow" 261,vs "NoRow" 262,vc 263,vi 31,vi 0,vi 0,vi 0,vi 0,vr 66,(.bool false),vi 181,vr 67,.none,.none,.none,.none,vi 264,vi 31,vc 265]
def o38:Obj:=⟨vy "frame",none,.plain,#[(some (vr 68)),(some (vr 3)),(some (vr 65)),none,(some (vs "bellwrite.errors" 239)),none,(some (vr 0))]⟩
def o39 (P:wC):Obj:=⟨vy "dict",none,(.dict #[e P "__module__" 266 (vs "bellwrite.errors" 239),e P "__firstlineno__" 270 (.int 31 269),e P "__static_attributes__" 271 (vr 70),e P "__doc__" 272 .none] 2),#[]⟩
def o40:Obj:=⟨vy "type",none,(.cls ⟨"NoRow",[vr 59],[vr 72,vr 59,vy "ValueError",vy "Exception",vy "BaseException",vy "object"],71,"NoRow",true,[],[],false,none,false⟩),#[(some (vr 63)),none,(some (vs "NoRow" 259)),(some (vs "NoRow" 267)),(some (vb "ValueError.__new__")),(some (.bool true))]⟩
def o41:Obj:=⟨vy "super",none,(.fields #[vr 72,vr 72,vr 72]),#[]⟩
def o42:Obj:=⟨vy "builtin_function_or_method",none,(.fields #[vb "object.__init_subclass__",vr 72]),#[]⟩
def o43 (P:wC):Obj:=⟨vy "dict",none,(.dict #[e P "__module__" 282 (vs "bellwrite.errors" 239),e P "__qualname__" 284 (vs "NoReading" 283),e P "__firstlineno__" 286 (.int 33 285),e P "__static_attributes__" 287 (vr 82)] 4),#[]⟩
def o44:Obj:=co #[vs "NoReading" 277,vs "NoReading" 278,vc 279,vi 33,vi 0,vi 0,vi 0,vi 0,vr 78,(.bool false),vi 181,vr 79,.none,.none,.none,.none,vi 280,vi 33,vc 281]
def o45:Obj:=⟨vy "frame",none,.plain,#[(some (vr 80)),(some (vr 3)),(some (vr 77)),none,(some (vs "bellwrite.errors" 239)),none,(some (vr 0))]⟩
def o46 (P:wC):Obj:=⟨vy "dict",none,(.dict #[e P "__module__" 282 (vs "bellwrite.errors" 239),e P "__firstlineno__" 286 (.int 33 285),e P "__static_attributes__" 287 (vr 82),e P "__doc__" 288 .none] 2),#[]⟩
def o47:Obj:=⟨vy "type",none,(.cls ⟨"NoReading",[vr 59],[vr 84,vr 59,vy "ValueError",vy "Exception",vy "BaseException",vy "object"],83,"NoReading",true,[],[],false,none,false⟩),#[(some (vr 75)),none,(some (vs "NoReading" 275)),(some (vs "NoReading" 283)),(some (vb "ValueError.__new__")),(some (.bool true))]⟩
def o48:Obj:=⟨vy "super",none,(.fields #[vr 84,vr 84,vr 84]),#[]⟩
def o49:Obj:=⟨vy "builtin_function_or_method",none,(.fields #[vb "object.__init_subclass__",vr 84]),#[]⟩
def o50 (P:wC):Obj:=⟨vy "dict",none,(.dict #[e P "__module__" 298 (vs "bellwrite.errors" 239),e P "__qualname__" 300 (vs "TooGreat" 299),e P "__firstlineno__" 302 (.int 35 301),e P "__static_attributes__" 303 (vr 94)] 4),#[]⟩
def o51:Obj:=co #[vs "TooGreat" 293,vs "TooGreat" 294,vc 295,vi 35,vi 0,vi 0,vi 0,vi 0,vr 90,(.bool false),vi 181,vr 91,.none,.none,.none,.none,vi 296,vi 35,vc 297]
def o52:Obj:=⟨vy "frame",none,.plain,#[(some (vr 92)),(some (vr 3)),(some (vr 89)),none,(some (vs "bellwrite.errors" 239)),none,(some (vr 0))]⟩
def o53 (P:wC):Obj:=⟨vy "dict",none,(.dict #[e P "__module__" 298 (vs "bellwrite.errors" 239),e P "__firstlineno__" 302 (.int 35 301),e P "__static_attributes__" 303 (vr 94),e P "__doc__" 304 .none] 2),#[]⟩
def o54:Obj:=⟨vy "type",none,(.cls ⟨"TooGreat",[vr 59],[vr 96,vr 59,vy "ValueError",vy "Exception",vy "BaseException",vy "object"],95,"TooGreat",true,[],[],false,none,false⟩),#[(some (vr 87)),none,(some (vs "TooGreat" 291)),(some (vs "TooGreat" 299)),(some (vb "ValueError.__new__")),(some (.bool true))]⟩
def o55:Obj:=⟨vy "super",none,(.fields #[vr 96,vr 96,vr 96]),#[]⟩
def o56:Obj:=⟨vy "builtin_function_or_method",none,(.fields #[vb "object.__init_subclass__",vr 96]),#[]⟩
def o57 (P:wC):Obj:=⟨vy "dict",none,(.dict #[e P "__module__" 314 (vs "bellwrite.errors" 239),e P "__qualname__" 316 (vs "TooMany" 315),e P "__firstlineno__" 318 (.int 37 317),e P "__static_attributes__" 319 (vr 106)] 4),#[]⟩
def o58:Obj:=co #[vs "TooMany" 309,vs "TooMany" 310,vc 311,vi 37,vi 0,vi 0,vi 0,vi 0,vr 102,(.bool false),vi 181,vr 103,.none,.none,.none,.none,vi 312,vi 37,vc 313]
def o59:Obj:=⟨vy "frame",none,.plain,#[(some (vr 104)),(some (vr 3)),(some (vr 101)),none,(some (vs "bellwrite.errors" 239)),none,(some (vr 0))]⟩
def o60 (P:wC):Obj:=⟨vy "dict",none,(.dict #[e P "__module__" 314 (vs "bellwrite.errors" 239),e P "__firstlineno__" 318 (.int 37 317),e P "__static_attributes__" 319 (vr 106),e P "__doc__" 320 .none] 2),#[]⟩
def o61:Obj:=⟨vy "type",none,(.cls ⟨"TooMany",[vr 59],[vr 108,vr 59,vy "ValueError",vy "Exception",vy "BaseException",vy "object"],107,"TooMany",true,[],[],false,none,false⟩),#[(some (vr 99)),none,(some (vs "TooMany" 307)),(some (vs "TooMany" 315)),(some (vb "ValueError.__new__")),(some (.bool true))]⟩
def o62:Obj:=⟨vy "super",none,(.fields #[vr 108,vr 108,vr 108]),#[]⟩
def o63:Obj:=⟨vy "builtin_function_or_method",none,(.fields #[vb "object.__init_subclass__",vr 108]),#[]⟩
def o64 (P:wC):Obj:=⟨vy "dict",none,(.dict #[e P "__module__" 330 (vs "bellwrite.errors" 239),e P "__qualname__" 332 (vs "NoNote" 331),e P "__firstlineno__" 334 (.int 39 333),e P "__static_attributes__" 335 (vr 118)] 4),#[]⟩
def o65:Obj:=co #[vs "NoNote" 325,vs "NoNote" 326,vc 327,vi 39,vi 0,vi 0,vi 0,vi 0,vr 114,(.bool false),vi 181,vr 115,.none,.none,.none,.none,vi 328,vi 39,vc 329]
def o66:Obj:=⟨vy "frame",none,.plain,#[(some (vr 116)),(some (vr 3)),(some (vr 113)),none,(some (vs "bellwrite.errors" 239)),none,(some (vr 0))]⟩
def o67 (P:wC):Obj:=⟨vy "dict",none,(.dict #[e P "__module__" 330 (vs "bellwrite.errors" 239),e P "__firstlineno__" 334 (.int 39 333),e P "__static_attributes__" 335 (vr 118),e P "__doc__" 336 .none] 2),#[]⟩
def o68:Obj:=⟨vy "type",none,(.cls ⟨"NoNote",[vr 59],[vr 120,vr 59,vy "ValueError",vy "Exception",vy "BaseException",vy "object"],119,"NoNote",true,[],[],false,none,false⟩),#[(some (vr 111)),none,(some (vs "NoNote" 323)),(some (vs "NoNote" 331)),(some (vb "ValueError.__new__")),(some (.bool true))]⟩
def o69:Obj:=⟨vy "super",none,(.fields #[vr 120,vr 120,vr 120]),#[]⟩
def o70:Obj:=⟨vy "builtin_function_or_method",none,(.fields #[vb "object.__init_subclass__",vr 120]),#[]⟩
def o71 (P:wC):Obj:=⟨vy "dict",none,(.dict #[e P "__module__" 346 (vs "bellwrite.errors" 239),e P "__qualname__" 348 (vs "NoOrder" 347),e P "__firstlineno__" 350 (.int 41 349),e P "__static_attributes__" 351 (vr 130)] 4),#[]⟩
def o72:Obj:=co #[vs "NoOrder" 341,vs "NoOrder" 342,vc 343,vi 41,vi 0,vi 0,vi 0,vi 0,vr 126,(.bool false),vi 181,vr 127,.none,.none,.none,.none,vi 344,vi 41,vc 345]
def o73:Obj:=⟨vy "frame",none,.plain,#[(some (vr 128)),(some (vr 3)),(some (vr 125)),none,(some (vs "bellwrite.errors" 239)),none,(some (vr 0))]⟩
def o74 (P:wC):Obj:=⟨vy "dict",none,(.dict #[e P "__module__" 346 (vs "bellwrite.errors" 239),e P "__firstlineno__" 350 (.int 41 349),e P "__static_attributes__" 351 (vr 130),e P "__doc__" 352 .none] 2),#[]⟩
def o75:Obj:=⟨vy "type",none,(.cls ⟨"NoOrder",[vr 59],[vr 132,vr 59,vy "ValueError",vy "Exception",vy "BaseException",vy "object"],131,"NoOrder",true,[],[],false,none,false⟩),#[(some (vr 123)),none,(some (vs "NoOrder" 339)),(some (vs "NoOrder" 347)),(some (vb "ValueError.__new__")),(some (.bool true))]⟩
def o76:Obj:=⟨vy "super",none,(.fields #[vr 132,vr 132,vr 132]),#[]⟩
def o77:Obj:=⟨vy "builtin_function_or_method",none,(.fields #[vb "object.__init_subclass__",vr 132]),#[]⟩
def o78 (P:wC):Obj:=⟨vy "dict",none,(.dict #[e P "__module__" 362 (vs "bellwrite.errors" 239),e P "__qualname__" 364 (vs "NoName" 363),e P "__firstlineno__" 366 (.int 43 365),e P "__static_attributes__" 367 (vr 142)] 4),#[]⟩
def o79:Obj:=co #[vs "NoName" 357,vs "NoName" 358,vc 359,vi 43,vi 0,vi 0,vi 0,vi 0,vr 138,(.bool false),vi 181,vr 139,.none,.none,.none,.none,vi 360,vi 43,vc 361]
def o80:Obj:=⟨vy "frame",none,.plain,#[(some (vr 140)),(some (vr 3)),(some (vr 137)),none,(some (vs "bellwrite.errors" 239)),none,(some (vr 0))]⟩
def o81 (P:wC):Obj:=⟨vy "dict",none,(.dict #[e P "__module__" 362 (vs "bellwrite.errors" 239),e P "__firstlineno__" 366 (.int 43 365),e P "__static_attributes__" 367 (vr 142),e P "__doc__" 368 .none] 2),#[]⟩
def o82:Obj:=⟨vy "type",none,(.cls ⟨"NoName",[vr 59],[vr 144,vr 59,vy "ValueError",vy "Exception",vy "BaseException",vy "object"],143,"NoName",true,[],[],false,none,false⟩),#[(some (vr 135)),none,(some (vs "NoName" 355)),(some (vs "NoName" 363)),(some (vb "ValueError.__new__")),(some (.bool true))]⟩
def o83:Obj:=⟨vy "super",none,(.fields #[vr 144,vr 144,vr 144]),#[]⟩
def o84:Obj:=⟨vy "builtin_function_or_method",none,(.fields #[vb "object.__init_subclass__",vr 144]),#[]⟩
def o85:Obj:=go (t 16) "box_of" "box_of"
def o86:Obj:=co #[vs "box_of" 373,vs "box_of" 374,vc 375,vi 46,vi 2,vi 0,vi 0,vi 3,vr 147,(.bool true),vi 181,vr 148,.none,.none,.none,vr 149,vi 376,vi 46,vc 377]
def o87:Obj:=fo (t 16) "box_of" "box_of" (vs "bellwrite.boxes" 371) 150
def o88:Obj:=go (t 17) "bell_row" "bell_row"
def o89:Obj:=co #[vs "bell_row" 379,vs "bell_row" 380,vc 381,vi 48,vi 2,vi 0,vi 0,vi 3,vr 152,(.bool true),vi 181,vr 153,.none,.none,.none,vr 154,vi 382,vi 48,vc 383]
def o90:Obj:=fo (t 17) "bell_row" "bell_row" (vs "bellwrite.boxes" 371) 155
def o91:Obj:=tp #[vs "reading" 388,vs "late" 389,vs "box" 390,vs "before" 391,vs "part" 392]
def o92:Obj:=go (t 18) "heard_box" "heard_box"
def o93:Obj:=co #[vs "heard_box" 385,vs "heard_box" 386,vc 387,vi 50,vi 2,vi 0,vi 0,vi 3,vr 157,(.bool true),vi 181,vr 158,.none,vr 159,vr 160,vr 161,vi 393,vi 50,vc 394]
def o94:Obj:=fo (t 18) "heard_box" "heard_box" (vs "bellwrite.boxes" 371) 162
def o95:Obj:=tp #[vs "turns" 399,vs "bells" 400,vs "late" 401]
def o96:Obj:=go (t 19) "box_count" "box_count"
def o97:Obj:=co #[vs "box_count" 396,vs "box_count" 397,vc 398,vi 58,vi 3,vi 0,vi 0,vi 3,vr 164,(.bool true),vi 181,vr 165,.none,vr 166,vr 167,vr 168,vi 402,vi 58,vc 403]
def o98:Obj:=fo (t 19) "box_count" "box_count" (vs "bellwrite.boxes" 371) 169
def o99:Obj:=tp #[vs "turns" 408,vs "bells" 409,vs "late" 410]
def o100:Obj:=go (t 20) "greatest_part" "greatest_part"
def ztc:Obj:=co #[vs "greatest_part" 405,vs "greatest_part" 406,vc 407,vi 62,vi 3,vi 0,vi 0,vi 3,vr 171,(.bool true),vi 181,vr 172,.none,vr 173,vr 174,vr 175,vi 411,vi 62,vc 412]
def ztd:Obj:=fo (t 20) "greatest_part" "greatest_part" (vs "bellwrite.boxes" 371) 176
def zte:Obj:=tp #[vs "bells" 419,vs "late" 420,vs "many" 421,vs "greatest" 422]
def ztf:Obj:=go (t 22) "shortest_frame" "shortest_frame"
def ztg:Obj:=co #[vs "shortest_frame" 416,vs "shortest_frame" 417,vc 418,vi 65,vi 3,vi 0,vi 0,vi 3,vr 178,(.bool true),vi 181,vr 179,.none,vr 180,vr 181,vr 182,vi 423,vi 65,vc 424]
def zth:Obj:=fo (t 22) "shortest_frame" "shortest_frame" (vs "bellwrite.frames" 414) 183
def zti:Obj:=tp #[vs "turns" 429,vs "late" 430,vs "most" 431,vs "best" 432,vs "greatest" 433,vs "bells" 434,vs "many" 435]
def ztj:Obj:=go (t 23) "best_bells" "best_bells"
def ztk:Obj:=co #[vs "best_bells" 426,vs "best_bells" 427,vc 428,vi 72,vi 3,vi 0,vi 0,vi 3,vr 185,(.bool true),vi 181,vr 186,.none,vr 187,vr 188,vr 189,vi 436,vi 72,vc 437]
def ztl:Obj:=fo (t 23) "best_bells" "best_bells" (vs "bellwrite.frames" 414) 190
def o111:Obj:=tp #[vs "many" 444,vs "late" 445,vs "turn_cost" 446,vs "bell_cost" 447,vs "most" 448,vs "best" 449,vs "bells" 450,vs "turns" 451,vs "cost" 452]
def ztm:Obj:=go (t 25) "cheapest" "cheapest"
def ztn:Obj:=co #[vs "cheapest" 441,vs "cheapest" 442,vc 443,vi 82,vi 5,vi 0,vi 0,vi 3,vr 192,(.bool true),vi 181,vr 193,.none,vr 194,vr 195,vr 196,vi 453,vi 82,vc 454]
def zto:Obj:=fo (t 25) "cheapest" "cheapest" (vs "bellwrite.costs" 439) 197
def ztp:Obj:=go (t 27) "box_number" "box_number"
def ztq:Obj:=co #[vs "box_number" 458,vs "box_number" 459,vc 460,vi 92,vi 1,vi 0,vi 0,vi 3,vr 199,(.bool true),vi 181,vr 200,.none,.none,.none,vr 201,vi 461,vi 92,vc 462]
def ztr:Obj:=fo (t 27) "box_number" "box_number" (vs "bellwrite.messages" 456) 202
def zts:Obj:=tp #[vs "message" 467,vs "bells" 468,vs "box" 469,vs "left" 470,vs "top" 471,vs "place" 472]
def ztt:Obj:=go (t 28) "box_of_message" "box_of_message"
def ztu:Obj:=co #[vs "box_of_message" 464,vs "box_of_message" 465,vc 466,vi 94,vi 2,vi 0,vi 0,vi 3,vr 204,(.bool true),vi 181,vr 205,.none,vr 206,vr 207,vr 208,vi 473,vi 94,vc 474]
def ztv:Obj:=fo (t 28) "box_of_message" "box_of_message" (vs "bellwrite.messages" 456) 209
def ztw:Obj:=tp #[vs "message" 479,vs "turns" 480,vs "bells" 481,vs "late" 482]
def ztx:Obj:=go (t 29) "written" "written"
def zty:Obj:=co #[vs "written" 476,vs "written" 477,vc 478,vi 105,vi 4,vi 0,vi 0,vi 3,vr 211,(.bool true),vi 181,vr 212,.none,vr 213,vr 214,vr 215,vi 483,vi 105,vc 484]
def ztz:Obj:=fo (t 29) "written" "written" (vs "bellwrite.messages" 456) 216
def ztA:Obj:=tp #[vs "reading" 489,vs "turns" 490,vs "bells" 491,vs "late" 492,vs "message" 493]
def ztB:Obj:=go (t 30) "read" "read"
def ztC:Obj:=co #[vs "read" 486,vs "read" 487,vc 488,vi 109,vi 4,vi 0,vi 0,vi 3,vr 218,(.bool true),vi 181,vr 219,.none,vr 220,vr 221,vr 222,vi 494,vi 109,vc 495]
def ztD:Obj:=fo (t 30) "read" "read" (vs "bellwrite.messages" 456) 223
def ztE:Obj:=tp #[vs "turns" 502,vs "bells" 503,vs "late" 504]
def ztF:Obj:=go (t 32) "keyed_count" "keyed_count"
def ztG:Obj:=co #[vs "keyed_count" 499,vs "keyed_count" 500,vc 501,vi 117,vi 3,vi 0,vi 0,vi 3,vr 225,(.bool true),vi 181,vr 226,.none,vr 227,vr 228,vr 229,vi 505,vi 117,vc 506]
def ztH:Obj:=fo (t 32) "keyed_count" "keyed_count" (vs "bellwrite.lags" 497) 230
def ztI:Obj:=go (t 33) "keyed" "keyed"
def ztJ:Obj:=co #[vs "keyed" 508,vs "keyed" 509,vc 510,vi 121,vi 4,vi 0,vi 0,vi 3,vr 232,(.bool true),vi 181,vr 233,.none,.none,.none,vr 234,vi 511,vi 121,vc 512]
def ztK:Obj:=fo (t 33) "keyed" "keyed" (vs "bellwrite.lags" 497) 235
def ztL:Obj:=go (t 34) "unkeyed" "unkeyed"
def ztM:Obj:=co #[vs "unkeyed" 514,vs "unkeyed" 515,vc 516,vi 126,vi 4,vi 0,vi 0,vi 3,vr 237,(.bool true),vi 181,vr 238,.none,.none,.none,vr 239,vi 517,vi 126,vc 518]
def ztN:Obj:=fo (t 34) "unkeyed" "unkeyed" (vs "bellwrite.lags" 497) 240
def ztO:Obj:=tp #[vs "turns" 525,vs "bells" 526]
def ztP:Obj:=go (t 36) "refuse_silent" "refuse_silent"
def ztQ:Obj:=co #[vs "refuse_silent" 522,vs "refuse_silent" 523,vc 524,vi 133,vi 2,vi 0,vi 0,vi 3,vr 242,(.bool true),vi 181,vr 243,.none,vr 244,vr 245,vr 246,vi 527,vi 133,vc 528]
def ztR:Obj:=fo (t 36) "refuse_silent" "refuse_silent" (vs "bellwrite.talks" 520) 247
def ztS:Obj:=go (t 37) "rung" "rung"
def ztT:Obj:=co #[vs "rung" 530,vs "rung" 531,vc 532,vi 136,vi 4,vi 0,vi 0,vi 3,vr 249,(.bool true),vi 181,vr 250,.none,.none,.none,vr 251,vi 533,vi 136,vc 534]
def ztU:Obj:=fo (t 37) "rung" "rung" (vs "bellwrite.talks" 520) 252
def ztV:Obj:=tp #[vs "reading" 539,vs "turns" 540,vs "late" 541,vs "length" 542,vs "heard_of" 543,vs "turn" 544]
def ztW:Obj:=go (t 38) "by_messages" "by_messages"
def ztX:Obj:=co #[vs "by_messages" 536,vs "by_messages" 537,vc 538,vi 143,vi 3,vi 0,vi 0,vi 3,vr 254,(.bool true),vi 181,vr 255,.none,vr 256,vr 257,vr 258,vi 545,vi 143,vc 546]
def ztY:Obj:=fo (t 38) "by_messages" "by_messages" (vs "bellwrite.talks" 520) 259
def ztZ:Obj:=tp #[vs "note" 559,vs "number" 560,vs "sign" 561,vs "place" 562]
def zt0:Obj:=go (t 43) "note_number" "note_number"
def zt1:Obj:=co #[vs "note_number" 556,vs "note_number" 557,vc 558,vi 153,vi 1,vi 0,vi 0,vi 3,vr 261,(.bool true),vi 181,vr 262,.none,vr 263,vr 264,vr 265,vi 563,vi 153,vc 564]
def zt2:Obj:=fo (t 43) "note_number" "note_number" (vs "bellwrite.notes" 548) 266
def zt3:Obj:=tp #[vs "number" 569,vs "signs" 570,vs "left" 571]
def zt4:Obj:=go (t 44) "note_of" "note_of"
def zt5:Obj:=co #[vs "note_of" 566,vs "note_of" 567,vc 568,vi 163,vi 1,vi 0,vi 0,vi 3,vr 268,(.bool true),vi 181,vr 269,.none,vr 270,vr 271,vr 272,vi 572,vi 163,vc 573]
def zt6:Obj:=fo (t 44) "note_of" "note_of" (vs "bellwrite.notes" 548) 273
def zt7:Obj:=tp #[vs "number" 578,vs "base" 579,vs "figures" 580,vs "left" 581]
def zt8:Obj:=go (t 45) "parts" "parts"
def zt9:Obj:=co #[vs "parts" 575,vs "parts" 576,vc 577,vi 175,vi 2,vi 0,vi 0,vi 3,vr 275,(.bool true),vi 181,vr 276,.none,vr 277,vr 278,vr 279,vi 582,vi 175,vc 583]
def zua:Obj:=fo (t 45) "parts" "parts" (vs "bellwrite.notes" 548) 280
def zub:Obj:=go (t 46) "number_of_parts" "number_of_parts"
def zuc:Obj:=co #[vs "number_of_parts" 585,vs "number_of_parts" 586,vc 587,vi 182,vi 2,vi 0,vi 0,vi 3,vr 282,(.bool true),vi 181,vr 283,.none,.none,.none,vr 284,vi 588,vi 182,vc 589]
def zud:Obj:=fo (t 46) "number_of_parts" "number_of_parts" (vs "bellwrite.notes" 548) 285
def zue:Obj:=go (t 47) "sent" "sent"
def zuf:Obj:=co #[vs "sent" 591,vs "sent" 592,vc 593,vi 191,vi 4,vi 0,vi 0,vi 3,vr 287,(.bool true),vi 181,vr 288,.none,.none,.none,vr 289,vi 594,vi 191,vc 595]
def zug:Obj:=fo (t 47) "sent" "sent" (vs "bellwrite.notes" 548) 290
def zuh:Obj:=go (t 48) "received" "received"
def zui:Obj:=co #[vs "received" 597,vs "received" 598,vc 599,vi 199,vi 4,vi 0,vi 0,vi 3,vr 292,(.bool true),vi 181,vr 293,.none,.none,.none,vr 294,vi 600,vi 199,vc 601]
def zuj:Obj:=fo (t 48) "received" "received" (vs "bellwrite.notes" 548) 295
def zuk:Obj:=tp #[vs "reading" 606,vs "turns" 607,vs "bells" 608,vs "late" 609,vs "heard_of" 610,vs "messages" 611,vs "message" 612]
def zul:Obj:=go (t 49) "messages_ahead_of_end" "messages_ahead_of_end"
def zum:Obj:=co #[vs "messages_ahead_of_end" 603,vs "messages_ahead_of_end" 604,vc 605,vi 206,vi 4,vi 0,vi 0,vi 3,vr 297,(.bool true),vi 181,vr 298,.none,vr 299,vr 300,vr 301,vi 613,vi 206,vc 614]
def zun:Obj:=fo (t 49) "messages_ahead_of_end" "messages_ahead_of_end" (vs "bellwrite.notes" 548) 302
def zuo:Obj:=go (t 57) "is_made_of" "is_made_of"
def zup:Obj:=co #[vs "is_made_of" 630,vs "is_made_of" 631,vc 632,vi 221,vi 3,vi 0,vi 0,vi 3,vr 304,(.bool true),vi 181,vr 305,.none,.none,.none,vr 306,vi 633,vi 221,vc 634]
def zuq:Obj:=fo (t 57) "is_made_of" "is_made_of" (vs "bellwrite.words" 616) 307
def zur:Obj:=tp #[vs "word" 639]
def zus:Obj:=go (t 58) "name_in" "name_in"
def zut:Obj:=co #[vs "name_in" 636,vs "name_in" 637,vc 638,vi 223,vi 1,vi 0,vi 0,vi 3,vr 309,(.bool true),vi 181,vr 310,.none,vr 311,vr 312,vr 313,vi 640,vi 223,vc 641]
def zuu:Obj:=fo (t 58) "name_in" "name_in" (vs "bellwrite.words" 616) 314
def zuv:Obj:=tp #[vs "word" 646,vs "most" 647]
def zuw:Obj:=go (t 59) "figures_in" "figures_in"
def zux:Obj:=co #[vs "figures_in" 643,vs "figures_in" 644,vc 645,vi 227,vi 2,vi 0,vi 0,vi 3,vr 316,(.bool true),vi 181,vr 317,.none,vr 318,vr 319,vr 320,vi 648,vi 227,vc 649]
def zuy:Obj:=fo (t 59) "figures_in" "figures_in" (vs "bellwrite.words" 616) 321
def zuz:Obj:=tp #[vs "word" 654]
def zuA:Obj:=go (t 60) "number_in" "number_in"
def zuB:Obj:=co #[vs "number_in" 651,vs "number_in" 652,vc 653,vi 231,vi 1,vi 0,vi 0,vi 3,vr 323,(.bool true),vi 181,vr 324,.none,vr 325,vr 326,vr 327,vi 655,vi 231,vc 656]
def zuC:Obj:=fo (t 60) "number_in" "number_in" (vs "bellwrite.words" 616) 328
def zuD:Obj:=tp #[vs "word" 661]
def zuE:Obj:=go (t 61) "message_in" "message_in"
def zuF:Obj:=co #[vs "message_in" 658,vs "message_in" 659,vc 660,vi 233,vi 1,vi 0,vi 0,vi 3,vr 330,(.bool true),vi 181,vr 331,.none,vr 332,vr 333,vr 334,vi 662,vi 233,vc 663]
def zuG:Obj:=fo (t 61) "message_in" "message_in" (vs "bellwrite.words" 616) 335
def zuH:Obj:=tp #[vs "word" 668,vs "bells" 669]
def zuI:Obj:=go (t 62) "bells_in" "bells_in"
def zuJ:Obj:=co #[vs "bells_in" 665,vs "bells_in" 666,vc 667,vi 235,vi 1,vi 0,vi 0,vi 3,vr 337,(.bool true),vi 181,vr 338,.none,vr 339,vr 340,vr 341,vi 670,vi 235,vc 671]
def zuK:Obj:=fo (t 62) "bells_in" "bells_in" (vs "bellwrite.words" 616) 342
def zuL:Obj:=go (t 63) "turns_in" "turns_in"
def o200:Obj:=co #[vs "turns_in" 673,vs "turns_in" 674,vc 675,vi 240,vi 1,vi 0,vi 0,vi 3,vr 344,(.bool true),vi 181,vr 345,.none,.none,.none,vr 346,vi 676,vi 240,vc 677]
def zuM:Obj:=fo (t 63) "turns_in" "turns_in" (vs "bellwrite.words" 616) 347
def zuN:Obj:=tp #[vs "number" 682]
def zuO:Obj:=go (t 64) "number_told" "number_told"
def zuP:Obj:=co #[vs "number_told" 679,vs "number_told" 680,vc 681,vi 248,vi 1,vi 0,vi 0,vi 3,vr 349,(.bool true),vi 181,vr 350,.none,vr 351,vr 352,vr 353,vi 683,vi 248,vc 684]
def zuQ:Obj:=fo (t 64) "number_told" "number_told" (vs "bellwrite.words" 616) 354
def zuR:Obj:=go (t 65) "turns_told" "turns_told"
def zuS:Obj:=co #[vs "turns_told" 686,vs "turns_told" 687,vc 688,vi 250,vi 1,vi 0,vi 0,vi 3,vr 356,(.bool true),vi 181,vr 357,.none,.none,.none,vr 358,vi 689,vi 250,vc 690]
def zuT:Obj:=fo (t 65) "turns_told" "turns_told" (vs "bellwrite.words" 616) 359
def zuU (P:wC):Obj:=⟨vy "dict",none,(.dict #[e P "__module__" 701 (vs "bellwrite.desk" 692),e P "__qualname__" 703 (vs "Frame" 702),e P "__firstlineno__" 705 (.int 253 704),e P "__init__" 715 (vr 374),e P "__static_attributes__" 719 (vr 375)] 5),#[]⟩
def zuV:Obj:=⟨.none,none,(.fields #[vi 255,vi 4,vr 373]),#[]⟩
def zuW:Obj:=co #[vs "Frame" 696,vs "Frame" 697,vc 698,vi 253,vi 0,vi 0,vi 0,vi 0,vr 364,(.bool false),vi 181,vr 365,.none,.none,.none,.none,vi 699,vi 253,vc 700]
def zuX:Obj:=⟨vy "frame",none,.plain,#[(some (vr 366)),(some (vr 3)),(some (vr 363)),none,(some (vs "bellwrite.desk" 692)),none,(some (vr 0))]⟩
def zuY:Obj:=tp #[vs "self" 709,vs "turns" 710,vs "bells" 711,vs "late" 712]
def zuZ:Obj:=go (u 67 0) "__init__" "Frame.__init__"
def zu0:Obj:=co #[vs "__init__" 706,vs "Frame.__init__" 707,vc 708,vi 255,vi 4,vi 0,vi 0,vi 3,vr 368,(.bool true),vi 181,vr 369,.none,vr 370,vr 371,vr 372,vi 713,vi 255,vc 714]
def zu1:Obj:=fo (u 67 0) "__init__" "Frame.__init__" (vs "bellwrite.desk" 692) 373
def zu2:Obj:=tp #[vs "bells" 716,vs "late" 717,vs "turns" 718]
def zu3 (P:wC):Obj:=⟨vy "dict",none,(.dict #[e P "__module__" 701 (vs "bellwrite.desk" 692),e P "__firstlineno__" 705 (.int 253 704),e P "__init__" 715 (vr 374),e P "__static_attributes__" 719 (vr 375),e P "__dict__" 721 (vr 378),e P "__weakref__" 723 (vr 379),e P "__doc__" 724 .none] 4),#[]⟩
def zu4:Obj:=⟨vy "type",none,(.cls ⟨"Frame",[vy "object"],[vr 377,vy "object"],376,"Frame",true,[],[],false,none,false⟩),#[none,none,(some (vs "Frame" 694)),(some (vs "Frame" 702)),(some (vb "object.__new__")),(some (.bool true))]⟩
def zu5:Obj:=⟨vy "getset_descriptor",none,(.fields #[vs "__dict__" 720,vr 377,vb "function.__dict__",vb "function.__dict__#set"]),#[]⟩
def zu6:Obj:=⟨vy "getset_descriptor",none,(.fields #[vs "__weakref__" 722,vr 377,vb "ExceptionGroup.__weakref__",.none]),#[]⟩
def zu7:Obj:=⟨vy "super",none,(.fields #[vr 377,vr 377,vr 377]),#[]⟩
def zu8:Obj:=⟨vy "builtin_function_or_method",none,(.fields #[vb "object.__init_subclass__",vr 377]),#[]⟩
def zu9 (P:wC):Obj:=⟨vy "dict",none,(.dict #[e P "__module__" 734 (vs "bellwrite.desk" 692),e P "__qualname__" 736 (vs "Desk" 735),e P "__firstlineno__" 738 (.int 259 737),e P "__init__" 745 (vr 395),e P "told" 754 (vr 402),e P "keep" 765 (vr 409),e P "ring" 776 (vr 416),e P "listen" 787 (vr 423),e P "send_note" 796 (vr 430),e P "kept" 804 (vr 437),e P "__static_attributes__" 806 (vr 438)] 11),#[]⟩
def zva:Obj:=⟨.none,none,(.fields #[vi 261,vi 4,vr 394,vi 264,vi 4,vr 401,vi 278,vi 4,vr 408,vi 285,vi 4,vr 415,vi 293,vi 4,vr 422,vi 303,vi 4,vr 429,vi 307,vi 4,vr 436]),#[]⟩
def zvb:Obj:=co #[vs "Desk" 729,vs "Desk" 730,vc 731,vi 259,vi 0,vi 0,vi 0,vi 0,vr 385,(.bool false),vi 181,vr 386,.none,.none,.none,.none,vi 732,vi 259,vc 733]
def zvc:Obj:=⟨vy "frame",none,.plain,#[(some (vr 387)),(some (vr 3)),(some (vr 384)),none,(some (vs "bellwrite.desk" 692)),none,(some (vr 0))]⟩
def zvd:Obj:=tp #[vs "self" 742]
def zve:Obj:=go (u 68 0) "__init__" "Desk.__init__"
def zvf:Obj:=co #[vs "__init__" 739,vs "Desk.__init__" 740,vc 741,vi 261,vi 1,vi 0,vi 0,vi 3,vr 389,(.bool true),vi 181,vr 390,.none,vr 391,vr 392,vr 393,vi 743,vi 261,vc 744]
def zvg:Obj:=fo (u 68 0) "__init__" "Desk.__init__" (vs "bellwrite.desk" 692) 394
def zvh:Obj:=tp #[vs "self" 749,vs "order" 750,vs "words" 751]
def zvi:Obj:=go (u 68 1) "told" "Desk.told"
def zvj:Obj:=co #[vs "told" 746,vs "Desk.told" 747,vc 748,vi 264,vi 2,vi 0,vi 0,vi 3,vr 396,(.bool true),vi 181,vr 397,.none,vr 398,vr 399,vr 400,vi 752,vi 264,vc 753]
def zvk:Obj:=fo (u 68 1) "told" "Desk.told" (vs "bellwrite.desk" 692) 401
def zvl:Obj:=tp #[vs "self" 758,vs "words" 759,vs "name" 760,vs "frame" 761,vs "count" 762]
def zvm:Obj:=go (u 68 2) "keep" "Desk.keep"
def zvn:Obj:=co #[vs "keep" 755,vs "Desk.keep" 756,vc 757,vi 278,vi 2,vi 0,vi 0,vi 3,vr 403,(.bool true),vi 181,vr 404,.none,vr 405,vr 406,vr 407,vi 763,vi 278,vc 764]
def zvo:Obj:=fo (u 68 2) "keep" "Desk.keep" (vs "bellwrite.desk" 692) 408
def zvp:Obj:=tp #[vs "self" 769,vs "words" 770,vs "name" 771,vs "message" 772,vs "frame" 773]
def zvq:Obj:=go (u 68 3) "ring" "Desk.ring"
def zvr:Obj:=co #[vs "ring" 766,vs "Desk.ring" 767,vc 768,vi 285,vi 2,vi 0,vi 0,vi 3,vr 410,(.bool true),vi 181,vr 411,.none,vr 412,vr 413,vr 414,vi 774,vi 285,vc 775]
def zvs:Obj:=fo (u 68 3) "ring" "Desk.ring" (vs "bellwrite.desk" 692) 415
def zvt:Obj:=tp #[vs "self" 780,vs "words" 781,vs "name" 782,vs "reading" 783,vs "frame" 784]
def zvu:Obj:=go (u 68 4) "listen" "Desk.listen"
def zvv:Obj:=co #[vs "listen" 777,vs "Desk.listen" 778,vc 779,vi 293,vi 2,vi 0,vi 0,vi 3,vr 417,(.bool true),vi 181,vr 418,.none,vr 419,vr 420,vr 421,vi 785,vi 293,vc 786]
def zvw:Obj:=fo (u 68 4) "listen" "Desk.listen" (vs "bellwrite.desk" 692) 422
def zvx:Obj:=tp #[vs "self" 791,vs "words" 792,vs "frame" 793]
def zvy:Obj:=go (u 68 5) "send_note" "Desk.send_note"
def zvz:Obj:=co #[vs "send_note" 788,vs "Desk.send_note" 789,vc 790,vi 303,vi 2,vi 0,vi 0,vi 3,vr 424,(.bool true),vi 181,vr 425,.none,vr 426,vr 427,vr 428,vi 794,vi 303,vc 795]
def zvA:Obj:=fo (u 68 5) "send_note" "Desk.send_note" (vs "bellwrite.desk" 692) 429
def zvB:Obj:=tp #[vs "self" 800,vs "name" 801]
def zvC:Obj:=go (u 68 6) "kept" "Desk.kept"
def zvD:Obj:=co #[vs "kept" 797,vs "Desk.kept" 798,vc 799,vi 307,vi 2,vi 0,vi 0,vi 3,vr 431,(.bool true),vi 181,vr 432,.none,vr 433,vr 434,vr 435,vi 802,vi 307,vc 803]
def zvE:Obj:=fo (u 68 6) "kept" "Desk.kept" (vs "bellwrite.desk" 692) 436
def zvF:Obj:=tp #[vs "frames" 805]
def zvG (P:wC):Obj:=⟨vy "dict",none,(.dict #[e P "__module__" 734 (vs "bellwrite.desk" 692),e P "__firstlineno__" 738 (.int 259 737),e P "__init__" 745 (vr 395),e P "told" 754 (vr 402),e P "keep" 765 (vr 409),e P "ring" 776 (vr 416),e P "listen" 787 (vr 423),e P "send_note" 796 (vr 430),e P "kept" 804 (vr 437),e P "__static_attributes__" 806 (vr 438),e P "__dict__" 808 (vr 441),e P "__weakref__" 810 (vr 442),e P "__doc__" 811 .none] 4),#[]⟩
def zvH:Obj:=⟨vy "type",none,(.cls ⟨"Desk",[vy "object"],[vr 440,vy "object"],439,"Desk",true,[],[],false,none,false⟩),#[none,none,(some (vs "Desk" 727)),(some (vs "Desk" 735)),(some (vb "object.__new__")),(some (.bool true))]⟩
def zvI:Obj:=⟨vy "getset_descriptor",none,(.fields #[vs "__dict__" 807,vr 440,vb "function.__dict__",vb "function.__dict__#set"]),#[]⟩
def zvJ:Obj:=⟨vy "getset_descriptor",none,(.fields #[vs "__weakref__" 809,vr 440,vb "ExceptionGroup.__weakref__",.none]),#[]⟩
def zvK:Obj:=⟨vy "super",none,(.fields #[vr 440,vr 440,vr 440]),#[]⟩
def zvL:Obj:=⟨vy "builtin_function_or_method",none,(.fields #[vb "object.__init_subclass__",vr 440]),#[]⟩
def zvM:Obj:=tp #[vs "frame" 817]
def zvN:Obj:=go (t 69) "count_of" "count_of"
def zvO:Obj:=co #[vs "count_of" 814,vs "count_of" 815,vc 816,vi 311,vi 1,vi 0,vi 0,vi 3,vr 445,(.bool true),vi 181,vr 446,.none,vr 447,vr 448,vr 449,vi 818,vi 311,vc 819]
def zvP:Obj:=fo (t 69) "count_of" "count_of" (vs "bellwrite.desk" 692) 450
def zvQ:Obj:=tp #[vs "reading" 824,vs "frame" 825]
def zvR:Obj:=go (t 70) "note_heard" "note_heard"
def zvS:Obj:=co #[vs "note_heard" 821,vs "note_heard" 822,vc 823,vi 313,vi 2,vi 0,vi 0,vi 3,vr 452,(.bool true),vi 181,vr 453,.none,vr 454,vr 455,vr 456,vi 826,vi 313,vc 827]
def zvT:Obj:=fo (t 70) "note_heard" "note_heard" (vs "bellwrite.desk" 692) 457
def zvU:Obj:=tp #[vs "words" 832]
def zvV:Obj:=go (t 71) "choice_told" "choice_told"
def zvW:Obj:=co #[vs "choice_told" 829,vs "choice_told" 830,vc 831,vi 317,vi 1,vi 0,vi 0,vi 3,vr 459,(.bool true),vi 181,vr 460,.none,vr 461,vr 462,vr 463,vi 833,vi 317,vc 834]
def zvX:Obj:=fo (t 71) "choice_told" "choice_told" (vs "bellwrite.desk" 692) 464
def zvY:Obj:=tp #[vs "words" 839,vs "many" 840,vs "late" 841,vs "found" 842,vs "cost" 843,vs "turns" 844,vs "bells" 845]
def zvZ:Obj:=go (t 72) "cheapest_told" "cheapest_told"
def zv0:Obj:=co #[vs "cheapest_told" 836,vs "cheapest_told" 837,vc 838,vi 325,vi 1,vi 0,vi 0,vi 3,vr 466,(.bool true),vi 181,vr 467,.none,vr 468,vr 469,vr 470,vi 846,vi 325,vc 847]
def zv1:Obj:=fo (t 72) "cheapest_told" "cheapest_told" (vs "bellwrite.desk" 692) 471
def zv2:Obj:=tp #[vs "script" 854,vs "k" 855]
def zv3:Obj:=go (t 74) "_law_cell_at" "_law_cell_at"
def zv4:Obj:=co #[vs "_law_cell_at" 851,vs "_law_cell_at" 852,vc 853,vi 336,vi 2,vi 0,vi 0,vi 3,vr 473,(.bool true),vi 181,vr 474,.none,vr 475,vr 476,vr 477,vi 856,vi 336,vc 857]
def zv5:Obj:=fo (t 74) "_law_cell_at" "_law_cell_at" (vs "law_bellwrite_k79_whole_desk_goes_on" 849) 478
def zv6:Obj:=tp #[vs "cell" 862,vs "k" 863,vs "number" 864]
def zv7:Obj:=go (t 75) "_law_drawn" "_law_drawn"
def zv8:Obj:=co #[vs "_law_drawn" 859,vs "_law_drawn" 860,vc 861,vi 340,vi 2,vi 0,vi 0,vi 3,vr 480,(.bool true),vi 181,vr 481,.none,vr 482,vr 483,vr 484,vi 865,vi 340,vc 866]
def zv9:Obj:=fo (t 75) "_law_drawn" "_law_drawn" (vs "law_bellwrite_k79_whole_desk_goes_on" 849) 485
def zwa:Obj:=go (t 76) "_law_name" "_law_name"
def zwb:Obj:=co #[vs "_law_name" 868,vs "_law_name" 869,vc 870,vi 344,vi 1,vi 0,vi 0,vi 3,vr 487,(.bool true),vi 181,vr 488,.none,.none,.none,vr 489,vi 871,vi 344,vc 872]
def zwc:Obj:=fo (t 76) "_law_name" "_law_name" (vs "law_bellwrite_k79_whole_desk_goes_on" 849) 490
def zwd:Obj:=tp #[vs "cell" 877,vs "bells" 878,vs "late" 879,vs "turns" 880]
def zwe:Obj:=go (t 77) "_law_frame" "_law_frame"
def zwf:Obj:=co #[vs "_law_frame" 874,vs "_law_frame" 875,vc 876,vi 351,vi 1,vi 0,vi 0,vi 3,vr 492,(.bool true),vi 181,vr 493,.none,vr 494,vr 495,vr 496,vi 881,vi 351,vc 882]
def zwg:Obj:=fo (t 77) "_law_frame" "_law_frame" (vs "law_bellwrite_k79_whole_desk_goes_on" 849) 497
def zwh:Obj:=tp #[vs "e" 887,vs "kinds" 888]
def zwi:Obj:=go (t 78) "_law_kind" "_law_kind"
def zwj:Obj:=co #[vs "_law_kind" 884,vs "_law_kind" 885,vc 886,vi 358,vi 1,vi 0,vi 0,vi 3,vr 499,(.bool true),vi 181,vr 500,.none,vr 501,vr 502,vr 503,vi 889,vi 358,vc 890]
def zwk:Obj:=fo (t 78) "_law_kind" "_law_kind" (vs "law_bellwrite_k79_whole_desk_goes_on" 849) 504
def zwl:Obj:=tp #[vs "desk" 895,vs "order" 896,vs "caught" 897,vs "found" 898,vs "e" 899]
def zwm:Obj:=go (t 79) "_law_told" "_law_told"
def o300:Obj:=co #[vs "_law_told" 892,vs "_law_told" 893,vc 894,vi 369,vi 2,vi 0,vi 0,vi 3,vr 506,(.bool true),vi 181,vr 507,.none,vr 508,vr 509,vr 510,vi 900,vi 369,vc 901]
def zwn:Obj:=fo (t 79) "_law_told" "_law_told" (vs "law_bellwrite_k79_whole_desk_goes_on" 849) 511
def zwo:Obj:=tp #[vs "cell" 906,vs "name" 907,vs "way" 908,vs "some" 909]
def zwp:Obj:=go (t 80) "_law_wrong" "_law_wrong"
def zwq:Obj:=co #[vs "_law_wrong" 903,vs "_law_wrong" 904,vc 905,vi 381,vi 2,vi 0,vi 0,vi 3,vr 513,(.bool true),vi 181,vr 514,.none,vr 515,vr 516,vr 517,vi 910,vi 381,vc 911]
def zwr:Obj:=fo (t 80) "_law_wrong" "_law_wrong" (vs "law_bellwrite_k79_whole_desk_goes_on" 849) 518
def zws:Obj:=tp #[vs "desk" 916,vs "cell" 917,vs "one" 918,vs "other" 919,vs "way" 920,vs "found" 921,vs "due" 922]
def zwt:Obj:=go (t 81) "_law_search" "_law_search"
def zwu:Obj:=co #[vs "_law_search" 913,vs "_law_search" 914,vc 915,vi 390,vi 2,vi 0,vi 0,vi 3,vr 520,(.bool true),vi 181,vr 521,.none,vr 522,vr 523,vr 524,vi 923,vi 390,vc 924]
def zwv:Obj:=fo (t 81) "_law_search" "_law_search" (vs "law_bellwrite_k79_whole_desk_goes_on" 849) 525
def zww:Obj:=go (t 82) "_law_order" "_law_order"
def zwx:Obj:=co #[vs "_law_order" 926,vs "_law_order" 927,vc 928,vi 406,vi 3,vi 0,vi 0,vi 3,vr 527,(.bool true),vi 181,vr 528,.none,.none,.none,vr 529,vi 929,vi 406,vc 930]
def zwy:Obj:=fo (t 82) "_law_order" "_law_order" (vs "law_bellwrite_k79_whole_desk_goes_on" 849) 530
def zwz:Obj:=go (t 83) "_law_road" "_law_road"
def zwA:Obj:=co #[vs "_law_road" 932,vs "_law_road" 933,vc 934,vi 420,vi 3,vi 0,vi 0,vi 3,vr 532,(.bool true),vi 181,vr 533,.none,.none,.none,vr 534,vi 935,vi 420,vc 936]
def zwB:Obj:=fo (t 83) "_law_road" "_law_road" (vs "law_bellwrite_k79_whole_desk_goes_on" 849) 535
def zwC:Obj:=go (t 84) "_law_stands" "_law_stands"
def zwD:Obj:=co #[vs "_law_stands" 938,vs "_law_stands" 939,vc 940,vi 426,vi 5,vi 0,vi 0,vi 3,vr 537,(.bool true),vi 181,vr 538,.none,.none,.none,vr 539,vi 941,vi 426,vc 942]
def zwE:Obj:=fo (t 84) "_law_stands" "_law_stands" (vs "law_bellwrite_k79_whole_desk_goes_on" 849) 540
def zwF:Obj:=tp #[vs "script" 947,vs "desk" 948,vs "frames" 949,vs "cell" 950,vs "names" 951,vs "last" 952,vs "k" 953,vs "most" 954]
def zwG:Obj:=go (t 85) "law" "law"
def zwH:Obj:=co #[vs "law" 944,vs "law" 945,vc 946,vi 449,vi 1,vi 0,vi 0,vi 3,vr 542,(.bool true),vi 181,vr 543,.none,vr 544,vr 545,vr 546,vi 955,vi 449,vc 956]
def zwI:Obj:=fo (t 85) "law" "law" (vs "law_bellwrite_k79_whole_desk_goes_on" 849) 547
def hA (P:wC):jW:=⟨#[MT P,M3 P,M4 P,boot_o_3 P,M5 P,M6 P,M7 P,b7 P,b8 P,M8 P,Eu P,b7 P,b8 P,o1,o2],lf⟩
def tr0 (P:wC):BT:=(n (MT P) (n (M3 P) (n (boot_o_3 P) (y7 P) (y7 P)) (n (M6 P) (n (M8 P) z z) (n o1 z z))) (n (M4 P) (n (M5 P) (y8 P) (y8 P)) (n (M7 P) (n (Eu P) z z) (n o2 z z))))
def tr1 (P:wC):BT:=(n (MT P) (n (M3 P) (n (o3 P) (n (b7 P) (n (b7 P) (n o13 (n o35 (n (b8 P) (n (b8 P) (n o300 z z) z) (n o26 z z)) (n ztl (y7 P) (n zvM z z))) (n (o53 P) (n o91 (n (b7 P) (y8 P) z) (n zvr z z)) (n ztC (n zuN z z) (n zv5 z z)))) (n o22 (n (b8 P) (n (o81 P) (n (b7 P) (y7 P) z) (y7 P)) (n (b7 P) (n zuF z z) (n zvV z z))) (n o35 (n o100 (n zun z z) (y7 P)) (n ztL (n zuX z z) (y7 P))))) (n (b8 P) (n (b7 P) (n (o39 P) (n o35 (n ztZ (n zwr z z) z) (n zvd z z)) (n (b7 P) (n zuA z z) (y7 P))) (n (b8 P) (n (b7 P) (n zui z z) (n zvw z z)) (n ztH (n zuS z z) (y7 P)))) (n o28 (n o35 (n o87 (n zt8 (n zwA z z) z) (n zvm z z)) (n ztx (n zuK z z) (n zv0 z z))) (n (o67 P) (n ztg (n zur z z) (n (zvG P) z z)) (n ztQ (n zu2 z z) (n zwi z z)))))) (n (b7 P) (n o6 (n o16 (n (b8 P) (n (o74 P) (n ztX (n zwo z z) z) (n zvb z z)) (n (b7 P) (y7 P) (n zvP z z))) (n o35 (n o94 (n zug (n zwH z z) z) (n zvt z z)) (n ztE (n zuQ z z) (y7 P)))) (n o26 (n (o46 P) (n (b7 P) (n (b7 P) (n zwy z z) z) (y7 P)) (n (b7 P) (n zuH z z) (y8 P))) (n (b8 P) (n (b8 P) (n zup z z) (n zvC z z)) (n (b8 P) (y7 P) (y7 P))))) (n o11 (n (b7 P) (n o35 (n (b8 P) (n zt2 (y7 P) z) (n zvg z z)) (n ztr (y8 P) (y7 P))) (n (o60 P) (n (b7 P) (n zuk z z) (y7 P)) (n ztJ (n (zuU P) z z) (n zwc z z)))) (n o31 (n (b8 P) (n o89 (n (b8 P) (n zwC z z) z) (y8 P)) (n (b8 P) (n o200 z z) (n zv2 z z))) (n o35 (n zti (n zuu z z) (n zvK z z)) (n ztS (n zu6 z z) (y8 P))))))) (n (M6 P) (n (M8 P) (n o5 (n o14 (n (o36 P) (n o73 (n (b7 P) (y7 P) z) (y7 P)) (n (b8 P) (n zux z z) (n zvN z z))) (n o55 (n o92 (n zue (y7 P) z) (y7 P)) (n (b7 P) (n zuO z z) (y8 P)))) (n o24 (n o45 (n o83 (n zt5 (n zww z z) z) (n zvj z z)) (n ztu (y7 P) (n zvX z z))) (n (o64 P) (n ztd (y8 P) (n zvB z z)) (n ztN (y8 P) (n zwf z z))))) (n (b7 P) (n o19 (n o41 (n (o78 P) (n zt0 (y8 P) z) (n zve z z)) (n ztp (n zuC z z) (n zvS z z))) (n o59 (n o97 (y7 P) (y8 P)) (n (b8 P) (y7 P) (n zwa z z)))) (n (b7 P) (n (o50 P) (n (b8 P) (n zua (y7 P) z) (n zvo z z)) (n ztz (y8 P) (y7 P))) (n o69 (n (b7 P) (n zus z z) (n zvI z z)) (n (b7 P) (n zu4 z z) (n zwk z z)))))) (n o1 (n o8 (n (b8 P) (n o38 (n o76 (n (b7 P) (n zwp z z) z) (y7 P)) (n ztn (n zuz z z) (y8 P))) (n (o57 P) (n (b8 P) (y8 P) (n zvu z z)) (n ztF (y8 P) (n zv8 z z)))) (n (b7 P) (n o48 (n o85 (n zt7 (y8 P) z) (n zvl z z)) (n ztw (n zuI z z) (y7 P))) (n o66 (n (b7 P) (y7 P) (n zvE z z)) (n (b7 P) (n zu0 z z) (n zwh z z))))) (n (b7 P) (n o21 (n (o43 P) (n o80 (n (b8 P) (n zwu z z) z) (y8 P)) (n (b8 P) (y7 P) (n zvU z z))) (n o62 (n o99 (n zul z z) (n zvz z z)) (n (b7 P) (n zuV z z) (y8 P)))) (n o33 (n o52 (n (b7 P) (n zuc (n zwE z z) z) (y7 P)) (n (b7 P) (y7 P) (n zv3 z z))) (n (o71 P) (n ztj (y8 P) (y7 P)) (n ztU (n zu8 z z) (y7 P)))))))) (n (M4 P) (n (M5 P) (n (b8 P) (n (b8 P) (n (b7 P) (n o26 (n o72 (n ztV (n zwn z z) z) (n (zu9 P) z z)) (n (b7 P) (n zuw z z) (y7 P))) (n o54 (n (b7 P) (n (b8 P) (n zwF z z) z) (n zvs z z)) (n ztD (y7 P) (y7 P)))) (n o23 (n o44 (n o82 (n zt4 (y8 P) z) (n zvi z z)) (n ztt (n zuG z z) (n zvW z z))) (n o26 (n ztc (y7 P) (y8 P)) (n ztM (y7 P) (n zwe z z))))) (n o9 (n o18 (n o40 (n o26 (n (b7 P) (y7 P) z) (y7 P)) (n (b8 P) (n zuB z z) (n zvR z z))) (n o58 (n o96 (n zuj z z) (y7 P)) (n (b7 P) (n zuT z z) (y8 P)))) (n o29 (n o26 (n (b7 P) (n zt9 (n zwB z z) z) (n zvn z z)) (n zty (y7 P) (n zv1 z z))) (n o68 (n zth (y7 P) (n zvH z z)) (n ztR (n (zu3 P) z z) (n zwj z z)))))) (n o4 (n o7 (n (b7 P) (n o37 (n o75 (n ztY (y7 P) z) (n zvc z z)) (n ztm (y8 P) (y7 P))) (n o26 (n (b7 P) (n (b7 P) (n zwI z z) z) (y7 P)) (n (b7 P) (y7 P) (n zv7 z z)))) (n (o27 P) (n o47 (n (b8 P) (n (b8 P) (y7 P) z) (y8 P)) (n (b8 P) (y7 P) (n zvY z z))) (n o65 (n zte (n zuq z z) (n zvD z z)) (n ztO (n zuZ z z) (y8 P))))) (n o12 (n (b8 P) (n o26 (n o79 (n (b7 P) (n zwt z z) z) (y7 P)) (n (b7 P) (n zuD z z) (y8 P))) (n o61 (n (b8 P) (y7 P) (n zvy z z)) (n ztK (y7 P) (y7 P)))) (n o32 (n o51 (n o90 (n zub (n zwD z z) z) (n zvp z z)) (n ztA (n zuM z z) (y7 P))) (n o26 (n (b7 P) (y7 P) (n zvL z z)) (n ztT (n zu7 z z) (n zwl z z))))))) (n (M7 P) (n (Eu P) (n (b7 P) (n o15 (n (b7 P) (n (b7 P) (n ztW (y8 P) z) (n zva z z)) (n o111 (n zuy z z) (n zvO z z))) (n o56 (n o93 (n zuf (n zwG z z) z) (y8 P)) (n (b8 P) (n zuP z z) (n zv6 z z)))) (n o25 (n (b7 P) (n o84 (n zt6 (n zwx z z) z) (n zvk z z)) (n ztv (y8 P) (y7 P))) (n (b7 P) (n (b7 P) (n zuo z z) (y7 P)) (n (b7 P) (n zuY z z) (n zwg z z))))) (n o10 (n o20 (n o42 (n (b7 P) (n zt1 (n zws z z) z) (n zvf z z)) (n ztq (y7 P) (n zvT z z))) (n (b7 P) (n o98 (y8 P) (n zvx z z)) (n ztI (n o26 z z) (n zwb z z)))) (n (o30 P) (n (b7 P) (n o88 (n (b7 P) (y8 P) z) (y7 P)) (n (b7 P) (n zuL z z) (y8 P))) (n o70 (n (b8 P) (n zut z z) (n zvJ z z)) (n (b8 P) (n zu5 z z) (y7 P)))))) (n o2 (n (b7 P) (n o17 (n (b7 P) (n o77 (n (b8 P) (n zwq z z) z) (y8 P)) (n zto (y7 P) (n zvQ z z))) (n (b7 P) (n o95 (n zuh z z) (n zvv z z)) (n ztG (n zuR z z) (n zv9 z z)))) (n (b8 P) (n o49 (n o86 (n (b7 P) (n zwz z z) z) (y7 P)) (n (b7 P) (n zuJ z z) (n zvZ z z))) (n (b7 P) (n ztf (y8 P) (n zvF z z)) (n ztP (n zu1 z z) (y7 P))))) (n (b8 P) (n (b7 P) (n (b7 P) (n (b7 P) (n zt3 (n zwv z z) z) (n zvh z z)) (n zts (n zuE z z) (y7 P))) (n o63 (n (b7 P) (n zum z z) (n zvA z z)) (n (b8 P) (n zuW z z) (n zwd z z)))) (n o34 (n (b7 P) (n (b8 P) (n zud (y7 P) z) (n zvq z z)) (n ztB (y8 P) (n zv4 z z))) (n (b7 P) (n ztk (n zuv z z) (y8 P)) (n (b7 P) (y7 P) (n zwm z z)))))))))
def hF (P:wC):jW:=⟨#[MT P,M3 P,M4 P,o3 P,M5 P,M6 P,M7 P,b7 P,b8 P,M8 P,Eu P,b7 P,o4,o1,o2,b7 P,b8 P,o5,b7 P,o6,o7,o8,b7 P,b8 P,o9,b7 P,o10,o11,o12,b7 P,b8 P,o13,b7 P,o14,o15,o16,b7 P,b8 P,o17,b7 P,o18,o19,o20,b7 P,b8 P,o21,b7 P,o22,o23,o24,o25,o26,o27 P,b7 P,b8 P,o28,o29,b7 P,o30 P,o31,o32,o33,o34,o35,o26,o36 P,b7 P,b8 P,o37,o38,b7 P,o39 P,o40,o41,o42,o35,o26,o43 P,b7 P,b8 P,o44,o45,b7 P,o46 P,o47,o48,o49,o35,o26,o50 P,b7 P,b8 P,o51,o52,b7 P,o53 P,o54,o55,o56,o35,o26,o57 P,b7 P,b8 P,o58,o59,b7 P,o60 P,o61,o62,o63,o35,o26,o64 P,b7 P,b8 P,o65,o66,b7 P,o67 P,o68,o69,o70,o35,o26,o71 P,b7 P,b8 P,o72,o73,b7 P,o74 P,o75,o76,o77,o35,o26,o78 P,b7 P,b8 P,o79,o80,b7 P,o81 P,o82,o83,o84,b7 P,b8 P,o85,o86,o87,b7 P,b8 P,o88,o89,o90,b7 P,b8 P,o91,b7 P,o92,o93,o94,b7 P,b8 P,o95,b7 P,o96,o97,o98,b7 P,b8 P,o99,b7 P,o100,ztc,ztd,b7 P,b8 P,zte,b7 P,ztf,ztg,zth,b7 P,b8 P,zti,b7 P,ztj,ztk,ztl,b7 P,b8 P,o111,b7 P,ztm,ztn,zto,b7 P,b8 P,ztp,ztq,ztr,b7 P,b8 P,zts,b7 P,ztt,ztu,ztv,b7 P,b8 P,ztw,b7 P,ztx,zty,ztz,b7 P,b8 P,ztA,b7 P,ztB,ztC,ztD,b7 P,b8 P,ztE,b7 P,ztF,ztG,ztH,b7 P,b8 P,ztI,ztJ,ztK,b7 P,b8 P,ztL,ztM,ztN,b7 P,b8 P,ztO,b7 P,ztP,ztQ,ztR,b7 P,b8 P,ztS,ztT,ztU,b7 P,b8 P,ztV,b7 P,ztW,ztX,ztY,b7 P,b8 P,ztZ,b7 P,zt0,zt1,zt2,b7 P,b8 P,zt3,b7 P,zt4,zt5,zt6,b7 P,b8 P,zt7,b7 P,zt8,zt9,zua,b7 P,b8 P,zub,zuc,zud,b7 P,b8 P,zue,zuf,zug,b7 P,b8 P,zuh,zui,zuj,b7 P,b8 P,zuk,b7 P,zul,zum,zun,b7 P,b8 P,zuo,zup,zuq,b7 P,b8 P,zur,b7 P,zus,zut,zuu,b7 P,b8 P,zuv,b7 P,zuw,zux,zuy,b7 P,b8 P,zuz,b7 P,zuA,zuB,zuC,b7 P,b8 P,zuD,b7 P,zuE,zuF,zuG,b7 P,b8 P,zuH,b7 P,zuI,zuJ,zuK,b7 P,b8 P,zuL,o200,zuM,b7 P,b8 P,zuN,b7 P,zuO,zuP,zuQ,b7 P,b8 P,zuR,zuS,zuT,b7 P,o26,zuU P,b7 P,zuV,zuW,zuX,b7 P,b8 P,zuY,b7 P,zuZ,zu0,zu1,zu2,zu3 P,zu4,zu5,zu6,zu7,zu8,b7 P,o26,zu9 P,b7 P,zva,zvb,zvc,b7 P,b8 P,zvd,b7 P,zve,zvf,zvg,b7 P,b8 P,zvh,b7 P,zvi,zvj,zvk,b7 P,b8 P,zvl,b7 P,zvm,zvn,zvo,b7 P,b8 P,zvp,b7 P,zvq,zvr,zvs,b7 P,b8 P,zvt,b7 P,zvu,zvv,zvw,b7 P,b8 P,zvx,b7 P,zvy,zvz,zvA,b7 P,b8 P,zvB,b7 P,zvC,zvD,zvE,zvF,zvG P,zvH,zvI,zvJ,zvK,zvL,b7 P,b8 P,zvM,b7 P,zvN,zvO,zvP,b7 P,b8 P,zvQ,b7 P,zvR,zvS,zvT,b7 P,b8 P,zvU,b7 P,zvV,zvW,zvX,b7 P,b8 P,zvY,b7 P,zvZ,zv0,zv1,b7 P,b8 P,zv2,b7 P,zv3,zv4,zv5,b7 P,b8 P,zv6,b7 P,zv7,zv8,zv9,b7 P,b8 P,zwa,zwb,zwc,b7 P,b8 P,zwd,b7 P,zwe,zwf,zwg,b7 P,b8 P,zwh,b7 P,zwi,zwj,zwk,b7 P,b8 P,zwl,b7 P,zwm,o300,zwn,b7 P,b8 P,zwo,b7 P,zwp,zwq,zwr,b7 P,b8 P,zws,b7 P,zwt,zwu,zwv,b7 P,b8 P,zww,zwx,zwy,b7 P,b8 P,zwz,zwA,zwB,b7 P,b8 P,zwC,zwD,zwE,b7 P,b8 P,zwF,b7 P,zwG,zwH,zwI],lf⟩
def view:qz:={ p with main:={ p.main with body:=[t 1,t 2,t 3,t 4,t 5,t 7,t 8,t 9,t 10,t 11,t 12,t 13,t 14,t 16,t 17,t 18,t 19,t 20,t 22,t 23,t 25,t 27,t 28,t 29,t 30,t 32,t 33,t 34,t 36,t 37,t 38,t 40,t 41,t 42,t 43,t 44,t 45,t 46,t 47,t 48,t 49,t 51,t 52,t 53,t 54,t 55,t 56,t 57,t 58,t 59,t 60,t 61,t 62,t 63,t 64,t 65,t 67,t 68,t 69,t 70,t 71,t 72,t 74,t 75,t 76,t 77,t 78,t 79,t 80,t 81,t 82,t 83,t 84,t 85] } }
noncomputable abbrev env:Env:={ scope:=p.main.scope,locals:=mainNs,globals:=mainNs,cells:=[],code:=(.ref 13),frame:=some 14 }
noncomputable abbrev cE:Code:=.body (behindTheImports p) env
noncomputable abbrev fq:Pos:=⟨0,0,0,0⟩
noncomputable abbrev an:Option zc:=(some (.ref 6))
noncomputable abbrev s0 (w:jd) (os:Q4):zp:=⟨gC w.params,#[],boot_drawn,boot_toks,os⟩
noncomputable abbrev S (w:jd) (os:Q4):zp:=⟨hF w.params,#[],⟨0,0,0,0⟩,958,os⟩
theorem pre (w:jd) (os:Q4):topGo treeTable p w 11 an 12 (s0 w os) (topStub p)=some ((⟨hA w.params,#[],⟨0,0,0,0⟩,187,os⟩:zp),⟨denote treeTable cE,cE,⟨0,0,0,0⟩,[topFrame fq]⟩):=by
 rewrite[sX,wK,sO];kernel_rfl
theorem block (w:jd) (os:Q4):segRun treeTable p w 11 an 1 1 (⟨hA w.params,#[],⟨0,0,0,0⟩,187,os⟩:zp) (blockOf (behindTheImports p) env cE ⟨0,0,0,0⟩ [topFrame fq])=some (.next,(⟨tr0 w.params,15,lf,#[],⟨0,0,0,0⟩,187,os⟩:pZ).abs,cE,⟨0,0,0,0⟩):=by
 rewrite[sV,wK];kernel_rfl
def zrF:List jV:=[t 0,t 1,t 2,t 3,t 4,t 5,t 6,t 7,t 8,t 9,t 10,t 11,t 12,t 13,t 14,t 15,t 16,t 17,t 18,t 19,t 20,t 21,t 22,t 23,t 24,t 25,t 26,t 27,t 28,t 29,t 30,t 31,t 32,t 33,t 34,t 35,t 36,t 37,t 38,t 39,t 40,t 41,t 42,t 43,t 44,t 45,t 46,t 47,t 48,t 49,t 50,t 51,t 52,t 53,t 54,t 55,t 56,t 57,t 58,t 59,t 60,t 61,t 62,t 63,t 64,t 65,t 66,t 67,t 68,t 69,t 70,t 71,t 72,t 73,t 74,t 75,t 76,t 77,t 78,t 79,t 80,t 81,t 82,t 83,t 84,t 85]
theorem zyD (w:jd) (os:Q4):segRunT treeTable p w 11 an 1 4174 (⟨tr0 w.params,15,lf,#[],⟨0,0,0,0⟩,187,os⟩:pZ) (piecesOf zrF env cE ⟨0,0,0,0⟩ [topFrame fq])=some (.next,(⟨tr1 w.params,549,lf,#[],⟨0,0,0,0⟩,958,os⟩:pZ),cE,⟨449,0,461,15⟩):=by
 rewrite[sG,wK];kernel_rfl
theorem fin (w:jd) (os:Q4):topRun treeTable p w 11 an 2 (⟨tr1 w.params,549,lf,#[],⟨0,0,0,0⟩,958,os⟩:pZ).abs ⟨doneF .next,cE,⟨449,0,461,15⟩,[topFrame fq]⟩=some (S w os):=by
 rewrite[sU,wK];kernel_rfl
theorem parts:behindTheImports p=zrF++[]:=by kernel_rfl
theorem rest (w:jd) (os:Q4):topRun treeTable p w 11 an (4174+(2)) (⟨tr0 w.params,15,lf,#[],⟨0,0,0,0⟩,187,os⟩:pZ).abs (restOf (zrF++[]) env cE ⟨0,0,0,0⟩ [topFrame fq])=some (S w os):=(piece_app (segRun_of (zyD w os)) (piece_nil (fin w os)))
theorem rest' (w:jd) (os:Q4):topRun treeTable p w 11 an (4174+(2)) (⟨tr0 w.params,15,lf,#[],⟨0,0,0,0⟩,187,os⟩:pZ).abs (restOf (behindTheImports p) env cE ⟨0,0,0,0⟩ [topFrame fq])=some (S w os):=(congrArg (fun l=>topRun treeTable p w 11 an (4174+(2)) (⟨tr0 w.params,15,lf,#[],⟨0,0,0,0⟩,187,os⟩:pZ).abs (restOf l env cE ⟨0,0,0,0⟩ [topFrame fq])) parts).trans (rest w os)
theorem run (w:jd) (os:Q4):topRun treeTable p w 11 an (12+(1+(4174+(2)))) (s0 w os) (topStub p)=some (S w os):=go_top (pre w os) (piece_block (block w os) (rest' w os))
theorem size (w:jd):((gC w.params).isNs qp && (#[]:Array K5).size == 0,(gC w.params).objs.size,(gC w.params).nsMap qp "__annotations__")=(true,11,an):=by
 rewrite[uX];kernel_rfl
noncomputable abbrev Xt:zp->Bool:=fun s=>xlAt view [] s && recOk PySem.Challenge.rw_bellwrite_k79_whole_desk_goes_on.row.toRowW.records s
theorem zs7 (w:jd) (os:Q4):(staticsOk (importedModules p.main.body) (gC w.params) (hF w.params) && namesBound p (hF w.params) && gensDone (S w os) && laidKept (gC w.params) (hF w.params))=true:=by
 rewrite[VL];kernel_rfl
theorem zs8 (w:jd) (os:Q4):openSeen view [] (importedModules p.main.body) Xt true (S w os)=openGood view []:=by
 unfold openSeen openGood;refine Q6 ?_ (Q6 ?_ (Q6 ?_ (Q6 ?_ (Q6 ?_ (Q6 ?_ (Q6 ?_ (Q6 ?_ ?_)))))))
 ·(try rewrite[uR]);(try rewrite[Ck]);(try rewrite[VJ]);(try rewrite[uT]);kernel_rfl
 .kernel_rfl
 ·(try rewrite[sH]);(try rewrite[V9]);(try rewrite[Ck]);(try rewrite[VJ]);(try rewrite[uW]);(try rewrite[sS]);(try rewrite[sW]);(try rewrite[VL]);(try rewrite[sI]);kernel_rfl
 ·(try rewrite[Ah]);kernel_rfl
 ·(try rewrite[sY]);(try rewrite[uQ]);kernel_rfl
 ·(try rewrite[uP]);(try rewrite[V9]);kernel_rfl
 ·(try rewrite[sJ]);kernel_rfl
 ·(try rewrite[uU]);kernel_rfl
 ·(try rewrite[uV]);kernel_rfl
theorem left (H:Hook) (hk:∀(w:jd) (os:Q4),H.obs (S w os)=H.val w):LeftO p view [] Xt H.obs H.val 20000:=
 LeftO.of_pieces (boot_open (by kernel_rfl) (by decide) (fun s=>by rfl)) size run (by decide) (fun w=>funext fun os=>Q6 (zs7 w os) (Q6 (zs8 w os) (hk w os)))
theorem opens {d:DefRec}{kwd:List (Str×jD)} (H:Hook) (hk:∀(w:jd) (os:Q4),H.obs (S w os)=H.val w) (h1:defOf view PySem.Challenge.rw_bellwrite_k79_whole_desk_goes_on.row.name=some (d,kwd)) (h2:PySem.Challenge.rw_bellwrite_k79_whole_desk_goes_on.row.prog.theDef PySem.Challenge.rw_bellwrite_k79_whole_desk_goes_on.row.name=some (d.params,d.body,d.scope)) (h3:kwWritten? d.params.kwonlyargs d.params.kw_defaults=some kwd) (said:PySem.Challenge.rw_bellwrite_k79_whole_desk_goes_on.row.wellSaid=true) (hw:PySem.Challenge.rw_bellwrite_k79_whole_desk_goes_on.row.toRowW.promised)
  (hc:WalkO view [] (XL view []) H.says PySem.Challenge.rw_bellwrite_k79_whole_desk_goes_on.row.toRowW d kwd fun f vs=>uY f vs):PySem.Challenge.rw_bellwrite_k79_whole_desk_goes_on.row.Holds:=by
 have ok:(chainsOk view && opensWell PySem.Challenge.rw_bellwrite_k79_whole_desk_goes_on.row.prog && (frees PySem.Challenge.rw_bellwrite_k79_whole_desk_goes_on.row.toRowW && PySem.Challenge.rw_bellwrite_k79_whole_desk_goes_on.row.within.isEmpty))=true:=by kernel_rfl
 exact holds_open (Xt:=Xt) (N:=20000) (left H hk) H.of H.keeps (fun s y=>xl_of s (Bool.and_eq_true_iff.mp y).1) XL.keeps h1 h2 h3
  (fun s y=>recFacts_of (Bool.and_eq_true_iff.mp y).2) (by rfl) said ok ⟨rfl,rfl,rfl,rfl,rfl,by decide +kernel⟩ hw hc
end
end Op
open PySem PySem.W PyProof.Rows
local macro_rules
  | `(tactic| o_head $h) => `(tactic| refine Op.opens $h (fun w os => ?hk) (by rfl) (by rfl) (by rfl) (by assumption) ?hw ?hc)
set_option maxRecDepth 100000 in
set_option maxHeartbeats 0 in
theorem PySem.Challenge.cw_bellwrite_k79_whole_desk_goes_on_holds : PySem.Challenge.rw_bellwrite_k79_whole_desk_goes_on.Holds := by
  w_on; refine holds_law Op.said fun said => ?_; k_head; (case hk => kernel_rfl); (case hw => w_witness2)
  k_fill
  refine Bw.walk (l := PySem.Challenge.rw_bellwrite_k79_whole_desk_goes_on) rfl rfl (by decide +kernel) (fun w h Y => W.kIn_of Y) ?F
  case F =>
    intro w mg fa h KX G hmg
    refine' Bw.all_mk (l := PySem.Challenge.rw_bellwrite_k79_whole_desk_goes_on) rfl KX G hmg ?d0 ?d1 ?d2 ?d3 ?d4 ?d5 ?d6 ?d7 ?d8 ?d9 ?d10 ?d11 ?d12 ?d13 ?d14 ?d15 ?d16 ?d17 ?d18 ?d19 ?d20 ?d21 ?d22 ?d23 ?d24 ?d25 ?d26 ?d27 ?d28 ?d29 ?d30 ?d31 ?d32 ?d33 ?d34 ?d35 ?d36 ?d37 ?d38 ?d39 ?d40 ?d41 ?d42 ?d43 ?d44 ?d45 ?d46 ?d47 ?d48 ?d49 ?d50 ?d51 ?d52 ?d53 ?d54 ?z_range ?z_isinstance ?z_int ?z_bool ?z_len ?z_list ?z_max ?z_min ?z_enumerate ?z_sorted ?z_sum ?z_all ?z_str ?zhK ?z_reversed ?z_ValueError ?JN ?Yd ?vR ?wy ?WM ?Zx ?vg ?XJ ?iG ?Ik ?WL ?Zw ?WK ?Zv ?vd ?QJ ?Xm ?yJ ?wY ?Dq ?Dp ?zaK ?Xe ?iV ?wF ?yD ?vV ?cC ?Jb ?fM ?bZ ?ur ?ul ?ut ?uv ?uq ?um ?au ?aq ?bR ?WQ ?Dv ?Ds ?Dw ?Dy ?Du ?Dt ?bQ ?bO ?eV ?ao ?JR ?Kr ?Kq ?bN ?bM ?Vv ?Yp ?Yg ?eU ?eF ?Vz ?Yt ?Yk ?Yo ?eQ ?Vw ?Yq ?Yh ?Yl ?eG ?Vy ?Ys ?Yj ?Yn ?eO ?JQ ?Vk ?Vi ?Vj ?aj ?Qy ?QM ?QK ?QL ?VB ?Vx ?Yr ?Yi ?Ym ?eN
    any_goals (refine' Bw.di_mk ?a ?l ?c ?k; (case a => k_is); (case l => k_is); (case c => k_is); (case k => k_is))
    (case z_range => k_is)
    (case z_isinstance => k_is)
    (case z_int => k_is)
    (case z_bool => k_is)
    (case z_len => k_is)
    (case z_list => k_is)
    (case z_max => k_is)
    (case z_min => k_is)
    (case z_enumerate => k_is)
    (case z_sorted => k_is)
    (case z_sum => k_is)
    (case z_all => k_is)
    (case z_str => k_is)
    (case zhK => k_is)
    (case z_reversed => k_is)
    (case z_ValueError => k_is)
    (case JN => k_is)
    (case Yd => k_is)
    (case vR => k_is)
    (case wy => k_is)
    (case WM => k_is)
    (case Zx => k_is)
    (case vg => k_is)
    (case XJ => k_is)
    (case iG => k_is)
    (case Ik => k_is)
    (case WL => k_is)
    (case Zw => k_is)
    (case WK => k_is)
    (case Zv => k_is)
    (case vd => k_is)
    (case QJ => k_is)
    (case Xm => k_is)
    (case yJ => k_is)
    (case wY => k_is)
    (case Dq => decide)
    (case Dp => decide)
    (case zaK => decide)
    (case Xe => k_exc)
    (case iV => k_exc)
    (case wF => k_exc)
    (case yD => k_exc)
    (case vV => k_exc)
    (case cC => k_exc)
    (case Jb => k_exc)
    (case fM => refine' Bw.xf_of 0 true false false false false rfl ?a0 ?a1 ?a2 ?a3 ?a4 ?a5 ?a6 ?a7 ?a8 ?a9 ?a10 ?a11 ?a12 ?a13 ?a14 ?a15 ?a16; (case a0 => k_exc); (case a1 => k_is); (case a2 => k_is); (case a3 => k_is); (case a4 => k_is); (case a5 => k_is); (case a6 => k_is); (case a7 => k_is); (case a8 => k_is); (case a9 => kit_is); (case a10 => kit_is); (case a11 => kit_is); (case a12 => kit_is); (case a13 => kit_is); (case a14 => kit_is); (case a15 => kit_is); (case a16 => kit_is))
    (case bZ => refine' Bw.xf_of 1 false true false false false rfl ?a0 ?a1 ?a2 ?a3 ?a4 ?a5 ?a6 ?a7 ?a8 ?a9 ?a10 ?a11 ?a12 ?a13 ?a14 ?a15 ?a16; (case a0 => k_exc); (case a1 => k_is); (case a2 => k_is); (case a3 => k_is); (case a4 => k_is); (case a5 => k_is); (case a6 => k_is); (case a7 => k_is); (case a8 => k_is); (case a9 => kit_is); (case a10 => kit_is); (case a11 => kit_is); (case a12 => kit_is); (case a13 => kit_is); (case a14 => kit_is); (case a15 => kit_is); (case a16 => kit_is))
    (case ur => k_is)
    (case ul => k_is)
    (case ut => k_is)
    (case uv => k_is)
    (case uq => k_is)
    (case um => k_is)
    (case au => k_is)
    (case aq => k_is)
    (case bR => k_is)
    (case WQ => k_is)
    (case Dv => k_is)
    (case Ds => k_is)
    (case Dw => k_is)
    (case Dy => k_is)
    (case Du => k_is)
    (case Dt => k_is)
    (case bQ => k_is)
    (case bO => k_is)
    (case eV => k_is)
    (case ao => k_is)
    (case JR => k_is)
    (case Kr => k_is)
    (case Kq => k_is)
    (case bN => k_is)
    (case bM => k_is)
    (case Vv => k_is)
    (case Yp => k_is)
    (case Yg => k_is)
    (case eU => k_is)
    (case eF => k_is)
    (case Vz => k_is)
    (case Yt => k_is)
    (case Yk => k_is)
    (case Yo => k_is)
    (case eQ => k_is)
    (case Vw => k_is)
    (case Yq => k_is)
    (case Yh => k_is)
    (case Yl => k_is)
    (case eG => k_is)
    (case Vy => k_is)
    (case Ys => k_is)
    (case Yj => k_is)
    (case Yn => k_is)
    (case eO => k_is)
    (case JQ => k_is)
    (case Vk => k_is)
    (case Vi => k_is)
    (case Vj => k_is)
    (case aj => k_is)
    (case Qy => k_is)
    (case QM => k_is)
    (case QK => k_is)
    (case QL => k_is)
    (case VB => k_is)
    (case Vx => k_is)
    (case Yr => k_is)
    (case Yi => k_is)
    (case Ym => k_is)
    (case eN => k_is)