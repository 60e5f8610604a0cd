import PyProof.Rows.All
import Wide.All
import OpenK.AllK
import Wide.FinOn
import PyProof.EqAt
import PyProof.EqKinds
import PyProof.TupleCall
import PyProof.NeKinds
import PyProof.FactsAll.tuple_2
import PyProof.FactsAll.tuple_3
import PyProof.ListRange
import KE.KSortTup
import PyProof.EnumMake
import PyProof.AutoSeq1
import PyProof.Rows.SeqMore
import KE.KIsAll
import PyProof.ExcArgsOwn
import PyProof.ExcBaseAll.ValueError
import PyProof.ExcAttrAll.ValueError
import OpenK.KOwn
import PyProof.RulesAs
import PyProof.AutoRange
import PyProof.SeqRoads2
import PyProof.ZipIter
import PyProof.StrCalls2
import KE.KDictSum
import PyProof.SumAny
import KE.KRevIter
import PyProof.Rows.FStr
import PyProof.Rows.FStrParts
import KE.KRevSl
import PyProof.Rows.SetFrom
import Lean
import PySem.Challenge.RW_rookborders_k32_borders
set_option bootstrap.genMatcherCode false
set_option Elab.async false
set_option linter.all false
set_option maxRecDepth 100000
set_option maxHeartbeats 1000000
set_option linter.defProp false
open PySem renaming wpAny_bind→Ik,Value→Il,wpAny_pure→Im,Shared→Io,starEach→ID,wpAny→IF,sizeLine→IM,mainGlobals→IW,Program→Jf,Around→Jm,wpAny_mono→Jo,World→Jr,wpAny_setState_of→JG,wpAny_holding→JM,sizeLine_eq→JP,mem_of_lookup→JQ,SetTable→JZ,bootBuiltins→J9,wpAny_call_entry→Kg,cLine→Kk,foldedSetIterable→Kp,wpAny_newObj_type→Kq,unsupported→Kz,codeAny_builtin→KF,backTo→KQ,assignEach→KR,wpAny_truthy_bool→K6,cellsFrom→K8,codeAny_mono→Lj,wpAny_typeNameOfWhole_keyiter→Ln,swapsWith→Lp,NameKind→Lv,Scope→LB,behindInMarks→LC,compareOp→LD,sysModules→LL,FuncData→LM,tupleKind_room_in1→LN,codeAny→LQ,Builtin→LR,builtinLookup_eq_fast→LS,wpAny_passesOwn→LV,letOwnedTupleGo→LW,wpAny_storeSet_of→L4,wpAny_standAt→L8,wpAny_typeNameOf_keyiter→Mb,putSet_of→Mi,binaryOp→Mj,wpAny_callSpecial?_slot→Ml,Spec→Mq,wpAny_fieldsOf→MQ,holding→MV,wpAny_isInstance→MZ,assign→M0,attributeBase→M6,wpAny_comprehension_free→M8,typeLookup_type→Nk,wpAny_ite_split→Nl,pyNext→No,wpAny_Call_Name_kw→Np,wpAny_rule→Nq,sliceBounds→Nv,Paired→NA,Keyword→NB,wpAny_setField→NF,wpAny_setEpoch_of→NH,wpAny_isOneOf_keyiter→NN,tupleKind→NR,rawInt→NT,wpAny_askSetting→NV,relabel→N5,plainId_quiet→N6,wpAny_attempt→N7,keywordEach→N9,wpAny_specialOf→Oh,wpAny_execs_nil→Oi,codeAny_of_tree→Ol,standAt→Ov,newFunctionEnv→OL,wpAny_runValue→ON,firstArgMember→OP,ofAClassStatement→OU,wpAny_pyIter_list→OW,collect→OZ,wpAny_pyIter_slot→O1,wpAny_dictEntries→O2,pyIter→O7,wpAny_newList→Pc,wpAny_forIn_list→Pi,setDiscardHashed→Pn,again→Pp,setAddHashed→PF,Result→PH,callerA→PM,codeAny_compStart_list→PN,sub_set_self→PU,theTreesLotGoes→P2,wpAny_dictEpoch→P5,wpAny_isSame_ref_self→P8,wpAny_isTrue_Compare1→P9,weight_type_call_type→Qh,subscripted→Ql,backToKw→Qm,wpAny_of_eq→Qu,isSubtype_type→QB,entryFor_alias→QC,codeAny_call_builtin→QD,wpAny_setEntries_of→QO,swapsWithSole→QV,swappedStores→QW,signature?_of→QZ,builtinsNs→Q7,wpAny_load→Q8,typeLookup→Q9,wpAny_typeOf→Rm,searchCouldBeSeen→Ro,setState→Rq,wpAny_assign_Name→Rs,BindsTo→Ru,getItem→Rv,seqIndex_neg→Rw,slot_list_getitem→Rx,compEnvC→Rz,codeAny_loop→RA,compTurn→RB,newList→RC,valueAt→RG,wpAny_eqBool_int→RQ,wpAny_execs_cons→RT,PassesOwn→RU,noFill_tuple_add→RX,DictEntry→RZ,noteFrame→R0,wpAny_extend_seq→R9,checkBuiltinCall→Sd,hashByValue→Sh,seqIndex_of→Sj,wpAny_alloc→Sm,wpAny_noted→So,atKey→Su,pushCells_keeps→SA,wpAny_loadPart'→SC,wpAny_seqItems→SU,carriedByValue→SV,storeSet→SX,GenState→S4,wpAny_Name→S5,CmpOp→S6,recursionLimit→S8,wpAny_call→S9,bindL→Ta,bindC→Tb,call_meets→Te,call→Tf,wpAny_newTuple→Tn,isSubtype_stop→Tu,entryFor→Tw,argsOk→Tx,slotArgs→Tz,wpAny_tryCatch→TC,setRoomFor→TD,setSearchFrom→TY,seq_tuple_add→T4,evalPart_none→T5,call_list_seq→T8,eval_ListComp→T9,wpAny_handled→Uh,setWalkUnseen→Um,plain→Up,seqIndex?→Ut,pickOrder→UG,setItem→UO,setRelay→V3,Operator→Wa,compPost→Wg,truthy→XQ,Params→XZ,newExc→Yl,Model→YD,Fin→ZA
open PySem.Heap renaming get?_push_of_some→Ip,lt_size→IJ,get?_push_size→IN,get?_update_self→JN,SameBut→Kh,size_push→KN,get?_update_other→Mt,get?_update_ne→QM,size_update→R8,ExtBut→WO
open List renaming getElem?_eq_getElem→Iq,length_map→Iu,map_cons→Ix,range→Iy,replicate→IC,getElem?_eq_some_iff→IE,getElem?_set_ne→IG,mem_append_right→IK,size_toArray→IP,mem_append→IQ,length_append→IR,getElem?_set_self→IX,mem_cons_of_mem→IZ,map_map→I0,mem_range→Ja,append_assoc→Jb,mem_singleton→Jc,mem_map→Jd,length_cons→Jg,mem_cons_self→Jh,getD_eq_getElem?_getD→Jj,mem_append_left→Jk,mem_cons→Jn,mem_of_getElem?→Jq,getElem?_append_left→Js,pairwise_append→Ju,pairwise_iff_getElem→Jz,mem_iff_getElem?→JC,getElem?_append_right→JE,map_congr_left→JH,map_append→JK,getD→JL,getElem?_map→JO,take_append_drop→JT,mem_filter→JU,flatMap_cons→J6,perm_ext_iff_of_nodup→J7,length_filter_le→J8,getElem?_eq_none→Ka,getElem?_replicate→Kb,find?_cons→Kn,pairwise_map→KB,append_nil→KD,toArray→KH,nodup_append→KJ,length_singleton→KM,length_eraseIdx→KS,length→KU,getElem?_cons_zero→KW,take_of_length_le→K4,getElem_of_mem→K9,getElem?_zip_eq_some→Ld,drop_eq_getElem_cons→Le,perm_append_comm→Lf,length_take→Lg,any_cons→Lk,length_range→Lo,getElem?_cons_succ→Lr,filterMap_cons→Lu,filter_eq_self→Lw,pairwise_lt_range→Ly,drop_eq_nil_of_le→Lz,lookup_cons→LF,mem_flatMap→LG,map_flatMap→LH,eraseIdx_sublist→LP,nodup_cons→LU,length_nil→LX,take_sublist→L0,drop_sublist→L1,mem_of_mem_take→L3,getElem?_take_of_lt→L9,sum_cons→Me,mem_map_of_mem→Mf,nodup_range→Mg,all_eq_true→Mk,isEmpty_nil→Mn,range_succ_eq_map→Mu,nodup_nil→MP,getElem_mem→MX,any_eq_true→MY,reverse_append→M3,pairwise_cons→Nm,filter_cons_of_pos→Nx,filter_cons_of_neg→Ny,ext_getElem?→NC,eraseIdx_eq_take_drop_succ→NI,mem_eraseIdx_iff_getElem?→NQ,not_mem_nil→NZ,mem_of_mem_drop→N8,eq_nil_of_length_eq_zero→Of,foldl_cons→Og,drop_succ_cons→On,filter_sublist→Oq,map_nil→Ou,any_map→Oy,getElem?_drop→OE,find?_eq_none→OF,mem_filterMap→OG,lookup_append→OJ,map→OO,count_pos_iff→OR,getElem_take→O4,all_cons→O9,mem_of_mem_eraseIdx→Pe,eraseIdx_cons_succ→Pj,perm_middle→Pl,length_eraseIdx_le→Po,getElem?_eraseIdx→PB,nil_append→PZ,of_mem_zip→P0,length_set→P1,length_replicate→Qa,range_eq_range'→Qt,drop_zero→Qv,drop_drop→Qx,reverse_reverse→Qy,getElem?_append→Qz,map_take→QU,zip_cons_cons→Q2,count_eq_zero→Re,any_eq_false→RF,getElem_drop→RI,count_append→RM,getElem_inj→RS,range'_succ→R5,map_snd_zip→R7,map_id→Sw,Nodup→SQ,take_succ→TF,map_drop→TZ,all_map→UZ,range'→WG,count→Yw
open PyProof.Rows renaming wpS_pure→Ir,wpS_bind→Is,Keyed→II,SortSt→Kc,wpS_forRange→Km,wpS_modify→K7,seqObj→Lc,wpS_mono→Lx,pendingOf→LI,sortedHeap→Mv,SortKind→MS,listUpdate_at→M9,elem'→Nb,wpS_get→Nj,AllBare→N4,seqEpoch_at→Oa,envOfC→Oj,callWith_type1→Ox,arrOf→OY,wpS_lift→Px,subscriptTail_builtinR→PK,getElem?_mirror_all→QL,subscriptTail→QX,failedOf→RE,callWith_builtin1→RW,mirror→Sc,getElem?_bubble→SD,get?_update_seq→SE,list_sort_plain→SF,entry_list_sort→SG,callWith_type0→SN,IntsAre→SO,Subscript_→Td,keyKind'→Tl,sortedHeap_old→To,slot_list_sort→Tp,args_list_sort→Tr,gallopOf→Tv,sortedHeap_at→Uc,bubble→Vc,mergeAt'→WR,power'→Yp
open Nat renaming le_refl→Iv,lt_of_lt_of_le→IL,le_of_ble_eq_true→Je,ne_of_lt→Jp,le_trans→JS,zero_le→JV,lt_succ_self→Ky,add_zero→KG,pow_le_pow_right→Lm,mod_lt→Ls,lt_irrefl→LA,zero_add→LY,lt_trichotomy→LZ,lt_of_not_le→Mm,lt_of_le_of_lt→Mp,le_of_lt→Mr,ne_of_gt→Ms,lt_succ_iff→Mw,le_of_succ_le→MA,le_succ_of_le→MB,lt_succ_of_lt→MD,mul_le_mul→MO,mod_eq_of_lt→MW,not_lt_zero→Nf,add_sub_cancel_left→Nt,pow_succ→Nz,not_lt→NU,mul_assoc→N0,pow_succ'→N3,lt_trans→Os,mul_right_comm→OD,le_succ→OX,exists_eq_add_of_le→Pg,le_add_right→Ph,le_max_right→Pt,mul_comm→Pz,add_mul→Qi,add_le_add_left→QF,add_assoc→QY,sub_self→Ri,pow_add→Sf,one_mul→Ss,succ_add→UM,add_comm→Vk,add_mod→V1,mul_mod→V2,succ→Wh,log2_lt→WH
open Option renaming bind_some→Iw,bind_eq_some_iff→IS,map_eq_some_iff→JR,bind→L5,map_some→Ni,isSome_some→Ra,isSome_map→RH,getD_none→RY,none→Wf
open PySem.W renaming Frag→Iz,keepIn→Ki,codeIn→Kr,nsIn→KC,mg_of→KY,fnOf→KZ,mg_none_of→Ll,hashAt→NP,kas_rev→Oz,kia_one→OC,kitOne→Qs,cellsFrom_some→RV,methodObj→Si,kas_sort→Tk,OpenLaw→Uu,kas_ask→Vd,kitx_list→WF
open Array renaming length_toList→IA,getElem?_toList→IT,getElem?_eq_getElem→IU,toList_append→JX,getD_eq_getD_getElem?→Kj,getElem?_eq_some_iff→Ko,getD→Ku,toList_push→KL,size_setIfInBounds→Li,getElem?_eq_none→Mo,mem_toList_iff→MM,perm_iff_toList_perm→MN,toList_reverse→MT,toList_setIfInBounds→OQ,getElem?_replicate→O5,eraseIdxIfInBounds→Pd,map→Pv,toList_filterMap→PD,size_map→Qk,toList_modify→QN,forIn_toList→Q3,append_assoc→Q6,toList→Rr,toList_map→RP,toList_inj→R6,replicate→Sz
open Bool renaming false_eq_true→IB,and_eq_true→JB,not_eq_true'→J5,eq_iff_iff→KO,false_ne_true→Lh,not_true→Mx,true_and→Na,or_eq_true→Ng,not_eq_false'→Nr,and_eq_false_iff→Qf,false_and→Qj,or_eq_false_iff→Qw,and_self→QT,and_false→SW,not_false→Tt,or_false→T6,false_or→Ug
open PySem.Value renaming none→IV,ref→JI,int→NS,isInt_shape→Rp,type→S0,isStrOf→T0,str→Uq,isInt→V4,bool→XG
open PySem.SetTable renaming below→Ji,insertAt→Jt,bits→Jy,eraseAt→JA,sizeAbove→JF,runEnd→JJ,toList_insertAt→Kx,turns→LJ,leap→M5,has→Ot,laid→O6,slot→QQ,fill→QR,layClean→Rk,grown→SZ,drop→TW
open Option.some renaming inj→Jv,injEq→YA
open Or renaming inr→Jw,inl→Kf
open List.Pairwise renaming sublist→JD,nil→Mz,imp→ME,filter→ML,imp_of_mem→M4
open Ne renaming symm→JW
open List.Perm renaming append_right→JY,append_left→Kl,refl→NG,trans→P6,of_eq→P7,swap→Ts
open PySem.Heap.SameBut renaming update→Ke,refl→MF
open PySem.Around renaming under_plainId→Ks,under_plain→Rc
open Classical renaming byContradiction→Kt
open PySem.F renaming called_set→Kv,slot_dict_keyiterator_next→KP,plain_list_iadd→L6,slot_list_append→Nc,type_list_append→Nd,entry_proto_collect→NK,plain_proto_collect→NL,slot_dict_get→NM,args_dict_keyiterator_next_1→NX,entry_dict_keyiterator_next→Oe,slot_set_contains→Op,entry_list_iadd→O0,args_tuple_add_2→O8,entry_tuple_add→Pq,plainAttrs_list→Ps,args_dict_get_3→Pw,slot_tuple_add→PJ,entry_dict_get→PR,plainAttrs_set→PV,entry_type_call→RL,slot_dict_iter→Sb,entry_set_init→Se,slot_set_iter→SJ,plain_set_new→SK
open PySem.PassesOwn renaming never→Kw
open PySem.Obj renaming mapSeq→KA,data_mapFields→LO,mapFields→Mc,putSet→Nn,isFreed_of_fields→NO,cls_mapFields→O3
open PySem.NameKind renaming free→K3,cell→My
open PySem.SetTable.layClean renaming free→K5
open Int renaming toNat_natCast→Lq,emod_eq_of_lt→ND,natCast_emod→NW,mul_le_mul_of_nonneg_left→Oc,natCast_add→P4,emod_lt_of_pos→Q1,emod_nonneg→Sx,ediv_nonneg→SH,add_comm→Vj
open List.Nodup renaming sublist→LK,length_le_of_subset→Mh
open PySem.Paired renaming length→L7,snoc→WM
open PySem.SeqAt renaming EqAt→Ma,RcNeAt→RD,RcAt→Th
open PySem.Builtin.Frozenset renaming addrOf→Md,oneOther→MU,withSetAsKey→NY,updateFrom→SL,newClass→TB,sizeOf→Uj,slot0→UH
open PySem.Builtin.List renaming listExtendWith→MC,listTooLong→M7,listLengthHint→OB
open PySem.W.KasT renaming kasWp_bind→Nh
open PySem.Builtin.Range renaming rangeSize→Nu
open PyProof.Rows.F renaming plain_set_update_loop→Nw,entry_set_update_loop→Py
open Nat.succ renaming inj→NE
open PySem.SetTable.sizeAbove renaming go→NJ
open PySem.Builtin.Dict_items renaming ownsTuple→Om
open PySem.Str renaming ofString→OA
open PySem.Calls renaming Name_function_global→OH,spliced_cons→OI,call_function_entry→OS,callWith_builtin→PL,evalArgs_plain→Qn,spliced_nil→Rt
open PySem.SeqAt.EqAt renaming of_refs→OM,tuple_list→Qb,none_list→Qo,bool_list→Qp,int_list→QG,str_list→QH,int_str→Q4,str_int→Q5,same→SB,none_tuple→Vv,bool_tuple→Vw,tuple_none→Vx,tuple_bool→Vy,list_tuple→Vz,none_bool→Wi,bool_none→Wj,bool_bool→Wk,int_tuple→Wl,str_tuple→Wm,tuple_int→Wn,tuple_str→Wo,list_none→Wp,list_bool→Wq,none_int→Xa,none_str→Xb,bool_int→Xc,bool_str→Xd,int_none→Xe,int_bool→Xf,str_none→Xg,str_bool→Xh,list_int→Xi,list_str→Xj,int_int→X5,str_str→X6
open PySem.SetTable.probe renaming go→OT
open Sum renaming inl→OV,inr→QE
open List.cons renaming inj→Pf
open PySem.SeqAt.RcNeAt renaming tuple_list→Pu,none_list→PP,bool_list→PQ,int_list→Qd,str_list→Qe,lists_lengths→Ti,none_tuple→Uv,bool_tuple→Uw,tuple_none→Ux,tuple_bool→Uy,list_tuple→Uz,none_none→U1,none_bool→U2,bool_none→U3,bool_bool→U4,int_tuple→U5,str_tuple→U6,tuple_int→U7,tuple_str→U8,list_none→U9,list_bool→Va,none_int→VF,none_str→VG,bool_int→VH,bool_str→VI,int_none→VJ,int_bool→VL,str_none→VM,str_bool→VN,list_int→VO,list_str→VP,int_int→WB,int_str→WC,str_int→WD,str_str→WE,tuples→W9,lists→X4
open PySem.Challenge renaming pw_rookborders_k32_borders→PX,rw_rookborders_k32_borders→PY
open PySem.SeqAt.RcAt renaming tuple_list→Qc,none_list→Qq,bool_list→Qr,int_list→QI,str_list→QJ,lists_lengths→Ua,none_tuple→VA,bool_tuple→VB,tuple_none→VC,tuple_bool→VD,list_tuple→VE,none_none→Wr,none_bool→Ws,bool_none→Wt,bool_bool→Wu,int_tuple→Wv,str_tuple→Ww,tuple_int→Wx,tuple_str→Wy,list_none→Wz,list_bool→WA,none_int→Xk,none_str→Xl,bool_int→Xm,bool_str→Xn,int_none→Xo,int_bool→Xp,str_none→Xq,str_bool→Xr,list_int→Xs,list_str→Xt,int_int→X7,int_str→X8,str_int→X9,str_str→Ya,tuples→YN,lists→Zu
open PySem.Builtin.Dict renaming showsAll→Qg,dictSlotNone→TQ
open PySem.Builtin.Int renaming intBits→QK
open PySem.Shared renaming TypeIs→Q0
open PySem.Code renaming quiet_builtin→Rb
open PySem.MeetsSeq2 renaming wpAny_forIn_array→Rh
open PySem.SetTable.below renaming go→Rj
open PySem.IsTupleKey renaming typeIs→Rl
open And renaming intro→Sa
open PySem.Manifest renaming owners→SI
open PySem.Data renaming seq→Tg
open PySem.Fin renaming done→Tq
open PySem.Builtin.Tuple renaming tupleHashOf→TM
open String renaming ofList→Ui
open PySem.W.Looks renaming now→UA
open PySem.W.KatTups renaming cons→Vi
open PySem.pickOrder renaming go→Vo
open Nat.Coprime renaming pow_left→V0
open PySem.SetTable.Slot renaming dummy→WY
open PySem.Heap.IsSliceOf renaming new→XU
open PySem.W.WShape renaming has→X1
open PySem.Walks renaming list→Yc
open PyProof.Rows.SortSt renaming mk'→Ym
open PyProof.Rows.IsTup renaming new→Zl
open PySem.W.WData renaming int→Zr
open Array.Perm renaming refl→Z0
namespace L2
open PySem
theorem oN {n:Nat}{l:List Nat}(nd:l.Nodup)(h: ∀z∈l,z<n):l.length<=n:=by
 have p:l.Perm ((Iy n).filter λz=>decide (z∈l)):=(J7 nd (ML _ Mg)).mpr λz=>by
  rw[JU,Ja,decide_eq_true_eq];exact⟨λq=>⟨h z q,q⟩,λq=>q.2⟩
 rw[p.length_eq];exact JS (J8 _ _) (by simp)
def ic:Nat->Nat
 |0=>0
 |n+1=>5*ic n+1
theorem qt(m:Nat): ∀n,ic (m+n)=5^n*ic m+ic n
 |0=>by simp[ic]
 |n+1=>by
  show 5*ic (m+n)+1=_;rw[qt m n,Nz];show _=5^n*5*ic m+(5*ic n+1);rw[Nat.mul_add,OD,Pz 5 (5^n*ic m)];omega
theorem wz: ∀n,ic n % 2=n % 2
 |0=>rfl
 |n+1=>by have:=wz n;show(5*ic n+1) % 2=_;omega
theorem mY: ∀n,5^n=4*ic n+1
 |0=>rfl
 |n+1=>by rw[Nz,mY n];show _=4*(5*ic n+1)+1;omega
theorem HJ(k a:Nat)(h:a % 2=1):Nat.Coprime (2^k) a:=by
 refine V0 k ?_
 show Nat.gcd 2 a=1;rw[Nat.gcd_rec,h];decide
theorem ww: ∀(k d:Nat),2^k∣ic d->2^k∣d
 |0,d,_=>by simp
 |k+1,d,h=>by
  have hp:=wz d
  have h2:2∣ic d:=Nat.dvd_trans ⟨2^k,by rw[Nz,Pz]⟩ h
  obtain⟨e,rfl⟩: ∃e,d=e+e:=⟨d / 2,by have:=Nat.mod_eq_zero_of_dvd h2;omega⟩
  have e1:ic (e+e)=2*(ic e*(2*ic e+1)):=by
   rw[qt,mY];have:(4*ic e+1)*ic e+ic e=(2*(2*ic e+1))*ic e:=by
    rw[<-Nat.succ_mul];congr 1;omega
   rw[this,N0,Pz (2*ic e+1)]
  rw[e1,Nz,Pz] at h;have h3:=Nat.dvd_of_mul_dvd_mul_left (by omega) h
  have h4:=(HJ k (2*ic e+1) (by omega)).dvd_of_dvd_mul_right h3
  obtain⟨q,hq⟩:=ww k e h4
  exact⟨q,by rw[Nz];rw[show 2^k*2*q=2^k*q+2^k*q by rw[OD];omega,<-hq]⟩
def vY(M:Nat):Nat->Nat->Nat
 |0,i=>i
 |n+1,i=>(vY M n i*5+1) % M
theorem qi(M i:Nat): ∀n,vY M n i % M=(5^n*i+ic n) % M
 |0=>by simp[vY,ic]
 |n+1=>by
  show(vY M n i*5+1) % M % M=_;rw[Nat.mod_mod,V1,V2,qi M i n,<-V2,<-V1];congr 1
  show(5^n*i+ic n)*5+1=5^(n+1)*i+(5*ic n+1);rw[Nz,Qi,OD];omega
theorem BZ {k i m d:Nat}(h:vY (2^k) m i % 2^k=vY (2^k) (m+d) i % 2^k):2^k∣d:=by
 rw[qi,qi,qt,Sf] at h;have e:5^m*5^d*i+(5^d*ic m+ic d)=5^m*i+ic m+ic d*(4*(5^m*i+ic m)+1):=by
  rw[mY d]
  generalize 5^m=a;generalize ic m=b;generalize ic d=c
  grind
 rw[e] at h;have h2:(ic d*(4*(5^m*i+ic m)+1)) % 2^k=0:=by
  have hd:=Nat.sub_mod_eq_zero_of_mod_eq h.symm
  rw[Nt] at hd;exact hd
 exact ww k d ((HJ k _ (by omega)).dvd_of_dvd_mul_right (Nat.dvd_of_mod_eq_zero h2))
theorem E3 {k:Nat}{i:Nat}(hi:i<2^k){j:Nat}(hj:j<2^k): ∃n,n<2^k/\vY (2^k) n i=j:=by
 have lt: ∀n,vY (2^k) n i<2^k:=λn=>by
  cases n with
  |zero=>exact hi
  |succ n=>exact Ls _ (Nat.two_pow_pos k)
 have nd:((Iy (2^k)).map λn=>vY (2^k) n i).Nodup:=by
  rw[SQ,KB];refine M4 (λ{a b} ha hb hab e=>?_) Ly
  rw[Ja] at hb;obtain⟨d,rfl⟩:=Nat.exists_eq_add_of_lt hab
  have:=BZ (k:=k) (i:=i) (m:=a) (d:=d+1) (by rw[show a+(d+1)=a+d+1 by omega,<-e])
  have:=Nat.le_of_dvd (by omega) this
  omega
 by_cases h:j∈(Iy (2^k)).map λn=>vY (2^k) n i
 ·obtain⟨n,hn,e⟩:=Jd.mp h
  exact⟨n,Ja.mp hn,e⟩
 ·exfalso
  have h1:=oN (n:=2^k) (LU.mpr ⟨h,nd⟩) (λz hz=>by
   rcases Jn.mp hz with rfl|hz
   ·exact hj
   ·obtain⟨n,_,rfl⟩:=Jd.mp hz;exact lt n)
  simp at h1;omega
abbrev Pb:=SetTable.Probe
def vP(mask:Nat)(p:Pb):Pb:=
 if p.more>0 then {p with j:=p.j+1,more:=p.more-1} else
 {p with j:=(M5 mask p.i p.perturb).1,more:=JJ mask (M5 mask p.i p.perturb).1- (M5 mask p.i p.perturb).1,i:=(M5 mask p.i p.perturb).1,perturb:=(M5 mask p.i p.perturb).2}
theorem ud(t:JZ)(p:Pb):t.advance p=vP t.mask p:=rfl
theorem xN(mask:Nat)(p:Pb)(d:Option Nat):vP mask {p with dummy:=d}={vP mask p with dummy:=d}:=by
 unfold vP;dsimp only;split<;>rfl
def jj(mask i perturb:Nat)(d:Option Nat):Pb:={j:=i,more:=JJ mask i-i,i:=i,perturb:=perturb,dummy:=d}
def df(mask:Nat):Nat->Pb->Pb
 |0,p=>p
 |n+1,p=>df mask n (vP mask p)
theorem j2(mask m:Nat): ∀(n:Nat) (p:Pb),df mask (n+m) p=df mask m (df mask n p)
 |0,p=>by rw[LY];rfl
 |n+1,p=>by rw[UM];exact j2 mask m n (vP mask p)
theorem gH(mask n:Nat)(p:Pb):df mask (n+1) p=vP mask (df mask n p):=j2 mask 1 n p
theorem jJ(mask:Nat)(d:Option Nat): ∀(n:Nat) (p:Pb),df mask n {p with dummy:=d}={df mask n p with dummy:=d}
 |0,p=>rfl
 |n+1,p=>by
  show df mask n (vP mask {p with dummy:=d})=_
  rw[xN,jJ mask d n];rfl
theorem qo(mask:Nat): ∀(n:Nat) (p:Pb),n<=p.more->df mask n p={p with j:=p.j+n,more:=p.more-n}
 |0,p,_=>rfl
 |n+1,p,h=>by
  show df mask n (vP mask p)=_;have:vP mask p={p with j:=p.j+1,more:=p.more-1}:=if_pos (by omega)
  rw[this,qo mask n _ (by show n<=p.more-1;omega)]
  show({p with j:=p.j+1+n,more:=p.more-1-n}:Pb)={p with j:=p.j+(n+1),more:=p.more- (n+1)}
  rw[show p.j+1+n=p.j+(n+1) by omega,show p.more-1-n=p.more- (n+1) by omega]
theorem sk(mask:Nat)(p:Pb):df mask (p.more+1) p=jj mask ((p.i*5+1+p.perturb / 32) % (mask+1)) (p.perturb / 32) p.dummy:=by
 rw[gH,qo mask p.more p (Iv _)];unfold vP;dsimp only;rw[Ri,if_neg (by omega)]
 rfl
theorem xo(mask i perturb:Nat)(d:Option Nat):(jj mask i perturb d).more<=9:=by
 show JJ mask i-i<=9;unfold JJ;split<;>omega
def lp(mask:Nat):Nat->Nat×Nat->Nat×Nat
 |0,x=>x
 |n+1,x=>lp mask n ((x.1*5+1+x.2 / 32) % (mask+1),x.2 / 32)
theorem vA(mask:Nat)(d:Option Nat): ∀(n i perturb:Nat),∃m,m<=10*n/\df mask m (jj mask i perturb d)=jj mask (lp mask n (i,perturb)).1 (lp mask n (i,perturb)).2 d
 |0,i,perturb=>⟨0,by omega,rfl⟩
 |n+1,i,perturb=>by
  obtain⟨m,h1,h2⟩:=vA mask d n ((i*5+1+perturb / 32) % (mask+1)) (perturb / 32)
  have lm:=xo mask i perturb d
  refine⟨(jj mask i perturb d).more+1+m,by omega,?_⟩
  rw[j2,sk];exact h2
theorem By {k mask:Nat}(hk:mask+1=2^k): ∀(n i:Nat),lp mask n (i,0)=(vY (2^k) n i,0):=by
 have key: ∀(n:Nat) (x:Nat),vY (2^k) n ((x*5+1) % 2^k)=vY (2^k) (n+1) x:=by
  intro n
  induction n with
  |zero=>intro x;rfl
  |succ n ih=>intro x;show(vY (2^k) n ((x*5+1) % 2^k)*5+1) % 2^k=_;rw[ih x];rfl
 intro n
 induction n with
 |zero=>intro i;rfl
 |succ n ih=>
  intro i;show lp mask n ((i*5+1+0 / 32) % (mask+1),0 / 32)=_;rw[Nat.zero_div,KG,hk,ih,key]
theorem Av(mask:Nat): ∀(m n:Nat) (x:Nat×Nat),lp mask (m+n) x=lp mask n (lp mask m x)
 |0,n,x=>by rw[LY];rfl
 |m+1,n,x=>by rw[UM];exact Av mask m n _
theorem wx(mask:Nat): ∀(n i perturb:Nat),(lp mask n (i,perturb)).2=perturb / 32^n
 |0,i,perturb=>by simp[lp]
 |n+1,i,perturb=>by
  show(lp mask n _).2=_;rw[wx,Nat.div_div_eq_div_mul,<-N3]
theorem CW(mask:Nat): ∀(n:Nat) (x:Nat×Nat),x.1<=mask->(lp mask n x).1<=mask
 |0,x,h=>h
 |n+1,x,_=>CW mask n _ (Mw.mp (Ls _ (by omega)))
theorem yR {k mask:Nat}(hk:mask+1=2^k){i perturb:Nat}(hi:i<=mask)(hp:perturb<2^64){j:Nat}(hj:j<=mask): ∃n,n<=13+mask/\(lp mask n (i,perturb)).1=j:=by
 have e13:lp mask 13 (i,perturb)=((lp mask 13 (i,perturb)).1,0):=by
  have:=wx mask 13 i perturb
  rw[Nat.div_eq_of_lt (IL hp (by decide))] at this
  exact Prod.ext rfl this
 obtain⟨n,hn,e⟩:=E3 (k:=k) (i:=(lp mask 13 (i,perturb)).1) (by have:=CW mask 13 (i,perturb) hi;omega) (j:=j) (by omega)
 refine⟨13+n,by omega,?_⟩
 rw[Av,e13,By hk];exact e
def pW(mask:Nat)(h:Int)(d:Option Nat):Pb:=jj mask (Jy h % (mask+1)) (Jy h) d
def Jx(mask:Nat)(h:Int)(m:Nat):Nat:=(df mask m (pW mask h none)).j
theorem E4(mask:Nat)(h:Int)(m:Nat)(d:Option Nat):(df mask m (pW mask h d)).j=Jx mask h m:=by
 have:pW mask h d={pW mask h none with dummy:=d}:=rfl
 rw[this,jJ];rfl
theorem wC(h:Int):Jy h<2^64:=by
 unfold Jy;have h1:0<=h % (2^64:Int):=Sx _ (by decide)
 have h2:h % (2^64:Int)<2^64:=Q1 _ (by decide)
 have h3:((2:Int)^64)=((2^64:Nat):Int):=by decide
 omega
theorem ET {k mask:Nat}(hk:mask+1=2^k)(h:Int){j:Nat}(hj:j<=mask): ∃m,m<=10*(13+mask)/\Jx mask h m=j:=by
 obtain⟨n,hn,e⟩:=yR hk (i:=Jy h % (mask+1)) (perturb:=Jy h) (Mw.mp (Ls _ (by omega))) (wC h) hj
 obtain⟨m,hm,e2⟩:=vA mask none n (Jy h % (mask+1)) (Jy h)
 refine⟨m,by omega,?_⟩
 show(df mask m (jj mask (Jy h % (mask+1)) (Jy h) none)).j=j;rw[e2];exact e
def Ris(xs:Array Nat):Prop:=xs.toList.Pairwise (·< ·)
theorem Ris.lt {xs:Array Nat}(r:Ris xs){i j:Nat}(hij:i<j){a b:Nat}(ha:xs[i]? =some a)(hb:xs[j]? =some b):a<b:=by
 rw[<-IT] at ha hb;obtain⟨h1,e1⟩:=IE.mp ha
 obtain⟨h2,e2⟩:=IE.mp hb
 have:=Jz.mp r i j h1 h2 hij
 rw[e1,e2] at this;exact this
theorem Ris.inj {xs:Array Nat}(r:Ris xs){i j:Nat}{a:Nat}(ha:xs[i]? =some a)(hb:xs[j]? =some a):i=j:=by
 rcases LZ i j with h|h|h
 ·exact absurd (r.lt h ha hb) (by omega)
 ·exact h
 ·exact absurd (r.lt h hb ha) (by omega)
structure Bel(xs:Array Nat)(j p:Nat):Prop where
 le:p<=xs.size
 lo: ∀i a,i<p->xs[i]? =some a->a<j
 hi: ∀i a,p<=i->xs[i]? =some a->j<=a
theorem u8 {xs:Array Nat}(r:Ris xs)(j:Nat): ∀(fuel lo hi:Nat),hi-lo<=fuel->lo<=hi->hi<=xs.size->(∀i a,i<lo->xs[i]? =some a->a<j)->(∀i a,hi<=i->xs[i]? =some a->j<=a)->Bel xs j (Rj xs j fuel lo hi)
 |0,lo,hi,h1,h2,h3,h4,h5=>by
  have:lo=hi:=by omega
  subst this;exact⟨h3,h4,h5⟩
 |fuel+1,lo,hi,h1,h2,h3,h4,h5=>by
  unfold Rj
  by_cases hlt:lo<hi
  ·rw[if_pos hlt]
   dsimp only;have hm:(lo+hi) / 2<xs.size:=by omega
   have em:xs[(lo+hi) / 2]? =some xs[(lo+hi) / 2]:=IU hm
   have eg:xs.getD ((lo+hi) / 2) j=xs[(lo+hi) / 2]:=by simp[Ku,hm]
   rw[eg]
   by_cases c:xs[(lo+hi) / 2]<j
   ·rw[if_pos c]
    refine u8 r j fuel _ hi (by omega) (by omega) h3 (λi a hi' ha=>?_) h5
    by_cases e:i=(lo+hi) / 2
    ·subst e;rw[em] at ha;cases ha;exact c
    ·exact Os (r.lt (by omega) ha em) c
   ·rw[if_neg c]
    refine u8 r j fuel lo _ (by omega) (by omega) (by omega) h4 (λi a hi' ha=>?_)
    by_cases e:i=(lo+hi) / 2
    ·subst e;rw[em] at ha;cases ha;omega
    ·have:=r.lt (by omega) em ha;omega
  ·rw[if_neg hlt]
   have:lo=hi:=by omega
   subst this;exact⟨h3,h4,h5⟩
theorem FZ {xs:Array Nat}(r:Ris xs)(j:Nat):Bel xs j (Ji xs j):=u8 r j _ _ _ (by omega) (by omega) (by omega) (λi a h _=>absurd h (by omega)) λi a h e=>by
 rw[Mo h] at e;cases e
theorem pZ {xs:Array Nat}(r:Ris xs){j i:Nat}(h:xs[i]? =some j):Ji xs j=i:=by
 have b:=FZ r j
 rcases LZ i (Ji xs j) with c|c|c
 ·exact absurd (b.lo i j c h) (by omega)
 ·exact c.symm
 ·have lt:Ji xs j<xs.size:=Os c (Ko.mp h).1
  have e:xs[Ji xs j]? =some xs[Ji xs j]:=IU lt
  have h1:=b.hi _ _ (Iv _) e
  have h2:=r.lt c e h
  omega
theorem iJ {xs:Array Nat}(r:Ris xs)(j:Nat):Ot xs j=true↔j∈xs.toList:=by
 unfold Ot;rw[beq_iff_eq];constructor
 ·intro h
  rw[<-IT] at h;exact Jq h
 ·intro h
  obtain⟨i,hi⟩:=JC.mp h
  rw[IT] at hi;rw[pZ r hi];exact hi
structure TOk(t:JZ)(hs:List Int):Prop where
 pw: ∃k,3<=k/\k<=12/\t.mask+1=2^k
 sz:t.place.size=hs.length
 sp:Ris t.place
 sd:Ris t.dummies
 lp: ∀j∈t.place.toList,j<=t.mask
 ld: ∀j∈t.dummies.toList,j<=t.mask
 dj: ∀j∈t.dummies.toList,j∉t.place.toList
 fl:t.fill<=t.mask
 rc: ∀x∈hs.zip t.place.toList,∃m,Jx t.mask x.1 m=x.2/\ ∀m',m'<m->Jx t.mask x.1 m'∈t.place.toList\/Jx t.mask x.1 m'∈t.dummies.toList
def oI(t:JZ)(j:Nat):Prop:=j∈t.place.toList\/j∈t.dummies.toList
section
variable {t:JZ}{hs:List Int}(T:TOk t hs)
include T
theorem TOk.mask:t.mask<=4095:=by
 obtain⟨k,h3,h12,e⟩:=T.pw
 have:=Lm (n:=2) (by omega) h12
 have:(2:Nat)^12=4096:=by decide
 omega
theorem TOk.noway:t.gaveWay=false:=by
 obtain⟨k,h3,h12,e⟩:=T.pw
 unfold SetTable.gaveWay;have:2^k % 2=0:=by
  obtain⟨m,rfl⟩:=Pg h3
  rw[Sf];omega
 rw[beq_eq_false_iff_ne];omega
theorem lc {j i:Nat}(h:t.place[i]? =some j):t.slot j=.live i:=by
 unfold QQ;rw[pZ T.sp h,if_pos (by rw[h];exact beq_self_eq_true _)]
theorem nN {j:Nat}(h:j∈t.dummies.toList):t.slot j=.dummy:=by
 unfold QQ;have e: ¬(t.place[Ji t.place j]? ==some j)=true:=λw=>by
  rw[beq_iff_eq,<-IT] at w;exact T.dj j h (Jq w)
 dsimp only;rw[if_neg e,if_pos ((iJ T.sd j).mpr h)]
theorem uj {j:Nat}(h: ¬oI t j):t.slot j=.empty:=by
 unfold QQ;have e: ¬(t.place[Ji t.place j]? ==some j)=true:=λw=>by
  rw[beq_iff_eq,<-IT] at w;exact h (.inl (Jq w))
 dsimp only;rw[if_neg e,if_neg λw=>h (.inr ((iJ T.sd j).mp w))]
theorem TOk.room: ∃j,j<=t.mask/\ ¬oI t j:=by
 refine Kt λh=>?_
 have all: ∀j,j<=t.mask->oI t j:=λj hj=>Kt λn=>h ⟨j,hj,n⟩
 have nd:(t.place.toList++t.dummies.toList).Nodup:=by
  refine KJ.mpr ⟨T.sp.imp λh=>Jp h,T.sd.imp λh=>Jp h,λa ha b hb e=>?_⟩
  subst e;exact T.dj _ hb ha
 have:t.mask+1<=(t.place.toList++t.dummies.toList).length:=by
  have h1:(Iy (t.mask+1)).length<=(t.place.toList++t.dummies.toList).length:=by
   refine Mh Mg λj hj=>?_
   rw[Ja] at hj;rw[IQ];exact all j (by omega)
  simpa using h1
 have fl:=T.fl
 unfold QR at fl;rw[IR,IA,IA] at this;omega
theorem TOk.first(h:Int): ∃M,M<=10*(13+t.mask)/\ ¬oI t (Jx t.mask h M)/\ ∀m,m<M->oI t (Jx t.mask h m):=by
 obtain⟨k,_,_,e⟩:=T.pw
 obtain⟨j,hj,hn⟩:=T.room
 obtain⟨m,hm,em⟩:=ET e h hj
 have ex: ∀n,(∃m,m<=n/\ ¬oI t (Jx t.mask h m))-> ∃M,M<=n/\ ¬oI t (Jx t.mask h M)/\ ∀m,m<M->oI t (Jx t.mask h m):=by
  intro n
  induction n with
  |zero=>rintro⟨m,hm,q⟩;obtain rfl:m=0:=(by omega);exact⟨0,by omega,q,λ_ h=>absurd h (by omega)⟩
  |succ n ih=>
   rintro⟨m,hm,q⟩
   by_cases c: ∃m,m<=n/\ ¬oI t (Jx t.mask h m)
   ·obtain⟨M,h1,h2,h3⟩:=ih c;exact⟨M,by omega,h2,h3⟩
   ·have:m=n+1:=Kt λw=>c ⟨m,by omega,q⟩
    subst this;exact⟨n+1,by omega,q,λm' hm'=>Kt λw=>c ⟨m',by omega,w⟩⟩
 obtain⟨M,h1,h2,h3⟩:=ex (10*(13+t.mask)) ⟨m,hm,by rw[em];exact hn⟩
 exact⟨M,h1,h2,h3⟩
end
def Gp(t:JZ)(h:Int)(M:Nat)(d:Option Nat):Prop:= ∀x,d=some x->x∈t.dummies.toList/\ ∃m,m<M/\Jx t.mask h m=x
def Fh(t:JZ)(NP:Nat->Int)(h:Int)(m n:Nat):Prop:= ∀m',m<=m'->m'<n-> ∀i:Nat,t.place[i]? =some (Jx t.mask h m')->NP i≠h
theorem qF(mask:Nat)(h:Int)(m:Nat)(d:Option Nat):df mask m (pW mask h d)=⟨Jx mask h m,(df mask m (pW mask h none)).more,(df mask m (pW mask h none)).i,(df mask m (pW mask h none)).perturb,d⟩:=jJ mask d m (pW mask h none)
section
variable {t:JZ}{hs:List Int}(T:TOk t hs)
include T
theorem nu(NP:Nat->Int){h:Int}{M:Nat}(h1: ¬oI t (Jx t.mask h M))(h2: ∀m,m<M->oI t (Jx t.mask h m)): ∀(fuel m:Nat) (d:Option Nat),M<m+fuel->m<=M->Gp t h M d->
 ∃r,OT t NP h fuel (df t.mask m (pW t.mask h d))=some r/\
  ((∃d',r=.empty (Jx t.mask h M) d'/\Gp t h M d'/\Fh t NP h m M)\/
   (∃c i d',m<=c/\c<M/\t.place[i]? =some (Jx t.mask h c)/\NP i=h/\r=.candidate (Jx t.mask h c) i (df t.mask (c+1) (pW t.mask h d'))/\Gp t h M d'/\Fh t NP h m c))
 |0,m,d,q1,q2,_=>absurd q1 (by omega)
 |fuel+1,m,d,q1,q2,hd=>by
  unfold OT;rw[E4]
  by_cases em:m=M
  ·subst em
   rw[uj T h1];have ed:(df t.mask m (pW t.mask h d)).dummy=d:=by rw[qF]
   exact⟨_,rfl,.inl ⟨d,by rw[ed],hd,λm' a b=>absurd a (by omega)⟩⟩
  ·have lt:m<M:=by omega
   rcases h2 m lt with hu|hu
   ·obtain⟨i,hi⟩:=JC.mp hu
    rw[IT] at hi;rw[lc T hi];dsimp only
    by_cases eh:NP i=h
    ·rw[if_pos (beq_iff_eq.mpr eh),ud,<-gH]
     exact⟨_,rfl,.inr ⟨m,i,d,Iv _,lt,hi,eh,rfl,hd,λm' a b=>absurd a (by omega)⟩⟩
    ·rw[if_neg (λw=>eh (beq_iff_eq.mp w)),ud,<-gH]
     obtain⟨r,hr,hc⟩:=nu NP h1 h2 fuel (m+1) d (by omega) (by omega) hd
     have nc: ∀n,Fh t NP h (m+1) n->Fh t NP h m n:=λn q m' a b i' hi'=>by
      by_cases e:m'=m
      ·subst e;rw[T.sp.inj hi' hi];exact eh
      ·exact q m' (by omega) b i' hi'
     refine⟨r,hr,?_⟩
     rcases hc with⟨d',e,dd,q⟩|⟨c,i',d',a,b,e1,e2,e3,dd,q⟩
     ·exact .inl ⟨d',e,dd,nc _ q⟩
     ·exact .inr ⟨c,i',d',by omega,b,e1,e2,e3,dd,nc _ q⟩
   ·rw[nN T hu]
    dsimp only;have e:(⟨Jx t.mask h m,(df t.mask m (pW t.mask h d)).more,(df t.mask m (pW t.mask h d)).i,(df t.mask m (pW t.mask h d)).perturb,some (Jx t.mask h m)⟩:Pb)=df t.mask m (pW t.mask h (some (Jx t.mask h m))):=by
     rw[qF,qF t.mask h m (some _)]
    rw[ud,e,<-gH];obtain⟨r,hr,hc⟩:=nu NP h1 h2 fuel (m+1) (some (Jx t.mask h m)) (by omega) (by omega) (λx hx=>by cases hx;exact⟨hu,m,lt,rfl⟩)
    have nc: ∀n,Fh t NP h (m+1) n->Fh t NP h m n:=λn q m' a b i' hi'=>by
     by_cases e:m'=m
     ·subst e;exact absurd (Jq (by rw[IT];exact hi')) (T.dj _ hu)
     ·exact q m' (by omega) b i' hi'
    refine⟨r,hr,?_⟩
    rcases hc with⟨d',e,dd,q⟩|⟨c,i',d',a,b,e1,e2,e3,dd,q⟩
    ·exact .inl ⟨d',e,dd,nc _ q⟩
    ·exact .inr ⟨c,i',d',by omega,b,e1,e2,e3,dd,nc _ q⟩
end
theorem dZ {α:Type}(xs:Array α)(p:Nat):(JA xs p).toList=xs.toList.eraseIdx p:=by
 unfold JA;rw[NI];simp[List.extract_eq_take_drop,K4]
theorem oV {l:List Nat}(r:l.Pairwise (·< ·)){p j:Nat}(hp:l[p]? =some j)(x:Nat):x∈l.eraseIdx p↔x∈l/\x≠j:=by
 rw[NQ];constructor
 ·rintro⟨i,ne,e⟩
  refine⟨Jq e,λw=>ne ?_⟩
  subst w;obtain⟨h1,e1⟩:=IE.mp e
  obtain⟨h2,e2⟩:=IE.mp hp
  rcases LZ i p with c|c|c
  ·have:=Jz.mp r i p h1 h2 c;omega
  ·exact c
  ·have:=Jz.mp r p i h2 h1 c;omega
 ·rintro⟨h,ne⟩
  obtain⟨i,hi⟩:=JC.mp h
  exact⟨i,λw=>by subst w;rw[hp] at hi;cases hi;exact ne rfl,hi⟩
theorem mN {xs:Array Nat}(r:Ris xs){j:Nat}(n:j∉xs.toList):Ris (Jt xs (Ji xs j) j):=by
 have b:=FZ r j
 unfold Ris;rw[Kx,Ju];have hlo: ∀a∈xs.toList.take (Ji xs j),a<j:=λa ha=>by
  obtain⟨i,hi⟩:=JC.mp ha
  rw[List.getElem?_take] at hi;split at hi
  ·rename_i c;rw[IT] at hi;exact b.lo i a c hi
  ·cases hi
 have hhi: ∀a∈xs.toList.drop (Ji xs j),j<a:=λa ha=>by
  obtain⟨i,hi⟩:=JC.mp ha
  rw[OE] at hi;have hm:=Jq hi
  rw[IT] at hi;have:=b.hi _ a (Ph _ _) hi
  have:a≠j:=λw=>n (w▸hm)
  omega
 refine⟨JD (L0 _ _) r,?_,λa ha c hc=>?_⟩
 ·exact Nm.mpr ⟨hhi,JD (L1 _ _) r⟩
 ·rcases Jn.mp hc with rfl|hc
  ·exact hlo a ha
  ·exact Os (hlo a ha) (hhi c hc)
theorem nX {α:Type}(xs:Array α)(p:Nat)(x y:α):y∈(Jt xs p x).toList↔y=x\/y∈xs.toList:=by
 rw[Kx,IQ,Jn]
 conv=>rhs;rw[<-JT p xs.toList,IQ]
 constructor
 ·rintro(h|h|h)
  ·exact .inr (.inl h)
  ·exact .inl h
  ·exact .inr (.inr h)
 ·rintro(h|h|h)
  ·exact .inr (.inl h)
  ·exact .inl h
  ·exact .inr (.inr h)
def eP {α:Type}(l:List α)(p:Nat)(x:α):List α:=l.take p++x::l.drop p
theorem A4 {α β:Type}(l:List α)(m:List β)(p:Nat)(a:α)(b:β)(h:l.length=m.length):(eP l p a).zip (eP m p b)=eP (l.zip m) p (a,b):=by
 unfold eP;rw[List.zip_append (by rw[Lg,Lg,h]),Q2]
 unfold List.zip;rw[List.take_zipWith,List.drop_zipWith]
theorem TOk.put {t:JZ}{hs:List Int}(T:TOk t hs){h:Int}{j:Nat}(hj:j<=t.mask)(n:j∉t.place.toList)(rc: ∃m,Jx t.mask h m=j/\ ∀m',m'<m->oI t (Jx t.mask h m'))
 (fl:(t.put j).1.fill<=t.mask):TOk (t.put j).1 (eP hs (t.put j).2 h):=by
 have el:(t.put j).1.place.toList=eP t.place.toList (t.put j).2 j:=Kx _ _ _
 have mp: ∀y,y∈(t.put j).1.place.toList↔y=j\/y∈t.place.toList:=nX t.place _ j
 have md: ∀y,y∈(t.put j).1.dummies.toList↔y∈t.dummies.toList/\y≠j:=λy=>by
  show y∈(if Ot t.dummies j=true then JA t.dummies (Ji t.dummies j) else t.dummies).toList↔_
  split
  ·rename_i c
   have c2:=(iJ T.sd j).mp c
   obtain⟨i,hi⟩:=JC.mp c2
   rw[dZ,pZ T.sd (by rw[<-IT];exact hi)]
   exact oV T.sd hi y
  ·rename_i c
   exact⟨λq=>⟨q,λw=>c ((iJ T.sd j).mpr (w▸q))⟩,λq=>q.1⟩
 have us: ∀y,oI t y->y∈(t.put j).1.place.toList\/y∈(t.put j).1.dummies.toList:=λy q=>by
  rcases q with q|q
  ·exact .inl ((mp y).mpr (.inr q))
  ·by_cases e:y=j
   ·exact .inl ((mp y).mpr (.inl e))
   ·exact .inr ((md y).mpr ⟨q,e⟩)
 refine⟨T.pw,?_,mN T.sp n,?_,λy q=>?_,λy q=>T.ld y ((md y).mp q).1,λy q w=>?_,fl,λx hx=>?_⟩
 ·rw[<-IA,el]
  unfold eP;have:=T.sz
  rw[<-IA] at this;simp[this]
 ·show Ris (if Ot t.dummies j=true then JA t.dummies (Ji t.dummies j) else t.dummies)
  split
  ·unfold Ris
   rw[dZ];exact JD (LP _ _) T.sd
  ·exact T.sd
 ·rcases(mp y).mp q with rfl|q
  ·exact hj
  ·exact T.lp y q
 ·have q':=(md y).mp q
  rcases(mp y).mp w with rfl|w
  ·exact q'.2 rfl
  ·exact T.dj y q'.1 w
 ·rw[el,A4 _ _ _ _ _ (by rw[IA];exact T.sz.symm)] at hx
  unfold eP at hx;have hx:x=(h,j)\/x∈hs.zip t.place.toList:=by
   rcases IQ.mp hx with q|q
   ·exact .inr (L3 q)
   ·rcases Jn.mp q with q|q
    ·exact .inl q
    ·exact .inr (N8 q)
  rcases hx with rfl|hx
  ·obtain⟨m,e,q⟩:=rc
   exact⟨m,e,λm' hm=>us _ (q m' hm)⟩
  ·obtain⟨m,e,q⟩:=T.rc x hx
   exact⟨m,e,λm' hm=>us _ (q m' hm)⟩
theorem TOk.drop {t:JZ}{hs:List Int}(T:TOk t hs){i j:Nat}(hi:t.place[i]? =some j):TOk (t.drop i) (hs.eraseIdx i):=by
 have ed:t.drop i={t with place:=JA t.place i,dummies:=Jt t.dummies (Ji t.dummies j) j}:=by
  unfold TW;rw[hi]
 have hi':t.place.toList[i]? =some j:=by rw[IT];exact hi
 have jm:j∈t.place.toList:=Jq hi'
 have lt:i<t.place.size:=(Ko.mp hi).1
 rw[ed];have el:(JA t.place i).toList=t.place.toList.eraseIdx i:=dZ _ _
 have mp: ∀y,y∈(JA t.place i).toList↔y∈t.place.toList/\y≠j:=λy=>by rw[el];exact oV T.sp hi' y
 have md:=nX t.dummies (Ji t.dummies j) j
 have us: ∀y,oI t y->y∈(JA t.place i).toList\/y∈(Jt t.dummies (Ji t.dummies j) j).toList:=λy q=>by
  rcases q with q|q
  ·by_cases e:y=j
   ·exact .inr ((md y).mpr (.inl e))
   ·exact .inl ((mp y).mpr ⟨q,e⟩)
  ·exact .inr ((md y).mpr (.inr q))
 refine⟨T.pw,?_,?_,mN T.sd λw=>T.dj j w jm,λy q=>T.lp y ((mp y).mp q).1,λy q=>?_,λy q w=>?_,?_,λx hx=>?_⟩
 ·show(JA t.place i).size=_
  rw[<-IA,el,KS,KS,IA,T.sz]
 ·show Ris (JA t.place i)
  unfold Ris;rw[el];exact JD (LP _ _) T.sp
 ·rcases(md y).mp q with rfl|q
  ·exact T.lp y jm
  ·exact T.ld y q
 ·have w':=(mp y).mp w
  rcases(md y).mp q with rfl|q
  ·exact w'.2 rfl
  ·exact T.dj y q w'.1
 ·show(JA t.place i).size+(Jt t.dummies (Ji t.dummies j) j).size<=t.mask
  have fl:=T.fl
  unfold QR at fl;rw[<-IA,el,KS,<-IA (xs:=Jt _ _ _),Kx,if_pos (by rw[IA];exact lt)]
  simp;omega
 ·have hx:x∈(hs.eraseIdx i).zip (t.place.toList.eraseIdx i):=by rw[<-el];exact hx
  have:x∈hs.zip t.place.toList:=by
   obtain⟨n,hn⟩:=JC.mp hx
   rw[Ld,PB,PB] at hn;obtain⟨h1,h2⟩:=hn
   split at h1
   ·rw[if_pos (by assumption)] at h2;exact JC.mpr ⟨n,Ld.mpr ⟨h1,h2⟩⟩
   ·rw[if_neg (by assumption)] at h2;exact JC.mpr ⟨n+1,Ld.mpr ⟨h1,h2⟩⟩
  obtain⟨m,e,q⟩:=T.rc x this
  exact⟨m,e,λm' hm=>us _ (q m' hm)⟩
abbrev lw:=Array (Option Nat)
def AR(ow:lw)(j:Nat):Prop:=ow[j]? =some none
def Bi(ow:lw)(j:Nat):Prop:= ∃k,ow[j]? =some (some k)
theorem fre_is {ow:lw}{j:Nat}:(ow.getD j (some 0)).isNone=true↔AR ow j:=by
 unfold AR Ku
 by_cases h:j<ow.size
 ·simp only[h,dite_true]
  rw[IU h];show(ow[j]).isNone=true↔_;rw[Option.isNone_iff_eq_none,YA]
 ·simp[h]
theorem uR {ow:lw}{j:Nat}(h:j<ow.size)(n: ¬AR ow j):Bi ow j:=by
 unfold AR at n;unfold Bi;rw[IU h] at n⊢;cases e:ow[j] with
 |none=>rw[e] at n;exact absurd rfl n
 |some k=>exact⟨k,rfl⟩
def Jl(mask i p m:Nat):Nat:=(df mask m (jj mask i p none)).j
theorem lv {mask i:Nat}(hi:i<=mask):JJ mask i<=mask/\i<=JJ mask i:=by
 unfold JJ;split<;>omega
theorem uy {mask i p m:Nat}(h:i+m<=JJ mask i):Jl mask i p m=i+m:=by
 unfold Jl;rw[qo mask m _ (show m<=JJ mask i-i by omega)]
 rfl
theorem vW(mask i p m:Nat):Jl mask i p ((JJ mask i-i)+1+m)=Jl mask ((i*5+1+p / 32) % (mask+1)) (p / 32) m:=by
 unfold Jl;rw[j2];have:=sk mask (jj mask i p none)
 have e:(jj mask i p none).more=JJ mask i-i:=rfl
 rw[e] at this;rw[this];rfl
theorem vJ {mask:Nat}{ow:lw}(hz:ow.size=mask+1): ∀(fuel i p:Nat),i<=mask->(∃n,n<fuel/\AR ow (lp mask n (i,p)).1)->
 ∃j m,K5 mask ow fuel i p=some j/\AR ow j/\Jl mask i p m=j/\ ∀m',m'<m->Bi ow (Jl mask i p m')
 |0,i,p,_,⟨n,h,_⟩=>absurd h (Nf _)
 |fuel+1,i,p,hi,⟨n,h,hf⟩=>by
  have re:=lv hi
  unfold K5;cases e:(Iy (JJ mask i+1-i)).find? λk=>(ow.getD (i+k) (some 0)).isNone with
  |some k=>
   have h1:=List.find?_some e
   have hk:k<JJ mask i+1-i:=Ja.mp (List.mem_of_find?_eq_some e)
   refine⟨i+k,k,rfl,fre_is.mp h1,uy (by omega),λm' hm=>?_⟩
   rw[uy (by omega)]
   refine uR (by omega) λw=>?_
   rw[List.find?_range_eq_some] at e;have:=e.2.2 m' hm
   rw[fre_is.mpr w] at this;exact absurd this (by decide)
  |none=>
   have no: ∀k,k<JJ mask i+1-i-> ¬AR ow (i+k):=λk hk w=>by
    have:=OF.mp e k (Ja.mpr hk)
    exact this (fre_is.mpr w)
   dsimp only;obtain⟨j,m,g1,g2,g3,g4⟩:=vJ hz fuel ((i*5+1+p / 32) % (mask+1)) (p / 32) (Mw.mp (Ls _ (by omega))) (by
    cases n with
    |zero=>exact absurd hf (no 0 (by omega))
    |succ n=>exact⟨n,by omega,hf⟩)
   refine⟨j,(JJ mask i-i)+1+m,g1,g2,by rw[vW];exact g3,λm' hm=>?_⟩
   by_cases c:m'<=JJ mask i-i
   ·rw[uy (by omega)]
    exact uR (by omega) (no m' (by omega))
   ·obtain⟨m2,rfl⟩:=Pg (show JJ mask i-i+1<=m' by omega)
    rw[vW];exact g4 m2 (by omega)
structure LInv(mask:Nat)(ow:lw)(hs:List Int):Prop where
 sz:ow.size=mask+1
 lt: ∀(j k:Nat),ow[j]? =some (some k)->k<hs.length
 un: ∀(j j' k:Nat),ow[j]? =some (some k)->ow[j']? =some (some k)->j=j'
 ex: ∀(k:Nat) (h:Int),hs[k]? =some h-> ∃j m:Nat,ow[j]? =some (some k)/\Jx mask h m=j/\ ∀m',m'<m->Bi ow (Jx mask h m')
theorem LInv.room {mask:Nat}{ow:lw}{hs:List Int}(I:LInv mask ow hs)(hl:hs.length<=mask): ∃j,j<=mask/\AR ow j:=by
 refine Kt λh=>?_
 have all: ∀j,j<=mask->Bi ow j:=λj hj=>uR (by rw[I.sz];omega) λw=>h ⟨j,hj,w⟩
 let f:Nat->Nat:=λj=>((ow[j]?).getD none).getD 0
 have hf: ∀j,j<=mask->ow[j]? =some (some (f j)):=λj hj=>by
  obtain⟨k,e⟩:=all j hj
  show _=some (some (((ow[j]?).getD none).getD 0));rw[e];rfl
 have nd:((Iy (mask+1)).map f).Nodup:=by
  rw[SQ,KB];refine M4 (λ{a b} ha hb hab e=>?_) Ly
  rw[Ja] at ha hb;have:=I.un a b (f a) (hf a (by omega)) (by rw[e];exact hf b (by omega))
  omega
 have:=oN nd (n:=hs.length) λz hz=>by
  obtain⟨j,hj,rfl⟩:=Jd.mp hz
  exact I.lt j _ (hf j (by rw[Ja] at hj;omega))
 simp at this;omega
theorem Ao {k mask:Nat}(hk:mask+1=2^k){ow:lw}{hs:List Int}(I:LInv mask ow hs)(hl:hs.length<=mask)(h:Int):
 ∃j,K5 mask ow (LJ mask) (Jy h % (mask+1)) (Jy h)=some j/\LInv mask (ow.setIfInBounds j (some hs.length)) (hs++[h]):=by
 obtain⟨jf,h1,h2⟩:=I.room hl
 have hi:Jy h % (mask+1)<=mask:=Mw.mp (Ls _ (by omega))
 obtain⟨n,hn,e⟩:=yR hk hi (wC h) h1
 obtain⟨j,m,g1,g2,g3,g4⟩:=vJ I.sz (LJ mask) _ _ hi ⟨n,by unfold LJ;omega,by rw[e];exact h2⟩
 have jl:j<ow.size:=by
  unfold AR at g2;exact(Ko.mp g2).1
 have gs: ∀x,(ow.setIfInBounds j (some hs.length))[x]? =if j=x then some (some hs.length) else ow[x]? :=λx=>by
  rw[Array.getElem?_setIfInBounds];split<;>rfl
 have occ': ∀x,Bi ow x->Bi (ow.setIfInBounds j (some hs.length)) x:=λx hq_=>by
  obtain⟨q,hq⟩:=hq_
  unfold Bi;rw[gs];split
  ·exact⟨_,rfl⟩
  ·exact⟨q,hq⟩
 refine⟨j,g1,by rw[Li];exact I.sz,λx q hq=>?_,λx x' q hq hq'=>?_,λq z hz=>?_⟩
 ·rw[gs] at hq
  rw[IR,KM];split at hq
  ·cases hq;omega
  ·have:=I.lt x q hq;omega
 ·rw[gs] at hq hq'
  split at hq
  ·rename_i c
   cases hq
   split at hq'
   ·rename_i c';rw[<-c,<-c']
   ·have:=I.lt _ _ hq';omega
  ·split at hq'
   ·cases hq';have:=I.lt _ _ hq;omega
   ·exact I.un x x' q hq hq'
 ·by_cases c:q<hs.length
  ·rw[Js c] at hz
   obtain⟨x,m',e1,e2,e3⟩:=I.ex q z hz
   refine⟨x,m',?_,e2,λm'' hm=>occ' _ (e3 m'' hm)⟩
   rw[gs,if_neg λw=>?_]
   ·exact e1
   ·subst w;unfold AR at g2;rw[g2] at e1;cases e1
  ·have hq:q=hs.length:=by
    have:=(IE.mp hz).1
    rw[IR,KM] at this;omega
   subst hq;rw[JE (Iv _),Ri] at hz;cases hz
   exact⟨j,m,by rw[gs,if_pos rfl],g3,λm' hm=>occ' _ (g4 m' hm)⟩
theorem vZ {k mask:Nat}(hk:mask+1=2^k): ∀(rest hs:List Int) (ow:lw),LInv mask ow hs->hs.length+rest.length<=mask+1->
 ∃ow',rest.foldl (λacc h=>do
  let(owner,k) <-acc
  let j <-K5 mask owner (LJ mask) (Jy h % (mask+1)) (Jy h)
  pure (owner.setIfInBounds j (some k),k+1)) (some (ow,hs.length))=some (ow',hs.length+rest.length)/\LInv mask ow' (hs++rest)
 | [],hs,ow,I,_=>⟨ow,rfl,by rw[KD];exact I⟩
 |h::rest,hs,ow,I,hl=>by
  rw[Jg] at hl;obtain⟨j,e,I'⟩:=Ao hk I (by omega) h
  obtain⟨ow',e2,I2⟩:=vZ hk rest (hs++[h]) _ I' (by rw[IR,KM];omega)
  rw[IR,KM] at e2;refine⟨ow',?_,by rw[Jb] at I2;exact I2⟩
  rw[Og];have:(do
   let(owner,k) <-some (ow,hs.length)
   let j <-K5 mask owner (LJ mask) (Jy h % (mask+1)) (Jy h)
   pure (owner.setIfInBounds j (some k),k+1):Option (lw×Nat))=some (ow.setIfInBounds j (some hs.length),hs.length+1):=by
   show(K5 mask ow (LJ mask) (Jy h % (mask+1)) (Jy h)).bind (λj=>some (ow.setIfInBounds j (some hs.length),hs.length+1))=_
   rw[e];rfl
  rw[this,e2,Jg];congr 2;omega
theorem w8(mask:Nat):LInv mask (Sz (mask+1) none) [] where
 sz:=by simp
 lt:=λj k h=>by
  rw[O5] at h;split at h<;>cases h
 un:=λj j' k h=>by
  rw[O5] at h;split at h<;>cases h
 ex:=λk h e=>by simp at e
def gq(mask:Nat)(ow:lw):List (Nat×Nat):=(Iy (mask+1)).filterMap λj=>(ow.getD j none).map (j, ·)
theorem yH {mask:Nat}{ow:lw}(hz:ow.size=mask+1){x:Nat×Nat}:x∈gq mask ow↔ow[x.1]? =some (some x.2):=by
 unfold gq;rw[OG];constructor
 ·rintro⟨j,hj,e⟩
  rw[Ja] at hj;have:j<ow.size:=by omega
  simp only[Ku,this,dite_true] at e;obtain⟨k,e1,rfl⟩:=JR.mp e
  show ow[j]? =some (some k);rw[IU this,<-e1];rfl
 ·intro h
  obtain⟨h1,h2⟩:=Ko.mp h
  refine⟨x.1,Ja.mpr (by omega),?_⟩
  simp only[Ku,h1,dite_true];have:ow.getInternal x.1 h1=some x.2:=h2
  rw[this];rfl
theorem sD(mask:Nat)(ow:lw):((gq mask ow).map (·.1)).Pairwise (·< ·):=by
 unfold gq;have: ∀l:List Nat,(l.filterMap λj=>(ow.getD j none).map (j, ·)).map (·.1)=l.filter λj=>(ow.getD j none).isSome:=by
  intro l
  induction l with
  |nil=>rfl
  |cons j l ih=>
   rw[Lu,List.filter_cons];cases e:ow.getD j none with
   |none=>exact ih
   |some k=>show j::_=_;rw[ih];rfl
 rw[this];exact ML _ Ly
theorem we {k mask:Nat}(h3:3<=k)(h12:k<=12)(hk:mask+1=2^k)(finger moves:Nat)(led Up:Bool)(hs:Array Int)(hl:hs.size<=mask):
 ∃place order:Array Nat,O6 mask finger moves led Up hs=some (⟨mask,place, #[],finger,led,moves,Up⟩,order)/\order.toList.Perm (Iy hs.size)/\
  TOk ⟨mask,place, #[],finger,led,moves,Up⟩ (order.toList.map λk=>hs.toList.getD k 0):=by
 obtain⟨ow,e,I⟩:=vZ hk hs.toList [] _ (w8 mask) (by simp;omega)
 rw[PZ] at I;have elay:Rk mask hs=some ow:=by
  unfold Rk;rw[<-Array.foldl_toList];have e:hs.toList.foldl _ (some (Sz (mask+1) none,0))=_:=e
  rw[e];rfl
 have mem:= @yH mask ow I.sz
 have o1:((gq mask ow).map (·.2)).Nodup:=by
  rw[SQ,KB];have:=sD mask ow
  rw[KB] at this;refine this.imp_of_mem λ{a b} ha hb hab w=>?_
  have h1:=mem.mp ha
  have h2:=mem.mp hb
  rw[<-w] at h2;have:=I.un _ _ _ h1 h2
  omega
 have o2: ∀k,k∈(gq mask ow).map (·.2)↔k∈Iy hs.size:=λk=>by
  rw[Jd,Ja];constructor
  ·rintro⟨x,hx,rfl⟩
   have:=I.lt _ _ (mem.mp hx)
   simpa using this
  ·intro h
   obtain⟨j,m,h1,_⟩:=I.ex k (hs.toList[k]'(by simpa using h)) (Iq _)
   exact⟨(j,k),mem.mpr h1,rfl⟩
 have occ: ∀x,Bi ow x->x∈(gq mask ow).map (·.1):=λx ⟨q,hq⟩=>Jd.mpr ⟨(x,q),mem.mpr hq,rfl⟩
 refine⟨((gq mask ow).map (·.1)).toArray,((gq mask ow).map (·.2)).toArray,?_,?_,⟨k,h3,h12,hk⟩,?_,?_,?_,?_,?_,?_,?_,?_⟩
 ·unfold O6
  rw[elay];rfl
 ·exact(J7 o1 Mg).mpr o2
 ·simp
 ·exact sD mask ow
 ·exact Mz
 ·intro j hj
  obtain⟨x,hx,rfl⟩:=Jd.mp hj
  have:=(Ko.mp (mem.mp hx)).1
  show x.1<=mask;rw[I.sz] at this;omega
 ·intro j hj;cases hj
 ·intro j hj;cases hj
 ·show((gq mask ow).map (·.1)).toArray.size+0<=mask
  have hp:=((J7 o1 Mg).mpr o2).length_eq
  simp at hp⊢;omega
 ·intro x hx
  have hx:x∈((((gq mask ow).map (·.2)).map λk=>hs.toList.getD k 0)).zip ((gq mask ow).map (·.1)):=hx
  rw[I0,List.zip_map'] at hx;obtain⟨y,hy,rfl⟩:=Jd.mp hx
  have hy':=mem.mp hy
  have lt:=I.lt _ _ hy'
  obtain⟨j,m,e1,e2,e3⟩:=I.ex y.2 (hs.toList[y.2]'lt) (Iq _)
  have ej:=I.un _ _ _ e1 hy'
  have eg:hs.toList.getD y.2 0=hs.toList[y.2]'lt:=by rw[JL,Iq lt];rfl
  refine⟨m,?_,λm' hm=>.inl ?_⟩
  ·show Jx mask (hs.toList.getD y.2 0) m=y.1
   rw[eg,e2,ej]
  ·show Jx mask (hs.toList.getD y.2 0) m'∈((gq mask ow).map (·.1))
   rw[eg];exact occ _ (e3 m' hm)
theorem j1: ∀(fuel s n:Nat),n<s*2^fuel-> ∃e,e<=fuel/\NJ n fuel s=s*2^e/\n<s*2^e/\(e=0\/s*2^e<=2*n)
 |0,s,n,h=>⟨0,by omega,by simp[NJ],h,.inl rfl⟩
 |fuel+1,s,n,h=>by
  unfold NJ
  by_cases c:s<=n
  ·rw[if_pos c]
   obtain⟨e,h1,h2,h3,h4⟩:=j1 fuel (s*2) n (by rw[N3] at h;rw[N0];exact h)
   refine⟨e+1,by omega,by rw[h2,N3,N0],by rw[N3,<-N0];exact h3,.inr ?_⟩
   rw[N3,<-N0];rcases h4 with rfl|h4
   ·simp;omega
   ·exact h4
  ·rw[if_neg c]
   exact⟨0,by omega,by simp,by simp;omega,.inl rfl⟩
theorem gV {n:Nat}(hn:n<=4095): ∃k,3<=k/\k<=12/\JF n=2^k/\n<2^k:=by
 obtain⟨e,h1,h2,h3,h4⟩:=j1 64 8 n (Mp hn (by decide))
 have hp:8*2^e=2^(3+e):=by rw[Sf]
 refine⟨3+e,by omega,?_,h2.trans hp,by rw[<-hp];exact h3⟩
 rcases h4 with rfl|h4
 ·omega
 ·refine Kt λc=>?_
  have:=Lm (n:=2) (by omega) (show 13<=3+e by omega)
  rw[<-hp] at this;have:(2:Nat)^13=8192:=by decide
  omega
open PySem PySem.Spec PyProof.Rows
def th(ks:List Int):Int:=reduceHash (TM (ks.map hashInt))
abbrev KI(prog:Jf)(w:Jr):HeapKind prog w (List Int):=NR (intKind prog w)
theorem vV(prog:Jf)(w:Jr)(ks:List Int):(KI prog w).hash ks=th ks:=rfl
def r9(x:List Int×Addr):Int×Value:=(th x.1,.ref x.2)
abbrev fL:=List (List Int×Addr)
def ni(xs:fL):List Int:=xs.map λx=>th x.1
def oW(prog:Jf)(w:Jr)(h:Heap)(xs:fL):Prop:= ∀x∈xs,(KI prog w).is h x.1 x.2
structure SetAt(w:Jr)(o:Obj)(es:Array (Int×Il))(ep:Nat)(t:JZ)(xs:fL):Prop where
 ex:o.ExactSet
 hd:o.data=.set es ep t
 he:es.toList=xs.map r9
 T:TOk t (ni xs)
 led:t.led= !w.params.followText "set-order"
 pl:t.plain=true
 nd:(xs.map (·.1)).Nodup
section
variable {prog:Jf}{w:Jr}{A:Jm}{E:Il->Io->Prop}{s:Io}{a b:Addr}{o:Obj}{es:Array (Int×Il)}{ep:Nat}{t:JZ}{xs:fL}{k:List Int}
theorem SetAt.size(S:SetAt w o es ep t xs):es.size=xs.length:=by
 have:=congrArg KU S.he
 simpa using this
theorem SetAt.fits(S:SetAt w o es ep t xs):t.fits es.size=true:=by
 have h1:=S.T.sz
 have h2:=S.T.fl
 unfold ni at h1;rw[Iu] at h1;unfold SetTable.fits;rw[S.size,h1];simp[h2]
theorem SetAt.at_(S:SetAt w o es ep t xs)(i:Nat):es[i]? =(xs[i]?).map r9:=by
 rw[<-IT,S.he,JO]
theorem lH {k:List Int}(hk:(KI prog w).is s.heap k b){Q:Bool->Io->Prop}(h:Q false s):IF (model prog w) A (OU 8 (.ref b)) Q E s:=by
 have hT:=Rl (s:=s) hk
 obtain⟨o,items,n,ho,hc,hd,hi⟩:=hk
 unfold OU;refine Ik (Rm hT ?_)
 dsimp only;rw[if_pos (by decide)]
 refine Ik (Im ?_)
 simp only[Mx,IB,if_false];refine Ik (SU ho hd ?_)
 dsimp only;refine Ik ?_
 rw[<-Q3];refine Pi _ (λrest r s'=>r.1=none/\s'=s/\ ∀v∈rest,SV v=true) _ ?_ ?_ _ _ ⟨rfl,rfl,hi.byValue⟩
 ·rintro v rest r s' ⟨hr,rfl,hall⟩
  have hv:=hall v Jh
  have:OU 7 v=pure false:=by
   cases v with
   |ref a=>simp[SV] at hv
   |_=>rfl
  rw[this];refine Ik (Im ?_)
  simp only[IB,if_false];exact Im ⟨rfl,rfl,λu hu'=>hall u (IZ _ hu')⟩
 ·rintro⟨r1,r2⟩ s' ⟨hr,rfl,_⟩
  simp only at hr;subst hr;exact Im h
theorem p6 {k:List Int}(hk:(KI prog w).is s.heap k b){vs:List Il}(hv: ∀v∈vs,∃k' c,v=.ref c/\(KI prog w).is s.heap k' c){Q:Bool->Io->Prop}(h:Q false s):IF (model prog w) A (Ro (.ref b) vs) Q E s:=by
 unfold Ro;refine Ik ?_
 refine Pi _ (λrest r s'=>r.1=none/\s'=s/\ ∀v∈rest,∃k' c,v=.ref c/\(KI prog w).is s.heap k' c) _ ?_ ?_ _ _ ⟨rfl,rfl,hv⟩
 ·rintro v rest r s' ⟨hr,rfl,hall⟩
  obtain⟨k',c,rfl,hc⟩:=hall v Jh
  dsimp only;split
  ·exact Im ⟨rfl,rfl,λu hu'=>hall u (IZ _ hu')⟩
  ·refine Ik ((KI prog w).quiet hk ?_)
   simp only[Mx,IB,if_false];refine Ik ((KI prog w).quiet hc ?_)
   simp only[Mx,IB,if_false];refine Ik (lH hk ?_)
   simp only[IB,if_false];refine Ik (lH hc ?_)
   simp only[IB,if_false];exact Im ⟨rfl,rfl,λu hu'=>hall u (IZ _ hu')⟩
 ·rintro⟨r1,r2⟩ s' ⟨hr,rfl,_⟩
  simp only at hr;subst hr;exact Im h
def Hv(es:Array (Int×Il))(i:Nat):Int:=(es[i]?.map (·.1)).getD 0
theorem xy {α:Type}{m:Sem Bool}{U R:Sem α}{c:Bool}{Q:α->Io->Prop}(hK:IF (model prog w) A R Q E s)(hm:IF (model prog w) A m (λb s'=>b=false/\s'=s) E s):
 IF (model prog w) A (if c=true then(m>>=λx=>if x=true then U else R) else R) Q E s:=by
 split
 ·refine Ik (Jo hm (λb s' ⟨h1,h2⟩=>?_) λ_ _ x=>x)
  subst h1 h2;simp only[IB,if_false];exact hK
 ·exact hK
theorem lV(ho:s.heap.get? a=some o)(S:SetAt w o es ep t xs)(hE:oW prog w s.heap xs)(hu:A.units<Kk)(hk:(KI prog w).is s.heap k b)(adding:Bool){M:Nat}(hM:M<=10*(13+t.mask))
 (h1: ¬oI t (Jx t.mask (th k) M)) (h2: ∀m,m<M->oI t (Jx t.mask (th k) m)) {Q:SetFound->Io->Prop}
 (hyes: ∀(i:Nat) (c:Addr),xs[i]? =some (k,c)->Q (.there (if adding then none else some i)) s)
 (hno:k∉xs.map (·.1)-> ∀(d:Option Nat),Gp t (th k) M d->Q (.free (d.getD (Jx t.mask (th k) M)) d.isSome) s):
 ∀(fuel m:Nat) (st:Option Pb) (d:Option Nat),M<m+fuel->m<=M->Gp t (th k) M d->st.getD (t.probeStart (th k))=df t.mask m (pW t.mask (th k) d)->
  (∀(i:Nat) (c:Addr) (j:Nat),xs[i]? =some (k,c)->t.place[i]? =some j-> ∃m0,m<=m0/\m0<M/\Jx t.mask (th k) m0=j)->
  IF (model prog w) A (TY a (.ref b) (th k) adding fuel st) Q E s
 |0,m,st,d,q1,q2,_,_,_=>absurd q1 (by omega)
 |fuel+1,m,st,d,q1,q2,hd,hst,hin=>by
  have T:=S.T
  have kiu:(KI prog w).room A:=hu
  have hsz: ∀i:Nat,(∃j,t.place[i]? =some j)↔ ∃x,xs[i]? =some x:=λi=>by
   have e1:=T.sz
   unfold ni at e1;rw[Iu] at e1;constructor
   ·rintro⟨j,hj⟩
    have:=(Ko.mp hj).1
    exact⟨_,Iq (show i<xs.length by omega)⟩
   ·rintro⟨x,hx⟩
    have:=(IE.mp hx).1
    exact⟨_,IU (show i<t.place.size by omega)⟩
  unfold TY;refine Ik (JG ho S.hd S.fits ?_)
  dsimp only;rw[T.noway];simp only[IB,if_false];rw[hst];unfold SetTable.probe;obtain⟨r,hr,hc⟩:=nu T (Hv es) h1 h2 (10*LJ t.mask) m d (by unfold LJ;omega) q2 hd
  generalize hP:OT t _ (th k) _ _=P
  obtain rfl:P=some r:=hP.symm.trans hr
  dsimp only;have hat: ∀(i:Nat) (x:List Int×Addr),xs[i]? =some x->Hv es i=th x.1:=λi x hx=>by
   unfold Hv;rw[S.at_,hx];rfl
  rcases hc with⟨d',rfl,dd,nc⟩|⟨c,i,d',a1,a2,a3,a4,rfl,dd,nc⟩
  ·have nk:k∉xs.map (·.1):=λw=>by
    obtain⟨x,hx,rfl⟩:=Jd.mp w
    obtain⟨i,hi⟩:=JC.mp hx
    obtain⟨j,hj⟩:=(hsz i).mpr ⟨x,hi⟩
    obtain⟨m0,g1,g2,g3⟩:=hin i x.2 j hi hj
    exact nc m0 g1 g2 i (by rw[g3];exact hj) (hat i x hi)
   have:=hno nk d' dd
   dsimp only;cases d' with
   |none=>exact Im this
   |some z=>
    dsimp only;have e:(adding&&t.slot z !=WY)=false:=by
     rw[nN T (dd z rfl).1];simp
    rw[e];simp only[IB,if_false];exact Im this
  ·obtain⟨x,hx⟩:=(hsz i).mp ⟨_,a3⟩
   have ex:es[i]? =some (th x.1,.ref x.2):=by rw[S.at_,hx];rfl
   have hxm:=Jq hx
   have hxk:=hE x hxm
   dsimp only;refine xy ?_ (p6 hk (λv hv=>?_) ⟨rfl,rfl⟩)
   ·rw[ex]
    dsimp only;refine Ik (JM ((KI prog w).eqBool (x:=x.1) (y:=k) kiu hxk hk ?_))
    refine Ik (JG ho S.hd S.fits ?_)
    dsimp only;have sm:t.sameMemory t.moves t.mask=some true:=by unfold SetTable.sameMemory;rw[if_pos (beq_self_eq_true _)]
    by_cases ek:x.1=k
    ·rw[decide_eq_true ek]
     have hy:=hyes i x.2 (by rw[hx,<-ek])
     cases adding with
     |true=>simp only[QT,if_true];exact Im hy
     |false=>
      simp only[Qj,IB,if_false];rw[sm];dsimp only;rw[if_pos rfl,lc T a3];dsimp only;rw[ex];dsimp only;refine Ik (P8 ?_)
      simp only[if_true];refine Ik (Im ?_)
      dsimp only;exact Im hy
    ·rw[decide_eq_false ek,SW]
     simp only[IB,if_false];rw[sm];dsimp only;rw[if_pos rfl,lc T a3];dsimp only;rw[ex];dsimp only;refine Ik (P8 ?_)
     simp only[if_true];refine Ik (Im ?_)
     dsimp only;refine lV ho S hE hu hk adding hM h1 h2 hyes hno fuel (c+1) _ d' (by omega) (by omega) dd rfl λi' c' j' hi' hj'=>?_
     obtain⟨m0,g1,g2,g3⟩:=hin i' c' j' hi' hj'
     refine⟨m0,?_,g2,g3⟩
     refine Kt λw=>?_
     by_cases e:m0=c
     ·subst e
      have:=T.sp.inj a3 (by rw[g3];exact hj')
      subst this;rw[hx] at hi';cases hi'
      exact ek rfl
     ·exact nc m0 g1 (by omega) i' (by rw[g3];exact hj') (hat i' _ hi')
   ·obtain⟨e,he,rfl⟩:=Jd.mp hv
    have he:e∈es:=(Array.mem_filter.mp (MM.mp he)).1
    have he:e∈xs.map r9:=by rw[<-S.he];exact MM.mpr he
    obtain⟨y,hy,rfl⟩:=Jd.mp he
    exact⟨y.1,y.2,rfl,hE y hy⟩
end
theorem Dv(mask:Nat)(p:Pb)(h:p.j+p.more<=mask):(vP mask p).j+(vP mask p).more<=mask:=by
 unfold vP;split
 ·dsimp only;omega
 ·have hi:(M5 mask p.i p.perturb).1<=mask:=Mw.mp (Ls _ (by omega))
  have:=lv hi
  dsimp only;omega
theorem GI(mask:Nat)(h:Int)(m:Nat):Jx mask h m<=mask:=by
 have: ∀m,(df mask m (pW mask h none)).j+(df mask m (pW mask h none)).more<=mask:=λm=>by
  induction m with
  |zero=>
   have hi:Jy h % (mask+1)<=mask:=Mw.mp (Ls _ (by omega))
   have:=lv hi
   show Jy h % (mask+1)+(JJ mask (Jy h % (mask+1)) -Jy h % (mask+1))<=mask;omega
  |succ m ih=>rw[gH];exact Dv mask _ ih
 have:=this m
 unfold Jx;omega
structure SetOk(w:Jr)(o:Obj)(es:Array (Int×Il))(ep:Nat)(t:JZ)(xs:fL):Prop extends SetAt w o es ep t xs where
 f5:t.fill*5<t.mask*3
section
variable {prog:Jf}{w:Jr}{A:Jm}{E:Il->Io->Prop}{s:Io}{a b:Addr}{o:Obj}{es:Array (Int×Il)}{ep:Nat}{t:JZ}{xs:fL}{k:List Int}
theorem mX(ho:s.heap.get? a=some o)(S:SetAt w o es ep t xs)(hE:oW prog w s.heap xs)(hu:A.units<Kk)(hk:(KI prog w).is s.heap k b)(adding:Bool){Q:SetFound->Io->Prop}
 (hyes: ∀(i:Nat) (c:Addr),xs[i]? =some (k,c)->Q (.there (if adding then none else some i)) s)
 (hno:k∉xs.map (·.1)-> ∀(j:Nat) (wd:Bool),j<=t.mask->(wd=true->j∈t.dummies.toList)->(wd=false-> ¬oI t j)->(∃m,Jx t.mask (th k) m=j/\ ∀m',m'<m->oI t (Jx t.mask (th k) m'))->Q (.free j wd) s):
 IF (model prog w) A (setSearch a (.ref b) (th k) adding) Q E s:=by
 obtain⟨M,hM,h1,h2⟩:=S.T.first (th k)
 have mk:=S.T.mask
 unfold setSearch;refine lV ho S hE hu hk adding hM h1 h2 hyes (λnk d dd=>?_) 100000 0 none none (by omega) (by omega) (λx hx=>by cases hx) rfl λi c j hi hj=>?_
 ·cases d with
  |none=>exact hno nk _ _ (GI _ _ _) (λw=>by cases w) (λ_=>h1) ⟨M,rfl,h2⟩
  |some z=>
   obtain⟨z1,m,z2,z3⟩:=dd z rfl
   exact hno nk z true (S.T.ld z z1) (λ_=>z1) (λw=>by cases w) ⟨m,z3,λm' hm=>h2 m' (by omega)⟩
 ·obtain⟨m0,e,q⟩:=S.T.rc (th k,j) (JC.mpr ⟨i,Ld.mpr ⟨by unfold ni;rw[JO,hi];rfl,by rw[IT];exact hj⟩⟩)
  refine⟨m0,by omega,?_,e⟩
  have ju:oI t j:=.inl (Jq (by rw[IT];exact hj))
  rcases LZ m0 M with c|c|c
  ·exact c
  ·subst c;rw[e] at h1;exact absurd ju h1
  ·exact absurd (q M c) h1
theorem nr(b:Addr)(es:Array (Int×Il)):byScan (.ref b) es=false:=rfl
theorem sY(ho:s.heap.get? a=some o)(S:SetAt w o es ep t xs)(hE:oW prog w s.heap xs)(hu:A.units<Kk)(hk:(KI prog w).is s.heap k b){Q:Option Nat->Io->Prop}
 (hyes: ∀(i:Nat) (c:Addr),xs[i]? =some (k,c)->Q (some i) s) (hno:k∉xs.map (·.1)->Q none s):IF (model prog w) A (setFind a (.ref b) (th k)) Q E s:=by
 unfold setFind setFindIn;refine Ik (JG ho S.hd S.fits ?_)
 dsimp only;rw[nr];simp only[IB,if_false];refine Ik (mX ho S hE hu hk false (λi c hi=>?_) λnk j wd _ _ _ _=>?_)
 ·exact Im (hyes i c hi)
 ·exact Im (hno nk)
theorem yv {k:List Int}(hk:(KI prog w).is s.heap k b){Q:Bool->Io->Prop}(h:Q true s):IF (model prog w) A (Sh 8 (.ref b)) Q E s:=by
 have hT:=Rl (s:=s) hk
 obtain⟨o,items,n,ho,hc,hd,hi⟩:=hk
 unfold Sh;refine Ik (Oh hT F.slot_tuple_hash.lookup ?_)
 refine Ik (SU ho hd ?_)
 dsimp only;refine Ik ?_
 show IF _ _ (forIn items _ _) _ _ _;rw[<-Q3];have hall: ∀v∈items.toList,∃(i:Int) (tk:Tok),v=.int i tk:=by
  intro v hv;clear ho hd hT
  generalize items.toList=l at hi hv
  induction hi with
  |nil=>cases hv
  | @cons k v' ks vs h1 _ ih=>
    rcases Jn.mp hv with rfl|hv
    ·obtain⟨tk,rfl⟩:=Rp h1;exact⟨_,_,rfl⟩
    ·exact ih hv
 refine Pi _ (λrest r s'=>r.1=none/\s'=s/\ ∀v∈rest,∃(i:Int) (tk:Tok),v=.int i tk) _ ?_ ?_ _ _ ⟨rfl,rfl,hall⟩
 ·rintro v rest r s' ⟨hr,rfl,hall⟩
  obtain⟨i,tk,rfl⟩:=hall v Jh
  have:Sh 7 (.int i tk)=pure true:=rfl
  rw[this];refine Ik (Im ?_)
  simp only[Mx,IB,if_false];exact Im ⟨rfl,rfl,λu hu'=>hall u (IZ _ hu')⟩
 ·rintro⟨r1,r2⟩ s' ⟨hr,rfl,_⟩
  simp only at hr;subst hr;exact Im h
theorem oM(S:SetAt w o es ep t xs):(es.map (·.1)).toList=ni xs:=by
 rw[RP,S.he,I0];rfl
def lY(xs:fL)(ix:List Nat):fL:=ix.map λi=>xs.getD i ([],0)
theorem i8 {xs:fL}{ix:List Nat}(p:ix.Perm (Iy xs.length)):(lY xs ix).Perm xs:=by
 have e:(Iy xs.length).map (λi=>xs.getD i ([],0))=xs:=by
  refine List.ext_getElem (by simp) λi h1 h2=>?_
  simp[JL,h2]
 have:=p.map λi=>xs.getD i ([],0)
 rw[e] at this;exact this
theorem oU(S:SetAt w o es ep t xs){wanted:Nat}(hw:wanted<=4095)(hl:xs.length*5<wanted*3): ∃(place order:Array Nat) (mv:Nat),t.relaid (es.map (·.1)) wanted=some (⟨JF wanted-1,place, #[],t.finger,t.led,mv,t.plain⟩,order)/\
 order.toList.Perm (Iy xs.length)/\(∀(o':Obj) (ep':Nat),o'.ExactSet->o'.data=.set (order.filterMap (es[·]?)) ep' ⟨JF wanted-1,place, #[],t.finger,t.led,mv,t.plain⟩->
  SetOk w o' (order.filterMap (es[·]?)) ep' ⟨JF wanted-1,place, #[],t.finger,t.led,mv,t.plain⟩ (lY xs order.toList))/\(order.filterMap (es[·]?)).size=es.size:=by
 obtain⟨q,h3,h12,e,hlt⟩:=gV hw
 have sz:(es.map (·.1)).size=xs.length:=by rw[Qk,S.size]
 have hk:JF wanted-1+1=2^q:=by rw[e];omega
 obtain⟨place,order,g1,g2,g3⟩:=we h3 h12 hk t.finger (t.movedTo (JF wanted-1)) t.led t.plain (es.map (·.1)) (by rw[sz,e];omega)
 rw[sz] at g2;have lt: ∀i∈order.toList,i<xs.length:=λi hi=>Ja.mp (g2.mem_iff.mp hi)
 have el:(order.filterMap (es[·]?)).toList=(lY xs order.toList).map r9:=by
  rw[PD];unfold lY;rw[I0];have key: ∀l:List Nat,(∀i∈l,i<xs.length)->l.filterMap (λi=>es[i]?)=l.map (r9∘λi=>xs.getD i ([],0)):=by
   intro l
   induction l with
   |nil=>intro _;rfl
   |cons i l ih=>
    intro hl;have h1:=hl i Jh
    have e1:es[i]? =some (r9 (xs.getD i ([],0))):=by
     rw[S.at_,Iq h1];simp[JL,h1]
    rw[Lu,e1,Ix,ih λj hj=>hl j (IZ _ hj)]
    rfl
  exact key _ lt
 have et:ni (lY xs order.toList)=order.toList.map λk=>(es.map (·.1)).toList.getD k 0:=by
  unfold ni lY;rw[I0];refine JH λi hi=>?_
  have:=lt i hi
  rw[oM S];show th (xs.getD i ([],0)).1=(ni xs).getD i 0;unfold ni;simp[JL,this]
 have pp:=i8 g2
 refine⟨place,order,_,g1,g2,λo' ep' hex hd=>?_,?_⟩
 ·refine⟨⟨hex,hd,el,by rw[et];exact g3,S.led,S.pl,?_⟩,?_⟩
  ·exact((pp.map (·.1)).nodup_iff).mpr S.nd
  ·have z:=g3.sz
   rw[Iu,g2.length_eq,Lo] at z;show(place.size+0)*5<(JF wanted-1)*3;have z:place.size=xs.length:=z
   rw[z,e];omega
 ·rw[<-IA,el,Iu,pp.length_eq,S.size]
theorem AF(ho:s.heap.get? a=some o)(S:SetAt w o es ep t xs){wanted:Nat}(hw:wanted<=4095)(hl:xs.length*5<wanted*3){Q:Unit->Io->Prop}
 (h: ∀h' o' es' ep' t' xs',Kh a s.heap h'->h'.get? a=some o'->SetOk w o' es' ep' t' xs'->xs'.Perm xs->Q () {s with heap:=h'}):IF (model prog w) A (V3 a wanted) Q E s:=by
 obtain⟨place,order,mv,g1,g2,g3,g4⟩:=oU S hw hl
 obtain⟨q,h3,h12,e,hlt⟩:=gV hw
 have e0:V3 a wanted=(do
  let(es,_,t) <-Rq a
  if JF wanted>IM then Kz "set:memory"
  let(es,t) <-(do
   let some (t,order):=t.relaid (es.map (·.1)) wanted|Kz "internal:set-table-without-room"
   let es':=order.filterMap (es[·]?)
   if es'.size !=es.size then Kz "internal:set-table-lost-an-element"
   pure (es',t):Sem (Array (Int×Il)×JZ))
  SX a es t):=rfl
 rw[e0];refine Ik (JG ho S.hd S.fits ?_)
 dsimp only;have p12:2^q<=2^12:=Lm (by omega) h12
 rw[if_neg (by rw[e,JP];have:(2:Nat)^12=4096:=by decide
               omega),g1]
 dsimp only;rw[g4,bne_self_eq_false];simp only[IB,if_false];refine Ik (Im ?_)
 dsimp only;have sl:(order.filterMap (es[·]?)).size<=sizeLine:=by
  rw[g4,S.size,JP];omega
 refine L4 ho S.hd ?_ sl
 have hg:=JN (Nn (order.filterMap (es[·]?)) ⟨JF wanted-1,place, #[],t.finger,t.led,mv,t.plain⟩) ho (by rw[Mi _ _ S.hd];rfl)
 rw[Mi _ _ S.hd] at hg;exact h _ _ _ _ _ _ (Ke s.heap a _) hg (g3 _ _ S.ex rfl) (i8 g2)
end
theorem Ar {t:JZ}{hs:List Int}(T:TOk t hs){j:Nat}(wd:Bool)(h1:wd=true->j∈t.dummies.toList)(h2:wd=false-> ¬oI t j):(t.put j).1.fill=if wd then t.fill else t.fill+1:=by
 have e1:(Jt t.place (Ji t.place j) j).size=t.place.size+1:=by
  have:=congrArg KU (Kx t.place (Ji t.place j) j)
  rw[IA] at this;rw[this];have b:=(FZ T.sp j).le
  simp;omega
 show(Jt t.place (Ji t.place j) j).size+(if Ot t.dummies j=true then JA t.dummies (Ji t.dummies j) else t.dummies).size=_
 rw[e1];unfold QR;cases wd with
 |true=>
  have hm:=h1 rfl
  obtain⟨i,hi⟩:=JC.mp hm
  rw[IT] at hi;have lt:=(Ko.mp hi).1
  have e2:(JA t.dummies (Ji t.dummies j)).size=t.dummies.size-1:=by
   rw[<-IA,dZ,KS,pZ T.sd hi,if_pos (by rw[IA];exact lt),IA]
  rw[if_pos ((iJ T.sd j).mpr hm),if_pos rfl,e2];omega
 |false=>
  have hn:=h2 rfl
  rw[if_neg λw=>hn (.inr ((iJ T.sd j).mp w)),if_neg (by decide)];omega
theorem kW {α β:Type}(f:α->β): ∀(l:List α) (i:Nat),(l.map f).eraseIdx i=(l.eraseIdx i).map f
 | [],_=>rfl
 |_::_,0=>rfl
 |a::l,i+1=>by rw[Ix,Pj,Pj,Ix,kW f l i]
section
variable {prog:Jf}{w:Jr}{A:Jm}{E:Il->Io->Prop}{s:Io}{a b:Addr}{o:Obj}{es:Array (Int×Il)}{ep:Nat}{t:JZ}{xs:fL}{k:List Int}
theorem zW {α:Type}(l:List α)(p:Nat)(x:α):(eP l p x).Perm (l++[x]):=by
 unfold eP;refine Pl.trans ?_
 rw[JT];exact(List.perm_append_singleton x l).symm
theorem pR(ho:s.heap.get? a=some o)(S:SetOk w o es ep t xs)(hE:oW prog w s.heap xs)(hu:A.units<Kk)(hk:(KI prog w).is s.heap k b)(hlen:xs.length<=1000){Q:Bool->Io->Prop}
 (hyes:k∈xs.map (·.1)->Q false s)
 (hno:k∉xs.map (·.1)-> ∀h' o' es' ep' t' xs',Kh a s.heap h'->h'.get? a=some o'->SetOk w o' es' ep' t' xs'->xs'.Perm (xs++[(k,b)])->Q true {s with heap:=h'}):
 IF (model prog w) A (PF a (.ref b) (th k)) Q E s:=by
 have S':=S.toSetAt
 unfold PF setAddHashedIn;refine JM (Ik (JG ho S.hd S'.fits ?_))
 dsimp only;rw[nr];simp only[IB,if_false];refine Ik (mX ho S' hE hu hk true (λi c hi=>?_) λnk j wd hj hd1 hd2 hrc=>?_)
 ·exact Im (hyes (Jd.mpr ⟨(k,c),Jq hi,rfl⟩))
 ·dsimp only
  refine Ik (JG ho S.hd S'.fits ?_)
  dsimp only;have T:=S.T
  have nj:j∉t.place.toList:=λw=>by
   cases wd with
   |true=>exact T.dj j (hd1 rfl) w
   |false=>exact hd2 rfl (.inl w)
  have fp:=Ar T wd hd1 hd2
  have f5:=S.f5
  obtain⟨q,q3,q12,qe⟩:=T.pw
  have p3:2^3<=2^q:=Lm (by omega) q3
  have fl:(t.put j).1.fill<=t.mask:=by rw[fp];split<;>omega
  have T2:=T.put hj nj hrc fl
  have pl:(t.put j).1.plain=true:=S.pl
  have hsz:=S'.size
  have el:(Jt es (t.put j).2 (th k,JI b)).toList=(eP xs (t.put j).2 (k,b)).map r9:=by
   rw[Kx,S.he];unfold eP;rw[JK,Ix,QU,TZ];rfl
  have et:ni (eP xs (t.put j).2 (k,b))=eP (ni xs) (t.put j).2 (th k):=by
   unfold ni eP;rw[JK,Ix,QU,TZ]
  have pp:=zW xs (t.put j).2 (k,b)
  have nd2:((eP xs (t.put j).2 (k,b)).map (·.1)).Nodup:=by
   refine((pp.map (·.1)).nodup_iff).mpr ?_
   rw[JK,KJ];exact⟨S.nd,by simp,λx hx y hy=>by
    simp only[Ix,Ou,Jc] at hy;subst hy;exact λe=>nk (e▸hx)⟩
  have sz2:(Jt es (t.put j).2 (th k,JI b)).size=xs.length+1:=by
   rw[<-IA,el,Iu,pp.length_eq];simp
  have S2: ∀(o':Obj) (ep':Nat),o'.ExactSet->o'.data=.set (Jt es (t.put j).2 (th k,JI b)) ep' (t.put j).1->SetAt w o' (Jt es (t.put j).2 (th k,JI b)) ep' (t.put j).1 (eP xs (t.put j).2 (k,b)):=
   λo' ep' hex hd=>⟨hex,hd,el,by rw[et];exact T2,S.led,pl,nd2⟩
  have hg:=JN (Nn (Jt es (t.put j).2 (th k,JI b)) (t.put j).1) ho (by rw[Mi _ _ S.hd];rfl)
  rw[Mi _ _ S.hd] at hg;rw[pl];simp only[if_true];refine Ik (yv hk ?_)
  simp only[if_true];refine Ik (L4 ho S.hd ?_ (by rw[sz2,JP];omega))
  have hb:=Ke s.heap a (Nn (Jt es (t.put j).2 (th k,JI b)) (t.put j).1)
  split
  ·rename_i hc
   rw[JB] at hc;refine Ik (AF (s:={s with heap:=s.heap.update a (Nn (Jt es (t.put j).2 (th k,JI b)) (t.put j).1)}) hg (S2 _ _ S.ex rfl) ?_ ?_ λh' o' es' ep' t' xs' g1 g2 g3 g4=>?_)
   ·rw[hsz];unfold SZ;split<;>omega
   ·rw[hsz,pp.length_eq];unfold SZ
    rw[IR,KM];split<;>omega
   ·exact Im (hno nk h' o' es' ep' t' xs' (hb.trans g1) g2 g3 (g4.trans pp))
  ·rename_i hc
   refine Im (hno nk _ _ _ _ _ _ hb hg ⟨S2 _ _ S.ex rfl,?_⟩ pp)
   show(t.put j).1.fill*5<t.mask*3;rw[fp];cases wd with
   |true=>exact f5
   |false=>
    have hc: ¬(t.put j).1.tooFull=true:=λw=>hc (by rw[w];rfl)
    unfold SetTable.tooFull at hc;rw[decide_eq_true_eq,fp] at hc;have:(t.put j).1.mask=t.mask:=rfl
    rw[this] at hc;simp only[IB,if_false] at hc⊢;omega
theorem lE(ho:s.heap.get? a=some o)(S:SetOk w o es ep t xs)(hE:oW prog w s.heap xs)(hu:A.units<Kk)(hk:(KI prog w).is s.heap k b)(hlen:xs.length<=1000){Q:Bool->Io->Prop}
 (hno:k∉xs.map (·.1)->Q false s)
 (hyes:k∈xs.map (·.1)-> ∀h' o' es' ep' t' xs',Kh a s.heap h'->h'.get? a=some o'->SetOk w o' es' ep' t' xs'->(∃i c,xs[i]? =some (k,c)/\xs'=xs.eraseIdx i)->Q true {s with heap:=h'}):
 IF (model prog w) A (Pn a (.ref b) (th k)) Q E s:=by
 have S':=S.toSetAt
 unfold Pn;refine Ik (sY ho S' hE hu hk (λi c hi=>?_) λnk=>?_)
 ·dsimp only
  refine Ik (JG ho S.hd S'.fits ?_)
  dsimp only;have T:=S.T
  have zz:=T.sz
  unfold ni at zz;rw[Iu] at zz;have il:=(IE.mp hi).1
  have hp:t.place[i]? =some (t.place[i]'(by omega)):=IU (by omega)
  have T2:=T.drop hp
  have el:(JA es i).toList=(xs.eraseIdx i).map r9:=by
   rw[dZ,S.he,kW]
  have et:ni (xs.eraseIdx i)=(ni xs).eraseIdx i:=by unfold ni;rw[kW]
  have sz2:(JA es i).size<=1000:=by
   rw[<-IA,el,Iu];exact JS (Po _ _) hlen
  have hg:=JN (Nn (JA es i) (t.drop i)) ho (by rw[Mi _ _ S.hd];rfl)
  rw[Mi _ _ S.hd] at hg;have ed:t.drop i={t with place:=JA t.place i,dummies:=Jt t.dummies (Ji t.dummies (t.place[i]'(by omega))) (t.place[i]'(by omega))}:=by
   unfold TW;rw[hp]
  refine Ik (L4 ho S.hd ?_ (by rw[JP];omega))
  refine Ik (wpAny_point ?_)
  refine Im (hyes (Jd.mpr ⟨(k,c),Jq hi,rfl⟩) _ _ _ _ _ (xs.eraseIdx i) (Ke s.heap a _) hg ⟨⟨S.ex,rfl,el,by rw[et];exact T2,by rw[ed];exact S.led,by rw[ed];exact S.pl,?_⟩,?_⟩ ⟨i,c,hi,rfl⟩)
  ·rw[<-kW]
   exact LK (LP _ _) S.nd
  ·have f5:=S.f5
   have ff:(t.drop i).fill=t.fill:=by
    rw[ed];show(JA t.place i).size+(Jt t.dummies _ _).size=t.place.size+t.dummies.size;rw[<-IA,dZ,KS,<-IA (xs:=Jt _ _ _),Kx,if_pos (by rw[IA];omega)]
    have b:=(FZ T.sd (t.place[i]'(by omega))).le
    simp;omega
   rw[ff,ed];exact f5
 ·exact Im (hno nk)
end
abbrev bt:=Sum Int Str
def oY:bt->Il->Bool
 | .inl k,v=>V4 k v
 | .inr x,v=>T0 x v
def HB(w:Jr):bt->Int
 | .inl k=>hashInt k
 | .inr x=>hashStr w x
theorem bG: ∀ {k:bt} {v:Il},oY k v=true->(∃i t,k=OV i/\v=NS i t)\/(∃x t,k=QE x/\v=Uq x t)
 | .inl i,v,h=>by
   obtain⟨t,e⟩:=Rp (k:=i) (v:=v) h
   exact .inl ⟨i,t,rfl,e⟩
 | .inr x,v,h=>by
   obtain⟨t,e⟩:=Value.isStrOf_shape (x:=x) (v:=v) h
   exact .inr ⟨x,t,rfl,e⟩
theorem w6(i:Int)(t:Tok):oY (.inl i) (.int i t)=true:=by simp[oY,V4]
theorem xh(x:Str)(t:Tok):oY (.inr x) (.str x t)=true:=by simp[oY,T0]
theorem EB(a b:Int):decide ((OV a:bt)=OV b)=(a==b):=by
 by_cases e:a=b
 ·subst e;simp
 ·have h: ¬(OV a:bt)=OV b:=λq=>e (Sum.inl.inj q)
  rw[decide_eq_false h];exact(beq_eq_false_iff_ne.mpr e).symm
theorem EK(a b:Str):decide ((QE a:bt)=QE b)=decide (a=b):=by
 by_cases e:a=b
 ·subst e;simp
 ·have h: ¬(QE a:bt)=QE b:=λq=>e (Sum.inr.inj q)
  rw[decide_eq_false h,decide_eq_false e]
theorem Ec(a:Int)(b:Str):decide ((OV a:bt)=QE b)=false:=decide_eq_false (λq=>nomatch q)
theorem El(a:Str)(b:Int):decide ((QE a:bt)=OV b)=false:=decide_eq_false (λq=>nomatch q)
def bJ(prog:Jf)(w:Jr):PySem.KeyKind prog w bt where
 is:=oY
 hash:=HB w
 inj:=λv a b ha hb=>by
  rcases bG ha with⟨i,t,rfl,rfl⟩|⟨x,t,rfl,rfl⟩
  ·rcases bG hb with⟨j,u,rfl,e⟩|⟨y,u,rfl,e⟩
   ·injection e with e1 _;rw[e1]
   ·exact nomatch e
  ·rcases bG hb with⟨j,u,rfl,e⟩|⟨y,u,rfl,e⟩
   ·exact nomatch e
   ·injection e with e1 _;rw[e1]
 byValue:=λk v h=>by
  rcases bG h with⟨i,t,rfl,rfl⟩|⟨x,t,rfl,rfl⟩<;>rfl
 pyHash:=λhv h=>by
  rcases bG hv with⟨i,t,rfl,rfl⟩|⟨x,t,rfl,rfl⟩
  ·exact wpAny_pyHash_int h
  ·exact wpAny_pyHash_str h
 eqBool:=λhu hv h=>by
  rcases bG hu with⟨i,t,rfl,rfl⟩|⟨x,t,rfl,rfl⟩
  ·rcases bG hv with⟨j,u,rfl,rfl⟩|⟨y,u,rfl,rfl⟩
   ·rw[EB] at h;exact RQ h
   ·rw[Ec] at h;exact Q4 i t y u _ _ _ _ h
  ·rcases bG hv with⟨j,u,rfl,rfl⟩|⟨y,u,rfl,rfl⟩
   ·rw[El] at h;exact Q5 x t j u _ _ _ _ h
   ·rw[EK] at h;exact wpAny_eqBool_str h
 «strs»:=λk x t v h=>by
  rcases bG h with⟨i,u,rfl,e⟩|⟨y,u,rfl,e⟩
  ·exact nomatch e
  ·injection e with e1 _
   subst e1;cases v<;>rfl
theorem rD(prog:Jf)(w:Jr)(i:Int)(t:Tok):(bJ prog w).is (.inl i) (.int i t)=true:=w6 i t
theorem sP(prog:Jf)(w:Jr)(x:Str)(t:Tok):(bJ prog w).is (.inr x) (.str x t)=true:=xh x t
inductive V where
 |non|bl (b:Bool)|int (i:Int)|str (x:Str)|byt (b:Array UInt8)|flt (b:UInt64)|ref (a:Addr)|ty (n:String)
 deriving DecidableEq
def RelV:V->Il->Prop
 | .non,u=>u=IV
 | .bl b,u=>u=XG b
 | .int i,u=> ∃t,u=NS i t
 | .str x,u=> ∃t,u=Uq x t
 | .byt b,u=> ∃t,u=Value.bytes b t
 | .flt b,u=> ∃t,u=Value.float b t
 | .ref a,u=>u=JI a
 | .ty n,u=>u=S0 n
abbrev Vals:List V->List Il->Prop:=NA RelV
theorem Vals.length {xs:List V}{us:List Il}(r:Vals xs us):xs.length=us.length:=L7 r
theorem Vals.get: ∀ {xs:List V} {us:List Il} {i:Nat} {x:V},Vals xs us->xs[i]? =some x-> ∃u,us[i]? =some u/\RelV x u
 |_,_,_,_,.nil,e=>by simp at e
 |_,_,0,_,.cons r _,e=>by simp at e;subst e;exact⟨_,rfl,r⟩
 |_,_,i+1,x,.cons _ t,e=>by
  obtain⟨u,h1,h2⟩:=Vals.get (i:=i) (x:=x) t (by simpa using e)
  exact⟨u,by simpa using h1,h2⟩
theorem Vals.set {x:V}{u:Il}(r:RelV x u): ∀ {xs:List V} {us:List Il} (i:Nat),Vals xs us->Vals (xs.set i x) (us.set i u)
 |_,_,_,.nil=>.nil
 |_,_,0,.cons _ t=>.cons r t
 |_,_,i+1,.cons q t=>.cons q (Vals.set r i t)
theorem Vals.append: ∀ {xs ys:List V} {us ws:List Il},Vals xs us->Vals ys ws->Vals (xs++ys) (us++ws)
 |_,_,_,_,.nil,s=>s
 |_,_,_,_,.cons r t,s=>.cons r (Vals.append t s)
theorem Vals.take: ∀ {xs:List V} {us:List Il} (n:Nat),Vals xs us->Vals (xs.take n) (us.take n)
 |_,_,0,_=>.nil
 |_,_,_+1,.nil=>.nil
 |_,_,n+1,.cons r t=>.cons r (Vals.take n t)
theorem Vals.drop: ∀ {xs:List V} {us:List Il} (n:Nat),Vals xs us->Vals (xs.drop n) (us.drop n)
 |_,_,0,r=>r
 |_,_,_+1,.nil=>.nil
 |_,_,n+1,.cons _ t=>Vals.drop n t
def RelO:Option V->Option Il->Prop
 |some v,some u=>RelV v u
 |none,none=>True
 |_,_=>False
def KV {κ:Type}:List (κ×V)->List (κ×Il)->Prop:=NA λ(p:κ×V) (q:κ×Il)=>p.1=q.1/\RelV p.2 q.2
def kV:bt->V
 | .inl i=>.int i
 | .inr x=>.str x
inductive HO where
 |lst (xs:List V)
 |tup (xs:List V)
 |dK (kvs:List (bt×V))|dT (kvs:List (List bt×V))
 |set (S:Int->Bool) (n:Nat)
 |tst (xs:List (List Int×Addr))
 |ins (C dx:Addr) (fs:List (Str×V))
 |own (x:Addr)
 |xd (fs:List (Str×V))
 |met (f x:Addr)
 |rng (lo hi:Int)
 |frz (o:Obj) (u:HO)
 |tbl (ps:Array Il)
 |ext (φ:Heap->Prop)
abbrev Hp:=Addr->Option HO
def bp(H:Hp)(a:Addr)(o:HO):Hp:=λb=>if b=a then some o else H b
theorem aC {H:Hp}{a:Addr}{o:HO}:bp H a o a=some o:=by unfold bp;rw[if_pos rfl]
theorem aA {H:Hp}{a b:Addr}{o:HO}(h:b≠a):bp H a o b=H b:=by unfold bp;rw[if_neg h]
theorem Fw {H:Hp}{a b:Addr}{o u:HO}(h:H a=some o)(h':H b=some u)(d:o≠u):a≠b:=by
 intro e;subst e;rw[h] at h';exact d (Jv h')
theorem aX {H:Hp}{a b:Addr}{o:HO}(h:H a=some o)(h':H b=none):a≠b:=by
 intro e;subst e;rw[h] at h';cases h'
section
variable(P:Jf)(w:Jr)
def ObjOk(H:Hp)(h:Heap)(a:Addr):HO->Prop
 | .lst xs=>xs.length<=IM/\ ∃(its:List Il) (n:Nat),Vals xs its/\h.get? a=some {cls:=.type "list",data:=.seq its.toArray n}
 | .tup xs=>xs.length<=IM/\ ∃its:List Il,Vals xs its/\IsTup h a its.toArray/\ ∃o,h.get? a=some o/\o.dict=none
 | .dK kvs=>kvs.length<=IM/\(a==LL)=false/\ ∃vs,KV kvs vs/\h.DictOf (bJ P w) a vs
 | .dT kvs=>kvs.length<=IM/\(a==LL)=false/\ ∃xs:List (List bt×Addr×Il),
    NA (λ(p:List bt×V) (q:List bt×Addr×Il)=>p.1=q.1/\H q.2.1=some (.tup (p.1.map kV))/\RelV p.2 q.2.2) kvs xs/\
    ∃o es ep,h.get? a=some o/\o.ExactDict/\o.data=.dict es ep/\es.toList=xs.map (entryOfKey (NR (bJ P w)))/\(xs.map (·.1)).Nodup
 | .set S n=>h.SetOf (intKind P w) a S n
 | .tst xs=> ∃o es ep t,h.get? a=some o/\SetOk w o es ep t xs
 | .ins C dx fs=>H dx=some (.own a)/\fs.length<=1000/\dx≠a/\h.get? a=some (W.instObj C dx)/\
    ∃mA,h.Ns1 dx mA/\(∀f,RelO (fs.lookup f) (mA f))/\PySem.Within mA (fs.map (·.1))
 | .own _=> ∃o,h.get? a=some o
 | .xd fs=> ∃mA,h.Ns1 a mA/\ ∀f,RelO (fs.lookup f) (mA f)
 | .rng lo hi=> ∃t u v,h.get? a=some {cls:=.type "range",data:=.fields #[.int lo t,.int hi u,.int 1 v]}
 | .frz o u=>h.get? a=some o/\ObjOk H h a u
 | .tbl ps=>h.get? a=some {cls:=.none,data:=.fields ps}
 | .met f x=>h.get? a=some (Si (.ref f) (.ref x))
 | .ext φ=>φ h/\(∃o,h.get? a=some o)/\ ∀h1 h2:Heap,φ h1->(∀o,h1.get? a=some o->h2.get? a=some o)->φ h2
def HOk(H:Hp)(h:Heap):Prop:= ∀a o,H a=some o->ObjOk P w H h a o
end
section
variable {P:Jf}{w:Jr}{H H':Hp}{h h':Heap}{a:Addr}{o:HO}
theorem ObjOk.lt(x:ObjOk P w H h a o):a<h.objs.size:=by
 cases o with
 |lst xs=>obtain⟨_,_,_,_,e⟩:=x;exact IJ e
 |tup xs=>obtain⟨_,_,_,p,_⟩:=x;exact p.lt
 |dK kvs=>obtain⟨_,_,_,_,o,_,_,e,_⟩:=x;exact IJ e
 |dT kvs=>obtain⟨_,_,_,_,o,_,_,e,_⟩:=x;exact IJ e
 |set S n=>obtain⟨o,_,_,_,e,_⟩:=x;exact IJ e
 |tst xs=>obtain⟨o,_,_,_,e,_⟩:=x;exact IJ e
 |ins C dx fs=>obtain⟨_,_,_,e,_⟩:=x;exact IJ e
 |own y=>obtain⟨_,e⟩:=x;exact IJ e
 |xd fs=>obtain⟨_,⟨_,_,_,e,_⟩,_⟩:=x;exact IJ e
 |rng lo hi=>obtain⟨_,_,_,e⟩:=x;exact IJ e
 |frz ob u=>obtain⟨e,_⟩:=x;exact IJ e
 |tbl ps=>exact IJ (show h.get? a=some _ from x)
 |met f y=>exact IJ (show h.get? a=some _ from x)
 |ext φ=>obtain⟨_,⟨_,e⟩,_⟩:=x;exact IJ e
theorem NA.mapP {α β:Type}{F G:α->β->Prop}: ∀ {l₁:List α} {l₂:List β},NA F l₁ l₂->(∀a b,F a b->G a b)->NA G l₁ l₂
 |_,_,.nil,_=>.nil
 |_,_,.cons r t,f=>.cons (f _ _ r) (NA.mapP t f)
theorem ObjOk.stay(x:ObjOk P w H h a o)(k: ∀b u,(b=a\/H b=some (.own a))->h.get? b=some u->h'.get? b=some u)
 (ho: ∀b,H b=some (.own a)->H' b=some (.own a)) (ht: ∀b xs,H b=some (.tup xs)->H' b=some (.tup xs)):ObjOk P w H' h' a o:=by
 induction o with
 |lst xs=>obtain⟨z,its,n,r,e⟩:=x;exact⟨z,its,n,r,k _ _ (.inl rfl) e⟩
 |tup xs=>obtain⟨z,its,r,⟨ob,e,c⟩,ob2,e2,c2⟩:=x;exact⟨z,its,r,⟨ob,k _ _ (.inl rfl) e,c⟩,ob2,k _ _ (.inl rfl) e2,c2⟩
 |dK kvs=>obtain⟨z,y,vs,r,ob,es,ep,e,c⟩:=x;exact⟨z,y,vs,r,ob,es,ep,k _ _ (.inl rfl) e,c⟩
 |dT kvs=>
  obtain⟨z,y,xs,r,ob,es,ep,e,c⟩:=x
  exact⟨z,y,xs,NA.mapP r λp q z=>⟨z.1,ht _ _ z.2.1,z.2.2⟩,ob,es,ep,k _ _ (.inl rfl) e,c⟩
 |set S n=>obtain⟨ob,es,ep,t,e,c⟩:=x;exact⟨ob,es,ep,t,k _ _ (.inl rfl) e,c⟩
 |tst xs=>obtain⟨ob,es,ep,t,e,c⟩:=x;exact⟨ob,es,ep,t,k _ _ (.inl rfl) e,c⟩
 |ins C dx fs=>
  obtain⟨d,z,ne,e,mA,⟨od,es,ep,e2,c⟩,r⟩:=x
  exact⟨ho _ d,z,ne,k _ _ (.inl rfl) e,mA,⟨od,es,ep,k _ _ (.inr d) e2,c⟩,r⟩
 |own y=>obtain⟨ob,e⟩:=x;exact⟨ob,k _ _ (.inl rfl) e⟩
 |xd fs=>obtain⟨mA,⟨od,es,ep,e,c⟩,r⟩:=x;exact⟨mA,⟨od,es,ep,k _ _ (.inl rfl) e,c⟩,r⟩
 |rng lo hi=>obtain⟨t,u,v,e⟩:=x;exact⟨t,u,v,k _ _ (.inl rfl) e⟩
 |frz ob u ih=>obtain⟨e,q⟩:=x;exact⟨k _ _ (.inl rfl) e,ih q⟩
 |tbl ps=>
  have e:h.get? a=some {cls:=.none,data:=.fields ps}:=x
  show h'.get? a=some {cls:=.none,data:=.fields ps};exact k a _ (.inl rfl) e
 |met f y=>
  have e:h.get? a=some (Si (.ref f) (.ref y)):=x
  show h'.get? a=some (Si (.ref f) (.ref y));exact k a _ (.inl rfl) e
 |ext φ=>obtain⟨p,⟨o,e⟩,st⟩:=x;exact⟨st _ _ p λo q=>k _ _ (.inl rfl) q,⟨o,k _ _ (.inl rfl) e⟩,st⟩
theorem HOk.lt(x:HOk P w H h)(e:H a=some o):a<h.objs.size:=(x a o e).lt
theorem HOk.fresh(x:HOk P w H h)(e:h.objs.size<=a):H a=none:=by
 cases q:H a with
 |none=>rfl
 |some u=>exact absurd (IL (x.lt q) e) (LA _)
theorem HOk.kept(x:HOk P w H h)(k: ∀b u,h.get? b=some u->h'.get? b=some u):HOk P w H h':=λa o e=>
 (x a o e).stay (λb u _ q=>k b u q) (λ_ q=>q) λ_ _ q=>q
theorem HOk.laid(x:HOk P w H h)(k: ∀b u,h.get? b=some u->h'.get? b=some u)(hp:h.objs.size<=a)(new:ObjOk P w (bp H a o) h' a o):HOk P w (bp H a o) h':=λb u e=>by
 have hn:=x.fresh hp
 by_cases hb:b=a
 ·subst hb;rw[aC] at e;cases e;exact new
 ·rw[aA hb] at e
  exact(x b u e).stay (λc v _ q=>k c v q) (λc q=>by rw[aA (aX q hn)];exact q) λc xs q=>by rw[aA (aX q hn)];exact q
end
def Rd(H:Hp)(a:Addr)(u:HO):Prop:=H a=some u\/ ∃o,H a=some (.frz o u)
theorem Rd.ok {P:Jf}{w:Jr}{H:Hp}{h:Heap}{a:Addr}{u:HO}(r:Rd H a u)(x:HOk P w H h):ObjOk P w H h a u:=by
 rcases r with r|⟨o,r⟩
 ·exact x a u r
 ·obtain⟨_,q⟩:=x a _ r
  exact q
def Gw:Option HO->Prop
 |some (.lst _)=>True
 |some (.dK _)=>True
 |some (.dT _)=>True
 |some (.set _ _)=>True
 |some (.tst _)=>True
 |some (.ins _ _ _)=>True
 |some (.ext _)=>True
 |_=>False
section
variable {P:Jf}{w:Jr}{H:Hp}{h h':Heap}{x e:Addr}{o':HO}
theorem HOk.write(ok:HOk P w H h)(mu:Gw (H x))(he:e=x\/H e=some (.own x))(k: ∀b u,b≠e->h.get? b=some u->h'.get? b=some u)(heo: ∃u,h'.get? e=some u)
 (new:ObjOk P w (bp H x o') h' x o'):HOk P w (bp H x o') h':=λb u q=>by
 have nown: ∀c y,H c=some (.own y)->c≠x:=λc y r z=>by subst z;rw[r] at mu;exact mu
 have ntup: ∀c xs,H c=some (.tup xs)->c≠x:=λc xs r z=>by subst z;rw[r] at mu;exact mu
 by_cases hb:b=x
 ·subst hb;rw[aC] at q;cases q;exact new
 ·rw[aA hb] at q
  by_cases hbe:b=e
  ·have q':H b=some (.own x):=by
    rcases he with z|z
    ·exact absurd (hbe.trans z) hb
    ·rw[hbe];exact z
   rw[q] at q';cases q';obtain⟨v,hv⟩:=heo
   exact⟨v,by rw[hbe];exact hv⟩
  ·refine(ok b u q).stay (λc v hc r=>k c v ?_ r) (λc r=>by rw[aA (nown c b r)];exact r) λc xs r=>by rw[aA (ntup c xs r)];exact r
   rcases hc with rfl|hc
   ·exact hbe
   ·rintro rfl
    rcases he with z|z
    ·exact nown c b hc z
    ·rw[hc] at z;cases z;exact hb rfl
end
structure Un(fs ex:List Addr)(H H':Hp)(h h':Heap):Prop where
 keep: ∀b o,h.get? b=some o->H b=none->b∉fs->b∉ex->h'.get? b=some o
 slot: ∀b o,h.get? b=some o->H b=none->b∈fs->b∉ex-> ∃sl,h'.get? b=some {o with slots:=sl}
 free: ∀b o,h.get? b=some o->H b=none->b∉ex->H' b=none
 there: ∀b o,h.get? b=some o->b∉ex-> ∃o',h'.get? b=some o'
 tups: ∀b xs,H b=some (.tup xs)->H' b=some (.tup xs)
 frzs: ∀b o u,H b=some (.frz o u)->H' b=some (.frz o u)
 tbls: ∀b ps,H b=some (.tbl ps)-> ∃more,H' b=some (.tbl (ps++more))
section
variable {fs fs' ex ex':List Addr}{H H1 H2:Hp}{h h1 h2 h':Heap}{a x e:Addr}{o:HO}
theorem Un.any(u:Un fs ex H H1 h h1){b:Addr}{ob:Obj}(q:h.get? b=some ob)(n:H b=none)(hx:b∉ex): ∃sl,h1.get? b=some {ob with slots:=sl}:=by
 by_cases hb:b∈fs
 ·exact u.slot b ob q n hb hx
 ·exact⟨ob.slots,u.keep b ob q n hb hx⟩
theorem Un.trans(a:Un fs ex H H1 h h1)(b:Un fs ex H1 H2 h1 h2):Un fs ex H H2 h h2 where
 keep:=λc ob q n hc hx=>b.keep c ob (a.keep c ob q n hc hx) (a.free c ob q n hx) hc hx
 slot:=λc ob q n hc hx=>by
  obtain⟨sl,e1⟩:=a.slot c ob q n hc hx
  obtain⟨sl',e2⟩:=b.slot c _ e1 (a.free c ob q n hx) hc hx
  exact⟨sl',e2⟩
 free:=λc ob q n hx=>by
  obtain⟨o',e1⟩:=a.there c ob q hx
  exact b.free c o' e1 (a.free c ob q n hx) hx
 there:=λc ob q hx=>by
  obtain⟨o',e1⟩:=a.there c ob q hx
  exact b.there c o' e1 hx
 tups:=λc xs q=>b.tups c xs (a.tups c xs q)
 frzs:=λc ob xs q=>b.frzs c ob xs (a.frzs c ob xs q)
 tbls:=λc ps q=>by
  obtain⟨m1,e1⟩:=a.tbls c ps q
  obtain⟨m2,e2⟩:=b.tbls c _ e1
  exact⟨m1++m2,by rw[e2,Q6]⟩
theorem Un.kept(k: ∀b u,h.get? b=some u->h'.get? b=some u):Un fs ex H H h h':=
 ⟨λb ob q _ _ _=>k b ob q,λb ob q _ _ _=>⟨ob.slots,k b ob q⟩,λ_ _ _ n _=>n,λb ob q _=>⟨ob,k b ob q⟩,λ_ _ q=>q,λ_ _ _ q=>q,λ_ ps q=>⟨#[],by rw[q];simp⟩⟩
theorem Un.refl:Un fs ex H H h h:=Un.kept λ_ _ q=>q
theorem Un.laid(k: ∀b u,h.get? b=some u->h'.get? b=some u)(hp:h.objs.size<=a)(hn:H a=none):Un fs ex H (bp H a o) h h' where
 keep:=λb u q _ _ _=>k b u q
 slot:=λb u q _ _ _=>⟨u.slots,k b u q⟩
 free:=λb u q n _=>by rw[aA (Jp (IL (IJ q) hp))];exact n
 there:=λb u q _=>⟨u,k b u q⟩
 tups:=λb xs q=>by rw[aA (aX q hn)];exact q
 frzs:=λb u xs q=>by rw[aA (aX q hn)];exact q
 tbls:=λb ps q=>⟨#[],by rw[aA (aX q hn),q];simp⟩
theorem Un.write(mu:Gw (H x))(he:e=x\/H e=some (.own x))(k: ∀b u,b≠e->h.get? b=some u->h'.get? b=some u)(heo: ∃u,h'.get? e=some u):Un fs ex H (bp H x o) h h':=by
 have hx: ∀b,H b=none->b≠x:=λb n z=>by subst z;rw[n] at mu;exact mu
 have hb: ∀b,H b=none->b≠e:=λb n z=>by
  subst z;rcases he with r|r
  ·exact hx b n r
  ·rw[n] at r;cases r
 have hm: ∀b u,H b=some u-> ¬Gw (some u)->b≠x:=λb u q nm z=>by subst z;rw[q] at mu;exact nm mu
 refine⟨λb u q n _ _=>k b u (hb b n) q,λb u q n _ _=>⟨u.slots,k b u (hb b n) q⟩,λb u q n _=>by rw[aA (hx b n)];exact n,λb u q _=>?_,
  λb xs q=>by rw[aA (hm b _ q λz=>z)];exact q,λb u xs q=>by rw[aA (hm b _ q λz=>z)];exact q,λb ps q=>⟨#[],by rw[aA (hm b _ q λz=>z),q];simp⟩⟩
 by_cases hbe:b=e
 ·subst hbe;exact heo
 ·exact⟨u,k b u hbe q⟩
end
def trk(h:Heap)(H:Hp):List Addr:=(Iy h.objs.size).filter λa=>(H a).isSome
def qR(h:Heap)(H:Hp):Heap:=W.hideAll h (trk h H)
theorem wI(h:Heap)(H:Hp):(qR h H).objs.size=h.objs.size:=W.hideAll_size _ _
theorem AH {h:Heap}{H:Hp}{b:Addr}{o:Obj}(e:h.get? b=some o)(n:H b=none):(qR h H).get? b=some o:=
 W.hideAll_get _ e λhm=>by
  have q:(H b).isSome=true:=(JU.mp hm).2
  rw[n] at q;simp at q
theorem CT {h:Heap}{H:Hp}{b:Addr}{o:Obj}(e:(qR h H).get? b=some o):h.get? b=some o/\H b=none:=by
 have e':h.get? b=some o:=W.of_hideAll (trk h H) e
 refine⟨e',?_⟩
 cases q:H b with
 |none=>rfl
 |some x=>
  have hm:b∈trk h H:=JU.mpr ⟨Ja.mpr (IJ e'),by simp[q]⟩
  have z:(qR h H).get? b=none:=W.hideAll_none (trk h H) hm
  rw[z] at e;cases e
structure Mod(K:Iz)(mg:Str->Option Il)(base:Heap):Prop where
 kin:K.In base
 glob:base.Ns IW mg
 blt: ∃mb,base.Ns Q7 mb/\ ∀x:Str,x≠"__name__"->mb x=J9 x
 nolimit:base.NoLimit
structure Cx where
 prog:Jf
 w:Jr
 K:Iz
 mg:Str->Option Il
 base:Heap
 A:Jm
 N:List Str
 s₀:Io
 H₀:Hp
 env:Env
 outer:List Env
 stack:List Env
 ex:List Addr
 fn:Str->Bool
 calm:Bool
 pn:List (Addr×Obj)
 xe:Il->Io->Prop
def qV(l:List Env):List Addr:=l.filterMap (·.frame)
abbrev Cx.fs(X:Cx):List Addr:=qV X.outer
def oh(sc:LB)(x:Str):Prop:=sc.names.lookup x=some .local\/sc.names.lookup x=some .cell\/sc.names.lookup x=some .free
def xW(sc:LB)(x:Str):Prop:=sc.names.lookup x=some .local\/sc.names.lookup x=some .cell
def GV(env:Env)(h:Heap)(m:Str->Option Il)(x:Str)(u:Il):Prop:=
 (env.kindOf x=some .local/\m x=some u)\/((env.kindOf x=some .cell\/env.kindOf x=some .free)/\ ∃c,env.cells.lookup x=some c/\h.IsCell c (some u))
structure Cx.Ok(X:Cx):Prop where
 mod:Mod X.K X.mg X.base
 kind:X.env.scope.kind=.function
 glob:X.env.globals=IW
 blt:X.env.builtins=Q7
 above:X.s₀.heap.objs.size<=X.env.locals
 inj: ∀x y c,X.env.cells.lookup x=some c->X.env.cells.lookup y=some c->x=y
 has: ∀x,(X.env.kindOf x=some .cell\/X.env.kindOf x=some .free)-> ∃c,X.env.cells.lookup x=some c
 cab: ∀x c,X.fn x=true->X.env.cells.lookup x=some c->X.s₀.heap.objs.size<=c
 hd:X.calm=true->X.A.handled=none
 frames:X.A.frames=some X.stack
 stk:X.stack=X.outer\/(X.stack=X.env::X.outer/\X.env.frame=some X.env.locals)
 exf: ∀b∈X.ex,b≠X.env.locals/\ ∀x c,X.env.cells.lookup x=some c->c≠b
 bs: ∀b o,X.base.get? b=some o->X.s₀.heap.get? b=some o/\X.H₀ b=none
 bsz:X.base.objs.size<=X.s₀.heap.objs.size
 noex: ∀b o,X.base.get? b=some o->b∉X.ex
 exfs: ∀b∈X.ex,b∉X.fs
 funs:X.s₀.heap.FunFrames X.base X.outer
 frf: ∀b∈X.fs,X.H₀ b=none
structure Inv(X:Cx)(aa:List (Addr×Obj))(σ:List (Option V))(H:Hp)(s:Io):Prop where
 ok:X.Ok
 os:s.os=X.s₀.os
 bare:N4 s.gens
 base:Un X.fs X.ex X.H₀ H X.s₀.heap s.heap
 loc: ∃m,s.heap.Ns X.env.locals m/\ ∀(i:Nat) (x:Str) (v:V),X.N[i]? =some x->σ[i]? =some (some v)->oh X.env.scope x-> ∃u,RelV v u/\GV X.env s.heap m x u
 cell: ∀x c,X.env.cells.lookup x=some c-> ∃v,s.heap.IsCell c v
 free:H X.env.locals=none
 freeC: ∀x c,X.env.cells.lookup x=some c->H c=none
 pin: ∀p∈X.pn++aa,s.heap.get? p.1=some p.2/\H p.1=none/\p.1≠X.env.locals/\p.1∉X.fs/\ ∀v,p.2.data≠ .cell v
 hok:HOk X.prog X.w H s.heap
 len:σ.length=X.N.length
section
variable {X:Cx}{aa:List (Addr×Obj)}{σ:List (Option V)}{H H':Hp}{s:Io}{h':Heap}
theorem Cx.Ok.nofr(ok:X.Ok){b:Addr}{o:Obj}(e:X.base.get? b=some o):b∉X.fs:=λhb=>by
 have:=(ok.funs.mem hb).1
 rw[e] at this;cases this
theorem Inv.bs(I:Inv X aa σ H s): ∀b o,X.base.get? b=some o->s.heap.get? b=some o/\H b=none:=λb o e=>
 ⟨I.base.keep b o (I.ok.bs b o e).1 (I.ok.bs b o e).2 (I.ok.nofr e) (I.ok.noex b o e),I.base.free b o (I.ok.bs b o e).1 (I.ok.bs b o e).2 (I.ok.noex b o e)⟩
theorem Inv.bk(I:Inv X aa σ H s): ∀b o,X.base.get? b=some o->s.heap.get? b=some o:=λb o e=>(I.bs b o e).1
theorem Inv.mod(I:Inv X aa σ H s):Mod X.K X.mg X.base:=I.ok.mod
theorem Inv.kIn(I:Inv X aa σ H s):X.K.In s.heap:=I.ok.mod.kin.keeps I.bk
theorem Inv.fr(I:Inv X aa σ H s): ∃m,Fr X.base X.env.locals s.heap m:=
 let⟨m,hn,_⟩:=I.loc
 ⟨m,hn,I.bk,JS I.ok.bsz I.ok.above⟩
theorem Inv.lt(I:Inv X aa σ H s):X.env.locals<s.heap.objs.size:=let⟨_,hn,_⟩:=I.loc;hn.lt
theorem Inv.sz(I:Inv X aa σ H s):X.s₀.heap.objs.size<=s.heap.objs.size:=JS I.ok.above (Mr I.lt)
theorem Inv.nofs(I:Inv X aa σ H s){a:Addr}(h:s.heap.objs.size<=a):a∉X.fs:=λhb=>by
 obtain⟨_,o,ho,_⟩:=I.ok.funs.mem hb
 exact absurd (IL (IJ ho) (JS I.sz h)) (LA _)
theorem Inv.cne(I:Inv X aa σ H s): ∀x c,X.env.cells.lookup x=some c->c≠X.env.locals:=λx c e z=>by
 obtain⟨v,o,ho,hd⟩:=I.cell x c e
 obtain⟨m,⟨o',es,ep,ho',hd',_⟩,_⟩:=I.loc
 rw[z,ho'] at ho;cases ho;rw[hd'] at hd;cases hd
theorem Inv.funs(I:Inv X aa σ H s):s.heap.FunFrames X.base X.outer:=by
 have all: ∀(l:List Env),(∀b∈qV l,b∈X.fs)->X.s₀.heap.FunFrames X.base l->s.heap.FunFrames X.base l:=by
  intro l
  induction l with
  |nil=>intro _ _;trivial
  |cons env r ih=>
   intro hs hl;obtain⟨hk,⟨L,o,hf,hn,ho,hd⟩,hr⟩:=hl
   have hL:L∈X.fs:=hs L (by unfold qV;rw[Lu,hf];exact Jh)
   obtain⟨sl,e⟩:=I.base.slot L o ho (I.ok.frf L hL) hL λz=>I.ok.exfs L z hL
   exact⟨hk,⟨L,_,hf,hn,e,hd⟩,ih (λb hb=>hs b (by unfold qV;rw[Lu,hf];exact IZ _ hb)) hr⟩
 exact all X.outer (λ_ hb=>hb) I.ok.funs
theorem Inv.stack(I:Inv X aa σ H s):s.heap.FunFrames X.base X.stack:=by
 rcases I.ok.stk with e|⟨e,hf⟩
 ·rw[e];exact I.funs
 ·rw[e]
  obtain⟨m,hn,_⟩:=I.loc
  refine .cons (by rw[I.ok.kind];decide) hf hn ?_ I.funs
  exact Heap.get?_none_of_le (JS I.ok.bsz I.ok.above)
theorem Inv.stkSub(I:Inv X aa σ H s): ∀b∈qV X.stack,b∈X.env.locals::X.fs:=λb hb=>by
 rcases I.ok.stk with e|⟨e,hf⟩
 ·rw[e] at hb;exact IZ _ hb
 ·rw[e] at hb
  unfold qV at hb;rw[Lu,hf] at hb;exact hb
theorem Inv.stkFree(I:Inv X aa σ H s): ∀b∈qV X.stack,H b=none:=λb hb=>by
 rcases Jn.mp (I.stkSub b hb) with e|hb
 ·rw[e];exact I.free
 ·obtain⟨_,o,ho,_⟩:=I.ok.funs.mem hb
  exact I.base.free b o ho (I.ok.frf b hb) λz=>I.ok.exfs b z hb
theorem Inv.step {g':Array S4}{t':Nat}{d':Drawn}{ch:List Addr}(I:Inv X aa σ H s)
 (hch: ∀b∈ch,(b∈X.ex\/X.s₀.heap.objs.size<=b)/\b≠X.env.locals/\(∀x c,X.env.cells.lookup x=some c->c≠b)/\ ∀p∈X.pn++aa,p.1≠b)
 (keep: ∀b o,b≠X.env.locals->b∉X.fs->b∉ch->s.heap.get? b=some o->H b=none->h'.get? b=some o)
 (slot: ∀b o,b≠X.env.locals->b∈X.fs->b∉ch->s.heap.get? b=some o->H b=none-> ∃sl,h'.get? b=some {o with slots:=sl}) (free: ∀b o,b∉ch->s.heap.get? b=some o->H b=none->H' b=none)
 (there: ∀b o,b∉ch->s.heap.get? b=some o-> ∃o',h'.get? b=some o')
 (tups: ∀b xs,H b=some (.tup xs)->H' b=some (.tup xs)) (frzs: ∀b o u,H b=some (.frz o u)->H' b=some (.frz o u)) (tbls: ∀b ps,H b=some (.tbl ps)-> ∃more,H' b=some (.tbl (ps++more)))
 (ns: ∀m,s.heap.Ns X.env.locals m->h'.Ns X.env.locals m) (hok:HOk X.prog X.w H' h') (hg:N4 g'):
 Inv X aa σ H' {s with heap:=h',gens:=g',drawn:=d',toks:=t'}:=by
 have neL: ∀b o,X.s₀.heap.get? b=some o->b≠X.env.locals:=λb o e=>Jp (IL (IJ e) I.ok.above)
 have neC: ∀b o,X.s₀.heap.get? b=some o->b∉X.ex->b∉ch:=λb o e hx hb=>by
  rcases(hch b hb).1 with z|z
  ·exact hx z
  ·exact absurd (IL (IJ e) z) (LA _)
 have dJ: ∀x c,X.env.cells.lookup x=some c-> ∀v,s.heap.IsCell c v->h'.IsCell c v:=λx c e v hq_=>by
  obtain⟨o,ho,hd⟩:=hq_
  have nch:c∉ch:=λz=>(hch c z).2.2.1 x c e rfl
  by_cases hc:c∈X.fs
  ·obtain⟨sl,q⟩:=slot c o (I.cne x c e) hc nch ho (I.freeC x c e)
   exact⟨_,q,hd⟩
  ·exact⟨o,keep c o (I.cne x c e) hc nch ho (I.freeC x c e),hd⟩
 refine⟨I.ok,I.os,hg,⟨λb o e n hb hx=>?_,λb o e n hb hx=>?_,λb o e n hx=>?_,λb o e hx=>?_,λb xs e=>tups b xs (I.base.tups b xs e),λb o xs e=>frzs b o xs (I.base.frzs b o xs e),λb ps e=>?_⟩,?_,λx c e=>?_,?_,λx c e=>?_,λp hp=>?_,hok,I.len⟩
 ·exact keep b o (neL b o e) hb (neC b o e hx) (I.base.keep b o e n hb hx) (I.base.free b o e n hx)
 ·obtain⟨sl,e1⟩:=I.base.slot b o e n hb hx
  obtain⟨sl',e2⟩:=slot b _ (neL b o e) hb (neC b o e hx) e1 (I.base.free b o e n hx)
  exact⟨sl',e2⟩
 ·obtain⟨o',e1⟩:=I.base.there b o e hx
  exact free b o' (neC b o e hx) e1 (I.base.free b o e n hx)
 ·obtain⟨o',e1⟩:=I.base.there b o e hx
  exact there b o' (neC b o e hx) e1
 ·obtain⟨m1,e1⟩:=I.base.tbls b ps e
  obtain⟨m2,e2⟩:=tbls b _ e1
  exact⟨m1++m2,by rw[e2,Q6]⟩
 ·obtain⟨m,hn,hl⟩:=I.loc
  refine⟨m,ns m hn,λi x v e1 e2 e3=>?_⟩
  obtain⟨u,r,l⟩:=hl i x v e1 e2 e3
  refine⟨u,r,?_⟩
  rcases l with l|⟨k,c,e,z⟩
  ·exact .inl l
  ·exact .inr ⟨k,c,e,dJ x c e _ z⟩
 ·obtain⟨v,z⟩:=I.cell x c e
  exact⟨v,dJ x c e v z⟩
 ·obtain⟨m,⟨o,_,_,ho,_⟩,_⟩:=I.loc
  exact free _ o (λz=>(hch _ z).2.1 rfl) ho I.free
 ·obtain⟨v,o,ho,hd⟩:=I.cell x c e
  exact free c o (λz=>(hch c z).2.2.1 x c e rfl) ho (I.freeC x c e)
 ·obtain⟨e,n,ne,nf,d⟩:=I.pin p hp
  have nch:p.1∉ch:=λz=>(hch p.1 z).2.2.2 p hp rfl
  exact⟨keep p.1 p.2 ne nf nch e n,free p.1 p.2 nch e n,ne,nf,d⟩
theorem Inv.un {t':Nat}(I:Inv X aa σ H s)(u:Un X.fs [] H H' s.heap h')(hok:HOk X.prog X.w H' h'):Inv X aa σ H' {s with heap:=h',toks:=t'}:=by
 obtain⟨m,⟨o,es,ep,ho,r⟩,_⟩:=id I.loc
 obtain⟨sl,hL⟩:=u.any ho I.free (by simp)
 exact I.step (g':=s.gens) (d':=s.drawn) (ch:=[]) (λ_ z=>nomatch z) (λb o _ hb _ e n=>u.keep b o e n hb (by simp)) (λb o _ hb _ e n=>u.slot b o e n hb (by simp)) (λb o _ e n=>u.free b o e n (by simp)) (λb o _ e=>u.there b o e (by simp)) u.tups u.frzs u.tbls (λm' hm=>by
  obtain⟨o',es',ep',ho',r'⟩:=hm
  rw[ho] at ho';cases ho';exact⟨_,es',ep',hL,r'⟩) hok I.bare
theorem Inv.call {g':Array S4}{t':Nat}{d':Drawn}{ch:List Addr}(I:Inv X aa σ H s)(u:Un (qV X.stack) ch H H' s.heap h')(hok:HOk X.prog X.w H' h')(hg:N4 g')
 (hch: ∀b∈ch,(b∈X.ex\/X.s₀.heap.objs.size<=b)/\b≠X.env.locals/\(∀x c,X.env.cells.lookup x=some c->c≠b)/\ ∀p∈X.pn++aa,p.1≠b):
 Inv X aa σ H' {s with heap:=h',gens:=g',drawn:=d',toks:=t'}:=by
 obtain⟨m,⟨o,es,ep,ho,r⟩,_⟩:=id I.loc
 obtain⟨sl,hL⟩:=u.any ho I.free λz=>(hch _ z).2.1 rfl
 exact I.step (ch:=ch) hch (λb o hL hb hc e n=>u.keep b o e n (λz=>(Jn.mp (I.stkSub b z)).elim hL hb) hc) (λb o _ _ hc e n=>u.any e n hc) (λb o hc e n=>u.free b o e n hc) (λb o hc e=>u.there b o e hc) u.tups u.frzs u.tbls (λm' hm=>by
  obtain⟨o',es',ep',ho',r'⟩:=hm
  rw[ho] at ho';cases ho';exact⟨_,es',ep',hL,r'⟩) hok hg
theorem Inv.turned {t':Nat}{it:Addr}(I:Inv X aa σ H s)(k: ∀b o,b≠it->s.heap.get? b=some o->h'.get? b=some o)(hn:H it=none)(hL:it≠X.env.locals)
 (h1:it∈X.ex\/X.s₀.heap.objs.size<=it) (h2: ∀x c,X.env.cells.lookup x=some c->c≠it) (h3: ∀p∈X.pn++aa,p.1≠it):Inv X aa σ H {s with heap:=h',toks:=t'}:=by
 have nit: ∀b u,H b=some u->b≠it:=λb u e z=>by rw[z,hn] at e;cases e
 refine I.step (g':=s.gens) (d':=s.drawn) (ch:=[it]) (λb hb=>?_) (λb o _ _ hc e _=>k b o (λz=>hc (by simp[z])) e) (λb o _ _ hc e _=>⟨o.slots,k b o (λz=>hc (by simp[z])) e⟩) (λ_ _ _ _ n=>n)
  (λb o hc e=>⟨o,k b o (λz=>hc (by simp[z])) e⟩) (λ_ _ e=>e) (λ_ _ _ e=>e) (λb ps e=>⟨#[],by rw[e];simp⟩) (λm hm=>?_) (λb u e=>?_) I.bare
 ·have e:b=it:=by simpa using hb
  subst e;exact⟨h1,hL,h2,h3⟩
 ·obtain⟨o,es,ep,ho,r⟩:=hm
  exact⟨o,es,ep,k _ o (JW hL) ho,r⟩
 ·refine(I.hok b u e).stay (λc v hc q=>k c v ?_ q) (λ_ q=>q) λ_ _ q=>q
  rcases hc with z|z
  ·rw[z];exact nit b u e
  ·exact nit c _ z
theorem Inv.tok(I:Inv X aa σ H s)(t:Nat):Inv X aa σ H {s with toks:=t}:=I.un (h':=s.heap) (t':=t) Un.refl I.hok
theorem Inv.kept {t':Nat}(I:Inv X aa σ H s)(k: ∀b u,s.heap.get? b=some u->h'.get? b=some u):Inv X aa σ H {s with heap:=h',toks:=t'}:=I.un (Un.kept k) (I.hok.kept k)
theorem Inv.laid {a:Addr}{o:HO}{t':Nat}(I:Inv X aa σ H s)(k: ∀b u,s.heap.get? b=some u->h'.get? b=some u)(hp:s.heap.objs.size<=a)(new:ObjOk X.prog X.w (bp H a o) h' a o):
 Inv X aa σ (bp H a o) {s with heap:=h',toks:=t'}:=I.un (Un.laid k hp (I.hok.fresh hp)) (I.hok.laid k hp new)
theorem Inv.write {x e:Addr}{o:HO}{t':Nat}(I:Inv X aa σ H s)(mu:Gw (H x))(he:e=x\/H e=some (.own x))(k: ∀b u,b≠e->s.heap.get? b=some u->h'.get? b=some u)(heo: ∃u,h'.get? e=some u)
 (new:ObjOk X.prog X.w (bp H x o) h' x o):Inv X aa σ (bp H x o) {s with heap:=h',toks:=t'}:=I.un (Un.write mu he k heo) (I.hok.write mu he k heo new)
theorem Inv.pins_of {pins':List (Addr×Obj)}(I:Inv X aa σ H s)(h: ∀p∈pins',s.heap.get? p.1=some p.2/\H p.1=none/\p.1≠X.env.locals/\p.1∉X.fs/\ ∀v,p.2.data≠ .cell v):Inv X pins' σ H s:=
 ⟨I.ok,I.os,I.bare,I.base,I.loc,I.cell,I.free,I.freeC,λp hp=>(IQ.mp hp).elim (λz=>I.pin p (Jk _ z)) (h p),I.hok,I.len⟩
theorem rZ {N:List Str}(hN:N.Nodup){i j:Nat}{x:Str}(a:N[i]? =some x)(b:N[j]? =some x):i=j:=by
 obtain⟨h1,e1⟩:=IE.mp a
 obtain⟨h2,e2⟩:=IE.mp b
 exact(RS hN).mp (e1.trans e2.symm)
theorem pc {M:YD}{A:Jm}{E:Il->Io->Prop}{i:Nat}{x:Str}{v:V}{u:Il}{Q:Unit->Io->Prop}(I:Inv X aa σ H s)(hN:X.N.Nodup)(hi:X.N[i]? =some x)(hx:xW X.env.scope x)(r:RelV v u)
 (h: ∀s',Inv X aa (σ.set i (some v)) H s'->(∃a,Kh a s.heap s'.heap/\(a=X.env.locals\/X.env.cells.lookup x=some a))->Q () s') (hf:X.fn x=true\/X.env.scope.names.lookup x=some .local:=by first|exact .inl rfl|exact .inr rfl|assumption):IF M A (storeName X.env x u) Q E s:=by
 obtain⟨m,hn,hl⟩:=id I.loc
 have hcls:(X.env.scope.kind== .class||(X.env.scope.kind== .module&&X.env.locals !=X.env.globals))=false:=by rw[I.ok.kind];rfl
 have hiσ:i<σ.length:=by rw[I.len];exact(IE.mp hi).1
 have cne:=I.cne
 have tracked: ∀ {a:Addr} {h':Heap},(∃o,s.heap.get? a=some o/\H a=none)->Kh a s.heap h'->HOk X.prog X.w H h':=λ{a h'} ha hs b ob e=>by
  obtain⟨_,_,hfree⟩:=ha
  refine(I.hok b ob e).stay (λc w' hc q=>(hs.2 c ?_).trans q) (λ_ q=>q) λ_ _ q=>q
  rintro rfl
  rcases hc with rfl|hc
  ·rw[hfree] at e;cases e
  ·rw[hfree] at hc;cases hc
 rcases hx with hk|hk
 ·refine wpAny_storeName_local hk hn (λh' hn' hs=>?_) hcls
  obtain⟨oL,_,_,hoL,_⟩:=id hn
  refine h _ ⟨I.ok,I.os,I.bare,⟨λb o e n hb hx=>?_,λb o e n hb hx=>?_,I.base.free,λb o e hx=>?_,I.base.tups,I.base.frzs,I.base.tbls⟩,⟨_,hn',λj y v' e1 e2 e3=>?_⟩,λy c e=>?_,I.free,I.freeC,λp hp=>?_,tracked ⟨oL,hoL,I.free⟩ hs,by simpa using I.len⟩ ⟨_,hs,.inl rfl⟩
  ·exact(hs.2 b (Jp (IL (IJ e) I.ok.above))).trans (I.base.keep b o e n hb hx)
  ·obtain⟨sl,e1⟩:=I.base.slot b o e n hb hx
   exact⟨sl,(hs.2 b (Jp (IL (IJ e) I.ok.above))).trans e1⟩
  ·obtain⟨o',e1⟩:=I.base.there b o e hx
   exact⟨o',(hs.2 b (Jp (IL (IJ e) I.ok.above))).trans e1⟩
  ·by_cases hj:j=i
   ·subst hj
    rw[hi] at e1;cases e1;rw[IX hiσ] at e2;cases e2
    exact⟨u,r,.inl ⟨hk,by simp⟩⟩
   ·rw[IG (JW hj)] at e2
    obtain⟨u',r',q⟩:=hl j y v' e1 e2 e3
    refine⟨u',r',?_⟩
    rcases q with⟨k,e⟩|⟨k,c,e,z⟩
    ·refine .inl ⟨k,?_⟩
     have:y≠x:=λe=>hj (rZ hN e1 (e▸hi))
     simp[this,e]
    ·exact .inr ⟨k,c,e,z.sameBut hs (cne y c e)⟩
  ·obtain⟨w',z⟩:=I.cell y c e
   exact⟨w',z.sameBut hs (cne y c e)⟩
  ·obtain⟨e,n,ne,nf,d⟩:=I.pin p hp
   exact⟨(hs.2 p.1 ne).trans e,n,ne,nf,d⟩
 ·have hfn:X.fn x=true:=by
   rcases hf with z|z
   ·exact z
   ·rw[z] at hk;cases hk
  obtain⟨c,hc⟩:=I.ok.has x (.inl hk)
  obtain⟨w',z⟩:=I.cell x c hc
  refine wpAny_storeName_cell I.ok.kind hk hc z (λh' hc' hs=>?_)
  obtain⟨oc,hoc,hocd⟩:=id z
  refine h {s with heap:=h'} ⟨I.ok,I.os,I.bare,⟨λb o e n hb hx=>?_,λb o e n hb hx=>?_,I.base.free,λb o e hx=>?_,I.base.tups,I.base.frzs,I.base.tbls⟩,⟨m,hn.sameBut hs (JW (cne x c hc)),λj y v' e1 e2 e3=>?_⟩,λy c' e=>?_,I.free,I.freeC,λp hp=>?_,tracked ⟨oc,hoc,I.freeC x c hc⟩ hs,by simpa using I.len⟩ ⟨c,hs,.inr hc⟩
  ·exact(hs.2 b (Jp (IL (IJ e) (I.ok.cab x c hfn hc)))).trans (I.base.keep b o e n hb hx)
  ·obtain⟨sl,e1⟩:=I.base.slot b o e n hb hx
   exact⟨sl,(hs.2 b (Jp (IL (IJ e) (I.ok.cab x c hfn hc)))).trans e1⟩
  ·obtain⟨o',e1⟩:=I.base.there b o e hx
   exact⟨o',(hs.2 b (Jp (IL (IJ e) (I.ok.cab x c hfn hc)))).trans e1⟩
  ·by_cases hj:j=i
   ·subst hj
    rw[hi] at e1;cases e1;rw[IX hiσ] at e2;cases e2
    exact⟨u,r,.inr ⟨.inl hk,c,hc,hc'⟩⟩
   ·rw[IG (JW hj)] at e2
    obtain⟨u',r',q⟩:=hl j y v' e1 e2 e3
    refine⟨u',r',?_⟩
    rcases q with q|⟨k,c',e,z'⟩
    ·exact .inl q
    ·refine .inr ⟨k,c',e,z'.sameBut hs ?_⟩
     rintro rfl
     exact hj (rZ hN e1 (I.ok.inj _ _ _ e hc▸hi))
  ·by_cases hcc:c'=c
   ·subst hcc;exact⟨_,hc'⟩
   ·obtain⟨w2,z2⟩:=I.cell y c' e
    exact⟨w2,z2.sameBut hs hcc⟩
  ·obtain⟨e,n,ne,nf,d⟩:=I.pin p hp
   refine⟨(hs.2 p.1 ?_).trans e,n,ne,nf,d⟩
   intro q;rw[q,hoc] at e;have q':oc=p.2:=Jv e
   exact d w' (by rw[<-q'];exact hocd)
theorem se {M:YD}{A:Jm}{E:Il->Io->Prop}{i:Nat}{x:Str}{v:V}{u:Il}{Q:Unit->Io->Prop}(I:Inv X aa σ H s)(hN:X.N.Nodup)(hi:X.N[i]? =some x)(hx:xW X.env.scope x)(r:RelV v u)
 (h: ∀s',Inv X aa (σ.set i (some v)) H s'->Q () s') (hf:X.fn x=true\/X.env.scope.names.lookup x=some .local:=by first|exact .inl rfl|exact .inr rfl|assumption):IF M A (storeName X.env x u) Q E s:=
 pc I hN hi hx r (λs' I' _=>h s' I') hf
theorem Inv.call' {s':Io}{ch:List Addr}(I:Inv X aa σ H s)(ho:s'.os=s.os)(u:Un (qV X.stack) ch H H' s.heap s'.heap)(hok:HOk X.prog X.w H' s'.heap)(hg:N4 s'.gens)
 (hch: ∀b∈ch,(b∈X.ex\/X.s₀.heap.objs.size<=b)/\b≠X.env.locals/\(∀x c,X.env.cells.lookup x=some c->c≠b)/\ ∀p∈X.pn++aa,p.1≠b):Inv X aa σ H' s':=by
 obtain⟨h',g',d',t',o'⟩:=s'
 have e:o'=s.os:=ho
 subst e;exact I.call (g':=g') (t':=t') (d':=d') u hok hg hch
end
abbrev XK:=Il->Option Addr->Hp->Prop
abbrev St:=List (Option V)
abbrev VK:=V->Hp->Prop
abbrev TE:=St->Hp->VK->Prop
abbrev TT:=St->Hp->(Bool->Hp->Prop)->Prop
abbrev TA:=St->Hp->(List V->Hp->Prop)->Prop
structure Ends where
 nx:St->Hp->Prop
 rt:VK
 bk:St->Hp->Prop:=λ_ _=>False
 ct:St->Hp->Prop:=λ_ _=>False
abbrev TS:=Ends->St->Hp->Prop
def EP(X:Cx)(aa:List (Addr×Obj))(σ:St)(Q:VK)(u:Il)(s':Io):Prop:= ∃v H',Inv X aa σ H' s'/\RelV v u/\Q v H'
def TP(X:Cx)(aa:List (Addr×Obj))(σ:St)(Q:Bool->Hp->Prop)(b:Bool)(s':Io):Prop:= ∃H',Inv X aa σ H' s'/\Q b H'
def AP(X:Cx)(aa:List (Addr×Obj))(σ:St)(Q:List V->Hp->Prop)(us:List Il)(s':Io):Prop:= ∃vs H',Inv X aa σ H' s'/\Vals vs us/\Q vs H'
def SP(X:Cx)(aa:List (Addr×Obj))(D:Ends)(f:Flow)(s':Io):Prop:=
 match f with
 | .next=> ∃σ' H',Inv X aa σ' H' s'/\D.nx σ' H'
 | .brk=> ∃σ' H',Inv X aa σ' H' s'/\D.bk σ' H'
 | .cont=> ∃σ' H',Inv X aa σ' H' s'/\D.ct σ' H'
 | .ret u=> ∃v σ' H',Inv X aa σ' H' s'/\RelV v u/\D.rt v H'
def PE(X:Cx)(e:Expr)(t:TE):Prop:=
 ∀(aa:List (Addr×Obj)) (s:Io) (σ:St) (H:Hp) (Q:VK),Inv X aa σ H s->t σ H Q->IF (model X.prog X.w) X.A (eval e X.env) (EP X aa σ Q) X.xe s
def PT(X:Cx)(e:Expr)(t:TT):Prop:=
 ∀(aa:List (Addr×Obj)) (s:Io) (σ:St) (H:Hp) (Q:Bool->Hp->Prop),Inv X aa σ H s->t σ H Q->IF (model X.prog X.w) X.A (isTrue e X.env (eval e X.env)) (TP X aa σ Q) X.xe s
def PW(X:Cx)(e:Expr)(t:TT):Prop:=
 ∀(whole:Sem Il) (aa:List (Addr×Obj)) (s:Io) (σ:St) (H:Hp) (Q:Bool->Hp->Prop),Inv X aa σ H s->t σ H Q->IF (model X.prog X.w) X.A (isTrue e X.env whole) (TP X aa σ Q) X.xe s
theorem PW.pt {X:Cx}{e:Expr}{t:TT}(h:PW X e t):PT X e t:=h _
def PA(X:Cx)(es:List Expr)(t:TA):Prop:=
 ∀(pos:Pos) (aa:List (Addr×Obj)) (s:Io) (σ:St) (H:Hp) (Q:List V->Hp->Prop),Inv X aa σ H s->t σ H Q->IF (model X.prog X.w) X.A (spliced (KQ pos (ID es X.env))) (AP X aa σ Q) X.xe s
def PS(X:Cx)(st:Stmt)(t:TS):Prop:=
 ∀(aa:List (Addr×Obj)) (s:Io) (σ:St) (H:Hp) (D:Ends),Inv X aa σ H s->t D σ H->IF (model X.prog X.w) X.A (exec st X.env) (SP X aa D) X.xe s
def PSs(X:Cx)(st:List Stmt)(t:TS):Prop:=
 ∀(aa:List (Addr×Obj)) (s:Io) (σ:St) (H:Hp) (D:Ends),Inv X aa σ H s->t D σ H->IF (model X.prog X.w) X.A (execs st X.env) (SP X aa D) X.xe s
theorem bR {α:Type}{t:Sem α}{Q Q':α->Io->Prop}{M:YD}{A:Jm}{E:Il->Io->Prop}{s:Io}(h:IF M A t Q E s)(hQ: ∀a s,Q a s->Q' a s):IF M A t Q' E s:=Jo h hQ λ_ _ x=>x
section
variable {X:Cx}
def Gn(i:Nat):TE:=λσ H Q=> ∃v,σ[i]? =some (some v)/\Q v H
def tC(v:V):TE:=λ_ H Q=>Q v H
theorem EU {i:Nat}{x:Str}{pos:Pos}(hN:X.N[i]? =some x)(hv:oh X.env.scope x)(hd:(x==("__debug__":Str))=false:=by decide)(hcd:(x==("__classdict__":Str))=false:=by decide):PE X (.Name x pos) (Gn i):=by
 intro aa s σ H Q I h;obtain⟨v,e,h⟩:=h
 obtain⟨m,hn,hl⟩:=I.loc
 obtain⟨u,r,l⟩:=hl i x v hN e hv
 have fin:EP X aa σ Q u s:=⟨v,H,I,r,h⟩
 rcases l with⟨hk,hm⟩|⟨hk,c,hc,hcell⟩
 ·exact S5 (wpAny_loadName_local I.ok.kind hk hn hm fin) hd
 ·rcases hk with hk|hk
  ·exact S5 (wpAny_loadName_cell I.ok.kind hk hc hcell fin) hd
  ·exact S5 (wpAny_loadName_free I.ok.kind hk hc hcell fin hcd) hd
theorem EL {i j pos}:PE X (.Constant (.int i) j pos) (tC (.int i)):=λ_ _ _ H _ I h=>wpAny_Constant_int ⟨.int i,H,I.tok _,⟨_,rfl⟩,h⟩
theorem FB {b j pos}:PE X (.Constant (.bool b) j pos) (tC (.bl b)):=λ_ _ _ H _ I h=>Constant_bool ⟨.bl b,H,I,rfl,h⟩
theorem DL {j pos}:PE X (.Constant .none j pos) (tC .non):=λ_ _ _ H _ I h=>Constant_none ⟨.non,H,I,rfl,h⟩
def Gl(X:Cx)(x:Str):Prop:=X.env.kindOf x=some .globalImplicit
theorem CG {E:Il->Io->Prop}{aa:List (Addr×Obj)}{s:Io}{σ:St}{H:Hp}{x:Str}{u:Il}{pos:Pos}{Q:Il->Io->Prop}(I:Inv X aa σ H s)(hg:Gl X x)(hm:X.mg x=some u)(h:Q u s)
 (hd:(x==("__debug__":Str))=false:=by decide):IF (model X.prog X.w) X.A (eval (.Name x pos) X.env) Q E s:=
 OH I.ok.kind hg (Calls.loadGlobal_global (by rw[I.ok.glob];exact I.mod.glob.keeps I.bk) hm h) hd
theorem nL {E:Il->Io->Prop}{aa:List (Addr×Obj)}{s:Io}{σ:St}{H:Hp}{x:Str}{u:Il}{pos:Pos}{Q:Il->Io->Prop}(I:Inv X aa σ H s)(hg:Gl X x)(hm:X.mg x=none)(hv:J9 x=some u)(h:Q u s)
 (hn:x≠"__name__":=by decide) (hd:(x==("__debug__":Str))=false:=by decide):IF (model X.prog X.w) X.A (eval (.Name x pos) X.env) Q E s:=by
 obtain⟨mb,h1,h2⟩:=I.mod.blt
 exact OH I.ok.kind hg (Calls.loadGlobal_builtin (by rw[I.ok.glob];exact I.mod.glob.keeps I.bk) hm (by rw[I.ok.blt];exact h1.keeps I.bk) ((h2 x hn).trans hv) h) hd
theorem CB {x:Str}{v:V}{u:Il}{pos:Pos}(hg:Gl X x)(hm:X.mg x=none)(hv:J9 x=some u)(r:RelV v u)(hn:x≠"__name__":=by decide)(hd:(x==("__debug__":Str))=false:=by decide):PE X (.Name x pos) (tC v):=
 λ_ _ _ H _ I h=>nL I hg hm hv ⟨v,H,I,r,h⟩ hn hd
variable {a b:Expr}{ta tb:TE}{pos:Pos}
def PC(X:Cx)(op:S6)(a b:Expr)(t:TE):Prop:=
 ∀(aa:List (Addr×Obj)) (s:Io) (σ:St) (H:Hp) (Q:VK),Inv X aa σ H s->t σ H Q->
  IF (model X.prog X.w) X.A (eval a X.env) (λv s₁=>IF (model X.prog X.w) X.A (eval b X.env) (λu s₂=>IF (model X.prog X.w) X.A (LD op v u) (EP X aa σ Q) X.xe s₂) X.xe s₁) X.xe s
def tB(t:TE):TT:=λσ H Q=>t σ H λx H1=> ∃c,x=.bl c/\Q c H1
theorem Ek {op:S6}{t:TE}(h:PC X op a b t)(h1:LC op b=false:=by first|exact nobehind _ (by decide) (by decide)|rfl):PT X (.Compare a [op] [b] pos) (tB t):=by
 intro aa s σ H Q I hw;refine P9 (bR (h aa s σ H _ I hw) λv s1 h1=>bR h1 λu s2 h2=>bR h2 λc s3 ⟨x,H1,I1,r1,q1⟩=>?_) h1
 obtain⟨d,rfl,q⟩:=q1
 cases r1
 exact K6 ⟨H1,I1,q⟩
variable {tA tB':TT}{rest:List Expr}
def GW(t u:TT):TT:=λσ H Q=>t σ H λc H1=>if c=true then u σ H1 Q else Q false H1
def Ia(t u:TT):TT:=λσ H Q=>t σ H λc H1=>if c=true then Q true H1 else u σ H1 Q
def Hq(t:TT):TT:=λσ H Q=>t σ H λc H1=>Q (!c) H1
theorem pw_and1(ha:PT X a tA):PW X (.BoolOp .And [a] pos) tA:=by
 intro wh aa s σ H Q I h;refine isTrue_and (bR (ha aa s σ H Q I h) λc s1 e=>?_)
 cases c with
 |true=>exact isTrue_and_nil e
 |false=>exact e
theorem pw_or1(ha:PT X a tA):PW X (.BoolOp .Or [a] pos) tA:=by
 intro wh aa s σ H Q I h;refine isTrue_or (bR (ha aa s σ H Q I h) λc s1 e=>?_)
 cases c with
 |false=>exact isTrue_or_nil e
 |true=>exact e
theorem pw_and(ha:PT X a tA)(hb:PW X (.BoolOp .And (b::rest) pos) tB'):PW X (.BoolOp .And (a::b::rest) pos) (GW tA tB'):=by
 intro wh aa s σ H Q I h;refine isTrue_and (bR (ha aa s σ H _ I h) λc s1 hq_=>?_)
 obtain⟨H1,I1,q1⟩:=hq_
 cases c with
 |true=>exact hb wh aa s1 σ H1 Q I1 q1
 |false=>exact⟨H1,I1,q1⟩
theorem pw_or(ha:PT X a tA)(hb:PW X (.BoolOp .Or (b::rest) pos) tB'):PW X (.BoolOp .Or (a::b::rest) pos) (Ia tA tB'):=by
 intro wh aa s σ H Q I h;refine isTrue_or (bR (ha aa s σ H _ I h) λc s1 hq_=>?_)
 obtain⟨H1,I1,q1⟩:=hq_
 cases c with
 |true=>exact⟨H1,I1,q1⟩
 |false=>exact hb wh aa s1 σ H1 Q I1 q1
theorem zF(ha:PT X a tA):PT X (.UnaryOp .Not a pos) (Hq tA):=by
 intro aa s σ H Q I h;exact isTrue_not (ha aa s σ H (λc H1=>Q (!c) H1) I h)
def FV(ta tb:TE):TE:=λσ H Q=>ta σ H λx H1=> ∃c,x=.bl c/\if c=true then tb σ H1 Q else Q (.bl false) H1
def Fp(ta:TE):TE:=λσ H Q=>ta σ H λx H1=> ∃c,x=.bl c/\Q (.bl (!c)) H1
theorem ED {op}{t:TE}(h:PE X a t):PE X (.BoolOp op [a] pos) t:=λaa s σ H Q I hw=>BoolOp_one (h aa s σ H Q I hw)
theorem Dr(ha:PE X a ta)(hb:PE X (.BoolOp .And (b::rest) pos) tb):PE X (.BoolOp .And (a::b::rest) pos) (FV ta tb):=by
 intro aa s σ H Q I h;refine BoolOp_and (bR (ha aa s σ H _ I h) λv s1 hq_=>?_)
 obtain⟨x,H1,I1,r1,q1⟩:=hq_
 obtain⟨c,rfl,q1⟩:=q1
 cases r1
 refine K6 ?_
 cases c with
 |true=>exact hb aa s1 σ H1 Q I1 q1
 |false=>exact⟨.bl false,H1,I1,rfl,q1⟩
theorem Ei(ha:PE X a ta):PE X (.UnaryOp .Not a pos) (Fp ta):=by
 intro aa s σ H Q I h;refine UnaryOp_ (bR (ha aa s σ H _ I h) λv s1 hq_=>?_)
 obtain⟨x,H1,I1,r1,q1⟩:=hq_
 obtain⟨c,rfl,q1⟩:=q1
 cases r1
 exact not_of (K6 ⟨.bl (!c),H1,I1,rfl,q1⟩)
end
def SqL(K:Iz)(H:Hp)(a:Addr)(xs:List V):Prop:=
 Rd H a (.lst xs)\/
  ∃(o:Obj) (its:Array Il) (n:Nat),K.lookup a=some o/\o.cls=.type "list"/\o.dict=none/\o.data=.seq its n/\its.size<=IM/\Vals xs its.toList
def SqT(K:Iz)(H:Hp)(a:Addr)(xs:List V):Prop:=
 Rd H a (.tup xs)\/
  ∃(o:Obj) (its:Array Il) (n:Nat),K.lookup a=some o/\o.cls=.type "tuple"/\o.data=.seq its n/\its.size<=IM/\Vals xs its.toList/\o.dict=none
def HH:Il->Option V
 | .none=>some .non
 | .bool b=>some (.bl b)
 | .int i _=>some (.int i)
 | .str x _=>some (.str x)
 | .bytes b _=>some (.byt b)
 | .float b _=>some (.flt b)
 | .ref a=>some (.ref a)
 | .type n=>some (.ty n)
 |_=>none
theorem RelV.abs {x:V}{u:Il}(r:RelV x u):HH u=some x:=by
 cases x with
 |non=>cases r;rfl
 |bl _=>cases r;rfl
 |int _=>obtain⟨t,rfl⟩:=r;rfl
 |str _=>obtain⟨t,rfl⟩:=r;rfl
 |byt _=>obtain⟨t,rfl⟩:=r;rfl
 |flt _=>obtain⟨t,rfl⟩:=r;rfl
 |ref _=>cases r;rfl
 |ty _=>cases r;rfl
theorem RelV.inj {x y:V}{u:Il}(r:RelV x u)(q:RelV y u):x=y:=Jv (r.abs.symm.trans q.abs)
theorem Vals.inj: ∀ {xs ys:List V} {us:List Il},Vals xs us->Vals ys us->xs=ys
 |_,_,_,.nil,.nil=>rfl
 |_,_,_,.cons r t,.cons r' t'=>by rw[r.inj r',Vals.inj t t']
section
variable {X:Cx}{aa:List (Addr×Obj)}{σ:St}{H:Hp}{s:Io}{a:Addr}{xs ys:List V}
theorem SqL.of {K:Iz}(h:H a=some (.lst xs)):SqL K H a xs:=.inl (.inl h)
theorem SqT.of {K:Iz}(h:H a=some (.tup xs)):SqT K H a xs:=.inl (.inl h)
theorem Inv.list(I:Inv X aa σ H s)(h:SqL X.K H a xs): ∃its:List Il,Vals xs its/\PlainL s.heap a its.toArray/\xs.length<=sizeLine:=by
 rcases h with h|⟨o,its,n,hk,hc,hd,hs,hz,r⟩
 ·obtain⟨z,its,n,r,e⟩:=h.ok I.hok
  exact⟨its,r,⟨_,n,e,rfl,rfl,rfl⟩,z⟩
 ·refine⟨its.toList,r,⟨o,n,I.kIn a o hk,hc,hd,by simpa using hs⟩,?_⟩
  have e:=r.length
  simp only[IA] at e;omega
theorem Inv.tuple(I:Inv X aa σ H s)(h:SqT X.K H a xs): ∃its:List Il,Vals xs its/\IsTup s.heap a its.toArray/\xs.length<=sizeLine:=by
 rcases h with h|⟨o,its,n,hk,hc,hs,hz,r,_⟩
 ·obtain⟨z,its,r,p,_⟩:=h.ok I.hok
  exact⟨its,r,p,z⟩
 ·refine⟨its.toList,r,⟨o,I.kIn a o hk,hc,n,by simpa using hs⟩,?_⟩
  have e:=r.length
  simp only[IA] at e;omega
theorem Inv.tupleN(I:Inv X aa σ H s)(h:SqT X.K H a xs):(∃o,s.heap.get? a=some o/\o.cls=.type "tuple")/\ ∃o,s.heap.get? a=some o/\o.dict=none:=by
 rcases h with h|⟨o,its,n,hk,hc,hs,hz,r,hd⟩
 ·obtain⟨z,its,r,⟨ob,e,c,_⟩,o2,e2,d2⟩:=h.ok I.hok
  exact⟨⟨ob,e,c⟩,o2,e2,d2⟩
 ·exact⟨⟨o,I.kIn a o hk,hc⟩,o,I.kIn a o hk,hd⟩
theorem Inv.list_inj(I:Inv X aa σ H s)(h:SqL X.K H a xs)(h':SqL X.K H a ys):xs=ys:=by
 obtain⟨its,r,⟨o,n,e,_,_,d⟩,_⟩:=I.list h
 obtain⟨its',r',⟨o',n',e',_,_,d'⟩,_⟩:=I.list h'
 rw[e] at e';cases e';rw[d] at d';injection d' with d1 _
 have:its=its':=by simpa using congrArg Rr d1
 subst this;exact r.inj r'
theorem Inv.tuple_inj(I:Inv X aa σ H s)(h:SqT X.K H a xs)(h':SqT X.K H a ys):xs=ys:=by
 obtain⟨its,r,⟨o,e,_,n,d⟩,_⟩:=I.tuple h
 obtain⟨its',r',⟨o',e',_,n',d'⟩,_⟩:=I.tuple h'
 rw[e] at e';cases e';rw[d] at d';injection d' with d1 _
 have:its=its':=by simpa using congrArg Rr d1
 subst this;exact r.inj r'
end
abbrev Cx.wish(X:Cx)(E:Il->Io->Prop):Cx:={X with xe:=E}
abbrev Cx.nox(X:Cx):Cx:=X.wish λ_ _=>False
theorem Cx.Ok.wish {X:Cx}(ok:X.Ok)(E:Il->Io->Prop):(X.wish E).Ok:=
 ⟨ok.mod,ok.kind,ok.glob,ok.blt,ok.above,ok.inj,ok.has,ok.cab,ok.hd,ok.frames,ok.stk,ok.exf,ok.bs,ok.bsz,ok.noex,ok.exfs,ok.funs,ok.frf⟩
theorem Cx.Ok.unwish {X:Cx}{E:Il->Io->Prop}(ok:(X.wish E).Ok):X.Ok:=
 ⟨ok.mod,ok.kind,ok.glob,ok.blt,ok.above,ok.inj,ok.has,ok.cab,ok.hd,ok.frames,ok.stk,ok.exf,ok.bs,ok.bsz,ok.noex,ok.exfs,ok.funs,ok.frf⟩
section
variable {X:Cx}{aa:List (Addr×Obj)}{σ:St}{H:Hp}{s:Io}{E:Il->Io->Prop}
theorem Inv.wish(I:Inv X aa σ H s)(E:Il->Io->Prop):Inv (X.wish E) aa σ H s:=⟨I.ok.wish E,I.os,I.bare,I.base,I.loc,I.cell,I.free,I.freeC,I.pin,I.hok,I.len⟩
theorem Inv.unwish(I:Inv (X.wish E) aa σ H s):Inv X aa σ H s:=⟨I.ok.unwish,I.os,I.bare,I.base,I.loc,I.cell,I.free,I.freeC,I.pin,I.hok,I.len⟩
theorem SP.unwish {D:Ends}{f:Flow}{s':Io}(h:SP (X.wish E) aa D f s'):SP X aa D f s':=by
 cases f with
 |next=>obtain⟨σ',H',I,q⟩:=h;exact⟨σ',H',I.unwish,q⟩
 |brk=>obtain⟨σ',H',I,q⟩:=h;exact⟨σ',H',I.unwish,q⟩
 |cont=>obtain⟨σ',H',I,q⟩:=h;exact⟨σ',H',I.unwish,q⟩
 |ret u=>obtain⟨v,σ',H',I,r,q⟩:=h;exact⟨v,σ',H',I.unwish,r,q⟩
theorem PSs.nox {st:List Stmt}{t:TS}(h:PSs X.nox st t):PSs X st t:=λaa s σ H D I hw=>
 Jo (h aa s σ H D (I.wish _) hw) (λ_ _ q=>q.unwish) λ_ _ z=>False.elim z
end
section
variable {X:Cx}{st:Stmt}{rest:List Stmt}{t u:TS}{e:Expr}{te:TE}{pos:Pos}
def Gv:TS:=λD σ H=>D.nx σ H
def Hi(t u:TS):TS:=λD σ H=>t {D with nx:=u D} σ H
theorem Bx:PSs X [] Gv:=λ_ _ σ H _ I h=>Oi ⟨σ,H,I,h⟩
theorem yn(h1:PS X st t)(h2:PSs X rest u):PSs X (st::rest) (Hi t u):=by
 intro aa s σ H D I h;refine RT (bR (h1 aa s σ H {D with nx:=u D} I h) λf s1 q=>?_)
 cases f with
 |next=>
  obtain⟨σ',H',I',q⟩:=q
  exact h2 aa s1 σ' H' D I' q
 |ret v=>exact q
 |brk=>exact q
 |cont=>exact q
theorem Bv(h1:PS X st t):PSs X [st] t:=by
 intro aa s σ H D I h;refine RT (bR (h1 aa s σ H D I h) λf s1 q=>?_)
 cases f with
 |next=>exact Oi q
 |ret v=>exact q
 |brk=>exact q
 |cont=>exact q
theorem Inv.quiet {aa:List (Addr×Obj)}{σ:St}{H:Hp}{s:Io}(I:Inv X aa σ H s):interactive X.env=false:=by simp[interactive,I.ok.kind]
def Fu(te:TE):TS:=λD σ H=>te σ H λ_ H1=>D.nx σ H1
theorem A8(he:PE X e te)(hs:Lp e none pos.line X.env=pure false:=by rfl):PS X (.Expr e pos) (Fu te):=by
 intro aa s σ H D I h;exact wpAny_Expr_any (bR (he aa s σ H _ I h) λv s1 ⟨x,H1,I1,r1,q1⟩=>⟨σ,H1,I1,q1⟩) I.quiet hs
def GX(te:TE):TS:=λD σ H=>te σ H D.rt
theorem zI(he:PE X e te):PS X (.Return (some e) pos) (GX te):=by
 intro aa s σ H D I h;exact wpAny_Return_some (bR (he aa s σ H _ I h) λv s1 ⟨x,H1,I1,r1,q1⟩=>⟨x,σ,H1,I1,r1,q1⟩)
def Hw(c:TT)(t u:TS):TS:=λD σ H=>c σ H λb H1=>if b=true then t D σ H1 else u D σ H1
theorem Dg {c:Expr}{a b:List Stmt}{tc:TT}(hc:PT X c tc)(ha:PSs X a t)(hb:PSs X b u):PS X (.If c a b pos) (Hw tc t u):=by
 intro aa s σ H D I h;refine wpAny_If (bR (hc aa s σ H _ I h) λd s1 hq_=>?_)
 obtain⟨H1,I1,q1⟩:=hq_
 cases d with
 |true=>exact ha aa s1 σ H1 D I1 q1
 |false=>exact hb aa s1 σ H1 D I1 q1
end
abbrev TG:=V->St->Hp->(St->Hp->Prop)->Prop
abbrev zd:=List V->St->Hp->(St->Hp->Prop)->Prop
def PG(X:Cx)(target:Expr)(t:TG):Prop:=
 ∀(aa:List (Addr×Obj)) (s:Io) (σ:St) (H:Hp) (v:V) (u:Il) (Q:St->Hp->Prop),Inv X aa σ H s->RelV v u->t v σ H Q->
  IF (model X.prog X.w) X.A (M0 target X.env u) (λ_ s'=> ∃σ' H',Inv X aa σ' H' s'/\Q σ' H') X.xe s
def PGs(X:Cx)(ts:List Expr)(t:zd):Prop:=
 ∀(aa:List (Addr×Obj)) (s:Io) (σ:St) (H:Hp) (vs:List V) (us:List Il) (Q:St->Hp->Prop),Inv X aa σ H s->Vals vs us->t vs σ H Q->
  IF (model X.prog X.w) X.A (assignInOrder ((KR ts X.env).map (·.2)) us) (λ_ s'=> ∃σ' H',Inv X aa σ' H' s'/\Q σ' H') X.xe s
abbrev DX:=V->V->V->Hp->(Hp->Prop)->Prop
def FU(X:Cx)(t:DX):Prop:=
 ∀(aa:List (Addr×Obj)) (s:Io) (σ:St) (H:Hp) (o i v:V) (ov iv u:Il) (Q:Hp->Prop),Inv X aa σ H s->RelV o ov->RelV i iv->RelV v u->t o i v H Q->
  IF (model X.prog X.w) X.A (UO ov iv u) (λ_ s'=> ∃H',Inv X aa σ H' s'/\Q H') X.xe s
section
variable {X:Cx}{pos:Pos}
def yK(i:Nat):TG:=λv σ H Q=>Q (σ.set i (some v)) H
theorem CP {i:Nat}{x:Str}(hN:X.N.Nodup)(hi:X.N[i]? =some x)(hx:xW X.env.scope x)(hf:X.fn x=true\/X.env.scope.names.lookup x=some .local:=by first|exact .inl rfl|exact .inr rfl|assumption):PG X (.Name x pos) (yK i):=by
 intro aa s σ H v u Q I r h;exact Rs (se I hN hi hx r (λs' I'=>⟨_,H,I',h⟩) hf)
def Hr:zd:=λvs σ H Q=>vs=[]/\Q σ H
def Fl(t:TG)(u:zd):zd:=λvs σ H Q=> ∃v r,vs=v::r/\t v σ H λσ' H'=>u r σ' H' Q
theorem vT:PGs X [] Hr:=by
 intro aa s σ H vs us Q I r h;obtain⟨e,h⟩:=h
 subst e;cases r
 exact assignInOrder_nil ⟨σ,H,I,h⟩
theorem tE {e:Expr}{es:List Expr}{t:TG}{u:zd}(h1:PG X e t)(h2:PGs X es u)
 (hs:(KR (e::es) X.env).map (·.2)=M0 e X.env::(KR es X.env).map (·.2):=by rfl):PGs X (e::es) (Fl t u):=by
 intro aa s σ H vs us Q I r h;obtain⟨v,vr,e1,h⟩:=h
 subst e1;cases r with
 |cons r rr=>
  rw[hs];refine assignInOrder_cons (bR (h1 aa s σ H _ _ _ I r h) λ_ s1 hq_=>?_)
  obtain⟨σ1,H1,I1,q1⟩:=hq_
  exact h2 aa s1 σ1 H1 _ _ Q I1 rr q1
def Hg(K:Iz)(n:Nat)(t:zd):TG:=λv σ H Q=> ∃a xs,v=.ref a/\SqT K H a xs/\xs.length=n/\t xs σ H Q
theorem zu {es:List Expr}{k:Nat}{t:zd}{n:Nat}(hc:X.calm=true)(h:PGs X es t)
 (hn:(KR es X.env).length=n:=by rfl) (hst:(KR es X.env).findIdx? (·.1)=none:=by rfl):PG X (.Tuple es k pos) (Hg X.K n t):=by
 intro aa s σ H v u Q I r hw;obtain⟨a,xs,e1,hq,hl,hw⟩:=hw
 subst e1;cases r
 obtain⟨its,rv,ht,hz⟩:=I.tuple hq
 refine assign_Tuple_tuple (I.ok.hd hc) ht (by simp[hn,<-hl,rv.length]) hst λh' hx=>?_
 have I1:Inv X aa σ H {s with heap:=h'}:=I.kept (t':=s.toks) λb o e=>hx b o (Jp (IJ e)) e
 exact h aa _ σ H xs _ Q I1 (by simpa using rv) hw
def Hm(to ti:TE)(t:DX):TG:=λv σ H Q=>to σ H λo H1=>ti σ H1 λi H2=>t o i v H2 λH3=>Q σ H3
theorem Dn {o i:Expr}{to ti:TE}{t:DX}(ho:PE X o to)(hi:PE X i ti)(hs:FU X t)
 (ha: ∀v,M0 (.Subscript o i pos) X.env v=(do
   let ov <-MV [v] (eval o X.env)
   let iv <-MV [v,ov] (eval i X.env)
   Ov pos
   MV [v,ov,iv] (UO ov iv v)
   release [v,ov,iv] []):=by intro _;rfl):PG X (.Subscript o i pos) (Hm to ti t):=by
 intro aa s σ H v u Q I r h;rw[ha];refine Ik (JM (bR (ho aa s σ H _ I h) λov s1 hq_=>?_))
 obtain⟨x,H1,I1,r1,q1⟩:=hq_
 refine Ik (JM (bR (hi aa s1 σ H1 _ I1 q1) λiv s2 hq_=>?_))
 obtain⟨y,H2,I2,r2,q2⟩:=hq_
 refine Ik (L8 (Ik (JM (bR (hs aa s2 σ H2 x y v ov iv u _ I2 r1 r2 r q2) λ_ s3 hq_=>?_))))
 obtain⟨H3,I3,q3⟩:=hq_
 exact wpAny_release ⟨σ,H3,I3,q3⟩
def D6(te:TE)(g:TG):TS:=λD σ H=>te σ H λx H1=>g x σ H1 D.nx
theorem Ay {tg e:Expr}{te:TE}{g:TG}(he:PE X e te)(hg:PG X tg g)(hs:QV [tg] e pos.line X.env=pure false:=by rfl)(hw:QW [tg] e X.env=pure none:=by rfl)
 (h1:(KR [tg] X.env).map (·.2)=[M0 tg X.env]:=by rfl):PS X (.Assign [tg] e pos) (D6 te g):=by
 intro aa s σ H D I h;refine wpAny_Assign_stores (bR (he aa s σ H _ I h) λv s1 ⟨x,H1,I1,r1,q1⟩=>?_) hs hw
 rw[h1];exact bR (hg aa s1 σ H1 x v _ I1 r1 q1) λ_ s2 q=>q
theorem lh {i:Nat}{x:Str}{e:Expr}{te:TE}{pos':Pos}(hN:X.N.Nodup)(hi:X.N[i]? =some x)(hx:xW X.env.scope x)(he:PE X e te)(hs:Lp e (some (.Name x pos')) pos.line X.env=pure false:=by rfl)(hf:X.fn x=true\/X.env.scope.names.lookup x=some .local:=by first|exact .inl rfl|exact .inr rfl|assumption):
 PS X (.Assign [.Name x pos'] e pos) (D6 te (yK i)):=by
 intro aa s σ H D I h;refine wpAny_Assign_Name (bR (he aa s σ H _ I h) λv s1 ⟨y,H1,I1,r1,q1⟩=>?_) hs
 exact se I1 hN hi hx r1 (λs2 I2=>⟨_,H1,I2,q1⟩) hf
end
section
variable {X:Cx}{pos:Pos}
def Eh(c:TT)(tb:TS):TS:=λD σ H=> ∃W:Nat->St->Hp->Prop,(∃m,W m σ H)/\ ∀m σ H,W m σ H->
 c σ H λb H1=>if b=true then∃N:St->Hp->Prop,(∀σ' H',N σ' H'-> ∃m',m'<m/\W m' σ' H')/\tb {D with nx:=N,ct:=N,bk:=D.nx} σ H1 else D.nx σ H1
theorem z9 {c:Expr}{body:List Stmt}{tc:TT}{tb:TS}(hp:RU (model X.prog X.w) X.A X.env X.xe)(hc:PT X c tc)(hb:PSs X body tb):PS X (.While c body [] pos) (Eh tc tb):=by
 intro aa s σ H D I h;obtain⟨W,⟨m0,w0⟩,turn⟩:=h
 refine wpAny_While (codeAny_whileLoop (λn s'=> ∃σ' H',Inv X aa σ' H' s'/\W n σ' H') ?_ m0 ⟨σ,H,I,w0⟩)
 rintro n s1 ⟨σ1,H1,I1,w1⟩
 refine LV hp (bR (hc aa s1 σ1 H1 _ I1 (turn n σ1 H1 w1)) λb s2 hq_=>?_)
 obtain⟨H2,I2,q2⟩:=hq_
 cases b with
 |true=>
  obtain⟨N,hN,q2⟩:=q2
  rw[if_pos rfl];refine LV hp (bR (hb aa s2 σ1 H2 _ I2 q2) λf s3 q3=>?_)
  cases f with
  |next=>
   obtain⟨σ3,H3,I3,n3⟩:=q3
   obtain⟨m',hm,w3⟩:=hN σ3 H3 n3
   exact⟨m',hm,σ3,H3,I3,w3⟩
  |cont=>
   obtain⟨σ3,H3,I3,n3⟩:=q3
   obtain⟨m',hm,w3⟩:=hN σ3 H3 n3
   exact⟨m',hm,σ3,H3,I3,w3⟩
  |brk=>exact q3
  |ret v=>exact q3
 |false=>
  rw[if_neg Lh];exact Oi ⟨σ1,H2,I2,q2⟩
end
structure It where
 go:Nat->Hp->Prop
 yld:Nat->Hp->V->Hp->Prop
 stop:Nat->Hp->Prop
def jg(X:Cx)(aa:List (Addr×Obj))(H:Hp)(b:Addr):Prop:=
 H b=none/\b≠X.env.locals/\b∉X.fs/\(b∈X.ex\/X.s₀.heap.objs.size<=b)/\(∀x c,X.env.cells.lookup x=some c->c≠b)/\ ∀p∈X.pn++aa,p.1≠b
theorem Inv.fpOk {X:Cx}{aa:List (Addr×Obj)}{σ:St}{H H':Hp}{s:Io}{b:Addr}(I:Inv X aa σ H s)(hb:s.heap.objs.size<=b)(hn:H' b=none):jg X aa H' b:=by
 refine⟨hn,Ms (IL I.lt hb),I.nofs hb,.inr (JS I.sz hb),λx c e z=>?_,λp hp z=>?_⟩
 ·obtain⟨v,q⟩:=I.cell x c e
  exact absurd (IL q.lt (by rw[z];exact hb)) (LA _)
 ·exact absurd (IL (IJ (I.pin p hp).1) (by rw[z];exact hb)) (LA _)
structure Turn(P:Jf)(w:Jr)(K:Iz)(tg:Expr)(J:It)(fp:List Addr)(it:Addr)(tn:Nat->Heap->Prop):Prop where
 mem:it∈fp
 obj: ∀i h,tn i h-> ∀b∈fp,∃o,h.get? b=some o/\ ∀v,o.data≠ .cell v
 keep: ∀i h h',tn i h->(∀b∈fp,∀o,h.get? b=some o->h'.get? b=some o)->tn i h'
 item: ∀(X:Cx),X.prog=P->X.w=w->X.K=K->X.calm=true-> ∀(i:Nat) (aa:List (Addr×Obj)) (s:Io) (σ:St) (H:Hp) (E:Il->Io->Prop),Inv X aa σ H s->(∀b∈fp,jg X aa H b)->tn i s.heap->J.go i H->
  IF (model P w) X.A (No (.ref it)) (λr s1=> ∃u,r=some u/\
   IF (model P w) X.A (LW tg (.ref it) u) (λ_ s2=> ∃x H',Inv X aa σ H' s2/\RelV x u/\J.yld i H x H'/\tn (i+1) s2.heap/\ ∀b∈fp,H' b=none) E s1) E s
 done: ∀(X:Cx),X.prog=P->X.w=w->X.K=K->X.calm=true-> ∀(i:Nat) (aa:List (Addr×Obj)) (s:Io) (σ:St) (H:Hp) (E:Il->Io->Prop),Inv X aa σ H s->(∀b∈fp,jg X aa H b)->tn i s.heap->J.stop i H->
  IF (model P w) X.A (No (.ref it)) (λr s1=>r=none/\Inv X aa σ H s1) E s
 self: ∀(A:Jm) (i:Nat) (s:Io) (Q:Il->Io->Prop) (E:Il->Io->Prop),tn i s.heap->Q (.ref it) s->IF (model P w) A (O7 (.ref it)) Q E s
abbrev TI:=St->Hp->(It->Hp->Prop)->Prop
def HL(X:Cx)(aa:List (Addr×Obj))(σ:St)(tg:Expr)(R:It->Hp->Prop)(itv:Il)(s2:Io):Prop:=
 ∃(it:Addr) (fp:List Addr) (tn:Nat->Heap->Prop) (J:It) (H':Hp),itv=.ref it/\Inv X aa σ H' s2/\Turn X.prog X.w X.K tg J fp it tn/\tn 0 s2.heap/\(∀b∈fp,jg X aa H' b)/\R J H'
def PI(X:Cx)(tg iter:Expr)(wi:TI):Prop:=
 ∀(aa:List (Addr×Obj)) (s:Io) (σ:St) (H:Hp) (R:It->Hp->Prop),Inv X aa σ H s->wi σ H R->
  IF (model X.prog X.w) X.A (eval iter X.env) (λv s1=>IF (model X.prog X.w) X.A (O7 v) (HL X aa σ tg R) X.xe s1) X.xe s
theorem vF {M:YD}{A:Jm}{E:Il->Io->Prop}{s:Io}{tg:Expr}{it:Addr}{u:Il}{o:Obj}{n:String}{vs:Array Il}{Q:Unit->Io->Prop}(ho:s.heap.get? it=some o)(hc:o.cls=.type n)(hd:o.data=.fields vs)
 (hn:["enumerate","zip","dict_itemiterator","dict_reverseitemiterator","odict_iterator","itertools.zip_longest","itertools.pairwise"].contains n=false) (hQ:Q () s):IF M A (LW tg (.ref it) u) Q E s:=by
 unfold LW;cases tg<;>first
  |exact Im hQ
  |(cases u<;>first
     |exact Im hQ
     |(refine Ik (Q8 ho ?_)
       rw[hc,hd];show IF M A (if(["enumerate","zip","dict_itemiterator","dict_reverseitemiterator","odict_iterator","itertools.zip_longest","itertools.pairwise"].contains n&&vs[0]? ==some (NT _))=true then _ else _) Q E s
       rw[if_neg (by intro h;rw[hn,Qj] at h;cases h)]
       exact Im hQ))
def He(K:Iz)(a:Addr):It:=
 ⟨λi H=> ∃xs x,SqL K H a xs/\xs[i]? =some x,λi H x H'=>H'=H/\ ∀xs,SqL K H a xs->xs[i]? =some x,λi H=> ∃xs,SqL K H a xs/\xs.length<=i⟩
def Hc(K:Iz)(a:Addr):It:=
 ⟨λi H=> ∃xs x,SqT K H a xs/\xs[i]? =some x,λi H x H'=>H'=H/\ ∀xs,SqT K H a xs->xs[i]? =some x,λi H=> ∃xs,SqT K H a xs/\xs.length<=i⟩
def GJ(lo:Int)(n:Nat):It:=⟨λi _=>i<n,λi H x H'=>H'=H/\x=.int (lo+i),λi _=>n<=i⟩
theorem wO {P:Jf}{w:Jr}{K:Iz}{tg:Expr}(a it:Addr):Turn P w K tg (He K a) [it] it (λi h=>h.IsListIter it a i) where
 mem:=by simp
 obj:=λi h st b hb=>by
  have e:b=it:=by simpa using hb
  subst e;obtain⟨o,e,c,d⟩:=st
  exact⟨o,e,λv z=>by rw[d] at z;cases z⟩
 keep:=λi h h' st k=>st.at λo e=>k it (by simp) o e
 item:=by
  intro X hP hw hK hc i aa s σ H E I hf st hg;subst hP hw hK;obtain⟨xs,x,hq,hx⟩:=hg
  obtain⟨its,rv,p,hz⟩:=I.list hq
  obtain⟨u,hu,ru⟩:=rv.get hx
  obtain⟨f0,f1,f2,f3,f4,f5⟩:=hf it (by simp)
  refine wpAny_pyNext_list_item st p.isList (x:=u) (by simpa using hu) λh' st' sb=>?_
  have I1:Inv X aa σ H {s with heap:=h'}:=I.turned (t':=s.toks) (λb o hb e=>(sb.2 b hb).trans e) f0 f1 f3 f4 f5
  obtain⟨o,e,c,d⟩:=id st'
  exact⟨u,rfl,vF (s:={s with heap:=h'}) e c d (by decide) ⟨x,H,I1,ru,⟨rfl,λys hy=>by rw[I.list_inj hy hq];exact hx⟩,st',λb hb=>(hf b hb).1⟩⟩
 done:=by
  intro X hP hw hK hc i aa s σ H E I hf st hg;subst hP hw hK;obtain⟨xs,hq,hx⟩:=hg
  obtain⟨its,rv,p,hz⟩:=I.list hq
  obtain⟨f0,f1,f2,f3,f4,f5⟩:=hf it (by simp)
  have hl:=rv.length
  exact wpAny_pyNext_list_end (I.ok.hd hc) st p.isList (by simp;omega) λh' eb=>⟨rfl,I.turned (t':=s.toks) (λb o hb e=>eb b o hb e) f0 f1 f3 f4 f5⟩
 self:=λ_ _ _ _ _ st h=>wpAny_pyIter_listiter st h
theorem uS {P:Jf}{w:Jr}{K:Iz}{tg:Expr}(a it:Addr):Turn P w K tg (Hc K a) [it] it (λi h=>h.IsTupleIter it a i) where
 mem:=by simp
 obj:=λi h st b hb=>by
  have e:b=it:=by simpa using hb
  subst e;obtain⟨o,e,c,d⟩:=st
  exact⟨o,e,λv z=>by rw[d] at z;cases z⟩
 keep:=λi h h' st k=>st.at λo e=>k it (by simp) o e
 item:=by
  intro X hP hw hK hc i aa s σ H E I hf st hg;subst hP hw hK;obtain⟨xs,x,hq,hx⟩:=hg
  obtain⟨its,rv,p,hz⟩:=I.tuple hq
  obtain⟨u,hu,ru⟩:=rv.get hx
  obtain⟨f0,f1,f2,f3,f4,f5⟩:=hf it (by simp)
  refine wpAny_pyNext_tuple_item st (show s.heap.IsTuple a its.toArray from p) (x:=u) (by simpa using hu) λh' st' sb=>?_
  have I1:Inv X aa σ H {s with heap:=h'}:=I.turned (t':=s.toks) (λb o hb e=>(sb.2 b hb).trans e) f0 f1 f3 f4 f5
  obtain⟨o,e,c,d⟩:=id st'
  exact⟨u,rfl,vF (s:={s with heap:=h'}) e c d (by decide) ⟨x,H,I1,ru,⟨rfl,λys hy=>by rw[I.tuple_inj hy hq];exact hx⟩,st',λb hb=>(hf b hb).1⟩⟩
 done:=by
  intro X hP hw hK hc i aa s σ H E I hf st hg;subst hP hw hK;obtain⟨xs,hq,hx⟩:=hg
  obtain⟨its,rv,p,hz⟩:=I.tuple hq
  obtain⟨f0,f1,f2,f3,f4,f5⟩:=hf it (by simp)
  have hl:=rv.length
  exact wpAny_pyNext_tuple_end (I.ok.hd hc) st (show s.heap.IsTuple a its.toArray from p) (by simp;omega) λh' eb=>⟨rfl,I.turned (t':=s.toks) (λb o hb e=>eb b o hb e) f0 f1 f3 f4 f5⟩
 self:=λ_ _ _ _ _ st h=>wpAny_pyIter_tupleiter st h
theorem vc {P:Jf}{w:Jr}{K:Iz}{tg:Expr}(it:Addr)(lo:Int)(n:Nat):Turn P w K tg (GJ lo n) [it] it (λi h=>IsRangeIter h it (lo+(i:Nat)*1) ((n:Int) - (i:Nat)) 1) where
 mem:=by simp
 obj:=λi h st b hb=>by
  have e:b=it:=by simpa using hb
  subst e;exact⟨_,st,λv z=>by
   have z':Data.fields _=Data.cell v:=z
   cases z'⟩
 keep:=λi h h' st k=>k it (by simp) _ st
 item:=by
  intro X hP hw hK hc i aa s σ H E I hf st hg;subst hP hw hK;obtain⟨f0,f1,f2,f3,f4,f5⟩:=hf it (by simp)
  have W:=Walks.range (prog:=X.prog) (w:=X.w) (I.ok.hd hc) it lo 1 n
  refine W.item i s _ _ hg st λv h' tk hv st' kk=>?_
  obtain⟨t,rfl⟩:=hv
  have I1:Inv X aa σ H {s with heap:=h',toks:=tk}:=I.turned (λb o hb e=>kk b o (by simpa using hb) e) f0 f1 f3 f4 f5
  refine⟨_,rfl,vF (s:={s with heap:=h',toks:=tk}) (n:="range_iterator") st' rfl rfl (by decide) ⟨.int (lo+i),H,I1,⟨t,?_⟩,⟨rfl,rfl⟩,st',λb hb=>(hf b hb).1⟩⟩
  rw[Int.mul_one]
 done:=by
  intro X hP hw hK hc i aa s σ H E I hf st hg;subst hP hw hK;obtain⟨f0,f1,f2,f3,f4,f5⟩:=hf it (by simp)
  exact wpAny_pyNext_range_end (I.ok.hd hc) st (by have:n<=i:=hg;omega) λh' eb=>⟨rfl,I.turned (t':=s.toks) (λb o hb e=>eb b o hb e) f0 f1 f3 f4 f5⟩
 self:=λ_ _ _ _ _ st h=>wpAny_pyIter_rangeiter st h
section
variable {X:Cx}{tg:Expr}
def Fj(K:Iz)(tl:TE):TI:=λσ H R=>tl σ H λx H1=> ∃a,x=.ref a/\(∃xs,SqL K H1 a xs)/\R (He K a) H1
def HC(K:Iz)(tl:TE):TI:=λσ H R=>tl σ H λx H1=> ∃a,x=.ref a/\(∃xs,SqT K H1 a xs)/\R (Hc K a) H1
theorem vq {l:Expr}{tl:TE}(hl:PE X l tl):PI X tg l (Fj X.K tl):=by
 intro aa s σ H R I h;refine bR (hl aa s σ H _ I h) λv s1 hq_=>?_
 obtain⟨x,H1,I1,r1,q1⟩:=hq_
 obtain⟨a,e,⟨xs,hq⟩,q⟩:=q1
 subst e;cases r1
 obtain⟨its,rv,p,hz⟩:=I1.list hq
 refine OW p.isList ?_
 refine⟨s1.heap.objs.size,[s1.heap.objs.size],_,_,H1,rfl,I1.kept (t':=s1.toks) λb o e=>Ip _ e,wO a _,⟨_,IN _ rfl,rfl,rfl⟩,λb hb=>?_,q⟩
 have e:b=s1.heap.objs.size:=by simpa using hb
 subst e;exact I1.fpOk (Iv _) (I1.hok.fresh (Iv _))
theorem ER {l:Expr}{tl:TE}(hl:PE X l tl):PI X tg l (HC X.K tl):=by
 intro aa s σ H R I h;refine bR (hl aa s σ H _ I h) λv s1 hq_=>?_
 obtain⟨x,H1,I1,r1,q1⟩:=hq_
 obtain⟨a,e,⟨xs,hq⟩,q⟩:=q1
 subst e;cases r1
 obtain⟨its,rv,p,hz⟩:=I1.tuple hq
 refine wpAny_pyIter_tuple (show s1.heap.IsTuple a its.toArray from p) ?_
 refine⟨s1.heap.objs.size,[s1.heap.objs.size],_,_,H1,rfl,I1.kept (t':=s1.toks) λb o e=>Ip _ e,uS a _,⟨_,IN _ rfl,rfl,rfl⟩,λb hb=>?_,q⟩
 have e:b=s1.heap.objs.size:=by simpa using hb
 subst e;exact I1.fpOk (Iv _) (I1.hok.fresh (Iv _))
theorem yp {aa:List (Addr×Obj)}{σ:St}{H:Hp}{s:Io}{R:It->Hp->Prop}{E:Il->Io->Prop}{lo hi:Int}{t u v:Tok}{tk:Nat}(I:Inv X aa σ H s)(h1: -(2^62)<=lo)(h2:lo<2^62)(h3: -(2^62)<=hi)(h4:hi<2^62)
 (q:R (GJ lo (hi-lo).toNat) H):IF (model X.prog X.w) X.A (O7 (.ref s.heap.objs.size)) (HL X aa σ tg R) E {s with heap:=s.heap.push {cls:=.type "range",data:=.fields #[.int lo t,.int hi u,.int 1 v]},toks:=tk}:=by
 refine wpAny_pyIter_range (IsRange.new ..) (small_one h1 h2 h3 h4) ?_
 have I1:Inv X aa σ H {s with heap:=s.heap.push {cls:=.type "range",data:=.fields #[.int lo t,.int hi u,.int 1 v]},toks:=tk}:=I.kept λb o e=>Ip _ e
 refine⟨(s.heap.push {cls:=.type "range",data:=.fields #[.int lo t,.int hi u,.int 1 v]}).objs.size,[(s.heap.push {cls:=.type "range",data:=.fields #[.int lo t,.int hi u,.int 1 v]}).objs.size],_,_,H,rfl,
  I1.kept (t':=tk) λb o e=>Ip _ e,vc _ lo (hi-lo).toNat,?_,λb hb=>?_,q⟩
 ·have e1:lo+((0:Nat):Int)*1=lo:=by simp
  have e2:(((hi-lo).toNat:Nat):Int) - ((0:Nat):Int)=Nu lo hi 1:=by rw[rangeSize_one];split<;>omega
  show IsRangeIter _ _ (lo+((0:Nat):Int)*1) ((((hi-lo).toNat:Nat):Int) - ((0:Nat):Int)) 1;rw[e1,e2];exact IN _ rfl
 ·have e:b=(s.heap.push {cls:=.type "range",data:=.fields #[.int lo t,.int hi u,.int 1 v]}).objs.size:=by simpa using hb
  subst e;exact I1.fpOk (Iv _) (I1.hok.fresh (Iv _))
def FC(ta:TA):TI:=λσ H R=>ta σ H λvs H1=> ∃j:Int,vs=[.int j]/\ -(2^62)<=j/\j<2^62/\R (GJ 0 j.toNat) H1
theorem pG {a:Expr}{ta:TA}{p pos:Pos}(hg:Gl X "range")(hm:X.mg "range"=none)(ha:PA X [a] ta)(hs:ID [a] X.env=[(false,eval a X.env)]:=by rfl):PI X tg (.Call (.Name "range" p) [a] [] pos) (FC ta):=by
 intro aa s σ H R I h;refine Call_ (nL I hg hm boot_range (Ox (bR (ha pos aa s σ H _ I h) λus s1 ⟨vs,H1,I1,r1,q1⟩=>?_) hs rfl))
 obtain⟨j,e,q1,q2,q⟩:=q1
 subst e;cases r1 with
 |cons r rr=>
  cases rr
  obtain⟨t,rfl⟩:=r
  exact call_range_1 (yp I1 (by omega) (by omega) q1 q2 (by simpa using q))
def Hj(wi:TI)(g:TG)(tb:TS):TS:=λD σ H=>wi σ H λJ H1=> ∃W:Nat->Nat->St->Hp->Prop,(∃m,W 0 m σ H1)/\ ∀i m σ H,W i m σ H->
 (J.stop i H/\D.nx σ H)\/(J.go i H/\ ∃N:St->Hp->Prop,(∀σ' H',N σ' H'-> ∃m',m'<m/\W (i+1) m' σ' H')/\ ∀x H',J.yld i H x H'->g x σ H' λσ2 H2=>tb {D with nx:=N,ct:=N,bk:=D.nx} σ2 H2)
def kS(fp:List Addr)(h:Heap):List (Addr×Obj):=fp.filterMap λb=>(h.get? b).map λo=>(b,o)
theorem dQ {fp:List Addr}{h:Heap}{b:Addr}{o:Obj}(hb:b∈fp)(e:h.get? b=some o):(b,o)∈kS fp h:=OG.mpr ⟨b,hb,by rw[e];rfl⟩
theorem xO {fp:List Addr}{h:Heap}{p:Addr×Obj}(hp:p∈kS fp h):p.1∈fp/\h.get? p.1=some p.2:=by
 obtain⟨b,hb,e⟩:=OG.mp hp
 cases q:h.get? b with
 |none=>rw[q] at e;cases e
 |some o=>
  rw[q] at e;have e':(b,o)=p:=Jv e
  subst e';exact⟨hb,q⟩
theorem Inv.pinned {aa:List (Addr×Obj)}{σ:St}{H:Hp}{s:Io}{fp:List Addr}(I:Inv X aa σ H s)(hf: ∀b∈fp,jg X aa H b)(ho: ∀b∈fp,∃o,s.heap.get? b=some o/\ ∀v,o.data≠ .cell v):Inv X (aa++kS fp s.heap) σ H s:=
 I.pins_of λp hp=>(IQ.mp hp).elim (λz=>I.pin p (IK _ z)) λz=>by
  obtain⟨hb,e⟩:=xO z
  obtain⟨f0,f1,f2,_⟩:=hf p.1 hb
  obtain⟨o,e',d⟩:=ho p.1 hb
  rw[e] at e';cases e';exact⟨e,f0,f1,f2,d⟩
theorem Inv.unpinned {aa pl:List (Addr×Obj)}{σ:St}{H:Hp}{s:Io}(I:Inv X (aa++pl) σ H s):Inv X aa σ H s:=I.pins_of λp hp=>I.pin p (IK _ (Jk _ hp))
theorem Dq {iter:Expr}{body:List Stmt}{wi:TI}{g:TG}{tb:TS}{pos:Pos}(hp:RU (model X.prog X.w) X.A X.env X.xe)(hc:X.calm=true)(hi:PI X tg iter wi)(hg:PG X tg g)(hb:PSs X body tb)
 (hs: ∀x,Kp iter X.env x=pure x:=by intro _;rfl):PS X (.For tg iter body [] pos) (Hj wi g tb):=by
 intro aa s σ H D I h;refine wpAny_For (bR (hi aa s σ H _ I h) λv s1 h1=>bR h1 λitv s2 h2=>?_) hs
 obtain⟨it,fp,tn,J,H2,e,I2,T,st2,f2,W,⟨m0,w0⟩,turn⟩:=h2
 subst e;have stat: ∀ {H':Hp},(∀b∈fp,H' b=none)-> ∀b∈fp,jg X aa H' b:=λhn b hb=>⟨hn b hb,(f2 b hb).2⟩
 refine codeAny_forLoop_any (λn s'=> ∃i σ' H',Inv X aa σ' H' s'/\tn i s'.heap/\(∀b∈fp,H' b=none)/\W i n σ' H') ?_ m0 ⟨0,σ,H2,I2,st2,λb hb=>(f2 b hb).1,w0⟩
 rintro n s3 ⟨i,σ3,H3,I3,st3,fr3,w3⟩
 rcases turn i n σ3 H3 w3 with⟨stop,qn⟩|⟨go,N,hN,step⟩
 ·refine LV hp (bR (T.done X rfl rfl rfl hc i aa s3 σ3 H3 X.xe I3 (stat fr3) st3 stop) λr s4 hq_=>?_)
  obtain⟨hr,I4⟩:=hq_
  subst hr;exact Oi ⟨σ3,H3,I4,qn⟩
 ·refine LV hp (bR (T.item X rfl rfl rfl hc i aa s3 σ3 H3 X.xe I3 (stat fr3) st3 go) λr s4 hq_=>?_)
  obtain⟨u,hr,h4⟩:=hq_
  subst hr;refine LV hp (bR h4 λ_ s5 hq_=>?_)
  obtain⟨x,H5,I5,r5,y5,st5,fr5⟩:=hq_
  have I5':=I5.pinned (stat fr5) (T.obj _ _ st5)
  refine LV hp (bR (hg _ s5 σ3 H5 x u _ I5' r5 (step x H5 y5)) λ_ s6 hq_=>?_)
  obtain⟨σ6,H6,I6,q6⟩:=hq_
  refine LV hp (bR (hb _ s6 σ6 H6 _ I6 q6) λf s7 q7=>?_)
  have Pp: ∀ {σ7:St} {H7:Hp},Inv X (aa++kS fp s5.heap) σ7 H7 s7->N σ7 H7-> ∃m,m<n/\ ∃i σ' H',Inv X aa σ' H' s7/\tn i s7.heap/\(∀b∈fp,H' b=none)/\W i m σ' H':=λ{σ7 H7} I7 n7=>by
   obtain⟨m',hm,w7⟩:=hN σ7 H7 n7
   refine⟨m',hm,i+1,σ7,H7,I7.unpinned,T.keep _ _ _ st5 λb hb o e=>(I7.pin (b,o) (IK _ (IK _ (dQ hb e)))).1,λb hb=>?_,w7⟩
   obtain⟨o,e,d⟩:=T.obj _ _ st5 b hb
   exact(I7.pin (b,o) (IK _ (IK _ (dQ hb e)))).2.1
  cases f with
  |next=>obtain⟨σ7,H7,I7,n7⟩:=q7;exact Pp I7 n7
  |cont=>obtain⟨σ7,H7,I7,n7⟩:=q7;exact Pp I7 n7
  |brk=>obtain⟨σ7,H7,I7,q7⟩:=q7;exact⟨σ7,H7,I7.unpinned,q7⟩
  |ret v=>obtain⟨x7,σ7,H7,I7,r7,q7⟩:=q7;exact⟨x7,σ7,H7,I7.unpinned,r7,q7⟩
end
abbrev R2:=V->V->Hp->VK->Prop
def km(X:Cx)(f:Il->Il->Sem Il)(r:R2):Prop:=
 ∀(aa:List (Addr×Obj)) (s:Io) (σ:St) (H:Hp) (x y:V) (v u:Il) (Q:VK),Inv X aa σ H s->RelV x v->RelV y u->r x y H Q->
  IF (model X.prog X.w) X.A (f v u) (EP X aa σ Q) X.xe s
def cK(X:Cx)(f:Il)(r:List V->Hp->VK->Prop):Prop:=
 ∀(aa:List (Addr×Obj)) (s:Io) (σ:St) (H:Hp) (xs:List V) (us:List Il) (Q:VK),Inv X aa σ H s->Vals xs us->r xs H Q->
  IF (model X.prog X.w) X.A (call f us) (EP X aa σ Q) X.xe s
def Hs(X:Cx)(r:V->Hp->(Bool->Hp->Prop)->Prop):Prop:=
 ∀(aa:List (Addr×Obj)) (s:Io) (σ:St) (H:Hp) (x:V) (v:Il) (Q:Bool->Hp->Prop),Inv X aa σ H s->RelV x v->r x H Q->
  IF (model X.prog X.w) X.A (XQ v) (TP X aa σ Q) X.xe s
def Fe(r:R2)(ta tb:TE):TE:=λσ H Q=>ta σ H λx H1=>tb σ H1 λy H2=>r x y H2 Q
def rI(C:Int->Int->Prop)(g:Int->Int->V):R2:=λx y H Q=> ∃i j,x=.int i/\y=.int j/\C i j/\Q (g i j) H
def Bj(g:Int->Int->V):R2:=λx y H Q=> ∃i j,x=.int i/\y=.int j/\Q (g i j) H
section
variable {X:Cx}{a b c:Expr}{ta tb tc:TE}{pos:Pos}
theorem Ew(ha:PE X a ta)(hb:PE X b tb){aa:List (Addr×Obj)}{s:Io}{σ:St}{H:Hp}{R:V->V->Hp->Prop}(I:Inv X aa σ H s)
 (h:ta σ H λx H1=>tb σ H1 λy H2=>R x y H2) {Q:Il->Io->Prop} {f:Il->Il->Sem Il}
 (hf: ∀v u s2 x y H2,Inv X aa σ H2 s2->RelV x v->RelV y u->R x y H2->IF (model X.prog X.w) X.A (f v u) Q X.xe s2):
 IF (model X.prog X.w) X.A (eval a X.env) (λv s₁=>IF (model X.prog X.w) X.A (eval b X.env) (λu s₂=>IF (model X.prog X.w) X.A (f v u) Q X.xe s₂) X.xe s₁) X.xe s:=by
 refine bR (ha aa s σ H _ I h) λv s1 hq_=>?_
 obtain⟨x,H1,I1,r1,q1⟩:=hq_
 refine bR (hb aa s1 σ H1 _ I1 q1) λu s2 hq_=>?_
 obtain⟨y,H2,I2,r2,q2⟩:=hq_
 exact hf v u s2 x y H2 I2 r1 r2 q2
theorem x8 {op:Wa}{r:R2}(ho:km X (Mj op) r)(ha:PE X a ta)(hb:PE X b tb):PE X (.BinOp a op b pos) (Fe r ta tb):=by
 intro aa s σ H Q I h;exact wpAny_BinOp (Ew ha hb I h λv u s2 x y H2 I2 rx ry q=>ho aa s2 σ H2 x y v u Q I2 rx ry q)
theorem GL {f:Il->Il->Sem Il}{C:Int->Int->Prop}{g:Int->Int->Int}
 (rule: ∀(i j:Int) (t u:Tok) (s:Io) (Q:Il->Io->Prop) (E:Il->Io->Prop),C i j->Q (.int (g i j) s.toks) {s with toks:=s.toks+1}->IF (model X.prog X.w) X.A (f (.int i t) (.int j u)) Q E s):
 km X f (rI C λi j=>.int (g i j)):=by
 intro aa s σ H x y v u Q I rx ry h;obtain⟨i,j,rfl,rfl,hc,q⟩:=h
 obtain⟨t,rfl⟩:=rx
 obtain⟨t',rfl⟩:=ry
 exact rule i j t t' s _ _ hc ⟨.int (g i j),H,I.tok _,⟨_,rfl⟩,q⟩
theorem Fq {f:Il->Il->Sem Il}{g:Int->Int->Int}
 (rule: ∀(i j:Int) (t u:Tok) (s:Io) (Q:Il->Io->Prop) (E:Il->Io->Prop),Q (.int (g i j) s.toks) {s with toks:=s.toks+1}->IF (model X.prog X.w) X.A (f (.int i t) (.int j u)) Q E s):
 km X f (Bj λi j=>.int (g i j)):=by
 intro aa s σ H x y v u Q I rx ry h;obtain⟨i,j,rfl,rfl,q⟩:=h
 obtain⟨t,rfl⟩:=rx
 obtain⟨t',rfl⟩:=ry
 exact rule i j t t' s _ _ ⟨.int (g i j),H,I.tok _,⟨_,rfl⟩,q⟩
theorem Fb {f:Il->Il->Sem Il}{g:Int->Int->Bool}
 (rule: ∀(i j:Int) (t u:Tok) (s:Io) (Q:Il->Io->Prop) (E:Il->Io->Prop),Q (.bool (g i j)) s->IF (model X.prog X.w) X.A (f (.int i t) (.int j u)) Q E s):
 km X f (Bj λi j=>.bl (g i j)):=by
 intro aa s σ H x y v u Q I rx ry h;obtain⟨i,j,rfl,rfl,q⟩:=h
 obtain⟨t,rfl⟩:=rx
 obtain⟨t',rfl⟩:=ry
 exact rule i j t t' s _ _ ⟨.bl (g i j),H,I,rfl,q⟩
def Gs(i j:Int):Prop:=0<=j/\j<=1000000/\i.natAbs<2^64
theorem x0:km X (Mj .Add) (Bj λi j=>.int (i+j)):=Fq λ_ _ _ _ _ _ _ q=>add_int q
theorem Dy:km X (Mj .Sub) (Bj λi j=>.int (i-j)):=Fq λ_ _ _ _ _ _ _ q=>sub_int q
theorem DU:km X (Mj .Mod) (rI (λ_ j=>0<j) λi j=>.int (i % j)):=GL λi j _ _ _ _ _ hc q=>by
 have h1:(0:Int)<j:=hc
 exact mod_int' (by omega) (by rw[Int.fmod_eq_emod_of_nonneg i (by omega)];exact q)
theorem Ed:km X (Mj .Pow) (rI Gs λi j=>.int (i^j.toNat)):=GL λ_ _ _ _ _ _ _ hc q=>pow_int_small hc.1 hc.2.1 hc.2.2 q
end
section
variable {X:Cx}{a b c:Expr}{ta tb tc:TE}{pos:Pos}
theorem sN:km X (LD .Lt) (Bj λi j=>.bl (decide (i<j))):=Fb λ_ _ _ _ _ _ _ q=>lt_int q
theorem Gy:km X (LD .Gt) (Bj λi j=>.bl (decide (j<i))):=Fb λ_ _ _ _ _ _ _ q=>gt_int q
theorem Fn:km X (LD .GtE) (Bj λi j=>.bl (decide (j<=i))):=Fb λ_ _ _ _ _ _ _ q=>ge_int q
theorem ck(b:Expr){op:S6}(h:op≠ .In:=by decide)(h2:op≠ .NotIn:=by decide):LC op b=false:=by
 have e1:(op==CmpOp.In)=false:=by cases op<;>first|rfl|exact absurd rfl h
 have e2:(op==CmpOp.NotIn)=false:=by cases op<;>first|rfl|exact absurd rfl h2
 cases b<;>simp[LC,e1,e2]
theorem BB {op:S6}{r:R2}(ho:km X (LD op) r)(ha:PE X a ta)(hb:PE X b tb)(hm:LC op b=false):PE X (.Compare a [op] [b] pos) (Fe r ta tb):=by
 intro aa s σ H Q I h;exact wpAny_Compare1 (Ew ha hb I h λv u s2 x y H2 I2 rx ry q=>ho aa s2 σ H2 x y v u Q I2 rx ry q) hm
def GF(t:TE):TT:=λσ H Q=>t σ H λx H'=> ∃k,x=.bl k/\Q k H'
theorem wg {op:S6}{r:R2}(ho:km X (LD op) r)(ha:PE X a ta)(hb:PE X b tb)(hm:LC op b=false):PT X (.Compare a [op] [b] pos) (GF (Fe r ta tb)):=by
 intro aa s σ H Q I h;refine P9 (bR (ha aa s σ H _ I h) λv s1 ⟨x,H1,I1,r1,q1⟩=>bR (hb aa s1 σ H1 _ I1 q1) λu s2 ⟨y,H2,I2,r2,q2⟩=>
  bR (ho aa s2 σ H2 x y v u _ I2 r1 r2 q2) λc s3 ⟨z,H3,I3,r3,k,e,q3⟩=>?_) hm
 subst e;cases r3
 exact K6 ⟨H3,I3,q3⟩
def Ef(K:Iz)(x:V)(H:Hp)(k:Bool):Prop:=
 match x with
 | .non=>k=false
 | .bl b=>k=b
 | .int i=>k=(i !=0)
 | .str y=>y.length<=IM/\k=((y.length:Int) !=0)
 | .byt y=>y.size<=IM/\k=((y.size:Int) !=0)
 | .ref p=>(∃xs,SqL K H p xs/\k= !xs.isEmpty)\/(∃xs,SqT K H p xs/\k= !xs.isEmpty)\/ ∃kvs,H p=some (.dK kvs)/\k= !kvs.isEmpty
 |_=>False
theorem uE {κ:Type}{kvs:List (κ×V)}{vs:List (κ×Il)}(r:KV kvs vs):(!vs.isEmpty)= !kvs.isEmpty:=by
 cases r<;>rfl
theorem mF {xs:List V}{its:List Il}(r:Vals xs its):(!its.toArray.isEmpty)= !xs.isEmpty:=by
 cases r<;>simp
theorem jI:(IM:Nat)<2^63:=by rw[JP];decide
theorem EG:Hs X (λx H Q=> ∃k,Ef X.K x H k/\Q k H):=by
 intro aa s σ H x v Q I rx h;obtain⟨k,e,q⟩:=h
 have hl:=jI
 have hs:IM=16777216:=JP
 cases x with
 |non=>
  cases rx
  have e':k=false:=e
  subst e';exact truthy_none ⟨H,I,q⟩
 |bl b=>
  cases rx
  have e':k=b:=e
  subst e';exact K6 ⟨H,I,q⟩
 |int i=>
  obtain⟨t,rfl⟩:=rx
  have e':k=(i !=0):=e
  subst e';exact PySem.P.truthy_int ⟨H,I,q⟩
 |str y=>
  obtain⟨t,rfl⟩:=rx
  obtain⟨hy,e'⟩:y.length<=IM/\k=((y.length:Int) !=0):=e
  subst e';exact PySem.P.truthy_str (by omega) ⟨H,I.tok _,q⟩
 |byt y=>
  obtain⟨t,rfl⟩:=rx
  obtain⟨hy,e'⟩:y.size<=IM/\k=((y.size:Int) !=0):=e
  subst e';exact W.truthy_bytes (by omega) ⟨H,I.tok _,q⟩
 |ref p=>
  cases rx
  have e':(∃xs,SqL X.K H p xs/\k= !xs.isEmpty)\/(∃xs,SqT X.K H p xs/\k= !xs.isEmpty)\/ ∃kvs,H p=some (.dK kvs)/\k= !kvs.isEmpty:=e
  rcases e' with⟨xs,hx,e'⟩|⟨xs,hx,e'⟩|⟨kvs,hx,e'⟩
  ·subst e'
   obtain⟨its,r,pl,hz⟩:=I.list hx
   have hlen:=r.length
   exact wpAny_truthy_list pl.isList (by simp only[IP];omega) ⟨H,I.tok _,by rw[mF r];exact q⟩
  ·subst e'
   obtain⟨its,r,pl,hz⟩:=I.tuple hx
   have hlen:=r.length
   exact truthy_tuple pl (by simp only[IP];omega) ⟨H,I.tok _,by rw[mF r];exact q⟩
  ·subst e'
   obtain⟨hz,hS,vs,r,m⟩:kvs.length<=IM/\(p==LL)=false/\ ∃vs,KV kvs vs/\s.heap.DictOf (bJ X.prog X.w) p vs:=I.hok p _ hx
   have hlen:kvs.length=vs.length:=L7 r
   exact wpAny_truthy_dict hS m (by omega) ⟨H,I.tok _,by rw[uE r];exact q⟩
 |_=>exact(show False from e).elim
theorem s0(ha:PE X a ta)(he: ∀whole,isTrue a X.env whole=(do let v <-whole;Ov a.pos;MV [v] (XQ v))):
 PT X a (λσ H Q=>ta σ H λx H'=> ∃k,Ef X.K x H' k/\Q k H'):=by
 intro aa s σ H Q I h;exact isTrue_plain (bR (ha aa s σ H _ I h) λv s1 ⟨x,H1,I1,r1,q1⟩=>EG aa s1 σ H1 x v Q I1 r1 q1) (he _)
theorem ie {x:V}{us:List Il}(r:Vals [x] us): ∃u,us=[u]/\RelV x u:=by
 cases r with
 |cons r1 r2=>cases r2;exact⟨_,rfl,r1⟩
theorem C5 {x y:V}{us:List Il}(r:Vals [x,y] us): ∃u w',us=[u,w']/\RelV x u/\RelV y w':=by
 cases r with
 |cons r1 r2=>
  cases r2 with
  |cons r3 r4=>cases r4;exact⟨_,_,rfl,r1,r3⟩
theorem zX:cK X (.builtin "abs") (λxs H Q=> ∃i,xs=[.int i]/\Q (.int (if i<0 then -i else i)) H):=by
 intro aa s σ H xs us Q I r h;obtain⟨i,rfl,q⟩:=h
 obtain⟨u,rfl,t,rfl⟩:=ie r
 exact call_abs_int λu tk=>⟨.int (if i<0 then -i else i),H,I.tok _,⟨_,rfl⟩,q⟩
theorem wV(hc:X.calm=true):cK X (.builtin "min") (λxs H Q=> ∃i j,xs=[.int i,.int j]/\Q (.int (if j<i then j else i)) H):=by
 intro aa s σ H xs us Q I r h;obtain⟨i,j,rfl,q⟩:=h
 obtain⟨u,w',rfl,⟨t,rfl⟩,⟨t',rfl⟩⟩:=C5 r
 refine min_two_ints (I.ok.hd hc) λh' tk k=>⟨_,H,I.kept k,?_,q⟩
 by_cases hj:j<i
 ·rw[if_pos hj,if_pos hj];exact⟨_,rfl⟩
 ·rw[if_neg hj,if_neg hj];exact⟨_,rfl⟩
end
theorem RelO.some_of {v:V}{o:Option Il}(r:RelO (some v) o): ∃u,o=some u/\RelV v u:=by
 cases o with
 |none=>exact(show False from r).elim
 |some u=>exact⟨u,rfl,r⟩
structure Room(k:Nat)(A:Jm):Prop where
 hd:A.handled=none
 dp:A.depth+3*k+5<S8
 un:A.units+16*k+200<Kk
theorem Room.mono {j k:Nat}{A:Jm}(r:Room k A)(h:j<=k):Room j A:=⟨r.hd,by have:=r.dp;omega,by have:=r.un;omega⟩
theorem Room.deeper {k:Nat}{A:Jm}(r:Room (k+1) A)(env:Env):Room k (A.deeper env):=
 ⟨r.hd,by have:=r.dp;show A.depth+1+3*k+5<_;omega,by have:=r.un;show A.units+3+16*k+200<_;omega⟩
theorem Room.depth {k:Nat}{A:Jm}(r:Room k A):A.depth<recursionLimit:=by have:=r.dp;omega
theorem Room.units {k:Nat}{A:Jm}(r:Room k A):A.units+64<cLine:=by have:=r.un;omega
def Gr:TA:=λ_ H Q=>Q [] H
def Gk(ta:TE)(tr:TA):TA:=λσ H Q=>ta σ H λx H1=>tr σ H1 λxs H2=>Q (x::xs) H2
section
variable {X:Cx}{e:Expr}{es:List Expr}{te:TE}{t:TA}{pos:Pos}
theorem dL:PA X [] Gr:=λ_ _ _ _ H Q I h=>Rt ⟨[],H,I,.nil,h⟩
theorem bS(ha:PE X e te)(hr:PA X es t)(hs:ID (e::es) X.env=(false,eval e X.env)::ID es X.env:=by rfl):PA X (e::es) (Gk te t):=by
 intro pos aa s σ H Q I h;rw[hs];show IF _ _ (spliced ((false,eval e X.env)::KQ pos (ID es X.env))) _ _ s;refine OI (bR (ha aa s σ H _ I h) λu s1 hq_=>?_)
 obtain⟨x,H1,I1,r1,q1⟩:=hq_
 exact bR (hr pos aa s1 σ H1 _ I1 q1) λus s2 ⟨xs,H2,I2,r2,q2⟩=>⟨x::xs,H2,I2,.cons r1 r2,q2⟩
def GY(t:TA):TE:=λσ H Q=>t σ H λxs H1=>xs.length<=IM/\ ∀p,H1 p=none->Q (.ref p) (bp H1 p (.tup xs))
def G6(t:TA):TE:=λσ H Q=>t σ H λxs H1=>xs.length<=IM/\ ∀p,H1 p=none->Q (.ref p) (bp H1 p (.lst xs))
theorem D7 {x1}(h:PA X es t):PE X (.Tuple es x1 pos) (GY t):=by
 intro aa s σ H Q I hq;refine wpAny_Tuple_spliced (bR (h pos aa s σ H _ I hq) λus s1 ⟨xs,H1,I1,r,z,q⟩=>⟨by rw[<-r.length];exact z,?_⟩)
 have hf:H1 s1.heap.objs.size=none:=I1.hok.fresh (Iv _)
 refine⟨.ref s1.heap.objs.size,bp H1 s1.heap.objs.size (.tup xs),I1.laid (t':=s1.toks) (λb u e=>Ip _ e) (Iv _) ?_,rfl,q _ hf⟩
 exact⟨z,us,r,⟨_,IN _ rfl,rfl,_,rfl⟩,_,IN _ rfl,rfl⟩
theorem EE(h:PA X es t):PE X (.List es pos) (G6 t):=by
 intro aa s σ H Q I hq;refine wpAny_List_spliced (bR (h pos aa s σ H _ I hq) λus s1 ⟨xs,H1,I1,r,z,q⟩=>⟨by rw[<-r.length];exact z,?_⟩)
 have hf:H1 s1.heap.objs.size=none:=I1.hok.fresh (Iv _)
 refine⟨.ref s1.heap.objs.size,bp H1 s1.heap.objs.size (.lst xs),I1.laid (t':=s1.toks) (λb u e=>Ip _ e) (Iv _) ?_,rfl,q _ hf⟩
 exact⟨z,us,0,r,IN _ rfl⟩
end
abbrev Sp:=List V->Hp->VK->XK->Prop
abbrev yL:=List Env->Hp->Io->XK->Il->Io->Prop
structure Env0(P:Jf)(w:Jr)(K:Iz)(mg:Str->Option Il)(base:Heap)(A:Jm)(outer:List Env)(s:Io)(H:Hp):Prop where
 frames:A.frames=some outer
 mod:Mod K mg base
 bs: ∀b o,base.get? b=some o->s.heap.get? b=some o/\H b=none
 bsz:base.objs.size<=s.heap.objs.size
 funs:s.heap.FunFrames base outer
 frf: ∀b∈qV outer,H b=none
 hok:HOk P w H s.heap
 bare:N4 s.gens
def CE(outer:List Env)(P:Jf)(w:Jr)(H:Hp)(s:Io)(Q:VK)(u:Il)(s':Io):Prop:=
 ∃v H',s'.os=s.os/\N4 s'.gens/\Un (qV outer) [] H H' s.heap s'.heap/\HOk P w H' s'.heap/\RelV v u/\Q v H'
def CR(CX:yL)(outer:List Env)(P:Jf)(w:Jr)(H:Hp)(s:Io)(Q:VK)(E:XK)(r:PH)(s':Io):Prop:=
 match r with
 | .ok (.ret u)=>CE outer P w H s Q u s'
 | .ok _=>False
 | .error e=>CX outer H s E e s'
structure FnOk(P:Jf)(w:Jr)(K:Iz)(mg:Str->Option Il)(base:Heap)(CX:yL)(k:Nat)(f:Addr)(fd:LM)(ps:List Str)(sp:Sp):Prop where
 len: ∀vs H Q E,sp vs H Q E->vs.length=ps.length
 run: ∀(A:Jm) (outer:List Env) (s:Io) (H:Hp) (args:Args) (us:List Il) (vs:List V) (Q:VK) (E:XK),Room k A->Env0 P w K mg base A outer s H->Ru s fd args (ps.zip us)->Vals vs us->sp vs H Q E->
  LQ (model P w) A (.call (.ref f) args) (CR CX outer P w H s Q E) s
theorem FnOk.imp {P:Jf}{w:Jr}{K:Iz}{mg:Str->Option Il}{base:Heap}{CX:yL}{k:Nat}{f:Addr}{fd:LM}{ps:List Str}{sp sp':Sp}(F:FnOk P w K mg base CX k f fd ps sp)
 (h: ∀vs H Q E,sp' vs H Q E->sp vs H Q E):FnOk P w K mg base CX k f fd ps sp':=
 ⟨λvs H Q E q=>F.len vs H Q E (h _ _ _ _ q),λA outer s H args us vs Q E hr he hb hv hs=>F.run A outer s H args us vs Q E hr he hb hv (h _ _ _ _ hs)⟩
section
variable {X:Cx}{aa:List (Addr×Obj)}{σ:St}{H:Hp}{s s':Io}
theorem Inv.env0(I:Inv X aa σ H s):Env0 X.prog X.w X.K X.mg X.base X.A X.stack s H:=
 ⟨I.ok.frames,I.ok.mod,I.bs,JS I.ok.bsz I.sz,I.stack,I.stkFree,I.hok,I.bare⟩
theorem Inv.after {Q:VK}{u:Il}(I:Inv X aa σ H s)(h:CE X.stack X.prog X.w H s Q u s'):EP X aa σ Q u s':=by
 obtain⟨v,H',os,bare,un,hok,r,q⟩:=h
 obtain⟨hh,g,d,t,os'⟩:=s'
 obtain rfl:os'=s.os:=os
 exact⟨v,H',I.call (h':=hh) (g':=g) (d':=d) (t':=t) (ch:=[]) un hok bare (λb z=>absurd z (by simp)),r,q⟩
end
def Ga(sp:Sp)(dvs:List V)(E:XK)(t:TA):TE:=λσ H Q=>t σ H λvs H1=>sp (vs++dvs) H1 Q E
def Binds(K:Iz)(fd:LM)(ps:List Str)(ds:List Il):Prop:=
 ∀(s:Io) (us:List Il),K.In s.heap->(us++ds).length=ps.length->Ru s fd ⟨us,[]⟩ (ps.zip (us++ds))
theorem Binds.all {K:Iz}{fd:LM}{ps:List Str}(h: ∀us:List Il,us.length=ps.length->bindArgs fd ⟨us,[]⟩=pure (ps.zip us)):Binds K fd ps []:=λs us _ hl=>by
 rw[KD] at hl⊢;exact .of_eq (h us hl)
def t5(CX:yL)(X:Cx)(E:XK):Prop:= ∀(aa:List (Addr×Obj)) (σ:St) (H:Hp) (s:Io) (e:Il) (s':Io),Inv X aa σ H s->CX X.stack H s E e s'->X.xe e s'
section
variable {X:Cx}{CX:yL}{k:Nat}{f C:Addr}{fd:LM}{ps:List Str}{sp:Sp}{dvs:List V}{ds:List Il}{E:XK}{x m:Str}{p pos apos:Pos}{e o:Expr}{es:List Expr}{ta:TE}{t:TA}
theorem Fa {aa:List (Addr×Obj)}{σ:St}{H:Hp}{s:Io}{Q:VK}{us:List Il}{vs:List V}(F:FnOk X.prog X.w X.K X.mg X.base CX k f fd ps sp)(hr:Room k X.A)(hb:Binds X.K fd ps ds)(hd:Vals dvs ds)(hx:t5 CX X E)
 (I:Inv X aa σ H s) (r:Vals vs us) (h:sp (vs++dvs) H Q E):IF (model X.prog X.w) X.A (call (.ref f) us) (EP X aa σ Q) X.xe s:=by
 have r2:Vals (vs++dvs) (us++ds):=r.append hd
 have hl:(us++ds).length=ps.length:=by rw[<-r2.length];exact F.len _ _ _ _ h
 refine S9 (Lj (F.run X.A X.stack s H ⟨us,[]⟩ (us++ds) (vs++dvs) Q E hr I.env0 (hb s us I.kIn hl) r2 h) λr s' hq=>?_)
 cases r with
 |error e=>exact hx aa σ H s e s' I hq
 |ok fl=>
  cases fl with
  |ret u=>exact I.after hq
  |next=>exact False.elim hq
  |brk=>exact False.elim hq
  |cont=>exact False.elim hq
theorem qv(F:FnOk X.prog X.w X.K X.mg X.base CX k f fd ps sp)(hr:Room k X.A)(hg:Gl X x)(hm:X.mg x=some (.ref f))(hk:Ki X.K (.ref f)=true)(hb:Binds X.K fd ps ds)(hd:Vals dvs ds)(hx:t5 CX X E)
 (ha:PA X (e::es) t) (hdb:(x==("__debug__":Str))=false:=by decide) (he:ID (e::es) X.env=(false,eval e X.env)::ID es X.env:=by rfl) (hpl:(KQ pos (ID es X.env)).any (·.1)=false:=by rfl):
 PE X (.Call (.Name x p) (e::es) [] pos) (Ga sp dvs E t):=by
 intro aa s σ H Q I h;refine Np (CG I hg hm ?_ hdb)
 refine W.callWith_K (h₀:=X.base) I.ok.mod.kin hk (bR (ha pos aa s σ H _ I h) λus s1 ⟨vs,H1,I1,r,q⟩=>⟨I1.kIn,?_⟩) he hpl
 exact Fa F hr hb hd hx I1 r q
end
structure FnScope(N P:List Str)(sc:LB):Prop where
 kind:sc.kind=.function
 co:sc.isCoroutine=false
 gen:sc.isGenerator=false
 nd:N.Nodup
 pre:N.take P.length=P
 par: ∀x∈P,sc.names.lookup x=some .local\/sc.names.lookup x=some .cell
 nofree: ∀y∈sc.names,y.2≠ .free
theorem oQ {kindOf:Str->Option Lv}{x:Str}: ∀ {binds:List (Str×Il)} {m:Str->Option Il},(∀v,(x,v)∉binds)->Ta kindOf binds m x=m x
 | [],_,_=>rfl
 |(n,v)::r,m,h=>by
  unfold Ta;rw[oQ λw hw=>h w (IZ _ hw)]
  split
  ·have:x≠n:=by rintro rfl;exact h v Jh
   simp[this]
  ·rfl
theorem pH {kindOf:Str->Option Lv}{x:Str}: ∀ {binds:List (Str×Il)} {m:Str->Option Il},(∀v,(x,v)∉binds)->Tb kindOf binds m x=m x
 | [],_,_=>rfl
 |(n,v)::r,m,h=>by
  unfold Tb;rw[pH λw hw=>h w (IZ _ hw)]
  split
  ·rfl
  ·have:x≠n:=by rintro rfl;exact h v Jh
   simp[this]
theorem pd {kindOf:Str->Option Lv}{x:Str}{v:Il}: ∀ {P:List Str} {vs:List Il} {i:Nat} {m:Str->Option Il},P.Nodup->P[i]? =some x->vs[i]? =some v->kindOf x=some .local->
 Ta kindOf (P.zip vs) m x=some v
 | [],_,_,_,_,h,_,_=>by simp at h
 |_::_,[],_,_,_,_,h,_=>by simp at h
 |p::P,w::vs,0,m,nd,h1,h2,hk=>by
  simp at h1 h2;subst h1;subst h2;show Ta kindOf ((p,w)::P.zip vs) m p=_;unfold Ta;rw[oQ λv hv=>(LU.mp nd).1 (P0 hv).1,if_pos hk]
  simp
 |p::P,w::vs,i+1,m,nd,h1,h2,hk=>by
  show Ta kindOf ((p,w)::P.zip vs) m x=_;unfold Ta;exact pd (i:=i) (LU.mp nd).2 (by simpa using h1) (by simpa using h2) hk
theorem pF {kindOf:Str->Option Lv}{x:Str}{v:Il}: ∀ {P:List Str} {vs:List Il} {i:Nat} {m:Str->Option Il},P.Nodup->P[i]? =some x->vs[i]? =some v->kindOf x≠some .local->
 Tb kindOf (P.zip vs) m x=some v
 | [],_,_,_,_,h,_,_=>by simp at h
 |_::_,[],_,_,_,_,h,_=>by simp at h
 |p::P,w::vs,0,m,nd,h1,h2,hk=>by
  simp at h1 h2;subst h1;subst h2;show Tb kindOf ((p,w)::P.zip vs) m p=_;unfold Tb;rw[pH λv hv=>(LU.mp nd).1 (P0 hv).1,if_neg hk]
  simp
 |p::P,w::vs,i+1,m,nd,h1,h2,hk=>by
  show Tb kindOf ((p,w)::P.zip vs) m x=_;unfold Tb;exact pF (i:=i) (LU.mp nd).2 (by simpa using h1) (by simpa using h2) hk
def start(N:List Str)(vs:List V):St:=vs.map some++IC (N.length-vs.length) none
def oB(CX:yL)(P:Jf)(w:Jr)(K:Iz)(mg:Str->Option Il)(base:Heap)(N:List Str)(qual:Str)(scope:LB)(f:Addr)(cd:Il)(A:Jm)(outer:List Env)(s:Io)(H:Hp)(E:XK):Cx where
 prog:=P
 w:=w
 K:=K
 mg:=mg
 base:=base
 A:=A.deeper (Oj qual scope s.heap.objs.size f cd)
 N:=N
 s₀:=s
 H₀:=H
 env:=Oj qual scope s.heap.objs.size f cd
 outer:=outer
 stack:=Oj qual scope s.heap.objs.size f cd::outer
 ex:=[]
 calm:=true
 fn:=λ_=>true
 pn:=[]
 xe:=λe s'=>IF (model P w) (A.deeper (Oj qual scope s.heap.objs.size f cd)) (leaving (Oj qual scope s.heap.objs.size f cd) e) (λ_ s''=>CX outer H s E e s'') (λe' s''=>CX outer H s E e' s'') s'
theorem sx {sc:LB}{n:Nat}{x:Str}(h:sc.names.lookup x=some .cell): ∃c,(K8 n sc.names []).lookup x=some c:=by
 have q:=RV sc.names n [] (.inl h)
 exact Option.isSome_iff_exists.mp q
theorem xR {CX:yL}{P:Jf}{w:Jr}{K:Iz}{mg:Str->Option Il}{base:Heap}{N ps:List Str}{qual:Str}{scope:LB}{f:Addr}{cd:Il}{A:Jm}{outer:List Env}{s s1:Io}{H:Hp}{E:XK}{us:List Il}{vs:List V}
 (S:FnScope N ps scope) (hd:A.handled=none) (e0:Env0 P w K mg base A outer s H) (hl:vs.length=ps.length) (r:Vals vs us)
 (x:InCallC s s.heap.objs.size (Ta (Oj qual scope s.heap.objs.size f cd).kindOf (ps.zip us) λ_=>none) (K8 (s.heap.objs.size+1) scope.names []) (Tb (Oj qual scope s.heap.objs.size f cd).kindOf (ps.zip us) λ_=>none) s1):
 Inv (oB CX P w K mg base N qual scope f cd A outer s H E) [] (start N vs) H s1:=by
 have hpl:ps.length<=N.length:=by have:=congrArg KU S.pre;rw[Lg] at this;omega
 obtain⟨h1,tk,rfl,hk⟩:=x.done
 have noA: ∀b:Addr,b∉(oB CX P w K mg base N qual scope f cd A outer s H E).ex:=λb z=>absurd (show b∈([]:List Addr) from z) (by simp)
 refine⟨⟨e0.mod,S.kind,rfl,rfl,Iv _,λy z c h1 h2=>?_,λy hy=>?_,λy c _ h=>?_,λ_=>hd,Around.frames_deeper e0.frames,.inr ⟨rfl,rfl⟩,λb z=>absurd z (noA b),e0.bs,e0.bsz,λb _ _=>noA b,λb z=>absurd z (noA b),e0.funs,e0.frf⟩,
  rfl,e0.bare,Un.kept hk,⟨_,x.toInCall.ns,λi y v h1 h2 h3=>?_⟩,λy c h=>⟨_,x.cell y c h⟩,e0.hok.fresh (Iv _),λy c h=>?_,λp hp=>absurd (show p∈([]:List (Addr×Obj)) from hp) (by simp),e0.hok.kept hk,?_⟩
 ·exact name_of_addr x.apart (JQ h1) (JQ h2)
 ·have hy:scope.names.lookup y=some .cell\/scope.names.lookup y=some .free:=hy
  rcases hy with hy|hy
  ·exact sx hy
  ·exact absurd rfl (S.nofree _ (JQ hy))
 ·exact Mr (x.above y c (JQ h))
 ·have hi:i<vs.length:=by
   unfold start at h2
   by_cases hi:i<vs.length
   ·exact hi
   ·rw[JE (by simpa using hi)] at h2
    rw[Kb] at h2;split at h2<;>cases h2
  have ha:vs[i]? =some v:=by
   unfold start at h2;rw[Js (by simpa using hi),JO] at h2
   cases e:vs[i]? with
   |none=>rw[e] at h2;cases h2
   |some a=>rw[e] at h2;cases h2;rfl
  obtain⟨u,hu,rv⟩:=r.get ha
  have hp:ps[i]? =some y:=by
   rw[<-S.pre,L9 (by omega)];exact h1
  have ndP:ps.Nodup:=by rw[<-S.pre];exact S.nd.sublist (L0 _ _)
  refine⟨u,rv,?_⟩
  rcases S.par y (Jq hp) with k|k
  ·exact .inl ⟨k,pd ndP hp hu k⟩
  ·obtain⟨c,e⟩:=sx (n:=s.heap.objs.size+1) k
   refine .inr ⟨.inl k,c,e,?_⟩
   have q:=x.cell y c e
   rw[pF ndP hp hu (by show scope.names.lookup y≠_;rw[k];decide)] at q
   exact q
 ·exact e0.hok.fresh (Mr (x.above y c (JQ h)))
 ·unfold start
  show _=N.length;rw[IR,Iu,Qa];omega
theorem Fm {CX:yL}{P:Jf}{w:Jr}{K:Iz}{mg:Str->Option Il}{base:Heap}{k:Nat}{f:Addr}{name qual:Str}{params:Arguments}{body:List Stmt}{scope:LB}{dV kV doc pm cdv ct oc:Il}{an od:Option Addr}
 {osl:Array (Option Il)} {N ps:List Str} {sp:Sp} (lk:K.lookup f=some ⟨oc,od,.func (KZ name qual params body scope dV kV doc pm an cdv ct),osl⟩) (hcd:Kr K cdv qual=true) (S:FnScope N ps scope)
 (len: ∀vs H Q E,sp vs H Q E->vs.length=ps.length)
 (hbody: ∀(A:Jm) (outer:List Env) (s:Io) (H:Hp) (vs:List V) (Q:VK) (E:XK),Room k (A.deeper (Oj qual scope s.heap.objs.size f cdv))->sp vs H Q E->
   ∃t,PSs (oB CX P w K mg base N qual scope f cdv A outer s H E) body t/\t {nx:=λ_ H'=>Q .non H',rt:=Q} (start N vs) H):
 FnOk P w K mg base CX (k+1) f (KZ name qual params body scope dV kV doc pm an cdv ct) ps sp:=by
 refine⟨len,λA outer s H args us vs Q E hr e0 hb r hsp=>?_⟩
 have hl:=len _ _ _ _ hsp
 have KX:K.In s.heap:=e0.mod.kin.keeps λb o e=>(e0.bs b o e).1
 have lim:s.heap.NoLimit:=e0.mod.nolimit.keeps λb o e=>(e0.bs b o e).1
 have hkind: ∀y∈ps.zip us,scope.names.lookup y.1=some .local\/(scope.names.lookup y.1=some .cell/\((K8 (s.heap.objs.size+1) scope.names []).lookup y.1).isSome=true):=λ⟨n,v⟩ hy=>by
  rcases S.par n (P0 hy).1 with q|q
  ·exact .inl q
  ·exact .inr ⟨q,RV _ _ _ (.inl q)⟩
 refine codeAny_call_function hr.depth (KX _ _ lk) rfl S.co S.gen rfl (W.codeRec_of KX hcd) (hb _ _ _ _ ?_)
 refine wpAny_newFunctionEnv_cells S.kind hkind λenv he s1 x=>?_
 subst he;refine⟨lim.keeps x.toInCall.keep,codeAny_func ?_⟩
 obtain⟨t,ht,hq⟩:=hbody A outer s H vs Q E (hr.deeper _) hsp
 have I:Inv (oB CX P w K mg base N qual scope f cdv A outer s H E) [] (start N vs) H s1:=xR S hr.hd e0 hl r x
 refine Jo (ht [] s1 (start N vs) H _ I hq) (λfl s' hs=>?_) λe s' hs=>hs
 have fin: ∀ {σ':St} {H':Hp} {v:V} {u:Il},Inv (oB CX P w K mg base N qual scope f cdv A outer s H E) [] σ' H' s'->RelV v u->Q v H'->CE outer P w H s Q u s':=
  λ{σ' H' v u} J rv q=>⟨v,H',J.os,J.bare,J.base,J.hok,rv,q⟩
 cases fl with
 |ret u=>
  obtain⟨v,σ',H',J,rv,q⟩:=hs
  exact fin J rv q
 |next=>
  obtain⟨σ',H',J,q⟩:=hs
  exact fin (v:=V.non) (u:=IV) J rfl q
 |brk=>
  obtain⟨_,_,_,q⟩:=hs
  exact False.elim q
 |cont=>
  obtain⟨_,_,_,q⟩:=hs
  exact False.elim q
section
variable {X:Cx}{x:Str}{p pos:Pos}{e:Expr}{es:List Expr}{t:TA}{id T:String}{r:List V->Hp->VK->Prop}
def FW(r:List V->Hp->VK->Prop)(t:TA):TE:=λσ H Q=>t σ H λvs H1=>r vs H1 Q
theorem j7(hc:cK X (.builtin id) r)(hg:Gl X x)(hm:X.mg x=none)(hv:J9 x=some (.builtin id))(ha:PA X (e::es) t)(hn:x≠"__name__":=by decide)(hdb:(x==("__debug__":Str))=false:=by decide)
 (he:ID (e::es) X.env=(false,eval e X.env)::ID es X.env:=by rfl) (hpl:(KQ pos (ID es X.env)).any (·.1)=false:=by rfl):PE X (.Call (.Name x p) (e::es) [] pos) (FW r t):=by
 intro aa s σ H Q I h;refine Np (nL I hg hm hv ?_ hn hdb)
 exact RW (bR (ha pos aa s σ H _ I h) λus s1 ⟨vs,H1,I1,r1,q1⟩=>hc aa s1 σ H1 vs us Q I1 r1 q1) he hpl
theorem dU(hc:cK X (.type T) r)(hg:Gl X x)(hm:X.mg x=none)(hv:J9 x=some (.type T))(ha:PA X (e::es) t)(hn:x≠"__name__":=by decide)(hdb:(x==("__debug__":Str))=false:=by decide)
 (he:ID (e::es) X.env=(false,eval e X.env)::ID es X.env:=by rfl) (hpl:(KQ pos (ID es X.env)).any (·.1)=false:=by rfl):PE X (.Call (.Name x p) (e::es) [] pos) (FW r t):=by
 intro aa s σ H Q I h;refine Np (nL I hg hm hv ?_ hn hdb)
 exact Ox (bR (ha pos aa s σ H _ I h) λus s1 ⟨vs,H1,I1,r1,q1⟩=>hc aa s1 σ H1 vs us Q I1 r1 q1) he hpl
theorem uB(hc:cK X (.type T) r)(hg:Gl X x)(hm:X.mg x=none)(hv:J9 x=some (.type T))(hn:x≠"__name__":=by decide)(hdb:(x==("__debug__":Str))=false:=by decide):
 PE X (.Call (.Name x p) [] [] pos) (FW r Gr):=by
 intro aa s σ H Q I h;refine Np (nL I hg hm hv ?_ hn hdb)
 exact SN (hc aa s σ H [] [] Q I .nil h)
end
end L2
namespace HT
open PySem PyProof.Rows
section
variable {prog:Jf}{w:Jr}{A:Jm}{E:Il->Io->Prop}{s:Io}
theorem cat_tup {t b:Addr}{vs ws:List Il}{Q:Il->Io->Prop}(ht:IsTup s.heap t vs.toArray)(hb:IsTup s.heap b ws.toArray)(hv:vs≠[])
 (h1:ws=[]->Q (.ref t) s) (h2:ws≠[]->Q (.ref s.heap.objs.size) {s with heap:=s.heap.push {cls:=.type "tuple",data:=.seq (vs++ws).toArray}})
 (hsz:vs.length+ws.length<=IM):IF (model prog w) A (Mj .Add (.ref t) (.ref b)) Q E s:=by
 obtain⟨⟨cls,dd,data,sl⟩,ho,hc,n,hd⟩:=id ht
 obtain⟨⟨cls2,dd2,data2,sl2⟩,ho2,hc2,n2,hd2⟩:=id hb
 simp only at hc hd hc2 hd2;subst hc hd hc2 hd2;have e:vs.toArray++ws.toArray=(vs++ws).toArray:=by simp
 by_cases hw:ws=[]
 ·exact concat_meets ⟨_,ho,rfl⟩ ⟨_,ho2,rfl⟩ RX T4 PJ Pq (O8 _ _)
   (tuple_addW1 t b vs.toArray ws.toArray n n2 dd dd2 sl sl2 (by simpa using hv) (by simp[hw])) ⟨ho,ho2,h1 hw⟩
 ·refine concat_meets ⟨_,ho,rfl⟩ ⟨_,ho2,rfl⟩ RX T4 PJ Pq (O8 _ _)
   (tuple_addW2 t b vs.toArray ws.toArray n n2 dd dd2 sl sl2 (by simpa using hv) (by simpa using hw) (by rw[IP,IP];exact hsz)) ⟨ho,ho2,?_⟩
  rw[e];exact h2 hw
def sIx(n d:Nat):Option Int->Nat
 |none=>d
 |some v=>if v<0 then(v+(n:Int)).toNat else min v.toNat n
theorem sIx_none(n d:Nat):sIx n d none=d:=rfl
theorem sIx_nat(n d k:Nat):sIx n d (some (k:Int))=min k n:=by
 show(if(k:Int)<0 then((k:Int)+(n:Int)).toNat else min (k:Int).toNat n)=min k n
 rw[if_neg (by omega),Lq]
end
end HT
namespace L2
open PySem PySem.Spec PyProof.Rows
abbrev TO:=St->Hp->(Option Int->Hp->Prop)->Prop
def PO(X:Cx)(e:Option Expr)(t:TO):Prop:=
 ∀(aa:List (Addr×Obj)) (s:Io) (σ:St) (H:Hp) (Q:Option Int->Hp->Prop),Inv X aa σ H s->t σ H Q->
  IF (model X.prog X.w) X.A (evalPart e X.env) (λu s'=> ∃o H',Inv X aa σ H' s'/\IsPart u o/\Q o H') X.xe s
def BY:TO:=λ_ H Q=>Q none H
def Gf(t:TE):TO:=λσ H Q=>t σ H λx H1=> ∃i,x=.int i/\Q (some i) H1
section
variable {X:Cx}{e:Expr}{te:TE}{lo hi:Option Expr}{tl th:TO}{pos p2:Pos}
theorem Cs:PO X none BY:=by
 intro aa s σ H Q I h;rw[T5];exact Im ⟨none,H,I,.none,h⟩
theorem Bb(h:PE X e te):PO X (some e) (Gf te):=by
 intro aa s σ H Q I hw;rw[evalPart_some];refine bR (h aa s σ H _ I hw) λu s1 hq_=>?_
 obtain⟨x,H1,I1,r1,q1⟩:=hq_
 obtain⟨i,rfl,q⟩:=q1
 obtain⟨t,rfl⟩:=r1
 exact⟨some i,H1,I1,.int i t,q⟩
def HW(X:Cx)(r:V->Option Int->Option Int->Hp->VK->Prop):Prop:=
 ∀(aa:List (Addr×Obj)) (s:Io) (σ:St) (H:Hp) (x:V) (v vl vu:Il) (lo hi:Option Int) (sl:Addr) (Q:VK),Inv X aa σ H s->RelV x v->s.heap.IsSliceOf sl vl vu .none->IsPart vl lo->IsPart vu hi->r x lo hi H Q->
  ∃T id,Q9 (.type T) "__getitem__"=pure (some (.builtin id))/\s.TypeIs v T/\IF (model X.prog X.w) X.A (Rv v (.ref sl)) (EP X aa σ Q) X.xe s
def Ic(r:V->Option Int->Option Int->Hp->VK->Prop)(te:TE)(tl th:TO):TE:=λσ H Q=>te σ H λx H1=>tl σ H1 λl H2=>th σ H2 λu H3=>r x l u H3 Q
theorem ya {r:V->Option Int->Option Int->Hp->VK->Prop}(hr:HW X r)(he:PE X e te)(hl:PO X lo tl)(hu:PO X hi th):PE X (.Subscript e (.Slice lo hi none p2) pos) (Ic r te tl th):=by
 intro aa s σ H Q I h;refine Td (bR (he aa s σ H _ I h) λv s1 hq_=>?_)
 obtain⟨x,H1,I1,r1,q1⟩:=hq_
 refine wpAny_Slice (bR (hl aa s1 σ H1 _ I1 q1) λvl s2 ⟨l,H2,I2,pl,q2⟩=>bR (hu aa s2 σ H2 _ I2 q2) λvu s3 hq_=>?_)
 obtain⟨u,H3,I3,pu,q3⟩:=hq_
 rw[T5];refine Im ?_
 have I4:Inv X aa σ H3 {s3 with heap:=s3.heap.push {cls:=.type "slice",data:=.fields #[vl,vu,.none]}}:=I3.kept (t':=s3.toks) λb ob q=>Ip _ q
 obtain⟨T,id,hT,ht,hg⟩:=hr aa {s3 with heap:=s3.heap.push {cls:=.type "slice",data:=.fields #[vl,vu,.none]}} σ H3 x v vl vu l u s3.heap.objs.size Q I4 r1 (XU ..) pl pu q3
 show IF (model X.prog X.w) X.A (QX e (.Slice lo hi none p2) v (.ref s3.heap.objs.size)) (EP X aa σ Q) X.xe {s3 with heap:=s3.heap.push {cls:=.type "slice",data:=.fields #[vl,vu,.none]}}
 exact tail_any (ops:=[.ref s3.heap.objs.size,v]) ht hT hg (by with_unfolding_all rfl)
def xm(xs:List V)(lo hi:Option Int):List V:=(xs.drop (HT.sIx xs.length 0 lo)).take (HT.sIx xs.length xs.length hi-HT.sIx xs.length 0 lo)
theorem r6(xs:List V)(lo hi:Option Int):(xm xs lo hi).length<=xs.length:=by
 unfold xm;rw[Lg,List.length_drop];omega
def Gg(K:Iz):R2:=λx y H Q=> ∃a b xs ys,x=.ref a/\y=.ref b/\SqT K H a xs/\SqT K H b ys/\xs≠[]/\xs.length+ys.length<=IM/\
 (ys=[]->Q (.ref a) H)/\(ys≠[]-> ∀p,H p=none->Q (.ref p) (bp H p (.tup (xs++ys))))
theorem Vals.nil_iff {xs:List V}{us:List Il}(r:Vals xs us):us=[]↔xs=[]:=by
 cases r with
 |nil=>simp
 |cons _ _=>simp
theorem Cd:km X (Mj .Add) (Gg X.K):=by
 intro aa s σ H x y v u Q I rx ry h;obtain⟨a,b,xs,ys,rfl,rfl,ha,hb,hx,hz,q1,q2⟩:=h
 cases rx
 cases ry
 obtain⟨its,r1,p1,_⟩:=I.tuple ha
 obtain⟨its2,r2,p2,_⟩:=I.tuple hb
 refine HT.cat_tup p1 p2 (λz=>hx (r1.nil_iff.mp z)) (λz=>⟨.ref a,H,I,rfl,q1 (r2.nil_iff.mp z)⟩) (λz=>?_) (by rw[<-r1.length,<-r2.length];exact hz)
 refine⟨.ref s.heap.objs.size,_,I.laid (t':=s.toks) (o:=.tup (xs++ys)) (λb ob q=>Ip _ q) (Iv _) ?_,rfl,q2 (λw=>z (r2.nil_iff.mpr w)) _ (I.hok.fresh (Iv _))⟩
 exact⟨by rw[IR];exact hz,_,r1.append r2,Zl _ _,_,IN _ rfl,rfl⟩
end
def tS(n:Nat)(i:Int):Option Nat:=if 0<=i then(if i<n then some i.toNat else none) else if -(n:Int)<=i then some (i+n).toNat else none
def qU {α:Type}(xs:List α)(i:Int):Option α:=(tS xs.length i).bind λj=>xs[j]?
theorem qw {n:Nat}{i:Int}{j:Nat}(h:tS n i=some j):Ut i n=some j/\j<n/\ -(n:Int)<=i/\i<n:=by
 unfold tS at h
 by_cases h0:0<=i
 ·rw[if_pos h0] at h
  by_cases h1:i<n
  ·rw[if_pos h1] at h
   have e:i.toNat=j:=Jv h
   exact⟨by rw[Sj h0 h1,e],by omega,by omega,h1⟩
  ·rw[if_neg h1] at h;cases h
 ·rw[if_neg h0] at h
  by_cases h1: -(n:Int)<=i
  ·rw[if_pos h1] at h
   have e:(i+n).toNat=j:=Jv h
   exact⟨by rw[Rw (by omega) h1,e],by omega,h1,by omega⟩
  ·rw[if_neg h1] at h;cases h
theorem qh {α:Type}{xs:List α}{i:Int}{v:α}(h:qU xs i=some v): ∃j,Ut i xs.length=some j/\xs[j]? =some v/\j<xs.length/\ -(xs.length:Int)<=i/\i<xs.length:=by
 unfold qU at h;cases e:tS xs.length i with
 |none=>rw[e] at h;cases h
 |some j=>
  rw[e] at h;obtain⟨h1,h2,h3,h4⟩:=qw e
  exact⟨j,h1,h,h2,h3,h4⟩
theorem BA {α:Type}{xs:List α}{j:Nat}{v:α}(h:xs[j]? =some v):qU xs (j:Int)=some v:=by
 have hj:j<xs.length:=(IE.mp h).1
 have e:tS xs.length (j:Int)=some j:=by
  unfold tS;rw[if_pos (by omega),if_pos (by omega)];simp
 unfold qU;rw[e];exact h
def pY(b:Expr):Prop:= ∀o i,Ql b false o i=operate [o,i] (Rv o i)
def IxR(X:Cx)(r:R2):Prop:=
 ∀(value slice:Expr) (aa:List (Addr×Obj)) (s:Io) (σ:St) (H:Hp) (x y:V) (v u:Il) (Q:VK),Inv X aa σ H s->RelV x v->RelV y u->r x y H Q->
  Ql slice false v u=operate [v,u] (Rv v u)->IF (model X.prog X.w) X.A (QX value slice v u) (EP X aa σ Q) X.xe s
def HG(X:Cx)(id:String)(r:V->List V->Hp->VK->Prop):Prop:=
 ∀(aa:List (Addr×Obj)) (s:Io) (σ:St) (H:Hp) (x:V) (xs:List V) (v:Il) (us:List Il) (Q:VK),Inv X aa σ H s->RelV x v->Vals xs us->r x xs H Q->
  IF (model X.prog X.w) X.A (call (.builtin id) (v::us)) (EP X aa σ Q) X.xe s
section
variable {X:Cx}{a b:Expr}{ta tb:TE}{pos:Pos}
theorem IxR.or {r r':R2}(h:IxR X r)(h':IxR X r'):IxR X (λx y H Q=>r x y H Q\/r' x y H Q):=by
 intro value slice aa s σ H x y v u Q I rx ry q hs;rcases q with q|q
 ·exact h value slice aa s σ H x y v u Q I rx ry q hs
 ·exact h' value slice aa s σ H x y v u Q I rx ry q hs
theorem Dh {r:R2}(hr:IxR X r)(ha:PE X a ta)(hb:PE X b tb)(hs:pY b):PE X (.Subscript a b pos) (Fe r ta tb):=by
 intro aa s σ H Q I h;exact Td (Ew ha hb I h λv u s2 x y H2 I2 rx ry q=>hr a b aa s2 σ H2 x y v u Q I2 rx ry q (hs _ _))
def FH(K:Iz):R2:=λx y H Q=> ∃p xs i v,x=.ref p/\y=.int i/\SqL K H p xs/\qU xs i=some v/\Q v H
def Fo(K:Iz):R2:=λx y H Q=> ∃p xs i v,x=.ref p/\y=.int i/\SqT K H p xs/\qU xs i=some v/\Q v H
def Fv:R2:=λx y H Q=> ∃z i c,x=.str z/\y=.int i/\z.length<=IM/\qU z.cps.toList i=some c/\Q (.str ⟨#[c]⟩) H
theorem ix_list:IxR X (FH X.K):=by
 intro value slice aa s σ H x y v u Q I rx ry h hs;obtain⟨p,xs,i,z,rfl,rfl,hq,he,q⟩:=h
 cases rx
 obtain⟨t,rfl⟩:=ry
 obtain⟨its,r,pl,hz⟩:=I.list hq
 obtain⟨j,h1,h2,h3,h4,h5⟩:=qh he
 obtain⟨w,ew,rw'⟩:=r.get h2
 have hl:=r.length
 have hn:=jI
 have fin:EP X aa σ Q w s:=⟨z,H,I,rw',q⟩
 by_cases h0:0<=i
 ·have hj:i.toNat=j:=by
   rw[Sj h0 h5] at h1;exact Jv h1
  exact item_listR pl.isList h0 (by omega) (by rw[hj];simpa using ew) fin hs
 ·have hj:(i+(its.toArray.size:Int)).toNat=j:=by
   rw[Rw (by omega) h4] at h1
   rw[IP,<-hl];exact Jv h1
  exact PK (x:=w) pl.isList.typeIs Rx.lookup
   (wpAny_getItem_list_neg (Q:=λr s'=>r=w/\EP X aa σ Q r s') pl.isList (by omega) (by rw[IP]<;>omega) (by omega) (by rw[hj];simpa using ew) ⟨rfl,fin⟩) hs
theorem ix_tup:IxR X (Fo X.K):=by
 intro value slice aa s σ H x y v u Q I rx ry h hs;obtain⟨p,xs,i,z,rfl,rfl,hq,he,q⟩:=h
 cases rx
 obtain⟨t,rfl⟩:=ry
 obtain⟨its,r,pl,hz⟩:=I.tuple hq
 obtain⟨j,h1,h2,h3,h4,h5⟩:=qh he
 obtain⟨w,ew,rw'⟩:=r.get h2
 have hl:=r.length
 have hn:=jI
 have fin:EP X aa σ Q w s:=⟨z,H,I,rw',q⟩
 exact PK (x:=w) pl.typeIs slot_tuple_getitem.lookup
  (getItem_tuple (j:=j) (Q:=λr s'=>r=w/\EP X aa σ Q r s') pl (by omega) (by omega) (by rw[IP,<-hl];exact h1) (by simpa using ew) ⟨rfl,fin⟩) hs
theorem Do:IxR X Fv:=by
 intro value slice aa s σ H x y v u Q I rx ry h hs;obtain⟨z,i,c,rfl,rfl,hz,he,q⟩:=h
 obtain⟨t,rfl⟩:=rx
 obtain⟨t',rfl⟩:=ry
 obtain⟨j,h1,h2,h3,h4,h5⟩:=qh he
 have hl:z.cps.toList.length=z.length:=by simp[Str.length]
 rw[hl] at h1 h4 h5;have hn:=jI
 exact tail_any (typeIs_str s z t) slot_str_getitem.lookup (getItem_str (c:=c) (by
  have e1:decide (i< -(2^63:Int))=false:=decide_eq_false (by omega)
  have e2:decide (i≥2^63)=false:=decide_eq_false (by omega)
  rw[e1,e2,T6]) (by rw[h1];simpa using h2) ⟨.str ⟨#[c]⟩,H,I.tok _,⟨_,rfl⟩,q⟩) hs
def HS(K:Iz):R2:=λx y H Q=>FH K x y H Q\/Fo K x y H Q\/Fv x y H Q
theorem aP:IxR X (HS X.K):=ix_list.or (ix_tup.or Do)
theorem uC(its:List Il)(n j:Nat)(u:Il):KA (·.setIfInBounds j u) {cls:=.type "list",data:=.seq its.toArray n}={cls:=.type "list",data:=.seq (its.set j u).toArray n}:=by
 simp[KA]
theorem Inv.lst {aa:List (Addr×Obj)}{σ:St}{H:Hp}{s:Io}{p:Addr}{xs:List V}(I:Inv X aa σ H s)(h:H p=some (.lst xs)):
 ∃(its:List Il) (n:Nat),Vals xs its/\s.heap.get? p=some {cls:=.type "list",data:=.seq its.toArray n}/\xs.length<=sizeLine:=by
 obtain⟨z,its,n,r,e⟩:=I.hok p _ h
 exact⟨its,n,r,e,z⟩
theorem Inv.lstUpd {aa:List (Addr×Obj)}{σ:St}{H:Hp}{s:Io}{p:Addr}{xs ys:List V}{its its':List Il}{n n':Nat}{f:Obj->Obj}(I:Inv X aa σ H s)(h:H p=some (.lst xs))
 (ho:s.heap.get? p=some {cls:=.type "list",data:=.seq its.toArray n}) (hf:f {cls:=.type "list",data:=.seq its.toArray n}={cls:=.type "list",data:=.seq its'.toArray n'}) (r:Vals ys its') (hz:ys.length<=IM) (t:Nat):
 Inv X aa σ (bp H p (.lst ys)) {s with heap:=s.heap.update p f,toks:=t}:=by
 have e:(s.heap.update p f).get? p=some {cls:=.type "list",data:=.seq its'.toArray n'}:=by
  rw[JN f ho (by rw[hf]<;>rfl),hf]
 refine I.write (x:=p) (e:=p) (by rw[h];trivial) (.inl rfl) (λb u hb q=>(Mt _ _ (JW hb)).trans q) ⟨_,e⟩ ?_
 exact⟨hz,its',n',r,e⟩
def FL:V->V->V->Hp->(Hp->Prop)->Prop:=λo i v H Q=> ∃p xs k j,o=.ref p/\i=.int k/\H p=some (.lst xs)/\tS xs.length k=some j/\Q (bp H p (.lst (xs.set j v)))
theorem Aj:FU X FL:=by
 intro aa s σ H o i v ov iv u Q I ro ri rv h;obtain⟨p,xs,k,j,rfl,rfl,hp,hj,q⟩:=h
 cases ro
 obtain⟨t,rfl⟩:=ri
 obtain⟨its,n,r,ho,hz⟩:=I.lst hp
 obtain⟨h1,h2,h3,h4⟩:=qw hj
 have hl:=r.length
 have hn:=jI
 have I':Inv X aa σ (bp H p (.lst (xs.set j v))) {s with heap:=s.heap.update p (KA (·.setIfInBounds j u))}:=
  I.lstUpd hp ho (uC its n j u) (r.set rv j) (by rw[P1];exact hz) s.toks
 by_cases h0:0<=k
 ·have hk:k.toNat=j:=by
   rw[Sj h0 h4] at h1;exact Jv h1
  exact W.ki_setAt ho h0 (by omega) (by rw[IP,<-hl];exact h4) (by rw[hk];exact⟨_,I',q⟩)
 ·have hk:(k+(its.toArray.size:Int)).toNat=j:=by
   rw[Rw (by omega) h3] at h1
   rw[IP,<-hl];exact Jv h1
  exact W.ki_setBack ho (by omega) (by rw[IP,<-hl];exact h3) (by omega) (by rw[hk];exact⟨_,I',q⟩)
theorem p8(lo hi:Option Int)(n:Nat):(Nv lo hi none n).1=((HT.sIx n 0 lo:Nat):Int)/\(Nv lo hi none n).2.1=((HT.sIx n n hi:Nat):Int)/\(Nv lo hi none n).2.2=1:=by
 refine⟨?_,?_,rfl⟩
 ·cases lo with
  |none=>simp[Nv,HT.sIx]
  |some i=>
   simp only[Nv,HT.sIx,RY,show(1:Int)>0 by decide,if_true]
   by_cases h:i<0
   ·simp only[h,if_true]<;>omega
   ·simp only[h,if_false]<;>omega
 ·cases hi with
  |none=>simp[Nv,HT.sIx]
  |some i=>
   simp only[Nv,HT.sIx,RY,show(1:Int)>0 by decide,if_true]
   by_cases h:i<0
   ·simp only[h,if_true]<;>omega
   ·simp only[h,if_false]<;>omega
theorem oi(its:List Il)(lo hi:Option Int):slicePick its.toArray lo hi none=((its.drop (HT.sIx its.length 0 lo)).take (HT.sIx its.length its.length hi-HT.sIx its.length 0 lo)).toArray:=by
 obtain⟨h1,h2,h3⟩:=p8 lo hi its.toArray.size
 unfold slicePick;rw[h1,h2,h3];simp only[sliceRange_one,pick_run,IP]<;>rfl
def Hz(K:Iz):V->Option Int->Option Int->Hp->VK->Prop:=λx lo hi H Q=> ∃a xs,x=.ref a/\SqL K H a xs/\ ∀p,H p=none->Q (.ref p) (bp H p (.lst (xm xs lo hi)))
theorem Bp:HW X (Hz X.K):=by
 intro aa s σ H x v vl vu lo hi sl Q I rx hs pl pu h;obtain⟨a,xs,rfl,hx,q⟩:=h
 cases rx
 obtain⟨its,r,ht,hz⟩:=I.list hx
 have hlen:=r.length
 refine⟨"list",_,Rx.lookup,ht.isList.typeIs,?_⟩
 refine wpAny_getItem_list_slice ht.isList hs pl pu .none (by simp) ?_ (by rw[IP]<;>omega)
 rw[oi,<-hlen];refine⟨.ref s.heap.objs.size,_,I.laid (t':=s.toks) (o:=.lst (xm xs lo hi)) (λb ob q=>Ip _ q) (Iv _) ?_,rfl,q _ (I.hok.fresh (Iv _))⟩
 exact⟨JS (r6 xs lo hi) hz,_,0,(r.drop (HT.sIx xs.length 0 lo)).take (HT.sIx xs.length xs.length hi-HT.sIx xs.length 0 lo),IN _ rfl⟩
theorem bw:cK X (.builtin "len") (λxs H Q=> ∃p ys,xs=[.ref p]/\(SqL X.K H p ys\/SqT X.K H p ys)/\Q (.int ys.length) H):=by
 intro aa s σ H xs us Q I r h;obtain⟨p,ys,rfl,hq,q⟩:=h
 obtain⟨u,rfl,rx⟩:=ie r
 cases rx
 have hn:=jI
 rcases hq with hq|hq
 ·obtain⟨its,r',pl,hz⟩:=I.list hq
  have hlen:=r'.length
  exact Calls.call_len_list pl.isList (by simp only[IP]<;>omega) ⟨.int ys.length,H,I.tok _,⟨s.toks+1,by rw[IP,hlen]⟩,q⟩
 ·obtain⟨its,r',pl,hz⟩:=I.tuple hq
  have hlen:=r'.length
  exact len_tuple pl (by simp only[IP]<;>omega) ⟨.int ys.length,H,I.tok _,⟨s.toks+1,by rw[IP,hlen]⟩,q⟩
theorem eX:cK X (.type "list") (λxs H Q=> ∃p ys,xs=[.ref p]/\(SqL X.K H p ys\/SqT X.K H p ys)/\ ∀l,H l=none->Q (.ref l) (bp H l (.lst ys))):=by
 intro aa s σ H xs us Q I r h;obtain⟨p,ys,rfl,hq,q⟩:=h
 obtain⟨u,rfl,rx⟩:=ie r
 cases rx
 have fin: ∀(its:List Il),Vals ys its->ys.length<=IM-> ∀(h':Heap) (c':Nat),(∀b o',s.heap.get? b=some o'->h'.get? b=some o')->
  h'.get? s.heap.objs.size=some {cls:=.type "list",dict:=none,data:=.seq its.toArray c',slots:= #[]}->EP X aa σ Q (.ref s.heap.objs.size) {s with heap:=h'}:=λits r' hz h' c' kp e=>
  ⟨.ref s.heap.objs.size,_,I.laid (t':=s.toks) kp (Iv _) (show ObjOk X.prog X.w _ h' _ (.lst ys) from⟨hz,its,c',r',e⟩),rfl,q _ (I.hok.fresh (Iv _))⟩
 rcases hq with hq|hq
 ·obtain⟨its,r',pl,hz⟩:=I.list hq
  have hlen:=r'.length
  obtain⟨o,ho,hc,n,hd⟩:=pl.isList
  exact T8 p (.inl rfl) ho hc hd (λh' c' kp e=>fin its r' hz h' c' kp e) (by simp only[IP]<;>omega)
 ·obtain⟨its,r',pl,hz⟩:=I.tuple hq
  have hlen:=r'.length
  obtain⟨o,ho,hc,n,hd⟩:=pl
  exact T8 p (.inr rfl) ho hc hd (λh' c' kp e=>fin its r' hz h' c' kp e) (by simp only[IP]<;>omega)
theorem cO:cK X (.type "tuple") (λxs H Q=> ∃p ys,xs=[.ref p]/\((SqL X.K H p ys/\ ∀l,H l=none->Q (.ref l) (bp H l (.tup ys)))\/(SqT X.K H p ys/\Q (.ref p) H))):=by
 intro aa s σ H xs us Q I r h;obtain⟨p,ys,rfl,h⟩:=h
 obtain⟨u,rfl,rx⟩:=ie r
 cases rx
 rcases h with⟨hq,q⟩|⟨hq,q⟩
 ·obtain⟨its,r',pl,hz⟩:=I.list hq
  have hlen:=r'.length
  refine call_tuple_list pl.isList (λh' kp=>?_) (by simp only[IP]<;>omega)
  have I1:Inv X aa σ H {s with heap:=h'}:=I.kept (t':=s.toks) kp
  have I2:Inv X aa σ (bp H h'.objs.size (.tup ys)) {s with heap:=h'.push {cls:=.type "tuple",data:=.seq its.toArray}}:=
   I1.laid (t':=s.toks) (λb o e=>Ip _ e) (Iv _) (show ObjOk X.prog X.w _ _ _ (.tup ys) from⟨hz,its,r',Zl _ _,_,IN _ rfl,rfl⟩)
  exact⟨.ref h'.objs.size,_,I2,rfl,q _ (I1.hok.fresh (Iv _))⟩
 ·obtain⟨its,r',pl,hz⟩:=I.tuple hq
  exact call_tuple_same pl ⟨.ref p,H,I,rfl,q⟩
def HV(K:Iz)(T:String)(x:V)(H:Hp):Prop:=match x with
 | .str _=>T="str"
 | .int _=>T="int"
 | .ref p=>(T="list"/\ ∃xs,SqL K H p xs)\/(T="tuple"/\ ∃xs,SqT K H p xs)\/
    (T="dict"/\((∃kvs,H p=some (.dK kvs))\/ ∃kvs,H p=some (.dT kvs)))\/(T="set"/\ ∃S n,H p=some (.set S n))\/(T="set"/\ ∃xs,H p=some (.tst xs))
 |_=>False
theorem Eo {aa:List (Addr×Obj)}{σ:St}{H:Hp}{s:Io}{T:String}{x:V}{v:Il}(I:Inv X aa σ H s)(r:RelV x v)(ty:HV X.K T x H):
 s.TypeIs v T/\ ∀a,v=.ref a-> ∃ob,s.heap.get? a=some ob/\ob.dict=none:=by
 cases x with
 |str z=>
  obtain⟨t,rfl⟩:=r
  cases (show T="str" from ty)
  exact⟨typeIs_str s z t,λ_ e=>nomatch e⟩
 |int i=>
  obtain⟨t,rfl⟩:=r
  cases (show T="int" from ty)
  exact⟨typeIs_int s i t,λ_ e=>nomatch e⟩
 |ref p=>
  cases r
  rcases ty with⟨rfl,xs,hq⟩|⟨rfl,xs,hq⟩|⟨rfl,hk⟩|⟨rfl,S,n,hk⟩|⟨rfl,xs,hk⟩
  ·obtain⟨its,_,pl,_⟩:=I.list hq
   refine⟨pl.isList.typeIs,λa e=>?_⟩
   cases e
   obtain⟨o,n,e,c,hd,_⟩:=pl
   exact⟨o,e,hd⟩
  ·obtain⟨⟨ob,ho,hc⟩,o2,h2,hd⟩:=I.tupleN hq
   refine⟨⟨ob,ho,hc⟩,λa e=>?_⟩
   cases e
   exact⟨o2,h2,hd⟩
  ·have z: ∃o,s.heap.get? p=some o/\o.ExactDict:=by
    rcases hk with⟨kvs,hk⟩|⟨kvs,hk⟩
    ·obtain⟨_,_,_,_,o,_,_,e,ex,_⟩:=I.hok p _ hk
     exact⟨o,e,ex⟩
    ·obtain⟨_,_,_,_,o,_,_,e,ex,_⟩:=I.hok p _ hk
     exact⟨o,e,ex⟩
   obtain⟨o,e,ex⟩:=z
   refine⟨⟨o,e,ex.1⟩,λa e2=>?_⟩
   cases e2
   exact⟨o,e,ex.2.1⟩
  ·obtain⟨o,_,_,_,e,ex,_⟩:=I.hok p _ hk
   refine⟨⟨o,e,ex.1⟩,λa e2=>?_⟩
   cases e2
   exact⟨o,e,ex.2.1⟩
  ·obtain⟨o,_,_,_,e,ex⟩:=I.hok p _ hk
   refine⟨⟨o,e,ex.ex.1⟩,λa e2=>?_⟩
   cases e2
   exact⟨o,e,ex.ex.2.1⟩
 |_=>exact False.elim ty
def Ih(K:Iz)(T:String)(r:V->List V->Hp->VK->Prop)(to:TE)(t:TA):TE:=λσ H Q=>to σ H λx H1=>HV K T x H1/\t σ H1 λxs H2=>r x xs H2 Q
variable {o e:Expr}{es:List Expr}{to:TE}{t:TA}{name:Str}{apos cpos:Pos}{T id:String}{r:V->List V->Hp->VK->Prop}
theorem v7(pa:PlainAttrs T)(slot:Slot T name id)(hty:typeOf (.builtin id)=pure (.type "method_descriptor"))(hm:HG X id r)(ho:PE X o to)(ha:PA X (e::es) t)
 (hbase:M6 o name X.env (eval o X.env)=eval o X.env:=by rfl)
 (hfew:((KQ cpos (ID (e::es) X.env)).all (λx=> !x.1)&&(Qm cpos (N9 [] X.env)).all (λx=>x.1.isSome)
   &&decide ((e::es).length+([]:List NB).length+(if([]:List NB).isEmpty then 0 else 1)<30))=true:=by rfl)
 (hline:(apos.endLine==cpos.line)=true:=by rfl) (hs:ID (e::es) X.env=(false,eval e X.env)::ID es X.env:=by rfl) (hplain:(KQ cpos (ID es X.env)).any (·.1)=false:=by rfl):
 PE X (.Call (.Attribute o name apos) (e::es) [] cpos) (Ih X.K T r to t):=by
 intro aa s σ H Q I h;refine wpAny_Call_method_late hbase hfew hline rfl (bR (ho aa s σ H _ I h) λv s1 hq_=>?_)
 obtain⟨x,H1,I1,r1,ty,q1⟩:=hq_
 obtain⟨h1,h2⟩:=Eo I1 r1 ty
 refine⟨T,id,pa,slot,hty,h1,h2,?_⟩
 have hA:=ha cpos aa s1 σ H1 _ I1 q1
 rw[hs] at hA⊢;refine PL (by show(false||(KQ cpos (ID es X.env)).any (·.1))=false;rw[hplain]<;>rfl) (Qn ?_)
 exact bR hA λus s2 ⟨vs,H2,I2,r2,q2⟩=>hm aa s2 σ H2 x vs v us Q I2 r1 r2 q2
end
def GS(X:Cx)(id:String)(r:V->List V->Hp->VK->Prop):Prop:=
 ∀(aa:List (Addr×Obj)) (s:Io) (σ:St) (H:Hp) (x:V) (xs:List V) (v:Il) (us:List Il) (Q:VK),Inv X aa σ H s->RelV x v->Vals xs us->r x xs H Q->
  IF (model X.prog X.w) X.A (call (.builtin id) (v::us)) (EP X aa σ Q) X.xe s
theorem Vals.one: ∀ {x:V} {us:List Il},Vals [x] us-> ∃u,us=[u]/\RelV x u
 |_,_,.cons r .nil=>⟨_,rfl,r⟩
theorem Vals.eraseIdx: ∀ {xs:List V} {us:List Il} (i:Nat),Vals xs us->Vals (xs.eraseIdx i) (us.eraseIdx i)
 |_,_,_,.nil=>.nil
 |_,_,0,.cons _ t=>t
 |_,_,i+1,.cons r t=>.cons r (Vals.eraseIdx i t)
theorem o5 {α:Type}: ∀(l:List α) (i:Nat),(l.eraseIdx i).length<=l.length
 | [],_=>Iv _
 |_::_,0=>OX _
 |_::r,i+1=>Nat.succ_le_succ (o5 r i)
section
variable {X:Cx}{aa:List (Addr×Obj)}{σ:St}{H:Hp}{s:Io}{l b:Addr}{xs ys zs:List V}
theorem Inv.lset {its its':List Il}{n:Nat}{f:Array Il->Array Il}{t':Nat}(I:Inv X aa σ H s)(hH:H l=some (.lst xs))
 (e:s.heap.get? l=some {cls:=.type "list",data:=.seq its.toArray n}) (hf:f its.toArray=its'.toArray) (hv:Vals ys its') (hz:ys.length<=IM):
 Inv X aa σ (bp H l (.lst ys)) {s with heap:=s.heap.update l (KA f),toks:=t'}:=by
 have q:=PySem.IsL.update e f
 rw[hf] at q;refine I.write (x:=l) (e:=l) (by rw[hH];exact trivial) (.inl rfl) (λb' u hb hu=>(Mt s.heap (KA f) (JW hb)).trans hu) ⟨_,q⟩ ?_
 exact⟨hz,its',_,hv,q⟩
theorem Inv.lstM(I:Inv X aa σ H s)(hH:H l=some (.lst xs)):xs.length<=IM/\ ∃(its:List Il) (n:Nat),Vals xs its/\xs.length=its.length/\s.heap.get? l=some {cls:=.type "list",data:=.seq its.toArray n}:=by
 obtain⟨z,its,n,r,e⟩:=I.hok l _ hH
 exact⟨z,its,n,r,r.length,e⟩
theorem zH {n:Nat}(h:n<=IM):M7 n=false:=by
 unfold M7;exact decide_eq_false (by omega)
end
section
variable {X:Cx}
def vB:V->List V->Hp->VK->Prop:=λx vs H Q=> ∃l xs y,x=.ref l/\vs=[y]/\H l=some (.lst xs)/\xs.length<IM/\Q .non (bp H l (.lst (xs++[y])))
theorem gp:GS X "list.append" vB:=by
 intro aa s σ H x vs v us Q I rx rv h;obtain⟨l,xs,y,rfl,rfl,hH,hz,q⟩:=h
 cases rx
 obtain⟨u,rfl,ru⟩:=rv.one
 obtain⟨z,its,n,r,hl,e⟩:=I.lstM hH
 refine Te Nc ⟨_,e,rfl⟩ F.entry_list_append (F.args_list_append_2 _ _) (PySem.list_append l its.toArray n u (by rw[IP];omega)) ⟨e,?_⟩
 refine⟨.non,_,I.lset (its':=its++[u]) hH e (by simp) (r.append (.cons ru .nil)) ?_,rfl,q⟩
 rw[IR,KM];omega
def CN:V->List V->Hp->VK->Prop:=λx vs H Q=> ∃l b xs zs,x=.ref l/\vs=[.ref b]/\H l=some (.lst xs)/\H b=some (.lst zs)/\xs.length+zs.length<=IM/\Q .non (bp H l (.lst (xs++zs)))
theorem xA:GS X "list.extend" CN:=by
 intro aa s σ H x vs v us Q I rx rv h;obtain⟨l,b,xs,zs,rfl,rfl,hH,hB,hz,q⟩:=h
 cases rx
 obtain⟨u,rfl,ru⟩:=rv.one
 cases ru
 obtain⟨z,its,n,r,hl,e⟩:=I.lstM hH
 obtain⟨z2,its2,n2,r2,hl2,e2⟩:=I.lstM hB
 have hsz:its.toArray.size+its2.toArray.size<=sizeLine:=by rw[IP,IP];omega
 have hlong: ¬(!its.toArray.isEmpty&&M7 (its.toArray.size+its2.toArray.size))=true:=by
  rw[zH hsz,SW];exact Lh
 refine Te F.slot_list_extend ⟨_,e,rfl⟩ F.entry_list_extend (F.args_list_extend_2 _ _)
  (AutoSeq1.list_extend_list_list_0 l its.toArray n b its2.toArray n2 hlong (by rw[IP];omega) (by omega)) ⟨e,e2,?_⟩
 refine⟨.non,_,I.lset (its':=its++its2) hH e (by simp) (r.append r2) ?_,rfl,q⟩
 rw[IR];omega
def yE:V->List V->Hp->VK->Prop:=λx vs H Q=> ∃l xs i k y,x=.ref l/\vs=[.int i]/\H l=some (.lst xs)/\ -(2^63)<=i/\i<2^63/\Ut i xs.length=some k/\xs[k]? =some y/\Q y (bp H l (.lst (xs.eraseIdx k)))
theorem z7:GS X "list.pop" yE:=by
 intro aa s σ H x vs v us Q I rx rv h;obtain⟨l,xs,i,k,y,rfl,rfl,hH,h1,h2,hk,hy,q⟩:=h
 cases rx
 obtain⟨u,rfl,ru⟩:=rv.one
 obtain⟨t,rfl⟩:=ru
 obtain⟨z,its,n,r,hl,e⟩:=I.lstM hH
 obtain⟨w,hw,rw'⟩:=r.get hy
 refine Te F.slot_list_pop ⟨_,e,rfl⟩ F.entry_list_pop (F.args_list_pop_2 _ _)
  (MeetsSeq.list_pop_at l its.toArray n i t k w (fitsIndex_both h1 h2) (by rw[IP,<-hl];exact hk) (by rw[<-IT];exact hw) (by rw[IP];omega)) ⟨e,?_⟩
 refine⟨y,_,I.lset (its':=its.eraseIdx k) hH e ?_ (r.eraseIdx k) ?_,rw',q⟩
 ·show its.toArray.eraseIdxIfInBounds k=(its.eraseIdx k).toArray
  rw[List.eraseIdxIfInBounds_toArray]
 ·have:=o5 xs k
  omega
end
end L2
namespace Att
open PySem PySem.W PySem.Calls PyProof.Rows
theorem ma {P:XZ}{h:Heap}: ∀(ns:List Int) (vs:List Il),WellAll P h vs (ns.map Zr)->SO vs ns:=by
 intro ns
 induction ns with
 |nil=>
  intro vs w;rw[Ou] at w;cases w
  exact .nil
 |cons n ns ih=>
  intro vs w;rw[Ix] at w;cases w with
  |cons a b=>
   cases a
   exact .cons _ _ (ih _ b)
theorem xK {l:Uu}{n:Nat}(hn:l.most=some n){P:XZ}{h:Heap}{args:List WData}{vals:List Il}
 (hpre:l.row.toRowW.claim.pre args=true) (hwl:WellAll P h vals args):
 ∃a vs ns,vals=[JI a]/\args=[WData.list (ns.map Zr)]/\h.get? a=some {cls:=.type "list",data:=.seq vs.toArray}/\SO vs ns/\ns.length<=n:=by
 have hsh:WShape.hasAll [] args [.list .int]=true:=(pre_splitW hpre).1
 have hc:l.pre.holds [] {args:=args}=true:=(pre_splitW hpre).2
 obtain⟨d,r,rfl,h1,h2⟩:=hasAllW_cons hsh
 obtain rfl:=hasAllW_nil h2
 obtain⟨xs,rfl,h3⟩:=hasW_list h1
 obtain⟨ns,rfl⟩:=items_int h3
 have hlen:ns.length<=n:=by
  unfold OpenLaw.pre at hc;have h4:(WTm.not (.lt (.lit (.int (n:Int))) (.len (.arg 0)))).holds [] {args:=[.list (ns.map .int)]}=true:=by
   have h4:=(holds_andW hc).1
   rw[hn] at h4;exact h4
  have h5:=condW_of h4 (w_not (w_lt w_lit (w_len_list (w_arg rfl))))
  rw[Iu] at h5;refine Nat.le_of_not_lt λq=>?_
  have q':(n:Int)<((ns.length:Nat):Int):=by omega
  first
   |(rw[decide_eq_true q'] at h5;exact absurd h5 (by decide))
   |(simp at h5;omega)
 cases hwl with
 |cons w1 w2=>
  cases w2
  cases w1 with
  |list ho hall=>exact⟨_,_,ns,rfl,rfl,ho,ma ns _ hall,hlen⟩
theorem wU(l:Uu)(args:List WData):l.row.toRowW.claim.post args (.bool true) args=true:=
 postW_of (r:=l.row.toRowW) (X:=(true==true))
  (show X1 [] (.bool true) .bool=true by first|rfl|decide|simp[X1,WShape.arms,WShape.armsAll])
  (show(WTm.eq .res (.lit (.bool true))).value [] {args:=args,res:=some (.bool true),after:=args}=some (.bool (true==true)) from w_eq_bool (w_res rfl) w_lit) rfl
theorem attach_call {l:Uu}{n:Nat}{q:Jf}{loose:List Str}{XP:(Str->Option Il)->Heap->Prop}{YP:Jr->Heap->Prop}{d:DefRec}
 (hn:l.most=some n) (hdf:d.params.defaults=[])
 (call: ∀(w:Jr) (s₀ s₁:Io) (mg mb:Str->Option Il) (fa:Addr) (o:Obj) (pm cd doc:Il) (a:Addr) (vs:List Il) (ns:List Int),
   Ground q loose [] XP w s₀ mg mb s₁.heap->YP w s₁.heap->
   s₁.heap.get? fa=some o->o.data=.func (docDef d.name d.params d.body d.scope pm cd doc)->s₁.heap.CodeRec cd d.name->mg d.name=some (.ref fa)->
   s₁.heap.get? a=some {cls:=.type "list",data:=.seq vs.toArray}->SO vs ns->ns.length<=n->s₁.gens= #[]->
   LQ (model l.prog w) PM (.call (.ref fa) ⟨[.ref a],[]⟩) (λr s'=>r=.ok (.ret (.bool true))/\OldK s₁.heap s'.heap/\s'.os=s₁.os/\N4 s'.gens) s₁):
 WalkO q loose XP YP l.row.toRowW d [] (λf vs=>Tf f vs):=by
 intro w s₀ s₁ mg mb G Y fa o pm cd doc dV kV ho hd hcd hD hmg hg args vals as hpre hlay hrd hwl hlo;obtain rfl:dV=.none:=Dflts.none hD hdf
 obtain rfl:kV=.none:=Dflts.noKw hD
 obtain⟨a,vs,ns,rfl,rfl,hobj,hints,hlen⟩:=xK hn hpre hwl
 refine enter_call (Lj (call w s₀ s₁ mg mb fa o pm cd doc a vs ns G Y ho (fd_plain hd) hcd hmg hobj hints hlen hg) λr s' hq=>?_)
 obtain⟨rfl,h2,h3,h4⟩:=hq
 exact⟨.inl ⟨.bool true,.bool true,[],rfl,λ_=>rfl,.bool true,wU l _,λ_=>⟨Mz,λ_ hm=>(nomatch hm)⟩⟩,h2,h3,h4⟩
end Att
namespace L2
open PySem PySem.Spec PyProof.Rows
theorem oK: ∀ {vs:List Il} {ns:List Int},SO vs ns->Vals (ns.map V.int) vs
 |_,_,.nil=>.nil
 |_,_,.cons n t h=>.cons ⟨t,rfl⟩ (oK h)
def Eb(H:Hp):Prop:= ∀b,H b=none\/ ∃o xs,H b=some (.frz o (.lst xs))
theorem yu {P:Jf}{w:Jr}{K:Iz}{mg mb:Str->Option Il}{CX:yL}{k:Nat}{fa a:Addr}{fd:LM}{x:Str}{sp:Sp}{s₁:Io}{vs:List Il}{ns:List Int}
 (KX:K.In s₁.heap) (hns:s₁.heap.Ns IW mg) (hb:s₁.heap.Ns Q7 mb) (hbb: ∀x:Str,x≠"__name__"->mb x=J9 x) (hlim:s₁.heap.NoLimit) (hg:s₁.gens= #[])
 (ha:s₁.heap.get? a=some {cls:=.type "list",data:=.seq vs.toArray}) (hi:SO vs ns) (hl:ns.length<=IM) (hr:Room k PM)
 (F: ∀base:Heap,K.In base->base.Ns IW mg->FnOk P w K mg base CX k fa fd [x] sp) (hbind: ∀(s:Io) (u:Il),Ru s fd ⟨[u],[]⟩ [(x,u)])
 (hsp: ∀H:Hp,Eb H->SqL K H a (ns.map V.int)->sp [.ref a] H (λv _=>v=.bl true) λ_ _ _=>False)
 (hCX: ∀H e s',CX [] H s₁ (λ_ _ _=>False) e s'->False):
 LQ (model P w) PM (.call (.ref fa) ⟨[.ref a],[]⟩) (λr s'=>r=.ok (.ret (.bool true))/\OldK s₁.heap s'.heap/\s'.os=s₁.os/\N4 s'.gens) s₁:=by
 have rv:=oK hi
 have lenV:=hi.length
 have core: ∀H:Hp,Eb H->SqL K H a (ns.map V.int)->HOk P w H s₁.heap->(∀b,H b≠none->b=a)->(H a≠none->K.lookup a=none)->
  LQ (model P w) PM (.call (.ref fa) ⟨[.ref a],[]⟩) (λr s'=>r=.ok (.ret (.bool true))/\OldK s₁.heap s'.heap/\s'.os=s₁.os/\N4 s'.gens) s₁:=by
  intro H hO hS hok hA hK;have base_of: ∀ {b:Addr} {o:Obj},s₁.heap.get? b=some o->H b=none->(qR s₁.heap H).get? b=some o:=λe n=>AH e n
  have noA: ∀ {b:Addr} {o:Obj} {es:Array RZ} {ep:Nat},s₁.heap.get? b=some o->o.data=.dict es ep->H b=none:=λ{b o es ep} e d=>by
   cases q:H b with
   |none=>rfl
   |some u=>
    have e':b=a:=hA b (by rw[q];simp)
    subst e';rw[ha] at e;cases e;have d':Tg vs.toArray _=Data.dict es ep:=d
    cases d'
  have nsK: ∀ {b:Addr} {m:Str->Option Il},s₁.heap.Ns b m->(qR s₁.heap H).Ns b m:=λ{b m} ⟨o,es,ep,e,d,r⟩=>⟨o,es,ep,base_of e (noA e d),d,r⟩
  have hKb:K.In (qR s₁.heap H):=λb o e=>base_of (KX b o e) (by
   cases q:H b with
   |none=>rfl
   |some u=>
    have e':b=a:=hA b (by rw[q];simp)
    subst e';rw[hK (by rw[q];simp)] at e;cases e)
  have hM:Mod K mg (qR s₁.heap H):=⟨hKb,nsK hns,⟨mb,nsK hb,hbb⟩,let⟨mc,h1,h2⟩:=hlim;⟨mc,nsK h1,h2⟩⟩
  have e0:Env0 P w K mg (qR s₁.heap H) PM [] s₁ H:=⟨rfl,hM,λb o e=>CT e,Nat.le_of_eq (wI _ _),trivial,λb hb=>absurd (show b∈([]:List Addr) from hb) (by simp),hok,.of_eq hg⟩
  refine Lj ((F _ hKb (nsK hns)).run PM [] s₁ H ⟨[.ref a],[]⟩ [.ref a] [.ref a] _ _ hr e0 (hbind s₁ (.ref a)) (.cons rfl .nil) (hsp H hO hS)) λr s' h=>?_
  cases r with
  |error e=>exact(hCX H e s' h).elim
  |ok fl=>
   cases fl with
   |next=>exact False.elim h
   |brk=>exact False.elim h
   |cont=>exact False.elim h
   |ret u=>
    obtain⟨v,H',os,bare,un,hok',r',q⟩:=h
    have q':v=.bl true:=q
    subst q';obtain rfl:u=XG true:=r'
    refine⟨rfl,OldK.of_keep λb o e=>?_,os,bare⟩
    cases q:H b with
    |none=>exact un.keep b o e q (by intro z;exact absurd (show b∈([]:List Addr) from z) (by simp)) (by simp)
    |some u=>
     rcases hO b with z|⟨ob,xs,z⟩
     ·rw[q] at z;cases z
     ·have z2:=un.frzs b ob _ z
      obtain⟨e1,_⟩:=hok b _ z
      obtain⟨e2,_⟩:=hok' b _ z2
      rw[e] at e1;cases e1;exact e2
 cases hk:K.lookup a with
 |some o=>
  have e:=KX a o hk
  rw[ha] at e;cases e
  refine core (λ_=>none) (λ_=>.inl rfl) (.inr ⟨_,vs.toArray,_,hk,rfl,rfl,rfl,by rw[IP,lenV];exact hl,by simpa using rv⟩) (λb u z=>by have z':(none:Option HO)=some u:=z;cases z') (λb z=>absurd rfl z) λz=>absurd rfl z
 |none=>
  refine core (λb=>if b=a then some (.frz {cls:=.type "list",data:=.seq vs.toArray} (.lst (ns.map V.int))) else none) (λb=>?_) (.inl (.inr ⟨{cls:=.type "list",data:=.seq vs.toArray},if_pos rfl⟩)) (λb u z=>?_) (λb z=>?_) λ_=>hk
  ·by_cases hb:b=a
   ·exact .inr ⟨_,_,if_pos hb⟩
   ·exact .inl (if_neg hb)
  ·by_cases hb:b=a
   ·have z':=(if_pos hb).symm.trans z
    cases z'
    subst hb;exact⟨ha,by rw[Iu];exact hl,vs,_,rv,ha⟩
   ·have z':=(if_neg hb).symm.trans z
    cases z'
  ·by_cases hb:b=a
   ·exact hb
   ·exact absurd (if_neg hb) z
theorem walk_of {l:Uu}{n k:Nat}{q:Jf}{loose:List Str}{XP:(Str->Option Il)->Heap->Prop}{YP:Jr->Heap->Prop}{d:DefRec}{K:XZ->Iz}{CX:Jr->yL}{sp:Jr->Sp}{x:Str}
 (hn:l.most=some n) (hn2:n<=IM) (hdf:d.params.defaults=[]) (hr:Room k PM)
 (hY: ∀(w:Jr) (h:Heap),YP w h->(K w.params).In h)
 (F: ∀(w:Jr) (mg:Str->Option Il) (fa:Addr) (h:Heap),(K w.params).In h->h.Ns IW mg->mg d.name=some (.ref fa)->
   ∃fd:LM,(∀(s:Io) (u:Il),Ru s fd ⟨[u],[]⟩ [(x,u)])/\
    ∀base:Heap,(K w.params).In base->base.Ns IW mg->FnOk l.prog w (K w.params) mg base (CX w) k fa fd [x] (sp w))
 (hsp: ∀(w:Jr) (H:Hp) (a:Addr) (ns:List Int),ns.length<=n->Eb H->SqL (K w.params) H a (ns.map V.int)->sp w [.ref a] H (λv _=>v=.bl true) λ_ _ _=>False)
 (hCX: ∀(w:Jr) (H:Hp) (s:Io) (e:Il) (s':Io),CX w [] H s (λ_ _ _=>False) e s'->False):
 W.WalkO q loose XP YP l.row.toRowW d [] (λf vs=>Tf f vs):=by
 refine Att.attach_call hn hdf λw s₀ s₁ mg mb fa o pm cd doc a vs ns G Y ho hd hcd hmg hobj hints hlen hg=>?_
 have KX:=hY w _ Y
 obtain⟨fd,hb,hF⟩:=F w mg fa _ KX G.T.g hmg
 exact yu KX G.T.g G.T.b G.T.builtins G.T.nolimit hg hobj hints (JS hlen hn2) hr hF hb (λH hO hS=>hsp w H a ns hlen hO hS) λH e s'=>hCX w H s₁ e s'
def aQ(s:Stmt):Arguments:=match s with
 | .FunctionDef _ a _ _ _ _ _ _ _ _=>a
 |_=>{posonlyargs:=[],args:=[],vararg:=none,kwonlyargs:=[],kw_defaults:=[],kwarg:=none,defaults:=[]}
def aK(s:Stmt):List Stmt:=match s with
 | .FunctionDef _ _ b _ _ _ _ _ _ _=>b
 |_=>[]
def ai(s:Stmt):Scope:=match s with
 | .FunctionDef _ _ _ _ _ _ sc _ _ _=>sc
 |_=>{kind:=.function,names:=[],isGenerator:=false,isCoroutine:=false}
abbrev qY:yL:=λ_ _ _ _ _ _=>False
abbrev E0:XK:=λ_ _ _=>False
theorem yw {X:Cx}:t5 qY X E0:=λ_ _ _ _ _ _ _ h=>h.elim
structure Fun(K:Iz)(x qual:Str)(st:Stmt)(f:Addr)(fd:LM):Prop where
 ex: ∃(oc:Il) (od:Option Addr) (kV doc pm:Il) (an:Option Addr) (cdv ct:Il) (osl:Array (Option Il)),
  fd=KZ x qual (aQ st) (aK st) (ai st) .none kV doc pm an cdv ct/\K.lookup f=some ⟨oc,od,.func fd,osl⟩/\Kr K cdv qual=true
 kp:Ki K (.ref f)=true
section
variable {P:Jf}{w:Jr}{K:Iz}{mg:Str->Option Il}{base:Heap}
theorem Fun.ok {x qual:Str}{st:Stmt}{f:Addr}{fd:LM}{N ps:List Str}{k:Nat}{sp:Sp}(F:Fun K x qual st f fd)(S:FnScope N ps (ai st))(len: ∀vs H Q E,sp vs H Q E->vs.length=ps.length)
 (hbody: ∀(cdv:Il) (A:Jm) (outer:List Env) (s:Io) (H:Hp) (vs:List V) (Q:VK) (E:XK),Room k (A.deeper (Oj qual (ai st) s.heap.objs.size f cdv))->sp vs H Q E->
   ∃t,PSs (oB qY P w K mg base N qual (ai st) f cdv A outer s H E).nox (aK st) t/\t {nx:=λ_ H'=>Q .non H',rt:=Q} (start N vs) H):FnOk P w K mg base qY (k+1) f fd ps sp:=by
 obtain⟨oc,od,kV,doc,pm,an,cdv,ct,osl,rfl,lk,hcd⟩:=F.ex
 refine Fm lk hcd S len λA outer s H vs Q E hr hsp=>?_
 obtain⟨t,h,q⟩:=hbody cdv A outer s H vs Q E hr hsp
 exact⟨t,h.nox,q⟩
theorem Fun.binds {x qual:Str}{st:Stmt}{f:Addr}{fd:LM}{ps:List Str}(F:Fun K x qual st f fd)
 (h: ∀(kV doc pm:Il) (an:Option Addr) (cdv ct:Il) (us:List Il),us.length=ps.length->bindArgs (KZ x qual (aQ st) (aK st) (ai st) .none kV doc pm an cdv ct) ⟨us,[]⟩=pure (ps.zip us)):Binds K fd ps []:=by
 obtain⟨oc,od,kV,doc,pm,an,cdv,ct,osl,rfl,lk,hcd⟩:=F.ex
 exact .all (h kV doc pm an cdv ct)
theorem bu {x qual:Str}{st:Stmt}{f:Addr}{oc:Il}{od an:Option Addr}{osl:Array (Option Il)}{kV doc pm cdv ct:Il}(l:K.lookup f=some ⟨oc,od,.func (KZ x qual (aQ st) (aK st) (ai st) .none kV doc pm an cdv ct),osl⟩)
 (c:Kr K cdv qual=true) (k:Ki K (.ref f)=true):Fun K x qual st f (KZ x qual (aQ st) (aK st) (ai st) .none kV doc pm an cdv ct):=⟨⟨oc,od,kV,doc,pm,an,cdv,ct,osl,rfl,l,c⟩,k⟩
end
theorem oE {A:Jm}{k:Nat}(hr:Room k A):A.units+1<cLine:=Mp (QF (by decide:1<=64) _) hr.units
theorem iW {n:Nat}(h:n<=1000):n<sizeLine:=Mp h (by decide)
section
variable {X:Cx}
theorem pv(i:Nat){x:Str}{pos:Pos}(hN:X.N[i]? =some x:=by rfl)(hv:oh X.env.scope x:=by first|exact Kf rfl|exact Jw (Kf rfl)|exact Jw (Jw rfl))(hd:(x==("__debug__":Str))=false:=by decide)
 (hcd:(x==("__classdict__":Str))=false:=by decide):PE X (.Name x pos) (Gn i):=EU hN hv hd hcd
end
theorem uL {A B:Prop}(h:B):if false=true then A else B:=by
 rw[if_neg Lh];exact h
theorem t9 {A B:Prop}(h:A):if true=true then A else B:=by
 rw[if_pos rfl];exact h
def Same(H H':Hp):Prop:= ∀b o,H b=some o->H' b=some o
theorem Same.refl(H:Hp):Same H H:=λ_ _ h=>h
theorem Same.trans {H H1 H2:Hp}(a:Same H H1)(b:Same H1 H2):Same H H2:=λc o h=>b c o (a c o h)
theorem Same.free {H H':Hp}(e:Same H H'){l:Addr}(h:H' l=Wf):H l=Option.none:=by
 cases q:H l with
 |none=>rfl
 |some o=>
  rw[e l o q] at h;cases h
theorem Same.seq {K:Iz}{H H':Hp}{a:Addr}{xs:List V}(e:Same H H')(h:SqL K H a xs):SqL K H' a xs:=by
 rcases h with(h|⟨o,h⟩)|h
 ·exact .inl (.inl (e _ _ h))
 ·exact .inl (.inr ⟨o,e _ _ h⟩)
 ·exact .inr h
inductive D where
 |non|bl (b:Bool)|int (i:Int)|str (x:Str)|tup (ds:List D)|lst (ds:List D)
 |scr (ds:List D)
def SqR(K:Iz)(H:Hp)(a:Addr)(xs:List V):Prop:=
 (∃o,H a=some (.frz o (.lst xs)))\/
   ∃(o:Obj) (its:Array Il) (n:Nat),K.lookup a=some o/\o.cls=.type "list"/\o.dict=none/\o.data=.seq its n/\its.size<=IM/\Vals xs its.toList
theorem SqR.seq {K:Iz}{H:Hp}{a:Addr}{xs:List V}(h:SqR K H a xs):SqL K H a xs:=h.elim (λh=>.inl (.inr h)) .inr
theorem Same.seqR {K:Iz}{H H':Hp}{a:Addr}{xs:List V}(e:Same H H')(h:SqR K H a xs):SqR K H' a xs:=h.elim (λ⟨o,h⟩=>.inl ⟨o,e _ _ h⟩) .inr
mutual
inductive Rep (K:Iz) (F:Hp):V->D->Prop
 |non:Rep K F .non .non
 |bl {b:Bool}:Rep K F (.bl b) (.bl b)
 |int {i:Int}:Rep K F (.int i) (.int i)
 |str {x:Str}:Rep K F (.str x) (.str x)
 |tup {a:Addr} {xs:List V} {ds:List D}:SqT K F a xs->Reps K F xs ds->Rep K F (.ref a) (.tup ds)
 |lst {a:Addr} {xs:List V} {ds:List D}:F a=some (.lst xs)->Reps K F xs ds->Rep K F (.ref a) (.lst ds)
 |scr {a:Addr} {xs:List V} {ds:List D}:SqR K F a xs->Reps K F xs ds->Rep K F (.ref a) (.scr ds)
inductive Reps (K:Iz) (F:Hp):List V->List D->Prop
 |nil:Reps K F [] []
 |cons {x:V} {d:D} {xs:List V} {ds:List D}:Rep K F x d->Reps K F xs ds->Reps K F (x::xs) (d::ds)
end
theorem Same.seqT {K:Iz}{H H':Hp}{a:Addr}{xs:List V}(e:Same H H')(h:SqT K H a xs):SqT K H' a xs:=by
 rcases h with(h|⟨o,h⟩)|h
 ·exact .inl (.inl (e _ _ h))
 ·exact .inl (.inr ⟨o,e _ _ h⟩)
 ·exact .inr h
mutual
theorem Rep.mono {K:Iz}{F G:Hp}(s:Same F G): ∀ {v:V} {d:D},Rep K F v d->Rep K G v d
 |_,_,.non=>.non
 |_,_,.bl=>.bl
 |_,_,.int=>.int
 |_,_,.str=>.str
 |_,_,.tup h r=>.tup (Same.seqT s h) (Reps.mono s r)
 |_,_,.lst h r=>.lst (s _ _ h) (Reps.mono s r)
 |_,_,.scr h r=>.scr (Same.seqR s h) (Reps.mono s r)
theorem Reps.mono {K:Iz}{F G:Hp}(s:Same F G): ∀ {v:List V} {d:List D},Reps K F v d->Reps K G v d
 |_,_,.nil=>.nil
 |_,_,.cons r t=>.cons (Rep.mono s r) (Reps.mono s t)
end
section
variable {K:Iz}{F G H:Hp}
theorem Reps.length: ∀ {xs:List V} {ds:List D},Reps K F xs ds->xs.length=ds.length
 |_,_,.nil=>rfl
 |_,_,.cons _ t=>by simp[t.length]
theorem Reps.get: ∀ {xs:List V} {ds:List D} {i:Nat} {d:D},Reps K F xs ds->ds[i]? =some d-> ∃x,xs[i]? =some x/\Rep K F x d
 |_,_,_,_,.nil,e=>by simp at e
 |_,_,0,_,.cons r _,e=>by simp at e;subst e;exact⟨_,rfl,r⟩
 |_,_,i+1,d,.cons _ t,e=>by
  obtain⟨u,h1,h2⟩:=Reps.get (i:=i) (d:=d) t (by simpa using e)
  exact⟨u,by simpa using h1,h2⟩
theorem Reps.get' {xs:List V}{ds:List D}{i:Nat}{x:V}(r:Reps K F xs ds)(e:xs[i]? =some x): ∃d,ds[i]? =some d/\Rep K F x d:=by
 have hl:=r.length
 have hi:=(IE.mp e).1
 have e2:ds[i]? =some ds[i]:=Iq (by omega)
 obtain⟨y,h1,h2⟩:=r.get e2
 rw[e] at h1;cases h1;exact⟨_,e2,h2⟩
theorem Reps.append: ∀ {xs ys:List V} {us ws:List D},Reps K F xs us->Reps K F ys ws->Reps K F (xs++ys) (us++ws)
 |_,_,_,_,.nil,s=>s
 |_,_,_,_,.cons r t,s=>.cons r (Reps.append t s)
theorem Reps.set {x:V}{u:D}(r:Rep K F x u): ∀ {xs:List V} {us:List D} (i:Nat),Reps K F xs us->Reps K F (xs.set i x) (us.set i u)
 |_,_,_,.nil=>.nil
 |_,_,0,.cons _ t=>.cons r t
 |_,_,i+1,.cons q t=>.cons q (Reps.set r i t)
theorem Reps.eraseIdx: ∀ {xs:List V} {us:List D} (i:Nat),Reps K F xs us->Reps K F (xs.eraseIdx i) (us.eraseIdx i)
 |_,_,_,.nil=>.nil
 |_,_,0,.cons _ t=>t
 |_,_,i+1,.cons q t=>.cons q (Reps.eraseIdx i t)
theorem Reps.take: ∀ {xs:List V} {us:List D} (n:Nat),Reps K F xs us->Reps K F (xs.take n) (us.take n)
 |_,_,0,_=>.nil
 |_,_,_+1,.nil=>.nil
 |_,_,n+1,.cons r t=>.cons r (Reps.take n t)
theorem Reps.drop: ∀ {xs:List V} {us:List D} (n:Nat),Reps K F xs us->Reps K F (xs.drop n) (us.drop n)
 |_,_,0,r=>r
 |_,_,_+1,.nil=>.nil
 |_,_,n+1,.cons _ t=>Reps.drop n t
end
abbrev bq:=Addr->Bool
def vw(H:Hp)(hid:bq):Hp:=λb=>if hid b=true then none else H b
def bF(hid:bq)(a:Addr):bq:=λb=>hid b||decide (b=a)
def sJ(hid:bq)(a:Addr):bq:=λb=>hid b&& !decide (b=a)
theorem vw_some {H:Hp}{hid:bq}{b:Addr}{o:HO}:vw H hid b=some o↔hid b=false/\H b=some o:=by
 unfold vw;cases hb:hid b<;>simp
theorem dI(H:Hp)(hid:bq):Same (vw H hid) H:=λb o h=>(vw_some.mp h).2
theorem aH {H H':Hp}{hid:bq}(s:Same H H'):Same (vw H hid) (vw H' hid):=λb o h=>vw_some.mpr ⟨(vw_some.mp h).1,s _ _ (vw_some.mp h).2⟩
theorem vG {H H':Hp}{hid:bq}(s: ∀b o,H b=some o->hid b=false->H' b=some o):Same (vw H hid) (vw H' hid):=λb o h=>vw_some.mpr ⟨(vw_some.mp h).1,s _ _ (vw_some.mp h).2 (vw_some.mp h).1⟩
theorem dc {H:Hp}{hid:bq}{a:Addr}{o:HO}(h:hid a=true):vw (bp H a o) hid=vw H hid:=by
 funext b;unfold vw bp
 by_cases e:b=a
 ·subst e;simp[h]
 ·simp[e]
theorem eW {H:Hp}{hid hid':bq}(h: ∀b,hid' b=true->hid b=true):Same (vw H hid) (vw H hid'):=λb o q=>by
 obtain⟨q1,q2⟩:=vw_some.mp q
 refine vw_some.mpr ⟨?_,q2⟩
 cases e:hid' b with
 |false=>rfl
 |true=>rw[h b e] at q1;cases q1
theorem uX {H:Hp}{hid:bq}{a:Addr}{o:HO}(h:H a=none):vw (bp H a o) (bF hid a)=vw H hid:=by
 funext b;unfold vw bp bF
 by_cases e:b=a
 ·subst e
  cases hb:hid b<;>simp[h]
 ·simp[e]
inductive Ob where
 |exc (x:Str) (n:Int)
 |dK (kvs:List (bt×D))
 |dT (kvs:List (List bt×D))
 |set (ds:List D)
 |old (d:D)
 |jnk
 |tset (ks:List (List Int))
 |dF (kvs:List (List bt×D))
inductive Sl where
 |no
 |v (d:D)
 |own (ds:List D)
 |arg (ds:List D)
 |ob (b:Ob)
abbrev az:=List Sl
structure Ct where
 H₀:Hp
 hid₀:bq
 mu:Addr->Bool
def Gq(K:Iz)(x:Str)(n:Int)(a:Addr)(h:Heap):Prop:= ∃C o,KC K IW x=some (some (.ref C))/\h.get? a=some o/\o.cls=.ref C/\o.dict=none/\W.notCls o=true
def GH:Option HO->Bool
 |some (.lst _)=>true
 |_=>false
def fv(c:Ct)(F:Hp):Hp:=λb=>if(c.H₀ b).isSome=true/\GH (F b)=true then none else F b
def ov(c:Ct)(F:Hp):Hp:=λb=>if(c.H₀ b).isSome=true then F b else none
theorem fv_some {c:Ct}{F:Hp}{b:Addr}{o:HO}:fv c F b=some o↔(GH (some o)=true->c.H₀ b=none)/\F b=some o:=by
 unfold fv;constructor
 ·intro h
  split at h
  ·cases h
  ·rename_i hn
   refine⟨λq=>?_,h⟩
   rw[h] at hn;cases hb:c.H₀ b with
   |none=>rfl
   |some u=>exact absurd ⟨by rw[hb];rfl,q⟩ hn
 ·rintro⟨h1,h2⟩
  rw[if_neg,h2]
  rintro⟨q1,q2⟩
  rw[h2] at q2;rw[h1 q2] at q1;cases q1
theorem ov_some {c:Ct}{F:Hp}{b:Addr}{o:HO}:ov c F b=some o↔(∃u,c.H₀ b=some u)/\F b=some o:=by
 unfold ov;cases hb:c.H₀ b<;>simp
theorem BP {c:Ct}{F G:Hp}(s:Same F G):Same (fv c F) (fv c G):=λb o h=>fv_some.mpr ⟨(fv_some.mp h).1,s _ _ (fv_some.mp h).2⟩
theorem Bs {c:Ct}{F G:Hp}(s:Same F G):Same (ov c F) (ov c G):=λb o h=>ov_some.mpr ⟨(ov_some.mp h).1,s _ _ (ov_some.mp h).2⟩
def ObOk(K:Iz)(c:Ct)(hid:bq)(H:Hp)(a:Addr):Ob->Prop
 | .exc x n=> ∃φ,vw H hid a=some (.ext φ)/\ ∀h,φ h->Gq K x n a h
 | .dK kvs=>(hid a=true/\c.H₀ a=none)/\ ∃us:List (bt×V),H a=some (.dK us)/\us.map (·.1)=kvs.map (·.1)/\Reps K (vw H hid) (us.map (·.2)) (kvs.map (·.2))
 | .dT kvs=>(hid a=true/\c.H₀ a=none)/\ ∃us:List (List bt×V),H a=some (.dT us)/\us.map (·.1)=kvs.map (·.1)/\Reps K (vw H hid) (us.map (·.2)) (kvs.map (·.2))
 | .set ds=>(hid a=true/\c.H₀ a=none)/\ ∃xs:List V,H a=some (.lst xs)/\Reps K (fv c (vw H hid)) xs ds
 | .old d=>Rep K (ov c (vw H hid)) (.ref a) d
 | .jnk=>(hid a=true/\c.H₀ a=none)/\ ∃xs:List V,H a=some (.lst xs)
 | .tset ks=>(hid a=true/\c.H₀ a=none)/\ ∃xs:List (List Int×Addr),H a=some (.tst xs)/\(xs.map (·.1)).Perm ks/\Reps K (vw H hid) (xs.map λx=>V.ref x.2) (xs.map λx=>D.tup (x.1.map D.int))
 | .dF kvs=>(hid a=true/\c.H₀ a=none)/\ ∃(o:Obj) (us:List (List bt×V)),H a=some (.frz o (.dT us))/\us.map (·.1)=kvs.map (·.1)/\Reps K (vw H hid) (us.map (·.2)) (kvs.map (·.2))
def wG:Ob->Prop
 | .exc _ _=>False
 | .old _=>False
 |_=>True
theorem ObOk.mono {K:Iz}{c:Ct}{hid hid':bq}{H H':Hp}{a:Addr}{b:Ob}(h:ObOk K c hid H a b)(k:wG b-> ∀o,H a=some o->H' a=some o)(s:Same (vw H hid) (vw H' hid'))(w:wG b->hid a=true->hid' a=true):ObOk K c hid' H' a b:=by
 cases b with
 |exc x n=>obtain⟨φ,h1,h2⟩:=h;exact⟨φ,s _ _ h1,h2⟩
 |dK kvs=>obtain⟨h1,us,h2,h3,h4⟩:=h;exact⟨⟨w trivial h1.1,h1.2⟩,us,k trivial _ h2,h3,h4.mono s⟩
 |dT kvs=>obtain⟨h1,us,h2,h3,h4⟩:=h;exact⟨⟨w trivial h1.1,h1.2⟩,us,k trivial _ h2,h3,h4.mono s⟩
 |set ds=>obtain⟨h1,us,h2,h3⟩:=h;exact⟨⟨w trivial h1.1,h1.2⟩,us,k trivial _ h2,h3.mono (BP s)⟩
 |old d=>exact Rep.mono (Bs s) h
 |jnk=>obtain⟨h1,us,h2⟩:=h;exact⟨⟨w trivial h1.1,h1.2⟩,us,k trivial _ h2⟩
 |tset ks=>obtain⟨h1,us,h2,h3,h4⟩:=h;exact⟨⟨w trivial h1.1,h1.2⟩,us,k trivial _ h2,h3,h4.mono s⟩
 |dF kvs=>obtain⟨h1,o,us,h2,h3,h4⟩:=h;exact⟨⟨w trivial h1.1,h1.2⟩,o,us,k trivial _ h2,h3,h4.mono s⟩
theorem ObOk.hid {K:Iz}{c:Ct}{hid:bq}{H:Hp}{a:Addr}{b:Ob}(h:ObOk K c hid H a b)(o:wG b):hid a=true:=by
 cases b with
 |exc x n=>exact o.elim
 |dK kvs=>exact h.1.1
 |dT kvs=>exact h.1.1
 |set ds=>exact h.1.1
 |old d=>exact o.elim
 |jnk=>exact h.1.1
 |tset ks=>exact h.1.1
 |dF kvs=>exact h.1.1
def SlOk(K:Iz)(c:Ct)(hid:bq)(σ:St)(H:Hp)(i:Nat):Sl->Prop
 | .no=>True
 | .v d=> ∃x,σ[i]? =some (some x)/\Rep K (vw H hid) x d
 | .own ds=> ∃a xs,σ[i]? =some (some (.ref a))/\H a=some (.lst xs)/\hid a=true/\c.H₀ a=none/\Reps K (vw H hid) xs ds
 | .arg ds=> ∃a xs,σ[i]? =some (some (.ref a))/\H a=some (.lst xs)/\hid a=true/\c.mu a=true/\Reps K (vw H hid) xs ds
 | .ob b=> ∃a,σ[i]? =some (some (.ref a))/\ObOk K c hid H a b
def Ow:Option Sl->Prop
 |some (.own _)=>True
 |some (.arg _)=>True
 |some (.ob b)=>wG b
 |_=>False
structure SR(K:Iz)(c:Ct)(hid:bq)(ρ:az)(σ:St)(H:Hp):Prop where
 tr: ∀b,hid b=true-> ∃o,H b=some o
 ht: ∀b xs,hid b=true->H b≠some (.tup xs)
 h0: ∀b,c.hid₀ b=true->hid b=true
 kp: ∀b o,c.H₀ b=some o->c.mu b=false->H b=some o
 t0: ∀b o,c.H₀ b=some o-> ∃o',H b=some o'
 c0: ∀b,c.hid₀ b=true-> ∃o,c.H₀ b=some o
 m0: ∀b,c.mu b=true->c.hid₀ b=true
 len:σ.length=ρ.length
 sl: ∀(i:Nat) (s:Sl),ρ[i]? =some s->SlOk K c hid σ H i s
 ap: ∀(i j:Nat) (a:Addr),i≠j->Ow ρ[i]? ->Ow ρ[j]? ->σ[i]? =some (some (.ref a))->σ[j]? =some (some (.ref a))->False
section
variable {K:Iz}{c:Ct}{hid:bq}{ρ:az}{σ:St}{H H':Hp}{i:Nat}
theorem SlOk.ext {s:Sl}(h:SlOk K c hid σ H i s)(e:Same H H'):SlOk K c hid σ H' i s:=by
 cases s with
 |no=>trivial
 |v d=>obtain⟨x,h1,h2⟩:=h;exact⟨x,h1,h2.mono (aH e)⟩
 |own ds=>obtain⟨a,xs,h1,h2,h3,h4,h5⟩:=h;exact⟨a,xs,h1,e _ _ h2,h3,h4,h5.mono (aH e)⟩
 |arg ds=>obtain⟨a,xs,h1,h2,h3,h4,h5⟩:=h;exact⟨a,xs,h1,e _ _ h2,h3,h4,h5.mono (aH e)⟩
 |ob b=>obtain⟨a,h1,h2⟩:=h;exact⟨a,h1,h2.mono (λ_=>e a) (aH e) λ_ q=>q⟩
theorem SR.ext(h:SR K c hid ρ σ H)(e:Same H H'):SR K c hid ρ σ H' where
 tr:=λb hb=>let⟨o,q⟩:=h.tr b hb;⟨o,e _ _ q⟩
 ht:=λb xs hb q=>let⟨o,w⟩:=h.tr b hb;by have z:=e _ _ w;rw[q] at z;cases z;exact h.ht b xs hb w
 h0:=h.h0
 kp:=λb o q m=>e _ _ (h.kp b o q m)
 t0:=λb o q=>let⟨o',q'⟩:=h.t0 b o q;⟨o',e _ _ q'⟩
 c0:=h.c0
 m0:=h.m0
 len:=h.len
 sl:=λi s q=>(h.sl i s q).ext e
 ap:=h.ap
def GC(hid:bq)(H:Hp):Prop:=(∀b,hid b=true-> ∃o,H b=some o)/\ ∀b xs,hid b=true->H b≠some (.tup xs)
theorem SR.trk(h:SR K c hid ρ σ H):GC hid H:=⟨h.tr,h.ht⟩
theorem SR.fresh(h:SR K c hid ρ σ H){a:Addr}(n:H a=none):hid a=false:=by
 cases e:hid a with
 |false=>rfl
 |true=>obtain⟨o,q⟩:=h.tr a e;rw[n] at q;cases q
theorem SR.fresh0(h:SR K c hid ρ σ H){a:Addr}(n:H a=none):c.H₀ a=none:=by
 cases e:c.H₀ a with
 |none=>rfl
 |some o=>obtain⟨o',q⟩:=h.t0 a o e;rw[n] at q;cases q
end
inductive Kd where
 |b|s|n
 deriving DecidableEq
def Rep1(K:Iz)(H W:Hp)(v:V)(d:D):Prop:=Rep K W v d\/ ∃a xs ds,v=.ref a/\d=.lst ds/\H a=some (.lst xs)/\Reps K W xs ds
def RN(K:Iz)(H H':Hp)(hid:bq)(v:V)(d:D):Prop:= ∃a xs ds,d=.lst ds/\v=.ref a/\H a=none/\H' a=some (.lst xs)/\Reps K (vw H' (bF hid a)) xs ds
def RK(K:Iz)(k:Kd)(H H':Hp)(hid:bq)(v:V)(d:D):Prop:=match k with
 | .b=>Rep1 K H' (vw H' hid) v d
 | .s=>Rep K (vw H' hid) v d
 | .n=>RN K H H' hid v d
section
variable {K:Iz}{c:Ct}{hid:bq}{ρ:az}{σ:St}{H H' H'':Hp}{i:Nat}{v:V}{d:D}
theorem RN.rep(h:RN K H H' hid v d)(hf: ∀a,H a=none->hid a=false):Rep K (vw H' hid) v d:=by
 obtain⟨a,xs,ds,rfl,rfl,h1,h2,h3⟩:=h
 refine .lst (vw_some.mpr ⟨hf a h1,h2⟩) (h3.mono (eW λb q=>?_))
 unfold bF;rw[q];rfl
theorem RK.b(k:Kd)(h:RK K k H H' hid v d)(hf: ∀a,H a=none->hid a=false):Rep1 K H' (vw H' hid) v d:=by
 cases k with
 |b=>exact h
 |s=>exact .inl h
 |n=>exact .inl (RN.rep h hf)
theorem Rep1.ext {hid:bq}(h:Rep1 K H (vw H hid) v d)(e:Same H H'):Rep1 K H' (vw H' hid) v d:=by
 rcases h with h|⟨a,xs,ds,h1,h2,h3,h4⟩
 ·exact .inl (h.mono (aH e))
 ·exact .inr ⟨a,xs,ds,h1,h2,e _ _ h3,h4.mono (aH e)⟩
theorem Rep1.int {i:Int}(h:Rep1 K H (vw H hid) v (.int i)):v=.int i:=by
 rcases h with h|⟨a,xs,ds,h1,h2,_⟩
 ·cases h;rfl
 ·cases h2
theorem Rep1.bl {i:Bool}(h:Rep1 K H (vw H hid) v (.bl i)):v=.bl i:=by
 rcases h with h|⟨a,xs,ds,h1,h2,_⟩
 ·cases h;rfl
 ·cases h2
theorem Rep1.str {i:Str}(h:Rep1 K H (vw H hid) v (.str i)):v=.str i:=by
 rcases h with h|⟨a,xs,ds,h1,h2,_⟩
 ·cases h;rfl
 ·cases h2
theorem Rep1.non(h:Rep1 K H (vw H hid) v .non):v=.non:=by
 rcases h with h|⟨a,xs,ds,h1,h2,_⟩
 ·cases h;rfl
 ·cases h2
theorem Rep1.tup {ds:List D}(h:Rep1 K H (vw H hid) v (.tup ds)): ∃a xs,v=.ref a/\SqT K (vw H hid) a xs/\SqT K H a xs/\Reps K (vw H hid) xs ds:=by
 rcases h with h|⟨a,xs,ds,h1,h2,_⟩
 ·cases h with
  |tup q r=>exact⟨_,_,rfl,q,Same.seqT (dI _ _) q,r⟩
 ·cases h2
theorem Rep1.lst {ds:List D}(h:Rep1 K H (vw H hid) v (.lst ds)): ∃a xs,v=.ref a/\SqL K H a xs/\Reps K (vw H hid) xs ds:=by
 rcases h with h|⟨a,xs,ds,h1,h2,h3,h4⟩
 ·cases h with
  |lst q r=>exact⟨_,_,rfl,SqL.of (dI _ _ _ _ q),r⟩
 ·cases h2
  exact⟨a,xs,h1,SqL.of h3,h4⟩
theorem Rep1.scr {ds:List D}(h:Rep1 K H (vw H hid) v (.scr ds)): ∃a xs,v=.ref a/\SqL K H a xs/\Reps K (vw H hid) xs ds:=by
 rcases h with h|⟨a,xs,ds,h1,h2,h3,h4⟩
 ·cases h with
  |scr q r=>exact⟨_,_,rfl,(dI _ _).seq q.seq,r⟩
 ·cases h2
end
theorem PE.imp {X:Cx}{e:Expr}{t t':TE}(h:PE X e t)(i: ∀σ H Q,t' σ H Q->t σ H Q):PE X e t':=λaa s σ H Q I q=>h aa s σ H Q I (i σ H Q q)
theorem PT.imp {X:Cx}{e:Expr}{t t':TT}(h:PT X e t)(i: ∀σ H Q,t' σ H Q->t σ H Q):PT X e t':=λaa s σ H Q I q=>h aa s σ H Q I (i σ H Q q)
theorem PW.imp {X:Cx}{e:Expr}{t t':TT}(h:PW X e t)(i: ∀σ H Q,t' σ H Q->t σ H Q):PW X e t':=λwh aa s σ H Q I q=>h wh aa s σ H Q I (i σ H Q q)
theorem PA.imp {X:Cx}{e:List Expr}{t t':TA}(h:PA X e t)(i: ∀σ H Q,t' σ H Q->t σ H Q):PA X e t':=λp aa s σ H Q I q=>h p aa s σ H Q I (i σ H Q q)
theorem PS.imp {X:Cx}{e:Stmt}{t t':TS}(h:PS X e t)(i: ∀D σ H,t' D σ H->t D σ H):PS X e t':=λaa s σ H D I q=>h aa s σ H D I (i D σ H q)
theorem PSs.imp {X:Cx}{e:List Stmt}{t t':TS}(h:PSs X e t)(i: ∀D σ H,t' D σ H->t D σ H):PSs X e t':=λaa s σ H D I q=>h aa s σ H D I (i D σ H q)
abbrev FE:=az->Option D
abbrev FT:=az->Option Bool
abbrev FA:=az->Option (List D)
def Fg(K:Iz)(c:Ct)(hid:bq)(k:Kd)(f:FE)(ρ:az):TE:=λσ H Q=>SR K c hid ρ σ H/\ ∃d,f ρ=some d/\ ∀v H',Same H H'->RK K k H H' hid v d->Q v H'
def Hk(K:Iz)(c:Ct)(hid:bq)(f:FT)(ρ:az):TT:=λσ H Q=>SR K c hid ρ σ H/\ ∃d,f ρ=some d/\ ∀H',Same H H'->Q d H'
def Ib(K:Iz)(c:Ct)(hid:bq)(f:FA)(ρ:az):TA:=λσ H Q=>SR K c hid ρ σ H/\ ∃d,f ρ=some d/\ ∀vs H',Same H H'->Reps K (vw H' hid) vs d->Q vs H'
def DP(X:Cx)(c:Ct)(k:Kd)(e:Expr)(f:FE):Prop:= ∀hid ρ,PE X e (Fg X.K c hid k f ρ)
def DT(X:Cx)(c:Ct)(e:Expr)(f:FT):Prop:= ∀hid ρ,PT X e (Hk X.K c hid f ρ)
def DW(X:Cx)(c:Ct)(e:Expr)(f:FT):Prop:= ∀hid ρ,PW X e (Hk X.K c hid f ρ)
def DA(X:Cx)(c:Ct)(es:List Expr)(f:FA):Prop:= ∀hid ρ,PA X es (Ib X.K c hid f ρ)
section
variable {X:Cx}{c:Ct}{e a b:Expr}{es:List Expr}{f g:FE}{k:Kd}{pos:Pos}
theorem DP.toS(h:DP X c .n e f):DP X c .s e f:=λhid ρ=>PE.imp (h hid ρ) λσ H Q ⟨sr,d,hd,q⟩=>⟨sr,d,hd,λv H' s r=>q v H' s (RN.rep r λa n=>sr.fresh n)⟩
def ag(i:Nat):FE:=λρ=>match ρ[i]? with
 |some (.v d)=>some d
 |_=>none
def cJ(i:Nat):FE:=λρ=>match ρ[i]? with
 |some (.v d)=>some d
 |some (.own ds)=>some (.lst ds)
 |some (.arg ds)=>some (.lst ds)
 |_=>none
theorem ae(i:Nat){x:Str}(hN:X.N[i]? =some x:=by rfl)(hv:oh X.env.scope x:=by first|exact Kf rfl|exact Jw (Kf rfl)|exact Jw (Jw rfl))(hd:(x==("__debug__":Str))=false:=by decide)
 (hcd:(x==("__classdict__":Str))=false:=by decide):DP X c .s (.Name x pos) (ag i):=λhid ρ=>PE.imp (pv i hN hv hd hcd) λσ H Q hq_=>by
 obtain⟨sr,d,hd,q⟩:=hq_
 unfold ag at hd;split at hd
 ·rename_i d' e'
  cases hd
  obtain⟨x,h1,h2⟩:=sr.sl i _ e'
  exact⟨x,h1,q x H (Same.refl _) h2⟩
 ·cases hd
theorem cL(i:Nat){x:Str}(hN:X.N[i]? =some x:=by rfl)(hv:oh X.env.scope x:=by first|exact Kf rfl|exact Jw (Kf rfl)|exact Jw (Jw rfl))(hd:(x==("__debug__":Str))=false:=by decide)
 (hcd:(x==("__classdict__":Str))=false:=by decide):DP X c .b (.Name x pos) (cJ i):=λhid ρ=>PE.imp (pv i hN hv hd hcd) λσ H Q hq_=>by
 obtain⟨sr,d,hd,q⟩:=hq_
 unfold cJ at hd;split at hd
 ·rename_i d' e'
  cases hd
  obtain⟨x,h1,h2⟩:=sr.sl i _ e'
  exact⟨x,h1,q x H (Same.refl _) (.inl h2)⟩
 ·rename_i d' e'
  cases hd
  obtain⟨a,xs,h1,h2,h3,h4,h5⟩:=sr.sl i _ e'
  exact⟨_,h1,q _ H (Same.refl _) (.inr ⟨a,xs,_,rfl,rfl,h2,h5⟩)⟩
 ·rename_i d' e'
  cases hd
  obtain⟨a,xs,h1,h2,h3,h4,h5⟩:=sr.sl i _ e'
  exact⟨_,h1,q _ H (Same.refl _) (.inr ⟨a,xs,_,rfl,rfl,h2,h5⟩)⟩
 ·cases hd
def aE(d:D):FE:=λ_=>some d
theorem au {i:Int}{j pos}:DP X c .s (.Constant (.int i) j pos) (aE (.int i)):=λhid ρ=>PE.imp EL λσ H Q hq_=>by
 obtain⟨sr,d,hd,q⟩:=hq_
 cases hd;exact q _ H (Same.refl _) .int
theorem lU {i:Bool}{j pos}:DP X c .s (.Constant (.bool i) j pos) (aE (.bl i)):=λhid ρ=>PE.imp FB λσ H Q hq_=>by
 obtain⟨sr,d,hd,q⟩:=hq_
 cases hd;exact q _ H (Same.refl _) .bl
theorem Ez {j pos}:DP X c .s (.Constant .none j pos) (aE .non):=λhid ρ=>PE.imp DL λσ H Q hq_=>by
 obtain⟨sr,d,hd,q⟩:=hq_
 cases hd;exact q _ H (Same.refl _) .non
def aj(F:D->D->Option D)(f g:FE):FE:=λρ=>(f ρ).bind λx=>(g ρ).bind λy=>F x y
theorem zL {F:D->D->Option D}{ρ:az}{d:D}(h:aj F f g ρ=some d): ∃x y,f ρ=some x/\g ρ=some y/\F x y=some d:=by
 unfold aj at h;cases e1:f ρ with
 |none=>rw[e1] at h;cases h
 |some x=>
  cases e2:g ρ with
  |none=>rw[e1,e2] at h;cases h
  |some y=>rw[e1,e2] at h;exact⟨x,y,rfl,rfl,h⟩
def oe(K:Iz)(k:Kd)(r:R2)(F:D->D->Option D):Prop:= ∀(H:Hp) (hid:bq) (v u:V) (x y d:D) (Q:VK),(∀a,H a=none->hid a=false)->F x y=some d->Rep1 K H (vw H hid) v x->Rep1 K H (vw H hid) u y->
 (∀w H',Same H H'->RK K k H H' hid w d->Q w H')->r v u H Q
theorem RK.left {K:Iz}{H H1 H':Hp}{hid:bq}{v:V}{d:D}(s:Same H H1)(h:RK K k H1 H' hid v d):RK K k H H' hid v d:=by
 cases k with
 |b=>exact h
 |s=>exact h
 |n=>
  obtain⟨a,xs,ds,h1,h2,h3,h4⟩:=h
  exact⟨a,xs,ds,h1,h2,s.free h3,h4⟩
theorem GM {r:R2}{F:D->D->Option D}{k1 k2:Kd}{hid:bq}{ρ:az}(hF:oe X.K k r F){σ:St}{H:Hp}{Q:VK}(h:Fg X.K c hid k (aj F f g) ρ σ H Q):Fe r (Fg X.K c hid k1 f ρ) (Fg X.K c hid k2 g ρ) σ H Q:=by
 obtain⟨sr,d,hd,q⟩:=h
 obtain⟨x,y,e1,e2,e3⟩:=zL hd
 refine⟨sr,x,e1,λv H1 s1 r1=>⟨sr.ext s1,y,e2,λu H2 s2 r2=>?_⟩⟩
 have b1:=(RK.b k1 r1 λa n=>sr.fresh n).ext s2
 have b2:=RK.b k2 r2 λa n=>(sr.ext s1).fresh n
 exact hF H2 hid v u x y d Q (λa n=>((sr.ext s1).ext s2).fresh n) e3 b1 b2 λw H' s3 r3=>q w H' ((s1.trans s2).trans s3) (RK.left (s1.trans s2) r3)
theorem nE {op:Wa}{r:R2}{F:D->D->Option D}{k1 k2:Kd}(ho:km X (Mj op) r)(hF:oe X.K k r F)(ha:DP X c k1 a f)(hb:DP X c k2 b g):DP X c k (.BinOp a op b pos) (aj F f g):=λhid ρ=>
 PE.imp (x8 ho (ha hid ρ) (hb hid ρ)) λσ H Q h=>GM hF h
theorem qr {op:S6}{r:R2}{F:D->D->Option D}{k1 k2:Kd}(ho:km X (LD op) r)(hF:oe X.K .s r F)(ha:DP X c k1 a f)(hb:DP X c k2 b g)(hm:LC op b=false):DP X c .s (.Compare a [op] [b] pos) (aj F f g):=λhid ρ=>
 PE.imp (BB ho (ha hid ρ) (hb hid ρ) hm) λσ H Q h=>GM hF h
def tQ:Option D->Option Bool
 |some (.bl b)=>some b
 |_=>none
theorem cr {op:S6}{r:R2}{F:D->D->Option D}{k1 k2:Kd}(ho:km X (LD op) r)(hF:oe X.K .s r F)(ha:DP X c k1 a f)(hb:DP X c k2 b g)(hm:LC op b=false):DT X c (.Compare a [op] [b] pos) (λρ=>tQ (aj F f g ρ)):=λhid ρ=>
 PT.imp (wg ho (ha hid ρ) (hb hid ρ) hm) λσ H Q hq_=>by
  obtain⟨sr,d,hd,q⟩:=hq_
  refine GM (X:=X) (k:=.s) (F:=F) hF ?_
  dsimp only at hd;cases e:aj F f g ρ with
  |none=>rw[e] at hd;cases hd
  |some x=>
   rw[e] at hd;cases x with
   |bl z=>
    cases hd
    refine⟨sr,_,e,λv H' s r=>⟨d,?_,q H' s⟩⟩
    cases r;rfl
   |_=>cases hd
theorem bi {r:R2}{F:D->D->Option D}{k1 k2:Kd}(hr:IxR X r)(hF:oe X.K k r F)(ha:DP X c k1 a f)(hb:DP X c k2 b g)(hs:pY b):DP X c k (.Subscript a b pos) (aj F f g):=λhid ρ=>
 PE.imp (Dh hr (ha hid ρ) (hb hid ρ) hs) λσ H Q h=>GM hF h
end
def i2(C:Int->Int->Bool)(G:Int->Int->D):D->D->Option D
 | .int i,.int j=>if C i j=true then some (G i j) else none
 |_,_=>none
section
variable {K:Iz}
theorem qm {C:Int->Int->Bool}{G:Int->Int->D}{x y d:D}(h:i2 C G x y=some d): ∃i j,x=.int i/\y=.int j/\C i j=true/\d=G i j:=by
 unfold i2 at h;split at h
 ·split at h
  ·cases h;exact⟨_,_,rfl,rfl, ‹_›,rfl⟩
  ·cases h
 ·cases h
theorem BE {C:Int->Int->Prop}{B:Int->Int->Bool}{g:Int->Int->Int}(hC: ∀i j,B i j=true->C i j):oe K .s (rI C λi j=>.int (g i j)) (i2 B λi j=>.int (g i j)):=by
 intro H hid v u x y d Q hf h r1 r2 q;obtain⟨i,j,rfl,rfl,hc,rfl⟩:=qm h
 cases r1.int;cases r2.int
 exact⟨i,j,rfl,rfl,hC i j hc,q _ H (Same.refl _) .int⟩
theorem Ak {g:Int->Int->Int}:oe K .s (Bj λi j=>.int (g i j)) (i2 (λ_ _=>true) λi j=>.int (g i j)):=by
 intro H hid v u x y d Q hf h r1 r2 q;obtain⟨i,j,rfl,rfl,hc,rfl⟩:=qm h
 cases r1.int;cases r2.int
 exact⟨i,j,rfl,rfl,q _ H (Same.refl _) .int⟩
theorem mP {g:Int->Int->Bool}:oe K .s (Bj λi j=>.bl (g i j)) (i2 (λ_ _=>true) λi j=>.bl (g i j)):=by
 intro H hid v u x y d Q hf h r1 r2 q;obtain⟨i,j,rfl,rfl,hc,rfl⟩:=qm h
 cases r1.int;cases r2.int
 exact⟨i,j,rfl,rfl,q _ H (Same.refl _) .bl⟩
end
section
variable {X:Cx}{c:Ct}{e a b:Expr}{es rest:List Expr}{f g:FE}{p q:FT}{k:Kd}{pos:Pos}
def Bd:D->Option Bool
 | .non=>some false
 | .bl b=>some b
 | .int i=>some (i !=0)
 | .str y=>if y.length<=IM then some ((y.length:Int) !=0) else none
 | .lst ds=>some (!ds.isEmpty)
 | .tup ds=>some (!ds.isEmpty)
 | .scr ds=>some (!ds.isEmpty)
theorem Reps.isEmpty {K:Iz}{F:Hp}{xs:List V}{ds:List D}(r:Reps K F xs ds):xs.isEmpty=ds.isEmpty:=by cases r<;>rfl
theorem zk {K:Iz}{H:Hp}{hid:bq}{v:V}{d:D}{b:Bool}(h:Bd d=some b)(r:Rep1 K H (vw H hid) v d):Ef K v H b:=by
 cases d with
 |non=>cases r.non;cases h;rfl
 |bl x=>cases r.bl;cases h;rfl
 |int i=>cases r.int;cases h;rfl
 |str y=>
  cases r.str
  have h':(if y.length<=IM then some ((y.length:Int) !=0) else none)=some b:=h
  split at h'
  ·cases h';exact⟨‹_›,rfl⟩
  ·cases h'
 |lst ds=>
  obtain⟨a,xs,rfl,h1,h2⟩:=r.lst
  cases h
  exact .inl ⟨xs,h1,by rw[h2.isEmpty]⟩
 |tup ds=>
  obtain⟨a,xs,rfl,_,h1,h2⟩:=r.tup
  cases h
  exact .inr (.inl ⟨xs,h1,by rw[h2.isEmpty]⟩)
 |scr ds=>
  obtain⟨a,xs,rfl,h1,h2⟩:=r.scr
  cases h
  exact .inl ⟨xs,h1,by rw[h2.isEmpty]⟩
def kr(f:FE):FT:=λρ=>(f ρ).bind Bd
theorem nY(ha:DP X c k a f)(he: ∀whole,isTrue a X.env whole=(do let v <-whole;Ov a.pos;MV [v] (XQ v)):=by intro _;rfl):DT X c a (kr f):=λhid ρ=>
 PT.imp (s0 (ha hid ρ) he) λσ H Q hq_=>by
  obtain⟨sr,d,hd,q⟩:=hq_
  unfold kr at hd;cases e:f ρ with
  |none=>rw[e] at hd;cases hd
  |some x=>
   rw[e] at hd;exact⟨sr,x,e,λv H' s r=>⟨d,zk hd (RK.b k r λa n=>sr.fresh n),q H' s⟩⟩
def fQ(p q:FT):FT:=λρ=>(p ρ).bind λb=>if b=true then q ρ else some false
def wt(p q:FT):FT:=λρ=>(p ρ).bind λb=>if b=true then some true else q ρ
def je(p:FT):FT:=λρ=>(p ρ).map (!·)
theorem pT(ha:DT X c a p):DW X c (.BoolOp .And [a] pos) p:=λhid ρ=>pw_and1 (ha hid ρ)
theorem yZ(ha:DT X c a p):DW X c (.BoolOp .Or [a] pos) p:=λhid ρ=>pw_or1 (ha hid ρ)
theorem vb(ha:DT X c a p)(hb:DW X c (.BoolOp .And (b::rest) pos) q):DW X c (.BoolOp .And (a::b::rest) pos) (fQ p q):=λhid ρ=>
 PW.imp (pw_and (ha hid ρ) (hb hid ρ)) λσ H Q hq_=>by
  obtain⟨sr,d,hd,hq⟩:=hq_
  unfold fQ at hd;cases e:p ρ with
  |none=>rw[e] at hd;cases hd
  |some x=>
   rw[e] at hd;refine⟨sr,x,e,λH1 s1=>?_⟩
   cases x with
   |true=>exact t9 ⟨sr.ext s1,d,hd,λH2 s2=>hq H2 (s1.trans s2)⟩
   |false=>cases hd;exact uL (hq H1 s1)
theorem zh(ha:DT X c a p)(hb:DW X c (.BoolOp .Or (b::rest) pos) q):DW X c (.BoolOp .Or (a::b::rest) pos) (wt p q):=λhid ρ=>
 PW.imp (pw_or (ha hid ρ) (hb hid ρ)) λσ H Q hq_=>by
  obtain⟨sr,d,hd,hq⟩:=hq_
  unfold wt at hd;cases e:p ρ with
  |none=>rw[e] at hd;cases hd
  |some x=>
   rw[e] at hd;refine⟨sr,x,e,λH1 s1=>?_⟩
   cases x with
   |false=>exact uL ⟨sr.ext s1,d,hd,λH2 s2=>hq H2 (s1.trans s2)⟩
   |true=>cases hd;exact t9 (hq H1 s1)
theorem DW.dt(h:DW X c e p):DT X c e p:=λhid ρ=>(h hid ρ).pt
theorem zo(ha:DT X c a p):DT X c (.UnaryOp .Not a pos) (je p):=λhid ρ=>
 PT.imp (zF (ha hid ρ)) λσ H Q hq_=>by
  obtain⟨sr,d,hd,hq⟩:=hq_
  unfold je at hd;cases e:p ρ with
  |none=>rw[e] at hd;cases hd
  |some x=>rw[e] at hd;cases hd;exact⟨sr,x,e,λH1 s1=>hq H1 s1⟩
def tm(p:FT):FE:=λρ=>(p ρ).map D.bl
def bx(f:FE):FT:=λρ=>tQ (f ρ)
theorem mV {ρ:az}{b:Bool}(h:bx f ρ=some b):f ρ=some (.bl b):=by
 unfold bx tQ at h;split at h
 ·cases h;assumption
 ·cases h
theorem Aq(ha:DP X c .s a f)(hb:DP X c .s (.BoolOp .And (b::rest) pos) g):DP X c .s (.BoolOp .And (a::b::rest) pos) (tm (fQ (bx f) (bx g))):=λhid ρ=>
 PE.imp (Dr (ha hid ρ) (hb hid ρ)) λσ H Q hq_=>by
  obtain⟨sr,d,hd,hq⟩:=hq_
  unfold tm fQ at hd;cases e:bx f ρ with
  |none=>rw[e] at hd;cases hd
  |some x=>
   rw[e] at hd;refine⟨sr,_,mV e,λv H1 s1 r=>?_⟩
   cases r
   refine⟨x,rfl,?_⟩
   cases x with
   |true=>
    refine t9 ?_
    cases e2:bx g ρ with
    |none=>rw[show(some true:Option Bool).bind (λb=>if b=true then bx g ρ else some false)=bx g ρ from rfl,e2] at hd;cases hd
    |some y=>
     rw[show(some true:Option Bool).bind (λb=>if b=true then bx g ρ else some false)=bx g ρ from rfl,e2] at hd;cases hd
     exact⟨sr.ext s1,_,mV e2,λv2 H2 s2 r2=>hq v2 H2 (s1.trans s2) r2⟩
   |false=>cases hd;exact uL (hq _ H1 s1 .bl)
theorem y9 {op}(h:DP X c k a f):DP X c k (.BoolOp op [a] pos) f:=λhid ρ=>ED (h hid ρ)
theorem uQ(ha:DP X c .s a f):DP X c .s (.UnaryOp .Not a pos) (tm (je (bx f))):=λhid ρ=>
 PE.imp (Ei (ha hid ρ)) λσ H Q hq_=>by
  obtain⟨sr,d,hd,hq⟩:=hq_
  unfold tm je at hd;cases e:bx f ρ with
  |none=>rw[e] at hd;cases hd
  |some x=>
   rw[e] at hd;cases hd;refine⟨sr,_,mV e,λv H1 s1 r=>?_⟩
   cases r
   exact⟨x,rfl,hq _ H1 s1 .bl⟩
variable {r r':R2}{h:FE}{e3:Expr}
end
section
variable {X:Cx}{c:Ct}{e a b:Expr}{es rest:List Expr}{f g:FE}{fs:FA}{k:Kd}{pos:Pos}
def ah:FA:=λ_=>some []
def ab(f:FE)(fs:FA):FA:=λρ=>(f ρ).bind λd=>(fs ρ).map λr=>d::r
theorem nQ {ρ:az}{ds:List D}(h:ab f fs ρ=some ds): ∃d r,f ρ=some d/\fs ρ=some r/\ds=d::r:=by
 unfold ab at h;cases e1:f ρ with
 |none=>rw[e1] at h;cases h
 |some d=>
  cases e2:fs ρ with
  |none=>rw[e1,e2] at h;cases h
  |some r=>rw[e1,e2] at h;cases h;exact⟨d,r,rfl,rfl,rfl⟩
theorem aq:DA X c [] ah:=λhid ρ=>PA.imp dL λσ H Q ⟨sr,d,hd,q⟩=>by cases hd;exact q [] H (Same.refl _) .nil
theorem af(ha:DP X c .s e f)(hr:DA X c es fs)(hs:ID (e::es) X.env=(false,eval e X.env)::ID es X.env:=by rfl):DA X c (e::es) (ab f fs):=λhid ρ=>
 PA.imp (bS (ha hid ρ) (hr hid ρ) hs) λσ H Q hq_=>by
  obtain⟨sr,d,hd,q⟩:=hq_
  obtain⟨d1,r,e1,e2,rfl⟩:=nQ hd
  exact⟨sr,d1,e1,λv H1 s1 r1=>⟨sr.ext s1,r,e2,λvs H2 s2 r2=>q _ H2 (s1.trans s2) (.cons (Rep.mono (aH s2) r1) r2)⟩⟩
def dr(fs:FA):FE:=λρ=>(fs ρ).bind λds=>if ds.length<=IM then some (.tup ds) else none
def di(fs:FA):FE:=λρ=>(fs ρ).bind λds=>if ds.length<=IM then some (.lst ds) else none
theorem wM {ρ:az}{d:D}(h:dr fs ρ=some d): ∃ds,fs ρ=some ds/\ds.length<=IM/\d=.tup ds:=by
 unfold dr at h;cases e1:fs ρ with
 |none=>rw[e1] at h;cases h
 |some ds=>
  rw[e1] at h;have h':(if ds.length<=IM then some (D.tup ds) else none)=some d:=h
  split at h'
  ·cases h';exact⟨ds,rfl, ‹_›,rfl⟩
  ·cases h'
theorem wJ {ρ:az}{d:D}(h:di fs ρ=some d): ∃ds,fs ρ=some ds/\ds.length<=IM/\d=.lst ds:=by
 unfold di at h;cases e1:fs ρ with
 |none=>rw[e1] at h;cases h
 |some ds=>
  rw[e1] at h;have h':(if ds.length<=IM then some (D.lst ds) else none)=some d:=h
  split at h'
  ·cases h';exact⟨ds,rfl, ‹_›,rfl⟩
  ·cases h'
theorem aO {H:Hp}{p:Addr}(h:H p=none)(o:HO):Same H (bp H p o):=λb u q=>by rw[aA (aX q h)];exact q
theorem nS {K:Iz}{H:Hp}{hid:bq}{p:Addr}{xs:List V}{ds:List D}(hn:H p=none)(hf:hid p=false)(r:Reps K (vw H hid) xs ds):Rep K (vw (bp H p (.tup xs)) hid) (.ref p) (.tup ds):=
 .tup (SqT.of (vw_some.mpr ⟨hf,aC⟩)) (r.mono (aH (aO hn _)))
theorem gd {K:Iz}{H H0:Hp}{hid:bq}{p:Addr}{xs:List V}{ds:List D}(hn:H p=none)(s:Same H0 H)(r:Reps K (vw H hid) xs ds):RN K H0 (bp H p (.lst xs)) hid (.ref p) (.lst ds):=
 ⟨p,xs,ds,rfl,rfl,s.free hn,aC,by rw[uX hn];exact r⟩
theorem g8 {x1}(h:DA X c es fs):DP X c .s (.Tuple es x1 pos) (dr fs):=λhid ρ=>PE.imp (D7 (h hid ρ)) λσ H Q hq_=>by
 obtain⟨sr,d,hd,q⟩:=hq_
 obtain⟨ds,e1,hz,rfl⟩:=wM hd
 exact⟨sr,ds,e1,λvs H1 s1 r1=>⟨by rw[r1.length];exact hz,λp hp=>q _ _ (s1.trans (aO hp _)) (nS hp ((sr.ext s1).fresh hp) r1)⟩⟩
theorem ga(h:DA X c es fs):DP X c .n (.List es pos) (di fs):=λhid ρ=>PE.imp (EE (h hid ρ)) λσ H Q hq_=>by
 obtain⟨sr,d,hd,q⟩:=hq_
 obtain⟨ds,e1,hz,rfl⟩:=wJ hd
 exact⟨sr,ds,e1,λvs H1 s1 r1=>⟨by rw[r1.length];exact hz,λp hp=>q _ _ (s1.trans (aO hp _)) (gd hp s1 r1)⟩⟩
abbrev Reps1(K:Iz)(H W:Hp):List V->List D->Prop:=NA (Rep1 K H W)
def HQ(K:Iz)(c:Ct)(hid:bq)(f:FA)(ρ:az):TA:=λσ H Q=>SR K c hid ρ σ H/\ ∃d,f ρ=some d/\ ∀vs H',Same H H'->Reps1 K H' (vw H' hid) vs d->Q vs H'
def DB(X:Cx)(c:Ct)(es:List Expr)(f:FA):Prop:= ∀hid ρ,PA X es (HQ X.K c hid f ρ)
theorem br:DB X c [] ah:=λhid ρ=>PA.imp dL λσ H Q ⟨sr,d,hd,q⟩=>by cases hd;exact q [] H (Same.refl _) .nil
theorem ba(ha:DP X c k e f)(hr:DB X c es fs)(hs:ID (e::es) X.env=(false,eval e X.env)::ID es X.env:=by rfl):DB X c (e::es) (ab f fs):=λhid ρ=>
 PA.imp (bS (ha hid ρ) (hr hid ρ) hs) λσ H Q hq_=>by
  obtain⟨sr,d,hd,q⟩:=hq_
  obtain⟨d1,r,e1,e2,rfl⟩:=nQ hd
  exact⟨sr,d1,e1,λv H1 s1 r1=>⟨sr.ext s1,r,e2,λvs H2 s2 r2=>q _ H2 (s1.trans s2) (.cons ((RK.b k r1 λa n=>sr.fresh n).ext s2) r2)⟩⟩
def fU(K:Iz)(k:Kd)(r:List V->Hp->VK->Prop)(F:List D->Option D):Prop:= ∀(H:Hp) (hid:bq) (vs:List V) (ds:List D) (d:D) (Q:VK),(∀a,H a=none->hid a=false)->F ds=some d->Reps1 K H (vw H hid) vs ds->
 (∀w H',Same H H'->RK K k H H' hid w d->Q w H')->r vs H Q
def ak(F:List D->Option D)(fs:FA):FE:=λρ=>(fs ρ).bind F
theorem mM {F:List D->Option D}{ρ:az}{d:D}(h:ak F fs ρ=some d): ∃ds,fs ρ=some ds/\F ds=some d:=by
 unfold ak at h;cases e1:fs ρ with
 |none=>rw[e1] at h;cases h
 |some ds=>rw[e1] at h;exact⟨ds,rfl,h⟩
theorem FN {r:List V->Hp->VK->Prop}{F:List D->Option D}{hid:bq}{ρ:az}(hF:fU X.K k r F){σ:St}{H:Hp}{Q:VK}(h:Fg X.K c hid k (ak F fs) ρ σ H Q):FW r (HQ X.K c hid fs ρ) σ H Q:=by
 obtain⟨sr,d,hd,q⟩:=h
 obtain⟨ds,e1,e2⟩:=mM hd
 exact⟨sr,ds,e1,λvs H1 s1 r1=>hF H1 hid vs ds d Q (λa n=>(sr.ext s1).fresh n) e2 r1 λw H' s2 r2=>q w H' (s1.trans s2) (RK.left s1 r2)⟩
variable {x:Str}{p:Pos}{id T:String}{r:List V->Hp->VK->Prop}{F:List D->Option D}
theorem bo(hc:cK X (.builtin id) r)(hF:fU X.K k r F)(hm:X.mg x=none)(ha:DB X c (e::es) fs)(hg:Gl X x:=by rfl)(hv:J9 x=some (.builtin id):=by first|exact PySem.boot_len|rfl|kernel_rfl)(hn:x≠"__name__":=by decide)(hdb:(x==("__debug__":Str))=false:=by decide)
 (he:ID (e::es) X.env=(false,eval e X.env)::ID es X.env:=by rfl) (hpl:(KQ pos (ID es X.env)).any (·.1)=false:=by rfl):DP X c k (.Call (.Name x p) (e::es) [] pos) (ak F fs):=λhid ρ=>
 PE.imp (j7 hc hg hm hv (ha hid ρ) hn hdb he hpl) λσ H Q h=>FN hF h
theorem dW(hc:cK X (.type T) r)(hF:fU X.K k r F)(hm:X.mg x=none)(ha:DB X c (e::es) fs)(hg:Gl X x:=by rfl)(hv:J9 x=some (.type T):=by first|rfl|kernel_rfl)(hn:x≠"__name__":=by decide)(hdb:(x==("__debug__":Str))=false:=by decide)
 (he:ID (e::es) X.env=(false,eval e X.env)::ID es X.env:=by rfl) (hpl:(KQ pos (ID es X.env)).any (·.1)=false:=by rfl):DP X c k (.Call (.Name x p) (e::es) [] pos) (ak F fs):=λhid ρ=>
 PE.imp (dU hc hg hm hv (ha hid ρ) hn hdb he hpl) λσ H Q h=>FN hF h
end
section
variable {K:Iz}
theorem Reps1.one {H W:Hp}{v:List V}{d:D}(r:Reps1 K H W v [d]): ∃x,v=[x]/\Rep1 K H W x d:=by
 cases r with
 |cons r t=>cases t;exact⟨_,rfl,r⟩
theorem Reps1.two {H W:Hp}{v:List V}{d d':D}(r:Reps1 K H W v [d,d']): ∃x y,v=[x,y]/\Rep1 K H W x d/\Rep1 K H W y d':=by
 cases r with
 |cons r t=>cases t with
  |cons r' t=>cases t;exact⟨_,_,rfl,r,r'⟩
def cE:List D->Option D
 | [.lst ds]=>some (.int ds.length)
 | [.tup ds]=>some (.int ds.length)
 | [.scr ds]=>some (.int ds.length)
 |_=>none
theorem gY:fU K .s (λxs H Q=> ∃p ys,xs=[.ref p]/\(SqL K H p ys\/SqT K H p ys)/\Q (.int ys.length) H) cE:=by
 intro H hid vs ds d Q hf h r q;unfold cE at h;split at h
 ·cases h
  obtain⟨x,rfl,r1⟩:=Reps1.one r
  obtain⟨a,xs,rfl,h1,h2⟩:=r1.lst
  exact⟨a,xs,rfl,.inl h1,by rw[h2.length];exact q _ H (Same.refl _) .int⟩
 ·cases h
  obtain⟨x,rfl,r1⟩:=Reps1.one r
  obtain⟨a,xs,rfl,_,h1,h2⟩:=r1.tup
  exact⟨a,xs,rfl,.inr h1,by rw[h2.length];exact q _ H (Same.refl _) .int⟩
 ·cases h
  obtain⟨x,rfl,r1⟩:=Reps1.one r
  obtain⟨a,xs,rfl,h1,h2⟩:=r1.scr
  exact⟨a,xs,rfl,.inl h1,by rw[h2.length];exact q _ H (Same.refl _) .int⟩
 ·cases h
def sM:List D->Option D
 | [.int i]=>some (.int (if i<0 then -i else i))
 |_=>none
theorem Eu:fU K .s (λxs H Q=> ∃i,xs=[.int i]/\Q (.int (if i<0 then -i else i)) H) sM:=by
 intro H hid vs ds d Q hf h r q;unfold sM at h;split at h
 ·cases h
  obtain⟨x,rfl,r1⟩:=Reps1.one r
  cases r1.int
  exact⟨_,rfl,q _ H (Same.refl _) .int⟩
 ·cases h
def nH:List D->Option D
 | [.int i,.int j]=>some (.int (if j<i then j else i))
 |_=>none
theorem CH:fU K .s (λxs H Q=> ∃i j,xs=[.int i,.int j]/\Q (.int (if j<i then j else i)) H) nH:=by
 intro H hid vs ds d Q hf h r q;unfold nH at h;split at h
 ·cases h
  obtain⟨x,y,rfl,r1,r2⟩:=Reps1.two r
  cases r1.int;cases r2.int
  exact⟨_,_,rfl,q _ H (Same.refl _) .int⟩
 ·cases h
def j5:List D->Option D
 | [.lst ds]=>some (.lst ds)
 | [.tup ds]=>some (.lst ds)
 |_=>none
theorem mi:fU K .n (λxs H Q=> ∃p ys,xs=[.ref p]/\(SqL K H p ys\/SqT K H p ys)/\ ∀l,H l=none->Q (.ref l) (bp H l (.lst ys))) j5:=by
 intro H hid vs ds d Q hf h r q;unfold j5 at h;split at h
 ·cases h
  obtain⟨x,rfl,r1⟩:=Reps1.one r
  obtain⟨a,xs,rfl,h1,h2⟩:=r1.lst
  exact⟨a,xs,rfl,.inl h1,λl hl=>q _ _ (aO hl _) (gd hl (Same.refl _) h2)⟩
 ·cases h
  obtain⟨x,rfl,r1⟩:=Reps1.one r
  obtain⟨a,xs,rfl,_,h1,h2⟩:=r1.tup
  exact⟨a,xs,rfl,.inr h1,λl hl=>q _ _ (aO hl _) (gd hl (Same.refl _) h2)⟩
 ·cases h
def dz:List D->Option D
 | [.lst ds]=>some (.tup ds)
 | [.tup ds]=>some (.tup ds)
 |_=>none
theorem jZ:fU K .s (λxs H Q=> ∃p ys,xs=[.ref p]/\((SqL K H p ys/\ ∀l,H l=none->Q (.ref l) (bp H l (.tup ys)))\/(SqT K H p ys/\Q (.ref p) H))) dz:=by
 intro H hid vs ds d Q hf h r q;unfold dz at h;split at h
 ·cases h
  obtain⟨x,rfl,r1⟩:=Reps1.one r
  obtain⟨a,xs,rfl,h1,h2⟩:=r1.lst
  exact⟨a,xs,rfl,.inl ⟨h1,λl hl=>q _ _ (aO hl _) (nS hl (hf l hl) h2)⟩⟩
 ·cases h
  obtain⟨x,rfl,r1⟩:=Reps1.one r
  obtain⟨a,xs,rfl,h0,h1,h2⟩:=r1.tup
  exact⟨a,xs,rfl,.inr ⟨h1,q _ H (Same.refl _) (.tup h0 h2)⟩⟩
 ·cases h
def bd:D->D->Option D
 | .lst ds,.int i=>qU ds i
 | .tup ds,.int i=>qU ds i
 | .scr ds,.int i=>qU ds i
 |_,_=>none
theorem qb {F:Hp}{xs:List V}{ds:List D}{i:Int}{d:D}(r:Reps K F xs ds)(h:qU ds i=some d): ∃x,qU xs i=some x/\Rep K F x d:=by
 unfold qU at h⊢;rw[r.length];cases e:tS ds.length i with
 |none=>rw[e] at h;cases h
 |some j=>
  rw[e] at h;obtain⟨x,h1,h2⟩:=r.get (i:=j) h
  exact⟨x,h1,h2⟩
theorem bf:oe K .s (HS K) bd:=by
 intro H hid v u x y d Q hf h r1 r2 q;unfold bd at h;split at h
 ·cases r2.int
  obtain⟨a,xs,rfl,h1,h2⟩:=r1.lst
  obtain⟨z,h3,h4⟩:=qb h2 h
  exact .inl ⟨a,xs,_,z,rfl,rfl,h1,h3,q _ H (Same.refl _) h4⟩
 ·cases r2.int
  obtain⟨a,xs,rfl,_,h1,h2⟩:=r1.tup
  obtain⟨z,h3,h4⟩:=qb h2 h
  exact .inr (.inl ⟨a,xs,_,z,rfl,rfl,h1,h3,q _ H (Same.refl _) h4⟩)
 ·cases r2.int
  obtain⟨a,xs,rfl,h1,h2⟩:=r1.scr
  obtain⟨z,h3,h4⟩:=qb h2 h
  exact .inl ⟨a,xs,_,z,rfl,rfl,h1,h3,q _ H (Same.refl _) h4⟩
 ·cases h
end
abbrev GE:=az->Option (D×az)
abbrev GA:=az->Option (List D×az)
def Kept(hid:bq)(H H':Hp):Prop:= ∀b o,H b=some o->hid b=false->H' b=some o
theorem Kept.of {hid:bq}{H H':Hp}(s:Same H H'):Kept hid H H':=λb o q _=>s b o q
theorem Kept.trans {hid:bq}{H H1 H2:Hp}(a:Kept hid H H1)(b:Kept hid H1 H2):Kept hid H H2:=λc o q h=>b c o (a c o q h) h
theorem Kept.vw {hid:bq}{H H':Hp}(a:Kept hid H H'):Same (vw H hid) (vw H' hid):=vG a
def PostE(K:Iz)(c:Ct)(hid:bq)(k:Kd)(ρ':az)(σ:St)(H H':Hp)(v:V)(d:D):Prop:=Kept hid H H'/\match k with
 | .n=> ∃a xs ds,d=.lst ds/\v=.ref a/\H a=none/\H' a=some (.lst xs)/\c.H₀ a=none/\hid a=false/\SR K c (bF hid a) ρ' σ H'/\Reps K (vw H' (bF hid a)) xs ds/\ ∀i:Nat,Ow ρ'[i]? ->σ[i]? ≠some (some (.ref a))
 |_=>SR K c hid ρ' σ H'/\Rep K (vw H' hid) v d
def Gc(K:Iz)(c:Ct)(hid:bq)(k:Kd)(f:GE)(ρ:az):TE:=λσ H Q=>SR K c hid ρ σ H/\ ∃d ρ',f ρ=some (d,ρ')/\ ∀v H',PostE K c hid k ρ' σ H H' v d->Q v H'
def DE(X:Cx)(c:Ct)(k:Kd)(e:Expr)(f:GE):Prop:= ∀hid ρ,PE X e (Gc X.K c hid k f ρ)
def pu(f:FE):GE:=λρ=>(f ρ).map λd=>(d,ρ)
theorem Bh {f:FE}{ρ ρ':az}{d:D}(h:pu f ρ=some (d,ρ')):f ρ=some d/\ρ'=ρ:=by
 unfold pu at h;cases e:f ρ with
 |none=>rw[e] at h;cases h
 |some x=>rw[e] at h;cases h;exact⟨rfl,rfl⟩
section
variable {K:Iz}{c:Ct}{hid hid':bq}{ρ:az}{σ:St}{H H':Hp}{i:Nat}{a:Addr}
theorem cF {hid:bq}{a b:Addr}(h:hid b=true):bF hid a b=true:=by unfold bF;rw[h];rfl
theorem fj {hid:bq}{a:Addr}:bF hid a a=true:=by unfold bF;simp
theorem SR.hide(h:SR K c hid ρ σ H)(e:Same H H')(n:H a=none){o:HO}(ho:H' a=some o)(hn: ∀xs,o≠ .tup xs:=by intro _ e;cases e):SR K c (bF hid a) ρ σ H':=by
 have sm:Same (vw H hid) (vw H' (bF hid a)):=λb o q=>by
  obtain⟨q1,q2⟩:=vw_some.mp q
  refine vw_some.mpr ⟨?_,e _ _ q2⟩
  unfold bF;rw[q1];have:b≠a:=aX q2 n
  simp[this]
 refine⟨λb hb=>?_,λb xs hb q=>by
  by_cases eb:b=a
  ·subst eb;rw[ho] at q;exact hn _ (Jv q)
  ·unfold bF at hb
   exact(h.ext e).ht b xs (by simpa [eb] using hb) q,λb q=>cF (h.h0 b q),(h.ext e).kp,(h.ext e).t0,h.c0,h.m0,h.len,λi s q=>?_,h.ap⟩
 ·by_cases eb:b=a
  ·subst eb;exact⟨_,ho⟩
  ·unfold bF at hb
   have:hid b=true:=by simpa [eb] using hb
   obtain⟨o',q⟩:=h.tr b this
   exact⟨o',e _ _ q⟩
 ·have z:=h.sl i s q
  cases s with
  |no=>trivial
  |v d=>obtain⟨x,h1,h2⟩:=z;exact⟨x,h1,h2.mono sm⟩
  |own ds=>obtain⟨a',xs,h1,h2,h3,h4,h5⟩:=z;exact⟨a',xs,h1,e _ _ h2,cF h3,h4,h5.mono sm⟩
  |arg ds=>obtain⟨a',xs,h1,h2,h3,h4,h5⟩:=z;exact⟨a',xs,h1,e _ _ h2,cF h3,h4,h5.mono sm⟩
  |ob b=>obtain⟨a',h1,h2⟩:=z;exact⟨a',h1,h2.mono (λ_=>e a') sm λ_=>cF⟩
theorem SR.show(h:SR K c (bF hid a) ρ σ H)(h0: ∀b,c.hid₀ b=true->hid b=true)(no: ∀i:Nat,Ow ρ[i]? ->σ[i]? ≠some (some (.ref a))):SR K c hid ρ σ H:=by
 have sm:Same (vw H (bF hid a)) (vw H hid):=eW λb q=>cF q
 have un: ∀b,b≠a->bF hid a b=true->hid b=true:=λb nb hb=>by unfold bF at hb;simpa [nb] using hb
 refine⟨λb hb=>h.tr b (cF hb),λb xs hb=>h.ht b xs (cF hb),h0,h.kp,h.t0,h.c0,h.m0,h.len,λi s q=>?_,h.ap⟩
 have z:=h.sl i s q
 cases s with
 |no=>trivial
 |v d=>obtain⟨x,h1,h2⟩:=z;exact⟨x,h1,h2.mono sm⟩
 |own ds=>
  obtain⟨a',xs,h1,h2,h3,h4,h5⟩:=z
  have:a'≠a:=λe=>by subst e;exact no i (by rw[q];trivial) h1
  exact⟨a',xs,h1,h2,un a' this h3,h4,h5.mono sm⟩
 |arg ds=>
  obtain⟨a',xs,h1,h2,h3,h4,h5⟩:=z
  have:a'≠a:=λe=>by subst e;exact no i (by rw[q];trivial) h1
  exact⟨a',xs,h1,h2,un a' this h3,h4,h5.mono sm⟩
 |ob b=>
  obtain⟨a',h1,h2⟩:=z
  exact⟨a',h1,h2.mono (λ_ _ q=>q) sm λow=>un a' λe=>by subst e;exact no i (by rw[q];exact ow) h1⟩
theorem SR.notOw(h:SR K c hid ρ σ H)(n:hid a=false)(i:Nat)(o:Ow ρ[i]?):σ[i]? ≠some (some (.ref a)):=λe=>by
 cases q:ρ[i]? with
 |none=>rw[q] at o;exact o
 |some s=>
  rw[q] at o;have z:=h.sl i s q
  cases s with
  |no=>exact o
  |v d=>exact o
  |own ds=>obtain⟨a',xs,h1,h2,h3,_⟩:=z;rw[e] at h1;cases h1;rw[n] at h3;cases h3
  |arg ds=>obtain⟨a',xs,h1,h2,h3,_⟩:=z;rw[e] at h1;cases h1;rw[n] at h3;cases h3
  |ob b=>obtain⟨a',h1,h2⟩:=z;rw[e] at h1;cases h1;have:=h2.hid o;rw[n] at this;cases this
theorem SR.post {k:Kd}{v:V}{d:D}(h:SR K c hid ρ σ H)(e:Same H H')(r:RK K k H H' hid v d)(hk:k≠ .b):PostE K c hid k ρ σ H H' v d:=by
 cases k with
 |b=>exact absurd rfl hk
 |s=>exact⟨.of e,h.ext e,r⟩
 |n=>
  obtain⟨a,xs,ds,h1,h2,h3,h4,h5⟩:=r
  exact⟨.of e,a,xs,ds,h1,h2,h3,h4,h.fresh0 h3,h.fresh h3,h.hide e h3 h4,h5,h.notOw (h.fresh h3)⟩
theorem PostE.left {k:Kd}{ρ':az}{H1:Hp}{v:V}{d:D}(s:Kept hid H H1)(p:PostE K c hid k ρ' σ H1 H' v d):PostE K c hid k ρ' σ H H' v d:=by
 cases k with
 |b=>exact⟨s.trans p.1,p.2⟩
 |s=>exact⟨s.trans p.1,p.2⟩
 |n=>
  obtain⟨kp,a,xs,ds,h1,h2,hn,h3,h4,h5,h6⟩:=p
  refine⟨s.trans kp,a,xs,ds,h1,h2,?_,h3,h4,h5,h6⟩
  cases e:H a with
  |none=>rfl
  |some o=>rw[s a o e h5] at hn;cases hn
theorem PostE.toS {ρ':az}{v:V}{d:D}(h0: ∀b,c.hid₀ b=true->hid b=true)(p:PostE K c hid .n ρ' σ H H' v d):PostE K c hid .s ρ' σ H H' v d:=by
 obtain⟨kp,a,xs,ds,rfl,rfl,hn,h1,h2,h3,h4,h5,h6⟩:=p
 exact⟨kp,h4.show h0 h6,.lst (vw_some.mpr ⟨h3,h1⟩) (h5.mono (eW λb q=>cF q))⟩
end
section
variable {X:Cx}{c:Ct}{e a b:Expr}{es rest:List Expr}{f g:GE}{k:Kd}{pos:Pos}
theorem DP.ef {f:FE}(h:DP X c k e f)(hk:k≠ .b:=by decide):DE X c k e (pu f):=λhid ρ=>PE.imp (h hid ρ) λσ H Q hq_=>by
 obtain⟨sr,d,ρ',hd,q⟩:=hq_
 obtain⟨h1,rfl⟩:=Bh hd
 exact⟨sr,d,h1,λv H' s r=>q v H' (sr.post s r hk)⟩
theorem DE.toS(h:DE X c .n e f):DE X c .s e f:=λhid ρ=>PE.imp (h hid ρ) λσ H Q ⟨sr,d,ρ',hd,q⟩=>⟨sr,d,ρ',hd,λv H' p=>q v H' (p.toS sr.h0)⟩
def bE {α:Type}(f:GE)(g:D->az->Option α):az->Option α:=λρ=>(f ρ).bind λp=>g p.1 p.2
theorem pO {α:Type}{g:D->az->Option α}{ρ:az}{z:α}(h:bE f g ρ=some z): ∃d ρ',f ρ=some (d,ρ')/\g d ρ'=some z:=by
 unfold bE at h;cases e:f ρ with
 |none=>rw[e] at h;cases h
 |some p=>rw[e] at h;exact⟨p.1,p.2,rfl,h⟩
def ij(F:D->D->Option D)(f g:GE):GE:=bE f λx=>bE g λy ρ=>(F x y).map λd=>(d,ρ)
theorem xf {F:D->D->Option D}{ρ ρ':az}{d:D}(h:ij F f g ρ=some (d,ρ')): ∃x ρ1 y,f ρ=some (x,ρ1)/\g ρ1=some (y,ρ')/\F x y=some d:=by
 obtain⟨x,ρ1,h1,h2⟩:=pO h
 obtain⟨y,ρ2,h3,h4⟩:=pO h2
 cases e:F x y with
 |none=>rw[e] at h4;cases h4
 |some z=>rw[e] at h4;cases h4;exact⟨x,ρ1,y,h1,h3,e⟩
theorem D2 {r:R2}{F:D->D->Option D}{hid:bq}{ρ:az}(hF:oe X.K k r F)(hk:k≠ .b){σ:St}{H:Hp}{Q:VK}(h:Gc X.K c hid k (ij F f g) ρ σ H Q):Fe r (Gc X.K c hid .s f ρ) (λσ H Q=> ∃ρ1,Gc X.K c hid .s g ρ1 σ H Q) σ H Q:=by
 obtain⟨sr,d,ρ',hd,q⟩:=h
 obtain⟨x,ρ1,y,e1,e2,e3⟩:=xf hd
 refine⟨sr,x,ρ1,e1,λv H1 ⟨k1,s1,r1⟩=>⟨ρ1,s1,y,ρ',e2,λu H2 ⟨k2,s2,r2⟩=>?_⟩⟩
 exact hF H2 hid v u x y d Q (λa n=>s2.fresh n) e3 (.inl (r1.mono k2.vw)) (.inl r2) λw H' s3 r3=>q w H' (PostE.left (k1.trans k2) (s2.post s3 r3 hk))
theorem lg {α:Type}{t:α->TE}(h: ∀z,PE X e (t z)):PE X e (λσ H Q=> ∃z,t z σ H Q):=λaa s σ H Q I ⟨z,q⟩=>h z aa s σ H Q I q
theorem Fk {op:Wa}{r:R2}{F:D->D->Option D}(ho:km X (Mj op) r)(hF:oe X.K k r F)(ha:DE X c .s a f)(hb:DE X c .s b g)(hk:k≠ .b:=by decide):DE X c k (.BinOp a op b pos) (ij F f g):=λhid ρ=>
 PE.imp (x8 ho (ha hid ρ) (lg λρ1=>hb hid ρ1)) λσ H Q h=>D2 hF hk h
def HU(K:Iz)(c:Ct)(hid:bq)(f:GA)(ρ:az):TA:=λσ H Q=>SR K c hid ρ σ H/\ ∃d ρ',f ρ=some (d,ρ')/\ ∀vs H',Kept hid H H'->SR K c hid ρ' σ H'->Reps K (vw H' hid) vs d->Q vs H'
def DG(X:Cx)(c:Ct)(es:List Expr)(f:GA):Prop:= ∀hid ρ,PA X es (HU X.K c hid f ρ)
def bT(f:FA):GA:=λρ=>(f ρ).map λd=>(d,ρ)
theorem sH {f:FA}{ρ ρ':az}{d:List D}(h:bT f ρ=some (d,ρ')):f ρ=some d/\ρ'=ρ:=by
 unfold bT at h;cases e:f ρ with
 |none=>rw[e] at h;cases h
 |some x=>rw[e] at h;cases h;exact⟨rfl,rfl⟩
theorem DA.gf {f:FA}(h:DA X c es f):DG X c es (bT f):=λhid ρ=>PA.imp (h hid ρ) λσ H Q hq_=>by
 obtain⟨sr,d,ρ',hd,q⟩:=hq_
 obtain⟨h1,rfl⟩:=sH hd
 exact⟨sr,d,h1,λv H' s r=>q v H' (.of s) (sr.ext s) r⟩
def cq(f:GE)(fs:GA):GA:=bE f λd ρ=>(fs ρ).map λp=>(d::p.1,p.2)
theorem Hf {α:Type}{t:α->TA}(h: ∀z,PA X es (t z)):PA X es (λσ H Q=> ∃z,t z σ H Q):=λp aa s σ H Q I ⟨z,q⟩=>h z p aa s σ H Q I q
theorem hW {fs:GA}(ha:DE X c .s e f)(hr:DG X c es fs)(hs:ID (e::es) X.env=(false,eval e X.env)::ID es X.env:=by rfl):DG X c (e::es) (cq f fs):=λhid ρ=>
 PA.imp (bS (ha hid ρ) (Hf λρ1=>hr hid ρ1) hs) λσ H Q hq_=>by
  obtain⟨sr,d,ρ',hd,q⟩:=hq_
  obtain⟨d1,ρ1,e1,h2⟩:=pO hd
  cases e2:fs ρ1 with
  |none=>rw[e2] at h2;cases h2
  |some p=>
   rw[e2] at h2;obtain⟨ds,ρ2⟩:=p
   cases h2
   exact⟨sr,d1,ρ1,e1,λv H1 ⟨k1,s1,r1⟩=>⟨ρ1,s1,ds,_,e2,λvs H2 k2 s2 r2=>q _ H2 (k1.trans k2) s2 (.cons (r1.mono k2.vw) r2)⟩⟩
end
def eS(K:Iz)(k:Kd)(n:Nat)(P:List D->Option D):Sp:=λvs H Q _=> ∃hid ds,GC hid H/\Reps K (vw H hid) vs ds/\ds.length=n/\ ∃d,P ds=some d/\ ∀v H',Same H H'->RK K k H H' hid v d->Q v H'
def FQ(K:Iz)(k:Kd)(hid:bq)(H H':Hp)(v:V)(d:D)(xs':List V)(bs':List D):Prop:=match k with
 | .n=> ∃p ys es,d=.lst es/\v=.ref p/\H p=none/\H' p=some (.lst ys)/\Reps K (vw H' (bF hid p)) ys es/\Reps K (vw H' (bF hid p)) xs' bs'
 |_=>Rep K (vw H' hid) v d/\Reps K (vw H' hid) xs' bs'
def rK(K:Iz)(k:Kd)(n:Nat)(M:List D->List D->Option (D×List D)):Sp:=λvs H Q _=> ∃hid a xs bs us ds,vs=.ref a::us/\GC hid H/\hid a=true/\H a=some (.lst xs)/\Reps K (vw H hid) xs bs/\
 Reps K (vw H hid) us ds/\ds.length=n/\ ∃d bs',M bs ds=some (d,bs')/\ ∀v H' xs',(∀b o,H b=some o->b≠a->H' b=some o)->H' a=some (.lst xs')->FQ K k hid H H' v d xs' bs'->Q v H'
section
variable {X:Cx}{c:Ct}{e a b:Expr}{es rest:List Expr}{k:Kd}{pos p:Pos}{x:Str}{f:Addr}{fd:LM}{ps:List Str}{j n:Nat}
theorem B0 {P:List D->Option D}{fs:FA}(F:FnOk X.prog X.w X.K X.mg X.base qY j f fd ps (eS X.K k n P))(hr:Room j X.A)(hm:X.mg x=some (.ref f))(hk:Ki X.K (.ref f)=true)(hb:Binds X.K fd ps [])
 (ha:DA X c (e::es) fs) (hg:Gl X x:=by rfl) (hdb:(x==("__debug__":Str))=false:=by decide) (he:ID (e::es) X.env=(false,eval e X.env)::ID es X.env:=by rfl) (hpl:(KQ pos (ID es X.env)).any (·.1)=false:=by rfl):
 DP X c k (.Call (.Name x p) (e::es) [] pos) (ak (λds=>if ds.length=n then P ds else none) fs):=λhid ρ=>
 PE.imp (qv F hr hg hm hk hb .nil (yw (X:=X)) (ha hid ρ) hdb he hpl) λσ H Q hq_=>by
  obtain⟨sr,d,hd,q⟩:=hq_
  obtain⟨ds,e1,e2⟩:=mM hd
  have e2':(if ds.length=n then P ds else none)=some d:=e2
  split at e2'
  ·refine⟨sr,ds,e1,λvs H1 s1 r1=>?_⟩
   show eS X.K k n P (vs++[]) H1 Q E0;rw[KD];exact⟨hid,ds,(sr.ext s1).trk,r1, ‹_›,d,e2',λv H' s2 r2=>q v H' (s1.trans s2) (RK.left s1 r2)⟩
  ·cases e2'
def fF(i:Nat)(bs:List D)(ρ:az):az:=match ρ[i]? with
 |some (.own _)=>ρ.set i (.own bs)
 |some (.arg _)=>ρ.set i (.arg bs)
 |_=>ρ
def gc(i:Nat)(ρ:az):Option (List D):=match ρ[i]? with
 |some (.own ds)=>some ds
 |some (.arg ds)=>some ds
 |_=>none
theorem gG {i:Nat}{ρ:az}{bs:List D}(h:gc i ρ=some bs):ρ[i]? =some (.own bs)\/ρ[i]? =some (.arg bs):=by
 unfold gc at h;split at h
 ·cases h;exact .inl ‹_›
 ·cases h;exact .inr ‹_›
 ·cases h
theorem SR.held {K:Iz}{hid:bq}{ρ:az}{σ:St}{H:Hp}{i:Nat}{bs:List D}(h:SR K c hid ρ σ H)(hg:gc i ρ=some bs): ∃a xs,σ[i]? =some (some (.ref a))/\H a=some (.lst xs)/\hid a=true/\Reps K (vw H hid) xs bs/\(c.mu a=true\/c.H₀ a=none):=by
 rcases gG hg with e|e
 ·obtain⟨a,xs,h1,h2,h3,h4,h5⟩:=h.sl i _ e
  exact⟨a,xs,h1,h2,h3,h5,.inr h4⟩
 ·obtain⟨a,xs,h1,h2,h3,h4,h5⟩:=h.sl i _ e
  exact⟨a,xs,h1,h2,h3,h5,.inl h4⟩
theorem jo {i j:Nat}{ρ:az}{bs:List D}(h:j≠i):(fF i bs ρ)[j]? =ρ[j]? :=by
 unfold fF;split
 ·rw[IG (JW h)]
 ·rw[IG (JW h)]
 ·rfl
theorem zQ {i:Nat}{ρ:az}{bs:List D}:(fF i bs ρ).length=ρ.length:=by
 unfold fF;split
 ·simp
 ·simp
 ·rfl
theorem qk {i j:Nat}{ρ:az}{bs:List D}(h:Ow (fF i bs ρ)[j]?):Ow ρ[j]? :=by
 by_cases e:j=i
 ·subst e
  unfold fF at h;split at h
  ·rw[‹ρ[j]? =_›];trivial
  ·rw[‹ρ[j]? =_›];trivial
  ·exact h
 ·rw[jo e] at h;exact h
theorem SR.put {K:Iz}{hid:bq}{ρ:az}{σ:St}{H H':Hp}{i:Nat}{bs bs':List D}{a:Addr}{xs':List V}(h:SR K c hid ρ σ H)(hg:gc i ρ=some bs)(ha:σ[i]? =some (some (.ref a)))(kp: ∀b o,H b=some o->b≠a->H' b=some o)
 (hx:H' a=some (.lst xs')) (r:Reps K (vw H' hid) xs' bs'):SR K c hid (fF i bs' ρ) σ H':=by
 obtain⟨a1,xs,h1,h2,h3,h4,h5⟩:=h.held hg
 rw[ha] at h1;cases h1;have sm:Same (vw H hid) (vw H' hid):=vG λb o q hb=>kp b o q (λe=>by subst e;rw[h3] at hb;cases hb)
 have tr': ∀b o,H b=some o-> ∃o',H' b=some o':=λb o q=>by
  by_cases e:b=a
  ·subst e;exact⟨_,hx⟩
  ·exact⟨o,kp b o q e⟩
 refine⟨λb hb=>let⟨o,q⟩:=h.tr b hb;tr' b o q,λb xs hb q=>by
  by_cases e:b=a
  ·subst e;rw[hx] at q;cases q
  ·obtain⟨o,w⟩:=h.tr b hb
   have z:=kp b o w e
   rw[q] at z;cases z;exact h.ht b xs hb w,h.h0,λb o q m=>?_,λb o q=>let⟨o',q'⟩:=h.t0 b o q;tr' b o' q',h.c0,h.m0,by rw[zQ];exact h.len,λj s q=>?_,λj l z n o1 o2=>h.ap j l z n (qk o1) (qk o2)⟩
 ·refine kp b o (h.kp b o q m) λe=>?_
  subst e;rcases h5 with h5|h5
  ·rw[h5] at m;cases m
  ·rw[h5] at q;cases q
 ·by_cases e:j=i
  ·subst e
   rcases gG hg with w|w
   ·have lt:=(IE.mp w).1
    unfold fF at q;rw[w] at q;dsimp only at q;rw[IX lt] at q;cases q
    obtain⟨a2,xs2,g1,g2,g3,g4,g5⟩:=h.sl j _ w
    rw[ha] at g1;cases g1;exact⟨_,xs',ha,hx,g3,g4,r⟩
   ·have lt:=(IE.mp w).1
    unfold fF at q;rw[w] at q;dsimp only at q;rw[IX lt] at q;cases q
    obtain⟨a2,xs2,g1,g2,g3,g4,g5⟩:=h.sl j _ w
    rw[ha] at g1;cases g1;exact⟨_,xs',ha,hx,g3,g4,r⟩
  ·rw[jo e] at q
   have z:=h.sl j s q
   cases s with
   |no=>trivial
   |v d=>obtain⟨x,h1,h2⟩:=z;exact⟨x,h1,h2.mono sm⟩
   |own ds=>
    obtain⟨a',xs,z1,z2,z3,z4,z5⟩:=z
    have ne:a'≠a:=λe'=>by
     subst e';refine h.ap j i a' e (by rw[q];trivial) ?_ z1 ha
     rcases gG hg with w|w<;>rw[w]<;>trivial
    exact⟨a',xs,z1,kp _ _ z2 ne,z3,z4,z5.mono sm⟩
   |arg ds=>
    obtain⟨a',xs,z1,z2,z3,z4,z5⟩:=z
    have ne:a'≠a:=λe'=>by
     subst e';refine h.ap j i a' e (by rw[q];trivial) ?_ z1 ha
     rcases gG hg with w|w<;>rw[w]<;>trivial
    exact⟨a',xs,z1,kp _ _ z2 ne,z3,z4,z5.mono sm⟩
   |ob b=>
    obtain⟨a',z1,z2⟩:=z
    refine⟨a',z1,z2.mono (λow o w=>kp _ _ w λe'=>?_) sm λ_ w=>w⟩
    subst e';refine h.ap j i a' e (by rw[q];exact ow) ?_ z1 ha
    rcases gG hg with w|w<;>rw[w]<;>trivial
def aN(i n:Nat)(M:List D->List D->Option (D×List D))(fs:GA):GE:=λρ=>match gc i ρ with
 |none=>none
 |some _=>match fs ρ with
  |none=>none
  |some (ds,ρ1)=>match gc i ρ1 with
   |none=>none
   |some bs=>if ds.length=n then match M bs ds with
     |none=>none
     |some (d,bs')=>some (d,fF i bs' ρ1) else none
theorem nC {i:Nat}{M:List D->List D->Option (D×List D)}{fs:GA}{ρ ρ':az}{d:D}(h:aN i n M fs ρ=some (d,ρ')): ∃bs0 ds ρ1 bs bs',gc i ρ=some bs0/\fs ρ=some (ds,ρ1)/\gc i ρ1=some bs/\ds.length=n/\M bs ds=some (d,bs')/\ρ'=fF i bs' ρ1:=by
 unfold aN at h;split at h
 ·cases h
 ·split at h
  ·cases h
  ·split at h
   ·cases h
   ·split at h
    ·split at h
     ·cases h
     ·cases h;exact⟨_,_,_,_,_, ‹_›, ‹_›, ‹_›, ‹_›, ‹_›,rfl⟩
    ·cases h
theorem y6(i:Nat){y:Str}{py:Pos}{M:List D->List D->Option (D×List D)}{fs:GA}(F:FnOk X.prog X.w X.K X.mg X.base qY j f fd ps (rK X.K k n M))(hr:Room j X.A)(hm:X.mg x=some (.ref f))(hk:Ki X.K (.ref f)=true)(hb:Binds X.K fd ps [])
 (ha:DG X c es fs) (hkb:k≠ .b:=by decide) (hN:X.N[i]? =some y:=by rfl) (hv:oh X.env.scope y:=by first|exact Kf rfl|exact Jw (Kf rfl)|exact Jw (Jw rfl)) (hd:(y==("__debug__":Str))=false:=by decide)
 (hcd:(y==("__classdict__":Str))=false:=by decide) (hs:ID (.Name y py::es) X.env=(false,eval (.Name y py) X.env)::ID es X.env:=by rfl) (hg:Gl X x:=by rfl) (hdb:(x==("__debug__":Str))=false:=by decide) (hpl:(KQ pos (ID es X.env)).any (·.1)=false:=by rfl):
 DE X c k (.Call (.Name x p) (.Name y py::es) [] pos) (aN i n M fs):=λhid ρ=>
 PE.imp (qv F hr hg hm hk hb .nil (yw (X:=X)) (bS (pv i hN hv hd hcd) (ha hid ρ) hs) hdb hs hpl) λσ H Q hq_=>by
  obtain⟨sr,d,ρ',hd',q⟩:=hq_
  obtain⟨bs0,ds,ρ1,bs,bs',e0,e1,e2,e3,e4,rfl⟩:=nC hd'
  obtain⟨a,xs0,a1,_,a3,_,_⟩:=sr.held e0
  refine⟨.ref a,a1,sr,ds,ρ1,e1,λus H1 k1 s1 r1=>?_⟩
  obtain⟨a',xs,b1,b2,b3,b4,b5⟩:=s1.held e2
  rw[a1] at b1;cases b1;show rK X.K k n M ((.ref a::us)++[]) H1 Q E0;rw[KD];refine⟨hid,a,xs,bs,us,ds,rfl,s1.trk,b3,b2,b4,r1,e3,d,bs',e4,λv H' xs' kp hx hr'=>q v H' ?_⟩
  have kp':Kept hid H1 H':=λb o q hb=>kp b o q λe=>by subst e;rw[b3] at hb;cases hb
  cases k with
  |b=>exact absurd rfl hkb
  |s=>exact⟨k1.trans kp',s1.put e2 a1 kp hx hr'.2,hr'.1⟩
  |n=>
   obtain⟨p',ys,es',rfl,rfl,h1,h2,h3,h4⟩:=hr'
   have np:hid p'=false:=s1.fresh h1
   have na:a≠p':=λe=>by subst e;rw[b2] at h1;cases h1
   have sB:SR X.K c (bF hid p') ρ1 σ (bp H1 p' (.lst ys)):=s1.hide (aO h1 _) h1 aC
   have kp2: ∀b o,(bp H1 p' (.lst ys)) b=some o->b≠a->H' b=some o:=λb o z hb=>by
    by_cases e:b=p'
    ·subst e;rw[aC] at z;cases z;exact h2
    ·rw[aA e] at z;exact kp b o z hb
   have sC:SR X.K c (bF hid p') (fF i bs' ρ1) σ H':=sB.put e2 a1 kp2 hx h4
   have hn:H p'=none:=by
    cases e:H p' with
    |none=>rfl
    |some o=>rw[k1 p' o e np] at h1;cases h1
   refine⟨k1.trans kp',p',ys,es',rfl,rfl,hn,h2,s1.fresh0 h1,np,sC,h3,λm hm hσ=>?_⟩
   have:=s1.notOw np m (qk hm)
   exact this hσ
end
inductive Out where
 |nx (ρ:az)|rt (d:D) (ρ:az)|bk (ρ:az)|ct (ρ:az)|no
abbrev FS:=az->Out
def Ha(c:Ct)(k:Kd)(v:V):bq:=match k,v with
 | .n,.ref a=>bF c.hid₀ a
 |_,_=>c.hid₀
structure Ret(K:Iz)(c:Ct)(k:Kd)(ρ':az)(H':Hp)(v:V)(d:D):Prop where
 kp: ∀b o,c.H₀ b=some o->c.mu b=false->H' b=some o
 val:match k with
  | .n=> ∃a xs ds,d=.lst ds/\v=.ref a/\c.H₀ a=none/\H' a=some (.lst xs)/\Reps K (vw H' (bF c.hid₀ a)) xs ds
  |_=>Rep K (vw H' c.hid₀) v d
 arg: ∀(i:Nat) (bs:List D),ρ'[i]? =some (Sl.arg bs)-> ∃a xs,c.mu a=true/\H' a=some (.lst xs)/\Reps K (vw H' (Ha c k v)) xs bs
def EndOk(K:Iz)(c:Ct)(k:Kd)(D:Ends)(W:Hp):Out->Prop
 | .nx ρ'=> ∀σ' H' hid',SR K c hid' ρ' σ' H'->Same W (vw H' hid')->D.nx σ' H'
 | .rt d ρ'=> ∀v H',Ret K c k ρ' H' v d->D.rt v H'
 | .bk ρ'=> ∀σ' H' hid',SR K c hid' ρ' σ' H'->Same W (vw H' hid')->D.bk σ' H'
 | .ct ρ'=> ∀σ' H' hid',SR K c hid' ρ' σ' H'->Same W (vw H' hid')->D.ct σ' H'
 | .no=>False
theorem EndOk.mono {K:Iz}{c:Ct}{k:Kd}{D:Ends}{W W':Hp}{o:Out}(h:EndOk K c k D W o)(s:Same W W'):EndOk K c k D W' o:=by
 cases o with
 |nx ρ=>exact λσ' H' hid' z w=>h σ' H' hid' z (s.trans w)
 |rt d ρ=>exact h
 |bk ρ=>exact λσ' H' hid' z w=>h σ' H' hid' z (s.trans w)
 |ct ρ=>exact λσ' H' hid' z w=>h σ' H' hid' z (s.trans w)
 |no=>exact h
def HN(K:Iz)(c:Ct)(k:Kd)(t:FS)(ρ:az):TS:=λD σ H=> ∃hid,SR K c hid ρ σ H/\EndOk K c k D (vw H hid) (t ρ)
def DS(X:Cx)(c:Ct)(k:Kd)(st:Stmt)(t:FS):Prop:= ∀ρ,PS X st (HN X.K c k t ρ)
def tO(X:Cx)(c:Ct)(k:Kd)(st:List Stmt)(t:FS):Prop:= ∀ρ,PSs X st (HN X.K c k t ρ)
section
variable {X:Cx}{c:Ct}{k:Kd}{st:Stmt}{sts rest:List Stmt}{t u:FS}{e:Expr}{pos:Pos}
theorem rT {α:Type}{t:α->TS}(h: ∀z,PSs X sts (t z)):PSs X sts (λD σ H=> ∃z,t z D σ H):=λaa s σ H D I ⟨z,q⟩=>h z aa s σ H D I q
theorem Fc {α:Type}{t:α->TT}(h: ∀z,PT X e (t z)):PT X e (λD σ H=> ∃z,t z D σ H):=λaa s σ H D I ⟨z,q⟩=>h z aa s σ H D I q
def skip:FS:=λρ=>.nx ρ
def ax(t u:FS):FS:=λρ=>match t ρ with
 | .nx ρ'=>u ρ'
 | .rt d ρ'=>.rt d ρ'
 | .bk ρ'=>.bk ρ'
 | .ct ρ'=>.ct ρ'
 | .no=>.no
theorem cG:tO X c k [] skip:=λρ=>PSs.imp Bx λD σ H ⟨hid,sr,q⟩=>q σ H hid sr (Same.refl _)
theorem av(h:DS X c k st t):tO X c k [st] t:=λρ=>Bv (h ρ)
theorem am(h1:DS X c k st t)(h2:tO X c k rest u):tO X c k (st::rest) (ax t u):=λρ=>
 PSs.imp (yn (h1 ρ) (rT λρ1=>h2 ρ1)) λD σ H hq_=>by
  obtain⟨hid,sr,q⟩:=hq_
  refine⟨hid,sr,?_⟩
  unfold ax at q;cases e:t ρ with
  |nx ρ1=>rw[e] at q;exact λσ1 H1 hid1 sr1 v1=>⟨ρ1,hid1,sr1,EndOk.mono q v1⟩
  |rt d ρ1=>rw[e] at q;exact q
  |bk ρ1=>rw[e] at q;exact q
  |ct ρ1=>rw[e] at q;exact q
  |no=>rw[e] at q;exact q
def fP(p:FT)(t u:FS):FS:=λρ=>match p ρ with
 |some true=>t ρ
 |some false=>u ρ
 |none=>.no
theorem hZ {p:FT}{a b:List Stmt}(hp:DT X c e p)(ha:tO X c k a t)(hb:tO X c k b u):DS X c k (.If e a b pos) (fP p t u):=λρ=>
 PS.imp (Dg (Fc λhid=>hp hid ρ) (ha ρ) (hb ρ)) λD σ H hq_=>by
  obtain⟨hid,sr,q⟩:=hq_
  cases e1:p ρ with
  |none=>unfold fP at q;rw[e1] at q;exact q.elim
  |some x=>
   refine⟨hid,sr,x,e1,λH1 s1=>?_⟩
   unfold fP at q;rw[e1] at q;cases x with
   |true=>exact t9 ⟨hid,sr.ext s1,EndOk.mono q (aH s1)⟩
   |false=>exact uL ⟨hid,sr.ext s1,EndOk.mono q (aH s1)⟩
def aV(f:FE):FS:=λρ=>match f ρ with
 |some d=>.rt d ρ
 |none=>.no
theorem C8 {K:Iz}{hid:bq}{ρ':az}{σ:St}{H H':Hp}{v:V}{d:D}(hk:k≠ .b)(p:PostE K c hid k ρ' σ H H' v d)(h0: ∀b,c.hid₀ b=true->hid b=true):Ret K c k ρ' H' v d:=by
 cases k with
 |b=>exact absurd rfl hk
 |s=>
  obtain⟨_,sr,r⟩:=p
  refine⟨sr.kp,r.mono (eW sr.h0),λi bs e=>?_⟩
  obtain⟨a,xs,z1,z2,z3,z4,z5⟩:=sr.sl i _ e
  refine⟨a,xs,z4,z2,?_⟩
  show Reps K (vw H' c.hid₀) xs bs;exact z5.mono (eW sr.h0)
 |n=>
  obtain⟨_,a,xs,ds,rfl,rfl,_,h1,h2,h3,sr,h5,h6⟩:=p
  have le:Same (vw H' (bF hid a)) (vw H' (bF c.hid₀ a)):=eW λb q=>by
   unfold bF at q⊢;cases e:c.hid₀ b with
   |true=>rw[h0 b e];rfl
   |false=>rw[e] at q;rw[Ng];right;simpa using q
  refine⟨sr.kp,⟨a,xs,ds,rfl,rfl,h2,h1,h5.mono le⟩,λi bs e=>?_⟩
  obtain⟨a',xs',z1,z2,z3,z4,z5⟩:=sr.sl i _ e
  exact⟨a',xs',z4,z2,z5.mono le⟩
theorem aZ {f:FE}(he:DP X c k e f)(hk:k≠ .b:=by decide):DS X c k (.Return (some e) pos) (aV f):=λρ=>PS.imp (zI (lg λhid=>he hid ρ)) λD σ H hq_=>by
 obtain⟨hid,sr,q⟩:=hq_
 unfold aV at q;cases e1:f ρ with
 |none=>rw[e1] at q;exact q.elim
 |some z=>rw[e1] at q;exact⟨hid,sr,_,e1,λv H' s r=>q v H' (C8 hk (sr.post s r hk) sr.h0)⟩
def tW:Option Sl->Option (List D)
 |some (.own ds)=>some ds
 |_=>none
def AJ(i:Nat):FS:=λρ=>match tW ρ[i]? with
 |some ds=>.rt (.lst ds) ρ
 |none=>.no
theorem oS {o:Option Sl}{ds:List D}(h:tW o=some ds):o=some (.own ds):=by
 unfold tW at h;split at h
 ·cases h;rfl
 ·cases h
theorem Cf(i:Nat){x:Str}{pos':Pos}(hN:X.N[i]? =some x:=by rfl)(hv:oh X.env.scope x:=by first|exact Kf rfl|exact Jw (Kf rfl)|exact Jw (Jw rfl))(hd:(x==("__debug__":Str))=false:=by decide)
 (hcd:(x==("__classdict__":Str))=false:=by decide):DS X c .n (.Return (some (.Name x pos')) pos) (AJ i):=λρ=>PS.imp (zI (pv i hN hv hd hcd)) λD σ H hq_=>by
 obtain⟨hid,sr,q⟩:=hq_
 unfold AJ at q;cases e0:tW ρ[i]? with
 |none=>rw[e0] at q;exact q.elim
 |some ds=>
  rw[e0] at q;have e:=oS e0
  obtain⟨a,xs,z1,z2,z3,z4,z5⟩:=sr.sl i _ e
  have le:Same (vw H hid) (vw H (bF c.hid₀ a)):=eW λb w=>by
   unfold bF at w;cases e:c.hid₀ b with
   |true=>exact sr.h0 b e
   |false=>
    rw[e] at w;have:b=a:=by simpa using w
    rw[this];exact z3
  refine⟨_,z1,q _ H ⟨sr.kp,⟨a,xs,ds,rfl,rfl,z4,z2,z5.mono le⟩,λj bs e'=>?_⟩⟩
  obtain⟨a',xs',w1,w2,w3,w4,w5⟩:=sr.sl j _ e'
  exact⟨a',xs',w4,w2,w5.mono le⟩
end
section
variable {K:Iz}{c:Ct}{hid:bq}{ρ:az}{σ:St}{H H':Hp}{i:Nat}{a:Addr}{v:V}{d:D}
theorem SR.setV(h:SR K c hid ρ σ H)(r:Rep K (vw H hid) v d)(i:Nat):SR K c hid (ρ.set i (.v d)) (σ.set i (some v)) H:=by
 refine⟨h.tr,h.ht,h.h0,h.kp,h.t0,h.c0,h.m0,by simp[h.len],λj s q=>?_,λj l z n o1 o2 q1 q2=>?_⟩
 ·by_cases e:j=i
  ·subst e
   have lt:j<ρ.length:=by
    have:=(IE.mp q).1
    simpa using this
   rw[IX lt] at q;cases q
   exact⟨v,IX (by rw[h.len];exact lt),r⟩
  ·rw[IG (JW e)] at q
   have w:=h.sl j s q
   have es:(σ.set i (some v))[j]? =σ[j]? :=IG (JW e)
   cases s with
   |no=>trivial
   |v d=>obtain⟨x,h1,h2⟩:=w;exact⟨x,es.trans h1,h2⟩
   |own ds=>obtain⟨a,xs,h1,h2⟩:=w;exact⟨a,xs,es.trans h1,h2⟩
   |arg ds=>obtain⟨a,xs,h1,h2⟩:=w;exact⟨a,xs,es.trans h1,h2⟩
   |ob b=>obtain⟨a,h1,h2⟩:=w;exact⟨a,es.trans h1,h2⟩
 ·have nj: ∀m,Ow (ρ.set i (.v d))[m]? ->m≠i:=λm o e=>by
   subst e
   by_cases lt:m<ρ.length
   ·rw[IX lt] at o;exact o
   ·rw[Ka (by simpa using lt)] at o;exact o
  have e1:=nj j o1
  have e2:=nj l o2
  rw[IG (JW e1)] at o1 q1;rw[IG (JW e2)] at o2 q2;exact h.ap j l z n o1 o2 q1 q2
theorem SR.setO {xs:List V}{ds:List D}(h:SR K c hid ρ σ H)(ha:H a=some (.lst xs))(hh:hid a=true)(h0:c.H₀ a=none)(r:Reps K (vw H hid) xs ds)(no: ∀i:Nat,Ow ρ[i]? ->σ[i]? ≠some (some (.ref a)))(i:Nat):
 SR K c hid (ρ.set i (.own ds)) (σ.set i (some (.ref a))) H:=by
 refine⟨h.tr,h.ht,h.h0,h.kp,h.t0,h.c0,h.m0,by simp[h.len],λj s q=>?_,λj l z n o1 o2 q1 q2=>?_⟩
 ·by_cases e:j=i
  ·subst e
   have lt:j<ρ.length:=by
    have:=(IE.mp q).1
    simpa using this
   rw[IX lt] at q;cases q
   exact⟨a,xs,IX (by rw[h.len];exact lt),ha,hh,h0,r⟩
  ·rw[IG (JW e)] at q
   have w:=h.sl j s q
   have es:(σ.set i (some (V.ref a)))[j]? =σ[j]? :=IG (JW e)
   cases s with
   |no=>trivial
   |v d=>obtain⟨x,h1,h2⟩:=w;exact⟨x,es.trans h1,h2⟩
   |own ds=>obtain⟨a,xs,h1,h2⟩:=w;exact⟨a,xs,es.trans h1,h2⟩
   |arg ds=>obtain⟨a,xs,h1,h2⟩:=w;exact⟨a,xs,es.trans h1,h2⟩
   |ob b=>obtain⟨a,h1,h2⟩:=w;exact⟨a,es.trans h1,h2⟩
 ·by_cases e1:j=i
  ·subst e1
   have e2:l≠j:=λe=>n e.symm
   rw[IG (JW e2)] at o2 q2
   by_cases lt:j<σ.length
   ·rw[IX lt] at q1;cases q1;exact no l o2 q2
   ·rw[Ka (by simpa using lt)] at q1;cases q1
  ·rw[IG (JW e1)] at o1 q1
   by_cases e2:l=i
   ·subst e2
    by_cases lt:l<σ.length
    ·rw[IX lt] at q2;cases q2;exact no j o1 q1
    ·rw[Ka (by simpa using lt)] at q2;cases q2
   ·rw[IG (JW e2)] at o2 q2
    exact h.ap j l z n o1 o2 q1 q2
end
section
variable {X:Cx}{c:Ct}{k:Kd}{st:Stmt}{sts rest:List Stmt}{t u:FS}{e:Expr}{es:List Expr}{pos pos':Pos}{x:Str}{i:Nat}
def gZ(i:Nat)(f:GE):FS:=λρ=>match f ρ with
 |some (d,ρ')=>.nx (ρ'.set i (.v d))
 |none=>.no
def bj(i:Nat)(f:FE):FS:=λρ=>match f ρ with
 |some d=>.nx (ρ.set i (.v d))
 |none=>.no
def Hx:D->Option (List D)
 | .lst ds=>some ds
 |_=>none
def ux(i:Nat)(f:GE):FS:=λρ=>match f ρ with
 |some (d,ρ')=>(match Hx d with
  |some ds=>.nx (ρ'.set i (.own ds))
  |none=>.no)
 |none=>.no
def du(i:Nat)(f:FE):FS:=λρ=>match f ρ with
 |some d=>(match Hx d with
  |some ds=>.nx (ρ.set i (.own ds))
  |none=>.no)
 |none=>.no
theorem i7(i:Nat){f:GE}(hn:X.N.Nodup)(he:DE X c .s e f)(hi:X.N[i]? =some x:=by rfl)(hx:xW X.env.scope x:=by first|exact Kf rfl|exact Jw rfl)(hs:Lp e (some (.Name x pos')) pos.line X.env=pure false:=by rfl)
 (hf:X.fn x=true\/X.env.scope.names.lookup x=some .local:=by first|exact .inl rfl|exact .inr rfl|assumption):DS X c k (.Assign [.Name x pos'] e pos) (gZ i f):=λρ=>PS.imp (lh hn hi hx (lg λhid=>he hid ρ) hs hf) λD σ H hq_=>by
 obtain⟨hid,sr,q⟩:=hq_
 unfold gZ at q;cases e1:f ρ with
 |none=>rw[e1] at q;exact q.elim
 |some z=>
  rw[e1] at q;exact⟨hid,sr,z.1,z.2,e1,λv H' ⟨kp,s',r⟩=>q _ H' hid (s'.setV r i) kp.vw⟩
theorem bA(i:Nat){f:FE}(hn:X.N.Nodup)(he:DP X c .s e f)(hi:X.N[i]? =some x:=by rfl)(hx:xW X.env.scope x:=by first|exact Kf rfl|exact Jw rfl)(hs:Lp e (some (.Name x pos')) pos.line X.env=pure false:=by rfl)
 (hf:X.fn x=true\/X.env.scope.names.lookup x=some .local:=by first|exact .inl rfl|exact .inr rfl|assumption):DS X c k (.Assign [.Name x pos'] e pos) (bj i f):=λρ=>PS.imp (lh hn hi hx (lg λhid=>he hid ρ) hs hf) λD σ H hq_=>by
 obtain⟨hid,sr,q⟩:=hq_
 unfold bj at q;cases e1:f ρ with
 |none=>rw[e1] at q;exact q.elim
 |some z=>
  rw[e1] at q;exact⟨hid,sr,z,e1,λv H' s' r=>q _ H' hid ((sr.ext s').setV r i) (aH s')⟩
theorem EI {K:Iz}{hid:bq}{ρ':az}{σ:St}{H H':Hp}{v:V}{d:D}{D:Ends}(p:PostE K c hid .n ρ' σ H H' v d)(q:EndOk K c k D (vw H hid) (match Hx d with
 |some ds=>.nx (ρ'.set i (.own ds))
 |none=>.no)):D.nx (σ.set i (some v)) H':=by
 obtain⟨kp,a,xs,ds,rfl,rfl,hn,h1,h2,h3,h4,h5,h6⟩:=p
 refine q _ H' (bF hid a) (h4.setO h1 fj h2 h5 h6 i) λb o w=>?_
 obtain⟨w1,w2⟩:=vw_some.mp w
 refine vw_some.mpr ⟨?_,kp b o w2 w1⟩
 unfold bF;rw[w1];have:b≠a:=aX w2 hn
 simp[this]
theorem Cv(i:Nat){f:GE}(hn:X.N.Nodup)(he:DE X c .n e f)(hi:X.N[i]? =some x:=by rfl)(hx:xW X.env.scope x:=by first|exact Kf rfl|exact Jw rfl)(hs:Lp e (some (.Name x pos')) pos.line X.env=pure false:=by rfl)
 (hf:X.fn x=true\/X.env.scope.names.lookup x=some .local:=by first|exact .inl rfl|exact .inr rfl|assumption):DS X c k (.Assign [.Name x pos'] e pos) (ux i f):=λρ=>PS.imp (lh hn hi hx (lg λhid=>he hid ρ) hs hf) λD σ H hq_=>by
 obtain⟨hid,sr,q⟩:=hq_
 unfold ux at q;cases e1:f ρ with
 |none=>rw[e1] at q;exact q.elim
 |some z=>
  rw[e1] at q;exact⟨hid,sr,z.1,z.2,e1,λv H' p=>EI p q⟩
theorem fX(i:Nat){f:FE}(hn:X.N.Nodup)(he:DP X c .n e f)(hi:X.N[i]? =some x:=by rfl)(hx:xW X.env.scope x:=by first|exact Kf rfl|exact Jw rfl)(hs:Lp e (some (.Name x pos')) pos.line X.env=pure false:=by rfl)
 (hf:X.fn x=true\/X.env.scope.names.lookup x=some .local:=by first|exact .inl rfl|exact .inr rfl|assumption):DS X c k (.Assign [.Name x pos'] e pos) (du i f):=λρ=>PS.imp (lh hn hi hx (lg λhid=>he hid ρ) hs hf) λD σ H hq_=>by
 obtain⟨hid,sr,q⟩:=hq_
 unfold du at q;cases e1:f ρ with
 |none=>rw[e1] at q;exact q.elim
 |some z=>
  rw[e1] at q;exact⟨hid,sr,z,e1,λv H' s r=>EI (sr.post s r (by decide)) q⟩
def xu(i:Nat)(ρ:az):az:=match tW ρ[i]? with
 |some ds=>ρ.set i (.v (.lst ds))
 |none=>ρ
theorem SR.freeze {K:Iz}{hid:bq}{ρ:az}{σ:St}{H:Hp}(h:SR K c hid ρ σ H)(i:Nat): ∃hid',SR K c hid' (xu i ρ) σ H/\Same (vw H hid) (vw H hid'):=by
 unfold xu;cases e0:tW ρ[i]? with
 |none=>exact⟨hid,h,Same.refl _⟩
 |some ds=>
  have e:=oS e0
  obtain⟨a,xs,z1,z2,z3,z4,z5⟩:=h.sl i _ e
  have sm:Same (vw H hid) (vw H (sJ hid a)):=eW λb w=>by unfold sJ at w;rw[JB] at w;exact w.1
  have un: ∀b,b≠a->hid b=true->sJ hid a b=true:=λb n w=>by unfold sJ;rw[w];simp[n]
  have na:c.hid₀ a=false:=by
   cases q:c.hid₀ a with
   |false=>rfl
   |true=>obtain⟨o,w⟩:=h.c0 a q;rw[z4] at w;cases w
  refine⟨sJ hid a,⟨λb w=>h.tr b (by unfold sJ at w;rw[JB] at w;exact w.1),λb xs w=>h.ht b xs (by unfold sJ at w;rw[JB] at w;exact w.1),λb w=>un b (λe=>by subst e;rw[na] at w;cases w) (h.h0 b w),h.kp,h.t0,h.c0,h.m0,by simp[h.len],λj s q=>?_,λj l z n o1 o2 q1 q2=>?_⟩,sm⟩
  ·by_cases ej:j=i
   ·subst ej
    rw[IX (IE.mp e).1] at q;cases q
    exact⟨_,z1,.lst (vw_some.mpr ⟨by unfold sJ;simp,z2⟩) (z5.mono sm)⟩
   ·rw[IG (JW ej)] at q
    have w:=h.sl j s q
    cases s with
    |no=>trivial
    |v d=>obtain⟨x,h1,h2⟩:=w;exact⟨x,h1,h2.mono sm⟩
    |own ds=>
     obtain⟨a',xs,h1,h2,h3,h4,h5⟩:=w
     exact⟨a',xs,h1,h2,un a' (λe'=>by subst e';exact h.ap j i _ ej (by rw[q];trivial) (by rw[e];trivial) h1 z1) h3,h4,h5.mono sm⟩
    |arg ds=>
     obtain⟨a',xs,h1,h2,h3,h4,h5⟩:=w
     exact⟨a',xs,h1,h2,un a' (λe'=>by subst e';exact h.ap j i _ ej (by rw[q];trivial) (by rw[e];trivial) h1 z1) h3,h4,h5.mono sm⟩
    |ob b=>
     obtain⟨a',h1,h2⟩:=w
     exact⟨a',h1,h2.mono (λ_ _ q=>q) sm λow=>un a' λe'=>by subst e';exact h.ap j i _ ej (by rw[q];exact ow) (by rw[e];trivial) h1 z1⟩
  ·have nj: ∀m,Ow (ρ.set i (.v (.lst ds)))[m]? ->m≠i:=λm o e'=>by
    subst e'
    by_cases lt:m<ρ.length
    ·rw[IX lt] at o;exact o
    ·rw[Ka (by simpa using lt)] at o;exact o
   have e1:=nj j o1
   have e2:=nj l o2
   rw[IG (JW e1)] at o1;rw[IG (JW e2)] at o2;exact h.ap j l z n o1 o2 q1 q2
theorem E6(i:Nat)(h:DS X c k st t):DS X c k st (λρ=>t (xu i ρ)):=λρ=>PS.imp (h (xu i ρ)) λD σ H hq_=>by
 obtain⟨hid,sr,q⟩:=hq_
 obtain⟨hid',sr',sm⟩:=sr.freeze i
 exact⟨hid',sr',EndOk.mono q sm⟩
def cH(f:GE):FS:=λρ=>match f ρ with
 |some (_,ρ')=>.nx ρ'
 |none=>.no
theorem iQ {f:GE}(he:DE X c .s e f)(hs:Lp e none pos.line X.env=pure false:=by rfl):DS X c k (.Expr e pos) (cH f):=λρ=>PS.imp (A8 (lg λhid=>he hid ρ) hs) λD σ H hq_=>by
 obtain⟨hid,sr,q⟩:=hq_
 unfold cH at q;cases e1:f ρ with
 |none=>rw[e1] at q;exact q.elim
 |some z=>
  rw[e1] at q;exact⟨hid,sr,z.1,z.2,e1,λv H' ⟨kp,s',_⟩=>q _ H' hid s' kp.vw⟩
def GO(K:Iz)(r:V->List V->Hp->VK->Prop)(n:Nat)(M:List D->List D->Option (D×List D)):Prop:= ∀(H:Hp) (hid:bq) (a:Addr) (xs us:List V) (bs ds bs':List D) (d:D) (Q:VK),H a=some (.lst xs)->hid a=true->Reps K (vw H hid) xs bs->Reps K (vw H hid) us ds->
 ds.length=n->M bs ds=some (d,bs')->(∀w xs',Reps K (vw H hid) xs' bs'->Rep K (vw H hid) w d->Q w (bp H a (.lst xs')))->r (.ref a) us H Q
theorem FJ {K:Iz}{r:V->List V->Hp->VK->Prop}{n:Nat}{M:List D->List D->Option (D×List D)}(hM:GO K r n M){hid:bq}{ρ1:az}{σ:St}{H H1:Hp}{a:Addr}{us:List V}{bs ds bs':List D}{d:D}{Q:VK}(k1:Kept hid H H1)(s1:SR K c hid ρ1 σ H1)(e2:gc i ρ1=some bs)
 (ha:σ[i]? =some (some (.ref a))) (r1:Reps K (vw H1 hid) us ds) (hn:ds.length=n) (hm:M bs ds=some (d,bs')) (q: ∀v H',PostE K c hid .s (fF i bs' ρ1) σ H H' v d->Q v H'):r (.ref a) us H1 Q:=by
 obtain⟨a',xs,b1,b2,b3,b4,b5⟩:=s1.held e2
 rw[ha] at b1;cases b1;refine hM H1 hid a xs us bs ds bs' d Q b2 b3 b4 r1 hn hm λw xs' rx rw'=>q w _ ⟨k1.trans λb o z hb=>?_,?_,?_⟩
 ·rw[aA (λe=>by subst e;rw[b3] at hb;cases hb)];exact z
 ·exact s1.put e2 ha (λb o z hb=>by rw[aA hb];exact z) aC (by rw[dc b3];exact rx)
 ·rw[dc b3];exact rw'
variable {n:Nat}{M:List D->List D->Option (D×List D)}{fs:GA}{r:V->List V->Hp->VK->Prop}{y name:Str}{py apos:Pos}{id:String}
theorem my(i:Nat)(hM:GO X.K r n M)(hm:GS X id r)(slot:Slot "list" name id)(hty:typeOf (.builtin id)=pure (.type "method_descriptor"))(ha:DG X c (e::es) fs)
 (hN:X.N[i]? =some y:=by rfl) (hv:oh X.env.scope y:=by first|exact Kf rfl|exact Jw (Kf rfl)|exact Jw (Jw rfl)) (hd:(y==("__debug__":Str))=false:=by decide) (hcd:(y==("__classdict__":Str))=false:=by decide)
 (hbase:M6 (.Name y py) name X.env (eval (.Name y py) X.env)=eval (.Name y py) X.env:=by rfl)
 (hfew:((KQ pos (ID (e::es) X.env)).all (λx=> !x.1)&&(Qm pos (N9 [] X.env)).all (λx=>x.1.isSome)
   &&decide ((e::es).length+([]:List NB).length+(if([]:List NB).isEmpty then 0 else 1)<30))=true:=by rfl)
 (hline:(apos.endLine==pos.line)=true:=by rfl) (hs:ID (e::es) X.env=(false,eval e X.env)::ID es X.env:=by rfl) (hplain:(KQ pos (ID es X.env)).any (·.1)=false:=by rfl):
 DE X c .s (.Call (.Attribute (.Name y py) name apos) (e::es) [] pos) (aN i n M fs):=λhid ρ=>
 PE.imp (v7 Ps slot hty hm (pv i hN hv hd hcd) (ha hid ρ) hbase hfew hline hs hplain) λσ H Q hq_=>by
  obtain⟨sr,d,ρ',hd',q⟩:=hq_
  obtain⟨bs0,ds,ρ1,bs,bs',e0,e1,e2,e3,e4,rfl⟩:=nC hd'
  obtain⟨a,xs0,a1,a2,a3,_,_⟩:=sr.held e0
  exact⟨.ref a,a1,.inl ⟨rfl,_,SqL.of a2⟩,sr,ds,ρ1,e1,λus H1 k1 s1 r1=>FJ hM k1 s1 e2 a1 r1 e3 e4 q⟩
end
section
variable {K:Iz}
def kT:List D->List D->Option (D×List D):=λbs ds=>match ds with
 | [d]=>if bs.length<IM then some (.non,bs++[d]) else none
 |_=>none
theorem kH:GO K vB 1 kT:=by
 intro H hid a xs us bs ds bs' d Q h1 h2 h3 h4 h5 h6 q;unfold kT at h6;split at h6
 ·split at h6
  ·cases h6
   cases h4 with
   |cons r t=>
    cases t
    exact⟨a,xs,_,rfl,rfl,h1,by rw[h3.length];assumption,q _ _ (h3.append (.cons r .nil)) .non⟩
  ·cases h6
 ·cases h6
def oA:List D->List D->Option (D×List D):=λbs ds=>match ds with
 | [.int i]=>match (if bs.length<=IM then tS bs.length i else none) with
   |some j=>(bs[j]?).map λd=>(d,bs.eraseIdx j)
   |none=>none
 |_=>none
theorem Ep:GO K yE 1 oA:=by
 intro H hid a xs us bs ds bs' d Q h1 h2 h3 h4 h5 h6 q;unfold oA at h6;split at h6
 ·split at h6
  ·rename_i i _ j e
   cases e1:bs[j]? with
   |none=>rw[e1] at h6;cases h6
   |some z=>
    rw[e1] at h6;cases h6;cases h4 with
    |cons r t=>
     cases t
     cases r
     obtain⟨x,g1,g2⟩:=h3.get e1
     split at e
     ·obtain⟨w1,w2,w3,w4⟩:=qw e
      have hl:=h3.length
      have l63:=jI
      refine⟨a,xs,i,j,x,rfl,rfl,h1,by omega,by omega,by rw[hl];exact w1,g1,q _ _ (h3.eraseIdx j) g2⟩
     ·cases e
  ·cases h6
 ·cases h6
end
abbrev FG:=D->az->Option az
abbrev ua:=List D->az->Option az
def OwK(ρ ρ':az)(σ σ':St):Prop:= ∀i:Nat,Ow ρ'[i]? ->Ow ρ[i]? /\σ'[i]? =σ[i]?
theorem OwK.trans {ρ ρ1 ρ2:az}{σ σ1 σ2:St}(a:OwK ρ ρ1 σ σ1)(b:OwK ρ1 ρ2 σ1 σ2):OwK ρ ρ2 σ σ2:=λi o=>⟨(a i (b i o).1).1,(b i o).2.trans (a i (b i o).1).2⟩
def G8(K:Iz)(c:Ct)(hid:bq)(g:FG)(ρ:az)(d:D):TG:=λv σ H Q=>SR K c hid ρ σ H/\Rep K (vw H hid) v d/\ ∃ρ',g d ρ=some ρ'/\ ∀σ',SR K c hid ρ' σ' H->OwK ρ ρ' σ σ'->Q σ' H
def rB(X:Cx)(c:Ct)(tg:Expr)(g:FG):Prop:= ∀hid ρ d,PG X tg (G8 X.K c hid g ρ d)
def G5(K:Iz)(c:Ct)(hid:bq)(g:ua)(ρ:az)(d:List D):zd:=λv σ H Q=>SR K c hid ρ σ H/\Reps K (vw H hid) v d/\ ∃ρ',g d ρ=some ρ'/\ ∀σ',SR K c hid ρ' σ' H->OwK ρ ρ' σ σ'->Q σ' H
def GR(X:Cx)(c:Ct)(tg:List Expr)(g:ua):Prop:= ∀hid ρ d,PGs X tg (G5 X.K c hid g ρ d)
theorem PG.imp {X:Cx}{e:Expr}{t t':TG}(h:PG X e t)(i: ∀v σ H Q,t' v σ H Q->t v σ H Q):PG X e t':=λaa s σ H v u Q I r q=>h aa s σ H v u Q I r (i v σ H Q q)
theorem PGs.imp {X:Cx}{e:List Expr}{t t':zd}(h:PGs X e t)(i: ∀v σ H Q,t' v σ H Q->t v σ H Q):PGs X e t':=λaa s σ H v u Q I r q=>h aa s σ H v u Q I r (i v σ H Q q)
theorem zK {X:Cx}{e:Expr}{α:Type}{t:α->TG}(h: ∀z,PG X e (t z)):PG X e (λv σ H Q=> ∃z,t z v σ H Q):=λaa s σ H v u Q I r ⟨z,q⟩=>h z aa s σ H v u Q I r q
theorem vn {X:Cx}{e:List Expr}{α:Type}{t:α->zd}(h: ∀z,PGs X e (t z)):PGs X e (λv σ H Q=> ∃z,t z v σ H Q):=λaa s σ H v u Q I r ⟨z,q⟩=>h z aa s σ H v u Q I r q
section
variable {X:Cx}{c:Ct}{k:Kd}{st:Stmt}{sts body:List Stmt}{t u:FS}{e tg iter:Expr}{es:List Expr}{pos pos':Pos}{x:Str}{i:Nat}
def gN(i:Nat):FG:=λd ρ=>some (ρ.set i (.v d))
theorem aI(i:Nat)(hn:X.N.Nodup)(hi:X.N[i]? =some x:=by rfl)(hx:xW X.env.scope x:=by first|exact Kf rfl|exact Jw rfl)(hf:X.fn x=true\/X.env.scope.names.lookup x=some .local:=by first|exact .inl rfl|exact .inr rfl|assumption):
 rB X c (.Name x pos) (gN i):=λhid ρ d=>PG.imp (CP (i:=i) hn hi hx hf) λv σ H Q hq_=>by
 obtain⟨sr,r,ρ',e,q⟩:=hq_
 cases e
 refine q _ (sr.setV r i) λj o=>?_
 have ne:j≠i:=λe=>by
  subst e
  by_cases lt:j<ρ.length
  ·rw[IX lt] at o;exact o
  ·rw[Ka (by simpa using lt)] at o;exact o
 rw[IG (JW ne)] at o⊢;exact⟨o,rfl⟩
def mG:ua:=λds ρ=>match ds with
 | []=>some ρ
 |_=>none
def iH(g:FG)(gs:ua):ua:=λds ρ=>match ds with
 | []=>none
 |d::r=>(g d ρ).bind λρ'=>gs r ρ'
theorem pX:GR X c [] mG:=λhid ρ d=>PGs.imp vT λv σ H Q hq_=>by
 obtain⟨sr,r,ρ',e,q⟩:=hq_
 unfold mG at e;split at e
 ·cases e;cases r;exact⟨rfl,q σ sr λi o=>⟨o,rfl⟩⟩
 ·cases e
theorem fC {g:FG}{gs:ua}(h1:rB X c e g)(h2:GR X c es gs)(hs:(KR (e::es) X.env).map (·.2)=M0 e X.env::(KR es X.env).map (·.2):=by rfl):GR X c (e::es) (iH g gs):=λhid ρ d=>
 PGs.imp (tE (zK λd=>h1 hid ρ d) (vn λz:az×List D=>h2 hid z.1 z.2) hs) λv σ H Q hq_=>by
  obtain⟨sr,r,ρ',e,q⟩:=hq_
  cases d with
  |nil=>cases e
  |cons d1 ds=>
   cases r with
   |cons r1 r2=>
    have e:(g d1 ρ).bind (λρ'=>gs ds ρ')=some ρ':=e
    cases e1:g d1 ρ with
    |none=>rw[e1] at e;cases e
    |some ρ1=>
     rw[e1] at e;exact⟨_,_,rfl,d1,sr,r1,ρ1,e1,λσ1 s1 o1=>⟨(ρ1,ds),s1,r2,ρ',e,λσ2 s2 o2=>q σ2 s2 (o1.trans o2)⟩⟩
def gT(n:Nat)(gs:ua):FG:=λd ρ=>match d with
 | .tup ds=>if ds.length=n then gs ds ρ else none
 |_=>none
theorem ql {gs:ua}{kk n:Nat}(hc:X.calm=true)(h:GR X c es gs)(hn:(KR es X.env).length=n:=by rfl)(hst:(KR es X.env).findIdx? (·.1)=none:=by rfl):rB X c (.Tuple es kk pos) (gT n gs):=λhid ρ d=>
 PG.imp (zu hc (vn λds=>h hid ρ ds) hn hst) λv σ H Q hq_=>by
  obtain⟨sr,r,ρ',e,q⟩:=hq_
  unfold gT at e;split at e
  ·split at e
   ·cases r with
    |tup h1 h2=>exact⟨_,_,rfl,Same.seqT (dI _ _) h1,by rw[h2.length];assumption,_,sr,h2,ρ',e,q⟩
   ·cases e
  ·cases e
def EV:Option az->Out
 |some ρ=>.nx ρ
 |none=>.no
def eR(g:FG)(f:GE):FS:=λρ=>match f ρ with
 |some z=>EV (g z.1 z.2)
 |none=>.no
theorem Es {g:FG}{f:GE}(he:DE X c .s e f)(hg:rB X c tg g)(hs:QV [tg] e pos.line X.env=pure false:=by rfl)(hw:QW [tg] e X.env=pure none:=by rfl)
 (h1:(KR [tg] X.env).map (·.2)=[M0 tg X.env]:=by rfl):DS X c k (.Assign [tg] e pos) (eR g f):=λρ=>
 PS.imp (Ay (lg λhid=>he hid ρ) (zK λz:bq×az×D=>hg z.1 z.2.1 z.2.2) hs hw h1) λD σ H hq_=>by
  obtain⟨hid,sr,q⟩:=hq_
  unfold eR at q;cases e1:f ρ with
  |none=>rw[e1] at q;exact q.elim
  |some z=>
   rw[e1] at q;cases e2:g z.1 z.2 with
   |none=>dsimp only at q;rw[e2] at q;exact q.elim
   |some ρ2=>
    dsimp only at q;rw[e2] at q;exact⟨hid,sr,z.1,z.2,e1,λv H' ⟨kp,s',r⟩=>⟨(hid,z.2,z.1),s',r,ρ2,e2,λσ' s2 _=>q σ' H' hid s2 kp.vw⟩⟩
def bH(i:Nat)(fi:FE)(d:D)(ρ:az):Option az:=match gc i ρ with
 |some bs=>(match fi ρ with
  |some (.int j)=>(match tS bs.length j with
   |some m=>some (fF i (bs.set m d) ρ)
   |none=>none)
  |_=>none)
 |none=>none
theorem uv {fi:FE}{d:D}{ρ ρ':az}(h:bH i fi d ρ=some ρ'): ∃bs j m,gc i ρ=some bs/\fi ρ=some (.int j)/\tS bs.length j=some m/\ρ'=fF i (bs.set m d) ρ:=by
 unfold bH at h;split at h
 ·split at h
  ·split at h
   ·cases h;exact⟨_,_,_, ‹_›, ‹_›, ‹_›,rfl⟩
   ·cases h
  ·cases h
 ·cases h
def Hl(K:Iz)(c:Ct)(hid:bq)(g:FG)(ρ:az)(d:D):TG:=λv σ H Q=>SR K c hid ρ σ H/\Rep K (vw H hid) v d/\ ∃ρ',g d ρ=some ρ'/\ ∀H',Kept hid H H'->SR K c hid ρ' σ H'->Q σ H'
def GK(X:Cx)(c:Ct)(tg:Expr)(g:FG):Prop:= ∀hid ρ d,PG X tg (Hl X.K c hid g ρ d)
theorem eU(i:Nat){y:Str}{py:Pos}{ix:Expr}{fi:FE}{k1:Kd}(hi:DP X c k1 ix fi)(hN:X.N[i]? =some y:=by rfl)(hv:oh X.env.scope y:=by first|exact Kf rfl|exact Jw (Kf rfl)|exact Jw (Jw rfl))(hd:(y==("__debug__":Str))=false:=by decide)(hcd:(y==("__classdict__":Str))=false:=by decide)
 (ha: ∀v,M0 (.Subscript (.Name y py) ix pos) X.env v=(do
   let ov <-MV [v] (eval (.Name y py) X.env)
   let iv <-MV [v,ov] (eval ix X.env)
   Ov pos
   MV [v,ov,iv] (UO ov iv v)
   release [v,ov,iv] []):=by intro _;rfl):GK X c (.Subscript (.Name y py) ix pos) (bH i fi):=λhid ρ d=>
 PG.imp (Dn (pv i hN hv hd hcd) (hi hid ρ) Aj ha) λv σ H Q hq_=>by
  obtain⟨sr,r,ρ',e,q⟩:=hq_
  obtain⟨bs,j,m,e1,e2,e3,rfl⟩:=uv e
  obtain⟨a,xs,a1,a2,a3,a4,a5⟩:=sr.held e1
  refine⟨.ref a,a1,sr,_,e2,λw H1 s1 r1=>?_⟩
  have b1:=(RK.b k1 r1 λa n=>sr.fresh n).int
  cases b1
  have a4':=a4.mono (aH (hid:=hid) s1)
  refine⟨a,xs,j,m,rfl,rfl,s1 _ _ a2,by rw[a4.length];exact e3,q _ (λb o z hb=>?_) ?_⟩
  ·rw[aA (λe=>by subst e;rw[a3] at hb;cases hb)];exact s1 _ _ z
  ·exact(sr.ext s1).put e1 a1 (λb o z hb=>by rw[aA hb];exact z) aC (by rw[dc a3];exact Reps.set (r.mono (aH s1)) m a4')
theorem ko {g:FG}{f:GE}(he:DE X c .s e f)(hg:GK X c tg g)(hs:QV [tg] e pos.line X.env=pure false:=by rfl)(hw:QW [tg] e X.env=pure none:=by rfl)
 (h1:(KR [tg] X.env).map (·.2)=[M0 tg X.env]:=by rfl):DS X c k (.Assign [tg] e pos) (eR g f):=λρ=>
 PS.imp (Ay (lg λhid=>he hid ρ) (zK λz:bq×az×D=>hg z.1 z.2.1 z.2.2) hs hw h1) λD σ H hq_=>by
  obtain⟨hid,sr,q⟩:=hq_
  unfold eR at q;cases e1:f ρ with
  |none=>rw[e1] at q;exact q.elim
  |some z=>
   rw[e1] at q;cases e2:g z.1 z.2 with
   |none=>dsimp only at q;rw[e2] at q;exact q.elim
   |some ρ2=>
    dsimp only at q;rw[e2] at q;exact⟨hid,sr,z.1,z.2,e1,λv H' ⟨kp,s',r⟩=>⟨(hid,z.2,z.1),s',r,ρ2,e2,λH2 k2 s2=>q σ H2 hid s2 (kp.trans k2).vw⟩⟩
def Hh(K:Iz)(c:Ct)(hid:bq)(g:ua)(ρ:az)(d:List D):zd:=λv σ H Q=>SR K c hid ρ σ H/\Reps K (vw H hid) v d/\ ∃ρ',g d ρ=some ρ'/\ ∀H',Kept hid H H'->SR K c hid ρ' σ H'->Q σ H'
def GU(X:Cx)(c:Ct)(tg:List Expr)(g:ua):Prop:= ∀hid ρ d,PGs X tg (Hh X.K c hid g ρ d)
theorem qx:GU X c [] mG:=λhid ρ d=>PGs.imp vT λv σ H Q hq_=>by
 obtain⟨sr,r,ρ',e,q⟩:=hq_
 unfold mG at e;split at e
 ·cases e;cases r;exact⟨rfl,q H (.of (Same.refl _)) sr⟩
 ·cases e
theorem gC {g:FG}{gs:ua}(h1:GK X c e g)(h2:GU X c es gs)(hs:(KR (e::es) X.env).map (·.2)=M0 e X.env::(KR es X.env).map (·.2):=by rfl):GU X c (e::es) (iH g gs):=λhid ρ d=>
 PGs.imp (tE (zK λd=>h1 hid ρ d) (vn λz:az×List D=>h2 hid z.1 z.2) hs) λv σ H Q hq_=>by
  obtain⟨sr,r,ρ',e,q⟩:=hq_
  cases d with
  |nil=>cases e
  |cons d1 ds=>
   cases r with
   |cons r1 r2=>
    have e:(g d1 ρ).bind (λρ'=>gs ds ρ')=some ρ':=e
    cases e1:g d1 ρ with
    |none=>rw[e1] at e;cases e
    |some ρ1=>
     rw[e1] at e;exact⟨_,_,rfl,d1,sr,r1,ρ1,e1,λH1 k1 s1=>⟨(ρ1,ds),s1,r2.mono k1.vw,ρ',e,λH2 k2 s2=>q H2 (k1.trans k2) s2⟩⟩
theorem pU {gs:ua}{kk n:Nat}(hc:X.calm=true)(h:GU X c es gs)(hn:(KR es X.env).length=n:=by rfl)(hst:(KR es X.env).findIdx? (·.1)=none:=by rfl):GK X c (.Tuple es kk pos) (gT n gs):=λhid ρ d=>
 PG.imp (zu hc (vn λds=>h hid ρ ds) hn hst) λv σ H Q hq_=>by
  obtain⟨sr,r,ρ',e,q⟩:=hq_
  unfold gT at e;split at e
  ·split at e
   ·cases r with
    |tup h1 h2=>exact⟨_,_,rfl,Same.seqT (dI _ _) h1,by rw[h2.length];assumption,_,sr,h2,ρ',e,q⟩
   ·cases e
  ·cases e
def ItOk(K:Iz)(W:Hp)(J:It)(ds:List D):Prop:=
 (∀(i:Nat) (d:D) (H:Hp),ds[i]? =some d->Same W H->J.go i H/\ ∀x H',J.yld i H x H'->Same H H'/\ ∀hid:bq,(∀b,hid b=true-> ∃o,H b=some o)->Same W (vw H hid)->Rep K (vw H' hid) x d)/\ ∀H,Same W H->J.stop ds.length H
def Ie(K:Iz)(c:Ct)(hid:bq)(f:GA)(ρ:az):TI:=λσ H R=>SR K c hid ρ σ H/\ ∃ds ρ',f ρ=some (ds,ρ')/\ ∀J H',Kept hid H H'->SR K c hid ρ' σ H'->ItOk K (vw H' hid) J ds->R J H'
def DI(X:Cx)(c:Ct)(tg iter:Expr)(f:GA):Prop:= ∀hid ρ,PI X tg iter (Ie X.K c hid f ρ)
theorem PI.imp {t t':TI}(h:PI X tg iter t)(i: ∀σ H Q,t' σ H Q->t σ H Q):PI X tg iter t':=λaa s σ H R I q=>h aa s σ H R I (i σ H R q)
theorem Ho {α:Type}{t:α->TI}(h: ∀z,PI X tg iter (t z)):PI X tg iter (λσ H R=> ∃z,t z σ H R):=λaa s σ H R I ⟨z,q⟩=>h z aa s σ H R I q
theorem Ae {K:Iz}{W:Hp}{a:Addr}{xs:List V}{ds:List D}(h:SqT K W a xs)(r:Reps K W xs ds):ItOk K W (Hc K a) ds:=by
 refine⟨λi d H e s=>?_,λH s=>⟨xs,Same.seqT s h,by rw[r.length];exact Iv _⟩⟩
 obtain⟨x,e1,r1⟩:=r.get e
 refine⟨⟨xs,x,Same.seqT s h,e1⟩,λy H' ⟨e2,e3⟩=>?_⟩
 subst e2;have:=e3 xs (Same.seqT s h)
 rw[e1] at this;cases this;exact⟨Same.refl _,λhid _ sw=>r1.mono sw⟩
def qX(lo:Int)(n:Nat):List D:=(Iy n).map λ(i:Nat)=>D.int (lo+i)
theorem nh {K:Iz}{W:Hp}{lo:Int}{n:Nat}:ItOk K W (GJ lo n) (qX lo n):=by
 refine⟨λi d H e s=>?_,λH s=>by show n<=(qX lo n).length;simp[qX]⟩
 unfold qX at e;rw[JO] at e;cases e1:(Iy n)[i]? with
 |none=>rw[e1] at e;cases e
 |some j=>
  rw[e1] at e;obtain⟨h1,h2⟩:=IE.mp e1
  simp at h1 h2;subst h2;cases e
  refine⟨h1,λy H' ⟨e2,e3⟩=>?_⟩
  subst e2 e3;exact⟨Same.refl _,λhid _ sw=>.int⟩
def xv(f:GA):GA:=λρ=>match f ρ with
 |some ([.int j],ρ')=>if j.natAbs<4000000000 then some (qX 0 j.toNat,ρ') else none
 |_=>none
theorem xg {a:Expr}{f:GA}{p:Pos}(hm:X.mg "range"=none)(ha:DG X c [a] f)(hg:Gl X "range":=by rfl)(hs:ID [a] X.env=[(false,eval a X.env)]:=by rfl):DI X c tg (.Call (.Name "range" p) [a] [] pos) (xv f):=λhid ρ=>
 PI.imp (pG hg hm (ha hid ρ) hs) λσ H R hq_=>by
  obtain⟨sr,ds,ρ',e,q⟩:=hq_
  unfold xv at e;split at e
  ·split at e
   ·cases e
    refine⟨sr,_,_, ‹_›,λvs H' kp s' r=>?_⟩
    cases r with
    |cons r t=>cases t;cases r;exact⟨_,rfl,by omega,by omega,q _ H' kp s' nh⟩
   ·cases e
  ·cases e
def dP(g:FG)(b:FS):List D->FS
 | [],ρ=>.nx ρ
 |d::r,ρ=>match g d ρ with
  |none=>.no
  |some ρ1=>match b ρ1 with
   | .nx ρ2=>dP g b r ρ2
   | .ct ρ2=>dP g b r ρ2
   | .bk ρ2=>.nx ρ2
   | .rt d ρ2=>.rt d ρ2
   | .no=>.no
def dE(f:GA)(g:FG)(b:FS):FS:=λρ=>match f ρ with
 |some (ds,ρ')=>dP g b ds ρ'
 |none=>.no
theorem fK {f:GA}{g:FG}{tb:FS}(hp:RU (model X.prog X.w) X.A X.env X.xe)(hc:X.calm=true)(hi:DI X c tg iter f)(hg:rB X c tg g)(hb:tO X c k body tb)
 (hs: ∀x,Kp iter X.env x=pure x:=by intro _;rfl):DS X c k (.For tg iter body [] pos) (dE f g tb):=λρ=>
 PS.imp (Dq hp hc (Ho λhid=>hi hid ρ) (zK λz:bq×az×D=>hg z.1 z.2.1 z.2.2) (rT λρ=>hb ρ) hs) λD σ H hq_=>by
  obtain⟨hid,sr,q⟩:=hq_
  unfold dE at q;cases e1:f ρ with
  |none=>rw[e1] at q;exact q.elim
  |some z=>
   obtain⟨ds,ρ0⟩:=z
   rw[e1] at q;have q':EndOk X.K c k D (vw H hid) (dP g tb ds ρ0):=q
   refine⟨hid,sr,ds,ρ0,e1,λJ H1 kp s1 it=>?_⟩
   refine⟨λi m σ H=>m=ds.length-i/\i<=ds.length/\ ∃hid2 ρ2,SR X.K c hid2 ρ2 σ H/\Same (vw H1 hid) (vw H hid2)/\EndOk X.K c k D (vw H hid2) (dP g tb (ds.drop i) ρ2),⟨ds.length,by simp,JV _,hid,ρ0,s1,Same.refl _,EndOk.mono q' kp.vw⟩,?_⟩
   rintro i m σ2 H2 ⟨rfl,hi',hid2,ρ2,s2,w2,q2⟩
   have wH:Same (vw H1 hid) H2:=w2.trans (dI _ _)
   by_cases hlt:i<ds.length
   ·have hd:ds[i]? =some ds[i]:=Iq hlt
    have e2:ds.drop i=ds[i]::ds.drop (i+1):=Le hlt
    rw[e2] at q2;unfold dP at q2;obtain⟨go,yl⟩:=it.1 i ds[i] H2 hd wH
    refine .inr ⟨go,λσ' H'=> ∃hid3 ρ3,SR X.K c hid3 ρ3 σ' H'/\Same (vw H1 hid) (vw H' hid3)/\EndOk X.K c k D (vw H' hid3) (dP g tb (ds.drop (i+1)) ρ3),λσ' H' n3=>⟨ds.length- (i+1),by omega,rfl,hlt,n3⟩,λx H3 y=>?_⟩
    obtain⟨s3,rp⟩:=yl x H3 y
    have rx:=rp hid2 s2.tr w2
    cases e3:g ds[i] ρ2 with
    |none=>rw[e3] at q2;exact q2.elim
    |some ρ3=>
     rw[e3] at q2;refine⟨(hid2,ρ2,ds[i]),s2.ext s3,rx,ρ3,e3,λσ4 s4 _=>⟨ρ3,hid2,s4,?_⟩⟩
     have w3:Same (vw H2 hid2) (vw H3 hid2):=aH s3
     dsimp only at q2;cases e4:tb ρ3 with
     |nx ρ5=>rw[e4] at q2;exact λσ' H' hid' z w=>⟨hid',ρ5,z,(w2.trans w3).trans w,EndOk.mono q2 (w3.trans w)⟩
     |ct ρ5=>rw[e4] at q2;exact λσ' H' hid' z w=>⟨hid',ρ5,z,(w2.trans w3).trans w,EndOk.mono q2 (w3.trans w)⟩
     |bk ρ5=>rw[e4] at q2;exact λσ' H' hid' z w=>q2 σ' H' hid' z (w3.trans w)
     |rt d ρ5=>rw[e4] at q2;exact q2
     |no=>rw[e4] at q2;exact q2.elim
   ·have e:i=ds.length:=by omega
    subst e;rw[Lz (Iv _)] at q2;exact .inl ⟨it.2 H2 wH,q2 σ2 H2 hid2 s2 (Same.refl _)⟩
def xV(p:FT)(b:FS):Nat->FS
 |0,_=>.no
 |n+1,ρ=>match p ρ with
  |none=>.no
  |some false=>.nx ρ
  |some true=>match b ρ with
   | .nx ρ2=>xV p b n ρ2
   | .ct ρ2=>xV p b n ρ2
   | .bk ρ2=>.nx ρ2
   | .rt d ρ2=>.rt d ρ2
   | .no=>.no
theorem AN(n:Nat){p:FT}{tb:FS}(hp:RU (model X.prog X.w) X.A X.env X.xe)(hc:DT X c e p)(hb:tO X c k body tb):DS X c k (.While e body [] pos) (xV p tb n):=λρ=>
 PS.imp (z9 hp (Fc λz:bq×az=>hc z.1 z.2) (rT λρ=>hb ρ)) λD σ H hq_=>by
  obtain⟨hid,sr,q⟩:=hq_
  refine⟨λm σ H=> ∃hid2 ρ2,SR X.K c hid2 ρ2 σ H/\EndOk X.K c k D (vw H hid2) (xV p tb m ρ2),⟨n,hid,ρ,sr,q⟩,?_⟩
  rintro m σ2 H2 ⟨hid2,ρ2,s2,q2⟩
  cases m with
  |zero=>exact q2.elim
  |succ m=>
   unfold xV at q2;cases e1:p ρ2 with
   |none=>rw[e1] at q2;exact q2.elim
   |some b=>
    rw[e1] at q2;refine⟨(hid2,ρ2),s2,b,e1,λH3 s3=>?_⟩
    cases b with
    |false=>exact uL (q2 σ2 H3 hid2 (s2.ext s3) (aH s3))
    |true=>
     refine t9 ⟨λσ' H'=> ∃hid3 ρ3,SR X.K c hid3 ρ3 σ' H'/\EndOk X.K c k D (vw H' hid3) (xV p tb m ρ3),λσ' H' n3=>⟨m,Ky _,n3⟩,ρ2,hid2,s2.ext s3,?_⟩
     have w3:Same (vw H2 hid2) (vw H3 hid2):=aH s3
     dsimp only at q2;cases e4:tb ρ2 with
     |nx ρ5=>rw[e4] at q2;exact λσ' H' hid' z w=>⟨hid',ρ5,z,EndOk.mono q2 (w3.trans w)⟩
     |ct ρ5=>rw[e4] at q2;exact λσ' H' hid' z w=>⟨hid',ρ5,z,EndOk.mono q2 (w3.trans w)⟩
     |bk ρ5=>rw[e4] at q2;exact λσ' H' hid' z w=>q2 σ' H' hid' z (w3.trans w)
     |rt d ρ5=>rw[e4] at q2;exact q2
     |no=>rw[e4] at q2;exact q2.elim
end
def ou(n:Nat)(ds:List D):az:=ds.map Sl.v++IC (n-ds.length) .no
def gm(kd:Kd)(n:Nat)(t:FS)(ds:List D):Option D:=match t (ou n ds) with
 | .rt d _=>some d
 | .nx _=>(match kd with
   | .n=>none
   |_=>some .non)
 |_=>none
def gr(n:Nat)(bs ds:List D):az:=.arg bs::(ds.map Sl.v++IC (n-1-ds.length) .no)
def lZ:az->Option (List D)
 | .arg bs::_=>some bs
 |_=>none
def tR(kd:Kd)(n:Nat)(t:FS)(bs ds:List D):Option (D×List D):=match t (gr n bs ds) with
 | .rt d ρ=>(lZ ρ).map λb=>(d,b)
 | .nx ρ=>(match kd with
   | .n=>none
   |_=>(lZ ρ).map λb=>(.non,b))
 |_=>none
theorem yW {K:Iz}{c:Ct}{hid:bq}{H:Hp}(m:Nat): ∀ {vs:List V} {ds:List D},Reps K (vw H hid) vs ds-> ∀(i:Nat) (s:Sl),(ds.map Sl.v++IC m .no)[i]? =some s->SlOk K c hid (vs.map some++IC m none) H i s:=by
 intro vs ds r i s e;have hl:=r.length
 by_cases hi:i<ds.length
 ·rw[Js (by simpa using hi),JO] at e
  have e2:ds[i]? =some ds[i]:=Iq hi
  rw[e2] at e;cases e
  obtain⟨x,h1,h2⟩:=r.get e2
  exact⟨x,by rw[Js (by simp;omega),JO,h1];rfl,h2⟩
 ·rw[JE (by simpa using hi),Kb] at e
  split at e
  ·cases e;trivial
  ·cases e
theorem Dt {ds:List D}{m i:Nat}: ¬Ow (ds.map Sl.v++IC m Sl.no)[i]? :=λo=>by
 by_cases hi:i<ds.length
 ·rw[Js (by simpa using hi),JO,Iq hi] at o
  exact o
 ·rw[JE (by simpa using hi),Kb] at o
  split at o<;>exact o
theorem SR.begins {K:Iz}{hid:bq}{H:Hp}{N:List Str}{vs:List V}{ds:List D}(tr:GC hid H)(r:Reps K (vw H hid) vs ds):SR K ⟨H,hid,λ_=>false⟩ hid (ou N.length ds) (start N vs) H:=by
 have hl:=r.length
 unfold start ou;rw[hl];exact⟨tr.1,tr.2,λ_ h=>h,λ_ _ h _=>h,λb o h=>⟨o,h⟩,tr.1,(λ_ h=>nomatch h),by simp[hl],λi s e=>yW _ r i s e,λi j a _ o=>absurd o Dt⟩
section
variable {P:Jf}{w:Jr}{K:Iz}{mg:Str->Option Il}{base:Heap}{x qual:Str}{st:Stmt}{f:Addr}{fd:LM}{N ps:List Str}{k:Nat}{t:FS}{kd:Kd}
theorem wE(F:Fun K x qual st f fd)(S:FnScope N ps (ai st))(hkd:kd≠ .b)
 (body: ∀(cdv:Il) (A:Jm) (outer:List Env) (s:Io) (H:Hp) (hid:bq) (E:XK),Room k (A.deeper (Oj qual (ai st) s.heap.objs.size f cdv))->
   tO (oB qY P w K mg base N qual (ai st) f cdv A outer s H E).nox ⟨H,hid,λ_=>false⟩ kd (aK st) t):
 FnOk P w K mg base qY (k+1) f fd ps (eS K kd ps.length (gm kd N.length t)):=by
 refine F.ok S (λvs H Q E h=>?_) (λcdv A outer s H vs Q E hr h=>?_)
 ·obtain⟨hid,ds,_,r,hl,_⟩:=h
  rw[r.length,hl]
 ·obtain⟨hid,ds,tr,r,hl,d,hP,q⟩:=h
  refine⟨_,body cdv A outer s H hid E hr (ou N.length ds),hid,SR.begins tr r,?_⟩
  unfold gm at hP;cases e:t (ou N.length ds) with
  |nx ρ=>
   rw[e] at hP;intro σ' H' hid' sr _;have sm:Same H H':=λb o z=>sr.kp b o z rfl
   cases kd with
   |b=>exact absurd rfl hkd
   |s=>cases hP;exact q _ H' sm .non
   |n=>cases hP
  |rt d' ρ=>
   rw[e] at hP;cases hP
   intro v H' R;have sm:Same H H':=λb o z=>R.kp b o z rfl
   cases kd with
   |b=>exact absurd rfl hkd
   |s=>exact q v H' sm R.val
   |n=>exact q v H' sm R.val
  |bk ρ=>rw[e] at hP;cases hP
  |ct ρ=>rw[e] at hP;cases hP
  |no=>rw[e] at hP;cases hP
theorem SR.beginsE {hid:bq}{H:Hp}{a:Addr}{xs us:List V}{bs ds:List D}(tr:GC hid H)(ha:hid a=true)(hx:H a=some (.lst xs))(rb:Reps K (vw H hid) xs bs)(r:Reps K (vw H hid) us ds)(hN:0<N.length):
 SR K ⟨H,hid,λb=>decide (b=a)⟩ hid (gr N.length bs ds) (start N (.ref a::us)) H:=by
 have hl:=r.length
 have es:start N (.ref a::us)=some (V.ref a)::(us.map some++IC (N.length-1-ds.length) none):=by
  unfold start;rw[Ix,List.cons_append,Jg,hl];congr 3
  omega
 rw[es];unfold gr;refine⟨tr.1,tr.2,λ_ h=>h,λ_ _ h _=>h,λb o h=>⟨o,h⟩,tr.1,λb h=>?_,by simp[hl],λi s e=>?_,λi j z n o1 o2 q1 q2=>?_⟩
 ·have:b=a:=by simpa using h
  rw[this];exact ha
 ·cases i with
  |zero=>
   cases e
   exact⟨a,xs,rfl,hx,ha,by simp,rb⟩
  |succ i=>
   have z:=yW (c:=⟨H,hid,λb=>decide (b=a)⟩) (N.length-1-ds.length) r i s (by simpa using e)
   cases s with
   |no=>trivial
   |v d=>obtain⟨x,h1,h2⟩:=z;exact⟨x,by simpa using h1,h2⟩
   |own ds=>obtain⟨x,xs,h1,h2⟩:=z;exact⟨x,xs,by simpa using h1,h2⟩
   |arg ds=>obtain⟨x,xs,h1,h2⟩:=z;exact⟨x,xs,by simpa using h1,h2⟩
   |ob b=>obtain⟨x,h1,h2⟩:=z;exact⟨x,by simpa using h1,h2⟩
 ·cases i with
  |zero=>
   cases j with
   |zero=>exact n rfl
   |succ j=>exact Dt (by simpa using o2)
  |succ i=>exact Dt (by simpa using o1)
theorem wS {ρ:az}{b:List D}(h:lZ ρ=some b):ρ[0]? =some (.arg b):=by
 unfold lZ at h;split at h
 ·cases h;rfl
 ·cases h
theorem EY {n:Nat}(F:Fun K x qual st f fd)(S:FnScope N ps (ai st))(hkd:kd≠ .b)(hn:ps.length=n+1)
 (body: ∀(cdv:Il) (A:Jm) (outer:List Env) (s:Io) (H:Hp) (hid:bq) (a:Addr) (E:XK),Room k (A.deeper (Oj qual (ai st) s.heap.objs.size f cdv))->
   tO (oB qY P w K mg base N qual (ai st) f cdv A outer s H E).nox ⟨H,hid,λb=>decide (b=a)⟩ kd (aK st) t):
 FnOk P w K mg base qY (k+1) f fd ps (rK K kd n (tR kd N.length t)):=by
 refine F.ok S (λvs H Q E h=>?_) (λcdv A outer s H vs Q E hr h=>?_)
 ·obtain⟨hid,a,xs,bs,us,ds,rfl,_,_,_,_,r,hl,_⟩:=h
  rw[Jg,r.length,hl,hn]
 ·obtain⟨hid,a,xs,bs,us,ds,rfl,tr,ha,hx,rb,r,hl,d,bs',hM,q⟩:=h
  have hN:0<N.length:=by have:=congrArg KU S.pre;rw[Lg] at this;omega
  refine⟨_,body cdv A outer s H hid a E hr (gr N.length bs ds),hid,SR.beginsE tr ha hx rb r hN,?_⟩
  have fin: ∀(v:V) (H':Hp) (ρ:az) (d:D),Ret K ⟨H,hid,λb=>decide (b=a)⟩ kd ρ H' v d->lZ ρ=some bs'->(∀v H' xs',(∀b o,H b=some o->b≠a->H' b=some o)->H' a=some (.lst xs')->FQ K kd hid H H' v d xs' bs'->Q v H')->Q v H':=by
   intro v H' ρ d R h0 q;obtain⟨a',xs',m1,m2,m3⟩:=R.arg 0 _ (wS h0)
   have:a'=a:=by simpa using m1
   subst this;refine q v H' xs' (λb o z n=>R.kp b o z (by simpa using n)) m2 ?_
   cases kd with
   |b=>exact absurd rfl hkd
   |s=>exact⟨R.val,m3⟩
   |n=>
    obtain⟨p,ys,es,rfl,rfl,h1,h2,h3⟩:=R.val
    exact⟨p,ys,es,rfl,rfl,h1,h2,h3,m3⟩
  unfold tR at hM;cases e:t (gr N.length bs ds) with
  |nx ρ=>
   rw[e] at hM;intro σ' H' hid' sr _;cases kd with
   |b=>exact absurd rfl hkd
   |s=>
    dsimp only at hM;cases e0:lZ ρ with
    |none=>rw[e0] at hM;cases hM
    |some b=>
     rw[e0] at hM;cases hM;exact fin .non H' ρ .non (C8 (k:=.s) (by decide) (sr.post (k:=.s) (Same.refl _) .non (by decide)) sr.h0) e0 q
   |n=>cases hM
  |rt d' ρ=>
   rw[e] at hM;dsimp only at hM;cases e0:lZ ρ with
   |none=>rw[e0] at hM;cases hM
   |some b=>
    rw[e0] at hM;cases hM;intro v H' R;exact fin v H' ρ _ R e0 q
  |bk ρ=>rw[e] at hM;cases hM
  |ct ρ=>rw[e] at hM;cases hM
  |no=>rw[e] at hM;cases hM
end
def vD(K:Iz):Sp:=λvs H Q _=> ∃(a:Addr) (ns:List Int),vs=[.ref a]/\SqR K H a (ns.map V.int)/\ns.length<=63/\ ∀H',Q (.bl true) H'
theorem pC {K:Iz}{F:Hp}: ∀ns:List Int,Reps K F (ns.map V.int) (ns.map D.int)
 | []=>.nil
 |_::r=>.cons .int (pC r)
theorem D1 {P:Jf}{w:Jr}{K:Iz}{mg:Str->Option Il}{base:Heap}{f:Addr}{fd:LM}{x:Str}{k:Nat}{M:List D->Option D}(F:FnOk P w K mg base qY k f fd [x] (eS K .s 1 M))(hM: ∀ns:List Int,ns.length<=63->M [.scr (ns.map D.int)]=some (.bl true)):
 FnOk P w K mg base qY k f fd [x] (vD K):=F.imp λvs H Q E hq_=>by
 obtain⟨a,ns,e,hS,hl,q⟩:=hq_
 subst e;have hv:vw H (λ_=>false)=H:=by funext b;unfold vw;simp
 refine⟨λ_=>false,[.scr (ns.map D.int)],⟨(λb h=>nomatch h),(λb xs h=>nomatch h)⟩,?_,rfl,.bl true,hM ns hl,λv H' _ r=>?_⟩
 ·rw[hv];exact .cons (.scr hS (pC ns)) .nil
 ·cases r;exact q H'
theorem walkD {l:Uu}{k:Nat}{x:Str}{q:Jf}{loose:List Str}{XP:(Str->Option Il)->Heap->Prop}{YP:Jr->Heap->Prop}{d:DefRec}{K:XZ->Iz}(hn:l.most=some 63)(hdf:d.params.defaults=[])(hr:Room k PM)
 (hY: ∀(w:Jr) (h:Heap),YP w h->(K w.params).In h)
 (F: ∀(w:Jr) (mg:Str->Option Il) (fa:Addr) (h:Heap),(K w.params).In h->h.Ns IW mg->mg d.name=some (.ref fa)->
   ∃fd:LM,(∀(s:Io) (u:Il),Ru s fd ⟨[u],[]⟩ [(x,u)])/\ ∀base:Heap,(K w.params).In base->base.Ns IW mg->FnOk l.prog w (K w.params) mg base qY k fa fd [x] (vD (K w.params))):
 W.WalkO q loose XP YP l.row.toRowW d [] (λf vs=>Tf f vs):=
 L2.walk_of (n:=63) (k:=k) (x:=x) (CX:=λ_=>qY) (sp:=λw=>vD (K w.params)) hn (by decide) hdf hr hY F (λ_ H a ns hl hO hS=>⟨a,ns,rfl,hS.elim (λr=>r.elim (λe=>by rcases hO a with z|⟨o,xs,z⟩<;>rw[z] at e<;>cases e) .inl) .inr,hl,λ_=>rfl⟩) λ_ _ _ _ _ z=>z
def qT(cells:List (Str×Addr)):List (Str×Lv)->List (Str×Addr)->List (Str×Addr)
 | [],acc=>acc
 |(n,k)::r,acc=>qT cells r (if k== .free then(match cells.lookup n with
  |some c=>(n,c)::acc
  |none=>acc) else acc)
theorem qL {cells:List (Str×Addr)}: ∀ {names:List (Str×Lv)} {acc:List (Str×Addr)},(∀p∈acc,cells.lookup p.1=some p.2)-> ∀p∈qT cells names acc,cells.lookup p.1=some p.2
 | [],acc,h,p,hp=>h p hp
 |(n,k)::r,acc,h,p,hp=>by
  refine qL (names:=r) ?_ p hp
  intro q hq;split at hq
  ·split at hq
   ·rename_i c e
    rcases Jn.mp hq with rfl|hq
    ·exact e
    ·exact h q hq
   ·exact h q hq
  ·exact h q hq
theorem tN {cells:List (Str×Addr)}: ∀ {names:List (Str×Lv)} {acc:List (Str×Addr)} (p:Str×Addr),p∈qT cells names acc->p∈acc\/(p.1,K3)∈names
 | [],acc,p,hp=>.inl hp
 |(n,k)::r,acc,p,hp=>by
  rcases tN (names:=r) p hp with hq|hq
  ·split at hq
   ·rename_i ek
    split at hq
    ·rcases Jn.mp hq with e|hq
     ·subst e
      have:k=.free:=by simpa using ek
      subst this;exact .inr Jh
     ·exact .inl hq
    ·exact .inl hq
   ·exact .inl hq
  ·exact .inr (IZ _ hq)
theorem tw {cells:List (Str×Addr)}: ∀ {names:List (Str×Lv)} {acc:List (Str×Addr)} {p:Str×Addr},p∈acc->p∈qT cells names acc
 | [],acc,p,h=>h
 |(n,k)::r,acc,p,h=>by
  refine tw (names:=r) ?_
  split
  ·split
   ·exact IZ _ h
   ·exact h
  ·exact h
theorem vx {cells:List (Str×Addr)}{x:Str}{c:Addr}(hc:cells.lookup x=some c): ∀ {names:List (Str×Lv)} {acc:List (Str×Addr)},(x,K3)∈names->(x,c)∈qT cells names acc
 | [],_,h=>nomatch h
 |(n,k)::r,acc,h=>by
  rcases Jn.mp h with e|h
  ·cases e
   refine tw (names:=r) ?_
   rw[if_pos (by rfl),hc]
   exact Jh
  ·exact vx hc (names:=r) h
theorem oC {l:List (Str×Addr)}{x:Str}{c:Addr}(h:(x,c)∈l)(u: ∀p∈l,p.1=x->p.2=c):l.lookup x=some c:=by
 induction l with
 |nil=>exact nomatch h
 |cons p r ih=>
  obtain⟨n,a⟩:=p
  rw[LF];cases e:x==n with
  |true=>
   have e':x=n:=eq_of_beq e
   have:=u (n,a) Jh e'.symm
   simpa using this
  |false=>
   have ne:x≠n:=λe'=>by rw[e'] at e;simp at e
   rcases Jn.mp h with e'|h
   ·cases e';exact absurd rfl ne
   ·exact ih h λp hp=>u p (IZ _ hp)
theorem ub {cells:List (Str×Addr)}{names:List (Str×Lv)}{x:Str}{c:Addr}(h:(qT cells names []).lookup x=some c):cells.lookup x=some c:=
 qL (names:=names) (acc:=[]) (λ_ z=>nomatch z) (x,c) (JQ h)
theorem lT {cells:List (Str×Addr)}{names:List (Str×Lv)}{x:Str}{c:Addr}(hc:cells.lookup x=some c)(hf:(x,K3)∈names):(qT cells names []).lookup x=some c:=
 oC (vx hc hf) λp hp e=>by
  have:=qL (names:=names) (acc:=[]) (λ_ z=>nomatch z) p hp
  rw[e,hc] at this;exact(Jv this).symm
theorem fD {scope:LB}{env:Env}(h: ∀x,(x,K3)∈scope.names-> ∃c,env.cells.lookup x=some c):closureFor scope env=pure (qT env.cells scope.names []):=by
 unfold closureFor;have key: ∀(names:List (Str×Lv)) (acc:List (Str×Addr)),(∀x,(x,K3)∈names-> ∃c,env.cells.lookup x=some c)->
  (forIn names acc (λ(p:Str×Lv) (r:List (Str×Addr))=>match p with
    |(name,kind)=>if(kind==K3)=true then do
       let __do_lift <-cellOf env name
       pure (ForInStep.yield ((name,__do_lift)::r)) else pure (ForInStep.yield r)):Sem (List (Str×Addr)))=pure (qT env.cells names acc):=by
  intro names
  induction names with
  |nil=>intro acc _;rfl
  |cons p r ih=>
   intro acc h;obtain⟨n,k⟩:=p
   rw[List.forIn_cons];have hr: ∀x,(x,K3)∈r-> ∃c,env.cells.lookup x=some c:=λx hx=>h x (IZ _ hx)
   cases e:k==K3 with
   |false=>
    simp only[e,IB,if_false,pure_bind];rw[ih acc hr]
    conv=>rhs;unfold qT
    simp[e]
   |true=>
    have ek:k=.free:=by simpa using e
    subst ek;obtain⟨c,hc⟩:=h n Jh
    have ec:cellOf env n=pure c:=by unfold cellOf;rw[hc]
    simp only[beq_self_eq_true,if_true,ec,pure_bind];rw[ih _ hr]
    conv=>rhs;unfold qT
    simp[hc]
 have:=key scope.names [] h
 simp only[this,pure_bind]
theorem gK {sc:LB}{env:Env}{x:Str}{k:Lv}(h:(N5 sc env).names.lookup x=some k): ∃k0,sc.names.lookup x=some k0/\(k=k0\/(k0=.free/\k=.cell)):=by
 unfold N5 at h;dsimp only at h
 generalize sc.names=l at h⊢
 induction l with
 |nil=>simp at h
 |cons p r ih=>
  obtain⟨n,k1⟩:=p
  rw[Ix] at h;dsimp only at h;rw[LF];cases hx:x==n with
  |true=>
   refine⟨k1,rfl,?_⟩
   split at h
   ·rename_i hc
    rw[LF] at h;simp only[hx] at h;cases h
    have:k1=.free:=by
     simp only[JB] at hc;exact eq_of_beq hc.1.1
    exact .inr ⟨this,rfl⟩
   ·rw[LF] at h
    simp only[hx] at h;cases h
    exact .inl rfl
  |false=>
   split at h
   ·rw[LF] at h;simp only[hx] at h;exact ih h
   ·rw[LF] at h;simp only[hx] at h;exact ih h
def nK(cells:List (Str×Addr))(scope:LB)(C:Addr):List (Str×Addr):=K8 (C+1) scope.names (qT cells scope.names [])
theorem bm: ∀(names:List (Str×Lv)) (n:Nat) (acc:List (Str×Addr)),K8 n names acc=K8 n names []++acc
 | [],_,_=>rfl
 |(name,kind)::r,n,acc=>by
  unfold K8;split
  ·rw[bm r (n+1) ((name,n)::acc),bm r (n+1) [(name,n)],Jb];rfl
  ·exact bm r n acc
theorem p9: ∀ {names:List (Str×Lv)} {n:Nat} {p:Str×Addr},p∈K8 n names []->(p.1,My)∈names
 | [],_,_,h=>nomatch h
 |(name,kind)::r,n,p,h=>by
  unfold K8 at h;split at h
  ·rename_i hk
   have hk':kind=.cell:=by simpa using hk
   subst hk';rw[bm] at h;rcases IQ.mp h with h|h
   ·exact IZ _ (p9 h)
   ·rw[Jc.mp h];exact Jh
  ·exact IZ _ (p9 h)
theorem ln: ∀ {names:List (Str×Lv)} {n:Nat} {x:Str},(x,My)∈names-> ∃c,(x,c)∈K8 n names []
 | [],_,_,h=>nomatch h
 |(name,kind)::r,n,x,h=>by
  unfold K8;rcases Jn.mp h with e|h
  ·cases e
   rw[if_pos (by rfl),bm]
   exact⟨n,IK _ Jh⟩
  ·split
   ·obtain⟨c,hc⟩:=ln (n:=n+1) h
    rw[bm];exact⟨c,Jk _ hc⟩
   ·exact ln h
theorem uM {l:List (Str×Addr)}{x:Str}{c:Addr}(h:(x,c)∈l): ∃c',l.lookup x=some c':=by
 induction l with
 |nil=>exact nomatch h
 |cons p r ih=>
  obtain⟨n,a⟩:=p
  rw[LF];cases e:x==n with
  |true=>exact⟨a,rfl⟩
  |false=>
   rcases Jn.mp h with e'|h
   ·cases e';simp at e
   ·exact ih h
theorem dR {cells:List (Str×Addr)}{sc:LB}{C:Addr}{x:Str}{c:Addr}(h:(nK cells sc C).lookup x=some c):(x,c)∈K8 (C+1) sc.names []\/(qT cells sc.names []).lookup x=some c:=by
 unfold nK at h;rw[bm,OJ] at h;cases e:(K8 (C+1) sc.names []).lookup x with
 |none=>rw[e] at h;exact .inr h
 |some c'=>rw[e] at h;cases h;exact .inl (JQ e)
theorem yS {cells:List (Str×Addr)}{sc:LB}{C:Addr}{x:Str}(h:(x,My)∈sc.names): ∃c,(nK cells sc C).lookup x=some c:=by
 obtain⟨c,hc⟩:=ln (n:=C+1) h
 obtain⟨c',e⟩:=uM hc
 exact⟨c',by unfold nK;rw[bm,OJ,e];rfl⟩
theorem tL {cells:List (Str×Addr)}{sc:LB}{C:Addr}{x:Str}(h:(x,My)∉sc.names):(nK cells sc C).lookup x=(qT cells sc.names []).lookup x:=by
 unfold nK;rw[bm,OJ];cases e:(K8 (C+1) sc.names []).lookup x with
 |none=>rfl
 |some c'=>exact absurd (p9 (JQ e)) h
theorem vN {M:YD}{A:Jm}{E:Il->Io->Prop}{s:Io}{scope:LB}{globals:Addr}{closure:List (Str×Addr)}{qual:Str}{outer:Env}{Q:Env->Io->Prop}
 (hQ: ∀h',h'.Ns s.heap.objs.size (λ_=>none)->(∀b o,s.heap.get? b=some o->h'.get? b=some o)->CellsOk h' (s.heap.objs.size+1) (K8 (s.heap.objs.size+1) scope.names [])->
   Q (newEnv scope s.heap.objs.size globals (K8 (s.heap.objs.size+1) scope.names closure) qual none .none (some outer) Q7) {s with heap:=h',toks:=s.toks}):
 IF M A (OL scope globals closure [] qual none .none (some outer)) Q E s:=by
 simp only[OL,Ra,if_true];refine Ik (Sm ?_)
 refine Ik (wpAny_layCells _ (λname kind cells=>by cases hkc:kind==My<;>simp[hkc]) _ _ _ _ ?_)
 have ok:=cellsFrom_ok scope.names (s.heap.push {cls:=.type "dict",data:=.dict #[]}) (s.heap.objs.size+1) [] ⟨λ_ _ hm=>(nomatch hm),Mz⟩ (by rw[KN];exact Iv _)
 rw[KN] at ok;rw[show({s with heap:=s.heap.push {cls:=.type "dict",data:=.dict #[]}}:Io).heap.objs.size=s.heap.objs.size+1 from KN ..]
 rw[List.forIn_nil];refine Ik (Im (Im ?_))
 exact hQ _ ((Heap.Ns.new s.heap (.type "dict")).keeps (SA _ _)) (λb o e=>SA _ _ b o (Ip _ e)) ok
def aJ(X:Cx)(N':List Str)(scope:LB)(C:Addr)(s₀:Io)(H₀:Hp)(ex:List Addr):Cx where
 prog:=X.prog
 w:=X.w
 K:=X.K
 mg:=X.mg
 base:=X.base
 A:=X.A
 N:=N'
 s₀:=s₀
 H₀:=H₀
 env:=Rz scope (nK X.env.cells scope C) C X.env
 outer:=X.stack
 stack:=X.stack
 ex:=ex
 fn:=λx=>scope.names.lookup x==some .local||scope.names.lookup x==some .cell
 calm:=X.calm
 pn:=[]
 xe:=λ_ _=>False
def xU(N N':List Str)(sc:LB):Bool:=
 decide (N.length<=N'.length)&&((N'.take N.length).zip N).all (λp=>(p.1==p.2&& !(sc.names.lookup p.1==some .local)&& !(sc.names.lookup p.1==some .cell))||(sc.names.lookup p.1).isNone)&&
  (N'.drop N.length).all λx=>sc.names.lookup x==some .local||sc.names.lookup x==some .cell
def xT(sc:LB)(outer:LB):Bool:=
 sc.names.all λy=>(y.2 != .cell||sc.names.lookup y.1==some .cell)&&(y.2 != .local||sc.names.lookup y.1==some .local)&&(y.2 != .free||(sc.names.lookup y.1==some .free&&(outer.names.lookup y.1==some .cell||outer.names.lookup y.1==some .free)))
theorem sS {sc o:LB}(h:xT sc o=true): ∀y∈sc.names,y.2=.cell->sc.names.lookup y.1=some .cell:=λy hy e=>by
 have:=Mk.mp h y hy
 simpa [e] using this
theorem lD {sc o:LB}(h:xT sc o=true): ∀y∈sc.names,y.2=.local->sc.names.lookup y.1=some .local:=λy hy e=>by
 have:=Mk.mp h y hy
 simpa [e] using this
theorem iD {sc o:LB}(h:xT sc o=true): ∀x,(x,K3)∈sc.names->o.names.lookup x=some .cell\/o.names.lookup x=some .free:=λx hx=>by
 have:=Mk.mp h _ hx
 simpa using (by simpa using this:_/\_).2
theorem pq {sc o:LB}(h:xT sc o=true): ∀x,(x,K3)∈sc.names->sc.names.lookup x=some .free:=λx hx=>by
 have:=Mk.mp h _ hx
 simpa using (by simpa using this:_/\_).1
theorem wX {N N':List Str}{sc:LB}(h:xU N N' sc=true){i:Nat}{x:Str}(hi:i<N.length)(e:N'[i]? =some x)(hv: ∃k,sc.names.lookup x=some k/\(k=.local\/k=.cell\/k=.free)):N[i]? =some x/\sc.names.lookup x=some .free:=by
 unfold xU at h;simp only[JB,decide_eq_true_eq] at h;obtain⟨⟨h1,h2⟩,_⟩:=h
 have hN:N[i]? =some N[i]:=Iq hi
 have e1:(N'.take N.length)[i]? =some x:=by rw[L9 hi];exact e
 have hm:(x,N[i])∈(N'.take N.length).zip N:=by
  refine Jq (i:=i) ?_
  rw[Ld];exact⟨e1,hN⟩
 have:=Mk.mp h2 _ hm
 obtain⟨k,hk,hk2⟩:=hv
 dsimp only at this;rw[hk] at this;simp only[Option.isNone_some,T6,JB,J5] at this;obtain⟨⟨t1,t2⟩,t3⟩:=this
 have ex:x=N[i]:=eq_of_beq t1
 rcases hk2 with rfl|rfl|rfl
 ·simp at t2
 ·simp at t3
 ·exact⟨by rw[hN,<-ex],hk⟩
theorem Ch {N N':List Str}{sc:LB}(h:xU N N' sc=true):N.length<=N'.length:=by
 unfold xU at h;simp only[JB,decide_eq_true_eq] at h;exact h.1.1
section
variable {X:Cx}{aa:List (Addr×Obj)}{σ:St}{H:Hp}{s:Io}{scope:LB}{N':List Str}{fp:List Addr}
theorem xr(I:Inv X aa σ H s){b:Addr}(f:jg X aa H b):b∉qV X.stack:=λz=>by
 rcases Jn.mp (I.stkSub b z) with e|z
 ·exact f.2.1 e
 ·exact f.2.2.1 z
theorem rS {h':Heap}{tk:Nat}(I:Inv X aa σ H s)(hF: ∀b∈fp,jg X aa H b)(hO: ∀b∈fp,∃o,s.heap.get? b=some o)(hk:scope.kind=.function)(hs:xT scope X.env.scope=true)(hn:xU X.N N' scope=true)
 (ns:h'.Ns s.heap.objs.size λ_=>none) (kp: ∀b o,s.heap.get? b=some o->h'.get? b=some o) (oc:CellsOk h' (s.heap.objs.size+1) (K8 (s.heap.objs.size+1) scope.names [])):
 Inv (aJ X N' scope s.heap.objs.size s H fp) [] (σ++IC (N'.length-X.N.length) none) H {s with heap:=h',toks:=tk}:=by
 have hlen:=Ch hn
 have cl: ∀x c,(qT X.env.cells scope.names []).lookup x=some c->X.env.cells.lookup x=some c:=λx c e=>ub e
 have clt: ∀x c,(qT X.env.cells scope.names []).lookup x=some c->c<s.heap.objs.size:=λx c e=>let⟨_,z⟩:=I.cell x c (cl x c e);z.lt
 have newC:H s.heap.objs.size=none:=I.hok.fresh (Iv _)
 refine⟨⟨I.ok.mod,hk,I.ok.glob,I.ok.blt,Iv _,λx y c h1 h2=>?_,λx hx=>?_,λx c h1 h2=>?_,I.ok.hd,I.ok.frames,.inl rfl,λb hb=>⟨?_,λx c e=>?_⟩,I.bs,JS I.ok.bsz I.sz,λb o e hb=>?_,λb hb=>xr I (hF b hb),I.stack,I.stkFree⟩,
  rfl,I.bare,Un.kept kp,⟨_,ns,λi x v e1 e2 e3=>?_⟩,λx c e=>?_,newC,λx c e=>?_,λp hp=>absurd (show p∈([]:List (Addr×Obj)) from hp) (by simp),I.hok.kept kp,?_⟩
 ·
  rcases dR h1 with h1|h1<;>rcases dR h2 with h2|h2
  ·exact name_of_addr oc.apart h1 h2
  ·exact absurd (clt y c h2) (NU.mpr (MA (oc.empty _ _ h1).2))
  ·exact absurd (clt x c h1) (NU.mpr (MA (oc.empty _ _ h2).2))
  ·exact I.ok.inj x y c (cl x c h1) (cl y c h2)
 ·
  have hx':(N5 scope X.env).names.lookup x=some .cell\/(N5 scope X.env).names.lookup x=some .free:=hx
  have:(x,My)∈scope.names\/(x,K3)∈scope.names:=by
   rcases hx' with hx'|hx'
   ·obtain⟨k0,e0,e1|⟨e1,_⟩⟩:=gK hx'
    ·subst e1;exact .inl (JQ e0)
    ·subst e1;exact .inr (JQ e0)
   ·obtain⟨k0,e0,e1|⟨_,e1⟩⟩:=gK hx'
    ·subst e1;exact .inr (JQ e0)
    ·cases e1
  rcases this with this|this
  ·exact yS this
  ·have hc:=iD hs x this
   obtain⟨c,e⟩:=I.ok.has x hc
   exact⟨c,(tL λz=>by have z1:=sS hs _ z rfl;have z2:=pq hs x this;rw[z2] at z1;cases z1).trans (lT e this)⟩
 ·
  have h1':scope.names.lookup x=some .local\/scope.names.lookup x=some .cell:=by
   have h1:(scope.names.lookup x==some .local||scope.names.lookup x==some .cell)=true:=h1
   simpa using h1
  rcases dR h2 with h2|h2
  ·exact MA (oc.empty _ _ h2).2
  ·exfalso
   rcases tN _ (JQ h2) with z|z
   ·exact nomatch z
   ·rw[pq hs x z] at h1';rcases h1' with h1'|h1'<;>cases h1'
 ·obtain⟨o,e⟩:=hO b hb
  exact Jp (IJ e)
 ·rcases dR e with e|e
  ·obtain⟨o,e'⟩:=hO b hb
   exact λz=>absurd (IJ e') (NU.mpr (z▸MA (oc.empty _ _ e).2))
  ·exact(hF b hb).2.2.2.2.1 x c (cl x c e)
 ·obtain⟨_,_,_,h4,_⟩:=hF b hb
  rcases h4 with h4|h4
  ·exact I.ok.noex b o e h4
  ·exact absurd (IL (IJ e) (JS I.ok.bsz h4)) (LA _)
 ·have hi:i<X.N.length:=by
   by_cases hi:i<σ.length
   ·rw[<-I.len];exact hi
   ·rw[JE (by omega),Kb] at e2
    split at e2<;>cases e2
  rw[Js (by rw[I.len];exact hi)] at e2
  have e3':(N5 scope X.env).names.lookup x=some .local\/(N5 scope X.env).names.lookup x=some .cell\/(N5 scope X.env).names.lookup x=some .free:=e3
  have hv: ∃k,scope.names.lookup x=some k/\(k=.local\/k=.cell\/k=.free):=by
   rcases e3' with z|z|z
   all_goals
    obtain⟨k0,q0,q1|⟨q1,q2⟩⟩:=gK z
    ·subst q1;exact⟨_,q0,by simp⟩
    ·subst q1;exact⟨_,q0,by simp⟩
  obtain⟨hN,hf⟩:=wX hn hi e1 hv
  have hfm:=JQ hf
  have hc:=iD hs x hfm
  have nc:(x,My)∉scope.names:=λz=>by have z1:=sS hs _ z rfl;rw[hf] at z1;cases z1
  obtain⟨m,hm,hl⟩:=I.loc
  obtain⟨u,r,l⟩:=hl i x v hN e2 (.inr hc)
  refine⟨u,r,.inr ⟨?_,?_⟩⟩
  ·show(N5 scope X.env).names.lookup x=some .cell\/(N5 scope X.env).names.lookup x=some .free
   rcases e3' with z|z|z
   ·obtain⟨k0,q0,q1|⟨q1,q2⟩⟩:=gK z
    ·subst q1;rw[hf] at q0;cases q0
    ·cases q2
   ·exact .inl z
   ·exact .inr z
  ·rcases l with⟨l,_⟩|⟨_,c,ec,z⟩
   ·have l':X.env.scope.names.lookup x=some .local:=l
    rcases hc with hc|hc<;>rw[hc] at l'<;>cases l'
   ·exact⟨c,(tL nc).trans (lT ec hfm),z.keeps kp⟩
 ·rcases dR e with e|e
  ·exact⟨_,(oc.empty _ _ e).1⟩
  ·obtain⟨v,z⟩:=I.cell x c (cl x c e)
   exact⟨v,z.keeps kp⟩
 ·rcases dR e with e|e
  ·exact I.hok.fresh (MA (oc.empty _ _ e).2)
  ·exact I.freeC x c (cl x c e)
 ·show(σ++_).length=N'.length
  rw[IR,Qa,I.len];omega
end
def G9(K:Iz)(c:Ct)(hid:bq)(f:FA)(ρ:az):TI:=λσ H R=>SR K c hid ρ σ H/\ ∃ds,f ρ=some ds/\ ∀J H',Same H H'->ItOk K (vw H' hid) J ds->R J H'
def DIp(X:Cx)(c:Ct)(tg iter:Expr)(f:FA):Prop:= ∀hid ρ,PI X tg iter (G9 X.K c hid f ρ)
def B8(K:Iz)(L W:Hp)(J:It)(ds:List D):Prop:=
 (∀(i:Nat) (d:D) (H:Hp),ds[i]? =some d->Same L H->Same W H->J.go i H/\ ∀x H',J.yld i H x H'->Same H H'/\ ∀hid:bq,(∀b,hid b=true-> ∃o,H b=some o)->Same W (vw H hid)->Rep K (vw H' hid) x d)/\ ∀H,Same L H->Same W H->J.stop ds.length H
theorem ItOk.b {K:Iz}{L W:Hp}{J:It}{ds:List D}(h:ItOk K W J ds):B8 K L W J ds:=⟨λi d H e _ w=>h.1 i d H e w,λH _ w=>h.2 H w⟩
def HF(K:Iz)(c:Ct)(hid:bq)(f:FA)(ρ:az):TI:=λσ H R=>SR K c hid ρ σ H/\ ∃ds,f ρ=some ds/\ ∀J H',Same H H'->B8 K H' (vw H' hid) J ds->R J H'
def C9(X:Cx)(c:Ct)(tg iter:Expr)(f:FA):Prop:= ∀hid ρ,PI X tg iter (HF X.K c hid f ρ)
section
variable {X:Cx}{c:Ct}{k:Kd}{tg iter:Expr}{pos:Pos}
theorem DIp.b {f:FA}(h:DIp X c tg iter f):C9 X c tg iter f:=λhid ρ=>PI.imp (h hid ρ) λσ H R ⟨sr,ds,e,q⟩=>⟨sr,ds,e,λJ H' s io=>q J H' s io.b⟩
theorem DIp.e {f:FA}(h:DIp X c tg iter f):DI X c tg iter (bT f):=λhid ρ=>PI.imp (h hid ρ) λσ H R hq_=>by
 obtain⟨sr,ds,ρ',e,q⟩:=hq_
 obtain⟨e1,rfl⟩:=sH e
 exact⟨sr,ds,e1,λJ H' s io=>q J H' (.of s) (sr.ext s) io⟩
def fM(f:FE):FA:=λρ=>(f ρ).bind λd=>match d with
 | .lst ds=>some ds
 |_=>none
def BF(f:FE):FA:=λρ=>(f ρ).bind λd=>match d with
 | .tup ds=>some ds
 |_=>none
theorem o9 {f:FE}{ρ:az}{ds:List D}(h:fM f ρ=some ds):f ρ=some (.lst ds):=by
 unfold fM at h;cases e:f ρ with
 |none=>rw[e] at h;cases h
 |some d=>
  rw[e] at h;cases d with
  |lst z=>cases h;rfl
  |_=>cases h
theorem xl {f:FE}{ρ:az}{ds:List D}(h:BF f ρ=some ds):f ρ=some (.tup ds):=by
 unfold BF at h;cases e:f ρ with
 |none=>rw[e] at h;cases h
 |some d=>
  rw[e] at h;cases d with
  |tup z=>cases h;rfl
  |_=>cases h
theorem zU {K:Iz}{W:Hp}{a:Addr}{xs:List V}{ds:List D}(h1:SqL K W a xs)(h2:Reps K W xs ds):ItOk K W (He K a) ds:=by
 refine⟨λi d H e s=>?_,λH s=>⟨_,s.seq h1,by rw[h2.length];exact Iv _⟩⟩
 obtain⟨x,e1,r1⟩:=h2.get e
 refine⟨⟨_,x,s.seq h1,e1⟩,λy H' ⟨e2,e3⟩=>?_⟩
 subst e2;have:=e3 _ (s.seq h1)
 rw[e1] at this;cases this;exact⟨Same.refl _,λhid _ sw=>r1.mono sw⟩
theorem fB {f:FE}(h:DP X c .s iter f):DIp X c tg iter (fM f):=λhid ρ=>PI.imp (vq (h hid ρ)) λσ H R hq_=>by
 obtain⟨sr,ds,e,q⟩:=hq_
 refine⟨sr,_,o9 e,λv H' s' r=>?_⟩
 cases r with
 |lst h1 h2=>have h1:=SqL.of (K:=X.K) h1;exact⟨_,rfl,⟨_,(dI _ _).seq h1⟩,q _ H' s' (zU h1 h2)⟩
theorem yX {f:FE}(h:DP X c .b iter f):C9 X c tg iter (fM f):=λhid ρ=>PI.imp (vq (h hid ρ)) λσ H R hq_=>by
 obtain⟨sr,ds,e,q⟩:=hq_
 refine⟨sr,_,o9 e,λv H' s' r=>?_⟩
 obtain⟨a,xs,rfl,h1,h2⟩:=Rep1.lst r
 refine⟨a,rfl,⟨_,h1⟩,q _ H' s' ⟨λi d H e s w=>?_,λH s w=>⟨_,s.seq h1,by rw[h2.length];exact Iv _⟩⟩⟩
 obtain⟨x,e1,r1⟩:=h2.get e
 refine⟨⟨_,x,s.seq h1,e1⟩,λy H' ⟨e2,e3⟩=>?_⟩
 subst e2;have:=e3 _ (s.seq h1)
 rw[e1] at this;cases this;exact⟨Same.refl _,λhid _ sw=>r1.mono sw⟩
theorem CJ {f:FE}(h:DP X c .s iter f):DIp X c tg iter (BF f):=λhid ρ=>PI.imp (ER (h hid ρ)) λσ H R hq_=>by
 obtain⟨sr,ds,e,q⟩:=hq_
 refine⟨sr,_,xl e,λv H' s' r=>?_⟩
 cases r with
 |tup h1 h2=>exact⟨_,rfl,⟨_,Same.seqT (dI _ _) h1⟩,q _ H' s' (Ae h1 h2)⟩
def bQ(f:FA):FA:=λρ=>(f ρ).bind λds=>match ds with
 | [.int j]=>if j.natAbs<4000000000 then some (qX 0 j.toNat) else none
 |_=>none
theorem bV {a:Expr}{f:FA}{p:Pos}(hm:X.mg "range"=none)(ha:DA X c [a] f)(hg:Gl X "range":=by rfl)(hs:ID [a] X.env=[(false,eval a X.env)]:=by rfl):DIp X c tg (.Call (.Name "range" p) [a] [] pos) (bQ f):=λhid ρ=>
 PI.imp (pG hg hm (ha hid ρ) hs) λσ H R hq_=>by
  obtain⟨sr,ds,e,q⟩:=hq_
  unfold bQ at e;cases e1:f ρ with
  |none=>rw[e1] at e;cases e
  |some z=>
   rw[e1] at e;dsimp only[L5] at e;split at e
   ·split at e
    ·cases e
     refine⟨sr,_,e1,λvs H' s' r=>?_⟩
     cases r with
     |cons r t=>cases t;cases r;exact⟨_,rfl,by omega,by omega,q _ H' s' nh⟩
    ·cases e
   ·cases e
def jY(ifs:List Expr)(env:Env):Sem Bool:=forIn ifs true λc r=>if r=true then do let ok <-isTrue c env (eval c env);pure (ForInStep.yield ok) else pure (ForInStep.yield r)
def v8(X:Cx)(c:Ct)(ifs:List Expr)(p:FT):Prop:= ∀hid ρ (aa:List (Addr×Obj)) (s:Io) (σ:St) (H:Hp) (Q:Bool->Hp->Prop),Inv X aa σ H s->Hk X.K c hid p ρ σ H Q->IF (model X.prog X.w) X.A (jY ifs X.env) (TP X aa σ Q) X.xe s
def eT:FT:=λ_=>some true
theorem eE:v8 X c [] eT:=λhid ρ aa s σ H Q I hq_=>by
 obtain⟨sr,d,e,q⟩:=hq_
 cases e
 exact wpAny_tests_nil ⟨H,I,q H (Same.refl _)⟩
theorem qN {e:Expr}{p:FT}(h:DT X c e p):v8 X c [e] p:=λhid ρ aa s σ H Q I q=>wpAny_tests_one (h hid ρ aa s σ H Q I q)
end
theorem gO {prog:Jf}{w:Jr}{A:Jm}{R:PH->Io->Prop}{s:Io}{elt target iter:Expr}{ifs:List Expr}{scope:LB}{pos:Pos}{it acc:Il}{env:Env}(I:Nat->Io->Prop)
 (turn: ∀n s,I n s->IF (model prog w) A (No it) (λr s₁=>match r with
   |none=>R (.ok .next) s₁
   |some v=>IF (model prog w) A (LW target it v) (λ_ s₁=>IF (model prog w) A (M0 target env v) (λ_ s₂=>
     IF (model prog w) A (jY ifs env) (λok s₃=>
      if ok=true then IF (model prog w) A (eval elt env) (λx s₄=>
       IF (model prog w) A (call (.builtin "list.append") [acc,x]) (λ_ s₅=> ∃m,m<n/\I m s₅) (λ_ _=>False) s₄) (λ_ _=>False) s₃
      else∃m,m<n/\I m s₃) (λ_ _=>False) s₂) (λ_ _=>False) s₁) (λ_ _=>False) s₁) (λ_ _=>False) s)
 (n:Nat) (h:I n s):
 LQ (model prog w) A (.compLoop (.ListComp elt [⟨target,iter,ifs,0⟩] scope pos) 0 it acc env) R s:=by
 have no: ∀ {E':Il->Io->Prop} (x:Il) (s:Io),False->E' x s:=λ_ _ z=>z.elim
 refine RA rfl I (λn s hI=>?_) n h
 show IF _ A ((RB (.ListComp elt [⟨target,iter,ifs,0⟩] scope pos) 0 it acc env).onRaise (λx=>do R0 x env;P2 x)) _ _ s
 refine So ?_
 rw[compTurn_list];refine Ik (L8 (Ik (Jo (turn n s hI) (λr s₁ h₁=>?_) no)))
 cases r with
 |none=>exact Im h₁
 |some v=>
  refine Ik (Jo h₁ (λ_ s₁ h₁=>?_) no)
  refine Ik (Jo h₁ (λ_ s₂ h₂=>Ik (Jo h₂ (λok s₃ h₃=>?_) no)) no)
  cases ok with
  |false=>exact Im ⟨rfl,h₃⟩
  |true=>
   exact Ik (Ik (Jo h₃ (λx s₄ h₄=>Ik (Jo h₄ (λ_ s₅ h₅=>Im (Im ⟨rfl,h₅⟩)) no)) no))
def cz(g:FG)(p:FT)(f:FE)(ρ0:az):List D->Option (List D)
 | []=>some []
 |d::r=>(g d ρ0).bind λρ1=>(p ρ1).bind λb=>if b=true then(f ρ1).bind λy=>(cz g p f ρ0 r).map (y:: ·) else cz g p f ρ0 r
def bP(m:Nat)(gi:FA)(g:FG)(p:FT)(f:FE):FE:=λρ=>(gi ρ).bind λds=>if ds.length<=IM then(cz g p f (ρ++IC m .no) ds).map D.lst else none
theorem mT {m:Nat}{gi:FA}{g:FG}{p:FT}{f:FE}{ρ:az}{d:D}(h:bP m gi g p f ρ=some d): ∃ds ys,gi ρ=some ds/\ds.length<=IM/\cz g p f (ρ++IC m .no) ds=some ys/\d=.lst ys:=by
 unfold bP at h;cases e1:gi ρ with
 |none=>rw[e1] at h;cases h
 |some ds=>
  rw[e1] at h;dsimp only[L5] at h;split at h
  ·cases e2:cz g p f (ρ++IC m .no) ds with
   |none=>rw[e2] at h;cases h
   |some ys=>rw[e2] at h;cases h;exact⟨ds,ys,rfl, ‹_›,e2,rfl⟩
  ·cases h
def jF(n:Nat)(g:FG):Prop:= ∀d (ρ0 ρ1:az),g d ρ0=some ρ1->ρ1.length=ρ0.length/\ ∀i:Nat,i<n->ρ1[i]? =ρ0[i]?
def wu(n:Nat)(g:ua):Prop:= ∀d (ρ0 ρ1:az),g d ρ0=some ρ1->ρ1.length=ρ0.length/\ ∀i:Nat,i<n->ρ1[i]? =ρ0[i]?
theorem cI {n i:Nat}(h:n<=i):jF n (gN i):=λd ρ0 ρ1 e=>by
 cases e
 exact⟨by simp,λj hj=>IG (by omega)⟩
theorem pg {n:Nat}:wu n mG:=λd ρ0 ρ1 e=>by
 unfold mG at e;split at e
 ·cases e;exact⟨rfl,λ_ _=>rfl⟩
 ·cases e
theorem fq {n:Nat}{g:FG}{gs:ua}(h1:jF n g)(h2:wu n gs):wu n (iH g gs):=λd ρ0 ρ1 e=>by
 cases d with
 |nil=>cases e
 |cons d ds=>
  have e:(g d ρ0).bind (λρ'=>gs ds ρ')=some ρ1:=e
  cases e1:g d ρ0 with
  |none=>rw[e1] at e;cases e
  |some ρ2=>
   rw[e1] at e;obtain⟨a1,a2⟩:=h1 d ρ0 ρ2 e1
   obtain⟨b1,b2⟩:=h2 ds ρ2 ρ1 e
   exact⟨b1.trans a1,λi hi=>(b2 i hi).trans (a2 i hi)⟩
theorem yV {n m:Nat}{gs:ua}(h:wu n gs):jF n (gT m gs):=λd ρ0 ρ1 e=>by
 unfold gT at e;split at e
 ·split at e
  ·exact h _ _ _ e
  ·cases e
 ·cases e
theorem SR.forget {K:Iz}{c:Ct}{hid:bq}{ρ0 ρ1:az}{σ:St}{H:Hp}(h:SR K c hid ρ1 σ H)(hl:ρ1.length=ρ0.length)(hs: ∀(i:Nat) (s:Sl),ρ0[i]? =some s->s=.no\/ρ1[i]? =some s):SR K c hid ρ0 σ H:=by
 have ow: ∀i:Nat,Ow ρ0[i]? ->Ow ρ1[i]? :=λi o=>by
  cases e:ρ0[i]? with
  |none=>rw[e] at o;exact o.elim
  |some s=>
   rcases hs i s e with rfl|z
   ·rw[e] at o;exact o.elim
   ·rw[z,<-e];exact o
 refine⟨h.tr,h.ht,h.h0,h.kp,h.t0,h.c0,h.m0,h.len.trans hl,λi s e=>?_,λi j a n o1 o2=>h.ap i j a n (ow i o1) (ow j o2)⟩
 rcases hs i s e with rfl|z
 ·trivial
 ·exact h.sl i s z
theorem SR.more {K:Iz}{c:Ct}{hid:bq}{ρ:az}{σ:St}{H:Hp}(h:SR K c hid ρ σ H)(m:Nat):SR K c hid (ρ++IC m .no) (σ++IC m none) H:=by
 have lt: ∀ {i:Nat},Ow (ρ++IC m Sl.no)[i]? ->i<ρ.length:=λ{i} o=>by
  by_cases hi:i<ρ.length
  ·exact hi
  ·rw[JE (by omega),Kb] at o
   split at o<;>exact o.elim
 refine⟨h.tr,h.ht,h.h0,h.kp,h.t0,h.c0,h.m0,by simp[h.len],λi s e=>?_,λi j a n o1 o2 q1 q2=>?_⟩
 ·by_cases hi:i<ρ.length
  ·rw[Js hi] at e
   have z:=h.sl i s e
   have es:(σ++IC m none)[i]? =σ[i]? :=Js (by rw[h.len];exact hi)
   cases s with
   |no=>trivial
   |v d=>obtain⟨x,h1,h2⟩:=z;exact⟨x,es.trans h1,h2⟩
   |own ds=>obtain⟨a,xs,h1,h2⟩:=z;exact⟨a,xs,es.trans h1,h2⟩
   |arg ds=>obtain⟨a,xs,h1,h2⟩:=z;exact⟨a,xs,es.trans h1,h2⟩
   |ob b=>obtain⟨a,h1,h2⟩:=z;exact⟨a,es.trans h1,h2⟩
  ·rw[JE (by omega),Kb] at e
   split at e
   ·cases e;trivial
   ·cases e
 ·have l1:=lt o1
  have l2:=lt o2
  rw[Js l1] at o1;rw[Js l2] at o2;rw[Js (by rw[h.len];exact l1)] at q1
  rw[Js (by rw[h.len];exact l2)] at q2
  exact h.ap i j a n o1 o2 q1 q2
section
variable {X:Cx}{c:Ct}{elt tg iter:Expr}{ifs:List Expr}{scope:LB}{pos:Pos}{N':List Str}{m:Nat}{gi:FA}{g:FG}{p:FT}{f:FE}
theorem SR.write {K:Iz}{hid:bq}{ρ:az}{σ:St}{H:Hp}{a:Addr}{o':HO}(h:SR K c hid ρ σ H)(hh:hid a=true)(h0:c.H₀ a=none)(na: ∀i:Nat,Ow ρ[i]? ->σ[i]? ≠some (some (.ref a)))(hn: ∀xs,o'≠ .tup xs:=by intro _ e;cases e):SR K c hid ρ σ (bp H a o'):=by
 have tr': ∀b o,H b=some o-> ∃o2,(bp H a o') b=some o2:=λb o q=>by
  by_cases e:b=a
  ·subst e;exact⟨_,aC⟩
  ·exact⟨o,by rw[aA e];exact q⟩
 refine⟨λb hb=>let⟨o,q⟩:=h.tr b hb;tr' b o q,λb xs hb q=>by
  by_cases e:b=a
  ·subst e;rw[aC] at q;exact hn _ (Jv q)
  ·rw[aA e] at q;exact h.ht b xs hb q,h.h0,λb o q m=>?_,λb o q=>let⟨o2,q2⟩:=h.t0 b o q;tr' b o2 q2,h.c0,h.m0,h.len,λi s e=>?_,h.ap⟩
 ·rw[aA (aX q h0)];exact h.kp b o q m
 ·have z:=h.sl i s e
  have ne: ∀a',Ow ρ[i]? ->σ[i]? =some (some (.ref a'))->a'≠a:=λa' o q w=>by subst w;exact na i o q
  cases s with
  |no=>trivial
  |v d=>obtain⟨x,h1,h2⟩:=z;exact⟨x,h1,by rw[dc hh];exact h2⟩
  |own ds=>obtain⟨a',xs,h1,h2,h3,h4,h5⟩:=z;exact⟨a',xs,h1,by rw[aA (ne a' (by rw[e];trivial) h1)];exact h2,h3,h4,by rw[dc hh];exact h5⟩
  |arg ds=>obtain⟨a',xs,h1,h2,h3,h4,h5⟩:=z;exact⟨a',xs,h1,by rw[aA (ne a' (by rw[e];trivial) h1)];exact h2,h3,h4,by rw[dc hh];exact h5⟩
  |ob b=>obtain⟨a',h1,h2⟩:=z;exact⟨a',h1,h2.mono (λow o q=>by rw[aA (ne a' (by rw[e];exact ow) h1)];exact q) (by rw[dc hh];exact Same.refl _) λ_ q=>q⟩
structure CLI(Y:Cx)(K:Iz)(c:Ct)(hid:bq)(ρ0:az)(H W:Hp)(D0:Addr)(fp:List Addr)(tn:Nat->Heap->Prop)(g:FG)(p:FT)(f:FE)(ds ys:List D)(n i:Nat)(xs:List V)(ad:List D)(σ':St)(H':Hp)(s':Io):Prop where
 e:n=ds.length-i
 hi:i<=ds.length
 I:Inv Y [] σ' H' s'
 st:tn i s'.heap
 fr: ∀b∈fp,H' b=none
 sr:SR K c hid ρ0 σ' H'
 sm:Same H H'
 ac:H' D0=some (.lst xs)
 rp:Reps K (vw H' hid) xs ad
 w:Same W (vw H' hid)
 hl:xs.length<=i
 na: ∀i:Nat,Ow ρ0[i]? ->σ'[i]? ≠some (some (.ref D0))
 go: ∃rest,cz g p f ρ0 (ds.drop i)=some rest/\ad++rest=ys
theorem xC(hcalm:X.calm=true)(hT:jF X.N.length g)
 (hg: ∀C s₀ H₀ ex,rB (aJ X N' scope C s₀ H₀ ex) c tg g) (hp: ∀C s₀ H₀ ex,v8 (aJ X N' scope C s₀ H₀ ex) c ifs p) (he: ∀C s₀ H₀ ex,DP (aJ X N' scope C s₀ H₀ ex) c .s elt f)
 {σ3:St} {H H3:Hp} {s3 s4:Io} {hid:bq} {ρ:az} {J:It} {it D0 C:Addr} {fp:List Addr} {tn:Nat->Heap->Prop} {ds ys:List D} {R:PH->Io->Prop} {W:Hp} (hρ:ρ.length=X.N.length)
 (I:Inv (aJ X N' scope C s3 H3 fp) [] σ3 H3 s4) (sr:SR X.K c hid (ρ++IC m .no) σ3 H3) (hh:hid D0=true) (h00:c.H₀ D0=none) (na: ∀i:Nat,Ow (ρ++IC m Sl.no)[i]? ->σ3[i]? ≠some (some (.ref D0))) (hacc:H3 D0=some (.lst [])) (sm:Same H H3) (nD:H D0=none) (wv:Same W (vw H3 hid)) (T:Turn X.prog X.w X.K tg J fp it tn) (st:tn 0 s4.heap) (hF: ∀b∈fp,H3 b=none)
 (io:B8 X.K H W J ds) (hz:ds.length<=IM) (hc:cz g p f (ρ++IC m .no) ds=some ys)
 (hR: ∀(s':Io) (σ':St) (H':Hp) (xs:List V),Inv (aJ X N' scope C s3 H3 fp) [] σ' H' s'->Same H H'->H' D0=some (.lst xs)->Reps X.K (vw H' hid) xs ys->R (.ok .next) s'):
 LQ (model X.prog X.w) X.A (.compLoop (.ListComp elt [⟨tg,iter,ifs,0⟩] scope pos) 0 (.ref it) (.ref D0) (Rz scope (nK X.env.cells scope C) C X.env)) R s4:=by
 have stat: ∀ {aa:List (Addr×Obj)} {H':Hp},(∀q∈aa,q.1∉fp)->(∀b∈fp,H' b=none)-> ∀b∈fp,jg (aJ X N' scope C s3 H3 fp) aa H' b:=λ{aa H'} hpn hn b hb=>
  ⟨hn b hb,(I.ok.exf b hb).1,I.ok.exfs b hb,.inl hb,(I.ok.exf b hb).2,λq hq e=>hpn q (by have hq':q∈([]:List (Addr×Obj))++aa:=hq;simpa using hq') (by rw[e];exact hb)⟩
 have no: ∀q∈([]:List (Addr×Obj)),q.1∉fp:=λq hq=>nomatch hq
 refine gO (λn s'=> ∃(i:Nat) (xs:List V) (ad:List D) (σ':St) (H':Hp),CLI (aJ X N' scope C s3 H3 fp) X.K c hid (ρ++IC m .no) H W D0 fp tn g p f ds ys n i xs ad σ' H' s') ?_ ds.length
  ⟨0,[],[],σ3,H3,by simp,JV _,I,st,hF,sr,sm,hacc,.nil,wv,JV _,na,ys,by simpa using hc,rfl⟩
 rintro n s5 ⟨i,xs,ad,σ5,H5,rfl,hi,I5,st5,f5,sr5,sm5,ac5,rp5,w5,hl5,na5,rest,hc5,hy5⟩
 have wH:Same W H5:=w5.trans (dI _ _)
 by_cases hlt:i<ds.length
 ·have hd:ds[i]? =some ds[i]:=Iq hlt
  have e2:ds.drop i=ds[i]::ds.drop (i+1):=Le hlt
  rw[e2] at hc5;unfold cz at hc5;obtain⟨go,yl⟩:=io.1 i ds[i] H5 hd sm5 wH
  refine bR (T.item (aJ X N' scope C s3 H3 fp) rfl rfl rfl hcalm i [] s5 σ5 H5 (λ_ _=>False) I5 (stat no f5) st5 go) λr s6 hq_=>?_
  obtain⟨u,hr,h6⟩:=hq_
  subst hr;refine bR h6 λ_ s7 hq_=>?_
  obtain⟨x,H7,I7,r7,y7,st7,f7⟩:=hq_
  obtain⟨s7',rp⟩:=yl x H7 y7
  have rx:=rp hid sr5.tr w5
  have I7':=I7.pinned (stat no f7) (T.obj _ _ st7)
  cases e3:g ds[i] (ρ++IC m .no) with
  |none=>rw[e3] at hc5;cases hc5
  |some ρ1=>
   rw[e3] at hc5;have hc5:(p ρ1).bind (λb=>if b=true then(f ρ1).bind λy=>(cz g p f (ρ++IC m .no) (ds.drop (i+1))).map (y:: ·) else cz g p f (ρ++IC m .no) (ds.drop (i+1)))=some rest:=hc5
   obtain⟨tl1,tl2⟩:=hT _ _ _ e3
   have fg: ∀ {σ':St} {H':Hp},SR X.K c hid ρ1 σ' H'->SR X.K c hid (ρ++IC m .no) σ' H':=λ{σ' H'} z=>z.forget tl1 λj s e=>by
    by_cases hj:j<X.N.length
    ·exact .inr ((tl2 j hj).trans e)
    ·refine .inl ?_
     rw[JE (by omega),Kb] at e
     split at e
     ·cases e;rfl
     ·cases e
   have keepT: ∀ {σ':St} {H':Hp} {s':Io},Inv (aJ X N' scope C s3 H3 fp) ([]++kS fp s7.heap) σ' H' s'->tn (i+1) s'.heap/\ ∀b∈fp,H' b=none:=λ{σ' H' s'} J'=>by
    refine⟨T.keep _ _ _ st7 λb hb o e=>(J'.pin (b,o) (IK _ (IK _ (dQ hb e)))).1,λb hb=>?_⟩
    obtain⟨o,e,_⟩:=T.obj _ _ st7 b hb
    exact(J'.pin (b,o) (IK _ (IK _ (dQ hb e)))).2.1
   refine bR (hg C s3 H3 fp hid _ ds[i] _ s7 σ5 H7 x u (λσ' H'=>H'=H7/\SR X.K c hid ρ1 σ' H7/\OwK (ρ++IC m .no) ρ1 σ5 σ') I7' r7 ⟨sr5.ext s7',rx,ρ1,e3,λσ' z o=>⟨rfl,z,o⟩⟩) λ_ s8 hq_=>?_
   obtain⟨σ8,H8,I8,e8,q8,o8⟩:=hq_
   subst e8;have na8: ∀i:Nat,Ow (ρ++IC m Sl.no)[i]? ->σ8[i]? ≠some (some (.ref D0)):=λj o=>by
    have o1:Ow ρ1[j]? :=by
     by_cases hj:j<X.N.length
     ·rw[tl2 j hj];exact o
     ·exfalso
      rw[JE (by omega),Kb] at o
      split at o<;>exact o.elim
    rw[(o8 j o1).2];exact na5 j o
   cases e4:p ρ1 with
   |none=>rw[e4] at hc5;cases hc5
   |some b=>
    rw[e4] at hc5;have hc5:(if b=true then(f ρ1).bind λy=>(cz g p f (ρ++IC m .no) (ds.drop (i+1))).map (y:: ·) else cz g p f (ρ++IC m .no) (ds.drop (i+1)))=some rest:=hc5
    refine bR (hp C s3 H3 fp hid ρ1 _ s8 σ8 H8 (λb' H'=>b'=b/\Same H8 H') I8 ⟨q8,b,e4,λH' s'=>⟨rfl,s'⟩⟩) λok s9 hq_=>?_
    obtain⟨H9,I9,e9,sm9⟩:=hq_
    subst e9;have w9:Same (vw H5 hid) (vw H9 hid):=aH (s7'.trans sm9)
    cases ok with
    |false=>
     have hc5:cz g p f (ρ++IC m .no) (ds.drop (i+1))=some rest:=hc5
     obtain⟨k1,k2⟩:=keepT I9
     exact⟨ds.length- (i+1),by omega,i+1,xs,ad,σ8,H9,rfl,hlt,I9.unpinned,k1,k2,fg (q8.ext sm9),sm5.trans (s7'.trans sm9),sm9 _ _ (s7' _ _ ac5),rp5.mono w9,w5.trans w9,by omega,na8,rest,hc5,hy5⟩
    |true=>
     have hc5:((f ρ1).bind λy=>(cz g p f (ρ++IC m .no) (ds.drop (i+1))).map (y:: ·))=some rest:=hc5
     cases e5:f ρ1 with
     |none=>rw[e5] at hc5;cases hc5
     |some y=>
      rw[e5] at hc5;have hc5:(cz g p f (ρ++IC m .no) (ds.drop (i+1))).map (y:: ·)=some rest:=hc5
      cases e6:cz g p f (ρ++IC m .no) (ds.drop (i+1)) with
      |none=>rw[e6] at hc5;cases hc5
      |some rest'=>
       rw[e6] at hc5;cases hc5
       show IF (model X.prog X.w) X.A (eval elt _) _ _ s9;refine bR (he C s3 H3 fp hid ρ1 _ s9 σ8 H9 (λv H'=>Same H9 H'/\Rep X.K (vw H' hid) v y) I9 ⟨q8.ext sm9,y,e5,λv H' s' r=>⟨s',r⟩⟩) λv s10 hq_=>?_
       obtain⟨z,H10,I10,rz,sm10,rp10⟩:=hq_
       have sm':Same H5 H10:=s7'.trans (sm9.trans sm10)
       have a10:H10 D0=some (.lst xs):=sm' _ _ ac5
       refine bR (gp (X:=aJ X N' scope C s3 H3 fp) _ s10 σ8 H10 (.ref D0) [z] (.ref D0) [v] (λ_ H'=>H'=bp H10 D0 (.lst (xs++[z]))) I10 rfl (.cons rz .nil) ⟨D0,xs,z,rfl,rfl,a10,by omega,rfl⟩) λ_ s11 ⟨_,H11,I11,_,e11⟩=>?_
       subst e11;obtain⟨k1,k2⟩:=keepT I11
       have vv:vw (bp H10 D0 (.lst (xs++[z]))) hid=vw H10 hid:=dc hh
       have w10:Same (vw H5 hid) (vw H10 hid):=aH sm'
       refine⟨ds.length- (i+1),by omega,i+1,xs++[z],ad++[y],σ8,_,rfl,hlt,I11.unpinned,k1,k2,?_,λb o e=>?_,aC,?_,?_,by simp;omega,na8,rest',e6,by rw[<-hy5];simp⟩
       ·
        have q10:=fg ((q8.ext sm9).ext sm10)
        exact q10.write hh h00 na8
       ·rw[aA (aX e nD)];exact sm' _ _ (sm5 _ _ e)
       ·rw[vv];exact(rp5.mono w10).append (.cons rp10 .nil)
       ·rw[vv];exact w5.trans w10
 ·have e:i=ds.length:=by omega
  subst e;rw[Lz (Iv _)] at hc5;cases hc5
  rw[KD] at hy5;subst hy5;refine bR (T.done (aJ X N' scope C s3 H3 fp) rfl rfl rfl hcalm ds.length [] s5 σ5 H5 (λ_ _=>False) I5 (stat no f5) st5 (io.2 H5 sm5 wH)) λr s6 hq_=>?_
  obtain⟨hr,I6⟩:=hq_
  subst hr;exact hR s6 σ5 H5 xs I6 sm5 ac5 rp5
theorem nU(hcalm:X.calm=true)(hk:scope.kind=.function)(hs:xT scope X.env.scope=true)(hn:xU X.N N' scope=true)(hm:N'.length-X.N.length=m)(hT:jF X.N.length g)
 (hg: ∀C s₀ H₀ ex,rB (aJ X N' scope C s₀ H₀ ex) c tg g) (hp: ∀C s₀ H₀ ex,v8 (aJ X N' scope C s₀ H₀ ex) c ifs p) (he: ∀C s₀ H₀ ex,DP (aJ X N' scope C s₀ H₀ ex) c .s elt f)
 {E:Il->Io->Prop} {aa:List (Addr×Obj)} {σ:St} {H:Hp} {s:Io} {hid:bq} {ρ:az} {J:It} {it:Addr} {fp:List Addr} {tn:Nat->Heap->Prop} {ds ys:List D} {RR:Il->Addr->PH->Io->Prop}
 (I:Inv X aa σ H s) (sr:SR X.K c hid ρ σ H) (T:Turn X.prog X.w X.K tg J fp it tn) (st:tn 0 s.heap) (hF: ∀b∈fp,jg X aa H b) (io:B8 X.K H (vw H hid) J ds) (hz:ds.length<=IM) (hc:cz g p f (ρ++IC m .no) ds=some ys)
 (hR: ∀(D C:Addr) (s':Io) (H':Hp) (xs:List V),s.heap.objs.size<=D->s.heap.objs.size<=C->D≠C->H D=none->Same H H'->H' D=some (.lst xs)->Reps X.K (vw H' (bF hid D)) xs ys->(∃m,s'.heap.Ns C m)->H' C=none->s'.os=s.os->N4 s'.gens->HOk X.prog X.w H' s'.heap->Un (qV X.stack) fp H H' s.heap s'.heap->RR (.ref D) C (.ok .next) s'):
 IF (model X.prog X.w) X.A (RC []) (λacc s₃=>IF (model X.prog X.w) X.A (OL scope X.env.globals (qT X.env.cells scope.names []) [] X.env.qual none .none (some X.env)) (λcenv s₄=>
  LQ (model X.prog X.w) X.A (.compStart (.ListComp elt [⟨tg,iter,ifs,0⟩] scope pos) 0 (.ref it) acc {cenv with scope:=N5 scope X.env}) (RR acc cenv.locals) s₄) E s₃) E s:=by
 refine Kq (vN λh₁ hns₁ kp1 oc₁=>?_)
 dsimp only at hns₁ kp1 oc₁⊢
 generalize hH2:s.heap.push {cls:=.type "list",dict:=none,data:=.seq ([]:List Il).toArray}=H2 at hns₁ kp1 oc₁⊢
 have hC:H2.objs.size=s.heap.objs.size+1:=by rw[<-hH2,KN]
 have hD:H s.heap.objs.size=none:=I.hok.fresh (Iv _)
 have I2:Inv X aa σ (bp H s.heap.objs.size (.lst [])) {s with heap:=H2}:=by
  rw[<-hH2];exact I.laid (t':=s.toks) (λb o e=>Ip _ e) (Iv _) ⟨JV _,[],0,.nil,IN _ rfl⟩
 have fpLt: ∀b∈fp,b<s.heap.objs.size:=λb hb=>let⟨o,e,_⟩:=T.obj 0 s.heap st b hb;IJ e
 have hF2: ∀b∈fp,jg X aa (bp H s.heap.objs.size (.lst [])) b:=λb hb=>⟨by rw[aA (Jp (fpLt b hb))];exact(hF b hb).1,(hF b hb).2⟩
 have kp0: ∀b o,s.heap.get? b=some o->H2.get? b=some o:=λb o e=>by rw[<-hH2];exact Ip _ e
 have IY:=rS (tk:=s.toks) (N':=N') (fp:=fp) I2 hF2 (λb hb=>let⟨o,e,_⟩:=T.obj 0 s.heap st b hb;⟨o,kp0 b o e⟩) hk hs hn hns₁ kp1 oc₁
 rw[hm] at IY;dsimp only at IY;have sr0:SR X.K c (bF hid s.heap.objs.size) (ρ++IC m .no) (σ++IC m none) (bp H s.heap.objs.size (.lst [])):=(sr.hide (aO hD _) hD aC).more m
 have hρ:ρ.length=X.N.length:=by rw[<-sr.len];exact I.len
 have nf:hid s.heap.objs.size=false:=sr.fresh hD
 have st1:tn 0 h₁:=T.keep _ _ _ st λb hb o e=>kp1 b o (kp0 b o e)
 have na0: ∀i:Nat,Ow (ρ++IC m Sl.no)[i]? ->(σ++IC m none)[i]? ≠some (some (V.ref s.heap.objs.size)):=(sr.more m).notOw nf
 have wv:Same (vw H hid) (vw (bp H s.heap.objs.size (.lst [])) (bF hid s.heap.objs.size)):=by rw[uX hD];exact Same.refl _
 have loop: ∀s4:Io,s4={s with heap:=h₁,toks:=s.toks}->
  LQ (model X.prog X.w) X.A (.compLoop (.ListComp elt [⟨tg,iter,ifs,0⟩] scope pos) 0 (.ref it) (.ref s.heap.objs.size) (Rz scope (nK X.env.cells scope H2.objs.size) H2.objs.size X.env)) (RR (.ref s.heap.objs.size) H2.objs.size) s4:=by
  rintro s4 rfl
  refine xC (H:=H) (hid:=bF hid s.heap.objs.size) (W:=vw H hid) hcalm hT hg hp he hρ IY sr0 fj (sr.fresh0 hD) na0 aC (aO hD _) hD wv T st1 (λb hb=>(hF2 b hb).1) io hz hc ?_
  intro s' σ' H' xs I' sm' hx' rp';have un1:Un (qV X.stack) fp H (bp H s.heap.objs.size (.lst [])) s.heap H2:=Un.laid (λb o e=>kp0 b o e) (Iv _) hD
  refine hR s.heap.objs.size H2.objs.size s' H' xs (Iv _) (by rw[hC];exact OX _) (by rw[hC];exact Jp (Ky _)) hD sm' hx' rp' (let⟨m,hm,_⟩:=I'.loc;⟨m,hm⟩) I'.free I'.os I'.bare I'.hok (un1.trans I'.base)
 exact PN (loop _ rfl) (T.self X.A 0 _ _ _ st1 (loop _ rfl))
theorem jN(hcalm:X.calm=true)(hT:jF X.N.length g)(hi:C9 X c tg iter gi)
 (hg: ∀C s₀ H₀ ex,rB (aJ X N' scope C s₀ H₀ ex) c tg g) (hp: ∀C s₀ H₀ ex,v8 (aJ X N' scope C s₀ H₀ ex) c ifs p) (he: ∀C s₀ H₀ ex,DP (aJ X N' scope C s₀ H₀ ex) c .s elt f)
 (hk:scope.kind=.function:=by rfl) (hs:xT scope X.env.scope=true:=by kernel_rfl) (hn:xU X.N N' scope=true:=by kernel_rfl) (hm:N'.length-X.N.length=m:=by rfl) (hset: ∀x,Kp iter X.env x=pure x:=by intro _;rfl):
 DP X c .n (.ListComp elt [⟨tg,iter,ifs,0⟩] scope pos) (bP m gi g p f):=by
 intro hid ρ aa s σ H Q I hq;obtain⟨sr,d,hd,q⟩:=hq
 obtain⟨ds,ys,e1,hz,hc,rfl⟩:=mT hd
 rw[T9];refine M8 (use:=none) rfl hset (fD λx hx=>I.ok.has x (iD hs x hx)) hk (lD hs) ?_
 refine bR (hi hid ρ aa s σ H (λJ H'=>Same H H'/\B8 X.K H' (vw H' hid) J ds) I ⟨sr,ds,e1,λJ H' s1 io=>⟨s1,io⟩⟩) λv s1 h1=>bR h1 λitv s2 h2=>?_
 obtain⟨it,fp,tn,J,H2,rfl,I2,T,st2,f2,sm,io⟩:=h2
 refine nU (RR:=λacc C=>Wg (model X.prog X.w) X.A X.xe none (EP X aa σ Q) acc C) hcalm hk hs hn hm hT hg hp he I2 (sr.ext sm) T st2 f2 io hz hc ?_
 intro D C s' H' xs hDge hCge hDC hD sm' hx rp ⟨mm,hns⟩ hC' hos hbare hok hun;refine⟨mm,hns,λh' hsb=>⟨.ref D,H',?_,rfl,q _ H' (sm.trans sm') ⟨D,xs,ys,rfl,rfl,sm.free hD,hx,rp⟩⟩⟩
 have neC: ∀b o,s2.heap.get? b=some o->b≠C:=λb o e z=>by subst z;exact absurd (IJ e) (NU.mpr hCge)
 have hun':Un (qV X.stack) fp H2 H' s2.heap h':=⟨λb o e n h1 h2=>(hsb.2 b (neC b o e)).trans (hun.keep b o e n h1 h2),λb o e n h1 h2=>let⟨sl,z⟩:=hun.slot b o e n h1 h2;⟨sl,(hsb.2 b (neC b o e)).trans z⟩,hun.free,λb o e h2=>let⟨o',z⟩:=hun.there b o e h2;⟨o',(hsb.2 b (neC b o e)).trans z⟩,hun.tups,hun.frzs,hun.tbls⟩
 have hok':HOk X.prog X.w H' h':=λb o e=>by
  have nb: ∀b' o',H' b'=some o'->b'≠C:=λb' o' e' z=>by subst z;rw[hC'] at e';cases e'
  refine(hok b o e).stay (λc' u hc' z=>(hsb.2 c' ?_).trans z) (λ_ z=>z) λ_ _ z=>z
  rcases hc' with z'|z'
  ·rw[z'];exact nb b o e
  ·exact nb c' _ z'
 exact I2.call' (s':={s' with heap:=h'}) (ch:=fp) hos hun' hok' hbare λb hb=>⟨(f2 b hb).2.2.2.1,(f2 b hb).2.1,(f2 b hb).2.2.2.2.1,(f2 b hb).2.2.2.2.2⟩
end
section
variable {X:Cx}{c:Ct}{elt tg iter:Expr}{ifs:List Expr}{scope:LB}{pos spos py:Pos}{N':List Str}{m:Nat}{gi:FA}{g:FG}{p:FT}{f:FE}{y:Str}
theorem vX(i:Nat)(hcalm:X.calm=true)(hN:X.N.Nodup)(hT:jF X.N.length g)(hi:C9 X c tg iter gi)
 (hg: ∀C s₀ H₀ ex,rB (aJ X N' scope C s₀ H₀ ex) c tg g) (hp: ∀C s₀ H₀ ex,v8 (aJ X N' scope C s₀ H₀ ex) c ifs p) (he: ∀C s₀ H₀ ex,DP (aJ X N' scope C s₀ H₀ ex) c .s elt f)
 (hsw:Lp (.ListComp elt [⟨tg,iter,ifs,0⟩] scope pos) (some (.Name y py)) spos.line X.env=pure true) (hyi:X.N[i]? =some y) (hy:X.env.scope.names.lookup y=some .local)
 (hk:scope.kind=.function) (hs:xT scope X.env.scope=true) (hn:xU X.N N' scope=true) (hm:N'.length-X.N.length=m) (hset: ∀x,Kp iter X.env x=pure x) (ρ:az):
 PS X (.Assign [.Name y py] (.ListComp elt [⟨tg,iter,ifs,0⟩] scope pos) spos) (D6 (λσ H Q=> ∃hid,Fg X.K c hid .n (bP m gi g p f) ρ σ H Q) (yK i)):=by
 intro aa s σ H E I hq;obtain⟨hid,sr,d,hd,q⟩:=hq
 obtain⟨ds,ys,e1,hz,hc,rfl⟩:=mT hd
 rw[exec_Assign_Name_used _ _ _ _ hsw];refine Ik (L8 (Ik ?_))
 show IF _ X.A (do let _ <-comprehension (.ListComp elt [⟨tg,iter,ifs,0⟩] scope pos) scope X.env _ (RC []) false (eval iter X.env) (some (M0 (.Name y py) X.env))) _ _ s
 refine Ik (Jo (M8 (use:=some (M0 (.Name y py) X.env)) (Q:=λ_ s'=>SP X aa E .next s') rfl hset (fD λx hx=>I.ok.has x (iD hs x hx)) hk (lD hs) ?_) (λ_ s' hq=>Im (Im hq)) λ_ _ e=>e)
 refine bR (hi hid ρ aa s σ H (λJ H'=>Same H H'/\B8 X.K H' (vw H' hid) J ds) I ⟨sr,ds,e1,λJ H' s1 io=>⟨s1,io⟩⟩) λv s1 h1=>bR h1 λitv s2 h2=>?_
 obtain⟨it,fp,tn,J,H2,rfl,I2,T,st2,f2,sm,io⟩:=h2
 refine nU (RR:=λacc C=>Wg (model X.prog X.w) X.A X.xe (some (M0 (.Name y py) X.env)) (λ_ s'=>SP X aa E .next s') acc C) hcalm hk hs hn hm hT hg hp he I2 (sr.ext sm) T st2 f2 io hz hc ?_
 intro D C s' H' xs hDge hCge hDC hD sm' hx rp ⟨mm,hns⟩ hC' hos hbare hok hun;have I3:Inv X aa σ H' s':=I2.call' (ch:=fp) hos hun hok hbare λb hb=>⟨(f2 b hb).2.2.2.1,(f2 b hb).2.1,(f2 b hb).2.2.2.2.1,(f2 b hb).2.2.2.2.2⟩
 have fin:=q _ H' (sm.trans sm') ⟨D,xs,ys,rfl,rfl,sm.free hD,hx,rp⟩
 have ltC: ∀b o,s2.heap.get? b=some o->b≠C:=λb o e z=>by subst z;exact absurd (IJ e) (NU.mpr hCge)
 have hLC:C≠X.env.locals:=λz=>by
  have:=I2.lt
  rw[<-z] at this;exact absurd this (NU.mpr hCge)
 show IF _ X.A (M0 (.Name y py) X.env (.ref D)) _ _ s';refine Rs (pc (v:=.ref D) I3 hN hyi (.inl hy) rfl (λs'' I4 hb=>?_) (.inr hy))
 obtain⟨a,hsb,ha⟩:=hb
 have hCa:C≠a:=by
  rcases ha with rfl|ha
  ·exact hLC
  ·obtain⟨w',o,ho,_⟩:=I2.cell y a ha
   exact λz=>ltC a o ho z.symm
 refine⟨mm,hns.sameBut hsb hCa,λh3 hs3=>⟨_,H',?_,fin⟩⟩
 refine I4.turned (t':=s''.toks) (it:=C) (λb o nb e=>(hs3.2 b nb).trans e) hC' hLC (.inr (JS I2.sz hCge)) (λx c' e z=>?_) (λq hq z=>?_)
 ·obtain⟨w',o,ho,_⟩:=I2.cell x c' e
  exact ltC c' o ho z
 ·exact ltC q.1 q.2 (I2.pin q hq).1 z
theorem CC(i:Nat){k:Kd}(hcalm:X.calm=true)(hN:X.N.Nodup)(hT:jF X.N.length g)(hi:C9 X c tg iter gi)
 (hg: ∀C s₀ H₀ ex,rB (aJ X N' scope C s₀ H₀ ex) c tg g) (hp: ∀C s₀ H₀ ex,v8 (aJ X N' scope C s₀ H₀ ex) c ifs p) (he: ∀C s₀ H₀ ex,DP (aJ X N' scope C s₀ H₀ ex) c .s elt f)
 (hsw:Lp (.ListComp elt [⟨tg,iter,ifs,0⟩] scope pos) (some (.Name y py)) spos.line X.env=pure true:=by rfl) (hyi:X.N[i]? =some y:=by rfl) (hy:X.env.scope.names.lookup y=some .local:=by rfl)
 (hk:scope.kind=.function:=by rfl) (hs:xT scope X.env.scope=true:=by kernel_rfl) (hn:xU X.N N' scope=true:=by kernel_rfl) (hm:N'.length-X.N.length=m:=by rfl) (hset: ∀x,Kp iter X.env x=pure x:=by intro _;rfl):
 DS X c k (.Assign [.Name y py] (.ListComp elt [⟨tg,iter,ifs,0⟩] scope pos) spos) (du i (bP m gi g p f)):=λρ=>PS.imp (vX i hcalm hN hT hi hg hp he hsw hyi hy hk hs hn hm hset ρ) λD σ H hq_=>by
 obtain⟨hid,sr,q⟩:=hq_
 unfold du at q;cases e1:bP m gi g p f ρ with
 |none=>rw[e1] at q;exact q.elim
 |some z=>
  rw[e1] at q;exact⟨hid,sr,z,e1,λv H' s r=>EI (sr.post s r (by decide)) q⟩
theorem A3(i:Nat){k:Kd}(hcalm:X.calm=true)(hN:X.N.Nodup)(hT:jF X.N.length g)(hi:C9 X c tg iter gi)
 (hg: ∀C s₀ H₀ ex,rB (aJ X N' scope C s₀ H₀ ex) c tg g) (hp: ∀C s₀ H₀ ex,v8 (aJ X N' scope C s₀ H₀ ex) c ifs p) (he: ∀C s₀ H₀ ex,DP (aJ X N' scope C s₀ H₀ ex) c .s elt f)
 (hsw:Lp (.ListComp elt [⟨tg,iter,ifs,0⟩] scope pos) (some (.Name y py)) spos.line X.env=pure true:=by rfl) (hyi:X.N[i]? =some y:=by rfl) (hy:X.env.scope.names.lookup y=some .local:=by rfl)
 (hk:scope.kind=.function:=by rfl) (hs:xT scope X.env.scope=true:=by kernel_rfl) (hn:xU X.N N' scope=true:=by kernel_rfl) (hm:N'.length-X.N.length=m:=by rfl) (hset: ∀x,Kp iter X.env x=pure x:=by intro _;rfl):
 DS X c k (.Assign [.Name y py] (.ListComp elt [⟨tg,iter,ifs,0⟩] scope pos) spos) (bj i (bP m gi g p f)):=λρ=>PS.imp (vX i hcalm hN hT hi hg hp he hsw hyi hy hk hs hn hm hset ρ) λD σ H hq_=>by
 obtain⟨hid,sr,q⟩:=hq_
 unfold bj at q;cases e1:bP m gi g p f ρ with
 |none=>rw[e1] at q;exact q.elim
 |some z=>
  rw[e1] at q;exact⟨hid,sr,z,e1,λv H' s r=>q _ H' hid ((sr.ext s).setV (RN.rep r λa n=>sr.fresh n) i) (aH s)⟩
end
mutual
def dq:D->D->Bool
 | .non,.non=>true
 | .bl a,.bl b=>a==b
 | .bl a,.int b=>(if a then 1 else 0)==b
 | .int a,.bl b=>a==(if b then 1 else 0)
 | .int a,.int b=>a==b
 | .str a,.str b=>a==b
 | .tup a,.tup b=>cp a b
 | .lst a,.lst b=>cp a b
 | .lst a,.scr b=>cp a b
 | .scr a,.lst b=>cp a b
 | .scr a,.scr b=>cp a b
 |_,_=>false
def cp:List D->List D->Bool
 | [],[]=>true
 |x::xs,y::ys=>dq x y&&cp xs ys
 |_,_=>false
end
mutual
def cV:D->Nat
 | .tup a=>cC a+1
 | .lst a=>cC a+1
 | .scr _=>Kk
 |_=>0
def cC:List D->Nat
 | []=>0
 |x::xs=>max (cV x) (cC xs)
end
theorem nT: ∀ {xs:List D} {i:Nat} {d:D},xs[i]? =some d->cV d<=cC xs
 | [],_,_,h=>by simp at h
 |x::xs,0,d,h=>by simp at h;subst h;unfold cC;exact Nat.le_max_left _ _
 |x::xs,i+1,d,h=>by
  have:=nT (xs:=xs) (i:=i) (d:=d) (by simpa using h)
  unfold cC;exact JS this (Pt _ _)
mutual
theorem jV: ∀x:D,dq x x=true
 | .non=>by unfold dq;rfl
 | .bl a=>by unfold dq;simp
 | .int a=>by unfold dq;simp
 | .str a=>by unfold dq;simp
 | .tup a=>by unfold dq;exact iT a
 | .lst a=>by unfold dq;exact iT a
 | .scr a=>by unfold dq;exact iT a
theorem iT: ∀x:List D,cp x x=true
 | []=>by unfold cp;rfl
 |x::xs=>by unfold cp;rw[jV x,iT xs];rfl
end
def jn(xs ys:List D)(j:Nat):Bool:=match xs[j]?,ys[j]? with
 |some x,some y=>dq x y
 |_,_=>false
theorem pr {xs ys:List D}(h:xs.length=ys.length):(Iy xs.length).all (jn xs ys)=cp xs ys:=by
 induction xs generalizing ys with
 |nil=>
  cases ys with
  |nil=>unfold cp;rfl
  |cons y ys=>simp at h
 |cons x xs ih=>
  cases ys with
  |nil=>simp at h
  |cons y ys=>
   rw[Jg,Mu,O9,UZ];have e0:jn (x::xs) (y::ys) 0=dq x y:=rfl
   have e1:((jn (x::xs) (y::ys))∘Wh)=jn xs ys:=by funext j;simp[jn]
   rw[e0,e1,ih (by simpa using h)]
   conv=>rhs;unfold cp
theorem mL: ∀ {xs ys:List D},xs.length≠ys.length->cp xs ys=false
 | [],[],h=>absurd rfl h
 | [],_::_,_=>by unfold cp;rfl
 |_::_,[],_=>by unfold cp;rfl
 |x::xs,y::ys,h=>by unfold cp;rw[mL (xs:=xs) (ys:=ys) (by simpa using h)];simp
section
variable {X:Cx}{aa:List (Addr×Obj)}{σ:St}{H:Hp}{s:Io}
theorem eJ(I:Inv X aa σ H s){a:Addr}{xs ys:List V}(h:SqL X.K H a xs)(h':SqT X.K H a ys):False:=by
 obtain⟨its,_,pl,_⟩:=I.list h
 obtain⟨its',_,pt,_⟩:=I.tuple h'
 exact SeqAt.ne_of_list_tuple pl.isList pt rfl
theorem Fd {a b:List D}(h: ∀zs,cp a zs=cp b zs):(∀z,dq (.tup a) z=dq (.tup b) z)/\(∀z,dq (.lst a) z=dq (.lst b) z)/\ ∀z,dq (.scr a) z=dq (.lst b) z:=by
 refine⟨λz=>?_,λz=>?_,λz=>?_⟩<;>cases z<;>unfold dq<;>first|exact h _|rfl
theorem FY {b:List D}: ∀z,dq (.scr b) z=dq (.lst b) z:=(Fd λ_=>rfl).2.2
mutual
theorem Rep.eqv(I:Inv X aa σ H s): ∀ {v:V} {x y:D},Rep X.K H v x->Rep X.K H v y-> ∀z,dq x z=dq y z
 |_,_,_,.non,.non=>λ_=>rfl
 |_,_,_,.bl,.bl=>λ_=>rfl
 |_,_,_,.int,.int=>λ_=>rfl
 |_,_,_,.str,.str=>λ_=>rfl
 |_,_,_,.tup h r,.tup h' r'=>by rw[I.tuple_inj h h'] at r;exact(Fd (Reps.eqv I r r')).1
 |_,_,_,.lst h r,.lst h' r'=>by rw[I.list_inj (SqL.of h) (SqL.of h')] at r;exact(Fd (Reps.eqv I r r')).2.1
 |_,_,_,.lst h r,.scr h' r'=>by rw[I.list_inj (SqL.of h) h'.seq] at r;exact λz=>((Fd (Reps.eqv I r r')).2.1 z).trans (FY z).symm
 |_,_,_,.scr h r,.lst h' r'=>by rw[I.list_inj h.seq (SqL.of h')] at r;exact(Fd (Reps.eqv I r r')).2.2
 |_,_,_,.scr h r,.scr h' r'=>by rw[I.list_inj h.seq h'.seq] at r;exact λz=>((Fd (Reps.eqv I r r')).2.2 z).trans (FY z).symm
 |_,_,_,.tup h r,.lst h' r'=>(eJ I (SqL.of h') h).elim
 |_,_,_,.lst h r,.tup h' r'=>(eJ I (SqL.of h) h').elim
 |_,_,_,.tup h r,.scr h' r'=>(eJ I h'.seq h).elim
 |_,_,_,.scr h r,.tup h' r'=>(eJ I h.seq h').elim
theorem Reps.eqv(I:Inv X aa σ H s): ∀ {v:List V} {x y:List D},Reps X.K H v x->Reps X.K H v y-> ∀z,cp x z=cp y z
 |_,_,_,.nil,.nil=>λ_=>rfl
 |_,_,_,.cons r t,.cons r' t'=>λz=>by
  cases z with
  |nil=>unfold cp;rfl
  |cons w ws=>unfold cp;rw[Rep.eqv I r r' w,Reps.eqv I t t' ws]
end
theorem aD(I:Inv X aa σ H s){a:Addr}{xs:List V}{ds:List D}(h:SqL X.K H a xs)(r:Reps X.K H xs ds): ∃its:List Il,s.heap.IsList a its.toArray/\its.length=ds.length/\ ∀(j:Nat) (hj:j<its.length),∃(v:V) (d:D),ds[j]? =some d/\RelV v its[j]/\Rep X.K H v d:=by
 obtain⟨its,rv,pl,_⟩:=I.list h
 have h1:=rv.length
 have h2:=r.length
 refine⟨its,pl.isList,by omega,λj hj=>?_⟩
 have e:xs[j]? =some xs[j]:=Iq (by omega)
 obtain⟨u,e1,r1⟩:=rv.get e
 obtain⟨d,e2,r2⟩:=r.get' e
 have:its[j]=u:=by rw[Iq hj] at e1;exact Jv e1
 rw[this];exact⟨xs[j],d,e2,r1,r2⟩
theorem bz(I:Inv X aa σ H s){a:Addr}{xs:List V}{ds:List D}(h:SqT X.K H a xs)(r:Reps X.K H xs ds): ∃its:List Il,s.heap.IsTuple a its.toArray/\its.length=ds.length/\ ∀(j:Nat) (hj:j<its.length),∃(v:V) (d:D),ds[j]? =some d/\RelV v its[j]/\Rep X.K H v d:=by
 obtain⟨its,rv,pl,_⟩:=I.tuple h
 have h1:=rv.length
 have h2:=r.length
 refine⟨its,pl,by omega,λj hj=>?_⟩
 have e:xs[j]? =some xs[j]:=Iq (by omega)
 obtain⟨u,e1,r1⟩:=rv.get e
 obtain⟨d,e2,r2⟩:=r.get' e
 have:its[j]=u:=by rw[Iq hj] at e1;exact Jv e1
 rw[this];exact⟨xs[j],d,e2,r1,r2⟩
end
section
variable {X:Cx}{aa:List (Addr×Obj)}{σ:St}{H:Hp}{s:Io}
theorem fm(A:Jm):A.in1.units=A.units+1:=rfl
theorem CZ {A:Jm}{n:Nat}(IH: ∀ {x y:D} {v u:V} {a b:Il} {A:Jm},cV x<n->A.units+cV x<Kk->RelV v a->RelV u b->Rep X.K H v x->Rep X.K H u y->Ma A s a b (dq x y)){xs ys:List D}{its its2:List Il}(hd:cC xs<n)(hu:A.units+cC xs<Kk)
 (g1: ∀(j:Nat) (hj:j<its.length),∃(v:V) (d:D),xs[j]? =some d/\RelV v its[j]/\Rep X.K H v d) (g2: ∀(j:Nat) (hj:j<its2.length),∃(v:V) (d:D),ys[j]? =some d/\RelV v its2[j]/\Rep X.K H v d):
 ∀j (h1:j<its.toArray.size) (h2:j<its2.toArray.size),Ma A s its.toArray[j] its2.toArray[j] (jn xs ys j):=λj h1 h2=>by
 obtain⟨v,d,e1,r1,p1⟩:=g1 j (by simpa using h1)
 obtain⟨u,d',e2,r2,p2⟩:=g2 j (by simpa using h2)
 have ez:jn xs ys j=dq d d':=by unfold jn;rw[e1,e2]
 rw[ez];have hdd:=nT e1
 exact IH (by omega) (by omega) (by simpa using r1) (by simpa using r2) p1 p2
theorem iO(I:Inv X aa σ H s){A:Jm}{n:Nat}(IH: ∀ {x y:D} {v u:V} {a b:Il} {A:Jm},cV x<n->A.units+cV x<Kk->RelV v a->RelV u b->Rep X.K H v x->Rep X.K H u y->Ma A s a b (dq x y)){xs ys:List D}{zs ws:List V}{a b:Addr}(hd:cC xs<n)(hu:A.units+(cC xs+1)<Kk)
 (h1:SqL X.K H a zs) (r1:Reps X.K H zs xs) (h2:SqL X.K H b ws) (r2:Reps X.K H ws ys):Th A s (.ref a) (.ref b) (cp xs ys)/\RD A s (.ref a) (.ref b) (!cp xs ys):=by
 obtain⟨its,l1,n1,g1⟩:=aD I h1 r1
 obtain⟨its2,l2,n2,g2⟩:=aD I h2 r2
 by_cases e:xs.length=ys.length
 ·have hsz:its.toArray.size=its2.toArray.size:=by simp;omega
  have he:=CZ (A:=A.in1) IH hd (by rw[fm];omega) g1 g2
  have ea:(Iy its.toArray.size).all (jn xs ys)=cp xs ys:=by rw[IP,n1];exact pr e
  rw[<-ea];exact⟨Zu l1 l2 hsz (by omega) he,X4 l1 l2 hsz (by omega) he⟩
 ·rw[mL e]
  have hsz:(its.toArray.size !=its2.toArray.size)=true:=by simp;omega
  exact⟨Ua l1 l2 hsz (by omega),Ti l1 l2 hsz (by omega)⟩
theorem vj(I:Inv X aa σ H s){A:Jm}{n:Nat}(IH: ∀ {x y:D} {v u:V} {a b:Il} {A:Jm},cV x<n->A.units+cV x<Kk->RelV v a->RelV u b->Rep X.K H v x->Rep X.K H u y->Ma A s a b (dq x y)){xs ys:List D}{zs ws:List V}{a b:Addr}(hd:cC xs<n)(hu:A.units+(cC xs+1)<Kk)
 (h1:SqT X.K H a zs) (r1:Reps X.K H zs xs) (h2:SqT X.K H b ws) (r2:Reps X.K H ws ys):Th A s (.ref a) (.ref b) (cp xs ys)/\RD A s (.ref a) (.ref b) (!cp xs ys):=by
 obtain⟨its,l1,n1,g1⟩:=bz I h1 r1
 obtain⟨its2,l2,n2,g2⟩:=bz I h2 r2
 have he:=CZ (A:=A.in1) IH hd (by rw[fm];omega) g1 g2
 have ea:((Iy (min its.toArray.size its2.toArray.size)).all (jn xs ys)&&its.toArray.size==its2.toArray.size)=cp xs ys:=by
  rw[IP,IP,n1,n2]
  by_cases e:xs.length=ys.length
  ·rw[<-e,Nat.min_self,pr e];simp
  ·rw[mL e];simp[e]
 rw[<-ea];exact⟨YN l1 l2 (by omega) he,W9 l1 l2 (by omega) he⟩
theorem lC(I:Inv X aa σ H s){A:Jm}{a b:Addr}{x y:D}(r1:Rep X.K H (.ref a) x)(r2:Rep X.K H (.ref b) y)(e:a=b):Ma A s (.ref a) (.ref b) (dq x y):=by
 subst e;rw[Rep.eqv I r1 r2,jV];exact SB _
theorem E8(I:Inv X aa σ H s){n:Nat}(IH: ∀ {x y:D} {v u:V} {a b:Il} {A:Jm},cV x<n->A.units+cV x<Kk->RelV v a->RelV u b->Rep X.K H v x->Rep X.K H u y->Ma A s a b (dq x y)){x y:D}{v u:V}{a b:Il}{A:Jm}(hd:cV x<n+1)(hu:A.units+cV x<Kk)(hc:A.units<Kk)
 (ra:RelV v a) (rb:RelV u b) (px:Rep X.K H v x) (py:Rep X.K H u y):Ma A s a b (dq x y):=by
 unfold dq;cases px with
 |non=>
  cases ra
  cases py with
  |non=>
   cases rb
   exact SB _
  |bl=>
   cases rb
   exact Wi _
  |int=>
   obtain⟨t2,rfl⟩:=rb
   exact Xa _ _
  |str=>
   obtain⟨t2,rfl⟩:=rb
   exact Xb _ _
  | @tup a2 _ _ h2 r2=>
    cases rb
    obtain⟨its2,l2,_⟩:=bz I h2 r2
    exact Vv l2 (by omega)
  | @lst a2 _ _ h2 r2=>
    cases rb
    obtain⟨its2,l2,_⟩:=aD I (SqL.of h2) r2
    exact Qo l2 (by omega)
  | @scr a2 _ _ h2 r2=>
    cases rb
    obtain⟨its2,l2,_⟩:=aD I h2.seq r2
    exact Qo l2 (by omega)
 |bl=>
  cases ra
  cases py with
  |non=>
   cases rb
   exact Wj _
  |bl=>
   cases rb
   exact Wk _ _
  |int=>
   obtain⟨t2,rfl⟩:=rb
   exact Xc _ _ _
  |str=>
   obtain⟨t2,rfl⟩:=rb
   exact Xd _ _ _
  | @tup a2 _ _ h2 r2=>
    cases rb
    obtain⟨its2,l2,_⟩:=bz I h2 r2
    exact Vw _ l2 (by omega)
  | @lst a2 _ _ h2 r2=>
    cases rb
    obtain⟨its2,l2,_⟩:=aD I (SqL.of h2) r2
    exact Qp _ l2 (by omega)
  | @scr a2 _ _ h2 r2=>
    cases rb
    obtain⟨its2,l2,_⟩:=aD I h2.seq r2
    exact Qp _ l2 (by omega)
 |int=>
  obtain⟨t1,rfl⟩:=ra
  cases py with
  |non=>
   cases rb
   exact Xe _ _
  |bl=>
   cases rb
   exact Xf _ _ _
  |int=>
   obtain⟨t2,rfl⟩:=rb
   exact X5 _ _ _ _
  |str=>
   obtain⟨t2,rfl⟩:=rb
   exact Q4 _ _ _ _
  | @tup a2 _ _ h2 r2=>
    cases rb
    obtain⟨its2,l2,_⟩:=bz I h2 r2
    exact Wl _ _ l2 (by omega)
  | @lst a2 _ _ h2 r2=>
    cases rb
    obtain⟨its2,l2,_⟩:=aD I (SqL.of h2) r2
    exact QG _ _ l2 (by omega)
  | @scr a2 _ _ h2 r2=>
    cases rb
    obtain⟨its2,l2,_⟩:=aD I h2.seq r2
    exact QG _ _ l2 (by omega)
 |str=>
  obtain⟨t1,rfl⟩:=ra
  cases py with
  |non=>
   cases rb
   exact Xg _ _
  |bl=>
   cases rb
   exact Xh _ _ _
  |int=>
   obtain⟨t2,rfl⟩:=rb
   exact Q5 _ _ _ _
  |str=>
   obtain⟨t2,rfl⟩:=rb
   exact X6 _ _ _ _
  | @tup a2 _ _ h2 r2=>
    cases rb
    obtain⟨its2,l2,_⟩:=bz I h2 r2
    exact Wm _ _ l2 (by omega)
  | @lst a2 _ _ h2 r2=>
    cases rb
    obtain⟨its2,l2,_⟩:=aD I (SqL.of h2) r2
    exact QH _ _ l2 (by omega)
  | @scr a2 _ _ h2 r2=>
    cases rb
    obtain⟨its2,l2,_⟩:=aD I h2.seq r2
    exact QH _ _ l2 (by omega)
 | @tup a1 _ _ h1 r1=>
   cases ra
   obtain⟨its,l1,_⟩:=bz I h1 r1
   cases py with
   |non=>
    cases rb
    exact Vx l1 (by omega)
   |bl=>
    cases rb
    exact Vy _ l1 (by omega)
   |int=>
    obtain⟨t2,rfl⟩:=rb
    exact Wn _ _ l1 (by omega)
   |str=>
    obtain⟨t2,rfl⟩:=rb
    exact Wo _ _ l1 (by omega)
   | @tup a2 _ _ h2 r2=>
     cases rb
     obtain⟨its2,l2,_⟩:=bz I h2 r2
     by_cases e:a1=a2
     ·exact(lC I (.tup h1 r1) (.tup h2 r2) e)
     ·exact OM e (vj I IH (by unfold cV at hd;omega) (by unfold cV at hu;omega) h1 r1 h2 r2).1
   | @lst a2 _ _ h2 r2=>
     cases rb
     obtain⟨its2,l2,_⟩:=aD I (SqL.of h2) r2
     exact Qb l1 l2 (by omega)
   | @scr a2 _ _ h2 r2=>
     cases rb
     obtain⟨its2,l2,_⟩:=aD I h2.seq r2
     exact Qb l1 l2 (by omega)
 | @scr a1 _ _ h1 r1=>exact absurd hu (by unfold cV;omega)
 | @lst a1 _ _ h1 r1=>
   cases ra
   obtain⟨its,l1,_⟩:=aD I (SqL.of h1) r1
   cases py with
   |non=>
    cases rb
    exact Wp l1 (by omega)
   |bl=>
    cases rb
    exact Wq _ l1 (by omega)
   |int=>
    obtain⟨t2,rfl⟩:=rb
    exact Xi _ _ l1 (by omega)
   |str=>
    obtain⟨t2,rfl⟩:=rb
    exact Xj _ _ l1 (by omega)
   | @tup a2 _ _ h2 r2=>
     cases rb
     obtain⟨its2,l2,_⟩:=bz I h2 r2
     exact Vz l1 l2 (by omega)
   | @lst a2 _ _ h2 r2=>
     cases rb
     obtain⟨its2,l2,_⟩:=aD I (SqL.of h2) r2
     by_cases e:a1=a2
     ·exact(lC I (.lst h1 r1) (.lst h2 r2) e)
     ·exact OM e (iO I IH (by unfold cV at hd;omega) (by unfold cV at hu;omega) (SqL.of h1) r1 (SqL.of h2) r2).1
   | @scr a2 _ _ h2 r2=>
     cases rb
     obtain⟨its2,l2,_⟩:=aD I h2.seq r2
     by_cases e:a1=a2
     ·exact(lC I (.lst h1 r1) (.scr h2 r2) e)
     ·exact OM e (iO I IH (by unfold cV at hd;omega) (by unfold cV at hu;omega) (SqL.of h1) r1 h2.seq r2).1
theorem nW(I:Inv X aa σ H s): ∀(n:Nat) {x y:D} {v u:V} {a b:Il} {A:Jm},cV x<n->A.units+cV x<Kk->RelV v a->RelV u b->Rep X.K H v x->Rep X.K H u y->Ma A s a b (dq x y)
 |0,x,y,v,u,a,b,A,hd,hu,ra,rb,px,py=>absurd hd (Nf _)
 |n+1,x,y,v,u,a,b,A,hd,hu,ra,rb,px,py=>E8 I (λh1 h2 h3 h4 h5 h6=>nW I n h1 h2 h3 h4 h5 h6) hd hu (by omega) ra rb px py
theorem Ev(I:Inv X aa σ H s){x y:D}{v u:V}{a b:Il}{A:Jm}(hu:A.units+cV x<Kk)(hc:A.units<Kk)(ra:RelV v a)(rb:RelV u b)(px:Rep X.K H v x)(py:Rep X.K H u y):Th A s a b (dq x y):=by
 have IH:=λ{x y:D} {v u:V} {a b:Il} {A:Jm} (n:Nat)=> @nW X aa σ H s I n x y v u a b A
 have IH: ∀ {n:Nat} {x y:D} {v u:V} {a b:Il} {A:Jm},cV x<n->A.units+cV x<Kk->RelV v a->RelV u b->Rep X.K H v x->Rep X.K H u y->Ma A s a b (dq x y):=λ{n x y v u a b A}=>nW I n
 unfold dq;cases px with
 |non=>
  cases ra
  cases py with
  |non=>
   cases rb
   exact Wr
  |bl=>
   cases rb
   exact Ws _
  |int=>
   obtain⟨t2,rfl⟩:=rb
   exact Xk _ _
  |str=>
   obtain⟨t2,rfl⟩:=rb
   exact Xl _ _
  | @tup a2 _ _ h2 r2=>
    cases rb
    obtain⟨its2,l2,_⟩:=bz I h2 r2
    exact VA l2 (by omega)
  | @lst a2 _ _ h2 r2=>
    cases rb
    obtain⟨its2,l2,_⟩:=aD I (SqL.of h2) r2
    exact Qq l2 (by omega)
  | @scr a2 _ _ h2 r2=>
    cases rb
    obtain⟨its2,l2,_⟩:=aD I h2.seq r2
    exact Qq l2 (by omega)
 |bl=>
  cases ra
  cases py with
  |non=>
   cases rb
   exact Wt _
  |bl=>
   cases rb
   exact Wu _ _
  |int=>
   obtain⟨t2,rfl⟩:=rb
   exact Xm _ _ _
  |str=>
   obtain⟨t2,rfl⟩:=rb
   exact Xn _ _ _
  | @tup a2 _ _ h2 r2=>
    cases rb
    obtain⟨its2,l2,_⟩:=bz I h2 r2
    exact VB _ l2 (by omega)
  | @lst a2 _ _ h2 r2=>
    cases rb
    obtain⟨its2,l2,_⟩:=aD I (SqL.of h2) r2
    exact Qr _ l2 (by omega)
  | @scr a2 _ _ h2 r2=>
    cases rb
    obtain⟨its2,l2,_⟩:=aD I h2.seq r2
    exact Qr _ l2 (by omega)
 |int=>
  obtain⟨t1,rfl⟩:=ra
  cases py with
  |non=>
   cases rb
   exact Xo _ _
  |bl=>
   cases rb
   exact Xp _ _ _
  |int=>
   obtain⟨t2,rfl⟩:=rb
   exact X7 _ _ _ _
  |str=>
   obtain⟨t2,rfl⟩:=rb
   exact X8 _ _ _ _
  | @tup a2 _ _ h2 r2=>
    cases rb
    obtain⟨its2,l2,_⟩:=bz I h2 r2
    exact Wv _ _ l2 (by omega)
  | @lst a2 _ _ h2 r2=>
    cases rb
    obtain⟨its2,l2,_⟩:=aD I (SqL.of h2) r2
    exact QI _ _ l2 (by omega)
  | @scr a2 _ _ h2 r2=>
    cases rb
    obtain⟨its2,l2,_⟩:=aD I h2.seq r2
    exact QI _ _ l2 (by omega)
 |str=>
  obtain⟨t1,rfl⟩:=ra
  cases py with
  |non=>
   cases rb
   exact Xq _ _
  |bl=>
   cases rb
   exact Xr _ _ _
  |int=>
   obtain⟨t2,rfl⟩:=rb
   exact X9 _ _ _ _
  |str=>
   obtain⟨t2,rfl⟩:=rb
   exact Ya _ _ _ _
  | @tup a2 _ _ h2 r2=>
    cases rb
    obtain⟨its2,l2,_⟩:=bz I h2 r2
    exact Ww _ _ l2 (by omega)
  | @lst a2 _ _ h2 r2=>
    cases rb
    obtain⟨its2,l2,_⟩:=aD I (SqL.of h2) r2
    exact QJ _ _ l2 (by omega)
  | @scr a2 _ _ h2 r2=>
    cases rb
    obtain⟨its2,l2,_⟩:=aD I h2.seq r2
    exact QJ _ _ l2 (by omega)
 | @tup a1 _ _ h1 r1=>
   cases ra
   obtain⟨its,l1,_⟩:=bz I h1 r1
   cases py with
   |non=>
    cases rb
    exact VC l1 (by omega)
   |bl=>
    cases rb
    exact VD _ l1 (by omega)
   |int=>
    obtain⟨t2,rfl⟩:=rb
    exact Wx _ _ l1 (by omega)
   |str=>
    obtain⟨t2,rfl⟩:=rb
    exact Wy _ _ l1 (by omega)
   | @tup a2 _ _ h2 r2=>
     cases rb
     obtain⟨its2,l2,_⟩:=bz I h2 r2
     exact(vj I IH (Ky _) (by unfold cV at hu;omega) h1 r1 h2 r2).1
   | @lst a2 _ _ h2 r2=>
     cases rb
     obtain⟨its2,l2,_⟩:=aD I (SqL.of h2) r2
     exact Qc l1 l2 (by omega)
   | @scr a2 _ _ h2 r2=>
     cases rb
     obtain⟨its2,l2,_⟩:=aD I h2.seq r2
     exact Qc l1 l2 (by omega)
 | @scr a1 _ _ h1 r1=>exact absurd hu (by unfold cV;omega)
 | @lst a1 _ _ h1 r1=>
   cases ra
   obtain⟨its,l1,_⟩:=aD I (SqL.of h1) r1
   cases py with
   |non=>
    cases rb
    exact Wz l1 (by omega)
   |bl=>
    cases rb
    exact WA _ l1 (by omega)
   |int=>
    obtain⟨t2,rfl⟩:=rb
    exact Xs _ _ l1 (by omega)
   |str=>
    obtain⟨t2,rfl⟩:=rb
    exact Xt _ _ l1 (by omega)
   | @tup a2 _ _ h2 r2=>
     cases rb
     obtain⟨its2,l2,_⟩:=bz I h2 r2
     exact VE l1 l2 (by omega)
   | @lst a2 _ _ h2 r2=>
     cases rb
     obtain⟨its2,l2,_⟩:=aD I (SqL.of h2) r2
     exact(iO I IH (Ky _) (by unfold cV at hu;omega) (SqL.of h1) r1 (SqL.of h2) r2).1
   | @scr a2 _ _ h2 r2=>
     cases rb
     obtain⟨its2,l2,_⟩:=aD I h2.seq r2
     exact(iO I IH (Ky _) (by unfold cV at hu;omega) (SqL.of h1) r1 h2.seq r2).1
theorem yi(I:Inv X aa σ H s){x y:D}{v u:V}{a b:Il}{A:Jm}(hu:A.units+cV x<Kk)(hc:A.units<Kk)(ra:RelV v a)(rb:RelV u b)(px:Rep X.K H v x)(py:Rep X.K H u y):RD A s a b (!dq x y):=by
 have IH: ∀ {n:Nat} {x y:D} {v u:V} {a b:Il} {A:Jm},cV x<n->A.units+cV x<Kk->RelV v a->RelV u b->Rep X.K H v x->Rep X.K H u y->Ma A s a b (dq x y):=λ{n x y v u a b A}=>nW I n
 unfold dq;cases px with
 |non=>
  cases ra
  cases py with
  |non=>
   cases rb
   exact U1
  |bl=>
   cases rb
   exact U2 _
  |int=>
   obtain⟨t2,rfl⟩:=rb
   exact VF _ _
  |str=>
   obtain⟨t2,rfl⟩:=rb
   exact VG _ _
  | @tup a2 _ _ h2 r2=>
    cases rb
    obtain⟨its2,l2,_⟩:=bz I h2 r2
    exact Uv l2 (by omega)
  | @lst a2 _ _ h2 r2=>
    cases rb
    obtain⟨its2,l2,_⟩:=aD I (SqL.of h2) r2
    exact PP l2 (by omega)
  | @scr a2 _ _ h2 r2=>
    cases rb
    obtain⟨its2,l2,_⟩:=aD I h2.seq r2
    exact PP l2 (by omega)
 |bl=>
  cases ra
  cases py with
  |non=>
   cases rb
   exact U3 _
  |bl=>
   cases rb
   exact U4 _ _
  |int=>
   obtain⟨t2,rfl⟩:=rb
   exact VH _ _ _
  |str=>
   obtain⟨t2,rfl⟩:=rb
   exact VI _ _ _
  | @tup a2 _ _ h2 r2=>
    cases rb
    obtain⟨its2,l2,_⟩:=bz I h2 r2
    exact Uw _ l2 (by omega)
  | @lst a2 _ _ h2 r2=>
    cases rb
    obtain⟨its2,l2,_⟩:=aD I (SqL.of h2) r2
    exact PQ _ l2 (by omega)
  | @scr a2 _ _ h2 r2=>
    cases rb
    obtain⟨its2,l2,_⟩:=aD I h2.seq r2
    exact PQ _ l2 (by omega)
 |int=>
  obtain⟨t1,rfl⟩:=ra
  cases py with
  |non=>
   cases rb
   exact VJ _ _
  |bl=>
   cases rb
   exact VL _ _ _
  |int=>
   obtain⟨t2,rfl⟩:=rb
   exact WB _ _ _ _
  |str=>
   obtain⟨t2,rfl⟩:=rb
   exact WC _ _ _ _
  | @tup a2 _ _ h2 r2=>
    cases rb
    obtain⟨its2,l2,_⟩:=bz I h2 r2
    exact U5 _ _ l2 (by omega)
  | @lst a2 _ _ h2 r2=>
    cases rb
    obtain⟨its2,l2,_⟩:=aD I (SqL.of h2) r2
    exact Qd _ _ l2 (by omega)
  | @scr a2 _ _ h2 r2=>
    cases rb
    obtain⟨its2,l2,_⟩:=aD I h2.seq r2
    exact Qd _ _ l2 (by omega)
 |str=>
  obtain⟨t1,rfl⟩:=ra
  cases py with
  |non=>
   cases rb
   exact VM _ _
  |bl=>
   cases rb
   exact VN _ _ _
  |int=>
   obtain⟨t2,rfl⟩:=rb
   exact WD _ _ _ _
  |str=>
   obtain⟨t2,rfl⟩:=rb
   exact WE _ _ _ _
  | @tup a2 _ _ h2 r2=>
    cases rb
    obtain⟨its2,l2,_⟩:=bz I h2 r2
    exact U6 _ _ l2 (by omega)
  | @lst a2 _ _ h2 r2=>
    cases rb
    obtain⟨its2,l2,_⟩:=aD I (SqL.of h2) r2
    exact Qe _ _ l2 (by omega)
  | @scr a2 _ _ h2 r2=>
    cases rb
    obtain⟨its2,l2,_⟩:=aD I h2.seq r2
    exact Qe _ _ l2 (by omega)
 | @tup a1 _ _ h1 r1=>
   cases ra
   obtain⟨its,l1,_⟩:=bz I h1 r1
   cases py with
   |non=>
    cases rb
    exact Ux l1 (by omega)
   |bl=>
    cases rb
    exact Uy _ l1 (by omega)
   |int=>
    obtain⟨t2,rfl⟩:=rb
    exact U7 _ _ l1 (by omega)
   |str=>
    obtain⟨t2,rfl⟩:=rb
    exact U8 _ _ l1 (by omega)
   | @tup a2 _ _ h2 r2=>
     cases rb
     obtain⟨its2,l2,_⟩:=bz I h2 r2
     exact(vj I IH (Ky _) (by unfold cV at hu;omega) h1 r1 h2 r2).2
   | @lst a2 _ _ h2 r2=>
     cases rb
     obtain⟨its2,l2,_⟩:=aD I (SqL.of h2) r2
     exact Pu l1 l2 (by omega)
   | @scr a2 _ _ h2 r2=>
     cases rb
     obtain⟨its2,l2,_⟩:=aD I h2.seq r2
     exact Pu l1 l2 (by omega)
 | @scr a1 _ _ h1 r1=>exact absurd hu (by unfold cV;omega)
 | @lst a1 _ _ h1 r1=>
   cases ra
   obtain⟨its,l1,_⟩:=aD I (SqL.of h1) r1
   cases py with
   |non=>
    cases rb
    exact U9 l1 (by omega)
   |bl=>
    cases rb
    exact Va _ l1 (by omega)
   |int=>
    obtain⟨t2,rfl⟩:=rb
    exact VO _ _ l1 (by omega)
   |str=>
    obtain⟨t2,rfl⟩:=rb
    exact VP _ _ l1 (by omega)
   | @tup a2 _ _ h2 r2=>
     cases rb
     obtain⟨its2,l2,_⟩:=bz I h2 r2
     exact Uz l1 l2 (by omega)
   | @lst a2 _ _ h2 r2=>
     cases rb
     obtain⟨its2,l2,_⟩:=aD I (SqL.of h2) r2
     exact(iO I IH (Ky _) (by unfold cV at hu;omega) (SqL.of h1) r1 (SqL.of h2) r2).2
   | @scr a2 _ _ h2 r2=>
     cases rb
     obtain⟨its2,l2,_⟩:=aD I h2.seq r2
     exact(iO I IH (Ky _) (by unfold cV at hu;omega) (SqL.of h1) r1 h2.seq r2).2
end
theorem Rep1.full {K:Iz}{H:Hp}{hid:bq}{v:V}{d:D}(h:Rep1 K H (vw H hid) v d):Rep K H v d:=by
 rcases h with h|⟨a,xs,ds,rfl,rfl,h1,h2⟩
 ·exact h.mono (dI _ _)
 ·exact .lst h1 (h2.mono (dI _ _))
def Fs(K:Iz):R2:=λv u H Q=> ∃x y,Rep K H v x/\Rep K H u y/\cV x<=32/\Q (.bl (dq x y)) H
def Gx(K:Iz):R2:=λv u H Q=> ∃x y,Rep K H v x/\Rep K H u y/\cV x<=32/\Q (.bl (!dq x y)) H
theorem kJ {X:Cx}(hu:X.A.units+64<Kk):km X (LD .Eq) (Fs X.K):=by
 intro aa s σ H x y v u Q I rx ry h;obtain⟨dx,dy,p1,p2,hd,q⟩:=h
 exact Ev I (by omega) (by omega) rx ry p1 p2 X.prog X.w _ _ ⟨.bl _,H,I,rfl,q⟩
theorem nV {X:Cx}(hu:X.A.units+64<Kk):km X (LD .NotEq) (Gx X.K):=by
 intro aa s σ H x y v u Q I rx ry h;obtain⟨dx,dy,p1,p2,hd,q⟩:=h
 exact yi I (by omega) (by omega) rx ry p1 p2 X.prog X.w _ _ ⟨.bl _,H,I,rfl,q⟩
def qZ:D->D->Option D:=λx y=>if cV x<=32 then some (.bl (dq x y)) else none
def qW:D->D->Option D:=λx y=>if cV x<=32 then some (.bl (!dq x y)) else none
theorem oR {K:Iz}:oe K .s (Fs K) qZ:=by
 intro H hid v u x y d Q hf h r1 r2 q;unfold qZ at h;split at h
 ·cases h;exact⟨x,y,r1.full,r2.full, ‹_›,q _ H (Same.refl _) .bl⟩
 ·cases h
theorem tq {K:Iz}:oe K .s (Gx K) qW:=by
 intro H hid v u x y d Q hf h r1 r2 q;unfold qW at h;split at h
 ·cases h;exact⟨x,y,r1.full,r2.full, ‹_›,q _ H (Same.refl _) .bl⟩
 ·cases h
theorem mh {X:Cx}{aa:List (Addr×Obj)}{σ:St}{H:Hp}{s:Io}(I:Inv X aa σ H s){x:D}{v:V}{a:Il}{A:Jm}(hx:Rep X.K H v x)(ra:RelV v a): ∀ {ds:List D} {xs:List V} {its:List Il},Reps X.K H xs ds->Vals xs its->A.units+cC ds<Kk->
 ∃e:Il->Bool,(∀y,y∈its->Ma A s y a (e y))/\its.any e=ds.any (λd=>dq d x):=by
 intro ds xs its r rv hu
 classical
 let e:Il->Bool:=λy=>if h: ∃(d:D) (u:V),RelV u y/\Rep X.K H u d then dq h.choose x else false
 have key: ∀y u d,RelV u y->Rep X.K H u d->e y=dq d x:=λy u d h1 h2=>by
  have hex: ∃(d:D) (u:V),RelV u y/\Rep X.K H u d:=⟨d,u,h1,h2⟩
  show(if h: ∃(d:D) (u:V),RelV u y/\Rep X.K H u d then dq h.choose x else false)=dq d x
  rw[dif_pos hex];obtain⟨u',s1,s2⟩:=hex.choose_spec
  have eu:u'=u:=s1.inj h1
  rw[eu] at s2;exact Rep.eqv I s2 h2 x
 refine⟨e,?_,?_⟩
 ·induction rv generalizing ds with
  |nil=>intro y hy;cases hy
  |cons r1 t ih=>
   cases r with
   |cons p1 pt=>
    rename_i d ds;intro y hy;have hm:cV d<=cC (d::ds):=nT (i:=0) rfl
    have hm2:cC ds<=cC (d::ds):=by conv=>rhs;unfold cC
                                   exact Pt _ _
    rcases Jn.mp hy with rfl|hy
    ·rw[key _ _ _ r1 p1]
     exact nW I (cV d+1) (Ky _) (by omega) r1 ra p1 hx
    ·exact ih pt (by omega) y hy
 ·induction rv generalizing ds with
  |nil=>cases r;rfl
  |cons r1 t ih=>
   cases r with
   |cons p1 pt=>
    rename_i d ds;have hm2:cC ds<=cC (d::ds):=by conv=>rhs;unfold cC
                                                 exact Pt _ _
    rw[Lk,Lk,key _ _ _ r1 p1,ih pt (by omega)]
def Ea(K:Iz)(neg:Bool):R2:=λv u H Q=> ∃x ds a xs,Rep K H v x/\u=.ref a/\(SqL K H a xs\/SqT K H a xs)/\Reps K H xs ds/\cC ds<=32/\Q (.bl (if neg then !ds.any (λd=>dq d x) else ds.any λd=>dq d x)) H
theorem As {X:Cx}(hu:X.A.units+64<Kk):km X (LD .In) (Ea X.K false):=by
 intro aa s σ H v w a b Q I rx ry h;obtain⟨x,ds,p,xs,hx,rfl,hq,r,hd,q⟩:=h
 cases ry
 rcases hq with hq|hq
 ·obtain⟨its,rv,pl,hz⟩:=I.list hq
  obtain⟨e,h1,h2⟩:=mh (A:=X.A.in1) I hx rx r rv (by rw[fm];omega)
  refine SeqAt.in_listAt e pl.isList (λy hy=>h1 y (by simpa using hy)) ⟨.bl _,H,I,rfl,?_⟩
  rw[show its.toArray.any e=its.any e by simp,h2]
  exact q
 ·obtain⟨its,rv,pl,hz⟩:=I.tuple hq
  obtain⟨e,h1,h2⟩:=mh (A:=X.A.in1) I hx rx r rv (by rw[fm];omega)
  refine SeqAt.in_tupleAt e pl (λy hy=>h1 y (by simpa using hy)) ⟨.bl _,H,I,rfl,?_⟩
  rw[show its.toArray.any e=its.any e by simp,h2]
  exact q
theorem pi {X:Cx}(hu:X.A.units+64<Kk):km X (LD .NotIn) (Ea X.K true):=by
 intro aa s σ H v w a b Q I rx ry h;obtain⟨x,ds,p,xs,hx,rfl,hq,r,hd,q⟩:=h
 cases ry
 rcases hq with hq|hq
 ·obtain⟨its,rv,pl,hz⟩:=I.list hq
  obtain⟨e,h1,h2⟩:=mh (A:=X.A.in1) I hx rx r rv (by rw[fm];omega)
  refine SeqAt.notIn_listAt e pl.isList (λy hy=>h1 y (by simpa using hy)) ⟨.bl _,H,I,rfl,?_⟩
  rw[show its.toArray.any e=its.any e by simp,h2]
  exact q
 ·obtain⟨its,rv,pl,hz⟩:=I.tuple hq
  obtain⟨e,h1,h2⟩:=mh (A:=X.A.in1) I hx rx r rv (by rw[fm];omega)
  refine SeqAt.notIn_tupleAt e pl (λy hy=>h1 y (by simpa using hy)) ⟨.bl _,H,I,rfl,?_⟩
  rw[show its.toArray.any e=its.any e by simp,h2]
  exact q
def kn:D->Option (List D)
 | .lst ds=>some ds
 | .tup ds=>some ds
 |_=>none
def lW(neg:Bool):D->D->Option D:=λx y=>match kn y with
 |some ds=>if cC ds<=32 then some (.bl (if neg then !ds.any (λd=>dq d x) else ds.any λd=>dq d x)) else none
 |none=>none
theorem wA {K:Iz}(neg:Bool):oe K .s (Ea K neg) (lW neg):=by
 intro H hid v u x y d Q hf h r1 r2 q;unfold lW at h;split at h
 ·split at h
  ·rename_i ds e _
   cases h
   cases y with
   |lst zs=>
    cases e
    obtain⟨a,xs,rfl,h1,h2⟩:=r2.lst
    exact⟨x,_,a,xs,r1.full,rfl,.inl h1,h2.mono (dI _ _), ‹_›,q _ H (Same.refl _) .bl⟩
   |tup zs=>
    cases e
    obtain⟨a,xs,rfl,_,h1,h2⟩:=r2.tup
    exact⟨x,_,a,xs,r1.full,rfl,.inr h1,h2.mono (dI _ _), ‹_›,q _ H (Same.refl _) .bl⟩
   |_=>cases e
  ·cases h
 ·cases h
def HA(T:String):D->Bool
 | .non=>T=="NoneType"
 | .bl _=>T=="bool"||T=="int"
 | .int _=>T=="int"
 | .str _=>T=="str"
 | .tup _=>T=="tuple"
 | .lst _=>T=="list"
 | .scr _=>T=="list"
structure KT(T:String):Prop where
 n: ∀K,Qs K (.type "NoneType") (.type T)=some (T=="NoneType")
 b: ∀K,Qs K (.type "bool") (.type T)=some (T=="bool"||T=="int")
 i: ∀K,Qs K (.type "int") (.type T)=some (T=="int")
 s: ∀K,Qs K (.type "str") (.type T)=some (T=="str")
 t: ∀K,Qs K (.type "tuple") (.type T)=some (T=="tuple")
 l: ∀K,Qs K (.type "list") (.type T)=some (T=="list")
theorem Co:KT "list":=⟨λ_=>by kernel_rfl,λ_=>by kernel_rfl,λ_=>by kernel_rfl,λ_=>by kernel_rfl,λ_=>by kernel_rfl,λ_=>by kernel_rfl⟩
theorem yO:KT "tuple":=⟨λ_=>by kernel_rfl,λ_=>by kernel_rfl,λ_=>by kernel_rfl,λ_=>by kernel_rfl,λ_=>by kernel_rfl,λ_=>by kernel_rfl⟩
section
variable {X:Cx}{c:Ct}{e o:Expr}{k:Kd}{f g:FE}{pos p p2:Pos}
theorem yP {T:String}(kt:KT T):cK X (.builtin "isinstance") (λxs H Q=> ∃v d,xs=[v,.ty T]/\Rep X.K H v d/\Q (.bl (HA T d)) H):=by
 intro aa s σ H xs us Q I r h;obtain⟨v,d,rfl,rp,q⟩:=h
 obtain⟨u,w',rfl,rx,ry⟩:=C5 r
 cases ry
 have fin: ∀tk,EP X aa σ Q (.bool (HA T d)) {s with toks:=tk}:=λtk=>⟨.bl _,H,I.tok _,rfl,q⟩
 cases rp with
 |non=>cases rx;exact OC W.kitx_none I.kIn True.intro (kt.n _) (λz=>nomatch z) fin
 |bl=>cases rx;exact OC W.kitx_bool I.kIn True.intro (kt.b _) (λz=>nomatch z) fin
 |int=>obtain⟨t,rfl⟩:=rx;exact OC W.kitx_int I.kIn True.intro (kt.i _) (λz=>nomatch z) fin
 |str=>obtain⟨t,rfl⟩:=rx;exact OC W.kitx_str I.kIn True.intro (kt.s _) (λz=>nomatch z) fin
 |tup h1 h2=>
  cases rx
  obtain⟨⟨ob,ho,hc⟩,_⟩:=I.tupleN h1
  exact OC W.kitx_tuple I.kIn ⟨ob,ho,hc⟩ (kt.t _) (λz=>nomatch z) fin
 |lst h1 h2=>
  cases rx
  obtain⟨its,_,⟨ob,n,ho,hc,_⟩,_⟩:=I.list (SqL.of h1)
  exact OC WF I.kIn ⟨ob,ho,hc⟩ (kt.l _) (λz=>nomatch z) fin
 |scr h1 h2=>
  cases rx
  obtain⟨its,_,⟨ob,n,ho,hc,_⟩,_⟩:=I.list h1.seq
  exact OC WF I.kIn ⟨ob,ho,hc⟩ (kt.l _) (λz=>nomatch z) fin
def Br(T:String)(f:FE):FE:=λρ=>(f ρ).map λd=>.bl (HA T d)
theorem AA(T:String){y:Str}(kt:KT T)(he:DP X c k e f)(hm:X.mg "isinstance"=none)(hmT:X.mg y=none)(hg:Gl X "isinstance":=by rfl)(hgT:Gl X y:=by rfl)(hv:J9 "isinstance"=some (.builtin "isinstance"):=by kernel_rfl)(hvT:J9 y=some (.type T):=by kernel_rfl)(hn:y≠"__name__":=by decide)(hd:(y==("__debug__":Str))=false:=by decide)
 (hs1:ID [e,.Name y p2] X.env=(false,eval e X.env)::ID [.Name y p2] X.env:=by rfl) (hs2:ID [.Name y p2] X.env=(false,eval (.Name y p2) X.env)::ID [] X.env:=by rfl) (hpl:(KQ pos (ID [.Name y p2] X.env)).any (·.1)=false:=by rfl):
 DP X c .s (.Call (.Name "isinstance" p) [e,.Name y p2] [] pos) (Br T f):=λhid ρ=>
 PE.imp (j7 (yP kt) hg hm hv (bS (he hid ρ) (bS (CB (v:=.ty T) hgT hmT hvT rfl hn hd) dL hs2) hs1) (by decide) (by decide) hs1 hpl) λσ H Q hq_=>by
  obtain⟨sr,d,hd,q⟩:=hq_
  unfold Br at hd;cases e1:f ρ with
  |none=>rw[e1] at hd;cases hd
  |some z=>
   rw[e1] at hd;cases hd;exact⟨sr,z,e1,λv H' s' r=>⟨v,z,rfl,(RK.b k r λa n=>sr.fresh n).full,q _ H' s' .bl⟩⟩
def gE:List D->Option (List Bool)
 | []=>some []
 | .bl b::r=>(gE r).map (b:: ·)
 |_=>none
theorem sI: ∀ {ds:List D} {bs:List Bool} {i:Nat} {d:D},gE ds=some bs->ds[i]? =some d-> ∃b,d=.bl b/\bs[i]? =some b
 | [],_,_,_,_,h=>by simp at h
 |x::r,bs,i,d,h,e=>by
  cases x with
  |bl b=>
   unfold gE at h;cases e1:gE r with
   |none=>rw[e1] at h;cases h
   |some rs=>
    rw[e1] at h;cases h;cases i with
    |zero=>simp at e;subst e;exact⟨b,rfl,rfl⟩
    |succ i=>
     obtain⟨b',h1,h2⟩:=sI (i:=i) e1 (by simpa using e)
     exact⟨b',h1,by simpa using h2⟩
  |_=>cases h
theorem rV: ∀ {ds:List D} {bs:List Bool},gE ds=some bs->ds.length=bs.length
 | [],_,h=>by cases h;rfl
 |x::r,bs,h=>by
  cases x with
  |bl b=>
   unfold gE at h;cases e1:gE r with
   |none=>rw[e1] at h;cases h
   |some rs=>rw[e1] at h;cases h;simp[rV e1]
  |_=>cases h
theorem xM(bs:List Bool):(Iy bs.length).any (λi=>bs.getD i false)=bs.any id:=by
 induction bs with
 |nil=>rfl
 |cons b bs ih=>
  rw[Jg,Mu,Lk,Oy,Lk];rw[show((λi=>(b::bs).getD i false)∘Wh)=λi=>bs.getD i false by funext i;simp[JL],ih]
  rfl
theorem uW(bs:List Bool):(Iy bs.length).all (λi=>bs.getD i false)=bs.all id:=by
 induction bs with
 |nil=>rfl
 |cons b bs ih=>
  rw[Jg,Mu,O9,UZ,O9];rw[show((λi=>(b::bs).getD i false)∘Wh)=λi=>bs.getD i false by funext i;simp[JL],ih]
  rfl
theorem mO {aa:List (Addr×Obj)}{σ:St}{H:Hp}{s:Io}{a:Addr}{xs:List V}{ds:List D}{bs:List Bool}(I:Inv X aa σ H s)(h1:SqL X.K H a xs)(h2:Reps X.K H xs ds)(hb:gE ds=some bs)(hc:X.calm=true){E:Il->Io->Prop}{R:Il->Io->Prop}
 (hR: ∀(J:Addr) (s2:Io) (its:Array Il) (hl:its.size=bs.length),Walks X.prog X.w X.A.in1 J [J,a] [J] its.size (λi v=>its[i]? =some v) (λi h=>h.IsListIter J a i/\h.IsList a its)->s2.heap.IsListIter J a 0->s2.heap.IsList a its->TruthOf X.prog X.w X.A.in1 (λi v=>its[i]? =some v) (λi=>bs.getD i false)->
   (∀h' tk,(∀b o,b∉ [J]->s2.heap.get? b=some o->h'.get? b=some o)->Inv X aa σ H {s2 with heap:=h',toks:=tk})->R (.ref J) s2):IF (model X.prog X.w) X.A.in1 (O7 (.ref a)) R E s:=by
 obtain⟨its,rv,pl,hz⟩:=I.list h1
 have l1:=rv.length
 have l2:=h2.length
 have l3:=rV hb
 have hlt:a<s.heap.objs.size:=by obtain⟨o,n,e,_⟩:=pl;exact IJ e
 refine OW pl.isList (hR s.heap.objs.size _ its.toArray (by simp;omega) (Yc (A:=X.A.in1) (I.ok.hd hc) _ a (Jp hlt) its.toArray) ⟨_,IN _ rfl,rfl,rfl⟩ ?_ ?_ ?_)
 ·obtain⟨o,ho,q⟩:=pl.isList
  exact⟨o,Ip _ ho,q⟩
 ·intro i v s' Q E hv hq
  have hv':its[i]? =some v:=by simpa using hv
  have hi:=(IE.mp hv').1
  have ex:xs[i]? =some xs[i]:=Iq (by omega)
  obtain⟨u,e1,r1⟩:=rv.get ex
  rw[hv'] at e1;cases e1;obtain⟨d,e2,r2⟩:=h2.get' ex
  obtain⟨b,rfl,e3⟩:=sI hb e2
  rcases hx:xs[i] with _|_|_|_|_|_|_|_<;>rw[hx] at r1 r2<;>cases r2
  cases r1
  have:bs.getD i false=b:=by simp[JL,e3]
  dsimp only at hq;rw[this] at hq;exact K6 hq
 ·intro h' tk hk
  refine I.kept λb o e=>hk b o (λhm=>?_) (Ip _ e)
  have:b=s.heap.objs.size:=by simpa using hm
  exact absurd (this▸IJ e) (LA _)
theorem rE(hc:X.calm=true):cK X (.builtin "any") (λxs H Q=> ∃a ys ds bs,xs=[.ref a]/\SqL X.K H a ys/\Reps X.K H ys ds/\gE ds=some bs/\Q (.bl (bs.any id)) H):=by
 intro aa s σ H xs us Q I r h;obtain⟨a,ys,ds,bs,rfl,h1,h2,h3,q⟩:=h
 obtain⟨u,rfl,rx⟩:=ie r
 cases rx
 refine call_any_walk (mO I h1 h2 h3 hc λJ s2 its hl W st1 st2 tr kp=>?_)
 refine⟨J,_,_,_,_,_,_,rfl,W,⟨st1,st2⟩,tr,λh' tk hk=>⟨.bl _,H,kp h' tk hk,rfl,?_⟩⟩
 rw[hl,xM];exact q
theorem yB(hc:X.calm=true):cK X (.builtin "all") (λxs H Q=> ∃a ys ds bs,xs=[.ref a]/\SqL X.K H a ys/\Reps X.K H ys ds/\gE ds=some bs/\Q (.bl (bs.all id)) H):=by
 intro aa s σ H xs us Q I r h;obtain⟨a,ys,ds,bs,rfl,h1,h2,h3,q⟩:=h
 obtain⟨u,rfl,rx⟩:=ie r
 cases rx
 refine call_all_walk (mO I h1 h2 h3 hc λJ s2 its hl W st1 st2 tr kp=>?_)
 refine⟨J,_,_,_,_,_,_,rfl,W,⟨st1,st2⟩,tr,λh' tk hk=>⟨.bl _,H,kp h' tk hk,rfl,?_⟩⟩
 rw[hl,uW];exact q
def ug:List D->Option D
 | [.lst ds]=>(gE ds).map λbs=>.bl (bs.any id)
 |_=>none
def CS:List D->Option D
 | [.lst ds]=>(gE ds).map λbs=>.bl (bs.all id)
 |_=>none
theorem zD:fU X.K .s (λxs H Q=> ∃a ys ds bs,xs=[.ref a]/\SqL X.K H a ys/\Reps X.K H ys ds/\gE ds=some bs/\Q (.bl (bs.any id)) H) ug:=by
 intro H hid vs ds d Q hf h r q;unfold ug at h;split at h
 ·rename_i zs
  cases e1:gE zs with
  |none=>rw[e1] at h;cases h
  |some bs=>
   rw[e1] at h;cases h;obtain⟨x,rfl,r1⟩:=Reps1.one r
   obtain⟨a,xs,rfl,h1,h2⟩:=r1.lst
   exact⟨a,xs,zs,bs,rfl,h1,h2.mono (dI _ _),e1,q _ H (Same.refl _) .bl⟩
 ·cases h
theorem Em:fU X.K .s (λxs H Q=> ∃a ys ds bs,xs=[.ref a]/\SqL X.K H a ys/\Reps X.K H ys ds/\gE ds=some bs/\Q (.bl (bs.all id)) H) CS:=by
 intro H hid vs ds d Q hf h r q;unfold CS at h;split at h
 ·rename_i zs
  cases e1:gE zs with
  |none=>rw[e1] at h;cases h
  |some bs=>
   rw[e1] at h;cases h;obtain⟨x,rfl,r1⟩:=Reps1.one r
   obtain⟨a,xs,rfl,h1,h2⟩:=r1.lst
   exact⟨a,xs,zs,bs,rfl,h1,h2.mono (dI _ _),e1,q _ H (Same.refl _) .bl⟩
 ·cases h
def eQ:List D->Option (List Int)
 | []=>some []
 | .int b::r=>(eQ r).map (b:: ·)
 |_=>none
theorem fI: ∀ {ds:List D} {ns:List Int},eQ ds=some ns->ds=ns.map D.int
 | [],_,h=>by cases h;rfl
 |x::r,bs,h=>by
  cases x with
  |int b=>
   unfold eQ at h;cases e1:eQ r with
   |none=>rw[e1] at h;cases h
   |some rs=>rw[e1] at h;cases h;simp[fI e1]
  |_=>cases h
end
end L2
namespace PySem.SeqAt
open AutoSeq1 (wpAny_loadPart')
open MeetsSeq MeetsSeq2 MeetsSeq3 SeqRoads2
end PySem.SeqAt
namespace L2
open PySem PySem.Spec PyProof.Rows
section
variable {X:Cx}{c:Ct}{e o:Expr}{k k2:Kd}{f g:FE}{pos p p2 apos:Pos}
theorem xj:cK X (.type "range") (λxs H Q=> ∃j:Int,xs=[.int j]/\ ∀p,H p=none->Q (.ref p) (bp H p (.rng 0 j))):=by
 intro aa s σ H xs us Q I r h;obtain⟨j,rfl,q⟩:=h
 obtain⟨u,rfl,t,rfl⟩:=ie r
 refine call_range_1 ⟨.ref s.heap.objs.size,_,I.laid (λb o e=>Ip _ e) (Iv _) ?_,rfl,q _ (I.hok.fresh (Iv _))⟩
 exact⟨_,_,_,IN _ rfl⟩
theorem FI(lo:Int)(n:Nat): ∀ {K:Iz} {F:Hp},Reps K F ((Iy n).map λ(i:Nat)=>V.int (lo+i)) (qX lo n):=by
 intro K F;unfold qX
 generalize Iy n=l
 induction l with
 |nil=>exact .nil
 |cons a l ih=>exact .cons .int ih
theorem om(hc:X.calm=true):cK X (.type "list") (λxs H Q=> ∃p lo hi,xs=[.ref p]/\H p=some (.rng lo hi)/\ -(2^30)<=lo/\lo<=2^30/\ -(2^30)<=hi/\hi-lo<=1000000/\hi<=2^31/\ ∀l,H l=none->Q (.ref l) (bp H l (.lst ((Iy (hi-lo).toNat).map λ(i:Nat)=>V.int (lo+i))))):=by
 intro aa s σ H xs us Q I r h;obtain⟨p,lo,hi,rfl,hp,b1,b2,b3,b4,b5,q⟩:=h
 obtain⟨u,rfl,rx⟩:=ie r
 cases rx
 obtain⟨t,u,v,hr⟩:=I.hok p _ hp
 have hsz:Nu lo hi 1=(hi-lo).toNat:=by
  unfold Nu;rw[if_pos (by decide)]
  split
  ·rw[Int.ediv_one];omega
  ·omega
 refine call_list_range (a:=lo) (b:=hi) (c:=1) (n:=(hi-lo).toNat) (I.ok.hd hc) hr ?_ hsz (by omega) λh' tk acc' c' kp hS hacc=>?_
 ·exact small_one (by omega) (by omega) (by omega) (by omega)
 ·have hz:(hi-lo).toNat<=sizeLine:=by rw[JP];omega
  refine⟨.ref s.heap.objs.size,_,I.laid (t':=tk) kp (Iv _) (show ObjOk X.prog X.w _ h' _ (.lst _) from⟨by simpa using hz,acc'.toList,c',?_,by simpa using hS⟩),rfl,q _ (I.hok.fresh (Iv _))⟩
  obtain⟨ha,hb⟩:=hacc
  have key: ∀(l:List Il) (k m:Nat),l.length=m->(∀(j:Nat) v,l[j]? =some v-> ∃t,v=.int (lo+((k+j:Nat):Int)*1) t)->Vals ((WG k m).map λ(i:Nat)=>V.int (lo+i)) l:=by
   intro l
   induction l with
   |nil=>intro k m hm _;subst hm;exact .nil
   |cons x l ih=>
    intro k m hm hv;subst hm;rw[Jg,R5];refine .cons ?_ (ih (k+1) l.length rfl λj v e=>?_)
    ·obtain⟨t,rfl⟩:=hv 0 x rfl
     exact⟨t,by simp⟩
    ·obtain⟨t,rfl⟩:=hv (j+1) v (by simpa using e)
     exact⟨t,by congr 3;omega⟩
  have:=key acc'.toList 0 (hi-lo).toNat (by simpa using ha) λj v e=>by
   have:=hb j v (by simpa using e)
   simpa using this
  rw[Qt];exact this
def Cy:D->Option D
 | .int j=>if j.natAbs<=1000000 then some (.lst (qX 0 j.toNat)) else none
 |_=>none
def xX(f:FE):FE:=λρ=>(f ρ).bind Cy
theorem gb(hc:X.calm=true)(hml:X.mg "list"=none)(hmr:X.mg "range"=none)(he:DP X c k e f)(hgl:Gl X "list":=by rfl)(hgr:Gl X "range":=by rfl)(hvl:J9 "list"=some (.type "list"):=by kernel_rfl)(hvr:J9 "range"=some (.type "range"):=by kernel_rfl)
 (hs1:ID [e] X.env=(false,eval e X.env)::ID [] X.env:=by rfl) (hpl1:(KQ pos (ID [] X.env)).any (·.1)=false:=by rfl) (hpl2:(KQ p2 (ID [] X.env)).any (·.1)=false:=by rfl) {p3:Pos}
 (hs2:ID [.Call (.Name "range" p3) [e] [] p2] X.env=(false,eval (.Call (.Name "range" p3) [e] [] p2) X.env)::ID [] X.env:=by rfl):
 DP X c .n (.Call (.Name "list" p) [.Call (.Name "range" p3) [e] [] p2] [] pos) (xX f):=λhid ρ=>
 PE.imp (dU (om hc) hgl hml hvl (bS (dU xj hgr hmr hvr (bS (he hid ρ) dL hs1) (by decide) (by decide) hs1 hpl2) dL hs2) (by decide) (by decide) hs2 hpl1) λσ H Q hq_=>by
  obtain⟨sr,d,hd,q⟩:=hq_
  unfold xX at hd;cases e1:f ρ with
  |none=>rw[e1] at hd;cases hd
  |some z=>
   rw[e1] at hd;have hd:Cy z=some d:=hd
   unfold Cy at hd;split at hd
   ·split at hd
    ·rename_i _ j _ _
     cases hd
     refine⟨sr,_,e1,λv H1 s1 r1=>?_⟩
     have b1:=(RK.b k r1 λa n=>sr.fresh n).int
     cases b1
     refine⟨j,rfl,λr hr=>?_⟩
     refine⟨r,0,j,rfl,aC,by omega,by omega,by omega,by omega,by omega,λl hl=>?_⟩
     have s2:Same H (bp H1 r (.rng 0 j)):=s1.trans (aO hr _)
     refine q _ _ (s2.trans (aO hl _)) ?_
     have:=gd (hid:=hid) (K:=X.K) hl s2 (FI 0 (j-0).toNat)
     rw[show(j-0).toNat=j.toNat by omega] at this⊢
     exact this
    ·cases hd
   ·cases hd
def bM:=i2 (λ_ _=>true) λi j=>.int (i+j)
def dn:=i2 (λ_ _=>true) λi j=>.int (i-j)
def dG:=i2 (λi j=>decide (i.natAbs<2^1000)&&decide (j.natAbs<2^1000)) λi j=>.int (i*j)
def aS:=i2 (λ_ j=>decide (0<j)) λi j=>.int (i % j)
def jR:=i2 (λ_ j=>decide (0<j)&&decide (j.natAbs<2^1000)) λi j=>.int (i / j)
def dD:=i2 (λi j=>decide (0<=j)&&decide (j<=1000000)&&decide (i.natAbs<2^64)) λi j=>.int (i^j.toNat)
def n4:=i2 (λ_ _=>true) λi j=>.bl (decide (i<j))
def Ex:=i2 (λ_ _=>true) λi j=>.bl (decide (j<i))
def GQ:=i2 (λ_ _=>true) λi j=>.bl (decide (j<=i))
theorem wc {i:Int}(h:i.natAbs<2^1000):QK i<=2^20:=by
 unfold QK;split
 ·exact JV _
 ·rename_i hz
  have h0:i.natAbs≠0:=by simp at hz;omega
  have:=(WH h0).mpr h
  omega
theorem BN:km X (Mj .Mult) (rI IntMulOk λi j=>.int (i*j)):=GL λ_ _ _ _ _ _ _ hc q=>mul_int q hc
variable {a b:Expr}
theorem fz {k1 k2:Kd}(ha:DP X c k1 a f)(hb:DP X c k2 b g):DP X c .s (.BinOp a .Add b pos) (aj bM f g):=nE x0 Ak ha hb
theorem jD {k1 k2:Kd}(ha:DP X c k1 a f)(hb:DP X c k2 b g):DP X c .s (.BinOp a .Sub b pos) (aj dn f g):=nE Dy Ak ha hb
theorem Ey {K:Iz}:oe K .s (rI IntMulOk λi j=>.int (i*j)) dG:=BE λi j h=>by
 simp only[JB,decide_eq_true_eq] at h;exact IntMulOk.of_bits (wc h.1) (wc h.2)
theorem kM {k1 k2:Kd}(ha:DP X c k1 a f)(hb:DP X c k2 b g):DP X c .s (.BinOp a .Mult b pos) (aj dG f g):=nE BN Ey ha hb
theorem D5 {K:Iz}:oe K .s (rI (λ_ j=>0<j) λi j=>.int (i % j)) aS:=BE λi j h=>by simpa using h
theorem cn {k1 k2:Kd}(ha:DP X c k1 a f)(hb:DP X c k2 b g):DP X c .s (.BinOp a .Mod b pos) (aj aS f g):=nE DU D5 ha hb
theorem zE:km X (Mj .FloorDiv) (rI (λ_ j=>0<j/\j.natAbs<2^1000) λi j=>.int (i / j)):=GL λi j _ _ _ _ _ hc q=>by
 obtain⟨h1,h2⟩:=hc
 refine floordiv_int (by omega) (by rw[Int.fdiv_eq_ediv_of_nonneg i (by omega)];exact q) (.inl (PyProof.noPylong_of_log2 ?_))
 have:=(WH (n:=j.natAbs) (by omega)).mpr h2
 omega
theorem AV {K:Iz}:oe K .s (rI (λ_ j=>0<j/\j.natAbs<2^1000) λi j=>.int (i / j)) jR:=BE λi j h=>by
 simp only[JB,decide_eq_true_eq] at h;exact⟨h.1,h.2⟩
theorem vy {k1 k2:Kd}(ha:DP X c k1 a f)(hb:DP X c k2 b g):DP X c .s (.BinOp a .FloorDiv b pos) (aj jR f g):=nE zE AV ha hb
theorem Du {K:Iz}:oe K .s (rI Gs λi j=>.int (i^j.toNat)) dD:=BE λi j h=>by
 simp only[JB,decide_eq_true_eq] at h;exact⟨h.1.1,h.1.2,h.2⟩
theorem kx {k1 k2:Kd}(ha:DP X c k1 a f)(hb:DP X c k2 b g):DP X c .s (.BinOp a .Pow b pos) (aj dD f g):=nE Ed Du ha hb
theorem DQ {f g:GE}(ha:DE X c .s a f)(hb:DE X c .s b g):DE X c .s (.BinOp a .Add b pos) (ij bM f g):=Fk x0 Ak ha hb
end
structure Cl(P:Jf)(w:Jr)(K:Iz)(mg:Str->Option Il)(base:Heap)(k:Nat)(x:Str)(ps:List Str)(sp:Sp):Prop where
 ex: ∃f fd,FnOk P w K mg base qY k f fd ps sp/\mg x=some (.ref f)/\Ki K (.ref f)=true/\Binds K fd ps []
structure Df(K:Iz)(mg:Str->Option Il)(x:Str)(st:Stmt)(ps:List Str):Prop where
 ex: ∃f fd,Fun K x x st f fd/\mg x=some (.ref f)/\Binds K fd ps []
section
variable {P:Jf}{w:Jr}{K:Iz}{mg:Str->Option Il}{base:Heap}{x:Str}{st:Stmt}{N ps:List Str}{k n:Nat}{t:FS}{kd:Kd}
theorem bv(F:Df K mg x st ps)(S:FnScope N ps (ai st))(hkd:kd≠ .b)(hn:ps.length=n)
 (body: ∀(f:Addr) (cdv:Il) (A:Jm) (outer:List Env) (s:Io) (H:Hp) (hid:bq) (E:XK),Room k (A.deeper (Oj x (ai st) s.heap.objs.size f cdv))->
   tO (oB qY P w K mg base N x (ai st) f cdv A outer s H E).nox ⟨H,hid,λ_=>false⟩ kd (aK st) t):
 Cl P w K mg base (k+1) x ps (eS K kd n (gm kd N.length t)):=by
 obtain⟨f,fd,F,hm,hb⟩:=F.ex
 subst hn;exact⟨f,fd,wE F S hkd (body f),hm,F.kp,hb⟩
theorem qJ(F:Df K mg x st ps)(S:FnScope N ps (ai st))(hkd:kd≠ .b)(hn:ps.length=n+1)
 (body: ∀(f:Addr) (cdv:Il) (A:Jm) (outer:List Env) (s:Io) (H:Hp) (hid:bq) (a:Addr) (E:XK),Room k (A.deeper (Oj x (ai st) s.heap.objs.size f cdv))->
   tO (oB qY P w K mg base N x (ai st) f cdv A outer s H E).nox ⟨H,hid,λb=>decide (b=a)⟩ kd (aK st) t):
 Cl P w K mg base (k+1) x ps (rK K kd n (tR kd N.length t)):=by
 obtain⟨f,fd,F,hm,hb⟩:=F.ex
 exact⟨f,fd,EY F S hkd hn (body f),hm,F.kp,hb⟩
end
section
variable {X:Cx}{c:Ct}{e a b:Expr}{es rest:List Expr}{k:Kd}{pos p:Pos}{x:Str}{ps:List Str}{j n:Nat}
def nF(n:Nat)(P:List D->Option D):List D->Option D:=λds=>if ds.length=n then P ds else none
theorem bU {P:List D->Option D}{fs:FA}(C:Cl X.prog X.w X.K X.mg X.base j x ps (eS X.K k n P))(hr:Room j X.A)
 (ha:DA X c (e::es) fs) (hg:Gl X x:=by rfl) (hdb:(x==("__debug__":Str))=false:=by decide) (he:ID (e::es) X.env=(false,eval e X.env)::ID es X.env:=by rfl) (hpl:(KQ pos (ID es X.env)).any (·.1)=false:=by rfl):
 DP X c k (.Call (.Name x p) (e::es) [] pos) (ak (nF n P) fs):=by
 obtain⟨f,fd,F,hm,hk,hb⟩:=C.ex
 exact B0 F hr hm hk hb ha hg hdb he hpl
theorem hX(i:Nat){y:Str}{py:Pos}{M:List D->List D->Option (D×List D)}{fs:GA}(C:Cl X.prog X.w X.K X.mg X.base j x ps (rK X.K k n M))(hr:Room j X.A)
 (ha:DG X c es fs) (hkb:k≠ .b:=by decide) (hN:X.N[i]? =some y:=by rfl) (hv:oh X.env.scope y:=by first|exact Kf rfl|exact Jw (Kf rfl)|exact Jw (Jw rfl)) (hd:(y==("__debug__":Str))=false:=by decide)
 (hcd:(y==("__classdict__":Str))=false:=by decide) (hs:ID (.Name y py::es) X.env=(false,eval (.Name y py) X.env)::ID es X.env:=by rfl) (hg:Gl X x:=by rfl) (hdb:(x==("__debug__":Str))=false:=by decide) (hpl:(KQ pos (ID es X.env)).any (·.1)=false:=by rfl):
 DE X c k (.Call (.Name x p) (.Name y py::es) [] pos) (aN i n M fs):=by
 obtain⟨f,fd,F,hm,hk,hb⟩:=C.ex
 exact y6 i F hr hm hk hb ha hkb hN hv hd hcd hs hg hdb hpl
end
open PySem PySem.W PyProof.Rows
structure Od(b:Nat->Nat->Bool):Prop where
 tr: ∀ {i j k:Nat},b j i=false->b k j=false->b k i=false
 as: ∀ {i j:Nat},b i j=true->b j i=false
theorem Od.rf {b:Nat->Nat->Bool}(O:Od b)(i:Nat):b i i=false:=by
 cases h:b i i with
 |false=>rfl
 |true=>have:=O.as h;rw[h] at this;exact this
structure Pm(N:Nat)(p:Array Nat):Prop where
 perm:p.Perm (KH (Iy N))
theorem Pm.size {N:Nat}{p:Array Nat}(h:Pm N p):p.size=N:=by rw[h.perm.size_eq];simp
theorem Pm.lt {N:Nat}{p:Array Nat}(h:Pm N p)(hN:0<N)(k:Nat):p.getD k 0<N:=by
 by_cases hk:k<p.size
 ·have e:p.getD k 0=p[k]:=by simp[Ku,hk]
  rw[e];have:p[k]∈(KH (Iy N)):=h.perm.mem_iff.mp (Array.getElem_mem hk)
  simpa using this
 ·have e:p.getD k 0=0:=by simp[Ku,hk]
  rw[e];exact hN
theorem sE {p q:Array Nat}{i j:Nat}(h:p[i]? =q[j]?):p.getD i 0=q.getD j 0:=by
 rw[Kj,Kj,h]
section
variable {b:Nat->Nat->Bool}{N:Nat}{cmp:Nat->Nat->(Bool->Io->Prop)->Io->Prop}{s:Io}
def Srt(b:Nat->Nat->Bool)(p:Array Nat)(n:Nat):Prop:= ∀i j,i<=j->j<n->b (p.getD j 0) (p.getD i 0)=false
def Fal(b:Nat->Nat->Bool)(p:Array Nat)(n:Nat):Prop:= ∀i j,i<=j->j<n->b (p.getD i 0) (p.getD j 0)=false
theorem Srt.succ(O:Od b){p:Array Nat}{n:Nat}(h:Srt b p n)(hn:1<=n)(e:b (p.getD n 0) (p.getD (n-1) 0)=false):Srt b p (n+1):=λi j hij hj=>by
 by_cases h1:j<n
 ·exact h i j hij h1
 ·have:j=n:=by omega
  subst this
  by_cases h2:i=j
  ·subst h2;exact O.rf _
  ·exact O.tr (h i (j-1) (by omega) (by omega)) e
theorem Fal.succ(O:Od b){p:Array Nat}{n:Nat}(h:Fal b p n)(hn:1<=n)(e:b (p.getD (n-1) 0) (p.getD n 0)=false):Fal b p (n+1):=λi j hij hj=>by
 by_cases h1:j<n
 ·exact h i j hij h1
 ·have:j=n:=by omega
  subst this
  by_cases h2:i=j
  ·subst h2;exact O.rf _
  ·exact O.tr e (h i (j-1) (by omega) (by omega))
theorem Fal.congr(O:Od b){p q:Array Nat}{n:Nat}(h:Fal b p n)(e: ∀k,k<n->b (p.getD k 0) (q.getD k 0)=false/\b (q.getD k 0) (p.getD k 0)=false):Fal b q n:=λi j hij hj=>
 O.tr (O.tr (e j hj).1 (h i j hij hj)) (e i (by omega)).2
theorem Bl(O:Od b)(p:Array Nat):Srt b p 1:=λi j hij hj=>by
 have:i=j:=by omega
 subst this;exact O.rf _
theorem A1(O:Od b)(p:Array Nat):Fal b p 1:=λi j hij hj=>by
 have:i=j:=by omega
 subst this;exact O.rf _
theorem ku {p:Array Nat}{i j:Nat}(hj:j<=p.size)(k:Nat):(Oz p i j).getD k 0=if i<=k/\k<j then p.getD (i+j-1-k) 0 else p.getD k 0:=by
 have:=QL (i:=i) hj k
 unfold Oz;split
 ·rename_i h;rw[if_pos h] at this;exact sE this
 ·rename_i h;rw[if_neg h] at this;exact sE this
theorem Pm.rev {p:Array Nat}(h:Pm N p)(i j:Nat):Pm N (Oz p i j):=⟨(mirror_perm _ _ _ _).trans h.perm⟩
variable(O:Od b)(hN:0<N)(hc: ∀(i j:Nat) (C:Bool->Io->Prop),i<N->j<N->C (b i j) s->cmp i j C s)
include O hN hc
theorem ur {p:Array Nat}(P:Pm N p){Q:Nat->Io->Prop}: ∀(f n:Nat),1<=n->n+f<=N->Srt b p n->
 (∀m,n<=m->m<=n+f->Srt b p m->(m<n+f->b (p.getD m 0) (p.getD (m-1) 0)=true)->Q m s)->(kas_asc p f n).kasWp cmp Q s
 |0,n,h1,h2,hs,q=>q n (Iv _) (Iv _) hs λz=>absurd z (LA _)
 |f+1,n,h1,h2,hs,q=>by
  unfold kas_asc;refine hc _ _ _ (P.lt hN _) (P.lt hN _) ?_
  cases e:b (p.getD n 0) (p.getD (n-1) 0) with
  |true=>simp only[if_true];exact q n (Iv _) (by omega) hs λ_=>e
  |false=>
   simp only[IB,if_false];exact ur P f (n+1) (by omega) (by omega) (hs.succ O h1 e) λm a1 a2 a3 a4=>q m (by omega) (by omega) a3 λz=>a4 (by omega)
def Eqs(b:Nat->Nat->Bool)(p:Array Nat)(n q:Nat):Prop:= ∀i,n- (q+1)<=i->i<n->b (p.getD i 0) (p.getD (n-1) 0)=false/\b (p.getD (n-1) 0) (p.getD i 0)=false
omit hN hc in
theorem Eqs.rev {p:Array Nat}{n q:Nat}(hn:n<=p.size)(hq:q<n)(h:Eqs b p n q)(k:Nat):b (p.getD k 0) ((Oz p (n- (q+1)) n).getD k 0)=false/\b ((Oz p (n- (q+1)) n).getD k 0) (p.getD k 0)=false:=by
 rw[ku hn];split
 ·rename_i hk
  have h1:=h k hk.1 hk.2
  have h2:=h (n- (q+1)+n-1-k) (by omega) (by omega)
  exact⟨O.tr h2.2 h1.1,O.tr h1.2 h2.1⟩
 ·exact⟨O.rf _,O.rf _⟩
theorem mz {Q:Array Nat×Nat×Nat->Io->Prop}: ∀(f:Nat) (p:Array Nat) (n q:Nat),Pm N p->1<=n->n+f<=N->q<n->Fal b p n->Eqs b p n q->
 (∀p' n' q',Pm N p'->n<=n'->n'<=n+f->q'<n'->Fal b p' n'->Eqs b p' n' q'->Q (p',n',q') s)->(kas_desc f p n q).kasWp cmp Q s
 |0,p,n,q,P,h1,h2,hq,hf,he,k=>k p n q P (Iv _) (Iv _) hq hf he
 |f+1,p,n,q,P,h1,h2,hq,hf,he,k=>by
  have hz:=P.size
  have e0: ∀p':Array Nat,Eqs b p' (n+1) 0:=λp' i a1 a2=>by
   have:i=n:=by omega
   subst this;exact⟨O.rf _,O.rf _⟩
  unfold kas_desc;refine hc _ _ _ (P.lt hN _) (P.lt hN _) ?_
  cases e:b (p.getD n 0) (p.getD (n-1) 0) with
  |true=>
   simp only[if_true];split
   ·rename_i hq0
    have ev:=he.rev O (by omega) hq
    have hf':Fal b (Oz p (n- (q+1)) n) n:=hf.congr O λk _=>ev k
    refine mz f _ (n+1) 0 (P.rev _ _) (by omega) (by omega) (by omega) (hf'.succ O h1 ?_) (e0 _) λp' n' q' a1 a2 a3=>k p' n' q' a1 (by omega) (by omega)
    have e1:(Oz p (n- (q+1)) n).getD n 0=p.getD n 0:=by rw[ku (by omega),if_neg (by omega)]
    rw[e1];exact O.tr (O.as e) (ev (n-1)).2
   ·exact mz f p (n+1) 0 P (by omega) (by omega) (by omega) (hf.succ O h1 (O.as e)) (e0 _) λp' n' q' a1 a2 a3=>k p' n' q' a1 (by omega) (by omega)
  |false=>
   simp only[IB,if_false];refine hc _ _ _ (P.lt hN _) (P.lt hN _) ?_
   cases e2:b (p.getD (n-1) 0) (p.getD n 0) with
   |true=>simp only[if_true];exact k p n q P (Iv _) (by omega) hq hf he
   |false=>
    simp only[IB,if_false];refine mz f p (n+1) (q+1) P (by omega) (by omega) (by omega) (hf.succ O h1 e2) (λi a1 a2=>?_) λp' n' q' b1 b2 b3=>k p' n' q' b1 (by omega) (by omega)
    rw[show n+1-1=n by omega]
    by_cases hi:i=n
    ·subst hi;exact⟨O.rf _,O.rf _⟩
    ·have z:=he i (by omega) (by omega)
     exact⟨O.tr e2 z.1,O.tr z.2 e⟩
theorem tu {p:Array Nat}(P:Pm N p){n:Nat}(h1:1<=n)(hn:n<=N)(hf:Fal b p n){Q:Nat×Array Nat->Io->Prop}(q: ∀m p',Pm N p'->1<=m->m<=N->Srt b p' m->Q (m,p') s):(kas_tail3 n N p).kasWp cmp Q s:=by
 unfold kas_tail3;rw[Nh];have hz:=P.size
 have hs:Srt b (Oz p 0 n) n:=λi j hij hj=>by
  rw[ku (by omega),ku (by omega),if_pos (by omega),if_pos (by omega)]
  exact hf _ _ (by omega) (by omega)
 exact ur O hN hc (P.rev _ _) (N-n) n h1 (by omega) hs λm a1 a2 a3 _=>q m _ (P.rev _ _) (by omega) (by omega) a3
theorem lL {p:Array Nat}(P:Pm N p){n:Nat}(h1:1<=n)(hn:n+1<=N)(hf:Fal b p (n+1)){Q:Nat×Array Nat->Io->Prop}(q: ∀m p',Pm N p'->1<=m->m<=N->Srt b p' m->Q (m,p') s):(kas_descPart n N p).kasWp cmp Q s:=by
 unfold kas_descPart;rw[Nh];refine mz O hN hc (N- (n+1)) p (n+1) 0 P (by omega) (by omega) (by omega) hf (λi a1 a2=>?_) λp' n' q' a1 a2 a3 a4 a5 a6=>?_
 ·have:i=n:=by omega
  subst this;exact⟨O.rf _,O.rf _⟩
 ·dsimp only
  have hz:=a1.size
  split
  ·exact tu O hN hc (a1.rev _ _) (by omega) (by omega) (a5.congr O λk _=>a6.rev O (by omega) a4 k) q
  ·exact tu O hN hc a1 (by omega) (by omega) a5 q
theorem Al {p:Array Nat}(P:Pm N p){Q:Nat×Array Nat->Io->Prop}(q: ∀m p',Pm N p'->1<=m->m<=N->Srt b p' m->Q (m,p') s):(kas_count N p).kasWp cmp Q s:=by
 unfold kas_count;rw[Nh];have hz:=P.size
 refine ur O hN hc P (N-1) 1 (Iv _) (by omega) (Bl O p) λm a1 a2 a3 a4=>?_
 split
 ·exact q m p P a1 (by omega) a3
 ·rename_i hm
  have hm':m≠N:=by simpa using hm
  have lt:=a4 (by omega)
  split
  ·refine hc _ _ _ (P.lt hN _) (P.lt hN _) ?_
   cases e:b (p.getD 0 0) (p.getD (m-1) 0) with
   |true=>simp only[if_true];exact q m p P a1 (by omega) a3
   |false=>
    simp only[IB,if_false];have eq: ∀i j,i<m->j<m->b (p.getD i 0) (p.getD j 0)=false:=λi j hi hj=>O.tr (O.tr (a3 j (m-1) (by omega) (by omega)) e) (a3 0 i (by omega) hi)
    have hr: ∀i,i<m->(Oz p 0 m).getD i 0=p.getD (0+m-1-i) 0:=λi hi=>by rw[ku (by omega),if_pos (by omega)]
    refine lL O hN hc (P.rev _ _) a1 (by omega) (Fal.succ O (λi j hij hj=>?_) a1 ?_) q
    ·rw[hr i (by omega),hr j hj];exact eq _ _ (by omega) (by omega)
    ·have e1:(Oz p 0 m).getD m 0=p.getD m 0:=by rw[ku (by omega),if_neg (by omega)]
     rw[e1,hr (m-1) (by omega)]
     exact O.tr (O.as lt) (eq _ _ (by omega) (by omega))
  ·have:m=1:=by omega
   subst this;exact lL O hN hc P (Iv _) (by omega) ((A1 O p).succ O (Iv _) (O.as lt)) q
theorem mC {p:Array Nat}(P:Pm N p){k:Nat}(hs:Srt b p k){Q:Nat->Io->Prop}: ∀(f l r:Nat),l<=r->r<=k->r-l<=f->(∀i,i<l->b (p.getD k 0) (p.getD i 0)=false)->(∀i,r<=i->i<k->b (p.getD k 0) (p.getD i 0)=true)->
 (∀m,m<=k->(∀i,i<m->b (p.getD k 0) (p.getD i 0)=false)->(∀i,m<=i->i<k->b (p.getD k 0) (p.getD i 0)=true)->Q m s)->(kas_place p k f l r).kasWp cmp Q s
 |0,l,r,h1,h2,h3,a,c,q=>q l (by omega) a λi z=>c i (by omega)
 |f+1,l,r,h1,h2,h3,a,c,q=>by
  unfold kas_place;split
  ·exact q l (by omega) a λi z=>c i (by omega)
  ·rename_i hlr
   refine hc _ _ _ (P.lt hN _) (P.lt hN _) ?_
   cases e:b (p.getD k 0) (p.getD ((l+r) / 2) 0) with
   |true=>
    simp only[if_true];refine mC P hs f l _ (by omega) (by omega) (by omega) a (λi z1 z2=>?_) q
    cases e2:b (p.getD k 0) (p.getD i 0) with
    |true=>rfl
    |false=>
     have:=O.tr (hs ((l+r) / 2) i z1 z2) e2
     rw[e] at this;exact this.symm
   |false=>
    simp only[IB,if_false];exact mC P hs f _ r (by omega) (by omega) (by omega) (λi z=>O.tr (hs i ((l+r) / 2) (by omega) (by omega)) e) c q
omit hN hc in
theorem uG {p:Array Nat}{k m:Nat}(hk:k<p.size)(hs:Srt b p k)(hm:m<=k)(a: ∀i,i<m->b (p.getD k 0) (p.getD i 0)=false)(c: ∀i,m<=i->i<k->b (p.getD k 0) (p.getD i 0)=true):Srt b (Vc p k (k-m)) (k+1):=by
 have g: ∀j,(Vc p k (k-m)).getD j 0=if j=m then p.getD k 0 else if m<j/\j<=k then p.getD (j-1) 0 else p.getD j 0:=λj=>by
  have:=SD hk (k-m) (by omega) j
  rw[show k- (k-m)=m by omega] at this
  by_cases h:j=m
  ·rw[if_pos h] at this⊢;exact sE this
  ·rw[if_neg h] at this⊢
   by_cases h2:m<j/\j<=k
   ·rw[if_pos h2] at this⊢;exact sE this
   ·rw[if_neg h2] at this⊢;exact sE this
 intro i j hij hj;rw[g,g]
 by_cases ej:j=m
 ·rw[if_pos ej]
  by_cases ei:i=m
  ·rw[if_pos ei];exact O.rf _
  ·rw[if_neg ei,if_neg (by omega)];exact a i (by omega)
 ·rw[if_neg ej]
  by_cases ei:i=m
  ·rw[if_pos ei,if_pos (by omega)];exact O.as (c _ (by omega) (by omega))
  ·rw[if_neg ei]
   by_cases hj2:m<j/\j<=k
   ·rw[if_pos hj2]
    by_cases hi2:m<i/\i<=k
    ·rw[if_pos hi2];exact hs _ _ (by omega) (by omega)
    ·rw[if_neg hi2];exact hs _ _ (by omega) (by omega)
   ·rw[if_neg hj2,if_neg (by omega)];exact hs _ _ hij (by omega)
theorem zT {Q:Array Nat->Io->Prop}: ∀(f:Nat) (p:Array Nat) (k:Nat),Pm N p->1<=k->k+f=N->Srt b p k->(∀p',Pm N p'->Srt b p' N->Q p' s)->(kas_bin f p k).kasWp cmp Q s
 |0,p,k,P,h1,h2,hs,q=>q p P (by rw[<-h2];exact hs)
 |f+1,p,k,P,h1,h2,hs,q=>by
  unfold kas_bin;rw[Nh];have hz:=P.size
  refine mC O hN hc P hs k 0 k (JV _) (Iv _) (by omega) (λi z=>absurd z (by omega)) (λi z1 z2=>absurd z2 (by omega)) λm a1 a2 a3=>?_
  exact zT f _ (k+1) ⟨(bubble_perm _ _ _).trans P.perm⟩ (by omega) (by omega) (uG O (by omega) hs a1 a2 a3) q
theorem vK {Q:Array Nat->Io->Prop}(q: ∀p,Pm N p->Srt b p N->Q p s):(Tk N).kasWp cmp Q s:=by
 unfold Tk;rw[Nh];refine Al O hN hc ⟨Z0 _⟩ λm p' P h1 h2 hs=>?_
 dsimp only;split
 ·exact zT O hN hc _ p' _ P (by omega) (by omega) (by rw[show max m 1=m by omega];exact hs) q
 ·have:m=N:=by omega
  subst this;exact q p' P hs
end
open PySem PySem.W PySem.Calls PyProof.Rows
section
variable {prog:Jf}{w:Jr}{A:Jm}{E:Il->Io->Prop}{s:Io}
theorem uV {a:Addr}{us:List Il}{n:Nat}{P:ZA->Io->Prop}(ho:s.heap.get? a=some (Lc "list" us.toArray n))(hz:us.length<64)
 (few:us.length<2->P (.done (.ret .none)) {s with heap:=Mv s.heap a us us.toArray})
 (many:2<=us.length-> ∀g:Heap,(∀c o,c≠a->s.heap.get? c=some o->g.get? c=some o)->IF (model prog w) A (Tl us.toArray) (λκ t=>t={s with heap:=g}/\
   (Tk us.length).kasWp (Vd prog w A κ us) (λp t'=>t'=t/\P (.done (.ret .none)) {s with heap:=Mv s.heap a us (KH (p.toList.map λi=>us.getD i IV))}) t) (λ_ _=>False) {s with heap:=g}):
 IF (model prog w) A (LR.«list.sort» ⟨[.ref a],[]⟩) P E s:=by
 have la:a<s.heap.objs.size:=IJ ho
 have z1:us.toArray.size<=sizeLine:=by rw[IP,JP];omega
 obtain⟨c1,h1⟩: ∃c,(s.heap.update a (KA λ_=> #[])).get? a=some (Lc "list" #[] c):=⟨_,SE ho (λ_=> #[])⟩
 have h2:(((s.heap.update a (KA λ_=> #[])).push (Lc "tuple" us.toArray 0)).push (Lc "list" #[] 0)).get? a=some (Lc "list" #[] c1):=Ip _ (Ip _ h1)
 have kp: ∀c o,c≠a->s.heap.get? c=some o->(((s.heap.update a (KA λ_=> #[])).push (Lc "tuple" us.toArray 0)).push (Lc "list" #[] 0)).get? c=some o:=λc o nc e=>
  Ip _ (Ip _ (by rw[QM _ _ _ _ nc];exact e))
 rw[SF];refine Ik (listItems_at ho rfl (Ik (M9 ho rfl ?_ z1 (JV _))))
 refine Ik (Oa h1 rfl (Ik (Tn ?_ (show us.length<=_ by rw[JP];omega))))
 refine Ik (Pc (JM ?_) (JV _))
 show IF (model prog w) A _ P E {s with heap:=((s.heap.update a (KA λ_=> #[])).push (Lc "tuple" us.toArray 0)).push (Lc "list" #[] 0)}
 dsimp only
 by_cases hs:us.toArray.size<2
 ·rw[if_pos hs,if_pos hs]
  refine Ik (Im ?_)
  rw[StateT.run_pure];refine Ik (Im ?_)
  dsimp only;have ea:Pv (λx=>x.2) (us.toArray.zip us.toArray)=us.toArray:=by
   apply R6.mp
   simp[R7]
  refine Ik (Oa h2 rfl (Ik (M9 h2 rfl ?_ (JV _) ?_)))
  ·simp only[bne_self_eq_false,IB,if_false]
   refine Im ?_
   have:=few (by simpa using hs)
   show P _ {s with heap:=Mv s.heap a us (Pv (λx=>x.2) (us.toArray.zip us.toArray))}
   rw[ea];exact this
  ·show(Pv (λx=>x.2) (us.toArray.zip us.toArray)).size<=_
   rw[ea];exact MB z1
 ·rw[if_neg hs,if_neg hs]
  have h2':2<=us.length:=by simpa using hs
  refine Ik (Jo (many h2' _ kp) (λκ t ⟨et,ht⟩=>?_) λ_ _ x=>x.elim)
  subst et;refine Ik (Jo (kat_run (ks:=us) (vs:=us) (G:=λp t'=>t'=_/\P (.done (.ret .none)) {s with heap:=Mv s.heap a us (KH (p.toList.map λi=>us.getD i IV))})
   (Q:=λst t'=>t'=_/\RE st=none/\ ∃p:Array Nat,p.size=us.length/\(OY st).map (·.2)=KH (p.toList.map λi=>us.getD i IV)/\P (.done (.ret .none)) {s with heap:=Mv s.heap a us (KH (p.toList.map λi=>us.getD i IV))})
   rfl h2' hz (λp st t' a1 a2 a3 a4=>⟨a4.1,a3,p,a1,kat_snds rfl a2,a4.2⟩) ht) (λr t' hr=>?_) λ_ _ x=>x)
  obtain⟨u,st⟩:=r
  obtain⟨e1,hf,p,hp,ho',hP⟩:=hr
  subst e1;dsimp only at hf ho'⊢;rw[ho',hf];have zz:(KH (p.toList.map λi=>us.getD i IV)).size<=sizeLine:=by rw[IP,Iu,IA,hp,JP];omega
  refine Ik (Oa h2 rfl (Ik (M9 h2 rfl ?_ (JV _) (MB zz))))
  simp only[bne_self_eq_false,IB,if_false];exact Im hP
theorem t8 {l:Addr}{T:String}{o:Obj}{us:List Il}{n:Nat}{Q:List Il->Io->Prop}(hT:T="list"\/T="tuple")(ho:s.heap.get? l=some o)(hc:o.cls=.type T)(hd:o.data=.seq us.toArray n)(hz:us.length<64)
 (q: ∀g:Heap,(∀b u,s.heap.get? b=some u->g.get? b=some u)->s.heap.objs.size<=g.objs.size->Q us {s with heap:=g}):IF (model prog w) A (OZ (.ref l)) Q E s:=by
 have z:us.toArray.size<=sizeLine:=by rw[IP,JP];omega
 have hN:(s.heap.push {cls:=.type "list",data:=.seq ([]:List Il).toArray}).get? s.heap.objs.size=some {cls:=.type "list",data:=.seq #[] 0}:=IN _ rfl
 have hU:=JN (KA (·++us.toArray)) hN rfl
 have last:IF (model prog w) A (do
  match (<-load s.heap.objs.size).data with
   |Data.seq xs _=>pure xs.toList
   |_=>Kz "internal:collect") Q E {s with heap:=(s.heap.push {cls:=.type "list",data:=.seq ([]:List Il).toArray}).update s.heap.objs.size (KA (·++us.toArray))}:=by
  refine Ik (Q8 hU (Im ?_))
  show Q ((#[]:Array Il)++us.toArray).toList _;rw[show((#[]:Array Il)++us.toArray).toList=us by simp]
  refine q _ (λb u e=>(Mt _ _ (Ms (IJ e))).trans (Ip _ e)) ?_
  rw[R8,KN];exact OX _
 unfold OZ;refine Ik (ON (KF NK ?_))
 rw[Ks NL _];show IF _ A.in1 (RC []>>=λr=>Pp (.builtin "list.__iadd__" ⟨[r,.ref l],[]⟩)) _ _ s
 refine Ik (Kq (Im ⟨N6 L6 _,KF O0 ?_⟩))
 rw[Ks L6 _];show IF _ A.in1 (MC (.ref s.heap.objs.size) (.ref l) (.ref s.heap.objs.size)) _ _ _;have ext:=R9 (prog:=prog) (w:=w) (A:=A) (hsz:=z) (R:=λr t=>r=.ok (.ret (.ref s.heap.objs.size))/\t={s with heap:=(s.heap.push {cls:=.type "list",data:=.seq ([]:List Il).toArray}).update s.heap.objs.size (KA (·++us.toArray))})
  (s:={s with heap:=s.heap.push {cls:=.type "list",data:=.seq ([]:List Il).toArray}}) _ l (.ref s.heap.objs.size) 0 hT hN (Ip _ ho) hc hd ⟨rfl,rfl⟩
 refine Jo ext (λfin t h=>?_) (λe t h=>absurd h.1 (by simp))
 cases fin with
 |done f=>obtain⟨e,rfl⟩:=h;cases e;exact last
 |again c=>exact⟨h.1,Lj h.2 λr t' hr=>by obtain⟨rfl,rfl⟩:=hr;exact last⟩
theorem pM {l:Addr}{T:String}{o:Obj}{us:List Il}{n:Nat}{Q:Il->Io->Prop}{G:List Nat->Prop}(hT:T="list"\/T="tuple")(ho:s.heap.get? l=some o)(hc:o.cls=.type T)(hd:o.data=.seq us.toArray n)(hz:us.length<64)
 (few:us.length<2->G (Iy us.length))
 (many:2<=us.length-> ∀g:Heap,(∀c o,s.heap.get? c=some o->g.get? c=some o)->IF (model prog w) A.in1.in1 (Tl us.toArray) (λκ t=>t={s with heap:=g}/\
   (Tk us.length).kasWp (Vd prog w A.in1.in1 κ us) (λp t'=>t'=t/\G p.toList) t) (λ_ _=>False) {s with heap:=g})
 (fin: ∀(g:Heap) (a e:Nat) (ix:List Nat),(∀c o,s.heap.get? c=some o->g.get? c=some o)->s.heap.objs.size<=a->G ix->g.get? a=some (Lc "list" (KH (ix.map λi=>us.getD i IV)) e)->Q (.ref a) {s with heap:=g}):
 IF (model prog w) A (call (.builtin "sorted") [.ref l]) Q E s:=by
 refine OS kind_sorted plain_sorted entry_sorted (args_sorted1 _) ?_
 unfold LR.«sorted»;refine Ik (m:=checkCount "sorted" 1 1 _) (Im (Ik (t8 hT ho hc hd hz λg kg sg=>?_)))
 refine Ik (Pc ?_ (by rw[JP];omega))
 have hL:(g.push (Lc "list" us.toArray 0)).get? g.objs.size=some (Lc "list" us.toArray 0):=IN _ rfl
 show IF _ _ _ _ _ {s with heap:=g.push (Lc "list" us.toArray 0)}
 have end_: ∀ix:List Nat,G ix->Q (.ref g.objs.size) {s with heap:=Mv (g.push (Lc "list" us.toArray 0)) g.objs.size us (KH (ix.map λi=>us.getD i IV))}:=λix hG=>by
  obtain⟨e,he⟩:=Uc (out:=KH (ix.map λi=>us.getD i IV)) hL
  refine fin _ g.objs.size e ix (λc u hu=>?_) sg hG he
  have lt:=IJ (kg c u hu)
  rw[To (Jp lt) (by rw[size_push'];exact MD lt)]
  exact Ip _ (kg c u hu)
 refine Ik (JM (Kg Tp ⟨_,hL,rfl⟩ SG (uV (P:=λf t=> ∃v,f=.done (.ret v)/\IF (model prog w) A.in1 (pure (Tq (.ret (JI g.objs.size)))) (λf t=> ∃v,f=.done (.ret v)/\Q v t) E t) hL hz (λh=>?_) (λh g' kg'=>?_)) (Tr _)))
 ·have e:=end_ (Iy us.length) (few h)
  rw[show(Iy us.length).map (λi=>us.getD i IV)=us from NC λi=>by
   by_cases hi:i<us.length
   ·simp[hi]
   ·simp[hi]] at e
  exact⟨_,rfl,Im ⟨_,rfl,e⟩⟩
 ·refine Jo (many h g' λc u hu=>kg' c u (Jp (IJ (kg c u hu))) (Ip _ (kg c u hu))) (λκ t ⟨et,ht⟩=>⟨et,?_⟩) λ_ _ x=>x
  rw[kat_ask_eq rfl] at ht⊢;exact kas_wp_mono ht λp t' ⟨e1,hG⟩=>⟨e1,_,rfl,Im ⟨_,rfl,end_ _ hG⟩⟩
end
open PySem PySem.W PySem.Spec PyProof.Rows
def aW:List Int->List Int->Bool
 |_,[]=>false
 | [],_::_=>true
 |x::xs,y::ys=>if x=y then aW xs ys else decide (x<y)
def Ff(x y:Int):Bool:=decide (x<y)
structure Lt {α:Type}(lt:α->α->Bool):Prop where
 tr: ∀ {a b c:α},lt b a=false->lt c b=false->lt c a=false
 as: ∀ {a b:α},lt a b=true->lt b a=false
 eq: ∀ {a b:α},lt a b=false->lt b a=false->a=b
theorem Gu:Lt Ff:=⟨λh1 h2=>by simp only[Ff,decide_eq_false_iff_not] at*;omega,λh=>by simp only[Ff,decide_eq_false_iff_not,decide_eq_true_eq] at*;omega,λh1 h2=>by simp only[Ff,decide_eq_false_iff_not] at*;omega⟩
theorem vk: ∀ {a b:List Int},aW a b=true->aW b a=false
 | [],[],h=>by simp[aW] at h
 |x::xs,[],h=>by simp[aW] at h
 | [],y::ys,h=>by simp[aW]
 |x::xs,y::ys,h=>by
  unfold aW at h⊢
  by_cases e:x=y
  ·subst e;simp only[if_true] at h⊢;exact vk h
  ·rw[if_neg e] at h;rw[if_neg (JW e)];simp only[decide_eq_true_eq,decide_eq_false_iff_not] at*;omega
theorem wD: ∀ {a b:List Int},aW a b=false->aW b a=false->a=b
 | [],[],_,_=>rfl
 |x::xs,[],_,h=>by simp[aW] at h
 | [],y::ys,h,_=>by simp[aW] at h
 |x::xs,y::ys,h,h'=>by
  unfold aW at h h'
  by_cases e:x=y
  ·subst e;simp only[if_true] at h h';rw[wD h h']
  ·rw[if_neg e] at h;rw[if_neg (JW e)] at h';simp only[decide_eq_false_iff_not] at*;omega
theorem vO: ∀ {a b c:List Int},aW b a=false->aW c b=false->aW c a=false
 | [],_,_,_,_=>by unfold aW;rfl
 |x::xs,[],_,h,_=>by simp[aW] at h
 |x::xs,y::ys,[],_,h=>by simp[aW] at h
 |x::xs,y::ys,z::zs,h1,h2=>by
  unfold aW at h1 h2⊢
  by_cases e1:y=x
  ·subst e1
   simp only[if_true] at h1
   by_cases e2:z=y
   ·subst e2;simp only[if_true] at h2⊢;exact vO h1 h2
   ·rw[if_neg e2] at h2⊢;exact h2
  ·rw[if_neg e1] at h1
   by_cases e2:z=y
   ·subst e2;rw[if_neg e1];exact h1
   ·rw[if_neg e2] at h2
    simp only[decide_eq_false_iff_not] at h1 h2;rw[if_neg (by omega)]
    simp only[decide_eq_false_iff_not];omega
theorem lt_L:Lt aW:=⟨vO,vk,wD⟩
def uI {α:Type}(lt:α->α->Bool)(x:α):List α->List α
 | []=>[x]
 |y::r=>if lt x y=true then x::y::r else y::uI lt x r
def aR {α:Type}(lt:α->α->Bool):List α->List α
 | []=>[]
 |x::r=>uI lt x (aR lt r)
section
variable {α:Type}{lt:α->α->Bool}
theorem kR(x:α): ∀l:List α,(uI lt x l).Perm (x::l)
 | []=>.refl _
 |y::r=>by
  unfold uI;split
  ·exact .refl _
  ·exact((kR x r).cons y).trans (.swap _ _ _)
theorem aY: ∀l:List α,(aR lt l).Perm l
 | []=>.refl _
 |x::r=>(kR x _).trans ((aY r).cons x)
theorem wf(O:Lt lt)(x:α): ∀ {l:List α},l.Pairwise (λa b=>lt b a=false)->(uI lt x l).Pairwise (λa b=>lt b a=false)
 | [],_=>by simp[uI]
 |y::r,h=>by
  obtain⟨h1,h2⟩:=Nm.mp h
  unfold uI;split
  ·rename_i e
   refine Nm.mpr ⟨λz hz=>?_,h⟩
   rcases Jn.mp hz with rfl|hz
   ·exact O.as e
   ·exact O.tr (O.as e) (h1 z hz)
  ·rename_i e
   refine Nm.mpr ⟨λz hz=>?_,wf O x h2⟩
   rcases Jn.mp ((kR x r).mem_iff.mp hz) with rfl|hz
   ·simpa using e
   ·exact h1 z hz
theorem kF(O:Lt lt): ∀l:List α,(aR lt l).Pairwise (λa b=>lt b a=false)
 | []=>.nil
 |x::r=>wf O x (kF O r)
theorem jd(O:Lt lt){l l':List α}(p:l'.Perm l)(s:l'.Pairwise (λa b=>lt b a=false)):l'=aR lt l:=
 List.Perm.eq_of_pairwise (λa b _ _ h1 h2=>O.eq h2 h1) s (kF O l) (p.trans (aY l).symm)
theorem jx(ts:List α)(d:α):(Iy ts.length).map (λi=>ts.getD i d)=ts:=NC λi=>by
 by_cases hi:i<ts.length
 ·simp[hi]
 ·simp[hi]
theorem lJ(O:Lt lt){ts:List α}{d:α}{p:Array Nat}(P:Pm ts.length p)(S:Srt (λi j=>lt (ts.getD i d) (ts.getD j d)) p ts.length):p.toList.map (λi=>ts.getD i d)=aR lt ts:=by
 refine jd O ?_ ?_
 ·have h1:p.toList.Perm (Iy ts.length):=by simpa using (MN.mp P.perm)
  have h2:=h1.map (λi=>ts.getD i d)
  rw[jx] at h2;exact h2
 ·rw[KB,Jz]
  intro i j hi hj hij;have hz:=P.size
  have e:=S i j (by omega) (by simpa [hz] using hj)
  have g: ∀k (hk:k<p.toList.length),p.getD k 0=p.toList[k]:=λk hk=>by
   have:k<p.size:=by simpa using hk
   simp[Ku,this]
  rw[g i hi,g j hj] at e;exact e
theorem Dc(O:Lt lt)(f:Nat->α):Od (λi j=>lt (f i) (f j)):=⟨λh1 h2=>O.tr h1 h2,λh=>O.as h⟩
end
def uP:D->Option (List Int)
 | .tup ds=>match eQ ds with
   |some (x::r)=>some (x::r)
   |_=>none
 |_=>none
def jM:List D->Option (List (List Int))
 | []=>some []
 |d::r=>(uP d).bind λk=>(jM r).map (k:: ·)
def bD(k:List Int):D:=.tup (k.map D.int)
def jq(ds:List D):Option (List D):=if ds.length<64 then match eQ ds with
 |some ns=>some ((aR Ff ns).map D.int)
 |none=>(jM ds).map λks=>(aR aW ks).map bD else none
theorem iF(ns:List Int):eQ (ns.map D.int)=some ns:=by
 induction ns with
 |nil=>rfl
 |cons n ns ih=>show(eQ (ns.map D.int)).map (n:: ·)=_;rw[ih];rfl
theorem BX {d:D}{k:List Int}(h:uP d=some k):d=bD k/\k≠[]:=by
 unfold uP at h;split at h
 ·split at h
  ·rename_i e;cases h;rw[fI e];exact⟨rfl,by simp⟩
  ·cases h
 ·cases h
theorem AY {k:List Int}(h:k≠[]):uP (bD k)=some k:=by
 unfold uP bD;dsimp only;rw[iF];cases k with
 |nil=>exact absurd rfl h
 |cons x r=>rfl
theorem nP: ∀ {ds:List D} {ks:List (List Int)},jM ds=some ks->ds=ks.map bD/\ ∀k∈ks,k≠[]
 | [],_,h=>by cases h;exact⟨rfl,λ_ h=>nomatch h⟩
 |d::r,ks,h=>by
  unfold jM at h;cases e1:uP d with
  |none=>rw[e1] at h;cases h
  |some k=>
   rw[e1] at h;cases e2:jM r with
   |none=>rw[e2] at h;cases h
   |some l=>
    rw[e2] at h;cases h;obtain⟨h1,h2⟩:=BX e1
    obtain⟨h3,h4⟩:=nP e2
    refine⟨by rw[h1,h3];rfl,λz hz=>?_⟩
    rcases Jn.mp hz with rfl|hz
    ·exact h2
    ·exact h4 z hz
theorem rH: ∀ {ks:List (List Int)},(∀k∈ks,k≠[])->jM (ks.map bD)=some ks
 | [],_=>rfl
 |k::r,h=>by
  show(uP (bD k)).bind (λk'=>(jM (r.map bD)).map (k':: ·))=_
  rw[AY (h k (by simp)),rH λz hz=>h z (by simp[hz])]
  rfl
theorem xE {k:List Int}{ks:List (List Int)}:eQ ((k::ks).map bD)=none:=rfl
theorem hJ {α:Type}{lt:α->α->Bool}{l:List α}(h:l.length<2):aR lt l=l:=by
 match l,h with
 | [],_=>rfl
 | [_],_=>rfl
theorem jb {xs:List V}{us:List Il}(r:Vals xs us)(i:Nat):RelV (xs.getD i .non) (us.getD i IV):=by
 cases e:xs[i]? with
 |none=>
  have hl:=r.length
  have:us[i]? =none:=by simp at e⊢;omega
  simp[JL,e,this];rfl
 |some x=>
  obtain⟨u,h1,h2⟩:=r.get e
  simp[JL,e,h1];exact h2
theorem iZ {xs:List V}{us:List Il}(r:Vals xs us): ∀ix:List Nat,Vals (ix.map λi=>xs.getD i .non) (ix.map λi=>us.getD i IV)
 | []=>.nil
 |i::l=>.cons (jb r i) (iZ r l)
theorem kY {K:Iz}{F:Hp}{xs:List V}{ds:List D}(r:Reps K F xs ds)(i:Nat):Rep K F (xs.getD i .non) (ds.getD i .non):=by
 cases e:ds[i]? with
 |none=>
  have hl:=r.length
  have:xs[i]? =none:=by simp at e⊢;omega
  simp[JL,e,this];exact .non
 |some x=>
  obtain⟨u,h1,h2⟩:=r.get e
  simp[JL,e,h1];exact h2
theorem ja {K:Iz}{F:Hp}{xs:List V}{ds:List D}(r:Reps K F xs ds): ∀ix:List Nat,Reps K F (ix.map λi=>xs.getD i .non) (ix.map λi=>ds.getD i .non)
 | []=>.nil
 |i::l=>.cons (kY r i) (ja r l)
def oq:List Il->List Int->Prop:=NA λu i=> ∃t,u=NS i t
theorem mj {K:Iz}{F:Hp}: ∀ {xs:List V} {us:List Il} {ns:List Int},Vals xs us->Reps K F xs (ns.map D.int)->oq us ns
 |_,_,[],r,p=>by cases p;cases r;exact .nil
 |_,_,n::ns,r,p=>by
  cases p with
  |cons p1 p2=>cases r with
   |cons r1 r2=>cases p1;exact .cons r1 (mj r2 p2)
theorem sV: ∀ {us:List Il} {ns:List Int} {i:Nat} {u:Il},oq us ns->us[i]? =some u-> ∃n,ns[i]? =some n/\ ∃t,u=NS n t
 |_,_,_,_,.nil,e=>by simp at e
 |_,_,0,_,.cons h _,e=>by simp at e;subst e;exact⟨_,rfl,h⟩
 |_,_,i+1,u,.cons _ r,e=>by
  obtain⟨n,h1,h2⟩:=sV (i:=i) (u:=u) r (by simpa using e)
  exact⟨n,by simpa using h1,h2⟩
section
variable {prog:Jf}{w:Jr}{A:Jm}{s:Io}{b fin:Bool}{Q:Bool->Io->Prop}
theorem qO: ∀ {us ws:List Il} {ns ms:List Int} (i:Nat),oq us ns->oq ws ms->fin=decide (ns.length<ms.length)->Q (aW ns ms) s->KatLex prog w A b fin Q (us.zip ws) i s
 |_,_,[],[],i,.nil,.nil,e,q=>by subst e;exact kat_nil q
 |_,_,[],m::ms,i,.nil,.cons _ _,e,q=>by subst e;simp only[List.zip_nil_left];refine kat_nil ?_;simpa [aW] using q
 |_,_,n::ns,[],i,.cons _ _,.nil,e,q=>by subst e;simp only[List.zip_nil_right];refine kat_nil ?_;simpa [aW] using q
 |_,_,n::ns,m::ms,i,.cons h1 r1,.cons h2 r2,e,q=>by
  obtain⟨t,rfl⟩:=h1
  obtain⟨t',rfl⟩:=h2
  rw[Q2];refine kat_cons (RQ (kat_go (λhe=>?_) λhe=>?_))
  ·have:n=m:=by simpa using he
   subst this;refine kat_yes (qO (i+1) r1 r2 (by rw[e];simp) ?_)
   simpa [aW] using q
  ·have:n≠m:=by simpa using he
   have q':Q (decide (n<m)) s:=by simpa [aW,this] using q
   refine kat_no ?_
   cases (b&&i==0) with
   |true=>exact oneLt_int q'
   |false=>exact kat_one _ _ (lt_int q')
end
theorem lQ {X:Cx}:cK X (.builtin "sorted") (λxs H Q=> ∃a ys ds es,xs=[.ref a]/\(SqL X.K H a ys\/SqT X.K H a ys)/\Reps X.K H ys ds/\jq ds=some es/\
 ∀(l:Addr) (ix:List Nat),H l=none->ix.length=ds.length->ix.map (λi=>ds.getD i .non)=es->Q (.ref l) (bp H l (.lst (ix.map λi=>ys.getD i .non)))):=by
 intro aa s σ H xs us Q I r h;obtain⟨a,ys,ds,es,rfl,hsq,rp,hs,q⟩:=h
 obtain⟨u,rfl,rx⟩:=ie r
 cases rx
 obtain⟨its,T,o,n,rv,hT,ho,hc,hd⟩: ∃(its:List Il) (T:String) (o:Obj) (n:Nat),Vals ys its/\(T="list"\/T="tuple")/\s.heap.get? a=some o/\o.cls=.type T/\o.data=.seq its.toArray n:=by
  rcases hsq with hq|hq
  ·obtain⟨its,r',pl,hz⟩:=I.list hq
   obtain⟨o,ho,hc,n,hd⟩:=pl.isList
   exact⟨its,"list",o,n,r',.inl rfl,ho,hc,hd⟩
  ·obtain⟨its,r',pl,hz⟩:=I.tuple hq
   obtain⟨o,ho,hc,n,hd⟩:=pl
   exact⟨its,"tuple",o,n,r',.inr rfl,ho,hc,hd⟩
 have l1:=rv.length
 have l2:=rp.length
 have h64:ds.length<64:=by
  unfold jq at hs;split at hs
  ·assumption
  ·cases hs
 unfold jq at hs;rw[if_pos h64] at hs;refine pM (G:=λix=>ix.length=ds.length/\ix.map (λi=>ds.getD i .non)=es) hT ho hc hd (by omega) (λfew=>⟨by simp;omega,?_⟩) (λh2 g kg=>?_) (λg p e ix kg hp hG hg=>?_)
 ·rw[show its.length=ds.length by omega,jx]
  cases e1:eQ ds with
  |some ns=>
   rw[e1] at hs;cases hs;have:=fI e1
   subst this;rw[hJ (by simp at l2;omega)]
  |none=>
   rw[e1] at hs;cases e2:jM ds with
   |none=>rw[e2] at hs;cases hs
   |some ks=>
    rw[e2] at hs;cases hs;obtain⟨h3,_⟩:=nP e2
    subst h3;dsimp only;rw[hJ (by simp at l2;omega)]
 ·cases e1:eQ ds with
  |some ns=>
   rw[e1] at hs;cases hs;have e0:=fI e1
   subst e0;have hv:=mj rv rp
   have hl:its.length=ns.length:=by simp at l2;omega
   have gi: ∀i,i<ns.length-> ∃t,its.getD i IV=NS (ns.getD i 0) t:=λi hi=>by
    have e2:its[i]? =some its[i]:=Iq (by omega)
    obtain⟨m,e3,t,e4⟩:=sV hv e2
    refine⟨t,?_⟩
    simp[JL,e2,e3,e4]
   refine kas_kind (T:=.type "int") h2 (λv hv'=>?_) (by rfl) (by rfl) ⟨rfl,?_⟩
   ·obtain⟨i,hi,rfl⟩:=K9 hv'
    obtain⟨t,e⟩:=gi i (by omega)
    have:its[i]=its.getD i Value.none:=by simp[JL,Iq hi]
    rw[this,e];exact UA
   ·rw[hl]
    refine vK (b:=λi j=>Ff (ns.getD i 0) (ns.getD j 0)) (Dc Gu _) (by omega) (λi j C hi hj hC=>?_) λp P S=>⟨rfl,?_,?_⟩
    ·obtain⟨t,e⟩:=gi i hi
     obtain⟨t',e'⟩:=gi j hj
     unfold Vd;rw[e,e'];exact kat_lt_int hC
    ·rw[IA,P.size];simp
    ·have:=congrArg (OO D.int) (lJ Gu P S)
     rw[<-this,I0];refine JH λi hi=>?_
     have:i<ns.length:=by
      have:=P.perm.mem_iff.mp (MM.mp hi)
      simpa using this
     simp[JL,Iq this]
  |none=>
   rw[e1] at hs;cases e2:jM ds with
   |none=>rw[e2] at hs;cases hs
   |some ks=>
    rw[e2] at hs;cases hs;obtain⟨h3,h4⟩:=nP e2
    subst h3;have hl:its.length=ks.length:=by simp at l2;omega
    have gi: ∀i,i<ks.length-> ∃(b:Addr) (o:Obj) (ts:List Il) (n:Nat),its.getD i IV=.ref b/\s.heap.get? b=some o/\o.cls=.type "tuple"/\o.data=.seq ts.toArray n/\oq ts (ks.getD i []):=λi hi=>by
     have r1:=jb rv i
     have r2:=kY rp i
     have e3:(ks.map bD).getD i .non=.tup ((ks.getD i []).map D.int):=by simp[JL,Iq hi,bD]
     rw[e3] at r2
     generalize hx:ys.getD i .non=x at r1 r2
     cases r2 with
     |tup q1 q2=>
      obtain⟨ts,r',⟨o,ho,hc,n,hd⟩,_⟩:=I.tuple q1
      exact⟨_,o,ts,n,r1,ho,hc,hd,mj r' q2⟩
    have kt: ∀(l:List Il) (ms:List (List Int)),l.length=ms.length->(∀i,i<ms.length-> ∃(b:Addr) (o:Obj) (ts:List Il) (n:Nat),l.getD i IV=.ref b/\s.heap.get? b=some o/\o.cls=.type "tuple"/\o.data=.seq ts.toArray n/\oq ts (ms.getD i []))->(∀k∈ms,k≠[])->
     ∃fs,KatTups g l fs/\fs.length=l.length/\ ∀v∈fs,∃i t,v=NS i t:=by
     intro l
     induction l with
     |nil=>intro ms _ _ _;exact⟨[],.nil,rfl,λ_ h=>nomatch h⟩
     |cons v l ih=>
      intro ms hl hg hk;cases ms with
      |nil=>cases hl
      |cons m ms=>
       obtain⟨fs,f1,f2,f3⟩:=ih ms (by simpa using hl) (λi hi=>by simpa using hg (i+1) (by simpa using hi)) λk hk'=>hk k (by simp[hk'])
       obtain⟨b,o,ts,n,g1,g2,g3,g4,g5⟩:=hg 0 (by simp)
       simp[JL] at g1 g5;subst g1;cases m with
       |nil=>exact absurd rfl (hk [] (by simp))
       |cons x xs=>
        cases g5 with
        |cons y1 y2=>
         obtain⟨t,rfl⟩:=y1
         refine⟨_,Vi (kg _ _ g2) g3 g4 (by simp;rfl) f1,by simp[f2],λv hv=>?_⟩
         rcases Jn.mp hv with rfl|hv
         ·exact⟨_,_,rfl⟩
         ·exact f3 v hv
    obtain⟨fs,f1,f2,f3⟩:=kt its ks hl gi h4
    refine kat_kind (T:=.type "int") f1 (by omega) (λv hv=>?_) (by rfl) ⟨rfl,?_⟩
    ·obtain⟨i,t,rfl⟩:=f3 v hv;exact UA
    ·rw[hl]
     refine vK (b:=λi j=>aW (ks.getD i []) (ks.getD j [])) (Dc lt_L _) (by omega) (λi j C hi hj hC=>?_) λp P S=>⟨rfl,?_,?_⟩
     ·obtain⟨b1,o1,ts1,n1,x1,x2,x3,x4,x5⟩:=gi i hi
      obtain⟨b2,o2,ts2,n2,y1,y2,y3,y4,y5⟩:=gi j hj
      unfold Vd;rw[x1,y1];refine kat_lt (kg _ _ x2) x4 (kg _ _ y2) y4 ?_
      refine qO 0 x5 y5 ?_ hC
      have z1:=L7 x5
      have z2:=L7 y5
      simp[z1,z2]
     ·rw[IA,P.size];simp
     ·have:=congrArg (OO bD) (lJ lt_L P S)
      dsimp only;rw[<-this,I0];refine JH λi hi=>?_
      have:i<ks.length:=by
       have:=P.perm.mem_iff.mp (MM.mp hi)
       simpa using this
      simp[JL,Iq this]
 ·refine⟨.ref p,_,I.laid (t':=s.toks) kg hp (show ObjOk X.prog X.w _ g _ (.lst (ix.map λi=>ys.getD i .non)) from⟨?_,_,e,iZ rv ix,hg⟩),rfl,q _ ix (I.hok.fresh hp) hG.1 hG.2⟩
  rw[Iu,hG.1,JP];omega
def gL:List D->Option D
 | [.lst ds]=>(jq ds).map D.lst
 | [.tup ds]=>(jq ds).map D.lst
 |_=>none
theorem oG {K:Iz}:fU K .n (λxs H Q=> ∃a ys ds es,xs=[.ref a]/\(SqL K H a ys\/SqT K H a ys)/\Reps K H ys ds/\jq ds=some es/\
 ∀(l:Addr) (ix:List Nat),H l=none->ix.length=ds.length->ix.map (λi=>ds.getD i .non)=es->Q (.ref l) (bp H l (.lst (ix.map λi=>ys.getD i .non)))) gL:=by
 intro H hid vs ds d Q hf h r q;unfold gL at h;split at h
 ·rename_i zs
  cases e:jq zs with
  |none=>rw[e] at h;cases h
  |some es=>
   rw[e] at h;cases h;obtain⟨x,rfl,r1⟩:=Reps1.one r
   obtain⟨a,xs,rfl,h1,h2⟩:=r1.lst
   refine⟨a,xs,zs,es,rfl,.inl h1,h2.mono (dI _ _),e,λl ix hl _ he=>q _ _ (aO hl _) (gd hl (Same.refl _) ?_)⟩
   rw[<-he];exact ja h2 ix
 ·rename_i zs
  cases e:jq zs with
  |none=>rw[e] at h;cases h
  |some es=>
   rw[e] at h;cases h;obtain⟨x,rfl,r1⟩:=Reps1.one r
   obtain⟨a,xs,rfl,_,h1,h2⟩:=r1.tup
   refine⟨a,xs,zs,es,rfl,.inr h1,h2.mono (dI _ _),e,λl ix hl _ he=>q _ _ (aO hl _) (gd hl (Same.refl _) ?_)⟩
   rw[<-he];exact ja h2 ix
 ·cases h
section
variable {X:Cx}{c:Ct}{e a b:Expr}{es rest:List Expr}{f g:GE}{fs:GA}{k:Kd}{pos p:Pos}{x:Str}{id T:String}{r:List V->Hp->VK->Prop}{F:List D->Option D}{ps:List Str}{j n:Nat}
theorem FF {r:R2}{F:D->D->Option D}(hr:IxR X r)(hF:oe X.K k r F)(ha:DE X c .s a f)(hb:DE X c .s b g)(hs:pY b)(hk:k≠ .b:=by decide):DE X c k (.Subscript a b pos) (ij F f g):=λhid ρ=>
 PE.imp (Dh hr (ha hid ρ) (lg λρ1=>hb hid ρ1) hs) λσ H Q h=>D2 hF hk h
theorem Reps.b1 {K:Iz}{H W:Hp}: ∀ {vs:List V} {ds:List D},Reps K W vs ds->Reps1 K H W vs ds
 |_,_,.nil=>.nil
 |_,_,.cons r t=>.cons (.inl r) (Reps.b1 t)
def gn(F:List D->Option D)(fs:GA):GE:=λρ=>(fs ρ).bind λq=>(F q.1).map λd=>(d,q.2)
theorem mW {F:List D->Option D}{ρ ρ':az}{d:D}(h:gn F fs ρ=some (d,ρ')): ∃ds,fs ρ=some (ds,ρ')/\F ds=some d:=by
 unfold gn at h;cases e:fs ρ with
 |none=>rw[e] at h;cases h
 |some q=>
  rw[e] at h;dsimp only[L5] at h;cases e2:F q.1 with
  |none=>rw[e2] at h;cases h
  |some z=>rw[e2] at h;cases h;exact⟨q.1,rfl,e2⟩
theorem Hu {hid:bq}{ρ:az}(hF:fU X.K k r F)(hk:k≠ .b){σ:St}{H:Hp}{Q:VK}(h:Gc X.K c hid k (gn F fs) ρ σ H Q):FW r (HU X.K c hid fs ρ) σ H Q:=by
 obtain⟨sr,d,ρ',hd,q⟩:=h
 obtain⟨ds,e1,e2⟩:=mW hd
 exact⟨sr,ds,ρ',e1,λvs H1 k1 s1 r1=>hF H1 hid vs ds d Q (λa n=>s1.fresh n) e2 r1.b1 λw H' s2 r2=>q w H' (PostE.left k1 (s1.post s2 r2 hk))⟩
theorem xw(hc:cK X (.type T) r)(hF:fU X.K k r F)(hm:X.mg x=none)(ha:DG X c (e::es) fs)(hk:k≠ .b:=by decide)(hg:Gl X x:=by rfl)(hv:J9 x=some (.type T):=by kernel_rfl)(hn:x≠"__name__":=by decide)(hdb:(x==("__debug__":Str))=false:=by decide)
 (he:ID (e::es) X.env=(false,eval e X.env)::ID es X.env:=by rfl) (hpl:(KQ pos (ID es X.env)).any (·.1)=false:=by rfl):DE X c k (.Call (.Name x p) (e::es) [] pos) (gn F fs):=λhid ρ=>
 PE.imp (dU hc hg hm hv (ha hid ρ) hn hdb he hpl) λσ H Q h=>Hu hF hk h
theorem EZ {P:List D->Option D}(C:Cl X.prog X.w X.K X.mg X.base j x ps (eS X.K k n P))(hr:Room j X.A)
 (ha:DG X c (e::es) fs) (hkb:k≠ .b:=by decide) (hg:Gl X x:=by rfl) (hdb:(x==("__debug__":Str))=false:=by decide) (he:ID (e::es) X.env=(false,eval e X.env)::ID es X.env:=by rfl) (hpl:(KQ pos (ID es X.env)).any (·.1)=false:=by rfl):
 DE X c k (.Call (.Name x p) (e::es) [] pos) (gn (nF n P) fs):=by
 obtain⟨f,fd,F,hm,hk,hb⟩:=C.ex
 exact λhid ρ=>PE.imp (qv F hr hg hm hk hb .nil (yw (X:=X)) (ha hid ρ) hdb he hpl) λσ H Q hq_=>by
  obtain⟨sr,d,ρ',hd,q⟩:=hq_
  obtain⟨ds,e1,e2⟩:=mW hd
  unfold nF at e2;split at e2
  ·refine⟨sr,ds,ρ',e1,λvs H1 k1 s1 r1=>?_⟩
   show eS X.K k n P (vs++[]) H1 Q E0;rw[KD];exact⟨hid,ds,s1.trk,r1, ‹_›,d,e2,λv H' s2 r2=>q v H' (PostE.left k1 (s1.post s2 r2 hkb))⟩
  ·cases e2
abbrev GT:=az->Option (Bool×az)
def G4(K:Iz)(c:Ct)(hid:bq)(f:GT)(ρ:az):TT:=λσ H Q=>SR K c hid ρ σ H/\ ∃d ρ',f ρ=some (d,ρ')/\ ∀H',Kept hid H H'->SR K c hid ρ' σ H'->Q d H'
def Ee(X:Cx)(c:Ct)(e:Expr)(f:GT):Prop:= ∀hid ρ,PT X e (G4 X.K c hid f ρ)
def yI(f:GE):GT:=λρ=>(f ρ).bind λq=>(Bd q.1).map λd=>(d,q.2)
theorem A7(ha:DE X c .s a f)(he: ∀whole,isTrue a X.env whole=(do let v <-whole;Ov a.pos;MV [v] (XQ v)):=by intro _;rfl):Ee X c a (yI f):=λhid ρ=>
 PT.imp (s0 (ha hid ρ) he) λσ H Q hq_=>by
  obtain⟨sr,d,ρ',hd,q⟩:=hq_
  unfold yI at hd;cases e:f ρ with
  |none=>rw[e] at hd;cases hd
  |some z=>
   rw[e] at hd;dsimp only[L5] at hd;cases e2:Bd z.1 with
   |none=>rw[e2] at hd;cases hd
   |some y=>
    rw[e2] at hd;cases hd;exact⟨sr,z.1,z.2,e,λv H' ⟨k1,s1,r1⟩=>⟨d,zk e2 (.inl r1),q H' k1 s1⟩⟩
def zb(f:GT):GT:=λρ=>(f ρ).map λq=>(!q.1,q.2)
theorem BS {f:GT}(ha:Ee X c a f):Ee X c (.UnaryOp .Not a pos) (zb f):=λhid ρ=>
 PT.imp (zF (ha hid ρ)) λσ H Q hq_=>by
  obtain⟨sr,d,ρ',hd,hq⟩:=hq_
  unfold zb at hd;cases e:f ρ with
  |none=>rw[e] at hd;cases hd
  |some z=>rw[e] at hd;cases hd;exact⟨sr,z.1,z.2,e,λH1 k1 s1=>hq H1 k1 s1⟩
def xJ(f:GE):GT:=λρ=>(f ρ).bind λq=>(tQ (some q.1)).map λd=>(d,q.2)
theorem Cg {op:S6}{r:R2}{F:D->D->Option D}(ho:km X (LD op) r)(hF:oe X.K .s r F)(ha:DE X c .s a f)(hb:DE X c .s b g)(hm:LC op b=false):Ee X c (.Compare a [op] [b] pos) (xJ (ij F f g)):=λhid ρ=>
 PT.imp (wg ho (ha hid ρ) (lg λρ1=>hb hid ρ1) hm) λσ H Q hq_=>by
  obtain⟨sr,d,ρ',hd,q⟩:=hq_
  refine D2 (X:=X) (k:=.s) (F:=F) hF (by decide) ?_
  unfold xJ at hd;cases e:ij F f g ρ with
  |none=>rw[e] at hd;cases hd
  |some z=>
   obtain⟨y,ρ1⟩:=z
   rw[e] at hd;dsimp only[L5] at hd;cases y with
   |bl w=>
    cases hd
    refine⟨sr,_,_,e,λv H' ⟨k1,s1,r1⟩=>⟨d,?_,q H' k1 s1⟩⟩
    cases r1;rfl
   |_=>cases hd
end
section
variable {X:Cx}{c:Ct}{k:Kd}{t u:FS}{e:Expr}{pos:Pos}
def BV(p:GT)(t u:FS):FS:=λρ=>match p ρ with
 |some (true,ρ')=>t ρ'
 |some (false,ρ')=>u ρ'
 |none=>.no
theorem yr {p:GT}{a b:List Stmt}(hp:Ee X c e p)(ha:tO X c k a t)(hb:tO X c k b u):DS X c k (.If e a b pos) (BV p t u):=λρ=>
 PS.imp (Dg (Fc λhid=>hp hid ρ) (rT λρ1=>ha ρ1) (rT λρ1=>hb ρ1)) λD σ H hq_=>by
  obtain⟨hid,sr,q⟩:=hq_
  cases e1:p ρ with
  |none=>unfold BV at q;rw[e1] at q;exact q.elim
  |some z=>
   obtain⟨x,ρ1⟩:=z
   refine⟨hid,sr,x,ρ1,e1,λH1 k1 s1=>?_⟩
   unfold BV at q;rw[e1] at q;cases x with
   |true=>exact t9 ⟨ρ1,hid,s1,EndOk.mono q k1.vw⟩
   |false=>exact uL ⟨ρ1,hid,s1,EndOk.mono q k1.vw⟩
end
section
variable {prog:Jf}{w:Jr}{A:Jm}{R:PH->Io->Prop}{s:Io}{elt t1 t2 i1 i2:Expr}{ifs1 ifs2:List Expr}{scope:LB}{pos:Pos}{it acc:Il}{env:Env}
theorem CU:RB (.ListComp elt [⟨t1,i1,ifs1,0⟩,⟨t2,i2,ifs2,0⟩] scope pos) 1 it acc env=(do
 Ov i2.pos
 match <-No it with
 |none=>pure (.done .next)
 |some v=>
  LW t2 it v
  M0 t2 env v
  let ok <-jY ifs2 env
  if ok=true then do(do let _ <-call (.builtin "list.append") [acc,<-eval elt env]);Pp (.compLoop (.ListComp elt [⟨t1,i1,ifs1,0⟩,⟨t2,i2,ifs2,0⟩] scope pos) 1 it acc env)
  else Pp (.compLoop (.ListComp elt [⟨t1,i1,ifs1,0⟩,⟨t2,i2,ifs2,0⟩] scope pos) 1 it acc env)):=by rfl
theorem zr:RB (.ListComp elt [⟨t1,i1,ifs1,0⟩,⟨t2,i2,ifs2,0⟩] scope pos) 0 it acc env=(do
 Ov i1.pos
 match <-No it with
 |none=>pure (.done .next)
 |some v=>
  LW t1 it v
  M0 t1 env v
  let ok <-jY ifs1 env
  if ok=true then do
   let x <-eval i2 env
   Ov i2.pos
   let x <-Kp i2 env x
   let _ <-runOwn (.compStart (.ListComp elt [⟨t1,i1,ifs1,0⟩,⟨t2,i2,ifs2,0⟩] scope pos) 1 (<-MV [x] (O7 x)) acc env) env
   Pp (.compLoop (.ListComp elt [⟨t1,i1,ifs1,0⟩,⟨t2,i2,ifs2,0⟩] scope pos) 0 it acc env)
  else Pp (.compLoop (.ListComp elt [⟨t1,i1,ifs1,0⟩,⟨t2,i2,ifs2,0⟩] scope pos) 0 it acc env)):=by rfl
abbrev zS:=(Io->Prop)->Io->Prop
def vH(prog:Jf)(w:Jr)(A:Jm)(elt:Expr)(acc:Il)(env:Env):zS:=λQ s=>
 IF (model prog w) A (eval elt env) (λx s₄=>IF (model prog w) A (call (.builtin "list.append") [acc,x]) (λ_ s₅=>Q s₅) (λ_ _=>False) s₄) (λ_ _=>False) s
def qD(prog:Jf)(w:Jr)(A:Jm)(e iter:Expr)(acc:Il)(env:Env):zS:=λQ s=>
 IF (model prog w) A (eval iter env) (λx s₄=>IF (model prog w) A (O7 x) (λit s₅=>LQ (model prog w) A (.compStart e 1 it acc env) (λr s'=>match r with
  | .ok _=>Q s'
  | .error _=>False) s₅) (λ_ _=>False) s₄) (λ_ _=>False) s
def yU(prog:Jf)(w:Jr)(A:Jm)(code:Code)(tg:Expr)(ifs:List Expr)(it:Il)(env:Env)(TA:zS)(R:PH->Io->Prop):Prop:= ∀(I:Nat->Io->Prop),
 (∀n s,I n s->IF (model prog w) A (No it) (λr s₁=>match r with
   |none=>R (.ok .next) s₁
   |some v=>IF (model prog w) A (LW tg it v) (λ_ s₁=>IF (model prog w) A (M0 tg env v) (λ_ s₂=>
     IF (model prog w) A (jY ifs env) (λok s₃=>
      if ok=true then TA (λs₅=> ∃m,m<n/\I m s₅) s₃
      else∃m,m<n/\I m s₃) (λ_ _=>False) s₂) (λ_ _=>False) s₁) (λ_ _=>False) s₁) (λ_ _=>False) s)->
 ∀(n:Nat) (s:Io),I n s->LQ (model prog w) A code R s
theorem Au:yU prog w A (.compLoop (.ListComp elt [⟨t1,i1,ifs1,0⟩,⟨t2,i2,ifs2,0⟩] scope pos) 1 it acc env) t2 ifs2 it env (vH prog w A elt acc env) R:=by
 intro I turn n s h;have no: ∀ {E':Il->Io->Prop} (x:Il) (s:Io),False->E' x s:=λ_ _ z=>z.elim
 refine RA rfl I (λn s hI=>?_) n h
 show IF _ A ((RB (.ListComp elt [⟨t1,i1,ifs1,0⟩,⟨t2,i2,ifs2,0⟩] scope pos) 1 it acc env).onRaise (λx=>do R0 x env;P2 x)) _ _ s
 refine So ?_
 rw[CU];refine Ik (L8 (Ik (Jo (turn n s hI) (λr s₁ h₁=>?_) no)))
 cases r with
 |none=>exact Im h₁
 |some v=>
  refine Ik (Jo h₁ (λ_ s₁ h₁=>Ik (Jo h₁ (λ_ s₂ h₂=>Ik (Jo h₂ (λok s₃ h₃=>?_) no)) no)) no)
  cases ok with
  |false=>exact Im ⟨rfl,h₃⟩
  |true=>exact Ik (Ik (Jo h₃ (λx s₄ h₄=>Ik (Jo h₄ (λ_ s₅ h₅=>Im (Im ⟨rfl,h₅⟩)) no)) no))
theorem wW(hset: ∀x,Kp i2 env x=pure x):yU prog w A (.compLoop (.ListComp elt [⟨t1,i1,ifs1,0⟩,⟨t2,i2,ifs2,0⟩] scope pos) 0 it acc env) t1 ifs1 it env (qD prog w A (.ListComp elt [⟨t1,i1,ifs1,0⟩,⟨t2,i2,ifs2,0⟩] scope pos) i2 acc env) R:=by
 intro I turn n s h;have no: ∀ {E':Il->Io->Prop} (x:Il) (s:Io),False->E' x s:=λ_ _ z=>z.elim
 refine RA rfl I (λn s hI=>?_) n h
 show IF _ A ((RB (.ListComp elt [⟨t1,i1,ifs1,0⟩,⟨t2,i2,ifs2,0⟩] scope pos) 0 it acc env).onRaise (λx=>do R0 x env;P2 x)) _ _ s
 refine So ?_
 rw[zr];refine Ik (L8 (Ik (Jo (turn n s hI) (λr s₁ h₁=>?_) no)))
 cases r with
 |none=>exact Im h₁
 |some v=>
  refine Ik (Jo h₁ (λ_ s₁ h₁=>Ik (Jo h₁ (λ_ s₂ h₂=>Ik (Jo h₂ (λok s₃ h₃=>?_) no)) no)) no)
  cases ok with
  |false=>exact Im ⟨rfl,h₃⟩
  |true=>
   refine Ik (Jo h₃ (λx s₄ h₄=>Ik (L8 (Ik (Qu (hset x) (Ik (JM (Jo h₄ (λit2 s₅ h₅=>?_) no))))))) no)
   refine Ik (wpAny_runOwn (Lj h₅ λr s' hr=>?_))
   cases r with
   |ok f=>exact Im ⟨rfl,hr⟩
   |error e=>exact hr.elim
end
def mx(g:FG)(p:FT)(A:FA)(ρ0:az):List D->Option (List D)
 | []=>some []
 |d::r=>(g d ρ0).bind λρ1=>(p ρ1).bind λb=>if b=true then(A ρ1).bind λys=>(mx g p A ρ0 r).map (ys++ ·) else mx g p A ρ0 r
def Hd(n:Nat)(ρ:az):Prop:= ∀(i:Nat) (s:Sl),n<=i->ρ[i]? =some s->s=.no
def yY(Y:Cx)(c:Ct)(hid:bq)(D0:Addr)(L W:Hp)(A:FA)(TA:zS)(ρ1:az):Prop:= ∀(aa:List (Addr×Obj)) (s:Io) (σ:St) (H:Hp) (xs:List V) (ad zs:List D) (Q:Io->Prop),Inv Y aa σ H s->SR Y.K c hid ρ1 σ H->
 H D0=some (.lst xs)->Reps Y.K (vw H hid) xs ad->xs.length+zs.length<=IM->Same L H->Same W (vw H hid)->(∀i:Nat,Ow ρ1[i]? ->σ[i]? ≠some (some (.ref D0)))->A ρ1=some zs->
 (∀(s':Io) (σ':St) (H':Hp) (xs':List V),Inv Y aa σ' H' s'->SR Y.K c hid ρ1 σ' H'->H' D0=some (.lst xs')->Reps Y.K (vw H' hid) xs' (ad++zs)->Same L H'->Same (vw H hid) (vw H' hid)->(∀i:Nat,Ow ρ1[i]? ->σ'[i]? ≠some (some (.ref D0)))->Q s')->TA Q s
section
variable {Y:Cx}{c:Ct}{tg:Expr}{ifs:List Expr}{g:FG}{p:FT}{A:FA}{TA:zS}{code:Code}
structure CLG(Y:Cx)(aa:List (Addr×Obj))(c:Ct)(hid:bq)(ρ0:az)(L W H3:Hp)(D0:Addr)(fp:List Addr)(tn:Nat->Heap->Prop)(g:FG)(p:FT)(A:FA)(ds ys ad0:List D)(n i:Nat)(xs:List V)(ad:List D)(σ':St)(H':Hp)(s':Io):Prop where
 e:n=ds.length-i
 hi:i<=ds.length
 I:Inv Y aa σ' H' s'
 st:tn i s'.heap
 fr: ∀b∈fp,H' b=none
 sr:SR Y.K c hid ρ0 σ' H'
 sm:Same L H'
 ac:H' D0=some (.lst xs)
 rp:Reps Y.K (vw H' hid) xs ad
 w:Same W (vw H' hid)
 v:Same (vw H3 hid) (vw H' hid)
 na: ∀i:Nat,Ow ρ0[i]? ->σ'[i]? ≠some (some (.ref D0))
 go: ∃rest,mx g p A ρ0 (ds.drop i)=some rest/\ad++rest=ad0++ys
theorem rL(hcalm:Y.calm=true)(hxe:Y.xe=λ_ _=>False){n0:Nat}(hT:jF n0 g)(hg:rB Y c tg g)(hp:v8 Y c ifs p)
 {aa:List (Addr×Obj)} {σ3:St} {H3 L W:Hp} {s4:Io} {hid:bq} {ρ0:az} {J:It} {it D0:Addr} {fp:List Addr} {tn:Nat->Heap->Prop} {ds ys ad0:List D} {xs0:List V} {R:PH->Io->Prop}
 (hA: ∀d ρ1,g d ρ0=some ρ1->yY Y c hid D0 L W A TA ρ1)
 (hN:Hd n0 ρ0) (I:Inv Y aa σ3 H3 s4) (sr:SR Y.K c hid ρ0 σ3 H3) (hh:hid D0=true) (na: ∀i:Nat,Ow ρ0[i]? ->σ3[i]? ≠some (some (.ref D0))) (hacc:H3 D0=some (.lst xs0)) (rp0:Reps Y.K (vw H3 hid) xs0 ad0) (sm:Same L H3) (wv:Same W (vw H3 hid)) (T:Turn Y.prog Y.w Y.K tg J fp it tn) (st:tn 0 s4.heap) (hF: ∀b∈fp,jg Y aa H3 b)
 (io:B8 Y.K L W J ds) (hz:ad0.length+ys.length<=IM) (hc:mx g p A ρ0 ds=some ys)
 (hTP:yU Y.prog Y.w Y.A code tg ifs (.ref it) Y.env TA R)
 (hR: ∀(s':Io) (σ':St) (H':Hp) (xs:List V),Inv Y aa σ' H' s'->SR Y.K c hid ρ0 σ' H'->Same L H'->H' D0=some (.lst xs)->Reps Y.K (vw H' hid) xs (ad0++ys)->Same (vw H3 hid) (vw H' hid)->(∀i:Nat,Ow ρ0[i]? ->σ'[i]? ≠some (some (.ref D0)))->R (.ok .next) s'):
 LQ (model Y.prog Y.w) Y.A code R s4:=by
 have stat: ∀ {H':Hp},(∀b∈fp,H' b=none)-> ∀b∈fp,jg Y aa H' b:=λ{H'} hn b hb=>⟨hn b hb,(hF b hb).2⟩
 refine hTP (λn s'=> ∃(i:Nat) (xs:List V) (ad:List D) (σ':St) (H':Hp),CLG Y aa c hid ρ0 L W H3 D0 fp tn g p A ds ys ad0 n i xs ad σ' H' s') ?_ ds.length s4
  ⟨0,xs0,ad0,σ3,H3,by simp,JV _,I,st,λb hb=>(hF b hb).1,sr,sm,hacc,rp0,wv,Same.refl _,na,ys,by simpa using hc,rfl⟩
 rintro n s5 ⟨i,xs,ad,σ5,H5,rfl,hi,I5,st5,f5,sr5,sm5,ac5,rp5,w5,v5,na5,rest,hc5,hy5⟩
 have wH:Same W H5:=w5.trans (dI _ _)
 by_cases hlt:i<ds.length
 ·have hd:ds[i]? =some ds[i]:=Iq hlt
  have e2:ds.drop i=ds[i]::ds.drop (i+1):=Le hlt
  rw[e2] at hc5;unfold mx at hc5;obtain⟨go,yl⟩:=io.1 i ds[i] H5 hd sm5 wH
  refine bR (T.item Y rfl rfl rfl hcalm i aa s5 σ5 H5 (λ_ _=>False) I5 (stat f5) st5 go) λr s6 hq_=>?_
  obtain⟨u,hr,h6⟩:=hq_
  subst hr;refine bR h6 λ_ s7 hq_=>?_
  obtain⟨x,H7,I7,r7,y7,st7,f7⟩:=hq_
  obtain⟨s7',rp⟩:=yl x H7 y7
  have rx:=rp hid sr5.tr w5
  have I7':=I7.pinned (stat f7) (T.obj _ _ st7)
  cases e3:g ds[i] ρ0 with
  |none=>rw[e3] at hc5;cases hc5
  |some ρ1=>
   rw[e3] at hc5;have hc5:(p ρ1).bind (λb=>if b=true then(A ρ1).bind λys=>(mx g p A ρ0 (ds.drop (i+1))).map (ys++ ·) else mx g p A ρ0 (ds.drop (i+1)))=some rest:=hc5
   obtain⟨tl1,tl2⟩:=hT _ _ _ e3
   have fg: ∀ {σ':St} {H':Hp},SR Y.K c hid ρ1 σ' H'->SR Y.K c hid ρ0 σ' H':=λ{σ' H'} z=>z.forget tl1 λj s e=>by
    by_cases hj:j<n0
    ·exact .inr ((tl2 j hj).trans e)
    ·exact .inl (hN j s (by omega) e)
   have ow01: ∀j:Nat,Ow ρ0[j]? ->Ow ρ1[j]? :=λj o=>by
    by_cases hj:j<n0
    ·rw[tl2 j hj];exact o
    ·exfalso
     cases e:ρ0[j]? with
     |none=>rw[e] at o;exact o
     |some s=>have:=hN j s (by omega) e;subst this;rw[e] at o;exact o
   have keepT: ∀ {σ':St} {H':Hp} {s':Io},Inv Y (aa++kS fp s7.heap) σ' H' s'->tn (i+1) s'.heap/\ ∀b∈fp,H' b=none:=λ{σ' H' s'} J'=>by
    refine⟨T.keep _ _ _ st7 λb hb o e=>(J'.pin (b,o) (IK _ (IK _ (dQ hb e)))).1,λb hb=>?_⟩
    obtain⟨o,e,_⟩:=T.obj _ _ st7 b hb
    exact(J'.pin (b,o) (IK _ (IK _ (dQ hb e)))).2.1
   refine bR (hxe▸hg hid ρ0 ds[i] _ s7 σ5 H7 x u (λσ' H'=>H'=H7/\SR Y.K c hid ρ1 σ' H7/\OwK ρ0 ρ1 σ5 σ') I7' r7 ⟨sr5.ext s7',rx,ρ1,e3,λσ' z o=>⟨rfl,z,o⟩⟩) λ_ s8 hq_=>?_
   obtain⟨σ8,H8,I8,e8,q8,o8⟩:=hq_
   subst e8;have na1: ∀j:Nat,Ow ρ1[j]? ->σ8[j]? ≠some (some (.ref D0)):=λj o=>by
    rw[(o8 j o).2];exact na5 j (o8 j o).1
   cases e4:p ρ1 with
   |none=>rw[e4] at hc5;cases hc5
   |some b=>
    rw[e4] at hc5;have hc5:(if b=true then(A ρ1).bind λys=>(mx g p A ρ0 (ds.drop (i+1))).map (ys++ ·) else mx g p A ρ0 (ds.drop (i+1)))=some rest:=hc5
    refine bR (hxe▸hp hid ρ1 _ s8 σ8 H8 (λb' H'=>b'=b/\Same H8 H') I8 ⟨q8,b,e4,λH' s'=>⟨rfl,s'⟩⟩) λok s9 hq_=>?_
    obtain⟨H9,I9,e9,sm9⟩:=hq_
    subst e9;have w9:Same (vw H5 hid) (vw H9 hid):=aH (s7'.trans sm9)
    cases ok with
    |false=>
     have hc5:mx g p A ρ0 (ds.drop (i+1))=some rest:=hc5
     obtain⟨k1,k2⟩:=keepT I9
     exact⟨ds.length- (i+1),by omega,i+1,xs,ad,σ8,H9,rfl,hlt,I9.unpinned,k1,k2,fg (q8.ext sm9),sm5.trans (s7'.trans sm9),sm9 _ _ (s7' _ _ ac5),rp5.mono w9,w5.trans w9,v5.trans w9,λj o=>na1 j (ow01 j o),rest,hc5,hy5⟩
    |true=>
     have hc5:((A ρ1).bind λys=>(mx g p A ρ0 (ds.drop (i+1))).map (ys++ ·))=some rest:=hc5
     cases e5:A ρ1 with
     |none=>rw[e5] at hc5;cases hc5
     |some zs=>
      rw[e5] at hc5;have hc5:(mx g p A ρ0 (ds.drop (i+1))).map (zs++ ·)=some rest:=hc5
      cases e6:mx g p A ρ0 (ds.drop (i+1)) with
      |none=>rw[e6] at hc5;cases hc5
      |some rest'=>
       rw[e6] at hc5;cases hc5
       have l1:=rp5.length
       have l2:=congrArg KU hy5
       simp only[IR] at l2;refine hA ds[i] ρ1 e3 _ s9 σ8 H9 xs ad zs _ I9 (q8.ext sm9) (sm9 _ _ (s7' _ _ ac5)) (rp5.mono w9) (by omega) (sm5.trans (s7'.trans sm9)) (w5.trans w9) na1 e5 λs10 σ10 H10 xs' I10 q10 a10 rp10 smL v10 na10=>?_
       obtain⟨k1,k2⟩:=keepT I10
       exact⟨ds.length- (i+1),by omega,i+1,xs',ad++zs,σ10,H10,rfl,hlt,I10.unpinned,k1,k2,fg q10,smL,a10,rp10,(w5.trans w9).trans v10,(v5.trans w9).trans v10,λj o=>na10 j (ow01 j o),rest',e6,by rw[<-hy5];simp⟩
 ·have e:i=ds.length:=by omega
  subst e;rw[Lz (Iv _)] at hc5;cases hc5
  rw[KD] at hy5;subst hy5;refine bR (T.done Y rfl rfl rfl hcalm ds.length aa s5 σ5 H5 (λ_ _=>False) I5 (stat f5) st5 (io.2 H5 sm5 wH)) λr s6 hq_=>?_
  obtain⟨hr,I6⟩:=hq_
  subst hr;exact hR s6 σ5 H5 xs I6 sr5 sm5 ac5 rp5 v5 na5
end
def sj(f:FE):FA:=λρ=>(f ρ).map λd=>[d]
def zn(gi:FA)(g:FG)(p:FT)(f:FE):FA:=λρ1=>(gi ρ1).bind λds=>mx g p (sj f) ρ1 ds
def ly(m:Nat)(gi1:FA)(g1:FG)(p1:FT)(gi2:FA)(g2:FG)(p2:FT)(f:FE):FE:=λρ=>(gi1 ρ).bind λds=>(mx g1 p1 (zn gi2 g2 p2 f) (ρ++IC m .no) ds).bind λys=>if ys.length<=IM then some (.lst ys) else none
theorem xG {m:Nat}{gi1 gi2:FA}{g1 g2:FG}{p1 p2:FT}{f:FE}{ρ:az}{d:D}(h:ly m gi1 g1 p1 gi2 g2 p2 f ρ=some d): ∃ds ys,gi1 ρ=some ds/\mx g1 p1 (zn gi2 g2 p2 f) (ρ++IC m .no) ds=some ys/\ys.length<=IM/\d=.lst ys:=by
 unfold ly at h;cases e1:gi1 ρ with
 |none=>rw[e1] at h;cases h
 |some ds=>
  rw[e1] at h;dsimp only[L5] at h;cases e2:mx g1 p1 (zn gi2 g2 p2 f) (ρ++IC m .no) ds with
  |none=>rw[e2] at h;cases h
  |some ys=>
   rw[e2] at h;dsimp only at h;split at h
   ·cases h;exact⟨ds,ys,rfl,e2, ‹_›,rfl⟩
   ·cases h
def DH(n:Nat)(g:FG):Prop:= ∀d (ρ0 ρ1:az),g d ρ0=some ρ1-> ∀i:Nat,n<=i->ρ1[i]? =ρ0[i]?
theorem D3 {n i:Nat}(h:i<n):DH n (gN i):=λd ρ0 ρ1 e=>by
 cases e
 exact λj hj=>IG (by omega)
section
variable {prog:Jf}{w:Jr}{A:Jm}{R:PH->Io->Prop}{s:Io}{elt t1 t2 i1 i2:Expr}{ifs1 ifs2:List Expr}{scope:LB}{pos:Pos}{it acc:Il}{env:Env}
theorem yo
 (h0:LQ (model prog w) A (.compLoop (.ListComp elt [⟨t1,i1,ifs1,0⟩,⟨t2,i2,ifs2,0⟩] scope pos) 1 it acc env) R s)
 (h:IF (model prog w) A (O7 it) (λit' s'=>LQ (model prog w) A (.compLoop (.ListComp elt [⟨t1,i1,ifs1,0⟩,⟨t2,i2,ifs2,0⟩] scope pos) 1 it' acc env) R s')
   (notedBy (model prog w) A env λx s'=>R (.error x) s') s):
 LQ (model prog w) A (.compStart (.ListComp elt [⟨t1,i1,ifs1,0⟩,⟨t2,i2,ifs2,0⟩] scope pos) 1 it acc env) R s:=by
 refine Ol (show IF _ _ ((compStart (.ListComp elt [⟨t1,i1,ifs1,0⟩,⟨t2,i2,ifs2,0⟩] scope pos) 1 it acc env).onRaise (λx=>do R0 x env;Ov theWindowsPlace)) _ _ s from wpAny_notedAt ?_)
 unfold compStart;show IF _ _ (ask>>=_) _ _ s;refine Ik (NV (wpAny_ite ?_))
 split
 ·first
   |exact Ik (Im (Im (Sa rfl h0)))
   |exact Im (Sa rfl h0)
 ·first
   |exact Ik (Nq (Ik (L8 (Ik (Jo h (λit' s' h'=>Im (Sa rfl h')) λ_ _ x=>x)))))
   |(refine Ik (Nq ?_);show IF _ _ (Ov i2.pos>>=_) _ _ s;exact Ik (L8 (Ik (Jo h (λit' s' h'=>Im (Sa rfl h')) λ_ _ x=>x))))
end
section
variable {Y:Cx}{c:Ct}{elt t1 t2 i1 i2:Expr}{ifs1 ifs2:List Expr}{scope:LB}{pos:Pos}{f:FE}{g2:FG}{p2:FT}{gi2:FA}{hid:bq}{D0:Addr}{L W:Hp}{ρ1:az}
theorem AK(hxe:Y.xe=λ_ _=>False)(he:DP Y c .s elt f)(hh:hid D0=true)(h00:c.H₀ D0=none)(nD:L D0=none):yY Y c hid D0 L W (sj f) (vH Y.prog Y.w Y.A elt (.ref D0) Y.env) ρ1:=by
 intro aa s σ H xs ad zs Q I sr ac rp hz smL wv na hA hQ;unfold sj at hA;cases e5:f ρ1 with
 |none=>rw[e5] at hA;cases hA
 |some y=>
  rw[e5] at hA;cases hA;unfold vH;refine bR (hxe▸he hid ρ1 _ s σ H (λv H'=>Same H H'/\Rep Y.K (vw H' hid) v y) I ⟨sr,y,e5,λv H' s' r=>⟨s',r⟩⟩) λv s10 hq_=>?_
  obtain⟨z,H10,I10,rz,sm10,rp10⟩:=hq_
  have a10:H10 D0=some (.lst xs):=sm10 _ _ ac
  refine bR (hxe▸gp (X:=Y) _ s10 σ H10 (.ref D0) [z] (.ref D0) [v] (λ_ H'=>H'=bp H10 D0 (.lst (xs++[z]))) I10 rfl (.cons rz .nil) ⟨D0,xs,z,rfl,rfl,a10,by simp at hz;omega,rfl⟩) λ_ s11 ⟨_,H11,I11,_,e11⟩=>?_
  subst e11;have vv:vw (bp H10 D0 (.lst (xs++[z]))) hid=vw H10 hid:=dc hh
  have w10:Same (vw H hid) (vw H10 hid):=aH sm10
  refine hQ s11 σ _ (xs++[z]) I11 ((sr.ext sm10).write hh h00 na) aC ?_ (λb o e=>?_) ?_ na
  ·rw[vv];exact(rp.mono w10).append (.cons rp10 .nil)
  ·rw[aA (aX e nD)];exact sm10 _ _ (smL _ _ e)
  ·rw[vv];exact w10
theorem xa(hcalm:Y.calm=true)(hxe:Y.xe=λ_ _=>False){n1:Nat}(hT:jF n1 g2)(hN:Hd n1 ρ1)(hi:DIp Y c t2 i2 gi2)(hg:rB Y c t2 g2)(hp:v8 Y c ifs2 p2)(he:DP Y c .s elt f)(hh:hid D0=true)(h00:c.H₀ D0=none)(nD:L D0=none):
 yY Y c hid D0 L W (zn gi2 g2 p2 f) (qD Y.prog Y.w Y.A (.ListComp elt [⟨t1,i1,ifs1,0⟩,⟨t2,i2,ifs2,0⟩] scope pos) i2 (.ref D0) Y.env) ρ1:=by
 intro aa s σ H xs ad zs Q I sr ac rp hz smL wv na hA hQ;unfold zn at hA;cases e5:gi2 ρ1 with
 |none=>rw[e5] at hA;cases hA
 |some ds=>
  rw[e5] at hA;have hA:mx g2 p2 (sj f) ρ1 ds=some zs:=hA
  unfold qD;refine bR (hxe▸hi hid ρ1 aa s σ H (λJ H'=>Same H H'/\ItOk Y.K (vw H' hid) J ds) I ⟨sr,ds,e5,λJ H' s1 io=>⟨s1,io⟩⟩) λv s1 h1=>bR h1 λitv s2 h2=>?_
  obtain⟨it,fp,tn,J,H2,rfl,I2,T,st2,f2,sm,io⟩:=h2
  have l1:=rp.length
  have loop:LQ (model Y.prog Y.w) Y.A (.compLoop (.ListComp elt [⟨t1,i1,ifs1,0⟩,⟨t2,i2,ifs2,0⟩] scope pos) 1 (.ref it) (.ref D0) Y.env) (λr s'=>match r with
   | .ok _=>Q s'
   | .error _=>False) s2:=by
   refine rL (L:=L) (W:=vw H2 hid) (ad0:=ad) (xs0:=xs) (A:=sj f) (TA:=vH Y.prog Y.w Y.A elt (.ref D0) Y.env) hcalm hxe hT hg hp (λd ρ2 _=>AK hxe he hh h00 nD) hN I2 (sr.ext sm) hh na (sm _ _ ac) (rp.mono (aH sm)) (smL.trans sm) (Same.refl _) T st2 f2 io.b (by omega) hA Au ?_
   intro s' σ' H' xs' I' sr' smL' ac' rp' v' na';exact hQ s' σ' H' xs' I' sr' ac' rp' smL' ((aH sm).trans v') na'
  exact yo loop (T.self Y.A 0 _ _ _ st2 loop)
end
section
variable {X:Cx}{c:Ct}{elt t1 t2 i1 i2:Expr}{ifs1 ifs2:List Expr}{scope:LB}{pos:Pos}{N':List Str}{m n1:Nat}{gi1 gi2:FA}{g1 g2:FG}{p1 p2:FT}{f:FE}
theorem sF(hcalm:X.calm=true)(hk:scope.kind=.function)(hs:xT scope X.env.scope=true)(hn:xU X.N N' scope=true)(hm:N'.length-X.N.length=m)(hT1:jF X.N.length g1)(hU1:DH n1 g1)(hn1:X.N.length<=n1)(hT2:jF n1 g2)
 (hset: ∀C s₀ H₀ ex,∀x,Kp i2 (aJ X N' scope C s₀ H₀ ex).env x=pure x)
 (hg1: ∀C s₀ H₀ ex,rB (aJ X N' scope C s₀ H₀ ex) c t1 g1) (hp1: ∀C s₀ H₀ ex,v8 (aJ X N' scope C s₀ H₀ ex) c ifs1 p1) (hi2: ∀C s₀ H₀ ex,DIp (aJ X N' scope C s₀ H₀ ex) c t2 i2 gi2)
 (hg2: ∀C s₀ H₀ ex,rB (aJ X N' scope C s₀ H₀ ex) c t2 g2) (hp2: ∀C s₀ H₀ ex,v8 (aJ X N' scope C s₀ H₀ ex) c ifs2 p2) (he: ∀C s₀ H₀ ex,DP (aJ X N' scope C s₀ H₀ ex) c .s elt f)
 {E:Il->Io->Prop} {aa:List (Addr×Obj)} {σ:St} {H:Hp} {s:Io} {hid:bq} {ρ:az} {J:It} {it:Addr} {fp:List Addr} {tn:Nat->Heap->Prop} {ds ys:List D} {RR:Il->Addr->PH->Io->Prop}
 (I:Inv X aa σ H s) (sr:SR X.K c hid ρ σ H) (T:Turn X.prog X.w X.K t1 J fp it tn) (st:tn 0 s.heap) (hF: ∀b∈fp,jg X aa H b) (io:B8 X.K H (vw H hid) J ds) (hz:ys.length<=IM) (hc:mx g1 p1 (zn gi2 g2 p2 f) (ρ++IC m .no) ds=some ys)
 (hR: ∀(D C:Addr) (s':Io) (H':Hp) (xs:List V),s.heap.objs.size<=D->s.heap.objs.size<=C->D≠C->H D=none->Same H H'->H' D=some (.lst xs)->Reps X.K (vw H' (bF hid D)) xs ys->(∃m,s'.heap.Ns C m)->H' C=none->s'.os=s.os->N4 s'.gens->HOk X.prog X.w H' s'.heap->Un (qV X.stack) fp H H' s.heap s'.heap->RR (.ref D) C (.ok .next) s'):
 IF (model X.prog X.w) X.A (RC []) (λacc s₃=>IF (model X.prog X.w) X.A (OL scope X.env.globals (qT X.env.cells scope.names []) [] X.env.qual none .none (some X.env)) (λcenv s₄=>
  LQ (model X.prog X.w) X.A (.compStart (.ListComp elt [⟨t1,i1,ifs1,0⟩,⟨t2,i2,ifs2,0⟩] scope pos) 0 (.ref it) acc {cenv with scope:=N5 scope X.env}) (RR acc cenv.locals) s₄) E s₃) E s:=by
 refine Kq (vN λh₁ hns₁ kp1 oc₁=>?_)
 dsimp only at hns₁ kp1 oc₁⊢
 generalize hH2:s.heap.push {cls:=.type "list",dict:=none,data:=.seq ([]:List Il).toArray}=H2 at hns₁ kp1 oc₁⊢
 have hC:H2.objs.size=s.heap.objs.size+1:=by rw[<-hH2,KN]
 have hD:H s.heap.objs.size=none:=I.hok.fresh (Iv _)
 have I2:Inv X aa σ (bp H s.heap.objs.size (.lst [])) {s with heap:=H2}:=by
  rw[<-hH2];exact I.laid (t':=s.toks) (λb o e=>Ip _ e) (Iv _) ⟨JV _,[],0,.nil,IN _ rfl⟩
 have fpLt: ∀b∈fp,b<s.heap.objs.size:=λb hb=>let⟨o,e,_⟩:=T.obj 0 s.heap st b hb;IJ e
 have hF2: ∀b∈fp,jg X aa (bp H s.heap.objs.size (.lst [])) b:=λb hb=>⟨by rw[aA (Jp (fpLt b hb))];exact(hF b hb).1,(hF b hb).2⟩
 have kp0: ∀b o,s.heap.get? b=some o->H2.get? b=some o:=λb o e=>by rw[<-hH2];exact Ip _ e
 have IY:=rS (tk:=s.toks) (N':=N') (fp:=fp) I2 hF2 (λb hb=>let⟨o,e,_⟩:=T.obj 0 s.heap st b hb;⟨o,kp0 b o e⟩) hk hs hn hns₁ kp1 oc₁
 rw[hm] at IY;dsimp only at IY;have sr0:SR X.K c (bF hid s.heap.objs.size) (ρ++IC m .no) (σ++IC m none) (bp H s.heap.objs.size (.lst [])):=(sr.hide (aO hD _) hD aC).more m
 have hρ:ρ.length=X.N.length:=by rw[<-sr.len];exact I.len
 have nf:hid s.heap.objs.size=false:=sr.fresh hD
 have st1:tn 0 h₁:=T.keep _ _ _ st λb hb o e=>kp1 b o (kp0 b o e)
 have na0: ∀i:Nat,Ow (ρ++IC m Sl.no)[i]? ->(σ++IC m none)[i]? ≠some (some (V.ref s.heap.objs.size)):=(sr.more m).notOw nf
 have wv:Same (vw H hid) (vw (bp H s.heap.objs.size (.lst [])) (bF hid s.heap.objs.size)):=by rw[uX hD];exact Same.refl _
 have nos:Hd X.N.length (ρ++IC m Sl.no):=λi s hi e=>by
  rw[JE (by omega),Kb] at e
  split at e
  ·cases e;rfl
  ·cases e
 have loop: ∀s4:Io,s4={s with heap:=h₁,toks:=s.toks}->
  LQ (model X.prog X.w) X.A (.compLoop (.ListComp elt [⟨t1,i1,ifs1,0⟩,⟨t2,i2,ifs2,0⟩] scope pos) 0 (.ref it) (.ref s.heap.objs.size) (Rz scope (nK X.env.cells scope H2.objs.size) H2.objs.size X.env)) (RR (.ref s.heap.objs.size) H2.objs.size) s4:=by
  rintro s4 rfl
  have fpY: ∀b∈fp,jg (aJ X N' scope H2.objs.size {s with heap:=H2} (bp H s.heap.objs.size (.lst [])) fp) [] (bp H s.heap.objs.size (.lst [])) b:=λb hb=>
   ⟨(hF2 b hb).1,(IY.ok.exf b hb).1,IY.ok.exfs b hb,.inl hb,(IY.ok.exf b hb).2,λq hq=>by have hq':q∈([]:List (Addr×Obj))++[]:=hq;simp at hq'⟩
  refine rL (Y:=aJ X N' scope H2.objs.size {s with heap:=H2} (bp H s.heap.objs.size (.lst [])) fp) (L:=H) (hid:=bF hid s.heap.objs.size) (W:=vw H hid) (ad0:=[]) (xs0:=[]) (A:=zn gi2 g2 p2 f) (TA:=qD X.prog X.w X.A (.ListComp elt [⟨t1,i1,ifs1,0⟩,⟨t2,i2,ifs2,0⟩] scope pos) i2 (.ref s.heap.objs.size) (Rz scope (nK X.env.cells scope H2.objs.size) H2.objs.size X.env))
   hcalm rfl hT1 (hg1 _ _ _ _) (hp1 _ _ _ _) (λd ρ1 e=>xa (Y:=aJ X N' scope H2.objs.size {s with heap:=H2} (bp H s.heap.objs.size (.lst [])) fp) hcalm rfl hT2 (λi s hi e'=>?_) (hi2 _ _ _ _) (hg2 _ _ _ _) (hp2 _ _ _ _) (he _ _ _ _) fj (sr.fresh0 hD) hD) nos IY sr0 fj na0 aC .nil (aO hD _) wv T st1 fpY io (by simpa using hz) hc (wW (hset H2.objs.size {s with heap:=H2} (bp H s.heap.objs.size (.lst [])) fp)) ?_
  ·rw[hU1 _ _ _ e i hi] at e'
   exact nos i s (by omega) e'
  ·intro s' σ' H' xs I' _ sm' hx' rp' _ _
   have un1:Un (qV X.stack) fp H (bp H s.heap.objs.size (.lst [])) s.heap H2:=Un.laid (λb o e=>kp0 b o e) (Iv _) hD
   exact hR s.heap.objs.size H2.objs.size s' H' xs (Iv _) (by rw[hC];exact OX _) (by rw[hC];exact Jp (Ky _)) hD sm' hx' rp' (let⟨m,hm,_⟩:=I'.loc;⟨m,hm⟩) I'.free I'.os I'.bare I'.hok (un1.trans I'.base)
 exact PN (loop _ rfl) (T.self X.A 0 _ _ _ st1 (loop _ rfl))
theorem nR(hcalm:X.calm=true)(n1:Nat)(hT1:jF X.N.length g1)(hU1:DH n1 g1)(hT2:jF n1 g2)(hi:C9 X c t1 i1 gi1)
 (hg1: ∀C s₀ H₀ ex,rB (aJ X N' scope C s₀ H₀ ex) c t1 g1) (hp1: ∀C s₀ H₀ ex,v8 (aJ X N' scope C s₀ H₀ ex) c ifs1 p1) (hi2: ∀C s₀ H₀ ex,DIp (aJ X N' scope C s₀ H₀ ex) c t2 i2 gi2)
 (hg2: ∀C s₀ H₀ ex,rB (aJ X N' scope C s₀ H₀ ex) c t2 g2) (hp2: ∀C s₀ H₀ ex,v8 (aJ X N' scope C s₀ H₀ ex) c ifs2 p2) (he: ∀C s₀ H₀ ex,DP (aJ X N' scope C s₀ H₀ ex) c .s elt f)
 (hk:scope.kind=.function:=by rfl) (hs:xT scope X.env.scope=true:=by kernel_rfl) (hn:xU X.N N' scope=true:=by kernel_rfl) (hm:N'.length-X.N.length=m:=by rfl) (hn1:X.N.length<=n1:=by exact Je rfl) (hset: ∀x,Kp i1 X.env x=pure x:=by intro _;rfl)
 (hset2: ∀C s₀ H₀ ex,∀x,Kp i2 (aJ X N' scope C s₀ H₀ ex).env x=pure x:=by intros;rfl):
 DP X c .n (.ListComp elt [⟨t1,i1,ifs1,0⟩,⟨t2,i2,ifs2,0⟩] scope pos) (ly m gi1 g1 p1 gi2 g2 p2 f):=by
 intro hid ρ aa s σ H Q I hq;obtain⟨sr,d,hd,q⟩:=hq
 obtain⟨ds,ys,e1,hc,hz,rfl⟩:=xG hd
 rw[T9];refine M8 (use:=none) rfl hset (fD λx hx=>I.ok.has x (iD hs x hx)) hk (lD hs) ?_
 refine bR (hi hid ρ aa s σ H (λJ H'=>Same H H'/\B8 X.K H' (vw H' hid) J ds) I ⟨sr,ds,e1,λJ H' s1 io=>⟨s1,io⟩⟩) λv s1 h1=>bR h1 λitv s2 h2=>?_
 obtain⟨it,fp,tn,J,H2,rfl,I2,T,st2,f2,sm,io⟩:=h2
 refine sF (RR:=λacc C=>Wg (model X.prog X.w) X.A X.xe none (EP X aa σ Q) acc C) hcalm hk hs hn hm hT1 hU1 hn1 hT2 hset2 hg1 hp1 hi2 hg2 hp2 he I2 (sr.ext sm) T st2 f2 io hz hc ?_
 intro D C s' H' xs hDge hCge hDC hD sm' hx rp ⟨mm,hns⟩ hC' hos hbare hok hun;refine⟨mm,hns,λh' hsb=>⟨.ref D,H',?_,rfl,q _ H' (sm.trans sm') ⟨D,xs,ys,rfl,rfl,sm.free hD,hx,rp⟩⟩⟩
 have neC: ∀b o,s2.heap.get? b=some o->b≠C:=λb o e z=>by subst z;exact absurd (IJ e) (NU.mpr hCge)
 have hun':Un (qV X.stack) fp H2 H' s2.heap h':=⟨λb o e n h1 h2=>(hsb.2 b (neC b o e)).trans (hun.keep b o e n h1 h2),λb o e n h1 h2=>let⟨sl,z⟩:=hun.slot b o e n h1 h2;⟨sl,(hsb.2 b (neC b o e)).trans z⟩,hun.free,λb o e h2=>let⟨o',z⟩:=hun.there b o e h2;⟨o',(hsb.2 b (neC b o e)).trans z⟩,hun.tups,hun.frzs,hun.tbls⟩
 have hok':HOk X.prog X.w H' h':=λb o e=>by
  have nb: ∀b' o',H' b'=some o'->b'≠C:=λb' o' e' z=>by subst z;rw[hC'] at e';cases e'
  refine(hok b o e).stay (λc' u hc' z=>(hsb.2 c' ?_).trans z) (λ_ z=>z) λ_ _ z=>z
  rcases hc' with z'|z'
  ·rw[z'];exact nb b o e
  ·exact nb c' _ z'
 exact I2.call' (s':={s' with heap:=h'}) (ch:=fp) hos hun' hok' hbare λb hb=>⟨(f2 b hb).2.2.2.1,(f2 b hb).2.1,(f2 b hb).2.2.2.2.1,(f2 b hb).2.2.2.2.2⟩
end
def uZ(ds:List D)(lo hi:Option Int):List D:=(ds.drop (HT.sIx ds.length 0 lo)).take (HT.sIx ds.length ds.length hi-HT.sIx ds.length 0 lo)
theorem zV {K:Iz}{F:Hp}{xs:List V}{ds:List D}(r:Reps K F xs ds)(lo hi:Option Int):Reps K F (xm xs lo hi) (uZ ds lo hi):=by
 unfold xm uZ;rw[r.length];exact(r.drop _).take _
abbrev FO:=az->Option (Option Int)
def HY(K:Iz)(c:Ct)(hid:bq)(f:FO)(ρ:az):TO:=λσ H Q=>SR K c hid ρ σ H/\ ∃o,f ρ=some o/\ ∀H',Same H H'->Q o H'
def DO(X:Cx)(c:Ct)(e:Option Expr)(f:FO):Prop:= ∀hid ρ,PO X e (HY X.K c hid f ρ)
theorem PO.imp {X:Cx}{e:Option Expr}{t t':TO}(h:PO X e t)(i: ∀σ H Q,t' σ H Q->t σ H Q):PO X e t':=λaa s σ H Q I q=>h aa s σ H Q I (i σ H Q q)
section
variable {X:Cx}{c:Ct}{e a b:Expr}{f g:FE}{k:Kd}{pos p2:Pos}{lo hi:Option Expr}{l u:FO}
def Fi:FO:=λ_=>some none
def EF(f:FE):FO:=λρ=>(f ρ).bind λd=>match d with
 | .int i=>some (some i)
 |_=>none
theorem vo:DO X c none Fi:=λhid ρ=>PO.imp Cs λσ H Q ⟨sr,o,e,q⟩=>by cases e;exact q H (Same.refl _)
theorem vE(h:DP X c k e f):DO X c (some e) (EF f):=λhid ρ=>PO.imp (Bb (h hid ρ)) λσ H Q hq_=>by
 obtain⟨sr,o,e,q⟩:=hq_
 unfold EF at e;cases e1:f ρ with
 |none=>rw[e1] at e;cases e
 |some d=>
  rw[e1] at e;cases d with
  |int i=>
   cases e
   refine⟨sr,_,e1,λv H' s r=>⟨i,?_,q H' s⟩⟩
   exact(RK.b k r λa n=>sr.fresh n).int
  |_=>cases e
def tF(f:FE)(l u:FO):FE:=λρ=>(f ρ).bind λd=>match d with
 | .lst ds=>(l ρ).bind λlo=>(u ρ).map λhi=>.lst (uZ ds lo hi)
 |_=>none
theorem ym(he:DP X c k e f)(hl:DO X c lo l)(hu:DO X c hi u):DP X c .n (.Subscript e (.Slice lo hi none p2) pos) (tF f l u):=λhid ρ=>
 PE.imp (ya Bp (he hid ρ) (hl hid ρ) (hu hid ρ)) λσ H Q hq_=>by
  obtain⟨sr,d,hd,q⟩:=hq_
  unfold tF at hd;cases e1:f ρ with
  |none=>rw[e1] at hd;cases hd
  |some z=>
   rw[e1] at hd;cases z with
   |lst ds=>
    have hd:((l ρ).bind λlo=>(u ρ).map λhi=>D.lst (uZ ds lo hi))=some d:=hd
    cases e2:l ρ with
    |none=>rw[e2] at hd;cases hd
    |some o1=>
     rw[e2] at hd;cases e3:u ρ with
     |none=>rw[e3] at hd;cases hd
     |some o2=>
      rw[e3] at hd;cases hd;refine⟨sr,_,e1,λv H1 s1 r1=>⟨sr.ext s1,o1,e2,λH2 s2=>⟨(sr.ext s1).ext s2,o2,e3,λH3 s3=>?_⟩⟩⟩
      obtain⟨a,xs,rfl,h1,h2⟩:=((RK.b k r1 λa n=>sr.fresh n).ext (s2.trans s3)).lst
      exact⟨a,xs,rfl,h1,λp hp=>q _ _ ((s1.trans (s2.trans s3)).trans (aO hp _)) (gd hp (s1.trans (s2.trans s3)) (zV h2 o1 o2))⟩
   |_=>cases hd
end
end L2
namespace PySem
open Sem (wp)
open AutoSeq1 (wpAny_loadPart')
end PySem
namespace L2
open PySem PySem.Spec PyProof.Rows
open PySem PySem.W PySem.Calls PyProof.Rows
def t4(i:Nat)(g:FE):GE:=λρ=>match g ρ with
 |some (.lst zs)=>(match gc i ρ with
  |some bs=>if bs.length+zs.length<=IM then some (.non,fF i (bs++zs) ρ) else none
  |none=>none)
 |_=>none
theorem xz {i:Nat}{g:FE}{ρ ρ':az}{d:D}(h:t4 i g ρ=some (d,ρ')): ∃zs bs,g ρ=some (.lst zs)/\gc i ρ=some bs/\bs.length+zs.length<=IM/\d=.non/\ρ'=fF i (bs++zs) ρ:=by
 unfold t4 at h;split at h
 ·split at h
  ·split at h
   ·cases h;exact⟨_,_, ‹_›, ‹_›, ‹_›,rfl,rfl⟩
   ·cases h
  ·cases h
 ·cases h
section
variable {X:Cx}{c:Ct}{e:Expr}{y:Str}{py apos pos:Pos}{g:FE}
theorem CO(i:Nat)(he:DP X c .n e g)
 (hN:X.N[i]? =some y:=by rfl) (hv:oh X.env.scope y:=by first|exact Kf rfl|exact Jw (Kf rfl)|exact Jw (Jw rfl)) (hd:(y==("__debug__":Str))=false:=by decide) (hcd:(y==("__classdict__":Str))=false:=by decide)
 (hbase:M6 (.Name y py) "extend" X.env (eval (.Name y py) X.env)=eval (.Name y py) X.env:=by rfl)
 (hfew:((KQ pos (ID [e] X.env)).all (λx=> !x.1)&&(Qm pos (N9 [] X.env)).all (λx=>x.1.isSome)
   &&decide ([e].length+([]:List NB).length+(if([]:List NB).isEmpty then 0 else 1)<30))=true:=by rfl)
 (hline:(apos.endLine==pos.line)=true:=by rfl) (hs:ID [e] X.env=(false,eval e X.env)::ID [] X.env:=by rfl) (hplain:(KQ pos (ID [] X.env)).any (·.1)=false:=by rfl):
 DE X c .s (.Call (.Attribute (.Name y py) "extend" apos) [e] [] pos) (t4 i g):=λhid ρ=>
 PE.imp (v7 Ps PySem.F.slot_list_extend PySem.F.type_list_extend xA (pv i hN hv hd hcd) (bS (he hid ρ) dL hs) hbase hfew hline hs hplain) λσ H Q hq_=>by
  obtain⟨sr,d,ρ',hd',q⟩:=hq_
  obtain⟨zs,bs,e1,e2,e3,rfl,rfl⟩:=xz hd'
  obtain⟨a,xs0,a1,a2,a3,a4,a5⟩:=sr.held e2
  refine⟨.ref a,a1,.inl ⟨rfl,_,SqL.of a2⟩,sr,_,e1,λv H1 s1 r1=>?_⟩
  obtain⟨l,ws,ds',z,rfl,n1,n2,n3⟩:=r1
  cases z
  have rw1:Reps X.K (vw H1 hid) ws zs:=n3.mono (eW λb w=>cF w)
  have rx1:Reps X.K (vw H1 hid) xs0 bs:=a4.mono (aH s1)
  refine⟨a,l,xs0,ws,rfl,rfl,s1 _ _ a2,n2,by rw[rx1.length,rw1.length];exact e3,?_⟩
  have vv:vw (bp H1 a (.lst (xs0++ws))) hid=vw H1 hid:=dc a3
  refine q .non _ ⟨λb o z hb=>?_,(sr.ext s1).put e2 a1 (λb o z hb=>by rw[aA hb];exact z) aC (by rw[vv];exact rx1.append rw1),.non⟩
  rw[aA (λe=>by subst e;rw[a3] at hb;cases hb)]
  exact s1 _ _ z
end
def EQ {α:Type}(d:α)(n:Nat):Option α:=if n<=IM then some d else none
def HI {α:Type}(d:α)(n:Nat):Option α:=if n<IM then some d else none
theorem dm {α:Type}{d:α}{n:Nat}(h:n<=1000):EQ d n=some d:=if_pos (Mr (iW h))
theorem oT {α:Type}{d:α}{n:Nat}(h:n<=1000):HI d n=some d:=if_pos (iW h)
theorem Cz(fs:FA)(ρ:az):dr fs ρ=(fs ρ).bind λds=>EQ (.tup ds) ds.length:=rfl
theorem ka(fs:FA)(ρ:az):di fs ρ=(fs ρ).bind λds=>EQ (.lst ds) ds.length:=rfl
theorem yG(m:Nat)(gi:FA)(g:FG)(p:FT)(f:FE)(ρ:az):bP m gi g p f ρ=(gi ρ).bind λds=>(EQ () ds.length).bind λ_=>(cz g p f (ρ++IC m .no) ds).map D.lst:=by
 unfold bP EQ;congr 1;funext ds
 split<;>rfl
theorem wo(bs:List D)(d:D):kT bs [d]=HI (.non,bs++[d]) bs.length:=rfl
theorem BD(bs:List D)(i:Int):oA bs [.int i]=(EQ () bs.length).bind λ_=>(tS bs.length i).bind λj=>(bs[j]?).map λd=>(d,bs.eraseIdx j):=by
 unfold oA EQ;dsimp only;split
 ·rename_i j e
  split at e
  ·rw[if_pos ‹_›,e];rfl
  ·cases e
 ·rename_i e
  split at e
  ·rw[if_pos ‹_›,e];rfl
  ·rw[if_neg ‹_›];rfl
def Gj(ds:List D):Option (List D):=match ds with
 | [.int j]=>if j.natAbs<4000000000 then some (qX 0 j.toNat) else none
 |_=>none
theorem rR(f:FA)(ρ:az):bQ f ρ=(f ρ).bind Gj:=rfl
theorem rX {j:Int}(h:j.natAbs<=1000):Gj [.int j]=some (qX 0 j.toNat):=by
 show(if j.natAbs<4000000000 then some (qX 0 j.toNat) else none)=_
 rw[if_pos (by omega)]
theorem gy(i j:Int):bM (.int i) (.int j)=some (.int (i+j)):=rfl
theorem Ab(i j:Int):dn (.int i) (.int j)=some (.int (i-j)):=rfl
theorem mo(i j:Int):n4 (.int i) (.int j)=some (.bl (decide (i<j))):=rfl
theorem CV(i j:Int):Ex (.int i) (.int j)=some (.bl (decide (j<i))):=rfl
theorem vQ(i j:Int):GQ (.int i) (.int j)=some (.bl (decide (j<=i))):=rfl
theorem cg {i j:Int}(h:0<j):aS (.int i) (.int j)=some (.int (i % j)):=by
 unfold aS i2;dsimp only;rw[if_pos (by simpa using h)]
theorem uw {n:Nat}(h:n<10^200):n<2^1000:=IL h (by decide)
theorem gz {i j:Int}(h1:i.natAbs<10^200)(h2:j.natAbs<10^200):dG (.int i) (.int j)=some (.int (i*j)):=by
 unfold dG i2;dsimp only;rw[if_pos (by rw[decide_eq_true (uw h1),decide_eq_true (uw h2)];rfl)]
theorem pB {i j:Int}(h1:0<j)(h2:j.natAbs<10^200):jR (.int i) (.int j)=some (.int (i / j)):=by
 unfold jR i2;dsimp only;rw[if_pos (by rw[decide_eq_true h1,decide_eq_true (uw h2)];rfl)]
theorem jK {i j:Int}(h0:0<=j)(h1:j<=1000000)(h2:i.natAbs<2^64):dD (.int i) (.int j)=some (.int (i^j.toNat)):=by
 unfold dD i2;dsimp only;rw[if_pos (by rw[decide_eq_true h0,decide_eq_true h1,decide_eq_true h2];rfl)]
theorem lz {x y:D}(h:cV x<=32):qZ x y=some (.bl (dq x y)):=if_pos h
theorem p7 {x y:D}(h:cV x<=32):qW x y=some (.bl (!dq x y)):=if_pos h
theorem iR(i j:Int):dq (.int i) (.int j)=decide (i=j):=by
 unfold dq;rw[KO];simp
theorem g6(i:Int):cV (.int i)=0:=by unfold cV;rfl
structure Bag(N:Nat)(a b:Int):Prop where
 a0:0<=a
 a1:a.natAbs<10^180
 b0:0<=b
 b1:b<=N
 lo:b≠0->a.natAbs<2147483647
abbrev aM(a b:Int):List D:=[.int a,.int b]
def qK:FS:=
 ax (fP (bx (aj n4 (ag 1) (ak cE (ab (ag 0) (ah))))) (aV (aj bd (ag 0) (ag 1))) (skip))
 (aV (aE (.int 0)))
def fT:List D->Option D:=gm .s 2 qK
def zB:FS:=
 ax (bj 2 (aj aS (ak sM (ab (ak (nF 2 fT) (ab (ag 0) (ab (ag 1) (ah)))) (ah))) (aj dG (aj dG (aj dD (aE (.int 10)) (aE (.int 60))) (aj dD (aE (.int 10)) (aE (.int 60)))) (aj dD (aE (.int 10)) (aE (.int 60))))))
 (ax (fP (bx (aj GQ (ag 2) (aj dD (aE (.int 10)) (aE (.int 18))))) (aV (di (ab (ag 2) (ab (aE (.int 0)) (ah))))) (skip))
 (ax (bj 3 (aj aS (aj bM (aj bM (ag 2) (aj dG (aE (.int 7919)) (ag 1))) (aE (.int 17))) (aE (.int 2147483647))))
 (ax (dE (bT (bQ (ab (ak nH (ab (ak cE (ab (ag 0) (ah))) (ab (aE (.int 9)) (ah)))) (ah)))) (gN 4) (bj 3 (aj aS (aj bM (aj bM (aj dD (ag 3) (aE (.int 5))) (aj aS (aj bd (ag 0) (ag 4)) (aE (.int 2147483629)))) (aj dG (aE (.int 31)) (ag 4))) (aE (.int 2147483647)))))
 (aV (di (ab (ag 3) (ab (aE (.int 1)) (ah))))))))
def zw:List D->Option D:=gm .n 5 zB
def pS:FS:=
 ax (fP (bx (aj qZ (aj bd (cJ 0) (aE (.int 1))) (aE (.int 0)))) (ax (bj 2 (aj aS (aj bd (cJ 0) (aE (.int 0))) (ag 1)))
 (ax (eR (bH 0 (aE (.int 0))) (pu (aj jR (aj bd (cJ 0) (aE (.int 0))) (ag 1))))
 (aV (ag 2)))) (skip))
 (ax (eR (bH 0 (aE (.int 0))) (pu (aj aS (aj bM (aj bM (aj dD (aj bd (cJ 0) (aE (.int 0))) (aE (.int 5))) (aj dG (aE (.int 48271)) (aj bd (cJ 0) (aE (.int 1))))) (aE (.int 11))) (aE (.int 2147483647)))))
 (ax (eR (bH 0 (aE (.int 1))) (pu (aj bM (aj bd (cJ 0) (aE (.int 1))) (aE (.int 1)))))
 (aV (aj aS (aj jR (aj aS (aj dG (aj bd (cJ 0) (aE (.int 0))) (aE (.int 69621))) (aE (.int 2147483629))) (aE (.int 8))) (ag 1)))))
def cW:List D->List D->Option (D×List D):=tR .s 3 pS
def sy:FS:=
 ax (du 2 (xX (ag 1)))
 (ax (du 3 (di (ah)))
 (ax (xV (bx (aj qW (cJ 2) (di (ah)))) (cH (aN 3 1 kT (cq (aN 2 1 oA (cq (aN 0 1 cW (bT (ab (ak cE (ab (cJ 2) (ah))) (ah)))) (bT (ah)))) (bT (ah))))) 16)
 (AJ 3)))
def gA:List D->List D->Option (D×List D):=tR .n 4 sy
theorem cx {i m:Int}(h:0<m):0<=i % m/\i % m<m:=⟨Sx _ (by omega),Q1 _ h⟩
theorem iY {N:Nat}{a b m:Int}(B:Bag N a b)(hN:N<=1000000000)(hm:0<m)(hm2:m.natAbs<10^20): ∃d a' b',cW (aM a b) [.int m]=some (.int d,aM a' b')/\Bag (N+1) a' b'/\0<=d/\d<m:=by
 have hm3:m.natAbs<10^200:=IL hm2 (by decide)
 by_cases hb:b=0
 ·subst hb
  refine⟨a % m,a / m,0,?_,⟨SH B.a0 (by omega),?_,by omega,by omega,λz=>absurd rfl z⟩,cx hm⟩
  ·simp[cW,tR,pS,gr,aM,ax,fP,bx,aj,bd,cJ,ag,aE,lz,iR,g6,tQ,qU,tS,bj,cg hm,eR,pu,pB hm hm3,bH,gc,fF,EV,aV,lZ]
  ·have h1:=B.a1
   have:a / m<=a:=Int.ediv_le_self _ B.a0
   have:0<=a / m:=SH B.a0 (by omega)
   omega
 ·have lo:=B.lo hb
  have p1:a.natAbs<2^64:=Os lo (by decide)
  have p2:b.natAbs<10^200:=IL (show b.natAbs<10^10 by have:=B.b1;have:=B.b0;omega) (by decide)
  generalize hA:(a^5+48271*b+11) % 2147483647=A
  have hA':0<=A/\A<2147483647:=by rw[<-hA];exact cx (by decide)
  have p3:A.natAbs<10^200:=IL (show A.natAbs<10^10 by omega) (by decide)
  refine⟨A*69621 % 2147483629 / 8 % m,A,b+1,?_,⟨hA'.1,?_,by have:=B.b0;omega,by have:=B.b1;omega,λ_=>by omega⟩,cx hm⟩
  ·have c1:(48271:Int).natAbs<10^200:=IL (show(48271:Int).natAbs<10^10 by decide) (by decide)
   have c2:(69621:Int).natAbs<10^200:=IL (show(69621:Int).natAbs<10^10 by decide) (by decide)
   have c3:(8:Int).natAbs<10^200:=IL (show(8:Int).natAbs<10^10 by decide) (by decide)
   have e1:dD (.int a) (.int 5)=some (.int (a^5)):=jK (by decide) (by decide) p1
   have e2:dG (.int 48271) (.int b)=some (.int (48271*b)):=gz c1 p2
   have e3: ∀i:Int,aS (.int i) (.int 2147483647)=some (.int (i % 2147483647)):=λi=>cg (by decide)
   have e4: ∀i:Int,aS (.int i) (.int 2147483629)=some (.int (i % 2147483629)):=λi=>cg (by decide)
   have e5:dG (.int A) (.int 69621)=some (.int (A*69621)):=gz p3 c2
   have e6: ∀i:Int,jR (.int i) (.int 8)=some (.int (i / 8)):=λi=>pB (by decide) c3
   simp[cW,tR,pS,gr,aM,ax,fP,bx,aj,bd,cJ,ag,aE,lz,iR,g6,tQ,qU,tS,hb,skip,e1,e2,e3,e4,gy,eR,pu,bH,gc,fF,EV,aV,lZ,hA,e5,e6,cg hm]
  ·exact IL (show A.natAbs<10^10 by omega) (by decide)
theorem ay {t u:FS}{ρ ρ':az}(h:t ρ=.nx ρ'):ax t u ρ=u ρ':=by unfold ax;rw[h]
theorem uu {t u:FS}{ρ ρ':az}{d:D}(h:t ρ=.rt d ρ'):ax t u ρ=.rt d ρ':=by unfold ax;rw[h]
abbrev nI(i:Nat):D:=.int (i:Int)
abbrev lN(ns:List Int):D:=.scr (ns.map D.int)
theorem AG(n:Nat):qX 0 n=(Iy n).map nI:=by
 unfold qX;simp
theorem iL {n j:Nat}(h:j<n):tS n (j:Int)=some j:=by
 unfold tS;rw[if_pos (by omega),if_pos (by omega)];simp
theorem A5(ns:List Int)(k:Nat): ∃c,fT [lN ns,nI k]=some (.int c):=by
 by_cases h:k<ns.length
 ·refine⟨ns[k],?_⟩
  simp[fT,gm,qK,ou,ax,fP,bx,aj,ag,ak,ab,ah,cE,mo,tQ,h,aV,bd,qU,iL (show k<(ns.map D.int).length by simpa using h)]
  simp[iL h,h]
 ·refine⟨0,?_⟩
  simp[fT,gm,qK,ou,ax,fP,bx,aj,ag,ak,ab,ah,cE,mo,tQ,h,aV,skip,aE]
theorem rN(ns:List Int)(k:D)(c:D): ∀(l:List Nat),(∀i∈l,i<ns.length/\i<1000)-> ∀(x:Int) (s4:Sl),0<=x->x<2147483647-> ∃(x':Int) (s4':Sl),0<=x'/\x'<2147483647/\
 dP (gN 4) (bj 3 (aj aS (aj bM (aj bM (aj dD (ag 3) (aE (.int 5))) (aj aS (aj bd (ag 0) (ag 4)) (aE (.int 2147483629)))) (aj dG (aE (.int 31)) (ag 4))) (aE (.int 2147483647)))) (l.map nI) [.v (lN ns),.v k,.v c,.v (.int x),s4]=.nx [.v (lN ns),.v k,.v c,.v (.int x'),s4']
 | [],_,x,s4,h1,h2=>⟨x,s4,h1,h2,rfl⟩
 |i::l,hl,x,s4,h1,h2=>by
  obtain⟨hi,hi2⟩:=hl i (by simp)
  have e1:dD (.int x) (.int 5)=some (.int (x^5)):=jK (by decide) (by decide) (IL (show x.natAbs<10^10 by omega) (by decide))
  have e2:dG (.int 31) (nI i)=some (.int (31*i)):=gz (IL (show(31:Int).natAbs<10^10 by decide) (by decide)) (IL (show(i:Int).natAbs<10^10 by omega) (by decide))
  have e3: ∀i:Int,aS (.int i) (.int 2147483647)=some (.int (i % 2147483647)):=λi=>cg (by decide)
  have e4: ∀i:Int,aS (.int i) (.int 2147483629)=some (.int (i % 2147483629)):=λi=>cg (by decide)
  obtain⟨y1,y2⟩:=cx (i:=x^5+ns[i] % 2147483629+31*i) (m:=2147483647) (by decide)
  obtain⟨x',s4',g1,g2,g3⟩:=rN ns k c l (λj hj=>hl j (by simp[hj])) _ (.v (nI i)) y1 y2
  refine⟨x',s4',g1,g2,?_⟩
  rw[<-g3];simp[dP,gN,bj,aj,ag,aE,e1,e2,e3,e4,bd,qU,iL (show i<(ns.map D.int).length by simpa using hi),iL hi,hi,gy]
theorem EM(ns:List Int)(k:Nat)(hk:k<=1000)(hn:ns.length<=63): ∃a b,zw [lN ns,nI k]=some (.lst (aM a b))/\Bag 1 a b:=by
 obtain⟨c,hc⟩:=A5 ns k
 have p1:dD (.int 10) (.int 60)=some (.int (10^60)):=jK (by decide) (by decide) (by decide)
 have p2:dD (.int 10) (.int 18)=some (.int (10^18)):=jK (by decide) (by decide) (by decide)
 have q60:((10:Int)^60).natAbs<10^200:=by decide
 have q120:((10:Int)^60*10^60).natAbs<10^200:=by decide
 have m1:dG (.int (10^60)) (.int (10^60))=some (.int (10^60*10^60)):=gz q60 q60
 have m2:dG (.int (10^60*10^60)) (.int (10^60))=some (.int (10^60*10^60*10^60)):=gz q120 q60
 have m3:dG (.int 7919) (nI k)=some (.int (7919*k)):=gz (IL (show(7919:Int).natAbs<10^10 by decide) (by decide)) (IL (show(k:Int).natAbs<10^10 by omega) (by decide))
 generalize hA:(if c<0 then -c else c) % (10^60*10^60*10^60)=A
 have hA':0<=A/\A<10^60*10^60*10^60:=by rw[<-hA];exact cx (by decide)
 have s1:bj 2 (aj aS (ak sM (ab (ak (nF 2 fT) (ab (ag 0) (ab (ag 1) (ah)))) (ah))) (aj dG (aj dG (aj dD (aE (.int 10)) (aE (.int 60))) (aj dD (aE (.int 10)) (aE (.int 60)))) (aj dD (aE (.int 10)) (aE (.int 60))))) [.v (lN ns),.v (nI k),.no,.no,.no]=.nx [.v (lN ns),.v (nI k),.v (.int A),.no,.no]:=by
  have m4: ∀i:Int,aS (.int i) (.int (10^60*10^60*10^60))=some (.int (i % (10^60*10^60*10^60))):=λi=>cg (by decide)
  unfold bj;have:aj aS (ak sM (ab (ak (nF 2 fT) (ab (ag 0) (ab (ag 1) (ah)))) (ah))) (aj dG (aj dG (aj dD (aE (.int 10)) (aE (.int 60))) (aj dD (aE (.int 10)) (aE (.int 60)))) (aj dD (aE (.int 10)) (aE (.int 60)))) [.v (lN ns),.v (nI k),.no,.no,.no]=some (.int A):=by
   have ec:ak (nF 2 fT) (ab (ag 0) (ab (ag 1) ah)) [.v (lN ns),.v (nI k),.no,.no,.no]=some (.int c):=hc
   simp only[aj,ak,ab,ah,aE,Iw,p1,m1,m2,sM];have ec':((ag 0 [.v (lN ns),.v (nI k),.no,.no,.no]).bind λd=>((ag 1 [.v (lN ns),.v (nI k),.no,.no,.no]).bind λd=>(some []).map λr=>d::r).map λr=>d::r).bind (nF 2 fT)=some (.int c):=hc
   rw[ec'];simp only[Iw,Ni,m4,sM,hA]
  rw[this];rfl
 have r0:ou 5 [lN ns,nI k]=[.v (lN ns),.v (nI k),.no,.no,.no]:=rfl
 unfold zw gm zB;rw[r0,ay s1];have hA180:A.natAbs<10^180:=by
  have:(10:Int)^60*10^60*10^60=((10^180:Nat):Int):=by decide
  rw[this] at hA';omega
 by_cases hb:(10:Int)^18<=A
 ·refine⟨A,0,?_,⟨hA'.1,hA180,by decide,by decide,λz=>absurd rfl z⟩⟩
  simp only[ax,fP,bx,aj,ag,Lr,KW,Iw,aE,p2,vQ,tQ,decide_eq_true hb,aV,ka,ab,ah,Ni];rw[dm (by simp)]
 ·generalize hx:(A+7919*(k:Int)+17) % 2147483647=x
  have hx':0<=x/\x<2147483647:=by rw[<-hx];exact cx (by decide)
  have m4:aS (.int (A+7919*(k:Int)+17)) (.int 2147483647)=some (.int x):=by rw[cg (by decide),hx]
  have hr:bQ (ab (ak nH (ab (ak cE (ab (ag 0) (ah))) (ab (aE (.int 9)) (ah)))) (ah)) [.v (lN ns),.v (nI k),.v (.int A),.v (.int x),.no]=some ((Iy (min ns.length 9)).map nI):=by
   rw[rR];simp only[ak,ab,ah,ag,aE,KW,Iw,Ni,cE,nH,Iu];have:(if(9:Int)<(ns.length:Int) then(9:Int) else(ns.length:Int))=((min ns.length 9:Nat):Int):=by split<;>omega
   rw[this,rX (by omega),AG,Lq]
  obtain⟨x',s4',g1,g2,g3⟩:=rN ns (nI k) (.int A) (Iy (min ns.length 9)) (λi hi=>by have:=Ja.mp hi;omega) x .no hx'.1 hx'.2
  refine⟨x',1,?_,⟨g1,IL (show x'.natAbs<10^10 by omega) (by decide),by decide,by decide,λ_=>by omega⟩⟩
  have f1:dE (bT (bQ (ab (ak nH (ab (ak cE (ab (ag 0) (ah))) (ab (aE (.int 9)) (ah)))) (ah)))) (gN 4) (bj 3 (aj aS (aj bM (aj bM (aj dD (ag 3) (aE (.int 5))) (aj aS (aj bd (ag 0) (ag 4)) (aE (.int 2147483629)))) (aj dG (aE (.int 31)) (ag 4))) (aE (.int 2147483647)))) [.v (lN ns),.v (nI k),.v (.int A),.v (.int x),.no]=.nx [.v (lN ns),.v (nI k),.v (.int A),.v (.int x'),s4']:=by
   unfold dE bT;rw[hr];exact g3
  have i1:fP (bx (aj GQ (ag 2) (aj dD (aE (.int 10)) (aE (.int 18))))) (aV (di (ab (ag 2) (ab (aE (.int 0)) (ah))))) (skip) [.v (lN ns),.v (nI k),.v (.int A),.no,.no]=.nx [.v (lN ns),.v (nI k),.v (.int A),.no,.no]:=by
   simp only[fP,bx,aj,ag,Lr,KW,Iw,aE,p2,vQ,tQ,decide_eq_false hb,skip]
  have i2:bj 3 (aj aS (aj bM (aj bM (ag 2) (aj dG (aE (.int 7919)) (ag 1))) (aE (.int 17))) (aE (.int 2147483647))) [.v (lN ns),.v (nI k),.v (.int A),.no,.no]=.nx [.v (lN ns),.v (nI k),.v (.int A),.v (.int x),.no]:=by
   simp only[bj,aj,ag,Lr,KW,Iw,aE,m3,gy,m4,List.set_cons_succ,List.set_cons_zero]
  rw[ay i1,ay i2,ay f1];simp only[aV,ka,ab,ah,ag,aE,Lr,KW,Iw,Ni];rw[dm (by simp)]
theorem bL {i n:Nat}{M:List D->List D->Option (D×List D)}{fs:GA}{ρ ρ1:az}{b0 bs ds bs':List D}{d:D}(h0:gc i ρ=some b0)(h1:fs ρ=some (ds,ρ1))(h2:gc i ρ1=some bs)(h3:ds.length=n)(h4:M bs ds=some (d,bs')):aN i n M fs ρ=some (d,fF i bs' ρ1):=by
 unfold aN;rw[h0];dsimp only;rw[h1];dsimp only;rw[h2];dsimp only;rw[if_pos h3,h4]
theorem fA {f:GE}{fs:GA}{ρ ρ1 ρ2:az}{d:D}{ds:List D}(h1:f ρ=some (d,ρ1))(h2:fs ρ1=some (ds,ρ2)):cq f fs ρ=some (d::ds,ρ2):=by
 unfold cq bE;rw[h1];dsimp only[L5];rw[h2];rfl
theorem bC {f:FA}{ρ:az}{ds:List D}(h:f ρ=some ds):bT f ρ=some (ds,ρ):=by unfold bT;rw[h];rfl
theorem lS {f:FE}{ρ:az}{d:D}(h:f ρ=some d):pu f ρ=some (d,ρ):=by unfold pu;rw[h];rfl
theorem o0 {α β:Type}(f:α->β): ∀(l:List α) (j:Nat),(l.map f).eraseIdx j=(l.eraseIdx j).map f
 | [],_=>rfl
 |_::_,0=>rfl
 |x::l,j+1=>by simp[o0 f l j]
theorem nG {α:Type}: ∀(l:List α) (j:Nat) (h:j<l.length),(l[j]::l.eraseIdx j).Perm l
 |_::_,0,_=>.refl _
 |x::l,j+1,h=>by
  have ih:=nG l j (by simpa using h)
  exact(Ts _ _ _).trans (ih.cons x)
theorem mH: ∀r:List Nat,cC (r.map nI)=0
 | []=>by simp[cC]
 |a::r=>by
  rw[Ix];unfold cC;rw[mH r];simp[cV]
theorem zG(r:List Nat):cV (.lst (r.map nI))<=32:=by unfold cV;rw[mH];omega
abbrev HE:FS->Nat->FS:=λb n=>xV (bx (aj qW (cJ 2) (di (ah)))) b n
abbrev ph:FS:=cH (aN 3 1 kT (cq (aN 2 1 oA (cq (aN 0 1 cW (bT (ab (ak cE (ab (cJ 2) (ah))) (ah)))) (bT (ah)))) (bT (ah))))
theorem Ft(n:D)(bg:List D)(left found:List Nat):bx (aj qW (cJ 2) (di (ah))) [.arg bg,.v n,.own (left.map nI),.own (found.map nI)]=some (!left.isEmpty):=by
 have h0:di ah [.arg bg,.v n,.own (left.map nI),.own (found.map nI)]=some (.lst []):=by
  rw[ka];simp only[ah,Iw];exact dm (by simp)
 unfold bx aj;rw[h0];simp only[cJ,Lr,KW,Iw];rw[p7 (zG left)];cases left with
 |nil=>simp[tQ,dq,cp]
 |cons x r=>simp[tQ,dq,cp]
theorem yx(n:D){N:Nat}{a b:Int}(B:Bag N a b)(hN:N<=1000000000)(left found:List Nat)(h0:0<left.length)(h1:left.length<=100)(h2:found.length<=100):
 ∃(j:Nat) (hj:j<left.length) (a' b':Int),ph [.arg (aM a b),.v n,.own (left.map nI),.own (found.map nI)]=.nx [.arg (aM a' b'),.v n,.own ((left.eraseIdx j).map nI),.own ((found++[left[j]]).map nI)]/\Bag (N+1) a' b':=by
 obtain⟨d,a',b',e,B',d0,d1⟩:=iY (m:=left.length) B hN (by omega) (IL (show(left.length:Int).natAbs<10^10 by omega) (by decide))
 obtain⟨j,rfl⟩: ∃j:Nat,d=(j:Int):=⟨d.toNat,by omega⟩
 have hj:j<left.length:=by omega
 refine⟨j,hj,a',b',?_,B'⟩
 have e2:oA (left.map nI) [.int (j:Int)]=some (nI left[j],(left.eraseIdx j).map nI):=by
  rw[BD,dm (by simp;omega)]
  simp only[Iw];rw[iL (by simpa using hj)]
  simp[hj,o0]
 have e3:kT (found.map nI) [nI left[j]]=some (.non,(found++[left[j]]).map nI):=by
  rw[wo,oT (by simp;omega)];simp
 have g:aN 0 1 cW (bT (ab (ak cE (ab (cJ 2) (ah))) (ah))) [.arg (aM a b),.v n,.own (left.map nI),.own (found.map nI)]=some (nI j,[.arg (aM a' b'),.v n,.own (left.map nI),.own (found.map nI)]):=by
  simp[aN,gc,bT,ab,ak,cJ,ah,cE,e,fF]
 have g2:aN 2 1 oA (cq (aN 0 1 cW (bT (ab (ak cE (ab (cJ 2) (ah))) (ah)))) (bT (ah))) [.arg (aM a b),.v n,.own (left.map nI),.own (found.map nI)]=some (nI left[j],[.arg (aM a' b'),.v n,.own ((left.eraseIdx j).map nI),.own (found.map nI)]):=by
  refine(bL (i:=2) (n:=1) (b0:=left.map nI) (ds:=[nI j]) (ρ1:=[.arg (aM a' b'),.v n,.own (left.map nI),.own (found.map nI)]) rfl (fA g rfl) rfl rfl e2).trans rfl
 have g3:aN 3 1 kT (cq (aN 2 1 oA (cq (aN 0 1 cW (bT (ab (ak cE (ab (cJ 2) (ah))) (ah)))) (bT (ah)))) (bT (ah))) [.arg (aM a b),.v n,.own (left.map nI),.own (found.map nI)]=some (.non,[.arg (aM a' b'),.v n,.own ((left.eraseIdx j).map nI),.own ((found++[left[j]]).map nI)]):=by
  refine(bL (i:=3) (n:=1) (b0:=found.map nI) (ds:=[nI left[j]]) (ρ1:=[.arg (aM a' b'),.v n,.own ((left.eraseIdx j).map nI),.own (found.map nI)]) rfl (fA g2 rfl) rfl rfl e3).trans rfl
 unfold ph cH;rw[g3]
theorem C6(n:D): ∀(f:Nat) (left found:List Nat) (N:Nat) (a b:Int),left.length<f->left.length<=50->found.length+left.length<=100->Bag N a b->N+left.length<=1000000000->
 ∃(o:List Nat) (a' b':Int),HE ph f [.arg (aM a b),.v n,.own (left.map nI),.own (found.map nI)]=.nx [.arg (aM a' b'),.v n,.own [],.own ((found++o).map nI)]/\o.Perm left/\Bag (N+left.length) a' b'
 |0,left,found,N,a,b,h,_,_,_,_=>absurd h (Nf _)
 |f+1,left,found,N,a,b,h,h1,h2,B,hN=>by
  unfold HE xV;rw[Ft];cases e:left.isEmpty with
  |true=>
   have:left=[]:=by simpa using e
   subst this;exact⟨[],a,b,by simp,.refl _,by simpa using B⟩
  |false=>
   have h0:0<left.length:=by cases left with
    |nil=>cases e
    |cons x r=>simp
   obtain⟨j,hj,a1,b1,e1,B1⟩:=yx n B (by omega) left found h0 (by omega) (by omega)
   have hl:(left.eraseIdx j).length=left.length-1:=by rw[KS];simp[hj]
   obtain⟨o,a2,b2,e2,p,B2⟩:=C6 n f (left.eraseIdx j) (found++[left[j]]) (N+1) a1 b1 (by omega) (by omega) (by simp;omega) B1 (by omega)
   refine⟨left[j]::o,a2,b2,?_,?_,?_⟩
   ·simp only[Tt]
    rw[e1];dsimp only;have:xV (bx (aj qW (cJ 2) (di ah))) ph f=HE ph f:=rfl
    rw[this,e2];simp
   ·exact(p.cons _).trans (nG left j hj)
   ·rw[show N+left.length=N+1+(left.eraseIdx j).length by omega];exact B2
structure Ord(n:Nat)(r:List Nat):Prop where
 perm:r.Perm (Iy n)
theorem Ord.len {n:Nat}{r:List Nat}(o:Ord n r):r.length=n:=by rw[o.perm.length_eq];simp
theorem Ord.lt {n:Nat}{r:List Nat}(o:Ord n r){v:Nat}(h:v∈r):v<n:=by simpa using o.perm.mem_iff.mp h
theorem Ord.nd {n:Nat}{r:List Nat}(o:Ord n r):r.Nodup:=o.perm.nodup_iff.mpr Mg
theorem yh {n:Nat}(h:n<=1000)(f:FE)(ρ:az)(e:f ρ=some (nI n)):xX f ρ=some (.lst ((Iy n).map nI)):=by
 unfold xX Cy;rw[e];simp only[Iw];rw[if_pos (by omega),AG];rfl
theorem m8 {N:Nat}{a b:Int}(B:Bag N a b){n:Nat}(hn:n<=12)(hN:N<=900000000): ∃(o:List Nat) (a' b':Int),gA (aM a b) [nI n]=some (.lst (o.map nI),aM a' b')/\Ord n o/\Bag (N+n) a' b':=by
 obtain⟨o,a',b',e,p,B'⟩:=C6 (nI n) 16 (Iy n) [] N a b (by simp;omega) (by simp;omega) (by simp;omega) B (by simp;omega)
 refine⟨o,a',b',?_,⟨p⟩,by simpa using B'⟩
 have r0:gr 4 (aM a b) [nI n]=[.arg (aM a b),.v (nI n),.no,.no]:=rfl
 have s1:du 2 (xX (ag 1)) [.arg (aM a b),.v (nI n),.no,.no]=.nx [.arg (aM a b),.v (nI n),.own ((Iy n).map nI),.no]:=by
  unfold du;rw[yh (n:=n) (by omega) (ag 1) _ rfl]
  rfl
 have s2:du 3 (di (ah)) [.arg (aM a b),.v (nI n),.own ((Iy n).map nI),.no]=.nx [.arg (aM a b),.v (nI n),.own ((Iy n).map nI),.own []]:=by
  unfold du;rw[ka];simp only[ah,Iw];rw[dm (by simp)]
  rfl
 unfold gA tR sy;rw[r0,ay s1,ay s2];have e':xV (bx (aj qW (cJ 2) (di (ah)))) ph 16 [.arg (aM a b),.v (nI n),.own ((Iy n).map nI),.own []]=.nx [.arg (aM a' b'),.v (nI n),.own [],.own (o.map nI)]:=e
 rw[ay e'];simp[AJ,tW,lZ]
theorem aF {F:D->D->Option D}{f g:FE}{ρ:az}{x y:D}(h1:f ρ=some x)(h2:g ρ=some y):aj F f g ρ=F x y:=by unfold aj;rw[h1,Iw,h2,Iw]
theorem qf {F:D->D->Option D}{f g:GE}{ρ ρ1 ρ2:az}{x y d:D}(h1:f ρ=some (x,ρ1))(h2:g ρ1=some (y,ρ2))(h3:F x y=some d):ij F f g ρ=some (d,ρ2):=by
 unfold ij bE;rw[h1];dsimp only[L5];rw[h2];dsimp only[L5];rw[h3];rfl
theorem bY {i:Nat}{f:FE}{ρ:az}{d:D}(h:f ρ=some d):bj i f ρ=.nx (ρ.set i (.v d)):=by unfold bj;rw[h]
theorem i6 {i:Nat}{f:GE}{ρ ρ1:az}{d:D}(h:f ρ=some (d,ρ1)):gZ i f ρ=.nx (ρ1.set i (.v d)):=by unfold gZ;rw[h]
theorem AZ {i:Nat}{f:GE}{ρ ρ1:az}{ds:List D}(h:f ρ=some (.lst ds,ρ1)):ux i f ρ=.nx (ρ1.set i (.own ds)):=by unfold ux;rw[h];rfl
theorem gM {i:Nat}{f:FE}{ρ:az}{ds:List D}(h:f ρ=some (.lst ds)):du i f ρ=.nx (ρ.set i (.own ds)):=by unfold du;rw[h];rfl
theorem fS {f:FA}{ρ:az}{ds:List D}(h:f ρ=some ds)(h2:ds.length<=1000):dr f ρ=some (.tup ds):=by
 rw[Cz,h,Iw,dm h2]
theorem jc {f:FA}{ρ:az}{ds:List D}(h:f ρ=some ds)(h2:ds.length<=1000):di f ρ=some (.lst ds):=by
 rw[ka,h,Iw,dm h2]
theorem aG {f:FE}{fs:FA}{ρ:az}{d:D}{ds:List D}(h1:f ρ=some d)(h2:fs ρ=some ds):ab f fs ρ=some (d::ds):=by unfold ab;rw[h1,h2];rfl
theorem eM {F:List D->Option D}{f:FA}{ρ:az}{ds:List D}(h:f ρ=some ds):ak F f ρ=F ds:=by unfold ak;rw[h];rfl
theorem Dl {r:List Nat}{c:Nat}(h:c<r.length):qU (r.map nI) (c:Int)=some (nI (r.getD c 0)):=BA (by rw[JO,Iq h];simp[JL,h])
theorem Ah {r:List Nat}{c:Nat}(h:c<r.length):bd (.lst (r.map nI)) (nI c)=some (nI (r.getD c 0)):=Dl h
theorem h7 {r:List Nat}{c:Nat}(h:c<r.length):bd (.tup (r.map nI)) (nI c)=some (nI (r.getD c 0)):=Dl h
theorem pV(a b:Nat):dq (nI a) (nI b)=decide (a=b):=by
 rw[iR];rw[KO];simp;omega
theorem EA(a b:Nat):bM (nI a) (nI b)=some (nI (a+b)):=by rw[gy];simp
theorem GZ(a:Nat):bM (nI a) (.int 1)=some (nI (a+1)):=by rw[gy];simp
theorem CF {a n:Nat}(h:0<n):aS (nI a) (nI n)=some (nI (a % n)):=by rw[cg (by omega)];rfl
theorem gD {i:Nat}{fi:FE}{d:D}{ρ:az}{bs:List D}{j:Nat}(h1:gc i ρ=some bs)(h2:fi ρ=some (nI j))(h3:j<bs.length):bH i fi d ρ=some (fF i (bs.set j d) ρ):=by
 unfold bH;rw[h1];dsimp only;rw[h2];dsimp only;rw[iL h3]
theorem mR(x:List Nat)(j v:Nat):(x.map nI).set j (nI v)=(x.set j v).map nI:=by rw[List.map_set]
def tX(n:Nat)(r x:List Nat)(c:Nat):List Nat:=if x.getD c 0=r.getD c 0 then(x.set c (x.getD ((c+1) % n) 0)).set ((c+1) % n) (x.getD c 0) else x
abbrev wB:FS:=ax (bj 7 (aj aS (aj bM (ag 6) (aE (.int 1))) (ag 1)))
 (fP (bx (aj qZ (aj bd (cJ 5) (ag 6)) (aj bd (ag 4) (ag 6)))) (eR (gT 2 (iH (bH 5 (ag 6)) (iH (bH 5 (ag 7)) (mG)))) (pu (dr (ab (aj bd (cJ 5) (ag 7)) (ab (aj bd (cJ 5) (ag 6)) (ah)))))) (skip))
theorem yN(bg:List D)(p q:D)(n:Nat)(r x:List Nat)(c:Nat)(s7:Sl)(hr:r.length=n)(hx:x.length=n)(hc:c<n):
 wB [.arg bg,.v (nI n),.v p,.v q,.v (.lst (r.map nI)),.own (x.map nI),.v (nI c),s7]=.nx [.arg bg,.v (nI n),.v p,.v q,.v (.lst (r.map nI)),.own ((tX n r x c).map nI),.v (nI c),.v (nI ((c+1) % n))]:=by
 have hd:(c+1) % n<n:=Ls _ (by omega)
 have e1:bj 7 (aj aS (aj bM (ag 6) (aE (.int 1))) (ag 1)) [.arg bg,.v (nI n),.v p,.v q,.v (.lst (r.map nI)),.own (x.map nI),.v (nI c),s7]=.nx [.arg bg,.v (nI n),.v p,.v q,.v (.lst (r.map nI)),.own (x.map nI),.v (nI c),.v (nI ((c+1) % n))]:=
  (bY ((aF (aF (x:=nI c) (y:=.int 1) rfl rfl |>.trans (GZ c)) (y:=nI n) rfl).trans (CF (by omega)))).trans rfl
 unfold wB;rw[ay e1];have i1:aj bd (cJ 5) (ag 6) [.arg bg,.v (nI n),.v p,.v q,.v (.lst (r.map nI)),.own (x.map nI),.v (nI c),.v (nI ((c+1) % n))]=some (nI (x.getD c 0)):=(aF (x:=.lst (x.map nI)) (y:=nI c) rfl rfl).trans (Ah (by omega))
 have i2:aj bd (ag 4) (ag 6) [.arg bg,.v (nI n),.v p,.v q,.v (.lst (r.map nI)),.own (x.map nI),.v (nI c),.v (nI ((c+1) % n))]=some (nI (r.getD c 0)):=(aF (x:=.lst (r.map nI)) (y:=nI c) rfl rfl).trans (Ah (by omega))
 have i3:aj bd (cJ 5) (ag 7) [.arg bg,.v (nI n),.v p,.v q,.v (.lst (r.map nI)),.own (x.map nI),.v (nI c),.v (nI ((c+1) % n))]=some (nI (x.getD ((c+1) % n) 0)):=(aF (x:=.lst (x.map nI)) (y:=nI ((c+1) % n)) rfl rfl).trans (Ah (by omega))
 unfold fP bx;rw[aF i1 i2,lz (by rw[g6];omega),pV]
 by_cases e:x.getD c 0=r.getD c 0
 ·rw[decide_eq_true e]
  simp only[tQ];unfold eR;rw[lS (fS (aG i3 (aG i1 rfl)) (by simp))]
  simp only[gT,Jg,LX,iH];unfold tX;rw[if_pos e];rw[gD (bs:=x.map nI) (j:=c) rfl rfl (by simp;omega)]
  simp only[Iw];rw[gD (bs:=(x.map nI).set c (nI (x.getD ((c+1) % n) 0))) (j:=(c+1) % n) rfl rfl (by simp;omega)]
  simp only[Iw,mG,mR];rfl
 ·rw[decide_eq_false e]
  simp only[tQ,skip];unfold tX;rw[if_neg e]
theorem swap_perm(x:List Nat)(c d:Nat)(hc:c<x.length)(hd:d<x.length):((x.set c (x.getD d 0)).set d (x.getD c 0)).Perm x:=by
 have e:(x.toArray.swap c d (by simpa using hc) (by simpa using hd)).toList=(x.set c (x.getD d 0)).set d (x.getD c 0):=by
  simp[Array.toList_swap,JL,hc,hd]
 rw[<-e];have:=Array.swap_perm (xs:=x.toArray) (i:=c) (j:=d) (by simpa using hc) (by simpa using hd)
 simpa using (MN.mp this)
theorem uh {x:List Nat}(h:x.Nodup){i j:Nat}(hi:i<x.length)(hj:j<x.length)(e:x.getD i 0=x.getD j 0):i=j:=by
 have:x[i]=x[j]:=by simpa [JL,hi,hj] using e
 exact(RS h).mp this
theorem Ord.fix {n:Nat}{r x:List Nat}(or:Ord n r)(ox:Ord n x){c:Nat}(hc:c<n)(hn:2<=n):Ord n (tX n r x c)/\((∀i,i<c->x.getD i 0≠r.getD i 0)-> ∀i,i<c+1->(tX n r x c).getD i 0≠r.getD i 0):=by
 have lx:=ox.len
 have lr:=or.len
 have hd:(c+1) % n<n:=Ls _ (by omega)
 have gx: ∀i,i<n->x.getD i 0=x[i]! :=λi hi=>by simp[JL,lx,hi]
 unfold tX
 by_cases e:x.getD c 0=r.getD c 0
 ·rw[if_pos e]
  have ne:(c+1) % n≠c:=by
   by_cases h:c+1<n
   ·rw[MW h];omega
   ·rw[show c+1=n by omega,Nat.mod_self];omega
  refine⟨⟨(swap_perm x c _ (by omega) (by omega)).trans ox.perm⟩,λh i hi=>?_⟩
  have g:((x.set c (x.getD ((c+1) % n) 0)).set ((c+1) % n) (x.getD c 0)).getD i 0=if i=(c+1) % n then x.getD c 0 else if i=c then x.getD ((c+1) % n) 0 else x.getD i 0:=by
   simp only[JL,List.getElem?_set,P1]
   by_cases h1:(c+1) % n=i
   ·subst h1;simp[lx,hd]
   ·rw[if_neg h1,if_neg (JW h1)]
    by_cases h2:c=i
    ·subst h2;simp[lx,hc]
    ·rw[if_neg h2,if_neg (JW h2)]
  rw[g]
  by_cases h1:i=(c+1) % n
  ·rw[if_pos h1,e]
   intro z;have:=uh or.nd (by omega) (by omega) z
   omega
  ·rw[if_neg h1]
   by_cases h2:i=c
   ·rw[if_pos h2,h2,<-e]
    intro z;have:=uh ox.nd (by omega) (by omega) z
    omega
   ·rw[if_neg h2];exact h i (by omega)
 ·rw[if_neg e]
  refine⟨ox,λh i hi=>?_⟩
  by_cases hic:i=c
  ·subst hic;exact e
  ·exact h i (by omega)
theorem C0(bg:List D)(p q:D){n:Nat}{r:List Nat}(or:Ord n r)(hn:2<=n): ∀(k c:Nat) (x:List Nat) (s6 s7:Sl),c+k=n->Ord n x->(∀i,i<c->x.getD i 0≠r.getD i 0)->
 ∃(x':List Nat) (s6' s7':Sl),dP (gN 6) wB ((WG c k).map nI) [.arg bg,.v (nI n),.v p,.v q,.v (.lst (r.map nI)),.own (x.map nI),s6,s7]=.nx [.arg bg,.v (nI n),.v p,.v q,.v (.lst (r.map nI)),.own (x'.map nI),s6',s7']/\Ord n x'/\ ∀i,i<n->x'.getD i 0≠r.getD i 0
 |0,c,x,s6,s7,h,ox,hi=>⟨x,s6,s7,rfl,ox,λi h'=>hi i (by omega)⟩
 |k+1,c,x,s6,s7,h,ox,hi=>by
  obtain⟨o1,o2⟩:=or.fix ox (c:=c) (by omega) hn
  obtain⟨x',a,b,e,o3,o4⟩:=C0 bg p q or hn k (c+1) (tX n r x c) (.v (nI c)) (.v (nI ((c+1) % n))) (by omega) o1 (o2 hi)
  refine⟨x',a,b,?_,o3,o4⟩
  rw[R5,Ix];unfold dP;have:gN 6 (nI c) [.arg bg,.v (nI n),.v p,.v q,.v (.lst (r.map nI)),.own (x.map nI),s6,s7]=some [.arg bg,.v (nI n),.v p,.v q,.v (.lst (r.map nI)),.own (x.map nI),.v (nI c),s7]:=rfl
  rw[this];dsimp only;rw[yN bg p q n r x c s7 or.len ox.len (by omega)]
  exact e
theorem eY {α:Type}{g:FG}{f:FE}{ρ0:az}{h o:α->D}: ∀(l:List α),(∀i∈l,∃ρ1,g (h i) ρ0=some ρ1/\f ρ1=some (o i))->cz g eT f ρ0 (l.map h)=some (l.map o)
 | [],_=>rfl
 |a::l,H=>by
  obtain⟨ρ1,h1,h2⟩:=H a (by simp)
  have ih:=eY l λi hi=>H i (by simp[hi])
  rw[Ix];unfold cz;rw[h1,Iw];simp only[eT,Iw,if_true,h2,ih];rfl
theorem fu {m:Nat}{gi:FA}{g:FG}{p:FT}{f:FE}{ρ:az}{ds ys:List D}(h1:gi ρ=some ds)(h2:ds.length<=1000)(h3:cz g p f (ρ++IC m .no) ds=some ys):bP m gi g p f ρ=some (.lst ys):=by
 rw[yG,h1,Iw,dm h2,Iw,h3];rfl
theorem Bo: ∀n,2<=n->n<=6-> ∀b,1<=b->b<n->Ord n ((Iy n).map λi=>(i+b) % n):=by
 intro n h1 h2 b h3 h4;refine⟨?_⟩
 have: ∀n:_root_.Fin 7,∀b:_root_.Fin 7,((Iy n.val).map λi=>(i+b.val) % n.val).isPerm (Iy n.val)=true\/ ¬(b.val<n.val):=by decide
 rcases this ⟨n,by omega⟩ ⟨b,by omega⟩ with h|h
 ·exact List.isPerm_iff.mp h
 ·exact absurd h4 h
abbrev aw(r:List Nat):D:=.tup (r.map nI)
abbrev dA(r x:List Nat):D:=.tup [aw r,aw x]
structure Sq(n:Nat)(r x:List Nat):Prop where
 hr:Ord n r
 hx:Ord n x
 ne: ∀i,i<n->x.getD i 0≠r.getD i 0
theorem fN {f:FA}{ρ:az}{n:Nat}(h:f ρ=some [nI n])(hn:n<=1000):bQ f ρ=some ((Iy n).map nI):=by
 rw[rR,h,Iw,rX (by omega),AG];rfl
theorem Ii {j:Int}(h:0<=j):D.int j=nI j.toNat:=by show D.int j=D.int (j.toNat:Int);rw[Int.toNat_of_nonneg h]
theorem Dm {n:Nat}{P:List D->Option D}{ds:List D}(h:ds.length=n):nF n P ds=P ds:=if_pos h
theorem ui {g:FG}{f:GE}{ρ ρ1 ρ2:az}{d:D}(h1:f ρ=some (d,ρ1))(h2:g d ρ1=some ρ2):eR g f ρ=.nx ρ2:=by unfold eR;rw[h1];dsimp only;rw[h2];rfl
theorem cf {n:Nat}{P:List D->Option D}{fs:FA}{ρ:az}{ds:List D}(h:fs ρ=some ds)(hl:ds.length=n):ak (nF n P) fs ρ=P ds:=(eM h).trans (Dm hl)
theorem rA {F:List D->Option D}{fs:GA}{ρ ρ1:az}{ds:List D}{d:D}(h:fs ρ=some (ds,ρ1))(h2:F ds=some d):gn F fs ρ=some (d,ρ1):=by unfold gn;rw[h];dsimp only[L5];rw[h2];rfl
theorem DM {n:Nat}{P:List D->Option D}{fs:GA}{ρ ρ1:az}{ds:List D}{d:D}(h:fs ρ=some (ds,ρ1))(hl:ds.length=n)(h2:P ds=some d):gn (nF n P) fs ρ=some (d,ρ1):=rA h ((Dm hl).trans h2)
theorem ca {kd:Kd}{n:Nat}{t:FS}{ds:List D}{ρ:az}{d:D}(h:t (ou n ds)=.rt d ρ):gm kd n t ds=some d:=by unfold gm;rw[h]
theorem bB {f:FE}{ρ:az}{d:D}(h:f ρ=some d):aV f ρ=.rt d ρ:=by unfold aV;rw[h]
theorem C3 {ks:List (List Int)}(h:ks.length<64)(hk: ∀k∈ks,k≠[]):gL [.lst (ks.map bD)]=some (.lst ((aR aW ks).map bD)):=by
 show(jq (ks.map bD)).map D.lst=_;unfold jq;rw[if_pos (by simpa using h)]
 cases ks with
 |nil=>rfl
 |cons k ks=>
  rw[xE];dsimp only;rw[rH hk];rfl
theorem qd: ∀bs:List Bool,gE (bs.map D.bl)=some bs
 | []=>rfl
 |b::r=>by show(gE (r.map D.bl)).map (b:: ·)=_;rw[qd r];rfl
theorem vC(bs:List Bool):ug [.lst (bs.map D.bl)]=some (.bl (bs.any id)):=by
 show(gE (bs.map D.bl)).map (λbs=>D.bl (bs.any id))=_
 rw[qd];rfl
theorem B6(bs:List Bool):CS [.lst (bs.map D.bl)]=some (.bl (bs.all id)):=by
 show(gE (bs.map D.bl)).map (λbs=>D.bl (bs.all id))=_
 rw[qd];rfl
theorem rP {p:FT}{t u:FS}{ρ:az}(h:p ρ=some false):fP p t u ρ=u ρ:=by unfold fP;rw[h]
theorem sW {p:FT}{t u:FS}{ρ:az}(h:p ρ=some true):fP p t u ρ=t ρ:=by unfold fP;rw[h]
theorem C4 {p:GT}{t u:FS}{ρ ρ1:az}(h:p ρ=some (false,ρ1)):BV p t u ρ=u ρ1:=by unfold BV;rw[h]
theorem Gi {p:GT}{t u:FS}{ρ ρ1:az}(h:p ρ=some (true,ρ1)):BV p t u ρ=t ρ1:=by unfold BV;rw[h]
theorem BK {p:GT}{ρ ρ1:az}{b:Bool}(h:p ρ=some (b,ρ1)):zb p ρ=some (!b,ρ1):=by unfold zb;rw[h];rfl
theorem Ce {f:GE}{ρ ρ1:az}{b:Bool}(h:f ρ=some (.bl b,ρ1)):yI f ρ=some (b,ρ1):=by unfold yI;rw[h];rfl
theorem zC {p q:FT}{ρ:az}{b:Bool}(h1:p ρ=some false)(h2:q ρ=some b):wt p q ρ=some b:=by unfold wt;rw[h1];exact h2
theorem Dj {p q:FT}{ρ:az}(h1:p ρ=some true):wt p q ρ=some true:=by unfold wt;rw[h1];rfl
theorem vm {p q:FT}{ρ:az}{b:Bool}(h1:p ρ=some true)(h2:q ρ=some b):fQ p q ρ=some b:=by unfold fQ;rw[h1];exact h2
theorem E7 {p q:FT}{ρ:az}(h1:p ρ=some false):fQ p q ρ=some false:=by unfold fQ;rw[h1];rfl
theorem me {p q:FT}{ρ:az}{a b:Bool}(h1:p ρ=some a)(h2:a=true->q ρ=some b)(h3:a=false->b=false):fQ p q ρ=some b:=by
 cases a with
 |true=>exact vm h1 (h2 rfl)
 |false=>rw[h3 rfl];exact E7 h1
theorem kE {p:FT}{ρ:az}{b:Bool}(h:p ρ=some b):tm p ρ=some (.bl b):=by unfold tm;rw[h];rfl
theorem rQ {f:GE}{ρ ρ1:az}{d:D}(h:f ρ=some (d,ρ1)):cH f ρ=.nx ρ1:=by unfold cH;rw[h]
theorem cw {f:FE}{ρ:az}{b:Bool}(h:f ρ=some (.bl b)):bx f ρ=some b:=by unfold bx;rw[h];rfl
theorem m6 {f:FE}{ρ:az}{b:Bool}(h:f ρ=some (.bl b)):kr f ρ=some b:=by unfold kr;rw[h];rfl
theorem lj {p:FT}{ρ:az}{b:Bool}(h:p ρ=some b):je p ρ=some (!b):=by unfold je;rw[h];rfl
theorem wq {x:D}(h:cV x<=32):qW x x=some (.bl false):=by rw[p7 h,jV];rfl
theorem vU {x:D}(h:cV x<=32):qZ x x=some (.bl true):=by rw[lz h,jV]
theorem fo {g:FG}{b:FS}{d:D}{r:List D}{ρ ρ1 ρ2:az}(h1:g d ρ=some ρ1)(h2:b ρ1=.nx ρ2):dP g b (d::r) ρ=dP g b r ρ2:=by
 show(match g d ρ with
  |none=>Out.no
  |some ρ1=>match b ρ1 with
   | .nx ρ2=>dP g b r ρ2
   | .ct ρ2=>dP g b r ρ2
   | .bk ρ2=>.nx ρ2
   | .rt d ρ2=>.rt d ρ2
   | .no=>.no)=_
 rw[h1];dsimp only;rw[h2]
theorem eV {f:GA}{g:FG}{b:FS}{ρ ρ1:az}{ds:List D}(h:f ρ=some (ds,ρ1)):dE f g b ρ=dP g b ds ρ1:=by unfold dE;rw[h]
theorem vp {f:FE}{ρ:az}{ds:List D}(h:f ρ=some (.lst ds)):fM f ρ=some ds:=by unfold fM;rw[h];rfl
theorem qC {kd:Kd}{n:Nat}{t:FS}{ds:List D}{d:D}(h: ∃ρ,t (ou n ds)=.rt d ρ):gm kd n t ds=some d:=let⟨_,h⟩:=h;ca h
theorem Dw {t u:FS}{ρ:az}{d:D}(P:az->Prop)(h: ∃ρ',t ρ=.nx ρ'/\P ρ')(hu: ∀ρ',P ρ'-> ∃ρ'',u ρ'=.rt d ρ''): ∃ρ'',ax t u ρ=.rt d ρ'':=by
 obtain⟨ρ',h1,h2⟩:=h
 obtain⟨ρ'',h3⟩:=hu ρ' h2
 exact⟨ρ'',(ay h1).trans h3⟩
theorem AU {f:GA}{g:FG}{b:FS}{ρ ρ1:az}{ds:List D}{P:az->Prop}(h:f ρ=some (ds,ρ1))(hl: ∃ρ',dP g b ds ρ1=.nx ρ'/\P ρ'): ∃ρ',dE f g b ρ=.nx ρ'/\P ρ':=by
 obtain⟨ρ',h1,h2⟩:=hl
 exact⟨ρ',(eV h).trans h1,h2⟩
theorem wa {g:FG}{b:FS}{P:az->Prop}: ∀(l:List D),(∀d∈l,∀ρ,P ρ-> ∃ρ1 ρ2,g d ρ=some ρ1/\b ρ1=.nx ρ2/\P ρ2)-> ∀ρ,P ρ-> ∃ρ',dP g b l ρ=.nx ρ'/\P ρ'
 | [],_,ρ,p=>⟨ρ,rfl,p⟩
 |d::l,h,ρ,p=>by
  obtain⟨ρ1,ρ2,h1,h2,p2⟩:=h d (by simp) ρ p
  obtain⟨ρ',e,p'⟩:=wa l (λd' hd=>h d' (by simp[hd])) ρ2 p2
  exact⟨ρ',(fo h1 h2).trans e,p'⟩
theorem Db(i:Int){n:Nat}(h:0<n):(i % (n:Int)).toNat<n/\(((i % (n:Int)).toNat:Nat):Int)=i % n:=by
 have:=cx (i:=i) (m:=n) (by omega)
 omega
theorem Aw {i:Nat}{fs:GA}{ρ ρ1:az}{b0 bs:List D}{d:D}(h0:gc i ρ=some b0)(h1:fs ρ=some ([d],ρ1))(h2:gc i ρ1=some bs)(h3:bs.length<=900):cH (aN i 1 kT fs) ρ=.nx (fF i (bs++[d]) ρ1):=
 rQ (bL h0 h1 h2 rfl (by rw[wo,oT (by omega)]))
theorem kP {α:Type}{g:FG}{p:FT}{f:FE}{ρ0:az}{h o:α->D}{q:α->Bool}: ∀(l:List α),(∀i∈l,∃ρ1,g (h i) ρ0=some ρ1/\p ρ1=some (q i)/\(q i=true->f ρ1=some (o i)))->cz g p f ρ0 (l.map h)=some ((l.filter q).map o)
 | [],_=>rfl
 |a::l,H=>by
  obtain⟨ρ1,h1,h2,h3⟩:=H a (by simp)
  have ih:=kP l λi hi=>H i (by simp[hi])
  rw[Ix];unfold cz;rw[h1,Iw,h2,Iw];cases e:q a with
  |true=>rw[if_pos rfl,h3 e,Iw,ih];simp[e]
  |false=>rw[if_neg (by simp),ih];simp[e]
theorem hV {α:Type}{g:FG}{p:FT}{A:FA}{ρ0:az}{h:α->D}{q:α->Bool}{o:α->List D}: ∀(l:List α),(∀i∈l,∃ρ1,g (h i) ρ0=some ρ1/\p ρ1=some (q i)/\(q i=true->A ρ1=some (o i)))->mx g p A ρ0 (l.map h)=some ((l.filter q).flatMap o)
 | [],_=>rfl
 |a::l,H=>by
  obtain⟨ρ1,h1,h2,h3⟩:=H a (by simp)
  have ih:=hV l λi hi=>H i (by simp[hi])
  rw[Ix];unfold mx;rw[h1,Iw,h2,Iw];cases e:q a with
  |true=>rw[if_pos rfl,h3 e,Iw,ih];simp[e]
  |false=>rw[if_neg (by simp),ih];simp[e]
theorem qy {f:FE}{ρ:az}{d:D}(h:f ρ=some d):sj f ρ=some [d]:=by unfold sj;rw[h];rfl
theorem vR {m:Nat}{gi1 gi2:FA}{g1 g2:FG}{p1 p2:FT}{f:FE}{ρ:az}{ds ys:List D}(h1:gi1 ρ=some ds)(h2:mx g1 p1 (zn gi2 g2 p2 f) (ρ++IC m .no) ds=some ys)(h3:ys.length<=1000):ly m gi1 g1 p1 gi2 g2 p2 f ρ=some (.lst ys):=by
 unfold ly;rw[h1,Iw,h2,Iw,if_pos (Mr (iW h3))]
theorem uH {gi:FA}{g:FG}{p:FT}{f:FE}{ρ:az}{ds ys:List D}(h1:gi ρ=some ds)(h2:mx g p (sj f) ρ ds=some ys):zn gi g p f ρ=some ys:=by
 unfold zn;rw[h1,Iw,h2]
theorem iz(r:List Nat)(ρ:az)(f:FE)(h:f ρ=some (aw r)):ak cE (ab f ah) ρ=some (nI r.length):=by
 rw[eM (aG h rfl)];show some (D.int ((r.map nI).length:Int))=_;rw[Iu]
theorem Cr(a b:Nat):dn (nI a) (nI b)=some (.int ((a:Int) -b)):=Ab _ _
theorem Ge {i:Int}{n:Nat}(h:0<n):aS (.int i) (nI n)=some (nI (i % n).toNat):=by
 rw[cg (by omega),Ii (cx (i:=i) (m:=n) (by omega)).1]
theorem zq(L:List Nat)(c:Nat):(L.map nI).any (λd=>dq d (nI c))=decide (c∈L):=by
 induction L with
 |nil=>simp
 |cons a L ih=>
  rw[Ix,Lk,ih,pV,KO];simp only[Ng,decide_eq_true_eq,Jn];exact or_congr_left eq_comm
theorem HZ(L:List Nat)(c:Nat):lW false (nI c) (.lst (L.map nI))=some (.bl (decide (c∈L))):=by
 unfold lW kn;dsimp only;rw[mH,if_pos (by omega),zq]
 rfl
def de:FS:=
 ax (du 3 (ak j5 (ab (ag 0) (ah))))
 (ax (eR (gT 2 (iH (bH 3 (ag 1)) (iH (bH 3 (ag 2)) (mG)))) (pu (dr (ab (aj bd (ag 0) (ag 2)) (ab (aj bd (ag 0) (ag 1)) (ah))))))
 (aV (ak dz (ab (cJ 3) (ah)))))
def fE:List D->Option D:=gm .s 4 de
def fO:FS:=
 aV (bP 1 (bQ (ab (aj aS (aj dn (ag 2) (ag 1)) (ag 0)) (ah))) (gN 3) (eT) (aj aS (aj bM (ag 1) (ag 3)) (ag 0)))
def fw:List D->Option D:=gm .n 3 fO
def gj:FS:=
 aV (ak (nF 3 fw) (ab (ak cE (ab (ag 0) (ah))) (ab (ag 1) (ab (ag 2) (ah)))))
def eF:List D->Option D:=gm .n 3 gj
def jt:FS:=
 aV (ak (nF 3 fw) (ab (ak cE (ab (ag 0) (ah))) (ab (aj bd (ag 0) (ag 1)) (ab (aj bd (ag 0) (ag 2)) (ah)))))
def jB:List D->Option D:=gm .n 3 jt
def iA:FS:=
 ax (bj 3 (ak (nF 3 jB) (ab (ag 0) (ab (ag 1) (ab (ag 2) (ah))))))
 (aV (ak gL (ab (ly 2 (fM (ak (nF 3 eF) (ab (ag 0) (ab (ag 1) (ab (ag 2) (ah)))))) (gN 4) (eT) (fM (ag 3)) (gN 5) (eT) (dr (ab (ag 4) (ab (ag 5) (ah))))) (ah))))
def iu:List D->Option D:=gm .n 4 iA
def kO:FS:=
 aV (ak (nF 3 fE) (ab (ag 0) (ab (ag 1) (ab (ag 2) (ah)))))
def pE:List D->Option D:=gm .s 3 kO
def jy:FS:=
 ax (bj 3 (tF (ak (nF 3 eF) (ab (ag 0) (ab (ag 1) (ab (ag 2) (ah))))) (EF (aE (.int 1))) Fi))
 (ax (bj 4 (tF (ak (nF 3 jB) (ab (ag 0) (ab (ag 1) (ab (ag 2) (ah))))) (EF (aE (.int 1))) Fi))
 (aV (tm (je (bx (ak ug (ab (bP 1 (fM (ag 3)) (gN 5) (eT) (aj (lW false) (aj bd (ag 0) (ag 5)) (ag 4))) (ah))))))))
def m9:List D->Option D:=gm .s 5 jy
def iB:FS:=
 ax (eR (gT 2 (iH (gN 4) (iH (gN 5) (mG)))) (pu (ag 0)))
 (ax (bj 6 (bP 2 (fM (ak (nF 3 iu) (ab (ag 1) (ab (ag 2) (ab (ag 3) (ah)))))) (gT 2 (iH (gN 7) (iH (gN 8) (mG)))) (eT) (aj (lW false) (ag 8) (dr (ab (aj bd (ag 4) (ag 7)) (ab (aj bd (ag 5) (ag 7)) (ah)))))))
 (aV (tm (je (bx (ak ug (ab (ag 6) (ah))))))))
def lK:List D->Option D:=gm .s 7 iB
def js:FS:=
 aV (tm (fQ (bx (ak (nF 3 m9) (ab (ag 1) (ab (ag 2) (ab (ag 3) (ah)))))) (bx (ak (nF 4 lK) (ab (ag 0) (ab (ag 1) (ab (ag 2) (ab (ag 3) (ah)))))))))
def nM:List D->Option D:=gm .s 4 js
def gl:FS:=
 ax (bj 2 (xX (ak cE (ab (ag 1) (ah)))))
 (aV (ly 2 (fM (ag 2)) (gN 3) (eT) (fM (ag 2)) (gN 4) (fQ (bx (aj qW (ag 3) (ag 4))) (kr (ak (nF 4 nM) (ab (ag 0) (ab (ag 1) (ab (ag 3) (ab (ag 4) (ah)))))))) (dr (ab (ag 3) (ab (ag 4) (ab (ak (nF 3 pE) (ab (ag 1) (ab (ag 3) (ab (ag 4) (ah))))) (ah)))))))
def og:List D->Option D:=gm .n 3 gl
def fR(n s e:Nat):List Nat:=(Iy (((e:Int) -s) % n).toNat).map λ(i:Nat)=>(s+i) % n
def lG(n s e x:Nat):Bool:=decide (((x:Int) -s) % n<((e:Int) -s) % n)
def pQ(n s e:Nat):List Nat:=(Iy n).filter (lG n s e)
theorem qM {n:Nat}(h:0<n)(s e:Nat):(fR n s e).length<n:=by
 unfold fR;rw[Iu,Lo];exact(Db _ h).1
theorem jQ {n:Nat}(h:0<n){s:Nat}(hs:s<n)(e x:Nat):x∈fR n s e↔x<n/\lG n s e x=true:=by
 unfold fR lG;rw[Jd,decide_eq_true_eq];have m:=Db ((e:Int) -s) h
 constructor
 ·rintro⟨i,hi,rfl⟩
  rw[Ja] at hi;refine⟨Ls _ h,?_⟩
  rw[NW,Int.emod_sub_emod,show(((s+i:Nat):Int) -s)=i by omega,ND (by omega) (by omega)]
  omega
 ·rintro⟨hx,hb⟩
  have m2:=Db ((x:Int) -s) h
  refine⟨(((x:Int) -s) % n).toNat,by rw[Ja];omega,?_⟩
  have:(((s+(((x:Int) -s) % n).toNat) % n:Nat):Int)=x:=by
   rw[NW,P4,m2.2,Int.add_emod_emod,show(s:Int)+((x:Int) -s)=x by omega,ND (by omega) (by omega)]
  omega
theorem pI {n:Nat}(h:0<n)(s e:Nat):(fR n s e).Nodup:=by
 unfold fR;have m:=Db ((e:Int) -s) h
 show List.Pairwise (·≠ ·) _
 rw[KB];refine M4 (λ{i j} hi hj hlt e=>?_) Ly
 rw[Ja] at hi hj;have:(((s+i) % n:Nat):Int)=(((s+j) % n:Nat):Int):=by rw[e]
 rw[NW,NW,P4,P4,Vj (s:Int),Vj (s:Int),Int.emod_add_cancel_right,ND (by omega) (by omega),ND (by omega) (by omega)] at this
 omega
theorem plF_mem {n s e x:Nat}:x∈pQ n s e↔x<n/\lG n s e x=true:=by unfold pQ;rw[JU,Ja]
theorem tz {n:Nat}(h:0<n){s:Nat}(hs:s<n)(e:Nat):(fR n s e).Perm (pQ n s e):=
 (J7 (pI h s e) (ML _ Mg)).mpr λx=>(jQ h hs e x).trans plF_mem.symm
def dJ(A B:List Nat):List (List Int):=A.flatMap λ(a:Nat)=>B.map λ(b:Nat)=>[(a:Int),(b:Int)]
theorem pk {α β:Type}{f g:α->List β}: ∀(l:List α),(∀a∈l,(f a).Perm (g a))->(l.flatMap f).Perm (l.flatMap g)
 | [],_=>.refl _
 |a::l,h=>by
  rw[J6,J6];exact(h a (by simp)).append (pk l λb hb=>h b (by simp[hb]))
theorem uN {A A' B B':List Nat}(h1:A.Perm A')(h2:B.Perm B'):(dJ A B).Perm (dJ A' B'):=
 (pk A λa _=>h2.map _).trans (List.Perm.flatMap_right _ h1)
theorem ye {A B:List Nat}(hA:A.Pairwise (·< ·))(hB:B.Pairwise (·< ·)):(dJ A B).Pairwise (λa b=>aW b a=false):=by
 unfold dJ;rw[List.pairwise_flatMap];refine⟨λa _=>?_,hA.imp λ{a a'} hlt x hx y hy=>?_⟩
 ·rw[KB]
  refine hB.imp λ{b b'} hlt=>?_
  unfold aW aW;rw[if_pos rfl,if_neg (by omega)]
  simp only[decide_eq_false_iff_not];omega
 ·obtain⟨b,_,rfl⟩:=Jd.mp hx
  obtain⟨b',_,rfl⟩:=Jd.mp hy
  unfold aW;rw[if_neg (by omega)]
  simp only[decide_eq_false_iff_not];omega
theorem y8(n s e:Nat):(pQ n s e).Pairwise (·< ·):=ML _ Ly
theorem vf {n:Nat}(h:0<n){a sa:Nat}(ha:a<n)(hs:sa<n)(b sb:Nat):aR aW (dJ (fR n a b) (fR n sa sb))=dJ (pQ n a b) (pQ n sa sb):=
 (jd lt_L (uN (tz h ha b) (tz h hs sb)).symm (ye (y8 _ _ _) (y8 _ _ _))).symm
theorem pJ(A B:List Nat):(dJ A B).length=A.length*B.length:=by
 unfold dJ
 induction A with
 |nil=>simp
 |cons a A ih=>rw[J6,IR,Iu,ih,Jg,Qi,Ss,Vk]
theorem AQ(A B:List Nat): ∀k∈dJ A B,k≠[]:=λk hk=>by
 unfold dJ at hk;obtain⟨a,_,hk⟩:=LG.mp hk
 obtain⟨b,_,rfl⟩:=Jd.mp hk
 simp
theorem oP {n s e:Nat}(h:0<n)(hn:n<=900):fw [nI n,nI s,nI e]=some (.lst ((fR n s e).map nI)):=by
 apply ca (kd:=.n) (n:=3) (t:=fO)
 unfold fO;have m:=Db ((e:Int) -s) h
 refine bB (fu (ds:=(Iy (((e:Int) -s) % n).toNat).map nI) (fN (aG ((aF ((aF (x:=nI e) (y:=nI s) rfl rfl).trans (Cr _ _)) (y:=nI n) rfl).trans (Ge h)) rfl) (by omega)) (by simp;omega) ?_)
 refine(eY (h:=nI) (o:=λ(i:Nat)=>nI ((s+i) % n)) _ λi hi=>⟨_,rfl,?_⟩).trans (by unfold fR;rw[I0];rfl)
 exact(aF ((aF (x:=nI s) (y:=nI i) rfl rfl).trans (EA _ _)) (y:=nI n) rfl).trans (CF h)
theorem vz {n:Nat}{o:List Nat}(ho:o.length=n)(h:0<n)(hn:n<=900)(a b:Nat):eF [aw o,nI a,nI b]=some (.lst ((fR n a b).map nI)):=by
 apply ca (kd:=.n) (n:=3) (t:=gj)
 unfold gj;exact bB ((cf (ds:=[nI n,nI a,nI b]) (aG (by rw[iz o _ _ rfl,ho]) rfl) rfl).trans (oP h hn))
theorem wF {n:Nat}{o:List Nat}(ho:o.length=n)(h:0<n)(hn:n<=900){a b:Nat}(ha:a<n)(hb:b<n):jB [aw o,nI a,nI b]=some (.lst ((fR n (o.getD a 0) (o.getD b 0)).map nI)):=by
 apply ca (kd:=.n) (n:=3) (t:=jt)
 unfold jt;exact bB ((cf (ds:=[nI n,nI (o.getD a 0),nI (o.getD b 0)]) (aG (by rw[iz o _ _ rfl,ho]) (aG ((aF (x:=aw o) (y:=nI a) rfl rfl).trans (h7 (by omega))) (aG ((aF (x:=aw o) (y:=nI b) rfl rfl).trans (h7 (by omega))) rfl))) rfl).trans (oP h hn))
def u9(o:List Nat)(a b:Nat):List (List Int):=dJ (pQ o.length a b) (pQ o.length (o.getD a 0) (o.getD b 0))
theorem z6 {n:Nat}{o:List Nat}(O:Ord n o)(h:0<n)(hn:n<=8){a b:Nat}(ha:a<n)(hb:b<n):iu [aw o,nI a,nI b]=some (.lst ((u9 o a b).map bD)):=by
 have ho:=O.len
 apply ca (kd:=.n) (n:=4) (t:=iA)
 unfold iA;refine(ay (ρ':=[.v (aw o),.v (nI a),.v (nI b),.v (.lst ((fR n (o.getD a 0) (o.getD b 0)).map nI))]) ((bY ((cf (ds:=[aw o,nI a,nI b]) rfl rfl).trans (wF ho h (by omega) ha hb))).trans rfl)).trans ?_
 have hs:o.getD a 0<n:=by
  have:o.getD a 0=o[a]'(by omega):=by simp[JL,ho,ha]
  rw[this];exact O.lt (MX _)
 have l1:=qM h a b
 have l2:=qM h (o.getD a 0) (o.getD b 0)
 have hlen:(dJ (fR n a b) (fR n (o.getD a 0) (o.getD b 0))).length<=49:=by
  rw[pJ];exact MO (show _<=7 by omega) (show _<=7 by omega)
 have c1:ly 2 (fM (ak (nF 3 eF) (ab (ag 0) (ab (ag 1) (ab (ag 2) (ah)))))) (gN 4) (eT) (fM (ag 3)) (gN 5) (eT) (dr (ab (ag 4) (ab (ag 5) (ah)))) [.v (aw o),.v (nI a),.v (nI b),.v (.lst ((fR n (o.getD a 0) (o.getD b 0)).map nI))]=some (.lst ((dJ (fR n a b) (fR n (o.getD a 0) (o.getD b 0))).map bD)):=by
  refine vR (ds:=(fR n a b).map nI) (vp ((cf (ds:=[aw o,nI a,nI b]) rfl rfl).trans (vz ho h (by omega) a b))) ?_ (by rw[Iu];omega)
  refine(hV (h:=nI) (q:=λ_=>true) (o:=λ(x:Nat)=>(fR n (o.getD a 0) (o.getD b 0)).map λ(y:Nat)=>D.tup [nI x,nI y]) (fR n a b) λx hx=>⟨_,rfl,rfl,λ_=>?_⟩).trans ?_
  ·refine uH (ds:=(fR n (o.getD a 0) (o.getD b 0)).map nI) rfl ?_
   refine(hV (h:=nI) (q:=λ_=>true) (o:=λ(y:Nat)=>[D.tup [nI x,nI y]]) (fR n (o.getD a 0) (o.getD b 0)) λy hy=>⟨_,rfl,rfl,λ_=>qy (fS rfl (by simp))⟩).trans ?_
   rw[Lw.mpr (λ_ _=>rfl)]
   congr 1
   induction (fR n (o.getD a 0) (o.getD b 0)) with
   |nil=>rfl
   |cons y l ih=>rw[J6,ih];rfl
  ·rw[Lw.mpr (λ_ _=>rfl)]
   unfold dJ;rw[LH];congr 2
   funext x;rw[I0];rfl
 refine bB ?_
 rw[eM (aG c1 rfl),C3 (by omega) (AQ _ _),vf h ha hs]
 unfold u9;rw[ho]
def ki(o:List Nat)(a b:Nat):List Nat:=(o.set a (o.getD b 0)).set b (o.getD a 0)
theorem A6 {n:Nat}{o:List Nat}(ho:o.length=n){a b:Nat}(ha:a<n)(hb:b<n):fE [aw o,nI a,nI b]=some (aw (ki o a b)):=by
 apply ca (kd:=.s) (n:=4) (t:=de)
 unfold de;refine(ay (ρ':=[.v (aw o),.v (nI a),.v (nI b),.own (o.map nI)]) ((gM (ds:=o.map nI) rfl).trans rfl)).trans ?_
 refine(ay (ρ':=[.v (aw o),.v (nI a),.v (nI b),.own ((ki o a b).map nI)]) (ui (lS (fS (aG ((aF (x:=aw o) (y:=nI b) rfl rfl).trans (h7 (by omega))) (aG ((aF (x:=aw o) (y:=nI a) rfl rfl).trans (h7 (by omega))) rfl)) (by simp))) ?_)).trans (bB rfl)
 simp only[gT,Jg,LX,iH];rw[gD (bs:=o.map nI) (j:=a) rfl rfl (by simp;omega)]
 simp only[Iw];rw[gD (bs:=(o.map nI).set a (nI (o.getD b 0))) (j:=b) rfl rfl (by simp;omega)]
 simp only[Iw,mG,mR];rfl
theorem xt {n:Nat}{o:List Nat}(ho:o.length=n){a b:Nat}(ha:a<n)(hb:b<n):pE [aw o,nI a,nI b]=some (aw (ki o a b)):=by
 apply ca (kd:=.s) (n:=3) (t:=kO)
 unfold kO;exact bB ((cf (ds:=[aw o,nI a,nI b]) rfl rfl).trans (A6 ho ha hb))
theorem HD(l:List Nat):uZ (l.map nI) (some 1) none=(l.drop 1).map nI:=by
 unfold uZ;rw[HT.sIx_none,show(some (1:Int))=some ((1:Nat):Int) from rfl,HT.sIx_nat];cases l with
 |nil=>rfl
 |cons x r=>
  rw[Iu,show min 1 (x::r).length=1 by simp,Ix,On,Qv,On,Qv]
  rw[K4 (by simp)]
def oJ(o:List Nat)(a b:Nat):Bool:= !((fR o.length a b).drop 1).any λx=>decide (o.getD x 0∈(fR o.length (o.getD a 0) (o.getD b 0)).drop 1)
theorem Bm {n:Nat}{o:List Nat}(ho:o.length=n)(h:0<n)(hn:n<=900){a b:Nat}(ha:a<n)(hb:b<n):m9 [aw o,nI a,nI b]=some (.bl (oJ o a b)):=by
 apply ca (kd:=.s) (n:=5) (t:=jy)
 unfold jy;have sl: ∀(l:List Nat) (f:FE) (ρ:az),f ρ=some (.lst (l.map nI))->tF f (EF (aE (.int 1))) Fi ρ=some (.lst ((l.drop 1).map nI)):=λl f ρ e=>by
  unfold tF;rw[e];show some (D.lst (uZ (l.map nI) (some 1) none))=_;rw[HD]
 refine(ay (ρ':=[.v (aw o),.v (nI a),.v (nI b),.v (.lst (((fR n a b).drop 1).map nI)),.no]) ((bY (sl _ _ _ ((cf (ds:=[aw o,nI a,nI b]) rfl rfl).trans (vz ho h hn a b)))).trans rfl)).trans ?_
 refine(ay (ρ':=[.v (aw o),.v (nI a),.v (nI b),.v (.lst (((fR n a b).drop 1).map nI)),.v (.lst (((fR n (o.getD a 0) (o.getD b 0)).drop 1).map nI))]) ((bY (sl _ _ _ ((cf (ds:=[aw o,nI a,nI b]) rfl rfl).trans (wF ho h hn ha hb)))).trans rfl)).trans ?_
 refine bB (kE ?_)
 unfold oJ;rw[ho];refine lj (cw ?_)
 have l1:=qM h a b
 rw[eM (aG (fu (ds:=((fR n a b).drop 1).map nI) (ys:=(((fR n a b).drop 1).map λx=>decide (o.getD x 0∈(fR n (o.getD a 0) (o.getD b 0)).drop 1)).map D.bl) rfl (by simp;omega) ?_) rfl),vC,Oy]
 ·rfl
 ·rw[I0]
  refine eY (h:=nI) _ λx hx=>⟨_,rfl,?_⟩
  have hx':x<n:=by
   have:=N8 hx
   unfold fR at this;obtain⟨i,_,rfl⟩:=Jd.mp this
   exact Ls _ h
  refine(aF ((aF (x:=aw o) (y:=nI x) rfl rfl).trans (h7 (by omega))) (y:=.lst (((fR n (o.getD a 0) (o.getD b 0)).drop 1).map nI)) rfl).trans ?_
  rw[HZ];rfl
theorem zP {n:Nat}(h:0<n){s e:Nat}(hs:s<n)(he:e<n)(ne:s≠e): ∃r,fR n s e=s::r:=by
 unfold fR;have m:=Db ((e:Int) -s) h
 have pos:0<(((e:Int) -s) % n).toNat:=by
  have:((e:Int) -s) % n≠0:=λz=>by
   have:=Int.emod_emod_of_dvd
   have d:=Int.dvd_of_emod_eq_zero z
   obtain⟨q,hq⟩:=d
   have:q=0:=by
    rcases Int.lt_trichotomy q 0 with hq0|hq0|hq0
    ·have:(n:Int)*q<=n*(-1):=Oc (by omega) (by omega)
     omega
    ·exact hq0
    ·have:(n:Int)*1<=n*q:=Oc (by omega) (by omega)
     omega
   subst this;omega
  omega
 obtain⟨k,hk⟩: ∃k,(((e:Int) -s) % n).toNat=k+1:=⟨_,(Nat.succ_pred_eq_of_pos pos).symm⟩
 rw[hk,Mu,Ix,KG,MW hs];exact⟨_,rfl⟩
theorem j0 {n:Nat}(h:0<n){s e:Nat}(hs:s<n)(he:e<n)(ne:s≠e)(x:Nat):x∈(fR n s e).drop 1↔x<n/\lG n s e x=true/\x≠s:=by
 obtain⟨r,hr⟩:=zP h hs he ne
 have nd:=pI h s e
 have hm:=jQ h hs e x
 rw[hr] at nd hm⊢;rw[On,Qv];obtain⟨n1,n2⟩:=LU.mp nd
 rw[Jn] at hm;constructor
 ·intro hx
  obtain⟨h1,h2⟩:=hm.mp (.inr hx)
  exact⟨h1,h2,λz=>n1 (z▸hx)⟩
 ·rintro⟨h1,h2,h3⟩
  exact(hm.mpr ⟨h1,h2⟩).resolve_left h3
theorem rW {α:Type}{g:FG}{b:FS}{h:α->D}{out:α->List D}{P:List D->az->Prop}: ∀(l:List α),(∀x∈l,∀F ρ,P F ρ->F.length+(out x).length<=900-> ∃ρ1 ρ2,g (h x) ρ=some ρ1/\b ρ1=.nx ρ2/\P (F++out x) ρ2)->
 ∀F ρ,P F ρ->F.length+(l.flatMap out).length<=900-> ∃ρ',dP g b (l.map h) ρ=.nx ρ'/\P (F++l.flatMap out) ρ'
 | [],_,F,ρ,p,_=>⟨ρ,rfl,by simpa using p⟩
 |x::l,H,F,ρ,p,hb=>by
  rw[J6,IR] at hb;obtain⟨ρ1,ρ2,h1,h2,p2⟩:=H x (by simp) F ρ p (by omega)
  obtain⟨ρ',e,p'⟩:=rW l (λy hy=>H y (by simp[hy])) (F++out x) ρ2 p2 (by rw[IR];omega)
  refine⟨ρ',?_,?_⟩
  ·rw[Ix];exact(fo h1 h2).trans e
  ·rw[J6,<-Jb];exact p'
theorem mK {α β:Type}(f:α->β): ∀l:List α,l.flatMap (λc=>[f c])=l.map f
 | []=>rfl
 |a::l=>by rw[J6,mK f l];rfl
theorem y0: ∀k:List Int,cC (k.map D.int)=0
 | []=>by simp[cC]
 |a::k=>by rw[Ix];unfold cC;rw[y0 k];simp[cV]
theorem B9(k:List Int):cV (bD k)=1:=by unfold bD cV;rw[y0]
theorem kw: ∀ks:List (List Int),cC (ks.map bD)<=1
 | []=>by simp[cC]
 |k::ks=>by
  rw[Ix];unfold cC;have:=kw ks
  rw[B9];omega
theorem GG(ks:List (List Int)):cV (.lst (ks.map bD))<=32:=by unfold cV;have:=kw ks;omega
theorem z0: ∀k l:List Int,cp (k.map D.int) (l.map D.int)=decide (k=l)
 | [],[]=>by simp[cp]
 | [],_::_=>by simp[cp]
 |_::_,[]=>by simp[cp]
 |a::k,b::l=>by
  rw[Ix,Ix];unfold cp;rw[z0 k l,iR,KO];simp
theorem CK(k l:List Int):dq (bD k) (bD l)=decide (k=l):=by
 unfold bD dq;exact z0 k l
theorem FP(K:List (List Int))(k:List Int):(K.map bD).any (λd=>dq d (bD k))=decide (k∈K):=by
 induction K with
 |nil=>simp
 |cons a K ih=>
  rw[Ix,Lk,ih,CK,KO];simp only[Ng,decide_eq_true_eq,Jn];exact or_congr_left eq_comm
theorem Id(K:List (List Int))(k:List Int):lW false (bD k) (.lst (K.map bD))=some (.bl (decide (k∈K))):=by
 unfold lW kn;dsimp only;have:=kw K
 rw[if_pos (by omega),FP]
 rfl
theorem Ord.get {n:Nat}{o:List Nat}(O:Ord n o){i:Nat}(h:i<n):o.getD i 0<n:=by
 have ho:=O.len
 have:o.getD i 0=o[i]'(by omega):=by simp[JL,ho,h]
 rw[this];exact O.lt (MX _)
theorem Ord.inj {n:Nat}{o:List Nat}(O:Ord n o){i j:Nat}(hi:i<n)(hj:j<n)(e:o.getD i 0=o.getD j 0):i=j:=uh O.nd (by rw[O.len];exact hi) (by rw[O.len];exact hj) e
theorem zt {n:Nat}{o:List Nat}(O:Ord n o){a b:Nat}(ha:a<n)(hb:b<n)(ne:a≠b):oJ o a b=true↔ ∀x,x<n-> ¬(lG n a b x=true/\x≠a/\lG n (o.getD a 0) (o.getD b 0) (o.getD x 0)=true/\o.getD x 0≠o.getD a 0):=by
 have h:0<n:=by omega
 have ne2:o.getD a 0≠o.getD b 0:=λz=>ne (O.inj ha hb z)
 unfold oJ;rw[O.len];simp only[J5,RF,decide_eq_true_eq];constructor
 ·intro H x hx ⟨h1,h2,h3,h4⟩
  exact H x ((j0 h ha hb ne x).mpr ⟨hx,h1,h2⟩) ((j0 h (O.get ha) (O.get hb) ne2 _).mpr ⟨O.get hx,h3,h4⟩)
 ·intro H x hx hy
  obtain⟨x1,x2,x3⟩:=(j0 h ha hb ne x).mp hx
  obtain⟨y1,y2,y3⟩:=(j0 h (O.get ha) (O.get hb) ne2 _).mp hy
  exact H x x1 ⟨x2,x3,y2,y3⟩
def qS(r x o:List Nat)(a b:Nat):Bool:= !(pQ o.length a b).any λc=>decide (r.getD c 0∈pQ o.length (o.getD a 0) (o.getD b 0))||decide (x.getD c 0∈pQ o.length (o.getD a 0) (o.getD b 0))
theorem Ig(y p q:Nat):lW false (nI y) (.tup [nI p,nI q])=some (.bl (decide (y=p\/y=q))):=by
 unfold lW kn;dsimp only;rw[show cC [nI p,nI q]=0 from mH [p,q],if_pos (by omega)]
 have:=zq [p,q] y
 simp only[Ix,Ou] at this;simp only[IB,if_false];rw[this];congr 2
 simp
theorem Ap {n:Nat}{r x o:List Nat}(O:Ord n o)(hr:r.length=n)(hx:x.length=n)(h:0<n)(hn:n<=8){a b:Nat}(ha:a<n)(hb:b<n):lK [dA r x,aw o,nI a,nI b]=some (.bl (qS r x o a b)):=by
 have ho:=O.len
 have pl: ∀s e,(pQ n s e).length<=8:=λs e=>by unfold pQ;exact JS (J8 _ _) (by simpa using hn)
 have clen:(u9 o a b).length<=64:=by
  unfold u9;rw[pJ,ho];exact MO (pl a b) (pl (o.getD a 0) (o.getD b 0))
 apply ca (kd:=.s) (n:=7) (t:=iB)
 unfold iB;refine(ay (ρ':=[.v (dA r x),.v (aw o),.v (nI a),.v (nI b),.v (aw r),.v (aw x),.no]) (ui (lS rfl) rfl)).trans ?_
 let P:List Nat×Nat->Bool:=λ_=>true
 have e0:(u9 o a b).map bD=((pQ n a b).flatMap λc=>(pQ n (o.getD a 0) (o.getD b 0)).map λy=>(c,y)).map λp:Nat×Nat=>D.tup [nI p.1,nI p.2]:=by
  unfold u9 dJ;rw[LH,LH,ho];congr 1
  funext c;rw[I0,I0];rfl
 have cc:bP 2 (fM (ak (nF 3 iu) (ab (ag 1) (ab (ag 2) (ab (ag 3) (ah)))))) (gT 2 (iH (gN 7) (iH (gN 8) (mG)))) (eT) (aj (lW false) (ag 8) (dr (ab (aj bd (ag 4) (ag 7)) (ab (aj bd (ag 5) (ag 7)) (ah))))) [.v (dA r x),.v (aw o),.v (nI a),.v (nI b),.v (aw r),.v (aw x),.no]
  =some (.lst ((((pQ n a b).flatMap λc=>(pQ n (o.getD a 0) (o.getD b 0)).map λy=>(c,y)).map λp:Nat×Nat=>decide (p.2=r.getD p.1 0\/p.2=x.getD p.1 0)).map D.bl)):=by
  refine fu (ds:=(u9 o a b).map bD) (vp ((cf (ds:=[aw o,nI a,nI b]) rfl rfl).trans (z6 O h hn ha hb))) (by rw[Iu];omega) ?_
  rw[e0,I0];refine eY (h:=λp:Nat×Nat=>D.tup [nI p.1,nI p.2]) _ λp hp=>⟨_,rfl,?_⟩
  obtain⟨c,hc,hp⟩:=LG.mp hp
  obtain⟨y,hy,rfl⟩:=Jd.mp hp
  have hc':c<n:=(plF_mem.mp hc).1
  refine(aF (x:=nI y) (y:=.tup [nI (r.getD c 0),nI (x.getD c 0)]) rfl (fS (aG ((aF (x:=aw r) (y:=nI c) rfl rfl).trans (h7 (by omega))) (aG ((aF (x:=aw x) (y:=nI c) rfl rfl).trans (h7 (by omega))) rfl)) (by simp))).trans ?_
  exact Ig _ _ _
 refine(ay (ρ':=[.v (dA r x),.v (aw o),.v (nI a),.v (nI b),.v (aw r),.v (aw x),.v (.lst ((((pQ n a b).flatMap λc=>(pQ n (o.getD a 0) (o.getD b 0)).map λy=>(c,y)).map λp:Nat×Nat=>decide (p.2=r.getD p.1 0\/p.2=x.getD p.1 0)).map D.bl))]) ((bY cc).trans rfl)).trans ?_
 refine bB (kE ?_)
 unfold qS;refine lj (cw ?_)
 rw[eM (aG (d:=.lst _) rfl rfl),vC,Oy,ho];congr 2
 rw[KO];simp only[MY,LG,Jd,Function.comp,id,decide_eq_true_eq,Ng];constructor
 ·rintro⟨p,⟨c,hc,y,hy,rfl⟩,h⟩
  refine⟨c,hc,?_⟩
  rcases h with h|h
  ·left;have h:y=r.getD c 0:=h;rw[<-h];exact hy
  ·right;have h:y=x.getD c 0:=h;rw[<-h];exact hy
 ·rintro⟨c,hc,h⟩
  rcases h with h|h
  ·exact⟨(c,r.getD c 0),⟨c,hc,_,h,rfl⟩,.inl rfl⟩
  ·exact⟨(c,x.getD c 0),⟨c,hc,_,h,rfl⟩,.inr rfl⟩
def cA(r x o:List Nat)(a b:Nat):Bool:=oJ o a b&&qS r x o a b
theorem xb {n:Nat}{r x o:List Nat}(O:Ord n o)(hr:r.length=n)(hx:x.length=n)(h:0<n)(hn:n<=8){a b:Nat}(ha:a<n)(hb:b<n):nM [dA r x,aw o,nI a,nI b]=some (.bl (cA r x o a b)):=by
 apply ca (kd:=.s) (n:=4) (t:=js)
 unfold js;refine bB (kE (me (a:=oJ o a b) (cw ((cf (ds:=[aw o,nI a,nI b]) rfl rfl).trans (Bm O.len h (by omega) ha hb))) (λz=>cw ((cf (ds:=[dA r x,aw o,nI a,nI b]) rfl rfl).trans ?_)) λz=>by unfold cA;rw[z];rfl))
 rw[Ap O hr hx h hn ha hb];unfold cA;rw[z];rfl
abbrev uA(o:List Nat)(a b:Nat):D:=.tup [nI a,nI b,aw (ki o a b)]
def Ax(P:Nat->Nat->Bool)(o:List Nat):List D:=(Iy o.length).flatMap λa=>((Iy o.length).filter λb=>decide (a≠b)&&P a b).map λb=>uA o a b
theorem zR {n:Nat}{r x o:List Nat}(O:Ord n o)(hr:r.length=n)(hx:x.length=n)(h:0<n)(hn:n<=8):og [dA r x,aw o]=some (.lst (Ax (cA r x o) o)):=by
 have ho:=O.len
 apply ca (kd:=.n) (n:=3) (t:=gl)
 unfold gl;refine(ay (ρ':=[.v (dA r x),.v (aw o),.v (.lst ((Iy n).map nI))]) ((bY (yh (n:=n) (by omega) _ _ (by rw[iz o _ _ rfl,ho]))).trans rfl)).trans ?_
 refine bB (vR (ds:=(Iy n).map nI) rfl ?_ ?_)
 ·refine(hV (h:=nI) (q:=λ_=>true) (o:=λ(a:Nat)=>((Iy n).filter λb=>decide (a≠b)&&cA r x o a b).map λb=>uA o a b) (Iy n) λa ha=>⟨_,rfl,rfl,λ_=>?_⟩).trans ?_
  ·rw[Ja] at ha
   refine uH (ds:=(Iy n).map nI) rfl ?_
   refine(hV (h:=nI) (q:=λb=>decide (a≠b)&&cA r x o a b) (o:=λ(b:Nat)=>[uA o a b]) (Iy n) λb hb=>⟨_,rfl,?_,λ_=>qy (fS (aG rfl (aG rfl (aG ((cf (ds:=[aw o,nI a,nI b]) rfl rfl).trans (xt ho ha (by simpa using hb))) rfl))) (by simp))⟩).trans ?_
   ·rw[Ja] at hb
    refine me (a:=decide (a≠b)) (cw ?_) (λz=>?_) (λz=>by rw[z];rfl)
    ·rw[aF (x:=nI a) (y:=nI b) rfl rfl,p7 (by rw[g6];omega),pV]
     simp
    ·rw[z,Na]
     exact m6 ((cf (ds:=[dA r x,aw o,nI a,nI b]) rfl rfl).trans (xb O hr hx h hn ha hb))
   ·rw[mK]
  ·rw[Lw.mpr (λ_ _=>rfl)]
   unfold Ax;rw[ho]
 ·have key: ∀(l:List Nat) (m:Nat) (f:Nat->List D),(∀a,(f a).length<=m)->(l.flatMap f).length<=l.length*m:=by
   intro l m f hf
   induction l with
   |nil=>simp
   |cons a l ih=>rw[J6,IR,Jg,Qi,Ss];have:=hf a;omega
  unfold Ax;rw[ho];have k:=key (Iy n) n (λa=>((Iy n).filter λb=>decide (a≠b)&&cA r x o a b).map λb=>uA o a b) (λa=>by rw[Iu];exact JS (J8 _ _) (by simp))
  rw[Lo] at k;have:n*n<=8*8:=MO hn hn
  omega
def iC:FS:=
 ax (bj 4 (ak cE (ab (ag 1) (ah))))
 (ax (bj 5 (aj aS (aj dn (aj bd (ag 1) (ag 3)) (aj bd (ag 1) (ag 2))) (ag 4)))
 (ax (dE (bT (bQ (ab (aj aS (aj dn (ag 3) (ag 2)) (ag 4)) (ah)))) (gN 6) (ax (bj 7 (aj aS (aj bM (ag 2) (ag 6)) (ag 4)))
 (ax (fP (fQ (bx (aj Ex (ag 6) (aE (.int 0)))) (bx (aj n4 (aj aS (aj dn (aj bd (ag 1) (ag 7)) (aj bd (ag 1) (ag 2))) (ag 4)) (ag 5)))) (aV (aE (.bl false))) (skip))
 (fP (wt (bx (aj n4 (aj aS (aj dn (aj bd (aj bd (ag 0) (aE (.int 0))) (ag 7)) (aj bd (ag 1) (ag 2))) (ag 4)) (ag 5))) (bx (aj n4 (aj aS (aj dn (aj bd (aj bd (ag 0) (aE (.int 1))) (ag 7)) (aj bd (ag 1) (ag 2))) (ag 4)) (ag 5)))) (aV (aE (.bl false))) (skip)))))
 (aV (aE (.bl true)))))
def sX:List D->Option D:=gm .s 8 iC
theorem sR {α:Type}{g:FG}{b:FS}{h:α->D}{ok:α->Bool}{d:D}{P:az->Prop}: ∀(l:List α),(∀x∈l,∀ρ,P ρ-> ∃ρ1,g (h x) ρ=some ρ1/\(ok x=true-> ∃ρ2,b ρ1=.nx ρ2/\P ρ2)/\(ok x=false-> ∃ρ2,b ρ1=.rt d ρ2))->
 ∀ρ,P ρ->(l.all ok=true-> ∃ρ',dP g b (l.map h) ρ=.nx ρ'/\P ρ')/\(l.all ok=false-> ∃ρ',dP g b (l.map h) ρ=.rt d ρ')
 | [],_,ρ,p=>⟨λ_=>⟨ρ,rfl,p⟩,λz=>by simp at z⟩
 |x::l,H,ρ,p=>by
  obtain⟨ρ1,h1,h2,h3⟩:=H x (by simp) ρ p
  rw[O9,Ix];cases e:ok x with
  |true=>
   obtain⟨ρ2,e2,p2⟩:=h2 e
   have ih:=sR l (λy hy=>H y (by simp[hy])) ρ2 p2
   rw[Na,fo h1 e2];exact ih
  |false=>
   obtain⟨ρ2,e2⟩:=h3 e
   refine⟨λz=>by simp at z,λ_=>⟨ρ2,?_⟩⟩
   show(match g (h x) ρ with
    |none=>Out.no
    |some ρ1=>match b ρ1 with
     | .nx ρ2=>dP g b (l.map h) ρ2
     | .ct ρ2=>dP g b (l.map h) ρ2
     | .bk ρ2=>.nx ρ2
     | .rt d ρ2=>.rt d ρ2
     | .no=>.no)=_
   rw[h1];dsimp only;rw[e2]
def Fz(n:Nat)(r x o:List Nat)(a b:Nat)(k:Nat):Bool:= !(decide (0<k)&&lG n (o.getD a 0) (o.getD b 0) (o.getD ((a+k) % n) 0))&& !(lG n (o.getD a 0) (o.getD b 0) (r.getD ((a+k) % n) 0)||lG n (o.getD a 0) (o.getD b 0) (x.getD ((a+k) % n) 0))
def v0(n:Nat)(r x o:List Nat)(a b:Nat):Bool:=(Iy (((b:Int) -a) % n).toNat).all (Fz n r x o a b)
theorem ue {n:Nat}{r x o:List Nat}(ho:o.length=n)(hr:r.length=n)(hx:x.length=n)(h:0<n)(hn:n<=900){a b:Nat}(ha:a<n)(hb:b<n):sX [dA r x,aw o,nI a,nI b]=some (.bl (v0 n r x o a b)):=by
 refine qC (kd:=.s) (n:=8) (t:=iC) ?_
 unfold iC;have m:=Db ((b:Int) -a) h
 have low: ∀ {i:Nat},i<n-> ∀(ρ:az) (f:FE),f ρ=some (nI i)->ag 1 ρ=some (aw o)->aj bd (ag 1) f ρ=some (nI (o.getD i 0)):=λ{i} hi ρ f h1 h2=>(aF h2 h1).trans (h7 (by omega))
 have s1:bj 4 (ak cE (ab (ag 1) (ah))) [.v (dA r x),.v (aw o),.v (nI a),.v (nI b),.no,.no,.no,.no]=.nx [.v (dA r x),.v (aw o),.v (nI a),.v (nI b),.v (nI n),.no,.no,.no]:=(bY (d:=nI n) (by rw[iz o _ _ rfl,ho])).trans rfl
 have s2:bj 5 (aj aS (aj dn (aj bd (ag 1) (ag 3)) (aj bd (ag 1) (ag 2))) (ag 4)) [.v (dA r x),.v (aw o),.v (nI a),.v (nI b),.v (nI n),.no,.no,.no]=.nx [.v (dA r x),.v (aw o),.v (nI a),.v (nI b),.v (nI n),.v (.int (((o.getD b 0:Int) -o.getD a 0) % n)),.no,.no]:=
  (bY ((aF ((aF (low hb _ _ rfl rfl) (low ha _ _ rfl rfl)).trans (Cr _ _)) (y:=nI n) rfl).trans (cg (by omega)))).trans rfl
 have key:=sR (g:=gN 6) (h:=nI) (ok:=Fz n r x o a b) (d:=.bl false) (P:=λρ=> ∃s6 s7,ρ=[.v (dA r x),.v (aw o),.v (nI a),.v (nI b),.v (nI n),.v (.int (((o.getD b 0:Int) -o.getD a 0) % n)),s6,s7])
  (b:=ax (bj 7 (aj aS (aj bM (ag 2) (ag 6)) (ag 4)))
    (ax (fP (fQ (bx (aj Ex (ag 6) (aE (.int 0)))) (bx (aj n4 (aj aS (aj dn (aj bd (ag 1) (ag 7)) (aj bd (ag 1) (ag 2))) (ag 4)) (ag 5)))) (aV (aE (.bl false))) (skip))
    (fP (wt (bx (aj n4 (aj aS (aj dn (aj bd (aj bd (ag 0) (aE (.int 0))) (ag 7)) (aj bd (ag 1) (ag 2))) (ag 4)) (ag 5))) (bx (aj n4 (aj aS (aj dn (aj bd (aj bd (ag 0) (aE (.int 1))) (ag 7)) (aj bd (ag 1) (ag 2))) (ag 4)) (ag 5)))) (aV (aE (.bl false))) (skip))))
  (Iy (((b:Int) -a) % n).toNat) ?_ [.v (dA r x),.v (aw o),.v (nI a),.v (nI b),.v (nI n),.v (.int (((o.getD b 0:Int) -o.getD a 0) % n)),.no,.no] ⟨_,_,rfl⟩
 ·have fs: ∀ {o':Out},dP (gN 6) (ax (bj 7 (aj aS (aj bM (ag 2) (ag 6)) (ag 4)))
   (ax (fP (fQ (bx (aj Ex (ag 6) (aE (.int 0)))) (bx (aj n4 (aj aS (aj dn (aj bd (ag 1) (ag 7)) (aj bd (ag 1) (ag 2))) (ag 4)) (ag 5)))) (aV (aE (.bl false))) (skip))
   (fP (wt (bx (aj n4 (aj aS (aj dn (aj bd (aj bd (ag 0) (aE (.int 0))) (ag 7)) (aj bd (ag 1) (ag 2))) (ag 4)) (ag 5))) (bx (aj n4 (aj aS (aj dn (aj bd (aj bd (ag 0) (aE (.int 1))) (ag 7)) (aj bd (ag 1) (ag 2))) (ag 4)) (ag 5)))) (aV (aE (.bl false))) (skip)))) ((Iy (((b:Int) -a) % n).toNat).map nI) [.v (dA r x),.v (aw o),.v (nI a),.v (nI b),.v (nI n),.v (.int (((o.getD b 0:Int) -o.getD a 0) % n)),.no,.no]=o'->
   dE (bT (bQ (ab (aj aS (aj dn (ag 3) (ag 2)) (ag 4)) (ah)))) (gN 6) _ [.v (dA r x),.v (aw o),.v (nI a),.v (nI b),.v (nI n),.v (.int (((o.getD b 0:Int) -o.getD a 0) % n)),.no,.no]=o':=λ{o'} e=>
   (eV (bC (fN (n:=(((b:Int) -a) % n).toNat) (aG ((aF ((aF (x:=nI b) (y:=nI a) rfl rfl).trans (Cr _ _)) (y:=nI n) rfl).trans (Ge h)) rfl) (by omega)))).trans e
  cases ef:v0 n r x o a b with
  |true=>
   obtain⟨ρ',e,_⟩:=key.1 ef
   exact⟨ρ',(ay s1).trans ((ay s2).trans ((ay (fs e)).trans rfl))⟩
  |false=>
   obtain⟨ρ',e⟩:=key.2 ef
   exact⟨ρ',(ay s1).trans ((ay s2).trans (uu (fs e)))⟩
 ·rintro k hk ρ ⟨s6,s7,rfl⟩
  have hc:(a+k) % n<n:=Ls _ h
  refine⟨[.v (dA r x),.v (aw o),.v (nI a),.v (nI b),.v (nI n),.v (.int (((o.getD b 0:Int) -o.getD a 0) % n)),.v (nI k),s7],rfl,?_⟩
  let ρ2:az:=[.v (dA r x),.v (aw o),.v (nI a),.v (nI b),.v (nI n),.v (.int (((o.getD b 0:Int) -o.getD a 0) % n)),.v (nI k),.v (nI ((a+k) % n))]
  have t1:bj 7 (aj aS (aj bM (ag 2) (ag 6)) (ag 4)) [.v (dA r x),.v (aw o),.v (nI a),.v (nI b),.v (nI n),.v (.int (((o.getD b 0:Int) -o.getD a 0) % n)),.v (nI k),s7]=.nx ρ2:=(bY ((aF ((aF (x:=nI a) (y:=nI k) rfl rfl).trans (EA _ _)) (y:=nI n) rfl).trans (CF h))).trans rfl
  have cmp: ∀(f:FE) (v:Nat),f ρ2=some (nI v)->bx (aj n4 (aj aS (aj dn f (aj bd (ag 1) (ag 2))) (ag 4)) (ag 5)) ρ2=some (lG n (o.getD a 0) (o.getD b 0) v):=λf v hf=>cw ((aF ((aF ((aF hf (low ha _ _ rfl rfl)).trans (Cr _ _)) (y:=nI n) rfl).trans (cg (by omega))) rfl).trans (mo _ _))
  have c1:=cmp _ _ (low hc ρ2 (ag 7) rfl rfl)
  have c2:=cmp (aj bd (aj bd (ag 0) (aE (.int 0))) (ag 7)) (r.getD ((a+k) % n) 0) ((aF (x:=aw r) (y:=nI ((a+k) % n)) rfl rfl).trans (h7 (by omega)))
  have c3:=cmp (aj bd (aj bd (ag 0) (aE (.int 1))) (ag 7)) (x.getD ((a+k) % n) 0) ((aF (x:=aw x) (y:=nI ((a+k) % n)) rfl rfl).trans (h7 (by omega)))
  have g1:bx (aj Ex (ag 6) (aE (.int 0))) ρ2=some (decide (0<k)):=cw ((aF (x:=nI k) (y:=.int 0) rfl rfl).trans ((CV _ _).trans (by congr 2;rw[KO];simp)))
  have a1:fQ (bx (aj Ex (ag 6) (aE (.int 0)))) (bx (aj n4 (aj aS (aj dn (aj bd (ag 1) (ag 7)) (aj bd (ag 1) (ag 2))) (ag 4)) (ag 5))) ρ2=some (decide (0<k)&&lG n (o.getD a 0) (o.getD b 0) (o.getD ((a+k) % n) 0)):=
   me g1 (λz=>by rw[z,Na];exact c1) (λz=>by rw[z];rfl)
  have a2:wt (bx (aj n4 (aj aS (aj dn (aj bd (aj bd (ag 0) (aE (.int 0))) (ag 7)) (aj bd (ag 1) (ag 2))) (ag 4)) (ag 5))) (bx (aj n4 (aj aS (aj dn (aj bd (aj bd (ag 0) (aE (.int 1))) (ag 7)) (aj bd (ag 1) (ag 2))) (ag 4)) (ag 5))) ρ2=some (lG n (o.getD a 0) (o.getD b 0) (r.getD ((a+k) % n) 0)||lG n (o.getD a 0) (o.getD b 0) (x.getD ((a+k) % n) 0)):=by
   cases e:lG n (o.getD a 0) (o.getD b 0) (r.getD ((a+k) % n) 0) with
   |true=>rw[e] at c2;exact Dj c2
   |false=>rw[e] at c2;exact zC c2 c3
  unfold Fz;refine⟨λhok=>?_,λhok=>?_⟩
  ·rw[JB,J5,J5] at hok
   rw[hok.1] at a1;rw[hok.2] at a2;exact⟨ρ2,(ay t1).trans ((ay (rP a1)).trans (rP a2)),_,_,rfl⟩
  ·cases e:(decide (0<k)&&lG n (o.getD a 0) (o.getD b 0) (o.getD ((a+k) % n) 0)) with
   |true=>
    rw[e] at a1;exact⟨ρ2,(ay t1).trans (uu (sW a1))⟩
   |false=>
    rw[e] at a1 hok;rw[Tt,Na,Nr] at hok;rw[hok] at a2;exact⟨ρ2,(ay t1).trans ((ay (rP a1)).trans (sW a2))⟩
theorem BG {n:Nat}(h:0<n){a b:Nat}(ha:a<n)(hb:b<n)(P:Nat->Nat->Prop)(Q:Nat->Prop)(h0:a≠b):(∀k,k<(((b:Int) -a) % n).toNat->Q ((a+k) % n))↔ ∀c,c<n->lG n a b c=true->Q c:=by
 constructor
 ·intro H c hc hin
  have:c∈fR n a b:=(jQ h ha b c).mpr ⟨hc,hin⟩
  unfold fR at this;obtain⟨k,hk,rfl⟩:=Jd.mp this
  exact H k (by simpa using hk)
 ·intro H k hk
  have:(a+k) % n∈fR n a b:=by unfold fR;exact Jd.mpr ⟨k,by simpa using hk,rfl⟩
  obtain⟨h1,h2⟩:=(jQ h ha b _).mp this
  exact H _ h1 h2
theorem wK {n:Nat}{r x o:List Nat}(O:Ord n o)(R:Ord n r)(X:Ord n x){a b:Nat}(ha:a<n)(hb:b<n)(ne:a≠b):v0 n r x o a b=cA r x o a b:=by
 have h:0<n:=by omega
 have m:=Db ((b:Int) -a) h
 rw[KO];unfold cA;rw[JB,zt O ha hb ne];unfold v0 qS;rw[Mk,O.len];simp only[J5,RF,plF_mem,Ng,decide_eq_true_eq,not_or];have kz: ∀k,k<(((b:Int) -a) % n).toNat->(0<k↔(a+k) % n≠a):=by
  intro k hk;have hkn:k<n:=by omega
  by_cases hk0:k=0
  ·subst hk0;rw[KG,MW ha];simp
  ·refine⟨λ_=>?_,λ_=>by omega⟩
   by_cases hl:a+k<n
   ·rw[MW hl];omega
   ·rw[Nat.mod_eq_sub_mod (by omega),MW (by omega)];omega
 constructor
 ·intro H
  have H': ∀k,k<(((b:Int) -a) % n).toNat->(¬((a+k) % n≠a/\lG n (o.getD a 0) (o.getD b 0) (o.getD ((a+k) % n) 0)=true))/\ ¬lG n (o.getD a 0) (o.getD b 0) (r.getD ((a+k) % n) 0)=true/\ ¬lG n (o.getD a 0) (o.getD b 0) (x.getD ((a+k) % n) 0)=true:=by
   intro k hk;have z:=H k (by simpa using hk)
   unfold Fz at z;simp only[JB,J5,Qw,Qf,decide_eq_false_iff_not] at z;obtain⟨z1,z2,z3⟩:=z
   refine⟨λ⟨w1,w2⟩=>?_,by rw[z2];simp,by rw[z3];simp⟩
   rcases z1 with z1|z1
   ·exact z1 ((kz k hk).mpr w1)
   ·rw[z1] at w2;cases w2
  have H2:=(BG h ha hb (λ_ _=>True) (λc=>(¬(c≠a/\lG n (o.getD a 0) (o.getD b 0) (o.getD c 0)=true))/\ ¬lG n (o.getD a 0) (o.getD b 0) (r.getD c 0)=true/\ ¬lG n (o.getD a 0) (o.getD b 0) (x.getD c 0)=true) ne).mp H'
  refine⟨λc hc ⟨h1,h2,h3,_⟩=>(H2 c hc h1).1 ⟨h2,h3⟩,λc ⟨hc,h1⟩=>?_⟩
  obtain⟨_,w2,w3⟩:=H2 c hc h1
  exact⟨λ⟨_,z⟩=>w2 z,λ⟨_,z⟩=>w3 z⟩
 ·rintro⟨H1,H2⟩ k hk
  rw[Ja] at hk;have hin:(a+k) % n∈fR n a b:=by unfold fR;exact Jd.mpr ⟨k,by simpa using hk,rfl⟩
  obtain⟨hc,hi⟩:=(jQ h ha b _).mp hin
  obtain⟨w2,w3⟩:=H2 _ ⟨hc,hi⟩
  unfold Fz;simp only[JB,J5,Qw,Qf,decide_eq_false_iff_not];refine⟨?_,?_,?_⟩
  ·by_cases hk0:0<k
   ·right
    have hne:=(kz k hk).mp hk0
    have ne3:o.getD ((a+k) % n) 0≠o.getD a 0:=λz=>hne (O.inj hc ha z)
    cases e:lG n (o.getD a 0) (o.getD b 0) (o.getD ((a+k) % n) 0) with
    |false=>rfl
    |true=>exact absurd ⟨hi,hne,e,ne3⟩ (H1 _ hc)
   ·exact .inl hk0
  ·cases e:lG n (o.getD a 0) (o.getD b 0) (r.getD ((a+k) % n) 0) with
   |false=>rfl
   |true=>exact absurd ⟨R.get hc,e⟩ w2
  ·cases e:lG n (o.getD a 0) (o.getD b 0) (x.getD ((a+k) % n) 0) with
   |false=>rfl
   |true=>exact absurd ⟨X.get hc,e⟩ w3
open PySem PySem.W PySem.Spec PyProof.Rows
section
variable {X:Cx}{c:Ct}{e:Expr}{es:List Expr}{k:Kd}{pos p:Pos}{x:Str}{ps:List Str}{j n:Nat}
def kC(f:FE):FA:=λρ=>(f ρ).bind λd=>match d with
 | .lst ds=>some ds
 | .tup ds=>some ds
 |_=>none
theorem iX {tg iter:Expr}{f:FE}(h:DP X c .s iter f):DIp X c tg iter (kC f):=λhid ρ aa s σ H R I hq_=>by
 obtain⟨sr,ds,e1,q⟩:=hq_
 unfold kC at e1;cases e2:f ρ with
 |none=>rw[e2] at e1;cases e1
 |some d=>
  rw[e2,Iw] at e1;cases d with
  |lst xs=>cases e1;exact fB h hid ρ aa s σ H R I ⟨sr,ds,by unfold fM;rw[e2];rfl,q⟩
  |tup xs=>cases e1;exact CJ h hid ρ aa s σ H R I ⟨sr,ds,by unfold BF;rw[e2];rfl,q⟩
  |_=>cases e1
end
theorem E5 {es rest:List Expr}{x1}{pos:Pos}{env:Env}:ID (.Tuple es x1 pos::rest) env=(false,eval (.Tuple es x1 pos) env)::ID rest env:=by rfl
@[elab_as_elim] theorem ar0 {motive:List Il->Prop} (us:List Il) (hl:us.length=0) (h:motive []):motive us:=by
 cases us with
 |nil=>exact h
 |cons a r=>exact absurd hl (Nat.succ_ne_zero _)
@[elab_as_elim] theorem ar1 {motive:List Il->Prop} (us:List Il) (hl:us.length=1) (h: ∀a0,motive [a0]):motive us:=by
 cases us with
 |nil=>exact absurd hl (by decide)
 |cons a0 r=>exact ar0 (motive:=λr=>motive (a0::r)) r (NE hl) (h a0)
@[elab_as_elim] theorem ar2 {motive:List Il->Prop} (us:List Il) (hl:us.length=2) (h: ∀a0 a1,motive [a0,a1]):motive us:=by
 cases us with
 |nil=>exact absurd hl (by decide)
 |cons a0 r=>exact ar1 (motive:=λr=>motive (a0::r)) r (NE hl) (h a0)
@[elab_as_elim] theorem ar3 {motive:List Il->Prop} (us:List Il) (hl:us.length=3) (h: ∀a0 a1 a2,motive [a0,a1,a2]):motive us:=by
 cases us with
 |nil=>exact absurd hl (by decide)
 |cons a0 r=>exact ar2 (motive:=λr=>motive (a0::r)) r (NE hl) (h a0)
@[elab_as_elim] theorem ar4 {motive:List Il->Prop} (us:List Il) (hl:us.length=4) (h: ∀a0 a1 a2 a3,motive [a0,a1,a2,a3]):motive us:=by
 cases us with
 |nil=>exact absurd hl (by decide)
 |cons a0 r=>exact ar3 (motive:=λr=>motive (a0::r)) r (NE hl) (h a0)
@[elab_as_elim] theorem ar5 {motive:List Il->Prop} (us:List Il) (hl:us.length=5) (h: ∀a0 a1 a2 a3 a4,motive [a0,a1,a2,a3,a4]):motive us:=by
 cases us with
 |nil=>exact absurd hl (by decide)
 |cons a0 r=>exact ar4 (motive:=λr=>motive (a0::r)) r (NE hl) (h a0)
@[elab_as_elim] theorem ar6 {motive:List Il->Prop} (us:List Il) (hl:us.length=6) (h: ∀a0 a1 a2 a3 a4 a5,motive [a0,a1,a2,a3,a4,a5]):motive us:=by
 cases us with
 |nil=>exact absurd hl (by decide)
 |cons a0 r=>exact ar5 (motive:=λr=>motive (a0::r)) r (NE hl) (h a0)
@[irreducible] def QP (X:Cx) (c:Ct) (e:Expr) (f:FE):Prop:=DP X c .s e f
@[irreducible] def QA (X:Cx) (c:Ct) (es:List Expr) (f:FA):Prop:=DA X c es f
@[irreducible] def QS (X:Cx) (c:Ct) (k:Kd) (st:Stmt) (t:FS):Prop:=DS X c k st t
@[irreducible] def QSs (X:Cx) (c:Ct) (k:Kd) (st:List Stmt) (t:FS):Prop:=tO X c k st t
section
variable {X:Cx}{c:Ct}{k:Kd}{e a b:Expr}{es:List Expr}{f g:FE}{fs:FA}{pos pos':Pos}{st:Stmt}{rest:List Stmt}{t u:FS}{x:Str}
theorem QP.of(h:DP X c .s e f):QP X c e f:=by unfold QP;exact h
theorem QP.dp(h:QP X c e f):DP X c .s e f:=by unfold QP at h;exact h
theorem QA.da(h:QA X c es fs):DA X c es fs:=by unfold QA at h;exact h
theorem QS.of(h:DS X c k st t):QS X c k st t:=by unfold QS;exact h
theorem QS.ds(h:QS X c k st t):DS X c k st t:=by unfold QS at h;exact h
theorem QSs.to(h:QSs X c k rest t):tO X c k rest t:=by unfold QSs at h;exact h
theorem AB:QA X c [] ah:=by unfold QA;exact aq
theorem Bc(h:QP X c e f)(hr:QA X c es fs)(hs:ID (e::es) X.env=(false,eval e X.env)::ID es X.env:=by rfl):QA X c (e::es) (ab f fs):=by unfold QA;exact af h.dp hr.da hs
theorem EN {x1}(h:QA X c es fs):QP X c (.Tuple es x1 pos) (dr fs):=.of (g8 h.da)
theorem DF(h:QA X c es fs):QP X c (.List es pos) (di fs):=.of (DP.toS (ga h.da))
theorem Ba(i:Nat)(hn:X.N.Nodup)(he:QP X c e f)(hi:X.N[i]? =some x:=by rfl)(hx:xW X.env.scope x:=by first|exact Kf rfl|exact Jw rfl)(hs:Lp e (some (.Name x pos')) pos.line X.env=pure false:=by rfl)
 (hf:X.fn x=true\/X.env.scope.names.lookup x=some .local:=by first|exact .inl rfl|exact .inr rfl|assumption):QS X c k (.Assign [.Name x pos'] e pos) (bj i f):=.of (bA i hn he.dp hi hx hs hf)
theorem si(h1:QS X c k st t)(h2:QSs X c k rest u):QSs X c k (st::rest) (ax t u):=by unfold QSs;exact am h1.ds h2.to
theorem Cp(h:QS X c k st t):QSs X c k [st] t:=by unfold QSs;exact av h.ds
end
section
variable {κ:Type} [DecidableEq κ]
def ip(kvs:List (κ×V))(k:κ):Option V:=(kvs.find? λkv=>decide (kv.1=k)).map (·.2)
def kZ(kvs:List (κ×V))(k:κ)(v:V):List (κ×V):=
 if(kvs.any λkv=>decide (kv.1=k))=true then kvs.map (λkv=>if kv.1=k then(kv.1,v) else kv) else kvs++[(k,v)]
theorem jX {p:κ×V}{r:List (κ×V)}{k:κ}(e:p.1=k):ip (p::r) k=some p.2:=by simp[ip,Kn,e]
theorem kc {p:κ×V}{r:List (κ×V)}{k:κ}(e: ¬p.1=k):ip (p::r) k=ip r k:=by simp[ip,Kn,e]
theorem sL(k:κ): ∀kvs:List (κ×V),(kvs.any λkv=>decide (kv.1=k))=(ip kvs k).isSome
 | []=>rfl
 |p::r=>by
  rw[Lk]
  by_cases e:p.1=k
  ·simp only[jX e,decide_eq_true e,Bool.true_or,Ra]
  ·rw[kc e,decide_eq_false e,Ug];exact sL k r
theorem lR(kvs:List (κ×V))(k:κ)(v:V):(kZ kvs k v).length<=kvs.length+1:=by
 unfold kZ;split
 ·rw[Iu];omega
 ·rw[IR,Jg,LX];omega
theorem RelO.isSome_eq {o:Option V}{u:Option Il}(r:RelO o u):o.isSome=u.isSome:=by
 cases o with
 |none=>cases u with
  |none=>rfl
  |some _=>exact(show False from r).elim
 |some _=>cases u with
  |none=>exact(show False from r).elim
  |some _=>rfl
theorem RelO.getD {o:Option V}{u:Option Il}{d:V}{d':Il}(r:RelO o u)(rd:RelV d d'):RelV (o.getD d) (u.getD d'):=by
 cases o with
 |none=>cases u with
  |none=>exact rd
  |some _=>exact(show False from r).elim
 |some _=>cases u with
  |none=>exact(show False from r).elim
  |some _=>exact r
theorem KV.val {kvs:List (κ×V)}{vs:List (κ×Il)}(r:KV kvs vs)(k:κ):RelO (ip kvs k) (RG vs k):=by
 unfold KV at r
 induction r with
 |nil=>exact True.intro
 | @cons p q ps qs h t ih=>
   obtain⟨h1,h2⟩:=h
   by_cases e:p.1=k
   ·have e':q.1=k:=h1.symm.trans e
    have b:RG (q::qs) k=some q.2:=by simp[RG,Kn,e']
    rw[jX e,b];exact h2
   ·have e': ¬q.1=k:=λz=>e (h1.trans z)
    have b:RG (q::qs) k=RG qs k:=by simp[RG,Kn,e']
    rw[kc e,b];exact ih
theorem KV.any {kvs:List (κ×V)}{vs:List (κ×Il)}(r:KV kvs vs)(k:κ):(kvs.any λkv=>decide (kv.1=k))=vs.any λkv=>decide (kv.1=k):=by
 unfold KV at r
 induction r with
 |nil=>rfl
 |cons h t ih=>rw[Lk,Lk,ih,h.1]
theorem KV.repl {kvs:List (κ×V)}{vs:List (κ×Il)}(r:KV kvs vs)(k:κ){y:V}{u:Il}(ry:RelV y u):
 KV (kvs.map λkv=>if kv.1=k then(kv.1,y) else kv) (vs.map λkv=>if kv.1=k then(kv.1,u) else kv):=by
 unfold KV at r⊢
 induction r with
 |nil=>exact .nil
 | @cons p q ps qs h t ih=>
   rw[Ix,Ix];refine .cons ?_ ih
   obtain⟨h1,h2⟩:=h
   by_cases e:p.1=k
   ·rw[if_pos e,if_pos (h1.symm.trans e)];exact⟨h1,ry⟩
   ·rw[if_neg e,if_neg (λz=>e (h1.trans z))];exact⟨h1,h2⟩
theorem KV.put {kvs:List (κ×V)}{vs:List (κ×Il)}(r:KV kvs vs)(k:κ){y:V}{u:Il}(ry:RelV y u):KV (kZ kvs k y) (stored vs k u):=by
 unfold kZ stored;rw[r.any k]
 by_cases e:(vs.any λkv=>decide (kv.1=k))=true
 ·rw[if_pos e,if_pos e];exact r.repl k ry
 ·rw[if_neg e,if_neg e];exact WM r ⟨rfl,ry⟩
theorem KV.length {kvs:List (κ×V)}{vs:List (κ×Il)}(r:KV kvs vs):kvs.length=vs.length:=L7 r
end
theorem AC {P:Jf}{w:Jr}{k:bt}{u:Il}(r:RelV (kV k) u):(bJ P w).is k u=true:=by
 cases k with
 |inl i=>obtain⟨t,e⟩:=(show∃t,u=NS i t from r);subst e;exact rD P w i t
 |inr x=>obtain⟨t,e⟩:=(show∃t,u=Uq x t from r);subst e;exact sP P w x t
theorem kK {P:Jf}{w:Jr}: ∀ {ks:List bt} {us:List Il},Vals (ks.map kV) us->ItemsAre (bJ P w) ks us
 | [],_,r=>by rw[Ou] at r;cases r;exact .nil
 |k::ks,_,r=>by
  rw[Ix] at r;cases r with
  |cons h t=>exact .cons (AC h) (kK t)
abbrev KTd(H:Hp):List (List bt×V)->List (List bt×Addr×Il)->Prop:=NA λp q=>p.1=q.1/\H q.2.1=some (.tup (p.1.map kV))/\RelV p.2 q.2.2
theorem KTd.val {H:Hp}{kvs:List (List bt×V)}{xs:List (List bt×Addr×Il)}(r:KTd H kvs xs)(k:List bt):RelO (ip kvs k) ((Su xs k).map (·.2)):=by
 induction r with
 |nil=>exact True.intro
 | @cons p q ps qs h t ih=>
   obtain⟨h1,_,h2⟩:=h
   by_cases e:p.1=k
   ·have e':q.1=k:=h1.symm.trans e
    have b:Su (q::qs) k=some q.2:=by simp[Su,Kn,e']
    rw[jX e,b];exact h2
   ·have e': ¬q.1=k:=λz=>e (h1.trans z)
    have b:Su (q::qs) k=Su qs k:=by simp[Su,Kn,e']
    rw[kc e,b];exact ih
theorem KTd.repl {H:Hp}{kvs:List (List bt×V)}{xs:List (List bt×Addr×Il)}(r:KTd H kvs xs)(k:List bt){y:V}{u:Il}(ry:RelV y u):
 KTd H (kvs.map λkv=>if kv.1=k then(kv.1,y) else kv) (xs.map (putAt k u)):=by
 induction r with
 |nil=>exact .nil
 | @cons p q ps qs h t ih=>
   rw[Ix,Ix];refine .cons ?_ ih
   obtain⟨h1,h2,h3⟩:=h
   unfold putAt
   by_cases e:p.1=k
   ·rw[if_pos e,if_pos (h1.symm.trans e)];exact⟨h1,h2,ry⟩
   ·rw[if_neg e,if_neg (λz=>e (h1.trans z))];exact⟨h1,h2,h3⟩
theorem KTd.put {H:Hp}{kvs:List (List bt×V)}{xs:List (List bt×Addr×Il)}(r:KTd H kvs xs)(k:List bt){b:Addr}{y:V}{u:Il}(hb:H b=some (.tup (k.map kV)))(ry:RelV y u):
 KTd H (kZ kvs k y) (storedH xs k b u):=by
 have e:(kvs.any λkv=>decide (kv.1=k))=(Su xs k).isSome:=by
  rw[sL,(r.val k).isSome_eq,RH]
 unfold kZ storedH;rw[e]
 by_cases q:(Su xs k).isSome=true
 ·rw[if_pos q,if_pos q];exact r.repl k ry
 ·rw[if_neg q,if_neg q];exact WM r ⟨rfl,hb,ry⟩
theorem KTd.keeps {H H':Hp}{kvs:List (List bt×V)}{xs:List (List bt×Addr×Il)}(r:KTd H kvs xs)(ht: ∀b ys,H b=some (.tup ys)->H' b=some (.tup ys)):KTd H' kvs xs:=
 NA.mapP r λ_ _ z=>⟨z.1,ht _ _ z.2.1,z.2.2⟩
section
variable {P:Jf}{w:Jr}{H:Hp}{h:Heap}{a:Addr}
theorem C7 {u:HO}(ok:HOk P w H h)(e:Rd H a u):ObjOk P w H h a u:=e.ok ok
theorem AE {kvs:List (bt×V)}(ok:HOk P w H h)(e:Rd H a (.dK kvs)):kvs.length<=IM/\(a==LL)=false/\ ∃vs,KV kvs vs/\h.DictOf (bJ P w) a vs:=
 show ObjOk P w H h a (.dK kvs) from C7 ok e
theorem FK {kvs:List (bt×V)}(ok:HOk P w H h)(e:H a=some (.dK kvs)):kvs.length<=IM/\(a==LL)=false/\ ∃vs,KV kvs vs/\h.DictOf (bJ P w) a vs:=AE ok (.inl e)
theorem ut {ks:List bt}(ok:HOk P w H h)(e:H a=some (.tup (ks.map kV))):(NR (bJ P w)).is h ks a:=by
 obtain⟨_,its,r,⟨o,h1,h2,n,h3⟩,_⟩:=(show ObjOk P w H h a (.tup (ks.map kV)) from ok a _ e)
 exact⟨o,its.toArray,n,h1,h2,h3,by simpa using kK r⟩
theorem sQ {kvs:List (List bt×V)}(ok:HOk P w H h)(e:Rd H a (.dT kvs)):kvs.length<=IM/\(a==LL)=false/\
 ∃xs,KTd H kvs xs/\h.DictOfH (NR (bJ P w)) a xs:=by
 obtain⟨z,y,xs,r,o,es,ep,h1,h2,h3,h4,h5⟩:=(show ObjOk P w H h a (.dT kvs) from C7 ok e)
 refine⟨z,y,xs,r,o,es,ep,h1,h2,h3,h4,λx hx=>?_,h5⟩
 have all: ∀ {l:List (List bt×V)} {m:List (List bt×Addr×Il)},KTd H l m-> ∀x∈m,(NR (bJ P w)).is h x.1 x.2.1:=by
  intro l m q
  induction q with
  |nil=>intro x hx;exact nomatch hx
  | @cons p q ps qs hq t ih=>
    intro x hx;rcases Jn.mp hx with e|hx
    ·subst e
     exact ut ok (by rw[<-hq.1];exact hq.2.1)
    ·exact ih x hx
 exact all r x hx
theorem FD {kvs:List (List bt×V)}(ok:HOk P w H h)(e:H a=some (.dT kvs)):kvs.length<=IM/\(a==LL)=false/\
 ∃xs,KTd H kvs xs/\h.DictOfH (NR (bJ P w)) a xs:=sQ ok (.inl e)
end
def DGet(H:Hp)(a:Addr)(y:V)(r:Option V):Prop:=
 (∃kvs k,Rd H a (.dK kvs)/\y=kV k/\r=ip kvs k)\/ ∃kvs k b,Rd H a (.dT kvs)/\y=.ref b/\H b=some (.tup (k.map kV))/\r=ip kvs k
def DPut(H:Hp)(a:Addr)(y v:V)(H':Hp):Prop:=
 (∃kvs k,H a=some (.dK kvs)/\y=kV k/\kvs.length<IM/\H'=bp H a (.dK (kZ kvs k v)))\/
 ∃kvs k b,H a=some (.dT kvs)/\y=.ref b/\H b=some (.tup (k.map kV))/\kvs.length<IM/\H'=bp H a (.dT (kZ kvs k v))
theorem DGet.t {H:Hp}{a b:Addr}{kvs:List (List bt×V)}{k:List bt}(e:H a=some (.dT kvs))(eb:H b=some (.tup (k.map kV))):DGet H a (.ref b) (ip kvs k):=.inr ⟨kvs,k,b,.inl e,rfl,eb,rfl⟩
theorem DPut.t {H:Hp}{a b:Addr}{kvs:List (List bt×V)}{k:List bt}{v:V}(e:H a=some (.dT kvs))(eb:H b=some (.tup (k.map kV)))(hl:kvs.length<IM):
 DPut H a (.ref b) v (bp H a (.dT (kZ kvs k v))):=.inr ⟨kvs,k,b,e,rfl,eb,hl,rfl⟩
section
variable {X:Cx}{aa:List (Addr×Obj)}{σ:St}{H:Hp}{s:Io}{a:Addr}{y v:V}{u r:Il}{o:Option V}{A:Jm}{E:Il->Io->Prop}
theorem Inv.big(I:Inv X aa σ H s):LL<s.heap.objs.size:=by
 have h:IW<s.heap.objs.size:=(I.mod.glob.keeps I.bk).lt
 exact Os (by decide) h
theorem vI {h':Heap}{t':Nat}{ob:HO}(I:Inv X aa σ H s)(mu:Gw (H a))(hs:Kh a s.heap h')(he: ∃q,h'.get? a=some q)(new:ObjOk X.prog X.w (bp H a ob) h' a ob):
 Inv X aa σ (bp H a ob) {s with heap:=h',toks:=t'}:=
 I.write (x:=a) (e:=a) mu (.inl rfl) (λb q hb z=>(hs.2 b hb).trans z) he new
theorem DJ {P:Jf}{w:Jr}{H':Hp}{h':Heap}{kvs:List (bt×V)}{vs:List (bt×Il)}(z:kvs.length<=IM)(hd:(a==LL)=false)(rel:KV kvs vs)(dd:h'.DictOf (bJ P w) a vs):
 ObjOk P w H' h' a (.dK kvs):=⟨z,hd,vs,rel,dd⟩
theorem xD {H':Hp}{Q:Unit->Io->Prop}(hu:A.units+1<Kk)(I:Inv X aa σ H s)(g:DPut H a y v H')(ry:RelV y u)(rv:RelV v r)(h: ∀s',Inv X aa σ H' s'->Q () s'):
 IF (model X.prog X.w) A (UO (.ref a) u r) Q E s:=by
 rcases g with⟨kvs,k,e,ey,l,eH⟩|⟨kvs,k,b,e,ey,eb,l,eH⟩
 ·subst ey eH
  obtain⟨z,hd,vs,rel,dd⟩:=FK I.hok e
  have hz:vs.length<=sizeLine:=by rw[<-rel.length];exact z
  have hl:(kZ kvs k v).length<=sizeLine:=by have:=lR kvs k v;omega
  refine wpAny_setItem_pairs (hsz:=hz) (AC ry) dd λh' dd' hs=>h _ ?_
  have he: ∃q,h'.get? a=some q:=let⟨q,_,_,hq,_⟩:=dd';⟨q,hq⟩
  exact vI I (by rw[e];exact True.intro) hs he (DJ hl hd (rel.put k rv) dd')
 ·subst ey eH
  cases (show u=JI b from ry)
  obtain⟨z,hd,xs,rel,dd⟩:=FD I.hok e
  have hz:xs.length<=sizeLine:=by rw[<-L7 rel];exact z
  have hl:(kZ kvs k v).length<=sizeLine:=by have:=lR kvs k v;omega
  refine wpAny_setItem_heap (hsz:=hz) (LN hu) (ut I.hok eb) dd λh' dd' hs=>h _ ?_
  obtain⟨q,es,ep,hq,h2,h3,h4,_,h5⟩:=dd'
  refine vI I (by rw[e];exact True.intro) hs ⟨q,hq⟩ ⟨hl,hd,_,(rel.put k eb rv).keeps λc ys ec=>?_,q,es,ep,hq,h2,h3,h4,h5⟩
  rw[aA (Fw ec e (λz=>nomatch z))]
  exact ec
end
def Ds(i:Expr):Prop:= ∀ov iv,Ql i false ov iv=operate [ov,iv] (Rv ov iv)
theorem Cm {prog:Jf}{w:Jr}{A:Jm}{E:Il->Io->Prop}{s:Io}{env:Env}{value slice:Expr}{pos:Pos}{T id:String}{Q:Il->Io->Prop}
 (hl:Q9 (.type T) "__getitem__"=pure (some (.builtin id))) (hs:Ds slice)
 (h:IF (model prog w) A (eval value env) (λo s₁=>IF (model prog w) A (eval slice env) (λi s₂=>s₂.TypeIs o T/\IF (model prog w) A (Rv o i) Q E s₂) E s₁) E s):
 IF (model prog w) A (eval (.Subscript value slice pos) env) Q E s:=by
 refine Td (Jo h (λo s₁ h₁=>Jo h₁ (λi s₂ h₂=>?_) λ_ _ x=>x) λ_ _ x=>x)
 obtain⟨hT,h₂⟩:=h₂
 unfold QX;refine Ik ?_
 rw[getitemInPython_of_ne hT.not_modules];refine Ik (Oh hT hl ?_)
 have fin:IF (model prog w) A (Ql slice false o i) (λr s₃=>IF (model prog w) A (letTemporaryGo value o r>>=λ_=>pure r) Q E s₃) E s₂:=by
  rw[hs o i];exact wpAny_operating (Jo h₂ (λr s₃ h₃=>Ik (wpAny_letTemporaryGo (Im h₃))) λ_ _ x=>x)
 first
  |exact Im (Ik fin)
  |exact Ik (Im (Ik fin))
  |exact Ik fin
def FX(td ty tv:TE):TS:=λD σ H=>tv σ H λv H1=>td σ H1 λx H2=>ty σ H2 λy H3=> ∃a H4,x=.ref a/\DPut H3 a y v H4/\D.nx σ H4
section
variable {X:Cx}{o i e value:Expr}{pos pos' tpos:Pos}{td ty tv:TE}
theorem Bw(hu:X.A.units+1<Kk)(ho:PE X o td)(hi:PE X i ty)(hv:PE X value tv)(hs:Lp value (some (.Subscript o i pos')) pos.line X.env=pure false):
 PS X (.Assign [.Subscript o i pos'] value pos) (FX td ty tv):=by
 intro aa s σ H D I h;refine wpAny_Assign_Subscript (bR (hv aa s σ H _ I h) λr s1 ⟨v,H1,I1,rv,q1⟩=>bR (ho aa s1 σ H1 _ I1 q1) λu s2 ⟨x,H2,I2,rx,q2⟩=>bR (hi aa s2 σ H2 _ I2 q2) λiv s3 ⟨y,H3,I3,ry,a,H4,ex,g,q3⟩=>?_) hs
 subst ex;obtain rfl:u=JI a:=rx
 exact xD hu I3 g ry rv λs4 I4=>⟨σ,H4,I4,q3⟩
end
theorem yq {P:Jf}{w:Jr}{H:Hp}(h:Heap)(hb:LL<h.objs.size):ObjOk P w H (h.push {cls:=.type "dict",data:=.dict #[]}) h.objs.size (.dT []):=
 ⟨JV _,beq_eq_false_iff_ne.mpr (JW (Jp hb)),[],.nil,_, #[],0,IN _ rfl,⟨rfl,rfl,rfl⟩,rfl,rfl,MP⟩
def EW:TE:=λ_ H Q=> ∀p,H p=none->Q (.ref p) (bp H p (.dT []))
section
variable {X:Cx}{pos:Pos}
theorem Ac:PE X (.Dict [] [] pos) EW:=λaa s σ H Q I h=>
 wpAny_Dict_empty ⟨.ref s.heap.objs.size,_,I.laid (a:=s.heap.objs.size) (o:=.dT []) (t':=s.toks) (λ_ _ q=>Ip _ q) (Iv _) (yq s.heap I.big),rfl,h _ (I.hok.fresh (Iv _))⟩
end
structure M2(X:Cx)(o:Expr)(m:Str)(apos:Pos)(e f:Expr)(cpos:Pos):Prop where
 base:M6 o m X.env (eval o X.env)=eval o X.env
 few:((KQ cpos (ID [e,f] X.env)).all (λx=> !x.1)&&(Qm cpos (N9 [] X.env)).all (λx=>x.1.isSome)
  &&decide (([e,f]:List Expr).length+([]:List NB).length+(if([]:List NB).isEmpty then 0 else 1)<30))=true
 line:(apos.endLine==cpos.line)=true
 trees:KQ cpos (ID [e,f] X.env)=[(false,eval e X.env),(false,eval f X.env)]
def HR(H:Hp)(a:Addr):Prop:=(∃kvs,Rd H a (.dK kvs))\/ ∃kvs,Rd H a (.dT kvs)
theorem DC {X:Cx}{aa:List (Addr×Obj)}{σ:St}{H:Hp}{s:Io}{a:Addr}(I:Inv X aa σ H s)(d:HR H a):
 s.TypeIs (.ref a) "dict"/\(∀b,JI a=.ref b-> ∃ob,s.heap.get? b=some ob/\ob.dict=none)/\(a==LL)=false:=by
 rcases d with⟨kvs,e⟩|⟨kvs,e⟩
 ·obtain⟨_,hd,vs,_,dd⟩:=AE I.hok e
  refine⟨dd.typeIs,λb q=>?_,hd⟩
  cases q
  obtain⟨ob,_,_,h1,h2,_⟩:=dd
  exact⟨ob,h1,h2.2.1⟩
 ·obtain⟨_,hd,xs,_,dd⟩:=sQ I.hok e
  refine⟨dd.typeIs,λb q=>?_,hd⟩
  cases q
  obtain⟨ob,_,_,h1,h2,_⟩:=dd
  exact⟨ob,h1,h2.2.1⟩
section
variable {X:Cx}{aa:List (Addr×Obj)}{σ:St}{H:Hp}{s:Io}{a:Addr}{y d:V}{u r:Il}{o:Option V}{A:Jm}{E:Il->Io->Prop}
theorem D9 {Q:Il->Io->Prop}(hu:A.units+1<Kk)(I:Inv X aa σ H s)(g:DGet H a y o)(ry:RelV y u)(rd:RelV d r)(h: ∀w' s',Inv X aa σ H s'->RelV (o.getD d) w'->Q w' s'):
 IF (model X.prog X.w) A (call (.builtin "dict.get") [.ref a,u,r]) Q E s:=by
 rcases g with⟨kvs,k,e,ey,l⟩|⟨kvs,k,b,e,ey,eb,l⟩
 ·subst ey
  obtain⟨z,hd,vs,rel,dd⟩:=AE I.hok e
  refine call_meetsIn NM dd.typeIs PR (Pw _ _ _) (meets_dict_get_default (bJ X.prog X.w) a (AC ry) hd r) ⟨_,dd.mapOf,h _ _ (I.tok _) ?_⟩
  rw[l];exact(rel.val k).getD rd
 ·subst ey
  cases (show u=JI b from ry)
  obtain⟨z,hd,xs,rel,dd⟩:=sQ I.hok e
  refine call_meetsIn NM dd.typeIs PR (Pw _ _ _) (meetsH_dict_get_default (NR (bJ X.prog X.w)) a b hd r) ⟨LN hu,k,xs,ut I.hok eb,dd,h _ _ (I.tok _) ?_⟩
  rw[l];exact(rel.val k).getD rd
end
def D8(td ty tx:TE):TE:=λσ H Q=>td σ H λx H1=> ∃a,x=.ref a/\HR H1 a/\ty σ H1 λy H2=>tx σ H2 λz H3=> ∃o,DGet H3 a y o/\Q (o.getD z) H3
section
variable {X:Cx}{o e f:Expr}{apos cpos:Pos}{td ty tx:TE}
theorem z8(hu:X.A.units+1<Kk)(ho:PE X o td)(he:PE X e ty)(hf:PE X f tx)(m:M2 X o "get" apos e f cpos):PE X (.Call (.Attribute o "get" apos) [e,f] [] cpos) (D8 td ty tx):=by
 intro aa s σ H Q I h;refine wpAny_Call_method m.base m.few m.line PySem.F.plainAttrs_dict NM PySem.F.type_dict_get (bR (ho aa s σ H _ I h) λu s1 hq_=>?_)
 obtain⟨x,H1,I1,rx,a,ex,d,q1⟩:=hq_
 subst ex;obtain rfl:u=JI a:=rx
 obtain⟨t1,t2,_⟩:=DC I1 d
 refine⟨t1,t2,?_⟩
 rw[m.trees];refine PL rfl (Qn (OI (bR (he aa s1 σ H1 _ I1 q1) λiv s2 ⟨y,H2,I2,ry,q2⟩=>
  OI (bR (hf aa s2 σ H2 _ I2 q2) λfv s3 ⟨z,H3,I3,rz,ov,g,q3⟩=>Rt ?_))))
 exact D9 hu I3 g ry rz λw' s4 I4 rw'=>⟨_,H3,I4,rw',q3⟩
end
end L2
namespace PySem
open Sem (wp)
end PySem
namespace L2
open PySem PySem.Spec PyProof.Rows
end L2
namespace PySem
end PySem
namespace L2
open PySem PySem.Spec PyProof.Rows
def Dk(K:Iz):R2:=λx y H Q=> ∃a b xs ys,x=.ref a/\y=.ref b/\SqT K H a xs/\SqT K H b ys/\xs.length+ys.length<=IM/\
 (xs=[]->Q (.ref b) H)/\(xs≠[]->ys=[]->Q (.ref a) H)/\(xs≠[]->ys≠[]-> ∀p,H p=none->Q (.ref p) (bp H p (.tup (xs++ys))))
section
variable {X:Cx}{c:Ct}{a b:Expr}{f g:FE}{pos:Pos}
theorem AT:km X (Mj .Add) (Dk X.K):=by
 intro aa s σ H x y v u Q I rx ry h;obtain⟨a,b,xs,ys,e1,e2,ha,hb,hz,q0,q1,q2⟩:=h
 by_cases hx:xs=[]
 ·subst e1 e2
  cases rx
  cases ry
  obtain⟨its,r1,p1,_⟩:=I.tuple ha
  obtain⟨its2,r2,p2,_⟩:=I.tuple hb
  obtain⟨m,F⟩:=I.fr
  have h0:its=[]:=r1.nil_iff.mpr hx
  exact add_tuples F News.nil p1 p2 (λ_=>⟨.ref b,H,I,rfl,q0 hx⟩) (λz=>absurd h0 z) (λz=>absurd h0 z) (by rw[<-r1.length,<-r2.length];exact hz)
 ·exact Cd aa s σ H x y v u Q I rx ry ⟨a,b,xs,ys,e1,e2,ha,hb,hx,hz,q1 hx,q2 hx⟩
def mU:D->D->Option D
 | .tup xs,.tup ys=>if xs.length+ys.length<=IM then some (.tup (xs++ys)) else none
 |_,_=>none
theorem AS {K:Iz}:oe K .s (Dk K) mU:=by
 intro H hid v u x y d Q hf h r1 r2 q;unfold mU at h;split at h
 ·split at h
  ·rename_i hc
   cases h
   obtain⟨a,xs,rfl,h0,h1,h2⟩:=r1.tup
   obtain⟨b,ys,rfl,g0,g1,g2⟩:=r2.tup
   refine⟨a,b,xs,ys,rfl,rfl,h1,g1,by rw[h2.length,g2.length];exact hc,λz=>?_,λ_ z=>?_,λ_ z p hp=>?_⟩
   ·subst z;cases h2
    exact q _ H (Same.refl _) (.tup g0 g2)
   ·subst z;cases g2
    refine q _ H (Same.refl _) ?_
    rw[KD];exact .tup h0 h2
   ·exact q _ _ (aO hp _) (nS hp (hf p hp) (h2.append g2))
  ·cases h
 ·cases h
theorem CQ {k1 k2:Kd}(ha:DP X c k1 a f)(hb:DP X c k2 b g):DP X c .s (.BinOp a .Add b pos) (aj mU f g):=nE AT AS ha hb
end
section
variable {K:Iz}{c:Ct}{hid:bq}{ρ:az}{σ:St}{H:Hp}{a:Addr}
theorem SR.setD {b:Ob}(h:SR K c hid ρ σ H)(ho:ObOk K c hid H a b)(no: ∀i:Nat,Ow ρ[i]? ->σ[i]? ≠some (some (.ref a)))(i:Nat):
 SR K c hid (ρ.set i (.ob b)) (σ.set i (some (.ref a))) H:=by
 refine⟨h.tr,h.ht,h.h0,h.kp,h.t0,h.c0,h.m0,by simp[h.len],λj s q=>?_,λj l z n o1 o2 q1 q2=>?_⟩
 ·by_cases e:j=i
  ·subst e
   have lt:j<ρ.length:=by
    have:=(IE.mp q).1
    simpa using this
   rw[IX lt] at q;cases q
   exact⟨a,IX (by rw[h.len];exact lt),ho⟩
  ·rw[IG (JW e)] at q
   have w:=h.sl j s q
   have es:(σ.set i (some (V.ref a)))[j]? =σ[j]? :=IG (JW e)
   cases s with
   |no=>trivial
   |v d=>obtain⟨x,h1,h2⟩:=w;exact⟨x,es.trans h1,h2⟩
   |own ds=>obtain⟨a,xs,h1,h2⟩:=w;exact⟨a,xs,es.trans h1,h2⟩
   |arg ds=>obtain⟨a,xs,h1,h2⟩:=w;exact⟨a,xs,es.trans h1,h2⟩
   |ob b=>obtain⟨a,h1,h2⟩:=w;exact⟨a,es.trans h1,h2⟩
 ·by_cases e1:j=i
  ·subst e1
   have e2:l≠j:=λe=>n e.symm
   rw[IG (JW e2)] at o2 q2
   by_cases lt:j<σ.length
   ·rw[IX lt] at q1;cases q1;exact no l o2 q2
   ·rw[Ka (by simpa using lt)] at q1;cases q1
  ·rw[IG (JW e1)] at o1 q1
   by_cases e2:l=i
   ·subst e2
    by_cases lt:l<σ.length
    ·rw[IX lt] at q2;cases q2;exact no j o1 q1
    ·rw[Ka (by simpa using lt)] at q2;cases q2
   ·rw[IG (JW e2)] at o2 q2
    exact h.ap j l z n o1 o2 q1 q2
end
open PySem PySem.W PySem.Spec PyProof.Rows
section
variable {prog:Jf}{w:Jr}{A:Jm}{E:Il->Io->Prop}{s:Io}
theorem vi {T:String}{r d:Addr}{n:Nat}{P:Nat->Il->Prop}{OK:Heap->Prop}{R:List Il->Io->Prop}(src:KdlSrc prog w T r d n P OK)(calm:A.handled=none)(good:OK s.heap)(few:n<=IM)
 (q: ∀(g:Heap) (tk:Nat) (us:Array Il),(∀b o,s.heap.get? b=some o->g.get? b=some o)->s.heap.objs.size<g.objs.size->ItemsOf P us n->R us.toList {s with heap:=g,toks:=tk}):IF (model prog w) A (OZ (.ref r)) R E s:=by
 obtain⟨rl,dl⟩:=src.there _ good
 unfold OZ;refine Ik (ON (KF NK ?_))
 rw[Ks NL _];show IF _ A.in1 (RC []>>=λz=>Pp (.builtin "list.__iadd__" ⟨[z,.ref r],[]⟩)) _ _ s
 refine Ik (Kq (Im ⟨N6 L6 _,KF O0 ?_⟩))
 rw[Ks L6 _];show IF _ A.in1 (MC (.ref s.heap.objs.size) (.ref r) (.ref s.heap.objs.size)) _ _ _;have last: ∀(g:Heap) (tk:Nat) (us:Array Il) (m:Nat),(∀b o,s.heap.get? b=some o->g.get? b=some o)->g.get? s.heap.objs.size=some {cls:=.type "list",dict:=none,data:=.seq us m,slots:= #[]}->ItemsOf P us n->
  IF (model prog w) A (do
   match (<-load s.heap.objs.size).data with
    |Data.seq xs _=>pure xs.toList
    |_=>Kz "internal:collect") R E {s with heap:=g,toks:=tk}:=λg tk us m kg hg hi=>Ik (Q8 hg (Im (q g tk us kg (IJ hg) hi)))
 have ext:=kdl_extend (A:=A) (s:={s with heap:=s.heap.push {cls:=.type "list",data:=.seq ([]:List Il).toArray}})
  (R:=λz t=> ∃(g:Heap) (tk:Nat) (us:Array Il) (m:Nat),z=.ok (.ret (.ref s.heap.objs.size))/\t={s with heap:=g,toks:=tk}/\(∀b o,s.heap.get? b=some o->g.get? b=some o)/\g.get? s.heap.objs.size=some {cls:=.type "list",dict:=none,data:=.seq us m,slots:= #[]}/\ItemsOf P us n)
  src calm (src.keep _ _ good λb _ o e=>Ip _ e) s.heap.objs.size (Ms rl) (Ms dl) (.ref s.heap.objs.size) 0 (IN _ rfl)
  (λg tk us m kg hg hi=>⟨g,tk,us,m,rfl,rfl,λb o e=>kg b o (Jp (IJ e)) (Ip _ e),hg,hi⟩) few
 refine Jo ext (λz t h=>?_) λz t h=>by obtain⟨_,_,_,_,e,_⟩:=h;cases e
 cases z with
 |done f=>obtain⟨g,tk,us,m,e,rfl,kg,hg,hi⟩:=h;cases e;exact last g tk us m kg hg hi
 |again c=>exact⟨h.1,Lj h.2 λz t' hr=>by obtain⟨g,tk,us,m,rfl,rfl,kg,hg,hi⟩:=hr;exact last g tk us m kg hg hi⟩
end
section
variable {X:Cx}{c:Ct}{pos p py:Pos}{x y:Str}
theorem oO {K:Iz}{F:Hp}: ∀ms:List Int,Reps K F (ms.map V.int) (ms.map D.int)
 | []=>.nil
 |m::ms=>.cons .int (oO ms)
end
def rF(i:Nat)(ρ:az):Option (List ((List bt)×D)):=match ρ[i]? with
 |some (.ob (.dT kvs))=>some kvs
 |_=>none
theorem iU {i:Nat}{ρ:az}{kvs:List ((List bt)×D)}(h:rF i ρ=some kvs):ρ[i]? =some (.ob (.dT kvs)):=by
 unfold rF at h;split at h
 ·cases h;assumption
 ·cases h
def eN(kvs:List ((List bt)×D))(k:List bt):Option D:=(kvs.find? λkv=>decide (kv.1=k)).map (·.2)
def oa(kvs:List ((List bt)×D))(k:List bt)(d:D):List ((List bt)×D):=
 if(kvs.any λkv=>decide (kv.1=k))=true then kvs.map (λkv=>if kv.1=k then(kv.1,d) else kv) else kvs++[(k,d)]
def KRt(K:Iz)(F:Hp)(us:List ((List bt)×V))(kvs:List ((List bt)×D)):Prop:=us.map (·.1)=kvs.map (·.1)/\Reps K F (us.map (·.2)) (kvs.map (·.2))
theorem KRt.inv {K:Iz}{F:Hp}: ∀ {us:List ((List bt)×V)} {kvs:List ((List bt)×D)},KRt K F us kvs->(us=[]/\kvs=[])\/ ∃k v us' d kvs',us=(k,v)::us'/\kvs=(k,d)::kvs'/\Rep K F v d/\KRt K F us' kvs'
 | [],[],_=>.inl ⟨rfl,rfl⟩
 | [],_::_,h=>by cases h.1
 |_::_,[],h=>by cases h.1
 |(k,v)::us,(k',d)::kvs,h=>by
  obtain⟨h1,h2⟩:=h
  rw[Ix,Ix] at h1 h2;injection h1 with e1 e2
  cases h2 with
  |cons r rs=>
   have e1:k=k':=e1
   subst e1;exact .inr ⟨k,v,us,d,kvs,rfl,rfl,r,e2,rs⟩
theorem KRt.val {K:Iz}{F:Hp}(k:List bt): ∀ {us:List ((List bt)×V)} {kvs:List ((List bt)×D)},KRt K F us kvs->(ip us k=none/\eN kvs k=none)\/ ∃v d,ip us k=some v/\eN kvs k=some d/\Rep K F v d:=by
 intro us
 induction us with
 |nil=>
  intro kvs h;rcases h.inv with⟨_,rfl⟩|⟨_,_,_,_,_,e,_⟩
  ·exact .inl ⟨rfl,rfl⟩
  ·cases e
 |cons p us ih=>
  intro kvs h;rcases h.inv with⟨e,_⟩|⟨k',v,us',d,kvs',e,rfl,r,rs⟩
  ·cases e
  ·cases e
   by_cases ek:k'=k
   ·exact .inr ⟨v,d,jX ek,by simp[eN,Kn,ek],r⟩
   ·have e1:ip ((k',v)::us) k=ip us k:=kc ek
    have e2:eN ((k',d)::kvs') k=eN kvs' k:=by simp[eN,Kn,ek]
    rw[e1,e2];exact ih rs
theorem KRt.any {K:Iz}{F:Hp}(k:List bt){us:List ((List bt)×V)}{kvs:List ((List bt)×D)}(h:KRt K F us kvs):(us.any λkv=>decide (kv.1=k))=kvs.any λkv=>decide (kv.1=k):=by
 have e1:(us.any λkv=>decide (kv.1=k))=(us.map (·.1)).any λx=>decide (x=k):=by rw[Oy];rfl
 have e2:(kvs.any λkv=>decide (kv.1=k))=(kvs.map (·.1)).any λx=>decide (x=k):=by rw[Oy];rfl
 rw[e1,e2,h.1]
theorem KRt.cons {K:Iz}{F:Hp}{k:List bt}{v:V}{d:D}{us:List ((List bt)×V)}{kvs:List ((List bt)×D)}(r:Rep K F v d)(h:KRt K F us kvs):KRt K F ((k,v)::us) ((k,d)::kvs):=⟨by rw[Ix,Ix,h.1],.cons r h.2⟩
theorem KRt.repl {K:Iz}{F:Hp}(k:List bt){v:V}{d:D}(r:Rep K F v d): ∀ {us:List ((List bt)×V)} {kvs:List ((List bt)×D)},KRt K F us kvs->KRt K F (us.map (λkv=>if kv.1=k then(kv.1,v) else kv)) (kvs.map (λkv=>if kv.1=k then(kv.1,d) else kv)):=by
 intro us
 induction us with
 |nil=>
  intro kvs h;rcases h.inv with⟨_,rfl⟩|⟨_,_,_,_,_,e,_⟩
  ·exact h
  ·cases e
 |cons p us ih=>
  intro kvs h;rcases h.inv with⟨e,_⟩|⟨k',v',us',d',kvs',e,rfl,r',rs⟩
  ·cases e
  ·cases e
   rw[Ix,Ix]
   by_cases ek:k'=k
   ·rw[if_pos ek,if_pos ek];exact KRt.cons r (ih rs)
   ·rw[if_neg ek,if_neg ek];exact KRt.cons r' (ih rs)
theorem KRt.put {K:Iz}{F:Hp}(k:List bt){v:V}{d:D}(r:Rep K F v d){us:List ((List bt)×V)}{kvs:List ((List bt)×D)}(h:KRt K F us kvs):KRt K F (kZ us k v) (oa kvs k d):=by
 unfold kZ oa;rw[h.any k];split
 ·exact h.repl k r
 ·refine⟨by rw[JK,JK,h.1];rfl,?_⟩
  rw[JK,JK];exact h.2.append (.cons r .nil)
theorem KRt.len {K:Iz}{F:Hp}{us:List ((List bt)×V)}{kvs:List ((List bt)×D)}(h:KRt K F us kvs):us.length=kvs.length:=by
 have:=congrArg KU h.1
 simpa using this
section
variable {K:Iz}{c:Ct}{hid:bq}{ρ:az}{σ:St}{H:Hp}{a:Addr}
theorem SR.dictT(h:SR K c hid ρ σ H){i:Nat}{kvs:List ((List bt)×D)}(e:rF i ρ=some kvs): ∃a us,σ[i]? =some (some (.ref a))/\hid a=true/\c.H₀ a=none/\H a=some (.dT us)/\KRt K (vw H hid) us kvs:=by
 obtain⟨a,h1,⟨h2,h3⟩,us,h4,h5,h6⟩:=h.sl i _ (iU e)
 exact⟨a,us,h1,h2,h3,h4,h5,h6⟩
theorem SR.putDT {i:Nat}{kvs kvs':List ((List bt)×D)}{us':List ((List bt)×V)}(h:SR K c hid ρ σ H)(hg:rF i ρ=some kvs)(ha:σ[i]? =some (some (.ref a)))(r:KRt K (vw H hid) us' kvs'):SR K c hid (ρ.set i (.ob (.dT kvs'))) σ (bp H a (.dT us')):=by
 obtain⟨a1,us,h1,h2,h3,h4,h5⟩:=h.dictT hg
 rw[ha] at h1;cases h1;have lt:i<ρ.length:=(IE.mp (iU hg)).1
 have vv:vw (bp H a (.dT us')) hid=vw H hid:=dc h2
 have tr': ∀b o,H b=some o-> ∃o2,(bp H a (.dT us')) b=some o2:=λb o q=>by
  by_cases e:b=a
  ·subst e;exact⟨_,aC⟩
  ·exact⟨o,by rw[aA e];exact q⟩
 have owi:Ow ρ[i]? :=by rw[iU hg];trivial
 have ne: ∀(j:Nat) (s:Sl) (a':Addr),j≠i->ρ[j]? =some s->Ow (some s)->σ[j]? =some (some (.ref a'))->a'≠a:=λj s a' n e o q w=>by
  subst w;exact h.ap j i a' n (by rw[e];exact o) owi q ha
 have ows: ∀j:Nat,Ow (ρ.set i (.ob (.dT kvs')))[j]? ->Ow ρ[j]? :=λj o=>by
  by_cases e:j=i
  ·subst e;exact owi
  ·rw[IG (JW e)] at o;exact o
 refine⟨λb hb=>let⟨o,q⟩:=h.tr b hb;tr' b o q,λb xs hb q=>by
  by_cases e:b=a
  ·subst e;rw[aC] at q;cases q
  ·rw[aA e] at q;exact h.ht b xs hb q,h.h0,λb o q m=>?_,λb o q=>let⟨o2,q2⟩:=h.t0 b o q;tr' b o2 q2,h.c0,h.m0,by simp[h.len],λj s e=>?_,λj l z n o1 o2=>h.ap j l z n (ows j o1) (ows l o2)⟩
 ·rw[aA (aX q h3)];exact h.kp b o q m
 ·by_cases ej:j=i
  ·subst ej
   rw[IX lt] at e;cases e
   exact⟨a,ha,⟨h2,h3⟩,us',aC,r.1,by rw[vv];exact r.2⟩
  ·rw[IG (JW ej)] at e
   have z:=h.sl j s e
   cases s with
   |no=>trivial
   |v d=>obtain⟨x,h1,h2⟩:=z;exact⟨x,h1,by rw[vv];exact h2⟩
   |own ds=>obtain⟨a',xs,h1,h2,h3,h4,h5⟩:=z;exact⟨a',xs,h1,by rw[aA (ne j _ a' ej e trivial h1)];exact h2,h3,h4,by rw[vv];exact h5⟩
   |arg ds=>obtain⟨a',xs,h1,h2,h3,h4,h5⟩:=z;exact⟨a',xs,h1,by rw[aA (ne j _ a' ej e trivial h1)];exact h2,h3,h4,by rw[vv];exact h5⟩
   |ob b=>obtain⟨a',h1,h2⟩:=z;exact⟨a',h1,h2.mono (λow o q=>by rw[aA (ne j _ a' ej e ow h1)];exact q) (by rw[vv];exact Same.refl _) λ_ q=>q⟩
end
def rC:D->Option (List Int)
 | .tup ds=>eQ ds
 |_=>none
theorem iP {d:D}{ns:List Int}(h:rC d=some ns):d=.tup (ns.map D.int):=by
 unfold rC at h;split at h
 ·rw[fI h]
 ·cases h
theorem nq {K:Iz}{F:Hp}: ∀ {xs:List V} {ns:List Int},Reps K F xs (ns.map D.int)->xs=(ns.map OV).map kV
 |_,[],h=>by cases h;rfl
 |_,n::ns,h=>by
  cases h with
  |cons r rs=>cases r;rw[nq rs];rfl
section
variable {X:Cx}{aa:List (Addr×Obj)}{σ:St}{H:Hp}{s:Io}{a b:Addr}{A:Jm}{E:Il->Io->Prop}
theorem EO {ks:List bt}(I:Inv X aa σ H s)(h:SqT X.K H b (ks.map kV)):(NR (bJ X.prog X.w)).is s.heap ks b:=by
 obtain⟨its,r,⟨o,h1,h2,n,h3⟩,_⟩:=I.tuple h
 exact⟨o,its.toArray,n,h1,h2,h3,by simpa using kK r⟩
end
section
variable {X:Cx}{c:Ct}{k k1 k2:Kd}{e f ev:Expr}{es:List Expr}{fe ff fk fv:FE}{fs:FA}{pos pos' py apos cpos p:Pos}{x y:Str}{x1:_}
def iK(ns:List Int):List bt:=ns.map OV
def Di(i:Nat):FS:=λρ=>.nx (ρ.set i (.ob (.dT [])))
theorem zf(i:Nat)(hn:X.N.Nodup)(hi:X.N[i]? =some x:=by rfl)(hx:xW X.env.scope x:=by first|exact Kf rfl|exact Jw rfl)(hs:Lp (.Dict [] [] p) (some (.Name x pos')) pos.line X.env=pure false:=by rfl)
 (hf:X.fn x=true\/X.env.scope.names.lookup x=some .local:=by first|exact .inl rfl|exact .inr rfl|assumption):DS X c k (.Assign [.Name x pos'] (.Dict [] [] p) pos) (Di i):=λρ=>PS.imp (lh hn hi hx Ac hs hf) λD σ H hq_=>by
 obtain⟨hid,sr,q⟩:=hq_
 intro a ha;have sm:=aO ha (.dT [])
 have nf:=sr.fresh ha
 refine q _ _ (bF hid a) (SR.setD (a:=a) (b:=.dT []) (sr.hide sm ha aC) ⟨⟨fj,sr.fresh0 ha⟩,[],aC,rfl,.nil⟩ (sr.notOw nf) i) λb o w=>?_
 obtain⟨w1,w2⟩:=vw_some.mp w
 refine vw_some.mpr ⟨?_,sm b o w2⟩
 unfold bF;rw[w1];have:b≠a:=aX w2 ha
 simp[this]
theorem qI {hid:bq}{H':Hp}{z:V}{ns:List Int}(h:Rep1 X.K H' (vw H' hid) z (.tup (ns.map D.int))): ∃b,z=.ref b/\SqT X.K H' b ((iK ns).map kV):=by
 obtain⟨b,xs,rfl,_,h2,h3⟩:=h.tup
 refine⟨b,rfl,?_⟩
 rw[<-show xs=(iK ns).map kV from nq h3];exact h2
end
def RawAt(h:Heap)(d:Addr)(es:Array RZ)(ep:Nat):Prop:= ∃o,h.get? d=some o/\o.ExactDict/\o.data=.dict es ep
section
variable {prog:Jf}{w:Jr}{A:Jm}{E:Il->Io->Prop}{s:Io}{d it:Addr}{es:Array RZ}{ep i:Nat}
theorem RawAt.ty(h:RawAt s.heap d es ep):s.TypeIs (.ref d) "dict":=let⟨o,h1,h2,_⟩:=h;⟨o,h1,h2.1⟩
theorem An {Q:Il->Io->Prop}(lo:(d==LL)=false)(x:RawAt s.heap d es ep)
 (q:Q (.ref s.heap.objs.size) {s with heap:=s.heap.push {cls:=.type "dict_keyiterator",data:=.fields #[.ref d,.int 0 0,.int es.size 0,.int ep 0]}}):IF (model prog w) A (O7 (.ref d)) Q E s:=by
 have ty:=x.ty
 obtain⟨o,g1,g2,g3⟩:=x
 refine O1 ty Sb (Kg Sb ty F.entry_dict_iter ?_ (F.args_dict_iter_1 _))
 unfold LR.«dict.__iter__»;refine Ik ?_
 unfold TQ;refine Ik (wpAny_notOrdered_dict ty ?_)
 show IF _ _ (pure (JI d)) _ _ s;refine Im ?_
 show IF _ _ (Qg d>>=_) _ _ s;unfold Qg;rw[if_neg (by rw[lo];exact Lh)]
 refine Ik (Im (Ik (O2 g1 g3 (Ik (P5 g1 g3 ?_)))))
 refine Ik (Kq (Im ⟨_,rfl,"dict_keyiterator",_,⟨_,IN _ rfl,rfl⟩,KP.lookup,?_⟩))
 simpa [NT] using q
theorem yg {Q:Option Il->Io->Prop}(hit:s.heap.IsKeyIter it d i es.size ep)(x:RawAt s.heap d es ep)(hi:i<es.size)
 (q: ∀h',h'.IsKeyIter it d (i+1) es.size ep->Kh it s.heap h'->Q (some es[i].key) {s with heap:=h'}):IF (model prog w) A (No (.ref it)) Q E s:=by
 obtain⟨o,k1,k2,k3⟩:=id hit
 obtain⟨od,g1,g2,g3⟩:=id x
 unfold No;refine Ik (N7 (Ml (name:=OA "__next__") hit.typeIs KP (Kg KP hit.typeIs Oe ?_ (NX _))))
 refine Ik (Im (Ik (Ik ?_)))
 first|refine Ik (Ln hit.typeIs (Im (Ik (MQ k1 k3 ?_))))|refine Ik (Mb hit.typeIs (Im (Ik (MQ k1 k3 ?_))))
 simp only[show Om "dict_keyiterator"=false by decide,IB,if_false]
 show IF _ _ (if(JI d==IV)=true then _ else _) _ _ s;rw[if_neg (show¬((JI d==IV)=true) from Lh)]
 refine Ik (Im (Ik (O2 g1 g3 ?_)))
 rw[if_neg (by simp)]
 refine Ik (Im (Ik (P5 g1 g3 ?_)))
 rw[if_neg (by simp)]
 refine Im ?_
 simp only[show¬((i:Int)<0) from by omega,if_false,Lq,IU hi]
 refine Ik ?_
 first|refine Ik (Ln hit.typeIs (Im (Ik (NN hit.typeIs ?_))))|refine Ik (Mb hit.typeIs (Im (Ik (NN hit.typeIs ?_))))
 show IF _ _ (setField (.ref it) 1 (NT ((i:Int)+1))>>=_) _ _ s;refine Ik (NF k1 k3 (by simp) ?_)
 have nx:(s.heap.update it (Mc (·.setIfInBounds 1 (NT ((i:Int)+1))))).IsKeyIter it d (i+1) es.size ep:=⟨_,JN _ k1 (NO (LO k3 _)),(O3 ..).trans k2,by rw[LO k3];simp[NT]⟩
 refine Ik (JM (Ik (NN (s:={s with heap:=s.heap.update it (Mc (·.setIfInBounds 1 (NT ((i:Int)+1))))}) nx.typeIs ?_)))
 show IF _ _ (pure es[i].key) _ _ _;exact Im (Im ⟨_,rfl,Im (q _ nx (Ke ..))⟩)
theorem Ck {Q:Option Il->Io->Prop}(calm:A.handled=none)(hit:s.heap.IsKeyIter it d es.size es.size ep)(x:RawAt s.heap d es ep)
 (q: ∀h',WO it s.heap h'->Q none {s with heap:=h'}):IF (model prog w) A (No (.ref it)) Q E s:=by
 obtain⟨o,k1,k2,k3⟩:=id hit
 obtain⟨od,g1,g2,g3⟩:=id x
 unfold No;refine Ik (N7 (Ml (name:=OA "__next__") hit.typeIs KP (Kg KP hit.typeIs Oe ?_ (NX _))))
 refine Ik (Im (Ik (Ik ?_)))
 first|refine Ik (Ln hit.typeIs (Im (Ik (MQ k1 k3 ?_))))|refine Ik (Mb hit.typeIs (Im (Ik (MQ k1 k3 ?_))))
 simp only[show Om "dict_keyiterator"=false by decide,IB,if_false]
 show IF _ _ (if(JI d==IV)=true then _ else _) _ _ s;rw[if_neg (show¬((JI d==IV)=true) from Lh)]
 refine Ik (Im (Ik (O2 g1 g3 ?_)))
 rw[if_neg (by simp)]
 refine Ik (Im (Ik (P5 g1 g3 ?_)))
 rw[if_neg (by simp)]
 refine Im ?_
 simp only[show¬((es.size:Int)<0) from by omega,if_false,Lq,Mo (Iv es.size)]
 refine Ik ?_
 first|refine Ik (Ln hit.typeIs (Im ?_))|refine Ik (Mb hit.typeIs (Im ?_))
 show IF _ _ (setField (.ref it) 0 .none>>=_) _ _ s;refine Ik (NF k1 k3 (by simp) ?_)
 show IF _ _ (Yl (.type "StopIteration") []>>=_) _ _ _;refine Ik ?_
 simp only[Yl,newTuple];refine Ik (Kq (Ik (m:=OP _ _) (Qu (a:=IV) (by first|rfl|(simp only[OP];rfl)) (Kq ?_ (by size_fits)))) (by size_fits))
 simp only[raiseNew];refine Ik (Uh ?_)
 rw[show A.in1.handled=none from calm];refine Ik (Im (wpAny_throw ?_));refine Ik (MZ (T:="StopIteration") (b:=true) ⟨_,IN _ rfl,rfl⟩ Tu ?_)
 exact Im (q _ (((Ke ..).extBut.push _).push _))
end
abbrev HX(H:Hp):List V->List (List Int)->Prop:=NA λy ks=> ∃b,y=.ref b/\H b=some (.tup (ks.map V.int))
theorem zJ {H:Hp}: ∀ {us:List (List bt×V)} {xs:List (List bt×Addr×Il)} {kss:List (List Int)},KTd H us xs->us.map (·.1)=kss.map iK->HX H (xs.map λx=>V.ref x.2.1) kss
 |_,_,[],r,e=>by
  cases r with
  |nil=>exact .nil
  |cons _ _=>cases e
 |_,_,ks::kss,r,e=>by
  cases r with
  |nil=>cases e
  | @cons p q ps qs h t=>
    rw[Ix,Ix] at e;injection e with e1 e2
    refine .cons ⟨q.2.1,rfl,?_⟩ (zJ t e2)
    rw[h.2.1,e1];unfold iK;rw[I0];rfl
theorem vt: ∀xs:List (List bt×Addr×Il),Vals (xs.map λx=>V.ref x.2.1) (xs.map λx=>JI x.2.1)
 | []=>.nil
 |_::xs=>.cons rfl (vt xs)
theorem Da: ∀ {ns:List Int} {us:List Il},Vals (ns.map V.int) us->oq us ns
 | [],_,h=>by cases h;exact .nil
 |_::_,_,h=>by cases h with|cons h1 h2=>exact .cons h1 (Da h2)
section
variable {X:Cx}
def intKs:List (List bt×D)->Option (List (List Int))
 | []=>some []
 |(k,_)::r=>(intK k).bind λns=>(intKs r).map (ns:: ·)
where intK:List bt->Option (List Int)
 | []=>some []
 | .inl i::r=>(intK r).map (i:: ·)
 |_=>none
theorem wb: ∀ {k:List bt} {ns:List Int},intKs.intK k=some ns->k=iK ns
 | [],_,h=>by cases h;rfl
 | .inl i::r,ns,h=>by
   have h:(intKs.intK r).map (i:: ·)=some ns:=h
   obtain⟨t,e,rfl⟩:=JR.mp h
   rw[wb e];rfl
 | .inr _::_,_,h=>by cases h
theorem tD: ∀ {kvs:List (List bt×D)} {kss:List (List Int)},intKs kvs=some kss->kvs.map (·.1)=kss.map iK
 | [],_,h=>by cases h;rfl
 |(k,d)::r,kss,h=>by
  have h:((intKs.intK k).bind λns=>(intKs r).map (ns:: ·))=some kss:=h
  obtain⟨ns,e1,h⟩:=IS.mp h
  obtain⟨t,e,rfl⟩:=JR.mp h
  rw[Ix,Ix,tD e,<-wb e1]
theorem sq {K:Iz}{H:Hp}{hid:bq}(ht: ∀b xs,hid b=true->H b≠some (.tup xs)): ∀ {ys:List V} {kss:List (List Int)},HX H ys kss->Reps K (vw H hid) ys (kss.map bD)
 |_,[],h=>by cases h;exact .nil
 |_,ks::kss,h=>by
  cases h with
  |cons h1 h2=>
   obtain⟨b,rfl,hb⟩:=h1
   refine .cons (.tup (.inl (.inl (vw_some.mpr ⟨?_,hb⟩))) (oO ks)) (sq ht h2)
   cases e:hid b with
   |false=>rfl
   |true=>exact absurd hb (ht b _ e)
end
abbrev tP:=List (List bt×D)
open PySem PyProof.Rows
def cS:Bool->II->Array II->Nat->Nat->Nat->StateT Kc Sem (Option Nat):=sortPriv% PySem.Builtin.gallop
abbrev um(left:Bool)(key:II)(arr:Array II)(base i:Nat):StateT Kc Sem (Option Bool):=do
 let x <-Nb arr (base+i)
 if left then lt' x key else return(<-lt' key x).map (!·)
theorem uU(left:Bool)(key:II)(arr:Array II)(base n hint:Nat):cS left key arr base n hint=(do
 let mut lastofs:=0
 let mut ofs:=1
 let mut lo:=0
 let mut hi:=0
 let some right <-um left key arr base hint|return none
 if right then
  let maxofs:=n-hint
  for _ in [0:n] do
   if ofs≥maxofs then break
   let some more <-um left key arr base (hint+ofs)|return none
   if !more then break
   lastofs:=ofs
   ofs:=2*ofs+1
  lo:=hint+lastofs+1
  hi:=hint+min ofs maxofs
 else
  let maxofs:=hint+1
  for _ in [0:n] do
   if ofs≥maxofs then break
   let some found <-um left key arr base (hint-ofs)|return none
   if found then break
   lastofs:=ofs
   ofs:=2*ofs+1
  lo:=hint+1-min ofs maxofs
  hi:=hint-lastofs
 for _ in [0:n] do
  if lo≥hi then break
  let m:=lo+(hi-lo) / 2
  let some more <-um left key arr base m|return none
  if more then lo:=m+1 else hi:=m
 return some hi):=rfl
abbrev bn:Keyed:=(IV,IV)
structure Cmp(prog:Jf)(w:Jr)(A:Jm)(E:Il->Io->Prop)(s:Io)(κ:MS)(P:II->Prop)(L:II->II->Bool):Prop where
 ask: ∀x y,P x->P y-> ∀(st:Kc) (Q:Option Bool->Kc->Prop),kindOf st=κ->Q (some (L x y)) st->wpS (model prog w) A E s (lt' x y) Q st
 tr: ∀x y z,P x->P y->P z->L y x=false->L z y=false->L z x=false
 as: ∀x y,L x y=true->L y x=false
section
variable {prog:Jf}{w:Jr}{A:Jm}{E:Il->Io->Prop}{s:Io}{κ:MS}{P:II->Prop}{L:II->II->Bool}
theorem ao {arr:Array II}{i:Nat}{Q:II->Kc->Prop}{st:Kc}(hi:i<arr.size)(h:Q (arr.getD i bn) st):wpS (model prog w) A E s (Nb arr i) Q st:=by
 rw[elem'_eq,IU hi];refine Ir ?_
 have:arr.getD i bn=arr[i]:=by simp[Ku,hi]
 rw[<-this];exact h
def gg(L:II->II->Bool)(left:Bool)(key:II)(arr:Array II)(base i:Nat):Bool:=if left then L (arr.getD (base+i) bn) key else !(L key (arr.getD (base+i) bn))
theorem Cq(C:Cmp prog w A E s κ P L){left:Bool}{key:II}{arr:Array II}{base i:Nat}{st:Kc}{Q:Option Bool->Kc->Prop}(hk:kindOf st=κ)(hkey:P key)(hi:base+i<arr.size)(hP:P (arr.getD (base+i) bn))
 (h:Q (some (gg L left key arr base i)) st):wpS (model prog w) A E s (um left key arr base i) Q st:=by
 unfold um;refine Is (ao hi ?_)
 unfold gg at h;cases left with
 |true=>rw[if_pos rfl] at h⊢;exact C.ask _ _ hP hkey _ _ hk h
 |false=>
  rw[if_neg (by decide)] at h⊢
  exact Is (C.ask _ _ hkey hP _ _ hk (Ir h))
def ii(L:II->II->Bool)(arr:Array II)(lo hi:Nat):Prop:= ∀i j,lo<=i->i<=j->j<hi->L (arr.getD j bn) (arr.getD i bn)=false
theorem Aa(C:Cmp prog w A E s κ P L){left:Bool}{key:II}{arr:Array II}{base n:Nat}(hkey:P key)(hP: ∀i,i<n->P (arr.getD (base+i) bn))(hS:ii L arr base (base+n)){i j:Nat}(hij:i<=j)(hj:j<n)
 (h:gg L left key arr base j=true):gg L left key arr base i=true:=by
 unfold gg at h⊢;have e:=hS (base+i) (base+j) (by omega) (by omega) (by omega)
 cases left with
 |true=>
  rw[if_pos rfl] at h⊢;cases q:L (arr.getD (base+i) bn) key with
  |true=>rfl
  |false=>
   have:=C.tr _ _ _ hkey (hP i (by omega)) (hP j hj) q e
   rw[this] at h;cases h
 |false=>
  rw[if_neg (by decide)] at h⊢
  rw[J5] at h⊢;exact C.tr _ _ _ (hP i (by omega)) (hP j hj) hkey e h
structure Cut(b:Nat->Bool)(n k:Nat):Prop where
 leq:k<=n
 lo: ∀i,i<k->b i=true
 hi: ∀i,k<=i->i<n->b i=false
theorem dS(C:Cmp prog w A E s κ P L){left:Bool}{key:II}{arr:Array II}{base n hint:Nat}{st:Kc}{Q:Option Nat->Kc->Prop}(hk:kindOf st=κ)(hkey:P key)(hz:base+n<=arr.size)(hh:hint<n)
 (hP: ∀i,i<n->P (arr.getD (base+i) bn)) (hS:ii L arr base (base+n)) (h: ∀k,Cut (gg L left key arr base) n k->Q (some k) st):wpS (model prog w) A E s (cS left key arr base n hint) Q st:=by
 rw[uU];have mono:=λ{i j:Nat} (hij:i<=j) (hj:j<n)=>Aa C (left:=left) hkey hP hS hij hj
 have askB: ∀i,i<n-> ∀(R:Option Bool->Kc->Prop),R (some (gg L left key arr base i)) st->wpS (model prog w) A E s (um left key arr base i) R st:=λi hi R hR=>Cq C hk hkey (by omega) (hP i hi) hR
 generalize hb:gg L left key arr base=b at mono askB h
 have second: ∀(f:Nat->Option (Option Nat)×Nat×Nat->StateT Kc Sem (ForInStep (Option (Option Nat)×Nat×Nat))) (lo hi:Nat) (R':Option (Option Nat)×Nat×Nat->Kc->Prop),
  (∀x l u (R:ForInStep (Option (Option Nat)×Nat×Nat)->Kc->Prop),l≥u->R (.done (none,l,u)) st->wpS (model prog w) A E s (f x (none,l,u)) R st)->
  (∀x l u (R:ForInStep (Option (Option Nat)×Nat×Nat)->Kc->Prop),¬l≥u->u<=n->(b (l+(u-l) / 2)=true->R (.yield (none,l+(u-l) / 2+1,u)) st)->(b (l+(u-l) / 2)=false->R (.yield (none,l,l+(u-l) / 2)) st)->wpS (model prog w) A E s (f x (none,l,u)) R st)->
  lo<=hi->hi<=n->(∀i,i<lo->b i=true)->(∀i,hi<=i->i<n->b i=false)->(∀l,Cut b n l->R' (none,l,l) st)->wpS (model prog w) A E s (forIn [0:n] ((none,lo,hi):Option (Option Nat)×Nat×Nat) f) R' st:=λf lo hi R' f1 f2 h1 h2 h3 h4 k=>by
  refine Lx (Km
   (I:=λx c st'=>st'=st/\ ∃l u,c=(none,l,u)/\l<=u/\u<=n/\(∀i,i<l->b i=true)/\(∀i,u<=i->i<n->b i=false)/\u-l<=n-x)
   (Q:=λc st'=>st'=st/\ ∃l,c=(none,l,l)/\l<=n/\(∀i,i<l->b i=true)/\(∀i,l<=i->i<n->b i=false)) ?_ ?_ ⟨rfl,lo,hi,rfl,h1,h2,h3,h4,by omega⟩) ?_
  ·rintro x c st' _ hx ⟨rfl,l,u,rfl,a1,a2,a3,a4,a5⟩
   by_cases hc:l≥u
   ·refine f1 x l u _ hc ?_
    have:l=u:=by omega
    subst this;exact⟨rfl,l,rfl,a2,a3,a4⟩
   ·refine f2 x l u _ hc a2 (λe=>?_) λe=>?_
    ·refine⟨rfl,_,_,rfl,by omega,a2,λi hi=>?_,a4,by omega⟩
     exact mono (show i<=l+(u-l) / 2 by omega) (by omega) e
    ·refine⟨rfl,_,_,rfl,by omega,by omega,a3,λi hi hn=>?_,by omega⟩
     cases q:b i with
     |false=>rfl
     |true=>have:=mono hi hn q;rw[e] at this;cases this
  ·rintro c st' ⟨rfl,l,u,rfl,a1,a2,a3,a4,a5⟩
   have:l=u:=by omega
   subst this;exact⟨rfl,l,rfl,a2,a3,a4⟩
  ·rintro c st' ⟨rfl,l,rfl,a1,a2,a3⟩
   exact k l ⟨a1,a2,a3⟩
 refine Is (askB hint hh _ ?_)
 dsimp only;cases e:b hint with
 |true=>
  rw[if_pos rfl];refine Is (Lx (Km
   (I:=λx c st'=>st'=st/\ ∃l o,c=(none,l,o)/\l<o/\hint+l<n/\b (hint+l)=true/\x+1<=o)
   (Q:=λc st'=>st'=st/\ ∃l o,c=(none,l,o)/\l<o/\hint+l<n/\b (hint+l)=true/\(o≥n-hint\/b (hint+o)=false)) ?_ ?_ ⟨rfl,0,1,rfl,by omega,by omega,e,by omega⟩) ?_)
  ·rintro x c st' _ hx ⟨rfl,l,o,rfl,a1,a2,a3,a4⟩
   dsimp only
   by_cases hc:o≥n-hint
   ·rw[if_pos hc];exact Ir ⟨rfl,l,o,rfl,a1,a2,a3,.inl hc⟩
   ·rw[if_neg hc]
    refine Is (askB _ (by omega) _ ?_)
    dsimp only;cases e2:b (hint+o) with
    |false=>exact Ir ⟨rfl,l,o,rfl,a1,a2,a3,.inr e2⟩
    |true=>exact Ir ⟨rfl,o,_,rfl,by omega,by omega,e2,by omega⟩
  ·rintro c st' ⟨rfl,l,o,rfl,a1,a2,a3,a4⟩
   exact⟨rfl,l,o,rfl,a1,a2,a3,.inl (by omega)⟩
  ·rintro c st' ⟨rfl,l,o,rfl,a1,a2,a3,a4⟩
   dsimp only;refine Is (second _ (hint+l+1) (hint+min o (n-hint)) _ (λx l u R hc hR=>by
    dsimp only;rw[if_pos hc];exact Ir hR) (λx l u R hc hu r1 r2=>by
    dsimp only;rw[if_neg hc];refine Is (askB _ (by omega) _ ?_)
    dsimp only;cases e9:b (l+(u-l) / 2) with
    |true=>rw[if_pos rfl];exact Ir (r1 e9)
    |false=>rw[if_neg (by decide)];exact Ir (r2 e9)) (by omega) (by omega) (λi hi=>mono (show i<=hint+l by omega) a2 a3) (λi hi hn=>?_) λk hk=>Ir (h k hk))
   rcases a4 with a4|a4
   ·omega
   ·cases q:b i with
    |false=>rfl
    |true=>
     by_cases h9:hint+o<=i
     ·have:=mono h9 hn q;rw[a4] at this;cases this
     ·omega
 |false=>
  rw[if_neg (by decide)]
  refine Is (Lx (Km
   (I:=λx c st'=>st'=st/\ ∃l o,c=(none,l,o)/\l<o/\l<=hint/\b (hint-l)=false/\x+1<=o)
   (Q:=λc st'=>st'=st/\ ∃l o,c=(none,l,o)/\l<o/\l<=hint/\b (hint-l)=false/\(o≥hint+1\/b (hint-o)=true)) ?_ ?_ ⟨rfl,0,1,rfl,by omega,by omega,e,by omega⟩) ?_)
  ·rintro x c st' _ hx ⟨rfl,l,o,rfl,a1,a2,a3,a4⟩
   dsimp only
   by_cases hc:o≥hint+1
   ·rw[if_pos hc];exact Ir ⟨rfl,l,o,rfl,a1,a2,a3,.inl hc⟩
   ·rw[if_neg hc]
    refine Is (askB _ (by omega) _ ?_)
    dsimp only;cases e2:b (hint-o) with
    |true=>exact Ir ⟨rfl,l,o,rfl,a1,a2,a3,.inr e2⟩
    |false=>exact Ir ⟨rfl,o,_,rfl,by omega,by omega,e2,by omega⟩
  ·rintro c st' ⟨rfl,l,o,rfl,a1,a2,a3,a4⟩
   exact⟨rfl,l,o,rfl,a1,a2,a3,.inl (by omega)⟩
  ·rintro c st' ⟨rfl,l,o,rfl,a1,a2,a3,a4⟩
   dsimp only;refine Is (second _ (hint+1-min o (hint+1)) (hint-l) _ (λx l u R hc hR=>by
    dsimp only;rw[if_pos hc];exact Ir hR) (λx l u R hc hu r1 r2=>by
    dsimp only;rw[if_neg hc];refine Is (askB _ (by omega) _ ?_)
    dsimp only;cases e9:b (l+(u-l) / 2) with
    |true=>rw[if_pos rfl];exact Ir (r1 e9)
    |false=>rw[if_neg (by decide)];exact Ir (r2 e9)) (by omega) (by omega) (λi hi=>?_) (λi hi hn=>?_) λk hk=>Ir (h k hk))
   ·rcases a4 with a4|a4
    ·omega
    ·by_cases h9:o≥hint+1
     ·omega
     ·exact mono (show i<=hint-o by omega) (by omega) a4
   ·cases q:b i with
    |false=>rfl
    |true=>have:=mono hi hn q;rw[a3] at this;cases this
end
def nv:Array II->Array II->StateT Kc Sem (Array II):=sortPriv% PySem.Builtin.mergeLo
def nw:Array II->Array II->StateT Kc Sem (Array II):=sortPriv% PySem.Builtin.mergeHi
abbrev aT(st:Kc)(g:Nat):SortSt:=Ym (kindOf st) (OY st) (LI st) g (RE st)
theorem q5(a b:Array II):nv a b=(do
 rule "list.sort.merge-lo"
 let total:=a.size+b.size
 let done (out:Array II) (ia ib:Nat):=out++a.extract ia a.size++b.extract ib b.size
 let lastOfA (out:Array II) (ia ib:Nat):=out++b.extract ib b.size++a.extract ia a.size
 let mut out:Array Keyed:= #[<-Nb b 0]
 let mut ia:=0
 let mut ib:=1
 if ib==b.size then return done out ia ib
 if ia+1==a.size then return lastOfA out ia ib
 let mut minGallop:=Tv (<-get)
 for _ in [0:total] do
  let mut acount:=0
  let mut bcount:=0
  for _ in [0:total] do
   let some bWins <-lt' (<-Nb b ib) (<-Nb a ia)|return done out ia ib
   if bWins then
    out:=out.push (<-Nb b ib);ib:=ib+1;bcount:=bcount+1;acount:=0
    if ib==b.size then return done out ia ib
    if bcount≥minGallop then break
   else
    out:=out.push (<-Nb a ia);ia:=ia+1;acount:=acount+1;bcount:=0
    if ia+1==a.size then return lastOfA out ia ib
    if acount≥minGallop then break
  rule "list.sort.gallop"
  minGallop:=minGallop+1
  for _ in [0:total] do
   if minGallop>1 then minGallop:=minGallop-1
   modify λs=>aT s minGallop
   let some k <-cS false (<-Nb b ib) a ia (a.size-ia) 0 |return done out ia ib
   acount:=k
   if k>0 then
    out:=out++a.extract ia (ia+k);ia:=ia+k
    if ia+1==a.size then return lastOfA out ia ib
    if ia==a.size then return done out ia ib
   out:=out.push (<-Nb b ib);ib:=ib+1
   if ib==b.size then return done out ia ib
   let some k <-cS true (<-Nb a ia) b ib (b.size-ib) 0 |return done out ia ib
   bcount:=k
   if k>0 then
    out:=out++b.extract ib (ib+k);ib:=ib+k
    if ib==b.size then return done out ia ib
   out:=out.push (<-Nb a ia);ia:=ia+1
   if ia+1==a.size then return lastOfA out ia ib
   if acount<7&&bcount<7 then break
  minGallop:=minGallop+1
  modify λs=>aT s minGallop
 Kz "internal:list.sort.merge-bound"):=rfl
section
variable {L:II->II->Bool}{P:II->Prop}
abbrev leq(L:II->II->Bool)(x y:II):Prop:=L y x=false
structure MJ(L:II->II->Bool)(A B:List II)(out:List II)(ia ib:Nat):Prop where
 pm:out.Perm (A.take ia++B.take ib)
 so:out.Pairwise (leq L)
 up: ∀x∈out,∀y∈A.drop ia++B.drop ib,leq L x y
structure MG(L:II->II->Bool)(A B:List II)(out:List II):Prop where
 pm:out.Perm (A++B)
 so:out.Pairwise (leq L)
theorem fb(A:List II)(i k:Nat):A.take (i+k)=A.take i++(A.drop i).take k:=by rw[List.take_add]
theorem rU {A:List II}{i k:Nat}{y:II}(h:y∈A.drop (i+k)):y∈A.drop i:=by
 rw[<-Qx] at h;exact N8 h
theorem mE {A:List II}(h:A.Pairwise (leq L))(i k:Nat):((A.drop i).take k).Pairwise (leq L)/\ ∀x∈(A.drop i).take k,∀y∈A.drop (i+k),leq L x y:=by
 have h2:(A.drop i).Pairwise (leq L):=JD (L1 i A) h
 rw[<-JT k (A.drop i),Ju] at h2;refine⟨h2.1,λx hx y hy=>h2.2.2 x hx y ?_⟩
 rw[Qx];exact hy
theorem MJ.takeA {A B out:List II}{ia ib k:Nat}(h:MJ L A B out ia ib)(hA:A.Pairwise (leq L))(hb: ∀x∈(A.drop ia).take k,∀y∈B.drop ib,leq L x y):MJ L A B (out++(A.drop ia).take k) (ia+k) ib:=by
 have⟨s1,s2⟩:=mE hA ia k
 refine⟨?_,?_,?_⟩
 ·rw[fb]
  refine(JY _ h.pm).trans ?_
  rw[Jb,Jb];exact Kl _ Lf
 ·rw[Ju]
  exact⟨h.so,s1,λx hx y hy=>h.up x hx y (Jk _ (L3 hy))⟩
 ·intro x hx y hy
  rcases IQ.mp hy with hy|hy
  ·rcases IQ.mp hx with hx|hx
   ·exact h.up x hx y (Jk _ (rU hy))
   ·exact s2 x hx y hy
  ·rcases IQ.mp hx with hx|hx
   ·exact h.up x hx y (IK _ hy)
   ·exact hb x hx y hy
theorem MJ.takeB {A B out:List II}{ia ib k:Nat}(h:MJ L A B out ia ib)(hB:B.Pairwise (leq L))(ha: ∀x∈(B.drop ib).take k,∀y∈A.drop ia,leq L x y):MJ L A B (out++(B.drop ib).take k) ia (ib+k):=by
 have⟨s1,s2⟩:=mE hB ib k
 refine⟨?_,?_,?_⟩
 ·rw[fb,<-Jb]
  exact JY _ h.pm
 ·rw[Ju]
  exact⟨h.so,s1,λx hx y hy=>h.up x hx y (IK _ (L3 hy))⟩
 ·intro x hx y hy
  rcases IQ.mp hy with hy|hy
  ·rcases IQ.mp hx with hx|hx
   ·exact h.up x hx y (Jk _ hy)
   ·exact ha x hx y hy
  ·rcases IQ.mp hx with hx|hx
   ·exact h.up x hx y (IK _ (rU hy))
   ·exact s2 x hx y hy
theorem MJ.fin {A B out:List II}{ia ib:Nat}(h:MJ L A B out ia ib)(hA:A.Pairwise (leq L))(hB:B.Pairwise (leq L))(hab: ∀x∈A.drop ia,∀y∈B.drop ib,leq L x y):MG L A B (out++A.drop ia++B.drop ib):=by
 refine⟨?_,?_⟩
 ·have:(out++A.drop ia++B.drop ib).Perm ((A.take ia++A.drop ia)++(B.take ib++B.drop ib)):=by
   refine(JY _ (JY _ h.pm)).trans ?_
   rw[Jb,Jb,Jb];refine Kl _ ?_
   rw[<-Jb,<-Jb];exact JY _ Lf
  rw[JT,JT] at this;exact this
 ·rw[Ju,Ju]
  refine⟨⟨h.so,JD (L1 _ _) hA,λx hx y hy=>h.up x hx y (Jk _ hy)⟩,JD (L1 _ _) hB,λx hx y hy=>?_⟩
  rcases IQ.mp hx with hx|hx
  ·exact h.up x hx y (IK _ hy)
  ·exact hab x hx y hy
theorem MJ.fin2 {A B out:List II}{ia ib:Nat}(h:MJ L A B out ia ib)(hA:A.Pairwise (leq L))(hB:B.Pairwise (leq L))(hab: ∀y∈B.drop ib,∀x∈A.drop ia,leq L y x):MG L A B (out++B.drop ib++A.drop ia):=by
 refine⟨?_,?_⟩
 ·have:=(MJ.fin (L:=λ_ _=>false) ⟨h.pm,ME (λ_=>rfl) h.so,λ_ _ _ _=>rfl⟩ (ME (λ_=>rfl) hA) (ME (λ_=>rfl) hB) λ_ _ _ _=>rfl).pm
  refine P6 ?_ this
  rw[Jb,Jb];exact Kl _ Lf
 ·rw[Ju,Ju]
  refine⟨⟨h.so,JD (L1 _ _) hB,λx hx y hy=>h.up x hx y (IK _ hy)⟩,JD (L1 _ _) hA,λx hx y hy=>?_⟩
  rcases IQ.mp hx with hx|hx
  ·exact h.up x hx y (Jk _ hy)
  ·exact hab x hx y hy
theorem cR(a:Array II)(i j:Nat):(a.extract i j).toList=(a.toList.drop i).take (j-i):=by
 rw[Array.toList_extract,List.extract_eq_drop_take]
theorem ml(a:Array II)(i:Nat):(a.extract i a.size).toList=a.toList.drop i:=by
 rw[cR,K4 (by simp)]
theorem ir(a:Array II){i:Nat}(h:i<a.size):(a.toList.drop i).take 1=[a.getD i bn]:=by
 have e:a.getD i bn=a.toList[i]'(by simpa using h):=by simp[Ku,h]
 rw[e,Le (by simpa using h)];rfl
theorem fY {a:Array II}{i:Nat}{y:II}(h:y∈a.toList.drop i): ∃j,i<=j/\j<a.size/\y=a.getD j bn:=by
 obtain⟨j,hj,e⟩:=K9 h
 rw[RI] at e;have hl:i+j<a.size:=by simp at hj;omega
 exact⟨i+j,by omega,hl,by rw[<-e];simp[Ku,hl]⟩
theorem iM {a:Array II}{i k:Nat}{y:II}(h:y∈(a.toList.drop i).take k): ∃j,j<k/\i+j<a.size/\y=a.getD (i+j) bn:=by
 obtain⟨j,hj,e⟩:=K9 h
 rw[O4,RI] at e;have hj2:j<k/\j<a.size-i:=by simpa [Nat.lt_min] using hj
 have hl:i+j<a.size:=by omega
 exact⟨j,hj2.1,hl,by rw[<-e];simp[Ku,hl]⟩
theorem yj {a:Array II}(h:a.toList.Pairwise (leq L))(rf: ∀x,L x x=false):ii L a 0 a.size:=λi j _ hij hj=>by
 by_cases e:i=j
 ·subst e;exact rf _
 ·have:=Jz.mp h i j (by simpa using (show i<a.size by omega)) (by simpa using hj) (by omega)
  have hi:i<a.size:=by omega
  simpa [Ku,hi,hj] using this
end
section
variable {prog:Jf}{w:Jr}{A:Jm}{E:Il->Io->Prop}{s:Io}{κ:MS}{P:II->Prop}{L:II->II->Bool}
theorem Cmp.rf(C:Cmp prog w A E s κ P L)(x:II):L x x=false:=by
 cases h:L x x with
 |false=>rfl
 |true=>have:=C.as _ _ h;rw[h] at this;exact this
structure TwoR(P:II->Prop)(L:II->II->Bool)(a b:Array II):Prop where
 sa:a.toList.Pairwise (leq L)
 sb:b.toList.Pairwise (leq L)
 pa: ∀i,i<a.size->P (a.getD i bn)
 pb: ∀i,i<b.size->P (b.getD i bn)
 na:1<=a.size
 nb:1<=b.size
 first: ∀i,i<a.size->L (b.getD 0 bn) (a.getD i bn)=true
 last: ∀j,j<b.size->L (b.getD j bn) (a.getD (a.size-1) bn)=true
variable {a b:Array II}
structure MI(L:II->II->Bool)(a b out:Array II)(ia ib:Nat):Prop where
 j:MJ L a.toList b.toList out.toList ia ib
 ha:ia+1<a.size
 hb:ib<b.size
theorem eK(T:TwoR P L a b){out:Array II}{ia ib:Nat}(h:MJ L a.toList b.toList out.toList ia ib)(e:a.size<=ia\/b.size<=ib):MG L a.toList b.toList (out++a.extract ia a.size++b.extract ib b.size).toList:=by
 rw[JX,JX,ml,ml];refine h.fin T.sa T.sb λx hx y hy=>?_
 obtain⟨i,h1,h2,_⟩:=fY hx
 obtain⟨j,h3,h4,_⟩:=fY hy
 omega
theorem cU(C:Cmp prog w A E s κ P L)(T:TwoR P L a b){out:Array II}{ia ib:Nat}(h:MJ L a.toList b.toList out.toList ia ib)(e:ia+1=a.size):MG L a.toList b.toList (out++b.extract ib b.size++a.extract ia a.size).toList:=by
 rw[JX,JX,ml,ml];refine h.fin2 T.sa T.sb λy hy x hx=>?_
 obtain⟨i,h1,h2,rfl⟩:=fY hx
 obtain⟨j,h3,h4,rfl⟩:=fY hy
 have:=T.last j h4
 rw[show a.size-1=i by omega] at this
 exact C.as _ _ this
theorem dC(T:TwoR P L a b){out:Array II}{ia ib:Nat}(h:MJ L a.toList b.toList out.toList ia ib)(hi:ia<a.size)(q: ∀j,ib<=j->j<b.size->leq L (a.getD ia bn) (b.getD j bn)):MJ L a.toList b.toList (out.push (a.getD ia bn)).toList (ia+1) ib:=by
 have:=h.takeA (k:=1) T.sa (by
  rw[ir a hi];intro x hx y hy;rw[Jc] at hx;subst hx;obtain⟨j,h3,h4,rfl⟩:=fY hy
  exact q j h3 h4)
 rw[ir a hi] at this;rw[KL];exact this
theorem gu(T:TwoR P L a b){out:Array II}{ia ib:Nat}(h:MJ L a.toList b.toList out.toList ia ib)(hi:ib<b.size)(q: ∀j,ia<=j->j<a.size->leq L (b.getD ib bn) (a.getD j bn)):MJ L a.toList b.toList (out.push (b.getD ib bn)).toList ia (ib+1):=by
 have:=h.takeB (k:=1) T.sb (by
  rw[ir b hi];intro x hx y hy;rw[Jc] at hx;subst hx;obtain⟨j,h3,h4,rfl⟩:=fY hy
  exact q j h3 h4)
 rw[ir b hi] at this;rw[KL];exact this
theorem sK(T:TwoR P L a b){out:Array II}{ia ib k:Nat}(h:MJ L a.toList b.toList out.toList ia ib)(q: ∀i,i<k->ia+i<a.size-> ∀j,ib<=j->j<b.size->leq L (a.getD (ia+i) bn) (b.getD j bn)):MJ L a.toList b.toList (out++a.extract ia (ia+k)).toList (ia+k) ib:=by
 rw[JX,cR,Nt];refine h.takeA (k:=k) T.sa λx hx y hy=>?_
 obtain⟨i,h1,h2,rfl⟩:=iM hx
 obtain⟨j,h3,h4,rfl⟩:=fY hy
 exact q i h1 h2 j h3 h4
theorem j6(T:TwoR P L a b){out:Array II}{ia ib k:Nat}(h:MJ L a.toList b.toList out.toList ia ib)(q: ∀i,i<k->ib+i<b.size-> ∀j,ia<=j->j<a.size->leq L (b.getD (ib+i) bn) (a.getD j bn)):MJ L a.toList b.toList (out++b.extract ib (ib+k)).toList ia (ib+k):=by
 rw[JX,cR,Nt];refine h.takeB (k:=k) T.sb λx hx y hy=>?_
 obtain⟨i,h1,h2,rfl⟩:=iM hx
 obtain⟨j,h3,h4,rfl⟩:=fY hy
 exact q i h1 h2 j h3 h4
theorem TwoR.sa'(C:Cmp prog w A E s κ P L)(T:TwoR P L a b){i j:Nat}(h:i<=j)(hj:j<a.size):leq L (a.getD i bn) (a.getD j bn):=yj T.sa C.rf i j (JV _) h hj
theorem TwoR.sb'(C:Cmp prog w A E s κ P L)(T:TwoR P L a b){i j:Nat}(h:i<=j)(hj:j<b.size):leq L (b.getD i bn) (b.getD j bn):=yj T.sb C.rf i j (JV _) h hj
theorem TwoR.bWin(C:Cmp prog w A E s κ P L)(T:TwoR P L a b){ia ib:Nat}(hi:ia<a.size)(hb:ib<b.size)(h:L (b.getD ib bn) (a.getD ia bn)=true): ∀j,ia<=j->j<a.size->leq L (b.getD ib bn) (a.getD j bn):=λj h1 h2=>
 C.tr _ _ _ (T.pb _ hb) (T.pa _ hi) (T.pa _ h2) (C.as _ _ h) (T.sa' C h1 h2)
theorem TwoR.aWin(C:Cmp prog w A E s κ P L)(T:TwoR P L a b){ia ib:Nat}(hi:ia<a.size)(hb:ib<b.size)(h:L (b.getD ib bn) (a.getD ia bn)=false): ∀j,ib<=j->j<b.size->leq L (a.getD ia bn) (b.getD j bn):=λj h1 h2=>
 C.tr _ _ _ (T.pa _ hi) (T.pb _ hb) (T.pb _ h2) h (T.sb' C h1 h2)
theorem tK(C:Cmp prog w A E s κ P L)(T:TwoR P L a b){ia ib:Nat}{st:Kc}{Q:Option Nat->Kc->Prop}(hk:kindOf st=κ)(hi:ia<a.size)(hb:ib<b.size)
 (h: ∀k,ia+k<a.size->(∀i,i<k->L (b.getD ib bn) (a.getD (ia+i) bn)=false)->L (b.getD ib bn) (a.getD (ia+k) bn)=true->Q (some k) st):wpS (model prog w) A E s (cS false (b.getD ib bn) a ia (a.size-ia) 0) Q st:=by
 refine dS C hk (T.pb _ hb) (by omega) (by omega) (λi hi=>T.pa _ (by omega)) (λi j h1 h2 h3=>T.sa' C h2 (by omega)) λk c=>?_
 have hl:=T.last ib hb
 have hk2:ia+k<a.size:=by
  apply Mm
  intro h9;have:=c.lo (a.size-1-ia) (by have:=c.leq;omega)
  unfold gg at this;rw[if_neg (by decide),show ia+(a.size-1-ia)=a.size-1 by omega,hl] at this
  cases this
 refine h k hk2 (λi hi=>?_) ?_
 ·have:=c.lo i hi
  unfold gg at this;rw[if_neg (by decide),J5] at this
  exact this
 ·have:=c.hi k (Iv _) (by omega)
  unfold gg at this;rw[if_neg (by decide),Nr] at this
  exact this
theorem jS(C:Cmp prog w A E s κ P L)(T:TwoR P L a b){ia ib:Nat}{st:Kc}{Q:Option Nat->Kc->Prop}(hk:kindOf st=κ)(hi:ia<a.size)(hb:ib<b.size)
 (h: ∀k,ib+k<=b.size->(∀i,i<k->L (b.getD (ib+i) bn) (a.getD ia bn)=true)->(ib+k<b.size->L (b.getD (ib+k) bn) (a.getD ia bn)=false)->Q (some k) st):wpS (model prog w) A E s (cS true (a.getD ia bn) b ib (b.size-ib) 0) Q st:=by
 refine dS C hk (T.pa _ hi) (by omega) (by omega) (λi hi=>T.pb _ (by omega)) (λi j h1 h2 h3=>T.sb' C h2 (by omega)) λk c=>?_
 refine h k (by have:=c.leq;omega) (λi hi=>?_) λh9=>?_
 ·have:=c.lo i hi
  unfold gg at this;rw[if_pos rfl] at this;exact this
 ·have:=c.hi k (Iv _) (by omega)
  unfold gg at this;rw[if_pos rfl] at this;exact this
end
set_option maxHeartbeats 2000000
section
variable {prog:Jf}{w:Jr}{A:Jm}{E:Il->Io->Prop}{s:Io}{κ:MS}{P:II->Prop}{L:II->II->Bool}{a b:Array II}
theorem aB {x y:Nat}(h: ¬x=y): ¬(x==y)=true:=by simpa using h
theorem sv(C:Cmp prog w A E s κ P L)(T:TwoR P L a b){st:Kc}{Q:Array II->Kc->Prop}(hk:kindOf st=κ)
 (h: ∀r g,MG L a.toList b.toList r.toList->Q r (aT st g)):wpS (model prog w) A E s (nv a b) Q st:=by
 rw[q5];dsimp only;have ha:=T.na
 have hb:=T.nb
 refine Is (Px (Nq ⟨rfl,?_⟩))
 refine Is (ao (by omega) ?_)
 have hst:st=aT st (Tv st):=rfl
 have J0:MJ L a.toList b.toList (#[b.getD 0 bn]:Array II).toList 0 1:=by
  have:MJ L a.toList b.toList (#[]:Array II).toList 0 0:=⟨by simp,by simp,by simp⟩
  exact gu T this (by omega) λj _ h2=>C.as _ _ (T.first j h2)
 by_cases e1:1=b.size
 ·rw[if_pos (by simpa using e1)]
  refine Ir ?_
  rw[hst];exact h _ _ (eK T J0 (.inr (by omega)))
 rw[if_neg (aB e1)]
 by_cases e2:0+1=a.size
 ·rw[if_pos (by simpa using e2)]
  refine Ir ?_
  rw[hst];exact h _ _ (cU C T J0 e2)
 rw[if_neg (aB e2)];refine Is (Nj ?_)
 refine Is (Lx (Km
  (I:=λx c st'=> ∃out ia ib mg g,c=(none,out,ia,ib,mg)/\st'=aT st g/\MI L a b out ia ib/\x+1<=ia+ib)
  (Q:=λc st'=> ∃r y g,c=(some r,y)/\st'=aT st g/\MG L a.toList b.toList r.toList) ?step ?fin ⟨_,0,1,_,_,rfl,hst,⟨J0,by omega,by omega⟩,by omega⟩) ?post)
 case fin=>
  rintro c st' ⟨out,ia,ib,mg,g,rfl,rfl,M,hx⟩
  have:=M.ha;have:=M.hb
  omega
 case post=>
  rintro c st' ⟨r,y,g,rfl,rfl,G⟩
  exact Ir (h r g G)
 case step=>
  rintro x c st' _ hx ⟨out,ia,ib,mg,g,rfl,rfl,M,hx2⟩
  dsimp only;refine Is (Lx (Km
   (I:=λx' c st'=> ∃out' ia' ib' ac bc,c=(none,out',ia',ib',ac,bc)/\st'=aT st g/\MI L a b out' ia' ib'/\ia+ib+x'<=ia'+ib')
   (Q:=λc st'=>st'=aT st g/\((∃r y,c=(some r,y)/\MG L a.toList b.toList r.toList)\/ ∃out' ia' ib' ac bc,c=(none,out',ia',ib',ac,bc)/\MI L a b out' ia' ib'/\ia+ib+1<=ia'+ib')) ?step1 ?fin1 ⟨out,ia,ib,0,0,rfl,rfl,M,by omega⟩) ?post1)
  case fin1=>
   rintro c st' ⟨out',ia',ib',ac,bc,rfl,rfl,M',hx'⟩
   exact⟨rfl,.inr ⟨_,_,_,_,_,rfl,M',by omega⟩⟩
  case step1=>
   rintro x' c st' _ hx' ⟨out',ia',ib',ac,bc,rfl,rfl,M',hx3⟩
   have m1:=M'.ha;have m2:=M'.hb
   dsimp only;refine Is (ao m2 (Is (ao (by omega) ?_)))
   refine Is (C.ask _ _ (T.pb _ m2) (T.pa _ (by omega)) _ _ hk ?_)
   dsimp only;cases e:L (b.getD ib' bn) (a.getD ia' bn) with
   |true=>
    rw[if_pos rfl];refine Is (ao m2 ?_)
    have J:=gu T M'.j m2 (T.bWin C (by omega) m2 e)
    by_cases e3:ib'+1=b.size
    ·rw[if_pos (by simpa using e3)]
     exact Ir ⟨rfl,.inl ⟨_,_,rfl,eK T J (.inr (by omega))⟩⟩
    ·rw[if_neg (aB e3)]
     by_cases q9:bc+1≥mg
     ·rw[if_pos q9];exact Ir ⟨rfl,.inr ⟨_,_,_,_,_,rfl,⟨J,m1,by omega⟩,by omega⟩⟩
     ·rw[if_neg q9];exact Ir ⟨_,_,_,_,_,rfl,rfl,⟨J,m1,by omega⟩,by omega⟩
   |false=>
    rw[if_neg (by decide)]
    refine Is (ao (by omega) ?_)
    have J:=dC T M'.j (by omega) (T.aWin C (by omega) m2 e)
    by_cases e3:ia'+1+1=a.size
    ·rw[if_pos (by simpa using e3)]
     exact Ir ⟨rfl,.inl ⟨_,_,rfl,cU C T J e3⟩⟩
    ·rw[if_neg (aB e3)]
     by_cases q9:ac+1≥mg
     ·rw[if_pos q9];exact Ir ⟨rfl,.inr ⟨_,_,_,_,_,rfl,⟨J,by omega,m2⟩,by omega⟩⟩
     ·rw[if_neg q9];exact Ir ⟨_,_,_,_,_,rfl,rfl,⟨J,by omega,m2⟩,by omega⟩
  case post1=>
   rintro c st' ⟨rfl,⟨r,y,rfl,G⟩|⟨out1,ia1,ib1,ac,bc,rfl,M1,hx1⟩⟩
   ·exact Ir ⟨r,_,g,rfl,rfl,G⟩
   ·dsimp only
    refine Is (Px (Nq ⟨rfl,?_⟩))
    refine Is (Lx (Km
     (I:=λ_ c st'=> ∃out' ia' ib' mg ac bc g,c=(none,out',ia',ib',mg,ac,bc)/\st'=aT st g/\MI L a b out' ia' ib'/\ia1+ib1<=ia'+ib')
     (Q:=λc st'=> ∃g,st'=aT st g/\((∃r y,c=(some r,y)/\MG L a.toList b.toList r.toList)\/ ∃out' ia' ib' mg ac bc,c=(none,out',ia',ib',mg,ac,bc)/\MI L a b out' ia' ib'/\ia1+ib1<=ia'+ib')) ?step2 ?fin2 ⟨out1,ia1,ib1,_,_,_,_,rfl,rfl,M1,Iv _⟩) ?post2)
    case fin2=>
     rintro c st' ⟨out',ia',ib',mg,ac,bc,g,rfl,rfl,M',hx'⟩
     exact⟨g,rfl,.inr ⟨_,_,_,_,_,_,rfl,M',hx'⟩⟩
    case post2=>
     rintro c st' ⟨g2,rfl,⟨r,y,rfl,G⟩|⟨out',ia',ib',mg,ac,bc,rfl,M',hx'⟩⟩
     ·exact Ir ⟨r,_,g2,rfl,rfl,G⟩
     ·dsimp only
      refine Is (K7 ?_)
      exact Ir ⟨_,_,_,_,_,rfl,rfl,M',by omega⟩
    case step2=>
     rintro x' c st' _ hx' ⟨out',ia',ib',mg',ac',bc',g',rfl,rfl,M',hx3⟩
     have m1:=M'.ha;have m2:=M'.hb
     dsimp only
     by_cases q1:mg'>1
     ·rw[if_pos q1]
      refine Is (K7 ?_)
      refine Is (ao m2 ?_)
      refine Is (tK C T hk (by omega) m2 λk k1 k2 k3=>?_)
      dsimp only
      by_cases q2:k>0
      ·rw[if_pos q2]
       have J1:=sK T M'.j (k:=k) λi hi h2=>T.aWin C (by omega) m2 (k2 i hi)
       by_cases e5:ia'+k+1=a.size
       ·rw[if_pos (by simpa using e5)]
        exact Ir ⟨_,rfl,.inl ⟨_,_,rfl,cU C T J1 e5⟩⟩
       rw[if_neg (aB e5),if_neg (aB (show¬ia'+k=a.size by omega))]
       refine Is (ao m2 ?_)
       have J2:=gu T J1 m2 (T.bWin C (by omega) m2 k3)
       by_cases e6:ib'+1=b.size
       ·rw[if_pos (by simpa using e6)]
        exact Ir ⟨_,rfl,.inl ⟨_,_,rfl,eK T J2 (.inr (by omega))⟩⟩
       rw[if_neg (aB e6)];refine Is (ao (by omega) ?_)
       refine Is (jS C T hk (by omega) (by omega) λl l1 l2 l3=>?_)
       dsimp only
       by_cases q3:l>0
       ·rw[if_pos q3]
        have J3:=j6 T J2 (k:=l) λi hi h2=>T.bWin C (by omega) h2 (l2 i hi)
        by_cases e7:ib'+1+l=b.size
        ·rw[if_pos (by simpa using e7)]
         exact Ir ⟨_,rfl,.inl ⟨_,_,rfl,eK T J3 (.inr (by omega))⟩⟩
        rw[if_neg (aB e7)];refine Is (ao (by omega) ?_)
        have J4:=dC T J3 (by omega) (T.aWin C (by omega) (by omega) (l3 (by omega)))
        by_cases e8:ia'+k+1+1=a.size
        ·rw[if_pos (by simpa using e8)]
         exact Ir ⟨_,rfl,.inl ⟨_,_,rfl,cU C T J4 e8⟩⟩
        rw[if_neg (aB e8)]
        by_cases q4:(decide (k<7)&&decide (l<7))=true
        ·rw[if_pos q4]
         exact Ir ⟨_,rfl,.inr ⟨_,_,_,_,_,_,rfl,⟨J4,by omega,by omega⟩,by omega⟩⟩
        ·rw[if_neg q4]
         exact Ir ⟨_,_,_,_,_,_,_,rfl,rfl,⟨J4,by omega,by omega⟩,by omega⟩
       ·rw[if_neg q3]
        rw[show l=0 by omega,KG] at l3
        have J3:=J2
        refine Is (ao (by omega) ?_)
        have J4:=dC T J3 (by omega) (T.aWin C (by omega) (by omega) (l3 (by omega)))
        by_cases e8:ia'+k+1+1=a.size
        ·rw[if_pos (by simpa using e8)]
         exact Ir ⟨_,rfl,.inl ⟨_,_,rfl,cU C T J4 e8⟩⟩
        rw[if_neg (aB e8)]
        by_cases q4:(decide (k<7)&&decide (l<7))=true
        ·rw[if_pos q4]
         exact Ir ⟨_,rfl,.inr ⟨_,_,_,_,_,_,rfl,⟨J4,by omega,by omega⟩,by omega⟩⟩
        ·rw[if_neg q4]
         exact Ir ⟨_,_,_,_,_,_,_,rfl,rfl,⟨J4,by omega,by omega⟩,by omega⟩
      ·rw[if_neg q2]
       rw[show k=0 by omega,KG] at k3
       have J1:=M'.j
       refine Is (ao m2 ?_)
       have J2:=gu T J1 m2 (T.bWin C (by omega) m2 k3)
       by_cases e6:ib'+1=b.size
       ·rw[if_pos (by simpa using e6)]
        exact Ir ⟨_,rfl,.inl ⟨_,_,rfl,eK T J2 (.inr (by omega))⟩⟩
       rw[if_neg (aB e6)];refine Is (ao (by omega) ?_)
       refine Is (jS C T hk (by omega) (by omega) λl l1 l2 l3=>?_)
       dsimp only
       by_cases q3:l>0
       ·rw[if_pos q3]
        have J3:=j6 T J2 (k:=l) λi hi h2=>T.bWin C (by omega) h2 (l2 i hi)
        by_cases e7:ib'+1+l=b.size
        ·rw[if_pos (by simpa using e7)]
         exact Ir ⟨_,rfl,.inl ⟨_,_,rfl,eK T J3 (.inr (by omega))⟩⟩
        rw[if_neg (aB e7)];refine Is (ao (by omega) ?_)
        have J4:=dC T J3 (by omega) (T.aWin C (by omega) (by omega) (l3 (by omega)))
        by_cases e8:ia'+1+1=a.size
        ·rw[if_pos (by simpa using e8)]
         exact Ir ⟨_,rfl,.inl ⟨_,_,rfl,cU C T J4 e8⟩⟩
        rw[if_neg (aB e8)]
        by_cases q4:(decide (k<7)&&decide (l<7))=true
        ·rw[if_pos q4]
         exact Ir ⟨_,rfl,.inr ⟨_,_,_,_,_,_,rfl,⟨J4,by omega,by omega⟩,by omega⟩⟩
        ·rw[if_neg q4]
         exact Ir ⟨_,_,_,_,_,_,_,rfl,rfl,⟨J4,by omega,by omega⟩,by omega⟩
       ·rw[if_neg q3]
        rw[show l=0 by omega,KG] at l3
        have J3:=J2
        refine Is (ao (by omega) ?_)
        have J4:=dC T J3 (by omega) (T.aWin C (by omega) (by omega) (l3 (by omega)))
        by_cases e8:ia'+1+1=a.size
        ·rw[if_pos (by simpa using e8)]
         exact Ir ⟨_,rfl,.inl ⟨_,_,rfl,cU C T J4 e8⟩⟩
        rw[if_neg (aB e8)]
        by_cases q4:(decide (k<7)&&decide (l<7))=true
        ·rw[if_pos q4]
         exact Ir ⟨_,rfl,.inr ⟨_,_,_,_,_,_,rfl,⟨J4,by omega,by omega⟩,by omega⟩⟩
        ·rw[if_neg q4]
         exact Ir ⟨_,_,_,_,_,_,_,rfl,rfl,⟨J4,by omega,by omega⟩,by omega⟩
     ·rw[if_neg q1]
      refine Is (K7 ?_)
      refine Is (ao m2 ?_)
      refine Is (tK C T hk (by omega) m2 λk k1 k2 k3=>?_)
      dsimp only
      by_cases q2:k>0
      ·rw[if_pos q2]
       have J1:=sK T M'.j (k:=k) λi hi h2=>T.aWin C (by omega) m2 (k2 i hi)
       by_cases e5:ia'+k+1=a.size
       ·rw[if_pos (by simpa using e5)]
        exact Ir ⟨_,rfl,.inl ⟨_,_,rfl,cU C T J1 e5⟩⟩
       rw[if_neg (aB e5),if_neg (aB (show¬ia'+k=a.size by omega))]
       refine Is (ao m2 ?_)
       have J2:=gu T J1 m2 (T.bWin C (by omega) m2 k3)
       by_cases e6:ib'+1=b.size
       ·rw[if_pos (by simpa using e6)]
        exact Ir ⟨_,rfl,.inl ⟨_,_,rfl,eK T J2 (.inr (by omega))⟩⟩
       rw[if_neg (aB e6)];refine Is (ao (by omega) ?_)
       refine Is (jS C T hk (by omega) (by omega) λl l1 l2 l3=>?_)
       dsimp only
       by_cases q3:l>0
       ·rw[if_pos q3]
        have J3:=j6 T J2 (k:=l) λi hi h2=>T.bWin C (by omega) h2 (l2 i hi)
        by_cases e7:ib'+1+l=b.size
        ·rw[if_pos (by simpa using e7)]
         exact Ir ⟨_,rfl,.inl ⟨_,_,rfl,eK T J3 (.inr (by omega))⟩⟩
        rw[if_neg (aB e7)];refine Is (ao (by omega) ?_)
        have J4:=dC T J3 (by omega) (T.aWin C (by omega) (by omega) (l3 (by omega)))
        by_cases e8:ia'+k+1+1=a.size
        ·rw[if_pos (by simpa using e8)]
         exact Ir ⟨_,rfl,.inl ⟨_,_,rfl,cU C T J4 e8⟩⟩
        rw[if_neg (aB e8)]
        by_cases q4:(decide (k<7)&&decide (l<7))=true
        ·rw[if_pos q4]
         exact Ir ⟨_,rfl,.inr ⟨_,_,_,_,_,_,rfl,⟨J4,by omega,by omega⟩,by omega⟩⟩
        ·rw[if_neg q4]
         exact Ir ⟨_,_,_,_,_,_,_,rfl,rfl,⟨J4,by omega,by omega⟩,by omega⟩
       ·rw[if_neg q3]
        rw[show l=0 by omega,KG] at l3
        have J3:=J2
        refine Is (ao (by omega) ?_)
        have J4:=dC T J3 (by omega) (T.aWin C (by omega) (by omega) (l3 (by omega)))
        by_cases e8:ia'+k+1+1=a.size
        ·rw[if_pos (by simpa using e8)]
         exact Ir ⟨_,rfl,.inl ⟨_,_,rfl,cU C T J4 e8⟩⟩
        rw[if_neg (aB e8)]
        by_cases q4:(decide (k<7)&&decide (l<7))=true
        ·rw[if_pos q4]
         exact Ir ⟨_,rfl,.inr ⟨_,_,_,_,_,_,rfl,⟨J4,by omega,by omega⟩,by omega⟩⟩
        ·rw[if_neg q4]
         exact Ir ⟨_,_,_,_,_,_,_,rfl,rfl,⟨J4,by omega,by omega⟩,by omega⟩
      ·rw[if_neg q2]
       rw[show k=0 by omega,KG] at k3
       have J1:=M'.j
       refine Is (ao m2 ?_)
       have J2:=gu T J1 m2 (T.bWin C (by omega) m2 k3)
       by_cases e6:ib'+1=b.size
       ·rw[if_pos (by simpa using e6)]
        exact Ir ⟨_,rfl,.inl ⟨_,_,rfl,eK T J2 (.inr (by omega))⟩⟩
       rw[if_neg (aB e6)];refine Is (ao (by omega) ?_)
       refine Is (jS C T hk (by omega) (by omega) λl l1 l2 l3=>?_)
       dsimp only
       by_cases q3:l>0
       ·rw[if_pos q3]
        have J3:=j6 T J2 (k:=l) λi hi h2=>T.bWin C (by omega) h2 (l2 i hi)
        by_cases e7:ib'+1+l=b.size
        ·rw[if_pos (by simpa using e7)]
         exact Ir ⟨_,rfl,.inl ⟨_,_,rfl,eK T J3 (.inr (by omega))⟩⟩
        rw[if_neg (aB e7)];refine Is (ao (by omega) ?_)
        have J4:=dC T J3 (by omega) (T.aWin C (by omega) (by omega) (l3 (by omega)))
        by_cases e8:ia'+1+1=a.size
        ·rw[if_pos (by simpa using e8)]
         exact Ir ⟨_,rfl,.inl ⟨_,_,rfl,cU C T J4 e8⟩⟩
        rw[if_neg (aB e8)]
        by_cases q4:(decide (k<7)&&decide (l<7))=true
        ·rw[if_pos q4]
         exact Ir ⟨_,rfl,.inr ⟨_,_,_,_,_,_,rfl,⟨J4,by omega,by omega⟩,by omega⟩⟩
        ·rw[if_neg q4]
         exact Ir ⟨_,_,_,_,_,_,_,rfl,rfl,⟨J4,by omega,by omega⟩,by omega⟩
       ·rw[if_neg q3]
        rw[show l=0 by omega,KG] at l3
        have J3:=J2
        refine Is (ao (by omega) ?_)
        have J4:=dC T J3 (by omega) (T.aWin C (by omega) (by omega) (l3 (by omega)))
        by_cases e8:ia'+1+1=a.size
        ·rw[if_pos (by simpa using e8)]
         exact Ir ⟨_,rfl,.inl ⟨_,_,rfl,cU C T J4 e8⟩⟩
        rw[if_neg (aB e8)]
        by_cases q4:(decide (k<7)&&decide (l<7))=true
        ·rw[if_pos q4]
         exact Ir ⟨_,rfl,.inr ⟨_,_,_,_,_,_,rfl,⟨J4,by omega,by omega⟩,by omega⟩⟩
        ·rw[if_neg q4]
         exact Ir ⟨_,_,_,_,_,_,_,rfl,rfl,⟨J4,by omega,by omega⟩,by omega⟩
end
section
variable {L:II->II->Bool}{P:II->Prop}
structure MH(L:II->II->Bool)(A B:List II)(R:List II)(na nb:Nat):Prop where
 pm:R.Perm (A.drop na++B.drop nb)
 so:R.Pairwise (leq L)
 up: ∀x∈R,∀y∈A.take na++B.take nb,leq L y x
theorem tG {A:List II}(h:A.Pairwise (leq L))(i k:Nat):((A.drop i).take k).Pairwise (leq L)/\ ∀x∈(A.drop i).take k,∀y∈A.take i,leq L y x:=by
 refine⟨(mE h i k).1,λx hx y hy=>?_⟩
 rw[<-JT i A,Ju] at h;exact h.2.2 y hy x (L3 hx)
theorem gR(A:List II)(i k:Nat):(A.drop i).take k++A.drop (i+k)=A.drop i:=by
 rw[<-Qx,JT]
theorem MH.takeA {A B R:List II}{na nb k:Nat}(h:MH L A B R (na+k) nb)(hA:A.Pairwise (leq L))(hb: ∀x∈(A.drop na).take k,∀y∈B.take nb,leq L y x):MH L A B ((A.drop na).take k++R) na nb:=by
 have⟨s1,s2⟩:=tG hA na k
 refine⟨?_,?_,?_⟩
 ·refine(Kl _ h.pm).trans (P7 ?_)
  rw[<-Jb,gR]
 ·rw[Ju]
  exact⟨s1,h.so,λx hx y hy=>h.up y hy x (Jk _ (by rw[fb];exact IK _ hx))⟩
 ·intro x hx y hy
  rcases IQ.mp hy with hy|hy
  ·rcases IQ.mp hx with hx|hx
   ·exact s2 x hx y hy
   ·exact h.up x hx y (Jk _ (by rw[fb];exact Jk _ hy))
  ·rcases IQ.mp hx with hx|hx
   ·exact hb x hx y hy
   ·exact h.up x hx y (IK _ hy)
theorem MH.takeB {A B R:List II}{na nb k:Nat}(h:MH L A B R na (nb+k))(hB:B.Pairwise (leq L))(ha: ∀x∈(B.drop nb).take k,∀y∈A.take na,leq L y x):MH L A B ((B.drop nb).take k++R) na nb:=by
 have⟨s1,s2⟩:=tG hB nb k
 refine⟨?_,?_,?_⟩
 ·refine(Kl _ h.pm).trans ?_
  rw[<-Jb];refine(JY _ Lf).trans (P7 ?_)
  rw[Jb,gR]
 ·rw[Ju]
  exact⟨s1,h.so,λx hx y hy=>h.up y hy x (IK _ (by rw[fb];exact IK _ hx))⟩
 ·intro x hx y hy
  rcases IQ.mp hy with hy|hy
  ·rcases IQ.mp hx with hx|hx
   ·exact ha x hx y hy
   ·exact h.up x hx y (Jk _ hy)
  ·rcases IQ.mp hx with hx|hx
   ·exact s2 x hx y hy
   ·exact h.up x hx y (IK _ (by rw[fb];exact Jk _ hy))
theorem MH.perm {A B R:List II}{na nb:Nat}(h:MH L A B R na nb):(A.take na++B.take nb++R).Perm (A++B):=by
 have:(A.take na++B.take nb++R).Perm ((A.take na++A.drop na)++(B.take nb++B.drop nb)):=by
  refine(Kl _ h.pm).trans ?_
  rw[Jb,Jb];refine Kl _ ?_
  rw[<-Jb,<-Jb];exact JY _ Lf
 rw[JT,JT] at this;exact this
theorem MH.fin {A B R:List II}{na nb:Nat}(h:MH L A B R na nb)(hA:A.Pairwise (leq L))(hB:B.Pairwise (leq L))(hab: ∀x∈A.take na,∀y∈B.take nb,leq L x y):MG L A B (A.take na++B.take nb++R):=by
 refine⟨h.perm,?_⟩
 rw[Ju,Ju];exact⟨⟨JD (L0 _ _) hA,JD (L0 _ _) hB,hab⟩,h.so,λx hx y hy=>h.up y hy x hx⟩
theorem MH.fin2 {A B R:List II}{na nb:Nat}(h:MH L A B R na nb)(hA:A.Pairwise (leq L))(hB:B.Pairwise (leq L))(hab: ∀y∈B.take nb,∀x∈A.take na,leq L y x):MG L A B (B.take nb++A.take na++R):=by
 refine⟨(JY _ Lf).trans h.perm,?_⟩
 rw[Ju,Ju];refine⟨⟨JD (L0 _ _) hB,JD (L0 _ _) hA,hab⟩,h.so,λx hx y hy=>h.up y hy x ?_⟩
 rcases IQ.mp hx with hx|hx
 ·exact IK _ hx
 ·exact Jk _ hx
theorem mB(a:Array II)(i:Nat):(a.extract 0 i).toList=a.toList.take i:=by rw[cR];simp
theorem iG {a:Array II}{k:Nat}{y:II}(h:y∈a.toList.take k): ∃j,j<k/\j<a.size/\y=a.getD j bn:=by
 have:=iM (a:=a) (i:=0) (k:=k) (by simpa using h)
 obtain⟨j,h1,h2,h3⟩:=this
 rw[LY] at h2 h3;exact⟨j,h1,h2,h3⟩
end
section
variable {prog:Jf}{w:Jr}{A:Jm}{E:Il->Io->Prop}{s:Io}{κ:MS}{P:II->Prop}{L:II->II->Bool}{a b:Array II}
abbrev MR(L:II->II->Bool)(a b out:Array II)(na nb:Nat):Prop:=MH L a.toList b.toList out.toList.reverse na nb
structure MK(L:II->II->Bool)(a b out:Array II)(na nb:Nat):Prop where
 j:MR L a b out na nb
 ha:1<=na
 hb:2<=nb
 la:na<=a.size
 lb:nb<=b.size
theorem cT(T:TwoR P L a b){out:Array II}{na nb:Nat}(h:MR L a b out na nb)(e:na=0\/nb=0):MG L a.toList b.toList (a.extract 0 na++b.extract 0 nb++out.reverse).toList:=by
 rw[JX,JX,mB,mB,MT];refine h.fin T.sa T.sb λx hx y hy=>?_
 obtain⟨i,h1,h2,_⟩:=iG hx
 obtain⟨j,h3,h4,_⟩:=iG hy
 omega
theorem cQ(C:Cmp prog w A E s κ P L)(T:TwoR P L a b){out:Array II}{na nb:Nat}(h:MR L a b out na nb)(e:nb=1):MG L a.toList b.toList (b.extract 0 nb++a.extract 0 na++out.reverse).toList:=by
 rw[JX,JX,mB,mB,MT];refine h.fin2 T.sa T.sb λy hy x hx=>?_
 obtain⟨i,h1,h2,rfl⟩:=iG hx
 obtain⟨j,h3,h4,rfl⟩:=iG hy
 rw[show j=0 by omega]
 exact C.as _ _ (T.first i h2)
theorem cN(T:TwoR P L a b){out:Array II}{na nb:Nat}(h:MR L a b out (na+1) nb)(hi:na<a.size)(q: ∀j,j<nb->j<b.size->leq L (b.getD j bn) (a.getD na bn)):MR L a b (out.push (a.getD na bn)) na nb:=by
 have:=MH.takeA (k:=1) h T.sa (by
  rw[ir a hi];intro x hx y hy;rw[Jc] at hx;subst hx;obtain⟨j,h3,h4,rfl⟩:=iG hy
  exact q j h3 h4)
 rw[ir a hi] at this;show MH L _ _ _ _ _;rw[KL,M3];exact this
theorem iI(T:TwoR P L a b){out:Array II}{na nb:Nat}(h:MR L a b out na (nb+1))(hi:nb<b.size)(q: ∀j,j<na->j<a.size->leq L (a.getD j bn) (b.getD nb bn)):MR L a b (out.push (b.getD nb bn)) na nb:=by
 have:=MH.takeB (k:=1) h T.sb (by
  rw[ir b hi];intro x hx y hy;rw[Jc] at hx;subst hx;obtain⟨j,h3,h4,rfl⟩:=iG hy
  exact q j h3 h4)
 rw[ir b hi] at this;show MH L _ _ _ _ _;rw[KL,M3];exact this
theorem rJ(T:TwoR P L a b){out:Array II}{na na' nb:Nat}(hle:na'<=na)(h:MR L a b out na nb)(q: ∀i,na'<=i->i<na->i<a.size-> ∀j,j<nb->j<b.size->leq L (b.getD j bn) (a.getD i bn)):MR L a b (out++(a.extract na' na).reverse) na' nb:=by
 have h':MH L a.toList b.toList out.toList.reverse (na'+(na-na')) nb:=by rw[show na'+(na-na')=na by omega];exact h
 show MH L _ _ _ _ _;rw[JX,MT,M3,Qy,cR];refine MH.takeA h' T.sa λx hx y hy=>?_
 obtain⟨i,h1,h2,rfl⟩:=iM hx
 obtain⟨j,h3,h4,rfl⟩:=iG hy
 exact q _ (by omega) (by omega) h2 j h3 h4
theorem j8(T:TwoR P L a b){out:Array II}{na nb nb':Nat}(hle:nb'<=nb)(h:MR L a b out na nb)(q: ∀i,nb'<=i->i<nb->i<b.size-> ∀j,j<na->j<a.size->leq L (a.getD j bn) (b.getD i bn)):MR L a b (out++(b.extract nb' nb).reverse) na nb':=by
 have h':MH L a.toList b.toList out.toList.reverse na (nb'+(nb-nb')):=by rw[show nb'+(nb-nb')=nb by omega];exact h
 show MH L _ _ _ _ _;rw[JX,MT,M3,Qy,cR];refine MH.takeB h' T.sb λx hx y hy=>?_
 obtain⟨i,h1,h2,rfl⟩:=iM hx
 obtain⟨j,h3,h4,rfl⟩:=iG hy
 exact q _ (by omega) (by omega) h2 j h3 h4
theorem TwoR.aTop(C:Cmp prog w A E s κ P L)(T:TwoR P L a b){i j:Nat}(hi:i<a.size)(hj:j<b.size)(h:L (b.getD j bn) (a.getD i bn)=true): ∀k,k<=j->leq L (b.getD k bn) (a.getD i bn):=λk hk=>
 C.tr _ _ _ (T.pb _ (by omega)) (T.pb _ hj) (T.pa _ hi) (T.sb' C hk hj) (C.as _ _ h)
theorem TwoR.bTop(C:Cmp prog w A E s κ P L)(T:TwoR P L a b){i j:Nat}(hi:i<a.size)(hj:j<b.size)(h:L (b.getD j bn) (a.getD i bn)=false): ∀k,k<=i->leq L (a.getD k bn) (b.getD j bn):=λk hk=>
 C.tr _ _ _ (T.pa _ (by omega)) (T.pa _ hi) (T.pb _ hj) (T.sa' C hk hi) h
theorem oX(C:Cmp prog w A E s κ P L)(T:TwoR P L a b){na j:Nat}{st:Kc}{Q:Option Nat->Kc->Prop}(hk:kindOf st=κ)(h1:1<=na)(h2:na<=a.size)(hb:j<b.size)
 (h: ∀k,k<=na->(∀i,i<k->L (b.getD j bn) (a.getD i bn)=false)->(∀i,k<=i->i<na->L (b.getD j bn) (a.getD i bn)=true)->Q (some k) st):wpS (model prog w) A E s (cS false (b.getD j bn) a 0 na (na-1)) Q st:=by
 refine dS C hk (T.pb _ hb) (by omega) (by omega) (λi hi=>T.pa _ (by omega)) (λi j h1 h2 h3=>T.sa' C h2 (by omega)) λk c=>?_
 refine h k c.leq (λi hi=>?_) λi hi h9=>?_
 ·have:=c.lo i hi
  unfold gg at this;rw[if_neg (by decide),J5,LY] at this
  exact this
 ·have:=c.hi i hi h9
  unfold gg at this;rw[if_neg (by decide),Nr,LY] at this
  exact this
theorem iN(C:Cmp prog w A E s κ P L)(T:TwoR P L a b){nb i0:Nat}{st:Kc}{Q:Option Nat->Kc->Prop}(hk:kindOf st=κ)(h1:1<=nb)(h2:nb<=b.size)(hi:i0<a.size)
 (h: ∀k,k<=nb->(∀i,i<k->L (b.getD i bn) (a.getD i0 bn)=true)->(∀i,k<=i->i<nb->L (b.getD i bn) (a.getD i0 bn)=false)->Q (some k) st):wpS (model prog w) A E s (cS true (a.getD i0 bn) b 0 nb (nb-1)) Q st:=by
 refine dS C hk (T.pa _ hi) (by omega) (by omega) (λi hi=>T.pb _ (by omega)) (λi j h1 h2 h3=>T.sb' C h2 (by omega)) λk c=>?_
 refine h k c.leq (λi hi=>?_) λi hi h9=>?_
 ·have:=c.lo i hi
  unfold gg at this;rw[if_pos rfl,LY] at this;exact this
 ·have:=c.hi i hi h9
  unfold gg at this;rw[if_pos rfl,LY] at this;exact this
theorem sZ(a b:Array II):nw a b=(do
 rule "list.sort.merge-hi"
 let total:=a.size+b.size
 let done (out:Array II) (na nb:Nat):=a.extract 0 na++b.extract 0 nb++out.reverse
 let firstOfB (out:Array II) (na nb:Nat):=b.extract 0 nb++a.extract 0 na++out.reverse
 let mut na:=a.size-1
 let mut nb:=b.size
 let mut out:Array Keyed:= #[<-Nb a na]
 if na==0 then return done out na nb
 if nb==1 then return firstOfB out na nb
 let mut minGallop:=Tv (<-get)
 for _ in [0:total] do
  let mut acount:=0
  let mut bcount:=0
  for _ in [0:total] do
   let some aWins <-lt' (<-Nb b (nb-1)) (<-Nb a (na-1))|return done out na nb
   if aWins then
    na:=na-1;out:=out.push (<-Nb a na);acount:=acount+1;bcount:=0
    if na==0 then return done out na nb
    if acount≥minGallop then break
   else
    nb:=nb-1;out:=out.push (<-Nb b nb);bcount:=bcount+1;acount:=0
    if nb==1 then return firstOfB out na nb
    if bcount≥minGallop then break
  rule "list.sort.gallop"
  minGallop:=minGallop+1
  for _ in [0:total] do
   if minGallop>1 then minGallop:=minGallop-1
   modify λs=>aT s minGallop
   let some at_ <-cS false (<-Nb b (nb-1)) a 0 na (na-1)|return done out na nb
   let k:=na-at_
   acount:=k
   if k>0 then
    out:=out++(a.extract at_ na).reverse;na:=at_
    if na==0 then return done out na nb
   nb:=nb-1;out:=out.push (<-Nb b nb)
   if nb==1 then return firstOfB out na nb
   let some at_ <-cS true (<-Nb a (na-1)) b 0 nb (nb-1)|return done out na nb
   let k:=nb-at_
   bcount:=k
   if k>0 then
    out:=out++(b.extract at_ nb).reverse;nb:=at_
    if nb==1 then return firstOfB out na nb
    if nb==0 then return done out na nb
   na:=na-1;out:=out.push (<-Nb a na)
   if na==0 then return done out na nb
   if acount<7&&bcount<7 then break
  minGallop:=minGallop+1
  modify λs=>aT s minGallop
 Kz "internal:list.sort.merge-bound"):=rfl
end
section
variable {prog:Jf}{w:Jr}{A:Jm}{E:Il->Io->Prop}{s:Io}{κ:MS}{P:II->Prop}{L:II->II->Bool}{a b:Array II}
theorem eG {α:Type}{c:Prop} [Decidable c]{m1 m2:StateT Kc Sem α}{Q:α->Kc->Prop}{st:Kc}(h1:wpS (model prog w) A E s m1 Q st)(h2:wpS (model prog w) A E s m2 Q st):wpS (model prog w) A E s (if c then m1 else m2) Q st:=by
 by_cases h:c
 ·rw[if_pos h];exact h1
 ·rw[if_neg h];exact h2
theorem sT(C:Cmp prog w A E s κ P L)(T:TwoR P L a b){st:Kc}{Q:Array II->Kc->Prop}(hk:kindOf st=κ)
 (h: ∀r g,MG L a.toList b.toList r.toList->Q r (aT st g)):wpS (model prog w) A E s (nw a b) Q st:=by
 rw[sZ];dsimp only;have ha:=T.na
 have hb:=T.nb
 refine Is (Px (Nq ⟨rfl,?_⟩))
 refine Is (ao (by omega) ?_)
 have hst:st=aT st (Tv st):=rfl
 have J0:MR L a b #[a.getD (a.size-1) bn] (a.size-1) b.size:=by
  have z:MR L a b #[] (a.size-1+1) b.size:=⟨by rw[Lz (by simp;omega),Lz (by simp)];simp,by simp,by simp⟩
  exact cN T z (by omega) λj _ h2=>C.as _ _ (T.last j h2)
 by_cases e1:a.size-1=0
 ·rw[if_pos (by simpa using e1)]
  refine Ir ?_
  rw[hst];exact h _ _ (cT T J0 (.inl e1))
 rw[if_neg (aB e1)]
 by_cases e2:b.size=1
 ·rw[if_pos (by simpa using e2)]
  refine Ir ?_
  rw[hst];exact h _ _ (cQ C T J0 e2)
 rw[if_neg (aB e2)];refine Is (Nj ?_)
 refine Is (Lx (Km
  (I:=λx c st'=> ∃out na nb mg g,c=(none,na,nb,out,mg)/\st'=aT st g/\MK L a b out na nb/\na+nb+x+1<=a.size+b.size)
  (Q:=λc st'=> ∃r y g,c=(some r,y)/\st'=aT st g/\MG L a.toList b.toList r.toList) ?step ?fin ⟨_,_,_,_,_,rfl,hst,⟨J0,by omega,by omega,by omega,by omega⟩,by omega⟩) ?post)
 case fin=>
  rintro c st' ⟨out,na,nb,mg,g,rfl,rfl,M,hx⟩
  have:=M.ha;have:=M.hb
  omega
 case post=>
  rintro c st' ⟨r,y,g,rfl,rfl,G⟩
  exact Ir (h r g G)
 case step=>
  rintro x c st' _ hx ⟨out,na,nb,mg,g,rfl,rfl,M,hx2⟩
  dsimp only;refine Is (Lx (Km
   (I:=λx' c st'=> ∃out' na' nb' ac bc,c=(none,na',nb',out',ac,bc)/\st'=aT st g/\MK L a b out' na' nb'/\na'+nb'+x'<=na+nb)
   (Q:=λc st'=>st'=aT st g/\((∃r y,c=(some r,y)/\MG L a.toList b.toList r.toList)\/ ∃out' na' nb' ac bc,c=(none,na',nb',out',ac,bc)/\MK L a b out' na' nb'/\na'+nb'+1<=na+nb)) ?step1 ?fin1 ⟨out,na,nb,0,0,rfl,rfl,M,by omega⟩) ?post1)
  case fin1=>
   rintro c st' ⟨out',na',nb',ac,bc,rfl,rfl,M',hx'⟩
   exact⟨rfl,.inr ⟨_,_,_,_,_,rfl,M',by omega⟩⟩
  case step1=>
   rintro x' c st' _ hx' ⟨out',na',nb',ac,bc,rfl,rfl,M',hx3⟩
   have m1:=M'.ha;have m2:=M'.hb;have m3:=M'.la;have m4:=M'.lb
   dsimp only;refine Is (ao (show nb'-1<b.size by omega) (Is (ao (show na'-1<a.size by omega) ?_)))
   refine Is (C.ask _ _ (T.pb _ (by omega)) (T.pa _ (by omega)) _ _ hk ?_)
   dsimp only;cases e:L (b.getD (nb'-1) bn) (a.getD (na'-1) bn) with
   |true=>
    rw[if_pos rfl];refine Is (ao (show na'-1<a.size by omega) ?_)
    have J:=cN T (na:=na'-1) (show MR L a b _ (na'-1+1) _ by rw[show na'-1+1=na' by omega];exact M'.j) (by omega) λj h1 _=>T.aTop C (by omega) (by omega) e j (by omega)
    by_cases e3:na'-1=0
    ·rw[if_pos (by simpa using e3)]
     exact Ir ⟨rfl,.inl ⟨_,_,rfl,cT T J (.inl e3)⟩⟩
    ·rw[if_neg (aB e3)]
     by_cases q9:ac+1≥mg
     ·rw[if_pos q9];exact Ir ⟨rfl,.inr ⟨_,_,_,_,_,rfl,⟨J,by omega,by omega,by omega,by omega⟩,by omega⟩⟩
     ·rw[if_neg q9];exact Ir ⟨_,_,_,_,_,rfl,rfl,⟨J,by omega,by omega,by omega,by omega⟩,by omega⟩
   |false=>
    rw[if_neg (by decide)]
    refine Is (ao (show nb'-1<b.size by omega) ?_)
    have J:=iI T (nb:=nb'-1) (show MR L a b _ _ (nb'-1+1) by rw[show nb'-1+1=nb' by omega];exact M'.j) (by omega) λj h1 _=>T.bTop C (show na'-1<a.size by omega) (by omega) e j (by omega)
    by_cases e3:nb'-1=1
    ·rw[if_pos (by simpa using e3)]
     exact Ir ⟨rfl,.inl ⟨_,_,rfl,cQ C T J e3⟩⟩
    ·rw[if_neg (aB e3)]
     by_cases q9:bc+1≥mg
     ·rw[if_pos q9];exact Ir ⟨rfl,.inr ⟨_,_,_,_,_,rfl,⟨J,by omega,by omega,by omega,by omega⟩,by omega⟩⟩
     ·rw[if_neg q9];exact Ir ⟨_,_,_,_,_,rfl,rfl,⟨J,by omega,by omega,by omega,by omega⟩,by omega⟩
  case post1=>
   rintro c st' ⟨rfl,⟨r,y,rfl,G⟩|⟨out1,na1,nb1,ac,bc,rfl,M1,hx1⟩⟩
   ·exact Ir ⟨r,_,g,rfl,rfl,G⟩
   ·dsimp only
    refine Is (Px (Nq ⟨rfl,?_⟩))
    refine Is (Lx (Km
     (I:=λ_ c st'=> ∃out' na' nb' mg ac bc g,c=(none,na',nb',out',mg,ac,bc)/\st'=aT st g/\MK L a b out' na' nb'/\na'+nb'<=na1+nb1)
     (Q:=λc st'=> ∃g,st'=aT st g/\((∃r y,c=(some r,y)/\MG L a.toList b.toList r.toList)\/ ∃out' na' nb' mg ac bc,c=(none,na',nb',out',mg,ac,bc)/\MK L a b out' na' nb'/\na'+nb'<=na1+nb1)) ?step2 ?fin2 ⟨out1,na1,nb1,_,_,_,_,rfl,rfl,M1,Iv _⟩) ?post2)
    case fin2=>
     rintro c st' ⟨out',na',nb',mg,ac,bc,g,rfl,rfl,M',hx'⟩
     exact⟨g,rfl,.inr ⟨_,_,_,_,_,_,rfl,M',hx'⟩⟩
    case post2=>
     rintro c st' ⟨g2,rfl,⟨r,y,rfl,G⟩|⟨out',na',nb',mg,ac,bc,rfl,M',hx'⟩⟩
     ·exact Ir ⟨r,_,g2,rfl,rfl,G⟩
     ·dsimp only
      refine Is (K7 ?_)
      exact Ir ⟨_,_,_,_,_,rfl,rfl,M',by omega⟩
    case step2=>
     rintro x' c st' _ hx' ⟨out',na',nb',mg',ac',bc',g',rfl,rfl,M',hx3⟩
     have m1:=M'.ha;have m2:=M'.hb;have m3:=M'.la;have m4:=M'.lb
     dsimp only
     by_cases q1:mg'>1
     ·rw[if_pos q1]
      refine Is (K7 ?_)
      refine Is (ao (show nb'-1<b.size by omega) ?_)
      refine Is (oX C T hk m1 m3 (show nb'-1<b.size by omega) λp p1 p2 p3=>?_)
      dsimp only
      by_cases q2:na'-p>0
      ·rw[if_pos q2]
       have J1:=rJ T (na':=p) p1 M'.j λi h1 h2 h3 j h4 h5=>T.aTop C h3 (show nb'-1<b.size by omega) (p3 i h1 h2) j (by omega)
       by_cases e5:p=0
       ·rw[if_pos (by simpa using e5)]
        exact Ir ⟨_,rfl,.inl ⟨_,_,rfl,cT T J1 (.inl e5)⟩⟩
       rw[if_neg (aB e5)];have k2: ∀j,j<p->j<a.size->leq L (a.getD j bn) (b.getD (nb'-1) bn):=λj h1 _=>p2 j h1
       refine Is (ao (show nb'-1<b.size by omega) ?_)
       have J2:=iI T (nb:=nb'-1) (show MR L a b _ _ (nb'-1+1) by rw[show nb'-1+1=nb' by omega];exact J1) (by omega) k2
       by_cases e6:nb'-1=1
       ·rw[if_pos (by simpa using e6)]
        exact Ir ⟨_,rfl,.inl ⟨_,_,rfl,cQ C T J2 e6⟩⟩
       rw[if_neg (aB e6)];refine Is (ao (show p-1<a.size by omega) ?_)
       refine Is (iN C T hk (by omega) (by omega) (show p-1<a.size by omega) λl l1 l2 l3=>?_)
       dsimp only;have l0:1<=l:=by
        apply Mm
        intro h9;have:=l3 0 (by omega) (by omega)
        rw[T.first _ (by omega)] at this
        cases this
       replace l2: ∀j,j<l->j<b.size->leq L (b.getD j bn) (a.getD (p-1) bn):=λj h1 _=>C.as _ _ (l2 j h1)
       by_cases q3:nb'-1-l>0
       ·rw[if_pos q3]
        have J3:=j8 T (nb':=l) (by omega) J2 λi h1 h2 h3 j h4 h5=>T.bTop C (show p-1<a.size by omega) h3 (l3 i h1 h2) j (by omega)
        by_cases e7:l=1
        ·rw[if_pos (by simpa using e7)]
         exact Ir ⟨_,rfl,.inl ⟨_,_,rfl,cQ C T J3 e7⟩⟩
        rw[if_neg (aB e7),if_neg (aB (show¬l=0 by omega))]
        refine Is (ao (show p-1<a.size by omega) ?_)
        have J4:=cN T (na:=p-1) (show MR L a b _ (p-1+1) _ by rw[show p-1+1=p by omega];exact J3) (by omega) (l2)
        by_cases e8:p-1=0
        ·rw[if_pos (by simpa using e8)]
         exact Ir ⟨_,rfl,.inl ⟨_,_,rfl,cT T J4 (.inl e8)⟩⟩
        rw[if_neg (aB e8)];refine eG ?_ ?_
        ·exact Ir ⟨_,rfl,.inr ⟨_,_,_,_,_,_,rfl,⟨J4,by omega,by omega,by omega,by omega⟩,by omega⟩⟩
        ·exact Ir ⟨_,_,_,_,_,_,_,rfl,rfl,⟨J4,by omega,by omega,by omega,by omega⟩,by omega⟩
       ·rw[if_neg q3]
        have hl:l=nb'-1:=by omega
        subst hl;have J3:=J2
        refine Is (ao (show p-1<a.size by omega) ?_)
        have J4:=cN T (na:=p-1) (show MR L a b _ (p-1+1) _ by rw[show p-1+1=p by omega];exact J3) (by omega) (l2)
        by_cases e8:p-1=0
        ·rw[if_pos (by simpa using e8)]
         exact Ir ⟨_,rfl,.inl ⟨_,_,rfl,cT T J4 (.inl e8)⟩⟩
        rw[if_neg (aB e8)];refine eG ?_ ?_
        ·exact Ir ⟨_,rfl,.inr ⟨_,_,_,_,_,_,rfl,⟨J4,by omega,by omega,by omega,by omega⟩,by omega⟩⟩
        ·exact Ir ⟨_,_,_,_,_,_,_,rfl,rfl,⟨J4,by omega,by omega,by omega,by omega⟩,by omega⟩
      ·rw[if_neg q2]
       have hp:p=na':=by omega
       subst hp;have J1:=M'.j
       have k2: ∀j,j<p->j<a.size->leq L (a.getD j bn) (b.getD (nb'-1) bn):=λj h1 _=>p2 j h1
       refine Is (ao (show nb'-1<b.size by omega) ?_)
       have J2:=iI T (nb:=nb'-1) (show MR L a b _ _ (nb'-1+1) by rw[show nb'-1+1=nb' by omega];exact J1) (by omega) k2
       by_cases e6:nb'-1=1
       ·rw[if_pos (by simpa using e6)]
        exact Ir ⟨_,rfl,.inl ⟨_,_,rfl,cQ C T J2 e6⟩⟩
       rw[if_neg (aB e6)];refine Is (ao (show p-1<a.size by omega) ?_)
       refine Is (iN C T hk (by omega) (by omega) (show p-1<a.size by omega) λl l1 l2 l3=>?_)
       dsimp only;have l0:1<=l:=by
        apply Mm
        intro h9;have:=l3 0 (by omega) (by omega)
        rw[T.first _ (by omega)] at this
        cases this
       replace l2: ∀j,j<l->j<b.size->leq L (b.getD j bn) (a.getD (p-1) bn):=λj h1 _=>C.as _ _ (l2 j h1)
       by_cases q3:nb'-1-l>0
       ·rw[if_pos q3]
        have J3:=j8 T (nb':=l) (by omega) J2 λi h1 h2 h3 j h4 h5=>T.bTop C (show p-1<a.size by omega) h3 (l3 i h1 h2) j (by omega)
        by_cases e7:l=1
        ·rw[if_pos (by simpa using e7)]
         exact Ir ⟨_,rfl,.inl ⟨_,_,rfl,cQ C T J3 e7⟩⟩
        rw[if_neg (aB e7),if_neg (aB (show¬l=0 by omega))]
        refine Is (ao (show p-1<a.size by omega) ?_)
        have J4:=cN T (na:=p-1) (show MR L a b _ (p-1+1) _ by rw[show p-1+1=p by omega];exact J3) (by omega) (l2)
        by_cases e8:p-1=0
        ·rw[if_pos (by simpa using e8)]
         exact Ir ⟨_,rfl,.inl ⟨_,_,rfl,cT T J4 (.inl e8)⟩⟩
        rw[if_neg (aB e8)];refine eG ?_ ?_
        ·exact Ir ⟨_,rfl,.inr ⟨_,_,_,_,_,_,rfl,⟨J4,by omega,by omega,by omega,by omega⟩,by omega⟩⟩
        ·exact Ir ⟨_,_,_,_,_,_,_,rfl,rfl,⟨J4,by omega,by omega,by omega,by omega⟩,by omega⟩
       ·rw[if_neg q3]
        have hl:l=nb'-1:=by omega
        subst hl;have J3:=J2
        refine Is (ao (show p-1<a.size by omega) ?_)
        have J4:=cN T (na:=p-1) (show MR L a b _ (p-1+1) _ by rw[show p-1+1=p by omega];exact J3) (by omega) (l2)
        by_cases e8:p-1=0
        ·rw[if_pos (by simpa using e8)]
         exact Ir ⟨_,rfl,.inl ⟨_,_,rfl,cT T J4 (.inl e8)⟩⟩
        rw[if_neg (aB e8)];refine eG ?_ ?_
        ·exact Ir ⟨_,rfl,.inr ⟨_,_,_,_,_,_,rfl,⟨J4,by omega,by omega,by omega,by omega⟩,by omega⟩⟩
        ·exact Ir ⟨_,_,_,_,_,_,_,rfl,rfl,⟨J4,by omega,by omega,by omega,by omega⟩,by omega⟩
     ·rw[if_neg q1]
      refine Is (K7 ?_)
      refine Is (ao (show nb'-1<b.size by omega) ?_)
      refine Is (oX C T hk m1 m3 (show nb'-1<b.size by omega) λp p1 p2 p3=>?_)
      dsimp only
      by_cases q2:na'-p>0
      ·rw[if_pos q2]
       have J1:=rJ T (na':=p) p1 M'.j λi h1 h2 h3 j h4 h5=>T.aTop C h3 (show nb'-1<b.size by omega) (p3 i h1 h2) j (by omega)
       by_cases e5:p=0
       ·rw[if_pos (by simpa using e5)]
        exact Ir ⟨_,rfl,.inl ⟨_,_,rfl,cT T J1 (.inl e5)⟩⟩
       rw[if_neg (aB e5)];have k2: ∀j,j<p->j<a.size->leq L (a.getD j bn) (b.getD (nb'-1) bn):=λj h1 _=>p2 j h1
       refine Is (ao (show nb'-1<b.size by omega) ?_)
       have J2:=iI T (nb:=nb'-1) (show MR L a b _ _ (nb'-1+1) by rw[show nb'-1+1=nb' by omega];exact J1) (by omega) k2
       by_cases e6:nb'-1=1
       ·rw[if_pos (by simpa using e6)]
        exact Ir ⟨_,rfl,.inl ⟨_,_,rfl,cQ C T J2 e6⟩⟩
       rw[if_neg (aB e6)];refine Is (ao (show p-1<a.size by omega) ?_)
       refine Is (iN C T hk (by omega) (by omega) (show p-1<a.size by omega) λl l1 l2 l3=>?_)
       dsimp only;have l0:1<=l:=by
        apply Mm
        intro h9;have:=l3 0 (by omega) (by omega)
        rw[T.first _ (by omega)] at this
        cases this
       replace l2: ∀j,j<l->j<b.size->leq L (b.getD j bn) (a.getD (p-1) bn):=λj h1 _=>C.as _ _ (l2 j h1)
       by_cases q3:nb'-1-l>0
       ·rw[if_pos q3]
        have J3:=j8 T (nb':=l) (by omega) J2 λi h1 h2 h3 j h4 h5=>T.bTop C (show p-1<a.size by omega) h3 (l3 i h1 h2) j (by omega)
        by_cases e7:l=1
        ·rw[if_pos (by simpa using e7)]
         exact Ir ⟨_,rfl,.inl ⟨_,_,rfl,cQ C T J3 e7⟩⟩
        rw[if_neg (aB e7),if_neg (aB (show¬l=0 by omega))]
        refine Is (ao (show p-1<a.size by omega) ?_)
        have J4:=cN T (na:=p-1) (show MR L a b _ (p-1+1) _ by rw[show p-1+1=p by omega];exact J3) (by omega) (l2)
        by_cases e8:p-1=0
        ·rw[if_pos (by simpa using e8)]
         exact Ir ⟨_,rfl,.inl ⟨_,_,rfl,cT T J4 (.inl e8)⟩⟩
        rw[if_neg (aB e8)];refine eG ?_ ?_
        ·exact Ir ⟨_,rfl,.inr ⟨_,_,_,_,_,_,rfl,⟨J4,by omega,by omega,by omega,by omega⟩,by omega⟩⟩
        ·exact Ir ⟨_,_,_,_,_,_,_,rfl,rfl,⟨J4,by omega,by omega,by omega,by omega⟩,by omega⟩
       ·rw[if_neg q3]
        have hl:l=nb'-1:=by omega
        subst hl;have J3:=J2
        refine Is (ao (show p-1<a.size by omega) ?_)
        have J4:=cN T (na:=p-1) (show MR L a b _ (p-1+1) _ by rw[show p-1+1=p by omega];exact J3) (by omega) (l2)
        by_cases e8:p-1=0
        ·rw[if_pos (by simpa using e8)]
         exact Ir ⟨_,rfl,.inl ⟨_,_,rfl,cT T J4 (.inl e8)⟩⟩
        rw[if_neg (aB e8)];refine eG ?_ ?_
        ·exact Ir ⟨_,rfl,.inr ⟨_,_,_,_,_,_,rfl,⟨J4,by omega,by omega,by omega,by omega⟩,by omega⟩⟩
        ·exact Ir ⟨_,_,_,_,_,_,_,rfl,rfl,⟨J4,by omega,by omega,by omega,by omega⟩,by omega⟩
      ·rw[if_neg q2]
       have hp:p=na':=by omega
       subst hp;have J1:=M'.j
       have k2: ∀j,j<p->j<a.size->leq L (a.getD j bn) (b.getD (nb'-1) bn):=λj h1 _=>p2 j h1
       refine Is (ao (show nb'-1<b.size by omega) ?_)
       have J2:=iI T (nb:=nb'-1) (show MR L a b _ _ (nb'-1+1) by rw[show nb'-1+1=nb' by omega];exact J1) (by omega) k2
       by_cases e6:nb'-1=1
       ·rw[if_pos (by simpa using e6)]
        exact Ir ⟨_,rfl,.inl ⟨_,_,rfl,cQ C T J2 e6⟩⟩
       rw[if_neg (aB e6)];refine Is (ao (show p-1<a.size by omega) ?_)
       refine Is (iN C T hk (by omega) (by omega) (show p-1<a.size by omega) λl l1 l2 l3=>?_)
       dsimp only;have l0:1<=l:=by
        apply Mm
        intro h9;have:=l3 0 (by omega) (by omega)
        rw[T.first _ (by omega)] at this
        cases this
       replace l2: ∀j,j<l->j<b.size->leq L (b.getD j bn) (a.getD (p-1) bn):=λj h1 _=>C.as _ _ (l2 j h1)
       by_cases q3:nb'-1-l>0
       ·rw[if_pos q3]
        have J3:=j8 T (nb':=l) (by omega) J2 λi h1 h2 h3 j h4 h5=>T.bTop C (show p-1<a.size by omega) h3 (l3 i h1 h2) j (by omega)
        by_cases e7:l=1
        ·rw[if_pos (by simpa using e7)]
         exact Ir ⟨_,rfl,.inl ⟨_,_,rfl,cQ C T J3 e7⟩⟩
        rw[if_neg (aB e7),if_neg (aB (show¬l=0 by omega))]
        refine Is (ao (show p-1<a.size by omega) ?_)
        have J4:=cN T (na:=p-1) (show MR L a b _ (p-1+1) _ by rw[show p-1+1=p by omega];exact J3) (by omega) (l2)
        by_cases e8:p-1=0
        ·rw[if_pos (by simpa using e8)]
         exact Ir ⟨_,rfl,.inl ⟨_,_,rfl,cT T J4 (.inl e8)⟩⟩
        rw[if_neg (aB e8)];refine eG ?_ ?_
        ·exact Ir ⟨_,rfl,.inr ⟨_,_,_,_,_,_,rfl,⟨J4,by omega,by omega,by omega,by omega⟩,by omega⟩⟩
        ·exact Ir ⟨_,_,_,_,_,_,_,rfl,rfl,⟨J4,by omega,by omega,by omega,by omega⟩,by omega⟩
       ·rw[if_neg q3]
        have hl:l=nb'-1:=by omega
        subst hl;have J3:=J2
        refine Is (ao (show p-1<a.size by omega) ?_)
        have J4:=cN T (na:=p-1) (show MR L a b _ (p-1+1) _ by rw[show p-1+1=p by omega];exact J3) (by omega) (l2)
        by_cases e8:p-1=0
        ·rw[if_pos (by simpa using e8)]
         exact Ir ⟨_,rfl,.inl ⟨_,_,rfl,cT T J4 (.inl e8)⟩⟩
        rw[if_neg (aB e8)];refine eG ?_ ?_
        ·exact Ir ⟨_,rfl,.inr ⟨_,_,_,_,_,_,rfl,⟨J4,by omega,by omega,by omega,by omega⟩,by omega⟩⟩
        ·exact Ir ⟨_,_,_,_,_,_,_,rfl,rfl,⟨J4,by omega,by omega,by omega,by omega⟩,by omega⟩
end
abbrev SS(κ:MS)(arr:Array II)(pend:Array (Nat×Nat×Nat))(g:Nat):SortSt:=Ym κ arr pend g none
abbrev gk(arr:Array II)(i:Nat):Keyed:=arr.getD i bn
section
variable {prog:Jf}{w:Jr}{A:Jm}{E:Il->Io->Prop}{s:Io}{κ:MS}{P:II->Prop}{L:II->II->Bool}{arr arr':Array II}{pend:Array (Nat×Nat×Nat)}{g:Nat}
def AlP(P:II->Prop)(arr:Array II):Prop:= ∀x∈arr.toList,P x
def DsL(L:II->II->Bool)(arr:Array II):Prop:=arr.toList.Pairwise λx y=>L x y=true\/L y x=true
theorem AlP.gt(h:AlP P arr){i:Nat}(hi:i<arr.size):P (gk arr i):=h _ (by simp[gk,Ku,hi])
theorem AlP.perm(h:AlP P arr)(p:arr'.Perm arr):AlP P arr':=λx hx=>h x (p.toList.mem_iff.mp hx)
theorem DsL.perm(h:DsL L arr)(p:arr'.Perm arr):DsL L arr':=(p.toList.pairwise_iff (λhxy=>hxy.symm)).mpr h
theorem DsL.gt(h:DsL L arr){i j:Nat}(hi:i<arr.size)(hj:j<arr.size)(ne:i≠j):L (gk arr i) (gk arr j)=true\/L (gk arr j) (gk arr i)=true:=by
 have key: ∀i j,i<arr.size->j<arr.size->i<j->L (gk arr i) (gk arr j)=true\/L (gk arr j) (gk arr i)=true:=λi j hi hj hij=>by
  have:=Jz.mp h i j (by simpa using hi) (by simpa using hj) hij
  simpa [gk,Ku,hi,hj] using this
 rcases Nat.lt_or_gt_of_ne ne with h1|h1
 ·exact key i j hi hj h1
 ·exact(key j i hj hi h1).symm
structure ChgK(lo hi:Nat)(arr arr':Array II):Prop where
 perm:arr'.Perm arr
 same: ∀i,i<lo\/hi<=i->gk arr' i=gk arr i
theorem ChgK.refl(lo hi:Nat)(arr:Array II):ChgK lo hi arr arr:=⟨.refl _,λ_ _=>rfl⟩
theorem ChgK.size {lo hi:Nat}(c:ChgK lo hi arr arr'):arr'.size=arr.size:=c.perm.size_eq
theorem ChgK.trans {lo hi:Nat}{arr2:Array II}(c:ChgK lo hi arr arr')(d:ChgK lo hi arr' arr2):ChgK lo hi arr arr2:=⟨d.perm.trans c.perm,λi h=>(d.same i h).trans (c.same i h)⟩
theorem ChgK.mono {lo hi lo' hi':Nat}(c:ChgK lo hi arr arr')(h1:lo'<=lo)(h2:hi<=hi'):ChgK lo' hi' arr arr':=⟨c.perm,λi h=>c.same i (by omega)⟩
theorem fh(C:Cmp prog w A E s κ P L)(hP:AlP P arr){i j:Nat}{Q:Option Bool->Kc->Prop}(hi:i<arr.size)(hj:j<arr.size)(h:Q (some (L (gk arr i) (gk arr j))) (SS κ arr pend g)):wpS (model prog w) A E s (ltAt' i j) Q (SS κ arr pend g):=by
 rw[ltAt'_eq];refine Is (Nj ?_)
 exact Is (ao hi (Is (ao hj (C.ask _ _ (hP.gt hi) (hP.gt hj) _ _ rfl h))))
theorem yf(C:Cmp prog w A E s κ P L)(hP:AlP P arr){lo n:Nat}(hn:1<=n)(hz:lo+n<arr.size)(h:ii L arr lo (lo+n))(e:L (gk arr (lo+n)) (gk arr (lo+n-1))=false):ii L arr lo (lo+(n+1)):=λi j h1 h2 h3=>by
 by_cases h4:j<lo+n
 ·exact h i j h1 h2 h4
 ·have:j=lo+n:=by omega
  subst this
  by_cases h5:i=lo+n
  ·subst h5;exact C.rf _
  ·exact C.tr _ _ _ (hP.gt (by omega)) (hP.gt (by omega)) (hP.gt hz) (h i (lo+n-1) h1 (by omega) (by omega)) e
theorem A2(C:Cmp prog w A E s κ P L)(lo:Nat):ii L arr lo (lo+1):=λi j h1 h2 h3=>by
 have:i=j:=by omega
 subst this;exact C.rf _
theorem kA {i j:Nat}(hj:j<=arr.size)(k:Nat):gk (Sc arr i j ((j-i) / 2)) k=if i<=k/\k<j then gk arr (i+j-1-k) else gk arr k:=by
 have:=QL (i:=i) hj k
 unfold gk;rw[Kj,this];split
 ·rw[Kj]
 ·rw[Kj]
theorem uk {lo hi i j:Nat}(h1:lo<=i)(h2:j<=hi)(hj:j<=arr.size):ChgK lo hi arr (Sc arr i j ((j-i) / 2)):=⟨mirror_perm _ _ _ _,λk hk=>by rw[kA hj,if_neg (by omega)]⟩
theorem xL(C:Cmp prog w A E s κ P L)(hP:AlP P arr)(hD:DsL L arr){lo nrem:Nat}(hz:lo+nrem<=arr.size)(h1:1<=nrem){Q:Option Nat->Kc->Prop}
 (h: ∀n arr',1<=n->n<=nrem->ChgK lo (lo+nrem) arr arr'->ii L arr' lo (lo+n)->Q (some n) (SS κ arr' pend g)):wpS (model prog w) A E s (countRun' lo nrem) Q (SS κ arr pend g):=by
 rw[countRun'_eq];have asc: ∀(ar:Array II) (n0:Nat),AlP P ar->lo+nrem<=ar.size->1<=n0->n0<=nrem->ii L ar lo (lo+n0)-> ∀(f:Nat->Option (Option Nat)×Nat->StateT Kc Sem (ForInStep (Option (Option Nat)×Nat))),
  (∀x n (R:ForInStep (Option (Option Nat)×Nat)->Kc->Prop),1<=n->n<nrem->(L (gk ar (lo+n)) (gk ar (lo+n-1))=true->R (.done (none,n)) (SS κ ar pend g))->(L (gk ar (lo+n)) (gk ar (lo+n-1))=false->R (.yield (none,n+1)) (SS κ ar pend g))->wpS (model prog w) A E s (f x (none,n)) R (SS κ ar pend g))->
  ∀(R':Option (Option Nat)×Nat->Kc->Prop),(∀n,n0<=n->n<=nrem->ii L ar lo (lo+n)->(n<nrem->L (gk ar (lo+n)) (gk ar (lo+n-1))=true)->R' (none,n) (SS κ ar pend g))->wpS (model prog w) A E s (forIn [n0:nrem] ((none,n0):Option (Option Nat)×Nat) f) R' (SS κ ar pend g):=λar n0 pA zA a1 a2 sA f hf R' hR=>by
  refine Lx (Km (I:=λx c st'=>c=(none,x)/\st'=SS κ ar pend g/\x<=nrem/\ii L ar lo (lo+x))
   (Q:=λc st'=>st'=SS κ ar pend g/\ ∃n,c=(none,n)/\n0<=n/\n<=nrem/\ii L ar lo (lo+n)/\(n<nrem->L (gk ar (lo+n)) (gk ar (lo+n-1))=true)) ?_ ?_ ⟨rfl,rfl,a2,sA⟩) ?_
  ·rintro x c st' hx0 hx ⟨rfl,rfl,b1,b2⟩
   refine hf x x _ (by omega) hx (λe=>⟨rfl,x,rfl,hx0,b1,b2,λ_=>e⟩) λe=>⟨rfl,rfl,by omega,yf C pA (by omega) (by omega) b2 e⟩
  ·rintro c st' ⟨rfl,rfl,b1,b2⟩
   rw[show max n0 nrem=nrem by omega] at*
   exact⟨rfl,_,rfl,a2,Iv _,b2,λz=>absurd z (LA _)⟩
  ·rintro c st' ⟨rfl,n,rfl,b1,b2,b3,b4⟩
   exact hR n b1 b2 b3 b4
 refine Is (asc arr 1 hP hz (by omega) h1 (A2 C lo) _ (λx n R n1 n2 r1 r2=>?_) _ λn n1 n2 sn nx=>?_)
 ·dsimp only
  refine Is (fh C hP (by omega) (by omega) ?_)
  cases e:L (gk arr (lo+n)) (gk arr (lo+n-1)) with
  |true=>exact Ir (r1 e)
  |false=>exact Ir (r2 e)
 dsimp only
 by_cases e1:n=nrem
 ·rw[if_pos (by simpa using e1)]
  exact Ir (h n arr n1 n2 (.refl _ _ _) sn)
 rw[if_neg (aB e1)]
 by_cases e2:n>1
 ·rw[if_pos e2]
  refine Is (fh C hP (by omega) (by omega) ?_)
  have rise:L (gk arr lo) (gk arr (lo+n-1))=true:=by
   rcases hD.gt (i:=lo) (j:=lo+n-1) (by omega) (by omega) (by omega) with q|q
   ·exact q
   ·rw[sn lo (lo+n-1) (Iv _) (by omega) (by omega)] at q;cases q
  rw[rise];exact Ir (h n arr n1 n2 (.refl _ _ _) sn)
 rw[if_neg e2];have hn:n=1:=by omega
 subst hn;refine Is (Px (Nq ⟨rfl,?_⟩))
 refine Is (Lx (Km (I:=λx c st'=>c=(none,x,0)/\st'=SS κ arr pend g/\2<=x/\x<=nrem/\ ∀i j,lo<=i->i<=j->j<lo+x->L (gk arr i) (gk arr j)=false)
  (Q:=λc st'=>st'=SS κ arr pend g/\ ∃n,c=(none,n,0)/\2<=n/\n<=nrem/\ ∀i j,lo<=i->i<=j->j<lo+n->L (gk arr i) (gk arr j)=false) ?_ ?_ ⟨rfl,rfl,by omega,by omega,λi j i1 i2 i3=>?_⟩) ?_)
 ·rintro x c st' hx0 hx ⟨rfl,rfl,b1,b2,b3⟩
  dsimp only;refine Is (fh C hP (by omega) (by omega) ?_)
  dsimp only;cases e:L (gk arr (lo+x)) (gk arr (lo+x-1)) with
  |true=>
   rw[if_pos rfl,if_neg (by omega)]
   refine Ir ⟨rfl,rfl,by omega,by omega,λi j i1 i2 i3=>?_⟩
   by_cases h4:j<lo+x
   ·exact b3 i j i1 i2 h4
   ·have:j=lo+x:=by omega
    subst this
    by_cases h5:i=lo+x
    ·subst h5;exact C.rf _
    ·exact C.tr _ _ _ (hP.gt (by omega)) (hP.gt (by omega)) (hP.gt (by omega)) (C.as _ _ e) (b3 i (lo+x-1) i1 (by omega) (by omega))
  |false=>
   rw[if_neg (by decide)]
   refine Is (fh C hP (by omega) (by omega) ?_)
   have lar:L (gk arr (lo+x-1)) (gk arr (lo+x))=true:=by
    rcases hD.gt (i:=lo+x-1) (j:=lo+x) (by omega) (by omega) (by omega) with q|q
    ·exact q
    ·rw[e] at q;cases q
   rw[lar];exact Ir ⟨rfl,x,rfl,b1,b2,b3⟩
 ·rintro c st' ⟨rfl,rfl,b1,b2,b3⟩
  exact⟨rfl,_,rfl,b1,b2,b3⟩
 ·by_cases h5:i=j
  ·subst h5;exact C.rf _
  ·have:i=lo:=by omega
   have hj:j=lo+1:=by omega
   subst this;subst hj;exact C.as _ _ (nx (by omega))
 ·rintro c st' ⟨rfl,n,rfl,b1,b2,b3⟩
  dsimp only;rw[if_neg (by omega)]
  refine Is (wpS_reverse ?_)
  have hz2:lo+n<=arr.size:=by omega
  have cm:ChgK lo (lo+nrem) arr (Sc arr lo (lo+n) ((lo+n-lo) / 2)):=uk (Iv _) (by omega) hz2
  have sm:ii L (Sc arr lo (lo+n) ((lo+n-lo) / 2)) lo (lo+n):=λi j i1 i2 i3=>by
   have g1:=kA (i:=lo) hz2 i
   have g2:=kA (i:=lo) hz2 j
   rw[if_pos ⟨i1,by omega⟩] at g1
   rw[if_pos ⟨by omega,i3⟩] at g2
   show L (gk _ j) (gk _ i)=false;rw[g1,g2];exact b3 _ _ (by omega) (by omega) (by omega)
  show wpS (model prog w) A E s _ Q (SS κ (Sc arr lo (lo+n) ((lo+n-lo) / 2)) pend g);refine Is (asc _ n (hP.perm cm.perm) (by rw[cm.size];omega) (by omega) b2 sm _ (λx n R n1 n2 r1 r2=>?_) _ λn' n1 n2 sn' nx'=>Ir (h n' _ (by omega) n2 cm sn'))
  dsimp only;refine Is (fh C (hP.perm cm.perm) (by rw[cm.size];omega) (by rw[cm.size];omega) ?_)
  cases e:L (gk (Sc arr lo (lo+_) ((lo+_-lo) / 2)) (lo+n)) (gk (Sc arr lo (lo+_) ((lo+_-lo) / 2)) (lo+n-1)) with
  |true=>exact Ir (r1 e)
  |false=>exact Ir (r2 e)
end
section
variable {prog:Jf}{w:Jr}{A:Jm}{E:Il->Io->Prop}{s:Io}{κ:MS}{P:II->Prop}{L:II->II->Bool}{arr arr':Array II}{pend:Array (Nat×Nat×Nat)}{g:Nat}
theorem xP {src d:Nat}(hs:src<arr.size)(hd:d<=src)(k:Nat):gk (Vc arr src d) k=if k=src-d then gk arr src else if src-d<k/\k<=src then gk arr (k-1) else gk arr k:=by
 have:=SD hs d hd k
 simp only[gk,Kj,this]
 by_cases h1:k=src-d
 ·rw[if_pos h1,if_pos h1]
 ·rw[if_neg h1,if_neg h1]
  by_cases h2:src-d<k/\k<=src
  ·rw[if_pos h2,if_pos h2]
  ·rw[if_neg h2,if_neg h2]
theorem CL(C:Cmp prog w A E s κ P L)(hP:AlP P arr){lo n ok:Nat}(hz:lo+n<=arr.size)(h1:1<=ok)(h2:ok<=n)(hS:ii L arr lo (lo+ok)){Q:Bool->Kc->Prop}
 (h: ∀arr',ChgK lo (lo+n) arr arr'->ii L arr' lo (lo+n)->Q true (SS κ arr' pend g)):wpS (model prog w) A E s (binarySort' lo n ok) Q (SS κ arr pend g):=by
 rw[binarySort'_eq];refine Is (Lx (Km (I:=λk c st'=> ∃ar,c=(none,())/\st'=SS κ ar pend g/\ChgK lo (lo+n) arr ar/\k<=n/\1<=k/\ii L ar lo (lo+k))
  (Q:=λc st'=> ∃ar,c=(none,())/\st'=SS κ ar pend g/\ChgK lo (lo+n) arr ar/\ii L ar lo (lo+n)) ?step ?fin ⟨arr,rfl,rfl,.refl _ _ _,by omega,by omega,by rw[show max ok 1=ok by omega];exact hS⟩) ?post)
 case post=>
  rintro c st' ⟨ar,rfl,rfl,ch,sg⟩
  exact Ir (h ar ch sg)
 case fin=>
  rintro c st' ⟨ar,rfl,rfl,ch,k1,k2,sg⟩
  rw[show max (max ok 1) n=n by omega] at sg
  exact⟨ar,rfl,rfl,ch,sg⟩
 case step=>
  rintro k c st' _ hk ⟨ar,rfl,rfl,ch,k1,k2,sg⟩
  have pA:=hP.perm ch.perm
  have za:=ch.size
  have mono: ∀i j,i<=j->j<k->L (gk ar (lo+k)) (gk ar (lo+j))=false->L (gk ar (lo+k)) (gk ar (lo+i))=false:=λi j hij hj e=>
   C.tr _ _ _ (pA.gt (by omega)) (pA.gt (by omega)) (pA.gt (by omega)) (sg (lo+i) (lo+j) (by omega) (by omega) (by omega)) e
  refine Is (Lx (Km (I:=λx c st'=>st'=SS κ ar pend g/\ ∃l r,c=(none,l,r)/\l<=r/\r<=k/\r-l<=k-x/\(∀i,i<l->L (gk ar (lo+k)) (gk ar (lo+i))=false)/\(∀i,r<=i->i<k->L (gk ar (lo+k)) (gk ar (lo+i))=true))
   (Q:=λc st'=>st'=SS κ ar pend g/\ ∃l,c=(none,l,l)/\l<=k/\(∀i,i<l->L (gk ar (lo+k)) (gk ar (lo+i))=false)/\(∀i,l<=i->i<k->L (gk ar (lo+k)) (gk ar (lo+i))=true)) ?_ ?_ ⟨rfl,0,k,rfl,by omega,by omega,by omega,λi hi=>absurd hi (Nf _),λi h1 h2=>absurd h2 (by omega)⟩) ?_)
  ·rintro x c st' _ hx ⟨rfl,l,r,rfl,a1,a2,a3,a4,a5⟩
   dsimp only
   by_cases hc:l≥r
   ·rw[if_pos hc]
    have:l=r:=by omega
    subst this;exact Ir ⟨rfl,l,rfl,a2,a4,a5⟩
   ·rw[if_neg hc]
    refine Is (fh C pA (by omega) (by omega) ?_)
    dsimp only;cases e:L (gk ar (lo+k)) (gk ar (lo+(l+r) / 2)) with
    |true=>
     rw[if_pos rfl];refine Ir ⟨rfl,_,_,rfl,by omega,by omega,by omega,a4,λi i1 i2=>?_⟩
     cases q:L (gk ar (lo+k)) (gk ar (lo+i)) with
     |true=>rfl
     |false=>have:=mono _ i i1 i2 q;rw[e] at this;cases this
    |false=>
     rw[if_neg (by decide)]
     exact Ir ⟨rfl,_,_,rfl,by omega,by omega,by omega,λi hi=>mono i _ (show i<=(l+r) / 2 by omega) (by omega) e,a5⟩
  ·rintro c st' ⟨rfl,l,r,rfl,a1,a2,a3,a4,a5⟩
   have:l=r:=by omega
   subst this;exact⟨rfl,l,rfl,a2,a4,a5⟩
  ·rintro c st' ⟨rfl,l,rfl,a1,a2,a3⟩
   dsimp only;rw[moveDown'_eq];have hb: ∀q,gk (Vc ar (lo+k) (lo+k- (lo+l))) q=if q=lo+l then gk ar (lo+k) else if lo+l<q/\q<=lo+k then gk ar (q-1) else gk ar q:=λq=>by
    have:=xP (arr:=ar) (src:=lo+k) (d:=lo+k- (lo+l)) (by omega) (by omega) q
    rw[show lo+k- (lo+k- (lo+l))=lo+l by omega] at this
    exact this
   refine Is (K7 (Ir ⟨Vc ar (lo+k) (lo+k- (lo+l)),rfl,rfl,ch.trans ⟨bubble_perm _ _ _,λi hi=>?_⟩,by omega,by omega,λi j i1 i2 i3=>?_⟩))
   ·rw[hb,if_neg (by omega),if_neg (by omega)]
   ·show L (gk _ j) (gk _ i)=false
    rw[hb,hb];have low: ∀q,lo<=q->q<lo+l->leq L (gk ar q) (gk ar (lo+k)):=λq q1 q2=>by
     have:=a2 (q-lo) (by omega)
     rw[show lo+(q-lo)=q by omega] at this
     exact this
    have high: ∀q,lo+l<=q->q<lo+k->leq L (gk ar (lo+k)) (gk ar q):=λq q1 q2=>by
     have:=a3 (q-lo) (by omega) (by omega)
     rw[show lo+(q-lo)=q by omega] at this
     exact C.as _ _ this
    have mid: ∀p q,lo<=p->p<=q->q<lo+k->leq L (gk ar p) (gk ar q):=λp q q1 q2 q3=>sg p q q1 q2 q3
    by_cases c1:j=lo+l
    ·rw[if_pos c1]
     by_cases c2:i=lo+l
     ·rw[if_pos c2];exact C.rf _
     ·rw[if_neg c2,if_neg (by omega)];exact low i i1 (by omega)
    ·rw[if_neg c1]
     by_cases c3:lo+l<j/\j<=lo+k
     ·rw[if_pos c3]
      by_cases c2:i=lo+l
      ·rw[if_pos c2];exact high (j-1) (by omega) (by omega)
      ·rw[if_neg c2]
       by_cases c4:lo+l<i/\i<=lo+k
       ·rw[if_pos c4];exact mid _ _ (by omega) (by omega) (by omega)
       ·rw[if_neg c4];exact mid _ _ (by omega) (by omega) (by omega)
     ·rw[if_neg c3,if_neg (by omega),if_neg (by omega)]
      exact mid _ _ i1 i2 (by omega)
theorem tt(i:Nat):WR i=(do
 let s <-get
 let(some (sa,na,power),some (sb,nb,_)):=((LI s)[i]?,(LI s)[i+1]?)|Kz "internal:list.sort.pending"
 set (setPending s (((LI s).setIfInBounds i (sa,na+nb,power)).eraseIdxIfInBounds (i+1)))
 let some k <-cS false (<-Nb (OY s) sb) (OY s) sa na 0 |return false
 let(sa,na):=(sa+k,na-k)
 if na==0 then return true
 let some nb <-cS true (<-Nb (OY s) (sa+na-1)) (OY s) sb nb (nb-1)|return false
 if nb==0 then return true
 let x:=(OY s).extract sa sb
 let y:=(OY s).extract sb (sb+nb)
 let merged <-if na<=nb then nv x y else nw x y
 modify λs=>setArr s (merged.toList.zipIdx.foldl (λa (p,j)=>a.setIfInBounds (sa+j) p) (OY s))
 return(RE (<-get)).isNone):=rfl
end
theorem wk(off:Nat): ∀(l:List II) (j:Nat) (ar:Array II),off+j+l.length<=ar.size->((l.zipIdx j).foldl (λ(a:Array II) (x:II×Nat)=>a.setIfInBounds (off+x.2) x.1) ar).toList=ar.toList.take (off+j)++l++ar.toList.drop (off+j+l.length)
 | [],j,ar,h=>by simp
 |p::l,j,ar,h=>by
  rw[Jg] at h;rw[List.zipIdx_cons,Og,wk off l (j+1) _ (by rw[Li];omega)]
  rw[OQ];have hl:off+j<ar.toList.length:=by rw[IA];omega
  rw[Jg,show off+(j+1)=off+j+1 by omega,List.take_succ_eq_append_getElem (by rw[P1];exact hl),List.take_set_of_le (Iv _),List.getElem_set_self,List.drop_set_of_lt (by omega),show off+j+1+l.length=off+j+(l.length+1) by omega]
  simp
section
variable {prog:Jf}{w:Jr}{A:Jm}{E:Il->Io->Prop}{s:Io}{κ:MS}{P:II->Prop}{L:II->II->Bool}{arr arr':Array II}{pend:Array (Nat×Nat×Nat)}{g:Nat}
theorem mf(ar:Array II)(i:Nat):gk ar i=ar.toList.getD i bn:=by
 unfold gk;rw[Kj,Jj,IT]
theorem BU {st st':Kc}{Q:PUnit->Kc->Prop}(h:Q ⟨⟩ st'):wpS (model prog w) A E s (set st':StateT Kc Sem PUnit) Q st:=by
 unfold wpS;rw[StateT.run_set];exact Im ⟨rfl,h⟩
theorem iE {a e i:Nat}(he:e<=arr.size)(hi:a+i<e):gk (arr.extract a e) i=gk arr (a+i):=by
 rw[mf,mf,cR,Jj,Jj,L9 (by omega),OE]
theorem nZ {a e:Nat}(he:e<=arr.size):(arr.extract a e).size=e-a:=by rw[Array.size_extract];omega
theorem pw_ext {a e:Nat}(he:e<=arr.size)(h:ii L arr a e):(arr.extract a e).toList.Pairwise (leq L):=by
 rw[Jz];intro i j hi hj hij;have z:=nZ (a:=a) he
 rw[IA,z] at hi hj;have e1:(arr.extract a e).toList[i]'(by rw[IA,z];exact hi)=gk arr (a+i):=by
  rw[<-iE he (by omega)];simp[gk,Ku,z,hi]
 have e2:(arr.extract a e).toList[j]'(by rw[IA,z];exact hj)=gk arr (a+j):=by
  rw[<-iE he (by omega)];simp[gk,Ku,z,hj]
 rw[e1,e2];exact h (a+i) (a+j) (by omega) (by omega) (by omega)
theorem wm {a e:Nat}{y:II}(he:e<=arr.size)(h:y∈(arr.extract a e).toList): ∃t,a<=t/\t<e/\y=gk arr t:=by
 rw[cR] at h;obtain⟨j,h1,h2,h3⟩:=iM h
 exact⟨a+j,by omega,by omega,h3⟩
theorem wQ(C:Cmp prog w A E s κ P L)(hP:AlP P arr){sa sb sc O Z:Nat}{r:Array II}(h1:sa<=O)(h2:O<sb)(h3:sb<Z)(h4:Z<=sc)(hz:sc<=arr.size)(S1:ii L arr sa sb)(S2:ii L arr sb sc)
 (f1: ∀p,sa<=p->p<O->leq L (gk arr p) (gk arr sb)) (f2: ∀q,Z<=q->q<sc->leq L (gk arr (sb-1)) (gk arr q)) (G:MG L (arr.extract O sb).toList (arr.extract sb Z).toList r.toList):
 ChgK sa sc arr (r.toList.zipIdx.foldl (λa (p,j)=>a.setIfInBounds (O+j) p) arr)/\ii L (r.toList.zipIdx.foldl (λa (p,j)=>a.setIfInBounds (O+j) p) arr) sa sc:=by
 have lr:r.toList.length=Z-O:=by
  have:=G.pm.length_eq
  rw[IR,IA,IA,IA,nZ (by omega),nZ (by omega)] at this
  rw[IA];omega
 have e:=wk O r.toList 0 arr (by rw[lr];omega)
 rw[KG,lr,show O+(Z-O)=Z by omega] at e
 generalize hB:(r.toList.zipIdx.foldl (λa (p,j)=>a.setIfInBounds (O+j) p) arr)=B
 have eB:B.toList=arr.toList.take O++r.toList++arr.toList.drop Z:=by rw[<-hB];exact e
 have lO:(arr.toList.take O).length=O:=by rw[Lg,IA];omega
 have gB: ∀q,gk B q=if q<O then gk arr q else if q<Z then r.toList.getD (q-O) bn else gk arr q:=λq=>by
  rw[mf,eB,mf,Jj,Jj,Jj,Jb,Qz,lO]
  by_cases c1:q<O
  ·rw[if_pos c1,if_pos c1,L9 c1]
  ·rw[if_neg c1,if_neg c1,Qz,lr]
   by_cases c2:q<Z
   ·rw[if_pos (by omega),if_pos c2]
   ·rw[if_neg (by omega),if_neg c2,OE,show Z+(q-O- (Z-O))=q by omega]
 have pm:B.toList.Perm arr.toList:=by
  rw[eB];have ea:arr.toList=arr.toList.take O++((arr.extract O sb).toList++(arr.extract sb Z).toList)++arr.toList.drop Z:=by
   rw[cR,cR];have a1:=JT O arr.toList
   have a2:arr.toList.drop O=(arr.toList.drop O).take (sb-O)++arr.toList.drop sb:=by
    have:=gR arr.toList O (sb-O)
    rw[show O+(sb-O)=sb by omega] at this
    exact this.symm
   have a3:arr.toList.drop sb=(arr.toList.drop sb).take (Z-sb)++arr.toList.drop Z:=by
    have:=gR arr.toList sb (Z-sb)
    rw[show sb+(Z-sb)=Z by omega] at this
    exact this.symm
   rw[Jb,Jb,<-a3,<-a2,a1]
  refine P6 ?_ (P7 ea.symm)
  exact JY _ (Kl _ G.pm)
 have inr: ∀t,t<Z-O-> ∃u,r.toList.getD t bn=gk arr u/\O<=u/\u<Z:=λt ht=>by
  have hm:r.toList.getD t bn∈r.toList:=by
   rw[Jj,Iq (by rw[lr];exact ht)]
   exact MX _
  rcases IQ.mp (G.pm.mem_iff.mp hm) with q|q
  ·obtain⟨u,u1,u2,u3⟩:=wm (by omega) q
   exact⟨u,u3,u1,by omega⟩
  ·obtain⟨u,u1,u2,u3⟩:=wm (by omega) q
   exact⟨u,u3,by omega,u2⟩
 have kQ: ∀p t,sa<=p->p<O->O<=t->t<sc->leq L (gk arr p) (gk arr t):=λp t p1 p2 t1 t2=>by
  by_cases c:t<sb
  ·exact S1 p t p1 (by omega) c
  ·exact C.tr _ _ _ (hP.gt (by omega)) (hP.gt (by omega)) (hP.gt (by omega)) (f1 p p1 p2) (S2 sb t (Iv _) (by omega) t2)
 have bot: ∀t q,O<=t->t<Z->Z<=q->q<sc->leq L (gk arr t) (gk arr q):=λt q t1 t2 q1 q2=>by
  by_cases c:t<sb
  ·exact C.tr _ _ _ (hP.gt (by omega)) (hP.gt (by omega)) (hP.gt (by omega)) (S1 t (sb-1) (by omega) (by omega) (by omega)) (f2 q q1 q2)
  ·exact S2 t q (by omega) (by omega) q2
 refine⟨⟨MN.mpr pm,λi hi=>?_⟩,λp q p1 p2 p3=>?_⟩
 ·rw[gB]
  by_cases c1:i<O
  ·rw[if_pos c1]
  ·rw[if_neg c1,if_neg (by omega)]
 ·show L (gk B q) (gk B p)=false
  rw[gB,gB]
  by_cases c1:q<O
  ·rw[if_pos c1,if_pos (by omega)]
   exact S1 p q p1 p2 (by omega)
  ·rw[if_neg c1]
   by_cases c2:q<Z
   ·rw[if_pos c2]
    by_cases c3:p<O
    ·rw[if_pos c3]
     obtain⟨u,u1,u2,u3⟩:=inr (q-O) (by omega)
     rw[u1];exact kQ p u p1 c3 u2 (by omega)
    ·rw[if_neg c3,if_pos (by omega)]
     by_cases c4:p=q
     ·subst c4;exact C.rf _
     ·have:=Jz.mp G.so (p-O) (q-O) (by rw[lr];omega) (by rw[lr];omega) (by omega)
      rw[Jj,Jj,Iq (by rw[lr];omega),Iq (by rw[lr];omega)]
      exact this
   ·rw[if_neg c2]
    by_cases c3:p<O
    ·rw[if_pos c3]
     exact kQ p q p1 c3 (by omega) p3
    ·rw[if_neg c3]
     by_cases c4:p<Z
     ·rw[if_pos c4]
      obtain⟨u,u1,u2,u3⟩:=inr (p-O) (by omega)
      rw[u1];exact bot u q u2 u3 (by omega) p3
     ·rw[if_neg c4]
      exact S2 p q (by omega) p2 p3
theorem ss(C:Cmp prog w A E s κ P L)(hP:AlP P arr){i sa na pw sb nb pw2:Nat}{Q:Bool->Kc->Prop}(p0:pend[i]? =some (sa,na,pw))(p1:pend[i+1]? =some (sb,nb,pw2))(hsb:sa+na=sb)(hz:sb+nb<=arr.size)(hna:1<=na)(hnb:1<=nb)
 (S1:ii L arr sa sb) (S2:ii L arr sb (sb+nb))
 (h: ∀arr' g',ChgK sa (sb+nb) arr arr'->ii L arr' sa (sb+nb)->Q true (SS κ arr' ((pend.setIfInBounds i (sa,na+nb,pw)).eraseIdxIfInBounds (i+1)) g')):wpS (model prog w) A E s (WR i) Q (SS κ arr pend g):=by
 rw[tt];refine Is (Nj ?_)
 show wpS _ _ _ _ (match (pend[i]?,pend[i+1]?) with|(some (sa,na,power),some (sb,nb,_))=>_|_=>_) Q _
 rw[p0,p1];dsimp only;refine Is (BU ?_)
 refine Is (ao (show sb<arr.size by omega) ?_)
 refine Is (dS C rfl (hP.gt (by omega)) (show sa+na<=arr.size by omega) (by omega) (λj hj=>hP.gt (by omega)) (by rw[hsb];exact S1) λk c=>?_)
 dsimp only;have c1: ∀t,t<k->L (gk arr sb) (gk arr (sa+t))=false:=λt ht=>by
  have:=c.lo t ht
  unfold gg at this;rw[if_neg (by decide),J5] at this
  exact this
 have c2: ∀t,k<=t->t<na->L (gk arr sb) (gk arr (sa+t))=true:=λt h1 h2=>by
  have:=c.hi t h1 h2
  unfold gg at this;rw[if_neg (by decide),Nr] at this
  exact this
 have hk:=c.leq
 by_cases e1:na-k=0
 ·rw[if_pos (by simpa using e1)]
  refine Ir (h arr g (.refl _ _ _) λp q a1 a2 a3=>?_)
  by_cases b1:q<sb
  ·exact S1 p q a1 a2 b1
  ·by_cases b2:p<sb
   ·have:=c1 (p-sa) (by omega)
    rw[show sa+(p-sa)=p by omega] at this
    exact C.tr _ _ _ (hP.gt (by omega)) (hP.gt (by omega)) (hP.gt (by omega)) this (S2 sb q (Iv _) (by omega) a3)
   ·exact S2 p q (by omega) a2 a3
 rw[if_neg (aB e1)];refine Is (ao (show sa+k+(na-k) -1<arr.size by omega) ?_)
 rw[show sa+k+(na-k) -1=sb-1 by omega]
 refine Is (dS C rfl (hP.gt (show sb-1<arr.size by omega)) (show sb+nb<=arr.size by omega) (by omega) (λj hj=>hP.gt (by omega)) S2 λm d=>?_)
 dsimp only;have d1: ∀t,t<m->L (gk arr (sb+t)) (gk arr (sb-1))=true:=λt ht=>by
  have:=d.lo t ht
  unfold gg at this;rw[if_pos rfl] at this;exact this
 have d2: ∀t,m<=t->t<nb->L (gk arr (sb+t)) (gk arr (sb-1))=false:=λt h1 h2=>by
  have:=d.hi t h1 h2
  unfold gg at this;rw[if_pos rfl] at this;exact this
 have hm:=d.leq
 have m0:1<=m:=by
  apply Mm
  intro h9;have a:=d2 0 (by omega) (by omega)
  have b:=c2 (na-1) (by omega) (by omega)
  rw[show sa+(na-1)=sb-1 by omega] at b
  rw[KG,b] at a;cases a
 rw[if_neg (aB (show¬m=0 by omega))]
 have T:TwoR P L (arr.extract (sa+k) sb) (arr.extract sb (sb+m)):=by
  have zx:=nZ (arr:=arr) (a:=sa+k) (e:=sb) (by omega)
  have zy:=nZ (arr:=arr) (a:=sb) (e:=sb+m) (by omega)
  refine⟨pw_ext (by omega) λp q a1 a2 a3=>S1 p q (by omega) a2 a3,pw_ext (by omega) λp q a1 a2 a3=>S2 p q a1 a2 (by omega),λt ht=>?_,λt ht=>?_,by omega,by omega,λt ht=>?_,λt ht=>?_⟩
  ·rw[zx] at ht
   have:=iE (arr:=arr) (a:=sa+k) (e:=sb) (i:=t) (by omega) (by omega)
   show P (gk _ t);rw[this];exact hP.gt (by omega)
  ·rw[zy] at ht
   have:=iE (arr:=arr) (a:=sb) (e:=sb+m) (i:=t) (by omega) (by omega)
   show P (gk _ t);rw[this];exact hP.gt (by omega)
  ·rw[zx] at ht
   have e3:=iE (arr:=arr) (a:=sa+k) (e:=sb) (i:=t) (by omega) (by omega)
   have e4:=iE (arr:=arr) (a:=sb) (e:=sb+m) (i:=0) (by omega) (by omega)
   show L (gk _ 0) (gk _ t)=true;rw[e3,e4,KG,QY];exact c2 (k+t) (by omega) (by omega)
  ·rw[zy] at ht
   have e3:=iE (arr:=arr) (a:=sa+k) (e:=sb) (i:=(arr.extract (sa+k) sb).size-1) (by omega) (by omega)
   have e4:=iE (arr:=arr) (a:=sb) (e:=sb+m) (i:=t) (by omega) (by omega)
   show L (gk _ t) (gk _ ((arr.extract (sa+k) sb).size-1))=true;rw[e3,e4,show sa+k+((arr.extract (sa+k) sb).size-1)=sb-1 by omega]
   exact d1 t (by omega)
 have fin: ∀(r:Array II) (g':Nat),MG L (arr.extract (sa+k) sb).toList (arr.extract sb (sb+m)).toList r.toList->Q true (SS κ (r.toList.zipIdx.foldl (λa (p,j)=>a.setIfInBounds (sa+k+j) p) arr) ((pend.setIfInBounds i (sa,na+nb,pw)).eraseIdxIfInBounds (i+1)) g'):=λr g' G=>by
  have⟨x1,x2⟩:=wQ C hP (sa:=sa) (sb:=sb) (sc:=sb+nb) (O:=sa+k) (Z:=sb+m) (by omega) (by omega) (by omega) (by omega) hz S1 S2 (λp a1 a2=>by
   have:=c1 (p-sa) (by omega)
   rw[show sa+(p-sa)=p by omega] at this
   exact this) (λq a1 a2=>by
   have:=d2 (q-sb) (by omega) (by omega)
   rw[show sb+(q-sb)=q by omega] at this
   exact this) G
  exact h _ g' x1 x2
 by_cases e5:na-k<=m
 ·rw[if_pos e5]
  refine Is (sv C T rfl λr g' G=>?_)
  refine Is (K7 ?_)
  refine Is (Nj ?_)
  exact Ir (fin r g' G)
 ·rw[if_neg e5]
  refine Is (sT C T rfl λr g' G=>?_)
  refine Is (K7 ?_)
  refine Is (Nj ?_)
  exact Ir (fin r g' G)
end
def Rn(L:II->II->Bool)(arr:Array II):Nat->List (Nat×Nat×Nat)->Nat->Prop
 |a,[],b=>a=b
 |a,p::t,b=>p.1=a/\1<=p.2.1/\ii L arr a (a+p.2.1)/\Rn L arr (a+p.2.1) t b
section
variable {prog:Jf}{w:Jr}{A:Jm}{E:Il->Io->Prop}{s:Io}{κ:MS}{P:II->Prop}{L:II->II->Bool}{arr arr':Array II}{pend:Array (Nat×Nat×Nat)}{g:Nat}
theorem Rn.leq: ∀ {t:List (Nat×Nat×Nat)} {a b:Nat},Rn L arr a t b->a+t.length<=b
 | [],a,b,h=>by have:a=b:=h;simp;omega
 |p::t,a,b,h=>by
  have:=Rn.leq h.2.2.2
  have:=h.2.1
  rw[Jg];omega
theorem Rn.app: ∀ {t u:List (Nat×Nat×Nat)} {a b:Nat},Rn L arr a (t++u) b-> ∃m,Rn L arr a t m/\Rn L arr m u b
 | [],u,a,b,h=>⟨a,rfl,h⟩
 |p::t,u,a,b,h=>by
  obtain⟨m,h1,h2⟩:=Rn.app (t:=t) (u:=u) h.2.2.2
  exact⟨m,⟨h.1,h.2.1,h.2.2.1,h1⟩,h2⟩
theorem Rn.cat: ∀ {t u:List (Nat×Nat×Nat)} {a m b:Nat},Rn L arr a t m->Rn L arr m u b->Rn L arr a (t++u) b
 | [],u,a,m,b,h,h2=>by have:a=m:=h;subst this;exact h2
 |p::t,u,a,m,b,h,h2=>⟨h.1,h.2.1,h.2.2.1,Rn.cat h.2.2.2 h2⟩
theorem mS {lo hi:Nat}(h:ii L arr lo hi)(e: ∀i,lo<=i->i<hi->gk arr' i=gk arr i):ii L arr' lo hi:=λi j h1 h2 h3=>by
 show L (gk arr' j) (gk arr' i)=false;rw[e j (by omega) h3,e i h1 (by omega)]
 exact h i j h1 h2 h3
theorem Rn.same: ∀ {t:List (Nat×Nat×Nat)} {a b:Nat},Rn L arr a t b->(∀i,a<=i->i<b->gk arr' i=gk arr i)->Rn L arr' a t b
 | [],a,b,h,_=>h
 |p::t,a,b,h,e=>by
  have l:=Rn.leq h.2.2.2
  exact⟨h.1,h.2.1,mS h.2.2.1 λi h1 h2=>e i h1 (by omega),Rn.same h.2.2.2 λi h1 h2=>e i (by omega) h2⟩
theorem x9: ∀(l:List (Nat×Nat×Nat)) (i:Nat),i+1<l.length-> ∃p x y q,l=p++x::y::q/\p.length=i
 | [],i,h=>by simp at h
 | [x],i,h=>by simp at h
 |x::y::q,0,_=>⟨[],x,y,q,rfl,rfl⟩
 |x::y::q,i+1,h=>by
  obtain⟨p,u,v,r,e,hl⟩:=x9 (y::q) i (by simp at h⊢;omega)
  exact⟨x::p,u,v,r,by rw[e];rfl,by simp[hl]⟩
theorem gX(C:Cmp prog w A E s κ P L)(hP:AlP P arr){lo i:Nat}(R:Rn L arr 0 pend.toList lo)(hz:lo<=arr.size)(hi:i+1<pend.size){Q:Bool->Kc->Prop}
 (h: ∀arr' pend' g',ChgK 0 lo arr arr'->Rn L arr' 0 pend'.toList lo->pend'.size+1=pend.size->Q true (SS κ arr' pend' g')):wpS (model prog w) A E s (WR i) Q (SS κ arr pend g):=by
 obtain⟨p,⟨sa,na,pw⟩,⟨sb,nb,pw2⟩,q,e,hl⟩:=x9 pend.toList i (by simpa using hi)
 rw[e] at R;obtain⟨m,R1,R2⟩:=Rn.app R
 obtain⟨e1,n1,S1,e2,n2,S2,R3⟩:=R2
 dsimp only at e1 n1 S1 e2 n2 S2 R3;subst e1;have l1:=R1.leq
 have l3:=R3.leq
 have g0:pend[i]? =some (sa,na,pw):=by rw[<-IT,e,<-hl];simp
 have g1:pend[i+1]? =some (sb,nb,pw2):=by rw[<-IT,e,<-hl];simp
 refine ss C hP g0 g1 e2.symm (by omega) n1 n2 (by rw[e2];exact S1) (by rw[e2];exact S2) λarr' g' c sg=>h arr' _ g' (c.mono (JV _) (by omega)) ?_ ?_
 ·have el:((pend.setIfInBounds i (sa,na+nb,pw)).eraseIdxIfInBounds (i+1)).toList=p++(sa,na+nb,pw)::q:=by
   have z:i+1<(pend.setIfInBounds i (sa,na+nb,pw)).size:=by rw[Li];exact hi
   rw[Pd,dif_pos z,Array.toList_eraseIdx,OQ,e,<-hl];rw[List.set_append_right _ _ (Iv _),Ri,List.eraseIdx_append_of_length_le (by omega),show p.length+1-p.length=1 by omega]
   rfl
  rw[el];refine Rn.cat (R1.same λj h1 h2=>c.same j (.inl h2)) ⟨rfl,by show 1<=na+nb;omega,?_,?_⟩
  ·show ii L arr' sa (sa+(na+nb))
   rw[show sa+(na+nb)=sb+nb by omega];exact sg
  ·show Rn L arr' (sa+(na+nb)) q lo
   rw[show sa+(na+nb)=sa+na+nb by omega]
   exact R3.same λj h1 h2=>c.same j (.inr (by omega))
 ·have z:i+1<(pend.setIfInBounds i (sa,na+nb,pw)).size:=by rw[Li];exact hi
  rw[Pd,dif_pos z,Array.size_eraseIdx,Li];omega
theorem yF {t:List (Nat×Nat×Nat)}{pw:Nat}{b:Nat}(h:Rn L arr 0 t b):Rn L arr 0 (t.modify (t.length-1) λx=>(x.1,x.2.1,pw)) b:=by
 have key: ∀(t:List (Nat×Nat×Nat)) (a k:Nat),Rn L arr a t b->Rn L arr a (t.modify k λx=>(x.1,x.2.1,pw)) b:=by
  intro t
  induction t with
  |nil=>intro a k h;cases k<;>exact h
  |cons p t ih=>
   intro a k h;cases k with
   |zero=>exact h
   |succ k=>exact⟨h.1,h.2.1,h.2.2.1,ih _ k h.2.2.2⟩
 exact key t 0 _ h
theorem DR {c:Prop} [Decidable c]{a b n:Nat}(h1:a+1<n)(h2:b+1<n):(if c then a else b)+1<n:=by split<;>assumption
theorem tT(C:Cmp prog w A E s κ P L){a₀:Array II}(hP:AlP P a₀)(hD:DsL L a₀)(h2:1<=a₀.size){g:Nat}{Q:Unit->Kc->Prop}
 (h: ∀st',(OY st').Perm a₀->RE st'=none->ii L (OY st') 0 a₀.size->Q () st'):wpS (model prog w) A E s sortRuns' Q (SS κ a₀ #[] g):=by
 rw[sortRuns'_eq];refine Is (Nj ?_)
 generalize hsz:(OY (SS κ a₀ #[] g)).size=size
 obtain rfl:size=a₀.size:=hsz.symm
 clear hsz;dsimp only
 generalize minRun' a₀.size a₀.size 0=mr
 refine Is (Lx (Km
  (I:=λx c st'=> ∃lo ar pe g,c=(none,lo)/\st'=SS κ ar pe g/\ar.Perm a₀/\Rn L ar 0 pe.toList lo/\x<=lo/\lo<=a₀.size)
  (Q:=λc st'=> ∃ar pe g,c=(none,a₀.size)/\st'=SS κ ar pe g/\ar.Perm a₀/\Rn L ar 0 pe.toList a₀.size) ?step ?fin ⟨0,a₀, #[],g,rfl,rfl,.refl _,rfl,Iv _,JV _⟩) ?post)
 case fin=>
  rintro c st' ⟨lo,ar,pe,g,rfl,rfl,pm,R,hx,hl⟩
  have:lo=a₀.size:=by omega
  subst this;exact⟨ar,pe,g,rfl,rfl,pm,R⟩
 case post=>
  rintro c st' ⟨ar,pe,g,rfl,rfl,pm,R⟩
  dsimp only;refine Is (Lx (Km
   (I:=λx c st'=> ∃ar pe g,c=(none,())/\st'=SS κ ar pe g/\ar.Perm a₀/\Rn L ar 0 pe.toList a₀.size/\pe.size+x<=a₀.size)
   (Q:=λc st'=> ∃ar pe g,c=(none,())/\st'=SS κ ar pe g/\ar.Perm a₀/\Rn L ar 0 pe.toList a₀.size/\pe.size<=1) ?step2 ?fin2 ⟨ar,pe,g,rfl,rfl,pm,R,by have:=R.leq;simp at this;omega⟩) ?post2)
  case fin2=>
   rintro c st' ⟨ar,pe,g,rfl,rfl,pm,R,hx⟩
   exact⟨ar,pe,g,rfl,rfl,pm,R,by omega⟩
  case post2=>
   rintro c st' ⟨ar,pe,g,rfl,rfl,pm,R,hx⟩
   refine Ir (h _ pm rfl ?_)
   show ii L ar 0 a₀.size;have hl:pe.toList.length<=1:=by simpa using hx
   match e:pe.toList,hl with
   | [],_=>rw[e] at R;have:0=a₀.size:=R;omega
   | [p],_=>
     rw[e] at R;obtain⟨r1,r2,r3,r4⟩:=R
     have:0+p.2.1=a₀.size:=r4
     rw[this] at r3;exact r3
  case step2=>
   rintro x c st' _ hx ⟨ar,pe,g,rfl,rfl,pm,R,hp⟩
   refine Is (Nj ?_)
   by_cases e1:pe.size<=1
   ·rw[if_pos e1]
    exact Ir ⟨ar,pe,g,rfl,rfl,pm,R,e1⟩
   ·rw[if_neg e1]
    refine Is (gX C (hP.perm pm) R (by rw[pm.size_eq];exact Iv _) (DR (show pe.size-2-1+1<pe.size by omega) (show pe.size-2+1<pe.size by omega)) λar' pe' g' ch R' z=>?_)
    exact Ir ⟨ar',pe',g',rfl,rfl,ch.perm.trans pm,R',by omega⟩
 case step=>
  rintro x c st' _ hx ⟨lo,ar,pe,g,rfl,rfl,pm,R,hx2,hlo⟩
  dsimp only
  by_cases e1:lo≥a₀.size
  ·rw[if_pos e1]
   have:lo=a₀.size:=by omega
   subst this;exact Ir ⟨ar,pe,g,rfl,rfl,pm,R⟩
  rw[if_neg e1];have za:=pm.size_eq
  refine Is (xL C (hP.perm pm) (hD.perm pm) (lo:=lo) (nrem:=a₀.size-lo) (by omega) (by omega) λn ar1 n1 n2 ch1 sg1=>?_)
  dsimp only;have pm1:=ch1.perm.trans pm
  have R1:Rn L ar1 0 pe.toList lo:=R.same λi h1 h2=>ch1.same i (.inl h2)
  by_cases e2:n<mr
  ·rw[if_pos e2]
   refine Is (Px (Nq ⟨rfl,?_⟩))
   refine Is (CL C (hP.perm pm1) (lo:=lo) (n:=min (a₀.size-lo) mr) (ok:=n) (by rw[pm1.size_eq];omega) n1 (by omega) sg1 λar2 ch2 sg2=>?_)
   rw[if_neg (by decide)]
   have pm2:=ch2.perm.trans pm1
   have R2:Rn L ar2 0 pe.toList lo:=R1.same λi h1 h2=>ch2.same i (.inl h2)
   have hN:1<=min (a₀.size-lo) mr:=by omega
   refine Is (Nj ?_)
   rw[show(LI (SS κ ar2 pe g)).back?=pe.back? from rfl];cases pe.back? with
   |none=>
    dsimp only;refine Is (K7 ?_)
    exact Ir ⟨lo+min (a₀.size-lo) mr,ar2,pe.push (lo,min (a₀.size-lo) mr,0),g,rfl,rfl,pm2,by rw[KL];exact R2.cat ⟨rfl,hN,sg2,rfl⟩,by omega,by omega⟩
   |some bk=>
    obtain⟨s1,m1,b2⟩:=bk
    dsimp only;refine Is (Lx (Km (I:=λ_ c st'=> ∃ar pe g,c=(none,())/\st'=SS κ ar pe g/\ar.Perm a₀/\Rn L ar 0 pe.toList lo/\ii L ar lo (lo+min (a₀.size-lo) mr))
     (Q:=λc st'=> ∃ar pe g,c=(none,())/\st'=SS κ ar pe g/\ar.Perm a₀/\Rn L ar 0 pe.toList lo/\ii L ar lo (lo+min (a₀.size-lo) mr)) ?_ (λ_ _ z=>z) ⟨_,_,_,rfl,rfl,pm2,R2,sg2⟩) ?_)
    ·rintro y c st' _ _ ⟨ar3,pe3,g3,rfl,rfl,pm3,R3,sg3⟩
     refine Is (Nj ?_)
     by_cases q1:pe3.size>1
     ·rw[if_pos (show(LI (SS κ ar3 pe3 g3)).size>1 from q1)]
      rw[show(LI (SS κ ar3 pe3 g3))[(LI (SS κ ar3 pe3 g3)).size-2]? =pe3[pe3.size-2]? from rfl];cases pe3[pe3.size-2]? with
      |none=>exact Ir ⟨_,_,_,rfl,rfl,pm3,R3,sg3⟩
      |some o=>
       obtain⟨o1,o2,o3⟩:=o
       dsimp only;refine eG (Ir ⟨_,_,_,rfl,rfl,pm3,R3,sg3⟩) ?_
       refine Is (gX C (hP.perm pm3) R3 (by rw[pm3.size_eq];omega) (show pe3.size-2+1<pe3.size by omega) λar4 pe4 g4 ch4 R4 _=>?_)
       exact Ir ⟨ar4,pe4,g4,rfl,rfl,ch4.perm.trans pm3,R4,mS sg3 λi h1 h2=>ch4.same i (.inr h1)⟩
     ·rw[if_neg (show¬(LI (SS κ ar3 pe3 g3)).size>1 from q1)]
      exact Ir ⟨_,_,_,rfl,rfl,pm3,R3,sg3⟩
    ·rintro c st' ⟨ar3,pe3,g3,rfl,rfl,pm3,R3,sg3⟩
     dsimp only;refine Is (K7 (Is (K7 ?_)))
     refine Ir ⟨lo+min (a₀.size-lo) mr,ar3,(pe3.modify (pe3.size-1) λx=>(x.fst,x.2.fst,Yp a₀.size (2*s1+m1) (2*s1+m1+m1+min (a₀.size-lo) mr) a₀.size)).push (lo,min (a₀.size-lo) mr,0),g3,rfl,rfl,pm3,?_,by omega,by omega⟩
     rw[KL,QN];exact Rn.cat (by have:=yF (pw:=Yp a₀.size (2*s1+m1) (2*s1+m1+m1+min (a₀.size-lo) mr) a₀.size) R3;simpa using this) ⟨rfl,hN,sg3,rfl⟩
  ·rw[if_neg e2]
   have pm2:=pm1
   have R2:=R1
   have sg2:=sg1
   have hN:=n1
   refine Is (Nj ?_)
   rw[show(LI (SS κ ar1 pe g)).back?=pe.back? from rfl];cases pe.back? with
   |none=>
    dsimp only;refine Is (K7 ?_)
    exact Ir ⟨lo+n,ar1,pe.push (lo,n,0),g,rfl,rfl,pm2,by rw[KL];exact R2.cat ⟨rfl,hN,sg2,rfl⟩,by omega,by omega⟩
   |some bk=>
    obtain⟨s1,m1,b2⟩:=bk
    dsimp only;refine Is (Lx (Km (I:=λ_ c st'=> ∃ar pe g,c=(none,())/\st'=SS κ ar pe g/\ar.Perm a₀/\Rn L ar 0 pe.toList lo/\ii L ar lo (lo+n))
     (Q:=λc st'=> ∃ar pe g,c=(none,())/\st'=SS κ ar pe g/\ar.Perm a₀/\Rn L ar 0 pe.toList lo/\ii L ar lo (lo+n)) ?_ (λ_ _ z=>z) ⟨_,_,_,rfl,rfl,pm2,R2,sg2⟩) ?_)
    ·rintro y c st' _ _ ⟨ar3,pe3,g3,rfl,rfl,pm3,R3,sg3⟩
     refine Is (Nj ?_)
     by_cases q1:pe3.size>1
     ·rw[if_pos (show(LI (SS κ ar3 pe3 g3)).size>1 from q1)]
      rw[show(LI (SS κ ar3 pe3 g3))[(LI (SS κ ar3 pe3 g3)).size-2]? =pe3[pe3.size-2]? from rfl];cases pe3[pe3.size-2]? with
      |none=>exact Ir ⟨_,_,_,rfl,rfl,pm3,R3,sg3⟩
      |some o=>
       obtain⟨o1,o2,o3⟩:=o
       dsimp only;refine eG (Ir ⟨_,_,_,rfl,rfl,pm3,R3,sg3⟩) ?_
       refine Is (gX C (hP.perm pm3) R3 (by rw[pm3.size_eq];omega) (show pe3.size-2+1<pe3.size by omega) λar4 pe4 g4 ch4 R4 _=>?_)
       exact Ir ⟨ar4,pe4,g4,rfl,rfl,ch4.perm.trans pm3,R4,mS sg3 λi h1 h2=>ch4.same i (.inr h1)⟩
     ·rw[if_neg (show¬(LI (SS κ ar3 pe3 g3)).size>1 from q1)]
      exact Ir ⟨_,_,_,rfl,rfl,pm3,R3,sg3⟩
    ·rintro c st' ⟨ar3,pe3,g3,rfl,rfl,pm3,R3,sg3⟩
     dsimp only;refine Is (K7 (Is (K7 ?_)))
     refine Ir ⟨lo+n,ar3,(pe3.modify (pe3.size-1) λx=>(x.fst,x.2.fst,Yp a₀.size (2*s1+m1) (2*s1+m1+m1+n) a₀.size)).push (lo,n,0),g3,rfl,rfl,pm3,?_,by omega,by omega⟩
     rw[KL,QN];exact Rn.cat (by have:=yF (pw:=Yp a₀.size (2*s1+m1) (2*s1+m1+m1+n) a₀.size) R3;simpa using this) ⟨rfl,hN,sg3,rfl⟩
end
set_option maxHeartbeats 1000000
open PySem PySem.W PySem.Calls PyProof.Rows
section
variable {prog:Jf}{w:Jr}{A:Jm}{E:Il->Io->Prop}{s:Io}{κ:MS}{P:II->Prop}{L:II->II->Bool}
theorem Cmp.of(lt: ∀x y,P x->P y-> ∀Q:Bool->Io->Prop,Q (L x y) s->IF (model prog w) A (keyLt' κ x.1 y.1) Q (λ_ _=>False) s)(tr: ∀x y z,P x->P y->P z->L y x=false->L z y=false->L z x=false)(as: ∀x y,L x y=true->L y x=false):Cmp prog w A E s κ P L:=by
 refine⟨λx y hx hy st Q hk h=>?_,tr,as⟩
 rw[lt'_eq];refine Is (Nj ?_)
 rw[hk];refine Is (Px (N7 (Jo (lt x y hx hy (λb s'=>s'=s/\b=L x y) ⟨rfl,rfl⟩) (λb s' hb=>?_) λ_ _ z=>z.elim)))
 obtain⟨rfl,rfl⟩:=hb
 exact⟨rfl,Ir h⟩
theorem yQ {a:Addr}{us:List Il}{n:Nat}{P:ZA->Io->Prop}(ho:s.heap.get? a=some (Lc "list" us.toArray n))(hz:us.length<=100000)
 (few:us.length<2->P (.done (.ret .none)) {s with heap:=Mv s.heap a us us.toArray})
 (many:2<=us.length-> ∀g:Heap,(∀c o,c≠a->s.heap.get? c=some o->g.get? c=some o)->IF (model prog w) A (Tl us.toArray) (λκ t=>t={s with heap:=g}/\
   ∃Pk L,Cmp prog w A E {s with heap:=g} κ Pk L/\AlP Pk (us.toArray.zip us.toArray)/\DsL L (us.toArray.zip us.toArray)/\ ∀ar:Array II,ar.Perm (us.toArray.zip us.toArray)->ii L ar 0 us.length->P (.done (.ret .none)) {s with heap:=Mv s.heap a us (ar.map (·.2))}) (λ_ _=>False) {s with heap:=g}):
 IF (model prog w) A (LR.«list.sort» ⟨[.ref a],[]⟩) P E s:=by
 have la:a<s.heap.objs.size:=IJ ho
 have z1:us.toArray.size<=sizeLine:=by rw[IP,JP];omega
 obtain⟨c1,h1⟩: ∃c,(s.heap.update a (KA λ_=> #[])).get? a=some (Lc "list" #[] c):=⟨_,SE ho (λ_=> #[])⟩
 have h2:(((s.heap.update a (KA λ_=> #[])).push (Lc "tuple" us.toArray 0)).push (Lc "list" #[] 0)).get? a=some (Lc "list" #[] c1):=Ip _ (Ip _ h1)
 have kp: ∀c o,c≠a->s.heap.get? c=some o->(((s.heap.update a (KA λ_=> #[])).push (Lc "tuple" us.toArray 0)).push (Lc "list" #[] 0)).get? c=some o:=λc o nc e=>
  Ip _ (Ip _ (by rw[QM _ _ _ _ nc];exact e))
 rw[SF];refine Ik (listItems_at ho rfl (Ik (M9 ho rfl ?_ z1 (JV _))))
 refine Ik (Oa h1 rfl (Ik (Tn ?_ (show us.length<=_ by rw[JP];omega))))
 refine Ik (Pc (JM ?_) (JV _))
 show IF (model prog w) A _ P E {s with heap:=((s.heap.update a (KA λ_=> #[])).push (Lc "tuple" us.toArray 0)).push (Lc "list" #[] 0)}
 dsimp only
 by_cases hs:us.toArray.size<2
 ·rw[if_pos hs,if_pos hs]
  refine Ik (Im ?_)
  rw[StateT.run_pure];refine Ik (Im ?_)
  dsimp only;have ea:Pv (λx=>x.2) (us.toArray.zip us.toArray)=us.toArray:=by
   apply R6.mp
   simp[R7]
  refine Ik (Oa h2 rfl (Ik (M9 h2 rfl ?_ (JV _) ?_)))
  ·simp only[bne_self_eq_false,IB,if_false]
   refine Im ?_
   have:=few (by simpa using hs)
   show P _ {s with heap:=Mv s.heap a us (Pv (λx=>x.2) (us.toArray.zip us.toArray))}
   rw[ea];exact this
  ·show(Pv (λx=>x.2) (us.toArray.zip us.toArray)).size<=_
   rw[ea];exact MB z1
 ·rw[if_neg hs,if_neg hs]
  have h2':2<=us.length:=by simpa using hs
  have zp:(us.toArray.zip us.toArray).size=us.length:=by simp
  refine Ik (Jo (many h2' _ kp) (λκ t ht=>?_) λ_ _ x=>x.elim)
  obtain⟨et,Pk,L,C,hP,hD,fin⟩:=ht
  subst et;refine Ik (Jo (tT C hP hD (by rw[zp];omega) (g:=7) (Q:=λ_ st=>RE st=none/\(OY st).Perm (us.toArray.zip us.toArray)/\ii L (OY st) 0 us.length) λst' a1 a2 a3=>⟨a2,a1,by rw[zp] at a3;exact a3⟩) (λr t' hr=>?_) λ_ _ x=>x)
  obtain⟨u,st⟩:=r
  obtain⟨e1,hf,pm,sg⟩:=hr
  subst e1;dsimp only at hf pm sg⊢;rw[hf];have zz:((OY st).map (·.2)).size<=sizeLine:=by rw[Qk,pm.size_eq,zp,JP];omega
  refine Ik (Oa h2 rfl (Ik (M9 h2 rfl ?_ (JV _) (MB zz))))
  simp only[bne_self_eq_false,IB,if_false];exact Im (fin _ pm sg)
end
theorem wl {α:Type}(next:Nat->Nat): ∀(fuel k:Nat) (left:List α) (out:Array α),fuel=left.length->(Vo next fuel k left out).toList.Perm (out.toList++left)
 |0,k,left,out,h=>by
  obtain rfl:left=[]:=Of h.symm
  rw[KD];exact NG _
 |fuel+1,k,left,out,h=>by
  have lt:next k % left.length<left.length:=Ls _ (by omega)
  have e:left[next k % left.length]? =some left[next k % left.length]:=Iq lt
  unfold Vo;rw[e];dsimp only;refine(wl next fuel (k+1) _ _ (by rw[KS,if_pos lt];omega)).trans ?_
  rw[KL,Jb];refine Kl _ ?_
  have e2:left=left.take (next k % left.length)++left[next k % left.length]::left.drop (next k % left.length+1):=by
   conv=>lhs;rw[<-JT (next k % left.length) left,Le lt]
  rw[NI]
  conv=>rhs;rw[e2]
  exact(Pl (l₁:=left.take (next k % left.length))).symm
theorem vh {α:Type}(next:Nat->Nat)(xs:Array α):(UG next xs).toList.Perm xs.toList:=by
 have:=wl next xs.size 0 xs.toList #[] (by simp)
 unfold UG;simpa using this
theorem yt {xs:Array Nat}(r:Ris xs){j p:Nat}(b:Bel xs j p):Ji xs j=p:=by
 have b':=FZ r j
 rcases LZ (Ji xs j) p with c|c|c
 ·have lt:Ji xs j<xs.size:=by have:=b.le;omega
  have e:xs[Ji xs j]? =some xs[Ji xs j]:=IU lt
  have h1:=b.lo _ _ c e
  have h2:=b'.hi _ _ (Iv _) e
  omega
 ·exact c
 ·have lt:p<xs.size:=by have:=b'.le;omega
  have e:xs[p]? =some xs[p]:=IU lt
  have h1:=b'.lo _ _ c e
  have h2:=b.hi _ _ (Iv _) e
  omega
theorem yc {xs:Array Nat}(r:Ris xs){i:Nat}(hi:i<=xs.size):Ji xs (if i=0 then 0 else xs.getD (i-1) 0+1)=i:=by
 refine yt r ⟨hi,λx a hx ha=>?_,λx a hx ha=>?_⟩
 ·rw[if_neg (by omega)]
  have lt:i-1<xs.size:=by omega
  have e:xs[i-1]? =some xs[i-1]:=IU lt
  have eg:xs.getD (i-1) 0=xs[i-1]:=by simp[Ku,lt]
  rw[eg]
  by_cases c:x=i-1
  ·subst c;rw[e] at ha;cases ha;omega
  ·have:=r.lt (show x<i-1 by omega) ha e;omega
 ·by_cases c:i=0
  ·rw[if_pos c];omega
  ·rw[if_neg c]
   have lt:i-1<xs.size:=by omega
   have e:xs[i-1]? =some xs[i-1]:=IU lt
   have eg:xs.getD (i-1) 0=xs[i-1]:=by simp[Ku,lt]
   rw[eg];exact r.lt (show i-1<x by omega) e ha
def fx(w:Jr):Bool:=w.params.followText "set-order"
def gv(w:Jr)(a:Addr)(ep:Nat)(es:Array (Int×Il)):Array (Int×Il):=if fx w=true then UG (w.params.setOrder a ep) es else es
theorem kG(w:Jr)(a:Addr)(ep:Nat)(es:Array (Int×Il)):(gv w a ep es).toList.Perm es.toList:=by
 unfold gv;split
 ·exact vh _ _
 ·exact NG _
theorem iV(w:Jr)(a:Addr)(ep:Nat)(es:Array (Int×Il)):(gv w a ep es).size=es.size:=by
 have:=(kG w a ep es).length_eq
 simpa using this
def rj(w:Jr)(t:JZ)(i:Nat):Nat:=if fx w=true then 0 else if i=0 then 0 else t.place.getD (i-1) 0+1
def RawSet(w:Jr)(h:Heap)(d:Addr)(es:Array (Int×Il))(ep:Nat)(t:JZ):Prop:= ∃o xs,h.get? d=some o/\SetAt w o es ep t xs
def IsSetIter(w:Jr)(t:JZ)(h:Heap)(it d:Addr)(i n ep:Nat):Prop:= ∃o,h.get? it=some o/\o.cls=.type "set_iterator"/\o.data=.fields #[.int (rj w t i) 0,.int i 0,.ref d,.int n 0,.int ep 0]
theorem slot_si_next:Slot "set_iterator" "__next__" "set_iterator.__next__":=.of (owner:="set_iterator") (n:="__next__") (by rw[Nk,LS];kernel_rfl) (by decide+kernel) (by decide+kernel) (by decide+kernel) (by first|exact .inl (by decide+kernel)|exact .inr (by decide+kernel)) (by rw[QB];kernel_rfl)
theorem jp:Tw table "set_iterator.__next__"=some LR.«set_iterator.__next__»:=entryFor_of_tree (by kernel_rfl)
theorem rO:SI.lookup (Ui ['r','o','t','a','r','e','t','i','_','t','e','s'].reverse)=some Manifest.sig_set_iterator:=by kernel_rfl
theorem jP(a:Il):Tx "set_iterator.__next__" ⟨[a],[]⟩:=by unfold Tx;rw[QZ (id:="set_iterator.__next__") (n:=['_','_','t','x','e','n','_','_']) (o:=['r','o','t','a','r','e','t','i','_','t','e','s']) (by kernel_rfl) rO];kernel_rfl
theorem jO:Slot "set_iterator" "__iter__" "set_iterator.__iter__":=.of (owner:="set_iterator") (n:="__iter__") (by rw[Nk,LS];kernel_rfl) (by decide+kernel) (by decide+kernel) (by decide+kernel) (by first|exact .inl (by decide+kernel)|exact .inr (by decide+kernel)) (by rw[QB];kernel_rfl)
theorem n9:Tw table "set_iterator.__iter__"=some LR.«dict_keyiterator.__iter__»:=QC (id':="dict_keyiterator.__iter__") (by kernel_rfl) rfl (by decide+kernel) (by kernel_rfl)
theorem pK(a:Il):Tx "set_iterator.__iter__" ⟨[a],[]⟩:=by unfold Tx;rw[QZ (id:="set_iterator.__iter__") (n:=['_','_','r','e','t','i','_','_']) (o:=['r','o','t','a','r','e','t','i','_','t','e','s']) (by kernel_rfl) rO];kernel_rfl
section
variable {prog:Jf}{w:Jr}{A:Jm}{E:Il->Io->Prop}{s:Io}{d it:Addr}{es:Array (Int×Il)}{ep i:Nat}{t:JZ}
theorem RawSet.ty(h:RawSet w s.heap d es ep t):s.TypeIs (.ref d) "set":=let⟨o,_,h1,h2⟩:=h;⟨o,h1,h2.ex.1⟩
theorem RawSet.lt {h:Heap}(x:RawSet w h d es ep t):d<h.objs.size:=let⟨_,_,h1,_⟩:=x;IJ h1
theorem RawSet.to {h h':Heap}(x:RawSet w h d es ep t)(k: ∀o,h.get? d=some o->h'.get? d=some o):RawSet w h' d es ep t:=let⟨o,xs,h1,r⟩:=x;⟨o,xs,k o h1,r⟩
theorem IsSetIter.ty {n:Nat}(h:IsSetIter w t s.heap it d i n ep):s.TypeIs (.ref it) "set_iterator":=let⟨o,h1,h2,_⟩:=h;⟨o,h1,h2⟩
theorem lX:Tw table "set.__iter__"=some LR.«frozenset.__iter__»:=QC (id':="frozenset.__iter__") (by kernel_rfl) rfl (by decide+kernel) (by kernel_rfl)
theorem cP {Q:Bool->Io->Prop}(h:Q (fx w) s):IF (model prog w) A setsByText Q E s:=by
 unfold setsByText;exact Ik (NV (Im h))
theorem Ad {Q:Il->Io->Prop}(x:RawSet w s.heap d es ep t)(q:Q (.ref s.heap.objs.size) {s with heap:=s.heap.push {cls:=.type "set_iterator",data:=.fields #[.int (rj w t 0) 0,.int 0 0,.ref d,.int es.size 0,.int ep 0]}}):IF (model prog w) A (O7 (.ref d)) Q E s:=by
 have ty:=x.ty
 obtain⟨o,xs,g1,S⟩:=x
 refine O1 ty SJ (Kg SJ ty lX ?_ (F.args_set_iter_1 _))
 unfold LR.«frozenset.__iter__»;unfold UH Tz;simp only[Mn,Mx,IB, ↓reduceIte,bind_assoc,LX,bne_self_eq_false];unfold Md Uj setDrawn setEntries;refine Ik (Im ?_)
 try dsimp only
 refine Ik (Im ?_)
 refine Ik (Ik (Ik (JG g1 S.hd S.fits (Im (Im ?_)))))
 refine Ik (Ik (JG g1 S.hd S.fits ?_))
 dsimp only;refine Ik (cP (Im ?_))
 have e0:(!fx w&&(!t.plain&&decide (es.size>1)))=false:=by rw[S.pl];simp
 refine Nl (λhab=>absurd (show(!fx w&&(!t.plain&&decide (es.size>1)))=true from hab) (by rw[e0];decide)) λ_=>?_
 refine Ik (Im (Ik (NH g1 S.hd S.fits ?_)))
 refine Ik (Kq (Im ⟨_,rfl,"set_iterator",_,⟨_,IN _ rfl,rfl⟩,slot_si_next.lookup,?_⟩))
 have:rj w t 0=0:=by unfold rj;split<;>rfl
 rw[this] at q;simpa [NT] using q
theorem tM {Q:Array (Int×Il)->Io->Prop}{o:Obj}{xs:fL}(g1:s.heap.get? d=some o)(S:SetAt w o es ep t xs)(h:Q (gv w d ep es) s):IF (model prog w) A (setWalk d) Q E s:=by
 unfold setWalk;refine Ik (JG g1 S.hd S.fits ?_)
 dsimp only;refine Ik (cP ?_)
 unfold gv at h
 by_cases c:fx w=true
 ·rw[if_pos c]
  rw[if_pos c] at h;exact Ik (NV (Im h))
 ·rw[if_neg c]
  rw[if_neg c] at h;have e0:(!t.plain&&decide (es.size>1))=false:=by rw[S.pl];rfl
  refine Nl (λhab=>absurd (show(!t.plain&&decide (es.size>1))=true from hab) (by rw[e0];decide)) λ_=>?_
  have e1:(!t.led&&decide (es.size>1))=false:=by
   have:=S.led
   unfold fx at c;rw[this,eq_false_of_ne_true c];rfl
  refine Ik ?_
  show IF _ _ (if(!t.led&&decide (es.size>1))=true then Kz _ else pure PUnit.unit) _ _ _
  rw[if_neg (by rw[e1];decide)]
  exact Im (Im h)
theorem v6 {Q:Option (Il×Nat)->Io->Prop}{o:Obj}{xs:fL}(g1:s.heap.get? d=some o)(S:SetAt w o es ep t xs)(hi:i<=es.size)(h:Q (((gv w d ep es)[i]?).map λe=>(e.2,rj w t (i+1))) s):IF (model prog w) A (setNext d (rj w t i) i ep) Q E s:=by
 unfold setNext;refine Ik (JG g1 S.hd S.fits ?_)
 dsimp only;refine Ik (cP ?_)
 by_cases c:fx w=true
 ·rw[if_pos c,bne_self_eq_false]
  simp only[IB,if_false];refine Ik (tM g1 S (Im ?_))
  have e: ∀i,rj w t i=0:=λi=>by unfold rj;rw[if_pos c]
  rw[e] at h⊢;exact h
 ·rw[if_neg c]
  have e0:(!t.plain&&decide (es.size>1))=false:=by rw[S.pl];rfl
  refine Nl (λhab=>absurd (show(!t.plain&&decide (es.size>1))=true from hab) (by rw[e0];decide)) λ_=>?_
  have e1:(!t.led&& !es.isEmpty)=false:=by
   have:=S.led
   unfold fx at c;rw[this,eq_false_of_ne_true c];rfl
  refine Ik ?_
  show IF _ _ (if(!t.led&& !es.isEmpty)=true then Kz _ else pure PUnit.unit) _ _ _
  rw[if_neg (by rw[e1];decide)]
  refine Im ?_
  have zz:=S.T.sz
  unfold ni at zz;rw[Iu,<-S.size] at zz;have sl:rj w t i=if i=0 then 0 else t.place.getD (i-1) 0+1:=by unfold rj;rw[if_neg c]
  have sl':rj w t (i+1)=t.place.getD i 0+1:=by unfold rj;rw[if_neg c,if_neg (by omega)];rfl
  rw[sl,yc S.T.sp (by omega)]
  refine Im ?_
  have ew:gv w d ep es=es:=by unfold gv;rw[if_neg c]
  rw[ew,sl'] at h
  by_cases ci:i<es.size
  ·have p1:t.place[i]? =some (t.place[i]'(by omega)):=IU (by omega)
   have p2:t.place.getD i 0=t.place[i]'(by omega):=by simp[Ku,show i<t.place.size by omega]
   rw[p1];rw[p2] at h;cases ee:es[i]? with
   |none=>rw[IU ci] at ee;cases ee
   |some e=>rw[ee] at h;exact h
  ·rw[Mo (by omega)] at h⊢
   exact h
theorem Ai {Q:Option Il->Io->Prop}(hit:IsSetIter w t s.heap it d i es.size ep)(x:RawSet w s.heap d es ep t)(hi:i<es.size)
 (q: ∀h',IsSetIter w t h' it d (i+1) es.size ep->Kh it s.heap h'->Q (some ((gv w d ep es)[i]'(by rw[iV];exact hi)).2) {s with heap:=h'}):IF (model prog w) A (No (.ref it)) Q E s:=by
 have ty:=hit.ty
 obtain⟨o,k1,k2,k3⟩:=id hit
 obtain⟨od,xs,g1,S⟩:=id x
 unfold No;refine Ik (N7 (Ml (name:=OA "__next__") ty slot_si_next (Kg slot_si_next ty jp ?_ (jP _))))
 unfold LR.«set_iterator.__next__» Tz;simp only[Mn,Mx,IB, ↓reduceIte,bind_assoc,LX,bne_self_eq_false];refine Ik (Im ?_)
 refine Ik (MQ k1 k3 ?_)
 dsimp only;refine Ik (QO g1 S.hd S.fits ?_)
 rw[bne_self_eq_false];simp only[IB,if_false,Lq];refine Ik (v6 g1 S (Mr hi) ?_)
 have lt:i<(gv w d ep es).size:=by rw[iV];exact hi
 rw[IU lt];dsimp only[Ni];refine Ik (NF k1 k3 (by simp) ?_)
 have g2:(s.heap.update it (Mc (·.setIfInBounds 0 (NT (rj w t (i+1):Nat))))).get? it=some _:=JN _ k1 (NO (LO k3 _))
 refine Ik (NF (s:={s with heap:=s.heap.update it (Mc (·.setIfInBounds 0 (NT (rj w t (i+1):Nat))))}) g2 (LO k3 _) (by simp) ?_)
 have e4:(Mc (·.setIfInBounds 1 (NT ((i:Int)+1))) (Mc (·.setIfInBounds 0 (NT (rj w t (i+1):Nat))) o)).data=.fields #[.int (rj w t (i+1)) 0,.int ((i+1:Nat):Int) 0,.ref d,.int es.size 0,.int ep 0]:=by
  rw[LO (LO k3 _)];simp[NT]
 have nx:IsSetIter w t ((s.heap.update it (Mc (·.setIfInBounds 0 (NT (rj w t (i+1):Nat))))).update it (Mc (·.setIfInBounds 1 (NT ((i:Int)+1))))) it d (i+1) es.size ep:=
  ⟨_,JN _ g2 (NO e4),(O3 ..).trans ((O3 ..).trans k2),e4⟩
 exact Im ⟨_,rfl,Im (q _ nx ((Ke ..).trans (Ke ..)))⟩
theorem BQ {Q:Option Il->Io->Prop}(calm:A.handled=none)(hit:IsSetIter w t s.heap it d es.size es.size ep)(x:RawSet w s.heap d es ep t)
 (q: ∀h',WO it s.heap h'->Q none {s with heap:=h'}):IF (model prog w) A (No (.ref it)) Q E s:=by
 have ty:=hit.ty
 obtain⟨o,k1,k2,k3⟩:=id hit
 obtain⟨od,xs,g1,S⟩:=id x
 unfold No;refine Ik (N7 (Ml (name:=OA "__next__") ty slot_si_next (Kg slot_si_next ty jp ?_ (jP _))))
 unfold LR.«set_iterator.__next__» Tz;simp only[Mn,Mx,IB, ↓reduceIte,bind_assoc,LX,bne_self_eq_false];refine Ik (Im ?_)
 refine Ik (MQ k1 k3 ?_)
 dsimp only;refine Ik (QO g1 S.hd S.fits ?_)
 rw[bne_self_eq_false];simp only[IB,if_false,Lq];refine Ik (v6 g1 S (Iv _) ?_)
 rw[Mo (by rw[iV];exact Iv _)]
 dsimp only[Option.map_none];refine Ik (NF k1 k3 (by simp) ?_)
 show IF _ _ (Yl (.type "StopIteration") []>>=_) _ _ _;refine Ik ?_
 simp only[Yl,newTuple];refine Ik (Kq (Ik (m:=OP _ _) (Qu (a:=IV) (by first|rfl|(simp only[OP];rfl)) (Kq ?_ (by size_fits)))) (by size_fits))
 simp only[raiseNew];refine Ik (Uh ?_)
 rw[show A.in1.handled=none from calm];refine Ik (Im (wpAny_throw ?_));refine Ik (MZ (T:="StopIteration") (b:=true) ⟨_,IN _ rfl,rfl⟩ Tu ?_)
 exact Im (q _ (((Ke ..).extBut.push _).push _))
theorem IsSetIter.to {h h':Heap}{n:Nat}(x:IsSetIter w t h it d i n ep)(k: ∀o,h.get? it=some o->h'.get? it=some o):IsSetIter w t h' it d i n ep:=let⟨o,h1,r⟩:=x;⟨o,k o h1,r⟩
theorem yy {n:Nat}{Q:Il->Io->Prop}(hit:IsSetIter w t s.heap it d i n ep)(h:Q (.ref it) s):IF (model prog w) A (O7 (.ref it)) Q E s:=by
 have ty:=hit.ty
 refine O1 ty jO (Kg jO ty n9 ?_ (pK _));show IF _ _ (ret (.ref it)) _ _ s
 exact Im ⟨_,rfl,"set_iterator",_,ty,slot_si_next.lookup,h⟩
theorem xB(calm:A.handled=none)(I:Addr)(ne:d≠I):Walks prog w A I [I,d] [I] es.size (λi v=> ∃e,(gv w d ep es)[i]? =some e/\v=e.2) (λi h=>IsSetIter w t h I d i es.size ep/\RawSet w h d es ep t) where
 sub:=λb hb=>by simp at hb;simp[hb]
 frame:=λ_ _ _ st hk=>⟨st.1.to λo e=>hk I (by simp) o e,st.2.to λo e=>hk d (by simp) o e⟩
 item:=λi s Q E hi st hQ=>Ai st.1 st.2 hi λh' it' sb=>hQ _ h' s.toks ⟨_,IU (by rw[iV];exact hi),rfl⟩ ⟨it',st.2.to λo e=>sb.extBut d o ne e⟩ λb o hb e=>sb.extBut b o (λh=>hb (by simp[h])) e
 done:=λs Q E st hQ=>BQ calm st.1 st.2 λh' he'=>hQ h' s.toks λb o hb e=>he' b o (λh=>hb (by simp[h])) e
 self:=λ_ _ _ _ st hQ=>yy st.1 hQ
theorem xZ {r:Addr}{Q:Bool->Io->Prop}(hT:s.TypeIs (.ref r) "set")(h:Q false s):IF (model prog w) A (OB (.ref r)) Q E s:=by
 unfold OB;refine Ik (Oh hT PySem.F.slot_set_len.lookup ?_)
 generalize hid:("set.__len__":String)=id0;wp_delta
 rw[show splitId id0=some ("set","__len__") from by subst hid;decide+kernel];subst hid
 refine Ik (MZ (T:="set") (b:=true) hT (by rw[QB];kernel_rfl) ?_)
 refine Nl (λhab=>absurd hab (by decide)) (λ_=>?_)
 refine Nl (λ_=>?_) (λhab=>absurd (by decide+kernel) hab)
 refine Ik (Rm hT ?_)
 exact Im h
theorem BO:KdlSrc prog w "set" d d es.size (λi v=> ∃e,(gv w d ep es)[i]? =some e/\v=e.2) (λh=>RawSet w h d es ep t) where
 type:=λ_ h=>h.ty
 there:=λ_ h=>⟨h.lt,h.lt⟩
 keep:=λ_ _ h hk=>h.to λo e=>hk d (.inl rfl) o e
 notList:=by decide
 notTuple:=by decide
 hint:=λ_ _ _ _ h hq=>xZ h.ty hq
 iter:=λ_ _ hh h=>⟨_,_,λ_ _ hq=>Ad h hq,xB hh _ (Jp h.lt),⟨_,IN _ rfl,rfl,rfl⟩,h.to λo e=>Ip _ e⟩
end
set_option maxHeartbeats 4000000
def aL(w:Jr):Obj:={cls:=.type "set",dict:=none,data:=.set #[] 0 (.fresh 0 0 (!fx w))}
theorem xx(f m:Nat)(l:Bool):TOk (.fresh f m l) [] where
 pw:=⟨3,by omega,by omega,rfl⟩
 sz:=rfl
 sp:=Mz
 sd:=Mz
 lp:=λj h=>by cases h
 ld:=λj h=>by cases h
 dj:=λj h=>by cases h
 fl:=by show 0<=7;omega
 rc:=λx h=>by cases h
theorem mQ(w:Jr):SetOk w (aL w) #[] 0 (.fresh 0 0 (!fx w)) []:=⟨⟨⟨rfl,rfl,rfl⟩,rfl,rfl,xx _ _ _,rfl,rfl,MP⟩,by show 0*5<7*3;omega⟩
section
variable {prog:Jf}{w:Jr}{A:Jm}{E:Il->Io->Prop}{s:Io}{a b:Addr}{o:Obj}{es:Array (Int×Il)}{ep:Nat}{t:JZ}{xs:fL}{k:List Int}
theorem Cb {Q:Il->Io->Prop}(h:Q (.ref s.heap.objs.size) {s with heap:=s.heap.push (aL w)}):IF (model prog w) A (newSet (.type "set")) Q E s:=by
 unfold newSet;refine Ik (cP ?_)
 dsimp only;simp only[newObj];exact Ik (Sm (Im h))
theorem tI {as:List Il}(hc:Sd "set.__new__" ⟨.type "set"::as,[]⟩=pure ()){Q₁:Il->Io->Prop}(h:Q₁ (.ref s.heap.objs.size) {s with heap:=s.heap.push (aL w)}):LQ (model prog w) A (.call (.builtin "set.__new__") ⟨.type "set"::as,[]⟩) (wants Q₁ E) s:=by
 refine Ol ?_;show IF _ A.in1 (do Sd "set.__new__" ⟨.type "set"::as,[]⟩;Pp (.builtin "set.__new__" ⟨.type "set"::as,[]⟩)) _ _ s
 refine Ik (Qu hc (Im ⟨N6 SK _,KF F.entry_set_new ?_⟩));rw[Ks SK _]
 unfold LR.«set.__new__» TB;have hsub:=PU
 obtain⟨hp,g,d,tk,os⟩:=s
 dsimp only
 wp_walk;refine NV (Im ?_)
 dsimp only;simp only[newObj];refine Ik (Sm (Im ?_))
 exact Im h
theorem u0 {Q:Il->Io->Prop}(h:Q (.ref s.heap.objs.size) {s with heap:=s.heap.push (aL w)}):IF (model prog w) A (call (.type "set") []) Q E s:=by
 obtain⟨c,tl,hmro⟩:=Kv.mro
 have hmade:=Kv.made
 have hsub:=Kv.sub
 refine S9 (Ol ?_);show IF _ _ (callAny (.type "set") _) _ _ _
 refine Im ⟨Rb _ (by decide+kernel),KF RL ?_⟩;rw[Rc (Qh "set" [] []) rfl]
 have h1:=Kv.notType
 have h2:=Kv.canCreate
 have hct:=F.typeCall_set_0
 repeat (any_goals (first|assumption|wp_step))
 refine Lj (tI (E:=E) F.newCall_set_0 (Q₁:=λobj s₁=>obj=.ref s.heap.objs.size/\s₁={s with heap:=s.heap.push (aL w)}) ⟨rfl,rfl⟩) λr s₁ hr=>?_
 cases r with
 |error e=>exact hr
 |ok fl=>
  cases fl with
  |ret obj=>
   obtain⟨rfl,rfl⟩:=hr
   have hS:(s.heap.push (aL w)).get? s.heap.objs.size=some (aL w):=IN _ rfl
   have hS:(s.heap.push (aL w)).get? s.heap.objs.size=some {cls:=.type "set",dict:=none,data:=.set #[] 0 (.fresh 0 0 (!fx w))}:=hS
   have hT:Q0 {s with heap:=s.heap.push (aL w)} (.ref s.heap.objs.size) "set":=⟨_,hS,rfl⟩
   have hli:=Kv.init.lookup
   have hbi:=Kv.init.bind (.ref s.heap.objs.size)
   repeat (any_goals (first|assumption|wp_step))
   refine Lj (QD (R:=wants (λr s₂=>r=.none/\Q (.ref s.heap.objs.size) s₂) E) Kv.init.plain Se (check_set_init hT ?_)) λr₂ s₂ hr₂=>?_
   ·unfold LR.«set.__init__» noKeywords
    wp_walk
    exact⟨rfl,h⟩
   ·cases r₂ with
    |error e=>exact hr₂
    |ok fl₂=>
     cases fl₂ with
     |ret r=>
      obtain⟨rfl,hq⟩:=hr₂
      repeat (any_goals (first|assumption|wp_step))
     |_=>exact hr₂.elim
  |_=>exact hr.elim
theorem SetAt.ty(ho:s.heap.get? a=some o)(S:SetAt w o es ep t xs):s.TypeIs (.ref a) "set":=⟨o,ho,S.ex.1⟩
theorem BI(ho:s.heap.get? a=some o)(S:SetAt w o es ep t xs)(hE:oW prog w s.heap xs)(hu:A.units+1<Kk)(hk:(KI prog w).is s.heap k b){Q:Il->Io->Prop}
 (h:Q (.bool (decide (k∈xs.map (·.1)))) {s with toks:=s.toks+(KI prog w).draws k}):IF (model prog w) A (LD .In (.ref b) (.ref a)) Q E s:=by
 have hT:=SetAt.ty ho S
 show IF _ _ (do return .bool (<-contains (.ref a) (.ref b))) Q E s
 refine Ik ?_
 unfold contains
 try with_reducible refine JM ?_
 refine Ik (Oh hT Op.lookup ?_);show IF _ _ (if(some (Value.builtin "set.__contains__")==some IV)=true then _ else _) _ E s
 rw[if_neg (by rw[beq_builtin_none];exact Lh)];refine Ik (wpAny_callSpecialUnlessNone?_slot (name:=OA "__contains__") hT Op (Kg Op hT entry_set_contains ?_ (F.args_set_contains_2 _ _)))
 unfold LR.«frozenset.__contains__» MU;simp only[Mn,bind_assoc];unfold Md NY setContains;refine Ik (Im ?_)
 try dsimp only
 refine Ik (Im ?_)
 try dsimp only
 refine Ik (TC ?_)
 refine JM ?_
 have hu1:(KI prog w).room A.in1:=LN hu
 refine Ik ((KI prog w).pyHash hu1 hk ?_)
 rw[vV];refine Ik (sY (s:={s with toks:=s.toks+(KI prog w).draws k}) ho S hE hu1 hk (λi c hi=>?_) λnk=>?_)
 ·rw[decide_eq_true (Jd.mpr ⟨(k,c),Jq hi,rfl⟩)] at h
  refine Im ?_
  exact Im ⟨_,rfl,K6 (Im h)⟩
 ·rw[decide_eq_false nk] at h
  refine Im ?_
  exact Im ⟨_,rfl,K6 (Im h)⟩
theorem yJ(ho:s.heap.get? a=some o)(S:SetOk w o es ep t xs)(hE:oW prog w s.heap xs)(hu:A.units+1<Kk)(hk:(KI prog w).is s.heap k b)(hlen:xs.length<=1000){Q:Il->Io->Prop}
 (h: ∀h' o' es' ep' t' xs',Kh a s.heap h'->h'.get? a=some o'->SetOk w o' es' ep' t' xs'->((k∈xs.map (·.1)/\xs'=xs)\/(k∉xs.map (·.1)/\xs'.Perm (xs++[(k,b)])))->Q .none {s with heap:=h',toks:=s.toks+(KI prog w).draws k}):
 IF (model prog w) A (call (.builtin "set.add") [.ref a,.ref b]) Q E s:=by
 have hT:=SetAt.ty ho S.toSetAt
 have hu1:(KI prog w).room A.in1:=LN hu
 refine Kg F.slot_set_add hT F.entry_set_add ?_ (F.args_set_add_2 _ _)
 unfold LR.«set.add» MU;simp only[Mn,bind_assoc];unfold Md setAdd;refine Ik (Im ?_)
 try dsimp only
 refine Ik (Im ?_)
 try dsimp only
 refine Ik ?_
 refine JM (Ik ((KI prog w).pyHash hu1 hk ?_))
 rw[vV];refine pR (s:={s with toks:=s.toks+(KI prog w).draws k}) ho S hE hu1 hk hlen (λhm=>?_) λnm h' o' es' ep' t' xs' g1 g2 g3 g4=>?_
 ·exact Im ⟨_,rfl,h s.heap o es ep t xs (MF a s.heap) ho S (.inl ⟨hm,rfl⟩)⟩
 ·exact Im ⟨_,rfl,h h' o' es' ep' t' xs' g1 g2 g3 (.inr ⟨nm,g4⟩)⟩
theorem qu(ho:s.heap.get? a=some o)(S:SetOk w o es ep t xs)(hE:oW prog w s.heap xs)(hu:A.units+1<Kk)(hk:(KI prog w).is s.heap k b)(hlen:xs.length<=1000){Q:Il->Io->Prop}
 (h: ∀h' o' es' ep' t' xs',Kh a s.heap h'->h'.get? a=some o'->SetOk w o' es' ep' t' xs'->((k∉xs.map (·.1)/\xs'=xs)\/(∃i c,xs[i]? =some (k,c)/\xs'=xs.eraseIdx i))->Q .none {s with heap:=h',toks:=s.toks+(KI prog w).draws k}):
 IF (model prog w) A (call (.builtin "set.discard") [.ref a,.ref b]) Q E s:=by
 have hT:=SetAt.ty ho S.toSetAt
 have hu1:(KI prog w).room A.in1:=LN hu
 refine Kg F.slot_set_discard hT F.entry_set_discard ?_ (F.args_set_discard_2 _ _)
 unfold LR.«set.discard» MU;simp only[Mn,bind_assoc];unfold Md NY setDiscard;refine Ik (Im ?_)
 try dsimp only
 refine Ik (Im ?_)
 try dsimp only
 refine Ik (TC ?_)
 refine JM (Ik ((KI prog w).pyHash hu1 hk ?_))
 rw[vV];refine lE (s:={s with toks:=s.toks+(KI prog w).draws k}) ho S hE hu1 hk hlen (λnm=>?_) λhm h' o' es' ep' t' xs' g1 g2 g3 g4=>?_
 ·exact Im ⟨_,rfl,h s.heap o es ep t xs (MF a s.heap) ho S (.inl ⟨nm,rfl⟩)⟩
 ·exact Im ⟨_,rfl,h h' o' es' ep' t' xs' g1 g2 g3 (.inr g4)⟩
end
def rm(i:Nat)(ρ:az):Option (List (List Int)):=match ρ[i]? with
 |some (.ob (.tset ks))=>some ks
 |_=>none
theorem kj {i:Nat}{ρ:az}{ks:List (List Int)}(h:rm i ρ=some ks):ρ[i]? =some (.ob (.tset ks)):=by
 unfold rm at h;split at h
 ·cases h;assumption
 ·cases h
abbrev jv(xs:fL):List V:=xs.map λx=>V.ref x.2
abbrev u4(xs:fL):List D:=xs.map λx=>D.tup (x.1.map D.int)
section
variable {K:Iz}{c:Ct}{hid:bq}{ρ:az}{σ:St}{H:Hp}{a:Addr}
theorem SR.setT(h:SR K c hid ρ σ H){i:Nat}{ks:List (List Int)}(e:rm i ρ=some ks): ∃a xs,σ[i]? =some (some (.ref a))/\hid a=true/\c.H₀ a=none/\H a=some (.tst xs)/\(xs.map (·.1)).Perm ks/\Reps K (vw H hid) (jv xs) (u4 xs):=by
 obtain⟨a,h1,⟨h2,h3⟩,us,h4,h5,h6⟩:=h.sl i _ (kj e)
 exact⟨a,us,h1,h2,h3,h4,h5,h6⟩
theorem SR.putS {i:Nat}{ks ks':List (List Int)}{xs':fL}(h:SR K c hid ρ σ H)(hg:rm i ρ=some ks)(ha:σ[i]? =some (some (.ref a)))(p:(xs'.map (·.1)).Perm ks')(r:Reps K (vw H hid) (jv xs') (u4 xs')):SR K c hid (ρ.set i (.ob (.tset ks'))) σ (bp H a (.tst xs')):=by
 obtain⟨a1,us,h1,h2,h3,h4,h5,h6⟩:=h.setT hg
 rw[ha] at h1;cases h1;have lt:i<ρ.length:=(IE.mp (kj hg)).1
 have vv:vw (bp H a (.tst xs')) hid=vw H hid:=dc h2
 have tr': ∀b o,H b=some o-> ∃o2,(bp H a (.tst xs')) b=some o2:=λb o q=>by
  by_cases e:b=a
  ·subst e;exact⟨_,aC⟩
  ·exact⟨o,by rw[aA e];exact q⟩
 have owi:Ow ρ[i]? :=by rw[kj hg];trivial
 have ne: ∀(j:Nat) (s:Sl) (a':Addr),j≠i->ρ[j]? =some s->Ow (some s)->σ[j]? =some (some (.ref a'))->a'≠a:=λj s a' n e o q w=>by
  subst w;exact h.ap j i a' n (by rw[e];exact o) owi q ha
 have ows: ∀j:Nat,Ow (ρ.set i (.ob (.tset ks')))[j]? ->Ow ρ[j]? :=λj o=>by
  by_cases e:j=i
  ·subst e;exact owi
  ·rw[IG (JW e)] at o;exact o
 refine⟨λb hb=>let⟨o,q⟩:=h.tr b hb;tr' b o q,λb xs hb q=>by
  by_cases e:b=a
  ·subst e;rw[aC] at q;cases q
  ·rw[aA e] at q;exact h.ht b xs hb q,h.h0,λb o q m=>?_,λb o q=>let⟨o2,q2⟩:=h.t0 b o q;tr' b o2 q2,h.c0,h.m0,by simp[h.len],λj s e=>?_,λj l z n o1 o2=>h.ap j l z n (ows j o1) (ows l o2)⟩
 ·rw[aA (aX q h3)];exact h.kp b o q m
 ·by_cases ej:j=i
  ·subst ej
   rw[IX lt] at e;cases e
   exact⟨a,ha,⟨h2,h3⟩,xs',aC,p,by rw[vv];exact r⟩
  ·rw[IG (JW ej)] at e
   have z:=h.sl j s e
   cases s with
   |no=>trivial
   |v d=>obtain⟨x,h1,h2⟩:=z;exact⟨x,h1,by rw[vv];exact h2⟩
   |own ds=>obtain⟨a',xs,h1,h2,h3,h4,h5⟩:=z;exact⟨a',xs,h1,by rw[aA (ne j _ a' ej e trivial h1)];exact h2,h3,h4,by rw[vv];exact h5⟩
   |arg ds=>obtain⟨a',xs,h1,h2,h3,h4,h5⟩:=z;exact⟨a',xs,h1,by rw[aA (ne j _ a' ej e trivial h1)];exact h2,h3,h4,by rw[vv];exact h5⟩
   |ob b=>obtain⟨a',h1,h2⟩:=z;exact⟨a',h1,h2.mono (λow o q=>by rw[aA (ne j _ a' ej e ow h1)];exact q) (by rw[vv];exact Same.refl _) λ_ q=>q⟩
end
theorem items_int {prog:Jf}{w:Jr}: ∀ {ns:List Int} {us:List Il},Vals (ns.map V.int) us->PySem.ItemsAre (intKind prog w) ns us
 | [],_,h=>by cases h;exact .nil
 |n::ns,_,h=>by
  cases h with
  |cons r rs=>
   obtain⟨t,rfl⟩:=r
   exact .cons (intKind_is _ _ _ _) (items_int rs)
section
variable {X:Cx}{aa:List (Addr×Obj)}{σ:St}{H:Hp}{s:Io}{a b:Addr}{A:Jm}{E:Il->Io->Prop}
theorem j4 {ks:List Int}(I:Inv X aa σ H s)(h:SqT X.K H b (ks.map V.int)):(KI X.prog X.w).is s.heap ks b:=by
 obtain⟨its,r,⟨o,h1,h2,n,h3⟩,_⟩:=I.tuple h
 exact⟨o,its.toArray,n,h1,h2,h3,by simpa using items_int r⟩
theorem ny {xs:fL}(I:Inv X aa σ H s)(h: ∀x∈xs,SqT X.K H x.2 (x.1.map V.int)):oW X.prog X.w s.heap xs:=λx hx=>j4 I (h x hx)
def Gh:List V->Hp->VK->Prop:=λxs H Q=>xs=[]/\ ∀a,H a=none->Q (.ref a) (bp H a (.tst []))
theorem uY:cK X (.type "set") Gh:=by
 intro aa s σ H xs us Q I r h;obtain⟨rfl,q⟩:=h
 cases r
 refine u0 ?_
 exact⟨.ref s.heap.objs.size,_,I.laid (t':=s.toks) (λb o e=>Ip _ e) (Iv _) (show ObjOk X.prog X.w _ _ _ (.tst []) from⟨_,_,_,_,IN _ rfl,mQ _⟩),rfl,q _ (I.hok.fresh (Iv _))⟩
def Gb(zs:fL)(k:List Int)(b:Addr)(zs':fL):Prop:=(k∈zs.map (·.1)/\zs'=zs)\/(k∉zs.map (·.1)/\zs'.Perm (zs++[(k,b)]))
def Gm(zs:fL)(k:List Int)(zs':fL):Prop:=(zs.map (·.1)).Nodup/\((k∉zs.map (·.1)/\zs'=zs)\/(∃(i:Nat) (c:Addr),zs[i]? =some (k,c)/\zs'=zs.eraseIdx i))
def Go(K:Iz):V->List V->Hp->VK->Prop:=λx xs H Q=> ∃a b zs k,x=.ref a/\xs=[.ref b]/\H a=some (.tst zs)/\SqT K H b (k.map V.int)/\(∀z∈zs,SqT K H z.2 (z.1.map V.int))/\zs.length<=1000/\ ∀zs',Gb zs k b zs'->Q .non (bp H a (.tst zs'))
def FR(K:Iz):V->List V->Hp->VK->Prop:=λx xs H Q=> ∃a b zs k,x=.ref a/\xs=[.ref b]/\H a=some (.tst zs)/\SqT K H b (k.map V.int)/\(∀z∈zs,SqT K H z.2 (z.1.map V.int))/\zs.length<=1000/\ ∀zs',Gm zs k zs'->Q .non (bp H a (.tst zs'))
theorem vS {h':Heap}{t':Nat}{o':Obj}{es':Array (Int×Il)}{ep':Nat}{tb':JZ}{xs zs':fL}(I:Inv X aa σ H s)(e:H a=some (.tst xs))(hs:Kh a s.heap h')(hg:h'.get? a=some o')(S:SetOk X.w o' es' ep' tb' zs'):
 Inv X aa σ (bp H a (.tst zs')) {s with heap:=h',toks:=t'}:=I.write (x:=a) (e:=a) (by rw[e];trivial) (.inl rfl) (λb u hb hu=>(hs.2 b hb).trans hu) ⟨_,hg⟩ ⟨_,_,_,_,hg,S⟩
theorem Bn(hu:X.A.units+1<Kk):HG X "set.add" (Go X.K):=by
 intro aa s σ H x xs v us Q I rx rv h;obtain⟨a,b,zs,k,rfl,rfl,hH,hb,hz,hl,q⟩:=h
 cases rx
 obtain⟨u,rfl,ru⟩:=rv.one
 cases ru
 obtain⟨o,es,ep,t,ho,S⟩:=(show ObjOk X.prog X.w H s.heap a (.tst zs) from I.hok a _ hH)
 refine yJ ho S (ny I hz) hu (j4 I hb) hl λh' o' es' ep' t' xs' g1 g2 g3 g4=>?_
 exact⟨.non,_,vS I hH g1 g2 g3,rfl,q _ g4⟩
theorem Cj(hu:X.A.units+1<Kk):HG X "set.discard" (FR X.K):=by
 intro aa s σ H x xs v us Q I rx rv h;obtain⟨a,b,zs,k,rfl,rfl,hH,hb,hz,hl,q⟩:=h
 cases rx
 obtain⟨u,rfl,ru⟩:=rv.one
 cases ru
 obtain⟨o,es,ep,t,ho,S⟩:=(show ObjOk X.prog X.w H s.heap a (.tst zs) from I.hok a _ hH)
 refine qu ho S (ny I hz) hu (j4 I hb) hl λh' o' es' ep' t' xs' g1 g2 g3 g4=>?_
 exact⟨.non,_,vS I hH g1 g2 g3,rfl,q _ ⟨S.nd,g4⟩⟩
end
section
variable {X:Cx}{o i:Expr}{pos:Pos}{td ty:TE}
def Hy(K:Iz)(ty td:TE):TE:=λσ H Q=>ty σ H λy H1=>td σ H1 λx H2=> ∃a b zs k,x=.ref a/\y=.ref b/\H2 a=some (.tst zs)/\SqT K H2 b (k.map V.int)/\(∀z∈zs,SqT K H2 z.2 (z.1.map V.int))/\Q (.bl (decide (k∈zs.map (·.1)))) H2
theorem Dx(hu:X.A.units+1<Kk)(hi:PE X i ty)(ho:PE X o td):PC X .In i o (Hy X.K ty td):=by
 intro aa s σ H Q I h;refine bR (hi aa s σ H _ I h) λiv s1 ⟨y,H1,I1,ry,q1⟩=>bR (ho aa s1 σ H1 _ I1 q1) λu s2 hq_=>?_
 obtain⟨x,H2,I2,rx,a,b,zs,k,ex,ey,g1,g2,g3,q2⟩:=hq_
 subst ex ey;obtain rfl:u=JI a:=rx
 obtain rfl:iv=JI b:=ry
 obtain⟨o,es,ep,t,ho,S⟩:=(show ObjOk X.prog X.w H2 s2.heap a (.tst zs) from I2.hok a _ g1)
 refine BI ho S.toSetAt (ny I2 g3) hu (j4 I2 g2) ?_
 have q2:Q (.bl (decide (k∈OO (λx:List Int×Addr=>x.1) zs))) H2:=q2
 generalize decide (k∈OO (λx:List Int×Addr=>x.1) zs)=bb at q2⊢
 exact⟨.bl bb,H2,I2.tok _,rfl,q2⟩
end
abbrev HM(K:Iz)(H:Hp):List V->List (List Int)->Prop:=NA λy ks=> ∃b,y=.ref b/\SqT K H b (ks.map V.int)
theorem zN {K:Iz}{H:Hp}: ∀ {zs:fL},(∀z∈zs,SqT K H z.2 (z.1.map V.int))->HM K H (jv zs) (zs.map (·.1))
 | [],_=>.nil
 |z::zs,h=>.cons ⟨z.2,rfl,h z Jh⟩ (zN λy hy=>h y (IZ _ hy))
theorem wn {K:Iz}{H:Hp}: ∀ {ys:List V} {kss:List (List Int)} {i:Nat},HM K H ys kss->i<kss.length-> ∃b,ys.getD i .non=.ref b/\SqT K H b ((kss.getD i []).map V.int)
 |_,_,_,.nil,e=>by simp at e
 |_,_,0,.cons h _,e=>by obtain⟨b,h1,h2⟩:=h;exact⟨b,by simpa using h1,by simpa using h2⟩
 |_,_,i+1,.cons _ r,e=>by
  obtain⟨b,h1,h2⟩:=wn (i:=i) r (by simpa using e)
  exact⟨b,by simpa using h1,by simpa using h2⟩
theorem ng: ∀zs:fL,Vals (jv zs) (zs.map λx=>JI x.2)
 | []=>.nil
 |_::zs=>.cons rfl (ng zs)
theorem tV {α β:Type}(f:α->β){l m:List β}(p:l.Perm m): ∀zs:List α,m=zs.map f-> ∃zs':List α,zs'.Perm zs/\l=zs'.map f:=by
 induction p with
 |nil=>intro zs e;exact⟨zs,NG _,e⟩
 |cons x p ih=>
  intro zs e;cases zs with
  |nil=>cases e
  |cons z zs=>
   rw[Ix] at e;injection e with e1 e2
   obtain⟨zs',h1,h2⟩:=ih zs e2
   exact⟨z::zs',h1.cons z,by rw[e1,h2];rfl⟩
 |swap x y l=>
  intro zs e;cases zs with
  |nil=>cases e
  |cons z zs=>
   cases zs with
   |nil=>cases e
   |cons z2 zs=>
    rw[Ix,Ix] at e;injection e with e1 e2
    injection e2 with e2 e3
    exact⟨z2::z::zs,Ts z z2 zs,by rw[e1,e2,e3];rfl⟩
 |trans p1 p2 ih1 ih2=>
  intro zs e;obtain⟨zs1,h1,h2⟩:=ih2 zs e
  obtain⟨zs2,h3,h4⟩:=ih1 zs1 h2
  exact⟨zs2,h3.trans h1,h4⟩
theorem i9 {k l:List (List Int)}(h:k.Perm l):aR aW k=aR aW l:=jd lt_L ((aY k).trans h) (kF lt_L k)
theorem ce {K:Iz}{F:Hp}: ∀ {xs:fL},Reps K F (jv xs) (u4 xs)-> ∀x∈xs,Rep K F (.ref x.2) (.tup (x.1.map D.int))
 | [],_,x,h=>by cases h
 |y::xs,r,x,h=>by
  cases r with
  |cons r rs=>
   rcases Jn.mp h with rfl|h
   ·exact r
   ·exact ce rs x h
theorem iq {K:Iz}{F:Hp}: ∀ {xs:fL},(∀x∈xs,Rep K F (.ref x.2) (.tup (x.1.map D.int)))->Reps K F (jv xs) (u4 xs)
 | [],_=>.nil
 |x::xs,h=>.cons (h x Jh) (iq λy hy=>h y (IZ _ hy))
theorem ke {K:Iz}{H:Hp}{hid:bq}{b:Addr}{ns:List Int}(h:Rep K (vw H hid) (.ref b) (.tup (ns.map D.int))):SqT K H b (ns.map V.int):=by
 obtain⟨b',z,e,_,h2,h3⟩:=(show Rep1 K H (vw H hid) (.ref b) (.tup (ns.map D.int)) from .inl h).tup
 cases e
 rw[nq h3,I0] at h2;exact h2
section
variable {X:Cx}{c:Ct}{k k1 k2:Kd}{e f ev:Expr}{es:List Expr}{fe ff fk fv:FE}{fs:FA}{pos pos' py apos cpos p:Pos}{x y:Str}{x1:_}
def CY(i:Nat):FS:=λρ=>.nx (ρ.set i (.ob (.tset [])))
theorem BL(i:Nat)(hn:X.N.Nodup)(hm:X.mg "set"=none)(hi:X.N[i]? =some x:=by rfl)(hx:xW X.env.scope x:=by first|exact Kf rfl|exact Jw rfl)(hs:Lp (.Call (.Name "set" p) [] [] cpos) (some (.Name x pos')) pos.line X.env=pure false:=by rfl)
 (hf:X.fn x=true\/X.env.scope.names.lookup x=some .local:=by first|exact .inl rfl|exact .inr rfl|assumption) (hg:Gl X "set":=by rfl) (hv:J9 "set"=some (.type "set"):=by kernel_rfl):DS X c k (.Assign [.Name x pos'] (.Call (.Name "set" p) [] [] cpos) pos) (CY i):=λρ=>PS.imp (lh hn hi hx (uB uY hg hm hv) hs hf) λD σ H hq_=>by
 obtain⟨hid,sr,q⟩:=hq_
 refine⟨rfl,λa ha=>?_⟩
 have sm:=aO ha (.tst [])
 have nf:=sr.fresh ha
 refine q _ _ (bF hid a) (SR.setD (a:=a) (b:=.tset []) (sr.hide sm ha aC) ⟨⟨fj,sr.fresh0 ha⟩,[],aC,NG _,.nil⟩ (sr.notOw nf) i) λb o w=>?_
 obtain⟨w1,w2⟩:=vw_some.mp w
 refine vw_some.mpr ⟨?_,sm b o w2⟩
 unfold bF;rw[w1];have:b≠a:=aX w2 ha
 simp[this]
def x6(i:Nat)(fk:FE):FT:=λρ=>(rm i ρ).bind λks=>((fk ρ).bind rC).map λk=>decide (k∈ks)
theorem Ci(i:Nat)(hu:X.A.units+1<Kk)(he:DP X c k1 e fe)(hN:X.N[i]? =some y:=by rfl)(hv':oh X.env.scope y:=by first|exact Kf rfl|exact Jw (Kf rfl)|exact Jw (Jw rfl))(hd:(y==("__debug__":Str))=false:=by decide)
 (hcd:(y==("__classdict__":Str))=false:=by decide) (hm:LC .In (.Name y py)=false:=by rfl):DT X c (.Compare e [.In] [.Name y py] pos) (x6 i fe):=λhid ρ=>
 PT.imp (Ek (Dx hu (he hid ρ) (pv i hN hv' hd hcd)) hm) λσ H Q hq_=>by
  obtain⟨sr,d,hd,q⟩:=hq_
  obtain⟨ks,e0,hd⟩:=IS.mp hd
  obtain⟨kk,e1,rfl⟩:=JR.mp hd
  obtain⟨dk,e3,e4⟩:=IS.mp e1
  have e5:=iP e4
  subst e5;obtain⟨a,xs,a1,a2,a3,a4,a5,a6⟩:=sr.setT e0
  refine⟨sr,_,e3,λz H2 s2 r2=>⟨.ref a,a1,?_⟩⟩
  obtain⟨b,rfl,hb⟩:=qI (RK.b k1 r2 λa n=>sr.fresh n)
  have hb:SqT X.K H2 b (kk.map V.int):=by unfold iK at hb;rw[I0] at hb;exact hb
  refine⟨a,b,xs,kk,rfl,rfl,s2 _ _ a4,hb,λz hz=>ke ((ce a6 z hz).mono (aH s2)),_,rfl,?_⟩
  rw[show decide (kk∈xs.map (·.1))=decide (kk∈ks) from decide_eq_decide.mpr a5.mem_iff]
  exact q H2 s2
def jT(ks:List (List Int))(k:List Int):List (List Int):=if k∈ks then ks else ks++[k]
def lM(ks:List (List Int))(k:List Int):List (List Int):=ks.filter λx=>decide (x≠k)
def rn(op:List (List Int)->List Int->List (List Int))(i:Nat)(fk:FE):GE:=λρ=>(rm i ρ).bind λks=>((fk ρ).bind rC).bind λk=>if ks.length<=1000 then some (.non,ρ.set i (.ob (.tset (op ks k)))) else none
theorem yM {zs zs':fL}{ks:List (List Int)}{k:List Int}{b:Addr}(h:Gb zs k b zs')(p:(zs.map (·.1)).Perm ks):(zs'.map (·.1)).Perm (jT ks k)/\ ∀z∈zs',z∈zs\/z=(k,b):=by
 unfold jT;rcases h with⟨h1,rfl⟩|⟨h1,h2⟩
 ·rw[if_pos (p.mem_iff.mp h1)]
  exact⟨p,λz hz=>.inl hz⟩
 ·rw[if_neg λw=>h1 (p.mem_iff.mpr w)]
  refine⟨(h2.map (·.1)).trans ?_,λz hz=>?_⟩
  ·rw[JK]
   exact p.append (NG _)
  ·rcases IQ.mp (h2.mem_iff.mp hz) with q|q
   ·exact .inl q
   ·exact .inr (by simpa using q)
theorem AL {zs zs':fL}{ks:List (List Int)}{k:List Int}(h:Gm zs k zs')(p:(zs.map (·.1)).Perm ks):(zs'.map (·.1)).Perm (lM ks k)/\ ∀z∈zs',z∈zs:=by
 obtain⟨nd,h⟩:=h
 unfold lM;have pf:=p.filter λx=>decide (x≠k)
 rcases h with⟨h1,rfl⟩|⟨i,c,h1,rfl⟩
 ·refine⟨?_,λz hz=>hz⟩
  have:(zs'.map (·.1)).filter (λx=>decide (x≠k))=zs'.map (·.1):=Lw.mpr λx hx=>decide_eq_true λw=>h1 (w▸hx)
  rw[this] at pf;exact pf
 ·refine⟨?_,λz hz=>Pe hz⟩
  refine P6 ?_ pf
  have e1:(zs.map (·.1))[i]? =some k:=by rw[JO,h1];rfl
  rw[<-kW]
  generalize zs.map (·.1)=l at e1 nd
  refine(J7 (LK (LP _ _) nd) (LK Oq nd)).mpr λx=>?_
  rw[NQ,JU,decide_eq_true_eq];constructor
  ·rintro⟨j,ne,e⟩
   refine⟨Jq e,λw=>ne ?_⟩
   subst w;exact(List.getElem?_inj (IE.mp e).1 nd).mp (e.trans e1.symm)
  ·rintro⟨h,ne⟩
   obtain⟨j,hj⟩:=JC.mp h
   exact⟨j,λw=>by subst w;rw[e1] at hj;cases hj;exact ne rfl,hj⟩
theorem Cc(i:Nat)(hu:X.A.units+1<Kk)(he:DP X c .s e fe)
 (hN:X.N[i]? =some y:=by rfl) (hv:oh X.env.scope y:=by first|exact Kf rfl|exact Jw (Kf rfl)|exact Jw (Jw rfl)) (hd:(y==("__debug__":Str))=false:=by decide) (hcd:(y==("__classdict__":Str))=false:=by decide)
 (hbase:M6 (.Name y py) "add" X.env (eval (.Name y py) X.env)=eval (.Name y py) X.env:=by rfl)
 (hfew:((KQ pos (ID [e] X.env)).all (λx=> !x.1)&&(Qm pos (N9 [] X.env)).all (λx=>x.1.isSome)&&decide ([e].length+([]:List NB).length+(if([]:List NB).isEmpty then 0 else 1)<30))=true:=by rfl)
 (hline:(apos.endLine==pos.line)=true:=by rfl) (hs:ID [e] X.env=(false,eval e X.env)::ID [] X.env:=by rfl) (hplain:(KQ pos (ID [] X.env)).any (·.1)=false:=by rfl):
 DE X c .s (.Call (.Attribute (.Name y py) "add" apos) [e] [] pos) (rn jT i fe):=λhid ρ=>
 PE.imp (v7 PV PySem.F.slot_set_add PySem.F.type_set_add (Bn hu) (pv i hN hv hd hcd) (bS (he hid ρ) dL hs) hbase hfew hline hs hplain) λσ H Q hq_=>by
  obtain⟨sr,d,ρ',hd',q⟩:=hq_
  obtain⟨ks,e0,hd'⟩:=IS.mp hd'
  obtain⟨kk,e1,hd'⟩:=IS.mp hd'
  obtain⟨dk,e3,e4⟩:=IS.mp e1
  split at hd'
  ·rename_i hz
   cases hd'
   have e5:=iP e4
   subst e5;obtain⟨a,xs,a1,a2,a3,a4,a5,a6⟩:=sr.setT e0
   refine⟨.ref a,a1,.inr (.inr (.inr (.inr ⟨rfl,xs,a4⟩))),sr,_,e3,λz H2 s2 r2=>?_⟩
   have r2:Rep X.K (vw H2 hid) z (.tup (kk.map D.int)):=r2
   obtain⟨b,rfl,hb⟩:=qI (.inl r2)
   have hb:=ke r2
   refine⟨a,b,xs,kk,rfl,rfl,s2 _ _ a4,hb,λz hz=>ke ((ce a6 z hz).mono (aH s2)),by have:=a5.length_eq;rw[Iu] at this;omega,λzs' hzs=>?_⟩
   obtain⟨g1,g2⟩:=yM hzs a5
   refine q _ _ ⟨λb' o w hb'=>?_,(sr.ext s2).putS e0 a1 g1 (iq λz hz=>?_),.non⟩
   ·rw[aA λw'=>by subst w';rw[a2] at hb';cases hb'];exact s2 _ _ w
   ·rcases g2 z hz with h|rfl
    ·exact(ce a6 z h).mono (aH s2)
    ·exact r2
  ·cases hd'
theorem CI(i:Nat)(hu:X.A.units+1<Kk)(he:DP X c .s e fe)
 (hN:X.N[i]? =some y:=by rfl) (hv:oh X.env.scope y:=by first|exact Kf rfl|exact Jw (Kf rfl)|exact Jw (Jw rfl)) (hd:(y==("__debug__":Str))=false:=by decide) (hcd:(y==("__classdict__":Str))=false:=by decide)
 (hbase:M6 (.Name y py) "discard" X.env (eval (.Name y py) X.env)=eval (.Name y py) X.env:=by rfl)
 (hfew:((KQ pos (ID [e] X.env)).all (λx=> !x.1)&&(Qm pos (N9 [] X.env)).all (λx=>x.1.isSome)&&decide ([e].length+([]:List NB).length+(if([]:List NB).isEmpty then 0 else 1)<30))=true:=by rfl)
 (hline:(apos.endLine==pos.line)=true:=by rfl) (hs:ID [e] X.env=(false,eval e X.env)::ID [] X.env:=by rfl) (hplain:(KQ pos (ID [] X.env)).any (·.1)=false:=by rfl):
 DE X c .s (.Call (.Attribute (.Name y py) "discard" apos) [e] [] pos) (rn lM i fe):=λhid ρ=>
 PE.imp (v7 PV PySem.F.slot_set_discard PySem.F.type_set_discard (Cj hu) (pv i hN hv hd hcd) (bS (he hid ρ) dL hs) hbase hfew hline hs hplain) λσ H Q hq_=>by
  obtain⟨sr,d,ρ',hd',q⟩:=hq_
  obtain⟨ks,e0,hd'⟩:=IS.mp hd'
  obtain⟨kk,e1,hd'⟩:=IS.mp hd'
  obtain⟨dk,e3,e4⟩:=IS.mp e1
  split at hd'
  ·rename_i hz
   cases hd'
   have e5:=iP e4
   subst e5;obtain⟨a,xs,a1,a2,a3,a4,a5,a6⟩:=sr.setT e0
   refine⟨.ref a,a1,.inr (.inr (.inr (.inr ⟨rfl,xs,a4⟩))),sr,_,e3,λz H2 s2 r2=>?_⟩
   have r2:Rep X.K (vw H2 hid) z (.tup (kk.map D.int)):=r2
   obtain⟨b,rfl,hb⟩:=qI (.inl r2)
   have hb:=ke r2
   refine⟨a,b,xs,kk,rfl,rfl,s2 _ _ a4,hb,λz hz=>ke ((ce a6 z hz).mono (aH s2)),by have:=a5.length_eq;rw[Iu] at this;omega,λzs' hzs=>?_⟩
   obtain⟨g1,g2⟩:=AL hzs a5
   refine q _ _ ⟨λb' o w hb'=>?_,(sr.ext s2).putS e0 a1 g1 (iq λz hz=>?_),.non⟩
   ·rw[aA λw'=>by subst w';rw[a2] at hb';cases hb'];exact s2 _ _ w
   ·exact(ce a6 z (g2 z hz)).mono (aH s2)
  ·cases hd'
end
theorem SR.putO {K:Iz}{c:Ct}{hid:bq}{ρ:az}{σ:St}{H:Hp}{a:Addr}{i:Nat}{b b':Ob}{o':HO}(h:SR K c hid ρ σ H)(hg:ρ[i]? =some (.ob b))(ow:wG b)(ow':wG b')(ha:σ[i]? =some (some (.ref a)))(h2:hid a=true)(h3:c.H₀ a=none)
 (nt: ∀xs,o'≠ .tup xs) (new:ObOk K c hid (bp H a o') a b'):SR K c hid (ρ.set i (.ob b')) σ (bp H a o'):=by
 have lt:i<ρ.length:=(IE.mp hg).1
 have vv:vw (bp H a o') hid=vw H hid:=dc h2
 have tr': ∀b o,H b=some o-> ∃o2,(bp H a o') b=some o2:=λb o q=>by
  by_cases e:b=a
  ·subst e;exact⟨_,aC⟩
  ·exact⟨o,by rw[aA e];exact q⟩
 have owi:Ow ρ[i]? :=by rw[hg];exact ow
 have ne: ∀(j:Nat) (s:Sl) (a':Addr),j≠i->ρ[j]? =some s->Ow (some s)->σ[j]? =some (some (.ref a'))->a'≠a:=λj s a' n e o q w=>by
  subst w;exact h.ap j i a' n (by rw[e];exact o) owi q ha
 have ows: ∀j:Nat,Ow (ρ.set i (.ob b'))[j]? ->Ow ρ[j]? :=λj o=>by
  by_cases e:j=i
  ·subst e;exact owi
  ·rw[IG (JW e)] at o;exact o
 refine⟨λb hb=>let⟨o,q⟩:=h.tr b hb;tr' b o q,λb xs hb q=>by
  by_cases e:b=a
  ·subst e;rw[aC] at q;exact nt xs (Jv q)
  ·rw[aA e] at q;exact h.ht b xs hb q,h.h0,λb o q m=>?_,λb o q=>let⟨o2,q2⟩:=h.t0 b o q;tr' b o2 q2,h.c0,h.m0,by simp[h.len],λj s e=>?_,λj l z n o1 o2=>h.ap j l z n (ows j o1) (ows l o2)⟩
 ·rw[aA (aX q h3)];exact h.kp b o q m
 ·by_cases ej:j=i
  ·subst ej
   rw[IX lt] at e;cases e
   exact⟨a,ha,new⟩
  ·rw[IG (JW ej)] at e
   have z:=h.sl j s e
   cases s with
   |no=>trivial
   |v d=>obtain⟨x,h1,h2⟩:=z;exact⟨x,h1,by rw[vv];exact h2⟩
   |own ds=>obtain⟨a',xs,h1,h2,h3,h4,h5⟩:=z;exact⟨a',xs,h1,by rw[aA (ne j _ a' ej e trivial h1)];exact h2,h3,h4,by rw[vv];exact h5⟩
   |arg ds=>obtain⟨a',xs,h1,h2,h3,h4,h5⟩:=z;exact⟨a',xs,h1,by rw[aA (ne j _ a' ej e trivial h1)];exact h2,h3,h4,by rw[vv];exact h5⟩
   |ob b=>obtain⟨a',h1,h2⟩:=z;exact⟨a',h1,h2.mono (λow o q=>by rw[aA (ne j _ a' ej e ow h1)];exact q) (by rw[vv];exact Same.refl _) λ_ q=>q⟩
def ze(i:Nat)(ρ:az):Option tP:=match ρ[i]? with
 |some (.ob (.dF kvs))=>some kvs
 |_=>none
theorem xk {i:Nat}{ρ:az}{kvs:tP}(h:ze i ρ=some kvs):ρ[i]? =some (.ob (.dF kvs)):=by
 unfold ze at h;split at h
 ·cases h;assumption
 ·cases h
theorem SR.dictF {K:Iz}{c:Ct}{hid:bq}{ρ:az}{σ:St}{H:Hp}(h:SR K c hid ρ σ H){i:Nat}{kvs:tP}(e:ze i ρ=some kvs): ∃a o us,σ[i]? =some (some (.ref a))/\hid a=true/\c.H₀ a=none/\H a=some (.frz o (.dT us))/\KRt K (vw H hid) us kvs:=by
 obtain⟨a,h1,⟨h2,h3⟩,o,us,h4,h5,h6⟩:=h.sl i _ (xk e)
 exact⟨a,o,us,h1,h2,h3,h4,h5,h6⟩
def A9(i:Nat)(ρ:az):az:=match rF i ρ with
 |some kvs=>ρ.set i (.ob (.dF kvs))
 |none=>ρ
section
variable {X:Cx}{c:Ct}{k k1 k2:Kd}{st:Stmt}{t:FS}
theorem A0(i:Nat)(h:DS X c k st t):DS X c k st (λρ=>t (A9 i ρ)):=λρ aa s σ H D I hq_=>by
 obtain⟨hid,sr,q⟩:=hq_
 have q:EndOk X.K c k D (vw H hid) (t (A9 i ρ)):=q
 unfold A9 at q;split at q
 ·rename_i kvs e
  obtain⟨a,us,a1,a2,a3,a4,a5⟩:=sr.dictT e
  obtain⟨z,y,xs,r,o,es,ep,g1,g2⟩:=(show ObjOk X.prog X.w H s.heap a (.dT us) from I.hok a _ a4)
  have na: ∀b xs,H b=some (.tup xs)->b≠a:=λb xs w e=>by subst e;rw[a4] at w;cases w
  have new:ObjOk X.prog X.w (bp H a (.frz o (.dT us))) s.heap a (.frz o (.dT us)):=⟨g1,z,y,xs,NA.mapP r λp q z=>⟨z.1,by rw[aA (na _ _ z.2.1)];exact z.2.1,z.2.2⟩,o,es,ep,g1,g2⟩
  have I2:Inv X aa σ (bp H a (.frz o (.dT us))) {s with heap:=s.heap,toks:=s.toks}:=I.write (x:=a) (e:=a) (by rw[a4];trivial) (.inl rfl) (λb u _ hu=>hu) ⟨o,g1⟩ new
  have vv:vw (bp H a (.frz o (.dT us))) hid=vw H hid:=dc a2
  refine h (ρ.set i (.ob (.dF kvs))) aa s σ (bp H a (.frz o (.dT us))) D I2 ⟨hid,sr.putO (iU e) trivial trivial a1 a2 a3 (λ_ e=>by cases e) ⟨⟨a2,a3⟩,o,us,aC,a5.1,by rw[vv];exact a5.2⟩,?_⟩
  rw[vv];exact q
 ·exact h ρ aa s σ H D I ⟨hid,sr,q⟩
end
def HK(a:Addr)(o:Obj)(us:List (List bt×V))(ys:List V):It:=⟨λi H=>H a=some (.frz o (.dT us))/\i<ys.length,λi H x H'=>H'=H/\ys[i]? =some x,λi H=>H a=some (.frz o (.dT us))/\i=ys.length⟩
theorem wT {P:Jf}{w:Jr}{K:Iz}{tg:Expr}(a it:Addr){o:Obj}{us:List (List bt×V)}{es:Array RZ}{ep:Nat}{ys:List V}(hex:o.ExactDict)(hd:o.data=.dict es ep)(rv:Vals ys (es.toList.map (·.key))):
 Turn P w K tg (HK a o us ys) [it] it (λi h=>h.IsKeyIter it a i es.size ep) where
 mem:=by simp
 obj:=λi h st b hb=>by
  have e:b=it:=by simpa using hb
  subst e;obtain⟨o,e,c,d⟩:=st
  exact⟨o,e,λv z=>by rw[d] at z;cases z⟩
 keep:=λi h h' st k=>st.at λo e=>k it (by simp) o e
 item:=by
  intro X hP hw hK hc i aa s σ H E I hf st hg;subst hP hw hK;obtain⟨hH,hlt⟩:=hg
  have hl:=rv.length
  rw[Iu,IA (xs:=es)] at hl;have hi:i<es.size:=by omega
  obtain⟨ho,_⟩:=(show ObjOk X.prog X.w H s.heap a (.frz o (.dT us)) from I.hok a _ hH)
  obtain⟨f0,f1,f2,f3,f4,f5⟩:=hf it (by simp)
  obtain⟨u,hu,ru⟩:=rv.get (i:=i) (x:=ys[i]) (Iq hlt)
  have hu':u=es[i].key:=by
   rw[JO,IT,IU hi] at hu;exact(Jv hu).symm
  refine yg st ⟨o,ho,hex,hd⟩ hi λh' st' sb=>?_
  have I1:Inv X aa σ H {s with heap:=h'}:=I.turned (t':=s.toks) (λb o hb e=>(sb.2 b hb).trans e) f0 f1 f3 f4 f5
  obtain⟨o',e,c,d⟩:=id st'
  exact⟨_,rfl,vF (s:={s with heap:=h'}) e c d (by decide) ⟨ys[i],H,I1,by rw[<-hu'];exact ru,⟨rfl,Iq hlt⟩,st',λb hb=>(hf b hb).1⟩⟩
 done:=by
  intro X hP hw hK hc i aa s σ H E I hf st hg;subst hP hw hK;obtain⟨hH,rfl⟩:=hg
  obtain⟨ho,_⟩:=(show ObjOk X.prog X.w H s.heap a (.frz o (.dT us)) from I.hok a _ hH)
  obtain⟨f0,f1,f2,f3,f4,f5⟩:=hf it (by simp)
  have hl:=rv.length
  rw[Iu,IA (xs:=es)] at hl;rw[hl] at st;exact Ck (I.ok.hd hc) st ⟨o,ho,hex,hd⟩ λh' eb=>⟨rfl,I.turned (t':=s.toks) (λb o hb e=>eb b o hb e) f0 f1 f3 f4 f5⟩
 self:=λ_ _ _ _ _ st h=>wpAny_pyIter_keyiter st h
def Ht(td:TE):TI:=λσ H R=>td σ H λx H1=> ∃a o us,x=.ref a/\H1 a=some (.frz o (.dT us))/\ ∀xs,KTd H1 us xs->R (HK a o us (xs.map λx=>V.ref x.2.1)) H1
theorem DD {X:Cx}{tg l:Expr}{tl:TE}(hl:PE X l tl):PI X tg l (Ht tl):=by
 intro aa s σ H R I h;refine bR (hl aa s σ H _ I h) λv s1 hq_=>?_
 obtain⟨x,H1,I1,r1,q1⟩:=hq_
 obtain⟨a,o,us,e,hq,q⟩:=q1
 subst e;cases r1
 obtain⟨g0,z,lo,xs,r,o',es,ep,g1,g2,g3,g4,g5⟩:=(show ObjOk X.prog X.w H1 s1.heap a (.frz o (.dT us)) from I1.hok a _ hq)
 rw[g0] at g1;cases g1
 have rv:Vals (xs.map λx=>V.ref x.2.1) (es.toList.map (·.key)):=by
  rw[g4,I0];exact vt xs
 refine An lo ⟨o,g0,g2,g3⟩ ?_
 refine⟨s1.heap.objs.size,[s1.heap.objs.size],_,_,H1,rfl,I1.kept (t':=s1.toks) λb o e=>Ip _ e,wT a _ g2 g3 rv,⟨_,IN _ rfl,rfl,rfl⟩,λb hb=>?_,q xs r⟩
 have e:b=s1.heap.objs.size:=by simpa using hb
 subst e;exact I1.fpOk (Iv _) (I1.hok.fresh (Iv _))
def v9(i:Nat):FA:=λρ=>(ze i ρ).bind λkvs=>(intKs kvs).map λkss=>kss.map bD
section
variable {X:Cx}{c:Ct}{k k1 k2:Kd}{e f ev:Expr}{es:List Expr}{fe ff fk fv:FE}{fs:FA}{pos pos' py apos cpos p:Pos}{x y:Str}{x1:_}{tg:Expr}
theorem Bg(i:Nat)(hN:X.N[i]? =some y:=by rfl)(hv':oh X.env.scope y:=by first|exact Kf rfl|exact Jw (Kf rfl)|exact Jw (Jw rfl))(hd:(y==("__debug__":Str))=false:=by decide)(hcd:(y==("__classdict__":Str))=false:=by decide):
 C9 X c tg (.Name y py) (v9 i):=λhid ρ=>PI.imp (DD (pv i hN hv' hd hcd)) λσ H R hq_=>by
 obtain⟨sr,ds,e,q⟩:=hq_
 obtain⟨kvs,e0,e⟩:=IS.mp e
 obtain⟨kss,e1,rfl⟩:=JR.mp e
 obtain⟨a,o,us,a1,a2,a3,a4,a5⟩:=sr.dictF e0
 refine⟨.ref a,a1,a,o,us,rfl,a4,λxs kt=>?_⟩
 have ky:=zJ kt (by rw[a5.1];exact tD e1)
 have rr:=sq (K:=X.K) sr.ht ky
 have ll:=rr.length
 refine q _ H (Same.refl _) ⟨λj d H2 hj s w=>?_,λH2 s w=>⟨s _ _ a4,ll.symm⟩⟩
 obtain⟨v,h1,h2⟩:=rr.get hj
 have hlt:j<(xs.map λx=>V.ref x.2.1).length:=(IE.mp h1).1
 refine⟨⟨s _ _ a4,hlt⟩,λx H' ⟨g1,g2⟩=>?_⟩
 subst g1;rw[h1] at g2;cases g2;exact⟨Same.refl _,λhid' _ sw=>h2.mono sw⟩
end
section
variable {X:Cx}{aa:List (Addr×Obj)}{σ:St}{H:Hp}{s:Io}{a b:Addr}{A:Jm}{E:Il->Io->Prop}
theorem Eg {kvs:List (List bt×V)}{k:List bt}{v:V}{Q:Il->Io->Prop}(hu:A.units+1<Kk)(I:Inv X aa σ H s)(e:Rd H a (.dT kvs))(eb:SqT X.K H b (k.map kV))(l:ip kvs k=some v)
 (h: ∀w' s',Inv X aa σ H s'->RelV v w'->Q w' s'):IF (model X.prog X.w) A (Rv (.ref a) (.ref b)) Q E s:=by
 obtain⟨z,hd,xs,rel,dd⟩:=sQ I.hok e
 obtain⟨w',hw,rw'⟩:=RelO.some_of (v:=v) (o:=(Su xs k).map (·.2)) (by rw[<-l];exact rel.val k)
 obtain⟨p,hp,hp2⟩:=JR.mp hw
 refine wpAny_getItem_heap (LN hu) (EO I eb) dd hp ?_
 rw[hp2];exact h w' _ (I.tok _) rw'
end
section
variable {X:Cx}{o i:Expr}{pos:Pos}{td ty:TE}
def G2(K:Iz)(td ty:TE):TE:=λσ H Q=>td σ H λx H1=>ty σ H1 λy H2=> ∃a b kvs k v,x=.ref a/\y=.ref b/\Rd H2 a (.dT kvs)/\SqT K H2 b (k.map kV)/\ip kvs k=some v/\Q v H2
theorem D4(hu:X.A.units+1<Kk)(ho:PE X o td)(hi:PE X i ty)(hs:Ds i):PE X (.Subscript o i pos) (G2 X.K td ty):=by
 intro aa s σ H Q I h;refine Cm PySem.F.slot_dict_getitem.lookup hs (bR (ho aa s σ H _ I h) λu s1 ⟨x,H1,I1,rx,q1⟩=>bR (hi aa s1 σ H1 _ I1 q1) λiv s2 hq_=>?_)
 obtain⟨y,H2,I2,ry,a,b,kvs,k,v,ex,ey,g1,g2,g3,q2⟩:=hq_
 subst ex ey;obtain rfl:u=JI a:=rx
 obtain rfl:iv=JI b:=ry
 refine⟨?_,Eg hu I2 g1 g2 g3 λw' s3 I3 rw'=>⟨v,H2,I3,rw',q2⟩⟩
 obtain⟨_,_,xs,_,dd⟩:=sQ I2.hok g1
 exact dd.typeIs
end
section
variable {X:Cx}{c:Ct}{k k1 k2:Kd}{e f ev:Expr}{es:List Expr}{fe ff fk fv:FE}{fs:FA}{pos pos' py apos cpos p:Pos}{x y:Str}{x1:_}{tg:Expr}
def CM(i:Nat)(fk:FE):FE:=λρ=>(ze i ρ).bind λkvs=>((fk ρ).bind rC).bind λk=>eN kvs (iK k)
theorem BH(i:Nat)(hu:X.A.units+1<Kk)(he:DP X c k1 e fe)(hs:Ds e)(hN:X.N[i]? =some y:=by rfl)(hv':oh X.env.scope y:=by first|exact Kf rfl|exact Jw (Kf rfl)|exact Jw (Jw rfl))(hd:(y==("__debug__":Str))=false:=by decide)
 (hcd:(y==("__classdict__":Str))=false:=by decide):DP X c .s (.Subscript (.Name y py) e pos) (CM i fe):=λhid ρ=>
 PE.imp (D4 hu (pv i hN hv' hd hcd) (he hid ρ) hs) λσ H Q hq_=>by
  obtain⟨sr,d,hd,q⟩:=hq_
  obtain⟨kvs,e0,hd⟩:=IS.mp hd
  obtain⟨kk,e1,hd⟩:=IS.mp hd
  obtain⟨dk,e3,e4⟩:=IS.mp e1
  have e5:=iP e4
  subst e5;obtain⟨a,o,us,a1,a2,a3,a4,a5⟩:=sr.dictF e0
  refine⟨.ref a,a1,sr,_,e3,λz H2 s2 r2=>?_⟩
  obtain⟨b,rfl,hb⟩:=qI (RK.b k1 r2 λa n=>sr.fresh n)
  have hh:Rd H2 a (.dT us):=.inr ⟨o,s2 _ _ a4⟩
  have rr:KRt X.K (vw H2 hid) us kvs:=⟨a5.1,a5.2.mono (aH s2)⟩
  rcases rr.val (iK kk) with⟨v1,v2⟩|⟨v,d',v1,v2,v3⟩
  ·rw[v2] at hd;cases hd
  ·rw[v2] at hd;cases hd
   exact⟨a,b,us,iK kk,v,rfl,rfl,hh,hb,v1,q _ H2 s2 v3⟩
def Ij(K:Iz)(c:Ct)(hid:bq)(fk:az->Option (List Int))(ρ:az):TE:=λσ H Q=>SR K c hid ρ σ H/\ ∃ns,fk ρ=some ns/\ ∀b H',Same H H'->H' b=some (.tup (ns.map V.int))->Q (.ref b) H'
def DK(X:Cx)(c:Ct)(e:Expr)(fk:az->Option (List Int)):Prop:= ∀hid ρ,PE X e (Ij X.K c hid fk ρ)
theorem v4 {K:Iz}{F:Hp}: ∀ {xs:List V} {ns:List Int},Reps K F xs (ns.map D.int)->xs=ns.map V.int
 |_,[],h=>by cases h;rfl
 |_,n::ns,h=>by
  cases h with
  |cons r rs=>cases r;rw[v4 rs];rfl
def gh(f:FE):az->Option (List Int):=λρ=>(f ρ).bind λd=>match d with
 | .lst ds=>eQ ds
 |_=>none
theorem rq(he:DP X c k1 e fe)(hm:X.mg "tuple"=none)(hg:Gl X "tuple":=by rfl)(hv:J9 "tuple"=some (.type "tuple"):=by kernel_rfl)
 (hs:ID [e] X.env=(false,eval e X.env)::ID [] X.env:=by rfl) (hpl:(KQ pos (ID [] X.env)).any (·.1)=false:=by rfl):DK X c (.Call (.Name "tuple" p) [e] [] pos) (gh fe):=λhid ρ=>
 PE.imp (dU cO hg hm hv (bS (he hid ρ) dL hs) (by decide) (by decide) hs hpl) λσ H Q hq_=>by
  obtain⟨sr,ns,e,q⟩:=hq_
  obtain⟨d,e1,e⟩:=IS.mp e
  cases d with
  |lst ds=>
   have e5:=fI e
   subst e5;refine⟨sr,_,e1,λv H2 s2 r2=>?_⟩
   obtain⟨a,xs,rfl,h1,h2⟩:=Rep1.lst (RK.b k1 r2 λa n=>sr.fresh n)
   rw[v4 h2] at h1;exact⟨a,_,rfl,.inl ⟨h1,λl hl=>q l _ (s2.trans (aO hl _)) aC⟩⟩
  |_=>cases e
def oH(i:Nat)(fk:az->Option (List Int))(fv:FE):FS:=λρ=>match rF i ρ with
 |some kvs=>(match fv ρ with
  |some d=>(match fk ρ with
   |some ns=>if kvs.length<=1000 then .nx (ρ.set i (.ob (.dT (oa kvs (iK ns) d)))) else .no
   |none=>.no)
  |none=>.no)
 |none=>.no
theorem zv(i:Nat)(hu:X.A.units+1<Kk){fk:az->Option (List Int)}(hk:DK X c e fk)(hv:DP X c .s ev fv)(hN:X.N[i]? =some y:=by rfl)(hv':oh X.env.scope y:=by first|exact Kf rfl|exact Jw (Kf rfl)|exact Jw (Jw rfl))(hd:(y==("__debug__":Str))=false:=by decide)
 (hcd:(y==("__classdict__":Str))=false:=by decide) (hs:Lp ev (some (.Subscript (.Name y py) e pos')) pos.line X.env=pure false:=by rfl):
 DS X c k (.Assign [.Subscript (.Name y py) e pos'] ev pos) (oH i fk fv):=λρ=>PS.imp (Bw hu (pv i hN hv' hd hcd) (lg λhid=>hk hid ρ) (lg λhid=>hv hid ρ) hs) λD σ H hq_=>by
 obtain⟨hid,sr,q⟩:=hq_
 unfold oH at q;split at q
 ·rename_i kvs e0
  split at q
  ·rename_i d e1
   split at q
   ·rename_i ns e2
    split at q
    ·rename_i hz
     obtain⟨a,us,a1,a2,a3,a4,a5⟩:=sr.dictT e0
     refine⟨hid,sr,d,e1,λv H1 s1 r1=>⟨.ref a,a1,hid,sr.ext s1,ns,e2,λb H2 s2 hb=>?_⟩⟩
     have s13:=s1.trans s2
     have hb':H2 b=some (.tup ((iK ns).map kV)):=by rw[hb];unfold iK;rw[I0];rfl
     refine⟨a,_,rfl,DPut.t (k:=iK ns) (s13 _ _ a4) hb' (by rw[a5.len];exact Mp hz (by decide)),?_⟩
     have r1':Rep X.K (vw H1 hid) v d:=r1
     refine q _ _ hid ((sr.ext s13).putDT e0 a1 (KRt.put (iK ns) (r1'.mono (aH s2)) ⟨a5.1,a5.2.mono (aH s13)⟩)) ?_
     rw[dc a2];exact aH s13
    ·exact q.elim
   ·exact q.elim
  ·exact q.elim
 ·exact q.elim
def nA(i:Nat)(fk:az->Option (List Int))(fd:FE):FE:=λρ=>(rF i ρ).bind λkvs=>(fk ρ).bind λns=>(fd ρ).map λd=>(eN kvs (iK ns)).getD d
theorem zY(i:Nat)(hu:X.A.units+1<Kk){fk:az->Option (List Int)}(he:DK X c e fk)(hf:DP X c .s f ff)(m:M2 X (.Name y py) "get" apos e f cpos)(hN:X.N[i]? =some y:=by rfl)(hv':oh X.env.scope y:=by first|exact Kf rfl|exact Jw (Kf rfl)|exact Jw (Jw rfl))(hd:(y==("__debug__":Str))=false:=by decide)
 (hcd:(y==("__classdict__":Str))=false:=by decide):DP X c .s (.Call (.Attribute (.Name y py) "get" apos) [e,f] [] cpos) (nA i fk ff):=λhid ρ=>
 PE.imp (z8 hu (pv i hN hv' hd hcd) (he hid ρ) (hf hid ρ) m) λσ H Q hq_=>by
  obtain⟨sr,d,hd,q⟩:=hq_
  obtain⟨kvs,e0,hd⟩:=IS.mp hd
  obtain⟨ns,e1,hd⟩:=IS.mp hd
  obtain⟨dd,e2,rfl⟩:=JR.mp hd
  obtain⟨a,us,a1,a2,a3,a4,a5⟩:=sr.dictT e0
  refine⟨.ref a,a1,a,rfl,.inr ⟨us,.inl a4⟩,sr,ns,e1,λb H2 s2 hb=>⟨sr.ext s2,_,e2,λw H3 s3 r3=>?_⟩⟩
  have s23:=s2.trans s3
  have rr:KRt X.K (vw H3 hid) us kvs:=⟨a5.1,a5.2.mono (aH s23)⟩
  have hb':H3 b=some (.tup ((iK ns).map kV)):=by rw[s3 _ _ hb];unfold iK;rw[I0];rfl
  refine⟨_,DGet.t (k:=iK ns) (s23 _ _ a4) hb',q _ H3 s23 ?_⟩
  rcases rr.val (iK ns) with⟨v1,v2⟩|⟨v,d,v1,v2,v3⟩
  ·rw[v1,v2];exact r3
  ·rw[v1,v2];exact v3
end
set_option maxHeartbeats 1000000
open PySem PySem.W PyProof.Rows
section
variable {prog:Jf}{w:Jr}{A:Jm}{E:Il->Io->Prop}{s:Io}{a b:Addr}{o:Obj}{es:Array (Int×Il)}{ep:Nat}{t:JZ}{xs:fL}{k:List Int}
theorem yz(S:SetAt w o es ep t xs){q mask:Nat}(h3:3<=q)(h12:q<=12)(hk:mask+1=2^q)(fg mv:Nat)(hl:xs.length*5<mask*3): ∃(place order:Array Nat),O6 mask fg mv t.led t.plain (es.map (·.1))=some (⟨mask,place, #[],fg,t.led,mv,t.plain⟩,order)/\
 order.toList.Perm (Iy xs.length)/\(∀(o':Obj) (ep':Nat),o'.ExactSet->o'.data=.set (order.filterMap (es[·]?)) ep' ⟨mask,place, #[],fg,t.led,mv,t.plain⟩->
  SetOk w o' (order.filterMap (es[·]?)) ep' ⟨mask,place, #[],fg,t.led,mv,t.plain⟩ (lY xs order.toList))/\(order.filterMap (es[·]?)).size=es.size:=by
 have sz:(es.map (·.1)).size=xs.length:=by rw[Qk,S.size]
 obtain⟨place,order,g1,g2,g3⟩:=we h3 h12 hk fg mv t.led t.plain (es.map (·.1)) (by rw[sz];omega)
 rw[sz] at g2;have lt: ∀i∈order.toList,i<xs.length:=λi hi=>Ja.mp (g2.mem_iff.mp hi)
 have el:(order.filterMap (es[·]?)).toList=(lY xs order.toList).map r9:=by
  rw[PD];unfold lY;rw[I0];have key: ∀l:List Nat,(∀i∈l,i<xs.length)->l.filterMap (λi=>es[i]?)=l.map (r9∘λi=>xs.getD i ([],0)):=by
   intro l
   induction l with
   |nil=>intro _;rfl
   |cons i l ih=>
    intro hl;have h1:=hl i Jh
    have e1:es[i]? =some (r9 (xs.getD i ([],0))):=by
     rw[S.at_,Iq h1];simp[JL,h1]
    rw[Lu,e1,Ix,ih λj hj=>hl j (IZ _ hj)]
    rfl
  exact key _ lt
 have et:ni (lY xs order.toList)=order.toList.map λk=>(es.map (·.1)).toList.getD k 0:=by
  unfold ni lY;rw[I0];refine JH λi hi=>?_
  have:=lt i hi
  rw[oM S];show th (xs.getD i ([],0)).1=(ni xs).getD i 0;unfold ni;simp[JL,this]
 have pp:=i8 g2
 refine⟨place,order,g1,g2,λo' ep' hex hd=>?_,?_⟩
 ·refine⟨⟨hex,hd,el,by rw[et];exact g3,S.led,S.pl,?_⟩,?_⟩
  ·exact((pp.map (·.1)).nodup_iff).mpr S.nd
  ·have z:=g3.sz
   rw[Iu,g2.length_eq,Lo] at z;show(place.size+0)*5<mask*3;have z:place.size=xs.length:=z
   rw[z];omega
 ·rw[<-IA,el,Iu,pp.length_eq,S.size]
theorem Be(ho:s.heap.get? a=some o)(S:SetOk w o es ep t [])(hd0:t.fill=0){n:Nat}(hn:n<=1000){Q:Unit->Io->Prop}
 (h: ∀h' o' es' ep' t',Kh a s.heap h'->h'.get? a=some o'->SetOk w o' es' ep' t' []->t'.fill=0->n*5<t'.mask*3->Q () {s with heap:=h'}):IF (model prog w) A (TD a n) Q E s:=by
 unfold TD;have S':=S.toSetAt
 refine Ik (JG ho S.hd S'.fits ?_)
 dsimp only;have p0:t.place.size=0:=by have:=S'.T.sz;simpa [ni] using this
 unfold SetTable.roomFor;rw[hd0,p0,LY]
 by_cases c:n*5≥t.mask*3
 ·rw[if_pos c]
  dsimp only;have hw:n*2<=4095:=by omega
  have mk:7<=t.mask:=by
   obtain⟨q,q3,_,qe⟩:=S.T.pw
   have p3:2^3<=2^q:=Lm (by omega) q3
   omega
  obtain⟨place,order,mv,g1,g2,g3,g4⟩:=oU S' hw (by show 0*5<_;omega)
  obtain⟨q,h3,h12,e,hlt⟩:=gV hw
  have e0:V3 a (n*2)=(do
   let(es,_,t) <-Rq a
   if JF (n*2)>IM then Kz "set:memory"
   let(es,t) <-(do
    let some (t,order):=t.relaid (es.map (·.1)) (n*2)|Kz "internal:set-table-without-room"
    let es':=order.filterMap (es[·]?)
    if es'.size !=es.size then Kz "internal:set-table-lost-an-element"
    pure (es',t):Sem (Array (Int×Il)×JZ))
   SX a es t):=rfl
  rw[e0];refine Ik (JG ho S.hd S'.fits ?_)
  dsimp only;have p12:2^q<=2^12:=Lm (by omega) h12
  have t12:(2:Nat)^12=4096:=by decide
  rw[if_neg (by rw[e,JP];omega),g1]
  dsimp only;rw[g4,bne_self_eq_false];simp only[IB,if_false];refine Ik (Im ?_)
  dsimp only;have sl:(order.filterMap (es[·]?)).size<=sizeLine:=by
   rw[g4,S'.size,JP];simp
  refine L4 ho S.hd ?_ sl
  have hg:=JN (Nn (order.filterMap (es[·]?)) ⟨JF (n*2) -1,place, #[],t.finger,t.led,mv,t.plain⟩) ho (by rw[Mi _ _ S.hd];rfl)
  rw[Mi _ _ S.hd] at hg;have ord:order.toList=[]:=by
   have:=g2.length_eq
   simp at this;simpa using this
  have pn:lY ([]:fL) order.toList=[]:=by rw[ord];rfl
  have key: ∀(o':Obj) (ep':Nat),o'.ExactSet->o'.data=.set (order.filterMap (es[·]?)) ep' ⟨JF (n*2) -1,place, #[],t.finger,t.led,mv,t.plain⟩->SetOk w o' (order.filterMap (es[·]?)) ep' ⟨JF (n*2) -1,place, #[],t.finger,t.led,mv,t.plain⟩ []:=λo' ep' h1 h2=>by
   have:=g3 o' ep' h1 h2
   rw[pn] at this;exact this
  have G:=key {cls:=.type "set",dict:=none,data:=.set (order.filterMap (es[·]?)) 0 ⟨JF (n*2) -1,place, #[],t.finger,t.led,mv,t.plain⟩} 0 ⟨rfl,rfl,rfl⟩ rfl
  refine h _ _ _ _ _ (Ke s.heap a _) hg (key _ _ S.ex rfl) ?_ ?_
  ·have:=G.T.sz
   have z:place.size=0:=by simpa [ni] using this
   show place.size+0=0;omega
  ·show n*5<(JF (n*2) -1)*3
   omega
 ·rw[if_neg c]
  dsimp only;exact Im (h s.heap o es ep t (MF a s.heap) ho S hd0 (by omega))
theorem su(s o:Addr)(each:Sem Unit):setMerge s o each=(do
 if s==o then return
 let(eo,epoch,to) <-Rq o
 if eo.isEmpty then return
 TD s eo.size
 let(_,_,ts) <-Rq s
 match ts.road to with
 | .slotForSlot=>SX s eo {to with finger:=ts.finger,led:=ts.led&&to.led,moves:=ts.moves,plain:=ts.plain&&to.plain}
 | .clean=>
   let(es,t) <-(do
    let some (t,order):=(O6 ts.mask ts.finger ts.moves (led:=ts.led&&to.led) (plain:=ts.plain&&to.plain) (eo.map (·.1)))|Kz "internal:set-table-without-room"
    let es':=order.filterMap (eo[·]?)
    if es'.size !=eo.size then Kz "internal:set-table-lost-an-element"
    pure (es',t):Sem (Array (Int×Il)×JZ))
   SX s es t
 | .oneByOne=>
   for (h,x) in<-Um o [s] (some s) do
    let _ <-MV [x] (PF s x h)
    each
    if(<-Rq o).2.1 !=epoch then Kz "set.changed-during-merge"):=rfl
theorem zg {l:Addr}{ol:Obj}{esl:Array (Int×Il)}{epl:Nat}{tl:JZ}(ne:a≠l)(ho:s.heap.get? a=some o)(S:SetOk w o es ep t [])(hd0:t.fill=0)(hl:s.heap.get? l=some ol)(Sl:SetOk w ol esl epl tl xs)(hn:xs.length<=1000){each:Sem Unit}{Q:Unit->Io->Prop}
 (h: ∀h' o' es' ep' t' xs',Kh a s.heap h'->h'.get? a=some o'->SetOk w o' es' ep' t' xs'->xs'.Perm xs->Q () {s with heap:=h'}):IF (model prog w) A (setMerge a l each) Q E s:=by
 rw[su,if_neg (by simpa using ne)]
 have Sl':=Sl.toSetAt
 refine Ik (JG hl Sl.hd Sl'.fits ?_)
 dsimp only
 by_cases e1:esl.isEmpty=true
 ·rw[if_pos e1]
  have:xs=[]:=by
   have:=Sl'.size
   rw[Array.isEmpty_iff] at e1;rw[e1] at this;exact List.length_eq_zero_iff.mp this.symm
  subst this;exact Im (h s.heap o es ep t [] (MF a s.heap) ho S (.refl _))
 ·rw[if_neg e1]
  refine Ik (Be ho S hd0 (by rw[Sl'.size];exact hn) λh1 o1 es1 ep1 t1 b1 g1 S1 f1 r1=>?_)
  have S1':=S1.toSetAt
  have hl1:h1.get? l=some ol:=(b1.2 l (JW ne)).trans hl
  refine Ik (JG g1 S1.hd S1'.fits ?_)
  dsimp only;rw[Sl'.size] at r1;have ld:(t1.led&&tl.led)=tl.led:=by rw[S1.led,Sl.led,QT]
  have pl:(t1.plain&&tl.plain)=tl.plain:=by rw[S1.pl,Sl.pl,QT]
  have z:esl.size<=sizeLine:=by rw[Sl'.size,JP];omega
  unfold SetTable.road;rw[if_neg (by rw[f1];decide)]
  by_cases c:(t1.mask==tl.mask&&tl.dummies.isEmpty)=true
  ·rw[if_pos c]
   dsimp only;refine L4 g1 S1.hd ?_ z
   have hg:=JN (Nn esl {tl with finger:=t1.finger,led:=t1.led&&tl.led,moves:=t1.moves,plain:=t1.plain&&tl.plain}) g1 (by rw[Mi _ _ S1.hd];rfl)
   rw[Mi _ _ S1.hd] at hg;have T:=Sl.T
   exact h _ _ _ _ _ xs (b1.trans (Ke h1 a _)) hg ⟨⟨S1.ex,rfl,Sl.he,⟨T.pw,T.sz,T.sp,T.sd,T.lp,T.ld,T.dj,T.fl,T.rc⟩,ld.trans Sl.led,pl.trans Sl.pl,Sl.nd⟩,Sl.f5⟩ (.refl _)
  ·rw[if_neg c]
   dsimp only;obtain⟨q,q3,q12,qe⟩:=S1.T.pw
   obtain⟨place,order,k1,k2,k3,k4⟩:=yz Sl' q3 q12 qe t1.finger t1.moves r1
   rw[ld,pl,k1];dsimp only;rw[k4,bne_self_eq_false];simp only[IB,if_false];refine Ik (Im ?_)
   dsimp only;refine L4 g1 S1.hd ?_ (by rw[k4];exact z)
   have hg:=JN (Nn (order.filterMap (esl[·]?)) ⟨t1.mask,place, #[],t1.finger,tl.led,t1.moves,tl.plain⟩) g1 (by rw[Mi _ _ S1.hd];rfl)
   rw[Mi _ _ S1.hd] at hg;exact h _ _ _ _ _ _ (b1.trans (Ke h1 a _)) hg (k3 _ _ S1.ex rfl) (i8 k2)
end
open PySem PySem.W PyProof.Rows PySem.Builtin
section
variable {prog:Jf}{w:Jr}{A:Jm}{E:Il->Io->Prop}{s:Io}{a b:Addr}{o:Obj}{es:Array (Int×Il)}{ep:Nat}{t:JZ}{xs:fL}{k:List Int}
theorem iw {h h':Heap}(x:(KI prog w).is h k b)(e: ∀o,h.get? b=some o->h'.get? b=some o):(KI prog w).is h' k b:=by
 obtain⟨o,items,n,ho,r⟩:=x
 exact⟨o,items,n,e o ho,r⟩
theorem nn {h:Heap}(x:(KI prog w).is h k b)(ho:h.get? a=some o)(hc:o.cls=.type "set"):b≠a:=λe=>by
 obtain⟨o',items,n,h1,h2,_⟩:=x
 subst e;rw[ho] at h1;cases h1
 rw[hc] at h2;exact absurd h2 (by decide)
theorem CD {h h':Heap}(x:oW prog w h xs)(ho:h.get? a=some o)(hc:o.cls=.type "set")(hs:Kh a h h'):oW prog w h' xs:=λz hz=>iw (x z hz) λo' e=>(hs.2 _ (nn (x z hz) ho hc)).trans e
theorem mn {T:Il}(hT:s.TypeIs T "set"){Q:Bool->Io->Prop}(h:Q true s):IF (model prog w) A (Frozenset.isAnySet T) Q E s:=by
 unfold Frozenset.isAnySet;refine Ik (MZ hT PU ?_)
 exact Im h
theorem Dd {α:Type}{l:List α}(h:l.Nodup){i j:Nat}(hi:i<l.length)(hj:j<l.length)(e:l[i]=l[j]):i=j:=by
 rcases LZ i j with q|q|q
 ·exact absurd e (Jz.mp h i j hi hj q)
 ·exact q
 ·exact absurd e.symm (Jz.mp h j i hj hi q)
structure Tog(K0 P:List (List Int))(zs:fL):Prop where
 nd:(zs.map (·.1)).Nodup
 mem: ∀k,k∈zs.map (·.1)↔(k∈K0/\k∉P)\/(k∈P/\k∉K0)
theorem Tog.out {K0 P:List (List Int)}{zs:fL}(T:Tog K0 P zs){k:List Int}(hk:k∉P){i:Nat}{c:Addr}(hi:zs[i]? =some (k,c)):Tog K0 (P++[k]) (zs.eraseIdx i):=by
 have hkm:k∈zs.map (·.1):=Jd.mpr ⟨_,Jq hi,rfl⟩
 have hk0:k∈K0:=by
  rcases(T.mem k).mp hkm with h|h
  ·exact h.1
  ·exact absurd h.1 hk
 have em:(zs.eraseIdx i).map (·.1)=(zs.map (·.1)).eraseIdx i:=(kW _ _ _).symm
 have hi':(zs.map (·.1))[i]? =some k:=by rw[JO,hi];rfl
 have hlt:i<(zs.map (·.1)).length:=by
  rcases Nat.lt_or_ge i (zs.map (·.1)).length with h|h
  ·exact h
  ·rw[Ka h] at hi';cases hi'
 refine⟨by rw[em];exact LK (LP _ _) T.nd,λk'=>?_⟩
 rw[em];have er: ∀k',k'∈(zs.map (·.1)).eraseIdx i↔k'∈zs.map (·.1)/\k'≠k:=λk'=>by
  rw[List.mem_eraseIdx_iff_getElem];have gi:(zs.map (·.1))[i]=k:=by rw[Iq hlt] at hi';exact Jv hi'
  constructor
  ·rintro⟨j,hj,hne,rfl⟩
   refine⟨MX _,λe=>hne ?_⟩
   exact Dd T.nd hj hlt (e.trans gi.symm)
  ·rintro⟨h1,h2⟩
   obtain⟨j,hj,rfl⟩:=K9 h1
   exact⟨j,hj,λe=>h2 (by subst e;exact gi),rfl⟩
 rw[er,T.mem,IQ,Jc]
 by_cases e:k'=k
 ·subst e;simp[hk0,hk]
 ·simp[e]
theorem Tog.inn {K0 P:List (List Int)}{zs zs':fL}(T:Tog K0 P zs){k:List Int}{c:Addr}(hk:k∉P)(hn:k∉zs.map (·.1))(p:zs'.Perm (zs++[(k,c)])):Tog K0 (P++[k]) zs':=by
 have pm:(zs'.map (·.1)).Perm (zs.map (·.1)++[k]):=by have:=p.map (·.1);rwa [JK] at this
 have hk0:k∉K0:=λh=>hn ((T.mem k).mpr (.inl ⟨h,hk⟩))
 refine⟨pm.nodup_iff.mpr ?_,λk'=>?_⟩
 ·rw[KJ]
  exact⟨T.nd,by simp,λx hx y hy=>by
   rw[Jc] at hy;subst hy;exact λe=>hn (e▸hx)⟩
 ·rw[pm.mem_iff,IQ,Jc,T.mem,IQ,Jc]
  by_cases e:k'=k
  ·subst e;simp[hk0,hk]
  ·simp[e]
theorem CA(id:String){l:Addr}{ol:Obj}{esl:Array (Int×Il)}{epl:Nat}{tl:JZ}{ys:fL}(ne:a≠l)(ho:s.heap.get? a=some o)(S:SetOk w o es ep t xs)(hE:oW prog w s.heap xs)(hl:s.heap.get? l=some ol)(Sl:SetOk w ol esl epl tl ys)(hEl:oW prog w s.heap ys)
 (hu:A.units<Kk) (hn:xs.length+ys.length<=1000) {Q:Unit->Io->Prop}
 (h: ∀h' o' es' ep' t' zs,Kh a s.heap h'->h'.get? a=some o'->SetOk w o' es' ep' t' zs->Tog (xs.map (·.1)) (ys.map (·.1)) zs->(∀z∈zs,z∈xs\/z∈ys)->Q () {s with heap:=h'}):IF (model prog w) A (Frozenset.symmetricDifferenceUpdate id a (.ref l)) Q E s:=by
 have Sl':=Sl.toSetAt
 have hTl:=SetAt.ty hl Sl'
 unfold Frozenset.symmetricDifferenceUpdate;rw[if_neg (by simpa using JW ne)]
 dsimp only;refine Ik (Rm hTl ?_)
 rw[if_neg (by decide)]
 refine Ik (mn hTl ?_)
 rw[if_pos rfl];refine Ik (Im ?_)
 unfold Frozenset.addrOf;refine Ik (Im ?_)
 refine Ik (NH hl Sl.hd Sl'.fits ?_)
 refine JM ?_
 refine Ik ?_
 unfold Um;refine Ik (JG hl Sl.hd Sl'.fits ?_)
 dsimp only;refine Ik (cP ?_)
 rw[if_pos (by rw[Sl.led,Sl.pl];show(fx w||_||_)=true;unfold fx;cases w.params.followText "set-order"<;>rfl)]
 refine tM hl Sl' ?_
 have wp:=kG w l epl esl
 rw[Sl.he] at wp;obtain⟨us,pu,eu⟩: ∃us:fL,us.Perm ys/\(gv w l epl esl).toList=us.map r9:=by
  have key: ∀(m:List (Int×Il)) (zs:fL),m.Perm (zs.map r9)-> ∃us:fL,us.Perm zs/\m=us.map r9:=λm zs hp=>by
   generalize hq:zs.map r9=q at hp
   induction hp generalizing zs with
   |nil=>cases zs with
    |nil=>exact⟨[],.refl _,rfl⟩
    |cons z zs=>cases hq
   |cons x _ ih=>
    cases zs with
    |nil=>cases hq
    |cons z zs=>
     rw[Ix] at hq;obtain⟨h1,h2⟩:=Pf hq
     obtain⟨us,u1,u2⟩:=ih zs h2
     exact⟨z::us,u1.cons z,by rw[Ix,h1,u2]⟩
   |swap x y l=>
    cases zs with
    |nil=>cases hq
    |cons z zs=>cases zs with
     |nil=>cases hq
     |cons z2 zs=>
      rw[Ix,Ix] at hq;obtain⟨h1,h2⟩:=Pf hq
      obtain⟨h3,h4⟩:=Pf h2
      exact⟨z2::z::zs,.swap z z2 zs,by rw[Ix,Ix,h1,h3,h4]⟩
   |trans _ _ ih1 ih2=>
    obtain⟨us,u1,u2⟩:=ih2 zs hq
    obtain⟨vs,v1,v2⟩:=ih1 us u2.symm
    exact⟨vs,v1.trans u1,v2⟩
  exact key _ _ wp
 have ndu:(us.map (·.1)).Nodup:=(pu.map (·.1)).nodup_iff.mpr Sl.nd
 have hset:o.cls=.type "set":=S.ex.1
 refine Ik (Rh _ (λrest _ st=> ∃(P rs:fL) (h':Heap) (o':Obj) (es':Array (Int×Il)) (ep':Nat) (t':JZ) (zs:fL),rest=rs.map r9/\us=P++rs/\st={s with heap:=h'}/\Kh a s.heap h'/\h'.get? a=some o'/\SetOk w o' es' ep' t' zs/\Tog (xs.map (·.1)) (P.map (·.1)) zs/\(∀z∈zs,z∈xs\/z∈P)/\zs.length<=xs.length+P.length) (λ_ st=>IF (model prog w) A (pure ()) Q E st) ?turn ?fin _ _ ⟨[],us,s.heap,o,es,ep,t,xs,eu,rfl,rfl,MF a s.heap,ho,S,⟨S.nd,λk=>by simp⟩,λz hz=>.inl hz,by simp⟩)
 case fin=>
  rintro _ st ⟨P,rs,h',o',es',ep',t',zs,e1,e2,rfl,sb,g,S2,T,hm,_⟩
  have:rs=[]:=List.map_eq_nil_iff.mp e1.symm
  subst this;rw[KD] at e2;subst e2;refine Im (h _ _ _ _ _ zs sb g S2 ⟨T.nd,λk=>by rw[T.mem,(pu.map (·.1)).mem_iff]⟩ λz hz=>?_)
  rcases hm z hz with q|q
  ·exact .inl q
  ·exact .inr (pu.mem_iff.mp q)
 case turn=>
  rintro x rest _ st ⟨P,rs,h',o',es',ep',t',zs,e1,e2,rfl,sb,g,S2,T,hm,hlen⟩
  cases rs with
  |nil=>cases e1
  |cons y rs=>
   rw[Ix] at e1;obtain⟨hx,hr⟩:=Pf e1
   subst hx;have ylen:us.length=ys.length:=pu.length_eq
   have lP:P.length+1<=ys.length:=by
    have:=congrArg KU e2
    rw[IR,Jg] at this;omega
   have hyl:y∈ys:=pu.mem_iff.mp (by rw[e2];simp)
   have hyP:y.1∉P.map (·.1):=λhq=>by
    rw[e2,JK,Ix,KJ] at ndu;exact ndu.2.2 _ hq _ Jh rfl
   have kk:(KI prog w).is h' y.1 y.2:=iw (hEl y hyl) λo2 e=>(sb.2 _ (nn (hEl y hyl) ho hset)).trans e
   have E2:oW prog w h' zs:=λz hz=>by
    rcases hm z hz with q|q
    ·exact iw (hE z q) λo2 e=>(sb.2 _ (nn (hE z q) ho hset)).trans e
    ·have:z∈ys:=pu.mem_iff.mp (by rw[e2];exact Jk _ q)
     exact iw (hEl z this) λo2 e=>(sb.2 _ (nn (hEl z this) ho hset)).trans e
   have hl2:h'.get? l=some ol:=(sb.2 l (JW ne)).trans hl
   show IF _ _ (do
    MV [JI y.2] (do
     if !(<-Pn a (.ref y.2) (th y.1)) then do
      let _ <-PF a (.ref y.2) (th y.1)
      pure ()
     else pure ())
    Frozenset.unchanged id l epl
    pure (ForInStep.yield PUnit.unit)) _ _ _
   have done: ∀(h2:Heap),Kh a h' h2-> ∀R:ForInStep PUnit->Io->Prop,R (.yield PUnit.unit) {s with heap:=h2}->IF (model prog w) A (do
    Frozenset.unchanged id l epl
    pure (ForInStep.yield PUnit.unit)) R E {s with heap:=h2}:=λh2 q1 R hR=>by
    have hl3:h2.get? l=some ol:=(q1.2 l (JW ne)).trans hl2
    unfold Frozenset.unchanged;refine Ik ?_
    refine Ik (NH hl3 Sl.hd Sl'.fits ?_)
    rw[if_neg (by simp)]
    exact Im (Im hR)
   refine Ik (JM ?_)
   refine Ik (lE (s:={s with heap:=h'}) g S2 E2 hu kk (by omega) (λnm=>?_) λhm2 h2 o2 es2 ep2 t2 zs2 q1 q2 q3 q4=>?_)
   ·rw[if_pos (show(!false)=true from rfl)]
    refine Ik (pR (s:={s with heap:=h'}) g S2 E2 hu kk (by omega) (λhm2=>absurd hm2 nm) λnm2 h2 o2 es2 ep2 t2 zs2 q1 q2 q3 q4=>?_)
    refine Im (done h2 q1 _ ⟨P++[y],rs,h2,o2,es2,ep2,t2,zs2,hr,by rw[e2,Jb];rfl,rfl,sb.trans q1,q2,q3,by rw[JK];exact T.inn hyP nm q4,λz hz=>?_,by rw[q4.length_eq,IR,IR,KM];omega⟩)
    rcases IQ.mp (q4.mem_iff.mp hz) with q|q
    ·rcases hm z q with q|q
     ·exact .inl q
     ·exact .inr (Jk _ q)
    ·exact .inr (IK _ (by rw[Jc] at q⊢;exact q))
   ·rw[if_neg (show¬(!true)=true by decide)]
    obtain⟨i,c,hi,rfl⟩:=q4
    refine Im (done h2 q1 _ ⟨P++[y],rs,h2,o2,es2,ep2,t2,_,hr,by rw[e2,Jb];rfl,rfl,sb.trans q1,q2,q3,by rw[JK];exact T.out hyP hi,λz hz=>?_,JS (Po _ _) (by rw[IR];omega)⟩)
    rcases hm z (Pe hz) with q|q
    ·exact .inl q
    ·exact .inr (Jk _ q)
end
set_option maxHeartbeats 3200000
theorem jL:Slot "set" (dunder Operator.BitXor.info.2) "set.__xor__":=.of (owner:="set") (n:="__xor__") (by rw[Nk,LS];kernel_rfl) (by decide+kernel) (by decide+kernel) (by decide+kernel) (by first|exact .inl (by decide+kernel)|exact .inr (by decide+kernel)) PU
theorem n8:Tw table "set.__xor__"=some LR.«frozenset.__xor__»:=QC (id':="frozenset.__xor__") (by kernel_rfl) rfl (by decide+kernel) (by kernel_rfl)
theorem wP:SI.lookup (Ui ['t','e','s'].reverse)=some Manifest.sig_set:=by kernel_rfl
theorem qp(a b:Il):Tx "set.__xor__" ⟨[a,b],[]⟩:=by unfold Tx;rw[QZ (id:="set.__xor__") (n:=['_','_','r','o','x','_','_']) (o:=['t','e','s']) (by kernel_rfl) wP];kernel_rfl
theorem qg:fillsNumberSlot (.type "set") "xor"=pure true:=by
 refine fillsNumberSlot_of (id:="set.__xor__") (r:=some (.builtin "set.__rxor__")) ?_ (by decide+kernel) ?_
 ·show Q9 (.type "set") "__xor__"=_
  rw[Nk,LS];kernel_rfl
 ·show Q9 (.type "set") "__rxor__"=_
  rw[Nk,LS];kernel_rfl
theorem ES(l r:Il):LR.«frozenset.__xor__» ⟨[l,r],[]⟩=(do
 let(self,other) <-Frozenset.slot1 "__xor__" ⟨[l,r],[]⟩
 let(l,r):=if false then(other,self) else(self,other)
 if !(<-Frozenset.isAnySet l<&&>Frozenset.isAnySet r) then
  rule s!"frozenset.{"__xor__"}.declined"
  return<-ret .notImplemented
 let la <-Frozenset.addrOf l
 let v <-(do
  let result <-Frozenset.newFrom s!"frozenset.{"__xor__"}" (<-Frozenset.baseOf la) r
  let ra <-Frozenset.addrOf result
  MV [result] (Frozenset.symmetricDifferenceUpdate s!"frozenset.{"__xor__"}" ra (.ref la))
  return result:Sem Il)
 ret v):=rfl
section
variable {prog:Jf}{w:Jr}{A:Jm}{E:Il->Io->Prop}{s:Io}{a b:Addr}{o:Obj}{es:Array (Int×Il)}{ep:Nat}{t:JZ}{xs ys:fL}{k:List Int}
theorem AM {l r:Addr}{ol or:Obj}{esl esr:Array (Int×Il)}{epl epr:Nat}{tl tr:JZ}(hl:s.heap.get? l=some ol)(Sl:SetOk w ol esl epl tl xs)(hEl:oW prog w s.heap xs)(hr:s.heap.get? r=some or)(Sr:SetOk w or esr epr tr ys)(hEr:oW prog w s.heap ys)
 (hu:A.units+1<Kk) (hn:xs.length+ys.length<=1000) {Q:Il->Io->Prop}
 (h: ∀h' o' es' ep' t' zs,Kh s.heap.objs.size (s.heap.push (aL w)) h'->h'.get? s.heap.objs.size=some o'->SetOk w o' es' ep' t' zs->Tog (ys.map (·.1)) (xs.map (·.1)) zs->(∀z∈zs,z∈ys\/z∈xs)->Q (.ref s.heap.objs.size) {s with heap:=h'}):
 IF (model prog w) A (Mj .BitXor (.ref l) (.ref r)) Q E s:=by
 have hTl:=SetAt.ty hl Sl.toSetAt
 have hTr:=SetAt.ty hr Sr.toSetAt
 refine wpAny_binaryOp_same hTl hTr qg jL ?_
 refine Kg jL hTl n8 ?_ (qp _ _)
 rw[ES];unfold Frozenset.slot1;have sa:Tz "__xor__" 1 ⟨[JI l,JI r],[]⟩=pure (.ref l,[.ref r]):=rfl
 rw[sa,pure_bind];dsimp only;rw[pure_bind];dsimp only;rw[if_neg (by decide)]
 dsimp only;refine Ik ?_
 refine Ik (mn hTl ?_)
 refine mn hTr ?_
 rw[if_neg (by decide)]
 unfold Frozenset.addrOf;rw[pure_bind];refine Ik ?_
 unfold Frozenset.baseOf;refine Ik ?_
 refine Ik (MZ hTl PU ?_)
 rw[if_pos rfl];refine Im ?_
 unfold Frozenset.newFrom;refine Ik ?_
 refine Ik (Cb ?_)
 unfold Frozenset.addrOf;rw[pure_bind];have sz:(s.heap.push (aL w)).get? s.heap.objs.size=some (aL w):=IN _ rfl
 have hr1:(s.heap.push (aL w)).get? r=some or:=Ip _ hr
 have hl1:(s.heap.push (aL w)).get? l=some ol:=Ip _ hl
 have ner:s.heap.objs.size≠r:=Ms (IJ hr)
 have nel:s.heap.objs.size≠l:=Ms (IJ hl)
 have hTr1:Q0 {s with heap:=s.heap.push (aL w)} (.ref r) "set":=SetAt.ty (s:={s with heap:=s.heap.push (aL w)}) hr1 Sr.toSetAt
 refine Ik (JM ?_)
 unfold Frozenset.updateFrom;refine Ik (mn hTr1 ?_)
 rw[if_pos rfl];unfold Frozenset.addrOf Frozenset.merge;rw[pure_bind];refine Ik (NH hr1 Sr.hd Sr.toSetAt.fits ?_)
 refine zg (s:={s with heap:=s.heap.push (aL w)}) ner sz (mQ w) rfl hr1 Sr (by omega) λh1 o1 es1 ep1 t1 zs1 b1 g1 S1 p1=>?_
 refine Im ?_
 rw[pure_bind];have hl2:h1.get? l=some ol:=(b1.2 l nel.symm).trans hl1
 have fc:(aL w).cls=.type "set":=rfl
 have E0: ∀us:fL,oW prog w s.heap us->oW prog w h1 us:=λus hE=>CD (λz hz=>iw (hE z hz) λo' e=>Ip _ e) sz fc b1
 have E1:oW prog w h1 zs1:=λz hz=>E0 ys hEr z (p1.mem_iff.mp hz)
 refine Ik (JM ?_)
 refine CA (s:={s with heap:=h1}) _ nel g1 S1 E1 hl2 Sl (E0 xs hEl) (show A.in1.units<Kk by have:A.in1.units<=A.units+1:=Iv _;omega) (by rw[p1.length_eq];omega) λh2 o2 es2 ep2 t2 zs2 b2 g2 S2 T2 m2=>?_
 refine Im (Im ⟨_,rfl,(λe=>by cases e),h h2 o2 es2 ep2 t2 zs2 (b1.trans b2) g2 S2 ⟨T2.nd,λk=>by rw[T2.mem,(p1.map (·.1)).mem_iff]⟩ λz hz=>?_⟩)
 rcases m2 z hz with q|q
 ·exact .inl (p1.mem_iff.mp q)
 ·exact .inr q
end
section
variable {prog:Jf}{w:Jr}{A:Jm}{R:PH->Io->Prop}{I:Addr}{fp wr:List Addr}{G:Array S4->Array S4->Prop}{n:Nat}{P:Nat->Il->Prop}{St:Nat->Io->Prop}
theorem zm(W:WalksS prog w A.in1 I fp wr G n P St)(S:Addr)(hSf:S∉fp)(ks:List (List Int×Addr))(hk:ks.length=n)(nd:(ks.map (·.1)).Nodup)(hn:n<=1000)(hu:A.in1.units<Kk)
 (hval: ∀i v,P i v->v=.ref (ks.getD i ([],0)).2) (hw: ∀z∈ks,z.2∉wr):
 ∀(k i:Nat) (s:Io),n-i=k->i<=n->St i s->
  (∀z∈ks,(KI prog w).is s.heap z.1 z.2)->
  ∀(o:Obj) (es:Array (Int×Il)) (ep:Nat) (t:JZ) (xs:fL),s.heap.get? S=some o->SetOk w o es ep t xs->xs.Perm (ks.take i)->
  (∀s' o' es' ep' t' xs',Moved (S::wr) G s s'->s'.heap.get? S=some o'->SetOk w o' es' ep' t' xs'->xs'.Perm ks->R (.ok (.ret .none)) s')->
  LQ (model prog w) A (.builtin "set.update.loop" ⟨[.ref S,.ref I],[]⟩) R s:=by
 have hSw:S∉wr:=λh=>hSf (W.sub _ h)
 have hsub: ∀b∈wr,b∈S::wr:=λb hb=>IZ _ hb
 intro k
 induction k with
 |zero=>
  intro i s hk0 hi hst hE o es ep t xs ho hS hp hR;have hin:i=n:=by omega
  subst hin;refine KF Py ?_
  rw[Ks Nw _];show IF _ A.in1 (No (.ref I)>>=_) _ _ s;refine Ik (W.done s _ _ hst λs' hm=>?_)
  show IF _ A.in1 (ret IV) _ _ s';exact Im (hR s' o es ep t xs (hm.mono hsub) (hm.heap S _ hSw ho) hS (by rw[K4 (by omega)] at hp;exact hp))
 |succ k ih=>
  intro i s hk0 hi hst hE o es ep t xs ho hS hp hR;have hlt:i<n:=by omega
  refine KF Py ?_
  rw[Ks Nw _];show IF _ A.in1 (No (.ref I)>>=_) _ _ s;refine Ik (W.item i s _ _ hlt hst λv s' hP hst' hm=>?_)
  have hv:=hval i v hP
  subst hv;have hz:ks.getD i ([],0)∈ks:=by
   rw[Jj,Iq (by omega)]
   exact MX _
  have hgi:ks[i]? =some (ks.getD i ([],0)):=by rw[Jj,Iq (by omega)];rfl
  generalize hzz:ks.getD i ([],0)=z at hz hgi
  have ho':s'.heap.get? S=some o:=hm.heap S _ hSw ho
  have hE': ∀z∈ks,(KI prog w).is s'.heap z.1 z.2:=λy hy=>iw (hE y hy) λo2 e=>hm.heap _ _ (hw y hy) e
  have hEx:oW prog w s'.heap xs:=λy hy=>hE' y (L3 (hp.mem_iff.mp hy))
  have hfr:z.1∉xs.map (·.1):=λhq=>by
   have:=(hp.map (·.1)).mem_iff.mp hq
   rw[QU] at this;obtain⟨j,hj,e⟩:=K9 this
   rw[O4] at e;have hj2:j<i:=by simp at hj;omega
   have hi2:i<(ks.map (·.1)).length:=by rw[Iu];omega
   have e2:(ks.map (·.1))[i]=z.1:=by
    have:(ks.map (·.1))[i]? =some z.1:=by rw[JO,hgi];rfl
    rw[Iq hi2] at this;exact Jv this
   exact absurd (Dd nd (by omega) hi2 (e.trans e2.symm)) (by omega)
  have hsc:o.cls=.type "set":=hS.ex.1
  show IF _ A.in1 (MV [JI z.2] (setAdd S (.ref z.2))>>=_) _ _ s';refine Ik (JM ?_)
  unfold setAdd;refine JM ?_
  refine Ik ((KI prog w).pyHash (show(KI prog w).room A.in1 from hu) (hE' z hz) ?_)
  rw[vV];refine pR (s:={s' with toks:=s'.toks+(KI prog w).draws z.1}) ho' hS hEx hu (hE' z hz) (by rw[hp.length_eq,Lg];omega) (λhq=>absurd hq hfr) λ_ h' o' es' ep' t' xs' g1 g2 g3 g4=>?_
  refine Im ⟨N6 Nw _,ih (i+1) _ (by omega) hlt (W.frame _ s' _ _ hst' (Ph _ _) λb hb o2 e=>?_) (λy hy=>?_) o' es' ep' t' xs' g2 g3 ?_ λs'' o2 es2 ep2 t2 xs2 hm2 q1 q2 q3=>?_⟩
  ·rw[g1.2 b (λh:b=S=>hSf (by rw[<-h];exact hb))];exact e
  ·exact iw (hE' y hy) λo2 e=>(g1.2 _ (nn (hE' y hy) ho' hsc)).trans e
  ·refine g4.trans ?_
   rw[TF,hgi];exact JY _ hp
  ·refine hR s'' o2 es2 ep2 t2 xs2 (Moved.trans W.gtrans ((hm.mono hsub).then_heap (Ph _ _) λb o3 hb e=>?_) hm2) q1 q2 q3
   rw[g1.2 b (λh:b=S=>hb (by rw[h];exact Jh))];exact e
end
section
variable {prog:Jf}{w:Jr}{A:Jm}{E:Il->Io->Prop}{s:Io}
theorem wN {l:Addr}{items:Array Il}{ks:List (List Int×Addr)}{Q:Il->Io->Prop}(hh:A.handled=none)(hl:s.heap.IsList l items)(hi:items.toList=ks.map λz=>JI z.2)(nd:(ks.map (·.1)).Nodup)(hn:ks.length<=1000)(hu:A.units+10<Kk)(hE: ∀z∈ks,(KI prog w).is s.heap z.1 z.2)
 (h: ∀(h':Heap) (tk:Nat) (o':Obj) (es':Array (Int×Il)) (ep':Nat) (t':JZ) (xs:fL),h'.get? s.heap.objs.size=some o'->SetOk w o' es' ep' t' xs->xs.Perm ks->(∀b o,b<s.heap.objs.size->s.heap.get? b=some o->h'.get? b=some o)->Q (.ref s.heap.objs.size) {s with heap:=h',toks:=tk}):
 IF (model prog w) A (call (.type "set") [.ref l]) Q E s:=by
 obtain⟨c,tl,hmro⟩:=Kv.mro
 have hmade:=Kv.made
 have hsub:=Kv.sub
 refine S9 (Ol ?_)
 show IF _ _ (callAny (.type "set") _) _ _ _;refine Im ⟨Rb _ (by decide+kernel),KF RL ?_⟩
 rw[Rc (Qh "set" [.ref l] []) rfl];have h1:=Kv.notType
 have h2:=Kv.canCreate
 have hct:=F.typeCall_set_1 (.ref l)
 repeat (any_goals (first|assumption|wp_step))
 refine Lj (tI (as:=[.ref l]) (E:=E) (F.newCall_set_1 (.ref l)) (Q₁:=λobj s₁=>obj=.ref s.heap.objs.size/\s₁={s with heap:=s.heap.push (aL w)}) ⟨rfl,rfl⟩) λr s₁ hr=>?_
 cases r with
 |error e=>exact hr
 |ok fl=>
  cases fl with
  |ret obj=>
   obtain⟨rfl,rfl⟩:=hr
   have hS0:(s.heap.push (aL w)).get? s.heap.objs.size=some (aL w):=IN _ rfl
   have hS:(s.heap.push (aL w)).get? s.heap.objs.size=some {cls:=.type "set",dict:=none,data:=.set #[] 0 (.fresh 0 0 (!fx w))}:=hS0
   have hT:Q0 {s with heap:=s.heap.push (aL w)} (.ref s.heap.objs.size) "set":=⟨_,hS,rfl⟩
   have hli:=Kv.init.lookup
   have hbi:=Kv.init.bind (.ref s.heap.objs.size)
   repeat (any_goals (first|assumption|wp_step))
   refine Lj (QD (R:=wants (λr s₂=>r=.none/\ ∃h' tk o' es' ep' t' xs,s₂={s with heap:=h',toks:=tk}/\h'.get? s.heap.objs.size=some o'/\SetOk w o' es' ep' t' xs/\xs.Perm ks/\
    (∀b o,b<s.heap.objs.size->s.heap.get? b=some o->h'.get? b=some o)) E) Kv.init.plain Se (check_set_init_1 hT ?_)) λr₂ s₂ hr₂=>?_
   ·obtain⟨ol,hol,hcl,nl,hdl⟩:=hl
    obtain⟨ocls,odict,odata,oslots⟩:=ol
    simp only at hcl hdl;subst hcl;subst hdl;have hol':(s.heap.push (aL w)).get? l=some {cls:=.type "list",dict:=odict,data:=.seq items nl,slots:=oslots}:=Ip _ hol
    have hsls:=F.sub_list_set
    have hslf:=F.sub_list_frozenset
    have hne:(S0 "list"==S0 "dict")=false:=by decide
    have hl1:(s.heap.push (aL w)).IsList l items:=⟨_,hol',rfl,nl,rfl⟩
    unfold LR.«set.__init__» noKeywords SL
    generalize hPI:O7=PI
    wp_walk
    subst hPI;refine OW hl1 ?_
    refine Ik (ON ?_)
    have hlS:l<s.heap.objs.size:=IJ hol
    have hh3:A.in1.in1.in1.handled=none:=by simp[hh]
    have hneI:l≠(s.heap.push (aL w)).objs.size:=by
     rw[KN];exact Jp (MD hlS)
    have hSf:s.heap.objs.size∉ [(s.heap.push (aL w)).objs.size,l]:=by
     rw[KN];simp only[Jn,Jc,NZ,or_false,not_or];exact⟨Jp (Ky _),Ms hlS⟩
    have zi:ks.length=items.size:=by
     have:=congrArg KU hi
     rw[Iu,IA] at this;exact this.symm
    have hlt: ∀z∈ks,z.2<s.heap.objs.size:=λz hz=>by
     obtain⟨o,_,_,e,_⟩:=hE z hz
     exact IJ e
    refine zm ((Yc hh3 _ l hneI items).toS) s.heap.objs.size hSf ks zi nd (by omega) (show A.in1.in1.in1.units<Kk by
     have a1:A.in1.in1.in1.units<=A.units+3:=Iv _
     omega) (λi v hv=>?_) (λz hz=>?_) (items.size-0) 0 _ (by omega) (JV _)
     ⟨⟨_,IN _ rfl,rfl,rfl⟩,(hl1.push _)⟩ (λz hz=>iw (hE z hz) λo e=>Ip _ (Ip _ e)) _ _ _ _ [] (Ip _ hS0) (mQ w) (.refl _) ?hR
    ·have:items.toList[i]? =some v:=by rw[IT];exact hv
     rw[hi,JO] at this;obtain⟨z,hz,rfl⟩:=JR.mp this
     rw[Jj,hz];rfl
    ·have:=hlt z hz
     simp only[Jn,Jc,NZ,or_false];rw[KN];exact Jp (MD this)
    case hR=>
     intro s' o' es' ep' t' xs' hm g1 g2 g3;obtain⟨h',g',d',tk',os'⟩:=s'
     have eg:g'=s.gens:=hm.gens
     have ed:d'=s.drawn:=hm.drawn
     have eo:os'=s.os:=hm.os
     subst eg;subst ed;subst eo;show IF _ _ _ _ _ _;refine Im ?_
     show IF _ _ (ret IV) _ _ _;refine Im ⟨rfl,h',tk',o',es',ep',t',xs',rfl,g1,g2,g3,λb o hb e=>?_⟩
     have hb1:b≠s.heap.objs.size:=Jp hb
     have hb2:b≠(s.heap.push (aL w)).objs.size:=by
      rw[KN];exact Jp (MD hb)
     exact hm.heap b o (by simp only[Jn,Jc,NZ,or_false,not_or];exact⟨hb1,hb2⟩) (Ip _ (Ip _ e))
   ·cases r₂ with
    |error e=>exact hr₂
    |ok fl₂=>
     cases fl₂ with
     |ret r=>
      obtain⟨rfl,h',tk,o',es',ep',t',xs,rfl,g1,g2,g3,hk'⟩:=hr₂
      repeat (any_goals (first|assumption|wp_step))
      exact h _ _ _ _ _ _ _ g1 g2 g3 hk'
     |_=>exact hr₂.elim
  |_=>exact hr.elim
end
set_option maxHeartbeats 1000000
section
variable {X:Cx}
def E9(K:Iz):List V->Hp->VK->Prop:=λxs H Q=> ∃l ks,xs=[.ref l]/\SqL K H l (jv ks)/\(∀z∈ks,SqT K H z.2 (z.1.map V.int))/\(ks.map (·.1)).Nodup/\ks.length<=1000/\ ∀a zs,H a=none->zs.Perm ks->Q (.ref a) (bp H a (.tst zs))
theorem nO(hc:X.calm=true)(hu:X.A.units+10<Kk):cK X (.type "set") (E9 X.K):=by
 intro aa s σ H xs us Q I r h;obtain⟨l,ks,rfl,hL,hsq,nd,hn,q⟩:=h
 obtain⟨u,rfl,rx⟩:=ie r
 cases rx
 obtain⟨its,r,hl,z1⟩:=I.list hL
 have hi:its=ks.map λz=>JI z.2:=by
  have rv:=ng ks
  have: ∀(vs:List V) (a b:List Il),(∀v∈vs,∃p,v=V.ref p)->Vals vs a->Vals vs b->a=b:=λvs=>by
   induction vs with
   |nil=>intro a b _ h1 h2;cases h1;cases h2;rfl
   |cons v vs ih=>
    intro a b hv h1 h2;cases h1 with
    |cons x1 t1=>cases h2 with
     |cons x2 t2=>
      obtain⟨p,rfl⟩:=hv v Jh
      cases x1;cases x2
      rw[ih _ _ (λw hw=>hv w (IZ _ hw)) t1 t2]
  exact this _ _ _ (λv hv=>by obtain⟨z,_,rfl⟩:=Jd.mp hv;exact⟨_,rfl⟩) r rv
 refine wN (ks:=ks) (items:=its.toArray) (I.ok.hd hc) ?_ (by simpa using hi) nd hn hu (λz hz=>j4 I (hsq z hz)) λh' tk o' es' ep' t' zs g1 g2 g3 g4=>?_
 ·obtain⟨o,n,e,c1,d1,t1⟩:=hl
  exact⟨o,e,c1,n,by first|exact d1|exact t1⟩
 ·exact⟨.ref s.heap.objs.size,_,I.laid (t':=tk) (λb o e=>g4 b o (IJ e) e) (Iv _) (show ObjOk X.prog X.w _ _ _ (.tst zs) from⟨_,_,_,_,g1,g2⟩),rfl,q _ _ (I.hok.fresh (Iv _)) g3⟩
def GB(K:Iz):R2:=λx y H Q=> ∃l r xs ys,x=.ref l/\y=.ref r/\H l=some (.tst xs)/\H r=some (.tst ys)/\(∀z∈xs,SqT K H z.2 (z.1.map V.int))/\(∀z∈ys,SqT K H z.2 (z.1.map V.int))/\xs.length+ys.length<=1000/\
 ∀a zs,H a=none->Tog (ys.map (·.1)) (xs.map (·.1)) zs->(∀z∈zs,z∈ys\/z∈xs)->Q (.ref a) (bp H a (.tst zs))
theorem Cn(hu:X.A.units+1<Kk):km X (Mj .BitXor) (GB X.K):=by
 intro aa s σ H x y v u Q I rx ry h;obtain⟨l,r,xs,ys,rfl,rfl,hl,hr,sl,sr,hn,q⟩:=h
 cases rx
 cases ry
 obtain⟨ol,esl,epl,tl,hol,Sl⟩:=(show ObjOk X.prog X.w H s.heap l (.tst xs) from I.hok l _ hl)
 obtain⟨or,esr,epr,tr,hor,Sr⟩:=(show ObjOk X.prog X.w H s.heap r (.tst ys) from I.hok r _ hr)
 refine AM hol Sl (ny I sl) hor Sr (ny I sr) hu hn λh' o' es' ep' t' zs b g S T m=>?_
 refine⟨.ref s.heap.objs.size,_,I.laid (t':=s.toks) (λc o e=>?_) (Iv _) (show ObjOk X.prog X.w _ _ _ (.tst zs) from⟨_,_,_,_,g,S⟩),rfl,q _ _ (I.hok.fresh (Iv _)) T m⟩
 exact(b.2 c (Jp (IJ e))).trans (Ip _ e)
end
theorem nB {K:Iz}{H:Hp}{hid:bq}: ∀ {vs:List V} {ks:List (List Int)},Reps K (vw H hid) vs (ks.map bD)-> ∃xs:fL,vs=jv xs/\xs.map (·.1)=ks/\Reps K (vw H hid) (jv xs) (u4 xs)
 |vs,[],r=>by cases r;exact⟨[],rfl,rfl,.nil⟩
 |vs,k::ks,r=>by
  rw[Ix] at r;cases r with
  |cons r rs=>
   obtain⟨xs,rfl,rfl,r3⟩:=nB rs
   obtain⟨b,z,rfl,_⟩:=(show Rep1 K H (vw H hid) _ (.tup (k.map D.int)) from .inl r).tup
   exact⟨(k,b)::xs,rfl,rfl,.cons r r3⟩
def jk:List D->Option (List (List Int))
 | []=>some []
 | .tup ds::r=>(eQ ds).bind λk=>(jk r).map (k:: ·)
 |_=>none
theorem jW: ∀ {ds:List D} {ks:List (List Int)},jk ds=some ks->ds=ks.map bD
 | [],ks,h=>by cases h;rfl
 | .tup es::r,ks,h=>by
   obtain⟨k,e1,h⟩:=IS.mp (show(eQ es).bind _=_ from h)
   obtain⟨t,e2,rfl⟩:=JR.mp h
   rw[Ix,<-jW e2,fI e1];rfl
 | .non::_,_,h| .bl _::_,_,h| .int _::_,_,h| .str _::_,_,h| .lst _::_,_,h| .scr _::_,_,h=>by cases h
theorem B7 {A:Jm}{k:Nat}(hr:Room k A):A.units+10<cLine:=Mp (QF (by decide:10<=64) _) hr.units
def gF(a b:List (List Int)):List (List Int):=a.filter (λk=>decide (k∉b))++b.filter (λk=>decide (k∉a))
theorem qB {a b:List (List Int)}(ha:a.Nodup)(hb:b.Nodup):(gF a b).Nodup:=by
 unfold gF;rw[KJ];refine⟨ha.filter _,hb.filter _,λx hx y hy e=>?_⟩
 subst e;have h1:=(JU.mp hx).1
 have h2:=(JU.mp hy).2
 simp at h2;exact h2 h1
theorem symK_mem {a b:List (List Int)}{k:List Int}:k∈gF a b↔(k∈a/\k∉b)\/(k∈b/\k∉a):=by
 unfold gF;simp
theorem zZ {a b:List (List Int)}{zs:fL}(T:Tog b a zs)(ha:a.Nodup)(hb:b.Nodup):(zs.map (·.1)).Perm (gF a b):=
 (J7 T.nd (qB ha hb)).mpr λk=>by rw[T.mem,symK_mem];constructor<;>(rintro(h|h);exact .inr h;exact .inl h)
theorem zO {K:Iz}{H:Hp}{hid:bq}{v:V}{ds:List D}(h:Rep K (vw H hid) v (.lst ds)): ∃l xs,v=.ref l/\SqL K H l xs/\Reps K (vw H hid) xs ds:=by
 obtain⟨a,xs,rfl,h1,h2⟩:=(show Rep1 K H (vw H hid) v (.lst ds) from .inl h).lst
 exact⟨a,xs,rfl,h1,h2⟩
section
variable {prog:Jf}{w:Jr}{A:Jm}{E:Il->Io->Prop}{s:Io}
theorem tp {α:Type}{lt:α->α->Bool}{d0:α}{ks:List α}{r:Addr}{us:List Il}{Q:Il->Io->Prop}(tr: ∀x y z:α,lt y x=false->lt z y=false->lt z x=false)(as: ∀x y:α,lt x y=true->lt y x=false)
 (uq: ∀l:List α,l.Perm ks->l.Pairwise (λx y=>lt y x=false)->l=aR lt ks)
 (col: ∀R:List Il->Io->Prop,(∀(g:Heap) (tk:Nat),(∀c o,s.heap.get? c=some o->g.get? c=some o)->s.heap.objs.size<=g.objs.size->R us {s with heap:=g,toks:=tk})->IF (model prog w) A.in1 (OZ (.ref r)) R E s) (hz:us.length<=100000) (hl:us.length=ks.length)
 (nd:ks.Pairwise λx y=>lt x y=true\/lt y x=true) (fn: ∀i j,i<us.length->j<us.length->us.getD i IV=us.getD j IV->ks.getD i d0=ks.getD j d0)
 (many:2<=us.length-> ∀(g:Heap) (tk:Nat),(∀c o,s.heap.get? c=some o->g.get? c=some o)->IF (model prog w) A.in1.in1 (Tl us.toArray) (λκ t=>t={s with heap:=g,toks:=tk}/\
   ∀i j,i<us.length->j<us.length-> ∀C:Bool->Io->Prop,C (lt (ks.getD i d0) (ks.getD j d0)) {s with heap:=g,toks:=tk}->IF (model prog w) A.in1.in1 (keyLt' κ (us.getD i IV) (us.getD j IV)) C (λ_ _=>False) {s with heap:=g,toks:=tk}) (λ_ _=>False) {s with heap:=g,toks:=tk})
 (fin: ∀(g:Heap) (tk a e:Nat) (ix:List Nat),(∀c o,s.heap.get? c=some o->g.get? c=some o)->s.heap.objs.size<=a->(∀i∈ix,i<us.length)->ix.map (λi=>ks.getD i d0)=aR lt ks->g.get? a=some (Lc "list" (KH (ix.map λi=>us.getD i IV)) e)->Q (.ref a) {s with heap:=g,toks:=tk}):
 IF (model prog w) A (call (.builtin "sorted") [.ref r]) Q E s:=by
 refine OS kind_sorted plain_sorted entry_sorted (args_sorted1 _) ?_
 unfold LR.«sorted»;refine Ik (m:=checkCount "sorted" 1 1 _) (Im (Ik (col _ λg tk kg sg=>?_)))
 refine Ik (Pc ?_ (by rw[JP];omega))
 have hL:(g.push (Lc "list" us.toArray 0)).get? g.objs.size=some (Lc "list" us.toArray 0):=IN _ rfl
 show IF _ _ _ _ _ {s with heap:=g.push (Lc "list" us.toArray 0),toks:=tk}
 have end_: ∀ix:List Nat,(∀i∈ix,i<us.length)->ix.map (λi=>ks.getD i d0)=aR lt ks->Q (.ref g.objs.size) {s with heap:=Mv (g.push (Lc "list" us.toArray 0)) g.objs.size us (KH (ix.map λi=>us.getD i IV)),toks:=tk}:=λix hG1 hG2=>by
  obtain⟨e,he⟩:=Uc (out:=KH (ix.map λi=>us.getD i IV)) hL
  refine fin _ tk g.objs.size e ix (λc u hu=>?_) sg hG1 hG2 he
  have lt:=IJ (kg c u hu)
  rw[To (Jp lt) (by rw[size_push'];exact MD lt)]
  exact Ip _ (kg c u hu)
 have rg:(Iy us.length).map (λi=>us.getD i IV)=us:=NC λi=>by
  by_cases hi:i<us.length
  ·simp[hi]
  ·simp[hi]
 have rk:(Iy us.length).map (λi=>ks.getD i d0)=ks:=by rw[hl];exact jx _ _
 refine Ik (JM (Kg Tp ⟨_,hL,rfl⟩ SG (yQ (P:=λf t=> ∃v,f=.done (.ret v)/\IF (model prog w) A.in1 (pure (Tq (.ret (JI g.objs.size)))) (λf t=> ∃v,f=.done (.ret v)/\Q v t) E t) hL (by omega) (λh=>?_) (λh g' kg'=>?_)) (Tr _)))
 ·have e:=end_ (Iy us.length) (λi hi=>Ja.mp hi) (by rw[rk,hJ (by omega)])
  rw[rg] at e;exact⟨_,rfl,Im ⟨_,rfl,e⟩⟩
 ·refine Jo (many h g' tk λc u hu=>kg' c u (Jp (IJ (kg c u hu))) (Ip _ (kg c u hu))) (λκ t ⟨et,ht⟩=>⟨et,?_⟩) λ_ _ x=>x
  obtain⟨kf,hkf⟩: ∃kf:Il->Nat,∀i,i<us.length->kf (us.getD i IV)<us.length/\us.getD (kf (us.getD i IV)) IV=us.getD i Value.none:=by
   refine Classical.axiomOfChoice (r:=λ(v:Il) (j:Nat)=> ∀i,i<us.length->us.getD i IV=v->j<us.length/\us.getD j IV=v) (λv=>?_) |>.elim λf hf=>⟨f,λi hi=>hf _ i hi rfl⟩
   by_cases h: ∃i,i<us.length/\us.getD i IV=v
   ·obtain⟨i,hi,e⟩:=h
    exact⟨i,λ_ _ _=>⟨hi,e⟩⟩
   ·exact⟨0,λi hi e=>absurd ⟨i,hi,e⟩ h⟩
  have kk: ∀i,i<us.length->ks.getD (kf (us.getD i IV)) d0=ks.getD i d0:=λi hi=>fn _ _ (hkf i hi).1 hi (hkf i hi).2
  have zl:(us.toArray.zip us.toArray).toList=us.map λv=>(v,v):=by simp[List.zip_eq_zipWith,List.zipWith_self]
  have itm: ∀x∈(us.toArray.zip us.toArray).toList,∃i,i<us.length/\x=(us.getD i IV,us.getD i IV):=λx hx=>by
   rw[zl] at hx;obtain⟨v,hv,rfl⟩:=Jd.mp hx
   obtain⟨i,hi,rfl⟩:=K9 hv
   exact⟨i,hi,by simp[JL,Iq hi]⟩
  have fst:(us.toArray.zip us.toArray).toList.map (λx=>ks.getD (kf x.1) d0)=ks:=by
   rw[zl,I0]
   conv=>lhs;rw[<-rg]
   rw[I0];refine Eq.trans (JH λi hi=>?_) rk
   exact kk i (Ja.mp hi)
  refine⟨λx=> ∃i,i<us.length/\x=(us.getD i IV,us.getD i IV),λx y=>lt (ks.getD (kf x.1) d0) (ks.getD (kf y.1) d0),Cmp.of (λx y hx hy Q' hQ=>?_) (λx y z _ _ _ h1 h2=>tr _ _ _ h1 h2) (λx y h1=>as _ _ h1),itm,?_,λar pm sg=>⟨_,rfl,Im ⟨_,rfl,?_⟩⟩⟩
  ·obtain⟨i,hi,rfl⟩:=hx
   obtain⟨j,hj,rfl⟩:=hy
   dsimp only at hQ;rw[kk i hi,kk j hj] at hQ;exact ht i j hi hj Q' hQ
  ·have:((us.toArray.zip us.toArray).toList.map λx=>ks.getD (kf x.1) d0).Pairwise λx y=>lt x y=true\/lt y x=true:=by rw[fst];exact nd
   rw[KB] at this;exact this
  ·have pl:=pm.toList
   have al: ∀x∈ar.toList,∃i,i<us.length/\x=(us.getD i IV,us.getD i IV):=λx hx=>itm x (pl.mem_iff.mp hx)
   have e1:ar.toList.map (λx=>ks.getD (kf x.1) d0)=aR lt ks:=uq _ (by have p:=pl.map λx=>ks.getD (kf x.1) d0;rw[fst] at p;exact p) (by
    rw[KB,Jz];intro i j hi hj hij;have:=sg i j (JV _) (by omega) (by
     have:=pl.length_eq
     rw[zl,Iu] at this;omega)
    have hi':i<ar.size:=by simpa using hi
    have hj':j<ar.size:=by simpa using hj
    simpa [Ku,hi',hj'] using this)
   have:=end_ (ar.toList.map λx=>kf x.1) (λi hi=>by
    obtain⟨x,hx,rfl⟩:=Jd.mp hi
    obtain⟨j,hj,rfl⟩:=al x hx
    exact(hkf j hj).1) (by rw[I0];exact e1)
   rw[I0,show ar.toList.map ((λi=>us.getD i IV)∘λx=>kf x.1)=ar.toList.map (·.2) from JH λx hx=>by
    obtain⟨j,hj,rfl⟩:=al x hx
    exact(hkf j hj).2] at this
   rw[show(OO (λx=>x.2) ar.toList).toArray=ar.map (·.2) from by rw[<-RP]] at this
   exact this
theorem AW {T:String}{r d:Addr}{us:List Il}{P:Nat->Il->Prop}{OK:Heap->Prop}(src:KdlSrc prog w T r d us.length P OK)(hP: ∀i v,i<us.length->P i v->us[i]? =some v)(calm:A.handled=none)(good:OK s.heap)(hz:us.length<=100000)
 (R:List Il->Io->Prop) (h: ∀(g:Heap) (tk:Nat),(∀c o,s.heap.get? c=some o->g.get? c=some o)->s.heap.objs.size<=g.objs.size->R us {s with heap:=g,toks:=tk}):IF (model prog w) A (OZ (.ref r)) R E s:=by
 refine vi src calm good (by rw[JP];omega) λg tk acc kg sg0 hacc=>?_
 have hus:acc.toList=us:=NC λi=>by
  by_cases hi:i<us.length
  ·have h1:i<acc.size:=by rw[hacc.1];exact hi
   have e3:acc[i]? =some acc[i]:=IU h1
   rw[IT,e3,hP i _ hi (hacc.2 i _ e3)]
  ·have h1: ¬i<acc.toList.length:=by rw[IA,hacc.1];exact hi
   rw[Ka (by omega),Ka (by omega)]
 rw[hus];exact h g tk kg (Mr sg0)
theorem rM {l:Addr}{T:String}{o:Obj}{us:List Il}{n:Nat}{Q:List Il->Io->Prop}(hT:T="list"\/T="tuple")(ho:s.heap.get? l=some o)(hc:o.cls=.type T)(hd:o.data=.seq us.toArray n)(hz:us.length<=100000)
 (q: ∀g:Heap,(∀b u,s.heap.get? b=some u->g.get? b=some u)->s.heap.objs.size<=g.objs.size->Q us {s with heap:=g}):IF (model prog w) A (OZ (.ref l)) Q E s:=by
 have z:us.toArray.size<=sizeLine:=by rw[IP,JP];omega
 have hN:(s.heap.push {cls:=.type "list",data:=.seq ([]:List Il).toArray}).get? s.heap.objs.size=some {cls:=.type "list",data:=.seq #[] 0}:=IN _ rfl
 have hU:=JN (KA (·++us.toArray)) hN rfl
 have last:IF (model prog w) A (do
  match (<-load s.heap.objs.size).data with
   |Data.seq xs _=>pure xs.toList
   |_=>Kz "internal:collect") Q E {s with heap:=(s.heap.push {cls:=.type "list",data:=.seq ([]:List Il).toArray}).update s.heap.objs.size (KA (·++us.toArray))}:=by
  refine Ik (Q8 hU (Im ?_))
  show Q ((#[]:Array Il)++us.toArray).toList _;rw[show((#[]:Array Il)++us.toArray).toList=us by simp]
  refine q _ (λb u e=>(Mt _ _ (Ms (IJ e))).trans (Ip _ e)) ?_
  rw[R8,KN];exact OX _
 unfold OZ;refine Ik (ON (KF NK ?_))
 rw[Ks NL _];show IF _ A.in1 (RC []>>=λr=>Pp (.builtin "list.__iadd__" ⟨[r,.ref l],[]⟩)) _ _ s
 refine Ik (Kq (Im ⟨N6 L6 _,KF O0 ?_⟩))
 rw[Ks L6 _];show IF _ A.in1 (MC (.ref s.heap.objs.size) (.ref l) (.ref s.heap.objs.size)) _ _ _;have ext:=R9 (prog:=prog) (w:=w) (A:=A) (hsz:=z) (R:=λr t=>r=.ok (.ret (.ref s.heap.objs.size))/\t={s with heap:=(s.heap.push {cls:=.type "list",data:=.seq ([]:List Il).toArray}).update s.heap.objs.size (KA (·++us.toArray))})
  (s:={s with heap:=s.heap.push {cls:=.type "list",data:=.seq ([]:List Il).toArray}}) _ l (.ref s.heap.objs.size) 0 hT hN (Ip _ ho) hc hd ⟨rfl,rfl⟩
 refine Jo ext (λfin t h=>?_) (λe t h=>absurd h.1 (by simp))
 cases fin with
 |done f=>obtain⟨e,rfl⟩:=h;cases e;exact last
 |again c=>exact⟨h.1,Lj h.2 λr t' hr=>by obtain⟨rfl,rfl⟩:=hr;exact last⟩
def GN(h:Heap)(its:List Il)(kss:List (List Int)):Prop:= ∀i,i<kss.length-> ∃(b:Addr) (o:Obj) (ts:List Il) (n:Nat),its.getD i IV=.ref b/\h.get? b=some o/\o.cls=.type "tuple"/\o.data=.seq ts.toArray n/\oq ts (kss.getD i [])
theorem Am {h g:Heap}(kg: ∀c o,h.get? c=some o->g.get? c=some o): ∀(l:List Il) (ms:List (List Int)),l.length=ms.length->GN h l ms->(∀k∈ms,k≠[])-> ∃fs,KatTups g l fs/\fs.length=l.length/\ ∀v∈fs,∃i t,v=NS i t:=by
 intro l
 induction l with
 |nil=>intro ms _ _ _;exact⟨[],.nil,rfl,λ_ h=>nomatch h⟩
 |cons v l ih=>
  intro ms hl hg hk;cases ms with
  |nil=>cases hl
  |cons m ms=>
   obtain⟨fs,f1,f2,f3⟩:=ih ms (by simpa using hl) (λi hi=>by simpa using hg (i+1) (by simpa using hi)) λk hk'=>hk k (by simp[hk'])
   obtain⟨b,o,ts,n,g1,g2,g3,g4,g5⟩:=hg 0 (by simp)
   simp[JL] at g1 g5;subst g1;cases m with
   |nil=>exact absurd rfl (hk [] (by simp))
   |cons x xs=>
    cases g5 with
    |cons y1 y2=>
     obtain⟨t,rfl⟩:=y1
     refine⟨_,Vi (kg _ _ g2) g3 g4 (by simp;rfl) f1,by simp[f2],λv hv=>?_⟩
     rcases Jn.mp hv with rfl|hv
     ·exact⟨_,_,rfl⟩
     ·exact f3 v hv
theorem wy: ∀ {ts:List Il} {ns ms:List Int},oq ts ns->oq ts ms->ns=ms
 |_,_,_,.nil,.nil=>rfl
 |_,_,_,.cons ⟨_,h⟩ r,.cons ⟨_,h'⟩ r'=>by
  rw[h] at h';cases h'
  rw[wy r r']
theorem lI {r:Addr}{its:List Il}{kss:List (List Int)}{Q:Il->Io->Prop}(li:its.length=kss.length)(gi:GN s.heap its kss)(hne: ∀k∈kss,k≠[])(nd:kss.Nodup)(hz:its.length<=100000)
 (col: ∀R:List Il->Io->Prop,(∀(g:Heap) (tk:Nat),(∀c o,s.heap.get? c=some o->g.get? c=some o)->s.heap.objs.size<=g.objs.size->R its {s with heap:=g,toks:=tk})->IF (model prog w) A.in1 (OZ (.ref r)) R E s)
 (fin: ∀(g:Heap) (tk a e:Nat) (ix:List Nat),(∀c o,s.heap.get? c=some o->g.get? c=some o)->s.heap.objs.size<=a->(∀i∈ix,i<its.length)->ix.map (λi=>kss.getD i [])=aR aW kss->g.get? a=some (Lc "list" (KH (ix.map λi=>its.getD i IV)) e)->Q (.ref a) {s with heap:=g,toks:=tk}):
 IF (model prog w) A (call (.builtin "sorted") [.ref r]) Q E s:=by
 refine tp (lt:=aW) (d0:=[]) (ks:=kss) ?_ (λx y h=>lt_L.as h) (λl p pw=>jd lt_L p pw) col hz li ?_ (λi j hi hj e=>?_) (λh2 g tk kg=>?_) fin
 ·intro x y z h1 h2
  exact lt_L.tr h1 h2
 ·refine ME (λ{x y} h=>?_) nd
  cases e1:aW x y with
  |true=>exact .inl rfl
  |false=>
   cases e2:aW y x with
   |true=>exact .inr rfl
   |false=>exact absurd (lt_L.eq e1 e2) h
 ·obtain⟨b1,o1,ts1,n1,x1,x2,x3,x4,x5⟩:=gi i (by omega)
  obtain⟨b2,o2,ts2,n2,y1,y2,y3,y4,y5⟩:=gi j (by omega)
  rw[x1,y1] at e;cases e
  rw[x2] at y2;cases y2
  rw[x4] at y4;injection y4 with y4
  have:=congrArg Rr y4
  simp only at this;subst this;exact wy x5 y5
 ·obtain⟨fs,f1,f2,f3⟩:=Am kg its kss li gi hne
  refine kat_kind (T:=.type "int") f1 (by omega) (λv hv=>?_) (by rfl) ⟨rfl,λi j hi hj C hC=>?_⟩
  ·obtain⟨i,t,rfl⟩:=f3 v hv;exact UA
  ·obtain⟨b1,o1,ts1,n1,x1,x2,x3,x4,x5⟩:=gi i (by omega)
   obtain⟨b2,o2,ts2,n2,y1,y2,y3,y4,y5⟩:=gi j (by omega)
   rw[x1,y1];refine kat_lt (kg _ _ x2) x4 (kg _ _ y2) y4 ?_
   refine qO 0 x5 y5 ?_ hC
   have z1:=L7 x5
   have z2:=L7 y5
   simp[z1,z2]
end
section
variable {X:Cx}
theorem ji(hc:X.calm=true):cK X (.builtin "sorted") (λxs H Q=> ∃a zs,xs=[.ref a]/\H a=some (.tst zs)/\(∀z∈zs,SqT X.K H z.2 (z.1.map V.int))/\zs.length<=100000/\(∀z∈zs,z.1≠[])/\
 ∀l (zs':fL),H l=none->(∀z∈zs',z∈zs)->zs'.map (·.1)=aR aW (zs.map (·.1))->Q (.ref l) (bp H l (.lst (jv zs')))):=by
 intro aa s σ H xs vs Q I r h;obtain⟨a,zs0,rfl,ha,hsq0,hz0,hne0,q⟩:=h
 obtain⟨u,rfl,rx⟩:=ie r
 cases rx
 obtain⟨o,es,ep,t,ho,S⟩:=(show ObjOk X.prog X.w H s.heap a (.tst zs0) from I.hok a _ ha)
 obtain⟨zs,pz,ez⟩:=tV r9 (kG X.w a ep es) zs0 S.he
 have hsq: ∀z∈zs,SqT X.K H z.2 (z.1.map V.int):=λz hz=>hsq0 z (pz.mem_iff.mp hz)
 have hne: ∀k∈zs.map (·.1),k≠[]:=λk hk=>by
  obtain⟨z,hz,rfl⟩:=Jd.mp hk
  exact hne0 z (pz.mem_iff.mp hz)
 have hz:zs.length<=100000:=by rw[pz.length_eq];exact hz0
 have nd:(zs.map (·.1)).Nodup:=(pz.map (·.1)).nodup_iff.mpr S.nd
 have ky:=zN hsq
 obtain⟨kss,hkss⟩: ∃kss,kss=zs.map (·.1):=⟨_,rfl⟩
 rw[<-hkss] at ky hne nd;have lk:kss.length=zs.length:=by rw[hkss,Iu]
 obtain⟨its,hits⟩: ∃its,its=zs.map λx=>JI x.2:=⟨_,rfl⟩
 have li:its.length=kss.length:=by rw[hits,Iu,lk]
 have rv:Vals (jv zs) its:=by rw[hits];exact ng zs
 have sz:es.size=its.length:=by rw[S.toSetAt.size,<-pz.length_eq,li,lk]
 have raw:RawSet X.w s.heap a es ep t:=⟨o,zs0,ho,S.toSetAt⟩
 have gi:GN s.heap its kss:=λi hi=>by
  obtain⟨b,h1,h2⟩:=wn ky hi
  have r1:=jb rv i
  rw[h1] at r1;obtain⟨ts,r',⟨o,ho,hc,n,hd⟩,_⟩:=I.tuple h2
  exact⟨b,o,ts,n,r1,ho,hc,hd,Da r'⟩
 refine lI li gi hne nd (by omega) (λR hR=>AW (A:=X.A.in1) (us:=its) (sz▸BO (es:=es) (ep:=ep) (t:=t)) (λi v hi hv=>?_) (I.ok.hd hc) raw (by omega) R hR) (λg tk p e ix kg hp hG1 hG2 hg=>?_)
 ·obtain⟨e,h1,rfl⟩:=hv
  rw[<-IT,ez,JO] at h1;obtain⟨x,h2,rfl⟩:=JR.mp h1
  rw[hits,JO,h2];rfl
 ·have lt: ∀i∈ix,i<zs.length:=λi hi=>by have:=hG1 i hi;omega
  have e1:(ix.map λi=>zs.getD i ([],0)).map (·.1)=aR aW (zs0.map (·.1)):=by
   rw[<-i9 (pz.map (·.1)),<-hkss,<-hG2,I0]
   refine JH λi hi=>?_
   have:=lt i hi
   rw[hkss];simp[JL,this]
  have e2:jv (ix.map λi=>zs.getD i ([],0))=ix.map λi=>(jv zs).getD i .non:=by
   show(ix.map λi=>zs.getD i ([],0)).map (λx=>V.ref x.2)=_
   rw[I0];refine JH λi hi=>?_
   have:=lt i hi
   simp[jv,JL,this]
  have ll:ix.length=zs0.length:=by
   have:=congrArg KU e1
   rw[Iu,Iu,(aY (lt:=aW) (zs0.map (·.1))).length_eq,Iu] at this
   exact this
  have qq:=q p (ix.map λi=>zs.getD i ([],0)) (I.hok.fresh hp) (λz hz=>by
   obtain⟨i,hi,rfl⟩:=Jd.mp hz
   have:=lt i hi
   refine pz.mem_iff.mp ?_
   simp[JL,this]) e1
  rw[e2] at qq;refine⟨.ref p,_,I.laid (t':=tk) kg hp (show ObjOk X.prog X.w _ g _ (.lst (ix.map λi=>(jv zs).getD i .non)) from⟨?_,_,e,iZ rv ix,hg⟩),rfl,qq⟩
  rw[Iu,ll,JP];omega
theorem oj:cK X (.builtin "sorted") (λxs H Q=> ∃a ys ks,xs=[.ref a]/\SqL X.K H a ys/\Reps X.K H ys (ks.map bD)/\(ks.length<=100000/\ks.Nodup/\ ∀k∈ks,k≠[])/\
 ∀(l:Addr) (ix:List Nat),H l=none->(∀i∈ix,i<ks.length)->ix.map (λi=>ks.getD i [])=aR aW ks->Q (.ref l) (bp H l (.lst (ix.map λi=>ys.getD i .non)))):=by
 intro aa s σ H xs us Q I r h;obtain⟨a,ys,ks,rfl,hq,rp,⟨hz,nd,hne⟩,q⟩:=h
 obtain⟨u,rfl,rx⟩:=ie r
 cases rx
 obtain⟨its,rv,pl,hz'⟩:=I.list hq
 obtain⟨o,ho,hc,n,hd⟩:=pl.isList
 have l1:=rv.length
 have l2:=rp.length
 rw[Iu] at l2;have hl:its.length=ks.length:=by omega
 have gi:GN s.heap its ks:=λi hi=>by
  have r1:=jb rv i
  have r2:=kY rp i
  have e3:(ks.map bD).getD i .non=.tup ((ks.getD i []).map D.int):=by simp[JL,Iq hi,bD]
  rw[e3] at r2
  generalize hx:ys.getD i .non=x at r1 r2
  cases r2 with
  |tup q1 q2=>
   obtain⟨ts,r',⟨o,ho,hc,n,hd⟩,_⟩:=I.tuple q1
   exact⟨_,o,ts,n,r1,ho,hc,hd,mj r' q2⟩
 refine lI hl gi hne nd (by omega) (λR hR=>rM (.inl rfl) ho hc hd (by omega) λg kg sg=>hR g s.toks kg sg) (λg tk p e ix kg hp hG1 hG2 hg=>?_)
 refine⟨.ref p,_,I.laid (t':=tk) kg hp (show ObjOk X.prog X.w _ g _ (.lst (ix.map λi=>ys.getD i .non)) from⟨?_,_,e,iZ rv ix,hg⟩),rfl,q _ ix (I.hok.fresh hp) (λi hi=>by have:=hG1 i hi;omega) hG2⟩
 have ll:=congrArg KU hG2
 rw[Iu,(aY (lt:=aW) ks).length_eq] at ll;rw[Iu,ll,JP];omega
end
def m7:List D->Option D
 | [.lst ds]=>(jk ds).bind λks=>if ks.length<=100000/\ks.Nodup/\ ∀k∈ks,k≠[] then some (.lst ((aR aW ks).map bD)) else none
 |_=>none
theorem r8 {K:Iz}:fU K .n (λxs H Q=> ∃a ys ks,xs=[.ref a]/\SqL K H a ys/\Reps K H ys (ks.map bD)/\(ks.length<=100000/\ks.Nodup/\ ∀k∈ks,k≠[])/\
 ∀(l:Addr) (ix:List Nat),H l=none->(∀i∈ix,i<ks.length)->ix.map (λi=>ks.getD i [])=aR aW ks->Q (.ref l) (bp H l (.lst (ix.map λi=>ys.getD i .non)))) m7:=by
 intro H hid vs ds d Q hf h r q;unfold m7 at h;split at h
 ·rename_i zs
  obtain⟨ks,e,h⟩:=IS.mp h
  split at h
  ·rename_i hz
   cases h
   have:=jW e
   subst this;obtain⟨x,rfl,r1⟩:=Reps1.one r
   obtain⟨a,xs,rfl,h1,h2⟩:=r1.lst
   refine⟨a,xs,ks,rfl,h1,h2.mono (dI _ _),hz,λl ix hl hi he=>q _ _ (aO hl _) (gd hl (Same.refl _) ?_)⟩
   have:(aR aW ks).map bD=ix.map λi=>(ks.map bD).getD i .non:=by
    rw[<-he,I0];refine JH λi hi'=>?_
    have:=hi i hi'
    simp[JL,Iq this]
   rw[this];exact ja h2 ix
  ·cases h
 ·cases h
section
variable {X:Cx}{c:Ct}{pos p py:Pos}{x y:Str}
def yd(i:Nat):FE:=λρ=>(rm i ρ).bind λks=>if ks.length<=100000/\ ∀k∈ks,k≠[] then some (.lst ((aR aW ks).map bD)) else none
theorem Ag(i:Nat)(hcm:X.calm=true)(hm:X.mg "sorted"=none)(hN:X.N[i]? =some y:=by rfl)(hv':oh X.env.scope y:=by first|exact Kf rfl|exact Jw (Kf rfl)|exact Jw (Jw rfl))(hd:(y==("__debug__":Str))=false:=by decide)
 (hcd:(y==("__classdict__":Str))=false:=by decide) (hg:Gl X "sorted":=by rfl) (hv:J9 "sorted"=some (.builtin "sorted"):=by kernel_rfl)
 (he:ID [.Name y py] X.env=(false,eval (.Name y py) X.env)::ID [] X.env:=by rfl) (hpl:(KQ pos (ID [] X.env)).any (·.1)=false:=by rfl):DP X c .n (.Call (.Name "sorted" p) [.Name y py] [] pos) (yd i):=λhid ρ=>
 PE.imp (j7 (ji hcm) hg hm hv (bS (pv i hN hv' hd hcd) dL he) (by decide) (by decide) he hpl) λσ H Q hq_=>by
  obtain⟨sr,d,hd,q⟩:=hq_
  obtain⟨ks,e0,hd⟩:=IS.mp hd
  split at hd
  ·rename_i hz
   cases hd
   obtain⟨a,xs,a1,a2,a3,a4,a5,a6⟩:=sr.setT e0
   have ll:=a5.length_eq
   rw[Iu] at ll;refine⟨.ref a,a1,a,xs,rfl,a4,λz hz=>ke (ce a6 z hz),by omega,λz hz'=>hz.2 _ (a5.mem_iff.mp (Mf hz')),λl zs' hl hm hk=>q _ _ (aO hl _) (gd hl (Same.refl _) ?_)⟩
   have:(aR aW ks).map bD=u4 zs':=by
    rw[<-i9 a5,<-hk,I0];rfl
   rw[this];exact iq λz hz=>ce a6 z (hm z hz)
  ·cases hd
end
def En(i j:Nat):FE:=λρ=>match ρ[i]?,ρ[j]? with
 |some (.v (.lst d1)),some (.v (.lst d2))=>(jk d1).bind λk1=>(jk d2).bind λk2=>if(k1.Nodup/\k2.Nodup)/\k1.length+k2.length<=1000/\(∀k∈k1,k≠[])/\(∀k∈k2,k≠[]) then some (.lst ((aR aW (gF k1 k2)).map bD)) else none
 |_,_=>none
section
variable {X:Cx}{c:Ct}{pos p p1 p2 p3 p4 p5 q1 q2 q3:Pos}{x y:Str}
theorem wY(i j:Nat)(hcm:X.calm=true)(hu:X.A.units+10<Kk)(hm:X.mg "sorted"=none)(hms:X.mg "set"=none)(hN:X.N[i]? =some x:=by rfl)(hN2:X.N[j]? =some y:=by rfl)(hv':oh X.env.scope x:=by first|exact Kf rfl|exact Jw (Kf rfl)|exact Jw (Jw rfl))(hv2:oh X.env.scope y:=by first|exact Kf rfl|exact Jw (Kf rfl)|exact Jw (Jw rfl))(hd:(x==("__debug__":Str))=false:=by decide)(hd2:(y==("__debug__":Str))=false:=by decide)
 (hcd:(x==("__classdict__":Str))=false:=by decide) (hcd2:(y==("__classdict__":Str))=false:=by decide) (hg:Gl X "sorted":=by rfl) (hgs:Gl X "set":=by rfl) (hv:J9 "sorted"=some (.builtin "sorted"):=by kernel_rfl) (hvs:J9 "set"=some (.type "set"):=by kernel_rfl)
 (he1:ID [.Name x p2] X.env=(false,eval (.Name x p2) X.env)::ID [] X.env:=by rfl) (he2:ID [.Name y p4] X.env=(false,eval (.Name y p4) X.env)::ID [] X.env:=by rfl) (he3:ID [.BinOp (.Call (.Name "set" p1) [.Name x p2] [] q1) .BitXor (.Call (.Name "set" p3) [.Name y p4] [] q2) q3] X.env=(false,eval (.BinOp (.Call (.Name "set" p1) [.Name x p2] [] q1) .BitXor (.Call (.Name "set" p3) [.Name y p4] [] q2) q3) X.env)::ID [] X.env:=by rfl) (hpl: ∀pos,(KQ pos (ID [] X.env)).any (·.1)=false:=by intro _;rfl):
 DP X c .n (.Call (.Name "sorted" p) [.BinOp (.Call (.Name "set" p1) [.Name x p2] [] q1) .BitXor (.Call (.Name "set" p3) [.Name y p4] [] q2) q3] [] pos) (En i j):=λhid ρ=>
 PE.imp (j7 (ji hcm) hg hm hv (bS (x8 (Cn (by omega)) (dU (nO hcm hu) hgs hms hvs (bS (pv i hN hv' hd hcd) dL he1) (by decide) (by decide) he1 (hpl _)) (dU (nO hcm hu) hgs hms hvs (bS (pv j hN2 hv2 hd2 hcd2) dL he2) (by decide) (by decide) he2 (hpl _))) dL he3) (by decide) (by decide) he3 (hpl _)) λσ H Q hq_=>by
  obtain⟨sr,d,hd,q⟩:=hq_
  unfold En at hd;split at hd
  ·rename_i d1 d2 e1 e2
   obtain⟨k1,f1,hd⟩:=IS.mp hd
   obtain⟨k2,f2,hd⟩:=IS.mp hd
   split at hd
   ·rename_i hc
    cases hd
    obtain⟨⟨nd1,nd2⟩,hl,ne1,ne2⟩:=hc
    have:=jW f1;subst this
    have:=jW f2;subst this
    obtain⟨v1,s1,r1⟩:=sr.sl i _ e1
    obtain⟨v2,s2,r2⟩:=sr.sl j _ e2
    obtain⟨l1,u1,rfl,g1,w1⟩:=zO r1
    obtain⟨l2,u2,rfl,g2,w2⟩:=zO r2
    obtain⟨x1,rfl,rfl,y1⟩:=nB w1
    obtain⟨x2,rfl,rfl,y2⟩:=nB w2
    rw[Iu,Iu] at hl;have t1: ∀z∈x1,SqT X.K H z.2 (z.1.map V.int):=λz hz=>ke (ce y1 z hz)
    have t2: ∀z∈x2,SqT X.K H z.2 (z.1.map V.int):=λz hz=>ke (ce y2 z hz)
    refine⟨.ref l1,s1,l1,x1,rfl,g1,t1,nd1,by omega,λa1 z1 n1 pm1=>?_⟩
    have S1:Same H (bp H a1 (.tst z1)):=aO n1 _
    refine⟨.ref l2,s2,l2,x2,rfl,Same.seq S1 g2,λz hz=>Same.seqT S1 (t2 z hz),nd2,by omega,λa2 z2 n2 pm2=>?_⟩
    have S2:Same (bp H a1 (.tst z1)) (bp (bp H a1 (.tst z1)) a2 (.tst z2)):=aO n2 _
    have S12:=S1.trans S2
    refine⟨a1,a2,z1,z2,rfl,rfl,S2 _ _ aC,aC,λz hz=>Same.seqT S12 (t1 z (pm1.mem_iff.mp hz)),λz hz=>Same.seqT S12 (t2 z (pm2.mem_iff.mp hz)),by rw[pm1.length_eq,pm2.length_eq];omega,λa3 z3 n3 T m3=>?_⟩
    have S3:=aO n3 (.tst z3)
    have S13:=S12.trans S3
    have m3': ∀z∈z3,z∈x1\/z∈x2:=λz hz=>(m3 z hz).elim (λh=>.inr (pm2.mem_iff.mp h)) λh=>.inl (pm1.mem_iff.mp h)
    have T':Tog (x2.map (·.1)) (x1.map (·.1)) z3:=⟨T.nd,λk=>by rw[T.mem,(pm1.map (·.1)).mem_iff,(pm2.map (·.1)).mem_iff]⟩
    have P3:=zZ T' nd1 nd2
    have l3:z3.length<=x1.length+x2.length:=by
     have:=P3.length_eq
     rw[Iu] at this;rw[this];unfold gF;rw[IR];have a:=J8 (λk=>decide (k∉x2.map (·.1))) (x1.map (·.1))
     have b:=J8 (λk=>decide (k∉x1.map (·.1))) (x2.map (·.1))
     rw[Iu] at a b;omega
    have rp: ∀z∈z3,Rep X.K (vw H hid) (.ref z.2) (.tup (z.1.map D.int)):=λz hz=>(m3' z hz).elim (ce y1 z) (ce y2 z)
    refine⟨a3,z3,rfl,aC,λz hz=>Same.seqT S13 (ke (rp z hz)),by omega,λz hz=>(m3' z hz).elim (λh=>ne1 _ (Mf h)) λh=>ne2 _ (Mf h),λl zs' hl hm hk=>q _ _ (S13.trans (aO hl _)) (gd hl S13 ?_)⟩
    have:(aR aW (gF (x1.map (·.1)) (x2.map (·.1)))).map bD=u4 zs':=by
     rw[<-i9 P3,<-hk,I0];rfl
    rw[this];exact iq λz hz=>(rp z (hm z hz)).mono (aH S13)
   ·cases hd
  ·cases hd
end
section
variable {X:Cx}{c:Ct}{a b:Expr}{pos:Pos}
theorem Gz {α:Type}{e:Expr}{t:α->TT}(h: ∀z,PW X e (t z)):PW X e (λσ H Q=> ∃z,t z σ H Q):=λwh aa s σ H Q I ⟨z,q⟩=>h z wh aa s σ H Q I q
def rG(p:GT)(q:FT):GT:=λρ=>(p ρ).bind λz=>if z.1=true then(q z.2).map λd=>(d,z.2) else some (false,z.2)
theorem Bq {p:GT}{q:FT}(ha:Ee X c a p)(hb:DT X c b q):Ee X c (.BoolOp .And [a,b] pos) (rG p q):=λhid ρ=>
 PT.imp (PW.pt (pw_and (ha hid ρ) (Gz λρ1=>pw_and1 (hb hid ρ1)))) λσ H Q hq_=>by
  obtain⟨sr,d,ρ',hd,hq⟩:=hq_
  unfold rG at hd;obtain⟨⟨x,ρ1⟩,e1,hd⟩:=IS.mp hd
  refine⟨sr,x,ρ1,e1,λH1 k1 s1=>?_⟩
  cases x with
  |true=>
   rw[if_pos rfl] at hd;obtain⟨w,e2,hd⟩:=JR.mp hd
   cases hd
   exact t9 ⟨ρ1,s1,_,e2,λH2 s2=>hq H2 (Kept.trans k1 (Kept.of s2)) (s1.ext s2)⟩
  |false=>
   cases hd
   exact uL (hq H1 k1 s1)
theorem Ej {p:GT}{q:FT}{ρ ρ':az}{b:Bool}(h:p ρ=some (true,ρ'))(h2:q ρ'=some b):rG p q ρ=some (b,ρ'):=by unfold rG;rw[h,Iw,if_pos rfl,h2];rfl
theorem Dz {p:GT}{q:FT}{ρ ρ':az}(h:p ρ=some (false,ρ')):rG p q ρ=some (false,ρ'):=by unfold rG;rw[h,Iw];rfl
end
set_option maxHeartbeats 4000000
def kQ(i:Nat):Stmt:=PX.main.body.getD i (.Pass ⟨0,0,0,0⟩)
structure Bt(mg:Str->Option Il):Prop where
 b_abs:mg "abs"=none
 b_all:mg "all"=none
 b_any:mg "any"=none
 b_isinstance:mg "isinstance"=none
 b_len:mg "len"=none
 b_list:mg "list"=none
 b_min:mg "min"=none
 b_range:mg "range"=none
 b_set:mg "set"=none
 b_sorted:mg "sorted"=none
 b_tuple:mg "tuple"=none
theorem Hb:(["size","start","end","further"]:List Str).Nodup:=by decide+kernel
theorem Fx:(["stand","a","b","rows","column","row"]:List Str).Nodup:=by decide+kernel
theorem G1:(["stand","a","b","bars","heights","bar"]:List Str).Nodup:=by decide+kernel
theorem GD:(["square","stand","a","b","rings","crosses","marked","column","row"]:List Str).Nodup:=by decide+kernel
theorem Fy:(["square","stand","bars","a","b"]:List Str).Nodup:=by decide+kernel
theorem BM:(["square","crowd","stand","a","b","end"]:List Str).Nodup:=by decide+kernel
theorem G0:(["_law_bag_here","_law_n","_law_plain","_law_by","_law_rings","_law_crosses","_law_c","_law_d","_law_row"]:List Str).Nodup:=by decide+kernel
theorem Hn:(["_law_n","_law_found","_law_bar","_law_longer","_law_begun","_law_height"]:List Str).Nodup:=by decide+kernel
theorem G7:(["_law_square_here","_law_crowd_here","_law_odd","?_law_stand","_law_a","_law_b","_law_heights","_law_stand"]:List Str).Nodup:=by decide+kernel
theorem G3:(["_law_square_here","_law_one","_law_other","_law_handed","_law_due","_law_found","_law_both","_law_stand"]:List Str).Nodup:=by decide+kernel
section
variable {P:Jf}{w:Jr}{K:Iz}{mg:Str->Option Il}{base:Heap}
abbrev be:Stmt:=kQ 1
abbrev bN:Stmt:=kQ 3
abbrev cb:Stmt:=kQ 4
abbrev dY:Stmt:=kQ 5
abbrev cZ:Stmt:=kQ 6
abbrev ft:Stmt:=kQ 7
abbrev dX:Stmt:=kQ 8
abbrev db:Stmt:=kQ 9
abbrev dM:Stmt:=kQ 10
abbrev bZ:Stmt:=kQ 11
abbrev gP:Stmt:=kQ 13
abbrev bO:Stmt:=kQ 14
abbrev fJ:Stmt:=kQ 15
abbrev cX:Stmt:=kQ 17
abbrev dO:Stmt:=kQ 18
abbrev cY:Stmt:=kQ 19
abbrev cy:Stmt:=kQ 20
abbrev bW:Stmt:=kQ 21
abbrev dN:Stmt:=kQ 22
abbrev cu:Stmt:=kQ 23
abbrev dh:Stmt:=kQ 24
abbrev bX:Stmt:=kQ 25
abbrev cv:Stmt:=kQ 26
abbrev jh:Stmt:=kQ 27
theorem sc_order_exchanged:FnScope ["order","one","other","numbers"] ["order","one","other"] (ai be):=⟨rfl,rfl,rfl,by decide+kernel,rfl,by decide+kernel,by decide+kernel⟩
def j3:FS:=
 ax (du 3 (ak j5 (ab (ag 0) (ah))))
 (ax (eR (gT 2 (iH (bH 3 (ag 1)) (iH (bH 3 (ag 2)) (mG)))) (pu (dr (ab (aj bd (ag 0) (ag 2)) (ab (aj bd (ag 0) (ag 1)) (ah))))))
 (aV (ak dz (ab (cJ 3) (ah)))))
def dB:List D->Option D:=gm .s 4 j3
theorem kb(B:Bt mg)(F:Df K mg "order_exchanged" be ["order","one","other"]):Cl P w K mg base 1 "order_exchanged" ["order","one","other"] (eS K .s 3 dB):=by
 refine bv (k:=0) F sc_order_exchanged (by decide) rfl λ_ cdv A outer s H hid E hr=>?_
 exact(am (fX 3 sc_order_exchanged.nd (dW eX mi B.b_list (ba (ae 0) br) (hv:=by kernel_rfl)))
  (am (ko (DP.ef (g8 (af (bi aP bf (ae 0) (ae 2) (λ_ _=>rfl)) (af (bi aP bf (ae 0) (ae 1) (λ_ _=>rfl)) aq)))) (pU (n:=2) rfl (gC (eU 3 (ae 1)) (gC (eU 3 (ae 2)) qx))))
  (av (aZ (dW cO jZ B.b_tuple (ba (cL 3) br) (hv:=by kernel_rfl))))))
theorem m5:FnScope ["size","start","end"] ["size","start","end"] (ai bN):=⟨rfl,rfl,rfl,by decide+kernel,rfl,by decide+kernel,by decide+kernel⟩
def oD:FS:=
 aV (bP 1 (bQ (ab (aj aS (aj dn (ag 2) (ag 1)) (ag 0)) (ah))) (gN 3) (eT) (aj aS (aj bM (ag 1) (ag 3)) (ag 0)))
def cM:List D->Option D:=gm .n 3 oD
theorem oy(B:Bt mg)(F:Df K mg "places_from" bN ["size","start","end"]):Cl P w K mg base 1 "places_from" ["size","start","end"] (eS K .n 3 cM):=by
 refine bv (k:=0) F m5 (by decide) rfl λ_ cdv A outer s H hid E hr=>?_
 exact(av (aZ (jN (N':=["size","start","end","further"]) rfl (cI (Je rfl)) (DIp.b (bV B.b_range (af (cn (jD (ae 2) (ae 1)) (ae 0)) aq))) (λ_ _ _ _=>(aI 3 Hb)) (λ_ _ _ _=>eE) (λ_ _ _ _=>(cn (fz (ae 1) (ae 3)) (ae 0))))))
theorem ot:FnScope ["stand","a","b"] ["stand","a","b"] (ai cb):=⟨rfl,rfl,rfl,by decide+kernel,rfl,by decide+kernel,by decide+kernel⟩
def pN:FS:=
 aV (ak (nF 3 cM) (ab (ak cE (ab (ag 0) (ah))) (ab (ag 1) (ab (ag 2) (ah)))))
def dv:List D->Option D:=gm .n 3 pN
theorem qa(B:Bt mg)(F:Df K mg "columns_of" cb ["stand","a","b"])(cj:Cl P w K mg base 1 "places_from" ["size","start","end"] (eS K .n 3 cM)):Cl P w K mg base 2 "columns_of" ["stand","a","b"] (eS K .n 3 dv):=by
 refine bv (k:=1) F ot (by decide) rfl λ_ cdv A outer s H hid E hr=>?_
 exact(av (aZ (bU cj (hr.mono (by decide)) (af (bo bw gY B.b_len (ba (ae 0) br) (hv:=by kernel_rfl)) (af (ae 1) (af (ae 2) aq))))))
theorem uf:FnScope ["stand","a","b"] ["stand","a","b"] (ai dY):=⟨rfl,rfl,rfl,by decide+kernel,rfl,by decide+kernel,by decide+kernel⟩
def xQ:FS:=
 aV (ak (nF 3 cM) (ab (ak cE (ab (ag 0) (ah))) (ab (aj bd (ag 0) (ag 1)) (ab (aj bd (ag 0) (ag 2)) (ah)))))
def gw:List D->Option D:=gm .n 3 xQ
theorem xc(B:Bt mg)(F:Df K mg "rows_of" dY ["stand","a","b"])(cj:Cl P w K mg base 1 "places_from" ["size","start","end"] (eS K .n 3 cM)):Cl P w K mg base 2 "rows_of" ["stand","a","b"] (eS K .n 3 gw):=by
 refine bv (k:=1) F uf (by decide) rfl λ_ cdv A outer s H hid E hr=>?_
 exact(av (aZ (bU cj (hr.mono (by decide)) (af (bo bw gY B.b_len (ba (ae 0) br) (hv:=by kernel_rfl)) (af (bi aP bf (ae 0) (ae 1) (λ_ _=>rfl)) (af (bi aP bf (ae 0) (ae 2) (λ_ _=>rfl)) aq))))))
theorem sc_cells_of:FnScope ["stand","a","b","rows"] ["stand","a","b"] (ai cZ):=⟨rfl,rfl,rfl,by decide+kernel,rfl,by decide+kernel,by decide+kernel⟩
def uF:FS:=
 ax (bj 3 (ak (nF 3 gw) (ab (ag 0) (ab (ag 1) (ab (ag 2) (ah))))))
 (aV (ak gL (ab (ly 2 (fM (ak (nF 3 dv) (ab (ag 0) (ab (ag 1) (ab (ag 2) (ah)))))) (gN 4) (eT) (fM (ag 3)) (gN 5) (eT) (dr (ab (ag 4) (ab (ag 5) (ah))))) (ah))))
def jz:List D->Option D:=gm .n 4 uF
theorem u7(B:Bt mg)(F:Df K mg "cells_of" cZ ["stand","a","b"])(eZ:Cl P w K mg base 2 "rows_of" ["stand","a","b"] (eS K .n 3 gw))(cD:Cl P w K mg base 2 "columns_of" ["stand","a","b"] (eS K .n 3 dv)):Cl P w K mg base 3 "cells_of" ["stand","a","b"] (eS K .n 3 jz):=by
 refine bv (k:=2) F sc_cells_of (by decide) rfl λ_ cdv A outer s H hid E hr=>?_
 exact(am (bA 3 sc_cells_of.nd (DP.toS (bU eZ (hr.mono (by decide)) (af (ae 0) (af (ae 1) (af (ae 2) aq))))))
  (av (aZ (bo lQ oG B.b_sorted (ba (nR (N':=["stand","a","b","rows","column","row"]) rfl 5 (cI (Je rfl)) (D3 (Je rfl)) (cI (Je rfl)) (DIp.b (fB (DP.toS (bU cD (hr.mono (by decide)) (af (ae 0) (af (ae 1) (af (ae 2) aq))))))) (λ_ _ _ _=>(aI 4 Fx)) (λ_ _ _ _=>eE) (λ_ _ _ _=>(fB (ae 3))) (λ_ _ _ _=>(aI 5 Fx)) (λ_ _ _ _=>eE) (λ_ _ _ _=>(g8 (af (ae 4) (af (ae 5) aq))))) br) (hv:=by kernel_rfl)))))
theorem wL:FnScope ["stand","a","b"] ["stand","a","b"] (ai ft):=⟨rfl,rfl,rfl,by decide+kernel,rfl,by decide+kernel,by decide+kernel⟩
def yT:FS:=
 aV (ak (nF 3 dB) (ab (ag 0) (ab (ag 1) (ab (ag 2) (ah)))))
def mI:List D->Option D:=gm .s 3 yT
theorem AD(B:Bt mg)(F:Df K mg "behind" ft ["stand","a","b"])(dH:Cl P w K mg base 1 "order_exchanged" ["order","one","other"] (eS K .s 3 dB)):Cl P w K mg base 2 "behind" ["stand","a","b"] (eS K .s 3 mI):=by
 refine bv (k:=1) F wL (by decide) rfl λ_ cdv A outer s H hid E hr=>?_
 exact(av (aZ (bU dH (hr.mono (by decide)) (af (ae 0) (af (ae 1) (af (ae 2) aq))))))
theorem sc_is_bare:FnScope ["stand","a","b","bars","heights"] ["stand","a","b"] (ai dX):=⟨rfl,rfl,rfl,by decide+kernel,rfl,by decide+kernel,by decide+kernel⟩
def xI:FS:=
 ax (bj 3 (tF (ak (nF 3 dv) (ab (ag 0) (ab (ag 1) (ab (ag 2) (ah))))) (EF (aE (.int 1))) Fi))
 (ax (bj 4 (tF (ak (nF 3 gw) (ab (ag 0) (ab (ag 1) (ab (ag 2) (ah))))) (EF (aE (.int 1))) Fi))
 (aV (tm (je (bx (ak ug (ab (bP 1 (fM (ag 3)) (gN 5) (eT) (aj (lW false) (aj bd (ag 0) (ag 5)) (ag 4))) (ah))))))))
def kq:List D->Option D:=gm .s 5 xI
theorem wZ(B:Bt mg)(F:Df K mg "is_bare" dX ["stand","a","b"])(cD:Cl P w K mg base 2 "columns_of" ["stand","a","b"] (eS K .n 3 dv))(eZ:Cl P w K mg base 2 "rows_of" ["stand","a","b"] (eS K .n 3 gw)):Cl P w K mg base 3 "is_bare" ["stand","a","b"] (eS K .s 3 kq):=by
 refine bv (k:=2) F sc_is_bare (by decide) rfl λ_ cdv A outer s H hid E hr=>?_
 exact(am (bA 3 sc_is_bare.nd (DP.toS (ym (bU cD (hr.mono (by decide)) (af (ae 0) (af (ae 1) (af (ae 2) aq)))) (vE au) vo)))
  (am (bA 4 sc_is_bare.nd (DP.toS (ym (bU eZ (hr.mono (by decide)) (af (ae 0) (af (ae 1) (af (ae 2) aq)))) (vE au) vo)))
  (av (aZ (uQ (bo (rE rfl) zD B.b_any (ba (jN (N':=["stand","a","b","bars","heights","bar"]) rfl (cI (Je rfl)) (DIp.b (fB (ae 3))) (λ_ _ _ _=>(aI 5 G1)) (λ_ _ _ _=>eE) (λ_ _ _ _=>(qr (As hr.units) (wA false) (bi aP bf (ae 0) (ae 5) (λ_ _=>rfl)) (ae 4) (by with_unfolding_all rfl)))) br) (hv:=by kernel_rfl)))))))
theorem sc_is_clear:FnScope ["square","stand","a","b","rings","crosses","marked"] ["square","stand","a","b"] (ai db):=⟨rfl,rfl,rfl,by decide+kernel,rfl,by decide+kernel,by decide+kernel⟩
def uD:FS:=
 ax (eR (gT 2 (iH (gN 4) (iH (gN 5) (mG)))) (pu (ag 0)))
 (ax (bj 6 (bP 2 (fM (ak (nF 3 jz) (ab (ag 1) (ab (ag 2) (ab (ag 3) (ah)))))) (gT 2 (iH (gN 7) (iH (gN 8) (mG)))) (eT) (aj (lW false) (ag 8) (dr (ab (aj bd (ag 4) (ag 7)) (ab (aj bd (ag 5) (ag 7)) (ah)))))))
 (aV (tm (je (bx (ak ug (ab (ag 6) (ah))))))))
def jG:List D->Option D:=gm .s 7 uD
theorem tU(B:Bt mg)(F:Df K mg "is_clear" db ["square","stand","a","b"])(jC:Cl P w K mg base 3 "cells_of" ["stand","a","b"] (eS K .n 3 jz)):Cl P w K mg base 4 "is_clear" ["square","stand","a","b"] (eS K .s 4 jG):=by
 refine bv (k:=3) F sc_is_clear (by decide) rfl λ_ cdv A outer s H hid E hr=>?_
 exact(am (Es (DP.ef (ae 0)) (ql (n:=2) rfl (fC (aI 4 sc_is_clear.nd) (fC (aI 5 sc_is_clear.nd) pX))))
  (am (A3 6 (N':=["square","stand","a","b","rings","crosses","marked","column","row"]) rfl sc_is_clear.nd (yV (fq (cI (Je rfl)) (fq (cI (Je rfl)) pg))) (DIp.b (fB (DP.toS (bU jC (hr.mono (by decide)) (af (ae 1) (af (ae 2) (af (ae 3) aq))))))) (λ_ _ _ _=>(ql (n:=2) rfl (fC (aI 7 GD) (fC (aI 8 GD) pX)))) (λ_ _ _ _=>eE) (λ_ _ _ _=>(qr (As hr.units) (wA false) (ae 8) (g8 (af (bi aP bf (ae 4) (ae 7) (λ_ _=>rfl)) (af (bi aP bf (ae 5) (ae 7) (λ_ _=>rfl)) aq))) (by with_unfolding_all rfl))))
  (av (aZ (uQ (bo (rE rfl) zD B.b_any (ba (ae 6) br) (hv:=by kernel_rfl)))))))
theorem uO:FnScope ["square","stand","a","b"] ["square","stand","a","b"] (ai dM):=⟨rfl,rfl,rfl,by decide+kernel,rfl,by decide+kernel,by decide+kernel⟩
def wR:FS:=
 aV (tm (fQ (bx (ak (nF 3 kq) (ab (ag 1) (ab (ag 2) (ab (ag 3) (ah)))))) (bx (ak (nF 4 jG) (ab (ag 0) (ab (ag 1) (ab (ag 2) (ab (ag 3) (ah)))))))))
def lu:List D->Option D:=gm .s 4 wR
theorem xn(B:Bt mg)(F:Df K mg "is_step" dM ["square","stand","a","b"])(kX:Cl P w K mg base 3 "is_bare" ["stand","a","b"] (eS K .s 3 kq))(jH:Cl P w K mg base 4 "is_clear" ["square","stand","a","b"] (eS K .s 4 jG)):Cl P w K mg base 5 "is_step" ["square","stand","a","b"] (eS K .s 4 lu):=by
 refine bv (k:=4) F uO (by decide) rfl λ_ cdv A outer s H hid E hr=>?_
 exact(av (aZ (Aq (bU kX (hr.mono (by decide)) (af (ae 1) (af (ae 2) (af (ae 3) aq)))) (y9 (bU jH (hr.mono (by decide)) (af (ae 0) (af (ae 1) (af (ae 2) (af (ae 3) aq)))))))))
theorem sc_steps_from:FnScope ["square","stand","bars"] ["square","stand"] (ai bZ):=⟨rfl,rfl,rfl,by decide+kernel,rfl,by decide+kernel,by decide+kernel⟩
def qz:FS:=
 ax (bj 2 (xX (ak cE (ab (ag 1) (ah)))))
 (aV (ly 2 (fM (ag 2)) (gN 3) (eT) (fM (ag 2)) (gN 4) (fQ (bx (aj qW (ag 3) (ag 4))) (kr (ak (nF 4 lu) (ab (ag 0) (ab (ag 1) (ab (ag 3) (ab (ag 4) (ah)))))))) (dr (ab (ag 3) (ab (ag 4) (ab (ak (nF 3 mI) (ab (ag 1) (ab (ag 3) (ab (ag 4) (ah))))) (ah)))))))
def g7:List D->Option D:=gm .n 3 qz
theorem qc(B:Bt mg)(F:Df K mg "steps_from" bZ ["square","stand"])(nJ:Cl P w K mg base 2 "behind" ["stand","a","b"] (eS K .s 3 mI))(kU:Cl P w K mg base 5 "is_step" ["square","stand","a","b"] (eS K .s 4 lu)):Cl P w K mg base 6 "steps_from" ["square","stand"] (eS K .n 2 g7):=by
 refine bv (k:=5) F sc_steps_from (by decide) rfl λ_ cdv A outer s H hid E hr=>?_
 exact(am (bA 2 sc_steps_from.nd (DP.toS (gb rfl B.b_list B.b_range (bo bw gY B.b_len (ba (ae 1) br) (hv:=by kernel_rfl)))))
  (av (aZ (nR (N':=["square","stand","bars","a","b"]) rfl 4 (cI (Je rfl)) (D3 (Je rfl)) (cI (Je rfl)) (DIp.b (fB (ae 2))) (λ_ _ _ _=>(aI 3 Fy)) (λ_ _ _ _=>eE) (λ_ _ _ _=>(fB (ae 2))) (λ_ _ _ _=>(aI 4 Fy)) (λ_ _ _ _=>(qN (DW.dt (vb (cr (nV hr.units) tq (ae 3) (ae 4) (ck _)) (pT (nY (bU kU (hr.mono (by decide)) (af (ae 0) (af (ae 1) (af (ae 3) (af (ae 4) aq))))))))))) (λ_ _ _ _=>(g8 (af (ae 3) (af (ae 4) (af (bU nJ (hr.mono (by decide)) (af (ae 1) (af (ae 3) (af (ae 4) aq)))) aq)))))))))
theorem yk:FnScope ["one","other"] ["one","other"] (ai gP):=⟨rfl,rfl,rfl,by decide+kernel,rfl,by decide+kernel,by decide+kernel⟩
def qA:FS:=
 aV (En 0 1)
def gW:List D->Option D:=gm .n 2 qA
theorem Bf(B:Bt mg)(F:Df K mg "added" gP ["one","other"]):Cl P w K mg base 1 "added" ["one","other"] (eS K .n 2 gW):=by
 refine bv (k:=0) F yk (by decide) rfl λ_ cdv A outer s H hid E hr=>?_
 exact(av (aZ (wY 0 1 rfl (B7 hr) B.b_sorted B.b_set)))
theorem sc_oddly_often:FnScope ["stands","odd","stand"] ["stands"] (ai bO):=⟨rfl,rfl,rfl,by decide+kernel,rfl,by decide+kernel,by decide+kernel⟩
def fZ:FS:=
 ax (CY 1)
 (ax (dE (bT (kC (ag 0))) (gN 2) (fP (x6 1 (ag 2)) (cH (rn lM 1 (ag 2))) (cH (rn jT 1 (ag 2)))))
 (aV (yd 1)))
def en:List D->Option D:=gm .n 3 fZ
theorem oo(B:Bt mg)(F:Df K mg "oddly_often" bO ["stands"]):Cl P w K mg base 1 "oddly_often" ["stands"] (eS K .n 1 en):=by
 refine bv (k:=0) F sc_oddly_often (by decide) rfl λ_ cdv A outer s H hid E hr=>?_
 exact(am (BL 1 sc_oddly_often.nd B.b_set)
  (am (fK Kw rfl (DIp.e (iX (ae 0))) (aI 2 sc_oddly_often.nd) (av (hZ (Ci 1 (oE hr) (ae 2)) (av (iQ (CI 1 (oE hr) (ae 2)))) (av (iQ (Cc 1 (oE hr) (ae 2)))))))
  (av (aZ (Ag 1 rfl B.b_sorted)))))
theorem xp:FnScope ["square","crowd"] ["square","crowd"] (ai fJ):=⟨rfl,rfl,rfl,by decide+kernel,rfl,by decide+kernel,by decide+kernel⟩
def mD:FS:=
 aV (ak (nF 1 en) (ab (ly 4 (kC (ag 1)) (gN 2) (eT) (kC (ak (nF 2 g7) (ab (ag 0) (ab (ag 2) (ah))))) (gT 3 (iH (gN 3) (iH (gN 4) (iH (gN 5) (mG))))) (eT) (ag 5)) (ah)))
def cB:List D->Option D:=gm .n 2 mD
theorem AO(B:Bt mg)(F:Df K mg "border" fJ ["square","crowd"])(ge:Cl P w K mg base 1 "oddly_often" ["stands"] (eS K .n 1 en))(gU:Cl P w K mg base 6 "steps_from" ["square","stand"] (eS K .n 2 g7)):Cl P w K mg base 7 "border" ["square","crowd"] (eS K .n 2 cB):=by
 refine bv (k:=6) F xp (by decide) rfl λ_ cdv A outer s H hid E hr=>?_
 exact(av (aZ (bU ge (hr.mono (by decide)) (af (DP.toS (nR (N':=["square","crowd","stand","a","b","end"]) rfl 3 (cI (Je rfl)) (D3 (Je rfl)) (yV (fq (cI (Je rfl)) (fq (cI (Je rfl)) (fq (cI (Je rfl)) pg)))) (DIp.b (iX (ae 1))) (λ_ _ _ _=>(aI 2 BM)) (λ_ _ _ _=>eE) (λ_ _ _ _=>(iX (DP.toS (bU gU (hr.mono (by decide)) (af (ae 0) (af (ae 2) aq)))))) (λ_ _ _ _=>(ql (n:=3) rfl (fC (aI 3 BM) (fC (aI 4 BM) (fC (aI 5 BM) pX))))) (λ_ _ _ _=>eE) (λ_ _ _ _=>(ae 5)))) aq))))
theorem sf:FnScope ["_law_script","_law_k"] ["_law_script","_law_k"] (ai cX):=⟨rfl,rfl,rfl,by decide+kernel,rfl,by decide+kernel,by decide+kernel⟩
def vd:FS:=
 ax (fP (bx (aj n4 (ag 1) (ak cE (ab (ag 0) (ah))))) (aV (aj bd (ag 0) (ag 1))) (skip))
 (aV (aE (.int 0)))
def jE:List D->Option D:=gm .s 2 vd
theorem uc(B:Bt mg)(F:Df K mg "_law_cell" cX ["_law_script","_law_k"]):Cl P w K mg base 1 "_law_cell" ["_law_script","_law_k"] (eS K .s 2 jE):=by
 refine bv (k:=0) F sf (by decide) rfl λ_ cdv A outer s H hid E hr=>?_
 exact(am (hZ (cr sN mP (ae 1) (bo bw gY B.b_len (ba (ae 0) br) (hv:=by kernel_rfl)) (ck _)) (av (aZ (bi aP bf (ae 0) (ae 1) (λ_ _=>rfl)))) cG)
  (av (aZ au)))
theorem sc_law_bag:FnScope ["_law_script","_law_at","_law_cell_here","_law_mix","_law_k"] ["_law_script","_law_at"] (ai dO):=⟨rfl,rfl,rfl,by decide+kernel,rfl,by decide+kernel,by decide+kernel⟩
def xq:FS:=
 ax (bj 2 (aj aS (ak sM (ab (ak (nF 2 jE) (ab (ag 0) (ab (ag 1) (ah)))) (ah))) (aj dG (aj dG (aj dD (aE (.int 10)) (aE (.int 60))) (aj dD (aE (.int 10)) (aE (.int 60)))) (aj dD (aE (.int 10)) (aE (.int 60))))))
 (ax (fP (bx (aj GQ (ag 2) (aj dD (aE (.int 10)) (aE (.int 18))))) (aV (di (ab (ag 2) (ab (aE (.int 0)) (ah))))) (skip))
 (ax (bj 3 (aj aS (aj bM (aj bM (ag 2) (aj dG (aE (.int 7919)) (ag 1))) (aE (.int 17))) (aE (.int 2147483647))))
 (ax (dE (bT (bQ (ab (ak nH (ab (ak cE (ab (ag 0) (ah))) (ab (aE (.int 9)) (ah)))) (ah)))) (gN 4) (bj 3 (aj aS (aj bM (aj bM (aj dD (ag 3) (aE (.int 5))) (aj aS (aj bd (ag 0) (ag 4)) (aE (.int 2147483629)))) (aj dG (aE (.int 31)) (ag 4))) (aE (.int 2147483647)))))
 (aV (di (ab (ag 3) (ab (aE (.int 1)) (ah))))))))
def kN:List D->Option D:=gm .n 5 xq
theorem xF(B:Bt mg)(F:Df K mg "_law_bag" dO ["_law_script","_law_at"])(jA:Cl P w K mg base 1 "_law_cell" ["_law_script","_law_k"] (eS K .s 2 jE)):Cl P w K mg base 2 "_law_bag" ["_law_script","_law_at"] (eS K .n 2 kN):=by
 refine bv (k:=1) F sc_law_bag (by decide) rfl λ_ cdv A outer s H hid E hr=>?_
 exact(am (bA 2 sc_law_bag.nd (cn (bo zX Eu B.b_abs (ba (bU jA (hr.mono (by decide)) (af (ae 0) (af (ae 1) aq))) br) (hv:=by kernel_rfl)) (kM (kM (kx au au) (kx au au)) (kx au au))))
  (am (hZ (cr Fn mP (ae 2) (kx au au) (ck _)) (av (aZ (ga (af (ae 2) (af au aq))))) cG)
  (am (bA 3 sc_law_bag.nd (cn (fz (fz (ae 2) (kM au (ae 1))) au) au))
  (am (fK Kw rfl (DIp.e (bV B.b_range (af (bo (wV rfl) CH B.b_min (ba (bo bw gY B.b_len (ba (ae 0) br) (hv:=by kernel_rfl)) (ba au br)) (hv:=by kernel_rfl)) aq))) (aI 4 sc_law_bag.nd) (av (bA 3 sc_law_bag.nd (cn (fz (fz (kx (ae 3) au) (cn (bi aP bf (ae 0) (ae 4) (λ_ _=>rfl)) au)) (kM au (ae 4))) au))))
  (av (aZ (ga (af (ae 3) (af au aq)))))))))
theorem sc_law_take:FnScope ["_law_bag_here","_law_many","_law_digit"] ["_law_bag_here","_law_many"] (ai cY):=⟨rfl,rfl,rfl,by decide+kernel,rfl,by decide+kernel,by decide+kernel⟩
def u6:FS:=
 ax (fP (bx (aj qZ (aj bd (cJ 0) (aE (.int 1))) (aE (.int 0)))) (ax (bj 2 (aj aS (aj bd (cJ 0) (aE (.int 0))) (ag 1)))
 (ax (eR (bH 0 (aE (.int 0))) (pu (aj jR (aj bd (cJ 0) (aE (.int 0))) (ag 1))))
 (aV (ag 2)))) (skip))
 (ax (eR (bH 0 (aE (.int 0))) (pu (aj aS (aj bM (aj bM (aj dD (aj bd (cJ 0) (aE (.int 0))) (aE (.int 5))) (aj dG (aE (.int 48271)) (aj bd (cJ 0) (aE (.int 1))))) (aE (.int 11))) (aE (.int 2147483647)))))
 (ax (eR (bH 0 (aE (.int 1))) (pu (aj bM (aj bd (cJ 0) (aE (.int 1))) (aE (.int 1)))))
 (aV (aj aS (aj jR (aj aS (aj dG (aj bd (cJ 0) (aE (.int 0))) (aE (.int 69621))) (aE (.int 2147483629))) (aE (.int 8))) (ag 1)))))
def aU:List D->List D->Option (D×List D):=tR .s 3 u6
theorem u5(B:Bt mg)(F:Df K mg "_law_take" cY ["_law_bag_here","_law_many"]):Cl P w K mg base 1 "_law_take" ["_law_bag_here","_law_many"] (rK K .s 1 aU):=by
 refine qJ (k:=0) F sc_law_take (by decide) rfl λ_ cdv A outer s H hid a E hr=>?_
 exact(am (hZ (cr (kJ hr.units) oR (bi aP bf (cL 0) au (λ_ _=>rfl)) au (ck _)) (am (bA 2 sc_law_take.nd (cn (bi aP bf (cL 0) au (λ_ _=>rfl)) (ae 1)))
  (am (ko (DP.ef (vy (bi aP bf (cL 0) au (λ_ _=>rfl)) (ae 1))) (eU 0 au))
  (av (aZ (ae 2))))) cG)
  (am (ko (DP.ef (cn (fz (fz (kx (bi aP bf (cL 0) au (λ_ _=>rfl)) au) (kM au (bi aP bf (cL 0) au (λ_ _=>rfl)))) au) au)) (eU 0 au))
  (am (ko (DP.ef (fz (bi aP bf (cL 0) au (λ_ _=>rfl)) au)) (eU 0 au))
  (av (aZ (cn (vy (cn (kM (bi aP bf (cL 0) au (λ_ _=>rfl)) au) au) au) (ae 1)))))))
theorem sc_law_order:FnScope ["_law_bag_here","_law_n","_law_left","_law_found"] ["_law_bag_here","_law_n"] (ai cy):=⟨rfl,rfl,rfl,by decide+kernel,rfl,by decide+kernel,by decide+kernel⟩
def sO:FS:=
 ax (du 2 (xX (ag 1)))
 (ax (du 3 (di (ah)))
 (ax (xV (bx (aj qW (cJ 2) (di (ah)))) (cH (aN 3 1 kT (cq (aN 2 1 oA (cq (aN 0 1 aU (bT (ab (ak cE (ab (cJ 2) (ah))) (ah)))) (bT (ah)))) (bT (ah))))) 16)
 (AJ 3)))
def bI:List D->List D->Option (D×List D):=tR .n 4 sO
theorem sU(B:Bt mg)(F:Df K mg "_law_order" cy ["_law_bag_here","_law_n"])(bh:Cl P w K mg base 1 "_law_take" ["_law_bag_here","_law_many"] (rK K .s 1 aU)):Cl P w K mg base 2 "_law_order" ["_law_bag_here","_law_n"] (rK K .n 1 bI):=by
 refine qJ (k:=1) F sc_law_order (by decide) rfl λ_ cdv A outer s H hid a E hr=>?_
 exact(am (fX 2 sc_law_order.nd (gb rfl B.b_list B.b_range (ae 1)))
  (am (fX 3 sc_law_order.nd (ga aq))
  (am (AN 16 Kw (cr (nV hr.units) tq (cL 2) (ga aq) (ck _)) (av (iQ (my 3 kH gp Nc Nd (hW (my 2 Ep z7 PySem.F.slot_list_pop PySem.F.type_list_pop (hW (hX 0 bh (hr.mono (by decide)) (DA.gf (af (bo bw gY B.b_len (ba (cL 2) br) (hv:=by kernel_rfl)) aq))) (DA.gf aq))) (DA.gf aq))))))
  (av (Cf 3)))))
theorem sc_law_square:FnScope ["_law_bag_here","_law_n","_law_plain","_law_by","_law_rings","_law_crosses","_law_c","_law_d"] ["_law_bag_here","_law_n"] (ai bW):=⟨rfl,rfl,rfl,by decide+kernel,rfl,by decide+kernel,by decide+kernel⟩
def pP:FS:=
 ax (gZ 2 (aN 0 1 aU (bT (ab (aE (.int 4)) (ah)))))
 (ax (gZ 3 (ij bM (pu (aE (.int 1))) (aN 0 1 aU (bT (ab (aj dn (ag 1) (aE (.int 1))) (ah))))))
 (ax (gZ 4 (aN 0 1 bI (bT (ab (ag 1) (ah)))))
 (ax (ux 5 (aN 0 1 bI (bT (ab (ag 1) (ah)))))
 (ax (fP (bx (aj qZ (ag 2) (aE (.int 1)))) (ax (bj 4 (xX (ag 1)))
 (du 5 (bP 1 (kC (ag 4)) (gN 8) (eT) (aj aS (aj bM (ag 8) (ag 3)) (ag 1))))) (skip))
 (ax (dE (bT (bQ (ab (ag 1) (ah)))) (gN 6) (ax (bj 7 (aj aS (aj bM (ag 6) (aE (.int 1))) (ag 1)))
 (fP (bx (aj qZ (aj bd (cJ 5) (ag 6)) (aj bd (ag 4) (ag 6)))) (eR (gT 2 (iH (bH 5 (ag 6)) (iH (bH 5 (ag 7)) (mG)))) (pu (dr (ab (aj bd (cJ 5) (ag 7)) (ab (aj bd (cJ 5) (ag 6)) (ah)))))) (skip))))
 (aV (dr (ab (ak dz (ab (ag 4) (ah))) (ab (ak dz (ab (cJ 5) (ah))) (ah))))))))))
def gI:List D->List D->Option (D×List D):=tR .s 8 pP
theorem qj(B:Bt mg)(F:Df K mg "_law_square" bW ["_law_bag_here","_law_n"])(bh:Cl P w K mg base 1 "_law_take" ["_law_bag_here","_law_many"] (rK K .s 1 aU))(cs:Cl P w K mg base 2 "_law_order" ["_law_bag_here","_law_n"] (rK K .n 1 bI)):Cl P w K mg base 3 "_law_square" ["_law_bag_here","_law_n"] (rK K .s 1 gI):=by
 refine qJ (k:=2) F sc_law_square (by decide) rfl λ_ cdv A outer s H hid a E hr=>?_
 exact(am (i7 2 sc_law_square.nd (hX 0 bh (hr.mono (by decide)) (DA.gf (af au aq))))
  (am (i7 3 sc_law_square.nd (DQ (DP.ef au) (hX 0 bh (hr.mono (by decide)) (DA.gf (af (jD (ae 1) au) aq)))))
  (am (i7 4 sc_law_square.nd (DE.toS (hX 0 cs (hr.mono (by decide)) (DA.gf (af (ae 1) aq)))))
  (am (Cv 5 sc_law_square.nd (hX 0 cs (hr.mono (by decide)) (DA.gf (af (ae 1) aq))))
  (am (hZ (cr (kJ hr.units) oR (ae 2) au (ck _)) (am (bA 4 sc_law_square.nd (DP.toS (gb rfl B.b_list B.b_range (ae 1))))
  (av (CC 5 (N':=["_law_bag_here","_law_n","_law_plain","_law_by","_law_rings","_law_crosses","_law_c","_law_d","_law_row"]) rfl sc_law_square.nd (cI (Je rfl)) (DIp.b (iX (ae 4))) (λ_ _ _ _=>(aI 8 G0)) (λ_ _ _ _=>eE) (λ_ _ _ _=>(cn (fz (ae 8) (ae 3)) (ae 1)))))) cG)
  (am (fK Kw rfl (DIp.e (bV B.b_range (af (ae 1) aq))) (aI 6 sc_law_square.nd) (am (bA 7 sc_law_square.nd (cn (fz (ae 6) au) (ae 1)))
  (av (hZ (cr (kJ hr.units) oR (bi aP bf (cL 5) (ae 6) (λ_ _=>rfl)) (bi aP bf (ae 4) (ae 6) (λ_ _=>rfl)) (ck _)) (av (ko (DP.ef (g8 (af (bi aP bf (cL 5) (ae 7) (λ_ _=>rfl)) (af (bi aP bf (cL 5) (ae 6) (λ_ _=>rfl)) aq)))) (pU (n:=2) rfl (gC (eU 5 (ae 6)) (gC (eU 5 (ae 7)) qx))))) cG))))
  (av (aZ (g8 (af (dW cO jZ B.b_tuple (ba (ae 4) br) (hv:=by kernel_rfl)) (af (dW cO jZ B.b_tuple (ba (cL 5) br) (hv:=by kernel_rfl)) aq)))))))))))
theorem sc_law_all:FnScope ["_law_n","_law_found","_law_bar","_law_longer","_law_begun"] ["_law_n"] (ai dN):=⟨rfl,rfl,rfl,by decide+kernel,rfl,by decide+kernel,by decide+kernel⟩
def lf:FS:=
 ax (bj 1 (di (ab (dr (ah)) (ah))))
 (ax (dE (bT (bQ (ab (ag 0) (ah)))) (gN 2) (ax (du 3 (di (ah)))
 (ax (dE (bT (kC (ag 1))) (gN 4) (cH (t4 3 (bP 1 (bQ (ab (ag 0) (ah))) (gN 5) (bx (aj (lW true) (ag 5) (ag 4))) (aj mU (ag 4) (dr (ab (ag 5) (ah))))))))
 ((λρ=>(bj 1 (ag 3)) (xu 3 ρ))))))
 (aV (ag 1)))
def iS:List D->Option D:=gm .s 5 lf
theorem xH(B:Bt mg)(F:Df K mg "_law_all" dN ["_law_n"]):Cl P w K mg base 1 "_law_all" ["_law_n"] (eS K .s 1 iS):=by
 refine bv (k:=0) F sc_law_all (by decide) rfl λ_ cdv A outer s H hid E hr=>?_
 exact(QSs.to (si (Ba 1 sc_law_all.nd (DF (Bc (EN AB) AB E5)))
  (si (QS.of (fK Kw rfl (DIp.e (bV B.b_range (af (ae 0) aq))) (aI 2 sc_law_all.nd) (am (fX 3 sc_law_all.nd (ga aq))
  (am (fK Kw rfl (DIp.e (iX (ae 1))) (aI 4 sc_law_all.nd) (av (iQ (CO 3 (jN (N':=["_law_n","_law_found","_law_bar","_law_longer","_law_begun","_law_height"]) rfl (cI (Je rfl)) (DIp.b (bV B.b_range (af (ae 0) aq))) (λ_ _ _ _=>(aI 5 Hn)) (λ_ _ _ _=>(qN (cr (pi hr.units) (wA true) (ae 5) (ae 4) (by with_unfolding_all rfl)))) (λ_ _ _ _=>(CQ (ae 4) (g8 (af (ae 5) aq)))))))))
  (av (E6 3 (bA 1 sc_law_all.nd (ae 3))))))))
  (Cp (QS.of (aZ (ae 1)))))))
theorem sc_law_crowd:FnScope ["_law_bag_here","_law_n","_law_found","_law_turn","_law_stand"] ["_law_bag_here","_law_n"] (ai cu):=⟨rfl,rfl,rfl,by decide+kernel,rfl,by decide+kernel,by decide+kernel⟩
def eL:FS:=
 ax (BV (rG (xJ (ij qZ (aN 0 1 aU (bT (ab (aE (.int 8)) (ah)))) (pu (aE (.int 3))))) (bx (aj n4 (ag 1) (aE (.int 6))))) (aV (ak (nF 1 iS) (ab (ag 1) (ah)))) (skip))
 (ax (du 2 (di (ah)))
 (ax (dE (xv (cq (aN 0 1 aU (bT (ab (aE (.int 9)) (ah)))) (bT (ah)))) (gN 3) (ax (gZ 4 (gn dz (cq (aN 0 1 bI (bT (ab (ag 1) (ah)))) (bT (ah)))))
 (fP (bx (aj (lW true) (ag 4) (cJ 2))) (cH (aN 2 1 kT (bT (ab (ag 4) (ah))))) (skip))))
 (aV (ak gL (ab (cJ 2) (ah))))))
def eO:List D->List D->Option (D×List D):=tR .s 5 eL
theorem tj(B:Bt mg)(F:Df K mg "_law_crowd" cu ["_law_bag_here","_law_n"])(kL:Cl P w K mg base 1 "_law_all" ["_law_n"] (eS K .s 1 iS))(bh:Cl P w K mg base 1 "_law_take" ["_law_bag_here","_law_many"] (rK K .s 1 aU))(cs:Cl P w K mg base 2 "_law_order" ["_law_bag_here","_law_n"] (rK K .n 1 bI)):Cl P w K mg base 3 "_law_crowd" ["_law_bag_here","_law_n"] (rK K .s 1 eO):=by
 refine qJ (k:=2) F sc_law_crowd (by decide) rfl λ_ cdv A outer s H hid a E hr=>?_
 exact(am (yr (Bq (Cg (kJ hr.units) oR (hX 0 bh (hr.mono (by decide)) (DA.gf (af au aq))) (DP.ef au) (ck _)) (cr sN mP (ae 1) au (ck _))) (av (aZ (bU kL (hr.mono (by decide)) (af (ae 1) aq)))) cG)
  (am (fX 2 sc_law_crowd.nd (ga aq))
  (am (fK Kw rfl (xg B.b_range (hW (hX 0 bh (hr.mono (by decide)) (DA.gf (af au aq))) (DA.gf aq))) (aI 3 sc_law_crowd.nd) (am (i7 4 sc_law_crowd.nd (xw cO jZ B.b_tuple (hW (DE.toS (hX 0 cs (hr.mono (by decide)) (DA.gf (af (ae 1) aq)))) (DA.gf aq)) (hv:=by kernel_rfl)))
  (av (hZ (cr (pi hr.units) (wA true) (ae 4) (cL 2) (by with_unfolding_all rfl)) (av (iQ (my 2 kH gp Nc Nd (DA.gf (af (ae 4) aq))))) cG))))
  (av (aZ (DP.toS (bo lQ oG B.b_sorted (ba (cL 2) br) (hv:=by kernel_rfl))))))))
theorem sc_law_free:FnScope ["_law_square_here","_law_stand","_law_a","_law_b","_law_n","_law_high","_law_k","_law_column"] ["_law_square_here","_law_stand","_law_a","_law_b"] (ai dh):=⟨rfl,rfl,rfl,by decide+kernel,rfl,by decide+kernel,by decide+kernel⟩
def uJ:FS:=
 ax (bj 4 (ak cE (ab (ag 1) (ah))))
 (ax (bj 5 (aj aS (aj dn (aj bd (ag 1) (ag 3)) (aj bd (ag 1) (ag 2))) (ag 4)))
 (ax (dE (bT (bQ (ab (aj aS (aj dn (ag 3) (ag 2)) (ag 4)) (ah)))) (gN 6) (ax (bj 7 (aj aS (aj bM (ag 2) (ag 6)) (ag 4)))
 (ax (fP (fQ (bx (aj Ex (ag 6) (aE (.int 0)))) (bx (aj n4 (aj aS (aj dn (aj bd (ag 1) (ag 7)) (aj bd (ag 1) (ag 2))) (ag 4)) (ag 5)))) (aV (aE (.bl false))) (skip))
 (fP (wt (bx (aj n4 (aj aS (aj dn (aj bd (aj bd (ag 0) (aE (.int 0))) (ag 7)) (aj bd (ag 1) (ag 2))) (ag 4)) (ag 5))) (bx (aj n4 (aj aS (aj dn (aj bd (aj bd (ag 0) (aE (.int 1))) (ag 7)) (aj bd (ag 1) (ag 2))) (ag 4)) (ag 5)))) (aV (aE (.bl false))) (skip)))))
 (aV (aE (.bl true)))))
def fG:List D->Option D:=gm .s 8 uJ
theorem uo(B:Bt mg)(F:Df K mg "_law_free" dh ["_law_square_here","_law_stand","_law_a","_law_b"]):Cl P w K mg base 1 "_law_free" ["_law_square_here","_law_stand","_law_a","_law_b"] (eS K .s 4 fG):=by
 refine bv (k:=0) F sc_law_free (by decide) rfl λ_ cdv A outer s H hid E hr=>?_
 exact(am (bA 4 sc_law_free.nd (bo bw gY B.b_len (ba (ae 1) br) (hv:=by kernel_rfl)))
  (am (bA 5 sc_law_free.nd (cn (jD (bi aP bf (ae 1) (ae 3) (λ_ _=>rfl)) (bi aP bf (ae 1) (ae 2) (λ_ _=>rfl))) (ae 4)))
  (am (fK Kw rfl (DIp.e (bV B.b_range (af (cn (jD (ae 3) (ae 2)) (ae 4)) aq))) (aI 6 sc_law_free.nd) (am (bA 7 sc_law_free.nd (cn (fz (ae 2) (ae 6)) (ae 4)))
  (am (hZ (DW.dt (vb (cr Gy mP (ae 6) au (ck _)) (pT (cr sN mP (cn (jD (bi aP bf (ae 1) (ae 7) (λ_ _=>rfl)) (bi aP bf (ae 1) (ae 2) (λ_ _=>rfl))) (ae 4)) (ae 5) (ck _))))) (av (aZ lU)) cG)
  (av (hZ (DW.dt (zh (cr sN mP (cn (jD (bi aP bf (bi aP bf (ae 0) au (λ_ _=>rfl)) (ae 7) (λ_ _=>rfl)) (bi aP bf (ae 1) (ae 2) (λ_ _=>rfl))) (ae 4)) (ae 5) (ck _)) (yZ (cr sN mP (cn (jD (bi aP bf (bi aP bf (ae 0) au (λ_ _=>rfl)) (ae 7) (λ_ _=>rfl)) (bi aP bf (ae 1) (ae 2) (λ_ _=>rfl))) (ae 4)) (ae 5) (ck _))))) (av (aZ lU)) cG)))))
  (av (aZ lU)))))
theorem sc_law_border:FnScope ["_law_square_here","_law_crowd_here","_law_odd","_law_stand","_law_a","_law_b","_law_heights"] ["_law_square_here","_law_crowd_here"] (ai bX):=⟨rfl,rfl,rfl,by decide+kernel,rfl,by decide+kernel,by decide+kernel⟩
def gJ:FS:=
 ax (Di 2)
 (ax (dE (bT (kC (ag 1))) (gN 3) (dE (bT (bQ (ab (ak cE (ab (ag 3) (ah))) (ah)))) (gN 4) (dE (bT (bQ (ab (ak cE (ab (ag 3) (ah))) (ah)))) (gN 5) (fP (fQ (bx (aj qW (ag 4) (ag 5))) (kr (ak (nF 4 fG) (ab (ag 0) (ab (ag 3) (ab (ag 4) (ab (ag 5) (ah)))))))) (ax (du 6 (ak j5 (ab (ag 3) (ah))))
 (ax (eR (gT 2 (iH (bH 6 (ag 4)) (iH (bH 6 (ag 5)) (mG)))) (pu (dr (ab (aj bd (ag 3) (ag 5)) (ab (aj bd (ag 3) (ag 4)) (ah))))))
 (oH 2 (gh (cJ 6)) (tm (je (bx (nA 2 (gh (cJ 6)) (aE (.bl false))))))))) (skip)))))
 ((λρ=>(aV (ak m7 (ab (bP 1 (v9 2) (gN 7) (kr (CM 2 (ag 7))) (ag 7)) (ah)))) (A9 2 ρ))))
def dw:List D->Option D:=gm .n 7 gJ
theorem qP(B:Bt mg)(F:Df K mg "_law_border" bX ["_law_square_here","_law_crowd_here"])(jr:Cl P w K mg base 1 "_law_free" ["_law_square_here","_law_stand","_law_a","_law_b"] (eS K .s 4 fG)):Cl P w K mg base 2 "_law_border" ["_law_square_here","_law_crowd_here"] (eS K .n 2 dw):=by
 refine bv (k:=1) F sc_law_border (by decide) rfl λ_ cdv A outer s H hid E hr=>?_
 exact(am (zf 2 sc_law_border.nd)
  (am (fK Kw rfl (DIp.e (iX (ae 1))) (aI 3 sc_law_border.nd) (av (fK Kw rfl (DIp.e (bV B.b_range (af (bo bw gY B.b_len (ba (ae 3) br) (hv:=by kernel_rfl)) aq))) (aI 4 sc_law_border.nd) (av (fK Kw rfl (DIp.e (bV B.b_range (af (bo bw gY B.b_len (ba (ae 3) br) (hv:=by kernel_rfl)) aq))) (aI 5 sc_law_border.nd) (av (hZ (DW.dt (vb (cr (nV hr.units) tq (ae 4) (ae 5) (ck _)) (pT (nY (bU jr (hr.mono (by decide)) (af (ae 0) (af (ae 3) (af (ae 4) (af (ae 5) aq))))))))) (am (fX 6 sc_law_border.nd (dW eX mi B.b_list (ba (ae 3) br) (hv:=by kernel_rfl)))
  (am (ko (DP.ef (g8 (af (bi aP bf (ae 3) (ae 5) (λ_ _=>rfl)) (af (bi aP bf (ae 3) (ae 4) (λ_ _=>rfl)) aq)))) (pU (n:=2) rfl (gC (eU 6 (ae 4)) (gC (eU 6 (ae 5)) qx))))
  (av (zv 2 (oE hr) (rq (cL 6) B.b_tuple) (uQ (zY 2 (oE hr) (rq (cL 6) B.b_tuple) lU ⟨rfl,rfl,rfl,rfl⟩)))))) cG)))))))
  (av (A0 2 (aZ (bo oj r8 B.b_sorted (ba (jN (N':=["_law_square_here","_law_crowd_here","_law_odd","?_law_stand","_law_a","_law_b","_law_heights","_law_stand"]) rfl (cI (Je rfl)) (Bg 2) (λ_ _ _ _=>(aI 7 G7)) (λ_ _ _ _=>(qN (nY (BH 2 (oE hr) (ae 7) (λ_ _=>rfl))))) (λ_ _ _ _=>(ae 7))) br) (hv:=by kernel_rfl)))))))
theorem sc_law_right:FnScope ["_law_square_here","_law_one","_law_other","_law_handed","_law_due","_law_found","_law_both"] ["_law_square_here","_law_one","_law_other"] (ai cv):=⟨rfl,rfl,rfl,by decide+kernel,rfl,by decide+kernel,by decide+kernel⟩
def im:FS:=
 ax (bj 3 (di (ab (ak j5 (ab (ag 1) (ah))) (ab (ak j5 (ab (ag 2) (ah))) (ah)))))
 (ax (bj 4 (ak (nF 2 dw) (ab (ag 0) (ab (ag 1) (ah)))))
 (ax (du 5 (ak (nF 2 cB) (ab (ag 0) (ab (aj bd (ag 3) (aE (.int 0))) (ah)))))
 (ax (fP (wt (je (kr (Br "list" (cJ 5)))) (wt (je (kr (ak CS (ab (bP 1 (fM (cJ 5)) (gN 7) (eT) (Br "tuple" (ag 7))) (ah))))) (bx (aj qW (cJ 5) (ag 4))))) (aV (aE (.bl false))) (skip))
 (ax (bj 6 (ak (nF 2 gW) (ab (aj bd (ag 3) (aE (.int 0))) (ab (aj bd (ag 3) (aE (.int 1))) (ah)))))
 (ax (fP (bx (aj qW (ak (nF 2 cB) (ab (ag 0) (ab (ag 6) (ah)))) (ak (nF 2 gW) (ab (ak (nF 2 cB) (ab (ag 0) (ab (aj bd (ag 3) (aE (.int 0))) (ah)))) (ab (ak (nF 2 cB) (ab (ag 0) (ab (aj bd (ag 3) (aE (.int 1))) (ah)))) (ah)))))) (aV (aE (.bl false))) (skip))
 (ax (cH (aN 5 1 kT (bT (ab (aE .non) (ah)))))
 (aV (tm (fQ (bx (aj qZ (ag 3) (di (ab (ag 1) (ab (ag 2) (ah)))))) (bx (aj qZ (ak (nF 2 cB) (ab (ag 0) (ab (aj bd (ag 3) (aE (.int 0))) (ah)))) (ag 4))))))))))))
def fW:List D->Option D:=gm .s 7 im
theorem tJ(B:Bt mg)(F:Df K mg "_law_right" cv ["_law_square_here","_law_one","_law_other"])(gS:Cl P w K mg base 2 "_law_border" ["_law_square_here","_law_crowd_here"] (eS K .n 2 dw))(fH:Cl P w K mg base 7 "border" ["square","crowd"] (eS K .n 2 cB))(mw:Cl P w K mg base 1 "added" ["one","other"] (eS K .n 2 gW)):Cl P w K mg base 8 "_law_right" ["_law_square_here","_law_one","_law_other"] (eS K .s 3 fW):=by
 refine bv (k:=7) F sc_law_right (by decide) rfl λ_ cdv A outer s H hid E hr=>?_
 exact(am (bA 3 sc_law_right.nd (DP.toS (ga (af (DP.toS (dW eX mi B.b_list (ba (ae 1) br) (hv:=by kernel_rfl))) (af (DP.toS (dW eX mi B.b_list (ba (ae 2) br) (hv:=by kernel_rfl))) aq)))))
  (am (bA 4 sc_law_right.nd (DP.toS (bU gS (hr.mono (by decide)) (af (ae 0) (af (ae 1) aq)))))
  (am (fX 5 sc_law_right.nd (bU fH (hr.mono (by decide)) (af (ae 0) (af (bi aP bf (ae 3) au (λ_ _=>rfl)) aq))))
  (am (hZ (DW.dt (zh (zo (nY (AA "list" Co (cL 5) B.b_isinstance B.b_list))) (zh (zo (nY (bo (yB rfl) Em B.b_all (ba (jN (N':=["_law_square_here","_law_one","_law_other","_law_handed","_law_due","_law_found","_law_both","_law_stand"]) rfl (cI (Je rfl)) (yX (cL 5)) (λ_ _ _ _=>(aI 7 G3)) (λ_ _ _ _=>eE) (λ_ _ _ _=>(AA "tuple" yO (ae 7) B.b_isinstance B.b_tuple))) br) (hv:=by kernel_rfl)))) (yZ (cr (nV hr.units) tq (cL 5) (ae 4) (ck _)))))) (av (aZ lU)) cG)
  (am (bA 6 sc_law_right.nd (DP.toS (bU mw (hr.mono (by decide)) (af (bi aP bf (ae 3) au (λ_ _=>rfl)) (af (bi aP bf (ae 3) au (λ_ _=>rfl)) aq)))))
  (am (hZ (cr (nV hr.units) tq (bU fH (hr.mono (by decide)) (af (ae 0) (af (ae 6) aq))) (bU mw (hr.mono (by decide)) (af (DP.toS (bU fH (hr.mono (by decide)) (af (ae 0) (af (bi aP bf (ae 3) au (λ_ _=>rfl)) aq)))) (af (DP.toS (bU fH (hr.mono (by decide)) (af (ae 0) (af (bi aP bf (ae 3) au (λ_ _=>rfl)) aq)))) aq))) (ck _)) (av (aZ lU)) cG)
  (am (iQ (my 5 kH gp Nc Nd (DA.gf (af Ez aq))))
  (av (aZ (Aq (qr (kJ hr.units) oR (ae 3) (ga (af (ae 1) (af (ae 2) aq))) (ck _)) (y9 (qr (kJ hr.units) oR (bU fH (hr.mono (by decide)) (af (ae 0) (af (bi aP bf (ae 3) au (λ_ _=>rfl)) aq))) (ae 4) (ck _)))))))))))))
theorem sc_law:FnScope ["_law_script","_law_k","_law_bag_here","_law_n","_law_square_here"] ["_law_script"] (ai jh):=⟨rfl,rfl,rfl,by decide+kernel,rfl,by decide+kernel,by decide+kernel⟩
def yD:FS:=
 ax (dE (bT (bQ (ab (aE (.int 2)) (ah)))) (gN 1) (ax (du 2 (ak (nF 2 kN) (ab (ag 0) (ab (ag 1) (ah)))))
 (ax (gZ 3 (ij bd (pu (di (ab (aE (.int 2)) (ab (aE (.int 3)) (ab (aE (.int 4)) (ab (aE (.int 4)) (ab (aE (.int 4)) (ab (aE (.int 5)) (ab (aE (.int 5)) (ab (aE (.int 6)) (ah))))))))))) (aN 2 1 aU (bT (ab (aE (.int 8)) (ah))))))
 (ax (gZ 4 (aN 2 1 gI (bT (ab (ag 3) (ah)))))
 (BV (zb (yI (gn (nF 3 fW) (cq (pu (ag 4)) (cq (aN 2 1 eO (bT (ab (ag 3) (ah)))) (cq (aN 2 1 eO (bT (ab (ag 3) (ah)))) (bT (ah)))))))) (aV (aE (.bl false))) (skip))))))
 (aV (aE (.bl true)))
def De:List D->Option D:=gm .s 5 yD
theorem Er {f:Addr}{fd:LM}(B:Bt mg)(F:Fun K "law" "law" jh f fd)(ls:Cl P w K mg base 2 "_law_bag" ["_law_script","_law_at"] (eS K .n 2 kN))(g9:Cl P w K mg base 3 "_law_square" ["_law_bag_here","_law_n"] (rK K .s 1 gI))(bh:Cl P w K mg base 1 "_law_take" ["_law_bag_here","_law_many"] (rK K .s 1 aU))(iy:Cl P w K mg base 8 "_law_right" ["_law_square_here","_law_one","_law_other"] (eS K .s 3 fW))(fV:Cl P w K mg base 3 "_law_crowd" ["_law_bag_here","_law_n"] (rK K .s 1 eO)):FnOk P w K mg base qY 9 f fd ["_law_script"] (eS K .s 1 De):=by
 refine wE (k:=8) F sc_law (by decide) λcdv A outer s H hid E hr=>?_
 exact(am (fK Kw rfl (DIp.e (bV B.b_range (af au aq))) (aI 1 sc_law.nd) (am (fX 2 sc_law.nd (bU ls (hr.mono (by decide)) (af (ae 0) (af (ae 1) aq))))
  (am (i7 3 sc_law.nd (FF aP bf (DE.toS (DP.ef (ga (af au (af au (af au (af au (af au (af au (af au (af au aq))))))))))) (hX 2 bh (hr.mono (by decide)) (DA.gf (af au aq))) (λ_ _=>rfl)))
  (am (i7 4 sc_law.nd (hX 2 g9 (hr.mono (by decide)) (DA.gf (af (ae 3) aq))))
  (av (yr (BS (A7 (EZ iy (hr.mono (by decide)) (hW (DP.ef (ae 4)) (hW (hX 2 fV (hr.mono (by decide)) (DA.gf (af (ae 3) aq))) (hW (hX 2 fV (hr.mono (by decide)) (DA.gf (af (ae 3) aq))) (DA.gf aq))))))) (av (aZ lU)) cG))))))
  (av (aZ lU)))
end
def sp(n:Nat)(P:Nat->Nat->Bool):List (Nat×Nat):=(Iy n).flatMap λa=>((Iy n).filter λb=>decide (a≠b)&&P a b).map λb=>(a,b)
theorem sp_mem {n:Nat}{P:Nat->Nat->Bool}{p:Nat×Nat}:p∈sp n P↔p.1<n/\p.2<n/\p.1≠p.2/\P p.1 p.2=true:=by
 unfold sp;rw[LG];constructor
 ·rintro⟨a,ha,h⟩
  obtain⟨b,hb,rfl⟩:=Jd.mp h
  rw[JU,JB,decide_eq_true_eq,Ja] at hb;exact⟨Ja.mp ha,hb.1,hb.2.1,hb.2.2⟩
 ·rintro⟨h1,h2,h3,h4⟩
  refine⟨p.1,Ja.mpr h1,Jd.mpr ⟨p.2,?_,rfl⟩⟩
  rw[JU,JB,decide_eq_true_eq,Ja];exact⟨h2,h3,h4⟩
theorem EJ(n:Nat)(P:Nat->Nat->Bool):(sp n P).length<=n*n:=by
 have key: ∀(l:List Nat) (f:Nat->List (Nat×Nat)),(∀a,(f a).length<=n)->(l.flatMap f).length<=l.length*n:=by
  intro l f hf
  induction l with
  |nil=>simp
  |cons a l ih=>rw[J6,IR,Jg,Qi,Ss];have:=hf a;omega
 have:=key (Iy n) (λa=>((Iy n).filter λb=>decide (a≠b)&&P a b).map λb=>(a,b)) λa=>by rw[Iu];exact JS (J8 _ _) (by simp)
 rwa [Lo] at this
theorem BR {n:Nat}{o:List Nat}(ho:o.length=n)(P:Nat->Nat->Bool):Ax P o=(sp n P).map λp=>uA o p.1 p.2:=by
 unfold Ax sp;rw[ho,LH];congr 1
 funext a;rw[I0];rfl
theorem Ord.exx {n:Nat}{o:List Nat}(O:Ord n o){a b:Nat}(ha:a<n)(hb:b<n):Ord n (ki o a b):=⟨(swap_perm o a b (by rw[O.len];exact ha) (by rw[O.len];exact hb)).trans O.perm⟩
theorem qH {p:FT}{t:FS}{ρ:az}(h:p ρ=some false):fP p t skip ρ=.nx ρ:=(rP h).trans rfl
theorem AI {p q:FT}{ρ:az}{a b:Bool}(h1:p ρ=some a)(h2:q ρ=some b):wt p q ρ=some (a||b):=by
 cases a with
 |true=>exact Dj h1
 |false=>exact zC h1 h2
theorem nz {f:FE}{ρ:az}{ds:List D}(h:f ρ=some (.lst ds)):kC f ρ=some ds:=by unfold kC;rw[h];rfl
structure Gd(n:Nat)(r x:List Nat):Prop where
 R:Ord n r
 X:Ord n x
 lo:2<=n
 hi:n<=6
set_option maxHeartbeats 1000000
def oF:FS:=
 ax (gZ 2 (aN 0 1 cW (bT (ab (aE (.int 4)) (ah)))))
 (ax (gZ 3 (ij bM (pu (aE (.int 1))) (aN 0 1 cW (bT (ab (aj dn (ag 1) (aE (.int 1))) (ah))))))
 (ax (gZ 4 (aN 0 1 gA (bT (ab (ag 1) (ah)))))
 (ax (ux 5 (aN 0 1 gA (bT (ab (ag 1) (ah)))))
 (ax (fP (bx (aj qZ (ag 2) (aE (.int 1)))) (ax (bj 4 (xX (ag 1)))
 (du 5 (bP 1 (kC (ag 4)) (gN 8) (eT) (aj aS (aj bM (ag 8) (ag 3)) (ag 1))))) (skip))
 (ax (dE (bT (bQ (ab (ag 1) (ah)))) (gN 6) (ax (bj 7 (aj aS (aj bM (ag 6) (aE (.int 1))) (ag 1)))
 (fP (bx (aj qZ (aj bd (cJ 5) (ag 6)) (aj bd (ag 4) (ag 6)))) (eR (gT 2 (iH (bH 5 (ag 6)) (iH (bH 5 (ag 7)) (mG)))) (pu (dr (ab (aj bd (cJ 5) (ag 7)) (ab (aj bd (cJ 5) (ag 6)) (ah)))))) (skip))))
 (aV (dr (ab (ak dz (ab (ag 4) (ah))) (ab (ak dz (ab (cJ 5) (ah))) (ah))))))))))
def o7:List D->List D->Option (D×List D):=tR .s 8 oF
theorem ve {N:Nat}{a b:Int}(B:Bag N a b){n:Nat}(h2:2<=n)(h6:n<=6)(hN:N<=800000000): ∃(r x:List Nat) (a' b':Int),o7 (aM a b) [nI n]=some (dA r x,aM a' b')/\Sq n r x/\Bag (N+2*n+2) a' b':=by
 obtain⟨p,a1,b1,e1,B1,p0,p1⟩:=iY (m:=4) B (by omega) (by decide) (by decide)
 obtain⟨q,a2,b2,e2,B2,q0,q1⟩:=iY (m:=(n:Int) -1) B1 (by omega) (by omega) (IL (show((n:Int) -1).natAbs<10^10 by omega) (by decide))
 obtain⟨r,a3,b3,e3,or,B3⟩:=m8 B2 (n:=n) (by omega) (by omega)
 obtain⟨x,a4,b4,e4,ox,B4⟩:=m8 B3 (n:=n) (by omega) (by omega)
 obtain⟨q',rfl⟩: ∃j:Nat,q=(j:Int):=⟨q.toNat,by omega⟩
 have r0:gr 8 (aM a b) [nI n]=[.arg (aM a b),.v (nI n),.no,.no,.no,.no,.no,.no]:=rfl
 have s1:gZ 2 (aN 0 1 cW (bT (ab (aE (.int 4)) (ah)))) [.arg (aM a b),.v (nI n),.no,.no,.no,.no,.no,.no]=.nx [.arg (aM a1 b1),.v (nI n),.v (.int p),.no,.no,.no,.no,.no]:=
  (i6 (bL (i:=0) (n:=1) (b0:=aM a b) (ds:=[.int 4]) rfl (bC rfl) rfl rfl e1)).trans rfl
 have s2:gZ 3 (ij bM (pu (aE (.int 1))) (aN 0 1 cW (bT (ab (aj dn (ag 1) (aE (.int 1))) (ah))))) [.arg (aM a1 b1),.v (nI n),.v (.int p),.no,.no,.no,.no,.no]=.nx [.arg (aM a2 b2),.v (nI n),.v (.int p),.v (nI (q'+1)),.no,.no,.no,.no]:=
  (i6 (qf (lS rfl) (bL (i:=0) (n:=1) (b0:=aM a1 b1) (ds:=[.int ((n:Int) -1)]) rfl (bC rfl) rfl rfl e2) (show bM (.int 1) (nI q')=some (nI (q'+1)) by rw[gy];simp;omega))).trans rfl
 have s3:gZ 4 (aN 0 1 gA (bT (ab (ag 1) (ah)))) [.arg (aM a2 b2),.v (nI n),.v (.int p),.v (nI (q'+1)),.no,.no,.no,.no]=.nx [.arg (aM a3 b3),.v (nI n),.v (.int p),.v (nI (q'+1)),.v (.lst (r.map nI)),.no,.no,.no]:=
  (i6 (bL (i:=0) (n:=1) (b0:=aM a2 b2) (ds:=[nI n]) rfl (bC rfl) rfl rfl e3)).trans rfl
 have s4:ux 5 (aN 0 1 gA (bT (ab (ag 1) (ah)))) [.arg (aM a3 b3),.v (nI n),.v (.int p),.v (nI (q'+1)),.v (.lst (r.map nI)),.no,.no,.no]=.nx [.arg (aM a4 b4),.v (nI n),.v (.int p),.v (nI (q'+1)),.v (.lst (r.map nI)),.own (x.map nI),.no,.no]:=
  (AZ (bL (i:=0) (n:=1) (b0:=aM a3 b3) (ds:=[nI n]) rfl (bC rfl) rfl rfl e4)).trans rfl
 have s5: ∃(r' x':List Nat),fP (bx (aj qZ (ag 2) (aE (.int 1)))) (ax (bj 4 (xX (ag 1)))
  (du 5 (bP 1 (kC (ag 4)) (gN 8) (eT) (aj aS (aj bM (ag 8) (ag 3)) (ag 1))))) (skip) [.arg (aM a4 b4),.v (nI n),.v (.int p),.v (nI (q'+1)),.v (.lst (r.map nI)),.own (x.map nI),.no,.no]=.nx [.arg (aM a4 b4),.v (nI n),.v (.int p),.v (nI (q'+1)),.v (.lst (r'.map nI)),.own (x'.map nI),.no,.no]/\Ord n r'/\Ord n x':=by
  unfold fP bx;rw[aF (x:=.int p) (y:=.int 1) rfl rfl,lz (by rw[g6];omega),iR]
  by_cases hp:p=1
  ·refine⟨Iy n,(Iy n).map λi=>(i+(q'+1)) % n,?_,⟨.refl _⟩,Bo n h2 h6 (q'+1) (by omega) (by omega)⟩
   rw[decide_eq_true hp];simp only[tQ];rw[ay ((bY (yh (n:=n) (by omega) (ag 1) _ rfl)).trans rfl)]
   refine(gM (fu (ds:=(Iy n).map nI) (ys:=(Iy n).map λi=>nI ((i+(q'+1)) % n)) rfl (by simp;omega) (eY _ λi hi=>⟨_,rfl,?_⟩))).trans ?_
   ·exact(aF ((aF (x:=nI i) (y:=nI (q'+1)) rfl rfl).trans (EA _ _)) (y:=nI n) rfl).trans (CF (by omega))
   ·rw[I0];rfl
  ·refine⟨r,x,?_,or,ox⟩
   rw[decide_eq_false hp];simp only[tQ,skip]
 obtain⟨r',x',s5,or',ox'⟩:=s5
 obtain⟨x2,t6,t7,lp,ox2,hne⟩:=C0 (aM a4 b4) (.int p) (nI (q'+1)) or' h2 n 0 x' .no .no (by omega) ox' (λi h=>absurd h (Nf _))
 have s6:dE (bT (bQ (ab (ag 1) (ah)))) (gN 6) wB [.arg (aM a4 b4),.v (nI n),.v (.int p),.v (nI (q'+1)),.v (.lst (r'.map nI)),.own (x'.map nI),.no,.no]=.nx [.arg (aM a4 b4),.v (nI n),.v (.int p),.v (nI (q'+1)),.v (.lst (r'.map nI)),.own (x2.map nI),t6,t7]:=by
  unfold dE;rw[bC (fN (n:=n) rfl (by omega))]
  dsimp only;rw[Qt];exact lp
 refine⟨r',x2,a4,b4,?_,⟨or',ox2,hne⟩,by rw[show N+2*n+2=N+1+1+n+n by omega];exact B4⟩
 unfold o7 tR oF;rw[r0,ay s1,ay s2,ay s3,ay s4,ay s5];rw[ay s6];have s7:aV (dr (ab (ak dz (ab (ag 4) (ah))) (ab (ak dz (ab (cJ 5) (ah))) (ah)))) [.arg (aM a4 b4),.v (nI n),.v (.int p),.v (nI (q'+1)),.v (.lst (r'.map nI)),.own (x2.map nI),t6,t7]=.rt (dA r' x2) [.arg (aM a4 b4),.v (nI n),.v (.int p),.v (nI (q'+1)),.v (.lst (r'.map nI)),.own (x2.map nI),t6,t7]:=by
  unfold aV;rw[fS (ds:=[aw r',aw x2]) rfl (by simp)]
 rw[s7];rfl
theorem Az {kd:Kd}{n:Nat}{t:FS}{bs ds b':List D}{d:D}{ρ:az}(h:t (gr n bs ds)=.rt d ρ)(h2:lZ ρ=some b'):tR kd n t bs ds=some (d,b'):=by unfold tR;rw[h];dsimp only;rw[h2];rfl
theorem mJ {g:FG}{b:FS}{P:Nat->az->Prop}: ∀(l:List D) (j:Nat),(∀d∈l,∀i ρ,i<j+l.length->P i ρ-> ∃ρ1 ρ2,g d ρ=some ρ1/\b ρ1=.nx ρ2/\P (i+1) ρ2)-> ∀ρ,P j ρ-> ∃ρ',dP g b l ρ=.nx ρ'/\P (j+l.length) ρ'
 | [],j,_,ρ,p=>⟨ρ,rfl,p⟩
 |d::l,j,h,ρ,p=>by
  obtain⟨ρ1,ρ2,h1,h2,p2⟩:=h d (Jh ..) j ρ (by rw[Jg];omega) p
  obtain⟨ρ',e,p'⟩:=mJ l (j+1) (λd' hd i ρ hi=>h d' (IZ _ hd) i ρ (by rw[Jg];omega)) ρ2 p2
  exact⟨ρ',(fo h1 h2).trans e,by rw[Jg,Vk l.length 1,<-QY];exact p'⟩
set_option maxHeartbeats 4000000
set_option maxHeartbeats 1000000
theorem j9: ∀ns:List Int,intKs.intK (iK ns)=some ns
 | []=>rfl
 |n::ns=>by
  show(intKs.intK (iK ns)).map (n:: ·)=_
  rw[j9 ns];rfl
theorem EH {a b:List Int}(h:iK a=iK b):a=b:=by
 have:=congrArg intKs.intK h
 rw[j9,j9] at this;exact Jv this
theorem zM(kvs:tP)(k k':List bt)(d:D):eN (oa kvs k d) k'=if k'=k then some d else eN kvs k':=by
 unfold oa eN;split
 ·rename_i h
  induction kvs with
  |nil=>simp at h
  |cons p kvs ih=>
   rw[Ix]
   by_cases e:p.1=k
   ·rw[if_pos e,Kn]
    by_cases e2:k'=k
    ·rw[if_pos e2,e2];simp[e]
    ·rw[if_neg e2,Kn]
     have e3:decide (p.1=k')=false:=decide_eq_false λw=>e2 (w.symm.trans e)
     simp only[e3]
     by_cases h':(kvs.any λkv=>decide (kv.1=k))=true
     ·have:=ih h';rw[if_neg e2] at this;exact this
     ·have:kvs.map (λkv=>if kv.1=k then(kv.1,d) else kv)=kvs:=by
       refine(JH λq hq=>?_).trans (Sw _)
       rw[if_neg];rfl;intro w;exact h' (MY.mpr ⟨q,hq,decide_eq_true w⟩)
      rw[this]
   ·have h':(kvs.any λkv=>decide (kv.1=k))=true:=by
     rw[Lk,decide_eq_false e,Ug] at h;exact h
    rw[if_neg e,Kn,Kn]
    by_cases e2:p.1=k'
    ·rw[decide_eq_true e2,if_neg (λw=>e (e2.trans w))]
    ·rw[decide_eq_false e2];exact ih h'
 ·rename_i h
  have h: ∀q∈kvs,q.1≠k:=λq hq w=>h (MY.mpr ⟨q,hq,decide_eq_true w⟩)
  rw[List.find?_append]
  by_cases e:k'=k
  ·subst e
   rw[if_pos rfl,OF.mpr (λq hq=>by simpa using h q hq)]
   simp
  ·rw[if_neg e]
   have:(List.find? (λkv:List bt×D=>decide (kv.1=k')) [(k,d)])=none:=by
    rw[Kn,decide_eq_false (λw=>e w.symm)];rfl
   rw[this,Option.or_none]
theorem AX {kvs:tP}{k:List bt}(h:eN kvs k=none)(d:D):oa kvs k d=kvs++[(k,d)]:=by
 unfold oa;rw[if_neg];intro w;obtain⟨q,hq,e⟩:=MY.mp w
 unfold eN at h;rw[Option.map_eq_none_iff,OF] at h;exact h q hq e
def ig(acc:List (List Int))(k:List Int):List (List Int):=if k∈acc then lM acc k else jT acc k
def oz(ks:List (List Int)):List (List Int):=ks.foldl ig []
theorem tf(acc:List (List Int))(k z:List Int):z∈ig acc k↔(if z=k then¬z∈acc else z∈acc):=by
 unfold ig
 by_cases h:k∈acc
 ·rw[if_pos h]
  unfold lM;rw[JU,decide_eq_true_eq]
  by_cases e:z=k
  ·rw[if_pos e];subst e;exact⟨λw=>absurd rfl w.2,λw=>absurd h w⟩
  ·rw[if_neg e];exact⟨λw=>w.1,λw=>⟨w,e⟩⟩
 ·rw[if_neg h]
  unfold jT;rw[if_neg h,IQ,Jc]
  by_cases e:z=k
  ·rw[if_pos e];subst e;exact⟨λ_=>h,λ_=>.inr rfl⟩
  ·rw[if_neg e];exact⟨λw=>w.elim id λq=>absurd q e,.inl⟩
theorem wj {acc:List (List Int)}(nd:acc.Nodup)(k:List Int):(ig acc k).Nodup:=by
 unfold ig
 by_cases h:k∈acc
 ·rw[if_pos h];exact LK Oq nd
 ·rw[if_neg h]
  unfold jT;rw[if_neg h,KJ];exact⟨nd,by simp,λx hx y hy e=>by rw[Jc] at hy;subst hy e;exact h hx⟩
theorem zj(acc:List (List Int))(k:List Int):(ig acc k).length<=acc.length+1:=by
 unfold ig jT lM;split
 ·exact MB (J8 _ _)
 ·simp
theorem vM: ∀(ks:List (List Int)) {acc:List (List Int)},acc.Nodup->(ks.foldl ig acc).Nodup
 | [],_,h=>h
 |k::ks,_,h=>vM ks (wj h k)
theorem sh: ∀(ks acc:List (List Int)),(ks.foldl ig acc).length<=acc.length+ks.length
 | [],acc=>by simp
 |k::ks,acc=>by
  rw[Og,Jg];have:=sh ks (ig acc k)
  have:=zj acc k
  omega
theorem rh(z:List Int): ∀(ks acc:List (List Int)),z∈ks.foldl ig acc↔(if z∈acc then(ks.count z) % 2=0 else(ks.count z) % 2=1)
 | [],acc=>by
   rw[List.foldl_nil,List.count_nil];split<;>simp_all
 |k::ks,acc=>by
  rw[Og,rh z ks (ig acc k),List.count_cons];have h:=tf acc k z
  by_cases e:z=k
  ·rw[if_pos e] at h
   have ek:(k==z)=true:=by rw[e];exact beq_self_eq_true k
   rw[ek,if_pos rfl]
   by_cases c:z∈acc
   ·rw[if_pos c,if_neg (λw=>h.mp w c)];omega
   ·rw[if_neg c,if_pos (h.mpr c)];omega
  ·rw[if_neg e] at h
   have ek:(k==z)=false:=by rw[beq_eq_false_iff_ne];exact λw=>e w.symm
   rw[ek];simp only[IB,if_false,KG]
   by_cases c:z∈acc
   ·rw[if_pos c,if_pos (h.mpr c)]
   ·rw[if_neg c,if_neg (λw=>c (h.mp w))]
theorem pL(ks:List (List Int))(z:List Int):z∈oz ks↔(ks.count z) % 2=1:=by
 have:=rh z ks []
 rw[if_neg (by simp)] at this
 exact this
theorem tY(ks:List (List Int)):(oz ks).Nodup:=vM ks MP
theorem Bu(ks:List (List Int)):(oz ks).length<=ks.length:=by
 have:=sh ks []
 unfold oz;simpa using this
theorem Et {ks:List (List Int)}{z:List Int}(h:z∈oz ks):z∈ks:=by
 have:=(pL ks z).mp h
 exact OR.mp (by omega)
def fy(ks:List (List Int)):List (List Int):=aR aW (oz ks)
theorem o6 {ks l:List (List Int)}(nd:l.Nodup)(h: ∀z,z∈l↔(ks.count z) % 2=1):aR aW l=fy ks:=
 i9 ((J7 nd (tY ks)).mpr λz=>(h z).trans (pL ks z).symm)
def xi(kvs:tP)(k:List Int):tP:=oa kvs (iK k) (.bl (match eN kvs (iK k) with|some (.bl b)=> !b|_=>true))
structure PInv(kvs:tP)(ks:List (List Int)):Prop where
 keys: ∃l:List (List Int),kvs.map (·.1)=l.map iK/\l.Nodup/\ ∀z,z∈l↔z∈ks
 val: ∀z,z∈ks->eN kvs (iK z)=some (.bl (decide ((ks.count z) % 2=1)))
 non: ∀z,z∉ks->eN kvs (iK z)=none
theorem pj(kvs:tP)(k:List bt)(d:D):(oa kvs k d).map (·.1)=if(eN kvs k).isSome then kvs.map (·.1) else kvs.map (·.1)++[k]:=by
 by_cases h:(eN kvs k).isSome=true
 ·rw[if_pos h]
  unfold oa;have:(kvs.any λkv=>decide (kv.1=k))=true:=by
   unfold eN at h;rw[RH,List.find?_isSome] at h;exact MY.mpr h
  rw[if_pos this,I0];refine JH λq _=>?_
  show(if q.1=k then(q.1,d) else q).1=q.1
  split<;>rfl
 ·have h:eN kvs k=none:=by simpa using h
  rw[AX h,h,JK];rfl
theorem PInv.start:PInv [] []:=⟨⟨[],rfl,MP,λz=>Iff.rfl⟩,λz h=>absurd h NZ,λz _=>rfl⟩
theorem PInv.step {kvs:tP}{ks:List (List Int)}(I:PInv kvs ks)(k:List Int):PInv (xi kvs k) (ks++[k]):=by
 have hval: ∀z,eN (xi kvs k) (iK z)=if z=k then some (.bl (match eN kvs (iK k) with|some (.bl b)=> !b|_=>true)) else eN kvs (iK z):=λz=>by
  unfold xi;rw[zM]
  by_cases e:z=k
  ·rw[if_pos e,if_pos (by rw[e])]
  ·rw[if_neg e,if_neg λw=>e (EH w)]
 refine⟨?_,λz hz=>?_,λz hz=>?_⟩
 ·obtain⟨l,h1,h2,h3⟩:=I.keys
  by_cases c:k∈ks
  ·refine⟨l,?_,h2,λz=>?_⟩
   ·unfold xi
    rw[pj,I.val k c];exact h1
   ·rw[h3,IQ,Jc]
    exact⟨.inl,λw=>w.elim id λe=>e▸c⟩
  ·refine⟨l++[k],?_,?_,λz=>?_⟩
   ·unfold xi
    rw[pj,I.non k c,h1,JK];rfl
   ·rw[KJ]
    exact⟨h2,by simp,λx hx y hy e=>by rw[Jc] at hy;subst hy e;exact c ((h3 _).mp hx)⟩
   ·rw[IQ,IQ,h3]
 ·rw[hval,RM]
  by_cases e:z=k
  ·subst e
   rw[if_pos rfl];have c1:Yw z [z]=1:=by simp
   rw[c1]
   by_cases c:z∈ks
   ·rw[I.val z c]
    congr 2
    show(!decide _)=decide _;rw[KO];simp only[J5,decide_eq_false_iff_not,decide_eq_true_eq];omega
   ·rw[I.non z c,Re.mpr c]
    rfl
  ·have c0:Yw z [k]=0:=Re.mpr (by simpa using e)
   rw[if_neg e,c0,KG];refine I.val z ?_
   rcases IQ.mp hz with h|h
   ·exact h
   ·exact absurd (Jc.mp h) e
 ·rw[hval,if_neg λw=>hz (by rw[w];simp)]
  exact I.non z λw=>hz (Jk _ w)
theorem PInv.srt {kvs:tP}{ks:List (List Int)}(I:PInv kvs ks): ∃l:List (List Int),intKs kvs=some l/\(∀z∈l,z∈ks)/\(∀z∈l,eN kvs (iK z)=some (.bl (decide ((ks.count z) % 2=1))))/\aR aW (l.filter λz=>decide ((ks.count z) % 2=1))=fy ks/\l.length=kvs.length:=by
 obtain⟨l,h1,h2,h3⟩:=I.keys
 have ik: ∀(kvs:tP) (l:List (List Int)),kvs.map (·.1)=l.map iK->intKs kvs=some l:=by
  intro kvs
  induction kvs with
  |nil=>intro l h;cases l with|nil=>rfl|cons _ _=>cases h
  |cons p kvs ih=>
   intro l h;cases l with
   |nil=>cases h
   |cons z l=>
    rw[Ix,Ix] at h;injection h with h1 h2
    obtain⟨a,d⟩:=p
    have h1:a=iK z:=h1
    subst h1;show(intKs.intK (iK z)).bind (λns=>(intKs kvs).map (ns:: ·))=_
    rw[j9,ih l h2];rfl
 refine⟨l,ik kvs l h1,λz hz=>(h3 z).mp hz,λz hz=>I.val z ((h3 z).mp hz),o6 (LK Oq h2) λz=>?_,?_⟩
 ·rw[JU,decide_eq_true_eq,h3]
  exact⟨λw=>w.2,λw=>⟨OR.mp (by omega),w⟩⟩
 ·have:=congrArg KU h1
  rw[Iu,Iu] at this;exact this.symm
theorem zc {l m:List Nat}(p:l.Perm m):l.sum=m.sum:=by
 induction p with
 |nil=>rfl
 |cons x _ ih=>rw[Me,Me,ih]
 |swap x y l=>simp only[Me];omega
 |trans _ _ h1 h2=>rw[h1,h2]
theorem gQ {α:Type}(z:List Int)(g:α->List (List Int)): ∀l:List α,(l.flatMap g).count z=(l.map λy=>(g y).count z).sum
 | []=>rfl
 |a::l=>by rw[J6,RM,gQ z g l,Ix,Me]
def zs(l:List Nat):List Int:=l.map Int.ofNat
def uz(k:List Int):List Nat:=k.map Int.toNat
theorem po(l:List Nat):uz (zs l)=l:=by
 unfold uz zs;rw[I0];exact(JH λa _=>rfl).trans (Sw l)
theorem EC {a b:List Nat}(h:zs a=zs b):a=b:=by rw[<-po a,h,po]
def eI(n:Nat)(r x:List Nat)(k:List Int):List (List Int):=(sp n (cA r x (uz k))).map λp=>zs (ki (uz k) p.1 p.2)
def bK(n:Nat)(r x:List Nat)(K:List (List Int)):List (List Int):=K.flatMap (eI n r x)
def pD(n:Nat)(r x:List Nat)(K:List (List Int)):List (List Int):=fy (bK n r x K)
def kI(n:Nat)(K:List (List Int)):Prop:= ∀k∈K,∃o,Ord n o/\k=zs o
theorem DY {n:Nat}{r x o:List Nat}(O:Ord n o):kI n (eI n r x (zs o)):=λk hk=>by
 unfold eI at hk;rw[po] at hk;obtain⟨p,hp,rfl⟩:=Jd.mp hk
 obtain⟨h1,h2,_⟩:=sp_mem.mp hp
 exact⟨_,O.exx h1 h2,rfl⟩
theorem yC {n:Nat}{r x:List Nat}{K:List (List Int)}(h:kI n K):kI n (bK n r x K):=λk hk=>by
 obtain⟨y,hy,hk⟩:=LG.mp hk
 obtain⟨o,O,rfl⟩:=h y hy
 exact DY O k hk
theorem mem_oddSrt {ks:List (List Int)}{z:List Int}:z∈fy ks↔ks.count z % 2=1:=by
 unfold fy;rw[(aY (lt:=aW) (oz ks)).mem_iff,pL]
theorem kB(ks:List (List Int)):(fy ks).Nodup:=by
 unfold fy;rw[(aY (lt:=aW) (oz ks)).nodup_iff];exact tY ks
theorem vL {n:Nat}{r x:List Nat}{K:List (List Int)}(h:kI n K):kI n (pD n r x K):=λk hk=>by
 have h1:(bK n r x K).count k % 2=1:=mem_oddSrt.mp hk
 have h2:0<(bK n r x K).count k:=by omega
 exact yC h k (OR.mp h2)
theorem BT {n:Nat}{r x:List Nat}{K L:List (List Int)}(p:K.Perm L):(bK n r x K).Perm (bK n r x L):=p.flatMap_right _
theorem lq(f:List Int->Nat)(p:List Int->Bool): ∀l:List (List Int),(l.map f).sum=((l.filter p).map f).sum+((l.filter λk=> !p k).map f).sum
 | []=>rfl
 |a::l=>by
  have ih:=lq f p l
  cases h:p a with
  |true=>rw[Nx h,Ny (by simp[h]),Ix,Me,Ix,Me];omega
  |false=>rw[Ny (by simp[h]),Nx (by simp[h]),Ix,Me,Ix,Me];omega
theorem Cu(f:List Int->Nat){A B:List (List Int)}(ha:A.Nodup)(hb:B.Nodup):((gF A B).map f).sum % 2=((A.map f).sum+(B.map f).sum) % 2:=by
 have e1:=lq f (λk=>decide (k∉B)) A
 have e2:=lq f (λk=>decide (k∉A)) B
 have p:(A.filter λk=> !decide (k∉B)).Perm (B.filter λk=> !decide (k∉A)):=by
  refine(J7 (ha.filter _) (hb.filter _)).mpr λk=>?_
  rw[JU,JU];simp[and_comm]
 have e3:=zc (p.map f)
 unfold gF;rw[JK,List.sum_append];omega
theorem Af(n:Nat)(r x:List Nat)(K:List (List Int)):(pD n r x K).Nodup:=kB _
theorem Bz {n:Nat}{r x:List Nat}{A B:List (List Int)}(ha:A.Nodup)(hb:B.Nodup):pD n r x (aR aW (gF A B))=aR aW (gF (pD n r x A) (pD n r x B)):=by
 symm
 refine o6 (qB (Af n r x A) (Af n r x B)) λz=>?_
 have c:(bK n r x (aR aW (gF A B))).count z % 2=((bK n r x A).count z+(bK n r x B).count z) % 2:=by
  rw[(BT (aY (lt:=aW) (gF A B))).count_eq];unfold bK;rw[gQ,gQ,gQ];exact Cu _ ha hb
 rw[c,symK_mem];have hA:z∈pD n r x A↔(bK n r x A).count z % 2=1:=mem_oddSrt
 have hB:z∈pD n r x B↔(bK n r x B).count z % 2=1:=mem_oddSrt
 rw[hA,hB];omega
set_option maxHeartbeats 4000000
theorem sG {α:Type}: ∀(l1 l2:List α),l1.Nodup->(∀x∈l1,x∈l2)->l2.length<=l1.length->l1.Perm l2
 | [],l2,_,_,h=>by
   have:l2=[]:=Of (by simpa using h)
   rw[this]
 |a::l1,l2,nd,hs,hl=>by
  obtain⟨n1,n2⟩:=LU.mp nd
  obtain⟨s,t,rfl⟩:=List.append_of_mem (hs a (Jh ..))
  have ih:=sG l1 (s++t) n2 (λx hx=>by
   have:=hs x (IZ _ hx)
   rw[IQ,Jn] at this;rw[IQ];rcases this with q|q|q
   ·exact .inl q
   ·rw[q] at hx;exact absurd hx n1
   ·exact .inr q) (by rw[IR,Jg,Jg] at hl;rw[IR];omega)
  exact(ih.cons a).trans Pl.symm
def jw(n:Nat):Nat->List (List Nat)
 |0=>[[]]
 |k+1=>(jw n k).flatMap λs=>((Iy n).filter λh=> !decide (h∈s)).map λh=>s++[h]
theorem uT(n:Nat): ∀k,∀s∈jw n k,s.length=k/\s.Nodup/\ ∀v∈s,v<n
 |0,s,h=>by
  rw[Jc.mp h];exact⟨rfl,MP,λv hv=>nomatch hv⟩
 |k+1,s,h=>by
  obtain⟨t,ht,hs⟩:=LG.mp h
  obtain⟨v,hv,rfl⟩:=Jd.mp hs
  obtain⟨h1,h2⟩:=JU.mp hv
  obtain⟨i1,i2,i3⟩:=uT n k t ht
  rw[Ja] at h1;have h2:v∉t:=by simpa using h2
  refine⟨by rw[IR,i1];rfl,?_,λw hw=>?_⟩
  ·rw[KJ]
   exact⟨i2,by simp,λa ha b hb e=>by rw[Jc.mp hb] at e;exact h2 (e▸ha)⟩
  ·rcases IQ.mp hw with hw|hw
   ·exact i3 w hw
   ·rw[Jc.mp hw];exact h1
theorem Ca {n:Nat}{s:List Nat}(h:s∈jw n n):Ord n s:=by
 obtain⟨h1,h2,h3⟩:=uT n n s h
 exact⟨sG s (Iy n) h2 (λv hv=>Ja.mpr (h3 v hv)) (by rw[Lo,h1];exact Iv _)⟩
theorem qG: ∀n,n<=5-> ∀k,k<=n->(jw n k).length<=120:=by decide+kernel
theorem DZ: ∀n,n<=5->(jw n n).Nodup:=by decide+kernel
theorem Dp(L:List Nat)(c:Nat):lW true (nI c) (.tup (L.map nI))=some (.bl (!decide (c∈L))):=by
 unfold lW kn;dsimp only;rw[mH,if_pos (by omega),zq]
 rfl
theorem DN {n:Nat}(hn:n<=5):iS [nI n]=some (.lst ((jw n n).map aw)):=by
 apply qC (kd:=.s) (n:=5) (t:=lf)
 unfold lf;rw[ay (ρ':=[.v (nI n),.v (.lst ((jw n 0).map aw)),.no,.no,.no]) ((bY (jc (ds:=[.tup []]) rfl (by simp))).trans rfl)]
 obtain⟨ρ',lp,s2,s3,s4,hρ⟩:=mJ (g:=gN 2) (b:=ax (du 3 (di (ah)))
 (ax (dE (bT (kC (ag 1))) (gN 4) (cH (t4 3 (bP 1 (bQ (ab (ag 0) (ah))) (gN 5) (bx (aj (lW true) (ag 5) (ag 4))) (aj mU (ag 4) (dr (ab (ag 5) (ah))))))))
 ((λρ=>(bj 1 (ag 3)) (xu 3 ρ))))) (P:=λi ρ=> ∃s2 s3 s4,ρ=[.v (nI n),.v (.lst ((jw n i).map aw)),s2,s3,s4]) ((Iy n).map nI) 0 (λd hd i ρ hi hρ=>by
   obtain⟨s2,s3,s4,rfl⟩:=hρ
   have hi:i<n:=by simpa using hi
   have q1:du 3 (di (ah)) [.v (nI n),.v (.lst ((jw n i).map aw)),.v d,s3,s4]=.nx [.v (nI n),.v (.lst ((jw n i).map aw)),.v d,.own [],s4]:=(gM (jc rfl (by simp))).trans rfl
   let out:List Nat->List D:=λs=>(((Iy n).filter λh=> !decide (h∈s)).map λh=>s++[h]).map aw
   have fl:(jw n i).flatMap out=(jw n (i+1)).map aw:=by
    show _=OO aw (List.flatMap _ (jw n i));rw[LH]
   obtain⟨ρ',lp,s4',e⟩:=rW (g:=gN 4) (b:=cH (t4 3 (bP 1 (bQ (ab (ag 0) (ah))) (gN 5) (bx (aj (lW true) (ag 5) (ag 4))) (aj mU (ag 4) (dr (ab (ag 5) (ah))))))) (h:=aw) (out:=out) (P:=λF ρ=> ∃s4,ρ=[.v (nI n),.v (.lst ((jw n i).map aw)),.v d,.own F,s4]) (jw n i)
    (λs hs F ρ ⟨s4,e⟩ hF=>by
      subst e;refine⟨[.v (nI n),.v (.lst ((jw n i).map aw)),.v d,.own F,.v (aw s)],[.v (nI n),.v (.lst ((jw n i).map aw)),.v d,.own (F++out s),.v (aw s)],rfl,rQ (d:=.non) ?_,_,rfl⟩
      have cc:bP 1 (bQ (ab (ag 0) (ah))) (gN 5) (bx (aj (lW true) (ag 5) (ag 4))) (aj mU (ag 4) (dr (ab (ag 5) (ah)))) [.v (nI n),.v (.lst ((jw n i).map aw)),.v d,.own F,.v (aw s)]=some (.lst (out s)):=by
       refine fu (ds:=(Iy n).map nI) (fN (n:=n) rfl (by omega)) (by rw[Iu,Lo];omega) ?_
       refine(kP (h:=nI) (o:=λh=>aw (s++[h])) (q:=λh=> !decide (h∈s)) (Iy n) λh _=>⟨[.v (nI n),.v (.lst ((jw n i).map aw)),.v d,.own F,.v (aw s),.v (nI h)],rfl,cw ((aF (x:=nI h) (y:=aw s) rfl rfl).trans (Dp s h)),λ_=>?_⟩).trans ?_
       ·have hl:=(uT n i s hs).1
        refine(aF (x:=aw s) (y:=.tup [nI h]) rfl (fS rfl (by simp))).trans ?_
        show(if _ then _ else _)=_
        rw[if_pos (JS (show(s.map nI).length+ [nI h].length<=900 by rw[Iu];simp;omega) (by decide))]
        show some (D.tup _)=some (D.tup _);rw[JK];rfl
       ·show _=some (OO aw (OO _ _))
        rw[I0];rfl
      unfold t4;rw[cc];show(if F.length+_<=IM then _ else _)=_
      rw[if_pos (Mr (iW (by omega)))]
      rfl) [] [.v (nI n),.v (.lst ((jw n i).map aw)),.v d,.own [],s4] ⟨_,rfl⟩ (by
       rw[fl,Iu];have:=qG n hn (i+1) (by omega)
       simp;omega)
   rw[fl,PZ] at e;subst e;refine⟨_,[.v (nI n),.v (.lst ((jw n (i+1)).map aw)),.v d,.v (.lst ((jw n (i+1)).map aw)),s4'],rfl,?_,_,_,_,rfl⟩
   refine(ay q1).trans ((ay ((eV (bC (nz rfl))).trans lp)).trans ?_)
   exact(bY (d:=.lst ((jw n (i+1)).map aw)) rfl).trans rfl) [.v (nI n),.v (.lst ((jw n 0).map aw)),.no,.no,.no] ⟨_,_,_,rfl⟩
 have hl:0+((Iy n).map nI).length=n:=by simp
 rw[hl] at hρ;subst hρ;rw[ay ((eV (ds:=(Iy n).map nI) (bC (fN (n:=n) rfl (by omega)))).trans lp)]
 exact⟨_,rfl⟩
theorem mZ(l:List Nat):aw l=bD (zs l):=by unfold aw bD zs;rw[I0];rfl
theorem vg(L:List (List Nat)):L.map aw=(L.map zs).map bD:=by rw[I0];exact JH λl _=>mZ l
theorem EX(K:List (List Int))(k:List Int):lW true (bD k) (.lst (K.map bD))=some (.bl (!decide (k∈K))):=by
 have q:=Id K k
 have d:=kw K
 unfold lW kn at q⊢;dsimp only at q⊢;rw[if_pos (by omega)] at q⊢
 injection q with q
 injection q with q
 rw[<-q];rfl
abbrev srt(K:List (List Int)):List (List Int):=aR aW K
abbrev kD(K:List (List Int)):D:=.lst (K.map bD)
structure Cw(N:Nat)(K:List (List Int)):Prop where
 nd:K.Nodup
 len:K.length<=N
 ne: ∀k∈K,k≠[]
theorem Cw.srt {N:Nat}{K:List (List Int)}(h:Cw N K):Cw N (srt K):=⟨(aY (lt:=aW) K).nodup_iff.mpr h.nd,by rw[(aY (lt:=aW) K).length_eq];exact h.len,λk hk=>h.ne k ((aY (lt:=aW) K).mem_iff.mp hk)⟩
theorem Cw.sym {N M:Nat}{A B:List (List Int)}(h:Cw N A)(h':Cw M B):Cw (N+M) (gF A B):=by
 refine⟨qB h.nd h'.nd,?_,λk hk=>?_⟩
 ·unfold gF
  rw[IR];have a:=J8 (λk=>decide (k∉B)) A
  have b:=J8 (λk=>decide (k∉A)) B
  have:=h.len;have:=h'.len
  omega
 ·rcases symK_mem.mp hk with q|q
  ·exact h.ne k q.1
  ·exact h'.ne k q.1
theorem jU: ∀K:List (List Int),jk (K.map bD)=some K
 | []=>rfl
 |k::K=>by
  rw[Ix];show(eQ (k.map D.int)).bind (λk=>(jk (K.map bD)).map (k:: ·))=_
  rw[iF,Iw,jU K];rfl
theorem rY {N M:Nat}{A B:List (List Int)}(h:Cw N A)(h':Cw M B)(hl:N+M<=1000):gW [kD A,kD B]=some (kD (srt (gF A B))):=by
 apply ca (kd:=.n) (n:=2) (t:=qA) (ρ:=[.v (kD A),.v (kD B)])
 unfold qA;refine bB ?_
 show((jk (A.map bD)).bind λk1=>(jk (B.map bD)).bind λk2=>if(k1.Nodup/\k2.Nodup)/\k1.length+k2.length<=1000/\(∀k∈k1,k≠[])/\(∀k∈k2,k≠[]) then some (D.lst ((aR aW (gF k1 k2)).map bD)) else none)=_
 rw[jU,jU,Iw,Iw,if_pos ⟨⟨h.nd,h'.nd⟩,by have:=h.len;have:=h'.len;omega,h.ne,h'.ne⟩]
theorem mem_srt {K:List (List Int)}{k:List Int}:k∈srt K↔k∈K:=(aY (lt:=aW) K).mem_iff
theorem qQ {n:Nat}{o:List Nat}(O:Ord n o): ∀k,k<=n->o.take k∈jw n k
 |0,_=>by simp[jw]
 |k+1,h=>by
  have hk:k<o.length:=by rw[O.len];omega
  have e:o.getD k 0=o[k]:=by rw[Jj,Iq hk];rfl
  rw[TF,Iq hk];refine LG.mpr ⟨o.take k,qQ O k (by omega),Jd.mpr ⟨o.getD k 0,JU.mpr ⟨Ja.mpr (O.get (by omega)),?_⟩,by rw[e];rfl⟩⟩
  rw[J5,decide_eq_false_iff_not];intro hm;obtain⟨i,hi,ei⟩:=K9 hm
  rw[Lg] at hi;rw[O4] at ei;have e2:o.getD i 0=o[i]'(by omega):=by rw[Jj,Iq (by omega)];rfl
  have:=O.inj (show i<n by omega) (show k<n by omega) (by rw[e2,ei])
  omega
theorem At: ∀n,n<=6->(jw n n).length<=720:=by decide+kernel
theorem mt {n:Nat}(hn:n<=6){L:List (List Int)}(nd:L.Nodup)(h:kI n L):L.length<=720:=by
 have:=Mh nd (l₂:=(jw n n).map zs) λk hk=>by
  obtain⟨o,O,rfl⟩:=h k hk
  have m:=qQ O n (Iv _)
  rw[show o.take n=o from K4 (by rw[O.len];exact Iv _)] at m
  exact Mf m
 rw[Iu] at this;exact JS this (At n hn)
theorem oZ {g:FG}{i:Nat}{st:List (List Int)->Sl->az}{fk:FE}{n:Nat}(hn:n<=6)(hg: ∀acc s d,g d (st acc s)=some (st acc (.v d)))(hk: ∀acc d,fk (st acc (.v d))=some d)(ht: ∀acc s,rm i (st acc s)=some acc)(hs: ∀acc acc' s,(st acc s).set i (.ob (.tset acc'))=st acc' s):
 ∀(ks acc:List (List Int)) (s:Sl),acc.Nodup->kI n acc->kI n ks-> ∃s',dP g (fP (x6 i fk) (cH (rn lM i fk)) (cH (rn jT i fk))) (ks.map bD) (st acc s)=.nx (st (ks.foldl ig acc) s')
 | [],acc,s,_,_,_=>⟨s,rfl⟩
 |k::ks,acc,s,nd,ha,hl=>by
  have hb:=mt hn nd ha
  have ha':kI n (ig acc k):=λz hz=>by
   have:=(tf acc k z).mp hz
   by_cases e:z=k
   ·rw[e];exact hl k Jh
   ·rw[if_neg e] at this;exact ha z this
  obtain⟨s',h⟩:=oZ hn hg hk ht hs ks (ig acc k) (.v (bD k)) (wj nd k) ha' λz hz=>hl z (IZ _ hz)
  have kk:(fk (st acc (.v (bD k)))).bind rC=some k:=by rw[hk];exact iF k
  have din:x6 i fk (st acc (.v (bD k)))=some (decide (k∈acc)):=by
   unfold x6;rw[ht,Iw,kk];rfl
  have op: ∀f,cH (rn f i fk) (st acc (.v (bD k)))=.nx (st (f acc k) (.v (bD k))):=λf=>by
   unfold cH rn;rw[ht,Iw,kk,Iw,if_pos (by omega),hs]
  refine⟨s',?_⟩
  rw[Ix];refine(fo (ρ1:=st acc (.v (bD k))) (hg _ _ _) (ρ2:=st (ig acc k) (.v (bD k))) ?_).trans h
  unfold ig
  by_cases c:k∈acc
  ·rw[if_pos c,sW (din.trans (by rw[decide_eq_true c]))];exact op _
  ·rw[if_neg c,rP (din.trans (by rw[decide_eq_false c]))];exact op _
theorem qE {n:Nat}(h:0<n){K:List (List Int)}(hK:kI n K): ∀k∈K,k≠[]:=λk hk e=>by
 obtain⟨o,O,rfl⟩:=hK k hk
 have l1:=O.len
 have:=congrArg KU e
 unfold zs at this;simp at this;rw[this] at l1;simp at l1;omega
theorem BJ {n:Nat}(h0:0<n)(hn:n<=6){ks:List (List Int)}(hk:kI n ks):en [kD ks]=some (kD (fy ks)):=by
 obtain⟨s',h⟩:=oZ hn (g:=gN 2) (i:=1) (fk:=ag 2) (st:=λacc s=>[.v (.lst (ks.map bD)),.ob (.tset acc),s]) (λ_ _ _=>rfl) (λ_ _=>rfl) (λ_ _=>rfl) (λ_ _ _=>rfl) ks [] .no MP (λ_ h=>nomatch h) hk
 apply ca (kd:=.n) (n:=3) (t:=fZ)
 unfold fZ;refine(ay (ρ':=[.v (.lst (ks.map bD)),.ob (.tset []),.no]) rfl).trans ((ay ((eV (bC (nz rfl))).trans h)).trans (bB ?_))
 unfold yd;show(some (ks.foldl ig [])).bind _=_;rw[Iw];have so:kI n (oz ks):=λz hz=>hk z (Et hz)
 have:=mt hn (tY ks) so
 unfold oz at this;rw[if_pos ⟨by omega,λk hk'=>qE h0 so k hk'⟩]
 rfl
theorem va {a:Nat}(h:a<=20000):a<=sizeLine:=by rw[JP];omega
theorem yb {m:Nat}{gi1 gi2:FA}{g1 g2:FG}{p1 p2:FT}{f:FE}{ρ:az}{ds ys:List D}(h1:gi1 ρ=some ds)(h2:mx g1 p1 (zn gi2 g2 p2 f) (ρ++IC m .no) ds=some ys)(h3:ys.length<=20000):ly m gi1 g1 p1 gi2 g2 p2 f ρ=some (.lst ys):=by
 unfold ly;rw[h1,Iw,h2,Iw,if_pos (va h3)]
theorem tZ {n:Nat}(r x:List Nat)(hn:n<=6): ∀K:List (List Int),(bK n r x K).length<=36*K.length
 | []=>by simp[bK]
 |k::K=>by
  unfold bK;rw[J6,IR,Jg];have h1:=tZ r x hn K
  unfold bK at h1;have h2:(eI n r x k).length<=n*n:=by unfold eI;rw[Iu];exact EJ n _
  have h3:n*n<=6*6:=MO hn hn
  omega
theorem kh {n:Nat}{r x:List Nat}(h2:2<=n)(hn:n<=6)(R:Ord n r)(X:Ord n x){K:List (List Int)}(hK:kI n K)(hl:K.length<=500):cB [dA r x,kD K]=some (kD (pD n r x K)):=by
 apply ca (kd:=.n) (n:=2) (t:=mD) (ρ:=[.v (dA r x),.v (kD K)])
 unfold mD;refine bB ((cf (ds:=[kD (bK n r x K)]) (aG ?_ rfl) rfl).trans (BJ (by omega) hn (yC hK)))
 have e:K=(K.map uz).map zs:=by
  rw[I0];refine(Sw K).symm.trans (JH λk hk=>?_)
  obtain⟨o,O,rfl⟩:=hK k hk
  show zs o=zs (uz (zs o));rw[po]
 refine yb (ds:=K.map bD) (ys:=(bK n r x K).map bD) (nz rfl) ?_ (by rw[Iu];have:=tZ r x hn K;omega)
 refine(hV (h:=bD) (q:=λ_=>true) (o:=λk=>(eI n r x k).map bD) K λk hk=>⟨[.v (dA r x),.v (kD K),.v (bD k),.no,.no,.no],rfl,rfl,λ_=>?_⟩).trans ?_
 ·obtain⟨o,O,rfl⟩:=hK k hk
  refine uH (ds:=(sp n (cA r x o)).map λp=>uA o p.1 p.2) (nz ((cf (ds:=[dA r x,aw o]) (aG rfl (aG (by rw[mZ];rfl) rfl)) rfl).trans ((zR O R.len X.len (by omega) (by omega)).trans (by rw[BR O.len])))) ?_
  refine(hV (h:=λp:Nat×Nat=>uA o p.1 p.2) (q:=λ_=>true) (o:=λp=>[bD (zs (ki o p.1 p.2))]) (sp n (cA r x o)) λp hp=>⟨[.v (dA r x),.v (kD K),.v (bD (zs o)),.v (nI p.1),.v (nI p.2),.v (aw (ki o p.1 p.2))],rfl,rfl,λ_=>qy (by rw[<-mZ (ki o p.1 p.2)];rfl)⟩).trans ?_
  rw[Lw.mpr (λ_ _=>rfl),mK]
  unfold eI;rw[po,I0];rfl
 ·rw[Lw.mpr (λ_ _=>rfl)]
  unfold bK;rw[LH]
def HP:FS:=ax (du 2 (di (ah)))
 (ax (dE (xv (cq (aN 0 1 aU (bT (ab (aE (.int 9)) (ah)))) (bT (ah)))) (gN 3) (ax (gZ 4 (gn dz (cq (aN 0 1 bI (bT (ab (ag 1) (ah)))) (bT (ah)))))
 (fP (bx (aj (lW true) (ag 4) (cJ 2))) (cH (aN 2 1 kT (bT (ab (ag 4) (ah))))) (skip))))
 (aV (ak gL (ab (cJ 2) (ah)))))
theorem BC {N:Nat}{a b:Int}(B:Bag N a b)(hN:N<=100000){n:Nat}(h0:0<n)(hn:n<=6): ∃(K:List (List Int)) (N':Nat) (a' b':Int) (ρ:az),HP (gr 5 (aM a b) [nI n])=.rt (kD K) ρ/\lZ ρ=some (aM a' b')/\Bag N' a' b'/\N'<=N+100/\Cw 120 K/\kI n K/\K.length<=8:=by
 obtain⟨d,a1,b1,e1,B1,d0,d1⟩:=iY (m:=9) B (by omega) (by decide) (by decide)
 obtain⟨m,rfl⟩: ∃m:Nat,d=m:=⟨d.toNat,by omega⟩
 have q1:du 2 (di (ah)) (gr 5 (aM a b) [nI n])=.nx [.arg (aM a b),.v (nI n),.own [],.no,.no]:=(gM (jc rfl (by simp))).trans rfl
 have q2:xv (cq (aN 0 1 aU (bT (ab (aE (.int 9)) (ah)))) (bT (ah))) [.arg (aM a b),.v (nI n),.own [],.no,.no]=some (qX 0 m,[.arg (aM a1 b1),.v (nI n),.own (([]:List (List Nat)).map aw),.no,.no]):=by
  have:cq (aN 0 1 aU (bT (ab (aE (.int 9)) (ah)))) (bT (ah)) [.arg (aM a b),.v (nI n),.own [],.no,.no]=some ([.int m],[.arg (aM a1 b1),.v (nI n),.own (([]:List (List Nat)).map aw),.no,.no]):=
   fA (bL (i:=0) (n:=1) (b0:=aM a b) (ds:=[.int 9]) rfl (bC rfl) rfl rfl e1) rfl
  unfold xv;rw[this];show(if(m:Int).natAbs<4000000000 then _ else _)=_
  rw[if_pos (by omega),Lq]
 have ul:(qX 0 m).length=m:=by unfold qX;simp
 obtain⟨ρ',lp,L,a',b',s3,s4,hL,hD,hO,B',rfl⟩:=mJ (g:=gN 3) (b:=ax (gZ 4 (gn dz (cq (aN 0 1 bI (bT (ab (ag 1) (ah)))) (bT (ah)))))
  (fP (bx (aj (lW true) (ag 4) (cJ 2))) (cH (aN 2 1 kT (bT (ab (ag 4) (ah))))) (skip)))
  (P:=λi ρ=> ∃(L:List (List Nat)) (a' b':Int) (s3 s4:Sl),L.length<=i/\(L.map zs).Nodup/\(∀o∈L,Ord n o)/\Bag (N+1+n*i) a' b'/\ρ=[.arg (aM a' b'),.v (nI n),.own (L.map aw),s3,s4]) (qX 0 m) 0 (λd hd i ρ hi hρ=>by
    obtain⟨L,a',b',s3,s4,hL,hD,hO,B',rfl⟩:=hρ
    have hi:i<m:=by rw[ul] at hi;omega
    have hm:n*i<=6*8:=MO hn (by omega)
    obtain⟨o,a2,b2,e2,Oo,B2⟩:=m8 B' (n:=n) (by omega) (by omega)
    have t1:gZ 4 (gn dz (cq (aN 0 1 bI (bT (ab (ag 1) (ah)))) (bT (ah)))) [.arg (aM a' b'),.v (nI n),.own (L.map aw),.v d,s4]=.nx [.arg (aM a2 b2),.v (nI n),.own (L.map aw),.v d,.v (aw o)]:=
     (i6 (rA (ds:=[.lst (o.map nI)]) (d:=aw o) (fA (bL (i:=0) (n:=1) (b0:=aM a' b') (ds:=[nI n]) rfl (bC rfl) rfl rfl e2) rfl) rfl)).trans rfl
    have t2:bx (aj (lW true) (ag 4) (cJ 2)) [.arg (aM a2 b2),.v (nI n),.own (L.map aw),.v d,.v (aw o)]=some (!decide (zs o∈L.map zs)):=cw ((aF (x:=aw o) (y:=.lst (L.map aw)) rfl rfl).trans (by rw[mZ,vg];exact EX _ _))
    have B3:Bag (N+1+n*(i+1)) a2 b2:=by rw[Nat.mul_succ,<-QY];exact B2
    by_cases c:zs o∈L.map zs
    ·rw[decide_eq_true c] at t2
     exact⟨_,_,rfl,(ay t1).trans (qH t2),L,a2,b2,_,_,by omega,hD,hO,B3,rfl⟩
    ·rw[decide_eq_false c] at t2
     refine⟨_,_,rfl,(ay t1).trans ((sW t2).trans (Aw (i:=2) (b0:=L.map aw) (bs:=L.map aw) (d:=aw o) rfl (bC rfl) rfl (by rw[Iu];omega))),L++[o],a2,b2,_,_,by simp;omega,?_,λu hu=>?_,B3,by rw[JK];rfl⟩
     ·rw[JK];exact KJ.mpr ⟨hD,by simp,λu hu v hv=>by rw[Ix,Ou,Jc] at hv;rw[hv];exact λe=>c (e▸hu)⟩
     ·rcases IQ.mp hu with q|q
      ·exact hO u q
      ·rw[Jc] at q;rw[q];exact Oo) [.arg (aM a1 b1),.v (nI n),.own (([]:List (List Nat)).map aw),.no,.no] ⟨[],a1,b1,.no,.no,by simp,by simp,by simp,by simpa using B1,rfl⟩
 rw[ul] at hL B';have hm:n*m<=6*8:=MO hn (by omega)
 have C:Cw 120 (L.map zs):=⟨hD,by rw[Iu];omega,λk hk=>by
  obtain⟨o,ho,rfl⟩:=Jd.mp hk
  intro e;have l1:=(hO o ho).len
  have:=congrArg KU e
  unfold zs at this;simp at this;rw[this] at l1;simp at l1;omega⟩
 have hs:=C3 (ks:=L.map zs) (by rw[Iu];omega) C.ne
 refine⟨srt (L.map zs),N+1+n*(0+m),a',b',[.arg (aM a' b'),.v (nI n),.own (L.map aw),s3,s4],?_,rfl,B',by rw[LY];omega,C.srt,λk hk=>?_,by rw[(aY (lt:=aW) _).length_eq,Iu];omega⟩
 rotate_left
 ·obtain⟨o,ho,rfl⟩:=Jd.mp (mem_srt.mp hk)
  exact⟨o,hO o ho,rfl⟩
 unfold HP;refine(ay q1).trans ((ay ((eV q2).trans lp)).trans (bB ((eM (ds:=[.lst (L.map aw)]) rfl).trans ?_)))
 rw[vg];exact hs
theorem tH {N:Nat}{a b:Int}(B:Bag N a b)(hN:N<=90000){n:Nat}(h0:0<n)(hn:n<=6): ∃(K:List (List Int)) (N':Nat) (a' b':Int),eO (aM a b) [nI n]=some (kD K,aM a' b')/\Bag N' a' b'/\N'<=N+101/\Cw 120 K/\kI n K/\(n=6->K.length<=8):=by
 obtain⟨d,a1,b1,e1,B1,d0,d1⟩:=iY (m:=8) B (by omega) (by decide) (by decide)
 have t1:xJ (ij qZ (aN 0 1 aU (bT (ab (aE (.int 8)) (ah)))) (pu (aE (.int 3)))) (gr 5 (aM a b) [nI n])=some (decide (d=3),gr 5 (aM a1 b1) [nI n]):=by
  have:ij qZ (aN 0 1 aU (bT (ab (aE (.int 8)) (ah)))) (pu (aE (.int 3))) (gr 5 (aM a b) [nI n])=some (.bl (decide (d=3)),gr 5 (aM a1 b1) [nI n]):=
   qf (bL (i:=0) (n:=1) (b0:=aM a b) (ds:=[.int 8]) rfl (bC rfl) rfl rfl e1) (lS rfl) ((lz (by rw[g6];omega)).trans (by rw[iR]))
  unfold xJ;rw[this];rfl
 have t2:bx (aj n4 (ag 1) (aE (.int 6))) (gr 5 (aM a1 b1) [nI n])=some (decide ((n:Int)<6)):=cw ((aF (x:=nI n) (y:=.int 6) rfl rfl).trans (mo _ _))
 have go:rG (xJ (ij qZ (aN 0 1 aU (bT (ab (aE (.int 8)) (ah)))) (pu (aE (.int 3))))) (bx (aj n4 (ag 1) (aE (.int 6)))) (gr 5 (aM a b) [nI n])=some (decide (d=3)&&decide ((n:Int)<6),gr 5 (aM a1 b1) [nI n]):=by
  cases h:decide (d=3) with
  |true=>rw[h] at t1;rw[Ej t1 t2,Na]
  |false=>rw[h] at t1;rw[Dz t1,Qj]
 cases h:(decide (d=3)&&decide ((n:Int)<6)) with
 |true=>
  rw[h] at go;rw[JB,decide_eq_true_eq,decide_eq_true_eq] at h;have n5:n<=5:=by omega
  have Sn:kI n ((jw n n).map zs):=λk hk=>by
   obtain⟨o,ho,rfl⟩:=Jd.mp hk
   exact⟨o,Ca ho,rfl⟩
  refine⟨(jw n n).map zs,N+1,a1,b1,?_,B1,by omega,⟨?_,?_,qE h0 Sn⟩,Sn,λe=>absurd e (by omega)⟩
  ·refine Az (kd:=.s) (n:=5) (t:=eL) (ρ:=gr 5 (aM a1 b1) [nI n]) ?_ rfl
   unfold eL;refine uu ((Gi go).trans (bB ((cf (ds:=[nI n]) rfl rfl).trans ((DN n5).trans ?_))))
   rw[vg]
  ·rw[List.nodup_iff_pairwise_ne,KB]
   exact ME (λne e=>ne (EC e)) (DZ n n5)
  ·rw[Iu];exact qG n n5 n (Iv _)
 |false=>
  rw[h] at go;obtain⟨K,N',a',b',ρ,e,ea,B',hN',C,S,l8⟩:=BC B1 (by omega) h0 hn
  refine⟨K,N',a',b',?_,B',by omega,C,S,λ_=>l8⟩
  refine Az (kd:=.s) (n:=5) (t:=eL) (ρ:=ρ) ?_ ea
  unfold eL;exact(ay ((C4 go).trans rfl)).trans e
theorem Bk(l:List Nat):eQ (l.map nI)=some (zs l):=by
 have:=iF (zs l)
 unfold zs at this⊢;rw[I0] at this;exact this
theorem FM: ∀(kvs:tP) (l:List (List Int)),kvs.map (·.1)=l.map iK->intKs kvs=some l:=by
 intro kvs
 induction kvs with
 |nil=>intro l h;cases l with|nil=>rfl|cons _ _=>cases h
 |cons p kvs ih=>
  intro l h;cases l with
  |nil=>cases h
  |cons z l=>
   rw[Ix,Ix] at h;injection h with h1 h2
   obtain⟨a,d⟩:=p
   have h1:a=iK z:=h1
   subst h1;show(intKs.intK (iK z)).bind (λns=>(intKs kvs).map (ns:: ·))=_
   rw[j9,ih l h2];rfl
theorem mq {α:Type}{g:FG}{b:FS}{h:α->D}{out:α->List (List Int)}{P:List (List Int)->az->Prop}: ∀(l:List α),(∀x∈l,∀ks ρ,P ks ρ-> ∃ρ1 ρ2,g (h x) ρ=some ρ1/\b ρ1=.nx ρ2/\P (ks++out x) ρ2)-> ∀ks ρ,P ks ρ-> ∃ρ',dP g b (l.map h) ρ=.nx ρ'/\P (ks++l.flatMap out) ρ'
 | [],_,ks,ρ,p=>⟨ρ,rfl,by simpa using p⟩
 |x::l,H,ks,ρ,p=>by
  obtain⟨ρ1,ρ2,h1,h2,p2⟩:=H x (by simp) ks ρ p
  obtain⟨ρ',e,p'⟩:=mq l (λy hy=>H y (by simp[hy])) (ks++out x) ρ2 p2
  refine⟨ρ',?_,?_⟩
  ·rw[Ix];exact(fo h1 h2).trans e
  ·rw[J6,<-Jb];exact p'
def GP:FS:=fP (fQ (bx (aj qW (ag 4) (ag 5))) (kr (ak (nF 4 fG) (ab (ag 0) (ab (ag 3) (ab (ag 4) (ab (ag 5) (ah)))))))) (ax (du 6 (ak j5 (ab (ag 3) (ah))))
 (ax (eR (gT 2 (iH (bH 6 (ag 4)) (iH (bH 6 (ag 5)) (mG)))) (pu (dr (ab (aj bd (ag 3) (ag 5)) (ab (aj bd (ag 3) (ag 4)) (ah))))))
 (oH 2 (gh (cJ 6)) (tm (je (bx (nA 2 (gh (cJ 6)) (aE (.bl false))))))))) (skip)
section
variable {n:Nat}{r x:List Nat}(h2:2<=n)(hn:n<=6)(R:Ord n r)(X:Ord n x)
include h2 hn R X
theorem BW(C:D){o:List Nat}(Oo:Ord n o){kvs:tP}{ks:List (List Int)}(I:PInv kvs ks)(hk:kI n ks){a b:Nat}(ha:a<n)(hb:b<n)(s6:Sl):
 ∃kvs' s6',GP [.v (dA r x),.v C,.ob (.dT kvs),.v (aw o),.v (nI a),.v (nI b),s6]=.nx [.v (dA r x),.v C,.ob (.dT kvs'),.v (aw o),.v (nI a),.v (nI b),s6']/\PInv kvs' (ks++if(decide (a≠b)&&cA r x o a b)=true then [zs (ki o a b)] else []):=by
 have ol:=Oo.len
 let st:tP->Sl->az:=λkvs s6=>[.v (dA r x),.v C,.ob (.dT kvs),.v (aw o),.v (nI a),.v (nI b),s6]
 have ne:bx (aj qW (ag 4) (ag 5)) (st kvs s6)=some (decide (a≠b)):=by
  refine cw ((aF (x:=nI a) (y:=nI b) rfl rfl).trans ?_)
  rw[p7 (by rw[g6];omega),pV]
  congr 2
  rw[KO];simp
 have w:fQ (bx (aj qW (ag 4) (ag 5))) (kr (ak (nF 4 fG) (ab (ag 0) (ab (ag 3) (ab (ag 4) (ab (ag 5) (ah))))))) (st kvs s6)=some (decide (a≠b)&&cA r x o a b):=
  me ne (λz=>by
   rw[z,Na];refine m6 ((cf (ds:=[dA r x,aw o,nI a,nI b]) rfl rfl).trans ((ue Oo.len R.len X.len (by omega) (by omega) ha hb).trans ?_))
   rw[wK Oo R X ha hb (of_decide_eq_true z)]) (λz=>by rw[z];rfl)
 have kl:kvs.length<=720:=by
  obtain⟨l,h1,h2,h3⟩:=I.keys
  have e:=congrArg KU h1
  rw[Iu,Iu] at e;rw[e];exact mt hn h2 λz hz=>hk z ((h3 z).mp hz)
 cases e:(decide (a≠b)&&cA r x o a b) with
 |false=>
  rw[e] at w;refine⟨kvs,s6,qH w,?_⟩
  rw[if_neg (by decide),KD];exact I
 |true=>
  rw[e] at w;have q1:du 6 (ak j5 (ab (ag 3) (ah))) (st kvs s6)=.nx (st kvs (.own (o.map nI))):=(gM (ds:=o.map nI) rfl).trans rfl
  have q2:eR (gT 2 (iH (bH 6 (ag 4)) (iH (bH 6 (ag 5)) (mG)))) (pu (dr (ab (aj bd (ag 3) (ag 5)) (ab (aj bd (ag 3) (ag 4)) (ah))))) (st kvs (.own (o.map nI)))=.nx (st kvs (.own ((ki o a b).map nI))):=by
   refine ui (lS (fS (aG ((aF (x:=aw o) (y:=nI b) rfl rfl).trans (h7 (by omega))) (aG ((aF (x:=aw o) (y:=nI a) rfl rfl).trans (h7 (by omega))) rfl)) (by simp))) ?_
   simp only[gT,Jg,LX,iH];rw[gD (bs:=o.map nI) (j:=a) rfl rfl (by simp;omega)]
   simp only[Iw];rw[gD (bs:=(o.map nI).set a (nI (o.getD b 0))) (j:=b) rfl rfl (by simp;omega)]
   simp only[Iw,mG,mR];rfl
  have ky:gh (cJ 6) (st kvs (.own ((ki o a b).map nI)))=some (zs (ki o a b)):=Bk _
  have vl:tm (je (bx (nA 2 (gh (cJ 6)) (aE (.bl false))))) (st kvs (.own ((ki o a b).map nI)))=some (.bl (match eN kvs (iK (zs (ki o a b))) with|some (.bl b)=> !b|_=>true)):=by
   have dg:nA 2 (gh (cJ 6)) (aE (.bl false)) (st kvs (.own ((ki o a b).map nI)))=some ((eN kvs (iK (zs (ki o a b)))).getD (.bl false)):=by
    unfold nA;show(some kvs).bind _=_;rw[Iw,ky,Iw];rfl
   by_cases m:zs (ki o a b)∈ks
   ·rw[I.val _ m] at dg⊢
    exact kE (lj (cw dg))
   ·rw[I.non _ m] at dg⊢
    exact kE (lj (b:=false) (cw dg))
  have q3:oH 2 (gh (cJ 6)) (tm (je (bx (nA 2 (gh (cJ 6)) (aE (.bl false)))))) (st kvs (.own ((ki o a b).map nI)))=.nx (st (xi kvs (zs (ki o a b))) (.own ((ki o a b).map nI))):=by
   unfold oH;rw[show rF 2 (st kvs (.own ((ki o a b).map nI)))=some kvs from rfl];dsimp only;rw[vl];dsimp only;rw[ky];dsimp only;rw[if_pos (by omega)]
   rfl
  refine⟨_,_,(sW w).trans ((ay q1).trans ((ay q2).trans q3)),?_⟩
  rw[if_pos rfl];exact I.step _
theorem uK {K:List (List Int)}(hK:kI n K):dw [dA r x,kD K]=some (kD (pD n r x K)):=by
 let Pr:List (List Int)->az->Prop:=λks ρ=>kI n ks/\ ∃kvs s3 s4 s5 s6,ρ=[.v (dA r x),.v (kD K),.ob (.dT kvs),s3,s4,s5,s6]/\PInv kvs ks
 have L:=mq (g:=gN 3) (b:=dE (bT (bQ (ab (ak cE (ab (ag 3) (ah))) (ah)))) (gN 4) (dE (bT (bQ (ab (ak cE (ab (ag 3) (ah))) (ah)))) (gN 5) GP)) (h:=bD) (out:=eI n r x) (P:=Pr) K (λk hk ks ρ hρ=>by
  obtain⟨Sk,kvs,s3,s4,s5,s6,rfl,I⟩:=hρ
  obtain⟨o,Oo,rfl⟩:=hK k hk
  have lenE: ∀(kvs:tP) (s4 s5 s6:Sl),bQ (ab (ak cE (ab (ag 3) (ah))) (ah)) [.v (dA r x),.v (kD K),.ob (.dT kvs),.v (aw o),s4,s5,s6]=some ((Iy n).map nI):=λkvs s4 s5 s6=>fN (n:=n) (aG (by rw[iz o _ _ rfl,Oo.len]) rfl) (by omega)
  let Pa:List (List Int)->az->Prop:=λks ρ=>kI n ks/\ ∃kvs s4 s5 s6,ρ=[.v (dA r x),.v (kD K),.ob (.dT kvs),.v (aw o),s4,s5,s6]/\PInv kvs ks
  have La:=mq (g:=gN 4) (b:=dE (bT (bQ (ab (ak cE (ab (ag 3) (ah))) (ah)))) (gN 5) GP) (h:=nI) (out:=λa=>((Iy n).filter λb=>decide (a≠b)&&cA r x o a b).map λb=>zs (ki o a b)) (P:=Pa) (Iy n) (λa ha ks ρ hρ=>by
   obtain⟨Sk,kvs,s4,s5,s6,rfl,I⟩:=hρ
   rw[Ja] at ha
   let Pb:List (List Int)->az->Prop:=λks ρ=>kI n ks/\ ∃kvs s5 s6,ρ=[.v (dA r x),.v (kD K),.ob (.dT kvs),.v (aw o),.v (nI a),s5,s6]/\PInv kvs ks
   have Lb:=mq (g:=gN 5) (b:=GP) (h:=nI) (out:=λb=>if(decide (a≠b)&&cA r x o a b)=true then [zs (ki o a b)] else []) (P:=Pb) (Iy n) (λb hb ks ρ hρ=>by
    obtain⟨Sk,kvs,s5,s6,rfl,I⟩:=hρ
    rw[Ja] at hb;obtain⟨kvs',s6',e,I'⟩:=BW h2 hn R X (kD K) Oo I Sk ha hb s6
    refine⟨_,_,rfl,e,λz hz=>?_,_,_,_,rfl,I'⟩
    rcases IQ.mp hz with q|q
    ·exact Sk z q
    ·split at q
     ·rw[Jc] at q;exact⟨_,Oo.exx ha hb,q⟩
     ·cases q) ks [.v (dA r x),.v (kD K),.ob (.dT kvs),.v (aw o),.v (nI a),s5,s6] ⟨Sk,_,_,_,rfl,I⟩
   obtain⟨ρ',e,p⟩:=Lb
   have fe:((Iy n).flatMap λb=>if(decide (a≠b)&&cA r x o a b)=true then [zs (ki o a b)] else [])=((Iy n).filter λb=>decide (a≠b)&&cA r x o a b).map λb=>zs (ki o a b):=by
    generalize Iy n=l
    induction l with
    |nil=>rfl
    |cons b l ih=>
     rw[J6,ih]
     by_cases c:(decide (a≠b)&&cA r x o a b)=true
     ·rw[if_pos c,Nx (p:=λb=>decide (a≠b)&&cA r x o a b) c];rfl
     ·rw[if_neg c,Ny (p:=λb=>decide (a≠b)&&cA r x o a b) c];rfl
   rw[fe] at p;obtain⟨Sk',kvs',s5',s6',rfl,I'⟩:=p
   exact⟨_,_,rfl,(eV (bC (lenE _ _ _ _))).trans e,Sk',_,_,_,_,rfl,I'⟩) ks [.v (dA r x),.v (kD K),.ob (.dT kvs),.v (aw o),s4,s5,s6] ⟨Sk,_,_,_,_,rfl,I⟩
  obtain⟨ρ',e,p⟩:=La
  have fe:((Iy n).flatMap λa=>((Iy n).filter λb=>decide (a≠b)&&cA r x o a b).map λb=>zs (ki o a b))=eI n r x (zs o):=by
   unfold eI sp;rw[po,LH];congr 1
   funext a;rw[I0];rfl
  rw[fe] at p;obtain⟨Sk',kvs',s4',s5',s6',rfl,I'⟩:=p
  refine⟨[.v (dA r x),.v (kD K),.ob (.dT kvs),.v (aw o),s4,s5,s6],_,by rw[mZ];rfl,(eV (bC (lenE _ _ _ _))).trans e,Sk',_,_,_,_,_,rfl,I'⟩) [] [.v (dA r x),.v (kD K),.ob (.dT []),.no,.no,.no,.no] ⟨λ_ h=>(nomatch h),_,_,_,_,_,rfl,.start⟩
 obtain⟨ρ',e,Sk,kvs,s3,s4,s5,s6,rfl,I⟩:=L
 rw[PZ] at I Sk;obtain⟨l,i1,i2,i3,i4,i5⟩:=I.srt
 have Sl':kI n l:=λz hz=>Sk z (i2 z hz)
 have nl:l.Nodup:=by
  obtain⟨l',h1,h2,h3⟩:=I.keys
  have:=FM kvs l' h1
  rw[i1] at this;cases this
  exact h2
 have kl:=mt hn nl Sl'
 apply ca (kd:=.n) (n:=7) (t:=gJ)
 unfold gJ;refine(ay (ρ':=[.v (dA r x),.v (kD K),.ob (.dT []),.no,.no,.no,.no]) rfl).trans ?_
 refine(ay ((eV (bC (nz rfl))).trans e)).trans ?_
 show aV _ [.v (dA r x),.v (kD K),.ob (.dF kvs),s3,s4,s5,s6]=_;refine bB ?_
 have c1:bP 1 (v9 2) (gN 7) (kr (CM 2 (ag 7))) (ag 7) [.v (dA r x),.v (kD K),.ob (.dF kvs),s3,s4,s5,s6]=some (kD (l.filter λz=>decide (((K.flatMap (eI n r x)).count z) % 2=1))):=by
  refine fu (ds:=l.map bD) ?_ (by rw[Iu];omega) (kP (h:=bD) (o:=bD) l λz hz=>⟨_,rfl,?_,λ_=>rfl⟩)
  ·unfold v9
   show(some kvs).bind _=_;rw[Iw,i1];rfl
  ·refine m6 ?_
   unfold CM;show(some kvs).bind _=_;rw[Iw];show((some (bD z)).bind rC).bind _=_;rw[Iw,show rC (bD z)=some z from iF z,Iw];exact i3 z hz
 have fl:=J8 (λz=>decide (((K.flatMap (eI n r x)).count z) % 2=1)) l
 refine((eM (aG c1 rfl)).trans ?_)
 show((jk ((l.filter λz=>decide (((K.flatMap (eI n r x)).count z) % 2=1)).map bD)).bind λks=>if ks.length<=100000/\ks.Nodup/\ ∀k∈ks,k≠[] then some (D.lst ((aR aW ks).map bD)) else none)=_
 rw[jU,Iw,if_pos ⟨by omega,nl.filter _,λk hk=>qE (by omega) Sl' k (JU.mp hk).1⟩,i4]
 rfl
end
theorem yA {n:Nat}(hn:n<=5){L:List (List Int)}(nd:L.Nodup)(h:kI n L):L.length<=120:=by
 have:=Mh nd (l₂:=(jw n n).map zs) λk hk=>by
  obtain⟨o,O,rfl⟩:=h k hk
  have m:=qQ O n (Iv _)
  rw[show o.take n=o from K4 (by rw[O.len];exact Iv _)] at m
  exact Mf m
 rw[Iu] at this;exact JS this (qG n hn n (Iv _))
theorem xY {n:Nat}{r x:List Nat}(h2:2<=n)(hn:n<=6){K:List (List Int)}(hK:kI n K)(h8:n=6->K.length<=8):Cw 288 (pD n r x K):=by
 refine⟨kB _,?_,qE (by omega) (vL hK)⟩
 by_cases h:n=6
 ·have a:(pD n r x K).length<=(bK n r x K).length:=by
   show(fy (bK n r x K)).length<=_;unfold fy;rw[(aY (lt:=aW) _).length_eq];exact Bu _
  have b:=tZ (n:=n) r x hn K
  have:=h8 h
  omega
 ·have:=yA (n:=n) (by omega) (kB (bK n r x K)) (vL hK)
  show(fy (bK n r x K)).length<=_;omega
theorem xS {n:Nat}{r x:List Nat}(h2:2<=n)(hn:n<=6)(R:Ord n r)(X:Ord n x){A B:List (List Int)}(hA:Cw 120 A)(hB:Cw 120 B)(sA:kI n A)(sB:kI n B)(lA:n=6->A.length<=8)(lB:n=6->B.length<=8):fW [dA r x,kD A,kD B]=some (.bl true):=by
 apply qC (kd:=.s) (n:=7) (t:=im)
 unfold im
 let F:=pD n r x A
 have hF:Cw 288 F:=xY h2 hn sA lA
 have hG:Cw 288 (pD n r x B):=xY h2 hn sB lB
 have al:=hA.len
 have bl:=hB.len
 let C:=srt (gF A B)
 have hC:Cw 240 C:=(hA.sym hB).srt
 have sC:kI n C:=λz hz=>by
  rcases symK_mem.mp (mem_srt.mp hz) with q|q
  ·exact sA z q.1
  ·exact sB z q.1
 have dK: ∀K:List (List Int),cV (kD K)<=32:=GG
 have d2:cV (.lst [kD A,kD B])<=32:=by
  unfold cV cC cC cC;have h1:cV (kD A)<=2:=by show cV (.lst (A.map bD))<=2;unfold cV;have:=kw A;omega
  have h2:cV (kD B)<=2:=by show cV (.lst (B.map bD))<=2;unfold cV;have:=kw B;omega
  omega
 have eA:cB [dA r x,kD A]=some (kD F):=kh h2 hn R X sA (by omega)
 have eB:cB [dA r x,kD B]=some (kD (pD n r x B)):=kh h2 hn R X sB (by omega)
 have eC:cB [dA r x,kD C]=some (kD (pD n r x C)):=kh h2 hn R X sC (by have:=hC.len;omega)
 have eD:dw [dA r x,kD A]=some (kD F):=uK h2 hn R X sA
 have eAB:gW [kD A,kD B]=some (kD C):=rY hA hB (by omega)
 have eFG:gW [kD F,kD (pD n r x B)]=some (kD (pD n r x C)):=by
  rw[rY hF hG (by omega)]
  have:srt (gF F (pD n r x B))=pD n r x C:=(Bz hA.nd hB.nd).symm
  rw[this]
 have lF:=hF.len
 let st:Sl->Sl->Sl->az:=λa b c=>[.v (dA r x),.v (kD A),.v (kD B),.v (.lst [kD A,kD B]),a,b,c]
 refine⟨st (.v (kD F)) (.own (F.map bD++[.non])) (.v (kD C)),?_⟩
 refine(ay (ρ':=st .no .no .no) ((bY (jc (ds:=[kD A,kD B]) rfl (by simp))).trans rfl)).trans ?_
 refine(ay (ρ':=st (.v (kD F)) .no .no) ((bY ((cf (ds:=[dA r x,kD A]) rfl rfl).trans eD)).trans rfl)).trans ?_
 refine(ay (ρ':=st (.v (kD F)) (.own (F.map bD)) .no) ((gM ((cf (ds:=[dA r x,kD A]) rfl rfl).trans eA)).trans rfl)).trans ?_
 refine(ay (qH (AI (a:=false) (b:=false) (lj (b:=true) (m6 rfl)) (AI (a:=false) (b:=false) (lj (b:=true) (m6 ((eM (ds:=[.lst ((F.map λ_=>true).map D.bl)]) (aG (fu (ds:=F.map bD) rfl (by rw[Iu];omega) ((eY (h:=bD) (o:=λ_=>.bl true) F λk hk=>⟨_,rfl,rfl⟩).trans (by rw[I0];rfl))) rfl)).trans ((B6 _).trans (by simp))))) (cw ((aF (x:=kD F) (y:=kD F) rfl rfl).trans (wq (dK F)))))))).trans ?_
 refine(ay (ρ':=st (.v (kD F)) (.own (F.map bD)) (.v (kD C))) ((bY ((cf (ds:=[kD A,kD B]) rfl rfl).trans eAB)).trans rfl)).trans ?_
 refine(ay (qH (cw ((aF ((cf (ds:=[dA r x,kD C]) rfl rfl).trans eC) ((cf (ds:=[kD F,kD (pD n r x B)]) (aG ((cf (ds:=[dA r x,kD A]) rfl rfl).trans eA) (aG ((cf (ds:=[dA r x,kD B]) rfl rfl).trans eB) rfl)) rfl).trans eFG)).trans (wq (dK _)))))).trans ?_
 refine(ay (ρ':=st (.v (kD F)) (.own (F.map bD++[.non])) (.v (kD C))) ((Aw (b0:=F.map bD) (bs:=F.map bD) (d:=.non) rfl (bC rfl) rfl (by rw[Iu];omega)).trans rfl)).trans ?_
 exact bB (kE (vm (cw ((aF (x:=.lst [kD A,kD B]) rfl (jc rfl (by simp))).trans (vU d2))) (cw ((aF (y:=kD F) ((cf (ds:=[dA r x,kD A]) rfl rfl).trans eA) rfl).trans (vU (dK F))))))
theorem DV(ns:List Int)(hn:ns.length<=63):De [lN ns]=some (.bl true):=by
 refine qC (kd:=.s) (n:=5) (t:=yD) ?_
 unfold yD;refine Dw (λρ=> ∃s1 s2 s3 s4,ρ=[.v (lN ns),s1,s2,s3,s4]) (AU (ds:=(Iy 2).map nI) (bC (fN (aG rfl rfl) (by omega))) (wa _ (λd hd ρ hρ=>?_) _ ⟨_,_,_,_,rfl⟩)) λρ' hρ'=>⟨ρ',bB rfl⟩
 obtain⟨k,hk,rfl⟩:=Jd.mp hd
 rw[Ja] at hk;obtain⟨s1,s2,s3,s4,rfl⟩:=hρ
 obtain⟨a0,b0,eb,B⟩:=EM ns k (by omega) hn
 obtain⟨d1,a1,b1,e1,B1,d10,d11⟩:=iY (m:=8) B (by omega) (by decide) (by decide)
 obtain⟨n,hm,n2,n6⟩: ∃m:Nat,bd (.lst [.int 2,.int 3,.int 4,.int 4,.int 4,.int 5,.int 5,.int 6]) (.int d1)=some (nI m)/\2<=m/\m<=6:=by
  have:d1=0\/d1=1\/d1=2\/d1=3\/d1=4\/d1=5\/d1=6\/d1=7:=by omega
  rcases this with e|e|e|e|e|e|e|e<;>subst e
  ·exact⟨2,rfl,by omega,by omega⟩
  ·exact⟨3,rfl,by omega,by omega⟩
  ·exact⟨4,rfl,by omega,by omega⟩
  ·exact⟨4,rfl,by omega,by omega⟩
  ·exact⟨4,rfl,by omega,by omega⟩
  ·exact⟨5,rfl,by omega,by omega⟩
  ·exact⟨5,rfl,by omega,by omega⟩
  ·exact⟨6,rfl,by omega,by omega⟩
 obtain⟨r,x,a3,b3,e3,S,B3⟩:=ve B1 (n:=n) n2 (by omega) (by omega)
 obtain⟨K1,N1,a4,b4,c1,B4,hN1,C1,S1,l1⟩:=tH B3 (by omega) (n:=n) (by omega) (by omega)
 obtain⟨K2,N2,a5,b5,c2,B5,hN2,C2,S2,l2⟩:=tH B4 (by omega) (n:=n) (by omega) (by omega)
 refine⟨_,[.v (lN ns),.v (nI k),.own (aM a5 b5),.v (nI n),.v (dA r x)],rfl,?_,⟨_,_,_,_,rfl⟩⟩
 refine(ay (ρ':=[.v (lN ns),.v (nI k),.own (aM a0 b0),s3,s4]) ((gM ((cf (ds:=[lN ns,nI k]) rfl rfl).trans eb)).trans rfl)).trans ?_
 refine(ay (ρ':=[.v (lN ns),.v (nI k),.own (aM a1 b1),.v (nI n),s4]) ((i6 (qf (lS (jc rfl (by simp))) (bL (i:=2) (n:=1) (b0:=aM a0 b0) (ds:=[.int 8]) rfl (bC rfl) rfl rfl e1) hm)).trans rfl)).trans ?_
 refine(ay (ρ':=[.v (lN ns),.v (nI k),.own (aM a3 b3),.v (nI n),.v (dA r x)]) ((i6 (bL (i:=2) (n:=1) (b0:=aM a1 b1) (ds:=[nI n]) rfl (bC rfl) rfl rfl e3)).trans rfl)).trans ?_
 exact((C4 (BK (b:=true) (Ce (DM (ds:=[dA r x,kD K1,kD K2]) (fA (lS rfl) (fA (bL (i:=2) (n:=1) (b0:=aM a3 b3) (ds:=[nI n]) rfl (bC rfl) rfl rfl c1) (fA (bL (i:=2) (n:=1) (b0:=aM a4 b4) (ds:=[nI n]) rfl (bC rfl) rfl rfl c2) rfl))) rfl (xS n2 n6 S.hr S.hx C1 C2 S1 S2 l1 l2))))).trans rfl)
theorem all_mk {l:Uu}{w:Jr}{K:Iz}{h:Heap}{mg:Str->Option Il}{fa:Addr}{f0:Addr}{od0 an0:Option Addr}{sl0:Array (Option Il)}{oc0 kV0 dc0 pm0 cd0 ct0:Il}{f1:Addr}{od1 an1:Option Addr}{sl1:Array (Option Il)}{oc1 kV1 dc1 pm1 cd1 ct1:Il}{f2:Addr}{od2 an2:Option Addr}{sl2:Array (Option Il)}{oc2 kV2 dc2 pm2 cd2 ct2:Il}{f3:Addr}{od3 an3:Option Addr}{sl3:Array (Option Il)}{oc3 kV3 dc3 pm3 cd3 ct3:Il}{f4:Addr}{od4 an4:Option Addr}{sl4:Array (Option Il)}{oc4 kV4 dc4 pm4 cd4 ct4:Il}{f5:Addr}{od5 an5:Option Addr}{sl5:Array (Option Il)}{oc5 kV5 dc5 pm5 cd5 ct5:Il}{f6:Addr}{od6 an6:Option Addr}{sl6:Array (Option Il)}{oc6 kV6 dc6 pm6 cd6 ct6:Il}{f7:Addr}{od7 an7:Option Addr}{sl7:Array (Option Il)}{oc7 kV7 dc7 pm7 cd7 ct7:Il}{f8:Addr}{od8 an8:Option Addr}{sl8:Array (Option Il)}{oc8 kV8 dc8 pm8 cd8 ct8:Il}{f9:Addr}{od9 an9:Option Addr}{sl9:Array (Option Il)}{oc9 kV9 dc9 pm9 cd9 ct9:Il}{f10:Addr}{od10 an10:Option Addr}{sl10:Array (Option Il)}{oc10 kV10 dc10 pm10 cd10 ct10:Il}{f11:Addr}{od11 an11:Option Addr}{sl11:Array (Option Il)}{oc11 kV11 dc11 pm11 cd11 ct11:Il}{f12:Addr}{od12 an12:Option Addr}{sl12:Array (Option Il)}{oc12 kV12 dc12 pm12 cd12 ct12:Il}{f13:Addr}{od13 an13:Option Addr}{sl13:Array (Option Il)}{oc13 kV13 dc13 pm13 cd13 ct13:Il}{f14:Addr}{od14 an14:Option Addr}{sl14:Array (Option Il)}{oc14 kV14 dc14 pm14 cd14 ct14:Il}{f15:Addr}{od15 an15:Option Addr}{sl15:Array (Option Il)}{oc15 kV15 dc15 pm15 cd15 ct15:Il}{f16:Addr}{od16 an16:Option Addr}{sl16:Array (Option Il)}{oc16 kV16 dc16 pm16 cd16 ct16:Il}{f17:Addr}{od17 an17:Option Addr}{sl17:Array (Option Il)}{oc17 kV17 dc17 pm17 cd17 ct17:Il}{f18:Addr}{od18 an18:Option Addr}{sl18:Array (Option Il)}{oc18 kV18 dc18 pm18 cd18 ct18:Il}{f19:Addr}{od19 an19:Option Addr}{sl19:Array (Option Il)}{oc19 kV19 dc19 pm19 cd19 ct19:Il}{f20:Addr}{od20 an20:Option Addr}{sl20:Array (Option Il)}{oc20 kV20 dc20 pm20 cd20 ct20:Il}{f21:Addr}{od21 an21:Option Addr}{sl21:Array (Option Il)}{oc21 kV21 dc21 pm21 cd21 ct21:Il}{f22:Addr}{od22 an22:Option Addr}{sl22:Array (Option Il)}{oc22 kV22 dc22 pm22 cd22 ct22:Il}{f23:Addr}{od23 an23:Option Addr}{sl23:Array (Option Il)}{oc23 kV23 dc23 pm23 cd23 ct23:Il}(X:K.In h)(G:h.Ns IW mg)(hfa:mg "law"=some (.ref fa))
 (a0:KC K IW "order_exchanged"=some (some (.ref f0))) (l0:K.lookup f0=some ⟨oc0,od0,.func (KZ "order_exchanged" "order_exchanged" (aQ be) (aK be) (ai be) .none kV0 dc0 pm0 an0 cd0 ct0),sl0⟩) (c0:Kr K cd0 "order_exchanged"=true) (k0:Ki K (.ref f0)=true)
 (a1:KC K IW "places_from"=some (some (.ref f1))) (l1:K.lookup f1=some ⟨oc1,od1,.func (KZ "places_from" "places_from" (aQ bN) (aK bN) (ai bN) .none kV1 dc1 pm1 an1 cd1 ct1),sl1⟩) (c1:Kr K cd1 "places_from"=true) (k1:Ki K (.ref f1)=true)
 (a2:KC K IW "columns_of"=some (some (.ref f2))) (l2:K.lookup f2=some ⟨oc2,od2,.func (KZ "columns_of" "columns_of" (aQ cb) (aK cb) (ai cb) .none kV2 dc2 pm2 an2 cd2 ct2),sl2⟩) (c2:Kr K cd2 "columns_of"=true) (k2:Ki K (.ref f2)=true)
 (a3:KC K IW "rows_of"=some (some (.ref f3))) (l3:K.lookup f3=some ⟨oc3,od3,.func (KZ "rows_of" "rows_of" (aQ dY) (aK dY) (ai dY) .none kV3 dc3 pm3 an3 cd3 ct3),sl3⟩) (c3:Kr K cd3 "rows_of"=true) (k3:Ki K (.ref f3)=true)
 (a4:KC K IW "cells_of"=some (some (.ref f4))) (l4:K.lookup f4=some ⟨oc4,od4,.func (KZ "cells_of" "cells_of" (aQ cZ) (aK cZ) (ai cZ) .none kV4 dc4 pm4 an4 cd4 ct4),sl4⟩) (c4:Kr K cd4 "cells_of"=true) (k4:Ki K (.ref f4)=true)
 (a5:KC K IW "behind"=some (some (.ref f5))) (l5:K.lookup f5=some ⟨oc5,od5,.func (KZ "behind" "behind" (aQ ft) (aK ft) (ai ft) .none kV5 dc5 pm5 an5 cd5 ct5),sl5⟩) (c5:Kr K cd5 "behind"=true) (k5:Ki K (.ref f5)=true)
 (a6:KC K IW "is_bare"=some (some (.ref f6))) (l6:K.lookup f6=some ⟨oc6,od6,.func (KZ "is_bare" "is_bare" (aQ dX) (aK dX) (ai dX) .none kV6 dc6 pm6 an6 cd6 ct6),sl6⟩) (c6:Kr K cd6 "is_bare"=true) (k6:Ki K (.ref f6)=true)
 (a7:KC K IW "is_clear"=some (some (.ref f7))) (l7:K.lookup f7=some ⟨oc7,od7,.func (KZ "is_clear" "is_clear" (aQ db) (aK db) (ai db) .none kV7 dc7 pm7 an7 cd7 ct7),sl7⟩) (c7:Kr K cd7 "is_clear"=true) (k7:Ki K (.ref f7)=true)
 (a8:KC K IW "is_step"=some (some (.ref f8))) (l8:K.lookup f8=some ⟨oc8,od8,.func (KZ "is_step" "is_step" (aQ dM) (aK dM) (ai dM) .none kV8 dc8 pm8 an8 cd8 ct8),sl8⟩) (c8:Kr K cd8 "is_step"=true) (k8:Ki K (.ref f8)=true)
 (a9:KC K IW "steps_from"=some (some (.ref f9))) (l9:K.lookup f9=some ⟨oc9,od9,.func (KZ "steps_from" "steps_from" (aQ bZ) (aK bZ) (ai bZ) .none kV9 dc9 pm9 an9 cd9 ct9),sl9⟩) (c9:Kr K cd9 "steps_from"=true) (k9:Ki K (.ref f9)=true)
 (a10:KC K IW "added"=some (some (.ref f10))) (l10:K.lookup f10=some ⟨oc10,od10,.func (KZ "added" "added" (aQ gP) (aK gP) (ai gP) .none kV10 dc10 pm10 an10 cd10 ct10),sl10⟩) (c10:Kr K cd10 "added"=true) (k10:Ki K (.ref f10)=true)
 (a11:KC K IW "oddly_often"=some (some (.ref f11))) (l11:K.lookup f11=some ⟨oc11,od11,.func (KZ "oddly_often" "oddly_often" (aQ bO) (aK bO) (ai bO) .none kV11 dc11 pm11 an11 cd11 ct11),sl11⟩) (c11:Kr K cd11 "oddly_often"=true) (k11:Ki K (.ref f11)=true)
 (a12:KC K IW "border"=some (some (.ref f12))) (l12:K.lookup f12=some ⟨oc12,od12,.func (KZ "border" "border" (aQ fJ) (aK fJ) (ai fJ) .none kV12 dc12 pm12 an12 cd12 ct12),sl12⟩) (c12:Kr K cd12 "border"=true) (k12:Ki K (.ref f12)=true)
 (a13:KC K IW "_law_cell"=some (some (.ref f13))) (l13:K.lookup f13=some ⟨oc13,od13,.func (KZ "_law_cell" "_law_cell" (aQ cX) (aK cX) (ai cX) .none kV13 dc13 pm13 an13 cd13 ct13),sl13⟩) (c13:Kr K cd13 "_law_cell"=true) (k13:Ki K (.ref f13)=true)
 (a14:KC K IW "_law_bag"=some (some (.ref f14))) (l14:K.lookup f14=some ⟨oc14,od14,.func (KZ "_law_bag" "_law_bag" (aQ dO) (aK dO) (ai dO) .none kV14 dc14 pm14 an14 cd14 ct14),sl14⟩) (c14:Kr K cd14 "_law_bag"=true) (k14:Ki K (.ref f14)=true)
 (a15:KC K IW "_law_take"=some (some (.ref f15))) (l15:K.lookup f15=some ⟨oc15,od15,.func (KZ "_law_take" "_law_take" (aQ cY) (aK cY) (ai cY) .none kV15 dc15 pm15 an15 cd15 ct15),sl15⟩) (c15:Kr K cd15 "_law_take"=true) (k15:Ki K (.ref f15)=true)
 (a16:KC K IW "_law_order"=some (some (.ref f16))) (l16:K.lookup f16=some ⟨oc16,od16,.func (KZ "_law_order" "_law_order" (aQ cy) (aK cy) (ai cy) .none kV16 dc16 pm16 an16 cd16 ct16),sl16⟩) (c16:Kr K cd16 "_law_order"=true) (k16:Ki K (.ref f16)=true)
 (a17:KC K IW "_law_square"=some (some (.ref f17))) (l17:K.lookup f17=some ⟨oc17,od17,.func (KZ "_law_square" "_law_square" (aQ bW) (aK bW) (ai bW) .none kV17 dc17 pm17 an17 cd17 ct17),sl17⟩) (c17:Kr K cd17 "_law_square"=true) (k17:Ki K (.ref f17)=true)
 (a18:KC K IW "_law_all"=some (some (.ref f18))) (l18:K.lookup f18=some ⟨oc18,od18,.func (KZ "_law_all" "_law_all" (aQ dN) (aK dN) (ai dN) .none kV18 dc18 pm18 an18 cd18 ct18),sl18⟩) (c18:Kr K cd18 "_law_all"=true) (k18:Ki K (.ref f18)=true)
 (a19:KC K IW "_law_crowd"=some (some (.ref f19))) (l19:K.lookup f19=some ⟨oc19,od19,.func (KZ "_law_crowd" "_law_crowd" (aQ cu) (aK cu) (ai cu) .none kV19 dc19 pm19 an19 cd19 ct19),sl19⟩) (c19:Kr K cd19 "_law_crowd"=true) (k19:Ki K (.ref f19)=true)
 (a20:KC K IW "_law_free"=some (some (.ref f20))) (l20:K.lookup f20=some ⟨oc20,od20,.func (KZ "_law_free" "_law_free" (aQ dh) (aK dh) (ai dh) .none kV20 dc20 pm20 an20 cd20 ct20),sl20⟩) (c20:Kr K cd20 "_law_free"=true) (k20:Ki K (.ref f20)=true)
 (a21:KC K IW "_law_border"=some (some (.ref f21))) (l21:K.lookup f21=some ⟨oc21,od21,.func (KZ "_law_border" "_law_border" (aQ bX) (aK bX) (ai bX) .none kV21 dc21 pm21 an21 cd21 ct21),sl21⟩) (c21:Kr K cd21 "_law_border"=true) (k21:Ki K (.ref f21)=true)
 (a22:KC K IW "_law_right"=some (some (.ref f22))) (l22:K.lookup f22=some ⟨oc22,od22,.func (KZ "_law_right" "_law_right" (aQ cv) (aK cv) (ai cv) .none kV22 dc22 pm22 an22 cd22 ct22),sl22⟩) (c22:Kr K cd22 "_law_right"=true) (k22:Ki K (.ref f22)=true)
 (a23:KC K IW "law"=some (some (.ref f23))) (l23:K.lookup f23=some ⟨oc23,od23,.func (KZ "law" "law" (aQ jh) (aK jh) (ai jh) .none kV23 dc23 pm23 an23 cd23 ct23),sl23⟩) (c23:Kr K cd23 "law"=true) (k23:Ki K (.ref f23)=true)
 (z_abs:KC K IW "abs"=some none)
 (z_all:KC K IW "all"=some none)
 (z_any:KC K IW "any"=some none)
 (z_isinstance:KC K IW "isinstance"=some none)
 (z_len:KC K IW "len"=some none)
 (z_list:KC K IW "list"=some none)
 (z_min:KC K IW "min"=some none)
 (z_range:KC K IW "range"=some none)
 (z_set:KC K IW "set"=some none)
 (z_sorted:KC K IW "sorted"=some none)
 (z_tuple:KC K IW "tuple"=some none):
 ∃fd:LM,(∀(s:Io) (v:Il),Ru s fd ⟨[v],[]⟩ [("_law_script",v)])/\ ∀base:Heap,K.In base->base.Ns IW mg->FnOk l.prog w K mg base qY 9 fa fd ["_law_script"] (vD K):=by
 have e:=hfa.symm.trans (KY X G a23)
 cases e
 have F0:=bu (st:=be) l0 c0 k0
 have b0:=F0.binds (ps:=["order","one","other"]) λ_ _ _ _ _ _ us hl=>ar3 us hl (λ_ _ _=>rfl)
 have d0:Df K mg "order_exchanged" be ["order","one","other"]:=⟨_,_,F0,KY X G a0,b0⟩
 have F1:=bu (st:=bN) l1 c1 k1
 have b1:=F1.binds (ps:=["size","start","end"]) λ_ _ _ _ _ _ us hl=>ar3 us hl (λ_ _ _=>rfl)
 have d1:Df K mg "places_from" bN ["size","start","end"]:=⟨_,_,F1,KY X G a1,b1⟩
 have F2:=bu (st:=cb) l2 c2 k2
 have b2:=F2.binds (ps:=["stand","a","b"]) λ_ _ _ _ _ _ us hl=>ar3 us hl (λ_ _ _=>rfl)
 have d2:Df K mg "columns_of" cb ["stand","a","b"]:=⟨_,_,F2,KY X G a2,b2⟩
 have F3:=bu (st:=dY) l3 c3 k3
 have b3:=F3.binds (ps:=["stand","a","b"]) λ_ _ _ _ _ _ us hl=>ar3 us hl (λ_ _ _=>rfl)
 have d3:Df K mg "rows_of" dY ["stand","a","b"]:=⟨_,_,F3,KY X G a3,b3⟩
 have F4:=bu (st:=cZ) l4 c4 k4
 have b4:=F4.binds (ps:=["stand","a","b"]) λ_ _ _ _ _ _ us hl=>ar3 us hl (λ_ _ _=>rfl)
 have d4:Df K mg "cells_of" cZ ["stand","a","b"]:=⟨_,_,F4,KY X G a4,b4⟩
 have F5:=bu (st:=ft) l5 c5 k5
 have b5:=F5.binds (ps:=["stand","a","b"]) λ_ _ _ _ _ _ us hl=>ar3 us hl (λ_ _ _=>rfl)
 have d5:Df K mg "behind" ft ["stand","a","b"]:=⟨_,_,F5,KY X G a5,b5⟩
 have F6:=bu (st:=dX) l6 c6 k6
 have b6:=F6.binds (ps:=["stand","a","b"]) λ_ _ _ _ _ _ us hl=>ar3 us hl (λ_ _ _=>rfl)
 have d6:Df K mg "is_bare" dX ["stand","a","b"]:=⟨_,_,F6,KY X G a6,b6⟩
 have F7:=bu (st:=db) l7 c7 k7
 have b7:=F7.binds (ps:=["square","stand","a","b"]) λ_ _ _ _ _ _ us hl=>ar4 us hl (λ_ _ _ _=>rfl)
 have d7:Df K mg "is_clear" db ["square","stand","a","b"]:=⟨_,_,F7,KY X G a7,b7⟩
 have F8:=bu (st:=dM) l8 c8 k8
 have b8:=F8.binds (ps:=["square","stand","a","b"]) λ_ _ _ _ _ _ us hl=>ar4 us hl (λ_ _ _ _=>rfl)
 have d8:Df K mg "is_step" dM ["square","stand","a","b"]:=⟨_,_,F8,KY X G a8,b8⟩
 have F9:=bu (st:=bZ) l9 c9 k9
 have b9:=F9.binds (ps:=["square","stand"]) λ_ _ _ _ _ _ us hl=>ar2 us hl (λ_ _=>rfl)
 have d9:Df K mg "steps_from" bZ ["square","stand"]:=⟨_,_,F9,KY X G a9,b9⟩
 have F10:=bu (st:=gP) l10 c10 k10
 have b10:=F10.binds (ps:=["one","other"]) λ_ _ _ _ _ _ us hl=>ar2 us hl (λ_ _=>rfl)
 have d10:Df K mg "added" gP ["one","other"]:=⟨_,_,F10,KY X G a10,b10⟩
 have F11:=bu (st:=bO) l11 c11 k11
 have b11:=F11.binds (ps:=["stands"]) λ_ _ _ _ _ _ us hl=>ar1 us hl (λ_=>rfl)
 have d11:Df K mg "oddly_often" bO ["stands"]:=⟨_,_,F11,KY X G a11,b11⟩
 have F12:=bu (st:=fJ) l12 c12 k12
 have b12:=F12.binds (ps:=["square","crowd"]) λ_ _ _ _ _ _ us hl=>ar2 us hl (λ_ _=>rfl)
 have d12:Df K mg "border" fJ ["square","crowd"]:=⟨_,_,F12,KY X G a12,b12⟩
 have F13:=bu (st:=cX) l13 c13 k13
 have b13:=F13.binds (ps:=["_law_script","_law_k"]) λ_ _ _ _ _ _ us hl=>ar2 us hl (λ_ _=>rfl)
 have d13:Df K mg "_law_cell" cX ["_law_script","_law_k"]:=⟨_,_,F13,KY X G a13,b13⟩
 have F14:=bu (st:=dO) l14 c14 k14
 have b14:=F14.binds (ps:=["_law_script","_law_at"]) λ_ _ _ _ _ _ us hl=>ar2 us hl (λ_ _=>rfl)
 have d14:Df K mg "_law_bag" dO ["_law_script","_law_at"]:=⟨_,_,F14,KY X G a14,b14⟩
 have F15:=bu (st:=cY) l15 c15 k15
 have b15:=F15.binds (ps:=["_law_bag_here","_law_many"]) λ_ _ _ _ _ _ us hl=>ar2 us hl (λ_ _=>rfl)
 have d15:Df K mg "_law_take" cY ["_law_bag_here","_law_many"]:=⟨_,_,F15,KY X G a15,b15⟩
 have F16:=bu (st:=cy) l16 c16 k16
 have b16:=F16.binds (ps:=["_law_bag_here","_law_n"]) λ_ _ _ _ _ _ us hl=>ar2 us hl (λ_ _=>rfl)
 have d16:Df K mg "_law_order" cy ["_law_bag_here","_law_n"]:=⟨_,_,F16,KY X G a16,b16⟩
 have F17:=bu (st:=bW) l17 c17 k17
 have b17:=F17.binds (ps:=["_law_bag_here","_law_n"]) λ_ _ _ _ _ _ us hl=>ar2 us hl (λ_ _=>rfl)
 have d17:Df K mg "_law_square" bW ["_law_bag_here","_law_n"]:=⟨_,_,F17,KY X G a17,b17⟩
 have F18:=bu (st:=dN) l18 c18 k18
 have b18:=F18.binds (ps:=["_law_n"]) λ_ _ _ _ _ _ us hl=>ar1 us hl (λ_=>rfl)
 have d18:Df K mg "_law_all" dN ["_law_n"]:=⟨_,_,F18,KY X G a18,b18⟩
 have F19:=bu (st:=cu) l19 c19 k19
 have b19:=F19.binds (ps:=["_law_bag_here","_law_n"]) λ_ _ _ _ _ _ us hl=>ar2 us hl (λ_ _=>rfl)
 have d19:Df K mg "_law_crowd" cu ["_law_bag_here","_law_n"]:=⟨_,_,F19,KY X G a19,b19⟩
 have F20:=bu (st:=dh) l20 c20 k20
 have b20:=F20.binds (ps:=["_law_square_here","_law_stand","_law_a","_law_b"]) λ_ _ _ _ _ _ us hl=>ar4 us hl (λ_ _ _ _=>rfl)
 have d20:Df K mg "_law_free" dh ["_law_square_here","_law_stand","_law_a","_law_b"]:=⟨_,_,F20,KY X G a20,b20⟩
 have F21:=bu (st:=bX) l21 c21 k21
 have b21:=F21.binds (ps:=["_law_square_here","_law_crowd_here"]) λ_ _ _ _ _ _ us hl=>ar2 us hl (λ_ _=>rfl)
 have d21:Df K mg "_law_border" bX ["_law_square_here","_law_crowd_here"]:=⟨_,_,F21,KY X G a21,b21⟩
 have F22:=bu (st:=cv) l22 c22 k22
 have b22:=F22.binds (ps:=["_law_square_here","_law_one","_law_other"]) λ_ _ _ _ _ _ us hl=>ar3 us hl (λ_ _ _=>rfl)
 have d22:Df K mg "_law_right" cv ["_law_square_here","_law_one","_law_other"]:=⟨_,_,F22,KY X G a22,b22⟩
 have F23:=bu (st:=jh) l23 c23 k23
 have b23:=F23.binds (ps:=["_law_script"]) λ_ _ _ _ _ _ us hl=>ar1 us hl (λ_=>rfl)
 have d23:Df K mg "law" jh ["_law_script"]:=⟨_,_,F23,KY X G a23,b23⟩
 have B:Bt mg:=⟨Ll X G z_abs,Ll X G z_all,Ll X G z_any,Ll X G z_isinstance,Ll X G z_len,Ll X G z_list,Ll X G z_min,Ll X G z_range,Ll X G z_set,Ll X G z_sorted,Ll X G z_tuple⟩
 refine⟨KZ "law" "law" (aQ jh) (aK jh) (ai jh) .none kV23 dc23 pm23 an23 cd23 ct23,λs v=>.of_eq rfl,λbase _ _=>?_⟩
 have dH:=kb (P:=l.prog) (w:=w) (base:=base) B d0
 have cj:=oy (P:=l.prog) (w:=w) (base:=base) B d1
 have cD:=qa (P:=l.prog) (w:=w) (base:=base) B d2 cj
 have eZ:=xc (P:=l.prog) (w:=w) (base:=base) B d3 cj
 have jC:=u7 (P:=l.prog) (w:=w) (base:=base) B d4 eZ cD
 have nJ:=AD (P:=l.prog) (w:=w) (base:=base) B d5 dH
 have kX:=wZ (P:=l.prog) (w:=w) (base:=base) B d6 cD eZ
 have jH:=tU (P:=l.prog) (w:=w) (base:=base) B d7 jC
 have kU:=xn (P:=l.prog) (w:=w) (base:=base) B d8 kX jH
 have gU:=qc (P:=l.prog) (w:=w) (base:=base) B d9 nJ kU
 have mw:=Bf (P:=l.prog) (w:=w) (base:=base) B d10
 have ge:=oo (P:=l.prog) (w:=w) (base:=base) B d11
 have fH:=AO (P:=l.prog) (w:=w) (base:=base) B d12 ge gU
 have jA:=uc (P:=l.prog) (w:=w) (base:=base) B d13
 have ls:=xF (P:=l.prog) (w:=w) (base:=base) B d14 jA
 have bh:=u5 (P:=l.prog) (w:=w) (base:=base) B d15
 have cs:=sU (P:=l.prog) (w:=w) (base:=base) B d16 bh
 have g9:=qj (P:=l.prog) (w:=w) (base:=base) B d17 bh cs
 have kL:=xH (P:=l.prog) (w:=w) (base:=base) B d18
 have fV:=tj (P:=l.prog) (w:=w) (base:=base) B d19 kL bh cs
 have jr:=uo (P:=l.prog) (w:=w) (base:=base) B d20
 have gS:=qP (P:=l.prog) (w:=w) (base:=base) B d21 jr
 have iy:=tJ (P:=l.prog) (w:=w) (base:=base) B d22 gS fH mw
 exact D1 (Er (P:=l.prog) (w:=w) (base:=base) B F23 ls g9 bh iy fV) DV
end L2
theorem PySem.W.Fast.tw9369448472140276703:True:=⟨⟩
theorem PySem.W.Fast.tw7022786256989916846:True:=⟨⟩
theorem PySem.W.Fast.tw11054966107780005882:True:=⟨⟩
theorem PySem.W.Fast.tw5152708541894799319:True:=⟨⟩
theorem PySem.W.Fast.tw13713176156619998367:True:=⟨⟩
theorem PySem.W.Fast.tw345400197286942701:True:=⟨⟩
theorem PySem.W.Fast.tw18278876366956720542:True:=⟨⟩
theorem PySem.W.Fast.tw16727720919393136288:True:=⟨⟩
theorem PySem.W.Fast.tw7949494740089790903:True:=⟨⟩
theorem PySem.W.Fast.tw10577193708166793564:True:=⟨⟩
theorem PySem.W.Fast.tw1057554108045450569:True:=⟨⟩
theorem PySem.W.Fast.tw6398920584017574406:True:=⟨⟩
theorem PySem.W.Fast.tw16593050901142853179:True:=⟨⟩
theorem PySem.W.Fast.tw8535856924571926996:True:=⟨⟩
theorem PySem.W.Fast.tw3950800473359868021:True:=⟨⟩
open PySem PySem.W PyProof.Rows
set_option maxRecDepth 100000 in
set_option maxHeartbeats 0 in
theorem PySem.Challenge.cw_rookborders_k32_borders_holds : PySem.Challenge.rw_rookborders_k32_borders.Holds := by
 w_on;o_law;k_head;(case hw=>w_witness2)
 k_fill
 refine L2.walkD (l:=PY) (k:=9) (x:="_law_script") rfl rfl ⟨rfl,by decide,by decide⟩ (λw h Y=>W.kIn_of Y) ?F
 case F=>
  intro w mg fa h KX G hmg
  refine' L2.all_mk KX G hmg ?a0 ?l0 ?c0 ?k0 ?a1 ?l1 ?c1 ?k1 ?a2 ?l2 ?c2 ?k2 ?a3 ?l3 ?c3 ?k3 ?a4 ?l4 ?c4 ?k4 ?a5 ?l5 ?c5 ?k5 ?a6 ?l6 ?c6 ?k6 ?a7 ?l7 ?c7 ?k7 ?a8 ?l8 ?c8 ?k8 ?a9 ?l9 ?c9 ?k9 ?a10 ?l10 ?c10 ?k10 ?a11 ?l11 ?c11 ?k11 ?a12 ?l12 ?c12 ?k12 ?a13 ?l13 ?c13 ?k13 ?a14 ?l14 ?c14 ?k14 ?a15 ?l15 ?c15 ?k15 ?a16 ?l16 ?c16 ?k16 ?a17 ?l17 ?c17 ?k17 ?a18 ?l18 ?c18 ?k18 ?a19 ?l19 ?c19 ?k19 ?a20 ?l20 ?c20 ?k20 ?a21 ?l21 ?c21 ?k21 ?a22 ?l22 ?c22 ?k22 ?a23 ?l23 ?c23 ?k23 ?z_abs ?z_all ?z_any ?z_isinstance ?z_len ?z_list ?z_min ?z_range ?z_set ?z_sorted ?z_tuple
  (case a0=>k_is)
  (case l0=>k_is)
  (case c0=>k_is)
  (case k0=>k_is)
  (case a1=>k_is)
  (case l1=>k_is)
  (case c1=>k_is)
  (case k1=>k_is)
  (case a2=>k_is)
  (case l2=>k_is)
  (case c2=>k_is)
  (case k2=>k_is)
  (case a3=>k_is)
  (case l3=>k_is)
  (case c3=>k_is)
  (case k3=>k_is)
  (case a4=>k_is)
  (case l4=>k_is)
  (case c4=>k_is)
  (case k4=>k_is)
  (case a5=>k_is)
  (case l5=>k_is)
  (case c5=>k_is)
  (case k5=>k_is)
  (case a6=>k_is)
  (case l6=>k_is)
  (case c6=>k_is)
  (case k6=>k_is)
  (case a7=>k_is)
  (case l7=>k_is)
  (case c7=>k_is)
  (case k7=>k_is)
  (case a8=>k_is)
  (case l8=>k_is)
  (case c8=>k_is)
  (case k8=>k_is)
  (case a9=>k_is)
  (case l9=>k_is)
  (case c9=>k_is)
  (case k9=>k_is)
  (case a10=>k_is)
  (case l10=>k_is)
  (case c10=>k_is)
  (case k10=>k_is)
  (case a11=>k_is)
  (case l11=>k_is)
  (case c11=>k_is)
  (case k11=>k_is)
  (case a12=>k_is)
  (case l12=>k_is)
  (case c12=>k_is)
  (case k12=>k_is)
  (case a13=>k_is)
  (case l13=>k_is)
  (case c13=>k_is)
  (case k13=>k_is)
  (case a14=>k_is)
  (case l14=>k_is)
  (case c14=>k_is)
  (case k14=>k_is)
  (case a15=>k_is)
  (case l15=>k_is)
  (case c15=>k_is)
  (case k15=>k_is)
  (case a16=>k_is)
  (case l16=>k_is)
  (case c16=>k_is)
  (case k16=>k_is)
  (case a17=>k_is)
  (case l17=>k_is)
  (case c17=>k_is)
  (case k17=>k_is)
  (case a18=>k_is)
  (case l18=>k_is)
  (case c18=>k_is)
  (case k18=>k_is)
  (case a19=>k_is)
  (case l19=>k_is)
  (case c19=>k_is)
  (case k19=>k_is)
  (case a20=>k_is)
  (case l20=>k_is)
  (case c20=>k_is)
  (case k20=>k_is)
  (case a21=>k_is)
  (case l21=>k_is)
  (case c21=>k_is)
  (case k21=>k_is)
  (case a22=>k_is)
  (case l22=>k_is)
  (case c22=>k_is)
  (case k22=>k_is)
  (case a23=>k_is)
  (case l23=>k_is)
  (case c23=>k_is)
  (case k23=>k_is)
  (case z_abs=>k_is)
  (case z_all=>k_is)
  (case z_any=>k_is)
  (case z_isinstance=>k_is)
  (case z_len=>k_is)
  (case z_list=>k_is)
  (case z_min=>k_is)
  (case z_range=>k_is)
  (case z_set=>k_is)
  (case z_sorted=>k_is)
  (case z_tuple=>k_is)
