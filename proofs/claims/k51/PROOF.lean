import PyProof.Rows.All
import Wide.All
import OpenK.AllK
import Wide.FinOn
import PyProof.EqAt
import PyProof.EqKinds
import PyProof.TupleCall
import PyProof.NeKinds
import PyProof.FactsAll.tuple_2
import PyProof.FactsAll.tuple_3
import PyProof.ListRange
import KE.KSortTup
import PyProof.EnumMake
import PyProof.AutoSeq1
import PyProof.Rows.SeqMore
import KE.KIsAll
import PyProof.ExcArgsOwn
import PyProof.ExcBaseAll.ValueError
import PyProof.ExcAttrAll.ValueError
import OpenK.KOwn
import PyProof.RulesAs
import PyProof.AutoRange
import PyProof.SeqRoads2
import PyProof.ZipIter
import PyProof.StrCalls2
import KE.KDictSum
import PyProof.SumAny
import KE.KRevIter
import PyProof.Rows.FStr
import PyProof.Rows.FStrParts
import KE.KRevSl
import PyProof.Rows.SetFrom
import Lean
import PySem.Challenge.RW_rookborders_k51_whole_there_and_back
set_option bootstrap.genMatcherCode false
set_option Elab.async false
set_option linter.all false
set_option maxRecDepth 100000
set_option maxHeartbeats 1000000
set_option linter.defProp false
open PySem renaming wpAny_bind→Ph,Value→Pk,wpAny_pure→Pl,Shared→Pn,wpAny→PJ,starEach→PP,sizeLine→P4,Program→Qp,Around→Qq,wpAny_holding→Qt,wpAny_mono→Qv,wpAny_setState_of→QC,World→QD,mainGlobals→QK,mem_of_lookup→QM,SetTable→QT,wpAny_call_entry→QV,foldedSetIterable→QY,sizeLine_eq→Q7,wpAny_truthy_bool→Rg,wpAny_newObj_type→Rh,bootBuiltins→Rm,assignEach→Rn,cLine→Rp,compareOp→Ru,wpAny_callSpecial?_slot→RM,wpAny_standAt→RP,cellsFrom→RW,unsupported→RX,codeAny_builtin→RY,backTo→R5,codeAny→R9,Scope→Sm,NameKind→Sn,codeAny_mono→Sq,FuncData→SA,Builtin→SH,builtinLookup_eq_fast→SI,wpAny_passesOwn→SJ,letOwnedTupleGo→SL,wpAny_loadPart'→SM,wpAny_storeSet_of→SO,wpAny_field→SS,behindInMarks→SW,wpAny_comprehension_free→SX,putSet_of→S4,swapsWith→S5,assign→S6,Spec→Td,wpAny_setField_rec→Ti,wpAny_isInstance→TJ,pyNext→TL,binaryOp→TU,holding→TY,typeLookup_type→T3,wpAny_ite_split→T4,wpAny_pyIter_tuple→T8,wpAny_Call_Name_kw→T9,sliceBounds→Uc,rawInt→Uk,wpAny_pyIter_list→Ul,relabel→Um,newFunctionEnv→Uo,codeAny_compStart_list→Up,wpAny_setField→Us,wpAny_setEpoch_of→Uw,wpAny_forIn_list→UG,wpAny_askSetting→UK,swapsWithSole→UP,swappedStores→UQ,attributeBase→UR,wpAny_specialOf→UX,wpAny_execs_nil→UY,codeAny_of_tree→U0,Keyword→Vb,wpAny_seqItems→Vo,Result→Vr,firstArgMember→Vw,tupleKind_room_in1→Vz,ofAClassStatement→VG,wpAny_assign_Name→VI,standAt→VJ,slot_list_getitem→VL,keywordEach→VM,assignInOrder→VX,wpAny_getItem_list_slice→V0,plainId_quiet→V2,wpAny_attempt→V3,setDiscardHashed→V9,compEnvC→Wc,setAddHashed→Wu,wpAny_rule→Wv,pyIter→Ww,wpAny_pyNext_list_item→Wx,callerA→WA,IsEnum→WD,sub_set_self→WG,theTreesLotGoes→WM,wpAny_isSame_ref_self→WO,wpAny_isTrue_Compare1→WP,wpAny_pyNext_list_end→WQ,exec_Assign_Name_used→WR,weight_type_call_type→WY,wpAny_loadName_local→W1,again→W2,subscripted→W3,wpAny_runValue→W9,wpAny_of_eq→Xa,isSubtype_type→Xd,entryFor_alias→Xf,codeAny_call_builtin→Xg,newList→Xl,wpAny_loadName_cell→Xn,wpAny_setEntries_of→Xv,CmpOp→XE,evalPart_none→XF,wpAny_newList→XI,signature?_of→XJ,builtinsNs→XY,wpAny_typeOf→X8,searchCouldBeSeen→X9,setState→Yb,BindsTo→Yd,seqIndex_neg→Yf,backToKw→Yg,codeAny_loop→Yh,compTurn→Yi,wpAny_pyIter_enum→Yp,wpAny_pyIter_slot→Ys,wpAny_eqBool_int→YC,wpAny_execs_cons→YE,PassesOwn→YF,lastMarks→YG,slicePick→YK,noteFrame→YL,checkBuiltinCall→YN,hashByValue→YW,seqIndex_of→YY,wpAny_alloc→YZ,wpAny_noted→Y0,pushCells_keeps→Za,getItem→Zp,carriedByValue→Zr,storeSet→Zt,sysModules→Zw,GenState→Zx,wpAny_Name→Zy,Operator→Zz,bindName→ZA,wpAny_bindName→ZB,wpAny_load→ZC,recursionLimit→ZE,wpAny_call→ZF,bindL→ZG,bindC→ZH,typeLookup→ZJ,call_meets→ZL,call→ZM,compPost→ZN,wpAny_newTuple→ZS,field→ZX,isSubtype_stop→ZY,entryFor→Z1,argsOk→Z2,slotArgs→Z3,wpAny_fieldsOf→Z4,wpAny_tryCatch→Z6,setRoomFor→Z7
open List renaming range→Pi,mem_range→Pj,length_map→Pp,getElem?_eq_getElem→Pq,map_cons→Pu,all_eq_true→Pw,replicate→Py,mem_cons_of_mem→PK,getElem?_eq_some_iff→PL,map_map→PM,mem_singleton→PQ,mem_map→PU,mem_cons_self→PV,mem_cons→PX,getElem?_set_ne→PY,size_toArray→PZ,length_append→P0,length_cons→P1,map_congr_left→P2,getD_eq_getElem?_getD→P5,getElem?_set_self→P7,mem_append_right→P8,sum_cons→Qb,perm_ext_iff_of_nodup→Qe,nodup_range→Qf,getElem?_append_right→Qg,getElem?_map→Qi,flatMap_cons→Qj,getElem?_append_left→Qk,mem_of_getElem?→Ql,map_append→Qm,mem_iff_getElem?→Qo,getD→Qr,getElem?_eq_none→QH,pairwise_map→QI,length_range→QJ,mem_append→QL,filter_eq_self→QN,append_assoc→QP,getElem?_replicate→QQ,mem_filter→QW,append_nil→QX,length_filter_le→Q2,length_singleton→Q3,not_mem_nil→Q5,nodup_append→Q6,mem_append_left→Q8,mem_flatMap→Rf,pairwise_iff_getElem→Rj,pairwise_lt_range→Rl,nodup_iff_pairwise_ne→Rw,take_of_length_le→Rx,drop_eq_getElem_cons→Ry,nodup_cons→RD,toArray→RF,count_pos_iff→RI,length_eraseIdx→RJ,getElem?_cons_zero→RO,getElem?_zip_eq_some→RZ,length_take→R4,map_flatMap→R7,length→Sd,getElem?_cons_succ→Sj,filterMap_cons→Sk,drop_eq_nil_of_le→Su,any_cons→Sw,lookup_cons→Sx,pairwise_cons→Sy,eraseIdx_sublist→SG,map_nil→SQ,getElem_of_mem→SZ,getElem_mem→S7,isEmpty_nil→S8,filter_cons_of_neg→S9,filter_cons_of_pos→Ta,range'→Tb,range_succ_eq_map→Th,take_append_drop→To,any_eq_false→Tz,drop_succ_cons→TN,foldl_cons→TX,length_nil→T0,take_sublist→Ui,ext_getElem?→Ur,drop_zero→Ut,eraseIdx_eq_take_drop_succ→Uz,length_replicate→UB,pairwise_flatMap→UC,mem_eraseIdx_iff_getElem?→UE,filter_cons→UF,ext_getElem→UH,mem_of_mem_take→US,range_eq_range'→UT,nodup_iff_count→UU,sum_append→U3,getElem?_range→U5,take_succ_cons→U6,mem_map_of_mem→U8,any_map→Vd,getElem?_take→Vm,mem_filterMap→Vn,lookup_append→Vt,set_cons_succ→Vx,nodup_nil→Vy,count_eq_zero→VA,getLast?_eq_getElem?→VD,reverse_cons→VN,getElem?_inj→VR,map_id→VT,map_take→VW,getElem?_take_of_lt→VY,mem_of_mem_eraseIdx→V4,eraseIdx_cons_succ→V8,length_eraseIdx_le→Wa,cons_append→Wb,range'_succ→Wf,any_eq_true→Wi,length_eq_zero_iff→Wj,getElem?_eraseIdx→Ws,flatMap_singleton→WI,of_mem_zip→WL,range_succ→WN,perm_append_comm→WZ,mem_of_mem_drop→W0,getElem_toArray→W8,filter_sublist→Xw,flatMap_append→Xx,length_flatMap→Xz,map_drop→XD,Nodup→XO,zip_cons_cons→XR,map→Yo,perm_middle→YB,getElem_inj→YD,flatMap_def→YR,nil_append→Y8,length_set→Y9,count_cons→Zi,filter_map→Zj,all_cons→jap,Pairwise→jax,all_map→jbr,filter→jdy
open PySem.Heap renaming get?_push_of_some→Po,lt_size→PB,get?_push_size→PD,SameBut→Qz,get?_update_self→QG,size_push→Rc,get?_update_other→Ss,ExtBut→VQ
open Bool renaming and_eq_true→Ps,false_eq_true→PH,eq_iff_iff→Qd,true_and→Qn,not_eq_true'→QZ,or_eq_true→Ra,not_true→Rs,false_and→Rv,false_or→RS,false_ne_true→Tg,and_eq_false_iff→Tu,eq_false_iff→VS,or_false→VZ,and_eq_true_iff→Xh,or_eq_false_iff→Xi,and_self→XC,and_true→XN,not_eq_true→YS,not_false→Z0
open Option renaming bind_some→Pt,bind_eq_some_iff→PR,map_eq_some_iff→QR,map_some→Tk,bind→TD,getD_none→YJ,none→jcM
open Nat renaming le_of_ble_eq_true→Pv,le_refl→Px,lt_of_lt_of_le→PF,ne_of_lt→P6,le_trans→Qh,beq→QE,lt_succ_self→QU,zero_le→Ri,zero_add→RE,lt_of_le_of_lt→RH,mod_lt→RT,ne_of_gt→RV,sub→R3,mod_eq_of_lt→R8,pow_le_pow_right→Sc,lt_trichotomy→Sf,succ→So,pow→Sv,mul_le_mul→SF,lt_irrefl→SV,le_of_lt→Tf,lt_succ_iff→Tj,eq_of_beq_eq_true→Tt,le_of_succ_le→Tw,lt_succ_of_lt→Tx,not_lt→TC,add→T5,mul→T6,le_succ→Ud,pow_succ→Uf,lt_trans→Ug,min_eq_right→UM,mul_assoc→UN,pow_succ'→UO,min_eq_left→U4,add_zero→U9,le_of_eq→Vc,mul_right_comm→Vl,add_mul→VE,le_succ_of_le→VO,exists_eq_add_of_le→V6,le_add_right→V7,le_max_right→Wd,land→Wn,zero_testBit→Wp,mul_comm→Wq,sub_self→Wr,mul_succ→WJ,not_lt_zero→WK,one_mul→Xc,add_le_add_left→Xo,mul_le_mul_left→Xy,add_comm→Yq,ble→Yv,lor→Yx,max_eq_right→YT,pow_add→YU,testBit_and→Zk,div_add_mod→Zl,max_eq_left→Zm,testBit_or→Z8,add_assoc→jaD,succ_mul→jbc,succ_add→jbe
open PySem.W renaming Frag→Pz,mg_none_of→Sa,hashAt→UD,nsIn→UI,kas_rev→Vf,keepIn→Vs,fnOf→Wy,codeIn→Ye,kas_sort→Yl,kas_ask→Ym,cellsFrom_some→YH,methodObj→YX,OpenLaw→jaM
open Array renaming length_toList→PN,getElem?_eq_getElem→P9,getElem?_toList→Qa,getElem?_eq_some_iff→Rb,mem_toList_iff→SN,getD→Tc,getElem?_eq_none→Uh,getD_eq_getD_getElem?→Ve,perm_iff_toList_perm→Vv,getElem?_replicate→VU,toList_filterMap→Wt,forIn_toList→XS,append_assoc→XX,getElem_mem→Yk,replicate→Y7,size_map→Zs,map→jaT,toList→jbg
open PySem.SetTable renaming below→Qc,insertAt→Qs,bits→Qx,eraseAt→Qy,sizeAbove→QB,runEnd→QF,toList_insertAt→Rq,turns→Sz,leap→TQ,has→Va,laid→VV,slot→XA,fill→XB,layClean→X6,grown→Zv,drop→jag
open Option.some renaming inj→Qu
open PySem.Value renaming none→Qw,ref→Q9,int→Vk,type→XW,isInt_shape→Ya,bool→jeu
open Ne renaming symm→QA
open List.Pairwise renaming imp_of_mem→QO,filter→Sb,nil→Si,sublist→Tn,map→jfY
open Int renaming emod_eq_of_lt→Q0,toNat_natCast→Rt,natCast_emod→R6,mul_le_mul_of_nonneg_left→Se,add_emod_right→Ua,emod_add_emod→Uy,natCast_add→U2,emod_add_cancel_right→VC,dvd_of_emod_eq_zero→Wh,toNat→Wo,ofNat→Xm,emod_lt_of_pos→XQ,lt_trichotomy→Yr,sub_emod→Yu,emod_nonneg→Y5,ediv_nonneg→Zd,add_comm→jbK
open Or renaming inr→Q1,inl→RA
open PySem.Heap.SameBut renaming update→Q4,refl→SU
open Classical renaming byContradiction→Rk,propDecidable→Wm,skolem→YQ
open PySem.F renaming called_set→Ro,slot_list_append→RB,type_list_append→RC,slot_tuple_iterator_next→SD,slot_enumerate_next→Tr,plain_list_iadd→Uq,args_tuple_iterator_next_1→U1,slot_set_contains→U7,entry_tuple_iterator_next→Vh,slot_tuple_index→V1,args_enumerate_next_1→Wg,entry_enumerate_next→WE,plainAttrs_set→WH,entry_proto_collect→WW,plain_proto_collect→WX,entry_list_iadd→Yn,entry_type_call→Yt,entry_set_init→YO,slot_set_iter→Zf,plain_set_new→Zg
open PySem.Builtin.SmallTypes renaming nextOf→Rz,ownedTupleHandOut→TM,ownedTupleIsFree→TV
open PySem.PassesOwn renaming never→RG
open PySem.Around renaming under_plainId→RL,under_plain→X1
open PySem.NameKind renaming free→RQ,cell→Tl
open PySem.SetTable.layClean renaming free→RU
open PySem.Obj renaming mapSeq→SB,data_mapFields→SE,isFreed_of_fields→Tq,mapFields→TW,putSet→T7,cls_mapFields→VP
open PySem.SeqAt renaming EqAt→SC,RcNeAt→Yj,RcAt→ZO
open PySem.Builtin.Frozenset renaming addrOf→SY,oneOther→TF,withSetAsKey→UL,updateFrom→Zh,newClass→Z5,sizeOf→jaz,slot0→jba
open List.Nodup renaming sublist→Te,length_le_of_subset→YA
open PyProof.Rows renaming seqObj→Tp,callWith_type1→Tv,AllBare→Uj,sortedHeap→UJ,envOfC→UZ,assignInOrder_cons→Vq,subscriptTail_builtinR→Wz,IntsAre→Xk,subscriptTail→XG,listUpdate_at→XH,assignInOrder_nil→Yc,callWith_builtin1→YI,seqEpoch_at→Y1,entry_list_sort→Zc,callWith_type0→Zo,Subscript_→ZK,sortedHeap_old→ZT,slot_list_sort→ZU,args_list_sort→ZW
open List.Perm renaming append_left→Ts,refl→Uv,append_right→Ux,swap→Xb,map→jaE
open PySem.Str renaming ofString→TH
open PySem.Paired renaming length→TR
open PySem.W.KasT renaming kasWp_bind→TZ
open PySem.Builtin.Range renaming rangeSize→Ub
open PyProof.Rows.F renaming plain_set_update_loop→Ue,entry_set_update_loop→Wk
open Nat.succ renaming inj→Uu
open PySem.SetTable.sizeAbove renaming go→UA
open PySem.Challenge renaming pw_rookborders_k51_whole_there_and_back→UV,rw_rookborders_k51_whole_there_and_back→UW
open PySem.Builtin.List renaming listExtendWith→Vg,listLengthHint→Vi
open Iff renaming rfl→Vj
open PySem.Calls renaming Name_function_global→Vp,call_function_entry→VB
open PySem.SeqAt.EqAt renaming of_refs→Vu,tuple_list→WS,none_list→W4,bool_list→W5,int_list→Xp,str_list→Xq,int_str→XT,str_int→XU,same→Zb
open PySem.SetTable.probe renaming go→VF
open Sum renaming inl→VH,inr→Xj
open List.cons renaming inj→V5
open PySem.SeqAt.RcNeAt renaming tuple_list→We,none_list→WB,bool_list→WC,int_list→WU,str_list→WV,lists_lengths→ZP,none_tuple→jaO,bool_tuple→jaP,tuple_none→jaQ,tuple_bool→jaR,list_tuple→jaS,none_none→jbt,none_bool→jbu,bool_none→jbv,bool_bool→jbw,int_tuple→jbx,str_tuple→jby,tuple_int→jbz,tuple_str→jbA,list_none→jbB,list_bool→jbC,none_int→jcb,none_str→jcc,bool_int→jcd,bool_str→jce,int_none→jcf,int_bool→jcg,str_none→jch,str_bool→jci,list_int→jcj,list_str→jck,int_int→jdg,int_str→jdh,str_int→jdi,str_str→jdj,tuples→jdL,lists→jeL
open PySem.List renaming filterMap_getElem?_range_length→WF
open PySem.SeqAt.RcAt renaming tuple_list→WT,none_list→W6,bool_list→W7,int_list→Xs,str_list→Xt
open PySem.Builtin.Int renaming intBits→Xu
open PySem.Shared renaming TypeIs→XM
open PySem.Heap.IsSliceOf renaming new→XZ
open PySem.Code renaming quiet_builtin→X0
open PySem.MeetsSeq2 renaming wpAny_forIn_array→X4
open PySem.SetTable.below renaming go→X5
open PySem.IsTupleKey renaming typeIs→X7
open Eq renaming trans→Yy
open And renaming intro→YM
open Prod.mk renaming inj→Y4
open PySem.Manifest renaming owners→Ze
open PySem.Fin renaming done→ZV
open PySem.Builtin.Tuple renaming tupleHashOf→jac
open String renaming ofList→jay
open PySem.W.Looks renaming now→jaU
open PySem.W.KatTups renaming cons→jbI
open PySem.pickOrder renaming go→jbN
open PySem.Data renaming seq→jcL
open PySem.SetTable.Slot renaming dummy→jdC
open PySem.W.WShape renaming has→jeH
open PySem.Walks renaming list→jeT
namespace L2
open PySem
theorem lb{p:Prop}[Decidable p]:(decide p=true)=p:=decide_eq_true_eq
theorem lm{p:Prop}[Decidable p]:p->decide p=true:=decide_eq_true
theorem lC{p:Prop}[Decidable p]:¬p->decide p=false:=decide_eq_false
abbrev lR:List PySem.Str:=["_law_bag_here","_law_n","_law_c","_law_ways","_law_four","_law_pairs_of_rows","_law_left","_law_right_here","_law_rest_rings","_law_rest_crosses","_law_k","_law_d","_law_rings","_law_crosses","_law_row"]
abbrev md:List PySem.Str:=["stand","a","b"]
abbrev ms:List PySem.Str:=["_law_bag_here","_law_n"]
abbrev mA:List PySem.Str:=["_law_bag_here","_law_n","_law_c","_law_ways","_law_four","_law_pairs_of_rows","_law_left","_law_right_here","_law_rest_rings","_law_rest_crosses","?_law_k","_law_d","_law_rings","_law_crosses","_law_k"]
abbrev m8:List PySem.Str:=["square","stand"]
abbrev nj:List PySem.Str:=["square","stand","a","b"]
abbrev np:List PySem.Str:=["_law_script","_law_at","_law_bag_here","_law_n","_law_square","_law_c","_law_crowd_here","_law_stand","_law_home","_law_one"]
abbrev nv:List PySem.Str:=["square","c"]
abbrev nA:List PySem.Str:=["square","c","crowd"]
abbrev nB:List PySem.Str:=["_law_bag_here","_law_many"]
abbrev n5:List PySem.Str:=["square","c","stand","right","left"]
abbrev n7:List PySem.Str:=["square","stand","a","b","column","bend"]
abbrev oa:List PySem.Str:=["_law_square","_law_c","_law_crowd_here"]
abbrev oi:List PySem.Str:=["square","stand","a","b","column","bend","sides","turns","rows","straight","other"]
abbrev pa:List PySem.Str:=["square","stand","a","b","column","bend","sides","turns","rows","straight","row"]
abbrev pe:List PySem.Str:=["square","columns","rows"]
abbrev pf:List PySem.Str:=["size","start","end"]
abbrev po:List PySem.Str:=["square","c","crowd","other","p","q","sides","right","left","stand","end"]
abbrev pp:List PySem.Str:=["square","column","row"]
abbrev pz:List PySem.Str:=["_law_script","_law_k"]
abbrev rb:List PySem.Str:=["at","one","other"]
abbrev re:List PySem.Str:=["order","one","other"]
abbrev ri:List PySem.Str:=["square","stand","a","b","rings","crosses","marked","column","row"]
abbrev rk:List PySem.Str:=["square","c","crowd","other","turns","right","left","stand","end"]
abbrev ro:List PySem.Str:=["_law_script","_law_at"]
abbrev rr:List PySem.Str:=["square","c","rings","crosses","one","other","between","row"]
abbrev ry:List PySem.Str:=["column","rows","bend"]
abbrev r6:List PySem.Str:=["square","crowd"]
abbrev sf:List PySem.Str:=["ones","others"]
abbrev so:List PySem.Str:=["marks","stand"]
abbrev sx:List PySem.Str:=["order","half"]
abbrev sy:List PySem.Str:=["one","other"]
theorem sU {n:Nat}{l:List Nat}(a:l.Nodup)(h: ∀z∈l,z<n):l.length<=n:=by
 have p:l.Perm ((Pi n).filter λz=>decide (z∈l)):=(Qe a (Sb _ Qf)).mpr λz=>by
  rw[QW,Pj,lb];exact⟨λq=>⟨h z q,q⟩,λq=>q.2⟩
 rw[p.length_eq];exact Qh (Q2 _ _) (by simp)
def jZ:Nat->Nat
 |0=>0
 |n+1=>5*jZ n+1
theorem vh(m:Nat): ∀n,jZ (m+n)=5^n*jZ m+jZ n
 |0=>by simp[jZ]
 |n+1=>by
  show 5*jZ (m+n)+1=_;rw[vh m n,Uf];show _=5^n*5*jZ m+(5*jZ n+1);rw[Nat.mul_add,Vl,Wq 5 (5^n*jZ m)];lia
theorem Bv: ∀n,jZ n % 2=n % 2
 |0=>rfl
 |n+1=>by have:=Bv n;show(5*jZ n+1) % 2=_;lia
theorem qL: ∀n,5^n=4*jZ n+1
 |0=>rfl
 |n+1=>by rw[Uf,qL n];show _=4*(5*jZ n+1)+1;lia
theorem Oy(k a:Nat)(h:a % 2=1):Nat.Coprime (2^k) a:=by
 refine Nat.Coprime.pow_left k ?_
 show Nat.gcd 2 a=1;rw[Nat.gcd_rec,h];decide
theorem Bq: ∀(k d:Nat),2^k∣jZ d->2^k∣d
 |0,d,_=>by simp
 |k+1,d,h=>by
  have i:=Bv d;have a:2∣jZ d:=Nat.dvd_trans ⟨2^k,by rw[Uf,Wq]⟩ h;obtain⟨e,rfl⟩: ∃e,d=e+e:=⟨d / 2,by have:=Nat.mod_eq_zero_of_dvd a;lia⟩
  have f:jZ (e+e)=2*(jZ e*(2*jZ e+1)):=by
   rw[vh,qL];have:(4*jZ e+1)*jZ e+jZ e=(2*(2*jZ e+1))*jZ e:=by
    rw[<-jbc];congr 1;lia
   rw[this,UN,Wq (2*jZ e+1)]
  rw[f,Uf,Wq] at h;have g:=Nat.dvd_of_mul_dvd_mul_left (by lia) h;have b:=(Oy k (2*jZ e+1) (by lia)).dvd_of_dvd_mul_right g;obtain⟨q,c⟩:=Bq k e b;exact⟨q,by rw[Uf];rw[show 2^k*2*q=2^k*q+2^k*q by rw[Vl];lia,<-c]⟩
def AV(M:Nat):Nat->Nat->Nat
 |0,i=>i
 |n+1,i=>(AV M n i*5+1) % M
theorem u0(M i:Nat): ∀n,AV M n i % M=(5^n*i+jZ n) % M
 |0=>by simp[AV,jZ]
 |n+1=>by
  show(AV M n i*5+1) % M % M=_;rw[Nat.mod_mod,Nat.add_mod,Nat.mul_mod,u0 M i n,<-Nat.mul_mod,<-Nat.add_mod];congr 1;show(5^n*i+jZ n)*5+1=5^(n+1)*i+(5*jZ n+1);rw[Uf,VE,Vl];lia
theorem Hu {k i m d:Nat}(h:AV (2^k) m i % 2^k=AV (2^k) (m+d) i % 2^k):2^k∣d:=by
 rw[u0,u0,vh,YU] at h;have e:5^m*5^d*i+(5^d*jZ m+jZ d)=5^m*i+jZ m+jZ d*(4*(5^m*i+jZ m)+1):=by
  rw[qL d];generalize 5^m=a;generalize jZ m=b;generalize jZ d=c;grind
 rw[e] at h;have g:(jZ d*(4*(5^m*i+jZ m)+1)) % 2^k=0:=by
  have f:=Nat.sub_mod_eq_zero_of_mod_eq h.symm;rw[Nat.add_sub_cancel_left] at f;exact f
 exact Bq k d ((Oy k _ (by lia)).dvd_of_dvd_mul_right (Nat.dvd_of_mod_eq_zero g))
theorem KM {k:Nat}{i:Nat}(q:i<2^k){j:Nat}(g:j<2^k): ∃n,n<2^k/\AV (2^k) n i=j:=by
 have lt: ∀n,AV (2^k) n i<2^k:=λn=>by
  cases n with
  |zero=>exact q
  |succ n=>exact RT _ (Nat.two_pow_pos k)
 have l:((Pi (2^k)).map λn=>AV (2^k) n i).Nodup:=by
  rw[XO,QI];refine QO (λ{a b} s r c e=>?_) Rl;rw[Pj] at r;obtain⟨d,rfl⟩:=Nat.exists_eq_add_of_lt c;have:=Hu (k:=k) (i:=i) (m:=a) (d:=d+1) (by rw[show a+(d+1)=a+d+1 by lia,<-e]);have:=Nat.le_of_dvd (by lia) this;lia
 by_cases h:j∈(Pi (2^k)).map λn=>AV (2^k) n i
 ·obtain⟨n,o,e⟩:=PU.mp h;exact⟨n,Pj.mp o,e⟩
 ·exfalso
  have p:=sU (n:=2^k) (RD.mpr ⟨h,l⟩) (λz f=>by
   rcases PX.mp f with rfl|f
   ·exact g
   ·obtain⟨n,_,rfl⟩:=PU.mp f;exact lt n)
  simp at p;lia
abbrev Pb:=SetTable.Probe
def AH(a:Nat)(p:Pb):Pb:=
 if p.more>0 then {p with j:=p.j+1,more:=p.more-1} else
 {p with j:=(TQ a p.i p.perturb).1,more:=QF a (TQ a p.i p.perturb).1- (TQ a p.i p.perturb).1,i:=(TQ a p.i p.perturb).1,perturb:=(TQ a p.i p.perturb).2}
theorem yH(t:QT)(p:Pb):t.advance p=AH t.mask p:=rfl
theorem CQ(a:Nat)(p:Pb)(d:Option Nat):AH a {p with dummy:=d}={AH a p with dummy:=d}:=by
 unfold AH;dsimp only;split<;>rfl
def lH(a i perturb:Nat)(d:Option Nat):Pb:={j:=i,more:=QF a i-i,i:=i,perturb:=perturb,dummy:=d}
def dX(a:Nat):Nat->Pb->Pb
 |0,p=>p
 |n+1,p=>dX a n (AH a p)
theorem nK(a m:Nat): ∀(n:Nat) (p:Pb),dX a (n+m) p=dX a m (dX a n p)
 |0,p=>by rw[RE];rfl
 |n+1,p=>by rw[jbe];exact nK a m n (AH a p)
theorem ji(a n:Nat)(p:Pb):dX a (n+1) p=AH a (dX a n p):=nK a 1 n p
theorem mM(a:Nat)(d:Option Nat): ∀(n:Nat) (p:Pb),dX a n {p with dummy:=d}={dX a n p with dummy:=d}
 |0,p=>rfl
 |n+1,p=>by
  show dX a n (AH a {p with dummy:=d})=_;rw[CQ,mM a d n];rfl
theorem vb(a:Nat): ∀(n:Nat) (p:Pb),n<=p.more->dX a n p={p with j:=p.j+n,more:=p.more-n}
 |0,p,_=>rfl
 |n+1,p,h=>by
  show dX a n (AH a p)=_;have:AH a p={p with j:=p.j+1,more:=p.more-1}:=if_pos (by lia);rw[this,vb a n _ (by show n<=p.more-1;lia)];show({p with j:=p.j+1+n,more:=p.more-1-n}:Pb)={p with j:=p.j+(n+1),more:=p.more- (n+1)};rw[show p.j+1+n=p.j+(n+1) by lia,show p.more-1-n=p.more- (n+1) by lia]
theorem xa(a:Nat)(p:Pb):dX a (p.more+1) p=lH a ((p.i*5+1+p.perturb / 32) % (a+1)) (p.perturb / 32) p.dummy:=by
 rw[ji,vb a p.more p (Px _)];unfold AH;dsimp only;rw[Wr,if_neg (by lia)];rfl
theorem Ck(a i perturb:Nat)(d:Option Nat):(lH a i perturb d).more<=9:=by
 show QF a i-i<=9;unfold QF;split<;>lia
def lp(a:Nat):Nat->Nat×Nat->Nat×Nat
 |0,x=>x
 |n+1,x=>lp a n ((x.1*5+1+x.2 / 32) % (a+1),x.2 / 32)
theorem Al(a:Nat)(d:Option Nat): ∀(n i perturb:Nat),∃m,m<=10*n/\dX a m (lH a i perturb d)=lH a (lp a n (i,perturb)).1 (lp a n (i,perturb)).2 d
 |0,i,perturb=>⟨0,by lia,rfl⟩
 |n+1,i,perturb=>by
  obtain⟨m,c,b⟩:=Al a d n ((i*5+1+perturb / 32) % (a+1)) (perturb / 32);have e:=Ck a i perturb d;refine⟨(lH a i perturb d).more+1+m,by lia,?_⟩;rw[nK,xa];exact b
theorem G3 {k a:Nat}(d:a+1=2^k): ∀(n i:Nat),lp a n (i,0)=(AV (2^k) n i,0):=by
 have b: ∀(n:Nat) (x:Nat),AV (2^k) n ((x*5+1) % 2^k)=AV (2^k) (n+1) x:=by
  intro n
  induction n with
  |zero=>intro x;rfl
  |succ n c=>intro x;show(AV (2^k) n ((x*5+1) % 2^k)*5+1) % 2^k=_;rw[c x];rfl
 intro n
 induction n with
 |zero=>intro i;rfl
 |succ n c=>
  intro i;show lp a n ((i*5+1+0 / 32) % (a+1),0 / 32)=_;rw[Nat.zero_div,U9,d,c,b]
theorem FP(a:Nat): ∀(m n:Nat) (x:Nat×Nat),lp a (m+n) x=lp a n (lp a m x)
 |0,n,x=>by rw[RE];rfl
 |m+1,n,x=>by rw[jbe];exact FP a m n _
theorem Bs(a:Nat): ∀(n i perturb:Nat),(lp a n (i,perturb)).2=perturb / 32^n
 |0,i,perturb=>by simp[lp]
 |n+1,i,perturb=>by
  show(lp a n _).2=_;rw[Bs,Nat.div_div_eq_div_mul,<-UO]
theorem Iw(a:Nat): ∀(n:Nat) (x:Nat×Nat),x.1<=a->(lp a n x).1<=a
 |0,x,h=>h
 |n+1,x,_=>Iw a n _ (Tj.mp (RT _ (by lia)))
theorem D2 {k a:Nat}(f:a+1=2^k){i perturb:Nat}(d:i<=a)(c:perturb<2^64){j:Nat}(h:j<=a): ∃n,n<=13+a/\(lp a n (i,perturb)).1=j:=by
 have b:lp a 13 (i,perturb)=((lp a 13 (i,perturb)).1,0):=by
  have:=Bs a 13 i perturb;rw[Nat.div_eq_of_lt (PF c (by decide))] at this;exact Prod.ext rfl this
 obtain⟨n,g,e⟩:=KM (k:=k) (i:=(lp a 13 (i,perturb)).1) (by have:=Iw a 13 (i,perturb) d;lia) (j:=j) (by lia);refine⟨13+n,by lia,?_⟩;rw[FP,b,G3 f];exact e
def uu(a:Nat)(h:Int)(d:Option Nat):Pb:=lH a (Qx h % (a+1)) (Qx h) d
def Jx(a:Nat)(h:Int)(m:Nat):Nat:=(dX a m (uu a h none)).j
theorem KO(a:Nat)(h:Int)(m:Nat)(d:Option Nat):(dX a m (uu a h d)).j=Jx a h m:=by
 have:uu a h d={uu a h none with dummy:=d}:=rfl;rw[this,mM];rfl
theorem Bw(h:Int):Qx h<2^64:=by
 unfold Qx;have a:0<=h % (2^64:Int):=Y5 _ (by decide);have b:h % (2^64:Int)<2^64:=XQ _ (by decide);have c:((2:Int)^64)=((2^64:Nat):Int):=by decide
 lia
theorem KD {k a:Nat}(d:a+1=2^k)(h:Int){j:Nat}(c:j<=a): ∃m,m<=10*(13+a)/\Jx a h m=j:=by
 obtain⟨n,g,e⟩:=D2 d (i:=Qx h % (a+1)) (perturb:=Qx h) (Tj.mp (RT _ (by lia))) (Bw h) c;obtain⟨m,f,b⟩:=Al a none n (Qx h % (a+1)) (Qx h);refine⟨m,by lia,?_⟩;show(dX a m (lH a (Qx h % (a+1)) (Qx h) none)).j=j;rw[b];exact e
def Ris(xs:Array Nat):Prop:=xs.toList.Pairwise (·< ·)
theorem Ris.lt(r:Ris xs){i j:Nat}(c:i<j)(d:xs[i]? =some a)(e:xs[j]? =some b):a<b:=by
 rw[<-Qa] at d e;obtain⟨g,k⟩:=PL.mp d;obtain⟨h,f⟩:=PL.mp e;have:=Rj.mp r i j g h c;rw[k,f] at this;exact this
theorem Ris.inj(r:Ris xs){i j:Nat}(b:xs[i]? =some a)(c:xs[j]? =some a):i=j:=by
 rcases Sf i j with h|h|h
 ·exact absurd (r.lt h b c) (by lia)
 ·exact h
 ·exact absurd (r.lt h c b) (by lia)
structure Bel(xs:Array Nat)(j p:Nat):Prop where
 le:p<=xs.size
 lo: ∀i a,i<p->xs[i]? =some a->a<j
 hi: ∀i a,p<=i->xs[i]? =some a->j<=a
theorem zN {xs:Array Nat}(r:Ris xs)(j:Nat): ∀(fuel d b:Nat),b-d<=fuel->d<=b->b<=xs.size->(∀i a,i<d->xs[i]? =some a->a<j)->(∀i a,b<=i->xs[i]? =some a->j<=a)->Bel xs j (X5 xs j fuel d b)
 |0,d,b,q,s,l,h,m=>by
  have:d=b:=by lia
  subst this;exact⟨l,h,m⟩
 |fuel+1,d,b,q,s,l,h,m=>by
  unfold X5
  by_cases g:d<b
  ·rw[if_pos g];dsimp only;have o:(d+b) / 2<xs.size:=by lia
   have k:xs[(d+b) / 2]? =some xs[(d+b) / 2]:=P9 o;have p:xs.getD ((d+b) / 2) j=xs[(d+b) / 2]:=by simp[Tc,o]
   rw[p]
   by_cases c:xs[(d+b) / 2]<j
   ·rw[if_pos c];refine zN r j fuel _ b (by lia) (by lia) l (λi a n f=>?_) m
    by_cases e:i=(d+b) / 2
    ·subst e;rw[k] at f;cases f;exact c
    ·exact Ug (r.lt (by lia) f k) c
   ·rw[if_neg c];refine zN r j fuel d _ (by lia) (by lia) (by lia) h (λi a n f=>?_)
    by_cases e:i=(d+b) / 2
    ·subst e;rw[k] at f;cases f;lia
    ·have:=r.lt (by lia) k f;lia
  ·rw[if_neg g];have:d=b:=by lia
   subst this;exact⟨l,h,m⟩
theorem Mf(r:Ris xs)(j:Nat):Bel xs j (Qc xs j):=zN r j _ _ _ (by lia) (by lia) (by lia) (λi a h _=>absurd h (by lia)) λi a h e=>by
 rw[Uh h] at e;cases e
theorem uB(r:Ris xs){j i:Nat}(h:xs[i]? =some j):Qc xs j=i:=by
 have b:=Mf r j;rcases Sf i (Qc xs j) with c|c|c
 ·exact absurd (b.lo i j c h) (by lia)
 ·exact c.symm
 ·have lt:Qc xs j<xs.size:=Ug c (Rb.mp h).1;have e:xs[Qc xs j]? =some xs[Qc xs j]:=P9 lt;have a:=b.hi _ _ (Px _) e;have d:=r.lt c e h;lia
theorem kQ {xs:Array Nat}(r:Ris xs)(j:Nat):Va xs j=true↔j∈xs.toList:=by
 unfold Va;rw[beq_iff_eq];constructor
 ·intro h;rw[<-Qa] at h;exact Ql h
 ·intro h;obtain⟨i,a⟩:=Qo.mp h;rw[Qa] at a;rw[uB r a];exact a
structure TOk(t:QT)(hs:List Int):Prop where
 pw: ∃k,3<=k/\k<=12/\t.mask+1=2^k
 sz:t.place.size=hs.length
 sp:Ris t.place
 sd:Ris t.dummies
 lp: ∀j∈t.place.toList,j<=t.mask
 ld: ∀j∈t.dummies.toList,j<=t.mask
 dj: ∀j∈t.dummies.toList,j∉t.place.toList
 fl:t.fill<=t.mask
 rc: ∀x∈hs.zip t.place.toList,∃m,Jx t.mask x.1 m=x.2/\ ∀m',m'<m->Jx t.mask x.1 m'∈t.place.toList\/Jx t.mask x.1 m'∈t.dummies.toList
def sR(t:QT)(j:Nat):Prop:=j∈t.place.toList\/j∈t.dummies.toList
section
variable {t:QT}{hs:List Int}(T:TOk t hs)
include T
theorem TOk.mask:t.mask<=4095:=by
 obtain⟨k,b,a,e⟩:=T.pw;have:=Sc (n:=2) (by lia) a;have:(2:Nat)^12=4096:=by decide
 lia
theorem TOk.noway:t.gaveWay=false:=by
 obtain⟨k,a,b,e⟩:=T.pw;unfold SetTable.gaveWay;have:2^k % 2=0:=by
  obtain⟨m,rfl⟩:=V6 a;rw[YU];lia
 rw[beq_eq_false_iff_ne];lia
theorem oX(h:t.place[i]? =some j):t.slot j=.live i:=by
 unfold XA;rw[uB T.sp h,if_pos (by rw[h];exact beq_self_eq_true _)]
theorem rH(h:j∈t.dummies.toList):t.slot j=.dummy:=by
 unfold XA;have e: ¬(t.place[Qc t.place j]? ==some j)=true:=λw=>by
  rw[beq_iff_eq,<-Qa] at w;exact T.dj j h (Ql w)
 dsimp only;rw[if_neg e,if_pos ((kQ T.sd j).mpr h)]
theorem yQ(h: ¬sR t j):t.slot j=.empty:=by
 unfold XA;have e: ¬(t.place[Qc t.place j]? ==some j)=true:=λw=>by
  rw[beq_iff_eq,<-Qa] at w;exact h (.inl (Ql w))
 dsimp only;rw[if_neg e,if_neg λw=>h (.inr ((kQ T.sd j).mp w))]
theorem TOk.room: ∃j,j<=t.mask/\ ¬sR t j:=by
 refine Rk λh=>?_
 have c: ∀j,j<=t.mask->sR t j:=λj d=>Rk λn=>h ⟨j,d,n⟩
 have l:(t.place.toList++t.dummies.toList).Nodup:=by
  refine Q6.mpr ⟨T.sp.imp λh=>P6 h,T.sd.imp λh=>P6 h,λa i b k e=>?_⟩;subst e;exact T.dj _ k i
 have:t.mask+1<=(t.place.toList++t.dummies.toList).length:=by
  have f:(Pi (t.mask+1)).length<=(t.place.toList++t.dummies.toList).length:=by
   refine YA Qf λj d=>?_
   rw[Pj] at d;rw[QL];exact c j (by lia)
  simpa using f
 have g:=T.fl;unfold XB at g;rw[P0,PN,PN] at this;lia
theorem TOk.first(h:Int): ∃M,M<=10*(13+t.mask)/\ ¬sR t (Jx t.mask h M)/\ ∀m,m<M->sR t (Jx t.mask h m):=by
 obtain⟨k,_,_,e⟩:=T.pw;obtain⟨j,p,l⟩:=T.room;obtain⟨m,b,i⟩:=KD e h p;have g: ∀n,(∃m,m<=n/\ ¬sR t (Jx t.mask h m))-> ∃M,M<=n/\ ¬sR t (Jx t.mask h M)/\ ∀m,m<M->sR t (Jx t.mask h m):=by
  intro n
  induction n with
  |zero=>rintro⟨m,b,q⟩;obtain rfl:m=0:=(by lia);exact⟨0,by lia,q,λ_ h=>absurd h (by lia)⟩
  |succ n o=>
   rintro⟨m,b,q⟩
   by_cases c: ∃m,m<=n/\ ¬sR t (Jx t.mask h m)
   ·obtain⟨M,f,d,a⟩:=o c;exact⟨M,by lia,d,a⟩
   ·have:m=n+1:=Rk λw=>c ⟨m,by lia,q⟩
    subst this;exact⟨n+1,by lia,q,λs r=>Rk λw=>c ⟨s,by lia,w⟩⟩
 obtain⟨M,f,d,a⟩:=g (10*(13+t.mask)) ⟨m,b,by rw[i];exact l⟩;exact⟨M,f,d,a⟩
end
def MA(t:QT)(h:Int)(M:Nat)(d:Option Nat):Prop:= ∀x,d=some x->x∈t.dummies.toList/\ ∃m,m<M/\Jx t.mask h m=x
def Lc(t:QT)(UD:Nat->Int)(h:Int)(m n:Nat):Prop:= ∀a,m<=a->a<n-> ∀i:Nat,t.place[i]? =some (Jx t.mask h a)->UD i≠h
theorem vA(a:Nat)(h:Int)(m:Nat)(d:Option Nat):dX a m (uu a h d)=⟨Jx a h m,(dX a m (uu a h none)).more,(dX a m (uu a h none)).i,(dX a m (uu a h none)).perturb,d⟩:=mM a d m (uu a h none)
section
variable {t:QT}{hs:List Int}(T:TOk t hs)
include T
theorem rd(UD:Nat->Int)(B: ¬sR t (Jx t.mask h M))(C: ∀m,m<M->sR t (Jx t.mask h m)): ∀(fuel m:Nat) (d:Option Nat),M<m+fuel->m<=M->MA t h M d->
 ∃r,VF t UD h fuel (dX t.mask m (uu t.mask h d))=some r/\
  ((∃d',r=.empty (Jx t.mask h M) d'/\MA t h M d'/\Lc t UD h m M)\/
   (∃c i d',m<=c/\c<M/\t.place[i]? =some (Jx t.mask h c)/\UD i=h/\r=.candidate (Jx t.mask h c) i (dX t.mask (c+1) (uu t.mask h d'))/\MA t h M d'/\Lc t UD h m c))
 |0,m,d,E,H,_=>absurd E (by lia)
 |fuel+1,m,d,E,H,v=>by
  unfold VF;rw[KO]
  by_cases F:m=M
  ·subst F;rw[yQ T B];have G:(dX t.mask m (uu t.mask h d)).dummy=d:=by rw[vA]
   exact⟨_,rfl,.inl ⟨d,by rw[G],v,λk a b=>absurd a (by lia)⟩⟩
  ·have lt:m<M:=by lia
   rcases C m lt with o|o
   ·obtain⟨i,s⟩:=Qo.mp o;rw[Qa] at s;rw[oX T s];dsimp only
    by_cases p:UD i=h
    ·rw[if_pos (beq_iff_eq.mpr p),yH,<-ji];exact⟨_,rfl,.inr ⟨m,i,d,Px _,lt,s,p,rfl,v,λk a b=>absurd a (by lia)⟩⟩
    ·rw[if_neg (λw=>p (beq_iff_eq.mp w)),yH,<-ji];obtain⟨r,A,z⟩:=rd UD B C fuel (m+1) d (by lia) (by lia) v;have l: ∀n,Lc t UD h (m+1) n->Lc t UD h m n:=λn q k a b j f=>by
      by_cases e:k=m
      ·subst e;rw[T.sp.inj f s];exact p
      ·exact q k (by lia) b j f
     refine⟨r,A,?_⟩;rcases z with⟨d',e,g,q⟩|⟨c,j,d',a,b,y,u,D,g,q⟩
     ·exact .inl ⟨d',e,g,l _ q⟩
     ·exact .inr ⟨c,j,d',by lia,b,y,u,D,g,l _ q⟩
   ·rw[rH T o];dsimp only;have e:(⟨Jx t.mask h m,(dX t.mask m (uu t.mask h d)).more,(dX t.mask m (uu t.mask h d)).i,(dX t.mask m (uu t.mask h d)).perturb,some (Jx t.mask h m)⟩:Pb)=dX t.mask m (uu t.mask h (some (Jx t.mask h m))):=by
     rw[vA,vA t.mask h m (some _)]
    rw[yH,e,<-ji];obtain⟨r,A,z⟩:=rd UD B C fuel (m+1) (some (Jx t.mask h m)) (by lia) (by lia) (λx I=>by cases I;exact⟨o,m,lt,rfl⟩);have l: ∀n,Lc t UD h (m+1) n->Lc t UD h m n:=λn q k a b j f=>by
     by_cases e:k=m
     ·subst e;exact absurd (Ql (by rw[Qa];exact f)) (T.dj _ o)
     ·exact q k (by lia) b j f
    refine⟨r,A,?_⟩;rcases z with⟨d',e,g,q⟩|⟨c,j,d',a,b,y,u,D,g,q⟩
    ·exact .inl ⟨d',e,g,l _ q⟩
    ·exact .inr ⟨c,j,d',by lia,b,y,u,D,g,l _ q⟩
end
theorem fK {α:Type}(xs:Array α)(p:Nat):(Qy xs p).toList=xs.toList.eraseIdx p:=by
 unfold Qy;rw[Uz];simp[List.extract_eq_take_drop,Rx]
theorem tj {l:List Nat}(r:l.Pairwise (·< ·))(g:l[p]? =some j)(x:Nat):x∈l.eraseIdx p↔x∈l/\x≠j:=by
 rw[UE];constructor
 ·rintro⟨i,a,e⟩;refine⟨Ql e,λw=>a ?_⟩;subst w;obtain⟨d,m⟩:=PL.mp e;obtain⟨f,k⟩:=PL.mp g;rcases Sf i p with c|c|c
  ·have:=Rj.mp r i p d f c;lia
  ·exact c
  ·have:=Rj.mp r p i f d c;lia
 ·rintro⟨h,a⟩;obtain⟨i,b⟩:=Qo.mp h;exact⟨i,λw=>by subst w;rw[g] at b;cases b;exact a rfl,b⟩
theorem qA {xs:Array Nat}(r:Ris xs)(n:j∉xs.toList):Ris (Qs xs (Qc xs j) j):=by
 have b:=Mf r j;unfold Ris;rw[Rq,List.pairwise_append];have f: ∀a∈xs.toList.take (Qc xs j),a<j:=λa e=>by
  obtain⟨i,d⟩:=Qo.mp e;rw[Vm] at d;split at d
  ·rename_i c;rw[Qa] at d;exact b.lo i a c d
  ·cases d
 have g: ∀a∈xs.toList.drop (Qc xs j),j<a:=λa e=>by
  obtain⟨i,d⟩:=Qo.mp e;rw[List.getElem?_drop] at d;have k:=Ql d;rw[Qa] at d;have:=b.hi _ a (V7 _ _) d;have:a≠j:=λw=>n (w▸k)
  lia
 refine⟨Tn (Ui _ _) r,?_,λa e c h=>?_⟩
 ·exact Sy.mpr ⟨g,Tn (List.drop_sublist _ _) r⟩
 ·rcases PX.mp h with rfl|h
  ·exact f a e
  ·exact Ug (f a e) (g c h)
theorem r8 {α:Type}(xs:Array α)(p:Nat)(x y:α):y∈(Qs xs p x).toList↔y=x\/y∈xs.toList:=by
 rw[Rq,QL,PX]
 conv=>rhs;rw[<-To p xs.toList,QL]
 constructor
 ·rintro(h|h|h)
  ·exact .inr (.inl h)
  ·exact .inl h
  ·exact .inr (.inr h)
 ·rintro(h|h|h)
  ·exact .inr (.inl h)
  ·exact .inl h
  ·exact .inr (.inr h)
def fR {α:Type}(l:List α)(p:Nat)(x:α):List α:=l.take p++x::l.drop p
theorem Gs {α β:Type}(l:List α)(m:List β)(p:Nat)(a:α)(b:β)(h:l.length=m.length):(fR l p a).zip (fR m p b)=fR (l.zip m) p (a,b):=by
 unfold fR;rw[List.zip_append (by rw[R4,R4,h]),XR];unfold List.zip;rw[List.take_zipWith,List.drop_zipWith]
theorem TOk.put {t:QT}(T:TOk t hs)(r:j<=t.mask)(n:j∉t.place.toList)(u: ∃m,Jx t.mask h m=j/\ ∀b,b<m->sR t (Jx t.mask h b))
 (p:(t.put j).1.fill<=t.mask):TOk (t.put j).1 (fR hs (t.put j).2 h):=by
 have o:(t.put j).1.place.toList=fR t.place.toList (t.put j).2 j:=Rq _ _ _;have d: ∀y,y∈(t.put j).1.place.toList↔y=j\/y∈t.place.toList:=r8 t.place _ j
 have f: ∀y,y∈(t.put j).1.dummies.toList↔y∈t.dummies.toList/\y≠j:=λy=>by
  show y∈(if Va t.dummies j=true then Qy t.dummies (Qc t.dummies j) else t.dummies).toList↔_;split
  ·rename_i c
   have s:=(kQ T.sd j).mp c;obtain⟨i,k⟩:=Qo.mp s;rw[fK,uB T.sd (by rw[<-Qa];exact k)];exact tj T.sd k y
  ·rename_i c
   exact⟨λq=>⟨q,λw=>c ((kQ T.sd j).mpr (w▸q))⟩,λq=>q.1⟩
 have us: ∀y,sR t y->y∈(t.put j).1.place.toList\/y∈(t.put j).1.dummies.toList:=λy q=>by
  rcases q with q|q
  ·exact .inl ((d y).mpr (.inr q))
  ·by_cases e:y=j
   ·exact .inl ((d y).mpr (.inl e))
   ·exact .inr ((f y).mpr ⟨q,e⟩)
 refine⟨T.pw,?_,qA T.sp n,?_,λy q=>?_,λy q=>T.ld y ((f y).mp q).1,λy q w=>?_,p,λx a=>?_⟩
 ·rw[<-PN,o];unfold fR;have:=T.sz;rw[<-PN] at this;simp[this]
 ·show Ris (if Va t.dummies j=true then Qy t.dummies (Qc t.dummies j) else t.dummies);split
  ·unfold Ris;rw[fK];exact Tn (SG _ _) T.sd
  ·exact T.sd
 ·rcases(d y).mp q with rfl|q
  ·exact r
  ·exact T.lp y q
 ·have l:=(f y).mp q;rcases(d y).mp w with rfl|w
  ·exact l.2 rfl
  ·exact T.dj y l.1 w
 ·rw[o,Gs _ _ _ _ _ (by rw[PN];exact T.sz.symm)] at a;unfold fR at a;have a:x=(h,j)\/x∈hs.zip t.place.toList:=by
   rcases QL.mp a with q|q
   ·exact .inr (US q)
   ·rcases PX.mp q with q|q
    ·exact .inl q
    ·exact .inr (W0 q)
  rcases a with rfl|a
  ·obtain⟨m,e,q⟩:=u;exact⟨m,e,λb g=>us _ (q b g)⟩
  ·obtain⟨m,e,q⟩:=T.rc x a;exact⟨m,e,λb g=>us _ (q b g)⟩
theorem TOk.drop {t:QT}{c:List Int}(T:TOk t c)(h:t.place[i]? =some j):TOk (t.drop i) (c.eraseIdx i):=by
 have u:t.drop i={t with place:=Qy t.place i,dummies:=Qs t.dummies (Qc t.dummies j) j}:=by
  unfold jag;rw[h]
 have b:t.place.toList[i]? =some j:=by rw[Qa];exact h
 have o:j∈t.place.toList:=Ql b;have lt:i<t.place.size:=(Rb.mp h).1;rw[u];have a:(Qy t.place i).toList=t.place.toList.eraseIdx i:=fK _ _;have g: ∀y,y∈(Qy t.place i).toList↔y∈t.place.toList/\y≠j:=λy=>by rw[a];exact tj T.sp b y
 have f:=r8 t.dummies (Qc t.dummies j) j;have us: ∀y,sR t y->y∈(Qy t.place i).toList\/y∈(Qs t.dummies (Qc t.dummies j) j).toList:=λy q=>by
  rcases q with q|q
  ·by_cases e:y=j
   ·exact .inr ((f y).mpr (.inl e))
   ·exact .inl ((g y).mpr ⟨q,e⟩)
  ·exact .inr ((f y).mpr (.inr q))
 refine⟨T.pw,?_,?_,qA T.sd λw=>T.dj j w o,λy q=>T.lp y ((g y).mp q).1,λy q=>?_,λy q w=>?_,?_,λx l=>?_⟩
 ·show(Qy t.place i).size=_;rw[<-PN,a,RJ,RJ,PN,T.sz]
 ·show Ris (Qy t.place i);unfold Ris;rw[a];exact Tn (SG _ _) T.sp
 ·rcases(f y).mp q with rfl|q
  ·exact T.lp y o
  ·exact T.ld y q
 ·have r:=(g y).mp w;rcases(f y).mp q with rfl|q
  ·exact r.2 rfl
  ·exact T.dj y q r.1
 ·show(Qy t.place i).size+(Qs t.dummies (Qc t.dummies j) j).size<=t.mask;have s:=T.fl;unfold XB at s;rw[<-PN,a,RJ,<-PN (xs:=Qs _ _ _),Rq,if_pos (by rw[PN];exact lt)];simp;lia
 ·have l:x∈(c.eraseIdx i).zip (t.place.toList.eraseIdx i):=by rw[<-a];exact l
  have:x∈c.zip t.place.toList:=by
   obtain⟨n,p⟩:=Qo.mp l;rw[RZ,Ws,Ws] at p;obtain⟨k,d⟩:=p;split at k
   ·rw[if_pos (by assumption)] at d;exact Qo.mpr ⟨n,RZ.mpr ⟨k,d⟩⟩
   ·rw[if_neg (by assumption)] at d;exact Qo.mpr ⟨n+1,RZ.mpr ⟨k,d⟩⟩
  obtain⟨m,e,q⟩:=T.rc x this;exact⟨m,e,λz v=>us _ (q z v)⟩
abbrev pd:=Array (Option Nat)
def F9(a:pd)(j:Nat):Prop:=a[j]? =some none
def GI(a:pd)(j:Nat):Prop:= ∃k,a[j]? =some (some k)
theorem jm {a:pd}:(a.getD j (some 0)).isNone=true↔F9 a j:=by
 unfold F9 Tc
 by_cases h:j<a.size
 ·simp only[h,dite_true];rw[P9 h];show(a[j]).isNone=true↔_;rw[Option.isNone_iff_eq_none,Option.some.injEq]
 ·simp[h]
theorem zt {a:pd}(h:j<a.size)(n: ¬F9 a j):GI a j:=by
 unfold F9 at n;unfold GI;rw[P9 h] at n⊢;cases e:a[j] with
 |none=>rw[e] at n;exact absurd rfl n
 |some k=>exact⟨k,rfl⟩
def Jl(a i p m:Nat):Nat:=(dX a m (lH a i p none)).j
theorem pc(a:i<=mask):QF mask i<=mask/\i<=QF mask i:=by
 unfold QF;split<;>lia
theorem yW(h:i+m<=QF mask i):Jl mask i p m=i+m:=by
 unfold Jl;rw[vb mask m _ (show m<=QF mask i-i by lia)];rfl
theorem AU(a i p m:Nat):Jl a i p ((QF a i-i)+1+m)=Jl a ((i*5+1+p / 32) % (a+1)) (p / 32) m:=by
 unfold Jl;rw[nK];have:=xa a (lH a i p none);have e:(lH a i p none).more=QF a i-i:=rfl;rw[e] at this;rw[this];rfl
theorem Az{b:pd}(s:b.size=mask+1): ∀(fuel i p:Nat),i<=mask->(∃n,n<fuel/\F9 b (lp mask n (i,p)).1)->
 ∃j m,RU mask b fuel i p=some j/\F9 b j/\Jl mask i p m=j/\ ∀a,a<m->GI b (Jl mask i p a)
 |0,i,p,_,⟨n,h,_⟩=>absurd h (WK _)
 |fuel+1,i,p,o,⟨n,h,g⟩=>by
  have x:=pc o;unfold RU;cases e:(Pi (QF mask i+1-i)).find? λk=>(b.getD (i+k) (some 0)).isNone with
  |some k=>
   have r:=List.find?_some e;have d:k<QF mask i+1-i:=Pj.mp (List.mem_of_find?_eq_some e);refine⟨i+k,k,rfl,jm.mp r,yW (by lia),λa f=>?_⟩;rw[yW (by lia)];refine zt (by lia) λw=>?_
   rw[List.find?_range_eq_some] at e;have:=e.2.2 a f;rw[jm.mpr w] at this;exact absurd this (by decide)
  |none=>
   have no: ∀k,k<QF mask i+1-i-> ¬F9 b (i+k):=λk d w=>by
    have:=List.find?_eq_none.mp e k (Pj.mpr d);exact this (jm.mpr w)
   dsimp only;obtain⟨j,m,u,t,q,v⟩:=Az s fuel ((i*5+1+p / 32) % (mask+1)) (p / 32) (Tj.mp (RT _ (by lia))) (by
    cases n with
    |zero=>exact absurd g (no 0 (by lia))
    |succ n=>exact⟨n,by lia,g⟩)
   refine⟨j,(QF mask i-i)+1+m,u,t,by rw[AU];exact q,λa f=>?_⟩
   by_cases c:a<=QF mask i-i
   ·rw[yW (by lia)];exact zt (by lia) (no a (by lia))
   ·obtain⟨l,rfl⟩:=V6 (show QF mask i-i+1<=a by lia);rw[AU];exact v l (by lia)
structure jl(mask:Nat)(ow:pd)(hs:List Int):Prop where
 sz:ow.size=mask+1
 lt: ∀(j k:Nat),ow[j]? =some (some k)->k<hs.length
 un: ∀(j j' k:Nat),ow[j]? =some (some k)->ow[j']? =some (some k)->j=j'
 ex: ∀(k:Nat) (h:Int),hs[k]? =some h-> ∃j m:Nat,ow[j]? =some (some k)/\Jx mask h m=j/\ ∀m',m'<m->GI ow (Jx mask h m')
theorem jl.room{g:List Int}(I:jl mask ow g)(r:g.length<=mask): ∃j,j<=mask/\F9 ow j:=by
 refine Rk λh=>?_
 have d: ∀j,j<=mask->GI ow j:=λj c=>zt (by rw[I.sz];lia) λw=>h ⟨j,c,w⟩
 let f:Nat->Nat:=λj=>((ow[j]?).getD none).getD 0
 have i: ∀j,j<=mask->ow[j]? =some (some (f j)):=λj c=>by
  obtain⟨k,e⟩:=d j c;show _=some (some (((ow[j]?).getD none).getD 0));rw[e];rfl
 have o:((Pi (mask+1)).map f).Nodup:=by
  rw[XO,QI];refine QO (λ{a b} q m l e=>?_) Rl;rw[Pj] at q m;have:=I.un a b (f a) (i a (by lia)) (by rw[e];exact i b (by lia));lia
 have:=sU o (n:=g.length) λz p=>by
  obtain⟨j,c,rfl⟩:=PU.mp p;exact I.lt j _ (i j (by rw[Pj] at c;lia))
 simp at this;lia
theorem FI {k a:Nat}(A:a+1=2^k){i:pd}{f:List Int}(I:jl a i f)(B:f.length<=a)(h:Int):
 ∃j,RU a i (Sz a) (Qx h % (a+1)) (Qx h)=some j/\jl a (i.setIfInBounds j (some f.length)) (f++[h]):=by
 obtain⟨M,J,K⟩:=I.room B;have y:Qx h % (a+1)<=a:=Tj.mp (RT _ (by lia));obtain⟨n,N,e⟩:=D2 A y (Bw h) J;obtain⟨j,m,L,p,H,D⟩:=Az I.sz (Sz a) _ _ y ⟨n,by unfold Sz;lia,by rw[e];exact K⟩;have O:j<i.size:=by
  unfold F9 at p;exact(Rb.mp p).1
 have o: ∀x,(i.setIfInBounds j (some f.length))[x]? =if j=x then some (some f.length) else i[x]? :=λx=>by
  rw[Array.getElem?_setIfInBounds];split<;>rfl
 have g: ∀x,GI i x->GI (i.setIfInBounds j (some f.length)) x:=λx r=>by
  obtain⟨q,b⟩:=r;unfold GI;rw[o];split
  ·exact⟨_,rfl⟩
  ·exact⟨q,b⟩
 refine⟨j,L,by rw[Array.size_setIfInBounds];exact I.sz,λx q b=>?_,λx E q b d=>?_,λq z l=>?_⟩
 ·rw[o] at b;rw[P0,Q3];split at b
  ·cases b;lia
  ·have:=I.lt x q b;lia
 ·rw[o] at b d;split at b
  ·rename_i c
   cases b;split at d
   ·rename_i G;rw[<-c,<-G]
   ·have:=I.lt _ _ d;lia
  ·split at d
   ·cases d;have:=I.lt _ _ b;lia
   ·exact I.un x E q b d
 ·by_cases c:q<f.length
  ·rw[Qk c] at l;obtain⟨x,t,u,F,C⟩:=I.ex q z l;refine⟨x,t,?_,F,λs v=>g _ (C s v)⟩;rw[o,if_neg λw=>?_]
   ·exact u
   ·subst w;unfold F9 at p;rw[p] at u;cases u
  ·have b:q=f.length:=by
    have:=(PL.mp l).1;rw[P0,Q3] at this;lia
   subst b;rw[Qg (Px _),Wr] at l;cases l;exact⟨j,m,by rw[o,if_pos rfl],H,λt v=>g _ (D t v)⟩
theorem AW(i:mask+1=2^k): ∀(a b:List Int) (c:pd),jl mask c b->b.length+a.length<=mask+1->
 ∃d,a.foldl (λacc h=>do
  let(owner,k) <-acc
  let j <-RU mask owner (Sz mask) (Qx h % (mask+1)) (Qx h)
  pure (owner.setIfInBounds j (some k),k+1)) (some (c,b.length))=some (d,b.length+a.length)/\jl mask d (b++a)
 | [],b,c,I,_=>⟨c,rfl,by rw[QX];exact I⟩
 |h::a,b,c,I,l=>by
  rw[P1] at l;obtain⟨j,e,m⟩:=FI i I (by lia) h;obtain⟨d,f,g⟩:=AW i a (b++[h]) _ m (by rw[P0,Q3];lia);rw[P0,Q3] at f;refine⟨d,?_,by rw[QP] at g;exact g⟩
  rw[TX];have:(do
   let(owner,k) <-some (c,b.length)
   let j <-RU mask owner (Sz mask) (Qx h % (mask+1)) (Qx h)
   pure (owner.setIfInBounds j (some k),k+1):Option (pd×Nat))=some (c.setIfInBounds j (some b.length),b.length+1):=by
   show(RU mask c (Sz mask) (Qx h % (mask+1)) (Qx h)).bind (λj=>some (c.setIfInBounds j (some b.length),b.length+1))=_;rw[e];rfl
  rw[this,f,P1];congr 2;lia
theorem BW(a:Nat):jl a (Y7 (a+1) none) [] where
 sz:=by simp
 lt:=λj k h=>by
  rw[VU] at h;split at h<;>cases h
 un:=λj b k h=>by
  rw[VU] at h;split at h<;>cases h
 ex:=λk h e=>by simp at e
def iR(a:Nat)(b:pd):List (Nat×Nat):=(Pi (a+1)).filterMap λj=>(b.getD j none).map (j, ·)
theorem DM {a:Nat}{b:pd}(i:b.size=a+1){x:Nat×Nat}:x∈iR a b↔b[x.1]? =some (some x.2):=by
 unfold iR;rw[Vn];constructor
 ·rintro⟨j,g,e⟩;rw[Pj] at g;have:j<b.size:=by lia
  simp only[Tc,this,dite_true] at e;obtain⟨k,f,rfl⟩:=QR.mp e;show b[j]? =some (some k);rw[P9 this,<-f];rfl
 ·intro h;obtain⟨c,d⟩:=Rb.mp h;refine⟨x.1,Pj.mpr (by lia),?_⟩;simp only[Tc,c,dite_true];have:b.getInternal x.1 c=some x.2:=d;rw[this];rfl
theorem xi(a:Nat)(b:pd):((iR a b).map (·.1)).Pairwise (·< ·):=by
 unfold iR;have: ∀l:List Nat,(l.filterMap λj=>(b.getD j none).map (j, ·)).map (·.1)=l.filter λj=>(b.getD j none).isSome:=by
  intro l
  induction l with
  |nil=>rfl
  |cons j l c=>
   rw[Sk,UF];cases e:b.getD j none with
   |none=>exact c
   |some k=>show j::_=_;rw[c];rfl
 rw[this];exact Sb _ Rl
theorem Bg(L:3<=k)(u:k<=12)(B:mask+1=2^k)(c i:Nat)(led plain:Bool)(f:Array Int)(S:f.size<=mask):
 ∃n d:Array Nat,VV mask c i led plain f=some (⟨mask,n, #[],c,led,i,plain⟩,d)/\d.toList.Perm (Pi f.size)/\
  TOk ⟨mask,n, #[],c,led,i,plain⟩ (d.toList.map λk=>f.toList.getD k 0):=by
 obtain⟨l,e,I⟩:=AW B f.toList [] _ (BW mask) (by simp;lia);rw[Y8] at I;have s:X6 mask f=some l:=by
  unfold X6;rw[<-Array.foldl_toList];have e:f.toList.foldl _ (some (Y7 (mask+1) none,0))=_:=e;rw[e];rfl
 have g:= @DM mask l I.sz;have D:((iR mask l).map (·.2)).Nodup:=by
  rw[XO,QI];have:=xi mask l;rw[QI] at this;refine this.imp_of_mem λ{a b} Q M H w=>?_
  have v:=g.mp Q;have C:=g.mp M;rw[<-w] at C;have:=I.un _ _ _ v C;lia
 have z: ∀k,k∈(iR mask l).map (·.2)↔k∈Pi f.size:=λk=>by
  rw[PU,Pj];constructor
  ·rintro⟨x,o,rfl⟩;have:=I.lt _ _ (g.mp o);simpa using this
  ·intro h;obtain⟨j,m,v,_⟩:=I.ex k (f.toList[k]'(by simpa using h)) (Pq _);exact⟨(j,k),g.mpr v,rfl⟩
 have t: ∀x,GI l x->x∈(iR mask l).map (·.1):=λx ⟨q,G⟩=>PU.mpr ⟨(x,q),g.mpr G,rfl⟩
 refine⟨((iR mask l).map (·.1)).toArray,((iR mask l).map (·.2)).toArray,?_,?_,⟨k,L,u,B⟩,?_,?_,?_,?_,?_,?_,?_,?_⟩
 ·unfold VV;rw[s];rfl
 ·exact(Qe D Qf).mpr z
 ·simp
 ·exact xi mask l
 ·exact Si
 ·intro j r;obtain⟨x,o,rfl⟩:=PU.mp r;have:=(Rb.mp (g.mp o)).1;show x.1<=mask;rw[I.sz] at this;lia
 ·intro j r;cases r
 ·intro j r;cases r
 ·show((iR mask l).map (·.1)).toArray.size+0<=mask;have O:=((Qe D Qf).mpr z).length_eq;simp at O⊢;lia
 ·intro x o;have o:x∈((((iR mask l).map (·.2)).map λk=>f.toList.getD k 0)).zip ((iR mask l).map (·.1)):=o;rw[PM,List.zip_map'] at o;obtain⟨y,P,rfl⟩:=PU.mp o;have p:=g.mp P;have lt:=I.lt _ _ p;obtain⟨j,m,K,F,R⟩:=I.ex y.2 (f.toList[y.2]'lt) (Pq _);have J:=I.un _ _ _ K p;have A:f.toList.getD y.2 0=f.toList[y.2]'lt:=by rw[Qr,Pq lt];rfl
  refine⟨m,?_,λE N=>.inl ?_⟩
  ·show Jx mask (f.toList.getD y.2 0) m=y.1;rw[A,F,J]
  ·show Jx mask (f.toList.getD y.2 0) E∈((iR mask l).map (·.1));rw[A];exact t _ (R E N)
theorem nJ: ∀(fuel s n:Nat),n<s*2^fuel-> ∃e,e<=fuel/\UA n fuel s=s*2^e/\n<s*2^e/\(e=0\/s*2^e<=2*n)
 |0,s,n,h=>⟨0,by lia,by simp[UA],h,.inl rfl⟩
 |fuel+1,s,n,h=>by
  unfold UA
  by_cases c:s<=n
  ·rw[if_pos c];obtain⟨e,f,b,d,a⟩:=nJ fuel (s*2) n (by rw[UO] at h;rw[UN];exact h);refine⟨e+1,by lia,by rw[b,UO,UN],by rw[UO,<-UN];exact d,.inr ?_⟩;rw[UO,<-UN];rcases a with rfl|a
   ·simp;lia
   ·exact a
  ·rw[if_neg c];exact⟨0,by lia,by simp,by simp;lia,.inl rfl⟩
theorem jF(f:n<=4095): ∃k,3<=k/\k<=12/\QB n=2^k/\n<2^k:=by
 obtain⟨e,h,d,g,b⟩:=nJ 64 8 n (RH f (by decide));have a:8*2^e=2^(3+e):=by rw[YU]
 refine⟨3+e,by lia,?_,d.trans a,by rw[<-a];exact g⟩;rcases b with rfl|b
 ·lia
 ·refine Rk λc=>?_
  have:=Sc (n:=2) (by lia) (show 13<=3+e by lia);rw[<-a] at this;have:(2:Nat)^13=8192:=by decide
  lia
open PySem PySem.Spec PyProof.Rows
def th(ks:List Int):Int:=reduceHash (jac (ks.map hashInt))
abbrev KI(prog:Qp)(w:QD):HeapKind prog w (List Int):=tupleKind (intKind prog w)
theorem AS(prog:Qp)(w:QD)(ks:List Int):(KI prog w).hash ks=th ks:=rfl
def wP(x:List Int×Addr):Int×Value:=(th x.1,.ref x.2)
abbrev gR:=List (List Int×Addr)
def qV(xs:gR):List Int:=xs.map λx=>th x.1
def tq(prog:Qp)(w:QD)(h:Heap)(xs:gR):Prop:= ∀x∈xs,(KI prog w).is h x.1 x.2
structure SetAt(w:QD)(o:Obj)(es:Array (Int×Pk))(ep:Nat)(t:QT)(xs:gR):Prop where
 ex:o.ExactSet
 hd:o.data=.set es ep t
 he:es.toList=xs.map wP
 T:TOk t (qV xs)
 led:t.led= !w.params.followText "set-order"
 pl:t.plain=true
 nd:(xs.map (·.1)).Nodup
section
variable {prog:Qp}{w:QD}{A:Qq}{E:Pk->Pn->Prop}{s:Pn}{a b:Addr}{o:Obj}{es:Array (Int×Pk)}{ep:Nat}{t:QT}{xs:gR}{k:List Int}
theorem SetAt.size(S:SetAt w o es ep t xs):es.size=xs.length:=by
 have:=congrArg Sd S.he;simpa using this
theorem SetAt.fits(S:SetAt w o es ep t xs):t.fits es.size=true:=by
 have a:=S.T.sz;have b:=S.T.fl;unfold qV at a;rw[Pp] at a;unfold SetTable.fits;rw[S.size,a];simp[b]
theorem SetAt.at_(S:SetAt w o es ep t xs)(i:Nat):es[i]? =(xs[i]?).map wP:=by
 rw[<-Qa,S.he,Qi]
theorem pE {k:List Int}(g:(KI prog w).is s.heap k b)(h:Q false s):PJ (model prog w) A (VG 8 (.ref b)) Q E s:=by
 have i:=X7 (s:=s) g;obtain⟨o,items,n,m,q,j,l⟩:=g;unfold VG;refine Ph (X8 i ?_);dsimp only;rw[if_pos (by decide)];refine Ph (Pl ?_);simp only[Rs,PH,if_false];refine Ph (Vo m j ?_);dsimp only;refine Ph ?_
 rw[<-XS];refine UG _ (λc r s'=>r.1=none/\s'=s/\ ∀v∈c,Zr v=true) _ ?_ ?_ _ _ ⟨rfl,rfl,l.byValue⟩
 ·rintro v c r s' ⟨e,rfl,d⟩;have hv:=d v PV;have:VG 7 v=pure false:=by
   cases v with
   |ref a=>simp[Zr] at hv
   |_=>rfl
  rw[this];refine Ph (Pl ?_);simp only[PH,if_false];exact Pl ⟨rfl,rfl,λu f=>d u (PK _ f)⟩
 ·rintro⟨t,p⟩ s' ⟨e,rfl,_⟩;simp only at e;subst e;exact Pl h
theorem uC {k:List Int}(i:(KI prog w).is s.heap k b)(hv: ∀v∈vs,∃f c,v=.ref c/\(KI prog w).is s.heap f c)(h:Q false s):PJ (model prog w) A (X9 (.ref b) vs) Q E s:=by
 unfold X9;refine Ph ?_
 refine UG _ (λd r s'=>r.1=none/\s'=s/\ ∀v∈d,∃f c,v=.ref c/\(KI prog w).is s.heap f c) _ ?_ ?_ _ _ ⟨rfl,rfl,hv⟩
 ·rintro v d r s' ⟨g,rfl,a⟩;obtain⟨f,c,rfl,j⟩:=a v PV;dsimp only;split
  ·exact Pl ⟨rfl,rfl,λu e=>a u (PK _ e)⟩
  ·refine Ph ((KI prog w).quiet i ?_);simp only[Rs,PH,if_false];refine Ph ((KI prog w).quiet j ?_);simp only[Rs,PH,if_false];refine Ph (pE i ?_);simp only[PH,if_false];refine Ph (pE j ?_);simp only[PH,if_false];exact Pl ⟨rfl,rfl,λu e=>a u (PK _ e)⟩
 ·rintro⟨m,l⟩ s' ⟨g,rfl,_⟩;simp only at g;subst g;exact Pl h
def N4(es:Array (Int×Pk))(i:Nat):Int:=(es[i]?.map (·.1)).getD 0
theorem CA {α:Type}{m:Sem Bool}{U R:Sem α}{c:Bool}{Q:α->Pn->Prop}(a:PJ (model prog w) A R Q E s)(d:PJ (model prog w) A m (λb s'=>b=false/\s'=s) E s):
 PJ (model prog w) A (if c=true then(m>>=λx=>if x=true then U else R) else R) Q E s:=by
 split
 ·refine Ph (Qv d (λb s' ⟨e,f⟩=>?_) λ_ _ x=>x);subst e f;simp only[PH,if_false];exact a
 ·exact a
theorem pJ(Z:s.heap.get? a=some o)(S:SetAt w o es ep t xs)(X:tq prog w s.heap xs)(hu:A.units<Rp)(O:(KI prog w).is s.heap k b)(f:Bool)(hM:M<=10*(13+t.mask))
 (h1: ¬sR t (Jx t.mask (th k) M)) (h2: ∀m,m<M->sR t (Jx t.mask (th k) m))
 (n: ∀(i:Nat) (c:Addr),xs[i]? =some (k,c)->Q (.there (if f then none else some i)) s)
 (u:k∉xs.map (·.1)-> ∀(d:Option Nat),MA t (th k) M d->Q (.free (d.getD (Jx t.mask (th k) M)) d.isSome) s):
 ∀(fuel m:Nat) (st:Option Pb) (d:Option Nat),M<m+fuel->m<=M->MA t (th k) M d->st.getD (t.probeStart (th k))=dX t.mask m (uu t.mask (th k) d)->
  (∀(i:Nat) (c:Addr) (j:Nat),xs[i]? =some (k,c)->t.place[i]? =some j-> ∃h,m<=h/\h<M/\Jx t.mask (th k) h=j)->
  PJ (model prog w) A (setSearchFrom a (.ref b) (th k) f fuel st) Q E s
 |0,m,st,d,q1,q2,_,_,_=>absurd q1 (by lia)
 |fuel+1,m,st,d,q1,q2,hd,L,D=>by
  have T:=S.T;have V:(KI prog w).room A:=hu;have hsz: ∀i:Nat,(∃j,t.place[i]? =some j)↔ ∃x,xs[i]? =some x:=λi=>by
   have e1:=T.sz;unfold qV at e1;rw[Pp] at e1;constructor
   ·rintro⟨j,I⟩;have:=(Rb.mp I).1;exact⟨_,Pq (show i<xs.length by lia)⟩
   ·rintro⟨x,g⟩;have:=(PL.mp g).1;exact⟨_,P9 (show i<t.place.size by lia)⟩
  unfold setSearchFrom;refine Ph (QC Z S.hd S.fits ?_);dsimp only;rw[T.noway];simp only[PH,if_false];rw[L];unfold SetTable.probe;obtain⟨r,hr,hc⟩:=rd T (N4 es) h1 h2 (10*Sz t.mask) m d (by unfold Sz;lia) q2 hd;generalize hP:VF t _ (th k) _ _=P;obtain rfl:P=some r:=hP.symm.trans hr;dsimp only;have q: ∀(i:Nat) (x:List Int×Addr),xs[i]? =some x->N4 es i=th x.1:=λi x g=>by
   unfold N4;rw[S.at_,g];rfl
  rcases hc with⟨d',rfl,F,W⟩|⟨c,i,d',a1,a2,H,a4,rfl,F,W⟩
  ·have nk:k∉xs.map (·.1):=λw=>by
    obtain⟨x,g,rfl⟩:=PU.mp w;obtain⟨i,N⟩:=Qo.mp g;obtain⟨j,I⟩:=(hsz i).mpr ⟨x,N⟩;obtain⟨h,g1,g2,C⟩:=D i x.2 j N I;exact W h g1 g2 i (by rw[C];exact I) (q i x N)
   have:=u nk d' F;dsimp only;cases d' with
   |none=>exact Pl this
   |some z=>
    dsimp only;have e:(f&&t.slot z !=jdC)=false:=by
     rw[rH T (F z rfl).1];simp
    rw[e];simp only[PH,if_false];exact Pl this
  ·obtain⟨x,g⟩:=(hsz i).mp ⟨_,H⟩;have K:es[i]? =some (th x.1,.ref x.2):=by rw[S.at_,g];rfl
   have R:=Ql g;have Y:=X x R;dsimp only;refine CA ?_ (uC O (λv hv=>?_) ⟨rfl,rfl⟩)
   ·rw[K];dsimp only;refine Ph (Qt ((KI prog w).eqBool (x:=x.1) (y:=k) V Y O ?_));refine Ph (QC Z S.hd S.fits ?_);dsimp only;have sm:t.sameMemory t.moves t.mask=some true:=by unfold SetTable.sameMemory;rw[if_pos (beq_self_eq_true _)]
    by_cases J:x.1=k
    ·rw[lm J];have G:=n i x.2 (by rw[g,<-J]);cases f with
     |true=>simp only[XC,if_true];exact Pl G
     |false=>
      simp only[Rv,PH,if_false];rw[sm];dsimp only;rw[if_pos rfl,oX T H];dsimp only;rw[K];dsimp only;refine Ph (WO ?_);simp only[if_true];refine Ph (Pl ?_);dsimp only;exact Pl G
    ·rw[lC J,Bool.and_false];simp only[PH,if_false];rw[sm];dsimp only;rw[if_pos rfl,oX T H];dsimp only;rw[K];dsimp only;refine Ph (WO ?_);simp only[if_true];refine Ph (Pl ?_);dsimp only;refine pJ Z S X hu O f hM h1 h2 n u fuel (c+1) _ d' (by lia) (by lia) F rfl λU c' j' l p=>?_
     obtain⟨h,g1,g2,C⟩:=D U c' j' l p;refine⟨h,?_,g2,C⟩;refine Rk λw=>?_
     by_cases e:h=c
     ·subst e;have:=T.sp.inj H (by rw[C];exact p);subst this;rw[g] at l;cases l;exact J rfl
     ·exact W h g1 (by lia) U (by rw[C];exact p) (q U _ l)
   ·obtain⟨e,B,rfl⟩:=PU.mp hv;have B:e∈es:=(Array.mem_filter.mp (SN.mp B)).1;have B:e∈xs.map wP:=by rw[<-S.he];exact SN.mpr B
    obtain⟨y,G,rfl⟩:=PU.mp B;exact⟨y.1,y.2,rfl,X y G⟩
end
theorem Jr(a:Nat)(p:Pb)(h:p.j+p.more<=a):(AH a p).j+(AH a p).more<=a:=by
 unfold AH;split
 ·dsimp only;lia
 ·have b:(TQ a p.i p.perturb).1<=a:=Tj.mp (RT _ (by lia));have:=pc b;dsimp only;lia
theorem MW(a:Nat)(h:Int)(m:Nat):Jx a h m<=a:=by
 have: ∀m,(dX a m (uu a h none)).j+(dX a m (uu a h none)).more<=a:=λm=>by
  induction m with
  |zero=>
   have b:Qx h % (a+1)<=a:=Tj.mp (RT _ (by lia));have:=pc b;show Qx h % (a+1)+(QF a (Qx h % (a+1)) -Qx h % (a+1))<=a;lia
  |succ m c=>rw[ji];exact Jr a _ c
 have:=this m;unfold Jx;lia
structure bX(w:QD)(o:Obj)(es:Array (Int×Pk))(ep:Nat)(t:QT)(xs:gR):Prop extends SetAt w o es ep t xs where
 f5:t.fill*5<t.mask*3
section
variable {prog:Qp}{w:QD}{A:Qq}{E:Pk->Pn->Prop}{s:Pn}{a b:Addr}{o:Obj}{es:Array (Int×Pk)}{ep:Nat}{t:QT}{xs:gR}{k:List Int}
theorem qK(L:s.heap.get? a=some o)(S:SetAt w o es ep t xs)(J:tq prog w s.heap xs)(N:A.units<Rp)(F:(KI prog w).is s.heap k b)(f:Bool)
 (h: ∀(i:Nat) (c:Addr),xs[i]? =some (k,c)->Q (.there (if f then none else some i)) s)
 (g:k∉xs.map (·.1)-> ∀(j:Nat) (p:Bool),j<=t.mask->(p=true->j∈t.dummies.toList)->(p=false-> ¬sR t j)->(∃m,Jx t.mask (th k) m=j/\ ∀n,n<m->sR t (Jx t.mask (th k) n))->Q (.free j p) s):
 PJ (model prog w) A (setSearch a (.ref b) (th k) f) Q E s:=by
 obtain⟨M,C,l,r⟩:=S.T.first (th k);have O:=S.T.mask;unfold setSearch;refine pJ L S J N F f C l r h (λv d G=>?_) 100000 0 none none (by lia) (by lia) (λx K=>by cases K) rfl λi c j D B=>?_
 ·cases d with
  |none=>exact g v _ _ (MW _ _ _) (λw=>by cases w) (λ_=>l) ⟨M,rfl,r⟩
  |some z=>
   obtain⟨y,m,P,H⟩:=G z rfl;exact g v z true (S.T.ld z y) (λ_=>y) (λw=>by cases w) ⟨m,H,λn R=>r n (by lia)⟩
 ·obtain⟨u,e,q⟩:=S.T.rc (th k,j) (Qo.mpr ⟨i,RZ.mpr ⟨by unfold qV;rw[Qi,D];rfl,by rw[Qa];exact B⟩⟩);refine⟨u,by lia,?_,e⟩;have I:sR t j:=.inl (Ql (by rw[Qa];exact B));rcases Sf u M with c|c|c
  ·exact c
  ·subst c;rw[e] at l;exact absurd I l
  ·exact absurd (q M c) l
theorem qZ(b:Addr)(es:Array (Int×Pk)):byScan (.ref b) es=false:=rfl
theorem xS(f:s.heap.get? a=some o)(S:SetAt w o es ep t xs)(h:tq prog w s.heap xs)(m:A.units<Rp)(n:(KI prog w).is s.heap k b)
 (d: ∀(i:Nat) (c:Addr),xs[i]? =some (k,c)->Q (some i) s) (e:k∉xs.map (·.1)->Q none s):PJ (model prog w) A (setFind a (.ref b) (th k)) Q E s:=by
 unfold setFind setFindIn;refine Ph (QC f S.hd S.fits ?_);dsimp only;rw[qZ];simp only[PH,if_false];refine Ph (qK f S h m n false (λi c l=>?_) λg j p _ _ _ _=>?_)
 ·exact Pl (d i c l)
 ·exact Pl (e g)
theorem Ds {k:List Int}(m:(KI prog w).is s.heap k b)(h:Q true s):PJ (model prog w) A (YW 8 (.ref b)) Q E s:=by
 have f:=X7 (s:=s) m;obtain⟨o,items,n,p,z,g,j⟩:=m;unfold YW;refine Ph (UX f F.slot_tuple_hash.lookup ?_);refine Ph (Vo p g ?_);dsimp only;refine Ph ?_
 show PJ _ _ (forIn items _ _) _ _ _;rw[<-XS];have a: ∀v∈items.toList,∃(i:Int) (tk:Tok),v=.int i tk:=by
  intro v hv;clear p g f;generalize items.toList=l at j hv
  induction j with
  |nil=>cases hv
  | @cons k x ks vs t _ q=>
    rcases PX.mp hv with rfl|hv
    ·obtain⟨tk,rfl⟩:=Ya t;exact⟨_,_,rfl⟩
    ·exact q hv
 refine UG _ (λc r s'=>r.1=none/\s'=s/\ ∀v∈c,∃(i:Int) (tk:Tok),v=.int i tk) _ ?_ ?_ _ _ ⟨rfl,rfl,a⟩
 ·rintro v c r s' ⟨d,rfl,a⟩;obtain⟨i,tk,rfl⟩:=a v PV;have:YW 7 (.int i tk)=pure true:=rfl;rw[this];refine Ph (Pl ?_);simp only[Rs,PH,if_false];exact Pl ⟨rfl,rfl,λu e=>a u (PK _ e)⟩
 ·rintro⟨B,y⟩ s' ⟨d,rfl,_⟩;simp only at d;subst d;exact Pl h
theorem sT(S:SetAt w o es ep t xs):(es.map (·.1)).toList=qV xs:=by
 rw[Array.toList_map,S.he,PM];rfl
def pN(xs:gR)(a:List Nat):gR:=a.map λi=>xs.getD i ([],0)
theorem lv {xs:gR}{a:List Nat}(p:a.Perm (Pi xs.length)):(pN xs a).Perm xs:=by
 have e:(Pi xs.length).map (λi=>xs.getD i ([],0))=xs:=by
  refine UH (by simp) λi c b=>?_
  simp[Qr,b]
 have:=p.map λi=>xs.getD i ([],0)
 rw[e] at this;exact this
theorem s0(S:SetAt w o es ep t xs)(hw:wanted<=4095)(p:xs.length*5<wanted*3): ∃(b a:Array Nat) (g:Nat),t.relaid (es.map (·.1)) wanted=some (⟨QB wanted-1,b, #[],t.finger,t.led,g,t.plain⟩,a)/\
 a.toList.Perm (Pi xs.length)/\(∀(f:Obj) (c:Nat),f.ExactSet->f.data=.set (a.filterMap (es[·]?)) c ⟨QB wanted-1,b, #[],t.finger,t.led,g,t.plain⟩->
  bX w f (a.filterMap (es[·]?)) c ⟨QB wanted-1,b, #[],t.finger,t.led,g,t.plain⟩ (pN xs a.toList))/\(a.filterMap (es[·]?)).size=es.size:=by
 obtain⟨q,B,r,e,H⟩:=jF hw;have v:(es.map (·.1)).size=xs.length:=by rw[Zs,S.size]
 have E:QB wanted-1+1=2^q:=by rw[e];lia
 obtain⟨b,a,I,d,x⟩:=Bg B r E t.finger (t.movedTo (QB wanted-1)) t.led t.plain (es.map (·.1)) (by rw[v,e];lia);rw[v] at d;have lt: ∀i∈a.toList,i<xs.length:=λi m=>Pj.mp (d.mem_iff.mp m)
 have u:(a.filterMap (es[·]?)).toList=(pN xs a.toList).map wP:=by
  rw[Wt];unfold pN;rw[PM];have n: ∀l:List Nat,(∀i∈l,i<xs.length)->l.filterMap (λi=>es[i]?)=l.map (wP∘λi=>xs.getD i ([],0)):=by
   intro l
   induction l with
   |nil=>intro _;rfl
   |cons i l D=>
    intro p;have y:=p i PV;have C:es[i]? =some (wP (xs.getD i ([],0))):=by
     rw[S.at_,Pq y];simp[Qr,y]
    rw[Sk,C,Pu,D λj G=>p j (PK _ G)];rfl
  exact n _ lt
 have F:qV (pN xs a.toList)=a.toList.map λk=>(es.map (·.1)).toList.getD k 0:=by
  unfold qV pN;rw[PM];refine P2 λi m=>?_
  have:=lt i m;rw[sT S];show th (xs.getD i ([],0)).1=(qV xs).getD i 0;unfold qV;simp[Qr,this]
 have s:=lv d;refine⟨b,a,_,I,d,λf c h A=>?_,?_⟩
 ·refine⟨⟨h,A,u,by rw[F];exact x,S.led,S.pl,?_⟩,?_⟩
  ·exact((s.map (·.1)).nodup_iff).mpr S.nd
  ·have z:=x.sz;rw[Pp,d.length_eq,QJ] at z;show(b.size+0)*5<(QB wanted-1)*3;have z:b.size=xs.length:=z;rw[z,e];lia
 ·rw[<-PN,u,Pp,s.length_eq,S.size]
theorem FX(i:s.heap.get? a=some o)(S:SetAt w o es ep t xs)(hw:wanted<=4095)(p:xs.length*5<wanted*3)
 (h: ∀h' m c j t' f,Qz a s.heap h'->h'.get? a=some m->bX w m c j t' f->f.Perm xs->Q () {s with heap:=h'}):PJ (model prog w) A (setRelay a wanted) Q E s:=by
 obtain⟨d,b,n,B,z,r,l⟩:=s0 S hw p;obtain⟨q,C,g,e,x⟩:=jF hw
 have v:setRelay a wanted=(do
  let(es,_,t) <-Yb a
  if QB wanted>P4 then RX "set:memory"
  let(es,t) <-(do
   let some (t,b):=t.relaid (es.map (·.1)) wanted|RX "internal:set-table-without-room"
   let c:=b.filterMap (es[·]?)
   if c.size !=es.size then RX "internal:set-table-lost-an-element"
   pure (c,t):Sem (Array (Int×Pk)×QT))
  Zt a es t):=rfl
 rw[v];refine Ph (QC i S.hd S.fits ?_);dsimp only;have y:2^q<=2^12:=Sc (by lia) g
 rw[if_neg (by rw[e,Q7];have:(2:Nat)^12=4096:=by decide
               lia),B]
 dsimp only;rw[l,bne_self_eq_false];simp only[PH,if_false];refine Ph (Pl ?_);dsimp only;have u:(b.filterMap (es[·]?)).size<=sizeLine:=by
  rw[l,S.size,Q7];lia
 refine SO i S.hd ?_ u;have k:=QG (T7 (b.filterMap (es[·]?)) ⟨QB wanted-1,d, #[],t.finger,t.led,n,t.plain⟩) i (by rw[S4 _ _ S.hd];rfl);rw[S4 _ _ S.hd] at k;exact h _ _ _ _ _ _ (Q4 s.heap a _) k (r _ _ S.ex rfl) (lv z)
end
theorem FM {t:QT}(T:TOk t hs)(a:Bool)(g:a=true->j∈t.dummies.toList)(h:a=false-> ¬sR t j):(t.put j).1.fill=if a then t.fill else t.fill+1:=by
 have k:(Qs t.place (Qc t.place j) j).size=t.place.size+1:=by
  have:=congrArg Sd (Rq t.place (Qc t.place j) j);rw[PN] at this;rw[this];have b:=(Mf T.sp j).le;simp;lia
 show(Qs t.place (Qc t.place j) j).size+(if Va t.dummies j=true then Qy t.dummies (Qc t.dummies j) else t.dummies).size=_;rw[k];unfold XB;cases a with
 |true=>
  have d:=g rfl;obtain⟨i,c⟩:=Qo.mp d;rw[Qa] at c;have lt:=(Rb.mp c).1;have e:(Qy t.dummies (Qc t.dummies j)).size=t.dummies.size-1:=by
   rw[<-PN,fK,RJ,uB T.sd c,if_pos (by rw[PN];exact lt),PN]
  rw[if_pos ((kQ T.sd j).mpr d),if_pos rfl,e];lia
 |false=>
  have f:=h rfl;rw[if_neg λw=>f (.inr ((kQ T.sd j).mp w)),if_neg (by decide)];lia
theorem oT {α β:Type}(f:α->β): ∀(l:List α) (i:Nat),(l.map f).eraseIdx i=(l.eraseIdx i).map f
 | [],_=>rfl
 |_::_,0=>rfl
 |a::l,i+1=>by rw[Pu,V8,V8,Pu,oT f l i]
section
variable {prog:Qp}{w:QD}{A:Qq}{E:Pk->Pn->Prop}{s:Pn}{a b:Addr}{o:Obj}{es:Array (Int×Pk)}{ep:Nat}{t:QT}{xs:gR}{k:List Int}
theorem E4 {α:Type}(l:List α)(p:Nat)(x:α):(fR l p x).Perm (l++[x]):=by
 unfold fR;refine YB.trans ?_
 rw[To];exact(List.perm_append_singleton x l).symm
theorem uo(v:s.heap.get? a=some o)(S:bX w o es ep t xs)(hE:tq prog w s.heap xs)(hu:A.units<Rp)(K:(KI prog w).is s.heap k b)(P:xs.length<=1000)
 (u:k∈xs.map (·.1)->Q false s)
 (r:k∉xs.map (·.1)-> ∀h' g l d t' f,Qz a s.heap h'->h'.get? a=some g->bX w g l d t' f->f.Perm (xs++[(k,b)])->Q true {s with heap:=h'}):
 PJ (model prog w) A (Wu a (.ref b) (th k)) Q E s:=by
 have z:=S.toSetAt;unfold Wu setAddHashedIn;refine Qt (Ph (QC v S.hd z.fits ?_));dsimp only;rw[qZ];simp only[PH,if_false];refine Ph (qK v z hE hu K true (λi c X=>?_) λD j H hj n p F=>?_)
 ·exact Pl (u (PU.mpr ⟨(k,c),Ql X,rfl⟩))
 ·dsimp only;refine Ph (QC v S.hd z.fits ?_);dsimp only;have T:=S.T;have Y:j∉t.place.toList:=λw=>by
   cases H with
   |true=>exact T.dj j (n rfl) w
   |false=>exact p rfl (.inl w)
  have fp:=FM T H n p;have W:=S.f5;obtain⟨q,R,ST,qe⟩:=T.pw;have p3:2^3<=2^q:=Sc (by lia) R;have fl:(t.put j).1.fill<=t.mask:=by rw[fp];split<;>lia
  have U:=T.put hj Y F fl;have J:(t.put j).1.plain=true:=S.pl;have hsz:=z.size;have N:(Qs es (t.put j).2 (th k,Q9 b)).toList=(fR xs (t.put j).2 (k,b)).map wP:=by
   rw[Rq,S.he];unfold fR;rw[Qm,Pu,VW,XD];rfl
  have et:qV (fR xs (t.put j).2 (k,b))=fR (qV xs) (t.put j).2 (th k):=by
   unfold qV fR;rw[Qm,Pu,VW,XD]
  have m:=E4 xs (t.put j).2 (k,b);have G:((fR xs (t.put j).2 (k,b)).map (·.1)).Nodup:=by
   refine((m.map (·.1)).nodup_iff).mpr ?_
   rw[Qm,Q6];exact⟨S.nd,by simp,λx hx y M=>by
    simp only[Pu,SQ,PQ] at M;subst M;exact λe=>D (e▸hx)⟩
  have I:(Qs es (t.put j).2 (th k,Q9 b)).size=xs.length+1:=by
   rw[<-PN,N,Pp,m.length_eq];simp
  have O: ∀(g:Obj) (d:Nat),g.ExactSet->g.data=.set (Qs es (t.put j).2 (th k,Q9 b)) d (t.put j).1->SetAt w g (Qs es (t.put j).2 (th k,Q9 b)) d (t.put j).1 (fR xs (t.put j).2 (k,b)):=
   λg d C V=>⟨C,V,N,by rw[et];exact U,S.led,J,G⟩
  have B:=QG (T7 (Qs es (t.put j).2 (th k,Q9 b)) (t.put j).1) v (by rw[S4 _ _ S.hd];rfl);rw[S4 _ _ S.hd] at B;rw[J];simp only[if_true];refine Ph (Ds K ?_);simp only[if_true];refine Ph (SO v S.hd ?_ (by rw[I,Q7];lia));have L:=Q4 s.heap a (T7 (Qs es (t.put j).2 (th k,Q9 b)) (t.put j).1);split
  ·rename_i h
   rw[Ps] at h;refine Ph (FX (s:={s with heap:=s.heap.update a (T7 (Qs es (t.put j).2 (th k,Q9 b)) (t.put j).1)}) B (O _ _ S.ex rfl) ?_ ?_ λh' g l d t' f g1 g2 g3 Z=>?_)
   ·rw[hsz];unfold Zv;split<;>lia
   ·rw[hsz,m.length_eq];unfold Zv;rw[P0,Q3];split<;>lia
   ·exact Pl (r D h' g l d t' f (L.trans g1) g2 g3 (Z.trans m))
  ·rename_i h
   refine Pl (r D _ _ _ _ _ _ L B ⟨O _ _ S.ex rfl,?_⟩ m);show(t.put j).1.fill*5<t.mask*3;rw[fp];cases H with
   |true=>exact W
   |false=>
    have h: ¬(t.put j).1.tooFull=true:=λw=>h (by rw[w];rfl)
    unfold SetTable.tooFull at h;rw[lb,fp] at h;have:(t.put j).1.mask=t.mask:=rfl;rw[this] at h;simp only[PH,if_false] at h⊢;lia
theorem pC(h:s.heap.get? a=some o)(S:bX w o es ep t xs)(B:tq prog w s.heap xs)(F:A.units<Rp)(I:(KI prog w).is s.heap k b)(e:xs.length<=1000)
 (j:k∉xs.map (·.1)->Q false s)
 (d:k∈xs.map (·.1)-> ∀h' x l n t' f,Qz a s.heap h'->h'.get? a=some x->bX w x l n t' f->(∃i c,xs[i]? =some (k,c)/\f=xs.eraseIdx i)->Q true {s with heap:=h'}):
 PJ (model prog w) A (V9 a (.ref b) (th k)) Q E s:=by
 have v:=S.toSetAt;unfold V9;refine Ph (xS h v B F I (λi c m=>?_) λz=>?_)
 ·dsimp only;refine Ph (QC h S.hd v.fits ?_);dsimp only;have T:=S.T;have r:=T.sz;unfold qV at r;rw[Pp] at r;have J:=(PL.mp m).1;have u:t.place[i]? =some (t.place[i]'(by lia)):=P9 (by lia);have C:=T.drop u;have q:(Qy es i).toList=(xs.eraseIdx i).map wP:=by
   rw[fK,S.he,oT]
  have y:qV (xs.eraseIdx i)=(qV xs).eraseIdx i:=by unfold qV;rw[oT]
  have G:(Qy es i).size<=1000:=by
   rw[<-PN,q,Pp];exact Qh (Wa _ _) e
  have p:=QG (T7 (Qy es i) (t.drop i)) h (by rw[S4 _ _ S.hd];rfl);rw[S4 _ _ S.hd] at p;have g:t.drop i={t with place:=Qy t.place i,dummies:=Qs t.dummies (Qc t.dummies (t.place[i]'(by lia))) (t.place[i]'(by lia))}:=by
   unfold jag;rw[u]
  refine Ph (SO h S.hd ?_ (by rw[Q7];lia));refine Ph (wpAny_point ?_);refine Pl (d (PU.mpr ⟨(k,c),Ql m,rfl⟩) _ _ _ _ _ (xs.eraseIdx i) (Q4 s.heap a _) p ⟨⟨S.ex,rfl,q,by rw[y];exact C,by rw[g];exact S.led,by rw[g];exact S.pl,?_⟩,?_⟩ ⟨i,c,m,rfl⟩)
  ·rw[<-oT];exact Te (SG _ _) S.nd
  ·have D:=S.f5;have H:(t.drop i).fill=t.fill:=by
    rw[g];show(Qy t.place i).size+(Qs t.dummies _ _).size=t.place.size+t.dummies.size;rw[<-PN,fK,RJ,<-PN (xs:=Qs _ _ _),Rq,if_pos (by rw[PN];lia)];have b:=(Mf T.sd (t.place[i]'(by lia))).le;simp;lia
   rw[H,g];exact D
 ·exact Pl (j z)
end
abbrev lJ:=Sum Int Str
def IG:lJ->Pk->Bool
 | .inl k,v=>Value.isInt k v
 | .inr x,v=>Value.isStrOf x v
def Oh(w:QD):lJ->Int
 | .inl k=>hashInt k
 | .inr x=>hashStr w x
theorem cC: ∀ {k:lJ} {v:Pk},IG k v=true->(∃i t,k=VH i/\v=Vk i t)\/(∃x t,k=Xj x/\v=Value.str x t)
 | .inl i,v,h=>by
   obtain⟨t,e⟩:=Ya (k:=i) (v:=v) h;exact .inl ⟨i,t,rfl,e⟩
 | .inr x,v,h=>by
   obtain⟨t,e⟩:=Value.isStrOf_shape (x:=x) (v:=v) h;exact .inr ⟨x,t,rfl,e⟩
theorem Km(a b:Int):decide ((VH a:lJ)=VH b)=(a==b):=by
 by_cases e:a=b
 ·subst e;simp
 ·have h: ¬(VH a:lJ)=VH b:=λq=>e (Sum.inl.inj q)
  rw[lC h];exact(beq_eq_false_iff_ne.mpr e).symm
theorem Ku(a b:Str):decide ((Xj a:lJ)=Xj b)=decide (a=b):=by
 by_cases e:a=b
 ·subst e;simp
 ·have h: ¬(Xj a:lJ)=Xj b:=λq=>e (Sum.inr.inj q)
  rw[lC h,lC e]
theorem JV(a:Int)(b:Str):decide ((VH a:lJ)=Xj b)=false:=lC (λq=>nomatch q)
theorem J7(a:Str)(b:Int):decide ((Xj a:lJ)=VH b)=false:=lC (λq=>nomatch q)
def vT(prog:Qp)(w:QD):PySem.KeyKind prog w lJ where
 is:=IG
 hash:=Oh w
 inj:=λv a b ha hb=>by
  rcases cC ha with⟨i,t,rfl,rfl⟩|⟨x,t,rfl,rfl⟩
  ·rcases cC hb with⟨j,u,rfl,e⟩|⟨y,u,rfl,e⟩
   ·injection e with e1 _;rw[e1]
   ·exact nomatch e
  ·rcases cC hb with⟨j,u,rfl,e⟩|⟨y,u,rfl,e⟩
   ·exact nomatch e
   ·injection e with e1 _;rw[e1]
 byValue:=λk v h=>by
  rcases cC h with⟨i,t,rfl,rfl⟩|⟨x,t,rfl,rfl⟩<;>rfl
 pyHash:=λhv h=>by
  rcases cC hv with⟨i,t,rfl,rfl⟩|⟨x,t,rfl,rfl⟩
  ·exact wpAny_pyHash_int h
  ·exact wpAny_pyHash_str h
 eqBool:=λhu hv h=>by
  rcases cC hu with⟨i,t,rfl,rfl⟩|⟨x,t,rfl,rfl⟩
  ·rcases cC hv with⟨j,u,rfl,rfl⟩|⟨y,u,rfl,rfl⟩
   ·rw[Km] at h;exact YC h
   ·rw[JV] at h;exact XT i t y u _ _ _ _ h
  ·rcases cC hv with⟨j,u,rfl,rfl⟩|⟨y,u,rfl,rfl⟩
   ·rw[J7] at h;exact XU x t j u _ _ _ _ h
   ·rw[Ku] at h;exact wpAny_eqBool_str h
 «strs»:=λk x t v h=>by
  rcases cC h with⟨i,u,rfl,e⟩|⟨y,u,rfl,e⟩
  ·exact nomatch e
  ·injection e with e1 _
   subst e1;cases v<;>rfl
inductive V where
 |non|bl (b:Bool)|int (i:Int)|str (x:Str)|byt (b:Array UInt8)|flt (b:UInt64)|ref (a:Addr)|ty (n:String)
 deriving DecidableEq
def bt:V->Pk->Prop
 | .non,u=>u=Qw
 | .bl b,u=>u=jeu b
 | .int i,u=> ∃t,u=Vk i t
 | .str x,u=> ∃t,u=Value.str x t
 | .byt b,u=> ∃t,u=Value.bytes b t
 | .flt b,u=> ∃t,u=Value.float b t
 | .ref a,u=>u=Q9 a
 | .ty n,u=>u=XW n
abbrev bI:List V->List Pk->Prop:=Paired bt
theorem bI.length {xs:List V}{us:List Pk}(r:bI xs us):xs.length=us.length:=TR r
theorem bI.get: ∀ {xs:List V} {us:List Pk} {i:Nat} {x:V},bI xs us->xs[i]? =some x-> ∃u,us[i]? =some u/\bt x u
 |_,_,_,_,.nil,e=>by simp at e
 |_,_,0,_,.cons r _,e=>by simp at e;subst e;exact⟨_,rfl,r⟩
 |_,_,i+1,x,.cons _ t,e=>by
  obtain⟨u,a,b⟩:=bI.get (i:=i) (x:=x) t (by simpa using e);exact⟨u,by simpa using a,b⟩
theorem bI.set(r:bt x u): ∀ {xs:List V} {us:List Pk} (i:Nat),bI xs us->bI (xs.set i x) (us.set i u)
 |_,_,_,.nil=>.nil
 |_,_,0,.cons _ t=>.cons r t
 |_,_,i+1,.cons q t=>.cons q (bI.set r i t)
theorem bI.append: ∀ {xs ys:List V} {us a:List Pk},bI xs us->bI ys a->bI (xs++ys) (us++a)
 |_,_,_,_,.nil,s=>s
 |_,_,_,_,.cons r t,s=>.cons r (bI.append t s)
theorem bI.take: ∀ {xs:List V} {us:List Pk} (n:Nat),bI xs us->bI (xs.take n) (us.take n)
 |_,_,0,_=>.nil
 |_,_,_+1,.nil=>.nil
 |_,_,n+1,.cons r t=>.cons r (bI.take n t)
theorem bI.drop: ∀ {xs:List V} {us:List Pk} (n:Nat),bI xs us->bI (xs.drop n) (us.drop n)
 |_,_,0,r=>r
 |_,_,_+1,.nil=>.nil
 |_,_,n+1,.cons _ t=>bI.drop n t
def MR:Option V->Option Pk->Prop
 |some v,some u=>bt v u
 |none,none=>True
 |_,_=>False
def KV {κ:Type}:List (κ×V)->List (κ×Pk)->Prop:=Paired λ(p:κ×V) (q:κ×Pk)=>p.1=q.1/\bt p.2 q.2
def kV:lJ->V
 | .inl i=>.int i
 | .inr x=>.str x
inductive HO where
 |lst (xs:List V)
 |tup (xs:List V)
 |dK (kvs:List (lJ×V))|dT (kvs:List (List lJ×V))
 |set (S:Int->Bool) (n:Nat)
 |tst (xs:List (List Int×Addr))
 |ins (C dx:Addr) (fs:List (Str×V))
 |own (x:Addr)
 |xd (fs:List (Str×V))
 |met (f x:Addr)
 |rng (lo hi:Int)
 |frz (o:Obj) (u:HO)
 |nst (p:Addr) (u:HO)
 |tbl (ps:Array Pk)
 |ext (φ:Heap->Prop)
abbrev Hp:=Addr->Option HO
def b9(H:Hp)(a:Addr)(o:HO):Hp:=λb=>if b=a then some o else H b
theorem aV:b9 H a o a=some o:=by unfold b9;rw[if_pos rfl]
theorem aQ(h:b≠a):b9 H a o b=H b:=by unfold b9;rw[if_neg h]
theorem bF {H:Hp}(h:H a=some o)(h':H b=none):a≠b:=by
 intro e;subst e;rw[h] at h';cases h'
section
variable(P:Qp)(w:QD)
def cc(H:Hp)(h:Heap)(a:Addr):HO->Prop
 | .lst xs=>xs.length<=P4/\ ∃(b:List Pk) (n:Nat),bI xs b/\h.get? a=some {cls:=.type "list",data:=.seq b.toArray n}
 | .tup xs=>xs.length<=P4/\ ∃b:List Pk,bI xs b/\IsTup h a b.toArray/\ ∃o,h.get? a=some o/\o.dict=none
 | .dK c=>c.length<=P4/\(a==Zw)=false/\ ∃vs,KV c vs/\h.DictOf (vT P w) a vs
 | .dT c=>c.length<=P4/\(a==Zw)=false/\ ∃xs:List (List lJ×Addr×Pk),
    Paired (λ(p:List lJ×V) (q:List lJ×Addr×Pk)=>p.1=q.1/\H q.2.1=some (.tup (p.1.map kV))/\bt p.2 q.2.2) c xs/\
    ∃o es ep,h.get? a=some o/\o.ExactDict/\o.data=.dict es ep/\es.toList=xs.map (entryOfKey (tupleKind (vT P w)))/\(xs.map (·.1)).Nodup
 | .set S n=>h.SetOf (intKind P w) a S n
 | .tst xs=> ∃o es ep t,h.get? a=some o/\bX w o es ep t xs
 | .ins C g e=>H g=some (.own a)/\e.length<=1000/\g≠a/\h.get? a=some (W.instObj C g)/\
    ∃d,h.Ns1 g d/\(∀f,MR (e.lookup f) (d f))/\PySem.Within d (e.map (·.1))
 | .own _=> ∃o,h.get? a=some o
 | .xd e=> ∃d,h.Ns1 a d/\ ∀f,MR (e.lookup f) (d f)
 | .rng k l=> ∃t u v,h.get? a=some {cls:=.type "range",data:=.fields #[.int k t,.int l u,.int 1 v]}
 | .frz o u=>h.get? a=some o/\cc H h a u
 | .nst _ u=>cc H h a u
 | .tbl m=>h.get? a=some {cls:=.none,data:=.fields m}
 | .met f x=>h.get? a=some (YX (.ref f) (.ref x))
 | .ext φ=>φ h/\(∃o,h.get? a=some o)/\ ∀i j:Heap,φ i->(∀o,i.get? a=some o->j.get? a=some o)->φ j
def HOk(H:Hp)(h:Heap):Prop:= ∀a o,H a=some o->cc P w H h a o
end
section
variable {P:Qp}{w:QD}{H H':Hp}{h h':Heap}{a:Addr}{o:HO}
theorem cc.lt(x:cc P w H h a o):a<h.objs.size:=by
 induction o with
 |lst xs=>obtain⟨_,_,_,_,e⟩:=x;exact PB e
 |tup xs=>obtain⟨_,_,_,p,_⟩:=x;exact p.lt
 |dK b=>obtain⟨_,_,_,_,o,_,_,e,_⟩:=x;exact PB e
 |dT b=>obtain⟨_,_,_,_,o,_,_,e,_⟩:=x;exact PB e
 |set S n=>obtain⟨o,_,_,_,e,_⟩:=x;exact PB e
 |tst xs=>obtain⟨o,_,_,_,e,_⟩:=x;exact PB e
 |ins C j d=>obtain⟨_,_,_,e,_⟩:=x;exact PB e
 |own y=>obtain⟨_,e⟩:=x;exact PB e
 |xd d=>obtain⟨_,⟨_,_,_,e,_⟩,_⟩:=x;exact PB e
 |rng g i=>obtain⟨_,_,_,e⟩:=x;exact PB e
 |frz ob u c=>obtain⟨e,_⟩:=x;exact PB e
 |nst p u c=>exact c x
 |tbl k=>exact PB (show h.get? a=some _ from x)
 |met f y=>exact PB (show h.get? a=some _ from x)
 |ext φ=>obtain⟨_,⟨_,e⟩,_⟩:=x;exact PB e
theorem Paired.mapP {α β:Type}{F G:α->β->Prop}: ∀ {l₁:List α} {c:List β},Paired F l₁ c->(∀a b,F a b->G a b)->Paired G l₁ c
 |_,_,.nil,_=>.nil
 |_,_,.cons r t,f=>.cons (f _ _ r) (Paired.mapP t f)
theorem cc.stay(x:cc P w H h a o)(k: ∀b u,(b=a\/H b=some (.own a))->h.get? b=some u->h'.get? b=some u)
 (I: ∀b,H b=some (.own a)->H' b=some (.own a)) (D: ∀b xs,H b=some (.tup xs)->H' b=some (.tup xs)):cc P w H' h' a o:=by
 induction o with
 |lst xs=>obtain⟨z,g,n,r,e⟩:=x;exact⟨z,g,n,r,k _ _ (.inl rfl) e⟩
 |tup xs=>obtain⟨z,g,r,⟨ob,e,c⟩,i,s,G⟩:=x;exact⟨z,g,r,⟨ob,k _ _ (.inl rfl) e,c⟩,i,k _ _ (.inl rfl) s,G⟩
 |dK m=>obtain⟨z,y,vs,r,ob,es,ep,e,c⟩:=x;exact⟨z,y,vs,r,ob,es,ep,k _ _ (.inl rfl) e,c⟩
 |dT m=>
  obtain⟨z,y,xs,r,ob,es,ep,e,c⟩:=x;exact⟨z,y,xs,Paired.mapP r λp q z=>⟨z.1,D _ _ z.2.1,z.2.2⟩,ob,es,ep,k _ _ (.inl rfl) e,c⟩
 |set S n=>obtain⟨ob,es,ep,t,e,c⟩:=x;exact⟨ob,es,ep,t,k _ _ (.inl rfl) e,c⟩
 |tst xs=>obtain⟨ob,es,ep,t,e,c⟩:=x;exact⟨ob,es,ep,t,k _ _ (.inl rfl) e,c⟩
 |ins C L E=>
  obtain⟨d,z,F,e,A,⟨l,es,ep,s,c⟩,r⟩:=x;exact⟨I _ d,z,F,k _ _ (.inl rfl) e,A,⟨l,es,ep,k _ _ (.inr d) s,c⟩,r⟩
 |own y=>obtain⟨ob,e⟩:=x;exact⟨ob,k _ _ (.inl rfl) e⟩
 |xd E=>obtain⟨A,⟨l,es,ep,e,c⟩,r⟩:=x;exact⟨A,⟨l,es,ep,k _ _ (.inl rfl) e,c⟩,r⟩
 |rng J K=>obtain⟨t,u,v,e⟩:=x;exact⟨t,u,v,k _ _ (.inl rfl) e⟩
 |frz ob u j=>obtain⟨e,q⟩:=x;exact⟨k _ _ (.inl rfl) e,j q⟩
 |nst p u j=>exact j x
 |tbl B=>
  have e:h.get? a=some {cls:=.none,data:=.fields B}:=x;show h'.get? a=some {cls:=.none,data:=.fields B};exact k a _ (.inl rfl) e
 |met f y=>
  have e:h.get? a=some (YX (.ref f) (.ref y)):=x;show h'.get? a=some (YX (.ref f) (.ref y));exact k a _ (.inl rfl) e
 |ext φ=>obtain⟨p,⟨o,e⟩,st⟩:=x;exact⟨st _ _ p λo q=>k _ _ (.inl rfl) q,⟨o,k _ _ (.inl rfl) e⟩,st⟩
theorem HOk.lt(x:HOk P w H h)(e:H a=some o):a<h.objs.size:=(x a o e).lt
theorem HOk.fresh(x:HOk P w H h)(e:h.objs.size<=a):H a=none:=by
 cases q:H a with
 |none=>rfl
 |some u=>exact absurd (PF (x.lt q) e) (SV _)
theorem HOk.kept(x:HOk P w H h)(k: ∀b u,h.get? b=some u->h'.get? b=some u):HOk P w H h':=λa o e=>
 (x a o e).stay (λb u _ q=>k b u q) (λ_ q=>q) λ_ _ q=>q
theorem HOk.laid(x:HOk P w H h)(k: ∀b u,h.get? b=some u->h'.get? b=some u)(i:h.objs.size<=a)(d:cc P w (b9 H a o) h' a o):HOk P w (b9 H a o) h':=λb u e=>by
 have f:=x.fresh i
 by_cases g:b=a
 ·subst g;rw[aV] at e;cases e;exact d
 ·rw[aQ g] at e;exact(x b u e).stay (λc v _ q=>k c v q) (λc q=>by rw[aQ (bF q f)];exact q) λc xs q=>by rw[aQ (bF q f)];exact q
end
def Rd(H:Hp)(a:Addr)(u:HO):Prop:=H a=some u\/ ∃o,H a=some (.frz o u)
theorem Rd.ok(r:Rd H a u)(x:HOk P w H h):cc P w H h a u:=by
 rcases r with r|⟨o,r⟩
 ·exact x a u r
 ·obtain⟨_,q⟩:=x a _ r;exact q
def Nd:Option HO->Prop
 |some (.lst _)=>True
 |some (.dK _)=>True
 |some (.dT _)=>True
 |some (.set _ _)=>True
 |some (.tst _)=>True
 |some (.ins _ _ _)=>True
 |some (.ext _)=>True
 |some (.nst _ _)=>True
 |_=>False
section
variable {P:Qp}{w:QD}{H:Hp}{h h':Heap}{x e:Addr}{o':HO}
theorem HOk.write(ok:HOk P w H h)(j:Nd (H x))(n:e=x\/H e=some (.own x))(k: ∀b u,b≠e->h.get? b=some u->h'.get? b=some u)(l: ∃u,h'.get? e=some u)
 (m:cc P w (b9 H x o') h' x o'):HOk P w (b9 H x o') h':=λb u q=>by
 have d: ∀c y,H c=some (.own y)->c≠x:=λc y r z=>by subst z;rw[r] at j;exact j
 have f: ∀c xs,H c=some (.tup xs)->c≠x:=λc xs r z=>by subst z;rw[r] at j;exact j
 by_cases g:b=x
 ·subst g;rw[aV] at q;cases q;exact m
 ·rw[aQ g] at q
  by_cases a:b=e
  ·have o:H b=some (.own x):=by
    rcases n with z|z
    ·exact absurd (a.trans z) g
    ·rw[a];exact z
   rw[q] at o;cases o;obtain⟨v,hv⟩:=l;exact⟨v,by rw[a];exact hv⟩
  ·refine(ok b u q).stay (λc v i r=>k c v ?_ r) (λc r=>by rw[aQ (d c b r)];exact r) λc xs r=>by rw[aQ (f c xs r)];exact r
   rcases i with rfl|i
   ·exact a
   ·rintro rfl;rcases n with z|z
    ·exact d c b i z
    ·rw[i] at z;cases z;exact g rfl
end
structure Un(fs ex:List Addr)(H H':Hp)(h h':Heap):Prop where
 keep: ∀b o,h.get? b=some o->H b=none->b∉fs->b∉ex->h'.get? b=some o
 slot: ∀b o,h.get? b=some o->H b=none->b∈fs->b∉ex-> ∃sl,h'.get? b=some {o with slots:=sl}
 free: ∀b o,h.get? b=some o->H b=none->b∉ex->H' b=none
 there: ∀b o,h.get? b=some o->b∉ex-> ∃o',h'.get? b=some o'
 tups: ∀b xs,H b=some (.tup xs)->H' b=some (.tup xs)
 frzs: ∀b o u,H b=some (.frz o u)->H' b=some (.frz o u)
 tbls: ∀b ps,H b=some (.tbl ps)-> ∃more,H' b=some (.tbl (ps++more))
section
variable {fs fs' ex ex':List Addr}{H H1 H2:Hp}{h h1 h2 h':Heap}{a x e:Addr}{o:HO}
theorem Un.any(u:Un fs ex H H1 h h1)(q:h.get? b=some ob)(n:H b=none)(a:b∉ex): ∃d,h1.get? b=some {ob with slots:=d}:=by
 by_cases c:b∈fs
 ·exact u.slot b ob q n c a
 ·exact⟨ob.slots,u.keep b ob q n c a⟩
theorem Un.trans(a:Un fs ex H H1 h h1)(b:Un fs ex H1 H2 h1 h2):Un fs ex H H2 h h2 where
 keep:=λc ob q n f d=>b.keep c ob (a.keep c ob q n f d) (a.free c ob q n d) f d
 slot:=λc ob q n f d=>by
  obtain⟨o,e⟩:=a.slot c ob q n f d;obtain⟨i,g⟩:=b.slot c _ e (a.free c ob q n d) f d;exact⟨i,g⟩
 free:=λc ob q n d=>by
  obtain⟨j,e⟩:=a.there c ob q d;exact b.free c j e (a.free c ob q n d) d
 there:=λc ob q d=>by
  obtain⟨j,e⟩:=a.there c ob q d;exact b.there c j e d
 tups:=λc xs q=>b.tups c xs (a.tups c xs q)
 frzs:=λc ob xs q=>b.frzs c ob xs (a.frzs c ob xs q)
 tbls:=λc l q=>by
  obtain⟨m,e⟩:=a.tbls c l q;obtain⟨k,g⟩:=b.tbls c _ e;exact⟨m++k,by rw[g,XX]⟩
theorem Un.kept(k: ∀b u,h.get? b=some u->h'.get? b=some u):Un fs ex H H h h':=
 ⟨λb ob q _ _ _=>k b ob q,λb ob q _ _ _=>⟨ob.slots,k b ob q⟩,λ_ _ _ n _=>n,λb ob q _=>⟨ob,k b ob q⟩,λ_ _ q=>q,λ_ _ _ q=>q,λ_ a q=>⟨#[],by rw[q];simp⟩⟩
theorem Un.refl:Un fs ex H H h h:=Un.kept λ_ _ q=>q
theorem Un.laid(k: ∀b u,h.get? b=some u->h'.get? b=some u)(d:h.objs.size<=a)(c:H a=none):Un fs ex H (b9 H a o) h h' where
 keep:=λb u q _ _ _=>k b u q
 slot:=λb u q _ _ _=>⟨u.slots,k b u q⟩
 free:=λb u q n _=>by rw[aQ (P6 (PF (PB q) d))];exact n
 there:=λb u q _=>⟨u,k b u q⟩
 tups:=λb xs q=>by rw[aQ (bF q c)];exact q
 frzs:=λb u xs q=>by rw[aQ (bF q c)];exact q
 tbls:=λb e q=>⟨#[],by rw[aQ (bF q c),q];simp⟩
theorem Un.write(c:Nd (H x))(l:e=x\/H e=some (.own x))(k: ∀b u,b≠e->h.get? b=some u->h'.get? b=some u)(d: ∃u,h'.get? e=some u):Un fs ex H (b9 H x o) h h':=by
 have i: ∀b,H b=none->b≠x:=λb n z=>by subst z;rw[n] at c;exact c
 have g: ∀b,H b=none->b≠e:=λb n z=>by
  subst z;rcases l with r|r
  ·exact i b n r
  ·rw[n] at r;cases r
 have f: ∀b u,H b=some u-> ¬Nd (some u)->b≠x:=λb u q j z=>by subst z;rw[q] at c;exact j c
 refine⟨λb u q n _ _=>k b u (g b n) q,λb u q n _ _=>⟨u.slots,k b u (g b n) q⟩,λb u q n _=>by rw[aQ (i b n)];exact n,λb u q _=>?_,
  λb xs q=>by rw[aQ (f b _ q λz=>z)];exact q,λb u xs q=>by rw[aQ (f b _ q λz=>z)];exact q,λb m q=>⟨#[],by rw[aQ (f b _ q λz=>z),q];simp⟩⟩
 by_cases a:b=e
 ·subst a;exact d
 ·exact⟨u,k b u a q⟩
end
def trk(h:Heap)(H:Hp):List Addr:=(Pi h.objs.size).filter λa=>(H a).isSome
def vS(h:Heap)(H:Hp):Heap:=W.hideAll h (trk h H)
theorem BE(h:Heap)(H:Hp):(vS h H).objs.size=h.objs.size:=W.hideAll_size _ _
theorem F0 {h:Heap}(e:h.get? b=some o)(n:H b=none):(vS h H).get? b=some o:=
 W.hideAll_get _ e λa=>by
  have q:(H b).isSome=true:=(QW.mp a).2;rw[n] at q;simp at q
theorem Ip {h:Heap}(e:(vS h H).get? b=some o):h.get? b=some o/\H b=none:=by
 have a:h.get? b=some o:=W.of_hideAll (trk h H) e;refine⟨a,?_⟩;cases q:H b with
 |none=>rfl
 |some x=>
  have c:b∈trk h H:=QW.mpr ⟨Pj.mpr (PB a),by simp[q]⟩;have z:(vS h H).get? b=none:=W.hideAll_none (trk h H) c;rw[z] at e;cases e
structure Mod(K:Pz)(mg:Str->Option Pk)(base:Heap):Prop where
 kin:K.In base
 glob:base.Ns QK mg
 blt: ∃mb,base.Ns XY mb/\ ∀x:Str,x≠"__name__"->mb x=Rm x
 nolimit:base.NoLimit
structure Cx where
 prog:Qp
 w:QD
 K:Pz
 mg:Str->Option Pk
 base:Heap
 A:Qq
 N:List Str
 s₀:Pn
 H₀:Hp
 env:Env
 outer:List Env
 stack:List Env
 ex:List Addr
 fn:Str->Bool
 calm:Bool
 pn:List (Addr×Obj)
 xe:Pk->Pn->Prop
def frs(l:List Env):List Addr:=l.filterMap (·.frame)
abbrev Cx.fs(X:Cx):List Addr:=frs X.outer
def wK(a:Sm)(x:Str):Prop:=a.names.lookup x=some .local\/a.names.lookup x=some .cell\/a.names.lookup x=some .free
def EX(a:Sm)(x:Str):Prop:=a.names.lookup x=some .local\/a.names.lookup x=some .cell
def Ni(a:Env)(h:Heap)(m:Str->Option Pk)(x:Str)(u:Pk):Prop:=
 (a.kindOf x=some .local/\m x=some u)\/((a.kindOf x=some .cell\/a.kindOf x=some .free)/\ ∃c,a.cells.lookup x=some c/\h.IsCell c (some u))
structure Cx.Ok(X:Cx):Prop where
 mod:Mod X.K X.mg X.base
 kind:X.env.scope.kind=.function
 glob:X.env.globals=QK
 blt:X.env.builtins=XY
 above:X.s₀.heap.objs.size<=X.env.locals
 inj: ∀x y c,X.env.cells.lookup x=some c->X.env.cells.lookup y=some c->x=y
 has: ∀x,(X.env.kindOf x=some .cell\/X.env.kindOf x=some .free)-> ∃c,X.env.cells.lookup x=some c
 cab: ∀x c,X.fn x=true->X.env.cells.lookup x=some c->X.s₀.heap.objs.size<=c
 hd:X.calm=true->X.A.handled=none
 frames:X.A.frames=some X.stack
 stk:X.stack=X.outer\/(X.stack=X.env::X.outer/\X.env.frame=some X.env.locals)
 exf: ∀b∈X.ex,b≠X.env.locals/\ ∀x c,X.env.cells.lookup x=some c->c≠b
 bs: ∀b o,X.base.get? b=some o->X.s₀.heap.get? b=some o/\X.H₀ b=none
 bsz:X.base.objs.size<=X.s₀.heap.objs.size
 noex: ∀b o,X.base.get? b=some o->b∉X.ex
 exfs: ∀b∈X.ex,b∉X.fs
 funs:X.s₀.heap.FunFrames X.base X.outer
 frf: ∀b∈X.fs,X.H₀ b=none
structure Inv(X:Cx)(ah:List (Addr×Obj))(σ:List (Option V))(H:Hp)(s:Pn):Prop where
 ok:X.Ok
 os:s.os=X.s₀.os
 bare:Uj s.gens
 base:Un X.fs X.ex X.H₀ H X.s₀.heap s.heap
 loc: ∃m,s.heap.Ns X.env.locals m/\ ∀(i:Nat) (x:Str) (v:V),X.N[i]? =some x->σ[i]? =some (some v)->wK X.env.scope x-> ∃u,bt v u/\Ni X.env s.heap m x u
 cell: ∀x c,X.env.cells.lookup x=some c-> ∃v,s.heap.IsCell c v
 free:H X.env.locals=none
 freeC: ∀x c,X.env.cells.lookup x=some c->H c=none
 pin: ∀p∈X.pn++ah,s.heap.get? p.1=some p.2/\H p.1=none/\p.1≠X.env.locals/\p.1∉X.fs/\ ∀v,p.2.data≠ .cell v
 hok:HOk X.prog X.w H s.heap
 len:σ.length=X.N.length
section
variable {X:Cx}{ah:List (Addr×Obj)}{σ:List (Option V)}{H H':Hp}{s:Pn}{h':Heap}
theorem Cx.Ok.nofr(ok:X.Ok){b:Addr}(e:X.base.get? b=some o):b∉X.fs:=λa=>by
 have:=(ok.funs.mem a).1;rw[e] at this;cases this
theorem Inv.bs(I:Inv X ah σ H s): ∀b o,X.base.get? b=some o->s.heap.get? b=some o/\H b=none:=λb o e=>
 ⟨I.base.keep b o (I.ok.bs b o e).1 (I.ok.bs b o e).2 (I.ok.nofr e) (I.ok.noex b o e),I.base.free b o (I.ok.bs b o e).1 (I.ok.bs b o e).2 (I.ok.noex b o e)⟩
theorem Inv.bk(I:Inv X ah σ H s): ∀b o,X.base.get? b=some o->s.heap.get? b=some o:=λb o e=>(I.bs b o e).1
theorem Inv.mod(I:Inv X ah σ H s):Mod X.K X.mg X.base:=I.ok.mod
theorem Inv.kIn(I:Inv X ah σ H s):X.K.In s.heap:=I.ok.mod.kin.keeps I.bk
theorem Inv.lt(I:Inv X ah σ H s):X.env.locals<s.heap.objs.size:=let⟨_,hn,_⟩:=I.loc;hn.lt
theorem Inv.sz(I:Inv X ah σ H s):X.s₀.heap.objs.size<=s.heap.objs.size:=Qh I.ok.above (Tf I.lt)
theorem Inv.nofs(I:Inv X ah σ H s){a:Addr}(h:s.heap.objs.size<=a):a∉X.fs:=λc=>by
 obtain⟨_,o,b,_⟩:=I.ok.funs.mem c;exact absurd (PF (PB b) (Qh I.sz h)) (SV _)
theorem Inv.cne(I:Inv X ah σ H s): ∀x c,X.env.cells.lookup x=some c->c≠X.env.locals:=λx c e z=>by
 obtain⟨v,o,f,d⟩:=I.cell x c e;obtain⟨m,⟨g,es,ep,a,b,_⟩,_⟩:=I.loc;rw[z,a] at f;cases f;rw[b] at d;cases d
theorem Inv.funs(I:Inv X ah σ H s):s.heap.FunFrames X.base X.outer:=by
 have a: ∀(l:List Env),(∀b∈frs l,b∈X.fs)->X.s₀.heap.FunFrames X.base l->s.heap.FunFrames X.base l:=by
  intro l
  induction l with
  |nil=>intro _ _;trivial
  |cons m r j=>
   intro g n;obtain⟨k,⟨L,o,d,h,q,i⟩,p⟩:=n;have f:L∈X.fs:=g L (by unfold frs;rw[Sk,d];exact PV);obtain⟨t,e⟩:=I.base.slot L o q (I.ok.frf L f) f λz=>I.ok.exfs L z f
   exact⟨k,⟨L,_,d,h,e,i⟩,j (λb c=>g b (by unfold frs;rw[Sk,d];exact PK _ c)) p⟩
 exact a X.outer (λ_ c=>c) I.ok.funs
theorem Inv.stack(I:Inv X ah σ H s):s.heap.FunFrames X.base X.stack:=by
 rcases I.ok.stk with e|⟨e,a⟩
 ·rw[e];exact I.funs
 ·rw[e];obtain⟨m,b,_⟩:=I.loc;refine .cons (by rw[I.ok.kind];decide) a b ?_ I.funs;exact Heap.get?_none_of_le (Qh I.ok.bsz I.ok.above)
theorem Inv.stkSub(I:Inv X ah σ H s): ∀b∈frs X.stack,b∈X.env.locals::X.fs:=λb a=>by
 rcases I.ok.stk with e|⟨e,c⟩
 ·rw[e] at a;exact PK _ a
 ·rw[e] at a;unfold frs at a;rw[Sk,c] at a;exact a
theorem Inv.stkFree(I:Inv X ah σ H s): ∀b∈frs X.stack,H b=none:=λb a=>by
 rcases PX.mp (I.stkSub b a) with e|a
 ·rw[e];exact I.free
 ·obtain⟨_,o,c,_⟩:=I.ok.funs.mem a;exact I.base.free b o c (I.ok.frf b a) λz=>I.ok.exfs b z a
theorem Inv.step {g':Array Zx}{t':Nat}{d':Drawn}{ch:List Addr}(I:Inv X ah σ H s)
 (hch: ∀b∈ch,(b∈X.ex\/X.s₀.heap.objs.size<=b)/\b≠X.env.locals/\(∀x c,X.env.cells.lookup x=some c->c≠b)/\ ∀p∈X.pn++ah,p.1≠b)
 (keep: ∀b o,b≠X.env.locals->b∉X.fs->b∉ch->s.heap.get? b=some o->H b=none->h'.get? b=some o)
 (slot: ∀b o,b≠X.env.locals->b∈X.fs->b∉ch->s.heap.get? b=some o->H b=none-> ∃sl,h'.get? b=some {o with slots:=sl}) (free: ∀b o,b∉ch->s.heap.get? b=some o->H b=none->H' b=none)
 (there: ∀b o,b∉ch->s.heap.get? b=some o-> ∃o',h'.get? b=some o')
 (tups: ∀b xs,H b=some (.tup xs)->H' b=some (.tup xs)) (frzs: ∀b o u,H b=some (.frz o u)->H' b=some (.frz o u)) (tbls: ∀b ps,H b=some (.tbl ps)-> ∃more,H' b=some (.tbl (ps++more)))
 (ns: ∀m,s.heap.Ns X.env.locals m->h'.Ns X.env.locals m) (hok:HOk X.prog X.w H' h') (hg:Uj g'):
 Inv X ah σ H' {s with heap:=h',gens:=g',drawn:=d',toks:=t'}:=by
 have neL: ∀b o,X.s₀.heap.get? b=some o->b≠X.env.locals:=λb o e=>P6 (PF (PB e) I.ok.above)
 have neC: ∀b o,X.s₀.heap.get? b=some o->b∉X.ex->b∉ch:=λb o e hx hb=>by
  rcases(hch b hb).1 with z|z
  ·exact hx z
  ·exact absurd (PF (PB e) z) (SV _)
 have fA: ∀x c,X.env.cells.lookup x=some c-> ∀v,s.heap.IsCell c v->h'.IsCell c v:=λx c e v hq_=>by
  obtain⟨o,ho,hd⟩:=hq_;have nch:c∉ch:=λz=>(hch c z).2.2.1 x c e rfl
  by_cases hc:c∈X.fs
  ·obtain⟨sl,q⟩:=slot c o (I.cne x c e) hc nch ho (I.freeC x c e);exact⟨_,q,hd⟩
  ·exact⟨o,keep c o (I.cne x c e) hc nch ho (I.freeC x c e),hd⟩
 refine⟨I.ok,I.os,hg,⟨λb o e n hb hx=>?_,λb o e n hb hx=>?_,λb o e n hx=>?_,λb o e hx=>?_,λb xs e=>tups b xs (I.base.tups b xs e),λb o xs e=>frzs b o xs (I.base.frzs b o xs e),λb ps e=>?_⟩,?_,λx c e=>?_,?_,λx c e=>?_,λp hp=>?_,hok,I.len⟩
 ·exact keep b o (neL b o e) hb (neC b o e hx) (I.base.keep b o e n hb hx) (I.base.free b o e n hx)
 ·obtain⟨sl,e1⟩:=I.base.slot b o e n hb hx;obtain⟨sl',e2⟩:=slot b _ (neL b o e) hb (neC b o e hx) e1 (I.base.free b o e n hx);exact⟨sl',e2⟩
 ·obtain⟨o',e1⟩:=I.base.there b o e hx;exact free b o' (neC b o e hx) e1 (I.base.free b o e n hx)
 ·obtain⟨o',e1⟩:=I.base.there b o e hx;exact there b o' (neC b o e hx) e1
 ·obtain⟨m1,e1⟩:=I.base.tbls b ps e;obtain⟨m2,e2⟩:=tbls b _ e1;exact⟨m1++m2,by rw[e2,XX]⟩
 ·obtain⟨m,hn,hl⟩:=I.loc;refine⟨m,ns m hn,λi x v e1 e2 e3=>?_⟩;obtain⟨u,r,l⟩:=hl i x v e1 e2 e3;refine⟨u,r,?_⟩;rcases l with l|⟨k,c,e,z⟩
  ·exact .inl l
  ·exact .inr ⟨k,c,e,fA x c e _ z⟩
 ·obtain⟨v,z⟩:=I.cell x c e;exact⟨v,fA x c e v z⟩
 ·obtain⟨m,⟨o,_,_,ho,_⟩,_⟩:=I.loc;exact free _ o (λz=>(hch _ z).2.1 rfl) ho I.free
 ·obtain⟨v,o,ho,hd⟩:=I.cell x c e;exact free c o (λz=>(hch c z).2.2.1 x c e rfl) ho (I.freeC x c e)
 ·obtain⟨e,n,ne,nf,d⟩:=I.pin p hp;have nch:p.1∉ch:=λz=>(hch p.1 z).2.2.2 p hp rfl
  exact⟨keep p.1 p.2 ne nf nch e n,free p.1 p.2 nch e n,ne,nf,d⟩
theorem Inv.un {t':Nat}(I:Inv X ah σ H s)(u:Un X.fs [] H H' s.heap h')(hok:HOk X.prog X.w H' h'):Inv X ah σ H' {s with heap:=h',toks:=t'}:=by
 obtain⟨m,⟨o,es,ep,ho,r⟩,_⟩:=id I.loc;obtain⟨sl,hL⟩:=u.any ho I.free (by simp)
 exact I.step (g':=s.gens) (d':=s.drawn) (ch:=[]) (λ_ z=>nomatch z) (λb o _ hb _ e n=>u.keep b o e n hb (by simp)) (λb o _ hb _ e n=>u.slot b o e n hb (by simp)) (λb o _ e n=>u.free b o e n (by simp)) (λb o _ e=>u.there b o e (by simp)) u.tups u.frzs u.tbls (λm' hm=>by
  obtain⟨o',es',ep',ho',r'⟩:=hm
  rw[ho] at ho';cases ho';exact⟨_,es',ep',hL,r'⟩) hok I.bare
theorem Inv.call {g':Array Zx}{t':Nat}{d':Drawn}{ch:List Addr}(I:Inv X ah σ H s)(u:Un (frs X.stack) ch H H' s.heap h')(hok:HOk X.prog X.w H' h')(hg:Uj g')
 (hch: ∀b∈ch,(b∈X.ex\/X.s₀.heap.objs.size<=b)/\b≠X.env.locals/\(∀x c,X.env.cells.lookup x=some c->c≠b)/\ ∀p∈X.pn++ah,p.1≠b):
 Inv X ah σ H' {s with heap:=h',gens:=g',drawn:=d',toks:=t'}:=by
 obtain⟨m,⟨o,es,ep,ho,r⟩,_⟩:=id I.loc;obtain⟨sl,hL⟩:=u.any ho I.free λz=>(hch _ z).2.1 rfl
 exact I.step (ch:=ch) hch (λb o hL hb hc e n=>u.keep b o e n (λz=>(PX.mp (I.stkSub b z)).elim hL hb) hc) (λb o _ _ hc e n=>u.any e n hc) (λb o hc e n=>u.free b o e n hc) (λb o hc e=>u.there b o e hc) u.tups u.frzs u.tbls (λm' hm=>by
  obtain⟨o',es',ep',ho',r'⟩:=hm
  rw[ho] at ho';cases ho';exact⟨_,es',ep',hL,r'⟩) hok hg
theorem Inv.turned {t':Nat}{it:Addr}(I:Inv X ah σ H s)(k: ∀b o,b≠it->s.heap.get? b=some o->h'.get? b=some o)(hn:H it=none)(hL:it≠X.env.locals)
 (h1:it∈X.ex\/X.s₀.heap.objs.size<=it) (h2: ∀x c,X.env.cells.lookup x=some c->c≠it) (h3: ∀p∈X.pn++ah,p.1≠it):Inv X ah σ H {s with heap:=h',toks:=t'}:=by
 have nit: ∀b u,H b=some u->b≠it:=λb u e z=>by rw[z,hn] at e;cases e
 refine I.step (g':=s.gens) (d':=s.drawn) (ch:=[it]) (λb hb=>?_) (λb o _ _ hc e _=>k b o (λz=>hc (by simp[z])) e) (λb o _ _ hc e _=>⟨o.slots,k b o (λz=>hc (by simp[z])) e⟩) (λ_ _ _ _ n=>n)
  (λb o hc e=>⟨o,k b o (λz=>hc (by simp[z])) e⟩) (λ_ _ e=>e) (λ_ _ _ e=>e) (λb ps e=>⟨#[],by rw[e];simp⟩) (λm hm=>?_) (λb u e=>?_) I.bare
 ·have e:b=it:=by simpa using hb
  subst e;exact⟨h1,hL,h2,h3⟩
 ·obtain⟨o,es,ep,ho,r⟩:=hm;exact⟨o,es,ep,k _ o (QA hL) ho,r⟩
 ·refine(I.hok b u e).stay (λc v hc q=>k c v ?_ q) (λ_ q=>q) λ_ _ q=>q
  rcases hc with z|z
  ·rw[z];exact nit b u e
  ·exact nit c _ z
theorem Inv.tok(I:Inv X ah σ H s)(t:Nat):Inv X ah σ H {s with toks:=t}:=I.un (h':=s.heap) (t':=t) Un.refl I.hok
theorem Inv.kept {t':Nat}(I:Inv X ah σ H s)(k: ∀b u,s.heap.get? b=some u->h'.get? b=some u):Inv X ah σ H {s with heap:=h',toks:=t'}:=I.un (Un.kept k) (I.hok.kept k)
theorem Inv.laid{o:HO}{t':Nat}(I:Inv X ah σ H s)(k: ∀b u,s.heap.get? b=some u->h'.get? b=some u)(c:s.heap.objs.size<=a)(d:cc X.prog X.w (b9 H a o) h' a o):
 Inv X ah σ (b9 H a o) {s with heap:=h',toks:=t'}:=I.un (Un.laid k c (I.hok.fresh c)) (I.hok.laid k c d)
theorem Inv.write {x e:Addr}{t':Nat}(I:Inv X ah σ H s)(f:Nd (H x))(d:e=x\/H e=some (.own x))(k: ∀b u,b≠e->s.heap.get? b=some u->h'.get? b=some u)(a: ∃u,h'.get? e=some u)
 (c:cc X.prog X.w (b9 H x o) h' x o):Inv X ah σ (b9 H x o) {s with heap:=h',toks:=t'}:=I.un (Un.write f d k a) (I.hok.write f d k a c)
theorem Inv.pins_of(I:Inv X ah σ H s)(h: ∀p∈a,s.heap.get? p.1=some p.2/\H p.1=none/\p.1≠X.env.locals/\p.1∉X.fs/\ ∀v,p.2.data≠ .cell v):Inv X a σ H s:=
 ⟨I.ok,I.os,I.bare,I.base,I.loc,I.cell,I.free,I.freeC,λp b=>(QL.mp b).elim (λz=>I.pin p (Q8 _ z)) (h p),I.hok,I.len⟩
theorem wN {N:List Str}(d:N.Nodup){i j:Nat}(a:N[i]? =some x)(b:N[j]? =some x):i=j:=by
 obtain⟨f,e⟩:=PL.mp a;obtain⟨g,c⟩:=PL.mp b;exact(YD d).mp (e.trans c.symm)
theorem oG{v:V}(I:Inv X ah σ H s)(hN:X.N.Nodup)(hi:X.N[i]? =some x)(hx:EX X.env.scope x)(r:bt v u)
 (h: ∀s',Inv X ah (σ.set i (some v)) H s'->(∃a,Qz a s.heap s'.heap/\(a=X.env.locals\/X.env.cells.lookup x=some a))->Q () s') (hf:X.fn x=true\/X.env.scope.names.lookup x=some .local:=by first|exact .inl rfl|exact .inr rfl|assumption):PJ M A (storeName X.env x u) Q E s:=by
 obtain⟨m,hn,hl⟩:=id I.loc;have hcls:(X.env.scope.kind== .class||(X.env.scope.kind== .module&&X.env.locals !=X.env.globals))=false:=by rw[I.ok.kind];rfl
 have hiσ:i<σ.length:=by rw[I.len];exact(PL.mp hi).1
 have cne:=I.cne;have tracked: ∀ {a:Addr} {h':Heap},(∃o,s.heap.get? a=some o/\H a=none)->Qz a s.heap h'->HOk X.prog X.w H h':=λ{a h'} ha hs b ob e=>by
  obtain⟨_,_,hfree⟩:=ha;refine(I.hok b ob e).stay (λc w' hc q=>(hs.2 c ?_).trans q) (λ_ q=>q) λ_ _ q=>q
  rintro rfl;rcases hc with rfl|hc
  ·rw[hfree] at e;cases e
  ·rw[hfree] at hc;cases hc
 rcases hx with hk|hk
 ·refine wpAny_storeName_local hk hn (λh' hn' hs=>?_) hcls;obtain⟨oL,_,_,hoL,_⟩:=id hn;refine h _ ⟨I.ok,I.os,I.bare,⟨λb o e n hb hx=>?_,λb o e n hb hx=>?_,I.base.free,λb o e hx=>?_,I.base.tups,I.base.frzs,I.base.tbls⟩,⟨_,hn',λj y v' e1 e2 e3=>?_⟩,λy c e=>?_,I.free,I.freeC,λp hp=>?_,tracked ⟨oL,hoL,I.free⟩ hs,by simpa using I.len⟩ ⟨_,hs,.inl rfl⟩
  ·exact(hs.2 b (P6 (PF (PB e) I.ok.above))).trans (I.base.keep b o e n hb hx)
  ·obtain⟨sl,e1⟩:=I.base.slot b o e n hb hx;exact⟨sl,(hs.2 b (P6 (PF (PB e) I.ok.above))).trans e1⟩
  ·obtain⟨o',e1⟩:=I.base.there b o e hx;exact⟨o',(hs.2 b (P6 (PF (PB e) I.ok.above))).trans e1⟩
  ·by_cases hj:j=i
   ·subst hj;rw[hi] at e1;cases e1;rw[P7 hiσ] at e2;cases e2;exact⟨u,r,.inl ⟨hk,by simp⟩⟩
   ·rw[PY (QA hj)] at e2;obtain⟨u',r',q⟩:=hl j y v' e1 e2 e3;refine⟨u',r',?_⟩;rcases q with⟨k,e⟩|⟨k,c,e,z⟩
    ·refine .inl ⟨k,?_⟩;have:y≠x:=λe=>hj (wN hN e1 (e▸hi))
     simp[this,e]
    ·exact .inr ⟨k,c,e,z.sameBut hs (cne y c e)⟩
  ·obtain⟨w',z⟩:=I.cell y c e;exact⟨w',z.sameBut hs (cne y c e)⟩
  ·obtain⟨e,n,ne,nf,d⟩:=I.pin p hp;exact⟨(hs.2 p.1 ne).trans e,n,ne,nf,d⟩
 ·have hfn:X.fn x=true:=by
   rcases hf with z|z
   ·exact z
   ·rw[z] at hk;cases hk
  obtain⟨c,hc⟩:=I.ok.has x (.inl hk);obtain⟨w',z⟩:=I.cell x c hc;refine wpAny_storeName_cell I.ok.kind hk hc z (λh' hc' hs=>?_);obtain⟨oc,hoc,hocd⟩:=id z;refine h {s with heap:=h'} ⟨I.ok,I.os,I.bare,⟨λb o e n hb hx=>?_,λb o e n hb hx=>?_,I.base.free,λb o e hx=>?_,I.base.tups,I.base.frzs,I.base.tbls⟩,⟨m,hn.sameBut hs (QA (cne x c hc)),λj y v' e1 e2 e3=>?_⟩,λy c' e=>?_,I.free,I.freeC,λp hp=>?_,tracked ⟨oc,hoc,I.freeC x c hc⟩ hs,by simpa using I.len⟩ ⟨c,hs,.inr hc⟩
  ·exact(hs.2 b (P6 (PF (PB e) (I.ok.cab x c hfn hc)))).trans (I.base.keep b o e n hb hx)
  ·obtain⟨sl,e1⟩:=I.base.slot b o e n hb hx;exact⟨sl,(hs.2 b (P6 (PF (PB e) (I.ok.cab x c hfn hc)))).trans e1⟩
  ·obtain⟨o',e1⟩:=I.base.there b o e hx;exact⟨o',(hs.2 b (P6 (PF (PB e) (I.ok.cab x c hfn hc)))).trans e1⟩
  ·by_cases hj:j=i
   ·subst hj;rw[hi] at e1;cases e1;rw[P7 hiσ] at e2;cases e2;exact⟨u,r,.inr ⟨.inl hk,c,hc,hc'⟩⟩
   ·rw[PY (QA hj)] at e2;obtain⟨u',r',q⟩:=hl j y v' e1 e2 e3;refine⟨u',r',?_⟩;rcases q with q|⟨k,c',e,z'⟩
    ·exact .inl q
    ·refine .inr ⟨k,c',e,z'.sameBut hs ?_⟩;rintro rfl;exact hj (wN hN e1 (I.ok.inj _ _ _ e hc▸hi))
  ·by_cases hcc:c'=c
   ·subst hcc;exact⟨_,hc'⟩
   ·obtain⟨w2,z2⟩:=I.cell y c' e;exact⟨w2,z2.sameBut hs hcc⟩
  ·obtain⟨e,n,ne,nf,d⟩:=I.pin p hp;refine⟨(hs.2 p.1 ?_).trans e,n,ne,nf,d⟩;intro q;rw[q,hoc] at e;have q':oc=p.2:=Qu e;exact d w' (by rw[<-q'];exact hocd)
theorem km(I:Inv X ah σ H s)(a:X.N.Nodup)(d:X.N[i]? =some x)(e:EX X.env.scope x)(r:bt v u)
 (h: ∀s',Inv X ah (σ.set i (some v)) H s'->Q () s') (c:X.fn x=true\/X.env.scope.names.lookup x=some .local:=by first|exact .inl rfl|exact .inr rfl|assumption):PJ M A (storeName X.env x u) Q E s:=
 oG I a d e r (λs' b _=>h s' b) c
theorem Inv.call' {s':Pn}{ch:List Addr}(I:Inv X f σ H s)(h:s'.os=s.os)(u:Un (frs X.stack) ch H H' s.heap s'.heap)(d:HOk X.prog X.w H' s'.heap)(g:Uj s'.gens)
 (a: ∀b∈ch,(b∈X.ex\/X.s₀.heap.objs.size<=b)/\b≠X.env.locals/\(∀x c,X.env.cells.lookup x=some c->c≠b)/\ ∀p∈X.pn++f,p.1≠b):Inv X f σ H' s':=by
 obtain⟨h',g',d',t',i⟩:=s';have e:i=s.os:=h;subst e;exact I.call (g':=g') (t':=t') (d':=d') u d g a
end
abbrev XK:=Pk->Option Addr->Hp->Prop
abbrev St:=List (Option V)
abbrev VK:=V->Hp->Prop
abbrev TE:=St->Hp->VK->Prop
abbrev TT:=St->Hp->(Bool->Hp->Prop)->Prop
abbrev TA:=St->Hp->(List V->Hp->Prop)->Prop
structure jf where
 nx:St->Hp->Prop
 rt:VK
 bk:St->Hp->Prop:=λ_ _=>False
 ct:St->Hp->Prop:=λ_ _=>False
abbrev TS:=jf->St->Hp->Prop
def EP(X:Cx)(b:List (Addr×Obj))(σ:St)(Q:VK)(u:Pk)(s':Pn):Prop:= ∃v a,Inv X b σ a s'/\bt v u/\Q v a
def TP(X:Cx)(c:List (Addr×Obj))(σ:St)(Q:Bool->Hp->Prop)(b:Bool)(s':Pn):Prop:= ∃a,Inv X c σ a s'/\Q b a
def AP(X:Cx)(b:List (Addr×Obj))(σ:St)(Q:List V->Hp->Prop)(us:List Pk)(s':Pn):Prop:= ∃vs a,Inv X b σ a s'/\bI vs us/\Q vs a
def SP(X:Cx)(c:List (Addr×Obj))(D:jf)(f:Flow)(s':Pn):Prop:=
 match f with
 | .next=> ∃a b,Inv X c a b s'/\D.nx a b
 | .brk=> ∃a b,Inv X c a b s'/\D.bk a b
 | .cont=> ∃a b,Inv X c a b s'/\D.ct a b
 | .ret u=> ∃v a b,Inv X c a b s'/\bt v u/\D.rt v b
def PE(X:Cx)(e:Expr)(t:TE):Prop:=
 ∀(a:List (Addr×Obj)) (s:Pn) (σ:St) (H:Hp) (Q:VK),Inv X a σ H s->t σ H Q->PJ (model X.prog X.w) X.A (eval e X.env) (EP X a σ Q) X.xe s
def PT(X:Cx)(e:Expr)(t:TT):Prop:=
 ∀(a:List (Addr×Obj)) (s:Pn) (σ:St) (H:Hp) (Q:Bool->Hp->Prop),Inv X a σ H s->t σ H Q->PJ (model X.prog X.w) X.A (isTrue e X.env (eval e X.env)) (TP X a σ Q) X.xe s
def PW(X:Cx)(e:Expr)(t:TT):Prop:=
 ∀(a:Sem Pk) (b:List (Addr×Obj)) (s:Pn) (σ:St) (H:Hp) (Q:Bool->Hp->Prop),Inv X b σ H s->t σ H Q->PJ (model X.prog X.w) X.A (isTrue e X.env a) (TP X b σ Q) X.xe s
theorem PW.pt(h:PW X e t):PT X e t:=h _
def PA(X:Cx)(es:List Expr)(t:TA):Prop:=
 ∀(a:Pos) (b:List (Addr×Obj)) (s:Pn) (σ:St) (H:Hp) (Q:List V->Hp->Prop),Inv X b σ H s->t σ H Q->PJ (model X.prog X.w) X.A (spliced (R5 a (PP es X.env))) (AP X b σ Q) X.xe s
def PS(X:Cx)(st:Stmt)(t:TS):Prop:=
 ∀(a:List (Addr×Obj)) (s:Pn) (σ:St) (H:Hp) (D:jf),Inv X a σ H s->t D σ H->PJ (model X.prog X.w) X.A (exec st X.env) (SP X a D) X.xe s
def PSs(X:Cx)(st:List Stmt)(t:TS):Prop:=
 ∀(a:List (Addr×Obj)) (s:Pn) (σ:St) (H:Hp) (D:jf),Inv X a σ H s->t D σ H->PJ (model X.prog X.w) X.A (execs st X.env) (SP X a D) X.xe s
theorem bT {α:Type}{t:Sem α}{Q b:α->Pn->Prop}{M:Model}{A:Qq}{E:Pk->Pn->Prop}{s:Pn}(h:PJ M A t Q E s)(c: ∀a s,Q a s->b a s):PJ M A t b E s:=Qv h c λ_ _ x=>x
section
variable {X:Cx}
def My(i:Nat):TE:=λσ H Q=> ∃v,σ[i]? =some (some v)/\Q v H
def tC(v:V):TE:=λ_ H Q=>Q v H
theorem KF(hN:X.N[i]? =some x)(hv:wK X.env.scope x)(hd:(x==("__debug__":Str))=false:=by decide)(hcd:(x==("__classdict__":Str))=false:=by decide):PE X (.Name x pos) (My i):=by
 intro ah s σ H Q I h;obtain⟨v,e,h⟩:=h;obtain⟨m,hn,hl⟩:=I.loc;obtain⟨u,r,l⟩:=hl i x v hN e hv;have fin:EP X ah σ Q u s:=⟨v,H,I,r,h⟩
 rcases l with⟨hk,hm⟩|⟨hk,c,hc,hcell⟩
 ·exact Zy (W1 I.ok.kind hk hn hm fin) hd
 ·rcases hk with hk|hk
  ·exact Zy (Xn I.ok.kind hk hc hcell fin) hd
  ·exact Zy (wpAny_loadName_free I.ok.kind hk hc hcell fin hcd) hd
theorem Kv {i j pos}:PE X (.Constant (.int i) j pos) (tC (.int i)):=λ_ _ _ H _ I h=>wpAny_Constant_int ⟨.int i,H,I.tok _,⟨_,rfl⟩,h⟩
theorem LK {b j pos}:PE X (.Constant (.bool b) j pos) (tC (.bl b)):=λ_ _ _ H _ I h=>Constant_bool ⟨.bl b,H,I,rfl,h⟩
def Gl(X:Cx)(x:Str):Prop:=X.env.kindOf x=some .globalImplicit
theorem Ig{H:Hp}(I:Inv X ah σ H s)(c:Gl X x)(b:X.mg x=some u)(h:Q u s)
 (a:(x==("__debug__":Str))=false:=by decide):PJ (model X.prog X.w) X.A (eval (.Name x pos) X.env) Q E s:=
 Vp I.ok.kind c (Calls.loadGlobal_global (by rw[I.ok.glob];exact I.mod.glob.keeps I.bk) b h) a
theorem rE{H:Hp}{u:Pk}(I:Inv X ah σ H s)(d:Gl X x)(e:X.mg x=none)(hv:Rm x=some u)(h:Q u s)
 (f:x≠"__name__":=by decide) (a:(x==("__debug__":Str))=false:=by decide):PJ (model X.prog X.w) X.A (eval (.Name x pos) X.env) Q E s:=by
 obtain⟨g,b,c⟩:=I.mod.blt;exact Vp I.ok.kind d (Calls.loadGlobal_builtin (by rw[I.ok.glob];exact I.mod.glob.keeps I.bk) e (by rw[I.ok.blt];exact b.keeps I.bk) ((c x f).trans hv) h) a
variable {a b:Expr}{ta tb:TE}{pos:Pos}
def PC(X:Cx)(f:XE)(a b:Expr)(t:TE):Prop:=
 ∀(e:List (Addr×Obj)) (s:Pn) (σ:St) (H:Hp) (Q:VK),Inv X e σ H s->t σ H Q->
  PJ (model X.prog X.w) X.A (eval a X.env) (λv c=>PJ (model X.prog X.w) X.A (eval b X.env) (λu d=>PJ (model X.prog X.w) X.A (Ru f v u) (EP X e σ Q) X.xe d) X.xe c) X.xe s
def tB(t:TE):TT:=λσ H Q=>t σ H λx a=> ∃c,x=.bl c/\Q c a
theorem J6(h:PC X op a b t)(f:SW op b=false:=by first|exact e _ (by decide) (by decide)|rfl):PT X (.Compare a [op] [b] pos) (tB t):=by
 intro i s σ H Q I hw;refine WP (bT (h i s σ H _ I hw) λv n f=>bT f λu s2 l=>bT l λc o ⟨x,j,g,m,k⟩=>?_) f;obtain⟨d,rfl,q⟩:=k;cases m;exact Rg ⟨j,g,q⟩
variable {tA tB':TT}{rest:List Expr}
def Nj(t u:TT):TT:=λσ H Q=>t σ H λc a=>if c=true then u σ a Q else Q false a
def OX(t u:TT):TT:=λσ H Q=>t σ H λc a=>if c=true then Q true a else u σ a Q
def NZ(t:TT):TT:=λσ H Q=>t σ H λc a=>Q (!c) a
theorem kg(d:PT X a tA):PW X (.BoolOp .And [a] pos) tA:=by
 intro f b s σ H Q I h;refine isTrue_and (bT (d b s σ H Q I h) λc g e=>?_);cases c with
 |true=>exact isTrue_and_nil e
 |false=>exact e
theorem k5(d:PT X a tA):PW X (.BoolOp .Or [a] pos) tA:=by
 intro f b s σ H Q I h;refine isTrue_or (bT (d b s σ H Q I h) λc g e=>?_);cases c with
 |false=>exact isTrue_or_nil e
 |true=>exact e
theorem kw(k:PT X a tA)(m:PW X (.BoolOp .And (b::rest) pos) tB'):PW X (.BoolOp .And (a::b::rest) pos) (Nj tA tB'):=by
 intro j f s σ H Q I h;refine isTrue_and (bT (k f s σ H _ I h) λc l d=>?_);obtain⟨e,i,g⟩:=d;cases c with
 |true=>exact m j f l σ e Q i g
 |false=>exact⟨e,i,g⟩
theorem la(k:PT X a tA)(m:PW X (.BoolOp .Or (b::rest) pos) tB'):PW X (.BoolOp .Or (a::b::rest) pos) (OX tA tB'):=by
 intro j f s σ H Q I h;refine isTrue_or (bT (k f s σ H _ I h) λc l d=>?_);obtain⟨e,i,g⟩:=d;cases c with
 |true=>exact⟨e,i,g⟩
 |false=>exact m j f l σ e Q i g
theorem JR(e:PT X a tA):PT X (.UnaryOp .Not a pos) (NZ tA):=by
 intro d s σ H Q I h;exact isTrue_not (e d s σ H (λc b=>Q (!c) b) I h)
def L8(b d:TE):TE:=λσ H Q=>b σ H λx a=> ∃c,x=.bl c/\if c=true then d σ a Q else Q (.bl false) a
def Lu(a:TE):TE:=λσ H Q=>a σ H λx b=> ∃c,x=.bl c/\Q (.bl (!c)) b
theorem Kn {op}(h:PE X a t):PE X (.BoolOp op [a] pos) t:=λb s σ H Q I hw=>BoolOp_one (h b s σ H Q I hw)
theorem Jn(m:PE X a ta)(k:PE X (.BoolOp .And (b::rest) pos) tb):PE X (.BoolOp .And (a::b::rest) pos) (L8 ta tb):=by
 intro g s σ H Q I h;refine BoolOp_and (bT (m g s σ H _ I h) λv j e=>?_);obtain⟨x,i,f,l,d⟩:=e;obtain⟨c,rfl,d⟩:=d;cases l;refine Rg ?_
 cases c with
 |true=>exact k g j σ i Q f d
 |false=>exact⟨.bl false,i,f,rfl,d⟩
theorem J4(i:PE X a ta):PE X (.UnaryOp .Not a pos) (Lu ta):=by
 intro f s σ H Q I h;refine UnaryOp_ (bT (i f s σ H _ I h) λv k b=>?_);obtain⟨x,e,j,g,d⟩:=b;obtain⟨c,rfl,d⟩:=d;cases g;exact not_of (Rg ⟨.bl (!c),e,j,rfl,d⟩)
def Pg(t:TT)(b d:TE):TE:=λσ H Q=>t σ H λc a=>if c=true then b σ a Q else d σ a Q
theorem FV(m:PT X c tA)(l:PE X a ta)(n:PE X b tb):PE X (.IfExp c a b pos) (Pg tA ta tb):=by
 intro e s σ H Q I h;refine wpAny_IfExp (bT (m e s σ H _ I h) λd i f=>?_);obtain⟨g,k,j⟩:=f;cases d with
 |true=>exact l e i σ g Q k j
 |false=>exact n e i σ g Q k j
end
def SqL(K:Pz)(H:Hp)(a:Addr)(xs:List V):Prop:=
 Rd H a (.lst xs)\/
  ∃(o:Obj) (b:Array Pk) (n:Nat),K.lookup a=some o/\o.cls=.type "list"/\o.dict=none/\o.data=.seq b n/\b.size<=P4/\bI xs b.toList
def SqT(K:Pz)(H:Hp)(a:Addr)(xs:List V):Prop:=
 Rd H a (.tup xs)\/
  ∃(o:Obj) (b:Array Pk) (n:Nat),K.lookup a=some o/\o.cls=.type "tuple"/\o.data=.seq b n/\b.size<=P4/\bI xs b.toList/\o.dict=none
def Ot:Pk->Option V
 | .none=>some .non
 | .bool b=>some (.bl b)
 | .int i _=>some (.int i)
 | .str x _=>some (.str x)
 | .bytes b _=>some (.byt b)
 | .float b _=>some (.flt b)
 | .ref a=>some (.ref a)
 | .type n=>some (.ty n)
 |_=>none
theorem bt.abs(r:bt x u):Ot u=some x:=by
 cases x with
 |non=>cases r;rfl
 |bl _=>cases r;rfl
 |int _=>obtain⟨t,rfl⟩:=r;rfl
 |str _=>obtain⟨t,rfl⟩:=r;rfl
 |byt _=>obtain⟨t,rfl⟩:=r;rfl
 |flt _=>obtain⟨t,rfl⟩:=r;rfl
 |ref _=>cases r;rfl
 |ty _=>cases r;rfl
theorem bt.inj(r:bt x u)(q:bt y u):x=y:=Qu (r.abs.symm.trans q.abs)
theorem bI.inj: ∀ {xs ys:List V} {us:List Pk},bI xs us->bI ys us->xs=ys
 |_,_,_,.nil,.nil=>rfl
 |_,_,_,.cons r t,.cons a t'=>by rw[r.inj a,bI.inj t t']
section
variable {X:Cx}{ah:List (Addr×Obj)}{σ:St}{H:Hp}{s:Pn}{a:Addr}{xs ys:List V}
theorem SqL.of {K:Pz}(h:H a=some (.lst xs)):SqL K H a xs:=.inl (.inl h)
theorem SqT.of {K:Pz}(h:H a=some (.tup xs)):SqT K H a xs:=.inl (.inl h)
theorem Inv.list(I:Inv X ah σ H s)(h:SqL X.K H a xs): ∃b:List Pk,bI xs b/\PlainL s.heap a b.toArray/\xs.length<=sizeLine:=by
 rcases h with h|⟨o,b,n,f,d,c,g,i,r⟩
 ·obtain⟨z,b,n,r,e⟩:=h.ok I.hok;exact⟨b,r,⟨_,n,e,rfl,rfl,rfl⟩,z⟩
 ·refine⟨b.toList,r,⟨o,n,I.kIn a o f,d,c,by simpa using g⟩,?_⟩;have e:=r.length;simp only[PN] at e;lia
theorem Inv.tuple(I:Inv X ah σ H s)(h:SqT X.K H a xs): ∃b:List Pk,bI xs b/\IsTup s.heap a b.toArray/\xs.length<=sizeLine:=by
 rcases h with h|⟨o,b,n,d,c,f,g,r,_⟩
 ·obtain⟨z,b,r,p,_⟩:=h.ok I.hok;exact⟨b,r,p,z⟩
 ·refine⟨b.toList,r,⟨o,I.kIn a o d,c,n,by simpa using f⟩,?_⟩;have e:=r.length;simp only[PN] at e;lia
theorem Inv.tupleN(I:Inv X ah σ H s)(h:SqT X.K H a xs):(∃o,s.heap.get? a=some o/\o.cls=.type "tuple")/\ ∃o,s.heap.get? a=some o/\o.dict=none:=by
 rcases h with h|⟨o,b,n,d,j,l,m,r,i⟩
 ·obtain⟨z,b,r,⟨ob,e,c,_⟩,f,g,k⟩:=h.ok I.hok;exact⟨⟨ob,e,c⟩,f,g,k⟩
 ·exact⟨⟨o,I.kIn a o d,j⟩,o,I.kIn a o d,i⟩
theorem Inv.list_inj(I:Inv X ah σ H s)(h:SqL X.K H a xs)(h':SqL X.K H a ys):xs=ys:=by
 obtain⟨b,r,⟨o,n,e,_,_,d⟩,_⟩:=I.list h;obtain⟨its',f,⟨j,i,c,_,_,d'⟩,_⟩:=I.list h';rw[e] at c;cases c;rw[d] at d';injection d' with g _
 have:b=its':=by simpa using congrArg jbg g
 subst this;exact r.inj f
theorem Inv.tuple_inj(I:Inv X ah σ H s)(h:SqT X.K H a xs)(h':SqT X.K H a ys):xs=ys:=by
 obtain⟨b,r,⟨o,e,_,n,d⟩,_⟩:=I.tuple h;obtain⟨its',f,⟨j,c,_,i,d'⟩,_⟩:=I.tuple h';rw[e] at c;cases c;rw[d] at d';injection d' with g _
 have:b=its':=by simpa using congrArg jbg g
 subst this;exact r.inj f
end
abbrev Cx.wish(X:Cx)(E:Pk->Pn->Prop):Cx:={X with xe:=E}
abbrev Cx.nox(X:Cx):Cx:=X.wish λ_ _=>False
theorem Cx.Ok.wish {X:Cx}(ok:X.Ok)(E:Pk->Pn->Prop):(X.wish E).Ok:=
 ⟨ok.mod,ok.kind,ok.glob,ok.blt,ok.above,ok.inj,ok.has,ok.cab,ok.hd,ok.frames,ok.stk,ok.exf,ok.bs,ok.bsz,ok.noex,ok.exfs,ok.funs,ok.frf⟩
theorem Cx.Ok.unwish {X:Cx}(ok:(X.wish E).Ok):X.Ok:=
 ⟨ok.mod,ok.kind,ok.glob,ok.blt,ok.above,ok.inj,ok.has,ok.cab,ok.hd,ok.frames,ok.stk,ok.exf,ok.bs,ok.bsz,ok.noex,ok.exfs,ok.funs,ok.frf⟩
section
variable {X:Cx}{ah:List (Addr×Obj)}{σ:St}{H:Hp}{s:Pn}{E:Pk->Pn->Prop}
theorem Inv.wish(I:Inv X ah σ H s)(E:Pk->Pn->Prop):Inv (X.wish E) ah σ H s:=⟨I.ok.wish E,I.os,I.bare,I.base,I.loc,I.cell,I.free,I.freeC,I.pin,I.hok,I.len⟩
theorem Inv.unwish(I:Inv (X.wish E) ah σ H s):Inv X ah σ H s:=⟨I.ok.unwish,I.os,I.bare,I.base,I.loc,I.cell,I.free,I.freeC,I.pin,I.hok,I.len⟩
theorem SP.unwish {D:jf}(h:SP (X.wish E) ah D f s'):SP X ah D f s':=by
 cases f with
 |next=>obtain⟨a,b,I,q⟩:=h;exact⟨a,b,I.unwish,q⟩
 |brk=>obtain⟨a,b,I,q⟩:=h;exact⟨a,b,I.unwish,q⟩
 |cont=>obtain⟨a,b,I,q⟩:=h;exact⟨a,b,I.unwish,q⟩
 |ret u=>obtain⟨v,a,b,I,r,q⟩:=h;exact⟨v,a,b,I.unwish,r,q⟩
theorem PSs.nox {st:List Stmt}(h:PSs X.nox st t):PSs X st t:=λa s σ H D I hw=>
 Qv (h a s σ H D (I.wish _) hw) (λ_ _ q=>q.unwish) λ_ _ z=>False.elim z
end
section
variable {X:Cx}{st:Stmt}{rest:List Stmt}{t u:TS}{e:Expr}{te:TE}{pos:Pos}
def MJ:TS:=λD σ H=>D.nx σ H
def NM(t u:TS):TS:=λD σ H=>t {D with nx:=u D} σ H
theorem GX:PSs X [] MJ:=λ_ _ σ H _ I h=>UY ⟨σ,H,I,h⟩
theorem Dj(g:PS X st t)(i:PSs X rest u):PSs X (st::rest) (NM t u):=by
 intro b s σ H D I h;refine YE (bT (g b s σ H {D with nx:=u D} I h) λf e q=>?_);cases f with
 |next=>
  obtain⟨a,c,d,q⟩:=q;exact i b e a c D d q
 |ret v=>exact q
 |brk=>exact q
 |cont=>exact q
theorem GW(a:PS X st t):PSs X [st] t:=by
 intro b s σ H D I h;refine YE (bT (a b s σ H D I h) λf c q=>?_);cases f with
 |next=>exact UY q
 |ret v=>exact q
 |brk=>exact q
 |cont=>exact q
theorem Inv.quiet{H:Hp}(I:Inv X ah σ H s):interactive X.env=false:=by simp[interactive,I.ok.kind]
def LC(b:TE):TS:=λD σ H=>b σ H λ_ a=>D.nx σ a
theorem Gv(c:PE X e te)(g:S5 e none pos.line X.env=pure false:=by rfl):PS X (.Expr e pos) (LC te):=by
 intro b s σ H D I h;exact wpAny_Expr_any (bT (c b s σ H _ I h) λv j ⟨x,a,f,i,d⟩=>⟨σ,a,f,d⟩) I.quiet g
def Nl(a:TE):TS:=λD σ H=>a σ H D.rt
theorem EK(d:PE X e te):PS X (.Return (some e) pos) (Nl te):=by
 intro b s σ H D I h;exact wpAny_Return_some (bT (d b s σ H _ I h) λv i ⟨x,a,g,c,f⟩=>⟨x,σ,a,g,c,f⟩)
def N6(c:TT)(t u:TS):TS:=λD σ H=>c σ H λb a=>if b=true then t D σ a else u D σ a
theorem MF(m:PT X c tc)(l:PSs X a t)(n:PSs X b u):PS X (.If c a b pos) (N6 tc t u):=by
 intro e s σ H D I h;refine wpAny_If (bT (m e s σ H _ I h) λd i f=>?_);obtain⟨g,k,j⟩:=f;cases d with
 |true=>exact l e i σ g D k j
 |false=>exact n e i σ g D k j
end
abbrev TG:=V->St->Hp->(St->Hp->Prop)->Prop
abbrev Cc:=List V->St->Hp->(St->Hp->Prop)->Prop
def PG(X:Cx)(a:Expr)(t:TG):Prop:=
 ∀(c:List (Addr×Obj)) (s:Pn) (σ:St) (H:Hp) (v:V) (u:Pk) (Q:St->Hp->Prop),Inv X c σ H s->bt v u->t v σ H Q->
  PJ (model X.prog X.w) X.A (S6 a X.env u) (λ_ s'=> ∃b d,Inv X c b d s'/\Q b d) X.xe s
def PGs(X:Cx)(d:List Expr)(t:Cc):Prop:=
 ∀(b:List (Addr×Obj)) (s:Pn) (σ:St) (H:Hp) (vs:List V) (us:List Pk) (Q:St->Hp->Prop),Inv X b σ H s->bI vs us->t vs σ H Q->
  PJ (model X.prog X.w) X.A (VX ((Rn d X.env).map (·.2)) us) (λ_ s'=> ∃a c,Inv X b a c s'/\Q a c) X.xe s
abbrev JF:=V->V->V->Hp->(Hp->Prop)->Prop
def L3(X:Cx)(t:JF):Prop:=
 ∀(a:List (Addr×Obj)) (s:Pn) (σ:St) (H:Hp) (o i v:V) (ov b u:Pk) (Q:Hp->Prop),Inv X a σ H s->bt o ov->bt i b->bt v u->t o i v H Q->
  PJ (model X.prog X.w) X.A (setItem ov b u) (λ_ s'=> ∃c,Inv X a σ c s'/\Q c) X.xe s
abbrev M0:=V->V->Hp->VK->Prop
def Nr(X:Cx)(b:Zz)(t:M0):Prop:=
 ∀(a:List (Addr×Obj)) (s:Pn) (σ:St) (H:Hp) (x y:V) (v u:Pk) (Q:VK),Inv X a σ H s->bt x v->bt y u->t x y H Q->
  PJ (model X.prog X.w) X.A (inplaceOp b v u) (EP X a σ Q) X.xe s
section
variable {X:Cx}{pos:Pos}
def Au(i:Nat):TG:=λv σ H Q=>Q (σ.set i (some v)) H
theorem Io {i:Nat}(a:X.N.Nodup)(d:X.N[i]? =some x)(e:EX X.env.scope x)(c:X.fn x=true\/X.env.scope.names.lookup x=some .local:=by first|exact .inl rfl|exact .inr rfl|assumption):PG X (.Name x pos) (Au i):=by
 intro f s σ H v u Q I r h;exact VI (km I a d e r (λs' b=>⟨_,H,b,h⟩) c)
def N0:Cc:=λvs σ H Q=>vs=[]/\Q σ H
def Ll(t:TG)(u:Cc):Cc:=λvs σ H Q=> ∃v r,vs=v::r/\t v σ H λa b=>u r a b Q
theorem AO:PGs X [] N0:=by
 intro a s σ H vs us Q I r h;obtain⟨e,h⟩:=h;subst e;cases r;exact Yc ⟨σ,H,I,h⟩
theorem ya(l:PG X e t)(m:PGs X es u)
 (k:(Rn (e::es) X.env).map (·.2)=S6 e X.env::(Rn es X.env).map (·.2):=by rfl):PGs X (e::es) (Ll t u):=by
 intro c s σ H vs us Q I r h;obtain⟨v,o,g,h⟩:=h;subst g;cases r with
 |cons r f=>
  rw[k];refine Vq (bT (l c s σ H _ _ _ I r h) λ_ i a=>?_);obtain⟨b,j,d,n⟩:=a;exact m c i b j _ _ Q d f n
def NK(K:Pz)(n:Nat)(t:Cc):TG:=λv σ H Q=> ∃a xs,v=.ref a/\SqT K H a xs/\xs.length=n/\t xs σ H Q
theorem EB(w:X.calm=true)(h:PGs X es t)
 (l:(Rn es X.env).length=n:=by rfl) (c:(Rn es X.env).findIdx? (·.1)=none:=by rfl):PG X (.Tuple es k pos) (NK X.K n t):=by
 intro d s σ H v u Q I r hw;obtain⟨a,xs,m,i,q,hw⟩:=hw;subst m;cases r;obtain⟨p,f,g,y⟩:=I.tuple i;refine assign_Tuple_tuple (I.ok.hd w) g (by simp[l,<-q,f.length]) c λh' x=>?_
 have j:Inv X d σ H {s with heap:=h'}:=I.kept (t':=s.toks) λb o e=>x b o (P6 (PB e)) e
 exact h d _ σ H xs _ Q j (by simpa using f) hw
def NU(to c:TE)(t:JF):TG:=λv σ H Q=>to σ H λo a=>c σ a λi d=>t o i v d λb=>Q σ b
theorem Jd(A:PE X o to)(k:PE X i ti)(p:L3 X t)
 (z: ∀v,S6 (.Subscript o i pos) X.env v=(do
   let ov <-TY [v] (eval o X.env)
   let b <-TY [v,ov] (eval i X.env)
   VJ pos
   TY [v,ov,b] (setItem ov b v)
   release [v,ov,b] []):=by intro _;rfl):PG X (.Subscript o i pos) (NU to ti t):=by
 intro c s σ H v u Q I r h;rw[z];refine Ph (Qt (bT (A c s σ H _ I h) λov l a=>?_));obtain⟨x,m,f,q,B⟩:=a;refine Ph (Qt (bT (k c l σ m _ f B) λb s2 a=>?_));obtain⟨y,C,j,n,w⟩:=a;refine Ph (RP (Ph (Qt (bT (p c s2 σ C x y v ov b u _ j q n r w) λ_ D a=>?_))));obtain⟨e,g,d⟩:=a;exact wpAny_release ⟨σ,e,g,d⟩
def G6(b:TE)(g:TG):TS:=λD σ H=>b σ H λx a=>g x σ a D.nx
theorem FU(c:PE X e te)(d:PG X tg g)(i:UP [tg] e pos.line X.env=pure false:=by rfl)(hw:UQ [tg] e X.env=pure none:=by rfl)
 (j:(Rn [tg] X.env).map (·.2)=[S6 tg X.env]:=by rfl):PS X (.Assign [tg] e pos) (G6 te g):=by
 intro a s σ H D I h;refine wpAny_Assign_stores (bT (c a s σ H _ I h) λv l ⟨x,b,f,k,m⟩=>?_) i hw;rw[j];exact bT (d a l σ b x v _ f k m) λ_ s2 q=>q
theorem vD(c:X.N.Nodup)(n:X.N[i]? =some x)(o:EX X.env.scope x)(b:PE X e te)(f:S5 e (some (.Name x pos')) pos.line X.env=pure false:=by rfl)(m:X.fn x=true\/X.env.scope.names.lookup x=some .local:=by first|exact .inl rfl|exact .inr rfl|assumption):
 PS X (.Assign [.Name x pos'] e pos) (G6 te (Au i)):=by
 intro k s σ H D I h;refine wpAny_Assign_Name (bT (b k s σ H _ I h) λv p ⟨y,a,d,l,g⟩=>?_) f;exact km d c n o l (λs2 j=>⟨_,a,j,g⟩) m
def NP(i j:Nat)(a:TA):TS:=λD σ H=>a σ H λvs b=> ∃v w,vs=[v,w]/\D.nx ((σ.set i (some v)).set j (some w)) b
theorem KU{a b:Expr}{kt k2 pt2}(P:X.calm=true)(u:X.N.Nodup)(J:X.N[i]? =some x)(O:X.N[j]? =some y)(m:i≠j)
 (z:X.env.scope.names.lookup x=some .local) (B:X.env.scope.names.lookup y=some .local) (U:PA X [a,b] ta)
 (hw:UQ [.Tuple [.Name x px,.Name y py] kt pt] (.Tuple [a,b] k2 pt2) X.env=pure (some [x,y]))
 (R:UP [.Tuple [.Name x px,.Name y py] kt pt] (.Tuple [a,b] k2 pt2) pos.line X.env=pure false:=by rfl):
 PS X (.Assign [.Tuple [.Name x px,.Name y py] kt pt] (.Tuple [a,b] k2 pt2) pos) (NP i j ta):=by
 intro r s σ H D I h;rw[exec_Assign_arm];refine Ph (RP ?_);rw[R];refine Ph (Pl ?_);rw[if_neg (by decide)];refine Ph (Tuple_ (bT (U _ r s σ H _ I h) λus f g=>?_));obtain⟨vs,t,E,T,n⟩:=g;obtain⟨v,w,K,n⟩:=n;subst K;obtain⟨c,d,rfl,M,l⟩: ∃c d,us=[c,d]/\bt v c/\bt w d:=by
  cases T with
  |cons p q=>
   cases q with
   |cons S Q=>
    cases Q;exact⟨_,_,rfl,p,S⟩
 refine Rh ?_ (by show 2<=P4;decide)
 have G:Inv X r σ t {f with heap:=f.heap.push {cls:=.type "tuple",data:=.seq [c,d].toArray}}:=E.kept (t':=f.toks) λb o e=>Po _ e
 rw[hw];refine Ph (Pl ?_);show PJ (model X.prog X.w) X.A (do rule "assign.swapped-stores";let items <-unpackItems (.ref f.heap.objs.size) 2 none;VX [λv=>ZA X.env y v,λv=>ZA X.env x v] items.reverse;pure Flow.next) _ _ _;refine Ph (Wv (Ph (unpackItems_tuple (items:= #[c,d]) (I.ok.hd P) (IsTup.new f.heap _) λh' k=>?_)));have F:=G.kept (h':=h') (t':=f.toks) λb o e=>k b o (P6 (PB e)) e
 show PJ _ _ (VX [λv=>ZA X.env y v,λv=>ZA X.env x v] [d,c]>>=λ_=>pure Flow.next) _ _ _;refine Ph (Vq (ZB (km F u O (.inl B) l (λs2 L=>?_) (.inr B))));refine Vq (ZB (km L u J (.inl z) M (λV C=>Yc (Pl ?_)) (.inr z)));rw[List.set_comm _ _ (QA m)] at C;exact⟨_,t,C,n⟩
def Os(i:Nat)(b:TE)(c:M0):TS:=λD σ H=> ∃x,σ[i]? =some (some x)/\b σ H λy a=>c x y a λz d=>D.nx (σ.set i (some z)) d
theorem KZ(S:X.N.Nodup)(p:X.N[i]? =some x)(o:EX X.env.scope x)(R:PE X e te)(W:Nr X op ti)(K:X.fn x=true\/X.env.scope.names.lookup x=some .local:=by first|exact .inl rfl|exact .inr rfl|assumption):
 PS X (.AugAssign (.Name x pos') op e pos) (Os i te ti):=by
 intro j s σ H D I h;obtain⟨v,O,h⟩:=h;obtain⟨m,M,F⟩:=I.loc;have n:wK X.env.scope x:=by rcases o with k|k;exact .inl k;exact .inr (.inl k)
 obtain⟨u,r,l⟩:=F i x v p O n;refine wpAny_AugAssign_Name ?_
 have q:PJ (model X.prog X.w) X.A (eval e X.env) (λw f=>PJ (model X.prog X.w) X.A (inplaceOp op u w) (λr g=>PJ (model X.prog X.w) X.A (storeName X.env x r) (λ_=>SP X j D .next) X.xe g) X.xe f) X.xe s:=by
  refine bT (R j s σ H _ I h) λw P b=>?_
  obtain⟨y,Q,t,J,U⟩:=b;refine bT (W j P σ Q v y u w _ t r J U) λz s2 b=>?_
  obtain⟨Y,L,C,E,V⟩:=b;exact km C S p o E (λZ B=>⟨_,L,B,V⟩) K
 rcases l with⟨a,T⟩|⟨a,c,G,d⟩
 ·exact W1 I.ok.kind a M T q
 ·rcases a with a|a
  ·exact Xn I.ok.kind a G d q
  ·rcases o with k|k
   ·have:X.env.scope.names.lookup x=some .free:=a;rw[k] at this;cases this
   ·have:X.env.scope.names.lookup x=some .free:=a;rw[k] at this;cases this
def Ox(f:Int->Int->Int):M0:=λx y H Q=> ∃i j,x=.int i/\y=.int j/\Q (.int (f i j)) H
theorem Kr:Nr X .Add (Ox λi j=>i+j):=by
 intro e s σ H x y v u Q I d c h;obtain⟨i,j,b,a,q⟩:=h;subst b;subst a;obtain⟨t,rfl⟩:=d;obtain⟨t',rfl⟩:=c;exact iadd_int ⟨.int _,H,I.tok _,⟨_,rfl⟩,q⟩
end
section
variable {X:Cx}{pos:Pos}
def J1(c:TT)(g:TS):TS:=λD σ H=> ∃W:Nat->St->Hp->Prop,(∃m,W m σ H)/\ ∀m σ H,W m σ H->
 c σ H λb d=>if b=true then∃N:St->Hp->Prop,(∀a e,N a e-> ∃f,f<m/\W f a e)/\g {D with nx:=N,ct:=N,bk:=D.nx} σ d else D.nx σ d
theorem Fk(z:YF (model X.prog X.w) X.A X.env X.xe)(L:PT X c tc)(J:PSs X body tb):PS X (.While c body [] pos) (J1 tc tb):=by
 intro o s σ H D I h;obtain⟨W,⟨C,E⟩,turn⟩:=h;refine wpAny_While (codeAny_whileLoop (λn s'=> ∃g t,Inv X o g t s'/\W n g t) ?_ C ⟨σ,H,I,E⟩);rintro n G ⟨d,x,F,K⟩;refine SJ z (bT (L o G d x _ F (turn n d x K)) λb s2 k=>?_);obtain⟨B,u,j⟩:=k;cases b with
 |true=>
  obtain⟨N,y,j⟩:=j;rw[if_pos rfl];refine SJ z (bT (J o s2 d B _ u j) λf M i=>?_);cases f with
  |next=>
   obtain⟨a,e,m,l⟩:=i;obtain⟨r,q,p⟩:=y a e l;exact⟨r,q,a,e,m,p⟩
  |cont=>
   obtain⟨a,e,m,l⟩:=i;obtain⟨r,q,p⟩:=y a e l;exact⟨r,q,a,e,m,p⟩
  |brk=>exact i
  |ret v=>exact i
 |false=>
  rw[if_neg Tg];exact UY ⟨d,B,u,j⟩
end
structure It where
 go:Nat->Hp->Prop
 yld:Nat->Hp->V->Hp->Prop
 stop:Nat->Hp->Prop
def jS(X:Cx)(a:List (Addr×Obj))(H:Hp)(b:Addr):Prop:=
 H b=none/\b≠X.env.locals/\b∉X.fs/\(b∈X.ex\/X.s₀.heap.objs.size<=b)/\(∀x c,X.env.cells.lookup x=some c->c≠b)/\ ∀p∈X.pn++a,p.1≠b
theorem Inv.fpOk{H d:Hp}{s:Pn}(I:Inv X ah σ H s)(a:s.heap.objs.size<=b)(f:d b=none):jS X ah d b:=by
 refine⟨f,RV (PF I.lt a),I.nofs a,.inr (Qh I.sz a),λx c e z=>?_,λp g z=>?_⟩
 ·obtain⟨v,q⟩:=I.cell x c e;exact absurd (PF q.lt (by rw[z];exact a)) (SV _)
 ·exact absurd (PF (PB (I.pin p g).1) (by rw[z];exact a)) (SV _)
structure il(P:Qp)(w:QD)(K:Pz)(tg:Expr)(J:It)(fp:List Addr)(it:Addr)(tn:Nat->Heap->Prop):Prop where
 mem:it∈fp
 obj: ∀i h,tn i h-> ∀b∈fp,∃o,h.get? b=some o/\ ∀v,o.data≠ .cell v
 keep: ∀i h h',tn i h->(∀b∈fp,∀o,h.get? b=some o->h'.get? b=some o)->tn i h'
 item: ∀(X:Cx),X.prog=P->X.w=w->X.K=K->X.calm=true-> ∀(i:Nat) (ah:List (Addr×Obj)) (s:Pn) (σ:St) (H:Hp) (E:Pk->Pn->Prop),Inv X ah σ H s->(∀b∈fp,jS X ah H b)->tn i s.heap->J.go i H->
  PJ (model P w) X.A (TL (.ref it)) (λr s1=> ∃u,r=some u/\
   PJ (model P w) X.A (SL tg (.ref it) u) (λ_ s2=> ∃x H',Inv X ah σ H' s2/\bt x u/\J.yld i H x H'/\tn (i+1) s2.heap/\ ∀b∈fp,H' b=none) E s1) E s
 done: ∀(X:Cx),X.prog=P->X.w=w->X.K=K->X.calm=true-> ∀(i:Nat) (ah:List (Addr×Obj)) (s:Pn) (σ:St) (H:Hp) (E:Pk->Pn->Prop),Inv X ah σ H s->(∀b∈fp,jS X ah H b)->tn i s.heap->J.stop i H->
  PJ (model P w) X.A (TL (.ref it)) (λr s1=>r=none/\Inv X ah σ H s1) E s
 self: ∀(A:Qq) (i:Nat) (s:Pn) (Q:Pk->Pn->Prop) (E:Pk->Pn->Prop),tn i s.heap->Q (.ref it) s->PJ (model P w) A (Ww (.ref it)) Q E s
abbrev TI:=St->Hp->(It->Hp->Prop)->Prop
def OA(X:Cx)(e:List (Addr×Obj))(σ:St)(f:Expr)(R:It->Hp->Prop)(c:Pk)(s2:Pn):Prop:=
 ∃(it:Addr) (fp:List Addr) (d:Nat->Heap->Prop) (J:It) (a:Hp),c=.ref it/\Inv X e σ a s2/\il X.prog X.w X.K f J fp it d/\d 0 s2.heap/\(∀b∈fp,jS X e a b)/\R J a
def PI(X:Cx)(c a:Expr)(e:TI):Prop:=
 ∀(b:List (Addr×Obj)) (s:Pn) (σ:St) (H:Hp) (R:It->Hp->Prop),Inv X b σ H s->e σ H R->
  PJ (model X.prog X.w) X.A (eval a X.env) (λv d=>PJ (model X.prog X.w) X.A (Ww v) (OA X b σ c R) X.xe d) X.xe s
theorem DU{s:Pn}{o:Obj}{n:String}(e:s.heap.get? it=some o)(b:o.cls=.type n)(d:o.data=.fields vs)
 (c:["enumerate","zip","dict_itemiterator","dict_reverseitemiterator","odict_iterator","itertools.zip_longest","itertools.pairwise"].contains n=false) (a:Q () s):PJ M A (SL tg (.ref it) u) Q E s:=by
 unfold SL;cases tg<;>first
  |exact Pl a
  |(cases u<;>first
     |exact Pl a
     |(refine Ph (ZC e ?_)
       rw[b,d];show PJ M A (if(["enumerate","zip","dict_itemiterator","dict_reverseitemiterator","odict_iterator","itertools.zip_longest","itertools.pairwise"].contains n&&vs[0]? ==some (Uk _))=true then _ else _) Q E s;rw[if_neg (by intro h;rw[c,Rv] at h;cases h)]
       exact Pl a))
def NH(K:Pz)(a:Addr):It:=
 ⟨λi H=> ∃xs x,SqL K H a xs/\xs[i]? =some x,λi H x b=>b=H/\ ∀xs,SqL K H a xs->xs[i]? =some x,λi H=> ∃xs,SqL K H a xs/\xs.length<=i⟩
def NC(K:Pz)(a:Addr):It:=
 ⟨λi H=> ∃xs x,SqT K H a xs/\xs[i]? =some x,λi H x b=>b=H/\ ∀xs,SqT K H a xs->xs[i]? =some x,λi H=> ∃xs,SqT K H a xs/\xs.length<=i⟩
def MZ(b:Int)(n:Nat):It:=⟨λi _=>i<n,λi H x a=>a=H/\x=.int (b+i),λi _=>n<=i⟩
theorem BK{K:Pz}(a it:Addr):il P w K tg (NH K a) [it] it (λi h=>h.IsListIter it a i) where
 mem:=by simp
 obj:=λi h st b f=>by
  have e:b=it:=by simpa using f
  subst e;obtain⟨o,e,c,d⟩:=st;exact⟨o,e,λv z=>by rw[d] at z;cases z⟩
 keep:=λi h h' st k=>st.at λo e=>k it (by simp) o e
 item:=by
  intro X t hw A J i G s σ H E I l st m;subst t hw A;obtain⟨xs,x,j,D⟩:=m;obtain⟨r,B,p,Q⟩:=I.list j;obtain⟨u,T,L⟩:=B.get D;obtain⟨F,y,M,n,C,q⟩:=l it (by simp);refine Wx st p.isList (x:=u) (by simpa using T) λh' g R=>?_
  have N:Inv X G σ H {s with heap:=h'}:=I.turned (t':=s.toks) (λb o f e=>(R.2 b f).trans e) F y n C q;obtain⟨o,e,c,d⟩:=id g;exact⟨u,rfl,DU (s:={s with heap:=h'}) e c d (by decide) ⟨x,H,N,L,⟨rfl,λys S=>by rw[I.list_inj S j];exact D⟩,g,λb f=>(l b f).1⟩⟩
 done:=by
  intro X t hw A J i G s σ H E I l st m;subst t hw A;obtain⟨xs,j,D⟩:=m;obtain⟨r,B,p,Q⟩:=I.list j;obtain⟨F,y,M,n,C,q⟩:=l it (by simp);have U:=B.length;exact WQ (I.ok.hd J) st p.isList (by simp;lia) λh' O=>⟨rfl,I.turned (t':=s.toks) (λb o f e=>O b o f e) F y n C q⟩
 self:=λ_ _ _ _ _ st h=>wpAny_pyIter_listiter st h
theorem zw{K:Pz}(a it:Addr):il P w K tg (NC K a) [it] it (λi h=>h.IsTupleIter it a i) where
 mem:=by simp
 obj:=λi h st b g=>by
  have e:b=it:=by simpa using g
  subst e;obtain⟨o,e,c,d⟩:=st;exact⟨o,e,λv z=>by rw[d] at z;cases z⟩
 keep:=λi h h' st k=>st.at λo e=>k it (by simp) o e
 item:=by
  intro X t hw A J i G s σ H E I m st n;subst t hw A;obtain⟨xs,x,l,D⟩:=n;obtain⟨f,B,p,Q⟩:=I.tuple l;obtain⟨u,T,L⟩:=B.get D;obtain⟨F,y,M,q,C,r⟩:=m it (by simp);refine wpAny_pyNext_tuple_item st (show s.heap.IsTuple a f.toArray from p) (x:=u) (by simpa using T) λh' j R=>?_
  have N:Inv X G σ H {s with heap:=h'}:=I.turned (t':=s.toks) (λb o g e=>(R.2 b g).trans e) F y q C r;obtain⟨o,e,c,d⟩:=id j;exact⟨u,rfl,DU (s:={s with heap:=h'}) e c d (by decide) ⟨x,H,N,L,⟨rfl,λys S=>by rw[I.tuple_inj S l];exact D⟩,j,λb g=>(m b g).1⟩⟩
 done:=by
  intro X t hw A J i G s σ H E I m st n;subst t hw A;obtain⟨xs,l,D⟩:=n;obtain⟨f,B,p,Q⟩:=I.tuple l;obtain⟨F,y,M,q,C,r⟩:=m it (by simp);have U:=B.length;exact wpAny_pyNext_tuple_end (I.ok.hd J) st (show s.heap.IsTuple a f.toArray from p) (by simp;lia) λh' O=>⟨rfl,I.turned (t':=s.toks) (λb o g e=>O b o g e) F y q C r⟩
 self:=λ_ _ _ _ _ st h=>wpAny_pyIter_tupleiter st h
theorem zS{K:Pz}(it:Addr)(d:Int)(n:Nat):il P w K tg (MZ d n) [it] it (λi h=>IsRangeIter h it (d+(i:Nat)*1) ((n:Int) - (i:Nat)) 1) where
 mem:=by simp
 obj:=λi h st b a=>by
  have e:b=it:=by simpa using a
  subst e;exact⟨_,st,λv z=>by
   have C:Data.fields _=Data.cell v:=z
   cases C⟩
 keep:=λi h h' st k=>k it (by simp) _ st
 item:=by
  intro X m hw q u i y s σ H E I f st g;subst m hw q;obtain⟨x,p,A,j,r,l⟩:=f it (by simp);have W:=Walks.range (prog:=X.prog) (w:=X.w) (I.ok.hd u) it d 1 n;refine W.item i s _ _ g st λv h' tk hv c D=>?_
  obtain⟨t,rfl⟩:=hv;have B:Inv X y σ H {s with heap:=h',toks:=tk}:=I.turned (λb o a e=>D b o (by simpa using a) e) x p j r l;refine⟨_,rfl,DU (s:={s with heap:=h',toks:=tk}) (n:="range_iterator") c rfl rfl (by decide) ⟨.int (d+i),H,B,⟨t,?_⟩,⟨rfl,rfl⟩,c,λb a=>(f b a).1⟩⟩;rw[Int.mul_one]
 done:=by
  intro X m hw q u i y s σ H E I f st g;subst m hw q;obtain⟨x,p,A,j,r,l⟩:=f it (by simp);exact wpAny_pyNext_range_end (I.ok.hd u) st (by have:n<=i:=g;lia) λh' F=>⟨rfl,I.turned (t':=s.toks) (λb o a e=>F b o a e) x p j r l⟩
 self:=λ_ _ _ _ _ st h=>wpAny_pyIter_rangeiter st h
section
variable {X:Cx}{tg:Expr}
def Lk(K:Pz)(c:TE):TI:=λσ H R=>c σ H λx b=> ∃a,x=.ref a/\(∃xs,SqL K b a xs)/\R (NH K a) b
def Oi(K:Pz)(c:TE):TI:=λσ H R=>c σ H λx b=> ∃a,x=.ref a/\(∃xs,SqT K b a xs)/\R (NC K a) b
theorem Ad(n:PE X l tl):PI X tg l (Lk X.K tl):=by
 intro i s σ H R I h;refine bT (n i s σ H _ I h) λv d f=>?_
 obtain⟨x,m,c,r,t⟩:=f;obtain⟨a,e,⟨xs,g⟩,q⟩:=t;subst e;cases r;obtain⟨j,u,p,w⟩:=c.list g;refine Ul p.isList ?_
 refine⟨d.heap.objs.size,[d.heap.objs.size],_,_,m,rfl,c.kept (t':=d.toks) λb o e=>Po _ e,BK a _,⟨_,PD _ rfl,rfl,rfl⟩,λb k=>?_,q⟩;have e:b=d.heap.objs.size:=by simpa using k
 subst e;exact c.fpOk (Px _) (c.hok.fresh (Px _))
theorem Kz(n:PE X l tl):PI X tg l (Oi X.K tl):=by
 intro j s σ H R I h;refine bT (n j s σ H _ I h) λv c f=>?_
 obtain⟨x,m,d,r,t⟩:=f;obtain⟨a,e,⟨xs,i⟩,q⟩:=t;subst e;cases r;obtain⟨g,u,p,w⟩:=d.tuple i;refine T8 (show c.heap.IsTuple a g.toArray from p) ?_
 refine⟨c.heap.objs.size,[c.heap.objs.size],_,_,m,rfl,d.kept (t':=c.toks) λb o e=>Po _ e,zw a _,⟨_,PD _ rfl,rfl,rfl⟩,λb k=>?_,q⟩;have e:b=c.heap.objs.size:=by simpa using k
 subst e;exact d.fpOk (Px _) (d.hok.fresh (Px _))
theorem Dl{s:Pn}{a c:Int}{tk:Nat}(I:Inv X ah σ H s)(f: -(2^62)<=a)(g:a<2^62)(j: -(2^62)<=c)(h:c<2^62)
 (q:R (MZ a (c-a).toNat) H):PJ (model X.prog X.w) X.A (Ww (.ref s.heap.objs.size)) (OA X ah σ tg R) E {s with heap:=s.heap.push {cls:=.type "range",data:=.fields #[.int a t,.int c u,.int 1 v]},toks:=tk}:=by
 refine wpAny_pyIter_range (IsRange.new ..) (small_one f g j h) ?_
 have d:Inv X ah σ H {s with heap:=s.heap.push {cls:=.type "range",data:=.fields #[.int a t,.int c u,.int 1 v]},toks:=tk}:=I.kept λb o e=>Po _ e
 refine⟨(s.heap.push {cls:=.type "range",data:=.fields #[.int a t,.int c u,.int 1 v]}).objs.size,[(s.heap.push {cls:=.type "range",data:=.fields #[.int a t,.int c u,.int 1 v]}).objs.size],_,_,H,rfl,
  d.kept (t':=tk) λb o e=>Po _ e,zS _ a (c-a).toNat,?_,λb l=>?_,q⟩
 ·have k:a+((0:Nat):Int)*1=a:=by simp
  have i:(((c-a).toNat:Nat):Int) - ((0:Nat):Int)=Ub a c 1:=by rw[rangeSize_one];split<;>lia
  show IsRangeIter _ _ (a+((0:Nat):Int)*1) ((((c-a).toNat:Nat):Int) - ((0:Nat):Int)) 1;rw[k,i];exact PD _ rfl
 ·have e:b=(s.heap.push {cls:=.type "range",data:=.fields #[.int a t,.int c u,.int 1 v]}).objs.size:=by simpa using l
  subst e;exact d.fpOk (Px _) (d.hok.fresh (Px _))
def LM(a:TA):TI:=λσ H R=>a σ H λvs b=> ∃j:Int,vs=[.int j]/\ -(2^62)<=j/\j<2^62/\R (MZ 0 j.toNat) b
theorem t8{p b:Pos}(d:Gl X "range")(f:X.mg "range"=none)(o:PA X [a] ta)(i:PP [a] X.env=[(false,eval a X.env)]:=by rfl):PI X tg (.Call (.Name "range" p) [a] [] b) (LM ta):=by
 intro k s σ H R I h;refine Call_ (rE I d f boot_range (Tv (bT (o b k s σ H _ I h) λus v ⟨vs,u,g,l,c⟩=>?_) i rfl));obtain⟨j,e,c,n,q⟩:=c;subst e;cases l with
 |cons r m=>
  cases m;obtain⟨t,rfl⟩:=r;exact call_range_1 (Dl g (by lia) (by lia) c n (by simpa using q))
def NQ(h:TI)(g:TG)(f:TS):TS:=λD σ H=>h σ H λJ e=> ∃W:Nat->Nat->St->Hp->Prop,(∃m,W 0 m σ e)/\ ∀i m σ H,W i m σ H->
 (J.stop i H/\D.nx σ H)\/(J.go i H/\ ∃N:St->Hp->Prop,(∀a b,N a b-> ∃d,d<m/\W (i+1) d a b)/\ ∀x b,J.yld i H x b->g x σ b λc j=>f {D with nx:=N,ct:=N,bk:=D.nx} c j)
def ml(fp:List Addr)(h:Heap):List (Addr×Obj):=fp.filterMap λb=>(h.get? b).map λo=>(b,o)
theorem dh{h:Heap}{b:Addr}(a:b∈fp)(e:h.get? b=some o):(b,o)∈ml fp h:=Vn.mpr ⟨b,a,by rw[e];rfl⟩
theorem CS{h:Heap}{p:Addr×Obj}(a:p∈ml fp h):p.1∈fp/\h.get? p.1=some p.2:=by
 obtain⟨b,d,e⟩:=Vn.mp a;cases q:h.get? b with
 |none=>rw[q] at e;cases e
 |some o=>
  rw[q] at e;have c:(b,o)=p:=Qu e;subst c;exact⟨d,q⟩
theorem Inv.pinned{s:Pn}(I:Inv X ah σ H s)(h: ∀b∈fp,jS X ah H b)(j: ∀b∈fp,∃o,s.heap.get? b=some o/\ ∀v,o.data≠ .cell v):Inv X (ah++ml fp s.heap) σ H s:=
 I.pins_of λp i=>(QL.mp i).elim (λz=>I.pin p (P8 _ z)) λz=>by
  obtain⟨a,e⟩:=CS z;obtain⟨k,g,f,_⟩:=h p.1 a;obtain⟨o,c,d⟩:=j p.1 a;rw[e] at c;cases c;exact⟨e,k,g,f,d⟩
theorem Inv.unpinned {a b:List (Addr×Obj)}{H:Hp}(I:Inv X (a++b) σ H s):Inv X a σ H s:=I.pins_of λp c=>I.pin p (P8 _ (Q8 _ c))
theorem Jm {y:Expr}(F:YF (model X.prog X.w) X.A X.env X.xe)(hc:X.calm=true)(hi:PI X tg y wi)(hg:PG X tg g)(l:PSs X body tb)
 (hs: ∀x,QY y X.env x=pure x:=by intro _;rfl):PS X (.For tg y body [] pos) (NQ wi g tb):=by
 intro E s σ H D I h;refine wpAny_For (bT (hi E s σ H _ I h) λv s1 h1=>bT h1 λitv s2 h2=>?_) hs;obtain⟨it,fp,tn,J,H2,e,I2,T,V,f2,W,⟨m0,w0⟩,turn⟩:=h2;subst e;have t: ∀ {z:Hp},(∀b∈fp,z b=none)-> ∀b∈fp,jS X E z b:=λhn b l=>⟨hn b l,(f2 b l).2⟩
 refine codeAny_forLoop_any (λn s'=> ∃i q z,Inv X E q z s'/\tn i s'.heap/\(∀b∈fp,z b=none)/\W i n q z) ?_ m0 ⟨0,σ,H2,I2,V,λb l=>(f2 b l).1,w0⟩;rintro n s3 ⟨i,p,P,I3,M,L,w3⟩;rcases turn i n p P w3 with⟨G,qn⟩|⟨go,N,hN,O⟩
 ·refine SJ F (bT (T.done X rfl rfl rfl hc i E s3 p P X.xe I3 (t L) M G) λr s4 c=>?_);obtain⟨Y,I4⟩:=c;subst Y;exact UY ⟨p,P,I4,qn⟩
 ·refine SJ F (bT (T.item X rfl rfl rfl hc i E s3 p P X.xe I3 (t L) M go) λr s4 c=>?_);obtain⟨u,Y,h4⟩:=c;subst Y;refine SJ F (bT h4 λ_ s5 c=>?_);obtain⟨x,Z,I5,r5,y5,C,U⟩:=c;have Q:=I5.pinned (t U) (T.obj _ _ C);refine SJ F (bT (hg _ s5 p Z x u _ Q r5 (O x Z y5)) λ_ s6 c=>?_);obtain⟨R,H6,I6,q6⟩:=c;refine SJ F (bT (l _ s6 R H6 _ I6 q6) λf S B=>?_);have W2: ∀ {a:St} {k:Hp},Inv X (E++ml fp s5.heap) a k S->N a k-> ∃m,m<n/\ ∃i q z,Inv X E q z S/\tn i S.heap/\(∀b∈fp,z b=none)/\W i m q z:=λ{a k} j K=>by
   obtain⟨m',hm,w7⟩:=hN a k K;refine⟨m',hm,i+1,a,k,j.unpinned,T.keep _ _ _ C λb l o e=>(j.pin (b,o) (P8 _ (P8 _ (dh l e)))).1,λb l=>?_,w7⟩;obtain⟨o,e,d⟩:=T.obj _ _ C b l;exact(j.pin (b,o) (P8 _ (P8 _ (dh l e)))).2.1
  cases f with
  |next=>obtain⟨a,k,j,K⟩:=B;exact W2 j K
  |cont=>obtain⟨a,k,j,K⟩:=B;exact W2 j K
  |brk=>obtain⟨a,k,j,B⟩:=B;exact⟨a,k,j.unpinned,B⟩
  |ret v=>obtain⟨x7,a,k,j,r7,B⟩:=B;exact⟨x7,a,k,j.unpinned,r7,B⟩
end
abbrev R2:=V->V->Hp->VK->Prop
def lG(X:Cx)(f:Pk->Pk->Sem Pk)(r:R2):Prop:=
 ∀(a:List (Addr×Obj)) (s:Pn) (σ:St) (H:Hp) (x y:V) (v u:Pk) (Q:VK),Inv X a σ H s->bt x v->bt y u->r x y H Q->
  PJ (model X.prog X.w) X.A (f v u) (EP X a σ Q) X.xe s
def Oj(X:Cx)(f:Pk->Sem Pk)(r:V->Hp->VK->Prop):Prop:=
 ∀(a:List (Addr×Obj)) (s:Pn) (σ:St) (H:Hp) (x:V) (v:Pk) (Q:VK),Inv X a σ H s->bt x v->r x H Q->
  PJ (model X.prog X.w) X.A (f v) (EP X a σ Q) X.xe s
def dH(X:Cx)(f:Pk)(r:List V->Hp->VK->Prop):Prop:=
 ∀(a:List (Addr×Obj)) (s:Pn) (σ:St) (H:Hp) (xs:List V) (us:List Pk) (Q:VK),Inv X a σ H s->bI xs us->r xs H Q->
  PJ (model X.prog X.w) X.A (call f us) (EP X a σ Q) X.xe s
def N1(X:Cx)(r:V->Hp->(Bool->Hp->Prop)->Prop):Prop:=
 ∀(a:List (Addr×Obj)) (s:Pn) (σ:St) (H:Hp) (x:V) (v:Pk) (Q:Bool->Hp->Prop),Inv X a σ H s->bt x v->r x H Q->
  PJ (model X.prog X.w) X.A (truthy v) (TP X a σ Q) X.xe s
def La(r:R2)(a c:TE):TE:=λσ H Q=>a σ H λx b=>c σ b λy d=>r x y d Q
def O5(r:V->Hp->VK->Prop)(a:TE):TE:=λσ H Q=>a σ H λx b=>r x b Q
def rI(C:Int->Int->Prop)(g:Int->Int->V):R2:=λx y H Q=> ∃i j,x=.int i/\y=.int j/\C i j/\Q (g i j) H
def GL(g:Int->Int->V):R2:=λx y H Q=> ∃i j,x=.int i/\y=.int j/\Q (g i j) H
def rU(g:Int->V):V->Hp->VK->Prop:=λx H Q=> ∃i,x=.int i/\Q (g i) H
section
variable {X:Cx}{a b c:Expr}{ta tb tc:TE}{pos:Pos}
theorem Ki(p:PE X a ta)(t:PE X b tb){H:Hp}{R:V->V->Hp->Prop}(I:Inv X ah σ H s)
 (h:ta σ H λx i=>tb σ i λy d=>R x y d) {f:Pk->Pk->Sem Pk}
 (n: ∀v u s2 x y d,Inv X ah σ d s2->bt x v->bt y u->R x y d->PJ (model X.prog X.w) X.A (f v u) Q X.xe s2):
 PJ (model X.prog X.w) X.A (eval a X.env) (λv g=>PJ (model X.prog X.w) X.A (eval b X.env) (λu e=>PJ (model X.prog X.w) X.A (f v u) Q X.xe e) X.xe g) X.xe s:=by
 refine bT (p ah s σ H _ I h) λv q c=>?_
 obtain⟨x,i,k,m,r⟩:=c;refine bT (t ah q σ i _ k r) λu s2 c=>?_
 obtain⟨y,d,l,j,o⟩:=c;exact n v u s2 x y d l m j o
theorem Is(j:lG X (TU op) r)(i:PE X a ta)(g:PE X b tb):PE X (.BinOp a op b pos) (La r ta tb):=by
 intro e s σ H Q I h;exact wpAny_BinOp (Ki i g I h λv u s2 x y k d c f q=>j e s2 σ k x y v u Q d c f q)
theorem Mh(g:Oj X (unaryOp op) r)(e:PE X a ta):PE X (.UnaryOp op a pos) (O5 r ta):=by
 intro b s σ H Q I h;exact UnaryOp_ (bT (e b s σ H _ I h) λv f ⟨x,c,j,d,i⟩=>g b f σ c x v Q j d i)
theorem M3{g:Int->Int->Int}
 (a: ∀(i j:Int) (t u:Tok) (s:Pn) (Q:Pk->Pn->Prop) (E:Pk->Pn->Prop),C i j->Q (.int (g i j) s.toks) {s with toks:=s.toks+1}->PJ (model X.prog X.w) X.A (f (.int i t) (.int j u)) Q E s):
 lG X f (rI C λi j=>.int (g i j)):=by
 intro e s σ H x y v u Q I b c h;obtain⟨i,j,rfl,rfl,d,q⟩:=h;obtain⟨t,rfl⟩:=b;obtain⟨t',rfl⟩:=c;exact a i j t t' s _ _ d ⟨.int (g i j),H,I.tok _,⟨_,rfl⟩,q⟩
theorem Lw{g:Int->Int->Int}
 (a: ∀(i j:Int) (t u:Tok) (s:Pn) (Q:Pk->Pn->Prop) (E:Pk->Pn->Prop),Q (.int (g i j) s.toks) {s with toks:=s.toks+1}->PJ (model X.prog X.w) X.A (f (.int i t) (.int j u)) Q E s):
 lG X f (GL λi j=>.int (g i j)):=by
 intro d s σ H x y v u Q I b c h;obtain⟨i,j,rfl,rfl,q⟩:=h;obtain⟨t,rfl⟩:=b;obtain⟨t',rfl⟩:=c;exact a i j t t' s _ _ ⟨.int (g i j),H,I.tok _,⟨_,rfl⟩,q⟩
theorem K1{g:Int->Int->Bool}
 (a: ∀(i j:Int) (t u:Tok) (s:Pn) (Q:Pk->Pn->Prop) (E:Pk->Pn->Prop),Q (.bool (g i j)) s->PJ (model X.prog X.w) X.A (f (.int i t) (.int j u)) Q E s):
 lG X f (GL λi j=>.bl (g i j)):=by
 intro d s σ H x y v u Q I b c h;obtain⟨i,j,rfl,rfl,q⟩:=h;obtain⟨t,rfl⟩:=b;obtain⟨t',rfl⟩:=c;exact a i j t t' s _ _ ⟨.bl (g i j),H,I,rfl,q⟩
def ME(i j:Int):Prop:=0<=j/\j<=1000000/\i.natAbs<2^64
theorem Jh:lG X (TU .Add) (GL λi j=>.int (i+j)):=Lw λ_ _ _ _ _ _ _ q=>add_int q
theorem Ju:lG X (TU .Sub) (GL λi j=>.int (i-j)):=Lw λ_ _ _ _ _ _ _ q=>sub_int q
theorem JB:lG X (TU .Mod) (rI (λ_ j=>0<j) λi j=>.int (i % j)):=M3 λi j _ _ _ _ _ a q=>by
 have b:(0:Int)<j:=a;exact mod_int' (by lia) (by rw[Int.fmod_eq_emod_of_nonneg i (by lia)];exact q)
theorem JW:lG X (TU .Pow) (rI ME λi j=>.int (i^j.toNat)):=M3 λ_ _ _ _ _ _ _ a q=>pow_int_small a.1 a.2.1 a.2.2 q
theorem OV{g:Int->Int}
 (a: ∀(i:Int) (t:Tok) (s:Pn) (Q:Pk->Pn->Prop) (E:Pk->Pn->Prop),Q (.int (g i) s.toks) {s with toks:=s.toks+1}->PJ (model X.prog X.w) X.A (f (.int i t)) Q E s):
 Oj X f (rU λi=>.int (g i)):=by
 intro c s σ H x v Q I b h;obtain⟨i,rfl,q⟩:=h;obtain⟨t,rfl⟩:=b;exact a i t s _ _ ⟨.int (g i),H,I.tok _,⟨_,rfl⟩,q⟩
theorem Ko:Oj X (unaryOp .USub) (rU λi=>.int (-i)):=OV λ_ _ _ _ _ q=>neg_int q
end
section
variable {X:Cx}{a b c:Expr}{ta tb tc:TE}{pos:Pos}
theorem xC:lG X (Ru .Lt) (GL λi j=>.bl (decide (i<j))):=K1 λ_ _ _ _ _ _ _ q=>lt_int q
theorem Iv:lG X (Ru .LtE) (GL λi j=>.bl (decide (i<=j))):=K1 λ_ _ _ _ _ _ _ q=>le_int q
theorem Lr:lG X (Ru .GtE) (GL λi j=>.bl (decide (j<=i))):=K1 λ_ _ _ _ _ _ _ q=>ge_int q
theorem cM(b:Expr)(h:op≠ .In:=by decide)(a:op≠ .NotIn:=by decide):SW op b=false:=by
 have d:(op==CmpOp.In)=false:=by cases op<;>first|rfl|exact absurd rfl h
 have c:(op==CmpOp.NotIn)=false:=by cases op<;>first|rfl|exact absurd rfl a
 cases b<;>simp[SW,d,c]
theorem G9(k:lG X (Ru op) r)(j:PE X a ta)(g:PE X b tb)(i:SW op b=false):PE X (.Compare a [op] [b] pos) (La r ta tb):=by
 intro e s σ H Q I h;exact wpAny_Compare1 (Ki j g I h λv u s2 x y l d c f q=>k e s2 σ l x y v u Q d c f q) i
def IZ(t:TE):TT:=λσ H Q=>t σ H λx a=> ∃k,x=.bl k/\Q k a
theorem HK(C:lG X (Ru op) r)(B:PE X a ta)(o:PE X b tb)(t:SW op b=false):PT X (.Compare a [op] [b] pos) (IZ (La r ta tb)):=by
 intro d s σ H Q I h;refine WP (bT (B d s σ H _ I h) λv n ⟨x,p,i,w,D⟩=>bT (o d n σ p _ i D) λu s2 ⟨y,E,l,q,A⟩=>
  bT (C d s2 σ E x y v u _ l w q A) λc F ⟨z,g,j,m,k,e,f⟩=>?_) t
 subst e;cases m;exact Rg ⟨g,j,f⟩
def yY(r e:R2)(f g h:TE):TE:=λσ H Q=>f σ H λx c=>g σ c λy i=>r x y i λz a=> ∃k,z=.bl k/\
 (if k=true then h σ a λd b=>e y d b Q else Q (.bl false) a)
theorem D1(R:lG X (Ru op) r)(g:lG X (Ru op') r')(P:PE X a ta)(w:PE X b tb)(C:PE X c tc)
 (N:YG [op,op'] [b,c]=false:=by with_unfolding_all rfl):PE X (.Compare a [op,op'] [b,c] pos) (yY r r' ta tb tc):=by
 intro f s σ H Q I h;refine Compare_chain (bT (P f s σ H _ I h) λv J ⟨x,L,o,E,S⟩=>chain_link (bT (w f J σ L _ o S) λu s2 ⟨y,F,p,m,O⟩=>
  bT (R f s2 σ F x y v u _ p E m O) λd B ⟨z,j,l,q,k,e,i⟩=>?_)) N
 subst e;cases q;refine Rg ?_
 cases k with
 |false=>exact ite_ff ⟨.bl false,j,l,rfl,i⟩
 |true=>exact ite_tt (chain_last (bT (C f B σ j _ l i) λM K ⟨t,G,A,n,D⟩=>g f K σ G y t u M Q A m n D))
theorem Ek(Z:lG X (Ru op) r)(i:lG X (Ru op') r')(Y:PE X a ta)(B:PE X b tb)(E:PE X c tc)
 (V:YG [op,op'] [b,c]=false:=by with_unfolding_all rfl):PT X (.Compare a [op,op'] [b,c] pos) (IZ (yY r r' ta tb tc)):=by
 intro f s σ H Q I h;refine isTrue_chain (bT (Y f s σ H _ I h) λv O ⟨x,S,q,K,q1⟩=>test_link (bT (B f O σ S _ q q1) λu s2 ⟨y,L,t,n,W⟩=>
  bT (Z f s2 σ L x y v u _ t K n W) λd D ⟨z,l,m,w,k,e,j⟩=>?_)) V
 subst e;cases w;refine Rg ?_
 cases k with
 |false=>
  obtain⟨k',J,G⟩:=j;cases J;exact ite_ff ⟨l,m,G⟩
 |true=>
  refine ite_tt (test_last (bT (E f D σ l _ m j) λU P ⟨A,M,C,p,F⟩=>bT (i f P σ M y A u U _ C n p F) λd' s5 g=>?_));obtain⟨z2,o,I5,R,k2,N,T⟩:=g;subst N;cases R;exact Rg ⟨o,I5,T⟩
def JZ(K:Pz)(x:V)(H:Hp)(k:Bool):Prop:=
 match x with
 | .non=>k=false
 | .bl b=>k=b
 | .int i=>k=(i !=0)
 | .str y=>y.length<=P4/\k=((y.length:Int) !=0)
 | .byt y=>y.size<=P4/\k=((y.size:Int) !=0)
 | .ref p=>(∃xs,SqL K H p xs/\k= !xs.isEmpty)\/(∃xs,SqT K H p xs/\k= !xs.isEmpty)\/ ∃a,H p=some (.dK a)/\k= !a.isEmpty
 |_=>False
theorem zc {κ:Type}{a:List (κ×V)}{vs:List (κ×Pk)}(r:KV a vs):(!vs.isEmpty)= !a.isEmpty:=by
 cases r<;>rfl
theorem qp {xs:List V}{a:List Pk}(r:bI xs a):(!a.toArray.isEmpty)= !xs.isEmpty:=by
 cases r<;>simp
theorem mK:(P4:Nat)<2^63:=by rw[Q7];decide
theorem Kq:N1 X (λx H Q=> ∃k,JZ X.K x H k/\Q k H):=by
 intro z s σ H x v Q I f h;obtain⟨k,e,q⟩:=h;have A:=mK;have B:P4=16777216:=Q7;cases x with
 |non=>
  cases f;have a:k=false:=e;subst a;exact truthy_none ⟨H,I,q⟩
 |bl b=>
  cases f;have a:k=b:=e;subst a;exact Rg ⟨H,I,q⟩
 |int i=>
  obtain⟨t,rfl⟩:=f;have a:k=(i !=0):=e;subst a;exact PySem.P.truthy_int ⟨H,I,q⟩
 |str y=>
  obtain⟨t,rfl⟩:=f;obtain⟨u,a⟩:y.length<=P4/\k=((y.length:Int) !=0):=e;subst a;exact PySem.P.truthy_str (by lia) ⟨H,I.tok _,q⟩
 |byt y=>
  obtain⟨t,rfl⟩:=f;obtain⟨u,a⟩:y.size<=P4/\k=((y.size:Int) !=0):=e;subst a;exact W.truthy_bytes (by lia) ⟨H,I.tok _,q⟩
 |ref p=>
  cases f;have a:(∃xs,SqL X.K H p xs/\k= !xs.isEmpty)\/(∃xs,SqT X.K H p xs/\k= !xs.isEmpty)\/ ∃c,H p=some (.dK c)/\k= !c.isEmpty:=e
  rcases a with⟨xs,g,a⟩|⟨xs,g,a⟩|⟨c,g,a⟩
  ·subst a;obtain⟨l,r,j,n⟩:=I.list g;have d:=r.length;exact wpAny_truthy_list j.isList (by simp only[PZ];lia) ⟨H,I.tok _,by rw[qp r];exact q⟩
  ·subst a;obtain⟨l,r,j,n⟩:=I.tuple g;have d:=r.length;exact truthy_tuple j (by simp only[PZ];lia) ⟨H,I.tok _,by rw[qp r];exact q⟩
  ·subst a;obtain⟨n,o,vs,r,m⟩:c.length<=P4/\(p==Zw)=false/\ ∃vs,KV c vs/\s.heap.DictOf (vT X.prog X.w) p vs:=I.hok p _ g
   have d:c.length=vs.length:=TR r;exact wpAny_truthy_dict o m (by lia) ⟨H,I.tok _,by rw[zc r];exact q⟩
 |_=>exact(show False from e).elim
theorem Fu(l:PE X a ta)(i: ∀b,isTrue a X.env b=(do let v <-b;VJ a.pos;TY [v] (truthy v))):
 PT X a (λσ H Q=>ta σ H λx c=> ∃k,JZ X.K x c k/\Q k c):=by
 intro d s σ H Q I h;exact isTrue_plain (bT (l d s σ H _ I h) λv f ⟨x,g,e,j,m⟩=>Kq d f σ g x v Q e j m) (i _)
theorem j2(r:bI [x] us): ∃u,us=[u]/\bt x u:=by
 cases r with
 |cons a b=>cases b;exact⟨_,rfl,a⟩
theorem IL(r:bI [x,y] us): ∃u a,us=[u,a]/\bt x u/\bt y a:=by
 cases r with
 |cons d e=>
  cases e with
  |cons c b=>cases b;exact⟨_,_,rfl,d,c⟩
theorem Fa:dH X (.builtin "abs") (λxs H Q=> ∃i,xs=[.int i]/\Q (.int (if i<0 then -i else i)) H):=by
 intro a s σ H xs us Q I r h;obtain⟨i,rfl,q⟩:=h;obtain⟨u,rfl,t,rfl⟩:=j2 r;exact call_abs_int λu tk=>⟨.int (if i<0 then -i else i),H,I.tok _,⟨_,rfl⟩,q⟩
theorem BL(b:X.calm=true):dH X (.builtin "max") (λxs H Q=> ∃i j,xs=[.int i,.int j]/\Q (.int (if j>i then j else i)) H):=by
 intro c s σ H xs us Q I r h;obtain⟨i,j,rfl,q⟩:=h;obtain⟨u,d,rfl,⟨t,rfl⟩,⟨t',rfl⟩⟩:=IL r;refine max_two_ints (I.ok.hd b) λh' tk k=>⟨_,H,I.kept k,?_,q⟩
 by_cases a:j>i
 ·rw[if_pos a,if_pos a];exact⟨_,rfl⟩
 ·rw[if_neg a,if_neg a];exact⟨_,rfl⟩
theorem sX(b:X.calm=true):dH X (.builtin "min") (λxs H Q=> ∃i j,xs=[.int i,.int j]/\Q (.int (if j<i then j else i)) H):=by
 intro c s σ H xs us Q I r h;obtain⟨i,j,rfl,q⟩:=h;obtain⟨u,d,rfl,⟨t,rfl⟩,⟨t',rfl⟩⟩:=IL r;refine min_two_ints (I.ok.hd b) λh' tk k=>⟨_,H,I.kept k,?_,q⟩
 by_cases a:j<i
 ·rw[if_pos a,if_pos a];exact⟨_,rfl⟩
 ·rw[if_neg a,if_neg a];exact⟨_,rfl⟩
end
structure c4(k:Nat)(A:Qq):Prop where
 hd:A.handled=none
 dp:A.depth+3*k+5<ZE
 un:A.units+16*k+200<Rp
theorem c4.mono(r:c4 k A)(h:j<=k):c4 j A:=⟨r.hd,by have:=r.dp;lia,by have:=r.un;lia⟩
theorem c4.deeper{A:Qq}(r:c4 (k+1) A)(a:Env):c4 k (A.deeper a):=
 ⟨r.hd,by have:=r.dp;show A.depth+1+3*k+5<_;lia,by have:=r.un;show A.units+3+16*k+200<_;lia⟩
theorem c4.depth{A:Qq}(r:c4 k A):A.depth<recursionLimit:=by have:=r.dp;lia
theorem c4.units{A:Qq}(r:c4 k A):A.units+64<cLine:=by have:=r.un;lia
def MC:TA:=λ_ H Q=>Q [] H
def Mw(a:TE)(c:TA):TA:=λσ H Q=>a σ H λx b=>c σ b λxs d=>Q (x::xs) d
section
variable {X:Cx}{e:Expr}{es:List Expr}{te:TE}{t:TA}{pos:Pos}
theorem fX:PA X [] MC:=λ_ _ _ _ H Q I h=>Calls.spliced_nil ⟨[],H,I,.nil,h⟩
theorem c8(o:PE X e te)(k:PA X es t)(l:PP (e::es) X.env=(false,eval e X.env)::PP es X.env:=by rfl):PA X (e::es) (Mw te t):=by
 intro a c s σ H Q I h;rw[l];show PJ _ _ (spliced ((false,eval e X.env)::R5 a (PP es X.env))) _ _ s;refine Calls.spliced_cons (bT (o c s σ H _ I h) λu g b=>?_);obtain⟨x,i,d,m,p⟩:=b;exact bT (k a c g σ i _ d p) λus s2 ⟨xs,q,f,j,n⟩=>⟨x::xs,q,f,.cons m j,n⟩
def Nm(t:TA):TE:=λσ H Q=>t σ H λxs a=>xs.length<=P4/\ ∀p,a p=none->Q (.ref p) (b9 a p (.tup xs))
def Nu(t:TA):TE:=λσ H Q=>t σ H λxs a=>xs.length<=P4/\ ∀p,a p=none->Q (.ref p) (b9 a p (.lst xs))
theorem JQ {x1}(h:PA X es t):PE X (.Tuple es x1 pos) (Nm t):=by
 intro g s σ H Q I f;refine wpAny_Tuple_spliced (bT (h pos g s σ H _ I f) λus a ⟨xs,d,c,r,z,q⟩=>⟨by rw[<-r.length];exact z,?_⟩);have i:d a.heap.objs.size=none:=c.hok.fresh (Px _);refine⟨.ref a.heap.objs.size,b9 d a.heap.objs.size (.tup xs),c.laid (t':=a.toks) (λb u e=>Po _ e) (Px _) ?_,rfl,q _ i⟩;exact⟨z,us,r,⟨_,PD _ rfl,rfl,_,rfl⟩,_,PD _ rfl,rfl⟩
theorem Kp(h:PA X es t):PE X (.List es pos) (Nu t):=by
 intro g s σ H Q I f;refine wpAny_List_spliced (bT (h pos g s σ H _ I f) λus a ⟨xs,d,c,r,z,q⟩=>⟨by rw[<-r.length];exact z,?_⟩);have i:d a.heap.objs.size=none:=c.hok.fresh (Px _);refine⟨.ref a.heap.objs.size,b9 d a.heap.objs.size (.lst xs),c.laid (t':=a.toks) (λb u e=>Po _ e) (Px _) ?_,rfl,q _ i⟩;exact⟨z,us,0,r,PD _ rfl⟩
end
abbrev Sp:=List V->Hp->VK->XK->Prop
abbrev DV:=List Env->Hp->Pn->XK->Pk->Pn->Prop
structure j4(P:Qp)(w:QD)(K:Pz)(mg:Str->Option Pk)(base:Heap)(A:Qq)(outer:List Env)(s:Pn)(H:Hp):Prop where
 frames:A.frames=some outer
 mod:Mod K mg base
 bs: ∀b o,base.get? b=some o->s.heap.get? b=some o/\H b=none
 bsz:base.objs.size<=s.heap.objs.size
 funs:s.heap.FunFrames base outer
 frf: ∀b∈frs outer,H b=none
 hok:HOk P w H s.heap
 bare:Uj s.gens
def CE(a:List Env)(P:Qp)(w:QD)(H:Hp)(s:Pn)(Q:VK)(u:Pk)(s':Pn):Prop:=
 ∃v b,s'.os=s.os/\Uj s'.gens/\Un (frs a) [] H b s.heap s'.heap/\HOk P w b s'.heap/\bt v u/\Q v b
def CR(CX:DV)(a:List Env)(P:Qp)(w:QD)(H:Hp)(s:Pn)(Q:VK)(E:XK)(r:Vr)(s':Pn):Prop:=
 match r with
 | .ok (.ret u)=>CE a P w H s Q u s'
 | .ok _=>False
 | .error e=>CX a H s E e s'
structure gt(P:Qp)(w:QD)(K:Pz)(mg:Str->Option Pk)(base:Heap)(CX:DV)(k:Nat)(f:Addr)(fd:SA)(ps:List Str)(sp:Sp):Prop where
 len: ∀vs H Q E,sp vs H Q E->vs.length=ps.length
 run: ∀(A:Qq) (outer:List Env) (s:Pn) (H:Hp) (args:Args) (us:List Pk) (vs:List V) (Q:VK) (E:XK),c4 k A->j4 P w K mg base A outer s H->Yd s fd args (ps.zip us)->bI vs us->sp vs H Q E->
  R9 (model P w) A (.call (.ref f) args) (CR CX outer P w H s Q E) s
theorem gt.imp{K:Pz}{sp c:Sp}(F:gt P w K mg base CX k f fd ps sp)
 (h: ∀vs H Q E,c vs H Q E->sp vs H Q E):gt P w K mg base CX k f fd ps c:=
 ⟨λvs H Q E q=>F.len vs H Q E (h _ _ _ _ q),λA a s H b us vs Q E e d i hv g=>F.run A a s H b us vs Q E e d i hv (h _ _ _ _ g)⟩
section
variable {X:Cx}{ah:List (Addr×Obj)}{σ:St}{H:Hp}{s s':Pn}
theorem Inv.env0(I:Inv X ah σ H s):j4 X.prog X.w X.K X.mg X.base X.A X.stack s H:=
 ⟨I.ok.frames,I.ok.mod,I.bs,Qh I.ok.bsz I.sz,I.stack,I.stkFree,I.hok,I.bare⟩
theorem Inv.after(I:Inv X ah σ H s)(h:CE X.stack X.prog X.w H s Q u s'):EP X ah σ Q u s':=by
 obtain⟨v,j,os,a,f,e,r,q⟩:=h;obtain⟨i,g,d,t,c⟩:=s';obtain rfl:c=s.os:=os;exact⟨v,j,I.call (h':=i) (g':=g) (d':=d) (t':=t) (ch:=[]) f e a (λb z=>absurd z (by simp)),r,q⟩
end
def Mg(sp:Sp)(a:List V)(E:XK)(t:TA):TE:=λσ H Q=>t σ H λvs b=>sp (vs++a) b Q E
def h7(K:Pz)(b:SA)(a:List Str)(ds:List Pk):Prop:=
 ∀(s:Pn) (us:List Pk),K.In s.heap->(us++ds).length=a.length->Yd s b ⟨us,[]⟩ (a.zip (us++ds))
theorem h7.all {K:Pz}{a:List Str}(h: ∀us:List Pk,us.length=a.length->bindArgs fd ⟨us,[]⟩=pure (a.zip us)):h7 K fd a []:=λs us _ b=>by
 rw[QX] at b⊢;exact .of_eq (h us b)
def yy(CX:DV)(X:Cx)(E:XK):Prop:= ∀(a:List (Addr×Obj)) (σ:St) (H:Hp) (s:Pn) (e:Pk) (s':Pn),Inv X a σ H s->CX X.stack H s E e s'->X.xe e s'
section
variable {X:Cx}{CX:DV}{k:Nat}{f C:Addr}{fd:SA}{ps:List Str}{sp:Sp}{dvs:List V}{ds:List Pk}{E:XK}{x m:Str}{p pos apos:Pos}{e o:Expr}{es:List Expr}{ta:TE}{t:TA}
theorem KY(F:gt X.prog X.w X.K X.mg X.base CX k f fd ps sp)(g:c4 k X.A)(l:h7 X.K fd ps ds)(i:bI dvs ds)(j:yy CX X E)
 (I:Inv X ah σ H s) (r:bI vs us) (h:sp (vs++dvs) H Q E):PJ (model X.prog X.w) X.A (call (.ref f) us) (EP X ah σ Q) X.xe s:=by
 have b:bI (vs++dvs) (us++ds):=r.append i;have d:(us++ds).length=ps.length:=by rw[<-b.length];exact F.len _ _ _ _ h
 refine ZF (Sq (F.run X.A X.stack s H ⟨us,[]⟩ (us++ds) (vs++dvs) Q E g I.env0 (l s us I.kIn d) b h) λr s' a=>?_);cases r with
 |error e=>exact j ah σ H s e s' I a
 |ok c=>
  cases c with
  |ret u=>exact I.after a
  |next=>exact False.elim a
  |brk=>exact False.elim a
  |cont=>exact False.elim a
theorem A5(F:gt X.prog X.w X.K X.mg X.base CX k f fd ps sp)(n:c4 k X.A)(d:Gl X x)(o:X.mg x=some (.ref f))(l:Vs X.K (.ref f)=true)(j:h7 X.K fd ps ds)(g:bI dvs ds)(u:yy CX X E)
 (v:PA X (e::es) t) (a:(x==("__debug__":Str))=false:=by decide) (m:PP (e::es) X.env=(false,eval e X.env)::PP es X.env:=by rfl) (b:(R5 pos (PP es X.env)).any (·.1)=false:=by rfl):
 PE X (.Call (.Name x p) (e::es) [] pos) (Mg sp dvs E t):=by
 intro i s σ H Q I h;refine T9 (Ig I d o ?_ a);refine W.callWith_K (h₀:=X.base) I.ok.mod.kin l (bT (v pos i s σ H _ I h) λus y ⟨vs,z,c,r,q⟩=>⟨c.kIn,?_⟩) m b;exact KY F n j g u c r q
end
structure bo(N P:List Str)(sc:Sm):Prop where
 kind:sc.kind=.function
 co:sc.isCoroutine=false
 gen:sc.isGenerator=false
 nd:N.Nodup
 pre:N.take P.length=P
 par: ∀x∈P,sc.names.lookup x=some .local\/sc.names.lookup x=some .cell
 nofree: ∀y∈sc.names,y.2≠ .free
theorem sW {b:Str->Option Sn}: ∀ {a:List (Str×Pk)} {m:Str->Option Pk},(∀v,(x,v)∉a)->ZG b a m x=m x
 | [],_,_=>rfl
 |(n,v)::r,m,h=>by
  unfold ZG;rw[sW λw hw=>h w (PK _ hw)];split
  ·have:x≠n:=by rintro rfl;exact h v PV
   simp[this]
  ·rfl
theorem t9 {b:Str->Option Sn}: ∀ {a:List (Str×Pk)} {m:Str->Option Pk},(∀v,(x,v)∉a)->ZH b a m x=m x
 | [],_,_=>rfl
 |(n,v)::r,m,h=>by
  unfold ZH;rw[t9 λw hw=>h w (PK _ hw)];split
  ·rfl
  ·have:x≠n:=by rintro rfl;exact h v PV
   simp[this]
theorem tE {a:Str->Option Sn}: ∀ {P:List Str} {vs:List Pk} {i:Nat} {m:Str->Option Pk},P.Nodup->P[i]? =some x->vs[i]? =some v->a x=some .local->
 ZG a (P.zip vs) m x=some v
 | [],_,_,_,_,h,_,_=>by simp at h
 |_::_,[],_,_,_,_,h,_=>by simp at h
 |p::P,w::vs,0,m,d,b,c,e=>by
  simp at b c;subst b;subst c;show ZG a ((p,w)::P.zip vs) m p=_;unfold ZG;rw[sW λv hv=>(RD.mp d).1 (WL hv).1,if_pos e];simp
 |p::P,w::vs,i+1,m,d,b,c,e=>by
  show ZG a ((p,w)::P.zip vs) m x=_;unfold ZG;exact tE (i:=i) (RD.mp d).2 (by simpa using b) (by simpa using c) e
theorem tZ {a:Str->Option Sn}: ∀ {P:List Str} {vs:List Pk} {i:Nat} {m:Str->Option Pk},P.Nodup->P[i]? =some x->vs[i]? =some v->a x≠some .local->
 ZH a (P.zip vs) m x=some v
 | [],_,_,_,_,h,_,_=>by simp at h
 |_::_,[],_,_,_,_,h,_=>by simp at h
 |p::P,w::vs,0,m,d,b,c,e=>by
  simp at b c;subst b;subst c;show ZH a ((p,w)::P.zip vs) m p=_;unfold ZH;rw[t9 λv hv=>(RD.mp d).1 (WL hv).1,if_neg e];simp
 |p::P,w::vs,i+1,m,d,b,c,e=>by
  show ZH a ((p,w)::P.zip vs) m x=_;unfold ZH;exact tZ (i:=i) (RD.mp d).2 (by simpa using b) (by simpa using c) e
def start(N:List Str)(vs:List V):St:=vs.map some++Py (N.length-vs.length) none
def sL(CX:DV)(P:Qp)(w:QD)(K:Pz)(mg:Str->Option Pk)(base:Heap)(N:List Str)(a:Str)(scope:Sm)(f:Addr)(c:Pk)(A:Qq)(outer:List Env)(s:Pn)(H:Hp)(E:XK):Cx where
 prog:=P
 w:=w
 K:=K
 mg:=mg
 base:=base
 A:=A.deeper (UZ a scope s.heap.objs.size f c)
 N:=N
 s₀:=s
 H₀:=H
 env:=UZ a scope s.heap.objs.size f c
 outer:=outer
 stack:=UZ a scope s.heap.objs.size f c::outer
 ex:=[]
 calm:=true
 fn:=λ_=>true
 pn:=[]
 xe:=λe s'=>PJ (model P w) (A.deeper (UZ a scope s.heap.objs.size f c)) (leaving (UZ a scope s.heap.objs.size f c) e) (λ_ b=>CX outer H s E e b) (λd b=>CX outer H s E d b) s'
theorem xg {a:Sm}{n:Nat}(h:a.names.lookup x=some .cell): ∃c,(RW n a.names []).lookup x=some c:=by
 have q:=YH a.names n [] (.inl h);exact Option.isSome_iff_exists.mp q
theorem CV{K:Pz}{N l:List Str}{scope:Sm}{A:Qq}{s D:Pn}{vs:List V}
 (S:bo N l scope) (I:A.handled=none) (g:j4 P w K mg base A outer s H) (Q:vs.length=l.length) (r:bI vs us)
 (x:InCallC s s.heap.objs.size (ZG (UZ qual scope s.heap.objs.size f cd).kindOf (l.zip us) λ_=>none) (RW (s.heap.objs.size+1) scope.names []) (ZH (UZ qual scope s.heap.objs.size f cd).kindOf (l.zip us) λ_=>none) D):
 Inv (sL CX P w K mg base N qual scope f cd A outer s H E) [] (start N vs) H D:=by
 have M:l.length<=N.length:=by have:=congrArg Sd S.pre;rw[R4] at this;lia
 obtain⟨C,tk,rfl,F⟩:=x.done;have j: ∀b:Addr,b∉(sL CX P w K mg base N qual scope f cd A outer s H E).ex:=λb z=>absurd (show b∈([]:List Addr) from z) (by simp)
 refine⟨⟨g.mod,S.kind,rfl,rfl,Px _,λy z c C d=>?_,λy m=>?_,λy c _ h=>?_,λ_=>I,Around.frames_deeper g.frames,.inr ⟨rfl,rfl⟩,λb z=>absurd z (j b),g.bs,g.bsz,λb _ _=>j b,λb z=>absurd z (j b),g.funs,g.frf⟩,
  rfl,g.bare,Un.kept F,⟨_,x.toInCall.ns,λi y v C d O=>?_⟩,λy c h=>⟨_,x.cell y c h⟩,g.hok.fresh (Px _),λy c h=>?_,λp t=>absurd (show p∈([]:List (Addr×Obj)) from t) (by simp),g.hok.kept F,?_⟩
 ·exact name_of_addr x.apart (QM C) (QM d)
 ·have m:scope.names.lookup y=some .cell\/scope.names.lookup y=some .free:=m;rcases m with m|m
  ·exact xg m
  ·exact absurd rfl (S.nofree _ (QM m))
 ·exact Tf (x.above y c (QM h))
 ·have B:i<vs.length:=by
   unfold start at d
   by_cases B:i<vs.length
   ·exact B
   ·rw[Qg (by simpa using B)] at d;rw[QQ] at d;split at d<;>cases d
  have L:vs[i]? =some v:=by
   unfold start at d;rw[Qk (by simpa using B),Qi] at d;cases e:vs[i]? with
   |none=>rw[e] at d;cases d
   |some a=>rw[e] at d;cases d;rfl
  obtain⟨u,G,J⟩:=r.get L;have t:l[i]? =some y:=by
   rw[<-S.pre,VY (by lia)];exact C
  have o:l.Nodup:=by rw[<-S.pre];exact S.nd.sublist (Ui _ _)
  refine⟨u,J,?_⟩;rcases S.par y (Ql t) with k|k
  ·exact .inl ⟨k,tE o t G k⟩
  ·obtain⟨c,e⟩:=xg (n:=s.heap.objs.size+1) k;refine .inr ⟨.inl k,c,e,?_⟩;have q:=x.cell y c e;rw[tZ o t G (by show scope.names.lookup y≠_;rw[k];decide)] at q;exact q
 ·exact g.hok.fresh (Tf (x.above y c (QM h)))
 ·unfold start;show _=N.length;rw[P0,Pp,UB];lia
theorem Lq{K:Pz}{dV kV doc pm cdv ct oc:Pk}{an od:Option Addr}
 {osl:Array (Option Pk)} {N ps:List Str} {sp:Sp} (lk:K.lookup f=some ⟨oc,od,.func (Wy name qual params body scope dV kV doc pm an cdv ct),osl⟩) (hcd:Ye K cdv qual=true) (S:bo N ps scope)
 (len: ∀vs H Q E,sp vs H Q E->vs.length=ps.length)
 (hbody: ∀(A:Qq) (outer:List Env) (s:Pn) (H:Hp) (vs:List V) (Q:VK) (E:XK),c4 k (A.deeper (UZ qual scope s.heap.objs.size f cdv))->sp vs H Q E->
   ∃t,PSs (sL CX P w K mg base N qual scope f cdv A outer s H E) body t/\t {nx:=λ_ H'=>Q .non H',rt:=Q} (start N vs) H):
 gt P w K mg base CX (k+1) f (Wy name qual params body scope dV kV doc pm an cdv ct) ps sp:=by
 refine⟨len,λA outer s H args us vs Q E hr e0 hb r hsp=>?_⟩;have hl:=len _ _ _ _ hsp;have KX:K.In s.heap:=e0.mod.kin.keeps λb o e=>(e0.bs b o e).1
 have lim:s.heap.NoLimit:=e0.mod.nolimit.keeps λb o e=>(e0.bs b o e).1
 have hkind: ∀y∈ps.zip us,scope.names.lookup y.1=some .local\/(scope.names.lookup y.1=some .cell/\((RW (s.heap.objs.size+1) scope.names []).lookup y.1).isSome=true):=λ⟨n,v⟩ hy=>by
  rcases S.par n (WL hy).1 with q|q
  ·exact .inl q
  ·exact .inr ⟨q,YH _ _ _ (.inl q)⟩
 refine codeAny_call_function hr.depth (KX _ _ lk) rfl S.co S.gen rfl (W.codeRec_of KX hcd) (hb _ _ _ _ ?_);refine wpAny_newFunctionEnv_cells S.kind hkind λenv he s1 x=>?_
 subst he;refine⟨lim.keeps x.toInCall.keep,codeAny_func ?_⟩;obtain⟨t,ht,hq⟩:=hbody A outer s H vs Q E (hr.deeper _) hsp;have I:Inv (sL CX P w K mg base N qual scope f cdv A outer s H E) [] (start N vs) H s1:=CV S hr.hd e0 hl r x;refine Qv (ht [] s1 (start N vs) H _ I hq) (λfl s' hs=>?_) λe s' hs=>hs
 have fin: ∀ {σ':St} {H':Hp} {v:V} {u:Pk},Inv (sL CX P w K mg base N qual scope f cdv A outer s H E) [] σ' H' s'->bt v u->Q v H'->CE outer P w H s Q u s':=
  λ{σ' H' v u} J rv q=>⟨v,H',J.os,J.bare,J.base,J.hok,rv,q⟩
 cases fl with
 |ret u=>
  obtain⟨v,σ',H',J,rv,q⟩:=hs;exact fin J rv q
 |next=>
  obtain⟨σ',H',J,q⟩:=hs;exact fin (v:=V.non) (u:=Qw) J rfl q
 |brk=>
  obtain⟨_,_,_,q⟩:=hs;exact False.elim q
 |cont=>
  obtain⟨_,_,_,q⟩:=hs;exact False.elim q
section
variable {X:Cx}{x:Str}{p pos:Pos}{e:Expr}{es:List Expr}{t:TA}{id T:String}{r:List V->Hp->VK->Prop}
def Mb(r:List V->Hp->VK->Prop)(t:TA):TE:=λσ H Q=>t σ H λvs a=>r vs a Q
theorem nS(l:dH X (.builtin id) r)(d:Gl X x)(m:X.mg x=none)(hv:Rm x=some (.builtin id))(o:PA X (e::es) t)(g:x≠"__name__":=by decide)(a:(x==("__debug__":Str))=false:=by decide)
 (k:PP (e::es) X.env=(false,eval e X.env)::PP es X.env:=by rfl) (b:(R5 pos (PP es X.env)).any (·.1)=false:=by rfl):PE X (.Call (.Name x p) (e::es) [] pos) (Mb r t):=by
 intro c s σ H Q I h;refine T9 (rE I d m hv ?_ g a);exact YI (bT (o pos c s σ H _ I h) λus i ⟨vs,j,f,n,q⟩=>l c i σ j vs us Q f n q) k b
theorem gv(l:dH X (.type T) r)(d:Gl X x)(m:X.mg x=none)(hv:Rm x=some (.type T))(o:PA X (e::es) t)(g:x≠"__name__":=by decide)(a:(x==("__debug__":Str))=false:=by decide)
 (k:PP (e::es) X.env=(false,eval e X.env)::PP es X.env:=by rfl) (b:(R5 pos (PP es X.env)).any (·.1)=false:=by rfl):PE X (.Call (.Name x p) (e::es) [] pos) (Mb r t):=by
 intro c s σ H Q I h;refine T9 (rE I d m hv ?_ g a);exact Tv (bT (o pos c s σ H _ I h) λus i ⟨vs,j,f,n,q⟩=>l c i σ j vs us Q f n q) k b
theorem y0(c:dH X (.type T) r)(b:Gl X x)(d:X.mg x=none)(hv:Rm x=some (.type T))(e:x≠"__name__":=by decide)(a:(x==("__debug__":Str))=false:=by decide):
 PE X (.Call (.Name x p) [] [] pos) (Mb r MC):=by
 intro f s σ H Q I h;refine T9 (rE I b d hv ?_ e a);exact Zo (c f s σ H [] [] Q I .nil h)
end
end L2
namespace HT
open PySem PyProof.Rows
section
variable {prog:Qp}{w:QD}{A:Qq}{E:Pk->Pn->Prop}{s:Pn}
def sIx(n d:Nat):Option Int->Nat
 |none=>d
 |some v=>if v<0 then(v+(n:Int)).toNat else min v.toNat n
theorem sIx_none(n d:Nat):sIx n d none=d:=rfl
theorem sIx_nat(n d k:Nat):sIx n d (some (k:Int))=min k n:=by
 show(if(k:Int)<0 then((k:Int)+(n:Int)).toNat else min (k:Int).toNat n)=min k n;rw[if_neg (by lia),Rt]
end
end HT
namespace L2
open PySem PySem.Spec PyProof.Rows
abbrev TO:=St->Hp->(Option Int->Hp->Prop)->Prop
def PO(X:Cx)(e:Option Expr)(t:TO):Prop:=
 ∀(a:List (Addr×Obj)) (s:Pn) (σ:St) (H:Hp) (Q:Option Int->Hp->Prop),Inv X a σ H s->t σ H Q->
  PJ (model X.prog X.w) X.A (evalPart e X.env) (λu s'=> ∃o b,Inv X a σ b s'/\IsPart u o/\Q o b) X.xe s
def Ht:TO:=λ_ H Q=>Q none H
def Mm(t:TE):TO:=λσ H Q=>t σ H λx a=> ∃i,x=.int i/\Q (some i) a
theorem zD {a:List Int}: ∀ {us:List Pk},bI (a.map V.int) us->Xk us a:=by
 induction a with
 |nil=>intro us r;rw[SQ] at r;cases r;exact .nil
 |cons n a d=>
  intro us r;rw[Pu] at r;cases r with
  |cons b c=>
   obtain⟨t,e⟩:=b;subst e;exact .cons n t (d c)
section
variable {X:Cx}{e:Expr}{te:TE}{lo hi:Option Expr}{tl th:TO}{pos p2:Pos}
theorem HZ:PO X none Ht:=by
 intro a s σ H Q I h;rw[XF];exact Pl ⟨none,H,I,.none,h⟩
theorem Gy(h:PE X e te):PO X (some e) (Mm te):=by
 intro c s σ H Q I hw;rw[evalPart_some];refine bT (h c s σ H _ I hw) λu j a=>?_
 obtain⟨x,d,b,f,g⟩:=a;obtain⟨i,rfl,q⟩:=g;obtain⟨t,rfl⟩:=f;exact⟨some i,d,b,.int i t,q⟩
def OP(X:Cx)(r:V->Option Int->Option Int->Hp->VK->Prop):Prop:=
 ∀(a:List (Addr×Obj)) (s:Pn) (σ:St) (H:Hp) (x:V) (v f c:Pk) (e d:Option Int) (b:Addr) (Q:VK),Inv X a σ H s->bt x v->s.heap.IsSliceOf b f c .none->IsPart f e->IsPart c d->r x e d H Q->
  ∃T id,ZJ (.type T) "__getitem__"=pure (some (.builtin id))/\s.TypeIs v T/\PJ (model X.prog X.w) X.A (Zp v (.ref b)) (EP X a σ Q) X.xe s
def O2(r:V->Option Int->Option Int->Hp->VK->Prop)(b:TE)(d th:TO):TE:=λσ H Q=>b σ H λx a=>d σ a λl e=>th σ e λu c=>r x l u c Q
theorem v7(F:OP X r)(D:PE X e te)(E:PO X lo tl)(K:PO X hi th):PE X (.Subscript e (.Slice lo hi none p2) pos) (O2 r te tl th):=by
 intro d s σ H Q I h;refine ZK (bT (D d s σ H _ I h) λv z c=>?_);obtain⟨x,B,o,G,L⟩:=c;refine wpAny_Slice (bT (E d z σ B _ o L) λf s2 ⟨l,M,t,y,J⟩=>bT (K d s2 σ M _ t J) λg a c=>?_);obtain⟨u,i,p,pu,k⟩:=c;rw[XF];refine Pl ?_
 have C:Inv X d σ i {a with heap:=a.heap.push {cls:=.type "slice",data:=.fields #[f,g,.none]}}:=p.kept (t':=a.toks) λb ob q=>Po _ q
 obtain⟨T,id,m,j,n⟩:=F d {a with heap:=a.heap.push {cls:=.type "slice",data:=.fields #[f,g,.none]}} σ i x v f g l u a.heap.objs.size Q C G (XZ ..) y pu k;show PJ (model X.prog X.w) X.A (XG e (.Slice lo hi none p2) v (.ref a.heap.objs.size)) (EP X d σ Q) X.xe {a with heap:=a.heap.push {cls:=.type "slice",data:=.fields #[f,g,.none]}};exact tail_any (ops:=[.ref a.heap.objs.size,v]) j m n (by with_unfolding_all rfl)
def Ci(xs:List V)(a b:Option Int):List V:=(xs.drop (HT.sIx xs.length 0 a)).take (HT.sIx xs.length xs.length b-HT.sIx xs.length 0 a)
theorem wO(xs:List V)(b a:Option Int):(Ci xs b a).length<=xs.length:=by
 unfold Ci;rw[R4,List.length_drop];lia
end
def x9(n:Nat)(i:Int):Option Nat:=if 0<=i then(if i<n then some i.toNat else none) else if -(n:Int)<=i then some (i+n).toNat else none
def tF {α:Type}(xs:List α)(i:Int):Option α:=(x9 xs.length i).bind λj=>xs[j]?
theorem vk(h:x9 n i=some j):seqIndex? i n=some j/\j<n/\ -(n:Int)<=i/\i<n:=by
 unfold x9 at h
 by_cases b:0<=i
 ·rw[if_pos b] at h
  by_cases a:i<n
  ·rw[if_pos a] at h;have e:i.toNat=j:=Qu h;exact⟨by rw[YY b a,e],by lia,by lia,a⟩
  ·rw[if_neg a] at h;cases h
 ·rw[if_neg b] at h
  by_cases a: -(n:Int)<=i
  ·rw[if_pos a] at h;have e:(i+n).toNat=j:=Qu h;exact⟨by rw[Yf (by lia) a,e],by lia,a,by lia⟩
  ·rw[if_neg a] at h;cases h
theorem uZ {α:Type}{xs:List α}{i:Int}{v:α}(h:tF xs i=some v): ∃j,seqIndex? i xs.length=some j/\xs[j]? =some v/\j<xs.length/\ -(xs.length:Int)<=i/\i<xs.length:=by
 unfold tF at h;cases e:x9 xs.length i with
 |none=>rw[e] at h;cases h
 |some j=>
  rw[e] at h;obtain⟨b,c,d,a⟩:=vk e;exact⟨j,b,h,c,d,a⟩
theorem u7 {α:Type}{xs:List α}{j:Nat}{v:α}(h:xs[j]? =some v):tF xs (j:Int)=some v:=by
 have a:j<xs.length:=(PL.mp h).1;have e:x9 xs.length (j:Int)=some j:=by
  unfold x9;rw[if_pos (by lia),if_pos (by lia)];simp
 unfold tF;rw[e];exact h
def uA(b:Expr):Prop:= ∀o i,W3 b false o i=operate [o,i] (Zp o i)
def IxR(X:Cx)(r:R2):Prop:=
 ∀(b a:Expr) (c:List (Addr×Obj)) (s:Pn) (σ:St) (H:Hp) (x y:V) (v u:Pk) (Q:VK),Inv X c σ H s->bt x v->bt y u->r x y H Q->
  W3 a false v u=operate [v,u] (Zp v u)->PJ (model X.prog X.w) X.A (XG b a v u) (EP X c σ Q) X.xe s
def Ng(X:Cx)(id:String)(r:V->List V->Hp->VK->Prop):Prop:=
 ∀(a:List (Addr×Obj)) (s:Pn) (σ:St) (H:Hp) (x:V) (xs:List V) (v:Pk) (us:List Pk) (Q:VK),Inv X a σ H s->bt x v->bI xs us->r x xs H Q->
  PJ (model X.prog X.w) X.A (call (.builtin id) (v::us)) (EP X a σ Q) X.xe s
section
variable {X:Cx}{a b:Expr}{ta tb:TE}{pos:Pos}
theorem IxR.or(h:IxR X r)(h':IxR X r'):IxR X (λx y H Q=>r x y H Q\/r' x y H Q):=by
 intro a b d s σ H x y v u Q I c e q f;rcases q with q|q
 ·exact h a b d s σ H x y v u Q I c e q f
 ·exact h' a b d s σ H x y v u Q I c e q f
theorem IW(i:IxR X r)(k:PE X a ta)(g:PE X b tb)(j:uA b):PE X (.Subscript a b pos) (La r ta tb):=by
 intro e s σ H Q I h;exact ZK (Ki k g I h λv u s2 x y l d c f q=>i a b e s2 σ l x y v u Q d c f q (j _ _))
def LQ(K:Pz):R2:=λx y H Q=> ∃p xs i v,x=.ref p/\y=.int i/\SqL K H p xs/\tF xs i=some v/\Q v H
def Ls(K:Pz):R2:=λx y H Q=> ∃p xs i v,x=.ref p/\y=.int i/\SqT K H p xs/\tF xs i=some v/\Q v H
def LG:R2:=λx y H Q=> ∃z i c,x=.str z/\y=.int i/\z.length<=P4/\tF z.cps.toList i=some c/\Q (.str ⟨#[c]⟩) H
theorem kb:IxR X (LQ X.K):=by
 intro e f l s σ H x y v u Q I A C h m;obtain⟨p,xs,i,z,rfl,rfl,B,D,q⟩:=h;cases A;obtain⟨t,rfl⟩:=C;obtain⟨d,r,c,M⟩:=I.list B;obtain⟨j,a,F,L,o,G⟩:=uZ D;obtain⟨w,n,b⟩:=r.get F;have E:=r.length;have J:=mK;have fin:EP X l σ Q w s:=⟨z,H,I,b,q⟩
 by_cases k:0<=i
 ·have g:i.toNat=j:=by
   rw[YY k G] at a;exact Qu a
  exact item_listR c.isList k (by lia) (by rw[g];simpa using n) fin m
 ·have g:(i+(d.toArray.size:Int)).toNat=j:=by
   rw[Yf (by lia) o] at a;rw[PZ,<-E];exact Qu a
  exact Wz (x:=w) c.isList.typeIs VL.lookup
   (wpAny_getItem_list_neg (Q:=λr s'=>r=w/\EP X l σ Q r s') c.isList (by lia) (by rw[PZ]<;>lia) (by lia) (by rw[g];simpa using n) ⟨rfl,fin⟩) m
theorem k4:IxR X (Ls X.K):=by
 intro b c d s σ H x y v u Q I f l h o;obtain⟨p,xs,i,z,rfl,rfl,g,m,q⟩:=h;cases f;obtain⟨t,rfl⟩:=l;obtain⟨k,r,e,J⟩:=I.tuple g;obtain⟨j,A,B,F,D,G⟩:=uZ m;obtain⟨w,C,a⟩:=r.get B;have n:=r.length;have E:=mK;have fin:EP X d σ Q w s:=⟨z,H,I,a,q⟩
 exact Wz (x:=w) e.typeIs slot_tuple_getitem.lookup
  (getItem_tuple (j:=j) (Q:=λr s'=>r=w/\EP X d σ Q r s') e (by lia) (by lia) (by rw[PZ,<-n];exact A) (by simpa using C) ⟨rfl,fin⟩) o
theorem Jg:IxR X LG:=by
 intro a b A s σ H x y v u Q I f l h o;obtain⟨z,i,c,rfl,rfl,C,m,q⟩:=h;obtain⟨t,rfl⟩:=f;obtain⟨t',rfl⟩:=l;obtain⟨j,d,p,B,e,r⟩:=uZ m;have n:z.cps.toList.length=z.length:=by simp[Str.length]
 rw[n] at d e r;have w:=mK
 exact tail_any (typeIs_str s z t) slot_str_getitem.lookup (getItem_str (c:=c) (by
  have k:decide (i< -(2^63:Int))=false:=lC (by lia);have g:decide (i≥2^63)=false:=lC (by lia)
  rw[k,g,VZ]) (by rw[d];simpa using p) ⟨.str ⟨#[c]⟩,H,I.tok _,⟨_,rfl⟩,q⟩) o
def OH(K:Pz):R2:=λx y H Q=>LQ K x y H Q\/Ls K x y H Q\/LG x y H Q
theorem aI:IxR X (OH X.K):=kb.or (k4.or Jg)
theorem za(a:List Pk)(n j:Nat)(u:Pk):SB (·.setIfInBounds j u) {cls:=.type "list",data:=.seq a.toArray n}={cls:=.type "list",data:=.seq (a.set j u).toArray n}:=by
 simp[SB]
theorem Inv.lst{H:Hp}{s:Pn}{xs:List V}(I:Inv X ah σ H s)(h:H p=some (.lst xs)):
 ∃(a:List Pk) (n:Nat),bI xs a/\s.heap.get? p=some {cls:=.type "list",data:=.seq a.toArray n}/\xs.length<=sizeLine:=by
 obtain⟨z,a,n,r,e⟩:=I.hok p _ h;exact⟨a,n,r,e,z⟩
theorem Inv.lstUpd{s:Pn}{xs ys:List V}{a its':List Pk}(I:Inv X ah σ H s)(h:H p=some (.lst xs))
 (g:s.heap.get? p=some {cls:=.type "list",data:=.seq a.toArray n}) (c:f {cls:=.type "list",data:=.seq a.toArray n}={cls:=.type "list",data:=.seq its'.toArray n'}) (r:bI ys its') (d:ys.length<=P4) (t:Nat):
 Inv X ah σ (b9 H p (.lst ys)) {s with heap:=s.heap.update p f,toks:=t}:=by
 have e:(s.heap.update p f).get? p=some {cls:=.type "list",data:=.seq its'.toArray n'}:=by
  rw[QG f g (by rw[c]<;>rfl),c]
 refine I.write (x:=p) (e:=p) (by rw[h];trivial) (.inl rfl) (λb u i q=>(Ss _ _ (QA i)).trans q) ⟨_,e⟩ ?_
 exact⟨d,its',n',r,e⟩
def LU:V->V->V->Hp->(Hp->Prop)->Prop:=λo i v H Q=> ∃p xs k j,o=.ref p/\i=.int k/\H p=some (.lst xs)/\x9 xs.length k=some j/\Q (b9 H p (.lst (xs.set j v)))
theorem FB:L3 X LU:=by
 intro z s σ H o i v ov F u Q I x y A h;obtain⟨p,xs,k,j,rfl,rfl,w,B,q⟩:=h;cases x;obtain⟨t,rfl⟩:=y;obtain⟨a,n,r,e,C⟩:=I.lst w;obtain⟨b,E,m,f⟩:=vk B;have d:=r.length;have D:=mK;have g:Inv X z σ (b9 H p (.lst (xs.set j v))) {s with heap:=s.heap.update p (SB (·.setIfInBounds j u))}:=
  I.lstUpd w e (za a n j u) (r.set A j) (by rw[Y9];exact C) s.toks
 by_cases l:0<=k
 ·have c:k.toNat=j:=by
   rw[YY l f] at b;exact Qu b
  exact W.ki_setAt e l (by lia) (by rw[PZ,<-d];exact f) (by rw[c];exact⟨_,g,q⟩)
 ·have c:(k+(a.toArray.size:Int)).toNat=j:=by
   rw[Yf (by lia) m] at b;rw[PZ,<-d];exact Qu b
  exact W.ki_setBack e (by lia) (by rw[PZ,<-d];exact m) (by lia) (by rw[c];exact⟨_,g,q⟩)
theorem uE(b a:Option Int)(n:Nat):(Uc b a none n).1=((HT.sIx n 0 b:Nat):Int)/\(Uc b a none n).2.1=((HT.sIx n n a:Nat):Int)/\(Uc b a none n).2.2=1:=by
 refine⟨?_,?_,rfl⟩
 ·cases b with
  |none=>simp[Uc,HT.sIx]
  |some i=>
   simp only[Uc,HT.sIx,YJ,show(1:Int)>0 by decide,if_true]
   by_cases h:i<0
   ·simp only[h,if_true]<;>lia
   ·simp only[h,if_false]<;>lia
 ·cases a with
  |none=>simp[Uc,HT.sIx]
  |some i=>
   simp only[Uc,HT.sIx,YJ,show(1:Int)>0 by decide,if_true]
   by_cases h:i<0
   ·simp only[h,if_true]<;>lia
   ·simp only[h,if_false]<;>lia
theorem sq(a:List Pk)(b c:Option Int):YK a.toArray b c none=((a.drop (HT.sIx a.length 0 b)).take (HT.sIx a.length a.length c-HT.sIx a.length 0 b)).toArray:=by
 obtain⟨d,e,f⟩:=uE b c a.toArray.size;unfold YK;rw[d,e,f];simp only[sliceRange_one,pick_run,PZ]<;>rfl
def Oe(K:Pz):V->Option Int->Option Int->Hp->VK->Prop:=λx c b H Q=> ∃a xs,x=.ref a/\SqL K H a xs/\ ∀p,H p=none->Q (.ref p) (b9 H p (.lst (Ci xs c b)))
theorem AI:OP X (Oe X.K):=by
 intro n s σ H x v t u d e p Q I g k i pu h;obtain⟨a,xs,rfl,m,q⟩:=h;cases g;obtain⟨j,r,f,l⟩:=I.list m;have c:=r.length;refine⟨"list",_,VL.lookup,f.isList.typeIs,?_⟩;refine V0 f.isList k i pu .none (by simp) ?_ (by rw[PZ]<;>lia)
 rw[sq,<-c];refine⟨.ref s.heap.objs.size,_,I.laid (t':=s.toks) (o:=.lst (Ci xs d e)) (λb ob q=>Po _ q) (Px _) ?_,rfl,q _ (I.hok.fresh (Px _))⟩;exact⟨Qh (wO xs d e) l,_,0,(r.drop (HT.sIx xs.length 0 d)).take (HT.sIx xs.length xs.length e-HT.sIx xs.length 0 d),PD _ rfl⟩
theorem bu:dH X (.builtin "len") (λxs H Q=> ∃p ys,xs=[.ref p]/\(SqL X.K H p ys\/SqT X.K H p ys)/\Q (.int ys.length) H):=by
 intro j s σ H xs us Q I r h;obtain⟨p,ys,rfl,b,q⟩:=h;obtain⟨u,rfl,f⟩:=j2 r;cases f;have i:=mK;rcases b with b|b
 ·obtain⟨e,c,d,g⟩:=I.list b;have a:=c.length;exact Calls.call_len_list d.isList (by simp only[PZ]<;>lia) ⟨.int ys.length,H,I.tok _,⟨s.toks+1,by rw[PZ,a]⟩,q⟩
 ·obtain⟨e,c,d,g⟩:=I.tuple b;have a:=c.length;exact len_tuple d (by simp only[PZ]<;>lia) ⟨.int ys.length,H,I.tok _,⟨s.toks+1,by rw[PZ,a]⟩,q⟩
theorem ft:dH X (.type "list") (λxs H Q=> ∃p ys,xs=[.ref p]/\(SqL X.K H p ys\/SqT X.K H p ys)/\ ∀l,H l=none->Q (.ref l) (b9 H l (.lst ys))):=by
 intro z s σ H xs us Q I r h;obtain⟨p,ys,rfl,f,q⟩:=h;obtain⟨u,rfl,y⟩:=j2 r;cases y;have fin: ∀(a:List Pk),bI ys a->ys.length<=P4-> ∀(h':Heap) (d:Nat),(∀b x,s.heap.get? b=some x->h'.get? b=some x)->
  h'.get? s.heap.objs.size=some {cls:=.type "list",dict:=none,data:=.seq a.toArray d,slots:= #[]}->EP X z σ Q (.ref s.heap.objs.size) {s with heap:=h'}:=λa c j h' d g e=>
  ⟨.ref s.heap.objs.size,_,I.laid (t':=s.toks) g (Px _) (show cc X.prog X.w _ h' _ (.lst ys) from⟨j,a,d,c,e⟩),rfl,q _ (I.hok.fresh (Px _))⟩
 rcases f with f|f
 ·obtain⟨a,c,m,j⟩:=I.list f;have i:=c.length;obtain⟨o,v,t,n,k⟩:=m.isList;exact call_list_seq p (.inl rfl) v t k (λh' d g e=>fin a c j h' d g e) (by simp only[PZ]<;>lia)
 ·obtain⟨a,c,m,j⟩:=I.tuple f;have i:=c.length;obtain⟨o,v,t,n,k⟩:=m;exact call_list_seq p (.inr rfl) v t k (λh' d g e=>fin a c j h' d g e) (by simp only[PZ]<;>lia)
theorem dN:dH X (.type "tuple") (λxs H Q=> ∃p ys,xs=[.ref p]/\((SqL X.K H p ys/\ ∀l,H l=none->Q (.ref l) (b9 H l (.tup ys)))\/(SqT X.K H p ys/\Q (.ref p) H))):=by
 intro i s σ H xs us Q I r h;obtain⟨p,ys,rfl,h⟩:=h;obtain⟨u,rfl,m⟩:=j2 r;cases m;rcases h with⟨d,q⟩|⟨d,q⟩
 ·obtain⟨a,c,f,k⟩:=I.list d;have j:=c.length;refine call_tuple_list f.isList (λh' t=>?_) (by simp only[PZ]<;>lia);have g:Inv X i σ H {s with heap:=h'}:=I.kept (t':=s.toks) t;have n:Inv X i σ (b9 H h'.objs.size (.tup ys)) {s with heap:=h'.push {cls:=.type "tuple",data:=.seq a.toArray}}:=
   g.laid (t':=s.toks) (λb o e=>Po _ e) (Px _) (show cc X.prog X.w _ _ _ (.tup ys) from⟨k,a,c,IsTup.new _ _,_,PD _ rfl,rfl⟩)
  exact⟨.ref h'.objs.size,_,n,rfl,q _ (g.hok.fresh (Px _))⟩
 ·obtain⟨a,c,f,k⟩:=I.tuple d;exact call_tuple_same f ⟨.ref p,H,I,rfl,q⟩
def OO(K:Pz)(T:String)(x:V)(H:Hp):Prop:=match x with
 | .str _=>T="str"
 | .int _=>T="int"
 | .ref p=>(T="list"/\ ∃xs,SqL K H p xs)\/(T="tuple"/\ ∃xs,SqT K H p xs)\/
    (T="dict"/\((∃a,H p=some (.dK a))\/ ∃a,H p=some (.dT a)))\/(T="set"/\ ∃S n,H p=some (.set S n))\/(T="set"/\ ∃xs,H p=some (.tst xs))
 |_=>False
theorem Ka{s:Pn}(I:Inv X ah σ H s)(r:bt x v)(ty:OO X.K T x H):
 s.TypeIs v T/\ ∀a,v=.ref a-> ∃ob,s.heap.get? a=some ob/\ob.dict=none:=by
 cases x with
 |str z=>
  obtain⟨t,rfl⟩:=r;cases (show T="str" from ty);exact⟨typeIs_str s z t,λ_ e=>nomatch e⟩
 |int i=>
  obtain⟨t,rfl⟩:=r;cases (show T="int" from ty);exact⟨typeIs_int s i t,λ_ e=>nomatch e⟩
 |ref p=>
  cases r;rcases ty with⟨rfl,xs,g⟩|⟨rfl,xs,g⟩|⟨rfl,d⟩|⟨rfl,S,n,d⟩|⟨rfl,xs,d⟩
  ·obtain⟨m,_,k,_⟩:=I.list g;refine⟨k.isList.typeIs,λa e=>?_⟩;cases e;obtain⟨o,n,e,c,h,_⟩:=k;exact⟨o,e,h⟩
  ·obtain⟨⟨ob,w,q⟩,l,u,h⟩:=I.tupleN g;refine⟨⟨ob,w,q⟩,λa e=>?_⟩;cases e;exact⟨l,u,h⟩
  ·have z: ∃o,s.heap.get? p=some o/\o.ExactDict:=by
    rcases d with⟨j,d⟩|⟨j,d⟩
    ·obtain⟨_,_,_,_,o,_,_,e,b,_⟩:=I.hok p _ d;exact⟨o,e,b⟩
    ·obtain⟨_,_,_,_,o,_,_,e,b,_⟩:=I.hok p _ d;exact⟨o,e,b⟩
   obtain⟨o,e,b⟩:=z;refine⟨⟨o,e,b.1⟩,λa f=>?_⟩;cases f;exact⟨o,e,b.2.1⟩
  ·obtain⟨o,_,_,_,e,b,_⟩:=I.hok p _ d;refine⟨⟨o,e,b.1⟩,λa f=>?_⟩;cases f;exact⟨o,e,b.2.1⟩
  ·obtain⟨o,_,_,_,e,b⟩:=I.hok p _ d;refine⟨⟨o,e,b.ex.1⟩,λa f=>?_⟩;cases f;exact⟨o,e,b.ex.2.1⟩
 |_=>exact False.elim ty
def O8(K:Pz)(T:String)(r:V->List V->Hp->VK->Prop)(to:TE)(t:TA):TE:=λσ H Q=>to σ H λx a=>OO K T x a/\t σ a λxs b=>r x xs b Q
variable {o e:Expr}{es:List Expr}{to:TE}{t:TA}{name:Str}{apos cpos:Pos}{T id:String}{r:V->List V->Hp->VK->Prop}
theorem A6(n:PlainAttrs T)(f:Slot T name id)(g:typeOf (.builtin id)=pure (.type "method_descriptor"))(u:Ng X id r)(E:PE X o to)(D:PA X (e::es) t)
 (b:UR o name X.env (eval o X.env)=eval o X.env:=by rfl)
 (d:((R5 cpos (PP (e::es) X.env)).all (λx=> !x.1)&&(Yg cpos (VM [] X.env)).all (λx=>x.1.isSome)
   &&decide ((e::es).length+([]:List Vb).length+(if([]:List Vb).isEmpty then 0 else 1)<30))=true:=by rfl)
 (c:(apos.endLine==cpos.line)=true:=by rfl) (w:PP (e::es) X.env=(false,eval e X.env)::PP es X.env:=by rfl) (a:(R5 cpos (PP es X.env)).any (·.1)=false:=by rfl):
 PE X (.Call (.Attribute o name apos) (e::es) [] cpos) (O8 X.K T r to t):=by
 intro j s σ H Q I h;refine wpAny_Call_method_late b d c rfl (bT (E j s σ H _ I h) λv F i=>?_);obtain⟨x,p,k,l,ty,y⟩:=i;obtain⟨z,A⟩:=Ka k l ty;refine⟨T,id,n,f,g,z,A,?_⟩;have m:=D cpos j F σ p _ k y;rw[w] at m⊢;refine Calls.callWith_builtin (by show(false||(R5 cpos (PP es X.env)).any (·.1))=false;rw[a]<;>rfl) (Calls.evalArgs_plain ?_);exact bT m λus s2 ⟨vs,G,B,q,C⟩=>u j s2 σ G x vs v us Q B l q C
end
def Om(X:Cx)(id:String)(r:V->List V->Hp->VK->Prop):Prop:=
 ∀(a:List (Addr×Obj)) (s:Pn) (σ:St) (H:Hp) (x:V) (xs:List V) (v:Pk) (us:List Pk) (Q:VK),Inv X a σ H s->bt x v->bI xs us->r x xs H Q->
  PJ (model X.prog X.w) X.A (call (.builtin id) (v::us)) (EP X a σ Q) X.xe s
theorem bI.one: ∀ {x:V} {us:List Pk},bI [x] us-> ∃u,us=[u]/\bt x u
 |_,_,.cons r .nil=>⟨_,rfl,r⟩
theorem bI.eraseIdx: ∀ {xs:List V} {us:List Pk} (i:Nat),bI xs us->bI (xs.eraseIdx i) (us.eraseIdx i)
 |_,_,_,.nil=>.nil
 |_,_,0,.cons _ t=>t
 |_,_,i+1,.cons r t=>.cons r (bI.eraseIdx i t)
theorem tx {α:Type}: ∀(l:List α) (i:Nat),(l.eraseIdx i).length<=l.length
 | [],_=>Px _
 |_::_,0=>Ud _
 |_::r,i+1=>Nat.succ_le_succ (tx r i)
section
variable {X:Cx}{ah:List (Addr×Obj)}{σ:St}{H:Hp}{s:Pn}{l b:Addr}{xs ys zs:List V}
theorem Inv.lset {a its':List Pk}{t':Nat}(I:Inv X ah σ H s)(d:H l=some (.lst xs))
 (e:s.heap.get? l=some {cls:=.type "list",data:=.seq a.toArray n}) (c:f a.toArray=its'.toArray) (hv:bI ys its') (b:ys.length<=P4):
 Inv X ah σ (b9 H l (.lst ys)) {s with heap:=s.heap.update l (SB f),toks:=t'}:=by
 have q:=PySem.IsL.update e f;rw[c] at q;refine I.write (x:=l) (e:=l) (by rw[d];exact trivial) (.inl rfl) (λi u h g=>(Ss s.heap (SB f) (QA h)).trans g) ⟨_,q⟩ ?_
 exact⟨b,its',_,hv,q⟩
theorem Inv.lnew {a:List Pk}{t':Nat}(I:Inv X ah σ H s)(hv:bI ys a)(b:ys.length<=P4):
 Inv X ah σ (b9 H s.heap.objs.size (.lst ys)) {s with heap:=s.heap.push {cls:=.type "list",data:=.seq a.toArray},toks:=t'}:=
 I.laid (λ_ _ q=>Po _ q) (Px _) ⟨b,a,0,hv,PD _ rfl⟩
theorem Inv.fresh(I:Inv X ah σ H s):H s.heap.objs.size=none:=I.hok.fresh (Px _)
theorem Inv.lstM(I:Inv X ah σ H s)(b:H l=some (.lst xs)):xs.length<=P4/\ ∃(a:List Pk) (n:Nat),bI xs a/\xs.length=a.length/\s.heap.get? l=some {cls:=.type "list",data:=.seq a.toArray n}:=by
 obtain⟨z,a,n,r,e⟩:=I.hok l _ b;exact⟨z,a,n,r,r.length,e⟩
end
section
variable {X:Cx}
def Ap:V->List V->Hp->VK->Prop:=λx vs H Q=> ∃l xs y,x=.ref l/\vs=[y]/\H l=some (.lst xs)/\xs.length<P4/\Q .non (b9 H l (.lst (xs++[y])))
theorem du:Om X "list.append" Ap:=by
 intro g s σ H x vs v us Q I d f h;obtain⟨l,xs,y,rfl,rfl,b,j,q⟩:=h;cases d;obtain⟨u,rfl,c⟩:=f.one;obtain⟨z,a,n,r,i,e⟩:=I.lstM b;refine ZL RB ⟨_,e,rfl⟩ F.entry_list_append (F.args_list_append_2 _ _) (PySem.list_append l a.toArray n u (by rw[PZ];lia)) ⟨e,?_⟩;refine⟨.non,_,I.lset (its':=a++[u]) b e (by simp) (r.append (.cons c .nil)) ?_,rfl,q⟩;rw[P0,Q3];lia
def DJ:V->List V->Hp->VK->Prop:=λx vs H Q=> ∃l xs i k y,x=.ref l/\vs=[.int i]/\H l=some (.lst xs)/\ -(2^63)<=i/\i<2^63/\seqIndex? i xs.length=some k/\xs[k]? =some y/\Q y (b9 H l (.lst (xs.eraseIdx k)))
theorem Fg:Om X "list.pop" DJ:=by
 intro B s σ H x vs v us Q I f j h;obtain⟨l,xs,i,k,y,rfl,rfl,c,o,p,g,A,q⟩:=h;cases f;obtain⟨u,rfl,d⟩:=j.one;obtain⟨t,rfl⟩:=d;obtain⟨z,a,n,r,m,e⟩:=I.lstM c;obtain⟨w,hw,b⟩:=r.get A;refine ZL F.slot_list_pop ⟨_,e,rfl⟩ F.entry_list_pop (F.args_list_pop_2 _ _)
  (MeetsSeq.list_pop_at l a.toArray n i t k w (fitsIndex_both o p) (by rw[PZ,<-m];exact g) (by rw[<-Qa];exact hw) (by rw[PZ];lia)) ⟨e,?_⟩
 refine⟨y,_,I.lset (its':=a.eraseIdx k) c e ?_ (r.eraseIdx k) ?_,b,q⟩
 ·show a.toArray.eraseIdxIfInBounds k=(a.eraseIdx k).toArray;rw[List.eraseIdxIfInBounds_toArray]
 ·have:=tx xs k;lia
end
end L2
namespace Att
open PySem PySem.W PySem.Calls PyProof.Rows
theorem pR: ∀(c:List Int) (vs:List Pk),WellAll P h vs (c.map WData.int)->Xk vs c:=by
 intro c
 induction c with
 |nil=>
  intro vs w;rw[SQ] at w;cases w;exact .nil
 |cons n c d=>
  intro vs w;rw[Pu] at w;cases w with
  |cons a b=>
   cases a;exact .cons _ _ (d _ b)
theorem CO {l:jaM}{n:Nat}(hn:l.most=some n){P:Params}{h:Heap}{args:List WData}{vals:List Pk}
 (hpre:l.row.toRowW.claim.pre args=true) (hwl:WellAll P h vals args):
 ∃a vs ns,vals=[Q9 a]/\args=[WData.list (ns.map WData.int)]/\h.get? a=some {cls:=.type "list",data:=.seq vs.toArray}/\Xk vs ns/\ns.length<=n:=by
 have hsh:WShape.hasAll [] args [.list .int]=true:=(pre_splitW hpre).1;have hc:l.pre.holds [] {args:=args}=true:=(pre_splitW hpre).2;obtain⟨d,r,rfl,h1,h2⟩:=hasAllW_cons hsh;obtain rfl:=hasAllW_nil h2;obtain⟨xs,rfl,h3⟩:=hasW_list h1;obtain⟨ns,rfl⟩:=items_int h3;have hlen:ns.length<=n:=by
  unfold OpenLaw.pre at hc;have h4:(WTm.not (.lt (.lit (.int (n:Int))) (.len (.arg 0)))).holds [] {args:=[.list (ns.map .int)]}=true:=by
   have h4:=(holds_andW hc).1;rw[hn] at h4;exact h4
  have h5:=condW_of h4 (w_not (w_lt w_lit (w_len_list (w_arg rfl))));rw[Pp] at h5;refine Nat.le_of_not_lt λq=>?_
  have q':(n:Int)<((ns.length:Nat):Int):=by lia
  first
   |(rw[lm q'] at h5;exact absurd h5 (by decide))
   |(simp at h5;lia)
 cases hwl with
 |cons w1 w2=>
  cases w2;cases w1 with
  |list ho hall=>exact⟨_,_,ns,rfl,rfl,ho,pR ns _ hall,hlen⟩
theorem BQ(l:jaM)(args:List WData):l.row.toRowW.claim.post args (.bool true) args=true:=
 postW_of (r:=l.row.toRowW) (X:=(true==true))
  (show jeH [] (.bool true) .bool=true by first|rfl|decide|simp[jeH,WShape.arms,WShape.armsAll])
  (show(WTm.eq .res (.lit (.bool true))).value [] {args:=args,res:=some (.bool true),after:=args}=some (.bool (true==true)) from w_eq_bool (w_res rfl) w_lit) rfl
theorem attach_call {l:jaM}{d:DefRec}
 (M:l.most=some n) (A:d.params.defaults=[])
 (j: ∀(w:QD) (c b:Pn) (t v:Str->Option Pk) (k:Addr) (o:Obj) (z s e:Pk) (a:Addr) (vs:List Pk) (p:List Int),
   Ground q loose [] XP w c t v b.heap->YP w b.heap->
   b.heap.get? k=some o->o.data=.func (docDef d.name d.params d.body d.scope z s e)->b.heap.CodeRec s d.name->t d.name=some (.ref k)->
   b.heap.get? a=some {cls:=.type "list",data:=.seq vs.toArray}->Xk vs p->p.length<=n->b.gens= #[]->
   R9 (model l.prog w) WA (.call (.ref k) ⟨[.ref a],[]⟩) (λr s'=>r=.ok (.ret (.bool true))/\OldK b.heap s'.heap/\s'.os=b.os/\Uj s'.gens) b):
 WalkO q loose XP YP l.row.toRowW d [] (λf vs=>ZM f vs):=by
 intro w c b t v G Y k o z s e K kV R J u D y H B C as h E O x I;obtain rfl:K=.none:=Dflts.none D A;obtain rfl:kV=.none:=Dflts.noKw D;obtain⟨a,vs,p,rfl,rfl,i,g,m⟩:=CO M h x;refine enter_call (Sq (j w c b t v k o z s e a vs p G Y R (fd_plain J) u y i g m H) λr s' L=>?_);obtain⟨rfl,Q,N,F⟩:=L;exact⟨.inl ⟨.bool true,.bool true,[],rfl,λ_=>rfl,.bool true,BQ l _,λ_=>⟨Si,λ_ P=>(nomatch P)⟩⟩,Q,N,F⟩
end Att
namespace L2
open PySem PySem.Spec PyProof.Rows
theorem sS: ∀ {vs:List Pk} {a:List Int},Xk vs a->bI (a.map V.int) vs
 |_,_,.nil=>.nil
 |_,_,.cons n t h=>.cons ⟨t,rfl⟩ (sS h)
def JU(H:Hp):Prop:= ∀b,H b=none\/ ∃o xs,H b=some (.frz o (.lst xs))
theorem Dr{K:Pz}{sp:Sp}{c:Pn}{vs:List Pk}{t:List Int}
 (W:K.In c.heap) (C:c.heap.Ns QK mg) (g:c.heap.Ns XY mb) (M: ∀x:Str,x≠"__name__"->mb x=Rm x) (D:c.heap.NoLimit) (hg:c.gens= #[])
 (I:c.heap.get? a=some {cls:=.type "list",data:=.seq vs.toArray}) (Q:Xk vs t) (R:t.length<=P4) (hr:c4 k WA)
 (F: ∀base:Heap,K.In base->base.Ns QK mg->gt P w K mg base CX k fa fd [x] sp) (l: ∀(s:Pn) (u:Pk),Yd s fd ⟨[u],[]⟩ [(x,u)])
 (N: ∀H:Hp,JU H->SqL K H a (t.map V.int)->sp [.ref a] H (λv _=>v=.bl true) λ_ _ _=>False)
 (O: ∀H e s',CX [] H c (λ_ _ _=>False) e s'->False):
 R9 (model P w) WA (.call (.ref fa) ⟨[.ref a],[]⟩) (λr s'=>r=.ok (.ret (.bool true))/\OldK c.heap s'.heap/\s'.os=c.os/\Uj s'.gens) c:=by
 have X:=sS Q;have A:=Q.length;have j: ∀H:Hp,JU H->SqL K H a (t.map V.int)->HOk P w H c.heap->(∀b,H b≠none->b=a)->(H a≠none->K.lookup a=none)->
  R9 (model P w) WA (.call (.ref fa) ⟨[.ref a],[]⟩) (λr s'=>r=.ok (.ret (.bool true))/\OldK c.heap s'.heap/\s'.os=c.os/\Uj s'.gens) c:=by
  intro H U hS B S hK;have f: ∀ {b:Addr} {o:Obj},c.heap.get? b=some o->H b=none->(vS c.heap H).get? b=some o:=λe n=>F0 e n
  have L: ∀ {b:Addr} {o:Obj} {es:Array DictEntry} {ep:Nat},c.heap.get? b=some o->o.data=.dict es ep->H b=none:=λ{b o es ep} e d=>by
   cases q:H b with
   |none=>rfl
   |some u=>
    have J:b=a:=S b (by rw[q];simp);subst J;rw[I] at e;cases e;have d':jcL vs.toArray _=Data.dict es ep:=d;cases d'
  have i: ∀ {b:Addr} {m:Str->Option Pk},c.heap.Ns b m->(vS c.heap H).Ns b m:=λ{b m} ⟨o,es,ep,e,d,r⟩=>⟨o,es,ep,f e (L e d),d,r⟩
  have E:K.In (vS c.heap H):=λb o e=>f (W b o e) (by
   cases q:H b with
   |none=>rfl
   |some u=>
    have J:b=a:=S b (by rw[q];simp)
    subst J;rw[hK (by rw[q];simp)] at e;cases e)
  have Z:Mod K mg (vS c.heap H):=⟨E,i C,⟨mb,i g,M⟩,let⟨mc,h1,h2⟩:=D;⟨mc,i h1,h2⟩⟩
  have e0:j4 P w K mg (vS c.heap H) WA [] c H:=⟨rfl,Z,λb o e=>Ip e,Vc (BE _ _),trivial,λb g=>absurd (show b∈([]:List Addr) from g) (by simp),B,.of_eq hg⟩
  refine Sq ((F _ E (i C)).run WA [] c H ⟨[.ref a],[]⟩ [.ref a] [.ref a] _ _ hr e0 (l c (.ref a)) (.cons rfl .nil) (N H U hS)) λr s' h=>?_
  cases r with
  |error e=>exact(O H e s' h).elim
  |ok fl=>
   cases fl with
   |next=>exact False.elim h
   |brk=>exact False.elim h
   |cont=>exact False.elim h
   |ret u=>
    obtain⟨v,H',os,G,Y,y,r',q⟩:=h;have q':v=.bl true:=q;subst q';obtain rfl:u=jeu true:=r';refine⟨rfl,OldK.of_keep λb o e=>?_,os,G⟩;cases q:H b with
    |none=>exact Y.keep b o e q (by intro z;exact absurd (show b∈([]:List Addr) from z) (by simp)) (by simp)
    |some u=>
     rcases U b with z|⟨ob,xs,z⟩
     ·rw[q] at z;cases z
     ·have z2:=Y.frzs b ob _ z;obtain⟨T,_⟩:=B b _ z;obtain⟨e2,_⟩:=y b _ z2;rw[e] at T;cases T;exact e2
 cases hk:K.lookup a with
 |some o=>
  have e:=W a o hk;rw[I] at e;cases e;refine j (λ_=>none) (λ_=>.inl rfl) (.inr ⟨_,vs.toArray,_,hk,rfl,rfl,rfl,by rw[PZ,A];exact R,by simpa using X⟩) (λb u z=>by have p:(none:Option HO)=some u:=z;cases p) (λb z=>absurd rfl z) λz=>absurd rfl z
 |none=>
  refine j (λb=>if b=a then some (.frz {cls:=.type "list",data:=.seq vs.toArray} (.lst (t.map V.int))) else none) (λb=>?_) (.inl (.inr ⟨{cls:=.type "list",data:=.seq vs.toArray},if_pos rfl⟩)) (λb u z=>?_) (λb z=>?_) λ_=>hk
  ·by_cases g:b=a
   ·exact .inr ⟨_,_,if_pos g⟩
   ·exact .inl (if_neg g)
  ·by_cases g:b=a
   ·have p:=(if_pos g).symm.trans z;cases p;subst g;exact⟨I,by rw[Pp];exact R,vs,_,X,I⟩
   ·have p:=(if_neg g).symm.trans z;cases p
  ·by_cases g:b=a
   ·exact g
   ·exact absurd (if_neg g) z
theorem walk_of {l:jaM}{n k:Nat}{d:DefRec}{K:Params->Pz}{CX:QD->DV}{sp:QD->Sp}{x:Str}
 (Q:l.most=some n) (y:n<=P4) (C:d.params.defaults=[]) (U:c4 k WA)
 (M: ∀(w:QD) (h:Heap),YP w h->(K w.params).In h)
 (F: ∀(w:QD) (j:Str->Option Pk) (t:Addr) (h:Heap),(K w.params).In h->h.Ns QK j->j d.name=some (.ref t)->
   ∃A:SA,(∀(s:Pn) (u:Pk),Yd s A ⟨[u],[]⟩ [(x,u)])/\
    ∀base:Heap,(K w.params).In base->base.Ns QK j->gt l.prog w (K w.params) j base (CX w) k t A [x] (sp w))
 (B: ∀(w:QD) (H:Hp) (a:Addr) (r:List Int),r.length<=n->JU H->SqL (K w.params) H a (r.map V.int)->sp w [.ref a] H (λv _=>v=.bl true) λ_ _ _=>False)
 (D: ∀(w:QD) (H:Hp) (s:Pn) (e:Pk) (s':Pn),CX w [] H s (λ_ _ _=>False) e s'->False):
 W.WalkO q loose XP YP l.row.toRowW d [] (λf vs=>ZM f vs):=by
 refine Att.attach_call Q C λw E m j Z t o pm cd N a vs r G Y ho X J z p i c L=>?_
 have I:=M w _ Y;obtain⟨A,O,R⟩:=F w j t _ I G.T.g z;exact Dr I G.T.g G.T.b G.T.builtins G.T.nolimit L p i (Qh c y) U R O (λH S P=>B w H a r c S P) λH e s'=>D w H m e s'
def iB(s:Stmt):Arguments:=match s with
 | .FunctionDef _ a _ _ _ _ _ _ _ _=>a
 |_=>{posonlyargs:=[],args:=[],vararg:=none,kwonlyargs:=[],kw_defaults:=[],kwarg:=none,defaults:=[]}
def dA(s:Stmt):List Stmt:=match s with
 | .FunctionDef _ _ b _ _ _ _ _ _ _=>b
 |_=>[]
def aw(s:Stmt):Scope:=match s with
 | .FunctionDef _ _ _ _ _ _ a _ _ _=>a
 |_=>{kind:=.function,names:=[],isGenerator:=false,isCoroutine:=false}
abbrev v0:DV:=λ_ _ _ _ _ _=>False
abbrev E0:XK:=λ_ _ _=>False
theorem IB {X:Cx}:yy v0 X E0:=λ_ _ _ _ _ _ _ h=>h.elim
structure Fun(K:Pz)(x qual:Str)(st:Stmt)(f:Addr)(fd:SA):Prop where
 ex: ∃(oc:Pk) (od:Option Addr) (kV doc pm:Pk) (an:Option Addr) (cdv ct:Pk) (osl:Array (Option Pk)),
  fd=Wy x qual (iB st) (dA st) (aw st) .none kV doc pm an cdv ct/\K.lookup f=some ⟨oc,od,.func fd,osl⟩/\Ye K cdv qual=true
 kp:Vs K (.ref f)=true
section
variable {P:Qp}{w:QD}{K:Pz}{mg:Str->Option Pk}{base:Heap}
theorem Fun.ok{st:Stmt}{N i:List Str}{sp:Sp}(F:Fun K x qual st f fd)(S:bo N i (aw st))(g: ∀vs H Q E,sp vs H Q E->vs.length=i.length)
 (c: ∀(b:Pk) (A:Qq) (a:List Env) (s:Pn) (H:Hp) (vs:List V) (Q:VK) (E:XK),c4 k (A.deeper (UZ qual (aw st) s.heap.objs.size f b))->sp vs H Q E->
   ∃t,PSs (sL v0 P w K mg base N qual (aw st) f b A a s H E).nox (dA st) t/\t {nx:=λ_ j=>Q .non j,rt:=Q} (start N vs) H):gt P w K mg base v0 (k+1) f fd i sp:=by
 obtain⟨v,u,kV,n,p,r,b,ct,o,rfl,m,d⟩:=F.ex;refine Lq m d S g λA a s H vs Q E l e=>?_
 obtain⟨t,h,q⟩:=c b A a s H vs Q E l e;exact⟨t,h.nox,q⟩
theorem Fun.binds{st:Stmt}{e:List Str}(F:Fun K x qual st f fd)
 (h: ∀(kV a c:Pk) (d:Option Addr) (b ct:Pk) (us:List Pk),us.length=e.length->bindArgs (Wy x qual (iB st) (dA st) (aw st) .none kV a c d b ct) ⟨us,[]⟩=pure (e.zip us)):h7 K fd e []:=by
 obtain⟨k,j,kV,a,c,d,b,ct,i,rfl,l,g⟩:=F.ex;exact .all (h kV a c d b ct)
theorem y6{st:Stmt}{i:Pk}{h g:Option Addr}{d:Array (Option Pk)}{kV b e a ct:Pk}(l:K.lookup f=some ⟨i,h,.func (Wy x qual (iB st) (dA st) (aw st) .none kV b e g a ct),d⟩)
 (c:Ye K a qual=true) (k:Vs K (.ref f)=true):Fun K x qual st f (Wy x qual (iB st) (dA st) (aw st) .none kV b e g a ct):=⟨⟨i,h,kV,b,e,g,a,ct,d,rfl,l,c⟩,k⟩
end
theorem CZ {A:Qq}(a:c4 k A):A.units+1<cLine:=RH (Xo (by decide:1<=64) _) a.units
theorem lh {n:Nat}(h:n<=1000):n<sizeLine:=RH h (by decide)
section
variable {X:Cx}
theorem pv(i:Nat)(c:X.N[i]? =some x:=by rfl)(hv:wK X.env.scope x:=by first|exact RA rfl|exact Q1 (RA rfl)|exact Q1 (Q1 rfl))(b:(x==("__debug__":Str))=false:=by decide)
 (a:(x==("__classdict__":Str))=false:=by decide):PE X (.Name x pos) (My i):=KF c hv b a
end
theorem zj {A B:Prop}(h:B):if false=true then A else B:=by
 rw[if_neg Tg];exact h
theorem yD {A B:Prop}(h:A):if true=true then A else B:=by
 rw[if_pos rfl];exact h
def a6(H a:Hp):Prop:= ∀b o,H b=some o->a b=some o
theorem a6.refl(H:Hp):a6 H H:=λ_ _ h=>h
theorem a6.trans(a:a6 H H1)(b:a6 H1 H2):a6 H H2:=λc o h=>b c o (a c o h)
theorem a6.free(e:a6 H H')(h:H' l=jcM):H l=Option.none:=by
 cases q:H l with
 |none=>rfl
 |some o=>
  rw[e l o q] at h;cases h
theorem a6.seq {K:Pz}(e:a6 H H')(h:SqL K H a xs):SqL K H' a xs:=by
 rcases h with(h|⟨o,h⟩)|h
 ·exact .inl (.inl (e _ _ h))
 ·exact .inl (.inr ⟨o,e _ _ h⟩)
 ·exact .inr h
inductive D where
 |non|bl (b:Bool)|int (i:Int)|str (x:Str)|tup (ds:List D)|lst (ds:List D)
 |scr (ds:List D)
def SqR(K:Pz)(H:Hp)(a:Addr)(xs:List V):Prop:=
 (∃o,H a=some (.frz o (.lst xs)))\/
   ∃(o:Obj) (b:Array Pk) (n:Nat),K.lookup a=some o/\o.cls=.type "list"/\o.dict=none/\o.data=.seq b n/\b.size<=P4/\bI xs b.toList
theorem SqR.seq {K:Pz}(h:SqR K H a xs):SqL K H a xs:=h.elim (λh=>.inl (.inr h)) .inr
theorem a6.seqR {K:Pz}(e:a6 H H')(h:SqR K H a xs):SqR K H' a xs:=h.elim (λ⟨o,h⟩=>.inl ⟨o,e _ _ h⟩) .inr
mutual
inductive Rep (K:Pz) (F:Hp):V->D->Prop
 |non:Rep K F .non .non
 |bl {b:Bool}:Rep K F (.bl b) (.bl b)
 |int {i:Int}:Rep K F (.int i) (.int i)
 |str {x:Str}:Rep K F (.str x) (.str x)
 |tup {a:Addr} {xs:List V} {ds:List D}:SqT K F a xs->Reps K F xs ds->Rep K F (.ref a) (.tup ds)
 |lst {a:Addr} {xs:List V} {ds:List D}:F a=some (.lst xs)->Reps K F xs ds->Rep K F (.ref a) (.lst ds)
 |scr {a:Addr} {xs:List V} {ds:List D}:SqR K F a xs->Reps K F xs ds->Rep K F (.ref a) (.scr ds)
inductive Reps (K:Pz) (F:Hp):List V->List D->Prop
 |nil:Reps K F [] []
 |cons {x:V} {d:D} {xs:List V} {ds:List D}:Rep K F x d->Reps K F xs ds->Reps K F (x::xs) (d::ds)
end
theorem a6.seqT {K:Pz}(e:a6 H H')(h:SqT K H a xs):SqT K H' a xs:=by
 rcases h with(h|⟨o,h⟩)|h
 ·exact .inl (.inl (e _ _ h))
 ·exact .inl (.inr ⟨o,e _ _ h⟩)
 ·exact .inr h
mutual
theorem Rep.mono {K:Pz}(s:a6 F G): ∀ {v:V} {d:D},Rep K F v d->Rep K G v d
 |_,_,.non=>.non
 |_,_,.bl=>.bl
 |_,_,.int=>.int
 |_,_,.str=>.str
 |_,_,.tup h r=>.tup (a6.seqT s h) (Reps.mono s r)
 |_,_,.lst h r=>.lst (s _ _ h) (Reps.mono s r)
 |_,_,.scr h r=>.scr (a6.seqR s h) (Reps.mono s r)
theorem Reps.mono {K:Pz}(s:a6 F G): ∀ {v:List V} {d:List D},Reps K F v d->Reps K G v d
 |_,_,.nil=>.nil
 |_,_,.cons r t=>.cons (Rep.mono s r) (Reps.mono s t)
end
section
variable {K:Pz}{F G H:Hp}
theorem Reps.length: ∀ {xs:List V} {ds:List D},Reps K F xs ds->xs.length=ds.length
 |_,_,.nil=>rfl
 |_,_,.cons _ t=>by simp[t.length]
theorem Reps.get: ∀ {xs:List V} {ds:List D} {i:Nat} {d:D},Reps K F xs ds->ds[i]? =some d-> ∃x,xs[i]? =some x/\Rep K F x d
 |_,_,_,_,.nil,e=>by simp at e
 |_,_,0,_,.cons r _,e=>by simp at e;subst e;exact⟨_,rfl,r⟩
 |_,_,i+1,d,.cons _ t,e=>by
  obtain⟨u,a,b⟩:=Reps.get (i:=i) (d:=d) t (by simpa using e);exact⟨u,by simpa using a,b⟩
theorem Reps.get'{i:Nat}(r:Reps K F xs ds)(e:xs[i]? =some x): ∃d,ds[i]? =some d/\Rep K F x d:=by
 have g:=r.length;have f:=(PL.mp e).1;have b:ds[i]? =some ds[i]:=Pq (by lia);obtain⟨y,a,c⟩:=r.get b;rw[e] at a;cases a;exact⟨_,b,c⟩
theorem Reps.append: ∀ {xs ys:List V} {us a:List D},Reps K F xs us->Reps K F ys a->Reps K F (xs++ys) (us++a)
 |_,_,_,_,.nil,s=>s
 |_,_,_,_,.cons r t,s=>.cons r (Reps.append t s)
theorem Reps.set(r:Rep K F x u): ∀ {xs:List V} {us:List D} (i:Nat),Reps K F xs us->Reps K F (xs.set i x) (us.set i u)
 |_,_,_,.nil=>.nil
 |_,_,0,.cons _ t=>.cons r t
 |_,_,i+1,.cons q t=>.cons q (Reps.set r i t)
theorem Reps.eraseIdx: ∀ {xs:List V} {us:List D} (i:Nat),Reps K F xs us->Reps K F (xs.eraseIdx i) (us.eraseIdx i)
 |_,_,_,.nil=>.nil
 |_,_,0,.cons _ t=>t
 |_,_,i+1,.cons q t=>.cons q (Reps.eraseIdx i t)
theorem Reps.reverse {xs:List V}{us:List D}(h:Reps K F xs us):Reps K F xs.reverse us.reverse:=by
 induction xs generalizing us with
 |nil=>cases h;exact .nil
 |cons x xs a=>
  cases h with
  |cons r t=>simp only[VN];exact(a t).append (.cons r .nil)
theorem Reps.take: ∀ {xs:List V} {us:List D} (n:Nat),Reps K F xs us->Reps K F (xs.take n) (us.take n)
 |_,_,0,_=>.nil
 |_,_,_+1,.nil=>.nil
 |_,_,n+1,.cons r t=>.cons r (Reps.take n t)
theorem Reps.drop: ∀ {xs:List V} {us:List D} (n:Nat),Reps K F xs us->Reps K F (xs.drop n) (us.drop n)
 |_,_,0,r=>r
 |_,_,_+1,.nil=>.nil
 |_,_,n+1,.cons _ t=>Reps.drop n t
end
abbrev bN:=Addr->Bool
def vw(H:Hp)(hid:bN):Hp:=λb=>if hid b=true then none else H b
def bn(hid:bN)(a:Addr):bN:=λb=>hid b||decide (b=a)
def xr(hid:bN)(a:Addr):bN:=λb=>hid b&& !decide (b=a)
theorem bQ:vw H hid b=some o↔hid b=false/\H b=some o:=by
 unfold vw;cases hb:hid b<;>simp
theorem dD(H:Hp)(hid:bN):a6 (vw H hid) H:=λb o h=>(bQ.mp h).2
theorem aW{hid:bN}(s:a6 H H'):a6 (vw H hid) (vw H' hid):=λb o h=>bQ.mpr ⟨(bQ.mp h).1,s _ _ (bQ.mp h).2⟩
theorem Aw(s: ∀b o,H b=some o->hid b=false->H' b=some o):a6 (vw H hid) (vw H' hid):=λb o h=>bQ.mpr ⟨(bQ.mp h).1,s _ _ (bQ.mp h).2 (bQ.mp h).1⟩
theorem fZ(h:hid a=true):vw (b9 H a o) hid=vw H hid:=by
 funext b;unfold vw b9
 by_cases e:b=a
 ·subst e;simp[h]
 ·simp[e]
theorem iz(h: ∀b,hid' b=true->hid b=true):a6 (vw H hid) (vw H hid'):=λb o q=>by
 obtain⟨a,c⟩:=bQ.mp q;refine bQ.mpr ⟨?_,c⟩;cases e:hid' b with
 |false=>rfl
 |true=>rw[h b e] at a;cases a
theorem vt(h:H a=none):vw (b9 H a o) (bn hid a)=vw H hid:=by
 funext b;unfold vw b9 bn
 by_cases e:b=a
 ·subst e;cases hb:hid b<;>simp[h]
 ·simp[e]
inductive NO where
 |l (ds:List D)
 |k (kvs:List (lJ×D))
inductive Ob where
 |nst (us:List NO)
 |dR (kvs:List (lJ×D))
 |dRs (l:List (List (lJ×D)))
 |exc (x:Str) (n:Int)
 |dK (kvs:List (lJ×D))
 |dT (kvs:List (List lJ×D))
 |set (ds:List D)
 |old (d:D)
 |jnk
 |tset (ks:List (List Int))
 |dF (kvs:List (List lJ×D))
 |dQ (kvs:List (List lJ×D))
 |frs (d:D)
inductive Sl where
 |no
 |v (d:D)
 |own (ds:List D)
 |arg (ds:List D)
 |ob (b:Ob)
abbrev aG:=List Sl
structure Ct where
 H₀:Hp
 hid₀:bN
 mu:Addr->Bool
def MB(K:Pz)(x:Str)(n:Int)(a:Addr)(h:Heap):Prop:= ∃C o,UI K QK x=some (some (.ref C))/\h.get? a=some o/\o.cls=.ref C/\o.dict=none/\W.notCls o=true
def yg:Option HO->Bool
 |some (.lst _)=>true
 |_=>false
def fv(c:Ct)(F:Hp):Hp:=λb=>if(c.H₀ b).isSome=true/\yg (F b)=true then none else F b
def ov(c:Ct)(F:Hp):Hp:=λb=>if(c.H₀ b).isSome=true then F b else none
theorem i3 {c:Ct}:fv c F b=some o↔(yg (some o)=true->c.H₀ b=none)/\F b=some o:=by
 unfold fv;constructor
 ·intro h;split at h
  ·cases h
  ·rename_i f
   refine⟨λq=>?_,h⟩;rw[h] at f;cases hb:c.H₀ b with
   |none=>rfl
   |some u=>exact absurd ⟨by rw[hb];rfl,q⟩ f
 ·rintro⟨g,a⟩;rw[if_neg,a];rintro⟨e,d⟩;rw[a] at d;rw[g d] at e;cases e
theorem i4 {c:Ct}:ov c F b=some o↔(∃u,c.H₀ b=some u)/\F b=some o:=by
 unfold ov;cases hb:c.H₀ b<;>simp
theorem A0(s:a6 F G):a6 (fv c F) (fv c G):=λb o h=>i3.mpr ⟨(i3.mp h).1,s _ _ (i3.mp h).2⟩
theorem GT(s:a6 F G):a6 (ov c F) (ov c G):=λb o h=>i4.mpr ⟨(i4.mp h).1,s _ _ (i4.mp h).2⟩
def NOk(K:Pz)(c:Ct)(hid:bN)(H:Hp)(p a:Addr):NO->Prop
 | .l ds=>(hid a=true/\c.H₀ a=none)/\ ∃xs:List V,H a=some (.nst p (.lst xs))/\Reps K (vw H hid) xs ds
 | .k b=>(hid a=true/\c.H₀ a=none)/\ ∃us:List (lJ×V),H a=some (.nst p (.dK us))/\us.map (·.1)=b.map (·.1)/\Reps K (vw H hid) (us.map (·.2)) (b.map (·.2))
theorem NOk.mono {K:Pz}{hid d:bN}(h:NOk K c hid H p a b)(k: ∀u,H a=some (.nst p u)->H' a=some (.nst p u))(s:a6 (vw H hid) (vw H' d))(w:(∃u,H a=some (.nst p u))->d a=true):NOk K c d H' p a b:=by
 cases b with
 |l ds=>obtain⟨f,us,e,g⟩:=h;exact⟨⟨w ⟨_,e⟩,f.2⟩,us,k _ e,g.mono s⟩
 |k j=>obtain⟨f,us,e,g,i⟩:=h;exact⟨⟨w ⟨_,e⟩,f.2⟩,us,k _ e,g,i.mono s⟩
def DRd(K:Pz)(W:Hp)(a:Addr)(b:List (lJ×D)):Prop:= ∃o us,W a=some (.frz o (.dK us))/\us.map (·.1)=b.map (·.1)/\Reps K W (us.map (·.2)) (b.map (·.2))
theorem DRd.mono {K:Pz}(h:DRd K W a kvs)(s:a6 W W'):DRd K W' a kvs:=by
 obtain⟨o,us,b,c,d⟩:=h;exact⟨o,us,s _ _ b,c,d.mono s⟩
def DQd(K:Pz)(W:Hp)(a:Addr)(b:List (List lJ×D)):Prop:= ∃o us,W a=some (.frz o (.dT us))/\us.map (·.1)=b.map (·.1)/\Reps K W (us.map (·.2)) (b.map (·.2))
theorem DQd.mono {K:Pz}(h:DQd K W a kvs)(s:a6 W W'):DQd K W' a kvs:=by
 obtain⟨o,us,b,c,d⟩:=h;exact⟨o,us,s _ _ b,c,d.mono s⟩
def iv(K:Pz)(c:Ct)(hid:bN)(H:Hp)(a:Addr):Ob->Prop
 | .nst us=>(hid a=true/\c.H₀ a=none)/\ ∃bs:List Addr,H a=some (.lst (bs.map V.ref))/\bs.Nodup/\Paired (NOk K c hid H a) bs us
 | .dR b=>DRd K (vw H hid) a b
 | .dQ b=>DQd K (vw H hid) a b
 | .frs d=>Rep K (fv c (vw H hid)) (.ref a) d
 | .dRs l=> ∃bs:List Addr,vw H hid a=some (.lst (bs.map V.ref))/\Paired (DRd K (vw H hid)) bs l
 | .exc x n=> ∃φ,vw H hid a=some (.ext φ)/\ ∀h,φ h->MB K x n a h
 | .dK b=>(hid a=true/\c.H₀ a=none)/\ ∃us:List (lJ×V),H a=some (.dK us)/\us.map (·.1)=b.map (·.1)/\Reps K (vw H hid) (us.map (·.2)) (b.map (·.2))
 | .dT b=>(hid a=true/\c.H₀ a=none)/\ ∃us:List (List lJ×V),H a=some (.dT us)/\us.map (·.1)=b.map (·.1)/\Reps K (vw H hid) (us.map (·.2)) (b.map (·.2))
 | .set ds=>(hid a=true/\c.H₀ a=none)/\ ∃xs:List V,H a=some (.lst xs)/\Reps K (fv c (vw H hid)) xs ds
 | .old d=>Rep K (ov c (vw H hid)) (.ref a) d
 | .jnk=>(hid a=true/\c.H₀ a=none)/\ ∃xs:List V,H a=some (.lst xs)
 | .tset ks=>(hid a=true/\c.H₀ a=none)/\ ∃xs:List (List Int×Addr),H a=some (.tst xs)/\(xs.map (·.1)).Perm ks/\Reps K (vw H hid) (xs.map λx=>V.ref x.2) (xs.map λx=>D.tup (x.1.map D.int))
 | .dF b=>(hid a=true/\c.H₀ a=none)/\ ∃(o:Obj) (us:List (List lJ×V)),H a=some (.frz o (.dT us))/\us.map (·.1)=b.map (·.1)/\Reps K (vw H hid) (us.map (·.2)) (b.map (·.2))
def uc:Ob->Prop
 | .exc _ _=>False
 | .old _=>False
 | .dR _=>False
 | .dRs _=>False
 | .dQ _=>False
 | .frs _=>False
 |_=>True
def At(H:Hp)(a x:Addr):Prop:=x=a\/ ∃u,H x=some (.nst a u)
theorem At.ne(c:At H a' x)(ne:a'≠a)(d:H a=some o)(f: ∀p u,o≠ .nst p u:=by intro _ _ e;cases e):x≠a:=λe=>by
 subst e;rcases c with rfl|⟨u,b⟩
 ·exact ne rfl
 ·rw[d] at b;cases b;exact f _ _ rfl
theorem iv.mono {K:Pz}{hid g:bN}(h:iv K c hid H a b)(k:uc b-> ∀x,At H a x-> ∀o,H x=some o->H' x=some o)(s:a6 (vw H hid) (vw H' g))(w:uc b-> ∀x,At H a x->hid x=true->g x=true):iv K c g H' a b:=by
 have r:uc b-> ∀o,H a=some o->H' a=some o:=λo=>k o a (.inl rfl)
 have p:uc b->hid a=true->g a=true:=λo=>w o a (.inl rfl)
 cases b with
 |nst us=>
  obtain⟨e,bs,f,i,m⟩:=h;refine⟨⟨p trivial e.1,e.2⟩,bs,r trivial _ f,i,Paired.mapP m λx y z=>z.mono (λu q=>k trivial x (.inr ⟨u,q⟩) _ q) s λq=>w trivial x (.inr q) ?_⟩;cases y with
  |l ds=>exact z.1.1
  |k j=>exact z.1.1
 |dR j=>exact DRd.mono h s
 |dQ j=>exact DQd.mono h s
 |frs d=>exact Rep.mono (A0 s) h
 |dRs l=>obtain⟨bs,e,f⟩:=h;exact⟨bs,s _ _ e,Paired.mapP f λ_ _ z=>z.mono s⟩
 |exc x n=>obtain⟨φ,e,f⟩:=h;exact⟨φ,s _ _ e,f⟩
 |dK j=>obtain⟨e,us,f,i,m⟩:=h;exact⟨⟨p trivial e.1,e.2⟩,us,r trivial _ f,i,m.mono s⟩
 |dT j=>obtain⟨e,us,f,i,m⟩:=h;exact⟨⟨p trivial e.1,e.2⟩,us,r trivial _ f,i,m.mono s⟩
 |set ds=>obtain⟨e,us,f,i⟩:=h;exact⟨⟨p trivial e.1,e.2⟩,us,r trivial _ f,i.mono (A0 s)⟩
 |old d=>exact Rep.mono (GT s) h
 |jnk=>obtain⟨e,us,f⟩:=h;exact⟨⟨p trivial e.1,e.2⟩,us,r trivial _ f⟩
 |tset ks=>obtain⟨e,us,f,i,m⟩:=h;exact⟨⟨p trivial e.1,e.2⟩,us,r trivial _ f,i,m.mono s⟩
 |dF j=>obtain⟨e,o,us,f,i,m⟩:=h;exact⟨⟨p trivial e.1,e.2⟩,o,us,r trivial _ f,i,m.mono s⟩
theorem iv.hid {K:Pz}{c:Ct}{hid:bN}{H:Hp}{a:Addr}{b:Ob}(h:iv K c hid H a b)(o:uc b):hid a=true:=by
 cases b with
 |nst us=>exact h.1.1
 |dQ kvs=>exact o.elim
 |frs d=>exact o.elim
 |dR kvs=>exact o.elim
 |dRs l=>exact o.elim
 |exc x n=>exact o.elim
 |dK kvs=>exact h.1.1
 |dT kvs=>exact h.1.1
 |set ds=>exact h.1.1
 |old d=>exact o.elim
 |jnk=>exact h.1.1
 |tset ks=>exact h.1.1
 |dF kvs=>exact h.1.1
def j1(K:Pz)(c:Ct)(hid:bN)(σ:St)(H:Hp)(i:Nat):Sl->Prop
 | .no=>True
 | .v d=> ∃x,σ[i]? =some (some x)/\Rep K (vw H hid) x d
 | .own ds=> ∃a xs,σ[i]? =some (some (.ref a))/\H a=some (.lst xs)/\hid a=true/\c.H₀ a=none/\Reps K (vw H hid) xs ds
 | .arg ds=> ∃a xs,σ[i]? =some (some (.ref a))/\H a=some (.lst xs)/\hid a=true/\c.mu a=true/\Reps K (vw H hid) xs ds
 | .ob b=> ∃a,σ[i]? =some (some (.ref a))/\iv K c hid H a b
def Ow:Option Sl->Prop
 |some (.own _)=>True
 |some (.arg _)=>True
 |some (.ob b)=>uc b
 |_=>False
structure SR(K:Pz)(c:Ct)(hid:bN)(ρ:aG)(σ:St)(H:Hp):Prop where
 tr: ∀b,hid b=true-> ∃o,H b=some o
 ht: ∀b xs,hid b=true->H b≠some (.tup xs)
 h0: ∀b,c.hid₀ b=true->hid b=true
 kp: ∀b o,c.H₀ b=some o->c.mu b=false->H b=some o
 t0: ∀b o,c.H₀ b=some o-> ∃o',H b=some o'
 c0: ∀b,c.hid₀ b=true-> ∃o,c.H₀ b=some o
 m0: ∀b,c.mu b=true->c.hid₀ b=true
 len:σ.length=ρ.length
 sl: ∀(i:Nat) (s:Sl),ρ[i]? =some s->j1 K c hid σ H i s
 ap: ∀(i j:Nat) (a:Addr),i≠j->Ow ρ[i]? ->Ow ρ[j]? ->σ[i]? =some (some (.ref a))->σ[j]? =some (some (.ref a))->False
section
variable {K:Pz}{c:Ct}{hid:bN}{ρ:aG}{σ:St}{H H':Hp}{i:Nat}
theorem j1.ext(h:j1 K c hid σ H i s)(e:a6 H H'):j1 K c hid σ H' i s:=by
 cases s with
 |no=>trivial
 |v d=>obtain⟨x,f,g⟩:=h;exact⟨x,f,g.mono (aW e)⟩
 |own ds=>obtain⟨a,xs,f,g,k,j,l⟩:=h;exact⟨a,xs,f,e _ _ g,k,j,l.mono (aW e)⟩
 |arg ds=>obtain⟨a,xs,f,g,k,j,l⟩:=h;exact⟨a,xs,f,e _ _ g,k,j,l.mono (aW e)⟩
 |ob b=>obtain⟨a,f,g⟩:=h;exact⟨a,f,g.mono (λ_ x _=>e x) (aW e) λ_ _ _ q=>q⟩
theorem SR.ext(h:SR K c hid ρ σ H)(e:a6 H H'):SR K c hid ρ σ H' where
 tr:=λb a=>let⟨o,q⟩:=h.tr b a;⟨o,e _ _ q⟩
 ht:=λb xs a q=>let⟨o,w⟩:=h.tr b a;by have z:=e _ _ w;rw[q] at z;cases z;exact h.ht b xs a w
 h0:=h.h0
 kp:=λb o q m=>e _ _ (h.kp b o q m)
 t0:=λb o q=>let⟨o',q'⟩:=h.t0 b o q;⟨o',e _ _ q'⟩
 c0:=h.c0
 m0:=h.m0
 len:=h.len
 sl:=λi s q=>(h.sl i s q).ext e
 ap:=h.ap
def Li(hid:bN)(H:Hp):Prop:=(∀b,hid b=true-> ∃o,H b=some o)/\ ∀b xs,hid b=true->H b≠some (.tup xs)
theorem SR.trk(h:SR K c hid ρ σ H):Li hid H:=⟨h.tr,h.ht⟩
theorem SR.fresh(h:SR K c hid ρ σ H){a:Addr}(n:H a=none):hid a=false:=by
 cases e:hid a with
 |false=>rfl
 |true=>obtain⟨o,q⟩:=h.tr a e;rw[n] at q;cases q
theorem SR.fresh0(h:SR K c hid ρ σ H)(n:H a=none):c.H₀ a=none:=by
 cases e:c.H₀ a with
 |none=>rfl
 |some o=>obtain⟨b,q⟩:=h.t0 a o e;rw[n] at q;cases q
end
inductive Kd where
 |b|s|n
 deriving DecidableEq
def cs(K:Pz)(H W:Hp)(v:V)(d:D):Prop:=Rep K W v d\/ ∃a xs ds,v=.ref a/\d=.lst ds/\H a=some (.lst xs)/\Reps K W xs ds
def RN(K:Pz)(H b:Hp)(hid:bN)(v:V)(d:D):Prop:= ∃a xs ds,d=.lst ds/\v=.ref a/\H a=none/\b a=some (.lst xs)/\Reps K (vw b (bn hid a)) xs ds
def RK(K:Pz)(k:Kd)(H a:Hp)(hid:bN)(v:V)(d:D):Prop:=match k with
 | .b=>cs K a (vw a hid) v d
 | .s=>Rep K (vw a hid) v d
 | .n=>RN K H a hid v d
section
variable {K:Pz}{c:Ct}{hid:bN}{ρ:aG}{σ:St}{H H' H'':Hp}{i:Nat}{v:V}{d:D}
theorem RN.rep(h:RN K H H' hid v d)(f: ∀a,H a=none->hid a=false):Rep K (vw H' hid) v d:=by
 obtain⟨a,xs,ds,rfl,rfl,c,e,g⟩:=h;refine .lst (bQ.mpr ⟨f a c,e⟩) (g.mono (iz λb q=>?_));unfold bn;rw[q];rfl
theorem RK.b(k:Kd)(h:RK K k H H' hid v d)(c: ∀a,H a=none->hid a=false):cs K H' (vw H' hid) v d:=by
 cases k with
 |b=>exact h
 |s=>exact .inl h
 |n=>exact .inl (RN.rep h c)
theorem cs.ext {hid:bN}(h:cs K H (vw H hid) v d)(e:a6 H H'):cs K H' (vw H' hid) v d:=by
 rcases h with h|⟨a,xs,ds,b,c,g,f⟩
 ·exact .inl (h.mono (aW e))
 ·exact .inr ⟨a,xs,ds,b,c,e _ _ g,f.mono (aW e)⟩
theorem cs.int {i:Int}(h:cs K H (vw H hid) v (.int i)):v=.int i:=by
 rcases h with h|⟨a,xs,ds,c,b,_⟩
 ·cases h;rfl
 ·cases b
theorem cs.bl {i:Bool}(h:cs K H (vw H hid) v (.bl i)):v=.bl i:=by
 rcases h with h|⟨a,xs,ds,c,b,_⟩
 ·cases h;rfl
 ·cases b
theorem cs.str {i:Str}(h:cs K H (vw H hid) v (.str i)):v=.str i:=by
 rcases h with h|⟨a,xs,ds,c,b,_⟩
 ·cases h;rfl
 ·cases b
theorem cs.non(h:cs K H (vw H hid) v .non):v=.non:=by
 rcases h with h|⟨a,xs,ds,c,b,_⟩
 ·cases h;rfl
 ·cases b
theorem cs.tup(h:cs K H (vw H hid) v (.tup ds)): ∃a xs,v=.ref a/\SqT K (vw H hid) a xs/\SqT K H a xs/\Reps K (vw H hid) xs ds:=by
 rcases h with h|⟨a,xs,ds,c,b,_⟩
 ·cases h with
  |tup q r=>exact⟨_,_,rfl,q,a6.seqT (dD _ _) q,r⟩
 ·cases b
theorem cs.lst(h:cs K H (vw H hid) v (.lst ds)): ∃a xs,v=.ref a/\SqL K H a xs/\Reps K (vw H hid) xs ds:=by
 rcases h with h|⟨a,xs,ds,b,c,e,d⟩
 ·cases h with
  |lst q r=>exact⟨_,_,rfl,SqL.of (dD _ _ _ _ q),r⟩
 ·cases c;exact⟨a,xs,b,SqL.of e,d⟩
theorem cs.scr(h:cs K H (vw H hid) v (.scr ds)): ∃a xs,v=.ref a/\SqL K H a xs/\Reps K (vw H hid) xs ds:=by
 rcases h with h|⟨a,xs,ds,c,b,e,d⟩
 ·cases h with
  |scr q r=>exact⟨_,_,rfl,(dD _ _).seq q.seq,r⟩
 ·cases b
end
theorem PE.imp {X:Cx}(h:PE X e t)(i: ∀σ H Q,t' σ H Q->t σ H Q):PE X e t':=λa s σ H Q I q=>h a s σ H Q I (i σ H Q q)
theorem PT.imp {X:Cx}(h:PT X e t)(i: ∀σ H Q,t' σ H Q->t σ H Q):PT X e t':=λa s σ H Q I q=>h a s σ H Q I (i σ H Q q)
theorem PW.imp {X:Cx}(h:PW X e t)(i: ∀σ H Q,t' σ H Q->t σ H Q):PW X e t':=λa b s σ H Q I q=>h a b s σ H Q I (i σ H Q q)
theorem PA.imp {X:Cx}(h:PA X e t)(i: ∀σ H Q,t' σ H Q->t σ H Q):PA X e t':=λp a s σ H Q I q=>h p a s σ H Q I (i σ H Q q)
theorem PS.imp {X:Cx}(h:PS X e t)(i: ∀D σ H,t' D σ H->t D σ H):PS X e t':=λa s σ H D I q=>h a s σ H D I (i D σ H q)
theorem PSs.imp {X:Cx}(h:PSs X e t)(i: ∀D σ H,t' D σ H->t D σ H):PSs X e t':=λa s σ H D I q=>h a s σ H D I (i D σ H q)
abbrev FE:=aG->Option D
abbrev FT:=aG->Option Bool
abbrev FA:=aG->Option (List D)
def Gb(K:Pz)(c:Ct)(hid:bN)(k:Kd)(f:FE)(ρ:aG):TE:=λσ H Q=>SR K c hid ρ σ H/\ ∃d,f ρ=some d/\ ∀v a,a6 H a->RK K k H a hid v d->Q v a
def NR(K:Pz)(c:Ct)(hid:bN)(f:FT)(ρ:aG):TT:=λσ H Q=>SR K c hid ρ σ H/\ ∃d,f ρ=some d/\ ∀a,a6 H a->Q d a
def OZ(K:Pz)(c:Ct)(hid:bN)(f:FA)(ρ:aG):TA:=λσ H Q=>SR K c hid ρ σ H/\ ∃d,f ρ=some d/\ ∀vs a,a6 H a->Reps K (vw a hid) vs d->Q vs a
def DP(X:Cx)(c:Ct)(k:Kd)(e:Expr)(f:FE):Prop:= ∀hid ρ,PE X e (Gb X.K c hid k f ρ)
def DT(X:Cx)(c:Ct)(e:Expr)(f:FT):Prop:= ∀hid ρ,PT X e (NR X.K c hid f ρ)
def DW(X:Cx)(c:Ct)(e:Expr)(f:FT):Prop:= ∀hid ρ,PW X e (NR X.K c hid f ρ)
def DA(X:Cx)(c:Ct)(es:List Expr)(f:FA):Prop:= ∀hid ρ,PA X es (OZ X.K c hid f ρ)
section
variable {X:Cx}{c:Ct}{e a b:Expr}{es:List Expr}{f g:FE}{k:Kd}{pos:Pos}
theorem DP.toS(h:DP X c .n e f):DP X c .s e f:=λhid ρ=>PE.imp (h hid ρ) λσ H Q ⟨b,d,g,q⟩=>⟨b,d,g,λv i s r=>q v i s (RN.rep r λa n=>b.fresh n)⟩
def ai(i:Nat):FE:=λρ=>match ρ[i]? with
 |some (.v d)=>some d
 |_=>none
def dE(i:Nat):FE:=λρ=>match ρ[i]? with
 |some (.v d)=>some d
 |some (.own ds)=>some (.lst ds)
 |some (.arg ds)=>some (.lst ds)
 |_=>none
theorem af(i:Nat)(g:X.N[i]? =some x:=by rfl)(hv:wK X.env.scope x:=by first|exact RA rfl|exact Q1 (RA rfl)|exact Q1 (Q1 rfl))(a:(x==("__debug__":Str))=false:=by decide)
 (b:(x==("__classdict__":Str))=false:=by decide):DP X c .s (.Name x pos) (ai i):=λhid ρ=>PE.imp (pv i g hv a b) λσ H Q e=>by
 obtain⟨f,d,a,q⟩:=e;unfold ai at a;split at a
 ·rename_i d' h
  cases a;obtain⟨x,j,k⟩:=f.sl i _ h;exact⟨x,j,q x H (a6.refl _) k⟩
 ·cases a
theorem eB(i:Nat)(p:X.N[i]? =some x:=by rfl)(hv:wK X.env.scope x:=by first|exact RA rfl|exact Q1 (RA rfl)|exact Q1 (Q1 rfl))(e:(x==("__debug__":Str))=false:=by decide)
 (j:(x==("__classdict__":Str))=false:=by decide):DP X c .b (.Name x pos) (dE i):=λhid ρ=>PE.imp (pv i p hv e j) λσ H Q k=>by
 obtain⟨l,d,e,q⟩:=k;unfold dE at e;split at e
 ·rename_i d' f
  cases e;obtain⟨x,g,h⟩:=l.sl i _ f;exact⟨x,g,q x H (a6.refl _) (.inl h)⟩
 ·rename_i d' f
  cases e;obtain⟨a,xs,g,h,o,n,m⟩:=l.sl i _ f;exact⟨_,g,q _ H (a6.refl _) (.inr ⟨a,xs,_,rfl,rfl,h,m⟩)⟩
 ·rename_i d' f
  cases e;obtain⟨a,xs,g,h,o,n,m⟩:=l.sl i _ f;exact⟨_,g,q _ H (a6.refl _) (.inr ⟨a,xs,_,rfl,rfl,h,m⟩)⟩
 ·cases e
def aC(d:D):FE:=λ_=>some d
theorem au{j pos}:DP X c .s (.Constant (.int i) j pos) (aC (.int i)):=λhid ρ=>PE.imp Kv λσ H Q a=>by
 obtain⟨e,d,b,q⟩:=a;cases b;exact q _ H (a6.refl _) .int
theorem n9{j pos}:DP X c .s (.Constant (.bool i) j pos) (aC (.bl i)):=λhid ρ=>PE.imp LK λσ H Q a=>by
 obtain⟨e,d,b,q⟩:=a;cases b;exact q _ H (a6.refl _) .bl
def av(F:D->D->Option D)(f g:FE):FE:=λρ=>(f ρ).bind λx=>(g ρ).bind λy=>F x y
theorem xv(h:av F f g ρ=some d): ∃x y,f ρ=some x/\g ρ=some y/\F x y=some d:=by
 unfold av at h;cases e1:f ρ with
 |none=>rw[e1] at h;cases h
 |some x=>
  cases e2:g ρ with
  |none=>rw[e1,e2] at h;cases h
  |some y=>rw[e1,e2] at h;exact⟨x,y,rfl,rfl,h⟩
def pK(K:Pz)(k:Kd)(r:R2)(F:D->D->Option D):Prop:= ∀(H:Hp) (hid:bN) (v u:V) (x y d:D) (Q:VK),(∀a,H a=none->hid a=false)->F x y=some d->cs K H (vw H hid) v x->cs K H (vw H hid) u y->
 (∀w b,a6 H b->RK K k H b hid w d->Q w b)->r v u H Q
theorem RK.left {K:Pz}(s:a6 H H1)(h:RK K k H1 H' hid v d):RK K k H H' hid v d:=by
 cases k with
 |b=>exact h
 |s=>exact h
 |n=>
  obtain⟨a,xs,ds,c,e,g,f⟩:=h;exact⟨a,xs,ds,c,e,s.free g,f⟩
theorem M5{F:D->D->Option D}(p:pK X.K k r F){H:Hp}(h:Gb X.K c hid k (av F f g) ρ σ H Q):La r (Gb X.K c hid k1 f ρ) (Gb X.K c hid k2 g ρ) σ H Q:=by
 obtain⟨e,d,m,q⟩:=h;obtain⟨x,y,t,j,E⟩:=xv m;refine⟨e,x,t,λv I i C=>⟨e.ext i,y,j,λu G s2 A=>?_⟩⟩;have B:=(RK.b k1 C λa n=>e.fresh n).ext s2;have o:=RK.b k2 A λa n=>(e.ext i).fresh n
 exact p G hid v u x y d Q (λa n=>((e.ext i).ext s2).fresh n) E B o λw l z s=>q w l ((i.trans s2).trans z) (RK.left (i.trans s2) s)
theorem rq(i:lG X (TU op) r)(d:pK X.K k r F)(e:DP X c k1 a f)(j:DP X c k2 b g):DP X c k (.BinOp a op b pos) (av F f g):=λhid ρ=>
 PE.imp (Is i (e hid ρ) (j hid ρ)) λσ H Q h=>M5 d h
theorem oN(j:lG X (Ru op) r)(e:pK X.K .s r F)(i:DP X c k1 a f)(k:DP X c k2 b g)(d:SW op b=false):DP X c .s (.Compare a [op] [b] pos) (av F f g):=λhid ρ=>
 PE.imp (G9 j (i hid ρ) (k hid ρ) d) λσ H Q h=>M5 e h
def Cu:Option D->Option Bool
 |some (.bl b)=>some b
 |_=>none
theorem bY(p:lG X (Ru op) r)(n:pK X.K .s r F)(o:DP X c k1 a f)(t:DP X c k2 b g)(m:SW op b=false):DT X c (.Compare a [op] [b] pos) (λρ=>Cu (av F f g ρ)):=λhid ρ=>
 PT.imp (HK p (o hid ρ) (t hid ρ) m) λσ H Q i=>by
  obtain⟨l,d,h,q⟩:=i;refine M5 (X:=X) (k:=.s) (F:=F) n ?_
  dsimp only at h;cases e:av F f g ρ with
  |none=>rw[e] at h;cases h
  |some x=>
   rw[e] at h;cases x with
   |bl z=>
    cases h;refine⟨l,_,e,λv j s r=>⟨d,?_,q j s⟩⟩;cases r;rfl
   |_=>cases h
theorem bd(d:IxR X r)(i:pK X.K k r F)(j:DP X c k1 a f)(l:DP X c k2 b g)(e:uA b):DP X c k (.Subscript a b pos) (av F f g):=λhid ρ=>
 PE.imp (IW d (j hid ρ) (l hid ρ) e) λσ H Q h=>M5 i h
end
def i2(C:Int->Int->Bool)(G:Int->Int->D):D->D->Option D
 | .int i,.int j=>if C i j=true then some (G i j) else none
 |_,_=>none
section
variable {K:Pz}
theorem p9(h:i2 C G x y=some d): ∃i j,x=.int i/\y=.int j/\C i j=true/\d=G i j:=by
 unfold i2 at h;split at h
 ·split at h
  ·cases h;exact⟨_,_,rfl,rfl, ‹_›,rfl⟩
  ·cases h
 ·cases h
theorem Hb{g:Int->Int->Int}(b: ∀i j,B i j=true->C i j):pK K .s (rI C λi j=>.int (g i j)) (i2 B λi j=>.int (g i j)):=by
 intro H hid v u x y d Q f h e a q;obtain⟨i,j,rfl,rfl,c,rfl⟩:=p9 h;cases e.int;cases a.int;exact⟨i,j,rfl,rfl,b i j c,q _ H (a6.refl _) .int⟩
theorem IV {g:Int->Int->Int}:pK K .s (GL λi j=>.int (g i j)) (i2 (λ_ _=>true) λi j=>.int (g i j)):=by
 intro H hid v u x y d Q e h b a q;obtain⟨i,j,rfl,rfl,c,rfl⟩:=p9 h;cases b.int;cases a.int;exact⟨i,j,rfl,rfl,q _ H (a6.refl _) .int⟩
theorem pB {g:Int->Int->Bool}:pK K .s (GL λi j=>.bl (g i j)) (i2 (λ_ _=>true) λi j=>.bl (g i j)):=by
 intro H hid v u x y d Q e h b a q;obtain⟨i,j,rfl,rfl,c,rfl⟩:=p9 h;cases b.int;cases a.int;exact⟨i,j,rfl,rfl,q _ H (a6.refl _) .bl⟩
end
section
variable {X:Cx}{c:Ct}{e a b:Expr}{es rest:List Expr}{f g:FE}{p q:FT}{k:Kd}{pos:Pos}
def LO:D->Option Bool
 | .non=>some false
 | .bl b=>some b
 | .int i=>some (i !=0)
 | .str y=>if y.length<=P4 then some ((y.length:Int) !=0) else none
 | .lst ds=>some (!ds.isEmpty)
 | .tup ds=>some (!ds.isEmpty)
 | .scr ds=>some (!ds.isEmpty)
theorem Reps.isEmpty {K:Pz}{xs:List V}{ds:List D}(r:Reps K F xs ds):xs.isEmpty=ds.isEmpty:=by cases r<;>rfl
theorem JL {K:Pz}{b:Bool}(h:LO d=some b)(r:cs K H (vw H hid) v d):JZ K v H b:=by
 cases d with
 |non=>cases r.non;cases h;rfl
 |bl x=>cases r.bl;cases h;rfl
 |int i=>cases r.int;cases h;rfl
 |str y=>
  cases r.str;have h':(if y.length<=P4 then some ((y.length:Int) !=0) else none)=some b:=h;split at h'
  ·cases h';exact⟨‹_›,rfl⟩
  ·cases h'
 |lst ds=>
  obtain⟨a,xs,rfl,c,e⟩:=r.lst;cases h;exact .inl ⟨xs,c,by rw[e.isEmpty]⟩
 |tup ds=>
  obtain⟨a,xs,rfl,_,c,e⟩:=r.tup;cases h;exact .inr (.inl ⟨xs,c,by rw[e.isEmpty]⟩)
 |scr ds=>
  obtain⟨a,xs,rfl,c,e⟩:=r.scr;cases h;exact .inl ⟨xs,c,by rw[e.isEmpty]⟩
def dJ(f:FE):FT:=λρ=>(f ρ).bind LO
theorem gW(o:DP X c k a f)(m: ∀g,isTrue a X.env g=(do let v <-g;VJ a.pos;TY [v] (truthy v)):=by intro _;rfl):DT X c a (dJ f):=λhid ρ=>
 PT.imp (Fu (o hid ρ) m) λσ H Q i=>by
  obtain⟨j,d,h,q⟩:=i;unfold dJ at h;cases e:f ρ with
  |none=>rw[e] at h;cases h
  |some x=>
   rw[e] at h;exact⟨j,x,e,λv l s r=>⟨d,JL h (RK.b k r λa n=>j.fresh n),q l s⟩⟩
def gZ(p q:FT):FT:=λρ=>(p ρ).bind λb=>if b=true then q ρ else some false
def CN(p q:FT):FT:=λρ=>(p ρ).bind λb=>if b=true then some true else q ρ
def g6(p:FT):FT:=λρ=>(p ρ).map (!·)
theorem pY(b:DT X c a p):DW X c (.BoolOp .And [a] pos) p:=λhid ρ=>kg (b hid ρ)
theorem yL(b:DT X c a p):DW X c (.BoolOp .Or [a] pos) p:=λhid ρ=>k5 (b hid ρ)
theorem vI(ha:DT X c a p)(hb:DW X c (.BoolOp .And (b::rest) pos) q):DW X c (.BoolOp .And (a::b::rest) pos) (gZ p q):=λhid ρ=>
 PW.imp (kw (ha hid ρ) (hb hid ρ)) λσ H Q hq_=>by
  obtain⟨sr,d,hd,hq⟩:=hq_;unfold gZ at hd;cases e:p ρ with
  |none=>rw[e] at hd;cases hd
  |some x=>
   rw[e] at hd;refine⟨sr,x,e,λH1 s1=>?_⟩;cases x with
   |true=>exact yD ⟨sr.ext s1,d,hd,λH2 s2=>hq H2 (s1.trans s2)⟩
   |false=>cases hd;exact zj (hq H1 s1)
theorem Eo(ha:DT X c a p)(hb:DW X c (.BoolOp .Or (b::rest) pos) q):DW X c (.BoolOp .Or (a::b::rest) pos) (CN p q):=λhid ρ=>
 PW.imp (la (ha hid ρ) (hb hid ρ)) λσ H Q hq_=>by
  obtain⟨sr,d,hd,hq⟩:=hq_;unfold CN at hd;cases e:p ρ with
  |none=>rw[e] at hd;cases hd
  |some x=>
   rw[e] at hd;refine⟨sr,x,e,λH1 s1=>?_⟩;cases x with
   |false=>exact zj ⟨sr.ext s1,d,hd,λH2 s2=>hq H2 (s1.trans s2)⟩
   |true=>cases hd;exact yD (hq H1 s1)
theorem DW.dt(h:DW X c e p):DT X c e p:=λhid ρ=>(h hid ρ).pt
theorem rg(i:DT X c a p):DT X c (.UnaryOp .Not a pos) (g6 p):=λhid ρ=>
 PT.imp (JR (i hid ρ)) λσ H Q f=>by
  obtain⟨k,d,b,h⟩:=f;unfold g6 at b;cases e:p ρ with
  |none=>rw[e] at b;cases b
  |some x=>rw[e] at b;cases b;exact⟨k,x,e,λg j=>h g j⟩
def Bk(p:FT):FE:=λρ=>(p ρ).map D.bl
def bR(f:FE):FT:=λρ=>Cu (f ρ)
theorem ng{b:Bool}(h:bR f ρ=some b):f ρ=some (.bl b):=by
 unfold bR Cu at h;split at h
 ·cases h;assumption
 ·cases h
theorem FL(ha:DP X c .s a f)(hb:DP X c .s (.BoolOp .And (b::rest) pos) g):DP X c .s (.BoolOp .And (a::b::rest) pos) (Bk (gZ (bR f) (bR g))):=λhid ρ=>
 PE.imp (Jn (ha hid ρ) (hb hid ρ)) λσ H Q hq_=>by
  obtain⟨sr,d,hd,hq⟩:=hq_;unfold Bk gZ at hd;cases e:bR f ρ with
  |none=>rw[e] at hd;cases hd
  |some x=>
   rw[e] at hd;refine⟨sr,_,ng e,λv H1 s1 r=>?_⟩;cases r;refine⟨x,rfl,?_⟩;cases x with
   |true=>
    refine yD ?_
    cases e2:bR g ρ with
    |none=>rw[show(some true:Option Bool).bind (λb=>if b=true then bR g ρ else some false)=bR g ρ from rfl,e2] at hd;cases hd
    |some y=>
     rw[show(some true:Option Bool).bind (λb=>if b=true then bR g ρ else some false)=bR g ρ from rfl,e2] at hd;cases hd;exact⟨sr.ext s1,_,ng e2,λv2 H2 s2 r2=>hq v2 H2 (s1.trans s2) r2⟩
   |false=>cases hd;exact zj (hq _ H1 s1 .bl)
theorem Ei {op}(h:DP X c k a f):DP X c k (.BoolOp op [a] pos) f:=λhid ρ=>Kn (h hid ρ)
theorem zr(j:DP X c .s a f):DP X c .s (.UnaryOp .Not a pos) (Bk (g6 (bR f))):=λhid ρ=>
 PE.imp (J4 (j hid ρ)) λσ H Q g=>by
  obtain⟨l,d,b,i⟩:=g;unfold Bk g6 at b;cases e:bR f ρ with
  |none=>rw[e] at b;cases b
  |some x=>
   rw[e] at b;cases b;refine⟨l,_,ng e,λv h k r=>?_⟩;cases r;exact⟨x,rfl,i _ h k .bl⟩
def Iu(p:FT)(f g:FE):FE:=λρ=>(p ρ).bind λb=>if b=true then f ρ else g ρ
theorem LB {t:Expr}(hk:k≠ .n)(ht:DT X c t p)(ha:DP X c k a f)(hb:DP X c k b g):DP X c k (.IfExp t a b pos) (Iu p f g):=λhid ρ=>
 PE.imp (FV (ht hid ρ) (ha hid ρ) (hb hid ρ)) λσ H Q hq_=>by
  obtain⟨sr,d,hd,hq⟩:=hq_;unfold Iu at hd;cases e:p ρ with
  |none=>rw[e] at hd;cases hd
  |some x=>
   rw[e] at hd;refine⟨sr,x,e,λH1 s1=>?_⟩;have lf: ∀ {v H2},RK X.K k H1 H2 hid v d->RK X.K k H H2 hid v d:=λ{v H2} r=>RK.left s1 r
   cases x with
   |true=>exact yD ⟨sr.ext s1,d,hd,λv H2 s2 r=>hq v H2 (s1.trans s2) (lf r)⟩
   |false=>exact zj ⟨sr.ext s1,d,hd,λv H2 s2 r=>hq v H2 (s1.trans s2) (lf r)⟩
variable {r r':R2}{h:FE}{e3:Expr}
def Ff(F G:D->D->Option D)(f g h:FE):FE:=λρ=>(f ρ).bind λx=>(g ρ).bind λy=>(Cu (F x y)).bind λk=>if k=true then(h ρ).bind λz=>G y z else some (.bl false)
theorem Fx {F G:D->D->Option D}{k1 k2 k3:Kd}{hid:bN}{ρ:aG}(hF:pK X.K .s r F)(hG:pK X.K .s r' G){σ:St}{H:Hp}{Q:VK}(hh:Gb X.K c hid .s (Ff F G f g h) ρ σ H Q):
 yY r r' (Gb X.K c hid k1 f ρ) (Gb X.K c hid k2 g ρ) (Gb X.K c hid k3 h ρ) σ H Q:=by
 obtain⟨sr,d,hd,q⟩:=hh;unfold Ff at hd;cases e1:f ρ with
 |none=>rw[e1] at hd;cases hd
 |some x=>
  cases e2:g ρ with
  |none=>rw[e1,e2] at hd;cases hd
  |some y=>
   rw[e1,e2] at hd;have hd':(Cu (F x y)).bind (λk=>if k=true then(h ρ).bind λz=>G y z else some (.bl false))=some d:=hd;cases e3:F x y with
   |none=>rw[e3] at hd';cases hd'
   |some z=>
    cases z with
    |bl kk=>
     rw[e3] at hd';refine⟨sr,x,e1,λv H1 s1 r1=>⟨sr.ext s1,y,e2,λu H2 s2 r2=>?_⟩⟩;have b1:=(RK.b k1 r1 λa n=>sr.fresh n).ext s2;have b2:=RK.b k2 r2 λa n=>(sr.ext s1).fresh n
     have fr: ∀a,H2 a=none->hid a=false:=λa n=>((sr.ext s1).ext s2).fresh n
     refine hF H2 hid v u x y _ _ fr e3 b1 b2 λw H3 s3 r3=>?_
     cases r3;refine⟨kk,rfl,?_⟩;cases kk with
     |false=>cases hd';exact zj (q _ H3 ((s1.trans s2).trans s3) .bl)
     |true=>
      refine yD ?_
      cases e4:h ρ with
      |none=>rw[e4] at hd';cases hd'
      |some z=>
       rw[e4] at hd';have hd2:G y z=some d:=hd';refine⟨((sr.ext s1).ext s2).ext s3,z,e4,λw' H4 s4 r4=>?_⟩;have b3:=RK.b k3 r4 λa n=>(((sr.ext s1).ext s2).ext s3).fresh n
       exact hG H4 hid u w' y z d Q (λa n=>((((sr.ext s1).ext s2).ext s3).ext s4).fresh n) hd2 ((b2.ext s3).ext s4) b3 λw2 H5 s5 r5=>q w2 H5 ((((s1.trans s2).trans s3).trans s4).trans s5) r5
    |_=>rw[e3] at hd';cases hd'
theorem Mo(m:lG X (Ru op) r)(d:lG X (Ru op') r')(j:pK X.K .s r F)(n:pK X.K .s r' G)(l:DP X c k1 a f)(o:DP X c k2 b g)(e:DP X c k3 e3 h)
 (i:YG [op,op'] [b,e3]=false:=by with_unfolding_all rfl):DP X c .s (.Compare a [op,op'] [b,e3] pos) (Ff F G f g h):=λhid ρ=>
 PE.imp (D1 m d (l hid ρ) (o hid ρ) (e hid ρ) i) λσ H Q k=>Fx j n k
theorem Mk(t:lG X (Ru op) r)(i:lG X (Ru op') r')(o:pK X.K .s r F)(u:pK X.K .s r' G)(p:DP X c k1 a f)(w:DP X c k2 b g)(k:DP X c k3 e3 h)
 (m:YG [op,op'] [b,e3]=false:=by with_unfolding_all rfl):DT X c (.Compare a [op,op'] [b,e3] pos) (bR (Ff F G f g h)):=λhid ρ=>
 PT.imp (Ek t i (p hid ρ) (w hid ρ) (k hid ρ) m) λσ H Q e=>by
  obtain⟨l,d,n,q⟩:=e;refine Fx (X:=X) (F:=F) (G:=G) o u ⟨l,_,ng n,λv j s r=>⟨d,?_,q j s⟩⟩;cases r;rfl
end
section
variable {X:Cx}{c:Ct}{e a b:Expr}{es rest:List Expr}{f g:FE}{fs:FA}{k:Kd}{pos:Pos}
def aj:FA:=λ_=>some []
def aa(f:FE)(a:FA):FA:=λρ=>(f ρ).bind λd=>(a ρ).map λr=>d::r
theorem rQ(h:aa f fs ρ=some ds): ∃d r,f ρ=some d/\fs ρ=some r/\ds=d::r:=by
 unfold aa at h;cases e1:f ρ with
 |none=>rw[e1] at h;cases h
 |some d=>
  cases e2:fs ρ with
  |none=>rw[e1,e2] at h;cases h
  |some r=>rw[e1,e2] at h;cases h;exact⟨d,r,rfl,rfl,rfl⟩
theorem al:DA X c [] aj:=λhid ρ=>PA.imp fX λσ H Q ⟨b,d,a,q⟩=>by cases a;exact q [] H (a6.refl _) .nil
theorem ae(p:DP X c .s e f)(l:DA X c es fs)(m:PP (e::es) X.env=(false,eval e X.env)::PP es X.env:=by rfl):DA X c (e::es) (aa f fs):=λhid ρ=>
 PA.imp (c8 (p hid ρ) (l hid ρ) m) λσ H Q a=>by
  obtain⟨b,d,i,q⟩:=a;obtain⟨n,r,j,h,rfl⟩:=rQ i;exact⟨b,n,j,λv u g o=>⟨b.ext g,r,h,λvs t s2 k=>q _ t (g.trans s2) (.cons (Rep.mono (aW s2) o) k)⟩⟩
def cu(a:FA):FE:=λρ=>(a ρ).bind λds=>if ds.length<=P4 then some (.tup ds) else none
def b7(a:FA):FE:=λρ=>(a ρ).bind λds=>if ds.length<=P4 then some (.lst ds) else none
theorem BI(h:cu fs ρ=some d): ∃ds,fs ρ=some ds/\ds.length<=P4/\d=.tup ds:=by
 unfold cu at h;cases e1:fs ρ with
 |none=>rw[e1] at h;cases h
 |some ds=>
  rw[e1] at h;have h':(if ds.length<=P4 then some (D.tup ds) else none)=some d:=h;split at h'
  ·cases h';exact⟨ds,rfl, ‹_›,rfl⟩
  ·cases h'
theorem BF(h:b7 fs ρ=some d): ∃ds,fs ρ=some ds/\ds.length<=P4/\d=.lst ds:=by
 unfold b7 at h;cases e1:fs ρ with
 |none=>rw[e1] at h;cases h
 |some ds=>
  rw[e1] at h;have h':(if ds.length<=P4 then some (D.lst ds) else none)=some d:=h;split at h'
  ·cases h';exact⟨ds,rfl, ‹_›,rfl⟩
  ·cases h'
theorem aT(h:H p=none)(o:HO):a6 H (b9 H p o):=λb u q=>by rw[aQ (bF q h)];exact q
theorem rR {K:Pz}(b:H p=none)(a:hid p=false)(r:Reps K (vw H hid) xs ds):Rep K (vw (b9 H p (.tup xs)) hid) (.ref p) (.tup ds):=
 .tup (SqT.of (bQ.mpr ⟨a,aV⟩)) (r.mono (aW (aT b _)))
theorem f8 {K:Pz}{hid:bN}(a:H p=none)(s:a6 H0 H)(r:Reps K (vw H hid) xs ds):RN K H0 (b9 H p (.lst xs)) hid (.ref p) (.lst ds):=
 ⟨p,xs,ds,rfl,rfl,s.free a,aV,by rw[vt a];exact r⟩
theorem cn {x1}(h:DA X c es fs):DP X c .s (.Tuple es x1 pos) (cu fs):=λhid ρ=>PE.imp (JQ (h hid ρ)) λσ H Q a=>by
 obtain⟨e,d,i,q⟩:=a;obtain⟨ds,j,k,rfl⟩:=BI i;exact⟨e,ds,j,λvs l f g=>⟨by rw[g.length];exact k,λp b=>q _ _ (f.trans (aT b _)) (rR b ((e.ext f).fresh b) g)⟩⟩
theorem cI(h:DA X c es fs):DP X c .n (.List es pos) (b7 fs):=λhid ρ=>PE.imp (Kp (h hid ρ)) λσ H Q a=>by
 obtain⟨g,d,i,q⟩:=a;obtain⟨ds,j,k,rfl⟩:=BF i;exact⟨g,ds,j,λvs l b e=>⟨by rw[e.length];exact k,λp f=>q _ _ (b.trans (aT f _)) (f8 f b e)⟩⟩
abbrev cv(K:Pz)(H W:Hp):List V->List D->Prop:=Paired (cs K H W)
def OE(K:Pz)(c:Ct)(hid:bN)(f:FA)(ρ:aG):TA:=λσ H Q=>SR K c hid ρ σ H/\ ∃d,f ρ=some d/\ ∀vs a,a6 H a->cv K a (vw a hid) vs d->Q vs a
def DB(X:Cx)(c:Ct)(es:List Expr)(f:FA):Prop:= ∀hid ρ,PA X es (OE X.K c hid f ρ)
theorem bw:DB X c [] aj:=λhid ρ=>PA.imp fX λσ H Q ⟨b,d,a,q⟩=>by cases a;exact q [] H (a6.refl _) .nil
theorem aO(w:DP X c k e f)(p:DB X c es fs)(s:PP (e::es) X.env=(false,eval e X.env)::PP es X.env:=by rfl):DB X c (e::es) (aa f fs):=λhid ρ=>
 PA.imp (c8 (w hid ρ) (p hid ρ) s) λσ H Q g=>by
  obtain⟨h,d,l,q⟩:=g;obtain⟨t,r,m,j,rfl⟩:=rQ l;exact⟨h,t,m,λv y i u=>⟨h.ext i,r,j,λvs x s2 o=>q _ x (i.trans s2) (.cons ((RK.b k u λa n=>h.fresh n).ext s2) o)⟩⟩
def gJ(K:Pz)(k:Kd)(r:List V->Hp->VK->Prop)(F:List D->Option D):Prop:= ∀(H:Hp) (hid:bN) (vs:List V) (ds:List D) (d:D) (Q:VK),(∀a,H a=none->hid a=false)->F ds=some d->cv K H (vw H hid) vs ds->
 (∀w b,a6 H b->RK K k H b hid w d->Q w b)->r vs H Q
def ak(F:List D->Option D)(a:FA):FE:=λρ=>(a ρ).bind F
theorem qz(h:ak F fs ρ=some d): ∃ds,fs ρ=some ds/\F ds=some d:=by
 unfold ak at h;cases e1:fs ρ with
 |none=>rw[e1] at h;cases h
 |some ds=>rw[e1] at h;exact⟨ds,rfl,h⟩
theorem LV(j:gJ X.K k r F){H:Hp}(h:Gb X.K c hid k (ak F fs) ρ σ H Q):Mb r (OE X.K c hid fs ρ) σ H Q:=by
 obtain⟨e,d,i,q⟩:=h;obtain⟨ds,l,f⟩:=qz i;exact⟨e,ds,l,λvs m b p=>j m hid vs ds d Q (λa n=>(e.ext b).fresh n) f p λw g s2 o=>q w g (b.trans s2) (RK.left b o)⟩
variable {x:Str}{p:Pos}{id T:String}{r:List V->Hp->VK->Prop}{F:List D->Option D}
theorem be(g:dH X (.builtin id) r)(l:gJ X.K k r F)(i:X.mg x=none)(m:DB X c (e::es) fs)(f:Gl X x:=by rfl)(hv:Rm x=some (.builtin id):=by first|exact PySem.boot_len|rfl|kernel_rfl)(j:x≠"__name__":=by decide)(a:(x==("__debug__":Str))=false:=by decide)
 (d:PP (e::es) X.env=(false,eval e X.env)::PP es X.env:=by rfl) (b:(R5 pos (PP es X.env)).any (·.1)=false:=by rfl):DP X c k (.Call (.Name x p) (e::es) [] pos) (ak F fs):=λhid ρ=>
 PE.imp (nS g f i hv (m hid ρ) j a d b) λσ H Q h=>LV l h
theorem eF(j:dH X (.type T) r)(d:gJ X.K k r F)(l:X.mg x=none)(i:DB X c (e::es) fs)(g:Gl X x:=by rfl)(hv:Rm x=some (.type T):=by first|rfl|kernel_rfl)(m:x≠"__name__":=by decide)(a:(x==("__debug__":Str))=false:=by decide)
 (f:PP (e::es) X.env=(false,eval e X.env)::PP es X.env:=by rfl) (b:(R5 pos (PP es X.env)).any (·.1)=false:=by rfl):DP X c k (.Call (.Name x p) (e::es) [] pos) (ak F fs):=λhid ρ=>
 PE.imp (gv j g l hv (i hid ρ) m a f b) λσ H Q h=>LV d h
end
section
variable {K:Pz}
theorem cv.one(r:cv K H W v [d]): ∃x,v=[x]/\cs K H W x d:=by
 cases r with
 |cons r t=>cases t;exact⟨_,rfl,r⟩
theorem cv.two(r:cv K H W v [d,d']): ∃x y,v=[x,y]/\cs K H W x d/\cs K H W y d':=by
 cases r with
 |cons r t=>cases t with
  |cons a t=>cases t;exact⟨_,_,rfl,r,a⟩
def c7:List D->Option D
 | [.lst ds]=>some (.int ds.length)
 | [.tup ds]=>some (.int ds.length)
 | [.scr ds]=>some (.int ds.length)
 |_=>none
theorem fI:gJ K .s (λxs H Q=> ∃p ys,xs=[.ref p]/\(SqL K H p ys\/SqT K H p ys)/\Q (.int ys.length) H) c7:=by
 intro H hid vs ds d Q f h r q;unfold c7 at h;split at h
 ·cases h;obtain⟨x,rfl,e⟩:=cv.one r;obtain⟨a,xs,rfl,b,c⟩:=e.lst;exact⟨a,xs,rfl,.inl b,by rw[c.length];exact q _ H (a6.refl _) .int⟩
 ·cases h;obtain⟨x,rfl,e⟩:=cv.one r;obtain⟨a,xs,rfl,_,b,c⟩:=e.tup;exact⟨a,xs,rfl,.inr b,by rw[c.length];exact q _ H (a6.refl _) .int⟩
 ·cases h;obtain⟨x,rfl,e⟩:=cv.one r;obtain⟨a,xs,rfl,b,c⟩:=e.scr;exact⟨a,xs,rfl,.inl b,by rw[c.length];exact q _ H (a6.refl _) .int⟩
 ·cases h
def xz:List D->Option D
 | [.int i]=>some (.int (if i<0 then -i else i))
 |_=>none
theorem Kg:gJ K .s (λxs H Q=> ∃i,xs=[.int i]/\Q (.int (if i<0 then -i else i)) H) xz:=by
 intro H hid vs ds d Q b h r q;unfold xz at h;split at h
 ·cases h;obtain⟨x,rfl,a⟩:=cv.one r;cases a.int;exact⟨_,rfl,q _ H (a6.refl _) .int⟩
 ·cases h
def wg:List D->Option D
 | [.int i,.int j]=>some (.int (if j>i then j else i))
 |_=>none
theorem GK:gJ K .s (λxs H Q=> ∃i j,xs=[.int i,.int j]/\Q (.int (if j>i then j else i)) H) wg:=by
 intro H hid vs ds d Q c h r q;unfold wg at h;split at h
 ·cases h;obtain⟨x,y,rfl,a,b⟩:=cv.two r;cases a.int;cases b.int;exact⟨_,_,rfl,q _ H (a6.refl _) .int⟩
 ·cases h
def lO:List D->Option D
 | [.int i,.int j]=>some (.int (if j<i then j else i))
 |_=>none
theorem Bx:gJ K .s (λxs H Q=> ∃i j,xs=[.int i,.int j]/\Q (.int (if j<i then j else i)) H) lO:=by
 intro H hid vs ds d Q c h r q;unfold lO at h;split at h
 ·cases h;obtain⟨x,y,rfl,a,b⟩:=cv.two r;cases a.int;cases b.int;exact⟨_,_,rfl,q _ H (a6.refl _) .int⟩
 ·cases h
def im:List D->Option D
 | [.lst ds]=>some (.lst ds)
 | [.tup ds]=>some (.lst ds)
 |_=>none
theorem m7:gJ K .n (λxs H Q=> ∃p ys,xs=[.ref p]/\(SqL K H p ys\/SqT K H p ys)/\ ∀l,H l=none->Q (.ref l) (b9 H l (.lst ys))) im:=by
 intro H hid vs ds d Q g h r q;unfold im at h;split at h
 ·cases h;obtain⟨x,rfl,f⟩:=cv.one r;obtain⟨a,xs,rfl,c,e⟩:=f.lst;exact⟨a,xs,rfl,.inl c,λl b=>q _ _ (aT b _) (f8 b (a6.refl _) e)⟩
 ·cases h;obtain⟨x,rfl,f⟩:=cv.one r;obtain⟨a,xs,rfl,_,c,e⟩:=f.tup;exact⟨a,xs,rfl,.inr c,λl b=>q _ _ (aT b _) (f8 b (a6.refl _) e)⟩
 ·cases h
def gz:List D->Option D
 | [.lst ds]=>some (.tup ds)
 | [.tup ds]=>some (.tup ds)
 |_=>none
theorem ku:gJ K .s (λxs H Q=> ∃p ys,xs=[.ref p]/\((SqL K H p ys/\ ∀l,H l=none->Q (.ref l) (b9 H l (.tup ys)))\/(SqT K H p ys/\Q (.ref p) H))) gz:=by
 intro H hid vs ds d Q i h r q;unfold gz at h;split at h
 ·cases h;obtain⟨x,rfl,f⟩:=cv.one r;obtain⟨a,xs,rfl,c,e⟩:=f.lst;exact⟨a,xs,rfl,.inl ⟨c,λl b=>q _ _ (aT b _) (rR b (i l b) e)⟩⟩
 ·cases h;obtain⟨x,rfl,f⟩:=cv.one r;obtain⟨a,xs,rfl,g,c,e⟩:=f.tup;exact⟨a,xs,rfl,.inr ⟨c,q _ H (a6.refl _) (.tup g e)⟩⟩
 ·cases h
def br:D->D->Option D
 | .lst ds,.int i=>tF ds i
 | .tup ds,.int i=>tF ds i
 | .scr ds,.int i=>tF ds i
 |_,_=>none
theorem uS(r:Reps K F xs ds)(h:tF ds i=some d): ∃x,tF xs i=some x/\Rep K F x d:=by
 unfold tF at h⊢;rw[r.length];cases e:x9 ds.length i with
 |none=>rw[e] at h;cases h
 |some j=>
  rw[e] at h;obtain⟨x,a,b⟩:=r.get (i:=j) h;exact⟨x,a,b⟩
theorem a8:pK K .s (OH K) br:=by
 intro H hid v u x y d Q j h i g q;unfold br at h;split at h
 ·cases g.int;obtain⟨a,xs,rfl,e,f⟩:=i.lst;obtain⟨z,c,b⟩:=uS f h;exact .inl ⟨a,xs,_,z,rfl,rfl,e,c,q _ H (a6.refl _) b⟩
 ·cases g.int;obtain⟨a,xs,rfl,_,e,f⟩:=i.tup;obtain⟨z,c,b⟩:=uS f h;exact .inr (.inl ⟨a,xs,_,z,rfl,rfl,e,c,q _ H (a6.refl _) b⟩)
 ·cases g.int;obtain⟨a,xs,rfl,e,f⟩:=i.scr;obtain⟨z,c,b⟩:=uS f h;exact .inl ⟨a,xs,_,z,rfl,rfl,e,c,q _ H (a6.refl _) b⟩
 ·cases h
end
abbrev GE:=aG->Option (D×aG)
abbrev GA:=aG->Option (List D×aG)
def ei(hid:bN)(H a:Hp):Prop:= ∀b o,H b=some o->hid b=false->a b=some o
theorem ei.of(s:a6 H H'):ei hid H H':=λb o q _=>s b o q
theorem ei.trans(a:ei hid H H1)(b:ei hid H1 H2):ei hid H H2:=λc o q h=>b c o (a c o q h) h
theorem ei.vw(a:ei hid H H'):a6 (vw H hid) (vw H' hid):=Aw a
def df(K:Pz)(c:Ct)(hid:bN)(k:Kd)(ρ':aG)(σ:St)(H b:Hp)(v:V)(d:D):Prop:=ei hid H b/\match k with
 | .n=> ∃a xs ds,d=.lst ds/\v=.ref a/\H a=none/\b a=some (.lst xs)/\c.H₀ a=none/\hid a=false/\SR K c (bn hid a) ρ' σ b/\Reps K (vw b (bn hid a)) xs ds/\ ∀i:Nat,Ow ρ'[i]? ->σ[i]? ≠some (some (.ref a))
 |_=>SR K c hid ρ' σ b/\Rep K (vw b hid) v d
def Ld(K:Pz)(c:Ct)(hid:bN)(k:Kd)(f:GE)(ρ:aG):TE:=λσ H Q=>SR K c hid ρ σ H/\ ∃d ρ',f ρ=some (d,ρ')/\ ∀v a,df K c hid k ρ' σ H a v d->Q v a
def DE(X:Cx)(c:Ct)(k:Kd)(e:Expr)(f:GE):Prop:= ∀hid ρ,PE X e (Ld X.K c hid k f ρ)
def pu(f:FE):GE:=λρ=>(f ρ).map λd=>(d,ρ)
theorem GG{ρ ρ':aG}(h:pu f ρ=some (d,ρ')):f ρ=some d/\ρ'=ρ:=by
 unfold pu at h;cases e:f ρ with
 |none=>rw[e] at h;cases h
 |some x=>rw[e] at h;cases h;exact⟨rfl,rfl⟩
section
variable {K:Pz}{c:Ct}{hid hid':bN}{ρ:aG}{σ:St}{H H':Hp}{i:Nat}{a:Addr}
theorem cL {hid:bN}{a b:Addr}(h:hid b=true):bn hid a b=true:=by unfold bn;rw[h];rfl
theorem fL {hid:bN}{a:Addr}:bn hid a a=true:=by unfold bn;simp
theorem zZ {hid:bN}{a b:Addr}(h:bn hid a b=false):hid b=false/\b≠a:=by
 unfold bn at h;cases e:hid b with
 |true=>rw[e] at h;cases h
 |false=>rw[e] at h;exact⟨rfl,by simpa using h⟩
theorem SR.hide(h:SR K c hid ρ σ H)(e:a6 H H')(n:H a=none)(w:H' a=some o)(y: ∀xs,o≠ .tup xs:=by intro _ e;cases e):SR K c (bn hid a) ρ σ H':=by
 have m:a6 (vw H hid) (vw H' (bn hid a)):=λb o q=>by
  obtain⟨A,u⟩:=bQ.mp q;refine bQ.mpr ⟨?_,e _ _ u⟩;unfold bn;rw[A];have:b≠a:=bF u n;simp[this]
 refine⟨λb l=>?_,λb xs l q=>by
  by_cases k:b=a
  ·subst k;rw[w] at q;exact y _ (Qu q)
  ·unfold bn at l
   exact(h.ext e).ht b xs (by simpa [k] using l) q,λb q=>cL (h.h0 b q),(h.ext e).kp,(h.ext e).t0,h.c0,h.m0,h.len,λi s q=>?_,h.ap⟩
 ·by_cases k:b=a
  ·subst k;exact⟨_,w⟩
  ·unfold bn at l;have:hid b=true:=by simpa [k] using l
   obtain⟨B,q⟩:=h.tr b this;exact⟨B,e _ _ q⟩
 ·have z:=h.sl i s q;cases s with
  |no=>trivial
  |v d=>obtain⟨x,f,g⟩:=z;exact⟨x,f,g.mono m⟩
  |own ds=>obtain⟨j,xs,f,g,t,p,r⟩:=z;exact⟨j,xs,f,e _ _ g,cL t,p,r.mono m⟩
  |arg ds=>obtain⟨j,xs,f,g,t,p,r⟩:=z;exact⟨j,xs,f,e _ _ g,cL t,p,r.mono m⟩
  |ob b=>obtain⟨j,f,g⟩:=z;exact⟨j,f,g.mono (λ_ x _=>e x) m λ_ _ _=>cL⟩
theorem SR.show (h:SR K c (bn hid a) ρ σ H)(w: ∀b,c.hid₀ b=true->hid b=true)(no: ∀i:Nat,Ow ρ[i]? ->σ[i]? ≠some (some (.ref a)))(D:H a=some o)(y: ∀p u,o≠ .nst p u:=by intro _ _ e;cases e):SR K c hid ρ σ H:=by
 have l:a6 (vw H (bn hid a)) (vw H hid):=iz λb q=>cL q
 have r: ∀b,b≠a->bn hid a b=true->hid b=true:=λb A k=>by unfold bn at k;simpa [A] using k
 refine⟨λb k=>h.tr b (cL k),λb xs k=>h.ht b xs (cL k),w,h.kp,h.t0,h.c0,h.m0,h.len,λi s q=>?_,h.ap⟩;have z:=h.sl i s q;cases s with
 |no=>trivial
 |v d=>obtain⟨x,f,j⟩:=z;exact⟨x,f,j.mono l⟩
 |own ds=>
  obtain⟨g,xs,f,j,n,m,t⟩:=z;have:g≠a:=λe=>by subst e;exact no i (by rw[q];trivial) f
  exact⟨g,xs,f,j,r g this n,m,t.mono l⟩
 |arg ds=>
  obtain⟨g,xs,f,j,n,m,t⟩:=z;have:g≠a:=λe=>by subst e;exact no i (by rw[q];trivial) f
  exact⟨g,xs,f,j,r g this n,m,t.mono l⟩
 |ob b=>
  obtain⟨g,f,j⟩:=z;exact⟨g,f,j.mono (λ_ _ _ _ q=>q) l λB x C=>r x (C.ne (λe=>by subst e;exact no i (by rw[q];exact B) f) D y)⟩
theorem SR.notOw(h:SR K c hid ρ σ H)(n:hid a=false)(i:Nat)(o:Ow ρ[i]?):σ[i]? ≠some (some (.ref a)):=λe=>by
 cases q:ρ[i]? with
 |none=>rw[q] at o;exact o
 |some s=>
  rw[q] at o;have z:=h.sl i s q;cases s with
  |no=>exact o
  |v d=>exact o
  |own ds=>obtain⟨k,xs,f,j,g,_⟩:=z;rw[e] at f;cases f;rw[n] at g;cases g
  |arg ds=>obtain⟨k,xs,f,j,g,_⟩:=z;rw[e] at f;cases f;rw[n] at g;cases g
  |ob b=>obtain⟨k,f,j⟩:=z;rw[e] at f;cases f;have:=j.hid o;rw[n] at this;cases this
theorem SR.post {k:Kd}(h:SR K c hid ρ σ H)(e:a6 H H')(r:RK K k H H' hid v d)(m:k≠ .b):df K c hid k ρ σ H H' v d:=by
 cases k with
 |b=>exact absurd rfl m
 |s=>exact⟨.of e,h.ext e,r⟩
 |n=>
  obtain⟨a,xs,ds,i,j,f,g,l⟩:=r;exact⟨.of e,a,xs,ds,i,j,f,g,h.fresh0 f,h.fresh f,h.hide e f g,l,h.notOw (h.fresh f)⟩
theorem df.left(s:ei hid H H1)(p:df K c hid k ρ' σ H1 H' v d):df K c hid k ρ' σ H H' v d:=by
 cases k with
 |b=>exact⟨s.trans p.1,p.2⟩
 |s=>exact⟨s.trans p.1,p.2⟩
 |n=>
  obtain⟨q,a,xs,ds,h,i,g,m,j,f,l⟩:=p;refine⟨s.trans q,a,xs,ds,h,i,?_,m,j,f,l⟩;cases e:H a with
  |none=>rfl
  |some o=>rw[s a o e f] at g;cases g
theorem df.toS(k: ∀b,c.hid₀ b=true->hid b=true)(p:df K c hid .n ρ' σ H H' v d):df K c hid .s ρ' σ H H' v d:=by
 obtain⟨j,a,xs,ds,rfl,rfl,m,e,l,i,f,g,h⟩:=p;exact⟨j,f.show k h e,.lst (bQ.mpr ⟨i,e⟩) (g.mono (iz λb q=>cL q))⟩
end
section
variable {X:Cx}{c:Ct}{e a b:Expr}{es rest:List Expr}{f g:GE}{k:Kd}{pos:Pos}
theorem DP.ef {f:FE}(h:DP X c k e f)(l:k≠ .b:=by decide):DE X c k e (pu f):=λhid ρ=>PE.imp (h hid ρ) λσ H Q a=>by
 obtain⟨g,d,ρ',j,q⟩:=a;obtain⟨m,rfl⟩:=GG j;exact⟨g,d,m,λv i s r=>q v i (g.post s r l)⟩
theorem DE.toS(h:DE X c .n e f):DE X c .s e f:=λhid ρ=>PE.imp (h hid ρ) λσ H Q ⟨a,d,ρ',b,q⟩=>⟨a,d,ρ',b,λv g p=>q v g (p.toS a.h0)⟩
def bE {α:Type}(f:GE)(g:D->aG->Option α):aG->Option α:=λρ=>(f ρ).bind λp=>g p.1 p.2
theorem ui {α:Type}{g:D->aG->Option α}{ρ:aG}{z:α}(h:bE f g ρ=some z): ∃d ρ',f ρ=some (d,ρ')/\g d ρ'=some z:=by
 unfold bE at h;cases e:f ρ with
 |none=>rw[e] at h;cases h
 |some p=>rw[e] at h;exact⟨p.1,p.2,rfl,h⟩
def yu(F:D->D->Option D)(f g:GE):GE:=bE f λx=>bE g λy ρ=>(F x y).map λd=>(d,ρ)
theorem Ca{ρ ρ':aG}(h:yu F f g ρ=some (d,ρ')): ∃x ρ1 y,f ρ=some (x,ρ1)/\g ρ1=some (y,ρ')/\F x y=some d:=by
 obtain⟨x,ρ1,b,c⟩:=ui h;obtain⟨y,ρ2,i,a⟩:=ui c;cases e:F x y with
 |none=>rw[e] at a;cases a
 |some z=>rw[e] at a;cases a;exact⟨x,ρ1,y,b,i,e⟩
theorem NF(o:pK X.K k r F)(A:k≠ .b){H:Hp}(h:Ld X.K c hid k (yu F f g) ρ σ H Q):La r (Ld X.K c hid .s f ρ) (λσ H Q=> ∃ρ1,Ld X.K c hid .s g ρ1 σ H Q) σ H Q:=by
 obtain⟨l,d,ρ',m,q⟩:=h;obtain⟨x,ρ1,y,t,i,G⟩:=Ca m;refine⟨l,x,ρ1,t,λv J ⟨D,z,E⟩=>⟨ρ1,z,y,ρ',i,λu I ⟨e,s2,C⟩=>?_⟩⟩;exact o I hid v u x y d Q (λa n=>s2.fresh n) G (.inl (E.mono e.vw)) (.inl C) λw j B p=>q w j (df.left (D.trans e) (s2.post B p A))
theorem vC {α:Type}{t:α->TE}(h: ∀z,PE X e (t z)):PE X e (λσ H Q=> ∃z,t z σ H Q):=λa s σ H Q I ⟨z,q⟩=>h z a s σ H Q I q
def OM(K:Pz)(c:Ct)(hid:bN)(f:GA)(ρ:aG):TA:=λσ H Q=>SR K c hid ρ σ H/\ ∃d ρ',f ρ=some (d,ρ')/\ ∀vs a,ei hid H a->SR K c hid ρ' σ a->Reps K (vw a hid) vs d->Q vs a
def DG(X:Cx)(c:Ct)(es:List Expr)(f:GA):Prop:= ∀hid ρ,PA X es (OM X.K c hid f ρ)
def cq(f:FA):GA:=λρ=>(f ρ).map λd=>(d,ρ)
theorem xn {f:FA}{ρ ρ':aG}(h:cq f ρ=some (d,ρ')):f ρ=some d/\ρ'=ρ:=by
 unfold cq at h;cases e:f ρ with
 |none=>rw[e] at h;cases h
 |some x=>rw[e] at h;cases h;exact⟨rfl,rfl⟩
theorem DA.gf {f:FA}(h:DA X c es f):DG X c es (cq f):=λhid ρ=>PA.imp (h hid ρ) λσ H Q a=>by
 obtain⟨b,d,ρ',g,q⟩:=a;obtain⟨i,rfl⟩:=xn g;exact⟨b,d,i,λv e s r=>q v e (.of s) (b.ext s) r⟩
def dC(f:GE)(a:GA):GA:=bE f λd ρ=>(a ρ).map λp=>(d::p.1,p.2)
theorem L5 {α:Type}{t:α->TA}(h: ∀z,PA X es (t z)):PA X es (λσ H Q=> ∃z,t z σ H Q):=λp a s σ H Q I ⟨z,q⟩=>h z p a s σ H Q I q
theorem ly(u:DE X c .s e f)(m:DG X c es fs)(o:PP (e::es) X.env=(false,eval e X.env)::PP es X.env:=by rfl):DG X c (e::es) (dC f fs):=λhid ρ=>
 PA.imp (c8 (u hid ρ) (L5 λρ1=>m hid ρ1) o) λσ H Q b=>by
  obtain⟨h,d,ρ',i,q⟩:=b;obtain⟨r,ρ1,j,a⟩:=ui i;cases e2:fs ρ1 with
  |none=>rw[e2] at a;cases a
  |some p=>
   rw[e2] at a;obtain⟨ds,ρ2⟩:=p;cases a;exact⟨h,r,ρ1,j,λv x ⟨n,k,t⟩=>⟨ρ1,k,ds,_,e2,λvs w g s2 l=>q _ w (n.trans g) s2 (.cons (t.mono g.vw) l)⟩⟩
end
def cr(K:Pz)(k:Kd)(n:Nat)(P:List D->Option D):Sp:=λvs H Q _=> ∃hid ds,Li hid H/\Reps K (vw H hid) vs ds/\ds.length=n/\ ∃d,P ds=some d/\ ∀v a,a6 H a->RK K k H a hid v d->Q v a
def LX(K:Pz)(k:Kd)(hid:bN)(H b:Hp)(v:V)(d:D)(a:List V)(c:List D):Prop:=match k with
 | .n=> ∃p ys es,d=.lst es/\v=.ref p/\H p=none/\b p=some (.lst ys)/\Reps K (vw b (bn hid p)) ys es/\Reps K (vw b (bn hid p)) a c
 |_=>Rep K (vw b hid) v d/\Reps K (vw b hid) a c
def vW(K:Pz)(k:Kd)(n:Nat)(M:List D->List D->Option (D×List D)):Sp:=λvs H Q _=> ∃hid a xs bs us ds,vs=.ref a::us/\Li hid H/\hid a=true/\H a=some (.lst xs)/\Reps K (vw H hid) xs bs/\
 Reps K (vw H hid) us ds/\ds.length=n/\ ∃d e,M bs ds=some (d,e)/\ ∀v f c,(∀b o,H b=some o->b≠a->f b=some o)->f a=some (.lst c)->LX K k hid H f v d c e->Q v f
section
variable {X:Cx}{c:Ct}{e a b:Expr}{es rest:List Expr}{k:Kd}{pos p:Pos}{x:Str}{f:Addr}{fd:SA}{ps:List Str}{j n:Nat}
theorem Hw(F:gt X.prog X.w X.K X.mg X.base v0 j f fd ps (cr X.K k n P))(D:c4 j X.A)(E:X.mg x=some (.ref f))(y:Vs X.K (.ref f)=true)(u:h7 X.K fd ps [])
 (I:DA X c (e::es) fs) (o:Gl X x:=by rfl) (g:(x==("__debug__":Str))=false:=by decide) (B:PP (e::es) X.env=(false,eval e X.env)::PP es X.env:=by rfl) (i:(R5 pos (PP es X.env)).any (·.1)=false:=by rfl):
 DP X c k (.Call (.Name x p) (e::es) [] pos) (ak (λds=>if ds.length=n then P ds else none) fs):=λhid ρ=>
 PE.imp (A5 F D o E y u .nil (IB (X:=X)) (I hid ρ) g B i) λσ H Q b=>by
  obtain⟨l,d,s,q⟩:=b;obtain⟨ds,t,m⟩:=qz s;have a:(if ds.length=n then P ds else none)=some d:=m;split at a
  ·refine⟨l,ds,t,λvs z h G=>?_⟩;show cr X.K k n P (vs++[]) z Q E0;rw[QX];exact⟨hid,ds,(l.ext h).trk,G, ‹_›,d,a,λv r s2 C=>q v r (h.trans s2) (RK.left h C)⟩
  ·cases a
def iG(i:Nat)(bs:List D)(ρ:aG):aG:=match ρ[i]? with
 |some (.own _)=>ρ.set i (.own bs)
 |some (.arg _)=>ρ.set i (.arg bs)
 |_=>ρ
def jv(i:Nat)(ρ:aG):Option (List D):=match ρ[i]? with
 |some (.own ds)=>some ds
 |some (.arg ds)=>some ds
 |_=>none
theorem jg(h:jv i ρ=some bs):ρ[i]? =some (.own bs)\/ρ[i]? =some (.arg bs):=by
 unfold jv at h;split at h
 ·cases h;exact .inl ‹_›
 ·cases h;exact .inr ‹_›
 ·cases h
theorem SR.held {K:Pz}{hid:bN}{σ:St}(h:SR K c hid ρ σ H)(k:jv i ρ=some bs): ∃a xs,σ[i]? =some (some (.ref a))/\H a=some (.lst xs)/\hid a=true/\Reps K (vw H hid) xs bs/\(c.mu a=true\/c.H₀ a=none):=by
 rcases jg k with e|e
 ·obtain⟨a,xs,d,f,j,b,g⟩:=h.sl i _ e;exact⟨a,xs,d,f,j,g,.inr b⟩
 ·obtain⟨a,xs,d,f,j,b,g⟩:=h.sl i _ e;exact⟨a,xs,d,f,j,g,.inl b⟩
theorem lM {i j:Nat}(h:j≠i):(iG i bs ρ)[j]? =ρ[j]? :=by
 unfold iG;split
 ·rw[PY (QA h)]
 ·rw[PY (QA h)]
 ·rfl
theorem ET{ρ:aG}:(iG i bs ρ).length=ρ.length:=by
 unfold iG;split
 ·simp
 ·simp
 ·rfl
theorem u4 {i j:Nat}(h:Ow (iG i bs ρ)[j]?):Ow ρ[j]? :=by
 by_cases e:j=i
 ·subst e;unfold iG at h;split at h
  ·rw[‹ρ[j]? =_›];trivial
  ·rw[‹ρ[j]? =_›];trivial
  ·exact h
 ·rw[lM e] at h;exact h
theorem SR.put {K:Pz}{H u:Hp}{a:Addr}(h:SR K c hid ρ σ H)(A:jv i ρ=some bs)(k:σ[i]? =some (some (.ref a)))(t: ∀b o,H b=some o->b≠a->u b=some o)
 (y:u a=some (.lst xs')) (r:Reps K (vw u hid) xs' bs'):SR K c hid (iG i bs' ρ) σ u:=by
 obtain⟨a1,xs,I,R,W,Z,E⟩:=h.held A;rw[k] at I;cases I;have G:a6 (vw H hid) (vw u hid):=Aw λb o q p=>t b o q (λe=>by subst e;rw[W] at p;cases p)
 have C: ∀b o,H b=some o-> ∃M,u b=some M:=λb o q=>by
  by_cases e:b=a
  ·subst e;exact⟨_,y⟩
  ·exact⟨o,t b o q e⟩
 refine⟨λb p=>let⟨o,q⟩:=h.tr b p;C b o q,λb xs p q=>by
  by_cases e:b=a
  ·subst e;rw[y] at q;cases q
  ·obtain⟨o,w⟩:=h.tr b p;have z:=t b o w e
   rw[q] at z;cases z;exact h.ht b xs p w,h.h0,λb o q m=>?_,λb o q=>let⟨M,q'⟩:=h.t0 b o q;C b M q',h.c0,h.m0,by rw[ET];exact h.len,λj s q=>?_,λj l z n X S=>h.ap j l z n (u4 X) (u4 S)⟩
 ·refine t b o (h.kp b o q m) λe=>?_
  subst e;rcases E with E|E
  ·rw[E] at m;cases m
  ·rw[E] at q;cases q
 ·by_cases e:j=i
  ·subst e;rcases jg A with w|w
   ·have lt:=(PL.mp w).1;unfold iG at q;rw[w] at q;dsimp only at q;rw[P7 lt] at q;cases q;obtain⟨T,LE,F,Y,Q,L,U⟩:=h.sl j _ w;rw[k] at F;cases F;exact⟨_,xs',k,y,Q,L,r⟩
   ·have lt:=(PL.mp w).1;unfold iG at q;rw[w] at q;dsimp only at q;rw[P7 lt] at q;cases q;obtain⟨T,LE,F,Y,Q,L,U⟩:=h.sl j _ w;rw[k] at F;cases F;exact⟨_,xs',k,y,Q,L,r⟩
  ·rw[lM e] at q;have z:=h.sl j s q;cases s with
   |no=>trivial
   |v d=>obtain⟨x,I,R⟩:=z;exact⟨x,I,R.mono G⟩
   |own ds=>
    obtain⟨f,xs,g,B,J,P,N⟩:=z;have O:f≠a:=λD=>by
     subst D;refine h.ap j i f e (by rw[q];trivial) ?_ g k;rcases jg A with w|w<;>rw[w]<;>trivial
    exact⟨f,xs,g,t _ _ B O,J,P,N.mono G⟩
   |arg ds=>
    obtain⟨f,xs,g,B,J,P,N⟩:=z;have O:f≠a:=λD=>by
     subst D;refine h.ap j i f e (by rw[q];trivial) ?_ g k;rcases jg A with w|w<;>rw[w]<;>trivial
    exact⟨f,xs,g,t _ _ B O,J,P,N.mono G⟩
   |ob b=>
    obtain⟨f,g,B⟩:=z;refine⟨f,g,B.mono (λV x y o w=>t _ _ w (y.ne (λD=>?_) R)) G λ_ _ _ w=>w⟩;subst D;refine h.ap j i f e (by rw[q];exact V) ?_ g k;rcases jg A with w|w<;>rw[w]<;>trivial
def aJ(i n:Nat)(M:List D->List D->Option (D×List D))(b:GA):GE:=λρ=>match jv i ρ with
 |none=>none
 |some _=>match b ρ with
  |none=>none
  |some (ds,ρ1)=>match jv i ρ1 with
   |none=>none
   |some bs=>if ds.length=n then match M bs ds with
     |none=>none
     |some (d,a)=>some (d,iG i a ρ1) else none
theorem rn{ρ ρ':aG}{d:D}(h:aJ i n M fs ρ=some (d,ρ')): ∃b ds ρ1 bs a,jv i ρ=some b/\fs ρ=some (ds,ρ1)/\jv i ρ1=some bs/\ds.length=n/\M bs ds=some (d,a)/\ρ'=iG i a ρ1:=by
 unfold aJ at h;split at h
 ·cases h
 ·split at h
  ·cases h
  ·split at h
   ·cases h
   ·split at h
    ·split at h
     ·cases h
     ·cases h;exact⟨_,_,_,_,_, ‹_›, ‹_›, ‹_›, ‹_›, ‹_›,rfl⟩
    ·cases h
theorem Ef(i:Nat)(F:gt X.prog X.w X.K X.mg X.base v0 j f fd ps (vW X.K k n M))(hr:c4 j X.A)(W:X.mg x=some (.ref f))(hk:Vs X.K (.ref f)=true)(t:h7 X.K fd ps [])
 (ha:DG X c es fs) (R:k≠ .b:=by decide) (hN:X.N[i]? =some y:=by rfl) (hv:wK X.env.scope y:=by first|exact RA rfl|exact Q1 (RA rfl)|exact Q1 (Q1 rfl)) (hd:(y==("__debug__":Str))=false:=by decide)
 (G:(y==("__classdict__":Str))=false:=by decide) (hs:PP (.Name y py::es) X.env=(false,eval (.Name y py) X.env)::PP es X.env:=by rfl) (hg:Gl X x:=by rfl) (L:(x==("__debug__":Str))=false:=by decide) (S:(R5 pos (PP es X.env)).any (·.1)=false:=by rfl):
 DE X c k (.Call (.Name x p) (.Name y py::es) [] pos) (aJ i n M fs):=λhid ρ=>
 PE.imp (A5 F hr hg W hk t .nil (IB (X:=X)) (c8 (pv i hN hv hd G) (ha hid ρ) hs) L hs S) λσ H Q I=>by
  obtain⟨sr,d,ρ',V,q⟩:=I;obtain⟨bs0,ds,ρ1,bs,B,e0,e1,T,e3,e4,rfl⟩:=rn V;obtain⟨a,G8,E,_,a3,_,_⟩:=sr.held e0;refine⟨.ref a,E,sr,ds,ρ1,e1,λus D P l r1=>?_⟩;obtain⟨a',xs,b1,b2,b3,b4,b5⟩:=l.held T;rw[E] at b1;cases b1;show vW X.K k n M ((.ref a::us)++[]) D Q E0;rw[QX];refine⟨hid,a,xs,bs,us,ds,rfl,l.trk,b3,b2,b4,r1,e3,d,B,e4,λv C xs' O hx r=>q v C ?_⟩;have u:ei hid D C:=λb o q t=>O b o q λe=>by subst e;rw[b3] at t;cases t
  cases k with
  |b=>exact absurd rfl R
  |s=>exact⟨P.trans u,l.put T E O hx r.2,r.1⟩
  |n=>
   obtain⟨g,ys,Y,rfl,rfl,h,h2,h3,h4⟩:=r;have U:hid g=false:=l.fresh h;have na:a≠g:=λe=>by subst e;rw[b2] at h;cases h
   have sB:SR X.K c (bn hid g) ρ1 σ (b9 D g (.lst ys)):=l.hide (aT h _) h aV;have Z: ∀b o,(b9 D g (.lst ys)) b=some o->b≠a->C b=some o:=λb o z t=>by
    by_cases e:b=g
    ·subst e;rw[aV] at z;cases z;exact h2
    ·rw[aQ e] at z;exact O b o z t
   have sC:SR X.K c (bn hid g) (iG i B ρ1) σ C:=sB.put T E Z hx h4;have hn:H g=none:=by
    cases e:H g with
    |none=>rfl
    |some o=>rw[P g o e U] at h;cases h
   refine⟨P.trans u,g,ys,Y,rfl,rfl,hn,h2,l.fresh0 h,U,sC,h3,λm W J=>?_⟩;have:=l.notOw U m (u4 W);exact this J
end
inductive Out where
 |nx (ρ:aG)|rt (d:D) (ρ:aG)|bk (ρ:aG)|ct (ρ:aG)|no
abbrev FS:=aG->Out
def NA(c:Ct)(k:Kd)(v:V):bN:=match k,v with
 | .n,.ref a=>bn c.hid₀ a
 |_,_=>c.hid₀
structure Ret(K:Pz)(c:Ct)(k:Kd)(ρ':aG)(H':Hp)(v:V)(d:D):Prop where
 kp: ∀b o,c.H₀ b=some o->c.mu b=false->H' b=some o
 val:match k with
  | .n=> ∃a xs ds,d=.lst ds/\v=.ref a/\c.H₀ a=none/\H' a=some (.lst xs)/\Reps K (vw H' (bn c.hid₀ a)) xs ds
  |_=>Rep K (vw H' c.hid₀) v d
 arg: ∀(i:Nat) (bs:List D),ρ'[i]? =some (Sl.arg bs)-> ∃a xs,c.mu a=true/\H' a=some (.lst xs)/\Reps K (vw H' (NA c k v)) xs bs
def c3(K:Pz)(c:Ct)(k:Kd)(D:jf)(W:Hp):Out->Prop
 | .nx ρ'=> ∀b e a,SR K c a ρ' b e->a6 W (vw e a)->D.nx b e
 | .rt d ρ'=> ∀v e,Ret K c k ρ' e v d->D.rt v e
 | .bk ρ'=> ∀b e a,SR K c a ρ' b e->a6 W (vw e a)->D.bk b e
 | .ct ρ'=> ∀b e a,SR K c a ρ' b e->a6 W (vw e a)->D.ct b e
 | .no=>False
theorem c3.mono {K:Pz}{D:jf}(h:c3 K c k D W o)(s:a6 W W'):c3 K c k D W' o:=by
 cases o with
 |nx ρ=>exact λb e a z w=>h b e a z (s.trans w)
 |rt d ρ=>exact h
 |bk ρ=>exact λb e a z w=>h b e a z (s.trans w)
 |ct ρ=>exact λb e a z w=>h b e a z (s.trans w)
 |no=>exact h
def OD(K:Pz)(c:Ct)(k:Kd)(t:FS)(ρ:aG):TS:=λD σ H=> ∃hid,SR K c hid ρ σ H/\c3 K c k D (vw H hid) (t ρ)
def DS(X:Cx)(c:Ct)(k:Kd)(st:Stmt)(t:FS):Prop:= ∀ρ,PS X st (OD X.K c k t ρ)
def Ag(X:Cx)(c:Ct)(k:Kd)(st:List Stmt)(t:FS):Prop:= ∀ρ,PSs X st (OD X.K c k t ρ)
section
variable {X:Cx}{c:Ct}{k:Kd}{st:Stmt}{sts rest:List Stmt}{t u:FS}{e:Expr}{pos:Pos}
theorem DY {α:Type}{t:α->TS}(h: ∀z,PSs X sts (t z)):PSs X sts (λD σ H=> ∃z,t z D σ H):=λa s σ H D I ⟨z,q⟩=>h z a s σ H D I q
theorem MX {α:Type}{t:α->TT}(h: ∀z,PT X e (t z)):PT X e (λD σ H=> ∃z,t z D σ H):=λa s σ H D I ⟨z,q⟩=>h z a s σ H D I q
def cb:FS:=λρ=>.nx ρ
def aB(t u:FS):FS:=λρ=>match t ρ with
 | .nx ρ'=>u ρ'
 | .rt d ρ'=>.rt d ρ'
 | .bk ρ'=>.bk ρ'
 | .ct ρ'=>.ct ρ'
 | .no=>.no
theorem bZ:Ag X c k [] cb:=λρ=>PSs.imp GX λD σ H ⟨hid,a,q⟩=>q σ H hid a (a6.refl _)
theorem az(h:DS X c k st t):Ag X c k [st] t:=λρ=>GW (h ρ)
theorem ao(j:DS X c k st t)(l:Ag X c k rest u):Ag X c k (st::rest) (aB t u):=λρ=>
 PSs.imp (Dj (j ρ) (DY λρ1=>l ρ1)) λD σ H f=>by
  obtain⟨hid,g,q⟩:=f;refine⟨hid,g,?_⟩;unfold aB at q;cases e:t ρ with
  |nx ρ1=>rw[e] at q;exact λh m a b i=>⟨ρ1,a,b,c3.mono q i⟩
  |rt d ρ1=>rw[e] at q;exact q
  |bk ρ1=>rw[e] at q;exact q
  |ct ρ1=>rw[e] at q;exact q
  |no=>rw[e] at q;exact q
def fy(p:FT)(t u:FS):FS:=λρ=>match p ρ with
 |some true=>t ρ
 |some false=>u ρ
 |none=>.no
theorem eC {p:FT}{a b:List Stmt}(hp:DT X c e p)(ha:Ag X c k a t)(hb:Ag X c k b u):DS X c k (.If e a b pos) (fy p t u):=λρ=>
 PS.imp (MF (MX λhid=>hp hid ρ) (ha ρ) (hb ρ)) λD σ H hq_=>by
  obtain⟨hid,sr,q⟩:=hq_;cases e1:p ρ with
  |none=>unfold fy at q;rw[e1] at q;exact q.elim
  |some x=>
   refine⟨hid,sr,x,e1,λH1 s1=>?_⟩;unfold fy at q;rw[e1] at q;cases x with
   |true=>exact yD ⟨hid,sr.ext s1,c3.mono q (aW s1)⟩
   |false=>exact zj ⟨hid,sr.ext s1,c3.mono q (aW s1)⟩
def bc(f:FE):FS:=λρ=>match f ρ with
 |some d=>.rt d ρ
 |none=>.no
theorem IN {K:Pz}{H g:Hp}(B:k≠ .b)(p:df K c hid k ρ' σ H g v d)(t: ∀b,c.hid₀ b=true->hid b=true):Ret K c k ρ' g v d:=by
 cases k with
 |b=>exact absurd rfl B
 |s=>
  obtain⟨_,f,r⟩:=p;refine⟨f.kp,r.mono (iz f.h0),λi bs e=>?_⟩;obtain⟨a,xs,y,m,w,h,j⟩:=f.sl i _ e;refine⟨a,xs,h,m,?_⟩;show Reps K (vw g c.hid₀) xs bs;exact j.mono (iz f.h0)
 |n=>
  obtain⟨_,a,xs,ds,rfl,rfl,_,x,z,D,f,A,C⟩:=p;have o:a6 (vw g (bn hid a)) (vw g (bn c.hid₀ a)):=iz λb q=>by
   unfold bn at q⊢;cases e:c.hid₀ b with
   |true=>rw[t b e];rfl
   |false=>rw[e] at q;rw[Ra];right;simpa using q
  refine⟨f.kp,⟨a,xs,ds,rfl,rfl,z,x,A.mono o⟩,λi bs e=>?_⟩;obtain⟨u,l,y,m,w,h,j⟩:=f.sl i _ e;exact⟨u,l,h,m,j.mono o⟩
theorem aP(h:DP X c k e f)(g:k≠ .b:=by decide):DS X c k (.Return (some e) pos) (bc f):=λρ=>PS.imp (EK (vC λhid=>h hid ρ)) λD σ H a=>by
 obtain⟨hid,d,q⟩:=a;unfold bc at q;cases e1:f ρ with
 |none=>rw[e1] at q;exact q.elim
 |some z=>rw[e1] at q;exact⟨hid,d,_,e1,λv i s r=>q v i (IN g (d.post s r g) d.h0)⟩
def yw:Option Sl->Option (List D)
 |some (.own ds)=>some ds
 |_=>none
def yh(i:Nat):FS:=λρ=>match yw ρ[i]? with
 |some ds=>.rt (.lst ds) ρ
 |none=>.no
theorem sY(h:yw o=some ds):o=some (.own ds):=by
 unfold yw at h;split at h
 ·cases h;rfl
 ·cases h
theorem vy(i:Nat)(y:X.N[i]? =some x:=by rfl)(hv:wK X.env.scope x:=by first|exact RA rfl|exact Q1 (RA rfl)|exact Q1 (Q1 rfl))(p:(x==("__debug__":Str))=false:=by decide)
 (f:(x==("__classdict__":Str))=false:=by decide):DS X c .n (.Return (some (.Name x pos')) pos) (yh i):=λρ=>PS.imp (EK (pv i y hv p f)) λD σ H g=>by
 obtain⟨hid,d,q⟩:=g;unfold yh at q;cases e0:yw ρ[i]? with
 |none=>rw[e0] at q;exact q.elim
 |some ds=>
  rw[e0] at q;have e:=sY e0;obtain⟨a,xs,r,t,A,u,s⟩:=d.sl i _ e;have k:a6 (vw H hid) (vw H (bn c.hid₀ a)):=iz λb w=>by
   unfold bn at w;cases e:c.hid₀ b with
   |true=>exact d.h0 b e
   |false=>
    rw[e] at w;have:b=a:=by simpa using w
    rw[this];exact A
  refine⟨_,r,q _ H ⟨d.kp,⟨a,xs,ds,rfl,rfl,u,t,s.mono k⟩,λj bs z=>?_⟩⟩;obtain⟨o,h,C,m,B,l,v⟩:=d.sl j _ z;exact⟨o,h,l,m,v.mono k⟩
end
section
variable {K:Pz}{c:Ct}{hid:bN}{ρ:aG}{σ:St}{H H':Hp}{i:Nat}{a:Addr}{v:V}{d:D}
theorem SR.setV(h:SR K c hid ρ σ H)(r:Rep K (vw H hid) v d)(i:Nat):SR K c hid (ρ.set i (.v d)) (σ.set i (some v)) H:=by
 refine⟨h.tr,h.ht,h.h0,h.kp,h.t0,h.c0,h.m0,by simp[h.len],λj s q=>?_,λj l z n p k y u=>?_⟩
 ·by_cases e:j=i
  ·subst e;have lt:j<ρ.length:=by
    have:=(PL.mp q).1;simpa using this
   rw[P7 lt] at q;cases q;exact⟨v,P7 (by rw[h.len];exact lt),r⟩
  ·rw[PY (QA e)] at q;have w:=h.sl j s q;have es:(σ.set i (some v))[j]? =σ[j]? :=PY (QA e);cases s with
   |no=>trivial
   |v d=>obtain⟨x,f,g⟩:=w;exact⟨x,es.trans f,g⟩
   |own ds=>obtain⟨a,xs,f,g⟩:=w;exact⟨a,xs,es.trans f,g⟩
   |arg ds=>obtain⟨a,xs,f,g⟩:=w;exact⟨a,xs,es.trans f,g⟩
   |ob b=>obtain⟨a,f,g⟩:=w;exact⟨a,es.trans f,g⟩
 ·have t: ∀m,Ow (ρ.set i (.v d))[m]? ->m≠i:=λm o e=>by
   subst e
   by_cases lt:m<ρ.length
   ·rw[P7 lt] at o;exact o
   ·rw[QH (by simpa using lt)] at o;exact o
  have B:=t j p;have A:=t l k;rw[PY (QA B)] at p y;rw[PY (QA A)] at k u;exact h.ap j l z n p k y u
theorem SR.setO(h:SR K c hid ρ σ H)(B:H a=some (.lst xs))(A:hid a=true)(y:c.H₀ a=none)(r:Reps K (vw H hid) xs ds)(no: ∀i:Nat,Ow ρ[i]? ->σ[i]? ≠some (some (.ref a)))(i:Nat):
 SR K c hid (ρ.set i (.own ds)) (σ.set i (some (.ref a))) H:=by
 refine⟨h.tr,h.ht,h.h0,h.kp,h.t0,h.c0,h.m0,by simp[h.len],λj s q=>?_,λj l z n t o m f=>?_⟩
 ·by_cases e:j=i
  ·subst e;have lt:j<ρ.length:=by
    have:=(PL.mp q).1;simpa using this
   rw[P7 lt] at q;cases q;exact⟨a,xs,P7 (by rw[h.len];exact lt),B,A,y,r⟩
  ·rw[PY (QA e)] at q;have w:=h.sl j s q;have es:(σ.set i (some (V.ref a)))[j]? =σ[j]? :=PY (QA e);cases s with
   |no=>trivial
   |v d=>obtain⟨x,g,k⟩:=w;exact⟨x,es.trans g,k⟩
   |own ds=>obtain⟨a,xs,g,k⟩:=w;exact⟨a,xs,es.trans g,k⟩
   |arg ds=>obtain⟨a,xs,g,k⟩:=w;exact⟨a,xs,es.trans g,k⟩
   |ob b=>obtain⟨a,g,k⟩:=w;exact⟨a,es.trans g,k⟩
 ·by_cases u:j=i
  ·subst u;have p:l≠j:=λe=>n e.symm
   rw[PY (QA p)] at o f
   by_cases lt:j<σ.length
   ·rw[P7 lt] at m;cases m;exact no l o f
   ·rw[QH (by simpa using lt)] at m;cases m
  ·rw[PY (QA u)] at t m
   by_cases p:l=i
   ·subst p
    by_cases lt:l<σ.length
    ·rw[P7 lt] at f;cases f;exact no j t m
    ·rw[QH (by simpa using lt)] at f;cases f
   ·rw[PY (QA p)] at o f;exact h.ap j l z n t o m f
end
section
variable {X:Cx}{c:Ct}{k:Kd}{st:Stmt}{sts rest:List Stmt}{t u:FS}{e:Expr}{es:List Expr}{pos pos':Pos}{x:Str}{i:Nat}
def g7(i:Nat)(f:GE):FS:=λρ=>match f ρ with
 |some (d,ρ')=>.nx (ρ'.set i (.v d))
 |none=>.no
def bf(i:Nat)(f:FE):FS:=λρ=>match f ρ with
 |some d=>.nx (ρ.set i (.v d))
 |none=>.no
def N8:D->Option (List D)
 | .lst ds=>some ds
 |_=>none
def Ey(i:Nat)(f:GE):FS:=λρ=>match f ρ with
 |some (d,ρ')=>(match N8 d with
  |some ds=>.nx (ρ'.set i (.own ds))
  |none=>.no)
 |none=>.no
def gc(i:Nat)(f:FE):FS:=λρ=>match f ρ with
 |some d=>(match N8 d with
  |some ds=>.nx (ρ.set i (.own ds))
  |none=>.no)
 |none=>.no
theorem lu(i:Nat)(j:X.N.Nodup)(b:DE X c .s e f)(o:X.N[i]? =some x:=by rfl)(n:EX X.env.scope x:=by first|exact RA rfl|exact Q1 rfl)(l:S5 e (some (.Name x pos')) pos.line X.env=pure false:=by rfl)
 (m:X.fn x=true\/X.env.scope.names.lookup x=some .local:=by first|exact .inl rfl|exact .inr rfl|assumption):DS X c k (.Assign [.Name x pos'] e pos) (g7 i f):=λρ=>PS.imp (vD j o n (vC λhid=>b hid ρ) l m) λD σ H a=>by
 obtain⟨hid,h,q⟩:=a;unfold g7 at q;cases e1:f ρ with
 |none=>rw[e1] at q;exact q.elim
 |some z=>
  rw[e1] at q;exact⟨hid,h,z.1,z.2,e1,λv d ⟨g,s',r⟩=>q _ d hid (s'.setV r i) g.vw⟩
theorem aZ(i:Nat)(h:X.N.Nodup)(d:DP X c .s e f)(n:X.N[i]? =some x:=by rfl)(m:EX X.env.scope x:=by first|exact RA rfl|exact Q1 rfl)(j:S5 e (some (.Name x pos')) pos.line X.env=pure false:=by rfl)
 (l:X.fn x=true\/X.env.scope.names.lookup x=some .local:=by first|exact .inl rfl|exact .inr rfl|assumption):DS X c k (.Assign [.Name x pos'] e pos) (bf i f):=λρ=>PS.imp (vD h n m (vC λhid=>d hid ρ) j l) λD σ H a=>by
 obtain⟨hid,b,q⟩:=a;unfold bf at q;cases e1:f ρ with
 |none=>rw[e1] at q;exact q.elim
 |some z=>
  rw[e1] at q;exact⟨hid,b,z,e1,λv g s' r=>q _ g hid ((b.ext s').setV r i) (aW s')⟩
theorem MG {K:Pz}{ρ':aG}{σ:St}{D:jf}(p:df K c hid .n ρ' σ H H' v d)(q:c3 K c k D (vw H hid) (match N8 d with
 |some ds=>.nx (ρ'.set i (.own ds))
 |none=>.no)):D.nx (σ.set i (some v)) H':=by
 obtain⟨j,a,xs,ds,rfl,rfl,l,m,r,t,g,s,h⟩:=p;refine q _ H' (bn hid a) (g.setO m fL r s h i) λb o w=>?_
 obtain⟨e,f⟩:=bQ.mp w;refine bQ.mpr ⟨?_,j b o f e⟩;unfold bn;rw[e];have:b≠a:=bF f l;simp[this]
theorem iA(i:Nat)(g:X.N.Nodup)(d:DP X c .n e f)(m:X.N[i]? =some x:=by rfl)(l:EX X.env.scope x:=by first|exact RA rfl|exact Q1 rfl)(h:S5 e (some (.Name x pos')) pos.line X.env=pure false:=by rfl)
 (j:X.fn x=true\/X.env.scope.names.lookup x=some .local:=by first|exact .inl rfl|exact .inr rfl|assumption):DS X c k (.Assign [.Name x pos'] e pos) (gc i f):=λρ=>PS.imp (vD g m l (vC λhid=>d hid ρ) h j) λD σ H a=>by
 obtain⟨hid,b,q⟩:=a;unfold gc at q;cases e1:f ρ with
 |none=>rw[e1] at q;exact q.elim
 |some z=>
  rw[e1] at q;exact⟨hid,b,z,e1,λv o s r=>MG (b.post s r (by decide)) q⟩
def Cr(i:Nat)(ρ:aG):aG:=match yw ρ[i]? with
 |some ds=>ρ.set i (.v (.lst ds))
 |none=>ρ
theorem SR.freeze {K:Pz}(h:SR K c hid ρ σ H)(i:Nat): ∃g,SR K c g (Cr i ρ) σ H/\a6 (vw H hid) (vw H g):=by
 unfold Cr;cases e0:yw ρ[i]? with
 |none=>exact⟨hid,h,a6.refl _⟩
 |some ds=>
  have e:=sY e0;obtain⟨a,xs,y,G,T,O,M⟩:=h.sl i _ e;have t:a6 (vw H hid) (vw H (xr hid a)):=iz λb w=>by unfold xr at w;rw[Ps] at w;exact w.1
  have A: ∀b,b≠a->hid b=true->xr hid a b=true:=λb n w=>by unfold xr;rw[w];simp[n]
  have L:c.hid₀ a=false:=by
   cases q:c.hid₀ a with
   |false=>rfl
   |true=>obtain⟨o,w⟩:=h.c0 a q;rw[O] at w;cases w
  refine⟨xr hid a,⟨λb w=>h.tr b (by unfold xr at w;rw[Ps] at w;exact w.1),λb xs w=>h.ht b xs (by unfold xr at w;rw[Ps] at w;exact w.1),λb w=>A b (λe=>by subst e;rw[L] at w;cases w) (h.h0 b w),h.kp,h.t0,h.c0,h.m0,by simp[h.len],λj s q=>?_,λj l z n F C S Q=>?_⟩,t⟩
  ·by_cases u:j=i
   ·subst u;rw[P7 (PL.mp e).1] at q;cases q;exact⟨_,y,.lst (bQ.mpr ⟨by unfold xr;simp,G⟩) (M.mono t)⟩
   ·rw[PY (QA u)] at q;have w:=h.sl j s q;cases s with
    |no=>trivial
    |v d=>obtain⟨x,f,r⟩:=w;exact⟨x,f,r.mono t⟩
    |own ds=>
     obtain⟨k,xs,f,r,D,B,E⟩:=w;exact⟨k,xs,f,r,A k (λp=>by subst p;exact h.ap j i _ u (by rw[q];trivial) (by rw[e];trivial) f y) D,B,E.mono t⟩
    |arg ds=>
     obtain⟨k,xs,f,r,D,B,E⟩:=w;exact⟨k,xs,f,r,A k (λp=>by subst p;exact h.ap j i _ u (by rw[q];trivial) (by rw[e];trivial) f y) D,B,E.mono t⟩
    |ob b=>
     obtain⟨k,f,r⟩:=w;exact⟨k,f,r.mono (λ_ _ _ _ q=>q) t λP x R=>A x (R.ne (λp=>by subst p;exact h.ap j i _ u (by rw[q];exact P) (by rw[e];trivial) f y) G)⟩
  ·have I: ∀m,Ow (ρ.set i (.v (.lst ds)))[m]? ->m≠i:=λm o p=>by
    subst p
    by_cases lt:m<ρ.length
    ·rw[P7 lt] at o;exact o
    ·rw[QH (by simpa using lt)] at o;exact o
   have N:=I j F;have J:=I l C;rw[PY (QA N)] at F;rw[PY (QA J)] at C;exact h.ap j l z n F C S Q
theorem KQ(i:Nat)(h:DS X c k st t):DS X c k st (λρ=>t (Cr i ρ)):=λρ=>PS.imp (h (Cr i ρ)) λD σ H b=>by
 obtain⟨hid,f,q⟩:=b;obtain⟨a,d,e⟩:=f.freeze i;exact⟨a,d,c3.mono q e⟩
def cA(f:GE):FS:=λρ=>match f ρ with
 |some (_,ρ')=>.nx ρ'
 |none=>.no
theorem hZ(b:DE X c .s e f)(i:S5 e none pos.line X.env=pure false:=by rfl):DS X c k (.Expr e pos) (cA f):=λρ=>PS.imp (Gv (vC λhid=>b hid ρ) i) λD σ H a=>by
 obtain⟨hid,h,q⟩:=a;unfold cA at q;cases e1:f ρ with
 |none=>rw[e1] at q;exact q.elim
 |some z=>
  rw[e1] at q;exact⟨hid,h,z.1,z.2,e1,λv d ⟨g,s',_⟩=>q _ d hid s' g.vw⟩
def M8(K:Pz)(r:V->List V->Hp->VK->Prop)(n:Nat)(M:List D->List D->Option (D×List D)):Prop:= ∀(H:Hp) (hid:bN) (a:Addr) (xs us:List V) (bs ds c:List D) (d:D) (Q:VK),H a=some (.lst xs)->hid a=true->Reps K (vw H hid) xs bs->Reps K (vw H hid) us ds->
 ds.length=n->M bs ds=some (d,c)->(∀w b,Reps K (vw H hid) b c->Rep K (vw H hid) w d->Q w (b9 H a (.lst b)))->r (.ref a) us H Q
theorem LT {K:Pz}(u:M8 K r n M){bs ds f:List D}(C:ei hid H H1)(m:SR K c hid ρ1 σ H1)(k:jv i ρ1=some bs)
 (t:σ[i]? =some (some (.ref a))) (F:Reps K (vw H1 hid) us ds) (y:ds.length=n) (B:M bs ds=some (d,f)) (q: ∀v l,df K c hid .s (iG i f ρ1) σ H l v d->Q v l):r (.ref a) us H1 Q:=by
 obtain⟨J,xs,p,A,h,E,I⟩:=m.held k;rw[t] at p;cases p;refine u H1 hid a xs us bs ds f d Q A h E F y B λw G x j=>q w _ ⟨C.trans λb o z g=>?_,?_,?_⟩
 ·rw[aQ (λe=>by subst e;rw[h] at g;cases g)];exact z
 ·exact m.put k t (λb o z g=>by rw[aQ g];exact z) aV (by rw[fZ h];exact x)
 ·rw[fZ h];exact j
variable {n:Nat}{M:List D->List D->Option (D×List D)}{fs:GA}{r:V->List V->Hp->VK->Prop}{y name:Str}{py apos:Pos}{id:String}
theorem jQ(i:Nat)(u:M8 X.K r n M)(L:Om X id r)(h:Slot "list" name id)(l:typeOf (.builtin id)=pure (.type "method_descriptor"))(S:DG X c (e::es) fs)
 (J:X.N[i]? =some y:=by rfl) (hv:wK X.env.scope y:=by first|exact RA rfl|exact Q1 (RA rfl)|exact Q1 (Q1 rfl)) (v:(y==("__debug__":Str))=false:=by decide) (k:(y==("__classdict__":Str))=false:=by decide)
 (g:UR (.Name y py) name X.env (eval (.Name y py) X.env)=eval (.Name y py) X.env:=by rfl)
 (j:((R5 pos (PP (e::es) X.env)).all (λx=> !x.1)&&(Yg pos (VM [] X.env)).all (λx=>x.1.isSome)
   &&decide ((e::es).length+([]:List Vb).length+(if([]:List Vb).isEmpty then 0 else 1)<30))=true:=by rfl)
 (f:(apos.endLine==pos.line)=true:=by rfl) (O:PP (e::es) X.env=(false,eval e X.env)::PP es X.env:=by rfl) (b:(R5 pos (PP es X.env)).any (·.1)=false:=by rfl):
 DE X c .s (.Call (.Attribute (.Name y py) name apos) (e::es) [] pos) (aJ i n M fs):=λhid ρ=>
 PE.imp (A6 PySem.F.plainAttrs_list h l L (pv i J hv v k) (S hid ρ) g j f O b) λσ H Q m=>by
  obtain⟨p,d,ρ',o,q⟩:=m;obtain⟨P,ds,ρ1,bs,C,R,G,E,D,z,rfl⟩:=rn o;obtain⟨a,G8,t,w,T,_,_⟩:=p.held R;exact⟨.ref a,t,.inl ⟨rfl,_,SqL.of w⟩,p,ds,ρ1,G,λus U A I B=>LT u A I E t B D z q⟩
end
section
variable {K:Pz}
def gE:List D->List D->Option (D×List D):=λbs ds=>match ds with
 | [d]=>if bs.length<P4 then some (.non,bs++[d]) else none
 |_=>none
theorem gu:M8 K Ap 1 gE:=by
 intro H hid a xs us bs ds g d Q f h c e i b q;unfold gE at b;split at b
 ·split at b
  ·cases b;cases e with
   |cons r t=>
    cases t;exact⟨a,xs,_,rfl,rfl,f,by rw[c.length];assumption,q _ _ (c.append (.cons r .nil)) .non⟩
  ·cases b
 ·cases b
def sK:List D->List D->Option (D×List D):=λbs ds=>match ds with
 | [.int i]=>match (if bs.length<=P4 then x9 bs.length i else none) with
   |some j=>(bs[j]?).map λd=>(d,bs.eraseIdx j)
   |none=>none
 |_=>none
theorem Ke:M8 K DJ 1 sK:=by
 intro H hid a xs us bs ds m d Q l v c f w b q;unfold sK at b;split at b
 ·split at b
  ·rename_i i _ j e
   cases e1:bs[j]? with
   |none=>rw[e1] at b;cases b
   |some z=>
    rw[e1] at b;cases b;cases f with
    |cons r t=>
     cases t;cases r;obtain⟨x,o,n⟩:=c.get e1;split at e
     ·obtain⟨h,s,u,p⟩:=vk e;have k:=c.length;have g:=mK;refine⟨a,xs,i,j,x,rfl,rfl,l,by lia,by lia,by rw[k];exact h,o,q _ _ (c.eraseIdx j) n⟩
     ·cases e
  ·cases b
 ·cases b
end
abbrev FG:=D->aG->Option aG
abbrev tf:=List D->aG->Option aG
def OwK(ρ ρ':aG)(σ a:St):Prop:= ∀i:Nat,Ow ρ'[i]? ->Ow ρ[i]? /\a[i]? =σ[i]?
theorem OwK.trans {ρ ρ1 ρ2:aG}(a:OwK ρ ρ1 σ σ1)(b:OwK ρ1 ρ2 σ1 σ2):OwK ρ ρ2 σ σ2:=λi o=>⟨(a i (b i o).1).1,(b i o).2.trans (a i (b i o).1).2⟩
def Nv {ι:Type}(IR:Hp->V->ι->Prop)(K:Pz)(c:Ct)(hid:bN)(g:ι->aG->Option aG)(ρ:aG)(d:ι):TG:=λv σ H Q=>SR K c hid ρ σ H/\IR (vw H hid) v d/\ ∃ρ',g d ρ=some ρ'/\ ∀a,SR K c hid ρ' a H->OwK ρ ρ' σ a->Q a H
def M9 {ι:Type}(IR:Hp->V->ι->Prop)(X:Cx)(c:Ct)(a:Expr)(g:ι->aG->Option aG):Prop:= ∀hid ρ d,PG X a (Nv IR X.K c hid g ρ d)
abbrev uk(X:Cx)(c:Ct)(a:Expr)(g:FG):Prop:=M9 (Rep X.K) X c a g
def Nt(K:Pz)(c:Ct)(hid:bN)(g:tf)(ρ:aG)(d:List D):Cc:=λv σ H Q=>SR K c hid ρ σ H/\Reps K (vw H hid) v d/\ ∃ρ',g d ρ=some ρ'/\ ∀a,SR K c hid ρ' a H->OwK ρ ρ' σ a->Q a H
def MM(X:Cx)(c:Ct)(a:List Expr)(g:tf):Prop:= ∀hid ρ d,PGs X a (Nt X.K c hid g ρ d)
theorem PG.imp {X:Cx}(h:PG X e t)(i: ∀v σ H Q,t' v σ H Q->t v σ H Q):PG X e t':=λa s σ H v u Q I r q=>h a s σ H v u Q I r (i v σ H Q q)
theorem PGs.imp {X:Cx}(h:PGs X e t)(i: ∀v σ H Q,t' v σ H Q->t v σ H Q):PGs X e t':=λa s σ H v u Q I r q=>h a s σ H v u Q I r (i v σ H Q q)
theorem EL {X:Cx}{e:Expr}{α:Type}{t:α->TG}(h: ∀z,PG X e (t z)):PG X e (λv σ H Q=> ∃z,t z v σ H Q):=λa s σ H v u Q I r ⟨z,q⟩=>h z a s σ H v u Q I r q
theorem v3 {X:Cx}{e:List Expr}{α:Type}{t:α->Cc}(h: ∀z,PGs X e (t z)):PGs X e (λv σ H Q=> ∃z,t z v σ H Q):=λa s σ H v u Q I r ⟨z,q⟩=>h z a s σ H v u Q I r q
section
variable {X:Cx}{c:Ct}{k:Kd}{st:Stmt}{sts body:List Stmt}{t u:FS}{e tg iter:Expr}{es:List Expr}{pos pos':Pos}{x:Str}{i:Nat}
def gN(i:Nat):FG:=λd ρ=>some (ρ.set i (.v d))
theorem ar(i:Nat)(f:X.N.Nodup)(h:X.N[i]? =some x:=by rfl)(l:EX X.env.scope x:=by first|exact RA rfl|exact Q1 rfl)(k:X.fn x=true\/X.env.scope.names.lookup x=some .local:=by first|exact .inl rfl|exact .inr rfl|assumption):
 uk X c (.Name x pos) (gN i):=λhid ρ d=>PG.imp (Io (i:=i) f h l k) λv σ H Q a=>by
 obtain⟨b,r,ρ',e,q⟩:=a;cases e;refine q _ (b.setV r i) λj o=>?_
 have g:j≠i:=λe=>by
  subst e
  by_cases lt:j<ρ.length
  ·rw[P7 lt] at o;exact o
  ·rw[QH (by simpa using lt)] at o;exact o
 rw[PY (QA g)] at o⊢;exact⟨o,rfl⟩
def gX:tf:=λds ρ=>match ds with
 | []=>some ρ
 |_=>none
def cS(g:FG)(a:tf):tf:=λds ρ=>match ds with
 | []=>none
 |d::r=>(g d ρ).bind λρ'=>a r ρ'
theorem bW:MM X c [] gX:=λhid ρ d=>PGs.imp AO λv σ H Q a=>by
 obtain⟨b,r,ρ',e,q⟩:=a;unfold gX at e;split at e
 ·cases e;cases r;exact⟨rfl,q σ b λi o=>⟨o,rfl⟩⟩
 ·cases e
theorem aH(n:uk X c e g)(o:MM X c es gs)(m:(Rn (e::es) X.env).map (·.2)=S6 e X.env::(Rn es X.env).map (·.2):=by rfl):MM X c (e::es) (cS g gs):=λhid ρ d=>
 PGs.imp (ya (EL λd=>n hid ρ d) (v3 λz:aG×List D=>o hid z.1 z.2) m) λv σ H Q b=>by
  obtain⟨i,r,ρ',e,q⟩:=b;cases d with
  |nil=>cases e
  |cons f ds=>
   cases r with
   |cons p l=>
    have e:(g f ρ).bind (λρ'=>gs ds ρ')=some ρ':=e;cases e1:g f ρ with
    |none=>rw[e1] at e;cases e
    |some ρ1=>
     rw[e1] at e;exact⟨_,_,rfl,f,i,p,ρ1,e1,λj k s=>⟨(ρ1,ds),k,l,ρ',e,λa s2 h=>q a s2 (s.trans h)⟩⟩
def gT(n:Nat)(a:tf):FG:=λd ρ=>match d with
 | .tup ds=>if ds.length=n then a ds ρ else none
 |_=>none
theorem cB{g n:Nat}(i:X.calm=true)(h:MM X c es gs)(k:(Rn es X.env).length=n:=by rfl)(b:(Rn es X.env).findIdx? (·.1)=none:=by rfl):uk X c (.Tuple es g pos) (gT n gs):=λhid ρ d=>
 PG.imp (EB i (v3 λds=>h hid ρ ds) k b) λv σ H Q a=>by
  obtain⟨j,r,ρ',e,q⟩:=a;unfold gT at e;split at e
  ·split at e
   ·cases r with
    |tup l f=>exact⟨_,_,rfl,a6.seqT (dD _ _) l,by rw[f.length];assumption,_,j,f,ρ',e,q⟩
   ·cases e
  ·cases e
def KH:Option aG->Out
 |some ρ=>.nx ρ
 |none=>.no
def cD(g:FG)(f:GE):FS:=λρ=>match f ρ with
 |some z=>KH (g z.1 z.2)
 |none=>.no
theorem fq(d:DE X c .s e f)(h:uk X c tg g)(m:UP [tg] e pos.line X.env=pure false:=by rfl)(hw:UQ [tg] e X.env=pure none:=by rfl)
 (n:(Rn [tg] X.env).map (·.2)=[S6 tg X.env]:=by rfl):DS X c k (.Assign [tg] e pos) (cD g f):=λρ=>
 PS.imp (FU (vC λhid=>d hid ρ) (EL λz:bN×aG×D=>h z.1 z.2.1 z.2.2) m hw n) λD σ H a=>by
  obtain⟨hid,l,q⟩:=a;unfold cD at q;cases e1:f ρ with
  |none=>rw[e1] at q;exact q.elim
  |some z=>
   rw[e1] at q;cases e2:g z.1 z.2 with
   |none=>dsimp only at q;rw[e2] at q;exact q.elim
   |some ρ2=>
    dsimp only at q;rw[e2] at q;exact⟨hid,l,z.1,z.2,e1,λv i ⟨j,s',r⟩=>⟨(hid,z.2,z.1),s',r,ρ2,e2,λb s2 _=>q b i hid s2 j.vw⟩⟩
def cW(i:Nat)(a:FE)(d:D)(ρ:aG):Option aG:=match jv i ρ with
 |some bs=>(match a ρ with
  |some (.int j)=>(match x9 bs.length j with
   |some m=>some (iG i (bs.set m d) ρ)
   |none=>none)
  |_=>none)
 |none=>none
theorem yU(h:cW i fi d ρ=some ρ'): ∃bs j m,jv i ρ=some bs/\fi ρ=some (.int j)/\x9 bs.length j=some m/\ρ'=iG i (bs.set m d) ρ:=by
 unfold cW at h;split at h
 ·split at h
  ·split at h
   ·cases h;exact⟨_,_,_, ‹_›, ‹_›, ‹_›,rfl⟩
   ·cases h
  ·cases h
 ·cases h
def NS(K:Pz)(c:Ct)(hid:bN)(g:FG)(ρ:aG)(d:D):TG:=λv σ H Q=>SR K c hid ρ σ H/\Rep K (vw H hid) v d/\ ∃ρ',g d ρ=some ρ'/\ ∀a,ei hid H a->SR K c hid ρ' σ a->Q σ a
def M2(X:Cx)(c:Ct)(a:Expr)(g:FG):Prop:= ∀hid ρ d,PG X a (NS X.K c hid g ρ d)
theorem jA(i:Nat)(E:DP X c k1 ix fi)(F:X.N[i]? =some y:=by rfl)(hv:wK X.env.scope y:=by first|exact RA rfl|exact Q1 (RA rfl)|exact Q1 (Q1 rfl))(C:(y==("__debug__":Str))=false:=by decide)(k:(y==("__classdict__":Str))=false:=by decide)
 (J: ∀v,S6 (.Subscript (.Name y py) ix pos) X.env v=(do
   let ov <-TY [v] (eval (.Name y py) X.env)
   let s <-TY [v,ov] (eval ix X.env)
   VJ pos
   TY [v,ov,s] (setItem ov s v)
   release [v,ov,s] []):=by intro _;rfl):M2 X c (.Subscript (.Name y py) ix pos) (cW i fi):=λhid ρ d=>
 PG.imp (Jd (pv i F hv C k) (E hid ρ) FB J) λv σ H Q l=>by
  obtain⟨g,r,ρ',e,q⟩:=l;obtain⟨bs,j,m,u,B,K,rfl⟩:=yU e;obtain⟨a,xs,x,D,t,A,L⟩:=g.held u;refine⟨.ref a,x,g,_,B,λw M f I=>?_⟩;have G:=(RK.b k1 I λa n=>g.fresh n).int;cases G;have p:=A.mono (aW (hid:=hid) f);refine⟨a,xs,j,m,rfl,rfl,f _ _ D,by rw[A.length];exact K,q _ (λb o z h=>?_) ?_⟩
  ·rw[aQ (λe=>by subst e;rw[t] at h;cases h)];exact f _ _ z
  ·exact(g.ext f).put u x (λb o z h=>by rw[aQ h];exact z) aV (by rw[fZ t];exact Reps.set (r.mono (aW f)) m p)
theorem qy(b:DE X c .s e f)(d:M2 X c tg g)(l:UP [tg] e pos.line X.env=pure false:=by rfl)(hw:UQ [tg] e X.env=pure none:=by rfl)
 (m:(Rn [tg] X.env).map (·.2)=[S6 tg X.env]:=by rfl):DS X c k (.Assign [tg] e pos) (cD g f):=λρ=>
 PS.imp (FU (vC λhid=>b hid ρ) (EL λz:bN×aG×D=>d z.1 z.2.1 z.2.2) l hw m) λD σ H a=>by
  obtain⟨hid,j,q⟩:=a;unfold cD at q;cases e1:f ρ with
  |none=>rw[e1] at q;exact q.elim
  |some z=>
   rw[e1] at q;cases e2:g z.1 z.2 with
   |none=>dsimp only at q;rw[e2] at q;exact q.elim
   |some ρ2=>
    dsimp only at q;rw[e2] at q;exact⟨hid,j,z.1,z.2,e1,λv o ⟨i,s',r⟩=>⟨(hid,z.2,z.1),s',r,ρ2,e2,λn h s2=>q σ n hid s2 (i.trans h).vw⟩⟩
def NL(K:Pz)(c:Ct)(hid:bN)(g:tf)(ρ:aG)(d:List D):Cc:=λv σ H Q=>SR K c hid ρ σ H/\Reps K (vw H hid) v d/\ ∃ρ',g d ρ=some ρ'/\ ∀a,ei hid H a->SR K c hid ρ' σ a->Q σ a
def Nf(X:Cx)(c:Ct)(a:List Expr)(g:tf):Prop:= ∀hid ρ d,PGs X a (NL X.K c hid g ρ d)
theorem A7:Nf X c [] gX:=λhid ρ d=>PGs.imp AO λv σ H Q a=>by
 obtain⟨b,r,ρ',e,q⟩:=a;unfold gX at e;split at e
 ·cases e;cases r;exact⟨rfl,q H (.of (a6.refl _)) b⟩
 ·cases e
theorem nM(m:M2 X c e g)(n:Nf X c es gs)(l:(Rn (e::es) X.env).map (·.2)=S6 e X.env::(Rn es X.env).map (·.2):=by rfl):Nf X c (e::es) (cS g gs):=λhid ρ d=>
 PGs.imp (ya (EL λd=>m hid ρ d) (v3 λz:aG×List D=>n hid z.1 z.2) l) λv σ H Q a=>by
  obtain⟨i,r,ρ',e,q⟩:=a;cases d with
  |nil=>cases e
  |cons b ds=>
   cases r with
   |cons o k=>
    have e:(g b ρ).bind (λρ'=>gs ds ρ')=some ρ':=e;cases e1:g b ρ with
    |none=>rw[e1] at e;cases e
    |some ρ1=>
     rw[e1] at e;exact⟨_,_,rfl,b,i,o,ρ1,e1,λs f j=>⟨(ρ1,ds),j,k.mono f.vw,ρ',e,λp h s2=>q p (f.trans h) s2⟩⟩
theorem Ak{g n:Nat}(i:X.calm=true)(h:Nf X c es gs)(k:(Rn es X.env).length=n:=by rfl)(b:(Rn es X.env).findIdx? (·.1)=none:=by rfl):M2 X c (.Tuple es g pos) (gT n gs):=λhid ρ d=>
 PG.imp (EB i (v3 λds=>h hid ρ ds) k b) λv σ H Q a=>by
  obtain⟨j,r,ρ',e,q⟩:=a;unfold gT at e;split at e
  ·split at e
   ·cases r with
    |tup l f=>exact⟨_,_,rfl,a6.seqT (dD _ _) l,by rw[f.length];assumption,_,j,f,ρ',e,q⟩
   ·cases e
  ·cases e
def ic(K:Pz)(W:Hp)(J:It)(ds:List D):Prop:=
 (∀(i:Nat) (d:D) (H:Hp),ds[i]? =some d->a6 W H->J.go i H/\ ∀x a,J.yld i H x a->a6 H a/\ ∀hid:bN,(∀b,hid b=true-> ∃o,H b=some o)->a6 W (vw H hid)->Rep K (vw a hid) x d)/\ ∀H,a6 W H->J.stop ds.length H
def O6(K:Pz)(c:Ct)(hid:bN)(f:GA)(ρ:aG):TI:=λσ H R=>SR K c hid ρ σ H/\ ∃ds ρ',f ρ=some (ds,ρ')/\ ∀J a,ei hid H a->SR K c hid ρ' σ a->ic K (vw a hid) J ds->R J a
def DI(X:Cx)(c:Ct)(b a:Expr)(f:GA):Prop:= ∀hid ρ,PI X b a (O6 X.K c hid f ρ)
theorem PI.imp {t t':TI}(h:PI X tg iter t)(i: ∀σ H Q,t' σ H Q->t σ H Q):PI X tg iter t':=λa s σ H R I q=>h a s σ H R I (i σ H R q)
theorem NX {α:Type}{t:α->TI}(h: ∀z,PI X tg iter (t z)):PI X tg iter (λσ H R=> ∃z,t z σ H R):=λa s σ H R I ⟨z,q⟩=>h z a s σ H R I q
def zL(f:GE):GA:=λρ=>match f ρ with
 |some (.lst ds,ρ')=>some (ds,ρ')
 |_=>none
theorem Ft {K:Pz}(h:SqT K W a xs)(r:Reps K W xs ds):ic K W (NC K a) ds:=by
 refine⟨λi d H e s=>?_,λH s=>⟨xs,a6.seqT s h,by rw[r.length];exact Px _⟩⟩;obtain⟨x,b,c⟩:=r.get e;refine⟨⟨xs,x,a6.seqT s h,b⟩,λy k ⟨f,j⟩=>?_⟩;subst f;have:=j xs (a6.seqT s h);rw[b] at this;cases this;exact⟨a6.refl _,λhid _ g=>c.mono g⟩
theorem A9(h:DE X c .s iter f):DI X c tg iter (zL f):=λhid ρ=>PI.imp (Ad (h hid ρ)) λσ H R g=>by
 obtain⟨o,ds,ρ',e,q⟩:=g;unfold zL at e;split at e
 ·rename_i n ρ1 b
  cases e;refine⟨o,.lst ds,ρ',b,λv j ⟨p,s',r⟩=>?_⟩;cases r with
  |lst a k=>have a:=SqL.of (K:=X.K) a;exact⟨_,rfl,⟨_,(dD _ _).seq a⟩,q _ j p s' (by
    refine⟨λi d H e s=>?_,λH s=>⟨_,s.seq a,by rw[k.length];exact Px _⟩⟩;obtain⟨x,b,t⟩:=k.get e;refine⟨⟨_,x,s.seq a,b⟩,λy j ⟨l,u⟩=>?_⟩;subst l;have:=u _ (s.seq a)
    rw[b] at this;cases this;exact⟨a6.refl _,λhid _ m=>t.mono m⟩)⟩
 ·cases e
def vZ(a:Int)(n:Nat):List D:=(Pi n).map λ(i:Nat)=>D.int (a+i)
theorem qU {K:Pz}{a:Int}:ic K W (MZ a n) (vZ a n):=by
 refine⟨λi d H e s=>?_,λH s=>by show n<=(vZ a n).length;simp[vZ]⟩;unfold vZ at e;rw[Qi] at e;cases e1:(Pi n)[i]? with
 |none=>rw[e1] at e;cases e
 |some j=>
  rw[e1] at e;obtain⟨b,c⟩:=PL.mp e1;simp at b c;subst c;cases e;refine⟨b,λy k ⟨f,g⟩=>?_⟩;subst f g;exact⟨a6.refl _,λhid _ h=>.int⟩
def EQ(f:GA):GA:=λρ=>match f ρ with
 |some ([.int j],ρ')=>if j.natAbs<4000000000 then some (vZ 0 j.toNat,ρ') else none
 |_=>none
theorem Cb{p:Pos}(j:X.mg "range"=none)(l:DG X c [a] f)(d:Gl X "range":=by rfl)(k:PP [a] X.env=[(false,eval a X.env)]:=by rfl):DI X c tg (.Call (.Name "range" p) [a] [] pos) (EQ f):=λhid ρ=>
 PI.imp (t8 d j (l hid ρ) k) λσ H R b=>by
  obtain⟨i,ds,ρ',e,q⟩:=b;unfold EQ at e;split at e
  ·split at e
   ·cases e;refine⟨i,_,_, ‹_›,λvs g h s' r=>?_⟩;cases r with
    |cons r t=>cases t;cases r;exact⟨_,rfl,by lia,by lia,q _ g h s' qU⟩
   ·cases e
  ·cases e
def fE(g:FG)(b:FS):List D->FS
 | [],ρ=>.nx ρ
 |d::r,ρ=>match g d ρ with
  |none=>.no
  |some ρ1=>match b ρ1 with
   | .nx ρ2=>fE g b r ρ2
   | .ct ρ2=>fE g b r ρ2
   | .bk ρ2=>.nx ρ2
   | .rt d ρ2=>.rt d ρ2
   | .no=>.no
def jG(f:GA)(g:FG)(b:FS):FS:=λρ=>match f ρ with
 |some (ds,ρ')=>fE g b ds ρ'
 |none=>.no
theorem kO(W:YF (model X.prog X.w) X.A X.env X.xe)(U:X.calm=true)(P:DI X c tg iter f)(L:uk X c tg g)(R:Ag X c k body tb)
 (hs: ∀x,QY iter X.env x=pure x:=by intro _;rfl):DS X c k (.For tg iter body [] pos) (jG f g tb):=λρ=>
 PS.imp (Jm W U (NX λhid=>P hid ρ) (EL λz:bN×aG×D=>L z.1 z.2.1 z.2.2) (DY λρ=>R ρ) hs) λD σ H C=>by
  obtain⟨hid,sr,q⟩:=C;unfold jG at q;cases e1:f ρ with
  |none=>rw[e1] at q;exact q.elim
  |some z=>
   obtain⟨ds,r⟩:=z;rw[e1] at q;have V:c3 X.K c k D (vw H hid) (fE g tb ds r):=q;refine⟨hid,sr,ds,r,e1,λJ E T s1 it=>?_⟩;refine⟨λi m σ H=>m=ds.length-i/\i<=ds.length/\ ∃a ρ2,SR X.K c a ρ2 σ H/\a6 (vw E hid) (vw H a)/\c3 X.K c k D (vw H a) (fE g tb (ds.drop i) ρ2),⟨ds.length,by simp,Ri _,hid,r,s1,a6.refl _,c3.mono V T.vw⟩,?_⟩;rintro i m B u ⟨rfl,Q,a,ρ2,s2,v,b⟩;have G:a6 (vw E hid) u:=v.trans (dD _ _)
   by_cases s:i<ds.length
   ·have N:ds[i]? =some ds[i]:=Pq s;have e2:ds.drop i=ds[i]::ds.drop (i+1):=Ry s;rw[e2] at b;unfold fE at b;obtain⟨S,Y⟩:=it.1 i ds[i] u N G;refine .inr ⟨S,λj p=> ∃o l,SR X.K c o l j p/\a6 (vw E hid) (vw p o)/\c3 X.K c k D (vw p o) (fE g tb (ds.drop (i+1)) l),λj p M=>⟨ds.length- (i+1),by lia,rfl,s,M⟩,λx F y=>?_⟩;obtain⟨I,rp⟩:=Y x F y;have Z:=rp a s2.tr v;cases e3:g ds[i] ρ2 with
    |none=>rw[e3] at b;exact b.elim
    |some l=>
     rw[e3] at b;refine⟨(a,ρ2,ds[i]),s2.ext I,Z,l,e3,λO s4 _=>⟨l,a,s4,?_⟩⟩;have t:a6 (vw u a) (vw F a):=aW I;dsimp only at b;cases e4:tb l with
     |nx n=>rw[e4] at b;exact λj p h z w=>⟨h,n,z,(v.trans t).trans w,c3.mono b (t.trans w)⟩
     |ct n=>rw[e4] at b;exact λj p h z w=>⟨h,n,z,(v.trans t).trans w,c3.mono b (t.trans w)⟩
     |bk n=>rw[e4] at b;exact λj p h z w=>b j p h z (t.trans w)
     |rt d n=>rw[e4] at b;exact b
     |no=>rw[e4] at b;exact b.elim
   ·have e:i=ds.length:=by lia
    subst e;rw[Su (Px _)] at b;exact .inl ⟨it.2 u G,b B u a s2 (a6.refl _)⟩
def vX(p:FT)(b:FS):Nat->FS
 |0,_=>.no
 |n+1,ρ=>match p ρ with
  |none=>.no
  |some false=>.nx ρ
  |some true=>match b ρ with
   | .nx ρ2=>vX p b n ρ2
   | .ct ρ2=>vX p b n ρ2
   | .bk ρ2=>.nx ρ2
   | .rt d ρ2=>.rt d ρ2
   | .no=>.no
theorem ym(n:Nat){p:FT}{tb:FS}(hp:YF (model X.prog X.w) X.A X.env X.xe)(hc:DT X c e p)(hb:Ag X c k body tb):DS X c k (.While e body [] pos) (vX p tb n):=λρ=>
 PS.imp (Fk hp (MX λz:bN×aG=>hc z.1 z.2) (DY λρ=>hb ρ)) λD σ H hq_=>by
  obtain⟨hid,sr,q⟩:=hq_;refine⟨λm σ H=> ∃hid2 ρ2,SR X.K c hid2 ρ2 σ H/\c3 X.K c k D (vw H hid2) (vX p tb m ρ2),⟨n,hid,ρ,sr,q⟩,?_⟩;rintro m σ2 H2 ⟨hid2,ρ2,s2,q2⟩;cases m with
  |zero=>exact q2.elim
  |succ m=>
   unfold vX at q2;cases e1:p ρ2 with
   |none=>rw[e1] at q2;exact q2.elim
   |some b=>
    rw[e1] at q2;refine⟨(hid2,ρ2),s2,b,e1,λH3 s3=>?_⟩;cases b with
    |false=>exact zj (q2 σ2 H3 hid2 (s2.ext s3) (aW s3))
    |true=>
     refine yD ⟨λσ' H'=> ∃hid3 ρ3,SR X.K c hid3 ρ3 σ' H'/\c3 X.K c k D (vw H' hid3) (vX p tb m ρ3),λσ' H' n3=>⟨m,QU _,n3⟩,ρ2,hid2,s2.ext s3,?_⟩;have w3:a6 (vw H2 hid2) (vw H3 hid2):=aW s3;dsimp only at q2;cases e4:tb ρ2 with
     |nx ρ5=>rw[e4] at q2;exact λσ' H' hid' z w=>⟨hid',ρ5,z,c3.mono q2 (w3.trans w)⟩
     |ct ρ5=>rw[e4] at q2;exact λσ' H' hid' z w=>⟨hid',ρ5,z,c3.mono q2 (w3.trans w)⟩
     |bk ρ5=>rw[e4] at q2;exact λσ' H' hid' z w=>q2 σ' H' hid' z (w3.trans w)
     |rt d ρ5=>rw[e4] at q2;exact q2
     |no=>rw[e4] at q2;exact q2.elim
end
def kG(n:Nat)(ds:List D):aG:=ds.map Sl.v++Py (n-ds.length) .no
def eO(kd:Kd)(n:Nat)(t:FS)(ds:List D):Option D:=match t (kG n ds) with
 | .rt d _=>some d
 | .nx _=>(match kd with
   | .n=>none
   |_=>some .non)
 |_=>none
def qM(n:Nat)(bs ds:List D):aG:=.arg bs::(ds.map Sl.v++Py (n-1-ds.length) .no)
def rj:aG->Option (List D)
 | .arg bs::_=>some bs
 |_=>none
def zE(kd:Kd)(n:Nat)(t:FS)(bs ds:List D):Option (D×List D):=match t (qM n bs ds) with
 | .rt d ρ=>(rj ρ).map λb=>(d,b)
 | .nx ρ=>(match kd with
   | .n=>none
   |_=>(rj ρ).map λb=>(.non,b))
 |_=>none
theorem Ea {K:Pz}{c:Ct}(m:Nat): ∀ {vs:List V} {ds:List D},Reps K (vw H hid) vs ds-> ∀(i:Nat) (s:Sl),(ds.map Sl.v++Py m .no)[i]? =some s->j1 K c hid (vs.map some++Py m none) H i s:=by
 intro vs ds r i s e;have g:=r.length
 by_cases a:i<ds.length
 ·rw[Qk (by simpa using a),Qi] at e;have b:ds[i]? =some ds[i]:=Pq a;rw[b] at e;cases e;obtain⟨x,d,f⟩:=r.get b;exact⟨x,by rw[Qk (by simp;lia),Qi,d];rfl,f⟩
 ·rw[Qg (by simpa using a),QQ] at e;split at e
  ·cases e;trivial
  ·cases e
theorem Jo {ds:List D}{m i:Nat}: ¬Ow (ds.map Sl.v++Py m Sl.no)[i]? :=λo=>by
 by_cases a:i<ds.length
 ·rw[Qk (by simpa using a),Qi,Pq a] at o;exact o
 ·rw[Qg (by simpa using a),QQ] at o;split at o<;>exact o
theorem SR.begins {K:Pz}{N:List Str}(c:Li hid H)(r:Reps K (vw H hid) vs ds):SR K ⟨H,hid,λ_=>false⟩ hid (kG N.length ds) (start N vs) H:=by
 have d:=r.length;unfold start kG;rw[d];exact⟨c.1,c.2,λ_ h=>h,λ_ _ h _=>h,λb o h=>⟨o,h⟩,c.1,(λ_ h=>nomatch h),by simp[d],λi s e=>Ea _ r i s e,λi j a _ o=>absurd o Jo⟩
section
variable {P:Qp}{w:QD}{K:Pz}{mg:Str->Option Pk}{base:Heap}{x qual:Str}{st:Stmt}{f:Addr}{fd:SA}{N ps:List Str}{k:Nat}{t:FS}{kd:Kd}
theorem Bz(F:Fun K x qual st f fd)(S:bo N ps (aw st))(j:kd≠ .b)
 (l: ∀(g:Pk) (A:Qq) (a:List Env) (s:Pn) (H:Hp) (hid:bN) (E:XK),c4 k (A.deeper (UZ qual (aw st) s.heap.objs.size f g))->
   Ag (sL v0 P w K mg base N qual (aw st) f g A a s H E).nox ⟨H,hid,λ_=>false⟩ kd (dA st) t):
 gt P w K mg base v0 (k+1) f fd ps (cr K kd ps.length (eO kd N.length t)):=by
 refine F.ok S (λvs H Q E h=>?_) (λg A a s H vs Q E D h=>?_)
 ·obtain⟨hid,ds,_,r,p,_⟩:=h;rw[r.length,p]
 ·obtain⟨hid,ds,y,r,p,d,c,q⟩:=h;refine⟨_,l g A a s H hid E D (kG N.length ds),hid,SR.begins y r,?_⟩;unfold eO at c;cases e:t (kG N.length ds) with
  |nx ρ=>
   rw[e] at c;intro C i u B _;have m:a6 H i:=λb o z=>B.kp b o z rfl
   cases kd with
   |b=>exact absurd rfl j
   |s=>cases c;exact q _ i m .non
   |n=>cases c
  |rt d' ρ=>
   rw[e] at c;cases c;intro v i R;have m:a6 H i:=λb o z=>R.kp b o z rfl
   cases kd with
   |b=>exact absurd rfl j
   |s=>exact q v i m R.val
   |n=>exact q v i m R.val
  |bk ρ=>rw[e] at c;cases c
  |ct ρ=>rw[e] at c;cases c
  |no=>rw[e] at c;cases c
theorem SR.beginsE(k:Li hid H)(m:hid a=true)(t:H a=some (.lst xs))(p:Reps K (vw H hid) xs bs)(r:Reps K (vw H hid) us ds)(w:0<N.length):
 SR K ⟨H,hid,λb=>decide (b=a)⟩ hid (qM N.length bs ds) (start N (.ref a::us)) H:=by
 have l:=r.length;have es:start N (.ref a::us)=some (V.ref a)::(us.map some++Py (N.length-1-ds.length) none):=by
  unfold start;rw[Pu,Wb,P1,l];congr 3;lia
 rw[es];unfold qM;refine⟨k.1,k.2,λ_ h=>h,λ_ _ h _=>h,λb o h=>⟨o,h⟩,k.1,λb h=>?_,by simp[l],λi s e=>?_,λi j z n u q A y=>?_⟩
 ·have:b=a:=by simpa using h
  rw[this];exact m
 ·cases i with
  |zero=>
   cases e;exact⟨a,xs,rfl,t,m,by simp,p⟩
  |succ i=>
   have z:=Ea (c:=⟨H,hid,λb=>decide (b=a)⟩) (N.length-1-ds.length) r i s (by simpa using e);cases s with
   |no=>trivial
   |v d=>obtain⟨x,f,g⟩:=z;exact⟨x,by simpa using f,g⟩
   |own ds=>obtain⟨x,xs,f,g⟩:=z;exact⟨x,xs,by simpa using f,g⟩
   |arg ds=>obtain⟨x,xs,f,g⟩:=z;exact⟨x,xs,by simpa using f,g⟩
   |ob b=>obtain⟨x,f,g⟩:=z;exact⟨x,by simpa using f,g⟩
 ·cases i with
  |zero=>
   cases j with
   |zero=>exact n rfl
   |succ j=>exact Jo (by simpa using q)
  |succ i=>exact Jo (by simpa using u)
theorem BP(h:rj ρ=some b):ρ[0]? =some (.arg b):=by
 unfold rj at h;split at h
 ·cases h;rfl
 ·cases h
theorem KL(F:Fun K x qual st f fd)(S:bo N ps (aw st))(m:kd≠ .b)(U:ps.length=n+1)
 (y: ∀(l:Pk) (A:Qq) (g:List Env) (s:Pn) (H:Hp) (hid:bN) (a:Addr) (E:XK),c4 k (A.deeper (UZ qual (aw st) s.heap.objs.size f l))->
   Ag (sL v0 P w K mg base N qual (aw st) f l A g s H E).nox ⟨H,hid,λb=>decide (b=a)⟩ kd (dA st) t):
 gt P w K mg base v0 (k+1) f fd ps (vW K kd n (zE kd N.length t)):=by
 refine F.ok S (λvs H Q E h=>?_) (λl A g s H vs Q E hr h=>?_)
 ·obtain⟨hid,a,xs,bs,us,ds,rfl,_,_,_,_,r,C,_⟩:=h;rw[P1,r.length,C,U]
 ·obtain⟨hid,a,xs,bs,us,ds,rfl,O,ha,hx,M,r,C,d,u,c,q⟩:=h;have Y:0<N.length:=by have:=congrArg Sd S.pre;rw[R4] at this;lia
  refine⟨_,y l A g s H hid a E hr (qM N.length bs ds),hid,SR.beginsE O ha hx M r Y,?_⟩;have fin: ∀(v:V) (i:Hp) (ρ:aG) (d:D),Ret K ⟨H,hid,λb=>decide (b=a)⟩ kd ρ i v d->rj ρ=some u->(∀v i j,(∀b o,H b=some o->b≠a->i b=some o)->i a=some (.lst j)->LX K kd hid H i v d j u->Q v i)->Q v i:=by
   intro v i ρ d R L q;obtain⟨T,j,J,W,B⟩:=R.arg 0 _ (BP L);have:T=a:=by simpa using J
   subst this;refine q v i j (λb o z n=>R.kp b o z (by simpa using n)) W ?_
   cases kd with
   |b=>exact absurd rfl m
   |s=>exact⟨R.val,B⟩
   |n=>
    obtain⟨p,ys,es,rfl,rfl,h1,h2,X⟩:=R.val;exact⟨p,ys,es,rfl,rfl,h1,h2,X,B⟩
  unfold zE at c;cases e:t (qM N.length bs ds) with
  |nx ρ=>
   rw[e] at c;intro Z i G I _;cases kd with
   |b=>exact absurd rfl m
   |s=>
    dsimp only at c;cases e0:rj ρ with
    |none=>rw[e0] at c;cases c
    |some b=>
     rw[e0] at c;cases c;exact fin .non i ρ .non (IN (k:=.s) (by decide) (I.post (k:=.s) (a6.refl _) .non (by decide)) I.h0) e0 q
   |n=>cases c
  |rt d' ρ=>
   rw[e] at c;dsimp only at c;cases e0:rj ρ with
   |none=>rw[e0] at c;cases c
   |some b=>
    rw[e0] at c;cases c;intro v i R;exact fin v i ρ _ R e0 q
  |bk ρ=>rw[e] at c;cases c
  |ct ρ=>rw[e] at c;cases c
  |no=>rw[e] at c;cases c
end
def Aq(K:Pz):Sp:=λvs H Q _=> ∃(a:Addr) (b:List Int),vs=[.ref a]/\SqR K H a (b.map V.int)/\b.length<=63/\ ∀c,Q (.bl true) c
theorem tW {K:Pz}: ∀a:List Int,Reps K F (a.map V.int) (a.map D.int)
 | []=>.nil
 |_::r=>.cons .int (tW r)
theorem JH {P:Qp}{w:QD}{K:Pz}{base:Heap}{x:Str}(F:gt P w K mg base v0 k f fd [x] (cr K .s 1 M))(g: ∀c:List Int,c.length<=63->M [.scr (c.map D.int)]=some (.bl true)):
 gt P w K mg base v0 k f fd [x] (Aq K):=F.imp λvs H Q E d=>by
 obtain⟨a,c,e,i,j,q⟩:=d;subst e;have hv:vw H (λ_=>false)=H:=by funext b;unfold vw;simp
 refine⟨λ_=>false,[.scr (c.map D.int)],⟨(λb h=>nomatch h),(λb xs h=>nomatch h)⟩,?_,rfl,.bl true,g c j,λv l _ r=>?_⟩
 ·rw[hv];exact .cons (.scr i (tW c)) .nil
 ·cases r;exact q l
theorem walkD {l:jaM}{k:Nat}{x:Str}{d:DefRec}{K:Params->Pz}(j:l.most=some 63)(c:d.params.defaults=[])(A:c4 k WA)
 (m: ∀(w:QD) (h:Heap),YP w h->(K w.params).In h)
 (F: ∀(w:QD) (b:Str->Option Pk) (i:Addr) (h:Heap),(K w.params).In h->h.Ns QK b->b d.name=some (.ref i)->
   ∃g:SA,(∀(s:Pn) (u:Pk),Yd s g ⟨[u],[]⟩ [(x,u)])/\ ∀base:Heap,(K w.params).In base->base.Ns QK b->gt l.prog w (K w.params) b base v0 k i g [x] (Aq (K w.params))):
 W.WalkO q loose XP YP l.row.toRowW d [] (λf vs=>ZM f vs):=
 L2.walk_of (n:=63) (k:=k) (x:=x) (CX:=λ_=>v0) (sp:=λw=>Aq (K w.params)) j (by decide) c A m F (λ_ H a t v p y=>⟨a,t,rfl,y.elim (λr=>r.elim (λe=>by rcases p a with z|⟨o,xs,z⟩<;>rw[z] at e<;>cases e) .inl) .inr,v,λ_=>rfl⟩) λ_ _ _ _ _ z=>z
def uK(a:List (Str×Addr)):List (Str×Sn)->List (Str×Addr)->List (Str×Addr)
 | [],acc=>acc
 |(n,k)::r,acc=>uK a r (if k== .free then(match a.lookup n with
  |some c=>(n,c)::acc
  |none=>acc) else acc)
theorem vH {a:List (Str×Addr)}: ∀ {names:List (Str×Sn)} {acc:List (Str×Addr)},(∀p∈acc,a.lookup p.1=some p.2)-> ∀p∈uK a names acc,a.lookup p.1=some p.2
 | [],acc,h,p,d=>h p d
 |(n,k)::r,acc,h,p,d=>by
  refine vH (names:=r) ?_ p d;intro q b;split at b
  ·split at b
   ·rename_i c e
    rcases PX.mp b with rfl|b
    ·exact e
    ·exact h q b
   ·exact h q b
  ·exact h q b
theorem yn: ∀ {names:List (Str×Sn)} {acc:List (Str×Addr)} (p:Str×Addr),p∈uK cells names acc->p∈acc\/(p.1,RQ)∈names
 | [],acc,p,b=>.inl b
 |(n,k)::r,acc,p,b=>by
  rcases yn (names:=r) p b with a|a
  ·split at a
   ·rename_i c
    split at a
    ·rcases PX.mp a with e|a
     ·subst e;have:k=.free:=by simpa using c
      subst this;exact .inr PV
     ·exact .inl a
    ·exact .inl a
   ·exact .inl a
  ·exact .inr (PK _ a)
theorem xZ: ∀ {names:List (Str×Sn)} {acc:List (Str×Addr)} {p:Str×Addr},p∈acc->p∈uK cells names acc
 | [],acc,p,h=>h
 |(n,k)::r,acc,p,h=>by
  refine xZ (names:=r) ?_
  split
  ·split
   ·exact PK _ h
   ·exact h
  ·exact h
theorem Ah {a:List (Str×Addr)}(b:a.lookup x=some c): ∀ {names:List (Str×Sn)} {acc:List (Str×Addr)},(x,RQ)∈names->(x,c)∈uK a names acc
 | [],_,h=>nomatch h
 |(n,k)::r,acc,h=>by
  rcases PX.mp h with e|h
  ·cases e;refine xZ (names:=r) ?_
   rw[if_pos (by rfl),b];exact PV
  ·exact Ah b (names:=r) h
theorem sM {l:List (Str×Addr)}(h:(x,c)∈l)(u: ∀p∈l,p.1=x->p.2=c):l.lookup x=some c:=by
 induction l with
 |nil=>exact nomatch h
 |cons p r f=>
  obtain⟨n,a⟩:=p;rw[Sx];cases e:x==n with
  |true=>
   have b:x=n:=eq_of_beq e;have:=u (n,a) PV b.symm;simpa using this
  |false=>
   have d:x≠n:=λb=>by rw[b] at e;simp at e
   rcases PX.mp h with b|h
   ·cases b;exact absurd rfl d
   ·exact f h λp g=>u p (PK _ g)
theorem yF {a:List (Str×Addr)}(h:(uK a names []).lookup x=some c):a.lookup x=some c:=
 vH (names:=names) (acc:=[]) (λ_ z=>nomatch z) (x,c) (QM h)
theorem pI {a:List (Str×Addr)}(b:a.lookup x=some c)(d:(x,RQ)∈names):(uK a names []).lookup x=some c:=
 sM (Ah b d) λp f e=>by
  have:=vH (names:=names) (acc:=[]) (λ_ z=>nomatch z) p f;rw[e,b] at this;exact(Qu this).symm
theorem fj {scope:Sm}{a:Env}(h: ∀x,(x,RQ)∈scope.names-> ∃c,a.cells.lookup x=some c):closureFor scope a=pure (uK a.cells scope.names []):=by
 unfold closureFor;have f: ∀(names:List (Str×Sn)) (acc:List (Str×Addr)),(∀x,(x,RQ)∈names-> ∃c,a.cells.lookup x=some c)->
  (forIn names acc (λ(p:Str×Sn) (r:List (Str×Addr))=>match p with
    |(name,d)=>if(d==RQ)=true then do
       let b <-cellOf a name
       pure (ForInStep.yield ((name,b)::r)) else pure (ForInStep.yield r)):Sem (List (Str×Addr)))=pure (uK a.cells names acc):=by
  intro names
  induction names with
  |nil=>intro acc _;rfl
  |cons p r g=>
   intro acc h;obtain⟨n,k⟩:=p;rw[List.forIn_cons];have j: ∀x,(x,RQ)∈r-> ∃c,a.cells.lookup x=some c:=λx m=>h x (PK _ m)
   cases e:k==RQ with
   |false=>
    simp only[e,PH,if_false,pure_bind];rw[g acc j]
    conv=>rhs;unfold uK
    simp[e]
   |true=>
    have o:k=.free:=by simpa using e
    subst o;obtain⟨c,i⟩:=h n PV;have l:cellOf a n=pure c:=by unfold cellOf;rw[i]
    simp only[beq_self_eq_true,if_true,l,pure_bind];rw[g _ j]
    conv=>rhs;unfold uK
    simp[i]
 have:=f scope.names [] h;simp only[this,pure_bind]
theorem jq {a:Sm}(h:(Um a env).names.lookup x=some k): ∃b,a.names.lookup x=some b/\(k=b\/(b=.free/\k=.cell)):=by
 unfold Um at h;dsimp only at h;generalize a.names=l at h⊢
 induction l with
 |nil=>simp at h
 |cons p r e=>
  obtain⟨n,c⟩:=p;rw[Pu] at h;dsimp only at h;rw[Sx];cases hx:x==n with
  |true=>
   refine⟨c,rfl,?_⟩;split at h
   ·rename_i d
    rw[Sx] at h;simp only[hx] at h;cases h;have:c=.free:=by
     simp only[Ps] at d;exact eq_of_beq d.1.1
    exact .inr ⟨this,rfl⟩
   ·rw[Sx] at h;simp only[hx] at h;cases h;exact .inl rfl
  |false=>
   split at h
   ·rw[Sx] at h;simp only[hx] at h;exact e h
   ·rw[Sx] at h;simp only[hx] at h;exact e h
def oQ(a:List (Str×Addr))(scope:Sm)(C:Addr):List (Str×Addr):=RW (C+1) scope.names (uK a scope.names [])
theorem bM: ∀(names:List (Str×Sn)) (n:Nat) (acc:List (Str×Addr)),RW n names acc=RW n names []++acc
 | [],_,_=>rfl
 |(name,a)::r,n,acc=>by
  unfold RW;split
  ·rw[bM r (n+1) ((name,n)::acc),bM r (n+1) [(name,n)],QP];rfl
  ·exact bM r n acc
theorem uL: ∀ {names:List (Str×Sn)} {n:Nat} {p:Str×Addr},p∈RW n names []->(p.1,Tl)∈names
 | [],_,_,h=>nomatch h
 |(name,a)::r,n,p,h=>by
  unfold RW at h;split at h
  ·rename_i c
   have b:a=.cell:=by simpa using c
   subst b;rw[bM] at h;rcases QL.mp h with h|h
   ·exact PK _ (uL h)
   ·rw[PQ.mp h];exact PV
  ·exact PK _ (uL h)
theorem o4: ∀ {names:List (Str×Sn)} {n:Nat} {x:Str},(x,Tl)∈names-> ∃c,(x,c)∈RW n names []
 | [],_,_,h=>nomatch h
 |(name,a)::r,n,x,h=>by
  unfold RW;rcases PX.mp h with e|h
  ·cases e;rw[if_pos (by rfl),bM];exact⟨n,P8 _ PV⟩
  ·split
   ·obtain⟨c,b⟩:=o4 (n:=n+1) h;rw[bM];exact⟨c,Q8 _ b⟩
   ·exact o4 h
theorem zm {l:List (Str×Addr)}{c:Addr}(h:(x,c)∈l): ∃d,l.lookup x=some d:=by
 induction l with
 |nil=>exact nomatch h
 |cons p r b=>
  obtain⟨n,a⟩:=p;rw[Sx];cases e:x==n with
  |true=>exact⟨a,rfl⟩
  |false=>
   rcases PX.mp h with f|h
   ·cases f;simp at e
   ·exact b h
theorem fG{a:Sm}(h:(oQ cells a C).lookup x=some c):(x,c)∈RW (C+1) a.names []\/(uK cells a.names []).lookup x=some c:=by
 unfold oQ at h;rw[bM,Vt] at h;cases e:(RW (C+1) a.names []).lookup x with
 |none=>rw[e] at h;exact .inr h
 |some b=>rw[e] at h;cases h;exact .inl (QM e)
theorem D3{a:Sm}(h:(x,Tl)∈a.names): ∃c,(oQ cells a C).lookup x=some c:=by
 obtain⟨c,d⟩:=o4 (n:=C+1) h;obtain⟨b,e⟩:=zm d;exact⟨b,by unfold oQ;rw[bM,Vt,e];rfl⟩
theorem yi{a:Sm}(h:(x,Tl)∉a.names):(oQ cells a C).lookup x=(uK cells a.names []).lookup x:=by
 unfold oQ;rw[bM,Vt];cases e:(RW (C+1) a.names []).lookup x with
 |none=>rfl
 |some b=>exact absurd (uL (QM e)) h
theorem uP{s:Pn}{scope:Sm}{a:Addr}
 (f: ∀h',h'.Ns s.heap.objs.size (λ_=>none)->(∀b o,s.heap.get? b=some o->h'.get? b=some o)->CellsOk h' (s.heap.objs.size+1) (RW (s.heap.objs.size+1) scope.names [])->
   Q (newEnv scope s.heap.objs.size a (RW (s.heap.objs.size+1) scope.names closure) qual none .none (some outer) XY) {s with heap:=h',toks:=s.toks}):
 PJ M A (Uo scope a closure [] qual none .none (some outer)) Q E s:=by
 simp only[Uo,Option.isSome_some,if_true];refine Ph (YZ ?_);refine Ph (wpAny_layCells _ (λname c d=>by cases hkc:c==Tl<;>simp[hkc]) _ _ _ _ ?_);have ok:=cellsFrom_ok scope.names (s.heap.push {cls:=.type "dict",data:=.dict #[]}) (s.heap.objs.size+1) [] ⟨λ_ _ g=>(nomatch g),Si⟩ (by rw[Rc];exact Px _);rw[Rc] at ok;rw[show({s with heap:=s.heap.push {cls:=.type "dict",data:=.dict #[]}}:Pn).heap.objs.size=s.heap.objs.size+1 from Rc ..];rw[List.forIn_nil];refine Ph (Pl (Pl ?_));exact f _ ((Heap.Ns.new s.heap (.type "dict")).keeps (Za _ _)) (λb o e=>Za _ _ b o (Po _ e)) ok
def aD(X:Cx)(N':List Str)(scope:Sm)(C:Addr)(s₀:Pn)(H₀:Hp)(ex:List Addr):Cx where
 prog:=X.prog
 w:=X.w
 K:=X.K
 mg:=X.mg
 base:=X.base
 A:=X.A
 N:=N'
 s₀:=s₀
 H₀:=H₀
 env:=Wc scope (oQ X.env.cells scope C) C X.env
 outer:=X.stack
 stack:=X.stack
 ex:=ex
 fn:=λx=>scope.names.lookup x==some .local||scope.names.lookup x==some .cell
 calm:=X.calm
 pn:=[]
 xe:=λ_ _=>False
def yI(N N':List Str)(a:Sm):Bool:=
 decide (N.length<=N'.length)&&((N'.take N.length).zip N).all (λp=>(p.1==p.2&& !(a.names.lookup p.1==some .local)&& !(a.names.lookup p.1==some .cell))||(a.names.lookup p.1).isNone)&&
  (N'.drop N.length).all λx=>a.names.lookup x==some .local||a.names.lookup x==some .cell
def yt(b:Sm)(a:Sm):Bool:=
 b.names.all λy=>(y.2 != .cell||b.names.lookup y.1==some .cell)&&(y.2 != .local||b.names.lookup y.1==some .local)&&(y.2 != .free||(b.names.lookup y.1==some .free&&(a.names.lookup y.1==some .cell||a.names.lookup y.1==some .free)))
theorem xO {a o:Sm}(h:yt a o=true): ∀y∈a.names,y.2=.cell->a.names.lookup y.1=some .cell:=λy b e=>by
 have:=Pw.mp h y b;simpa [e] using this
theorem lA {a o:Sm}(h:yt a o=true): ∀y∈a.names,y.2=.local->a.names.lookup y.1=some .local:=λy b e=>by
 have:=Pw.mp h y b;simpa [e] using this
theorem i9 {a o:Sm}(h:yt a o=true): ∀x,(x,RQ)∈a.names->o.names.lookup x=some .cell\/o.names.lookup x=some .free:=λx b=>by
 have:=Pw.mp h _ b;simpa using (by simpa using this:_/\_).2
theorem tS {a o:Sm}(h:yt a o=true): ∀x,(x,RQ)∈a.names->a.names.lookup x=some .free:=λx b=>by
 have:=Pw.mp h _ b;simpa using (by simpa using this:_/\_).1
theorem BS {N N':List Str}{b:Sm}(h:yI N N' b=true){i:Nat}(d:i<N.length)(e:N'[i]? =some x)(hv: ∃k,b.names.lookup x=some k/\(k=.local\/k=.cell\/k=.free)):N[i]? =some x/\b.names.lookup x=some .free:=by
 unfold yI at h;simp only[Ps,lb] at h;obtain⟨⟨q,n⟩,_⟩:=h;have c:N[i]? =some N[i]:=Pq d;have o:(N'.take N.length)[i]? =some x:=by rw[VY d];exact e
 have m:(x,N[i])∈(N'.take N.length).zip N:=by
  refine Ql (i:=i) ?_
  rw[RZ];exact⟨o,c⟩
 have:=Pw.mp n _ m;obtain⟨k,f,a⟩:=hv;dsimp only at this;rw[f] at this;simp only[Option.isNone_some,VZ,Ps,QZ] at this;obtain⟨⟨l,p⟩,g⟩:=this;have j:x=N[i]:=eq_of_beq l;rcases a with rfl|rfl|rfl
 ·simp at p
 ·simp at g
 ·exact⟨by rw[c,<-j],f⟩
theorem HJ {N N':List Str}(h:yI N N' sc=true):N.length<=N'.length:=by
 unfold yI at h;simp only[Ps,lb] at h;exact h.1.1
section
variable {X:Cx}{ah:List (Addr×Obj)}{σ:St}{H:Hp}{s:Pn}{scope:Sm}{N':List Str}{fp:List Addr}
theorem Cq(I:Inv X ah σ H s)(f:jS X ah H b):b∉frs X.stack:=λz=>by
 rcases PX.mp (I.stkSub b z) with e|z
 ·exact f.2.1 e
 ·exact f.2.2.1 z
theorem qD {h':Heap}{tk:Nat}(I:Inv X ah σ H s)(hF: ∀b∈fp,jS X ah H b)(hO: ∀b∈fp,∃o,s.heap.get? b=some o)(hk:scope.kind=.function)(hs:yt scope X.env.scope=true)(hn:yI X.N N' scope=true)
 (ns:h'.Ns s.heap.objs.size λ_=>none) (kp: ∀b o,s.heap.get? b=some o->h'.get? b=some o) (oc:CellsOk h' (s.heap.objs.size+1) (RW (s.heap.objs.size+1) scope.names [])):
 Inv (aD X N' scope s.heap.objs.size s H fp) [] (σ++Py (N'.length-X.N.length) none) H {s with heap:=h',toks:=tk}:=by
 have hlen:=HJ hn;have cl: ∀x c,(uK X.env.cells scope.names []).lookup x=some c->X.env.cells.lookup x=some c:=λx c e=>yF e
 have clt: ∀x c,(uK X.env.cells scope.names []).lookup x=some c->c<s.heap.objs.size:=λx c e=>let⟨_,z⟩:=I.cell x c (cl x c e);z.lt
 have newC:H s.heap.objs.size=none:=I.hok.fresh (Px _)
 refine⟨⟨I.ok.mod,hk,I.ok.glob,I.ok.blt,Px _,λx y c h1 h2=>?_,λx hx=>?_,λx c h1 h2=>?_,I.ok.hd,I.ok.frames,.inl rfl,λb hb=>⟨?_,λx c e=>?_⟩,I.bs,Qh I.ok.bsz I.sz,λb o e hb=>?_,λb hb=>Cq I (hF b hb),I.stack,I.stkFree⟩,
  rfl,I.bare,Un.kept kp,⟨_,ns,λi x v e1 e2 e3=>?_⟩,λx c e=>?_,newC,λx c e=>?_,λp hp=>absurd (show p∈([]:List (Addr×Obj)) from hp) (by simp),I.hok.kept kp,?_⟩
 ·
  rcases fG h1 with h1|h1<;>rcases fG h2 with h2|h2
  ·exact name_of_addr oc.apart h1 h2
  ·exact absurd (clt y c h2) (TC.mpr (Tw (oc.empty _ _ h1).2))
  ·exact absurd (clt x c h1) (TC.mpr (Tw (oc.empty _ _ h2).2))
  ·exact I.ok.inj x y c (cl x c h1) (cl y c h2)
 ·
  have hx':(Um scope X.env).names.lookup x=some .cell\/(Um scope X.env).names.lookup x=some .free:=hx;have:(x,Tl)∈scope.names\/(x,RQ)∈scope.names:=by
   rcases hx' with hx'|hx'
   ·obtain⟨k0,e0,e1|⟨e1,_⟩⟩:=jq hx'
    ·subst e1;exact .inl (QM e0)
    ·subst e1;exact .inr (QM e0)
   ·obtain⟨k0,e0,e1|⟨_,e1⟩⟩:=jq hx'
    ·subst e1;exact .inr (QM e0)
    ·cases e1
  rcases this with this|this
  ·exact D3 this
  ·have hc:=i9 hs x this;obtain⟨c,e⟩:=I.ok.has x hc;exact⟨c,(yi λz=>by have z1:=xO hs _ z rfl;have z2:=tS hs x this;rw[z2] at z1;cases z1).trans (pI e this)⟩
 ·
  have h1':scope.names.lookup x=some .local\/scope.names.lookup x=some .cell:=by
   have h1:(scope.names.lookup x==some .local||scope.names.lookup x==some .cell)=true:=h1;simpa using h1
  rcases fG h2 with h2|h2
  ·exact Tw (oc.empty _ _ h2).2
  ·exfalso;rcases yn _ (QM h2) with z|z
   ·exact nomatch z
   ·rw[tS hs x z] at h1';rcases h1' with h1'|h1'<;>cases h1'
 ·obtain⟨o,e⟩:=hO b hb;exact P6 (PB e)
 ·rcases fG e with e|e
  ·obtain⟨o,e'⟩:=hO b hb;exact λz=>absurd (PB e') (TC.mpr (z▸Tw (oc.empty _ _ e).2))
  ·exact(hF b hb).2.2.2.2.1 x c (cl x c e)
 ·obtain⟨_,_,_,h4,_⟩:=hF b hb;rcases h4 with h4|h4
  ·exact I.ok.noex b o e h4
  ·exact absurd (PF (PB e) (Qh I.ok.bsz h4)) (SV _)
 ·have hi:i<X.N.length:=by
   by_cases hi:i<σ.length
   ·rw[<-I.len];exact hi
   ·rw[Qg (by lia),QQ] at e2;split at e2<;>cases e2
  rw[Qk (by rw[I.len];exact hi)] at e2;have e3':(Um scope X.env).names.lookup x=some .local\/(Um scope X.env).names.lookup x=some .cell\/(Um scope X.env).names.lookup x=some .free:=e3;have hv: ∃k,scope.names.lookup x=some k/\(k=.local\/k=.cell\/k=.free):=by
   rcases e3' with z|z|z
   all_goals
    obtain⟨k0,q0,q1|⟨q1,q2⟩⟩:=jq z
    ·subst q1;exact⟨_,q0,by simp⟩
    ·subst q1;exact⟨_,q0,by simp⟩
  obtain⟨hN,hf⟩:=BS hn hi e1 hv;have hfm:=QM hf;have hc:=i9 hs x hfm;have nc:(x,Tl)∉scope.names:=λz=>by have z1:=xO hs _ z rfl;rw[hf] at z1;cases z1
  obtain⟨m,hm,hl⟩:=I.loc;obtain⟨u,r,l⟩:=hl i x v hN e2 (.inr hc);refine⟨u,r,.inr ⟨?_,?_⟩⟩
  ·show(Um scope X.env).names.lookup x=some .cell\/(Um scope X.env).names.lookup x=some .free;rcases e3' with z|z|z
   ·obtain⟨k0,q0,q1|⟨q1,q2⟩⟩:=jq z
    ·subst q1;rw[hf] at q0;cases q0
    ·cases q2
   ·exact .inl z
   ·exact .inr z
  ·rcases l with⟨l,_⟩|⟨_,c,ec,z⟩
   ·have l':X.env.scope.names.lookup x=some .local:=l;rcases hc with hc|hc<;>rw[hc] at l'<;>cases l'
   ·exact⟨c,(yi nc).trans (pI ec hfm),z.keeps kp⟩
 ·rcases fG e with e|e
  ·exact⟨_,(oc.empty _ _ e).1⟩
  ·obtain⟨v,z⟩:=I.cell x c (cl x c e);exact⟨v,z.keeps kp⟩
 ·rcases fG e with e|e
  ·exact I.hok.fresh (Tw (oc.empty _ _ e).2)
  ·exact I.freeC x c (cl x c e)
 ·show(σ++_).length=N'.length;rw[P0,UB,I.len];lia
end
def Ny(K:Pz)(c:Ct)(hid:bN)(f:FA)(ρ:aG):TI:=λσ H R=>SR K c hid ρ σ H/\ ∃ds,f ρ=some ds/\ ∀J a,a6 H a->ic K (vw a hid) J ds->R J a
def DIp(X:Cx)(c:Ct)(b a:Expr)(f:FA):Prop:= ∀hid ρ,PI X b a (Ny X.K c hid f ρ)
def Mn {ι:Type}(IR:Hp->V->ι->Prop)(L W:Hp)(J:It)(ds:List ι):Prop:=
 (∀(i:Nat) (d:ι) (H:Hp),ds[i]? =some d->a6 L H->a6 W H->J.go i H/\ ∀x a,J.yld i H x a->a6 H a/\ ∀hid:bN,(∀b,hid b=true-> ∃o,H b=some o)->a6 W (vw H hid)->IR (vw a hid) x d)/\ ∀H,a6 L H->a6 W H->J.stop ds.length H
abbrev Ms(K:Pz)(L W:Hp)(J:It)(ds:List D):Prop:=Mn (Rep K) L W J ds
theorem ic.b {K:Pz}(h:ic K W J ds):Ms K L W J ds:=⟨λi d H e _ w=>h.1 i d H e w,λH _ w=>h.2 H w⟩
def Op {ι:Type}(IR:Hp->V->ι->Prop)(K:Pz)(c:Ct)(hid:bN)(f:aG->Option (List ι))(ρ:aG):TI:=λσ H R=>SR K c hid ρ σ H/\ ∃ds,f ρ=some ds/\ ∀J a,a6 H a->Mn IR a (vw a hid) J ds->R J a
def Ov {ι:Type}(IR:Hp->V->ι->Prop)(X:Cx)(c:Ct)(b a:Expr)(f:aG->Option (List ι)):Prop:= ∀hid ρ,PI X b a (Op IR X.K c hid f ρ)
abbrev M7(X:Cx)(c:Ct)(b a:Expr)(f:FA):Prop:=Ov (Rep X.K) X c b a f
section
variable {X:Cx}{c:Ct}{k:Kd}{tg iter:Expr}{pos:Pos}
theorem DIp.b(h:DIp X c tg iter f):M7 X c tg iter f:=λhid ρ=>PI.imp (h hid ρ) λσ H R ⟨g,ds,e,q⟩=>⟨g,ds,e,λJ d s a=>q J d s a.b⟩
theorem DIp.e(h:DIp X c tg iter f):DI X c tg iter (cq f):=λhid ρ=>PI.imp (h hid ρ) λσ H R a=>by
 obtain⟨b,ds,ρ',e,q⟩:=a;obtain⟨g,rfl⟩:=xn e;exact⟨b,ds,g,λJ i s d=>q J i (.of s) (b.ext s) d⟩
def gS(f:FE):FA:=λρ=>(f ρ).bind λd=>match d with
 | .lst ds=>some ds
 |_=>none
def xt(f:FE):FA:=λρ=>(f ρ).bind λd=>match d with
 | .tup ds=>some ds
 |_=>none
theorem Ch(h:gS f ρ=some ds):f ρ=some (.lst ds):=by
 unfold gS at h;cases e:f ρ with
 |none=>rw[e] at h;cases h
 |some d=>
  rw[e] at h;cases d with
  |lst z=>cases h;rfl
  |_=>cases h
theorem Cg(h:xt f ρ=some ds):f ρ=some (.tup ds):=by
 unfold xt at h;cases e:f ρ with
 |none=>rw[e] at h;cases h
 |some d=>
  rw[e] at h;cases d with
  |tup z=>cases h;rfl
  |_=>cases h
theorem EY {K:Pz}(b:SqL K W a xs)(c:Reps K W xs ds):ic K W (NH K a) ds:=by
 refine⟨λi d H e s=>?_,λH s=>⟨_,s.seq b,by rw[c.length];exact Px _⟩⟩;obtain⟨x,f,g⟩:=c.get e;refine⟨⟨_,x,s.seq b,f⟩,λy l ⟨h,k⟩=>?_⟩;subst h;have:=k _ (s.seq b);rw[f] at this;cases this;exact⟨a6.refl _,λhid _ j=>g.mono j⟩
theorem eX(h:DP X c .s iter f):DIp X c tg iter (gS f):=λhid ρ=>PI.imp (Ad (h hid ρ)) λσ H R b=>by
 obtain⟨i,ds,e,q⟩:=b;refine⟨i,_,Ch e,λv g s' r=>?_⟩;cases r with
 |lst a d=>have a:=SqL.of (K:=X.K) a;exact⟨_,rfl,⟨_,(dD _ _).seq a⟩,q _ g s' (EY a d)⟩
theorem BA(h:DP X c .s iter f):DIp X c tg iter (xt f):=λhid ρ=>PI.imp (Kz (h hid ρ)) λσ H R a=>by
 obtain⟨i,ds,e,q⟩:=a;refine⟨i,_,Cg e,λv g s' r=>?_⟩;cases r with
 |tup b d=>exact⟨_,rfl,⟨_,a6.seqT (dD _ _) b⟩,q _ g s' (Ft b d)⟩
def eV(f:FA):FA:=λρ=>(f ρ).bind λds=>match ds with
 | [.int j]=>if j.natAbs<4000000000 then some (vZ 0 j.toNat) else none
 |_=>none
theorem dP{p:Pos}(i:X.mg "range"=none)(k:DA X c [a] f)(d:Gl X "range":=by rfl)(j:PP [a] X.env=[(false,eval a X.env)]:=by rfl):DIp X c tg (.Call (.Name "range" p) [a] [] pos) (eV f):=λhid ρ=>
 PI.imp (t8 d i (k hid ρ) j) λσ H R b=>by
  obtain⟨h,ds,e,q⟩:=b;unfold eV at e;cases e1:f ρ with
  |none=>rw[e1] at e;cases e
  |some z=>
   rw[e1] at e;dsimp only[TD] at e;split at e
   ·split at e
    ·cases e;refine⟨h,_,e1,λvs g s' r=>?_⟩;cases r with
     |cons r t=>cases t;cases r;exact⟨_,rfl,by lia,by lia,q _ g s' qU⟩
    ·cases e
   ·cases e
def nz(b:List Expr)(a:Env):Sem Bool:=forIn b true λc r=>if r=true then do let ok <-isTrue c a (eval c a);pure (ForInStep.yield ok) else pure (ForInStep.yield r)
def vY(X:Cx)(c:Ct)(a:List Expr)(p:FT):Prop:= ∀hid ρ (b:List (Addr×Obj)) (s:Pn) (σ:St) (H:Hp) (Q:Bool->Hp->Prop),Inv X b σ H s->NR X.K c hid p ρ σ H Q->PJ (model X.prog X.w) X.A (nz a X.env) (TP X b σ Q) X.xe s
def cj:FT:=λ_=>some true
theorem bV:vY X c [] cj:=λhid ρ b s σ H Q I a=>by
 obtain⟨f,d,e,q⟩:=a;cases e;exact wpAny_tests_nil ⟨H,I,q H (a6.refl _)⟩
theorem jO(h:DT X c e p):vY X c [e] p:=λhid ρ a s σ H Q I q=>wpAny_tests_one (h hid ρ a s σ H Q I q)
end
theorem eW{k a i:Expr}(I:Nat->Pn->Prop)
 (turn: ∀n s,I n s->PJ (model prog w) A (TL it) (λr b=>match r with
   |none=>R (.ok .next) b
   |some v=>PJ (model prog w) A (SL a it v) (λ_ b=>PJ (model prog w) A (S6 a env v) (λ_ j=>
     PJ (model prog w) A (nz ifs env) (λok d=>
      if ok=true then PJ (model prog w) A (eval k env) (λx g=>
       PJ (model prog w) A (call (.builtin "list.append") [acc,x]) (λ_ e=> ∃m,m<n/\I m e) (λ_ _=>False) g) (λ_ _=>False) d
      else∃m,m<n/\I m d) (λ_ _=>False) j) (λ_ _=>False) b) (λ_ _=>False) b) (λ_ _=>False) s)
 (n:Nat) (h:I n s):
 R9 (model prog w) A (.compLoop (.ListComp k [⟨a,i,ifs,0⟩] scope pos) 0 it acc env) R s:=by
 have no: ∀ {t:Pk->Pn->Prop} (x:Pk) (s:Pn),False->t x s:=λ_ _ z=>z.elim
 refine Yh rfl I (λn s q=>?_) n h;show PJ _ A ((Yi (.ListComp k [⟨a,i,ifs,0⟩] scope pos) 0 it acc env).onRaise (λx=>do YL x env;WM x)) _ _ s;refine Y0 ?_
 rw[compTurn_list];refine Ph (RP (Ph (Qv (turn n s q) (λr b c=>?_) no)));cases r with
 |none=>exact Pl c
 |some v=>
  refine Ph (Qv c (λ_ b c=>?_) no);refine Ph (Qv c (λ_ j o=>Ph (Qv o (λok d f=>?_) no)) no);cases ok with
  |false=>exact Pl ⟨rfl,f⟩
  |true=>
   exact Ph (Ph (Qv f (λx g p=>Ph (Qv p (λ_ e l=>Pl (Pl ⟨rfl,l⟩)) no)) no))
def dq {ι:Type}(g:ι->aG->Option aG)(p:FT)(f:FE)(a:aG):List ι->Option (List D)
 | []=>some []
 |d::r=>(g d a).bind λρ1=>(p ρ1).bind λb=>if b=true then(f ρ1).bind λy=>(dq g p f a r).map (y:: ·) else dq g p f a r
def cx {ι:Type}(m:Nat)(a:aG->Option (List ι))(g:ι->aG->Option aG)(p:FT)(f:FE):FE:=λρ=>(a ρ).bind λds=>if ds.length<=P4 then(dq g p f (ρ++Py m .no) ds).map D.lst else none
theorem qG {ι:Type}{m:Nat}{a:aG->Option (List ι)}{g:ι->aG->Option aG}{p:FT}{f:FE}{ρ:aG}{d:D}(h:cx m a g p f ρ=some d): ∃ds ys,a ρ=some ds/\ds.length<=P4/\dq g p f (ρ++Py m .no) ds=some ys/\d=.lst ys:=by
 unfold cx at h;cases e1:a ρ with
 |none=>rw[e1] at h;cases h
 |some ds=>
  rw[e1] at h;dsimp only[TD] at h;split at h
  ·cases e2:dq g p f (ρ++Py m .no) ds with
   |none=>rw[e2] at h;cases h
   |some ys=>rw[e2] at h;cases h;exact⟨ds,ys,rfl, ‹_›,e2,rfl⟩
  ·cases h
def jM {ι:Type}(n:Nat)(g:ι->aG->Option aG):Prop:= ∀d (a ρ1:aG),g d a=some ρ1->ρ1.length=a.length/\ ∀i:Nat,i<n->ρ1[i]? =a[i]?
def Bp(n:Nat)(g:tf):Prop:= ∀d (a ρ1:aG),g d a=some ρ1->ρ1.length=a.length/\ ∀i:Nat,i<n->ρ1[i]? =a[i]?
theorem bz {n i:Nat}(h:n<=i):jM n (gN i):=λd a ρ1 e=>by
 cases e;exact⟨by simp,λj b=>PY (by lia)⟩
theorem jb {n:Nat}:Bp n gX:=λd a ρ1 e=>by
 unfold gX at e;split at e
 ·cases e;exact⟨rfl,λ_ _=>rfl⟩
 ·cases e
theorem cf {n:Nat}(k:jM n g)(l:Bp n gs):Bp n (cS g gs):=λd a ρ1 e=>by
 cases d with
 |nil=>cases e
 |cons d ds=>
  have e:(g d a).bind (λρ'=>gs ds ρ')=some ρ1:=e;cases e1:g d a with
  |none=>rw[e1] at e;cases e
  |some ρ2=>
   rw[e1] at e;obtain⟨h,c⟩:=k d a ρ2 e1;obtain⟨j,f⟩:=l ds ρ2 ρ1 e;exact⟨j.trans h,λi b=>(f i b).trans (c i b)⟩
theorem qJ {n m:Nat}(h:Bp n gs):jM n (gT m gs):=λd a ρ1 e=>by
 unfold gT at e;split at e
 ·split at e
  ·exact h _ _ _ e
  ·cases e
 ·cases e
theorem SR.forget {K:Pz}{b ρ1:aG}{H:Hp}(h:SR K c hid ρ1 σ H)(k:ρ1.length=b.length)(f: ∀(i:Nat) (s:Sl),b[i]? =some s->s=.no\/ρ1[i]? =some s):SR K c hid b σ H:=by
 have d: ∀i:Nat,Ow b[i]? ->Ow ρ1[i]? :=λi o=>by
  cases e:b[i]? with
  |none=>rw[e] at o;exact o.elim
  |some s=>
   rcases f i s e with rfl|z
   ·rw[e] at o;exact o.elim
   ·rw[z,<-e];exact o
 refine⟨h.tr,h.ht,h.h0,h.kp,h.t0,h.c0,h.m0,h.len.trans k,λi s e=>?_,λi j a n l g=>h.ap i j a n (d i l) (d j g)⟩;rcases f i s e with rfl|z
 ·trivial
 ·exact h.sl i s z
theorem SR.more {K:Pz}{σ:St}(h:SR K c hid ρ σ H)(m:Nat):SR K c hid (ρ++Py m .no) (σ++Py m none) H:=by
 have lt: ∀ {i:Nat},Ow (ρ++Py m Sl.no)[i]? ->i<ρ.length:=λ{i} o=>by
  by_cases k:i<ρ.length
  ·exact k
  ·rw[Qg (by lia),QQ] at o;split at o<;>exact o.elim
 refine⟨h.tr,h.ht,h.h0,h.kp,h.t0,h.c0,h.m0,by simp[h.len],λi s e=>?_,λi j a n p l u t=>?_⟩
 ·by_cases k:i<ρ.length
  ·rw[Qk k] at e;have z:=h.sl i s e;have es:(σ++Py m none)[i]? =σ[i]? :=Qk (by rw[h.len];exact k);cases s with
   |no=>trivial
   |v d=>obtain⟨x,f,g⟩:=z;exact⟨x,es.trans f,g⟩
   |own ds=>obtain⟨a,xs,f,g⟩:=z;exact⟨a,xs,es.trans f,g⟩
   |arg ds=>obtain⟨a,xs,f,g⟩:=z;exact⟨a,xs,es.trans f,g⟩
   |ob b=>obtain⟨a,f,g⟩:=z;exact⟨a,es.trans f,g⟩
  ·rw[Qg (by lia),QQ] at e;split at e
   ·cases e;trivial
   ·cases e
 ·have q:=lt p;have r:=lt l;rw[Qk q] at p;rw[Qk r] at l;rw[Qk (by rw[h.len];exact q)] at u;rw[Qk (by rw[h.len];exact r)] at t;exact h.ap i j a n p l u t
section
variable {X:Cx}{c:Ct}{elt tg iter:Expr}{ifs:List Expr}{scope:Sm}{pos:Pos}{N':List Str}{m:Nat}{ι:Type}{IR:Hp->V->ι->Prop}{gi:aG->Option (List ι)}{g:ι->aG->Option aG}{p:FT}{f:FE}
theorem SR.write {K:Pz}{σ:St}(h:SR K c hid ρ σ H)(l:hid a=true)(D:c.H₀ a=none)(C: ∀i:Nat,Ow ρ[i]? ->σ[i]? ≠some (some (.ref a)))(J:H a=some o)(F: ∀p u,o≠ .nst p u:=by intro _ _ e;cases e)(E: ∀xs,o'≠ .tup xs:=by intro _ e;cases e):SR K c hid ρ σ (b9 H a o'):=by
 have k: ∀b o,H b=some o-> ∃r,(b9 H a o') b=some r:=λb o q=>by
  by_cases e:b=a
  ·subst e;exact⟨_,aV⟩
  ·exact⟨o,by rw[aQ e];exact q⟩
 refine⟨λb A=>let⟨o,q⟩:=h.tr b A;k b o q,λb xs A q=>by
  by_cases e:b=a
  ·subst e;rw[aV] at q;exact E _ (Qu q)
  ·rw[aQ e] at q;exact h.ht b xs A q,h.h0,λb o q m=>?_,λb o q=>let⟨r,q2⟩:=h.t0 b o q;k b r q2,h.c0,h.m0,h.len,λi s e=>?_,h.ap⟩
 ·rw[aQ (bF q D)];exact h.kp b o q m
 ·have z:=h.sl i s e;have t: ∀f,Ow ρ[i]? ->σ[i]? =some (some (.ref f))->f≠a:=λf o q w=>by subst w;exact C i o q
  cases s with
  |no=>trivial
  |v d=>obtain⟨x,g,j⟩:=z;exact⟨x,g,by rw[fZ l];exact j⟩
  |own ds=>obtain⟨f,xs,g,j,y,n,B⟩:=z;exact⟨f,xs,g,by rw[aQ (t f (by rw[e];trivial) g)];exact j,y,n,by rw[fZ l];exact B⟩
  |arg ds=>obtain⟨f,xs,g,j,y,n,B⟩:=z;exact⟨f,xs,g,by rw[aQ (t f (by rw[e];trivial) g)];exact j,y,n,by rw[fZ l];exact B⟩
  |ob b=>obtain⟨f,g,j⟩:=z;exact⟨f,g,j.mono (λG x I o q=>by rw[aQ (I.ne (t f (by rw[e];exact G) g) J F)];exact q) (by rw[fZ l];exact a6.refl _) λ_ _ _ q=>q⟩
structure CLI(Y:Cx)(K:Pz)(c:Ct)(hid:bN)(ρ0:aG)(H W:Hp)(D0:Addr)(fp:List Addr)(tn:Nat->Heap->Prop){ι:Type}(g:ι->aG->Option aG)(p:FT)(f:FE)(ds:List ι)(ys:List D)(n i:Nat)(xs:List V)(ad:List D)(σ':St)(H':Hp)(s':Pn):Prop where
 e:n=ds.length-i
 hi:i<=ds.length
 I:Inv Y [] σ' H' s'
 st:tn i s'.heap
 fr: ∀b∈fp,H' b=none
 sr:SR K c hid ρ0 σ' H'
 sm:a6 H H'
 ac:H' D0=some (.lst xs)
 rp:Reps K (vw H' hid) xs ad
 w:a6 W (vw H' hid)
 hl:xs.length<=i
 na: ∀i:Nat,Ow ρ0[i]? ->σ'[i]? ≠some (some (.ref D0))
 go: ∃rest,dq g p f ρ0 (ds.drop i)=some rest/\ad++rest=ys
theorem CC(Z:X.calm=true)(hT:jM X.N.length g)
 (hg: ∀C E B ex,M9 IR (aD X N' scope C E B ex) c tg g) (hp: ∀C E B ex,vY (aD X N' scope C E B ex) c ifs p) (he: ∀C E B ex,DP (aD X N' scope C E B ex) c .s elt f) {H t:Hp} {S s4:Pn} {hid:bN} {ρ:aG} {ds:List ι} {W:Hp} (hρ:ρ.length=X.N.length)
 (I:Inv (aD X N' scope C S t fp) [] σ3 t s4) (sr:SR X.K c hid (ρ++Py m .no) σ3 t) (hh:hid D0=true) (h00:c.H₀ D0=none) (na: ∀i:Nat,Ow (ρ++Py m Sl.no)[i]? ->σ3[i]? ≠some (some (.ref D0))) (hacc:t D0=some (.lst [])) (sm:a6 H t) (nD:H D0=none) (wv:a6 W (vw t hid)) (T:il X.prog X.w X.K tg J fp it tn) (st:tn 0 s4.heap) (hF: ∀b∈fp,t b=none)
 (io:Mn IR H W J ds) (hz:ds.length<=P4) (hc:dq g p f (ρ++Py m .no) ds=some ys)
 (hR: ∀(s':Pn) (h:St) (d:Hp) (xs:List V),Inv (aD X N' scope C S t fp) [] h d s'->a6 H d->d D0=some (.lst xs)->Reps X.K (vw d hid) xs ys->R (.ok .next) s'):
 R9 (model X.prog X.w) X.A (.compLoop (.ListComp elt [⟨tg,iter,ifs,0⟩] scope pos) 0 (.ref it) (.ref D0) (Wc scope (oQ X.env.cells scope C) C X.env)) R s4:=by
 have Y: ∀ {ah:List (Addr×Obj)} {d:Hp},(∀q∈ah,q.1∉fp)->(∀b∈fp,d b=none)-> ∀b∈fp,jS (aD X N' scope C S t fp) ah d b:=λ{ah d} hpn hn b Q=>
  ⟨hn b Q,(I.ok.exf b Q).1,I.ok.exfs b Q,.inl Q,(I.ok.exf b Q).2,λq hq e=>hpn q (by have hq':q∈([]:List (Addr×Obj))++ah:=hq;simpa using hq') (by rw[e];exact Q)⟩
 have no: ∀q∈([]:List (Addr×Obj)),q.1∉fp:=λq hq=>nomatch hq
 refine eW (λn s'=> ∃(i:Nat) (xs:List V) (ad:List D) (h:St) (d:Hp),CLI (aD X N' scope C S t fp) X.K c hid (ρ++Py m .no) H W D0 fp tn g p f ds ys n i xs ad h d s') ?_ ds.length
  ⟨0,[],[],σ3,t,by simp,Ri _,I,st,hF,sr,sm,hacc,.nil,wv,Ri _,na,ys,by simpa using hc,rfl⟩
 rintro n s5 ⟨i,xs,ad,P,H5,rfl,hi,I5,st5,f5,sr5,O,ac5,rp5,w5,hl5,na5,l,a,hy5⟩;have wH:a6 W H5:=w5.trans (dD _ _)
 by_cases hlt:i<ds.length
 ·have hd:ds[i]? =some ds[i]:=Pq hlt;have e2:ds.drop i=ds[i]::ds.drop (i+1):=Ry hlt;rw[e2] at a;unfold dq at a;obtain⟨go,yl⟩:=io.1 i ds[i] H5 hd O wH;refine bT (T.item (aD X N' scope C S t fp) rfl rfl rfl Z i [] s5 P H5 (λ_ _=>False) I5 (Y no f5) st5 go) λr s6 k=>?_
  obtain⟨u,hr,h6⟩:=k;subst hr;refine bT h6 λ_ s7 k=>?_
  obtain⟨x,H7,I7,r7,y7,st7,f7⟩:=k;obtain⟨M,rp⟩:=yl x H7 y7;have rx:=rp hid sr5.tr w5;have I7':=I7.pinned (Y no f7) (T.obj _ _ st7);cases e3:g ds[i] (ρ++Py m .no) with
  |none=>rw[e3] at a;cases a
  |some ρ1=>
   rw[e3] at a;have a:(p ρ1).bind (λb=>if b=true then(f ρ1).bind λy=>(dq g p f (ρ++Py m .no) (ds.drop (i+1))).map (y:: ·) else dq g p f (ρ++Py m .no) (ds.drop (i+1)))=some l:=a;obtain⟨tl1,tl2⟩:=hT _ _ _ e3;have fg: ∀ {h:St} {d:Hp},SR X.K c hid ρ1 h d->SR X.K c hid (ρ++Py m .no) h d:=λ{h d} z=>z.forget tl1 λj s e=>by
    by_cases hj:j<X.N.length
    ·exact .inr ((tl2 j hj).trans e)
    ·refine .inl ?_
     rw[Qg (by lia),QQ] at e;split at e
     ·cases e;rfl
     ·cases e
   have U: ∀ {h:St} {d:Hp} {s':Pn},Inv (aD X N' scope C S t fp) ([]++ml fp s7.heap) h d s'->tn (i+1) s'.heap/\ ∀b∈fp,d b=none:=λ{h d s'} J'=>by
    refine⟨T.keep _ _ _ st7 λb Q o e=>(J'.pin (b,o) (P8 _ (P8 _ (dh Q e)))).1,λb Q=>?_⟩;obtain⟨o,e,_⟩:=T.obj _ _ st7 b Q;exact(J'.pin (b,o) (P8 _ (P8 _ (dh Q e)))).2.1
   refine bT (hg C S t fp hid _ ds[i] _ s7 P H7 x u (λh d=>d=H7/\SR X.K c hid ρ1 h H7/\OwK (ρ++Py m .no) ρ1 P h) I7' r7 ⟨sr5.ext M,rx,ρ1,e3,λh z o=>⟨rfl,z,o⟩⟩) λ_ s8 k=>?_
   obtain⟨L,H8,I8,e8,q8,o8⟩:=k;subst e8;have na8: ∀i:Nat,Ow (ρ++Py m Sl.no)[i]? ->L[i]? ≠some (some (.ref D0)):=λj o=>by
    have o1:Ow ρ1[j]? :=by
     by_cases hj:j<X.N.length
     ·rw[tl2 j hj];exact o
     ·exfalso;rw[Qg (by lia),QQ] at o;split at o<;>exact o.elim
    rw[(o8 j o1).2];exact na5 j o
   cases e4:p ρ1 with
   |none=>rw[e4] at a;cases a
   |some b=>
    rw[e4] at a;have a:(if b=true then(f ρ1).bind λy=>(dq g p f (ρ++Py m .no) (ds.drop (i+1))).map (y:: ·) else dq g p f (ρ++Py m .no) (ds.drop (i+1)))=some l:=a;refine bT (hp C S t fp hid ρ1 _ s8 L H8 (λb' d=>b'=b/\a6 H8 d) I8 ⟨q8,b,e4,λd s'=>⟨rfl,s'⟩⟩) λok s9 k=>?_
    obtain⟨H9,I9,e9,F⟩:=k;subst e9;have w9:a6 (vw H5 hid) (vw H9 hid):=aW (M.trans F);cases ok with
    |false=>
     have a:dq g p f (ρ++Py m .no) (ds.drop (i+1))=some l:=a;obtain⟨k1,k2⟩:=U I9;exact⟨ds.length- (i+1),by lia,i+1,xs,ad,L,H9,rfl,hlt,I9.unpinned,k1,k2,fg (q8.ext F),O.trans (M.trans F),F _ _ (M _ _ ac5),rp5.mono w9,w5.trans w9,by lia,na8,l,a,hy5⟩
    |true=>
     have a:((f ρ1).bind λy=>(dq g p f (ρ++Py m .no) (ds.drop (i+1))).map (y:: ·))=some l:=a;cases e5:f ρ1 with
     |none=>rw[e5] at a;cases a
     |some y=>
      rw[e5] at a;have a:(dq g p f (ρ++Py m .no) (ds.drop (i+1))).map (y:: ·)=some l:=a;cases e6:dq g p f (ρ++Py m .no) (ds.drop (i+1)) with
      |none=>rw[e6] at a;cases a
      |some rest'=>
       rw[e6] at a;cases a;show PJ (model X.prog X.w) X.A (eval elt _) _ _ s9;refine bT (he C S t fp hid ρ1 _ s9 L H9 (λv d=>a6 H9 d/\Rep X.K (vw d hid) v y) I9 ⟨q8.ext F,y,e5,λv d s' r=>⟨s',r⟩⟩) λv s10 k=>?_
       obtain⟨z,G,I10,rz,sm10,rp10⟩:=k;have sm':a6 H5 G:=M.trans (F.trans sm10);have a10:G D0=some (.lst xs):=sm' _ _ ac5;refine bT (du (X:=aD X N' scope C S t fp) _ s10 L G (.ref D0) [z] (.ref D0) [v] (λ_ d=>d=b9 G D0 (.lst (xs++[z]))) I10 rfl (.cons rz .nil) ⟨D0,xs,z,rfl,rfl,a10,by lia,rfl⟩) λ_ s11 ⟨_,H11,I11,_,e11⟩=>?_
       subst e11;obtain⟨k1,k2⟩:=U I11;have vv:vw (b9 G D0 (.lst (xs++[z]))) hid=vw G hid:=fZ hh;have w10:a6 (vw H5 hid) (vw G hid):=aW sm';refine⟨ds.length- (i+1),by lia,i+1,xs++[z],ad++[y],L,_,rfl,hlt,I11.unpinned,k1,k2,?_,λb o e=>?_,aV,?_,?_,by simp;lia,na8,rest',e6,by rw[<-hy5];simp⟩
       ·
        have q10:=fg ((q8.ext F).ext sm10);exact q10.write hh h00 na8 a10
       ·rw[aQ (bF e nD)];exact sm' _ _ (O _ _ e)
       ·rw[vv];exact(rp5.mono w10).append (.cons rp10 .nil)
       ·rw[vv];exact w5.trans w10
 ·have e:i=ds.length:=by lia
  subst e;rw[Su (Px _)] at a;cases a;rw[QX] at hy5;subst hy5;refine bT (T.done (aD X N' scope C S t fp) rfl rfl rfl Z ds.length [] s5 P H5 (λ_ _=>False) I5 (Y no f5) st5 (io.2 H5 O wH)) λr s6 k=>?_
  obtain⟨hr,I6⟩:=k;subst hr;exact hR s6 P H5 xs I6 O ac5 rp5
theorem rT(y:X.calm=true)(hk:scope.kind=.function)(hs:yt scope X.env.scope=true)(hn:yI X.N N' scope=true)(hm:N'.length-X.N.length=m)(hT:jM X.N.length g)
 (hg: ∀C h d B,M9 IR (aD X N' scope C h d B) c tg g) (hp: ∀C h d B,vY (aD X N' scope C h d B) c ifs p) (he: ∀C h d B,DP (aD X N' scope C h d B) c .s elt f) {s:Pn} {ds:List ι} {RR:Pk->Addr->Vr->Pn->Prop}
 (I:Inv X ah σ H s) (M:SR X.K c hid ρ σ H) (T:il X.prog X.w X.K tg J fp it tn) (st:tn 0 s.heap) (hF: ∀b∈fp,jS X ah H b) (io:Mn IR H (vw H hid) J ds) (hz:ds.length<=P4) (hc:dq g p f (ρ++Py m .no) ds=some ys)
 (hR: ∀(D C:Addr) (s':Pn) (q:Hp) (xs:List V),s.heap.objs.size<=D->s.heap.objs.size<=C->D≠C->H D=none->a6 H q->q D=some (.lst xs)->Reps X.K (vw q (bn hid D)) xs ys->(∃m,s'.heap.Ns C m)->q C=none->s'.os=s.os->Uj s'.gens->HOk X.prog X.w q s'.heap->Un (frs X.stack) fp H q s.heap s'.heap->RR (.ref D) C (.ok .next) s'):
 PJ (model X.prog X.w) X.A (Xl []) (λacc P=>PJ (model X.prog X.w) X.A (Uo scope X.env.globals (uK X.env.cells scope.names []) [] X.env.qual none .none (some X.env)) (λr O=>
  R9 (model X.prog X.w) X.A (.compStart (.ListComp elt [⟨tg,iter,ifs,0⟩] scope pos) 0 (.ref it) acc {r with scope:=Um scope X.env}) (RR acc r.locals) O) E P) E s:=by
 refine Rh (uP λu a n j=>?_);dsimp only at a n j⊢;generalize v:s.heap.push {cls:=.type "list",dict:=none,data:=.seq ([]:List Pk).toArray}=H2 at a n j⊢;have hC:H2.objs.size=s.heap.objs.size+1:=by rw[<-v,Rc]
 have l:H s.heap.objs.size=none:=I.hok.fresh (Px _);have I2:Inv X ah σ (b9 H s.heap.objs.size (.lst [])) {s with heap:=H2}:=by
  rw[<-v];exact I.laid (t':=s.toks) (λb o e=>Po _ e) (Px _) ⟨Ri _,[],0,.nil,PD _ rfl⟩
 have L: ∀b∈fp,b<s.heap.objs.size:=λb k=>let⟨o,e,_⟩:=T.obj 0 s.heap st b k;PB e
 have G: ∀b∈fp,jS X ah (b9 H s.heap.objs.size (.lst [])) b:=λb k=>⟨by rw[aQ (P6 (L b k))];exact(hF b k).1,(hF b k).2⟩
 have x: ∀b o,s.heap.get? b=some o->H2.get? b=some o:=λb o e=>by rw[<-v];exact Po _ e
 have IY:=qD (tk:=s.toks) (N':=N') (fp:=fp) I2 G (λb k=>let⟨o,e,_⟩:=T.obj 0 s.heap st b k;⟨o,x b o e⟩) hk hs hn a n j;rw[hm] at IY;dsimp only at IY;have ST:SR X.K c (bn hid s.heap.objs.size) (ρ++Py m .no) (σ++Py m none) (b9 H s.heap.objs.size (.lst [])):=(M.hide (aT l _) l aV).more m;have Y:ρ.length=X.N.length:=by rw[<-M.len];exact I.len
 have nf:hid s.heap.objs.size=false:=M.fresh l;have F:tn 0 u:=T.keep _ _ _ st λb k o e=>n b o (x b o e)
 have Tm: ∀i:Nat,Ow (ρ++Py m Sl.no)[i]? ->(σ++Py m none)[i]? ≠some (some (V.ref s.heap.objs.size)):=(M.more m).notOw nf
 have wv:a6 (vw H hid) (vw (b9 H s.heap.objs.size (.lst [])) (bn hid s.heap.objs.size)):=by rw[vt l];exact a6.refl _
 have t: ∀Z:Pn,Z={s with heap:=u,toks:=s.toks}->
  R9 (model X.prog X.w) X.A (.compLoop (.ListComp elt [⟨tg,iter,ifs,0⟩] scope pos) 0 (.ref it) (.ref s.heap.objs.size) (Wc scope (oQ X.env.cells scope H2.objs.size) H2.objs.size X.env)) (RR (.ref s.heap.objs.size) H2.objs.size) Z:=by
  rintro Z rfl;refine CC (H:=H) (hid:=bn hid s.heap.objs.size) (W:=vw H hid) y hT hg hp he Y IY ST fL (M.fresh0 l) Tm aV (aT l _) l wv T F (λb k=>(G b k).1) io hz hc ?_
  intro s' σ' q xs z R S Q;have U:Un (frs X.stack) fp H (b9 H s.heap.objs.size (.lst [])) s.heap H2:=Un.laid (λb o e=>x b o e) (Px _) l;refine hR s.heap.objs.size H2.objs.size s' q xs (Px _) (by rw[hC];exact Ud _) (by rw[hC];exact P6 (QU _)) l R S Q (let⟨m,hm,_⟩:=z.loc;⟨m,hm⟩) z.free z.os z.bare z.hok (U.trans z.base)
 exact Up (t _ rfl) (T.self X.A 0 _ _ _ F (t _ rfl))
theorem kT(l:X.calm=true)(hT:jM X.N.length g)(hi:Ov IR X c tg iter gi)
 (hg: ∀C a h E,M9 IR (aD X N' scope C a h E) c tg g) (hp: ∀C a h E,vY (aD X N' scope C a h E) c ifs p) (he: ∀C a h E,DP (aD X N' scope C a h E) c .s elt f)
 (hk:scope.kind=.function:=by rfl) (hs:yt scope X.env.scope=true:=by kernel_rfl) (hn:yI X.N N' scope=true:=by kernel_rfl) (hm:N'.length-X.N.length=m:=by rfl) (G: ∀x,QY iter X.env x=pure x:=by intro _;rfl):
 DP X c .n (.ListComp elt [⟨tg,iter,ifs,0⟩] scope pos) (cx m gi g p f):=by
 intro hid ρ ah s σ H Q I hq;obtain⟨sr,d,hd,q⟩:=hq;obtain⟨ds,ys,e1,hz,hc,rfl⟩:=qG hd;rw[eval_ListComp];refine SX (use:=none) rfl G (fj λx hx=>I.ok.has x (i9 hs x hx)) hk (lA hs) ?_
 refine bT (hi hid ρ ah s σ H (λJ j=>a6 H j/\Mn IR j (vw j hid) J ds) I ⟨sr,ds,e1,λJ j s1 R=>⟨s1,R⟩⟩) λv s1 L=>bT L λitv s2 y=>?_
 obtain⟨it,fp,tn,J,H2,rfl,I2,T,st2,B,W,R⟩:=y;refine rT (RR:=λacc C=>ZN (model X.prog X.w) X.A X.xe none (EP X ah σ Q) acc C) l hk hs hn hm hT hg hp he I2 (sr.ext W) T st2 B R hz hc ?_
 intro D C s' j xs hDge K hDC hD V hx rp ⟨mm,hns⟩ Z U t Y i;refine⟨mm,hns,λh' k=>⟨.ref D,j,?_,rfl,q _ j (W.trans V) ⟨D,xs,ys,rfl,rfl,W.free hD,hx,rp⟩⟩⟩;have r: ∀b o,s2.heap.get? b=some o->b≠C:=λb o e z=>by subst z;exact absurd (PB e) (TC.mpr K)
 have M:Un (frs X.stack) fp H2 j s2.heap h':=⟨λb o e n L y=>(k.2 b (r b o e)).trans (i.keep b o e n L y),λb o e n L y=>let⟨sl,z⟩:=i.slot b o e n L y;⟨sl,(k.2 b (r b o e)).trans z⟩,i.free,λb o e y=>let⟨P,z⟩:=i.there b o e y;⟨P,(k.2 b (r b o e)).trans z⟩,i.tups,i.frzs,i.tbls⟩
 have F:HOk X.prog X.w j h':=λb o e=>by
  have nb: ∀b' P,j b'=some P->b'≠C:=λb' P e' z=>by subst z;rw[Z] at e';cases e'
  refine(Y b o e).stay (λc' u S z=>(k.2 c' ?_).trans z) (λ_ z=>z) λ_ _ z=>z
  rcases S with z'|z'
  ·rw[z'];exact nb b o e
  ·exact nb c' _ z'
 exact I2.call' (s':={s' with heap:=h'}) (ch:=fp) U M F t λb O=>⟨(B b O).2.2.2.1,(B b O).2.1,(B b O).2.2.2.2.1,(B b O).2.2.2.2.2⟩
end
section
variable {X:Cx}{c:Ct}{elt tg iter:Expr}{ifs:List Expr}{scope:Sm}{pos spos py:Pos}{N':List Str}{m:Nat}{gi:FA}{g:FG}{p:FT}{f:FE}{y:Str}
theorem Hc(i:Nat)(B:X.calm=true)(hN:X.N.Nodup)(hT:jM X.N.length g)(hi:M7 X c tg iter gi)
 (hg: ∀C j h L,uk (aD X N' scope C j h L) c tg g) (hp: ∀C j h L,vY (aD X N' scope C j h L) c ifs p) (he: ∀C j h L,DP (aD X N' scope C j h L) c .s elt f)
 (X3:S5 (.ListComp elt [⟨tg,iter,ifs,0⟩] scope pos) (some (.Name y py)) spos.line X.env=pure true) (XL:X.N[i]? =some y) (hy:X.env.scope.names.lookup y=some .local)
 (hk:scope.kind=.function) (hs:yt scope X.env.scope=true) (hn:yI X.N N' scope=true) (hm:N'.length-X.N.length=m) (M: ∀x,QY iter X.env x=pure x) (ρ:aG):
 PS X (.Assign [.Name y py] (.ListComp elt [⟨tg,iter,ifs,0⟩] scope pos) spos) (G6 (λσ H Q=> ∃hid,Gb X.K c hid .n (cx m gi g p f) ρ σ H Q) (Au i)):=by
 intro R s σ H E I O;obtain⟨hid,sr,d,hd,q⟩:=O;obtain⟨ds,ys,e1,hz,hc,rfl⟩:=qG hd;rw[WR _ _ _ _ X3];refine Ph (RP (Ph ?_));show PJ _ X.A (do let _ <-comprehension (.ListComp elt [⟨tg,iter,ifs,0⟩] scope pos) scope X.env _ (Xl []) false (eval iter X.env) (some (S6 (.Name y py) X.env))) _ _ s;refine Ph (Qv (SX (use:=some (S6 (.Name y py) X.env)) (Q:=λ_ s'=>SP X R E .next s') rfl M (fj λx hx=>I.ok.has x (i9 hs x hx)) hk (lA hs) ?_) (λ_ s' O=>Pl (Pl O)) λ_ _ e=>e);refine bT (hi hid ρ R s σ H (λJ l=>a6 H l/\Ms X.K l (vw l hid) J ds) I ⟨sr,ds,e1,λJ l s1 S=>⟨s1,S⟩⟩) λv s1 h1=>bT h1 λitv s2 h2=>?_
 obtain⟨it,fp,tn,J,H2,rfl,r,T,Ty,G,Z,S⟩:=h2;refine rT (IR:=Rep X.K) (RR:=λacc C=>ZN (model X.prog X.w) X.A X.xe (some (S6 (.Name y py) X.env)) (λ_ s'=>SP X R E .next s') acc C) B hk hs hn hm hT hg hp he r (sr.ext Z) T Ty G S hz hc ?_
 intro D C s' l xs hDge k hDC hD W hx rp ⟨mm,Tm⟩ Yw V u ST Yz;have I3:Inv X R σ l s':=r.call' (ch:=fp) V Yz ST u λb F=>⟨(G b F).2.2.2.1,(G b F).2.1,(G b F).2.2.2.2.1,(G b F).2.2.2.2.2⟩
 have fin:=q _ l (Z.trans W) ⟨D,xs,ys,rfl,rfl,Z.free hD,hx,rp⟩;have t: ∀b o,s2.heap.get? b=some o->b≠C:=λb o e z=>by subst z;exact absurd (PB e) (TC.mpr k)
 have P:C≠X.env.locals:=λz=>by
  have:=r.lt;rw[<-z] at this;exact absurd this (TC.mpr k)
 show PJ _ X.A (S6 (.Name y py) X.env (.ref D)) _ _ s';refine VI (oG (v:=.ref D) I3 hN XL (.inl hy) rfl (λU I4 F=>?_) (.inr hy));obtain⟨a,XV,ha⟩:=F;have Y:C≠a:=by
  rcases ha with rfl|ha
  ·exact P
  ·obtain⟨w',o,ho,_⟩:=r.cell y a ha;exact λz=>t a o ho z.symm
 refine⟨mm,Tm.sameBut XV Y,λh3 X2=>⟨_,l,?_,fin⟩⟩;refine I4.turned (t':=U.toks) (it:=C) (λb o nb e=>(X2.2 b nb).trans e) Yw P (.inr (Qh r.sz k)) (λx c' e z=>?_) (λq O z=>?_)
 ·obtain⟨w',o,ho,_⟩:=r.cell x c' e;exact t c' o ho z
 ·exact t q.1 q.2 (r.pin q O).1 z
theorem ut(i:Nat)(e:X.calm=true)(L:X.N.Nodup)(w:jM X.N.length g)(E:M7 X c tg iter gi)
 (A: ∀C d b h,uk (aD X N' scope C d b h) c tg g) (G: ∀C d b h,vY (aD X N' scope C d b h) c ifs p) (K: ∀C d b h,DP (aD X N' scope C d b h) c .s elt f)
 (u:S5 (.ListComp elt [⟨tg,iter,ifs,0⟩] scope pos) (some (.Name y py)) spos.line X.env=pure true:=by rfl) (t:X.N[i]? =some y:=by rfl) (I:X.env.scope.names.lookup y=some .local:=by rfl)
 (F:scope.kind=.function:=by rfl) (O:yt scope X.env.scope=true:=by kernel_rfl) (J:yI X.N N' scope=true:=by kernel_rfl) (M:N'.length-X.N.length=m:=by rfl) (j: ∀x,QY iter X.env x=pure x:=by intro _;rfl):
 DS X c k (.Assign [.Name y py] (.ListComp elt [⟨tg,iter,ifs,0⟩] scope pos) spos) (bf i (cx m gi g p f)):=λρ=>PS.imp (Hc i e L w E A G K u t I F O J M j ρ) λD σ H l=>by
 obtain⟨hid,o,q⟩:=l;unfold bf at q;cases e1:cx m gi g p f ρ with
 |none=>rw[e1] at q;exact q.elim
 |some z=>
  rw[e1] at q;exact⟨hid,o,z,e1,λv B s r=>q _ B hid ((o.ext s).setV (RN.rep r λa n=>o.fresh n) i) (aW s)⟩
end
mutual
def dg:D->D->Bool
 | .non,.non=>true
 | .bl a,.bl b=>a==b
 | .bl a,.int b=>(if a then 1 else 0)==b
 | .int a,.bl b=>a==(if b then 1 else 0)
 | .int a,.int b=>a==b
 | .str a,.str b=>a==b
 | .tup a,.tup b=>de a b
 | .lst a,.lst b=>de a b
 | .lst a,.scr b=>de a b
 | .scr a,.lst b=>de a b
 | .scr a,.scr b=>de a b
 |_,_=>false
def de:List D->List D->Bool
 | [],[]=>true
 |x::xs,y::ys=>dg x y&&de xs ys
 |_,_=>false
end
mutual
def fw:D->Nat
 | .tup a=>cO a+1
 | .lst a=>cO a+1
 | .scr _=>Rp
 |_=>0
def cO:List D->Nat
 | []=>0
 |x::xs=>max (fw x) (cO xs)
end
theorem nY: ∀ {xs:List D} {i:Nat} {d:D},xs[i]? =some d->fw d<=cO xs
 | [],_,_,h=>by simp at h
 |x::xs,0,d,h=>by simp at h;subst h;unfold cO;exact Nat.le_max_left _ _
 |x::xs,i+1,d,h=>by
  have:=nY (xs:=xs) (i:=i) (d:=d) (by simpa using h);unfold cO;exact Qh this (Wd _ _)
mutual
theorem nn: ∀x:D,dg x x=true
 | .non=>by unfold dg;rfl
 | .bl a=>by unfold dg;simp
 | .int a=>by unfold dg;simp
 | .str a=>by unfold dg;simp
 | .tup a=>by unfold dg;exact k7 a
 | .lst a=>by unfold dg;exact k7 a
 | .scr a=>by unfold dg;exact k7 a
theorem k7: ∀x:List D,de x x=true
 | []=>by unfold de;rfl
 |x::xs=>by unfold de;rw[nn x,k7 xs];rfl
end
def lL(xs ys:List D)(j:Nat):Bool:=match xs[j]?,ys[j]? with
 |some x,some y=>dg x y
 |_,_=>false
theorem tU {xs ys:List D}(h:xs.length=ys.length):(Pi xs.length).all (lL xs ys)=de xs ys:=by
 induction xs generalizing ys with
 |nil=>
  cases ys with
  |nil=>unfold de;rfl
  |cons y ys=>simp at h
 |cons x xs c=>
  cases ys with
  |nil=>simp at h
  |cons y ys=>
   rw[P1,Th,jap,jbr];have a:lL (x::xs) (y::ys) 0=dg x y:=rfl;have b:((lL (x::xs) (y::ys))∘So)=lL xs ys:=by funext j;simp[lL]
   rw[a,b,c (by simpa using h)]
   conv=>rhs;unfold de
theorem qw: ∀ {xs ys:List D},xs.length≠ys.length->de xs ys=false
 | [],[],h=>absurd rfl h
 | [],_::_,_=>by unfold de;rfl
 |_::_,[],_=>by unfold de;rfl
 |x::xs,y::ys,h=>by unfold de;rw[qw (xs:=xs) (ys:=ys) (by simpa using h)];simp
section
variable {X:Cx}{ah:List (Addr×Obj)}{σ:St}{H:Hp}{s:Pn}
theorem fO(I:Inv X ah σ H s)(h:SqL X.K H a xs)(h':SqT X.K H a ys):False:=by
 obtain⟨c,_,b,_⟩:=I.list h;obtain⟨its',_,d,_⟩:=I.tuple h';exact SeqAt.ne_of_list_tuple b.isList d rfl
theorem K3(h: ∀zs,de a zs=de b zs):(∀z,dg (.tup a) z=dg (.tup b) z)/\(∀z,dg (.lst a) z=dg (.lst b) z)/\ ∀z,dg (.scr a) z=dg (.lst b) z:=by
 refine⟨λz=>?_,λz=>?_,λz=>?_⟩<;>cases z<;>unfold dg<;>first|exact h _|rfl
theorem Md: ∀z,dg (.scr b) z=dg (.lst b) z:=(K3 λ_=>rfl).2.2
mutual
theorem Rep.eqv(I:Inv X ah σ H s): ∀ {v:V} {x y:D},Rep X.K H v x->Rep X.K H v y-> ∀z,dg x z=dg y z
 |_,_,_,.non,.non=>λ_=>rfl
 |_,_,_,.bl,.bl=>λ_=>rfl
 |_,_,_,.int,.int=>λ_=>rfl
 |_,_,_,.str,.str=>λ_=>rfl
 |_,_,_,.tup h r,.tup h' a=>by rw[I.tuple_inj h h'] at r;exact(K3 (Reps.eqv I r a)).1
 |_,_,_,.lst h r,.lst h' a=>by rw[I.list_inj (SqL.of h) (SqL.of h')] at r;exact(K3 (Reps.eqv I r a)).2.1
 |_,_,_,.lst h r,.scr h' a=>by rw[I.list_inj (SqL.of h) h'.seq] at r;exact λz=>((K3 (Reps.eqv I r a)).2.1 z).trans (Md z).symm
 |_,_,_,.scr h r,.lst h' a=>by rw[I.list_inj h.seq (SqL.of h')] at r;exact(K3 (Reps.eqv I r a)).2.2
 |_,_,_,.scr h r,.scr h' a=>by rw[I.list_inj h.seq h'.seq] at r;exact λz=>((K3 (Reps.eqv I r a)).2.2 z).trans (Md z).symm
 |_,_,_,.tup h r,.lst h' a=>(fO I (SqL.of h') h).elim
 |_,_,_,.lst h r,.tup h' a=>(fO I (SqL.of h) h').elim
 |_,_,_,.tup h r,.scr h' a=>(fO I h'.seq h).elim
 |_,_,_,.scr h r,.tup h' a=>(fO I h.seq h').elim
theorem Reps.eqv(I:Inv X ah σ H s): ∀ {v:List V} {x y:List D},Reps X.K H v x->Reps X.K H v y-> ∀z,de x z=de y z
 |_,_,_,.nil,.nil=>λ_=>rfl
 |_,_,_,.cons r t,.cons b t'=>λz=>by
  cases z with
  |nil=>unfold de;rfl
  |cons w a=>unfold de;rw[Rep.eqv I r b w,Reps.eqv I t t' a]
end
theorem aK(I:Inv X ah σ H s){ds:List D}(h:SqL X.K H a xs)(r:Reps X.K H xs ds): ∃b:List Pk,s.heap.IsList a b.toArray/\b.length=ds.length/\ ∀(j:Nat) (g:j<b.length),∃(v:V) (d:D),ds[j]? =some d/\bt v b[j]/\Rep X.K H v d:=by
 obtain⟨b,f,k,_⟩:=I.list h;have n:=f.length;have o:=r.length;refine⟨b,k.isList,by lia,λj g=>?_⟩;have e:xs[j]? =some xs[j]:=Pq (by lia);obtain⟨u,c,m⟩:=f.get e;obtain⟨d,i,l⟩:=r.get' e;have:b[j]=u:=by rw[Pq g] at c;exact Qu c
 rw[this];exact⟨xs[j],d,i,m,l⟩
theorem cm(I:Inv X ah σ H s){ds:List D}(h:SqT X.K H a xs)(r:Reps X.K H xs ds): ∃b:List Pk,s.heap.IsTuple a b.toArray/\b.length=ds.length/\ ∀(j:Nat) (g:j<b.length),∃(v:V) (d:D),ds[j]? =some d/\bt v b[j]/\Rep X.K H v d:=by
 obtain⟨b,f,k,_⟩:=I.tuple h;have n:=f.length;have o:=r.length;refine⟨b,k,by lia,λj g=>?_⟩;have e:xs[j]? =some xs[j]:=Pq (by lia);obtain⟨u,c,m⟩:=f.get e;obtain⟨d,i,l⟩:=r.get' e;have:b[j]=u:=by rw[Pq g] at c;exact Qu c
 rw[this];exact⟨xs[j],d,i,m,l⟩
end
section
variable {X:Cx}{ah:List (Addr×Obj)}{σ:St}{H:Hp}{s:Pn}
theorem eM(A:Qq):A.in1.units=A.units+1:=rfl
theorem II {A:Qq}{n:Nat}(t: ∀ {x y:D} {v u:V} {a b:Pk} {A:Qq},fw x<n->A.units+fw x<Rp->bt v a->bt u b->Rep X.K H v x->Rep X.K H u y->SC A s a b (dg x y)){e c:List Pk}(B:cO xs<n)(C:A.units+cO xs<Rp)
 (z: ∀(j:Nat) (o:j<e.length),∃(v:V) (d:D),xs[j]? =some d/\bt v e[j]/\Rep X.K H v d) (w: ∀(j:Nat) (o:j<c.length),∃(v:V) (d:D),ys[j]? =some d/\bt v c[j]/\Rep X.K H v d):
 ∀j (f:j<e.toArray.size) (g:j<c.toArray.size),SC A s e.toArray[j] c.toArray[j] (lL xs ys j):=λj f g=>by
 obtain⟨v,d,h,p,l⟩:=z j (by simpa using f);obtain⟨u,d',k,m,q⟩:=w j (by simpa using g);have i:lL xs ys j=dg d d':=by unfold lL;rw[h,k]
 rw[i];have r:=nY h;exact t (by lia) (by lia) (by simpa using p) (by simpa using m) l q
theorem kY(I:Inv X ah σ H s){A:Qq}{n:Nat}(k: ∀ {x y:D} {v u:V} {a b:Pk} {A:Qq},fw x<n->A.units+fw x<Rp->bt v a->bt u b->Rep X.K H v x->Rep X.K H u y->SC A s a b (dg x y)){zs h:List V}(j:cO xs<n)(B:A.units+(cO xs+1)<Rp)
 (o:SqL X.K H a zs) (r:Reps X.K H zs xs) (p:SqL X.K H b h) (l:Reps X.K H h ys):ZO A s (.ref a) (.ref b) (de xs ys)/\Yj A s (.ref a) (.ref b) (!de xs ys):=by
 obtain⟨d,f,m,w⟩:=aK I o r;obtain⟨c,g,z,t⟩:=aK I p l
 by_cases e:xs.length=ys.length
 ·have hsz:d.toArray.size=c.toArray.size:=by simp;lia
  have i:=II (A:=A.in1) k j (by rw[eM];lia) w t;have q:(Pi d.toArray.size).all (lL xs ys)=de xs ys:=by rw[PZ,m];exact tU e
  rw[<-q];exact⟨SeqAt.RcAt.lists f g hsz (by lia) i,jeL f g hsz (by lia) i⟩
 ·rw[qw e];have hsz:(d.toArray.size !=c.toArray.size)=true:=by simp;lia
  exact⟨SeqAt.RcAt.lists_lengths f g hsz (by lia),ZP f g hsz (by lia)⟩
theorem z8(I:Inv X ah σ H s){A:Qq}{n:Nat}(l: ∀ {x y:D} {v u:V} {a b:Pk} {A:Qq},fw x<n->A.units+fw x<Rp->bt v a->bt u b->Rep X.K H v x->Rep X.K H u y->SC A s a b (dg x y)){zs g:List V}(k:cO xs<n)(B:A.units+(cO xs+1)<Rp)
 (p:SqT X.K H a zs) (t:Reps X.K H zs xs) (q:SqT X.K H b g) (m:Reps X.K H g ys):ZO A s (.ref a) (.ref b) (de xs ys)/\Yj A s (.ref a) (.ref b) (!de xs ys):=by
 obtain⟨d,f,o,z⟩:=cm I p t;obtain⟨c,i,j,w⟩:=cm I q m;have h:=II (A:=A.in1) l k (by rw[eM];lia) z w;have r:((Pi (min d.toArray.size c.toArray.size)).all (lL xs ys)&&d.toArray.size==c.toArray.size)=de xs ys:=by
  rw[PZ,PZ,o,j]
  by_cases e:xs.length=ys.length
  ·rw[<-e,Nat.min_self,tU e];simp
  ·rw[qw e];simp[e]
 rw[<-r];exact⟨SeqAt.RcAt.tuples f i (by lia) h,jdL f i (by lia) h⟩
theorem pj(I:Inv X ah σ H s)(c:Rep X.K H (.ref a) x)(d:Rep X.K H (.ref b) y)(e:a=b):SC A s (.ref a) (.ref b) (dg x y):=by
 subst e;rw[Rep.eqv I c d,nn];exact Zb _
theorem KT(I:Inv X ah σ H s){n:Nat}(z: ∀ {x y:D} {v u:V} {a b:Pk} {A:Qq},fw x<n->A.units+fw x<Rp->bt v a->bt u b->Rep X.K H v x->Rep X.K H u y->SC A s a b (dg x y)){A:Qq}(t:fw x<n+1)(r:A.units+fw x<Rp)(E:A.units<Rp)
 (p:bt v a) (d:bt u b) (C:Rep X.K H v x) (o:Rep X.K H u y):SC A s a b (dg x y):=by
 unfold dg;cases C with
 |non=>
  cases p;cases o with
  |non=>
   cases d;exact Zb _
  |bl=>
   cases d;exact SeqAt.EqAt.none_bool _
  |int=>
   obtain⟨k,rfl⟩:=d;exact SeqAt.EqAt.none_int _ _
  |str=>
   obtain⟨k,rfl⟩:=d;exact SeqAt.EqAt.none_str _ _
  | @tup i _ _ g f=>
    cases d;obtain⟨c,h,_⟩:=cm I g f;exact SeqAt.EqAt.none_tuple h (by lia)
  | @lst i _ _ g f=>
    cases d;obtain⟨c,h,_⟩:=aK I (SqL.of g) f;exact W4 h (by lia)
  | @scr i _ _ g f=>
    cases d;obtain⟨c,h,_⟩:=aK I g.seq f;exact W4 h (by lia)
 |bl=>
  cases p;cases o with
  |non=>
   cases d;exact SeqAt.EqAt.bool_none _
  |bl=>
   cases d;exact SeqAt.EqAt.bool_bool _ _
  |int=>
   obtain⟨k,rfl⟩:=d;exact SeqAt.EqAt.bool_int _ _ _
  |str=>
   obtain⟨k,rfl⟩:=d;exact SeqAt.EqAt.bool_str _ _ _
  | @tup i _ _ g f=>
    cases d;obtain⟨c,h,_⟩:=cm I g f;exact SeqAt.EqAt.bool_tuple _ h (by lia)
  | @lst i _ _ g f=>
    cases d;obtain⟨c,h,_⟩:=aK I (SqL.of g) f;exact W5 _ h (by lia)
  | @scr i _ _ g f=>
    cases d;obtain⟨c,h,_⟩:=aK I g.seq f;exact W5 _ h (by lia)
 |int=>
  obtain⟨B,rfl⟩:=p;cases o with
  |non=>
   cases d;exact SeqAt.EqAt.int_none _ _
  |bl=>
   cases d;exact SeqAt.EqAt.int_bool _ _ _
  |int=>
   obtain⟨k,rfl⟩:=d;exact SeqAt.EqAt.int_int _ _ _ _
  |str=>
   obtain⟨k,rfl⟩:=d;exact XT _ _ _ _
  | @tup i _ _ g f=>
    cases d;obtain⟨c,h,_⟩:=cm I g f;exact SeqAt.EqAt.int_tuple _ _ h (by lia)
  | @lst i _ _ g f=>
    cases d;obtain⟨c,h,_⟩:=aK I (SqL.of g) f;exact Xp _ _ h (by lia)
  | @scr i _ _ g f=>
    cases d;obtain⟨c,h,_⟩:=aK I g.seq f;exact Xp _ _ h (by lia)
 |str=>
  obtain⟨B,rfl⟩:=p;cases o with
  |non=>
   cases d;exact SeqAt.EqAt.str_none _ _
  |bl=>
   cases d;exact SeqAt.EqAt.str_bool _ _ _
  |int=>
   obtain⟨k,rfl⟩:=d;exact XU _ _ _ _
  |str=>
   obtain⟨k,rfl⟩:=d;exact SeqAt.EqAt.str_str _ _ _ _
  | @tup i _ _ g f=>
    cases d;obtain⟨c,h,_⟩:=cm I g f;exact SeqAt.EqAt.str_tuple _ _ h (by lia)
  | @lst i _ _ g f=>
    cases d;obtain⟨c,h,_⟩:=aK I (SqL.of g) f;exact Xq _ _ h (by lia)
  | @scr i _ _ g f=>
    cases d;obtain⟨c,h,_⟩:=aK I g.seq f;exact Xq _ _ h (by lia)
 | @tup q _ _ l m=>
   cases p;obtain⟨w,j,_⟩:=cm I l m;cases o with
   |non=>
    cases d;exact SeqAt.EqAt.tuple_none j (by lia)
   |bl=>
    cases d;exact SeqAt.EqAt.tuple_bool _ j (by lia)
   |int=>
    obtain⟨k,rfl⟩:=d;exact SeqAt.EqAt.tuple_int _ _ j (by lia)
   |str=>
    obtain⟨k,rfl⟩:=d;exact SeqAt.EqAt.tuple_str _ _ j (by lia)
   | @tup i _ _ g f=>
     cases d;obtain⟨c,h,_⟩:=cm I g f
     by_cases e:q=i
     ·exact(pj I (.tup l m) (.tup g f) e)
     ·exact Vu e (z8 I z (by unfold fw at t;lia) (by unfold fw at r;lia) l m g f).1
   | @lst i _ _ g f=>
     cases d;obtain⟨c,h,_⟩:=aK I (SqL.of g) f;exact WS j h (by lia)
   | @scr i _ _ g f=>
     cases d;obtain⟨c,h,_⟩:=aK I g.seq f;exact WS j h (by lia)
 | @scr q _ _ l m=>exact absurd r (by unfold fw;lia)
 | @lst q _ _ l m=>
   cases p;obtain⟨w,j,_⟩:=aK I (SqL.of l) m;cases o with
   |non=>
    cases d;exact SeqAt.EqAt.list_none j (by lia)
   |bl=>
    cases d;exact SeqAt.EqAt.list_bool _ j (by lia)
   |int=>
    obtain⟨k,rfl⟩:=d;exact SeqAt.EqAt.list_int _ _ j (by lia)
   |str=>
    obtain⟨k,rfl⟩:=d;exact SeqAt.EqAt.list_str _ _ j (by lia)
   | @tup i _ _ g f=>
     cases d;obtain⟨c,h,_⟩:=cm I g f;exact SeqAt.EqAt.list_tuple j h (by lia)
   | @lst i _ _ g f=>
     cases d;obtain⟨c,h,_⟩:=aK I (SqL.of g) f
     by_cases e:q=i
     ·exact(pj I (.lst l m) (.lst g f) e)
     ·exact Vu e (kY I z (by unfold fw at t;lia) (by unfold fw at r;lia) (SqL.of l) m (SqL.of g) f).1
   | @scr i _ _ g f=>
     cases d;obtain⟨c,h,_⟩:=aK I g.seq f
     by_cases e:q=i
     ·exact(pj I (.lst l m) (.scr g f) e)
     ·exact Vu e (kY I z (by unfold fw at t;lia) (by unfold fw at r;lia) (SqL.of l) m g.seq f).1
theorem pi(I:Inv X ah σ H s): ∀(n:Nat) {x y:D} {v u:V} {a b:Pk} {A:Qq},fw x<n->A.units+fw x<Rp->bt v a->bt u b->Rep X.K H v x->Rep X.K H u y->SC A s a b (dg x y)
 |0,x,y,v,u,a,b,A,c,h,e,g,f,d=>absurd c (WK _)
 |n+1,x,y,v,u,a,b,A,c,h,e,g,f,d=>KT I (λl m j i o k=>pi I n l m j i o k) c h (by lia) e g f d
theorem Kh(I:Inv X ah σ H s){A:Qq}(p:A.units+fw x<Rp)(B:A.units<Rp)(o:bt v a)(d:bt u b)(w:Rep X.K H v x)(m:Rep X.K H u y):ZO A s a b (dg x y):=by
 have q:=λ{x y:D} {v u:V} {a b:Pk} {A:Qq} (n:Nat)=> @pi X ah σ H s I n x y v u a b A
 have q: ∀ {n:Nat} {x y:D} {v u:V} {a b:Pk} {A:Qq},fw x<n->A.units+fw x<Rp->bt v a->bt u b->Rep X.K H v x->Rep X.K H u y->SC A s a b (dg x y):=λ{n x y v u a b A}=>pi I n
 unfold dg;cases w with
 |non=>
  cases o;cases m with
  |non=>
   cases d;exact SeqAt.RcAt.none_none
  |bl=>
   cases d;exact SeqAt.RcAt.none_bool _
  |int=>
   obtain⟨j,rfl⟩:=d;exact SeqAt.RcAt.none_int _ _
  |str=>
   obtain⟨j,rfl⟩:=d;exact SeqAt.RcAt.none_str _ _
  | @tup h _ _ f e=>
    cases d;obtain⟨c,g,_⟩:=cm I f e;exact SeqAt.RcAt.none_tuple g (by lia)
  | @lst h _ _ f e=>
    cases d;obtain⟨c,g,_⟩:=aK I (SqL.of f) e;exact W6 g (by lia)
  | @scr h _ _ f e=>
    cases d;obtain⟨c,g,_⟩:=aK I f.seq e;exact W6 g (by lia)
 |bl=>
  cases o;cases m with
  |non=>
   cases d;exact SeqAt.RcAt.bool_none _
  |bl=>
   cases d;exact SeqAt.RcAt.bool_bool _ _
  |int=>
   obtain⟨j,rfl⟩:=d;exact SeqAt.RcAt.bool_int _ _ _
  |str=>
   obtain⟨j,rfl⟩:=d;exact SeqAt.RcAt.bool_str _ _ _
  | @tup h _ _ f e=>
    cases d;obtain⟨c,g,_⟩:=cm I f e;exact SeqAt.RcAt.bool_tuple _ g (by lia)
  | @lst h _ _ f e=>
    cases d;obtain⟨c,g,_⟩:=aK I (SqL.of f) e;exact W7 _ g (by lia)
  | @scr h _ _ f e=>
    cases d;obtain⟨c,g,_⟩:=aK I f.seq e;exact W7 _ g (by lia)
 |int=>
  obtain⟨z,rfl⟩:=o;cases m with
  |non=>
   cases d;exact SeqAt.RcAt.int_none _ _
  |bl=>
   cases d;exact SeqAt.RcAt.int_bool _ _ _
  |int=>
   obtain⟨j,rfl⟩:=d;exact SeqAt.RcAt.int_int _ _ _ _
  |str=>
   obtain⟨j,rfl⟩:=d;exact SeqAt.RcAt.int_str _ _ _ _
  | @tup h _ _ f e=>
    cases d;obtain⟨c,g,_⟩:=cm I f e;exact SeqAt.RcAt.int_tuple _ _ g (by lia)
  | @lst h _ _ f e=>
    cases d;obtain⟨c,g,_⟩:=aK I (SqL.of f) e;exact Xs _ _ g (by lia)
  | @scr h _ _ f e=>
    cases d;obtain⟨c,g,_⟩:=aK I f.seq e;exact Xs _ _ g (by lia)
 |str=>
  obtain⟨z,rfl⟩:=o;cases m with
  |non=>
   cases d;exact SeqAt.RcAt.str_none _ _
  |bl=>
   cases d;exact SeqAt.RcAt.str_bool _ _ _
  |int=>
   obtain⟨j,rfl⟩:=d;exact SeqAt.RcAt.str_int _ _ _ _
  |str=>
   obtain⟨j,rfl⟩:=d;exact SeqAt.RcAt.str_str _ _ _ _
  | @tup h _ _ f e=>
    cases d;obtain⟨c,g,_⟩:=cm I f e;exact SeqAt.RcAt.str_tuple _ _ g (by lia)
  | @lst h _ _ f e=>
    cases d;obtain⟨c,g,_⟩:=aK I (SqL.of f) e;exact Xt _ _ g (by lia)
  | @scr h _ _ f e=>
    cases d;obtain⟨c,g,_⟩:=aK I f.seq e;exact Xt _ _ g (by lia)
 | @tup t _ _ k l=>
   cases o;obtain⟨r,i,_⟩:=cm I k l;cases m with
   |non=>
    cases d;exact SeqAt.RcAt.tuple_none i (by lia)
   |bl=>
    cases d;exact SeqAt.RcAt.tuple_bool _ i (by lia)
   |int=>
    obtain⟨j,rfl⟩:=d;exact SeqAt.RcAt.tuple_int _ _ i (by lia)
   |str=>
    obtain⟨j,rfl⟩:=d;exact SeqAt.RcAt.tuple_str _ _ i (by lia)
   | @tup h _ _ f e=>
     cases d;obtain⟨c,g,_⟩:=cm I f e;exact(z8 I q (QU _) (by unfold fw at p;lia) k l f e).1
   | @lst h _ _ f e=>
     cases d;obtain⟨c,g,_⟩:=aK I (SqL.of f) e;exact WT i g (by lia)
   | @scr h _ _ f e=>
     cases d;obtain⟨c,g,_⟩:=aK I f.seq e;exact WT i g (by lia)
 | @scr t _ _ k l=>exact absurd p (by unfold fw;lia)
 | @lst t _ _ k l=>
   cases o;obtain⟨r,i,_⟩:=aK I (SqL.of k) l;cases m with
   |non=>
    cases d;exact SeqAt.RcAt.list_none i (by lia)
   |bl=>
    cases d;exact SeqAt.RcAt.list_bool _ i (by lia)
   |int=>
    obtain⟨j,rfl⟩:=d;exact SeqAt.RcAt.list_int _ _ i (by lia)
   |str=>
    obtain⟨j,rfl⟩:=d;exact SeqAt.RcAt.list_str _ _ i (by lia)
   | @tup h _ _ f e=>
     cases d;obtain⟨c,g,_⟩:=cm I f e;exact SeqAt.RcAt.list_tuple i g (by lia)
   | @lst h _ _ f e=>
     cases d;obtain⟨c,g,_⟩:=aK I (SqL.of f) e;exact(kY I q (QU _) (by unfold fw at p;lia) (SqL.of k) l (SqL.of f) e).1
   | @scr h _ _ f e=>
     cases d;obtain⟨c,g,_⟩:=aK I f.seq e;exact(kY I q (QU _) (by unfold fw at p;lia) (SqL.of k) l f.seq e).1
theorem Dc(I:Inv X ah σ H s){A:Qq}(p:A.units+fw x<Rp)(B:A.units<Rp)(o:bt v a)(d:bt u b)(w:Rep X.K H v x)(m:Rep X.K H u y):Yj A s a b (!dg x y):=by
 have q: ∀ {n:Nat} {x y:D} {v u:V} {a b:Pk} {A:Qq},fw x<n->A.units+fw x<Rp->bt v a->bt u b->Rep X.K H v x->Rep X.K H u y->SC A s a b (dg x y):=λ{n x y v u a b A}=>pi I n
 unfold dg;cases w with
 |non=>
  cases o;cases m with
  |non=>
   cases d;exact jbt
  |bl=>
   cases d;exact jbu _
  |int=>
   obtain⟨j,rfl⟩:=d;exact jcb _ _
  |str=>
   obtain⟨j,rfl⟩:=d;exact jcc _ _
  | @tup h _ _ f e=>
    cases d;obtain⟨c,g,_⟩:=cm I f e;exact jaO g (by lia)
  | @lst h _ _ f e=>
    cases d;obtain⟨c,g,_⟩:=aK I (SqL.of f) e;exact WB g (by lia)
  | @scr h _ _ f e=>
    cases d;obtain⟨c,g,_⟩:=aK I f.seq e;exact WB g (by lia)
 |bl=>
  cases o;cases m with
  |non=>
   cases d;exact jbv _
  |bl=>
   cases d;exact jbw _ _
  |int=>
   obtain⟨j,rfl⟩:=d;exact jcd _ _ _
  |str=>
   obtain⟨j,rfl⟩:=d;exact jce _ _ _
  | @tup h _ _ f e=>
    cases d;obtain⟨c,g,_⟩:=cm I f e;exact jaP _ g (by lia)
  | @lst h _ _ f e=>
    cases d;obtain⟨c,g,_⟩:=aK I (SqL.of f) e;exact WC _ g (by lia)
  | @scr h _ _ f e=>
    cases d;obtain⟨c,g,_⟩:=aK I f.seq e;exact WC _ g (by lia)
 |int=>
  obtain⟨z,rfl⟩:=o;cases m with
  |non=>
   cases d;exact jcf _ _
  |bl=>
   cases d;exact jcg _ _ _
  |int=>
   obtain⟨j,rfl⟩:=d;exact jdg _ _ _ _
  |str=>
   obtain⟨j,rfl⟩:=d;exact jdh _ _ _ _
  | @tup h _ _ f e=>
    cases d;obtain⟨c,g,_⟩:=cm I f e;exact jbx _ _ g (by lia)
  | @lst h _ _ f e=>
    cases d;obtain⟨c,g,_⟩:=aK I (SqL.of f) e;exact WU _ _ g (by lia)
  | @scr h _ _ f e=>
    cases d;obtain⟨c,g,_⟩:=aK I f.seq e;exact WU _ _ g (by lia)
 |str=>
  obtain⟨z,rfl⟩:=o;cases m with
  |non=>
   cases d;exact jch _ _
  |bl=>
   cases d;exact jci _ _ _
  |int=>
   obtain⟨j,rfl⟩:=d;exact jdi _ _ _ _
  |str=>
   obtain⟨j,rfl⟩:=d;exact jdj _ _ _ _
  | @tup h _ _ f e=>
    cases d;obtain⟨c,g,_⟩:=cm I f e;exact jby _ _ g (by lia)
  | @lst h _ _ f e=>
    cases d;obtain⟨c,g,_⟩:=aK I (SqL.of f) e;exact WV _ _ g (by lia)
  | @scr h _ _ f e=>
    cases d;obtain⟨c,g,_⟩:=aK I f.seq e;exact WV _ _ g (by lia)
 | @tup t _ _ k l=>
   cases o;obtain⟨r,i,_⟩:=cm I k l;cases m with
   |non=>
    cases d;exact jaQ i (by lia)
   |bl=>
    cases d;exact jaR _ i (by lia)
   |int=>
    obtain⟨j,rfl⟩:=d;exact jbz _ _ i (by lia)
   |str=>
    obtain⟨j,rfl⟩:=d;exact jbA _ _ i (by lia)
   | @tup h _ _ f e=>
     cases d;obtain⟨c,g,_⟩:=cm I f e;exact(z8 I q (QU _) (by unfold fw at p;lia) k l f e).2
   | @lst h _ _ f e=>
     cases d;obtain⟨c,g,_⟩:=aK I (SqL.of f) e;exact We i g (by lia)
   | @scr h _ _ f e=>
     cases d;obtain⟨c,g,_⟩:=aK I f.seq e;exact We i g (by lia)
 | @scr t _ _ k l=>exact absurd p (by unfold fw;lia)
 | @lst t _ _ k l=>
   cases o;obtain⟨r,i,_⟩:=aK I (SqL.of k) l;cases m with
   |non=>
    cases d;exact jbB i (by lia)
   |bl=>
    cases d;exact jbC _ i (by lia)
   |int=>
    obtain⟨j,rfl⟩:=d;exact jcj _ _ i (by lia)
   |str=>
    obtain⟨j,rfl⟩:=d;exact jck _ _ i (by lia)
   | @tup h _ _ f e=>
     cases d;obtain⟨c,g,_⟩:=cm I f e;exact jaS i g (by lia)
   | @lst h _ _ f e=>
     cases d;obtain⟨c,g,_⟩:=aK I (SqL.of f) e;exact(kY I q (QU _) (by unfold fw at p;lia) (SqL.of k) l (SqL.of f) e).2
   | @scr h _ _ f e=>
     cases d;obtain⟨c,g,_⟩:=aK I f.seq e;exact(kY I q (QU _) (by unfold fw at p;lia) (SqL.of k) l f.seq e).2
end
theorem cs.full {K:Pz}(h:cs K H (vw H hid) v d):Rep K H v d:=by
 rcases h with h|⟨a,xs,ds,rfl,rfl,b,c⟩
 ·exact h.mono (dD _ _)
 ·exact .lst b (c.mono (dD _ _))
def Lx(K:Pz):R2:=λv u H Q=> ∃x y,Rep K H v x/\Rep K H u y/\fw x<=32/\Q (.bl (dg x y)) H
def MK(K:Pz):R2:=λv u H Q=> ∃x y,Rep K H v x/\Rep K H u y/\fw x<=32/\Q (.bl (!dg x y)) H
theorem me {X:Cx}(j:X.A.units+64<Rp):lG X (Ru .Eq) (Lx X.K):=by
 intro f s σ H x y v u Q I a b h;obtain⟨i,g,c,d,e,q⟩:=h;exact Kh I (by lia) (by lia) a b c d X.prog X.w _ _ ⟨.bl _,H,I,rfl,q⟩
theorem jT {X:Cx}(j:X.A.units+64<Rp):lG X (Ru .NotEq) (MK X.K):=by
 intro f s σ H x y v u Q I a b h;obtain⟨i,g,c,d,e,q⟩:=h;exact Dc I (by lia) (by lia) a b c d X.prog X.w _ _ ⟨.bl _,H,I,rfl,q⟩
def si:D->D->Option D:=λx y=>if fw x<=32 then some (.bl (dg x y)) else none
def mo:D->D->Option D:=λx y=>if fw x<=32 then some (.bl (!dg x y)) else none
theorem qB {K:Pz}:pK K .s (Lx K) si:=by
 intro H hid v u x y d Q c h a b q;unfold si at h;split at h
 ·cases h;exact⟨x,y,a.full,b.full, ‹_›,q _ H (a6.refl _) .bl⟩
 ·cases h
theorem nV {K:Pz}:pK K .s (MK K) mo:=by
 intro H hid v u x y d Q c h a b q;unfold mo at h;split at h
 ·cases h;exact⟨x,y,a.full,b.full, ‹_›,q _ H (a6.refl _) .bl⟩
 ·cases h
theorem pZ {X:Cx}(I:Inv X ah σ H s){A:Qq}(hx:Rep X.K H v x)(ra:bt v a): ∀ {ds:List D} {xs:List V} {its:List Pk},Reps X.K H xs ds->bI xs its->A.units+cO ds<Rp->
 ∃e:Pk->Bool,(∀y,y∈its->SC A s y a (e y))/\its.any e=ds.any (λd=>dg d x):=by
 intro ds xs its r rv hu
 classical
 let e:Pk->Bool:=λy=>if h: ∃(d:D) (u:V),bt u y/\Rep X.K H u d then dg h.choose x else false
 have key: ∀y u d,bt u y->Rep X.K H u d->e y=dg d x:=λy u d h1 h2=>by
  have hex: ∃(d:D) (u:V),bt u y/\Rep X.K H u d:=⟨d,u,h1,h2⟩
  show(if h: ∃(d:D) (u:V),bt u y/\Rep X.K H u d then dg h.choose x else false)=dg d x;rw[dif_pos hex];obtain⟨u',s1,s2⟩:=hex.choose_spec;have eu:u'=u:=s1.inj h1;rw[eu] at s2;exact Rep.eqv I s2 h2 x
 refine⟨e,?_,?_⟩
 ·induction rv generalizing ds with
  |nil=>intro y hy;cases hy
  |cons r1 t ih=>
   cases r with
   |cons p1 pt=>
    rename_i d ds;intro y hy;have hm:fw d<=cO (d::ds):=nY (i:=0) rfl
    have hm2:cO ds<=cO (d::ds):=by conv=>rhs;unfold cO
                                   exact Wd _ _
    rcases PX.mp hy with rfl|hy
    ·rw[key _ _ _ r1 p1];exact pi I (fw d+1) (QU _) (by lia) r1 ra p1 hx
    ·exact ih pt (by lia) y hy
 ·induction rv generalizing ds with
  |nil=>cases r;rfl
  |cons r1 t ih=>
   cases r with
   |cons p1 pt=>
    rename_i d ds;have hm2:cO ds<=cO (d::ds):=by conv=>rhs;unfold cO
                                                 exact Wd _ _
    rw[Sw,Sw,key _ _ _ r1 p1,ih pt (by lia)]
def JS(K:Pz)(b:Bool):R2:=λv u H Q=> ∃x ds a xs,Rep K H v x/\u=.ref a/\(SqL K H a xs\/SqT K H a xs)/\Reps K H xs ds/\cO ds<=32/\Q (.bl (if b then !ds.any (λd=>dg d x) else ds.any λd=>dg d x)) H
theorem mL {X:Cx}(z:X.A.units+64<Rp):lG X (Ru .In) (JS X.K false):=by
 intro u s σ H v w a b Q I l n h;obtain⟨x,ds,p,xs,m,rfl,d,r,t,q⟩:=h;cases n;rcases d with d|d
 ·obtain⟨c,g,f,o⟩:=I.list d;obtain⟨e,i,j⟩:=pZ (A:=X.A.in1) I m l r g (by rw[eM];lia);refine SeqAt.in_listAt e f.isList (λy k=>i y (by simpa using k)) ⟨.bl _,H,I,rfl,?_⟩;rw[show c.toArray.any e=c.any e by simp,j];exact q
 ·obtain⟨c,g,f,o⟩:=I.tuple d;obtain⟨e,i,j⟩:=pZ (A:=X.A.in1) I m l r g (by rw[eM];lia);refine SeqAt.in_tupleAt e f (λy k=>i y (by simpa using k)) ⟨.bl _,H,I,rfl,?_⟩;rw[show c.toArray.any e=c.any e by simp,j];exact q
theorem oO {X:Cx}(z:X.A.units+64<Rp):lG X (Ru .NotIn) (JS X.K true):=by
 intro u s σ H v w a b Q I l n h;obtain⟨x,ds,p,xs,m,rfl,d,r,t,q⟩:=h;cases n;rcases d with d|d
 ·obtain⟨c,g,f,o⟩:=I.list d;obtain⟨e,i,j⟩:=pZ (A:=X.A.in1) I m l r g (by rw[eM];lia);refine SeqAt.notIn_listAt e f.isList (λy k=>i y (by simpa using k)) ⟨.bl _,H,I,rfl,?_⟩;rw[show c.toArray.any e=c.any e by simp,j];exact q
 ·obtain⟨c,g,f,o⟩:=I.tuple d;obtain⟨e,i,j⟩:=pZ (A:=X.A.in1) I m l r g (by rw[eM];lia);refine SeqAt.notIn_tupleAt e f (λy k=>i y (by simpa using k)) ⟨.bl _,H,I,rfl,?_⟩;rw[show c.toArray.any e=c.any e by simp,j];exact q
def lZ:D->Option (List D)
 | .lst ds=>some ds
 | .tup ds=>some ds
 |_=>none
def jk(a:Bool):D->D->Option D:=λx y=>match lZ y with
 |some ds=>if cO ds<=32 then some (.bl (if a then !ds.any (λd=>dg d x) else ds.any λd=>dg d x)) else none
 |none=>none
theorem lU {K:Pz}(b:Bool):pK K .s (JS K b) (jk b):=by
 intro H hid v u x y d Q j h i g q;unfold jk at h;split at h
 ·split at h
  ·rename_i ds e _
   cases h;cases y with
   |lst zs=>
    cases e;obtain⟨a,xs,rfl,c,f⟩:=g.lst;exact⟨x,_,a,xs,i.full,rfl,.inl c,f.mono (dD _ _), ‹_›,q _ H (a6.refl _) .bl⟩
   |tup zs=>
    cases e;obtain⟨a,xs,rfl,_,c,f⟩:=g.tup;exact⟨x,_,a,xs,i.full,rfl,.inr c,f.mono (dD _ _), ‹_›,q _ H (a6.refl _) .bl⟩
   |_=>cases e
  ·cases h
 ·cases h
section
variable {X:Cx}{c:Ct}{e o:Expr}{k:Kd}{f g:FE}{pos p p2:Pos}
def my:List D->Option (List Bool)
 | []=>some []
 | .bl b::r=>(my r).map (b:: ·)
 |_=>none
theorem xp: ∀ {ds:List D} {bs:List Bool} {i:Nat} {d:D},my ds=some bs->ds[i]? =some d-> ∃b,d=.bl b/\bs[i]? =some b
 | [],_,_,_,_,h=>by simp at h
 |x::r,bs,i,d,h,e=>by
  cases x with
  |bl b=>
   unfold my at h;cases e1:my r with
   |none=>rw[e1] at h;cases h
   |some rs=>
    rw[e1] at h;cases h;cases i with
    |zero=>simp at e;subst e;exact⟨b,rfl,rfl⟩
    |succ i=>
     obtain⟨f,a,c⟩:=xp (i:=i) e1 (by simpa using e);exact⟨f,a,by simpa using c⟩
  |_=>cases h
theorem wB: ∀ {ds:List D} {bs:List Bool},my ds=some bs->ds.length=bs.length
 | [],_,h=>by cases h;rfl
 |x::r,bs,h=>by
  cases x with
  |bl b=>
   unfold my at h;cases e1:my r with
   |none=>rw[e1] at h;cases h
   |some rs=>rw[e1] at h;cases h;simp[wB e1]
  |_=>cases h
theorem CP(bs:List Bool):(Pi bs.length).any (λi=>bs.getD i false)=bs.any id:=by
 induction bs with
 |nil=>rfl
 |cons b bs a=>
  rw[P1,Th,Sw,Vd,Sw];rw[show((λi=>(b::bs).getD i false)∘So)=λi=>bs.getD i false by funext i;simp[Qr],a];rfl
theorem yB{bs:List Bool}(I:Inv X ah σ H s)(G:SqL X.K H a xs)(y:Reps X.K H xs ds)(m:my ds=some bs)(B:X.calm=true)
 (hR: ∀(J:Addr) (s2:Pn) (c:Array Pk) (O:c.size=bs.length),Walks X.prog X.w X.A.in1 J [J,a] [J] c.size (λi v=>c[i]? =some v) (λi h=>h.IsListIter J a i/\h.IsList a c)->s2.heap.IsListIter J a 0->s2.heap.IsList a c->TruthOf X.prog X.w X.A.in1 (λi v=>c[i]? =some v) (λi=>bs.getD i false)->
   (∀h' tk,(∀b o,b∉ [J]->s2.heap.get? b=some o->h'.get? b=some o)->Inv X ah σ H {s2 with heap:=h',toks:=tk})->R (.ref J) s2):PJ (model X.prog X.w) X.A.in1 (Ww (.ref a)) R E s:=by
 obtain⟨c,x,g,T⟩:=I.list G;have U:=x.length;have P:=y.length;have S:=wB m;have k:a<s.heap.objs.size:=by obtain⟨o,n,e,_⟩:=g;exact PB e
 refine Ul g.isList (hR s.heap.objs.size _ c.toArray (by simp;lia) (jeT (A:=X.A.in1) (I.ok.hd B) _ a (P6 k) c.toArray) ⟨_,PD _ rfl,rfl,rfl⟩ ?_ ?_ ?_)
 ·obtain⟨o,M,q⟩:=g.isList;exact⟨o,Po _ M,q⟩
 ·intro i v s' Q E hv j;have f:c[i]? =some v:=by simpa using hv
  have N:=(PL.mp f).1;have l:xs[i]? =some xs[i]:=Pq (by lia);obtain⟨u,t,r⟩:=x.get l;rw[f] at t;cases t;obtain⟨d,D,p⟩:=y.get' l;obtain⟨b,rfl,C⟩:=xp m D;rcases L:xs[i] with _|_|_|_|_|_|_|_<;>rw[L] at r p<;>cases p
  cases r;have:bs.getD i false=b:=by simp[Qr,C]
  dsimp only at j;rw[this] at j;exact Rg j
 ·intro h' tk z;refine I.kept λb o e=>z b o (λF=>?_) (Po _ e)
  have:b=s.heap.objs.size:=by simpa using F
  exact absurd (this▸PB e) (SV _)
theorem mX(l:X.calm=true):dH X (.builtin "any") (λxs H Q=> ∃a ys ds bs,xs=[.ref a]/\SqL X.K H a ys/\Reps X.K H ys ds/\my ds=some bs/\Q (.bl (bs.any id)) H):=by
 intro o s σ H xs us Q I r h;obtain⟨a,ys,ds,bs,rfl,m,n,f,q⟩:=h;obtain⟨u,rfl,e⟩:=j2 r;cases e;refine call_any_walk (yB I m n f l λJ s2 g j W c b d k=>?_);refine⟨J,_,_,_,_,_,_,rfl,W,⟨c,b⟩,d,λh' tk i=>⟨.bl _,H,k h' tk i,rfl,?_⟩⟩;rw[j,CP];exact q
def sv:List D->Option D
 | [.lst ds]=>(my ds).map λbs=>.bl (bs.any id)
 |_=>none
theorem u9:gJ X.K .s (λxs H Q=> ∃a ys ds bs,xs=[.ref a]/\SqL X.K H a ys/\Reps X.K H ys ds/\my ds=some bs/\Q (.bl (bs.any id)) H) sv:=by
 intro H hid vs ds d Q f h r q;unfold sv at h;split at h
 ·rename_i zs
  cases e1:my zs with
  |none=>rw[e1] at h;cases h
  |some bs=>
   rw[e1] at h;cases h;obtain⟨x,rfl,e⟩:=cv.one r;obtain⟨a,xs,rfl,b,c⟩:=e.lst;exact⟨a,xs,zs,bs,rfl,b,c.mono (dD _ _),e1,q _ H (a6.refl _) .bl⟩
 ·cases h
def eJ:List D->Option (List Int)
 | []=>some []
 | .int b::r=>(eJ r).map (b:: ·)
 |_=>none
theorem gP: ∀ {ds:List D} {a:List Int},eJ ds=some a->ds=a.map D.int
 | [],_,h=>by cases h;rfl
 |x::r,bs,h=>by
  cases x with
  |int b=>
   unfold eJ at h;cases e1:eJ r with
   |none=>rw[e1] at h;cases h
   |some rs=>rw[e1] at h;cases h;simp[gP e1]
  |_=>cases h
theorem lN {K:Pz}: ∀ {a:List Int} {xs:List V},Reps K F xs (a.map D.int)->xs=a.map V.int
 | [],_,.nil=>rfl
 |n::a,_,.cons r t=>by cases r;rw[lN t];rfl
def oS:List Int->Int
 | []=>0
 |a::r=>r.foldl (λm b=>if b<m then b else m) a
theorem xB(r:List Int): ∀a:Int,r.foldl (λm b=>if b<m then b else m) a∈a::r/\ ∀x∈a::r,r.foldl (λm b=>if b<m then b else m) a<=x:=by
 induction r with
 |nil=>intro a;simp
 |cons b r g=>
  intro a;rw[TX];obtain⟨h,f⟩:=g (if b<a then b else a);have d:=f (if b<a then b else a) PV;refine⟨?_,λx c=>?_⟩
  ·rcases PX.mp h with e|e
   ·rw[e];split<;>simp
   ·exact PK _ (PK _ e)
  ·rcases PX.mp c with rfl|c
   ·split at d<;>split<;>lia
   ·rcases PX.mp c with rfl|c
    ·split at d<;>split<;>lia
    ·exact f x (PK _ c)
theorem F2: ∀(b:List Int),b≠[]->oS b∈b/\ ∀a∈b,oS b<=a
 | [],h=>absurd rfl h
 |a::r,_=>xB r a
theorem CT{m:Int}(c:m∈b)(d: ∀a∈b,m<=a):m=oS b:=by
 obtain⟨g,f⟩:=F2 b (by intro e;subst e;simp at c);have:=d _ g;have:=f _ c;lia
theorem B9(x:X.calm=true):dH X (.builtin "min") (λxs H Q=> ∃a b,xs=[.ref a]/\SqL X.K H a (b.map V.int)/\b≠[]/\Q (.int (oS b)) H):=by
 intro B s σ H xs us Q I r h;obtain⟨a,b,rfl,y,z,q⟩:=h;obtain⟨u,rfl,l⟩:=j2 r;cases l;obtain⟨d,p,n,C⟩:=I.list y;have f:Xk d b:=zD p;obtain⟨xs,e⟩:=f.allInts.items;have c:b=xs.toList.map (·.1):=by rw[<-f.numsOf,<-nums_intItems,<-e]
 have hsz:0<xs.size:=by
  have:0<b.length:=by cases b with|nil=>exact absurd rfl z|cons=>simp
  rw[c,Pp,PN] at this;exact this
 have g:=n.isList;rw[e] at g;refine min_intList (I.ok.hd x) g hsz λv h' tk hv o=>?_
 obtain⟨t,rfl⟩:=intItems_at hv;obtain⟨D,A⟩:=argBest_lt (numAt xs) (xs.size-1);have m:numAt xs (argBest (λi j=>decide (numAt xs i<numAt xs j)) (xs.size-1))=oS b:=by
  refine CT ?_ λa k=>?_
  ·rw[c,numAt_eq];exact getD_mem (by rw[Pp,PN];lia)
  ·rw[c] at k;obtain⟨j,w,rfl⟩:=mem_getD k;rw[Pp,PN] at w;rw[<-numAt_eq];exact A j (by lia)
 exact⟨.int (oS b),H,I.kept o,⟨t,by rw[<-m]⟩,q⟩
def tD:List D->Option D
 | [.lst ds]=>(eJ ds).bind λa=>if a.isEmpty then none else some (.int (oS a))
 |_=>none
theorem HW:gJ X.K .s (λxs H Q=> ∃a b,xs=[.ref a]/\SqL X.K H a (b.map V.int)/\b≠[]/\Q (.int (oS b)) H) tD:=by
 intro H hid vs ds d Q i h r q;unfold tD at h;split at h
 ·rename_i zs
  cases e1:eJ zs with
  |none=>rw[e1] at h;cases h
  |some b=>
   rw[e1] at h;have h:(if b.isEmpty then none else some (D.int (oS b)))=some d:=h;split at h
   ·cases h
   ·cases h;obtain⟨x,rfl,g⟩:=cv.one r;obtain⟨a,xs,rfl,c,f⟩:=g.lst;rw[gP e1] at f;rw[lN f] at c;exact⟨a,b,rfl,c,(by intro e;subst e;simp at*),q _ H (a6.refl _) .int⟩
 ·cases h
end
end L2
namespace PySem.SeqAt
open AutoSeq1 (wpAny_loadPart')
open MeetsSeq MeetsSeq2 MeetsSeq3 SeqRoads2
theorem pT {M:Model}{A:Qq}{E:Pk->Pn->Prop}{s:Pn}{β:Type}(f:Nat->β->Sem (ForInStep β))(I:List Nat->β->Pn->Prop)(Q:β->Pn->Prop)
 (turn: ∀x d b s,I (x::d) b s->PJ M A (f x b) (λr s'=>match r with| .yield e=>I d e s'| .done e=>Q e s') E s)
 (fin: ∀b s,I [] b s->Q b s) (a b:Nat) (c:β) (h:I (Tb a (b-a)) c s):PJ M A (forIn [a:b] c f) Q E s:=by
 rw[Std.Legacy.Range.forIn_eq_forIn_range'];have hsz:([a:b]:Std.Legacy.Range).size=b-a:=by simp[Std.Legacy.Range.size]
 show PJ M A (forIn (Tb a ([a:b]:Std.Legacy.Range).size 1) c f) Q E s;rw[hsz];exact UG f I Q turn fin _ c h
theorem tuple_indexAt(l:Addr)(items:Array Pk)(n:Nat)(dd:Option Addr)(sl:Array (Option Pk))(x:Pk)(e:Pk->Bool)(j:Nat)(hj:j<items.size)(hit:e items[j]=true)(hno: ∀m (hm:m<items.size),m<j->e items[m]=false):
 Meets (SH.«tuple.index» ⟨[.ref l,x],[]⟩)
  (λA R s=>s.heap.get? l=some {cls:=.type "tuple",dict:=dd,data:=.seq items n,slots:=sl}/\(∀y,y∈items->EqAt A.in1 s y x (e y))/\R (.ok (.ret (.int j s.toks))) {s with toks:=s.toks+1}):=
 .of_wp λprog w A R s h=>by
  obtain⟨hp,g,d,tk,os⟩:=s;obtain⟨hl,he,h⟩:=h
  wp_walk using SM hl,pT _ (λrest b s'=>b.1=none/\s'=⟨hp,g,d,tk,os⟩/\ ∃i,i<=j/\rest=Tb i (items.size-i)) _
  case turn=>
   rintro y rest b s' ⟨hb,rfl,i,hij,hz⟩;have lt:i<items.size:=by lia
   have er:Tb i (items.size-i)=i::Tb (i+1) (items.size- (i+1)):=by
    rw[show items.size-i=(items.size- (i+1))+1 by lia];rfl
   rw[er] at hz;injection hz with e1 e2
   subst e1 e2;rw[show items[y]? =some items[y] by simp[lt]];refine Ph (he _ (Yk lt) prog w _ _ ?_)
   by_cases ej:y=j
   ·subst ej;rw[hit]
    wp_walk
    exact⟨_,rfl,h⟩
   ·rw[hno y lt (by lia)]
    wp_walk
    exact⟨rfl,rfl,y+1,by lia,rfl⟩
  case fin=>
   rintro⟨b1,b2⟩ s' ⟨hb,rfl,i,hij,hz⟩;have:=congrArg Sd hz;simp at this;lia
  case h=>
   exact⟨rfl,rfl,0,Ri _,by simp⟩
end PySem.SeqAt
namespace L2
open PySem PySem.Spec PyProof.Rows
def xk(ds:List D)(x:D):Option Nat:=ds.findIdx? λd=>dg d x
theorem GM {X:Cx}(I:Inv X ah σ H s){A:Qq}(G:Rep X.K H v x)(t:bt v a): ∀ {ds:List D} {xs:List V} {b:List Pk},Reps X.K H xs ds->bI xs b->A.units+cO ds<Rp->
 ∃e:Pk->Bool,(∀y,y∈b->SC A s y a (e y))/\ ∀(j:Nat) (f:j<b.length) (d:D),ds[j]? =some d->e b[j]=dg d x:=by
 intro ds xs b r o N
 classical
 let e:Pk->Bool:=λy=>if h: ∃(d:D) (u:V),bt u y/\Rep X.K H u d then dg h.choose x else false
 have l: ∀y u d,bt u y->Rep X.K H u d->e y=dg d x:=λy u d p q=>by
  have k: ∃(d:D) (u:V),bt u y/\Rep X.K H u d:=⟨d,u,p,q⟩
  show(if h: ∃(d:D) (u:V),bt u y/\Rep X.K H u d then dg h.choose x else false)=dg d x;rw[dif_pos k];obtain⟨B,E,s2⟩:=k.choose_spec;have F:B=u:=E.inj p;rw[F] at s2;exact Rep.eqv I s2 q x
 have L:=o.length;have M:=r.length;have m: ∀(j:Nat) (f:j<b.length),∃u d,ds[j]? =some d/\bt u b[j]/\Rep X.K H u d:=λj f=>by
  have n:xs[j]? =some xs[j]:=Pq (by lia);obtain⟨w,c,i⟩:=o.get n;obtain⟨d,z,g⟩:=r.get' n;have:b[j]=w:=by rw[Pq f] at c;exact Qu c
  rw[this];exact⟨_,d,z,i,g⟩
 refine⟨e,λy J=>?_,λj f d C=>?_⟩
 ·obtain⟨j,f,rfl⟩:=List.mem_iff_getElem.mp J;obtain⟨u,d,c,i,g⟩:=m j f;rw[l _ _ _ i g];have:=nY c;exact pi I (fw d+1) (QU _) (by lia) i t g G
 ·obtain⟨u,d',c,i,g⟩:=m j f;rw[C] at c;cases c;exact l _ _ _ i g
section
variable {X:Cx}{c:Ct}{e o:Expr}{k k2:Kd}{f g:FE}{pos p p2 apos:Pos}
theorem xx(Z:X.A.units+64<Rp):Ng X "tuple.index" (λv vs H Q=> ∃a xs ds x y j,v=.ref a/\vs=[x]/\SqT X.K H a xs/\Reps X.K H xs ds/\Rep X.K H x y/\cO ds<=32/\xk ds y=some j/\Q (.int j) H):=by
 intro V s σ H v vs u us Q I M rs h;obtain⟨a,xs,ds,x,y,j,rfl,rfl,O,B,J,T,o,q⟩:=h;cases M;obtain⟨w,rfl,k⟩:=j2 rs;obtain⟨b,r,E,Y⟩:=I.tuple O;have U:=r.length;have W:=B.length;obtain⟨e,S,R⟩:=GM (A:=X.A.in1.in1) I J k B r (by rw[eM,eM];lia);unfold xk at o;rw[List.findIdx?_eq_some_iff_getElem] at o;obtain⟨N,P,i⟩:=o;obtain⟨⟨cls,L,data,G⟩,D,t,n,p⟩:=id E;simp only at t p;subst t p;have d:j<b.length:=by lia
 have C: ∀m (f:m<b.length) (c:m<ds.length),e b[m]=dg ds[m] y:=λm f c=>R m f _ (Pq c)
 refine ZL V1 ⟨_,D,rfl⟩ PySem.F.entry_tuple_index (PySem.F.args_tuple_index_2 _ _) (SeqAt.tuple_indexAt a b.toArray n L G w e j (by simpa using d) ?_ ?_) ⟨D,?_,?_⟩
 ·simp only[W8];rw[C j d N];exact P
 ·intro m f g;simp only[W8];rw[C m (by simpa using f) (by lia)];have:=i m g;simpa using this
 ·intro z l;exact SeqAt.EqAt.of_in1 (S z (by simpa using l))
 ·exact⟨.int j,H,I.tok _,⟨_,rfl⟩,q⟩
end
section
variable {X:Cx}{c:Ct}{e o:Expr}{k k2:Kd}{f g:FE}{pos p p2 apos:Pos}
def tI:D->D->Option D:=λt x=>match t with
 | .tup ds=>if cO ds<=32 then(xk ds x).map λj=>.int j else none
 |_=>none
theorem wC(O:X.A.units+64<Rp)(N:DP X c k o f)(J:DP X c k2 e g)
 (m:UR o "index" X.env (eval o X.env)=eval o X.env:=by rfl)
 (p:((R5 pos (PP [e] X.env)).all (λx=> !x.1)&&(Yg pos (VM [] X.env)).all (λx=>x.1.isSome)
   &&decide (([e]:List Expr).length+([]:List Vb).length+(if([]:List Vb).isEmpty then 0 else 1)<30))=true:=by rfl)
 (l:(apos.endLine==pos.line)=true:=by rfl) (B:PP [e] X.env=(false,eval e X.env)::PP [] X.env:=by rfl) (h:(R5 pos (PP [] X.env)).any (·.1)=false:=by rfl):
 DP X c .s (.Call (.Attribute o "index" apos) [e] [] pos) (av tI f g):=λhid ρ=>
 PE.imp (A6 PySem.F.plainAttrs_tuple V1 PySem.F.type_tuple_index (xx O) (N hid ρ) (c8 (J hid ρ) fX B) m p l B h) λσ H Q t=>by
  obtain⟨r,d,E,q⟩:=t;obtain⟨x,y,I,D,i⟩:=xv E;unfold tI at i;split at i
  ·split at i
   ·rename_i ds _
    cases e4:xk ds y with
    |none=>rw[e4] at i;cases i
    |some j=>
     rw[e4] at i;cases i;refine⟨r,_,I,λv S w M=>?_⟩;have L:=RK.b k M λa n=>r.fresh n
     obtain⟨a,xs,rfl,R,z,C⟩:=L.tup;refine⟨.inr (.inl ⟨rfl,xs,z⟩),r.ext w,y,D,λu P s2 K=>?_⟩;have G:=RK.b k2 K λa n=>(r.ext w).fresh n
     exact⟨a,xs,ds,u,y,j,rfl,rfl,a6.seqT s2 z,(C.mono (aW s2)).mono (dD _ _),G.full, ‹_›,e4,q _ P (w.trans s2) .int⟩
   ·cases i
  ·cases i
theorem Cf:dH X (.type "range") (λxs H Q=> ∃j:Int,xs=[.int j]/\ ∀p,H p=none->Q (.ref p) (b9 H p (.rng 0 j))):=by
 intro a s σ H xs us Q I r h;obtain⟨j,rfl,q⟩:=h;obtain⟨u,rfl,t,rfl⟩:=j2 r;refine call_range_1 ⟨.ref s.heap.objs.size,_,I.laid (λb o e=>Po _ e) (Px _) ?_,rfl,q _ (I.hok.fresh (Px _))⟩;exact⟨_,_,_,PD _ rfl⟩
theorem LR(b:Int)(n:Nat): ∀ {K:Pz} {F:Hp},Reps K F ((Pi n).map λ(i:Nat)=>V.int (b+i)) (vZ b n):=by
 intro K F;unfold vZ;generalize Pi n=l
 induction l with
 |nil=>exact .nil
 |cons a l c=>exact .cons .int c
theorem su(G:X.calm=true):dH X (.type "list") (λxs H Q=> ∃p d f,xs=[.ref p]/\H p=some (.rng d f)/\ -(2^30)<=d/\d<=2^30/\ -(2^30)<=f/\f-d<=1000000/\f<=2^31/\ ∀l,H l=none->Q (.ref l) (b9 H l (.lst ((Pi (f-d).toNat).map λ(i:Nat)=>V.int (d+i))))):=by
 intro O s σ H xs us Q I r h;obtain⟨p,d,f,rfl,L,R,P,T,S,N,q⟩:=h;obtain⟨u,rfl,A⟩:=j2 r;cases A;obtain⟨t,u,v,J⟩:=I.hok p _ L;have hsz:Ub d f 1=(f-d).toNat:=by
  unfold Ub;rw[if_pos (by decide)];split
  ·rw[Int.ediv_one];lia
  ·lia
 refine call_list_range (a:=d) (b:=f) (c:=1) (n:=(f-d).toNat) (I.ok.hd G) J ?_ hsz (by lia) λh' tk g D F E o=>?_
 ·exact small_one (by lia) (by lia) (by lia) (by lia)
 ·have K:(f-d).toNat<=sizeLine:=by rw[Q7];lia
  refine⟨.ref s.heap.objs.size,_,I.laid (t':=tk) F (Px _) (show cc X.prog X.w _ h' _ (.lst _) from⟨by simpa using K,g.toList,D,?_,by simpa using E⟩),rfl,q _ (I.hok.fresh (Px _))⟩;obtain⟨M,C⟩:=o;have y: ∀(l:List Pk) (k m:Nat),l.length=m->(∀(j:Nat) v,l[j]? =some v-> ∃t,v=.int (d+((k+j:Nat):Int)*1) t)->bI ((Tb k m).map λ(i:Nat)=>V.int (d+i)) l:=by
   intro l
   induction l with
   |nil=>intro k m z _;subst z;exact .nil
   |cons x l B=>
    intro k m z hv;subst z;rw[P1,Wf];refine .cons ?_ (B (k+1) l.length rfl λj v e=>?_)
    ·obtain⟨t,rfl⟩:=hv 0 x rfl;exact⟨t,by simp⟩
    ·obtain⟨t,rfl⟩:=hv (j+1) v (by simpa using e);exact⟨t,by congr 3;lia⟩
  have:=y g.toList 0 (f-d).toNat (by simpa using M) λj v e=>by
   have:=C j v (by simpa using e);simpa using this
  rw[UT];exact this
def Ib:D->Option D
 | .int j=>if j.natAbs<=1000000 then some (.lst (vZ 0 j.toNat)) else none
 |_=>none
def HS(f:FE):FE:=λρ=>(f ρ).bind Ib
theorem lF(I:X.calm=true)(s:X.mg "list"=none)(B:X.mg "range"=none)(G:DP X c k e f)(x:Gl X "list":=by rfl)(w:Gl X "range":=by rfl)(u:Rm "list"=some (.type "list"):=by kernel_rfl)(y:Rm "range"=some (.type "range"):=by kernel_rfl)
 (i:PP [e] X.env=(false,eval e X.env)::PP [] X.env:=by rfl) (m:(R5 pos (PP [] X.env)).any (·.1)=false:=by rfl) (o:(R5 p2 (PP [] X.env)).any (·.1)=false:=by rfl) {A:Pos}
 (h:PP [.Call (.Name "range" A) [e] [] p2] X.env=(false,eval (.Call (.Name "range" A) [e] [] p2) X.env)::PP [] X.env:=by rfl):
 DP X c .n (.Call (.Name "list" p) [.Call (.Name "range" A) [e] [] p2] [] pos) (HS f):=λhid ρ=>
 PE.imp (gv (su I) x s u (c8 (gv Cf w B y (c8 (G hid ρ) fX i) (by decide) (by decide) i o) fX h) (by decide) (by decide) h m) λσ H Q t=>by
  obtain⟨C,d,g,q⟩:=t;unfold HS at g;cases e1:f ρ with
  |none=>rw[e1] at g;cases g
  |some z=>
   rw[e1] at g;have g:Ib z=some d:=g;unfold Ib at g;split at g
   ·split at g
    ·rename_i _ j _ _
     cases g;refine⟨C,_,e1,λv F E M=>?_⟩;have L:=(RK.b k M λa n=>C.fresh n).int;cases L;refine⟨j,rfl,λr J=>?_⟩;refine⟨r,0,j,rfl,aV,by lia,by lia,by lia,by lia,by lia,λl D=>?_⟩;have s2:a6 H (b9 F r (.rng 0 j)):=E.trans (aT J _);refine q _ _ (s2.trans (aT D _)) ?_
     have:=f8 (hid:=hid) (K:=X.K) D s2 (LR 0 (j-0).toNat);rw[show(j-0).toNat=j.toNat by lia] at this⊢;exact this
    ·cases g
   ·cases g
def bL:=i2 (λ_ _=>true) λi j=>.int (i+j)
def gY:=i2 (λ_ _=>true) λi j=>.int (i-j)
def eA:=i2 (λi j=>decide (i.natAbs<2^1000)&&decide (j.natAbs<2^1000)) λi j=>.int (i*j)
def cE:=i2 (λ_ j=>decide (0<j)) λi j=>.int (i % j)
def mZ:=i2 (λ_ j=>decide (0<j)&&decide (j.natAbs<2^1000)) λi j=>.int (i / j)
def eY:=i2 (λi j=>decide (0<=j)&&decide (j<=1000000)&&decide (i.natAbs<2^64)) λi j=>.int (i^j.toNat)
def Da:=i2 (λ_ _=>true) λi j=>.bl (decide (i<j))
def Lg:=i2 (λ_ _=>true) λi j=>.bl (decide (i<=j))
def Nb:=i2 (λ_ _=>true) λi j=>.bl (decide (j<=i))
theorem Bd {i:Int}(h:i.natAbs<2^1000):Xu i<=2^20:=by
 unfold Xu;split
 ·exact Ri _
 ·rename_i a
  have b:i.natAbs≠0:=by simp at a;lia
  have:=(Nat.log2_lt b).mpr h;lia
theorem Hl:lG X (TU .Mult) (rI IntMulOk λi j=>.int (i*j)):=M3 λ_ _ _ _ _ _ _ a q=>mul_int q a
variable {a b:Expr}
theorem cG {h i:Kd}(d:DP X c h a f)(e:DP X c i b g):DP X c .s (.BinOp a .Add b pos) (av bL f g):=rq Jh IV d e
theorem jL {h i:Kd}(d:DP X c h a f)(e:DP X c i b g):DP X c .s (.BinOp a .Sub b pos) (av gY f g):=rq Ju IV d e
theorem Kk {K:Pz}:pK K .s (rI IntMulOk λi j=>.int (i*j)) eA:=Hb λi j h=>by
 simp only[Ps,lb] at h;exact IntMulOk.of_bits (Bd h.1) (Bd h.2)
theorem kE {h i:Kd}(d:DP X c h a f)(e:DP X c i b g):DP X c .s (.BinOp a .Mult b pos) (av eA f g):=rq Hl Kk d e
theorem JM {K:Pz}:pK K .s (rI (λ_ j=>0<j) λi j=>.int (i % j)) cE:=Hb λi j h=>by simpa using h
theorem gK {h i:Kd}(d:DP X c h a f)(e:DP X c i b g):DP X c .s (.BinOp a .Mod b pos) (av cE f g):=rq JB JM d e
theorem EG:lG X (TU .FloorDiv) (rI (λ_ j=>0<j/\j.natAbs<2^1000) λi j=>.int (i / j)):=M3 λi j _ _ _ _ _ b q=>by
 obtain⟨c,a⟩:=b;refine floordiv_int (by lia) (by rw[Int.fdiv_eq_ediv_of_nonneg i (by lia)];exact q) (.inl (PyProof.noPylong_of_log2 ?_));have:=(Nat.log2_lt (n:=j.natAbs) (by lia)).mpr a;lia
theorem Gj {K:Pz}:pK K .s (rI (λ_ j=>0<j/\j.natAbs<2^1000) λi j=>.int (i / j)) mZ:=Hb λi j h=>by
 simp only[Ps,lb] at h;exact⟨h.1,h.2⟩
theorem Ai {h i:Kd}(d:DP X c h a f)(e:DP X c i b g):DP X c .s (.BinOp a .FloorDiv b pos) (av mZ f g):=rq EG Gj d e
theorem Jp {K:Pz}:pK K .s (rI ME λi j=>.int (i^j.toNat)) eY:=Hb λi j h=>by
 simp only[Ps,lb] at h;exact⟨h.1.1,h.1.2,h.2⟩
theorem oA {h i:Kd}(d:DP X c h a f)(e:DP X c i b g):DP X c .s (.BinOp a .Pow b pos) (av eY f g):=rq JW Jp d e
def Jj:D->Option D
 | .int i=>some (.int (-i))
 |_=>none
def lB(f:FE):FE:=λρ=>(f ρ).bind Jj
theorem nW(m:DP X c k a f):DP X c .s (.UnaryOp .USub a pos) (lB f):=λhid ρ=>PE.imp (Mh Ko (m hid ρ)) λσ H Q g=>by
 obtain⟨h,d,e,q⟩:=g;unfold lB at e;cases e1:f ρ with
 |none=>rw[e1] at e;cases e
 |some z=>
  rw[e1] at e;have e:Jj z=some d:=e;unfold Jj at e;split at e
  ·cases e;refine⟨h,_,e1,λv j i l=>?_⟩;cases (RK.b k l λa n=>h.fresh n).int;exact⟨_,rfl,q _ j i .int⟩
  ·cases e
end
structure Cl(P:Qp)(w:QD)(K:Pz)(mg:Str->Option Pk)(base:Heap)(k:Nat)(x:Str)(ps:List Str)(sp:Sp):Prop where
 ex: ∃f fd,gt P w K mg base v0 k f fd ps sp/\mg x=some (.ref f)/\Vs K (.ref f)=true/\h7 K fd ps []
structure Df(K:Pz)(mg:Str->Option Pk)(x:Str)(st:Stmt)(ps:List Str):Prop where
 ex: ∃f fd,Fun K x x st f fd/\mg x=some (.ref f)/\h7 K fd ps []
section
variable {P:Qp}{w:QD}{K:Pz}{mg:Str->Option Pk}{base:Heap}{x:Str}{st:Stmt}{N ps:List Str}{k n:Nat}{t:FS}{kd:Kd}
theorem aS(F:Df K mg x st ps)(S:bo N ps (aw st))(e:kd≠ .b)(h:ps.length=n)
 (c: ∀(f:Addr) (d:Pk) (A:Qq) (a:List Env) (s:Pn) (H:Hp) (hid:bN) (E:XK),c4 k (A.deeper (UZ x (aw st) s.heap.objs.size f d))->
   Ag (sL v0 P w K mg base N x (aw st) f d A a s H E).nox ⟨H,hid,λ_=>false⟩ kd (dA st) t):
 Cl P w K mg base (k+1) x ps (cr K kd n (eO kd N.length t)):=by
 obtain⟨f,i,F,g,j⟩:=F.ex;subst h;exact⟨f,i,Bz F S e (c f),g,F.kp,j⟩
theorem vF(F:Df K mg x st ps)(S:bo N ps (aw st))(g:kd≠ .b)(i:ps.length=n+1)
 (d: ∀(f:Addr) (e:Pk) (A:Qq) (c:List Env) (s:Pn) (H:Hp) (hid:bN) (a:Addr) (E:XK),c4 k (A.deeper (UZ x (aw st) s.heap.objs.size f e))->
   Ag (sL v0 P w K mg base N x (aw st) f e A c s H E).nox ⟨H,hid,λb=>decide (b=a)⟩ kd (dA st) t):
 Cl P w K mg base (k+1) x ps (vW K kd n (zE kd N.length t)):=by
 obtain⟨f,j,F,h,l⟩:=F.ex;exact⟨f,j,KL F S g i (d f),h,F.kp,l⟩
end
section
variable {X:Cx}{c:Ct}{e a b:Expr}{es rest:List Expr}{k:Kd}{pos p:Pos}{x:Str}{ps:List Str}{j n:Nat}
def nF(n:Nat)(P:List D->Option D):List D->Option D:=λds=>if ds.length=n then P ds else none
theorem aL(C:Cl X.prog X.w X.K X.mg X.base j x ps (cr X.K k n P))(h:c4 j X.A)
 (m:DA X c (e::es) fs) (g:Gl X x:=by rfl) (a:(x==("__debug__":Str))=false:=by decide) (d:PP (e::es) X.env=(false,eval e X.env)::PP es X.env:=by rfl) (b:(R5 pos (PP es X.env)).any (·.1)=false:=by rfl):
 DP X c k (.Call (.Name x p) (e::es) [] pos) (ak (nF n P) fs):=by
 obtain⟨f,q,F,i,o,l⟩:=C.ex;exact Hw F h i o l m g a d b
theorem jY(i:Nat)(C:Cl X.prog X.w X.K X.mg X.base j x ps (vW X.K k n M))(m:c4 j X.A)
 (t:DG X c es fs) (d:k≠ .b:=by decide) (l:X.N[i]? =some y:=by rfl) (hv:wK X.env.scope y:=by first|exact RA rfl|exact Q1 (RA rfl)|exact Q1 (Q1 rfl)) (s:(y==("__debug__":Str))=false:=by decide)
 (a:(y==("__classdict__":Str))=false:=by decide) (r:PP (.Name y py::es) X.env=(false,eval (.Name y py) X.env)::PP es X.env:=by rfl) (h:Gl X x:=by rfl) (e:(x==("__debug__":Str))=false:=by decide) (g:(R5 pos (PP es X.env)).any (·.1)=false:=by rfl):
 DE X c k (.Call (.Name x p) (.Name y py::es) [] pos) (aJ i n M fs):=by
 obtain⟨f,v,F,o,u,q⟩:=C.ex;exact Ef i F m o u q t d l hv s a r h e g
end
open PySem PySem.W PyProof.Rows
structure Od(b:Nat->Nat->Bool):Prop where
 tr: ∀ {i j k:Nat},b j i=false->b k j=false->b k i=false
 as: ∀ {i j:Nat},b i j=true->b j i=false
theorem Od.rf(O:Od b)(i:Nat):b i i=false:=by
 cases h:b i i with
 |false=>rfl
 |true=>have:=O.as h;rw[h] at this;exact this
structure Pm(N:Nat)(p:Array Nat):Prop where
 perm:p.Perm (RF (Pi N))
theorem Pm.size {N:Nat}{p:Array Nat}(h:Pm N p):p.size=N:=by rw[h.perm.size_eq];simp
theorem Pm.lt {N:Nat}{p:Array Nat}(h:Pm N p)(b:0<N)(k:Nat):p.getD k 0<N:=by
 by_cases a:k<p.size
 ·have e:p.getD k 0=p[k]:=by simp[Tc,a]
  rw[e];have:p[k]∈(RF (Pi N)):=h.perm.mem_iff.mp (Yk a);simpa using this
 ·have e:p.getD k 0=0:=by simp[Tc,a]
  rw[e];exact b
theorem xj {p q:Array Nat}(h:p[i]? =q[j]?):p.getD i 0=q.getD j 0:=by
 rw[Ve,Ve,h]
section
variable {b:Nat->Nat->Bool}{N:Nat}{cmp:Nat->Nat->(Bool->Pn->Prop)->Pn->Prop}{s:Pn}
def Srt(b:Nat->Nat->Bool)(p:Array Nat)(n:Nat):Prop:= ∀i j,i<=j->j<n->b (p.getD j 0) (p.getD i 0)=false
def Fal(b:Nat->Nat->Bool)(p:Array Nat)(n:Nat):Prop:= ∀i j,i<=j->j<n->b (p.getD i 0) (p.getD j 0)=false
theorem Srt.succ(O:Od b){p:Array Nat}(h:Srt b p n)(g:1<=n)(e:b (p.getD n 0) (p.getD (n-1) 0)=false):Srt b p (n+1):=λi j a f=>by
 by_cases c:j<n
 ·exact h i j a c
 ·have:j=n:=by lia
  subst this
  by_cases d:i=j
  ·subst d;exact O.rf _
  ·exact O.tr (h i (j-1) (by lia) (by lia)) e
theorem Fal.succ(O:Od b){p:Array Nat}(h:Fal b p n)(g:1<=n)(e:b (p.getD (n-1) 0) (p.getD n 0)=false):Fal b p (n+1):=λi j a f=>by
 by_cases c:j<n
 ·exact h i j a c
 ·have:j=n:=by lia
  subst this
  by_cases d:i=j
  ·subst d;exact O.rf _
  ·exact O.tr e (h i (j-1) (by lia) (by lia))
theorem Fal.congr(O:Od b){p q:Array Nat}(h:Fal b p n)(e: ∀k,k<n->b (p.getD k 0) (q.getD k 0)=false/\b (q.getD k 0) (p.getD k 0)=false):Fal b q n:=λi j a c=>
 O.tr (O.tr (e j c).1 (h i j a c)) (e i (by lia)).2
theorem GN(O:Od b)(p:Array Nat):Srt b p 1:=λi j a c=>by
 have:i=j:=by lia
 subst this;exact O.rf _
theorem Gr(O:Od b)(p:Array Nat):Fal b p 1:=λi j a c=>by
 have:i=j:=by lia
 subst this;exact O.rf _
theorem oy {p:Array Nat}(a:j<=p.size)(k:Nat):(Vf p i j).getD k 0=if i<=k/\k<j then p.getD (i+j-1-k) 0 else p.getD k 0:=by
 have:=getElem?_mirror_all (i:=i) a k;unfold Vf;split
 ·rename_i h;rw[if_pos h] at this;exact xj this
 ·rename_i h;rw[if_neg h] at this;exact xj this
theorem Pm.rev(h:Pm N p)(i j:Nat):Pm N (Vf p i j):=⟨(mirror_perm _ _ _ _).trans h.perm⟩
variable(O:Od b)(hN:0<N)(hc: ∀(i j:Nat) (C:Bool->Pn->Prop),i<N->j<N->C (b i j) s->cmp i j C s)
include O hN hc
theorem yT {p:Array Nat}(P:Pm N p): ∀(f n:Nat),1<=n->n+f<=N->Srt b p n->
 (∀m,n<=m->m<=n+f->Srt b p m->(m<n+f->b (p.getD m 0) (p.getD (m-1) 0)=true)->Q m s)->(kas_asc p f n).kasWp cmp Q s
 |0,n,c,d,a,q=>q n (Px _) (Px _) a λz=>absurd z (SV _)
 |f+1,n,c,d,a,q=>by
  unfold kas_asc;refine hc _ _ _ (P.lt hN _) (P.lt hN _) ?_
  cases e:b (p.getD n 0) (p.getD (n-1) 0) with
  |true=>simp only[if_true];exact q n (Px _) (by lia) a λ_=>e
  |false=>
   simp only[PH,if_false];exact yT P f (n+1) (by lia) (by lia) (a.succ O c e) λm i j g h=>q m (by lia) (by lia) g λz=>h (by lia)
def Eqs(b:Nat->Nat->Bool)(p:Array Nat)(n q:Nat):Prop:= ∀i,n- (q+1)<=i->i<n->b (p.getD i 0) (p.getD (n-1) 0)=false/\b (p.getD (n-1) 0) (p.getD i 0)=false
omit hN hc in
theorem Eqs.rev {p:Array Nat}(e:n<=p.size)(f:q<n)(h:Eqs b p n q)(k:Nat):b (p.getD k 0) ((Vf p (n- (q+1)) n).getD k 0)=false/\b ((Vf p (n- (q+1)) n).getD k 0) (p.getD k 0)=false:=by
 rw[oy e];split
 ·rename_i a
  have c:=h k a.1 a.2;have d:=h (n- (q+1)+n-1-k) (by lia) (by lia);exact⟨O.tr d.2 c.1,O.tr c.2 d.1⟩
 ·exact⟨O.rf _,O.rf _⟩
theorem qh: ∀(f:Nat) (p:Array Nat) (n q:Nat),Pm N p->1<=n->n+f<=N->q<n->Fal b p n->Eqs b p n q->
 (∀a c d,Pm N a->n<=c->c<=n+f->d<c->Fal b a c->Eqs b a c d->Q (a,c,d) s)->(kas_desc f p n q).kasWp cmp Q s
 |0,p,n,q,P,m,x,l,g,h,k=>k p n q P (Px _) (Px _) l g h
 |f+1,p,n,q,P,m,x,l,g,h,k=>by
  have C:=P.size;have u: ∀a:Array Nat,Eqs b a (n+1) 0:=λa i j o=>by
   have:i=n:=by lia
   subst this;exact⟨O.rf _,O.rf _⟩
  unfold kas_desc;refine hc _ _ _ (P.lt hN _) (P.lt hN _) ?_
  cases e:b (p.getD n 0) (p.getD (n-1) 0) with
  |true=>
   simp only[if_true];split
   ·rename_i v
    have t:=h.rev O (by lia) l;have r:Fal b (Vf p (n- (q+1)) n) n:=g.congr O λk _=>t k
    refine qh f _ (n+1) 0 (P.rev _ _) (by lia) (by lia) (by lia) (r.succ O m ?_) (u _) λa c d j o y=>k a c d j (by lia) (by lia)
    have A:(Vf p (n- (q+1)) n).getD n 0=p.getD n 0:=by rw[oy (by lia),if_neg (by lia)]
    rw[A];exact O.tr (O.as e) (t (n-1)).2
   ·exact qh f p (n+1) 0 P (by lia) (by lia) (by lia) (g.succ O m (O.as e)) (u _) λa c d j o y=>k a c d j (by lia) (by lia)
  |false=>
   simp only[PH,if_false];refine hc _ _ _ (P.lt hN _) (P.lt hN _) ?_
   cases e2:b (p.getD (n-1) 0) (p.getD n 0) with
   |true=>simp only[if_true];exact k p n q P (Px _) (by lia) l g h
   |false=>
    simp only[PH,if_false];refine qh f p (n+1) (q+1) P (by lia) (by lia) (by lia) (g.succ O m e2) (λi j o=>?_) λa c d w D E=>k a c d w (by lia) (by lia)
    rw[show n+1-1=n by lia]
    by_cases B:i=n
    ·subst B;exact⟨O.rf _,O.rf _⟩
    ·have z:=h i (by lia) (by lia);exact⟨O.tr e2 z.1,O.tr z.2 e⟩
theorem xX(P:Pm N p)(d:1<=n)(l:n<=N)(g:Fal b p n)(q: ∀m a,Pm N a->1<=m->m<=N->Srt b a m->Q (m,a) s):(kas_tail3 n N p).kasWp cmp Q s:=by
 unfold kas_tail3;rw[TZ];have o:=P.size;have c:Srt b (Vf p 0 n) n:=λi j e h=>by
  rw[oy (by lia),oy (by lia),if_pos (by lia),if_pos (by lia)];exact g _ _ (by lia) (by lia)
 exact yT O hN hc (P.rev _ _) (N-n) n d (by lia) c λm k r f _=>q m _ (P.rev _ _) (by lia) (by lia) f
theorem pH(P:Pm N p)(r:1<=n)(o:n+1<=N)(f:Fal b p (n+1))(q: ∀m c,Pm N c->1<=m->m<=N->Srt b c m->Q (m,c) s):(kas_descPart n N p).kasWp cmp Q s:=by
 unfold kas_descPart;rw[TZ];refine qh O hN hc (N- (n+1)) p (n+1) 0 P (by lia) (by lia) (by lia) f (λi a e=>?_) λc j l a e t h d g=>?_
 ·have:i=n:=by lia
  subst this;exact⟨O.rf _,O.rf _⟩
 ·dsimp only;have u:=a.size;split
  ·exact xX O hN hc (a.rev _ _) (by lia) (by lia) (d.congr O λk _=>g.rev O (by lia) h k) q
  ·exact xX O hN hc a (by lia) (by lia) d q
theorem FH(P:Pm N p)(q: ∀m f,Pm N f->1<=m->m<=N->Srt b f m->Q (m,f) s):(kas_count N p).kasWp cmp Q s:=by
 unfold kas_count;rw[TZ];have v:=P.size;refine yT O hN hc P (N-1) 1 (Px _) (by lia) (GN O p) λm c u a t=>?_
 split
 ·exact q m p P c (by lia) a
 ·rename_i n
  have o:m≠N:=by simpa using n
  have lt:=t (by lia);split
  ·refine hc _ _ _ (P.lt hN _) (P.lt hN _) ?_
   cases e:b (p.getD 0 0) (p.getD (m-1) 0) with
   |true=>simp only[if_true];exact q m p P c (by lia) a
   |false=>
    simp only[PH,if_false];have h: ∀i j,i<m->j<m->b (p.getD i 0) (p.getD j 0)=false:=λi j g k=>O.tr (O.tr (a j (m-1) (by lia) (by lia)) e) (a 0 i (by lia) g)
    have d: ∀i,i<m->(Vf p 0 m).getD i 0=p.getD (0+m-1-i) 0:=λi g=>by rw[oy (by lia),if_pos (by lia)]
    refine pH O hN hc (P.rev _ _) c (by lia) (Fal.succ O (λi j r k=>?_) c ?_) q
    ·rw[d i (by lia),d j k];exact h _ _ (by lia) (by lia)
    ·have l:(Vf p 0 m).getD m 0=p.getD m 0:=by rw[oy (by lia),if_neg (by lia)]
     rw[l,d (m-1) (by lia)];exact O.tr (O.as lt) (h _ _ (by lia) (by lia))
  ·have:m=1:=by lia
   subst this;exact pH O hN hc P (Px _) (by lia) ((Gr O p).succ O (Px _) (O.as lt)) q
theorem qj {p:Array Nat}(P:Pm N p)(d:Srt b p k): ∀(f l r:Nat),l<=r->r<=k->r-l<=f->(∀i,i<l->b (p.getD k 0) (p.getD i 0)=false)->(∀i,r<=i->i<k->b (p.getD k 0) (p.getD i 0)=true)->
 (∀m,m<=k->(∀i,i<m->b (p.getD k 0) (p.getD i 0)=false)->(∀i,m<=i->i<k->b (p.getD k 0) (p.getD i 0)=true)->Q m s)->(kas_place p k f l r).kasWp cmp Q s
 |0,l,r,o,t,n,a,c,q=>q l (by lia) a λi z=>c i (by lia)
 |f+1,l,r,o,t,n,a,c,q=>by
  unfold kas_place;split
  ·exact q l (by lia) a λi z=>c i (by lia)
  ·rename_i g
   refine hc _ _ _ (P.lt hN _) (P.lt hN _) ?_
   cases e:b (p.getD k 0) (p.getD ((l+r) / 2) 0) with
   |true=>
    simp only[if_true];refine qj P d f l _ (by lia) (by lia) (by lia) a (λi h j=>?_) q;cases e2:b (p.getD k 0) (p.getD i 0) with
    |true=>rfl
    |false=>
     have:=O.tr (d ((l+r) / 2) i h j) e2;rw[e] at this;exact this.symm
   |false=>
    simp only[PH,if_false];exact qj P d f _ r (by lia) (by lia) (by lia) (λi z=>O.tr (d i ((l+r) / 2) (by lia) (by lia)) e) c q
omit hN hc in
theorem ze {p:Array Nat}{k m:Nat}(r:k<p.size)(l:Srt b p k)(t:m<=k)(a: ∀i,i<m->b (p.getD k 0) (p.getD i 0)=false)(c: ∀i,m<=i->i<k->b (p.getD k 0) (p.getD i 0)=true):Srt b (bubble p k (k-m)) (k+1):=by
 have g: ∀j,(bubble p k (k-m)).getD j 0=if j=m then p.getD k 0 else if m<j/\j<=k then p.getD (j-1) 0 else p.getD j 0:=λj=>by
  have:=getElem?_bubble r (k-m) (by lia) j;rw[show k- (k-m)=m by lia] at this
  by_cases h:j=m
  ·rw[if_pos h] at this⊢;exact xj this
  ·rw[if_neg h] at this⊢
   by_cases q:m<j/\j<=k
   ·rw[if_pos q] at this⊢;exact xj this
   ·rw[if_neg q] at this⊢;exact xj this
 intro i j n s;rw[g,g]
 by_cases o:j=m
 ·rw[if_pos o]
  by_cases e:i=m
  ·rw[if_pos e];exact O.rf _
  ·rw[if_neg e,if_neg (by lia)];exact a i (by lia)
 ·rw[if_neg o]
  by_cases e:i=m
  ·rw[if_pos e,if_pos (by lia)];exact O.as (c _ (by lia) (by lia))
  ·rw[if_neg e]
   by_cases f:m<j/\j<=k
   ·rw[if_pos f]
    by_cases d:m<i/\i<=k
    ·rw[if_pos d];exact l _ _ (by lia) (by lia)
    ·rw[if_neg d];exact l _ _ (by lia) (by lia)
   ·rw[if_neg f,if_neg (by lia)];exact l _ _ n (by lia)
theorem EW: ∀(f:Nat) (p:Array Nat) (k:Nat),Pm N p->1<=k->k+f=N->Srt b p k->(∀c,Pm N c->Srt b c N->Q c s)->(kas_bin f p k).kasWp cmp Q s
 |0,p,k,P,e,d,a,q=>q p P (by rw[<-d];exact a)
 |f+1,p,k,P,e,d,a,q=>by
  unfold kas_bin;rw[TZ];have n:=P.size;refine qj O hN hc P a k 0 k (Ri _) (Px _) (by lia) (λi z=>absurd z (by lia)) (λi o l=>absurd l (by lia)) λm g h j=>?_
  exact EW f _ (k+1) ⟨(bubble_perm _ _ _).trans P.perm⟩ (by lia) (by lia) (ze O (by lia) a g h j) q
theorem uH(q: ∀p,Pm N p->Srt b p N->Q p s):(Yl N).kasWp cmp Q s:=by
 unfold Yl;rw[TZ];refine FH O hN hc ⟨Array.Perm.refl _⟩ λm c P d e a=>?_
 dsimp only;split
 ·exact EW O hN hc _ c _ P (by lia) (by lia) (by rw[show max m 1=m by lia];exact a) q
 ·have:m=N:=by lia
  subst this;exact q c P a
end
open PySem PySem.W PySem.Calls PyProof.Rows
section
variable {prog:Qp}{w:QD}{A:Qq}{E:Pk->Pn->Prop}{s:Pn}
theorem rJ{us:List Pk}{P:PySem.Fin->Pn->Prop}(k:s.heap.get? a=some (Tp "list" us.toArray n))(I:us.length<64)
 (l:us.length<2->P (.done (.ret .none)) {s with heap:=UJ s.heap a us us.toArray})
 (h:2<=us.length-> ∀g:Heap,(∀c o,c≠a->s.heap.get? c=some o->g.get? c=some o)->PJ (model prog w) A (keyKind' us.toArray) (λκ t=>t={s with heap:=g}/\
   (Yl us.length).kasWp (Ym prog w A κ us) (λp t'=>t'=t/\P (.done (.ret .none)) {s with heap:=UJ s.heap a us (RF (p.toList.map λi=>us.getD i Qw))}) t) (λ_ _=>False) {s with heap:=g}):
 PJ (model prog w) A (SH.«list.sort» ⟨[.ref a],[]⟩) P E s:=by
 have T:a<s.heap.objs.size:=PB k;have q:us.toArray.size<=sizeLine:=by rw[PZ,Q7];lia
 obtain⟨F,v⟩: ∃c,(s.heap.update a (SB λ_=> #[])).get? a=some (Tp "list" #[] c):=⟨_,get?_update_seq k (λ_=> #[])⟩
 have j:(((s.heap.update a (SB λ_=> #[])).push (Tp "tuple" us.toArray 0)).push (Tp "list" #[] 0)).get? a=some (Tp "list" #[] F):=Po _ (Po _ v);have H: ∀c o,c≠a->s.heap.get? c=some o->(((s.heap.update a (SB λ_=> #[])).push (Tp "tuple" us.toArray 0)).push (Tp "list" #[] 0)).get? c=some o:=λc o M e=>
  Po _ (Po _ (by rw[Heap.get?_update_ne _ _ _ _ M];exact e))
 rw[list_sort_plain];refine Ph (listItems_at k rfl (Ph (XH k rfl ?_ q (Ri _))));refine Ph (Y1 v rfl (Ph (ZS ?_ (show us.length<=_ by rw[Q7];lia))));refine Ph (XI (Qt ?_) (Ri _));show PJ (model prog w) A _ P E {s with heap:=((s.heap.update a (SB λ_=> #[])).push (Tp "tuple" us.toArray 0)).push (Tp "list" #[] 0)};dsimp only
 by_cases b:us.toArray.size<2
 ·rw[if_pos b,if_pos b];refine Ph (Pl ?_);rw[StateT.run_pure];refine Ph (Pl ?_);dsimp only;have y:jaT (λx=>x.2) (us.toArray.zip us.toArray)=us.toArray:=by
   apply Array.toList_inj.mp;simp[List.map_snd_zip]
  refine Ph (Y1 j rfl (Ph (XH j rfl ?_ (Ri _) ?_)))
  ·simp only[bne_self_eq_false,PH,if_false];refine Pl ?_
   have:=l (by simpa using b);show P _ {s with heap:=UJ s.heap a us (jaT (λx=>x.2) (us.toArray.zip us.toArray))};rw[y];exact this
  ·show(jaT (λx=>x.2) (us.toArray.zip us.toArray)).size<=_;rw[y];exact VO q
 ·rw[if_neg b,if_neg b];have d:2<=us.length:=by simpa using b
  refine Ph (Qv (h d _ H) (λκ t ⟨O,B⟩=>?_) λ_ _ x=>x.elim)
  subst O;refine Ph (Qv (kat_run (ks:=us) (vs:=us) (G:=λp t'=>t'=_/\P (.done (.ret .none)) {s with heap:=UJ s.heap a us (RF (p.toList.map λi=>us.getD i Qw))})
   (Q:=λst t'=>t'=_/\failedOf st=none/\ ∃p:Array Nat,p.size=us.length/\(arrOf st).map (·.2)=RF (p.toList.map λi=>us.getD i Qw)/\P (.done (.ret .none)) {s with heap:=UJ s.heap a us (RF (p.toList.map λi=>us.getD i Qw))})
   rfl d I (λp st t' R C K z=>⟨z.1,K,p,R,kat_snds rfl C,z.2⟩) B) (λr t' S=>?_) λ_ _ x=>x)
  obtain⟨u,st⟩:=r;obtain⟨L,m,p,J,f,N⟩:=S;subst L;dsimp only at m f⊢;rw[f,m];have D:(RF (p.toList.map λi=>us.getD i Qw)).size<=sizeLine:=by rw[PZ,Pp,PN,J,Q7];lia
  refine Ph (Y1 j rfl (Ph (XH j rfl ?_ (Ri _) (VO D))));simp only[bne_self_eq_false,PH,if_false];exact Pl N
theorem yz{o:Obj}{us:List Pk}(i:T="list"\/T="tuple")(v:s.heap.get? l=some o)(j:o.cls=.type T)(m:o.data=.seq us.toArray n)(x:us.length<64)
 (q: ∀g:Heap,(∀b u,s.heap.get? b=some u->g.get? b=some u)->s.heap.objs.size<=g.objs.size->Q us {s with heap:=g}):PJ (model prog w) A (collect (.ref l)) Q E s:=by
 have z:us.toArray.size<=sizeLine:=by rw[PZ,Q7];lia
 have d:(s.heap.push {cls:=.type "list",data:=.seq ([]:List Pk).toArray}).get? s.heap.objs.size=some {cls:=.type "list",data:=.seq #[] 0}:=PD _ rfl;have p:=QG (SB (·++us.toArray)) d rfl
 have a:PJ (model prog w) A (do
  match (<-load s.heap.objs.size).data with
   |Data.seq xs _=>pure xs.toList
   |_=>RX "internal:collect") Q E {s with heap:=(s.heap.push {cls:=.type "list",data:=.seq ([]:List Pk).toArray}).update s.heap.objs.size (SB (·++us.toArray))}:=by
  refine Ph (ZC p (Pl ?_));show Q ((#[]:Array Pk)++us.toArray).toList _;rw[show((#[]:Array Pk)++us.toArray).toList=us by simp];refine q _ (λb u e=>(Ss _ _ (RV (PB e))).trans (Po _ e)) ?_
  rw[Heap.size_update,Rc];exact Ud _
 unfold collect;refine Ph (W9 (RY WW ?_));rw[RL WX _];show PJ _ A.in1 (Xl []>>=λr=>W2 (.builtin "list.__iadd__" ⟨[r,.ref l],[]⟩)) _ _ s;refine Ph (Rh (Pl ⟨V2 Uq _,RY Yn ?_⟩));rw[RL Uq _];show PJ _ A.in1 (Vg (.ref s.heap.objs.size) (.ref l) (.ref s.heap.objs.size)) _ _ _;have ext:=wpAny_extend_seq (prog:=prog) (w:=w) (A:=A) (hsz:=z) (R:=λr t=>r=.ok (.ret (.ref s.heap.objs.size))/\t={s with heap:=(s.heap.push {cls:=.type "list",data:=.seq ([]:List Pk).toArray}).update s.heap.objs.size (SB (·++us.toArray))})
  (s:={s with heap:=s.heap.push {cls:=.type "list",data:=.seq ([]:List Pk).toArray}}) _ l (.ref s.heap.objs.size) 0 i d (Po _ v) j m ⟨rfl,rfl⟩
 refine Qv ext (λfin t h=>?_) (λe t h=>absurd h.1 (by simp));cases fin with
 |done f=>obtain⟨e,rfl⟩:=h;cases e;exact a
 |again c=>exact⟨h.1,Sq h.2 λr t' k=>by obtain⟨rfl,rfl⟩:=k;exact a⟩
theorem ug{o:Obj}{us:List Pk}{G:List Nat->Prop}(H:T="list"\/T="tuple")(O:s.heap.get? l=some o)(N:o.cls=.type T)(I:o.data=.seq us.toArray n)(F:us.length<64)
 (r:us.length<2->G (Pi us.length))
 (k:2<=us.length-> ∀g:Heap,(∀c o,s.heap.get? c=some o->g.get? c=some o)->PJ (model prog w) A.in1.in1 (keyKind' us.toArray) (λκ t=>t={s with heap:=g}/\
   (Yl us.length).kasWp (Ym prog w A.in1.in1 κ us) (λp t'=>t'=t/\G p.toList) t) (λ_ _=>False) {s with heap:=g})
 (fin: ∀(g:Heap) (a e:Nat) (b:List Nat),(∀c o,s.heap.get? c=some o->g.get? c=some o)->s.heap.objs.size<=a->G b->g.get? a=some (Tp "list" (RF (b.map λi=>us.getD i Qw)) e)->Q (.ref a) {s with heap:=g}):
 PJ (model prog w) A (call (.builtin "sorted") [.ref l]) Q E s:=by
 refine VB kind_sorted plain_sorted entry_sorted (args_sorted1 _) ?_
 unfold SH.«sorted»;refine Ph (m:=checkCount "sorted" 1 1 _) (Pl (Ph (yz H O N I F λg q J=>?_)));refine Ph (XI ?_ (by rw[Q7];lia));have y:(g.push (Tp "list" us.toArray 0)).get? g.objs.size=some (Tp "list" us.toArray 0):=PD _ rfl;show PJ _ _ _ _ _ {s with heap:=g.push (Tp "list" us.toArray 0)};have d: ∀b:List Nat,G b->Q (.ref g.objs.size) {s with heap:=UJ (g.push (Tp "list" us.toArray 0)) g.objs.size us (RF (b.map λi=>us.getD i Qw))}:=λb z=>by
  obtain⟨e,M⟩:=sortedHeap_at (out:=RF (b.map λi=>us.getD i Qw)) y;refine fin _ g.objs.size e b (λc u j=>?_) J z M;have lt:=PB (q c u j);rw[ZT (P6 lt) (by rw[size_push'];exact Tx lt)];exact Po _ (q c u j)
 refine Ph (Qt (QV ZU ⟨_,y,rfl⟩ Zc (rJ (P:=λf t=> ∃v,f=.done (.ret v)/\PJ (model prog w) A.in1 (pure (ZV (.ret (Q9 g.objs.size)))) (λf t=> ∃v,f=.done (.ret v)/\Q v t) E t) y F (λh=>?_) (λh g' B=>?_)) (ZW _)))
 ·have e:=d (Pi us.length) (r h)
  rw[show(Pi us.length).map (λi=>us.getD i Qw)=us from Ur λi=>by
   by_cases D:i<us.length
   ·simp[D]
   ·simp[D]] at e
  exact⟨_,rfl,Pl ⟨_,rfl,e⟩⟩
 ·refine Qv (k h g' λc u j=>B c u (P6 (PB (q c u j))) (Po _ (q c u j))) (λκ t ⟨L,C⟩=>⟨L,?_⟩) λ_ _ x=>x
  rw[kat_ask_eq rfl] at C⊢;exact kas_wp_mono C λp t' ⟨K,z⟩=>⟨K,_,rfl,Pl ⟨_,rfl,d _ z⟩⟩
end
open PySem PySem.W PySem.Spec PyProof.Rows
def bx:List Int->List Int->Bool
 |_,[]=>false
 | [],_::_=>true
 |x::xs,y::ys=>if x=y then bx xs ys else decide (x<y)
def Cd(x y:Int):Bool:=decide (x<y)
structure Lt {α:Type}(lt:α->α->Bool):Prop where
 tr: ∀ {a b c:α},lt b a=false->lt c b=false->lt c a=false
 as: ∀ {a b:α},lt a b=true->lt b a=false
 eq: ∀ {a b:α},lt a b=false->lt b a=false->a=b
theorem HQ:Lt Cd:=⟨λa b=>by simp only[Cd,decide_eq_false_iff_not] at*;lia,λh=>by simp only[Cd,decide_eq_false_iff_not,lb] at*;lia,λa b=>by simp only[Cd,decide_eq_false_iff_not] at*;lia⟩
theorem Aa: ∀ {a b:List Int},bx a b=true->bx b a=false
 | [],[],h=>by simp[bx] at h
 |x::xs,[],h=>by simp[bx] at h
 | [],y::ys,h=>by simp[bx]
 |x::xs,y::ys,h=>by
  unfold bx at h⊢
  by_cases e:x=y
  ·subst e;simp only[if_true] at h⊢;exact Aa h
  ·rw[if_neg e] at h;rw[if_neg (QA e)];simp only[lb,decide_eq_false_iff_not] at*;lia
theorem By: ∀ {a b:List Int},bx a b=false->bx b a=false->a=b
 | [],[],_,_=>rfl
 |x::xs,[],_,h=>by simp[bx] at h
 | [],y::ys,h,_=>by simp[bx] at h
 |x::xs,y::ys,h,h'=>by
  unfold bx at h h'
  by_cases e:x=y
  ·subst e;simp only[if_true] at h h';rw[By h h']
  ·rw[if_neg e] at h;rw[if_neg (QA e)] at h';simp only[decide_eq_false_iff_not] at*;lia
theorem AG: ∀ {a b c:List Int},bx b a=false->bx c b=false->bx c a=false
 | [],_,_,_,_=>by unfold bx;rfl
 |x::xs,[],_,h,_=>by simp[bx] at h
 |x::xs,y::ys,[],_,h=>by simp[bx] at h
 |x::xs,y::ys,z::zs,e,d=>by
  unfold bx at e d⊢
  by_cases g:y=x
  ·subst g;simp only[if_true] at e
   by_cases f:z=y
   ·subst f;simp only[if_true] at d⊢;exact AG e d
   ·rw[if_neg f] at d⊢;exact d
  ·rw[if_neg g] at e
   by_cases f:z=y
   ·subst f;rw[if_neg g];exact e
   ·rw[if_neg f] at d;simp only[decide_eq_false_iff_not] at e d;rw[if_neg (by lia)];simp only[decide_eq_false_iff_not];lia
theorem zk:Lt bx:=⟨AG,Aa,By⟩
def zf {α:Type}(lt:α->α->Bool)(x:α):List α->List α
 | []=>[x]
 |y::r=>if lt x y=true then x::y::r else y::zf lt x r
def bC {α:Type}(lt:α->α->Bool):List α->List α
 | []=>[]
 |x::r=>zf lt x (bC lt r)
section
variable {α:Type}{lt:α->α->Bool}
theorem oI(x:α): ∀l:List α,(zf lt x l).Perm (x::l)
 | []=>.refl _
 |y::r=>by
  unfold zf;split
  ·exact .refl _
  ·exact((oI x r).cons y).trans (.swap _ _ _)
theorem aM: ∀l:List α,(bC lt l).Perm l
 | []=>.refl _
 |x::r=>(oI x _).trans ((aM r).cons x)
theorem Bh(O:Lt lt)(x:α): ∀ {l:List α},l.Pairwise (λa b=>lt b a=false)->(zf lt x l).Pairwise (λa b=>lt b a=false)
 | [],_=>by simp[zf]
 |y::r,h=>by
  obtain⟨d,f⟩:=Sy.mp h;unfold zf;split
  ·rename_i e
   refine Sy.mpr ⟨λz c=>?_,h⟩;rcases PX.mp c with rfl|c
   ·exact O.as e
   ·exact O.tr (O.as e) (d z c)
  ·rename_i e
   refine Sy.mpr ⟨λz c=>?_,Bh O x f⟩;rcases PX.mp ((oI x r).mem_iff.mp c) with rfl|c
   ·simpa using e
   ·exact d z c
theorem lc(O:Lt lt): ∀l:List α,(bC lt l).Pairwise (λa b=>lt b a=false)
 | []=>.nil
 |x::r=>Bh O x (lc O r)
theorem lz(O:Lt lt){l c:List α}(p:c.Perm l)(s:c.Pairwise (λa b=>lt b a=false)):c=bC lt l:=
 List.Perm.eq_of_pairwise (λa b _ _ d e=>O.eq e d) s (lc O l) (p.trans (aM l).symm)
theorem mi(a:List α)(d:α):(Pi a.length).map (λi=>a.getD i d)=a:=Ur λi=>by
 by_cases b:i<a.length
 ·simp[b]
 ·simp[b]
theorem kl(O:Lt lt){a:List α}{p:Array Nat}(P:Pm a.length p)(S:Srt (λi j=>lt (a.getD i d) (a.getD j d)) p a.length):p.toList.map (λi=>a.getD i d)=bC lt a:=by
 refine lz O ?_ ?_
 ·have h:p.toList.Perm (Pi a.length):=by simpa using (Vv.mp P.perm)
  have c:=h.map (λi=>a.getD i d);rw[mi] at c;exact c
 ·rw[QI,Rj];intro i j n b l;have m:=P.size;have e:=S i j (by lia) (by simpa [m] using b);have g: ∀k (f:k<p.toList.length),p.getD k 0=p.toList[k]:=λk f=>by
   have:k<p.size:=by simpa using f
   simp[Tc,this]
  rw[g i n,g j b] at e;exact e
theorem Fn(O:Lt lt)(f:Nat->α):Od (λi j=>lt (f i) (f j)):=⟨λa b=>O.tr a b,λh=>O.as h⟩
end
def zq:D->Option (List Int)
 | .tup ds=>match eJ ds with
   |some (x::r)=>some (x::r)
   |_=>none
 |_=>none
def mS:List D->Option (List (List Int))
 | []=>some []
 |d::r=>(zq d).bind λk=>(mS r).map (k:: ·)
def cZ(k:List Int):D:=.tup (k.map D.int)
def iC(ds:List D):Option (List D):=if ds.length<64 then match eJ ds with
 |some a=>some ((bC Cd a).map D.int)
 |none=>(mS ds).map λks=>(bC bx ks).map cZ else none
theorem kI(a:List Int):eJ (a.map D.int)=some a:=by
 induction a with
 |nil=>rfl
 |cons n a b=>show(eJ (a.map D.int)).map (n:: ·)=_;rw[b];rfl
theorem Hs(h:zq d=some k):d=cZ k/\k≠[]:=by
 unfold zq at h;split at h
 ·split at h
  ·rename_i e;cases h;rw[gP e];exact⟨rfl,by simp⟩
  ·cases h
 ·cases h
theorem Go(h:k≠[]):zq (cZ k)=some k:=by
 unfold zq cZ;dsimp only;rw[kI];cases k with
 |nil=>exact absurd rfl h
 |cons x r=>rfl
theorem rM: ∀ {ds:List D} {ks:List (List Int)},mS ds=some ks->ds=ks.map cZ/\ ∀k∈ks,k≠[]
 | [],_,h=>by cases h;exact⟨rfl,λ_ h=>nomatch h⟩
 |d::r,ks,h=>by
  unfold mS at h;cases e1:zq d with
  |none=>rw[e1] at h;cases h
  |some k=>
   rw[e1] at h;cases e2:mS r with
   |none=>rw[e2] at h;cases h
   |some l=>
    rw[e2] at h;cases h;obtain⟨b,c⟩:=Hs e1;obtain⟨f,e⟩:=rM e2;refine⟨by rw[b,f];rfl,λz a=>?_⟩;rcases PX.mp a with rfl|a
    ·exact c
    ·exact e z a
theorem wj: ∀ {ks:List (List Int)},(∀k∈ks,k≠[])->mS (ks.map cZ)=some ks
 | [],_=>rfl
 |k::r,h=>by
  show(zq (cZ k)).bind (λb=>(mS (r.map cZ)).map (b:: ·))=_;rw[Go (h k (by simp)),wj λz a=>h z (by simp[a])];rfl
theorem CF {k:List Int}{ks:List (List Int)}:eJ ((k::ks).map cZ)=none:=rfl
theorem jR {α:Type}{lt:α->α->Bool}{l:List α}(h:l.length<2):bC lt l=l:=by
 match l,h with
 | [],_=>rfl
 | [_],_=>rfl
theorem o5 {xs:List V}{us:List Pk}(r:bI xs us)(i:Nat):bt (xs.getD i .non) (us.getD i Qw):=by
 cases e:xs[i]? with
 |none=>
  have c:=r.length;have:us[i]? =none:=by simp at e⊢;lia
  simp[Qr,e,this];rfl
 |some x=>
  obtain⟨u,a,b⟩:=r.get e;simp[Qr,e,a];exact b
theorem oK {xs:List V}{us:List Pk}(r:bI xs us): ∀a:List Nat,bI (a.map λi=>xs.getD i .non) (a.map λi=>us.getD i Qw)
 | []=>.nil
 |i::l=>.cons (o5 r i) (oK r l)
theorem tP {K:Pz}{xs:List V}{ds:List D}(r:Reps K F xs ds)(i:Nat):Rep K F (xs.getD i .non) (ds.getD i .non):=by
 cases e:ds[i]? with
 |none=>
  have c:=r.length;have:xs[i]? =none:=by simp at e⊢;lia
  simp[Qr,e,this];exact .non
 |some x=>
  obtain⟨u,a,b⟩:=r.get e;simp[Qr,e,a];exact b
theorem o0 {K:Pz}{xs:List V}{ds:List D}(r:Reps K F xs ds): ∀a:List Nat,Reps K F (a.map λi=>xs.getD i .non) (a.map λi=>ds.getD i .non)
 | []=>.nil
 |i::l=>.cons (tP r i) (o0 r l)
def uY:List Pk->List Int->Prop:=Paired λu i=> ∃t,u=Vk i t
theorem uF {K:Pz}: ∀ {xs:List V} {us:List Pk} {a:List Int},bI xs us->Reps K F xs (a.map D.int)->uY us a
 |_,_,[],r,p=>by cases p;cases r;exact .nil
 |_,_,n::a,r,p=>by
  cases p with
  |cons b d=>cases r with
   |cons e c=>cases b;exact .cons e (uF c d)
theorem xQ: ∀ {us:List Pk} {a:List Int} {i:Nat} {u:Pk},uY us a->us[i]? =some u-> ∃n,a[i]? =some n/\ ∃t,u=Vk n t
 |_,_,_,_,.nil,e=>by simp at e
 |_,_,0,_,.cons h _,e=>by simp at e;subst e;exact⟨_,rfl,h⟩
 |_,_,i+1,u,.cons _ r,e=>by
  obtain⟨n,b,c⟩:=xQ (i:=i) (u:=u) r (by simpa using e);exact⟨n,by simpa using b,c⟩
section
variable {prog:Qp}{w:QD}{A:Qq}{s:Pn}{b fin:Bool}{Q:Bool->Pn->Prop}
theorem vM: ∀ {us f:List Pk} {a c:List Int} (i:Nat),uY us a->uY f c->fin=decide (a.length<c.length)->Q (bx a c) s->KatLex prog w A b fin Q (us.zip f) i s
 |_,_,[],[],i,.nil,.nil,e,q=>by subst e;exact kat_nil q
 |_,_,[],m::c,i,.nil,.cons _ _,e,q=>by subst e;simp only[List.zip_nil_left];refine kat_nil ?_;simpa [bx] using q
 |_,_,n::a,[],i,.cons _ _,.nil,e,q=>by subst e;simp only[List.zip_nil_right];refine kat_nil ?_;simpa [bx] using q
 |_,_,n::a,m::c,i,.cons j l,.cons k h,e,q=>by
  obtain⟨t,rfl⟩:=j;obtain⟨t',rfl⟩:=k;rw[XR];refine kat_cons (YC (kat_go (λd=>?_) λd=>?_))
  ·have:n=m:=by simpa using d
   subst this;refine kat_yes (vM (i+1) l h (by rw[e];simp) ?_);simpa [bx] using q
  ·have:n≠m:=by simpa using d
   have g:Q (decide (n<m)) s:=by simpa [bx,this] using q
   refine kat_no ?_
   cases (b&&i==0) with
   |true=>exact oneLt_int g
   |false=>exact kat_one _ _ (lt_int g)
end
theorem iu {X:Cx}:dH X (.builtin "sorted") (λxs H Q=> ∃a ys ds es,xs=[.ref a]/\(SqL X.K H a ys\/SqT X.K H a ys)/\Reps X.K H ys ds/\iC ds=some es/\
 ∀(l:Addr) (z:List Nat),H l=none->z.length=ds.length->z.map (λi=>ds.getD i .non)=es->Q (.ref l) (b9 H l (.lst (z.map λi=>ys.getD i .non)))):=by
 intro ah s σ H xs us Q I r h;obtain⟨a,ys,ds,es,rfl,hsq,rp,d,q⟩:=h;obtain⟨u,rfl,rx⟩:=j2 r;cases rx;obtain⟨c,T,o,n,V,hT,N,J,L⟩: ∃(c:List Pk) (T:String) (o:Obj) (n:Nat),bI ys c/\(T="list"\/T="tuple")/\s.heap.get? a=some o/\o.cls=.type T/\o.data=.seq c.toArray n:=by
  rcases hsq with hq|hq
  ·obtain⟨c,O,pl,hz⟩:=I.list hq;obtain⟨o,N,J,n,L⟩:=pl.isList;exact⟨c,"list",o,n,O,.inl rfl,N,J,L⟩
  ·obtain⟨c,O,pl,hz⟩:=I.tuple hq;obtain⟨o,N,J,n,L⟩:=pl;exact⟨c,"tuple",o,n,O,.inr rfl,N,J,L⟩
 have l1:=V.length;have Y:=rp.length;have h64:ds.length<64:=by
  unfold iC at d;split at d
  ·assumption
  ·cases d
 unfold iC at d;rw[if_pos h64] at d;refine ug (G:=λz=>z.length=ds.length/\z.map (λi=>ds.getD i .non)=es) hT N J L (by lia) (λfew=>⟨by simp;lia,?_⟩) (λh2 g R=>?_) (λg p e z R hp hG W=>?_)
 ·rw[show c.length=ds.length by lia,mi];cases e1:eJ ds with
  |some E=>
   rw[e1] at d;cases d;have:=gP e1;subst this;rw[jR (by simp at Y;lia)]
  |none=>
   rw[e1] at d;cases y:mS ds with
   |none=>rw[y] at d;cases d
   |some ks=>
    rw[y] at d;cases d;obtain⟨h3,_⟩:=rM y;subst h3;dsimp only;rw[jR (by simp at Y;lia)]
 ·cases e1:eJ ds with
  |some E=>
   rw[e1] at d;cases d;have e0:=gP e1;subst e0;have hv:=uF V rp;have F:c.length=E.length:=by simp at Y;lia
   have M: ∀i,i<E.length-> ∃t,c.getD i Qw=Vk (E.getD i 0) t:=λi f=>by
    have y:c[i]? =some c[i]:=Pq (by lia);obtain⟨m,e3,t,e4⟩:=xQ hv y;refine⟨t,?_⟩;simp[Qr,y,e3,e4]
   refine kas_kind (T:=.type "int") h2 (λv hv'=>?_) (by rfl) (by rfl) ⟨rfl,?_⟩
   ·obtain⟨i,f,rfl⟩:=SZ hv';obtain⟨t,e⟩:=M i (by lia);have:c[i]=c.getD i Value.none:=by simp[Qr,Pq f]
    rw[this,e];exact jaU
   ·rw[F];refine uH (b:=λi j=>Cd (E.getD i 0) (E.getD j 0)) (Fn HQ _) (by lia) (λi j C f hj hC=>?_) λp P S=>⟨rfl,?_,?_⟩
    ·obtain⟨t,e⟩:=M i f;obtain⟨t',e'⟩:=M j hj;unfold Ym;rw[e,e'];exact kat_lt_int hC
    ·rw[PN,P.size];simp
    ·have:=congrArg (Yo D.int) (kl HQ P S);rw[<-this,PM];refine P2 λi f=>?_
     have:i<E.length:=by
      have:=P.perm.mem_iff.mp (SN.mp f);simpa using this
     simp[Qr,Pq this]
  |none=>
   rw[e1] at d;cases y:mS ds with
   |none=>rw[y] at d;cases d
   |some ks=>
    rw[y] at d;cases d;obtain⟨h3,h4⟩:=rM y;subst h3;have F:c.length=ks.length:=by simp at Y;lia
    have M: ∀i,i<ks.length-> ∃(b:Addr) (o:Obj) (B:List Pk) (n:Nat),c.getD i Qw=.ref b/\s.heap.get? b=some o/\o.cls=.type "tuple"/\o.data=.seq B.toArray n/\uY B (ks.getD i []):=λi f=>by
     have r1:=o5 V i;have r2:=tP rp i;have e3:(ks.map cZ).getD i .non=.tup ((ks.getD i []).map D.int):=by simp[Qr,Pq f,cZ]
     rw[e3] at r2;generalize hx:ys.getD i .non=x at r1 r2;cases r2 with
     |tup q1 q2=>
      obtain⟨B,O,⟨o,N,J,n,L⟩,_⟩:=I.tuple q1;exact⟨_,o,B,n,r1,N,J,L,uF O q2⟩
    have kt: ∀(l:List Pk) (A:List (List Int)),l.length=A.length->(∀i,i<A.length-> ∃(b:Addr) (o:Obj) (B:List Pk) (n:Nat),l.getD i Qw=.ref b/\s.heap.get? b=some o/\o.cls=.type "tuple"/\o.data=.seq B.toArray n/\uY B (A.getD i []))->(∀k∈A,k≠[])->
     ∃U,KatTups g l U/\U.length=l.length/\ ∀v∈U,∃i t,v=Vk i t:=by
     intro l
     induction l with
     |nil=>intro A _ _ _;exact⟨[],.nil,rfl,λ_ h=>nomatch h⟩
     |cons v l ih=>
      intro A F W hk;cases A with
      |nil=>cases F
      |cons m A=>
       obtain⟨U,f1,f2,Z⟩:=ih A (by simpa using F) (λi f=>by simpa using W (i+1) (by simpa using f)) λk hk'=>hk k (by simp[hk'])
       obtain⟨b,o,B,n,g1,g2,g3,g4,g5⟩:=W 0 (by simp);simp[Qr] at g1 g5;subst g1;cases m with
       |nil=>exact absurd rfl (hk [] (by simp))
       |cons x xs=>
        cases g5 with
        |cons y1 y2=>
         obtain⟨t,rfl⟩:=y1;refine⟨_,jbI (R _ _ g2) g3 g4 (by simp;rfl) f1,by simp[f2],λv hv=>?_⟩;rcases PX.mp hv with rfl|hv
         ·exact⟨_,_,rfl⟩
         ·exact Z v hv
    obtain⟨U,f1,f2,Z⟩:=kt c ks F M h4;refine kat_kind (T:=.type "int") f1 (by lia) (λv hv=>?_) (by rfl) ⟨rfl,?_⟩
    ·obtain⟨i,t,rfl⟩:=Z v hv;exact jaU
    ·rw[F];refine uH (b:=λi j=>bx (ks.getD i []) (ks.getD j [])) (Fn zk _) (by lia) (λi j C f hj hC=>?_) λp P S=>⟨rfl,?_,?_⟩
     ·obtain⟨b1,o1,ts1,n1,x1,x2,x3,x4,x5⟩:=M i f;obtain⟨b2,o2,ts2,n2,y1,y2,y3,y4,y5⟩:=M j hj;unfold Ym;rw[x1,y1];refine kat_lt (R _ _ x2) x4 (R _ _ y2) y4 ?_
      refine vM 0 x5 y5 ?_ hC;have z1:=TR x5;have z2:=TR y5;simp[z1,z2]
     ·rw[PN,P.size];simp
     ·have:=congrArg (Yo cZ) (kl zk P S);dsimp only;rw[<-this,PM];refine P2 λi f=>?_
      have:i<ks.length:=by
       have:=P.perm.mem_iff.mp (SN.mp f);simpa using this
      simp[Qr,Pq this]
 ·refine⟨.ref p,_,I.laid (t':=s.toks) R hp (show cc X.prog X.w _ g _ (.lst (z.map λi=>ys.getD i .non)) from⟨?_,_,e,oK V z,W⟩),rfl,q _ z (I.hok.fresh hp) hG.1 hG.2⟩;rw[Pp,hG.1,Q7];lia
def dv:List D->Option D
 | [.lst ds]=>(iC ds).map D.lst
 | [.tup ds]=>(iC ds).map D.lst
 |_=>none
theorem kU {K:Pz}:gJ K .n (λxs H Q=> ∃a ys ds es,xs=[.ref a]/\(SqL K H a ys\/SqT K H a ys)/\Reps K H ys ds/\iC ds=some es/\
 ∀(l:Addr) (b:List Nat),H l=none->b.length=ds.length->b.map (λi=>ds.getD i .non)=es->Q (.ref l) (b9 H l (.lst (b.map λi=>ys.getD i .non)))) dv:=by
 intro H hid vs ds d Q m h r q;unfold dv at h;split at h
 ·rename_i zs
  cases e:iC zs with
  |none=>rw[e] at h;cases h
  |some es=>
   rw[e] at h;cases h;obtain⟨x,rfl,k⟩:=cv.one r;obtain⟨a,xs,rfl,j,f⟩:=k.lst;refine⟨a,xs,zs,es,rfl,.inl j,f.mono (dD _ _),e,λl b c _ g=>q _ _ (aT c _) (f8 c (a6.refl _) ?_)⟩;rw[<-g];exact o0 f b
 ·rename_i zs
  cases e:iC zs with
  |none=>rw[e] at h;cases h
  |some es=>
   rw[e] at h;cases h;obtain⟨x,rfl,k⟩:=cv.one r;obtain⟨a,xs,rfl,_,j,f⟩:=k.tup;refine⟨a,xs,zs,es,rfl,.inr j,f.mono (dD _ _),e,λl b c _ g=>q _ _ (aT c _) (f8 c (a6.refl _) ?_)⟩;rw[<-g];exact o0 f b
 ·cases h
section
variable {X:Cx}{c:Ct}{e a b:Expr}{es rest:List Expr}{f g:GE}{fs:GA}{k:Kd}{pos p:Pos}{x:Str}{id T:String}{r:List V->Hp->VK->Prop}{F:List D->Option D}{ps:List Str}{j n:Nat}
theorem LP {r:R2}{F:D->D->Option D}(d:IxR X r)(j:pK X.K k r F)(l:DE X c .s a f)(e:DE X c .s b g)(i:uA b)(m:k≠ .b:=by decide):DE X c k (.Subscript a b pos) (yu F f g):=λhid ρ=>
 PE.imp (IW d (l hid ρ) (vC λρ1=>e hid ρ1) i) λσ H Q h=>NF j m h
theorem Reps.b1 {K:Pz}: ∀ {vs:List V} {ds:List D},Reps K W vs ds->cv K H W vs ds
 |_,_,.nil=>.nil
 |_,_,.cons r t=>.cons (.inl r) (Reps.b1 t)
def g8(F:List D->Option D)(a:GA):GE:=λρ=>(a ρ).bind λq=>(F q.1).map λd=>(d,q.2)
theorem yJ {F:List D->Option D}{ρ ρ':aG}(h:g8 F fs ρ=some (d,ρ')): ∃ds,fs ρ=some (ds,ρ')/\F ds=some d:=by
 unfold g8 at h;cases e:fs ρ with
 |none=>rw[e] at h;cases h
 |some q=>
  rw[e] at h;dsimp only[TD] at h;cases e2:F q.1 with
  |none=>rw[e2] at h;cases h
  |some z=>rw[e2] at h;cases h;exact⟨q.1,rfl,e2⟩
theorem MI(l:gJ X.K k r F)(o:k≠ .b){H:Hp}(h:Ld X.K c hid k (g8 F fs) ρ σ H Q):Mb r (OM X.K c hid fs ρ) σ H Q:=by
 obtain⟨i,d,ρ',j,q⟩:=h;obtain⟨ds,m,f⟩:=yJ j;exact⟨i,ds,ρ',m,λvs p t e u=>l p hid vs ds d Q (λa n=>e.fresh n) f u.b1 λw g s2 s=>q w g (df.left t (e.post s2 s o))⟩
theorem EJ(l:dH X (.builtin id) r)(f:gJ X.K k r F)(m:X.mg x=none)(j:DG X c (e::es) fs)(n:k≠ .b:=by decide)(i:Gl X x:=by rfl)(hv:Rm x=some (.builtin id):=by kernel_rfl)(o:x≠"__name__":=by decide)(a:(x==("__debug__":Str))=false:=by decide)
 (g:PP (e::es) X.env=(false,eval e X.env)::PP es X.env:=by rfl) (d:(R5 pos (PP es X.env)).any (·.1)=false:=by rfl):DE X c k (.Call (.Name x p) (e::es) [] pos) (g8 F fs):=λhid ρ=>
 PE.imp (nS l i m hv (j hid ρ) o a g d) λσ H Q h=>MI f n h
theorem tK(l:dH X (.type T) r)(f:gJ X.K k r F)(m:X.mg x=none)(j:DG X c (e::es) fs)(n:k≠ .b:=by decide)(i:Gl X x:=by rfl)(hv:Rm x=some (.type T):=by kernel_rfl)(o:x≠"__name__":=by decide)(a:(x==("__debug__":Str))=false:=by decide)
 (g:PP (e::es) X.env=(false,eval e X.env)::PP es X.env:=by rfl) (d:(R5 pos (PP es X.env)).any (·.1)=false:=by rfl):DE X c k (.Call (.Name x p) (e::es) [] pos) (g8 F fs):=λhid ρ=>
 PE.imp (gv l i m hv (j hid ρ) o a g d) λσ H Q h=>MI f n h
end
section
variable {prog:Qp}{w:QD}{A:Qq}{R:Vr->Pn->Prop}{s:Pn}{elt t1 t2 i1 i2:Expr}{ifs1 ifs2:List Expr}{scope:Sm}{pos:Pos}{it acc:Pk}{env:Env}
theorem Iq:Yi (.ListComp elt [⟨t1,i1,ifs1,0⟩,⟨t2,i2,ifs2,0⟩] scope pos) 1 it acc env=(do
 VJ i2.pos
 match <-TL it with
 |none=>pure (.done .next)
 |some v=>
  SL t2 it v
  S6 t2 env v
  let ok <-nz ifs2 env
  if ok=true then do(do let _ <-call (.builtin "list.append") [acc,<-eval elt env]);W2 (.compLoop (.ListComp elt [⟨t1,i1,ifs1,0⟩,⟨t2,i2,ifs2,0⟩] scope pos) 1 it acc env)
  else W2 (.compLoop (.ListComp elt [⟨t1,i1,ifs1,0⟩,⟨t2,i2,ifs2,0⟩] scope pos) 1 it acc env)):=by rfl
theorem EA:Yi (.ListComp elt [⟨t1,i1,ifs1,0⟩,⟨t2,i2,ifs2,0⟩] scope pos) 0 it acc env=(do
 VJ i1.pos
 match <-TL it with
 |none=>pure (.done .next)
 |some v=>
  SL t1 it v
  S6 t1 env v
  let ok <-nz ifs1 env
  if ok=true then do
   let x <-eval i2 env
   VJ i2.pos
   let x <-QY i2 env x
   let _ <-runOwn (.compStart (.ListComp elt [⟨t1,i1,ifs1,0⟩,⟨t2,i2,ifs2,0⟩] scope pos) 1 (<-TY [x] (Ww x)) acc env) env
   W2 (.compLoop (.ListComp elt [⟨t1,i1,ifs1,0⟩,⟨t2,i2,ifs2,0⟩] scope pos) 0 it acc env)
  else W2 (.compLoop (.ListComp elt [⟨t1,i1,ifs1,0⟩,⟨t2,i2,ifs2,0⟩] scope pos) 0 it acc env)):=by rfl
abbrev EV:=(Pn->Prop)->Pn->Prop
def Ax(prog:Qp)(w:QD)(A:Qq)(d:Expr)(acc:Pk)(c:Env):EV:=λQ s=>
 PJ (model prog w) A (eval d c) (λx b=>PJ (model prog w) A (call (.builtin "list.append") [acc,x]) (λ_ a=>Q a) (λ_ _=>False) b) (λ_ _=>False) s
def vz(prog:Qp)(w:QD)(A:Qq)(e d:Expr)(acc:Pk)(a:Env):EV:=λQ s=>
 PJ (model prog w) A (eval d a) (λx c=>PJ (model prog w) A (Ww x) (λit b=>R9 (model prog w) A (.compStart e 1 it acc a) (λr s'=>match r with
  | .ok _=>Q s'
  | .error _=>False) b) (λ_ _=>False) c) (λ_ _=>False) s
def D5(prog:Qp)(w:QD)(A:Qq)(d:Code)(h:Expr)(g:List Expr)(it:Pk)(e:Env)(TA:EV)(R:Vr->Pn->Prop):Prop:= ∀(I:Nat->Pn->Prop),
 (∀n s,I n s->PJ (model prog w) A (TL it) (λr a=>match r with
   |none=>R (.ok .next) a
   |some v=>PJ (model prog w) A (SL h it v) (λ_ a=>PJ (model prog w) A (S6 h e v) (λ_ c=>
     PJ (model prog w) A (nz g e) (λok b=>
      if ok=true then TA (λf=> ∃m,m<n/\I m f) b
      else∃m,m<n/\I m b) (λ_ _=>False) c) (λ_ _=>False) a) (λ_ _=>False) a) (λ_ _=>False) s)->
 ∀(n:Nat) (s:Pn),I n s->R9 (model prog w) A d R s
theorem FN:D5 prog w A (.compLoop (.ListComp elt [⟨t1,i1,ifs1,0⟩,⟨t2,i2,ifs2,0⟩] scope pos) 1 it acc env) t2 ifs2 it env (Ax prog w A elt acc env) R:=by
 intro I turn n s h;have no: ∀ {m:Pk->Pn->Prop} (x:Pk) (s:Pn),False->m x s:=λ_ _ z=>z.elim
 refine Yh rfl I (λn s l=>?_) n h;show PJ _ A ((Yi (.ListComp elt [⟨t1,i1,ifs1,0⟩,⟨t2,i2,ifs2,0⟩] scope pos) 1 it acc env).onRaise (λx=>do YL x env;WM x)) _ _ s;refine Y0 ?_
 rw[Iq];refine Ph (RP (Ph (Qv (turn n s l) (λr f a=>?_) no)));cases r with
 |none=>exact Pl a
 |some v=>
  refine Ph (Qv a (λ_ f a=>Ph (Qv a (λ_ g c=>Ph (Qv c (λok j b=>?_) no)) no)) no);cases ok with
  |false=>exact Pl ⟨rfl,b⟩
  |true=>exact Ph (Ph (Qv b (λx k d=>Ph (Qv d (λ_ i e=>Pl (Pl ⟨rfl,e⟩)) no)) no))
theorem BR(i: ∀x,QY i2 env x=pure x):D5 prog w A (.compLoop (.ListComp elt [⟨t1,i1,ifs1,0⟩,⟨t2,i2,ifs2,0⟩] scope pos) 0 it acc env) t1 ifs1 it env (vz prog w A (.ListComp elt [⟨t1,i1,ifs1,0⟩,⟨t2,i2,ifs2,0⟩] scope pos) i2 acc env) R:=by
 intro I turn n s h;have no: ∀ {u:Pk->Pn->Prop} (x:Pk) (s:Pn),False->u x s:=λ_ _ z=>z.elim
 refine Yh rfl I (λn s q=>?_) n h;show PJ _ A ((Yi (.ListComp elt [⟨t1,i1,ifs1,0⟩,⟨t2,i2,ifs2,0⟩] scope pos) 0 it acc env).onRaise (λx=>do YL x env;WM x)) _ _ s;refine Y0 ?_
 rw[EA];refine Ph (RP (Ph (Qv (turn n s q) (λr j a=>?_) no)));cases r with
 |none=>exact Pl a
 |some v=>
  refine Ph (Qv a (λ_ j a=>Ph (Qv a (λ_ k c=>Ph (Qv c (λok o b=>?_) no)) no)) no);cases ok with
  |false=>exact Pl ⟨rfl,b⟩
  |true=>
   refine Ph (Qv b (λx p d=>Ph (RP (Ph (Xa (i x) (Ph (Qt (Qv d (λt l g=>?_) no))))))) no);refine Ph (wpAny_runOwn (Sq g λr s' m=>?_));cases r with
   |ok f=>exact Pl ⟨rfl,m⟩
   |error e=>exact m.elim
end
def qg(g:FG)(p:FT)(A:FA)(a:aG):List D->Option (List D)
 | []=>some []
 |d::r=>(g d a).bind λρ1=>(p ρ1).bind λb=>if b=true then(A ρ1).bind λys=>(qg g p A a r).map (ys++ ·) else qg g p A a r
def NG(n:Nat)(ρ:aG):Prop:= ∀(i:Nat) (s:Sl),n<=i->ρ[i]? =some s->s=.no
def Ec(Y:Cx)(c:Ct)(hid:bN)(e:Addr)(L W:Hp)(A:FA)(TA:EV)(ρ1:aG):Prop:= ∀(g:List (Addr×Obj)) (s:Pn) (σ:St) (H:Hp) (xs:List V) (f zs:List D) (Q:Pn->Prop),Inv Y g σ H s->SR Y.K c hid ρ1 σ H->
 H e=some (.lst xs)->Reps Y.K (vw H hid) xs f->xs.length+zs.length<=P4->a6 L H->a6 W (vw H hid)->(∀i:Nat,Ow ρ1[i]? ->σ[i]? ≠some (some (.ref e)))->A ρ1=some zs->
 (∀(s':Pn) (a:St) (b:Hp) (d:List V),Inv Y g a b s'->SR Y.K c hid ρ1 a b->b e=some (.lst d)->Reps Y.K (vw b hid) d (f++zs)->a6 L b->a6 (vw H hid) (vw b hid)->(∀i:Nat,Ow ρ1[i]? ->a[i]? ≠some (some (.ref e)))->Q s')->TA Q s
section
variable {Y:Cx}{c:Ct}{tg:Expr}{ifs:List Expr}{g:FG}{p:FT}{A:FA}{TA:EV}{code:Code}
structure CLG(Y:Cx)(ah:List (Addr×Obj))(c:Ct)(hid:bN)(ρ0:aG)(L W H3:Hp)(D0:Addr)(fp:List Addr)(tn:Nat->Heap->Prop)(g:FG)(p:FT)(A:FA)(ds ys ad0:List D)(n i:Nat)(xs:List V)(ad:List D)(σ':St)(H':Hp)(s':Pn):Prop where
 e:n=ds.length-i
 hi:i<=ds.length
 I:Inv Y ah σ' H' s'
 st:tn i s'.heap
 fr: ∀b∈fp,H' b=none
 sr:SR Y.K c hid ρ0 σ' H'
 sm:a6 L H'
 ac:H' D0=some (.lst xs)
 rp:Reps Y.K (vw H' hid) xs ad
 w:a6 W (vw H' hid)
 v:a6 (vw H3 hid) (vw H' hid)
 na: ∀i:Nat,Ow ρ0[i]? ->σ'[i]? ≠some (some (.ref D0))
 go: ∃rest,qg g p A ρ0 (ds.drop i)=some rest/\ad++rest=ad0++ys
theorem wq(B:Y.calm=true)(hxe:Y.xe=λ_ _=>False)(hT:jM n0 g)(hg:uk Y c tg g)(hp:vY Y c ifs p) {F L W:Hp} {s4:Pn} {hid:bN} {ds ys ad0:List D} {G8:List V}
 (hA: ∀d ρ1,g d ρ0=some ρ1->Ec Y c hid D0 L W A TA ρ1)
 (hN:NG n0 ρ0) (I:Inv Y ah σ3 F s4) (sr:SR Y.K c hid ρ0 σ3 F) (hh:hid D0=true) (na: ∀i:Nat,Ow ρ0[i]? ->σ3[i]? ≠some (some (.ref D0))) (X2:F D0=some (.lst G8)) (rp0:Reps Y.K (vw F hid) G8 ad0) (sm:a6 L F) (wv:a6 W (vw F hid)) (T:il Y.prog Y.w Y.K tg J fp it tn) (st:tn 0 s4.heap) (hF: ∀b∈fp,jS Y ah F b)
 (io:Ms Y.K L W J ds) (hz:ad0.length+ys.length<=P4) (hc:qg g p A ρ0 ds=some ys)
 (hTP:D5 Y.prog Y.w Y.A code tg ifs (.ref it) Y.env TA R)
 (hR: ∀(s':Pn) (f:St) (h:Hp) (xs:List V),Inv Y ah f h s'->SR Y.K c hid ρ0 f h->a6 L h->h D0=some (.lst xs)->Reps Y.K (vw h hid) xs (ad0++ys)->a6 (vw F hid) (vw h hid)->(∀i:Nat,Ow ρ0[i]? ->f[i]? ≠some (some (.ref D0)))->R (.ok .next) s'):
 R9 (model Y.prog Y.w) Y.A code R s4:=by
 have E: ∀ {h:Hp},(∀b∈fp,h b=none)-> ∀b∈fp,jS Y ah h b:=λ{h} hn b G=>⟨hn b G,(hF b G).2⟩
 refine hTP (λn s'=> ∃(i:Nat) (xs:List V) (ad:List D) (f:St) (h:Hp),CLG Y ah c hid ρ0 L W F D0 fp tn g p A ds ys ad0 n i xs ad f h s') ?_ ds.length s4
  ⟨0,G8,ad0,σ3,F,by simp,Ri _,I,st,λb G=>(hF b G).1,sr,sm,X2,rp0,wv,a6.refl _,na,ys,by simpa using hc,rfl⟩
 rintro n s5 ⟨i,xs,ad,t,P,rfl,hi,I5,XV,f5,X,C,Q,M,w5,v5,na5,k,a,y⟩;have wH:a6 W P:=w5.trans (dD _ _)
 by_cases N:i<ds.length
 ·have hd:ds[i]? =some ds[i]:=Pq N;have e2:ds.drop i=ds[i]::ds.drop (i+1):=Ry N;rw[e2] at a;unfold qg at a;obtain⟨go,yl⟩:=io.1 i ds[i] P hd C wH;refine bT (T.item Y rfl rfl rfl B i ah s5 t P (λ_ _=>False) I5 (E f5) XV go) λr s6 l=>?_
  obtain⟨u,hr,h6⟩:=l;subst hr;refine bT h6 λ_ s7 l=>?_
  obtain⟨x,H7,I7,r7,y7,U,f7⟩:=l;obtain⟨q,rp⟩:=yl x H7 y7;have rx:=rp hid X.tr w5;have I7':=I7.pinned (E f7) (T.obj _ _ U);cases e3:g ds[i] ρ0 with
  |none=>rw[e3] at a;cases a
  |some ρ1=>
   rw[e3] at a;have a:(p ρ1).bind (λb=>if b=true then(A ρ1).bind λys=>(qg g p A ρ0 (ds.drop (i+1))).map (ys++ ·) else qg g p A ρ0 (ds.drop (i+1)))=some k:=a;obtain⟨tl1,X3⟩:=hT _ _ _ e3;have fg: ∀ {f:St} {h:Hp},SR Y.K c hid ρ1 f h->SR Y.K c hid ρ0 f h:=λ{f h} z=>z.forget tl1 λj s e=>by
    by_cases hj:j<n0
    ·exact .inr ((X3 j hj).trans e)
    ·exact .inl (hN j s (by lia) e)
   have O: ∀j:Nat,Ow ρ0[j]? ->Ow ρ1[j]? :=λj o=>by
    by_cases hj:j<n0
    ·rw[X3 j hj];exact o
    ·exfalso;cases e:ρ0[j]? with
     |none=>rw[e] at o;exact o
     |some s=>have:=hN j s (by lia) e;subst this;rw[e] at o;exact o
   have v: ∀ {f:St} {h:Hp} {s':Pn},Inv Y (ah++ml fp s7.heap) f h s'->tn (i+1) s'.heap/\ ∀b∈fp,h b=none:=λ{f h s'} J'=>by
    refine⟨T.keep _ _ _ U λb G o e=>(J'.pin (b,o) (P8 _ (P8 _ (dh G e)))).1,λb G=>?_⟩;obtain⟨o,e,_⟩:=T.obj _ _ U b G;exact(J'.pin (b,o) (P8 _ (P8 _ (dh G e)))).2.1
   refine bT (hxe▸hg hid ρ0 ds[i] _ s7 t H7 x u (λf h=>h=H7/\SR Y.K c hid ρ1 f H7/\OwK ρ0 ρ1 t f) I7' r7 ⟨X.ext q,rx,ρ1,e3,λf z o=>⟨rfl,z,o⟩⟩) λ_ s8 l=>?_
   obtain⟨H,H8,I8,e8,q8,o8⟩:=l;subst e8;have Tm: ∀j:Nat,Ow ρ1[j]? ->H[j]? ≠some (some (.ref D0)):=λj o=>by
    rw[(o8 j o).2];exact na5 j (o8 j o).1
   cases e4:p ρ1 with
   |none=>rw[e4] at a;cases a
   |some b=>
    rw[e4] at a;have a:(if b=true then(A ρ1).bind λys=>(qg g p A ρ0 (ds.drop (i+1))).map (ys++ ·) else qg g p A ρ0 (ds.drop (i+1)))=some k:=a;refine bT (hxe▸hp hid ρ1 _ s8 H H8 (λb' h=>b'=b/\a6 H8 h) I8 ⟨q8,b,e4,λh s'=>⟨rfl,s'⟩⟩) λok s9 l=>?_
    obtain⟨H9,I9,e9,m⟩:=l;subst e9;have Z:a6 (vw P hid) (vw H9 hid):=aW (q.trans m);cases ok with
    |false=>
     have a:qg g p A ρ0 (ds.drop (i+1))=some k:=a;obtain⟨k1,k2⟩:=v I9;exact⟨ds.length- (i+1),by lia,i+1,xs,ad,H,H9,rfl,N,I9.unpinned,k1,k2,fg (q8.ext m),C.trans (q.trans m),m _ _ (q _ _ Q),M.mono Z,w5.trans Z,v5.trans Z,λj o=>Tm j (O j o),k,a,y⟩
    |true=>
     have a:((A ρ1).bind λys=>(qg g p A ρ0 (ds.drop (i+1))).map (ys++ ·))=some k:=a;cases e5:A ρ1 with
     |none=>rw[e5] at a;cases a
     |some zs=>
      rw[e5] at a;have a:(qg g p A ρ0 (ds.drop (i+1))).map (zs++ ·)=some k:=a;cases e6:qg g p A ρ0 (ds.drop (i+1)) with
      |none=>rw[e6] at a;cases a
      |some S=>
       rw[e6] at a;cases a;have l1:=M.length;have l2:=congrArg Sd y;simp only[P0] at l2;refine hA ds[i] ρ1 e3 _ s9 H H9 xs ad zs _ I9 (q8.ext m) (m _ _ (q _ _ Q)) (M.mono Z) (by lia) (C.trans (q.trans m)) (w5.trans Z) Tm e5 λs10 XL H10 xs' ST q10 a10 rp10 smL v10 Ty=>?_
       obtain⟨k1,k2⟩:=v ST;exact⟨ds.length- (i+1),by lia,i+1,xs',ad++zs,XL,H10,rfl,N,ST.unpinned,k1,k2,fg q10,smL,a10,rp10,(w5.trans Z).trans v10,(v5.trans Z).trans v10,λj o=>Ty j (O j o),S,e6,by rw[<-y];simp⟩
 ·have e:i=ds.length:=by lia
  subst e;rw[Su (Px _)] at a;cases a;rw[QX] at y;subst y;refine bT (T.done Y rfl rfl rfl B ds.length ah s5 t P (λ_ _=>False) I5 (E f5) XV (io.2 P C wH)) λr s6 l=>?_
  obtain⟨hr,I6⟩:=l;subst hr;exact hR s6 t P xs I6 X C Q M v5 na5
end
def w8(f:FE):FA:=λρ=>(f ρ).map λd=>[d]
def Ex(a:FA)(g:FG)(p:FT)(f:FE):FA:=λρ1=>(a ρ1).bind λds=>qg g p (w8 f) ρ1 ds
def jh(m:Nat)(b:FA)(g:FG)(c:FT)(a:FA)(e:FG)(d:FT)(f:FE):FE:=λρ=>(b ρ).bind λds=>(qg g c (Ex a e d f) (ρ++Py m .no) ds).bind λys=>if ys.length<=P4 then some (.lst ys) else none
theorem CH(h:jh m gi1 g1 p1 gi2 g2 p2 f ρ=some d): ∃ds ys,gi1 ρ=some ds/\qg g1 p1 (Ex gi2 g2 p2 f) (ρ++Py m .no) ds=some ys/\ys.length<=P4/\d=.lst ys:=by
 unfold jh at h;cases e1:gi1 ρ with
 |none=>rw[e1] at h;cases h
 |some ds=>
  rw[e1] at h;dsimp only[TD] at h;cases e2:qg g1 p1 (Ex gi2 g2 p2 f) (ρ++Py m .no) ds with
  |none=>rw[e2] at h;cases h
  |some ys=>
   rw[e2] at h;dsimp only at h;split at h
   ·cases h;exact⟨ds,ys,rfl,e2, ‹_›,rfl⟩
   ·cases h
def DZ(n:Nat)(g:FG):Prop:= ∀d (a ρ1:aG),g d a=some ρ1-> ∀i:Nat,n<=i->ρ1[i]? =a[i]?
def Am(n:Nat)(g:tf):Prop:= ∀d (a ρ1:aG),g d a=some ρ1-> ∀i:Nat,n<=i->ρ1[i]? =a[i]?
theorem w6 {n i:Nat}(h:i<n):DZ n (gN i):=λd a ρ1 e=>by
 cases e;exact λj b=>PY (by lia)
theorem Gn {n:Nat}:Am n gX:=λd a ρ1 e=>by
 unfold gX at e;split at e
 ·cases e;exact λ_ _=>rfl
 ·cases e
theorem yj {n:Nat}(c:DZ n g)(f:Am n gs):Am n (cS g gs):=λd a ρ1 e=>by
 cases d with
 |nil=>cases e
 |cons d ds=>
  have e:(g d a).bind (λρ'=>gs ds ρ')=some ρ1:=e;cases e1:g d a with
  |none=>rw[e1] at e;cases e
  |some ρ2=>
   rw[e1] at e;exact λi b=>(f ds ρ2 ρ1 e i b).trans (c d a ρ2 e1 i b)
theorem Nh {n m:Nat}(h:Am n gs):DZ n (gT m gs):=λd a ρ1 e=>by
 unfold gT at e;split at e
 ·split at e
  ·exact h _ _ _ e
  ·cases e
 ·cases e
section
variable {prog:Qp}{w:QD}{A:Qq}{R:Vr->Pn->Prop}{s:Pn}{elt t1 t2 i1 i2:Expr}{ifs1 ifs2:List Expr}{scope:Sm}{pos:Pos}{it acc:Pk}{env:Env}
theorem Dk
 (b:R9 (model prog w) A (.compLoop (.ListComp elt [⟨t1,i1,ifs1,0⟩,⟨t2,i2,ifs2,0⟩] scope pos) 1 it acc env) R s)
 (h:PJ (model prog w) A (Ww it) (λa s'=>R9 (model prog w) A (.compLoop (.ListComp elt [⟨t1,i1,ifs1,0⟩,⟨t2,i2,ifs2,0⟩] scope pos) 1 a acc env) R s')
   (notedBy (model prog w) A env λx s'=>R (.error x) s') s):
 R9 (model prog w) A (.compStart (.ListComp elt [⟨t1,i1,ifs1,0⟩,⟨t2,i2,ifs2,0⟩] scope pos) 1 it acc env) R s:=by
 refine U0 (show PJ _ _ ((compStart (.ListComp elt [⟨t1,i1,ifs1,0⟩,⟨t2,i2,ifs2,0⟩] scope pos) 1 it acc env).onRaise (λx=>do YL x env;VJ theWindowsPlace)) _ _ s from wpAny_notedAt ?_);unfold compStart;show PJ _ _ (ask>>=_) _ _ s;refine Ph (UK (wpAny_ite ?_));split
 ·first
   |exact Ph (Pl (Pl (YM rfl b)))
   |exact Pl (YM rfl b)
 ·first
   |exact Ph (Wv (Ph (RP (Ph (Qv h (λa s' h'=>Pl (YM rfl h')) λ_ _ x=>x)))))
   |(refine Ph (Wv ?_);show PJ _ _ (VJ i2.pos>>=_) _ _ s;exact Ph (RP (Ph (Qv h (λa s' h'=>Pl (YM rfl h')) λ_ _ x=>x))))
end
section
variable {Y:Cx}{c:Ct}{elt t1 t2 i1 i2:Expr}{ifs1 ifs2:List Expr}{scope:Sm}{pos:Pos}{f:FE}{g2:FG}{p2:FT}{gi2:FA}{hid:bN}{D0:Addr}{L W:Hp}{ρ1:aG}
theorem F4(l:Y.xe=λ_ _=>False)(P:DP Y c .s elt f)(F:hid D0=true)(x:c.H₀ D0=none)(N:L D0=none):Ec Y c hid D0 L W (w8 f) (Ax Y.prog Y.w Y.A elt (.ref D0) Y.env) ρ1:=by
 intro S s σ H xs U zs Q I E ac R M q T C j J;unfold w8 at j;cases e5:f ρ1 with
 |none=>rw[e5] at j;cases j
 |some y=>
  rw[e5] at j;cases j;unfold Ax;refine bT (l▸P hid ρ1 _ s σ H (λv g=>a6 H g/\Rep Y.K (vw g hid) v y) I ⟨E,y,e5,λv g s' r=>⟨s',r⟩⟩) λv p n=>?_
  obtain⟨z,d,u,O,a,k⟩:=n;have h:d D0=some (.lst xs):=a _ _ ac;refine bT (l▸du (X:=Y) _ p σ d (.ref D0) [z] (.ref D0) [v] (λ_ g=>g=b9 d D0 (.lst (xs++[z]))) u rfl (.cons O .nil) ⟨D0,xs,z,rfl,rfl,h,by simp at M;lia,rfl⟩) λ_ m ⟨_,G,B,_,t⟩=>?_
  subst t;have D:vw (b9 d D0 (.lst (xs++[z]))) hid=vw d hid:=fZ F;have i:a6 (vw H hid) (vw d hid):=aW a;refine J m σ _ (xs++[z]) B ((E.ext a).write F x C h) aV ?_ (λb o e=>?_) ?_ C
  ·rw[D];exact(R.mono i).append (.cons k .nil)
  ·rw[aQ (bF e N)];exact a _ _ (q _ _ e)
  ·rw[D];exact i
theorem BX(h:Y.calm=true)(e:Y.xe=λ_ _=>False)(F:jM n1 g2)(X:NG n1 ρ1)(U:DIp Y c t2 i2 gi2)(M:uk Y c t2 g2)(hp:vY Y c ifs2 p2)(V:DP Y c .s elt f)(B:hid D0=true)(u:c.H₀ D0=none)(nD:L D0=none):
 Ec Y c hid D0 L W (Ex gi2 g2 p2 f) (vz Y.prog Y.w Y.A (.ListComp elt [⟨t1,i1,ifs1,0⟩,⟨t2,i2,ifs2,0⟩] scope pos) i2 (.ref D0) Y.env) ρ1:=by
 intro R s σ H xs ad zs Q I z ac D hz q wv G g Z;unfold Ex at g;cases e5:gi2 ρ1 with
 |none=>rw[e5] at g;cases g
 |some ds=>
  rw[e5] at g;have g:qg g2 p2 (w8 f) ρ1 ds=some zs:=g;unfold vz;refine bT (e▸U hid ρ1 R s σ H (λJ j=>a6 H j/\ic Y.K (vw j hid) J ds) I ⟨z,ds,e5,λJ j C m=>⟨C,m⟩⟩) λv C h1=>bT h1 λS s2 h2=>?_
  obtain⟨it,fp,tn,J,H2,rfl,P,T,i,E,l,m⟩:=h2;have l1:=D.length
  have a:R9 (model Y.prog Y.w) Y.A (.compLoop (.ListComp elt [⟨t1,i1,ifs1,0⟩,⟨t2,i2,ifs2,0⟩] scope pos) 1 (.ref it) (.ref D0) Y.env) (λr s'=>match r with
   | .ok _=>Q s'
   | .error _=>False) s2:=by
   refine wq (L:=L) (W:=vw H2 hid) (ad0:=ad) (G8:=xs) (A:=w8 f) (TA:=Ax Y.prog Y.w Y.A elt (.ref D0) Y.env) h e F M hp (λd ρ2 _=>F4 e V B u nD) X P (z.ext l) B G (l _ _ ac) (D.mono (aW l)) (q.trans l) (a6.refl _) T i E m.b (by lia) g FN ?_
   intro s' t j x O p k y n N o;exact Z s' t j x O p y n k ((aW l).trans N) o
  exact Dk a (T.self Y.A 0 _ _ _ i a)
end
section
variable {X:Cx}{c:Ct}{elt t1 t2 i1 i2:Expr}{ifs1 ifs2:List Expr}{scope:Sm}{pos:Pos}{N':List Str}{m n1:Nat}{gi1 gi2:FA}{g1 g2:FG}{p1 p2:FT}{f:FE}
theorem xm(n:X.calm=true)(hk:scope.kind=.function)(hs:yt scope X.env.scope=true)(hn:yI X.N N' scope=true)(hm:N'.length-X.N.length=m)(hT1:jM X.N.length g1)(Yw:DZ n1 g1)(hn1:X.N.length<=n1)(ST:jM n1 g2)
 (O: ∀C g a l,∀x,QY i2 (aD X N' scope C g a l).env x=pure x)
 (hg1: ∀C g a l,uk (aD X N' scope C g a l) c t1 g1) (XV: ∀C g a l,vY (aD X N' scope C g a l) c ifs1 p1) (hi2: ∀C g a l,DIp (aD X N' scope C g a l) c t2 i2 gi2)
 (X2: ∀C g a l,uk (aD X N' scope C g a l) c t2 g2) (hp2: ∀C g a l,vY (aD X N' scope C g a l) c ifs2 p2) (he: ∀C g a l,DP (aD X N' scope C g a l) c .s elt f) {s:Pn} {ds ys:List D} {RR:Pk->Addr->Vr->Pn->Prop}
 (I:Inv X ah σ H s) (R:SR X.K c hid ρ σ H) (T:il X.prog X.w X.K t1 J fp it tn) (st:tn 0 s.heap) (hF: ∀b∈fp,jS X ah H b) (io:Ms X.K H (vw H hid) J ds) (hz:ys.length<=P4) (hc:qg g1 p1 (Ex gi2 g2 p2 f) (ρ++Py m .no) ds=some ys)
 (hR: ∀(D C:Addr) (s':Pn) (t:Hp) (xs:List V),s.heap.objs.size<=D->s.heap.objs.size<=C->D≠C->H D=none->a6 H t->t D=some (.lst xs)->Reps X.K (vw t (bn hid D)) xs ys->(∃m,s'.heap.Ns C m)->t C=none->s'.os=s.os->Uj s'.gens->HOk X.prog X.w t s'.heap->Un (frs X.stack) fp H t s.heap s'.heap->RR (.ref D) C (.ok .next) s'):
 PJ (model X.prog X.w) X.A (Xl []) (λacc Z=>PJ (model X.prog X.w) X.A (Uo scope X.env.globals (uK X.env.cells scope.names []) [] X.env.qual none .none (some X.env)) (λu U=>
  R9 (model X.prog X.w) X.A (.compStart (.ListComp elt [⟨t1,i1,ifs1,0⟩,⟨t2,i2,ifs2,0⟩] scope pos) 0 (.ref it) acc {u with scope:=Um scope X.env}) (RR acc u.locals) U) E Z) E s:=by
 refine Rh (uP λy h r j=>?_);dsimp only at h r j⊢;generalize z:s.heap.push {cls:=.type "list",dict:=none,data:=.seq ([]:List Pk).toArray}=H2 at h r j⊢;have hC:H2.objs.size=s.heap.objs.size+1:=by rw[<-z,Rc]
 have p:H s.heap.objs.size=none:=I.hok.fresh (Px _);have I2:Inv X ah σ (b9 H s.heap.objs.size (.lst [])) {s with heap:=H2}:=by
  rw[<-z];exact I.laid (t':=s.toks) (λb o e=>Po _ e) (Px _) ⟨Ri _,[],0,.nil,PD _ rfl⟩
 have Q: ∀b∈fp,b<s.heap.objs.size:=λb k=>let⟨o,e,_⟩:=T.obj 0 s.heap st b k;PB e
 have P: ∀b∈fp,jS X ah (b9 H s.heap.objs.size (.lst [])) b:=λb k=>⟨by rw[aQ (P6 (Q b k))];exact(hF b k).1,(hF b k).2⟩
 have B: ∀b o,s.heap.get? b=some o->H2.get? b=some o:=λb o e=>by rw[<-z];exact Po _ e
 have G:=qD (tk:=s.toks) (N':=N') (fp:=fp) I2 P (λb k=>let⟨o,e,_⟩:=T.obj 0 s.heap st b k;⟨o,B b o e⟩) hk hs hn h r j;rw[hm] at G;dsimp only at G;have sr0:SR X.K c (bn hid s.heap.objs.size) (ρ++Py m .no) (σ++Py m none) (b9 H s.heap.objs.size (.lst [])):=(R.hide (aT p _) p aV).more m;have hρ:ρ.length=X.N.length:=by rw[<-R.len];exact I.len
 have nf:hid s.heap.objs.size=false:=R.fresh p;have M:tn 0 y:=T.keep _ _ _ st λb k o e=>r b o (B b o e)
 have na0: ∀i:Nat,Ow (ρ++Py m Sl.no)[i]? ->(σ++Py m none)[i]? ≠some (some (V.ref s.heap.objs.size)):=(R.more m).notOw nf
 have wv:a6 (vw H hid) (vw (b9 H s.heap.objs.size (.lst [])) (bn hid s.heap.objs.size)):=by rw[vt p];exact a6.refl _
 have S:NG X.N.length (ρ++Py m Sl.no):=λi s hi e=>by
  rw[Qg (by lia),QQ] at e;split at e
  ·cases e;rfl
  ·cases e
 have v: ∀s4:Pn,s4={s with heap:=y,toks:=s.toks}->
  R9 (model X.prog X.w) X.A (.compLoop (.ListComp elt [⟨t1,i1,ifs1,0⟩,⟨t2,i2,ifs2,0⟩] scope pos) 0 (.ref it) (.ref s.heap.objs.size) (Wc scope (oQ X.env.cells scope H2.objs.size) H2.objs.size X.env)) (RR (.ref s.heap.objs.size) H2.objs.size) s4:=by
  rintro s4 rfl;have Tm: ∀b∈fp,jS (aD X N' scope H2.objs.size {s with heap:=H2} (b9 H s.heap.objs.size (.lst [])) fp) [] (b9 H s.heap.objs.size (.lst [])) b:=λb k=>
   ⟨(P b k).1,(G.ok.exf b k).1,G.ok.exfs b k,.inl k,(G.ok.exf b k).2,λq hq=>by have X3:q∈([]:List (Addr×Obj))++[]:=hq;simp at X3⟩
  refine wq (Y:=aD X N' scope H2.objs.size {s with heap:=H2} (b9 H s.heap.objs.size (.lst [])) fp) (L:=H) (hid:=bn hid s.heap.objs.size) (W:=vw H hid) (ad0:=[]) (G8:=[]) (A:=Ex gi2 g2 p2 f) (TA:=vz X.prog X.w X.A (.ListComp elt [⟨t1,i1,ifs1,0⟩,⟨t2,i2,ifs2,0⟩] scope pos) i2 (.ref s.heap.objs.size) (Wc scope (oQ X.env.cells scope H2.objs.size) H2.objs.size X.env))
   n rfl hT1 (hg1 _ _ _ _) (XV _ _ _ _) (λd ρ1 e=>BX (Y:=aD X N' scope H2.objs.size {s with heap:=H2} (b9 H s.heap.objs.size (.lst [])) fp) n rfl ST (λi s hi e'=>?_) (hi2 _ _ _ _) (X2 _ _ _ _) (hp2 _ _ _ _) (he _ _ _ _) fL (R.fresh0 p) p) S G sr0 fL na0 aV .nil (aT p _) wv T M Tm io (by simpa using hz) hc (BR (O H2.objs.size {s with heap:=H2} (b9 H s.heap.objs.size (.lst [])) fp)) ?_
  ·rw[Yw _ _ _ e i hi] at e';exact S i s (by lia) e'
  ·intro s' σ' t xs F _ XL Yz Ty _ _;have YV:Un (frs X.stack) fp H (b9 H s.heap.objs.size (.lst [])) s.heap H2:=Un.laid (λb o e=>B b o e) (Px _) p;exact hR s.heap.objs.size H2.objs.size s' t xs (Px _) (by rw[hC];exact Ud _) (by rw[hC];exact P6 (QU _)) p XL Yz Ty (let⟨m,hm,_⟩:=F.loc;⟨m,hm⟩) F.free F.os F.bare F.hok (YV.trans F.base)
 exact Up (v _ rfl) (T.self X.A 0 _ _ _ M (v _ rfl))
theorem gQ(y:X.calm=true)(n1:Nat)(hT1:jM X.N.length g1)(hU1:DZ n1 g1)(S:jM n1 g2)(hi:M7 X c t1 i1 gi1)
 (hg1: ∀C g a i,uk (aD X N' scope C g a i) c t1 g1) (Z: ∀C g a i,vY (aD X N' scope C g a i) c ifs1 p1) (hi2: ∀C g a i,DIp (aD X N' scope C g a i) c t2 i2 gi2)
 (hg2: ∀C g a i,uk (aD X N' scope C g a i) c t2 g2) (hp2: ∀C g a i,vY (aD X N' scope C g a i) c ifs2 p2) (he: ∀C g a i,DP (aD X N' scope C g a i) c .s elt f)
 (hk:scope.kind=.function:=by rfl) (hs:yt scope X.env.scope=true:=by kernel_rfl) (hn:yI X.N N' scope=true:=by kernel_rfl) (hm:N'.length-X.N.length=m:=by rfl) (hn1:X.N.length<=n1:=by exact Pv rfl) (F: ∀x,QY i1 X.env x=pure x:=by intro _;rfl)
 (r: ∀C g a i,∀x,QY i2 (aD X N' scope C g a i).env x=pure x:=by intros;rfl):
 DP X c .n (.ListComp elt [⟨t1,i1,ifs1,0⟩,⟨t2,i2,ifs2,0⟩] scope pos) (jh m gi1 g1 p1 gi2 g2 p2 f):=by
 intro hid ρ ah s σ H Q I hq;obtain⟨sr,d,hd,q⟩:=hq;obtain⟨ds,ys,e1,hc,hz,rfl⟩:=CH hd;rw[eval_ListComp];refine SX (use:=none) rfl F (fj λx hx=>I.ok.has x (i9 hs x hx)) hk (lA hs) ?_
 refine bT (hi hid ρ ah s σ H (λJ j=>a6 H j/\Ms X.K j (vw j hid) J ds) I ⟨sr,ds,e1,λJ j s1 R=>⟨s1,R⟩⟩) λv s1 L=>bT L λitv s2 t=>?_
 obtain⟨it,fp,tn,J,H2,rfl,I2,T,st2,B,sm,R⟩:=t;refine xm (RR:=λacc C=>ZN (model X.prog X.w) X.A X.xe none (EP X ah σ Q) acc C) y hk hs hn hm hT1 hU1 hn1 S r hg1 Z hi2 hg2 hp2 he I2 (sr.ext sm) T st2 B R hz hc ?_
 intro D C s' j xs hDge G hDC hD Y hx rp ⟨mm,hns⟩ hC' V p hok h;refine⟨mm,hns,λh' k=>⟨.ref D,j,?_,rfl,q _ j (sm.trans Y) ⟨D,xs,ys,rfl,rfl,sm.free hD,hx,rp⟩⟩⟩;have l: ∀b o,s2.heap.get? b=some o->b≠C:=λb o e z=>by subst z;exact absurd (PB e) (TC.mpr G)
 have M:Un (frs X.stack) fp H2 j s2.heap h':=⟨λb o e n L t=>(k.2 b (l b o e)).trans (h.keep b o e n L t),λb o e n L t=>let⟨sl,z⟩:=h.slot b o e n L t;⟨sl,(k.2 b (l b o e)).trans z⟩,h.free,λb o e t=>let⟨P,z⟩:=h.there b o e t;⟨P,(k.2 b (l b o e)).trans z⟩,h.tups,h.frzs,h.tbls⟩
 have E:HOk X.prog X.w j h':=λb o e=>by
  have nb: ∀b' P,j b'=some P->b'≠C:=λb' P e' z=>by subst z;rw[hC'] at e';cases e'
  refine(hok b o e).stay (λc' u U z=>(k.2 c' ?_).trans z) (λ_ z=>z) λ_ _ z=>z
  rcases U with W|W
  ·rw[W];exact nb b o e
  ·exact nb c' _ W
 exact I2.call' (s':={s' with heap:=h'}) (ch:=fp) V M E p λb O=>⟨(B b O).2.2.2.1,(B b O).2.1,(B b O).2.2.2.2.1,(B b O).2.2.2.2.2⟩
end
def mz(ds:List D)(a b:Option Int):List D:=(ds.drop (HT.sIx ds.length 0 a)).take (HT.sIx ds.length ds.length b-HT.sIx ds.length 0 a)
theorem xH {K:Pz}(r:Reps K F xs ds)(b a:Option Int):Reps K F (Ci xs b a) (mz ds b a):=by
 unfold Ci mz;rw[r.length];exact(r.drop _).take _
abbrev FO:=aG->Option (Option Int)
def OT(K:Pz)(c:Ct)(hid:bN)(f:FO)(ρ:aG):TO:=λσ H Q=>SR K c hid ρ σ H/\ ∃o,f ρ=some o/\ ∀a,a6 H a->Q o a
def DO(X:Cx)(c:Ct)(e:Option Expr)(f:FO):Prop:= ∀hid ρ,PO X e (OT X.K c hid f ρ)
theorem PO.imp {X:Cx}(h:PO X e t)(i: ∀σ H Q,t' σ H Q->t σ H Q):PO X e t':=λa s σ H Q I q=>h a s σ H Q I (i σ H Q q)
section
variable {X:Cx}{c:Ct}{e a b:Expr}{f g:FE}{k:Kd}{pos p2:Pos}{lo hi:Option Expr}{l u:FO}
def og:FO:=λ_=>some none
def j5(f:FE):FO:=λρ=>(f ρ).bind λd=>match d with
 | .int i=>some (some i)
 |_=>none
theorem eP:DO X c none og:=λhid ρ=>PO.imp HZ λσ H Q ⟨a,o,e,q⟩=>by cases e;exact q H (a6.refl _)
theorem c9(h:DP X c k e f):DO X c (some e) (j5 f):=λhid ρ=>PO.imp (Gy (h hid ρ)) λσ H Q g=>by
 obtain⟨j,o,e,q⟩:=g;unfold j5 at e;cases e1:f ρ with
 |none=>rw[e1] at e;cases e
 |some d=>
  rw[e1] at e;cases d with
  |int i=>
   cases e;refine⟨j,_,e1,λv l s r=>⟨i,?_,q l s⟩⟩;exact(RK.b k r λa n=>j.fresh n).int
  |_=>cases e
def fx(f:FE)(l u:FO):FE:=λρ=>(f ρ).bind λd=>match d with
 | .lst ds=>(l ρ).bind λb=>(u ρ).map λa=>.lst (mz ds b a)
 |_=>none
theorem iE(x:DP X c k e f)(y:DO X c m l)(E:DO X c o u):DP X c .n (.Subscript e (.Slice m o none p2) pos) (fx f l u):=λhid ρ=>
 PE.imp (v7 AI (x hid ρ) (y hid ρ) (E hid ρ)) λσ H Q j=>by
  obtain⟨h,d,g,q⟩:=j;unfold fx at g;cases e1:f ρ with
  |none=>rw[e1] at g;cases g
  |some z=>
   rw[e1] at g;cases z with
   |lst ds=>
    have g:((l ρ).bind λm=>(u ρ).map λo=>D.lst (mz ds m o))=some d:=g;cases e2:l ρ with
    |none=>rw[e2] at g;cases g
    |some w=>
     rw[e2] at g;cases e3:u ρ with
     |none=>rw[e3] at g;cases g
     |some s=>
      rw[e3] at g;cases g;refine⟨h,_,e1,λv G i C=>⟨h.ext i,w,e2,λI s2=>⟨(h.ext i).ext s2,s,e3,λF r=>?_⟩⟩⟩;obtain⟨a,xs,rfl,A,B⟩:=((RK.b k C λa n=>h.fresh n).ext (s2.trans r)).lst;exact⟨a,xs,rfl,A,λp t=>q _ _ ((i.trans (s2.trans r)).trans (aT t _)) (f8 t (i.trans (s2.trans r)) (xH B w s))⟩
   |_=>cases g
end
end L2
namespace PySem
open Sem (wp)
open AutoSeq1 (wpAny_loadPart')
section
variable {prog:Qp}{w:QD}{A:Qq}{E:Pk->Pn->Prop}{s:Pn}
theorem qR{us}(a:s.heap.IsTupleIter it t i)(f:s.heap.IsTuple t us)(h:us[i]? =some x)
 (k: ∀g,g.IsTupleIter it t (i+1)->Qz it s.heap g->Q x {s with heap:=g}):PJ (model prog w) A (Rz (.ref it)) Q E s:=by
 obtain⟨o,c,j,b⟩:=id a;obtain⟨l,e,_,m,d⟩:=f;unfold Rz;refine Ph (RM (name:=TH "__next__") a.typeIs SD (QV SD a.typeIs Vh (show PJ _ _ (ZX (.ref it) 0>>=_) _ _ s from Ph (SS c b (x:=.ref t) rfl ?_)) (U1 _)));show PJ _ _ (if(Q9 t==Qw)=true then _ else _) _ _ s;rw[if_neg (show¬((Q9 t==Qw)=true) from Tg)];refine(show PJ _ _ (ZX (.ref it) 1>>=_) _ _ s from Ph (SS c b (x:=.int i 0) rfl (show PJ _ _ (seqItems? (.ref t)>>=_) _ _ s from Ph (Vo e d ?_))));simp only[Rt,h];exact Ph (Us c b (by simp) (Pl ⟨x,rfl,Pl (k _ ⟨_,QG _ c (Tq (SE b _)),(VP ..).trans j,by rw[SE b];simp[Uk]⟩ (Q4 ..))⟩))
theorem sF{us}(hh:A.handled=none)(hit:s.heap.IsTupleIter it t i)(ht:s.heap.IsTuple t us)(hx:us[i]? =none)
 (hE: ∀g e,VQ it s.heap g->(∃o,g.get? e=some o/\o.cls=.type "StopIteration")->E (.ref e) {s with heap:=g}):PJ (model prog w) A (Rz (.ref it)) Q E s:=by
 obtain⟨o,ho,hc,hd⟩:=id hit;obtain⟨ot,hot,_,nt,hdt⟩:=ht;unfold Rz;refine Ph (RM (name:=TH "__next__") hit.typeIs SD (QV SD hit.typeIs Vh (show PJ _ _ (ZX (.ref it) 0>>=_) _ _ s from Ph (SS ho hd (x:=.ref t) rfl ?_)) (U1 _)));show PJ _ _ (if(Q9 t==Qw)=true then _ else _) _ _ s;rw[if_neg (show¬((Q9 t==Qw)=true) from Tg)];refine(show PJ _ _ (ZX (.ref it) 1>>=_) _ _ s from Ph (SS ho hd (x:=.int i 0) rfl (show PJ _ _ (seqItems? (.ref t)>>=_) _ _ s from Ph (Vo hot hdt ?_))));simp only[Rt,hx];refine Ph (Wv (Ph (Us ho hd (by simp) (show PJ _ _ (newExc (.type "StopIteration") []>>=_) _ _ _ from Ph ?_))));simp only[newExc,newTuple];refine Ph (Rh ?_ (by size_fits));refine Ph (m:=Vw _ _) (Xa (a:=Qw) (by first|rfl|(simp only[Vw];rfl)) (Rh ?_ (by size_fits)));simp only[raiseNew];refine Ph (wpAny_handled ?_)
 first|rw[show A.in1.handled=none from hh]|rw[hh]
 exact Ph (Pl (wpAny_throw (hE _ _ (((Q4 ..).extBut.push _).push _) ⟨_,PD _ rfl,rfl⟩)))
theorem vf{x old:Pk}{N:Heap->Prop}(R:WD s.heap e it i old)(q:e≠it)(P: ∀g g',N g->(∀o,g.get? it=some o->g'.get? it=some o)->N g')
 (nx: ∀(Y:Qq) (X:Pk->Pn->Prop) (E':Pk->Pn->Prop),(∀g,N g->Qz it s.heap g->X x {s with heap:=g})->PJ (model prog w) Y (Rz (.ref it)) X E' s)
 (Z: ∀g,IsEnumOut g e it ((i:Int)+1) x s.heap.objs.size->N g->g.get? s.heap.objs.size=some {cls:=.type "tuple",data:=.seq #[.int i s.toks,x]}->g.objs.size=s.heap.objs.size+1->
   (∀b o,b≠e->b≠it->s.heap.get? b=some o->g.get? b=some o)->Q (some (.ref s.heap.objs.size)) {s with heap:=g,toks:=s.toks+1}):PJ (model prog w) A (TL (.ref e)) Q E s:=by
 have W:s.TypeIs (.ref e) "enumerate":=⟨_,R,rfl⟩
 unfold TL;refine Ph (V3 (RM (name:=TH "__next__") W Tr (QV Tr W WE ?_ (Wg _))));obtain⟨F,G,H,tk,os⟩:=s;refine(show PJ _ _ (ZX (.ref e) 2>>=_) _ _ _ from Ph (SS R rfl (x:=.ref it) rfl (Ph (nx _ _ _ λc O k=>?_))));replace k:Qz it F c:=k;have D:WD c e it i old:=(k.2 e q).trans R;refine(show PJ _ _ (ZX (.ref e) 3>>=_) _ _ ⟨c,G,H,tk,os⟩ from Ph (SS D rfl (x:=Uk i) rfl ?_));refine(show PJ _ _ (ZX (.ref e) 4>>=_) _ _ ⟨c,G,H,tk,os⟩ from Ph (SS D rfl (x:=.none) rfl ?_));refine(show PJ _ _ (mkInt i>>=_) _ _ ⟨c,G,H,tk,os⟩ from Ph (wpAny_mkInt ?_));refine(show PJ _ _ (setField (.ref e) 3 (Uk ((i:Int)+1))>>=_) _ _ ⟨c,G,H,tk+1,os⟩ from Ph (Ti D (by simp) λp y j=>?_));replace j:Qz e c p:=j;replace y:WD p e it ((i:Int)+1) old:=y;refine(show PJ _ _ (setField (.ref e) 4 .none>>=_) _ _ ⟨p,G,H,tk+1,os⟩ from Ph (Ti y (by simp) λa t l=>?_));replace l:Qz e p a:=l;replace t:WD a e it ((i:Int)+1) old:=t;refine(show PJ _ _ (newTuple [.int i tk,x]>>=_) _ _ ⟨a,G,H,tk+1,os⟩ from Ph (ZS ?_));have v:a.objs.size=F.objs.size:=by rw[l.1,j.1,k.1]
 have S:e<F.objs.size:=PB R;have m:WD (a.push {cls:=.type "tuple",data:=.seq #[.int i tk,x]}) e it ((i:Int)+1) old:=Po _ t;have K:N (a.push {cls:=.type "tuple",data:=.seq #[.int i tk,x]}):=P _ _ O λo V=>Po _ (l.extBut _ _ (QA q) (j.extBut _ _ (QA q) V))
 have I:(a.push {cls:=.type "tuple",data:=.seq #[.int i tk,x]}).get? F.objs.size=some {cls:=.type "tuple",data:=.seq #[.int i tk,x]}:=by rw[<-v];exact PD _ rfl
 have L:(a.push {cls:=.type "tuple",data:=.seq #[.int i tk,x]}).objs.size=F.objs.size+1:=by rw[Rc,v]
 have J: ∀b o,b≠e->b≠it->F.get? b=some o->(a.push {cls:=.type "tuple",data:=.seq #[.int i tk,x]}).get? b=some o:=λb o M U T=>Po _ (l.extBut b o M (j.extBut b o M (k.extBut b o U T)))
 generalize a.push {cls:=.type "tuple",data:=.seq #[.int i tk,x]}=g₄ at m K I L J;rw[v];refine(show PJ _ _ (TV (.ref e)>>=_) _ _ ⟨g₄,G,H,tk+1,os⟩ from Ph ?_);unfold TV;refine Ph (SS m rfl (x:=.none) rfl (Pl ?_));simp only[if_true];refine Ph (Wv (Ph (SS m rfl (x:=old) rfl (Ph (Ti m (by simp) λn C d=>?_)))));replace d:Qz e g₄ n:=d;replace C:WD n e it ((i:Int)+1) x:=C;refine(show PJ _ _ (TM (.ref e) (.ref F.objs.size)>>=_) _ _ ⟨n,G,H,tk+1,os⟩ from Ph ?_);unfold TM;refine Ph (Ti C (by simp) λB u h=>?_);replace h:Qz e n B:=h;replace u:IsEnumOut B e it ((i:Int)+1) x F.objs.size:=u;refine Ti u (by simp) λr z f=>?_
 replace f:Qz e B r:=f;replace z:IsEnumOut r e it ((i:Int)+1) x F.objs.size:=z;refine Ph (wpAny_letGo (Pl ⟨_,rfl,Pl (Z r z (P _ _ K λo V=>?_) ?_ ?_ λb o M U T=>?_)⟩))
 ·exact f.extBut _ _ (QA q) (h.extBut _ _ (QA q) (d.extBut _ _ (QA q) V))
 ·exact f.extBut _ _ (RV S) (h.extBut _ _ (RV S) (d.extBut _ _ (RV S) I))
 ·rw[f.1,h.1,d.1,L]
 ·exact f.extBut b o M (h.extBut b o M (d.extBut b o M (J b o M U T)))
theorem wo(d:WD s.heap e it i old)
 (nx: ∀(f:Qq),f.handled=A.handled-> ∀(n:Pk->Pn->Prop) (a:Pk->Pn->Prop),(∀g x,VQ it s.heap g->(∃o,g.get? x=some o/\o.cls=.type "StopIteration")->a (.ref x) {s with heap:=g})->PJ (model prog w) f (Rz (.ref it)) n a s)
 (m: ∀g,VQ it s.heap g->Q none {s with heap:=g}):PJ (model prog w) A (TL (.ref e)) Q E s:=by
 have c:s.TypeIs (.ref e) "enumerate":=⟨_,d,rfl⟩
 unfold TL;refine Ph (V3 (RM (name:=TH "__next__") c Tr (QV Tr c WE (show PJ _ _ (ZX (.ref e) 2>>=_) _ _ _ from Ph (SS d rfl (x:=.ref it) rfl (Ph (nx A.in1 rfl _ _ λg x k h=>?_)))) (Wg _))));obtain⟨o,j,l⟩:=h;exact Ph (TJ (T:="StopIteration") (b:=true) ⟨o,j,l⟩ ZY (Pl (m _ k)))
end
set_option maxHeartbeats 1000000 in
theorem vg(l:Addr)(us:Array Pk)(n:Nat)(b:Option Addr)(i:Array (Option Pk)):
 Meets (SH.«enumerate.__new__» ⟨[.type "enumerate",.ref l],[]⟩) (λ_ R s=>s.heap.get? l=some {cls:=.type "tuple",dict:=b,data:=.seq us n,slots:=i}/\
  R (.ok (.ret (.ref (s.heap.push {cls:=.type "tuple_iterator",data:=.fields #[.ref l,.int 0 0]}).objs.size)))
   {s with heap:=(s.heap.push {cls:=.type "tuple_iterator",data:=.fields #[.ref l,.int 0 0]}).push {cls:=.type "enumerate",data:=.fields #[.none,.bool false,.ref s.heap.objs.size,Uk 0,.none,.none]}}):=
 .of_wp λprog w A R s h=>by
  obtain⟨j,g,d,tk,os⟩:=s;obtain⟨a,h⟩:=h;have f:=sub_enumerate;have e:Heap.IsTuple (Shared.heap ⟨j,g,d,tk,os⟩) l us:=⟨_,a,rfl,n,rfl⟩
  wp_walk using SM a
  refine wpAny_stack_any λst=>Pl ?_
  split
  ·rename_i c _ _ _ _ _
   cases (c==XW "enumerate")
   ·wp_walk using SM a,T8 e
    exact⟨_,rfl,h⟩
   ·wp_walk using SM a,T8 e
    exact⟨_,rfl,h⟩
  ·wp_walk using SM a,T8 e
   exact⟨_,rfl,h⟩
section
variable {prog:Qp}{w:QD}{A:Qq}{E:Pk->Pn->Prop}{s:Pn}
theorem sJ(p:s.heap.IsTuple l us)
 (h: ∀g,WD g (s.heap.objs.size+1) s.heap.objs.size 0 .none->g.IsTupleIter s.heap.objs.size l 0->g.objs.size=s.heap.objs.size+2->(∀b o,s.heap.get? b=some o->g.get? b=some o)->Q (.ref (s.heap.objs.size+1)) {s with heap:=g}):
 PJ (model prog w) A (call (.type "enumerate") [.ref l]) Q E s:=by
 obtain⟨⟨cls,i,d,k⟩,m,f,n,a⟩:=p;have f:cls=.type "tuple":=f;have a:d=.seq us n:=a;subst f a;refine callType_new F.called_enumerate (by decide) (F.typeCall_enumerate_1 _) (F.newCall_enumerate_1 _) (λe=>F.args_object_init_2 e _) F.entry_enumerate_new (vg l us n i k) ⟨m,?_⟩;have c:(s.heap.push {cls:=.type "tuple_iterator",data:=.fields #[.ref l,.int 0 0]}).objs.size=s.heap.objs.size+1:=Rc ..;show _/\_;rw[c];have j:WD ((s.heap.push {cls:=.type "tuple_iterator",data:=.fields #[.ref l,.int 0 0]}).push {cls:=.type "enumerate",data:=.fields #[.none,.bool false,.ref s.heap.objs.size,Uk 0,.none,.none]}) (s.heap.objs.size+1) s.heap.objs.size 0 .none:=by
  have:=PD (s.heap.push {cls:=.type "tuple_iterator",data:=.fields #[.ref l,.int 0 0]}) (o:={cls:=.type "enumerate",data:=.fields #[.none,.bool false,.ref s.heap.objs.size,Uk 0,.none,.none]}) rfl;rw[c] at this;exact this
 exact⟨⟨_,j,rfl⟩,h _ j ⟨_,Po _ (PD _ rfl),rfl,rfl⟩ (by rw[Rc,c]) λb o x=>Po _ (Po _ x)⟩
end
end PySem
namespace L2
open PySem PySem.Spec PyProof.Rows
def OC(K:Pz)(a:Addr):It:=
 ⟨λi H=> ∃xs x,SqT K H a xs/\xs[i]? =some x,λi H x b=> ∃T,x=.ref T/\H T=none/\ ∀xs,SqT K H a xs-> ∃y,xs[i]? =some y/\b=b9 H T (.tup [.int i,y]),λi H=> ∃xs,SqT K H a xs/\xs.length<=i⟩
theorem zQ{K:Pz}{x1}(a it e:Addr)(C:e≠it):il P w K (.Tuple es x1 pos) (OC K a) [e,it] e (λi h=>(∃old,WD h e it i old)/\h.IsTupleIter it a i) where
 mem:=by simp
 obj:=λi h st b d=>by
  obtain⟨⟨old,f⟩,o,ho,hc,hd⟩:=st;rcases PX.mp d with rfl|d
  ·exact⟨_,f,λv z=>by cases z⟩
  ·have:b=it:=by simpa using d
   subst this;exact⟨o,ho,λv z=>by rw[hd] at z;cases z⟩
 keep:=λi h h' st k=>by
  obtain⟨⟨old,f⟩,c⟩:=st;exact⟨⟨old,k e (by simp) _ f⟩,c.at λo x=>k it (by simp) o x⟩
 item:=by
  intro X hP hw Z hc i L s σ H E I M st S;subst hP hw Z;obtain⟨xs,x,O,hx⟩:=S;obtain⟨B,rv,p,hz⟩:=I.tuple O;obtain⟨u,hu,ru⟩:=rv.get hx;obtain⟨⟨old,f⟩,c⟩:=st;obtain⟨e0,e1,e2,e3,e4,e5⟩:=M e (by simp);obtain⟨Q,Y,f2,T,f4,W⟩:=M it (by simp);have ht:s.heap.IsTuple a B.toArray:=p;refine vf (x:=u) (N:=λg=>g.IsTupleIter it a (i+1)) f C (λg g' n k=>n.at k) (λA' Q' E' t=>qR c ht (by simpa using hu) λg n b=>t g n b) λg G r hT hsz hk=>⟨_,rfl,?_⟩
  refine wpAny_letOwnedTupleGo_enum G λg' U j=>?_
  have D:e<s.heap.objs.size:=PB f;have k2: ∀b o,b≠e->b≠it->s.heap.get? b=some o->g'.get? b=some o:=λb o h1 h2 h3=>(j.2 b h1).trans (hk b o h1 h2 h3)
  have hT':g'.get? s.heap.objs.size=some {cls:=.type "tuple",data:=.seq #[.int i s.toks,u]}:=(j.2 _ (RV D)).trans hT;have hn:H s.heap.objs.size=none:=I.hok.fresh (Px _);have V:Inv X L σ (b9 H s.heap.objs.size (.tup [.int i,x])) {s with heap:=g',toks:=s.toks+1}:=by
   obtain⟨F,hoi,hci,ST⟩:=id (show g'.IsTupleIter it a (i+1) from r.at λo y=>(j.2 it (QA C)).trans y);obtain⟨os0,l,_⟩:=id c;have ilt:it<s.heap.objs.size:=PB l;have I0:Inv X L σ (b9 H s.heap.objs.size (.tup [.int i,x])) {s with heap:=s.heap.push {cls:=.type "tuple",data:=.seq #[.int i s.toks,u]},toks:=s.toks+1}:=
    I.laid (t':=s.toks+1) (λb o q=>Po _ q) (Px _) (show cc X.prog X.w _ _ _ (.tup [.int i,x]) from
     ⟨Tf (lh (by simp)),[.int i s.toks,u],.cons ⟨_,rfl⟩ (.cons ru .nil),⟨_,PD _ rfl,rfl,_,rfl⟩,_,PD _ rfl,rfl⟩)
   have u1:((s.heap.push {cls:=.type "tuple",data:=.seq #[.int i s.toks,u]}).update it λ_=>F).get? it=some F:=QG (λ_=>F) (Po _ l) (Tq ST);have V:Inv X L σ (b9 H s.heap.objs.size (.tup [.int i,x])) {s with heap:=(s.heap.push {cls:=.type "tuple",data:=.seq #[.int i s.toks,u]}).update it λ_=>F,toks:=s.toks+1}:=
    I0.turned (t':=s.toks+1) (λb o d q=>(Ss _ _ (QA d)).trans q) (by rw[aQ (P6 ilt)];exact Q) Y T f4 W
   refine V.turned (t':=s.toks+1) (λb o d q=>?_) (by rw[aQ (P6 D)];exact e0) e1 e3 e4 e5
   by_cases A:b=it
   ·subst A;have m:((s.heap.push {cls:=.type "tuple",data:=.seq #[.int i s.toks,u]}).update b λ_=>F).get? b=some o:=q;rw[u1] at m;cases m;exact hoi
   ·have m:((s.heap.push {cls:=.type "tuple",data:=.seq #[.int i s.toks,u]}).update it λ_=>F).get? b=some o:=q;rw[Ss _ _ (QA A)] at m
    by_cases J:b=s.heap.objs.size
    ·subst J;rw[PD _ rfl] at m;cases m;exact hT'
    ·rw[Heap.get?_push_ne _ _ _ J] at m;exact k2 b o d A m
  refine⟨.ref s.heap.objs.size,b9 H s.heap.objs.size (.tup [.int i,x]),V,rfl,⟨_,rfl,hn,λys hy=>⟨x,by rw[I.tuple_inj hy O];exact hx,rfl⟩⟩,⟨⟨u,by simpa using U⟩,r.at λo y=>(j.2 it (QA C)).trans y⟩,λb d=>?_⟩;rcases PX.mp d with rfl|d
  ·rw[aQ (P6 D)];exact e0
  ·have:b=it:=by simpa using d
   subst this;obtain⟨o,ho,_⟩:=c;rw[aQ (P6 (PB ho))];exact Q
 done:=by
  intro X hP hw Z hc i L s σ H E I M st S;subst hP hw Z;obtain⟨xs,O,hx⟩:=S;obtain⟨B,rv,p,hz⟩:=I.tuple O;obtain⟨⟨old,f⟩,c⟩:=st;obtain⟨Q,Y,f2,T,f4,W⟩:=M it (by simp);have hl:=rv.length;have hh:=I.ok.hd hc;refine wo f (λA' R Q' E' t=>sF (R.trans hh) c (show s.heap.IsTuple a B.toArray from p) (by simp;lia) t) λg k=>⟨rfl,I.turned (t':=s.toks) (λb o d z=>k b o d z) Q Y T f4 W⟩
 self:=λ_ _ _ _ _ st h=>let⟨⟨_,f⟩,_⟩:=st;Yp f h
section
variable {X:Cx}{c:Ct}{k:Kd}{es:List Expr}{x1:Nat}{tp pos p:Pos}
def zF(ds:List D):List D:=(Pi ds.length).map λ(i:Nat)=>D.tup [.int i,ds.getD i .non]
def Jq(f:FE):FA:=λρ=>(f ρ).bind λd=>match d with
 | .tup ds=>some (zF ds)
 |_=>none
theorem BD {K:Pz}(c:SqT K W a xs)(g:Reps K W xs ds):ic K W (OC K a) (zF ds):=by
 have l:=g.length;have f:(zF ds).length=ds.length:=by simp[zF]
 refine⟨λi d H e s=>?_,λH s=>⟨_,a6.seqT s c,by rw[f,<-l];exact Px _⟩⟩;have t:i<ds.length:=by rw[<-f];exact(PL.mp e).1
 have n:xs[i]? =some xs[i]:=Pq (by lia);refine⟨⟨_,xs[i],a6.seqT s c,n⟩,λy A ⟨T,k,b,x⟩=>?_⟩;subst k;obtain⟨z,v,q⟩:=x _ (a6.seqT s c);subst q;refine⟨aT b _,λhid j m=>?_⟩;have w:hid T=false:=by
  cases eh:hid T with
  |false=>rfl
  |true=>obtain⟨o,h⟩:=j T eh;rw[b] at h;cases h
 obtain⟨d',p,u⟩:=g.get' v;have r:d=.tup [.int i,d']:=by
  unfold zF at e;rw[Qi,U5 t] at e;have:ds.getD i .non=d':=by simp[Qr,p]
  rw[Tk,this] at e;exact(Qu e).symm
 rw[r];exact rR b w (.cons .int (.cons (u.mono m) .nil))
theorem Fq {a:Expr}(h:DP X c .s a f)(N:X.mg "enumerate"=none)(B:Gl X "enumerate":=by rfl)(A:PP [a] X.env=[(false,eval a X.env)]:=by rfl):DIp X c (.Tuple es x1 tp) (.Call (.Name "enumerate" p) [a] [] pos) (Jq f):=by
 intro hid ρ C s σ H R I L;obtain⟨M,ds,i,q⟩:=L;unfold Jq at i;cases e1:f ρ with
 |none=>rw[e1] at i;cases i
 |some z=>
  rw[e1] at i;cases z with
  |tup us=>
   cases i;refine Call_ (rE (u:=.type "enumerate") I B N (by kernel_rfl) (Tv (bT (c8 (h hid ρ) fX A pos C s σ H (λvs k=> ∃v,vs=[v]/\a6 H k/\Rep X.K (vw k hid) v (.tup us)) I ⟨M,_,e1,λv k s' r=>⟨v,rfl,s',r⟩⟩) λvs j ⟨Q,x,d,G,w,e,s',r⟩=>?_) A rfl));subst e;cases G with
   |cons J F=>
    cases F;cases r with
    |tup t D=>
     cases J;obtain⟨n,S,O,P⟩:=d.tuple (a6.seqT (dD _ _) t);refine sJ (show j.heap.IsTuple _ n.toArray from O) λg y m hsz E=>?_
     refine Yp y ⟨_,[j.heap.objs.size+1,j.heap.objs.size],_,_,x,rfl,d.kept (t':=j.toks) λb o e=>E b o e,zQ _ _ _ (RV (QU _)),⟨⟨_,y⟩,m⟩,λb l=>?_,q _ x s' (BD t D)⟩;rcases PX.mp l with rfl|l
     ·exact d.fpOk (Ud _) (d.hok.fresh (Ud _))
     ·have:b=j.heap.objs.size:=by simpa using l
      subst this;exact d.fpOk (Px _) (d.hok.fresh (Px _))
  |_=>cases i
end
open PySem PySem.W PySem.Calls PyProof.Rows
def Kx {α:Type}(d:α)(n:Nat):Option α:=if n<=P4 then some d else none
def Ou {α:Type}(d:α)(n:Nat):Option α:=if n<P4 then some d else none
theorem eG {α:Type}{d:α}{n:Nat}(h:n<=1000):Kx d n=some d:=if_pos (Tf (lh h))
theorem sZ {α:Type}{d:α}{n:Nat}(h:n<=1000):Ou d n=some d:=if_pos (lh h)
theorem Ic(a:FA)(ρ:aG):cu a ρ=(a ρ).bind λds=>Kx (.tup ds) ds.length:=rfl
theorem nZ(a:FA)(ρ:aG):b7 a ρ=(a ρ).bind λds=>Kx (.lst ds) ds.length:=rfl
theorem DL(m:Nat)(a:FA)(g:FG)(p:FT)(f:FE)(ρ:aG):cx m a g p f ρ=(a ρ).bind λds=>(Kx () ds.length).bind λ_=>(dq g p f (ρ++Py m .no) ds).map D.lst:=by
 unfold cx Kx;congr 1;funext ds;split<;>rfl
theorem Bo(bs:List D)(d:D):gE bs [d]=Ou (.non,bs++[d]) bs.length:=rfl
theorem Ha(bs:List D)(i:Int):sK bs [.int i]=(Kx () bs.length).bind λ_=>(x9 bs.length i).bind λj=>(bs[j]?).map λd=>(d,bs.eraseIdx j):=by
 unfold sK Kx;dsimp only;split
 ·rename_i j e
  split at e
  ·rw[if_pos ‹_›,e];rfl
  ·cases e
 ·rename_i e
  split at e
  ·rw[if_pos ‹_›,e];rfl
  ·rw[if_neg ‹_›];rfl
def Mu(ds:List D):Option (List D):=match ds with
 | [.int j]=>if j.natAbs<4000000000 then some (vZ 0 j.toNat) else none
 |_=>none
theorem wA(f:FA)(ρ:aG):eV f ρ=(f ρ).bind Mu:=rfl
theorem wF {j:Int}(h:j.natAbs<=1000):Mu [.int j]=some (vZ 0 j.toNat):=by
 show(if j.natAbs<4000000000 then some (vZ 0 j.toNat) else none)=_;rw[if_pos (by lia)]
theorem jc(i j:Int):bL (.int i) (.int j)=some (.int (i+j)):=rfl
theorem jd(i j:Int):gY (.int i) (.int j)=some (.int (i-j)):=rfl
theorem qb(i j:Int):Da (.int i) (.int j)=some (.bl (decide (i<j))):=rfl
theorem AL(i j:Int):Nb (.int i) (.int j)=some (.bl (decide (j<=i))):=rfl
theorem dM {i j:Int}(h:0<j):cE (.int i) (.int j)=some (.int (i % j)):=by
 unfold cE i2;dsimp only;rw[if_pos (by simpa using h)]
theorem yV {n:Nat}(h:n<10^200):n<2^1000:=PF h (by decide)
theorem fS {i j:Int}(a:i.natAbs<10^200)(b:j.natAbs<10^200):eA (.int i) (.int j)=some (.int (i*j)):=by
 unfold eA i2;dsimp only;rw[if_pos (by rw[lm (yV a),lm (yV b)];rfl)]
theorem tV {i j:Int}(a:0<j)(b:j.natAbs<10^200):mZ (.int i) (.int j)=some (.int (i / j)):=by
 unfold mZ i2;dsimp only;rw[if_pos (by rw[lm a,lm (yV b)];rfl)]
theorem mO {i j:Int}(c:0<=j)(a:j<=1000000)(b:i.natAbs<2^64):eY (.int i) (.int j)=some (.int (i^j.toNat)):=by
 unfold eY i2;dsimp only;rw[if_pos (by rw[lm c,lm a,lm b];rfl)]
theorem pg(h:fw x<=32):si x y=some (.bl (dg x y)):=if_pos h
theorem kf(h:fw x<=32):mo x y=some (.bl (!dg x y)):=if_pos h
theorem jx(i j:Int):dg (.int i) (.int j)=decide (i=j):=by
 unfold dg;rw[Qd];simp
theorem fP(i:Int):fw (.int i)=0:=by unfold fw;rfl
structure Bag(N:Nat)(a b:Int):Prop where
 a0:0<=a
 a1:a.natAbs<10^180
 b0:0<=b
 b1:b<=N
 lo:b≠0->a.natAbs<2147483647
abbrev aF(a b:Int):List D:=[.int a,.int b]
def vG:FS:=
 aB (fy (bR (av Da (ai 1) (ak c7 (aa (ai 0) (aj))))) (bc (av br (ai 0) (ai 1))) (cb))
 (bc (aC (.int 0)))
def ik:List D->Option D:=eO .s 2 vG
def EE:FS:=
 aB (bf 2 (av cE (ak xz (aa (ak (nF 2 ik) (aa (ai 0) (aa (ai 1) (aj)))) (aj))) (av eA (av eA (av eY (aC (.int 10)) (aC (.int 60))) (av eY (aC (.int 10)) (aC (.int 60)))) (av eY (aC (.int 10)) (aC (.int 60))))))
 (aB (fy (bR (av Nb (ai 2) (av eY (aC (.int 10)) (aC (.int 18))))) (bc (b7 (aa (ai 2) (aa (aC (.int 0)) (aj))))) (cb))
 (aB (bf 3 (av cE (av bL (av bL (ai 2) (av eA (aC (.int 7919)) (ai 1))) (aC (.int 17))) (aC (.int 2147483647))))
 (aB (jG (cq (eV (aa (ak lO (aa (ak c7 (aa (ai 0) (aj))) (aa (aC (.int 9)) (aj)))) (aj)))) (gN 4) (bf 3 (av cE (av bL (av bL (av eY (ai 3) (aC (.int 5))) (av cE (av br (ai 0) (ai 4)) (aC (.int 2147483629)))) (av eA (aC (.int 31)) (ai 4))) (aC (.int 2147483647)))))
 (bc (b7 (aa (ai 3) (aa (aC (.int 1)) (aj))))))))
def EC:List D->Option D:=eO .n 5 EE
def uq:FS:=
 aB (fy (bR (av si (av br (dE 0) (aC (.int 1))) (aC (.int 0)))) (aB (bf 2 (av cE (av br (dE 0) (aC (.int 0))) (ai 1)))
 (aB (cD (cW 0 (aC (.int 0))) (pu (av mZ (av br (dE 0) (aC (.int 0))) (ai 1))))
 (bc (ai 2)))) (cb))
 (aB (cD (cW 0 (aC (.int 0))) (pu (av cE (av bL (av bL (av eY (av br (dE 0) (aC (.int 0))) (aC (.int 5))) (av eA (aC (.int 48271)) (av br (dE 0) (aC (.int 1))))) (aC (.int 11))) (aC (.int 2147483647)))))
 (aB (cD (cW 0 (aC (.int 1))) (pu (av bL (av br (dE 0) (aC (.int 1))) (aC (.int 1)))))
 (bc (av cE (av mZ (av cE (av eA (av br (dE 0) (aC (.int 0))) (aC (.int 69621))) (aC (.int 2147483629))) (aC (.int 8))) (ai 1)))))
def ig:List D->List D->Option (D×List D):=zE .s 3 uq
def xh:FS:=
 aB (gc 2 (HS (ai 1)))
 (aB (gc 3 (b7 (aj)))
 (aB (vX (bR (av mo (dE 2) (b7 (aj)))) (cA (aJ 3 1 gE (dC (aJ 2 1 sK (dC (aJ 0 1 ig (cq (aa (ak c7 (aa (dE 2) (aj))) (aj)))) (cq (aj)))) (cq (aj))))) 16)
 (yh 3)))
def xI:List D->List D->Option (D×List D):=zE .n 4 xh
theorem di {i m:Int}(h:0<m):0<=i % m/\i % m<m:=⟨Y5 _ (by lia),XQ _ h⟩
theorem nE {N:Nat}{a b m:Int}(B:Bag N a b)(D:N<=1000000000)(c:0<m)(g:m.natAbs<10^20): ∃d j k,ig (aF a b) [.int m]=some (.int d,aF j k)/\Bag (N+1) j k/\0<=d/\d<m:=by
 have e:m.natAbs<10^200:=PF g (by decide)
 by_cases h:b=0
 ·subst h;refine⟨a % m,a / m,0,?_,⟨Zd B.a0 (by lia),?_,by lia,by lia,λz=>absurd rfl z⟩,di c⟩
  ·simp[ig,zE,uq,qM,aF,aB,fy,bR,av,br,dE,ai,aC,pg,jx,fP,Cu,tF,x9,bf,dM c,cD,pu,tV c e,cW,jv,iG,KH,bc,rj]
  ·have E:=B.a1;have:a / m<=a:=Int.ediv_le_self _ B.a0;have:0<=a / m:=Zd B.a0 (by lia);lia
 ·have u:=B.lo h;have o:a.natAbs<2^64:=Ug u (by decide);have w:b.natAbs<10^200:=PF (show b.natAbs<10^10 by have:=B.b1;have:=B.b0;lia) (by decide);generalize l:(a^5+48271*b+11) % 2147483647=A;have f:0<=A/\A<2147483647:=by rw[<-l];exact di (by decide)
  have r:A.natAbs<10^200:=PF (show A.natAbs<10^10 by lia) (by decide);refine⟨A*69621 % 2147483629 / 8 % m,A,b+1,?_,⟨f.1,?_,by have:=B.b0;lia,by have:=B.b1;lia,λ_=>by lia⟩,di c⟩
  ·have s:(48271:Int).natAbs<10^200:=PF (show(48271:Int).natAbs<10^10 by decide) (by decide);have v:(69621:Int).natAbs<10^200:=PF (show(69621:Int).natAbs<10^10 by decide) (by decide);have x:(8:Int).natAbs<10^200:=PF (show(8:Int).natAbs<10^10 by decide) (by decide);have y:eY (.int a) (.int 5)=some (.int (a^5)):=mO (by decide) (by decide) o;have p:eA (.int 48271) (.int b)=some (.int (48271*b)):=fS s w;have C: ∀i:Int,cE (.int i) (.int 2147483647)=some (.int (i % 2147483647)):=λi=>dM (by decide)
   have n: ∀i:Int,cE (.int i) (.int 2147483629)=some (.int (i % 2147483629)):=λi=>dM (by decide)
   have t:eA (.int A) (.int 69621)=some (.int (A*69621)):=fS r v;have q: ∀i:Int,mZ (.int i) (.int 8)=some (.int (i / 8)):=λi=>tV (by decide) x
   simp[ig,zE,uq,qM,aF,aB,fy,bR,av,br,dE,ai,aC,pg,jx,fP,Cu,tF,x9,h,cb,y,p,C,n,jc,cD,pu,cW,jv,iG,KH,bc,rj,l,t,q,dM c]
  ·exact PF (show A.natAbs<10^10 by lia) (by decide)
theorem ay{ρ ρ':aG}(h:t ρ=.nx ρ'):aB t u ρ=u ρ':=by unfold aB;rw[h]
theorem oF(h:t ρ=.rt d ρ'):aB t u ρ=.rt d ρ':=by unfold aB;rw[h]
abbrev nI(i:Nat):D:=.int (i:Int)
abbrev lS(a:List Int):D:=.scr (a.map D.int)
theorem FZ(n:Nat):vZ 0 n=(Pi n).map nI:=by
 unfold vZ;simp
theorem kR(h:j<n):x9 n (j:Int)=some j:=by
 unfold x9;rw[if_pos (by lia),if_pos (by lia)];simp
theorem Gu(a:List Int)(k:Nat): ∃c,ik [lS a,nI k]=some (.int c):=by
 by_cases h:k<a.length
 ·refine⟨a[k],?_⟩;simp[ik,eO,vG,kG,aB,fy,bR,av,ai,ak,aa,aj,c7,qb,Cu,h,bc,br,tF,kR (show k<(a.map D.int).length by simpa using h)];simp[kR h,h]
 ·refine⟨0,?_⟩;simp[ik,eO,vG,kG,aB,fy,bR,av,ai,ak,aa,aj,c7,qb,Cu,h,bc,cb,aC]
theorem wt(b:List Int)(k:D)(c:D): ∀(l:List Nat),(∀i∈l,i<b.length/\i<1000)-> ∀(x:Int) (e:Sl),0<=x->x<2147483647-> ∃(d:Int) (a:Sl),0<=d/\d<2147483647/\
 fE (gN 4) (bf 3 (av cE (av bL (av bL (av eY (ai 3) (aC (.int 5))) (av cE (av br (ai 0) (ai 4)) (aC (.int 2147483629)))) (av eA (aC (.int 31)) (ai 4))) (aC (.int 2147483647)))) (l.map nI) [.v (lS b),.v k,.v c,.v (.int x),e]=.nx [.v (lS b),.v k,.v c,.v (.int d),a]
 | [],_,x,e,h,n=>⟨x,e,h,n,rfl⟩
 |i::l,g,x,e,h,n=>by
  obtain⟨f,q⟩:=g i (by simp);have u:eY (.int x) (.int 5)=some (.int (x^5)):=mO (by decide) (by decide) (PF (show x.natAbs<10^10 by lia) (by decide));have p:eA (.int 31) (nI i)=some (.int (31*i)):=fS (PF (show(31:Int).natAbs<10^10 by decide) (by decide)) (PF (show(i:Int).natAbs<10^10 by lia) (by decide));have y: ∀i:Int,cE (.int i) (.int 2147483647)=some (.int (i % 2147483647)):=λi=>dM (by decide)
  have o: ∀i:Int,cE (.int i) (.int 2147483629)=some (.int (i % 2147483629)):=λi=>dM (by decide)
  obtain⟨t,w⟩:=di (i:=x^5+b[i] % 2147483629+31*i) (m:=2147483647) (by decide);obtain⟨d,a,A,z,s⟩:=wt b k c l (λj r=>g j (by simp[r])) _ (.v (nI i)) t w;refine⟨d,a,A,z,?_⟩;rw[<-s];simp[fE,gN,bf,av,ai,aC,u,p,y,o,br,tF,kR (show i<(b.map D.int).length by simpa using f),kR f,f,jc]
theorem Kw(e:List Int)(k:Nat)(O:k<=1000)(N:e.length<=63): ∃a b,EC [lS e,nI k]=some (.lst (aF a b))/\Bag 1 a b:=by
 obtain⟨c,s⟩:=Gu e k;have H:eY (.int 10) (.int 60)=some (.int (10^60)):=mO (by decide) (by decide) (by decide);have t:eY (.int 10) (.int 18)=some (.int (10^18)):=mO (by decide) (by decide) (by decide);have f:((10:Int)^60).natAbs<10^200:=by decide
 have l:((10:Int)^60*10^60).natAbs<10^200:=by decide
 have C:eA (.int (10^60)) (.int (10^60))=some (.int (10^60*10^60)):=fS f f;have D:eA (.int (10^60*10^60)) (.int (10^60))=some (.int (10^60*10^60*10^60)):=fS l f;have y:eA (.int 7919) (nI k)=some (.int (7919*k)):=fS (PF (show(7919:Int).natAbs<10^10 by decide) (by decide)) (PF (show(k:Int).natAbs<10^10 by lia) (by decide));generalize u:(if c<0 then -c else c) % (10^60*10^60*10^60)=A;have h:0<=A/\A<10^60*10^60*10^60:=by rw[<-u];exact di (by decide)
 have F:bf 2 (av cE (ak xz (aa (ak (nF 2 ik) (aa (ai 0) (aa (ai 1) (aj)))) (aj))) (av eA (av eA (av eY (aC (.int 10)) (aC (.int 60))) (av eY (aC (.int 10)) (aC (.int 60)))) (av eY (aC (.int 10)) (aC (.int 60))))) [.v (lS e),.v (nI k),.no,.no,.no]=.nx [.v (lS e),.v (nI k),.v (.int A),.no,.no]:=by
  have n: ∀i:Int,cE (.int i) (.int (10^60*10^60*10^60))=some (.int (i % (10^60*10^60*10^60))):=λi=>dM (by decide)
  unfold bf;have:av cE (ak xz (aa (ak (nF 2 ik) (aa (ai 0) (aa (ai 1) (aj)))) (aj))) (av eA (av eA (av eY (aC (.int 10)) (aC (.int 60))) (av eY (aC (.int 10)) (aC (.int 60)))) (av eY (aC (.int 10)) (aC (.int 60)))) [.v (lS e),.v (nI k),.no,.no,.no]=some (.int A):=by
   have M:ak (nF 2 ik) (aa (ai 0) (aa (ai 1) aj)) [.v (lS e),.v (nI k),.no,.no,.no]=some (.int c):=s;simp only[av,ak,aa,aj,aC,Pt,H,C,D,xz];have o:((ai 0 [.v (lS e),.v (nI k),.no,.no,.no]).bind λd=>((ai 1 [.v (lS e),.v (nI k),.no,.no,.no]).bind λd=>(some []).map λr=>d::r).map λr=>d::r).bind (nF 2 ik)=some (.int c):=s;rw[o];simp only[Pt,Tk,n,xz,u]
  rw[this];rfl
 have K:kG 5 [lS e,nI k]=[.v (lS e),.v (nI k),.no,.no,.no]:=rfl;unfold EC eO EE;rw[K,ay F];have g:A.natAbs<10^180:=by
  have:(10:Int)^60*10^60*10^60=((10^180:Nat):Int):=by decide
  rw[this] at h;lia
 by_cases q:(10:Int)^18<=A
 ·refine⟨A,0,?_,⟨h.1,g,by decide,by decide,λz=>absurd rfl z⟩⟩;simp only[aB,fy,bR,av,ai,Sj,RO,Pt,aC,t,AL,Cu,lm q,bc,nZ,aa,aj,Tk];rw[eG (by simp)]
 ·generalize w:(A+7919*(k:Int)+17) % 2147483647=x;have j:0<=x/\x<2147483647:=by rw[<-w];exact di (by decide)
  have n:cE (.int (A+7919*(k:Int)+17)) (.int 2147483647)=some (.int x):=by rw[dM (by decide),w]
  have J:eV (aa (ak lO (aa (ak c7 (aa (ai 0) (aj))) (aa (aC (.int 9)) (aj)))) (aj)) [.v (lS e),.v (nI k),.v (.int A),.v (.int x),.no]=some ((Pi (min e.length 9)).map nI):=by
   rw[wA];simp only[ak,aa,aj,ai,aC,RO,Pt,Tk,c7,lO,Pp];have:(if(9:Int)<(e.length:Int) then(9:Int) else(e.length:Int))=((min e.length 9:Nat):Int):=by split<;>lia
   rw[this,wF (by lia),FZ,Rt]
  obtain⟨m,p,L,P,I⟩:=wt e (nI k) (.int A) (Pi (min e.length 9)) (λi E=>by have:=Pj.mp E;lia) x .no j.1 j.2;refine⟨m,1,?_,⟨L,PF (show m.natAbs<10^10 by lia) (by decide),by decide,by decide,λ_=>by lia⟩⟩;have G:jG (cq (eV (aa (ak lO (aa (ak c7 (aa (ai 0) (aj))) (aa (aC (.int 9)) (aj)))) (aj)))) (gN 4) (bf 3 (av cE (av bL (av bL (av eY (ai 3) (aC (.int 5))) (av cE (av br (ai 0) (ai 4)) (aC (.int 2147483629)))) (av eA (aC (.int 31)) (ai 4))) (aC (.int 2147483647)))) [.v (lS e),.v (nI k),.v (.int A),.v (.int x),.no]=.nx [.v (lS e),.v (nI k),.v (.int A),.v (.int m),p]:=by
   unfold jG cq;rw[J];exact I
  have B:fy (bR (av Nb (ai 2) (av eY (aC (.int 10)) (aC (.int 18))))) (bc (b7 (aa (ai 2) (aa (aC (.int 0)) (aj))))) (cb) [.v (lS e),.v (nI k),.v (.int A),.no,.no]=.nx [.v (lS e),.v (nI k),.v (.int A),.no,.no]:=by
   simp only[fy,bR,av,ai,Sj,RO,Pt,aC,t,AL,Cu,lC q,cb]
  have i2:bf 3 (av cE (av bL (av bL (ai 2) (av eA (aC (.int 7919)) (ai 1))) (aC (.int 17))) (aC (.int 2147483647))) [.v (lS e),.v (nI k),.v (.int A),.no,.no]=.nx [.v (lS e),.v (nI k),.v (.int A),.v (.int x),.no]:=by
   simp only[bf,av,ai,Sj,RO,Pt,aC,y,jc,n,Vx,List.set_cons_zero]
  rw[ay B,ay i2,ay G];simp only[bc,nZ,aa,aj,ai,aC,Sj,RO,Pt,Tk];rw[eG (by simp)]
theorem cN {i n:Nat}{ρ ρ1:aG}{b0 bs ds a:List D}{d:D}(g:jv i ρ=some b0)(b:fs ρ=some (ds,ρ1))(c:jv i ρ1=some bs)(f:ds.length=n)(e:M bs ds=some (d,a)):aJ i n M fs ρ=some (d,iG i a ρ1):=by
 unfold aJ;rw[g];dsimp only;rw[b];dsimp only;rw[c];dsimp only;rw[if_pos f,e]
theorem iZ{ρ ρ1 ρ2:aG}{d:D}{ds:List D}(a:f ρ=some (d,ρ1))(b:fs ρ1=some (ds,ρ2)):dC f fs ρ=some (d::ds,ρ2):=by
 unfold dC bE;rw[a];dsimp only[TD];rw[b];rfl
theorem bU{ds:List D}(h:f ρ=some ds):cq f ρ=some (ds,ρ):=by unfold cq;rw[h];rfl
theorem fU(h:f ρ=some d):pu f ρ=some (d,ρ):=by unfold pu;rw[h];rfl
theorem tv {α β:Type}(f:α->β): ∀(l:List α) (j:Nat),(l.map f).eraseIdx j=(l.eraseIdx j).map f
 | [],_=>rfl
 |_::_,0=>rfl
 |x::l,j+1=>by simp[tv f l j]
theorem rB {α:Type}: ∀(l:List α) (j:Nat) (h:j<l.length),(l[j]::l.eraseIdx j).Perm l
 |_::_,0,_=>.refl _
 |x::l,j+1,h=>by
  have a:=rB l j (by simpa using h);exact(Xb _ _ _).trans (a.cons x)
theorem j7: ∀r:List Nat,cO (r.map nI)=0
 | []=>by simp[cO]
 |a::r=>by
  rw[Pu];unfold cO;rw[j7 r];simp[fw]
theorem xq(r:List Nat):fw (.lst (r.map nI))<=32:=by unfold fw;rw[j7];lia
abbrev On:FS->Nat->FS:=λb n=>vX (bR (av mo (dE 2) (b7 (aj)))) b n
abbrev tH:FS:=cA (aJ 3 1 gE (dC (aJ 2 1 sK (dC (aJ 0 1 ig (cq (aa (ak c7 (aa (dE 2) (aj))) (aj)))) (cq (aj)))) (cq (aj))))
theorem LA(n:D)(b:List D)(left a:List Nat):bR (av mo (dE 2) (b7 (aj))) [.arg b,.v n,.own (left.map nI),.own (a.map nI)]=some (!left.isEmpty):=by
 have c:b7 aj [.arg b,.v n,.own (left.map nI),.own (a.map nI)]=some (.lst []):=by
  rw[nZ];simp only[aj,Pt];exact eG (by simp)
 unfold bR av;rw[c];simp only[dE,Sj,RO,Pt];rw[kf (xq left)];cases left with
 |nil=>simp[Cu,dg,de]
 |cons x r=>simp[Cu,dg,de]
theorem Du(n:D){N:Nat}(B:Bag N a b)(o:N<=1000000000)(left c:List Nat)(t:0<left.length)(u:left.length<=100)(w:c.length<=100):
 ∃(j:Nat) (k:j<left.length) (f h:Int),tH [.arg (aF a b),.v n,.own (left.map nI),.own (c.map nI)]=.nx [.arg (aF f h),.v n,.own ((left.eraseIdx j).map nI),.own ((c++[left[j]]).map nI)]/\Bag (N+1) f h:=by
 obtain⟨d,f,h,e,p,y,x⟩:=nE (m:=left.length) B o (by lia) (PF (show(left.length:Int).natAbs<10^10 by lia) (by decide));obtain⟨j,rfl⟩: ∃j:Nat,d=(j:Int):=⟨d.toNat,by lia⟩
 have k:j<left.length:=by lia
 refine⟨j,k,f,h,?_,p⟩;have l:sK (left.map nI) [.int (j:Int)]=some (nI left[j],(left.eraseIdx j).map nI):=by
  rw[Ha,eG (by simp;lia)];simp only[Pt];rw[kR (by simpa using k)];simp[k,tv]
 have r:gE (c.map nI) [nI left[j]]=some (.non,(c++[left[j]]).map nI):=by
  rw[Bo,sZ (by simp;lia)];simp
 have g:aJ 0 1 ig (cq (aa (ak c7 (aa (dE 2) (aj))) (aj))) [.arg (aF a b),.v n,.own (left.map nI),.own (c.map nI)]=some (nI j,[.arg (aF f h),.v n,.own (left.map nI),.own (c.map nI)]):=by
  simp[aJ,jv,cq,aa,ak,dE,aj,c7,e,iG]
 have s:aJ 2 1 sK (dC (aJ 0 1 ig (cq (aa (ak c7 (aa (dE 2) (aj))) (aj)))) (cq (aj))) [.arg (aF a b),.v n,.own (left.map nI),.own (c.map nI)]=some (nI left[j],[.arg (aF f h),.v n,.own ((left.eraseIdx j).map nI),.own (c.map nI)]):=by
  refine(cN (i:=2) (n:=1) (b0:=left.map nI) (ds:=[nI j]) (ρ1:=[.arg (aF f h),.v n,.own (left.map nI),.own (c.map nI)]) rfl (iZ g rfl) rfl rfl l).trans rfl
 have q:aJ 3 1 gE (dC (aJ 2 1 sK (dC (aJ 0 1 ig (cq (aa (ak c7 (aa (dE 2) (aj))) (aj)))) (cq (aj)))) (cq (aj))) [.arg (aF a b),.v n,.own (left.map nI),.own (c.map nI)]=some (.non,[.arg (aF f h),.v n,.own ((left.eraseIdx j).map nI),.own ((c++[left[j]]).map nI)]):=by
  refine(cN (i:=3) (n:=1) (b0:=c.map nI) (ds:=[nI left[j]]) (ρ1:=[.arg (aF f h),.v n,.own ((left.eraseIdx j).map nI),.own (c.map nI)]) rfl (iZ s rfl) rfl rfl r).trans rfl
 unfold tH cA;rw[q]
theorem IM(n:D): ∀(f:Nat) (left c:List Nat) (N:Nat) (a b:Int),left.length<f->left.length<=50->c.length+left.length<=100->Bag N a b->N+left.length<=1000000000->
 ∃(o:List Nat) (d i:Int),On tH f [.arg (aF a b),.v n,.own (left.map nI),.own (c.map nI)]=.nx [.arg (aF d i),.v n,.own [],.own ((c++o).map nI)]/\o.Perm left/\Bag (N+left.length) d i
 |0,left,c,N,a,b,h,_,_,_,_=>absurd h (WK _)
 |f+1,left,c,N,a,b,h,C,E,B,A=>by
  unfold On vX;rw[LA];cases e:left.isEmpty with
  |true=>
   have:left=[]:=by simpa using e
   subst this;exact⟨[],a,b,by simp,.refl _,by simpa using B⟩
  |false=>
   have m:0<left.length:=by cases left with
    |nil=>cases e
    |cons x r=>simp
   obtain⟨j,g,w,y,t,u⟩:=Du n B (by lia) left c m (by lia) (by lia);have z:(left.eraseIdx j).length=left.length-1:=by rw[RJ];simp[g]
   obtain⟨o,q,s,k,p,l⟩:=IM n f (left.eraseIdx j) (c++[left[j]]) (N+1) w y (by lia) (by lia) (by simp;lia) u (by lia);refine⟨left[j]::o,q,s,?_,?_,?_⟩
   ·simp only[Z0];rw[t];dsimp only;have:vX (bR (av mo (dE 2) (b7 aj))) tH f=On tH f:=rfl;rw[this,k];simp
   ·exact(p.cons _).trans (rB left j g)
   ·rw[show N+left.length=N+1+(left.eraseIdx j).length by lia];exact l
structure Ord(n:Nat)(r:List Nat):Prop where
 perm:r.Perm (Pi n)
theorem Ord.len {n:Nat}{r:List Nat}(o:Ord n r):r.length=n:=by rw[o.perm.length_eq];simp
theorem Ord.lt(o:Ord n r){v:Nat}(h:v∈r):v<n:=by simpa using o.perm.mem_iff.mp h
theorem Ord.has(o:Ord n r){v:Nat}(h:v<n):v∈r:=o.perm.mem_iff.mpr (by simpa using h)
theorem Ord.nd {n:Nat}{r:List Nat}(o:Ord n r):r.Nodup:=o.perm.nodup_iff.mpr Qf
theorem Iy {n:Nat}(h:n<=1000)(f:FE)(ρ:aG)(e:f ρ=some (nI n)):HS f ρ=some (.lst ((Pi n).map nI)):=by
 unfold HS Ib;rw[e];simp only[Pt];rw[if_pos (by lia),FZ];rfl
theorem nr {N:Nat}(B:Bag N a b){n:Nat}(k:n<=12)(j:N<=900000000): ∃(o:List Nat) (d c:Int),xI (aF a b) [nI n]=some (.lst (o.map nI),aF d c)/\Ord n o/\Bag (N+n) d c:=by
 obtain⟨o,d,c,e,p,f⟩:=IM (nI n) 16 (Pi n) [] N a b (by simp;lia) (by simp;lia) (by simp;lia) B (by simp;lia);refine⟨o,d,c,?_,⟨p⟩,by simpa using f⟩;have i:qM 4 (aF a b) [nI n]=[.arg (aF a b),.v (nI n),.no,.no]:=rfl;have g:gc 2 (HS (ai 1)) [.arg (aF a b),.v (nI n),.no,.no]=.nx [.arg (aF a b),.v (nI n),.own ((Pi n).map nI),.no]:=by
  unfold gc;rw[Iy (n:=n) (by lia) (ai 1) _ rfl];rfl
 have s2:gc 3 (b7 (aj)) [.arg (aF a b),.v (nI n),.own ((Pi n).map nI),.no]=.nx [.arg (aF a b),.v (nI n),.own ((Pi n).map nI),.own []]:=by
  unfold gc;rw[nZ];simp only[aj,Pt];rw[eG (by simp)];rfl
 unfold xI zE xh;rw[i,ay g,ay s2];have h:vX (bR (av mo (dE 2) (b7 (aj)))) tH 16 [.arg (aF a b),.v (nI n),.own ((Pi n).map nI),.own []]=.nx [.arg (aF d c),.v (nI n),.own [],.own (o.map nI)]:=e;rw[ay h];simp[yh,yw,rj]
theorem aA{f g:FE}{x y:D}(a:f ρ=some x)(b:g ρ=some y):av F f g ρ=F x y:=by unfold av;rw[a,Pt,b,Pt]
theorem GU{ρ ρ1 ρ2:aG}(a:f ρ=some (x,ρ1))(b:g ρ1=some (y,ρ2))(c:F x y=some d):yu F f g ρ=some (d,ρ2):=by
 unfold yu bE;rw[a];dsimp only[TD];rw[b];dsimp only[TD];rw[c];rfl
theorem bh {i:Nat}{f:FE}{ρ:aG}(h:f ρ=some d):bf i f ρ=.nx (ρ.set i (.v d)):=by unfold bf;rw[h]
theorem ie {i:Nat}{ρ ρ1:aG}{d:D}(h:f ρ=some (d,ρ1)):g7 i f ρ=.nx (ρ1.set i (.v d)):=by unfold g7;rw[h]
theorem Gq {i:Nat}{ρ ρ1:aG}(h:f ρ=some (.lst ds,ρ1)):Ey i f ρ=.nx (ρ1.set i (.own ds)):=by unfold Ey;rw[h];rfl
theorem k6{ρ:aG}{ds:List D}(h:f ρ=some (.lst ds)):gc i f ρ=.nx (ρ.set i (.own ds)):=by unfold gc;rw[h];rfl
theorem bS{ds:List D}(h:f ρ=some ds)(a:ds.length<=1000):cu f ρ=some (.tup ds):=by
 rw[Ic,h,Pt,eG a]
theorem cT {f:FA}{ds:List D}(h:f ρ=some ds)(a:ds.length<=1000):b7 f ρ=some (.lst ds):=by
 rw[nZ,h,Pt,eG a]
theorem am {f:FE}{d:D}{ds:List D}(a:f ρ=some d)(b:fs ρ=some ds):aa f fs ρ=some (d::ds):=by unfold aa;rw[a,b];rfl
theorem bP{ds:List D}(h:f ρ=some ds):ak F f ρ=F ds:=by unfold ak;rw[h];rfl
theorem Jb {r:List Nat}(h:c<r.length):tF (r.map nI) (c:Int)=some (nI (r.getD c 0)):=u7 (by rw[Qi,Pq h];simp[Qr,h])
theorem Bi {r:List Nat}(h:c<r.length):br (.lst (r.map nI)) (nI c)=some (nI (r.getD c 0)):=Jb h
theorem gj {r:List Nat}(h:c<r.length):br (.tup (r.map nI)) (nI c)=some (nI (r.getD c 0)):=Jb h
theorem jp(a b:Nat):dg (nI a) (nI b)=decide (a=b):=by
 rw[jx];rw[Qd];simp;lia
theorem NY(a b:Nat):bL (nI a) (nI b)=some (nI (a+b)):=by rw[jc];simp
theorem C8(a:Nat):bL (nI a) (.int 1)=some (nI (a+1)):=by rw[jc];simp
theorem MN(h:0<n):cE (nI a) (nI n)=some (nI (a % n)):=by rw[dM (by lia)];rfl
theorem nP{bs:List D}{j:Nat}(a:jv i ρ=some bs)(b:fi ρ=some (nI j))(c:j<bs.length):cW i fi d ρ=some (iG i (bs.set j d) ρ):=by
 unfold cW;rw[a];dsimp only;rw[b];dsimp only;rw[kR c]
theorem qE(x:List Nat)(j v:Nat):(x.map nI).set j (nI v)=(x.set j v).map nI:=by rw[List.map_set]
theorem swap_perm(x:List Nat)(c d:Nat)(b:c<x.length)(a:d<x.length):((x.set c (x.getD d 0)).set d (x.getD c 0)).Perm x:=by
 have e:(x.toArray.swap c d (by simpa using b) (by simpa using a)).toList=(x.set c (x.getD d 0)).set d (x.getD c 0):=by
  simp[Array.toList_swap,Qr,b,a]
 rw[<-e];have:=Array.swap_perm (xs:=x.toArray) (i:=c) (j:=d) (by simpa using b) (by simpa using a);simpa using (Vv.mp this)
theorem JE {x:List Nat}(h:x.Nodup)(b:i<x.length)(a:j<x.length)(e:x.getD i 0=x.getD j 0):i=j:=by
 have:x[i]=x[j]:=by simpa [Qr,b,a] using e
 exact(YD h).mp this
theorem gx {α:Type}{g:FG}{f:FE}{b:aG}{h o:α->D}: ∀(l:List α),(∀i∈l,∃ρ1,g (h i) b=some ρ1/\f ρ1=some (o i))->dq g cj f b (l.map h)=some (l.map o)
 | [],_=>rfl
 |a::l,H=>by
  obtain⟨ρ1,c,d⟩:=H a (by simp);have j:=gx l λi e=>H i (by simp[e])
  rw[Pu];unfold dq;rw[c,Pt];simp only[cj,Pt,if_true,d,j];rfl
theorem eS{ds ys:List D}(a:gi ρ=some ds)(b:ds.length<=1000)(c:dq g p f (ρ++Py m .no) ds=some ys):cx m gi g p f ρ=some (.lst ys):=by
 rw[DL,a,Pt,eG b,Pt,c];rfl
abbrev ax(r:List Nat):D:=.tup (r.map nI)
abbrev cH(r x:List Nat):D:=.tup [ax r,ax x]
theorem jj{n:Nat}(h:f ρ=some [nI n])(a:n<=1000):eV f ρ=some ((Pi n).map nI):=by
 rw[wA,h,Pt,wF (by lia),FZ];rfl
theorem O9 {j:Int}(h:0<=j):D.int j=nI j.toNat:=by show D.int j=D.int (j.toNat:Int);rw[Int.toNat_of_nonneg h]
theorem MU{ds:List D}(h:ds.length=n):nF n P ds=P ds:=if_pos h
theorem dW(a:f ρ=some (d,ρ1))(b:g d ρ1=some ρ2):cD g f ρ=.nx ρ2:=by unfold cD;rw[a];dsimp only;rw[b];rfl
theorem aN {n:Nat}{ds:List D}(h:fs ρ=some ds)(a:ds.length=n):ak (nF n P) fs ρ=P ds:=(bP h).trans (MU a)
theorem qs{ρ ρ1:aG}{ds:List D}{d:D}(h:fs ρ=some (ds,ρ1))(a:F ds=some d):g8 F fs ρ=some (d,ρ1):=by unfold g8;rw[h];dsimp only[TD];rw[a];rfl
theorem bj {kd:Kd}{n:Nat}{t:FS}{ds:List D}{ρ:aG}(h:t (kG n ds)=.rt d ρ):eO kd n t ds=some d:=by unfold eO;rw[h]
theorem a7{d:D}(h:f ρ=some d):bc f ρ=.rt d ρ:=by unfold bc;rw[h]
theorem IK {ks:List (List Int)}(h:ks.length<64)(a: ∀k∈ks,k≠[]):dv [.lst (ks.map cZ)]=some (.lst ((bC bx ks).map cZ)):=by
 show(iC (ks.map cZ)).map D.lst=_;unfold iC;rw[if_pos (by simpa using h)];cases ks with
 |nil=>rfl
 |cons k ks=>
  rw[CF];dsimp only;rw[wj a];rfl
theorem AK: ∀bs:List Bool,my (bs.map D.bl)=some bs
 | []=>rfl
 |b::r=>by show(my (r.map D.bl)).map (b:: ·)=_;rw[AK r];rfl
theorem p6(bs:List Bool):sv [.lst (bs.map D.bl)]=some (.bl (bs.any id)):=by
 show(my (bs.map D.bl)).map (λbs=>D.bl (bs.any id))=_;rw[AK];rfl
theorem mY(h:p ρ=some false):fy p t u ρ=u ρ:=by unfold fy;rw[h]
theorem gk(h:p ρ=some true):fy p t u ρ=t ρ:=by unfold fy;rw[h]
theorem u8{b:Bool}(a:p ρ=some false)(c:q ρ=some b):CN p q ρ=some b:=by unfold CN;rw[a];exact c
theorem IX(a:p ρ=some true):CN p q ρ=some true:=by unfold CN;rw[a];rfl
theorem Gg(a:p ρ=some true)(c:q ρ=some b):gZ p q ρ=some b:=by unfold gZ;rw[a];exact c
theorem KR(a:p ρ=some false):gZ p q ρ=some false:=by unfold gZ;rw[a];rfl
theorem mN{a b:Bool}(c:p ρ=some a)(d:a=true->q ρ=some b)(e:a=false->b=false):gZ p q ρ=some b:=by
 cases a with
 |true=>exact Gg c (d rfl)
 |false=>rw[e rfl];exact KR c
theorem qN(h:p ρ=some b):Bk p ρ=some (.bl b):=by unfold Bk;rw[h];rfl
theorem DH{d:D}(h:f ρ=some (d,ρ1)):cA f ρ=.nx ρ1:=by unfold cA;rw[h]
theorem b6(h:f ρ=some (.bl b)):bR f ρ=some b:=by unfold bR;rw[h];rfl
theorem gB{b:Bool}(h:f ρ=some (.bl b)):dJ f ρ=some b:=by unfold dJ;rw[h];rfl
theorem kL{b:Bool}(h:p ρ=some b):g6 p ρ=some (!b):=by unfold g6;rw[h];rfl
theorem HV(h:fw x<=32):mo x x=some (.bl false):=by rw[kf h,nn];rfl
theorem G2(h:fw x<=32):si x x=some (.bl true):=by rw[pg h,nn]
theorem eN{d:D}{ρ ρ1 ρ2:aG}(a:g d ρ=some ρ1)(c:b ρ1=.nx ρ2):fE g b (d::r) ρ=fE g b r ρ2:=by
 show(match g d ρ with
  |none=>Out.no
  |some ρ1=>match b ρ1 with
   | .nx ρ2=>fE g b r ρ2
   | .ct ρ2=>fE g b r ρ2
   | .bk ρ2=>.nx ρ2
   | .rt d ρ2=>.rt d ρ2
   | .no=>.no)=_
 rw[a];dsimp only;rw[c]
theorem ir{ds:List D}(h:f ρ=some (ds,ρ1)):jG f g b ρ=fE g b ds ρ1:=by unfold jG;rw[h]
theorem Ac{ds:List D}(h:f ρ=some (.lst ds)):gS f ρ=some ds:=by unfold gS;rw[h];rfl
theorem HE(h:f ρ=some (.tup ds)):xt f ρ=some ds:=by unfold xt;rw[h];rfl
theorem rK {kd:Kd}{n:Nat}{t:FS}(h: ∃ρ,t (kG n ds)=.rt d ρ):eO kd n t ds=some d:=let⟨_,h⟩:=h;bj h
theorem Js(P:aG->Prop)(h: ∃ρ',t ρ=.nx ρ'/\P ρ')(f: ∀ρ',P ρ'-> ∃a,u ρ'=.rt d a): ∃a,aB t u ρ=.rt d a:=by
 obtain⟨ρ',b,c⟩:=h;obtain⟨a,e⟩:=f ρ' c;exact⟨a,(ay b).trans e⟩
theorem Gi{ds:List D}{P:aG->Prop}(h:f ρ=some (ds,ρ1))(d: ∃ρ',fE g b ds ρ1=.nx ρ'/\P ρ'): ∃ρ',jG f g b ρ=.nx ρ'/\P ρ':=by
 obtain⟨ρ',a,c⟩:=d;exact⟨ρ',(ir h).trans a,c⟩
theorem A8{P:aG->Prop}: ∀(l:List D),(∀d∈l,∀ρ,P ρ-> ∃ρ1 ρ2,g d ρ=some ρ1/\b ρ1=.nx ρ2/\P ρ2)-> ∀ρ,P ρ-> ∃ρ',fE g b l ρ=.nx ρ'/\P ρ'
 | [],_,ρ,p=>⟨ρ,rfl,p⟩
 |d::l,h,ρ,p=>by
  obtain⟨ρ1,ρ2,a,c,i⟩:=h d (by simp) ρ p;obtain⟨ρ',e,j⟩:=A8 l (λd' f=>h d' (by simp[f])) ρ2 i;exact⟨ρ',(eN a c).trans e,j⟩
theorem pS(i:Int){n:Nat}(h:0<n):(i % (n:Int)).toNat<n/\(((i % (n:Int)).toNat:Nat):Int)=i % n:=by
 have:=di (i:=i) (m:=n) (by lia);lia
theorem rW {i:Nat}{b0 bs:List D}{d:D}(c:jv i ρ=some b0)(a:fs ρ=some ([d],ρ1))(b:jv i ρ1=some bs)(e:bs.length<=900):cA (aJ i 1 gE fs) ρ=.nx (iG i (bs++[d]) ρ1):=
 DH (cN c a b rfl (by rw[Bo,sZ (by lia)]))
theorem ja {α:Type}{g:FG}{p:FT}{f:FE}{b:aG}{h o:α->D}{q:α->Bool}: ∀(l:List α),(∀i∈l,∃ρ1,g (h i) b=some ρ1/\p ρ1=some (q i)/\(q i=true->f ρ1=some (o i)))->dq g p f b (l.map h)=some ((l.filter q).map o)
 | [],_=>rfl
 |a::l,H=>by
  obtain⟨ρ1,d,j,m⟩:=H a (by simp);have c:=ja l λi k=>H i (by simp[k])
  rw[Pu];unfold dq;rw[d,Pt,j,Pt];cases e:q a with
  |true=>rw[if_pos rfl,m e,Pt,c];simp[e]
  |false=>rw[if_neg (by simp),c];simp[e]
theorem dB {α:Type}{g:FG}{p:FT}{A:FA}{b:aG}{h:α->D}{q:α->Bool}{o:α->List D}: ∀(l:List α),(∀i∈l,∃ρ1,g (h i) b=some ρ1/\p ρ1=some (q i)/\(q i=true->A ρ1=some (o i)))->qg g p A b (l.map h)=some ((l.filter q).flatMap o)
 | [],_=>rfl
 |a::l,H=>by
  obtain⟨ρ1,d,f,k⟩:=H a (by simp);have c:=dB l λi j=>H i (by simp[j])
  rw[Pu];unfold qg;rw[d,Pt,f,Pt];cases e:q a with
  |true=>rw[if_pos rfl,k e,Pt,c];simp[e]
  |false=>rw[if_neg (by simp),c];simp[e]
theorem ln(h:f ρ=some d):w8 f ρ=some [d]:=by unfold w8;rw[h];rfl
theorem p8{ds ys:List D}(a:gi1 ρ=some ds)(b:qg g1 p1 (Ex gi2 g2 p2 f) (ρ++Py m .no) ds=some ys)(c:ys.length<=1000):jh m gi1 g1 p1 gi2 g2 p2 f ρ=some (.lst ys):=by
 unfold jh;rw[a,Pt,b,Pt,if_pos (Tf (lh c))]
theorem oJ{ds ys:List D}(a:gi ρ=some ds)(b:qg g p (w8 f) ρ ds=some ys):Ex gi g p f ρ=some ys:=by
 unfold Ex;rw[a,Pt,b]
theorem wu(r:List Nat)(ρ:aG)(f:FE)(h:f ρ=some (.lst (r.map nI))):ak c7 (aa f aj) ρ=some (nI r.length):=by
 rw[bP (am h rfl)];show some (D.int ((r.map nI).length:Int))=_;rw[Pp]
theorem iU(r:List Nat)(ρ:aG)(f:FE)(h:f ρ=some (ax r)):ak c7 (aa f aj) ρ=some (nI r.length):=by
 rw[bP (am h rfl)];show some (D.int ((r.map nI).length:Int))=_;rw[Pp]
theorem N9(a b:Nat):gY (nI a) (nI b)=some (.int ((a:Int) -b)):=jd _ _
theorem NT(h:0<n):cE (.int i) (nI n)=some (nI (i % n).toNat):=by
 rw[dM (by lia),O9 (di (i:=i) (m:=n) (by lia)).1]
theorem Ez(L:List Nat)(c:Nat):(L.map nI).any (λd=>dg d (nI c))=decide (c∈L):=by
 induction L with
 |nil=>simp
 |cons a L b=>
  rw[Pu,Sw,b,jp,Qd];simp only[Ra,lb,PX];exact or_congr_left eq_comm
theorem Nw(L:List Nat)(c:Nat):jk false (nI c) (.lst (L.map nI))=some (.bl (decide (c∈L))):=by
 unfold jk lZ;dsimp only;rw[j7,if_pos (by lia),Ez];rfl
def dU:FS:=
 aB (gc 3 (ak im (aa (ai 0) (aj))))
 (aB (cD (gT 2 (cS (cW 3 (ai 1)) (cS (cW 3 (ai 2)) (gX)))) (pu (cu (aa (av br (ai 0) (ai 2)) (aa (av br (ai 0) (ai 1)) (aj))))))
 (bc (ak gz (aa (dE 3) (aj)))))
def gH:List D->Option D:=eO .s 4 dU
def gU:FS:=
 bc (cx 1 (eV (aa (av cE (av gY (ai 2) (ai 1)) (ai 0)) (aj))) (gN 3) (cj) (av cE (av bL (ai 1) (ai 3)) (ai 0)))
def gy:List D->Option D:=eO .n 3 gU
def iJ:FS:=
 bc (ak (nF 3 gy) (aa (ak c7 (aa (ai 0) (aj))) (aa (ai 1) (aa (ai 2) (aj)))))
def fM:List D->Option D:=eO .n 3 iJ
def l8:FS:=
 bc (ak (nF 3 gy) (aa (ak c7 (aa (ai 0) (aj))) (aa (av br (ai 0) (ai 1)) (aa (av br (ai 0) (ai 2)) (aj)))))
def mD:List D->Option D:=eO .n 3 l8
def kq:FS:=
 aB (bf 3 (ak (nF 3 mD) (aa (ai 0) (aa (ai 1) (aa (ai 2) (aj))))))
 (bc (ak dv (aa (jh 2 (gS (ak (nF 3 fM) (aa (ai 0) (aa (ai 1) (aa (ai 2) (aj)))))) (gN 4) (cj) (gS (ai 3)) (gN 5) (cj) (cu (aa (ai 4) (aa (ai 5) (aj))))) (aj))))
def kh:List D->Option D:=eO .n 4 kq
def oH:FS:=
 bc (ak (nF 3 gH) (aa (ai 0) (aa (ai 1) (aa (ai 2) (aj)))))
def tY:List D->Option D:=eO .s 3 oH
def mr:FS:=
 aB (bf 3 (fx (ak (nF 3 fM) (aa (ai 0) (aa (ai 1) (aa (ai 2) (aj))))) (j5 (aC (.int 1))) og))
 (aB (bf 4 (fx (ak (nF 3 mD) (aa (ai 0) (aa (ai 1) (aa (ai 2) (aj))))) (j5 (aC (.int 1))) og))
 (bc (Bk (g6 (bR (ak sv (aa (cx 1 (gS (ai 3)) (gN 5) (cj) (av (jk false) (av br (ai 0) (ai 5)) (ai 4))) (aj))))))))
def qQ:List D->Option D:=eO .s 5 mr
def kv:FS:=
 aB (cD (gT 2 (cS (gN 4) (cS (gN 5) (gX)))) (pu (ai 0)))
 (aB (bf 6 (cx 2 (gS (ak (nF 3 kh) (aa (ai 1) (aa (ai 2) (aa (ai 3) (aj)))))) (gT 2 (cS (gN 7) (cS (gN 8) (gX)))) (cj) (av (jk false) (ai 8) (cu (aa (av br (ai 4) (ai 7)) (aa (av br (ai 5) (ai 7)) (aj)))))))
 (bc (Bk (g6 (bR (ak sv (aa (ai 6) (aj))))))))
def pG:List D->Option D:=eO .s 7 kv
def l6:FS:=
 bc (Bk (gZ (bR (ak (nF 3 qQ) (aa (ai 1) (aa (ai 2) (aa (ai 3) (aj)))))) (bR (ak (nF 4 pG) (aa (ai 0) (aa (ai 1) (aa (ai 2) (aa (ai 3) (aj)))))))))
def rF:List D->Option D:=eO .s 4 l6
def iL:FS:=
 aB (bf 2 (HS (ak c7 (aa (ai 1) (aj)))))
 (bc (jh 2 (gS (ai 2)) (gN 3) (cj) (gS (ai 2)) (gN 4) (gZ (bR (av mo (ai 3) (ai 4))) (dJ (ak (nF 4 rF) (aa (ai 0) (aa (ai 1) (aa (ai 3) (aa (ai 4) (aj)))))))) (cu (aa (ai 3) (aa (ai 4) (aa (ak (nF 3 tY) (aa (ai 1) (aa (ai 3) (aa (ai 4) (aj))))) (aj)))))))
def sn:List D->Option D:=eO .n 3 iL
def cF(n s e:Nat):List Nat:=(Pi (((e:Int) -s) % n).toNat).map λ(i:Nat)=>(s+i) % n
def bv(n s e x:Nat):Bool:=decide (((x:Int) -s) % n<((e:Int) -s) % n)
def sP(n s e:Nat):List Nat:=(Pi n).filter (bv n s e)
theorem nX(h:0<n)(s e:Nat):(cF n s e).length<n:=by
 unfold cF;rw[Pp,QJ];exact(pS _ h).1
theorem jt(h:0<n)(f:s<n)(e x:Nat):x∈cF n s e↔x<n/\bv n s e x=true:=by
 unfold cF bv;rw[PU,lb];have m:=pS ((e:Int) -s) h;constructor
 ·rintro⟨i,a,rfl⟩;rw[Pj] at a;refine⟨RT _ h,?_⟩;rw[R6,Int.emod_sub_emod,show(((s+i:Nat):Int) -s)=i by lia,Q0 (by lia) (by lia)];lia
 ·rintro⟨c,d⟩;have b:=pS ((x:Int) -s) h;refine⟨(((x:Int) -s) % n).toNat,by rw[Pj];lia,?_⟩;have:(((s+(((x:Int) -s) % n).toNat) % n:Nat):Int)=x:=by
   rw[R6,U2,b.2,Int.add_emod_emod,show(s:Int)+((x:Int) -s)=x by lia,Q0 (by lia) (by lia)]
  lia
theorem ua(h:0<n)(s e:Nat):(cF n s e).Nodup:=by
 unfold cF;have m:=pS ((e:Int) -s) h;show jax (·≠ ·) _;rw[QI];refine QO (λ{i j} c a b e=>?_) Rl;rw[Pj] at c a;have:(((s+i) % n:Nat):Int)=(((s+j) % n:Nat):Int):=by rw[e]
 rw[R6,R6,U2,U2,jbK (s:Int),jbK (s:Int),VC,Q0 (by lia) (by lia),Q0 (by lia) (by lia)] at this;lia
theorem iV:x∈sP n s e↔x<n/\bv n s e x=true:=by unfold sP;rw[QW,Pj]
theorem rS(h:0<n)(a:s<n)(e:Nat):(cF n s e).Perm (sP n s e):=
 (Qe (ua h s e) (Sb _ Qf)).mpr λx=>(jt h a e x).trans iV.symm
def fA(A B:List Nat):List (List Int):=A.flatMap λ(a:Nat)=>B.map λ(b:Nat)=>[(a:Int),(b:Int)]
theorem tL {α β:Type}{f g:α->List β}: ∀(l:List α),(∀a∈l,(f a).Perm (g a))->(l.flatMap f).Perm (l.flatMap g)
 | [],_=>.refl _
 |a::l,h=>by
  rw[Qj,Qj];exact(h a (by simp)).append (tL l λb c=>h b (by simp[c]))
theorem zn {A c B b:List Nat}(d:A.Perm c)(e:B.Perm b):(fA A B).Perm (fA c b):=
 (tL A λa _=>e.map _).trans (List.Perm.flatMap_right _ d)
theorem C7 {A B:List Nat}(e:A.Pairwise (·< ·))(h:B.Pairwise (·< ·)):(fA A B).Pairwise (λa b=>bx b a=false):=by
 unfold fA;rw[UC];refine⟨λa _=>?_,e.imp λ{a i} c x f y g=>?_⟩
 ·rw[QI];refine h.imp λ{b d} c=>?_
  unfold bx bx;rw[if_pos rfl,if_neg (by lia)];simp only[decide_eq_false_iff_not];lia
 ·obtain⟨b,_,rfl⟩:=PU.mp f;obtain⟨d,_,rfl⟩:=PU.mp g;unfold bx;rw[if_neg (by lia)];simp only[decide_eq_false_iff_not];lia
theorem Eh(n s e:Nat):(sP n s e).Pairwise (·< ·):=Sb _ Rl
theorem zW(h:0<n)(d:a<n)(e:sa<n)(b c:Nat):bC bx (fA (cF n a b) (cF n sa c))=fA (sP n a b) (sP n sa c):=
 (lz zk (zn (rS h d b) (rS h e c)).symm (C7 (Eh _ _ _) (Eh _ _ _))).symm
theorem ub(A B:List Nat):(fA A B).length=A.length*B.length:=by
 unfold fA
 induction A with
 |nil=>simp
 |cons a A b=>rw[Qj,P0,Pp,b,P1,VE,Xc,Yq]
theorem F8(A B:List Nat): ∀k∈fA A B,k≠[]:=λk c=>by
 unfold fA at c;obtain⟨a,_,c⟩:=Rf.mp c;obtain⟨b,_,rfl⟩:=PU.mp c;simp
theorem sV(h:0<n)(b:n<=900):gy [nI n,nI s,nI e]=some (.lst ((cF n s e).map nI)):=by
 apply bj (kd:=.n) (n:=3) (t:=gU);unfold gU;have m:=pS ((e:Int) -s) h;refine a7 (eS (ds:=(Pi (((e:Int) -s) % n).toNat).map nI) (jj (am ((aA ((aA (x:=nI e) (y:=nI s) rfl rfl).trans (N9 _ _)) (y:=nI n) rfl).trans (NT h)) rfl) (by lia)) (by simp;lia) ?_);refine(gx (h:=nI) (o:=λ(i:Nat)=>nI ((s+i) % n)) _ λi a=>⟨_,rfl,?_⟩).trans (by unfold cF;rw[PM];rfl);exact(aA ((aA (x:=nI s) (y:=nI i) rfl rfl).trans (NY _ _)) (y:=nI n) rfl).trans (MN h)
theorem uv{o:List Nat}(c:o.length=n)(h:0<n)(d:n<=900)(a b:Nat):fM [ax o,nI a,nI b]=some (.lst ((cF n a b).map nI)):=by
 apply bj (kd:=.n) (n:=3) (t:=iJ);unfold iJ;exact a7 ((aN (ds:=[nI n,nI a,nI b]) (am (by rw[iU o _ _ rfl,c]) rfl) rfl).trans (sV h d))
theorem vR{o:List Nat}(c:o.length=n)(h:0<n)(d:n<=900)(e:a<n)(f:b<n):mD [ax o,nI a,nI b]=some (.lst ((cF n (o.getD a 0) (o.getD b 0)).map nI)):=by
 apply bj (kd:=.n) (n:=3) (t:=l8);unfold l8;exact a7 ((aN (ds:=[nI n,nI (o.getD a 0),nI (o.getD b 0)]) (am (by rw[iU o _ _ rfl,c]) (am ((aA (x:=ax o) (y:=nI a) rfl rfl).trans (gj (by lia))) (am ((aA (x:=ax o) (y:=nI b) rfl rfl).trans (gj (by lia))) rfl))) rfl).trans (sV h d))
def zO(o:List Nat)(a b:Nat):List (List Int):=fA (sP o.length a b) (sP o.length (o.getD a 0) (o.getD b 0))
theorem Fd(O:Ord n o)(h:0<n)(m:n<=8)(d:a<n)(j:b<n):kh [ax o,nI a,nI b]=some (.lst ((zO o a b).map cZ)):=by
 have c:=O.len;apply bj (kd:=.n) (n:=4) (t:=kq);unfold kq;refine(ay (ρ':=[.v (ax o),.v (nI a),.v (nI b),.v (.lst ((cF n (o.getD a 0) (o.getD b 0)).map nI))]) ((bh ((aN (ds:=[ax o,nI a,nI b]) rfl rfl).trans (vR c h (by lia) d j))).trans rfl)).trans ?_
 have g:o.getD a 0<n:=by
  have:o.getD a 0=o[a]'(by lia):=by simp[Qr,c,d]
  rw[this];exact O.lt (S7 _)
 have k:=nX h a b;have p:=nX h (o.getD a 0) (o.getD b 0);have e:(fA (cF n a b) (cF n (o.getD a 0) (o.getD b 0))).length<=49:=by
  rw[ub];exact SF (show _<=7 by lia) (show _<=7 by lia)
 have f:jh 2 (gS (ak (nF 3 fM) (aa (ai 0) (aa (ai 1) (aa (ai 2) (aj)))))) (gN 4) (cj) (gS (ai 3)) (gN 5) (cj) (cu (aa (ai 4) (aa (ai 5) (aj)))) [.v (ax o),.v (nI a),.v (nI b),.v (.lst ((cF n (o.getD a 0) (o.getD b 0)).map nI))]=some (.lst ((fA (cF n a b) (cF n (o.getD a 0) (o.getD b 0))).map cZ)):=by
  refine p8 (ds:=(cF n a b).map nI) (Ac ((aN (ds:=[ax o,nI a,nI b]) rfl rfl).trans (uv c h (by lia) a b))) ?_ (by rw[Pp];lia)
  refine(dB (h:=nI) (q:=λ_=>true) (o:=λ(x:Nat)=>(cF n (o.getD a 0) (o.getD b 0)).map λ(y:Nat)=>D.tup [nI x,nI y]) (cF n a b) λx r=>⟨_,rfl,rfl,λ_=>?_⟩).trans ?_
  ·refine oJ (ds:=(cF n (o.getD a 0) (o.getD b 0)).map nI) rfl ?_
   refine(dB (h:=nI) (q:=λ_=>true) (o:=λ(y:Nat)=>[D.tup [nI x,nI y]]) (cF n (o.getD a 0) (o.getD b 0)) λy s=>⟨_,rfl,rfl,λ_=>ln (bS rfl (by simp))⟩).trans ?_
   rw[QN.mpr (λ_ _=>rfl)];congr 1
   induction (cF n (o.getD a 0) (o.getD b 0)) with
   |nil=>rfl
   |cons y l i=>rw[Qj,i];rfl
  ·rw[QN.mpr (λ_ _=>rfl)];unfold fA;rw[R7];congr 2;funext x;rw[PM];rfl
 refine a7 ?_
 rw[bP (am f rfl),IK (by lia) (F8 _ _),zW h d g];unfold zO;rw[c]
def bA(o:List Nat)(a b:Nat):List Nat:=(o.set a (o.getD b 0)).set b (o.getD a 0)
theorem An {n:Nat}{o:List Nat}(d:o.length=n)(c:a<n)(e:b<n):gH [ax o,nI a,nI b]=some (ax (bA o a b)):=by
 apply bj (kd:=.s) (n:=4) (t:=dU);unfold dU;refine(ay (ρ':=[.v (ax o),.v (nI a),.v (nI b),.own (o.map nI)]) ((k6 (ds:=o.map nI) rfl).trans rfl)).trans ?_
 refine(ay (ρ':=[.v (ax o),.v (nI a),.v (nI b),.own ((bA o a b).map nI)]) (dW (fU (bS (am ((aA (x:=ax o) (y:=nI b) rfl rfl).trans (gj (by lia))) (am ((aA (x:=ax o) (y:=nI a) rfl rfl).trans (gj (by lia))) rfl)) (by simp))) ?_)).trans (a7 rfl);simp only[gT,P1,T0,cS];rw[nP (bs:=o.map nI) (j:=a) rfl rfl (by simp;lia)];simp only[Pt];rw[nP (bs:=(o.map nI).set a (nI (o.getD b 0))) (j:=b) rfl rfl (by simp;lia)];simp only[Pt,gX,qE];rfl
theorem oM {n:Nat}{o:List Nat}(d:o.length=n)(c:a<n)(e:b<n):tY [ax o,nI a,nI b]=some (ax (bA o a b)):=by
 apply bj (kd:=.s) (n:=3) (t:=oH);unfold oH;exact a7 ((aN (ds:=[ax o,nI a,nI b]) rfl rfl).trans (An d c e))
theorem Ol(l:List Nat):mz (l.map nI) (some 1) none=(l.drop 1).map nI:=by
 unfold mz;rw[HT.sIx_none,show(some (1:Int))=some ((1:Nat):Int) from rfl,HT.sIx_nat];cases l with
 |nil=>rfl
 |cons x r=>
  rw[Pp,show min 1 (x::r).length=1 by simp,Pu,TN,Ut,TN,Ut];rw[Rx (by simp)]
def bH(o:List Nat)(a b:Nat):Bool:= !((cF o.length a b).drop 1).any λx=>decide (o.getD x 0∈(cF o.length (o.getD a 0) (o.getD b 0)).drop 1)
theorem AC {n:Nat}{o:List Nat}(c:o.length=n)(h:0<n)(d:n<=900)(m:a<n)(p:b<n):qQ [ax o,nI a,nI b]=some (.bl (bH o a b)):=by
 apply bj (kd:=.s) (n:=5) (t:=mr);unfold mr;have g: ∀(l:List Nat) (f:FE) (ρ:aG),f ρ=some (.lst (l.map nI))->fx f (j5 (aC (.int 1))) og ρ=some (.lst ((l.drop 1).map nI)):=λl f ρ e=>by
  unfold fx;rw[e];show some (D.lst (mz (l.map nI) (some 1) none))=_;rw[Ol]
 refine(ay (ρ':=[.v (ax o),.v (nI a),.v (nI b),.v (.lst (((cF n a b).drop 1).map nI)),.no]) ((bh (g _ _ _ ((aN (ds:=[ax o,nI a,nI b]) rfl rfl).trans (uv c h d a b)))).trans rfl)).trans ?_
 refine(ay (ρ':=[.v (ax o),.v (nI a),.v (nI b),.v (.lst (((cF n a b).drop 1).map nI)),.v (.lst (((cF n (o.getD a 0) (o.getD b 0)).drop 1).map nI))]) ((bh (g _ _ _ ((aN (ds:=[ax o,nI a,nI b]) rfl rfl).trans (vR c h d m p)))).trans rfl)).trans ?_
 refine a7 (qN ?_);unfold bH;rw[c];refine kL (b6 ?_);have q:=nX h a b;rw[bP (am (eS (ds:=((cF n a b).drop 1).map nI) (ys:=(((cF n a b).drop 1).map λx=>decide (o.getD x 0∈(cF n (o.getD a 0) (o.getD b 0)).drop 1)).map D.bl) rfl (by simp;lia) ?_) rfl),p6,Vd]
 ·rfl
 ·rw[PM];refine gx (h:=nI) _ λx k=>⟨_,rfl,?_⟩
  have j:x<n:=by
   have:=W0 k;unfold cF at this;obtain⟨i,_,rfl⟩:=PU.mp this;exact RT _ h
  refine(aA ((aA (x:=ax o) (y:=nI x) rfl rfl).trans (gj (by lia))) (y:=.lst (((cF n (o.getD a 0) (o.getD b 0)).drop 1).map nI)) rfl).trans ?_
  rw[Nw];rfl
theorem ES(h:0<n)(f:s<n)(i:e<n)(g:s≠e): ∃r,cF n s e=s::r:=by
 unfold cF;have m:=pS ((e:Int) -s) h;have b:0<(((e:Int) -s) % n).toNat:=by
  have:((e:Int) -s) % n≠0:=λz=>by
   have:=Int.emod_emod_of_dvd;have d:=Wh z;obtain⟨q,j⟩:=d;have:q=0:=by
    rcases Yr q 0 with a|a|a
    ·have:(n:Int)*q<=n*(-1):=Se (by lia) (by lia);lia
    ·exact a
    ·have:(n:Int)*1<=n*q:=Se (by lia) (by lia);lia
   subst this;lia
  lia
 obtain⟨k,c⟩: ∃k,(((e:Int) -s) % n).toNat=k+1:=⟨_,(Nat.succ_pred_eq_of_pos b).symm⟩
 rw[c,Th,Pu,U9,R8 f];exact⟨_,rfl⟩
theorem nH(h:0<n)(f:s<n)(i:e<n)(l:s≠e)(x:Nat):x∈(cF n s e).drop 1↔x<n/\bv n s e x=true/\x≠s:=by
 obtain⟨r,j⟩:=ES h f i l;have d:=ua h s e;have a:=jt h f e x;rw[j] at d a⊢;rw[TN,Ut];obtain⟨k,o⟩:=RD.mp d;rw[PX] at a;constructor
 ·intro g;obtain⟨b,c⟩:=a.mp (.inr g);exact⟨b,c,λz=>k (z▸g)⟩
 ·rintro⟨b,c,m⟩;exact(a.mpr ⟨b,c⟩).resolve_left m
theorem j9 {α β:Type}(f:α->β): ∀l:List α,l.flatMap (λc=>[f c])=l.map f
 | []=>rfl
 |a::l=>by rw[Qj,j9 f l];rfl
theorem Ee: ∀k:List Int,cO (k.map D.int)=0
 | []=>by simp[cO]
 |a::k=>by rw[Pu];unfold cO;rw[Ee k];simp[fw]
theorem Hz(k:List Int):fw (cZ k)=1:=by unfold cZ fw;rw[Ee]
theorem uM: ∀ks:List (List Int),cO (ks.map cZ)<=1
 | []=>by simp[cO]
 |k::ks=>by
  rw[Pu];unfold cO;have:=uM ks;rw[Hz];lia
theorem MT(ks:List (List Int)):fw (.lst (ks.map cZ))<=32:=by unfold fw;have:=uM ks;lia
theorem Fc: ∀k l:List Int,de (k.map D.int) (l.map D.int)=decide (k=l)
 | [],[]=>by simp[de]
 | [],_::_=>by simp[de]
 |_::_,[]=>by simp[de]
 |a::k,b::l=>by
  rw[Pu,Pu];unfold de;rw[Fc k l,jx,Qd];simp
theorem BB(k l:List Int):dg (cZ k) (cZ l)=decide (k=l):=by
 unfold cZ dg;exact Fc k l
theorem LW(K:List (List Int))(k:List Int):(K.map cZ).any (λd=>dg d (cZ k))=decide (k∈K):=by
 induction K with
 |nil=>simp
 |cons a K b=>
  rw[Pu,Sw,b,BB,Qd];simp only[Ra,lb,PX];exact or_congr_left eq_comm
theorem O3(K:List (List Int))(k:List Int):jk false (cZ k) (.lst (K.map cZ))=some (.bl (decide (k∈K))):=by
 unfold jk lZ;dsimp only;have:=uM K;rw[if_pos (by lia),LW];rfl
theorem Ord.get{o:List Nat}(O:Ord n o){i:Nat}(h:i<n):o.getD i 0<n:=by
 have a:=O.len;have:o.getD i 0=o[i]'(by lia):=by simp[Qr,a,h]
 rw[this];exact O.lt (S7 _)
theorem Ord.inj{o:List Nat}(O:Ord n o)(b:i<n)(a:j<n)(e:o.getD i 0=o.getD j 0):i=j:=JE O.nd (by rw[O.len];exact b) (by rw[O.len];exact a) e
theorem kx{o:List Nat}(O:Ord n o)(d:a<n)(e:b<n)(g:a≠b):bH o a b=true↔ ∀x,x<n-> ¬(bv n a b x=true/\x≠a/\bv n (o.getD a 0) (o.getD b 0) (o.getD x 0)=true/\o.getD x 0≠o.getD a 0):=by
 have h:0<n:=by lia
 have c:o.getD a 0≠o.getD b 0:=λz=>g (O.inj d e z)
 unfold bH;rw[O.len];simp only[QZ,Tz,lb];constructor
 ·intro H x f ⟨m,p,r,j⟩;exact H x ((nH h d e g x).mpr ⟨f,m,p⟩) ((nH h (O.get d) (O.get e) c _).mpr ⟨O.get f,r,j⟩)
 ·intro H x f s;obtain⟨q,k,l⟩:=(nH h d e g x).mp f;obtain⟨u,t,i⟩:=(nH h (O.get d) (O.get e) c _).mp s;exact H x q ⟨k,l,t,i⟩
def se(r x o:List Nat)(a b:Nat):Bool:= !(sP o.length a b).any λc=>decide (r.getD c 0∈sP o.length (o.getD a 0) (o.getD b 0))||decide (x.getD c 0∈sP o.length (o.getD a 0) (o.getD b 0))
theorem OF(y p q:Nat):jk false (nI y) (.tup [nI p,nI q])=some (.bl (decide (y=p\/y=q))):=by
 unfold jk lZ;dsimp only;rw[show cO [nI p,nI q]=0 from j7 [p,q],if_pos (by lia)];have:=Ez [p,q] y;simp only[Pu,SQ] at this;simp only[PH,if_false];rw[this];congr 2;simp
theorem FJ{r x o:List Nat}(O:Ord n o)(B:r.length=n)(C:x.length=n)(h:0<n)(l:n<=8)(A:a<n)(w:b<n):pG [cH r x,ax o,nI a,nI b]=some (.bl (se r x o a b)):=by
 have j:=O.len;have m: ∀s e,(sP n s e).length<=8:=λs e=>by unfold sP;exact Qh (Q2 _ _) (by simpa using l)
 have k:(zO o a b).length<=64:=by
  unfold zO;rw[ub,j];exact SF (m a b) (m (o.getD a 0) (o.getD b 0))
 apply bj (kd:=.s) (n:=7) (t:=kv);unfold kv;refine(ay (ρ':=[.v (cH r x),.v (ax o),.v (nI a),.v (nI b),.v (ax r),.v (ax x),.no]) (dW (fU rfl) rfl)).trans ?_
 let P:List Nat×Nat->Bool:=λ_=>true
 have z:(zO o a b).map cZ=((sP n a b).flatMap λc=>(sP n (o.getD a 0) (o.getD b 0)).map λy=>(c,y)).map λp:Nat×Nat=>D.tup [nI p.1,nI p.2]:=by
  unfold zO fA;rw[R7,R7,j];congr 1;funext c;rw[PM,PM];rfl
 have q:cx 2 (gS (ak (nF 3 kh) (aa (ai 1) (aa (ai 2) (aa (ai 3) (aj)))))) (gT 2 (cS (gN 7) (cS (gN 8) (gX)))) (cj) (av (jk false) (ai 8) (cu (aa (av br (ai 4) (ai 7)) (aa (av br (ai 5) (ai 7)) (aj))))) [.v (cH r x),.v (ax o),.v (nI a),.v (nI b),.v (ax r),.v (ax x),.no]
  =some (.lst ((((sP n a b).flatMap λc=>(sP n (o.getD a 0) (o.getD b 0)).map λy=>(c,y)).map λp:Nat×Nat=>decide (p.2=r.getD p.1 0\/p.2=x.getD p.1 0)).map D.bl)):=by
  refine eS (ds:=(zO o a b).map cZ) (Ac ((aN (ds:=[ax o,nI a,nI b]) rfl rfl).trans (Fd O h l A w))) (by rw[Pp];lia) ?_
  rw[z,PM];refine gx (h:=λp:Nat×Nat=>D.tup [nI p.1,nI p.2]) _ λp g=>⟨_,rfl,?_⟩
  obtain⟨c,f,g⟩:=Rf.mp g;obtain⟨y,i,rfl⟩:=PU.mp g;have u:c<n:=(iV.mp f).1;refine(aA (x:=nI y) (y:=.tup [nI (r.getD c 0),nI (x.getD c 0)]) rfl (bS (am ((aA (x:=ax r) (y:=nI c) rfl rfl).trans (gj (by lia))) (am ((aA (x:=ax x) (y:=nI c) rfl rfl).trans (gj (by lia))) rfl)) (by simp))).trans ?_
  exact OF _ _ _
 refine(ay (ρ':=[.v (cH r x),.v (ax o),.v (nI a),.v (nI b),.v (ax r),.v (ax x),.v (.lst ((((sP n a b).flatMap λc=>(sP n (o.getD a 0) (o.getD b 0)).map λy=>(c,y)).map λp:Nat×Nat=>decide (p.2=r.getD p.1 0\/p.2=x.getD p.1 0)).map D.bl))]) ((bh q).trans rfl)).trans ?_
 refine a7 (qN ?_);unfold se;refine kL (b6 ?_);rw[bP (am (d:=.lst _) rfl rfl),p6,Vd,j];congr 2;rw[Qd];simp only[Wi,Rf,PU,Function.comp,id,lb,Ra];constructor
 ·rintro⟨p,⟨c,f,y,i,rfl⟩,h⟩;refine⟨c,f,?_⟩;rcases h with h|h
  ·left;have h:y=r.getD c 0:=h;rw[<-h];exact i
  ·right;have h:y=x.getD c 0:=h;rw[<-h];exact i
 ·rintro⟨c,f,h⟩;rcases h with h|h
  ·exact⟨(c,r.getD c 0),⟨c,f,_,h,rfl⟩,.inl rfl⟩
  ·exact⟨(c,x.getD c 0),⟨c,f,_,h,rfl⟩,.inr rfl⟩
def b8(r x o:List Nat)(a b:Nat):Bool:=bH o a b&&se r x o a b
theorem BZ{r x o:List Nat}(O:Ord n o)(f:r.length=n)(e:x.length=n)(h:0<n)(g:n<=8)(c:a<n)(d:b<n):rF [cH r x,ax o,nI a,nI b]=some (.bl (b8 r x o a b)):=by
 apply bj (kd:=.s) (n:=4) (t:=l6);unfold l6;refine a7 (qN (mN (a:=bH o a b) (b6 ((aN (ds:=[ax o,nI a,nI b]) rfl rfl).trans (AC O.len h (by lia) c d))) (λz=>b6 ((aN (ds:=[cH r x,ax o,nI a,nI b]) rfl rfl).trans ?_)) λz=>by unfold b8;rw[z];rfl));rw[FJ O f e h g c d];unfold b8;rw[z];rfl
abbrev yZ(o:List Nat)(a b:Nat):D:=.tup [nI a,nI b,ax (bA o a b)]
def FR(P:Nat->Nat->Bool)(o:List Nat):List D:=(Pi o.length).flatMap λa=>((Pi o.length).filter λb=>decide (a≠b)&&P a b).map λb=>yZ o a b
theorem EU{r x o:List Nat}(O:Ord n o)(j:r.length=n)(s:x.length=n)(h:0<n)(e:n<=8):sn [cH r x,ax o]=some (.lst (FR (b8 r x o) o)):=by
 have c:=O.len;apply bj (kd:=.n) (n:=3) (t:=iL);unfold iL;refine(ay (ρ':=[.v (cH r x),.v (ax o),.v (.lst ((Pi n).map nI))]) ((bh (Iy (n:=n) (by lia) _ _ (by rw[iU o _ _ rfl,c]))).trans rfl)).trans ?_
 refine a7 (p8 (ds:=(Pi n).map nI) rfl ?_ ?_)
 ·refine(dB (h:=nI) (q:=λ_=>true) (o:=λ(a:Nat)=>((Pi n).filter λb=>decide (a≠b)&&b8 r x o a b).map λb=>yZ o a b) (Pi n) λa g=>⟨_,rfl,rfl,λ_=>?_⟩).trans ?_
  ·rw[Pj] at g;refine oJ (ds:=(Pi n).map nI) rfl ?_
   refine(dB (h:=nI) (q:=λb=>decide (a≠b)&&b8 r x o a b) (o:=λ(b:Nat)=>[yZ o a b]) (Pi n) λb i=>⟨_,rfl,?_,λ_=>ln (bS (am rfl (am rfl (am ((aN (ds:=[ax o,nI a,nI b]) rfl rfl).trans (oM c g (by simpa using i))) rfl))) (by simp))⟩).trans ?_
   ·rw[Pj] at i;refine mN (a:=decide (a≠b)) (b6 ?_) (λz=>?_) (λz=>by rw[z];rfl)
    ·rw[aA (x:=nI a) (y:=nI b) rfl rfl,kf (by rw[fP];lia),jp];simp
    ·rw[z,Qn];exact gB ((aN (ds:=[cH r x,ax o,nI a,nI b]) rfl rfl).trans (BZ O j s h e g i))
   ·rw[j9]
  ·rw[QN.mpr (λ_ _=>rfl)];unfold FR;rw[c]
 ·have d: ∀(l:List Nat) (m:Nat) (f:Nat->List D),(∀a,(f a).length<=m)->(l.flatMap f).length<=l.length*m:=by
   intro l m f p
   induction l with
   |nil=>simp
   |cons a l u=>rw[Qj,P0,P1,VE,Xc];have:=p a;lia
  unfold FR;rw[c];have k:=d (Pi n) n (λa=>((Pi n).filter λb=>decide (a≠b)&&b8 r x o a b).map λb=>yZ o a b) (λa=>by rw[Pp];exact Qh (Q2 _ _) (by simp));rw[QJ] at k;have:n*n<=8*8:=SF e e;lia
section
variable {X:Cx}{c:Ct}{k:Kd}{pos:Pos}
def FK(i j:Nat)(b:FA):FS:=λρ=>match b ρ with
 |some [a,c]=>.nx ((ρ.set i (.v a)).set j (.v c))
 |_=>.no
theorem Jv(i j:Nat){a b:Expr}{kt k2 pt2}(s:X.calm=true)(p:X.N.Nodup)(B:DA X c [a,b] fs)(m:X.N[i]? =some x:=by rfl)(r:X.N[j]? =some y:=by rfl)(f:i≠j:=by decide)
 (z:X.env.scope.names.lookup x=some .local:=by rfl) (A:X.env.scope.names.lookup y=some .local:=by rfl)
 (hw:UQ [.Tuple [.Name x px,.Name y py] kt pt] (.Tuple [a,b] k2 pt2) X.env=pure (some [x,y]):=by rfl)
 (v:UP [.Tuple [.Name x px,.Name y py] kt pt] (.Tuple [a,b] k2 pt2) pos.line X.env=pure false:=by rfl):
 DS X c k (.Assign [.Tuple [.Name x px,.Name y py] kt pt] (.Tuple [a,b] k2 pt2) pos) (FK i j fs):=λρ=>
 PS.imp (KU s p m r f z A (L5 λhid=>B hid ρ) hw v) λD σ H e=>by
  obtain⟨hid,h,q⟩:=e;unfold FK at q;cases d:fs ρ with
  |none=>rw[d] at q;exact q.elim
  |some ds=>
   rw[d] at q
   match ds,d,q with
   | [],_,q=>exact q.elim
   | [_],_,q=>exact q.elim
   |_::_::_::_,_,q=>exact q.elim
   | [w,u],d,q=>
     refine⟨hid,h,[w,u],d,λvs n l g=>?_⟩;cases g with
     |cons g t=>
      cases t with
      |cons o t=>
       cases t;exact⟨_,_,rfl,q _ n hid (((h.ext l).setV g i).setV o j) (aW l)⟩
theorem KJ{ρ:aG}(h:fs ρ=some [d1,d2]):FK i j fs ρ=.nx ((ρ.set i (.v d1)).set j (.v d2)):=by unfold FK;rw[h]
end
open PySem PySem.W PySem.Spec PyProof.Rows
section
variable {X:Cx}{c:Ct}{a b e:Expr}{f g:FE}{pos p p2 p3:Pos}{k:Kd}
def Jc(K:Pz):R2:=λx y H Q=> ∃l b xs zs,x=.ref l/\y=.ref b/\SqL K H l xs/\SqL K H b zs/\xs.length+zs.length<=P4/\ ∀p,H p=none->Q (.ref p) (b9 H p (.lst (xs++zs)))
theorem Gk:lG X (TU .Add) (Jc X.K):=by
 intro P s σ H x y v u Q I A L h;obtain⟨l,b,xs,zs,rfl,rfl,N,G,W,q⟩:=h;cases A;cases L;obtain⟨c,r,⟨o,n,e,k,t,g⟩,O⟩:=I.list N;obtain⟨a,j,⟨B,C,f,p,m,i⟩,R⟩:=I.list G;obtain⟨S,V,T,D⟩:=o;obtain⟨w,J,E,d⟩:=B;dsimp only at k t g p m i;subst k t g p m i;have U:=r.length;have z:=j.length;refine concat_meets ⟨_,e,rfl⟩ ⟨_,f,rfl⟩ noFill_list_add seq_list_add PySem.F.slot_list_add PySem.F.entry_list_add (PySem.F.args_list_add_2 _ _) (list_addW l b c.toArray a.toArray n C none none D d (by rw[PZ,PZ];lia)) ⟨e,f,?_⟩;have M:c.toArray++a.toArray=(c++a).toArray:=by simp
 rw[M];exact⟨.ref _,_,I.lnew (t':=s.toks) (r.append j) (by rw[P0];lia),rfl,q _ I.fresh⟩
def gI:D->D->Option D
 | .lst xs,.lst ys=>if xs.length+ys.length<=P4 then some (.lst (xs++ys)) else none
 |_,_=>none
theorem Ik {K:Pz}:pK K .n (Jc K) gI:=by
 intro H hid v u x y d Q m h l i q;unfold gI at h;split at h
 ·split at h
  ·rename_i k
   cases h;obtain⟨a,xs,rfl,j,e⟩:=l.lst;obtain⟨b,ys,rfl,g,c⟩:=i.lst;exact⟨a,b,xs,ys,rfl,rfl,j,g,by rw[e.length,c.length];exact k,λp f=>q _ _ (aT f _) (f8 f (a6.refl _) (e.append c))⟩
  ·cases h
 ·cases h
theorem m9(d:DP X c k1 a f)(e:DP X c k2 b g):DP X c .n (.BinOp a .Add b pos) (av gI f g):=rq Gk Ik d e
end
section
variable {X:Cx}{c:Ct}{k:Kd}{e:Expr}{f:FE}{x:Str}{pos pos':Pos}
def Er(F:D->D->Option D)(i:Nat)(f:FE):FS:=λρ=>match ai i ρ with
 |some x=>(match f ρ with
  |some y=>(match F x y with
   |some z=>.nx (ρ.set i (.v z))
   |none=>.no)
  |none=>.no)
 |none=>.no
theorem Cp(i:Nat)(h:X.N.Nodup)(n:DP X c .s e f)(A:Nr X .Add (Ox λi j=>i+j))(l:X.N[i]? =some x:=by rfl)(z:EX X.env.scope x:=by first|exact RA rfl|exact Q1 rfl)(y:X.fn x=true\/X.env.scope.names.lookup x=some .local:=by first|exact .inl rfl|exact .inr rfl|assumption):
 DS X c k (.AugAssign (.Name x pos') .Add e pos) (Er bL i f):=λρ=>PS.imp (KZ h l z (vC λhid=>n hid ρ) A y) λD σ H a=>by
 obtain⟨hid,b,q⟩:=a;unfold Er at q;cases e1:ai i ρ with
 |none=>rw[e1] at q;exact q.elim
 |some w=>
  rw[e1] at q;dsimp only at q;cases e2:f ρ with
  |none=>rw[e2] at q;exact q.elim
  |some p=>
   rw[e2] at q;dsimp only at q;cases e3:bL w p with
   |none=>rw[e3] at q;exact q.elim
   |some B=>
    rw[e3] at q;obtain⟨d,m,rfl,rfl,_,rfl⟩:=p9 e3;unfold ai at e1;split at e1
    ·rename_i d' o
     cases e1;obtain⟨C,t,u⟩:=b.sl i _ o;cases u;refine⟨_,t,hid,b,_,e2,λv g s' r=>?_⟩;cases r;exact⟨d,m,rfl,rfl,q _ g hid ((b.ext s').setV .int i) (aW s')⟩
    ·cases e1
end
section
variable {X:Cx}{c:Ct}{e:Expr}{es:List Expr}{k:Kd}{pos p:Pos}{x:Str}{ps:List Str}{j n:Nat}
def dw(f:FE):FA:=λρ=>(f ρ).bind λd=>match d with
 | .lst ds=>some ds
 | .tup ds=>some ds
 |_=>none
theorem da {j a:Expr}(h:DP X c .s a f):DIp X c j a (dw f):=λhid ρ i s σ H R I e=>by
 obtain⟨g,ds,b,q⟩:=e;unfold dw at b;cases e2:f ρ with
 |none=>rw[e2] at b;cases b
 |some d=>
  rw[e2,Pt] at b;cases d with
  |lst xs=>cases b;exact eX h hid ρ i s σ H R I ⟨g,ds,by unfold gS;rw[e2];rfl,q⟩
  |tup xs=>cases b;exact BA h hid ρ i s σ H R I ⟨g,ds,by unfold xt;rw[e2];rfl,q⟩
  |_=>cases b
end
theorem rZ{x1}:PP (.Tuple es x1 pos::rest) env=(false,eval (.Tuple es x1 pos) env)::PP rest env:=by rfl
@[elab_as_elim] theorem ar0 {motive:List Pk->Prop} (us:List Pk) (b:us.length=0) (h:motive []):motive us:=by
 cases us with
 |nil=>exact h
 |cons a r=>exact absurd b (Nat.succ_ne_zero _)
@[elab_as_elim] theorem ar1 {motive:List Pk->Prop} (us:List Pk) (b:us.length=1) (h: ∀a,motive [a]):motive us:=by
 cases us with
 |nil=>exact absurd b (by decide)
 |cons a r=>exact ar0 (motive:=λr=>motive (a::r)) r (Uu b) (h a)
@[elab_as_elim] theorem ar2 {motive:List Pk->Prop} (us:List Pk) (b:us.length=2) (h: ∀a c,motive [a,c]):motive us:=by
 cases us with
 |nil=>exact absurd b (by decide)
 |cons a r=>exact ar1 (motive:=λr=>motive (a::r)) r (Uu b) (h a)
@[elab_as_elim] theorem ar3 {motive:List Pk->Prop} (us:List Pk) (b:us.length=3) (h: ∀a d c,motive [a,d,c]):motive us:=by
 cases us with
 |nil=>exact absurd b (by decide)
 |cons a r=>exact ar2 (motive:=λr=>motive (a::r)) r (Uu b) (h a)
@[elab_as_elim] theorem ar4 {motive:List Pk->Prop} (us:List Pk) (b:us.length=4) (h: ∀a e d c,motive [a,e,d,c]):motive us:=by
 cases us with
 |nil=>exact absurd b (by decide)
 |cons a r=>exact ar3 (motive:=λr=>motive (a::r)) r (Uu b) (h a)
@[elab_as_elim] theorem ar5 {motive:List Pk->Prop} (us:List Pk) (b:us.length=5) (h: ∀a f d c e,motive [a,f,d,c,e]):motive us:=by
 cases us with
 |nil=>exact absurd b (by decide)
 |cons a r=>exact ar4 (motive:=λr=>motive (a::r)) r (Uu b) (h a)
@[elab_as_elim] theorem ar6 {motive:List Pk->Prop} (us:List Pk) (b:us.length=6) (h: ∀a g d c f e,motive [a,g,d,c,f,e]):motive us:=by
 cases us with
 |nil=>exact absurd b (by decide)
 |cons a r=>exact ar5 (motive:=λr=>motive (a::r)) r (Uu b) (h a)
@[irreducible] def QS (X:Cx) (c:Ct) (k:Kd) (st:Stmt) (t:FS):Prop:=DS X c k st t
@[irreducible] def QSs (X:Cx) (c:Ct) (k:Kd) (st:List Stmt) (t:FS):Prop:=Ag X c k st t
section
variable {X:Cx}{c:Ct}{k:Kd}{e a b:Expr}{es:List Expr}{f g:FE}{fs:FA}{pos pos':Pos}{st:Stmt}{rest:List Stmt}{t u:FS}{x:Str}
theorem QS.of(h:DS X c k st t):QS X c k st t:=by unfold QS;exact h
theorem QS.ds(h:QS X c k st t):DS X c k st t:=by unfold QS at h;exact h
theorem QSs.to(h:QSs X c k rest t):Ag X c k rest t:=by unfold QSs at h;exact h
theorem gC(a:QS X c k st t)(b:QSs X c k rest u):QSs X c k (st::rest) (aB t u):=by unfold QSs;exact ao a.ds b.to
theorem Bn(h:QS X c k st t):QSs X c k [st] t:=by unfold QSs;exact az h.ds
end
end L2
namespace PySem
open Sem (wp)
end PySem
namespace L2
open PySem PySem.Spec PyProof.Rows
end L2
namespace PySem
section
variable {prog:Qp}{w:QD}{A:Qq}{E:Pk->Pn->Prop}{s:Pn}
theorem tN {g g':Heap}(t:g.IsList l us)(k: ∀o,g.get? l=some o->g'.get? l=some o):g'.IsList l us:=t.at k
theorem Bu{us:Array Pk}(f:l≠it): ∀(n i:Nat) (s:Pn) (Q:List Pk->Pn->Prop),s.heap.IsListIter it l i->s.heap.IsList l us->i+n<=us.size->
 (∀g,g.IsListIter it l (i+n)->Qz it s.heap g->Q ((us.toList.drop i).take n) {s with heap:=g})->PJ (model prog w) A (draw (.ref it) n) Q E s
 |0,i,s,Q,a,_,_,q=>by
  show PJ _ _ (pure []) Q E s;exact Pl (by simpa using q s.heap a (SU ..))
 |n+1,i,s,Q,a,h,m,q=>by
  have lt:i<us.size:=by lia
  show PJ _ _ (TL (.ref it)>>=_) Q E s;refine Ph (Wx a h (x:=us[i]) (by simp[lt]) λg c b=>Ph (Qt (Bu f n (i+1) _ _ c (tN h λo e=>b.extBut _ _ f e) (by lia) λk d j=>Pl ?_)));have e:us.toList.drop i=us[i]::us.toList.drop (i+1):=by simp[Ry,lt]
  have:=q k (by rw[show i+(n+1)=i+1+n by lia];exact d) (b.trans j);rw[e,U6] at this;exact this
theorem l2_unpackL{us:Array Pk}{d:List (Bool×(Pk->Sem Unit))}(p:A.handled=none)(a:s.heap.IsList l us)(k:d.length=us.size)(m:d.findIdx? (·.1)=none)
 (h: ∀g,VQ s.heap.objs.size s.heap g->PJ (model prog w) A (VX (d.map (·.2)) us.toList) Q E {s with heap:=g}):PJ (model prog w) A (unpack (.ref l) d) Q E s:=by
 have j:l≠s.heap.objs.size:=by obtain⟨o,r,_⟩:=a;exact P6 (PB r)
 unfold unpack;rw[k,m];refine Ph (Qt ?_);unfold unpackItems;refine Ph ?_
 unfold notIterableAtAll;refine Ph (UX a.typeIs F.slot_list_iter.lookup (Pl ?_));simp only[PH,if_false];refine Ph (Qt (Ul a ?_));refine Ph (Qt (Bu j us.size 0 _ _ ⟨_,PD _ rfl,rfl,rfl⟩ (a.push _) (by lia) λg q b=>?_));have f:List.take us.size (List.drop 0 us.toList)=us.toList:=by rw[Ut];exact Rx (by simp)
 rw[f,if_neg (by simp)];refine Ph (Qt (WQ p q (tN (a.push _) λo e=>b.extBut _ _ j e) (by simp) λt n=>?_));simp only[Option.isSome_none,PH,if_false];exact Pl (h t λc o i e=>n c o i (b.extBut c o i (Po _ e)))
end
end PySem
namespace L2
open PySem PySem.Spec PyProof.Rows
section
variable {X:Cx}{c:Ct}{es:List Expr}{pos:Pos}
def NN(K:Pz)(n:Nat)(t:Cc):TG:=λv σ H Q=> ∃a xs,v=.ref a/\SqL K H a xs/\xs.length=n/\t xs σ H Q
theorem Jk(x:X.calm=true)(h:PGs X es t)(m:(Rn es X.env).length=n:=by rfl)(c:(Rn es X.env).findIdx? (·.1)=none:=by rfl):PG X (.Tuple es k pos) (NN X.K n t):=by
 intro d s σ H v u Q I r hw;obtain⟨a,xs,p,j,w,hw⟩:=hw;subst p;cases r;obtain⟨q,f,i,z⟩:=I.list j;rw[assign_Tuple];refine Ph (RP (PySem.l2_unpackL (I.ok.hd x) i.isList (by simp[m,<-w,f.length]) c λg y=>?_));have l:Inv X d σ H {s with heap:=g}:=I.kept (t':=s.toks) λb o e=>y b o (P6 (PB e)) e
 exact h d _ σ H xs _ Q l (by simpa using f) hw
def gL(n:Nat)(a:tf):FG:=λd ρ=>match d with
 | .lst ds=>if ds.length=n then a ds ρ else none
 |_=>none
theorem AY{i n:Nat}(j:X.calm=true)(h:MM X c es gs)(l:(Rn es X.env).length=n:=by rfl)(f:(Rn es X.env).findIdx? (·.1)=none:=by rfl):uk X c (.Tuple es i pos) (gL n gs):=λhid ρ d=>
 PG.imp (Jk j (v3 λds=>h hid ρ ds) l f) λv σ H Q a=>by
  obtain⟨k,r,ρ',e,q⟩:=a;unfold gL at e;split at e
  ·split at e
   ·cases r with
    |lst b g=>have b:=SqL.of (K:=X.K) b;exact⟨_,_,rfl,(dD _ _).seq b,by rw[g.length];assumption,_,k,g,ρ',e,q⟩
   ·cases e
  ·cases e
end
section
variable {K:Pz}{c:Ct}{hid:bN}{ρ:aG}{σ:St}{H:Hp}{a:Addr}
theorem SR.setD {b:Ob}(h:SR K c hid ρ σ H)(u:iv K c hid H a b)(no: ∀i:Nat,Ow ρ[i]? ->σ[i]? ≠some (some (.ref a)))(i:Nat):
 SR K c hid (ρ.set i (.ob b)) (σ.set i (some (.ref a))) H:=by
 refine⟨h.tr,h.ht,h.h0,h.kp,h.t0,h.c0,h.m0,by simp[h.len],λj s q=>?_,λj l z n r o m f=>?_⟩
 ·by_cases e:j=i
  ·subst e;have lt:j<ρ.length:=by
    have:=(PL.mp q).1;simpa using this
   rw[P7 lt] at q;cases q;exact⟨a,P7 (by rw[h.len];exact lt),u⟩
  ·rw[PY (QA e)] at q;have w:=h.sl j s q;have es:(σ.set i (some (V.ref a)))[j]? =σ[j]? :=PY (QA e);cases s with
   |no=>trivial
   |v d=>obtain⟨x,g,k⟩:=w;exact⟨x,es.trans g,k⟩
   |own ds=>obtain⟨a,xs,g,k⟩:=w;exact⟨a,xs,es.trans g,k⟩
   |arg ds=>obtain⟨a,xs,g,k⟩:=w;exact⟨a,xs,es.trans g,k⟩
   |ob b=>obtain⟨a,g,k⟩:=w;exact⟨a,es.trans g,k⟩
 ·by_cases t:j=i
  ·subst t;have p:l≠j:=λe=>n e.symm
   rw[PY (QA p)] at o f
   by_cases lt:j<σ.length
   ·rw[P7 lt] at m;cases m;exact no l o f
   ·rw[QH (by simpa using lt)] at m;cases m
  ·rw[PY (QA t)] at r m
   by_cases p:l=i
   ·subst p
    by_cases lt:l<σ.length
    ·rw[P7 lt] at f;cases f;exact no j r m
    ·rw[QH (by simpa using lt)] at f;cases f
   ·rw[PY (QA p)] at o f;exact h.ap j l z n r o m f
theorem iv.kind(h:iv K c hid H a b)(o:uc b): ∃u,H a=some u/\ ∀p v,u≠ .nst p v:=by
 cases b with
 |nst us=>obtain⟨_,_,e,_⟩:=h;exact⟨_,e,nofun⟩
 |dQ f=>exact o.elim
 |frs d=>exact o.elim
 |dR f=>exact o.elim
 |dRs l=>exact o.elim
 |exc x n=>exact o.elim
 |dK f=>obtain⟨_,_,e,_⟩:=h;exact⟨_,e,nofun⟩
 |dT f=>obtain⟨_,_,e,_⟩:=h;exact⟨_,e,nofun⟩
 |set ds=>obtain⟨_,_,e,_⟩:=h;exact⟨_,e,nofun⟩
 |old d=>exact o.elim
 |jnk=>obtain⟨_,_,e⟩:=h;exact⟨_,e,nofun⟩
 |tset ks=>obtain⟨_,_,e,_⟩:=h;exact⟨_,e,nofun⟩
 |dF f=>obtain⟨_,_,_,e,_⟩:=h;exact⟨_,e,nofun⟩
theorem SR.putO(h:SR K c hid ρ σ H)(N:ρ[i]? =some (.ob b))(F:uc b)(ST:uc b')(T:σ[i]? =some (some (.ref a)))(Z:At H a x)(g:hid x=true)(A:c.H₀ x=none)
 (nt: ∀xs,o'≠ .tup xs) (O:iv K c hid (b9 H x o') a b'):SR K c hid (ρ.set i (.ob b')) σ (b9 H x o'):=by
 have lt:i<ρ.length:=(PL.mp N).1;have J:vw (b9 H x o') hid=vw H hid:=fZ g;have D: ∀b o,H b=some o-> ∃r,(b9 H x o') b=some r:=λb o q=>by
  by_cases e:b=x
  ·subst e;exact⟨_,aV⟩
  ·exact⟨o,by rw[aQ e];exact q⟩
 have I:Ow ρ[i]? :=by rw[N];exact F
 obtain⟨a2,B,Y⟩:=h.sl i _ N;rw[T] at B;cases B;obtain⟨w,X,W⟩:=Y.kind F;have Q: ∀(j:Nat) (s:Sl) (f y:Addr) (C:HO),j≠i->ρ[j]? =some s->Ow (some s)->σ[j]? =some (some (.ref f))->H f=some C->(∀p v,C≠ .nst p v)->At H f y->y≠x:=λj s f y C n e o q hw P L=>by
  have V:f≠a:=λz=>by subst z;exact h.ap j i f n (by rw[e];exact o) I q T
  rcases Z with rfl|⟨u,U⟩
  ·exact L.ne V X W
  ·intro z;subst z;rcases L with rfl|⟨u',E⟩
   ·rw[hw] at U;exact P _ _ (Qu U)
   ·rw[U] at E;cases E;exact V rfl
 have G: ∀j:Nat,Ow (ρ.set i (.ob b'))[j]? ->Ow ρ[j]? :=λj o=>by
  by_cases e:j=i
  ·subst e;exact I
  ·rw[PY (QA e)] at o;exact o
 refine⟨λb R=>let⟨o,q⟩:=h.tr b R;D b o q,λb xs R q=>by
  by_cases e:b=x
  ·subst e;rw[aV] at q;exact nt xs (Qu q)
  ·rw[aQ e] at q;exact h.ht b xs R q,h.h0,λb o q m=>?_,λb o q=>let⟨r,q2⟩:=h.t0 b o q;D b r q2,h.c0,h.m0,by simp[h.len],λj s e=>?_,λj l z n o1 r=>h.ap j l z n (G j o1) (G l r)⟩
 ·rw[aQ (bF q A)];exact h.kp b o q m
 ·by_cases t:j=i
  ·subst t;rw[P7 lt] at e;cases e;exact⟨a,T,O⟩
  ·rw[PY (QA t)] at e;have z:=h.sl j s e;cases s with
   |no=>trivial
   |v d=>obtain⟨x,k,g⟩:=z;exact⟨x,k,by rw[J];exact g⟩
   |own ds=>obtain⟨f,xs,k,g,A,M,S⟩:=z;exact⟨f,xs,k,by rw[aQ (Q j _ f f _ t e trivial k g nofun (.inl rfl))];exact g,A,M,by rw[J];exact S⟩
   |arg ds=>obtain⟨f,xs,k,g,A,M,S⟩:=z;exact⟨f,xs,k,by rw[aQ (Q j _ f f _ t e trivial k g nofun (.inl rfl))];exact g,A,M,by rw[J];exact S⟩
   |ob b=>
    obtain⟨f,k,g⟩:=z
    exact⟨f,k,g.mono (λF y L o q=>by
     obtain⟨C,hw,P⟩:=g.kind F
     rw[aQ (Q j _ f y C t e F k hw P L)];exact q) (by rw[J];exact a6.refl _) λ_ _ _ q=>q⟩
end
open PySem PySem.W PySem.Spec PyProof.Rows
section
variable {prog:Qp}{w:QD}{A:Qq}{E:Pk->Pn->Prop}{s:Pn}
theorem z7(k:KdlSrc prog w T r d n P OK)(u:A.handled=none)(i:OK s.heap)(v:n<=P4)
 (q: ∀(g:Heap) (tk:Nat) (us:Array Pk),(∀b o,s.heap.get? b=some o->g.get? b=some o)->s.heap.objs.size<g.objs.size->ItemsOf P us n->R us.toList {s with heap:=g,toks:=tk}):PJ (model prog w) A (collect (.ref r)) R E s:=by
 obtain⟨rl,x⟩:=k.there _ i;unfold collect;refine Ph (W9 (RY WW ?_));rw[RL WX _];show PJ _ A.in1 (Xl []>>=λz=>W2 (.builtin "list.__iadd__" ⟨[z,.ref r],[]⟩)) _ _ s;refine Ph (Rh (Pl ⟨V2 Uq _,RY Yn ?_⟩));rw[RL Uq _];show PJ _ A.in1 (Vg (.ref s.heap.objs.size) (.ref r) (.ref s.heap.objs.size)) _ _ _;have j: ∀(g:Heap) (tk:Nat) (us:Array Pk) (m:Nat),(∀b o,s.heap.get? b=some o->g.get? b=some o)->g.get? s.heap.objs.size=some {cls:=.type "list",dict:=none,data:=.seq us m,slots:= #[]}->ItemsOf P us n->
  PJ (model prog w) A (do
   match (<-load s.heap.objs.size).data with
    |Data.seq xs _=>pure xs.toList
    |_=>RX "internal:collect") R E {s with heap:=g,toks:=tk}:=λg tk us m l a p=>Ph (ZC a (Pl (q g tk us l (PB a) p)))
 have ext:=kdl_extend (A:=A) (s:={s with heap:=s.heap.push {cls:=.type "list",data:=.seq ([]:List Pk).toArray}})
  (R:=λz t=> ∃(g:Heap) (tk:Nat) (us:Array Pk) (m:Nat),z=.ok (.ret (.ref s.heap.objs.size))/\t={s with heap:=g,toks:=tk}/\(∀b o,s.heap.get? b=some o->g.get? b=some o)/\g.get? s.heap.objs.size=some {cls:=.type "list",dict:=none,data:=.seq us m,slots:= #[]}/\ItemsOf P us n)
  k u (k.keep _ _ i λb _ o e=>Po _ e) s.heap.objs.size (RV rl) (RV x) (.ref s.heap.objs.size) 0 (PD _ rfl)
  (λg tk us m l a p=>⟨g,tk,us,m,rfl,rfl,λb o e=>l b o (P6 (PB e)) (Po _ e),a,p⟩) v
 refine Qv ext (λz t h=>?_) λz t h=>by obtain⟨_,_,_,_,e,_⟩:=h;cases e
 cases z with
 |done f=>obtain⟨g,tk,us,m,e,rfl,l,a,p⟩:=h;cases e;exact j g tk us m l a p
 |again c=>exact⟨h.1,Sq h.2 λz t' y=>by obtain⟨g,tk,us,m,rfl,rfl,l,a,p⟩:=y;exact j g tk us m l a p⟩
end
mutual
def LF:D->Bool
 | .lst _=>false
 | .tup ds=>Gx ds
 | .scr ds=>Gx ds
 |_=>true
def Gx:List D->Bool
 | []=>true
 |d::ds=>LF d&&Gx ds
end
theorem Ed {K:Pz}(h: ∀t,g' t=false->g t=true->yg (H t)=true)(s:SqT K (vw H g') a xs):SqT K (vw H g) a xs:=by
 rcases s with(s|⟨o,s⟩)|s
 ·obtain⟨c,b⟩:=bQ.mp s;refine .inl (.inl (bQ.mpr ⟨?_,b⟩));cases e:g a with
  |false=>rfl
  |true=>have:=h a c e;rw[b] at this;cases this
 ·obtain⟨c,b⟩:=bQ.mp s;refine .inl (.inr ⟨o,bQ.mpr ⟨?_,b⟩⟩);cases e:g a with
  |false=>rfl
  |true=>have:=h a c e;rw[b] at this;cases this
 ·exact .inr s
theorem E5 {K:Pz}(h: ∀t,g' t=false->g t=true->yg (H t)=true)(s:SqR K (vw H g') a xs):SqR K (vw H g) a xs:=by
 rcases s with⟨o,s⟩|s
 ·obtain⟨c,b⟩:=bQ.mp s;refine .inl ⟨o,bQ.mpr ⟨?_,b⟩⟩;cases e:g a with
  |false=>rfl
  |true=>have:=h a c e;rw[b] at this;cases this
 ·exact .inr s
mutual
theorem wk {K:Pz}(h: ∀t,g' t=false->g t=true->yg (H t)=true): ∀ {v:V} {d:D},Rep K (vw H g') v d->LF d=true->Rep K (vw H g) v d
 |_,_,.non,_=>.non
 |_,_,.bl,_=>.bl
 |_,_,.int,_=>.int
 |_,_,.str,_=>.str
 |_,_,.tup s r,l=>.tup (Ed h s) (iQ h r (by unfold LF at l;exact l))
 |_,_,.scr s r,l=>.scr (E5 h s) (iQ h r (by unfold LF at l;exact l))
 |_,_,.lst s r,l=>by unfold LF at l;cases l
theorem iQ {K:Pz}(h: ∀t,g' t=false->g t=true->yg (H t)=true): ∀ {v:List V} {d:List D},Reps K (vw H g') v d->Gx d=true->Reps K (vw H g) v d
 |_,_,.nil,_=>.nil
 |_,_,.cons r rs,l=>by
  unfold Gx at l;rw[Ps] at l;exact .cons (wk h r l.1) (iQ h rs l.2)
end
def z9:Sl->Sl->Option Sl
 | .no,_=>some .no
 | .v d,_=>some (.v d)
 | .own _,.own b=>if Gx b=true then some (.own b) else none
 | .arg _,.arg b=>if Gx b=true then some (.arg b) else none
 |_,_=>none
def lD:aG->aG->Option aG
 | [],_=>some []
 |s::r,s2::b=>(z9 s s2).bind λa=>(lD r b).map (a:: ·)
 |_::_,[]=>none
theorem wR: ∀ {ρ ρ2 a:aG},lD ρ ρ2=some a->a.length=ρ.length
 | [],_,_,h=>by cases h;rfl
 |s::r,[],_,h=>by cases h
 |s::r,s2::d,a,h=>by
  obtain⟨b,g,e⟩:=PR.mp (show(z9 s s2).bind (λb=>(lD r d).map (b:: ·))=some a from h);obtain⟨i,f,c⟩:=QR.mp e;subst c;simp[wR f]
theorem qd: ∀ {ρ ρ2 f:aG} {j:Nat} {g:Sl},lD ρ ρ2=some f->f[j]? =some g-> ∃s,ρ[j]? =some s/\(g=s/\(s=.no\/ ∃d,s=.v d)\/ ∃s2,ρ2[j]? =some s2/\g=s2/\((∃a b,s=.own a/\s2=.own b/\Gx b=true)\/ ∃a b,s=.arg a/\s2=.arg b/\Gx b=true))
 | [],_,_,_,_,h,e=>by cases h;simp at e
 |s::r,[],_,_,_,h,_=>by cases h
 |s::r,s2::n,f,j,x,h,e=>by
  obtain⟨g,c,o⟩:=PR.mp (show(z9 s s2).bind (λg=>(lD r n).map (g:: ·))=some f from h);obtain⟨p,m,i⟩:=QR.mp o;subst i;cases j with
  |zero=>
   have e:g=x:=by simpa using e
   subst e;refine⟨s,rfl,?_⟩;unfold z9 at c;split at c
   ·cases c;exact .inl ⟨rfl,.inl rfl⟩
   ·cases c;exact .inl ⟨rfl,.inr ⟨_,rfl⟩⟩
   ·split at c
    ·cases c;exact .inr ⟨_,rfl,rfl,.inl ⟨_,_,rfl,rfl, ‹_›⟩⟩
    ·cases c
   ·split at c
    ·cases c;exact .inr ⟨_,rfl,rfl,.inr ⟨_,_,rfl,rfl, ‹_›⟩⟩
    ·cases c
   ·cases c
  |succ j=>
   obtain⟨s',k,l⟩:=qd (j:=j) m (by simpa using e);exact⟨s',by simpa using k,by simpa using l⟩
section
variable {K:Pz}{c:Ct}{hid1 hid2 hidD:bN}{ρ ρ2 ρ3:aG}{σ σ2:St}{H H':Hp}
theorem rY(e:lD ρ ρ2=some ρ3){j:Nat}(o:Ow ρ3[j]?):Ow ρ[j]? /\Ow ρ2[j]? :=by
 cases z:ρ3[j]? with
 |none=>rw[z] at o;exact o.elim
 |some h=>
  rw[z] at o;obtain⟨s,f,g⟩:=qd e z;rcases g with⟨rfl,rfl|⟨d,rfl⟩⟩|⟨s2,c,rfl,⟨a,b,rfl,rfl,_⟩|⟨a,b,rfl,rfl,_⟩⟩
  ·exact o.elim
  ·exact o.elim
  ·exact⟨by rw[f];trivial,by rw[c];trivial⟩
  ·exact⟨by rw[f];trivial,by rw[c];trivial⟩
theorem SR.mix(h:SR K c hid1 ρ σ H)(w:a6 (vw H hid1) (vw H' hidD))(k:SR K c hid2 ρ2 σ2 H')(v:Li hidD H')(D: ∀b,c.hid₀ b=true->hidD b=true)(B: ∀b,hid2 b=true->hidD b=true)
 (y: ∀t,hid2 t=false->hidD t=true->yg (H' t)=true) (e:lD ρ ρ2=some ρ3) (A: ∀j:Nat,Ow ρ[j]? ->Ow ρ2[j]? ->σ2[j]? =σ[j]?):SR K c hidD ρ3 σ H':=by
 refine⟨v.1,v.2,D,k.kp,k.t0,h.c0,h.m0,by rw[wR e];exact h.len,λj G z=>?_,λi j a n F C=>h.ap i j a n (rY e F).1 (rY e C).1⟩;obtain⟨s,u,E⟩:=qd e z;rcases E with⟨rfl,rfl|⟨d,rfl⟩⟩|⟨s2,l,rfl,⟨a,b,rfl,rfl,p⟩|⟨a,b,rfl,rfl,p⟩⟩
 ·trivial
 ·obtain⟨x,f,g⟩:=h.sl j _ u;exact⟨x,f,g.mono w⟩
 ·obtain⟨q,xs,f,g,m,r,o⟩:=k.sl j _ l;rw[A j (by rw[u];trivial) (by rw[l];trivial)] at f;exact⟨q,xs,f,g,B _ m,r,iQ y o p⟩
 ·obtain⟨q,xs,f,g,m,r,o⟩:=k.sl j _ l;rw[A j (by rw[u];trivial) (by rw[l];trivial)] at f;exact⟨q,xs,f,g,B _ m,r,iQ y o p⟩
end
def dZ(g:FG)(p:FT)(f:GE):List D->aG->Option (List D×aG)
 | [],ρ=>some ([],ρ)
 |d::r,ρ=>(g d ρ).bind λρ1=>(p ρ1).bind λb=>if b=true then(f ρ1).bind λq=>if LF q.1=true then(lD ρ q.2).bind λa=>(dZ g p f r a).map λz=>(q.1::z.1,z.2) else none
  else dZ g p f r ρ
def fh(m:Nat)(a:GA)(g:FG)(p:FT)(f:GE):GE:=λρ=>(a ρ).bind λz=>if z.1.length<=P4 then(dZ g p f z.1 (z.2++Py m .no)).bind λy=>(lD z.2 y.2).map λρ'=>(.lst y.1,ρ') else none
theorem wU{d:D}(h:fh m gi g p f ρ=some (d,ρ')): ∃ds a ys b,gi ρ=some (ds,a)/\ds.length<=P4/\dZ g p f ds (a++Py m .no)=some (ys,b)/\lD a b=some ρ'/\d=.lst ys:=by
 obtain⟨⟨ds,a⟩,e,c⟩:=PR.mp (show(gi ρ).bind _=_ from h);split at c
 ·obtain⟨⟨ys,b⟩,l,i⟩:=PR.mp c;obtain⟨ρ1,j,k⟩:=QR.mp i;cases k;exact⟨ds,a,ys,b,e, ‹_›,l,j,rfl⟩
 ·cases c
section
variable {X:Cx}{c:Ct}{elt tg iter:Expr}{ifs:List Expr}{scope:Sm}{pos spos py:Pos}{N':List Str}{m:Nat}{gi:GA}{g:FG}{p:FT}{f:GE}{y:Str}
structure CLE(Y:Cx)(K:Pz)(c:Ct)(hid:bN)(ρF ρE:aG)(nN:Nat)(H:Hp)(D0:Addr)(fp:List Addr)(tn:Nat->Heap->Prop)(g:FG)(p:FT)(f:GE)(ds ys:List D)(σ3:St)(n i:Nat)(xs:List V)(ad:List D)(ρ:aG)(σ':St)(H':Hp)(s':Pn):Prop where
 e:n=ds.length-i
 hi:i<=ds.length
 I:Inv Y [] σ' H' s'
 st:tn i s'.heap
 fr: ∀b∈fp,H' b=none
 sr:SR K c (bn hid D0) ρ σ' H'
 kp:ei hid H H'
 ac:H' D0=some (.lst xs)
 rp:Reps K (vw H' (bn hid D0)) xs ad
 w:a6 (vw H hid) (vw H' (bn hid D0))
 hl:xs.length<=i
 na: ∀i:Nat,Ow ρ[i]? ->σ'[i]? ≠some (some (.ref D0))
 ok:OwK ρF ρ σ3 σ'
 no: ∀(j:Nat) (s:Sl),nN<=j->ρ[j]? =some s->s=.no
 go: ∃rest,dZ g p f (ds.drop i) ρ=some (rest,ρE)/\ad++rest=ys
theorem yA(U:X.calm=true)(hT:jM X.N.length g)
 (hg: ∀C F G ex,uk (aD X N' scope C F G ex) c tg g) (hp: ∀C F G ex,vY (aD X N' scope C F G ex) c ifs p) (he: ∀C F G ex,DE (aD X N' scope C F G ex) c .s elt f) {H E:Hp} {Y s4:Pn} {hid:bN} {ds ys:List D}
 (hno: ∀(j:Nat) (s:Sl),X.N.length<=j->ρF[j]? =some s->s=.no)
 (I:Inv (aD X N' scope C Y E fp) [] σ3 E s4) (sr:SR X.K c (bn hid D0) ρF σ3 E) (h0: ∀b,c.hid₀ b=true->hid b=true) (nh:hid D0=false) (h00:c.H₀ D0=none) (na: ∀i:Nat,Ow ρF[i]? ->σ3[i]? ≠some (some (.ref D0))) (hacc:E D0=some (.lst [])) (sm:ei hid H E) (nD:H D0=none) (wv:a6 (vw H hid) (vw E (bn hid D0))) (T:il X.prog X.w X.K tg J fp it tn) (st:tn 0 s4.heap) (hF: ∀b∈fp,E b=none)
 (io:ic X.K (vw H hid) J ds) (hz:ds.length<=P4) (hc:dZ g p f ds ρF=some (ys,ρE))
 (hR: ∀(s':Pn) (h:St) (k:Hp) (xs:List V),Inv (aD X N' scope C Y E fp) [] h k s'->SR X.K c (bn hid D0) ρE h k->OwK ρF ρE σ3 h->ei hid H k->k D0=some (.lst xs)->Reps X.K (vw k (bn hid D0)) xs ys->a6 (vw H hid) (vw k (bn hid D0))->R (.ok .next) s'):
 R9 (model X.prog X.w) X.A (.compLoop (.ListComp elt [⟨tg,iter,ifs,0⟩] scope pos) 0 (.ref it) (.ref D0) (Wc scope (oQ X.env.cells scope C) C X.env)) R s4:=by
 have Z: ∀ {ah:List (Addr×Obj)} {k:Hp},(∀q∈ah,q.1∉fp)->(∀b∈fp,k b=none)-> ∀b∈fp,jS (aD X N' scope C Y E fp) ah k b:=λ{ah k} hpn hn b y=>
  ⟨hn b y,(I.ok.exf b y).1,I.ok.exfs b y,.inl y,(I.ok.exf b y).2,λq hq e=>hpn q (by have hq':q∈([]:List (Addr×Obj))++ah:=hq;simpa using hq') (by rw[e];exact y)⟩
 have no: ∀q∈([]:List (Addr×Obj)),q.1∉fp:=λq hq=>nomatch hq
 refine eW (λn s'=> ∃(i:Nat) (xs:List V) (ad:List D) (ρ:aG) (h:St) (k:Hp),CLE (aD X N' scope C Y E fp) X.K c hid ρF ρE X.N.length H D0 fp tn g p f ds ys σ3 n i xs ad ρ h k s') ?_ ds.length
  ⟨0,[],[],ρF,σ3,E,by simp,Ri _,I,st,hF,sr,sm,hacc,.nil,wv,Ri _,na,λi o=>⟨o,rfl⟩,hno,ys,by simpa using hc,rfl⟩
 rintro n s5 ⟨i,xs,ad,ρ,Q,H5,rfl,hi,I5,st5,f5,sr5,sm5,ac5,rp5,w5,hl5,na5,ok5,M,rest,d,ST⟩;have wH:a6 (vw H hid) H5:=w5.trans (dD _ _)
 by_cases Ty:i<ds.length
 ·have hd:ds[i]? =some ds[i]:=Pq Ty;have e2:ds.drop i=ds[i]::ds.drop (i+1):=Ry Ty;rw[e2] at d;unfold dZ at d;obtain⟨go,yl⟩:=io.1 i ds[i] H5 hd wH;refine bT (T.item (aD X N' scope C Y E fp) rfl rfl rfl U i [] s5 Q H5 (λ_ _=>False) I5 (Z no f5) st5 go) λr s6 l=>?_
  obtain⟨u,hr,h6⟩:=l;subst hr;refine bT h6 λ_ s7 l=>?_
  obtain⟨x,H7,I7,r7,y7,st7,f7⟩:=l;obtain⟨Tm,rp⟩:=yl x H7 y7;have rx:=rp (bn hid D0) sr5.tr w5;have I7':=I7.pinned (Z no f7) (T.obj _ _ st7);obtain⟨ρ1,e3,d⟩:=PR.mp d;obtain⟨b,e4,d⟩:=PR.mp d;obtain⟨tl1,tl2⟩:=hT _ _ _ e3;have fg: ∀ {h:St} {k:Hp},SR X.K c (bn hid D0) ρ1 h k->SR X.K c (bn hid D0) ρ h k:=λ{h k} z=>z.forget tl1 λj s e=>by
   by_cases hj:j<X.N.length
   ·exact .inr ((tl2 j hj).trans e)
   ·exact .inl (M j s (by lia) e)
  have owl: ∀j:Nat,Ow ρ[j]? ->Ow ρ1[j]? :=λj o=>by
   by_cases hj:j<X.N.length
   ·rw[tl2 j hj];exact o
   ·exfalso;cases z:ρ[j]? with
    |none=>rw[z] at o;exact o
    |some s=>rw[z] at o;rw[M j s (by lia) z] at o;exact o
  have S: ∀ {h:St} {k:Hp} {s':Pn},Inv (aD X N' scope C Y E fp) ([]++ml fp s7.heap) h k s'->tn (i+1) s'.heap/\ ∀b∈fp,k b=none:=λ{h k s'} J'=>by
   refine⟨T.keep _ _ _ st7 λb y o e=>(J'.pin (b,o) (P8 _ (P8 _ (dh y e)))).1,λb y=>?_⟩;obtain⟨o,e,_⟩:=T.obj _ _ st7 b y;exact(J'.pin (b,o) (P8 _ (P8 _ (dh y e)))).2.1
  refine bT (hg C Y E fp (bn hid D0) ρ ds[i] _ s7 Q H7 x u (λh k=>k=H7/\SR X.K c (bn hid D0) ρ1 h H7/\OwK ρ ρ1 Q h) I7' r7 ⟨sr5.ext Tm,rx,ρ1,e3,λh z o=>⟨rfl,z,o⟩⟩) λ_ s8 l=>?_
  obtain⟨m,H8,I8,e8,q8,o8⟩:=l;subst e8;have na8: ∀i:Nat,Ow ρ1[i]? ->m[i]? ≠some (some (.ref D0)):=λj o=>by
   rw[(o8 j o).2];exact na5 j (o8 j o).1
  refine bT (hp C Y E fp (bn hid D0) ρ1 _ s8 m H8 (λb' k=>b'=b/\a6 H8 k) I8 ⟨q8,b,e4,λk s'=>⟨rfl,s'⟩⟩) λok s9 l=>?_
  obtain⟨H9,I9,e9,O⟩:=l;subst e9;have w9:a6 (vw H5 (bn hid D0)) (vw H9 (bn hid D0)):=aW (Tm.trans O);have k9:ei hid H H9:=sm5.trans (.of (Tm.trans O));have a9:H9 D0=some (.lst xs):=O _ _ (Tm _ _ ac5);have ok8:OwK ρF ρ σ3 m:=λj o=>⟨(ok5 j o).1,by rw[(o8 j (owl j o)).2];exact(ok5 j o).2⟩
  cases ok with
  |false=>
   rw[if_neg (by decide)] at d;obtain⟨k1,k2⟩:=S I9;exact⟨ds.length- (i+1),by lia,i+1,xs,ad,ρ,m,H9,rfl,Ty,I9.unpinned,k1,k2,fg (q8.ext O),k9,a9,rp5.mono w9,w5.trans w9,by lia,λj o=>na8 j (owl j o),ok8,M,rest,d,ST⟩
  |true=>
   rw[if_pos rfl] at d;obtain⟨⟨yv,ρ2⟩,e5,d⟩:=PR.mp d;split at d
   ·rename_i lf
    obtain⟨ρ3,e6,d⟩:=PR.mp d;obtain⟨⟨rest',ρx⟩,e7,d⟩:=QR.mp d;cases d;show PJ (model X.prog X.w) X.A (eval elt _) _ _ s9;have srs:SR X.K c hid ρ1 m H9:=(q8.ext O).show h0 na8 a9;refine bT (he C Y E fp hid ρ1 _ s9 m H9 (λv k=>df X.K c hid .s ρ2 m H9 k v yv) I9 ⟨srs,yv,ρ2,e5,λv k z=>z⟩) λv s10 l=>?_
    obtain⟨z,B,I10,rz,P,L,rp10⟩:=l;have W:B D0=some (.lst xs):=P _ _ a9 nh;refine bT (du (X:=aD X N' scope C Y E fp) _ s10 m B (.ref D0) [z] (.ref D0) [v] (λ_ k=>k=b9 B D0 (.lst (xs++[z]))) I10 rfl (.cons rz .nil) ⟨D0,xs,z,rfl,rfl,W,by lia,rfl⟩) λ_ s11 ⟨_,H11,I11,_,e11⟩=>?_
    subst e11;obtain⟨k1,k2⟩:=S I11;have lo: ∀t,hid t=false->bn hid D0 t=true->yg (B t)=true:=λt h1 h2=>by
     unfold bn at h2;rw[h1] at h2;have:t=D0:=by simpa using h2
     subst this;rw[W];rfl
    have kD:ei (bn hid D0) H9 B:=λb o q y=>P b o q (zZ y).1
    have w10:a6 (vw H5 (bn hid D0)) (vw B (bn hid D0)):=w9.trans kD.vw;have vv:vw (b9 B D0 (.lst (xs++[z]))) (bn hid D0)=vw B (bn hid D0):=fZ fL
    have q10:SR X.K c (bn hid D0) ρ3 m B:=(fg (q8.ext O)).mix kD.vw L ⟨λb y=>by
     by_cases e:b=D0
     ·subst e;exact⟨_,W⟩
     ·unfold bn at y;exact L.tr b (by simpa [e] using y),λb xs y q=>by
     by_cases e:b=D0
     ·subst e;rw[W] at q;cases q
     ·unfold bn at y
      exact L.ht b xs (by simpa [e] using y) q⟩ (λb q=>cL (h0 b q)) (λb q=>cL q) lo e6 λ_ _ _=>rfl
    have na10: ∀i:Nat,Ow ρ3[i]? ->m[i]? ≠some (some (.ref D0)):=λj o=>L.notOw nh j (rY e6 o).2
    refine⟨ds.length- (i+1),by lia,i+1,xs++[z],ad++[yv],ρ3,m,_,rfl,Ty,I11.unpinned,k1,k2,?_,λb o e y=>?_,aV,?_,?_,by simp;lia,na10,λj o=>ok8 j (rY e6 o).1,λj s hj e=>?_,rest',e7,by rw[<-ST];simp⟩
    ·exact q10.write fL h00 na10 W
    ·rw[aQ (bF e nD)];exact P _ _ (k9 _ _ e y) y
    ·rw[vv];exact(rp5.mono w10).append (.cons (wk lo rp10 lf) .nil)
    ·rw[vv];exact w5.trans w10
    ·obtain⟨s',z1,z2⟩:=qd e6 e;have:=M j s' hj z1;subst this;rcases z2 with⟨rfl,_⟩|⟨s2,_,_,⟨a,b,z,_⟩|⟨a,b,z,_⟩⟩
     ·rfl
     ·cases z
     ·cases z
   ·cases d
 ·have e:i=ds.length:=by lia
  subst e;rw[Su (Px _)] at d;cases d;rw[QX] at ST;subst ST;refine bT (T.done (aD X N' scope C Y E fp) rfl rfl rfl U ds.length [] s5 Q H5 (λ_ _=>False) I5 (Z no f5) st5 (io.2 H5 wH)) λr s6 l=>?_
  obtain⟨hr,I6⟩:=l;subst hr;exact hR s6 Q H5 xs I6 sr5 ok5 sm5 ac5 rp5 w5
theorem wL(B:X.calm=true)(hk:scope.kind=.function)(hs:yt scope X.env.scope=true)(hn:yI X.N N' scope=true)(hm:N'.length-X.N.length=m)(hT:jM X.N.length g)
 (hg: ∀C h d L,uk (aD X N' scope C h d L) c tg g) (hp: ∀C h d L,vY (aD X N' scope C h d L) c ifs p) (he: ∀C h d L,DE (aD X N' scope C h d L) c .s elt f) {s:Pn} {ds ys:List D} {RR:Pk->Addr->Vr->Pn->Prop}
 (I:Inv X ah σ H s) (G:SR X.K c hid ρ σ H) (T:il X.prog X.w X.K tg J fp it tn) (st:tn 0 s.heap) (hF: ∀b∈fp,jS X ah H b) (io:ic X.K (vw H hid) J ds) (hz:ds.length<=P4) (hc:dZ g p f ds (ρ++Py m .no)=some (ys,ρE))
 (hR: ∀(D C:Addr) (s':Pn) (t:St) (l:Hp) (xs:List V),s.heap.objs.size<=D->s.heap.objs.size<=C->D≠C->H D=none->ei hid H l->l D=some (.lst xs)->Reps X.K (vw l (bn hid D)) xs ys->SR X.K c (bn hid D) ρE t l->OwK (ρ++Py m .no) ρE (σ++Py m none) t->a6 (vw H hid) (vw l (bn hid D))->(∃m,s'.heap.Ns C m)->l C=none->s'.os=s.os->Uj s'.gens->HOk X.prog X.w l s'.heap->Un (frs X.stack) fp H l s.heap s'.heap->RR (.ref D) C (.ok .next) s'):
 PJ (model X.prog X.w) X.A (Xl []) (λacc R=>PJ (model X.prog X.w) X.A (Uo scope X.env.globals (uK X.env.cells scope.names []) [] X.env.qual none .none (some X.env)) (λu Q=>
  R9 (model X.prog X.w) X.A (.compStart (.ListComp elt [⟨tg,iter,ifs,0⟩] scope pos) 0 (.ref it) acc {u with scope:=Um scope X.env}) (RR acc u.locals) Q) E R) E s:=by
 refine Rh (uP λx a r k=>?_);dsimp only at a r k⊢;generalize y:s.heap.push {cls:=.type "list",dict:=none,data:=.seq ([]:List Pk).toArray}=H2 at a r k⊢;have hC:H2.objs.size=s.heap.objs.size+1:=by rw[<-y,Rc]
 have q:H s.heap.objs.size=none:=I.hok.fresh (Px _);have I2:Inv X ah σ (b9 H s.heap.objs.size (.lst [])) {s with heap:=H2}:=by
  rw[<-y];exact I.laid (t':=s.toks) (λb o e=>Po _ e) (Px _) ⟨Ri _,[],0,.nil,PD _ rfl⟩
 have P: ∀b∈fp,b<s.heap.objs.size:=λb n=>let⟨o,e,_⟩:=T.obj 0 s.heap st b n;PB e
 have O: ∀b∈fp,jS X ah (b9 H s.heap.objs.size (.lst [])) b:=λb n=>⟨by rw[aQ (P6 (P b n))];exact(hF b n).1,(hF b n).2⟩
 have z: ∀b o,s.heap.get? b=some o->H2.get? b=some o:=λb o e=>by rw[<-y];exact Po _ e
 have IY:=qD (tk:=s.toks) (N':=N') (fp:=fp) I2 O (λb n=>let⟨o,e,_⟩:=T.obj 0 s.heap st b n;⟨o,z b o e⟩) hk hs hn a r k;rw[hm] at IY;dsimp only at IY;have sr0:SR X.K c (bn hid s.heap.objs.size) (ρ++Py m .no) (σ++Py m none) (b9 H s.heap.objs.size (.lst [])):=(G.hide (aT q _) q aV).more m;have hρ:ρ.length=X.N.length:=by rw[<-G.len];exact I.len
 have nf:hid s.heap.objs.size=false:=G.fresh q;have M:tn 0 x:=T.keep _ _ _ st λb n o e=>r b o (z b o e)
 have na0: ∀i:Nat,Ow (ρ++Py m Sl.no)[i]? ->(σ++Py m none)[i]? ≠some (some (V.ref s.heap.objs.size)):=(G.more m).notOw nf
 have wv:a6 (vw H hid) (vw (b9 H s.heap.objs.size (.lst [])) (bn hid s.heap.objs.size)):=by rw[vt q];exact a6.refl _
 have v: ∀s4:Pn,s4={s with heap:=x,toks:=s.toks}->
  R9 (model X.prog X.w) X.A (.compLoop (.ListComp elt [⟨tg,iter,ifs,0⟩] scope pos) 0 (.ref it) (.ref s.heap.objs.size) (Wc scope (oQ X.env.cells scope H2.objs.size) H2.objs.size X.env)) (RR (.ref s.heap.objs.size) H2.objs.size) s4:=by
  rintro s4 rfl;refine yA (H:=H) (hid:=hid) B hT hg hp he (λj s' hj e=>?_) IY sr0 G.h0 nf (G.fresh0 q) na0 aV (.of (aT q _)) q wv T M (λb n=>(O b n).1) io hz hc ?_
  ·rw[Qg (by lia),QQ] at e;split at e
   ·cases e;rfl
   ·cases e
  intro s' t l xs F Y W U Z S w';have ST:Un (frs X.stack) fp H (b9 H s.heap.objs.size (.lst [])) s.heap H2:=Un.laid (λb o e=>z b o e) (Px _) q;exact hR s.heap.objs.size H2.objs.size s' t l xs (Px _) (by rw[hC];exact Ud _) (by rw[hC];exact P6 (QU _)) q U Z S Y W w' (let⟨m,hm,_⟩:=F.loc;⟨m,hm⟩) F.free F.os F.bare F.hok (ST.trans F.base)
 exact Up (v _ rfl) (T.self X.A 0 _ _ _ M (v _ rfl))
theorem wl(i:Nat)(M:X.calm=true)(hN:X.N.Nodup)(hT:jM X.N.length g)(hi:DI X c tg iter gi)
 (hg: ∀C k h R,uk (aD X N' scope C k h R) c tg g) (hp: ∀C k h R,vY (aD X N' scope C k h R) c ifs p) (he: ∀C k h R,DE (aD X N' scope C k h R) c .s elt f)
 (hsw:S5 (.ListComp elt [⟨tg,iter,ifs,0⟩] scope pos) (some (.Name y py)) spos.line X.env=pure true) (hyi:X.N[i]? =some y) (hy:X.env.scope.names.lookup y=some .local)
 (hk:scope.kind=.function) (hs:yt scope X.env.scope=true) (hn:yI X.N N' scope=true) (hm:N'.length-X.N.length=m) (S: ∀x,QY iter X.env x=pure x) (ρ:aG):
 PS X (.Assign [.Name y py] (.ListComp elt [⟨tg,iter,ifs,0⟩] scope pos) spos) (G6 (λσ H Q=> ∃hid,Ld X.K c hid .n (fh m gi g p f) ρ σ H Q) (Au i)):=by
 intro Y s σ H E I V;obtain⟨hid,sr,d,ρ',hd,q⟩:=V;obtain⟨ds,B,ys,ρF,e1,hz,hc,hx,rfl⟩:=wU hd;rw[WR _ _ _ _ hsw];refine Ph (RP (Ph ?_));show PJ _ X.A (do let _ <-comprehension (.ListComp elt [⟨tg,iter,ifs,0⟩] scope pos) scope X.env _ (Xl []) false (eval iter X.env) (some (S6 (.Name y py) X.env))) _ _ s;refine Ph (Qv (SX (use:=some (S6 (.Name y py) X.env)) (Q:=λ_ s'=>SP X Y E .next s') rfl S (fj λx hx=>I.ok.has x (i9 hs x hx)) hk (lA hs) ?_) (λ_ s' V=>Pl (Pl V)) λ_ _ e=>e);refine bT (hi hid ρ Y s σ H (λJ u=>ei hid H u/\SR X.K c hid B σ u/\ic X.K (vw u hid) J ds) I ⟨sr,ds,B,e1,λJ u k1 s1 io=>⟨k1,s1,io⟩⟩) λv s1 h1=>bT h1 λitv s2 h2=>?_
 obtain⟨it,fp,tn,J,H2,rfl,F,T,st2,P,kp,l,io⟩:=h2;refine wL (RR:=λacc C=>ZN (model X.prog X.w) X.A X.xe (some (S6 (.Name y py) X.env)) (λ_ s'=>SP X Y E .next s') acc C) M hk hs hn hm hT hg hp he F l T st2 P io hz hc ?_
 intro D C s' σ' u xs hDge r hDC Z sm' hx' rp U owk w' ⟨mm,hns⟩ hC' hos L hok hun;have I3:Inv X Y σ u s':=F.call' (ch:=fp) hos hun hok L λb O=>⟨(P b O).2.2.2.1,(P b O).2.1,(P b O).2.2.2.2.1,(P b O).2.2.2.2.2⟩
 have nf:hid D=false:=l.fresh Z;have hD0:H D=none:=by
  cases z:H D with
  |none=>rfl
  |some o=>rw[kp D o z nf] at Z;cases Z
 have srO:SR X.K c (bn hid D) ρ' σ u:=l.mix w' U U.trk (λb q=>cL (l.h0 b q)) (λb q=>q) (λt h1 h2=>by rw[h1] at h2;cases h2) hx λj o1 o2=>by
  have lt:j<B.length:=by
   by_cases lt:j<B.length
   ·exact lt
   ·rw[QH (by lia)] at o1;exact o1.elim
  rw[(owk j o2).2,Qk (by rw[l.len];exact lt)]
 have fin:=q (.ref D) u ⟨kp.trans sm',D,xs,ys,rfl,rfl,hD0,hx',l.fresh0 Z,nf,srO,rp,λj o=>l.notOw nf j (rY hx o).1⟩;have G: ∀b o,s2.heap.get? b=some o->b≠C:=λb o e z=>by subst z;exact absurd (PB e) (TC.mpr r)
 have W:C≠X.env.locals:=λz=>by
  have:=F.lt;rw[<-z] at this;exact absurd this (TC.mpr r)
 show PJ _ X.A (S6 (.Name y py) X.env (.ref D)) _ _ s';refine VI (oG (v:=.ref D) I3 hN hyi (.inl hy) rfl (λs'' I4 O=>?_) (.inr hy));obtain⟨a,hsb,ha⟩:=O;have hCa:C≠a:=by
  rcases ha with rfl|ha
  ·exact W
  ·obtain⟨w',o,ho,_⟩:=F.cell y a ha;exact λz=>G a o ho z.symm
 refine⟨mm,hns.sameBut hsb hCa,λh3 hs3=>⟨_,u,?_,fin⟩⟩;refine I4.turned (t':=s''.toks) (it:=C) (λb o nb e=>(hs3.2 b nb).trans e) hC' W (.inr (Qh F.sz r)) (λx c' e z=>?_) (λq V z=>?_)
 ·obtain⟨w',o,ho,_⟩:=F.cell x c' e;exact G c' o ho z
 ·exact G q.1 q.2 (F.pin q V).1 z
theorem E7(i:Nat)(d:X.calm=true)(u:X.N.Nodup)(o:jM X.N.length g)(I:DI X c tg iter gi)
 (t: ∀C b a e,uk (aD X N' scope C b a e) c tg g) (G: ∀C b a e,vY (aD X N' scope C b a e) c ifs p) (r: ∀C b a e,DE (aD X N' scope C b a e) c .s elt f)
 (j:S5 (.ListComp elt [⟨tg,iter,ifs,0⟩] scope pos) (some (.Name y py)) spos.line X.env=pure true:=by rfl) (n:X.N[i]? =some y:=by rfl) (J:X.env.scope.names.lookup y=some .local:=by rfl)
 (K:scope.kind=.function:=by rfl) (E:yt scope X.env.scope=true:=by kernel_rfl) (B:yI X.N N' scope=true:=by kernel_rfl) (w:N'.length-X.N.length=m:=by rfl) (h: ∀x,QY iter X.env x=pure x:=by intro _;rfl):
 DS X c k (.Assign [.Name y py] (.ListComp elt [⟨tg,iter,ifs,0⟩] scope pos) spos) (Ey i (fh m gi g p f)):=λρ=>PS.imp (wl i d u o I t G r j n J K E B w h ρ) λD σ H l=>by
 obtain⟨hid,A,q⟩:=l;unfold Ey at q;cases e1:fh m gi g p f ρ with
 |none=>rw[e1] at q;exact q.elim
 |some z=>
  rw[e1] at q;exact⟨hid,A,z.1,z.2,e1,λv L F=>MG F q⟩
theorem xA(i:Nat)(d:X.calm=true)(L:X.N.Nodup)(t:jM X.N.length g)(B:DI X c tg iter gi)
 (u: ∀C b a e,uk (aD X N' scope C b a e) c tg g) (G: ∀C b a e,vY (aD X N' scope C b a e) c ifs p) (K: ∀C b a e,DE (aD X N' scope C b a e) c .s elt f)
 (n:S5 (.ListComp elt [⟨tg,iter,ifs,0⟩] scope pos) (some (.Name y py)) spos.line X.env=pure true:=by rfl) (l:X.N[i]? =some y:=by rfl) (I:X.env.scope.names.lookup y=some .local:=by rfl)
 (E:scope.kind=.function:=by rfl) (O:yt scope X.env.scope=true:=by kernel_rfl) (J:yI X.N N' scope=true:=by kernel_rfl) (M:N'.length-X.N.length=m:=by rfl) (h: ∀x,QY iter X.env x=pure x:=by intro _;rfl):
 DS X c k (.Assign [.Name y py] (.ListComp elt [⟨tg,iter,ifs,0⟩] scope pos) spos) (g7 i (fh m gi g p f)):=λρ=>PS.imp (wl i d L t B u G K n l I E O J M h ρ) λD σ H j=>by
 obtain⟨hid,o,q⟩:=j;unfold g7 at q;cases e1:fh m gi g p f ρ with
 |none=>rw[e1] at q;exact q.elim
 |some z=>
  rw[e1] at q;refine⟨hid,o,z.1,z.2,e1,λv w A=>?_⟩;obtain⟨F,s',r⟩:=df.toS o.h0 A;exact q _ w hid (s'.setV r i) F.vw
end
theorem Dd(a:List Pk):YK a.toArray none none (some (-1))=a.reverse.toArray:=by
 unfold YK;rw[W.krv_bounds];dsimp only;rw[W.krv_sliceRange,W.krv_range];rw[List.filterMap_reverse,PZ];have:List.filterMap (λx=>a.toArray[x]?) (Pi a.length)=a:=by
  have:=WF a;simpa using this
 rw[this]
theorem Fh {xs:List V}{us:List Pk}(r:bI xs us):bI xs.reverse us.reverse:=by
 induction r with
 |nil=>exact .nil
 |cons r t a=>rw[VN,VN];exact bI.append a (.cons r .nil)
section
variable {X:Cx}{c:Ct}{e st:Expr}{k:Kd}{te:TE}{ts:TO}{f g:FE}{pos p2:Pos}{lo hi:Option Expr}{l u:FO}
theorem Ma {α:Type}{o:Option Expr}{t:α->TO}(h: ∀z,PO X o (t z)):PO X o (λσ H Q=> ∃z,t z σ H Q):=λa s σ H Q I ⟨z,q⟩=>h z a s σ H Q I q
theorem Cs(D:PE X e te)(i:PO X (some st) ts)(g: ∀(v:Pk) (j:Addr),W3 (.Slice none none (some st) p2) false v (.ref j)=operate [v,.ref j] (Zp v (.ref j)):=by intro _ _;with_unfolding_all rfl):
 PE X (.Subscript e (.Slice none none (some st) p2) pos) (λσ H Q=>te σ H λx k=>ts σ k λo d=>o=some (-1)/\ ∃a xs,x=.ref a/\SqL X.K d a xs/\ ∀p,d p=none->Q (.ref p) (b9 d p (.lst xs.reverse))):=by
 intro f s σ H Q I h;refine ZK (bT (D f s σ H _ I h) λv B c=>?_);obtain⟨x,k,u,F,L⟩:=c;refine wpAny_Slice ?_
 rw[XF];refine Pl (Pl (bT (i f B σ k _ u L) λvs s2 c=>?_));obtain⟨o,d,y,t,G,a,xs,z,J,q⟩:=c;subst G z;cases F;have l:Inv X f σ d {s2 with heap:=s2.heap.push {cls:=.type "slice",data:=.fields #[.none,.none,vs]}}:=y.kept (t':=s2.toks) λb ob q=>Po _ q
 obtain⟨C,r,m,E⟩:=l.list J;have n:=r.length;show PJ (model X.prog X.w) X.A (XG e (.Slice none none (some st) p2) (.ref a) (.ref s2.heap.objs.size)) (EP X f σ Q) X.xe {s2 with heap:=s2.heap.push {cls:=.type "slice",data:=.fields #[.none,.none,vs]}};refine tail_any (ops:=[.ref a,.ref s2.heap.objs.size]) m.isList.typeIs VL.lookup ?_ (g _ _)
 refine V0 m.isList (XZ ..) .none .none t (by simp) ?_ (by rw[PZ]<;>lia)
 rw[Dd];refine⟨.ref _,_,l.laid (t':=s2.toks) (o:=.lst xs.reverse) (λb ob q=>Po _ q) (Px _) ?_,rfl,q _ (l.hok.fresh (Px _))⟩;exact⟨by rw[List.length_reverse];exact E,_,0,Fh r,PD _ rfl⟩
def sH(f:FE)(o:FO):FE:=λρ=>(f ρ).bind λd=>match d with
 | .lst ds=>(o ρ).bind λz=>if z=some (-1) then some (.lst ds.reverse) else none
 |_=>none
theorem y8(u:DP X c k e f)(x:DO X c (some st) o)(h: ∀(v:Pk) (l:Addr),W3 (.Slice none none (some st) p2) false v (.ref l)=operate [v,.ref l] (Zp v (.ref l)):=by intro _ _;with_unfolding_all rfl):
 DP X c .n (.Subscript e (.Slice none none (some st) p2) pos) (sH f o):=λhid ρ=>PE.imp (Cs (u hid ρ) (x hid ρ) h) λσ H Q i=>by
 obtain⟨j,d,g,q⟩:=i;unfold sH at g;obtain⟨z,t,g⟩:=PR.mp g;split at g
 ·obtain⟨w,s,g⟩:=PR.mp g;split at g
  ·rename_i B
   subst B;cases g;refine⟨j,_,t,λv D m C=>⟨j.ext m,_,s,λE s2=>⟨rfl,?_⟩⟩⟩;obtain⟨a,xs,rfl,y,A⟩:=((RK.b k C λa n=>j.fresh n).ext s2).lst;exact⟨a,xs,rfl,y,λp r=>q _ _ ((m.trans s2).trans (aT r _)) (f8 r (m.trans s2) A.reverse)⟩
  ·cases g
 ·cases g
def DN(f:GE)(l u:FO):GE:=λρ=>(f ρ).bind λz=>match z.1 with
 | .lst ds=>(l z.2).bind λb=>(u z.2).map λa=>(.lst (mz ds b a),z.2)
 |_=>none
theorem KG {f:GE}(x:DE X c .s e f)(y:DO X c lo l)(E:DO X c hi u):DE X c .n (.Subscript e (.Slice lo hi none p2) pos) (DN f l u):=λhid ρ=>
 PE.imp (v7 AI (x hid ρ) (Ma λρ'=>y hid ρ') (Ma λρ'=>E hid ρ')) λσ H Q i=>by
  obtain⟨r,d,ρ',b,q⟩:=i;unfold DN at b;obtain⟨⟨z,ρ1⟩,t,b⟩:=PR.mp b;dsimp only at b;split at b
  ·obtain⟨m,o,b⟩:=PR.mp b;obtain⟨j,F,b⟩:=QR.mp b;cases b;refine⟨r,_,_,t,λv I ⟨A,g,D⟩=>⟨_,g,m,o,λJ s2=>⟨_,g.ext s2,j,F,λG h=>?_⟩⟩⟩;obtain⟨a,xs,rfl,B,C⟩:=(cs.ext (.inl D) (s2.trans h)).lst;have w:=g.ext (s2.trans h);exact⟨a,xs,rfl,B,λp k=>q _ _ (df.left A (g.post ((s2.trans h).trans (aT k _)) (f8 k (s2.trans h) (xH C m j)) (by decide)))⟩
  ·cases b
end
def De:D->Option (List Int)
 | .tup ds=>eJ ds
 |_=>none
theorem ox{a:List Int}(h:De d=some a):d=.tup (a.map D.int):=by
 unfold De at h;split at h
 ·rw[gP h]
 ·cases h
theorem qY {K:Pz}: ∀ {xs:List V} {a:List Int},Reps K F xs (a.map D.int)->xs=(a.map VH).map kV
 |_,[],h=>by cases h;rfl
 |_,n::a,h=>by
  cases h with
  |cons r rs=>cases r;rw[qY rs];rfl
section
variable {X:Cx}{c:Ct}{k k1 k2:Kd}{e f ev:Expr}{es:List Expr}{fe ff fk fv:FE}{fs:FA}{pos pos' py apos cpos p:Pos}{x y:Str}{x1:_}
def iK(a:List Int):List lJ:=a.map VH
theorem zI{a:List Int}(h:cs X.K H' (vw H' hid) z (.tup (a.map D.int))): ∃b,z=.ref b/\SqT X.K H' b ((iK a).map kV):=by
 obtain⟨b,xs,rfl,_,c,d⟩:=h.tup;refine⟨b,rfl,?_⟩;rw[<-show xs=(iK a).map kV from qY d];exact c
end
section
variable {prog:Qp}{w:QD}{A:Qq}{E:Pk->Pn->Prop}{s:Pn}{d it:Addr}{es:Array DictEntry}{ep i:Nat}
theorem yx{us:List Pk}{G:List Nat->Prop}(C:KdlSrc prog w T r d us.length P OK)(S: ∀i v,i<us.length->P i v->us[i]? =some v)(q:A.handled=none)(n:OK s.heap)(W:us.length<64)
 (H:us.length<2->G (Pi us.length))
 (z:2<=us.length-> ∀(g:Heap) (tk:Nat),(∀c o,s.heap.get? c=some o->g.get? c=some o)->PJ (model prog w) A.in1.in1 (keyKind' us.toArray) (λκ t=>t={s with heap:=g,toks:=tk}/\
   (Yl us.length).kasWp (Ym prog w A.in1.in1 κ us) (λp t'=>t'=t/\G p.toList) t) (λ_ _=>False) {s with heap:=g,toks:=tk})
 (fin: ∀(g:Heap) (tk a e:Nat) (j:List Nat),(∀c o,s.heap.get? c=some o->g.get? c=some o)->s.heap.objs.size<=a->G j->g.get? a=some (Tp "list" (RF (j.map λi=>us.getD i Qw)) e)->Q (.ref a) {s with heap:=g,toks:=tk}):
 PJ (model prog w) A (call (.builtin "sorted") [.ref r]) Q E s:=by
 refine VB kind_sorted plain_sorted entry_sorted (args_sorted1 _) ?_
 unfold SH.«sorted»;refine Ph (m:=checkCount "sorted" 1 1 _) (Pl (Ph (z7 (A:=A.in1) C q n (by rw[Q7];lia) λg tk acc B D b=>?_)));have F:acc.toList=us:=Ur λi=>by
  by_cases l:i<us.length
  ·have M:i<acc.size:=by rw[b.1];exact l
   have N:acc[i]? =some acc[i]:=P9 M;rw[Qa,N,S i _ l (b.2 i _ N)]
  ·have M: ¬i<acc.toList.length:=by rw[PN,b.1];exact l
   rw[QH (by lia),QH (by lia)]
 rw[F];have O:s.heap.objs.size<=g.objs.size:=Tf D;refine Ph (XI ?_ (by rw[Q7];lia));have I:(g.push (Tp "list" us.toArray 0)).get? g.objs.size=some (Tp "list" us.toArray 0):=PD _ rfl;show PJ _ _ _ _ _ {s with heap:=g.push (Tp "list" us.toArray 0),toks:=tk};have k: ∀j:List Nat,G j->Q (.ref g.objs.size) {s with heap:=UJ (g.push (Tp "list" us.toArray 0)) g.objs.size us (RF (j.map λi=>us.getD i Qw)),toks:=tk}:=λj J=>by
  obtain⟨e,V⟩:=sortedHeap_at (out:=RF (j.map λi=>us.getD i Qw)) I;refine fin _ tk g.objs.size e j (λc u y=>?_) O J V;have lt:=PB (B c u y);rw[ZT (P6 lt) (by rw[size_push'];exact Tx lt)];exact Po _ (B c u y)
 refine Ph (Qt (QV ZU ⟨_,I,rfl⟩ Zc (rJ (P:=λf t=> ∃v,f=.done (.ret v)/\PJ (model prog w) A.in1 (pure (ZV (.ret (Q9 g.objs.size)))) (λf t=> ∃v,f=.done (.ret v)/\Q v t) E t) I (by lia) (λh=>?_) (λh g' K=>?_)) (ZW _)))
 ·have e:=k (Pi us.length) (H h)
  rw[show(Pi us.length).map (λi=>us.getD i Qw)=us from Ur λi=>by
   by_cases l:i<us.length
   ·simp[l]
   ·simp[l]] at e
  exact⟨_,rfl,Pl ⟨_,rfl,e⟩⟩
 ·refine Qv (z h g' tk λc u y=>K c u (P6 (PB (B c u y))) (Po _ (B c u y))) (λκ t ⟨U,L⟩=>⟨U,?_⟩) λ_ _ x=>x
  rw[kat_ask_eq rfl] at L⊢;exact kas_wp_mono L λp t' ⟨R,J⟩=>⟨R,_,rfl,Pl ⟨_,rfl,k _ J⟩⟩
end
theorem IS: ∀ {a:List Int} {us:List Pk},bI (a.map V.int) us->uY us a
 | [],_,h=>by cases h;exact .nil
 |_::_,_,h=>by cases h with|cons b c=>exact .cons b (IS c)
open PySem PyProof.Rows
set_option maxHeartbeats 2000000
set_option maxHeartbeats 1000000
open PySem PySem.W PySem.Calls PyProof.Rows
theorem Bj {α:Type}(next:Nat->Nat): ∀(fuel k:Nat) (left:List α) (out:Array α),fuel=left.length->(jbN next fuel k left out).toList.Perm (out.toList++left)
 |0,k,left,out,h=>by
  obtain rfl:left=[]:=List.eq_nil_of_length_eq_zero h.symm;rw[QX];exact Uv _
 |fuel+1,k,left,out,h=>by
  have lt:next k % left.length<left.length:=RT _ (by lia)
  have e:left[next k % left.length]? =some left[next k % left.length]:=Pq lt;unfold jbN;rw[e];dsimp only;refine(Bj next fuel (k+1) _ _ (by rw[RJ,if_pos lt];lia)).trans ?_
  rw[Array.toList_push,QP];refine Ts _ ?_
  have a:left=left.take (next k % left.length)++left[next k % left.length]::left.drop (next k % left.length+1):=by
   conv=>lhs;rw[<-To (next k % left.length) left,Ry lt]
  rw[Uz]
  conv=>rhs;rw[a]
  exact(YB (l₁:=left.take (next k % left.length))).symm
theorem z6 {α:Type}(next:Nat->Nat)(xs:Array α):(pickOrder next xs).toList.Perm xs.toList:=by
 have:=Bj next xs.size 0 xs.toList #[] (by simp)
 unfold pickOrder;simpa using this
theorem Dp(r:Ris xs)(b:Bel xs j p):Qc xs j=p:=by
 have a:=Mf r j;rcases Sf (Qc xs j) p with c|c|c
 ·have lt:Qc xs j<xs.size:=by have:=b.le;lia
  have e:xs[Qc xs j]? =some xs[Qc xs j]:=P9 lt;have d:=b.lo _ _ c e;have f:=a.hi _ _ (Px _) e;lia
 ·exact c
 ·have lt:p<xs.size:=by have:=a.le;lia
  have e:xs[p]? =some xs[p]:=P9 lt;have d:=a.lo _ _ c e;have f:=b.hi _ _ (Px _) e;lia
theorem C5 {xs:Array Nat}(r:Ris xs)(f:i<=xs.size):Qc xs (if i=0 then 0 else xs.getD (i-1) 0+1)=i:=by
 refine Dp r ⟨f,λx a g b=>?_,λx a g b=>?_⟩
 ·rw[if_neg (by lia)];have lt:i-1<xs.size:=by lia
  have e:xs[i-1]? =some xs[i-1]:=P9 lt;have d:xs.getD (i-1) 0=xs[i-1]:=by simp[Tc,lt]
  rw[d]
  by_cases c:x=i-1
  ·subst c;rw[e] at b;cases b;lia
  ·have:=r.lt (show x<i-1 by lia) b e;lia
 ·by_cases c:i=0
  ·rw[if_pos c];lia
  ·rw[if_neg c];have lt:i-1<xs.size:=by lia
   have e:xs[i-1]? =some xs[i-1]:=P9 lt;have d:xs.getD (i-1) 0=xs[i-1]:=by simp[Tc,lt]
   rw[d];exact r.lt (show i-1<x by lia) e b
def gA(w:QD):Bool:=w.params.followText "set-order"
def iX(w:QD)(a:Addr)(ep:Nat)(es:Array (Int×Pk)):Array (Int×Pk):=if gA w=true then pickOrder (w.params.setOrder a ep) es else es
theorem oB(w:QD)(a:Addr)(ep:Nat)(es:Array (Int×Pk)):(iX w a ep es).toList.Perm es.toList:=by
 unfold iX;split
 ·exact z6 _ _
 ·exact Uv _
theorem lg(w:QD)(a:Addr)(ep:Nat)(es:Array (Int×Pk)):(iX w a ep es).size=es.size:=by
 have:=(oB w a ep es).length_eq;simpa using this
def wc(w:QD)(t:QT)(i:Nat):Nat:=if gA w=true then 0 else if i=0 then 0 else t.place.getD (i-1) 0+1
def c5(w:QD)(h:Heap)(d:Addr)(es:Array (Int×Pk))(ep:Nat)(t:QT):Prop:= ∃o xs,h.get? d=some o/\SetAt w o es ep t xs
def ce(w:QD)(t:QT)(h:Heap)(it d:Addr)(i n ep:Nat):Prop:= ∃o,h.get? it=some o/\o.cls=.type "set_iterator"/\o.data=.fields #[.int (wc w t i) 0,.int i 0,.ref d,.int n 0,.int ep 0]
theorem cp:Slot "set_iterator" "__next__" "set_iterator.__next__":=.of (owner:="set_iterator") (n:="__next__") (by rw[T3,SI];kernel_rfl) (by decide+kernel) (by decide+kernel) (by decide+kernel) (by first|exact .inl (by decide+kernel)|exact .inr (by decide+kernel)) (by rw[Xd];kernel_rfl)
theorem lT:Z1 table "set_iterator.__next__"=some SH.«set_iterator.__next__»:=entryFor_of_tree (by kernel_rfl)
theorem ww:Ze.lookup (jay ['r','o','t','a','r','e','t','i','_','t','e','s'].reverse)=some Manifest.sig_set_iterator:=by kernel_rfl
theorem mW(a:Pk):Z2 "set_iterator.__next__" ⟨[a],[]⟩:=by unfold Z2;rw[XJ (id:="set_iterator.__next__") (n:=['_','_','t','x','e','n','_','_']) (o:=['r','o','t','a','r','e','t','i','_','t','e','s']) (by kernel_rfl) ww];kernel_rfl
theorem mU:Slot "set_iterator" "__iter__" "set_iterator.__iter__":=.of (owner:="set_iterator") (n:="__iter__") (by rw[T3,SI];kernel_rfl) (by decide+kernel) (by decide+kernel) (by decide+kernel) (by first|exact .inl (by decide+kernel)|exact .inr (by decide+kernel)) (by rw[Xd];kernel_rfl)
theorem sk:Z1 table "set_iterator.__iter__"=some SH.«dict_keyiterator.__iter__»:=Xf (id':="dict_keyiterator.__iter__") (by kernel_rfl) rfl (by decide+kernel) (by kernel_rfl)
theorem ud(a:Pk):Z2 "set_iterator.__iter__" ⟨[a],[]⟩:=by unfold Z2;rw[XJ (id:="set_iterator.__iter__") (n:=['_','_','r','e','t','i','_','_']) (o:=['r','o','t','a','r','e','t','i','_','t','e','s']) (by kernel_rfl) ww];kernel_rfl
section
variable {prog:Qp}{w:QD}{A:Qq}{E:Pk->Pn->Prop}{s:Pn}{d it:Addr}{es:Array (Int×Pk)}{ep i:Nat}{t:QT}
theorem c5.ty(h:c5 w s.heap d es ep t):s.TypeIs (.ref d) "set":=let⟨o,_,h1,h2⟩:=h;⟨o,h1,h2.ex.1⟩
theorem c5.lt {h:Heap}(x:c5 w h d es ep t):d<h.objs.size:=let⟨_,_,h1,_⟩:=x;PB h1
theorem c5.to {h h':Heap}(x:c5 w h d es ep t)(k: ∀o,h.get? d=some o->h'.get? d=some o):c5 w h' d es ep t:=let⟨o,xs,h1,r⟩:=x;⟨o,xs,k o h1,r⟩
theorem ce.ty(h:ce w t s.heap it d i n ep):s.TypeIs (.ref it) "set_iterator":=let⟨o,h1,h2,_⟩:=h;⟨o,h1,h2⟩
theorem pM:Z1 table "set.__iter__"=some SH.«frozenset.__iter__»:=Xf (id':="frozenset.__iter__") (by kernel_rfl) rfl (by decide+kernel) (by kernel_rfl)
theorem dO(h:Q (gA w) s):PJ (model prog w) A setsByText Q E s:=by
 unfold setsByText;exact Ph (UK (Pl h))
theorem Fs(x:c5 w s.heap d es ep t)(q:Q (.ref s.heap.objs.size) {s with heap:=s.heap.push {cls:=.type "set_iterator",data:=.fields #[.int (wc w t 0) 0,.int 0 0,.ref d,.int es.size 0,.int ep 0]}}):PJ (model prog w) A (Ww (.ref d)) Q E s:=by
 have ty:=x.ty;obtain⟨o,xs,b,S⟩:=x;refine Ys ty Zf (QV Zf ty pM ?_ (F.args_set_iter_1 _));unfold SH.«frozenset.__iter__»;unfold jba Z3;simp only[S8,Rs,PH, ↓reduceIte,bind_assoc,T0,bne_self_eq_false];unfold SY jaz setDrawn setEntries;refine Ph (Pl ?_)
 try dsimp only
 refine Ph (Pl ?_);refine Ph (Ph (Ph (QC b S.hd S.fits (Pl (Pl ?_)))));refine Ph (Ph (QC b S.hd S.fits ?_));dsimp only;refine Ph (dO (Pl ?_));have c:(!gA w&&(!t.plain&&decide (es.size>1)))=false:=by rw[S.pl];simp
 refine T4 (λa=>absurd (show(!gA w&&(!t.plain&&decide (es.size>1)))=true from a) (by rw[c];decide)) λ_=>?_
 refine Ph (Pl (Ph (Uw b S.hd S.fits ?_)));refine Ph (Rh (Pl ⟨_,rfl,"set_iterator",_,⟨_,PD _ rfl,rfl⟩,cp.lookup,?_⟩));have:wc w t 0=0:=by unfold wc;split<;>rfl
 rw[this] at q;simpa [Uk] using q
theorem yk(f:s.heap.get? d=some o)(S:SetAt w o es ep t xs)(h:Q (iX w d ep es) s):PJ (model prog w) A (setWalk d) Q E s:=by
 unfold setWalk;refine Ph (QC f S.hd S.fits ?_);dsimp only;refine Ph (dO ?_);unfold iX at h
 by_cases c:gA w=true
 ·rw[if_pos c];rw[if_pos c] at h;exact Ph (UK (Pl h))
 ·rw[if_neg c];rw[if_neg c] at h;have b:(!t.plain&&decide (es.size>1))=false:=by rw[S.pl];rfl
  refine T4 (λa=>absurd (show(!t.plain&&decide (es.size>1))=true from a) (by rw[b];decide)) λ_=>?_
  have e:(!t.led&&decide (es.size>1))=false:=by
   have:=S.led;unfold gA at c;rw[this,eq_false_of_ne_true c];rfl
  refine Ph ?_
  show PJ _ _ (if(!t.led&&decide (es.size>1))=true then RX _ else pure PUnit.unit) _ _ _;rw[if_neg (by rw[e];decide)];exact Pl (Pl h)
theorem A3(g:s.heap.get? d=some o)(S:SetAt w o es ep t xs)(r:i<=es.size)(h:Q (((iX w d ep es)[i]?).map λe=>(e.2,wc w t (i+1))) s):PJ (model prog w) A (setNext d (wc w t i) i ep) Q E s:=by
 unfold setNext;refine Ph (QC g S.hd S.fits ?_);dsimp only;refine Ph (dO ?_)
 by_cases c:gA w=true
 ·rw[if_pos c,bne_self_eq_false];simp only[PH,if_false];refine Ph (yk g S (Pl ?_));have e: ∀i,wc w t i=0:=λi=>by unfold wc;rw[if_pos c]
  rw[e] at h⊢;exact h
 ·rw[if_neg c];have q:(!t.plain&&decide (es.size>1))=false:=by rw[S.pl];rfl
  refine T4 (λa=>absurd (show(!t.plain&&decide (es.size>1))=true from a) (by rw[q];decide)) λ_=>?_
  have l:(!t.led&& !es.isEmpty)=false:=by
   have:=S.led;unfold gA at c;rw[this,eq_false_of_ne_true c];rfl
  refine Ph ?_
  show PJ _ _ (if(!t.led&& !es.isEmpty)=true then RX _ else pure PUnit.unit) _ _ _;rw[if_neg (by rw[l];decide)];refine Pl ?_
  have f:=S.T.sz;unfold qV at f;rw[Pp,<-S.size] at f;have k:wc w t i=if i=0 then 0 else t.place.getD (i-1) 0+1:=by unfold wc;rw[if_neg c]
  have b:wc w t (i+1)=t.place.getD i 0+1:=by unfold wc;rw[if_neg c,if_neg (by lia)];rfl
  rw[k,C5 S.T.sp (by lia)];refine Pl ?_
  have p:iX w d ep es=es:=by unfold iX;rw[if_neg c]
  rw[p,b] at h
  by_cases j:i<es.size
  ·have m:t.place[i]? =some (t.place[i]'(by lia)):=P9 (by lia);have n:t.place.getD i 0=t.place[i]'(by lia):=by simp[Tc,show i<t.place.size by lia]
   rw[m];rw[n] at h;cases ee:es[i]? with
   |none=>rw[P9 j] at ee;cases ee
   |some e=>rw[ee] at h;exact h
  ·rw[Uh (by lia)] at h⊢;exact h
theorem Fz(a:ce w t s.heap it d i es.size ep)(x:c5 w s.heap d es ep t)(c:i<es.size)
 (q: ∀h',ce w t h' it d (i+1) es.size ep->Qz it s.heap h'->Q (some ((iX w d ep es)[i]'(by rw[lg];exact c)).2) {s with heap:=h'}):PJ (model prog w) A (TL (.ref it)) Q E s:=by
 have ty:=a.ty;obtain⟨o,e,j,b⟩:=id a;obtain⟨k,xs,h,S⟩:=id x;unfold TL;refine Ph (V3 (RM (name:=TH "__next__") ty cp (QV cp ty lT ?_ (mW _))));unfold SH.«set_iterator.__next__» Z3;simp only[S8,Rs,PH, ↓reduceIte,bind_assoc,T0,bne_self_eq_false];refine Ph (Pl ?_);refine Ph (Z4 e b ?_);dsimp only;refine Ph (Xv h S.hd S.fits ?_);rw[bne_self_eq_false];simp only[PH,if_false,Rt];refine Ph (A3 h S (Tf c) ?_);have lt:i<(iX w d ep es).size:=by rw[lg];exact c
 rw[P9 lt];dsimp only[Tk];refine Ph (Us e b (by simp) ?_);have g:(s.heap.update it (TW (·.setIfInBounds 0 (Uk (wc w t (i+1):Nat))))).get? it=some _:=QG _ e (Tq (SE b _));refine Ph (Us (s:={s with heap:=s.heap.update it (TW (·.setIfInBounds 0 (Uk (wc w t (i+1):Nat))))}) g (SE b _) (by simp) ?_);have f:(TW (·.setIfInBounds 1 (Uk ((i:Int)+1))) (TW (·.setIfInBounds 0 (Uk (wc w t (i+1):Nat))) o)).data=.fields #[.int (wc w t (i+1)) 0,.int ((i+1:Nat):Int) 0,.ref d,.int es.size 0,.int ep 0]:=by
  rw[SE (SE b _)];simp[Uk]
 have nx:ce w t ((s.heap.update it (TW (·.setIfInBounds 0 (Uk (wc w t (i+1):Nat))))).update it (TW (·.setIfInBounds 1 (Uk ((i:Int)+1))))) it d (i+1) es.size ep:=
  ⟨_,QG _ g (Tq f),(VP ..).trans ((VP ..).trans j),f⟩
 exact Pl ⟨_,rfl,Pl (q _ nx ((Q4 ..).trans (Q4 ..)))⟩
theorem Ho(e:A.handled=none)(c:ce w t s.heap it d es.size es.size ep)(x:c5 w s.heap d es ep t)
 (q: ∀h',VQ it s.heap h'->Q none {s with heap:=h'}):PJ (model prog w) A (TL (.ref it)) Q E s:=by
 have ty:=c.ty;obtain⟨o,h,i,f⟩:=id c;obtain⟨j,xs,g,S⟩:=id x;unfold TL;refine Ph (V3 (RM (name:=TH "__next__") ty cp (QV cp ty lT ?_ (mW _))));unfold SH.«set_iterator.__next__» Z3;simp only[S8,Rs,PH, ↓reduceIte,bind_assoc,T0,bne_self_eq_false];refine Ph (Pl ?_);refine Ph (Z4 h f ?_);dsimp only;refine Ph (Xv g S.hd S.fits ?_);rw[bne_self_eq_false];simp only[PH,if_false,Rt];refine Ph (A3 g S (Px _) ?_);rw[Uh (by rw[lg];exact Px _)];dsimp only[Option.map_none];refine Ph (Us h f (by simp) ?_);show PJ _ _ (newExc (.type "StopIteration") []>>=_) _ _ _;refine Ph ?_
 simp only[newExc,newTuple];refine Ph (Rh (Ph (m:=Vw _ _) (Xa (a:=Qw) (by first|rfl|(simp only[Vw];rfl)) (Rh ?_ (by size_fits)))) (by size_fits));simp only[raiseNew];refine Ph (wpAny_handled ?_);rw[show A.in1.handled=none from e];refine Ph (Pl (wpAny_throw ?_));refine Ph (TJ (T:="StopIteration") (b:=true) ⟨_,PD _ rfl,rfl⟩ ZY ?_);exact Pl (q _ (((Q4 ..).extBut.push _).push _))
theorem ce.to {h h':Heap}(x:ce w t h it d i n ep)(k: ∀o,h.get? it=some o->h'.get? it=some o):ce w t h' it d i n ep:=let⟨o,h1,r⟩:=x;⟨o,k o h1,r⟩
theorem Dw(a:ce w t s.heap it d i n ep)(h:Q (.ref it) s):PJ (model prog w) A (Ww (.ref it)) Q E s:=by
 have ty:=a.ty;refine Ys ty mU (QV mU ty sk ?_ (ud _));show PJ _ _ (ret (.ref it)) _ _ s;exact Pl ⟨_,rfl,"set_iterator",_,ty,cp.lookup,h⟩
theorem CB(f:A.handled=none)(I:Addr)(n:d≠I):Walks prog w A I [I,d] [I] es.size (λi v=> ∃e,(iX w d ep es)[i]? =some e/\v=e.2) (λi h=>ce w t h I d i es.size ep/\c5 w h d es ep t) where
 sub:=λb a=>by simp at a;simp[a]
 frame:=λ_ _ _ st l=>⟨st.1.to λo e=>l I (by simp) o e,st.2.to λo e=>l d (by simp) o e⟩
 item:=λi s Q E k st c=>Fz st.1 st.2 k λh' j m=>c _ h' s.toks ⟨_,P9 (by rw[lg];exact k),rfl⟩ ⟨j,st.2.to λo e=>m.extBut d o n e⟩ λb o a e=>m.extBut b o (λh=>a (by simp[h])) e
 done:=λs Q E st c=>Ho f st.1 st.2 λh' g=>c h' s.toks λb o a e=>g b o (λh=>a (by simp[h])) e
 self:=λ_ _ _ _ st c=>Dw st.1 c
theorem CY(c:s.TypeIs (.ref r) "set")(h:Q false s):PJ (model prog w) A (Vi (.ref r)) Q E s:=by
 unfold Vi;refine Ph (UX c PySem.F.slot_set_len.lookup ?_);generalize hid:("set.__len__":String)=id0;wp_delta;rw[show splitId id0=some ("set","__len__") from by subst hid;decide+kernel];subst hid;refine Ph (TJ (T:="set") (b:=true) c (by rw[Xd];kernel_rfl) ?_);refine T4 (λa=>absurd a (by decide)) (λ_=>?_);refine T4 (λ_=>?_) (λa=>absurd (by decide+kernel) a);refine Ph (X8 c ?_);exact Pl h
theorem Hm:KdlSrc prog w "set" d d es.size (λi v=> ∃e,(iX w d ep es)[i]? =some e/\v=e.2) (λh=>c5 w h d es ep t) where
 type:=λ_ h=>h.ty
 there:=λ_ h=>⟨h.lt,h.lt⟩
 keep:=λ_ _ h c=>h.to λo e=>c d (.inl rfl) o e
 notList:=by decide
 notTuple:=by decide
 hint:=λ_ _ _ _ h a=>CY h.ty a
 iter:=λ_ _ b h=>⟨_,_,λ_ _ a=>Fs h a,CB b _ (P6 h.lt),⟨_,PD _ rfl,rfl,rfl⟩,h.to λo e=>Po _ e⟩
end
set_option maxHeartbeats 4000000
def aU(w:QD):Obj:={cls:=.type "set",dict:=none,data:=.set #[] 0 (.fresh 0 0 (!gA w))}
theorem Cz(f m:Nat)(l:Bool):TOk (.fresh f m l) [] where
 pw:=⟨3,by lia,by lia,rfl⟩
 sz:=rfl
 sp:=Si
 sd:=Si
 lp:=λj h=>by cases h
 ld:=λj h=>by cases h
 dj:=λj h=>by cases h
 fl:=by show 0<=7;lia
 rc:=λx h=>by cases h
theorem qC(w:QD):bX w (aU w) #[] 0 (.fresh 0 0 (!gA w)) []:=⟨⟨⟨rfl,rfl,rfl⟩,rfl,rfl,Cz _ _ _,rfl,rfl,Vy⟩,by show 0*5<7*3;lia⟩
section
variable {prog:Qp}{w:QD}{A:Qq}{E:Pk->Pn->Prop}{s:Pn}{a b:Addr}{o:Obj}{es:Array (Int×Pk)}{ep:Nat}{t:QT}{xs:gR}{k:List Int}
theorem HH(h:Q (.ref s.heap.objs.size) {s with heap:=s.heap.push (aU w)}):PJ (model prog w) A (newSet (.type "set")) Q E s:=by
 unfold newSet;refine Ph (dO ?_);dsimp only;simp only[newObj];exact Ph (YZ (Pl h))
theorem ye {as:List Pk}(b:YN "set.__new__" ⟨.type "set"::as,[]⟩=pure ()){Q₁:Pk->Pn->Prop}(h:Q₁ (.ref s.heap.objs.size) {s with heap:=s.heap.push (aU w)}):R9 (model prog w) A (.call (.builtin "set.__new__") ⟨.type "set"::as,[]⟩) (wants Q₁ E) s:=by
 refine U0 ?_;show PJ _ A.in1 (do YN "set.__new__" ⟨.type "set"::as,[]⟩;W2 (.builtin "set.__new__" ⟨.type "set"::as,[]⟩)) _ _ s;refine Ph (Xa b (Pl ⟨V2 Zg _,RY F.entry_set_new ?_⟩));rw[RL Zg _];unfold SH.«set.__new__» Z5;have a:=WG;obtain⟨c,g,d,tk,os⟩:=s;dsimp only
 wp_walk;refine UK (Pl ?_)
 dsimp only;simp only[newObj];refine Ph (YZ (Pl ?_));exact Pl h
theorem zB(h:Q (.ref s.heap.objs.size) {s with heap:=s.heap.push (aU w)}):PJ (model prog w) A (call (.type "set") []) Q E s:=by
 obtain⟨c,tl,hmro⟩:=Ro.mro;have hmade:=Ro.made;have hsub:=Ro.sub;refine ZF (U0 ?_);show PJ _ _ (callAny (.type "set") _) _ _ _;refine Pl ⟨X0 _ (by decide+kernel),RY Yt ?_⟩;rw[X1 (WY "set" [] []) rfl];have h1:=Ro.notType;have h2:=Ro.canCreate;have hct:=F.typeCall_set_0
 repeat (any_goals (first|assumption|wp_step))
 refine Sq (ye (E:=E) F.newCall_set_0 (Q₁:=λobj s₁=>obj=.ref s.heap.objs.size/\s₁={s with heap:=s.heap.push (aU w)}) ⟨rfl,rfl⟩) λr s₁ hr=>?_
 cases r with
 |error e=>exact hr
 |ok fl=>
  cases fl with
  |ret obj=>
   obtain⟨rfl,rfl⟩:=hr;have hS:(s.heap.push (aU w)).get? s.heap.objs.size=some (aU w):=PD _ rfl;have hS:(s.heap.push (aU w)).get? s.heap.objs.size=some {cls:=.type "set",dict:=none,data:=.set #[] 0 (.fresh 0 0 (!gA w))}:=hS;have hT:XM {s with heap:=s.heap.push (aU w)} (.ref s.heap.objs.size) "set":=⟨_,hS,rfl⟩
   have hli:=Ro.init.lookup;have hbi:=Ro.init.bind (.ref s.heap.objs.size)
   repeat (any_goals (first|assumption|wp_step))
   refine Sq (Xg (R:=wants (λr s₂=>r=.none/\Q (.ref s.heap.objs.size) s₂) E) Ro.init.plain YO (check_set_init hT ?_)) λr₂ s₂ hr₂=>?_
   ·unfold SH.«set.__init__» noKeywords
    wp_walk
    exact⟨rfl,h⟩
   ·cases r₂ with
    |error e=>exact hr₂
    |ok fl₂=>
     cases fl₂ with
     |ret r=>
      obtain⟨rfl,hq⟩:=hr₂
      repeat (any_goals (first|assumption|wp_step))
     |_=>exact hr₂.elim
  |_=>exact hr.elim
theorem SetAt.ty(b:s.heap.get? a=some o)(S:SetAt w o es ep t xs):s.TypeIs (.ref a) "set":=⟨o,b,S.ex.1⟩
theorem Hd(f:s.heap.get? a=some o)(S:SetAt w o es ep t xs)(l:tq prog w s.heap xs)(n:A.units+1<Rp)(g:(KI prog w).is s.heap k b)
 (h:Q (.bool (decide (k∈xs.map (·.1)))) {s with toks:=s.toks+(KI prog w).draws k}):PJ (model prog w) A (Ru .In (.ref b) (.ref a)) Q E s:=by
 have e:=SetAt.ty f S;show PJ _ _ (do return .bool (<-contains (.ref a) (.ref b))) Q E s;refine Ph ?_
 unfold contains
 try with_reducible refine Qt ?_
 refine Ph (UX e U7.lookup ?_);show PJ _ _ (if(some (Value.builtin "set.__contains__")==some Qw)=true then _ else _) _ E s;rw[if_neg (by rw[beq_builtin_none];exact Tg)];refine Ph (wpAny_callSpecialUnlessNone?_slot (name:=TH "__contains__") e U7 (QV U7 e entry_set_contains ?_ (F.args_set_contains_2 _ _)));unfold SH.«frozenset.__contains__» TF;simp only[S8,bind_assoc];unfold SY UL setContains;refine Ph (Pl ?_)
 try dsimp only
 refine Ph (Pl ?_)
 try dsimp only
 refine Ph (Z6 ?_);refine Qt ?_
 have d:(KI prog w).room A.in1:=Vz n;refine Ph ((KI prog w).pyHash d g ?_);rw[AS];refine Ph (xS (s:={s with toks:=s.toks+(KI prog w).draws k}) f S l d g (λi c m=>?_) λj=>?_)
 ·rw[lm (PU.mpr ⟨(k,c),Ql m,rfl⟩)] at h;refine Pl ?_
  exact Pl ⟨_,rfl,Rg (Pl h)⟩
 ·rw[lC j] at h;refine Pl ?_
  exact Pl ⟨_,rfl,Rg (Pl h)⟩
theorem DR(j:s.heap.get? a=some o)(S:bX w o es ep t xs)(p:tq prog w s.heap xs)(v:A.units+1<Rp)(l:(KI prog w).is s.heap k b)(f:xs.length<=1000)
 (h: ∀h' i d e t' c,Qz a s.heap h'->h'.get? a=some i->bX w i d e t' c->((k∈xs.map (·.1)/\c=xs)\/(k∉xs.map (·.1)/\c.Perm (xs++[(k,b)])))->Q .none {s with heap:=h',toks:=s.toks+(KI prog w).draws k}):
 PJ (model prog w) A (call (.builtin "set.add") [.ref a,.ref b]) Q E s:=by
 have m:=SetAt.ty j S.toSetAt;have g:(KI prog w).room A.in1:=Vz v;refine QV F.slot_set_add m F.entry_set_add ?_ (F.args_set_add_2 _ _)
 unfold SH.«set.add» TF;simp only[S8,bind_assoc];unfold SY setAdd;refine Ph (Pl ?_)
 try dsimp only
 refine Ph (Pl ?_)
 try dsimp only
 refine Ph ?_
 refine Qt (Ph ((KI prog w).pyHash g l ?_));rw[AS];refine uo (s:={s with toks:=s.toks+(KI prog w).draws k}) j S p g l f (λr=>?_) λn h' i d e t' c x y q u=>?_
 ·exact Pl ⟨_,rfl,h s.heap o es ep t xs (SU a s.heap) j S (.inl ⟨r,rfl⟩)⟩
 ·exact Pl ⟨_,rfl,h h' i d e t' c x y q (.inr ⟨n,u⟩)⟩
theorem vi(m:s.heap.get? a=some o)(S:bX w o es ep t xs)(r:tq prog w s.heap xs)(x:A.units+1<Rp)(n:(KI prog w).is s.heap k b)(g:xs.length<=1000)
 (h: ∀h' l e f t' d,Qz a s.heap h'->h'.get? a=some l->bX w l e f t' d->((k∉xs.map (·.1)/\d=xs)\/(∃i c,xs[i]? =some (k,c)/\d=xs.eraseIdx i))->Q .none {s with heap:=h',toks:=s.toks+(KI prog w).draws k}):
 PJ (model prog w) A (call (.builtin "set.discard") [.ref a,.ref b]) Q E s:=by
 have p:=SetAt.ty m S.toSetAt;have j:(KI prog w).room A.in1:=Vz x;refine QV F.slot_set_discard p F.entry_set_discard ?_ (F.args_set_discard_2 _ _)
 unfold SH.«set.discard» TF;simp only[S8,bind_assoc];unfold SY UL setDiscard;refine Ph (Pl ?_)
 try dsimp only
 refine Ph (Pl ?_)
 try dsimp only
 refine Ph (Z6 ?_);refine Qt (Ph ((KI prog w).pyHash j n ?_));rw[AS];refine pC (s:={s with toks:=s.toks+(KI prog w).draws k}) m S r j n g (λq=>?_) λB h' l e f t' d y z u v=>?_
 ·exact Pl ⟨_,rfl,h s.heap o es ep t xs (SU a s.heap) m S (.inl ⟨q,rfl⟩)⟩
 ·exact Pl ⟨_,rfl,h h' l e f t' d y z u (.inr v)⟩
end
def we(i:Nat)(ρ:aG):Option (List (List Int)):=match ρ[i]? with
 |some (.ob (.tset ks))=>some ks
 |_=>none
theorem sQ(h:we i ρ=some ks):ρ[i]? =some (.ob (.tset ks)):=by
 unfold we at h;split at h
 ·cases h;assumption
 ·cases h
abbrev l9(xs:gR):List V:=xs.map λx=>V.ref x.2
abbrev zC(xs:gR):List D:=xs.map λx=>D.tup (x.1.map D.int)
section
variable {K:Pz}{c:Ct}{hid:bN}{ρ:aG}{σ:St}{H:Hp}{a:Addr}
theorem SR.setT(h:SR K c hid ρ σ H)(e:we i ρ=some ks): ∃a xs,σ[i]? =some (some (.ref a))/\hid a=true/\c.H₀ a=none/\H a=some (.tst xs)/\(xs.map (·.1)).Perm ks/\Reps K (vw H hid) (l9 xs) (zC xs):=by
 obtain⟨a,b,⟨d,k⟩,us,f,g,j⟩:=h.sl i _ (sQ e);exact⟨a,us,b,d,k,f,g,j⟩
theorem SR.putS{b:gR}(h:SR K c hid ρ σ H)(e:we i ρ=some ks)(g:σ[i]? =some (some (.ref a)))(p:(b.map (·.1)).Perm ks')(r:Reps K (vw H hid) (l9 b) (zC b)):SR K c hid (ρ.set i (.ob (.tset ks'))) σ (b9 H a (.tst b)):=by
 obtain⟨m,us,f,d,j,k,n,l⟩:=h.setT e;rw[g] at f;cases f;exact h.putO (sQ e) trivial trivial g (.inl rfl) d j nofun ⟨⟨d,j⟩,b,aV,p,by rw[fZ d];exact r⟩
end
theorem items_int: ∀ {a:List Int} {us:List Pk},bI (a.map V.int) us->PySem.ItemsAre (intKind prog w) a us
 | [],_,h=>by cases h;exact .nil
 |n::a,_,h=>by
  cases h with
  |cons r rs=>
   obtain⟨t,rfl⟩:=r;exact .cons (intKind_is _ _ _ _) (items_int rs)
section
variable {X:Cx}{ah:List (Addr×Obj)}{σ:St}{H:Hp}{s:Pn}{a b:Addr}{A:Qq}{E:Pk->Pn->Prop}
theorem nO {ks:List Int}(I:Inv X ah σ H s)(h:SqT X.K H b (ks.map V.int)):(KI X.prog X.w).is s.heap ks b:=by
 obtain⟨a,r,⟨o,c,d,n,e⟩,_⟩:=I.tuple h;exact⟨o,a.toArray,n,c,d,e,by simpa using items_int r⟩
theorem rh(I:Inv X ah σ H s)(h: ∀x∈xs,SqT X.K H x.2 (x.1.map V.int)):tq X.prog X.w s.heap xs:=λx a=>nO I (h x a)
def Mr:List V->Hp->VK->Prop:=λxs H Q=>xs=[]/\ ∀a,H a=none->Q (.ref a) (b9 H a (.tst []))
theorem zA:dH X (.type "set") Mr:=by
 intro a s σ H xs us Q I r h;obtain⟨rfl,q⟩:=h;cases r;refine zB ?_
 exact⟨.ref s.heap.objs.size,_,I.laid (t':=s.toks) (λb o e=>Po _ e) (Px _) (show cc X.prog X.w _ _ _ (.tst []) from⟨_,_,_,_,PD _ rfl,qC _⟩),rfl,q _ (I.hok.fresh (Px _))⟩
def Mi(zs:gR)(k:List Int)(b:Addr)(a:gR):Prop:=(k∈zs.map (·.1)/\a=zs)\/(k∉zs.map (·.1)/\a.Perm (zs++[(k,b)]))
def Mx(zs:gR)(k:List Int)(a:gR):Prop:=(zs.map (·.1)).Nodup/\((k∉zs.map (·.1)/\a=zs)\/(∃(i:Nat) (c:Addr),zs[i]? =some (k,c)/\a=zs.eraseIdx i))
def Mz(K:Pz):V->List V->Hp->VK->Prop:=λx xs H Q=> ∃a b zs k,x=.ref a/\xs=[.ref b]/\H a=some (.tst zs)/\SqT K H b (k.map V.int)/\(∀z∈zs,SqT K H z.2 (z.1.map V.int))/\zs.length<=1000/\ ∀c,Mi zs k b c->Q .non (b9 H a (.tst c))
def LY(K:Pz):V->List V->Hp->VK->Prop:=λx xs H Q=> ∃a b zs k,x=.ref a/\xs=[.ref b]/\H a=some (.tst zs)/\SqT K H b (k.map V.int)/\(∀z∈zs,SqT K H z.2 (z.1.map V.int))/\zs.length<=1000/\ ∀c,Mx zs k c->Q .non (b9 H a (.tst c))
theorem AM {h':Heap}{t':Nat}(I:Inv X ah σ H s)(e:H a=some (.tst xs))(d:Qz a s.heap h')(c:h'.get? a=some o')(S:bX X.w o' es' ep' tb' zs'):
 Inv X ah σ (b9 H a (.tst zs')) {s with heap:=h',toks:=t'}:=I.write (x:=a) (e:=a) (by rw[e];trivial) (.inl rfl) (λb u g f=>(d.2 b g).trans f) ⟨_,c⟩ ⟨_,_,_,_,c,S⟩
theorem GO(z:X.A.units+1<Rp):Ng X "set.add" (Mz X.K):=by
 intro D s σ H x xs v us Q I e j h;obtain⟨a,b,zs,k,rfl,rfl,c,g,p,l,q⟩:=h;cases e;obtain⟨u,rfl,d⟩:=j.one;cases d;obtain⟨o,es,ep,t,y,S⟩:=(show cc X.prog X.w H s.heap a (.tst zs) from I.hok a _ c)
 refine DR y S (rh I p) z (nO I g) l λh' E n f t' r i B m C=>?_
 exact⟨.non,_,AM I c i B m,rfl,q _ C⟩
theorem HN(z:X.A.units+1<Rp):Ng X "set.discard" (LY X.K):=by
 intro D s σ H x xs v us Q I e j h;obtain⟨a,b,zs,k,rfl,rfl,c,g,p,l,q⟩:=h;cases e;obtain⟨u,rfl,d⟩:=j.one;cases d;obtain⟨o,es,ep,t,y,S⟩:=(show cc X.prog X.w H s.heap a (.tst zs) from I.hok a _ c)
 refine vi y S (rh I p) z (nO I g) l λh' E n f t' r i B m C=>?_
 exact⟨.non,_,AM I c i B m,rfl,q _ ⟨S.nd,C⟩⟩
end
section
variable {X:Cx}{o i:Expr}{pos:Pos}{td ty:TE}
def Oa(K:Pz)(ty e:TE):TE:=λσ H Q=>ty σ H λy d=>e σ d λx c=> ∃a b zs k,x=.ref a/\y=.ref b/\c a=some (.tst zs)/\SqT K c b (k.map V.int)/\(∀z∈zs,SqT K c z.2 (z.1.map V.int))/\Q (.bl (decide (k∈zs.map (·.1)))) c
theorem Jt(C:X.A.units+1<Rp)(p:PE X i ty)(f:PE X o td):PC X .In i o (Oa X.K ty td):=by
 intro j s σ H Q I h;refine bT (p j s σ H _ I h) λB q ⟨y,v,n,r,E⟩=>bT (f j q σ v _ n E) λu s2 e=>?_
 obtain⟨x,g,c,l,a,b,zs,k,m,D,G,F,z,d⟩:=e;subst m D;obtain rfl:u=Q9 a:=l;obtain rfl:B=Q9 b:=r;obtain⟨o,es,ep,t,f,S⟩:=(show cc X.prog X.w g s2.heap a (.tst zs) from c.hok a _ G)
 refine Hd f S.toSetAt (rh c z) C (nO c F) ?_
 have d:Q (.bl (decide (k∈Yo (λx:List Int×Addr=>x.1) zs))) g:=d;generalize decide (k∈Yo (λx:List Int×Addr=>x.1) zs)=bb at d⊢;exact⟨.bl bb,g,c.tok _,rfl,d⟩
end
abbrev OB(K:Pz)(H:Hp):List V->List (List Int)->Prop:=Paired λy ks=> ∃b,y=.ref b/\SqT K H b (ks.map V.int)
theorem EN {K:Pz}: ∀ {zs:gR},(∀z∈zs,SqT K H z.2 (z.1.map V.int))->OB K H (l9 zs) (zs.map (·.1))
 | [],_=>.nil
 |z::zs,h=>.cons ⟨z.2,rfl,h z PV⟩ (EN λy a=>h y (PK _ a))
theorem Bm {K:Pz}: ∀ {ys:List V} {a:List (List Int)} {i:Nat},OB K H ys a->i<a.length-> ∃b,ys.getD i .non=.ref b/\SqT K H b ((a.getD i []).map V.int)
 |_,_,_,.nil,e=>by simp at e
 |_,_,0,.cons h _,e=>by obtain⟨b,c,d⟩:=h;exact⟨b,by simpa using c,by simpa using d⟩
 |_,_,i+1,.cons _ r,e=>by
  obtain⟨b,c,d⟩:=Bm (i:=i) r (by simpa using e);exact⟨b,by simpa using c,by simpa using d⟩
theorem qT: ∀zs:gR,bI (l9 zs) (zs.map λx=>Q9 x.2)
 | []=>.nil
 |_::zs=>.cons rfl (qT zs)
theorem yr {α β:Type}(f:α->β){l m:List β}(p:l.Perm m): ∀zs:List α,m=zs.map f-> ∃a:List α,a.Perm zs/\l=a.map f:=by
 induction p with
 |nil=>intro zs e;exact⟨zs,Uv _,e⟩
 |cons x p s=>
  intro zs e;cases zs with
  |nil=>cases e
  |cons z zs=>
   rw[Pu] at e;injection e with j b
   obtain⟨a,d,g⟩:=s zs b;exact⟨z::a,d.cons z,by rw[j,g];rfl⟩
 |swap x y l=>
  intro zs e;cases zs with
  |nil=>cases e
  |cons z zs=>
   cases zs with
   |nil=>cases e
   |cons n zs=>
    rw[Pu,Pu] at e;injection e with j b
    injection b with b r
    exact⟨n::z::zs,Xb z n zs,by rw[j,b,r];rfl⟩
 |trans t u c h=>
  intro zs e;obtain⟨k,d,g⟩:=h zs e;obtain⟨i,q,o⟩:=c k g;exact⟨i,q.trans d,o⟩
theorem je {k l:List (List Int)}(h:k.Perm l):bC bx k=bC bx l:=lz zk ((aM k).trans h) (lc zk k)
section
variable {X:Cx}
open PySem.W
theorem n4(hc:X.calm=true):dH X (.builtin "sorted") (λxs H Q=> ∃a zs,xs=[.ref a]/\H a=some (.tst zs)/\(∀z∈zs,SqT X.K H z.2 (z.1.map V.int))/\zs.length<64/\(∀z∈zs,z.1≠[])/\
 ∀l (L:gR),H l=none->(∀z∈L,z∈zs)->L.map (·.1)=bC bx (zs.map (·.1))->Q (.ref l) (b9 H l (.lst (l9 L)))):=by
 intro ah s σ H xs vs Q I r h;obtain⟨a,B,rfl,ha,U,hz0,Y,q⟩:=h;obtain⟨u,rfl,rx⟩:=j2 r;cases rx;obtain⟨o,es,ep,t,ho,S⟩:=(show cc X.prog X.w H s.heap a (.tst B) from I.hok a _ ha)
 obtain⟨zs,O,ez⟩:=yr wP (oB X.w a ep es) B S.he;have hsq: ∀z∈zs,SqT X.K H z.2 (z.1.map V.int):=λz N=>U z (O.mem_iff.mp N)
 have R: ∀k∈zs.map (·.1),k≠[]:=λk hk=>by
  obtain⟨z,N,rfl⟩:=PU.mp hk;exact Y z (O.mem_iff.mp N)
 have N:zs.length<64:=by rw[O.length_eq];exact hz0
 have ky:=EN hsq;obtain⟨d,A⟩: ∃d,d=zs.map (·.1):=⟨_,rfl⟩
 rw[<-A] at ky R;have lk:d.length=zs.length:=by rw[A,Pp]
 obtain⟨y,E⟩: ∃y,y=zs.map λx=>Q9 x.2:=⟨_,rfl⟩
 have li:y.length=d.length:=by rw[E,Pp,lk]
 have rv:bI (l9 zs) y:=by rw[E];exact qT zs
 have sz:es.size=y.length:=by rw[S.toSetAt.size,<-O.length_eq,li,lk]
 have raw:c5 X.w s.heap a es ep t:=⟨o,B,ho,S.toSetAt⟩
 have gi: ∀i,i<d.length-> ∃(b:Addr) (o:Obj) (J:List Pk) (n:Nat),y.getD i Qw=.ref b/\s.heap.get? b=some o/\o.cls=.type "tuple"/\o.data=.seq J.toArray n/\uY J (d.getD i []):=λi f=>by
  obtain⟨b,Z,h2⟩:=Bm ky f;have r1:=o5 rv i;rw[Z] at r1;obtain⟨J,r',⟨o,ho,hc,n,hd⟩,_⟩:=I.tuple h2;exact⟨b,o,J,n,r1,ho,hc,hd,IS r'⟩
 have kt: ∀(g:Heap),(∀c o,s.heap.get? c=some o->g.get? c=some o)-> ∀(l:List Pk) (F:List (List Int)),l.length=F.length->(∀i,i<F.length-> ∃(b:Addr) (o:Obj) (J:List Pk) (n:Nat),l.getD i Qw=.ref b/\s.heap.get? b=some o/\o.cls=.type "tuple"/\o.data=.seq J.toArray n/\uY J (F.getD i []))->(∀k∈F,k≠[])->
  ∃W,KatTups g l W/\W.length=l.length/\ ∀v∈W,∃i t,v=Vk i t:=by
  intro g M l
  induction l with
  |nil=>intro F _ _ _;exact⟨[],.nil,rfl,λ_ h=>nomatch h⟩
  |cons v l ih=>
   intro F hl hg hk;cases F with
   |nil=>cases hl
   |cons m F=>
    obtain⟨W,f1,f2,f3⟩:=ih F (by simpa using hl) (λi f=>by simpa using hg (i+1) (by simpa using f)) λk hk'=>hk k (by simp[hk'])
    obtain⟨b,o,J,n,g1,g2,g3,g4,g5⟩:=hg 0 (by simp);simp[Qr] at g1 g5;subst g1;cases m with
    |nil=>exact absurd rfl (hk [] (by simp))
    |cons x xs=>
     cases g5 with
     |cons y1 y2=>
      obtain⟨t,rfl⟩:=y1;refine⟨_,jbI (M _ _ g2) g3 g4 (by simp;rfl) f1,by simp[f2],λv hv=>?_⟩;rcases PX.mp hv with rfl|hv
      ·exact⟨_,_,rfl⟩
      ·exact f3 v hv
 refine yx (us:=y) (G:=λD=>(∀i∈D,i<d.length)/\D.map (λi=>d.getD i [])=bC bx d) (sz▸Hm (es:=es) (ep:=ep) (t:=t)) (λi v f hv=>?_) (I.ok.hd hc) raw (by lia) (λfew=>⟨λi f=>?_,?_⟩) (λh2 g tk M=>?_) (λg tk p e D M hp hG hg=>?_)
 ·obtain⟨e,Z,rfl⟩:=hv;rw[<-Qa,ez,Qi] at Z;obtain⟨x,h2,rfl⟩:=QR.mp Z;rw[E,Qi,h2];rfl
 ·rw[Pj] at f;lia
 ·rw[li,mi,jR (by lia)]
 ·obtain⟨W,f1,f2,f3⟩:=kt g M y d li gi R;refine kat_kind (T:=.type "int") f1 (by lia) (λv hv=>?_) (by rfl) ⟨rfl,?_⟩
  ·obtain⟨i,t,rfl⟩:=f3 v hv;exact jaU
  ·rw[li];refine uH (b:=λi j=>bx (d.getD i []) (d.getD j [])) (Fn zk _) (by lia) (λi j C f hj hC=>?_) λp P S=>⟨rfl,?_,?_⟩
   ·obtain⟨b1,o1,ts1,n1,x1,x2,x3,x4,x5⟩:=gi i f;obtain⟨b2,o2,ts2,n2,y1,y2,y3,y4,y5⟩:=gi j hj;unfold Ym;rw[x1,y1];refine kat_lt (M _ _ x2) x4 (M _ _ y2) y4 ?_
    refine vM 0 x5 y5 ?_ hC;have z1:=TR x5;have z2:=TR y5;simp[z1,z2]
   ·intro i f;have:=P.perm.mem_iff.mp (SN.mp f);simpa using this
   ·exact kl zk P S
 ·have lt: ∀i∈D,i<zs.length:=λi f=>by have:=hG.1 i f;lia
  have e1:(D.map λi=>zs.getD i ([],0)).map (·.1)=bC bx (B.map (·.1)):=by
   rw[<-je (O.map (·.1)),<-A,<-hG.2,PM];refine P2 λi f=>?_
   have:=lt i f;rw[A];simp[Qr,this]
  have e2:l9 (D.map λi=>zs.getD i ([],0))=D.map λi=>(l9 zs).getD i .non:=by
   show(D.map λi=>zs.getD i ([],0)).map (λx=>V.ref x.2)=_;rw[PM];refine P2 λi f=>?_
   have:=lt i f;simp[l9,Qr,this]
  have ll:D.length=B.length:=by
   have:=congrArg Sd e1;rw[Pp,Pp,(aM (lt:=bx) (B.map (·.1))).length_eq,Pp] at this;exact this
  have qq:=q p (D.map λi=>zs.getD i ([],0)) (I.hok.fresh hp) (λz N=>by
   obtain⟨i,f,rfl⟩:=PU.mp N;have:=lt i f;refine O.mem_iff.mp ?_
   simp[Qr,this]) e1
  rw[e2] at qq;refine⟨.ref p,_,I.laid (t':=tk) M hp (show cc X.prog X.w _ g _ (.lst (D.map λi=>(l9 zs).getD i .non)) from⟨?_,_,e,oK rv D,hg⟩),rfl,qq⟩;rw[Pp,ll,Q7];lia
end
theorem cU {K:Pz}: ∀ {xs:gR},Reps K F (l9 xs) (zC xs)-> ∀x∈xs,Rep K F (.ref x.2) (.tup (x.1.map D.int))
 | [],_,x,h=>by cases h
 |y::xs,r,x,h=>by
  cases r with
  |cons r rs=>
   rcases PX.mp h with rfl|h
   ·exact r
   ·exact cU rs x h
theorem ka {K:Pz}: ∀ {xs:gR},(∀x∈xs,Rep K F (.ref x.2) (.tup (x.1.map D.int)))->Reps K F (l9 xs) (zC xs)
 | [],_=>.nil
 |x::xs,h=>.cons (h x PV) (ka λy a=>h y (PK _ a))
theorem n8 {K:Pz}{a:List Int}(h:Rep K (vw H hid) (.ref b) (.tup (a.map D.int))):SqT K H b (a.map V.int):=by
 obtain⟨f,z,e,_,c,d⟩:=(show cs K H (vw H hid) (.ref b) (.tup (a.map D.int)) from .inl h).tup;cases e;rw[qY d,PM] at c;exact c
section
variable {X:Cx}{c:Ct}{k k1 k2:Kd}{e f ev:Expr}{es:List Expr}{fe ff fk fv:FE}{fs:FA}{pos pos' py apos cpos p:Pos}{x y:Str}{x1:_}
def IE(i:Nat):FS:=λρ=>.nx (ρ.set i (.ob (.tset [])))
theorem Hg(i:Nat)(r:X.N.Nodup)(n:X.mg "set"=none)(v:X.N[i]? =some x:=by rfl)(u:EX X.env.scope x:=by first|exact RA rfl|exact Q1 rfl)(s:S5 (.Call (.Name "set" p) [] [] cpos) (some (.Name x pos')) pos.line X.env=pure false:=by rfl)
 (t:X.fn x=true\/X.env.scope.names.lookup x=some .local:=by first|exact .inl rfl|exact .inr rfl|assumption) (m:Gl X "set":=by rfl) (hv:Rm "set"=some (.type "set"):=by kernel_rfl):DS X c k (.Assign [.Name x pos'] (.Call (.Name "set" p) [] [] cpos) pos) (IE i):=λρ=>PS.imp (vD r v u (y0 zA m n hv) s t) λD σ H f=>by
 obtain⟨hid,e,q⟩:=f;refine⟨rfl,λa d=>?_⟩;have g:=aT d (.tst []);have j:=e.fresh d;refine q _ _ (bn hid a) (SR.setD (a:=a) (b:=.tset []) (e.hide g d aV) ⟨⟨fL,e.fresh0 d⟩,[],aV,Uv _,.nil⟩ (e.notOw j) i) λb o w=>?_
 obtain⟨l,h⟩:=bQ.mp w;refine bQ.mpr ⟨?_,g b o h⟩;unfold bn;rw[l];have:b≠a:=bF h d;simp[this]
def C2(i:Nat)(fk:FE):FT:=λρ=>(we i ρ).bind λks=>((fk ρ).bind De).map λk=>decide (k∈ks)
theorem HL(i:Nat)(I:X.A.units+1<Rp)(B:DP X c k1 e fe)(C:X.N[i]? =some y:=by rfl)(m:wK X.env.scope y:=by first|exact RA rfl|exact Q1 (RA rfl)|exact Q1 (Q1 rfl))(f:(y==("__debug__":Str))=false:=by decide)
 (j:(y==("__classdict__":Str))=false:=by decide) (E:SW .In (.Name y py)=false:=by rfl):DT X c (.Compare e [.In] [.Name y py] pos) (C2 i fe):=λhid ρ=>
 PT.imp (J6 (Jt I (B hid ρ) (pv i C m f j)) E) λσ H Q k=>by
  obtain⟨l,d,f,q⟩:=k;obtain⟨ks,F,f⟩:=PR.mp f;obtain⟨h,x,rfl⟩:=QR.mp f;obtain⟨M,v,s⟩:=PR.mp x;have p:=ox s;subst p;obtain⟨a,xs,D,J,L,G,w,r⟩:=l.setT F;refine⟨l,_,v,λz o s2 t=>⟨.ref a,D,?_⟩⟩;obtain⟨b,rfl,g⟩:=zI (RK.b k1 t λa n=>l.fresh n);have g:SqT X.K o b (h.map V.int):=by unfold iK at g;rw[PM] at g;exact g
  refine⟨a,b,xs,h,rfl,rfl,s2 _ _ G,g,λz u=>n8 ((cU r z u).mono (aW s2)),_,rfl,?_⟩;rw[show decide (h∈xs.map (·.1))=decide (h∈ks) from decide_eq_decide.mpr w.mem_iff];exact q o s2
def lI(ks:List (List Int))(k:List Int):List (List Int):=if k∈ks then ks else ks++[k]
def lQ(ks:List (List Int))(k:List Int):List (List Int):=ks.filter λx=>decide (x≠k)
def wf(a:List (List Int)->List Int->List (List Int))(i:Nat)(fk:FE):GE:=λρ=>(we i ρ).bind λks=>((fk ρ).bind De).bind λk=>if ks.length<=1000 then some (.non,ρ.set i (.ob (.tset (a ks k)))) else none
theorem DX {zs a:gR}{k:List Int}(h:Mi zs k b a)(p:(zs.map (·.1)).Perm ks):(a.map (·.1)).Perm (lI ks k)/\ ∀z∈a,z∈zs\/z=(k,b):=by
 unfold lI;rcases h with⟨c,rfl⟩|⟨c,e⟩
 ·rw[if_pos (p.mem_iff.mp c)];exact⟨p,λz d=>.inl d⟩
 ·rw[if_neg λw=>c (p.mem_iff.mpr w)];refine⟨(e.map (·.1)).trans ?_,λz d=>?_⟩
  ·rw[Qm];exact p.append (Uv _)
  ·rcases QL.mp (e.mem_iff.mp d) with q|q
   ·exact .inl q
   ·exact .inr (by simpa using q)
theorem F5 {zs a:gR}{k:List Int}(h:Mx zs k a)(p:(zs.map (·.1)).Perm ks):(a.map (·.1)).Perm (lQ ks k)/\ ∀z∈a,z∈zs:=by
 obtain⟨b,h⟩:=h;unfold lQ;have f:=p.filter λx=>decide (x≠k)
 rcases h with⟨g,rfl⟩|⟨i,c,g,rfl⟩
 ·refine⟨?_,λz m=>m⟩;have:(a.map (·.1)).filter (λx=>decide (x≠k))=a.map (·.1):=QN.mpr λx q=>lm λw=>g (w▸q)
  rw[this] at f;exact f
 ·refine⟨?_,λz m=>V4 m⟩;refine List.Perm.trans ?_ f;have o:(zs.map (·.1))[i]? =some k:=by rw[Qi,g];rfl
  rw[<-oT];generalize zs.map (·.1)=l at o b;refine(Qe (Te (SG _ _) b) (Te Xw b)).mpr λx=>?_
  rw[UE,QW,lb];constructor
  ·rintro⟨j,n,e⟩;refine⟨Ql e,λw=>n ?_⟩;subst w;exact(VR (PL.mp e).1 b).mp (e.trans o.symm)
  ·rintro⟨h,n⟩;obtain⟨j,d⟩:=Qo.mp h;exact⟨j,λw=>by subst w;rw[o] at d;cases d;exact n rfl,d⟩
theorem HI(i:Nat)(hu:X.A.units+1<Rp)(Z:DP X c .s e fe)
 (hN:X.N[i]? =some y:=by rfl) (hv:wK X.env.scope y:=by first|exact RA rfl|exact Q1 (RA rfl)|exact Q1 (Q1 rfl)) (P:(y==("__debug__":Str))=false:=by decide) (r:(y==("__classdict__":Str))=false:=by decide)
 (k:UR (.Name y py) "add" X.env (eval (.Name y py) X.env)=eval (.Name y py) X.env:=by rfl)
 (n:((R5 pos (PP [e] X.env)).all (λx=> !x.1)&&(Yg pos (VM [] X.env)).all (λx=>x.1.isSome)&&decide ([e].length+([]:List Vb).length+(if([]:List Vb).isEmpty then 0 else 1)<30))=true:=by rfl)
 (j:(apos.endLine==pos.line)=true:=by rfl) (J:PP [e] X.env=(false,eval e X.env)::PP [] X.env:=by rfl) (g:(R5 pos (PP [] X.env)).any (·.1)=false:=by rfl):
 DE X c .s (.Call (.Attribute (.Name y py) "add" apos) [e] [] pos) (wf lI i fe):=λhid ρ=>
 PE.imp (A6 WH PySem.F.slot_set_add PySem.F.type_set_add (GO hu) (pv i hN hv P r) (c8 (Z hid ρ) fX J) k n j J g) λσ H Q u=>by
  obtain⟨v,d,ρ',f,q⟩:=u;obtain⟨ks,L,f⟩:=PR.mp f;obtain⟨E,W,f⟩:=PR.mp f;obtain⟨dk,U,T⟩:=PR.mp W;split at f
  ·rename_i p
   cases f;have O:=ox T;subst O;obtain⟨a,xs,I,S,a3,M,G,B⟩:=v.setT L;refine⟨.ref a,I,.inr (.inr (.inr (.inr ⟨rfl,xs,M⟩))),v,_,U,λz V s2 m=>?_⟩;have m:Rep X.K (vw V hid) z (.tup (E.map D.int)):=m;obtain⟨b,rfl,C⟩:=zI (.inl m);have C:=n8 m;refine⟨a,b,xs,E,rfl,rfl,s2 _ _ M,C,λz p=>n8 ((cU B z p).mono (aW s2)),by have:=G.length_eq;rw[Pp] at this;lia,λR t=>?_⟩;obtain⟨g1,g2⟩:=DX t G;refine q _ _ ⟨λb' o w l=>?_,(v.ext s2).putS L I g1 (ka λz p=>?_),.non⟩
   ·rw[aQ λY=>by subst Y;rw[S] at l;cases l];exact s2 _ _ w
   ·rcases g2 z p with h|rfl
    ·exact(cU B z h).mono (aW s2)
    ·exact m
  ·cases f
theorem Ij(i:Nat)(hu:X.A.units+1<Rp)(Y:DP X c .s e fe)
 (Z:X.N[i]? =some y:=by rfl) (hv:wK X.env.scope y:=by first|exact RA rfl|exact Q1 (RA rfl)|exact Q1 (Q1 rfl)) (O:(y==("__debug__":Str))=false:=by decide) (p:(y==("__classdict__":Str))=false:=by decide)
 (j:UR (.Name y py) "discard" X.env (eval (.Name y py) X.env)=eval (.Name y py) X.env:=by rfl)
 (l:((R5 pos (PP [e] X.env)).all (λx=> !x.1)&&(Yg pos (VM [] X.env)).all (λx=>x.1.isSome)&&decide ([e].length+([]:List Vb).length+(if([]:List Vb).isEmpty then 0 else 1)<30))=true:=by rfl)
 (h:(apos.endLine==pos.line)=true:=by rfl) (I:PP [e] X.env=(false,eval e X.env)::PP [] X.env:=by rfl) (g:(R5 pos (PP [] X.env)).any (·.1)=false:=by rfl):
 DE X c .s (.Call (.Attribute (.Name y py) "discard" apos) [e] [] pos) (wf lQ i fe):=λhid ρ=>
 PE.imp (A6 WH PySem.F.slot_set_discard PySem.F.type_set_discard (HN hu) (pv i Z hv O p) (c8 (Y hid ρ) fX I) j l h I g) λσ H Q t=>by
  obtain⟨u,d,ρ',f,q⟩:=t;obtain⟨ks,J,f⟩:=PR.mp f;obtain⟨C,V,f⟩:=PR.mp f;obtain⟨dk,T,S⟩:=PR.mp V;split at f
  ·rename_i n
   cases f;have M:=ox S;subst M;obtain⟨a,xs,G,R,a3,L,E,v⟩:=u.setT J;refine⟨.ref a,G,.inr (.inr (.inr (.inr ⟨rfl,xs,L⟩))),u,_,T,λz U s2 m=>?_⟩;have m:Rep X.K (vw U hid) z (.tup (C.map D.int)):=m;obtain⟨b,rfl,B⟩:=zI (.inl m);have B:=n8 m;refine⟨a,b,xs,C,rfl,rfl,s2 _ _ L,B,λz n=>n8 ((cU v z n).mono (aW s2)),by have:=E.length_eq;rw[Pp] at this;lia,λP r=>?_⟩;obtain⟨g1,g2⟩:=F5 r E;refine q _ _ ⟨λb' o w k=>?_,(u.ext s2).putS J G g1 (ka λz n=>?_),.non⟩
   ·rw[aQ λW=>by subst W;rw[R] at k;cases k];exact s2 _ _ w
   ·exact(cU v z (g2 z n)).mono (aW s2)
  ·cases f
def D8(i:Nat):FE:=λρ=>(we i ρ).bind λks=>if ks.length<64/\ ∀k∈ks,k≠[] then some (.lst ((bC bx ks).map cZ)) else none
theorem Hi(i:Nat)(m:X.calm=true)(r:X.mg "sorted"=none)(C:X.N[i]? =some y:=by rfl)(s:wK X.env.scope y:=by first|exact RA rfl|exact Q1 (RA rfl)|exact Q1 (Q1 rfl))(b:(y==("__debug__":Str))=false:=by decide)
 (f:(y==("__classdict__":Str))=false:=by decide) (w:Gl X "sorted":=by rfl) (hv:Rm "sorted"=some (.builtin "sorted"):=by kernel_rfl)
 (v:PP [.Name y py] X.env=(false,eval (.Name y py) X.env)::PP [] X.env:=by rfl) (j:(R5 pos (PP [] X.env)).any (·.1)=false:=by rfl):DP X c .n (.Call (.Name "sorted" p) [.Name y py] [] pos) (D8 i):=λhid ρ=>
 PE.imp (nS (n4 m) w r hv (c8 (pv i C s b f) fX v) (by decide) (by decide) v j) λσ H Q g=>by
  obtain⟨B,d,b,q⟩:=g;obtain⟨ks,E,b⟩:=PR.mp b;split at b
  ·rename_i e
   cases b;obtain⟨a,xs,D,G,I,F,k,t⟩:=B.setT E;have A:=k.length_eq;rw[Pp] at A;refine⟨.ref a,D,a,xs,rfl,F,λz e=>n8 (cU t z e),by lia,λz o=>e.2 _ (k.mem_iff.mp (U8 o)),λl h u r x=>q _ _ (aT u _) (f8 u (a6.refl _) ?_)⟩;have:(bC bx ks).map cZ=zC h:=by
    rw[<-je k,<-x,PM];rfl
   rw[this];exact ka λz e=>cU t z (r z e)
  ·cases b
end
def Es:FS:=λ_=>.no
theorem Dx{st:Stmt}:DS X c k st Es:=λρ a s σ H D I ⟨hid,b,q⟩=>q.elim
set_option maxHeartbeats 1000000
open PySem PySem.W PyProof.Rows
section
variable {prog:Qp}{w:QD}{A:Qq}{E:Pk->Pn->Prop}{s:Pn}{a b:Addr}{o:Obj}{es:Array (Int×Pk)}{ep:Nat}{t:QT}{xs:gR}{k:List Int}
theorem Dv(S:SetAt w o es ep t xs){q c:Nat}(C:3<=q)(s:q<=12)(F:c+1=2^q)(f e:Nat)(r:xs.length*5<c*3): ∃(b a:Array Nat),VV c f e t.led t.plain (es.map (·.1))=some (⟨c,b, #[],f,t.led,e,t.plain⟩,a)/\
 a.toList.Perm (Pi xs.length)/\(∀(h:Obj) (d:Nat),h.ExactSet->h.data=.set (a.filterMap (es[·]?)) d ⟨c,b, #[],f,t.led,e,t.plain⟩->
  bX w h (a.filterMap (es[·]?)) d ⟨c,b, #[],f,t.led,e,t.plain⟩ (pN xs a.toList))/\(a.filterMap (es[·]?)).size=es.size:=by
 have x:(es.map (·.1)).size=xs.length:=by rw[Zs,S.size]
 obtain⟨b,a,I,g,y⟩:=Bg C s F f e t.led t.plain (es.map (·.1)) (by rw[x];lia);rw[x] at g;have lt: ∀i∈a.toList,i<xs.length:=λi n=>Pj.mp (g.mem_iff.mp n)
 have v:(a.filterMap (es[·]?)).toList=(pN xs a.toList).map wP:=by
  rw[Wt];unfold pN;rw[PM];have p: ∀l:List Nat,(∀i∈l,i<xs.length)->l.filterMap (λi=>es[i]?)=l.map (wP∘λi=>xs.getD i ([],0)):=by
   intro l
   induction l with
   |nil=>intro _;rfl
   |cons i l E=>
    intro r;have A:=r i PV;have D:es[i]? =some (wP (xs.getD i ([],0))):=by
     rw[S.at_,Pq A];simp[Qr,A]
    rw[Sk,D,Pu,E λj H=>r j (PK _ H)];rfl
  exact p _ lt
 have G:qV (pN xs a.toList)=a.toList.map λk=>(es.map (·.1)).toList.getD k 0:=by
  unfold qV pN;rw[PM];refine P2 λi n=>?_
  have:=lt i n;rw[sT S];show th (xs.getD i ([],0)).1=(qV xs).getD i 0;unfold qV;simp[Qr,this]
 have u:=lv g;refine⟨b,a,I,g,λh d m B=>?_,?_⟩
 ·refine⟨⟨m,B,v,by rw[G];exact y,S.led,S.pl,?_⟩,?_⟩
  ·exact((u.map (·.1)).nodup_iff).mpr S.nd
  ·have z:=y.sz;rw[Pp,g.length_eq,QJ] at z;show(b.size+0)*5<c*3;have z:b.size=xs.length:=z;rw[z];lia
 ·rw[<-PN,v,Pp,u.length_eq,S.size]
theorem GD(m:s.heap.get? a=some o)(S:bX w o es ep t [])(j:t.fill=0)(R:n<=1000)
 (h: ∀h' i g f t',Qz a s.heap h'->h'.get? a=some i->bX w i g f t' []->t'.fill=0->n*5<t'.mask*3->Q () {s with heap:=h'}):PJ (model prog w) A (Z7 a n) Q E s:=by
 unfold Z7;have k:=S.toSetAt;refine Ph (QC m S.hd k.fits ?_);dsimp only;have C:t.place.size=0:=by have:=k.T.sz;simpa [qV] using this
 unfold SetTable.roomFor;rw[j,C,RE]
 by_cases c:n*5≥t.mask*3
 ·rw[if_pos c];dsimp only;have hw:n*2<=4095:=by lia
  have P:7<=t.mask:=by
   obtain⟨q,y,_,U⟩:=S.T.pw;have W:2^3<=2^q:=Sc (by lia) y;lia
  obtain⟨d,b,p,O,N,H,x⟩:=s0 k hw (by show 0*5<_;lia);obtain⟨q,V,u,e,L⟩:=jF hw
  have K:setRelay a (n*2)=(do
   let(es,_,t) <-Yb a
   if QB (n*2)>P4 then RX "set:memory"
   let(es,t) <-(do
    let some (t,b):=t.relaid (es.map (·.1)) (n*2)|RX "internal:set-table-without-room"
    let g:=b.filterMap (es[·]?)
    if g.size !=es.size then RX "internal:set-table-lost-an-element"
    pure (g,t):Sem (Array (Int×Pk)×QT))
   Zt a es t):=rfl
  rw[K];refine Ph (QC m S.hd k.fits ?_);dsimp only;have B:2^q<=2^12:=Sc (by lia) u;have M:(2:Nat)^12=4096:=by decide
  rw[if_neg (by rw[e,Q7];lia),O];dsimp only;rw[x,bne_self_eq_false];simp only[PH,if_false];refine Ph (Pl ?_);dsimp only;have D:(b.filterMap (es[·]?)).size<=sizeLine:=by
   rw[x,k.size,Q7];simp
  refine SO m S.hd ?_ D;have v:=QG (T7 (b.filterMap (es[·]?)) ⟨QB (n*2) -1,d, #[],t.finger,t.led,p,t.plain⟩) m (by rw[S4 _ _ S.hd];rfl);rw[S4 _ _ S.hd] at v;have r:b.toList=[]:=by
   have:=N.length_eq;simp at this;simpa using this
  have F:pN ([]:gR) b.toList=[]:=by rw[r];rfl
  have l: ∀(i:Obj) (f:Nat),i.ExactSet->i.data=.set (b.filterMap (es[·]?)) f ⟨QB (n*2) -1,d, #[],t.finger,t.led,p,t.plain⟩->bX w i (b.filterMap (es[·]?)) f ⟨QB (n*2) -1,d, #[],t.finger,t.led,p,t.plain⟩ []:=λi f I J=>by
   have:=H i f I J;rw[F] at this;exact this
  have G:=l {cls:=.type "set",dict:=none,data:=.set (b.filterMap (es[·]?)) 0 ⟨QB (n*2) -1,d, #[],t.finger,t.led,p,t.plain⟩} 0 ⟨rfl,rfl,rfl⟩ rfl;refine h _ _ _ _ _ (Q4 s.heap a _) v (l _ _ S.ex rfl) ?_ ?_
  ·have:=G.T.sz;have z:d.size=0:=by simpa [qV] using this
   show d.size+0=0;lia
  ·show n*5<(QB (n*2) -1)*3;lia
 ·rw[if_neg c];dsimp only;exact Pl (h s.heap o es ep t (SU a s.heap) m S j (by lia))
theorem xf(s o:Addr)(a:Sem Unit):setMerge s o a=(do
 if s==o then return
 let(eo,epoch,to) <-Yb o
 if eo.isEmpty then return
 Z7 s eo.size
 let(_,_,ts) <-Yb s
 match ts.road to with
 | .slotForSlot=>Zt s eo {to with finger:=ts.finger,led:=ts.led&&to.led,moves:=ts.moves,plain:=ts.plain&&to.plain}
 | .clean=>
   let(es,t) <-(do
    let some (t,order):=(VV ts.mask ts.finger ts.moves (led:=ts.led&&to.led) (plain:=ts.plain&&to.plain) (eo.map (·.1)))|RX "internal:set-table-without-room"
    let b:=order.filterMap (eo[·]?)
    if b.size !=eo.size then RX "internal:set-table-lost-an-element"
    pure (b,t):Sem (Array (Int×Pk)×QT))
   Zt s es t
 | .oneByOne=>
   for (h,x) in<-setWalkUnseen o [s] (some s) do
    let _ <-TY [x] (Wu s x h)
    a
    if(<-Yb o).2.1 !=epoch then RX "set.changed-during-merge"):=rfl
theorem En(H:a≠l)(I:s.heap.get? a=some o)(S:bX w o es ep t [])(r:t.fill=0)(C:s.heap.get? l=some ol)(Sl:bX w ol esl epl tl xs)(R:xs.length<=1000)
 (h: ∀h' F v n t' j,Qz a s.heap h'->h'.get? a=some F->bX w F v n t' j->j.Perm xs->Q () {s with heap:=h'}):PJ (model prog w) A (setMerge a l each) Q E s:=by
 rw[xf,if_neg (by simpa using H)];have b:=Sl.toSetAt;refine Ph (QC C Sl.hd b.fits ?_);dsimp only
 by_cases m:esl.isEmpty=true
 ·rw[if_pos m];have:xs=[]:=by
   have:=b.size;rw[Array.isEmpty_iff] at m;rw[m] at this;exact Wj.mp this.symm
  subst this;exact Pl (h s.heap o es ep t [] (SU a s.heap) I S (.refl _))
 ·rw[if_neg m];refine Ph (GD I S r (by rw[b.size];exact R) λx X O V e p k d N D=>?_);have y:=d.toSetAt;have K:x.get? l=some ol:=(p.2 l (QA H)).trans C;refine Ph (QC k d.hd y.fits ?_);dsimp only;rw[b.size] at D;have G:(e.led&&tl.led)=tl.led:=by rw[d.led,Sl.led,XC]
  have B:(e.plain&&tl.plain)=tl.plain:=by rw[d.pl,Sl.pl,XC]
  have z:esl.size<=sizeLine:=by rw[b.size,Q7];lia
  unfold SetTable.road;rw[if_neg (by rw[N];decide)]
  by_cases c:(e.mask==tl.mask&&tl.dummies.isEmpty)=true
  ·rw[if_pos c];dsimp only;refine SO k d.hd ?_ z;have i:=QG (T7 esl {tl with finger:=e.finger,led:=e.led&&tl.led,moves:=e.moves,plain:=e.plain&&tl.plain}) k (by rw[S4 _ _ d.hd];rfl);rw[S4 _ _ d.hd] at i;have T:=Sl.T;exact h _ _ _ _ _ xs (p.trans (Q4 x a _)) i ⟨⟨d.ex,rfl,Sl.he,⟨T.pw,T.sz,T.sp,T.sd,T.lp,T.ld,T.dj,T.fl,T.rc⟩,G.trans Sl.led,B.trans Sl.pl,Sl.nd⟩,Sl.f5⟩ (.refl _)
  ·rw[if_neg c];dsimp only;obtain⟨q,L,u,U⟩:=d.T.pw;obtain⟨f,g,P,M,W,J⟩:=Dv b L u U e.finger e.moves D;rw[G,B,P];dsimp only;rw[J,bne_self_eq_false];simp only[PH,if_false];refine Ph (Pl ?_);dsimp only;refine SO k d.hd ?_ (by rw[J];exact z)
   have i:=QG (T7 (g.filterMap (esl[·]?)) ⟨e.mask,f, #[],e.finger,tl.led,e.moves,tl.plain⟩) k (by rw[S4 _ _ d.hd];rfl);rw[S4 _ _ d.hd] at i;exact h _ _ _ _ _ _ (p.trans (Q4 x a _)) i (W _ _ d.ex rfl) (lv M)
end
open PySem PySem.W PyProof.Rows PySem.Builtin
section
variable {prog:Qp}{w:QD}{A:Qq}{E:Pk->Pn->Prop}{s:Pn}{a b:Addr}{o:Obj}{es:Array (Int×Pk)}{ep:Nat}{t:QT}{xs:gR}{k:List Int}
theorem ki {h h':Heap}(x:(KI prog w).is h k b)(e: ∀o,h.get? b=some o->h'.get? b=some o):(KI prog w).is h' k b:=by
 obtain⟨o,items,n,a,r⟩:=x;exact⟨o,items,n,e o a,r⟩
theorem qX {h:Heap}(x:(KI prog w).is h k b)(f:h.get? a=some o)(g:o.cls=.type "set"):b≠a:=λe=>by
 obtain⟨i,items,n,c,d,_⟩:=x;subst e;rw[f] at c;cases c;rw[g] at d;exact absurd d (by decide)
theorem Ie {h h':Heap}(x:tq prog w h xs)(f:h.get? a=some o)(c:o.cls=.type "set")(d:Qz a h h'):tq prog w h' xs:=λz b=>ki (x z b) λg e=>(d.2 _ (qX (x z b) f c)).trans e
theorem p7(a:s.TypeIs T "set")(h:Q true s):PJ (model prog w) A (Frozenset.isAnySet T) Q E s:=by
 unfold Frozenset.isAnySet;refine Ph (TJ a WG ?_);exact Pl h
theorem IT {α:Type}{l:List α}(h:l.Nodup){i j:Nat}(b:i<l.length)(a:j<l.length)(e:l[i]=l[j]):i=j:=by
 rcases Sf i j with q|q|q
 ·exact absurd e (Rj.mp h i j b a q)
 ·exact q
 ·exact absurd e.symm (Rj.mp h j i a b q)
structure Tog(K0 P:List (List Int))(zs:gR):Prop where
 nd:(zs.map (·.1)).Nodup
 mem: ∀k,k∈zs.map (·.1)↔(k∈K0/\k∉P)\/(k∈P/\k∉K0)
theorem Tog.out{zs:gR}(T:Tog K0 P zs){k:List Int}(q:k∉P){c:Addr}(o:zs[i]? =some (k,c)):Tog K0 (P++[k]) (zs.eraseIdx i):=by
 have f:k∈zs.map (·.1):=PU.mpr ⟨_,Ql o,rfl⟩;have g:k∈K0:=by
  rcases(T.mem k).mp f with h|h
  ·exact h.1
  ·exact absurd h.1 q
 have n:(zs.eraseIdx i).map (·.1)=(zs.map (·.1)).eraseIdx i:=(oT _ _ _).symm;have a:(zs.map (·.1))[i]? =some k:=by rw[Qi,o];rfl
 have d:i<(zs.map (·.1)).length:=by
  rcases Nat.lt_or_ge i (zs.map (·.1)).length with h|h
  ·exact h
  ·rw[QH h] at a;cases a
 refine⟨by rw[n];exact Te (SG _ _) T.nd,λb=>?_⟩;rw[n];have t: ∀b,b∈(zs.map (·.1)).eraseIdx i↔b∈zs.map (·.1)/\b≠k:=λb=>by
  rw[List.mem_eraseIdx_iff_getElem];have p:(zs.map (·.1))[i]=k:=by rw[Pq d] at a;exact Qu a
  constructor
  ·rintro⟨j,l,m,rfl⟩;refine⟨S7 _,λe=>m ?_⟩;exact IT T.nd l d (e.trans p.symm)
  ·rintro⟨r,s⟩;obtain⟨j,l,rfl⟩:=SZ r;exact⟨j,l,λe=>s (by subst e;exact p),rfl⟩
 rw[t,T.mem,QL,PQ]
 by_cases e:b=k
 ·subst e;simp[g,q]
 ·simp[e]
theorem Tog.inn{zs a:gR}(T:Tog K0 P zs){k:List Int}{c:Addr}(i:k∉P)(f:k∉zs.map (·.1))(p:a.Perm (zs++[(k,c)])):Tog K0 (P++[k]) a:=by
 have d:(a.map (·.1)).Perm (zs.map (·.1)++[k]):=by have:=p.map (·.1);rwa [Qm] at this
 have b:k∉K0:=λh=>f ((T.mem k).mpr (.inl ⟨h,i⟩))
 refine⟨d.nodup_iff.mpr ?_,λj=>?_⟩
 ·rw[Q6]
  exact⟨T.nd,by simp,λx l y g=>by
   rw[PQ] at g;subst g;exact λe=>f (e▸l)⟩
 ·rw[d.mem_iff,QL,PQ,T.mem,QL,PQ]
  by_cases e:j=k
  ·subst e;simp[b,i]
  ·simp[e]
theorem Id(id:String){ys:gR}(ne:a≠l)(Z:s.heap.get? a=some o)(S:bX w o es ep t xs)(hE:tq prog w s.heap xs)(L:s.heap.get? l=some ol)(Sl:bX w ol esl epl tl ys)(r:tq prog w s.heap ys)
 (hu:A.units<Rp) (hn:xs.length+ys.length<=1000)
 (h: ∀h' H p f t' zs,Qz a s.heap h'->h'.get? a=some H->bX w H p f t' zs->Tog (xs.map (·.1)) (ys.map (·.1)) zs->(∀z∈zs,z∈xs\/z∈ys)->Q () {s with heap:=h'}):PJ (model prog w) A (Frozenset.symmetricDifferenceUpdate id a (.ref l)) Q E s:=by
 have d:=Sl.toSetAt;have W:=SetAt.ty L d;unfold Frozenset.symmetricDifferenceUpdate;rw[if_neg (by simpa using QA ne)];dsimp only;refine Ph (X8 W ?_);rw[if_neg (by decide)];refine Ph (p7 W ?_);rw[if_pos rfl];refine Ph (Pl ?_);unfold Frozenset.addrOf;refine Ph (Pl ?_);refine Ph (Uw L Sl.hd d.fits ?_);refine Qt ?_
 refine Ph ?_
 unfold setWalkUnseen;refine Ph (QC L Sl.hd d.fits ?_);dsimp only;refine Ph (dO ?_);rw[if_pos (by rw[Sl.led,Sl.pl];show(gA w||_||_)=true;unfold gA;cases w.params.followText "set-order"<;>rfl)];refine yk L d ?_
 have wp:=oB w l epl esl;rw[Sl.he] at wp;obtain⟨us,pu,eu⟩: ∃us:gR,us.Perm ys/\(iX w l epl esl).toList=us.map wP:=by
  have key: ∀(m:List (Int×Pk)) (zs:gR),m.Perm (zs.map wP)-> ∃us:gR,us.Perm zs/\m=us.map wP:=λm zs hp=>by
   generalize n:zs.map wP=q at hp
   induction hp generalizing zs with
   |nil=>cases zs with
    |nil=>exact⟨[],.refl _,rfl⟩
    |cons z zs=>cases n
   |cons x _ ih=>
    cases zs with
    |nil=>cases n
    |cons z zs=>
     rw[Pu] at n;obtain⟨h1,b⟩:=V5 n;obtain⟨us,u1,u2⟩:=ih zs b;exact⟨z::us,u1.cons z,by rw[Pu,h1,u2]⟩
   |swap x y l=>
    cases zs with
    |nil=>cases n
    |cons z zs=>cases zs with
     |nil=>cases n
     |cons z2 zs=>
      rw[Pu,Pu] at n;obtain⟨h1,b⟩:=V5 n;obtain⟨h3,h4⟩:=V5 b;exact⟨z2::z::zs,.swap z z2 zs,by rw[Pu,Pu,h1,h3,h4]⟩
   |trans _ _ ih1 ih2=>
    obtain⟨us,u1,u2⟩:=ih2 zs n;obtain⟨vs,v1,v2⟩:=ih1 us u2.symm;exact⟨vs,v1.trans u1,v2⟩
  exact key _ _ wp
 have N:(us.map (·.1)).Nodup:=(pu.map (·.1)).nodup_iff.mpr Sl.nd;have j:o.cls=.type "set":=S.ex.1;refine Ph (X4 _ (λC _ st=> ∃(P rs:gR) (h':Heap) (H:Obj) (p:Array (Int×Pk)) (f:Nat) (t':QT) (zs:gR),C=rs.map wP/\us=P++rs/\st={s with heap:=h'}/\Qz a s.heap h'/\h'.get? a=some H/\bX w H p f t' zs/\Tog (xs.map (·.1)) (P.map (·.1)) zs/\(∀z∈zs,z∈xs\/z∈P)/\zs.length<=xs.length+P.length) (λ_ st=>PJ (model prog w) A (pure ()) Q E st) ?turn ?fin _ _ ⟨[],us,s.heap,o,es,ep,t,xs,eu,rfl,rfl,SU a s.heap,Z,S,⟨S.nd,λk=>by simp⟩,λz u=>.inl u,by simp⟩)
 case fin=>
  rintro _ st ⟨P,rs,h',H,p,f,t',zs,O,v,rfl,B,g,Y,T,U,_⟩;have:rs=[]:=List.map_eq_nil_iff.mp O.symm;subst this;rw[QX] at v;subst v;refine Pl (h _ _ _ _ _ zs B g Y ⟨T.nd,λk=>by rw[T.mem,(pu.map (·.1)).mem_iff]⟩ λz u=>?_);rcases U z u with q|q
  ·exact .inl q
  ·exact .inr (pu.mem_iff.mp q)
 case turn=>
  rintro x C _ st ⟨P,rs,h',H,p,f,t',zs,O,v,rfl,B,g,Y,T,U,hlen⟩;cases rs with
  |nil=>cases O
  |cons y rs=>
   rw[Pu] at O;obtain⟨hx,hr⟩:=V5 O;subst hx;have ylen:us.length=ys.length:=pu.length_eq;have lP:P.length+1<=ys.length:=by
    have:=congrArg Sd v;rw[P0,P1] at this;lia
   have M:y∈ys:=pu.mem_iff.mp (by rw[v];simp);have X:y.1∉P.map (·.1):=λn=>by
    rw[v,Qm,Pu,Q6] at N;exact N.2.2 _ n _ PV rfl
   have kk:(KI prog w).is h' y.1 y.2:=ki (r y M) λI e=>(B.2 _ (qX (r y M) Z j)).trans e
   have E2:tq prog w h' zs:=λz u=>by
    rcases U z u with q|q
    ·exact ki (hE z q) λI e=>(B.2 _ (qX (hE z q) Z j)).trans e
    ·have:z∈ys:=pu.mem_iff.mp (by rw[v];exact Q8 _ q);exact ki (r z this) λI e=>(B.2 _ (qX (r z this) Z j)).trans e
   have hl2:h'.get? l=some ol:=(B.2 l (QA ne)).trans L
   show PJ _ _ (do
    TY [Q9 y.2] (do
     if !(<-V9 a (.ref y.2) (th y.1)) then do
      let _ <-Wu a (.ref y.2) (th y.1)
      pure ()
     else pure ())
    Frozenset.unchanged id l epl
    pure (ForInStep.yield PUnit.unit)) _ _ _
   have done: ∀(b:Heap),Qz a h' b-> ∀R:ForInStep PUnit->Pn->Prop,R (.yield PUnit.unit) {s with heap:=b}->PJ (model prog w) A (do
    Frozenset.unchanged id l epl
    pure (ForInStep.yield PUnit.unit)) R E {s with heap:=b}:=λb F R hR=>by
    have hl3:b.get? l=some ol:=(F.2 l (QA ne)).trans hl2;unfold Frozenset.unchanged;refine Ph ?_
    refine Ph (Uw hl3 Sl.hd d.fits ?_);rw[if_neg (by simp)];exact Pl (Pl hR)
   refine Ph (Qt ?_);refine Ph (pC (s:={s with heap:=h'}) g Y E2 hu kk (by lia) (λnm=>?_) λK b I D G t2 J F q2 q3 V=>?_)
   ·rw[if_pos (show(!false)=true from rfl)];refine Ph (uo (s:={s with heap:=h'}) g Y E2 hu kk (by lia) (λK=>absurd K nm) λnm2 b I D G t2 J F q2 q3 V=>?_);refine Pl (done b F _ ⟨P++[y],rs,b,I,D,G,t2,J,hr,by rw[v,QP];rfl,rfl,B.trans F,q2,q3,by rw[Qm];exact T.inn X nm V,λz u=>?_,by rw[V.length_eq,P0,P0,Q3];lia⟩);rcases QL.mp (V.mem_iff.mp u) with q|q
    ·rcases U z q with q|q
     ·exact .inl q
     ·exact .inr (Q8 _ q)
    ·exact .inr (P8 _ (by rw[PQ] at q⊢;exact q))
   ·rw[if_neg (show¬(!true)=true by decide)];obtain⟨i,c,hi,rfl⟩:=V;refine Pl (done b F _ ⟨P++[y],rs,b,I,D,G,t2,_,hr,by rw[v,QP];rfl,rfl,B.trans F,q2,q3,by rw[Qm];exact T.out X hi,λz u=>?_,Qh (Wa _ _) (by rw[P0];lia)⟩);rcases U z (V4 u) with q|q
    ·exact .inl q
    ·exact .inr (Q8 _ q)
end
set_option maxHeartbeats 3200000
theorem mP:Slot "set" (dunder Operator.BitXor.info.2) "set.__xor__":=.of (owner:="set") (n:="__xor__") (by rw[T3,SI];kernel_rfl) (by decide+kernel) (by decide+kernel) (by decide+kernel) (by first|exact .inl (by decide+kernel)|exact .inr (by decide+kernel)) WG
theorem sj:Z1 table "set.__xor__"=some SH.«frozenset.__xor__»:=Xf (id':="frozenset.__xor__") (by kernel_rfl) rfl (by decide+kernel) (by kernel_rfl)
theorem BM:Ze.lookup (jay ['t','e','s'].reverse)=some Manifest.sig_set:=by kernel_rfl
theorem vd(a b:Pk):Z2 "set.__xor__" ⟨[a,b],[]⟩:=by unfold Z2;rw[XJ (id:="set.__xor__") (n:=['_','_','r','o','x','_','_']) (o:=['t','e','s']) (by kernel_rfl) BM];kernel_rfl
theorem uX:fillsNumberSlot (.type "set") "xor"=pure true:=by
 refine fillsNumberSlot_of (id:="set.__xor__") (r:=some (.builtin "set.__rxor__")) ?_ (by decide+kernel) ?_
 ·show ZJ (.type "set") "__xor__"=_;rw[T3,SI];kernel_rfl
 ·show ZJ (.type "set") "__rxor__"=_;rw[T3,SI];kernel_rfl
theorem KB(l r:Pk):SH.«frozenset.__xor__» ⟨[l,r],[]⟩=(do
 let(self,other) <-Frozenset.slot1 "__xor__" ⟨[l,r],[]⟩
 let(l,r):=if false then(other,self) else(self,other)
 if !(<-Frozenset.isAnySet l<&&>Frozenset.isAnySet r) then
  rule s!"frozenset.{"__xor__"}.declined"
  return<-ret .notImplemented
 let b <-Frozenset.addrOf l
 let v <-(do
  let a <-Frozenset.newFrom s!"frozenset.{"__xor__"}" (<-Frozenset.baseOf b) r
  let c <-Frozenset.addrOf a
  TY [a] (Frozenset.symmetricDifferenceUpdate s!"frozenset.{"__xor__"}" c (.ref b))
  return a:Sem Pk)
 ret v):=rfl
section
variable {prog:Qp}{w:QD}{A:Qq}{E:Pk->Pn->Prop}{s:Pn}{a b:Addr}{o:Obj}{es:Array (Int×Pk)}{ep:Nat}{t:QT}{xs ys:gR}{k:List Int}
theorem F6{j or:Obj}(y:s.heap.get? l=some j)(Sl:bX w j esl epl tl xs)(H:tq prog w s.heap xs)(B:s.heap.get? r=some or)(f:bX w or esr epr tr ys)(F:tq prog w s.heap ys)
 (hu:A.units+1<Rp) (hn:xs.length+ys.length<=1000)
 (h: ∀h' J G v t' zs,Qz s.heap.objs.size (s.heap.push (aU w)) h'->h'.get? s.heap.objs.size=some J->bX w J G v t' zs->Tog (ys.map (·.1)) (xs.map (·.1)) zs->(∀z∈zs,z∈ys\/z∈xs)->Q (.ref s.heap.objs.size) {s with heap:=h'}):
 PJ (model prog w) A (TU .BitXor (.ref l) (.ref r)) Q E s:=by
 have a:=SetAt.ty y Sl.toSetAt;have c:=SetAt.ty B f.toSetAt;refine wpAny_binaryOp_same a c uX mP ?_
 refine QV mP a sj ?_ (vd _ _)
 rw[KB];unfold Frozenset.slot1;have sa:Z3 "__xor__" 1 ⟨[Q9 l,Q9 r],[]⟩=pure (.ref l,[.ref r]):=rfl;rw[sa,pure_bind];dsimp only;rw[pure_bind];dsimp only;rw[if_neg (by decide)];dsimp only;refine Ph ?_
 refine Ph (p7 a ?_);refine p7 c ?_
 rw[if_neg (by decide)];unfold Frozenset.addrOf;rw[pure_bind];refine Ph ?_
 unfold Frozenset.baseOf;refine Ph ?_
 refine Ph (TJ a WG ?_);rw[if_pos rfl];refine Pl ?_
 unfold Frozenset.newFrom;refine Ph ?_
 refine Ph (HH ?_);unfold Frozenset.addrOf;rw[pure_bind];have L:(s.heap.push (aU w)).get? s.heap.objs.size=some (aU w):=PD _ rfl;have b:(s.heap.push (aU w)).get? r=some or:=Po _ B;have p:(s.heap.push (aU w)).get? l=some j:=Po _ y;have I:s.heap.objs.size≠r:=RV (PB B);have i:s.heap.objs.size≠l:=RV (PB y);have d:XM {s with heap:=s.heap.push (aU w)} (.ref r) "set":=SetAt.ty (s:={s with heap:=s.heap.push (aU w)}) b f.toSetAt;refine Ph (Qt ?_);unfold Frozenset.updateFrom;refine Ph (p7 d ?_);rw[if_pos rfl];unfold Frozenset.addrOf Frozenset.merge;rw[pure_bind];refine Ph (Uw b f.hd f.toSetAt.fits ?_);refine En (s:={s with heap:=s.heap.push (aU w)}) I L (qC w) rfl b f (by lia) λn o1 U V t1 x C g1 O m=>?_
 refine Pl ?_
 rw[pure_bind];have o:n.get? l=some j:=(C.2 l i.symm).trans p;have Y:(aU w).cls=.type "set":=rfl;have E0: ∀us:gR,tq prog w s.heap us->tq prog w n us:=λus T=>Ie (λz g=>ki (T z g) λJ e=>Po _ e) L Y C
 have W:tq prog w n x:=λz g=>E0 ys F z (m.mem_iff.mp g)
 refine Ph (Qt ?_);refine Id (s:={s with heap:=n}) _ i g1 O W o Sl (E0 xs H) (show A.in1.units<Rp by have:A.in1.units<=A.units+1:=Px _;lia) (by rw[m.length_eq];lia) λX M D u R t N Z S K P=>?_
 refine Pl (Pl ⟨_,rfl,(λe=>by cases e),h X M D u R t (C.trans N) Z S ⟨K.nd,λk=>by rw[K.mem,(m.map (·.1)).mem_iff]⟩ λz g=>?_⟩);rcases P z g with q|q
 ·exact .inl (m.mem_iff.mp q)
 ·exact .inr q
end
section
variable {prog:Qp}{w:QD}{A:Qq}{R:Vr->Pn->Prop}{I:Addr}{fp wr:List Addr}{G:Array Zx->Array Zx->Prop}{n:Nat}{P:Nat->Pk->Prop}{St:Nat->Pn->Prop}
theorem Eu(W:WalksS prog w A.in1 I fp C G n P St)(S:Addr)(u:S∉fp)(ks:List (List Int×Addr))(hk:ks.length=n)(nd:(ks.map (·.1)).Nodup)(hn:n<=1000)(hu:A.in1.units<Rp)
 (F: ∀i v,P i v->v=.ref (ks.getD i ([],0)).2) (hw: ∀z∈ks,z.2∉C):
 ∀(k i:Nat) (s:Pn),n-i=k->i<=n->St i s->
  (∀z∈ks,(KI prog w).is s.heap z.1 z.2)->
  ∀(o:Obj) (es:Array (Int×Pk)) (ep:Nat) (t:QT) (xs:gR),s.heap.get? S=some o->bX w o es ep t xs->xs.Perm (ks.take i)->
  (∀s' M q f t' c,Moved (S::C) G s s'->s'.heap.get? S=some M->bX w M q f t' c->c.Perm ks->R (.ok (.ret .none)) s')->
  R9 (model prog w) A (.builtin "set.update.loop" ⟨[.ref S,.ref I],[]⟩) R s:=by
 have H:S∉C:=λh=>u (W.sub _ h)
 have d: ∀b∈C,b∈S::C:=λb x=>PK _ x
 intro k
 induction k with
 |zero=>
  intro i s N hi m hE o es ep t xs ho L g hR;have V:i=n:=by lia
  subst V;refine RY Wk ?_
  rw[RL Ue _];show PJ _ A.in1 (TL (.ref I)>>=_) _ _ s;refine Ph (W.done s _ _ m λs' r=>?_);show PJ _ A.in1 (ret Qw) _ _ s';exact Pl (hR s' o es ep t xs (r.mono d) (r.heap S _ H ho) L (by rw[Rx (by lia)] at g;exact g))
 |succ k ih=>
  intro i s N hi m hE o es ep t xs ho L g hR;have J:i<n:=by lia
  refine RY Wk ?_
  rw[RL Ue _];show PJ _ A.in1 (TL (.ref I)>>=_) _ _ s;refine Ph (W.item i s _ _ J m λv s' hP B r=>?_);have hv:=F i v hP;subst hv;have hz:ks.getD i ([],0)∈ks:=by
   rw[P5,Pq (by lia)];exact S7 _
  have p:ks[i]? =some (ks.getD i ([],0)):=by rw[P5,Pq (by lia)];rfl
  generalize hzz:ks.getD i ([],0)=z at hz p;have D:s'.heap.get? S=some o:=r.heap S _ H ho;have a: ∀z∈ks,(KI prog w).is s'.heap z.1 z.2:=λy l=>ki (hE y l) λK e=>r.heap _ _ (hw y l) e
  have U:tq prog w s'.heap xs:=λy l=>a y (US (g.mem_iff.mp l))
  have Q:z.1∉xs.map (·.1):=λhq=>by
   have:=(g.map (·.1)).mem_iff.mp hq;rw[VW] at this;obtain⟨j,hj,e⟩:=SZ this;rw[List.getElem_take] at e;have hj2:j<i:=by simp at hj;lia
   have E:i<(ks.map (·.1)).length:=by rw[Pp];lia
   have e2:(ks.map (·.1))[i]=z.1:=by
    have:(ks.map (·.1))[i]? =some z.1:=by rw[Qi,p];rfl
    rw[Pq E] at this;exact Qu this
   exact absurd (IT nd (by lia) E (e.trans e2.symm)) (by lia)
  have X:o.cls=.type "set":=L.ex.1;show PJ _ A.in1 (TY [Q9 z.2] (setAdd S (.ref z.2))>>=_) _ _ s';refine Ph (Qt ?_);unfold setAdd;refine Qt ?_
  refine Ph ((KI prog w).pyHash (show(KI prog w).room A.in1 from hu) (a z hz) ?_);rw[AS];refine uo (s:={s' with toks:=s'.toks+(KI prog w).draws z.1}) D L U hu (a z hz) (by rw[g.length_eq,R4];lia) (λhq=>absurd hq Q) λ_ h' M q f t' c g1 g2 g3 g4=>?_
  refine Pl ⟨V2 Ue _,ih (i+1) _ (by lia) J (W.frame _ s' _ _ B (V7 _ _) λb x K e=>?_) (λy l=>?_) M q f t' c g2 g3 ?_ λY K T Z t2 LE O q1 q2 q3=>?_⟩
  ·rw[g1.2 b (λh:b=S=>u (by rw[<-h];exact x))];exact e
  ·exact ki (a y l) λK e=>(g1.2 _ (qX (a y l) D X)).trans e
  ·refine g4.trans ?_
   rw[List.take_succ,p];exact Ux _ g
  ·refine hR Y K T Z t2 LE (Moved.trans W.gtrans ((r.mono d).then_heap (V7 _ _) λb o3 x e=>?_) O) q1 q2 q3;rw[g1.2 b (λh:b=S=>x (by rw[h];exact PV))];exact e
end
section
variable {prog:Qp}{w:QD}{A:Qq}{E:Pk->Pn->Prop}{s:Pn}
theorem BJ{items:Array Pk}{ks:List (List Int×Addr)}(hh:A.handled=none)(hl:s.heap.IsList l items)(hi:items.toList=ks.map λz=>Q9 z.2)(nd:(ks.map (·.1)).Nodup)(hn:ks.length<=1000)(hu:A.units+10<Rp)(hE: ∀z∈ks,(KI prog w).is s.heap z.1 z.2)
 (h: ∀(h':Heap) (tk:Nat) (m:Obj) (f:Array (Int×Pk)) (d:Nat) (t':QT) (xs:gR),h'.get? s.heap.objs.size=some m->bX w m f d t' xs->xs.Perm ks->(∀b o,b<s.heap.objs.size->s.heap.get? b=some o->h'.get? b=some o)->Q (.ref s.heap.objs.size) {s with heap:=h',toks:=tk}):
 PJ (model prog w) A (call (.type "set") [.ref l]) Q E s:=by
 obtain⟨c,tl,hmro⟩:=Ro.mro;have Y:=Ro.made;have hsub:=Ro.sub;refine ZF (U0 ?_);show PJ _ _ (callAny (.type "set") _) _ _ _;refine Pl ⟨X0 _ (by decide+kernel),RY Yt ?_⟩;rw[X1 (WY "set" [.ref l] []) rfl];have h1:=Ro.notType;have h2:=Ro.canCreate;have hct:=F.typeCall_set_1 (.ref l)
 repeat (any_goals (first|assumption|wp_step))
 refine Sq (ye (as:=[.ref l]) (E:=E) (F.newCall_set_1 (.ref l)) (Q₁:=λD k=>D=.ref s.heap.objs.size/\k={s with heap:=s.heap.push (aU w)}) ⟨rfl,rfl⟩) λr k X=>?_
 cases r with
 |error e=>exact X
 |ok fl=>
  cases fl with
  |ret D=>
   obtain⟨rfl,rfl⟩:=X;have y:(s.heap.push (aU w)).get? s.heap.objs.size=some (aU w):=PD _ rfl;have hS:(s.heap.push (aU w)).get? s.heap.objs.size=some {cls:=.type "set",dict:=none,data:=.set #[] 0 (.fresh 0 0 (!gA w))}:=y;have hT:XM {s with heap:=s.heap.push (aU w)} (.ref s.heap.objs.size) "set":=⟨_,hS,rfl⟩
   have hli:=Ro.init.lookup;have hbi:=Ro.init.bind (.ref s.heap.objs.size)
   repeat (any_goals (first|assumption|wp_step))
   refine Sq (Xg (R:=wants (λr j=>r=.none/\ ∃h' tk m f d t' xs,j={s with heap:=h',toks:=tk}/\h'.get? s.heap.objs.size=some m/\bX w m f d t' xs/\xs.Perm ks/\
    (∀b o,b<s.heap.objs.size->s.heap.get? b=some o->h'.get? b=some o)) E) Ro.init.plain YO (check_set_init_1 hT ?_)) λx j a=>?_
   ·obtain⟨ol,C,u,nl,G⟩:=hl;obtain⟨ocls,q,N,g⟩:=ol;simp only at u G;subst u;subst G;have H:(s.heap.push (aU w)).get? l=some {cls:=.type "list",dict:=q,data:=.seq items nl,slots:=g}:=Po _ C;have hsls:=F.sub_list_set;have hslf:=F.sub_list_frozenset;have hne:(XW "list"==XW "dict")=false:=by decide
    have t:(s.heap.push (aU w)).IsList l items:=⟨_,H,rfl,nl,rfl⟩
    unfold SH.«set.__init__» noKeywords Zh;generalize V:Ww=PI
    wp_walk
    subst V;refine Ul t ?_
    refine Ph (W9 ?_);have B:l<s.heap.objs.size:=PB C;have T:A.in1.in1.in1.handled=none:=by simp[hh]
    have I:l≠(s.heap.push (aU w)).objs.size:=by
     rw[Rc];exact P6 (Tx B)
    have K:s.heap.objs.size∉ [(s.heap.push (aU w)).objs.size,l]:=by
     rw[Rc];simp only[PX,PQ,Q5,or_false,not_or];exact⟨P6 (QU _),RV B⟩
    have zi:ks.length=items.size:=by
     have:=congrArg Sd hi;rw[Pp,PN] at this;exact this.symm
    have Z: ∀z∈ks,z.2<s.heap.objs.size:=λz p=>by
     obtain⟨o,_,_,e,_⟩:=hE z p;exact PB e
    refine Eu ((jeT T _ l I items).toS) s.heap.objs.size K ks zi nd (by lia) (show A.in1.in1.in1.units<Rp by
     have a1:A.in1.in1.in1.units<=A.units+3:=Px _
     lia) (λi v hv=>?_) (λz p=>?_) (items.size-0) 0 _ (by lia) (Ri _)
     ⟨⟨_,PD _ rfl,rfl,rfl⟩,(t.push _)⟩ (λz p=>ki (hE z p) λo e=>Po _ (Po _ e)) _ _ _ _ [] (Po _ y) (qC w) (.refl _) ?hR
    ·have:items.toList[i]? =some v:=by rw[Qa];exact hv
     rw[hi,Qi] at this;obtain⟨z,p,rfl⟩:=QR.mp this;rw[P5,p];rfl
    ·have:=Z z p;simp only[PX,PQ,Q5,or_false];rw[Rc];exact P6 (Tx this)
    case hR=>
     intro s' m f d t' L J g1 g2 W;obtain⟨h',g',d',S,U⟩:=s';have eg:g'=s.gens:=J.gens;have ed:d'=s.drawn:=J.drawn;have eo:U=s.os:=J.os;subst eg;subst ed;subst eo;show PJ _ _ _ _ _ _;refine Pl ?_
     show PJ _ _ (ret Qw) _ _ _;refine Pl ⟨rfl,h',S,m,f,d,t',L,rfl,g1,g2,W,λb o hb e=>?_⟩;have O:b≠s.heap.objs.size:=P6 hb;have M:b≠(s.heap.push (aU w)).objs.size:=by
      rw[Rc];exact P6 (Tx hb)
     exact J.heap b o (by simp only[PX,PQ,Q5,or_false,not_or];exact⟨O,M⟩) (Po _ (Po _ e))
   ·cases x with
    |error e=>exact a
    |ok n=>
     cases n with
     |ret r=>
      obtain⟨rfl,h',tk,m,f,d,t',xs,rfl,g1,g2,W,P⟩:=a
      repeat (any_goals (first|assumption|wp_step))
      exact h _ _ _ _ _ _ _ g1 g2 W P
     |_=>exact a.elim
  |_=>exact X.elim
end
set_option maxHeartbeats 1000000
section
variable {X:Cx}
def KW(K:Pz):List V->Hp->VK->Prop:=λxs H Q=> ∃l ks,xs=[.ref l]/\SqL K H l (l9 ks)/\(∀z∈ks,SqT K H z.2 (z.1.map V.int))/\(ks.map (·.1)).Nodup/\ks.length<=1000/\ ∀a zs,H a=none->zs.Perm ks->Q (.ref a) (b9 H a (.tst zs))
theorem rL(G:X.calm=true)(R:X.A.units+10<Rp):dH X (.type "set") (KW X.K):=by
 intro Y s σ H xs us Q I r h;obtain⟨l,ks,rfl,C,f,J,m,q⟩:=h;obtain⟨u,rfl,k⟩:=j2 r;cases k;obtain⟨c,r,E,W⟩:=I.list C;have t:c=ks.map λz=>Q9 z.2:=by
  have D:=qT ks;have: ∀(vs:List V) (a b:List Pk),(∀v∈vs,∃p,v=V.ref p)->bI vs a->bI vs b->a=b:=λvs=>by
   induction vs with
   |nil=>intro a b _ g i;cases g;cases i;rfl
   |cons v vs B=>
    intro a b hv g i;cases g with
    |cons O d=>cases i with
     |cons j x=>
      obtain⟨p,rfl⟩:=hv v PV;cases O;cases j;rw[B _ _ (λw hw=>hv w (PK _ hw)) d x]
  exact this _ _ _ (λv hv=>by obtain⟨z,_,rfl⟩:=PU.mp hv;exact⟨_,rfl⟩) r D
 refine BJ (ks:=ks) (items:=c.toArray) (I.ok.hd G) ?_ (by simpa using t) J m R (λz N=>nO I (f z N)) λh' tk Z M y t' zs T S L U=>?_
 ·obtain⟨o,n,e,F,P,d⟩:=E;exact⟨o,e,F,n,by first|exact P|exact d⟩
 ·exact⟨.ref s.heap.objs.size,_,I.laid (t':=tk) (λb o e=>U b o (PB e) e) (Px _) (show cc X.prog X.w _ _ _ (.tst zs) from⟨_,_,_,_,T,S⟩),rfl,q _ _ (I.hok.fresh (Px _)) L⟩
def ML(K:Pz):R2:=λx y H Q=> ∃l r xs ys,x=.ref l/\y=.ref r/\H l=some (.tst xs)/\H r=some (.tst ys)/\(∀z∈xs,SqT K H z.2 (z.1.map V.int))/\(∀z∈ys,SqT K H z.2 (z.1.map V.int))/\xs.length+ys.length<=1000/\
 ∀a zs,H a=none->Tog (ys.map (·.1)) (xs.map (·.1)) zs->(∀z∈zs,z∈ys\/z∈xs)->Q (.ref a) (b9 H a (.tst zs))
theorem HR(J:X.A.units+1<Rp):lG X (TU .BitXor) (ML X.K):=by
 intro M s σ H x y v u Q I i B h;obtain⟨l,r,xs,ys,rfl,rfl,D,E,p,j,k,q⟩:=h;cases i;cases B;obtain⟨N,F,t,P,d,Sl⟩:=(show cc X.prog X.w H s.heap l (.tst xs) from I.hok l _ D)
 obtain⟨or,n,f,L,a,C⟩:=(show cc X.prog X.w H s.heap r (.tst ys) from I.hok r _ E)
 refine F6 d Sl (rh I p) a C (rh I j) J k λh' O G z t' zs b g S T m=>?_
 refine⟨.ref s.heap.objs.size,_,I.laid (t':=s.toks) (λc o e=>?_) (Px _) (show cc X.prog X.w _ _ _ (.tst zs) from⟨_,_,_,_,g,S⟩),rfl,q _ _ (I.hok.fresh (Px _)) T m⟩;exact(b.2 c (P6 (PB e))).trans (Po _ e)
end
theorem rm {K:Pz}: ∀ {vs:List V} {ks:List (List Int)},Reps K (vw H hid) vs (ks.map cZ)-> ∃xs:gR,vs=l9 xs/\xs.map (·.1)=ks/\Reps K (vw H hid) (l9 xs) (zC xs)
 |vs,[],r=>by cases r;exact⟨[],rfl,rfl,.nil⟩
 |vs,k::ks,r=>by
  rw[Pu] at r;cases r with
  |cons r rs=>
   obtain⟨xs,rfl,rfl,a⟩:=rm rs;obtain⟨b,z,rfl,_⟩:=(show cs K H (vw H hid) _ (.tup (k.map D.int)) from .inl r).tup;exact⟨(k,b)::xs,rfl,rfl,.cons r a⟩
def pF:List D->Option (List (List Int))
 | []=>some []
 | .tup ds::r=>(eJ ds).bind λk=>(pF r).map (k:: ·)
 |_=>none
theorem qW: ∀ {ds:List D} {ks:List (List Int)},pF ds=some ks->ds=ks.map cZ
 | [],ks,h=>by cases h;rfl
 | .tup es::r,ks,h=>by
   obtain⟨k,b,h⟩:=PR.mp (show(eJ es).bind _=_ from h);obtain⟨t,a,rfl⟩:=QR.mp h;rw[Pu,<-qW a,gP b];rfl
 | .non::_,_,h| .bl _::_,_,h| .int _::_,_,h| .str _::_,_,h| .lst _::_,_,h| .scr _::_,_,h=>by cases h
theorem Hy {A:Qq}(a:c4 k A):A.units+10<cLine:=RH (Xo (by decide:10<=64) _) a.units
def gq(a b:List (List Int)):List (List Int):=a.filter (λk=>decide (k∉b))++b.filter (λk=>decide (k∉a))
theorem vp {a b:List (List Int)}(h:a.Nodup)(i:b.Nodup):(gq a b).Nodup:=by
 unfold gq;rw[Q6];refine⟨h.filter _,i.filter _,λx f y g e=>?_⟩;subst e;have d:=(QW.mp f).1;have c:=(QW.mp g).2;simp at c;exact c d
theorem qH{k:List Int}:k∈gq a b↔(k∈a/\k∉b)\/(k∈b/\k∉a):=by
 unfold gq;simp
theorem Fb {a b:List (List Int)}{zs:gR}(T:Tog b a zs)(c:a.Nodup)(d:b.Nodup):(zs.map (·.1)).Perm (gq a b):=
 (Qe T.nd (vp c d)).mpr λk=>by rw[T.mem,qH];constructor<;>(rintro(h|h);exact .inr h;exact .inl h)
def JC(i j:Nat):FE:=λρ=>match ρ[i]?,ρ[j]? with
 |some (.v (.lst c)),some (.v (.lst d))=>(pF c).bind λb=>(pF d).bind λa=>if(b.Nodup/\a.Nodup)/\b.length+a.length<=1000/\(gq b a).length<64/\(∀k∈b,k≠[])/\(∀k∈a,k≠[]) then some (.lst ((bC bx (gq b a)).map cZ)) else none
 |_,_=>none
theorem ER {K:Pz}(h:Rep K (vw H hid) v (.lst ds)): ∃l xs,v=.ref l/\SqL K H l xs/\Reps K (vw H hid) xs ds:=by
 obtain⟨a,xs,rfl,b,c⟩:=(show cs K H (vw H hid) v (.lst ds) from .inl h).lst;exact⟨a,xs,rfl,b,c⟩
section
variable {X:Cx}{c:Ct}{pos p p1 p2 p3 p4 p5 q1 q2 q3:Pos}{x y:Str}
theorem Ev(i j:Nat)(r:X.calm=true)(hu:X.A.units+10<Rp)(hm:X.mg "sorted"=none)(u:X.mg "set"=none)(hN:X.N[i]? =some x:=by rfl)(W:X.N[j]? =some y:=by rfl)(hv':wK X.env.scope x:=by first|exact RA rfl|exact Q1 (RA rfl)|exact Q1 (Q1 rfl))(Z:wK X.env.scope y:=by first|exact RA rfl|exact Q1 (RA rfl)|exact Q1 (Q1 rfl))(b:(x==("__debug__":Str))=false:=by decide)(hd2:(y==("__debug__":Str))=false:=by decide)
 (S:(x==("__classdict__":Str))=false:=by decide) (F:(y==("__classdict__":Str))=false:=by decide) (hg:Gl X "sorted":=by rfl) (L:Gl X "set":=by rfl) (hv:Rm "sorted"=some (.builtin "sorted"):=by kernel_rfl) (w:Rm "set"=some (.type "set"):=by kernel_rfl)
 (J:PP [.Name x p2] X.env=(false,eval (.Name x p2) X.env)::PP [] X.env:=by rfl) (B:PP [.Name y p4] X.env=(false,eval (.Name y p4) X.env)::PP [] X.env:=by rfl) (v:PP [.BinOp (.Call (.Name "set" p1) [.Name x p2] [] q1) .BitXor (.Call (.Name "set" p3) [.Name y p4] [] q2) q3] X.env=(false,eval (.BinOp (.Call (.Name "set" p1) [.Name x p2] [] q1) .BitXor (.Call (.Name "set" p3) [.Name y p4] [] q2) q3) X.env)::PP [] X.env:=by rfl) (o: ∀I,(R5 I (PP [] X.env)).any (·.1)=false:=by intro _;rfl):
 DP X c .n (.Call (.Name "sorted" p) [.BinOp (.Call (.Name "set" p1) [.Name x p2] [] q1) .BitXor (.Call (.Name "set" p3) [.Name y p4] [] q2) q3] [] I) (JC i j):=λhid ρ=>
 PE.imp (nS (n4 r) hg hm hv (c8 (Is (HR (by lia)) (gv (rL r hu) L u w (c8 (pv i hN hv' b S) fX J) (by decide) (by decide) J (o _)) (gv (rL r hu) L u w (c8 (pv j W Z hd2 F) fX B) (by decide) (by decide) B (o _))) fX v) (by decide) (by decide) v (o _)) λσ H Q ST=>by
  obtain⟨sr,d,b,q⟩:=ST;unfold JC at b;split at b
  ·rename_i d1 d2 e1 e2
   obtain⟨k1,f1,b⟩:=PR.mp b;obtain⟨k2,f2,b⟩:=PR.mp b;split at b
   ·rename_i hc
    cases b;obtain⟨⟨M,G⟩,O,Y,ne1,U⟩:=hc;have:=qW f1;subst this;have:=qW f2;subst this;obtain⟨v1,s1,r1⟩:=sr.sl i _ e1;obtain⟨v2,s2,r2⟩:=sr.sl j _ e2;obtain⟨l1,u1,rfl,g1,w1⟩:=ER r1;obtain⟨l2,u2,rfl,g2,w2⟩:=ER r2;obtain⟨E,rfl,rfl,y1⟩:=rm w1;obtain⟨t,rfl,rfl,y2⟩:=rm w2;rw[Pp,Pp] at O;have t1: ∀z∈E,SqT X.K H z.2 (z.1.map V.int):=λz a=>n8 (cU y1 z a)
    have t2: ∀z∈t,SqT X.K H z.2 (z.1.map V.int):=λz a=>n8 (cU y2 z a)
    refine⟨.ref l1,s1,l1,E,rfl,g1,t1,M,by lia,λR P n1 g=>?_⟩;have S1:a6 H (b9 H R (.tst P)):=aT n1 _;refine⟨.ref l2,s2,l2,t,rfl,a6.seq S1 g2,λz a=>a6.seqT S1 (t2 z a),G,by lia,λa2 z2 n2 e=>?_⟩;have S2:a6 (b9 H R (.tst P)) (b9 (b9 H R (.tst P)) a2 (.tst z2)):=aT n2 _;have m:=S1.trans S2;refine⟨R,a2,P,z2,rfl,rfl,S2 _ _ aV,aV,λz a=>a6.seqT m (t1 z (g.mem_iff.mp a)),λz a=>a6.seqT m (t2 z (e.mem_iff.mp a)),by rw[g.length_eq,e.length_eq];lia,λa3 s n3 T m3=>?_⟩;have S3:=aT n3 (.tst s);have f:=m.trans S3;have C: ∀z∈s,z∈E\/z∈t:=λz a=>(m3 z a).elim (λh=>.inr (e.mem_iff.mp h)) λh=>.inl (g.mem_iff.mp h)
    have T':Tog (t.map (·.1)) (E.map (·.1)) s:=⟨T.nd,λk=>by rw[T.mem,(g.map (·.1)).mem_iff,(e.map (·.1)).mem_iff]⟩
    have P3:=Fb T' M G;have l3:s.length<64:=by
     have:=P3.length_eq;rw[Pp] at this;rw[this];exact Y
    have rp: ∀z∈s,Rep X.K (vw H hid) (.ref z.2) (.tup (z.1.map D.int)):=λz a=>(C z a).elim (cU y1 z) (cU y2 z)
    refine⟨a3,s,rfl,aV,λz a=>a6.seqT f (n8 (rp z a)),by lia,λz a=>(C z a).elim (λh=>ne1 _ (U8 h)) λh=>U _ (U8 h),λl Tm O hm hk=>q _ _ (f.trans (aT O _)) (f8 O f ?_)⟩;have:(bC bx (gq (E.map (·.1)) (t.map (·.1)))).map cZ=zC Tm:=by
     rw[<-je P3,<-hk,PM];rfl
    rw[this];exact ka λz a=>(rp z (hm z a)).mono (aW f)
   ·cases b
  ·cases b
end
set_option maxHeartbeats 4000000
def jD(i:Nat):Stmt:=UV.main.body.getD i (.Pass ⟨0,0,0,0⟩)
structure Bt(mg:Str->Option Pk):Prop where
 b_abs:mg "abs"=none
 b_any:mg "any"=none
 b_enumerate:mg "enumerate"=none
 b_len:mg "len"=none
 b_list:mg "list"=none
 b_max:mg "max"=none
 b_min:mg "min"=none
 b_range:mg "range"=none
 b_set:mg "set"=none
 b_sorted:mg "sorted"=none
 b_tuple:mg "tuple"=none
theorem NB:(["size","start","end","further"]:List Str).Nodup:=by decide+kernel
theorem LH:(["stand","a","b","rows","column","row"]:List Str).Nodup:=by decide+kernel
theorem No:(["stand","a","b","bars","heights","bar"]:List Str).Nodup:=by decide+kernel
theorem MO:(ri:List Str).Nodup:=by decide+kernel
theorem LI:(["square","stand","bars","a","b"]:List Str).Nodup:=by decide+kernel
theorem Hk:(["square","crowd","stand","a","b","end"]:List Str).Nodup:=by decide+kernel
theorem Nn:(["square","rings","crosses","ring"]:List Str).Nodup:=by decide+kernel
theorem NV:(rr:List Str).Nodup:=by decide+kernel
theorem LJ:(["square","columns","rows","column","row"]:List Str).Nodup:=by decide+kernel
theorem Nq:(pa:List Str).Nodup:=by decide+kernel
theorem Lz:(oi:List Str).Nodup:=by decide+kernel
theorem Ja:(rk:List Str).Nodup:=by decide+kernel
theorem IO:(po:List Str).Nodup:=by decide+kernel
theorem Ix:(["order","half","place","number"]:List Str).Nodup:=by decide+kernel
theorem Ba:(["ones","others","right","up","x","y"]:List Str).Nodup:=by decide+kernel
theorem MV:(mA:List Str).Nodup:=by decide+kernel
theorem IQ:(lR:List Str).Nodup:=by decide+kernel
theorem L9:(np:List Str).Nodup:=by decide+kernel
section
variable {P:Qp}{w:QD}{K:Pz}{mg:Str->Option Pk}{base:Heap}
abbrev eU:Stmt:=jD 1
abbrev gG:Stmt:=jD 2
abbrev iF:Stmt:=jD 4
abbrev jV:Stmt:=jD 5
abbrev oZ:Stmt:=jD 6
abbrev lY:Stmt:=jD 7
abbrev qt:Stmt:=jD 8
abbrev oP:Stmt:=jD 9
abbrev l5:Stmt:=jD 10
abbrev oo:Stmt:=jD 11
abbrev jJ:Stmt:=jD 12
abbrev uV:Stmt:=jD 14
abbrev iH:Stmt:=jD 15
abbrev rP:Stmt:=jD 16
abbrev l4:Stmt:=jD 21
abbrev gM:Stmt:=jD 23
abbrev jn:Stmt:=jD 25
abbrev eZ:Stmt:=jD 26
abbrev oY:Stmt:=jD 28
abbrev mt:Stmt:=jD 29
abbrev gg:Stmt:=jD 30
abbrev jy:Stmt:=jD 31
abbrev oj:Stmt:=jD 32
abbrev kJ:Stmt:=jD 33
abbrev Fr:Stmt:=jD 34
abbrev zg:Stmt:=jD 35
abbrev kr:Stmt:=jD 37
abbrev u6:Stmt:=jD 38
abbrev mI:Stmt:=jD 39
abbrev uj:Stmt:=jD 40
abbrev zU:Stmt:=jD 41
abbrev lV:Stmt:=jD 43
abbrev oz:Stmt:=jD 44
abbrev lW:Stmt:=jD 45
abbrev kP:Stmt:=jD 46
abbrev fH:Stmt:=jD 47
abbrev kz:Stmt:=jD 48
abbrev kA:Stmt:=jD 49
abbrev mQ:Stmt:=jD 50
theorem ea:bo ["order","one","other","numbers"] re (aw eU):=by refine⟨rfl,rfl,rfl,?_,rfl,?_,?_⟩<;>decide+kernel
def nL:FS:=
 aB (gc 3 (ak im (aa (ai 0) (aj))))
 (aB (cD (gT 2 (cS (cW 3 (ai 1)) (cS (cW 3 (ai 2)) (gX)))) (pu (cu (aa (av br (ai 0) (ai 2)) (aa (av br (ai 0) (ai 1)) (aj))))))
 (bc (ak gz (aa (dE 3) (aj)))))
def bD:List D->Option D:=eO .s 4 nL
theorem n6(B:Bt mg)(F:Df K mg "order_exchanged" eU re):Cl P w K mg base 1 "order_exchanged" re (cr K .s 3 bD):=by
 refine aS (k:=0) F ea (by decide) rfl λ_ b A a s H hid E c=>?_
 exact(ao (iA 3 ea.nd (eF ft m7 B.b_list (aO (af 0) bw) (hv:=by kernel_rfl)))
  (ao (qy (DP.ef (cn (ae (bd aI a8 (af 0) (af 2) (λ_ _=>rfl)) (ae (bd aI a8 (af 0) (af 1) (λ_ _=>rfl)) al)))) (Ak (n:=2) rfl (nM (jA 3 (af 1)) (nM (jA 3 (af 2)) A7))))
  (az (aP (eF dN ku B.b_tuple (aO (eB 3) bw) (hv:=by kernel_rfl))))))
theorem cw:bo ["order","rounds","start","places"] ["order"] (aw gG):=by refine⟨rfl,rfl,rfl,?_,rfl,?_,?_⟩<;>decide+kernel
def rO:FS:=
 aB (gc 1 (b7 (aj)))
 (aB (jG (cq (eV (aa (ak c7 (aa (ai 0) (aj))) (aj)))) (gN 2) (aB (gc 3 (b7 (aa (ai 2) (aj))))
 (aB (vX (bR (av mo (av br (ai 0) (av br (dE 3) (lB (aC (.int 1))))) (ai 2))) (cA (aJ 3 1 gE (cq (aa (av br (ai 0) (av br (dE 3) (lB (aC (.int 1))))) (aj))))) 16)
 (fy (bR (av si (ak tD (aa (dE 3) (aj))) (ai 2))) ((λρ=>(cA (aJ 1 1 gE (cq (aa (ai 3) (aj))))) (Cr 3 ρ))) (cb)))))
 (yh 1))
def gO:List D->Option D:=eO .n 4 rO
theorem qx(B:Bt mg)(F:Df K mg "order_rounds" gG ["order"]):Cl P w K mg base 1 "order_rounds" ["order"] (cr K .n 1 gO):=by
 refine aS (k:=0) F cw (by decide) rfl λ_ c A a s H hid E b=>?_
 exact(ao (iA 1 cw.nd (cI al))
  (ao (kO RG rfl (DIp.e (dP B.b_range (ae (be bu fI B.b_len (aO (af 0) bw) (hv:=by kernel_rfl)) al))) (ar 2 cw.nd) (ao (iA 3 cw.nd (cI (ae (af 2) al)))
  (ao (ym 16 RG (bY (jT b.units) nV (bd aI a8 (af 0) (bd aI a8 (eB 3) (nW au) (λ_ _=>rfl)) (λ_ _=>rfl)) (af 2) (cM _)) (az (hZ (jQ 3 gu du RB RC (DA.gf (ae (bd aI a8 (af 0) (bd aI a8 (eB 3) (nW au) (λ_ _=>rfl)) (λ_ _=>rfl)) al))))))
  (az (eC (bY (me b.units) qB (be (B9 rfl) HW B.b_min (aO (eB 3) bw) (hv:=by kernel_rfl)) (af 2) (cM _)) (az (KQ 3 (hZ (jQ 1 gu du RB RC (DA.gf (ae (af 3) al)))))) bZ)))))
  (az (vy 1))))
theorem qO:bo pf pf (aw iF):=by refine⟨rfl,rfl,rfl,?_,rfl,?_,?_⟩<;>decide+kernel
def sN:FS:=
 bc (cx 1 (eV (aa (av cE (av gY (ai 2) (ai 1)) (ai 0)) (aj))) (gN 3) (cj) (av cE (av bL (ai 1) (ai 3)) (ai 0)))
def dI:List D->Option D:=eO .n 3 sN
theorem sI(B:Bt mg)(F:Df K mg "places_from" iF pf):Cl P w K mg base 1 "places_from" pf (cr K .n 3 dI):=by
 refine aS (k:=0) F qO (by decide) rfl λ_ c A a s H hid E d=>?_
 exact(az (aP (kT (N':=["size","start","end","further"]) rfl (bz (Pv rfl)) (DIp.b (dP B.b_range (ae (gK (jL (af 2) (af 1)) (af 0)) al))) (λ_ _ _ _=>(ar 3 NB)) (λ_ _ _ _=>bV) (λ_ _ _ _=>(gK (cG (af 1) (af 3)) (af 0))))))
theorem sD:bo md md (aw jV):=by refine⟨rfl,rfl,rfl,?_,rfl,?_,?_⟩<;>decide+kernel
def uh:FS:=
 bc (ak (nF 3 dI) (aa (ak c7 (aa (ai 0) (aj))) (aa (ai 1) (aa (ai 2) (aj)))))
def cz:List D->Option D:=eO .n 3 uh
theorem uN(B:Bt mg)(F:Df K mg "columns_of" jV md)(c:Cl P w K mg base 1 "places_from" pf (cr K .n 3 dI)):Cl P w K mg base 2 "columns_of" md (cr K .n 3 cz):=by
 refine aS (k:=1) F sD (by decide) rfl λ_ d A a s H hid E b=>?_
 exact(az (aP (aL c (b.mono (by decide)) (ae (be bu fI B.b_len (aO (af 0) bw) (hv:=by kernel_rfl)) (ae (af 1) (ae (af 2) al))))))
theorem yN:bo md md (aw oZ):=by refine⟨rfl,rfl,rfl,?_,rfl,?_,?_⟩<;>decide+kernel
def CU:FS:=
 bc (ak (nF 3 dI) (aa (ak c7 (aa (ai 0) (aj))) (aa (av br (ai 0) (ai 1)) (aa (av br (ai 0) (ai 2)) (aj)))))
def eE:List D->Option D:=eO .n 3 CU
theorem B8(B:Bt mg)(F:Df K mg "rows_of" oZ md)(c:Cl P w K mg base 1 "places_from" pf (cr K .n 3 dI)):Cl P w K mg base 2 "rows_of" md (cr K .n 3 eE):=by
 refine aS (k:=1) F yN (by decide) rfl λ_ d A a s H hid E b=>?_
 exact(az (aP (aL c (b.mono (by decide)) (ae (be bu fI B.b_len (aO (af 0) bw) (hv:=by kernel_rfl)) (ae (bd aI a8 (af 0) (af 1) (λ_ _=>rfl)) (ae (bd aI a8 (af 0) (af 2) (λ_ _=>rfl)) al))))))
theorem ia:bo ["stand","a","b","rows"] md (aw lY):=by refine⟨rfl,rfl,rfl,?_,rfl,?_,?_⟩<;>decide+kernel
def zd:FS:=
 aB (bf 3 (ak (nF 3 eE) (aa (ai 0) (aa (ai 1) (aa (ai 2) (aj))))))
 (bc (ak dv (aa (jh 2 (gS (ak (nF 3 cz) (aa (ai 0) (aa (ai 1) (aa (ai 2) (aj)))))) (gN 4) (cj) (gS (ai 3)) (gN 5) (cj) (cu (aa (ai 4) (aa (ai 5) (aj))))) (aj))))
def mw:List D->Option D:=eO .n 4 zd
theorem zK(B:Bt mg)(F:Df K mg "cells_of" lY md)(d:Cl P w K mg base 2 "rows_of" md (cr K .n 3 eE))(f:Cl P w K mg base 2 "columns_of" md (cr K .n 3 cz)):Cl P w K mg base 3 "cells_of" md (cr K .n 3 mw):=by
 refine aS (k:=2) F ia (by decide) rfl λ_ e A a s H hid E c=>?_
 exact(ao (aZ 3 ia.nd (DP.toS (aL d (c.mono (by decide)) (ae (af 0) (ae (af 1) (ae (af 2) al))))))
  (az (aP (be iu kU B.b_sorted (aO (gQ (N':=["stand","a","b","rows","column","row"]) rfl 5 (bz (Pv rfl)) (w6 (Pv rfl)) (bz (Pv rfl)) (DIp.b (eX (DP.toS (aL f (c.mono (by decide)) (ae (af 0) (ae (af 1) (ae (af 2) al))))))) (λ_ _ _ _=>(ar 4 LH)) (λ_ _ _ _=>bV) (λ_ _ _ _=>(eX (af 3))) (λ_ _ _ _=>(ar 5 LH)) (λ_ _ _ _=>bV) (λ_ _ _ _=>(cn (ae (af 4) (ae (af 5) al))))) bw) (hv:=by kernel_rfl)))))
theorem BG:bo md md (aw qt):=by refine⟨rfl,rfl,rfl,?_,rfl,?_,?_⟩<;>decide+kernel
def D4:FS:=
 bc (ak (nF 3 bD) (aa (ai 0) (aa (ai 1) (aa (ai 2) (aj)))))
def cV:List D->Option D:=eO .s 3 D4
theorem FW(B:Bt mg)(F:Df K mg "behind" qt md)(c:Cl P w K mg base 1 "order_exchanged" re (cr K .s 3 bD)):Cl P w K mg base 2 "behind" md (cr K .s 3 cV):=by
 refine aS (k:=1) F BG (by decide) rfl λ_ d A a s H hid E b=>?_
 exact(az (aP (aL c (b.mono (by decide)) (ae (af 0) (ae (af 1) (ae (af 2) al))))))
theorem hY:bo ["stand","a","b","bars","heights"] md (aw oP):=by refine⟨rfl,rfl,rfl,?_,rfl,?_,?_⟩<;>decide+kernel
def CI:FS:=
 aB (bf 3 (fx (ak (nF 3 cz) (aa (ai 0) (aa (ai 1) (aa (ai 2) (aj))))) (j5 (aC (.int 1))) og))
 (aB (bf 4 (fx (ak (nF 3 eE) (aa (ai 0) (aa (ai 1) (aa (ai 2) (aj))))) (j5 (aC (.int 1))) og))
 (bc (Bk (g6 (bR (ak sv (aa (cx 1 (gS (ai 3)) (gN 5) (cj) (av (jk false) (av br (ai 0) (ai 5)) (ai 4))) (aj))))))))
def gr:List D->Option D:=eO .s 5 CI
theorem BV(B:Bt mg)(F:Df K mg "is_bare" oP md)(f:Cl P w K mg base 2 "columns_of" md (cr K .n 3 cz))(d:Cl P w K mg base 2 "rows_of" md (cr K .n 3 eE)):Cl P w K mg base 3 "is_bare" md (cr K .s 3 gr):=by
 refine aS (k:=2) F hY (by decide) rfl λ_ e A c s H hid E a=>?_
 exact(ao (aZ 3 hY.nd (DP.toS (iE (aL f (a.mono (by decide)) (ae (af 0) (ae (af 1) (ae (af 2) al)))) (c9 au) eP)))
  (ao (aZ 4 hY.nd (DP.toS (iE (aL d (a.mono (by decide)) (ae (af 0) (ae (af 1) (ae (af 2) al)))) (c9 au) eP)))
  (az (aP (zr (be (mX rfl) u9 B.b_any (aO (kT (N':=["stand","a","b","bars","heights","bar"]) rfl (bz (Pv rfl)) (DIp.b (eX (af 3))) (λ_ _ _ _=>(ar 5 No)) (λ_ _ _ _=>bV) (λ_ _ _ _=>(oN (mL a.units) (lU false) (bd aI a8 (af 0) (af 5) (λ_ _=>rfl)) (af 4) (by with_unfolding_all rfl)))) bw) (hv:=by kernel_rfl)))))))
theorem fc:bo ["square","stand","a","b","rings","crosses","marked"] nj (aw l5):=by refine⟨rfl,rfl,rfl,?_,rfl,?_,?_⟩<;>decide+kernel
def zb:FS:=
 aB (cD (gT 2 (cS (gN 4) (cS (gN 5) (gX)))) (pu (ai 0)))
 (aB (bf 6 (cx 2 (gS (ak (nF 3 mw) (aa (ai 1) (aa (ai 2) (aa (ai 3) (aj)))))) (gT 2 (cS (gN 7) (cS (gN 8) (gX)))) (cj) (av (jk false) (ai 8) (cu (aa (av br (ai 4) (ai 7)) (aa (av br (ai 5) (ai 7)) (aj)))))))
 (bc (Bk (g6 (bR (ak sv (aa (ai 6) (aj))))))))
def mH:List D->Option D:=eO .s 7 zb
theorem yq(B:Bt mg)(F:Df K mg "is_clear" l5 nj)(d:Cl P w K mg base 3 "cells_of" md (cr K .n 3 mw)):Cl P w K mg base 4 "is_clear" nj (cr K .s 4 mH):=by
 refine aS (k:=3) F fc (by decide) rfl λ_ e A a s H hid E c=>?_
 exact(ao (fq (DP.ef (af 0)) (cB (n:=2) rfl (aH (ar 4 fc.nd) (aH (ar 5 fc.nd) bW))))
  (ao (ut 6 (N':=ri) rfl fc.nd (qJ (cf (bz (Pv rfl)) (cf (bz (Pv rfl)) jb))) (DIp.b (eX (DP.toS (aL d (c.mono (by decide)) (ae (af 1) (ae (af 2) (ae (af 3) al))))))) (λ_ _ _ _=>(cB (n:=2) rfl (aH (ar 7 MO) (aH (ar 8 MO) bW)))) (λ_ _ _ _=>bV) (λ_ _ _ _=>(oN (mL c.units) (lU false) (af 8) (cn (ae (bd aI a8 (af 4) (af 7) (λ_ _=>rfl)) (ae (bd aI a8 (af 5) (af 7) (λ_ _=>rfl)) al))) (by with_unfolding_all rfl))))
  (az (aP (zr (be (mX rfl) u9 B.b_any (aO (af 6) bw) (hv:=by kernel_rfl)))))))
theorem zp:bo nj nj (aw oo):=by refine⟨rfl,rfl,rfl,?_,rfl,?_,?_⟩<;>decide+kernel
def BN:FS:=
 bc (Bk (gZ (bR (ak (nF 3 gr) (aa (ai 1) (aa (ai 2) (aa (ai 3) (aj)))))) (bR (ak (nF 4 mH) (aa (ai 0) (aa (ai 1) (aa (ai 2) (aa (ai 3) (aj)))))))))
def o9:List D->Option D:=eO .s 4 BN
theorem Cj(B:Bt mg)(F:Df K mg "is_step" oo nj)(d:Cl P w K mg base 3 "is_bare" md (cr K .s 3 gr))(c:Cl P w K mg base 4 "is_clear" nj (cr K .s 4 mH)):Cl P w K mg base 5 "is_step" nj (cr K .s 4 o9):=by
 refine aS (k:=4) F zp (by decide) rfl λ_ e A a s H hid E b=>?_
 exact(az (aP (FL (aL d (b.mono (by decide)) (ae (af 1) (ae (af 2) (ae (af 3) al)))) (Ei (aL c (b.mono (by decide)) (ae (af 0) (ae (af 1) (ae (af 2) (ae (af 3) al)))))))))
theorem hW:bo ["square","stand","bars"] m8 (aw jJ):=by refine⟨rfl,rfl,rfl,?_,rfl,?_,?_⟩<;>decide+kernel
def vn:FS:=
 aB (bf 2 (HS (ak c7 (aa (ai 1) (aj)))))
 (bc (jh 2 (gS (ai 2)) (gN 3) (cj) (gS (ai 2)) (gN 4) (gZ (bR (av mo (ai 3) (ai 4))) (dJ (ak (nF 4 o9) (aa (ai 0) (aa (ai 1) (aa (ai 3) (aa (ai 4) (aj)))))))) (cu (aa (ai 3) (aa (ai 4) (aa (ak (nF 3 cV) (aa (ai 1) (aa (ai 3) (aa (ai 4) (aj))))) (aj)))))))
def jP:List D->Option D:=eO .n 3 vn
theorem uT(B:Bt mg)(F:Df K mg "steps_from" jJ m8)(d:Cl P w K mg base 2 "behind" md (cr K .s 3 cV))(e:Cl P w K mg base 5 "is_step" nj (cr K .s 4 o9)):Cl P w K mg base 6 "steps_from" m8 (cr K .n 2 jP):=by
 refine aS (k:=5) F hW (by decide) rfl λ_ f A c s H hid E a=>?_
 exact(ao (aZ 2 hW.nd (DP.toS (lF rfl B.b_list B.b_range (be bu fI B.b_len (aO (af 1) bw) (hv:=by kernel_rfl)))))
  (az (aP (gQ (N':=["square","stand","bars","a","b"]) rfl 4 (bz (Pv rfl)) (w6 (Pv rfl)) (bz (Pv rfl)) (DIp.b (eX (af 2))) (λ_ _ _ _=>(ar 3 LI)) (λ_ _ _ _=>bV) (λ_ _ _ _=>(eX (af 2))) (λ_ _ _ _=>(ar 4 LI)) (λ_ _ _ _=>(jO (DW.dt (vI (bY (jT a.units) nV (af 3) (af 4) (cM _)) (pY (gW (aL e (a.mono (by decide)) (ae (af 0) (ae (af 1) (ae (af 3) (ae (af 4) al))))))))))) (λ_ _ _ _=>(cn (ae (af 3) (ae (af 4) (ae (aL d (a.mono (by decide)) (ae (af 1) (ae (af 3) (ae (af 4) al)))) al)))))))))
theorem Di:bo sy sy (aw uV):=by refine⟨rfl,rfl,rfl,?_,rfl,?_,?_⟩<;>decide+kernel
def vo:FS:=
 bc (JC 0 1)
def lq:List D->Option D:=eO .n 2 vo
theorem GF(B:Bt mg)(F:Df K mg "added" uV sy):Cl P w K mg base 1 "added" sy (cr K .n 2 lq):=by
 refine aS (k:=0) F Di (by decide) rfl λ_ c A a s H hid E b=>?_
 exact(az (aP (Ev 0 1 rfl (Hy b) B.b_sorted B.b_set)))
theorem ey:bo ["stands","odd","stand"] ["stands"] (aw iH):=by refine⟨rfl,rfl,rfl,?_,rfl,?_,?_⟩<;>decide+kernel
def iD:FS:=
 aB (IE 1)
 (aB (jG (cq (dw (ai 0))) (gN 2) (fy (C2 1 (ai 2)) (cA (wf lQ 1 (ai 2))) (cA (wf lI 1 (ai 2)))))
 (bc (D8 1)))
def bJ:List D->Option D:=eO .n 3 iD
theorem sA(B:Bt mg)(F:Df K mg "oddly_often" iH ["stands"]):Cl P w K mg base 1 "oddly_often" ["stands"] (cr K .n 1 bJ):=by
 refine aS (k:=0) F ey (by decide) rfl λ_ c A b s H hid E a=>?_
 exact(ao (Hg 1 ey.nd B.b_set)
  (ao (kO RG rfl (DIp.e (da (af 0))) (ar 2 ey.nd) (az (eC (HL 1 (CZ a) (af 2)) (az (hZ (Ij 1 (CZ a) (af 2)))) (az (hZ (HI 1 (CZ a) (af 2)))))))
  (az (aP (Hi 1 rfl B.b_sorted)))))
theorem Cm:bo r6 r6 (aw rP):=by refine⟨rfl,rfl,rfl,?_,rfl,?_,?_⟩<;>decide+kernel
def ql:FS:=
 bc (ak (nF 1 bJ) (aa (jh 4 (dw (ai 1)) (gN 2) (cj) (dw (ak (nF 2 jP) (aa (ai 0) (aa (ai 2) (aj))))) (gT 3 (cS (gN 3) (cS (gN 4) (cS (gN 5) (gX))))) (cj) (ai 5)) (aj)))
def fu:List D->Option D:=eO .n 2 ql
theorem F7(B:Bt mg)(F:Df K mg "border" rP r6)(e:Cl P w K mg base 1 "oddly_often" ["stands"] (cr K .n 1 bJ))(d:Cl P w K mg base 6 "steps_from" m8 (cr K .n 2 jP)):Cl P w K mg base 7 "border" r6 (cr K .n 2 fu):=by
 refine aS (k:=6) F Cm (by decide) rfl λ_ f A a s H hid E c=>?_
 exact(az (aP (aL e (c.mono (by decide)) (ae (DP.toS (gQ (N':=["square","crowd","stand","a","b","end"]) rfl 3 (bz (Pv rfl)) (w6 (Pv rfl)) (qJ (cf (bz (Pv rfl)) (cf (bz (Pv rfl)) (cf (bz (Pv rfl)) jb)))) (DIp.b (da (af 1))) (λ_ _ _ _=>(ar 2 Hk)) (λ_ _ _ _=>bV) (λ_ _ _ _=>(da (DP.toS (aL d (c.mono (by decide)) (ae (af 0) (ae (af 2) al)))))) (λ_ _ _ _=>(cB (n:=3) rfl (aH (ar 3 Hk) (aH (ar 4 Hk) (aH (ar 5 Hk) bW))))) (λ_ _ _ _=>bV) (λ_ _ _ _=>(af 5)))) al))))
theorem hI:bo ["square","rings","crosses"] ["square"] (aw l4):=by refine⟨rfl,rfl,rfl,?_,rfl,?_,?_⟩<;>decide+kernel
def zM:FS:=
 aB (cD (gT 2 (cS (gN 1) (cS (gN 2) (gX)))) (pu (ai 0)))
 (bc (ak (nF 1 gO) (aa (cx 1 (xt (ai 1)) (gN 3) (cj) (av tI (ai 2) (ai 3))) (aj))))
def jH:List D->Option D:=eO .n 3 zM
theorem yX(B:Bt mg)(F:Df K mg "lines_of" l4 ["square"])(d:Cl P w K mg base 1 "order_rounds" ["order"] (cr K .n 1 gO)):Cl P w K mg base 2 "lines_of" ["square"] (cr K .n 1 jH):=by
 refine aS (k:=1) F hI (by decide) rfl λ_ e A a s H hid E c=>?_
 exact(ao (fq (DP.ef (af 0)) (cB (n:=2) rfl (aH (ar 1 hI.nd) (aH (ar 2 hI.nd) bW))))
  (az (aP (aL d (c.mono (by decide)) (ae (DP.toS (kT (N':=["square","rings","crosses","ring"]) rfl (bz (Pv rfl)) (DIp.b (BA (af 1))) (λ_ _ _ _=>(ar 3 Nn)) (λ_ _ _ _=>bV) (λ_ _ _ _=>(wC c.units (af 2) (af 3))))) al)))))
theorem pQ:bo rb rb (aw gM):=by refine⟨rfl,rfl,rfl,?_,rfl,?_,?_⟩<;>decide+kernel
def gV:FS:=
 bc (Ff Da Da (ak lO (aa (ai 1) (aa (ai 2) (aj)))) (ai 0) (ak wg (aa (ai 1) (aa (ai 2) (aj)))))
def cg:List D->Option D:=eO .s 3 gV
theorem qo(B:Bt mg)(F:Df K mg "lies_between" gM rb):Cl P w K mg base 1 "lies_between" rb (cr K .s 3 cg):=by
 refine aS (k:=0) F pQ (by decide) rfl λ_ b A a s H hid E c=>?_
 exact(az (aP (Mo xC xC pB pB (be (sX rfl) Bx B.b_min (aO (af 1) (aO (af 2) bw)) (hv:=by kernel_rfl)) (af 0) (be (BL rfl) GK B.b_max (aO (af 1) (aO (af 2) bw)) (hv:=by kernel_rfl)))))
theorem ci:bo ["square","c","rings","crosses","one","other","between"] nv (aw jn):=by refine⟨rfl,rfl,rfl,?_,rfl,?_,?_⟩<;>decide+kernel
def u5:FS:=
 aB (cD (gT 2 (cS (gN 2) (cS (gN 3) (gX)))) (pu (ai 0)))
 (aB (fy (g6 (bR (Ff Lg Lg (aC (.int 0)) (ai 1) (av gY (ak c7 (aa (ai 2) (aj))) (aC (.int 2)))))) (bc (aC (.bl false))) (cb))
 (aB (bf 4 (cu (aa (av br (ai 2) (ai 1)) (aa (av br (ai 3) (ai 1)) (aj)))))
 (aB (bf 5 (cu (aa (av br (ai 2) (av bL (ai 1) (aC (.int 1)))) (aa (av br (ai 3) (av bL (ai 1) (aC (.int 1)))) (aj)))))
 (aB (fy (CN (bR (av (jk false) (av br (ai 4) (aC (.int 0))) (ai 5))) (bR (av (jk false) (av br (ai 4) (aC (.int 1))) (ai 5)))) (bc (aC (.bl false))) (cb))
 (aB (bf 6 (cx 1 (dw (ai 5)) (gN 7) (dJ (ak (nF 3 cg) (aa (ai 7) (aa (av br (ai 4) (aC (.int 0))) (aa (av br (ai 4) (aC (.int 1))) (aj)))))) (ai 7)))
 (bc (av mo (ak c7 (aa (ai 6) (aj))) (aC (.int 1)))))))))
def gm:List D->Option D:=eO .s 7 u5
theorem um(B:Bt mg)(F:Df K mg "may_change" jn nv)(d:Cl P w K mg base 1 "lies_between" rb (cr K .s 3 cg)):Cl P w K mg base 2 "may_change" nv (cr K .s 2 gm):=by
 refine aS (k:=1) F ci (by decide) rfl λ_ e A c s H hid E a=>?_
 exact(ao (fq (DP.ef (af 0)) (cB (n:=2) rfl (aH (ar 2 ci.nd) (aH (ar 3 ci.nd) bW))))
  (ao (eC (rg (Mk Iv Iv pB pB au (af 1) (jL (be bu fI B.b_len (aO (af 2) bw) (hv:=by kernel_rfl)) au))) (az (aP n9)) bZ)
  (ao (aZ 4 ci.nd (cn (ae (bd aI a8 (af 2) (af 1) (λ_ _=>rfl)) (ae (bd aI a8 (af 3) (af 1) (λ_ _=>rfl)) al))))
  (ao (aZ 5 ci.nd (cn (ae (bd aI a8 (af 2) (cG (af 1) au) (λ_ _=>rfl)) (ae (bd aI a8 (af 3) (cG (af 1) au) (λ_ _=>rfl)) al))))
  (ao (eC (DW.dt (Eo (bY (mL a.units) (lU false) (bd aI a8 (af 4) au (λ_ _=>rfl)) (af 5) (by with_unfolding_all rfl)) (yL (bY (mL a.units) (lU false) (bd aI a8 (af 4) au (λ_ _=>rfl)) (af 5) (by with_unfolding_all rfl))))) (az (aP n9)) bZ)
  (ao (ut 6 (N':=rr) rfl ci.nd (bz (Pv rfl)) (DIp.b (da (af 5))) (λ_ _ _ _=>(ar 7 NV)) (λ_ _ _ _=>(jO (gW (aL d (a.mono (by decide)) (ae (af 7) (ae (bd aI a8 (af 4) au (λ_ _=>rfl)) (ae (bd aI a8 (af 4) au (λ_ _=>rfl)) al))))))) (λ_ _ _ _=>(af 7)))
  (az (aP (oN (jT a.units) nV (be bu fI B.b_len (aO (af 6) bw) (hv:=by kernel_rfl)) au (cM _))))))))))
theorem c2:bo ["square","c","rings","crosses"] nv (aw eZ):=by refine⟨rfl,rfl,rfl,?_,rfl,?_,?_⟩<;>decide+kernel
def eQ:FS:=
 aB (fy (g6 (dJ (ak (nF 2 gm) (aa (ai 0) (aa (ai 1) (aj)))))) (Es) (cb))
 (aB (cD (gT 2 (cS (gN 2) (cS (gN 3) (gX)))) (pu (ai 0)))
 (bc (cu (aa (ak (nF 3 bD) (aa (ai 2) (aa (ai 1) (aa (av bL (ai 1) (aC (.int 1))) (aj))))) (aa (ak (nF 3 bD) (aa (ai 3) (aa (ai 1) (aa (av bL (ai 1) (aC (.int 1))) (aj))))) (aj))))))
def aY:List D->Option D:=eO .s 4 eQ
theorem nT(B:Bt mg)(F:Df K mg "columns_changed" eZ nv)(d:Cl P w K mg base 2 "may_change" nv (cr K .s 2 gm))(c:Cl P w K mg base 1 "order_exchanged" re (cr K .s 3 bD)):Cl P w K mg base 3 "columns_changed" nv (cr K .s 2 aY):=by
 refine aS (k:=2) F c2 (by decide) rfl λ_ e A b s H hid E a=>?_
 exact(ao (eC (rg (gW (aL d (a.mono (by decide)) (ae (af 0) (ae (af 1) al))))) (az Dx) bZ)
  (ao (fq (DP.ef (af 0)) (cB (n:=2) rfl (aH (ar 2 c2.nd) (aH (ar 3 c2.nd) bW))))
  (az (aP (cn (ae (aL c (a.mono (by decide)) (ae (af 2) (ae (af 1) (ae (cG (af 1) au) al)))) (ae (aL c (a.mono (by decide)) (ae (af 3) (ae (af 1) (ae (cG (af 1) au) al)))) al)))))))
theorem eL:bo ["square","c","rings","crosses","low","high"] nv (aw oY):=by refine⟨rfl,rfl,rfl,?_,rfl,?_,?_⟩<;>decide+kernel
def ou:FS:=
 aB (cD (gT 2 (cS (gN 2) (cS (gN 3) (gX)))) (pu (ai 0)))
 (aB (cD (gL 2 (cS (gN 4) (cS (gN 5) (gX)))) (pu (ak dv (aa (cu (aa (av br (ai 2) (ai 1)) (aa (av br (ai 3) (ai 1)) (aj)))) (aj)))))
 (bc (Iu (dJ (ak (nF 3 cg) (aa (av br (ai 2) (av bL (ai 1) (aC (.int 1)))) (aa (ai 4) (aa (ai 5) (aj)))))) (ai 4) (ai 5))))
def c6:List D->Option D:=eO .s 6 ou
theorem CD(B:Bt mg)(F:Df K mg "turn_of" oY nv)(c:Cl P w K mg base 1 "lies_between" rb (cr K .s 3 cg)):Cl P w K mg base 2 "turn_of" nv (cr K .s 2 c6):=by
 refine aS (k:=1) F eL (by decide) rfl λ_ d A a s H hid E b=>?_
 exact(ao (fq (DP.ef (af 0)) (cB (n:=2) rfl (aH (ar 2 eL.nd) (aH (ar 3 eL.nd) bW))))
  (ao (fq (DE.toS (DP.ef (be iu kU B.b_sorted (aO (cn (ae (bd aI a8 (af 2) (af 1) (λ_ _=>rfl)) (ae (bd aI a8 (af 3) (af 1) (λ_ _=>rfl)) al))) bw) (hv:=by kernel_rfl)))) (AY (n:=2) rfl (aH (ar 4 eL.nd) (aH (ar 5 eL.nd) bW))))
  (az (aP (LB (by decide) (gW (aL c (b.mono (by decide)) (ae (bd aI a8 (af 2) (cG (af 1) au) (λ_ _=>rfl)) (ae (af 4) (ae (af 5) al))))) (af 4) (af 5))))))
theorem hQ:bo ["square","column","row","rings","crosses"] pp (aw mt):=by refine⟨rfl,rfl,rfl,?_,rfl,?_,?_⟩<;>decide+kernel
def ma:FS:=
 aB (cD (gT 2 (cS (gN 3) (cS (gN 4) (gX)))) (pu (ai 0)))
 (bc (av (jk false) (ai 2) (cu (aa (av br (ai 3) (ai 1)) (aa (av br (ai 4) (ai 1)) (aj))))))
def cQ:List D->Option D:=eO .s 5 ma
theorem zV(B:Bt mg)(F:Df K mg "has_mark" mt pp):Cl P w K mg base 1 "has_mark" pp (cr K .s 3 cQ):=by
 refine aS (k:=0) F hQ (by decide) rfl λ_ c A a s H hid E b=>?_
 exact(ao (fq (DP.ef (af 0)) (cB (n:=2) rfl (aH (ar 3 hQ.nd) (aH (ar 4 hQ.nd) bW))))
  (az (aP (oN (mL b.units) (lU false) (af 2) (cn (ae (bd aI a8 (af 3) (af 1) (λ_ _=>rfl)) (ae (bd aI a8 (af 4) (af 1) (λ_ _=>rfl)) al))) (by with_unfolding_all rfl)))))
theorem oW:bo pe pe (aw gg):=by refine⟨rfl,rfl,rfl,?_,rfl,?_,?_⟩<;>decide+kernel
def f6:FS:=
 bc (Bk (g6 (bR (ak sv (aa (jh 2 (dw (ai 1)) (gN 3) (cj) (dw (ai 2)) (gN 4) (cj) (ak (nF 3 cQ) (aa (ai 0) (aa (ai 3) (aa (ai 4) (aj)))))) (aj))))))
def cX:List D->Option D:=eO .s 3 f6
theorem pL(B:Bt mg)(F:Df K mg "columns_clear" gg pe)(d:Cl P w K mg base 1 "has_mark" pp (cr K .s 3 cQ)):Cl P w K mg base 2 "columns_clear" pe (cr K .s 3 cX):=by
 refine aS (k:=1) F oW (by decide) rfl λ_ e A a s H hid E c=>?_
 exact(az (aP (zr (be (mX rfl) u9 B.b_any (aO (gQ (N':=["square","columns","rows","column","row"]) rfl 4 (bz (Pv rfl)) (w6 (Pv rfl)) (bz (Pv rfl)) (DIp.b (da (af 1))) (λ_ _ _ _=>(ar 3 LJ)) (λ_ _ _ _=>bV) (λ_ _ _ _=>(da (af 2))) (λ_ _ _ _=>(ar 4 LJ)) (λ_ _ _ _=>bV) (λ_ _ _ _=>(aL d (c.mono (by decide)) (ae (af 0) (ae (af 3) (ae (af 4) al)))))) bw) (hv:=by kernel_rfl)))))
theorem ck:bo ["column","rows","bend","sides","turns","at","row"] ry (aw jy):=by refine⟨rfl,rfl,rfl,?_,rfl,?_,?_⟩<;>decide+kernel
def js:FS:=
 aB (cD (gT 2 (cS (gN 3) (cS (gN 4) (gX)))) (pu (ai 2)))
 (aB (bf 5 (aC (.int 0)))
 (aB (jG (cq (dw (ai 1))) (gN 6) (aB (fy (dJ (ak (nF 3 cQ) (aa (av br (ai 3) (ai 5)) (aa (ai 0) (aa (ai 6) (aj)))))) (bc (aC (.bl false))) (cb))
 (fy (bR (av (jk false) (ai 6) (ai 4))) (Er bL 5 (aC (.int 1))) (cb))))
 (bc (aC (.bl true)))))
def fm:List D->Option D:=eO .s 7 js
theorem uJ(B:Bt mg)(F:Df K mg "bend_clear" jy ry)(c:Cl P w K mg base 1 "has_mark" pp (cr K .s 3 cQ)):Cl P w K mg base 2 "bend_clear" ry (cr K .s 3 fm):=by
 refine aS (k:=1) F ck (by decide) rfl λ_ d A a s H hid E b=>?_
 exact(ao (fq (DP.ef (af 2)) (cB (n:=2) rfl (aH (ar 3 ck.nd) (aH (ar 4 ck.nd) bW))))
  (ao (aZ 5 ck.nd au)
  (ao (kO RG rfl (DIp.e (da (af 1))) (ar 6 ck.nd) (ao (eC (gW (aL c (b.mono (by decide)) (ae (bd aI a8 (af 3) (af 5) (λ_ _=>rfl)) (ae (af 0) (ae (af 6) al))))) (az (aP n9)) bZ)
  (az (eC (bY (mL b.units) (lU false) (af 6) (af 4) (by with_unfolding_all rfl)) (az (Cp 5 ck.nd au Kr)) bZ))))
  (az (aP n9)))))
theorem el:bo ["square","stand","a","b","column","bend","sides","turns","rows","straight"] n7 (aw oj):=by refine⟨rfl,rfl,rfl,?_,rfl,?_,?_⟩<;>decide+kernel
def oD:FS:=
 aB (cD (gT 2 (cS (gN 6) (cS (gN 7) (gX)))) (pu (ai 5)))
 (aB (bf 8 (ak (nF 3 eE) (aa (ai 1) (aa (ai 2) (aa (ai 3) (aj))))))
 (aB (fy (CN (bR (av mo (cx 1 (dw (ai 8)) (gN 10) (bR (av (jk false) (ai 10) (ai 7))) (ai 10)) (ai 7))) (g6 (dJ (ak (nF 3 gr) (aa (ai 1) (aa (ai 2) (aa (ai 3) (aj)))))))) (bc (aC (.bl false))) (cb))
 (aB (bf 9 (cx 1 (dw (ak (nF 3 cz) (aa (ai 1) (aa (ai 2) (aa (ai 3) (aj)))))) (gN 10) (bR (av mo (ai 10) (ai 4))) (ai 10)))
 (bc (Bk (gZ (bR (ak (nF 3 cX) (aa (ai 0) (aa (ai 9) (aa (ai 8) (aj)))))) (bR (ak (nF 3 fm) (aa (ai 4) (aa (ai 8) (aa (ai 5) (aj))))))))))))
def cK:List D->Option D:=eO .s 10 oD
theorem CK(B:Bt mg)(F:Df K mg "is_bent" oj n7)(d:Cl P w K mg base 2 "rows_of" md (cr K .n 3 eE))(g:Cl P w K mg base 2 "columns_clear" pe (cr K .s 3 cX))(e:Cl P w K mg base 2 "bend_clear" ry (cr K .s 3 fm))(i:Cl P w K mg base 3 "is_bare" md (cr K .s 3 gr))(f:Cl P w K mg base 2 "columns_of" md (cr K .n 3 cz)):Cl P w K mg base 4 "is_bent" n7 (cr K .s 6 cK):=by
 refine aS (k:=3) F el (by decide) rfl λ_ h A c s H hid E a=>?_
 exact(ao (fq (DP.ef (af 5)) (cB (n:=2) rfl (aH (ar 6 el.nd) (aH (ar 7 el.nd) bW))))
  (ao (aZ 8 el.nd (DP.toS (aL d (a.mono (by decide)) (ae (af 1) (ae (af 2) (ae (af 3) al))))))
  (ao (eC (DW.dt (Eo (bY (jT a.units) nV (kT (N':=pa) rfl (bz (Pv rfl)) (DIp.b (da (af 8))) (λ_ _ _ _=>(ar 10 Nq)) (λ_ _ _ _=>(jO (bY (mL a.units) (lU false) (af 10) (af 7) (by with_unfolding_all rfl)))) (λ_ _ _ _=>(af 10))) (af 7) (cM _)) (yL (rg (gW (aL i (a.mono (by decide)) (ae (af 1) (ae (af 2) (ae (af 3) al))))))))) (az (aP n9)) bZ)
  (ao (ut 9 (N':=oi) rfl el.nd (bz (Pv rfl)) (DIp.b (da (DP.toS (aL f (a.mono (by decide)) (ae (af 1) (ae (af 2) (ae (af 3) al))))))) (λ_ _ _ _=>(ar 10 Lz)) (λ_ _ _ _=>(jO (bY (jT a.units) nV (af 10) (af 4) (cM _)))) (λ_ _ _ _=>(af 10)))
  (az (aP (FL (aL g (a.mono (by decide)) (ae (af 0) (ae (af 9) (ae (af 8) al)))) (Ei (aL e (a.mono (by decide)) (ae (af 4) (ae (af 8) (ae (af 5) al))))))))))))
theorem dy:bo ["square","c","stand","right","left","i","ends","j"] n5 (aw kJ):=by refine⟨rfl,rfl,rfl,?_,rfl,?_,?_⟩<;>decide+kernel
def kM:FS:=
 aB (bf 5 (av bL (ai 1) (aC (.int 1))))
 (aB (gc 6 (b7 (aj)))
 (aB (jG (cq (eV (aa (ak c7 (aa (ai 2) (aj))) (aj)))) (gN 7) (aB (fy (gZ (bR (av mo (ai 7) (ai 5))) (dJ (ak (nF 6 cK) (aa (ai 0) (aa (ai 2) (aa (ai 5) (aa (ai 7) (aa (ai 5) (aa (ai 3) (aj)))))))))) (cA (aJ 6 1 gE (cq (aa (ak (nF 3 cV) (aa (ai 2) (aa (ai 5) (aa (ai 7) (aj))))) (aj))))) (cb))
 (fy (gZ (bR (av mo (ai 7) (ai 5))) (dJ (ak (nF 6 cK) (aa (ai 0) (aa (ai 2) (aa (ai 7) (aa (ai 5) (aa (ai 1) (aa (ai 4) (aj)))))))))) (cA (aJ 6 1 gE (cq (aa (ak (nF 3 cV) (aa (ai 2) (aa (ai 7) (aa (ai 5) (aj))))) (aj))))) (cb))))
 (yh 6)))
def cP:List D->Option D:=eO .n 8 kM
theorem xD(B:Bt mg)(F:Df K mg "ends_from" kJ n5)(d:Cl P w K mg base 4 "is_bent" n7 (cr K .s 6 cK))(c:Cl P w K mg base 2 "behind" md (cr K .s 3 cV)):Cl P w K mg base 5 "ends_from" n5 (cr K .n 5 cP):=by
 refine aS (k:=4) F dy (by decide) rfl λ_ f A b s H hid E a=>?_
 exact(ao (aZ 5 dy.nd (cG (af 1) au))
  (ao (iA 6 dy.nd (cI al))
  (ao (kO RG rfl (DIp.e (dP B.b_range (ae (be bu fI B.b_len (aO (af 2) bw) (hv:=by kernel_rfl)) al))) (ar 7 dy.nd) (ao (eC (DW.dt (vI (bY (jT a.units) nV (af 7) (af 5) (cM _)) (pY (gW (aL d (a.mono (by decide)) (ae (af 0) (ae (af 2) (ae (af 5) (ae (af 7) (ae (af 5) (ae (af 3) al))))))))))) (az (hZ (jQ 6 gu du RB RC (DA.gf (ae (aL c (a.mono (by decide)) (ae (af 2) (ae (af 5) (ae (af 7) al)))) al))))) bZ)
  (az (eC (DW.dt (vI (bY (jT a.units) nV (af 7) (af 5) (cM _)) (pY (gW (aL d (a.mono (by decide)) (ae (af 0) (ae (af 2) (ae (af 7) (ae (af 5) (ae (af 1) (ae (af 4) al))))))))))) (az (hZ (jQ 6 gu du RB RC (DA.gf (ae (aL c (a.mono (by decide)) (ae (af 2) (ae (af 7) (ae (af 5) al)))) al))))) bZ))))
  (az (vy 6)))))
theorem ip:bo ["square","c","crowd","other","turns","right","left"] nA (aw Fr):=by refine⟨rfl,rfl,rfl,?_,rfl,?_,?_⟩<;>decide+kernel
def F3:FS:=
 aB (bf 3 (ak (nF 2 aY) (aa (ai 0) (aa (ai 1) (aj)))))
 (aB (bf 4 (b7 (aa (ak (nF 2 c6) (aa (ai 0) (aa (ai 1) (aj)))) (aj))))
 (aB (cD (gT 2 (cS (gN 5) (cS (gN 6) (gX)))) (pu (cu (aa (cu (aa (b7 (aa (ai 0) (aa (ai 3) (aj)))) (aa (ai 4) (aj)))) (aa (cu (aa (b7 (aa (ai 3) (aa (ai 0) (aj)))) (aa (ai 4) (aj)))) (aj))))))
 (bc (ak (nF 1 bJ) (aa (jh 2 (dw (ai 2)) (gN 7) (cj) (dw (ak (nF 5 cP) (aa (ai 0) (aa (ai 1) (aa (ai 7) (aa (ai 5) (aa (ai 6) (aj)))))))) (gN 8) (cj) (ai 8)) (aj))))))
def pA:List D->Option D:=eO .n 7 F3
theorem Ml(B:Bt mg)(F:Df K mg "led" Fr nA)(d:Cl P w K mg base 3 "columns_changed" nv (cr K .s 2 aY))(e:Cl P w K mg base 1 "oddly_often" ["stands"] (cr K .n 1 bJ))(g:Cl P w K mg base 2 "turn_of" nv (cr K .s 2 c6))(f:Cl P w K mg base 5 "ends_from" n5 (cr K .n 5 cP)):Cl P w K mg base 6 "led" nA (cr K .n 3 pA):=by
 refine aS (k:=5) F ip (by decide) rfl λ_ h A c s H hid E a=>?_
 exact(QSs.to (gC (QS.of (aZ 3 ip.nd (aL d (a.mono (by decide)) (ae (af 0) (ae (af 1) al)))))
  (gC (QS.of (aZ 4 ip.nd (DP.toS (cI (ae (aL g (a.mono (by decide)) (ae (af 0) (ae (af 1) al))) al)))))
  (gC (QS.of (fq (DP.ef (cn (ae (cn (ae (DP.toS (cI (ae (af 0) (ae (af 3) al)))) (ae (af 4) al))) (ae (cn (ae (DP.toS (cI (ae (af 3) (ae (af 0) al)))) (ae (af 4) al))) al rZ) rZ))) (cB (n:=2) rfl (aH (ar 5 ip.nd) (aH (ar 6 ip.nd) bW)))))
  (Bn (QS.of (aP (aL e (a.mono (by decide)) (ae (DP.toS (gQ (N':=rk) rfl 8 (bz (Pv rfl)) (w6 (Pv rfl)) (bz (Pv rfl)) (DIp.b (da (af 2))) (λ_ _ _ _=>(ar 7 Ja)) (λ_ _ _ _=>bV) (λ_ _ _ _=>(da (DP.toS (aL f (a.mono (by decide)) (ae (af 0) (ae (af 1) (ae (af 7) (ae (af 5) (ae (af 6) al))))))))) (λ_ _ _ _=>(ar 8 Ja)) (λ_ _ _ _=>bV) (λ_ _ _ _=>(af 8)))) al)))))))))
theorem hU:bo ["square","c","crowd","other","p","q","sides","right","left"] nA (aw zg):=by refine⟨rfl,rfl,rfl,?_,rfl,?_,?_⟩<;>decide+kernel
def zy:FS:=
 aB (bf 3 (ak (nF 2 aY) (aa (ai 0) (aa (ai 1) (aj)))))
 (aB (FK 4 5 (aa (ak (nF 2 c6) (aa (ai 0) (aa (ai 1) (aj)))) (aa (ak (nF 2 c6) (aa (ai 3) (aa (ai 1) (aj)))) (aj))))
 (aB (bf 6 (b7 (aa (ai 0) (aa (ai 3) (aa (ai 0) (aj))))))
 (aB (cD (gT 2 (cS (gN 7) (cS (gN 8) (gX)))) (pu (cu (aa (cu (aa (ai 6) (aa (b7 (aa (ai 4) (aa (ai 5) (aj)))) (aj)))) (aa (cu (aa (ai 6) (aa (b7 (aa (ai 5) (aa (ai 4) (aj)))) (aj)))) (aj))))))
 (bc (ak (nF 1 bJ) (aa (jh 2 (dw (ai 2)) (gN 9) (cj) (dw (ak (nF 5 cP) (aa (ai 0) (aa (ai 1) (aa (ai 9) (aa (ai 7) (aa (ai 8) (aj)))))))) (gN 10) (cj) (ai 10)) (aj)))))))
def fC:List D->Option D:=eO .n 9 zy
theorem JA(B:Bt mg)(F:Df K mg "tied" zg nA)(e:Cl P w K mg base 3 "columns_changed" nv (cr K .s 2 aY))(f:Cl P w K mg base 1 "oddly_often" ["stands"] (cr K .n 1 bJ))(d:Cl P w K mg base 2 "turn_of" nv (cr K .s 2 c6))(g:Cl P w K mg base 5 "ends_from" n5 (cr K .n 5 cP)):Cl P w K mg base 6 "tied" nA (cr K .n 3 fC):=by
 refine aS (k:=5) F hU (by decide) rfl λ_ h A c s H hid E a=>?_
 exact(QSs.to (gC (QS.of (aZ 3 hU.nd (aL e (a.mono (by decide)) (ae (af 0) (ae (af 1) al)))))
  (gC (QS.of (Jv 4 5 rfl hU.nd (ae (aL d (a.mono (by decide)) (ae (af 0) (ae (af 1) al))) (ae (aL d (a.mono (by decide)) (ae (af 3) (ae (af 1) al))) al))))
  (gC (QS.of (aZ 6 hU.nd (DP.toS (cI (ae (af 0) (ae (af 3) (ae (af 0) al)))))))
  (gC (QS.of (fq (DP.ef (cn (ae (cn (ae (af 6) (ae (DP.toS (cI (ae (af 4) (ae (af 5) al)))) al))) (ae (cn (ae (af 6) (ae (DP.toS (cI (ae (af 5) (ae (af 4) al)))) al))) al rZ) rZ))) (cB (n:=2) rfl (aH (ar 7 hU.nd) (aH (ar 8 hU.nd) bW)))))
  (Bn (QS.of (aP (aL f (a.mono (by decide)) (ae (DP.toS (gQ (N':=po) rfl 10 (bz (Pv rfl)) (w6 (Pv rfl)) (bz (Pv rfl)) (DIp.b (da (af 2))) (λ_ _ _ _=>(ar 9 IO)) (λ_ _ _ _=>bV) (λ_ _ _ _=>(da (DP.toS (aL g (a.mono (by decide)) (ae (af 0) (ae (af 1) (ae (af 9) (ae (af 7) (ae (af 8) al))))))))) (λ_ _ _ _=>(ar 10 IO)) (λ_ _ _ _=>bV) (λ_ _ _ _=>(af 10)))) al))))))))))
theorem up:bo sx sx (aw kr):=by refine⟨rfl,rfl,rfl,?_,rfl,?_,?_⟩<;>decide+kernel
def kF:FS:=
 bc (cx 2 (Jq (ai 0)) (gT 2 (cS (gN 2) (cS (gN 3) (gX)))) (cj) (cu (aa (av bL (av eA (aC (.int 2)) (ai 2)) (ai 1)) (aa (av bL (av eA (aC (.int 2)) (ai 3)) (ai 1)) (aj)))))
def fT:List D->Option D:=eO .n 2 kF
theorem xb(B:Bt mg)(F:Df K mg "points_of" kr sx):Cl P w K mg base 1 "points_of" sx (cr K .n 2 fT):=by
 refine aS (k:=0) F up (by decide) rfl λ_ c A a s H hid E d=>?_
 exact(az (aP (kT (N':=["order","half","place","number"]) rfl (qJ (cf (bz (Pv rfl)) (cf (bz (Pv rfl)) jb))) (DIp.b (Fq (af 0) B.b_enumerate)) (λ_ _ _ _=>(cB (n:=2) rfl (aH (ar 2 Ix) (aH (ar 3 Ix) bW)))) (λ_ _ _ _=>bV) (λ_ _ _ _=>(cn (ae (cG (kE au (af 2)) (af 1)) (ae (cG (kE au (af 3)) (af 1)) al)))))))
theorem Dg:bo sf sf (aw u6):=by refine⟨rfl,rfl,rfl,?_,rfl,?_,?_⟩<;>decide+kernel
def vc:FS:=
 bc (ak c7 (aa (jh 4 (gS (ai 0)) (gT 2 (cS (gN 2) (cS (gN 3) (gX)))) (cj) (gS (ai 1)) (gT 2 (cS (gN 4) (cS (gN 5) (gX)))) (gZ (bR (av Da (ai 2) (ai 4))) (bR (av Da (ai 3) (ai 5)))) (aC (.bl true))) (aj)))
def h8:List D->Option D:=eO .s 2 vc
theorem GQ(B:Bt mg)(F:Df K mg "pairs" u6 sf):Cl P w K mg base 1 "pairs" sf (cr K .s 2 h8):=by
 refine aS (k:=0) F Dg (by decide) rfl λ_ c A a s H hid E d=>?_
 exact(az (aP (be bu fI B.b_len (aO (gQ (N':=["ones","others","right","up","x","y"]) rfl 4 (qJ (cf (bz (Pv rfl)) (cf (bz (Pv rfl)) jb))) (Nh (yj (w6 (Pv rfl)) (yj (w6 (Pv rfl)) Gn))) (qJ (cf (bz (Pv rfl)) (cf (bz (Pv rfl)) jb))) (DIp.b (eX (af 0))) (λ_ _ _ _=>(cB (n:=2) rfl (aH (ar 2 Ba) (aH (ar 3 Ba) bW)))) (λ_ _ _ _=>bV) (λ_ _ _ _=>(eX (af 1))) (λ_ _ _ _=>(cB (n:=2) rfl (aH (ar 4 Ba) (aH (ar 5 Ba) bW)))) (λ_ _ _ _=>(jO (DW.dt (vI (bY xC pB (af 2) (af 4) (cM _)) (pY (bY xC pB (af 3) (af 5) (cM _))))))) (λ_ _ _ _=>n9)) bw) (hv:=by kernel_rfl))))
theorem hH:bo ["marks","stand","rooks","points"] so (aw mI):=by refine⟨rfl,rfl,rfl,?_,rfl,?_,?_⟩<;>decide+kernel
def mq:FS:=
 aB (bf 2 (ak (nF 2 fT) (aa (ai 1) (aa (aC (.int 0)) (aj)))))
 (aB (bf 3 (ak (nF 2 fT) (aa (ai 0) (aa (aC (.int 1)) (aj)))))
 (bc (av bL (av bL (av gY (av gY (ak (nF 2 h8) (aa (ai 2) (aa (ai 2) (aj)))) (ak (nF 2 h8) (aa (ai 2) (aa (ai 3) (aj))))) (ak (nF 2 h8) (aa (ai 3) (aa (ai 2) (aj))))) (ak (nF 2 h8) (aa (ai 3) (aa (ai 3) (aj))))) (aC (.int 1)))))
def dY:List D->Option D:=eO .s 4 mq
theorem yp(B:Bt mg)(F:Df K mg "grade_by" mI so)(d:Cl P w K mg base 1 "points_of" sx (cr K .n 2 fT))(b:Cl P w K mg base 1 "pairs" sf (cr K .s 2 h8)):Cl P w K mg base 2 "grade_by" so (cr K .s 2 dY):=by
 refine aS (k:=1) F hH (by decide) rfl λ_ e A c s H hid E a=>?_
 exact(ao (aZ 2 hH.nd (DP.toS (aL d (a.mono (by decide)) (ae (af 1) (ae au al)))))
  (ao (aZ 3 hH.nd (DP.toS (aL d (a.mono (by decide)) (ae (af 0) (ae au al)))))
  (az (aP (cG (cG (jL (jL (aL b (a.mono (by decide)) (ae (af 2) (ae (af 2) al))) (aL b (a.mono (by decide)) (ae (af 2) (ae (af 3) al)))) (aL b (a.mono (by decide)) (ae (af 3) (ae (af 2) al)))) (aL b (a.mono (by decide)) (ae (af 3) (ae (af 3) al)))) au)))))
theorem Dq:bo m8 m8 (aw uj):=by refine⟨rfl,rfl,rfl,?_,rfl,?_,?_⟩<;>decide+kernel
def ur:FS:=
 bc (ak (nF 2 dY) (aa (av br (ai 0) (aC (.int 0))) (aa (ai 1) (aj))))
def gl:List D->Option D:=eO .s 2 ur
theorem HP(B:Bt mg)(F:Df K mg "grade" uj m8)(c:Cl P w K mg base 2 "grade_by" so (cr K .s 2 dY)):Cl P w K mg base 3 "grade" m8 (cr K .s 2 gl):=by
 refine aS (k:=2) F Dq (by decide) rfl λ_ d A a s H hid E b=>?_
 exact(az (aP (aL c (b.mono (by decide)) (ae (bd aI a8 (af 0) au (λ_ _=>rfl)) (ae (af 1) al)))))
theorem ij:bo ["square","stand","rings","crosses","unlike"] m8 (aw zU):=by refine⟨rfl,rfl,rfl,?_,rfl,?_,?_⟩<;>decide+kernel
def zx:FS:=
 aB (cD (gT 2 (cS (gN 2) (cS (gN 3) (gX)))) (pu (ai 0)))
 (aB (bf 4 (av gY (ak (nF 2 dY) (aa (ai 2) (aa (ai 1) (aj)))) (ak (nF 2 dY) (aa (ai 3) (aa (ai 1) (aj))))))
 (bc (av bL (av gY (ai 4) (ak c7 (aa (ai 2) (aj)))) (ak c7 (aa (ak (nF 1 jH) (aa (ai 0) (aj))) (aj))))))
def jC:List D->Option D:=eO .s 5 zx
theorem Ks(B:Bt mg)(F:Df K mg "lean" zU m8)(c:Cl P w K mg base 2 "grade_by" so (cr K .s 2 dY))(d:Cl P w K mg base 2 "lines_of" ["square"] (cr K .n 1 jH)):Cl P w K mg base 3 "lean" m8 (cr K .s 2 jC):=by
 refine aS (k:=2) F ij (by decide) rfl λ_ e A b s H hid E a=>?_
 exact(ao (fq (DP.ef (af 0)) (cB (n:=2) rfl (aH (ar 2 ij.nd) (aH (ar 3 ij.nd) bW))))
  (ao (aZ 4 ij.nd (jL (aL c (a.mono (by decide)) (ae (af 2) (ae (af 1) al))) (aL c (a.mono (by decide)) (ae (af 3) (ae (af 1) al)))))
  (az (aP (cG (jL (af 4) (be bu fI B.b_len (aO (af 2) bw) (hv:=by kernel_rfl))) (be bu fI B.b_len (aO (aL d (a.mono (by decide)) (ae (af 0) al)) bw) (hv:=by kernel_rfl)))))))
theorem wT:bo pz pz (aw lV):=by refine⟨rfl,rfl,rfl,?_,rfl,?_,?_⟩<;>decide+kernel
def zT:FS:=
 aB (fy (bR (av Da (ai 1) (ak c7 (aa (ai 0) (aj))))) (bc (av br (ai 0) (ai 1))) (cb))
 (bc (aC (.int 0)))
def mG:List D->Option D:=eO .s 2 zT
theorem yG(B:Bt mg)(F:Df K mg "_law_cell" lV pz):Cl P w K mg base 1 "_law_cell" pz (cr K .s 2 mG):=by
 refine aS (k:=0) F wT (by decide) rfl λ_ b A a s H hid E c=>?_
 exact(ao (eC (bY xC pB (af 1) (be bu fI B.b_len (aO (af 0) bw) (hv:=by kernel_rfl)) (cM _)) (az (aP (bd aI a8 (af 0) (af 1) (λ_ _=>rfl)))) bZ)
  (az (aP au)))
theorem em:bo ["_law_script","_law_at","_law_cell_here","_law_mix","_law_k"] ro (aw oz):=by refine⟨rfl,rfl,rfl,?_,rfl,?_,?_⟩<;>decide+kernel
def Co:FS:=
 aB (bf 2 (av cE (ak xz (aa (ak (nF 2 mG) (aa (ai 0) (aa (ai 1) (aj)))) (aj))) (av eA (av eA (av eY (aC (.int 10)) (aC (.int 60))) (av eY (aC (.int 10)) (aC (.int 60)))) (av eY (aC (.int 10)) (aC (.int 60))))))
 (aB (fy (bR (av Nb (ai 2) (av eY (aC (.int 10)) (aC (.int 18))))) (bc (b7 (aa (ai 2) (aa (aC (.int 0)) (aj))))) (cb))
 (aB (bf 3 (av cE (av bL (av bL (ai 2) (av eA (aC (.int 7919)) (ai 1))) (aC (.int 17))) (aC (.int 2147483647))))
 (aB (jG (cq (eV (aa (ak lO (aa (ak c7 (aa (ai 0) (aj))) (aa (aC (.int 9)) (aj)))) (aj)))) (gN 4) (bf 3 (av cE (av bL (av bL (av eY (ai 3) (aC (.int 5))) (av cE (av br (ai 0) (ai 4)) (aC (.int 2147483629)))) (av eA (aC (.int 31)) (ai 4))) (aC (.int 2147483647)))))
 (bc (b7 (aa (ai 3) (aa (aC (.int 1)) (aj))))))))
def lj:List D->Option D:=eO .n 5 Co
theorem CG(B:Bt mg)(F:Df K mg "_law_bag" oz ro)(d:Cl P w K mg base 1 "_law_cell" pz (cr K .s 2 mG)):Cl P w K mg base 2 "_law_bag" ro (cr K .n 2 lj):=by
 refine aS (k:=1) F em (by decide) rfl λ_ c A a s H hid E b=>?_
 exact(ao (aZ 2 em.nd (gK (be Fa Kg B.b_abs (aO (aL d (b.mono (by decide)) (ae (af 0) (ae (af 1) al))) bw) (hv:=by kernel_rfl)) (kE (kE (oA au au) (oA au au)) (oA au au))))
  (ao (eC (bY Lr pB (af 2) (oA au au) (cM _)) (az (aP (cI (ae (af 2) (ae au al))))) bZ)
  (ao (aZ 3 em.nd (gK (cG (cG (af 2) (kE au (af 1))) au) au))
  (ao (kO RG rfl (DIp.e (dP B.b_range (ae (be (sX rfl) Bx B.b_min (aO (be bu fI B.b_len (aO (af 0) bw) (hv:=by kernel_rfl)) (aO au bw)) (hv:=by kernel_rfl)) al))) (ar 4 em.nd) (az (aZ 3 em.nd (gK (cG (cG (oA (af 3) au) (gK (bd aI a8 (af 0) (af 4) (λ_ _=>rfl)) au)) (kE au (af 4))) au))))
  (az (aP (cI (ae (af 3) (ae au al)))))))))
theorem ib:bo ["_law_bag_here","_law_many","_law_digit"] nB (aw lW):=by refine⟨rfl,rfl,rfl,?_,rfl,?_,?_⟩<;>decide+kernel
def zJ:FS:=
 aB (fy (bR (av si (av br (dE 0) (aC (.int 1))) (aC (.int 0)))) (aB (bf 2 (av cE (av br (dE 0) (aC (.int 0))) (ai 1)))
 (aB (cD (cW 0 (aC (.int 0))) (pu (av mZ (av br (dE 0) (aC (.int 0))) (ai 1))))
 (bc (ai 2)))) (cb))
 (aB (cD (cW 0 (aC (.int 0))) (pu (av cE (av bL (av bL (av eY (av br (dE 0) (aC (.int 0))) (aC (.int 5))) (av eA (aC (.int 48271)) (av br (dE 0) (aC (.int 1))))) (aC (.int 11))) (aC (.int 2147483647)))))
 (aB (cD (cW 0 (aC (.int 1))) (pu (av bL (av br (dE 0) (aC (.int 1))) (aC (.int 1)))))
 (bc (av cE (av mZ (av cE (av eA (av br (dE 0) (aC (.int 0))) (aC (.int 69621))) (aC (.int 2147483629))) (aC (.int 8))) (ai 1)))))
def aR:List D->List D->Option (D×List D):=zE .s 3 zJ
theorem zG(B:Bt mg)(F:Df K mg "_law_take" lW nB):Cl P w K mg base 1 "_law_take" nB (vW K .s 1 aR):=by
 refine vF (k:=0) F ib (by decide) rfl λ_ d A b s H hid a E c=>?_
 exact(ao (eC (bY (me c.units) qB (bd aI a8 (eB 0) au (λ_ _=>rfl)) au (cM _)) (ao (aZ 2 ib.nd (gK (bd aI a8 (eB 0) au (λ_ _=>rfl)) (af 1)))
  (ao (qy (DP.ef (Ai (bd aI a8 (eB 0) au (λ_ _=>rfl)) (af 1))) (jA 0 au))
  (az (aP (af 2))))) bZ)
  (ao (qy (DP.ef (gK (cG (cG (oA (bd aI a8 (eB 0) au (λ_ _=>rfl)) au) (kE au (bd aI a8 (eB 0) au (λ_ _=>rfl)))) au) au)) (jA 0 au))
  (ao (qy (DP.ef (cG (bd aI a8 (eB 0) au (λ_ _=>rfl)) au)) (jA 0 au))
  (az (aP (gK (Ai (gK (kE (bd aI a8 (eB 0) au (λ_ _=>rfl)) au) au) au) (af 1)))))))
theorem gn:bo ["_law_bag_here","_law_n","_law_left","_law_found"] ms (aw kP):=by refine⟨rfl,rfl,rfl,?_,rfl,?_,?_⟩<;>decide+kernel
def xE:FS:=
 aB (gc 2 (HS (ai 1)))
 (aB (gc 3 (b7 (aj)))
 (aB (vX (bR (av mo (dE 2) (b7 (aj)))) (cA (aJ 3 1 gE (dC (aJ 2 1 sK (dC (aJ 0 1 aR (cq (aa (ak c7 (aa (dE 2) (aj))) (aj)))) (cq (aj)))) (cq (aj))))) 16)
 (yh 3)))
def ba:List D->List D->Option (D×List D):=zE .n 4 xE
theorem xP(B:Bt mg)(F:Df K mg "_law_order" kP ms)(d:Cl P w K mg base 1 "_law_take" nB (vW K .s 1 aR)):Cl P w K mg base 2 "_law_order" ms (vW K .n 1 ba):=by
 refine vF (k:=1) F gn (by decide) rfl λ_ e A b s H hid a E c=>?_
 exact(ao (iA 2 gn.nd (lF rfl B.b_list B.b_range (af 1)))
  (ao (iA 3 gn.nd (cI al))
  (ao (ym 16 RG (bY (jT c.units) nV (eB 2) (cI al) (cM _)) (az (hZ (jQ 3 gu du RB RC (ly (jQ 2 Ke Fg PySem.F.slot_list_pop PySem.F.type_list_pop (ly (jY 0 d (c.mono (by decide)) (DA.gf (ae (be bu fI B.b_len (aO (eB 2) bw) (hv:=by kernel_rfl)) al))) (DA.gf al))) (DA.gf al))))))
  (az (vy 3)))))
theorem bm:bo ["_law_bag_here","_law_n","_law_c","_law_ways","_law_four","_law_pairs_of_rows","_law_left","_law_right_here","_law_rest_rings","_law_rest_crosses","_law_k","_law_d","_law_rings","_law_crosses"] ms (aw fH):=by refine⟨rfl,rfl,rfl,?_,rfl,?_,?_⟩<;>decide+kernel
def iY:FS:=
 aB (g7 2 (aJ 0 1 aR (cq (aa (av gY (ai 1) (aC (.int 1))) (aj)))))
 (aB (g7 3 (fh 1 (cq (eV (aa (aC (.int 4)) (aj)))) (gN 14) (cj) (aJ 0 1 aR (cq (aa (aC (.int 2)) (aj))))))
 (aB (g7 4 (g8 dv (dC (DN (aJ 0 1 ba (cq (aa (ai 1) (aj)))) og (j5 (aC (.int 4)))) (cq (aj)))))
 (aB (bf 4 (av gI (fx (ai 4) (j5 (av br (ai 3) (aC (.int 0)))) og) (fx (ai 4) og (j5 (av br (ai 3) (aC (.int 0)))))))
 (aB (bf 5 (b7 (aa (fx (ai 4) og (j5 (aC (.int 2)))) (aa (fx (ai 4) (j5 (aC (.int 2))) og) (aj)))))
 (aB (fy (bR (av si (av br (ai 3) (aC (.int 1))) (aC (.int 1)))) (bf 5 (sH (ai 5) (j5 (lB (aC (.int 1)))))) (cb))
 (aB (cD (gL 2 (cS (gN 6) (cS (gN 7) (gX)))) (pu (ai 5)))
 (aB (fy (bR (av si (av br (ai 3) (aC (.int 2))) (aC (.int 1)))) (bf 6 (sH (ai 6) (j5 (lB (aC (.int 1)))))) (cb))
 (aB (fy (bR (av si (av br (ai 3) (aC (.int 3))) (aC (.int 1)))) (bf 7 (sH (ai 7) (j5 (lB (aC (.int 1)))))) (cb))
 (aB (g7 8 (fh 1 (zL (aJ 0 1 ba (cq (aa (ai 1) (aj))))) (gN 14) (bR (av (jk true) (ai 14) (cu (aa (av br (ai 6) (aC (.int 0))) (aa (av br (ai 7) (aC (.int 0))) (aj)))))) (pu (ai 14))))
 (aB (Ey 9 (fh 1 (zL (aJ 0 1 ba (cq (aa (ai 1) (aj))))) (gN 14) (bR (av (jk true) (ai 14) (cu (aa (av br (ai 6) (aC (.int 1))) (aa (av br (ai 7) (aC (.int 1))) (aj)))))) (pu (ai 14))))
 (aB (jG (cq (eV (aa (av gY (ai 1) (aC (.int 2))) (aj)))) (gN 10) (aB (bf 11 (av cE (av bL (ai 10) (aC (.int 1))) (av gY (ai 1) (aC (.int 2)))))
 (fy (bR (av si (av br (dE 9) (ai 10)) (av br (ai 8) (ai 10)))) (cD (gT 2 (cS (cW 9 (ai 10)) (cS (cW 9 (ai 11)) (gX)))) (pu (cu (aa (av br (dE 9) (ai 11)) (aa (av br (dE 9) (ai 10)) (aj)))))) (cb))))
 (aB (bf 12 (av gI (av gI (fx (ai 8) og (j5 (ai 2))) (b7 (aa (av br (ai 6) (aC (.int 0))) (aa (av br (ai 7) (aC (.int 0))) (aj))))) (fx (ai 8) (j5 (ai 2)) og)))
 (aB (bf 13 (av gI (av gI (fx (dE 9) og (j5 (ai 2))) (b7 (aa (av br (ai 6) (aC (.int 1))) (aa (av br (ai 7) (aC (.int 1))) (aj))))) (fx (dE 9) (j5 (ai 2)) og)))
 (bc (cu (aa (cu (aa (ak gz (aa (ai 12) (aj))) (aa (ak gz (aa (ai 13) (aj))) (aj)))) (aa (ai 2) (aj))))))))))))))))))
def ca:List D->List D->Option (D×List D):=zE .s 14 iY
theorem o6(B:Bt mg)(F:Df K mg "_law_neighbours" fH ms)(f:Cl P w K mg base 1 "_law_take" nB (vW K .s 1 aR))(d:Cl P w K mg base 2 "_law_order" ms (vW K .n 1 ba)):Cl P w K mg base 3 "_law_neighbours" ms (vW K .s 1 ca):=by
 refine vF (k:=2) F bm (by decide) rfl λ_ g A c s H hid a E b=>?_
 exact(ao (lu 2 bm.nd (jY 0 f (b.mono (by decide)) (DA.gf (ae (jL (af 1) au) al))))
  (ao (xA 3 (N':=mA) rfl bm.nd (bz (Pv rfl)) (DIp.e (dP B.b_range (ae au al))) (λ_ _ _ _=>(ar 14 MV)) (λ_ _ _ _=>bV) (λ_ _ _ _=>(jY 0 f (b.mono (by decide)) (DA.gf (ae au al)))))
  (ao (lu 4 bm.nd (DE.toS (EJ iu kU B.b_sorted (ly (DE.toS (KG (DE.toS (jY 0 d (b.mono (by decide)) (DA.gf (ae (af 1) al)))) eP (c9 au))) (DA.gf al)) (hv:=by kernel_rfl))))
  (ao (aZ 4 bm.nd (DP.toS (m9 (iE (af 4) (c9 (bd aI a8 (af 3) au (λ_ _=>rfl))) eP) (iE (af 4) eP (c9 (bd aI a8 (af 3) au (λ_ _=>rfl)))))))
  (ao (aZ 5 bm.nd (DP.toS (cI (ae (DP.toS (iE (af 4) eP (c9 au))) (ae (DP.toS (iE (af 4) (c9 au) eP)) al)))))
  (ao (eC (bY (me b.units) qB (bd aI a8 (af 3) au (λ_ _=>rfl)) au (cM _)) (az (aZ 5 bm.nd (DP.toS (y8 (af 5) (c9 (nW au)))))) bZ)
  (ao (fq (DP.ef (af 5)) (AY (n:=2) rfl (aH (ar 6 bm.nd) (aH (ar 7 bm.nd) bW))))
  (ao (eC (bY (me b.units) qB (bd aI a8 (af 3) au (λ_ _=>rfl)) au (cM _)) (az (aZ 6 bm.nd (DP.toS (y8 (af 6) (c9 (nW au)))))) bZ)
  (ao (eC (bY (me b.units) qB (bd aI a8 (af 3) au (λ_ _=>rfl)) au (cM _)) (az (aZ 7 bm.nd (DP.toS (y8 (af 7) (c9 (nW au)))))) bZ)
  (ao (xA 8 (N':=lR) rfl bm.nd (bz (Pv rfl)) (A9 (DE.toS (jY 0 d (b.mono (by decide)) (DA.gf (ae (af 1) al))))) (λ_ _ _ _=>(ar 14 IQ)) (λ_ _ _ _=>(jO (bY (oO b.units) (lU true) (af 14) (cn (ae (bd aI a8 (af 6) au (λ_ _=>rfl)) (ae (bd aI a8 (af 7) au (λ_ _=>rfl)) al))) (by with_unfolding_all rfl)))) (λ_ _ _ _=>(DP.ef (af 14))))
  (ao (E7 9 (N':=lR) rfl bm.nd (bz (Pv rfl)) (A9 (DE.toS (jY 0 d (b.mono (by decide)) (DA.gf (ae (af 1) al))))) (λ_ _ _ _=>(ar 14 IQ)) (λ_ _ _ _=>(jO (bY (oO b.units) (lU true) (af 14) (cn (ae (bd aI a8 (af 6) au (λ_ _=>rfl)) (ae (bd aI a8 (af 7) au (λ_ _=>rfl)) al))) (by with_unfolding_all rfl)))) (λ_ _ _ _=>(DP.ef (af 14))))
  (ao (kO RG rfl (DIp.e (dP B.b_range (ae (jL (af 1) au) al))) (ar 10 bm.nd) (ao (aZ 11 bm.nd (gK (cG (af 10) au) (jL (af 1) au)))
  (az (eC (bY (me b.units) qB (bd aI a8 (eB 9) (af 10) (λ_ _=>rfl)) (bd aI a8 (af 8) (af 10) (λ_ _=>rfl)) (cM _)) (az (qy (DP.ef (cn (ae (bd aI a8 (eB 9) (af 11) (λ_ _=>rfl)) (ae (bd aI a8 (eB 9) (af 10) (λ_ _=>rfl)) al)))) (Ak (n:=2) rfl (nM (jA 9 (af 10)) (nM (jA 9 (af 11)) A7))))) bZ))))
  (ao (aZ 12 bm.nd (DP.toS (m9 (m9 (iE (af 8) eP (c9 (af 2))) (cI (ae (bd aI a8 (af 6) au (λ_ _=>rfl)) (ae (bd aI a8 (af 7) au (λ_ _=>rfl)) al)))) (iE (af 8) (c9 (af 2)) eP))))
  (ao (aZ 13 bm.nd (DP.toS (m9 (m9 (iE (eB 9) eP (c9 (af 2))) (cI (ae (bd aI a8 (af 6) au (λ_ _=>rfl)) (ae (bd aI a8 (af 7) au (λ_ _=>rfl)) al)))) (iE (eB 9) (c9 (af 2)) eP))))
  (az (aP (cn (ae (cn (ae (eF dN ku B.b_tuple (aO (af 12) bw) (hv:=by kernel_rfl)) (ae (eF dN ku B.b_tuple (aO (af 13) bw) (hv:=by kernel_rfl)) al))) (ae (af 2) al) rZ))))))))))))))))))
theorem dr:bo ["_law_bag_here","_law_n","_law_found","_law_turn","_law_stand"] ms (aw kz):=by refine⟨rfl,rfl,rfl,?_,rfl,?_,?_⟩<;>decide+kernel
def j6:FS:=
 aB (gc 2 (b7 (aj)))
 (aB (jG (EQ (dC (aJ 0 1 aR (cq (aa (aC (.int 6)) (aj)))) (cq (aj)))) (gN 3) (aB (g7 4 (g8 gz (dC (aJ 0 1 ba (cq (aa (ai 1) (aj)))) (cq (aj)))))
 (fy (bR (av (jk true) (ai 4) (dE 2))) (cA (aJ 2 1 gE (cq (aa (ai 4) (aj))))) (cb))))
 (bc (ak dv (aa (dE 2) (aj)))))
def fQ:List D->List D->Option (D×List D):=zE .n 5 j6
theorem xW(B:Bt mg)(F:Df K mg "_law_crowd" kz ms)(d:Cl P w K mg base 1 "_law_take" nB (vW K .s 1 aR))(f:Cl P w K mg base 2 "_law_order" ms (vW K .n 1 ba)):Cl P w K mg base 3 "_law_crowd" ms (vW K .n 1 fQ):=by
 refine vF (k:=2) F dr (by decide) rfl λ_ e A c s H hid a E b=>?_
 exact(ao (iA 2 dr.nd (cI al))
  (ao (kO RG rfl (Cb B.b_range (ly (jY 0 d (b.mono (by decide)) (DA.gf (ae au al))) (DA.gf al))) (ar 3 dr.nd) (ao (lu 4 dr.nd (tK dN ku B.b_tuple (ly (DE.toS (jY 0 f (b.mono (by decide)) (DA.gf (ae (af 1) al)))) (DA.gf al)) (hv:=by kernel_rfl)))
  (az (eC (bY (oO b.units) (lU true) (af 4) (eB 2) (by with_unfolding_all rfl)) (az (hZ (jQ 2 gu du RB RC (DA.gf (ae (af 4) al))))) bZ))))
  (az (aP (be iu kU B.b_sorted (aO (eB 2) bw) (hv:=by kernel_rfl))))))
theorem dl:bo ["_law_square","_law_c","_law_crowd_here","_law_other","_law_back","_law_due"] oa (aw kA):=by refine⟨rfl,rfl,rfl,?_,rfl,?_,?_⟩<;>decide+kernel
def j8:FS:=
 aB (bf 3 (ak (nF 2 aY) (aa (ai 0) (aa (ai 1) (aj)))))
 (aB (bf 4 (ak (nF 3 pA) (aa (ai 3) (aa (ai 1) (aa (ak (nF 3 pA) (aa (ai 0) (aa (ai 1) (aa (ak im (aa (ai 2) (aj))) (aj))))) (aj))))))
 (aB (bf 5 (ak (nF 2 lq) (aa (ak (nF 2 fu) (aa (ai 0) (aa (ak (nF 3 fC) (aa (ai 0) (aa (ai 1) (aa (ak im (aa (ai 2) (aj))) (aj))))) (aj)))) (aa (ak (nF 3 fC) (aa (ai 0) (aa (ai 1) (aa (ak (nF 2 fu) (aa (ai 0) (aa (ak im (aa (ai 2) (aj))) (aj)))) (aj))))) (aj)))))
 (bc (av si (ak (nF 2 lq) (aa (ai 4) (aa (ak im (aa (ai 2) (aj))) (aj)))) (ai 5)))))
def dn:List D->Option D:=eO .s 6 j8
theorem yf(B:Bt mg)(F:Df K mg "_law_right" kA oa)(g:Cl P w K mg base 3 "columns_changed" nv (cr K .s 2 aY))(e:Cl P w K mg base 6 "led" nA (cr K .n 3 pA))(c:Cl P w K mg base 1 "added" sy (cr K .n 2 lq))(d:Cl P w K mg base 7 "border" r6 (cr K .n 2 fu))(f:Cl P w K mg base 6 "tied" nA (cr K .n 3 fC)):Cl P w K mg base 8 "_law_right" oa (cr K .s 3 dn):=by
 refine aS (k:=7) F dl (by decide) rfl λ_ h A b s H hid E a=>?_
 exact(ao (aZ 3 dl.nd (aL g (a.mono (by decide)) (ae (af 0) (ae (af 1) al))))
  (ao (aZ 4 dl.nd (DP.toS (aL e (a.mono (by decide)) (ae (af 3) (ae (af 1) (ae (DP.toS (aL e (a.mono (by decide)) (ae (af 0) (ae (af 1) (ae (DP.toS (eF ft m7 B.b_list (aO (af 2) bw) (hv:=by kernel_rfl))) al))))) al))))))
  (ao (aZ 5 dl.nd (DP.toS (aL c (a.mono (by decide)) (ae (DP.toS (aL d (a.mono (by decide)) (ae (af 0) (ae (DP.toS (aL f (a.mono (by decide)) (ae (af 0) (ae (af 1) (ae (DP.toS (eF ft m7 B.b_list (aO (af 2) bw) (hv:=by kernel_rfl))) al))))) al)))) (ae (DP.toS (aL f (a.mono (by decide)) (ae (af 0) (ae (af 1) (ae (DP.toS (aL d (a.mono (by decide)) (ae (af 0) (ae (DP.toS (eF ft m7 B.b_list (aO (af 2) bw) (hv:=by kernel_rfl))) al)))) al))))) al)))))
  (az (aP (oN (me a.units) qB (aL c (a.mono (by decide)) (ae (af 4) (ae (DP.toS (eF ft m7 B.b_list (aO (af 2) bw) (hv:=by kernel_rfl))) al))) (af 5) (cM _)))))))
theorem fo:bo ["_law_script","_law_at","_law_bag_here","_law_n","_law_square","_law_c","_law_crowd_here","_law_stand","_law_home"] ["_law_script"] (aw mQ):=by refine⟨rfl,rfl,rfl,?_,rfl,?_,?_⟩<;>decide+kernel
def DF:FS:=
 aB (jG (cq (eV (aa (aC (.int 2)) (aj)))) (gN 1) (aB (gc 2 (ak (nF 2 lj) (aa (ai 0) (aa (ai 1) (aj)))))
 (aB (g7 3 (yu br (pu (b7 (aa (aC (.int 4)) (aa (aC (.int 4)) (aa (aC (.int 5)) (aj)))))) (aJ 2 1 aR (cq (aa (aC (.int 3)) (aj))))))
 (aB (cD (gT 2 (cS (gN 4) (cS (gN 5) (gX)))) (aJ 2 1 ca (cq (aa (ai 3) (aj)))))
 (aB (g7 6 (aJ 2 1 fQ (cq (aa (ai 3) (aj)))))
 (aB (g7 7 (g8 gz (dC (aJ 2 1 ba (cq (aa (ai 3) (aj)))) (cq (aj)))))
 (aB (fy (CN (g6 (dJ (ak (nF 3 dn) (aa (ai 4) (aa (ai 5) (aa (ai 6) (aj))))))) (g6 (dJ (ak (nF 3 dn) (aa (ai 4) (aa (ai 5) (aa (b7 (aa (ai 7) (aj))) (aj)))))))) (bc (aC (.bl false))) (cb))
 (aB (bf 8 (cu (aa (av bL (ak (nF 2 gl) (aa (ai 4) (aa (ai 7) (aj)))) (aC (.int 1))) (aa (ak (nF 2 jC) (aa (ai 4) (aa (ai 7) (aj)))) (aj)))))
 (fy (dJ (ak sv (aa (cx 1 (dw (ak (nF 3 fC) (aa (ai 4) (aa (ai 5) (aa (b7 (aa (ai 7) (aj))) (aj)))))) (gN 9) (cj) (av mo (cu (aa (ak (nF 2 gl) (aa (ai 4) (aa (ai 9) (aj)))) (aa (ak (nF 2 jC) (aa (ai 4) (aa (ai 9) (aj)))) (aj)))) (ai 8))) (aj)))) (bc (aC (.bl false))) (cb))))))))))
 (bc (aC (.bl true)))
def IU:List D->Option D:=eO .s 9 DF
theorem Kf(B:Bt mg)(F:Fun K "law" "law" mQ f fd)(p:Cl P w K mg base 2 "_law_bag" ro (cr K .n 2 lj))(m:Cl P w K mg base 3 "_law_neighbours" ms (vW K .s 1 ca))(q:Cl P w K mg base 3 "_law_crowd" ms (vW K .n 1 fQ))(i:Cl P w K mg base 1 "_law_take" nB (vW K .s 1 aR))(j:Cl P w K mg base 2 "_law_order" ms (vW K .n 1 ba))(g:Cl P w K mg base 3 "lean" m8 (cr K .s 2 jC))(d:Cl P w K mg base 8 "_law_right" oa (cr K .s 3 dn))(h:Cl P w K mg base 3 "grade" m8 (cr K .s 2 gl))(o:Cl P w K mg base 6 "tied" nA (cr K .n 3 fC)):gt P w K mg base v0 9 f fd ["_law_script"] (cr K .s 1 IU):=by
 refine Bz (k:=8) F fo (by decide) λl A c s H hid E a=>?_
 exact(ao (kO RG rfl (DIp.e (dP B.b_range (ae au al))) (ar 1 fo.nd) (ao (iA 2 fo.nd (aL p (a.mono (by decide)) (ae (af 0) (ae (af 1) al))))
  (ao (lu 3 fo.nd (LP aI a8 (DE.toS (DP.ef (cI (ae au (ae au (ae au al)))))) (jY 2 i (a.mono (by decide)) (DA.gf (ae au al))) (λ_ _=>rfl)))
  (ao (fq (jY 2 m (a.mono (by decide)) (DA.gf (ae (af 3) al))) (cB (n:=2) rfl (aH (ar 4 fo.nd) (aH (ar 5 fo.nd) bW))))
  (ao (lu 6 fo.nd (DE.toS (jY 2 q (a.mono (by decide)) (DA.gf (ae (af 3) al)))))
  (ao (lu 7 fo.nd (tK dN ku B.b_tuple (ly (DE.toS (jY 2 j (a.mono (by decide)) (DA.gf (ae (af 3) al)))) (DA.gf al)) (hv:=by kernel_rfl)))
  (ao (eC (DW.dt (Eo (rg (gW (aL d (a.mono (by decide)) (ae (af 4) (ae (af 5) (ae (af 6) al)))))) (yL (rg (gW (aL d (a.mono (by decide)) (ae (af 4) (ae (af 5) (ae (DP.toS (cI (ae (af 7) al))) al))))))))) (az (aP n9)) bZ)
  (ao (aZ 8 fo.nd (cn (ae (cG (aL h (a.mono (by decide)) (ae (af 4) (ae (af 7) al))) au) (ae (aL g (a.mono (by decide)) (ae (af 4) (ae (af 7) al))) al))))
  (az (eC (gW (be (mX rfl) u9 B.b_any (aO (kT (N':=np) rfl (bz (Pv rfl)) (DIp.b (da (DP.toS (aL o (a.mono (by decide)) (ae (af 4) (ae (af 5) (ae (DP.toS (cI (ae (af 7) al))) al))))))) (λ_ _ _ _=>(ar 9 L9)) (λ_ _ _ _=>bV) (λ_ _ _ _=>(oN (jT a.units) nV (cn (ae (aL h (a.mono (by decide)) (ae (af 4) (ae (af 9) al))) (ae (aL g (a.mono (by decide)) (ae (af 4) (ae (af 9) al))) al))) (af 8) (cM _)))) bw) (hv:=by kernel_rfl))) (az (aP n9)) bZ))))))))))
  (az (aP n9)))
end
def ls:List Nat->(Nat->Int)->Int
 | [],_=>0
 |x::l,f=>f x+ls l f
theorem jI(x:Nat)(l:List Nat)(f:Nat->Int):ls (x::l) f=f x+ls l f:=rfl
theorem bB {f g:Nat->Int}: ∀ {l:List Nat},(∀x∈l,f x=g x)->ls l f=ls l g
 | [],_=>rfl
 |x::l,h=>by unfold ls;rw[h x (PV ..),bB λy a=>h y (PK _ a)]
theorem jo(f g:Nat->Int): ∀l,ls l (λx=>f x+g x)=ls l f+ls l g
 | []=>rfl
 |x::l=>by simp only[jI];rw[jo f g l];lia
theorem gh(f g:Nat->Int): ∀l,ls l (λx=>f x-g x)=ls l f-ls l g
 | []=>rfl
 |x::l=>by simp only[jI];rw[gh f g l];lia
theorem oC(k:Int)(f:Nat->Int): ∀l,ls l (λx=>k*f x)=k*ls l f
 | []=>by simp[ls]
 |x::l=>by simp only[jI];rw[oC k f l,Int.mul_add]
theorem iP(k:Int): ∀l,ls l (λ_=>k)=l.length*k
 | []=>by simp[ls]
 |x::l=>by simp only[jI];rw[iP k l,P1,Int.natCast_succ,Int.add_mul];lia
theorem E6(g:Nat->Nat)(f:Nat->Int): ∀l,ls (l.map g) f=ls l (λx=>f (g x))
 | []=>rfl
 |x::l=>by rw[Pu];unfold ls;rw[E6 g f l]
theorem AB{l m:List Nat}(h:l.Perm m):ls l f=ls m f:=by
 induction h with
 |nil=>rfl
 |cons x _ c=>unfold ls;rw[c]
 |swap x y l=>show f y+(f x+ls l f)=f x+(f y+ls l f);lia
 |trans _ _ a b=>rw[a,b]
def bi(b:Bool):Int:=if b then 1 else 0
theorem oU(p:Nat->Bool)(f:Nat->Int): ∀l,ls (l.filter p) f=ls l (λx=>bi (p x)*f x)
 | []=>rfl
 |x::l=>by
  have:=oU p f l;cases h:p x
  ·rw[S9 (by rw[h];decide)];simp only[jI];rw[this,h];simp[bi]
  ·rw[Ta h];simp only[jI];rw[this,h];simp[bi]
theorem Aj {f:Nat->Int}(h: ∀x∈l,f x=0):ls l f=0:=by
 rw[bB (g:=λ_=>0) h,iP];simp
theorem oV {l:List Nat}(b:l.Nodup){a:Nat}(k:Int)(h:a∈l):ls l (λx=>if x=a then k else 0)=k:=by
 induction l with
 |nil=>exact absurd h (Q5)
 |cons x l d=>
  simp only[jI];rw[RD] at b
  by_cases e:x=a
  ·subst e;rw[if_pos rfl,Aj (f:=λy=>if y=x then k else 0) λy c=>if_neg λe:y=x=>b.1 (e▸c)];lia
  ·rw[if_neg e,d b.2 ((PX.mp h).resolve_left (QA e))];lia
theorem Jy(k:a<n)(l:b<n)(j:a≠b){f g:Nat->Int}(h: ∀i,i<n->i≠a->i≠b->f i=g i):ls (Pi n) f-ls (Pi n) g=(f a-g a)+(f b-g b):=by
 rw[<-gh];rw[bB (g:=λx=>(if x=a then f a-g a else 0)+(if x=b then f b-g b else 0)),jo,oV Qf _ (Pj.mpr k),oV Qf _ (Pj.mpr l)];intro x d;rw[Pj] at d
 by_cases e:x=a
 ·subst e;rw[if_pos rfl,if_neg j];lia
 ·by_cases c:x=b
  ·subst c;rw[if_neg e,if_pos rfl];lia
  ·rw[if_neg e,if_neg c,h x d e c];lia
theorem E3{o:List Nat}(b:o.length=n)(f:Nat->Int):ls (Pi n) (λc=>f (o.getD c 0))=ls o f:=by
 rw[<-E6 (λc=>o.getD c 0)];congr 1;apply UH
 ·rw[Pp,QJ,b]
 ·intro i d a;rw[List.getElem_map,List.getElem_range,P5,Pq a];rfl
theorem DK{o:List Nat}(O:Ord n o)(f:Nat->Int):ls (Pi n) (λc=>f (o.getD c 0))=ls (Pi n) f:=by
 rw[E3 O.len];exact AB O.perm
theorem uG(d:s<n)(a:e<n)(b:x<n):bi (bv n s e x)=bi (decide (s<=x)) -bi (decide (e<=x))+bi (decide (e<s)):=by
 have h:0<n:=by lia
 have m: ∀y:Nat,y<n->((y:Int) -s) % (n:Int)=if s<=y then((y:Int) -s) else((y:Int) -s+n):=λy c=>by
  split
  ·exact Q0 (by lia) (by lia)
  ·rw[<-Ua];exact Q0 (by lia) (by lia)
 unfold bv;rw[m x b,m e a];unfold bi;simp only[lb];split<;>split<;>(repeat' split)<;>lia
theorem Gz(h:0<n)(d:a<n)(b:Nat)(f:Nat->Int):ls (cF n a b) f=ls (Pi n) (λc=>bi (bv n a b c)*f c):=by
 rw[AB (rS h d b)];unfold sP;rw[oU]
theorem vL(h:0<n)(d:a<n)(b:Nat):ls (Pi n) (λc=>bi (bv n a b c))=((b:Int) -a) % n:=by
 have:=Gz h d b (λ_=>1);rw[iP] at this;simp only[Int.mul_one] at this;rw[<-this];unfold cF;rw[Pp,QJ];exact(pS _ h).2
theorem hX {o:List Nat}(d:a<o.length)(f:b<o.length)(i:Nat):(bA o a b).getD i 0=if i=b then o.getD a 0 else if i=a then o.getD b 0 else o.getD i 0:=by
 unfold bA;simp only[P5,List.getElem?_set]
 by_cases e:i=b
 ·subst e;rw[if_pos rfl,if_pos (by rw[Y9];exact f),if_pos rfl];rfl
 ·rw[if_neg (QA e),if_neg e]
  by_cases c:i=a
  ·subst c;rw[if_pos rfl,if_pos d,if_pos rfl];rfl
  ·rw[if_neg (QA c),if_neg c]
theorem vK {o:List Nat}(c:o.length=n)(d:a<n)(e:b<n)(h:a≠b)(g:Nat->Nat->Int):
 ls (Pi n) (λi=>g i (o.getD i 0)) -ls (Pi n) (λi=>g i ((bA o a b).getD i 0))=g a (o.getD a 0)+g b (o.getD b 0) -g a (o.getD b 0) -g b (o.getD a 0):=by
 rw[Jy d e h (f:=λi=>g i (o.getD i 0)) (g:=λi=>g i ((bA o a b).getD i 0)) λi _ j k=>by rw[hX (c▸d) (c▸e),if_neg k,if_neg j]];simp only[hX (c▸d:a<o.length) (c▸e:b<o.length)];rw[if_neg h];simp only[if_true];lia
theorem lX(x y:Bool):bi (x&&y)=bi x*bi y:=by cases x<;>cases y<;>rfl
theorem kH(a b:Nat):bi (decide (a<b))=1-bi (decide (b<=a)):=by
 unfold bi;simp only[lb];split<;>split<;>lia
def Lf(n:Nat)(r o:List Nat):Int:=ls (Pi n) λi=>ls (Pi n) λc=>bi (decide (i<=c)&&decide (o.getD i 0<=r.getD c 0))
def K2(n:Nat)(r o:List Nat):Int:=ls (Pi n) λc=>ls (Pi n) λi=>bi (decide (c<i)&&decide (r.getD c 0<o.getD i 0))
def yo(n:Nat)(o:List Nat):Int:=ls (Pi n) λi=>ls (Pi n) λj=>bi (decide (i<j)&&decide (o.getD i 0<o.getD j 0))
def nq(n:Nat)(r o:List Nat)(a b:Nat):Int:=ls (Pi n) λc=>bi (bv n a b c)*bi (bv n (o.getD a 0) (o.getD b 0) (r.getD c 0))
def Ao(n:Nat)(o:List Nat)(a b:Nat):Int:=ls (Pi n) λc=>bi (bv n a b c)*bi (decide (c≠a)&&bv n (o.getD a 0) (o.getD b 0) (o.getD c 0))
def BY(n:Nat)(o:List Nat)(a b:Nat):Int:=bi (decide (o.getD b 0<o.getD a 0))*(((b:Int) -a) % n)+bi (decide (b<a))*(((o.getD b 0:Int) -o.getD a 0) % n) -n*(bi (decide (b<a))*bi (decide (o.getD b 0<o.getD a 0)))
section
variable {n a b:Nat}{r o:List Nat}(O:Ord n o)(R:Ord n r)(ha:a<n)(hb:b<n)(ne:a≠b)
include O R ha hb ne
theorem xu:ls (Pi n) (λc=>(bi (decide (a<=c)) -bi (decide (b<=c)))*(bi (decide (o.getD a 0<=r.getD c 0)) -bi (decide (o.getD b 0<=r.getD c 0))))=nq n r o a b-BY n o a b:=by
 have h:0<n:=by lia
 rw[bB (g:=λc=>((bi (bv n a b c)*bi (bv n (o.getD a 0) (o.getD b 0) (r.getD c 0)) -bi (decide (o.getD b 0<o.getD a 0))*bi (bv n a b c)) -bi (decide (b<a))*bi (bv n (o.getD a 0) (o.getD b 0) (r.getD c 0)))+bi (decide (b<a))*bi (decide (o.getD b 0<o.getD a 0)))]
 ·rw[jo,gh,gh,oC,oC,vL h ha,DK R (λv=>bi (bv n (o.getD a 0) (o.getD b 0) v)),vL h (O.get ha),iP,QJ];unfold nq BY;lia
 ·intro c d;rw[Pj] at d;rw[uG ha hb d,uG (O.get ha) (O.get hb) (R.get d)];grind
theorem Kl:Lf n r o-Lf n r (bA o a b)=nq n r o a b-BY n o a b:=by
 unfold Lf;rw[vK O.len ha hb ne (λi u=>ls (Pi n) λc=>bi (decide (i<=c)&&decide (u<=r.getD c 0)))];rw[<-xu O R ha hb ne,<-jo,<-gh,<-gh];refine bB λc _=>?_
 simp only[lX];grind
theorem Kj:K2 n r o-K2 n r (bA o a b)=nq n r o a b-BY n o a b:=by
 unfold K2;rw[<-xu O R ha hb ne,<-gh];refine bB λc _=>?_
 rw[vK O.len ha hb ne (λi u=>bi (decide (c<i)&&decide (r.getD c 0<u)))];simp only[lX,kH];grind
end
section
variable {n a b:Nat}{o:List Nat}(O:Ord n o)(ha:a<n)(hb:b<n)(ne:a≠b)
include O ha hb ne
theorem Kc:yo n o-yo n (bA o a b)=1+2*Ao n o a b-2*BY n o a b:=by
 have h:0<n:=by lia
 have g:yo n o- (ls (Pi n) λi=>ls (Pi n) λj=>bi (decide (i<j)&&decide ((bA o a b).getD i 0<o.getD j 0)))=ls (Pi n) λj=>(bi (decide (a<j)) -bi (decide (b<j)))*(bi (decide (o.getD a 0<o.getD j 0)) -bi (decide (o.getD b 0<o.getD j 0))):=by
  unfold yo;rw[vK O.len ha hb ne (λi u=>ls (Pi n) λj=>bi (decide (i<j)&&decide (u<o.getD j 0))),<-jo,<-gh,<-gh];refine bB λc _=>?_
  simp only[lX];grind
 have s2:(ls (Pi n) λi=>ls (Pi n) λj=>bi (decide (i<j)&&decide ((bA o a b).getD i 0<o.getD j 0))) -yo n (bA o a b)=ls (Pi n) λi=>(bi (decide (i<a)) -bi (decide (i<b)))*(bi (decide ((bA o a b).getD i 0<o.getD a 0)) -bi (decide ((bA o a b).getD i 0<o.getD b 0))):=by
  unfold yo;rw[<-gh];refine bB λi _=>?_
  rw[vK O.len ha hb ne (λj u=>bi (decide (i<j)&&decide ((bA o a b).getD i 0<u)))];simp only[lX];grind
 have k:yo n o-yo n (bA o a b)=ls (Pi n) λj=>(((2*(bi (bv n a b j)*bi (decide (j≠a)&&bv n (o.getD a 0) (o.getD b 0) (o.getD j 0))) -2*bi (decide (o.getD b 0<o.getD a 0))*bi (bv n a b j)) -2*bi (decide (b<a))*bi (bv n (o.getD a 0) (o.getD b 0) (o.getD j 0)))+2*(bi (decide (b<a))*bi (decide (o.getD b 0<o.getD a 0))))+((if j=a then bi (decide (o.getD b 0<o.getD a 0))+2*bi (decide (b<a)) else 0)+(if j=b then 1-2*bi (decide (b<a)) -bi (decide (o.getD b 0<o.getD a 0)) else 0)):=by
  rw[show yo n o-yo n (bA o a b)=_+_ from(by rw[<-g,<-s2];lia:_=(ls (Pi n) λj=>(bi (decide (a<j)) -bi (decide (b<j)))*(bi (decide (o.getD a 0<o.getD j 0)) -bi (decide (o.getD b 0<o.getD j 0))))+ls (Pi n) λi=>(bi (decide (i<a)) -bi (decide (i<b)))*(bi (decide ((bA o a b).getD i 0<o.getD a 0)) -bi (decide ((bA o a b).getD i 0<o.getD b 0)))),<-jo];refine bB λj f=>?_
  rw[Pj] at f;rw[uG ha hb f,lX,uG (O.get ha) (O.get hb) (O.get f),hX (O.len▸ha) (O.len▸hb)];have m:o.getD a 0≠o.getD b 0:=λe=>ne (O.inj ha hb e)
  by_cases e:j=a
  ·subst e;rw[if_neg ne,if_pos rfl,if_pos rfl,if_neg ne];unfold bi;simp only[lb]
   grind
  ·by_cases d:j=b
   ·subst d;rw[if_pos rfl,if_neg e,if_pos rfl];unfold bi;simp only[lb]
    grind
   ·rw[if_neg d,if_neg e,if_neg e,if_neg d];have l:o.getD j 0≠o.getD a 0:=λx=>e (O.inj f ha x)
    have ob:o.getD j 0≠o.getD b 0:=λx=>d (O.inj f hb x)
    have q: ∀x y:Nat,y≠x->bi (decide (x<y))=bi (decide (x<=y)):=λx y h=>by
     unfold bi;simp only[lb];split<;>split<;>lia
    rw[q _ _ e,q _ _ d,q _ _ l,q _ _ ob,kH j a,kH j b,kH (o.getD j 0),kH (o.getD j 0),show decide (j≠a)=true from lm e];show _=_;have:bi true=1:=rfl;rw[this];grind
 rw[k];rw[jo,jo,jo,gh,gh,oC,oC,oC,oV Qf _ (Pj.mpr ha),oV Qf _ (Pj.mpr hb),vL h ha,DK O (λv=>bi (bv n (o.getD a 0) (o.getD b 0) v)),vL h (O.get ha),iP,QJ];unfold Ao BY;grind
end
theorem D9(v:Nat): ∀l:List Nat,v∈l-> ∃j,(l.map nI).findIdx? (λd=>dg d (nI v))=some j/\j<l.length/\l.getD j 0=v
 | [],h=>absurd h Q5
 |y::l,h=>by
  rw[Pu,List.findIdx?_cons,jp]
  by_cases e:y=v
  ·exact⟨0,by simp[e],by simp,by simpa using e⟩
  ·obtain⟨j,a,b,c⟩:=D9 v l ((PX.mp h).resolve_left (QA e));refine⟨j+1,by simp[e,a],by simp[b],by simpa using c⟩
structure Sg(n:Nat)(r x:List Nat)(S:Nat->Nat):Prop where
 ev: ∀y,y<n->tI (ax x) (nI (r.getD y 0))=some (nI (S y))
 lt: ∀y,y<n->S y<n
 inj: ∀y z,y<n->z<n->S y=S z->y=z
theorem LS(R:Ord n r)(X:Ord n x): ∃S,Sg n r x S:=by
 have h: ∀y,∃z,y<n->tI (ax x) (nI (r.getD y 0))=some (nI z)/\z<n/\x.getD z 0=r.getD y 0:=λy=>by
  by_cases a:y<n
  ·obtain⟨j,d,f,g⟩:=D9 (r.getD y 0) x (X.has (R.get a));refine⟨j,λ_=>⟨?_,X.len▸f,g⟩⟩;show(if cO (x.map nI)<=32 then(xk (x.map nI) (nI (r.getD y 0))).map (λj=>D.int j) else none)=_;rw[if_pos (by rw[j7];lia)];unfold xk;rw[d];rfl
  ·exact⟨0,λq=>absurd q a⟩
 obtain⟨S,b⟩:=YQ.mp h;exact⟨S,λy a=>(b y a).1,λy a=>(b y a).2.1,λy z a c e=>R.inj a c ((b y a).2.2.symm.trans (e▸(b z c).2.2))⟩
theorem qr {n:Nat}{l:List Nat}(a:l.Nodup)(h: ∀z∈l,z<n):l.length<=n:=by
 have p:l.Perm ((Pi n).filter λz=>decide (z∈l)):=(Qe a (Sb _ Qf)).mpr λz=>by
  rw[QW,Pj,lb];exact⟨λq=>⟨h z q,q⟩,λq=>q.2⟩
 rw[p.length_eq];exact Qh (Q2 _ _) (by simp)
def BO(S:Nat->Nat):Nat->Nat->Nat
 |0,s=>s
 |k+1,s=>S (BO S k s)
def IJ(S:Nat->Nat)(s z:Nat):Prop:= ∃k,BO S k s=z
theorem ny(S:Nat->Nat)(s:Nat):IJ S s s:=⟨0,rfl⟩
theorem rG {S:Nat->Nat}(h:IJ S s z):IJ S s (S z):=let⟨k,e⟩:=h;⟨k+1,by show S (BO S k s)=_;rw[e]⟩
structure Wlk(n:Nat)(S:Nat->Nat)(s:Nat)(W:List Nat)(t:Nat):Prop where
 nd:W.Nodup
 lt: ∀z∈W,z<n
 hs:s∈W
 ht:t∈W
 pre: ∀z∈W,z≠s-> ∃y∈W,y≠t/\S y=z
 nxt: ∀z∈W,z≠t->S z∈W
 on: ∀z∈W,IJ S s z
 back: ∀z∈W,IJ S z t
structure Cyc(n:Nat)(S:Nat->Nat)(s:Nat)(W:List Nat):Prop where
 lt: ∀z∈W,z<n
 mem: ∀z,z∈W↔IJ S s z
 back: ∀z,z∈W->IJ S z s
section
variable {n:Nat}{r x:List Nat}{S:Nat->Nat}(H:Sg n r x S)
theorem Wlk.start(c:s<n):Wlk n S s [s] s:=
 ⟨by simp,λz a=>by rw[PQ] at a;rw[a];exact c,by simp,by simp,λz a b=>absurd (PQ.mp a) b,λz a b=>absurd (PQ.mp a) b,λz a=>by rw[PQ] at a;rw[a];exact ny S s,λz a=>by rw[PQ] at a;rw[a];exact ny S s⟩
include H
theorem Wlk.notin(w:Wlk n S s W t)(h:S t≠s):S t∉W:=λd=>by
 obtain⟨y,b,c,a⟩:=w.pre _ d h;exact c (H.inj _ _ (w.lt _ b) (w.lt _ w.ht) a)
theorem Wlk.next(w:Wlk n S s W t)(h:S t≠s):Wlk n S s (W++[S t]) (S t):=by
 have c:=w.notin H h;have b: ∀ {P:Nat->Prop},(∀z∈W,P z)->P (S t)-> ∀z∈W++[S t],P z:=λi j z a=>(QL.mp a).elim (i z) λq=>by rw[PQ] at q;rw[q];exact j
 refine⟨Q6.mpr ⟨w.nd,by simp,λu k v hv=>by rw[PQ] at hv;subst hv;exact λe=>c (e▸k)⟩,b w.lt (H.lt _ (w.lt _ w.ht)),Q8 _ w.hs,by simp,b (λz a d=>?_) (λ_=>⟨t,Q8 _ w.ht,λe=>c (e▸w.ht),rfl⟩),b (λz a d=>?_) (λq=>absurd rfl q),b w.on (rG (w.on _ w.ht)),b (λz a=>rG (w.back z a)) (ny S _)⟩
 ·obtain⟨y,f,_,g⟩:=w.pre z a d;exact⟨y,Q8 _ f,λe=>c (e▸f),g⟩
 ·by_cases e:z=t
  ·subst e;simp
  ·exact Q8 _ (w.nxt z a e)
omit H in
theorem Wlk.done(w:Wlk n S s W t)(h:S t=s):Cyc n S s W:=by
 refine⟨w.lt,λz=>⟨w.on z,?_⟩,λz a=>h▸rG (w.back z a)⟩;rintro⟨k,rfl⟩
 induction k with
 |zero=>exact w.hs
 |succ k b=>
  show S (BO S k s)∈W
  by_cases e:BO S k s=t
  ·rw[e,h];exact w.hs
  ·exact w.nxt _ b e
end
def led(S:Nat->Nat)(s:Nat):Prop:= ∀z,IJ S s z->s<=z
noncomputable def qk(S:Nat->Nat)(s:Nat):Bool:= @decide (led S s) (Wm _)
theorem ju {S:Nat->Nat}:qk S s=true↔led S s:=by unfold qk;exact @decide_eq_true_iff _ (Wm _)
def K9:FT:=bR (av mo (av br (ai 0) (av br (dE 3) (lB (aC (.int 1))))) (ai 2))
def K5:FS:=cA (aJ 3 1 gE (cq (aa (av br (ai 0) (av br (dE 3) (lB (aC (.int 1))))) (aj))))
def M6:FS:=fy (bR (av si (ak tD (aa (dE 3) (aj))) (ai 2))) ((λρ=>(cA (aJ 1 1 gE (cq (aa (ai 3) (aj))))) (Cr 3 ρ))) (cb)
def ga:FS:=
 aB (gc 1 (b7 (aj)))
 (aB (jG (cq (eV (aa (ak c7 (aa (ai 0) (aj))) (aj)))) (gN 2) (aB (gc 3 (b7 (aa (ai 2) (aj))))
 (aB (vX K9 K5 16)
 M6)))
 (yh 1))
def jW:List D->Option D:=eO .n 4 ga
structure Wl(n:Nat)(S:Nat->Nat)(s:Nat)(W:List Nat)(t:Nat):Prop where
 w:Wlk n S s W t
 last:W.getLast?=some t
 eq:W=(Pi W.length).map λi=>BO S i s
structure Cy(n:Nat)(S:Nat->Nat)(s:Nat)(W:List Nat):Prop where
 c:Cyc n S s W
 eq:W=(Pi W.length).map λi=>BO S i s
 per:BO S W.length s=s
 nd:W.Nodup
 pos:0<W.length
structure Sh(n:Nat)(S:Nat->Nat):Prop where
 lt: ∀y,y<n->S y<n
 inj: ∀y z,y<n->z<n->S y=S z->y=z
theorem Sh.sg{S:Nat->Nat}(H:Sh n S):Sg n ((Pi n).map S) (Pi n) S:=by
 refine⟨λy b=>?_,H.lt,H.inj⟩;have e:((Pi n).map S).getD y 0=S y:=by simp[Qr,b]
 rw[e];obtain⟨j,c,a,d⟩:=D9 (S y) (Pi n) (Pj.mpr (H.lt y b));have:j=S y:=by
  rw[QJ] at a;simpa [Qr,a] using d
 subst this;show(if cO ((Pi n).map nI)<=32 then(xk ((Pi n).map nI) (nI (S y))).map (λj=>D.int j) else none)=_;rw[if_pos (by rw[j7];lia)];unfold xk;rw[c];rfl
theorem Wl.start{S:Nat->Nat}(a:s<n):Wl n S s [s] s:=⟨Wlk.start a,rfl,rfl⟩
theorem Wl.tt{S:Nat->Nat}{W:List Nat}(w:Wl n S s W t):S t=BO S W.length s:=by
 have h:=w.last;have e:=w.eq;have f:0<W.length:=by
  cases W with
  |nil=>cases h
  |cons=>simp
 rw[VD] at h;have c:W[W.length-1]? =some (BO S (W.length-1) s):=by
  have q: ∀k,k<W.length->((Pi W.length).map λi=>BO S i s)[k]? =some (BO S k s):=λk d=>by rw[Qi,U5 d];rfl
  have b:=q (W.length-1) (by lia);rw[<-e] at b;exact b
 have a:=h.symm.trans c;injection a with a
 have:W.length=(W.length-1)+1:=by lia
 rw[this];show S t=S (BO S (W.length-1) s);rw[<-a]
theorem Wl.next{S:Nat->Nat}(H:Sh n S)(w:Wl n S s W t)(h:S t≠s):Wl n S s (W++[S t]) (S t):=by
 refine⟨w.w.next H.sg h,by simp,?_⟩;rw[P0,Q3,WN,Qm,<-w.eq,w.tt];rfl
theorem Wl.done{S:Nat->Nat}(w:Wl n S s W t)(h:S t=s):Cy n S s W:=by
 refine⟨w.w.done h,w.eq,by rw[<-w.tt];exact h,w.w.nd,?_⟩;have:=w.last;cases W with
 |nil=>cases this
 |cons=>simp
theorem Cy.uniq {n:Nat}{S:Nat->Nat}{s:Nat}{W W':List Nat}(a:Cy n S s W)(b:Cy n S s W'):W=W':=by
 have key: ∀ {W W':List Nat},Cy n S s W->Cy n S s W'-> ¬W.length<W'.length:=λ{W W'} a b h=>by
  have e0:W'[0]? =some s:=by rw[b.eq];simp[b.pos];rfl
  have e1:W'[W.length]? =some s:=by rw[b.eq];simp[h];exact a.per
  have:=(VR (by exact b.pos) b.nd).mp (e0.trans e1.symm);have:=a.pos;lia
 have:W.length=W'.length:=by have h1:=key a b;have h2:=key b a;lia
 rw[a.eq,b.eq,this]
section
variable {n:Nat}{S:Nat->Nat}(H:Sh n S)(hn:n<=14)
abbrev Gf(n:Nat)(S:Nat->Nat)(F:List D)(s:Nat)(W:List Nat):aG:=[.v (.lst (((Pi n).map S).map nI)),.own F,.v (nI s),.own (W.map nI)]
theorem GP {W:List Nat}(h:W.getLast?=some t):br (.lst (W.map nI)) (.int (-1))=some (nI t):=by
 show tF (W.map nI) (-1)=_;have a:0<W.length:=by
  cases W with
  |nil=>cases h
  |cons=>simp
 unfold tF x9;rw[if_neg (by lia),if_pos (by rw[Pp];lia),Pt];have:(-1+((W.map nI).length:Int)).toNat=W.length-1:=by rw[Pp];lia
 rw[this,Qi,<-VD,h];rfl
theorem KA(ρ:aG):lB (aC (.int 1)) ρ=some (.int (-1)):=rfl
include H in
theorem Fe(w:Wl n S s W t):av br (ai 0) (av br (dE 3) (lB (aC (.int 1)))) (Gf n S F s W)=some (nI (S t)):=by
 refine(aA (x:=.lst (((Pi n).map S).map nI)) (y:=nI t) rfl ((aA (x:=.lst (W.map nI)) rfl (KA _)).trans (GP w.last))).trans ?_
 have a:=w.w.lt _ w.w.ht;refine(Bi (by simp[a])).trans ?_
 congr 2;simp[Qr,a]
include H hn in
theorem uU(F:List D)(s:Nat): ∀(f:Nat) (W:List Nat) (t:Nat),n<f+W.length->Wl n S s W t->
 ∃L,vX K9 K5 f (Gf n S F s W)=.nx (Gf n S F s L)/\Cy n S s L
 |0,W,t,h,w=>absurd (qr w.w.nd w.w.lt) (by lia)
 |f+1,W,t,h,w=>by
  unfold vX;have g:K9 (Gf n S F s W)=some (!decide (S t=s)):=by
   unfold K9;refine b6 ((aA (x:=nI (S t)) (y:=nI s) (Fe H w) rfl).trans ?_);rw[kf (by rw[fP];lia),jp]
  rw[g]
  by_cases e:S t=s
  ·rw[show(!decide (S t=s))=false by simp[e]];exact⟨W,rfl,w.done e⟩
  ·rw[show(!decide (S t=s))=true by simp[e]];have j:=qr w.w.nd w.w.lt;have b:K5 (Gf n S F s W)=.nx (Gf n S F s (W++[S t])):=by
    unfold K5;refine(rW (i:=3) (bs:=W.map nI) (d:=nI (S t)) rfl (bU (am (Fe H w) rfl)) rfl (by rw[Pp];lia)).trans ?_
    unfold Gf;rw[Qm];rfl
   obtain⟨L,a,c⟩:=uU F s f (W++[S t]) (S t) (by rw[P0,Q3];lia) (w.next H e);refine⟨L,?_,c⟩;dsimp only;rw[b];exact a
theorem FQ: ∀l:List Nat,eJ (l.map nI)=some (l.map λ(z:Nat)=>(z:Int))
 | []=>rfl
 |z::l=>by rw[Pu];show(eJ (l.map nI)).map _=_;rw[FQ l];rfl
theorem L6 {l:List Nat}{s:Nat}(h:s∈l): ∃v:Int,tD [.lst (l.map nI)]=some (.int v)/\(v=s↔ ∀z∈l,s<=z):=by
 refine⟨oS (l.map λ(z:Nat)=>(z:Int)),?_,?_⟩
 ·show((eJ (l.map nI)).bind λf=>if f.isEmpty=true then none else some (D.int (oS f)))=_;rw[FQ];cases l with
  |nil=>exact absurd h Q5
  |cons=>rfl
 ·cases l with
  |nil=>exact absurd h Q5
  |cons a l=>
   obtain⟨d,b⟩:=xB (l.map λ(z:Nat)=>(z:Int)) (a:Int);have d:oS ((a::l).map λ(z:Nat)=>(z:Int))∈(a::l).map λ(z:Nat)=>(z:Int):=d
   have b: ∀x∈(a::l).map (λ(z:Nat)=>(z:Int)),oS ((a::l).map λ(z:Nat)=>(z:Int))<=x:=b
   constructor
   ·intro e z c;have:=b z (PU.mpr ⟨z,c,rfl⟩);lia
   ·intro q;have g:=b s (PU.mpr ⟨s,h,rfl⟩);obtain⟨z,c,e⟩:=PU.mp d;have i:=q z c;lia
include H hn in
theorem pP: ∃C:Nat->List Nat,(∀s,s<n->Cy n S s (C s))/\
 jW [.lst (((Pi n).map S).map nI)]=some (.lst (((Pi n).filter (qk S)).map λs=>.lst ((C s).map nI))):=by
 have hC: ∀s,∃L,s<n->Cy n S s L:=λs=>by
  by_cases hs:s<n
  ·obtain⟨L,_,h⟩:=uU H hn [] s 16 [s] s (by simp;lia) (Wl.start hs);exact⟨L,λ_=>h⟩
  ·exact⟨[],λh=>absurd h hs⟩
 obtain⟨C,hC⟩:=YQ.mp hC;refine⟨C,hC,?_⟩;have lp: ∀(l:List Nat),(∀s∈l,s<n)-> ∀(F:List D) (s2 s3:Sl),F.length+l.length<=900-> ∃s2' s3',fE (gN 2) (aB (gc 3 (b7 (aa (ai 2) (aj)))) (aB (vX K9 K5 16) M6)) (l.map nI) [.v (.lst (((Pi n).map S).map nI)),.own F,s2,s3]
  =.nx [.v (.lst (((Pi n).map S).map nI)),.own (F++(l.filter (qk S)).map λs=>.lst ((C s).map nI)),s2',s3']:=by
  intro l
  induction l with
  |nil=>intro _ F s2 s3 _;exact⟨s2,s3,by simp[fE]⟩
  |cons s l ih=>
   intro hl F s2 s3 hF;rw[P1] at hF;have hs:=hl s (PV ..);obtain⟨L,hL,K⟩:=uU H hn F s 16 [s] s (by simp;lia) (Wl.start hs);cases K.uniq (hC s hs);have b1:(aB (gc 3 (b7 (aa (ai 2) (aj)))) (aB (vX K9 K5 16) M6)) [.v (.lst (((Pi n).map S).map nI)),.own F,.v (nI s),s3]=M6 (Gf n S F s (C s)):=
    (ay (ρ':=Gf n S F s [s]) ((k6 (cT (ds:=[nI s]) rfl (by simp))).trans rfl)).trans (ay hL)
   obtain⟨v,hv,hv2⟩:=L6 ((K.c.mem s).mpr (ny S s));have hv3:v=s↔qk S s=true:=hv2.trans ((Iff.intro (λq z hz=>q z ((K.c.mem z).mpr hz)) λq z hz=>q z ((K.c.mem z).mp hz)).trans ju.symm);have ih':=ih λz hz=>hl z (PK _ hz)
   have tt:bR (av si (ak tD (aa (dE 3) (aj))) (ai 2)) (Gf n S F s (C s))=some (qk S s):=by
    refine b6 ((aA (x:=.int v) (y:=nI s) ((bP (ds:=[.lst ((C s).map nI)]) rfl).trans hv) rfl).trans ?_);rw[pg (by rw[fP];lia),jx];congr 2;rw[Qd,lb];exact hv3
   cases e:qk S s
   ·rw[e] at tt;obtain⟨s2',s3',h⟩:=ih' F (.v (nI s)) (.own ((C s).map nI)) (by lia);refine⟨s2',s3',?_⟩;rw[Pu,S9 (by rw[e];decide),<-h];exact eN (ρ1:=[.v (.lst (((Pi n).map S).map nI)),.own F,.v (nI s),s3]) rfl (b1.trans (mY tt))
   ·rw[e] at tt;obtain⟨s2',s3',h⟩:=ih' (F++[.lst ((C s).map nI)]) (.v (nI s)) (.v (.lst ((C s).map nI))) (by rw[P0,Q3];lia);refine⟨s2',s3',?_⟩;rw[Pu,Ta e,Pu,List.append_cons,<-h];exact eN (ρ1:=[.v (.lst (((Pi n).map S).map nI)),.own F,.v (nI s),s3]) rfl (b1.trans ((gk tt).trans ((rW (i:=1) (bs:=F) (d:=.lst ((C s).map nI)) rfl (bU rfl) rfl (by lia)).trans rfl)))
 obtain⟨s2',s3',h⟩:=lp (Pi n) (λs hs=>Pj.mp hs) [] .no .no (by simp;lia);apply bj (kd:=.n) (n:=4) (t:=ga);unfold ga;refine(ay (ρ':=[.v (.lst (((Pi n).map S).map nI)),.own [],.no,.no]) ((k6 (cT (ds:=[]) rfl (by simp))).trans rfl)).trans ?_
 refine(ay ((ir (ds:=(Pi n).map nI) (bU (jj (n:=n) (am ((wu ((Pi n).map S) _ _ rfl).trans (by simp)) rfl) (by lia)))).trans h)).trans ?_
 rfl
end
def kj:FS:=
 aB (cD (gT 2 (cS (gN 1) (cS (gN 2) (gX)))) (pu (ai 0)))
 (bc (ak (nF 1 jW) (aa (cx 1 (xt (ai 1)) (gN 3) (cj) (av tI (ai 2) (ai 3))) (aj))))
def xl:List D->Option D:=eO .n 3 kj
theorem Sg.sh {n:Nat}{S:Nat->Nat}(H:Sg n r x S):Sh n S:=⟨H.lt,H.inj⟩
theorem BU(r:List Nat):r=(Pi r.length).map λy=>r.getD y 0:=by
 apply UH (by simp);intro i a b;simp[Qr,a]
theorem Cn{S:Nat->Nat}(R:Ord n r)(X:Ord n x)(H:Sg n r x S)(d:n<=8): ∃C:Nat->List Nat,(∀s,s<n->Cy n S s (C s))/\
 xl [cH r x]=some (.lst (((Pi n).filter (qk S)).map λs=>.lst ((C s).map nI))):=by
 obtain⟨C,b,h⟩:=pP H.sh (by lia);refine⟨C,b,?_⟩;apply bj (kd:=.n) (n:=3) (t:=kj);unfold kj;refine(ay (ρ':=[.v (cH r x),.v (ax r),.v (ax x)]) (dW (fU rfl) rfl)).trans ?_
 refine a7 ((aN (ds:=[.lst (((Pi n).map S).map nI)]) (am ?_ rfl) rfl).trans h);refine eS (ds:=r.map nI) (HE rfl) (by rw[Pp,R.len];lia) ?_
 have c:r.map nI=(Pi n).map λy=>nI (r.getD y 0):=by
  conv=>lhs;rw[BU r,R.len,PM]
  rfl
 rw[c,PM];refine gx (Pi n) λy a=>?_
 rw[Pj] at a;exact⟨_,rfl,(aA (x:=ax x) (y:=nI (r.getD y 0)) rfl rfl).trans (H.ev y a)⟩
def zX(xs:List Nat)(k:Int):List Nat:=(Pi xs.length).map λ(i:Nat)=>xs.getD (((i:Int) -k) % xs.length).toNat 0
def yR(xs:List Nat)(k:Int):List Nat:=xs.map λ(v:Nat)=>(((v:Int)+k) % xs.length).toNat
theorem wD(xs:List Nat)(k:Int):(zX xs k).length=xs.length:=by simp[zX]
theorem E9(xs:List Nat)(k:Int):(yR xs k).length=xs.length:=by simp[yR]
theorem Dt(xs:List Nat)(k:Int)(h:i<xs.length):(zX xs k).getD i 0=xs.getD (((i:Int) -k) % xs.length).toNat 0:=by
 simp[zX,Qr,h]
theorem Ew(xs:List Nat)(k:Int)(h:i<xs.length):(yR xs k).getD i 0=((((xs.getD i 0:Nat):Int)+k) % xs.length).toNat:=by
 simp[yR,Qr,h]
theorem rC {xs ys:List Nat}(c:xs.length=ys.length)(h: ∀i,i<xs.length->xs.getD i 0=ys.getD i 0):xs=ys:=by
 refine UH c λi a b=>?_
 have:=h i a;simpa [Qr,a,b] using this
theorem y9(h:0<n)(a:Int):((Pi n).map λ(i:Nat)=>(((i:Int)+a) % n).toNat).Perm (Pi n):=by
 refine(Qe ?_ Qf).mpr λj=>?_
 ·show jax (·≠ ·) _;rw[QI];refine QO (λ{i j} d b c e=>?_) Rl;rw[Pj] at d b;have g:=pS ((i:Int)+a) h;have f:=pS ((j:Int)+a) h;have:((i:Int)+a) % n=((j:Int)+a) % n:=by lia
  rw[VC,Q0 (by lia) (by lia),Q0 (by lia) (by lia)] at this;lia
 ·rw[PU,Pj];constructor
  ·rintro⟨i,_,rfl⟩;exact(pS _ h).1
  ·intro b;have m:=pS ((j:Int) -a) h;refine⟨(((j:Int) -a) % n).toNat,by rw[Pj];exact m.1,?_⟩;rw[m.2,Uy,show(j:Int) -a+a=j by lia,Q0 (by lia) (by lia)];rfl
def Ge(n:Nat)(k:Int)(v:Nat):Nat:=(((v:Int)+k) % n).toNat
structure Mv(n:Nat)(t:Nat->Nat):Prop where
 lt: ∀c,c<n->t c<n
 inj: ∀c d,c<n->d<n->t c=t d->c=d
 sur: ∀c,c<n-> ∃d,d<n/\t d=c
 inb: ∀s e v,s<n->e<n->v<n->bv n (t s) (t e) (t v)=bv n s e v
theorem qP {n:Nat}(h:0<n)(k:Int):Mv n (Ge n k):=by
 have a: ∀v:Nat,((Ge n k v:Nat):Int)=((v:Int)+k) % n:=λv=>(pS _ h).2
 have b: ∀u v:Nat,((Ge n k u:Int) -Ge n k v) % n=((u:Int) -v) % n:=λu v=>by
  rw[a,a,<-Yu,show(u:Int)+k- (v+k)=u-v by lia]
 refine⟨λc _=>(pS _ h).1,λc d g f e=>?_,λc g=>?_,λs e v _ _ _=>?_⟩
 ·have:=b c d;rw[e,Int.sub_self,Int.zero_emod] at this;obtain⟨m,i⟩:=Wh this.symm;have:m=0:=by
   rcases Yr m 0 with q|q|q
   ·have:(n:Int)*m<=n*(-1):=Se (by lia) (by lia);lia
   ·exact q
   ·have:(n:Int)*1<=n*m:=Se (by lia) (by lia);lia
  rw[this] at i;lia
 ·have:=(y9 h k).mem_iff.mpr (Pj.mpr g);obtain⟨d,f,e⟩:=PU.mp this;exact⟨d,Pj.mp f,e⟩
 ·unfold bv;rw[b,b]
theorem JP{o:List Nat}(k:o.length=n)(lt: ∀c,c<n->o.getD c 0<n)(a: ∀c d,c<n->d<n->o.getD c 0=o.getD d 0->c=d)(f: ∀v,v<n-> ∃c,c<n/\o.getD c 0=v):Ord n o:=by
 refine⟨(Qe ?_ Qf).mpr λv=>?_⟩
 ·rw[XO,Rj];intro i j b g m e;have:=a i j (by lia) (by lia) (by rw[P5,Pq b,P5,Pq g];exact e);lia
 ·rw[Pj];constructor
  ·intro h;obtain⟨i,b,rfl⟩:=SZ h;have:=lt i (by lia);rw[P5,Pq b] at this;exact this
  ·intro h;obtain⟨c,l,e⟩:=f v h;rw[P5,Pq (by lia)] at e;have e:o[c]=v:=e;exact e▸S7 _
theorem J5{o:List Nat}(a:o.length=n)(h:0<n)(k:Int)(b:c<n):(zX o k).getD (Ge n k c) 0=o.getD c 0:=by
 rw[Dt o k (by rw[a];exact(pS _ h).1),a];have:(((Ge n k c:Nat):Int) -k) % n=c:=by
  rw[show((Ge n k c:Nat):Int)=((c:Int)+k) % n from(pS _ h).2,Yu,Int.emod_emod,<-Yu,show(c:Int)+k-k=c by lia];exact Q0 (by lia) (by lia)
 rw[this];rfl
theorem Kb {n:Nat}{o:List Nat}(a:o.length=n)(k:Int)(b:c<n):(yR o k).getD c 0=Ge n k (o.getD c 0):=by
 rw[Ew o k (by lia),a];rfl
theorem Ord.mv{o j:List Nat}(O:Ord n o)(T:Mv n t)(U:Mv n u)(l:j.length=n)(h: ∀c,c<n->j.getD (t c) 0=u (o.getD c 0)):Ord n j:=by
 refine JP l (λc f=>?_) (λc d f m e=>?_) λv hv=>?_
 ·obtain⟨g,a,rfl⟩:=T.sur c f;rw[h g a];exact U.lt _ (O.get a)
 ·obtain⟨g,a,rfl⟩:=T.sur c f;obtain⟨d',b,rfl⟩:=T.sur d m;rw[h g a,h d' b] at e;rw[O.inj a b (U.inj _ _ (O.get a) (O.get b) e)]
 ·obtain⟨w,hw,rfl⟩:=U.sur v hv;obtain⟨c,f,e⟩: ∃c,c<n/\o.getD c 0=w:=by
   obtain⟨i,k,e⟩:=SZ (O.has hw);exact⟨i,by rw[<-O.len];exact k,by rw[P5,Pq k];exact e⟩
  exact⟨t c,T.lt c f,by rw[h c f,e]⟩
theorem Lv{o m k:List Nat}{t u:Nat->Nat}(w:o.length=n)(T:Mv n t)(r:m.length=n)(e:k.length=n)(l:a<n)(j:b<n)(h: ∀c,c<n->m.getD (t c) 0=u (o.getD c 0))(s: ∀c,c<n->k.getD (t c) 0=u ((bA o a b).getD c 0)):k=bA m (t a) (t b):=by
 have x:=T.lt a l;have v:=T.lt b j;refine rC (by rw[e];unfold bA;simp[r]) λc p=>?_
 rw[e] at p;obtain⟨d,f,rfl⟩:=T.sur c p;rw[s d f,hX (by lia) (by lia),hX (by lia) (by lia)]
 by_cases i:d=b
 ·subst i;rw[if_pos rfl,if_pos rfl,h a l]
 ·rw[if_neg i,if_neg λq=>i (T.inj _ _ f j q)]
  by_cases g:d=a
  ·subst g;rw[if_pos rfl,if_pos rfl,h b j]
  ·rw[if_neg g,if_neg λq=>g (T.inj _ _ f l q),h d f]
theorem AD{o:List Nat}(O:Ord n o)(hv:v<n):o.idxOf v<n/\o.getD (o.idxOf v) 0=v:=by
 have a:=List.idxOf_lt_length_of_mem (O.has hv);refine⟨by rw[<-O.len];exact a,?_⟩;rw[P5,Pq a,List.getElem_idxOf];rfl
def sp(n:Nat)(P:Nat->Nat->Bool):List (Nat×Nat):=(Pi n).flatMap λa=>((Pi n).filter λb=>decide (a≠b)&&P a b).map λb=>(a,b)
theorem iT{p:Nat×Nat}:p∈sp n P↔p.1<n/\p.2<n/\p.1≠p.2/\P p.1 p.2=true:=by
 unfold sp;rw[Rf];constructor
 ·rintro⟨a,i,h⟩;obtain⟨b,c,rfl⟩:=PU.mp h;rw[QW,Ps,lb,Pj] at c;exact⟨Pj.mp i,c.1,c.2.1,c.2.2⟩
 ·rintro⟨d,e,g,f⟩;refine⟨p.1,Pj.mpr d,PU.mpr ⟨p.2,?_,rfl⟩⟩;rw[QW,Ps,lb,Pj];exact⟨e,g,f⟩
theorem LD(n:Nat)(P:Nat->Nat->Bool):(sp n P).Pairwise λp q=>p.1<q.1\/(p.1=q.1/\p.2<q.2):=by
 unfold sp;rw[UC];refine⟨λa _=>?_,Rl.imp λ{a g} c x d y e=>?_⟩
 ·rw[QI];exact(Sb _ Rl).imp λh=>.inr ⟨rfl,h⟩
 ·obtain⟨b,_,rfl⟩:=PU.mp d;obtain⟨f,_,rfl⟩:=PU.mp e;exact .inl c
theorem Mj(n:Nat)(P:Nat->Nat->Bool):(sp n P).Nodup:=(LD n P).imp λh e=>by subst e;lia
theorem Kt(n:Nat)(P:Nat->Nat->Bool):(sp n P).length<=n*n:=by
 have c: ∀(l:List Nat) (f:Nat->List (Nat×Nat)),(∀a,(f a).length<=n)->(l.flatMap f).length<=l.length*n:=by
  intro l f d
  induction l with
  |nil=>simp
  |cons a l e=>rw[Qj,P0,P1,VE,Xc];have:=d a;lia
 have:=c (Pi n) (λa=>((Pi n).filter λb=>decide (a≠b)&&P a b).map λb=>(a,b)) λa=>by rw[Pp];exact Qh (Q2 _ _) (by simp)
 rwa [QJ] at this
theorem Hq{o:List Nat}(b:o.length=n)(P:Nat->Nat->Bool):FR P o=(sp n P).map λp=>yZ o p.1 p.2:=by
 unfold FR sp;rw[b,R7];congr 1;funext a;rw[PM];rfl
def gb:FS:=
 bc (Ff Da Da (ak lO (aa (ai 1) (aa (ai 2) (aj)))) (ai 0) (ak wg (aa (ai 1) (aa (ai 2) (aj)))))
def gd:List D->Option D:=eO .s 3 gb
def iM:FS:=
 aB (cD (gT 2 (cS (gN 2) (cS (gN 3) (gX)))) (pu (ai 0)))
 (aB (fy (g6 (bR (Ff Lg Lg (aC (.int 0)) (ai 1) (av gY (ak c7 (aa (ai 2) (aj))) (aC (.int 2)))))) (bc (aC (.bl false))) (cb))
 (aB (bf 4 (cu (aa (av br (ai 2) (ai 1)) (aa (av br (ai 3) (ai 1)) (aj)))))
 (aB (bf 5 (cu (aa (av br (ai 2) (av bL (ai 1) (aC (.int 1)))) (aa (av br (ai 3) (av bL (ai 1) (aC (.int 1)))) (aj)))))
 (aB (fy (CN (bR (av (jk false) (av br (ai 4) (aC (.int 0))) (ai 5))) (bR (av (jk false) (av br (ai 4) (aC (.int 1))) (ai 5)))) (bc (aC (.bl false))) (cb))
 (aB (bf 6 (cx 1 (dw (ai 5)) (gN 7) (dJ (ak (nF 3 gd) (aa (ai 7) (aa (av br (ai 4) (aC (.int 0))) (aa (av br (ai 4) (aC (.int 1))) (aj)))))) (ai 7)))
 (bc (av mo (ak c7 (aa (ai 6) (aj))) (aC (.int 1)))))))))
def ss:List D->Option D:=eO .s 7 iM
theorem iI(h:p ρ=some false):fy p t cb ρ=.nx ρ:=(mY h).trans rfl
theorem zH {F G:D->D->Option D}{f g h:FE}{x y z:D}(a:f ρ=some x)(b:g ρ=some y)(e:F x y=some (.bl p))(c:h ρ=some z)(d:G y z=some (.bl q)):Ff F G f g h ρ=some (.bl (p&&q)):=by
 unfold Ff;rw[a,Pt,b,Pt,e];show(if p=true then _ else _)=_;cases p with
 |true=>rw[if_pos rfl,c];exact d
 |false=>rfl
theorem KS(c:p ρ=some a)(d:q ρ=some b):CN p q ρ=some (a||b):=by
 cases a with
 |true=>exact IX c
 |false=>exact u8 c d
theorem Mt(h:p ρ=some true):Iu p f g ρ=f ρ:=by unfold Iu;rw[h];rfl
theorem Me(h:p ρ=some false):Iu p f g ρ=g ρ:=by unfold Iu;rw[h];rfl
theorem J2{ds:List D}(h:f ρ=some (.tup ds)):dw f ρ=some ds:=by unfold dw;rw[h];rfl
theorem f9{ds:List D}(h:f ρ=some (.lst ds)):dw f ρ=some ds:=by unfold dw;rw[h];rfl
theorem L4(v a b:Nat):jk false (nI v) (.tup [nI a,nI b])=some (.bl (decide (v=a)||decide (v=b))):=by
 unfold jk lZ;dsimp only;rw[show cO [nI a,nI b]=0 from j7 [a,b],if_pos (by lia)];show some (D.bl _)=_;congr 2;rw[Sw,Sw,List.any_nil,jp,jp,VZ,Qd];simp only[Ra,lb,PH,if_false];lia
structure Gd(n:Nat)(r x:List Nat):Prop where
 R:Ord n r
 X:Ord n x
 lo:2<=n
 hi:n<=6
def IA(v a b:Nat):Bool:=decide (min a b<v)&&decide (v<max a b)
theorem He(v a b:Nat):gd [nI v,nI a,nI b]=some (.bl (IA v a b)):=by
 apply bj (kd:=.s) (n:=3) (t:=gb);unfold gb;refine a7 (zH (x:=nI (min a b)) (y:=nI v) (z:=nI (max a b)) ?_ rfl ?_ ?_ ?_)
 ·refine(bP (ds:=[nI a,nI b]) rfl).trans ?_
  show some (D.int _)=some (D.int _);congr 2;split<;>lia
 ·show some (D.bl (decide (((min a b:Nat):Int)<v)))=_;congr 2;rw[Qd,lb,lb];lia
 ·refine(bP (ds:=[nI a,nI b]) rfl).trans ?_
  show some (D.int _)=some (D.int _);congr 2;split<;>lia
 ·show some (D.bl (decide ((v:Int)<((max a b:Nat):Int))))=_;congr 2;rw[Qd,lb,lb];lia
def KC(r x:List Nat)(c:Nat):Bool:= !((decide (r.getD c 0=r.getD (c+1) 0)||decide (r.getD c 0=x.getD (c+1) 0))||(decide (x.getD c 0=r.getD (c+1) 0)||decide (x.getD c 0=x.getD (c+1) 0)))&&(IA (r.getD (c+1) 0) (r.getD c 0) (x.getD c 0)==IA (x.getD (c+1) 0) (r.getD c 0) (x.getD c 0))
def Et(r x:List Nat)(c:Int):Bool:=(decide (0<=c)&&decide (c<=(r.length:Int) -2))&&KC r x c.toNat
theorem Hr{r:List D}{ρ ρ1 ρ2:aG}(a:g d ρ=some ρ1)(c:b ρ1=.rt e ρ2):fE g b (d::r) ρ=.rt e ρ2:=by
 show(match g d ρ with
  |none=>Out.no
  |some ρ1=>match b ρ1 with
   | .nx ρ2=>fE g b r ρ2
   | .ct ρ2=>fE g b r ρ2
   | .bk ρ2=>.nx ρ2
   | .rt d ρ2=>.rt d ρ2
   | .no=>.no)=_
 rw[a];dsimp only;rw[c]
set_option maxHeartbeats 1000000
theorem KN {kd:Kd}{n:Nat}{t:FS}{bs ds a:List D}{ρ:aG}(h:t (qM n bs ds)=.rt d ρ)(b:rj ρ=some a):zE kd n t bs ds=some (d,a):=by unfold zE;rw[h];dsimp only;rw[b];rfl
theorem wm {g:FG}{b:FS}{P:Nat->aG->Prop}: ∀(l:List D) (j:Nat),(∀d∈l,∀i ρ,i<j+l.length->P i ρ-> ∃ρ1 ρ2,g d ρ=some ρ1/\b ρ1=.nx ρ2/\P (i+1) ρ2)-> ∀ρ,P j ρ-> ∃ρ',fE g b l ρ=.nx ρ'/\P (j+l.length) ρ'
 | [],j,_,ρ,p=>⟨ρ,rfl,p⟩
 |d::l,j,h,ρ,p=>by
  obtain⟨ρ1,ρ2,f,k,m⟩:=h d (PV ..) j ρ (by rw[P1];lia) p;obtain⟨ρ',e,c⟩:=wm l (j+1) (λd' a i ρ n=>h d' (PK _ a) i ρ (by rw[P1];lia)) ρ2 m;exact⟨ρ',(eN f k).trans e,by rw[P1,Yq l.length 1,<-jaD];exact c⟩
set_option maxHeartbeats 4000000
set_option maxHeartbeats 1000000
theorem AQ {g:FG}{b:FS}{P:Nat->aG->Prop}: ∀(k j:Nat),(∀i ρ,j<=i->i<j+k->P i ρ-> ∃ρ1 ρ2,g (nI i) ρ=some ρ1/\b ρ1=.nx ρ2/\P (i+1) ρ2)-> ∀ρ,P j ρ-> ∃ρ',fE g b ((Tb j k).map nI) ρ=.nx ρ'/\P (j+k) ρ'
 |0,j,_,ρ,p=>⟨ρ,rfl,p⟩
 |k+1,j,h,ρ,p=>by
  obtain⟨ρ1,ρ2,d,f,l⟩:=h j ρ (Px _) (by lia) p;obtain⟨ρ',e,c⟩:=AQ k (j+1) (λi ρ a b=>h i ρ (by lia) (by lia)) ρ2 l;refine⟨ρ',?_,by rw[show j+(k+1)=j+1+k by lia];exact c⟩;rw[Wf,Pu];exact(eN d f).trans e
def iN(acc:List (List Int))(k:List Int):List (List Int):=if k∈acc then lQ acc k else lI acc k
def nR(ks:List (List Int)):List (List Int):=ks.foldl iN []
theorem xU(acc:List (List Int))(k z:List Int):z∈iN acc k↔(if z=k then¬z∈acc else z∈acc):=by
 unfold iN
 by_cases h:k∈acc
 ·rw[if_pos h];unfold lQ;rw[QW,lb]
  by_cases e:z=k
  ·rw[if_pos e];subst e;exact⟨λw=>absurd rfl w.2,λw=>absurd h w⟩
  ·rw[if_neg e];exact⟨λw=>w.1,λw=>⟨w,e⟩⟩
 ·rw[if_neg h];unfold lI;rw[if_neg h,QL,PQ]
  by_cases e:z=k
  ·rw[if_pos e];subst e;exact⟨λ_=>h,λ_=>.inr rfl⟩
  ·rw[if_neg e];exact⟨λw=>w.elim id λq=>absurd q e,.inl⟩
theorem vE {acc:List (List Int)}(b:acc.Nodup)(k:List Int):(iN acc k).Nodup:=by
 unfold iN
 by_cases h:k∈acc
 ·rw[if_pos h];exact Te Xw b
 ·rw[if_neg h];unfold lI;rw[if_neg h,Q6];exact⟨b,by simp,λx c y a e=>by rw[PQ] at a;subst a e;exact h c⟩
theorem Ep(acc:List (List Int))(k:List Int):(iN acc k).length<=acc.length+1:=by
 unfold iN lI lQ;split
 ·exact VO (Q2 _ _)
 ·simp
theorem AE: ∀(ks:List (List Int)) {acc:List (List Int)},acc.Nodup->(ks.foldl iN acc).Nodup
 | [],_,h=>h
 |k::ks,_,h=>AE ks (vE h k)
theorem wX: ∀(ks acc:List (List Int)),(ks.foldl iN acc).length<=acc.length+ks.length
 | [],acc=>by simp
 |k::ks,acc=>by
  rw[TX,P1];have:=wX ks (iN acc k);have:=Ep acc k;lia
theorem v6(z:List Int): ∀(ks acc:List (List Int)),z∈ks.foldl iN acc↔(if z∈acc then(ks.count z) % 2=0 else(ks.count z) % 2=1)
 | [],acc=>by
   rw[List.foldl_nil,List.count_nil];split<;>simp_all
 |k::ks,acc=>by
  rw[TX,v6 z ks (iN acc k),Zi];have h:=xU acc k z
  by_cases e:z=k
  ·rw[if_pos e] at h;have a:(k==z)=true:=by rw[e];exact beq_self_eq_true k
   rw[a,if_pos rfl]
   by_cases c:z∈acc
   ·rw[if_pos c,if_neg (λw=>h.mp w c)];lia
   ·rw[if_neg c,if_pos (h.mpr c)];lia
  ·rw[if_neg e] at h;have a:(k==z)=false:=by rw[beq_eq_false_iff_ne];exact λw=>e w.symm
   rw[a];simp only[PH,if_false,U9]
   by_cases c:z∈acc
   ·rw[if_pos c,if_pos (h.mpr c)]
   ·rw[if_neg c,if_neg (λw=>c (h.mp w))]
theorem pU(ks:List (List Int))(z:List Int):z∈nR ks↔(ks.count z) % 2=1:=by
 have:=v6 z ks [];rw[if_neg (by simp)] at this;exact this
theorem ux(ks:List (List Int)):(nR ks).Nodup:=AE ks Vy
theorem uW(ks:List (List Int)):(nR ks).length<=ks.length:=by
 have:=wX ks [];unfold nR;simpa using this
theorem Fl{z:List Int}(h:z∈nR ks):z∈ks:=by
 have:=(pU ks z).mp h;exact RI.mp (by lia)
def cR(ks:List (List Int)):List (List Int):=bC bx (nR ks)
theorem B7 {ks l:List (List Int)}(a:l.Nodup)(h: ∀z,z∈l↔(ks.count z) % 2=1):bC bx l=cR ks:=
 je ((Qe a (ux ks)).mpr λz=>(h z).trans (pU ks z).symm)
section
variable {n:Nat}{r x:List Nat}(h1:r.length=n)(h2:x.length=n)(h3:2<=n)(h4:n<=6)
include h1 h2 h3 h4
theorem HX(c:Int):ss [cH r x,.int c]=some (.bl (Et r x c)):=by
 apply rK (kd:=.s) (n:=7) (t:=iM);unfold iM Et;have i:cD (gT 2 (cS (gN 2) (cS (gN 3) (gX)))) (pu (ai 0)) (kG 7 [cH r x,.int c])=.nx [.v (cH r x),.v (.int c),.v (ax r),.v (ax x),.no,.no,.no]:=dW (fU rfl) rfl;rw[ay i];have a:g6 (bR (Ff Lg Lg (aC (.int 0)) (ai 1) (av gY (ak c7 (aa (ai 2) (aj))) (aC (.int 2))))) [.v (cH r x),.v (.int c),.v (ax r),.v (ax x),.no,.no,.no]=some (!(decide (0<=c)&&decide (c<=(r.length:Int) -2))):=
  kL (b6 (zH (x:=.int 0) (y:=.int c) (z:=.int ((r.length:Int) -2)) rfl rfl rfl ((aA (iU r _ _ rfl) (y:=.int 2) rfl).trans (jd _ _)) rfl))
 by_cases d:0<=c/\c<=(r.length:Int) -2
 ·have e:(decide (0<=c)&&decide (c<=(r.length:Int) -2))=true:=by rw[Ps,lb,lb];exact d
  rw[e] at a⊢;rw[Qn];rw[ay (iI a)];obtain⟨c,rfl⟩: ∃m:Nat,c=m:=⟨c.toNat,by lia⟩
  rw[Rt];have f: ∀ρ:aG,ai 1 ρ=some (nI c)->av bL (ai 1) (aC (.int 1)) ρ=some (nI (c+1)):=λρ h=>(aA h (y:=.int 1) rfl).trans (C8 c)
  rw[ay (ρ':=[.v (cH r x),.v (.int c),.v (ax r),.v (ax x),.v (.tup [nI (r.getD c 0),nI (x.getD c 0)]),.no,.no]) ((bh (bS (am ((aA (x:=ax r) (y:=nI c) rfl rfl).trans (gj (by lia))) (am ((aA (x:=ax x) (y:=nI c) rfl rfl).trans (gj (by lia))) rfl)) (by simp))).trans rfl)];rw[ay (ρ':=[.v (cH r x),.v (.int c),.v (ax r),.v (ax x),.v (.tup [nI (r.getD c 0),nI (x.getD c 0)]),.v (.tup [nI (r.getD (c+1) 0),nI (x.getD (c+1) 0)]),.no]) ((bh (bS (am ((aA (x:=ax r) rfl (f _ rfl)).trans (gj (by lia))) (am ((aA (x:=ax x) rfl (f _ rfl)).trans (gj (by lia))) rfl)) (by simp))).trans rfl)];have b:CN (bR (av (jk false) (av br (ai 4) (aC (.int 0))) (ai 5))) (bR (av (jk false) (av br (ai 4) (aC (.int 1))) (ai 5))) [.v (cH r x),.v (.int c),.v (ax r),.v (ax x),.v (.tup [nI (r.getD c 0),nI (x.getD c 0)]),.v (.tup [nI (r.getD (c+1) 0),nI (x.getD (c+1) 0)]),.no]=some ((decide (r.getD c 0=r.getD (c+1) 0)||decide (r.getD c 0=x.getD (c+1) 0))||(decide (x.getD c 0=r.getD (c+1) 0)||decide (x.getD c 0=x.getD (c+1) 0))):=
   KS (b6 ((aA (x:=nI (r.getD c 0)) (y:=.tup [nI (r.getD (c+1) 0),nI (x.getD (c+1) 0)]) rfl rfl).trans (L4 _ _ _))) (b6 ((aA (x:=nI (x.getD c 0)) (y:=.tup [nI (r.getD (c+1) 0),nI (x.getD (c+1) 0)]) rfl rfl).trans (L4 _ _ _)))
  unfold KC;revert b;generalize ((decide (r.getD c 0=r.getD (c+1) 0)||decide (r.getD c 0=x.getD (c+1) 0))||(decide (x.getD c 0=r.getD (c+1) 0)||decide (x.getD c 0=x.getD (c+1) 0)))=pb;intro b;cases pb with
  |true=>
   exact⟨_,oF ((gk b).trans rfl)⟩
  |false=>
   rw[ay (iI b)];generalize l:r.getD (c+1) 0=A;generalize k:x.getD (c+1) 0=B;generalize p:r.getD c 0=U;generalize j:x.getD c 0=V;have g:cx 1 (dw (ai 5)) (gN 7) (dJ (ak (nF 3 gd) (aa (ai 7) (aa (av br (ai 4) (aC (.int 0))) (aa (av br (ai 4) (aC (.int 1))) (aj)))))) (ai 7) [.v (cH r x),.v (.int c),.v (ax r),.v (ax x),.v (.tup [nI U,nI V]),.v (.tup [nI A,nI B]),.no]=some (.lst ((([A,B]:List Nat).filter λv=>IA v U V).map nI)):=
    eS (ds:=([A,B]:List Nat).map nI) (J2 rfl) (by simp) (ja (h:=nI) (o:=nI) (q:=λv=>IA v U V) ([A,B]:List Nat) λv _=>⟨_,rfl,gB ((aN (ds:=[nI v,nI U,nI V]) rfl rfl).trans (He v U V)),λ_=>rfl⟩)
   refine⟨_,(ay ((bh g).trans rfl)).trans (a7 ?_)⟩;refine(aA (wu _ _ _ rfl) (y:=.int 1) rfl).trans ?_
   rw[kf (by rw[fP];lia),jx];congr 2;cases e1:IA A U V<;>cases e2:IA B U V<;>simp[jdy,e1,e2]
 ·have e:(decide (0<=c)&&decide (c<=(r.length:Int) -2))=false:=by rw[VS,Ne,Ps,lb,lb];exact d
  rw[e] at a⊢;exact⟨_,oF ((gk a).trans rfl)⟩
end
def C3(n a b:Nat):Nat:=Nat.div (cond (Yv a b) (R3 (Sv (Sv 2 n) b) (Sv (Sv 2 n) a)) (R3 (T5 (R3 (Sv (Sv 2 n) n) (Sv (Sv 2 n) a)) (Sv (Sv 2 n) b)) 1)) (R3 (Sv 2 n) 1)
def Fi(n a b:Nat):Nat:=cond (Yv a b) (R3 (Sv 2 b) (Sv 2 a)) (R3 (T5 (R3 (Sv 2 n) (Sv 2 a)) (Sv 2 b)) 1)
def kc(n:Nat)(s:List Nat)(a b:Nat):Nat:=T6 (C3 n a b) (Fi n (s.getD a 0) (s.getD b 0))
def lE(m i:Nat):Bool:=QE (Wn (Nat.shiftRight m i) 1) 1
def pD(n a m:Nat):Nat->List Nat->Bool
 |_,[]=>true
 |x,y::r=>and (or (QE x a) (not (lE m (T5 (T6 n x) y)))) (pD n a m (So x) r)
def Gm {α:Type}(n:Nat)(f:Nat->α):α:=Nat.rec (f 0) (λk _=>f (So k)) n
def CM {α:Type}:List Nat->(List Nat->α)->α
 | [],f=>f []
 |a::r,f=>Gm a λc=>CM r λb=>f (c::b)
def CL(n:Nat)(s:List Nat):List ((Nat×Nat)×Nat):=(Pi n).flatMap λa=>((Pi n).map λb=>((a,b),kc n s a b)).filter λe=>and (not (QE a e.1.2)) (pD n a e.2 0 s)
def Ar(n a b x:Nat):Bool:=Nat.blt (Nat.mod (R3 (T5 x n) a) n) (Nat.mod (R3 (T5 b n) a) n)
def ON(u v:Bool):Bool:=cond u v (not v)
def Ce(n:Nat):Bool:=(Pi n).all λa=>(Pi n).all λb=>(Pi n).all λp=>(Pi n).all λq=>and (Nat.blt (T6 (C3 n a b) (Fi n p q)) (Sv 2 (T6 n n))) ((Pi n).all λx=>(Pi n).all λy=>ON (lE (T6 (C3 n a b) (Fi n p q)) (T5 (T6 n x) y)) (and (Ar n a b x) (Ar n p q y)))
theorem Oc:Ce 3=true:=by decide+kernel
theorem Nk:Ce 4=true:=by decide+kernel
theorem Np:Ce 5=true:=by decide+kernel
theorem Of:Ce 6=true:=by decide+kernel
theorem JI(b:3<=n)(a:n<=6):Ce n=true:=by
 have:n=3\/n=4\/n=5\/n=6:=by lia
 rcases this with rfl|rfl|rfl|rfl
 ·exact Oc
 ·exact Nk
 ·exact Np
 ·exact Of
theorem mf(h:0<n)(d:a<n)(b x:Nat):Ar n a b x=bv n a b x:=by
 have c: ∀z:Nat,((z:Int) -a) % n=(((z+n-a) % n:Nat):Int):=λz=>by
  rw[R6,show((z+n-a:Nat):Int)=((z:Int) -a)+n by lia,Ua]
 unfold Ar bv;rw[c,c,Qd,lb,Int.ofNat_lt];exact iff_of_eq Nat.blt_eq
theorem ii(m i:Nat):lE m i=m.testBit i:=by
 unfold lE;rw[Nat.testBit_eq_decide_div_mod_eq,Qd,lb,Nat.beq_eq,<-Nat.shiftRight_eq_div_pow,<-Nat.and_one_is_mod];exact Vj
theorem Jw(h:ON u v=true):u=v:=by cases u<;>cases v<;>first|rfl|exact absurd h (by decide)
theorem Jz(o:3<=n)(g:n<=6)(e:a<n)(s:b<n)(d:p<n)(i:q<n):C3 n a b*Fi n p q<2^(n*n)/\ ∀x y,x<n->y<n->(C3 n a b*Fi n p q).testBit (n*x+y)=(bv n a b x&&bv n p q y):=by
 have h:=JI o g;unfold Ce at h;have R: ∀ {z:Nat},z<n->z∈Pi n:=λl=>Pj.mpr l
 have j:=Pw.mp (Pw.mp (Pw.mp (Pw.mp h a (R e)) b (R s)) p (R d)) q (R i);obtain⟨k,f⟩:=(Xh).mp j;refine⟨Nat.blt_eq.mp k,λx y m r=>?_⟩;have c:=Jw (Pw.mp (Pw.mp f x (R m)) y (R r));rw[ii,mf (by lia) e,mf (by lia) d] at c;exact c
theorem HG {α β:Type}{f g:α->List β}{l:List α}(h: ∀a∈l,f a=g a):l.flatMap f=l.flatMap g:=by rw[YR,YR,P2 h]
theorem jr {α:Type}(n:Nat)(f:Nat->α):Gm n f=f n:=by cases n<;>rfl
theorem pV {α:Type}: ∀(l:List Nat) (f:List Nat->α),CM l f=f l
 | [],_=>rfl
 |a::r,f=>by unfold CM;rw[jr,pV r]
theorem tQ {n a m:Nat}: ∀(l:List Nat) (k:Nat),pD n a m k l=true↔ ∀i,i<l.length->k+i≠a->m.testBit (n*(k+i)+l.getD i 0)=false
 | [],k=>by simp[pD]
 |y::r,k=>by
  unfold pD;rw[Xh,tQ r,ii,Bool.or_eq_true_iff,QZ,Nat.beq_eq];constructor
  ·rintro⟨b,f⟩ i c d;cases i with
   |zero=>rcases b with b|b
          ·exact absurd b d
          ·exact b
   |succ i=>
    have:=f i (by simpa using c) (by lia);rw[show k+(i+1)=k.succ+i by lia];simpa using this
  ·intro h;refine⟨?_,λi c d=>?_⟩
   ·by_cases e:k=a
    ·exact .inl e
    ·exact .inr (h 0 (by simp) e)
   ·have:=h (i+1) (by simpa using c) (by lia);rw[show k+(i+1)=k.succ+i by lia] at this;simpa using this
theorem IF{o:List Nat}(f:3<=n)(e:n<=6)(O:Ord n o)(c:a<n)(d:b<n):kc n o a b<2^(n*n)/\ ∀x y,x<n->y<n->(kc n o a b).testBit (n*x+y)=(bv n a b x&&bv n (o.getD a 0) (o.getD b 0) y):=Jz f e c d (O.get c) (O.get d)
theorem Ly(m:3<=n)(k:n<=6)(O:Ord n o)(i:a<n)(j:b<n)(l:a≠b):pD n a (kc n o a b) 0 o=bH o a b:=by
 rw[Qd,tQ,kx O i j l,O.len];have B:=(IF m k O i j).2;constructor
 ·rintro h x c ⟨d,i2,f,p⟩;have:=h x c (by lia);rw[RE,B x _ c (O.get c),d,f] at this;exact absurd this (by decide)
 ·intro h x c g;rw[RE] at g⊢;rw[B x _ c (O.get c)];cases d:bv n a b x with
  |false=>rfl
  |true=>
   cases f:bv n (o.getD a 0) (o.getD b 0) (o.getD x 0) with
   |false=>rfl
   |true=>exact absurd ⟨d,g,f,λe=>g (O.inj c i e)⟩ (h x c)
theorem Ay(g:3<=n)(f:n<=6)(O:Ord n o):CL n o=(sp n (bH o)).map λp=>(p,kc n o p.1 p.2):=by
 unfold CL sp;rw[R7];refine HG λa c=>?_
 have c:=Pj.mp c;rw[Zj,PM];have:(Pi n).filter ((λe:(Nat×Nat)×Nat=>and (not (QE a e.1.2)) (pD n a e.2 0 o))∘λb=>((a,b),kc n o a b))=(Pi n).filter λb=>decide (a≠b)&&bH o a b:=by
  refine List.filter_congr λb d=>?_
  have d:=Pj.mp d;show and (not (QE a b)) (pD n a (kc n o a b) 0 o)=_
  by_cases e:a=b
  ·subst e;simp
  ·have:QE a b=false:=by cases h:QE a b with
    |false=>rfl
    |true=>exact absurd (Tt h) e
   rw[Ly g f O c d e,this];simp[e]
 rw[this];rfl
theorem Ord.exx(O:Ord n o)(c:a<n)(d:b<n):Ord n (bA o a b):=⟨(swap_perm o a b (by rw[O.len];exact c) (by rw[O.len];exact d)).trans O.perm⟩
def pk(n:Nat)(o:List Nat)(p:Nat×Nat)(x y:Nat):Bool:=bv n p.1 p.2 x&&bv n (o.getD p.1 0) (o.getD p.2 0) y
section
variable {n:Nat}{o o':List Nat}{t u:Nat->Nat}
theorem Bf(T:Mv n t)(U:Mv n u)(O:Ord n o)(q:Ord n o')(l: ∀c,c<n->o'.getD (t c) 0=u (o.getD c 0))(g:a<n)(i:b<n)(p:a≠b):bH o' (t a) (t b)=bH o a b:=by
 rw[Qd,kx q (T.lt a g) (T.lt b i) λe=>p (T.inj a b g i e),kx O g i p,l a g,l b i];have j: ∀c,c<n->((bv n (t a) (t b) (t c)=true/\t c≠t a/\bv n (u (o.getD a 0)) (u (o.getD b 0)) (o'.getD (t c) 0)=true/\o'.getD (t c) 0≠u (o.getD a 0))↔(bv n a b c=true/\c≠a/\bv n (o.getD a 0) (o.getD b 0) (o.getD c 0)=true/\o.getD c 0≠o.getD a 0)):=λc f=>by
  rw[T.inb a b c g i f,l c f,U.inb _ _ _ (O.get g) (O.get i) (O.get f)];refine and_congr Vj (and_congr ⟨λh e=>h (e▸rfl),λh e=>h (T.inj _ _ f g e)⟩ (and_congr Vj ⟨λh e=>h (by rw[e]),λh e=>h (U.inj _ _ (O.get f) (O.get g) e)⟩))
 constructor
 ·exact λh c f k=>h (t c) (T.lt c f) ((j c f).mpr k)
 ·intro h c f;obtain⟨d,m,rfl⟩:=T.sur c f;exact λk=>h d m ((j d m).mp k)
theorem MQ(T:Mv n t)(U:Mv n u)(O:Ord n o)(f: ∀c,c<n->o'.getD (t c) 0=u (o.getD c 0))(d:a<n)(e:b<n)(g:x<n)(h:y<n):pk n o' (t a,t b) (t x) (u y)=pk n o (a,b) x y:=by
 unfold pk;rw[T.inb a b x d e g,f a d,f b e,U.inb _ _ y (O.get d) (O.get e) h]
theorem mV:QE a b=decide (a=b):=by
 by_cases h:a=b
 ·subst h;simp
 ·rw[lC h];cases e:QE a b with
  |false=>rfl
  |true=>exact absurd (Tt e) h
end
theorem Cv {n:Nat}{r x o:List Nat}(O:Ord n o)(R:Ord n r)(X:Ord n x):se r x o a b=true↔ ∀c,c<n->pk n o (a,b) c (r.getD c 0)=false/\pk n o (a,b) c (x.getD c 0)=false:=by
 unfold se pk;rw[O.len,QZ,Tz];simp only[iV,Ra,lb,not_or,not_and,Tu];constructor
 ·intro h c f;cases i:bv n a b c with
  |false=>exact⟨.inl rfl,.inl rfl⟩
  |true=>
   obtain⟨e,d⟩:=h c ⟨f,i⟩;exact⟨.inr (VS.mpr (e (R.get f))),.inr (VS.mpr (d (X.get f)))⟩
 ·intro h c f;obtain⟨e,d⟩:=h c f.1;refine⟨λ_=>?_,λ_=>?_⟩
  ·rcases e with e|e
   ·rw[f.2] at e;cases e
   ·rw[e];decide
  ·rcases d with d|d
   ·rw[f.2] at d;cases d
   ·rw[d];decide
def pW:List Nat->Nat
 | []=>1
 |a::r=>T5 (T6 8 (pW r)) a
def xG(n:Nat):Nat:=R3 (Sv 2 (T6 n (R3 n 1))) (Sv 2 n)
abbrev TK:=List Nat->Nat->Nat->Nat->Bool
def HM(n b d c a:Nat):TK:=λ_ _ _ m=>and (not (lE m b)) (and (not (lE m d)) (and (not (lE m (T5 (T6 n (R3 n 1)) c))) (not (lE m (T5 (T6 n (R3 n 1)) a)))))
def dG(n T:Nat):Nat:=Nat.mod (So T) n
def EI(n s e a b:Nat):Bool:=and (not (Ar n s e a)) (not (Ar n s e b))
def HA(n T f d e c:Nat):TK:=λs a b _=>and (or (QE a 0) (QE b 0)) (and (Ar n (s.getD a 0) (s.getD b 0) T) (and (EI n (s.getD a 0) (dG n T) f d) (EI n (dG n T) (s.getD b 0) e c)))
def Lo(n T U d c e f:Nat)(s:List Nat)(a b:Nat):Bool:=and (Ar n (s.getD a 0) (s.getD b 0) U) (and (Ar n (s.getD a 0) U T) (and (EI n (s.getD a 0) (dG n T) d c) (and (EI n (dG n T) (dG n U) e f) (EI n (dG n U) (s.getD b 0) d c))))
def K6(n p q f d e c:Nat):TK:=λs a b _=>or (and (QE a 0) (Lo n p q f d e c s a b)) (and (QE b 0) (Lo n q p e c f d s a b))
def IP(n:Nat)(s:List Nat)(F G:TK):List (Nat×Nat):=((CL n s).filter λe=>F s e.1.1 e.1.2 e.2).flatMap λe=>CM (bA s e.1.1 e.1.2) λs'=>((CL n s').filter λa=>G s' a.1.1 a.1.2 a.2).map λa=>(pW (bA s' a.1.1 a.1.2),Wn (Yx e.2 a.2) (xG n))
def ND(a b:Nat×Nat):Bool:=and (QE a.1 b.1) (QE a.2 b.2)
def K8(e:Nat×Nat):List (Nat×Nat)->Option (List (Nat×Nat))
 | []=>none
 |a::l=>cond (ND a e) (some l) (match K8 e l with|some b=>some (a::b)|none=>none)
def MY(e:Nat×Nat)(l:List (Nat×Nat)):List (Nat×Nat):=match K8 e l with|some a=>a|none=>e::l
def Gc:List (Nat×Nat)->List (Nat×Nat)->List (Nat×Nat)
 | [],acc=>acc
 |e::l,acc=>Gm e.1 λk=>Gm e.2 λm=>Gc l (MY (k,m) acc)
def OG(n x m:Nat):Bool:=(Pi n).all λy=>lE m (T5 (T6 n x) y)
def OI(n y m:Nat):Bool:=(Pi n).all λx=>or (QE x 0) (or (QE (So x) n) (lE m (T5 (T6 n x) y)))
def K4(n m:Nat):Bool:=or ((Pi n).any λx=>and (not (or (QE x 0) (QE (So x) n))) (OG n x m)) ((Pi n).any λy=>OI n y m)
def om(n a q l:Nat)(s:List Nat):List (Nat×Nat):=(pW s,0)::(IP n s (HA n (R3 n 1) a q (R3 n 1) l) (HA n q (R3 n 1) l a q)++(IP n s (K6 n (R3 n 1) q a q (R3 n 1) l) (HM n a q (R3 n 1) l)++IP n s (HM n a q (R3 n 1) l) (K6 n (R3 n 1) q a q (R3 n 1) l)))
def M1(n:Nat):List (Nat×Nat)->List (Nat×Nat)->Nat->Bool
 | [],acc,k=>and (Yv k 63) (acc.all λe=>K4 n e.2)
 |e::l,acc,k=>Gm e.1 λc=>Gm e.2 λm=>M1 n l (MY (c,m) acc) (So k)
def oe(n:Nat)(L:List (Nat×Nat)):Bool:=M1 n L [] 0
def kN(n:Nat)(P:List Nat->Bool):Nat->List Nat->Bool
 |0,s=>CM s P
 |k+1,s=>(Pi n).all λh=>or (decide (h∈s)) (kN n P k (s++[h]))
theorem LZ:kN 4 (λs=>oe 4 (om 4 0 1 2 s)) 4 []=true:=by decide+kernel
theorem wJ:kN 5 (λs=>oe 5 (om 5 0 1 2 s)) 4 [0]=true:=by decide+kernel
theorem wZ:kN 5 (λs=>oe 5 (om 5 0 1 2 s)) 4 [1]=true:=by decide+kernel
theorem yc:kN 5 (λs=>oe 5 (om 5 0 1 2 s)) 4 [2]=true:=by decide+kernel
theorem wQ:kN 5 (λs=>oe 5 (om 5 0 1 2 s)) 4 [3]=true:=by decide+kernel
theorem xc:kN 5 (λs=>oe 5 (om 5 0 1 2 s)) 4 [4]=true:=by decide+kernel
theorem xy:kN 5 (λs=>oe 5 (om 5 0 1 3 s)) 4 [0]=true:=by decide+kernel
theorem wE:kN 5 (λs=>oe 5 (om 5 0 1 3 s)) 4 [1]=true:=by decide+kernel
theorem v9:kN 5 (λs=>oe 5 (om 5 0 1 3 s)) 4 [2]=true:=by decide+kernel
theorem wV:kN 5 (λs=>oe 5 (om 5 0 1 3 s)) 4 [3]=true:=by decide+kernel
theorem x6:kN 5 (λs=>oe 5 (om 5 0 1 3 s)) 4 [4]=true:=by decide+kernel
theorem xw:kN 5 (λs=>oe 5 (om 5 0 2 3 s)) 4 [0]=true:=by decide+kernel
theorem xV:kN 5 (λs=>oe 5 (om 5 0 2 3 s)) 4 [1]=true:=by decide+kernel
theorem xF:kN 5 (λs=>oe 5 (om 5 0 2 3 s)) 4 [2]=true:=by decide+kernel
theorem wb:kN 5 (λs=>oe 5 (om 5 0 2 3 s)) 4 [3]=true:=by decide+kernel
theorem wS:kN 5 (λs=>oe 5 (om 5 0 2 3 s)) 4 [4]=true:=by decide+kernel
theorem x8:kN 5 (λs=>oe 5 (om 5 1 2 3 s)) 4 [0]=true:=by decide+kernel
theorem wG:kN 5 (λs=>oe 5 (om 5 1 2 3 s)) 4 [1]=true:=by decide+kernel
theorem wy:kN 5 (λs=>oe 5 (om 5 1 2 3 s)) 4 [2]=true:=by decide+kernel
theorem wx:kN 5 (λs=>oe 5 (om 5 1 2 3 s)) 4 [3]=true:=by decide+kernel
theorem wW:kN 5 (λs=>oe 5 (om 5 1 2 3 s)) 4 [4]=true:=by decide+kernel
theorem nU(h: ∀x,x<n->x∉s->kN n P k (s++[x])=true):kN n P (k+1) s=true:=by
 unfold kN;refine Pw.mpr λx a=>?_
 by_cases e:x∈s
 ·rw[lm e];rfl
 ·rw[h x (Pj.mp a) e];exact Bool.or_true _
theorem AT {p:Nat->Prop}(b:p 0)(c:p 1)(d:p 2)(f:p 3)(a:p 4)(x:Nat)(g:x<5):p x:=by
 have e:x=0\/x=1\/x=2\/x=3\/x=4:=by lia
 rcases e with rfl|rfl|rfl|rfl|rfl
 ·exact b
 ·exact c
 ·exact d
 ·exact f
 ·exact a
theorem uR{P:List Nat->Bool}: ∀(k:Nat) (s u:List Nat),kN n P k s=true->u.length=k->(s++u).Nodup->(∀v∈s++u,v<n)->P (s++u)=true
 |0,s,u,h,a,_,_=>by
  have:u=[]:=Wj.mp a;subst this;unfold kN at h;rw[pV] at h;rw[QX];exact h
 |k+1,s,[],h,a,_,_=>by cases a
 |k+1,s,v::u,h,a,b,lt=>by
  unfold kN at h;have hv:=lt v (by simp);have:=Pw.mp h v (Pj.mpr hv);have c:v∉s:=λw=>by
   rw[Q6] at b;exact b.2.2 v w v PV rfl
  rw[lC c,RS] at this;have r:=uR k (s++[v]) u this (by simpa using a) (by simpa using b) (by simpa using lt);simpa using r
theorem O7(c:4<=n)(d:n<=5)(f:r1<q)(g:q<l)(h:l+1<n)(O:Ord n s):oe n (om n r1 q l s)=true:=by
 refine uR (P:=λs=>oe n (om n r1 q l s)) n [] s ?_ O.len (by rw[Y8];exact O.perm.nodup_iff.mpr Qf) (λv hv=>O.lt hv);have b:n=4\/n=5:=by lia
 rcases b with rfl|rfl
 ·obtain⟨rfl,rfl,rfl⟩:r1=0/\q=1/\l=2:=by lia
  exact LZ
 ·have e:(r1=0/\q=1/\l=2)\/(r1=0/\q=1/\l=3)\/(r1=0/\q=2/\l=3)\/(r1=1/\q=2/\l=3):=by lia
  rcases e with⟨rfl,rfl,rfl⟩|⟨rfl,rfl,rfl⟩|⟨rfl,rfl,rfl⟩|⟨rfl,rfl,rfl⟩
  ·exact nU λx a _=>AT (p:=λx=>kN 5 (λs=>oe 5 (om 5 0 1 2 s)) 4 [x]=true) wJ wZ yc wQ xc x a
  ·exact nU λx a _=>AT (p:=λx=>kN 5 (λs=>oe 5 (om 5 0 1 3 s)) 4 [x]=true) xy wE v9 wV x6 x a
  ·exact nU λx a _=>AT (p:=λx=>kN 5 (λs=>oe 5 (om 5 0 2 3 s)) 4 [x]=true) xw xV xF wb wS x a
  ·exact nU λx a _=>AT (p:=λx=>kN 5 (λs=>oe 5 (om 5 1 2 3 s)) 4 [x]=true) x8 wG wy wx wW x a
theorem G0(f:List Int->Nat){acc:List (List Int)}(b:acc.Nodup)(h:k∈acc):((lQ acc k).map f).sum+f k=(acc.map f).sum:=by
 unfold lQ
 induction acc with
 |nil=>cases h
 |cons a l d=>
  rw[RD] at b
  by_cases e:a=k
  ·subst e;have:l.filter (λz=>decide (z≠a))=l:=QN.mpr λz c=>lm λw=>b.1 (w▸c)
   rw[S9 (by simp),this,Pu,Qb];lia
  ·have g:k∈l:=(PX.mp h).resolve_left λw=>e w.symm
   rw[Ta (by simpa using e),Pu,Qb,Pu,Qb];have:=d b.2 g;lia
theorem Eg(f:List Int->Nat){acc:List (List Int)}(a:acc.Nodup)(k:List Int):((iN acc k).map f).sum % 2=((acc.map f).sum+f k) % 2:=by
 unfold iN
 by_cases h:k∈acc
 ·rw[if_pos h];have:=G0 f a h;lia
 ·rw[if_neg h];unfold lI;rw[if_neg h,Qm,U3];simp
theorem xL(f:List Int->Nat): ∀(ks:List (List Int)) {acc:List (List Int)},acc.Nodup->((ks.foldl iN acc).map f).sum % 2=((acc.map f).sum+(ks.map f).sum) % 2
 | [],acc,_=>by simp
 |k::ks,acc,a=>by
  rw[TX,xL f ks (vE a k),Pu,Qb];have:=Eg f a k;lia
theorem Il(f:List Int->Nat)(ks:List (List Int)):((nR ks).map f).sum % 2=((ks.map f).sum) % 2:=by
 have:=xL f ks Vy;unfold nR;simpa using this
theorem iW {l m:List Nat}(p:l.Perm m):l.sum=m.sum:=by
 induction p with
 |nil=>rfl
 |cons x _ c=>rw[Qb,Qb,c]
 |swap x y l=>simp only[Qb];lia
 |trans _ _ a b=>rw[a,b]
theorem Hx(f:List Int->Nat)(ks:List (List Int)):((cR ks).map f).sum % 2=((ks.map f).sum) % 2:=by
 unfold cR;rw[iW ((aM (lt:=bx) (nR ks)).map f),Il]
theorem fF {α:Type}(z:List Int)(g:α->List (List Int)): ∀l:List α,(l.flatMap g).count z=(l.map λy=>(g y).count z).sum
 | []=>rfl
 |a::l=>by rw[Qj,List.count_append,fF z g l,Pu,Qb]
def zs(l:List Nat):List Int:=l.map Xm
def uz(k:List Int):List Nat:=k.map Wo
theorem eH(l:List Nat):uz (zs l)=l:=by
 unfold uz zs;rw[PM];exact(P2 λa _=>rfl).trans (VT l)
theorem Fp(h:zs a=zs b):a=b:=by rw[<-eH a,h,eH]
def eI(n:Nat)(r x:List Nat)(k:List Int):List (List Int):=(sp n (b8 r x (uz k))).map λp=>zs (bA (uz k) p.1 p.2)
def bK(n:Nat)(r x:List Nat)(K:List (List Int)):List (List Int):=K.flatMap (eI n r x)
def HY(n:Nat)(r x:List Nat)(K:List (List Int)):List (List Int):=cR (bK n r x K)
def iO(n:Nat)(K:List (List Int)):Prop:= ∀k∈K,∃o,Ord n o/\k=zs o
theorem JG(O:Ord n o):iO n (eI n r x (zs o)):=λk a=>by
 unfold eI at a;rw[eH] at a;obtain⟨p,d,rfl⟩:=PU.mp a;obtain⟨b,c,_⟩:=iT.mp d;exact⟨_,O.exx b c,rfl⟩
theorem DD{K:List (List Int)}(h:iO n K):iO n (bK n r x K):=λk a=>by
 obtain⟨y,b,a⟩:=Rf.mp a;obtain⟨o,O,rfl⟩:=h y b;exact JG O k a
theorem db {ks:List (List Int)}:z∈cR ks↔ks.count z % 2=1:=by
 unfold cR;rw[(aM (lt:=bx) (nR ks)).mem_iff,pU]
theorem iS(ks:List (List Int)):(cR ks).Nodup:=by
 unfold cR;rw[(aM (lt:=bx) (nR ks)).nodup_iff];exact ux ks
theorem uI{K:List (List Int)}(h:iO n K):iO n (HY n r x K):=λk b=>by
 have c:(bK n r x K).count k % 2=1:=db.mp b;have a:0<(bK n r x K).count k:=by lia
 exact DD h k (RI.mp a)
def s2(n:Nat)(f:Nat->Nat->Nat):Nat:=((Pi n).map λa=>((Pi n).map λb=>f a b).sum).sum
theorem tR(h: ∀a b,a<n->b<n->f a b=g a b):s2 n f=s2 n g:=by
 unfold s2;congr 1;refine P2 λa c=>?_
 congr 1;exact P2 λb d=>h a b (Pj.mp c) (Pj.mp d)
theorem Mv.perm(T:Mv n t):((Pi n).map t).Perm (Pi n):=by
 refine(Qe ?_ Qf).mpr λv=>?_
 ·rw[Rw,QI];exact QO (λ{a b} c i (g:a≠b) e=>g (T.inj a b (Pj.mp c) (Pj.mp i) e)) Qf
 ·rw[PU,Pj];constructor
  ·rintro⟨a,c,rfl⟩;exact T.lt a (Pj.mp c)
  ·intro h;obtain⟨d,f,e⟩:=T.sur v h;exact⟨d,Pj.mpr f,e⟩
theorem ID(T:Mv n t)(f:Nat->Nat):((Pi n).map λa=>f (t a)).sum=((Pi n).map f).sum:=by
 have:=iW (T.perm.map f);rw[PM] at this;exact this
theorem D7(T:Mv n t)(f:Nat->Nat->Nat):s2 n (λa b=>f (t a) (t b))=s2 n f:=by
 unfold s2;rw[<-ID T λa=>((Pi n).map λb=>f a b).sum];congr 1;exact P2 λa _=>ID T (f (t a))
theorem ko {α β:Type}(w:β->Nat)(g:α->List β): ∀l:List α,((l.flatMap g).map w).sum=(l.map λa=>((g a).map w).sum).sum
 | []=>rfl
 |a::l=>by rw[Qj,Qm,U3,ko w g l,Pu,Qb]
theorem jB {α:Type}(p:α->Bool)(w:α->Nat): ∀l:List α,((l.filter p).map w).sum=(l.map λa=>if p a=true then w a else 0).sum
 | []=>rfl
 |a::l=>by
  rw[Pu,Qb,<-jB p w l,UF];split
  ·rw[Pu,Qb]
  ·rw[RE]
theorem qS(P:Nat->Nat->Bool)(w:Nat×Nat->Nat):((sp n P).map w).sum=s2 n λa b=>if(decide (a≠b)&&P a b)=true then w (a,b) else 0:=by
 unfold sp s2;rw[ko];congr 1;refine P2 λa _=>?_
 rw[PM,jB];rfl
theorem va {α:Type}(f:α->List Int)(z:List Int): ∀l:List α,(l.map f).count z=(l.map λa=>if f a=z then 1 else 0).sum
 | []=>rfl
 |a::l=>by
  rw[Pu,Zi,va f z l,Pu,Qb,Yq];congr 1
  by_cases e:f a=z
  ·rw[if_pos e,e];simp
  ·rw[if_neg e];simp[e]
theorem AF(w:Nat×Nat->Nat)(e:Nat×Nat): ∀(l b:List (Nat×Nat)),K8 e l=some b->(l.map w).sum=w e+(b.map w).sum
 | [],_,h=>by cases h
 |a::l,b,h=>by
  unfold K8 at h;cases q:ND a e with
  |true=>
   rw[q] at h;cases h;unfold ND at q;have q:(QE a.1 e.1&&QE a.2 e.2)=true:=q;rw[Ps] at q;have:a=e:=Prod.ext (Tt q.1) (Tt q.2);rw[this,Pu,Qb]
  |false=>
   rw[q] at h;cases m:K8 e l with
   |none=>rw[m] at h;cases h
   |some u=>
    rw[m] at h;cases h;rw[Pu,Qb,Pu,Qb,AF w e l u m];lia
theorem GZ(w:Nat×Nat->Nat)(e:Nat×Nat)(l:List (Nat×Nat)):((MY e l).map w).sum % 2=(w e+(l.map w).sum) % 2:=by
 unfold MY;cases m:K8 e l with
 |none=>rw[Pu,Qb]
 |some u=>
  have:=AF w e l u m;show(u.map w).sum % 2=_;lia
theorem As(w:Nat×Nat->Nat): ∀l acc:List (Nat×Nat),((Gc l acc).map w).sum % 2=((l.map w).sum+(acc.map w).sum) % 2
 | [],acc=>by simp[Gc]
 |e::l,acc=>by
  unfold Gc;rw[jr,jr,As w l,Pu,Qb];have:=GZ w (e.1,e.2) acc;have a:(e.1,e.2)=e:=rfl;rw[a] at this⊢;lia
theorem CW(n:Nat): ∀(L acc:List (Nat×Nat)) (k:Nat),M1 n L acc k=true->k+L.length<=63/\(Gc L acc).all (λe=>K4 n e.2)=true
 | [],acc,k,h=>by
   have h:(Yv k 63&&acc.all λe=>K4 n e.2)=true:=h;rw[Ps] at h;exact⟨Pv h.1,h.2⟩
 |e::l,acc,k,h=>by
  unfold M1 at h;rw[jr,jr] at h;have:=CW n l _ _ h;unfold Gc;rw[jr,jr,P1];exact⟨by have:=this.1;lia,this.2⟩
theorem GV{L:List (Nat×Nat)}(h:oe n L=true)(hw: ∀e,K4 n e.2=true->w e=0):(L.map w).sum % 2=0:=by
 have a:=As w L [];have h:=(CW n L [] 0 h).2;have b:((Gc L []).map w).sum=0:=by
  have:(Gc L []).map w=(Gc L []).map λ_=>0:=P2 λe c=>hw e (Pw.mp h e c)
  rw[this];generalize Gc L []=M
  induction M with
  |nil=>rfl
  |cons x M d=>rw[Pu,Qb,d]
 rw[b] at a;simpa using a.symm
theorem ve: ∀l,0<pW l
 | []=>Nat.one_pos
 |a::l=>by
  have:=ve l;show 0<8*pW l+a;lia
theorem vN: ∀ {l m:List Nat},(∀v∈l,v<8)->(∀v∈m,v<8)->pW l=pW m->l=m
 | [],[],_,_,_=>rfl
 | [],b::m,_,_,e=>by
   have:=ve m;have e:1=8*pW m+b:=e;lia
 |a::l,[],_,_,e=>by
  have:=ve l;have e:8*pW l+a=1:=e;lia
 |a::l,b::m,c,d,e=>by
  have e:8*pW l+a=8*pW m+b:=e;have h:=c a PV;have i:=d b PV;have g:a=b:=by lia
  have f:pW l=pW m:=by lia
  rw[g,vN (λv hv=>c v (PK _ hv)) (λv hv=>d v (PK _ hv)) f]
theorem HB(i:3<=n)(h:n<=6)(O:Ord n s)(F G:TK)(w:Nat×Nat->Nat):((IP n s F G).map w).sum=s2 n λa b=>if(decide (a≠b)&&(bH s a b&&F s a b (kc n s a b)))=true then
 (s2 n λc d=>if(decide (c≠d)&&(bH (bA s a b) c d&&G (bA s a b) c d (kc n (bA s a b) c d)))=true then w (pW (bA (bA s a b) c d),(kc n s a b|||kc n (bA s a b) c d)&&& xG n) else 0) else 0:=by
 have f: ∀ {s:List Nat},Ord n s-> ∀(F:TK) (g:(Nat×Nat)×Nat->Nat),(((CL n s).filter λe=>F s e.1.1 e.1.2 e.2).map g).sum=s2 n λa b=>if(decide (a≠b)&&(bH s a b&&F s a b (kc n s a b)))=true then g ((a,b),kc n s a b) else 0:=λ{s} O F g=>by
  rw[Ay i h O,jB,PM,qS];refine tR λa b _ _=>?_
  show(if(decide (a≠b)&&bH s a b)=true then(if F s a b (kc n s a b)=true then g ((a,b),kc n s a b) else 0) else 0)=_;cases decide (a≠b)<;>cases bH s a b<;>cases F s a b (kc n s a b)<;>rfl
 unfold IP;rw[ko,f O F];refine tR λa b j k=>?_
 congr 1;rw[pV,PM];exact f (O.exx j k) G _
def aE(n c:Nat):Nat->Nat:=Ge n (-((c:Int)+1))
def rl(c p:Nat)(o:List Nat):List Nat:=yR (zX o (-((c:Int)+1))) (-((p:Int)+1))
theorem AZ {n k:Nat}(h:0<n):aE n k (dG n k)=0:=by
 show(((((So k) % n:Nat):Int)+ -((k:Int)+1)) % n).toNat=0;rw[R6,Uy,show((So k:Nat):Int)+ -((k:Int)+1)=0 by lia];rfl
theorem FD(h:0<n):aE n k (dG n v)=dG n (aE n k v):=by
 have a:((aE n k v:Nat):Int)=((v:Int)+ -((k:Int)+1)) % n:=(pS _ h).2;have e:((aE n k (dG n v):Nat):Int)=((dG n (aE n k v):Nat):Int):=by
  rw[show((aE n k (dG n v):Nat):Int)=(((dG n v:Nat):Int)+ -((k:Int)+1)) % n from(pS _ h).2];show((((So v) % n:Nat):Int)+ -((k:Int)+1)) % n=(((So (aE n k v)) % n:Nat):Int);rw[R6,Uy,R6,show((So (aE n k v):Nat):Int)=((aE n k v:Nat):Int)+1 by lia,a,Uy];congr 1;lia
 lia
theorem gp {n k:Nat}(h:k<n):aE n k k=n-1:=by
 have e:((k:Int)+ -((k:Int)+1)) % n=(n:Int) -1:=by
  rw[show(k:Int)+ -((k:Int)+1)= -1 by lia,<-Ua];exact Q0 (by lia) (by lia)
 show(((k:Int)+ -((k:Int)+1)) % n).toNat=_;rw[e];lia
theorem g9 {n:Nat}(h:0<n)(k:Nat):Mv n (aE n k):=qP h _
section
variable {n c p:Nat}{r x o:List Nat}
theorem fz(h:0<n)(b:o.length=n)(a:k<n):(rl c p o).getD (aE n c k) 0=aE n p (o.getD k 0):=by
 have T:=qP h (-((c:Int)+1));show(yR (zX o _) _).getD (Ge n _ k) 0=_;rw[Kb (n:=n) (by rw[wD,b]) _ (T.lt k a),J5 b h _ a];rfl
theorem yK(a:o.length=n):(rl c p o).length=n:=by unfold rl;rw[E9,wD,a]
theorem ge(h:0<n)(O:Ord n o):Ord n (rl c p o):=O.mv (qP h _) (qP h _) (yK O.len) λk a=>fz h O.len a
theorem FC(h:0<n)(O:Ord n o)(e:a<n)(f:b<n):rl c p (bA o a b)=bA (rl c p o) (aE n c a) (aE n c b):=by
 have E:=O.exx e f;exact Lv (u:=aE n p) O.len (qP h _) (yK O.len) (yK E.len) e f (λk d=>fz h O.len d) λk d=>fz h E.len d
theorem zR(h:0<n)(O:Ord n o)(d:Ord n o')(e:rl c p o=rl c p o'):o=o':=by
 refine rC (by rw[O.len,d.len]) λk b=>?_
 rw[O.len] at b;have a:=fz (c:=c) (p:=p) h O.len b;rw[e,fz h d.len b] at a;exact((qP h _).inj _ _ (d.get b) (O.get b) a).symm
def pO(n c p:Nat)(r x:List Nat)(m:Nat):Bool:=(Pi n).all λk=>(decide (k=c)||decide (k=c+1))||(!m.testBit (n*aE n c k+aE n p (r.getD k 0))&& !m.testBit (n*aE n c k+aE n p (x.getD k 0)))
theorem eT {m:Nat}:pO n c p r x m=true↔ ∀k,k<n->k≠c->k≠c+1->m.testBit (n*aE n c k+aE n p (r.getD k 0))=false/\m.testBit (n*aE n c k+aE n p (x.getD k 0))=false:=by
 unfold pO;rw[Pw];constructor
 ·intro h k d a b;have:=h k (Pj.mpr d);rw[lC a,lC b] at this;simpa using this
 ·intro h k d
  by_cases a:k=c
  ·simp[a]
  ·by_cases b:k=c+1
   ·simp[b]
   ·have:=h k (Pj.mp d) a b;rw[this.1,this.2];simp
theorem GJ: ∀n,n<=5->4<=n-> ∀a,a<n-> ∀y,y<n->(xG n).testBit (n*a+y)=(decide (a≠0)&&decide (a+1≠n)):=by decide+kernel
theorem BC(b:c+1<n)(a:k<n)(d:k≠c)(f:k≠c+1):aE n c k<n/\aE n c k≠0/\aE n c k+1≠n:=by
 have h:0<n:=by lia
 have T:=qP h (-((c:Int)+1));have g:aE n c (c+1)=0:=by
  have:=AZ (k:=c) h;rwa [show dG n c=c+1 from R8 b] at this
 have i:=gp (n:=n) (k:=c) (by lia);have lt:=T.lt k a;refine⟨lt,λe=>f (T.inj _ _ a b (e.trans g.symm)),λe=>d (T.inj _ _ a (by lia) ?_)⟩;show aE n c k=aE n c c;rw[i];lia
theorem yE(j:4<=n)(t:n<=5)(s:c+1<n)(R:Ord n r)(X:Ord n x)(m f:Nat):pO n c p r x ((m|||f)&&& xG n)=(pO n c p r x m&&pO n c p r x f):=by
 have h:0<n:=by lia
 have U:=g9 h p;rw[Qd,Ps,eT,eT,eT];have e: ∀k y,k<n->k≠c->k≠c+1->y<n->(((m|||f)&&& xG n).testBit (n*aE n c k+aE n p y)=false↔m.testBit (n*aE n c k+aE n p y)=false/\f.testBit (n*aE n c k+aE n p y)=false):=λk y a b d v=>by
  obtain⟨o,u,l⟩:=BC s a b d;rw[Zk,Z8,GJ n t j _ o _ (U.lt y v),lm u,lm l];simp
 constructor
 ·intro q;refine⟨λk a b d=>?_,λk a b d=>?_⟩
  ·have:=q k a b d;rw[e k _ a b d (R.get a),e k _ a b d (X.get a)] at this;exact⟨this.1.1,this.2.1⟩
  ·have:=q k a b d;rw[e k _ a b d (R.get a),e k _ a b d (X.get a)] at this;exact⟨this.1.2,this.2.2⟩
 ·rintro⟨i,g⟩ k a b d;rw[e k _ a b d (R.get a),e k _ a b d (X.get a)];exact⟨⟨(i k a b d).1,(g k a b d).1⟩,(i k a b d).2,(g k a b d).2⟩
theorem xK:pO n c p r x 0=true:=eT.mpr λk _ _ _=>⟨Wp _,Wp _⟩
def HF(n c p:Nat)(r x:List Nat)(F:List Nat->Nat->Nat->Bool)(d:TK):Prop:= ∀o,Ord n o-> ∀a b,a<n->b<n->a≠b->
 F o a b=(bH o a b&&(d (rl c p o) (aE n c a) (aE n c b) (kc n (rl c p o) (aE n c a) (aE n c b))&&pO n c p r x (kc n (rl c p o) (aE n c a) (aE n c b))))
def two(n:Nat)(F G:List Nat->Nat->Nat->Bool)(o:List Nat):List (List Int):=(sp n (F o)).flatMap λp=>(sp n (G (bA o p.1 p.2))).map λq=>zs (bA (bA o p.1 p.2) q.1 q.2)
def wz(n c p:Nat)(r x z:List Nat)(e:Nat×Nat):Nat:=if e.1=pW (rl c p z)/\pO n c p r x e.2=true then 1 else 0
theorem Hj {n:Nat}{o:List Nat}(O:Ord n o)(a:n<=8): ∀v∈o,v<8:=λv hv=>PF (O.lt hv) a
theorem Bc(C:4<=n)(H:n<=5)(D:c+1<n)(R:Ord n r)(X:Ord n x)(J:HF n c p r x F F')(U:HF n c p r x G G')(O:Ord n o){u:List Int->Nat}{w:Nat×Nat->Nat}(hw: ∀z,Ord n z-> ∀m,w (pW (rl c p z),m)=if pO n c p r x m=true then u (zs z) else 0):
 ((two n F G o).map u).sum=((IP n (rl c p o) F' G').map w).sum:=by
 have h:0<n:=by lia
 have T:=g9 h c;have M:=ge (c:=c) (p:=p) h O;unfold two;rw[ko,qS,HB (by lia) (by lia) M];refine Yy ?_ (D7 T _)
 refine tR λa b q i=>?_
 by_cases f:a=b
 ·rw[lC (show¬a≠b from λw=>w f),lC (show¬aE n c a≠aE n c b from λw=>w (by rw[f])),Rv,Rv];rfl
 have B:aE n c a≠aE n c b:=λe=>f (T.inj a b q i e)
 have I: ∀ {o:List Nat},Ord n o-> ∀a b,a<n->b<n->a≠b->bH (rl c p o) (aE n c a) (aE n c b)=bH o a b:=λO a b q i f=>Bf (u:=aE n p) T (g9 h p) O (ge h O) (λk N=>fz h O.len N) q i f
 rw[lm f,lm B,Qn,Qn,J o O a b q i f];show _=if(bH (rl c p o) (aE n c a) (aE n c b)&&F' (rl c p o) (aE n c a) (aE n c b) (kc n (rl c p o) (aE n c a) (aE n c b)))=true then _ else 0
 rw[I O a b q i f];have E:=O.exx q i;have Q:bA (rl c p o) (aE n c a) (aE n c b)=rl c p (bA o a b):=(FC h O q i).symm;rw[Q];cases bH o a b with
 |false=>rfl
 |true=>
  rw[Qn,Qn];cases F' (rl c p o) (aE n c a) (aE n c b) (kc n (rl c p o) (aE n c a) (aE n c b)) with
  |false=>rfl
  |true=>
   rw[Qn,if_pos (rfl:true=true),PM,qS]
   by_cases y:pO n c p r x (kc n (rl c p o) (aE n c a) (aE n c b))=true
   ·rw[if_pos y];refine Yy ?_ (D7 T _)
    refine tR λd e g j=>?_
    by_cases s:d=e
    ·rw[lC (show¬d≠e from λw=>w s),lC (show¬aE n c d≠aE n c e from λw=>w (by rw[s])),Rv,Rv];rfl
    have A:aE n c d≠aE n c e:=λw=>s (T.inj d e g j w)
    rw[lm s,lm A,Qn,Qn,U _ E d e g j s];show _=if(bH (rl c p (bA o a b)) (aE n c d) (aE n c e)&&G' (rl c p (bA o a b)) (aE n c d) (aE n c e) (kc n (rl c p (bA o a b)) (aE n c d) (aE n c e)))=true then w (pW (bA (rl c p (bA o a b)) (aE n c d) (aE n c e)),(kc n (rl c p o) (aE n c a) (aE n c b)|||kc n (rl c p (bA o a b)) (aE n c d) (aE n c e))&&& xG n) else 0
    rw[I E d e g j s,<-FC h E g j];rw[hw _ (E.exx g j),yE C H D R X,y,Qn];show(if _ then u (zs (bA (bA o a b) d e)) else 0)=_;cases bH (bA o a b) d e<;>cases G' (rl c p (bA o a b)) (aE n c d) (aE n c e) (kc n (rl c p (bA o a b)) (aE n c d) (aE n c e))<;>cases pO n c p r x (kc n (rl c p (bA o a b)) (aE n c d) (aE n c e))<;>rfl
   ·have S:pO n c p r x (kc n (rl c p o) (aE n c a) (aE n c b))=false:=by simpa using y
    rw[if_neg y];symm;have K:s2 n (λ_ _=>0)=0:=by
     have P: ∀l:List Nat,(l.map λ_=>0).sum=0:=λl=>by
      induction l with
      |nil=>rfl
      |cons a l L=>rw[Pu,Qb,L]
     unfold s2;simp only[P]
    refine Yy ?_ K;refine tR λd e g j=>?_
    obtain⟨d',v,rfl⟩:=T.sur d g;obtain⟨V,t,rfl⟩:=T.sur e j;split
    ·rw[<-FC h E v t,hw _ (E.exx v t),yE C H D R X,S];rfl
    ·rfl
theorem vj(e:4<=n)(d:n<=5)(g:c+1<n)(R:Ord n r)(X:Ord n x)(f:HF n c p r x F F')(i:HF n c p r x G G')(O:Ord n o)(Z:Ord n z):
 (two n F G o).count (zs z)=((IP n (rl c p o) F' G').map (wz n c p r x z)).sum:=by
 have h:0<n:=by lia
 have:=Bc e d g R X f i O (u:=λy=>if y=zs z then 1 else 0) (w:=wz n c p r x z) λy Y m=>by
  unfold wz;have b:pW (rl c p y)=pW (rl c p z)↔zs y=zs z:=
   ⟨λw=>by rw[zR h Y Z (vN (Hj (ge h Y) (by lia)) (Hj (ge h Z) (by lia)) w)],λw=>by rw[Fp w]⟩
  by_cases q:zs y=zs z
  ·have a:=b.mpr q;cases pO n c p r x m<;>simp[q,a]
  ·have a: ¬pW (rl c p y)=pW (rl c p z):=λw=>q (b.mp w)
   cases pO n c p r x m<;>simp[q,a]
 rw[<-this,<-va,List.map_id']
end
def Pr(a b y z:Nat):Prop:=(a=y/\b=z)\/(a=z/\b=y)
theorem Pr.all {a b y z:Nat}(h:Pr a b y z){P:Nat->Prop}:(P a/\P b)↔(P y/\P z):=by
 rcases h with⟨rfl,rfl⟩|⟨rfl,rfl⟩
 ·exact Vj
 ·exact and_comm
theorem Pr.sw(h:Pr a b y z):Pr b a y z:=h.elim (λ⟨p,q⟩=>.inr ⟨q,p⟩) λ⟨p,q⟩=>.inl ⟨q,p⟩
section
variable {n c p:Nat}{r x o:List Nat}
theorem Dy(a:c+1<n):aE n c (c+1)=0:=by
 have:=AZ (k:=c) (n:=n) (by lia);rwa [show dG n c=c+1 from R8 a] at this
theorem yO(l:4<=n)(j:n<=5)(O:Ord n o){a b k y:Nat}(f:a<n)(g:b<n)(d:k<n)(e:y<n):(kc n (rl c p o) (aE n c a) (aE n c b)).testBit (n*aE n c k+aE n p y)=pk n o (a,b) k y:=by
 have h:0<n:=by lia
 have T:=g9 h c;have U:=g9 h p;have i:=ge (c:=c) (p:=p) h O;rw[(IF (by lia) (by lia) i (T.lt a f) (T.lt b g)).2 _ _ (T.lt k d) (U.lt y e)];exact MQ (u:=aE n p) T U O (λk d=>fz h O.len d) f g d e
theorem MD(h4:4<=n)(h5:n<=5)(hc:c+1<n)(R:Ord n r)(X:Ord n x)(h1:r.getD c 0≠x.getD c 0)(h2:r.getD c 0≠x.getD (c+1) 0)(h3:r.getD (c+1) 0≠x.getD c 0)(h6:r.getD (c+1) 0≠x.getD (c+1) 0){m:Nat}(h:K4 n m=true):pO n c p r x m=false:=by
 have h0:0<n:=by lia
 have T:=g9 h0 c;have U:=g9 h0 p;cases f:pO n c p r x m with
 |false=>rfl
 |true=>
  exfalso;rw[eT] at f;have nI0:=Dy hc;have nC:=gp (n:=n) (k:=c) (by lia);unfold K4 at h;have h:(((Pi n).any λx=> !(QE x 0||QE (So x) n)&&OG n x m)||((Pi n).any λy=>OI n y m))=true:=h;rw[Ra,Wi,Wi] at h;rcases h with⟨z,hz,q⟩|⟨y,hy,q⟩
  ·rw[Ps,QZ,Xi,mV,mV,decide_eq_false_iff_not,decide_eq_false_iff_not] at q;obtain⟨k,hk,ek⟩:=T.sur z (Pj.mp hz);have k1:k≠c:=λe=>q.1.2 (by rw[<-ek,e,nC];lia)
   have k2:k≠c+1:=λe=>q.1.1 (by rw[<-ek,e,nI0])
   have:=Pw.mp q.2 (aE n p (r.getD k 0)) (Pj.mpr (U.lt _ (R.get hk)));have this:lE m (n*z+aE n p (r.getD k 0))=true:=this;rw[ii,<-ek,(f k hk k1 k2).1] at this;cases this
  ·obtain⟨v,hv,ev⟩:=U.sur y (Pj.mp hy);have key: ∀k,k<n->k≠c->k≠c+1->m.testBit (n*aE n c k+y)=true:=λk hk k1 k2=>by
    have:=Pw.mp q (aE n c k) (Pj.mpr (T.lt k hk));have this:(QE (aE n c k) 0||(QE (So (aE n c k)) n||lE m (n*aE n c k+y)))=true:=this;obtain⟨t1,t2,t3⟩:=BC hc hk k1 k2;rw[mV,mV,lC t2,lC t3,RS,RS,ii] at this;exact this
   have a1:=AD R hv;have a2:=AD X hv;have fin: ∀k,k<n->k≠c->k≠c+1->(r.getD k 0=v\/x.getD k 0=v)->False:=λk hk k1 k2 e=>by
    have b:=key k hk k1 k2;have g:=f k hk k1 k2;rw[<-ev] at b;rcases e with e|e
    ·rw[e,b] at g;cases g.1
    ·rw[e,b] at g;cases g.2
   by_cases e1:r.idxOf v=c
   ·refine fin _ a2.1 (λe=>?_) (λe=>?_) (.inr a2.2)
    ·rw[e1] at a1;rw[e] at a2;exact h1 (a1.2.trans a2.2.symm)
    ·rw[e1] at a1;rw[e] at a2;exact h2 (a1.2.trans a2.2.symm)
   ·by_cases e2:r.idxOf v=c+1
    ·refine fin _ a2.1 (λe=>?_) (λe=>?_) (.inr a2.2)
     ·rw[e2] at a1;rw[e] at a2;exact h3 (a1.2.trans a2.2.symm)
     ·rw[e2] at a1;rw[e] at a2;exact h6 (a1.2.trans a2.2.symm)
    ·exact fin _ a1.1 e1 e2 (.inl a1.2)
theorem vB {l j:List Nat}(z:4<=n)(C:n<=5)(m:c+1<n)(i:Ord n l)(t:Ord n j)(u: ∀k,k<n->k≠c->k≠c+1->l.getD k 0=r.getD k 0/\j.getD k 0=x.getD k 0)
 (D:Pr A1 A2 (aE n p (l.getD (c+1) 0)) (aE n p (j.getD (c+1) 0))) (F:Pr B1 B2 (aE n p (l.getD c 0)) (aE n p (j.getD c 0))):HF n c p r x (b8 l j) (HM n A1 A2 B1 B2):=λo O a b G I J=>by
 have h:=λk y (d:k<n) (s:y<n)=>yO (c:=c) (p:=p) z C O (a:=a) (b:=b) (k:=k) (y:=y) G I d s
 generalize kc n (rl c p o) (aE n c a) (aE n c b)=M at h⊢;unfold b8;congr 1;rw[Qd,Cv O i t,Ps,eT];have v:=Dy m;have B:=gp (n:=n) (k:=c) (by lia);have e:HM n A1 A2 B1 B2 (rl c p o) (aE n c a) (aE n c b) M=true↔(M.testBit A1=false/\M.testBit A2=false)/\(M.testBit (n*(n-1)+B1)=false/\M.testBit (n*(n-1)+B2)=false):=by
  show(!lE M A1&&(!lE M A2&&(!lE M (n*(n-1)+B1)&& !lE M (n*(n-1)+B2))))=true↔_;rw[ii,ii,ii,ii];simp only[Ps,QZ,and_assoc]
 rw[e,D.all (P:=λy=>M.testBit y=false),F.all (P:=λy=>M.testBit (n*(n-1)+y)=false)];have b0: ∀y,y<n->M.testBit (aE n p y)=pk n o (a,b) (c+1) y:=λy s=>by
  have:=h (c+1) y m s;rwa [v,Nat.mul_zero,RE] at this
 have w: ∀y,y<n->M.testBit (n*(n-1)+aE n p y)=pk n o (a,b) c y:=λy s=>by
  have:=h c y (by lia) s;rwa [B] at this
 rw[b0 _ (i.get m),b0 _ (t.get m),w _ (i.get (by lia)),w _ (t.get (by lia))];constructor
 ·intro q
  exact⟨⟨q _ m,q c (by lia)⟩,λk d g f=>by
   have:=q k d
   rw[<-(u k d g f).1,<-(u k d g f).2,h k _ d (i.get d),h k _ d (t.get d)];exact this⟩
 ·rintro⟨⟨H,E⟩,A⟩ k d
  by_cases g:k=c
  ·rw[g];exact E
  ·by_cases f:k=c+1
   ·rw[f];exact H
   ·have:=A k d g f;rw[<-(u k d g f).1,<-(u k d g f).2,h k _ d (i.get d),h k _ d (t.get d)] at this;exact this
def Lh(n c:Nat)(r x o:List Nat)(a b:Nat):Prop:= ∀k,k<n->k≠c->k≠c+1->pk n o (a,b) k (r.getD k 0)=false/\pk n o (a,b) k (x.getD k 0)=false
def vV(n s e a b:Nat):Prop:=bv n s e a=false/\bv n s e b=false
def FF(n c:Nat)(r x:List Nat)(T f d g e:Nat)(o:List Nat)(a b:Nat):Prop:=bH o a b=true/\((a=c+1\/b=c+1)/\(bv n (o.getD a 0) (o.getD b 0) T=true/\(vV n (o.getD a 0) (dG n T) f d/\vV n (dG n T) (o.getD b 0) g e)))/\Lh n c r x o a b
def M4(n T U d c e f:Nat)(o:List Nat)(a b:Nat):Prop:=bv n (o.getD a 0) (o.getD b 0) U=true/\(bv n (o.getD a 0) U T=true/\(vV n (o.getD a 0) (dG n T) d c/\(vV n (dG n T) (dG n U) e f/\vV n (dG n U) (o.getD b 0) d c)))
def IC(n c:Nat)(r x:List Nat)(T U f d e g:Nat)(o:List Nat)(a b:Nat):Prop:=bH o a b=true/\((a=c+1/\M4 n T U f d e g o a b)\/(b=c+1/\M4 n U T e g f d o a b))/\Lh n c r x o a b
theorem Bb(e:4<=n)(g:n<=5)(R:Ord n r)(X:Ord n x)(O:Ord n o)(h:a<n)(f:b<n):pO n c p r x (kc n (rl c p o) (aE n c a) (aE n c b))=true↔Lh n c r x o a b:=by
 rw[eT];refine forall_congr' λk=>forall_congr' λd=>forall_congr' λ_=>forall_congr' λ_=>?_
 rw[yO e g O h f d (R.get d),yO e g O h f d (X.get d)]
theorem mT(b:0<n)(a:s<n)(c:e<n)(d:A1<n)(f:A2<n)(h:Pr A1' A2' (aE n p A1) (aE n p A2)):EI n (aE n p s) (aE n p e) A1' A2'=true↔vV n s e A1 A2:=by
 have U:=g9 b p;show(!Ar n _ _ _&& !Ar n _ _ _)=true↔_;rw[mf b (U.lt s a),mf b (U.lt s a),Ps,QZ,QZ,h.all (P:=λy=>bv n (aE n p s) (aE n p e) y=false),U.inb _ _ _ a c d,U.inb _ _ _ a c f];rfl
theorem ph(h:0<n)(T:Nat):dG n T<n:=RT _ h
theorem pX(d:c+1<n)(f:a<n):QE (aE n c a) 0=true↔a=c+1:=by
 rw[mV,lb];have T:=g9 (show 0<n by lia) c;have b:=Dy d;exact⟨λe=>T.inj _ _ f d (e.trans b.symm),λe=>by rw[e,b]⟩
theorem qa(j:4<=n)(w:n<=5)(i:c+1<n)(R:Ord n r)(X:Ord n x)(k:T<n)(u:A1<n)(l:A2<n)(v:B1<n)(m:B2<n)
 (y:Pr A1' A2' (aE n p A1) (aE n p A2)) (t:Pr B1' B2' (aE n p B1) (aE n p B2)) (s: ∀o,Ord n o-> ∀a b,a<n->b<n->a≠b->(F o a b=true↔FF n c r x T A1 A2 B1 B2 o a b)):HF n c p r x F (HA n (aE n p T) A1' A2' B1' B2'):=λo O a b f e q=>by
 have d:0<n:=by lia
 have U:=g9 d p;rw[Qd,s o O a b f e q,Ps,Ps,Bb j w R X O f e];unfold FF;refine and_congr Vj (and_congr ?_ Vj);have g:=O.get f;have h:=O.get e;show _↔(((QE (aE n c a) 0||QE (aE n c b) 0)&&(Ar n ((rl c p o).getD (aE n c a) 0) ((rl c p o).getD (aE n c b) 0) (aE n p T)&&(EI n ((rl c p o).getD (aE n c a) 0) (dG n (aE n p T)) A1' A2'&&EI n (dG n (aE n p T)) ((rl c p o).getD (aE n c b) 0) B1' B2')))=true);rw[fz d O.len f,fz d O.len e,<-FD d];simp only[Ps,Ra];rw[pX i f,pX i e,mf d (U.lt _ g),U.inb _ _ _ g h k,mT d g (ph d T) u l y,mT d (ph d T) h v m t]
theorem Af{T V l k j i e d f g:Nat}(G:4<=n)(J:n<=5)(D:c+1<n)(R:Ord n r)(X:Ord n x)(y:T<n)(q:V<n)(u:l<n)(s:k<n)(B:j<n)(z:i<n)
 (v:Pr e d (aE n p l) (aE n p k)) (A:Pr f g (aE n p j) (aE n p i)) (I: ∀o,Ord n o-> ∀a b,a<n->b<n->a≠b->(F o a b=true↔IC n c r x T V l k j i o a b)):HF n c p r x F (K6 n (aE n p T) (aE n p V) e d f g):=λo O a b w t H=>by
 have h:0<n:=by lia
 have U:=g9 h p;rw[Qd,I o O a b w t H,Ps,Ps,Bb G J R X O w t];unfold IC;refine and_congr Vj (and_congr ?_ Vj);have m:=O.get w;have C:=O.get t;have E: ∀ {T V l k j i e d f g:Nat},T<n->V<n->l<n->k<n->j<n->i<n->Pr e d (aE n p l) (aE n p k)->Pr f g (aE n p j) (aE n p i)->(Lo n (aE n p T) (aE n p V) e d f g (rl c p o) (aE n c a) (aE n c b)=true↔M4 n T V l k j i o a b):=λ{T V l k j i e d f g} y q u s B z v A=>by
  show((Ar n ((rl c p o).getD (aE n c a) 0) ((rl c p o).getD (aE n c b) 0) (aE n p V)&&(Ar n ((rl c p o).getD (aE n c a) 0) (aE n p V) (aE n p T)&&(EI n ((rl c p o).getD (aE n c a) 0) (dG n (aE n p T)) e d&&(EI n (dG n (aE n p T)) (dG n (aE n p V)) f g&&EI n (dG n (aE n p V)) ((rl c p o).getD (aE n c b) 0) e d))))=true)↔_;rw[fz h O.len w,fz h O.len t,<-FD h,<-FD h];simp only[Ps];rw[mf h (U.lt _ m),mf h (U.lt _ m),U.inb _ _ _ m C q,U.inb _ _ _ m q y,mT h m (ph h T) u s v,mT h (ph h T) (ph h V) B z A,mT h (ph h V) C u s v];rfl
 show _↔((QE (aE n c a) 0&&Lo n (aE n p T) (aE n p V) e d f g (rl c p o) (aE n c a) (aE n c b))||(QE (aE n c b) 0&&Lo n (aE n p V) (aE n p T) f g e d (rl c p o) (aE n c a) (aE n c b)))=true;rw[Ra,Ps,Ps,pX D w,pX D t,E y q u s B z v A,E q y B z u s A v]
end
def eR(n:Nat)(F:List Nat->Nat->Nat->Bool)(k:List Int):List (List Int):=(sp n (F (uz k))).map λp=>zs (bA (uz k) p.1 p.2)
def fW(e:List Int->List (List Int))(K:List (List Int)):List (List Int):=cR (K.flatMap e)
theorem EM(n:Nat)(F G:List Nat->Nat->Nat->Bool)(o:List Nat):(eR n F (zs o)).flatMap (eR n G)=two n F G o:=by
 unfold eR two;rw[eH,List.flatMap_map];congr 1;funext p;rw[eH]
theorem yM(O:Ord n o):iO n (eR n F (zs o)):=λk a=>by
 unfold eR at a;rw[eH] at a;obtain⟨p,d,rfl⟩:=PU.mp a;obtain⟨b,c,_⟩:=iT.mp d;exact⟨_,O.exx b c,rfl⟩
theorem v8{K:List (List Int)}(h:iO n K):iO n (K.flatMap (eR n F)):=λk a=>by
 obtain⟨y,b,a⟩:=Rf.mp a;obtain⟨o,O,rfl⟩:=h y b;exact yM O k a
theorem HD{K:List (List Int)}(h:iO n K):iO n (cR K):=λk a=>by
 have b:K.count k % 2=1:=db.mp a;exact h k (RI.mp (by lia))
theorem jw{F:List Nat->Nat->Nat->Bool}{K:List (List Int)}(h:iO n K):iO n (fW (eR n F) K):=HD (v8 h)
theorem JN {A B:List (List Int)}(h: ∀z,A.count z % 2=B.count z % 2):cR A=cR B:=B7 (ux A) λz=>by rw[pU,h z]
theorem uO(c b:List Int->List (List Int))(K:List (List Int))(z:List Int):((fW c K).flatMap b).count z % 2=((K.map λk=>((c k).flatMap b).count z).sum) % 2:=by
 have a:=Hx (λy=>(b y).count z) (K.flatMap c);unfold fW;rw[fF,a,<-fF,List.flatMap_assoc,fF]
theorem G7(O:Ord n o):iO n (two n F G o):=by
 rw[<-EM];exact v8 (yM O)
def oh(p a b:Nat):Bool:=decide (min a b<p)&&decide (p<max a b)
structure NI(n a b p q:Nat):Prop where
 ha:a<n
 hb:b<n
 hp:p<n
 hq:q<n
 ab:a≠b
 ap:a≠p
 aq:a≠q
 bp:b≠p
 bq:b≠q
 pq:p≠q
 ni:oh p a b=oh q a b
theorem qv(p a b:Nat):oh p a b=oh p b a:=by unfold oh;rw[Nat.min_comm,Nat.max_comm]
theorem NI.revL(h:NI n a b p q):NI n b a p q:=⟨h.hb,h.ha,h.hp,h.hq,h.ab.symm,h.bp,h.bq,h.ap,h.aq,h.pq,by rw[qv p,qv q];exact h.ni⟩
theorem NI.revR(h:NI n a b p q):NI n a b q p:=⟨h.ha,h.hb,h.hq,h.hp,h.ab,h.aq,h.ap,h.bq,h.bp,h.pq.symm,h.ni.symm⟩
def NJ:Bool:=(Pi 5).all λa=>(Pi 5).all λb=>(Pi 5).all λp=>(Pi 5).all λq=> !(a !=b&&a !=p&&a !=q&&b !=p&&b !=q&&p !=q&&(oh p a b==oh q a b))||(oh a p q==oh b p q)
theorem G1:NJ=true:=by decide+kernel
theorem NI.swap(h:NI n a b p q)(c:n<=5):NI n p q a b:=by
 refine⟨h.hp,h.hq,h.ha,h.hb,h.pq,h.ap.symm,h.bp.symm,h.aq.symm,h.bq.symm,h.ab,?_⟩;have k:=Pw.mp G1 a (Pj.mpr (PF h.ha c));have k:=Pw.mp k b (Pj.mpr (PF h.hb c));have k:=Pw.mp k p (Pj.mpr (PF h.hp c));have k:=Pw.mp k q (Pj.mpr (PF h.hq c));rw[bne_iff_ne.mpr h.ab,bne_iff_ne.mpr h.ap,bne_iff_ne.mpr h.aq,bne_iff_ne.mpr h.bp,bne_iff_ne.mpr h.bq,bne_iff_ne.mpr h.pq,h.ni,beq_self_eq_true] at k;exact eq_of_beq k
def aX(a b p:Nat):Nat:=if oh p a b=true then min a b else max a b
def MS(n a b p q:Nat):Bool:=decide (min (aE n (aX a b p) p) (aE n (aX a b p) q)<aE n (aX a b p) (aX p q a))&&(decide (aE n (aX a b p) (aX p q a)<min (aE n (aX a b p) a) (aE n (aX a b p) b))&&(decide (min (aE n (aX a b p) a) (aE n (aX a b p) b)+1<n)&&(decide (max (aE n (aX a b p) p) (aE n (aX a b p) q)=aE n (aX a b p) (aX p q a))&&decide (max (aE n (aX a b p) a) (aE n (aX a b p) b)=n-1))))
theorem Ia:((Pi 6).all λn=>(Pi n).all λa=>(Pi n).all λb=>(Pi n).all λp=>(Pi n).all λq=> !(a !=b&&a !=p&&a !=q&&b !=p&&b !=q&&p !=q&&(oh p a b==oh q a b))||MS n a b p q)=true:=by decide+kernel
theorem EZ(a b:Nat):Pr (min a b) (max a b) a b:=by
 unfold Pr;lia
theorem NI.cfg(h:NI n a b p q)(c:n<=5): ∃d l,d<aE n (aX a b p) (aX p q a)/\aE n (aX a b p) (aX p q a)<l/\l+1<n/\Pr d (aE n (aX a b p) (aX p q a)) (aE n (aX a b p) p) (aE n (aX a b p) q)/\Pr (n-1) l (aE n (aX a b p) a) (aE n (aX a b p) b):=by
 have k:=Ia;have k:=Pw.mp k n (Pj.mpr (by lia));have k:=Pw.mp k a (Pj.mpr h.ha);have k:=Pw.mp k b (Pj.mpr h.hb);have k:=Pw.mp k p (Pj.mpr h.hp);have k:=Pw.mp k q (Pj.mpr h.hq);have e:(a !=b&&a !=p&&a !=q&&b !=p&&b !=q&&p !=q&&(oh p a b==oh q a b))=true:=by
  have f:=h.ab;have g:=h.ap;have u:=h.aq;have i:=h.bp;have c:=h.bq;have o:=h.pq;have v:=h.ni;simp[f,g,u,i,c,o,v]
 rw[e,Rs,RS] at k;unfold MS at k;simp only[Ps,lb] at k;obtain⟨m,t,j,s,r⟩:=k;refine⟨_,_,m,t,j,?_,?_⟩
 ·have:=EZ (aE n (aX a b p) p) (aE n (aX a b p) q);rw[s] at this;exact this
 ·have:=(EZ (aE n (aX a b p) a) (aE n (aX a b p) b)).sw;rw[r] at this;exact this
theorem nG {n a b p q:Nat}(h:NI n a b p q):aX a b p<n/\aX p q a<n:=by
 have:=h.ha;have:=h.hb;have:=h.hp;have:=h.hq;unfold aX;constructor<;>split<;>lia
section
variable {n c:Nat}{r x r' x' o:List Nat}(h4:4<=n)(h5:n<=5)(hc:c+1<n)(R:Ord n r)(X:Ord n x)(R':Ord n r')(X':Ord n x')(N:NI n (r.getD c 0) (x.getD c 0) (r.getD (c+1) 0) (x.getD (c+1) 0))
 (ag: ∀k,k<n->k≠c->k≠c+1->r'.getD k 0=r.getD k 0/\x'.getD k 0=x.getD k 0) (s1:r'.getD c 0=r.getD (c+1) 0) (s2:r'.getD (c+1) 0=r.getD c 0) (s3:x'.getD c 0=x.getD (c+1) 0) (s4:x'.getD (c+1) 0=x.getD c 0)
include h4 h5 hc R X R' X' N ag s1 s2 s3 s4
theorem N7(A: ∀o,Ord n o-> ∀a b,a<n->b<n->a≠b->(B o a b=true↔FF n c r x (aX (r.getD c 0) (x.getD c 0) (r.getD (c+1) 0)) (r.getD (c+1) 0) (x.getD (c+1) 0) (r.getD c 0) (x.getD c 0) o a b))
 (h: ∀o,Ord n o-> ∀a b,a<n->b<n->a≠b->(B' o a b=true↔FF n c r x (aX (r.getD (c+1) 0) (x.getD (c+1) 0) (r.getD c 0)) (r.getD c 0) (x.getD c 0) (r.getD (c+1) 0) (x.getD (c+1) 0) o a b))
 (m: ∀o,Ord n o-> ∀a b,a<n->b<n->a≠b->(W o a b=true↔IC n c r x (aX (r.getD c 0) (x.getD c 0) (r.getD (c+1) 0)) (aX (r.getD (c+1) 0) (x.getD (c+1) 0) (r.getD c 0)) (r.getD (c+1) 0) (x.getD (c+1) 0) (r.getD c 0) (x.getD c 0) o a b)) (O:Ord n o) (z:List Int):
 ((if z=zs o then 1 else 0)+((two n B B' o).count z+((two n W (b8 r x) o).count z+(two n (b8 r x) W o).count z))) % 2=0:=by
 by_cases u: ∃d,Ord n d/\z=zs d
 ·obtain⟨d,Z,rfl⟩:=u;obtain⟨k,l,t,v,D,f,g⟩:=N.cfg h5;obtain⟨i,s⟩:=nG N;generalize aX (r.getD (c+1) 0) (x.getD (c+1) 0) (r.getD c 0)=V at h m t v f s;generalize aX (r.getD c 0) (x.getD c 0) (r.getD (c+1) 0)=T at A m i t v D f g;have j:0<n:=by lia
  have C:HF n c T r x (b8 r x) (HM n k (aE n T V) (n-1) l):=vB h4 h5 hc R X (λ_ _ _ _=>⟨rfl,rfl⟩) f g;have H:HF n c T r x B' (HA n (aE n T V) (n-1) l k (aE n T V)):=qa (p:=T) h4 h5 hc R X s (R.get (by lia)) (X.get (by lia)) (R.get hc) (X.get hc) g f h;have J:HF n c T r x B (HA n (n-1) k (aE n T V) (n-1) l):=by
   have:=qa (p:=T) h4 h5 hc R X i (R.get hc) (X.get hc) (R.get (by lia)) (X.get (by lia)) f g A;rwa [gp i] at this
  have E:HF n c T r x W (K6 n (n-1) (aE n T V) k (aE n T V) (n-1) l):=by
   have:=Af (p:=T) h4 h5 hc R X i s (R.get hc) (X.get hc) (R.get (by lia)) (X.get (by lia)) f g m;rwa [gp i] at this
  have id:(if zs d=zs o then 1 else 0)=wz n c T r x d (pW (rl c T o),0):=by
   unfold wz;have y:pW (rl c T o)=pW (rl c T d)↔zs d=zs o:=
    ⟨λw=>by rw[zR j O Z (vN (Hj (ge j O) (by lia)) (Hj (ge j Z) (by lia)) w)],λw=>by rw[Fp w]⟩
   by_cases q:zs d=zs o
   ·rw[if_pos q,if_pos ⟨y.mpr q,xK⟩]
   ·rw[if_neg q,if_neg λw=>q (y.mp w.1)]
  rw[vj h4 h5 hc R X J H O Z,vj h4 h5 hc R X E C O Z,vj h4 h5 hc R X C E O Z,id,<-U3,<-Qm,<-U3,<-Qm,<-Qb,<-Pu];refine GV (O7 h4 h5 t v D (ge (c:=c) (p:=T) j O)) λe I=>?_
  unfold wz;rw[MD h4 h5 hc R X N.ab N.aq N.bp.symm N.pq I];simp
 ·have zero: ∀ {F G:List Nat->Nat->Nat->Bool},(two n F G o).count z=0:=VA.mpr λw=>u (G7 O z w)
  rw[zero,zero,zero,if_neg λe=>u ⟨o,O,e⟩]
end
set_option maxHeartbeats 4000000
def rV(n:Nat)(r o:List Nat):Int:=yo n o-Lf n r o-K2 n r o+yo n r+1
set_option maxHeartbeats 1000000
section
variable {n a b:Nat}{r o:List Nat}(O:Ord n o)(R:Ord n r)(ha:a<n)(hb:b<n)(ne:a≠b)
include O R ha hb ne
theorem Dz:rV n r o-rV n r (bA o a b)=1-2*nq n r o a b+2*Ao n o a b:=by
 have c:=Kc O ha hb ne;have d:=Kl O R ha hb ne;have e:=Kj O R ha hb ne;unfold rV;lia
end
theorem Gw: ∀n,n<=6-> ∀c,c<n->c+1<n-> ∀b,b<n->(decide (b=c+1)||(!bv n (c+1) b c&&(bv n b (c+1) c&&(!bv n b (c+1) (c+1)&&bv n (c+1) b (c+1)))))=true:=by decide+kernel
theorem kZ(n:Nat)(d:n<=6)(c:Nat)(h:c<n)(a:c+1<n)(b:Nat)(f:b<n)(e:b≠c+1):bv n (c+1) b c=false/\bv n b (c+1) c=true/\bv n b (c+1) (c+1)=false/\bv n (c+1) b (c+1)=true:=by
 have k:=Gw n d c h a b f;rw[lC e] at k;simpa using k
def Oz(n a b p q s e:Nat):Bool:=(bv n s e (aX a b p)&&((!bv n s (dG n (aX a b p)) p&& !bv n s (dG n (aX a b p)) q)&&(!bv n (dG n (aX a b p)) e a&& !bv n (dG n (aX a b p)) e b)))
def Lj(n T U b a c d s e:Nat):Bool:=bv n s e U&&(bv n s U T&&((!bv n s (dG n T) b&& !bv n s (dG n T) a)&&((!bv n (dG n T) (dG n U) c&& !bv n (dG n T) (dG n U) d)&&(!bv n (dG n U) e b&& !bv n (dG n U) e a))))
def NW(a b p q:Nat):Bool:=a !=b&&a !=p&&a !=q&&b !=p&&b !=q&&p !=q&&(oh p a b==oh q a b)
def dR(n a p s e:Nat):Int:=2*bi (decide (a<e)) -2*bi (decide (p<e)) -1+2*bi (decide (p<a)) -1+2*bi (bv n s e p)
def dL(n a p s e:Nat):Int:=2*bi (decide (a<s)) -2*bi (decide (p<s)) -1+2*bi (decide (p<a)) -1+2*bi (bv n s e a)
def OL(n a b p q s e:Nat):Bool:= !NW a b p q||((!Oz n a b p q s e||(decide (dR n a p s e=0)&&(decide (dR n b q s e=0)&&(decide (dL n a p s e=0)&&decide (dL n b q s e=0)))))&&
 ((!Lj n (aX a b p) (aX p q a) p q a b s e||(bv n s e p&&bv n s e q))&&(!Lj n (aX p q a) (aX a b p) a b p q s e||(bv n s e a&&bv n s e b))))
theorem JY:((Pi 6).all λn=>(Pi n).all λa=>(Pi n).all λb=>(Pi n).all λp=>(Pi n).all λq=>(Pi n).all λs=>(Pi n).all λe=>OL n a b p q s e)=true:=by decide+kernel
theorem NI.gck(h:NI n a b p q)(c:n<=5)(m:s<n)(j:e<n):
 (Oz n a b p q s e=true->dR n a p s e=0/\dR n b q s e=0/\dL n a p s e=0/\dL n b q s e=0)/\(Lj n (aX a b p) (aX p q a) p q a b s e=true->bv n s e p=true/\bv n s e q=true)/\(Lj n (aX p q a) (aX a b p) a b p q s e=true->bv n s e a=true/\bv n s e b=true):=by
 have k:=JY;have k:=Pw.mp k n (Pj.mpr (by lia));have k:=Pw.mp k a (Pj.mpr h.ha);have k:=Pw.mp k b (Pj.mpr h.hb);have k:=Pw.mp k p (Pj.mpr h.hp);have k:=Pw.mp k q (Pj.mpr h.hq);have k:=Pw.mp k s (Pj.mpr m);have k:=Pw.mp k e (Pj.mpr j);have u:NW a b p q=true:=by
  have o:=h.ab;have r:=h.ap;have g:=h.aq;have d:=h.bp;have c:=h.bq;have i:=h.pq;have v:=h.ni;simp[NW,o,r,g,d,c,i,v]
 unfold OL at k;rw[u,Rs,RS] at k;simp only[Ps,Ra,QZ,lb] at k;obtain⟨l,f,t⟩:=k;refine⟨λw=>?_,λw=>?_,λw=>?_⟩
 ·rcases l with z|z
  ·rw[w] at z;cases z
  ·exact z
 ·rcases f with z|z
  ·rw[w] at z;cases z
  ·exact z
 ·rcases t with z|z
  ·rw[w] at z;cases z
  ·exact z
section
variable {n c:Nat}{r x o:List Nat}(h5:n<=5)(hc:c+1<n)(R:Ord n r)(X:Ord n x)(N:NI n (r.getD c 0) (x.getD c 0) (r.getD (c+1) 0) (x.getD (c+1) 0))(O:Ord n o)
include h5 hc R X N O
omit X N h5 in
theorem AJ(u:n<=5)(t:a<n)(q:b<n)(j:a≠b)(m: ∀k,k<n->k≠c->k≠c+1->pk n o (a,b) k (r.getD k 0)=false):
 (a=c+1->nq n r o a b=bi (bv n (o.getD a 0) (o.getD b 0) (r.getD (c+1) 0)))/\(b=c+1->nq n r o a b=bi (bv n (o.getD a 0) (o.getD b 0) (r.getD c 0))):=by
 have g: ∀k,k<n->k≠c->k≠c+1->bi (bv n a b k)*bi (bv n (o.getD a 0) (o.getD b 0) (r.getD k 0))=0:=λk i s p=>by
  have:=m k i s p;unfold pk at this;rw[<-lX,this];rfl
 constructor
 ·intro e;subst e;have f:=kZ n (by lia) c (by lia) hc b q (QA j);unfold nq;rw[<-oV Qf (l:=Pi n) (bi (bv n (o.getD (c+1) 0) (o.getD b 0) (r.getD (c+1) 0))) (Pj.mpr hc)];refine bB λk i=>?_
  by_cases d:k=c+1
  ·subst d;rw[if_pos rfl,f.2.2.2];simp[bi]
  ·rw[if_neg d]
   by_cases h:k=c
   ·subst h;rw[f.1];simp[bi]
   ·exact g k (Pj.mp i) h d
 ·intro e;subst e;have f:=kZ n (by lia) c (by lia) hc a t j;unfold nq;rw[<-oV Qf (l:=Pi n) (bi (bv n (o.getD a 0) (o.getD (c+1) 0) (r.getD c 0))) (Pj.mpr (show c<n by lia))];refine bB λk i=>?_
  by_cases d:k=c
  ·subst d;rw[if_pos rfl,f.2.1];simp[bi]
  ·rw[if_neg d]
   by_cases h:k=c+1
   ·subst h;rw[f.2.2.1];simp[bi]
   ·exact g k (Pj.mp i) d h
omit R X N h5 hc in
theorem Im(f:a<n)(h:b<n)(g:a≠b)(c:bH o a b=true):Ao n o a b=0:=Aj λk d=>by
 have q:=(kx O f h g).mp c k (Pj.mp d);rw[<-lX];cases e:bv n a b k&&(decide (k≠a)&&bv n (o.getD a 0) (o.getD b 0) (o.getD k 0)) with
 |false=>rfl
 |true=>
  rw[Ps,Ps,lb] at e;exact absurd ⟨e.1,e.2.1,e.2.2,λw=>e.2.1 (O.inj (Pj.mp d) f w)⟩ q
theorem Gt(h:a<n)(f:b<n)(j:a≠b)(B:IC n c r x (aX (r.getD c 0) (x.getD c 0) (r.getD (c+1) 0)) (aX (r.getD (c+1) 0) (x.getD (c+1) 0) (r.getD c 0)) (r.getD (c+1) 0) (x.getD (c+1) 0) (r.getD c 0) (x.getD c 0) o a b):
 rV n r (bA o a b)=rV n r o+1/\rV n x (bA o a b)=rV n x o+1:=by
 obtain⟨l,E,z⟩:=B;have g:=(N.gck h5 (O.get h) (O.get f)).2;have D:=Im O h f j l;have G:=Dz O R h f j;have F:=Dz O X h f j;have C:=AJ hc R O h5 h f j λk u v q=>(z k u v q).1
 have A:=AJ hc X O h5 h f j λk u v q=>(z k u v q).2
 rw[D] at G F;rcases E with⟨e,s,t,p,i,m⟩|⟨e,s,t,p,i,m⟩
 ·have w:=C.1 e;have y:=A.1 e
  have d:=g.1 (by
   unfold Lj;rw[s,t,p.1,p.2,i.1,i.2,m.1,m.2];rfl)
  rw[d.1,show bi true=1 from rfl] at w;rw[d.2,show bi true=1 from rfl] at y;constructor<;>lia
 ·have w:=C.2 e;have y:=A.2 e
  have d:=g.2 (by
   unfold Lj;rw[s,t,p.1,p.2,i.1,i.2,m.1,m.2];rfl)
  rw[d.1,show bi true=1 from rfl] at w;rw[d.2,show bi true=1 from rfl] at y;constructor<;>lia
end
abbrev iq:=List Nat×List Nat
def fV(S:iq):D:=cH S.1 S.2
def qm(S:iq)(c y:Nat):Bool:=decide (y=S.1.getD c 0\/y=S.2.getD c 0)
def Ln(n:Nat)(S:iq):Prop:=S.1.length=n/\S.2.length=n
theorem Be {n:Nat}{S:iq}(h:Ln n S)(a:c<n)(y:Nat):cQ [fV S,nI c,nI y]=some (.bl (qm S c y)):=by
 apply bj (kd:=.s) (n:=5) (t:=ma);unfold ma;refine(ay (ρ':=[.v (fV S),.v (nI c),.v (nI y),.v (ax S.1),.v (ax S.2)]) (dW (fU rfl) rfl)).trans (a7 ((aA (x:=nI y) rfl (bS (ds:=[nI (S.1.getD c 0),nI (S.2.getD c 0)]) (am ((aA (x:=ax S.1) (y:=nI c) rfl rfl).trans (gj (by rw[h.1];exact a))) (am ((aA (x:=ax S.2) (y:=nI c) rfl rfl).trans (gj (by rw[h.2];exact a))) rfl)) (by simp))).trans (OF _ _ _)))
theorem Do(C R:List Nat)(f:Nat->Nat->Bool):(C.flatMap λc=>R.map λy=>f c y).any id=C.any λc=>R.any λy=>f c y:=by
 induction C with
 |nil=>rfl
 |cons c C a=>rw[Qj,List.any_append,a,Sw,Vd];rfl
theorem D6 {α:Type}(C:List Nat)(R:List Nat)(f:Nat->Nat->α):(C.flatMap λc=>R.map λy=>f c y).length=C.length*R.length:=by
 induction C with
 |nil=>simp
 |cons c C a=>rw[Qj,P0,a,Pp,P1,jbc];lia
theorem CJ {n:Nat}{S:iq}(h:Ln n S){C R:List Nat}(d: ∀c∈C,c<n)(a:C.length*R.length<=1000):cX [fV S,.lst (C.map nI),.lst (R.map nI)]=some (.bl (!C.any λc=>R.any λy=>qm S c y)):=by
 apply bj (kd:=.s) (n:=3) (t:=f6);unfold f6;refine a7 (qN (kL (b6 ?_)));have b:jh 2 (dw (ai 1)) (gN 3) (cj) (dw (ai 2)) (gN 4) (cj) (ak (nF 3 cQ) (aa (ai 0) (aa (ai 3) (aa (ai 4) (aj))))) (kG 3 [fV S,.lst (C.map nI),.lst (R.map nI)])=some (.lst ((C.flatMap λc=>R.map λy=>qm S c y).map D.bl)):=by
  refine p8 (ds:=C.map nI) (f9 rfl) ?_ (by rw[Pp,D6];exact a)
  refine(dB (h:=nI) (q:=λ_=>true) (o:=λc=>R.map λy=>D.bl (qm S c y)) C λc e=>⟨_,rfl,rfl,λ_=>?_⟩).trans ?_
  ·refine oJ (ds:=R.map nI) (f9 rfl) ?_
   refine(dB (h:=nI) (q:=λ_=>true) (o:=λy=>[D.bl (qm S c y)]) R λy f=>⟨_,rfl,rfl,λ_=>?_⟩).trans ?_
   ·exact ln ((aN (ds:=[fV S,nI c,nI y]) rfl rfl).trans (Be h (d c e) y))
   ·rw[j9,QN.mpr λ_ _=>rfl]
  ·rw[QN.mpr (λ_ _=>rfl),R7];congr 2;funext c;rw[PM];rfl
 rw[bP (am b rfl),p6,Do]
def jX(a:List iq)(turns:List Nat)(col:Nat):Nat->List Nat->Bool
 |_,[]=>true
 |at_,y::R=> !qm (a.getD at_ ([],[])) col y&&jX a turns col (at_+if y∈turns then 1 else 0) R
def xN:FS:=aB (fy (dJ (ak (nF 3 cQ) (aa (av br (ai 3) (ai 5)) (aa (ai 0) (aa (ai 6) (aj)))))) (bc (aC (.bl false))) (cb))
 (fy (bR (av (jk false) (ai 6) (ai 4))) (Er bL 5 (aC (.int 1))) (cb))
theorem tz {n:Nat}{a:List iq}{turns:List Nat}(p: ∀S∈a,Ln n S)(o:col<n)(c b:D): ∀(R:List Nat) (at_:Nat) (g:Sl),at_+(R.filter λy=>decide (y∈turns)).length<a.length->
 (jX a turns col at_ R=true-> ∃q k,fE (gN 6) xN (R.map nI) [.v (nI col),.v c,.v b,.v (.lst (a.map fV)),.v (.lst (turns.map nI)),.v (nI at_),g]=.nx [.v (nI col),.v c,.v b,.v (.lst (a.map fV)),.v (.lst (turns.map nI)),q,k])/\
 (jX a turns col at_ R=false-> ∃ρ,fE (gN 6) xN (R.map nI) [.v (nI col),.v c,.v b,.v (.lst (a.map fV)),.v (.lst (turns.map nI)),.v (nI at_),g]=.rt (.bl false) ρ)
 | [],at_,g,_=>⟨λ_=>⟨_,_,rfl⟩,λh=>by cases h⟩
 |y::R,at_,g,l=>by
  let st:Nat->aG:=λm=>[.v (nI col),.v c,.v b,.v (.lst (a.map fV)),.v (.lst (turns.map nI)),.v (nI m),.v (nI y)]
  have j:at_<a.length:=by lia
  have es:a.getD at_ ([],[])=a[at_]:=by simp[Qr,j]
  have f:dJ (ak (nF 3 cQ) (aa (av br (ai 3) (ai 5)) (aa (ai 0) (aa (ai 6) (aj))))) (st at_)=some (qm (a.getD at_ ([],[])) col y):=by
   refine gB ((aN (ds:=[fV (a.getD at_ ([],[])),nI col,nI y]) (am ((aA (x:=.lst (a.map fV)) (y:=nI at_) rfl rfl).trans (u7 (by rw[Qi,Pq j,es];rfl))) rfl) rfl).trans (Be (n:=n) ?_ o y));rw[es];exact p _ (S7 j)
  have i:bR (av (jk false) (ai 6) (ai 4)) (st at_)=some (decide (y∈turns)):=b6 ((aA (x:=nI y) (y:=.lst (turns.map nI)) rfl rfl).trans (Nw _ _));have s:fy (bR (av (jk false) (ai 6) (ai 4))) (Er bL 5 (aC (.int 1))) (cb) (st at_)=.nx (st (at_+if y∈turns then 1 else 0)):=by
   by_cases e:y∈turns
   ·rw[lm e] at i;rw[if_pos e,gk i];rfl
   ·rw[lC e] at i;rw[if_neg e,mY i];rfl
  unfold jX;rw[Pu];cases e:qm (a.getD at_ ([],[])) col y with
  |true=>
   rw[e] at f;refine⟨λh=>by simp at h,λ_=>⟨st at_,?_⟩⟩;have:xN (st at_)=.rt (.bl false) (st at_):=oF ((gk f).trans rfl);exact Hr (ρ1:=st at_) rfl this
  |false=>
   rw[e] at f;rw[Z0,Qn];have r:xN (st at_)=.nx (st (at_+if y∈turns then 1 else 0)):=(ay ((mY f).trans rfl)).trans s;rw[eN (ρ1:=st at_) rfl r];refine tz p o c b R _ (.v (nI y)) ?_
   rw[UF] at l
   by_cases d:y∈turns
   ·rw[if_pos (lm d),P1] at l;rw[if_pos d];lia
   ·rw[if_neg (by rw[lC d];decide)] at l;rw[if_neg d];lia
def dm(a:List iq)(turns:List Nat):D:=.tup [.lst (a.map fV),.lst (turns.map nI)]
theorem GS {n:Nat}{a:List iq}{turns:List Nat}{col:Nat}(c: ∀S∈a,Ln n S)(b:col<n)(R:List Nat)(f:(R.filter λy=>decide (y∈turns)).length<a.length):fm [nI col,.lst (R.map nI),dm a turns]=some (.bl (jX a turns col 0 R)):=by
 refine rK (kd:=.s) (n:=7) (t:=js) ?_
 have k:=tz (n:=n) (turns:=turns) c b (.lst (R.map nI)) (dm a turns) R 0 .no (by lia);unfold js;refine(λh=>?_ :(∃ρ,aB (jG (cq (dw (ai 1))) (gN 6) xN) (bc (aC (.bl true))) [.v (nI col),.v (.lst (R.map nI)),.v (dm a turns),.v (.lst (a.map fV)),.v (.lst (turns.map nI)),.v (nI 0),.no]=.rt (.bl (jX a turns col 0 R)) ρ)->_) ?_
 ·obtain⟨ρ,h⟩:=h;exact⟨ρ,(ay (ρ':=[.v (nI col),.v (.lst (R.map nI)),.v (dm a turns),.v (.lst (a.map fV)),.v (.lst (turns.map nI)),.no,.no]) (dW (fU rfl) rfl)).trans ((ay (ρ':=[.v (nI col),.v (.lst (R.map nI)),.v (dm a turns),.v (.lst (a.map fV)),.v (.lst (turns.map nI)),.v (nI 0),.no]) rfl).trans h)⟩
 ·cases e:jX a turns col 0 R with
  |true=>
   obtain⟨g,d,h⟩:=k.1 e;exact⟨_,(ay ((ir (bU (f9 rfl))).trans h)).trans rfl⟩
  |false=>
   obtain⟨ρ,h⟩:=k.2 e;exact⟨ρ,oF ((ir (bU (f9 rfl))).trans h)⟩
def cy(n:Nat)(S:iq)(o:List Nat)(a b col:Nat)(d:List iq)(turns:List Nat):Bool:=
 decide ((cF n (o.getD a 0) (o.getD b 0)).filter (λy=>decide (y∈turns))=turns)&&(bH o a b&&((!((cF n a b).filter λc=>decide (c≠col)).any λc=>(cF n (o.getD a 0) (o.getD b 0)).any λy=>qm S c y)&&jX d turns col 0 (cF n (o.getD a 0) (o.getD b 0))))
theorem J3 {n s e c:Nat}(h:0<n)(a:c∈cF n s e):c<n:=by
 unfold cF at a;obtain⟨i,_,rfl⟩:=PU.mp a;exact RT _ h
theorem GR(l m:List Nat):dg (.lst (l.map nI)) (.lst (m.map nI))=decide (l=m):=by
 have e:=BB (l.map Xm) (m.map Xm);have a:l.map Xm=m.map Xm↔l=m:=List.map_inj_right λx y h=>by injection h
 unfold cZ at e;rw[PM,PM] at e;unfold dg at e⊢;exact e.trans (decide_eq_decide.mpr a)
theorem tO{S:iq}{o:List Nat}{d:List iq}{turns:List Nat}(h:0<n)(M:n<=8)(E:Ln n S)(l:o.length=n)(p:a<n)(m:b<n)(G:col<n)(I: ∀S∈d,Ln n S)(r:turns.length<d.length):
 cK [fV S,ax o,nI a,nI b,nI col,dm d turns]=some (.bl (cy n S o a b col d turns)):=by
 refine rK (kd:=.s) (n:=10) (t:=oD) ?_
 let R:=cF n (o.getD a 0) (o.getD b 0)
 let C:=(cF n a b).filter λc=>decide (c≠col)
 let st:Sl->Sl->aG:=λD A=>[.v (fV S),.v (ax o),.v (nI a),.v (nI b),.v (nI col),.v (dm d turns),.v (.lst (d.map fV)),.v (.lst (turns.map nI)),D,A]
 have L:R.length<n:=nX h _ _;have j:(cF n a b).length<n:=nX h _ _;have N:C.length<n:=RH (Q2 _ _) j;unfold oD;have K:cD (gT 2 (cS (gN 6) (cS (gN 7) (gX)))) (pu (ai 5)) (kG 10 [fV S,ax o,nI a,nI b,nI col,dm d turns])=.nx (st .no .no):=dW (fU rfl) rfl;have J:bf 8 (ak (nF 3 eE) (aa (ai 1) (aa (ai 2) (aa (ai 3) (aj))))) (st .no .no)=.nx (st (.v (.lst (R.map nI))) .no):=(bh ((aN (ds:=[ax o,nI a,nI b]) rfl rfl).trans (vR l h (by lia) p m))).trans rfl;have F:cx 1 (dw (ai 8)) (gN 10) (bR (av (jk false) (ai 10) (ai 7))) (ai 10) (st (.v (.lst (R.map nI))) .no)=some (.lst ((R.filter λy=>decide (y∈turns)).map nI)):=
  eS (ds:=R.map nI) (f9 rfl) (by rw[Pp];lia) (ja (h:=nI) (o:=nI) (q:=λy=>decide (y∈turns)) R λy _=>⟨_,rfl,b6 ((aA (x:=nI y) (y:=.lst (turns.map nI)) rfl rfl).trans (Nw _ _)),λ_=>rfl⟩)
 have e:bR (av mo (cx 1 (dw (ai 8)) (gN 10) (bR (av (jk false) (ai 10) (ai 7))) (ai 10)) (ai 7)) (st (.v (.lst (R.map nI))) .no)=some (!decide ((R.filter λy=>decide (y∈turns))=turns)):=by
  refine b6 ((aA F (y:=.lst (turns.map nI)) rfl).trans ?_);rw[kf (xq _),GR]
 have f:g6 (dJ (ak (nF 3 gr) (aa (ai 1) (aa (ai 2) (aa (ai 3) (aj)))))) (st (.v (.lst (R.map nI))) .no)=some (!bH o a b):=kL (gB ((aN (ds:=[ax o,nI a,nI b]) rfl rfl).trans (AC l h (by lia) p m)));have u:bf 9 (cx 1 (dw (ak (nF 3 cz) (aa (ai 1) (aa (ai 2) (aa (ai 3) (aj)))))) (gN 10) (bR (av mo (ai 10) (ai 4))) (ai 10)) (st (.v (.lst (R.map nI))) .no)=.nx (st (.v (.lst (R.map nI))) (.v (.lst (C.map nI)))):=by
  refine(bh (eS (ds:=(cF n a b).map nI) (f9 ((aN (ds:=[ax o,nI a,nI b]) rfl rfl).trans (uv l h (by lia) a b))) (by rw[Pp];lia) (ja (h:=nI) (o:=nI) (q:=λc=>decide (c≠col)) (cF n a b) λc _=>⟨_,rfl,b6 ((aA (x:=nI c) (y:=nI col) rfl rfl).trans ?_),λ_=>rfl⟩))).trans rfl;rw[kf (by rw[fP];lia),jp];congr 2;rw[Qd];simp
 unfold cy;rw[ay K,ay J];cases e1:decide ((cF n (o.getD a 0) (o.getD b 0)).filter (λy=>decide (y∈turns))=turns) with
 |false=>
  have e:bR _ _=some (!decide ((cF n (o.getD a 0) (o.getD b 0)).filter (λy=>decide (y∈turns))=turns)):=e;rw[e1] at e;exact⟨_,oF ((gk (IX e)).trans rfl)⟩
 |true=>
  have e:bR _ _=some (!decide ((cF n (o.getD a 0) (o.getD b 0)).filter (λy=>decide (y∈turns))=turns)):=e;rw[e1] at e;have B:=of_decide_eq_true e1;cases e2:bH o a b with
  |false=>
   rw[e2] at f;exact⟨_,oF ((gk (u8 e f)).trans rfl)⟩
  |true=>
   rw[e2] at f;rw[ay (iI (u8 e f)),ay u];have H:=CJ E (C:=C) (R:=R) (λc i=>J3 h (QW.mp i).1) (Qh (SF (show C.length<=8 by lia) (show R.length<=8 by lia)) (by lia));have w:=GS (n:=n) (turns:=turns) (col:=col) I G R (by show(jdy _ (cF n (o.getD a 0) (o.getD b 0))).length<_;rw[B];exact r);have g:bR (ak (nF 3 cX) (aa (ai 0) (aa (ai 9) (aa (ai 8) (aj))))) (st (.v (.lst (R.map nI))) (.v (.lst (C.map nI))))=some (!C.any λc=>R.any λy=>qm S c y):=b6 ((aN (ds:=[fV S,.lst (C.map nI),.lst (R.map nI)]) rfl rfl).trans H);have k:bR (ak (nF 3 fm) (aa (ai 4) (aa (ai 8) (aa (ai 5) (aj))))) (st (.v (.lst (R.map nI))) (.v (.lst (C.map nI))))=some (jX d turns col 0 R):=b6 ((aN (ds:=[nI col,.lst (R.map nI),dm d turns]) rfl rfl).trans w);refine⟨_,a7 (qN ?_)⟩
   rw[Qn,Qn];exact mN g (λz=>by
    have z:(!((cF n a b).filter λc=>decide (c≠col)).any λc=>(cF n (o.getD a 0) (o.getD b 0)).any λy=>qm S c y)=true:=z
    rw[z,Qn];exact k) (λz=>by
    have z:(!((cF n a b).filter λc=>decide (c≠col)).any λc=>(cF n (o.getD a 0) (o.getD b 0)).any λy=>qm S c y)=false:=z
    rw[z];rfl)
def oE(P Q:Nat->Bool)(o:List Nat)(i j:Nat):List (List Nat):=(if(decide (j≠i)&&P j)=true then [bA o i j] else [])++(if(decide (j≠i)&&Q j)=true then [bA o j i] else [])
def hJ(n:Nat)(P Q:Nat->Bool)(o:List Nat)(i:Nat):List (List Nat):=(Pi n).flatMap (oE P Q o i)
theorem Gh{S:iq}{o:List Nat}{rs ls:List iq}{rt lt:List Nat}(h:0<n)(G:n<=8)(K:Ln n S)(q:o.length=n)(m:c+1<n)(E: ∀S∈rs,Ln n S)(w: ∀S∈ls,Ln n S)(C:rt.length<rs.length)(B:lt.length<ls.length):
 cP [fV S,nI c,ax o,dm rs rt,dm ls lt]=some (.lst ((hJ n (λj=>cy n S o (c+1) j (c+1) rs rt) (λj=>cy n S o j (c+1) c ls lt) o (c+1)).map ax)):=by
 let P:Nat->Bool:=λj=>cy n S o (c+1) j (c+1) rs rt
 let Q:Nat->Bool:=λj=>cy n S o j (c+1) c ls lt
 let st:List D->Sl->aG:=λF r=>[.v (fV S),.v (nI c),.v (ax o),.v (dm rs rt),.v (dm ls lt),.v (nI (c+1)),.own F,r]
 have bl: ∀j,(oE P Q o (c+1) j).length<=2:=λj=>by
  unfold oE;split<;>split<;>simp
 have s: ∀(j:Nat) (F:List D),j<n->F.length<=100->aB (fy (gZ (bR (av mo (ai 7) (ai 5))) (dJ (ak (nF 6 cK) (aa (ai 0) (aa (ai 2) (aa (ai 5) (aa (ai 7) (aa (ai 5) (aa (ai 3) (aj)))))))))) (cA (aJ 6 1 gE (cq (aa (ak (nF 3 cV) (aa (ai 2) (aa (ai 5) (aa (ai 7) (aj))))) (aj))))) (cb))
  (fy (gZ (bR (av mo (ai 7) (ai 5))) (dJ (ak (nF 6 cK) (aa (ai 0) (aa (ai 2) (aa (ai 7) (aa (ai 5) (aa (ai 1) (aa (ai 4) (aj)))))))))) (cA (aJ 6 1 gE (cq (aa (ak (nF 3 cV) (aa (ai 2) (aa (ai 7) (aa (ai 5) (aj))))) (aj))))) (cb)) (st F (.v (nI j)))=.nx (st (F++(oE P Q o (c+1) j).map ax) (.v (nI j))):=by
  intro j F l I;have O: ∀F,bR (av mo (ai 7) (ai 5)) (st F (.v (nI j)))=some (decide (j≠c+1)):=λF=>by
   refine b6 ((aA (x:=nI j) (y:=nI (c+1)) rfl rfl).trans ?_);rw[kf (by rw[fP];lia),jp];congr 2;rw[Qd];simp
  have J: ∀F,dJ (ak (nF 6 cK) (aa (ai 0) (aa (ai 2) (aa (ai 5) (aa (ai 7) (aa (ai 5) (aa (ai 3) (aj)))))))) (st F (.v (nI j)))=some (P j):=λF=>gB ((aN (ds:=[fV S,ax o,nI (c+1),nI j,nI (c+1),dm rs rt]) rfl rfl).trans (tO h G K q m l m E C))
  have L: ∀F,dJ (ak (nF 6 cK) (aa (ai 0) (aa (ai 2) (aa (ai 7) (aa (ai 5) (aa (ai 1) (aa (ai 4) (aj)))))))) (st F (.v (nI j)))=some (Q j):=λF=>gB ((aN (ds:=[fV S,ax o,nI j,nI (c+1),nI c,dm ls lt]) rfl rfl).trans (tO h G K q l m (by lia) w B))
  have R: ∀F:List D,F.length<=200->cA (aJ 6 1 gE (cq (aa (ak (nF 3 cV) (aa (ai 2) (aa (ai 5) (aa (ai 7) (aj))))) (aj)))) (st F (.v (nI j)))=.nx (st (F++[ax (bA o (c+1) j)]) (.v (nI j))):=λF I=>(rW (i:=6) (b0:=F) (bs:=F) (d:=ax (bA o (c+1) j)) rfl (bU (am ((aN (ds:=[ax o,nI (c+1),nI j]) rfl rfl).trans (oM q m l)) rfl)) rfl (by lia)).trans rfl
  have H: ∀F:List D,F.length<=200->cA (aJ 6 1 gE (cq (aa (ak (nF 3 cV) (aa (ai 2) (aa (ai 7) (aa (ai 5) (aj))))) (aj)))) (st F (.v (nI j)))=.nx (st (F++[ax (bA o j (c+1))]) (.v (nI j))):=λF I=>(rW (i:=6) (b0:=F) (bs:=F) (d:=ax (bA o j (c+1))) rfl (bU (am ((aN (ds:=[ax o,nI j,nI (c+1)]) rfl rfl).trans (oM q l m)) rfl)) rfl (by lia)).trans rfl
  have u: ∀(F:List D) (f:FT) (v:Bool),f (st F (.v (nI j)))=some v->gZ (bR (av mo (ai 7) (ai 5))) f (st F (.v (nI j)))=some (decide (j≠c+1)&&v):=λF f v hv=>mN (O F) (λz=>by rw[z,Qn];exact hv) (λz=>by rw[z];rfl)
  unfold oE;rw[Qm,<-QP];cases e1:(decide (j≠c+1)&&P j) with
  |true=>
   have p:=u F _ _ (J F);rw[e1] at p;rw[if_pos rfl,ay ((gk p).trans (R F (by lia)))];have a:=u (F++[ax (bA o (c+1) j)]) _ _ (L _);cases e2:(decide (j≠c+1)&&Q j) with
   |true=>rw[e2] at a;rw[if_pos rfl,gk a];exact H _ (by simp;lia)
   |false=>rw[e2] at a;rw[if_neg (by decide),iI a,SQ,QX];try rfl
  |false=>
   have p:=u F _ _ (J F);rw[e1] at p;rw[if_neg (by decide),ay (iI p),SQ,QX];have a:=u F _ _ (L _);cases e2:(decide (j≠c+1)&&Q j) with
   |true=>rw[e2] at a;rw[if_pos rfl,gk a];exact H _ (by lia)
   |false=>rw[e2] at a;rw[if_neg (by decide),iI a,SQ,QX];try rfl
 have N: ∀k,((Pi k).flatMap (oE P Q o (c+1))).length<=2*k:=λk=>by
  induction k with
  |zero=>simp
  |succ k T=>
   rw[WN,Xx,P0,WI];have:=bl k;lia
 obtain⟨ρ',M,r,rfl⟩:=AQ (g:=gN 7) (b:=aB (fy (gZ (bR (av mo (ai 7) (ai 5))) (dJ (ak (nF 6 cK) (aa (ai 0) (aa (ai 2) (aa (ai 5) (aa (ai 7) (aa (ai 5) (aa (ai 3) (aj)))))))))) (cA (aJ 6 1 gE (cq (aa (ak (nF 3 cV) (aa (ai 2) (aa (ai 5) (aa (ai 7) (aj))))) (aj))))) (cb))
  (fy (gZ (bR (av mo (ai 7) (ai 5))) (dJ (ak (nF 6 cK) (aa (ai 0) (aa (ai 2) (aa (ai 7) (aa (ai 5) (aa (ai 1) (aa (ai 4) (aj)))))))))) (cA (aJ 6 1 gE (cq (aa (ak (nF 3 cV) (aa (ai 2) (aa (ai 7) (aa (ai 5) (aj))))) (aj))))) (cb)))
  (P:=λj ρ=> ∃r,ρ=st (((Pi j).flatMap (oE P Q o (c+1))).map ax) r) n 0 (λj ρ _ l A=>by
    obtain⟨r,e⟩:=A;subst e;rw[RE] at l;refine⟨_,_,rfl,s j _ l (by rw[Pp];have:=N j;lia),.v (nI j),?_⟩
    rw[WN,Xx,WI,Qm]) (st [] .no) ⟨.no,rfl⟩
 rw[RE] at M;apply bj (kd:=.n) (n:=8) (t:=kM);unfold kM;refine(ay (ρ':=[.v (fV S),.v (nI c),.v (ax o),.v (dm rs rt),.v (dm ls lt),.v (nI (c+1)),.no,.no]) ((bh ((aA (x:=nI c) (y:=.int 1) rfl rfl).trans (C8 c))).trans rfl)).trans ?_
 refine(ay (ρ':=st [] .no) ((k6 (cT (ds:=[]) rfl (by simp))).trans rfl)).trans ?_
 refine(ay ((ir (ds:=(Pi n).map nI) (bU (jj (n:=n) (am ((iU o _ _ rfl).trans (by rw[q])) rfl) (by lia)))).trans (by rw[UT];exact M))).trans rfl
theorem yP {n s t:Nat}(b:s<n)(a:t<n):(s+(((t:Int) -s) % n).toNat) % n=t:=by
 have m:=pS ((t:Int) -s) (show 0<n by lia);have e:((t:Int) -s) % n=if s<=t then(t:Int) -s else(t:Int) -s+n:=by
  split
  ·exact Q0 (by lia) (by lia)
  ·rw[<-Ua];exact Q0 (by lia) (by lia)
 rw[e] at m⊢;split
 ·rw[show s+((t:Int) -s).toNat=t by lia];exact R8 a
 ·rw[show s+((t:Int) -s+n).toNat=t+n by lia,Nat.add_mod_right];exact R8 a
theorem uy {n s e h:Nat}(hh:h<(((e:Int) -s) % n).toNat):(cF n s e).getD h 0=(s+h) % n:=by
 unfold cF;rw[Qr,Qi,U5 hh];rfl
theorem rA(n s e:Nat):(cF n s e).length=(((e:Int) -s) % n).toNat:=by unfold cF;simp
theorem fN(h:0<n):bv n s e t=true↔(((t:Int) -s) % n).toNat<(((e:Int) -s) % n).toNat:=by
 have a:=pS ((t:Int) -s) h;have b:=pS ((e:Int) -s) h;unfold bv;rw[lb];lia
theorem tX(a:List iq)(turns:List Nat)(col:Nat): ∀(R:List Nat) (at_:Nat),jX a turns col at_ R=(Pi R.length).all λh=> !qm (a.getD (at_+((R.take h).filter λy=>decide (y∈turns)).length) ([],[])) col (R.getD h 0)
 | [],at_=>rfl
 |y::R,at_=>by
  unfold jX;rw[tX a turns col R,P1,Th,jap,jbr];congr 1;congr 1;funext h;show _= !qm (a.getD (at_+(((y::R).take (h+1)).filter λy=>decide (y∈turns)).length) ([],[])) col ((y::R).getD (h+1) 0);rw[U6,UF]
  by_cases e:y∈turns
  ·rw[if_pos e,if_pos (lm e),P1];rw[show at_+1+((R.take h).filter λy=>decide (y∈turns)).length=at_+(((R.take h).filter λy=>decide (y∈turns)).length+1) by lia];rfl
  ·rw[if_neg e,if_neg (by rw[lC e];decide),U9];rfl
theorem EF {R:List Nat}(f:R.Nodup)(a:τ<R.length)(k:R.getD τ 0=T)(h:Nat):(R.take h).count T=if τ<h then 1 else 0:=by
 have g:R[τ]=T:=by rw[<-k];simp[Qr,a]
 have d:T∈R.take h↔τ<h:=by
  constructor
  ·intro w;obtain⟨i,b⟩:=Qo.mp w;rw[Vm] at b;split at b
   ·rename_i c
    have j:R[τ]? =some T:=by rw[Pq a,g]
    have:=(VR (PL.mp b).1 f).mp (b.trans j.symm);lia
   ·cases b
  ·intro w;refine Qo.mpr ⟨τ,?_⟩;rw[Vm,if_pos w,Pq a,g]
 have e:(R.take h).Nodup:=f.sublist (Ui _ _)
 by_cases c:τ<h
 ·rw[if_pos c];have l:=RI.mpr (d.mpr c);have m:=UU.mp e T;lia
 ·rw[if_neg c];exact VA.mpr λw=>c (d.mp w)
theorem Db {n a b k:Nat}(f:a<n)(g:k<(((b:Int) -a) % n).toNat):0<k↔(a+k) % n≠a:=by
 have m:=pS ((b:Int) -a) (show 0<n by lia);have e:k<n:=by lia
 by_cases c:k=0
 ·subst c;rw[U9,R8 f];simp
 ·refine⟨λ_=>?_,λ_=>by lia⟩
  by_cases d:a+k<n
  ·rw[R8 d];lia
  ·rw[Nat.mod_eq_sub_mod (by lia),R8 (by lia)];lia
theorem xY{o:List Nat}(O:Ord n o)(e:a<n)(r:b<n)(m:a≠b):bH o a b=true↔ ∀k,k<(((b:Int) -a) % n).toNat-> ¬(0<k/\bv n (o.getD a 0) (o.getD b 0) (o.getD ((a+k) % n) 0)=true):=by
 have h:0<n:=by lia
 rw[kx O e r m];constructor
 ·intro H k d ⟨i,j⟩;have l:(a+k) % n∈cF n a b:=by unfold cF;exact PU.mpr ⟨k,by simpa using d,rfl⟩
  obtain⟨g,p⟩:=(jt h e b _).mp l;have f:=(Db e d).mp i;exact H _ g ⟨p,f,j,λz=>f (O.inj g e z)⟩
 ·intro H c g ⟨i,j,q,_⟩;have:c∈cF n a b:=(jt h e b c).mpr ⟨g,i⟩;unfold cF at this;obtain⟨k,d,rfl⟩:=PU.mp this;have d:k<(((b:Int) -a) % n).toNat:=by simpa using d
  exact H k d ⟨(Db e d).mpr j,q⟩
def zh(n:Nat)(o:List Nat)(a b:Nat)(side:Nat->Nat->iq)(k:Nat):Bool:= !(decide (0<k)&&bv n (o.getD a 0) (o.getD b 0) (o.getD ((a+k) % n) 0))&&(Pi (((o.getD b 0:Int) -o.getD a 0) % n).toNat).all λh=> !qm (side ((a+k) % n) h) ((a+k) % n) ((o.getD a 0+h) % n)
def k8(n:Nat)(o:List Nat)(a b:Nat)(side:Nat->Nat->iq):Bool:=(Pi (((b:Int) -a) % n).toNat).all (zh n o a b side)
theorem qF {n:Nat}{S:iq}{o:List Nat}(O:Ord n o){a b col:Nat}(ha:a<n)(hb:b<n)(ne:a≠b){sides:List iq}{turns:List Nat}{side:Nat->Nat->iq}(hcol:col∈cF n a b)(hS: ∀c h,c≠col->side c h=S)
 (hB: ∀h,h<(((o.getD b 0:Int) -o.getD a 0) % n).toNat->side col h=sides.getD (((cF n (o.getD a 0) (o.getD b 0)).take h).filter λy=>decide (y∈turns)).length ([],[])):
 (bH o a b&&((!((cF n a b).filter λc=>decide (c≠col)).any λc=>(cF n (o.getD a 0) (o.getD b 0)).any λy=>qm S c y)&&jX sides turns col 0 (cF n (o.getD a 0) (o.getD b 0))))=k8 n o a b side:=by
 have h:0<n:=by lia
 rw[Qd,Ps,Ps,xY O ha hb ne,tX];unfold k8 zh;simp only[Pw,Pj,Ps,QZ,Tz,QW,lb,rA,RE,Tu,decide_eq_false_iff_not];have mC: ∀c,c∈cF n a b↔ ∃k,k<(((b:Int) -a) % n).toNat/\(a+k) % n=c:=λc=>by
  unfold cF;rw[PU];exact⟨λ⟨k,hk,e⟩=>⟨k,by simpa using hk,e⟩,λ⟨k,hk,e⟩=>⟨k,by simpa using hk,e⟩⟩
 have mR: ∀y,y∈cF n (o.getD a 0) (o.getD b 0)↔ ∃k,k<(((o.getD b 0:Int) -o.getD a 0) % n).toNat/\(o.getD a 0+k) % n=y:=λc=>by
  unfold cF;rw[PU];exact⟨λ⟨k,hk,e⟩=>⟨k,by simpa using hk,e⟩,λ⟨k,hk,e⟩=>⟨k,by simpa using hk,e⟩⟩
 constructor
 ·rintro⟨h1,h2,h3⟩ k hk;refine⟨?_,λi hi=>?_⟩
  ·by_cases c:0<k
   ·right;cases e:bv n (o.getD a 0) (o.getD b 0) (o.getD ((a+k) % n) 0) with
    |false=>rfl
    |true=>exact absurd ⟨c,e⟩ (h1 k hk)
   ·exact .inl c
  ·by_cases c:(a+k) % n=col
   ·rw[c,hB i hi,<-uy hi];exact h3 i hi
   ·rw[hS _ _ c];have:=h2 ((a+k) % n) ⟨(mC _).mpr ⟨k,hk,rfl⟩,c⟩;simp only[YS] at this;exact(Tz.mp this _ ((mR _).mpr ⟨i,hi,rfl⟩)|>λw=>by simpa using w)
 ·intro H;refine⟨λk hk ⟨w1,w2⟩=>?_,λc ⟨hc,hne⟩=>?_,λi hi=>?_⟩
  ·rcases(H k hk).1 with z|z
   ·exact z w1
   ·rw[z] at w2;cases w2
  ·obtain⟨k,hk,rfl⟩:=(mC c).mp hc;simp only[YS];refine Tz.mpr λy hy=>?_
   obtain⟨i,hi,rfl⟩:=(mR y).mp hy;have:=(H k hk).2 i hi;rw[hS _ _ hne] at this;rw[this];decide
  ·obtain⟨k,hk,e⟩:=(mC col).mp hcol;have:=(H k hk).2 i hi;rw[e,hB i hi,<-uy hi] at this;exact this
theorem uw(R:List Nat)(T:Nat):(R.filter λy=>decide (y∈[T]))=Py (R.count T) T:=by
 rw[<-List.filter_beq];congr 1;funext y;rw[Qd];simp
theorem Hv(h:0<n)(s e:Nat):(cF n s e).Nodup:=by
 unfold cF;have m:=pS ((e:Int) -s) h;refine jfY (R:=λi j:Nat=>i<n/\j<n/\i≠j) _ (λi j a d=>?_) ?_
 ·obtain⟨k,l,o⟩:=a;have b:=Zl (s+i) n;have g:=Zl (s+j) n;rw[d] at b;rcases Sf ((s+i) / n) ((s+j) / n) with q|q|q
  ·have:n*((s+i) / n)+n<=n*((s+j) / n):=by rw[<-WJ];exact Xy _ q
   lia
  ·rw[q] at b;lia
  ·have:n*((s+j) / n)+n<=n*((s+i) / n):=by rw[<-WJ];exact Xy _ q
   lia
 ·refine QO (λ{i j} f c (a:i≠j)=>⟨?_,?_,a⟩) Qf
  ·have:=Pj.mp f;lia
  ·have:=Pj.mp c;lia
theorem JK {n s e T:Nat}(c:s<n)(b:T<n)(a:(((T:Int) -s) % n).toNat<(((e:Int) -s) % n).toNat):(cF n s e).getD (((T:Int) -s) % n).toNat 0=T:=by
 rw[uy a];exact yP c b
theorem C9 {n s e T:Nat}(b:s<n)(a:T<n):T∈cF n s e↔(((T:Int) -s) % n).toNat<(((e:Int) -s) % n).toNat:=by
 rw[jt (by lia) b,fN (by lia)];exact⟨λq=>q.2,λq=>⟨a,q⟩⟩
theorem ED{S:iq}{o:List Nat}(O:Ord n o){a b col T:Nat}(p:a<n)(t:b<n)(r:a≠b)(k:T<n){d:List iq}{side:Nat->Nat->iq}(i:col∈cF n a b)(q: ∀c h,c≠col->side c h=S)
 (s: ∀h,side col h=d.getD (if(((T:Int) -o.getD a 0) % n).toNat<h then 1 else 0) ([],[])):
 cy n S o a b col d [T]=(decide ((((T:Int) -o.getD a 0) % n).toNat<(((o.getD b 0:Int) -o.getD a 0) % n).toNat)&&k8 n o a b side):=by
 have h:0<n:=by lia
 have l:=Hv h (o.getD a 0) (o.getD b 0);have j:=O.get p;unfold cy
 by_cases f:(((T:Int) -o.getD a 0) % n).toNat<(((o.getD b 0:Int) -o.getD a 0) % n).toNat
 ·have m:=(C9 (e:=o.getD b 0) j k).mpr f;have g:=JK (e:=o.getD b 0) j k f;have c:=UU.mp l T;have u:=RI.mpr m;rw[lm f,uw,show(cF n (o.getD a 0) (o.getD b 0)).count T=1 by lia,lm (by rfl),Qn,Qn];refine qF O p t r i q λh v=>?_
  rw[s,uw,UB,EF l (by rw[rA];exact f) g]
 ·have m: ¬T∈cF n (o.getD a 0) (o.getD b 0):=λw=>f ((C9 j k).mp w)
  rw[lC f,uw,VA.mpr m,lC (by simp),Rv,Rv]
def Na(a f g col h:Nat):Bool:=decide (col=a)&&(decide (f<h)&&decide (h<=g))
def Lb(S O:iq)(a f g col h:Nat):iq:=if Na a f g col h=true then O else S
theorem J8: ∀n:Nat,n<=5-> ∀s:Nat,s<n-> ∀e:Nat,e<n-> ∀p:Nat,p<n-> ∀q:Nat,q<n->decide ((cF n s e).filter (λy=>decide (y∈[p,q]))=[p,q])=(decide ((((p:Int) -s) % n).toNat<(((q:Int) -s) % n).toNat)&&decide ((((q:Int) -s) % n).toNat<(((e:Int) -s) % n).toNat)):=by decide+kernel
def Lm(n s e p q h:Nat):Bool:= !decide ((((p:Int) -s) % n).toNat<(((q:Int) -s) % n).toNat)||(!decide ((((q:Int) -s) % n).toNat<(((e:Int) -s) % n).toNat)||decide ((((cF n s e).take h).filter λy=>decide (y∈[p,q])).length=(if(((p:Int) -s) % n).toNat<h then 1 else 0)+(if(((q:Int) -s) % n).toNat<h then 1 else 0))|| !decide (h<(((e:Int) -s) % n).toNat))
theorem Hf:((Pi 6).all λn=>(Pi n).all λs=>(Pi n).all λe=>(Pi n).all λp=>(Pi n).all λq=>(Pi n).all λh=>Lm n s e p q h)=true:=by decide+kernel
theorem GH(n:Nat)(l:n<=5)(s:Nat)(j:s<n)(e:Nat)(f:e<n)(p:Nat)(d:p<n)(q:Nat)(g:q<n)(a:(((p:Int) -s) % n).toNat<(((q:Int) -s) % n).toNat)(h:Nat)(c:h<(((e:Int) -s) % n).toNat)(b:(((q:Int) -s) % n).toNat<(((e:Int) -s) % n).toNat):(((cF n s e).take h).filter λy=>decide (y∈[p,q])).length=(if(((p:Int) -s) % n).toNat<h then 1 else 0)+(if(((q:Int) -s) % n).toNat<h then 1 else 0):=by
 have i:h<n:=by have:=pS ((e:Int) -s) (show 0<n by lia);lia
 have k:=Hf;have k:=Pw.mp k n (Pj.mpr (by lia));have k:=Pw.mp k s (Pj.mpr j);have k:=Pw.mp k e (Pj.mpr f);have k:=Pw.mp k p (Pj.mpr d);have k:=Pw.mp k q (Pj.mpr g);have k:=Pw.mp k h (Pj.mpr i);unfold Lm at k;rw[lm a,lm b,lm c,Rs,RS,RS,VZ] at k;exact of_decide_eq_true k
theorem C4(t:n<=5){S O:iq}{o:List Nat}(i:Ord n o){a b col p q:Nat}(w:a<n)(x:b<n)(y:a≠b)(u:p<n)(l:q<n)(d:col∈cF n a b)(v:f=(((p:Int) -o.getD a 0) % n).toNat)(m:g=(((q:Int) -o.getD a 0) % n).toNat):
 cy n S o a b col [S,O,S] [p,q]=((decide (f<g)&&decide (g<(((o.getD b 0:Int) -o.getD a 0) % n).toNat))&&k8 n o a b (Lb S O col f g)):=by
 have j:=i.get w;have k:=i.get x;unfold cy;rw[J8 n t _ j _ k p u q l,<-v,<-m]
 by_cases s:f<g/\g<(((o.getD b 0:Int) -o.getD a 0) % n).toNat
 ·rw[lm s.1,lm s.2,Qn,Qn];rw[Qn];refine qF i w x y d (λB h e=>?_) λh A=>?_
  ·unfold Lb Na;rw[lC e];simp
  ·rw[GH n t _ j _ k p u q l (by lia) h A (by lia),<-v,<-m];unfold Lb Na;rw[lm (rfl:col=col),Qn]
   by_cases c:f<h
   ·by_cases r:g<h
    ·rw[if_pos c,if_pos r,lm c,lC (show¬h<=g by lia)];simp
    ·rw[if_pos c,if_neg r,lm c,lm (show h<=g by lia)];simp
   ·rw[if_neg c,if_neg (show¬g<h by lia),lC c];simp
 ·have z:(decide (f<g)&&decide (g<(((o.getD b 0:Int) -o.getD a 0) % n).toNat))=false:=by
   rw[Tu,decide_eq_false_iff_not,decide_eq_false_iff_not];lia
  rw[z,Rv,Rv]
theorem Dh: ∀n,n<=5-> ∀s,s<n-> ∀h,h<n->((((s+h) % n:Nat):Int) -s) % n=h:=by decide+kernel
theorem Ab {n s e h:Nat}(b:n<=5)(c:s<n)(a:h<n):bv n s e ((s+h) % n)=true↔h<(((e:Int) -s) % n).toNat:=by
 rw[fN (by lia),Dh n b s c h a];simp
theorem tT(g:n<=5){o:List Nat}(O:Ord n o)(d:a<n)(s:b<n)(p:a≠b):k8 n o a b side=true↔bH o a b=true/\ ∀k,k<n->bv n a b k=true-> ∀y,y<n->bv n (o.getD a 0) (o.getD b 0) y=true->qm (side k (((y:Int) -o.getD a 0) % n).toNat) k y=false:=by
 have h:0<n:=by lia
 have f:=O.get d;rw[xY O d s p];unfold k8 zh;simp only[Pw,Pj,Ps,QZ,Tu,decide_eq_false_iff_not];have x:=pS ((b:Int) -a) h;have A:=pS ((o.getD b 0:Int) -o.getD a 0) h;constructor
 ·intro H;refine⟨λk c ⟨t,l⟩=>?_,λk c r y v i=>?_⟩
  ·rcases(H k c).1 with z|z
   ·exact z t
   ·rw[z] at l;cases l
  ·have m:=(fN h).mp r;have i2:=(fN h).mp i;have:=(H _ m).2 _ i2;rwa [yP d c,yP f v] at this
 ·rintro⟨u,w⟩ k c;refine⟨?_,λj i=>?_⟩
  ·by_cases q:0<k
   ·right;cases e:bv n (o.getD a 0) (o.getD b 0) (o.getD ((a+k) % n) 0) with
    |false=>rfl
    |true=>exact absurd ⟨q,e⟩ (u k c)
   ·exact .inl q
  ·have:=w ((a+k) % n) (RT _ h) ((Ab g d (by lia)).mpr c) ((o.getD a 0+j) % n) (RT _ h) ((Ab g f (by lia)).mpr i);rwa [Dh n g _ f j (by lia),Rt] at this
def OJ(n s e T y:Nat):Bool:= !bv n s e T||(((bv n s e y&&decide ((((y:Int) -s) % n).toNat<=(((T:Int) -s) % n).toNat))==bv n s (dG n T) y)&&((bv n s e y&&decide ((((T:Int) -s) % n).toNat<(((y:Int) -s) % n).toNat))==bv n (dG n T) e y))
theorem MH:((Pi 6).all λn=>(Pi n).all λs=>(Pi n).all λe=>(Pi n).all λT=>(Pi n).all λy=>OJ n s e T y)=true:=by decide+kernel
theorem pr(f:n<=5)(d:s<n)(b:e<n)(a:T<n)(c:y<n)(h:bv n s e T=true):(bv n s (dG n T) y=(bv n s e y&&decide ((((y:Int) -s) % n).toNat<=(((T:Int) -s) % n).toNat)))/\(bv n (dG n T) e y=(bv n s e y&&decide ((((T:Int) -s) % n).toNat<(((y:Int) -s) % n).toNat))):=by
 have k:=MH;have k:=Pw.mp k n (Pj.mpr (by lia));have k:=Pw.mp k s (Pj.mpr d);have k:=Pw.mp k e (Pj.mpr b);have k:=Pw.mp k T (Pj.mpr a);have k:=Pw.mp k y (Pj.mpr c);unfold OJ at k;rw[h,Rs,RS,Ps,beq_iff_eq,beq_iff_eq] at k;exact⟨k.1.symm,k.2.symm⟩
theorem j0 {S:iq}:qm S k y=false↔y≠S.1.getD k 0/\y≠S.2.getD k 0:=by
 unfold qm;rw[decide_eq_false_iff_not,not_or]
theorem jK {n:Nat}{S:iq}(c:S.1.getD col 0<n)(d:S.2.getD col 0<n)(f:Nat->Bool):(∀y,y<n->f y=true->qm S col y=false)↔(f (S.1.getD col 0)=false/\f (S.2.getD col 0)=false):=by
 constructor
 ·intro H;constructor
  ·cases e:f (S.1.getD col 0) with
   |false=>rfl
   |true=>exact absurd rfl (j0.mp (H _ c e)).1
  ·cases e:f (S.2.getD col 0) with
   |false=>rfl
   |true=>exact absurd rfl (j0.mp (H _ d e)).2
 ·rintro⟨g,b⟩ y h a;exact j0.mpr ⟨λe=>(by rw[e,g] at a;cases a),λe=>(by rw[e,b] at a;cases a)⟩
theorem uf{S:iq}{o:List Nat}(c:S.1.getD k 0<n)(d:S.2.getD k 0<n):(bv n a b k=true-> ∀y,y<n->bv n (o.getD a 0) (o.getD b 0) y=true->qm S k y=false)↔(pk n o (a,b) k (S.1.getD k 0)=false/\pk n o (a,b) k (S.2.getD k 0)=false):=by
 unfold pk;cases e:bv n a b k with
 |false=>simp
 |true=>
  rw[Qn,Qn];exact⟨λH=>(jK c d λy=>bv n (o.getD a 0) (o.getD b 0) y).mp (H rfl),λH _=>(jK c d λy=>bv n (o.getD a 0) (o.getD b 0) y).mpr H⟩
def Ga(n:Nat)(S:iq):Prop:= ∀k,k<n->S.1.getD k 0<n/\S.2.getD k 0<n
theorem xR(s:n<=5){S g l:iq}(v:Ga n S)(A:Ga n g)(E:Ga n l){o:List Nat}(O:Ord n o)(x:a<n)(z:b<n)(B:a≠b)(r:T<n)(p:col<n)(C:bv n a b col=true):
 cy n S o a b col [g,l] [T]=true↔bH o a b=true/\(bv n (o.getD a 0) (o.getD b 0) T=true/\(vV n (o.getD a 0) (dG n T) (g.1.getD col 0) (g.2.getD col 0)/\vV n (dG n T) (o.getD b 0) (l.1.getD col 0) (l.2.getD col 0)))/\ ∀k,k<n->k≠col->pk n o (a,b) k (S.1.getD k 0)=false/\pk n o (a,b) k (S.2.getD k 0)=false:=by
 have h:0<n:=by lia
 have t:=O.get x;have u:=O.get z
 let side:Nat->Nat->iq:=λk j=>if k=col then [g,l].getD (if(((T:Int) -o.getD a 0) % n).toNat<j then 1 else 0) ([],[]) else S
 rw[ED O x z B r (side:=side) ((jt h x b col).mpr ⟨p,C⟩) (λk j w=>if_neg w) (λj=>if_pos rfl),Ps,lb,<-fN h,tT s O x z B];have D:bv n (o.getD a 0) (o.getD b 0) T=true->((∀y,y<n->bv n (o.getD a 0) (o.getD b 0) y=true->qm (side col (((y:Int) -o.getD a 0) % n).toNat) col y=false)↔(vV n (o.getD a 0) (dG n T) (g.1.getD col 0) (g.2.getD col 0)/\vV n (dG n T) (o.getD b 0) (l.1.getD col 0) (l.2.getD col 0))):=λf=>by
  have F:=jK (A col p).1 (A col p).2 (λy=>bv n (o.getD a 0) (dG n T) y);have I:=jK (E col p).1 (E col p).2 (λy=>bv n (dG n T) (o.getD b 0) y);unfold vV;rw[<-F,<-I];constructor
  ·intro H;refine⟨λy d w=>?_,λy d w=>?_⟩
   ·rw[(pr s t u r d f).1,Ps,lb] at w;have:=H y d w.1;rw[show side col (((y:Int) -o.getD a 0) % n).toNat=g by show(if col=col then _ else _)=_;rw[if_pos rfl,if_neg (by lia)];rfl] at this;exact this
   ·rw[(pr s t u r d f).2,Ps,lb] at w;have:=H y d w.1;rw[show side col (((y:Int) -o.getD a 0) % n).toNat=l by show(if col=col then _ else _)=_;rw[if_pos rfl,if_pos w.2];rfl] at this;exact this
  ·rintro⟨J,G⟩ y d w
   by_cases q:(((T:Int) -o.getD a 0) % n).toNat<(((y:Int) -o.getD a 0) % n).toNat
   ·rw[show side col (((y:Int) -o.getD a 0) % n).toNat=l by show(if col=col then _ else _)=_;rw[if_pos rfl,if_pos q];rfl];exact G y d (by rw[(pr s t u r d f).2,w,lm q];rfl)
   ·rw[show side col (((y:Int) -o.getD a 0) % n).toNat=g by show(if col=col then _ else _)=_;rw[if_pos rfl,if_neg q];rfl];exact J y d (by rw[(pr s t u r d f).1,w,lm (show _<=_ by lia)];rfl)
 constructor
 ·rintro⟨f,e,H⟩;refine⟨e,⟨f,(D f).mp (H col p C)⟩,λk m w=>(uf (v k m).1 (v k m).2).mp λi y d j=>?_⟩;have:=H k m i y d j;rwa [show side k (((y:Int) -o.getD a 0) % n).toNat=S from if_neg w] at this
 ·rintro⟨e,⟨f,c⟩,H⟩;refine⟨f,e,λk m i y d j=>?_⟩
  by_cases w:k=col
  ·subst w;exact(D f).mpr c y d j
  ·rw[show side k (((y:Int) -o.getD a 0) % n).toNat=S from if_neg w];exact(uf (v k m).1 (v k m).2).mpr (H k m w) i y d j
def NE(n c:Nat)(S O:iq)(T:Nat)(o:List Nat)(a b:Nat):Bool:=(decide (a=c+1)&&cy n S o (c+1) b (c+1) [S,O] [T])||(decide (b=c+1)&&cy n S o a (c+1) c [O,S] [T])
theorem GB(E:n<=5)(z:c+1<n){S O:iq}(u:Ga n S)(I:Ga n O){r x:List Nat}(v: ∀k,k<n->k≠c->k≠c+1->S.1.getD k 0=r.getD k 0/\S.2.getD k 0=x.getD k 0)(K:O.1.getD c 0=S.1.getD (c+1) 0)(s2:O.2.getD c 0=S.2.getD (c+1) 0)(J:O.1.getD (c+1) 0=S.1.getD c 0)(L:O.2.getD (c+1) 0=S.2.getD c 0)(C:T<n)(F:Ord n o)(B:a<n)(y:b<n)(A:a≠b):
 NE n c S O T o a b=true↔FF n c r x T (S.1.getD (c+1) 0) (S.2.getD (c+1) 0) (S.1.getD c 0) (S.2.getD c 0) o a b:=by
 have h:c<n:=by lia
 have D: ∀ {col t:Nat},bv n a b t=false->(col=c/\t=c+1\/col=c+1/\t=c)->((∀k,k<n->k≠col->pk n o (a,b) k (S.1.getD k 0)=false/\pk n o (a,b) k (S.2.getD k 0)=false)↔Lh n c r x o a b):=λ{col t} M l=>by
  constructor
  ·intro H k j q p;rw[<-(v k j q p).1,<-(v k j q p).2];exact H k j (by rcases l with⟨e,_⟩|⟨e,_⟩<;>rw[e]<;>assumption)
  ·intro H k j w
   by_cases e:k=t
   ·subst e;unfold pk;rw[M];exact⟨rfl,rfl⟩
   ·have q:k≠c:=by rcases l with⟨d,s⟩|⟨d,s⟩<;>lia
    have p:k≠c+1:=by rcases l with⟨d,s⟩|⟨d,s⟩<;>lia
    have:=H k j q p;rwa [<-(v k j q p).1,<-(v k j q p).2] at this
 unfold NE FF;rw[Ra,Ps,Ps,lb,lb]
 by_cases d:a=c+1
 ·subst d;have G:b≠c+1:=λe=>A e.symm
  have f:=kZ n (by lia) c h z b y G;rw[xR E u u I F B y A C z f.2.2.2,D f.1 (.inr ⟨rfl,rfl⟩),J,L];constructor
  ·rintro(⟨_,m,g,i⟩|⟨w,_⟩)
   ·exact⟨m,⟨.inl rfl,g⟩,i⟩
   ·exact absurd w G
  ·rintro⟨m,⟨_,g⟩,i⟩;exact .inl ⟨rfl,m,g,i⟩
 ·by_cases s:b=c+1
  ·subst s;have f:=kZ n (by lia) c h z a B d;rw[xR E u I u F B y A C h f.2.1,D f.2.2.1 (.inl ⟨rfl,rfl⟩),K,s2];constructor
   ·rintro(⟨w,_⟩|⟨_,m,g,i⟩)
    ·exact absurd w d
    ·exact⟨m,⟨.inr rfl,g⟩,i⟩
   ·rintro⟨m,⟨_,g⟩,i⟩;exact .inr ⟨rfl,m,g,i⟩
  ·constructor
   ·rintro(⟨w,_⟩|⟨w,_⟩)
    ·exact absurd w d
    ·exact absurd w s
   ·rintro⟨_,⟨w,_⟩,_⟩;exact absurd w (by lia)
theorem oq(u:i<n)(P Q:Nat->Bool)(o:List Nat):(hJ n P Q o i).Perm ((sp n λa b=>(decide (a=i)&&P b)||(decide (b=i)&&Q a)).map λp=>bA o p.1 p.2):=by
 have z:(hJ n P Q o i).Perm (((Pi n).flatMap λj=>if(decide (j≠i)&&P j)=true then [(i,j)] else []).map (λp=>bA o p.1 p.2)++((Pi n).flatMap λj=>if(decide (j≠i)&&Q j)=true then [(j,i)] else []).map (λp=>bA o p.1 p.2)):=by
  unfold hJ oE;generalize Pi n=l
  induction l with
  |nil=>exact .nil
  |cons j l F=>
   rw[Qj,Qj,Qj,Qm,Qm];have G:(if(decide (j≠i)&&P j)=true then [bA o i j] else [])=(if(decide (j≠i)&&P j)=true then [(i,j)] else []).map (λp:Nat×Nat=>bA o p.1 p.2):=by split<;>rfl
   have E:(if(decide (j≠i)&&Q j)=true then [bA o j i] else [])=(if(decide (j≠i)&&Q j)=true then [(j,i)] else []).map (λp:Nat×Nat=>bA o p.1 p.2):=by split<;>rfl
   rw[G,E];generalize (if(decide (j≠i)&&P j)=true then [(i,j)] else []).map (λp:Nat×Nat=>bA o p.1 p.2)=A;generalize (if(decide (j≠i)&&Q j)=true then [(j,i)] else []).map (λp:Nat×Nat=>bA o p.1 p.2)=B;refine(Ts (A++B) F).trans ?_
   rw[QP,QP];refine Ts A ?_
   rw[<-QP,<-QP];exact Ux _ WZ
 rw[<-Qm] at z;refine z.trans (jaE _ ((Qe ?_ (Mj n _)).mpr λp=>?_))
 ·rw[Q6];have v: ∀(f:Nat->Bool) (g:Nat->Nat×Nat),(∀a b,g a=g b->a=b)->((Pi n).flatMap λj=>if f j=true then [g j] else []).Nodup:=λf g D=>by
   rw[Rw,UC];refine⟨λj _=>by split<;>simp,Qf.imp λ{a b} h x r y m e=>h ?_⟩;split at r
   ·split at m
    ·rw[PQ] at r m;exact D _ _ (r.symm.trans (e.trans m))
    ·cases m
   ·cases r
  refine⟨v _ _ λa b e=>(Y4 e).2,v _ _ λa b e=>(Y4 e).1,λx r y m e=>?_⟩;obtain⟨j,_,d⟩:=Rf.mp r;obtain⟨k,_,s⟩:=Rf.mp m;split at d
  ·rename_i c
   split at s
   ·rw[PQ] at d s;rw[d,s] at e;rw[Ps,lb] at c;exact c.1 (Y4 e).2
   ·cases s
  ·cases d
 ·rw[QL,Rf,Rf,iT];constructor
  ·rintro(⟨j,d,w⟩|⟨j,d,w⟩)
   ·split at w
    ·rename_i c
     rw[Ps,lb] at c;rw[PQ] at w;subst w;exact⟨u,Pj.mp d,λe=>c.1 e.symm,by show((decide (i=i)&&P j)||_)=true;rw[c.2];simp⟩
    ·cases w
   ·split at w
    ·rename_i c
     rw[Ps,lb] at c;rw[PQ] at w;subst w;exact⟨Pj.mp d,u,c.1,by show(_||(decide (i=i)&&Q j))=true;rw[c.2];simp⟩
    ·cases w
  ·rintro⟨H,I,C,t⟩;rw[Ra,Ps,Ps,lb,lb] at t;obtain⟨a,b⟩:=p;rcases t with⟨e,q⟩|⟨e,q⟩
   ·left;have e:a=i:=e;subst e;exact⟨b,Pj.mpr I,by rw[if_pos (by rw[lm (show b≠a from λw=>C w.symm)];exact q)];exact PQ.mpr rfl⟩
   ·right;have e:b=i:=e;subst e;exact⟨a,Pj.mpr H,by rw[if_pos (by rw[lm C];exact q)];exact PQ.mpr rfl⟩
theorem J0(p a b:Nat):oh p (min a b) (max a b)=oh p a b:=by
 rcases Nat.le_total a b with h|h
 ·rw[U4 h,YT h]
 ·rw[UM h,Zm h];exact qv p b a
theorem MP(a b:Nat):dv [.tup [nI a,nI b]]=some (.lst [nI (min a b),nI (max a b)]):=by
 show(iC ([a,b].map nI)).map D.lst=_;unfold iC;rw[if_pos (by simp)];have e:[a,b].map nI=([a,b].map λ(v:Nat)=>(v:Int)).map D.int:=by rw[PM];rfl
 rw[e,kI];have:[min a b,max a b].map (λ(v:Nat)=>(v:Int))=bC Cd ([a,b].map λ(v:Nat)=>(v:Int)):=by
  refine lz HQ (jaE _ ?_) ?_
  ·by_cases h:a<=b
   ·rw[U4 h,YT h]
   ·rw[UM (by lia),Zm (by lia)];exact Xb _ _ _
  ·simp only[Pu,SQ,Sy,PQ,forall_eq,Si,and_true,Q5,false_implies,implies_true];simp only[Cd,decide_eq_false_iff_not];lia
 show some (D.lst ((bC Cd ([a,b].map λ(v:Nat)=>(v:Int))).map D.int))=_;rw[<-this,PM];rfl
theorem Ii(p a b:Nat):cg [nI p,nI a,nI b]=some (.bl (oh p a b)):=by
 apply bj (kd:=.s) (n:=3) (t:=gV);unfold gV;have mn:ak lO (aa (ai 1) (aa (ai 2) (aj))) (kG 3 [nI p,nI a,nI b])=some (nI (min a b)):=by
  refine(bP (ds:=[nI a,nI b]) rfl).trans ?_
  show some (D.int _)=some (D.int _);congr 2;split<;>lia
 have mx:ak wg (aa (ai 1) (aa (ai 2) (aj))) (kG 3 [nI p,nI a,nI b])=some (nI (max a b)):=by
  refine(bP (ds:=[nI a,nI b]) rfl).trans ?_
  show some (D.int _)=some (D.int _);congr 2;split<;>lia
 refine a7 ((zH (F:=Da) (G:=Da) (g:=ai 0) (y:=nI p) mn rfl (qb _ _) mx (qb _ _)).trans ?_);have e:(decide (((min a b:Nat):Int)<(p:Int))&&decide ((p:Int)<((max a b:Nat):Int)))=oh p a b:=by
  unfold oh;rw[Qd];simp only[Ps,lb];lia
 rw[e]
section
variable {n:Nat}{r x:List Nat}{c:Nat}(hr:r.length=n)(hx:x.length=n)(hc:c+1<n)
include hr hx hc
theorem ue(h:NI n (r.getD c 0) (x.getD c 0) (r.getD (c+1) 0) (x.getD (c+1) 0)):c6 [cH r x,nI c]=some (nI (if oh (r.getD (c+1) 0) (r.getD c 0) (x.getD c 0)=true then min (r.getD c 0) (x.getD c 0) else max (r.getD c 0) (x.getD c 0))):=by
 refine rK (kd:=.s) (n:=6) (t:=ou) ?_
 unfold ou
 let a:=r.getD c 0
 let b:=x.getD c 0
 let ρ:aG:=[.v (cH r x),.v (nI c),.v (ax r),.v (ax x),.v (nI (min a b)),.v (nI (max a b))]
 have m:cD (gT 2 (cS (gN 2) (cS (gN 3) (gX)))) (pu (ai 0)) (kG 6 [cH r x,nI c])=.nx [.v (cH r x),.v (nI c),.v (ax r),.v (ax x),.no,.no]:=dW (fU rfl) rfl;have k: ∀g f,av br (ai 2) (ai 1) [.v (cH r x),.v (nI c),.v (ax r),.v (ax x),g,f]=some (nI a):=λ_ _=>(aA (x:=ax r) (y:=nI c) rfl rfl).trans (gj (by lia))
 have l: ∀g f,av br (ai 3) (ai 1) [.v (cH r x),.v (nI c),.v (ax r),.v (ax x),g,f]=some (nI b):=λ_ _=>(aA (x:=ax x) (y:=nI c) rfl rfl).trans (gj (by lia))
 have j:cD (gL 2 (cS (gN 4) (cS (gN 5) (gX)))) (pu (ak dv (aa (cu (aa (av br (ai 2) (ai 1)) (aa (av br (ai 3) (ai 1)) (aj)))) (aj)))) [.v (cH r x),.v (nI c),.v (ax r),.v (ax x),.no,.no]=.nx ρ:=
  dW (fU ((bP (ds:=[.tup [nI a,nI b]]) (am (bS (am (k _ _) (am (l _ _) rfl)) (by simp)) rfl)).trans (MP a b))) rfl
 have i:av br (ai 2) (av bL (ai 1) (aC (.int 1))) ρ=some (nI (r.getD (c+1) 0)):=(aA (x:=ax r) rfl ((aA (x:=nI c) (y:=.int 1) rfl rfl).trans (C8 c))).trans (gj (by lia));have d:dJ (ak (nF 3 cg) (aa (av br (ai 2) (av bL (ai 1) (aC (.int 1)))) (aa (ai 4) (aa (ai 5) (aj))))) ρ=some (oh (r.getD (c+1) 0) a b):=by
  refine gB ((aN (ds:=[nI (r.getD (c+1) 0),nI (min a b),nI (max a b)]) (am i rfl) rfl).trans ((Ii _ _ _).trans ?_));rw[J0]
 refine⟨ρ,(ay m).trans ((ay j).trans (a7 ?_))⟩;show Iu _ _ _ ρ=some (nI (if oh (r.getD (c+1) 0) a b=true then min a b else max a b));cases e:oh (r.getD (c+1) 0) a b with
 |true=>rw[e] at d;exact(Mt d).trans rfl
 |false=>rw[e] at d;exact(Me d).trans rfl
end
theorem Mp {n:Nat}{l:List Nat}(p:l.length=4)(q:l.Nodup)(lt: ∀v∈l,v<n): ∃d c b a:Nat,dv [.lst (l.map nI)]=some (.lst ([d,c,b,a].map nI))/\d<c/\c<b/\b<a/\a<n:=by
 have k:(bC Cd (l.map λ(v:Nat)=>(v:Int))).Perm (l.map λ(v:Nat)=>(v:Int)):=aM _;have j:=lc HQ (l.map λ(v:Nat)=>(v:Int));have m:dv [.lst (l.map nI)]=some (.lst ((bC Cd (l.map λ(v:Nat)=>(v:Int))).map D.int)):=by
  show(iC (l.map nI)).map D.lst=_;unfold iC;rw[if_pos (by rw[Pp];lia)];have e:l.map nI=(l.map λ(v:Nat)=>(v:Int)).map D.int:=by rw[PM];rfl
  rw[e,kI];rfl
 generalize bC Cd (l.map λ(v:Nat)=>(v:Int))=L at k j m;have o:L=(L.map Wo).map λ(v:Nat)=>(v:Int):=by
  rw[PM]
  conv=>lhs;rw[<-VT L]
  refine P2 λz r=>?_
  obtain⟨v,_,rfl⟩:=PU.mp (k.mem_iff.mp r);simp
 have f:(L.map Wo).Perm l:=by
  have:=k.map Wo;rw[PM] at this;have e:l.map (Wo∘λ(v:Nat)=>(v:Int))=l:=by
   conv=>rhs;rw[<-VT l]
   exact P2 λv _=>by simp
  rw[e] at this;exact this
 generalize L.map Wo=M at o f;subst o;have h:M.length=4:=f.length_eq.trans p;have g:M.Nodup:=f.nodup_iff.mpr q;have i: ∀v∈M,v<n:=λv hv=>lt v (f.mem_iff.mp hv)
 rw[QI] at j
 match M,h with
 | [d,c,b,a],_=>
   refine⟨d,c,b,a,by rw[m,PM];rfl,?_,?_,?_,i a (by simp)⟩
   all_goals
    simp only[Sy,PX,Q5,or_false,forall_eq_or_imp,forall_eq,Si,and_true,Cd,decide_eq_false_iff_not,RD,not_or] at j g;lia
theorem Dm(l:List Nat)(a:Nat):mz (l.map nI) (some (a:Int)) none=(l.drop a).map nI:=by
 unfold mz;rw[HT.sIx_none,HT.sIx_nat,Pp]
 by_cases h:a<=l.length
 ·rw[U4 h,Rx (by simp),XD]
 ·rw[UM (by lia),Wr,List.take_zero,Su (by lia)];rfl
theorem Fw(l:List Nat)(a:Nat):mz (l.map nI) none (some (a:Int))=(l.take a).map nI:=by
 unfold mz;rw[HT.sIx_none,HT.sIx_nat,Pp,Ut,Nat.sub_zero,VW]
 by_cases h:a<=l.length
 ·rw[U4 h]
 ·rw[UM (by lia),Rx (by simp),Rx (by simp;lia)]
theorem EO(l m:List Nat)(h:l.length+m.length<=900):gI (.lst (l.map nI)) (.lst (m.map nI))=some (.lst ((l++m).map nI)):=by
 have:gI (.lst (l.map nI)) (.lst (m.map nI))=some (.lst (l.map nI++m.map nI)):=if_pos (by rw[Pp,Pp];exact Qh h (by decide));rw[this,Qm]
theorem m6 {f:FE}{l:List Nat}{g:FE}{a:Nat}(b:f ρ=some (.lst (l.map nI)))(c:g ρ=some (nI a)):fx f (j5 g) og ρ=some (.lst ((l.drop a).map nI)):=by
 unfold fx j5 og;rw[b,Pt];dsimp only;rw[c];show some (D.lst (mz (l.map nI) (some (a:Int)) none))=_;rw[Dm]
theorem uQ {f:FE}{l:List Nat}{g:FE}{a:Nat}(b:f ρ=some (.lst (l.map nI)))(c:g ρ=some (nI a)):fx f og (j5 g) ρ=some (.lst ((l.take a).map nI)):=by
 unfold fx j5 og;rw[b,Pt];dsimp only;rw[c];show some (D.lst (mz (l.map nI) none (some (a:Int))))=_;rw[Fw]
abbrev eD(a:List D)(n:Nat)(t:List Sl):aG:=.arg a:: .v (nI n)::t
theorem Hh {N:Nat}(B:Bag N a b)(x:N<=1000)(n c:Nat): ∃(h j f g:Int) (q p:Int),(0<=h/\h<2)/\(0<=j/\j<2)/\(0<=f/\f<2)/\(0<=g/\g<2)/\Bag (N+4) q p/\
 fh 1 (cq (eV (aa (aC (.int 4)) (aj)))) (gN 14) (cj) (aJ 0 1 aR (cq (aa (aC (.int 2)) (aj)))) (eD (aF a b) n [.v (nI c),.no,.no,.no,.no,.no,.no,.no,.no,.no,.no,.no])=some (.lst [.int h,.int j,.int f,.int g],eD (aF q p) n [.v (nI c),.no,.no,.no,.no,.no,.no,.no,.no,.no,.no,.no]):=by
 have e: ∀ {N:Nat} {a b:Int} (B:Bag N a b) (x:N<=2000) (k:Nat) (l:List D),∃(w q p:Int),(0<=w/\w<2)/\Bag (N+1) q p/\
  dZ (gN 14) (cj) (aJ 0 1 aR (cq (aa (aC (.int 2)) (aj)))) (nI k::l) (eD (aF a b) n [.v (nI c),.no,.no,.no,.no,.no,.no,.no,.no,.no,.no,.no,.no])=(dZ (gN 14) (cj) (aJ 0 1 aR (cq (aa (aC (.int 2)) (aj)))) l (eD (aF q p) n [.v (nI c),.no,.no,.no,.no,.no,.no,.no,.no,.no,.no,.no,.no])).map λz=>(D.int w::z.1,z.2):=by
  intro N a b B x k l;obtain⟨d,r,o,t,s,H,O⟩:=nE (m:=2) B (by lia) (by decide) (by decide);refine⟨d,r,o,⟨H,O⟩,s,?_⟩;have F:aJ 0 1 aR (cq (aa (aC (.int 2)) (aj))) (eD (aF a b) n [.v (nI c),.no,.no,.no,.no,.no,.no,.no,.no,.no,.no,.no,.v (nI k)])=some (.int d,eD (aF r o) n [.v (nI c),.no,.no,.no,.no,.no,.no,.no,.no,.no,.no,.no,.v (nI k)]):=
   cN (i:=0) (n:=1) (b0:=aF a b) (ds:=[.int 2]) rfl (bU rfl) rfl rfl t
  conv=>lhs;unfold dZ
  rw[show gN 14 (nI k) (eD (aF a b) n [.v (nI c),.no,.no,.no,.no,.no,.no,.no,.no,.no,.no,.no,.no])=some (eD (aF a b) n [.v (nI c),.no,.no,.no,.no,.no,.no,.no,.no,.no,.no,.no,.v (nI k)]) from rfl,Pt,
   show cj (eD (aF a b) n [.v (nI c),.no,.no,.no,.no,.no,.no,.no,.no,.no,.no,.no,.v (nI k)])=some true from rfl,Pt,if_pos rfl,F,Pt,if_pos (by rfl)]
  rw[show lD (eD (aF a b) n [.v (nI c),.no,.no,.no,.no,.no,.no,.no,.no,.no,.no,.no,.no]) (eD (aF r o) n [.v (nI c),.no,.no,.no,.no,.no,.no,.no,.no,.no,.no,.no,.v (nI k)])=some (eD (aF r o) n [.v (nI c),.no,.no,.no,.no,.no,.no,.no,.no,.no,.no,.no,.no]) from rfl,Pt]
 obtain⟨h,R,b0,A,C,P⟩:=e B (by lia) 0 [nI 1,nI 2,nI 3];obtain⟨j,r,o,L,s,t⟩:=e C (by lia) 1 [nI 2,nI 3];obtain⟨f,Q,S,M,J,I⟩:=e s (by lia) 2 [nI 3];obtain⟨g,u,y,K,E,G⟩:=e J (by lia) 3 [];refine⟨h,j,f,g,u,y,A,L,M,K,by rw[show N+4=N+1+1+1+1 by lia];exact E,?_⟩;unfold fh;rw[bU (jj (n:=4) (am rfl rfl) (by lia)),Pt];dsimp only;rw[if_pos (by simp;decide)];have:dZ (gN 14) (cj) (aJ 0 1 aR (cq (aa (aC (.int 2)) (aj)))) ((Pi 4).map nI) (eD (aF a b) n [.v (nI c),.no,.no,.no,.no,.no,.no,.no,.no,.no,.no,.no]++Py 1 .no)=some ([.int h,.int j,.int f,.int g],eD (aF u y) n [.v (nI c),.no,.no,.no,.no,.no,.no,.no,.no,.no,.no,.no,.no]):=by
  show dZ (gN 14) (cj) (aJ 0 1 aR (cq (aa (aC (.int 2)) (aj)))) [nI 0,nI 1,nI 2,nI 3] (eD (aF a b) n [.v (nI c),.no,.no,.no,.no,.no,.no,.no,.no,.no,.no,.no,.no])=_;rw[P,t,I,G];rfl
 rw[this,Pt];rfl
theorem qu {ρ:aG}{p:FT}{q:Nat->Bool}(a: ∀v,∃ρ1,gN 14 (nI v) ρ=some ρ1/\p ρ1=some (q v)/\ai 14 ρ1=some (nI v)/\lD ρ ρ1=some ρ): ∀l:List Nat,dZ (gN 14) p (pu (ai 14)) (l.map nI) ρ=some ((l.filter q).map nI,ρ)
 | []=>rfl
 |v::l=>by
  obtain⟨ρ1,c,d,g,f⟩:=a v;have b:=qu a l;rw[Pu];unfold dZ;rw[c,Pt,d,Pt];cases e:q v with
  |false=>rw[if_neg (by decide),b,S9 (by rw[e];decide)]
  |true=>
   rw[if_pos rfl,show pu (ai 14) ρ1=some (nI v,ρ1) from fU g,Pt,if_pos (by rfl),f,Pt,b,Ta e];rfl
theorem Ji(L:List Nat)(c:Nat):jk true (nI c) (.tup (L.map nI))=some (.bl (!decide (c∈L))):=by
 unfold jk lZ;dsimp only;rw[j7,if_pos (by lia),Ez];rfl
def JJ(n:Nat):Bool:=(Pi n).all λa=>(Pi n).all λb=>a==b||((Pi n).filter λv=> !decide (v∈[a,b])).length==n-2
theorem L7:JJ 4=true:=by decide+kernel
theorem LN:JJ 5=true:=by decide+kernel
theorem GC{o:List Nat}(O:Ord n o)(i:4<=n)(g:n<=5){a b:Nat}(d:a<n)(f:b<n)(c:a≠b):(o.filter λv=> !decide (v∈[a,b])).length=n-2:=by
 rw[(O.perm.filter _).length_eq];have h:JJ n=true:=by
  have e:n=4\/n=5:=by lia
  rcases e with rfl|rfl
  ·exact L7
  ·exact LN
 have h:=Pw.mp h a (Pj.mpr d);have h:=Pw.mp h b (Pj.mpr f);simpa [c] using h
theorem JO {f:FE}{ds:List D}(h:f ρ=some (.lst ds)):sH f (j5 (lB (aC (.int 1)))) ρ=some (.lst ds.reverse):=by
 unfold sH;rw[h,Pt];dsimp only;rw[show j5 (lB (aC (.int 1))) ρ=some (some (-1)) from rfl,Pt,if_pos rfl]
theorem yS(h:f ρ=some (.int w)):bR (av si f (aC (.int 1))) ρ=some (decide (w=1)):=b6 ((aA h (y:=.int 1) rfl).trans (by rw[pg (by rw[fP];lia),jx]))
section
variable {n:Nat}(h4:4<=n)(h5:n<=5)
include h4 h5
theorem Ae {N:Nat}(B:Bag N a b)(V:N<=1000)(d c f e h:Sl)(m k g j:Nat)(i:Int)(u v:Nat)(A: ∀s∈[d,c,f,e,h],z9 s s=some s)
 (E: ∀H t,av br (ai 6) (aC (.int i)) (eD H n (d::c::f::e:: .v (.lst ([m,k].map nI)):: .v (.lst ([g,j].map nI))::t))=some (nI u))
 (G: ∀H t,av br (ai 7) (aC (.int i)) (eD H n (d::c::f::e:: .v (.lst ([m,k].map nI)):: .v (.lst ([g,j].map nI))::t))=some (nI v)) (F:u<n) (D:v<n) (Q:u≠v):
 ∃(l:List Nat) (r w:Int),(l.length=n-2/\l.Perm ((Pi n).filter λz=> !decide (z∈[u,v])))/\Bag (N+n) r w/\fh 1 (zL (aJ 0 1 ba (cq (aa (ai 1) (aj))))) (gN 14) (bR (av (jk true) (ai 14) (cu (aa (av br (ai 6) (aC (.int i))) (aa (av br (ai 7) (aC (.int i))) (aj)))))) (pu (ai 14))
  (eD (aF a b) n [d,c,f,e,.v (.lst ([m,k].map nI)),.v (.lst ([g,j].map nI)),h,.no,.no,.no,.no,.no])=some (.lst (l.map nI),eD (aF r w) n [d,c,f,e,.v (.lst ([m,k].map nI)),.v (.lst ([g,j].map nI)),h,.no,.no,.no,.no,.no]):=by
 obtain⟨o,r,w,T,O,S⟩:=nr B (n:=n) (by lia) (by lia);refine⟨o.filter λz=> !decide (z∈[u,v]),r,w,⟨GC O h4 h5 F D Q,O.perm.filter _⟩,S,?_⟩;have L:=A d (by simp);have I:=A c (by simp);have J:=A f (by simp);have M:=A e (by simp);have K:=A h (by simp);have R:zL (aJ 0 1 ba (cq (aa (ai 1) (aj)))) (eD (aF a b) n [d,c,f,e,.v (.lst ([m,k].map nI)),.v (.lst ([g,j].map nI)),h,.no,.no,.no,.no,.no])=some (o.map nI,eD (aF r w) n [d,c,f,e,.v (.lst ([m,k].map nI)),.v (.lst ([g,j].map nI)),h,.no,.no,.no,.no,.no]):=by
  unfold zL;rw[show aJ 0 1 ba (cq (aa (ai 1) (aj))) (eD (aF a b) n [d,c,f,e,.v (.lst ([m,k].map nI)),.v (.lst ([g,j].map nI)),h,.no,.no,.no,.no,.no])=some (.lst (o.map nI),eD (aF r w) n [d,c,f,e,.v (.lst ([m,k].map nI)),.v (.lst ([g,j].map nI)),h,.no,.no,.no,.no,.no]) from
   cN (i:=0) (n:=1) (b0:=aF a b) (ds:=[nI n]) rfl (bU rfl) rfl rfl T]
 have U: ∀(P:Sl),lD (eD (aF r w) n [d,c,f,e,.v (.lst ([m,k].map nI)),.v (.lst ([g,j].map nI)),h,.no,.no,.no,.no,.no,.no]) (eD (aF r w) n [d,c,f,e,.v (.lst ([m,k].map nI)),.v (.lst ([g,j].map nI)),h,.no,.no,.no,.no,.no,P])=some (eD (aF r w) n [d,c,f,e,.v (.lst ([m,k].map nI)),.v (.lst ([g,j].map nI)),h,.no,.no,.no,.no,.no,.no]):=λP=>by
  simp only[lD,L,I,J,M,K,Pt];rfl
 have C:lD (eD (aF r w) n [d,c,f,e,.v (.lst ([m,k].map nI)),.v (.lst ([g,j].map nI)),h,.no,.no,.no,.no,.no]) (eD (aF r w) n [d,c,f,e,.v (.lst ([m,k].map nI)),.v (.lst ([g,j].map nI)),h,.no,.no,.no,.no,.no,.no])=some (eD (aF r w) n [d,c,f,e,.v (.lst ([m,k].map nI)),.v (.lst ([g,j].map nI)),h,.no,.no,.no,.no,.no]):=by
  simp only[lD,L,I,J,M,K,Pt];rfl
 have lp:=qu (ρ:=eD (aF r w) n [d,c,f,e,.v (.lst ([m,k].map nI)),.v (.lst ([g,j].map nI)),h,.no,.no,.no,.no,.no,.no]) (p:=bR (av (jk true) (ai 14) (cu (aa (av br (ai 6) (aC (.int i))) (aa (av br (ai 7) (aC (.int i))) (aj)))))) (q:=λz=> !decide (z∈[u,v])) (λz=>⟨eD (aF r w) n [d,c,f,e,.v (.lst ([m,k].map nI)),.v (.lst ([g,j].map nI)),h,.no,.no,.no,.no,.no,.v (nI z)],rfl,
  b6 ((aA (x:=nI z) (y:=.tup ([u,v].map nI)) rfl (bS (am (E _ _) (am (G _ _) rfl)) (by simp))).trans (Ji _ _)),rfl,U _⟩) o
 unfold fh;rw[R,Pt];dsimp only;rw[if_pos (by rw[Pp,O.len];exact Qh (show n<=900 by lia) (by decide))];rw[show eD (aF r w) n [d,c,f,e,.v (.lst ([m,k].map nI)),.v (.lst ([g,j].map nI)),h,.no,.no,.no,.no,.no]++Py 1 Sl.no=eD (aF r w) n [d,c,f,e,.v (.lst ([m,k].map nI)),.v (.lst ([g,j].map nI)),h,.no,.no,.no,.no,.no,.no] from rfl,lp,Pt];dsimp only;rw[C];rfl
theorem yb(w:List D)(s m q o t p:Sl)(l:List Nat)(F:l.length=n-2): ∀(k:Nat) (c:Nat) (x:List Nat) (f a:Sl),c+k=n-2->x.length=n-2-> ∃(i:List Nat) (b d:Sl),(i.length=n-2/\i.Perm x)/\fE (gN 10) (aB (bf 11 (av cE (av bL (ai 10) (aC (.int 1))) (av gY (ai 1) (aC (.int 2)))))
 (fy (bR (av si (av br (dE 9) (ai 10)) (av br (ai 8) (ai 10)))) (cD (gT 2 (cS (cW 9 (ai 10)) (cS (cW 9 (ai 11)) (gX)))) (pu (cu (aa (av br (dE 9) (ai 11)) (aa (av br (dE 9) (ai 10)) (aj)))))) (cb))) ((Tb c k).map nI)
 (eD w n [s,m,q,o,t,p,.v (.lst (l.map nI)),.own (x.map nI),f,a,.no,.no])=.nx (eD w n [s,m,q,o,t,p,.v (.lst (l.map nI)),.own (i.map nI),b,d,.no,.no])
 |0,c,x,f,a,_,u=>⟨x,f,a,⟨u,.refl _⟩,rfl⟩
 |k+1,c,x,f,a,h,u=>by
  have K:(c+1) % (n-2)<n-2:=RT _ (by lia)
  let st:List Nat->Sl->aG:=λx a=>eD w n [s,m,q,o,t,p,.v (.lst (l.map nI)),.own (x.map nI),.v (nI c),a,.no,.no]
  have I: ∀a,av gY (ai 1) (aC (.int 2)) (st x a)=some (nI (n-2)):=λa=>by
   refine(aA (x:=nI n) (y:=.int 2) rfl rfl).trans ((jd _ _).trans ?_);show some (D.int _)=some (D.int _);congr 2;lia
  have J:bf 11 (av cE (av bL (ai 10) (aC (.int 1))) (av gY (ai 1) (aC (.int 2)))) (st x a)=.nx (st x (.v (nI ((c+1) % (n-2))))):=
   (bh ((aA ((aA (x:=nI c) (y:=.int 1) rfl rfl).trans (C8 c)) (I _)).trans (MN (by lia)))).trans rfl
  have B:av br (dE 9) (ai 10) (st x (.v (nI ((c+1) % (n-2)))))=some (nI (x.getD c 0)):=(aA (x:=.lst (x.map nI)) (y:=nI c) rfl rfl).trans (Bi (by lia));have i2:av br (ai 8) (ai 10) (st x (.v (nI ((c+1) % (n-2)))))=some (nI (l.getD c 0)):=(aA (x:=.lst (l.map nI)) (y:=nI c) rfl rfl).trans (Bi (by lia));have G:av br (dE 9) (ai 11) (st x (.v (nI ((c+1) % (n-2)))))=some (nI (x.getD ((c+1) % (n-2)) 0)):=(aA (x:=.lst (x.map nI)) (y:=nI ((c+1) % (n-2))) rfl rfl).trans (Bi (by lia));have r:bR (av si (av br (dE 9) (ai 10)) (av br (ai 8) (ai 10))) (st x (.v (nI ((c+1) % (n-2)))))=some (decide (x.getD c 0=l.getD c 0)):=b6 ((aA B i2).trans (by rw[pg (by rw[fP];lia),jp]));obtain⟨g,⟨z,A⟩,E⟩: ∃g:List Nat,(g.length=n-2/\g.Perm x)/\fy (bR (av si (av br (dE 9) (ai 10)) (av br (ai 8) (ai 10)))) (cD (gT 2 (cS (cW 9 (ai 10)) (cS (cW 9 (ai 11)) (gX)))) (pu (cu (aa (av br (dE 9) (ai 11)) (aa (av br (dE 9) (ai 10)) (aj)))))) (cb) (st x (.v (nI ((c+1) % (n-2)))))=.nx (st g (.v (nI ((c+1) % (n-2))))):=by
   by_cases e:x.getD c 0=l.getD c 0
   ·rw[lm e] at r;refine⟨(x.set c (x.getD ((c+1) % (n-2)) 0)).set ((c+1) % (n-2)) (x.getD c 0),⟨by simp[u],swap_perm x c ((c+1) % (n-2)) (by lia) (by lia)⟩,(gk r).trans ?_⟩;unfold cD;rw[fU (bS (am G (am B rfl)) (by simp))];simp only[gT,P1,T0,cS];rw[nP (bs:=x.map nI) (j:=c) rfl rfl (by simp;lia)];simp only[Pt];rw[nP (bs:=(x.map nI).set c (nI (x.getD ((c+1) % (n-2)) 0))) (j:=(c+1) % (n-2)) rfl rfl (by simp;lia)];rw[qE,qE];rfl
   ·rw[lC e] at r;exact⟨x,⟨u,.refl _⟩,(mY r).trans rfl⟩
  obtain⟨i,b,d,C,H⟩:=yb w s m q o t p l F k (c+1) g (.v (nI c)) (.v (nI ((c+1) % (n-2)))) (by lia) z;refine⟨i,b,d,⟨C.1,C.2.trans A⟩,?_⟩;rw[Wf,Pu];exact(eN (ρ1:=st x a) rfl ((ay J).trans E)).trans H
theorem yd(l:List Nat)(c p q:Nat)(a:c<=l.length):(l.take c++[p,q]++l.drop c).length=l.length+2/\(l.take c++[p,q]++l.drop c).getD c 0=p/\(l.take c++[p,q]++l.drop c).getD (c+1) 0=q:=by
 have e:(l.take c).length=c:=by rw[R4];lia
 refine⟨by simp;lia,?_,?_⟩
 ·rw[P5,QP,Qg (by lia),e,Wr];rfl
 ·rw[P5,QP,Qg (by lia),e,show c+1-c=1 by lia];rfl
omit h4 h5 in
theorem Bl {l:List Nat}{u v:Nat}(p:l.Perm ((Pi n).filter λz=> !decide (z∈[u,v])))(j:u<n)(hv:v<n)(d:u≠v)(c:Nat):Ord n (l.take c++[u,v]++l.drop c):=by
 constructor;have f:(l.take c++[u,v]++l.drop c).Perm ([u,v]++l):=by
  have:(l.take c++[u,v]++l.drop c).Perm ([u,v]++l.take c++l.drop c):=Ux _ WZ;rwa [QP [u,v],To] at this
 refine f.trans ((Ts _ p).trans ((Qe ?_ Qf).mpr λz=>?_))
 ·rw[Q6];refine⟨by simp[d],Qf.filter _,λa i b g e=>?_⟩;subst e;have:=(QW.mp g).2;rw[lm i] at this;cases this
 ·rw[QL,QW,Pj,QZ,decide_eq_false_iff_not];constructor
  ·rintro(h|h)
   ·simp only[PX,Q5,or_false] at h;rcases h with rfl|rfl
    ·exact j
    ·exact hv
   ·exact h.1
  ·intro h
   by_cases q:z∈[u,v]
   ·exact .inl q
   ·exact .inr ⟨h,q⟩
theorem Fv {N:Nat}{a b:Int}(B:Bag N a b)(hN:N<=100): ∃(r x:List Nat) (c:Nat) (bg:List D),ca (aF a b) [nI n]=some (.tup [cH r x,nI c],bg)/\(∃N' a' b',Bag N' a' b'/\N'<=400/\bg=aF a' b')/\Ord n r/\Ord n x/\c+1<n/\NI n (r.getD c 0) (x.getD c 0) (r.getD (c+1) 0) (x.getD (c+1) 0):=by
 obtain⟨d,a1,b1,e1,B1,d0,d1⟩:=nE (m:=(n:Int) -1) B (by lia) (by lia) (PF (show((n:Int) -1).natAbs<10^10 by lia) (by decide));obtain⟨c,rfl⟩: ∃c:Nat,d=(c:Int):=⟨d.toNat,by lia⟩
 have hc:c+1<n:=by lia
 obtain⟨w0,w1,w2,w3,a2,b2,k0,k1,k2,k3,B2,ew⟩:=Hh B1 (by lia) n c;obtain⟨o,a3,b3,eo,O,B3⟩:=nr B2 (n:=n) (by lia) (by lia);have ot:(o.take 4).length=4:=by rw[R4,O.len];lia
 obtain⟨f0,f1,f2,f3,es,l01,l12,l23,l3⟩:=Mp (n:=n) ot ((O.perm.nodup_iff.mpr Qf).sublist (Ui _ _)) (λv hv=>O.lt (US hv))
 let W:D:=.lst [.int w0,.int w1,.int w2,.int w3]
 have q1:g7 2 (aJ 0 1 aR (cq (aa (av gY (ai 1) (aC (.int 1))) (aj)))) (qM 14 (aF a b) [nI n])=.nx (eD (aF a1 b1) n [.v (nI c),.no,.no,.no,.no,.no,.no,.no,.no,.no,.no,.no]):=
  (ie (cN (i:=0) (n:=1) (b0:=aF a b) (ds:=[.int ((n:Int) -1)]) rfl (bU (am ((aA (x:=nI n) (y:=.int 1) rfl rfl).trans (jd _ _)) rfl)) rfl rfl e1)).trans rfl
 have q2:g7 3 (fh 1 (cq (eV (aa (aC (.int 4)) (aj)))) (gN 14) (cj) (aJ 0 1 aR (cq (aa (aC (.int 2)) (aj))))) (eD (aF a1 b1) n [.v (nI c),.no,.no,.no,.no,.no,.no,.no,.no,.no,.no,.no])=.nx (eD (aF a2 b2) n [.v (nI c),.v W,.no,.no,.no,.no,.no,.no,.no,.no,.no,.no]):=(ie ew).trans rfl;have q3:g7 4 (g8 dv (dC (DN (aJ 0 1 ba (cq (aa (ai 1) (aj)))) og (j5 (aC (.int 4)))) (cq (aj)))) (eD (aF a2 b2) n [.v (nI c),.v W,.no,.no,.no,.no,.no,.no,.no,.no,.no,.no])=.nx (eD (aF a3 b3) n [.v (nI c),.v W,.v (.lst ([f0,f1,f2,f3].map nI)),.no,.no,.no,.no,.no,.no,.no,.no,.no]):=by
  refine(ie (qs (ρ1:=eD (aF a3 b3) n [.v (nI c),.v W,.no,.no,.no,.no,.no,.no,.no,.no,.no,.no]) (ds:=[.lst ((o.take 4).map nI)]) (iZ ?_ (bU rfl)) es)).trans rfl;unfold DN;rw[show aJ 0 1 ba (cq (aa (ai 1) (aj))) (eD (aF a2 b2) n [.v (nI c),.v W,.no,.no,.no,.no,.no,.no,.no,.no,.no,.no])=some (.lst (o.map nI),eD (aF a3 b3) n [.v (nI c),.v W,.no,.no,.no,.no,.no,.no,.no,.no,.no,.no]) from cN (i:=0) (n:=1) (b0:=aF a2 b2) (ds:=[nI n]) rfl (bU rfl) rfl rfl eo,Pt];show some (D.lst (mz (o.map nI) none (some ((4:Nat):Int))),_)=_;rw[Fw]
 have iw: ∀(j:Nat) (w:Int) (bg:List D) (t:List Sl),[D.int w0,.int w1,.int w2,.int w3][j]? =some (.int w)->av br (ai 3) (aC (.int j)) (eD bg n (.v (nI c):: .v W::t))=some (.int w):=λj w bg t hw=>(aA (x:=W) (y:=.int j) rfl rfl).trans (u7 hw)
 obtain⟨g0,g1,g2,g3,q4,NI0⟩: ∃g0 g1 g2 g3:Nat,bf 4 (av gI (fx (ai 4) (j5 (av br (ai 3) (aC (.int 0)))) og) (fx (ai 4) og (j5 (av br (ai 3) (aC (.int 0)))))) (eD (aF a3 b3) n [.v (nI c),.v W,.v (.lst ([f0,f1,f2,f3].map nI)),.no,.no,.no,.no,.no,.no,.no,.no,.no])=.nx (eD (aF a3 b3) n [.v (nI c),.v W,.v (.lst ([g0,g1,g2,g3].map nI)),.no,.no,.no,.no,.no,.no,.no,.no,.no])/\NI n g0 g1 g2 g3:=by
  obtain⟨w,rfl⟩: ∃w:Nat,w0=(w:Int):=⟨w0.toNat,by lia⟩
  have i0:=iw 0 w (aF a3 b3) [.v (.lst ([f0,f1,f2,f3].map nI)),.no,.no,.no,.no,.no,.no,.no,.no,.no] rfl;have z:=(bh (i:=4) ((aA (m6 (f:=ai 4) (l:=[f0,f1,f2,f3]) rfl i0) (uQ (f:=ai 4) (l:=[f0,f1,f2,f3]) rfl i0)).trans (EO _ _ (by simp;lia))))
  have hw:w=0\/w=1:=by lia
  rcases hw with rfl|rfl
  ·refine⟨f0,f1,f2,f3,z.trans rfl,by lia,by lia,by lia,by lia,by lia,by lia,by lia,by lia,by lia,by lia,?_⟩;unfold oh;rw[Qd];simp only[Ps,lb];lia
  ·refine⟨f1,f2,f3,f0,z.trans rfl,by lia,by lia,by lia,by lia,by lia,by lia,by lia,by lia,by lia,by lia,?_⟩;unfold oh;rw[Qd];simp only[Ps,lb];lia
 have q5:bf 5 (b7 (aa (fx (ai 4) og (j5 (aC (.int 2)))) (aa (fx (ai 4) (j5 (aC (.int 2))) og) (aj)))) (eD (aF a3 b3) n [.v (nI c),.v W,.v (.lst ([g0,g1,g2,g3].map nI)),.no,.no,.no,.no,.no,.no,.no,.no,.no])=.nx (eD (aF a3 b3) n [.v (nI c),.v W,.v (.lst ([g0,g1,g2,g3].map nI)),.v (.lst [.lst ([g0,g1].map nI),.lst ([g2,g3].map nI)]),.no,.no,.no,.no,.no,.no,.no,.no]):=
  (bh (cT (am (uQ (f:=ai 4) (l:=[g0,g1,g2,g3]) (a:=2) rfl rfl) (am (m6 (f:=ai 4) (l:=[g0,g1,g2,g3]) (a:=2) rfl rfl) rfl)) (by simp))).trans rfl
 obtain⟨p0,p1,p2,p3,q6,NI1⟩: ∃p0 p1 p2 p3:Nat,fy (bR (av si (av br (ai 3) (aC (.int 1))) (aC (.int 1)))) (bf 5 (sH (ai 5) (j5 (lB (aC (.int 1)))))) (cb) (eD (aF a3 b3) n [.v (nI c),.v W,.v (.lst ([g0,g1,g2,g3].map nI)),.v (.lst [.lst ([g0,g1].map nI),.lst ([g2,g3].map nI)]),.no,.no,.no,.no,.no,.no,.no,.no])=.nx (eD (aF a3 b3) n [.v (nI c),.v W,.v (.lst ([g0,g1,g2,g3].map nI)),.v (.lst [.lst ([p0,p1].map nI),.lst ([p2,p3].map nI)]),.no,.no,.no,.no,.no,.no,.no,.no])/\NI n p0 p1 p2 p3:=by
  have tt:=yS (iw 1 w1 (aF a3 b3) [.v (.lst ([g0,g1,g2,g3].map nI)),.v (.lst [.lst ([g0,g1].map nI),.lst ([g2,g3].map nI)]),.no,.no,.no,.no,.no,.no,.no,.no] rfl)
  by_cases e:w1=1
  ·rw[lm e] at tt;exact⟨g2,g3,g0,g1,(gk tt).trans ((bh (JO (f:=ai 5) (ds:=[.lst ([g0,g1].map nI),.lst ([g2,g3].map nI)]) rfl)).trans rfl),NI0.swap h5⟩
  ·rw[lC e] at tt;exact⟨g0,g1,g2,g3,(mY tt).trans rfl,NI0⟩
 have q7:cD (gL 2 (cS (gN 6) (cS (gN 7) (gX)))) (pu (ai 5)) (eD (aF a3 b3) n [.v (nI c),.v W,.v (.lst ([g0,g1,g2,g3].map nI)),.v (.lst [.lst ([p0,p1].map nI),.lst ([p2,p3].map nI)]),.no,.no,.no,.no,.no,.no,.no,.no])=.nx (eD (aF a3 b3) n [.v (nI c),.v W,.v (.lst ([g0,g1,g2,g3].map nI)),.v (.lst [.lst ([p0,p1].map nI),.lst ([p2,p3].map nI)]),.v (.lst ([p0,p1].map nI)),.v (.lst ([p2,p3].map nI)),.no,.no,.no,.no,.no,.no]):=dW (fU rfl) rfl;generalize hG:(Sl.v (.lst ([g0,g1,g2,g3].map nI)))=G4 at q7;generalize hP:(Sl.v (.lst [.lst ([p0,p1].map nI),.lst ([p2,p3].map nI)]))=G5 at q7;obtain⟨l0,l1,q8,NI2⟩: ∃l0 l1:Nat,fy (bR (av si (av br (ai 3) (aC (.int 2))) (aC (.int 1)))) (bf 6 (sH (ai 6) (j5 (lB (aC (.int 1)))))) (cb) (eD (aF a3 b3) n [.v (nI c),.v W,G4,G5,.v (.lst ([p0,p1].map nI)),.v (.lst ([p2,p3].map nI)),.no,.no,.no,.no,.no,.no])=.nx (eD (aF a3 b3) n [.v (nI c),.v W,G4,G5,.v (.lst ([l0,l1].map nI)),.v (.lst ([p2,p3].map nI)),.no,.no,.no,.no,.no,.no])/\NI n l0 l1 p2 p3:=by
  have tt:=yS (iw 2 w2 (aF a3 b3) [G4,G5,.v (.lst ([p0,p1].map nI)),.v (.lst ([p2,p3].map nI)),.no,.no,.no,.no,.no,.no] rfl)
  by_cases e:w2=1
  ·rw[lm e] at tt;exact⟨p1,p0,(gk tt).trans ((bh (JO (f:=ai 6) (ds:=[p0,p1].map nI) rfl)).trans rfl),NI1.revL⟩
  ·rw[lC e] at tt;exact⟨p0,p1,(mY tt).trans rfl,NI1⟩
 obtain⟨r0,r1,q9,NI3⟩: ∃r0 r1:Nat,fy (bR (av si (av br (ai 3) (aC (.int 3))) (aC (.int 1)))) (bf 7 (sH (ai 7) (j5 (lB (aC (.int 1)))))) (cb) (eD (aF a3 b3) n [.v (nI c),.v W,G4,G5,.v (.lst ([l0,l1].map nI)),.v (.lst ([p2,p3].map nI)),.no,.no,.no,.no,.no,.no])=.nx (eD (aF a3 b3) n [.v (nI c),.v W,G4,G5,.v (.lst ([l0,l1].map nI)),.v (.lst ([r0,r1].map nI)),.no,.no,.no,.no,.no,.no])/\NI n l0 l1 r0 r1:=by
  have tt:=yS (iw 3 w3 (aF a3 b3) [G4,G5,.v (.lst ([l0,l1].map nI)),.v (.lst ([p2,p3].map nI)),.no,.no,.no,.no,.no,.no] rfl)
  by_cases e:w3=1
  ·rw[lm e] at tt;exact⟨p3,p2,(gk tt).trans ((bh (JO (f:=ai 7) (ds:=[p2,p3].map nI) rfl)).trans rfl),NI2.revR⟩
  ·rw[lC e] at tt;exact⟨p2,p3,(mY tt).trans rfl,NI2⟩
 have m4:z9 G4 G4=some G4:=by rw[<-hG];rfl
 have m5:z9 G5 G5=some G5:=by rw[<-hP];rfl
 obtain⟨lr,a4,b4,⟨hlr,plr⟩,B4,er⟩:=Ae h4 h5 B3 (by lia) (.v (nI c)) (.v W) G4 G5 .no l0 l1 r0 r1 0 l0 r0 (λs hs=>by
  simp only[PX,Q5,or_false] at hs;rcases hs with rfl|rfl|rfl|rfl|rfl
  ·rfl
  ·rfl
  ·exact m4
  ·exact m5
  ·rfl) (λbg t=>rfl) (λbg t=>rfl) NI3.ha NI3.hp NI3.ap
 have q10:=(ie (i:=8) er).trans (show Out.nx _=Out.nx (eD (aF a4 b4) n [.v (nI c),.v W,G4,G5,.v (.lst ([l0,l1].map nI)),.v (.lst ([r0,r1].map nI)),.v (.lst (lr.map nI)),.no,.no,.no,.no,.no]) from rfl)
 obtain⟨lx,a5,b5,⟨hlx,plx⟩,B5,ex⟩:=Ae h4 h5 B4 (by lia) (.v (nI c)) (.v W) G4 G5 (.v (.lst (lr.map nI))) l0 l1 r0 r1 1 l1 r1 (λs hs=>by
  simp only[PX,Q5,or_false] at hs;rcases hs with rfl|rfl|rfl|rfl|rfl
  ·rfl
  ·rfl
  ·exact m4
  ·exact m5
  ·rfl) (λbg t=>rfl) (λbg t=>rfl) NI3.hb NI3.hq NI3.bq
 have q11:=(Gq (i:=9) ex).trans (show Out.nx _=Out.nx (eD (aF a5 b5) n [.v (nI c),.v W,G4,G5,.v (.lst ([l0,l1].map nI)),.v (.lst ([r0,r1].map nI)),.v (.lst (lr.map nI)),.own (lx.map nI),.no,.no,.no,.no]) from rfl);obtain⟨lx',s10,s11,⟨hlx',plx'⟩,e12⟩:=yb h4 h5 (aF a5 b5) (.v (nI c)) (.v W) G4 G5 (.v (.lst ([l0,l1].map nI))) (.v (.lst ([r0,r1].map nI))) lr hlr (n-2) 0 lx .no .no (by lia) hlx
 let S:Sl->Sl->aG:=λs12 s13=>eD (aF a5 b5) n [.v (nI c),.v W,G4,G5,.v (.lst ([l0,l1].map nI)),.v (.lst ([r0,r1].map nI)),.v (.lst (lr.map nI)),.own (lx'.map nI),s10,s11,s12,s13]
 have sb:av gY (ai 1) (aC (.int 2)) (eD (aF a5 b5) n [.v (nI c),.v W,G4,G5,.v (.lst ([l0,l1].map nI)),.v (.lst ([r0,r1].map nI)),.v (.lst (lr.map nI)),.own (lx.map nI),.no,.no,.no,.no])=some (nI (n-2)):=by
  refine(aA (x:=nI n) (y:=.int 2) rfl rfl).trans ((jd _ _).trans ?_);show some (D.int _)=some (D.int _);congr 2;lia
 have q12:jG (cq (eV (aa (av gY (ai 1) (aC (.int 2))) (aj)))) (gN 10) (aB (bf 11 (av cE (av bL (ai 10) (aC (.int 1))) (av gY (ai 1) (aC (.int 2)))))
  (fy (bR (av si (av br (dE 9) (ai 10)) (av br (ai 8) (ai 10)))) (cD (gT 2 (cS (cW 9 (ai 10)) (cS (cW 9 (ai 11)) (gX)))) (pu (cu (aa (av br (dE 9) (ai 11)) (aa (av br (dE 9) (ai 10)) (aj)))))) (cb))) (eD (aF a5 b5) n [.v (nI c),.v W,G4,G5,.v (.lst ([l0,l1].map nI)),.v (.lst ([r0,r1].map nI)),.v (.lst (lr.map nI)),.own (lx.map nI),.no,.no,.no,.no])=.nx (S .no .no):=
  (ir (ds:=(Tb 0 (n-2)).map nI) (bU ((jj (n:=n-2) (am sb rfl) (by lia)).trans (by rw[UT])))).trans e12
 have q13:bf 12 (av gI (av gI (fx (ai 8) og (j5 (ai 2))) (b7 (aa (av br (ai 6) (aC (.int 0))) (aa (av br (ai 7) (aC (.int 0))) (aj))))) (fx (ai 8) (j5 (ai 2)) og)) (S .no .no)=.nx (S (.v (.lst ((lr.take c++[l0,r0]++lr.drop c).map nI))) .no):=by
  refine(bh ((aA ((aA (uQ (f:=ai 8) (l:=lr) (g:=ai 2) (a:=c) rfl rfl) (cT (ds:=[l0,r0].map nI) rfl (by simp))).trans (EO _ _ (by simp;lia))) (m6 (f:=ai 8) (l:=lr) (g:=ai 2) (a:=c) rfl rfl)).trans (EO _ _ (by simp;lia)))).trans rfl
 have q14:bf 13 (av gI (av gI (fx (dE 9) og (j5 (ai 2))) (b7 (aa (av br (ai 6) (aC (.int 1))) (aa (av br (ai 7) (aC (.int 1))) (aj))))) (fx (dE 9) (j5 (ai 2)) og)) (S (.v (.lst ((lr.take c++[l0,r0]++lr.drop c).map nI))) .no)=.nx (S (.v (.lst ((lr.take c++[l0,r0]++lr.drop c).map nI))) (.v (.lst ((lx'.take c++[l1,r1]++lx'.drop c).map nI)))):=by
  refine(bh ((aA ((aA (uQ (f:=dE 9) (l:=lx') (g:=ai 2) (a:=c) rfl rfl) (cT (ds:=[l1,r1].map nI) rfl (by simp))).trans (EO _ _ (by simp;lia))) (m6 (f:=dE 9) (l:=lx') (g:=ai 2) (a:=c) rfl rfl)).trans (EO _ _ (by simp;lia)))).trans rfl
 obtain⟨z1,z2,z3⟩:=yd h4 h5 lr c l0 r0 (by lia);obtain⟨y1,y2,y3⟩:=yd h4 h5 lx' c l1 r1 (by lia);refine⟨lr.take c++[l0,r0]++lr.drop c,lx'.take c++[l1,r1]++lx'.drop c,c,aF a5 b5,?_,⟨_,_,_,B5,by lia,rfl⟩,Bl plr NI3.ha NI3.hp NI3.ap c,Bl (plx'.trans plx) NI3.hb NI3.hq NI3.bq c,hc,by rw[z2,z3,y2,y3];exact NI3⟩;subst hG hP;unfold ca zE iY;rw[ay q1,ay q2,ay q3,ay q4,ay q5,ay q6,ay q7,ay q8,ay q9,ay q10,ay q11,ay q12,ay q13,ay q14];rfl
end
def Lp(l:List Nat)(c:Nat):List Nat:=l.take c++[l.getD (c+1) 0,l.getD c 0]++l.drop (c+2)
theorem l7(l:List Nat):ax l=cZ (zs l):=by unfold ax cZ zs;rw[PM];rfl
theorem zY(L:List (List Nat)):L.map ax=(L.map zs).map cZ:=by rw[PM];exact P2 λl _=>l7 l
theorem KK(K:List (List Int))(k:List Int):jk true (cZ k) (.lst (K.map cZ))=some (.bl (!decide (k∈K))):=by
 have q:=O3 K k;have d:=uM K;unfold jk lZ at q⊢;dsimp only at q⊢;rw[if_pos (by lia)] at q⊢;injection q with q
 injection q with q
 rw[<-q];rfl
abbrev srt(K:List (List Int)):List (List Int):=bC bx K
abbrev kD(K:List (List Int)):D:=.lst (K.map cZ)
structure Cw(N:Nat)(K:List (List Int)):Prop where
 nd:K.Nodup
 len:K.length<=N
 ne: ∀k∈K,k≠[]
theorem Cw.srt {N:Nat}{K:List (List Int)}(h:Cw N K):Cw N (srt K):=⟨(aM (lt:=bx) K).nodup_iff.mpr h.nd,by rw[(aM (lt:=bx) K).length_eq];exact h.len,λk a=>h.ne k ((aM (lt:=bx) K).mem_iff.mp a)⟩
theorem qI: ∀K:List (List Int),pF (K.map cZ)=some K
 | []=>rfl
 |k::K=>by
  rw[Pu];show(eJ (k.map D.int)).bind (λk=>(pF (K.map cZ)).map (k:: ·))=_;rw[kI,Pt,qI K];rfl
theorem wI {N M:Nat}(h:Cw N A)(h':Cw M B)(d:N+M<=1000)(c:(gq A B).length<64):lq [kD A,kD B]=some (kD (srt (gq A B))):=by
 apply bj (kd:=.n) (n:=2) (t:=vo) (ρ:=[.v (kD A),.v (kD B)]);unfold vo;refine a7 ?_
 show((pF (A.map cZ)).bind λb=>(pF (B.map cZ)).bind λa=>if(b.Nodup/\a.Nodup)/\b.length+a.length<=1000/\(gq b a).length<64/\(∀k∈b,k≠[])/\(∀k∈a,k≠[]) then some (D.lst ((bC bx (gq b a)).map cZ)) else none)=_;rw[qI,qI,Pt,Pt,if_pos ⟨⟨h.nd,h'.nd⟩,by have:=h.len;have:=h'.len;lia,c,h.ne,h'.ne⟩]
theorem Fo(A B:List (List Int)):(gq A B).length<=A.length+B.length:=by
 unfold gq;rw[P0];have a:=Q2 (λk=>decide (k∉B)) A;have b:=Q2 (λk=>decide (k∉A)) B;lia
theorem kn {K:List (List Int)}{k:List Int}:k∈srt K↔k∈K:=(aM (lt:=bx) K).mem_iff
theorem Mc: ∀ {o:List Nat},o.length=5->o.sum=o.getD 0 0+o.getD 1 0+o.getD 2 0+o.getD 3 0+o.getD 4 0
 | [a,b,c,d,e],_=>by simp[Qr];lia
 | [],h=>by simp at h
 | [_],h=>by simp at h
 | [_,_],h=>by simp at h
 | [_,_,_],h=>by simp at h
 | [_,_,_,_],h=>by simp at h
 |_::_::_::_::_::_::_,h=>by simp at h
def N5(k:List Int):Nat:=(uz k).getD 0 0+5*(uz k).getD 1 0+25*(uz k).getD 2 0+125*(uz k).getD 3 0
theorem Ord.get0{o:List Nat}(O:Ord n o)(a:n<=5)(c:Nat):o.getD c 0<5:=by
 by_cases h:c<n
 ·have:=O.get h;lia
 ·rw[P5,QH (by rw[O.len];lia)];simp
theorem vq(c:n<=5){L:List (List Int)}(s:L.Nodup)(h:iO n L):L.length<=625:=by
 have:(L.map N5).length<=625:=qr (by
  rw[Rw,QI];refine QO (λ{a b} w q j e=>j ?_) s;obtain⟨o,O,rfl⟩:=h a w;obtain⟨B,d,rfl⟩:=h b q;unfold N5 at e;rw[eH,eH] at e;have u:=O.get0 c 0;have t:=O.get0 c 1;have l:=O.get0 c 2;have g:=O.get0 c 3;have b0:=d.get0 c 0;have y:=d.get0 c 1;have x:=d.get0 c 2;have A:=d.get0 c 3;congr 1;refine rC (by rw[O.len,d.len]) λi m=>?_
  rw[O.len] at m;have:i=0\/i=1\/i=2\/i=3\/i=4:=by lia
  rcases this with e|e|e|e|e<;>subst e
  ·lia
  ·lia
  ·lia
  ·lia
  ·have f:n=5:=by lia
   subst f;have p:=Mc O.len;have s2:=Mc d.len
   rw[iW O.perm] at p;rw[iW d.perm] at s2;lia) λz v=>by
  obtain⟨k,r,rfl⟩:=PU.mp v;obtain⟨o,O,rfl⟩:=h k r;unfold N5;rw[eH];have u:=O.get0 c 0;have t:=O.get0 c 1;have l:=O.get0 c 2;have g:=O.get0 c 3;lia
 rw[Pp] at this;exact this
theorem tu {g:FG}{i:Nat}{st:List (List Int)->Sl->aG}{fk:FE}{n:Nat}(u:n<=5)(o: ∀acc s d,g d (st acc s)=some (st acc (.v d)))(y: ∀acc d,fk (st acc (.v d))=some d)(j: ∀acc s,we i (st acc s)=some acc)(w: ∀acc a s,(st acc s).set i (.ob (.tset a))=st a s):
 ∀(ks acc:List (List Int)) (s:Sl),acc.Nodup->iO n acc->iO n ks-> ∃s',fE g (fy (C2 i fk) (cA (wf lQ i fk)) (cA (wf lI i fk))) (ks.map cZ) (st acc s)=.nx (st (ks.foldl iN acc) s')
 | [],acc,s,_,_,_=>⟨s,rfl⟩
 |k::ks,acc,s,t,x,p=>by
  have A:=vq u t x;have l:iO n (iN acc k):=λz m=>by
   have:=(xU acc k z).mp m
   by_cases e:z=k
   ·rw[e];exact p k PV
   ·rw[if_neg e] at this;exact x z this
  obtain⟨s',h⟩:=tu u o y j w ks (iN acc k) (.v (cZ k)) (vE t k) l λz m=>p z (PK _ m)
  have q:(fk (st acc (.v (cZ k)))).bind De=some k:=by rw[y];exact kI k
  have b:C2 i fk (st acc (.v (cZ k)))=some (decide (k∈acc)):=by
   unfold C2;rw[j,Pt,q];rfl
  have r: ∀f,cA (wf f i fk) (st acc (.v (cZ k)))=.nx (st (f acc k) (.v (cZ k))):=λf=>by
   unfold cA wf;rw[j,Pt,q,Pt,if_pos (by lia),w]
  refine⟨s',?_⟩;rw[Pu];refine(eN (ρ1:=st acc (.v (cZ k))) (o _ _ _) (ρ2:=st (iN acc k) (.v (cZ k))) ?_).trans h;unfold iN
  by_cases c:k∈acc
  ·rw[if_pos c,gk (b.trans (by rw[lm c]))];exact r _
  ·rw[if_neg c,mY (b.trans (by rw[lC c]))];exact r _
theorem rN(h:0<n){K:List (List Int)}(b:iO n K): ∀k∈K,k≠[]:=λk c e=>by
 obtain⟨o,O,rfl⟩:=b k c;have a:=O.len;have:=congrArg Sd e;unfold zs at this;simp at this;rw[this] at a;simp at a;lia
theorem AX(f:0<n)(j:n<=5)(c:iO n ks)(a:(nR ks).length<64):bJ [kD ks]=some (kD (cR ks)):=by
 obtain⟨s',h⟩:=tu j (g:=gN 2) (i:=1) (fk:=ai 2) (st:=λacc s=>[.v (.lst (ks.map cZ)),.ob (.tset acc),s]) (λ_ _ _=>rfl) (λ_ _=>rfl) (λ_ _=>rfl) (λ_ _ _=>rfl) ks [] .no Vy (λ_ h=>nomatch h) c;apply bj (kd:=.n) (n:=3) (t:=iD);unfold iD;refine(ay (ρ':=[.v (.lst (ks.map cZ)),.ob (.tset []),.no]) rfl).trans ((ay ((ir (bU (f9 rfl))).trans h)).trans (a7 ?_));unfold D8;show(some (ks.foldl iN [])).bind _=_;rw[Pt];have d:iO n (nR ks):=λz e=>c z (Fl e)
 rw[if_pos ⟨a,λk b=>rN f d k b⟩];rfl
theorem zP {a:Nat}(h:a<=20000):a<=sizeLine:=by rw[Q7];lia
theorem wa{ds ys:List D}(a:gi1 ρ=some ds)(b:qg g1 p1 (Ex gi2 g2 p2 f) (ρ++Py m .no) ds=some ys)(c:ys.length<=20000):jh m gi1 g1 p1 gi2 g2 p2 f ρ=some (.lst ys):=by
 unfold jh;rw[a,Pt,b,Pt,if_pos (zP c)]
theorem DC(r x:List Nat)(a:n<=5): ∀K:List (List Int),(bK n r x K).length<=25*K.length
 | []=>by simp[bK]
 |k::K=>by
  unfold bK;rw[Qj,P0,P1];have b:=DC r x a K;unfold bK at b;have c:(eI n r x k).length<=n*n:=by unfold eI;rw[Pp];exact Kt n _
  have d:n*n<=5*5:=SF a a;lia
theorem sO(g:2<=n)(d:n<=5)(R:Ord n r)(X:Ord n x){K:List (List Int)}(b:iO n K)(f:K.length<=700)(a:(HY n r x K).length<64):fu [cH r x,kD K]=some (kD (HY n r x K)):=by
 apply bj (kd:=.n) (n:=2) (t:=ql) (ρ:=[.v (cH r x),.v (kD K)]);unfold ql;refine a7 ((aN (ds:=[kD (bK n r x K)]) (am ?_ rfl) rfl).trans (AX (by lia) d (DD b) (by unfold HY cR at a;rwa [(aM (lt:=bx) _).length_eq] at a)));have e:K=(K.map uz).map zs:=by
  rw[PM];refine(VT K).symm.trans (P2 λk c=>?_);obtain⟨o,O,rfl⟩:=b k c;show zs o=zs (uz (zs o));rw[eH]
 refine wa (ds:=K.map cZ) (ys:=(bK n r x K).map cZ) (f9 rfl) ?_ (by rw[Pp];have:=DC r x d K;lia)
 refine(dB (h:=cZ) (q:=λ_=>true) (o:=λk=>(eI n r x k).map cZ) K λk c=>⟨[.v (cH r x),.v (kD K),.v (cZ k),.no,.no,.no],rfl,rfl,λ_=>?_⟩).trans ?_
 ·obtain⟨o,O,rfl⟩:=b k c;refine oJ (ds:=(sp n (b8 r x o)).map λp=>yZ o p.1 p.2) (f9 ((aN (ds:=[cH r x,ax o]) (am rfl (am (by rw[l7];rfl) rfl)) rfl).trans ((EU O R.len X.len (by lia) (by lia)).trans (by rw[Hq O.len])))) ?_
  refine(dB (h:=λp:Nat×Nat=>yZ o p.1 p.2) (q:=λ_=>true) (o:=λp=>[cZ (zs (bA o p.1 p.2))]) (sp n (b8 r x o)) λp i=>⟨[.v (cH r x),.v (kD K),.v (cZ (zs o)),.v (nI p.1),.v (nI p.2),.v (ax (bA o p.1 p.2))],rfl,rfl,λ_=>ln (by rw[<-l7 (bA o p.1 p.2)];rfl)⟩).trans ?_
  rw[QN.mpr (λ_ _=>rfl),j9];unfold eI;rw[eH,PM];rfl
 ·rw[QN.mpr (λ_ _=>rfl)];unfold bK;rw[R7]
theorem r9(P Q:Nat->Bool)(o:List Nat)(i j:Nat):(oE P Q o i j).length<=2:=by unfold oE;split<;>split<;>simp
theorem jz {α β:Type}(f:α->List β)(m:Nat): ∀l:List α,(∀x∈l,(f x).length<=m)->(l.flatMap f).length<=m*l.length
 | [],_=>by simp
 |x::l,h=>by
  rw[Qj,P0,P1,WJ];have:=jz f m l λy a=>h y (by simp[a])
  have:=h x (by simp);lia
theorem vQ: ∀(c:Nat) (l:List Nat),c+1<l.length->bA l c (c+1)=Lp l c
 |0,a::b::l,_=>rfl
 |c+1,a::l,h=>by
  rw[P1] at h;have:=vQ c l (by lia);unfold bA Lp at this⊢;rw[Vx,Vx,U6,TN,Wb,Wb];exact congrArg (a:: ·) this
 |0,[],h=>by simp at h
 |0,[_],h=>by simp at h
 |_+1,[],h=>by simp at h
theorem Ky{r x:List Nat}(f:r.length=n)(e:x.length=n)(m:c+1<n)(g:n<=6)(h:NI n (r.getD c 0) (x.getD c 0) (r.getD (c+1) 0) (x.getD (c+1) 0)):aY [cH r x,nI c]=some (cH (Lp r c) (Lp x c)):=by
 have o:Et r x (c:Int)=true:=by
  unfold Et KC;rw[Rt];have a:=h.ni;unfold oh at a;unfold IA;rw[a];simp only[Ps,lb,beq_self_eq_true,QZ,Xi,decide_eq_false_iff_not];exact⟨⟨by lia,by lia⟩,⟨⟨h.ap,h.aq⟩,h.bp,h.bq⟩,trivial⟩
 have d:g6 (dJ (ak (nF 2 gm) (aa (ai 0) (aa (ai 1) (aj))))) (kG 4 [cH r x,nI c])=some (!Et r x c):=kL (gB ((aN (ds:=[cH r x,nI c]) rfl rfl).trans (HX f e (by lia) g c)));rw[o] at d;have b: ∀(i:Nat) (l:List Nat),l.length=n->ai i [.v (cH r x),.v (nI c),.v (ax r),.v (ax x)]=some (ax l)->ak (nF 3 bD) (aa (ai i) (aa (ai 1) (aa (av bL (ai 1) (aC (.int 1))) (aj)))) [.v (cH r x),.v (nI c),.v (ax r),.v (ax x)]=some (ax (Lp l c)):=λi l j k=>by
  rw[<-vQ c l (by lia)];exact(aN (ds:=[ax l,nI c,nI (c+1)]) (am k (am rfl (am ((aA (x:=nI c) (y:=.int 1) rfl rfl).trans (C8 c)) rfl))) rfl).trans (An j (by lia) m)
 apply bj (kd:=.s) (n:=4) (t:=eQ) (ρ:=[.v (cH r x),.v (nI c),.v (ax r),.v (ax x)]);unfold eQ;exact(ay (iI d)).trans ((ay (ρ':=[.v (cH r x),.v (nI c),.v (ax r),.v (ax x)]) (dW (fU rfl) rfl)).trans (a7 (bS (am (b 2 r f rfl) (am (b 3 x e rfl) rfl)) (by simp))))
theorem tM{S:iq}{rs ls:List iq}{rt lt:List Nat}(R:4<=n)(D:n<=5)(C:Ln n S)(t:c+1<n)(i: ∀S∈rs,Ln n S)(m: ∀S∈ls,Ln n S)(r:rt.length<rs.length)(p:lt.length<ls.length){K:List (List Int)}(s:iO n K)(T:K.length<=700){i5 i6 i7 i8:Nat}
 (w: ∀o,∃ρ1,gN i7 (ax o) (ρ++[.no,.no])=some ρ1/\aa (ai 0) (aa (ai 1) (aa (ai i7) (aa (ai i5) (aa (ai i6) (aj))))) ρ1=some [fV S,nI c,ax o,dm rs rt,dm ls lt]/\ ∀e,∃ρ2,gN i8 (ax e) ρ1=some ρ2/\ai i8 ρ2=some (ax e))
 (L:ai 2 ρ=some (kD K)) (d:(fW (eR n λo a b=>(decide (a=c+1)&&cy n S o (c+1) b (c+1) rs rt)||(decide (b=c+1)&&cy n S o a (c+1) c ls lt)) K).length<64):
 ak (nF 1 bJ) (aa (jh 2 (dw (ai 2)) (gN i7) (cj) (dw (ak (nF 5 cP) (aa (ai 0) (aa (ai 1) (aa (ai i7) (aa (ai i5) (aa (ai i6) (aj)))))))) (gN i8) (cj) (ai i8)) (aj)) ρ=some (kD (fW (eR n λo a b=>(decide (a=c+1)&&cy n S o (c+1) b (c+1) rs rt)||(decide (b=c+1)&&cy n S o a (c+1) c ls lt)) K)):=by
 let P:List Nat->Nat->Bool:=λo j=>cy n S o (c+1) j (c+1) rs rt
 let Q:List Nat->Nat->Bool:=λo j=>cy n S o j (c+1) c ls lt
 let E:List Int->List (List Int):=λk=>(hJ n (P (uz k)) (Q (uz k)) (uz k) (c+1)).map zs
 have u: ∀k,(E k).Perm (eR n (λo a b=>(decide (a=c+1)&&P o b)||(decide (b=c+1)&&Q o a)) k):=λk=>by
  have:=(oq t (P (uz k)) (Q (uz k)) (uz k)).map zs;rw[PM] at this;exact this
 have I: ∀k,(E k).length<=10:=λk=>by
  have:=jz (oE (P (uz k)) (Q (uz k)) (uz k) (c+1)) 2 (Pi n) λj _=>r9 _ _ _ _ _
  show((hJ n _ _ _ _).map zs).length<=10;rw[Pp];unfold hJ;rw[QJ] at this;lia
 have A:iO n (K.flatMap E):=λz g=>by
  obtain⟨k,f,g⟩:=Rf.mp g;obtain⟨o,O,rfl⟩:=s k f;exact yM O z ((u (zs o)).mem_iff.mp g)
 have H:jh 2 (dw (ai 2)) (gN i7) (cj) (dw (ak (nF 5 cP) (aa (ai 0) (aa (ai 1) (aa (ai i7) (aa (ai i5) (aa (ai i6) (aj)))))))) (gN i8) (cj) (ai i8) ρ=some (kD (K.flatMap E)):=by
  refine wa (ds:=K.map cZ) (ys:=(K.flatMap E).map cZ) (f9 L) ?_ (by
   rw[Pp];have:=jz E 10 K λk _=>I k
   lia)
  refine(dB (h:=cZ) (q:=λ_=>true) (o:=λk=>(E k).map cZ) K λk f=>?_).trans ?_
  ·obtain⟨o,O,rfl⟩:=s k f;obtain⟨ρ1,N,M,J⟩:=w o;rw[<-l7];refine⟨ρ1,N,rfl,λ_=>?_⟩;have F:(E (zs o)).map cZ=(hJ n (P o) (Q o) o (c+1)).map ax:=by
    show((hJ n (P (uz (zs o))) (Q (uz (zs o))) (uz (zs o)) (c+1)).map zs).map cZ=_;rw[eH,<-zY]
   rw[F];refine oJ (ds:=(hJ n (P o) (Q o) o (c+1)).map ax) (f9 ((aN M rfl).trans (Gh (by lia) (by lia) C O.len t i m r p))) ?_
   refine(dB (h:=ax) (q:=λ_=>true) (o:=λe=>[ax e]) (hJ n (P o) (Q o) o (c+1)) λe _=>?_).trans ?_
   ·obtain⟨ρ2,G,B⟩:=J e;exact⟨ρ2,G,rfl,λ_=>ln B⟩
   ·rw[QN.mpr λ_ _=>rfl];congr 1
    induction hJ n (P o) (Q o) o (c+1) with
    |nil=>rfl
    |cons y l x=>rw[Qj,x];rfl
  ·rw[QN.mpr λ_ _=>rfl,R7]
 have v:cR (K.flatMap E)=(fW (eR n λo a b=>(decide (a=c+1)&&cy n S o (c+1) b (c+1) rs rt)||(decide (b=c+1)&&cy n S o a (c+1) c ls lt)) K):=JN λz=>by
  rw[fF,fF];congr 2;exact P2 λk _=>(u k).count_eq z
 refine(aN (ds:=[kD (K.flatMap E)]) (am H rfl) rfl).trans ((AX (by lia) D A ?_).trans (by rw[v]));rw[<-v] at d;unfold cR at d;rwa [(aM (lt:=bx) _).length_eq] at d
theorem vP(R:Ord n r)(X:Ord n x):Ga n (r,x):=λk a=>⟨R.get a,X.get a⟩
theorem j3{r:List Nat}(R:Ord n r)(d:c+1<n):(bA r c (c+1)).getD c 0=r.getD (c+1) 0/\(bA r c (c+1)).getD (c+1) 0=r.getD c 0/\ ∀k,k≠c->k≠c+1->(bA r c (c+1)).getD k 0=r.getD k 0:=by
 have l:=R.len;refine⟨?_,?_,λk a b=>?_⟩
 ·rw[hX (by lia) (by lia),if_neg (by lia),if_pos rfl]
 ·rw[hX (by lia) (by lia),if_pos rfl]
 ·rw[hX (by lia) (by lia),if_neg b,if_neg a]
abbrev sG(n c:Nat)(r x:List Nat):List Nat->Nat->Nat->Bool:=NE n c (r,x) (bA r c (c+1),bA x c (c+1)) (aX (r.getD c 0) (x.getD c 0) (r.getD (c+1) 0))
section
variable {n c:Nat}{r x:List Nat}(h4:4<=n)(h5:n<=5)(hc:c+1<n)(R:Ord n r)(X:Ord n x)(N:NI n (r.getD c 0) (x.getD c 0) (r.getD (c+1) 0) (x.getD (c+1) 0))
include h4 h5 hc R X N
theorem zu:aY [cH r x,nI c]=some (cH (bA r c (c+1)) (bA x c (c+1))):=by
 rw[vQ c r (by rw[R.len];exact hc),vQ c x (by rw[X.len];exact hc)];exact Ky R.len X.len hc (by lia) N
theorem uD: ∀o,Ord n o-> ∀a b,a<n->b<n->a≠b->(sG n c r x o a b=true↔FF n c r x (aX (r.getD c 0) (x.getD c 0) (r.getD (c+1) 0)) (r.getD (c+1) 0) (x.getD (c+1) 0) (r.getD c 0) (x.getD c 0) o a b):=λo O a b g h f=>by
 have e:=j3 R hc;have d:=j3 X hc;exact GB h5 hc (S:=(r,x)) (O:=(bA r c (c+1),bA x c (c+1))) (vP R X) (vP (R.exx (by lia) hc) (X.exx (by lia) hc)) (λ_ _ _ _=>⟨rfl,rfl⟩) e.1 d.1 e.2.1 d.2.1 (nG N).1 O g h f
theorem E8 {K:List (List Int)}(l:iO n K)(m:K.length<=700)(d:(fW (eR n (sG n c r x)) K).length<64):pA [cH r x,nI c,kD K]=some (kD (fW (eR n (sG n c r x)) K)):=by
 let S:iq:=(r,x)
 let O:iq:=(bA r c (c+1),bA x c (c+1))
 have i:=R.exx (show c<n by lia) hc;have p:=X.exx (show c<n by lia) hc;have f:Ln n S:=⟨R.len,X.len⟩
 have h:Ln n O:=⟨i.len,p.len⟩
 have g:c6 [cH r x,nI c]=some (nI (aX (r.getD c 0) (x.getD c 0) (r.getD (c+1) 0))):=ue R.len X.len hc N;have a:=d;unfold sG at a;generalize j:aX (r.getD c 0) (x.getD c 0) (r.getD (c+1) 0)=T at g a;apply bj (kd:=.n) (n:=7) (t:=F3);unfold F3;refine(ay (ρ':=[.v (fV S),.v (nI c),.v (kD K),.v (fV O),.no,.no,.no]) ((bh ((aN (ds:=[fV S,nI c]) rfl rfl).trans (zu h4 h5 hc R X N))).trans rfl)).trans ?_
 refine(ay (ρ':=[.v (fV S),.v (nI c),.v (kD K),.v (fV O),.v (.lst [nI T]),.no,.no]) ((bh (cT (am ((aN (ds:=[fV S,nI c]) rfl rfl).trans g) rfl) (by simp))).trans rfl)).trans ?_
 refine(ay (ρ':=[.v (fV S),.v (nI c),.v (kD K),.v (fV O),.v (.lst [nI T]),.v (dm [S,O] [T]),.v (dm [O,S] [T])]) (dW (fU (bS (am (bS (am (cT rfl (by simp)) rfl) (by simp)) (am (bS (am (cT rfl (by simp)) rfl) (by simp)) rfl)) (by simp))) rfl)).trans ?_
 refine a7 ((tM (i5:=5) (i6:=6) (i7:=7) (i8:=8) h4 h5 f hc (rs:=[S,O]) (ls:=[O,S]) (rt:=[T]) (lt:=[T]) (λk b=>?_) (λk b=>?_) (by simp) (by simp) l m (λo=>⟨_,rfl,rfl,λe=>⟨_,rfl,rfl⟩⟩) rfl a).trans ?_)
 ·rcases PX.mp b with q|q
  ·rw[q];exact f
  ·rw[PQ] at q;rw[q];exact h
 ·rcases PX.mp b with q|q
  ·rw[q];exact h
  ·rw[PQ] at q;rw[q];exact f
 ·unfold sG;rw[j];rfl
end
theorem ke:(fW e A).Nodup:=iS _
def yC(h:Nat)(q:List Nat)(i:Nat):D:=.tup [.int (2*i+h),.int (2*(q.getD i 0:Nat)+h)]
theorem Nz(q:List Nat):zF (q.map nI)=(Pi q.length).map λ(i:Nat)=>D.tup [nI i,nI (q.getD i 0)]:=by
 unfold zF;rw[Pp];refine P2 λi a=>?_
 rw[Pj] at a;congr 3;rw[P5,Qi,Pq a,P5,Pq a];rfl
theorem tG(O:Ord n o)(b:n<=8)(h:Nat):fT [ax o,nI h]=some (.lst ((Pi n).map (yC h o))):=by
 apply bj (kd:=.n) (n:=2) (t:=kF);unfold kF;refine a7 (eS (ds:=(Pi n).map λ(i:Nat)=>D.tup [nI i,nI (o.getD i 0)]) ?_ (by rw[Pp,QJ];lia) ?_)
 ·rw[<-O.len,<-Nz];rfl
 ·refine gx (h:=λ(i:Nat)=>D.tup [nI i,nI (o.getD i 0)]) (o:=yC h o) _ λi a=>⟨_,rfl,?_⟩
  rw[Pj] at a;have hv:=O.get a;refine bS (am ((aA ((aA (x:=.int 2) (y:=nI i) rfl rfl).trans (fS (by decide) ?_)) (y:=nI h) rfl).trans rfl) (am ((aA ((aA (x:=.int 2) (y:=nI (o.getD i 0)) rfl rfl).trans (fS (by decide) ?_)) (y:=nI h) rfl).trans rfl) rfl)) (by simp)
  ·exact Ug (show i<8 by lia) (by decide)
  ·exact Ug (show o.getD i 0<8 by lia) (by decide)
def C6(h:Nat)(p:List Nat)(k:Nat)(q:List Nat)(i j:Nat):Bool:=decide ((2*i+h:Int)<2*j+k)&&decide ((2*(p.getD i 0:Nat)+h:Int)<2*(q.getD j 0:Nat)+k)
theorem Hn(p:Nat->Bool)(l:List Nat):((l.filter p).length:Int)=ls l λx=>bi (p x):=by
 have:=oU p (λ_=>1) l;rw[iP] at this;simpa using this
theorem xJ {β:Type}(f:Nat->List β): ∀l:List Nat,((l.flatMap f).length:Int)=ls l λx=>((f x).length:Int)
 | []=>rfl
 |x::l=>by rw[Qj,P0,U2,xJ f l];rfl
def EH(n h:Nat)(p:List Nat)(k:Nat)(q:List Nat):Int:=ls (Pi n) λi=>ls (Pi n) λj=>bi (C6 h p k q i j)
theorem Fm(c:n<=8)(h:Nat)(p:List Nat)(k:Nat)(q:List Nat):h8 [.lst ((Pi n).map (yC h p)),.lst ((Pi n).map (yC k q))]=some (.int (EH n h p k q)):=by
 apply bj (kd:=.s) (n:=2) (t:=vc);unfold vc;refine a7 ?_
 rw[bP (ds:=[.lst ((Pi n).flatMap λi=>((Pi n).filter (C6 h p k q i)).map λ_=>D.bl true)]) (am (p8 (ds:=(Pi n).map (yC h p)) rfl ?_ ?_) rfl)]
 ·show some (D.int _)=_;rw[xJ];congr 2;unfold EH;refine bB λi _=>?_
  rw[Pp,Hn]
 ·refine(dB (h:=yC h p) (q:=λ_=>true) (o:=λ(i:Nat)=>((Pi n).filter (C6 h p k q i)).map λ_=>D.bl true) (Pi n) λi g=>⟨_,rfl,rfl,λ_=>?_⟩).trans ?_
  ·refine oJ (ds:=(Pi n).map (yC k q)) rfl ?_
   refine(dB (h:=yC k q) (q:=C6 h p k q i) (o:=λ(_:Nat)=>[D.bl true]) (Pi n) λj u=>⟨_,rfl,?_,λ_=>ln rfl⟩).trans ?_
   ·refine mN (a:=decide ((2*i+h:Int)<2*j+k)) (b6 (aA (x:=.int (2*i+h)) (y:=.int (2*j+k)) rfl rfl)) (λz=>?_) (λz=>by unfold C6;rw[z];rfl);unfold C6;rw[z,Qn];exact b6 (aA (x:=.int (2*(p.getD i 0:Nat)+h)) (y:=.int (2*(q.getD j 0:Nat)+k)) rfl rfl)
   ·rw[j9]
  ·rw[QN.mpr (λ_ _=>rfl)]
 ·have b: ∀(l:List Nat) (m:Nat) (f:Nat->List D),(∀a,(f a).length<=m)->(l.flatMap f).length<=l.length*m:=by
   intro l m f e
   induction l with
   |nil=>simp
   |cons a l r=>rw[Qj,P0,P1,VE,Xc];have:=e a;lia
  have d:=b (Pi n) n (λi=>((Pi n).filter (C6 h p k q i)).map λ_=>D.bl true) (λa=>by rw[Pp];exact Qh (Q2 _ _) (by simp));rw[QJ] at d;have:n*n<=8*8:=SF c c;lia
theorem nu(h:p=true↔q=true):bi p=bi q:=by rw[Qd.mpr h]
theorem mE(R:Ord n r)(O:Ord n o)(b:n<=8):dY [ax r,ax o]=some (.int (rV n r o)):=by
 apply bj (kd:=.s) (n:=4) (t:=mq);unfold mq;refine(ay (ρ':=[.v (ax r),.v (ax o),.v (.lst ((Pi n).map (yC 0 o))),.no]) ((bh ((aN (ds:=[ax o,nI 0]) rfl rfl).trans (tG O b 0))).trans rfl)).trans ?_
 refine(ay (ρ':=[.v (ax r),.v (ax o),.v (.lst ((Pi n).map (yC 0 o))),.v (.lst ((Pi n).map (yC 1 r)))]) ((bh ((aN (ds:=[ax r,nI 1]) rfl rfl).trans (tG R b 1))).trans rfl)).trans ?_
 have a: ∀(h:Nat) (p:List Nat) (k:Nat) (q:List Nat) (f g:FE) (ρ:aG),f ρ=some (.lst ((Pi n).map (yC h p)))->g ρ=some (.lst ((Pi n).map (yC k q)))->ak (nF 2 h8) (aa f (aa g aj)) ρ=some (.int (EH n h p k q)):=λh p k q f g ρ d c=>
  (aN (ds:=[.lst ((Pi n).map (yC h p)),.lst ((Pi n).map (yC k q))]) (am d (am c rfl)) rfl).trans (Fm b h p k q)
 refine a7 ((aA ((aA ((aA ((aA (a 0 o 0 o _ _ _ rfl rfl) (a 0 o 1 r _ _ _ rfl rfl)).trans rfl) (a 1 r 0 o _ _ _ rfl rfl)).trans rfl) (a 1 r 1 r _ _ _ rfl rfl)).trans rfl) (y:=.int 1) rfl).trans ?_);show some (D.int _)=_;congr 2;unfold rV;have d:EH n 0 o 0 o=yo n o:=by
  unfold EH yo C6;refine bB λi _=>bB λj _=>nu ?_
  simp only[Ps,lb];lia
 have c:EH n 1 r 1 r=yo n r:=by
  unfold EH yo C6;refine bB λi _=>bB λj _=>nu ?_
  simp only[Ps,lb];lia
 have l:EH n 0 o 1 r=Lf n r o:=by
  unfold EH Lf C6;refine bB λi _=>bB λj _=>nu ?_
  simp only[Ps,lb];lia
 have e:EH n 1 r 0 o=K2 n r o:=by
  unfold EH K2 C6;refine bB λi _=>bB λj _=>nu ?_
  simp only[Ps,lb];lia
 rw[d,c,l,e]
theorem wY(R:Ord n r)(O:Ord n o)(a:n<=8):gl [cH r x,ax o]=some (.int (rV n r o)):=by
 apply bj (kd:=.s) (n:=2) (t:=ur);unfold ur;exact a7 ((aN (ds:=[ax r,ax o]) rfl rfl).trans (mE R O a))
section
variable {n:Nat}{r x:List Nat}{S:Nat->Nat}(R:Ord n r)(X:Ord n x)(H:Sg n r x S)(hn:n<=8)
include R X H hn
theorem Fj: ∃L,jH [cH r x]=some (.lst L)/\L.length=((Pi n).filter (qk S)).length:=by
 obtain⟨C,_,h⟩:=Cn R X H hn;exact⟨_,h,by rw[Pp]⟩
theorem AN(O:Ord n o):jC [cH r x,ax o]=some (.int (rV n r o-rV n x o-n+((Pi n).filter (qk S)).length)):=by
 obtain⟨L,b,a⟩:=Fj R X H hn;rw[<-a];apply bj (kd:=.s) (n:=5) (t:=zx);unfold zx;refine(ay (ρ':=[.v (cH r x),.v (ax o),.v (ax r),.v (ax x),.no]) (dW (fU rfl) rfl)).trans ?_
 refine(ay (ρ':=[.v (cH r x),.v (ax o),.v (ax r),.v (ax x),.v (.int (rV n r o-rV n x o))]) ((bh ((aA ((aN (ds:=[ax r,ax o]) rfl rfl).trans (mE R O hn)) ((aN (ds:=[ax x,ax o]) rfl rfl).trans (mE X O hn))).trans rfl)).trans rfl)).trans ?_
 refine a7 ((aA ((aA (x:=.int (rV n r o-rV n x o)) rfl (iU r _ _ rfl)).trans (jd _ _)) ((bP (ds:=[.lst L]) (am ((aN (ds:=[cH r x]) rfl rfl).trans b) rfl)).trans rfl)).trans ?_);rw[R.len];rfl
end
def nw(n:Nat):Nat->List Nat->List (List Nat)
 |0,s=>[s]
 |k+1,s=>(Pi n).flatMap λh=>cond (decide (h∈s)) [] (nw n k (s++[h]))
def Nc(n:Nat)(F G:TK)(s:List Nat):List Nat:=(IP n s F G).map λe=>e.2
def Nx(n:Nat)(F:TK)(s:List Nat):List Nat:=((CL n s).filter λe=>F s e.1.1 e.1.2 e.2).map λe=>Wn e.2 (xG n)
def Ej {α:Type}:List (List Nat)->(List (List Nat)->α)->α
 | [],f=>f []
 |a::r,f=>CM a λc=>Ej r λb=>f (c::b)
def rX(M:Nat):List Nat->Nat->Nat
 | [],k=>k
 |m::l,k=>cond (QE (Wn m M) 0) (rX M l (So k)) (rX M l k)
def DQ(M:Nat):List (List Nat)->Nat->Nat
 | [],k=>k
 |l::L,k=>Gm (T5 k (R3 (rX M l 0) 7)) λa=>DQ M L a
def Le(n j:Nat)(s:List Nat):Nat:=Sv 2 (T5 (T6 n j) (s.getD j 0))
def wM(n:Nat)(r x:List Nat):Nat:=Yx (Yx (Yx (Le n 1 r) (Le n 1 x)) (Yx (Le n 2 r) (Le n 2 x))) (Yx (Le n 3 r) (Le n 3 x))
def Dn(a b y z:Nat):Bool:=or (and (QE a y) (QE b z)) (and (QE a z) (QE b y))
def Og(a q l:Nat)(r:List Nat):Bool:=and (or (QE (r.getD 0 0) a) (QE (r.getD 0 0) q)) (or (QE (r.getD 4 0) 4) (QE (r.getD 4 0) l))
def K7(a q l:Nat)(b:List (List Nat)):Bool:=kN 5 (λr=>or (not (Og a q l r)) (kN 5 (λx=>or (not (and (Dn a q (r.getD 0 0) (x.getD 0 0)) (Dn 4 l (r.getD 4 0) (x.getD 4 0)))) (Gm (wM 5 r x) λM=>Yv (DQ M b 0) 21)) 5 [])) 5 []
def Jf(a q l:Nat):Bool:=Ej ((nw 5 5 []).map (Nx 5 (HM 5 a q 4 l))) (K7 a q l)
theorem qc {α:Type} [DecidableEq α](g:α->Nat): ∀(A L:List α),A.Nodup->(∀a∈A,a∈L)->(A.map g).sum<=(L.map g).sum
 | [],_,_,_=>Ri _
 |a::A,L,i,h=>by
  obtain⟨f,c⟩:=RD.mp i;rw[iW ((List.perm_cons_erase (h a PV)).map g),Pu,Qb,Pu,Qb];have:=qc g A (L.erase a) c λb d=>(List.mem_erase_of_ne (λe=>f (by rw[<-e];exact d))).mpr (h b (PK _ d))
  lia
theorem xo(O:Ord n o): ∀(t s:List Nat),s++t=o->o∈nw n t.length s
 | [],s,e=>by rw[QX] at e;rw[e];exact PQ.mpr rfl
 |h::t,s,e=>by
  have a:h∈o:=by rw[<-e];simp
  have b:h∉s:=λw=>by
   have:=O.nd;rw[<-e,Q6] at this;exact this.2.2 h w h PV rfl
  show o∈(Pi n).flatMap _;refine Rf.mpr ⟨h,Pj.mpr (O.lt a),?_⟩;rw[lC b];exact xo O t (s++[h]) (by rw[QP];exact e)
theorem AA(O:Ord n o):o∈nw n n []:=by
 have:=xo O o [] rfl;rwa [O.len] at this
theorem vJ {α:Type}: ∀(L:List (List Nat)) (f:List (List Nat)->α),Ej L f=f L
 | [],_=>rfl
 |a::r,f=>by unfold Ej;rw[pV,vJ r]
theorem vm(M:Nat): ∀(l:List Nat) (k:Nat),rX M l k=k+(l.map λm=>if Wn m M=0 then 1 else 0).sum
 | [],_=>rfl
 |m::l,k=>by
  unfold rX;rw[Pu,Qb,vm M l,vm M l]
  by_cases e:Wn m M=0
  ·rw[if_pos e,e];show So k+_=_;lia
  ·rw[if_neg e,mV,lC e];show k+_=_;lia
theorem Av(M:Nat): ∀(L:List (List Nat)) (k:Nat),DQ M L k=k+(L.map λl=>rX M l 0-7).sum
 | [],_=>rfl
 |l::L,k=>by
  unfold DQ;rw[jr,Av M L,Pu,Qb];show k+(rX M l 0-7)+_=_;lia
section
variable {c p:Nat}{r x:List Nat}(hc:c+1<5)(R:Ord 5 r)(X:Ord 5 x)
include hc R X
theorem Gp(f:pO 5 c p r x m=true):Wn m (wM 5 (rl c p r) (rl c p x))=0:=by
 rw[eT] at f;have T:=g9 (n:=5) (by lia) c;have d:=Dy hc;have s:=gp (n:=5) (k:=c) (by lia);have a: ∀j,j<5->j≠0->j≠4->m.testBit (5*j+(rl c p r).getD j 0)=false/\m.testBit (5*j+(rl c p x).getD j 0)=false:=λj q l o=>by
  obtain⟨k,g,rfl⟩:=T.sur j q;rw[fz (by lia) R.len g,fz (by lia) X.len g];exact f k g (λe=>o (by rw[e,s])) λe=>l (by rw[e,d])
 refine Nat.eq_of_testBit_eq λi=>?_
 show(m&&& wM 5 (rl c p r) (rl c p x)).testBit i=_;rw[Zk,Wp];show(m.testBit i&&((((2^(5*1+(rl c p r).getD 1 0)|||2^(5*1+(rl c p x).getD 1 0))|||(2^(5*2+(rl c p r).getD 2 0)|||2^(5*2+(rl c p x).getD 2 0)))|||(2^(5*3+(rl c p r).getD 3 0)|||2^(5*3+(rl c p x).getD 3 0)))).testBit i)=false;simp only[Z8,Nat.testBit_two_pow];cases b:m.testBit i with
 |false=>rfl
 |true=>
  have no: ∀k,m.testBit k=false->decide (k=i)=false:=λk h=>lC λe=>by rw[e,b] at h;cases h
  rw[no _ (a 1 (by lia) (by lia) (by lia)).1,no _ (a 1 (by lia) (by lia) (by lia)).2,no _ (a 2 (by lia) (by lia) (by lia)).1,no _ (a 2 (by lia) (by lia) (by lia)).2,no _ (a 3 (by lia) (by lia) (by lia)).1,no _ (a 3 (by lia) (by lia) (by lia)).2];rfl
theorem JT(l:List Nat):(l.map λm=>if pO 5 c p r x m=true then 1 else 0).sum<=rX (wM 5 (rl c p r) (rl c p x)) l 0:=by
 rw[vm,RE]
 induction l with
 |nil=>exact Px _
 |cons m l a=>
  rw[Pu,Qb,Pu,Qb]
  by_cases f:pO 5 c p r x m=true
  ·rw[if_pos f,if_pos (Gp hc R X f)];lia
  ·rw[if_neg f];lia
theorem Em(h:K7 r1 q l ((nw 5 5 []).map mk)=true)(D:Pr r1 q (aE 5 p (r.getD (c+1) 0)) (aE 5 p (x.getD (c+1) 0)))(B:Pr 4 l (aE 5 p (r.getD c 0)) (aE 5 p (x.getD c 0))){A:List (List Nat)}(F:A.Nodup)(i: ∀s∈A,Ord 5 s):
 (A.map λs=>((mk (rl c p s)).map λm=>if pO 5 c p r x m=true then 1 else 0).sum).sum<=7*A.length+21:=by
 have o:=ge (c:=c) (p:=p) (by lia) R;have j:=ge (c:=c) (p:=p) (by lia) X;have d:=Dy hc;have H:=gp (n:=5) (k:=c) (by lia);have G:(rl c p r).getD 0 0=aE 5 p (r.getD (c+1) 0):=by have z:=fz (c:=c) (p:=p) (n:=5) (by lia) R.len hc;rwa [d] at z
 have N:(rl c p x).getD 0 0=aE 5 p (x.getD (c+1) 0):=by have z:=fz (c:=c) (p:=p) (n:=5) (by lia) X.len hc;rwa [d] at z
 have w:(rl c p r).getD 4 0=aE 5 p (r.getD c 0):=by have z:=fz (c:=c) (p:=p) (n:=5) (by lia) R.len (show c<5 by lia);rwa [H] at z
 have K:(rl c p x).getD 4 0=aE 5 p (x.getD c 0):=by have z:=fz (c:=c) (p:=p) (n:=5) (by lia) X.len (show c<5 by lia);rwa [H] at z
 have C: ∀ {a b y z:Nat},Pr a b y z->Dn a b y z=true:=λ{a b y z} h=>by
  show((QE a y&&QE b z)||(QE a z&&QE b y))=true;rw[mV,mV,mV,mV];rcases h with⟨f,g⟩|⟨f,g⟩<;>simp[f,g]
 have I:Og r1 q l (rl c p r)=true:=by
  show((QE _ r1||QE _ q)&&(QE _ 4||QE _ l))=true;rw[mV,mV,mV,mV,G,w];rcases D with⟨f,g⟩|⟨f,g⟩<;>rcases B with⟨E,u⟩|⟨E,u⟩<;>simp[f,g,E,u]
 have k:=uR 5 [] (rl c p r) h o.len (by simpa using o.nd) λv hv=>o.lt (by simpa using hv)
 have k:(not (Og r1 q l (rl c p r))||kN 5 _ 5 [])=true:=k;rw[I,Rs,RS] at k;have k:=uR 5 [] (rl c p x) k j.len (by simpa using j.nd) λv hv=>j.lt (by simpa using hv)
 have k:(not (Dn r1 q ((rl c p r).getD 0 0) ((rl c p x).getD 0 0)&&Dn 4 l ((rl c p r).getD 4 0) ((rl c p x).getD 4 0))||Gm (wM 5 (rl c p r) (rl c p x)) λM=>Yv (DQ M ((nw 5 5 []).map mk) 0) 21)=true:=k;rw[G,N,w,K,C D,C B,XN,Rs,RS,jr] at k;have k:=Pv k;rw[Av,RE,PM] at k;have Q:(A.map λs=>((mk (rl c p s)).map λm=>if pO 5 c p r x m=true then 1 else 0).sum).sum<=7*A.length+((A.map (rl c p)).map λs=>rX (wM 5 (rl c p r) (rl c p x)) (mk s) 0-7).sum:=by
  clear F i k
  induction A with
  |nil=>exact Px _
  |cons s A P=>
   rw[Pu,Qb,Pu,Pu,Qb,P1];have:=JT (p:=p) hc R X (mk (rl c p s));lia
 have s2:=qc (λs=>rX (wM 5 (rl c p r) (rl c p x)) (mk s) 0-7) (A.map (rl c p)) (nw 5 5 []) (by
  rw[Rw,QI];exact QO (λ{a b} t J (L:a≠b) e=>L (zR (by lia) (i a t) (i b J) e)) F) λa t=>by
  obtain⟨s,O,rfl⟩:=PU.mp t;exact AA (ge (by lia) (i s O))
 have k:((nw 5 5 []).map λs=>rX (wM 5 (rl c p r) (rl c p x)) (mk s) 0-7).sum<=21:=k;lia
theorem Ih(i:HF 5 c p r x F F')(m:HF 5 c p r x G G')(h:K7 r1 q l ((nw 5 5 []).map (Nc 5 F' G'))=true)(j:Pr r1 q (aE 5 p (r.getD (c+1) 0)) (aE 5 p (x.getD (c+1) 0)))(k:Pr 4 l (aE 5 p (r.getD c 0)) (aE 5 p (x.getD c 0))){A:List (List Nat)}(d:A.Nodup)(b: ∀s∈A,Ord 5 s):
 (A.map λs=>(two 5 F G s).length).sum<=7*A.length+21:=by
 refine Qh (Vc ?_) (Em hc R X h j k d b);congr 1;refine P2 λs g=>?_
 have e:=Bc (by lia) (by lia) hc R X i m (b s g) (u:=λ_=>1) (w:=λe=>if pO 5 c p r x e.2=true then 1 else 0) λ_ _ _=>rfl
 unfold Nc;rw[PM];refine Yy ?_ e;generalize two 5 F G s=l
 induction l with
 |nil=>rfl
 |cons a l f=>rw[P1,Pu,Qb,<-f];lia
theorem HU(B:HF 5 c p r x F F')(h:K7 r1 q l ((nw 5 5 []).map (Nx 5 F'))=true)(C:Pr r1 q (aE 5 p (r.getD (c+1) 0)) (aE 5 p (x.getD (c+1) 0)))(E:Pr 4 l (aE 5 p (r.getD c 0)) (aE 5 p (x.getD c 0))){A:List (List Nat)}(y:A.Nodup)(m: ∀s∈A,Ord 5 s):
 (A.map λs=>(sp 5 (F s)).length).sum<=7*A.length+21:=by
 refine Qh (Vc ?_) (Em hc R X h C E y m);congr 1;refine P2 λo G=>?_
 have O:=m o G;have t:=ge (c:=c) (p:=p) (by lia) O;have T:=g9 (n:=5) (by lia) c;have v: ∀l:List (Nat×Nat),l.length=(l.map λ_=>1).sum:=λl=>by
  induction l with
  |nil=>rfl
  |cons a l H=>rw[P1,Pu,Qb,<-H];lia
 unfold Nx;rw[v,qS,Ay (by lia) (by lia) t,Zj,PM,PM,jB,qS];refine Yy ?_ (D7 T _)
 refine tR λa b g i=>?_
 by_cases d:a=b
 ·rw[lC (show¬a≠b from λw=>w d),lC (show¬aE 5 c a≠aE 5 c b from λw=>w (by rw[d])),Rv,Rv];rfl
 have f:aE 5 c a≠aE 5 c b:=λe=>d (T.inj a b g i e)
 have D:bH (rl c p o) (aE 5 c a) (aE 5 c b)=bH o a b:=Bf (u:=aE 5 p) T (g9 (by lia) p) O t (λk z=>fz (by lia) O.len z) g i d;rw[lm d,lm f,Qn,Qn,B o O a b g i d,D];show _=if bH o a b=true then(if F' (rl c p o) (aE 5 c a) (aE 5 c b) (kc 5 (rl c p o) (aE 5 c a) (aE 5 c b))=true then(if pO 5 c p r x (kc 5 (rl c p o) (aE 5 c a) (aE 5 c b)&&& xG 5)=true then 1 else 0) else 0) else 0
 have j:=yE (p:=p) (by lia) (by lia) hc R X (kc 5 (rl c p o) (aE 5 c a) (aE 5 c b)) 0;rw[Nat.or_zero,xK,XN] at j;rw[j];cases bH o a b<;>cases F' (rl c p o) (aE 5 c a) (aE 5 c b) (kc 5 (rl c p o) (aE 5 c a) (aE 5 c b))<;>cases pO 5 c p r x (kc 5 (rl c p o) (aE 5 c a) (aE 5 c b))<;>rfl
end
theorem A4(e:List Int->List (List Int))(K:List (List Int)):(fW e K).length<=(K.map λk=>(e k).length).sum:=by
 unfold fW cR;rw[(aM (lt:=bx) _).length_eq];refine Qh (uW _) (Vc ?_);rw[Xz]
theorem HC(n:Nat)(F G:List Nat->Nat->Nat->Bool){K:List (List Int)}:(fW (eR n G) (fW (eR n F) K)).length<=(K.map λk=>(two n F G (uz k)).length).sum:=by
 refine Qh (A4 _ _) ?_
 have p:((fW (eR n F) K).map λk=>(eR n G k).length).sum=((nR (K.flatMap (eR n F))).map λk=>(eR n G k).length).sum:=iW ((aM (lt:=bx) _).map _);rw[p];refine Qh (qc _ _ (K.flatMap (eR n F)) (ux _) λa b=>Fl b) (Vc ?_);rw[ko];congr 1;refine P2 λk _=>?_
 unfold two eR;rw[Xz,PM];congr 1;refine P2 λq _=>?_
 show(Yo _ (sp n (G (uz (zs (bA (uz k) q.1 q.2)))))).length=_;simp only[eH,Pp]
theorem Iz {L:List (List Int)}(m:L.Nodup)(h:iO 4 L):L.length<=24:=by
 have:=qc (λ_=>1) (L.map uz) (nw 4 4 []) (by
  rw[Rw,QI];refine QO (λ{a b} c j (f:a≠b) e=>f ?_) m;obtain⟨o,_,rfl⟩:=h a c;obtain⟨n,_,rfl⟩:=h b j
  rw[eH,eH] at e;rw[e]) λa c=>by
  obtain⟨k,i,rfl⟩:=PU.mp c;obtain⟨o,O,rfl⟩:=h k i;rw[eH];exact AA O
 have e:((nw 4 4 []).map λ_=>1).sum=24:=by decide+kernel
 rw[e,PM] at this;have d: ∀l:List (List Int),l.length=(l.map λ_=>1).sum:=λl=>by
  induction l with
  |nil=>rfl
  |cons a l g=>rw[P1,Pu,Qb,<-g];lia
 rw[d];exact this
theorem Fy{A:List (List Int)}(g:A.Nodup)(h:iO n A):(A.map uz).Nodup/\ ∀s∈A.map uz,Ord n s:=by
 constructor
 ·rw[Rw,QI];refine QO (λ{a b} j f (c:a≠b) e=>c ?_) g;obtain⟨o,_,rfl⟩:=h a j;obtain⟨l,_,rfl⟩:=h b f;rw[eH,eH] at e;rw[e]
 ·intro s i;obtain⟨k,d,rfl⟩:=PU.mp i;obtain⟨o,O,rfl⟩:=h k d;rw[eH];exact O
theorem G8:Jf 0 1 2=true:=by decide+kernel
theorem Pa:Jf 0 1 3=true:=by decide+kernel
theorem LE:Jf 0 2 3=true:=by decide+kernel
theorem OU:Jf 1 2 3=true:=by decide+kernel
theorem AR {P:Nat->Nat->Nat->Prop}(d:P 0 1 2)(e:P 0 1 3)(f:P 0 2 3)(g:P 1 2 3)(a:r<q)(b:q<l)(c:l<4):P r q l:=by
 have:(r=0/\q=1/\l=2)\/(r=0/\q=1/\l=3)\/(r=0/\q=2/\l=3)\/(r=1/\q=2/\l=3):=by lia
 rcases this with⟨rfl,rfl,rfl⟩|⟨rfl,rfl,rfl⟩|⟨rfl,rfl,rfl⟩|⟨rfl,rfl,rfl⟩<;>assumption
section
variable {n c:Nat}{r x:List Nat}(h4:4<=n)(h5:n<=5)(hc:c+1<n)(R:Ord n r)(X:Ord n x)(N:NI n (r.getD c 0) (x.getD c 0) (r.getD (c+1) 0) (x.getD (c+1) 0))
include h4 h5 hc R X N
theorem JX {A:List (List Int)}(t:A.Nodup)(o:iO n A)(w:A.length<=6):(HY n r x A).length<64:=by
 have f:n=4->(HY n r x A).length<=24:=λe=>by subst e;exact Iz (iS _) (uI o)
 by_cases e:n=4
 ·have:=f e;lia
 ·have e:n=5:=by lia
  subst e;obtain⟨m,l,i,j,v,d,g⟩:=N.cfg h5;generalize aX (r.getD (c+1) 0) (x.getD (c+1) 0) (r.getD c 0)=V at i j d;generalize aX (r.getD c 0) (x.getD c 0) (r.getD (c+1) 0)=T at i j v d g;have u:HF 5 c T r x (b8 r x) (HM 5 m (aE 5 T V) 4 l):=vB h4 h5 hc R X (λ_ _ _ _=>⟨rfl,rfl⟩) d g;have h:Jf m (aE 5 T V) l=true:=AR (P:=λa b c=>Jf a b c=true) G8 Pa LE OU i j (by lia);unfold Jf at h;rw[vJ] at h;obtain⟨p,q⟩:=Fy t o;have:=HU hc R X u h d g p q;rw[PM,Pp] at this;have b:=A4 (eR 5 (b8 r x)) A;have e:(A.map λk=>(eR 5 (b8 r x) k).length)=A.map ((λs=>(sp 5 (b8 r x s)).length)∘uz):=P2 λk _=>by unfold eR;rw[Pp];rfl
  rw[e] at b;have b:(HY 5 r x A).length<=_:=b;lia
end
def vO(F G:TK)(a q l:Nat):Bool:=Ej ((nw 5 5 []).map (Nc 5 F G)) (K7 a q l)
abbrev kB(a q l:Nat):TK:=HA 5 4 a q 4 l
abbrev kC(a q l:Nat):TK:=HA 5 q 4 l a q
abbrev kW(a q l:Nat):TK:=K6 5 4 q a q 4 l
abbrev kS(a q l:Nat):TK:=HM 5 a q 4 l
theorem OR:vO (kB 0 1 2) (kC 0 1 2) 0 1 2=true:=by decide+kernel
theorem Pe:vO (kW 0 1 2) (kS 0 1 2) 0 1 2=true:=by decide+kernel
theorem OQ:vO (kS 0 1 2) (kW 0 1 2) 0 1 2=true:=by decide+kernel
theorem O1:vO (kB 0 1 3) (kC 0 1 3) 0 1 3=true:=by decide+kernel
theorem OW:vO (kW 0 1 3) (kS 0 1 3) 0 1 3=true:=by decide+kernel
theorem Pc:vO (kS 0 1 3) (kW 0 1 3) 0 1 3=true:=by decide+kernel
theorem O0:vO (kB 0 2 3) (kC 0 2 3) 0 2 3=true:=by decide+kernel
theorem Pf:vO (kW 0 2 3) (kS 0 2 3) 0 2 3=true:=by decide+kernel
theorem OY:vO (kS 0 2 3) (kW 0 2 3) 0 2 3=true:=by decide+kernel
theorem Pd:vO (kB 1 2 3) (kC 1 2 3) 1 2 3=true:=by decide+kernel
theorem OS:vO (kW 1 2 3) (kS 1 2 3) 1 2 3=true:=by decide+kernel
theorem O4:vO (kS 1 2 3) (kW 1 2 3) 1 2 3=true:=by decide+kernel
section
variable {n c:Nat}{r x:List Nat}(h4:4<=n)(h5:n<=5)(hc:c+1<n)(R:Ord n r)(X:Ord n x)(N:NI n (r.getD c 0) (x.getD c 0) (r.getD (c+1) 0) (x.getD (c+1) 0))
include h4 h5 hc R X N
theorem J9(C: ∀o,Ord n o-> ∀a b,a<n->b<n->a≠b->(B o a b=true↔FF n c r x (aX (r.getD c 0) (x.getD c 0) (r.getD (c+1) 0)) (r.getD (c+1) 0) (x.getD (c+1) 0) (r.getD c 0) (x.getD c 0) o a b))
 (k: ∀o,Ord n o-> ∀a b,a<n->b<n->a≠b->(B' o a b=true↔FF n c r x (aX (r.getD (c+1) 0) (x.getD (c+1) 0) (r.getD c 0)) (r.getD c 0) (x.getD c 0) (r.getD (c+1) 0) (x.getD (c+1) 0) o a b))
 (u: ∀o,Ord n o-> ∀a b,a<n->b<n->a≠b->(W o a b=true↔IC n c r x (aX (r.getD c 0) (x.getD c 0) (r.getD (c+1) 0)) (aX (r.getD (c+1) 0) (x.getD (c+1) 0) (r.getD c 0)) (r.getD (c+1) 0) (x.getD (c+1) 0) (r.getD c 0) (x.getD c 0) o a b))
 {A:List (List Int)} (S:A.Nodup) (E:iO n A) (Z:A.length<=5):
 (fW (eR n B') (fW (eR n B) A)).length<=56/\(fW (eR n (b8 r x)) (fW (eR n W) A)).length<=56/\(fW (eR n W) (fW (eR n (b8 r x)) A)).length<=56:=by
 by_cases e:n=4
 ·subst e;have f: ∀F G:List Nat->Nat->Nat->Bool,(fW (eR 4 G) (fW (eR 4 F) A)).length<=56:=λF G=>by
   have:=Iz (iS _) (jw (F:=G) (jw (F:=F) E));unfold fW;unfold fW at this;lia
  exact⟨f _ _,f _ _,f _ _⟩
 ·have e:n=5:=by lia
  subst e;obtain⟨d,l,i,j,Y,g,h⟩:=N.cfg h5;obtain⟨m,v⟩:=nG N;generalize aX (r.getD (c+1) 0) (x.getD (c+1) 0) (r.getD c 0)=V at k u i j g v;generalize aX (r.getD c 0) (x.getD c 0) (r.getD (c+1) 0)=T at C u m i j Y g h;have D:HF 5 c T r x (b8 r x) (HM 5 d (aE 5 T V) 4 l):=vB h4 h5 hc R X (λ_ _ _ _=>⟨rfl,rfl⟩) g h;have I:HF 5 c T r x B' (HA 5 (aE 5 T V) 4 l d (aE 5 T V)):=qa (p:=T) h4 h5 hc R X v (R.get (by lia)) (X.get (by lia)) (R.get hc) (X.get hc) h g k;have U:HF 5 c T r x B (HA 5 4 d (aE 5 T V) 4 l):=by
   have:=qa (p:=T) h4 h5 hc R X m (R.get hc) (X.get hc) (R.get (by lia)) (X.get (by lia)) g h C;rwa [gp m] at this
  have H:HF 5 c T r x W (K6 5 4 (aE 5 T V) d (aE 5 T V) 4 l):=by
   have:=Af (p:=T) h4 h5 hc R X m v (R.get hc) (X.get hc) (R.get (by lia)) (X.get (by lia)) g h u;rwa [gp m] at this
  have y:vO (kB d (aE 5 T V) l) (kC d (aE 5 T V) l) d (aE 5 T V) l=true:=AR (P:=λa b c=>vO (kB a b c) (kC a b c) a b c=true) OR O1 O0 Pd i j (by lia);have w:vO (kW d (aE 5 T V) l) (kS d (aE 5 T V) l) d (aE 5 T V) l=true:=AR (P:=λa b c=>vO (kW a b c) (kS a b c) a b c=true) Pe OW Pf OS i j (by lia);have t:vO (kS d (aE 5 T V) l) (kW d (aE 5 T V) l) d (aE 5 T V) l=true:=AR (P:=λa b c=>vO (kS a b c) (kW a b c) a b c=true) OQ Pc OY O4 i j (by lia);unfold vO at y w t;rw[vJ] at y w t;obtain⟨J,L⟩:=Fy S E;have f: ∀ {F G:List Nat->Nat->Nat->Bool} {q z:TK},HF 5 c T r x F q->HF 5 c T r x G z->K7 d (aE 5 T V) l ((nw 5 5 []).map (Nc 5 q z))=true->(fW (eR 5 G) (fW (eR 5 F) A)).length<=56:=λ{F G q z} M O Q=>by
   have:=Ih hc R X M O Q g h J L;rw[PM,Pp] at this;have b:(fW (eR 5 G) (fW (eR 5 F) A)).length<=(A.map ((λs=>(two 5 F G s).length)∘uz)).sum:=HC 5 F G (K:=A);lia
  exact⟨f U I y,f H D w,f D H t⟩
end
set_option maxHeartbeats 4000000
theorem B6 {N:Nat}(B:Bag N a b)(hN:N<=100000){n:Nat}(h0:0<n)(T:n<=5): ∃(K:List (List Int)) (N':Nat) (h f:Int),fQ (aF a b) [nI n]=some (kD K,aF h f)/\Bag N' h f/\N'<=N+100/\Cw 5 K/\iO n K:=by
 obtain⟨d,E,z,X,U,d0,d1⟩:=nE (m:=6) B (by lia) (by decide) (by decide);obtain⟨m,rfl⟩: ∃m:Nat,d=m:=⟨d.toNat,by lia⟩
 have q1:gc 2 (b7 (aj)) (qM 5 (aF a b) [nI n])=.nx [.arg (aF a b),.v (nI n),.own [],.no,.no]:=(k6 (cT rfl (by simp))).trans rfl;have q2:EQ (dC (aJ 0 1 aR (cq (aa (aC (.int 6)) (aj)))) (cq (aj))) [.arg (aF a b),.v (nI n),.own [],.no,.no]=some (vZ 0 m,[.arg (aF E z),.v (nI n),.own (([]:List (List Nat)).map ax),.no,.no]):=by
  have:dC (aJ 0 1 aR (cq (aa (aC (.int 6)) (aj)))) (cq (aj)) [.arg (aF a b),.v (nI n),.own [],.no,.no]=some ([.int m],[.arg (aF E z),.v (nI n),.own (([]:List (List Nat)).map ax),.no,.no]):=
   iZ (cN (i:=0) (n:=1) (b0:=aF a b) (ds:=[.int 6]) rfl (bU rfl) rfl rfl X) rfl
  unfold EQ;rw[this];show(if(m:Int).natAbs<4000000000 then _ else _)=_;rw[if_pos (by lia),Rt]
 have Q:(vZ 0 m).length=m:=by unfold vZ;simp
 obtain⟨ρ',lp,L,h,f,w,p,O,A,r,D,rfl⟩:=wm (g:=gN 3) (b:=aB (g7 4 (g8 gz (dC (aJ 0 1 ba (cq (aa (ai 1) (aj)))) (cq (aj)))))
  (fy (bR (av (jk true) (ai 4) (dE 2))) (cA (aJ 2 1 gE (cq (aa (ai 4) (aj))))) (cb)))
  (P:=λi ρ=> ∃(L:List (List Nat)) (h f:Int) (w p:Sl),L.length<=i/\(L.map zs).Nodup/\(∀o∈L,Ord n o)/\Bag (N+1+n*i) h f/\ρ=[.arg (aF h f),.v (nI n),.own (L.map ax),w,p]) (vZ 0 m) 0 (λd hd i ρ J G=>by
    obtain⟨L,h,f,w,p,O,A,r,D,rfl⟩:=G;have J:i<m:=by rw[Q] at J;lia
    have Z:n*i<=5*5:=SF T (by lia);obtain⟨o,j,l,V,Y,W⟩:=nr D (n:=n) (by lia) (by lia);have S:g7 4 (g8 gz (dC (aJ 0 1 ba (cq (aa (ai 1) (aj)))) (cq (aj)))) [.arg (aF h f),.v (nI n),.own (L.map ax),.v d,p]=.nx [.arg (aF j l),.v (nI n),.own (L.map ax),.v d,.v (ax o)]:=
     (ie (qs (ds:=[.lst (o.map nI)]) (d:=ax o) (iZ (cN (i:=0) (n:=1) (b0:=aF h f) (ds:=[nI n]) rfl (bU rfl) rfl rfl V) rfl) rfl)).trans rfl
    have s:bR (av (jk true) (ai 4) (dE 2)) [.arg (aF j l),.v (nI n),.own (L.map ax),.v d,.v (ax o)]=some (!decide (zs o∈L.map zs)):=b6 ((aA (x:=ax o) (y:=.lst (L.map ax)) rfl rfl).trans (by rw[l7,zY];exact KK _ _));have M:Bag (N+1+n*(i+1)) j l:=by rw[WJ,<-jaD];exact W
    by_cases c:zs o∈L.map zs
    ·rw[lm c] at s;exact⟨_,_,rfl,(ay S).trans (iI s),L,j,l,_,_,by lia,A,r,M,rfl⟩
    ·rw[lC c] at s;refine⟨_,_,rfl,(ay S).trans ((gk s).trans (rW (i:=2) (b0:=L.map ax) (bs:=L.map ax) (d:=ax o) rfl (bU rfl) rfl (by rw[Pp];lia))),L++[o],j,l,_,_,by simp;lia,?_,λu I=>?_,M,by rw[Qm];rfl⟩
     ·rw[Qm];exact Q6.mpr ⟨A,by simp,λu I v hv=>by rw[Pu,SQ,PQ] at hv;rw[hv];exact λe=>c (e▸I)⟩
     ·rcases QL.mp I with q|q
      ·exact r u q
      ·rw[PQ] at q;rw[q];exact Y) [.arg (aF E z),.v (nI n),.own (([]:List (List Nat)).map ax),.no,.no] ⟨[],E,z,.no,.no,by simp,by simp,by simp,by simpa using U,rfl⟩
 rw[Q] at O D;have Z:n*m<=5*5:=SF T (by lia)
 have C:Cw 5 (L.map zs):=⟨A,by rw[Pp];lia,λk F=>by
  obtain⟨o,H,rfl⟩:=PU.mp F;intro e;have R:=(r o H).len;have:=congrArg Sd e
  unfold zs at this;simp at this;rw[this] at R;simp at R;lia⟩
 have hs:=IK (ks:=L.map zs) (by have:=C.len;lia) C.ne;refine⟨srt (L.map zs),N+1+n*(0+m),h,f,?_,D,by rw[RE];lia,C.srt,λk F=>?_⟩
 rotate_left
 ·obtain⟨o,H,rfl⟩:=PU.mp (kn.mp F);exact⟨o,r o H,rfl⟩
 refine KN (kd:=.n) (n:=5) (t:=j6) (ρ:=[.arg (aF h f),.v (nI n),.own (L.map ax),w,p]) ?_ rfl;unfold j6;refine(ay q1).trans ((ay ((ir q2).trans lp)).trans (a7 ((bP (ds:=[.lst (L.map ax)]) rfl).trans ?_)));rw[zY];exact hs
theorem Eb(a b:Int):fw (.tup [.int a,.int b])<=32:=by
 show cO [.int a,.int b]+1<=32;simp[cO,fw]
section
variable {n c:Nat}{r x:List Nat}(h4:4<=n)(h5:n<=5)(hc:c+1<n)(R:Ord n r)(X:Ord n x)(N:NI n (r.getD c 0) (x.getD c 0) (r.getD (c+1) 0) (x.getD (c+1) 0))
include h4 h5 hc R X N
theorem Je(o:List Nat):(sp n (sG n c r x o)).length<=10:=by
 have p:=(oq hc (λj=>cy n (r,x) o (c+1) j (c+1) [(r,x),(bA r c (c+1),bA x c (c+1))] [aX (r.getD c 0) (x.getD c 0) (r.getD (c+1) 0)]) (λj=>cy n (r,x) o j (c+1) c [(bA r c (c+1),bA x c (c+1)),(r,x)] [aX (r.getD c 0) (x.getD c 0) (r.getD (c+1) 0)]) o).length_eq;rw[Pp] at p;have:=jz (oE (λj=>cy n (r,x) o (c+1) j (c+1) [(r,x),(bA r c (c+1),bA x c (c+1))] [aX (r.getD c 0) (x.getD c 0) (r.getD (c+1) 0)]) (λj=>cy n (r,x) o j (c+1) c [(bA r c (c+1),bA x c (c+1)),(r,x)] [aX (r.getD c 0) (x.getD c 0) (r.getD (c+1) 0)]) o (c+1)) 2 (Pi n) λj _=>r9 _ _ _ _ _
 unfold hJ at p;rw[QJ] at this;have e:(sp n (sG n c r x o)).length=_:=p.symm;rw[e];lia
theorem Ir {K:List (List Int)}(a:iO n K):(fW (eR n (sG n c r x)) K).length<=10*K.length:=by
 unfold fW cR;rw[(aM (lt:=bx) _).length_eq];exact Qh (uW _) (jz _ 10 K λk _=>by unfold eR;rw[Pp];exact Je h4 h5 hc R X N (uz k))
end
def Mq(n s e T V y:Nat):Bool:= !(bv n s e V&&bv n s V T)||((bv n s e y&&(decide ((((T:Int) -s) % n).toNat<(((y:Int) -s) % n).toNat)&&decide ((((y:Int) -s) % n).toNat<=(((V:Int) -s) % n).toNat)))==bv n (dG n T) (dG n V) y)
theorem KP:((Pi 6).all λn=>(Pi n).all λs=>(Pi n).all λe=>(Pi n).all λT=>(Pi n).all λV=>(Pi n).all λy=>Mq n s e T V y)=true:=by decide+kernel
theorem El {n s e T V y:Nat}(g:n<=5)(f:s<n)(b:e<n)(a:T<n)(d:V<n)(c:y<n)(h:bv n s e V=true)(h':bv n s V T=true):bv n (dG n T) (dG n V) y=(bv n s e y&&(decide ((((T:Int) -s) % n).toNat<(((y:Int) -s) % n).toNat)&&decide ((((y:Int) -s) % n).toNat<=(((V:Int) -s) % n).toNat))):=by
 have k:=KP;have k:=Pw.mp k n (Pj.mpr (by lia));have k:=Pw.mp k s (Pj.mpr f);have k:=Pw.mp k e (Pj.mpr b);have k:=Pw.mp k T (Pj.mpr a);have k:=Pw.mp k V (Pj.mpr d);have k:=Pw.mp k y (Pj.mpr c);unfold Mq at k;rw[h,h',XN,Rs,RS,beq_iff_eq] at k;exact k.symm
theorem tJ(s:n<=5){S l:iq}(m:Ga n S)(I:Ga n l){o:List Nat}(O:Ord n o){a b col T V:Nat}(C:a<n)(D:b<n)(G:a≠b)(A:T<n)(B:V<n)(r:col<n)(E:bv n a b col=true):
 cy n S o a b col [S,l,S] [T,V]=true↔bH o a b=true/\(bv n (o.getD a 0) (o.getD b 0) V=true/\(bv n (o.getD a 0) V T=true/\(vV n (o.getD a 0) (dG n T) (S.1.getD col 0) (S.2.getD col 0)/\(vV n (dG n T) (dG n V) (l.1.getD col 0) (l.2.getD col 0)/\vV n (dG n V) (o.getD b 0) (S.1.getD col 0) (S.2.getD col 0)))))/\ ∀k,k<n->k≠col->pk n o (a,b) k (S.1.getD k 0)=false/\pk n o (a,b) k (S.2.getD k 0)=false:=by
 have h:0<n:=by lia
 have u:=O.get C;have x:=O.get D;rw[C4 s O C D G A B ((jt h C b col).mpr ⟨r,E⟩) rfl rfl,Ps,Ps,lb,lb,<-fN h,<-fN h,tT s O C D G];have v: ∀k j,Lb S l col (((T:Int) -o.getD a 0) % n).toNat (((V:Int) -o.getD a 0) % n).toNat k j=if k=col/\((((T:Int) -o.getD a 0) % n).toNat<j/\j<=(((V:Int) -o.getD a 0) % n).toNat) then l else S:=λk j=>by
  unfold Lb Na
  by_cases p:k=col/\((((T:Int) -o.getD a 0) % n).toNat<j/\j<=(((V:Int) -o.getD a 0) % n).toNat)
  ·rw[if_pos p,lm p.1,lm p.2.1,lm p.2.2];rfl
  ·rw[if_neg p,if_neg];rw[Ps,Ps,lb,lb,lb];exact p
 have F:bv n (o.getD a 0) (o.getD b 0) V=true->bv n (o.getD a 0) V T=true->((∀y,y<n->bv n (o.getD a 0) (o.getD b 0) y=true->qm (Lb S l col (((T:Int) -o.getD a 0) % n).toNat (((V:Int) -o.getD a 0) % n).toNat col (((y:Int) -o.getD a 0) % n).toNat) col y=false)↔(vV n (o.getD a 0) (dG n T) (S.1.getD col 0) (S.2.getD col 0)/\(vV n (dG n T) (dG n V) (l.1.getD col 0) (l.2.getD col 0)/\vV n (dG n V) (o.getD b 0) (S.1.getD col 0) (S.2.getD col 0)))):=λf g=>by
  have U:=(fN h).mp f;have R:=(fN h).mp g;have z:bv n (o.getD a 0) (o.getD b 0) T=true:=(fN h).mpr (by lia);have L:=jK (m col r).1 (m col r).2 (λy=>bv n (o.getD a 0) (dG n T) y);have p:=jK (I col r).1 (I col r).2 (λy=>bv n (dG n T) (dG n V) y);have P:=jK (m col r).1 (m col r).2 (λy=>bv n (dG n V) (o.getD b 0) y);unfold vV;rw[<-L,<-p,<-P];constructor
  ·intro H;refine⟨λy d w=>?_,λy d w=>?_,λy d w=>?_⟩
   ·rw[(pr s u x A d z).1,Ps,lb] at w;have:=H y d w.1;rwa [v,if_neg (by lia)] at this
   ·rw[El s u x A B d f g,Ps,Ps,lb,lb] at w;have:=H y d w.1;rwa [v,if_pos ⟨rfl,w.2⟩] at this
   ·rw[(pr s u x B d f).2,Ps,lb] at w;have:=H y d w.1;rwa [v,if_neg (by lia)] at this
  ·rintro⟨Q,N,M⟩ y d w;rw[v]
   by_cases K:(((T:Int) -o.getD a 0) % n).toNat<(((y:Int) -o.getD a 0) % n).toNat
   ·by_cases J:(((y:Int) -o.getD a 0) % n).toNat<=(((V:Int) -o.getD a 0) % n).toNat
    ·rw[if_pos ⟨rfl,K,J⟩];exact N y d (by rw[El s u x A B d f g,w,lm K,lm J];rfl)
    ·rw[if_neg (by lia)];exact M y d (by rw[(pr s u x B d f).2,w,lm (show _<_ by lia)];rfl)
   ·rw[if_neg (by lia)];exact Q y d (by rw[(pr s u x A d z).1,w,lm (show _<=_ by lia)];rfl)
 constructor
 ·rintro⟨⟨g,f⟩,e,H⟩;refine⟨e,⟨f,g,(F f g).mp (H col r E)⟩,λk t w=>(uf (m k t).1 (m k t).2).mp λi y d j=>?_⟩;have:=H k t i y d j;rwa [v,if_neg (λq=>w q.1)] at this
 ·rintro⟨e,⟨f,g,c⟩,H⟩;refine⟨⟨g,f⟩,e,λk t i y d j=>?_⟩
  by_cases w:k=col
  ·subst w;exact(F f g).mpr c y d j
  ·rw[v,if_neg (λq=>w q.1)];exact(uf (m k t).1 (m k t).2).mpr (H k t w) i y d j
def Oq(n c:Nat)(S O:iq)(T V:Nat)(o:List Nat)(a b:Nat):Bool:=(decide (a=c+1)&&cy n S o (c+1) b (c+1) [S,O,S] [T,V])||(decide (b=c+1)&&cy n S o a (c+1) c [S,O,S] [V,T])
theorem GY {n c:Nat}(hn:n<=5)(hc:c+1<n){r x r' x':List Nat}(hS:Ga n (r,x))(hO:Ga n (r',x'))(s1:r'.getD c 0=r.getD (c+1) 0)(s2:x'.getD c 0=x.getD (c+1) 0)(s3:r'.getD (c+1) 0=r.getD c 0)(s4:x'.getD (c+1) 0=x.getD c 0){T V:Nat}(hT:T<n)(hV:V<n){o:List Nat}(Oo:Ord n o){a b:Nat}(ha:a<n)(hb:b<n)(ne:a≠b):
 Oq n c (r,x) (r',x') T V o a b=true↔IC n c r x T V (r.getD (c+1) 0) (x.getD (c+1) 0) (r.getD c 0) (x.getD c 0) o a b:=by
 have hc':c<n:=by lia
 have ot: ∀ {col oc:Nat},bv n a b oc=false->(col=c/\oc=c+1\/col=c+1/\oc=c)->((∀k,k<n->k≠col->pk n o (a,b) k (r.getD k 0)=false/\pk n o (a,b) k (x.getD k 0)=false)↔Lh n c r x o a b):=λ{col oc} ho hco=>by
  constructor
  ·intro H k hk k1 k2;exact H k hk (by rcases hco with⟨e,_⟩|⟨e,_⟩<;>rw[e]<;>assumption)
  ·intro H k hk w
   by_cases e:k=oc
   ·subst e;unfold pk;rw[ho];exact⟨rfl,rfl⟩
   ·have k1:k≠c:=by rcases hco with⟨e1,e2⟩|⟨e1,e2⟩<;>lia
    have k2:k≠c+1:=by rcases hco with⟨e1,e2⟩|⟨e1,e2⟩<;>lia
    exact H k hk k1 k2
 unfold Oq IC M4;rw[Ra,Ps,Ps,lb,lb]
 by_cases e1:a=c+1
 ·subst e1;have nb:b≠c+1:=λe=>ne e.symm
  have f:=kZ n (by lia) c hc' hc b hb nb;rw[tJ hn hS hO Oo ha hb ne hT hV hc f.2.2.2];dsimp only;rw[ot f.1 (.inr ⟨rfl,rfl⟩),s3,s4];constructor
  ·rintro(⟨_,w1,w2,w3⟩|⟨w,_⟩)
   ·exact⟨w1,.inl ⟨rfl,w2⟩,w3⟩
   ·exact absurd w nb
  ·rintro⟨w1,(⟨_,w2⟩|⟨w,_⟩),w3⟩
   ·exact .inl ⟨rfl,w1,w2,w3⟩
   ·exact absurd w nb
 ·by_cases e2:b=c+1
  ·subst e2;have f:=kZ n (by lia) c hc' hc a ha e1;rw[tJ hn hS hO Oo ha hb ne hV hT hc' f.2.1];dsimp only;rw[ot f.2.2.1 (.inl ⟨rfl,rfl⟩),s1,s2];constructor
   ·rintro(⟨w,_⟩|⟨_,w1,w2,w3⟩)
    ·exact absurd w e1
    ·exact⟨w1,.inr ⟨rfl,w2⟩,w3⟩
   ·rintro⟨w1,(⟨w,_⟩|⟨_,w2⟩),w3⟩
    ·exact absurd w e1
    ·exact .inr ⟨rfl,w1,w2,w3⟩
  ·constructor
   ·rintro(⟨w,_⟩|⟨w,_⟩)
    ·exact absurd w e1
    ·exact absurd w e2
   ·rintro⟨_,(⟨w,_⟩|⟨w,_⟩),_⟩
    ·exact absurd w e1
    ·exact absurd w e2
abbrev rD(n c:Nat)(r x:List Nat):List Nat->Nat->Nat->Bool:=Oq n c (r,x) (bA r c (c+1),bA x c (c+1)) (aX (r.getD c 0) (x.getD c 0) (r.getD (c+1) 0)) (aX (r.getD (c+1) 0) (x.getD (c+1) 0) (r.getD c 0))
section
variable {n c:Nat}{r x:List Nat}(h4:4<=n)(h5:n<=5)(hc:c+1<n)(R:Ord n r)(X:Ord n x)(N:NI n (r.getD c 0) (x.getD c 0) (r.getD (c+1) 0) (x.getD (c+1) 0))
include h4 h5 hc R X N
theorem vx: ∀o,Ord n o-> ∀a b,a<n->b<n->a≠b->(rD n c r x o a b=true↔IC n c r x (aX (r.getD c 0) (x.getD c 0) (r.getD (c+1) 0)) (aX (r.getD (c+1) 0) (x.getD (c+1) 0) (r.getD c 0)) (r.getD (c+1) 0) (x.getD (c+1) 0) (r.getD c 0) (x.getD c 0) o a b):=λo O a b g h f=>by
 have e:=j3 R hc;have d:=j3 X hc;exact GY h5 hc (vP R X) (vP (R.exx (by lia) hc) (X.exx (by lia) hc)) e.1 d.1 e.2.1 d.2.1 (nG N).1 (nG N).2 O g h f
theorem F1:NI n ((bA r c (c+1)).getD c 0) ((bA x c (c+1)).getD c 0) ((bA r c (c+1)).getD (c+1) 0) ((bA x c (c+1)).getD (c+1) 0):=by
 have a:=j3 R hc;have b:=j3 X hc;rw[a.1,a.2.1,b.1,b.2.1];exact N.swap h5
theorem v4: ∀o,Ord n o-> ∀a b,a<n->b<n->a≠b->(sG n c (bA r c (c+1)) (bA x c (c+1)) o a b=true↔FF n c r x (aX (r.getD (c+1) 0) (x.getD (c+1) 0) (r.getD c 0)) (r.getD c 0) (x.getD c 0) (r.getD (c+1) 0) (x.getD (c+1) 0) o a b):=λo O a b i j h=>by
 have e:=j3 R hc;have d:=j3 X hc;have q:=uD h4 h5 hc (R.exx (by lia) hc) (X.exx (by lia) hc) (F1 h4 h5 hc R X N) o O a b i j h;rw[q,e.1,e.2.1,d.1,d.2.1];unfold FF Lh;refine and_congr Vj (and_congr Vj (forall_congr' λk=>forall_congr' λ_=>forall_congr' λg=>forall_congr' λf=>?_));rw[e.2.2 k g f,d.2.2 k g f]
theorem u3 {K:List (List Int)}(w:iO n K)(y:K.length<=700)(f:(fW (eR n (rD n c r x)) K).length<64):fC [cH r x,nI c,kD K]=some (kD (fW (eR n (rD n c r x)) K)):=by
 let S:iq:=(r,x)
 let O:iq:=(bA r c (c+1),bA x c (c+1))
 have h:=R.exx (show c<n by lia) hc;have m:=X.exx (show c<n by lia) hc;have k:=j3 R hc;have s:=j3 X hc;have g:Ln n S:=⟨R.len,X.len⟩
 have u:Ln n O:=⟨h.len,m.len⟩
 have i:c6 [cH r x,nI c]=some (nI (aX (r.getD c 0) (x.getD c 0) (r.getD (c+1) 0))):=ue R.len X.len hc N;have j:c6 [fV O,nI c]=some (nI (aX (r.getD (c+1) 0) (x.getD (c+1) 0) (r.getD c 0))):=by
  have:=ue h.len m.len hc (F1 h4 h5 hc R X N);rw[k.1,k.2.1,s.1] at this;exact this
 have a:=f;unfold rD at a;generalize p:aX (r.getD c 0) (x.getD c 0) (r.getD (c+1) 0)=T at i a;generalize z:aX (r.getD (c+1) 0) (x.getD (c+1) 0) (r.getD c 0)=U at j a;have b: ∀l∈[S,O,S],Ln n l:=λl d=>by
  simp only[PX,Q5,or_false] at d;rcases d with q|q|q
  ·rw[q];exact g
  ·rw[q];exact u
  ·rw[q];exact g
 apply bj (kd:=.n) (n:=9) (t:=zy);unfold zy;refine(ay (ρ':=[.v (fV S),.v (nI c),.v (kD K),.v (fV O),.no,.no,.no,.no,.no]) ((bh ((aN (ds:=[fV S,nI c]) rfl rfl).trans (zu h4 h5 hc R X N))).trans rfl)).trans ?_
 refine(ay (ρ':=[.v (fV S),.v (nI c),.v (kD K),.v (fV O),.v (nI T),.v (nI U),.no,.no,.no]) ((KJ (am ((aN (ds:=[fV S,nI c]) rfl rfl).trans i) (am ((aN (ds:=[fV O,nI c]) rfl rfl).trans j) rfl))).trans rfl)).trans ?_
 refine(ay (ρ':=[.v (fV S),.v (nI c),.v (kD K),.v (fV O),.v (nI T),.v (nI U),.v (.lst [fV S,fV O,fV S]),.no,.no]) ((bh (cT rfl (by simp))).trans rfl)).trans ?_
 refine(ay (ρ':=[.v (fV S),.v (nI c),.v (kD K),.v (fV O),.v (nI T),.v (nI U),.v (.lst [fV S,fV O,fV S]),.v (dm [S,O,S] [T,U]),.v (dm [S,O,S] [U,T])]) (dW (fU (bS (am (bS (am rfl (am (cT rfl (by simp)) rfl)) (by simp)) (am (bS (am rfl (am (cT rfl (by simp)) rfl)) (by simp)) rfl)) (by simp))) rfl)).trans ?_
 refine a7 ((tM (i5:=7) (i6:=8) (i7:=9) (i8:=10) h4 h5 g hc (rs:=[S,O,S]) (ls:=[S,O,S]) (rt:=[T,U]) (lt:=[U,T]) b b (by simp) (by simp) w y (λo=>⟨_,rfl,rfl,λe=>⟨_,rfl,rfl⟩⟩) rfl a).trans ?_);unfold rD;rw[p,z];rfl
theorem xM {K:List (List Int)}(a:iO n K):(fW (eR n (rD n c r x)) K).length<=10*K.length:=by
 unfold fW cR;rw[(aM (lt:=bx) _).length_eq];refine Qh (uW _) (jz _ 10 K λk _=>?_);unfold eR;rw[Pp]
 let P:Nat->Bool:=λj=>cy n (r,x) (uz k) (c+1) j (c+1) [(r,x),(bA r c (c+1),bA x c (c+1)),(r,x)] [aX (r.getD c 0) (x.getD c 0) (r.getD (c+1) 0),aX (r.getD (c+1) 0) (x.getD (c+1) 0) (r.getD c 0)]
 let Q:Nat->Bool:=λj=>cy n (r,x) (uz k) j (c+1) c [(r,x),(bA r c (c+1),bA x c (c+1)),(r,x)] [aX (r.getD (c+1) 0) (x.getD (c+1) 0) (r.getD c 0),aX (r.getD c 0) (x.getD c 0) (r.getD (c+1) 0)]
 have p:=(oq hc P Q (uz k)).length_eq;rw[Pp] at p;have:=jz (oE P Q (uz k) (c+1)) 2 (Pi n) λj _=>r9 _ _ _ _ _
 unfold hJ at p;rw[QJ] at this;have e:(sp n (rD n c r x (uz k))).length=_:=p.symm;rw[e];lia
theorem BH(O:Ord n s){z:List Int}(h:z∈fW (eR n (rD n c r x)) [zs s]): ∃e,Ord n e/\z=zs e/\rV n r e=rV n r s+1/\rV n x e=rV n x s+1:=by
 have j:([zs s].flatMap (eR n (rD n c r x))).count z % 2=1:=db.mp h;have a:=RI.mp (show 0<([zs s].flatMap (eR n (rD n c r x))).count z by lia);rw[Qj,List.flatMap_nil,QX] at a;unfold eR at a;rw[eH] at a;obtain⟨p,i,rfl⟩:=PU.mp a;obtain⟨d,f,g,b⟩:=iT.mp i;exact⟨_,O.exx d f,rfl,Gt h5 hc R X N O d f g ((vx h4 h5 hc R X N s O p.1 p.2 d f g).mp b)⟩
theorem FY {K:List (List Int)}(t:iO n K)(d:K.Nodup):bC bx (gq (fW (eR n (sG n c (bA r c (c+1)) (bA x c (c+1)))) (fW (eR n (sG n c r x)) K)) K)=bC bx (gq (fW (eR n (b8 r x)) (fW (eR n (rD n c r x)) K)) (fW (eR n (rD n c r x)) (fW (eR n (b8 r x)) K))):=by
 have b:=j3 R hc;have a:=j3 X hc;refine je ((Qe (vp ke d) (vp ke ke)).mpr λz=>?_);rw[qH,qH];have l:z∈fW (eR n (sG n c (bA r c (c+1)) (bA x c (c+1)))) (fW (eR n (sG n c r x)) K)↔((K.map λk=>((eR n (sG n c r x) k).flatMap (eR n (sG n c (bA r c (c+1)) (bA x c (c+1))))).count z).sum) % 2=1:=by rw[<-uO];exact db
 have p:z∈fW (eR n (b8 r x)) (fW (eR n (rD n c r x)) K)↔((K.map λk=>((eR n (rD n c r x) k).flatMap (eR n (b8 r x))).count z).sum) % 2=1:=by rw[<-uO];exact db
 have j:z∈fW (eR n (rD n c r x)) (fW (eR n (b8 r x)) K)↔((K.map λk=>((eR n (b8 r x) k).flatMap (eR n (rD n c r x))).count z).sum) % 2=1:=by rw[<-uO];exact db
 have m:z∈K↔((K.map λk=>if z=k then 1 else 0).sum) % 2=1:=by
  have e:(K.map λk=>if z=k then 1 else 0).sum=K.count z:=by
   have:=va id z K;rw[VT] at this;rw[this];congr 1;exact P2 λk _=>by
    by_cases q:z=k
    ·rw[if_pos q,if_pos (show id k=z from q.symm)]
    ·rw[if_neg q,if_neg (λw:id k=z=>q w.symm)]
  rw[e];have:=UU.mp d z;constructor
  ·intro h;have:=RI.mpr h;lia
  ·intro h;exact RI.mp (by lia)
 rw[l,p,j,m];have A:((K.map λk=>if z=k then 1 else 0).sum+((K.map λk=>((eR n (sG n c r x) k).flatMap (eR n (sG n c (bA r c (c+1)) (bA x c (c+1))))).count z).sum+((K.map λk=>((eR n (rD n c r x) k).flatMap (eR n (b8 r x))).count z).sum+(K.map λk=>((eR n (b8 r x) k).flatMap (eR n (rD n c r x))).count z).sum))) % 2=0:=by
  have: ∀M:List (List Int),(∀k∈M,k∈K)->((M.map λk=>if z=k then 1 else 0).sum+((M.map λk=>((eR n (sG n c r x) k).flatMap (eR n (sG n c (bA r c (c+1)) (bA x c (c+1))))).count z).sum+((M.map λk=>((eR n (rD n c r x) k).flatMap (eR n (b8 r x))).count z).sum+(M.map λk=>((eR n (b8 r x) k).flatMap (eR n (rD n c r x))).count z).sum))) % 2=0:=λM=>by
   induction M with
   |nil=>intro _;rfl
   |cons k M s=>
    intro h;have i:=s λy u=>h y (PK _ u)
    obtain⟨o,O,rfl⟩:=t k (h k PV);have v:=N7 h4 h5 hc R X (R.exx (show c<n by lia) hc) (X.exx (show c<n by lia) hc) N (λk _ f g=>⟨b.2.2 k f g,a.2.2 k f g⟩) b.1 b.2.1 a.1 a.2.1 (uD h4 h5 hc R X N) (v4 h4 h5 hc R X N) (vx h4 h5 hc R X N) O z;simp only[Pu,Qb,EM];lia
  exact this K λ_ h=>h
 lia
end
section
variable {n c:Nat}{r x:List Nat}(h4:4<=n)(h5:n<=5)(hc:c+1<n)(R:Ord n r)(X:Ord n x)(N:NI n (r.getD c 0) (x.getD c 0) (r.getD (c+1) 0) (x.getD (c+1) 0))
include h4 h5 hc R X N
theorem xT{K:List (List Int)}(Z:M<=5)(m:Cw M K)(b:iO n K):dn [cH r x,nI c,kD K]=some (.bl true):=by
 have l:c<n:=by lia
 have Q:=R.exx l hc;have W:=X.exx l hc;have N':=F1 h4 h5 hc R X N;have lK:=m.len;have q:0<n:=by lia
 let O:D:=cH (bA r c (c+1)) (bA x c (c+1))
 let o:=fW (eR n (sG n c r x)) K
 let a:=fW (eR n (sG n c (bA r c (c+1)) (bA x c (c+1)))) o
 let w:=fW (eR n (rD n c r x)) K
 let z:=HY n r x K
 let d:=HY n r x w
 let f:=fW (eR n (rD n c r x)) z
 have i:iO n o:=jw b;have F:iO n a:=jw i;have j:iO n w:=jw b;have k:iO n z:=uI b;have B:iO n d:=uI j;have p:iO n f:=jw k;have u: ∀ {A:List (List Int)},iO n A->A.Nodup->A.length<=625:=λh S=>vq h5 S h
 obtain⟨C,G,H⟩:=J9 h4 h5 hc R X N (uD h4 h5 hc R X N) (v4 h4 h5 hc R X N) (vx h4 h5 hc R X N) m.nd b (by lia);have g1:=Ir h4 h5 hc R X N b;have g2:=xM h4 h5 hc R X N b;have T:=JX h4 h5 hc R X N m.nd b (by lia);have L:(gq a K).length<64:=by have:=Fo a K;have:a.length<=56:=C;lia
 have g:srt (gq a K)=srt (gq d f):=FY h4 h5 hc R X N b m.nd;have E:(gq d f).length<64:=by
  have e:=congrArg Sd g;unfold srt at e;rw[(aM (lt:=bx) _).length_eq,(aM (lt:=bx) _).length_eq] at e;lia
 have Y:bf 3 (ak (nF 2 aY) (aa (ai 0) (aa (ai 1) (aj)))) [.v (cH r x),.v (nI c),.v (kD K),.no,.no,.no]=.nx [.v (cH r x),.v (nI c),.v (kD K),.v O,.no,.no]:=(bh ((aN (ds:=[cH r x,nI c]) rfl rfl).trans (zu h4 h5 hc R X N))).trans rfl;have J:ak (nF 3 pA) (aa (ai 0) (aa (ai 1) (aa (ak im (aa (ai 2) (aj))) (aj)))) [.v (cH r x),.v (nI c),.v (kD K),.v O,.no,.no]=some (kD o):=(aN (ds:=[cH r x,nI c,kD K]) rfl rfl).trans (E8 h4 h5 hc R X N b (by lia) (by lia));have V:bf 4 (ak (nF 3 pA) (aa (ai 3) (aa (ai 1) (aa (ak (nF 3 pA) (aa (ai 0) (aa (ai 1) (aa (ak im (aa (ai 2) (aj))) (aj))))) (aj))))) [.v (cH r x),.v (nI c),.v (kD K),.v O,.no,.no]=.nx [.v (cH r x),.v (nI c),.v (kD K),.v O,.v (kD a),.no]:=
  (bh ((aN (ds:=[O,nI c,kD o]) (am rfl (am rfl (am J rfl))) rfl).trans (E8 h4 h5 hc Q W N' i (by have:=u i ke;lia) (RH C (by lia))))).trans rfl
 have U:ak (nF 2 fu) (aa (ai 0) (aa (ak (nF 3 fC) (aa (ai 0) (aa (ai 1) (aa (ak im (aa (ai 2) (aj))) (aj))))) (aj))) [.v (cH r x),.v (nI c),.v (kD K),.v O,.v (kD a),.no]=some (kD d):=
  (aN (ds:=[cH r x,kD w]) (am rfl (am ((aN (ds:=[cH r x,nI c,kD K]) rfl rfl).trans (u3 h4 h5 hc R X N b (by lia) (by lia))) rfl)) rfl).trans (sO (by lia) h5 R X j (by have:=u j ke;lia) (RH G (by lia)))
 have P:ak (nF 3 fC) (aa (ai 0) (aa (ai 1) (aa (ak (nF 2 fu) (aa (ai 0) (aa (ak im (aa (ai 2) (aj))) (aj)))) (aj)))) [.v (cH r x),.v (nI c),.v (kD K),.v O,.v (kD a),.no]=some (kD f):=
  (aN (ds:=[cH r x,nI c,kD z]) (am rfl (am rfl (am ((aN (ds:=[cH r x,kD K]) rfl rfl).trans (sO (by lia) h5 R X b (by lia) T)) rfl))) rfl).trans (u3 h4 h5 hc R X N k (by have:=u k (iS _);lia) (RH H (by lia)))
 have I:bf 5 (ak (nF 2 lq) (aa (ak (nF 2 fu) (aa (ai 0) (aa (ak (nF 3 fC) (aa (ai 0) (aa (ai 1) (aa (ak im (aa (ai 2) (aj))) (aj))))) (aj)))) (aa (ak (nF 3 fC) (aa (ai 0) (aa (ai 1) (aa (ak (nF 2 fu) (aa (ai 0) (aa (ak im (aa (ai 2) (aj))) (aj)))) (aj))))) (aj)))) [.v (cH r x),.v (nI c),.v (kD K),.v O,.v (kD a),.no]=.nx [.v (cH r x),.v (nI c),.v (kD K),.v O,.v (kD a),.v (kD (srt (gq d f)))]:=
  (bh ((aN (ds:=[kD d,kD f]) (am U (am P rfl)) rfl).trans (wI (N:=56) (M:=56) ⟨iS _,G,rN q B⟩ ⟨ke,H,rN q p⟩ (by lia) E))).trans rfl
 apply bj (kd:=.s) (n:=6) (t:=j8) (ρ:=[.v (cH r x),.v (nI c),.v (kD K),.v O,.v (kD a),.v (kD (srt (gq d f)))]);unfold j8;refine(ay Y).trans ((ay V).trans ((ay I).trans (a7 ?_)));exact(aA (x:=kD (srt (gq d f))) (y:=kD (srt (gq d f))) ((aN (ds:=[kD a,kD K]) rfl rfl).trans ((wI (N:=56) ⟨ke,C,rN q F⟩ m (by lia) L).trans (by rw[g]))) rfl).trans (G2 (MT _))
end
theorem JD(f:List Int)(hn:f.length<=63):IU [lS f]=some (.bl true):=by
 refine rK (kd:=.s) (n:=9) (t:=DF) ?_
 unfold DF;refine Js (λρ=> ∃s1 s2 I w A p l a,ρ=[.v (lS f),s1,s2,I,w,A,p,l,a]) (Gi (ds:=(Pi 2).map nI) (bU (jj (am rfl rfl) (by lia))) (A8 _ (λd hd ρ P=>?_) _ ⟨_,_,_,_,_,_,_,_,rfl⟩)) λρ' hρ'=>⟨ρ',a7 rfl⟩
 obtain⟨k,S,rfl⟩:=PU.mp hd;rw[Pj] at S;obtain⟨s1,s2,I,w,A,p,l,a,rfl⟩:=P;obtain⟨M,b0,eb,B⟩:=Kw f k (by lia) hn;obtain⟨J,F,L,et,B1,d10,d11⟩:=nE (m:=3) B (by lia) (by decide) (by decide);obtain⟨n,u,j,g⟩: ∃m:Nat,br (.lst [.int 4,.int 4,.int 5]) (.int J)=some (nI m)/\4<=m/\m<=5:=by
  have:J=0\/J=1\/J=2:=by lia
  rcases this with e|e|e<;>subst e
  ·exact⟨4,rfl,by lia,by lia⟩
  ·exact⟨4,rfl,by lia,by lia⟩
  ·exact⟨5,rfl,by lia,by lia⟩
 obtain⟨r,x,c,bg,en,⟨N2,Q,V,B2,hN2,rfl⟩,R,X,H,N⟩:=Fv j g B1 (by lia);obtain⟨K,N3,U,W,ec,B3,hN3,C,SK⟩:=B6 B2 (by lia) (n:=n) (by lia) (by lia);obtain⟨o,a4,b4,eo,O,B4⟩:=nr B3 (n:=n) (by lia) (by lia);have G:iO n [zs o]:=λk S=>⟨o,O,PQ.mp S⟩
 have C1:Cw 1 [zs o]:=⟨by simp,by simp,rN (by lia) G⟩
 have e1:D.lst [ax o]=kD [zs o]:=by rw[l7];rfl
 have r1:=xT j g H R X N (by lia) C SK;have r2:=xT j g H R X N (by lia) C1 G;obtain⟨T,Z⟩:=LS R X
 let st:Sl->aG:=λa=>[.v (lS f),.v (nI k),.own (aF a4 b4),.v (nI n),.v (cH r x),.v (nI c),.v (kD K),.v (ax o),a]
 let u:D:=.tup [.int (rV n r o+1),.int (rV n r o-rV n x o-n+((Pi n).filter (qk T)).length)]
 have q1:gc 2 (ak (nF 2 lj) (aa (ai 0) (aa (ai 1) (aj)))) [.v (lS f),.v (nI k),s2,I,w,A,p,l,a]=.nx [.v (lS f),.v (nI k),.own (aF M b0),I,w,A,p,l,a]:=(k6 ((aN (ds:=[lS f,nI k]) rfl rfl).trans eb)).trans rfl;have q2:g7 3 (yu br (pu (b7 (aa (aC (.int 4)) (aa (aC (.int 4)) (aa (aC (.int 5)) (aj)))))) (aJ 2 1 aR (cq (aa (aC (.int 3)) (aj))))) [.v (lS f),.v (nI k),.own (aF M b0),I,w,A,p,l,a]=.nx [.v (lS f),.v (nI k),.own (aF F L),.v (nI n),w,A,p,l,a]:=
  (ie (GU (fU (cT rfl (by simp))) (cN (i:=2) (n:=1) (b0:=aF M b0) (ds:=[.int 3]) rfl (bU rfl) rfl rfl et) (by assumption))).trans rfl
 have q3:cD (gT 2 (cS (gN 4) (cS (gN 5) (gX)))) (aJ 2 1 ca (cq (aa (ai 3) (aj)))) [.v (lS f),.v (nI k),.own (aF F L),.v (nI n),w,A,p,l,a]=.nx [.v (lS f),.v (nI k),.own (aF Q V),.v (nI n),.v (cH r x),.v (nI c),p,l,a]:=
  dW (cN (i:=2) (n:=1) (b0:=aF F L) (ds:=[nI n]) rfl (bU rfl) rfl rfl en) rfl
 have q4:g7 6 (aJ 2 1 fQ (cq (aa (ai 3) (aj)))) [.v (lS f),.v (nI k),.own (aF Q V),.v (nI n),.v (cH r x),.v (nI c),p,l,a]=.nx [.v (lS f),.v (nI k),.own (aF U W),.v (nI n),.v (cH r x),.v (nI c),.v (kD K),l,a]:=
  (ie (cN (i:=2) (n:=1) (b0:=aF Q V) (ds:=[nI n]) rfl (bU rfl) rfl rfl ec)).trans rfl
 have q5:g7 7 (g8 gz (dC (aJ 2 1 ba (cq (aa (ai 3) (aj)))) (cq (aj)))) [.v (lS f),.v (nI k),.own (aF U W),.v (nI n),.v (cH r x),.v (nI c),.v (kD K),l,a]=.nx (st a):=
  (ie (qs (ds:=[.lst (o.map nI)]) (d:=ax o) (iZ (cN (i:=2) (n:=1) (b0:=aF U W) (ds:=[nI n]) rfl (bU rfl) rfl rfl eo) rfl) rfl)).trans rfl
 have Y: ∀a,b7 (aa (ai 7) (aj)) (st a)=some (kD [zs o]):=λa=>(cT (ds:=[ax o]) rfl (by simp)).trans (by rw[e1])
 have q6:CN (g6 (dJ (ak (nF 3 dn) (aa (ai 4) (aa (ai 5) (aa (ai 6) (aj))))))) (g6 (dJ (ak (nF 3 dn) (aa (ai 4) (aa (ai 5) (aa (b7 (aa (ai 7) (aj))) (aj))))))) (st a)=some false:=
  u8 (kL (b:=true) (gB ((aN (ds:=[cH r x,nI c,kD K]) rfl rfl).trans r1))) (kL (b:=true) (gB ((aN (ds:=[cH r x,nI c,kD [zs o]]) (am rfl (am rfl (am (Y _) rfl))) rfl).trans r2)))
 have q7:bf 8 (cu (aa (av bL (ak (nF 2 gl) (aa (ai 4) (aa (ai 7) (aj)))) (aC (.int 1))) (aa (ak (nF 2 jC) (aa (ai 4) (aa (ai 7) (aj)))) (aj)))) (st a)=.nx (st (.v u)):=
  (bh (bS (am ((aA ((aN (ds:=[cH r x,ax o]) rfl rfl).trans (wY R O (by lia))) (y:=.int 1) rfl).trans (jc _ _)) (am ((aN (ds:=[cH r x,ax o]) rfl rfl).trans (AN R X Z (by lia) O)) rfl)) (by simp))).trans rfl
 have q8:dJ (ak sv (aa (cx 1 (dw (ak (nF 3 fC) (aa (ai 4) (aa (ai 5) (aa (b7 (aa (ai 7) (aj))) (aj)))))) (gN 9) (cj) (av mo (cu (aa (ak (nF 2 gl) (aa (ai 4) (aa (ai 9) (aj)))) (aa (ak (nF 2 jC) (aa (ai 4) (aa (ai 9) (aj)))) (aj)))) (ai 8))) (aj))) (st (.v u))=some false:=by
  let Lt:=fW (eR n (rD n c r x)) [zs o]
  have lt:Lt.length<=625:=vq g ke (jw G);have c1:cx 1 (dw (ak (nF 3 fC) (aa (ai 4) (aa (ai 5) (aa (b7 (aa (ai 7) (aj))) (aj)))))) (gN 9) (cj) (av mo (cu (aa (ak (nF 2 gl) (aa (ai 4) (aa (ai 9) (aj)))) (aa (ak (nF 2 jC) (aa (ai 4) (aa (ai 9) (aj)))) (aj)))) (ai 8)) (st (.v u))=some (.lst ((Lt.map λ_=>false).map D.bl)):=by
   refine eS (ds:=Lt.map cZ) (f9 ((aN (ds:=[cH r x,nI c,kD [zs o]]) (am rfl (am rfl (am (Y _) rfl))) rfl).trans (u3 j g H R X N G (by simp) (by have:=xM j g H R X N G;simp at this;lia)))) (by rw[Pp];lia) ((ja (h:=cZ) (o:=λ_=>.bl false) (q:=λ_=>true) Lt λz hz=>⟨st (.v u)++[.v (cZ z)],rfl,rfl,λ_=>?_⟩).trans (by rw[QN.mpr λ_ _=>rfl,PM];rfl));obtain⟨e,E,rfl,g1,g2⟩:=BH j g H R X N O hz;have F:aa (ai 4) (aa (ai 9) (aj)) (st (.v u)++[.v (cZ (zs e))])=some [cH r x,ax e]:=by rw[l7];rfl
   have t1:cu (aa (ak (nF 2 gl) (aa (ai 4) (aa (ai 9) (aj)))) (aa (ak (nF 2 jC) (aa (ai 4) (aa (ai 9) (aj)))) (aj))) (st (.v u)++[.v (cZ (zs e))])=some u:=by
    refine bS (am ((aN (ds:=[cH r x,ax e]) F rfl).trans ((wY R E (by lia)).trans (by rw[g1]))) (am ((aN (ds:=[cH r x,ax e]) F rfl).trans ((AN R X Z (by lia) E).trans (by rw[g1,g2];congr 2;lia))) rfl)) (by simp)
   exact(aA t1 (y:=u) rfl).trans (HV (Eb _ _))
  refine gB ?_
  rw[bP (am c1 rfl),p6];congr 2;rw[Vd];simp
 refine⟨_,_,rfl,(ay q1).trans ((ay q2).trans ((ay q3).trans ((ay q4).trans ((ay q5).trans ((ay (iI q6)).trans ((ay q7).trans (iI q8))))))),⟨_,_,_,_,_,_,_,_,rfl⟩⟩
theorem df_of {K:Pz}{h:Heap}(X:K.In h)(G:h.Ns QK mg){st:Stmt}{j:List Str}{o:Pk}{n i:Option Addr}{m:Array (Option Pk)}{kV e g d ct:Pk}(a:UI K QK x=some (some (.ref f)))
 (l:K.lookup f=some ⟨o,n,.func (Wy x x (iB st) (dA st) (aw st) .none kV e g i d ct),m⟩) (c:Ye K d x=true) (k:Vs K (.ref f)=true)
 (b: ∀(kV e g:Pk) (i:Option Addr) (d ct:Pk) (us:List Pk),us.length=j.length->bindArgs (Wy x x (iB st) (dA st) (aw st) .none kV e g i d ct) ⟨us,[]⟩=pure (j.zip us)):Df K mg x st j:=
 ⟨_,_,y6 l c k,W.mg_of X G a,(y6 l c k).binds b⟩
theorem all_mk {L:jaM}{K:Pz}{h:Heap}{od an:Option Addr}{sl:Array (Option Pk)}{oc kV dc pm cd ct:Pk}(X:K.In h)(G:h.Ns QK mg)(O:mg "law"=some (.ref fb))
 (d0:Df K mg "order_exchanged" eU re)
 (d1:Df K mg "order_rounds" gG ["order"])
 (d2:Df K mg "places_from" iF pf)
 (d3:Df K mg "columns_of" jV md)
 (d4:Df K mg "rows_of" oZ md)
 (d5:Df K mg "cells_of" lY md)
 (d6:Df K mg "behind" qt md)
 (d7:Df K mg "is_bare" oP md)
 (d8:Df K mg "is_clear" l5 nj)
 (d9:Df K mg "is_step" oo nj)
 (d10:Df K mg "steps_from" jJ m8)
 (T:Df K mg "added" uV sy)
 (d12:Df K mg "oddly_often" iH ["stands"])
 (Y:Df K mg "border" rP r6)
 (E:Df K mg "lines_of" l4 ["square"])
 (C:Df K mg "lies_between" gM rb)
 (d16:Df K mg "may_change" jn nv)
 (XL:Df K mg "columns_changed" eZ nv)
 (x:Df K mg "turn_of" oY nv)
 (z:Df K mg "has_mark" mt pp)
 (S:Df K mg "columns_clear" gg pe)
 (Ty:Df K mg "bend_clear" jy ry)
 (XV:Df K mg "is_bent" oj n7)
 (V:Df K mg "ends_from" kJ n5)
 (u:Df K mg "led" Fr nA)
 (H:Df K mg "tied" zg nA)
 (A:Df K mg "points_of" kr sx)
 (I:Df K mg "pairs" u6 sf)
 (M:Df K mg "grade_by" mI so)
 (D:Df K mg "grade" uj m8)
 (Tm:Df K mg "lean" zU m8)
 (U:Df K mg "_law_cell" lV pz)
 (d32:Df K mg "_law_bag" oz ro)
 (Q:Df K mg "_law_take" lW nB)
 (ST:Df K mg "_law_order" kP ms)
 (J:Df K mg "_law_neighbours" fH ms)
 (N:Df K mg "_law_crowd" kz ms)
 (R:Df K mg "_law_right" kA oa)
 (a:UI K QK "law"=some (some (.ref fa))) (l:K.lookup fa=some ⟨oc,od,.func (Wy "law" "law" (iB mQ) (dA mQ) (aw mQ) .none kV dc pm an cd ct),sl⟩) (c:Ye K cd "law"=true) (k:Vs K (.ref fa)=true)
 (n:UI K QK "abs"=some none)
 (p:UI K QK "any"=some none)
 (b:UI K QK "enumerate"=some none)
 (m:UI K QK "len"=some none)
 (i:UI K QK "list"=some none)
 (j:UI K QK "max"=some none)
 (q:UI K QK "min"=some none)
 (f:UI K QK "range"=some none)
 (o:UI K QK "set"=some none)
 (d:UI K QK "sorted"=some none)
 (g:UI K QK "tuple"=some none):
 ∃fd:SA,(∀(s:Pn) (v:Pk),Yd s fd ⟨[v],[]⟩ [("_law_script",v)])/\ ∀base:Heap,K.In base->base.Ns QK mg->gt L.prog w K mg base v0 9 fb fd ["_law_script"] (Aq K):=by
 have e:=O.symm.trans (W.mg_of X G a);cases e;have F:=y6 (st:=mQ) l c k;have B:Bt mg:=⟨Sa X G n,Sa X G p,Sa X G b,Sa X G m,Sa X G i,Sa X G j,Sa X G q,Sa X G f,Sa X G o,Sa X G d,Sa X G g⟩
 refine⟨Wy "law" "law" (iB mQ) (dA mQ) (aw mQ) .none kV dc pm an cd ct,λs v=>.of_eq rfl,λbase _ _=>?_⟩;have bG:=n6 (P:=L.prog) (w:=w) (base:=base) B d0;have gD:=qx (P:=L.prog) (w:=w) (base:=base) B d1;have cY:=sI (P:=L.prog) (w:=w) (base:=base) B d2;have Z:=uN (P:=L.prog) (w:=w) (base:=base) B d3 cY;have dz:=B8 (P:=L.prog) (w:=w) (base:=base) B d4 cY;have mF:=zK (P:=L.prog) (w:=w) (base:=base) B d5 dz Z;have gF:=FW (P:=L.prog) (w:=w) (base:=base) B d6 bG;have gw:=BV (P:=L.prog) (w:=w) (base:=base) B d7 Z dz;have mJ:=yq (P:=L.prog) (w:=w) (base:=base) B d8 mF;have oR:=Cj (P:=L.prog) (w:=w) (base:=base) B d9 gw mJ;have jE:=uT (P:=L.prog) (w:=w) (base:=base) B d10 gF oR;have qf:=GF (P:=L.prog) (w:=w) (base:=base) B T;have bO:=sA (P:=L.prog) (w:=w) (base:=base) B d12;have nQ:=F7 (P:=L.prog) (w:=w) (base:=base) B Y bO jE;have mh:=yX (P:=L.prog) (w:=w) (base:=base) B E gD;have cJ:=qo (P:=L.prog) (w:=w) (base:=base) B C;have jU:=um (P:=L.prog) (w:=w) (base:=base) B d16 cJ;have t:=nT (P:=L.prog) (w:=w) (base:=base) B XL jU bG;have fJ:=CD (P:=L.prog) (w:=w) (base:=base) B x cJ;have fD:=zV (P:=L.prog) (w:=w) (base:=base) B z;have fY:=pL (P:=L.prog) (w:=w) (base:=base) B S fD;have jN:=uJ (P:=L.prog) (w:=w) (base:=base) B Ty fD;have kX:=CK (P:=L.prog) (w:=w) (base:=base) B XV dz fY jN gw Z;have eK:=xD (P:=L.prog) (w:=w) (base:=base) B V kX gF;have Br:=Ml (P:=L.prog) (w:=w) (base:=base) B u t bO fJ eK;have mj:=JA (P:=L.prog) (w:=w) (base:=base) B H t bO fJ eK;have iy:=xb (P:=L.prog) (w:=w) (base:=base) B A;have lw:=GQ (P:=L.prog) (w:=w) (base:=base) B I;have dS:=yp (P:=L.prog) (w:=w) (base:=base) B M iy lw;have qi:=HP (P:=L.prog) (w:=w) (base:=base) B D dS;have vU:=Ks (P:=L.prog) (w:=w) (base:=base) B Tm dS mh;have mB:=yG (P:=L.prog) (w:=w) (base:=base) B U;have o7:=CG (P:=L.prog) (w:=w) (base:=base) B d32 mB;have r:=zG (P:=L.prog) (w:=w) (base:=base) B Q;have y:=xP (P:=L.prog) (w:=w) (base:=base) B ST r;have fB:=o6 (P:=L.prog) (w:=w) (base:=base) B J r y;have kK:=xW (P:=L.prog) (w:=w) (base:=base) B N r y;have h9:=yf (P:=L.prog) (w:=w) (base:=base) B R t Br qf nQ mj;exact JH (Kf (P:=L.prog) (w:=w) (base:=base) B F o7 fB kK r y vU h9 qi mj) JD
end L2
namespace PySem.W.Fast
theorem tw5067774333738617059:True:=⟨⟩
theorem tw4655870818578699447:True:=⟨⟩
theorem tw14506722855888535643:True:=⟨⟩
theorem tw7433235205008873374:True:=⟨⟩
theorem tw258247042734302964:True:=⟨⟩
theorem tw7435550785523197829:True:=⟨⟩
theorem tw2793616811274227727:True:=⟨⟩
theorem tw13377770247808248486:True:=⟨⟩
theorem tw9727485198374666303:True:=⟨⟩
theorem tw61954871798659578:True:=⟨⟩
theorem tw6405446887764680220:True:=⟨⟩
theorem tw13681676662942242809:True:=⟨⟩
theorem tw2406684810728227748:True:=⟨⟩
theorem tw2958655800727726379:True:=⟨⟩
theorem tw2150718443068441019:True:=⟨⟩
theorem tw15211790609419834664:True:=⟨⟩
theorem tw265479060140560429:True:=⟨⟩
theorem tw2947375908777929540:True:=⟨⟩
theorem tw3696798808214569311:True:=⟨⟩
theorem tw558605827981219433:True:=⟨⟩
theorem tw17314254686026159611:True:=⟨⟩
theorem tw3506806184331166601:True:=⟨⟩
theorem tw11489139627282184369:True:=⟨⟩
theorem tw17382926162185949390:True:=⟨⟩
theorem tw7916324197153540916:True:=⟨⟩
theorem tw3386200120592400307:True:=⟨⟩
theorem tw14371866417031952731:True:=⟨⟩
theorem tw7319997383430818211:True:=⟨⟩
theorem tw6073620077336002196:True:=⟨⟩
theorem tw17541930936193083823:True:=⟨⟩
theorem tw9052248866458514506:True:=⟨⟩
theorem tw6491012682157219260:True:=⟨⟩
theorem tw2680583486926708301:True:=⟨⟩
theorem tw14843516954156055813:True:=⟨⟩
theorem tw1349348326397269951:True:=⟨⟩
theorem tw7779307161925306624:True:=⟨⟩
theorem tw9332501978200998394:True:=⟨⟩
theorem tw17178575999809345133:True:=⟨⟩
theorem tw3486638857479135016:True:=⟨⟩
theorem tw12168757010046536627:True:=⟨⟩
theorem tw15457429559705138522:True:=⟨⟩
theorem tw7146133460223175264:True:=⟨⟩
theorem tw12211741732414872744:True:=⟨⟩
theorem tw8465638667725496206:True:=⟨⟩
theorem tw3181044140427848047:True:=⟨⟩
theorem tw12929766164072601268:True:=⟨⟩
theorem tw2208875754510106447:True:=⟨⟩
theorem tw2696188373307678484:True:=⟨⟩
theorem tw16670192812415099953:True:=⟨⟩
theorem tw18154710639296742464:True:=⟨⟩
theorem tw17438174573331792477:True:=⟨⟩
theorem tw15275578444293832579:True:=⟨⟩
theorem tw16384652427124093988:True:=⟨⟩
theorem tw11464794508338697915:True:=⟨⟩
theorem tw502623230652752990:True:=⟨⟩
theorem tw11545675642758638126:True:=⟨⟩
theorem tw17034490996065904479:True:=⟨⟩
theorem tw16288958953790384387:True:=⟨⟩
theorem tw713888835820744782:True:=⟨⟩
theorem tw12319165221922855489:True:=⟨⟩
theorem tw4244604274142512319:True:=⟨⟩
theorem tw2558699111565132759:True:=⟨⟩
theorem tw1501362618808668148:True:=⟨⟩
theorem tw9571622664983581305:True:=⟨⟩
theorem tw14509241239350126234:True:=⟨⟩
theorem tw659323903004493648:True:=⟨⟩
theorem tw11177178231648461053:True:=⟨⟩
theorem tw12045251836541873703:True:=⟨⟩
theorem tw8464583987545995566:True:=⟨⟩
theorem tw2057989961321399719:True:=⟨⟩
theorem tw8695869733953463053:True:=⟨⟩
theorem tw4901818172056417638:True:=⟨⟩
theorem tw18092951614606638844:True:=⟨⟩
theorem tw3179210372341372143:True:=⟨⟩
theorem tw7464118896467755852:True:=⟨⟩
theorem tw2190465043549794360:True:=⟨⟩
theorem tw9782376412851177454:True:=⟨⟩
theorem tw5750314682188537512:True:=⟨⟩
theorem tw70530609245258668:True:=⟨⟩
theorem tw3704194185523300299:True:=⟨⟩
theorem tw17499920315742131661:True:=⟨⟩
theorem tw14508079094295978824:True:=⟨⟩
theorem tw11877764119022116469:True:=⟨⟩
theorem tw6994878649175149095:True:=⟨⟩
theorem tw17515700286971719338:True:=⟨⟩
theorem tw4445482616866808759:True:=⟨⟩
theorem tw18436204597461205196:True:=⟨⟩
theorem tw6513960900832041382:True:=⟨⟩
theorem tw3450822175803779050:True:=⟨⟩
theorem tw9778826520590482560:True:=⟨⟩
theorem tw7104736356506909842:True:=⟨⟩
theorem tw5586044356710709126:True:=⟨⟩
theorem tw9472991563532405673:True:=⟨⟩
theorem tw1887246255300995183:True:=⟨⟩
theorem tw8403072267854770438:True:=⟨⟩
theorem tw12364297983146055940:True:=⟨⟩
theorem tw9380048003567116701:True:=⟨⟩
theorem tw13557615163036879451:True:=⟨⟩
theorem tw14671068472861123028:True:=⟨⟩
theorem tw14872355130826826402:True:=⟨⟩
theorem tw17985081427129685306:True:=⟨⟩
theorem tw892989997145707477:True:=⟨⟩
theorem tw1042194318007637936:True:=⟨⟩
theorem tw9425723978825476952:True:=⟨⟩
theorem tw6702880841592895137:True:=⟨⟩
theorem tw1079443857230086754:True:=⟨⟩
theorem tw15547514884690021351:True:=⟨⟩
theorem tw10910585902656938424:True:=⟨⟩
theorem tw13105416335694274126:True:=⟨⟩
theorem tw13632605308065564544:True:=⟨⟩
end PySem.W.Fast
open PySem PySem.W PyProof.Rows
set_option maxRecDepth 100000 in
set_option maxHeartbeats 0 in
theorem PySem.Challenge.cw_rookborders_k51_whole_there_and_back_holds : PySem.Challenge.rw_rookborders_k51_whole_there_and_back.Holds := by
 w_on;o_law;k_head;(case hw=>w_witness2)
 k_fill
 refine L2.walkD (l:=UW) (k:=9) (x:="_law_script") rfl rfl ⟨rfl,by decide,by decide⟩ (λw h Y=>W.kIn_of Y) ?F
 case F=>
  intro w mg fa h KX G hmg;refine' L2.all_mk KX G hmg ?_ ?_ ?_ ?_ ?_ ?_ ?_ ?_ ?_ ?_ ?_ ?_ ?_ ?_ ?_ ?_ ?_ ?_ ?_ ?_ ?_ ?_ ?_ ?_ ?_ ?_ ?_ ?_ ?_ ?_ ?_ ?_ ?_ ?_ ?_ ?_ ?_ ?_ ?_ ?_ ?_ ?_ ?_ ?_ ?_ ?_ ?_ ?_ ?_ ?_ ?_ ?_ ?_
  all_goals first
   |(refine' L2.df_of KX G ?_ ?_ ?_ ?_ λ_ _ _ _ _ _ us hl=>L2.ar1 us hl λ_=>rfl)<;>try k_is
   |(refine' L2.df_of KX G ?_ ?_ ?_ ?_ λ_ _ _ _ _ _ us hl=>L2.ar2 us hl λ_ _=>rfl)<;>try k_is
   |(refine' L2.df_of KX G ?_ ?_ ?_ ?_ λ_ _ _ _ _ _ us hl=>L2.ar3 us hl λ_ _ _=>rfl)<;>try k_is
   |(refine' L2.df_of KX G ?_ ?_ ?_ ?_ λ_ _ _ _ _ _ us hl=>L2.ar4 us hl λ_ _ _ _=>rfl)<;>try k_is
   |(refine' L2.df_of KX G ?_ ?_ ?_ ?_ λ_ _ _ _ _ _ us hl=>L2.ar5 us hl λ_ _ _ _ _=>rfl)<;>try k_is
   |(refine' L2.df_of KX G ?_ ?_ ?_ ?_ λ_ _ _ _ _ _ us hl=>L2.ar6 us hl λ_ _ _ _ _ _=>rfl)<;>try k_is
   |try k_is
