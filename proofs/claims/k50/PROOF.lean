import PyProof.Rows.All
import Wide.All
import OpenK.AllK
import Wide.FinOn
import PyProof.EqAt
import PyProof.EqKinds
import PyProof.TupleCall
import PyProof.NeKinds
import PyProof.FactsAll.tuple_2
import PyProof.FactsAll.tuple_3
import PyProof.ListRange
import KE.KSortTup
import PyProof.EnumMake
import PyProof.AutoSeq1
import PyProof.Rows.SeqMore
import KE.KIsAll
import PyProof.ExcArgsOwn
import PyProof.ExcBaseAll.ValueError
import PyProof.ExcAttrAll.ValueError
import OpenK.KOwn
import PyProof.RulesAs
import PyProof.AutoRange
import PyProof.SeqRoads2
import PyProof.ZipIter
import PyProof.StrCalls2
import KE.KDictSum
import PyProof.SumAny
import KE.KRevIter
import PyProof.Rows.FStr
import PyProof.Rows.FStrParts
import KE.KRevSl
import PyProof.Rows.SetFrom
import Lean
import PySem.Challenge.RW_rookborders_k50_whole_led_with_borders
set_option bootstrap.genMatcherCode false
set_option Elab.async false
set_option linter.all false
set_option maxRecDepth 100000
set_option maxHeartbeats 1000000
set_option linter.defProp false
open PySem renaming wpAny_bind→O4,Value→O7,wpAny_pure→O8,Shared→O9,wpAny→Ps,starEach→Pv,sizeLine→PN,Program→Qc,Around→Qe,wpAny_holding→Qh,wpAny_mono→Qj,wpAny_setState_of→Qt,World→Qv,mainGlobals→Qx,mem_of_lookup→QB,SetTable→QL,wpAny_call_entry→QN,foldedSetIterable→QO,sizeLine_eq→QU,wpAny_truthy_bool→Q1,bootBuiltins→Q7,assignEach→Q8,cLine→Ra,wpAny_newObj_type→Rf,compareOp→Rg,wpAny_callSpecial?_slot→Ry,cellsFrom→RH,unsupported→RI,codeAny_builtin→RJ,backTo→RL,wpAny_standAt→RT,codeAny→RU,Scope→R5,NameKind→R6,codeAny_mono→R7,FuncData→Sk,Builtin→Sw,builtinLookup_eq_fast→Sx,wpAny_passesOwn→Sy,letOwnedTupleGo→Sz,wpAny_loadPart'→SA,wpAny_storeSet_of→SC,wpAny_field→SE,behindInMarks→SH,wpAny_comprehension_free→SI,putSet_of→SN,swapsWith→SO,assign→SQ,Spec→SZ,wpAny_setField_rec→S7,holding→Tp,wpAny_isInstance→Tr,pyNext→Ts,binaryOp→Tx,typeLookup_type→TH,wpAny_ite_split→TJ,wpAny_pyIter_tuple→TQ,wpAny_Call_Name_kw→TR,sliceBounds→TW,rawInt→T5,wpAny_pyIter_list→T6,relabel→T8,newFunctionEnv→T9,codeAny_compStart_list→Ua,wpAny_setField→Ud,wpAny_setEpoch_of→Uh,wpAny_forIn_list→Ut,wpAny_askSetting→Uw,attributeBase→UC,wpAny_specialOf→UH,wpAny_execs_nil→UI,codeAny_of_tree→UK,standAt→UV,Keyword→UW,wpAny_seqItems→U7,Result→U9,firstArgMember→Ve,tupleKind_room_in1→Vh,ofAClassStatement→Vo,wpAny_assign_Name→Vq,slot_list_getitem→Vr,keywordEach→Vs,wpAny_getItem_list_slice→VD,plainId_quiet→VG,wpAny_attempt→VH,setDiscardHashed→VP,compEnvC→VS,setAddHashed→V9,pyIter→Wa,wpAny_pyNext_list_item→Wb,callerA→We,IsEnum→Wj,sub_set_self→Wn,theTreesLotGoes→Wt,wpAny_isSame_ref_self→Wv,wpAny_isTrue_Compare1→Ww,wpAny_pyNext_list_end→Wx,exec_Assign_Name_used→Wy,weight_type_call_type→WF,wpAny_loadName_local→WI,again→WJ,subscripted→WK,wpAny_runValue→WQ,wpAny_of_eq→WR,isSubtype_type→WU,entryFor_alias→WV,codeAny_call_builtin→WW,newList→W3,wpAny_loadName_cell→W5,wpAny_setEntries_of→Xc,CmpOp→Xm,swapsWithSole→Xn,swappedStores→Xo,evalPart_none→Xp,wpAny_newList→Xu,signature?_of→Xv,builtinsNs→XF,wpAny_rule→XH,wpAny_typeOf→XU,searchCouldBeSeen→XW,setState→XY,BindsTo→XZ,seqIndex_neg→X1,backToKw→X2,codeAny_loop→X3,compTurn→X4,wpAny_pyIter_enum→Yb,wpAny_pyIter_slot→Ye,wpAny_eqBool_int→Yp,wpAny_execs_cons→Yr,PassesOwn→Ys,lastMarks→Yt,slicePick→Yx,noteFrame→Yy,checkBuiltinCall→YA,hashByValue→YH,seqIndex_of→YJ,wpAny_alloc→YK,wpAny_noted→YL,pushCells_keeps→YW,getItem→Zb,carriedByValue→Zd,storeSet→Zf,sysModules→Zi,GenState→Zj,wpAny_Name→Zk,Operator→Zl,wpAny_load→Zm,recursionLimit→Zo,wpAny_call→Zp,bindL→Zq,bindC→Zr,typeLookup→Zt,call_meets→Zv,call→Zw,compPost→Zx,wpAny_newTuple→ZC,field→ZH,isSubtype_stop→ZI,entryFor→ZL,argsOk→ZM,slotArgs→ZN,wpAny_fieldsOf→ZO,wpAny_tryCatch→ZQ,setRoomFor→ZR,setSearchFrom→Z3,assignInOrder→Z5,call_list_seq→Z7,eval_ListComp→Z8,comprehension→Z9
open List renaming range→O5,mem_range→O6,length_map→Pc,getElem?_eq_getElem→Pd,map_cons→Pe,replicate→Pj,all_eq_true→Pq,mem_cons_of_mem→Pt,getElem?_eq_some_iff→Pu,map_map→Pw,mem_singleton→Px,mem_map→Pz,mem_cons→PD,length_append→PF,mem_cons_self→PH,getElem?_set_ne→PJ,size_toArray→PK,length_cons→PL,map_congr_left→PM,sum_cons→PP,getD_eq_getElem?_getD→PQ,getElem?_set_self→PR,mem_append_right→PU,nodup_range→PV,perm_ext_iff_of_nodup→P0,getElem?_append_right→P4,getElem?_map→P5,flatMap_cons→P6,getElem?_append_left→P7,mem_of_getElem?→P9,map_append→Qa,mem_iff_getElem?→Qb,getD→Qd,mem_filter→Qf,length_filter_le→Qo,pairwise_map→Qr,getElem?_eq_none→Qz,mem_append→QA,filter_eq_self→QC,append_assoc→QE,length_range→QF,getElem?_replicate→QG,length_singleton→QI,append_nil→QJ,nodup_append→QT,mem_append_left→QV,mem_flatMap→QZ,not_mem_nil→Q0,pairwise_iff_getElem→Q4,pairwise_lt_range→Q6,nodup_iff_pairwise_ne→Rh,take_of_length_le→Rl,drop_eq_getElem_cons→Rm,nodup_cons→Ru,toArray→Rv,length_eraseIdx→Rw,getElem?_cons_zero→Rz,filter_cons_of_neg→RA,filter_cons_of_pos→RB,getElem?_zip_eq_some→RM,length_take→RO,map_flatMap→RQ,getElem?_cons_succ→R3,filterMap_cons→R4,drop_eq_nil_of_le→R9,range_succ_eq_map→Sa,length→Sd,any_cons→Se,lookup_cons→Sf,pairwise_cons→Si,count_pos_iff→Su,eraseIdx_sublist→Sv,map_nil→SD,getElem_of_mem→SM,getElem_mem→SS,isEmpty_nil→SU,range'→SW,take_append_drop→Tc,any_eq_false→Tl,drop_succ_cons→Tu,foldl_cons→TC,length_nil→TF,take_sublist→T3,ext_getElem?→Uc,drop_zero→Ue,eraseIdx_eq_take_drop_succ→Uk,length_replicate→Um,pairwise_flatMap→Uo,mem_eraseIdx_iff_getElem?→Ur,filter_cons→Us,ext_getElem→Uu,mem_of_mem_take→UF,range_eq_range'→UG,sum_append→UN,getElem?_range→UP,take_succ_cons→UQ,mem_map_of_mem→US,getElem?_take→U5,mem_filterMap→U6,lookup_append→Vb,set_cons_succ→Vf,nodup_nil→Vg,count_eq_zero→Vi,getLast?_eq_getElem?→Vl,reverse_cons→Vt,getElem?_inj→Vx,map_take→VB,getElem?_take_of_lt→VC,all_cons→VE,Pairwise→VI,mem_of_mem_eraseIdx→VJ,eraseIdx_cons_succ→VO,length_eraseIdx_le→VQ,cons_append→VR,range'_succ→VV,any_eq_true→VY,length_eq_zero_iff→VZ,getElem?_eraseIdx→V7,all_map→Wf,any_map→Wi,flatMap_singleton→Wp,of_mem_zip→Ws,range_succ→Wu,perm_append_comm→WG,mem_of_mem_drop→WH,getElem_toArray→WP,map_id→WY,nodup_iff_count→W0,filter_sublist→Xd,flatMap_append→Xf,length_flatMap→Xh,map_drop→Xl,Nodup→Xx,zip_cons_cons→Xz,map→Ya,perm_middle→Yo,getElem_inj→Yq,flatMap_def→YC,nil_append→YU,length_set→YV,count_cons→Y4,filter_map→Y5,filter→jdf
open PySem.Heap renaming get?_push_of_some→Pa,get?_push_size→Pl,lt_size→Pp,SameBut→Qn,get?_update_self→Qy,size_push→QY,get?_update_other→R8,ExtBut→Vw
open Option renaming bind_some→Pf,bind_eq_some_iff→PB,map_eq_some_iff→QK,bind→SV,map_some→S9,getD_none→Yw,none→jct
open Nat renaming le_of_ble_eq_true→Pg,le_refl→Ph,lt_of_lt_of_le→Pn,ne_of_lt→PX,le_trans→P8,beq→QD,lt_succ_self→QM,zero_le→Q3,zero_add→Rk,mod_lt→RD,ne_of_gt→RF,mod_eq_of_lt→RS,pow_le_pow_right→RV,succ→RW,lt_trichotomy→RY,sub→Sb,pow→Sc,mul_le_mul→Ss,lt_irrefl→SG,lt_of_le_of_lt→SY,le_of_lt→S5,lt_succ_iff→S8,eq_of_beq_eq_true→Th,le_of_succ_le→Tj,lt_succ_of_lt→Tk,not_lt→Tn,add→TL,mul→TM,le_succ→TX,pow_succ→TZ,lt_trans→T0,min_eq_right→Uz,mul_assoc→UA,pow_succ'→UB,min_eq_left→UO,add_zero→UT,le_of_eq→UX,mul_right_comm→U4,add_mul→Vm,le_succ_of_le→Vu,exists_eq_add_of_le→VM,le_add_right→VN,le_max_right→VT,land→V2,zero_testBit→V4,mul_comm→V5,sub_self→V6,mul_succ→Wq,not_lt_zero→Wr,one_mul→WT,add_le_add_left→W6,mul_le_mul_left→Xg,succ_add→XQ,add_comm→Yc,ble→Yh,lor→Yk,max_eq_right→YE,pow_add→YF,testBit_and→Y6,div_add_mod→Y7,max_eq_left→Y8,testBit_or→ZS,add_assoc→jam,succ_mul→jaM
open Bool renaming and_eq_true→Pi,false_eq_true→Po,eq_iff_iff→P2,true_and→Qq,not_eq_true'→QP,or_eq_true→Ri,not_true→Rp,false_and→Rq,false_or→SL,false_ne_true→S6,and_eq_false_iff→Up,eq_false_iff→Vy,and_eq_true_iff→WX,or_eq_false_iff→WZ,and_self→Xk,or_false→Xs,not_eq_true→YD,not_false→ZK,and_true→jao
open PySem.W renaming Frag→Pk,mg_none_of→RG,nsIn→T7,hashAt→Uq,kas_rev→UZ,keepIn→Va,fnOf→Wc,codeIn→X0,kas_sort→X7,kas_ask→X8,cellsFrom_some→Yu,methodObj→YI,OpenLaw→jaw
open Array renaming length_toList→Py,getElem?_eq_getElem→PY,getElem?_toList→PZ,getElem?_eq_some_iff→QX,mem_toList_iff→SB,getD→SX,getElem?_eq_none→T1,getD_eq_getD_getElem?→UY,perm_iff_toList_perm→Vd,getElem?_replicate→Vz,toList_filterMap→V8,forIn_toList→XA,append_assoc→XE,getElem_mem→X6,replicate→YT,size_map→Ze,map→jaD,toList→jaP
open PySem.SetTable renaming below→P1,insertAt→Qg,bits→Ql,eraseAt→Qm,sizeAbove→Qs,runEnd→Qw,toList_insertAt→Rb,turns→Sj,leap→Tv,has→UU,laid→VA,slot→Xi,fill→Xj,layClean→XS,grown→Zh,drop→Z0
open Option.some renaming inj→Qi
open PySem.Value renaming none→Qk,ref→QW,int→U3,type→XD,isInt_shape→XX,bool→jeb
open List.Pairwise renaming imp_of_mem→Qp,filter→Q2,nil→RZ,sublist→Tb,map→jfI
open Ne renaming symm→Qu
open Int renaming emod_eq_of_lt→QH,toNat_natCast→Rc,natCast_emod→RP,mul_le_mul_of_nonneg_left→RX,add_emod_right→TU,emod_add_emod→Uj,natCast_add→UM,emod_add_cancel_right→Vk,dvd_of_emod_eq_zero→VX,toNat→V3,ofNat→W4,emod_lt_of_pos→Xy,lt_trichotomy→Yd,sub_emod→Yg,emod_nonneg→YR,ediv_nonneg→YZ,add_comm→jbs
open Or renaming inr→QQ,inl→Ro
open PySem.Heap.SameBut renaming update→QR,refl→SF
open Classical renaming byContradiction→Q5,skolem→Uy,propDecidable→V1
open PySem.F renaming called_set→Q9,slot_list_append→Rs,type_list_append→Rt,slot_tuple_iterator_next→So,slot_enumerate_next→Tf,plain_list_iadd→Ub,args_tuple_iterator_next_1→UL,slot_set_contains→UR,entry_tuple_iterator_next→U1,slot_tuple_index→VF,args_enumerate_next_1→VW,entry_enumerate_next→Wk,plainAttrs_set→Wo,entry_proto_collect→WD,plain_proto_collect→WE,entry_list_iadd→X9,entry_type_call→Yf,entry_set_init→YB,slot_set_iter→Y1,plain_set_new→Y2
open PySem.PassesOwn renaming never→Rj
open PySem.Builtin.SmallTypes renaming nextOf→Rn,ownedTupleHandOut→Tt,ownedTupleIsFree→Tz
open PySem.Around renaming under_plainId→Rx,under_plain→XJ
open PySem.NameKind renaming free→RC,cell→Ta
open PySem.SetTable.layClean renaming free→RE
open PySem.Obj renaming mapSeq→Sm,data_mapFields→Sq,isFreed_of_fields→Te,mapFields→TB,putSet→TN,cls_mapFields→Vv
open PySem.SeqAt renaming EqAt→Sn,RcNeAt→X5,RcAt→Zy
open PySem.Builtin.Frozenset renaming addrOf→SJ,oneOther→To,withSetAsKey→Ux,updateFrom→Y3,newClass→ZP,sizeOf→jai,slot0→jaK
open List.Nodup renaming sublist→S4,length_le_of_subset→Yn
open PyProof.Rows renaming seqObj→Td,callWith_type1→Ti,AllBare→T4,sortedHeap→Uv,envOfC→UJ,subscriptTail_builtinR→Wd,IntsAre→W2,subscriptTail→Xq,listUpdate_at→Xt,callWith_builtin1→Yv,seqEpoch_at→YM,entry_list_sort→YY,callWith_type0→Za,Subscript_→Zu,sortedHeap_old→ZD,slot_list_sort→ZE,args_list_sort→ZG
open List.Perm renaming append_left→Tg,refl→Ug,append_right→Ui,swap→WS,map→jan
open PySem.Str renaming ofString→Tq
open PySem.Paired renaming length→Tw
open PySem.W.KasT renaming kasWp_bind→TD
open PySem.Builtin.Range renaming rangeSize→TV
open PyProof.Rows.F renaming plain_set_update_loop→TY,entry_set_update_loop→V0
open Nat.succ renaming inj→Uf
open PySem.SetTable.sizeAbove renaming go→Ul
open PySem.Challenge renaming pw_rookborders_k50_whole_led_with_borders→UD,rw_rookborders_k50_whole_led_with_borders→UE
open PySem.Builtin.List renaming listExtendWith→U0,listLengthHint→U2
open PySem.Calls renaming Name_function_global→U8,call_function_entry→Vj
open PySem.SeqAt.EqAt renaming of_refs→Vc,tuple_list→Wz,none_list→WL,bool_list→WM,int_list→W7,str_list→W8,int_str→XB,str_int→XC,same→YX
open PySem.SetTable.probe renaming go→Vn
open Sum renaming inl→Vp,inr→W1
open List.cons renaming inj→VL
open PySem.SeqAt.RcNeAt renaming tuple_list→VU,none_list→Wg,bool_list→Wh,int_list→WB,str_list→WC,lists_lengths→Zz,none_tuple→jay,bool_tuple→jaz,tuple_none→jaA,tuple_bool→jaB,list_tuple→jaC,none_none→jbb,none_bool→jbc,bool_none→jbd,bool_bool→jbe,int_tuple→jbf,str_tuple→jbg,tuple_int→jbh,tuple_str→jbi,list_none→jbj,list_bool→jbk,none_int→jbJ,none_str→jbK,bool_int→jbL,bool_str→jbM,int_none→jbN,int_bool→jbO,str_none→jbP,str_bool→jbQ,list_int→jbR,list_str→jbS,int_int→jcN,int_str→jcO,str_int→jcP,str_str→jcQ,tuples→jds,lists→jeu
open PySem.List renaming filterMap_getElem?_range_length→Wm
open PySem.SeqAt.RcAt renaming tuple_list→WA,none_list→WN,bool_list→WO,int_list→W9,str_list→Xa
open PySem.Builtin.Int renaming intBits→Xb
open PySem.Shared renaming TypeIs→Xw
open PySem.Heap.IsSliceOf renaming new→XG
open PySem.Code renaming quiet_builtin→XI
open PySem.MeetsSeq2 renaming wpAny_forIn_array→XO
open PySem.SetTable.below renaming go→XR
open PySem.IsTupleKey renaming typeIs→XT
open Iff renaming rfl→Yj
open Eq renaming trans→Yl
open And renaming intro→Yz
open Prod.mk renaming inj→YQ
open PySem.Manifest renaming owners→Y0
open PySem.Fin renaming done→ZF
open PySem.Builtin.Tuple renaming tupleHashOf→ZW
open String renaming ofList→jah
open PySem.W.Looks renaming now→jaE
open PySem.W.KatTups renaming cons→jbq
open PySem.pickOrder renaming go→jbv
open PySem.Data renaming seq→jcs
open PySem.SetTable.Slot renaming dummy→jdj
open PySem.W.WShape renaming has→jeq
open PySem.Walks renaming list→jeC
namespace L2
open PySem
theorem lL{p:Prop}[Decidable p]:(decide p=true)=p:=decide_eq_true_eq
theorem lR{p:Prop}[Decidable p]:p->decide p=true:=decide_eq_true
theorem md{p:Prop}[Decidable p]:¬p->decide p=false:=decide_eq_false
abbrev ms:List PySem.Str:=["_law_bag_here","_law_n","_law_c","_law_ways","_law_four","_law_pairs_of_rows","_law_left","_law_right_here","_law_rest_rings","_law_rest_crosses","_law_k","_law_d","_law_rings","_law_crosses","_law_row"]
abbrev mA:List PySem.Str:=["stand","a","b"]
abbrev m8:List PySem.Str:=["_law_bag_here","_law_n"]
abbrev np:List PySem.Str:=["_law_bag_here","_law_n","_law_c","_law_ways","_law_four","_law_pairs_of_rows","_law_left","_law_right_here","_law_rest_rings","_law_rest_crosses","?_law_k","_law_d","_law_rings","_law_crosses","_law_k"]
abbrev nv:List PySem.Str:=["square","stand"]
abbrev nA:List PySem.Str:=["square","stand","a","b"]
abbrev nB:List PySem.Str:=["_law_square","_law_c","_law_crowd_here","_law_stand"]
abbrev n5:List PySem.Str:=["_law_square","_law_c","_law_crowd_here","_law_stand","_law_other","?_law_one","_law_there","_law_home","_law_one"]
abbrev n7:List PySem.Str:=["_law_bag_here","_law_many"]
abbrev oa:List PySem.Str:=["square","c"]
abbrev oi:List PySem.Str:=["square","stand","a","b","column","bend"]
abbrev pa:List PySem.Str:=["square","c","stand","right","left"]
abbrev pe:List PySem.Str:=["square","stand","a","b","column","bend","sides","turns","rows","straight","other"]
abbrev pf:List PySem.Str:=["square","stand","a","b","column","bend","sides","turns","rows","straight","row"]
abbrev po:List PySem.Str:=["square","columns","rows"]
abbrev pp:List PySem.Str:=["size","start","end"]
abbrev px:List PySem.Str:=["square","column","row"]
abbrev pz:List PySem.Str:=["_law_script","_law_k"]
abbrev rb:List PySem.Str:=["at","one","other"]
abbrev re:List PySem.Str:=["order","one","other"]
abbrev ri:List PySem.Str:=["square","stand","a","b","rings","crosses","marked","column","row"]
abbrev rk:List PySem.Str:=["square","c","crowd","other","turns","right","left","stand","end"]
abbrev ro:List PySem.Str:=["_law_script","_law_at"]
abbrev rr:List PySem.Str:=["square","c","rings","crosses","one","other","between","row"]
abbrev ry:List PySem.Str:=["column","rows","bend"]
abbrev r6:List PySem.Str:=["square","c","crowd"]
abbrev sf:List PySem.Str:=["square","crowd"]
abbrev so:List PySem.Str:=["ones","others"]
abbrev sx:List PySem.Str:=["marks","stand"]
abbrev sE:List PySem.Str:=["order","half"]
abbrev sL:List PySem.Str:=["one","other"]
theorem sA {n:Nat}{l:List Nat}(a:l.Nodup)(h: ∀z∈l,z<n):l.length<=n:=by
 have p:l.Perm ((O5 n).filter λz=>decide (z∈l)):=(P0 a (Q2 _ PV)).mpr λz=>by
  rw[Qf,O6,lL];exact⟨λq=>⟨h z q,q⟩,λq=>q.2⟩
 rw[p.length_eq];exact P8 (Qo _ _) (by simp)
def jP:Nat->Nat
 |0=>0
 |n+1=>5*jP n+1
theorem uV(m:Nat): ∀n,jP (m+n)=5^n*jP m+jP n
 |0=>by simp[jP]
 |n+1=>by
  show 5*jP (m+n)+1=_;rw[uV m n,TZ];show _=5^n*5*jP m+(5*jP n+1);rw[Nat.mul_add,U4,V5 5 (5^n*jP m)];lia
theorem Bf: ∀n,jP n % 2=n % 2
 |0=>rfl
 |n+1=>by have:=Bf n;show(5*jP n+1) % 2=_;lia
theorem qu: ∀n,5^n=4*jP n+1
 |0=>rfl
 |n+1=>by rw[TZ,qu n];show _=4*(5*jP n+1)+1;lia
theorem Ou(k a:Nat)(h:a % 2=1):Nat.Coprime (2^k) a:=by
 refine Nat.Coprime.pow_left k ?_
 show Nat.gcd 2 a=1;rw[Nat.gcd_rec,h];decide
theorem Ba: ∀(k d:Nat),2^k∣jP d->2^k∣d
 |0,d,_=>by simp
 |k+1,d,h=>by
  have i:=Bf d;have a:2∣jP d:=Nat.dvd_trans ⟨2^k,by rw[TZ,V5]⟩ h;obtain⟨e,rfl⟩: ∃e,d=e+e:=⟨d / 2,by have:=Nat.mod_eq_zero_of_dvd a;lia⟩
  have c:jP (e+e)=2*(jP e*(2*jP e+1)):=by
   rw[uV,qu];have:(4*jP e+1)*jP e+jP e=(2*(2*jP e+1))*jP e:=by
    rw[<-jaM];congr 1;lia
   rw[this,UA,V5 (2*jP e+1)]
  rw[c,TZ,V5] at h;have g:=Nat.dvd_of_mul_dvd_mul_left (by lia) h;have f:=(Ou k (2*jP e+1) (by lia)).dvd_of_dvd_mul_right g;obtain⟨q,b⟩:=Ba k e f;exact⟨q,by rw[TZ];rw[show 2^k*2*q=2^k*q+2^k*q by rw[U4];lia,<-b]⟩
def AE(M:Nat):Nat->Nat->Nat
 |0,i=>i
 |n+1,i=>(AE M n i*5+1) % M
theorem uJ(M i:Nat): ∀n,AE M n i % M=(5^n*i+jP n) % M
 |0=>by simp[AE,jP]
 |n+1=>by
  show(AE M n i*5+1) % M % M=_;rw[Nat.mod_mod,Nat.add_mod,Nat.mul_mod,uJ M i n,<-Nat.mul_mod,<-Nat.add_mod];congr 1;show(5^n*i+jP n)*5+1=5^(n+1)*i+(5*jP n+1);rw[TZ,Vm,U4];lia
theorem Hs {k i m d:Nat}(h:AE (2^k) m i % 2^k=AE (2^k) (m+d) i % 2^k):2^k∣d:=by
 rw[uJ,uJ,uV,YF] at h;have e:5^m*5^d*i+(5^d*jP m+jP d)=5^m*i+jP m+jP d*(4*(5^m*i+jP m)+1):=by
  rw[qu d];generalize 5^m=a;generalize jP m=b;generalize jP d=c;grind
 rw[e] at h;have g:(jP d*(4*(5^m*i+jP m)+1)) % 2^k=0:=by
  have f:=Nat.sub_mod_eq_zero_of_mod_eq h.symm;rw[Nat.add_sub_cancel_left] at f;exact f
 exact Ba k d ((Ou k _ (by lia)).dvd_of_dvd_mul_right (Nat.dvd_of_mod_eq_zero g))
theorem KQ {k:Nat}{i:Nat}(q:i<2^k){j:Nat}(l:j<2^k): ∃n,n<2^k/\AE (2^k) n i=j:=by
 have lt: ∀n,AE (2^k) n i<2^k:=λn=>by
  cases n with
  |zero=>exact q
  |succ n=>exact RD _ (Nat.two_pow_pos k)
 have r:((O5 (2^k)).map λn=>AE (2^k) n i).Nodup:=by
  rw[Xx,Qr];refine Qp (λ{a b} s o c e=>?_) Q6;rw[O6] at o;obtain⟨d,rfl⟩:=Nat.exists_eq_add_of_lt c;have:=Hs (k:=k) (i:=i) (m:=a) (d:=d+1) (by rw[show a+(d+1)=a+d+1 by lia,<-e]);have:=Nat.le_of_dvd (by lia) this;lia
 by_cases h:j∈(O5 (2^k)).map λn=>AE (2^k) n i
 ·obtain⟨n,p,e⟩:=Pz.mp h;exact⟨n,O6.mp p,e⟩
 ·exfalso
  have g:=sA (n:=2^k) (Ru.mpr ⟨h,r⟩) (λz f=>by
   rcases PD.mp f with rfl|f
   ·exact l
   ·obtain⟨n,_,rfl⟩:=Pz.mp f;exact lt n)
  simp at g;lia
abbrev Pb:=SetTable.Probe
def Ap(a:Nat)(p:Pb):Pb:=
 if p.more>0 then {p with j:=p.j+1,more:=p.more-1} else
 {p with j:=(Tv a p.i p.perturb).1,more:=Qw a (Tv a p.i p.perturb).1- (Tv a p.i p.perturb).1,i:=(Tv a p.i p.perturb).1,perturb:=(Tv a p.i p.perturb).2}
theorem yk(t:QL)(p:Pb):t.advance p=Ap t.mask p:=rfl
theorem Cz(a:Nat)(p:Pb)(d:Option Nat):Ap a {p with dummy:=d}={Ap a p with dummy:=d}:=by
 unfold Ap;dsimp only;split<;>rfl
def lv(a i perturb:Nat)(d:Option Nat):Pb:={j:=i,more:=Qw a i-i,i:=i,perturb:=perturb,dummy:=d}
def dZ(a:Nat):Nat->Pb->Pb
 |0,p=>p
 |n+1,p=>dZ a n (Ap a p)
theorem m9(a m:Nat): ∀(n:Nat) (p:Pb),dZ a (n+m) p=dZ a m (dZ a n p)
 |0,p=>by rw[Rk];rfl
 |n+1,p=>by rw[XQ];exact m9 a m n (Ap a p)
theorem iX(a n:Nat)(p:Pb):dZ a (n+1) p=Ap a (dZ a n p):=m9 a 1 n p
theorem mw(a:Nat)(d:Option Nat): ∀(n:Nat) (p:Pb),dZ a n {p with dummy:=d}={dZ a n p with dummy:=d}
 |0,p=>rfl
 |n+1,p=>by
  show dZ a n (Ap a {p with dummy:=d})=_;rw[Cz,mw a d n];rfl
theorem uP(a:Nat): ∀(n:Nat) (p:Pb),n<=p.more->dZ a n p={p with j:=p.j+n,more:=p.more-n}
 |0,p,_=>rfl
 |n+1,p,h=>by
  show dZ a n (Ap a p)=_;have:Ap a p={p with j:=p.j+1,more:=p.more-1}:=if_pos (by lia);rw[this,uP a n _ (by show n<=p.more-1;lia)];show({p with j:=p.j+1+n,more:=p.more-1-n}:Pb)={p with j:=p.j+(n+1),more:=p.more- (n+1)};rw[show p.j+1+n=p.j+(n+1) by lia,show p.more-1-n=p.more- (n+1) by lia]
theorem wF(a:Nat)(p:Pb):dZ a (p.more+1) p=lv a ((p.i*5+1+p.perturb / 32) % (a+1)) (p.perturb / 32) p.dummy:=by
 rw[iX,uP a p.more p (Ph _)];unfold Ap;dsimp only;rw[V6,if_neg (by lia)];rfl
theorem BX(a i perturb:Nat)(d:Option Nat):(lv a i perturb d).more<=9:=by
 show Qw a i-i<=9;unfold Qw;split<;>lia
def lp(a:Nat):Nat->Nat×Nat->Nat×Nat
 |0,x=>x
 |n+1,x=>lp a n ((x.1*5+1+x.2 / 32) % (a+1),x.2 / 32)
theorem zY(a:Nat)(d:Option Nat): ∀(n i perturb:Nat),∃m,m<=10*n/\dZ a m (lv a i perturb d)=lv a (lp a n (i,perturb)).1 (lp a n (i,perturb)).2 d
 |0,i,perturb=>⟨0,by lia,rfl⟩
 |n+1,i,perturb=>by
  obtain⟨m,c,b⟩:=zY a d n ((i*5+1+perturb / 32) % (a+1)) (perturb / 32);have e:=BX a i perturb d;refine⟨(lv a i perturb d).more+1+m,by lia,?_⟩;rw[m9,wF];exact b
theorem G0 {k a:Nat}(d:a+1=2^k): ∀(n i:Nat),lp a n (i,0)=(AE (2^k) n i,0):=by
 have c: ∀(n:Nat) (x:Nat),AE (2^k) n ((x*5+1) % 2^k)=AE (2^k) (n+1) x:=by
  intro n
  induction n with
  |zero=>intro x;rfl
  |succ n b=>intro x;show(AE (2^k) n ((x*5+1) % 2^k)*5+1) % 2^k=_;rw[b x];rfl
 intro n
 induction n with
 |zero=>intro i;rfl
 |succ n b=>
  intro i;show lp a n ((i*5+1+0 / 32) % (a+1),0 / 32)=_;rw[Nat.zero_div,UT,d,b,c]
theorem FC(a:Nat): ∀(m n:Nat) (x:Nat×Nat),lp a (m+n) x=lp a n (lp a m x)
 |0,n,x=>by rw[Rk];rfl
 |m+1,n,x=>by rw[XQ];exact FC a m n _
theorem Bd(a:Nat): ∀(n i perturb:Nat),(lp a n (i,perturb)).2=perturb / 32^n
 |0,i,perturb=>by simp[lp]
 |n+1,i,perturb=>by
  show(lp a n _).2=_;rw[Bd,Nat.div_div_eq_div_mul,<-UB]
theorem Ix(a:Nat): ∀(n:Nat) (x:Nat×Nat),x.1<=a->(lp a n x).1<=a
 |0,x,h=>h
 |n+1,x,_=>Ix a n _ (S8.mp (RD _ (by lia)))
theorem DJ {k a:Nat}(c:a+1=2^k){i perturb:Nat}(d:i<=a)(f:perturb<2^64){j:Nat}(g:j<=a): ∃n,n<=13+a/\(lp a n (i,perturb)).1=j:=by
 have b:lp a 13 (i,perturb)=((lp a 13 (i,perturb)).1,0):=by
  have:=Bd a 13 i perturb;rw[Nat.div_eq_of_lt (Pn f (by decide))] at this;exact Prod.ext rfl this
 obtain⟨n,h,e⟩:=KQ (k:=k) (i:=(lp a 13 (i,perturb)).1) (by have:=Ix a 13 (i,perturb) d;lia) (j:=j) (by lia);refine⟨13+n,by lia,?_⟩;rw[FC,b,G0 c];exact e
def t9(a:Nat)(h:Int)(d:Option Nat):Pb:=lv a (Ql h % (a+1)) (Ql h) d
def Jx(a:Nat)(h:Int)(m:Nat):Nat:=(dZ a m (t9 a h none)).j
theorem KS(a:Nat)(h:Int)(m:Nat)(d:Option Nat):(dZ a m (t9 a h d)).j=Jx a h m:=by
 have:t9 a h d={t9 a h none with dummy:=d}:=rfl;rw[this,mw];rfl
theorem Bg(h:Int):Ql h<2^64:=by
 unfold Ql;have a:0<=h % (2^64:Int):=YR _ (by decide);have b:h % (2^64:Int)<2^64:=Xy _ (by decide);have c:((2:Int)^64)=((2^64:Nat):Int):=by decide
 lia
theorem KJ {k a:Nat}(c:a+1=2^k)(h:Int){j:Nat}(b:j<=a): ∃m,m<=10*(13+a)/\Jx a h m=j:=by
 obtain⟨n,f,e⟩:=DJ c (i:=Ql h % (a+1)) (perturb:=Ql h) (S8.mp (RD _ (by lia))) (Bg h) b;obtain⟨m,g,d⟩:=zY a none n (Ql h % (a+1)) (Ql h);refine⟨m,by lia,?_⟩;show(dZ a m (lv a (Ql h % (a+1)) (Ql h) none)).j=j;rw[d];exact e
def Ris(xs:Array Nat):Prop:=xs.toList.Pairwise (·< ·)
theorem Ris.lt(r:Ris xs){i j:Nat}(c:i<j)(e:xs[i]? =some a)(d:xs[j]? =some b):a<b:=by
 rw[<-PZ] at e d;obtain⟨f,k⟩:=Pu.mp e;obtain⟨h,g⟩:=Pu.mp d;have:=Q4.mp r i j f h c;rw[k,g] at this;exact this
theorem Ris.inj(r:Ris xs){i j:Nat}(c:xs[i]? =some a)(b:xs[j]? =some a):i=j:=by
 rcases RY i j with h|h|h
 ·exact absurd (r.lt h c b) (by lia)
 ·exact h
 ·exact absurd (r.lt h b c) (by lia)
structure Bel(xs:Array Nat)(j p:Nat):Prop where
 le:p<=xs.size
 lo: ∀i a,i<p->xs[i]? =some a->a<j
 hi: ∀i a,p<=i->xs[i]? =some a->j<=a
theorem zr {xs:Array Nat}(r:Ris xs)(j:Nat): ∀(fuel d b:Nat),b-d<=fuel->d<=b->b<=xs.size->(∀i a,i<d->xs[i]? =some a->a<j)->(∀i a,b<=i->xs[i]? =some a->j<=a)->Bel xs j (XR xs j fuel d b)
 |0,d,b,s,q,m,l,h=>by
  have:d=b:=by lia
  subst this;exact⟨m,l,h⟩
 |fuel+1,d,b,s,q,m,l,h=>by
  unfold XR
  by_cases g:d<b
  ·rw[if_pos g];dsimp only;have o:(d+b) / 2<xs.size:=by lia
   have k:xs[(d+b) / 2]? =some xs[(d+b) / 2]:=PY o;have p:xs.getD ((d+b) / 2) j=xs[(d+b) / 2]:=by simp[SX,o]
   rw[p]
   by_cases c:xs[(d+b) / 2]<j
   ·rw[if_pos c];refine zr r j fuel _ b (by lia) (by lia) m (λi a n f=>?_) h
    by_cases e:i=(d+b) / 2
    ·subst e;rw[k] at f;cases f;exact c
    ·exact T0 (r.lt (by lia) f k) c
   ·rw[if_neg c];refine zr r j fuel d _ (by lia) (by lia) (by lia) l (λi a n f=>?_)
    by_cases e:i=(d+b) / 2
    ·subst e;rw[k] at f;cases f;lia
    ·have:=r.lt (by lia) k f;lia
  ·rw[if_neg g];have:d=b:=by lia
   subst this;exact⟨m,l,h⟩
theorem Mc(r:Ris xs)(j:Nat):Bel xs j (P1 xs j):=zr r j _ _ _ (by lia) (by lia) (by lia) (λi a h _=>absurd h (by lia)) λi a h e=>by
 rw[T1 h] at e;cases e
theorem ug(r:Ris xs){j i:Nat}(h:xs[i]? =some j):P1 xs j=i:=by
 have b:=Mc r j;rcases RY i (P1 xs j) with c|c|c
 ·exact absurd (b.lo i j c h) (by lia)
 ·exact c.symm
 ·have lt:P1 xs j<xs.size:=T0 c (QX.mp h).1;have e:xs[P1 xs j]? =some xs[P1 xs j]:=PY lt;have a:=b.hi _ _ (Ph _) e;have d:=r.lt c e h;lia
theorem kI {xs:Array Nat}(r:Ris xs)(j:Nat):UU xs j=true↔j∈xs.toList:=by
 unfold UU;rw[beq_iff_eq];constructor
 ·intro h;rw[<-PZ] at h;exact P9 h
 ·intro h;obtain⟨i,a⟩:=Qb.mp h;rw[PZ] at a;rw[ug r a];exact a
structure TOk(t:QL)(hs:List Int):Prop where
 pw: ∃k,3<=k/\k<=12/\t.mask+1=2^k
 sz:t.place.size=hs.length
 sp:Ris t.place
 sd:Ris t.dummies
 lp: ∀j∈t.place.toList,j<=t.mask
 ld: ∀j∈t.dummies.toList,j<=t.mask
 dj: ∀j∈t.dummies.toList,j∉t.place.toList
 fl:t.fill<=t.mask
 rc: ∀x∈hs.zip t.place.toList,∃m,Jx t.mask x.1 m=x.2/\ ∀m',m'<m->Jx t.mask x.1 m'∈t.place.toList\/Jx t.mask x.1 m'∈t.dummies.toList
def su(t:QL)(j:Nat):Prop:=j∈t.place.toList\/j∈t.dummies.toList
section
variable {t:QL}{hs:List Int}(T:TOk t hs)
include T
theorem TOk.mask:t.mask<=4095:=by
 obtain⟨k,b,a,e⟩:=T.pw;have:=RV (n:=2) (by lia) a;have:(2:Nat)^12=4096:=by decide
 lia
theorem TOk.noway:t.gaveWay=false:=by
 obtain⟨k,b,a,e⟩:=T.pw;unfold SetTable.gaveWay;have:2^k % 2=0:=by
  obtain⟨m,rfl⟩:=VM b;rw[YF];lia
 rw[beq_eq_false_iff_ne];lia
theorem oF(h:t.place[i]? =some j):t.slot j=.live i:=by
 unfold Xi;rw[ug T.sp h,if_pos (by rw[h];exact beq_self_eq_true _)]
theorem qZ(h:j∈t.dummies.toList):t.slot j=.dummy:=by
 unfold Xi;have e: ¬(t.place[P1 t.place j]? ==some j)=true:=λw=>by
  rw[beq_iff_eq,<-PZ] at w;exact T.dj j h (P9 w)
 dsimp only;rw[if_neg e,if_pos ((kI T.sd j).mpr h)]
theorem yt(h: ¬su t j):t.slot j=.empty:=by
 unfold Xi;have e: ¬(t.place[P1 t.place j]? ==some j)=true:=λw=>by
  rw[beq_iff_eq,<-PZ] at w;exact h (.inl (P9 w))
 dsimp only;rw[if_neg e,if_neg λw=>h (.inr ((kI T.sd j).mp w))]
theorem TOk.room: ∃j,j<=t.mask/\ ¬su t j:=by
 refine Q5 λh=>?_
 have d: ∀j,j<=t.mask->su t j:=λj c=>Q5 λn=>h ⟨j,c,n⟩
 have l:(t.place.toList++t.dummies.toList).Nodup:=by
  refine QT.mpr ⟨T.sp.imp λh=>PX h,T.sd.imp λh=>PX h,λa i b k e=>?_⟩;subst e;exact T.dj _ k i
 have:t.mask+1<=(t.place.toList++t.dummies.toList).length:=by
  have f:(O5 (t.mask+1)).length<=(t.place.toList++t.dummies.toList).length:=by
   refine Yn PV λj c=>?_
   rw[O6] at c;rw[QA];exact d j (by lia)
  simpa using f
 have g:=T.fl;unfold Xj at g;rw[PF,Py,Py] at this;lia
theorem TOk.first(h:Int): ∃M,M<=10*(13+t.mask)/\ ¬su t (Jx t.mask h M)/\ ∀m,m<M->su t (Jx t.mask h m):=by
 obtain⟨k,_,_,e⟩:=T.pw;obtain⟨j,r,o⟩:=T.room;obtain⟨m,b,p⟩:=KJ e h r;have l: ∀n,(∃m,m<=n/\ ¬su t (Jx t.mask h m))-> ∃M,M<=n/\ ¬su t (Jx t.mask h M)/\ ∀m,m<M->su t (Jx t.mask h m):=by
  intro n
  induction n with
  |zero=>rintro⟨m,b,q⟩;obtain rfl:m=0:=(by lia);exact⟨0,by lia,q,λ_ h=>absurd h (by lia)⟩
  |succ n s=>
   rintro⟨m,b,q⟩
   by_cases c: ∃m,m<=n/\ ¬su t (Jx t.mask h m)
   ·obtain⟨M,f,a,d⟩:=s c;exact⟨M,by lia,a,d⟩
   ·have:m=n+1:=Q5 λw=>c ⟨m,by lia,q⟩
    subst this;exact⟨n+1,by lia,q,λi g=>Q5 λw=>c ⟨i,by lia,w⟩⟩
 obtain⟨M,f,a,d⟩:=l (10*(13+t.mask)) ⟨m,b,by rw[p];exact o⟩;exact⟨M,f,a,d⟩
end
def Mz(t:QL)(h:Int)(M:Nat)(d:Option Nat):Prop:= ∀x,d=some x->x∈t.dummies.toList/\ ∃m,m<M/\Jx t.mask h m=x
def Ld(t:QL)(Uq:Nat->Int)(h:Int)(m n:Nat):Prop:= ∀a,m<=a->a<n-> ∀i:Nat,t.place[i]? =some (Jx t.mask h a)->Uq i≠h
theorem va(a:Nat)(h:Int)(m:Nat)(d:Option Nat):dZ a m (t9 a h d)=⟨Jx a h m,(dZ a m (t9 a h none)).more,(dZ a m (t9 a h none)).i,(dZ a m (t9 a h none)).perturb,d⟩:=mw a d m (t9 a h none)
section
variable {t:QL}{hs:List Int}(T:TOk t hs)
include T
theorem qL(Uq:Nat->Int)(A: ¬su t (Jx t.mask h M))(v: ∀m,m<M->su t (Jx t.mask h m)): ∀(fuel m:Nat) (d:Option Nat),M<m+fuel->m<=M->Mz t h M d->
 ∃r,Vn t Uq h fuel (dZ t.mask m (t9 t.mask h d))=some r/\
  ((∃d',r=.empty (Jx t.mask h M) d'/\Mz t h M d'/\Ld t Uq h m M)\/
   (∃c i d',m<=c/\c<M/\t.place[i]? =some (Jx t.mask h c)/\Uq i=h/\r=.candidate (Jx t.mask h c) i (dZ t.mask (c+1) (t9 t.mask h d'))/\Mz t h M d'/\Ld t Uq h m c))
 |0,m,d,E,F,_=>absurd E (by lia)
 |fuel+1,m,d,E,F,y=>by
  unfold Vn;rw[KS]
  by_cases H:m=M
  ·subst H;rw[yt T A];have I:(dZ t.mask m (t9 t.mask h d)).dummy=d:=by rw[va]
   exact⟨_,rfl,.inl ⟨d,by rw[I],y,λg a b=>absurd a (by lia)⟩⟩
  ·have lt:m<M:=by lia
   rcases v m lt with l|l
   ·obtain⟨i,p⟩:=Qb.mp l;rw[PZ] at p;rw[oF T p];dsimp only
    by_cases s:Uq i=h
    ·rw[if_pos (beq_iff_eq.mpr s),yk,<-iX];exact⟨_,rfl,.inr ⟨m,i,d,Ph _,lt,p,s,rfl,y,λg a b=>absurd a (by lia)⟩⟩
    ·rw[if_neg (λw=>s (beq_iff_eq.mp w)),yk,<-iX];obtain⟨r,B,z⟩:=qL Uq A v fuel (m+1) d (by lia) (by lia) y;have o: ∀n,Ld t Uq h (m+1) n->Ld t Uq h m n:=λn q g a b j f=>by
      by_cases e:g=m
      ·subst e;rw[T.sp.inj f p];exact s
      ·exact q g (by lia) b j f
     refine⟨r,B,?_⟩;rcases z with⟨d',e,k,q⟩|⟨c,j,d',a,b,C,u,D,k,q⟩
     ·exact .inl ⟨d',e,k,o _ q⟩
     ·exact .inr ⟨c,j,d',by lia,b,C,u,D,k,o _ q⟩
   ·rw[qZ T l];dsimp only;have e:(⟨Jx t.mask h m,(dZ t.mask m (t9 t.mask h d)).more,(dZ t.mask m (t9 t.mask h d)).i,(dZ t.mask m (t9 t.mask h d)).perturb,some (Jx t.mask h m)⟩:Pb)=dZ t.mask m (t9 t.mask h (some (Jx t.mask h m))):=by
     rw[va,va t.mask h m (some _)]
    rw[yk,e,<-iX];obtain⟨r,B,z⟩:=qL Uq A v fuel (m+1) (some (Jx t.mask h m)) (by lia) (by lia) (λx G=>by cases G;exact⟨l,m,lt,rfl⟩);have o: ∀n,Ld t Uq h (m+1) n->Ld t Uq h m n:=λn q g a b j f=>by
     by_cases e:g=m
     ·subst e;exact absurd (P9 (by rw[PZ];exact f)) (T.dj _ l)
     ·exact q g (by lia) b j f
    refine⟨r,B,?_⟩;rcases z with⟨d',e,k,q⟩|⟨c,j,d',a,b,C,u,D,k,q⟩
    ·exact .inl ⟨d',e,k,o _ q⟩
    ·exact .inr ⟨c,j,d',by lia,b,C,u,D,k,o _ q⟩
end
theorem fK {α:Type}(xs:Array α)(p:Nat):(Qm xs p).toList=xs.toList.eraseIdx p:=by
 unfold Qm;rw[Uk];simp[List.extract_eq_take_drop,Rl]
theorem sM {l:List Nat}(r:l.Pairwise (·< ·))(g:l[p]? =some j)(x:Nat):x∈l.eraseIdx p↔x∈l/\x≠j:=by
 rw[Ur];constructor
 ·rintro⟨i,a,e⟩;refine⟨P9 e,λw=>a ?_⟩;subst w;obtain⟨d,m⟩:=Pu.mp e;obtain⟨f,k⟩:=Pu.mp g;rcases RY i p with c|c|c
  ·have:=Q4.mp r i p d f c;lia
  ·exact c
  ·have:=Q4.mp r p i f d c;lia
 ·rintro⟨h,a⟩;obtain⟨i,b⟩:=Qb.mp h;exact⟨i,λw=>by subst w;rw[g] at b;cases b;exact a rfl,b⟩
theorem qh {xs:Array Nat}(r:Ris xs)(n:j∉xs.toList):Ris (Qg xs (P1 xs j) j):=by
 have b:=Mc r j;unfold Ris;rw[Rb,List.pairwise_append];have g: ∀a∈xs.toList.take (P1 xs j),a<j:=λa e=>by
  obtain⟨i,d⟩:=Qb.mp e;rw[U5] at d;split at d
  ·rename_i c;rw[PZ] at d;exact b.lo i a c d
  ·cases d
 have f: ∀a∈xs.toList.drop (P1 xs j),j<a:=λa e=>by
  obtain⟨i,d⟩:=Qb.mp e;rw[List.getElem?_drop] at d;have k:=P9 d;rw[PZ] at d;have:=b.hi _ a (VN _ _) d;have:a≠j:=λw=>n (w▸k)
  lia
 refine⟨Tb (T3 _ _) r,?_,λa e c h=>?_⟩
 ·exact Si.mpr ⟨f,Tb (List.drop_sublist _ _) r⟩
 ·rcases PD.mp h with rfl|h
  ·exact g a e
  ·exact T0 (g a e) (f c h)
theorem rH {α:Type}(xs:Array α)(p:Nat)(x y:α):y∈(Qg xs p x).toList↔y=x\/y∈xs.toList:=by
 rw[Rb,QA,PD]
 conv=>rhs;rw[<-Tc p xs.toList,QA]
 constructor
 ·rintro(h|h|h)
  ·exact .inr (.inl h)
  ·exact .inl h
  ·exact .inr (.inr h)
 ·rintro(h|h|h)
  ·exact .inr (.inl h)
  ·exact .inl h
  ·exact .inr (.inr h)
def fS {α:Type}(l:List α)(p:Nat)(x:α):List α:=l.take p++x::l.drop p
theorem Go {α β:Type}(l:List α)(m:List β)(p:Nat)(a:α)(b:β)(h:l.length=m.length):(fS l p a).zip (fS m p b)=fS (l.zip m) p (a,b):=by
 unfold fS;rw[List.zip_append (by rw[RO,RO,h]),Xz];unfold List.zip;rw[List.take_zipWith,List.drop_zipWith]
theorem TOk.put {t:QL}(T:TOk t hs)(s:j<=t.mask)(n:j∉t.place.toList)(p: ∃m,Jx t.mask h m=j/\ ∀b,b<m->su t (Jx t.mask h b))
 (u:(t.put j).1.fill<=t.mask):TOk (t.put j).1 (fS hs (t.put j).2 h):=by
 have k:(t.put j).1.place.toList=fS t.place.toList (t.put j).2 j:=Rb _ _ _;have d: ∀y,y∈(t.put j).1.place.toList↔y=j\/y∈t.place.toList:=rH t.place _ j
 have f: ∀y,y∈(t.put j).1.dummies.toList↔y∈t.dummies.toList/\y≠j:=λy=>by
  show y∈(if UU t.dummies j=true then Qm t.dummies (P1 t.dummies j) else t.dummies).toList↔_;split
  ·rename_i c
   have r:=(kI T.sd j).mp c;obtain⟨i,o⟩:=Qb.mp r;rw[fK,ug T.sd (by rw[<-PZ];exact o)];exact sM T.sd o y
  ·rename_i c
   exact⟨λq=>⟨q,λw=>c ((kI T.sd j).mpr (w▸q))⟩,λq=>q.1⟩
 have us: ∀y,su t y->y∈(t.put j).1.place.toList\/y∈(t.put j).1.dummies.toList:=λy q=>by
  rcases q with q|q
  ·exact .inl ((d y).mpr (.inr q))
  ·by_cases e:y=j
   ·exact .inl ((d y).mpr (.inl e))
   ·exact .inr ((f y).mpr ⟨q,e⟩)
 refine⟨T.pw,?_,qh T.sp n,?_,λy q=>?_,λy q=>T.ld y ((f y).mp q).1,λy q w=>?_,u,λx a=>?_⟩
 ·rw[<-Py,k];unfold fS;have:=T.sz;rw[<-Py] at this;simp[this]
 ·show Ris (if UU t.dummies j=true then Qm t.dummies (P1 t.dummies j) else t.dummies);split
  ·unfold Ris;rw[fK];exact Tb (Sv _ _) T.sd
  ·exact T.sd
 ·rcases(d y).mp q with rfl|q
  ·exact s
  ·exact T.lp y q
 ·have l:=(f y).mp q;rcases(d y).mp w with rfl|w
  ·exact l.2 rfl
  ·exact T.dj y l.1 w
 ·rw[k,Go _ _ _ _ _ (by rw[Py];exact T.sz.symm)] at a;unfold fS at a;have a:x=(h,j)\/x∈hs.zip t.place.toList:=by
   rcases QA.mp a with q|q
   ·exact .inr (UF q)
   ·rcases PD.mp q with q|q
    ·exact .inl q
    ·exact .inr (WH q)
  rcases a with rfl|a
  ·obtain⟨m,e,q⟩:=p;exact⟨m,e,λb g=>us _ (q b g)⟩
  ·obtain⟨m,e,q⟩:=T.rc x a;exact⟨m,e,λb g=>us _ (q b g)⟩
theorem TOk.drop {t:QL}{d:List Int}(T:TOk t d)(l:t.place[i]? =some j):TOk (t.drop i) (d.eraseIdx i):=by
 have v:t.drop i={t with place:=Qm t.place i,dummies:=Qg t.dummies (P1 t.dummies j) j}:=by
  unfold Z0;rw[l]
 have b:t.place.toList[i]? =some j:=by rw[PZ];exact l
 have o:j∈t.place.toList:=P9 b;have lt:i<t.place.size:=(QX.mp l).1;rw[v];have a:(Qm t.place i).toList=t.place.toList.eraseIdx i:=fK _ _;have k: ∀y,y∈(Qm t.place i).toList↔y∈t.place.toList/\y≠j:=λy=>by rw[a];exact sM T.sp b y
 have f:=rH t.dummies (P1 t.dummies j) j;have us: ∀y,su t y->y∈(Qm t.place i).toList\/y∈(Qg t.dummies (P1 t.dummies j) j).toList:=λy q=>by
  rcases q with q|q
  ·by_cases e:y=j
   ·exact .inr ((f y).mpr (.inl e))
   ·exact .inl ((k y).mpr ⟨q,e⟩)
  ·exact .inr ((f y).mpr (.inr q))
 refine⟨T.pw,?_,?_,qh T.sd λw=>T.dj j w o,λy q=>T.lp y ((k y).mp q).1,λy q=>?_,λy q w=>?_,?_,λx g=>?_⟩
 ·show(Qm t.place i).size=_;rw[<-Py,a,Rw,Rw,Py,T.sz]
 ·show Ris (Qm t.place i);unfold Ris;rw[a];exact Tb (Sv _ _) T.sp
 ·rcases(f y).mp q with rfl|q
  ·exact T.lp y o
  ·exact T.ld y q
 ·have r:=(k y).mp w;rcases(f y).mp q with rfl|q
  ·exact r.2 rfl
  ·exact T.dj y q r.1
 ·show(Qm t.place i).size+(Qg t.dummies (P1 t.dummies j) j).size<=t.mask;have z:=T.fl;unfold Xj at z;rw[<-Py,a,Rw,<-Py (xs:=Qg _ _ _),Rb,if_pos (by rw[Py];exact lt)];simp;lia
 ·have g:x∈(d.eraseIdx i).zip (t.place.toList.eraseIdx i):=by rw[<-a];exact g
  have:x∈d.zip t.place.toList:=by
   obtain⟨n,p⟩:=Qb.mp g;rw[RM,V7,V7] at p;obtain⟨h,c⟩:=p;split at h
   ·rw[if_pos (by assumption)] at c;exact Qb.mpr ⟨n,RM.mpr ⟨h,c⟩⟩
   ·rw[if_neg (by assumption)] at c;exact Qb.mpr ⟨n+1,RM.mpr ⟨h,c⟩⟩
  obtain⟨m,e,q⟩:=T.rc x this;exact⟨m,e,λs u=>us _ (q s u)⟩
abbrev oT:=Array (Option Nat)
def F0(a:oT)(j:Nat):Prop:=a[j]? =some none
def GD(a:oT)(j:Nat):Prop:= ∃k,a[j]? =some (some k)
theorem j1 {a:oT}:(a.getD j (some 0)).isNone=true↔F0 a j:=by
 unfold F0 SX
 by_cases h:j<a.size
 ·simp only[h,dite_true];rw[PY h];show(a[j]).isNone=true↔_;rw[Option.isNone_iff_eq_none,Option.some.injEq]
 ·simp[h]
theorem y0 {a:oT}(h:j<a.size)(n: ¬F0 a j):GD a j:=by
 unfold F0 at n;unfold GD;rw[PY h] at n⊢;cases e:a[j] with
 |none=>rw[e] at n;exact absurd rfl n
 |some k=>exact⟨k,rfl⟩
def Jl(a i p m:Nat):Nat:=(dZ a m (lv a i p none)).j
theorem oS(a:i<=mask):Qw mask i<=mask/\i<=Qw mask i:=by
 unfold Qw;split<;>lia
theorem yC(h:i+m<=Qw mask i):Jl mask i p m=i+m:=by
 unfold Jl;rw[uP mask m _ (show m<=Qw mask i-i by lia)];rfl
theorem AD(a i p m:Nat):Jl a i p ((Qw a i-i)+1+m)=Jl a ((i*5+1+p / 32) % (a+1)) (p / 32) m:=by
 unfold Jl;rw[m9];have:=wF a (lv a i p none);have e:(lv a i p none).more=Qw a i-i:=rfl;rw[e] at this;rw[this];rfl
theorem Af{b:oT}(v:b.size=mask+1): ∀(fuel i p:Nat),i<=mask->(∃n,n<fuel/\F0 b (lp mask n (i,p)).1)->
 ∃j m,RE mask b fuel i p=some j/\F0 b j/\Jl mask i p m=j/\ ∀a,a<m->GD b (Jl mask i p a)
 |0,i,p,_,⟨n,h,_⟩=>absurd h (Wr _)
 |fuel+1,i,p,t,⟨n,h,g⟩=>by
  have x:=oS t;unfold RE;cases e:(O5 (Qw mask i+1-i)).find? λk=>(b.getD (i+k) (some 0)).isNone with
  |some k=>
   have q:=List.find?_some e;have f:k<Qw mask i+1-i:=O6.mp (List.mem_of_find?_eq_some e);refine⟨i+k,k,rfl,j1.mp q,yC (by lia),λa d=>?_⟩;rw[yC (by lia)];refine y0 (by lia) λw=>?_
   rw[List.find?_range_eq_some] at e;have:=e.2.2 a d;rw[j1.mpr w] at this;exact absurd this (by decide)
  |none=>
   have no: ∀k,k<Qw mask i+1-i-> ¬F0 b (i+k):=λk f w=>by
    have:=List.find?_eq_none.mp e k (O6.mpr f);exact this (j1.mpr w)
   dsimp only;obtain⟨j,m,u,r,o,s⟩:=Af v fuel ((i*5+1+p / 32) % (mask+1)) (p / 32) (S8.mp (RD _ (by lia))) (by
    cases n with
    |zero=>exact absurd g (no 0 (by lia))
    |succ n=>exact⟨n,by lia,g⟩)
   refine⟨j,(Qw mask i-i)+1+m,u,r,by rw[AD];exact o,λa d=>?_⟩
   by_cases c:a<=Qw mask i-i
   ·rw[yC (by lia)];exact y0 (by lia) (no a (by lia))
   ·obtain⟨l,rfl⟩:=VM (show Qw mask i-i+1<=a by lia);rw[AD];exact s l (by lia)
structure j4(mask:Nat)(ow:oT)(hs:List Int):Prop where
 sz:ow.size=mask+1
 lt: ∀(j k:Nat),ow[j]? =some (some k)->k<hs.length
 un: ∀(j j' k:Nat),ow[j]? =some (some k)->ow[j']? =some (some k)->j=j'
 ex: ∀(k:Nat) (h:Int),hs[k]? =some h-> ∃j m:Nat,ow[j]? =some (some k)/\Jx mask h m=j/\ ∀m',m'<m->GD ow (Jx mask h m')
theorem j4.room{g:List Int}(I:j4 mask ow g)(r:g.length<=mask): ∃j,j<=mask/\F0 ow j:=by
 refine Q5 λh=>?_
 have d: ∀j,j<=mask->GD ow j:=λj c=>y0 (by rw[I.sz];lia) λw=>h ⟨j,c,w⟩
 let f:Nat->Nat:=λj=>((ow[j]?).getD none).getD 0
 have i: ∀j,j<=mask->ow[j]? =some (some (f j)):=λj c=>by
  obtain⟨k,e⟩:=d j c;show _=some (some (((ow[j]?).getD none).getD 0));rw[e];rfl
 have p:((O5 (mask+1)).map f).Nodup:=by
  rw[Xx,Qr];refine Qp (λ{a b} m o l e=>?_) Q6;rw[O6] at m o;have:=I.un a b (f a) (i a (by lia)) (by rw[e];exact i b (by lia));lia
 have:=sA p (n:=g.length) λz q=>by
  obtain⟨j,c,rfl⟩:=Pz.mp q;exact I.lt j _ (i j (by rw[O6] at c;lia))
 simp at this;lia
theorem Fv {k a:Nat}(H:a+1=2^k){i:oT}{f:List Int}(I:j4 a i f)(J:f.length<=a)(h:Int):
 ∃j,RE a i (Sj a) (Ql h % (a+1)) (Ql h)=some j/\j4 a (i.setIfInBounds j (some f.length)) (f++[h]):=by
 obtain⟨O,C,A⟩:=I.room J;have y:Ql h % (a+1)<=a:=S8.mp (RD _ (by lia));obtain⟨n,M,e⟩:=DJ H y (Bg h) C;obtain⟨j,m,D,p,B,K⟩:=Af I.sz (Sj a) _ _ y ⟨n,by unfold Sj;lia,by rw[e];exact A⟩;have N:j<i.size:=by
  unfold F0 at p;exact(QX.mp p).1
 have o: ∀x,(i.setIfInBounds j (some f.length))[x]? =if j=x then some (some f.length) else i[x]? :=λx=>by
  rw[Array.getElem?_setIfInBounds];split<;>rfl
 have g: ∀x,GD i x->GD (i.setIfInBounds j (some f.length)) x:=λx s=>by
  obtain⟨q,b⟩:=s;unfold GD;rw[o];split
  ·exact⟨_,rfl⟩
  ·exact⟨q,b⟩
 refine⟨j,D,by rw[Array.size_setIfInBounds];exact I.sz,λx q b=>?_,λx L q b d=>?_,λq z l=>?_⟩
 ·rw[o] at b;rw[PF,QI];split at b
  ·cases b;lia
  ·have:=I.lt x q b;lia
 ·rw[o] at b d;split at b
  ·rename_i c
   cases b;split at d
   ·rename_i G;rw[<-c,<-G]
   ·have:=I.lt _ _ d;lia
  ·split at d
   ·cases d;have:=I.lt _ _ b;lia
   ·exact I.un x L q b d
 ·by_cases c:q<f.length
  ·rw[P7 c] at l;obtain⟨x,r,v,F,E⟩:=I.ex q z l;refine⟨x,r,?_,F,λu t=>g _ (E u t)⟩;rw[o,if_neg λw=>?_]
   ·exact v
   ·subst w;unfold F0 at p;rw[p] at v;cases v
  ·have b:q=f.length:=by
    have:=(Pu.mp l).1;rw[PF,QI] at this;lia
   subst b;rw[P4 (Ph _),V6] at l;cases l;exact⟨j,m,by rw[o,if_pos rfl],B,λr t=>g _ (K r t)⟩
theorem AF(f:mask+1=2^k): ∀(a b:List Int) (d:oT),j4 mask d b->b.length+a.length<=mask+1->
 ∃c,a.foldl (λacc h=>do
  let(owner,k) <-acc
  let j <-RE mask owner (Sj mask) (Ql h % (mask+1)) (Ql h)
  pure (owner.setIfInBounds j (some k),k+1)) (some (d,b.length))=some (c,b.length+a.length)/\j4 mask c (b++a)
 | [],b,d,I,_=>⟨d,rfl,by rw[QJ];exact I⟩
 |h::a,b,d,I,l=>by
  rw[PL] at l;obtain⟨j,e,m⟩:=Fv f I (by lia) h;obtain⟨c,i,g⟩:=AF f a (b++[h]) _ m (by rw[PF,QI];lia);rw[PF,QI] at i;refine⟨c,?_,by rw[QE] at g;exact g⟩
  rw[TC];have:(do
   let(owner,k) <-some (d,b.length)
   let j <-RE mask owner (Sj mask) (Ql h % (mask+1)) (Ql h)
   pure (owner.setIfInBounds j (some k),k+1):Option (oT×Nat))=some (d.setIfInBounds j (some b.length),b.length+1):=by
   show(RE mask d (Sj mask) (Ql h % (mask+1)) (Ql h)).bind (λj=>some (d.setIfInBounds j (some b.length),b.length+1))=_;rw[e];rfl
  rw[this,i,PL];congr 2;lia
theorem BH(a:Nat):j4 a (YT (a+1) none) [] where
 sz:=by simp
 lt:=λj k h=>by
  rw[Vz] at h;split at h<;>cases h
 un:=λj b k h=>by
  rw[Vz] at h;split at h<;>cases h
 ex:=λk h e=>by simp at e
def iH(a:Nat)(b:oT):List (Nat×Nat):=(O5 (a+1)).filterMap λj=>(b.getD j none).map (j, ·)
theorem Du {a:Nat}{b:oT}(i:b.size=a+1){x:Nat×Nat}:x∈iH a b↔b[x.1]? =some (some x.2):=by
 unfold iH;rw[U6];constructor
 ·rintro⟨j,d,e⟩;rw[O6] at d;have:j<b.size:=by lia
  simp only[SX,this,dite_true] at e;obtain⟨k,g,rfl⟩:=QK.mp e;show b[j]? =some (some k);rw[PY this,<-g];rfl
 ·intro h;obtain⟨c,f⟩:=QX.mp h;refine⟨x.1,O6.mpr (by lia),?_⟩;simp only[SX,c,dite_true];have:b.getInternal x.1 c=some x.2:=f;rw[this];rfl
theorem wL(a:Nat)(b:oT):((iH a b).map (·.1)).Pairwise (·< ·):=by
 unfold iH;have: ∀l:List Nat,(l.filterMap λj=>(b.getD j none).map (j, ·)).map (·.1)=l.filter λj=>(b.getD j none).isSome:=by
  intro l
  induction l with
  |nil=>rfl
  |cons j l c=>
   rw[R4,Us];cases e:b.getD j none with
   |none=>exact c
   |some k=>show j::_=_;rw[c];rfl
 rw[this];exact Q2 _ Q6
theorem AY(O:3<=k)(t:k<=12)(D:mask+1=2^k)(c d:Nat)(led plain:Bool)(f:Array Int)(S:f.size<=mask):
 ∃n g:Array Nat,VA mask c d led plain f=some (⟨mask,n, #[],c,led,d,plain⟩,g)/\g.toList.Perm (O5 f.size)/\
  TOk ⟨mask,n, #[],c,led,d,plain⟩ (g.toList.map λk=>f.toList.getD k 0):=by
 obtain⟨l,e,I⟩:=AF D f.toList [] _ (BH mask) (by simp;lia);rw[YU] at I;have p:XS mask f=some l:=by
  unfold XS;rw[<-Array.foldl_toList];have e:f.toList.foldl _ (some (YT (mask+1) none,0))=_:=e;rw[e];rfl
 have i:= @Du mask l I.sz;have z:((iH mask l).map (·.2)).Nodup:=by
  rw[Xx,Qr];have:=wL mask l;rw[Qr] at this;refine this.imp_of_mem λ{a b} J N H w=>?_
  have v:=i.mp J;have C:=i.mp N;rw[<-w] at C;have:=I.un _ _ _ v C;lia
 have E: ∀k,k∈(iH mask l).map (·.2)↔k∈O5 f.size:=λk=>by
  rw[Pz,O6];constructor
  ·rintro⟨x,o,rfl⟩;have:=I.lt _ _ (i.mp o);simpa using this
  ·intro h;obtain⟨j,m,v,_⟩:=I.ex k (f.toList[k]'(by simpa using h)) (Pd _);exact⟨(j,k),i.mpr v,rfl⟩
 have u: ∀x,GD l x->x∈(iH mask l).map (·.1):=λx ⟨q,F⟩=>Pz.mpr ⟨(x,q),i.mpr F,rfl⟩
 refine⟨((iH mask l).map (·.1)).toArray,((iH mask l).map (·.2)).toArray,?_,?_,⟨k,O,t,D⟩,?_,?_,?_,?_,?_,?_,?_,?_⟩
 ·unfold VA;rw[p];rfl
 ·exact(P0 z PV).mpr E
 ·simp
 ·exact wL mask l
 ·exact RZ
 ·intro j r;obtain⟨x,o,rfl⟩:=Pz.mp r;have:=(QX.mp (i.mp o)).1;show x.1<=mask;rw[I.sz] at this;lia
 ·intro j r;cases r
 ·intro j r;cases r
 ·show((iH mask l).map (·.1)).toArray.size+0<=mask;have R:=((P0 z PV).mpr E).length_eq;simp at R⊢;lia
 ·intro x o;have o:x∈((((iH mask l).map (·.2)).map λk=>f.toList.getD k 0)).zip ((iH mask l).map (·.1)):=o;rw[Pw,List.zip_map'] at o;obtain⟨y,M,rfl⟩:=Pz.mp o;have s:=i.mp M;have lt:=I.lt _ _ s;obtain⟨j,m,P,G,Q⟩:=I.ex y.2 (f.toList[y.2]'lt) (Pd _);have L:=I.un _ _ _ P s;have A:f.toList.getD y.2 0=f.toList[y.2]'lt:=by rw[Qd,Pd lt];rfl
  refine⟨m,?_,λB K=>.inl ?_⟩
  ·show Jx mask (f.toList.getD y.2 0) m=y.1;rw[A,G,L]
  ·show Jx mask (f.toList.getD y.2 0) B∈((iH mask l).map (·.1));rw[A];exact u _ (Q B K)
theorem m7: ∀(fuel s n:Nat),n<s*2^fuel-> ∃e,e<=fuel/\Ul n fuel s=s*2^e/\n<s*2^e/\(e=0\/s*2^e<=2*n)
 |0,s,n,h=>⟨0,by lia,by simp[Ul],h,.inl rfl⟩
 |fuel+1,s,n,h=>by
  unfold Ul
  by_cases c:s<=n
  ·rw[if_pos c];obtain⟨e,f,d,b,a⟩:=m7 fuel (s*2) n (by rw[UB] at h;rw[UA];exact h);refine⟨e+1,by lia,by rw[d,UB,UA],by rw[UB,<-UA];exact b,.inr ?_⟩;rw[UB,<-UA];rcases a with rfl|a
   ·simp;lia
   ·exact a
  ·rw[if_neg c];exact⟨0,by lia,by simp,by simp;lia,.inl rfl⟩
theorem js(f:n<=4095): ∃k,3<=k/\k<=12/\Qs n=2^k/\n<2^k:=by
 obtain⟨e,h,d,g,b⟩:=m7 64 8 n (SY f (by decide));have a:8*2^e=2^(3+e):=by rw[YF]
 refine⟨3+e,by lia,?_,d.trans a,by rw[<-a];exact g⟩;rcases b with rfl|b
 ·lia
 ·refine Q5 λc=>?_
  have:=RV (n:=2) (by lia) (show 13<=3+e by lia);rw[<-a] at this;have:(2:Nat)^13=8192:=by decide
  lia
open PySem PySem.Spec PyProof.Rows
def th(ks:List Int):Int:=reduceHash (ZW (ks.map hashInt))
abbrev KI(prog:Qc)(w:Qv):HeapKind prog w (List Int):=tupleKind (intKind prog w)
theorem AA(prog:Qc)(w:Qv)(ks:List Int):(KI prog w).hash ks=th ks:=rfl
def wu(x:List Int×Addr):Int×Value:=(th x.1,.ref x.2)
abbrev gM:=List (List Int×Addr)
def qF(xs:gM):List Int:=xs.map λx=>th x.1
def sN(prog:Qc)(w:Qv)(h:Heap)(xs:gM):Prop:= ∀x∈xs,(KI prog w).is h x.1 x.2
structure SetAt(w:Qv)(o:Obj)(es:Array (Int×O7))(ep:Nat)(t:QL)(xs:gM):Prop where
 ex:o.ExactSet
 hd:o.data=.set es ep t
 he:es.toList=xs.map wu
 T:TOk t (qF xs)
 led:t.led= !w.params.followText "set-order"
 pl:t.plain=true
 nd:(xs.map (·.1)).Nodup
section
variable {prog:Qc}{w:Qv}{A:Qe}{E:O7->O9->Prop}{s:O9}{a b:Addr}{o:Obj}{es:Array (Int×O7)}{ep:Nat}{t:QL}{xs:gM}{k:List Int}
theorem SetAt.size(S:SetAt w o es ep t xs):es.size=xs.length:=by
 have:=congrArg Sd S.he;simpa using this
theorem SetAt.fits(S:SetAt w o es ep t xs):t.fits es.size=true:=by
 have a:=S.T.sz;have b:=S.T.fl;unfold qF at a;rw[Pc] at a;unfold SetTable.fits;rw[S.size,a];simp[b]
theorem SetAt.at_(S:SetAt w o es ep t xs)(i:Nat):es[i]? =(xs[i]?).map wu:=by
 rw[<-PZ,S.he,P5]
theorem o4 {k:List Int}(g:(KI prog w).is s.heap k b)(h:Q false s):Ps (model prog w) A (Vo 8 (.ref b)) Q E s:=by
 have l:=XT (s:=s) g;obtain⟨o,items,n,j,q,i,m⟩:=g;unfold Vo;refine O4 (XU l ?_);dsimp only;rw[if_pos (by decide)];refine O4 (O8 ?_);simp only[Rp,Po,if_false];refine O4 (U7 j i ?_);dsimp only;refine O4 ?_
 rw[<-XA];refine Ut _ (λd r s'=>r.1=none/\s'=s/\ ∀v∈d,Zd v=true) _ ?_ ?_ _ _ ⟨rfl,rfl,m.byValue⟩
 ·rintro v d r s' ⟨e,rfl,c⟩;have hv:=c v PH;have:Vo 7 v=pure false:=by
   cases v with
   |ref a=>simp[Zd] at hv
   |_=>rfl
  rw[this];refine O4 (O8 ?_);simp only[Po,if_false];exact O8 ⟨rfl,rfl,λu f=>c u (Pt _ f)⟩
 ·rintro⟨t,p⟩ s' ⟨e,rfl,_⟩;simp only at e;subst e;exact O8 h
theorem uh {k:List Int}(j:(KI prog w).is s.heap k b)(hv: ∀v∈vs,∃f c,v=.ref c/\(KI prog w).is s.heap f c)(h:Q false s):Ps (model prog w) A (XW (.ref b) vs) Q E s:=by
 unfold XW;refine O4 ?_
 refine Ut _ (λd r s'=>r.1=none/\s'=s/\ ∀v∈d,∃f c,v=.ref c/\(KI prog w).is s.heap f c) _ ?_ ?_ _ _ ⟨rfl,rfl,hv⟩
 ·rintro v d r s' ⟨g,rfl,a⟩;obtain⟨f,c,rfl,i⟩:=a v PH;dsimp only;split
  ·exact O8 ⟨rfl,rfl,λu e=>a u (Pt _ e)⟩
  ·refine O4 ((KI prog w).quiet j ?_);simp only[Rp,Po,if_false];refine O4 ((KI prog w).quiet i ?_);simp only[Rp,Po,if_false];refine O4 (o4 j ?_);simp only[Po,if_false];refine O4 (o4 i ?_);simp only[Po,if_false];exact O8 ⟨rfl,rfl,λu e=>a u (Pt _ e)⟩
 ·rintro⟨m,l⟩ s' ⟨g,rfl,_⟩;simp only at g;subst g;exact O8 h
def NZ(es:Array (Int×O7))(i:Nat):Int:=(es[i]?.map (·.1)).getD 0
theorem Ce {α:Type}{m:Sem Bool}{U R:Sem α}{c:Bool}{Q:α->O9->Prop}(a:Ps (model prog w) A R Q E s)(f:Ps (model prog w) A m (λb s'=>b=false/\s'=s) E s):
 Ps (model prog w) A (if c=true then(m>>=λx=>if x=true then U else R) else R) Q E s:=by
 split
 ·refine O4 (Qj f (λb s' ⟨d,e⟩=>?_) λ_ _ x=>x);subst d e;simp only[Po,if_false];exact a
 ·exact a
theorem pg(W:s.heap.get? a=some o)(S:SetAt w o es ep t xs)(N:sN prog w s.heap xs)(hu:A.units<Ra)(Y:(KI prog w).is s.heap k b)(f:Bool)(hM:M<=10*(13+t.mask))
 (h1: ¬su t (Jx t.mask (th k) M)) (h2: ∀m,m<M->su t (Jx t.mask (th k) m))
 (n: ∀(i:Nat) (c:Addr),xs[i]? =some (k,c)->Q (.there (if f then none else some i)) s)
 (q:k∉xs.map (·.1)-> ∀(d:Option Nat),Mz t (th k) M d->Q (.free (d.getD (Jx t.mask (th k) M)) d.isSome) s):
 ∀(fuel m:Nat) (st:Option Pb) (d:Option Nat),M<m+fuel->m<=M->Mz t (th k) M d->st.getD (t.probeStart (th k))=dZ t.mask m (t9 t.mask (th k) d)->
  (∀(i:Nat) (c:Addr) (j:Nat),xs[i]? =some (k,c)->t.place[i]? =some j-> ∃h,m<=h/\h<M/\Jx t.mask (th k) h=j)->
  Ps (model prog w) A (Z3 a (.ref b) (th k) f fuel st) Q E s
 |0,m,st,d,q1,q2,_,_,_=>absurd q1 (by lia)
 |fuel+1,m,st,d,q1,q2,hd,L,D=>by
  have T:=S.T;have ST:(KI prog w).room A:=hu;have hsz: ∀i:Nat,(∃j,t.place[i]? =some j)↔ ∃x,xs[i]? =some x:=λi=>by
   have e1:=T.sz;unfold qF at e1;rw[Pc] at e1;constructor
   ·rintro⟨j,F⟩;have:=(QX.mp F).1;exact⟨_,Pd (show i<xs.length by lia)⟩
   ·rintro⟨x,g⟩;have:=(Pu.mp g).1;exact⟨_,PY (show i<t.place.size by lia)⟩
  unfold Z3;refine O4 (Qt W S.hd S.fits ?_);dsimp only;rw[T.noway];simp only[Po,if_false];rw[L];unfold SetTable.probe;obtain⟨r,hr,hc⟩:=qL T (NZ es) h1 h2 (10*Sj t.mask) m d (by unfold Sj;lia) q2 hd;generalize hP:Vn t _ (th k) _ _=P;obtain rfl:P=some r:=hP.symm.trans hr;dsimp only;have u: ∀(i:Nat) (x:List Int×Addr),xs[i]? =some x->NZ es i=th x.1:=λi x g=>by
   unfold NZ;rw[S.at_,g];rfl
  rcases hc with⟨d',rfl,G,K⟩|⟨c,i,d',a1,a2,H,a4,rfl,G,K⟩
  ·have nk:k∉xs.map (·.1):=λw=>by
    obtain⟨x,g,rfl⟩:=Pz.mp w;obtain⟨i,hi⟩:=Qb.mp g;obtain⟨j,F⟩:=(hsz i).mpr ⟨x,hi⟩;obtain⟨h,O,X,B⟩:=D i x.2 j hi F;exact K h O X i (by rw[B];exact F) (u i x hi)
   have:=q nk d' G;dsimp only;cases d' with
   |none=>exact O8 this
   |some z=>
    dsimp only;have e:(f&&t.slot z !=jdj)=false:=by
     rw[qZ T (G z rfl).1];simp
    rw[e];simp only[Po,if_false];exact O8 this
  ·obtain⟨x,g⟩:=(hsz i).mp ⟨_,H⟩;have U:es[i]? =some (th x.1,.ref x.2):=by rw[S.at_,g];rfl
   have Z:=P9 g;have R:=N x Z;dsimp only;refine Ce ?_ (uh Y (λv hv=>?_) ⟨rfl,rfl⟩)
   ·rw[U];dsimp only;refine O4 (Qh ((KI prog w).eqBool (x:=x.1) (y:=k) ST R Y ?_));refine O4 (Qt W S.hd S.fits ?_);dsimp only;have sm:t.sameMemory t.moves t.mask=some true:=by unfold SetTable.sameMemory;rw[if_pos (beq_self_eq_true _)]
    by_cases I:x.1=k
    ·rw[lR I];have J:=n i x.2 (by rw[g,<-I]);cases f with
     |true=>simp only[Xk,if_true];exact O8 J
     |false=>
      simp only[Rq,Po,if_false];rw[sm];dsimp only;rw[if_pos rfl,oF T H];dsimp only;rw[U];dsimp only;refine O4 (Wv ?_);simp only[if_true];refine O4 (O8 ?_);dsimp only;exact O8 J
    ·rw[md I,Bool.and_false];simp only[Po,if_false];rw[sm];dsimp only;rw[if_pos rfl,oF T H];dsimp only;rw[U];dsimp only;refine O4 (Wv ?_);simp only[if_true];refine O4 (O8 ?_);dsimp only;refine pg W S N hu Y f hM h1 h2 n q fuel (c+1) _ d' (by lia) (by lia) G rfl λV c' j' l p=>?_
     obtain⟨h,O,X,B⟩:=D V c' j' l p;refine⟨h,?_,X,B⟩;refine Q5 λw=>?_
     by_cases e:h=c
     ·subst e;have:=T.sp.inj H (by rw[B];exact p);subst this;rw[g] at l;cases l;exact I rfl
     ·exact K h O (by lia) V (by rw[B];exact p) (u V _ l)
   ·obtain⟨e,C,rfl⟩:=Pz.mp hv;have C:e∈es:=(Array.mem_filter.mp (SB.mp C)).1;have C:e∈xs.map wu:=by rw[<-S.he];exact SB.mpr C
    obtain⟨y,J,rfl⟩:=Pz.mp C;exact⟨y.1,y.2,rfl,N y J⟩
end
theorem Jw(a:Nat)(p:Pb)(h:p.j+p.more<=a):(Ap a p).j+(Ap a p).more<=a:=by
 unfold Ap;split
 ·dsimp only;lia
 ·have b:(Tv a p.i p.perturb).1<=a:=S8.mp (RD _ (by lia));have:=oS b;dsimp only;lia
theorem MS(a:Nat)(h:Int)(m:Nat):Jx a h m<=a:=by
 have: ∀m,(dZ a m (t9 a h none)).j+(dZ a m (t9 a h none)).more<=a:=λm=>by
  induction m with
  |zero=>
   have b:Ql h % (a+1)<=a:=S8.mp (RD _ (by lia));have:=oS b;show Ql h % (a+1)+(Qw a (Ql h % (a+1)) -Ql h % (a+1))<=a;lia
  |succ m c=>rw[iX];exact Jw a _ c
 have:=this m;unfold Jx;lia
structure ce(w:Qv)(o:Obj)(es:Array (Int×O7))(ep:Nat)(t:QL)(xs:gM):Prop extends SetAt w o es ep t xs where
 f5:t.fill*5<t.mask*3
section
variable {prog:Qc}{w:Qv}{A:Qe}{E:O7->O9->Prop}{s:O9}{a b:Addr}{o:Obj}{es:Array (Int×O7)}{ep:Nat}{t:QL}{xs:gM}{k:List Int}
theorem qt(J:s.heap.get? a=some o)(S:SetAt w o es ep t xs)(G:sN prog w s.heap xs)(F:A.units<Ra)(K:(KI prog w).is s.heap k b)(f:Bool)
 (l: ∀(i:Nat) (c:Addr),xs[i]? =some (k,c)->Q (.there (if f then none else some i)) s)
 (g:k∉xs.map (·.1)-> ∀(j:Nat) (r:Bool),j<=t.mask->(r=true->j∈t.dummies.toList)->(r=false-> ¬su t j)->(∃m,Jx t.mask (th k) m=j/\ ∀n,n<m->su t (Jx t.mask (th k) n))->Q (.free j r) s):
 Ps (model prog w) A (setSearch a (.ref b) (th k) f) Q E s:=by
 obtain⟨M,C,h,p⟩:=S.T.first (th k);have O:=S.T.mask;unfold setSearch;refine pg J S G F K f C h p l (λy d H=>?_) 100000 0 none none (by lia) (by lia) (λx D=>by cases D) rfl λi c j N v=>?_
 ·cases d with
  |none=>exact g y _ _ (MS _ _ _) (λw=>by cases w) (λ_=>h) ⟨M,rfl,p⟩
  |some z=>
   obtain⟨B,m,P,I⟩:=H z rfl;exact g y z true (S.T.ld z B) (λ_=>B) (λw=>by cases w) ⟨m,I,λn R=>p n (by lia)⟩
 ·obtain⟨u,e,q⟩:=S.T.rc (th k,j) (Qb.mpr ⟨i,RM.mpr ⟨by unfold qF;rw[P5,N];rfl,by rw[PZ];exact v⟩⟩);refine⟨u,by lia,?_,e⟩;have L:su t j:=.inl (P9 (by rw[PZ];exact v));rcases RY u M with c|c|c
  ·exact c
  ·subst c;rw[e] at h;exact absurd L h
  ·exact absurd (q M c) h
theorem qK(b:Addr)(es:Array (Int×O7)):byScan (.ref b) es=false:=rfl
theorem xt(f:s.heap.get? a=some o)(S:SetAt w o es ep t xs)(n:sN prog w s.heap xs)(g:A.units<Ra)(h:(KI prog w).is s.heap k b)
 (d: ∀(i:Nat) (c:Addr),xs[i]? =some (k,c)->Q (some i) s) (e:k∉xs.map (·.1)->Q none s):Ps (model prog w) A (setFind a (.ref b) (th k)) Q E s:=by
 unfold setFind setFindIn;refine O4 (Qt f S.hd S.fits ?_);dsimp only;rw[qK];simp only[Po,if_false];refine O4 (qt f S n g h false (λi c m=>?_) λl j p _ _ _ _=>?_)
 ·exact O8 (d i c m)
 ·exact O8 (e l)
theorem Dc {k:List Int}(j:(KI prog w).is s.heap k b)(h:Q true s):Ps (model prog w) A (YH 8 (.ref b)) Q E s:=by
 have m:=XT (s:=s) j;obtain⟨o,items,n,g,y,f,p⟩:=j;unfold YH;refine O4 (UH m F.slot_tuple_hash.lookup ?_);refine O4 (U7 g f ?_);dsimp only;refine O4 ?_
 show Ps _ _ (forIn items _ _) _ _ _;rw[<-XA];have a: ∀v∈items.toList,∃(i:Int) (tk:Tok),v=.int i tk:=by
  intro v hv;clear g f m;generalize items.toList=l at p hv
  induction p with
  |nil=>cases hv
  | @cons k B ks vs q _ t=>
    rcases PD.mp hv with rfl|hv
    ·obtain⟨tk,rfl⟩:=XX q;exact⟨_,_,rfl⟩
    ·exact t hv
 refine Ut _ (λc r s'=>r.1=none/\s'=s/\ ∀v∈c,∃(i:Int) (tk:Tok),v=.int i tk) _ ?_ ?_ _ _ ⟨rfl,rfl,a⟩
 ·rintro v c r s' ⟨d,rfl,a⟩;obtain⟨i,tk,rfl⟩:=a v PH;have:YH 7 (.int i tk)=pure true:=rfl;rw[this];refine O4 (O8 ?_);simp only[Rp,Po,if_false];exact O8 ⟨rfl,rfl,λu e=>a u (Pt _ e)⟩
 ·rintro⟨z,x⟩ s' ⟨d,rfl,_⟩;simp only at d;subst d;exact O8 h
theorem sy(S:SetAt w o es ep t xs):(es.map (·.1)).toList=qF xs:=by
 rw[Array.toList_map,S.he,Pw];rfl
def pk(xs:gM)(a:List Nat):gM:=a.map λi=>xs.getD i ([],0)
theorem kZ {xs:gM}{a:List Nat}(p:a.Perm (O5 xs.length)):(pk xs a).Perm xs:=by
 have e:(O5 xs.length).map (λi=>xs.getD i ([],0))=xs:=by
  refine Uu (by simp) λi c b=>?_
  simp[Qd,b]
 have:=p.map λi=>xs.getD i ([],0)
 rw[e] at this;exact this
theorem sJ(S:SetAt w o es ep t xs)(hw:wanted<=4095)(p:xs.length*5<wanted*3): ∃(b a:Array Nat) (g:Nat),t.relaid (es.map (·.1)) wanted=some (⟨Qs wanted-1,b, #[],t.finger,t.led,g,t.plain⟩,a)/\
 a.toList.Perm (O5 xs.length)/\(∀(f:Obj) (c:Nat),f.ExactSet->f.data=.set (a.filterMap (es[·]?)) c ⟨Qs wanted-1,b, #[],t.finger,t.led,g,t.plain⟩->
  ce w f (a.filterMap (es[·]?)) c ⟨Qs wanted-1,b, #[],t.finger,t.led,g,t.plain⟩ (pk xs a.toList))/\(a.filterMap (es[·]?)).size=es.size:=by
 obtain⟨q,F,h,e,A⟩:=js hw;have u:(es.map (·.1)).size=xs.length:=by rw[Ze,S.size]
 have D:Qs wanted-1+1=2^q:=by rw[e];lia
 obtain⟨b,a,G,d,x⟩:=AY F h D t.finger (t.movedTo (Qs wanted-1)) t.led t.plain (es.map (·.1)) (by rw[u,e];lia);rw[u] at d;have lt: ∀i∈a.toList,i<xs.length:=λi r=>O6.mp (d.mem_iff.mp r)
 have v:(a.filterMap (es[·]?)).toList=(pk xs a.toList).map wu:=by
  rw[V8];unfold pk;rw[Pw];have m: ∀l:List Nat,(∀i∈l,i<xs.length)->l.filterMap (λi=>es[i]?)=l.map (wu∘λi=>xs.getD i ([],0)):=by
   intro l
   induction l with
   |nil=>intro _;rfl
   |cons i l E=>
    intro p;have y:=p i PH;have H:es[i]? =some (wu (xs.getD i ([],0))):=by
     rw[S.at_,Pd y];simp[Qd,y]
    rw[R4,H,Pe,E λj C=>p j (Pt _ C)];rfl
  exact m _ lt
 have I:qF (pk xs a.toList)=a.toList.map λk=>(es.map (·.1)).toList.getD k 0:=by
  unfold qF pk;rw[Pw];refine PM λi r=>?_
  have:=lt i r;rw[sy S];show th (xs.getD i ([],0)).1=(qF xs).getD i 0;unfold qF;simp[Qd,this]
 have s:=kZ d;refine⟨b,a,_,G,d,λf c n B=>?_,?_⟩
 ·refine⟨⟨n,B,v,by rw[I];exact x,S.led,S.pl,?_⟩,?_⟩
  ·exact((s.map (·.1)).nodup_iff).mpr S.nd
  ·have z:=x.sz;rw[Pc,d.length_eq,QF] at z;show(b.size+0)*5<(Qs wanted-1)*3;have z:b.size=xs.length:=z;rw[z,e];lia
 ·rw[<-Py,v,Pc,s.length_eq,S.size]
theorem FM(j:s.heap.get? a=some o)(S:SetAt w o es ep t xs)(hw:wanted<=4095)(u:xs.length*5<wanted*3)
 (h: ∀h' m c g t' f,Qn a s.heap h'->h'.get? a=some m->ce w m c g t' f->f.Perm xs->Q () {s with heap:=h'}):Ps (model prog w) A (setRelay a wanted) Q E s:=by
 obtain⟨d,b,p,z,n,B,l⟩:=sJ S hw u;obtain⟨q,C,i,e,v⟩:=js hw
 have x:setRelay a wanted=(do
  let(es,_,t) <-XY a
  if Qs wanted>PN then RI "set:memory"
  let(es,t) <-(do
   let some (t,b):=t.relaid (es.map (·.1)) wanted|RI "internal:set-table-without-room"
   let c:=b.filterMap (es[·]?)
   if c.size !=es.size then RI "internal:set-table-lost-an-element"
   pure (c,t):Sem (Array (Int×O7)×QL))
  Zf a es t):=rfl
 rw[x];refine O4 (Qt j S.hd S.fits ?_);dsimp only;have y:2^q<=2^12:=RV (by lia) i
 rw[if_neg (by rw[e,QU];have:(2:Nat)^12=4096:=by decide
               lia),z]
 dsimp only;rw[l,bne_self_eq_false];simp only[Po,if_false];refine O4 (O8 ?_);dsimp only;have r:(b.filterMap (es[·]?)).size<=sizeLine:=by
  rw[l,S.size,QU];lia
 refine SC j S.hd ?_ r;have k:=Qy (TN (b.filterMap (es[·]?)) ⟨Qs wanted-1,d, #[],t.finger,t.led,p,t.plain⟩) j (by rw[SN _ _ S.hd];rfl);rw[SN _ _ S.hd] at k;exact h _ _ _ _ _ _ (QR s.heap a _) k (B _ _ S.ex rfl) (kZ n)
end
theorem Fz {t:QL}(T:TOk t hs)(a:Bool)(e:a=true->j∈t.dummies.toList)(g:a=false-> ¬su t j):(t.put j).1.fill=if a then t.fill else t.fill+1:=by
 have k:(Qg t.place (P1 t.place j) j).size=t.place.size+1:=by
  have:=congrArg Sd (Rb t.place (P1 t.place j) j);rw[Py] at this;rw[this];have b:=(Mc T.sp j).le;simp;lia
 show(Qg t.place (P1 t.place j) j).size+(if UU t.dummies j=true then Qm t.dummies (P1 t.dummies j) else t.dummies).size=_;rw[k];unfold Xj;cases a with
 |true=>
  have d:=e rfl;obtain⟨i,c⟩:=Qb.mp d;rw[PZ] at c;have lt:=(QX.mp c).1;have f:(Qm t.dummies (P1 t.dummies j)).size=t.dummies.size-1:=by
   rw[<-Py,fK,Rw,ug T.sd c,if_pos (by rw[Py];exact lt),Py]
  rw[if_pos ((kI T.sd j).mpr d),if_pos rfl,f];lia
 |false=>
  have h:=g rfl;rw[if_neg λw=>h (.inr ((kI T.sd j).mp w)),if_neg (by decide)];lia
theorem oC {α β:Type}(f:α->β): ∀(l:List α) (i:Nat),(l.map f).eraseIdx i=(l.eraseIdx i).map f
 | [],_=>rfl
 |_::_,0=>rfl
 |a::l,i+1=>by rw[Pe,VO,VO,Pe,oC f l i]
section
variable {prog:Qc}{w:Qv}{A:Qe}{E:O7->O9->Prop}{s:O9}{a b:Addr}{o:Obj}{es:Array (Int×O7)}{ep:Nat}{t:QL}{xs:gM}{k:List Int}
theorem ES {α:Type}(l:List α)(p:Nat)(x:α):(fS l p x).Perm (l++[x]):=by
 unfold fS;refine Yo.trans ?_
 rw[Tc];exact(List.perm_append_singleton x l).symm
theorem tU(r:s.heap.get? a=some o)(S:ce w o es ep t xs)(Y:sN prog w s.heap xs)(U:A.units<Ra)(M:(KI prog w).is s.heap k b)(J:xs.length<=1000)
 (v:k∈xs.map (·.1)->Q false s)
 (m:k∉xs.map (·.1)-> ∀h' g l d t' f,Qn a s.heap h'->h'.get? a=some g->ce w g l d t' f->f.Perm (xs++[(k,b)])->Q true {s with heap:=h'}):
 Ps (model prog w) A (V9 a (.ref b) (th k)) Q E s:=by
 have z:=S.toSetAt;unfold V9 setAddHashedIn;refine Qh (O4 (Qt r S.hd z.fits ?_));dsimp only;rw[qK];simp only[Po,if_false];refine O4 (qt r z Y U M true (λi c hi=>?_) λG j I W n p D=>?_)
 ·exact O8 (v (Pz.mpr ⟨(k,c),P9 hi,rfl⟩))
 ·dsimp only;refine O4 (Qt r S.hd z.fits ?_);dsimp only;have T:=S.T;have nj:j∉t.place.toList:=λw=>by
   cases I with
   |true=>exact T.dj j (n rfl) w
   |false=>exact p rfl (.inl w)
  have fp:=Fz T I n p;have f5:=S.f5;obtain⟨q,q3,q12,qe⟩:=T.pw;have p3:2^3<=2^q:=RV (by lia) q3;have X:(t.put j).1.fill<=t.mask:=by rw[fp];split<;>lia
  have T2:=T.put W nj D X;have K:(t.put j).1.plain=true:=S.pl;have hsz:=z.size;have L:(Qg es (t.put j).2 (th k,QW b)).toList=(fS xs (t.put j).2 (k,b)).map wu:=by
   rw[Rb,S.he];unfold fS;rw[Qa,Pe,VB,Xl];rfl
  have et:qF (fS xs (t.put j).2 (k,b))=fS (qF xs) (t.put j).2 (th k):=by
   unfold qF fS;rw[Qa,Pe,VB,Xl]
  have u:=ES xs (t.put j).2 (k,b);have F:((fS xs (t.put j).2 (k,b)).map (·.1)).Nodup:=by
   refine((u.map (·.1)).nodup_iff).mpr ?_
   rw[Qa,QT];exact⟨S.nd,by simp,λx R y N=>by
    simp only[Pe,SD,Px] at N;subst N;exact λe=>G (e▸R)⟩
  have H:(Qg es (t.put j).2 (th k,QW b)).size=xs.length+1:=by
   rw[<-Py,L,Pc,u.length_eq];simp
  have P: ∀(g:Obj) (d:Nat),g.ExactSet->g.data=.set (Qg es (t.put j).2 (th k,QW b)) d (t.put j).1->SetAt w g (Qg es (t.put j).2 (th k,QW b)) d (t.put j).1 (fS xs (t.put j).2 (k,b)):=
   λg d C hd=>⟨C,hd,L,by rw[et];exact T2,S.led,K,F⟩
  have B:=Qy (TN (Qg es (t.put j).2 (th k,QW b)) (t.put j).1) r (by rw[SN _ _ S.hd];rfl);rw[SN _ _ S.hd] at B;rw[K];simp only[if_true];refine O4 (Dc M ?_);simp only[if_true];refine O4 (SC r S.hd ?_ (by rw[H,QU];lia));have O:=QR s.heap a (TN (Qg es (t.put j).2 (th k,QW b)) (t.put j).1);split
  ·rename_i h
   rw[Pi] at h;refine O4 (FM (s:={s with heap:=s.heap.update a (TN (Qg es (t.put j).2 (th k,QW b)) (t.put j).1)}) B (P _ _ S.ex rfl) ?_ ?_ λh' g l d t' f Z g2 V g4=>?_)
   ·rw[hsz];unfold Zh;split<;>lia
   ·rw[hsz,u.length_eq];unfold Zh;rw[PF,QI];split<;>lia
   ·exact O8 (m G h' g l d t' f (O.trans Z) g2 V (g4.trans u))
  ·rename_i h
   refine O8 (m G _ _ _ _ _ _ O B ⟨P _ _ S.ex rfl,?_⟩ u);show(t.put j).1.fill*5<t.mask*3;rw[fp];cases I with
   |true=>exact f5
   |false=>
    have h: ¬(t.put j).1.tooFull=true:=λw=>h (by rw[w];rfl)
    unfold SetTable.tooFull at h;rw[lL,fp] at h;have:(t.put j).1.mask=t.mask:=rfl;rw[this] at h;simp only[Po,if_false] at h⊢;lia
theorem oZ(h:s.heap.get? a=some o)(S:ce w o es ep t xs)(G:sN prog w s.heap xs)(D:A.units<Ra)(B:(KI prog w).is s.heap k b)(d:xs.length<=1000)
 (j:k∉xs.map (·.1)->Q false s)
 (e:k∈xs.map (·.1)-> ∀h' u n l t' f,Qn a s.heap h'->h'.get? a=some u->ce w u n l t' f->(∃i c,xs[i]? =some (k,c)/\f=xs.eraseIdx i)->Q true {s with heap:=h'}):
 Ps (model prog w) A (VP a (.ref b) (th k)) Q E s:=by
 have r:=S.toSetAt;unfold VP;refine O4 (xt h r G D B (λi c m=>?_) λF=>?_)
 ·dsimp only;refine O4 (Qt h S.hd r.fits ?_);dsimp only;have T:=S.T;have v:=T.sz;unfold qF at v;rw[Pc] at v;have J:=(Pu.mp m).1;have x:t.place[i]? =some (t.place[i]'(by lia)):=PY (by lia);have y:=T.drop x;have q:(Qm es i).toList=(xs.eraseIdx i).map wu:=by
   rw[fK,S.he,oC]
  have z:qF (xs.eraseIdx i)=(qF xs).eraseIdx i:=by unfold qF;rw[oC]
  have H:(Qm es i).size<=1000:=by
   rw[<-Py,q,Pc];exact P8 (VQ _ _) d
  have p:=Qy (TN (Qm es i) (t.drop i)) h (by rw[SN _ _ S.hd];rfl);rw[SN _ _ S.hd] at p;have g:t.drop i={t with place:=Qm t.place i,dummies:=Qg t.dummies (P1 t.dummies (t.place[i]'(by lia))) (t.place[i]'(by lia))}:=by
   unfold Z0;rw[x]
  refine O4 (SC h S.hd ?_ (by rw[QU];lia));refine O4 (wpAny_point ?_);refine O8 (e (Pz.mpr ⟨(k,c),P9 m,rfl⟩) _ _ _ _ _ (xs.eraseIdx i) (QR s.heap a _) p ⟨⟨S.ex,rfl,q,by rw[z];exact y,by rw[g];exact S.led,by rw[g];exact S.pl,?_⟩,?_⟩ ⟨i,c,m,rfl⟩)
  ·rw[<-oC];exact S4 (Sv _ _) S.nd
  ·have C:=S.f5;have I:(t.drop i).fill=t.fill:=by
    rw[g];show(Qm t.place i).size+(Qg t.dummies _ _).size=t.place.size+t.dummies.size;rw[<-Py,fK,Rw,<-Py (xs:=Qg _ _ _),Rb,if_pos (by rw[Py];lia)];have b:=(Mc T.sd (t.place[i]'(by lia))).le;simp;lia
   rw[I,g];exact C
 ·exact O8 (j F)
end
abbrev ly:=Sum Int Str
def IF:ly->O7->Bool
 | .inl k,v=>Value.isInt k v
 | .inr x,v=>Value.isStrOf x v
def Of(w:Qv):ly->Int
 | .inl k=>hashInt k
 | .inr x=>hashStr w x
theorem cn: ∀ {k:ly} {v:O7},IF k v=true->(∃i t,k=Vp i/\v=U3 i t)\/(∃x t,k=W1 x/\v=Value.str x t)
 | .inl i,v,h=>by
   obtain⟨t,e⟩:=XX (k:=i) (v:=v) h;exact .inl ⟨i,t,rfl,e⟩
 | .inr x,v,h=>by
   obtain⟨t,e⟩:=Value.isStrOf_shape (x:=x) (v:=v) h;exact .inr ⟨x,t,rfl,e⟩
theorem Ko(a b:Int):decide ((Vp a:ly)=Vp b)=(a==b):=by
 by_cases e:a=b
 ·subst e;simp
 ·have h: ¬(Vp a:ly)=Vp b:=λq=>e (Sum.inl.inj q)
  rw[md h];exact(beq_eq_false_iff_ne.mpr e).symm
theorem Ky(a b:Str):decide ((W1 a:ly)=W1 b)=decide (a=b):=by
 by_cases e:a=b
 ·subst e;simp
 ·have h: ¬(W1 a:ly)=W1 b:=λq=>e (Sum.inr.inj q)
  rw[md h,md e]
theorem JX(a:Int)(b:Str):decide ((Vp a:ly)=W1 b)=false:=md (λq=>nomatch q)
theorem Ka(a:Str)(b:Int):decide ((W1 a:ly)=Vp b)=false:=md (λq=>nomatch q)
def vp(prog:Qc)(w:Qv):PySem.KeyKind prog w ly where
 is:=IF
 hash:=Of w
 inj:=λv a b ha hb=>by
  rcases cn ha with⟨i,t,rfl,rfl⟩|⟨x,t,rfl,rfl⟩
  ·rcases cn hb with⟨j,u,rfl,e⟩|⟨y,u,rfl,e⟩
   ·injection e with e1 _;rw[e1]
   ·exact nomatch e
  ·rcases cn hb with⟨j,u,rfl,e⟩|⟨y,u,rfl,e⟩
   ·exact nomatch e
   ·injection e with e1 _;rw[e1]
 byValue:=λk v h=>by
  rcases cn h with⟨i,t,rfl,rfl⟩|⟨x,t,rfl,rfl⟩<;>rfl
 pyHash:=λhv h=>by
  rcases cn hv with⟨i,t,rfl,rfl⟩|⟨x,t,rfl,rfl⟩
  ·exact wpAny_pyHash_int h
  ·exact wpAny_pyHash_str h
 eqBool:=λhu hv h=>by
  rcases cn hu with⟨i,t,rfl,rfl⟩|⟨x,t,rfl,rfl⟩
  ·rcases cn hv with⟨j,u,rfl,rfl⟩|⟨y,u,rfl,rfl⟩
   ·rw[Ko] at h;exact Yp h
   ·rw[JX] at h;exact XB i t y u _ _ _ _ h
  ·rcases cn hv with⟨j,u,rfl,rfl⟩|⟨y,u,rfl,rfl⟩
   ·rw[Ka] at h;exact XC x t j u _ _ _ _ h
   ·rw[Ky] at h;exact wpAny_eqBool_str h
 «strs»:=λk x t v h=>by
  rcases cn h with⟨i,u,rfl,e⟩|⟨y,u,rfl,e⟩
  ·exact nomatch e
  ·injection e with e1 _
   subst e1;cases v<;>rfl
inductive V where
 |non|bl (b:Bool)|int (i:Int)|str (x:Str)|byt (b:Array UInt8)|flt (b:UInt64)|ref (a:Addr)|ty (n:String)
 deriving DecidableEq
def bH:V->O7->Prop
 | .non,u=>u=Qk
 | .bl b,u=>u=jeb b
 | .int i,u=> ∃t,u=U3 i t
 | .str x,u=> ∃t,u=Value.str x t
 | .byt b,u=> ∃t,u=Value.bytes b t
 | .flt b,u=> ∃t,u=Value.float b t
 | .ref a,u=>u=QW a
 | .ty n,u=>u=XD n
abbrev bt:List V->List O7->Prop:=Paired bH
theorem bt.length {xs:List V}{us:List O7}(r:bt xs us):xs.length=us.length:=Tw r
theorem bt.get: ∀ {xs:List V} {us:List O7} {i:Nat} {x:V},bt xs us->xs[i]? =some x-> ∃u,us[i]? =some u/\bH x u
 |_,_,_,_,.nil,e=>by simp at e
 |_,_,0,_,.cons r _,e=>by simp at e;subst e;exact⟨_,rfl,r⟩
 |_,_,i+1,x,.cons _ t,e=>by
  obtain⟨u,a,b⟩:=bt.get (i:=i) (x:=x) t (by simpa using e);exact⟨u,by simpa using a,b⟩
theorem bt.set(r:bH x u): ∀ {xs:List V} {us:List O7} (i:Nat),bt xs us->bt (xs.set i x) (us.set i u)
 |_,_,_,.nil=>.nil
 |_,_,0,.cons _ t=>.cons r t
 |_,_,i+1,.cons q t=>.cons q (bt.set r i t)
theorem bt.append: ∀ {xs ys:List V} {us a:List O7},bt xs us->bt ys a->bt (xs++ys) (us++a)
 |_,_,_,_,.nil,s=>s
 |_,_,_,_,.cons r t,s=>.cons r (bt.append t s)
theorem bt.take: ∀ {xs:List V} {us:List O7} (n:Nat),bt xs us->bt (xs.take n) (us.take n)
 |_,_,0,_=>.nil
 |_,_,_+1,.nil=>.nil
 |_,_,n+1,.cons r t=>.cons r (bt.take n t)
theorem bt.drop: ∀ {xs:List V} {us:List O7} (n:Nat),bt xs us->bt (xs.drop n) (us.drop n)
 |_,_,0,r=>r
 |_,_,_+1,.nil=>.nil
 |_,_,n+1,.cons _ t=>bt.drop n t
def MQ:Option V->Option O7->Prop
 |some v,some u=>bH v u
 |none,none=>True
 |_,_=>False
def KV {κ:Type}:List (κ×V)->List (κ×O7)->Prop:=Paired λ(p:κ×V) (q:κ×O7)=>p.1=q.1/\bH p.2 q.2
def kV:ly->V
 | .inl i=>.int i
 | .inr x=>.str x
inductive HO where
 |lst (xs:List V)
 |tup (xs:List V)
 |dK (kvs:List (ly×V))|dT (kvs:List (List ly×V))
 |set (S:Int->Bool) (n:Nat)
 |tst (xs:List (List Int×Addr))
 |ins (C dx:Addr) (fs:List (Str×V))
 |own (x:Addr)
 |xd (fs:List (Str×V))
 |met (f x:Addr)
 |rng (lo hi:Int)
 |frz (o:Obj) (u:HO)
 |nst (p:Addr) (u:HO)
 |tbl (ps:Array O7)
 |ext (φ:Heap->Prop)
abbrev Hp:=Addr->Option HO
def bY(H:Hp)(a:Addr)(o:HO):Hp:=λb=>if b=a then some o else H b
theorem aT:bY H a o a=some o:=by unfold bY;rw[if_pos rfl]
theorem aP(h:b≠a):bY H a o b=H b:=by unfold bY;rw[if_neg h]
theorem bD {H:Hp}(h:H a=some o)(h':H b=none):a≠b:=by
 intro e;subst e;rw[h] at h';cases h'
section
variable(P:Qc)(w:Qv)
def ci(H:Hp)(h:Heap)(a:Addr):HO->Prop
 | .lst xs=>xs.length<=PN/\ ∃(c:List O7) (n:Nat),bt xs c/\h.get? a=some {cls:=.type "list",data:=.seq c.toArray n}
 | .tup xs=>xs.length<=PN/\ ∃c:List O7,bt xs c/\IsTup h a c.toArray/\ ∃o,h.get? a=some o/\o.dict=none
 | .dK b=>b.length<=PN/\(a==Zi)=false/\ ∃vs,KV b vs/\h.DictOf (vp P w) a vs
 | .dT b=>b.length<=PN/\(a==Zi)=false/\ ∃xs:List (List ly×Addr×O7),
    Paired (λ(p:List ly×V) (q:List ly×Addr×O7)=>p.1=q.1/\H q.2.1=some (.tup (p.1.map kV))/\bH p.2 q.2.2) b xs/\
    ∃o es ep,h.get? a=some o/\o.ExactDict/\o.data=.dict es ep/\es.toList=xs.map (entryOfKey (tupleKind (vp P w)))/\(xs.map (·.1)).Nodup
 | .set S n=>h.SetOf (intKind P w) a S n
 | .tst xs=> ∃o es ep t,h.get? a=some o/\ce w o es ep t xs
 | .ins C g e=>H g=some (.own a)/\e.length<=1000/\g≠a/\h.get? a=some (W.instObj C g)/\
    ∃d,h.Ns1 g d/\(∀f,MQ (e.lookup f) (d f))/\PySem.Within d (e.map (·.1))
 | .own _=> ∃o,h.get? a=some o
 | .xd e=> ∃d,h.Ns1 a d/\ ∀f,MQ (e.lookup f) (d f)
 | .rng l m=> ∃t u v,h.get? a=some {cls:=.type "range",data:=.fields #[.int l t,.int m u,.int 1 v]}
 | .frz o u=>h.get? a=some o/\ci H h a u
 | .nst _ u=>ci H h a u
 | .tbl k=>h.get? a=some {cls:=.none,data:=.fields k}
 | .met f x=>h.get? a=some (YI (.ref f) (.ref x))
 | .ext φ=>φ h/\(∃o,h.get? a=some o)/\ ∀j i:Heap,φ j->(∀o,j.get? a=some o->i.get? a=some o)->φ i
def HOk(H:Hp)(h:Heap):Prop:= ∀a o,H a=some o->ci P w H h a o
end
section
variable {P:Qc}{w:Qv}{H H':Hp}{h h':Heap}{a:Addr}{o:HO}
theorem ci.lt(x:ci P w H h a o):a<h.objs.size:=by
 induction o with
 |lst xs=>obtain⟨_,_,_,_,e⟩:=x;exact Pp e
 |tup xs=>obtain⟨_,_,_,p,_⟩:=x;exact p.lt
 |dK b=>obtain⟨_,_,_,_,o,_,_,e,_⟩:=x;exact Pp e
 |dT b=>obtain⟨_,_,_,_,o,_,_,e,_⟩:=x;exact Pp e
 |set S n=>obtain⟨o,_,_,_,e,_⟩:=x;exact Pp e
 |tst xs=>obtain⟨o,_,_,_,e,_⟩:=x;exact Pp e
 |ins C g d=>obtain⟨_,_,_,e,_⟩:=x;exact Pp e
 |own y=>obtain⟨_,e⟩:=x;exact Pp e
 |xd d=>obtain⟨_,⟨_,_,_,e,_⟩,_⟩:=x;exact Pp e
 |rng j k=>obtain⟨_,_,_,e⟩:=x;exact Pp e
 |frz ob u c=>obtain⟨e,_⟩:=x;exact Pp e
 |nst p u c=>exact c x
 |tbl i=>exact Pp (show h.get? a=some _ from x)
 |met f y=>exact Pp (show h.get? a=some _ from x)
 |ext φ=>obtain⟨_,⟨_,e⟩,_⟩:=x;exact Pp e
theorem Paired.mapP {α β:Type}{F G:α->β->Prop}: ∀ {l₁:List α} {c:List β},Paired F l₁ c->(∀a b,F a b->G a b)->Paired G l₁ c
 |_,_,.nil,_=>.nil
 |_,_,.cons r t,f=>.cons (f _ _ r) (Paired.mapP t f)
theorem ci.stay(x:ci P w H h a o)(k: ∀b u,(b=a\/H b=some (.own a))->h.get? b=some u->h'.get? b=some u)
 (F: ∀b,H b=some (.own a)->H' b=some (.own a)) (G: ∀b xs,H b=some (.tup xs)->H' b=some (.tup xs)):ci P w H' h' a o:=by
 induction o with
 |lst xs=>obtain⟨z,g,n,r,e⟩:=x;exact⟨z,g,n,r,k _ _ (.inl rfl) e⟩
 |tup xs=>obtain⟨z,g,r,⟨ob,e,c⟩,l,s,E⟩:=x;exact⟨z,g,r,⟨ob,k _ _ (.inl rfl) e,c⟩,l,k _ _ (.inl rfl) s,E⟩
 |dK i=>obtain⟨z,y,vs,r,ob,es,ep,e,c⟩:=x;exact⟨z,y,vs,r,ob,es,ep,k _ _ (.inl rfl) e,c⟩
 |dT i=>
  obtain⟨z,y,xs,r,ob,es,ep,e,c⟩:=x;exact⟨z,y,xs,Paired.mapP r λp q z=>⟨z.1,G _ _ z.2.1,z.2.2⟩,ob,es,ep,k _ _ (.inl rfl) e,c⟩
 |set S n=>obtain⟨ob,es,ep,t,e,c⟩:=x;exact⟨ob,es,ep,t,k _ _ (.inl rfl) e,c⟩
 |tst xs=>obtain⟨ob,es,ep,t,e,c⟩:=x;exact⟨ob,es,ep,t,k _ _ (.inl rfl) e,c⟩
 |ins C J I=>
  obtain⟨d,z,D,e,j,⟨m,es,ep,s,c⟩,r⟩:=x;exact⟨F _ d,z,D,k _ _ (.inl rfl) e,j,⟨m,es,ep,k _ _ (.inr d) s,c⟩,r⟩
 |own y=>obtain⟨ob,e⟩:=x;exact⟨ob,k _ _ (.inl rfl) e⟩
 |xd I=>obtain⟨j,⟨m,es,ep,e,c⟩,r⟩:=x;exact⟨j,⟨m,es,ep,k _ _ (.inl rfl) e,c⟩,r⟩
 |rng K L=>obtain⟨t,u,v,e⟩:=x;exact⟨t,u,v,k _ _ (.inl rfl) e⟩
 |frz ob u A=>obtain⟨e,q⟩:=x;exact⟨k _ _ (.inl rfl) e,A q⟩
 |nst p u A=>exact A x
 |tbl B=>
  have e:h.get? a=some {cls:=.none,data:=.fields B}:=x;show h'.get? a=some {cls:=.none,data:=.fields B};exact k a _ (.inl rfl) e
 |met f y=>
  have e:h.get? a=some (YI (.ref f) (.ref y)):=x;show h'.get? a=some (YI (.ref f) (.ref y));exact k a _ (.inl rfl) e
 |ext φ=>obtain⟨p,⟨o,e⟩,st⟩:=x;exact⟨st _ _ p λo q=>k _ _ (.inl rfl) q,⟨o,k _ _ (.inl rfl) e⟩,st⟩
theorem HOk.lt(x:HOk P w H h)(e:H a=some o):a<h.objs.size:=(x a o e).lt
theorem HOk.fresh(x:HOk P w H h)(e:h.objs.size<=a):H a=none:=by
 cases q:H a with
 |none=>rfl
 |some u=>exact absurd (Pn (x.lt q) e) (SG _)
theorem HOk.kept(x:HOk P w H h)(k: ∀b u,h.get? b=some u->h'.get? b=some u):HOk P w H h':=λa o e=>
 (x a o e).stay (λb u _ q=>k b u q) (λ_ q=>q) λ_ _ q=>q
theorem HOk.laid(x:HOk P w H h)(k: ∀b u,h.get? b=some u->h'.get? b=some u)(i:h.objs.size<=a)(d:ci P w (bY H a o) h' a o):HOk P w (bY H a o) h':=λb u e=>by
 have g:=x.fresh i
 by_cases f:b=a
 ·subst f;rw[aT] at e;cases e;exact d
 ·rw[aP f] at e;exact(x b u e).stay (λc v _ q=>k c v q) (λc q=>by rw[aP (bD q g)];exact q) λc xs q=>by rw[aP (bD q g)];exact q
end
def Rd(H:Hp)(a:Addr)(u:HO):Prop:=H a=some u\/ ∃o,H a=some (.frz o u)
theorem Rd.ok(r:Rd H a u)(x:HOk P w H h):ci P w H h a u:=by
 rcases r with r|⟨o,r⟩
 ·exact x a u r
 ·obtain⟨_,q⟩:=x a _ r;exact q
def M6:Option HO->Prop
 |some (.lst _)=>True
 |some (.dK _)=>True
 |some (.dT _)=>True
 |some (.set _ _)=>True
 |some (.tst _)=>True
 |some (.ins _ _ _)=>True
 |some (.ext _)=>True
 |some (.nst _ _)=>True
 |_=>False
section
variable {P:Qc}{w:Qv}{H:Hp}{h h':Heap}{x e:Addr}{o':HO}
theorem HOk.write(ok:HOk P w H h)(j:M6 (H x))(o:e=x\/H e=some (.own x))(k: ∀b u,b≠e->h.get? b=some u->h'.get? b=some u)(l: ∃u,h'.get? e=some u)
 (m:ci P w (bY H x o') h' x o'):HOk P w (bY H x o') h':=λb u q=>by
 have d: ∀c y,H c=some (.own y)->c≠x:=λc y r z=>by subst z;rw[r] at j;exact j
 have f: ∀c xs,H c=some (.tup xs)->c≠x:=λc xs r z=>by subst z;rw[r] at j;exact j
 by_cases i:b=x
 ·subst i;rw[aT] at q;cases q;exact m
 ·rw[aP i] at q
  by_cases a:b=e
  ·have n:H b=some (.own x):=by
    rcases o with z|z
    ·exact absurd (a.trans z) i
    ·rw[a];exact z
   rw[q] at n;cases n;obtain⟨v,hv⟩:=l;exact⟨v,by rw[a];exact hv⟩
  ·refine(ok b u q).stay (λc v g r=>k c v ?_ r) (λc r=>by rw[aP (d c b r)];exact r) λc xs r=>by rw[aP (f c xs r)];exact r
   rcases g with rfl|g
   ·exact a
   ·rintro rfl;rcases o with z|z
    ·exact d c b g z
    ·rw[g] at z;cases z;exact i rfl
end
structure Un(fs ex:List Addr)(H H':Hp)(h h':Heap):Prop where
 keep: ∀b o,h.get? b=some o->H b=none->b∉fs->b∉ex->h'.get? b=some o
 slot: ∀b o,h.get? b=some o->H b=none->b∈fs->b∉ex-> ∃sl,h'.get? b=some {o with slots:=sl}
 free: ∀b o,h.get? b=some o->H b=none->b∉ex->H' b=none
 there: ∀b o,h.get? b=some o->b∉ex-> ∃o',h'.get? b=some o'
 tups: ∀b xs,H b=some (.tup xs)->H' b=some (.tup xs)
 frzs: ∀b o u,H b=some (.frz o u)->H' b=some (.frz o u)
 tbls: ∀b ps,H b=some (.tbl ps)-> ∃more,H' b=some (.tbl (ps++more))
section
variable {fs fs' ex ex':List Addr}{H H1 H2:Hp}{h h1 h2 h':Heap}{a x e:Addr}{o:HO}
theorem Un.any(u:Un fs ex H H1 h h1)(q:h.get? b=some ob)(n:H b=none)(a:b∉ex): ∃d,h1.get? b=some {ob with slots:=d}:=by
 by_cases c:b∈fs
 ·exact u.slot b ob q n c a
 ·exact⟨ob.slots,u.keep b ob q n c a⟩
theorem Un.trans(a:Un fs ex H H1 h h1)(b:Un fs ex H1 H2 h1 h2):Un fs ex H H2 h h2 where
 keep:=λc ob q n f d=>b.keep c ob (a.keep c ob q n f d) (a.free c ob q n d) f d
 slot:=λc ob q n f d=>by
  obtain⟨o,e⟩:=a.slot c ob q n f d;obtain⟨i,j⟩:=b.slot c _ e (a.free c ob q n d) f d;exact⟨i,j⟩
 free:=λc ob q n d=>by
  obtain⟨g,e⟩:=a.there c ob q d;exact b.free c g e (a.free c ob q n d) d
 there:=λc ob q d=>by
  obtain⟨g,e⟩:=a.there c ob q d;exact b.there c g e d
 tups:=λc xs q=>b.tups c xs (a.tups c xs q)
 frzs:=λc ob xs q=>b.frzs c ob xs (a.frzs c ob xs q)
 tbls:=λc k q=>by
  obtain⟨l,e⟩:=a.tbls c k q;obtain⟨m,j⟩:=b.tbls c _ e;exact⟨l++m,by rw[j,XE]⟩
theorem Un.kept(k: ∀b u,h.get? b=some u->h'.get? b=some u):Un fs ex H H h h':=
 ⟨λb ob q _ _ _=>k b ob q,λb ob q _ _ _=>⟨ob.slots,k b ob q⟩,λ_ _ _ n _=>n,λb ob q _=>⟨ob,k b ob q⟩,λ_ _ q=>q,λ_ _ _ q=>q,λ_ a q=>⟨#[],by rw[q];simp⟩⟩
theorem Un.refl:Un fs ex H H h h:=Un.kept λ_ _ q=>q
theorem Un.laid(k: ∀b u,h.get? b=some u->h'.get? b=some u)(d:h.objs.size<=a)(c:H a=none):Un fs ex H (bY H a o) h h' where
 keep:=λb u q _ _ _=>k b u q
 slot:=λb u q _ _ _=>⟨u.slots,k b u q⟩
 free:=λb u q n _=>by rw[aP (PX (Pn (Pp q) d))];exact n
 there:=λb u q _=>⟨u,k b u q⟩
 tups:=λb xs q=>by rw[aP (bD q c)];exact q
 frzs:=λb u xs q=>by rw[aP (bD q c)];exact q
 tbls:=λb e q=>⟨#[],by rw[aP (bD q c),q];simp⟩
theorem Un.write(c:M6 (H x))(l:e=x\/H e=some (.own x))(k: ∀b u,b≠e->h.get? b=some u->h'.get? b=some u)(d: ∃u,h'.get? e=some u):Un fs ex H (bY H x o) h h':=by
 have g: ∀b,H b=none->b≠x:=λb n z=>by subst z;rw[n] at c;exact c
 have i: ∀b,H b=none->b≠e:=λb n z=>by
  subst z;rcases l with r|r
  ·exact g b n r
  ·rw[n] at r;cases r
 have f: ∀b u,H b=some u-> ¬M6 (some u)->b≠x:=λb u q j z=>by subst z;rw[q] at c;exact j c
 refine⟨λb u q n _ _=>k b u (i b n) q,λb u q n _ _=>⟨u.slots,k b u (i b n) q⟩,λb u q n _=>by rw[aP (g b n)];exact n,λb u q _=>?_,
  λb xs q=>by rw[aP (f b _ q λz=>z)];exact q,λb u xs q=>by rw[aP (f b _ q λz=>z)];exact q,λb m q=>⟨#[],by rw[aP (f b _ q λz=>z),q];simp⟩⟩
 by_cases a:b=e
 ·subst a;exact d
 ·exact⟨u,k b u a q⟩
end
def trk(h:Heap)(H:Hp):List Addr:=(O5 h.objs.size).filter λa=>(H a).isSome
def vo(h:Heap)(H:Hp):Heap:=W.hideAll h (trk h H)
theorem Br(h:Heap)(H:Hp):(vo h H).objs.size=h.objs.size:=W.hideAll_size _ _
theorem FP {h:Heap}(e:h.get? b=some o)(n:H b=none):(vo h H).get? b=some o:=
 W.hideAll_get _ e λa=>by
  have q:(H b).isSome=true:=(Qf.mp a).2;rw[n] at q;simp at q
theorem Ir {h:Heap}(e:(vo h H).get? b=some o):h.get? b=some o/\H b=none:=by
 have a:h.get? b=some o:=W.of_hideAll (trk h H) e;refine⟨a,?_⟩;cases q:H b with
 |none=>rfl
 |some x=>
  have c:b∈trk h H:=Qf.mpr ⟨O6.mpr (Pp a),by simp[q]⟩;have z:(vo h H).get? b=none:=W.hideAll_none (trk h H) c;rw[z] at e;cases e
structure Mod(K:Pk)(mg:Str->Option O7)(base:Heap):Prop where
 kin:K.In base
 glob:base.Ns Qx mg
 blt: ∃mb,base.Ns XF mb/\ ∀x:Str,x≠"__name__"->mb x=Q7 x
 nolimit:base.NoLimit
structure Cx where
 prog:Qc
 w:Qv
 K:Pk
 mg:Str->Option O7
 base:Heap
 A:Qe
 N:List Str
 s₀:O9
 H₀:Hp
 env:Env
 outer:List Env
 stack:List Env
 ex:List Addr
 fn:Str->Bool
 calm:Bool
 pn:List (Addr×Obj)
 xe:O7->O9->Prop
def frs(l:List Env):List Addr:=l.filterMap (·.frame)
abbrev Cx.fs(X:Cx):List Addr:=frs X.outer
def wk(a:R5)(x:Str):Prop:=a.names.lookup x=some .local\/a.names.lookup x=some .cell\/a.names.lookup x=some .free
def EN(a:R5)(x:Str):Prop:=a.names.lookup x=some .local\/a.names.lookup x=some .cell
def Nb(a:Env)(h:Heap)(m:Str->Option O7)(x:Str)(u:O7):Prop:=
 (a.kindOf x=some .local/\m x=some u)\/((a.kindOf x=some .cell\/a.kindOf x=some .free)/\ ∃c,a.cells.lookup x=some c/\h.IsCell c (some u))
structure Cx.Ok(X:Cx):Prop where
 mod:Mod X.K X.mg X.base
 kind:X.env.scope.kind=.function
 glob:X.env.globals=Qx
 blt:X.env.builtins=XF
 above:X.s₀.heap.objs.size<=X.env.locals
 inj: ∀x y c,X.env.cells.lookup x=some c->X.env.cells.lookup y=some c->x=y
 has: ∀x,(X.env.kindOf x=some .cell\/X.env.kindOf x=some .free)-> ∃c,X.env.cells.lookup x=some c
 cab: ∀x c,X.fn x=true->X.env.cells.lookup x=some c->X.s₀.heap.objs.size<=c
 hd:X.calm=true->X.A.handled=none
 frames:X.A.frames=some X.stack
 stk:X.stack=X.outer\/(X.stack=X.env::X.outer/\X.env.frame=some X.env.locals)
 exf: ∀b∈X.ex,b≠X.env.locals/\ ∀x c,X.env.cells.lookup x=some c->c≠b
 bs: ∀b o,X.base.get? b=some o->X.s₀.heap.get? b=some o/\X.H₀ b=none
 bsz:X.base.objs.size<=X.s₀.heap.objs.size
 noex: ∀b o,X.base.get? b=some o->b∉X.ex
 exfs: ∀b∈X.ex,b∉X.fs
 funs:X.s₀.heap.FunFrames X.base X.outer
 frf: ∀b∈X.fs,X.H₀ b=none
structure Inv(X:Cx)(ah:List (Addr×Obj))(σ:List (Option V))(H:Hp)(s:O9):Prop where
 ok:X.Ok
 os:s.os=X.s₀.os
 bare:T4 s.gens
 base:Un X.fs X.ex X.H₀ H X.s₀.heap s.heap
 loc: ∃m,s.heap.Ns X.env.locals m/\ ∀(i:Nat) (x:Str) (v:V),X.N[i]? =some x->σ[i]? =some (some v)->wk X.env.scope x-> ∃u,bH v u/\Nb X.env s.heap m x u
 cell: ∀x c,X.env.cells.lookup x=some c-> ∃v,s.heap.IsCell c v
 free:H X.env.locals=none
 freeC: ∀x c,X.env.cells.lookup x=some c->H c=none
 pin: ∀p∈X.pn++ah,s.heap.get? p.1=some p.2/\H p.1=none/\p.1≠X.env.locals/\p.1∉X.fs/\ ∀v,p.2.data≠ .cell v
 hok:HOk X.prog X.w H s.heap
 len:σ.length=X.N.length
section
variable {X:Cx}{ah:List (Addr×Obj)}{σ:List (Option V)}{H H':Hp}{s:O9}{h':Heap}
theorem Cx.Ok.nofr(ok:X.Ok){b:Addr}(e:X.base.get? b=some o):b∉X.fs:=λa=>by
 have:=(ok.funs.mem a).1;rw[e] at this;cases this
theorem Inv.bs(I:Inv X ah σ H s): ∀b o,X.base.get? b=some o->s.heap.get? b=some o/\H b=none:=λb o e=>
 ⟨I.base.keep b o (I.ok.bs b o e).1 (I.ok.bs b o e).2 (I.ok.nofr e) (I.ok.noex b o e),I.base.free b o (I.ok.bs b o e).1 (I.ok.bs b o e).2 (I.ok.noex b o e)⟩
theorem Inv.bk(I:Inv X ah σ H s): ∀b o,X.base.get? b=some o->s.heap.get? b=some o:=λb o e=>(I.bs b o e).1
theorem Inv.mod(I:Inv X ah σ H s):Mod X.K X.mg X.base:=I.ok.mod
theorem Inv.kIn(I:Inv X ah σ H s):X.K.In s.heap:=I.ok.mod.kin.keeps I.bk
theorem Inv.lt(I:Inv X ah σ H s):X.env.locals<s.heap.objs.size:=let⟨_,hn,_⟩:=I.loc;hn.lt
theorem Inv.sz(I:Inv X ah σ H s):X.s₀.heap.objs.size<=s.heap.objs.size:=P8 I.ok.above (S5 I.lt)
theorem Inv.nofs(I:Inv X ah σ H s){a:Addr}(h:s.heap.objs.size<=a):a∉X.fs:=λc=>by
 obtain⟨_,o,b,_⟩:=I.ok.funs.mem c;exact absurd (Pn (Pp b) (P8 I.sz h)) (SG _)
theorem Inv.cne(I:Inv X ah σ H s): ∀x c,X.env.cells.lookup x=some c->c≠X.env.locals:=λx c e z=>by
 obtain⟨v,o,f,d⟩:=I.cell x c e;obtain⟨m,⟨g,es,ep,b,a,_⟩,_⟩:=I.loc;rw[z,b] at f;cases f;rw[a] at d;cases d
theorem Inv.funs(I:Inv X ah σ H s):s.heap.FunFrames X.base X.outer:=by
 have a: ∀(l:List Env),(∀b∈frs l,b∈X.fs)->X.s₀.heap.FunFrames X.base l->s.heap.FunFrames X.base l:=by
  intro l
  induction l with
  |nil=>intro _ _;trivial
  |cons q r n=>
   intro g m;obtain⟨k,⟨L,o,f,i,j,h⟩,p⟩:=m;have d:L∈X.fs:=g L (by unfold frs;rw[R4,f];exact PH);obtain⟨t,e⟩:=I.base.slot L o j (I.ok.frf L d) d λz=>I.ok.exfs L z d
   exact⟨k,⟨L,_,f,i,e,h⟩,n (λb c=>g b (by unfold frs;rw[R4,f];exact Pt _ c)) p⟩
 exact a X.outer (λ_ c=>c) I.ok.funs
theorem Inv.stack(I:Inv X ah σ H s):s.heap.FunFrames X.base X.stack:=by
 rcases I.ok.stk with e|⟨e,b⟩
 ·rw[e];exact I.funs
 ·rw[e];obtain⟨m,a,_⟩:=I.loc;refine .cons (by rw[I.ok.kind];decide) b a ?_ I.funs;exact Heap.get?_none_of_le (P8 I.ok.bsz I.ok.above)
theorem Inv.stkSub(I:Inv X ah σ H s): ∀b∈frs X.stack,b∈X.env.locals::X.fs:=λb a=>by
 rcases I.ok.stk with e|⟨e,c⟩
 ·rw[e] at a;exact Pt _ a
 ·rw[e] at a;unfold frs at a;rw[R4,c] at a;exact a
theorem Inv.stkFree(I:Inv X ah σ H s): ∀b∈frs X.stack,H b=none:=λb a=>by
 rcases PD.mp (I.stkSub b a) with e|a
 ·rw[e];exact I.free
 ·obtain⟨_,o,c,_⟩:=I.ok.funs.mem a;exact I.base.free b o c (I.ok.frf b a) λz=>I.ok.exfs b z a
theorem Inv.step {g':Array Zj}{t':Nat}{d':Drawn}{ch:List Addr}(I:Inv X ah σ H s)
 (hch: ∀b∈ch,(b∈X.ex\/X.s₀.heap.objs.size<=b)/\b≠X.env.locals/\(∀x c,X.env.cells.lookup x=some c->c≠b)/\ ∀p∈X.pn++ah,p.1≠b)
 (keep: ∀b o,b≠X.env.locals->b∉X.fs->b∉ch->s.heap.get? b=some o->H b=none->h'.get? b=some o)
 (slot: ∀b o,b≠X.env.locals->b∈X.fs->b∉ch->s.heap.get? b=some o->H b=none-> ∃sl,h'.get? b=some {o with slots:=sl}) (free: ∀b o,b∉ch->s.heap.get? b=some o->H b=none->H' b=none)
 (there: ∀b o,b∉ch->s.heap.get? b=some o-> ∃o',h'.get? b=some o')
 (tups: ∀b xs,H b=some (.tup xs)->H' b=some (.tup xs)) (frzs: ∀b o u,H b=some (.frz o u)->H' b=some (.frz o u)) (tbls: ∀b ps,H b=some (.tbl ps)-> ∃more,H' b=some (.tbl (ps++more)))
 (ns: ∀m,s.heap.Ns X.env.locals m->h'.Ns X.env.locals m) (hok:HOk X.prog X.w H' h') (hg:T4 g'):
 Inv X ah σ H' {s with heap:=h',gens:=g',drawn:=d',toks:=t'}:=by
 have neL: ∀b o,X.s₀.heap.get? b=some o->b≠X.env.locals:=λb o e=>PX (Pn (Pp e) I.ok.above)
 have neC: ∀b o,X.s₀.heap.get? b=some o->b∉X.ex->b∉ch:=λb o e hx hb=>by
  rcases(hch b hb).1 with z|z
  ·exact hx z
  ·exact absurd (Pn (Pp e) z) (SG _)
 have fB: ∀x c,X.env.cells.lookup x=some c-> ∀v,s.heap.IsCell c v->h'.IsCell c v:=λx c e v hq_=>by
  obtain⟨o,ho,hd⟩:=hq_;have nch:c∉ch:=λz=>(hch c z).2.2.1 x c e rfl
  by_cases hc:c∈X.fs
  ·obtain⟨sl,q⟩:=slot c o (I.cne x c e) hc nch ho (I.freeC x c e);exact⟨_,q,hd⟩
  ·exact⟨o,keep c o (I.cne x c e) hc nch ho (I.freeC x c e),hd⟩
 refine⟨I.ok,I.os,hg,⟨λb o e n hb hx=>?_,λb o e n hb hx=>?_,λb o e n hx=>?_,λb o e hx=>?_,λb xs e=>tups b xs (I.base.tups b xs e),λb o xs e=>frzs b o xs (I.base.frzs b o xs e),λb ps e=>?_⟩,?_,λx c e=>?_,?_,λx c e=>?_,λp hp=>?_,hok,I.len⟩
 ·exact keep b o (neL b o e) hb (neC b o e hx) (I.base.keep b o e n hb hx) (I.base.free b o e n hx)
 ·obtain⟨sl,e1⟩:=I.base.slot b o e n hb hx;obtain⟨sl',e2⟩:=slot b _ (neL b o e) hb (neC b o e hx) e1 (I.base.free b o e n hx);exact⟨sl',e2⟩
 ·obtain⟨o',e1⟩:=I.base.there b o e hx;exact free b o' (neC b o e hx) e1 (I.base.free b o e n hx)
 ·obtain⟨o',e1⟩:=I.base.there b o e hx;exact there b o' (neC b o e hx) e1
 ·obtain⟨m1,e1⟩:=I.base.tbls b ps e;obtain⟨m2,e2⟩:=tbls b _ e1;exact⟨m1++m2,by rw[e2,XE]⟩
 ·obtain⟨m,hn,hl⟩:=I.loc;refine⟨m,ns m hn,λi x v e1 e2 e3=>?_⟩;obtain⟨u,r,l⟩:=hl i x v e1 e2 e3;refine⟨u,r,?_⟩;rcases l with l|⟨k,c,e,z⟩
  ·exact .inl l
  ·exact .inr ⟨k,c,e,fB x c e _ z⟩
 ·obtain⟨v,z⟩:=I.cell x c e;exact⟨v,fB x c e v z⟩
 ·obtain⟨m,⟨o,_,_,ho,_⟩,_⟩:=I.loc;exact free _ o (λz=>(hch _ z).2.1 rfl) ho I.free
 ·obtain⟨v,o,ho,hd⟩:=I.cell x c e;exact free c o (λz=>(hch c z).2.2.1 x c e rfl) ho (I.freeC x c e)
 ·obtain⟨e,n,ne,nf,d⟩:=I.pin p hp;have nch:p.1∉ch:=λz=>(hch p.1 z).2.2.2 p hp rfl
  exact⟨keep p.1 p.2 ne nf nch e n,free p.1 p.2 nch e n,ne,nf,d⟩
theorem Inv.un {t':Nat}(I:Inv X ah σ H s)(u:Un X.fs [] H H' s.heap h')(hok:HOk X.prog X.w H' h'):Inv X ah σ H' {s with heap:=h',toks:=t'}:=by
 obtain⟨m,⟨o,es,ep,ho,r⟩,_⟩:=id I.loc;obtain⟨sl,hL⟩:=u.any ho I.free (by simp)
 exact I.step (g':=s.gens) (d':=s.drawn) (ch:=[]) (λ_ z=>nomatch z) (λb o _ hb _ e n=>u.keep b o e n hb (by simp)) (λb o _ hb _ e n=>u.slot b o e n hb (by simp)) (λb o _ e n=>u.free b o e n (by simp)) (λb o _ e=>u.there b o e (by simp)) u.tups u.frzs u.tbls (λm' hm=>by
  obtain⟨o',es',ep',ho',r'⟩:=hm
  rw[ho] at ho';cases ho';exact⟨_,es',ep',hL,r'⟩) hok I.bare
theorem Inv.call {g':Array Zj}{t':Nat}{d':Drawn}{ch:List Addr}(I:Inv X ah σ H s)(u:Un (frs X.stack) ch H H' s.heap h')(hok:HOk X.prog X.w H' h')(hg:T4 g')
 (hch: ∀b∈ch,(b∈X.ex\/X.s₀.heap.objs.size<=b)/\b≠X.env.locals/\(∀x c,X.env.cells.lookup x=some c->c≠b)/\ ∀p∈X.pn++ah,p.1≠b):
 Inv X ah σ H' {s with heap:=h',gens:=g',drawn:=d',toks:=t'}:=by
 obtain⟨m,⟨o,es,ep,ho,r⟩,_⟩:=id I.loc;obtain⟨sl,hL⟩:=u.any ho I.free λz=>(hch _ z).2.1 rfl
 exact I.step (ch:=ch) hch (λb o hL hb hc e n=>u.keep b o e n (λz=>(PD.mp (I.stkSub b z)).elim hL hb) hc) (λb o _ _ hc e n=>u.any e n hc) (λb o hc e n=>u.free b o e n hc) (λb o hc e=>u.there b o e hc) u.tups u.frzs u.tbls (λm' hm=>by
  obtain⟨o',es',ep',ho',r'⟩:=hm
  rw[ho] at ho';cases ho';exact⟨_,es',ep',hL,r'⟩) hok hg
theorem Inv.turned {t':Nat}{it:Addr}(I:Inv X ah σ H s)(k: ∀b o,b≠it->s.heap.get? b=some o->h'.get? b=some o)(hn:H it=none)(hL:it≠X.env.locals)
 (h1:it∈X.ex\/X.s₀.heap.objs.size<=it) (h2: ∀x c,X.env.cells.lookup x=some c->c≠it) (h3: ∀p∈X.pn++ah,p.1≠it):Inv X ah σ H {s with heap:=h',toks:=t'}:=by
 have nit: ∀b u,H b=some u->b≠it:=λb u e z=>by rw[z,hn] at e;cases e
 refine I.step (g':=s.gens) (d':=s.drawn) (ch:=[it]) (λb hb=>?_) (λb o _ _ hc e _=>k b o (λz=>hc (by simp[z])) e) (λb o _ _ hc e _=>⟨o.slots,k b o (λz=>hc (by simp[z])) e⟩) (λ_ _ _ _ n=>n)
  (λb o hc e=>⟨o,k b o (λz=>hc (by simp[z])) e⟩) (λ_ _ e=>e) (λ_ _ _ e=>e) (λb ps e=>⟨#[],by rw[e];simp⟩) (λm hm=>?_) (λb u e=>?_) I.bare
 ·have e:b=it:=by simpa using hb
  subst e;exact⟨h1,hL,h2,h3⟩
 ·obtain⟨o,es,ep,ho,r⟩:=hm;exact⟨o,es,ep,k _ o (Qu hL) ho,r⟩
 ·refine(I.hok b u e).stay (λc v hc q=>k c v ?_ q) (λ_ q=>q) λ_ _ q=>q
  rcases hc with z|z
  ·rw[z];exact nit b u e
  ·exact nit c _ z
theorem Inv.tok(I:Inv X ah σ H s)(t:Nat):Inv X ah σ H {s with toks:=t}:=I.un (h':=s.heap) (t':=t) Un.refl I.hok
theorem Inv.kept {t':Nat}(I:Inv X ah σ H s)(k: ∀b u,s.heap.get? b=some u->h'.get? b=some u):Inv X ah σ H {s with heap:=h',toks:=t'}:=I.un (Un.kept k) (I.hok.kept k)
theorem Inv.laid{o:HO}{t':Nat}(I:Inv X ah σ H s)(k: ∀b u,s.heap.get? b=some u->h'.get? b=some u)(d:s.heap.objs.size<=a)(c:ci X.prog X.w (bY H a o) h' a o):
 Inv X ah σ (bY H a o) {s with heap:=h',toks:=t'}:=I.un (Un.laid k d (I.hok.fresh d)) (I.hok.laid k d c)
theorem Inv.write {x e:Addr}{t':Nat}(I:Inv X ah σ H s)(d:M6 (H x))(f:e=x\/H e=some (.own x))(k: ∀b u,b≠e->s.heap.get? b=some u->h'.get? b=some u)(a: ∃u,h'.get? e=some u)
 (c:ci X.prog X.w (bY H x o) h' x o):Inv X ah σ (bY H x o) {s with heap:=h',toks:=t'}:=I.un (Un.write d f k a) (I.hok.write d f k a c)
theorem Inv.pins_of(I:Inv X ah σ H s)(h: ∀p∈a,s.heap.get? p.1=some p.2/\H p.1=none/\p.1≠X.env.locals/\p.1∉X.fs/\ ∀v,p.2.data≠ .cell v):Inv X a σ H s:=
 ⟨I.ok,I.os,I.bare,I.base,I.loc,I.cell,I.free,I.freeC,λp b=>(QA.mp b).elim (λz=>I.pin p (QV _ z)) (h p),I.hok,I.len⟩
theorem wo {N:List Str}(c:N.Nodup){i j:Nat}(a:N[i]? =some x)(b:N[j]? =some x):i=j:=by
 obtain⟨f,e⟩:=Pu.mp a;obtain⟨g,d⟩:=Pu.mp b;exact(Yq c).mp (e.trans d.symm)
theorem oh{v:V}(I:Inv X ah σ H s)(hN:X.N.Nodup)(hi:X.N[i]? =some x)(hx:EN X.env.scope x)(r:bH v u)
 (h: ∀s',Inv X ah (σ.set i (some v)) H s'->(∃a,Qn a s.heap s'.heap/\(a=X.env.locals\/X.env.cells.lookup x=some a))->Q () s') (hf:X.fn x=true\/X.env.scope.names.lookup x=some .local:=by first|exact .inl rfl|exact .inr rfl|assumption):Ps M A (storeName X.env x u) Q E s:=by
 obtain⟨m,hn,hl⟩:=id I.loc;have hcls:(X.env.scope.kind== .class||(X.env.scope.kind== .module&&X.env.locals !=X.env.globals))=false:=by rw[I.ok.kind];rfl
 have hiσ:i<σ.length:=by rw[I.len];exact(Pu.mp hi).1
 have cne:=I.cne;have tracked: ∀ {a:Addr} {h':Heap},(∃o,s.heap.get? a=some o/\H a=none)->Qn a s.heap h'->HOk X.prog X.w H h':=λ{a h'} ha hs b ob e=>by
  obtain⟨_,_,hfree⟩:=ha;refine(I.hok b ob e).stay (λc w' hc q=>(hs.2 c ?_).trans q) (λ_ q=>q) λ_ _ q=>q
  rintro rfl;rcases hc with rfl|hc
  ·rw[hfree] at e;cases e
  ·rw[hfree] at hc;cases hc
 rcases hx with hk|hk
 ·refine wpAny_storeName_local hk hn (λh' hn' hs=>?_) hcls;obtain⟨oL,_,_,hoL,_⟩:=id hn;refine h _ ⟨I.ok,I.os,I.bare,⟨λb o e n hb hx=>?_,λb o e n hb hx=>?_,I.base.free,λb o e hx=>?_,I.base.tups,I.base.frzs,I.base.tbls⟩,⟨_,hn',λj y v' e1 e2 e3=>?_⟩,λy c e=>?_,I.free,I.freeC,λp hp=>?_,tracked ⟨oL,hoL,I.free⟩ hs,by simpa using I.len⟩ ⟨_,hs,.inl rfl⟩
  ·exact(hs.2 b (PX (Pn (Pp e) I.ok.above))).trans (I.base.keep b o e n hb hx)
  ·obtain⟨sl,e1⟩:=I.base.slot b o e n hb hx;exact⟨sl,(hs.2 b (PX (Pn (Pp e) I.ok.above))).trans e1⟩
  ·obtain⟨o',e1⟩:=I.base.there b o e hx;exact⟨o',(hs.2 b (PX (Pn (Pp e) I.ok.above))).trans e1⟩
  ·by_cases hj:j=i
   ·subst hj;rw[hi] at e1;cases e1;rw[PR hiσ] at e2;cases e2;exact⟨u,r,.inl ⟨hk,by simp⟩⟩
   ·rw[PJ (Qu hj)] at e2;obtain⟨u',r',q⟩:=hl j y v' e1 e2 e3;refine⟨u',r',?_⟩;rcases q with⟨k,e⟩|⟨k,c,e,z⟩
    ·refine .inl ⟨k,?_⟩;have:y≠x:=λe=>hj (wo hN e1 (e▸hi))
     simp[this,e]
    ·exact .inr ⟨k,c,e,z.sameBut hs (cne y c e)⟩
  ·obtain⟨w',z⟩:=I.cell y c e;exact⟨w',z.sameBut hs (cne y c e)⟩
  ·obtain⟨e,n,ne,nf,d⟩:=I.pin p hp;exact⟨(hs.2 p.1 ne).trans e,n,ne,nf,d⟩
 ·have hfn:X.fn x=true:=by
   rcases hf with z|z
   ·exact z
   ·rw[z] at hk;cases hk
  obtain⟨c,hc⟩:=I.ok.has x (.inl hk);obtain⟨w',z⟩:=I.cell x c hc;refine wpAny_storeName_cell I.ok.kind hk hc z (λh' hc' hs=>?_);obtain⟨oc,hoc,hocd⟩:=id z;refine h {s with heap:=h'} ⟨I.ok,I.os,I.bare,⟨λb o e n hb hx=>?_,λb o e n hb hx=>?_,I.base.free,λb o e hx=>?_,I.base.tups,I.base.frzs,I.base.tbls⟩,⟨m,hn.sameBut hs (Qu (cne x c hc)),λj y v' e1 e2 e3=>?_⟩,λy c' e=>?_,I.free,I.freeC,λp hp=>?_,tracked ⟨oc,hoc,I.freeC x c hc⟩ hs,by simpa using I.len⟩ ⟨c,hs,.inr hc⟩
  ·exact(hs.2 b (PX (Pn (Pp e) (I.ok.cab x c hfn hc)))).trans (I.base.keep b o e n hb hx)
  ·obtain⟨sl,e1⟩:=I.base.slot b o e n hb hx;exact⟨sl,(hs.2 b (PX (Pn (Pp e) (I.ok.cab x c hfn hc)))).trans e1⟩
  ·obtain⟨o',e1⟩:=I.base.there b o e hx;exact⟨o',(hs.2 b (PX (Pn (Pp e) (I.ok.cab x c hfn hc)))).trans e1⟩
  ·by_cases hj:j=i
   ·subst hj;rw[hi] at e1;cases e1;rw[PR hiσ] at e2;cases e2;exact⟨u,r,.inr ⟨.inl hk,c,hc,hc'⟩⟩
   ·rw[PJ (Qu hj)] at e2;obtain⟨u',r',q⟩:=hl j y v' e1 e2 e3;refine⟨u',r',?_⟩;rcases q with q|⟨k,c',e,z'⟩
    ·exact .inl q
    ·refine .inr ⟨k,c',e,z'.sameBut hs ?_⟩;rintro rfl;exact hj (wo hN e1 (I.ok.inj _ _ _ e hc▸hi))
  ·by_cases hcc:c'=c
   ·subst hcc;exact⟨_,hc'⟩
   ·obtain⟨w2,z2⟩:=I.cell y c' e;exact⟨w2,z2.sameBut hs hcc⟩
  ·obtain⟨e,n,ne,nf,d⟩:=I.pin p hp;refine⟨(hs.2 p.1 ?_).trans e,n,ne,nf,d⟩;intro q;rw[q,hoc] at e;have q':oc=p.2:=Qi e;exact d w' (by rw[<-q'];exact hocd)
theorem qy(I:Inv X ah σ H s)(a:X.N.Nodup)(d:X.N[i]? =some x)(b:EN X.env.scope x)(r:bH v u)
 (h: ∀s',Inv X ah (σ.set i (some v)) H s'->Q () s') (e:X.fn x=true\/X.env.scope.names.lookup x=some .local:=by first|exact .inl rfl|exact .inr rfl|assumption):Ps M A (storeName X.env x u) Q E s:=
 oh I a d b r (λs' c _=>h s' c) e
theorem Inv.call' {s':O9}{ch:List Addr}(I:Inv X f σ H s)(h:s'.os=s.os)(u:Un (frs X.stack) ch H H' s.heap s'.heap)(d:HOk X.prog X.w H' s'.heap)(g:T4 s'.gens)
 (a: ∀b∈ch,(b∈X.ex\/X.s₀.heap.objs.size<=b)/\b≠X.env.locals/\(∀x c,X.env.cells.lookup x=some c->c≠b)/\ ∀p∈X.pn++f,p.1≠b):Inv X f σ H' s':=by
 obtain⟨h',g',d',t',i⟩:=s';have e:i=s.os:=h;subst e;exact I.call (g':=g') (t':=t') (d':=d') u d g a
end
abbrev XK:=O7->Option Addr->Hp->Prop
abbrev St:=List (Option V)
abbrev VK:=V->Hp->Prop
abbrev TE:=St->Hp->VK->Prop
abbrev TT:=St->Hp->(Bool->Hp->Prop)->Prop
abbrev TA:=St->Hp->(List V->Hp->Prop)->Prop
structure j0 where
 nx:St->Hp->Prop
 rt:VK
 bk:St->Hp->Prop:=λ_ _=>False
 ct:St->Hp->Prop:=λ_ _=>False
abbrev TS:=j0->St->Hp->Prop
def EP(X:Cx)(b:List (Addr×Obj))(σ:St)(Q:VK)(u:O7)(s':O9):Prop:= ∃v a,Inv X b σ a s'/\bH v u/\Q v a
def TP(X:Cx)(c:List (Addr×Obj))(σ:St)(Q:Bool->Hp->Prop)(b:Bool)(s':O9):Prop:= ∃a,Inv X c σ a s'/\Q b a
def AP(X:Cx)(b:List (Addr×Obj))(σ:St)(Q:List V->Hp->Prop)(us:List O7)(s':O9):Prop:= ∃vs a,Inv X b σ a s'/\bt vs us/\Q vs a
def SP(X:Cx)(c:List (Addr×Obj))(D:j0)(f:Flow)(s':O9):Prop:=
 match f with
 | .next=> ∃a b,Inv X c a b s'/\D.nx a b
 | .brk=> ∃a b,Inv X c a b s'/\D.bk a b
 | .cont=> ∃a b,Inv X c a b s'/\D.ct a b
 | .ret u=> ∃v a b,Inv X c a b s'/\bH v u/\D.rt v b
def PE(X:Cx)(e:Expr)(t:TE):Prop:=
 ∀(a:List (Addr×Obj)) (s:O9) (σ:St) (H:Hp) (Q:VK),Inv X a σ H s->t σ H Q->Ps (model X.prog X.w) X.A (eval e X.env) (EP X a σ Q) X.xe s
def PT(X:Cx)(e:Expr)(t:TT):Prop:=
 ∀(a:List (Addr×Obj)) (s:O9) (σ:St) (H:Hp) (Q:Bool->Hp->Prop),Inv X a σ H s->t σ H Q->Ps (model X.prog X.w) X.A (isTrue e X.env (eval e X.env)) (TP X a σ Q) X.xe s
def PW(X:Cx)(e:Expr)(t:TT):Prop:=
 ∀(a:Sem O7) (b:List (Addr×Obj)) (s:O9) (σ:St) (H:Hp) (Q:Bool->Hp->Prop),Inv X b σ H s->t σ H Q->Ps (model X.prog X.w) X.A (isTrue e X.env a) (TP X b σ Q) X.xe s
theorem PW.pt(h:PW X e t):PT X e t:=h _
def PA(X:Cx)(es:List Expr)(t:TA):Prop:=
 ∀(a:Pos) (b:List (Addr×Obj)) (s:O9) (σ:St) (H:Hp) (Q:List V->Hp->Prop),Inv X b σ H s->t σ H Q->Ps (model X.prog X.w) X.A (spliced (RL a (Pv es X.env))) (AP X b σ Q) X.xe s
def PS(X:Cx)(st:Stmt)(t:TS):Prop:=
 ∀(a:List (Addr×Obj)) (s:O9) (σ:St) (H:Hp) (D:j0),Inv X a σ H s->t D σ H->Ps (model X.prog X.w) X.A (exec st X.env) (SP X a D) X.xe s
def PSs(X:Cx)(st:List Stmt)(t:TS):Prop:=
 ∀(a:List (Addr×Obj)) (s:O9) (σ:St) (H:Hp) (D:j0),Inv X a σ H s->t D σ H->Ps (model X.prog X.w) X.A (execs st X.env) (SP X a D) X.xe s
theorem bW {α:Type}{t:Sem α}{Q b:α->O9->Prop}{M:Model}{A:Qe}{E:O7->O9->Prop}{s:O9}(h:Ps M A t Q E s)(c: ∀a s,Q a s->b a s):Ps M A t b E s:=Qj h c λ_ _ x=>x
section
variable {X:Cx}
def Mx(i:Nat):TE:=λσ H Q=> ∃v,σ[i]? =some (some v)/\Q v H
def tC(v:V):TE:=λ_ H Q=>Q v H
theorem KK(hN:X.N[i]? =some x)(hv:wk X.env.scope x)(hd:(x==("__debug__":Str))=false:=by decide)(hcd:(x==("__classdict__":Str))=false:=by decide):PE X (.Name x pos) (Mx i):=by
 intro ah s σ H Q I h;obtain⟨v,e,h⟩:=h;obtain⟨m,hn,hl⟩:=I.loc;obtain⟨u,r,l⟩:=hl i x v hN e hv;have fin:EP X ah σ Q u s:=⟨v,H,I,r,h⟩
 rcases l with⟨hk,hm⟩|⟨hk,c,hc,hcell⟩
 ·exact Zk (WI I.ok.kind hk hn hm fin) hd
 ·rcases hk with hk|hk
  ·exact Zk (W5 I.ok.kind hk hc hcell fin) hd
  ·exact Zk (wpAny_loadName_free I.ok.kind hk hc hcell fin hcd) hd
theorem Kz {i j pos}:PE X (.Constant (.int i) j pos) (tC (.int i)):=λ_ _ _ H _ I h=>wpAny_Constant_int ⟨.int i,H,I.tok _,⟨_,rfl⟩,h⟩
theorem LI {b j pos}:PE X (.Constant (.bool b) j pos) (tC (.bl b)):=λ_ _ _ H _ I h=>Constant_bool ⟨.bl b,H,I,rfl,h⟩
def Gl(X:Cx)(x:Str):Prop:=X.env.kindOf x=some .globalImplicit
theorem Ii{H:Hp}(I:Inv X ah σ H s)(b:Gl X x)(c:X.mg x=some u)(h:Q u s)
 (a:(x==("__debug__":Str))=false:=by decide):Ps (model X.prog X.w) X.A (eval (.Name x pos) X.env) Q E s:=
 U8 I.ok.kind b (Calls.loadGlobal_global (by rw[I.ok.glob];exact I.mod.glob.keeps I.bk) c h) a
theorem qW{H:Hp}{u:O7}(I:Inv X ah σ H s)(c:Gl X x)(f:X.mg x=none)(hv:Q7 x=some u)(h:Q u s)
 (e:x≠"__name__":=by decide) (b:(x==("__debug__":Str))=false:=by decide):Ps (model X.prog X.w) X.A (eval (.Name x pos) X.env) Q E s:=by
 obtain⟨g,a,d⟩:=I.mod.blt;exact U8 I.ok.kind c (Calls.loadGlobal_builtin (by rw[I.ok.glob];exact I.mod.glob.keeps I.bk) f (by rw[I.ok.blt];exact a.keeps I.bk) ((d x e).trans hv) h) b
variable {a b:Expr}{ta tb:TE}{pos:Pos}
def PC(X:Cx)(f:Xm)(a b:Expr)(t:TE):Prop:=
 ∀(e:List (Addr×Obj)) (s:O9) (σ:St) (H:Hp) (Q:VK),Inv X e σ H s->t σ H Q->
  Ps (model X.prog X.w) X.A (eval a X.env) (λv c=>Ps (model X.prog X.w) X.A (eval b X.env) (λu d=>Ps (model X.prog X.w) X.A (Rg f v u) (EP X e σ Q) X.xe d) X.xe c) X.xe s
def tB(t:TE):TT:=λσ H Q=>t σ H λx a=> ∃c,x=.bl c/\Q c a
theorem J9(h:PC X op a b t)(f:SH op b=false:=by first|exact e _ (by decide) (by decide)|rfl):PT X (.Compare a [op] [b] pos) (tB t):=by
 intro l s σ H Q I hw;refine Ww (bW (h l s σ H _ I hw) λv o f=>bW f λu s2 j=>bW j λc n ⟨x,i,g,k,m⟩=>?_) f;obtain⟨d,rfl,q⟩:=m;cases k;exact Q1 ⟨i,g,q⟩
variable {tA tB':TT}{rest:List Expr}
def Nc(t u:TT):TT:=λσ H Q=>t σ H λc a=>if c=true then u σ a Q else Q false a
def OQ(t u:TT):TT:=λσ H Q=>t σ H λc a=>if c=true then Q true a else u σ a Q
def NW(t:TT):TT:=λσ H Q=>t σ H λc a=>Q (!c) a
theorem k4(d:PT X a tA):PW X (.BoolOp .And [a] pos) tA:=by
 intro f b s σ H Q I h;refine isTrue_and (bW (d b s σ H Q I h) λc g e=>?_);cases c with
 |true=>exact isTrue_and_nil e
 |false=>exact e
theorem lm(d:PT X a tA):PW X (.BoolOp .Or [a] pos) tA:=by
 intro f b s σ H Q I h;refine isTrue_or (bW (d b s σ H Q I h) λc g e=>?_);cases c with
 |false=>exact isTrue_or_nil e
 |true=>exact e
theorem lA(k:PT X a tA)(l:PW X (.BoolOp .And (b::rest) pos) tB'):PW X (.BoolOp .And (a::b::rest) pos) (Nc tA tB'):=by
 intro j e s σ H Q I h;refine isTrue_and (bW (k e s σ H _ I h) λc m d=>?_);obtain⟨i,g,f⟩:=d;cases c with
 |true=>exact l j e m σ i Q g f
 |false=>exact⟨i,g,f⟩
theorem lC(k:PT X a tA)(l:PW X (.BoolOp .Or (b::rest) pos) tB'):PW X (.BoolOp .Or (a::b::rest) pos) (OQ tA tB'):=by
 intro j e s σ H Q I h;refine isTrue_or (bW (k e s σ H _ I h) λc m d=>?_);obtain⟨i,g,f⟩:=d;cases c with
 |true=>exact⟨i,g,f⟩
 |false=>exact l j e m σ i Q g f
theorem Ey(d:PT X a tA):PT X (.UnaryOp .Not a pos) (NW tA):=by
 intro b s σ H Q I h;exact isTrue_not (d b s σ H (λc e=>Q (!c) e) I h)
def L5(b d:TE):TE:=λσ H Q=>b σ H λx a=> ∃c,x=.bl c/\if c=true then d σ a Q else Q (.bl false) a
def Lr(a:TE):TE:=λσ H Q=>a σ H λx b=> ∃c,x=.bl c/\Q (.bl (!c)) b
theorem Kq {op}(h:PE X a t):PE X (.BoolOp op [a] pos) t:=λb s σ H Q I hw=>BoolOp_one (h b s σ H Q I hw)
theorem Jq(k:PE X a ta)(m:PE X (.BoolOp .And (b::rest) pos) tb):PE X (.BoolOp .And (a::b::rest) pos) (L5 ta tb):=by
 intro i s σ H Q I h;refine BoolOp_and (bW (k i s σ H _ I h) λv j e=>?_);obtain⟨x,g,f,l,d⟩:=e;obtain⟨c,rfl,d⟩:=d;cases l;refine Q1 ?_
 cases c with
 |true=>exact m i j σ g Q f d
 |false=>exact⟨.bl false,g,f,rfl,d⟩
theorem J7(g:PE X a ta):PE X (.UnaryOp .Not a pos) (Lr ta):=by
 intro e s σ H Q I h;refine UnaryOp_ (bW (g e s σ H _ I h) λv k d=>?_);obtain⟨x,j,f,i,b⟩:=d;obtain⟨c,rfl,b⟩:=b;cases i;exact not_of (Q1 ⟨.bl (!c),j,f,rfl,b⟩)
def O3(t:TT)(b d:TE):TE:=λσ H Q=>t σ H λc a=>if c=true then b σ a Q else d σ a Q
theorem FI(m:PT X c tA)(l:PE X a ta)(n:PE X b tb):PE X (.IfExp c a b pos) (O3 tA ta tb):=by
 intro e s σ H Q I h;refine wpAny_IfExp (bW (m e s σ H _ I h) λd k f=>?_);obtain⟨j,i,g⟩:=f;cases d with
 |true=>exact l e k σ j Q i g
 |false=>exact n e k σ j Q i g
end
def SqL(K:Pk)(H:Hp)(a:Addr)(xs:List V):Prop:=
 Rd H a (.lst xs)\/
  ∃(o:Obj) (b:Array O7) (n:Nat),K.lookup a=some o/\o.cls=.type "list"/\o.dict=none/\o.data=.seq b n/\b.size<=PN/\bt xs b.toList
def SqT(K:Pk)(H:Hp)(a:Addr)(xs:List V):Prop:=
 Rd H a (.tup xs)\/
  ∃(o:Obj) (b:Array O7) (n:Nat),K.lookup a=some o/\o.cls=.type "tuple"/\o.data=.seq b n/\b.size<=PN/\bt xs b.toList/\o.dict=none
def Op:O7->Option V
 | .none=>some .non
 | .bool b=>some (.bl b)
 | .int i _=>some (.int i)
 | .str x _=>some (.str x)
 | .bytes b _=>some (.byt b)
 | .float b _=>some (.flt b)
 | .ref a=>some (.ref a)
 | .type n=>some (.ty n)
 |_=>none
theorem bH.abs(r:bH x u):Op u=some x:=by
 cases x with
 |non=>cases r;rfl
 |bl _=>cases r;rfl
 |int _=>obtain⟨t,rfl⟩:=r;rfl
 |str _=>obtain⟨t,rfl⟩:=r;rfl
 |byt _=>obtain⟨t,rfl⟩:=r;rfl
 |flt _=>obtain⟨t,rfl⟩:=r;rfl
 |ref _=>cases r;rfl
 |ty _=>cases r;rfl
theorem bH.inj(r:bH x u)(q:bH y u):x=y:=Qi (r.abs.symm.trans q.abs)
theorem bt.inj: ∀ {xs ys:List V} {us:List O7},bt xs us->bt ys us->xs=ys
 |_,_,_,.nil,.nil=>rfl
 |_,_,_,.cons r t,.cons a t'=>by rw[r.inj a,bt.inj t t']
section
variable {X:Cx}{ah:List (Addr×Obj)}{σ:St}{H:Hp}{s:O9}{a:Addr}{xs ys:List V}
theorem SqL.of {K:Pk}(h:H a=some (.lst xs)):SqL K H a xs:=.inl (.inl h)
theorem SqT.of {K:Pk}(h:H a=some (.tup xs)):SqT K H a xs:=.inl (.inl h)
theorem Inv.list(I:Inv X ah σ H s)(h:SqL X.K H a xs): ∃b:List O7,bt xs b/\PlainL s.heap a b.toArray/\xs.length<=sizeLine:=by
 rcases h with h|⟨o,b,n,c,f,d,g,i,r⟩
 ·obtain⟨z,b,n,r,e⟩:=h.ok I.hok;exact⟨b,r,⟨_,n,e,rfl,rfl,rfl⟩,z⟩
 ·refine⟨b.toList,r,⟨o,n,I.kIn a o c,f,d,by simpa using g⟩,?_⟩;have e:=r.length;simp only[Py] at e;lia
theorem Inv.tuple(I:Inv X ah σ H s)(h:SqT X.K H a xs): ∃b:List O7,bt xs b/\IsTup s.heap a b.toArray/\xs.length<=sizeLine:=by
 rcases h with h|⟨o,b,n,c,d,f,g,r,_⟩
 ·obtain⟨z,b,r,p,_⟩:=h.ok I.hok;exact⟨b,r,p,z⟩
 ·refine⟨b.toList,r,⟨o,I.kIn a o c,d,n,by simpa using f⟩,?_⟩;have e:=r.length;simp only[Py] at e;lia
theorem Inv.tupleN(I:Inv X ah σ H s)(h:SqT X.K H a xs):(∃o,s.heap.get? a=some o/\o.cls=.type "tuple")/\ ∃o,s.heap.get? a=some o/\o.dict=none:=by
 rcases h with h|⟨o,b,n,d,j,l,m,r,g⟩
 ·obtain⟨z,b,r,⟨ob,e,c,_⟩,k,f,i⟩:=h.ok I.hok;exact⟨⟨ob,e,c⟩,k,f,i⟩
 ·exact⟨⟨o,I.kIn a o d,j⟩,o,I.kIn a o d,g⟩
theorem Inv.list_inj(I:Inv X ah σ H s)(h:SqL X.K H a xs)(h':SqL X.K H a ys):xs=ys:=by
 obtain⟨b,r,⟨o,n,e,_,_,d⟩,_⟩:=I.list h;obtain⟨its',f,⟨j,i,c,_,_,d'⟩,_⟩:=I.list h';rw[e] at c;cases c;rw[d] at d';injection d' with g _
 have:b=its':=by simpa using congrArg jaP g
 subst this;exact r.inj f
theorem Inv.tuple_inj(I:Inv X ah σ H s)(h:SqT X.K H a xs)(h':SqT X.K H a ys):xs=ys:=by
 obtain⟨b,r,⟨o,e,_,n,d⟩,_⟩:=I.tuple h;obtain⟨its',f,⟨j,c,_,i,d'⟩,_⟩:=I.tuple h';rw[e] at c;cases c;rw[d] at d';injection d' with g _
 have:b=its':=by simpa using congrArg jaP g
 subst this;exact r.inj f
end
abbrev Cx.wish(X:Cx)(E:O7->O9->Prop):Cx:={X with xe:=E}
abbrev Cx.nox(X:Cx):Cx:=X.wish λ_ _=>False
theorem Cx.Ok.wish {X:Cx}(ok:X.Ok)(E:O7->O9->Prop):(X.wish E).Ok:=
 ⟨ok.mod,ok.kind,ok.glob,ok.blt,ok.above,ok.inj,ok.has,ok.cab,ok.hd,ok.frames,ok.stk,ok.exf,ok.bs,ok.bsz,ok.noex,ok.exfs,ok.funs,ok.frf⟩
theorem Cx.Ok.unwish {X:Cx}(ok:(X.wish E).Ok):X.Ok:=
 ⟨ok.mod,ok.kind,ok.glob,ok.blt,ok.above,ok.inj,ok.has,ok.cab,ok.hd,ok.frames,ok.stk,ok.exf,ok.bs,ok.bsz,ok.noex,ok.exfs,ok.funs,ok.frf⟩
section
variable {X:Cx}{ah:List (Addr×Obj)}{σ:St}{H:Hp}{s:O9}{E:O7->O9->Prop}
theorem Inv.wish(I:Inv X ah σ H s)(E:O7->O9->Prop):Inv (X.wish E) ah σ H s:=⟨I.ok.wish E,I.os,I.bare,I.base,I.loc,I.cell,I.free,I.freeC,I.pin,I.hok,I.len⟩
theorem Inv.unwish(I:Inv (X.wish E) ah σ H s):Inv X ah σ H s:=⟨I.ok.unwish,I.os,I.bare,I.base,I.loc,I.cell,I.free,I.freeC,I.pin,I.hok,I.len⟩
theorem SP.unwish {D:j0}(h:SP (X.wish E) ah D f s'):SP X ah D f s':=by
 cases f with
 |next=>obtain⟨a,b,I,q⟩:=h;exact⟨a,b,I.unwish,q⟩
 |brk=>obtain⟨a,b,I,q⟩:=h;exact⟨a,b,I.unwish,q⟩
 |cont=>obtain⟨a,b,I,q⟩:=h;exact⟨a,b,I.unwish,q⟩
 |ret u=>obtain⟨v,a,b,I,r,q⟩:=h;exact⟨v,a,b,I.unwish,r,q⟩
theorem PSs.nox {st:List Stmt}(h:PSs X.nox st t):PSs X st t:=λa s σ H D I hw=>
 Qj (h a s σ H D (I.wish _) hw) (λ_ _ q=>q.unwish) λ_ _ z=>False.elim z
end
section
variable {X:Cx}{st:Stmt}{rest:List Stmt}{t u:TS}{e:Expr}{te:TE}{pos:Pos}
def MH:TS:=λD σ H=>D.nx σ H
def NJ(t u:TS):TS:=λD σ H=>t {D with nx:=u D} σ H
theorem GV:PSs X [] MH:=λ_ _ σ H _ I h=>UI ⟨σ,H,I,h⟩
theorem C3(g:PS X st t)(e:PSs X rest u):PSs X (st::rest) (NJ t u):=by
 intro b s σ H D I h;refine Yr (bW (g b s σ H {D with nx:=u D} I h) λf c q=>?_);cases f with
 |next=>
  obtain⟨a,i,d,q⟩:=q;exact e b c a i D d q
 |ret v=>exact q
 |brk=>exact q
 |cont=>exact q
theorem GU(a:PS X st t):PSs X [st] t:=by
 intro b s σ H D I h;refine Yr (bW (a b s σ H D I h) λf c q=>?_);cases f with
 |next=>exact UI q
 |ret v=>exact q
 |brk=>exact q
 |cont=>exact q
theorem Inv.quiet{H:Hp}(I:Inv X ah σ H s):interactive X.env=false:=by simp[interactive,I.ok.kind]
def LA(a:TE):TS:=λD σ H=>a σ H λ_ b=>D.nx σ b
theorem Gr(c:PE X e te)(f:SO e none pos.line X.env=pure false:=by rfl):PS X (.Expr e pos) (LA te):=by
 intro a s σ H D I h;exact wpAny_Expr_any (bW (c a s σ H _ I h) λv j ⟨x,g,d,i,b⟩=>⟨σ,g,d,b⟩) I.quiet f
def Nf(a:TE):TS:=λD σ H=>a σ H D.rt
theorem EA(c:PE X e te):PS X (.Return (some e) pos) (Nf te):=by
 intro a s σ H D I h;exact wpAny_Return_some (bW (c a s σ H _ I h) λv i ⟨x,g,d,f,b⟩=>⟨x,σ,g,d,f,b⟩)
def N5(c:TT)(t u:TS):TS:=λD σ H=>c σ H λb a=>if b=true then t D σ a else u D σ a
theorem IU(m:PT X c tc)(l:PSs X a t)(n:PSs X b u):PS X (.If c a b pos) (N5 tc t u):=by
 intro e s σ H D I h;refine wpAny_If (bW (m e s σ H _ I h) λd k f=>?_);obtain⟨j,i,g⟩:=f;cases d with
 |true=>exact l e k σ j D i g
 |false=>exact n e k σ j D i g
end
abbrev TG:=V->St->Hp->(St->Hp->Prop)->Prop
abbrev BP:=List V->St->Hp->(St->Hp->Prop)->Prop
def PG(X:Cx)(a:Expr)(t:TG):Prop:=
 ∀(c:List (Addr×Obj)) (s:O9) (σ:St) (H:Hp) (v:V) (u:O7) (Q:St->Hp->Prop),Inv X c σ H s->bH v u->t v σ H Q->
  Ps (model X.prog X.w) X.A (SQ a X.env u) (λ_ s'=> ∃b d,Inv X c b d s'/\Q b d) X.xe s
def PGs(X:Cx)(d:List Expr)(t:BP):Prop:=
 ∀(b:List (Addr×Obj)) (s:O9) (σ:St) (H:Hp) (vs:List V) (us:List O7) (Q:St->Hp->Prop),Inv X b σ H s->bt vs us->t vs σ H Q->
  Ps (model X.prog X.w) X.A (Z5 ((Q8 d X.env).map (·.2)) us) (λ_ s'=> ∃a c,Inv X b a c s'/\Q a c) X.xe s
abbrev JJ:=V->V->V->Hp->(Hp->Prop)->Prop
def LX(X:Cx)(t:JJ):Prop:=
 ∀(a:List (Addr×Obj)) (s:O9) (σ:St) (H:Hp) (o i v:V) (ov b u:O7) (Q:Hp->Prop),Inv X a σ H s->bH o ov->bH i b->bH v u->t o i v H Q->
  Ps (model X.prog X.w) X.A (setItem ov b u) (λ_ s'=> ∃c,Inv X a σ c s'/\Q c) X.xe s
abbrev MV:=V->V->Hp->VK->Prop
def Nm(X:Cx)(b:Zl)(t:MV):Prop:=
 ∀(a:List (Addr×Obj)) (s:O9) (σ:St) (H:Hp) (x y:V) (v u:O7) (Q:VK),Inv X a σ H s->bH x v->bH y u->t x y H Q->
  Ps (model X.prog X.w) X.A (inplaceOp b v u) (EP X a σ Q) X.xe s
section
variable {X:Cx}{pos:Pos}
def Aa(i:Nat):TG:=λv σ H Q=>Q (σ.set i (some v)) H
theorem Iq {i:Nat}(a:X.N.Nodup)(d:X.N[i]? =some x)(b:EN X.env.scope x)(e:X.fn x=true\/X.env.scope.names.lookup x=some .local:=by first|exact .inl rfl|exact .inr rfl|assumption):PG X (.Name x pos) (Aa i):=by
 intro f s σ H v u Q I r h;exact Vq (qy I a d b r (λs' c=>⟨_,H,c,h⟩) e)
def NX:BP:=λvs σ H Q=>vs=[]/\Q σ H
def Ll(t:TG)(u:BP):BP:=λvs σ H Q=> ∃v r,vs=v::r/\t v σ H λa b=>u r a b Q
theorem Ay:PGs X [] NX:=by
 intro a s σ H vs us Q I r h;obtain⟨e,h⟩:=h;subst e;cases r;exact assignInOrder_nil ⟨σ,H,I,h⟩
theorem xC(k:PG X e t)(i:PGs X es u)
 (j:(Q8 (e::es) X.env).map (·.2)=SQ e X.env::(Q8 es X.env).map (·.2):=by rfl):PGs X (e::es) (Ll t u):=by
 intro c s σ H vs us Q I r h;obtain⟨v,o,n,h⟩:=h;subst n;cases r with
 |cons r l=>
  rw[j];refine assignInOrder_cons (bW (k c s σ H _ _ _ I r h) λ_ g a=>?_);obtain⟨b,f,d,m⟩:=a;exact i c g b f _ _ Q d l m
def NG(K:Pk)(n:Nat)(t:BP):TG:=λv σ H Q=> ∃a xs,v=.ref a/\SqT K H a xs/\xs.length=n/\t xs σ H Q
theorem Er(m:X.calm=true)(h:PGs X es t)
 (l:(Q8 es X.env).length=n:=by rfl) (c:(Q8 es X.env).findIdx? (·.1)=none:=by rfl):PG X (.Tuple es k pos) (NG X.K n t):=by
 intro f s σ H v u Q I r hw;obtain⟨a,xs,x,i,w,hw⟩:=hw;subst x;cases r;obtain⟨q,d,p,y⟩:=I.tuple i;refine assign_Tuple_tuple (I.ok.hd m) p (by simp[l,<-w,d.length]) c λh' j=>?_
 have g:Inv X f σ H {s with heap:=h'}:=I.kept (t':=s.toks) λb o e=>j b o (PX (Pp e)) e
 exact h f _ σ H xs _ Q g (by simpa using d) hw
def NQ(to b:TE)(t:JJ):TG:=λv σ H Q=>to σ H λo c=>b σ c λi d=>t o i v d λa=>Q σ a
theorem Jg(m:PE X o to)(A:PE X i ti)(p:LX X t)
 (l: ∀v,SQ (.Subscript o i pos) X.env v=(do
   let ov <-Tp [v] (eval o X.env)
   let b <-Tp [v,ov] (eval i X.env)
   UV pos
   Tp [v,ov,b] (setItem ov b v)
   release [v,ov,b] []):=by intro _;rfl):PG X (.Subscript o i pos) (NQ to ti t):=by
 intro c s σ H v u Q I r h;rw[l];refine O4 (Qh (bW (m c s σ H _ I h) λov k a=>?_));obtain⟨x,f,e,n,z⟩:=a;refine O4 (Qh (bW (A c k σ f _ e z) λb s2 a=>?_));obtain⟨y,j,w,g,d⟩:=a;refine O4 (RT (O4 (Qh (bW (p c s2 σ j x y v ov b u _ w n g r d) λ_ D a=>?_))));obtain⟨q,B,C⟩:=a;exact wpAny_release ⟨σ,q,B,C⟩
def G1(a:TE)(g:TG):TS:=λD σ H=>a σ H λx b=>g x σ b D.nx
theorem FH(k:PE X e te)(c:PG X tg g)(m:Xn [tg] e pos.line X.env=pure false:=by rfl)(hw:Xo [tg] e X.env=pure none:=by rfl)
 (b:(Q8 [tg] X.env).map (·.2)=[SQ tg X.env]:=by rfl):PS X (.Assign [tg] e pos) (G1 te g):=by
 intro a s σ H D I h;refine wpAny_Assign_stores (bW (k a s σ H _ I h) λv i ⟨x,f,d,l,j⟩=>?_) m hw;rw[b];exact bW (c a i σ f x v _ d l j) λ_ s2 q=>q
theorem vc(a:X.N.Nodup)(l:X.N[i]? =some x)(d:EN X.env.scope x)(k:PE X e te)(n:SO e (some (.Name x pos')) pos.line X.env=pure false:=by rfl)(o:X.fn x=true\/X.env.scope.names.lookup x=some .local:=by first|exact .inl rfl|exact .inr rfl|assumption):
 PS X (.Assign [.Name x pos'] e pos) (G1 te (Aa i)):=by
 intro g s σ H D I h;refine wpAny_Assign_Name (bW (k g s σ H _ I h) λv p ⟨y,f,b,m,j⟩=>?_) n;exact qy b a l d m (λs2 c=>⟨_,f,c,j⟩) o
def On(i:Nat)(b:TE)(a:MV):TS:=λD σ H=> ∃x,σ[i]? =some (some x)/\b σ H λy c=>a x y c λz d=>D.nx (σ.set i (some z)) d
theorem K3(L:X.N.Nodup)(q:X.N[i]? =some x)(j:EN X.env.scope x)(J:PE X e te)(R:Nm X op ti)(W:X.fn x=true\/X.env.scope.names.lookup x=some .local:=by first|exact .inl rfl|exact .inr rfl|assumption):
 PS X (.AugAssign (.Name x pos') op e pos) (On i te ti):=by
 intro o s σ H D I h;obtain⟨v,V,h⟩:=h;obtain⟨m,C,U⟩:=I.loc;have n:wk X.env.scope x:=by rcases j with k|k;exact .inl k;exact .inr (.inl k)
 obtain⟨u,r,l⟩:=U i x v q V n;refine wpAny_AugAssign_Name ?_
 have p:Ps (model X.prog X.w) X.A (eval e X.env) (λw g=>Ps (model X.prog X.w) X.A (inplaceOp op u w) (λr f=>Ps (model X.prog X.w) X.A (storeName X.env x r) (λ_=>SP X o D .next) X.xe f) X.xe g) X.xe s:=by
  refine bW (J o s σ H _ I h) λw P d=>?_
  obtain⟨y,M,B,E,G⟩:=d;refine bW (R o P σ M v y u w _ B r E G) λz s2 d=>?_
  obtain⟨Z,Q,T,O,t⟩:=d;exact qy T L q j O (λY K=>⟨_,Q,K,t⟩) W
 rcases l with⟨a,S⟩|⟨a,c,F,b⟩
 ·exact WI I.ok.kind a C S p
 ·rcases a with a|a
  ·exact W5 I.ok.kind a F b p
  ·rcases j with k|k
   ·have:X.env.scope.names.lookup x=some .free:=a;rw[k] at this;cases this
   ·have:X.env.scope.names.lookup x=some .free:=a;rw[k] at this;cases this
def Ot(f:Int->Int->Int):MV:=λx y H Q=> ∃i j,x=.int i/\y=.int j/\Q (.int (f i j)) H
theorem Ku:Nm X .Add (Ot λi j=>i+j):=by
 intro e s σ H x y v u Q I c b h;obtain⟨i,j,d,a,q⟩:=h;subst d;subst a;obtain⟨t,rfl⟩:=c;obtain⟨t',rfl⟩:=b;exact iadd_int ⟨.int _,H,I.tok _,⟨_,rfl⟩,q⟩
end
section
variable {X:Cx}{pos:Pos}
def J4(c:TT)(g:TS):TS:=λD σ H=> ∃W:Nat->St->Hp->Prop,(∃m,W m σ H)/\ ∀m σ H,W m σ H->
 c σ H λb d=>if b=true then∃N:St->Hp->Prop,(∀a f,N a f-> ∃e,e<m/\W e a f)/\g {D with nx:=N,ct:=N,bk:=D.nx} σ d else D.nx σ d
theorem Fd(B:Ys (model X.prog X.w) X.A X.env X.xe)(J:PT X c tc)(K:PSs X body tb):PS X (.While c body [] pos) (J4 tc tb):=by
 intro q s σ H D I h;obtain⟨W,⟨G,C⟩,turn⟩:=h;refine wpAny_While (codeAny_whileLoop (λn s'=> ∃e z,Inv X q e z s'/\W n e z) ?_ G ⟨σ,H,I,C⟩);rintro n F ⟨d,u,E,L⟩;refine Sy B (bW (J q F d u _ E (turn n d u L)) λb s2 l=>?_);obtain⟨x,y,i⟩:=l;cases b with
 |true=>
  obtain⟨N,t,i⟩:=i;rw[if_pos rfl];refine Sy B (bW (K q s2 d x _ y i) λf M j=>?_);cases f with
  |next=>
   obtain⟨a,g,r,m⟩:=j;obtain⟨k,o,p⟩:=t a g m;exact⟨k,o,a,g,r,p⟩
  |cont=>
   obtain⟨a,g,r,m⟩:=j;obtain⟨k,o,p⟩:=t a g m;exact⟨k,o,a,g,r,p⟩
  |brk=>exact j
  |ret v=>exact j
 |false=>
  rw[if_neg S6];exact UI ⟨d,x,y,i⟩
end
structure It where
 go:Nat->Hp->Prop
 yld:Nat->Hp->V->Hp->Prop
 stop:Nat->Hp->Prop
def jH(X:Cx)(a:List (Addr×Obj))(H:Hp)(b:Addr):Prop:=
 H b=none/\b≠X.env.locals/\b∉X.fs/\(b∈X.ex\/X.s₀.heap.objs.size<=b)/\(∀x c,X.env.cells.lookup x=some c->c≠b)/\ ∀p∈X.pn++a,p.1≠b
theorem Inv.fpOk{H d:Hp}{s:O9}(I:Inv X ah σ H s)(a:s.heap.objs.size<=b)(f:d b=none):jH X ah d b:=by
 refine⟨f,RF (Pn I.lt a),I.nofs a,.inr (P8 I.sz a),λx c e z=>?_,λp g z=>?_⟩
 ·obtain⟨v,q⟩:=I.cell x c e;exact absurd (Pn q.lt (by rw[z];exact a)) (SG _)
 ·exact absurd (Pn (Pp (I.pin p g).1) (by rw[z];exact a)) (SG _)
structure iT(P:Qc)(w:Qv)(K:Pk)(tg:Expr)(J:It)(fp:List Addr)(it:Addr)(tn:Nat->Heap->Prop):Prop where
 mem:it∈fp
 obj: ∀i h,tn i h-> ∀b∈fp,∃o,h.get? b=some o/\ ∀v,o.data≠ .cell v
 keep: ∀i h h',tn i h->(∀b∈fp,∀o,h.get? b=some o->h'.get? b=some o)->tn i h'
 item: ∀(X:Cx),X.prog=P->X.w=w->X.K=K->X.calm=true-> ∀(i:Nat) (ah:List (Addr×Obj)) (s:O9) (σ:St) (H:Hp) (E:O7->O9->Prop),Inv X ah σ H s->(∀b∈fp,jH X ah H b)->tn i s.heap->J.go i H->
  Ps (model P w) X.A (Ts (.ref it)) (λr s1=> ∃u,r=some u/\
   Ps (model P w) X.A (Sz tg (.ref it) u) (λ_ s2=> ∃x H',Inv X ah σ H' s2/\bH x u/\J.yld i H x H'/\tn (i+1) s2.heap/\ ∀b∈fp,H' b=none) E s1) E s
 done: ∀(X:Cx),X.prog=P->X.w=w->X.K=K->X.calm=true-> ∀(i:Nat) (ah:List (Addr×Obj)) (s:O9) (σ:St) (H:Hp) (E:O7->O9->Prop),Inv X ah σ H s->(∀b∈fp,jH X ah H b)->tn i s.heap->J.stop i H->
  Ps (model P w) X.A (Ts (.ref it)) (λr s1=>r=none/\Inv X ah σ H s1) E s
 self: ∀(A:Qe) (i:Nat) (s:O9) (Q:O7->O9->Prop) (E:O7->O9->Prop),tn i s.heap->Q (.ref it) s->Ps (model P w) A (Wa (.ref it)) Q E s
abbrev TI:=St->Hp->(It->Hp->Prop)->Prop
def Ov(X:Cx)(e:List (Addr×Obj))(σ:St)(f:Expr)(R:It->Hp->Prop)(a:O7)(s2:O9):Prop:=
 ∃(it:Addr) (fp:List Addr) (d:Nat->Heap->Prop) (J:It) (c:Hp),a=.ref it/\Inv X e σ c s2/\iT X.prog X.w X.K f J fp it d/\d 0 s2.heap/\(∀b∈fp,jH X e c b)/\R J c
def PI(X:Cx)(d a:Expr)(c:TI):Prop:=
 ∀(b:List (Addr×Obj)) (s:O9) (σ:St) (H:Hp) (R:It->Hp->Prop),Inv X b σ H s->c σ H R->
  Ps (model X.prog X.w) X.A (eval a X.env) (λv e=>Ps (model X.prog X.w) X.A (Wa v) (Ov X b σ d R) X.xe e) X.xe s
theorem Dz{s:O9}{o:Obj}{n:String}(d:s.heap.get? it=some o)(e:o.cls=.type n)(b:o.data=.fields vs)
 (c:["enumerate","zip","dict_itemiterator","dict_reverseitemiterator","odict_iterator","itertools.zip_longest","itertools.pairwise"].contains n=false) (a:Q () s):Ps M A (Sz tg (.ref it) u) Q E s:=by
 unfold Sz;cases tg<;>first
  |exact O8 a
  |(cases u<;>first
     |exact O8 a
     |(refine O4 (Zm d ?_)
       rw[e,b];show Ps M A (if(["enumerate","zip","dict_itemiterator","dict_reverseitemiterator","odict_iterator","itertools.zip_longest","itertools.pairwise"].contains n&&vs[0]? ==some (T5 _))=true then _ else _) Q E s;rw[if_neg (by intro h;rw[c,Rq] at h;cases h)]
       exact O8 a))
def NC(K:Pk)(a:Addr):It:=
 ⟨λi H=> ∃xs x,SqL K H a xs/\xs[i]? =some x,λi H x b=>b=H/\ ∀xs,SqL K H a xs->xs[i]? =some x,λi H=> ∃xs,SqL K H a xs/\xs.length<=i⟩
def Nx(K:Pk)(a:Addr):It:=
 ⟨λi H=> ∃xs x,SqT K H a xs/\xs[i]? =some x,λi H x b=>b=H/\ ∀xs,SqT K H a xs->xs[i]? =some x,λi H=> ∃xs,SqT K H a xs/\xs.length<=i⟩
def MU(a:Int)(n:Nat):It:=⟨λi _=>i<n,λi H x b=>b=H/\x=.int (a+i),λi _=>n<=i⟩
theorem Bx{K:Pk}(a it:Addr):iT P w K tg (NC K a) [it] it (λi h=>h.IsListIter it a i) where
 mem:=by simp
 obj:=λi h st b f=>by
  have e:b=it:=by simpa using f
  subst e;obtain⟨o,e,c,d⟩:=st;exact⟨o,e,λv z=>by rw[d] at z;cases z⟩
 keep:=λi h h' st k=>st.at λo e=>k it (by simp) o e
 item:=by
  intro X n hw m G i J s σ H E I l st q;subst n hw m;obtain⟨xs,x,j,t⟩:=q;obtain⟨D,B,p,T⟩:=I.list j;obtain⟨u,N,S⟩:=B.get t;obtain⟨C,A,R,y,F,r⟩:=l it (by simp);refine Wb st p.isList (x:=u) (by simpa using N) λh' g M=>?_
  have L:Inv X J σ H {s with heap:=h'}:=I.turned (t':=s.toks) (λb o f e=>(M.2 b f).trans e) C A y F r;obtain⟨o,e,c,d⟩:=id g;exact⟨u,rfl,Dz (s:={s with heap:=h'}) e c d (by decide) ⟨x,H,L,S,⟨rfl,λys Q=>by rw[I.list_inj Q j];exact t⟩,g,λb f=>(l b f).1⟩⟩
 done:=by
  intro X n hw m G i J s σ H E I l st q;subst n hw m;obtain⟨xs,j,t⟩:=q;obtain⟨D,B,p,T⟩:=I.list j;obtain⟨C,A,R,y,F,r⟩:=l it (by simp);have U:=B.length;exact Wx (I.ok.hd G) st p.isList (by simp;lia) λh' O=>⟨rfl,I.turned (t':=s.toks) (λb o f e=>O b o f e) C A y F r⟩
 self:=λ_ _ _ _ _ st h=>wpAny_pyIter_listiter st h
theorem y6{K:Pk}(a it:Addr):iT P w K tg (Nx K a) [it] it (λi h=>h.IsTupleIter it a i) where
 mem:=by simp
 obj:=λi h st b g=>by
  have e:b=it:=by simpa using g
  subst e;obtain⟨o,e,c,d⟩:=st;exact⟨o,e,λv z=>by rw[d] at z;cases z⟩
 keep:=λi h h' st k=>st.at λo e=>k it (by simp) o e
 item:=by
  intro X q hw n G i J s σ H E I m st r;subst q hw n;obtain⟨xs,x,l,y⟩:=r;obtain⟨f,C,p,T⟩:=I.tuple l;obtain⟨u,N,S⟩:=C.get y;obtain⟨D,B,R,A,F,t⟩:=m it (by simp);refine wpAny_pyNext_tuple_item st (show s.heap.IsTuple a f.toArray from p) (x:=u) (by simpa using N) λh' j M=>?_
  have L:Inv X J σ H {s with heap:=h'}:=I.turned (t':=s.toks) (λb o g e=>(M.2 b g).trans e) D B A F t;obtain⟨o,e,c,d⟩:=id j;exact⟨u,rfl,Dz (s:={s with heap:=h'}) e c d (by decide) ⟨x,H,L,S,⟨rfl,λys Q=>by rw[I.tuple_inj Q l];exact y⟩,j,λb g=>(m b g).1⟩⟩
 done:=by
  intro X q hw n G i J s σ H E I m st r;subst q hw n;obtain⟨xs,l,y⟩:=r;obtain⟨f,C,p,T⟩:=I.tuple l;obtain⟨D,B,R,A,F,t⟩:=m it (by simp);have U:=C.length;exact wpAny_pyNext_tuple_end (I.ok.hd G) st (show s.heap.IsTuple a f.toArray from p) (by simp;lia) λh' O=>⟨rfl,I.turned (t':=s.toks) (λb o g e=>O b o g e) D B A F t⟩
 self:=λ_ _ _ _ _ st h=>wpAny_pyIter_tupleiter st h
theorem zx{K:Pk}(it:Addr)(d:Int)(n:Nat):iT P w K tg (MU d n) [it] it (λi h=>IsRangeIter h it (d+(i:Nat)*1) ((n:Int) - (i:Nat)) 1) where
 mem:=by simp
 obj:=λi h st b a=>by
  have e:b=it:=by simpa using a
  subst e;exact⟨_,st,λv z=>by
   have C:Data.fields _=Data.cell v:=z
   cases C⟩
 keep:=λi h h' st k=>k it (by simp) _ st
 item:=by
  intro X j hw g u i y s σ H E I f st l;subst j hw g;obtain⟨r,q,F,p,x,m⟩:=f it (by simp);have W:=Walks.range (prog:=X.prog) (w:=X.w) (I.ok.hd u) it d 1 n;refine W.item i s _ _ l st λv h' tk hv c D=>?_
  obtain⟨t,rfl⟩:=hv;have A:Inv X y σ H {s with heap:=h',toks:=tk}:=I.turned (λb o a e=>D b o (by simpa using a) e) r q p x m;refine⟨_,rfl,Dz (s:={s with heap:=h',toks:=tk}) (n:="range_iterator") c rfl rfl (by decide) ⟨.int (d+i),H,A,⟨t,?_⟩,⟨rfl,rfl⟩,c,λb a=>(f b a).1⟩⟩;rw[Int.mul_one]
 done:=by
  intro X j hw g u i y s σ H E I f st l;subst j hw g;obtain⟨r,q,F,p,x,m⟩:=f it (by simp);exact wpAny_pyNext_range_end (I.ok.hd u) st (by have:n<=i:=l;lia) λh' B=>⟨rfl,I.turned (t':=s.toks) (λb o a e=>B b o a e) r q p x m⟩
 self:=λ_ _ _ _ _ st h=>wpAny_pyIter_rangeiter st h
section
variable {X:Cx}{tg:Expr}
def Lk(K:Pk)(c:TE):TI:=λσ H R=>c σ H λx b=> ∃a,x=.ref a/\(∃xs,SqL K b a xs)/\R (NC K a) b
def Og(K:Pk)(c:TE):TI:=λσ H R=>c σ H λx b=> ∃a,x=.ref a/\(∃xs,SqT K b a xs)/\R (Nx K a) b
theorem zR(m:PE X l tl):PI X tg l (Lk X.K tl):=by
 intro r s σ H R I h;refine bW (m r s σ H _ I h) λv d f=>?_
 obtain⟨x,i,c,j,t⟩:=f;obtain⟨a,e,⟨xs,g⟩,q⟩:=t;subst e;cases j;obtain⟨k,u,p,w⟩:=c.list g;refine T6 p.isList ?_
 refine⟨d.heap.objs.size,[d.heap.objs.size],_,_,i,rfl,c.kept (t':=d.toks) λb o e=>Pa _ e,Bx a _,⟨_,Pl _ rfl,rfl,rfl⟩,λb n=>?_,q⟩;have e:b=d.heap.objs.size:=by simpa using n
 subst e;exact c.fpOk (Ph _) (c.hok.fresh (Ph _))
theorem KD(m:PE X l tl):PI X tg l (Og X.K tl):=by
 intro r s σ H R I h;refine bW (m r s σ H _ I h) λv c f=>?_
 obtain⟨x,j,d,k,t⟩:=f;obtain⟨a,e,⟨xs,i⟩,q⟩:=t;subst e;cases k;obtain⟨g,u,p,w⟩:=d.tuple i;refine TQ (show c.heap.IsTuple a g.toArray from p) ?_
 refine⟨c.heap.objs.size,[c.heap.objs.size],_,_,j,rfl,d.kept (t':=c.toks) λb o e=>Pa _ e,y6 a _,⟨_,Pl _ rfl,rfl,rfl⟩,λb n=>?_,q⟩;have e:b=c.heap.objs.size:=by simpa using n
 subst e;exact d.fpOk (Ph _) (d.hok.fresh (Ph _))
theorem C5{s:O9}{a c:Int}{tk:Nat}(I:Inv X ah σ H s)(f: -(2^62)<=a)(g:a<2^62)(l: -(2^62)<=c)(k:c<2^62)
 (q:R (MU a (c-a).toNat) H):Ps (model X.prog X.w) X.A (Wa (.ref s.heap.objs.size)) (Ov X ah σ tg R) E {s with heap:=s.heap.push {cls:=.type "range",data:=.fields #[.int a t,.int c u,.int 1 v]},toks:=tk}:=by
 refine wpAny_pyIter_range (IsRange.new ..) (small_one f g l k) ?_
 have d:Inv X ah σ H {s with heap:=s.heap.push {cls:=.type "range",data:=.fields #[.int a t,.int c u,.int 1 v]},toks:=tk}:=I.kept λb o e=>Pa _ e
 refine⟨(s.heap.push {cls:=.type "range",data:=.fields #[.int a t,.int c u,.int 1 v]}).objs.size,[(s.heap.push {cls:=.type "range",data:=.fields #[.int a t,.int c u,.int 1 v]}).objs.size],_,_,H,rfl,
  d.kept (t':=tk) λb o e=>Pa _ e,zx _ a (c-a).toNat,?_,λb j=>?_,q⟩
 ·have i:a+((0:Nat):Int)*1=a:=by simp
  have h:(((c-a).toNat:Nat):Int) - ((0:Nat):Int)=TV a c 1:=by rw[rangeSize_one];split<;>lia
  show IsRangeIter _ _ (a+((0:Nat):Int)*1) ((((c-a).toNat:Nat):Int) - ((0:Nat):Int)) 1;rw[i,h];exact Pl _ rfl
 ·have e:b=(s.heap.push {cls:=.type "range",data:=.fields #[.int a t,.int c u,.int 1 v]}).objs.size:=by simpa using j
  subst e;exact d.fpOk (Ph _) (d.hok.fresh (Ph _))
def LJ(a:TA):TI:=λσ H R=>a σ H λvs b=> ∃j:Int,vs=[.int j]/\ -(2^62)<=j/\j<2^62/\R (MU 0 j.toNat) b
theorem tI{p b:Pos}(f:Gl X "range")(o:X.mg "range"=none)(l:PA X [a] ta)(n:Pv [a] X.env=[(false,eval a X.env)]:=by rfl):PI X tg (.Call (.Name "range" p) [a] [] b) (LJ ta):=by
 intro k s σ H R I h;refine Call_ (qW I f o boot_range (Ti (bW (l b k s σ H _ I h) λus v ⟨vs,u,g,m,c⟩=>?_) n rfl));obtain⟨j,e,c,d,q⟩:=c;subst e;cases m with
 |cons r i=>
  cases i;obtain⟨t,rfl⟩:=r;exact call_range_1 (C5 g (by lia) (by lia) c d (by simpa using q))
def NL(e:TI)(g:TG)(j:TS):TS:=λD σ H=>e σ H λJ h=> ∃W:Nat->Nat->St->Hp->Prop,(∃m,W 0 m σ h)/\ ∀i m σ H,W i m σ H->
 (J.stop i H/\D.nx σ H)\/(J.go i H/\ ∃N:St->Hp->Prop,(∀a b,N a b-> ∃d,d<m/\W (i+1) d a b)/\ ∀x b,J.yld i H x b->g x σ b λc f=>j {D with nx:=N,ct:=N,bk:=D.nx} c f)
def l5(fp:List Addr)(h:Heap):List (Addr×Obj):=fp.filterMap λb=>(h.get? b).map λo=>(b,o)
theorem dh{h:Heap}{b:Addr}(a:b∈fp)(e:h.get? b=some o):(b,o)∈l5 fp h:=U6.mpr ⟨b,a,by rw[e];rfl⟩
theorem CA{h:Heap}{p:Addr×Obj}(d:p∈l5 fp h):p.1∈fp/\h.get? p.1=some p.2:=by
 obtain⟨b,c,e⟩:=U6.mp d;cases q:h.get? b with
 |none=>rw[q] at e;cases e
 |some o=>
  rw[q] at e;have a:(b,o)=p:=Qi e;subst a;exact⟨c,q⟩
theorem Inv.pinned{s:O9}(I:Inv X ah σ H s)(i: ∀b∈fp,jH X ah H b)(f: ∀b∈fp,∃o,s.heap.get? b=some o/\ ∀v,o.data≠ .cell v):Inv X (ah++l5 fp s.heap) σ H s:=
 I.pins_of λp k=>(QA.mp k).elim (λz=>I.pin p (PU _ z)) λz=>by
  obtain⟨c,e⟩:=CA z;obtain⟨h,g,j,_⟩:=i p.1 c;obtain⟨o,a,d⟩:=f p.1 c;rw[e] at a;cases a;exact⟨e,h,g,j,d⟩
theorem Inv.unpinned {a c:List (Addr×Obj)}{H:Hp}(I:Inv X (a++c) σ H s):Inv X a σ H s:=I.pins_of λp b=>I.pin p (PU _ (QV _ b))
theorem Jp {p:Expr}(O:Ys (model X.prog X.w) X.A X.env X.xe)(hc:X.calm=true)(hi:PI X tg p wi)(hg:PG X tg g)(t:PSs X body tb)
 (hs: ∀x,QO p X.env x=pure x:=by intro _;rfl):PS X (.For tg p body [] pos) (NL wi g tb):=by
 intro E s σ H D I h;refine wpAny_For (bW (hi E s σ H _ I h) λv s1 h1=>bW h1 λitv s2 h2=>?_) hs;obtain⟨it,fp,tn,J,H2,e,I2,T,Q,f2,W,⟨m0,w0⟩,turn⟩:=h2;subst e;have y: ∀ {z:Hp},(∀b∈fp,z b=none)-> ∀b∈fp,jH X E z b:=λhn b t=>⟨hn b t,(f2 b t).2⟩
 refine codeAny_forLoop_any (λn s'=> ∃i q z,Inv X E q z s'/\tn i s'.heap/\(∀b∈fp,z b=none)/\W i n q z) ?_ m0 ⟨0,σ,H2,I2,Q,λb t=>(f2 b t).1,w0⟩;rintro n Z ⟨i,j,P,I3,K,M,w3⟩;rcases turn i n j P w3 with⟨F,qn⟩|⟨go,N,hN,G⟩
 ·refine Sy O (bW (T.done X rfl rfl rfl hc i E Z j P X.xe I3 (y M) K F) λr s4 c=>?_);obtain⟨Y,I4⟩:=c;subst Y;exact UI ⟨j,P,I4,qn⟩
 ·refine Sy O (bW (T.item X rfl rfl rfl hc i E Z j P X.xe I3 (y M) K go) λr s4 c=>?_);obtain⟨u,Y,h4⟩:=c;subst Y;refine Sy O (bW h4 λ_ s5 c=>?_);obtain⟨x,H5,I5,r5,y5,C,U⟩:=c;have R:=I5.pinned (y U) (T.obj _ _ C);refine Sy O (bW (hg _ s5 j H5 x u _ R r5 (G x H5 y5)) λ_ s6 c=>?_);obtain⟨V,H6,I6,q6⟩:=c;refine Sy O (bW (t _ s6 V H6 _ I6 q6) λf S B=>?_);have WJ: ∀ {a:St} {k:Hp},Inv X (E++l5 fp s5.heap) a k S->N a k-> ∃m,m<n/\ ∃i q z,Inv X E q z S/\tn i S.heap/\(∀b∈fp,z b=none)/\W i m q z:=λ{a k} l L=>by
   obtain⟨m',hm,w7⟩:=hN a k L;refine⟨m',hm,i+1,a,k,l.unpinned,T.keep _ _ _ C λb t o e=>(l.pin (b,o) (PU _ (PU _ (dh t e)))).1,λb t=>?_,w7⟩;obtain⟨o,e,d⟩:=T.obj _ _ C b t;exact(l.pin (b,o) (PU _ (PU _ (dh t e)))).2.1
  cases f with
  |next=>obtain⟨a,k,l,L⟩:=B;exact WJ l L
  |cont=>obtain⟨a,k,l,L⟩:=B;exact WJ l L
  |brk=>obtain⟨a,k,l,B⟩:=B;exact⟨a,k,l.unpinned,B⟩
  |ret v=>obtain⟨x7,a,k,l,r7,B⟩:=B;exact⟨x7,a,k,l.unpinned,r7,B⟩
end
abbrev R2:=V->V->Hp->VK->Prop
def lu(X:Cx)(f:O7->O7->Sem O7)(r:R2):Prop:=
 ∀(a:List (Addr×Obj)) (s:O9) (σ:St) (H:Hp) (x y:V) (v u:O7) (Q:VK),Inv X a σ H s->bH x v->bH y u->r x y H Q->
  Ps (model X.prog X.w) X.A (f v u) (EP X a σ Q) X.xe s
def Oh(X:Cx)(f:O7->Sem O7)(r:V->Hp->VK->Prop):Prop:=
 ∀(a:List (Addr×Obj)) (s:O9) (σ:St) (H:Hp) (x:V) (v:O7) (Q:VK),Inv X a σ H s->bH x v->r x H Q->
  Ps (model X.prog X.w) X.A (f v) (EP X a σ Q) X.xe s
def dI(X:Cx)(f:O7)(r:List V->Hp->VK->Prop):Prop:=
 ∀(a:List (Addr×Obj)) (s:O9) (σ:St) (H:Hp) (xs:List V) (us:List O7) (Q:VK),Inv X a σ H s->bt xs us->r xs H Q->
  Ps (model X.prog X.w) X.A (call f us) (EP X a σ Q) X.xe s
def NY(X:Cx)(r:V->Hp->(Bool->Hp->Prop)->Prop):Prop:=
 ∀(a:List (Addr×Obj)) (s:O9) (σ:St) (H:Hp) (x:V) (v:O7) (Q:Bool->Hp->Prop),Inv X a σ H s->bH x v->r x H Q->
  Ps (model X.prog X.w) X.A (truthy v) (TP X a σ Q) X.xe s
def Lc(r:R2)(a d:TE):TE:=λσ H Q=>a σ H λx b=>d σ b λy c=>r x y c Q
def OW(r:V->Hp->VK->Prop)(a:TE):TE:=λσ H Q=>a σ H λx b=>r x b Q
def rI(C:Int->Int->Prop)(g:Int->Int->V):R2:=λx y H Q=> ∃i j,x=.int i/\y=.int j/\C i j/\Q (g i j) H
def GI(g:Int->Int->V):R2:=λx y H Q=> ∃i j,x=.int i/\y=.int j/\Q (g i j) H
def rU(g:Int->V):V->Hp->VK->Prop:=λx H Q=> ∃i,x=.int i/\Q (g i) H
section
variable {X:Cx}{a b c:Expr}{ta tb tc:TE}{pos:Pos}
theorem Kk(q:PE X a ta)(m:PE X b tb){H:Hp}{R:V->V->Hp->Prop}(I:Inv X ah σ H s)
 (h:ta σ H λx i=>tb σ i λy d=>R x y d) {f:O7->O7->Sem O7}
 (t: ∀v u s2 x y d,Inv X ah σ d s2->bH x v->bH y u->R x y d->Ps (model X.prog X.w) X.A (f v u) Q X.xe s2):
 Ps (model X.prog X.w) X.A (eval a X.env) (λv e=>Ps (model X.prog X.w) X.A (eval b X.env) (λu g=>Ps (model X.prog X.w) X.A (f v u) Q X.xe g) X.xe e) X.xe s:=by
 refine bW (q ah s σ H _ I h) λv n c=>?_
 obtain⟨x,i,k,r,p⟩:=c;refine bW (m ah n σ i _ k p) λu s2 c=>?_
 obtain⟨y,d,l,o,j⟩:=c;exact t v u s2 x y d l r o j
theorem Iu(e:lu X (Tx op) r)(d:PE X a ta)(j:PE X b tb):PE X (.BinOp a op b pos) (Lc r ta tb):=by
 intro k s σ H Q I h;exact wpAny_BinOp (Kk d j I h λv u s2 x y c g i f q=>e k s2 σ c x y v u Q g i f q)
theorem Me(f:Oh X (unaryOp op) r)(e:PE X a ta):PE X (.UnaryOp op a pos) (OW r ta):=by
 intro b s σ H Q I h;exact UnaryOp_ (bW (e b s σ H _ I h) λv j ⟨x,i,d,g,c⟩=>f b j σ i x v Q d g c)
theorem MY{g:Int->Int->Int}
 (a: ∀(i j:Int) (t u:Tok) (s:O9) (Q:O7->O9->Prop) (E:O7->O9->Prop),C i j->Q (.int (g i j) s.toks) {s with toks:=s.toks+1}->Ps (model X.prog X.w) X.A (f (.int i t) (.int j u)) Q E s):
 lu X f (rI C λi j=>.int (g i j)):=by
 intro e s σ H x y v u Q I d c h;obtain⟨i,j,rfl,rfl,b,q⟩:=h;obtain⟨t,rfl⟩:=d;obtain⟨t',rfl⟩:=c;exact a i j t t' s _ _ b ⟨.int (g i j),H,I.tok _,⟨_,rfl⟩,q⟩
theorem Lu{g:Int->Int->Int}
 (a: ∀(i j:Int) (t u:Tok) (s:O9) (Q:O7->O9->Prop) (E:O7->O9->Prop),Q (.int (g i j) s.toks) {s with toks:=s.toks+1}->Ps (model X.prog X.w) X.A (f (.int i t) (.int j u)) Q E s):
 lu X f (GI λi j=>.int (g i j)):=by
 intro d s σ H x y v u Q I c b h;obtain⟨i,j,rfl,rfl,q⟩:=h;obtain⟨t,rfl⟩:=c;obtain⟨t',rfl⟩:=b;exact a i j t t' s _ _ ⟨.int (g i j),H,I.tok _,⟨_,rfl⟩,q⟩
theorem K4{g:Int->Int->Bool}
 (a: ∀(i j:Int) (t u:Tok) (s:O9) (Q:O7->O9->Prop) (E:O7->O9->Prop),Q (.bool (g i j)) s->Ps (model X.prog X.w) X.A (f (.int i t) (.int j u)) Q E s):
 lu X f (GI λi j=>.bl (g i j)):=by
 intro d s σ H x y v u Q I c b h;obtain⟨i,j,rfl,rfl,q⟩:=h;obtain⟨t,rfl⟩:=c;obtain⟨t',rfl⟩:=b;exact a i j t t' s _ _ ⟨.bl (g i j),H,I,rfl,q⟩
def MD(i j:Int):Prop:=0<=j/\j<=1000000/\i.natAbs<2^64
theorem Jk:lu X (Tx .Add) (GI λi j=>.int (i+j)):=Lu λ_ _ _ _ _ _ _ q=>add_int q
theorem JA:lu X (Tx .Sub) (GI λi j=>.int (i-j)):=Lu λ_ _ _ _ _ _ _ q=>sub_int q
theorem JF:lu X (Tx .Mod) (rI (λ_ j=>0<j) λi j=>.int (i % j)):=MY λi j _ _ _ _ _ a q=>by
 have b:(0:Int)<j:=a;exact mod_int' (by lia) (by rw[Int.fmod_eq_emod_of_nonneg i (by lia)];exact q)
theorem JZ:lu X (Tx .Pow) (rI MD λi j=>.int (i^j.toNat)):=MY λ_ _ _ _ _ _ _ a q=>pow_int_small a.1 a.2.1 a.2.2 q
theorem OP{g:Int->Int}
 (a: ∀(i:Int) (t:Tok) (s:O9) (Q:O7->O9->Prop) (E:O7->O9->Prop),Q (.int (g i) s.toks) {s with toks:=s.toks+1}->Ps (model X.prog X.w) X.A (f (.int i t)) Q E s):
 Oh X f (rU λi=>.int (g i)):=by
 intro c s σ H x v Q I b h;obtain⟨i,rfl,q⟩:=h;obtain⟨t,rfl⟩:=b;exact a i t s _ _ ⟨.int (g i),H,I.tok _,⟨_,rfl⟩,q⟩
theorem Kr:Oh X (unaryOp .USub) (rU λi=>.int (-i)):=OP λ_ _ _ _ _ q=>neg_int q
end
section
variable {X:Cx}{a b c:Expr}{ta tb tc:TE}{pos:Pos}
theorem xa:lu X (Rg .Lt) (GI λi j=>.bl (decide (i<j))):=K4 λ_ _ _ _ _ _ _ q=>lt_int q
theorem Iw:lu X (Rg .LtE) (GI λi j=>.bl (decide (i<=j))):=K4 λ_ _ _ _ _ _ _ q=>le_int q
theorem Lp:lu X (Rg .GtE) (GI λi j=>.bl (decide (j<=i))):=K4 λ_ _ _ _ _ _ _ q=>ge_int q
theorem cy(b:Expr)(h:op≠ .In:=by decide)(a:op≠ .NotIn:=by decide):SH op b=false:=by
 have d:(op==CmpOp.In)=false:=by cases op<;>first|rfl|exact absurd rfl h
 have c:(op==CmpOp.NotIn)=false:=by cases op<;>first|rfl|exact absurd rfl a
 cases b<;>simp[SH,d,c]
theorem G6(e:lu X (Rg op) r)(d:PE X a ta)(k:PE X b tb)(g:SH op b=false):PE X (.Compare a [op] [b] pos) (Lc r ta tb):=by
 intro l s σ H Q I h;exact wpAny_Compare1 (Kk d k I h λv u s2 x y c i j f q=>e l s2 σ c x y v u Q i j f q) g
def IZ(t:TE):TT:=λσ H Q=>t σ H λx a=> ∃k,x=.bl k/\Q k a
theorem HL(o:lu X (Rg op) r)(n:PE X a ta)(B:PE X b tb)(q:SH op b=false):PT X (.Compare a [op] [b] pos) (IZ (Lc r ta tb)):=by
 intro d s σ H Q I h;refine Ww (bW (n d s σ H _ I h) λv m ⟨x,i,g,p,C⟩=>bW (B d m σ i _ g C) λu s2 ⟨y,l,A,j,f⟩=>
  bW (o d s2 σ l x y v u _ A p j f) λc F ⟨z,w,D,t,k,e,E⟩=>?_) q
 subst e;cases t;exact Q1 ⟨w,D,E⟩
def yF(r i:R2)(g f e:TE):TE:=λσ H Q=>g σ H λx c=>f σ c λy d=>r x y d λz a=> ∃k,z=.bl k/\
 (if k=true then e σ a λh b=>i y h b Q else Q (.bl false) a)
theorem DH(M:lu X (Rg op) r)(g:lu X (Rg op') r')(q:PE X a ta)(S:PE X b tb)(t:PE X c tc)
 (N:Yt [op,op'] [b,c]=false:=by with_unfolding_all rfl):PE X (.Compare a [op,op'] [b,c] pos) (yF r r' ta tb tc):=by
 intro f s σ H Q I h;refine Compare_chain (bW (q f s σ H _ I h) λv K ⟨x,G,o,w,E⟩=>chain_link (bW (S f K σ G _ o E) λu s2 ⟨y,J,P,j,n⟩=>
  bW (M f s2 σ J x y v u _ P w j n) λd p ⟨z,l,i,B,k,e,m⟩=>?_)) N
 subst e;cases B;refine Q1 ?_
 cases k with
 |false=>exact ite_ff ⟨.bl false,l,i,rfl,m⟩
 |true=>exact ite_tt (chain_last (bW (t f p σ l _ i m) λA F ⟨O,C,D,L,R⟩=>g f F σ C y O u A Q D j L R))
theorem D9(S:lu X (Rg op) r)(g:lu X (Rg op') r')(t:PE X a ta)(hb:PE X b tb)(w:PE X c tc)
 (T:Yt [op,op'] [b,c]=false:=by with_unfolding_all rfl):PT X (.Compare a [op,op'] [b,c] pos) (IZ (yF r r' ta tb tc)):=by
 intro f s σ H Q I h;refine isTrue_chain (bW (t f s σ H _ I h) λv N ⟨x,L,p,A,F⟩=>test_link (bW (hb f N σ L _ p F) λu s2 ⟨y,M,Y,l,o⟩=>
  bW (S f s2 σ M x y v u _ Y A l o) λd q ⟨z,m,j,C,k,e,n⟩=>?_)) T
 subst e;cases C;refine Q1 ?_
 cases k with
 |false=>
  obtain⟨k',U,V⟩:=n;cases U;exact ite_ff ⟨m,j,V⟩
 |true=>
  refine ite_tt (test_last (bW (w f q σ m _ j n) λB J ⟨W,D,E,R,Z⟩=>bW (g f J σ D y W u B _ E l R Z) λd' s5 i=>?_));obtain⟨z2,P,G,r5,k2,K,O⟩:=i;subst K;cases r5;exact Q1 ⟨P,G,O⟩
def J2(K:Pk)(x:V)(H:Hp)(k:Bool):Prop:=
 match x with
 | .non=>k=false
 | .bl b=>k=b
 | .int i=>k=(i !=0)
 | .str y=>y.length<=PN/\k=((y.length:Int) !=0)
 | .byt y=>y.size<=PN/\k=((y.size:Int) !=0)
 | .ref p=>(∃xs,SqL K H p xs/\k= !xs.isEmpty)\/(∃xs,SqT K H p xs/\k= !xs.isEmpty)\/ ∃a,H p=some (.dK a)/\k= !a.isEmpty
 |_=>False
theorem yP {κ:Type}{a:List (κ×V)}{vs:List (κ×O7)}(r:KV a vs):(!vs.isEmpty)= !a.isEmpty:=by
 cases r<;>rfl
theorem p7 {xs:List V}{a:List O7}(r:bt xs a):(!a.toArray.isEmpty)= !xs.isEmpty:=by
 cases r<;>simp
theorem mr:(PN:Nat)<2^63:=by rw[QU];decide
theorem Kt:NY X (λx H Q=> ∃k,J2 X.K x H k/\Q k H):=by
 intro B s σ H x v Q I f h;obtain⟨k,e,q⟩:=h;have A:=mr;have z:PN=16777216:=QU;cases x with
 |non=>
  cases f;have a:k=false:=e;subst a;exact truthy_none ⟨H,I,q⟩
 |bl b=>
  cases f;have a:k=b:=e;subst a;exact Q1 ⟨H,I,q⟩
 |int i=>
  obtain⟨t,rfl⟩:=f;have a:k=(i !=0):=e;subst a;exact PySem.P.truthy_int ⟨H,I,q⟩
 |str y=>
  obtain⟨t,rfl⟩:=f;obtain⟨u,a⟩:y.length<=PN/\k=((y.length:Int) !=0):=e;subst a;exact PySem.P.truthy_str (by lia) ⟨H,I.tok _,q⟩
 |byt y=>
  obtain⟨t,rfl⟩:=f;obtain⟨u,a⟩:y.size<=PN/\k=((y.size:Int) !=0):=e;subst a;exact W.truthy_bytes (by lia) ⟨H,I.tok _,q⟩
 |ref p=>
  cases f;have a:(∃xs,SqL X.K H p xs/\k= !xs.isEmpty)\/(∃xs,SqT X.K H p xs/\k= !xs.isEmpty)\/ ∃c,H p=some (.dK c)/\k= !c.isEmpty:=e
  rcases a with⟨xs,g,a⟩|⟨xs,g,a⟩|⟨c,g,a⟩
  ·subst a;obtain⟨j,r,l,n⟩:=I.list g;have d:=r.length;exact wpAny_truthy_list l.isList (by simp only[PK];lia) ⟨H,I.tok _,by rw[p7 r];exact q⟩
  ·subst a;obtain⟨j,r,l,n⟩:=I.tuple g;have d:=r.length;exact truthy_tuple l (by simp only[PK];lia) ⟨H,I.tok _,by rw[p7 r];exact q⟩
  ·subst a;obtain⟨n,o,vs,r,m⟩:c.length<=PN/\(p==Zi)=false/\ ∃vs,KV c vs/\s.heap.DictOf (vp X.prog X.w) p vs:=I.hok p _ g
   have d:c.length=vs.length:=Tw r;exact wpAny_truthy_dict o m (by lia) ⟨H,I.tok _,by rw[yP r];exact q⟩
 |_=>exact(show False from e).elim
theorem xu(i:PE X a ta)(m: ∀b,isTrue a X.env b=(do let v <-b;UV a.pos;Tp [v] (truthy v))):
 PT X a (λσ H Q=>ta σ H λx d=> ∃k,J2 X.K x d k/\Q k d):=by
 intro c s σ H Q I h;exact isTrue_plain (bW (i c s σ H _ I h) λv g ⟨x,f,e,j,l⟩=>Kt c g σ f x v Q e j l) (m _)
theorem iW(r:bt [x] us): ∃u,us=[u]/\bH x u:=by
 cases r with
 |cons a b=>cases b;exact⟨_,rfl,a⟩
theorem IK(r:bt [x,y] us): ∃u a,us=[u,a]/\bH x u/\bH y a:=by
 cases r with
 |cons c d=>
  cases d with
  |cons e b=>cases b;exact⟨_,_,rfl,c,e⟩
theorem EX:dI X (.builtin "abs") (λxs H Q=> ∃i,xs=[.int i]/\Q (.int (if i<0 then -i else i)) H):=by
 intro a s σ H xs us Q I r h;obtain⟨i,rfl,q⟩:=h;obtain⟨u,rfl,t,rfl⟩:=iW r;exact call_abs_int λu tk=>⟨.int (if i<0 then -i else i),H,I.tok _,⟨_,rfl⟩,q⟩
theorem By(b:X.calm=true):dI X (.builtin "max") (λxs H Q=> ∃i j,xs=[.int i,.int j]/\Q (.int (if j>i then j else i)) H):=by
 intro d s σ H xs us Q I r h;obtain⟨i,j,rfl,q⟩:=h;obtain⟨u,c,rfl,⟨t,rfl⟩,⟨t',rfl⟩⟩:=IK r;refine max_two_ints (I.ok.hd b) λh' tk k=>⟨_,H,I.kept k,?_,q⟩
 by_cases a:j>i
 ·rw[if_pos a,if_pos a];exact⟨_,rfl⟩
 ·rw[if_neg a,if_neg a];exact⟨_,rfl⟩
theorem sG(b:X.calm=true):dI X (.builtin "min") (λxs H Q=> ∃i j,xs=[.int i,.int j]/\Q (.int (if j<i then j else i)) H):=by
 intro d s σ H xs us Q I r h;obtain⟨i,j,rfl,q⟩:=h;obtain⟨u,c,rfl,⟨t,rfl⟩,⟨t',rfl⟩⟩:=IK r;refine min_two_ints (I.ok.hd b) λh' tk k=>⟨_,H,I.kept k,?_,q⟩
 by_cases a:j<i
 ·rw[if_pos a,if_pos a];exact⟨_,rfl⟩
 ·rw[if_neg a,if_neg a];exact⟨_,rfl⟩
end
structure dl(k:Nat)(A:Qe):Prop where
 hd:A.handled=none
 dp:A.depth+3*k+5<Zo
 un:A.units+16*k+200<Ra
theorem dl.mono(r:dl k A)(h:j<=k):dl j A:=⟨r.hd,by have:=r.dp;lia,by have:=r.un;lia⟩
theorem dl.deeper{A:Qe}(r:dl (k+1) A)(a:Env):dl k (A.deeper a):=
 ⟨r.hd,by have:=r.dp;show A.depth+1+3*k+5<_;lia,by have:=r.un;show A.units+3+16*k+200<_;lia⟩
theorem dl.depth{A:Qe}(r:dl k A):A.depth<recursionLimit:=by have:=r.dp;lia
theorem dl.units{A:Qe}(r:dl k A):A.units+64<cLine:=by have:=r.un;lia
def MB:TA:=λ_ H Q=>Q [] H
def Mu(b:TE)(a:TA):TA:=λσ H Q=>b σ H λx c=>a σ c λxs d=>Q (x::xs) d
section
variable {X:Cx}{e:Expr}{es:List Expr}{te:TE}{t:TA}{pos:Pos}
theorem fV:PA X [] MB:=λ_ _ _ _ H Q I h=>Calls.spliced_nil ⟨[],H,I,.nil,h⟩
theorem c8(l:PE X e te)(q:PA X es t)(n:Pv (e::es) X.env=(false,eval e X.env)::Pv es X.env:=by rfl):PA X (e::es) (Mu te t):=by
 intro a c s σ H Q I h;rw[n];show Ps _ _ (spliced ((false,eval e X.env)::RL a (Pv es X.env))) _ _ s;refine Calls.spliced_cons (bW (l c s σ H _ I h) λu k b=>?_);obtain⟨x,g,f,m,p⟩:=b;exact bW (q a c k σ g _ f p) λus s2 ⟨xs,j,o,i,d⟩=>⟨x::xs,j,o,.cons m i,d⟩
def Ng(t:TA):TE:=λσ H Q=>t σ H λxs a=>xs.length<=PN/\ ∀p,a p=none->Q (.ref p) (bY a p (.tup xs))
def No(t:TA):TE:=λσ H Q=>t σ H λxs a=>xs.length<=PN/\ ∀p,a p=none->Q (.ref p) (bY a p (.lst xs))
theorem JS {x1}(h:PA X es t):PE X (.Tuple es x1 pos) (Ng t):=by
 intro g s σ H Q I f;refine wpAny_Tuple_spliced (bW (h pos g s σ H _ I f) λus a ⟨xs,d,c,r,z,q⟩=>⟨by rw[<-r.length];exact z,?_⟩);have i:d a.heap.objs.size=none:=c.hok.fresh (Ph _);refine⟨.ref a.heap.objs.size,bY d a.heap.objs.size (.tup xs),c.laid (t':=a.toks) (λb u e=>Pa _ e) (Ph _) ?_,rfl,q _ i⟩;exact⟨z,us,r,⟨_,Pl _ rfl,rfl,_,rfl⟩,_,Pl _ rfl,rfl⟩
theorem Ks(h:PA X es t):PE X (.List es pos) (No t):=by
 intro g s σ H Q I f;refine wpAny_List_spliced (bW (h pos g s σ H _ I f) λus a ⟨xs,d,c,r,z,q⟩=>⟨by rw[<-r.length];exact z,?_⟩);have i:d a.heap.objs.size=none:=c.hok.fresh (Ph _);refine⟨.ref a.heap.objs.size,bY d a.heap.objs.size (.lst xs),c.laid (t':=a.toks) (λb u e=>Pa _ e) (Ph _) ?_,rfl,q _ i⟩;exact⟨z,us,0,r,Pl _ rfl⟩
end
abbrev Sp:=List V->Hp->VK->XK->Prop
abbrev DC:=List Env->Hp->O9->XK->O7->O9->Prop
structure k5(P:Qc)(w:Qv)(K:Pk)(mg:Str->Option O7)(base:Heap)(A:Qe)(outer:List Env)(s:O9)(H:Hp):Prop where
 frames:A.frames=some outer
 mod:Mod K mg base
 bs: ∀b o,base.get? b=some o->s.heap.get? b=some o/\H b=none
 bsz:base.objs.size<=s.heap.objs.size
 funs:s.heap.FunFrames base outer
 frf: ∀b∈frs outer,H b=none
 hok:HOk P w H s.heap
 bare:T4 s.gens
def CE(a:List Env)(P:Qc)(w:Qv)(H:Hp)(s:O9)(Q:VK)(u:O7)(s':O9):Prop:=
 ∃v b,s'.os=s.os/\T4 s'.gens/\Un (frs a) [] H b s.heap s'.heap/\HOk P w b s'.heap/\bH v u/\Q v b
def CR(CX:DC)(a:List Env)(P:Qc)(w:Qv)(H:Hp)(s:O9)(Q:VK)(E:XK)(r:U9)(s':O9):Prop:=
 match r with
 | .ok (.ret u)=>CE a P w H s Q u s'
 | .ok _=>False
 | .error e=>CX a H s E e s'
structure gt(P:Qc)(w:Qv)(K:Pk)(mg:Str->Option O7)(base:Heap)(CX:DC)(k:Nat)(f:Addr)(fd:Sk)(ps:List Str)(sp:Sp):Prop where
 len: ∀vs H Q E,sp vs H Q E->vs.length=ps.length
 run: ∀(A:Qe) (outer:List Env) (s:O9) (H:Hp) (args:Args) (us:List O7) (vs:List V) (Q:VK) (E:XK),dl k A->k5 P w K mg base A outer s H->XZ s fd args (ps.zip us)->bt vs us->sp vs H Q E->
  RU (model P w) A (.call (.ref f) args) (CR CX outer P w H s Q E) s
theorem gt.imp{K:Pk}{sp c:Sp}(F:gt P w K mg base CX k f fd ps sp)
 (h: ∀vs H Q E,c vs H Q E->sp vs H Q E):gt P w K mg base CX k f fd ps c:=
 ⟨λvs H Q E q=>F.len vs H Q E (h _ _ _ _ q),λA a s H b us vs Q E g e d hv i=>F.run A a s H b us vs Q E g e d hv (h _ _ _ _ i)⟩
section
variable {X:Cx}{ah:List (Addr×Obj)}{σ:St}{H:Hp}{s s':O9}
theorem Inv.env0(I:Inv X ah σ H s):k5 X.prog X.w X.K X.mg X.base X.A X.stack s H:=
 ⟨I.ok.frames,I.ok.mod,I.bs,P8 I.ok.bsz I.sz,I.stack,I.stkFree,I.hok,I.bare⟩
theorem Inv.after(I:Inv X ah σ H s)(h:CE X.stack X.prog X.w H s Q u s'):EP X ah σ Q u s':=by
 obtain⟨v,j,os,a,i,e,r,q⟩:=h;obtain⟨f,g,d,t,c⟩:=s';obtain rfl:c=s.os:=os;exact⟨v,j,I.call (h':=f) (g':=g) (d':=d) (t':=t) (ch:=[]) i e a (λb z=>absurd z (by simp)),r,q⟩
end
def Md(sp:Sp)(a:List V)(E:XK)(t:TA):TE:=λσ H Q=>t σ H λvs b=>sp (vs++a) b Q E
def ia(K:Pk)(b:Sk)(a:List Str)(ds:List O7):Prop:=
 ∀(s:O9) (us:List O7),K.In s.heap->(us++ds).length=a.length->XZ s b ⟨us,[]⟩ (a.zip (us++ds))
theorem ia.all {K:Pk}{a:List Str}(h: ∀us:List O7,us.length=a.length->bindArgs fd ⟨us,[]⟩=pure (a.zip us)):ia K fd a []:=λs us _ b=>by
 rw[QJ] at b⊢;exact .of_eq (h us b)
def yb(CX:DC)(X:Cx)(E:XK):Prop:= ∀(a:List (Addr×Obj)) (σ:St) (H:Hp) (s:O9) (e:O7) (s':O9),Inv X a σ H s->CX X.stack H s E e s'->X.xe e s'
section
variable {X:Cx}{CX:DC}{k:Nat}{f C:Addr}{fd:Sk}{ps:List Str}{sp:Sp}{dvs:List V}{ds:List O7}{E:XK}{x m:Str}{p pos apos:Pos}{e o:Expr}{es:List Expr}{ta:TE}{t:TA}
theorem K1(F:gt X.prog X.w X.K X.mg X.base CX k f fd ps sp)(l:dl k X.A)(g:ia X.K fd ps ds)(j:bt dvs ds)(d:yb CX X E)
 (I:Inv X ah σ H s) (r:bt vs us) (h:sp (vs++dvs) H Q E):Ps (model X.prog X.w) X.A (call (.ref f) us) (EP X ah σ Q) X.xe s:=by
 have b:bt (vs++dvs) (us++ds):=r.append j;have c:(us++ds).length=ps.length:=by rw[<-b.length];exact F.len _ _ _ _ h
 refine Zp (R7 (F.run X.A X.stack s H ⟨us,[]⟩ (us++ds) (vs++dvs) Q E l I.env0 (g s us I.kIn c) b h) λr s' a=>?_);cases r with
 |error e=>exact d ah σ H s e s' I a
 |ok i=>
  cases i with
  |ret u=>exact I.after a
  |next=>exact False.elim a
  |brk=>exact False.elim a
  |cont=>exact False.elim a
theorem uX(F:gt X.prog X.w X.K X.mg X.base CX k f fd ps sp)(v:dl k X.A)(d:Gl X x)(l:X.mg x=some (.ref f))(m:Va X.K (.ref f)=true)(n:ia X.K fd ps ds)(i:bt dvs ds)(g:yb CX X E)
 (j:PA X (e::es) t) (b:(x==("__debug__":Str))=false:=by decide) (u:Pv (e::es) X.env=(false,eval e X.env)::Pv es X.env:=by rfl) (a:(RL pos (Pv es X.env)).any (·.1)=false:=by rfl):
 PE X (.Call (.Name x p) (e::es) [] pos) (Md sp dvs E t):=by
 intro o s σ H Q I h;refine TR (Ii I d l ?_ b);refine W.callWith_K (h₀:=X.base) I.ok.mod.kin m (bW (j pos o s σ H _ I h) λus z ⟨vs,y,c,r,q⟩=>⟨c.kIn,?_⟩) u a;exact K1 F v n i g c r q
end
structure bm(N P:List Str)(sc:R5):Prop where
 kind:sc.kind=.function
 co:sc.isCoroutine=false
 gen:sc.isGenerator=false
 nd:N.Nodup
 pre:N.take P.length=P
 par: ∀x∈P,sc.names.lookup x=some .local\/sc.names.lookup x=some .cell
 nofree: ∀y∈sc.names,y.2≠ .free
theorem sF {b:Str->Option R6}: ∀ {a:List (Str×O7)} {m:Str->Option O7},(∀v,(x,v)∉a)->Zq b a m x=m x
 | [],_,_=>rfl
 |(n,v)::r,m,h=>by
  unfold Zq;rw[sF λw hw=>h w (Pt _ hw)];split
  ·have:x≠n:=by rintro rfl;exact h v PH
   simp[this]
  ·rfl
theorem tJ {b:Str->Option R6}: ∀ {a:List (Str×O7)} {m:Str->Option O7},(∀v,(x,v)∉a)->Zr b a m x=m x
 | [],_,_=>rfl
 |(n,v)::r,m,h=>by
  unfold Zr;rw[tJ λw hw=>h w (Pt _ hw)];split
  ·rfl
  ·have:x≠n:=by rintro rfl;exact h v PH
   simp[this]
theorem sV {a:Str->Option R6}: ∀ {P:List Str} {vs:List O7} {i:Nat} {m:Str->Option O7},P.Nodup->P[i]? =some x->vs[i]? =some v->a x=some .local->
 Zq a (P.zip vs) m x=some v
 | [],_,_,_,_,h,_,_=>by simp at h
 |_::_,[],_,_,_,_,h,_=>by simp at h
 |p::P,w::vs,0,m,d,b,c,e=>by
  simp at b c;subst b;subst c;show Zq a ((p,w)::P.zip vs) m p=_;unfold Zq;rw[sF λv hv=>(Ru.mp d).1 (Ws hv).1,if_pos e];simp
 |p::P,w::vs,i+1,m,d,b,c,e=>by
  show Zq a ((p,w)::P.zip vs) m x=_;unfold Zq;exact sV (i:=i) (Ru.mp d).2 (by simpa using b) (by simpa using c) e
theorem tH {a:Str->Option R6}: ∀ {P:List Str} {vs:List O7} {i:Nat} {m:Str->Option O7},P.Nodup->P[i]? =some x->vs[i]? =some v->a x≠some .local->
 Zr a (P.zip vs) m x=some v
 | [],_,_,_,_,h,_,_=>by simp at h
 |_::_,[],_,_,_,_,h,_=>by simp at h
 |p::P,w::vs,0,m,d,b,c,e=>by
  simp at b c;subst b;subst c;show Zr a ((p,w)::P.zip vs) m p=_;unfold Zr;rw[tJ λv hv=>(Ru.mp d).1 (Ws hv).1,if_neg e];simp
 |p::P,w::vs,i+1,m,d,b,c,e=>by
  show Zr a ((p,w)::P.zip vs) m x=_;unfold Zr;exact tH (i:=i) (Ru.mp d).2 (by simpa using b) (by simpa using c) e
def start(N:List Str)(vs:List V):St:=vs.map some++Pj (N.length-vs.length) none
def r9(CX:DC)(P:Qc)(w:Qv)(K:Pk)(mg:Str->Option O7)(base:Heap)(N:List Str)(a:Str)(scope:R5)(f:Addr)(c:O7)(A:Qe)(outer:List Env)(s:O9)(H:Hp)(E:XK):Cx where
 prog:=P
 w:=w
 K:=K
 mg:=mg
 base:=base
 A:=A.deeper (UJ a scope s.heap.objs.size f c)
 N:=N
 s₀:=s
 H₀:=H
 env:=UJ a scope s.heap.objs.size f c
 outer:=outer
 stack:=UJ a scope s.heap.objs.size f c::outer
 ex:=[]
 calm:=true
 fn:=λ_=>true
 pn:=[]
 xe:=λe s'=>Ps (model P w) (A.deeper (UJ a scope s.heap.objs.size f c)) (leaving (UJ a scope s.heap.objs.size f c) e) (λ_ b=>CX outer H s E e b) (λd b=>CX outer H s E d b) s'
theorem wJ {a:R5}{n:Nat}(h:a.names.lookup x=some .cell): ∃c,(RH n a.names []).lookup x=some c:=by
 have q:=Yu a.names n [] (.inl h);exact Option.isSome_iff_exists.mp q
theorem CD{K:Pk}{N j:List Str}{scope:R5}{A:Qe}{s D:O9}{vs:List V}
 (S:bm N j scope) (J:A.handled=none) (g:k5 P w K mg base A outer s H) (O:vs.length=j.length) (r:bt vs us)
 (x:InCallC s s.heap.objs.size (Zq (UJ qual scope s.heap.objs.size f cd).kindOf (j.zip us) λ_=>none) (RH (s.heap.objs.size+1) scope.names []) (Zr (UJ qual scope s.heap.objs.size f cd).kindOf (j.zip us) λ_=>none) D):
 Inv (r9 CX P w K mg base N qual scope f cd A outer s H E) [] (start N vs) H D:=by
 have I:j.length<=N.length:=by have:=congrArg Sd S.pre;rw[RO] at this;lia
 obtain⟨B,tk,rfl,G⟩:=x.done;have m: ∀b:Addr,b∉(r9 CX P w K mg base N qual scope f cd A outer s H E).ex:=λb z=>absurd (show b∈([]:List Addr) from z) (by simp)
 refine⟨⟨g.mod,S.kind,rfl,rfl,Ph _,λy z c B d=>?_,λy l=>?_,λy c _ h=>?_,λ_=>J,Around.frames_deeper g.frames,.inr ⟨rfl,rfl⟩,λb z=>absurd z (m b),g.bs,g.bsz,λb _ _=>m b,λb z=>absurd z (m b),g.funs,g.frf⟩,
  rfl,g.bare,Un.kept G,⟨_,x.toInCall.ns,λi y v B d Q=>?_⟩,λy c h=>⟨_,x.cell y c h⟩,g.hok.fresh (Ph _),λy c h=>?_,λp t=>absurd (show p∈([]:List (Addr×Obj)) from t) (by simp),g.hok.kept G,?_⟩
 ·exact name_of_addr x.apart (QB B) (QB d)
 ·have l:scope.names.lookup y=some .cell\/scope.names.lookup y=some .free:=l;rcases l with l|l
  ·exact wJ l
  ·exact absurd rfl (S.nofree _ (QB l))
 ·exact S5 (x.above y c (QB h))
 ·have C:i<vs.length:=by
   unfold start at d
   by_cases C:i<vs.length
   ·exact C
   ·rw[P4 (by simpa using C)] at d;rw[QG] at d;split at d<;>cases d
  have L:vs[i]? =some v:=by
   unfold start at d;rw[P7 (by simpa using C),P5] at d;cases e:vs[i]? with
   |none=>rw[e] at d;cases d
   |some a=>rw[e] at d;cases d;rfl
  obtain⟨u,F,M⟩:=r.get L;have t:j[i]? =some y:=by
   rw[<-S.pre,VC (by lia)];exact B
  have o:j.Nodup:=by rw[<-S.pre];exact S.nd.sublist (T3 _ _)
  refine⟨u,M,?_⟩;rcases S.par y (P9 t) with k|k
  ·exact .inl ⟨k,sV o t F k⟩
  ·obtain⟨c,e⟩:=wJ (n:=s.heap.objs.size+1) k;refine .inr ⟨.inl k,c,e,?_⟩;have q:=x.cell y c e;rw[tH o t F (by show scope.names.lookup y≠_;rw[k];decide)] at q;exact q
 ·exact g.hok.fresh (S5 (x.above y c (QB h)))
 ·unfold start;show _=N.length;rw[PF,Pc,Um];lia
theorem Lo{K:Pk}{dV kV doc pm cdv ct oc:O7}{an od:Option Addr}
 {osl:Array (Option O7)} {N ps:List Str} {sp:Sp} (lk:K.lookup f=some ⟨oc,od,.func (Wc name qual params body scope dV kV doc pm an cdv ct),osl⟩) (hcd:X0 K cdv qual=true) (S:bm N ps scope)
 (len: ∀vs H Q E,sp vs H Q E->vs.length=ps.length)
 (hbody: ∀(A:Qe) (outer:List Env) (s:O9) (H:Hp) (vs:List V) (Q:VK) (E:XK),dl k (A.deeper (UJ qual scope s.heap.objs.size f cdv))->sp vs H Q E->
   ∃t,PSs (r9 CX P w K mg base N qual scope f cdv A outer s H E) body t/\t {nx:=λ_ H'=>Q .non H',rt:=Q} (start N vs) H):
 gt P w K mg base CX (k+1) f (Wc name qual params body scope dV kV doc pm an cdv ct) ps sp:=by
 refine⟨len,λA outer s H args us vs Q E hr e0 hb r hsp=>?_⟩;have hl:=len _ _ _ _ hsp;have KX:K.In s.heap:=e0.mod.kin.keeps λb o e=>(e0.bs b o e).1
 have lim:s.heap.NoLimit:=e0.mod.nolimit.keeps λb o e=>(e0.bs b o e).1
 have hkind: ∀y∈ps.zip us,scope.names.lookup y.1=some .local\/(scope.names.lookup y.1=some .cell/\((RH (s.heap.objs.size+1) scope.names []).lookup y.1).isSome=true):=λ⟨n,v⟩ hy=>by
  rcases S.par n (Ws hy).1 with q|q
  ·exact .inl q
  ·exact .inr ⟨q,Yu _ _ _ (.inl q)⟩
 refine codeAny_call_function hr.depth (KX _ _ lk) rfl S.co S.gen rfl (W.codeRec_of KX hcd) (hb _ _ _ _ ?_);refine wpAny_newFunctionEnv_cells S.kind hkind λenv he s1 x=>?_
 subst he;refine⟨lim.keeps x.toInCall.keep,codeAny_func ?_⟩;obtain⟨t,ht,hq⟩:=hbody A outer s H vs Q E (hr.deeper _) hsp;have I:Inv (r9 CX P w K mg base N qual scope f cdv A outer s H E) [] (start N vs) H s1:=CD S hr.hd e0 hl r x;refine Qj (ht [] s1 (start N vs) H _ I hq) (λfl s' hs=>?_) λe s' hs=>hs
 have fin: ∀ {σ':St} {H':Hp} {v:V} {u:O7},Inv (r9 CX P w K mg base N qual scope f cdv A outer s H E) [] σ' H' s'->bH v u->Q v H'->CE outer P w H s Q u s':=
  λ{σ' H' v u} J rv q=>⟨v,H',J.os,J.bare,J.base,J.hok,rv,q⟩
 cases fl with
 |ret u=>
  obtain⟨v,σ',H',J,rv,q⟩:=hs;exact fin J rv q
 |next=>
  obtain⟨σ',H',J,q⟩:=hs;exact fin (v:=V.non) (u:=Qk) J rfl q
 |brk=>
  obtain⟨_,_,_,q⟩:=hs;exact False.elim q
 |cont=>
  obtain⟨_,_,_,q⟩:=hs;exact False.elim q
section
variable {X:Cx}{x:Str}{p pos:Pos}{e:Expr}{es:List Expr}{t:TA}{id T:String}{r:List V->Hp->VK->Prop}
def L8(r:List V->Hp->VK->Prop)(t:TA):TE:=λσ H Q=>t σ H λvs a=>r vs a Q
theorem nz(l:dI X (.builtin id) r)(d:Gl X x)(n:X.mg x=none)(hv:Q7 x=some (.builtin id))(k:PA X (e::es) t)(j:x≠"__name__":=by decide)(b:(x==("__debug__":Str))=false:=by decide)
 (q:Pv (e::es) X.env=(false,eval e X.env)::Pv es X.env:=by rfl) (a:(RL pos (Pv es X.env)).any (·.1)=false:=by rfl):PE X (.Call (.Name x p) (e::es) [] pos) (L8 r t):=by
 intro c s σ H Q I h;refine TR (qW I d n hv ?_ j b);exact Yv (bW (k pos c s σ H _ I h) λus i ⟨vs,g,f,m,o⟩=>l c i σ g vs us Q f m o) q a
theorem gu(l:dI X (.type T) r)(d:Gl X x)(n:X.mg x=none)(hv:Q7 x=some (.type T))(k:PA X (e::es) t)(j:x≠"__name__":=by decide)(b:(x==("__debug__":Str))=false:=by decide)
 (q:Pv (e::es) X.env=(false,eval e X.env)::Pv es X.env:=by rfl) (a:(RL pos (Pv es X.env)).any (·.1)=false:=by rfl):PE X (.Call (.Name x p) (e::es) [] pos) (L8 r t):=by
 intro c s σ H Q I h;refine TR (qW I d n hv ?_ j b);exact Ti (bW (k pos c s σ H _ I h) λus i ⟨vs,g,f,m,o⟩=>l c i σ g vs us Q f m o) q a
theorem yI(e:dI X (.type T) r)(b:Gl X x)(f:X.mg x=none)(hv:Q7 x=some (.type T))(d:x≠"__name__":=by decide)(a:(x==("__debug__":Str))=false:=by decide):
 PE X (.Call (.Name x p) [] [] pos) (L8 r MB):=by
 intro c s σ H Q I h;refine TR (qW I b f hv ?_ d a);exact Za (e c s σ H [] [] Q I .nil h)
end
end L2
namespace HT
open PySem PyProof.Rows
section
variable {prog:Qc}{w:Qv}{A:Qe}{E:O7->O9->Prop}{s:O9}
def sIx(n d:Nat):Option Int->Nat
 |none=>d
 |some v=>if v<0 then(v+(n:Int)).toNat else min v.toNat n
theorem sIx_none(n d:Nat):sIx n d none=d:=rfl
theorem sIx_nat(n d k:Nat):sIx n d (some (k:Int))=min k n:=by
 show(if(k:Int)<0 then((k:Int)+(n:Int)).toNat else min (k:Int).toNat n)=min k n;rw[if_neg (by lia),Rc]
end
end HT
namespace L2
open PySem PySem.Spec PyProof.Rows
abbrev TO:=St->Hp->(Option Int->Hp->Prop)->Prop
def PO(X:Cx)(e:Option Expr)(t:TO):Prop:=
 ∀(a:List (Addr×Obj)) (s:O9) (σ:St) (H:Hp) (Q:Option Int->Hp->Prop),Inv X a σ H s->t σ H Q->
  Ps (model X.prog X.w) X.A (evalPart e X.env) (λu s'=> ∃o b,Inv X a σ b s'/\IsPart u o/\Q o b) X.xe s
def Hr:TO:=λ_ H Q=>Q none H
def Ml(t:TE):TO:=λσ H Q=>t σ H λx a=> ∃i,x=.int i/\Q (some i) a
theorem zd {a:List Int}: ∀ {us:List O7},bt (a.map V.int) us->W2 us a:=by
 induction a with
 |nil=>intro us r;rw[SD] at r;cases r;exact .nil
 |cons n a d=>
  intro us r;rw[Pe] at r;cases r with
  |cons b c=>
   obtain⟨t,e⟩:=b;subst e;exact .cons n t (d c)
section
variable {X:Cx}{e:Expr}{te:TE}{lo hi:Option Expr}{tl th:TO}{pos p2:Pos}
theorem HZ:PO X none Hr:=by
 intro a s σ H Q I h;rw[Xp];exact O8 ⟨none,H,I,.none,h⟩
theorem Gu(h:PE X e te):PO X (some e) (Ml te):=by
 intro f s σ H Q I hw;rw[evalPart_some];refine bW (h f s σ H _ I hw) λu j a=>?_
 obtain⟨x,c,b,d,g⟩:=a;obtain⟨i,rfl,q⟩:=g;obtain⟨t,rfl⟩:=d;exact⟨some i,c,b,.int i t,q⟩
def OL(X:Cx)(r:V->Option Int->Option Int->Hp->VK->Prop):Prop:=
 ∀(a:List (Addr×Obj)) (s:O9) (σ:St) (H:Hp) (x:V) (v b e:O7) (c f:Option Int) (d:Addr) (Q:VK),Inv X a σ H s->bH x v->s.heap.IsSliceOf d b e .none->IsPart b c->IsPart e f->r x c f H Q->
  ∃T id,Zt (.type T) "__getitem__"=pure (some (.builtin id))/\s.TypeIs v T/\Ps (model X.prog X.w) X.A (Zb v (.ref d)) (EP X a σ Q) X.xe s
def OS(r:V->Option Int->Option Int->Hp->VK->Prop)(b:TE)(e th:TO):TE:=λσ H Q=>b σ H λx c=>e σ c λl d=>th σ d λu a=>r x l u a Q
theorem vE(J:OL X r)(G:PE X e te)(C:PO X lo tl)(t:PO X hi th):PE X (.Subscript e (.Slice lo hi none p2) pos) (OS r te tl th):=by
 intro d s σ H Q I h;refine Zu (bW (G d s σ H _ I h) λv p c=>?_);obtain⟨x,n,m,y,E⟩:=c;refine wpAny_Slice (bW (C d p σ n _ m E) λf s2 ⟨l,o,B,M,j⟩=>bW (t d s2 σ o _ B j) λg a c=>?_);obtain⟨u,i,K,pu,L⟩:=c;rw[Xp];refine O8 ?_
 have D:Inv X d σ i {a with heap:=a.heap.push {cls:=.type "slice",data:=.fields #[f,g,.none]}}:=K.kept (t':=a.toks) λb ob q=>Pa _ q
 obtain⟨T,id,F,z,k⟩:=J d {a with heap:=a.heap.push {cls:=.type "slice",data:=.fields #[f,g,.none]}} σ i x v f g l u a.heap.objs.size Q D y (XG ..) M pu L;show Ps (model X.prog X.w) X.A (Xq e (.Slice lo hi none p2) v (.ref a.heap.objs.size)) (EP X d σ Q) X.xe {a with heap:=a.heap.push {cls:=.type "slice",data:=.fields #[f,g,.none]}};exact tail_any (ops:=[.ref a.heap.objs.size,v]) z F k (by with_unfolding_all rfl)
def BV(xs:List V)(a b:Option Int):List V:=(xs.drop (HT.sIx xs.length 0 a)).take (HT.sIx xs.length xs.length b-HT.sIx xs.length 0 a)
theorem wq(xs:List V)(b a:Option Int):(BV xs b a).length<=xs.length:=by
 unfold BV;rw[RO,List.length_drop];lia
end
def xB(n:Nat)(i:Int):Option Nat:=if 0<=i then(if i<n then some i.toNat else none) else if -(n:Int)<=i then some (i+n).toNat else none
def sX {α:Type}(xs:List α)(i:Int):Option α:=(xB xs.length i).bind λj=>xs[j]?
theorem uY(h:xB n i=some j):seqIndex? i n=some j/\j<n/\ -(n:Int)<=i/\i<n:=by
 unfold xB at h
 by_cases b:0<=i
 ·rw[if_pos b] at h
  by_cases a:i<n
  ·rw[if_pos a] at h;have e:i.toNat=j:=Qi h;exact⟨by rw[YJ b a,e],by lia,by lia,a⟩
  ·rw[if_neg a] at h;cases h
 ·rw[if_neg b] at h
  by_cases a: -(n:Int)<=i
  ·rw[if_pos a] at h;have e:(i+n).toNat=j:=Qi h;exact⟨by rw[X1 (by lia) a,e],by lia,a,by lia⟩
  ·rw[if_neg a] at h;cases h
theorem uI {α:Type}{xs:List α}{i:Int}{v:α}(h:sX xs i=some v): ∃j,seqIndex? i xs.length=some j/\xs[j]? =some v/\j<xs.length/\ -(xs.length:Int)<=i/\i<xs.length:=by
 unfold sX at h;cases e:xB xs.length i with
 |none=>rw[e] at h;cases h
 |some j=>
  rw[e] at h;obtain⟨a,c,b,d⟩:=uY e;exact⟨j,a,h,c,b,d⟩
theorem uN {α:Type}{xs:List α}{j:Nat}{v:α}(h:xs[j]? =some v):sX xs (j:Int)=some v:=by
 have a:j<xs.length:=(Pu.mp h).1;have e:xB xs.length (j:Int)=some j:=by
  unfold xB;rw[if_pos (by lia),if_pos (by lia)];simp
 unfold sX;rw[e];exact h
def uf(b:Expr):Prop:= ∀o i,WK b false o i=operate [o,i] (Zb o i)
def IxR(X:Cx)(r:R2):Prop:=
 ∀(b a:Expr) (c:List (Addr×Obj)) (s:O9) (σ:St) (H:Hp) (x y:V) (v u:O7) (Q:VK),Inv X c σ H s->bH x v->bH y u->r x y H Q->
  WK a false v u=operate [v,u] (Zb v u)->Ps (model X.prog X.w) X.A (Xq b a v u) (EP X c σ Q) X.xe s
def M8(X:Cx)(id:String)(r:V->List V->Hp->VK->Prop):Prop:=
 ∀(a:List (Addr×Obj)) (s:O9) (σ:St) (H:Hp) (x:V) (xs:List V) (v:O7) (us:List O7) (Q:VK),Inv X a σ H s->bH x v->bt xs us->r x xs H Q->
  Ps (model X.prog X.w) X.A (call (.builtin id) (v::us)) (EP X a σ Q) X.xe s
section
variable {X:Cx}{a b:Expr}{ta tb:TE}{pos:Pos}
theorem IxR.or(h:IxR X r)(h':IxR X r'):IxR X (λx y H Q=>r x y H Q\/r' x y H Q):=by
 intro a b f s σ H x y v u Q I e d q c;rcases q with q|q
 ·exact h a b f s σ H x y v u Q I e d q c
 ·exact h' a b f s σ H x y v u Q I e d q c
theorem IW(l:IxR X r)(d:PE X a ta)(j:PE X b tb)(e:uf b):PE X (.Subscript a b pos) (Lc r ta tb):=by
 intro k s σ H Q I h;exact Zu (Kk d j I h λv u s2 x y c g i f q=>l a b k s2 σ c x y v u Q g i f q (e _ _))
def LO(K:Pk):R2:=λx y H Q=> ∃p xs i v,x=.ref p/\y=.int i/\SqL K H p xs/\sX xs i=some v/\Q v H
def Lq(K:Pk):R2:=λx y H Q=> ∃p xs i v,x=.ref p/\y=.int i/\SqT K H p xs/\sX xs i=some v/\Q v H
def LD:R2:=λx y H Q=> ∃z i c,x=.str z/\y=.int i/\z.length<=PN/\sX z.cps.toList i=some c/\Q (.str ⟨#[c]⟩) H
theorem la:IxR X (LO X.K):=by
 intro b d m s σ H x y v u Q I F C h k;obtain⟨p,xs,i,z,rfl,rfl,o,G,q⟩:=h;cases F;obtain⟨t,rfl⟩:=C;obtain⟨e,r,g,M⟩:=I.list o;obtain⟨j,a,A,L,D,B⟩:=uI G;obtain⟨w,l,c⟩:=r.get A;have E:=r.length;have J:=mr;have fin:EP X m σ Q w s:=⟨z,H,I,c,q⟩
 by_cases n:0<=i
 ·have f:i.toNat=j:=by
   rw[YJ n B] at a;exact Qi a
  exact item_listR g.isList n (by lia) (by rw[f];simpa using l) fin k
 ·have f:(i+(e.toArray.size:Int)).toNat=j:=by
   rw[X1 (by lia) D] at a;rw[PK,<-E];exact Qi a
  exact Wd (x:=w) g.isList.typeIs Vr.lookup
   (wpAny_getItem_list_neg (Q:=λr s'=>r=w/\EP X m σ Q r s') g.isList (by lia) (by rw[PK]<;>lia) (by lia) (by rw[f];simpa using l) ⟨rfl,fin⟩) k
theorem lb:IxR X (Lq X.K):=by
 intro a c d s σ H x y v u Q I B l h k;obtain⟨p,xs,i,z,rfl,rfl,f,C,q⟩:=h;cases B;obtain⟨t,rfl⟩:=l;obtain⟨o,r,e,J⟩:=I.tuple f;obtain⟨j,n,g,G,F,E⟩:=uI C;obtain⟨w,m,b⟩:=r.get g;have A:=r.length;have D:=mr;have fin:EP X d σ Q w s:=⟨z,H,I,b,q⟩
 exact Wd (x:=w) e.typeIs slot_tuple_getitem.lookup
  (getItem_tuple (j:=j) (Q:=λr s'=>r=w/\EP X d σ Q r s') e (by lia) (by lia) (by rw[PK,<-A];exact n) (by simpa using m) ⟨rfl,fin⟩) k
theorem Jj:IxR X LD:=by
 intro a b B s σ H x y v u Q I o l h k;obtain⟨z,i,c,rfl,rfl,C,p,q⟩:=h;obtain⟨t,rfl⟩:=o;obtain⟨t',rfl⟩:=l;obtain⟨j,d,f,A,m,g⟩:=uI p;have n:z.cps.toList.length=z.length:=by simp[Str.length]
 rw[n] at d m g;have w:=mr
 exact tail_any (typeIs_str s z t) slot_str_getitem.lookup (getItem_str (c:=c) (by
  have r:decide (i< -(2^63:Int))=false:=md (by lia);have e:decide (i≥2^63)=false:=md (by lia)
  rw[r,e,Xs]) (by rw[d];simpa using f) ⟨.str ⟨#[c]⟩,H,I.tok _,⟨_,rfl⟩,q⟩) k
def OD(K:Pk):R2:=λx y H Q=>LO K x y H Q\/Lq K x y H Q\/LD x y H Q
theorem aI:IxR X (OD X.K):=la.or (lb.or Jj)
theorem yM(a:List O7)(n j:Nat)(u:O7):Sm (·.setIfInBounds j u) {cls:=.type "list",data:=.seq a.toArray n}={cls:=.type "list",data:=.seq (a.set j u).toArray n}:=by
 simp[Sm]
theorem Inv.lst{H:Hp}{s:O9}{xs:List V}(I:Inv X ah σ H s)(h:H p=some (.lst xs)):
 ∃(a:List O7) (n:Nat),bt xs a/\s.heap.get? p=some {cls:=.type "list",data:=.seq a.toArray n}/\xs.length<=sizeLine:=by
 obtain⟨z,a,n,r,e⟩:=I.hok p _ h;exact⟨a,n,r,e,z⟩
theorem Inv.lstUpd{s:O9}{xs ys:List V}{a its':List O7}(I:Inv X ah σ H s)(h:H p=some (.lst xs))
 (d:s.heap.get? p=some {cls:=.type "list",data:=.seq a.toArray n}) (c:f {cls:=.type "list",data:=.seq a.toArray n}={cls:=.type "list",data:=.seq its'.toArray n'}) (r:bt ys its') (i:ys.length<=PN) (t:Nat):
 Inv X ah σ (bY H p (.lst ys)) {s with heap:=s.heap.update p f,toks:=t}:=by
 have e:(s.heap.update p f).get? p=some {cls:=.type "list",data:=.seq its'.toArray n'}:=by
  rw[Qy f d (by rw[c]<;>rfl),c]
 refine I.write (x:=p) (e:=p) (by rw[h];trivial) (.inl rfl) (λb u g q=>(R8 _ _ (Qu g)).trans q) ⟨_,e⟩ ?_
 exact⟨i,its',n',r,e⟩
def LR:V->V->V->Hp->(Hp->Prop)->Prop:=λo i v H Q=> ∃p xs k j,o=.ref p/\i=.int k/\H p=some (.lst xs)/\xB xs.length k=some j/\Q (bY H p (.lst (xs.set j v)))
theorem Fr:LX X LR:=by
 intro B s σ H o i v ov F u Q I x z y h;obtain⟨p,xs,k,j,rfl,rfl,f,A,q⟩:=h;cases x;obtain⟨t,rfl⟩:=z;obtain⟨a,n,r,c,C⟩:=I.lst f;obtain⟨b,D,m,l⟩:=uY A;have e:=r.length;have E:=mr;have g:Inv X B σ (bY H p (.lst (xs.set j v))) {s with heap:=s.heap.update p (Sm (·.setIfInBounds j u))}:=
  I.lstUpd f c (yM a n j u) (r.set y j) (by rw[YV];exact C) s.toks
 by_cases w:0<=k
 ·have d:k.toNat=j:=by
   rw[YJ w l] at b;exact Qi b
  exact W.ki_setAt c w (by lia) (by rw[PK,<-e];exact l) (by rw[d];exact⟨_,g,q⟩)
 ·have d:(k+(a.toArray.size:Int)).toNat=j:=by
   rw[X1 (by lia) m] at b;rw[PK,<-e];exact Qi b
  exact W.ki_setBack c (by lia) (by rw[PK,<-e];exact m) (by lia) (by rw[d];exact⟨_,g,q⟩)
theorem uk(a b:Option Int)(n:Nat):(TW a b none n).1=((HT.sIx n 0 a:Nat):Int)/\(TW a b none n).2.1=((HT.sIx n n b:Nat):Int)/\(TW a b none n).2.2=1:=by
 refine⟨?_,?_,rfl⟩
 ·cases a with
  |none=>simp[TW,HT.sIx]
  |some i=>
   simp only[TW,HT.sIx,Yw,show(1:Int)>0 by decide,if_true]
   by_cases h:i<0
   ·simp only[h,if_true]<;>lia
   ·simp only[h,if_false]<;>lia
 ·cases b with
  |none=>simp[TW,HT.sIx]
  |some i=>
   simp only[TW,HT.sIx,Yw,show(1:Int)>0 by decide,if_true]
   by_cases h:i<0
   ·simp only[h,if_true]<;>lia
   ·simp only[h,if_false]<;>lia
theorem rP(a:List O7)(b c:Option Int):Yx a.toArray b c none=((a.drop (HT.sIx a.length 0 b)).take (HT.sIx a.length a.length c-HT.sIx a.length 0 b)).toArray:=by
 obtain⟨d,e,f⟩:=uk b c a.toArray.size;unfold Yx;rw[d,e,f];simp only[sliceRange_one,pick_run,PK]<;>rfl
def Oa(K:Pk):V->Option Int->Option Int->Hp->VK->Prop:=λx b c H Q=> ∃a xs,x=.ref a/\SqL K H a xs/\ ∀p,H p=none->Q (.ref p) (bY H p (.lst (BV xs b c)))
theorem Aq:OL X (Oa X.K):=by
 intro u s σ H x v n t d e p Q I k i l pu h;obtain⟨a,xs,rfl,g,q⟩:=h;cases k;obtain⟨j,r,f,m⟩:=I.list g;have c:=r.length;refine⟨"list",_,Vr.lookup,f.isList.typeIs,?_⟩;refine VD f.isList i l pu .none (by simp) ?_ (by rw[PK]<;>lia)
 rw[rP,<-c];refine⟨.ref s.heap.objs.size,_,I.laid (t':=s.toks) (o:=.lst (BV xs d e)) (λb ob q=>Pa _ q) (Ph _) ?_,rfl,q _ (I.hok.fresh (Ph _))⟩;exact⟨P8 (wq xs d e) m,_,0,(r.drop (HT.sIx xs.length 0 d)).take (HT.sIx xs.length xs.length e-HT.sIx xs.length 0 d),Pl _ rfl⟩
theorem br:dI X (.builtin "len") (λxs H Q=> ∃p ys,xs=[.ref p]/\(SqL X.K H p ys\/SqT X.K H p ys)/\Q (.int ys.length) H):=by
 intro j s σ H xs us Q I r h;obtain⟨p,ys,rfl,b,q⟩:=h;obtain⟨u,rfl,f⟩:=iW r;cases f;have i:=mr;rcases b with b|b
 ·obtain⟨c,d,e,g⟩:=I.list b;have a:=d.length;exact Calls.call_len_list e.isList (by simp only[PK]<;>lia) ⟨.int ys.length,H,I.tok _,⟨s.toks+1,by rw[PK,a]⟩,q⟩
 ·obtain⟨c,d,e,g⟩:=I.tuple b;have a:=d.length;exact len_tuple e (by simp only[PK]<;>lia) ⟨.int ys.length,H,I.tok _,⟨s.toks+1,by rw[PK,a]⟩,q⟩
theorem dG:dI X (.type "list") (λxs H Q=> ∃p ys,xs=[.ref p]/\(SqL X.K H p ys\/SqT X.K H p ys)/\ ∀l,H l=none->Q (.ref l) (bY H l (.lst ys))):=by
 intro z s σ H xs us Q I r h;obtain⟨p,ys,rfl,f,q⟩:=h;obtain⟨u,rfl,y⟩:=iW r;cases y;have fin: ∀(a:List O7),bt ys a->ys.length<=PN-> ∀(h':Heap) (c:Nat),(∀b x,s.heap.get? b=some x->h'.get? b=some x)->
  h'.get? s.heap.objs.size=some {cls:=.type "list",dict:=none,data:=.seq a.toArray c,slots:= #[]}->EP X z σ Q (.ref s.heap.objs.size) {s with heap:=h'}:=λa d j h' c g e=>
  ⟨.ref s.heap.objs.size,_,I.laid (t':=s.toks) g (Ph _) (show ci X.prog X.w _ h' _ (.lst ys) from⟨j,a,c,d,e⟩),rfl,q _ (I.hok.fresh (Ph _))⟩
 rcases f with f|f
 ·obtain⟨a,d,v,j⟩:=I.list f;have i:=d.length;obtain⟨o,m,t,n,k⟩:=v.isList;exact Z7 p (.inl rfl) m t k (λh' c g e=>fin a d j h' c g e) (by simp only[PK]<;>lia)
 ·obtain⟨a,d,v,j⟩:=I.tuple f;have i:=d.length;obtain⟨o,m,t,n,k⟩:=v;exact Z7 p (.inr rfl) m t k (λh' c g e=>fin a d j h' c g e) (by simp only[PK]<;>lia)
theorem dP:dI X (.type "tuple") (λxs H Q=> ∃p ys,xs=[.ref p]/\((SqL X.K H p ys/\ ∀l,H l=none->Q (.ref l) (bY H l (.tup ys)))\/(SqT X.K H p ys/\Q (.ref p) H))):=by
 intro j s σ H xs us Q I r h;obtain⟨p,ys,rfl,h⟩:=h;obtain⟨u,rfl,t⟩:=iW r;cases t;rcases h with⟨c,q⟩|⟨c,q⟩
 ·obtain⟨a,d,f,k⟩:=I.list c;have i:=d.length;refine call_tuple_list f.isList (λh' m=>?_) (by simp only[PK]<;>lia);have g:Inv X j σ H {s with heap:=h'}:=I.kept (t':=s.toks) m;have n:Inv X j σ (bY H h'.objs.size (.tup ys)) {s with heap:=h'.push {cls:=.type "tuple",data:=.seq a.toArray}}:=
   g.laid (t':=s.toks) (λb o e=>Pa _ e) (Ph _) (show ci X.prog X.w _ _ _ (.tup ys) from⟨k,a,d,IsTup.new _ _,_,Pl _ rfl,rfl⟩)
  exact⟨.ref h'.objs.size,_,n,rfl,q _ (g.hok.fresh (Ph _))⟩
 ·obtain⟨a,d,f,k⟩:=I.tuple c;exact call_tuple_same f ⟨.ref p,H,I,rfl,q⟩
def OJ(K:Pk)(T:String)(x:V)(H:Hp):Prop:=match x with
 | .str _=>T="str"
 | .int _=>T="int"
 | .ref p=>(T="list"/\ ∃xs,SqL K H p xs)\/(T="tuple"/\ ∃xs,SqT K H p xs)\/
    (T="dict"/\((∃a,H p=some (.dK a))\/ ∃a,H p=some (.dT a)))\/(T="set"/\ ∃S n,H p=some (.set S n))\/(T="set"/\ ∃xs,H p=some (.tst xs))
 |_=>False
theorem Kc{s:O9}(I:Inv X ah σ H s)(r:bH x v)(ty:OJ X.K T x H):
 s.TypeIs v T/\ ∀a,v=.ref a-> ∃ob,s.heap.get? a=some ob/\ob.dict=none:=by
 cases x with
 |str z=>
  obtain⟨t,rfl⟩:=r;cases (show T="str" from ty);exact⟨typeIs_str s z t,λ_ e=>nomatch e⟩
 |int i=>
  obtain⟨t,rfl⟩:=r;cases (show T="int" from ty);exact⟨typeIs_int s i t,λ_ e=>nomatch e⟩
 |ref p=>
  cases r;rcases ty with⟨rfl,xs,g⟩|⟨rfl,xs,g⟩|⟨rfl,d⟩|⟨rfl,S,n,d⟩|⟨rfl,xs,d⟩
  ·obtain⟨u,_,k,_⟩:=I.list g;refine⟨k.isList.typeIs,λa e=>?_⟩;cases e;obtain⟨o,n,e,c,j,_⟩:=k;exact⟨o,e,j⟩
  ·obtain⟨⟨ob,m,q⟩,w,l,j⟩:=I.tupleN g;refine⟨⟨ob,m,q⟩,λa e=>?_⟩;cases e;exact⟨w,l,j⟩
  ·have z: ∃o,s.heap.get? p=some o/\o.ExactDict:=by
    rcases d with⟨h,d⟩|⟨h,d⟩
    ·obtain⟨_,_,_,_,o,_,_,e,b,_⟩:=I.hok p _ d;exact⟨o,e,b⟩
    ·obtain⟨_,_,_,_,o,_,_,e,b,_⟩:=I.hok p _ d;exact⟨o,e,b⟩
   obtain⟨o,e,b⟩:=z;refine⟨⟨o,e,b.1⟩,λa f=>?_⟩;cases f;exact⟨o,e,b.2.1⟩
  ·obtain⟨o,_,_,_,e,b,_⟩:=I.hok p _ d;refine⟨⟨o,e,b.1⟩,λa f=>?_⟩;cases f;exact⟨o,e,b.2.1⟩
  ·obtain⟨o,_,_,_,e,b⟩:=I.hok p _ d;refine⟨⟨o,e,b.ex.1⟩,λa f=>?_⟩;cases f;exact⟨o,e,b.ex.2.1⟩
 |_=>exact False.elim ty
def OY(K:Pk)(T:String)(r:V->List V->Hp->VK->Prop)(to:TE)(t:TA):TE:=λσ H Q=>to σ H λx a=>OJ K T x a/\t σ a λxs b=>r x xs b Q
variable {o e:Expr}{es:List Expr}{to:TE}{t:TA}{name:Str}{apos cpos:Pos}{T id:String}{r:V->List V->Hp->VK->Prop}
theorem AO(D:PlainAttrs T)(d:Slot T name id)(j:typeOf (.builtin id)=pure (.type "method_descriptor"))(G:M8 X id r)(E:PE X o to)(C:PA X (e::es) t)
 (c:UC o name X.env (eval o X.env)=eval o X.env:=by rfl)
 (f:((RL cpos (Pv (e::es) X.env)).all (λx=> !x.1)&&(X2 cpos (Vs [] X.env)).all (λx=>x.1.isSome)
   &&decide ((e::es).length+([]:List UW).length+(if([]:List UW).isEmpty then 0 else 1)<30))=true:=by rfl)
 (b:(apos.endLine==cpos.line)=true:=by rfl) (F:Pv (e::es) X.env=(false,eval e X.env)::Pv es X.env:=by rfl) (a:(RL cpos (Pv es X.env)).any (·.1)=false:=by rfl):
 PE X (.Call (.Attribute o name apos) (e::es) [] cpos) (OY X.K T r to t):=by
 intro i s σ H Q I h;refine wpAny_Call_method_late c f b rfl (bW (E i s σ H _ I h) λv z g=>?_);obtain⟨x,u,k,m,ty,A⟩:=g;obtain⟨n,B⟩:=Kc k m ty;refine⟨T,id,D,d,j,n,B,?_⟩;have l:=C cpos i z σ u _ k A;rw[F] at l⊢;refine Calls.callWith_builtin (by show(false||(RL cpos (Pv es X.env)).any (·.1))=false;rw[a]<;>rfl) (Calls.evalArgs_plain ?_);exact bW l λus s2 ⟨vs,y,q,w,p⟩=>G i s2 σ y x vs v us Q q m w p
end
def Oj(X:Cx)(id:String)(r:V->List V->Hp->VK->Prop):Prop:=
 ∀(a:List (Addr×Obj)) (s:O9) (σ:St) (H:Hp) (x:V) (xs:List V) (v:O7) (us:List O7) (Q:VK),Inv X a σ H s->bH x v->bt xs us->r x xs H Q->
  Ps (model X.prog X.w) X.A (call (.builtin id) (v::us)) (EP X a σ Q) X.xe s
theorem bt.one: ∀ {x:V} {us:List O7},bt [x] us-> ∃u,us=[u]/\bH x u
 |_,_,.cons r .nil=>⟨_,rfl,r⟩
theorem bt.eraseIdx: ∀ {xs:List V} {us:List O7} (i:Nat),bt xs us->bt (xs.eraseIdx i) (us.eraseIdx i)
 |_,_,_,.nil=>.nil
 |_,_,0,.cons _ t=>t
 |_,_,i+1,.cons r t=>.cons r (bt.eraseIdx i t)
theorem sQ {α:Type}: ∀(l:List α) (i:Nat),(l.eraseIdx i).length<=l.length
 | [],_=>Ph _
 |_::_,0=>TX _
 |_::r,i+1=>Nat.succ_le_succ (sQ r i)
section
variable {X:Cx}{ah:List (Addr×Obj)}{σ:St}{H:Hp}{s:O9}{l b:Addr}{xs ys zs:List V}
theorem Inv.lset {a its':List O7}{t':Nat}(I:Inv X ah σ H s)(c:H l=some (.lst xs))
 (e:s.heap.get? l=some {cls:=.type "list",data:=.seq a.toArray n}) (g:f a.toArray=its'.toArray) (hv:bt ys its') (h:ys.length<=PN):
 Inv X ah σ (bY H l (.lst ys)) {s with heap:=s.heap.update l (Sm f),toks:=t'}:=by
 have q:=PySem.IsL.update e f;rw[g] at q;refine I.write (x:=l) (e:=l) (by rw[c];exact trivial) (.inl rfl) (λi u d b=>(R8 s.heap (Sm f) (Qu d)).trans b) ⟨_,q⟩ ?_
 exact⟨h,its',_,hv,q⟩
theorem Inv.lnew {a:List O7}{t':Nat}(I:Inv X ah σ H s)(hv:bt ys a)(b:ys.length<=PN):
 Inv X ah σ (bY H s.heap.objs.size (.lst ys)) {s with heap:=s.heap.push {cls:=.type "list",data:=.seq a.toArray},toks:=t'}:=
 I.laid (λ_ _ q=>Pa _ q) (Ph _) ⟨b,a,0,hv,Pl _ rfl⟩
theorem Inv.fresh(I:Inv X ah σ H s):H s.heap.objs.size=none:=I.hok.fresh (Ph _)
theorem Inv.lstM(I:Inv X ah σ H s)(b:H l=some (.lst xs)):xs.length<=PN/\ ∃(a:List O7) (n:Nat),bt xs a/\xs.length=a.length/\s.heap.get? l=some {cls:=.type "list",data:=.seq a.toArray n}:=by
 obtain⟨z,a,n,r,e⟩:=I.hok l _ b;exact⟨z,a,n,r,r.length,e⟩
end
section
variable {X:Cx}
def z7:V->List V->Hp->VK->Prop:=λx vs H Q=> ∃l xs y,x=.ref l/\vs=[y]/\H l=some (.lst xs)/\xs.length<PN/\Q .non (bY H l (.lst (xs++[y])))
theorem dv:Oj X "list.append" z7:=by
 intro i s σ H x vs v us Q I d c h;obtain⟨l,xs,y,rfl,rfl,b,j,q⟩:=h;cases d;obtain⟨u,rfl,f⟩:=c.one;obtain⟨z,a,n,r,g,e⟩:=I.lstM b;refine Zv Rs ⟨_,e,rfl⟩ F.entry_list_append (F.args_list_append_2 _ _) (PySem.list_append l a.toArray n u (by rw[PK];lia)) ⟨e,?_⟩;refine⟨.non,_,I.lset (its':=a++[u]) b e (by simp) (r.append (.cons f .nil)) ?_,rfl,q⟩;rw[PF,QI];lia
def Dr:V->List V->Hp->VK->Prop:=λx vs H Q=> ∃l xs i k y,x=.ref l/\vs=[.int i]/\H l=some (.lst xs)/\ -(2^63)<=i/\i<2^63/\seqIndex? i xs.length=some k/\xs[k]? =some y/\Q y (bY H l (.lst (xs.eraseIdx k)))
theorem E7:Oj X "list.pop" Dr:=by
 intro B s σ H x vs v us Q I p f h;obtain⟨l,xs,i,k,y,rfl,rfl,c,g,d,j,o,q⟩:=h;cases p;obtain⟨u,rfl,A⟩:=f.one;obtain⟨t,rfl⟩:=A;obtain⟨z,a,n,r,m,e⟩:=I.lstM c;obtain⟨w,hw,b⟩:=r.get o;refine Zv F.slot_list_pop ⟨_,e,rfl⟩ F.entry_list_pop (F.args_list_pop_2 _ _)
  (MeetsSeq.list_pop_at l a.toArray n i t k w (fitsIndex_both g d) (by rw[PK,<-m];exact j) (by rw[<-PZ];exact hw) (by rw[PK];lia)) ⟨e,?_⟩
 refine⟨y,_,I.lset (its':=a.eraseIdx k) c e ?_ (r.eraseIdx k) ?_,b,q⟩
 ·show a.toArray.eraseIdxIfInBounds k=(a.eraseIdx k).toArray;rw[List.eraseIdxIfInBounds_toArray]
 ·have:=sQ xs k;lia
end
end L2
namespace Att
open PySem PySem.W PySem.Calls PyProof.Rows
theorem pD: ∀(c:List Int) (vs:List O7),WellAll P h vs (c.map WData.int)->W2 vs c:=by
 intro c
 induction c with
 |nil=>
  intro vs w;rw[SD] at w;cases w;exact .nil
 |cons n c d=>
  intro vs w;rw[Pe] at w;cases w with
  |cons a b=>
   cases a;exact .cons _ _ (d _ b)
theorem Cu {l:jaw}{n:Nat}(hn:l.most=some n){P:Params}{h:Heap}{args:List WData}{vals:List O7}
 (hpre:l.row.toRowW.claim.pre args=true) (hwl:WellAll P h vals args):
 ∃a vs ns,vals=[QW a]/\args=[WData.list (ns.map WData.int)]/\h.get? a=some {cls:=.type "list",data:=.seq vs.toArray}/\W2 vs ns/\ns.length<=n:=by
 have hsh:WShape.hasAll [] args [.list .int]=true:=(pre_splitW hpre).1;have hc:l.pre.holds [] {args:=args}=true:=(pre_splitW hpre).2;obtain⟨d,r,rfl,h1,h2⟩:=hasAllW_cons hsh;obtain rfl:=hasAllW_nil h2;obtain⟨xs,rfl,h3⟩:=hasW_list h1;obtain⟨ns,rfl⟩:=items_int h3;have hlen:ns.length<=n:=by
  unfold OpenLaw.pre at hc;have h4:(WTm.not (.lt (.lit (.int (n:Int))) (.len (.arg 0)))).holds [] {args:=[.list (ns.map .int)]}=true:=by
   have h4:=(holds_andW hc).1;rw[hn] at h4;exact h4
  have h5:=condW_of h4 (w_not (w_lt w_lit (w_len_list (w_arg rfl))));rw[Pc] at h5;refine Nat.le_of_not_lt λq=>?_
  have q':(n:Int)<((ns.length:Nat):Int):=by lia
  first
   |(rw[lR q'] at h5;exact absurd h5 (by decide))
   |(simp at h5;lia)
 cases hwl with
 |cons w1 w2=>
  cases w2;cases w1 with
  |list ho hall=>exact⟨_,_,ns,rfl,rfl,ho,pD ns _ hall,hlen⟩
theorem BC(l:jaw)(args:List WData):l.row.toRowW.claim.post args (.bool true) args=true:=
 postW_of (r:=l.row.toRowW) (X:=(true==true))
  (show jeq [] (.bool true) .bool=true by first|rfl|decide|simp[jeq,WShape.arms,WShape.armsAll])
  (show(WTm.eq .res (.lit (.bool true))).value [] {args:=args,res:=some (.bool true),after:=args}=some (.bool (true==true)) from w_eq_bool (w_res rfl) w_lit) rfl
theorem attach_call {l:jaw}{d:DefRec}
 (J:l.most=some n) (A:d.params.defaults=[])
 (i: ∀(w:Qv) (c b:O9) (p x:Str->Option O7) (m:Addr) (o:Obj) (y s e:O7) (a:Addr) (vs:List O7) (t:List Int),
   Ground q loose [] XP w c p x b.heap->YP w b.heap->
   b.heap.get? m=some o->o.data=.func (docDef d.name d.params d.body d.scope y s e)->b.heap.CodeRec s d.name->p d.name=some (.ref m)->
   b.heap.get? a=some {cls:=.type "list",data:=.seq vs.toArray}->W2 vs t->t.length<=n->b.gens= #[]->
   RU (model l.prog w) We (.call (.ref m) ⟨[.ref a],[]⟩) (λr s'=>r=.ok (.ret (.bool true))/\OldK b.heap s'.heap/\s'.os=b.os/\T4 s'.gens) b):
 WalkO q loose XP YP l.row.toRowW d [] (λf vs=>Zw f vs):=by
 intro w c b p x G Y m o y s e L kV N M u D z F B E as j C Q v P;obtain rfl:L=.none:=Dflts.none D A;obtain rfl:kV=.none:=Dflts.noKw D;obtain⟨a,vs,t,rfl,rfl,k,g,h⟩:=Cu J j v;refine enter_call (R7 (i w c b p x m o y s e a vs t G Y N (fd_plain M) u z k g h F) λr s' H=>?_);obtain⟨rfl,I,R,K⟩:=H;exact⟨.inl ⟨.bool true,.bool true,[],rfl,λ_=>rfl,.bool true,BC l _,λ_=>⟨RZ,λ_ O=>(nomatch O)⟩⟩,I,R,K⟩
end Att
namespace L2
open PySem PySem.Spec PyProof.Rows
theorem sv: ∀ {vs:List O7} {a:List Int},W2 vs a->bt (a.map V.int) vs
 |_,_,.nil=>.nil
 |_,_,.cons n t h=>.cons ⟨t,rfl⟩ (sv h)
def JW(H:Hp):Prop:= ∀b,H b=none\/ ∃o xs,H b=some (.frz o (.lst xs))
theorem Db{K:Pk}{sp:Sp}{c:O9}{vs:List O7}{y:List Int}
 (S:K.In c.heap) (C:c.heap.Ns Qx mg) (g:c.heap.Ns XF mb) (N: ∀x:Str,x≠"__name__"->mb x=Q7 x) (G:c.heap.NoLimit) (Z:c.gens= #[])
 (I:c.heap.get? a=some {cls:=.type "list",data:=.seq vs.toArray}) (X:W2 vs y) (W:y.length<=PN) (hr:dl k We)
 (F: ∀base:Heap,K.In base->base.Ns Qx mg->gt P w K mg base CX k fa fd [x] sp) (l: ∀(s:O9) (u:O7),XZ s fd ⟨[u],[]⟩ [(x,u)])
 (L: ∀H:Hp,JW H->SqL K H a (y.map V.int)->sp [.ref a] H (λv _=>v=.bl true) λ_ _ _=>False)
 (J: ∀H e s',CX [] H c (λ_ _ _=>False) e s'->False):
 RU (model P w) We (.call (.ref fa) ⟨[.ref a],[]⟩) (λr s'=>r=.ok (.ret (.bool true))/\OldK c.heap s'.heap/\s'.os=c.os/\T4 s'.gens) c:=by
 have U:=sv X;have B:=X.length;have j: ∀H:Hp,JW H->SqL K H a (y.map V.int)->HOk P w H c.heap->(∀b,H b≠none->b=a)->(H a≠none->K.lookup a=none)->
  RU (model P w) We (.call (.ref fa) ⟨[.ref a],[]⟩) (λr s'=>r=.ok (.ret (.bool true))/\OldK c.heap s'.heap/\s'.os=c.os/\T4 s'.gens) c:=by
  intro H R hS A T hK;have f: ∀ {b:Addr} {o:Obj},c.heap.get? b=some o->H b=none->(vo c.heap H).get? b=some o:=λe n=>FP e n
  have M: ∀ {b:Addr} {o:Obj} {es:Array DictEntry} {ep:Nat},c.heap.get? b=some o->o.data=.dict es ep->H b=none:=λ{b o es ep} e d=>by
   cases q:H b with
   |none=>rfl
   |some u=>
    have O:b=a:=T b (by rw[q];simp);subst O;rw[I] at e;cases e;have d':jcs vs.toArray _=Data.dict es ep:=d;cases d'
  have i: ∀ {b:Addr} {m:Str->Option O7},c.heap.Ns b m->(vo c.heap H).Ns b m:=λ{b m} ⟨o,es,ep,e,d,r⟩=>⟨o,es,ep,f e (M e d),d,r⟩
  have t:K.In (vo c.heap H):=λb o e=>f (S b o e) (by
   cases q:H b with
   |none=>rfl
   |some u=>
    have O:b=a:=T b (by rw[q];simp)
    subst O;rw[hK (by rw[q];simp)] at e;cases e)
  have hM:Mod K mg (vo c.heap H):=⟨t,i C,⟨mb,i g,N⟩,let⟨mc,h1,h2⟩:=G;⟨mc,i h1,h2⟩⟩
  have e0:k5 P w K mg (vo c.heap H) We [] c H:=⟨rfl,hM,λb o e=>Ir e,UX (Br _ _),trivial,λb g=>absurd (show b∈([]:List Addr) from g) (by simp),A,.of_eq Z⟩
  refine R7 ((F _ t (i C)).run We [] c H ⟨[.ref a],[]⟩ [.ref a] [.ref a] _ _ hr e0 (l c (.ref a)) (.cons rfl .nil) (L H R hS)) λr s' h=>?_
  cases r with
  |error e=>exact(J H e s' h).elim
  |ok fl=>
   cases fl with
   |next=>exact False.elim h
   |brk=>exact False.elim h
   |cont=>exact False.elim h
   |ret u=>
    obtain⟨v,H',os,E,Q,p,r',q⟩:=h;have q':v=.bl true:=q;subst q';obtain rfl:u=jeb true:=r';refine⟨rfl,OldK.of_keep λb o e=>?_,os,E⟩;cases q:H b with
    |none=>exact Q.keep b o e q (by intro z;exact absurd (show b∈([]:List Addr) from z) (by simp)) (by simp)
    |some u=>
     rcases R b with z|⟨ob,xs,z⟩
     ·rw[q] at z;cases z
     ·have z2:=Q.frzs b ob _ z;obtain⟨Y,_⟩:=A b _ z;obtain⟨e2,_⟩:=p b _ z2;rw[e] at Y;cases Y;exact e2
 cases hk:K.lookup a with
 |some o=>
  have e:=S a o hk;rw[I] at e;cases e;refine j (λ_=>none) (λ_=>.inl rfl) (.inr ⟨_,vs.toArray,_,hk,rfl,rfl,rfl,by rw[PK,B];exact W,by simpa using U⟩) (λb u z=>by have D:(none:Option HO)=some u:=z;cases D) (λb z=>absurd rfl z) λz=>absurd rfl z
 |none=>
  refine j (λb=>if b=a then some (.frz {cls:=.type "list",data:=.seq vs.toArray} (.lst (y.map V.int))) else none) (λb=>?_) (.inl (.inr ⟨{cls:=.type "list",data:=.seq vs.toArray},if_pos rfl⟩)) (λb u z=>?_) (λb z=>?_) λ_=>hk
  ·by_cases g:b=a
   ·exact .inr ⟨_,_,if_pos g⟩
   ·exact .inl (if_neg g)
  ·by_cases g:b=a
   ·have D:=(if_pos g).symm.trans z;cases D;subst g;exact⟨I,by rw[Pc];exact W,vs,_,U,I⟩
   ·have D:=(if_neg g).symm.trans z;cases D
  ·by_cases g:b=a
   ·exact g
   ·exact absurd (if_neg g) z
theorem walk_of {l:jaw}{n k:Nat}{d:DefRec}{K:Params->Pk}{CX:Qv->DC}{sp:Qv->Sp}{x:Str}
 (O:l.most=some n) (C:n<=PN) (D:d.params.defaults=[]) (U:dl k We)
 (Q: ∀(w:Qv) (h:Heap),YP w h->(K w.params).In h)
 (F: ∀(w:Qv) (j:Str->Option O7) (t:Addr) (h:Heap),(K w.params).In h->h.Ns Qx j->j d.name=some (.ref t)->
   ∃B:Sk,(∀(s:O9) (u:O7),XZ s B ⟨[u],[]⟩ [(x,u)])/\
    ∀base:Heap,(K w.params).In base->base.Ns Qx j->gt l.prog w (K w.params) j base (CX w) k t B [x] (sp w))
 (z: ∀(w:Qv) (H:Hp) (a:Addr) (r:List Int),r.length<=n->JW H->SqL (K w.params) H a (r.map V.int)->sp w [.ref a] H (λv _=>v=.bl true) λ_ _ _=>False)
 (y: ∀(w:Qv) (H:Hp) (s:O9) (e:O7) (s':O9),CX w [] H s (λ_ _ _=>False) e s'->False):
 W.WalkO q loose XP YP l.row.toRowW d [] (λf vs=>Zw f vs):=by
 refine Att.attach_call O D λw E m j Z t o pm X L a vs r G Y ho hd R A p i c J=>?_
 have I:=Q w _ Y;obtain⟨B,S,N⟩:=F w j t _ I G.T.g A;exact Db I G.T.g G.T.b G.T.builtins G.T.nolimit J p i (P8 c C) U N S (λH P M=>z w H a r c P M) λH e s'=>y w H m e s'
def hX(s:Stmt):Arguments:=match s with
 | .FunctionDef _ a _ _ _ _ _ _ _ _=>a
 |_=>{posonlyargs:=[],args:=[],vararg:=none,kwonlyargs:=[],kw_defaults:=[],kwarg:=none,defaults:=[]}
def dE(s:Stmt):List Stmt:=match s with
 | .FunctionDef _ _ b _ _ _ _ _ _ _=>b
 |_=>[]
def ay(s:Stmt):Scope:=match s with
 | .FunctionDef _ _ _ _ _ _ a _ _ _=>a
 |_=>{kind:=.function,names:=[],isGenerator:=false,isCoroutine:=false}
abbrev vA:DC:=λ_ _ _ _ _ _=>False
abbrev E0:XK:=λ_ _ _=>False
theorem De {X:Cx}:yb vA X E0:=λ_ _ _ _ _ _ _ h=>h.elim
structure Fun(K:Pk)(x qual:Str)(st:Stmt)(f:Addr)(fd:Sk):Prop where
 ex: ∃(oc:O7) (od:Option Addr) (kV doc pm:O7) (an:Option Addr) (cdv ct:O7) (osl:Array (Option O7)),
  fd=Wc x qual (hX st) (dE st) (ay st) .none kV doc pm an cdv ct/\K.lookup f=some ⟨oc,od,.func fd,osl⟩/\X0 K cdv qual=true
 kp:Va K (.ref f)=true
section
variable {P:Qc}{w:Qv}{K:Pk}{mg:Str->Option O7}{base:Heap}
theorem Fun.ok{st:Stmt}{N i:List Str}{sp:Sp}(F:Fun K x qual st f fd)(S:bm N i (ay st))(e: ∀vs H Q E,sp vs H Q E->vs.length=i.length)
 (c: ∀(b:O7) (A:Qe) (a:List Env) (s:O9) (H:Hp) (vs:List V) (Q:VK) (E:XK),dl k (A.deeper (UJ qual (ay st) s.heap.objs.size f b))->sp vs H Q E->
   ∃t,PSs (r9 vA P w K mg base N qual (ay st) f b A a s H E).nox (dE st) t/\t {nx:=λ_ o=>Q .non o,rt:=Q} (start N vs) H):gt P w K mg base vA (k+1) f fd i sp:=by
 obtain⟨r,p,kV,j,v,u,b,ct,l,rfl,m,d⟩:=F.ex;refine Lo m d S e λA a s H vs Q E n g=>?_
 obtain⟨t,h,q⟩:=c b A a s H vs Q E n g;exact⟨t,h.nox,q⟩
theorem Fun.binds{st:Stmt}{c:List Str}(F:Fun K x qual st f fd)
 (h: ∀(kV b d:O7) (e:Option Addr) (a ct:O7) (us:List O7),us.length=c.length->bindArgs (Wc x qual (hX st) (dE st) (ay st) .none kV b d e a ct) ⟨us,[]⟩=pure (c.zip us)):ia K fd c []:=by
 obtain⟨k,j,kV,b,d,e,a,ct,i,rfl,l,g⟩:=F.ex;exact .all (h kV b d e a ct)
theorem yJ{st:Stmt}{i:O7}{h g:Option Addr}{d:Array (Option O7)}{kV b e a ct:O7}(l:K.lookup f=some ⟨i,h,.func (Wc x qual (hX st) (dE st) (ay st) .none kV b e g a ct),d⟩)
 (c:X0 K a qual=true) (k:Va K (.ref f)=true):Fun K x qual st f (Wc x qual (hX st) (dE st) (ay st) .none kV b e g a ct):=⟨⟨i,h,kV,b,e,g,a,ct,d,rfl,l,c⟩,k⟩
end
theorem CH {A:Qe}(a:dl k A):A.units+1<cLine:=SY (W6 (by decide:1<=64) _) a.units
theorem kW {n:Nat}(h:n<=1000):n<sizeLine:=SY h (by decide)
section
variable {X:Cx}
theorem pv(i:Nat)(c:X.N[i]? =some x:=by rfl)(hv:wk X.env.scope x:=by first|exact Ro rfl|exact QQ (Ro rfl)|exact QQ (QQ rfl))(b:(x==("__debug__":Str))=false:=by decide)
 (a:(x==("__classdict__":Str))=false:=by decide):PE X (.Name x pos) (Mx i):=KK c hv b a
end
theorem w6 {A B:Prop}(h:B):if false=true then A else B:=by
 rw[if_neg S6];exact h
theorem v7 {A B:Prop}(h:A):if true=true then A else B:=by
 rw[if_pos rfl];exact h
def am(H a:Hp):Prop:= ∀b o,H b=some o->a b=some o
theorem am.refl(H:Hp):am H H:=λ_ _ h=>h
theorem am.trans(a:am H H1)(b:am H1 H2):am H H2:=λc o h=>b c o (a c o h)
theorem am.free(e:am H H')(h:H' l=jct):H l=Option.none:=by
 cases q:H l with
 |none=>rfl
 |some o=>
  rw[e l o q] at h;cases h
theorem am.seq {K:Pk}(e:am H H')(h:SqL K H a xs):SqL K H' a xs:=by
 rcases h with(h|⟨o,h⟩)|h
 ·exact .inl (.inl (e _ _ h))
 ·exact .inl (.inr ⟨o,e _ _ h⟩)
 ·exact .inr h
inductive D where
 |non|bl (b:Bool)|int (i:Int)|str (x:Str)|tup (ds:List D)|lst (ds:List D)
 |scr (ds:List D)
def SqR(K:Pk)(H:Hp)(a:Addr)(xs:List V):Prop:=
 (∃o,H a=some (.frz o (.lst xs)))\/
   ∃(o:Obj) (b:Array O7) (n:Nat),K.lookup a=some o/\o.cls=.type "list"/\o.dict=none/\o.data=.seq b n/\b.size<=PN/\bt xs b.toList
theorem SqR.seq {K:Pk}(h:SqR K H a xs):SqL K H a xs:=h.elim (λh=>.inl (.inr h)) .inr
theorem am.seqR {K:Pk}(e:am H H')(h:SqR K H a xs):SqR K H' a xs:=h.elim (λ⟨o,h⟩=>.inl ⟨o,e _ _ h⟩) .inr
mutual
inductive Rep (K:Pk) (F:Hp):V->D->Prop
 |non:Rep K F .non .non
 |bl {b:Bool}:Rep K F (.bl b) (.bl b)
 |int {i:Int}:Rep K F (.int i) (.int i)
 |str {x:Str}:Rep K F (.str x) (.str x)
 |tup {a:Addr} {xs:List V} {ds:List D}:SqT K F a xs->Reps K F xs ds->Rep K F (.ref a) (.tup ds)
 |lst {a:Addr} {xs:List V} {ds:List D}:F a=some (.lst xs)->Reps K F xs ds->Rep K F (.ref a) (.lst ds)
 |scr {a:Addr} {xs:List V} {ds:List D}:SqR K F a xs->Reps K F xs ds->Rep K F (.ref a) (.scr ds)
inductive Reps (K:Pk) (F:Hp):List V->List D->Prop
 |nil:Reps K F [] []
 |cons {x:V} {d:D} {xs:List V} {ds:List D}:Rep K F x d->Reps K F xs ds->Reps K F (x::xs) (d::ds)
end
theorem am.seqT {K:Pk}(e:am H H')(h:SqT K H a xs):SqT K H' a xs:=by
 rcases h with(h|⟨o,h⟩)|h
 ·exact .inl (.inl (e _ _ h))
 ·exact .inl (.inr ⟨o,e _ _ h⟩)
 ·exact .inr h
mutual
theorem Rep.mono {K:Pk}(s:am F G): ∀ {v:V} {d:D},Rep K F v d->Rep K G v d
 |_,_,.non=>.non
 |_,_,.bl=>.bl
 |_,_,.int=>.int
 |_,_,.str=>.str
 |_,_,.tup h r=>.tup (am.seqT s h) (Reps.mono s r)
 |_,_,.lst h r=>.lst (s _ _ h) (Reps.mono s r)
 |_,_,.scr h r=>.scr (am.seqR s h) (Reps.mono s r)
theorem Reps.mono {K:Pk}(s:am F G): ∀ {v:List V} {d:List D},Reps K F v d->Reps K G v d
 |_,_,.nil=>.nil
 |_,_,.cons r t=>.cons (Rep.mono s r) (Reps.mono s t)
end
section
variable {K:Pk}{F G H:Hp}
theorem Reps.length: ∀ {xs:List V} {ds:List D},Reps K F xs ds->xs.length=ds.length
 |_,_,.nil=>rfl
 |_,_,.cons _ t=>by simp[t.length]
theorem Reps.get: ∀ {xs:List V} {ds:List D} {i:Nat} {d:D},Reps K F xs ds->ds[i]? =some d-> ∃x,xs[i]? =some x/\Rep K F x d
 |_,_,_,_,.nil,e=>by simp at e
 |_,_,0,_,.cons r _,e=>by simp at e;subst e;exact⟨_,rfl,r⟩
 |_,_,i+1,d,.cons _ t,e=>by
  obtain⟨u,a,b⟩:=Reps.get (i:=i) (d:=d) t (by simpa using e);exact⟨u,by simpa using a,b⟩
theorem Reps.get'{i:Nat}(r:Reps K F xs ds)(e:xs[i]? =some x): ∃d,ds[i]? =some d/\Rep K F x d:=by
 have f:=r.length;have g:=(Pu.mp e).1;have b:ds[i]? =some ds[i]:=Pd (by lia);obtain⟨y,a,c⟩:=r.get b;rw[e] at a;cases a;exact⟨_,b,c⟩
theorem Reps.append: ∀ {xs ys:List V} {us a:List D},Reps K F xs us->Reps K F ys a->Reps K F (xs++ys) (us++a)
 |_,_,_,_,.nil,s=>s
 |_,_,_,_,.cons r t,s=>.cons r (Reps.append t s)
theorem Reps.set(r:Rep K F x u): ∀ {xs:List V} {us:List D} (i:Nat),Reps K F xs us->Reps K F (xs.set i x) (us.set i u)
 |_,_,_,.nil=>.nil
 |_,_,0,.cons _ t=>.cons r t
 |_,_,i+1,.cons q t=>.cons q (Reps.set r i t)
theorem Reps.eraseIdx: ∀ {xs:List V} {us:List D} (i:Nat),Reps K F xs us->Reps K F (xs.eraseIdx i) (us.eraseIdx i)
 |_,_,_,.nil=>.nil
 |_,_,0,.cons _ t=>t
 |_,_,i+1,.cons q t=>.cons q (Reps.eraseIdx i t)
theorem Reps.reverse {xs:List V}{us:List D}(h:Reps K F xs us):Reps K F xs.reverse us.reverse:=by
 induction xs generalizing us with
 |nil=>cases h;exact .nil
 |cons x xs a=>
  cases h with
  |cons r t=>simp only[Vt];exact(a t).append (.cons r .nil)
theorem Reps.take: ∀ {xs:List V} {us:List D} (n:Nat),Reps K F xs us->Reps K F (xs.take n) (us.take n)
 |_,_,0,_=>.nil
 |_,_,_+1,.nil=>.nil
 |_,_,n+1,.cons r t=>.cons r (Reps.take n t)
theorem Reps.drop: ∀ {xs:List V} {us:List D} (n:Nat),Reps K F xs us->Reps K F (xs.drop n) (us.drop n)
 |_,_,0,r=>r
 |_,_,_+1,.nil=>.nil
 |_,_,n+1,.cons _ t=>Reps.drop n t
end
abbrev bM:=Addr->Bool
def vw(H:Hp)(hid:bM):Hp:=λb=>if hid b=true then none else H b
def bc(hid:bM)(a:Addr):bM:=λb=>hid b||decide (b=a)
def wT(hid:bM)(a:Addr):bM:=λb=>hid b&& !decide (b=a)
theorem bX:vw H hid b=some o↔hid b=false/\H b=some o:=by
 unfold vw;cases hb:hid b<;>simp
theorem dq(H:Hp)(hid:bM):am (vw H hid) H:=λb o h=>(bX.mp h).2
theorem aX{hid:bM}(s:am H H'):am (vw H hid) (vw H' hid):=λb o h=>bX.mpr ⟨(bX.mp h).1,s _ _ (bX.mp h).2⟩
theorem Ac(s: ∀b o,H b=some o->hid b=false->H' b=some o):am (vw H hid) (vw H' hid):=λb o h=>bX.mpr ⟨(bX.mp h).1,s _ _ (bX.mp h).2 (bX.mp h).1⟩
theorem fX(h:hid a=true):vw (bY H a o) hid=vw H hid:=by
 funext b;unfold vw bY
 by_cases e:b=a
 ·subst e;simp[h]
 ·simp[e]
theorem hJ(h: ∀b,hid' b=true->hid b=true):am (vw H hid) (vw H hid'):=λb o q=>by
 obtain⟨a,c⟩:=bX.mp q;refine bX.mpr ⟨?_,c⟩;cases e:hid' b with
 |false=>rfl
 |true=>rw[h b e] at a;cases a
theorem u7(h:H a=none):vw (bY H a o) (bc hid a)=vw H hid:=by
 funext b;unfold vw bY bc
 by_cases e:b=a
 ·subst e;cases hb:hid b<;>simp[h]
 ·simp[e]
inductive NO where
 |l (ds:List D)
 |k (kvs:List (ly×D))
inductive Ob where
 |nst (us:List NO)
 |dR (kvs:List (ly×D))
 |dRs (l:List (List (ly×D)))
 |exc (x:Str) (n:Int)
 |dK (kvs:List (ly×D))
 |dT (kvs:List (List ly×D))
 |set (ds:List D)
 |old (d:D)
 |jnk
 |tset (ks:List (List Int))
 |dF (kvs:List (List ly×D))
 |dQ (kvs:List (List ly×D))
 |frs (d:D)
inductive Sl where
 |no
 |v (d:D)
 |own (ds:List D)
 |arg (ds:List D)
 |ob (b:Ob)
abbrev aF:=List Sl
structure Ct where
 H₀:Hp
 hid₀:bM
 mu:Addr->Bool
def MA(K:Pk)(x:Str)(n:Int)(a:Addr)(h:Heap):Prop:= ∃C o,T7 K Qx x=some (some (.ref C))/\h.get? a=some o/\o.cls=.ref C/\o.dict=none/\W.notCls o=true
def xL:Option HO->Bool
 |some (.lst _)=>true
 |_=>false
def fv(c:Ct)(F:Hp):Hp:=λb=>if(c.H₀ b).isSome=true/\xL (F b)=true then none else F b
def ov(c:Ct)(F:Hp):Hp:=λb=>if(c.H₀ b).isSome=true then F b else none
theorem ju {c:Ct}:fv c F b=some o↔(xL (some o)=true->c.H₀ b=none)/\F b=some o:=by
 unfold fv;constructor
 ·intro h;split at h
  ·cases h
  ·rename_i f
   refine⟨λq=>?_,h⟩;rw[h] at f;cases hb:c.H₀ b with
   |none=>rfl
   |some u=>exact absurd ⟨by rw[hb];rfl,q⟩ f
 ·rintro⟨g,e⟩;rw[if_neg,e];rintro⟨a,d⟩;rw[e] at d;rw[g d] at a;cases a
theorem jm {c:Ct}:ov c F b=some o↔(∃u,c.H₀ b=some u)/\F b=some o:=by
 unfold ov;cases hb:c.H₀ b<;>simp
theorem AK(s:am F G):am (fv c F) (fv c G):=λb o h=>ju.mpr ⟨(ju.mp h).1,s _ _ (ju.mp h).2⟩
theorem GQ(s:am F G):am (ov c F) (ov c G):=λb o h=>jm.mpr ⟨(jm.mp h).1,s _ _ (jm.mp h).2⟩
def NOk(K:Pk)(c:Ct)(hid:bM)(H:Hp)(p a:Addr):NO->Prop
 | .l ds=>(hid a=true/\c.H₀ a=none)/\ ∃xs:List V,H a=some (.nst p (.lst xs))/\Reps K (vw H hid) xs ds
 | .k b=>(hid a=true/\c.H₀ a=none)/\ ∃us:List (ly×V),H a=some (.nst p (.dK us))/\us.map (·.1)=b.map (·.1)/\Reps K (vw H hid) (us.map (·.2)) (b.map (·.2))
theorem NOk.mono {K:Pk}{hid d:bM}(h:NOk K c hid H p a b)(k: ∀u,H a=some (.nst p u)->H' a=some (.nst p u))(s:am (vw H hid) (vw H' d))(w:(∃u,H a=some (.nst p u))->d a=true):NOk K c d H' p a b:=by
 cases b with
 |l ds=>obtain⟨f,us,e,g⟩:=h;exact⟨⟨w ⟨_,e⟩,f.2⟩,us,k _ e,g.mono s⟩
 |k i=>obtain⟨f,us,e,g,j⟩:=h;exact⟨⟨w ⟨_,e⟩,f.2⟩,us,k _ e,g,j.mono s⟩
def DRd(K:Pk)(W:Hp)(a:Addr)(b:List (ly×D)):Prop:= ∃o us,W a=some (.frz o (.dK us))/\us.map (·.1)=b.map (·.1)/\Reps K W (us.map (·.2)) (b.map (·.2))
theorem DRd.mono {K:Pk}(h:DRd K W a kvs)(s:am W W'):DRd K W' a kvs:=by
 obtain⟨o,us,b,c,d⟩:=h;exact⟨o,us,s _ _ b,c,d.mono s⟩
def DQd(K:Pk)(W:Hp)(a:Addr)(b:List (List ly×D)):Prop:= ∃o us,W a=some (.frz o (.dT us))/\us.map (·.1)=b.map (·.1)/\Reps K W (us.map (·.2)) (b.map (·.2))
theorem DQd.mono {K:Pk}(h:DQd K W a kvs)(s:am W W'):DQd K W' a kvs:=by
 obtain⟨o,us,b,c,d⟩:=h;exact⟨o,us,s _ _ b,c,d.mono s⟩
def i4(K:Pk)(c:Ct)(hid:bM)(H:Hp)(a:Addr):Ob->Prop
 | .nst us=>(hid a=true/\c.H₀ a=none)/\ ∃bs:List Addr,H a=some (.lst (bs.map V.ref))/\bs.Nodup/\Paired (NOk K c hid H a) bs us
 | .dR b=>DRd K (vw H hid) a b
 | .dQ b=>DQd K (vw H hid) a b
 | .frs d=>Rep K (fv c (vw H hid)) (.ref a) d
 | .dRs l=> ∃bs:List Addr,vw H hid a=some (.lst (bs.map V.ref))/\Paired (DRd K (vw H hid)) bs l
 | .exc x n=> ∃φ,vw H hid a=some (.ext φ)/\ ∀h,φ h->MA K x n a h
 | .dK b=>(hid a=true/\c.H₀ a=none)/\ ∃us:List (ly×V),H a=some (.dK us)/\us.map (·.1)=b.map (·.1)/\Reps K (vw H hid) (us.map (·.2)) (b.map (·.2))
 | .dT b=>(hid a=true/\c.H₀ a=none)/\ ∃us:List (List ly×V),H a=some (.dT us)/\us.map (·.1)=b.map (·.1)/\Reps K (vw H hid) (us.map (·.2)) (b.map (·.2))
 | .set ds=>(hid a=true/\c.H₀ a=none)/\ ∃xs:List V,H a=some (.lst xs)/\Reps K (fv c (vw H hid)) xs ds
 | .old d=>Rep K (ov c (vw H hid)) (.ref a) d
 | .jnk=>(hid a=true/\c.H₀ a=none)/\ ∃xs:List V,H a=some (.lst xs)
 | .tset ks=>(hid a=true/\c.H₀ a=none)/\ ∃xs:List (List Int×Addr),H a=some (.tst xs)/\(xs.map (·.1)).Perm ks/\Reps K (vw H hid) (xs.map λx=>V.ref x.2) (xs.map λx=>D.tup (x.1.map D.int))
 | .dF b=>(hid a=true/\c.H₀ a=none)/\ ∃(o:Obj) (us:List (List ly×V)),H a=some (.frz o (.dT us))/\us.map (·.1)=b.map (·.1)/\Reps K (vw H hid) (us.map (·.2)) (b.map (·.2))
def tM:Ob->Prop
 | .exc _ _=>False
 | .old _=>False
 | .dR _=>False
 | .dRs _=>False
 | .dQ _=>False
 | .frs _=>False
 |_=>True
def At(H:Hp)(a x:Addr):Prop:=x=a\/ ∃u,H x=some (.nst a u)
theorem At.ne(f:At H a' x)(ne:a'≠a)(d:H a=some o)(c: ∀p u,o≠ .nst p u:=by intro _ _ e;cases e):x≠a:=λe=>by
 subst e;rcases f with rfl|⟨u,b⟩
 ·exact ne rfl
 ·rw[d] at b;cases b;exact c _ _ rfl
theorem i4.mono {K:Pk}{hid g:bM}(h:i4 K c hid H a b)(k:tM b-> ∀x,At H a x-> ∀o,H x=some o->H' x=some o)(s:am (vw H hid) (vw H' g))(w:tM b-> ∀x,At H a x->hid x=true->g x=true):i4 K c g H' a b:=by
 have p:tM b-> ∀o,H a=some o->H' a=some o:=λo=>k o a (.inl rfl)
 have r:tM b->hid a=true->g a=true:=λo=>w o a (.inl rfl)
 cases b with
 |nst us=>
  obtain⟨e,bs,f,j,m⟩:=h;refine⟨⟨r trivial e.1,e.2⟩,bs,p trivial _ f,j,Paired.mapP m λx y z=>z.mono (λu q=>k trivial x (.inr ⟨u,q⟩) _ q) s λq=>w trivial x (.inr q) ?_⟩;cases y with
  |l ds=>exact z.1.1
  |k i=>exact z.1.1
 |dR i=>exact DRd.mono h s
 |dQ i=>exact DQd.mono h s
 |frs d=>exact Rep.mono (AK s) h
 |dRs l=>obtain⟨bs,e,f⟩:=h;exact⟨bs,s _ _ e,Paired.mapP f λ_ _ z=>z.mono s⟩
 |exc x n=>obtain⟨φ,e,f⟩:=h;exact⟨φ,s _ _ e,f⟩
 |dK i=>obtain⟨e,us,f,j,m⟩:=h;exact⟨⟨r trivial e.1,e.2⟩,us,p trivial _ f,j,m.mono s⟩
 |dT i=>obtain⟨e,us,f,j,m⟩:=h;exact⟨⟨r trivial e.1,e.2⟩,us,p trivial _ f,j,m.mono s⟩
 |set ds=>obtain⟨e,us,f,j⟩:=h;exact⟨⟨r trivial e.1,e.2⟩,us,p trivial _ f,j.mono (AK s)⟩
 |old d=>exact Rep.mono (GQ s) h
 |jnk=>obtain⟨e,us,f⟩:=h;exact⟨⟨r trivial e.1,e.2⟩,us,p trivial _ f⟩
 |tset ks=>obtain⟨e,us,f,j,m⟩:=h;exact⟨⟨r trivial e.1,e.2⟩,us,p trivial _ f,j,m.mono s⟩
 |dF i=>obtain⟨e,o,us,f,j,m⟩:=h;exact⟨⟨r trivial e.1,e.2⟩,o,us,p trivial _ f,j,m.mono s⟩
theorem i4.hid {K:Pk}{c:Ct}{hid:bM}{H:Hp}{a:Addr}{b:Ob}(h:i4 K c hid H a b)(o:tM b):hid a=true:=by
 cases b with
 |nst us=>exact h.1.1
 |dQ kvs=>exact o.elim
 |frs d=>exact o.elim
 |dR kvs=>exact o.elim
 |dRs l=>exact o.elim
 |exc x n=>exact o.elim
 |dK kvs=>exact h.1.1
 |dT kvs=>exact h.1.1
 |set ds=>exact h.1.1
 |old d=>exact o.elim
 |jnk=>exact h.1.1
 |tset ks=>exact h.1.1
 |dF kvs=>exact h.1.1
def kn(K:Pk)(c:Ct)(hid:bM)(σ:St)(H:Hp)(i:Nat):Sl->Prop
 | .no=>True
 | .v d=> ∃x,σ[i]? =some (some x)/\Rep K (vw H hid) x d
 | .own ds=> ∃a xs,σ[i]? =some (some (.ref a))/\H a=some (.lst xs)/\hid a=true/\c.H₀ a=none/\Reps K (vw H hid) xs ds
 | .arg ds=> ∃a xs,σ[i]? =some (some (.ref a))/\H a=some (.lst xs)/\hid a=true/\c.mu a=true/\Reps K (vw H hid) xs ds
 | .ob b=> ∃a,σ[i]? =some (some (.ref a))/\i4 K c hid H a b
def Ow:Option Sl->Prop
 |some (.own _)=>True
 |some (.arg _)=>True
 |some (.ob b)=>tM b
 |_=>False
structure SR(K:Pk)(c:Ct)(hid:bM)(ρ:aF)(σ:St)(H:Hp):Prop where
 tr: ∀b,hid b=true-> ∃o,H b=some o
 ht: ∀b xs,hid b=true->H b≠some (.tup xs)
 h0: ∀b,c.hid₀ b=true->hid b=true
 kp: ∀b o,c.H₀ b=some o->c.mu b=false->H b=some o
 t0: ∀b o,c.H₀ b=some o-> ∃o',H b=some o'
 c0: ∀b,c.hid₀ b=true-> ∃o,c.H₀ b=some o
 m0: ∀b,c.mu b=true->c.hid₀ b=true
 len:σ.length=ρ.length
 sl: ∀(i:Nat) (s:Sl),ρ[i]? =some s->kn K c hid σ H i s
 ap: ∀(i j:Nat) (a:Addr),i≠j->Ow ρ[i]? ->Ow ρ[j]? ->σ[i]? =some (some (.ref a))->σ[j]? =some (some (.ref a))->False
section
variable {K:Pk}{c:Ct}{hid:bM}{ρ:aF}{σ:St}{H H':Hp}{i:Nat}
theorem kn.ext(h:kn K c hid σ H i s)(e:am H H'):kn K c hid σ H' i s:=by
 cases s with
 |no=>trivial
 |v d=>obtain⟨x,g,f⟩:=h;exact⟨x,g,f.mono (aX e)⟩
 |own ds=>obtain⟨a,xs,g,f,l,k,j⟩:=h;exact⟨a,xs,g,e _ _ f,l,k,j.mono (aX e)⟩
 |arg ds=>obtain⟨a,xs,g,f,l,k,j⟩:=h;exact⟨a,xs,g,e _ _ f,l,k,j.mono (aX e)⟩
 |ob b=>obtain⟨a,g,f⟩:=h;exact⟨a,g,f.mono (λ_ x _=>e x) (aX e) λ_ _ _ q=>q⟩
theorem SR.ext(h:SR K c hid ρ σ H)(e:am H H'):SR K c hid ρ σ H' where
 tr:=λb a=>let⟨o,q⟩:=h.tr b a;⟨o,e _ _ q⟩
 ht:=λb xs a q=>let⟨o,w⟩:=h.tr b a;by have z:=e _ _ w;rw[q] at z;cases z;exact h.ht b xs a w
 h0:=h.h0
 kp:=λb o q m=>e _ _ (h.kp b o q m)
 t0:=λb o q=>let⟨o',q'⟩:=h.t0 b o q;⟨o',e _ _ q'⟩
 c0:=h.c0
 m0:=h.m0
 len:=h.len
 sl:=λi s q=>(h.sl i s q).ext e
 ap:=h.ap
def Lj(hid:bM)(H:Hp):Prop:=(∀b,hid b=true-> ∃o,H b=some o)/\ ∀b xs,hid b=true->H b≠some (.tup xs)
theorem SR.trk(h:SR K c hid ρ σ H):Lj hid H:=⟨h.tr,h.ht⟩
theorem SR.fresh(h:SR K c hid ρ σ H){a:Addr}(n:H a=none):hid a=false:=by
 cases e:hid a with
 |false=>rfl
 |true=>obtain⟨o,q⟩:=h.tr a e;rw[n] at q;cases q
theorem SR.fresh0(h:SR K c hid ρ σ H)(n:H a=none):c.H₀ a=none:=by
 cases e:c.H₀ a with
 |none=>rfl
 |some o=>obtain⟨b,q⟩:=h.t0 a o e;rw[n] at q;cases q
end
inductive Kd where
 |b|s|n
 deriving DecidableEq
def c4(K:Pk)(H W:Hp)(v:V)(d:D):Prop:=Rep K W v d\/ ∃a xs ds,v=.ref a/\d=.lst ds/\H a=some (.lst xs)/\Reps K W xs ds
def RN(K:Pk)(H b:Hp)(hid:bM)(v:V)(d:D):Prop:= ∃a xs ds,d=.lst ds/\v=.ref a/\H a=none/\b a=some (.lst xs)/\Reps K (vw b (bc hid a)) xs ds
def RK(K:Pk)(k:Kd)(H a:Hp)(hid:bM)(v:V)(d:D):Prop:=match k with
 | .b=>c4 K a (vw a hid) v d
 | .s=>Rep K (vw a hid) v d
 | .n=>RN K H a hid v d
section
variable {K:Pk}{c:Ct}{hid:bM}{ρ:aF}{σ:St}{H H' H'':Hp}{i:Nat}{v:V}{d:D}
theorem RN.rep(h:RN K H H' hid v d)(f: ∀a,H a=none->hid a=false):Rep K (vw H' hid) v d:=by
 obtain⟨a,xs,ds,rfl,rfl,c,e,g⟩:=h;refine .lst (bX.mpr ⟨f a c,e⟩) (g.mono (hJ λb q=>?_));unfold bc;rw[q];rfl
theorem RK.b(k:Kd)(h:RK K k H H' hid v d)(c: ∀a,H a=none->hid a=false):c4 K H' (vw H' hid) v d:=by
 cases k with
 |b=>exact h
 |s=>exact .inl h
 |n=>exact .inl (RN.rep h c)
theorem c4.ext {hid:bM}(h:c4 K H (vw H hid) v d)(e:am H H'):c4 K H' (vw H' hid) v d:=by
 rcases h with h|⟨a,xs,ds,b,c,g,f⟩
 ·exact .inl (h.mono (aX e))
 ·exact .inr ⟨a,xs,ds,b,c,e _ _ g,f.mono (aX e)⟩
theorem c4.int {i:Int}(h:c4 K H (vw H hid) v (.int i)):v=.int i:=by
 rcases h with h|⟨a,xs,ds,c,b,_⟩
 ·cases h;rfl
 ·cases b
theorem c4.bl {i:Bool}(h:c4 K H (vw H hid) v (.bl i)):v=.bl i:=by
 rcases h with h|⟨a,xs,ds,c,b,_⟩
 ·cases h;rfl
 ·cases b
theorem c4.str {i:Str}(h:c4 K H (vw H hid) v (.str i)):v=.str i:=by
 rcases h with h|⟨a,xs,ds,c,b,_⟩
 ·cases h;rfl
 ·cases b
theorem c4.non(h:c4 K H (vw H hid) v .non):v=.non:=by
 rcases h with h|⟨a,xs,ds,c,b,_⟩
 ·cases h;rfl
 ·cases b
theorem c4.tup(h:c4 K H (vw H hid) v (.tup ds)): ∃a xs,v=.ref a/\SqT K (vw H hid) a xs/\SqT K H a xs/\Reps K (vw H hid) xs ds:=by
 rcases h with h|⟨a,xs,ds,c,b,_⟩
 ·cases h with
  |tup q r=>exact⟨_,_,rfl,q,am.seqT (dq _ _) q,r⟩
 ·cases b
theorem c4.lst(h:c4 K H (vw H hid) v (.lst ds)): ∃a xs,v=.ref a/\SqL K H a xs/\Reps K (vw H hid) xs ds:=by
 rcases h with h|⟨a,xs,ds,b,c,e,d⟩
 ·cases h with
  |lst q r=>exact⟨_,_,rfl,SqL.of (dq _ _ _ _ q),r⟩
 ·cases c;exact⟨a,xs,b,SqL.of e,d⟩
theorem c4.scr(h:c4 K H (vw H hid) v (.scr ds)): ∃a xs,v=.ref a/\SqL K H a xs/\Reps K (vw H hid) xs ds:=by
 rcases h with h|⟨a,xs,ds,c,b,e,d⟩
 ·cases h with
  |scr q r=>exact⟨_,_,rfl,(dq _ _).seq q.seq,r⟩
 ·cases b
end
theorem PE.imp {X:Cx}(h:PE X e t)(i: ∀σ H Q,t' σ H Q->t σ H Q):PE X e t':=λa s σ H Q I q=>h a s σ H Q I (i σ H Q q)
theorem PT.imp {X:Cx}(h:PT X e t)(i: ∀σ H Q,t' σ H Q->t σ H Q):PT X e t':=λa s σ H Q I q=>h a s σ H Q I (i σ H Q q)
theorem PW.imp {X:Cx}(h:PW X e t)(i: ∀σ H Q,t' σ H Q->t σ H Q):PW X e t':=λa b s σ H Q I q=>h a b s σ H Q I (i σ H Q q)
theorem PA.imp {X:Cx}(h:PA X e t)(i: ∀σ H Q,t' σ H Q->t σ H Q):PA X e t':=λp a s σ H Q I q=>h p a s σ H Q I (i σ H Q q)
theorem PS.imp {X:Cx}(h:PS X e t)(i: ∀D σ H,t' D σ H->t D σ H):PS X e t':=λa s σ H D I q=>h a s σ H D I (i D σ H q)
theorem PSs.imp {X:Cx}(h:PSs X e t)(i: ∀D σ H,t' D σ H->t D σ H):PSs X e t':=λa s σ H D I q=>h a s σ H D I (i D σ H q)
abbrev FE:=aF->Option D
abbrev FT:=aF->Option Bool
abbrev FA:=aF->Option (List D)
def F2(K:Pk)(c:Ct)(hid:bM)(k:Kd)(f:FE)(ρ:aF):TE:=λσ H Q=>SR K c hid ρ σ H/\ ∃d,f ρ=some d/\ ∀v a,am H a->RK K k H a hid v d->Q v a
def NM(K:Pk)(c:Ct)(hid:bM)(f:FT)(ρ:aF):TT:=λσ H Q=>SR K c hid ρ σ H/\ ∃d,f ρ=some d/\ ∀a,am H a->Q d a
def OR(K:Pk)(c:Ct)(hid:bM)(f:FA)(ρ:aF):TA:=λσ H Q=>SR K c hid ρ σ H/\ ∃d,f ρ=some d/\ ∀vs a,am H a->Reps K (vw a hid) vs d->Q vs a
def DP(X:Cx)(c:Ct)(k:Kd)(e:Expr)(f:FE):Prop:= ∀hid ρ,PE X e (F2 X.K c hid k f ρ)
def DT(X:Cx)(c:Ct)(e:Expr)(f:FT):Prop:= ∀hid ρ,PT X e (NM X.K c hid f ρ)
def DW(X:Cx)(c:Ct)(e:Expr)(f:FT):Prop:= ∀hid ρ,PW X e (NM X.K c hid f ρ)
def DA(X:Cx)(c:Ct)(es:List Expr)(f:FA):Prop:= ∀hid ρ,PA X es (OR X.K c hid f ρ)
section
variable {X:Cx}{c:Ct}{e a b:Expr}{es:List Expr}{f g:FE}{k:Kd}{pos:Pos}
theorem DP.toS(h:DP X c .n e f):DP X c .s e f:=λhid ρ=>PE.imp (h hid ρ) λσ H Q ⟨b,d,g,q⟩=>⟨b,d,g,λv i s r=>q v i s (RN.rep r λa n=>b.fresh n)⟩
def ai(i:Nat):FE:=λρ=>match ρ[i]? with
 |some (.v d)=>some d
 |_=>none
def dJ(i:Nat):FE:=λρ=>match ρ[i]? with
 |some (.v d)=>some d
 |some (.own ds)=>some (.lst ds)
 |some (.arg ds)=>some (.lst ds)
 |_=>none
theorem af(i:Nat)(f:X.N[i]? =some x:=by rfl)(hv:wk X.env.scope x:=by first|exact Ro rfl|exact QQ (Ro rfl)|exact QQ (QQ rfl))(a:(x==("__debug__":Str))=false:=by decide)
 (e:(x==("__classdict__":Str))=false:=by decide):DP X c .s (.Name x pos) (ai i):=λhid ρ=>PE.imp (pv i f hv a e) λσ H Q b=>by
 obtain⟨k,d,a,q⟩:=b;unfold ai at a;split at a
 ·rename_i d' h
  cases a;obtain⟨x,j,g⟩:=k.sl i _ h;exact⟨x,j,q x H (am.refl _) g⟩
 ·cases a
theorem eE(i:Nat)(n:X.N[i]? =some x:=by rfl)(hv:wk X.env.scope x:=by first|exact Ro rfl|exact QQ (Ro rfl)|exact QQ (QQ rfl))(e:(x==("__debug__":Str))=false:=by decide)
 (l:(x==("__classdict__":Str))=false:=by decide):DP X c .b (.Name x pos) (dJ i):=λhid ρ=>PE.imp (pv i n hv e l) λσ H Q j=>by
 obtain⟨m,d,e,q⟩:=j;unfold dJ at e;split at e
 ·rename_i d' g
  cases e;obtain⟨x,h,f⟩:=m.sl i _ g;exact⟨x,h,q x H (am.refl _) (.inl f)⟩
 ·rename_i d' g
  cases e;obtain⟨a,xs,h,f,p,o,k⟩:=m.sl i _ g;exact⟨_,h,q _ H (am.refl _) (.inr ⟨a,xs,_,rfl,rfl,f,k⟩)⟩
 ·rename_i d' g
  cases e;obtain⟨a,xs,h,f,p,o,k⟩:=m.sl i _ g;exact⟨_,h,q _ H (am.refl _) (.inr ⟨a,xs,_,rfl,rfl,f,k⟩)⟩
 ·cases e
def aD(d:D):FE:=λ_=>some d
theorem aw{j pos}:DP X c .s (.Constant (.int i) j pos) (aD (.int i)):=λhid ρ=>PE.imp Kz λσ H Q a=>by
 obtain⟨e,d,b,q⟩:=a;cases b;exact q _ H (am.refl _) .int
theorem lJ{j pos}:DP X c .s (.Constant (.bool i) j pos) (aD (.bl i)):=λhid ρ=>PE.imp LI λσ H Q a=>by
 obtain⟨e,d,b,q⟩:=a;cases b;exact q _ H (am.refl _) .bl
def av(F:D->D->Option D)(f g:FE):FE:=λρ=>(f ρ).bind λx=>(g ρ).bind λy=>F x y
theorem wW(h:av F f g ρ=some d): ∃x y,f ρ=some x/\g ρ=some y/\F x y=some d:=by
 unfold av at h;cases e1:f ρ with
 |none=>rw[e1] at h;cases h
 |some x=>
  cases e2:g ρ with
  |none=>rw[e1,e2] at h;cases h
  |some y=>rw[e1,e2] at h;exact⟨x,y,rfl,rfl,h⟩
def ph(K:Pk)(k:Kd)(r:R2)(F:D->D->Option D):Prop:= ∀(H:Hp) (hid:bM) (v u:V) (x y d:D) (Q:VK),(∀a,H a=none->hid a=false)->F x y=some d->c4 K H (vw H hid) v x->c4 K H (vw H hid) u y->
 (∀w b,am H b->RK K k H b hid w d->Q w b)->r v u H Q
theorem RK.left {K:Pk}(s:am H H1)(h:RK K k H1 H' hid v d):RK K k H H' hid v d:=by
 cases k with
 |b=>exact h
 |s=>exact h
 |n=>
  obtain⟨a,xs,ds,c,e,g,f⟩:=h;exact⟨a,xs,ds,c,e,s.free g,f⟩
theorem MZ{F:D->D->Option D}(s:ph X.K k r F){H:Hp}(h:F2 X.K c hid k (av F f g) ρ σ H Q):Lc r (F2 X.K c hid k1 f ρ) (F2 X.K c hid k2 g ρ) σ H Q:=by
 obtain⟨i,d,t,q⟩:=h;obtain⟨x,y,B,l,C⟩:=wW t;refine⟨i,x,B,λv I e z=>⟨i.ext e,y,l,λu p s2 o=>?_⟩⟩;have j:=(RK.b k1 z λa n=>i.fresh n).ext s2;have E:=RK.b k2 o λa n=>(i.ext e).fresh n
 exact s p hid v u x y d Q (λa n=>((i.ext e).ext s2).fresh n) C j E λw G m A=>q w G ((e.trans s2).trans m) (RK.left (e.trans s2) A)
theorem qR(i:lu X (Tx op) r)(d:ph X.K k r F)(e:DP X c k1 a f)(j:DP X c k2 b g):DP X c k (.BinOp a op b pos) (av F f g):=λhid ρ=>
 PE.imp (Iu i (e hid ρ) (j hid ρ)) λσ H Q h=>MZ d h
theorem qU(j:lu X (Rg op) r)(e:ph X.K .s r F)(i:DP X c k1 a f)(d:DP X c k2 b g)(k:SH op b=false):DP X c .s (.Compare a [op] [b] pos) (av F f g):=λhid ρ=>
 PE.imp (G6 j (i hid ρ) (d hid ρ) k) λσ H Q h=>MZ e h
def Cb:Option D->Option Bool
 |some (.bl b)=>some b
 |_=>none
theorem bP(o:lu X (Rg op) r)(m:ph X.K .s r F)(n:DP X c k1 a f)(l:DP X c k2 b g)(p:SH op b=false):DT X c (.Compare a [op] [b] pos) (λρ=>Cb (av F f g ρ)):=λhid ρ=>
 PT.imp (HL o (n hid ρ) (l hid ρ) p) λσ H Q i=>by
  obtain⟨j,d,h,q⟩:=i;refine MZ (X:=X) (k:=.s) (F:=F) m ?_
  dsimp only at h;cases e:av F f g ρ with
  |none=>rw[e] at h;cases h
  |some x=>
   rw[e] at h;cases x with
   |bl z=>
    cases h;refine⟨j,_,e,λv t s r=>⟨d,?_,q t s⟩⟩;cases r;rfl
   |_=>cases h
theorem a8(j:IxR X r)(e:ph X.K k r F)(i:DP X c k1 a f)(d:DP X c k2 b g)(l:uf b):DP X c k (.Subscript a b pos) (av F f g):=λhid ρ=>
 PE.imp (IW j (i hid ρ) (d hid ρ) l) λσ H Q h=>MZ e h
end
def i2(C:Int->Int->Bool)(G:Int->Int->D):D->D->Option D
 | .int i,.int j=>if C i j=true then some (G i j) else none
 |_,_=>none
section
variable {K:Pk}
theorem pM(h:i2 C G x y=some d): ∃i j,x=.int i/\y=.int j/\C i j=true/\d=G i j:=by
 unfold i2 at h;split at h
 ·split at h
  ·cases h;exact⟨_,_,rfl,rfl, ‹_›,rfl⟩
  ·cases h
 ·cases h
theorem G8{g:Int->Int->Int}(b: ∀i j,B i j=true->C i j):ph K .s (rI C λi j=>.int (g i j)) (i2 B λi j=>.int (g i j)):=by
 intro H hid v u x y d Q f h c a q;obtain⟨i,j,rfl,rfl,e,rfl⟩:=pM h;cases c.int;cases a.int;exact⟨i,j,rfl,rfl,b i j e,q _ H (am.refl _) .int⟩
theorem IV {g:Int->Int->Int}:ph K .s (GI λi j=>.int (g i j)) (i2 (λ_ _=>true) λi j=>.int (g i j)):=by
 intro H hid v u x y d Q e h b a q;obtain⟨i,j,rfl,rfl,c,rfl⟩:=pM h;cases b.int;cases a.int;exact⟨i,j,rfl,rfl,q _ H (am.refl _) .int⟩
theorem oY {g:Int->Int->Bool}:ph K .s (GI λi j=>.bl (g i j)) (i2 (λ_ _=>true) λi j=>.bl (g i j)):=by
 intro H hid v u x y d Q e h b a q;obtain⟨i,j,rfl,rfl,c,rfl⟩:=pM h;cases b.int;cases a.int;exact⟨i,j,rfl,rfl,q _ H (am.refl _) .bl⟩
end
section
variable {X:Cx}{c:Ct}{e a b:Expr}{es rest:List Expr}{f g:FE}{p q:FT}{k:Kd}{pos:Pos}
def Gw:D->Option Bool
 | .non=>some false
 | .bl b=>some b
 | .int i=>some (i !=0)
 | .str y=>if y.length<=PN then some ((y.length:Int) !=0) else none
 | .lst ds=>some (!ds.isEmpty)
 | .tup ds=>some (!ds.isEmpty)
 | .scr ds=>some (!ds.isEmpty)
theorem Reps.isEmpty {K:Pk}{xs:List V}{ds:List D}(r:Reps K F xs ds):xs.isEmpty=ds.isEmpty:=by cases r<;>rfl
theorem Eh {K:Pk}{b:Bool}(h:Gw d=some b)(r:c4 K H (vw H hid) v d):J2 K v H b:=by
 cases d with
 |non=>cases r.non;cases h;rfl
 |bl x=>cases r.bl;cases h;rfl
 |int i=>cases r.int;cases h;rfl
 |str y=>
  cases r.str;have h':(if y.length<=PN then some ((y.length:Int) !=0) else none)=some b:=h;split at h'
  ·cases h';exact⟨‹_›,rfl⟩
  ·cases h'
 |lst ds=>
  obtain⟨a,xs,rfl,e,c⟩:=r.lst;cases h;exact .inl ⟨xs,e,by rw[c.isEmpty]⟩
 |tup ds=>
  obtain⟨a,xs,rfl,_,e,c⟩:=r.tup;cases h;exact .inr (.inl ⟨xs,e,by rw[c.isEmpty]⟩)
 |scr ds=>
  obtain⟨a,xs,rfl,e,c⟩:=r.scr;cases h;exact .inl ⟨xs,e,by rw[c.isEmpty]⟩
def fQ(f:FE):FT:=λρ=>(f ρ).bind Gw
theorem kH(l:DP X c k a f)(m: ∀g,isTrue a X.env g=(do let v <-g;UV a.pos;Tp [v] (truthy v)):=by intro _;rfl):DT X c a (fQ f):=λhid ρ=>
 PT.imp (xu (l hid ρ) m) λσ H Q i=>by
  obtain⟨j,d,h,q⟩:=i;unfold fQ at h;cases e:f ρ with
  |none=>rw[e] at h;cases h
  |some x=>
   rw[e] at h;exact⟨j,x,e,λv o s r=>⟨d,Eh h (RK.b k r λa n=>j.fresh n),q o s⟩⟩
def gS(p q:FT):FT:=λρ=>(p ρ).bind λb=>if b=true then q ρ else some false
def Fu(p q:FT):FT:=λρ=>(p ρ).bind λb=>if b=true then some true else q ρ
def jR(p:FT):FT:=λρ=>(p ρ).map (!·)
theorem pH(b:DT X c a p):DW X c (.BoolOp .And [a] pos) p:=λhid ρ=>k4 (b hid ρ)
theorem D1(b:DT X c a p):DW X c (.BoolOp .Or [a] pos) p:=λhid ρ=>lm (b hid ρ)
theorem vh(ha:DT X c a p)(hb:DW X c (.BoolOp .And (b::rest) pos) q):DW X c (.BoolOp .And (a::b::rest) pos) (gS p q):=λhid ρ=>
 PW.imp (lA (ha hid ρ) (hb hid ρ)) λσ H Q hq_=>by
  obtain⟨sr,d,hd,hq⟩:=hq_;unfold gS at hd;cases e:p ρ with
  |none=>rw[e] at hd;cases hd
  |some x=>
   rw[e] at hd;refine⟨sr,x,e,λH1 s1=>?_⟩;cases x with
   |true=>exact v7 ⟨sr.ext s1,d,hd,λH2 s2=>hq H2 (s1.trans s2)⟩
   |false=>cases hd;exact w6 (hq H1 s1)
theorem IL(ha:DT X c a p)(hb:DW X c (.BoolOp .Or (b::rest) pos) q):DW X c (.BoolOp .Or (a::b::rest) pos) (Fu p q):=λhid ρ=>
 PW.imp (lC (ha hid ρ) (hb hid ρ)) λσ H Q hq_=>by
  obtain⟨sr,d,hd,hq⟩:=hq_;unfold Fu at hd;cases e:p ρ with
  |none=>rw[e] at hd;cases hd
  |some x=>
   rw[e] at hd;refine⟨sr,x,e,λH1 s1=>?_⟩;cases x with
   |false=>exact w6 ⟨sr.ext s1,d,hd,λH2 s2=>hq H2 (s1.trans s2)⟩
   |true=>cases hd;exact v7 (hq H1 s1)
theorem DW.dt(h:DW X c e p):DT X c e p:=λhid ρ=>(h hid ρ).pt
theorem yA(g:DT X c a p):DT X c (.UnaryOp .Not a pos) (jR p):=λhid ρ=>
 PT.imp (Ey (g hid ρ)) λσ H Q f=>by
  obtain⟨i,d,b,h⟩:=f;unfold jR at b;cases e:p ρ with
  |none=>rw[e] at b;cases b
  |some x=>rw[e] at b;cases b;exact⟨i,x,e,λj k=>h j k⟩
def A4(p:FT):FE:=λρ=>(p ρ).map D.bl
def bJ(f:FE):FT:=λρ=>Cb (f ρ)
theorem mQ{b:Bool}(h:bJ f ρ=some b):f ρ=some (.bl b):=by
 unfold bJ Cb at h;split at h
 ·cases h;assumption
 ·cases h
theorem Fy(ha:DP X c .s a f)(hb:DP X c .s (.BoolOp .And (b::rest) pos) g):DP X c .s (.BoolOp .And (a::b::rest) pos) (A4 (gS (bJ f) (bJ g))):=λhid ρ=>
 PE.imp (Jq (ha hid ρ) (hb hid ρ)) λσ H Q hq_=>by
  obtain⟨sr,d,hd,hq⟩:=hq_;unfold A4 gS at hd;cases e:bJ f ρ with
  |none=>rw[e] at hd;cases hd
  |some x=>
   rw[e] at hd;refine⟨sr,_,mQ e,λv H1 s1 r=>?_⟩;cases r;refine⟨x,rfl,?_⟩;cases x with
   |true=>
    refine v7 ?_
    cases e2:bJ g ρ with
    |none=>rw[show(some true:Option Bool).bind (λb=>if b=true then bJ g ρ else some false)=bJ g ρ from rfl,e2] at hd;cases hd
    |some y=>
     rw[show(some true:Option Bool).bind (λb=>if b=true then bJ g ρ else some false)=bJ g ρ from rfl,e2] at hd;cases hd;exact⟨sr.ext s1,_,mQ e2,λv2 H2 s2 r2=>hq v2 H2 (s1.trans s2) r2⟩
   |false=>cases hd;exact w6 (hq _ H1 s1 .bl)
theorem D6 {op}(h:DP X c k a f):DP X c k (.BoolOp op [a] pos) f:=λhid ρ=>Kq (h hid ρ)
theorem yZ(h:DP X c .s a f):DP X c .s (.UnaryOp .Not a pos) (A4 (jR (bJ f))):=λhid ρ=>
 PE.imp (J7 (h hid ρ)) λσ H Q g=>by
  obtain⟨j,d,b,i⟩:=g;unfold A4 jR at b;cases e:bJ f ρ with
  |none=>rw[e] at b;cases b
  |some x=>
   rw[e] at b;cases b;refine⟨j,_,mQ e,λv k l r=>?_⟩;cases r;exact⟨x,rfl,i _ k l .bl⟩
def Iv(p:FT)(f g:FE):FE:=λρ=>(p ρ).bind λb=>if b=true then f ρ else g ρ
theorem Lz {t:Expr}(hk:k≠ .n)(ht:DT X c t p)(ha:DP X c k a f)(hb:DP X c k b g):DP X c k (.IfExp t a b pos) (Iv p f g):=λhid ρ=>
 PE.imp (FI (ht hid ρ) (ha hid ρ) (hb hid ρ)) λσ H Q hq_=>by
  obtain⟨sr,d,hd,hq⟩:=hq_;unfold Iv at hd;cases e:p ρ with
  |none=>rw[e] at hd;cases hd
  |some x=>
   rw[e] at hd;refine⟨sr,x,e,λH1 s1=>?_⟩;have lf: ∀ {v H2},RK X.K k H1 H2 hid v d->RK X.K k H H2 hid v d:=λ{v H2} r=>RK.left s1 r
   cases x with
   |true=>exact v7 ⟨sr.ext s1,d,hd,λv H2 s2 r=>hq v H2 (s1.trans s2) (lf r)⟩
   |false=>exact w6 ⟨sr.ext s1,d,hd,λv H2 s2 r=>hq v H2 (s1.trans s2) (lf r)⟩
variable {r r':R2}{h:FE}{e3:Expr}
def E6(F G:D->D->Option D)(f g h:FE):FE:=λρ=>(f ρ).bind λx=>(g ρ).bind λy=>(Cb (F x y)).bind λk=>if k=true then(h ρ).bind λz=>G y z else some (.bl false)
theorem Fo {F G:D->D->Option D}{k1 k2 k3:Kd}{hid:bM}{ρ:aF}(hF:ph X.K .s r F)(hG:ph X.K .s r' G){σ:St}{H:Hp}{Q:VK}(hh:F2 X.K c hid .s (E6 F G f g h) ρ σ H Q):
 yF r r' (F2 X.K c hid k1 f ρ) (F2 X.K c hid k2 g ρ) (F2 X.K c hid k3 h ρ) σ H Q:=by
 obtain⟨sr,d,hd,q⟩:=hh;unfold E6 at hd;cases e1:f ρ with
 |none=>rw[e1] at hd;cases hd
 |some x=>
  cases e2:g ρ with
  |none=>rw[e1,e2] at hd;cases hd
  |some y=>
   rw[e1,e2] at hd;have hd':(Cb (F x y)).bind (λk=>if k=true then(h ρ).bind λz=>G y z else some (.bl false))=some d:=hd;cases e3:F x y with
   |none=>rw[e3] at hd';cases hd'
   |some z=>
    cases z with
    |bl kk=>
     rw[e3] at hd';refine⟨sr,x,e1,λv H1 s1 r1=>⟨sr.ext s1,y,e2,λu H2 s2 r2=>?_⟩⟩;have b1:=(RK.b k1 r1 λa n=>sr.fresh n).ext s2;have b2:=RK.b k2 r2 λa n=>(sr.ext s1).fresh n
     have fr: ∀a,H2 a=none->hid a=false:=λa n=>((sr.ext s1).ext s2).fresh n
     refine hF H2 hid v u x y _ _ fr e3 b1 b2 λw H3 s3 r3=>?_
     cases r3;refine⟨kk,rfl,?_⟩;cases kk with
     |false=>cases hd';exact w6 (q _ H3 ((s1.trans s2).trans s3) .bl)
     |true=>
      refine v7 ?_
      cases e4:h ρ with
      |none=>rw[e4] at hd';cases hd'
      |some z=>
       rw[e4] at hd';have hd2:G y z=some d:=hd';refine⟨((sr.ext s1).ext s2).ext s3,z,e4,λw' H4 s4 r4=>?_⟩;have b3:=RK.b k3 r4 λa n=>(((sr.ext s1).ext s2).ext s3).fresh n
       exact hG H4 hid u w' y z d Q (λa n=>((((sr.ext s1).ext s2).ext s3).ext s4).fresh n) hd2 ((b2.ext s3).ext s4) b3 λw2 H5 s5 r5=>q w2 H5 ((((s1.trans s2).trans s3).trans s4).trans s5) r5
    |_=>rw[e3] at hd';cases hd'
theorem Mn(l:lu X (Rg op) r)(d:lu X (Rg op') r')(j:ph X.K .s r F)(o:ph X.K .s r' G)(k:DP X c k1 a f)(i:DP X c k2 b g)(m:DP X c k3 e3 h)
 (n:Yt [op,op'] [b,e3]=false:=by with_unfolding_all rfl):DP X c .s (.Compare a [op,op'] [b,e3] pos) (E6 F G f g h):=λhid ρ=>
 PE.imp (DH l d (k hid ρ) (i hid ρ) (m hid ρ) n) λσ H Q e=>Fo j o e
theorem Mi(o:lu X (Rg op) r)(i:lu X (Rg op') r')(l:ph X.K .s r F)(w:ph X.K .s r' G)(n:DP X c k1 a f)(k:DP X c k2 b g)(p:DP X c k3 e3 h)
 (t:Yt [op,op'] [b,e3]=false:=by with_unfolding_all rfl):DT X c (.Compare a [op,op'] [b,e3] pos) (bJ (E6 F G f g h)):=λhid ρ=>
 PT.imp (D9 o i (n hid ρ) (k hid ρ) (p hid ρ) t) λσ H Q e=>by
  obtain⟨j,d,m,q⟩:=e;refine Fo (X:=X) (F:=F) (G:=G) l w ⟨j,_,mQ m,λv u s r=>⟨d,?_,q u s⟩⟩;cases r;rfl
end
section
variable {X:Cx}{c:Ct}{e a b:Expr}{es rest:List Expr}{f g:FE}{fs:FA}{k:Kd}{pos:Pos}
def aj:FA:=λ_=>some []
def aa(f:FE)(a:FA):FA:=λρ=>(f ρ).bind λd=>(a ρ).map λr=>d::r
theorem rq(h:aa f fs ρ=some ds): ∃d r,f ρ=some d/\fs ρ=some r/\ds=d::r:=by
 unfold aa at h;cases e1:f ρ with
 |none=>rw[e1] at h;cases h
 |some d=>
  cases e2:fs ρ with
  |none=>rw[e1,e2] at h;cases h
  |some r=>rw[e1,e2] at h;cases h;exact⟨d,r,rfl,rfl,rfl⟩
theorem al:DA X c [] aj:=λhid ρ=>PA.imp fV λσ H Q ⟨b,d,a,q⟩=>by cases a;exact q [] H (am.refl _) .nil
theorem ae(l:DP X c .s e f)(o:DA X c es fs)(n:Pv (e::es) X.env=(false,eval e X.env)::Pv es X.env:=by rfl):DA X c (e::es) (aa f fs):=λhid ρ=>
 PA.imp (c8 (l hid ρ) (o hid ρ) n) λσ H Q a=>by
  obtain⟨g,d,k,q⟩:=a;obtain⟨t,r,p,h,rfl⟩:=rq k;exact⟨g,t,p,λv u b m=>⟨g.ext b,r,h,λvs j s2 i=>q _ j (b.trans s2) (.cons (Rep.mono (aX s2) m) i)⟩⟩
def cx(a:FA):FE:=λρ=>(a ρ).bind λds=>if ds.length<=PN then some (.tup ds) else none
def bI(a:FA):FE:=λρ=>(a ρ).bind λds=>if ds.length<=PN then some (.lst ds) else none
theorem Bv(h:cx fs ρ=some d): ∃ds,fs ρ=some ds/\ds.length<=PN/\d=.tup ds:=by
 unfold cx at h;cases e1:fs ρ with
 |none=>rw[e1] at h;cases h
 |some ds=>
  rw[e1] at h;have h':(if ds.length<=PN then some (D.tup ds) else none)=some d:=h;split at h'
  ·cases h';exact⟨ds,rfl, ‹_›,rfl⟩
  ·cases h'
theorem Bs(h:bI fs ρ=some d): ∃ds,fs ρ=some ds/\ds.length<=PN/\d=.lst ds:=by
 unfold bI at h;cases e1:fs ρ with
 |none=>rw[e1] at h;cases h
 |some ds=>
  rw[e1] at h;have h':(if ds.length<=PN then some (D.lst ds) else none)=some d:=h;split at h'
  ·cases h';exact⟨ds,rfl, ‹_›,rfl⟩
  ·cases h'
theorem aR(h:H p=none)(o:HO):am H (bY H p o):=λb u q=>by rw[aP (bD q h)];exact q
theorem rA {K:Pk}(b:H p=none)(a:hid p=false)(r:Reps K (vw H hid) xs ds):Rep K (vw (bY H p (.tup xs)) hid) (.ref p) (.tup ds):=
 .tup (SqT.of (bX.mpr ⟨a,aT⟩)) (r.mono (aX (aR b _)))
theorem fZ {K:Pk}{hid:bM}(a:H p=none)(s:am H0 H)(r:Reps K (vw H hid) xs ds):RN K H0 (bY H p (.lst xs)) hid (.ref p) (.lst ds):=
 ⟨p,xs,ds,rfl,rfl,s.free a,aT,by rw[u7 a];exact r⟩
theorem cG {x1}(h:DA X c es fs):DP X c .s (.Tuple es x1 pos) (cx fs):=λhid ρ=>PE.imp (JS (h hid ρ)) λσ H Q a=>by
 obtain⟨g,d,i,q⟩:=a;obtain⟨ds,j,k,rfl⟩:=Bv i;exact⟨g,ds,j,λvs l e f=>⟨by rw[f.length];exact k,λp b=>q _ _ (e.trans (aR b _)) (rA b ((g.ext e).fresh b) f)⟩⟩
theorem cA(h:DA X c es fs):DP X c .n (.List es pos) (bI fs):=λhid ρ=>PE.imp (Ks (h hid ρ)) λσ H Q a=>by
 obtain⟨i,d,g,q⟩:=a;obtain⟨ds,j,k,rfl⟩:=Bs g;exact⟨i,ds,j,λvs l b e=>⟨by rw[e.length];exact k,λp f=>q _ _ (b.trans (aR f _)) (fZ f b e)⟩⟩
abbrev c3(K:Pk)(H W:Hp):List V->List D->Prop:=Paired (c4 K H W)
def OA(K:Pk)(c:Ct)(hid:bM)(f:FA)(ρ:aF):TA:=λσ H Q=>SR K c hid ρ σ H/\ ∃d,f ρ=some d/\ ∀vs a,am H a->c3 K a (vw a hid) vs d->Q vs a
def DB(X:Cx)(c:Ct)(es:List Expr)(f:FA):Prop:= ∀hid ρ,PA X es (OA X.K c hid f ρ)
theorem bn:DB X c [] aj:=λhid ρ=>PA.imp fV λσ H Q ⟨b,d,a,q⟩=>by cases a;exact q [] H (am.refl _) .nil
theorem aM(p:DP X c k e f)(u:DB X c es fs)(t:Pv (e::es) X.env=(false,eval e X.env)::Pv es X.env:=by rfl):DB X c (e::es) (aa f fs):=λhid ρ=>
 PA.imp (c8 (p hid ρ) (u hid ρ) t) λσ H Q g=>by
  obtain⟨h,d,o,q⟩:=g;obtain⟨x,r,w,j,rfl⟩:=rq o;exact⟨h,x,w,λv y i s=>⟨h.ext i,r,j,λvs m s2 l=>q _ m (i.trans s2) (.cons ((RK.b k s λa n=>h.fresh n).ext s2) l)⟩⟩
def gh(K:Pk)(k:Kd)(r:List V->Hp->VK->Prop)(F:List D->Option D):Prop:= ∀(H:Hp) (hid:bM) (vs:List V) (ds:List D) (d:D) (Q:VK),(∀a,H a=none->hid a=false)->F ds=some d->c3 K H (vw H hid) vs ds->
 (∀w b,am H b->RK K k H b hid w d->Q w b)->r vs H Q
def ak(F:List D->Option D)(a:FA):FE:=λρ=>(a ρ).bind F
theorem qg(h:ak F fs ρ=some d): ∃ds,fs ρ=some ds/\F ds=some d:=by
 unfold ak at h;cases e1:fs ρ with
 |none=>rw[e1] at h;cases h
 |some ds=>rw[e1] at h;exact⟨ds,rfl,h⟩
theorem LT(j:gh X.K k r F){H:Hp}(h:F2 X.K c hid k (ak F fs) ρ σ H Q):L8 r (OA X.K c hid fs ρ) σ H Q:=by
 obtain⟨e,d,l,q⟩:=h;obtain⟨ds,o,f⟩:=qg l;exact⟨e,ds,o,λvs g b m=>j g hid vs ds d Q (λa n=>(e.ext b).fresh n) f m λw p s2 i=>q w p (b.trans s2) (RK.left b i)⟩
variable {x:Str}{p:Pos}{id T:String}{r:List V->Hp->VK->Prop}{F:List D->Option D}
theorem ba(l:dI X (.builtin id) r)(f:gh X.K k r F)(m:X.mg x=none)(j:DB X c (e::es) fs)(d:Gl X x:=by rfl)(hv:Q7 x=some (.builtin id):=by first|exact PySem.boot_len|rfl|kernel_rfl)(i:x≠"__name__":=by decide)(b:(x==("__debug__":Str))=false:=by decide)
 (g:Pv (e::es) X.env=(false,eval e X.env)::Pv es X.env:=by rfl) (a:(RL pos (Pv es X.env)).any (·.1)=false:=by rfl):DP X c k (.Call (.Name x p) (e::es) [] pos) (ak F fs):=λhid ρ=>
 PE.imp (nz l d m hv (j hid ρ) i b g a) λσ H Q h=>LT f h
theorem dC(l:dI X (.type T) r)(d:gh X.K k r F)(m:X.mg x=none)(j:DB X c (e::es) fs)(g:Gl X x:=by rfl)(hv:Q7 x=some (.type T):=by first|rfl|kernel_rfl)(i:x≠"__name__":=by decide)(b:(x==("__debug__":Str))=false:=by decide)
 (f:Pv (e::es) X.env=(false,eval e X.env)::Pv es X.env:=by rfl) (a:(RL pos (Pv es X.env)).any (·.1)=false:=by rfl):DP X c k (.Call (.Name x p) (e::es) [] pos) (ak F fs):=λhid ρ=>
 PE.imp (gu l g m hv (j hid ρ) i b f a) λσ H Q h=>LT d h
end
section
variable {K:Pk}
theorem c3.one(r:c3 K H W v [d]): ∃x,v=[x]/\c4 K H W x d:=by
 cases r with
 |cons r t=>cases t;exact⟨_,rfl,r⟩
theorem c3.two(r:c3 K H W v [d,d']): ∃x y,v=[x,y]/\c4 K H W x d/\c4 K H W y d':=by
 cases r with
 |cons r t=>cases t with
  |cons a t=>cases t;exact⟨_,_,rfl,r,a⟩
def c6:List D->Option D
 | [.lst ds]=>some (.int ds.length)
 | [.tup ds]=>some (.int ds.length)
 | [.scr ds]=>some (.int ds.length)
 |_=>none
theorem fJ:gh K .s (λxs H Q=> ∃p ys,xs=[.ref p]/\(SqL K H p ys\/SqT K H p ys)/\Q (.int ys.length) H) c6:=by
 intro H hid vs ds d Q f h r q;unfold c6 at h;split at h
 ·cases h;obtain⟨x,rfl,c⟩:=c3.one r;obtain⟨a,xs,rfl,e,b⟩:=c.lst;exact⟨a,xs,rfl,.inl e,by rw[b.length];exact q _ H (am.refl _) .int⟩
 ·cases h;obtain⟨x,rfl,c⟩:=c3.one r;obtain⟨a,xs,rfl,_,e,b⟩:=c.tup;exact⟨a,xs,rfl,.inr e,by rw[b.length];exact q _ H (am.refl _) .int⟩
 ·cases h;obtain⟨x,rfl,c⟩:=c3.one r;obtain⟨a,xs,rfl,e,b⟩:=c.scr;exact⟨a,xs,rfl,.inl e,by rw[b.length];exact q _ H (am.refl _) .int⟩
 ·cases h
def wY:List D->Option D
 | [.int i]=>some (.int (if i<0 then -i else i))
 |_=>none
theorem Ki:gh K .s (λxs H Q=> ∃i,xs=[.int i]/\Q (.int (if i<0 then -i else i)) H) wY:=by
 intro H hid vs ds d Q b h r q;unfold wY at h;split at h
 ·cases h;obtain⟨x,rfl,a⟩:=c3.one r;cases a.int;exact⟨_,rfl,q _ H (am.refl _) .int⟩
 ·cases h
def vM:List D->Option D
 | [.int i,.int j]=>some (.int (if j>i then j else i))
 |_=>none
theorem GG:gh K .s (λxs H Q=> ∃i j,xs=[.int i,.int j]/\Q (.int (if j>i then j else i)) H) vM:=by
 intro H hid vs ds d Q c h r q;unfold vM at h;split at h
 ·cases h;obtain⟨x,y,rfl,a,b⟩:=c3.two r;cases a.int;cases b.int;exact⟨_,_,rfl,q _ H (am.refl _) .int⟩
 ·cases h
def lE:List D->Option D
 | [.int i,.int j]=>some (.int (if j<i then j else i))
 |_=>none
theorem Bh:gh K .s (λxs H Q=> ∃i j,xs=[.int i,.int j]/\Q (.int (if j<i then j else i)) H) lE:=by
 intro H hid vs ds d Q c h r q;unfold lE at h;split at h
 ·cases h;obtain⟨x,y,rfl,a,b⟩:=c3.two r;cases a.int;cases b.int;exact⟨_,_,rfl,q _ H (am.refl _) .int⟩
 ·cases h
def di:List D->Option D
 | [.lst ds]=>some (.lst ds)
 | [.tup ds]=>some (.lst ds)
 |_=>none
theorem kQ:gh K .n (λxs H Q=> ∃p ys,xs=[.ref p]/\(SqL K H p ys\/SqT K H p ys)/\ ∀l,H l=none->Q (.ref l) (bY H l (.lst ys))) di:=by
 intro H hid vs ds d Q g h r q;unfold di at h;split at h
 ·cases h;obtain⟨x,rfl,e⟩:=c3.one r;obtain⟨a,xs,rfl,f,c⟩:=e.lst;exact⟨a,xs,rfl,.inl f,λl b=>q _ _ (aR b _) (fZ b (am.refl _) c)⟩
 ·cases h;obtain⟨x,rfl,e⟩:=c3.one r;obtain⟨a,xs,rfl,_,f,c⟩:=e.tup;exact⟨a,xs,rfl,.inr f,λl b=>q _ _ (aR b _) (fZ b (am.refl _) c)⟩
 ·cases h
def ig:List D->Option D
 | [.lst ds]=>some (.tup ds)
 | [.tup ds]=>some (.tup ds)
 |_=>none
theorem ki:gh K .s (λxs H Q=> ∃p ys,xs=[.ref p]/\((SqL K H p ys/\ ∀l,H l=none->Q (.ref l) (bY H l (.tup ys)))\/(SqT K H p ys/\Q (.ref p) H))) ig:=by
 intro H hid vs ds d Q i h r q;unfold ig at h;split at h
 ·cases h;obtain⟨x,rfl,c⟩:=c3.one r;obtain⟨a,xs,rfl,e,b⟩:=c.lst;exact⟨a,xs,rfl,.inl ⟨e,λl f=>q _ _ (aR f _) (rA f (i l f) b)⟩⟩
 ·cases h;obtain⟨x,rfl,c⟩:=c3.one r;obtain⟨a,xs,rfl,g,e,b⟩:=c.tup;exact⟨a,xs,rfl,.inr ⟨e,q _ H (am.refl _) (.tup g b)⟩⟩
 ·cases h
def bj:D->D->Option D
 | .lst ds,.int i=>sX ds i
 | .tup ds,.int i=>sX ds i
 | .scr ds,.int i=>sX ds i
 |_,_=>none
theorem uB(r:Reps K F xs ds)(h:sX ds i=some d): ∃x,sX xs i=some x/\Rep K F x d:=by
 unfold sX at h⊢;rw[r.length];cases e:xB ds.length i with
 |none=>rw[e] at h;cases h
 |some j=>
  rw[e] at h;obtain⟨x,a,b⟩:=r.get (i:=j) h;exact⟨x,a,b⟩
theorem aZ:ph K .s (OD K) bj:=by
 intro H hid v u x y d Q j h i g q;unfold bj at h;split at h
 ·cases g.int;obtain⟨a,xs,rfl,c,b⟩:=i.lst;obtain⟨z,f,e⟩:=uB b h;exact .inl ⟨a,xs,_,z,rfl,rfl,c,f,q _ H (am.refl _) e⟩
 ·cases g.int;obtain⟨a,xs,rfl,_,c,b⟩:=i.tup;obtain⟨z,f,e⟩:=uB b h;exact .inr (.inl ⟨a,xs,_,z,rfl,rfl,c,f,q _ H (am.refl _) e⟩)
 ·cases g.int;obtain⟨a,xs,rfl,c,b⟩:=i.scr;obtain⟨z,f,e⟩:=uB b h;exact .inl ⟨a,xs,_,z,rfl,rfl,c,f,q _ H (am.refl _) e⟩
 ·cases h
end
abbrev GE:=aF->Option (D×aF)
abbrev GA:=aF->Option (List D×aF)
def eb(hid:bM)(H a:Hp):Prop:= ∀b o,H b=some o->hid b=false->a b=some o
theorem eb.of(s:am H H'):eb hid H H':=λb o q _=>s b o q
theorem eb.trans(a:eb hid H H1)(b:eb hid H1 H2):eb hid H H2:=λc o q h=>b c o (a c o q h) h
theorem eb.vw(a:eb hid H H'):am (vw H hid) (vw H' hid):=Ac a
def dD(K:Pk)(c:Ct)(hid:bM)(k:Kd)(ρ':aF)(σ:St)(H b:Hp)(v:V)(d:D):Prop:=eb hid H b/\match k with
 | .n=> ∃a xs ds,d=.lst ds/\v=.ref a/\H a=none/\b a=some (.lst xs)/\c.H₀ a=none/\hid a=false/\SR K c (bc hid a) ρ' σ b/\Reps K (vw b (bc hid a)) xs ds/\ ∀i:Nat,Ow ρ'[i]? ->σ[i]? ≠some (some (.ref a))
 |_=>SR K c hid ρ' σ b/\Rep K (vw b hid) v d
def Le(K:Pk)(c:Ct)(hid:bM)(k:Kd)(f:GE)(ρ:aF):TE:=λσ H Q=>SR K c hid ρ σ H/\ ∃d ρ',f ρ=some (d,ρ')/\ ∀v a,dD K c hid k ρ' σ H a v d->Q v a
def DE(X:Cx)(c:Ct)(k:Kd)(e:Expr)(f:GE):Prop:= ∀hid ρ,PE X e (Le X.K c hid k f ρ)
def pu(f:FE):GE:=λρ=>(f ρ).map λd=>(d,ρ)
theorem GC{ρ ρ':aF}(h:pu f ρ=some (d,ρ')):f ρ=some d/\ρ'=ρ:=by
 unfold pu at h;cases e:f ρ with
 |none=>rw[e] at h;cases h
 |some x=>rw[e] at h;cases h;exact⟨rfl,rfl⟩
section
variable {K:Pk}{c:Ct}{hid hid':bM}{ρ:aF}{σ:St}{H H':Hp}{i:Nat}{a:Addr}
theorem cF {hid:bM}{a b:Addr}(h:hid b=true):bc hid a b=true:=by unfold bc;rw[h];rfl
theorem fL {hid:bM}{a:Addr}:bc hid a a=true:=by unfold bc;simp
theorem zG {hid:bM}{a b:Addr}(h:bc hid a b=false):hid b=false/\b≠a:=by
 unfold bc at h;cases e:hid b with
 |true=>rw[e] at h;cases h
 |false=>rw[e] at h;exact⟨rfl,by simpa using h⟩
theorem SR.hide(h:SR K c hid ρ σ H)(e:am H H')(n:H a=none)(w:H' a=some o)(A: ∀xs,o≠ .tup xs:=by intro _ e;cases e):SR K c (bc hid a) ρ σ H':=by
 have m:am (vw H hid) (vw H' (bc hid a)):=λb o q=>by
  obtain⟨y,u⟩:=bX.mp q;refine bX.mpr ⟨?_,e _ _ u⟩;unfold bc;rw[y];have:b≠a:=bD u n;simp[this]
 refine⟨λb j=>?_,λb xs j q=>by
  by_cases l:b=a
  ·subst l;rw[w] at q;exact A _ (Qi q)
  ·unfold bc at j
   exact(h.ext e).ht b xs (by simpa [l] using j) q,λb q=>cF (h.h0 b q),(h.ext e).kp,(h.ext e).t0,h.c0,h.m0,h.len,λi s q=>?_,h.ap⟩
 ·by_cases l:b=a
  ·subst l;exact⟨_,w⟩
  ·unfold bc at j;have:hid b=true:=by simpa [l] using j
   obtain⟨B,q⟩:=h.tr b this;exact⟨B,e _ _ q⟩
 ·have z:=h.sl i s q;cases s with
  |no=>trivial
  |v d=>obtain⟨x,f,g⟩:=z;exact⟨x,f,g.mono m⟩
  |own ds=>obtain⟨k,xs,f,g,r,p,t⟩:=z;exact⟨k,xs,f,e _ _ g,cF r,p,t.mono m⟩
  |arg ds=>obtain⟨k,xs,f,g,r,p,t⟩:=z;exact⟨k,xs,f,e _ _ g,cF r,p,t.mono m⟩
  |ob b=>obtain⟨k,f,g⟩:=z;exact⟨k,f,g.mono (λ_ x _=>e x) m λ_ _ _=>cF⟩
theorem SR.show (h:SR K c (bc hid a) ρ σ H)(C: ∀b,c.hid₀ b=true->hid b=true)(no: ∀i:Nat,Ow ρ[i]? ->σ[i]? ≠some (some (.ref a)))(A:H a=some o)(y: ∀p u,o≠ .nst p u:=by intro _ _ e;cases e):SR K c hid ρ σ H:=by
 have l:am (vw H (bc hid a)) (vw H hid):=hJ λb q=>cF q
 have m: ∀b,b≠a->bc hid a b=true->hid b=true:=λb D k=>by unfold bc at k;simpa [D] using k
 refine⟨λb k=>h.tr b (cF k),λb xs k=>h.ht b xs (cF k),C,h.kp,h.t0,h.c0,h.m0,h.len,λi s q=>?_,h.ap⟩;have z:=h.sl i s q;cases s with
 |no=>trivial
 |v d=>obtain⟨x,f,j⟩:=z;exact⟨x,f,j.mono l⟩
 |own ds=>
  obtain⟨g,xs,f,j,t,r,n⟩:=z;have:g≠a:=λe=>by subst e;exact no i (by rw[q];trivial) f
  exact⟨g,xs,f,j,m g this t,r,n.mono l⟩
 |arg ds=>
  obtain⟨g,xs,f,j,t,r,n⟩:=z;have:g≠a:=λe=>by subst e;exact no i (by rw[q];trivial) f
  exact⟨g,xs,f,j,m g this t,r,n.mono l⟩
 |ob b=>
  obtain⟨g,f,j⟩:=z;exact⟨g,f,j.mono (λ_ _ _ _ q=>q) l λB x w=>m x (w.ne (λe=>by subst e;exact no i (by rw[q];exact B) f) A y)⟩
theorem SR.notOw(h:SR K c hid ρ σ H)(n:hid a=false)(i:Nat)(o:Ow ρ[i]?):σ[i]? ≠some (some (.ref a)):=λe=>by
 cases q:ρ[i]? with
 |none=>rw[q] at o;exact o
 |some s=>
  rw[q] at o;have z:=h.sl i s q;cases s with
  |no=>exact o
  |v d=>exact o
  |own ds=>obtain⟨k,xs,f,j,g,_⟩:=z;rw[e] at f;cases f;rw[n] at g;cases g
  |arg ds=>obtain⟨k,xs,f,j,g,_⟩:=z;rw[e] at f;cases f;rw[n] at g;cases g
  |ob b=>obtain⟨k,f,j⟩:=z;rw[e] at f;cases f;have:=j.hid o;rw[n] at this;cases this
theorem SR.post {k:Kd}(h:SR K c hid ρ σ H)(e:am H H')(r:RK K k H H' hid v d)(j:k≠ .b):dD K c hid k ρ σ H H' v d:=by
 cases k with
 |b=>exact absurd rfl j
 |s=>exact⟨.of e,h.ext e,r⟩
 |n=>
  obtain⟨a,xs,ds,i,l,f,g,m⟩:=r;exact⟨.of e,a,xs,ds,i,l,f,g,h.fresh0 f,h.fresh f,h.hide e f g,m,h.notOw (h.fresh f)⟩
theorem dD.left(s:eb hid H H1)(p:dD K c hid k ρ' σ H1 H' v d):dD K c hid k ρ' σ H H' v d:=by
 cases k with
 |b=>exact⟨s.trans p.1,p.2⟩
 |s=>exact⟨s.trans p.1,p.2⟩
 |n=>
  obtain⟨j,a,xs,ds,h,i,f,q,m,g,l⟩:=p;refine⟨s.trans j,a,xs,ds,h,i,?_,q,m,g,l⟩;cases e:H a with
  |none=>rfl
  |some o=>rw[s a o e g] at f;cases f
theorem dD.toS(f: ∀b,c.hid₀ b=true->hid b=true)(p:dD K c hid .n ρ' σ H H' v d):dD K c hid .s ρ' σ H H' v d:=by
 obtain⟨h,a,xs,ds,rfl,rfl,m,e,l,k,j,g,i⟩:=p;exact⟨h,j.show f i e,.lst (bX.mpr ⟨k,e⟩) (g.mono (hJ λb q=>cF q))⟩
end
section
variable {X:Cx}{c:Ct}{e a b:Expr}{es rest:List Expr}{f g:GE}{k:Kd}{pos:Pos}
theorem DP.ef {f:FE}(h:DP X c k e f)(l:k≠ .b:=by decide):DE X c k e (pu f):=λhid ρ=>PE.imp (h hid ρ) λσ H Q a=>by
 obtain⟨g,d,ρ',i,q⟩:=a;obtain⟨j,rfl⟩:=GC i;exact⟨g,d,j,λv m s r=>q v m (g.post s r l)⟩
theorem DE.toS(h:DE X c .n e f):DE X c .s e f:=λhid ρ=>PE.imp (h hid ρ) λσ H Q ⟨a,d,ρ',b,q⟩=>⟨a,d,ρ',b,λv g p=>q v g (p.toS a.h0)⟩
def bE {α:Type}(f:GE)(g:D->aF->Option α):aF->Option α:=λρ=>(f ρ).bind λp=>g p.1 p.2
theorem tQ {α:Type}{g:D->aF->Option α}{ρ:aF}{z:α}(h:bE f g ρ=some z): ∃d ρ',f ρ=some (d,ρ')/\g d ρ'=some z:=by
 unfold bE at h;cases e:f ρ with
 |none=>rw[e] at h;cases h
 |some p=>rw[e] at h;exact⟨p.1,p.2,rfl,h⟩
def x8(F:D->D->Option D)(f g:GE):GE:=bE f λx=>bE g λy ρ=>(F x y).map λd=>(d,ρ)
theorem BN{ρ ρ':aF}(h:x8 F f g ρ=some (d,ρ')): ∃x ρ1 y,f ρ=some (x,ρ1)/\g ρ1=some (y,ρ')/\F x y=some d:=by
 obtain⟨x,ρ1,b,c⟩:=tQ h;obtain⟨y,ρ2,i,a⟩:=tQ c;cases e:F x y with
 |none=>rw[e] at a;cases a
 |some z=>rw[e] at a;cases a;exact⟨x,ρ1,y,b,i,e⟩
theorem NA(t:ph X.K k r F)(C:k≠ .b){H:Hp}(h:Le X.K c hid k (x8 F f g) ρ σ H Q):Lc r (Le X.K c hid .s f ρ) (λσ H Q=> ∃ρ1,Le X.K c hid .s g ρ1 σ H Q) σ H Q:=by
 obtain⟨D,d,ρ',z,q⟩:=h;obtain⟨x,ρ1,y,E,j,G⟩:=BN z;refine⟨D,x,ρ1,E,λv J ⟨i,p,A⟩=>⟨ρ1,p,y,ρ',j,λu o ⟨e,s2,m⟩=>?_⟩⟩;exact t o hid v u x y d Q (λa n=>s2.fresh n) G (.inl (A.mono e.vw)) (.inl m) λw I l B=>q w I (dD.left (i.trans e) (s2.post l B C))
theorem vb {α:Type}{t:α->TE}(h: ∀z,PE X e (t z)):PE X e (λσ H Q=> ∃z,t z σ H Q):=λa s σ H Q I ⟨z,q⟩=>h z a s σ H Q I q
def OH(K:Pk)(c:Ct)(hid:bM)(f:GA)(ρ:aF):TA:=λσ H Q=>SR K c hid ρ σ H/\ ∃d ρ',f ρ=some (d,ρ')/\ ∀vs a,eb hid H a->SR K c hid ρ' σ a->Reps K (vw a hid) vs d->Q vs a
def DG(X:Cx)(c:Ct)(es:List Expr)(f:GA):Prop:= ∀hid ρ,PA X es (OH X.K c hid f ρ)
def b7(f:FA):GA:=λρ=>(f ρ).map λd=>(d,ρ)
theorem wP {f:FA}{ρ ρ':aF}(h:b7 f ρ=some (d,ρ')):f ρ=some d/\ρ'=ρ:=by
 unfold b7 at h;cases e:f ρ with
 |none=>rw[e] at h;cases h
 |some x=>rw[e] at h;cases h;exact⟨rfl,rfl⟩
theorem DA.gf {f:FA}(h:DA X c es f):DG X c es (b7 f):=λhid ρ=>PA.imp (h hid ρ) λσ H Q a=>by
 obtain⟨b,d,ρ',e,q⟩:=a;obtain⟨g,rfl⟩:=wP e;exact⟨b,d,g,λv i s r=>q v i (.of s) (b.ext s) r⟩
def cS(f:GE)(a:GA):GA:=bE f λd ρ=>(a ρ).map λp=>(d::p.1,p.2)
theorem NF {α:Type}{t:α->TA}(h: ∀z,PA X es (t z)):PA X es (λσ H Q=> ∃z,t z σ H Q):=λp a s σ H Q I ⟨z,q⟩=>h z p a s σ H Q I q
theorem fP(m:DE X c .s e f)(t:DG X c es fs)(o:Pv (e::es) X.env=(false,eval e X.env)::Pv es X.env:=by rfl):DG X c (e::es) (cS f fs):=λhid ρ=>
 PA.imp (c8 (m hid ρ) (NF λρ1=>t hid ρ1) o) λσ H Q b=>by
  obtain⟨r,d,ρ',l,q⟩:=b;obtain⟨w,ρ1,u,a⟩:=tQ l;cases e2:fs ρ1 with
  |none=>rw[e2] at a;cases a
  |some p=>
   rw[e2] at a;obtain⟨ds,ρ2⟩:=p;cases a;exact⟨r,w,ρ1,u,λv x ⟨h,k,n⟩=>⟨ρ1,k,ds,_,e2,λvs j g s2 i=>q _ j (h.trans g) s2 (.cons (n.mono g.vw) i)⟩⟩
end
def cr(K:Pk)(k:Kd)(n:Nat)(P:List D->Option D):Sp:=λvs H Q _=> ∃hid ds,Lj hid H/\Reps K (vw H hid) vs ds/\ds.length=n/\ ∃d,P ds=some d/\ ∀v a,am H a->RK K k H a hid v d->Q v a
def LV(K:Pk)(k:Kd)(hid:bM)(H c:Hp)(v:V)(d:D)(a:List V)(b:List D):Prop:=match k with
 | .n=> ∃p ys es,d=.lst es/\v=.ref p/\H p=none/\c p=some (.lst ys)/\Reps K (vw c (bc hid p)) ys es/\Reps K (vw c (bc hid p)) a b
 |_=>Rep K (vw c hid) v d/\Reps K (vw c hid) a b
def vt(K:Pk)(k:Kd)(n:Nat)(M:List D->List D->Option (D×List D)):Sp:=λvs H Q _=> ∃hid a xs bs us ds,vs=.ref a::us/\Lj hid H/\hid a=true/\H a=some (.lst xs)/\Reps K (vw H hid) xs bs/\
 Reps K (vw H hid) us ds/\ds.length=n/\ ∃d e,M bs ds=some (d,e)/\ ∀v f c,(∀b o,H b=some o->b≠a->f b=some o)->f a=some (.lst c)->LV K k hid H f v d c e->Q v f
section
variable {X:Cx}{c:Ct}{e a b:Expr}{es rest:List Expr}{k:Kd}{pos p:Pos}{x:Str}{f:Addr}{fd:Sk}{ps:List Str}{j n:Nat}
theorem Hu(F:gt X.prog X.w X.K X.mg X.base vA j f fd ps (cr X.K k n P))(E:dl j X.A)(z:X.mg x=some (.ref f))(B:Va X.K (.ref f)=true)(C:ia X.K fd ps [])
 (u:DA X c (e::es) fs) (m:Gl X x:=by rfl) (i:(x==("__debug__":Str))=false:=by decide) (D:Pv (e::es) X.env=(false,eval e X.env)::Pv es X.env:=by rfl) (b:(RL pos (Pv es X.env)).any (·.1)=false:=by rfl):
 DP X c k (.Call (.Name x p) (e::es) [] pos) (ak (λds=>if ds.length=n then P ds else none) fs):=λhid ρ=>
 PE.imp (uX F E m z B C .nil (De (X:=X)) (u hid ρ) i D b) λσ H Q h=>by
  obtain⟨l,d,t,q⟩:=h;obtain⟨ds,G,o⟩:=qg t;have a:(if ds.length=n then P ds else none)=some d:=o;split at a
  ·refine⟨l,ds,G,λvs r g y=>?_⟩;show cr X.K k n P (vs++[]) r Q E0;rw[QJ];exact⟨hid,ds,(l.ext g).trk,y, ‹_›,d,a,λv I s2 s=>q v I (g.trans s2) (RK.left g s)⟩
  ·cases a
def ik(i:Nat)(bs:List D)(ρ:aF):aF:=match ρ[i]? with
 |some (.own _)=>ρ.set i (.own bs)
 |some (.arg _)=>ρ.set i (.arg bs)
 |_=>ρ
def ji(i:Nat)(ρ:aF):Option (List D):=match ρ[i]? with
 |some (.own ds)=>some ds
 |some (.arg ds)=>some ds
 |_=>none
theorem iV(h:ji i ρ=some bs):ρ[i]? =some (.own bs)\/ρ[i]? =some (.arg bs):=by
 unfold ji at h;split at h
 ·cases h;exact .inl ‹_›
 ·cases h;exact .inr ‹_›
 ·cases h
theorem SR.held {K:Pk}{hid:bM}{σ:St}(h:SR K c hid ρ σ H)(k:ji i ρ=some bs): ∃a xs,σ[i]? =some (some (.ref a))/\H a=some (.lst xs)/\hid a=true/\Reps K (vw H hid) xs bs/\(c.mu a=true\/c.H₀ a=none):=by
 rcases iV k with e|e
 ·obtain⟨a,xs,b,f,d,j,g⟩:=h.sl i _ e;exact⟨a,xs,b,f,d,g,.inr j⟩
 ·obtain⟨a,xs,b,f,d,j,g⟩:=h.sl i _ e;exact⟨a,xs,b,f,d,g,.inl j⟩
theorem lB {i j:Nat}(h:j≠i):(ik i bs ρ)[j]? =ρ[j]? :=by
 unfold ik;split
 ·rw[PJ (Qu h)]
 ·rw[PJ (Qu h)]
 ·rfl
theorem EH{ρ:aF}:(ik i bs ρ).length=ρ.length:=by
 unfold ik;split
 ·simp
 ·simp
 ·rfl
theorem uK {i j:Nat}(h:Ow (ik i bs ρ)[j]?):Ow ρ[j]? :=by
 by_cases e:j=i
 ·subst e;unfold ik at h;split at h
  ·rw[‹ρ[j]? =_›];trivial
  ·rw[‹ρ[j]? =_›];trivial
  ·exact h
 ·rw[lB e] at h;exact h
theorem SR.put {K:Pk}{H y:Hp}{a:Addr}(h:SR K c hid ρ σ H)(A:ji i ρ=some bs)(g:σ[i]? =some (some (.ref a)))(p: ∀b o,H b=some o->b≠a->y b=some o)
 (u:y a=some (.lst xs')) (r:Reps K (vw y hid) xs' bs'):SR K c hid (ik i bs' ρ) σ y:=by
 obtain⟨Z,xs,G,M,Y,h4,B⟩:=h.held A;rw[g] at G;cases G;have I:am (vw H hid) (vw y hid):=Ac λb o q t=>p b o q (λe=>by subst e;rw[Y] at t;cases t)
 have D: ∀b o,H b=some o-> ∃R,y b=some R:=λb o q=>by
  by_cases e:b=a
  ·subst e;exact⟨_,u⟩
  ·exact⟨o,p b o q e⟩
 refine⟨λb t=>let⟨o,q⟩:=h.tr b t;D b o q,λb xs t q=>by
  by_cases e:b=a
  ·subst e;rw[u] at q;cases q
  ·obtain⟨o,w⟩:=h.tr b t;have z:=p b o w e
   rw[q] at z;cases z;exact h.ht b xs t w,h.h0,λb o q m=>?_,λb o q=>let⟨R,q'⟩:=h.t0 b o q;D b R q',h.c0,h.m0,by rw[EH];exact h.len,λj s q=>?_,λj l z n T S=>h.ap j l z n (uK T) (uK S)⟩
 ·refine p b o (h.kp b o q m) λe=>?_
  subst e;rcases B with B|B
  ·rw[B] at m;cases m
  ·rw[B] at q;cases q
 ·by_cases e:j=i
  ·subst e;rcases iV A with w|w
   ·have lt:=(Pu.mp w).1;unfold ik at q;rw[w] at q;dsimp only at q;rw[PR lt] at q;cases q;obtain⟨U,LC,C,W,N,Q,X⟩:=h.sl j _ w;rw[g] at C;cases C;exact⟨_,xs',g,u,N,Q,r⟩
   ·have lt:=(Pu.mp w).1;unfold ik at q;rw[w] at q;dsimp only at q;rw[PR lt] at q;cases q;obtain⟨U,LC,C,W,N,Q,X⟩:=h.sl j _ w;rw[g] at C;cases C;exact⟨_,xs',g,u,N,Q,r⟩
  ·rw[lB e] at q;have z:=h.sl j s q;cases s with
   |no=>trivial
   |v d=>obtain⟨x,G,M⟩:=z;exact⟨x,G,M.mono I⟩
   |own ds=>
    obtain⟨f,xs,k,E,O,P,L⟩:=z;have J:f≠a:=λF=>by
     subst F;refine h.ap j i f e (by rw[q];trivial) ?_ k g;rcases iV A with w|w<;>rw[w]<;>trivial
    exact⟨f,xs,k,p _ _ E J,O,P,L.mono I⟩
   |arg ds=>
    obtain⟨f,xs,k,E,O,P,L⟩:=z;have J:f≠a:=λF=>by
     subst F;refine h.ap j i f e (by rw[q];trivial) ?_ k g;rcases iV A with w|w<;>rw[w]<;>trivial
    exact⟨f,xs,k,p _ _ E J,O,P,L.mono I⟩
   |ob b=>
    obtain⟨f,k,E⟩:=z;refine⟨f,k,E.mono (λV x u o w=>p _ _ w (u.ne (λF=>?_) M)) I λ_ _ _ w=>w⟩;subst F;refine h.ap j i f e (by rw[q];exact V) ?_ k g;rcases iV A with w|w<;>rw[w]<;>trivial
def aK(i n:Nat)(M:List D->List D->Option (D×List D))(b:GA):GE:=λρ=>match ji i ρ with
 |none=>none
 |some _=>match b ρ with
  |none=>none
  |some (ds,ρ1)=>match ji i ρ1 with
   |none=>none
   |some bs=>if ds.length=n then match M bs ds with
     |none=>none
     |some (d,a)=>some (d,ik i a ρ1) else none
theorem qQ{ρ ρ':aF}{d:D}(h:aK i n M fs ρ=some (d,ρ')): ∃b ds ρ1 bs a,ji i ρ=some b/\fs ρ=some (ds,ρ1)/\ji i ρ1=some bs/\ds.length=n/\M bs ds=some (d,a)/\ρ'=ik i a ρ1:=by
 unfold aK at h;split at h
 ·cases h
 ·split at h
  ·cases h
  ·split at h
   ·cases h
   ·split at h
    ·split at h
     ·cases h
     ·cases h;exact⟨_,_,_,_,_, ‹_›, ‹_›, ‹_›, ‹_›, ‹_›,rfl⟩
    ·cases h
theorem D3(i:Nat)(F:gt X.prog X.w X.K X.mg X.base vA j f fd ps (vt X.K k n M))(hr:dl j X.A)(V:X.mg x=some (.ref f))(hk:Va X.K (.ref f)=true)(t:ia X.K fd ps [])
 (ha:DG X c es fs) (W:k≠ .b:=by decide) (hN:X.N[i]? =some y:=by rfl) (hv:wk X.env.scope y:=by first|exact Ro rfl|exact QQ (Ro rfl)|exact QQ (QQ rfl)) (hd:(y==("__debug__":Str))=false:=by decide)
 (G:(y==("__classdict__":Str))=false:=by decide) (hs:Pv (.Name y py::es) X.env=(false,eval (.Name y py) X.env)::Pv es X.env:=by rfl) (hg:Gl X x:=by rfl) (Y:(x==("__debug__":Str))=false:=by decide) (P:(RL pos (Pv es X.env)).any (·.1)=false:=by rfl):
 DE X c k (.Call (.Name x p) (.Name y py::es) [] pos) (aK i n M fs):=λhid ρ=>
 PE.imp (uX F hr hg V hk t .nil (De (X:=X)) (c8 (pv i hN hv hd G) (ha hid ρ) hs) Y hs P) λσ H Q S=>by
  obtain⟨sr,d,ρ',T,q⟩:=S;obtain⟨bs0,ds,ρ1,bs,B,e0,e1,R,e3,e4,rfl⟩:=qQ T;obtain⟨a,G3,C,_,a3,_,_⟩:=sr.held e0;refine⟨.ref a,C,sr,ds,ρ1,e1,λus E O r r1=>?_⟩;obtain⟨a',xs,b1,b2,b3,b4,b5⟩:=r.held R;rw[C] at b1;cases b1;show vt X.K k n M ((.ref a::us)++[]) E Q E0;rw[QJ];refine⟨hid,a,xs,bs,us,ds,rfl,r.trk,b3,b2,b4,r1,e3,d,B,e4,λv D xs' U hx l=>q v D ?_⟩;have u:eb hid E D:=λb o q t=>U b o q λe=>by subst e;rw[b3] at t;cases t
  cases k with
  |b=>exact absurd rfl W
  |s=>exact⟨O.trans u,r.put R C U hx l.2,l.1⟩
  |n=>
   obtain⟨g,ys,J,rfl,rfl,h,h2,h3,h4⟩:=l;have L:hid g=false:=r.fresh h;have na:a≠g:=λe=>by subst e;rw[b2] at h;cases h
   have sB:SR X.K c (bc hid g) ρ1 σ (bY E g (.lst ys)):=r.hide (aR h _) h aT;have I: ∀b o,(bY E g (.lst ys)) b=some o->b≠a->D b=some o:=λb o z t=>by
    by_cases e:b=g
    ·subst e;rw[aT] at z;cases z;exact h2
    ·rw[aP e] at z;exact U b o z t
   have sC:SR X.K c (bc hid g) (ik i B ρ1) σ D:=sB.put R C I hx h4;have hn:H g=none:=by
    cases e:H g with
    |none=>rfl
    |some o=>rw[O g o e L] at h;cases h
   refine⟨O.trans u,g,ys,J,rfl,rfl,hn,h2,r.fresh0 h,L,sC,h3,λm V Z=>?_⟩;have:=r.notOw L m (uK V);exact this Z
end
inductive Out where
 |nx (ρ:aF)|rt (d:D) (ρ:aF)|bk (ρ:aF)|ct (ρ:aF)|no
abbrev FS:=aF->Out
def Nv(c:Ct)(k:Kd)(v:V):bM:=match k,v with
 | .n,.ref a=>bc c.hid₀ a
 |_,_=>c.hid₀
structure Ret(K:Pk)(c:Ct)(k:Kd)(ρ':aF)(H':Hp)(v:V)(d:D):Prop where
 kp: ∀b o,c.H₀ b=some o->c.mu b=false->H' b=some o
 val:match k with
  | .n=> ∃a xs ds,d=.lst ds/\v=.ref a/\c.H₀ a=none/\H' a=some (.lst xs)/\Reps K (vw H' (bc c.hid₀ a)) xs ds
  |_=>Rep K (vw H' c.hid₀) v d
 arg: ∀(i:Nat) (bs:List D),ρ'[i]? =some (Sl.arg bs)-> ∃a xs,c.mu a=true/\H' a=some (.lst xs)/\Reps K (vw H' (Nv c k v)) xs bs
def c5(K:Pk)(c:Ct)(k:Kd)(D:j0)(W:Hp):Out->Prop
 | .nx ρ'=> ∀b e a,SR K c a ρ' b e->am W (vw e a)->D.nx b e
 | .rt d ρ'=> ∀v e,Ret K c k ρ' e v d->D.rt v e
 | .bk ρ'=> ∀b e a,SR K c a ρ' b e->am W (vw e a)->D.bk b e
 | .ct ρ'=> ∀b e a,SR K c a ρ' b e->am W (vw e a)->D.ct b e
 | .no=>False
theorem c5.mono {K:Pk}{D:j0}(h:c5 K c k D W o)(s:am W W'):c5 K c k D W' o:=by
 cases o with
 |nx ρ=>exact λb e a z w=>h b e a z (s.trans w)
 |rt d ρ=>exact h
 |bk ρ=>exact λb e a z w=>h b e a z (s.trans w)
 |ct ρ=>exact λb e a z w=>h b e a z (s.trans w)
 |no=>exact h
def Oz(K:Pk)(c:Ct)(k:Kd)(t:FS)(ρ:aF):TS:=λD σ H=> ∃hid,SR K c hid ρ σ H/\c5 K c k D (vw H hid) (t ρ)
def DS(X:Cx)(c:Ct)(k:Kd)(st:Stmt)(t:FS):Prop:= ∀ρ,PS X st (Oz X.K c k t ρ)
def xU(X:Cx)(c:Ct)(k:Kd)(st:List Stmt)(t:FS):Prop:= ∀ρ,PSs X st (Oz X.K c k t ρ)
section
variable {X:Cx}{c:Ct}{k:Kd}{st:Stmt}{sts rest:List Stmt}{t u:FS}{e:Expr}{pos:Pos}
theorem v9 {α:Type}{t:α->TS}(h: ∀z,PSs X sts (t z)):PSs X sts (λD σ H=> ∃z,t z D σ H):=λa s σ H D I ⟨z,q⟩=>h z a s σ H D I q
theorem K5 {α:Type}{t:α->TT}(h: ∀z,PT X e (t z)):PT X e (λD σ H=> ∃z,t z D σ H):=λa s σ H D I ⟨z,q⟩=>h z a s σ H D I q
def cc:FS:=λρ=>.nx ρ
def aC(t u:FS):FS:=λρ=>match t ρ with
 | .nx ρ'=>u ρ'
 | .rt d ρ'=>.rt d ρ'
 | .bk ρ'=>.bk ρ'
 | .ct ρ'=>.ct ρ'
 | .no=>.no
theorem bU:xU X c k [] cc:=λρ=>PSs.imp GV λD σ H ⟨hid,a,q⟩=>q σ H hid a (am.refl _)
theorem az(h:DS X c k st t):xU X c k [st] t:=λρ=>GU (h ρ)
theorem ao(i:DS X c k st t)(h:xU X c k rest u):xU X c k (st::rest) (aC t u):=λρ=>
 PSs.imp (C3 (i ρ) (v9 λρ1=>h ρ1)) λD σ H b=>by
  obtain⟨hid,l,q⟩:=b;refine⟨hid,l,?_⟩;unfold aC at q;cases e:t ρ with
  |nx ρ1=>rw[e] at q;exact λj m a f g=>⟨ρ1,a,f,c5.mono q g⟩
  |rt d ρ1=>rw[e] at q;exact q
  |bk ρ1=>rw[e] at q;exact q
  |ct ρ1=>rw[e] at q;exact q
  |no=>rw[e] at q;exact q
def fy(p:FT)(t u:FS):FS:=λρ=>match p ρ with
 |some true=>t ρ
 |some false=>u ρ
 |none=>.no
theorem eG {p:FT}{a b:List Stmt}(hp:DT X c e p)(ha:xU X c k a t)(hb:xU X c k b u):DS X c k (.If e a b pos) (fy p t u):=λρ=>
 PS.imp (IU (K5 λhid=>hp hid ρ) (ha ρ) (hb ρ)) λD σ H hq_=>by
  obtain⟨hid,sr,q⟩:=hq_;cases e1:p ρ with
  |none=>unfold fy at q;rw[e1] at q;exact q.elim
  |some x=>
   refine⟨hid,sr,x,e1,λH1 s1=>?_⟩;unfold fy at q;rw[e1] at q;cases x with
   |true=>exact v7 ⟨hid,sr.ext s1,c5.mono q (aX s1)⟩
   |false=>exact w6 ⟨hid,sr.ext s1,c5.mono q (aX s1)⟩
def aY(f:FE):FS:=λρ=>match f ρ with
 |some d=>.rt d ρ
 |none=>.no
theorem IO {K:Pk}{H g:Hp}(u:k≠ .b)(p:dD K c hid k ρ' σ H g v d)(x: ∀b,c.hid₀ b=true->hid b=true):Ret K c k ρ' g v d:=by
 cases k with
 |b=>exact absurd rfl u
 |s=>
  obtain⟨_,f,r⟩:=p;refine⟨f.kp,r.mono (hJ f.h0),λi bs e=>?_⟩;obtain⟨a,xs,B,m,w,j,h⟩:=f.sl i _ e;refine⟨a,xs,j,m,?_⟩;show Reps K (vw g c.hid₀) xs bs;exact h.mono (hJ f.h0)
 |n=>
  obtain⟨_,a,xs,ds,rfl,rfl,_,t,y,C,f,A,D⟩:=p;have o:am (vw g (bc hid a)) (vw g (bc c.hid₀ a)):=hJ λb q=>by
   unfold bc at q⊢;cases e:c.hid₀ b with
   |true=>rw[x b e];rfl
   |false=>rw[e] at q;rw[Ri];right;simpa using q
  refine⟨f.kp,⟨a,xs,ds,rfl,rfl,y,t,A.mono o⟩,λi bs e=>?_⟩;obtain⟨z,l,B,m,w,j,h⟩:=f.sl i _ e;exact⟨z,l,j,m,h.mono o⟩
theorem aO(h:DP X c k e f)(g:k≠ .b:=by decide):DS X c k (.Return (some e) pos) (aY f):=λρ=>PS.imp (EA (vb λhid=>h hid ρ)) λD σ H d=>by
 obtain⟨hid,a,q⟩:=d;unfold aY at q;cases e1:f ρ with
 |none=>rw[e1] at q;exact q.elim
 |some z=>rw[e1] at q;exact⟨hid,a,_,e1,λv i s r=>q v i (IO g (a.post s r g) a.h0)⟩
def x9:Option Sl->Option (List D)
 |some (.own ds)=>some ds
 |_=>none
def xM(i:Nat):FS:=λρ=>match x9 ρ[i]? with
 |some ds=>.rt (.lst ds) ρ
 |none=>.no
theorem sH(h:x9 o=some ds):o=some (.own ds):=by
 unfold x9 at h;split at h
 ·cases h;rfl
 ·cases h
theorem u8(i:Nat)(l:X.N[i]? =some x:=by rfl)(hv:wk X.env.scope x:=by first|exact Ro rfl|exact QQ (Ro rfl)|exact QQ (QQ rfl))(r:(x==("__debug__":Str))=false:=by decide)
 (g:(x==("__classdict__":Str))=false:=by decide):DS X c .n (.Return (some (.Name x pos')) pos) (xM i):=λρ=>PS.imp (EA (pv i l hv r g)) λD σ H f=>by
 obtain⟨hid,d,q⟩:=f;unfold xM at q;cases e0:x9 ρ[i]? with
 |none=>rw[e0] at q;exact q.elim
 |some ds=>
  rw[e0] at q;have e:=sH e0;obtain⟨a,xs,A,t,o,p,m⟩:=d.sl i _ e;have k:am (vw H hid) (vw H (bc c.hid₀ a)):=hJ λb w=>by
   unfold bc at w;cases e:c.hid₀ b with
   |true=>exact d.h0 b e
   |false=>
    rw[e] at w;have:b=a:=by simpa using w
    rw[this];exact o
  refine⟨_,A,q _ H ⟨d.kp,⟨a,xs,ds,rfl,rfl,p,t,m.mono k⟩,λj bs v=>?_⟩⟩;obtain⟨u,h,C,s,B,y,z⟩:=d.sl j _ v;exact⟨u,h,y,s,z.mono k⟩
end
section
variable {K:Pk}{c:Ct}{hid:bM}{ρ:aF}{σ:St}{H H':Hp}{i:Nat}{a:Addr}{v:V}{d:D}
theorem SR.setV(h:SR K c hid ρ σ H)(r:Rep K (vw H hid) v d)(i:Nat):SR K c hid (ρ.set i (.v d)) (σ.set i (some v)) H:=by
 refine⟨h.tr,h.ht,h.h0,h.kp,h.t0,h.c0,h.m0,by simp[h.len],λj s q=>?_,λj l z n k p u t=>?_⟩
 ·by_cases e:j=i
  ·subst e;have lt:j<ρ.length:=by
    have:=(Pu.mp q).1;simpa using this
   rw[PR lt] at q;cases q;exact⟨v,PR (by rw[h.len];exact lt),r⟩
  ·rw[PJ (Qu e)] at q;have w:=h.sl j s q;have es:(σ.set i (some v))[j]? =σ[j]? :=PJ (Qu e);cases s with
   |no=>trivial
   |v d=>obtain⟨x,g,f⟩:=w;exact⟨x,es.trans g,f⟩
   |own ds=>obtain⟨a,xs,g,f⟩:=w;exact⟨a,xs,es.trans g,f⟩
   |arg ds=>obtain⟨a,xs,g,f⟩:=w;exact⟨a,xs,es.trans g,f⟩
   |ob b=>obtain⟨a,g,f⟩:=w;exact⟨a,es.trans g,f⟩
 ·have y: ∀m,Ow (ρ.set i (.v d))[m]? ->m≠i:=λm o e=>by
   subst e
   by_cases lt:m<ρ.length
   ·rw[PR lt] at o;exact o
   ·rw[Qz (by simpa using lt)] at o;exact o
  have B:=y j k;have A:=y l p;rw[PJ (Qu B)] at k u;rw[PJ (Qu A)] at p t;exact h.ap j l z n k p u t
theorem SR.setO(h:SR K c hid ρ σ H)(B:H a=some (.lst xs))(y:hid a=true)(A:c.H₀ a=none)(r:Reps K (vw H hid) xs ds)(no: ∀i:Nat,Ow ρ[i]? ->σ[i]? ≠some (some (.ref a)))(i:Nat):
 SR K c hid (ρ.set i (.own ds)) (σ.set i (some (.ref a))) H:=by
 refine⟨h.tr,h.ht,h.h0,h.kp,h.t0,h.c0,h.m0,by simp[h.len],λj s q=>?_,λj l z n t p k f=>?_⟩
 ·by_cases e:j=i
  ·subst e;have lt:j<ρ.length:=by
    have:=(Pu.mp q).1;simpa using this
   rw[PR lt] at q;cases q;exact⟨a,xs,PR (by rw[h.len];exact lt),B,y,A,r⟩
  ·rw[PJ (Qu e)] at q;have w:=h.sl j s q;have es:(σ.set i (some (V.ref a)))[j]? =σ[j]? :=PJ (Qu e);cases s with
   |no=>trivial
   |v d=>obtain⟨x,g,m⟩:=w;exact⟨x,es.trans g,m⟩
   |own ds=>obtain⟨a,xs,g,m⟩:=w;exact⟨a,xs,es.trans g,m⟩
   |arg ds=>obtain⟨a,xs,g,m⟩:=w;exact⟨a,xs,es.trans g,m⟩
   |ob b=>obtain⟨a,g,m⟩:=w;exact⟨a,es.trans g,m⟩
 ·by_cases u:j=i
  ·subst u;have o:l≠j:=λe=>n e.symm
   rw[PJ (Qu o)] at p f
   by_cases lt:j<σ.length
   ·rw[PR lt] at k;cases k;exact no l p f
   ·rw[Qz (by simpa using lt)] at k;cases k
  ·rw[PJ (Qu u)] at t k
   by_cases o:l=i
   ·subst o
    by_cases lt:l<σ.length
    ·rw[PR lt] at f;cases f;exact no j t k
    ·rw[Qz (by simpa using lt)] at f;cases f
   ·rw[PJ (Qu o)] at p f;exact h.ap j l z n t p k f
end
section
variable {X:Cx}{c:Ct}{k:Kd}{st:Stmt}{sts rest:List Stmt}{t u:FS}{e:Expr}{es:List Expr}{pos pos':Pos}{x:Str}{i:Nat}
def iS(i:Nat)(f:GE):FS:=λρ=>match f ρ with
 |some (d,ρ')=>.nx (ρ'.set i (.v d))
 |none=>.no
def be(i:Nat)(f:FE):FS:=λρ=>match f ρ with
 |some d=>.nx (ρ.set i (.v d))
 |none=>.no
def N6:D->Option (List D)
 | .lst ds=>some ds
 |_=>none
def En(i:Nat)(f:GE):FS:=λρ=>match f ρ with
 |some (d,ρ')=>(match N6 d with
  |some ds=>.nx (ρ'.set i (.own ds))
  |none=>.no)
 |none=>.no
def f9(i:Nat)(f:FE):FS:=λρ=>match f ρ with
 |some d=>(match N6 d with
  |some ds=>.nx (ρ.set i (.own ds))
  |none=>.no)
 |none=>.no
theorem nn(i:Nat)(h:X.N.Nodup)(g:DE X c .s e f)(j:X.N[i]? =some x:=by rfl)(d:EN X.env.scope x:=by first|exact Ro rfl|exact QQ rfl)(l:SO e (some (.Name x pos')) pos.line X.env=pure false:=by rfl)
 (o:X.fn x=true\/X.env.scope.names.lookup x=some .local:=by first|exact .inl rfl|exact .inr rfl|assumption):DS X c k (.Assign [.Name x pos'] e pos) (iS i f):=λρ=>PS.imp (vc h j d (vb λhid=>g hid ρ) l o) λD σ H a=>by
 obtain⟨hid,b,q⟩:=a;unfold iS at q;cases e1:f ρ with
 |none=>rw[e1] at q;exact q.elim
 |some z=>
  rw[e1] at q;exact⟨hid,b,z.1,z.2,e1,λv n ⟨m,s',r⟩=>q _ n hid (s'.setV r i) m.vw⟩
theorem bf(i:Nat)(h:X.N.Nodup)(g:DP X c .s e f)(j:X.N[i]? =some x:=by rfl)(d:EN X.env.scope x:=by first|exact Ro rfl|exact QQ rfl)(l:SO e (some (.Name x pos')) pos.line X.env=pure false:=by rfl)
 (n:X.fn x=true\/X.env.scope.names.lookup x=some .local:=by first|exact .inl rfl|exact .inr rfl|assumption):DS X c k (.Assign [.Name x pos'] e pos) (be i f):=λρ=>PS.imp (vc h j d (vb λhid=>g hid ρ) l n) λD σ H a=>by
 obtain⟨hid,b,q⟩:=a;unfold be at q;cases e1:f ρ with
 |none=>rw[e1] at q;exact q.elim
 |some z=>
  rw[e1] at q;exact⟨hid,b,z,e1,λv m s' r=>q _ m hid ((b.ext s').setV r i) (aX s')⟩
theorem ME {K:Pk}{ρ':aF}{σ:St}{D:j0}(p:dD K c hid .n ρ' σ H H' v d)(q:c5 K c k D (vw H hid) (match N6 d with
 |some ds=>.nx (ρ'.set i (.own ds))
 |none=>.no)):D.nx (σ.set i (some v)) H':=by
 obtain⟨m,a,xs,ds,rfl,rfl,j,g,h,t,s,l,r⟩:=p;refine q _ H' (bc hid a) (s.setO g fL h l r i) λb o w=>?_
 obtain⟨e,f⟩:=bX.mp w;refine bX.mpr ⟨?_,m b o f e⟩;unfold bc;rw[e];have:b≠a:=bD f j;simp[this]
theorem hW(i:Nat)(h:X.N.Nodup)(g:DP X c .n e f)(j:X.N[i]? =some x:=by rfl)(d:EN X.env.scope x:=by first|exact Ro rfl|exact QQ rfl)(l:SO e (some (.Name x pos')) pos.line X.env=pure false:=by rfl)
 (m:X.fn x=true\/X.env.scope.names.lookup x=some .local:=by first|exact .inl rfl|exact .inr rfl|assumption):DS X c k (.Assign [.Name x pos'] e pos) (f9 i f):=λρ=>PS.imp (vc h j d (vb λhid=>g hid ρ) l m) λD σ H a=>by
 obtain⟨hid,b,q⟩:=a;unfold f9 at q;cases e1:f ρ with
 |none=>rw[e1] at q;exact q.elim
 |some z=>
  rw[e1] at q;exact⟨hid,b,z,e1,λv o s r=>ME (b.post s r (by decide)) q⟩
def B9(i:Nat)(ρ:aF):aF:=match x9 ρ[i]? with
 |some ds=>ρ.set i (.v (.lst ds))
 |none=>ρ
theorem SR.freeze {K:Pk}(h:SR K c hid ρ σ H)(i:Nat): ∃g,SR K c g (B9 i ρ) σ H/\am (vw H hid) (vw H g):=by
 unfold B9;cases e0:x9 ρ[i]? with
 |none=>exact⟨hid,h,am.refl _⟩
 |some ds=>
  have e:=sH e0;obtain⟨a,xs,A,G,T,O,M⟩:=h.sl i _ e;have t:am (vw H hid) (vw H (wT hid a)):=hJ λb w=>by unfold wT at w;rw[Pi] at w;exact w.1
  have y: ∀b,b≠a->hid b=true->wT hid a b=true:=λb n w=>by unfold wT;rw[w];simp[n]
  have P:c.hid₀ a=false:=by
   cases q:c.hid₀ a with
   |false=>rfl
   |true=>obtain⟨o,w⟩:=h.c0 a q;rw[O] at w;cases w
  refine⟨wT hid a,⟨λb w=>h.tr b (by unfold wT at w;rw[Pi] at w;exact w.1),λb xs w=>h.ht b xs (by unfold wT at w;rw[Pi] at w;exact w.1),λb w=>y b (λe=>by subst e;rw[P] at w;cases w) (h.h0 b w),h.kp,h.t0,h.c0,h.m0,by simp[h.len],λj s q=>?_,λj l z n B E R J=>?_⟩,t⟩
  ·by_cases u:j=i
   ·subst u;rw[PR (Pu.mp e).1] at q;cases q;exact⟨_,A,.lst (bX.mpr ⟨by unfold wT;simp,G⟩) (M.mono t)⟩
   ·rw[PJ (Qu u)] at q;have w:=h.sl j s q;cases s with
    |no=>trivial
    |v d=>obtain⟨x,f,k⟩:=w;exact⟨x,f,k.mono t⟩
    |own ds=>
     obtain⟨p,xs,f,k,F,D,C⟩:=w;exact⟨p,xs,f,k,y p (λr=>by subst r;exact h.ap j i _ u (by rw[q];trivial) (by rw[e];trivial) f A) F,D,C.mono t⟩
    |arg ds=>
     obtain⟨p,xs,f,k,F,D,C⟩:=w;exact⟨p,xs,f,k,y p (λr=>by subst r;exact h.ap j i _ u (by rw[q];trivial) (by rw[e];trivial) f A) F,D,C.mono t⟩
    |ob b=>
     obtain⟨p,f,k⟩:=w;exact⟨p,f,k.mono (λ_ _ _ _ q=>q) t λQ x N=>y x (N.ne (λr=>by subst r;exact h.ap j i _ u (by rw[q];exact Q) (by rw[e];trivial) f A) G)⟩
  ·have I: ∀m,Ow (ρ.set i (.v (.lst ds)))[m]? ->m≠i:=λm o r=>by
    subst r
    by_cases lt:m<ρ.length
    ·rw[PR lt] at o;exact o
    ·rw[Qz (by simpa using lt)] at o;exact o
   have S:=I j B;have L:=I l E;rw[PJ (Qu S)] at B;rw[PJ (Qu L)] at E;exact h.ap j l z n B E R J
theorem KT(i:Nat)(h:DS X c k st t):DS X c k st (λρ=>t (B9 i ρ)):=λρ=>PS.imp (h (B9 i ρ)) λD σ H d=>by
 obtain⟨hid,f,q⟩:=d;obtain⟨a,b,e⟩:=f.freeze i;exact⟨a,b,c5.mono q e⟩
def cj(f:GE):FS:=λρ=>match f ρ with
 |some (_,ρ')=>.nx ρ'
 |none=>.no
theorem gV(b:DE X c .s e f)(g:SO e none pos.line X.env=pure false:=by rfl):DS X c k (.Expr e pos) (cj f):=λρ=>PS.imp (Gr (vb λhid=>b hid ρ) g) λD σ H a=>by
 obtain⟨hid,d,q⟩:=a;unfold cj at q;cases e1:f ρ with
 |none=>rw[e1] at q;exact q.elim
 |some z=>
  rw[e1] at q;exact⟨hid,d,z.1,z.2,e1,λv i ⟨h,s',_⟩=>q _ i hid s' h.vw⟩
def M3(K:Pk)(r:V->List V->Hp->VK->Prop)(n:Nat)(M:List D->List D->Option (D×List D)):Prop:= ∀(H:Hp) (hid:bM) (a:Addr) (xs us:List V) (bs ds c:List D) (d:D) (Q:VK),H a=some (.lst xs)->hid a=true->Reps K (vw H hid) xs bs->Reps K (vw H hid) us ds->
 ds.length=n->M bs ds=some (d,c)->(∀w b,Reps K (vw H hid) b c->Rep K (vw H hid) w d->Q w (bY H a (.lst b)))->r (.ref a) us H Q
theorem LQ {K:Pk}(x:M3 K r n M){bs ds f:List D}(u:eb hid H H1)(m:SR K c hid ρ1 σ H1)(l:ji i ρ1=some bs)
 (p:σ[i]? =some (some (.ref a))) (A:Reps K (vw H1 hid) us ds) (y:ds.length=n) (B:M bs ds=some (d,f)) (q: ∀v t,dD K c hid .s (ik i f ρ1) σ H t v d->Q v t):r (.ref a) us H1 Q:=by
 obtain⟨I,xs,k,G,g,E,J⟩:=m.held l;rw[p] at k;cases k;refine x H1 hid a xs us bs ds f d Q G g E A y B λw F C j=>q w _ ⟨u.trans λb o z h=>?_,?_,?_⟩
 ·rw[aP (λe=>by subst e;rw[g] at h;cases h)];exact z
 ·exact m.put l p (λb o z h=>by rw[aP h];exact z) aT (by rw[fX g];exact C)
 ·rw[fX g];exact j
variable {n:Nat}{M:List D->List D->Option (D×List D)}{fs:GA}{r:V->List V->Hp->VK->Prop}{y name:Str}{py apos:Pos}{id:String}
theorem jE(i:Nat)(u:M3 X.K r n M)(O:Oj X id r)(h:Slot "list" name id)(o:typeOf (.builtin id)=pure (.type "method_descriptor"))(v:DG X c (e::es) fs)
 (G:X.N[i]? =some y:=by rfl) (hv:wk X.env.scope y:=by first|exact Ro rfl|exact QQ (Ro rfl)|exact QQ (QQ rfl)) (L:(y==("__debug__":Str))=false:=by decide) (k:(y==("__classdict__":Str))=false:=by decide)
 (g:UC (.Name y py) name X.env (eval (.Name y py) X.env)=eval (.Name y py) X.env:=by rfl)
 (j:((RL pos (Pv (e::es) X.env)).all (λx=> !x.1)&&(X2 pos (Vs [] X.env)).all (λx=>x.1.isSome)
   &&decide ((e::es).length+([]:List UW).length+(if([]:List UW).isEmpty then 0 else 1)<30))=true:=by rfl)
 (f:(apos.endLine==pos.line)=true:=by rfl) (z:Pv (e::es) X.env=(false,eval e X.env)::Pv es X.env:=by rfl) (b:(RL pos (Pv es X.env)).any (·.1)=false:=by rfl):
 DE X c .s (.Call (.Attribute (.Name y py) name apos) (e::es) [] pos) (aK i n M fs):=λhid ρ=>
 PE.imp (AO PySem.F.plainAttrs_list h o O (pv i G hv L k) (v hid ρ) g j f z b) λσ H Q l=>by
  obtain⟨t,d,ρ',m,q⟩:=l;obtain⟨C,ds,ρ1,bs,P,R,S,I,B,A,rfl⟩:=qQ m;obtain⟨a,G3,p,E,T,_,_⟩:=t.held R;exact⟨.ref a,p,.inl ⟨rfl,_,SqL.of E⟩,t,ds,ρ1,S,λus U D J w=>LQ u D J I p w B A q⟩
end
section
variable {K:Pk}
def gB:List D->List D->Option (D×List D):=λbs ds=>match ds with
 | [d]=>if bs.length<PN then some (.non,bs++[d]) else none
 |_=>none
theorem gr:M3 K z7 1 gB:=by
 intro H hid a xs us bs ds g d Q f h c e i b q;unfold gB at b;split at b
 ·split at b
  ·cases b;cases e with
   |cons r t=>
    cases t;exact⟨a,xs,_,rfl,rfl,f,by rw[c.length];assumption,q _ _ (c.append (.cons r .nil)) .non⟩
  ·cases b
 ·cases b
def r8:List D->List D->Option (D×List D):=λbs ds=>match ds with
 | [.int i]=>match (if bs.length<=PN then xB bs.length i else none) with
   |some j=>(bs[j]?).map λd=>(d,bs.eraseIdx j)
   |none=>none
 |_=>none
theorem Kg:M3 K Dr 1 r8:=by
 intro H hid a xs us bs ds m d Q g p c f u b q;unfold r8 at b;split at b
 ·split at b
  ·rename_i i _ j e
   cases e1:bs[j]? with
   |none=>rw[e1] at b;cases b
   |some z=>
    rw[e1] at b;cases b;cases f with
    |cons r t=>
     cases t;cases r;obtain⟨x,o,h⟩:=c.get e1;split at e
     ·obtain⟨n,s,w,v⟩:=uY e;have l:=c.length;have k:=mr;refine⟨a,xs,i,j,x,rfl,rfl,g,by lia,by lia,by rw[l];exact n,o,q _ _ (c.eraseIdx j) h⟩
     ·cases e
  ·cases b
 ·cases b
end
abbrev FG:=D->aF->Option aF
abbrev sK:=List D->aF->Option aF
def OwK(ρ ρ':aF)(σ a:St):Prop:= ∀i:Nat,Ow ρ'[i]? ->Ow ρ[i]? /\a[i]? =σ[i]?
theorem OwK.trans {ρ ρ1 ρ2:aF}(a:OwK ρ ρ1 σ σ1)(b:OwK ρ1 ρ2 σ1 σ2):OwK ρ ρ2 σ σ2:=λi o=>⟨(a i (b i o).1).1,(b i o).2.trans (a i (b i o).1).2⟩
def Np {ι:Type}(IR:Hp->V->ι->Prop)(K:Pk)(c:Ct)(hid:bM)(g:ι->aF->Option aF)(ρ:aF)(d:ι):TG:=λv σ H Q=>SR K c hid ρ σ H/\IR (vw H hid) v d/\ ∃ρ',g d ρ=some ρ'/\ ∀a,SR K c hid ρ' a H->OwK ρ ρ' σ a->Q a H
def M4 {ι:Type}(IR:Hp->V->ι->Prop)(X:Cx)(c:Ct)(a:Expr)(g:ι->aF->Option aF):Prop:= ∀hid ρ d,PG X a (Np IR X.K c hid g ρ d)
abbrev tS(X:Cx)(c:Ct)(a:Expr)(g:FG):Prop:=M4 (Rep X.K) X c a g
def Nn(K:Pk)(c:Ct)(hid:bM)(g:sK)(ρ:aF)(d:List D):BP:=λv σ H Q=>SR K c hid ρ σ H/\Reps K (vw H hid) v d/\ ∃ρ',g d ρ=some ρ'/\ ∀a,SR K c hid ρ' a H->OwK ρ ρ' σ a->Q a H
def ML(X:Cx)(c:Ct)(a:List Expr)(g:sK):Prop:= ∀hid ρ d,PGs X a (Nn X.K c hid g ρ d)
theorem PG.imp {X:Cx}(h:PG X e t)(i: ∀v σ H Q,t' v σ H Q->t v σ H Q):PG X e t':=λa s σ H v u Q I r q=>h a s σ H v u Q I r (i v σ H Q q)
theorem PGs.imp {X:Cx}(h:PGs X e t)(i: ∀v σ H Q,t' v σ H Q->t v σ H Q):PGs X e t':=λa s σ H v u Q I r q=>h a s σ H v u Q I r (i v σ H Q q)
theorem EB {X:Cx}{e:Expr}{α:Type}{t:α->TG}(h: ∀z,PG X e (t z)):PG X e (λv σ H Q=> ∃z,t z v σ H Q):=λa s σ H v u Q I r ⟨z,q⟩=>h z a s σ H v u Q I r q
theorem vB {X:Cx}{e:List Expr}{α:Type}{t:α->BP}(h: ∀z,PGs X e (t z)):PGs X e (λv σ H Q=> ∃z,t z v σ H Q):=λa s σ H v u Q I r ⟨z,q⟩=>h z a s σ H v u Q I r q
section
variable {X:Cx}{c:Ct}{k:Kd}{st:Stmt}{sts body:List Stmt}{t u:FS}{e tg iter:Expr}{es:List Expr}{pos pos':Pos}{x:Str}{i:Nat}
def gN(i:Nat):FG:=λd ρ=>some (ρ.set i (.v d))
theorem au(i:Nat)(g:X.N.Nodup)(k:X.N[i]? =some x:=by rfl)(f:EN X.env.scope x:=by first|exact Ro rfl|exact QQ rfl)(l:X.fn x=true\/X.env.scope.names.lookup x=some .local:=by first|exact .inl rfl|exact .inr rfl|assumption):
 tS X c (.Name x pos) (gN i):=λhid ρ d=>PG.imp (Iq (i:=i) g k f l) λv σ H Q a=>by
 obtain⟨h,r,ρ',e,q⟩:=a;cases e;refine q _ (h.setV r i) λj o=>?_
 have b:j≠i:=λe=>by
  subst e
  by_cases lt:j<ρ.length
  ·rw[PR lt] at o;exact o
  ·rw[Qz (by simpa using lt)] at o;exact o
 rw[PJ (Qu b)] at o⊢;exact⟨o,rfl⟩
def gU:sK:=λds ρ=>match ds with
 | []=>some ρ
 |_=>none
def cU(g:FG)(a:sK):sK:=λds ρ=>match ds with
 | []=>none
 |d::r=>(g d ρ).bind λρ'=>a r ρ'
theorem ca:ML X c [] gU:=λhid ρ d=>PGs.imp Ay λv σ H Q a=>by
 obtain⟨b,r,ρ',e,q⟩:=a;unfold gU at e;split at e
 ·cases e;cases r;exact⟨rfl,q σ b λi o=>⟨o,rfl⟩⟩
 ·cases e
theorem aH(n:tS X c e g)(k:ML X c es gs)(m:(Q8 (e::es) X.env).map (·.2)=SQ e X.env::(Q8 es X.env).map (·.2):=by rfl):ML X c (e::es) (cU g gs):=λhid ρ d=>
 PGs.imp (xC (EB λd=>n hid ρ d) (vB λz:aF×List D=>k hid z.1 z.2) m) λv σ H Q a=>by
  obtain⟨p,r,ρ',e,q⟩:=a;cases d with
  |nil=>cases e
  |cons f ds=>
   cases r with
   |cons l i=>
    have e:(g f ρ).bind (λρ'=>gs ds ρ')=some ρ':=e;cases e1:g f ρ with
    |none=>rw[e1] at e;cases e
    |some ρ1=>
     rw[e1] at e;exact⟨_,_,rfl,f,p,l,ρ1,e1,λo j h=>⟨(ρ1,ds),j,i,ρ',e,λb s2 s=>q b s2 (h.trans s)⟩⟩
def gT(n:Nat)(a:sK):FG:=λd ρ=>match d with
 | .tup ds=>if ds.length=n then a ds ρ else none
 |_=>none
theorem cz{i n:Nat}(l:X.calm=true)(h:ML X c es gs)(k:(Q8 es X.env).length=n:=by rfl)(b:(Q8 es X.env).findIdx? (·.1)=none:=by rfl):tS X c (.Tuple es i pos) (gT n gs):=λhid ρ d=>
 PG.imp (Er l (vB λds=>h hid ρ ds) k b) λv σ H Q a=>by
  obtain⟨j,r,ρ',e,q⟩:=a;unfold gT at e;split at e
  ·split at e
   ·cases r with
    |tup g f=>exact⟨_,_,rfl,am.seqT (dq _ _) g,by rw[f.length];assumption,_,j,f,ρ',e,q⟩
   ·cases e
  ·cases e
def KM:Option aF->Out
 |some ρ=>.nx ρ
 |none=>.no
def cw(g:FG)(f:GE):FS:=λρ=>match f ρ with
 |some z=>KM (g z.1 z.2)
 |none=>.no
theorem fI(j:DE X c .s e f)(h:tS X c tg g)(m:Xn [tg] e pos.line X.env=pure false:=by rfl)(hw:Xo [tg] e X.env=pure none:=by rfl)
 (d:(Q8 [tg] X.env).map (·.2)=[SQ tg X.env]:=by rfl):DS X c k (.Assign [tg] e pos) (cw g f):=λρ=>
 PS.imp (FH (vb λhid=>j hid ρ) (EB λz:bM×aF×D=>h z.1 z.2.1 z.2.2) m hw d) λD σ H b=>by
  obtain⟨hid,i,q⟩:=b;unfold cw at q;cases e1:f ρ with
  |none=>rw[e1] at q;exact q.elim
  |some z=>
   rw[e1] at q;cases e2:g z.1 z.2 with
   |none=>dsimp only at q;rw[e2] at q;exact q.elim
   |some ρ2=>
    dsimp only at q;rw[e2] at q;exact⟨hid,i,z.1,z.2,e1,λv n ⟨l,s',r⟩=>⟨(hid,z.2,z.1),s',r,ρ2,e2,λa s2 _=>q a n hid s2 l.vw⟩⟩
def cT(i:Nat)(a:FE)(d:D)(ρ:aF):Option aF:=match ji i ρ with
 |some bs=>(match a ρ with
  |some (.int j)=>(match xB bs.length j with
   |some m=>some (ik i (bs.set m d) ρ)
   |none=>none)
  |_=>none)
 |none=>none
theorem yz(h:cT i fi d ρ=some ρ'): ∃bs j m,ji i ρ=some bs/\fi ρ=some (.int j)/\xB bs.length j=some m/\ρ'=ik i (bs.set m d) ρ:=by
 unfold cT at h;split at h
 ·split at h
  ·split at h
   ·cases h;exact⟨_,_,_, ‹_›, ‹_›, ‹_›,rfl⟩
   ·cases h
  ·cases h
 ·cases h
def NN(K:Pk)(c:Ct)(hid:bM)(g:FG)(ρ:aF)(d:D):TG:=λv σ H Q=>SR K c hid ρ σ H/\Rep K (vw H hid) v d/\ ∃ρ',g d ρ=some ρ'/\ ∀a,eb hid H a->SR K c hid ρ' σ a->Q σ a
def MX(X:Cx)(c:Ct)(a:Expr)(g:FG):Prop:= ∀hid ρ d,PG X a (NN X.K c hid g ρ d)
theorem jn(i:Nat)(J:DP X c k1 ix fi)(C:X.N[i]? =some y:=by rfl)(hv:wk X.env.scope y:=by first|exact Ro rfl|exact QQ (Ro rfl)|exact QQ (QQ rfl))(F:(y==("__debug__":Str))=false:=by decide)(p:(y==("__classdict__":Str))=false:=by decide)
 (G: ∀v,SQ (.Subscript (.Name y py) ix pos) X.env v=(do
   let ov <-Tp [v] (eval (.Name y py) X.env)
   let l <-Tp [v,ov] (eval ix X.env)
   UV pos
   Tp [v,ov,l] (setItem ov l v)
   release [v,ov,l] []):=by intro _;rfl):MX X c (.Subscript (.Name y py) ix pos) (cT i fi):=λhid ρ d=>
 PG.imp (Jg (pv i C hv F p) (J hid ρ) Fr G) λv σ H Q k=>by
  obtain⟨g,r,ρ',e,q⟩:=k;obtain⟨bs,j,m,A,E,K,rfl⟩:=yz e;obtain⟨a,xs,u,B,t,x,M⟩:=g.held A;refine⟨.ref a,u,g,_,E,λw L f I=>?_⟩;have D:=(RK.b k1 I λa n=>g.fresh n).int;cases D;have s:=x.mono (aX (hid:=hid) f);refine⟨a,xs,j,m,rfl,rfl,f _ _ B,by rw[x.length];exact K,q _ (λb o z h=>?_) ?_⟩
  ·rw[aP (λe=>by subst e;rw[t] at h;cases h)];exact f _ _ z
  ·exact(g.ext f).put A u (λb o z h=>by rw[aP h];exact z) aT (by rw[fX t];exact Reps.set (r.mono (aX f)) m s)
theorem qf(l:DE X c .s e f)(d:MX X c tg g)(n:Xn [tg] e pos.line X.env=pure false:=by rfl)(hw:Xo [tg] e X.env=pure none:=by rfl)
 (b:(Q8 [tg] X.env).map (·.2)=[SQ tg X.env]:=by rfl):DS X c k (.Assign [tg] e pos) (cw g f):=λρ=>
 PS.imp (FH (vb λhid=>l hid ρ) (EB λz:bM×aF×D=>d z.1 z.2.1 z.2.2) n hw b) λD σ H a=>by
  obtain⟨hid,h,q⟩:=a;unfold cw at q;cases e1:f ρ with
  |none=>rw[e1] at q;exact q.elim
  |some z=>
   rw[e1] at q;cases e2:g z.1 z.2 with
   |none=>dsimp only at q;rw[e2] at q;exact q.elim
   |some ρ2=>
    dsimp only at q;rw[e2] at q;exact⟨hid,h,z.1,z.2,e1,λv o ⟨m,s',r⟩=>⟨(hid,z.2,z.1),s',r,ρ2,e2,λi j s2=>q σ i hid s2 (m.trans j).vw⟩⟩
def NH(K:Pk)(c:Ct)(hid:bM)(g:sK)(ρ:aF)(d:List D):BP:=λv σ H Q=>SR K c hid ρ σ H/\Reps K (vw H hid) v d/\ ∃ρ',g d ρ=some ρ'/\ ∀a,eb hid H a->SR K c hid ρ' σ a->Q σ a
def M7(X:Cx)(c:Ct)(a:List Expr)(g:sK):Prop:= ∀hid ρ d,PGs X a (NH X.K c hid g ρ d)
theorem AR:M7 X c [] gU:=λhid ρ d=>PGs.imp Ay λv σ H Q a=>by
 obtain⟨b,r,ρ',e,q⟩:=a;unfold gU at e;split at e
 ·cases e;cases r;exact⟨rfl,q H (.of (am.refl _)) b⟩
 ·cases e
theorem nq(n:MX X c e g)(k:M7 X c es gs)(m:(Q8 (e::es) X.env).map (·.2)=SQ e X.env::(Q8 es X.env).map (·.2):=by rfl):M7 X c (e::es) (cU g gs):=λhid ρ d=>
 PGs.imp (xC (EB λd=>n hid ρ d) (vB λz:aF×List D=>k hid z.1 z.2) m) λv σ H Q a=>by
  obtain⟨o,r,ρ',e,q⟩:=a;cases d with
  |nil=>cases e
  |cons b ds=>
   cases r with
   |cons l h=>
    have e:(g b ρ).bind (λρ'=>gs ds ρ')=some ρ':=e;cases e1:g b ρ with
    |none=>rw[e1] at e;cases e
    |some ρ1=>
     rw[e1] at e;exact⟨_,_,rfl,b,o,l,ρ1,e1,λs f j=>⟨(ρ1,ds),j,h.mono f.vw,ρ',e,λi p s2=>q i (f.trans p) s2⟩⟩
theorem zX{i n:Nat}(l:X.calm=true)(h:M7 X c es gs)(k:(Q8 es X.env).length=n:=by rfl)(b:(Q8 es X.env).findIdx? (·.1)=none:=by rfl):MX X c (.Tuple es i pos) (gT n gs):=λhid ρ d=>
 PG.imp (Er l (vB λds=>h hid ρ ds) k b) λv σ H Q a=>by
  obtain⟨j,r,ρ',e,q⟩:=a;unfold gT at e;split at e
  ·split at e
   ·cases r with
    |tup g f=>exact⟨_,_,rfl,am.seqT (dq _ _) g,by rw[f.length];assumption,_,j,f,ρ',e,q⟩
   ·cases e
  ·cases e
def il(K:Pk)(W:Hp)(J:It)(ds:List D):Prop:=
 (∀(i:Nat) (d:D) (H:Hp),ds[i]? =some d->am W H->J.go i H/\ ∀x a,J.yld i H x a->am H a/\ ∀hid:bM,(∀b,hid b=true-> ∃o,H b=some o)->am W (vw H hid)->Rep K (vw a hid) x d)/\ ∀H,am W H->J.stop ds.length H
def OX(K:Pk)(c:Ct)(hid:bM)(f:GA)(ρ:aF):TI:=λσ H R=>SR K c hid ρ σ H/\ ∃ds ρ',f ρ=some (ds,ρ')/\ ∀J a,eb hid H a->SR K c hid ρ' σ a->il K (vw a hid) J ds->R J a
def DI(X:Cx)(c:Ct)(b a:Expr)(f:GA):Prop:= ∀hid ρ,PI X b a (OX X.K c hid f ρ)
theorem PI.imp {t t':TI}(h:PI X tg iter t)(i: ∀σ H Q,t' σ H Q->t σ H Q):PI X tg iter t':=λa s σ H R I q=>h a s σ H R I (i σ H R q)
theorem NU {α:Type}{t:α->TI}(h: ∀z,PI X tg iter (t z)):PI X tg iter (λσ H R=> ∃z,t z σ H R):=λa s σ H R I ⟨z,q⟩=>h z a s σ H R I q
def zp(f:GE):GA:=λρ=>match f ρ with
 |some (.lst ds,ρ')=>some (ds,ρ')
 |_=>none
theorem Fk {K:Pk}(h:SqT K W a xs)(r:Reps K W xs ds):il K W (Nx K a) ds:=by
 refine⟨λi d H e s=>?_,λH s=>⟨xs,am.seqT s h,by rw[r.length];exact Ph _⟩⟩;obtain⟨x,b,f⟩:=r.get e;refine⟨⟨xs,x,am.seqT s h,b⟩,λy k ⟨g,j⟩=>?_⟩;subst g;have:=j xs (am.seqT s h);rw[b] at this;cases this;exact⟨am.refl _,λhid _ c=>f.mono c⟩
theorem AT(h:DE X c .s iter f):DI X c tg iter (zp f):=λhid ρ=>PI.imp (zR (h hid ρ)) λσ H R g=>by
 obtain⟨p,ds,ρ',e,q⟩:=g;unfold zp at e;split at e
 ·rename_i m ρ1 b
  cases e;refine⟨p,.lst ds,ρ',b,λv k ⟨n,s',r⟩=>?_⟩;cases r with
  |lst a j=>have a:=SqL.of (K:=X.K) a;exact⟨_,rfl,⟨_,(dq _ _).seq a⟩,q _ k n s' (by
    refine⟨λi d H e s=>?_,λH s=>⟨_,s.seq a,by rw[j.length];exact Ph _⟩⟩;obtain⟨x,b,o⟩:=j.get e;refine⟨⟨_,x,s.seq a,b⟩,λy k ⟨l,u⟩=>?_⟩;subst l;have:=u _ (s.seq a)
    rw[b] at this;cases this;exact⟨am.refl _,λhid _ t=>o.mono t⟩)⟩
 ·cases e
def vz(a:Int)(n:Nat):List D:=(O5 n).map λ(i:Nat)=>D.int (a+i)
theorem qE {K:Pk}{a:Int}:il K W (MU a n) (vz a n):=by
 refine⟨λi d H e s=>?_,λH s=>by show n<=(vz a n).length;simp[vz]⟩;unfold vz at e;rw[P5] at e;cases e1:(O5 n)[i]? with
 |none=>rw[e1] at e;cases e
 |some j=>
  rw[e1] at e;obtain⟨c,b⟩:=Pu.mp e1;simp at c b;subst b;cases e;refine⟨c,λy k ⟨f,g⟩=>?_⟩;subst f g;exact⟨am.refl _,λhid _ h=>.int⟩
def EE(f:GA):GA:=λρ=>match f ρ with
 |some ([.int j],ρ')=>if j.natAbs<4000000000 then some (vz 0 j.toNat,ρ') else none
 |_=>none
theorem BO{p:Pos}(k:X.mg "range"=none)(h:DG X c [a] f)(d:Gl X "range":=by rfl)(j:Pv [a] X.env=[(false,eval a X.env)]:=by rfl):DI X c tg (.Call (.Name "range" p) [a] [] pos) (EE f):=λhid ρ=>
 PI.imp (tI d k (h hid ρ) j) λσ H R b=>by
  obtain⟨g,ds,ρ',e,q⟩:=b;unfold EE at e;split at e
  ·split at e
   ·cases e;refine⟨g,_,_, ‹_›,λvs l i s' r=>?_⟩;cases r with
    |cons r t=>cases t;cases r;exact⟨_,rfl,by lia,by lia,q _ l i s' qE⟩
   ·cases e
  ·cases e
def fE(g:FG)(b:FS):List D->FS
 | [],ρ=>.nx ρ
 |d::r,ρ=>match g d ρ with
  |none=>.no
  |some ρ1=>match b ρ1 with
   | .nx ρ2=>fE g b r ρ2
   | .ct ρ2=>fE g b r ρ2
   | .bk ρ2=>.nx ρ2
   | .rt d ρ2=>.rt d ρ2
   | .no=>.no
def im(f:GA)(g:FG)(b:FS):FS:=λρ=>match f ρ with
 |some (ds,ρ')=>fE g b ds ρ'
 |none=>.no
theorem jB(N:Ys (model X.prog X.w) X.A X.env X.xe)(O:X.calm=true)(hi:DI X c tg iter f)(L:tS X c tg g)(hb:xU X c k body tb)
 (P: ∀x,QO iter X.env x=pure x:=by intro _;rfl):DS X c k (.For tg iter body [] pos) (im f g tb):=λρ=>
 PS.imp (Jp N O (NU λhid=>hi hid ρ) (EB λz:bM×aF×D=>L z.1 z.2.1 z.2.2) (v9 λρ=>hb ρ) P) λD σ H C=>by
  obtain⟨hid,R,q⟩:=C;unfold im at q;cases e1:f ρ with
  |none=>rw[e1] at q;exact q.elim
  |some z=>
   obtain⟨ds,s⟩:=z;rw[e1] at q;have q':c5 X.K c k D (vw H hid) (fE g tb ds s):=q;refine⟨hid,R,ds,s,e1,λJ B kp W it=>?_⟩;refine⟨λi m σ H=>m=ds.length-i/\i<=ds.length/\ ∃a ρ2,SR X.K c a ρ2 σ H/\am (vw B hid) (vw H a)/\c5 X.K c k D (vw H a) (fE g tb (ds.drop i) ρ2),⟨ds.length,by simp,Q3 _,hid,s,W,am.refl _,c5.mono q' kp.vw⟩,?_⟩;rintro i m E u ⟨rfl,S,a,ρ2,s2,v,b⟩;have G:am (vw B hid) u:=v.trans (dq _ _)
   by_cases r:i<ds.length
   ·have Z:ds[i]? =some ds[i]:=Pd r;have U:ds.drop i=ds[i]::ds.drop (i+1):=Rm r;rw[U] at b;unfold fE at b;obtain⟨Q,V⟩:=it.1 i ds[i] u Z G;refine .inr ⟨Q,λj p=> ∃n l,SR X.K c n l j p/\am (vw B hid) (vw p n)/\c5 X.K c k D (vw p n) (fE g tb (ds.drop (i+1)) l),λj p Y=>⟨ds.length- (i+1),by lia,rfl,r,Y⟩,λx I y=>?_⟩;obtain⟨F,M⟩:=V x I y;have rx:=M a s2.tr v;cases e3:g ds[i] ρ2 with
    |none=>rw[e3] at b;exact b.elim
    |some l=>
     rw[e3] at b;refine⟨(a,ρ2,ds[i]),s2.ext F,rx,l,e3,λST T _=>⟨l,a,T,?_⟩⟩;have t:am (vw u a) (vw I a):=aX F;dsimp only at b;cases e4:tb l with
     |nx o=>rw[e4] at b;exact λj p h z w=>⟨h,o,z,(v.trans t).trans w,c5.mono b (t.trans w)⟩
     |ct o=>rw[e4] at b;exact λj p h z w=>⟨h,o,z,(v.trans t).trans w,c5.mono b (t.trans w)⟩
     |bk o=>rw[e4] at b;exact λj p h z w=>b j p h z (t.trans w)
     |rt d o=>rw[e4] at b;exact b
     |no=>rw[e4] at b;exact b.elim
   ·have e:i=ds.length:=by lia
    subst e;rw[R9 (Ph _)] at b;exact .inl ⟨it.2 u G,b E u a s2 (am.refl _)⟩
def vx(p:FT)(b:FS):Nat->FS
 |0,_=>.no
 |n+1,ρ=>match p ρ with
  |none=>.no
  |some false=>.nx ρ
  |some true=>match b ρ with
   | .nx ρ2=>vx p b n ρ2
   | .ct ρ2=>vx p b n ρ2
   | .bk ρ2=>.nx ρ2
   | .rt d ρ2=>.rt d ρ2
   | .no=>.no
theorem xS(n:Nat){p:FT}{tb:FS}(hp:Ys (model X.prog X.w) X.A X.env X.xe)(hc:DT X c e p)(hb:xU X c k body tb):DS X c k (.While e body [] pos) (vx p tb n):=λρ=>
 PS.imp (Fd hp (K5 λz:bM×aF=>hc z.1 z.2) (v9 λρ=>hb ρ)) λD σ H hq_=>by
  obtain⟨hid,sr,q⟩:=hq_;refine⟨λm σ H=> ∃hid2 ρ2,SR X.K c hid2 ρ2 σ H/\c5 X.K c k D (vw H hid2) (vx p tb m ρ2),⟨n,hid,ρ,sr,q⟩,?_⟩;rintro m σ2 H2 ⟨hid2,ρ2,s2,q2⟩;cases m with
  |zero=>exact q2.elim
  |succ m=>
   unfold vx at q2;cases e1:p ρ2 with
   |none=>rw[e1] at q2;exact q2.elim
   |some b=>
    rw[e1] at q2;refine⟨(hid2,ρ2),s2,b,e1,λH3 s3=>?_⟩;cases b with
    |false=>exact w6 (q2 σ2 H3 hid2 (s2.ext s3) (aX s3))
    |true=>
     refine v7 ⟨λσ' H'=> ∃hid3 ρ3,SR X.K c hid3 ρ3 σ' H'/\c5 X.K c k D (vw H' hid3) (vx p tb m ρ3),λσ' H' n3=>⟨m,QM _,n3⟩,ρ2,hid2,s2.ext s3,?_⟩;have w3:am (vw H2 hid2) (vw H3 hid2):=aX s3;dsimp only at q2;cases e4:tb ρ2 with
     |nx ρ5=>rw[e4] at q2;exact λσ' H' hid' z w=>⟨hid',ρ5,z,c5.mono q2 (w3.trans w)⟩
     |ct ρ5=>rw[e4] at q2;exact λσ' H' hid' z w=>⟨hid',ρ5,z,c5.mono q2 (w3.trans w)⟩
     |bk ρ5=>rw[e4] at q2;exact λσ' H' hid' z w=>q2 σ' H' hid' z (w3.trans w)
     |rt d ρ5=>rw[e4] at q2;exact q2
     |no=>rw[e4] at q2;exact q2.elim
end
def kv(n:Nat)(ds:List D):aF:=ds.map Sl.v++Pj (n-ds.length) .no
def eZ(kd:Kd)(n:Nat)(t:FS)(ds:List D):Option D:=match t (kv n ds) with
 | .rt d _=>some d
 | .nx _=>(match kd with
   | .n=>none
   |_=>some .non)
 |_=>none
def qv(n:Nat)(bs ds:List D):aF:=.arg bs::(ds.map Sl.v++Pj (n-1-ds.length) .no)
def qO:aF->Option (List D)
 | .arg bs::_=>some bs
 |_=>none
def zf(kd:Kd)(n:Nat)(t:FS)(bs ds:List D):Option (D×List D):=match t (qv n bs ds) with
 | .rt d ρ=>(qO ρ).map λb=>(d,b)
 | .nx ρ=>(match kd with
   | .n=>none
   |_=>(qO ρ).map λb=>(.non,b))
 |_=>none
theorem DV {K:Pk}{c:Ct}(m:Nat): ∀ {vs:List V} {ds:List D},Reps K (vw H hid) vs ds-> ∀(i:Nat) (s:Sl),(ds.map Sl.v++Pj m .no)[i]? =some s->kn K c hid (vs.map some++Pj m none) H i s:=by
 intro vs ds r i s e;have g:=r.length
 by_cases a:i<ds.length
 ·rw[P7 (by simpa using a),P5] at e;have b:ds[i]? =some ds[i]:=Pd a;rw[b] at e;cases e;obtain⟨x,d,f⟩:=r.get b;exact⟨x,by rw[P7 (by simp;lia),P5,d];rfl,f⟩
 ·rw[P4 (by simpa using a),QG] at e;split at e
  ·cases e;trivial
  ·cases e
theorem Jr {ds:List D}{m i:Nat}: ¬Ow (ds.map Sl.v++Pj m Sl.no)[i]? :=λo=>by
 by_cases a:i<ds.length
 ·rw[P7 (by simpa using a),P5,Pd a] at o;exact o
 ·rw[P4 (by simpa using a),QG] at o;split at o<;>exact o
theorem SR.begins {K:Pk}{N:List Str}(c:Lj hid H)(r:Reps K (vw H hid) vs ds):SR K ⟨H,hid,λ_=>false⟩ hid (kv N.length ds) (start N vs) H:=by
 have d:=r.length;unfold start kv;rw[d];exact⟨c.1,c.2,λ_ h=>h,λ_ _ h _=>h,λb o h=>⟨o,h⟩,c.1,(λ_ h=>nomatch h),by simp[d],λi s e=>DV _ r i s e,λi j a _ o=>absurd o Jr⟩
section
variable {P:Qc}{w:Qv}{K:Pk}{mg:Str->Option O7}{base:Heap}{x qual:Str}{st:Stmt}{f:Addr}{fd:Sk}{N ps:List Str}{k:Nat}{t:FS}{kd:Kd}
theorem Bk(F:Fun K x qual st f fd)(S:bm N ps (ay st))(j:kd≠ .b)
 (l: ∀(g:O7) (A:Qe) (a:List Env) (s:O9) (H:Hp) (hid:bM) (E:XK),dl k (A.deeper (UJ qual (ay st) s.heap.objs.size f g))->
   xU (r9 vA P w K mg base N qual (ay st) f g A a s H E).nox ⟨H,hid,λ_=>false⟩ kd (dE st) t):
 gt P w K mg base vA (k+1) f fd ps (cr K kd ps.length (eZ kd N.length t)):=by
 refine F.ok S (λvs H Q E h=>?_) (λg A a s H vs Q E D h=>?_)
 ·obtain⟨hid,ds,_,r,p,_⟩:=h;rw[r.length,p]
 ·obtain⟨hid,ds,C,r,p,d,c,q⟩:=h;refine⟨_,l g A a s H hid E D (kv N.length ds),hid,SR.begins C r,?_⟩;unfold eZ at c;cases e:t (kv N.length ds) with
  |nx ρ=>
   rw[e] at c;intro y i u B _;have m:am H i:=λb o z=>B.kp b o z rfl
   cases kd with
   |b=>exact absurd rfl j
   |s=>cases c;exact q _ i m .non
   |n=>cases c
  |rt d' ρ=>
   rw[e] at c;cases c;intro v i R;have m:am H i:=λb o z=>R.kp b o z rfl
   cases kd with
   |b=>exact absurd rfl j
   |s=>exact q v i m R.val
   |n=>exact q v i m R.val
  |bk ρ=>rw[e] at c;cases c
  |ct ρ=>rw[e] at c;cases c
  |no=>rw[e] at c;cases c
theorem SR.beginsE(k:Lj hid H)(m:hid a=true)(t:H a=some (.lst xs))(q:Reps K (vw H hid) xs bs)(r:Reps K (vw H hid) us ds)(y:0<N.length):
 SR K ⟨H,hid,λb=>decide (b=a)⟩ hid (qv N.length bs ds) (start N (.ref a::us)) H:=by
 have l:=r.length;have es:start N (.ref a::us)=some (V.ref a)::(us.map some++Pj (N.length-1-ds.length) none):=by
  unfold start;rw[Pe,VR,PL,l];congr 3;lia
 rw[es];unfold qv;refine⟨k.1,k.2,λ_ h=>h,λ_ _ h _=>h,λb o h=>⟨o,h⟩,k.1,λb h=>?_,by simp[l],λi s e=>?_,λi j z n p u A w=>?_⟩
 ·have:b=a:=by simpa using h
  rw[this];exact m
 ·cases i with
  |zero=>
   cases e;exact⟨a,xs,rfl,t,m,by simp,q⟩
  |succ i=>
   have z:=DV (c:=⟨H,hid,λb=>decide (b=a)⟩) (N.length-1-ds.length) r i s (by simpa using e);cases s with
   |no=>trivial
   |v d=>obtain⟨x,f,g⟩:=z;exact⟨x,by simpa using f,g⟩
   |own ds=>obtain⟨x,xs,f,g⟩:=z;exact⟨x,xs,by simpa using f,g⟩
   |arg ds=>obtain⟨x,xs,f,g⟩:=z;exact⟨x,xs,by simpa using f,g⟩
   |ob b=>obtain⟨x,f,g⟩:=z;exact⟨x,by simpa using f,g⟩
 ·cases i with
  |zero=>
   cases j with
   |zero=>exact n rfl
   |succ j=>exact Jr (by simpa using u)
  |succ i=>exact Jr (by simpa using p)
theorem BB(h:qO ρ=some b):ρ[0]? =some (.arg b):=by
 unfold qO at h;split at h
 ·cases h;rfl
 ·cases h
theorem KO(F:Fun K x qual st f fd)(S:bm N ps (ay st))(u:kd≠ .b)(T:ps.length=n+1)
 (m: ∀(l:O7) (A:Qe) (g:List Env) (s:O9) (H:Hp) (hid:bM) (a:Addr) (E:XK),dl k (A.deeper (UJ qual (ay st) s.heap.objs.size f l))->
   xU (r9 vA P w K mg base N qual (ay st) f l A g s H E).nox ⟨H,hid,λb=>decide (b=a)⟩ kd (dE st) t):
 gt P w K mg base vA (k+1) f fd ps (vt K kd n (zf kd N.length t)):=by
 refine F.ok S (λvs H Q E h=>?_) (λl A g s H vs Q E hr h=>?_)
 ·obtain⟨hid,a,xs,bs,us,ds,rfl,_,_,_,_,r,G,_⟩:=h;rw[PL,r.length,G,T]
 ·obtain⟨hid,a,xs,bs,us,ds,rfl,tr,U,M,J,r,G,d,y,c,q⟩:=h;have Z:0<N.length:=by have:=congrArg Sd S.pre;rw[RO] at this;lia
  refine⟨_,m l A g s H hid a E hr (qv N.length bs ds),hid,SR.beginsE tr U M J r Z,?_⟩;have fin: ∀(v:V) (i:Hp) (ρ:aF) (d:D),Ret K ⟨H,hid,λb=>decide (b=a)⟩ kd ρ i v d->qO ρ=some y->(∀v i j,(∀b o,H b=some o->b≠a->i b=some o)->i a=some (.lst j)->LV K kd hid H i v d j y->Q v i)->Q v i:=by
   intro v i ρ d R Y q;obtain⟨a',j,W,L,C⟩:=R.arg 0 _ (BB Y);have:a'=a:=by simpa using W
   subst this;refine q v i j (λb o z n=>R.kp b o z (by simpa using n)) L ?_
   cases kd with
   |b=>exact absurd rfl u
   |s=>exact⟨R.val,C⟩
   |n=>
    obtain⟨p,ys,es,rfl,rfl,X,O,h3⟩:=R.val;exact⟨p,ys,es,rfl,rfl,X,O,h3,C⟩
  unfold zf at c;cases e:t (qv N.length bs ds) with
  |nx ρ=>
   rw[e] at c;intro ST i I B _;cases kd with
   |b=>exact absurd rfl u
   |s=>
    dsimp only at c;cases e0:qO ρ with
    |none=>rw[e0] at c;cases c
    |some b=>
     rw[e0] at c;cases c;exact fin .non i ρ .non (IO (k:=.s) (by decide) (B.post (k:=.s) (am.refl _) .non (by decide)) B.h0) e0 q
   |n=>cases c
  |rt d' ρ=>
   rw[e] at c;dsimp only at c;cases e0:qO ρ with
   |none=>rw[e0] at c;cases c
   |some b=>
    rw[e0] at c;cases c;intro v i R;exact fin v i ρ _ R e0 q
  |bk ρ=>rw[e] at c;cases c
  |ct ρ=>rw[e] at c;cases c
  |no=>rw[e] at c;cases c
end
def z8(K:Pk):Sp:=λvs H Q _=> ∃(a:Addr) (b:List Int),vs=[.ref a]/\SqR K H a (b.map V.int)/\b.length<=63/\ ∀c,Q (.bl true) c
theorem tE {K:Pk}: ∀a:List Int,Reps K F (a.map V.int) (a.map D.int)
 | []=>.nil
 |_::r=>.cons .int (tE r)
theorem JL {P:Qc}{w:Qv}{K:Pk}{base:Heap}{x:Str}(F:gt P w K mg base vA k f fd [x] (cr K .s 1 M))(i: ∀c:List Int,c.length<=63->M [.scr (c.map D.int)]=some (.bl true)):
 gt P w K mg base vA k f fd [x] (z8 K):=F.imp λvs H Q E d=>by
 obtain⟨a,c,e,j,g,q⟩:=d;subst e;have hv:vw H (λ_=>false)=H:=by funext b;unfold vw;simp
 refine⟨λ_=>false,[.scr (c.map D.int)],⟨(λb h=>nomatch h),(λb xs h=>nomatch h)⟩,?_,rfl,.bl true,i c g,λv l _ r=>?_⟩
 ·rw[hv];exact .cons (.scr j (tE c)) .nil
 ·cases r;exact q l
theorem walkD {l:jaw}{k:Nat}{x:Str}{d:DefRec}{K:Params->Pk}(m:l.most=some 63)(c:d.params.defaults=[])(A:dl k We)
 (t: ∀(w:Qv) (h:Heap),YP w h->(K w.params).In h)
 (F: ∀(w:Qv) (b:Str->Option O7) (i:Addr) (h:Heap),(K w.params).In h->h.Ns Qx b->b d.name=some (.ref i)->
   ∃g:Sk,(∀(s:O9) (u:O7),XZ s g ⟨[u],[]⟩ [(x,u)])/\ ∀base:Heap,(K w.params).In base->base.Ns Qx b->gt l.prog w (K w.params) b base vA k i g [x] (z8 (K w.params))):
 W.WalkO q loose XP YP l.row.toRowW d [] (λf vs=>Zw f vs):=
 L2.walk_of (n:=63) (k:=k) (x:=x) (CX:=λ_=>vA) (sp:=λw=>z8 (K w.params)) m (by decide) c A t F (λ_ H a y v p j=>⟨a,y,rfl,j.elim (λr=>r.elim (λe=>by rcases p a with z|⟨o,xs,z⟩<;>rw[z] at e<;>cases e) .inl) .inr,v,λ_=>rfl⟩) λ_ _ _ _ _ z=>z
def ut(a:List (Str×Addr)):List (Str×R6)->List (Str×Addr)->List (Str×Addr)
 | [],acc=>acc
 |(n,k)::r,acc=>ut a r (if k== .free then(match a.lookup n with
  |some c=>(n,c)::acc
  |none=>acc) else acc)
theorem vg {a:List (Str×Addr)}: ∀ {names:List (Str×R6)} {acc:List (Str×Addr)},(∀p∈acc,a.lookup p.1=some p.2)-> ∀p∈ut a names acc,a.lookup p.1=some p.2
 | [],acc,h,p,d=>h p d
 |(n,k)::r,acc,h,p,d=>by
  refine vg (names:=r) ?_ p d;intro q b;split at b
  ·split at b
   ·rename_i c e
    rcases PD.mp b with rfl|b
    ·exact e
    ·exact h q b
   ·exact h q b
  ·exact h q b
theorem xT: ∀ {names:List (Str×R6)} {acc:List (Str×Addr)} (p:Str×Addr),p∈ut cells names acc->p∈acc\/(p.1,RC)∈names
 | [],acc,p,b=>.inl b
 |(n,k)::r,acc,p,b=>by
  rcases xT (names:=r) p b with a|a
  ·split at a
   ·rename_i c
    split at a
    ·rcases PD.mp a with e|a
     ·subst e;have:k=.free:=by simpa using c
      subst this;exact .inr PH
     ·exact .inl a
    ·exact .inl a
   ·exact .inl a
  ·exact .inr (Pt _ a)
theorem xA: ∀ {names:List (Str×R6)} {acc:List (Str×Addr)} {p:Str×Addr},p∈acc->p∈ut cells names acc
 | [],acc,p,h=>h
 |(n,k)::r,acc,p,h=>by
  refine xA (names:=r) ?_
  split
  ·split
   ·exact Pt _ h
   ·exact h
  ·exact h
theorem zT {a:List (Str×Addr)}(b:a.lookup x=some c): ∀ {names:List (Str×R6)} {acc:List (Str×Addr)},(x,RC)∈names->(x,c)∈ut a names acc
 | [],_,h=>nomatch h
 |(n,k)::r,acc,h=>by
  rcases PD.mp h with e|h
  ·cases e;refine xA (names:=r) ?_
   rw[if_pos (by rfl),b];exact PH
  ·exact zT b (names:=r) h
theorem se {l:List (Str×Addr)}(h:(x,c)∈l)(u: ∀p∈l,p.1=x->p.2=c):l.lookup x=some c:=by
 induction l with
 |nil=>exact nomatch h
 |cons p r f=>
  obtain⟨n,a⟩:=p;rw[Sf];cases e:x==n with
  |true=>
   have b:x=n:=eq_of_beq e;have:=u (n,a) PH b.symm;simpa using this
  |false=>
   have d:x≠n:=λb=>by rw[b] at e;simp at e
   rcases PD.mp h with b|h
   ·cases b;exact absurd rfl d
   ·exact f h λp g=>u p (Pt _ g)
theorem yi {a:List (Str×Addr)}(h:(ut a names []).lookup x=some c):a.lookup x=some c:=
 vg (names:=names) (acc:=[]) (λ_ z=>nomatch z) (x,c) (QB h)
theorem pd {a:List (Str×Addr)}(b:a.lookup x=some c)(f:(x,RC)∈names):(ut a names []).lookup x=some c:=
 se (zT b f) λp d e=>by
  have:=vg (names:=names) (acc:=[]) (λ_ z=>nomatch z) p d;rw[e,b] at this;exact(Qi this).symm
theorem fu {scope:R5}{a:Env}(h: ∀x,(x,RC)∈scope.names-> ∃c,a.cells.lookup x=some c):closureFor scope a=pure (ut a.cells scope.names []):=by
 unfold closureFor;have f: ∀(names:List (Str×R6)) (acc:List (Str×Addr)),(∀x,(x,RC)∈names-> ∃c,a.cells.lookup x=some c)->
  (forIn names acc (λ(p:Str×R6) (r:List (Str×Addr))=>match p with
    |(name,d)=>if(d==RC)=true then do
       let b <-cellOf a name
       pure (ForInStep.yield ((name,b)::r)) else pure (ForInStep.yield r)):Sem (List (Str×Addr)))=pure (ut a.cells names acc):=by
  intro names
  induction names with
  |nil=>intro acc _;rfl
  |cons p r i=>
   intro acc h;obtain⟨n,k⟩:=p;rw[List.forIn_cons];have j: ∀x,(x,RC)∈r-> ∃c,a.cells.lookup x=some c:=λx m=>h x (Pt _ m)
   cases e:k==RC with
   |false=>
    simp only[e,Po,if_false,pure_bind];rw[i acc j]
    conv=>rhs;unfold ut
    simp[e]
   |true=>
    have l:k=.free:=by simpa using e
    subst l;obtain⟨c,g⟩:=h n PH;have o:cellOf a n=pure c:=by unfold cellOf;rw[g]
    simp only[beq_self_eq_true,if_true,o,pure_bind];rw[i _ j]
    conv=>rhs;unfold ut
    simp[g]
 have:=f scope.names [] h;simp only[this,pure_bind]
theorem je {a:R5}(h:(T8 a env).names.lookup x=some k): ∃b,a.names.lookup x=some b/\(k=b\/(b=.free/\k=.cell)):=by
 unfold T8 at h;dsimp only at h;generalize a.names=l at h⊢
 induction l with
 |nil=>simp at h
 |cons p r e=>
  obtain⟨n,c⟩:=p;rw[Pe] at h;dsimp only at h;rw[Sf];cases hx:x==n with
  |true=>
   refine⟨c,rfl,?_⟩;split at h
   ·rename_i d
    rw[Sf] at h;simp only[hx] at h;cases h;have:c=.free:=by
     simp only[Pi] at d;exact eq_of_beq d.1.1
    exact .inr ⟨this,rfl⟩
   ·rw[Sf] at h;simp only[hx] at h;cases h;exact .inl rfl
  |false=>
   split at h
   ·rw[Sf] at h;simp only[hx] at h;exact e h
   ·rw[Sf] at h;simp only[hx] at h;exact e h
def oz(a:List (Str×Addr))(scope:R5)(C:Addr):List (Str×Addr):=RH (C+1) scope.names (ut a scope.names [])
theorem bN: ∀(names:List (Str×R6)) (n:Nat) (acc:List (Str×Addr)),RH n names acc=RH n names []++acc
 | [],_,_=>rfl
 |(name,a)::r,n,acc=>by
  unfold RH;split
  ·rw[bN r (n+1) ((name,n)::acc),bN r (n+1) [(name,n)],QE];rfl
  ·exact bN r n acc
theorem uu: ∀ {names:List (Str×R6)} {n:Nat} {p:Str×Addr},p∈RH n names []->(p.1,Ta)∈names
 | [],_,_,h=>nomatch h
 |(name,a)::r,n,p,h=>by
  unfold RH at h;split at h
  ·rename_i c
   have b:a=.cell:=by simpa using c
   subst b;rw[bN] at h;rcases QA.mp h with h|h
   ·exact Pt _ (uu h)
   ·rw[Px.mp h];exact PH
  ·exact Pt _ (uu h)
theorem oM: ∀ {names:List (Str×R6)} {n:Nat} {x:Str},(x,Ta)∈names-> ∃c,(x,c)∈RH n names []
 | [],_,_,h=>nomatch h
 |(name,a)::r,n,x,h=>by
  unfold RH;rcases PD.mp h with e|h
  ·cases e;rw[if_pos (by rfl),bN];exact⟨n,PU _ PH⟩
  ·split
   ·obtain⟨c,b⟩:=oM (n:=n+1) h;rw[bN];exact⟨c,QV _ b⟩
   ·exact oM h
theorem yV {l:List (Str×Addr)}{c:Addr}(h:(x,c)∈l): ∃b,l.lookup x=some b:=by
 induction l with
 |nil=>exact nomatch h
 |cons p r f=>
  obtain⟨n,a⟩:=p;rw[Sf];cases e:x==n with
  |true=>exact⟨a,rfl⟩
  |false=>
   rcases PD.mp h with d|h
   ·cases d;simp at e
   ·exact f h
theorem fF{a:R5}(h:(oz cells a C).lookup x=some c):(x,c)∈RH (C+1) a.names []\/(ut cells a.names []).lookup x=some c:=by
 unfold oz at h;rw[bN,Vb] at h;cases e:(RH (C+1) a.names []).lookup x with
 |none=>rw[e] at h;exact .inr h
 |some b=>rw[e] at h;cases h;exact .inl (QB e)
theorem DK{a:R5}(h:(x,Ta)∈a.names): ∃c,(oz cells a C).lookup x=some c:=by
 obtain⟨c,d⟩:=oM (n:=C+1) h;obtain⟨b,e⟩:=yV d;exact⟨b,by unfold oz;rw[bN,Vb,e];rfl⟩
theorem xN{a:R5}(h:(x,Ta)∉a.names):(oz cells a C).lookup x=(ut cells a.names []).lookup x:=by
 unfold oz;rw[bN,Vb];cases e:(RH (C+1) a.names []).lookup x with
 |none=>rfl
 |some b=>exact absurd (uu (QB e)) h
theorem ux{s:O9}{scope:R5}{a:Addr}
 (f: ∀h',h'.Ns s.heap.objs.size (λ_=>none)->(∀b o,s.heap.get? b=some o->h'.get? b=some o)->CellsOk h' (s.heap.objs.size+1) (RH (s.heap.objs.size+1) scope.names [])->
   Q (newEnv scope s.heap.objs.size a (RH (s.heap.objs.size+1) scope.names closure) qual none .none (some outer) XF) {s with heap:=h',toks:=s.toks}):
 Ps M A (T9 scope a closure [] qual none .none (some outer)) Q E s:=by
 simp only[T9,Option.isSome_some,if_true];refine O4 (YK ?_);refine O4 (wpAny_layCells _ (λname c d=>by cases hkc:c==Ta<;>simp[hkc]) _ _ _ _ ?_);have ok:=cellsFrom_ok scope.names (s.heap.push {cls:=.type "dict",data:=.dict #[]}) (s.heap.objs.size+1) [] ⟨λ_ _ g=>(nomatch g),RZ⟩ (by rw[QY];exact Ph _);rw[QY] at ok;rw[show({s with heap:=s.heap.push {cls:=.type "dict",data:=.dict #[]}}:O9).heap.objs.size=s.heap.objs.size+1 from QY ..];rw[List.forIn_nil];refine O4 (O8 (O8 ?_));exact f _ ((Heap.Ns.new s.heap (.type "dict")).keeps (YW _ _)) (λb o e=>YW _ _ b o (Pa _ e)) ok
def aE(X:Cx)(N':List Str)(scope:R5)(C:Addr)(s₀:O9)(H₀:Hp)(ex:List Addr):Cx where
 prog:=X.prog
 w:=X.w
 K:=X.K
 mg:=X.mg
 base:=X.base
 A:=X.A
 N:=N'
 s₀:=s₀
 H₀:=H₀
 env:=VS scope (oz X.env.cells scope C) C X.env
 outer:=X.stack
 stack:=X.stack
 ex:=ex
 fn:=λx=>scope.names.lookup x==some .local||scope.names.lookup x==some .cell
 calm:=X.calm
 pn:=[]
 xe:=λ_ _=>False
def ym(N N':List Str)(a:R5):Bool:=
 decide (N.length<=N'.length)&&((N'.take N.length).zip N).all (λp=>(p.1==p.2&& !(a.names.lookup p.1==some .local)&& !(a.names.lookup p.1==some .cell))||(a.names.lookup p.1).isNone)&&
  (N'.drop N.length).all λx=>a.names.lookup x==some .local||a.names.lookup x==some .cell
def x6(b:R5)(a:R5):Bool:=
 b.names.all λy=>(y.2 != .cell||b.names.lookup y.1==some .cell)&&(y.2 != .local||b.names.lookup y.1==some .local)&&(y.2 != .free||(b.names.lookup y.1==some .free&&(a.names.lookup y.1==some .cell||a.names.lookup y.1==some .free)))
theorem xn {a o:R5}(h:x6 a o=true): ∀y∈a.names,y.2=.cell->a.names.lookup y.1=some .cell:=λy b e=>by
 have:=Pq.mp h y b;simpa [e] using this
theorem lc {a o:R5}(h:x6 a o=true): ∀y∈a.names,y.2=.local->a.names.lookup y.1=some .local:=λy b e=>by
 have:=Pq.mp h y b;simpa [e] using this
theorem iM {a o:R5}(h:x6 a o=true): ∀x,(x,RC)∈a.names->o.names.lookup x=some .cell\/o.names.lookup x=some .free:=λx b=>by
 have:=Pq.mp h _ b;simpa using (by simpa using this:_/\_).2
theorem tx {a o:R5}(h:x6 a o=true): ∀x,(x,RC)∈a.names->a.names.lookup x=some .free:=λx b=>by
 have:=Pq.mp h _ b;simpa using (by simpa using this:_/\_).1
theorem BE {N N':List Str}{a:R5}(h:ym N N' a=true){i:Nat}(f:i<N.length)(e:N'[i]? =some x)(hv: ∃k,a.names.lookup x=some k/\(k=.local\/k=.cell\/k=.free)):N[i]? =some x/\a.names.lookup x=some .free:=by
 unfold ym at h;simp only[Pi,lL] at h;obtain⟨⟨q,m⟩,_⟩:=h;have d:N[i]? =some N[i]:=Pd f;have o:(N'.take N.length)[i]? =some x:=by rw[VC f];exact e
 have p:(x,N[i])∈(N'.take N.length).zip N:=by
  refine P9 (i:=i) ?_
  rw[RM];exact⟨o,d⟩
 have:=Pq.mp m _ p;obtain⟨k,c,b⟩:=hv;dsimp only at this;rw[c] at this;simp only[Option.isNone_some,Xs,Pi,QP] at this;obtain⟨⟨j,n⟩,g⟩:=this;have l:x=N[i]:=eq_of_beq j;rcases b with rfl|rfl|rfl
 ·simp at n
 ·simp at g
 ·exact⟨by rw[d,<-l],c⟩
theorem HK {N N':List Str}(h:ym N N' sc=true):N.length<=N'.length:=by
 unfold ym at h;simp only[Pi,lL] at h;exact h.1.1
section
variable {X:Cx}{ah:List (Addr×Obj)}{σ:St}{H:Hp}{s:O9}{scope:R5}{N':List Str}{fp:List Addr}
theorem B8(I:Inv X ah σ H s)(f:jH X ah H b):b∉frs X.stack:=λz=>by
 rcases PD.mp (I.stkSub b z) with e|z
 ·exact f.2.1 e
 ·exact f.2.2.1 z
theorem ql {h':Heap}{tk:Nat}(I:Inv X ah σ H s)(hF: ∀b∈fp,jH X ah H b)(hO: ∀b∈fp,∃o,s.heap.get? b=some o)(hk:scope.kind=.function)(hs:x6 scope X.env.scope=true)(hn:ym X.N N' scope=true)
 (ns:h'.Ns s.heap.objs.size λ_=>none) (kp: ∀b o,s.heap.get? b=some o->h'.get? b=some o) (oc:CellsOk h' (s.heap.objs.size+1) (RH (s.heap.objs.size+1) scope.names [])):
 Inv (aE X N' scope s.heap.objs.size s H fp) [] (σ++Pj (N'.length-X.N.length) none) H {s with heap:=h',toks:=tk}:=by
 have hlen:=HK hn;have cl: ∀x c,(ut X.env.cells scope.names []).lookup x=some c->X.env.cells.lookup x=some c:=λx c e=>yi e
 have clt: ∀x c,(ut X.env.cells scope.names []).lookup x=some c->c<s.heap.objs.size:=λx c e=>let⟨_,z⟩:=I.cell x c (cl x c e);z.lt
 have newC:H s.heap.objs.size=none:=I.hok.fresh (Ph _)
 refine⟨⟨I.ok.mod,hk,I.ok.glob,I.ok.blt,Ph _,λx y c h1 h2=>?_,λx hx=>?_,λx c h1 h2=>?_,I.ok.hd,I.ok.frames,.inl rfl,λb hb=>⟨?_,λx c e=>?_⟩,I.bs,P8 I.ok.bsz I.sz,λb o e hb=>?_,λb hb=>B8 I (hF b hb),I.stack,I.stkFree⟩,
  rfl,I.bare,Un.kept kp,⟨_,ns,λi x v e1 e2 e3=>?_⟩,λx c e=>?_,newC,λx c e=>?_,λp hp=>absurd (show p∈([]:List (Addr×Obj)) from hp) (by simp),I.hok.kept kp,?_⟩
 ·
  rcases fF h1 with h1|h1<;>rcases fF h2 with h2|h2
  ·exact name_of_addr oc.apart h1 h2
  ·exact absurd (clt y c h2) (Tn.mpr (Tj (oc.empty _ _ h1).2))
  ·exact absurd (clt x c h1) (Tn.mpr (Tj (oc.empty _ _ h2).2))
  ·exact I.ok.inj x y c (cl x c h1) (cl y c h2)
 ·
  have hx':(T8 scope X.env).names.lookup x=some .cell\/(T8 scope X.env).names.lookup x=some .free:=hx;have:(x,Ta)∈scope.names\/(x,RC)∈scope.names:=by
   rcases hx' with hx'|hx'
   ·obtain⟨k0,e0,e1|⟨e1,_⟩⟩:=je hx'
    ·subst e1;exact .inl (QB e0)
    ·subst e1;exact .inr (QB e0)
   ·obtain⟨k0,e0,e1|⟨_,e1⟩⟩:=je hx'
    ·subst e1;exact .inr (QB e0)
    ·cases e1
  rcases this with this|this
  ·exact DK this
  ·have hc:=iM hs x this;obtain⟨c,e⟩:=I.ok.has x hc;exact⟨c,(xN λz=>by have z1:=xn hs _ z rfl;have z2:=tx hs x this;rw[z2] at z1;cases z1).trans (pd e this)⟩
 ·
  have h1':scope.names.lookup x=some .local\/scope.names.lookup x=some .cell:=by
   have h1:(scope.names.lookup x==some .local||scope.names.lookup x==some .cell)=true:=h1;simpa using h1
  rcases fF h2 with h2|h2
  ·exact Tj (oc.empty _ _ h2).2
  ·exfalso;rcases xT _ (QB h2) with z|z
   ·exact nomatch z
   ·rw[tx hs x z] at h1';rcases h1' with h1'|h1'<;>cases h1'
 ·obtain⟨o,e⟩:=hO b hb;exact PX (Pp e)
 ·rcases fF e with e|e
  ·obtain⟨o,e'⟩:=hO b hb;exact λz=>absurd (Pp e') (Tn.mpr (z▸Tj (oc.empty _ _ e).2))
  ·exact(hF b hb).2.2.2.2.1 x c (cl x c e)
 ·obtain⟨_,_,_,h4,_⟩:=hF b hb;rcases h4 with h4|h4
  ·exact I.ok.noex b o e h4
  ·exact absurd (Pn (Pp e) (P8 I.ok.bsz h4)) (SG _)
 ·have hi:i<X.N.length:=by
   by_cases hi:i<σ.length
   ·rw[<-I.len];exact hi
   ·rw[P4 (by lia),QG] at e2;split at e2<;>cases e2
  rw[P7 (by rw[I.len];exact hi)] at e2;have e3':(T8 scope X.env).names.lookup x=some .local\/(T8 scope X.env).names.lookup x=some .cell\/(T8 scope X.env).names.lookup x=some .free:=e3;have hv: ∃k,scope.names.lookup x=some k/\(k=.local\/k=.cell\/k=.free):=by
   rcases e3' with z|z|z
   all_goals
    obtain⟨k0,q0,q1|⟨q1,q2⟩⟩:=je z
    ·subst q1;exact⟨_,q0,by simp⟩
    ·subst q1;exact⟨_,q0,by simp⟩
  obtain⟨hN,hf⟩:=BE hn hi e1 hv;have hfm:=QB hf;have hc:=iM hs x hfm;have nc:(x,Ta)∉scope.names:=λz=>by have z1:=xn hs _ z rfl;rw[hf] at z1;cases z1
  obtain⟨m,hm,hl⟩:=I.loc;obtain⟨u,r,l⟩:=hl i x v hN e2 (.inr hc);refine⟨u,r,.inr ⟨?_,?_⟩⟩
  ·show(T8 scope X.env).names.lookup x=some .cell\/(T8 scope X.env).names.lookup x=some .free;rcases e3' with z|z|z
   ·obtain⟨k0,q0,q1|⟨q1,q2⟩⟩:=je z
    ·subst q1;rw[hf] at q0;cases q0
    ·cases q2
   ·exact .inl z
   ·exact .inr z
  ·rcases l with⟨l,_⟩|⟨_,c,ec,z⟩
   ·have l':X.env.scope.names.lookup x=some .local:=l;rcases hc with hc|hc<;>rw[hc] at l'<;>cases l'
   ·exact⟨c,(xN nc).trans (pd ec hfm),z.keeps kp⟩
 ·rcases fF e with e|e
  ·exact⟨_,(oc.empty _ _ e).1⟩
  ·obtain⟨v,z⟩:=I.cell x c (cl x c e);exact⟨v,z.keeps kp⟩
 ·rcases fF e with e|e
  ·exact I.hok.fresh (Tj (oc.empty _ _ e).2)
  ·exact I.freeC x c (cl x c e)
 ·show(σ++_).length=N'.length;rw[PF,Um,I.len];lia
end
def Nt(K:Pk)(c:Ct)(hid:bM)(f:FA)(ρ:aF):TI:=λσ H R=>SR K c hid ρ σ H/\ ∃ds,f ρ=some ds/\ ∀J a,am H a->il K (vw a hid) J ds->R J a
def DIp(X:Cx)(c:Ct)(b a:Expr)(f:FA):Prop:= ∀hid ρ,PI X b a (Nt X.K c hid f ρ)
def Mm {ι:Type}(IR:Hp->V->ι->Prop)(L W:Hp)(J:It)(ds:List ι):Prop:=
 (∀(i:Nat) (d:ι) (H:Hp),ds[i]? =some d->am L H->am W H->J.go i H/\ ∀x a,J.yld i H x a->am H a/\ ∀hid:bM,(∀b,hid b=true-> ∃o,H b=some o)->am W (vw H hid)->IR (vw a hid) x d)/\ ∀H,am L H->am W H->J.stop ds.length H
abbrev Mr(K:Pk)(L W:Hp)(J:It)(ds:List D):Prop:=Mm (Rep K) L W J ds
theorem il.b {K:Pk}(h:il K W J ds):Mr K L W J ds:=⟨λi d H e _ w=>h.1 i d H e w,λH _ w=>h.2 H w⟩
def Om {ι:Type}(IR:Hp->V->ι->Prop)(K:Pk)(c:Ct)(hid:bM)(f:aF->Option (List ι))(ρ:aF):TI:=λσ H R=>SR K c hid ρ σ H/\ ∃ds,f ρ=some ds/\ ∀J a,am H a->Mm IR a (vw a hid) J ds->R J a
def Os {ι:Type}(IR:Hp->V->ι->Prop)(X:Cx)(c:Ct)(b a:Expr)(f:aF->Option (List ι)):Prop:= ∀hid ρ,PI X b a (Om IR X.K c hid f ρ)
abbrev M2(X:Cx)(c:Ct)(b a:Expr)(f:FA):Prop:=Os (Rep X.K) X c b a f
section
variable {X:Cx}{c:Ct}{k:Kd}{tg iter:Expr}{pos:Pos}
theorem DIp.b(h:DIp X c tg iter f):M2 X c tg iter f:=λhid ρ=>PI.imp (h hid ρ) λσ H R ⟨a,ds,e,q⟩=>⟨a,ds,e,λJ g s d=>q J g s d.b⟩
theorem DIp.e(h:DIp X c tg iter f):DI X c tg iter (b7 f):=λhid ρ=>PI.imp (h hid ρ) λσ H R a=>by
 obtain⟨b,ds,ρ',e,q⟩:=a;obtain⟨d,rfl⟩:=wP e;exact⟨b,ds,d,λJ i s g=>q J i (.of s) (b.ext s) g⟩
def gO(f:FE):FA:=λρ=>(f ρ).bind λd=>match d with
 | .lst ds=>some ds
 |_=>none
def wU(f:FE):FA:=λρ=>(f ρ).bind λd=>match d with
 | .tup ds=>some ds
 |_=>none
theorem BU(h:gO f ρ=some ds):f ρ=some (.lst ds):=by
 unfold gO at h;cases e:f ρ with
 |none=>rw[e] at h;cases h
 |some d=>
  rw[e] at h;cases d with
  |lst z=>cases h;rfl
  |_=>cases h
theorem BT(h:wU f ρ=some ds):f ρ=some (.tup ds):=by
 unfold wU at h;cases e:f ρ with
 |none=>rw[e] at h;cases h
 |some d=>
  rw[e] at h;cases d with
  |tup z=>cases h;rfl
  |_=>cases h
theorem EO {K:Pk}(b:SqL K W a xs)(c:Reps K W xs ds):il K W (NC K a) ds:=by
 refine⟨λi d H e s=>?_,λH s=>⟨_,s.seq b,by rw[c.length];exact Ph _⟩⟩;obtain⟨x,f,h⟩:=c.get e;refine⟨⟨_,x,s.seq b,f⟩,λy l ⟨j,k⟩=>?_⟩;subst j;have:=k _ (s.seq b);rw[f] at this;cases this;exact⟨am.refl _,λhid _ g=>h.mono g⟩
theorem fj(h:DP X c .s iter f):DIp X c tg iter (gO f):=λhid ρ=>PI.imp (zR (h hid ρ)) λσ H R b=>by
 obtain⟨g,ds,e,q⟩:=b;refine⟨g,_,BU e,λv i s' r=>?_⟩;cases r with
 |lst a d=>have a:=SqL.of (K:=X.K) a;exact⟨_,rfl,⟨_,(dq _ _).seq a⟩,q _ i s' (EO a d)⟩
theorem Bl(h:DP X c .s iter f):DIp X c tg iter (wU f):=λhid ρ=>PI.imp (KD (h hid ρ)) λσ H R a=>by
 obtain⟨g,ds,e,q⟩:=a;refine⟨g,_,BT e,λv i s' r=>?_⟩;cases r with
 |tup b d=>exact⟨_,rfl,⟨_,am.seqT (dq _ _) b⟩,q _ i s' (Fk b d)⟩
def eW(f:FA):FA:=λρ=>(f ρ).bind λds=>match ds with
 | [.int j]=>if j.natAbs<4000000000 then some (vz 0 j.toNat) else none
 |_=>none
theorem dW{p:Pos}(j:X.mg "range"=none)(h:DA X c [a] f)(d:Gl X "range":=by rfl)(i:Pv [a] X.env=[(false,eval a X.env)]:=by rfl):DIp X c tg (.Call (.Name "range" p) [a] [] pos) (eW f):=λhid ρ=>
 PI.imp (tI d j (h hid ρ) i) λσ H R b=>by
  obtain⟨g,ds,e,q⟩:=b;unfold eW at e;cases e1:f ρ with
  |none=>rw[e1] at e;cases e
  |some z=>
   rw[e1] at e;dsimp only[SV] at e;split at e
   ·split at e
    ·cases e;refine⟨g,_,e1,λvs k s' r=>?_⟩;cases r with
     |cons r t=>cases t;cases r;exact⟨_,rfl,by lia,by lia,q _ k s' qE⟩
    ·cases e
   ·cases e
def mY(b:List Expr)(a:Env):Sem Bool:=forIn b true λc r=>if r=true then do let ok <-isTrue c a (eval c a);pure (ForInStep.yield ok) else pure (ForInStep.yield r)
def vy(X:Cx)(c:Ct)(a:List Expr)(p:FT):Prop:= ∀hid ρ (b:List (Addr×Obj)) (s:O9) (σ:St) (H:Hp) (Q:Bool->Hp->Prop),Inv X b σ H s->NM X.K c hid p ρ σ H Q->Ps (model X.prog X.w) X.A (mY a X.env) (TP X b σ Q) X.xe s
def cf:FT:=λ_=>some true
theorem cm:vy X c [] cf:=λhid ρ b s σ H Q I a=>by
 obtain⟨f,d,e,q⟩:=a;cases e;exact wpAny_tests_nil ⟨H,I,q H (am.refl _)⟩
theorem jC(h:DT X c e p):vy X c [e] p:=λhid ρ a s σ H Q I q=>wpAny_tests_one (h hid ρ a s σ H Q I q)
end
theorem eY{k a j:Expr}(I:Nat->O9->Prop)
 (turn: ∀n s,I n s->Ps (model prog w) A (Ts it) (λr b=>match r with
   |none=>R (.ok .next) b
   |some v=>Ps (model prog w) A (Sz a it v) (λ_ b=>Ps (model prog w) A (SQ a env v) (λ_ g=>
     Ps (model prog w) A (mY ifs env) (λok d=>
      if ok=true then Ps (model prog w) A (eval k env) (λx i=>
       Ps (model prog w) A (call (.builtin "list.append") [acc,x]) (λ_ e=> ∃m,m<n/\I m e) (λ_ _=>False) i) (λ_ _=>False) d
      else∃m,m<n/\I m d) (λ_ _=>False) g) (λ_ _=>False) b) (λ_ _=>False) b) (λ_ _=>False) s)
 (n:Nat) (h:I n s):
 RU (model prog w) A (.compLoop (.ListComp k [⟨a,j,ifs,0⟩] scope pos) 0 it acc env) R s:=by
 have no: ∀ {q:O7->O9->Prop} (x:O7) (s:O9),False->q x s:=λ_ _ z=>z.elim
 refine X3 rfl I (λn s t=>?_) n h;show Ps _ A ((X4 (.ListComp k [⟨a,j,ifs,0⟩] scope pos) 0 it acc env).onRaise (λx=>do Yy x env;Wt x)) _ _ s;refine YL ?_
 rw[compTurn_list];refine O4 (RT (O4 (Qj (turn n s t) (λr b c=>?_) no)));cases r with
 |none=>exact O8 c
 |some v=>
  refine O4 (Qj c (λ_ b c=>?_) no);refine O4 (Qj c (λ_ g o=>O4 (Qj o (λok d f=>?_) no)) no);cases ok with
  |false=>exact O8 ⟨rfl,f⟩
  |true=>
   exact O4 (O4 (Qj f (λx i l=>O4 (Qj l (λ_ e p=>O8 (O8 ⟨rfl,p⟩)) no)) no))
def du {ι:Type}(g:ι->aF->Option aF)(p:FT)(f:FE)(a:aF):List ι->Option (List D)
 | []=>some []
 |d::r=>(g d a).bind λρ1=>(p ρ1).bind λb=>if b=true then(f ρ1).bind λy=>(du g p f a r).map (y:: ·) else du g p f a r
def cb {ι:Type}(m:Nat)(a:aF->Option (List ι))(g:ι->aF->Option aF)(p:FT)(f:FE):FE:=λρ=>(a ρ).bind λds=>if ds.length<=PN then(du g p f (ρ++Pj m .no) ds).map D.lst else none
theorem qo {ι:Type}{m:Nat}{a:aF->Option (List ι)}{g:ι->aF->Option aF}{p:FT}{f:FE}{ρ:aF}{d:D}(h:cb m a g p f ρ=some d): ∃ds ys,a ρ=some ds/\ds.length<=PN/\du g p f (ρ++Pj m .no) ds=some ys/\d=.lst ys:=by
 unfold cb at h;cases e1:a ρ with
 |none=>rw[e1] at h;cases h
 |some ds=>
  rw[e1] at h;dsimp only[SV] at h;split at h
  ·cases e2:du g p f (ρ++Pj m .no) ds with
   |none=>rw[e2] at h;cases h
   |some ys=>rw[e2] at h;cases h;exact⟨ds,ys,rfl, ‹_›,e2,rfl⟩
  ·cases h
def jz {ι:Type}(n:Nat)(g:ι->aF->Option aF):Prop:= ∀d (a ρ1:aF),g d a=some ρ1->ρ1.length=a.length/\ ∀i:Nat,i<n->ρ1[i]? =a[i]?
def A9(n:Nat)(g:sK):Prop:= ∀d (a ρ1:aF),g d a=some ρ1->ρ1.length=a.length/\ ∀i:Nat,i<n->ρ1[i]? =a[i]?
theorem bB {n i:Nat}(h:n<=i):jz n (gN i):=λd a ρ1 e=>by
 cases e;exact⟨by simp,λj b=>PJ (by lia)⟩
theorem iO {n:Nat}:A9 n gU:=λd a ρ1 e=>by
 unfold gU at e;split at e
 ·cases e;exact⟨rfl,λ_ _=>rfl⟩
 ·cases e
theorem b6 {n:Nat}(k:jz n g)(j:A9 n gs):A9 n (cU g gs):=λd a ρ1 e=>by
 cases d with
 |nil=>cases e
 |cons d ds=>
  have e:(g d a).bind (λρ'=>gs ds ρ')=some ρ1:=e;cases e1:g d a with
  |none=>rw[e1] at e;cases e
  |some ρ2=>
   rw[e1] at e;obtain⟨h,c⟩:=k d a ρ2 e1;obtain⟨f,l⟩:=j ds ρ2 ρ1 e;exact⟨f.trans h,λi b=>(l i b).trans (c i b)⟩
theorem qs {n m:Nat}(h:A9 n gs):jz n (gT m gs):=λd a ρ1 e=>by
 unfold gT at e;split at e
 ·split at e
  ·exact h _ _ _ e
  ·cases e
 ·cases e
theorem SR.forget {K:Pk}{b ρ1:aF}{H:Hp}(h:SR K c hid ρ1 σ H)(k:ρ1.length=b.length)(d: ∀(i:Nat) (s:Sl),b[i]? =some s->s=.no\/ρ1[i]? =some s):SR K c hid b σ H:=by
 have f: ∀i:Nat,Ow b[i]? ->Ow ρ1[i]? :=λi o=>by
  cases e:b[i]? with
  |none=>rw[e] at o;exact o.elim
  |some s=>
   rcases d i s e with rfl|z
   ·rw[e] at o;exact o.elim
   ·rw[z,<-e];exact o
 refine⟨h.tr,h.ht,h.h0,h.kp,h.t0,h.c0,h.m0,h.len.trans k,λi s e=>?_,λi j a n g l=>h.ap i j a n (f i g) (f j l)⟩;rcases d i s e with rfl|z
 ·trivial
 ·exact h.sl i s z
theorem SR.more {K:Pk}{σ:St}(h:SR K c hid ρ σ H)(m:Nat):SR K c hid (ρ++Pj m .no) (σ++Pj m none) H:=by
 have lt: ∀ {i:Nat},Ow (ρ++Pj m Sl.no)[i]? ->i<ρ.length:=λ{i} o=>by
  by_cases k:i<ρ.length
  ·exact k
  ·rw[P4 (by lia),QG] at o;split at o<;>exact o.elim
 refine⟨h.tr,h.ht,h.h0,h.kp,h.t0,h.c0,h.m0,by simp[h.len],λi s e=>?_,λi j a n l p t q=>?_⟩
 ·by_cases k:i<ρ.length
  ·rw[P7 k] at e;have z:=h.sl i s e;have es:(σ++Pj m none)[i]? =σ[i]? :=P7 (by rw[h.len];exact k);cases s with
   |no=>trivial
   |v d=>obtain⟨x,g,f⟩:=z;exact⟨x,es.trans g,f⟩
   |own ds=>obtain⟨a,xs,g,f⟩:=z;exact⟨a,xs,es.trans g,f⟩
   |arg ds=>obtain⟨a,xs,g,f⟩:=z;exact⟨a,xs,es.trans g,f⟩
   |ob b=>obtain⟨a,g,f⟩:=z;exact⟨a,es.trans g,f⟩
  ·rw[P4 (by lia),QG] at e;split at e
   ·cases e;trivial
   ·cases e
 ·have u:=lt l;have r:=lt p;rw[P7 u] at l;rw[P7 r] at p;rw[P7 (by rw[h.len];exact u)] at t;rw[P7 (by rw[h.len];exact r)] at q;exact h.ap i j a n l p t q
section
variable {X:Cx}{c:Ct}{elt tg iter:Expr}{ifs:List Expr}{scope:R5}{pos:Pos}{N':List Str}{m:Nat}{ι:Type}{IR:Hp->V->ι->Prop}{gi:aF->Option (List ι)}{g:ι->aF->Option aF}{p:FT}{f:FE}
theorem SR.write {K:Pk}{σ:St}(h:SR K c hid ρ σ H)(l:hid a=true)(J:c.H₀ a=none)(D: ∀i:Nat,Ow ρ[i]? ->σ[i]? ≠some (some (.ref a)))(F:H a=some o)(G: ∀p u,o≠ .nst p u:=by intro _ _ e;cases e)(E: ∀xs,o'≠ .tup xs:=by intro _ e;cases e):SR K c hid ρ σ (bY H a o'):=by
 have k: ∀b o,H b=some o-> ∃A,(bY H a o') b=some A:=λb o q=>by
  by_cases e:b=a
  ·subst e;exact⟨_,aT⟩
  ·exact⟨o,by rw[aP e];exact q⟩
 refine⟨λb y=>let⟨o,q⟩:=h.tr b y;k b o q,λb xs y q=>by
  by_cases e:b=a
  ·subst e;rw[aT] at q;exact E _ (Qi q)
  ·rw[aP e] at q;exact h.ht b xs y q,h.h0,λb o q m=>?_,λb o q=>let⟨A,q2⟩:=h.t0 b o q;k b A q2,h.c0,h.m0,h.len,λi s e=>?_,h.ap⟩
 ·rw[aP (bD q J)];exact h.kp b o q m
 ·have z:=h.sl i s e;have n: ∀f,Ow ρ[i]? ->σ[i]? =some (some (.ref f))->f≠a:=λf o q w=>by subst w;exact D i o q
  cases s with
  |no=>trivial
  |v d=>obtain⟨x,g,j⟩:=z;exact⟨x,g,by rw[fX l];exact j⟩
  |own ds=>obtain⟨f,xs,g,j,B,t,r⟩:=z;exact⟨f,xs,g,by rw[aP (n f (by rw[e];trivial) g)];exact j,B,t,by rw[fX l];exact r⟩
  |arg ds=>obtain⟨f,xs,g,j,B,t,r⟩:=z;exact⟨f,xs,g,by rw[aP (n f (by rw[e];trivial) g)];exact j,B,t,by rw[fX l];exact r⟩
  |ob b=>obtain⟨f,g,j⟩:=z;exact⟨f,g,j.mono (λI x C o q=>by rw[aP (C.ne (n f (by rw[e];exact I) g) F G)];exact q) (by rw[fX l];exact am.refl _) λ_ _ _ q=>q⟩
structure CLI(Y:Cx)(K:Pk)(c:Ct)(hid:bM)(ρ0:aF)(H W:Hp)(D0:Addr)(fp:List Addr)(tn:Nat->Heap->Prop){ι:Type}(g:ι->aF->Option aF)(p:FT)(f:FE)(ds:List ι)(ys:List D)(n i:Nat)(xs:List V)(ad:List D)(σ':St)(H':Hp)(s':O9):Prop where
 e:n=ds.length-i
 hi:i<=ds.length
 I:Inv Y [] σ' H' s'
 st:tn i s'.heap
 fr: ∀b∈fp,H' b=none
 sr:SR K c hid ρ0 σ' H'
 sm:am H H'
 ac:H' D0=some (.lst xs)
 rp:Reps K (vw H' hid) xs ad
 w:am W (vw H' hid)
 hl:xs.length<=i
 na: ∀i:Nat,Ow ρ0[i]? ->σ'[i]? ≠some (some (.ref D0))
 go: ∃rest,du g p f ρ0 (ds.drop i)=some rest/\ad++rest=ys
theorem Ch(S:X.calm=true)(hT:jz X.N.length g)
 (hg: ∀C B E ex,M4 IR (aE X N' scope C B E ex) c tg g) (hp: ∀C B E ex,vy (aE X N' scope C B E ex) c ifs p) (he: ∀C B E ex,DP (aE X N' scope C B E ex) c .s elt f) {H t:Hp} {M s4:O9} {hid:bM} {ρ:aF} {ds:List ι} {W:Hp} (hρ:ρ.length=X.N.length)
 (I:Inv (aE X N' scope C M t fp) [] σ3 t s4) (sr:SR X.K c hid (ρ++Pj m .no) σ3 t) (hh:hid D0=true) (h00:c.H₀ D0=none) (na: ∀i:Nat,Ow (ρ++Pj m Sl.no)[i]? ->σ3[i]? ≠some (some (.ref D0))) (hacc:t D0=some (.lst [])) (sm:am H t) (nD:H D0=none) (wv:am W (vw t hid)) (T:iT X.prog X.w X.K tg J fp it tn) (st:tn 0 s4.heap) (hF: ∀b∈fp,t b=none)
 (io:Mm IR H W J ds) (hz:ds.length<=PN) (hc:du g p f (ρ++Pj m .no) ds=some ys)
 (hR: ∀(s':O9) (h:St) (d:Hp) (xs:List V),Inv (aE X N' scope C M t fp) [] h d s'->am H d->d D0=some (.lst xs)->Reps X.K (vw d hid) xs ys->R (.ok .next) s'):
 RU (model X.prog X.w) X.A (.compLoop (.ListComp elt [⟨tg,iter,ifs,0⟩] scope pos) 0 (.ref it) (.ref D0) (VS scope (oz X.env.cells scope C) C X.env)) R s4:=by
 have Y: ∀ {ah:List (Addr×Obj)} {d:Hp},(∀q∈ah,q.1∉fp)->(∀b∈fp,d b=none)-> ∀b∈fp,jH (aE X N' scope C M t fp) ah d b:=λ{ah d} hpn hn b U=>
  ⟨hn b U,(I.ok.exf b U).1,I.ok.exfs b U,.inl U,(I.ok.exf b U).2,λq hq e=>hpn q (by have hq':q∈([]:List (Addr×Obj))++ah:=hq;simpa using hq') (by rw[e];exact U)⟩
 have no: ∀q∈([]:List (Addr×Obj)),q.1∉fp:=λq hq=>nomatch hq
 refine eY (λn s'=> ∃(i:Nat) (xs:List V) (ad:List D) (h:St) (d:Hp),CLI (aE X N' scope C M t fp) X.K c hid (ρ++Pj m .no) H W D0 fp tn g p f ds ys n i xs ad h d s') ?_ ds.length
  ⟨0,[],[],σ3,t,by simp,Q3 _,I,st,hF,sr,sm,hacc,.nil,wv,Q3 _,na,ys,by simpa using hc,rfl⟩
 rintro n s5 ⟨i,xs,ad,Z,H5,rfl,hi,I5,st5,f5,sr5,O,ac5,rp5,w5,hl5,na5,l,a,Tm⟩;have wH:am W H5:=w5.trans (dq _ _)
 by_cases ST:i<ds.length
 ·have hd:ds[i]? =some ds[i]:=Pd ST;have e2:ds.drop i=ds[i]::ds.drop (i+1):=Rm ST;rw[e2] at a;unfold du at a;obtain⟨go,yl⟩:=io.1 i ds[i] H5 hd O wH;refine bW (T.item (aE X N' scope C M t fp) rfl rfl rfl S i [] s5 Z H5 (λ_ _=>False) I5 (Y no f5) st5 go) λr s6 k=>?_
  obtain⟨u,hr,h6⟩:=k;subst hr;refine bW h6 λ_ s7 k=>?_
  obtain⟨x,H7,I7,r7,y7,st7,f7⟩:=k;obtain⟨Q,rp⟩:=yl x H7 y7;have rx:=rp hid sr5.tr w5;have I7':=I7.pinned (Y no f7) (T.obj _ _ st7);cases e3:g ds[i] (ρ++Pj m .no) with
  |none=>rw[e3] at a;cases a
  |some ρ1=>
   rw[e3] at a;have a:(p ρ1).bind (λb=>if b=true then(f ρ1).bind λy=>(du g p f (ρ++Pj m .no) (ds.drop (i+1))).map (y:: ·) else du g p f (ρ++Pj m .no) (ds.drop (i+1)))=some l:=a;obtain⟨tl1,tl2⟩:=hT _ _ _ e3;have fg: ∀ {h:St} {d:Hp},SR X.K c hid ρ1 h d->SR X.K c hid (ρ++Pj m .no) h d:=λ{h d} z=>z.forget tl1 λj s e=>by
    by_cases hj:j<X.N.length
    ·exact .inr ((tl2 j hj).trans e)
    ·refine .inl ?_
     rw[P4 (by lia),QG] at e;split at e
     ·cases e;rfl
     ·cases e
   have P: ∀ {h:St} {d:Hp} {s':O9},Inv (aE X N' scope C M t fp) ([]++l5 fp s7.heap) h d s'->tn (i+1) s'.heap/\ ∀b∈fp,d b=none:=λ{h d s'} J'=>by
    refine⟨T.keep _ _ _ st7 λb U o e=>(J'.pin (b,o) (PU _ (PU _ (dh U e)))).1,λb U=>?_⟩;obtain⟨o,e,_⟩:=T.obj _ _ st7 b U;exact(J'.pin (b,o) (PU _ (PU _ (dh U e)))).2.1
   refine bW (hg C M t fp hid _ ds[i] _ s7 Z H7 x u (λh d=>d=H7/\SR X.K c hid ρ1 h H7/\OwK (ρ++Pj m .no) ρ1 Z h) I7' r7 ⟨sr5.ext Q,rx,ρ1,e3,λh z o=>⟨rfl,z,o⟩⟩) λ_ s8 k=>?_
   obtain⟨L,H8,I8,e8,q8,o8⟩:=k;subst e8;have na8: ∀i:Nat,Ow (ρ++Pj m Sl.no)[i]? ->L[i]? ≠some (some (.ref D0)):=λj o=>by
    have o1:Ow ρ1[j]? :=by
     by_cases hj:j<X.N.length
     ·rw[tl2 j hj];exact o
     ·exfalso;rw[P4 (by lia),QG] at o;split at o<;>exact o.elim
    rw[(o8 j o1).2];exact na5 j o
   cases e4:p ρ1 with
   |none=>rw[e4] at a;cases a
   |some b=>
    rw[e4] at a;have a:(if b=true then(f ρ1).bind λy=>(du g p f (ρ++Pj m .no) (ds.drop (i+1))).map (y:: ·) else du g p f (ρ++Pj m .no) (ds.drop (i+1)))=some l:=a;refine bW (hp C M t fp hid ρ1 _ s8 L H8 (λb' d=>b'=b/\am H8 d) I8 ⟨q8,b,e4,λd s'=>⟨rfl,s'⟩⟩) λok s9 k=>?_
    obtain⟨H9,I9,e9,F⟩:=k;subst e9;have w9:am (vw H5 hid) (vw H9 hid):=aX (Q.trans F);cases ok with
    |false=>
     have a:du g p f (ρ++Pj m .no) (ds.drop (i+1))=some l:=a;obtain⟨k1,k2⟩:=P I9;exact⟨ds.length- (i+1),by lia,i+1,xs,ad,L,H9,rfl,ST,I9.unpinned,k1,k2,fg (q8.ext F),O.trans (Q.trans F),F _ _ (Q _ _ ac5),rp5.mono w9,w5.trans w9,by lia,na8,l,a,Tm⟩
    |true=>
     have a:((f ρ1).bind λy=>(du g p f (ρ++Pj m .no) (ds.drop (i+1))).map (y:: ·))=some l:=a;cases e5:f ρ1 with
     |none=>rw[e5] at a;cases a
     |some y=>
      rw[e5] at a;have a:(du g p f (ρ++Pj m .no) (ds.drop (i+1))).map (y:: ·)=some l:=a;cases e6:du g p f (ρ++Pj m .no) (ds.drop (i+1)) with
      |none=>rw[e6] at a;cases a
      |some rest'=>
       rw[e6] at a;cases a;show Ps (model X.prog X.w) X.A (eval elt _) _ _ s9;refine bW (he C M t fp hid ρ1 _ s9 L H9 (λv d=>am H9 d/\Rep X.K (vw d hid) v y) I9 ⟨q8.ext F,y,e5,λv d s' r=>⟨s',r⟩⟩) λv s10 k=>?_
       obtain⟨z,G,I10,rz,sm10,rp10⟩:=k;have sm':am H5 G:=Q.trans (F.trans sm10);have a10:G D0=some (.lst xs):=sm' _ _ ac5;refine bW (dv (X:=aE X N' scope C M t fp) _ s10 L G (.ref D0) [z] (.ref D0) [v] (λ_ d=>d=bY G D0 (.lst (xs++[z]))) I10 rfl (.cons rz .nil) ⟨D0,xs,z,rfl,rfl,a10,by lia,rfl⟩) λ_ s11 ⟨_,H11,I11,_,e11⟩=>?_
       subst e11;obtain⟨k1,k2⟩:=P I11;have vv:vw (bY G D0 (.lst (xs++[z]))) hid=vw G hid:=fX hh;have w10:am (vw H5 hid) (vw G hid):=aX sm';refine⟨ds.length- (i+1),by lia,i+1,xs++[z],ad++[y],L,_,rfl,ST,I11.unpinned,k1,k2,?_,λb o e=>?_,aT,?_,?_,by simp;lia,na8,rest',e6,by rw[<-Tm];simp⟩
       ·
        have q10:=fg ((q8.ext F).ext sm10);exact q10.write hh h00 na8 a10
       ·rw[aP (bD e nD)];exact sm' _ _ (O _ _ e)
       ·rw[vv];exact(rp5.mono w10).append (.cons rp10 .nil)
       ·rw[vv];exact w5.trans w10
 ·have e:i=ds.length:=by lia
  subst e;rw[R9 (Ph _)] at a;cases a;rw[QJ] at Tm;subst Tm;refine bW (T.done (aE X N' scope C M t fp) rfl rfl rfl S ds.length [] s5 Z H5 (λ_ _=>False) I5 (Y no f5) st5 (io.2 H5 O wH)) λr s6 k=>?_
  obtain⟨hr,I6⟩:=k;subst hr;exact hR s6 Z H5 xs I6 O ac5 rp5
theorem rD(v:X.calm=true)(hk:scope.kind=.function)(hs:x6 scope X.env.scope=true)(hn:ym X.N N' scope=true)(hm:N'.length-X.N.length=m)(hT:jz X.N.length g)
 (hg: ∀C d h P,M4 IR (aE X N' scope C d h P) c tg g) (hp: ∀C d h P,vy (aE X N' scope C d h P) c ifs p) (he: ∀C d h P,DP (aE X N' scope C d h P) c .s elt f) {s:O9} {ds:List ι} {RR:O7->Addr->U9->O9->Prop}
 (I:Inv X ah σ H s) (M:SR X.K c hid ρ σ H) (T:iT X.prog X.w X.K tg J fp it tn) (st:tn 0 s.heap) (hF: ∀b∈fp,jH X ah H b) (io:Mm IR H (vw H hid) J ds) (hz:ds.length<=PN) (hc:du g p f (ρ++Pj m .no) ds=some ys)
 (hR: ∀(D C:Addr) (s':O9) (t:Hp) (xs:List V),s.heap.objs.size<=D->s.heap.objs.size<=C->D≠C->H D=none->am H t->t D=some (.lst xs)->Reps X.K (vw t (bc hid D)) xs ys->(∃m,s'.heap.Ns C m)->t C=none->s'.os=s.os->T4 s'.gens->HOk X.prog X.w t s'.heap->Un (frs X.stack) fp H t s.heap s'.heap->RR (.ref D) C (.ok .next) s'):
 Ps (model X.prog X.w) X.A (W3 []) (λacc B=>Ps (model X.prog X.w) X.A (T9 scope X.env.globals (ut X.env.cells scope.names []) [] X.env.qual none .none (some X.env)) (λq F=>
  RU (model X.prog X.w) X.A (.compStart (.ListComp elt [⟨tg,iter,ifs,0⟩] scope pos) 0 (.ref it) acc {q with scope:=T8 scope X.env}) (RR acc q.locals) F) E B) E s:=by
 refine Rf (ux λr a n j=>?_);dsimp only at a n j⊢;generalize y:s.heap.push {cls:=.type "list",dict:=none,data:=.seq ([]:List O7).toArray}=H2 at a n j⊢;have hC:H2.objs.size=s.heap.objs.size+1:=by rw[<-y,QY]
 have l:H s.heap.objs.size=none:=I.hok.fresh (Ph _);have I2:Inv X ah σ (bY H s.heap.objs.size (.lst [])) {s with heap:=H2}:=by
  rw[<-y];exact I.laid (t':=s.toks) (λb o e=>Pa _ e) (Ph _) ⟨Q3 _,[],0,.nil,Pl _ rfl⟩
 have G: ∀b∈fp,b<s.heap.objs.size:=λb k=>let⟨o,e,_⟩:=T.obj 0 s.heap st b k;Pp e
 have L: ∀b∈fp,jH X ah (bY H s.heap.objs.size (.lst [])) b:=λb k=>⟨by rw[aP (PX (G b k))];exact(hF b k).1,(hF b k).2⟩
 have x: ∀b o,s.heap.get? b=some o->H2.get? b=some o:=λb o e=>by rw[<-y];exact Pa _ e
 have S:=ql (tk:=s.toks) (N':=N') (fp:=fp) I2 L (λb k=>let⟨o,e,_⟩:=T.obj 0 s.heap st b k;⟨o,x b o e⟩) hk hs hn a n j;rw[hm] at S;dsimp only at S;have Tm:SR X.K c (bc hid s.heap.objs.size) (ρ++Pj m .no) (σ++Pj m none) (bY H s.heap.objs.size (.lst [])):=(M.hide (aR l _) l aT).more m;have Ty:ρ.length=X.N.length:=by rw[<-M.len];exact I.len
 have nf:hid s.heap.objs.size=false:=M.fresh l;have O:tn 0 r:=T.keep _ _ _ st λb k o e=>n b o (x b o e)
 have Q: ∀i:Nat,Ow (ρ++Pj m Sl.no)[i]? ->(σ++Pj m none)[i]? ≠some (some (V.ref s.heap.objs.size)):=(M.more m).notOw nf
 have wv:am (vw H hid) (vw (bY H s.heap.objs.size (.lst [])) (bc hid s.heap.objs.size)):=by rw[u7 l];exact am.refl _
 have u: ∀Z:O9,Z={s with heap:=r,toks:=s.toks}->
  RU (model X.prog X.w) X.A (.compLoop (.ListComp elt [⟨tg,iter,ifs,0⟩] scope pos) 0 (.ref it) (.ref s.heap.objs.size) (VS scope (oz X.env.cells scope H2.objs.size) H2.objs.size X.env)) (RR (.ref s.heap.objs.size) H2.objs.size) Z:=by
  rintro Z rfl;refine Ch (H:=H) (hid:=bc hid s.heap.objs.size) (W:=vw H hid) v hT hg hp he Ty S Tm fL (M.fresh0 l) Q aT (aR l _) l wv T O (λb k=>(L b k).1) io hz hc ?_
  intro s' σ' t xs z U ST R;have Y:Un (frs X.stack) fp H (bY H s.heap.objs.size (.lst [])) s.heap H2:=Un.laid (λb o e=>x b o e) (Ph _) l;refine hR s.heap.objs.size H2.objs.size s' t xs (Ph _) (by rw[hC];exact TX _) (by rw[hC];exact PX (QM _)) l U ST R (let⟨m,hm,_⟩:=z.loc;⟨m,hm⟩) z.free z.os z.bare z.hok (Y.trans z.base)
 exact Ua (u _ rfl) (T.self X.A 0 _ _ _ O (u _ rfl))
theorem kK(t:X.calm=true)(hT:jz X.N.length g)(hi:Os IR X c tg iter gi)
 (hg: ∀C a h K,M4 IR (aE X N' scope C a h K) c tg g) (hp: ∀C a h K,vy (aE X N' scope C a h K) c ifs p) (he: ∀C a h K,DP (aE X N' scope C a h K) c .s elt f)
 (hk:scope.kind=.function:=by rfl) (hs:x6 scope X.env.scope=true:=by kernel_rfl) (hn:ym X.N N' scope=true:=by kernel_rfl) (hm:N'.length-X.N.length=m:=by rfl) (L: ∀x,QO iter X.env x=pure x:=by intro _;rfl):
 DP X c .n (.ListComp elt [⟨tg,iter,ifs,0⟩] scope pos) (cb m gi g p f):=by
 intro hid ρ ah s σ H Q I hq;obtain⟨sr,d,hd,q⟩:=hq;obtain⟨ds,ys,e1,hz,hc,rfl⟩:=qo hd;rw[Z8];refine SI (use:=none) rfl L (fu λx R=>I.ok.has x (iM hs x R)) hk (lc hs) ?_
 refine bW (hi hid ρ ah s σ H (λJ j=>am H j/\Mm IR j (vw j hid) J ds) I ⟨sr,ds,e1,λJ j s1 io=>⟨s1,io⟩⟩) λv s1 G=>bW G λitv s2 l=>?_
 obtain⟨it,fp,tn,J,H2,rfl,I2,T,S,E,Y,io⟩:=l;refine rD (RR:=λacc C=>Zx (model X.prog X.w) X.A X.xe none (EP X ah σ Q) acc C) t hk hs hn hm hT hg hp he I2 (sr.ext Y) T S E io hz hc ?_
 intro D C s' j xs hDge M hDC hD W R rp ⟨mm,hns⟩ U Tm y V i;refine⟨mm,hns,λh' k=>⟨.ref D,j,?_,rfl,q _ j (Y.trans W) ⟨D,xs,ys,rfl,rfl,Y.free hD,R,rp⟩⟩⟩;have r: ∀b o,s2.heap.get? b=some o->b≠C:=λb o e z=>by subst z;exact absurd (Pp e) (Tn.mpr M)
 have F:Un (frs X.stack) fp H2 j s2.heap h':=⟨λb o e n G l=>(k.2 b (r b o e)).trans (i.keep b o e n G l),λb o e n G l=>let⟨sl,z⟩:=i.slot b o e n G l;⟨sl,(k.2 b (r b o e)).trans z⟩,i.free,λb o e l=>let⟨P,z⟩:=i.there b o e l;⟨P,(k.2 b (r b o e)).trans z⟩,i.tups,i.frzs,i.tbls⟩
 have B:HOk X.prog X.w j h':=λb o e=>by
  have nb: ∀Z P,j Z=some P->Z≠C:=λZ P e' z=>by subst z;rw[U] at e';cases e'
  refine(V b o e).stay (λc' u ST z=>(k.2 c' ?_).trans z) (λ_ z=>z) λ_ _ z=>z
  rcases ST with z'|z'
  ·rw[z'];exact nb b o e
  ·exact nb c' _ z'
 exact I2.call' (s':={s' with heap:=h'}) (ch:=fp) Tm F B y λb O=>⟨(E b O).2.2.2.1,(E b O).2.1,(E b O).2.2.2.2.1,(E b O).2.2.2.2.2⟩
end
section
variable {X:Cx}{c:Ct}{elt tg iter:Expr}{ifs:List Expr}{scope:R5}{pos spos py:Pos}{N':List Str}{m:Nat}{gi:FA}{g:FG}{p:FT}{f:FE}{y:Str}
theorem G9(i:Nat)(r:X.calm=true)(hN:X.N.Nodup)(hT:jz X.N.length g)(hi:M2 X c tg iter gi)
 (hg: ∀C h j M,tS (aE X N' scope C h j M) c tg g) (hp: ∀C h j M,vy (aE X N' scope C h j M) c ifs p) (he: ∀C h j M,DP (aE X N' scope C h j M) c .s elt f)
 (Z:SO (.ListComp elt [⟨tg,iter,ifs,0⟩] scope pos) (some (.Name y py)) spos.line X.env=pure true) (hyi:X.N[i]? =some y) (hy:X.env.scope.names.lookup y=some .local)
 (hk:scope.kind=.function) (hs:x6 scope X.env.scope=true) (hn:ym X.N N' scope=true) (hm:N'.length-X.N.length=m) (P: ∀x,QO iter X.env x=pure x) (ρ:aF):
 PS X (.Assign [.Name y py] (.ListComp elt [⟨tg,iter,ifs,0⟩] scope pos) spos) (G1 (λσ H Q=> ∃hid,F2 X.K c hid .n (cb m gi g p f) ρ σ H Q) (Aa i)):=by
 intro R s σ H E I G;obtain⟨hid,sr,d,hd,q⟩:=G;obtain⟨ds,ys,e1,hz,hc,rfl⟩:=qo hd;rw[Wy _ _ _ _ Z];refine O4 (RT (O4 ?_));show Ps _ X.A (do let _ <-Z9 (.ListComp elt [⟨tg,iter,ifs,0⟩] scope pos) scope X.env _ (W3 []) false (eval iter X.env) (some (SQ (.Name y py) X.env))) _ _ s;refine O4 (Qj (SI (use:=some (SQ (.Name y py) X.env)) (Q:=λ_ s'=>SP X R E .next s') rfl P (fu λx S=>I.ok.has x (iM hs x S)) hk (lc hs) ?_) (λ_ s' G=>O8 (O8 G)) λ_ _ e=>e);refine bW (hi hid ρ R s σ H (λJ l=>am H l/\Mr X.K l (vw l hid) J ds) I ⟨sr,ds,e1,λJ l s1 io=>⟨s1,io⟩⟩) λv s1 h1=>bW h1 λitv s2 h2=>?_
 obtain⟨it,fp,tn,J,H2,rfl,u,T,Y,L,sm,io⟩:=h2;refine rD (IR:=Rep X.K) (RR:=λacc C=>Zx (model X.prog X.w) X.A X.xe (some (SQ (.Name y py) X.env)) (λ_ s'=>SP X R E .next s') acc C) r hk hs hn hm hT hg hp he u (sr.ext sm) T Y L io hz hc ?_
 intro D C s' l xs hDge k hDC hD sm' S rp ⟨mm,hns⟩ hC' W B hok U;have I3:Inv X R σ l s':=u.call' (ch:=fp) W U hok B λb F=>⟨(L b F).2.2.2.1,(L b F).2.1,(L b F).2.2.2.2.1,(L b F).2.2.2.2.2⟩
 have fin:=q _ l (sm.trans sm') ⟨D,xs,ys,rfl,rfl,sm.free hD,S,rp⟩;have t: ∀b o,s2.heap.get? b=some o->b≠C:=λb o e z=>by subst z;exact absurd (Pp e) (Tn.mpr k)
 have O:C≠X.env.locals:=λz=>by
  have:=u.lt;rw[<-z] at this;exact absurd this (Tn.mpr k)
 show Ps _ X.A (SQ (.Name y py) X.env (.ref D)) _ _ s';refine Vq (oh (v:=.ref D) I3 hN hyi (.inl hy) rfl (λs'' I4 F=>?_) (.inr hy));obtain⟨a,V,ha⟩:=F;have hCa:C≠a:=by
  rcases ha with rfl|ha
  ·exact O
  ·obtain⟨w',o,ho,_⟩:=u.cell y a ha;exact λz=>t a o ho z.symm
 refine⟨mm,hns.sameBut V hCa,λh3 hs3=>⟨_,l,?_,fin⟩⟩;refine I4.turned (t':=s''.toks) (it:=C) (λb o nb e=>(hs3.2 b nb).trans e) hC' O (.inr (P8 u.sz k)) (λx c' e z=>?_) (λq G z=>?_)
 ·obtain⟨w',o,ho,_⟩:=u.cell x c' e;exact t c' o ho z
 ·exact t q.1 q.2 (u.pin q G).1 z
theorem tZ(i:Nat)(e:X.calm=true)(I:X.N.Nodup)(M:jz X.N.length g)(O:M2 X c tg iter gi)
 (w: ∀C b d h,tS (aE X N' scope C b d h) c tg g) (A: ∀C b d h,vy (aE X N' scope C b d h) c ifs p) (F: ∀C b d h,DP (aE X N' scope C b d h) c .s elt f)
 (l:SO (.ListComp elt [⟨tg,iter,ifs,0⟩] scope pos) (some (.Name y py)) spos.line X.env=pure true:=by rfl) (u:X.N[i]? =some y:=by rfl) (L:X.env.scope.names.lookup y=some .local:=by rfl)
 (K:scope.kind=.function:=by rfl) (E:x6 scope X.env.scope=true:=by kernel_rfl) (B:ym X.N N' scope=true:=by kernel_rfl) (J:N'.length-X.N.length=m:=by rfl) (j: ∀x,QO iter X.env x=pure x:=by intro _;rfl):
 DS X c k (.Assign [.Name y py] (.ListComp elt [⟨tg,iter,ifs,0⟩] scope pos) spos) (be i (cb m gi g p f)):=λρ=>PS.imp (G9 i e I M O w A F l u L K E B J j ρ) λD σ H t=>by
 obtain⟨hid,o,q⟩:=t;unfold be at q;cases e1:cb m gi g p f ρ with
 |none=>rw[e1] at q;exact q.elim
 |some z=>
  rw[e1] at q;exact⟨hid,o,z,e1,λv G s r=>q _ G hid ((o.ext s).setV (RN.rep r λa n=>o.fresh n) i) (aX s)⟩
end
mutual
def dg:D->D->Bool
 | .non,.non=>true
 | .bl a,.bl b=>a==b
 | .bl a,.int b=>(if a then 1 else 0)==b
 | .int a,.bl b=>a==(if b then 1 else 0)
 | .int a,.int b=>a==b
 | .str a,.str b=>a==b
 | .tup a,.tup b=>da a b
 | .lst a,.lst b=>da a b
 | .lst a,.scr b=>da a b
 | .scr a,.lst b=>da a b
 | .scr a,.scr b=>da a b
 |_,_=>false
def da:List D->List D->Bool
 | [],[]=>true
 |x::xs,y::ys=>dg x y&&da xs ys
 |_,_=>false
end
mutual
def fz:D->Nat
 | .tup a=>cJ a+1
 | .lst a=>cJ a+1
 | .scr _=>Ra
 |_=>0
def cJ:List D->Nat
 | []=>0
 |x::xs=>max (fz x) (cJ xs)
end
theorem nK: ∀ {xs:List D} {i:Nat} {d:D},xs[i]? =some d->fz d<=cJ xs
 | [],_,_,h=>by simp at h
 |x::xs,0,d,h=>by simp at h;subst h;unfold cJ;exact Nat.le_max_left _ _
 |x::xs,i+1,d,h=>by
  have:=nK (xs:=xs) (i:=i) (d:=d) (by simpa using h);unfold cJ;exact P8 this (VT _ _)
mutual
theorem mS: ∀x:D,dg x x=true
 | .non=>by unfold dg;rfl
 | .bl a=>by unfold dg;simp
 | .int a=>by unfold dg;simp
 | .str a=>by unfold dg;simp
 | .tup a=>by unfold dg;exact kS a
 | .lst a=>by unfold dg;exact kS a
 | .scr a=>by unfold dg;exact kS a
theorem kS: ∀x:List D,da x x=true
 | []=>by unfold da;rfl
 |x::xs=>by unfold da;rw[mS x,kS xs];rfl
end
def lz(xs ys:List D)(j:Nat):Bool:=match xs[j]?,ys[j]? with
 |some x,some y=>dg x y
 |_,_=>false
theorem tz {xs ys:List D}(h:xs.length=ys.length):(O5 xs.length).all (lz xs ys)=da xs ys:=by
 induction xs generalizing ys with
 |nil=>
  cases ys with
  |nil=>unfold da;rfl
  |cons y ys=>simp at h
 |cons x xs c=>
  cases ys with
  |nil=>simp at h
  |cons y ys=>
   rw[PL,Sa,VE,Wf];have a:lz (x::xs) (y::ys) 0=dg x y:=rfl;have b:((lz (x::xs) (y::ys))∘RW)=lz xs ys:=by funext j;simp[lz]
   rw[a,b,c (by simpa using h)]
   conv=>rhs;unfold da
theorem qc: ∀ {xs ys:List D},xs.length≠ys.length->da xs ys=false
 | [],[],h=>absurd rfl h
 | [],_::_,_=>by unfold da;rfl
 |_::_,[],_=>by unfold da;rfl
 |x::xs,y::ys,h=>by unfold da;rw[qc (xs:=xs) (ys:=ys) (by simpa using h)];simp
section
variable {X:Cx}{ah:List (Addr×Obj)}{σ:St}{H:Hp}{s:O9}
theorem fN(I:Inv X ah σ H s)(h:SqL X.K H a xs)(h':SqT X.K H a ys):False:=by
 obtain⟨b,_,d,_⟩:=I.list h;obtain⟨its',_,c,_⟩:=I.tuple h';exact SeqAt.ne_of_list_tuple d.isList c rfl
theorem K6(h: ∀zs,da a zs=da b zs):(∀z,dg (.tup a) z=dg (.tup b) z)/\(∀z,dg (.lst a) z=dg (.lst b) z)/\ ∀z,dg (.scr a) z=dg (.lst b) z:=by
 refine⟨λz=>?_,λz=>?_,λz=>?_⟩<;>cases z<;>unfold dg<;>first|exact h _|rfl
theorem Ma: ∀z,dg (.scr b) z=dg (.lst b) z:=(K6 λ_=>rfl).2.2
mutual
theorem Rep.eqv(I:Inv X ah σ H s): ∀ {v:V} {x y:D},Rep X.K H v x->Rep X.K H v y-> ∀z,dg x z=dg y z
 |_,_,_,.non,.non=>λ_=>rfl
 |_,_,_,.bl,.bl=>λ_=>rfl
 |_,_,_,.int,.int=>λ_=>rfl
 |_,_,_,.str,.str=>λ_=>rfl
 |_,_,_,.tup h r,.tup h' a=>by rw[I.tuple_inj h h'] at r;exact(K6 (Reps.eqv I r a)).1
 |_,_,_,.lst h r,.lst h' a=>by rw[I.list_inj (SqL.of h) (SqL.of h')] at r;exact(K6 (Reps.eqv I r a)).2.1
 |_,_,_,.lst h r,.scr h' a=>by rw[I.list_inj (SqL.of h) h'.seq] at r;exact λz=>((K6 (Reps.eqv I r a)).2.1 z).trans (Ma z).symm
 |_,_,_,.scr h r,.lst h' a=>by rw[I.list_inj h.seq (SqL.of h')] at r;exact(K6 (Reps.eqv I r a)).2.2
 |_,_,_,.scr h r,.scr h' a=>by rw[I.list_inj h.seq h'.seq] at r;exact λz=>((K6 (Reps.eqv I r a)).2.2 z).trans (Ma z).symm
 |_,_,_,.tup h r,.lst h' a=>(fN I (SqL.of h') h).elim
 |_,_,_,.lst h r,.tup h' a=>(fN I (SqL.of h) h').elim
 |_,_,_,.tup h r,.scr h' a=>(fN I h'.seq h).elim
 |_,_,_,.scr h r,.tup h' a=>(fN I h.seq h').elim
theorem Reps.eqv(I:Inv X ah σ H s): ∀ {v:List V} {x y:List D},Reps X.K H v x->Reps X.K H v y-> ∀z,da x z=da y z
 |_,_,_,.nil,.nil=>λ_=>rfl
 |_,_,_,.cons r t,.cons b t'=>λz=>by
  cases z with
  |nil=>unfold da;rfl
  |cons w a=>unfold da;rw[Rep.eqv I r b w,Reps.eqv I t t' a]
end
theorem aJ(I:Inv X ah σ H s){ds:List D}(h:SqL X.K H a xs)(r:Reps X.K H xs ds): ∃b:List O7,s.heap.IsList a b.toArray/\b.length=ds.length/\ ∀(j:Nat) (f:j<b.length),∃(v:V) (d:D),ds[j]? =some d/\bH v b[j]/\Rep X.K H v d:=by
 obtain⟨b,c,m,_⟩:=I.list h;have o:=c.length;have n:=r.length;refine⟨b,m.isList,by lia,λj f=>?_⟩;have e:xs[j]? =some xs[j]:=Pd (by lia);obtain⟨u,g,l⟩:=c.get e;obtain⟨d,i,k⟩:=r.get' e;have:b[j]=u:=by rw[Pd f] at g;exact Qi g
 rw[this];exact⟨xs[j],d,i,l,k⟩
theorem b9(I:Inv X ah σ H s){ds:List D}(h:SqT X.K H a xs)(r:Reps X.K H xs ds): ∃b:List O7,s.heap.IsTuple a b.toArray/\b.length=ds.length/\ ∀(j:Nat) (f:j<b.length),∃(v:V) (d:D),ds[j]? =some d/\bH v b[j]/\Rep X.K H v d:=by
 obtain⟨b,c,m,_⟩:=I.tuple h;have o:=c.length;have n:=r.length;refine⟨b,m,by lia,λj f=>?_⟩;have e:xs[j]? =some xs[j]:=Pd (by lia);obtain⟨u,g,l⟩:=c.get e;obtain⟨d,i,k⟩:=r.get' e;have:b[j]=u:=by rw[Pd f] at g;exact Qi g
 rw[this];exact⟨xs[j],d,i,l,k⟩
end
section
variable {X:Cx}{ah:List (Addr×Obj)}{σ:St}{H:Hp}{s:O9}
theorem eP(A:Qe):A.in1.units=A.units+1:=rfl
theorem II {A:Qe}{n:Nat}(l: ∀ {x y:D} {v u:V} {a b:O7} {A:Qe},fz x<n->A.units+fz x<Ra->bH v a->bH u b->Rep X.K H v x->Rep X.K H u y->Sn A s a b (dg x y)){e c:List O7}(C:cJ xs<n)(B:A.units+cJ xs<Ra)
 (t: ∀(j:Nat) (k:j<e.length),∃(v:V) (d:D),xs[j]? =some d/\bH v e[j]/\Rep X.K H v d) (i: ∀(j:Nat) (k:j<c.length),∃(v:V) (d:D),ys[j]? =some d/\bH v c[j]/\Rep X.K H v d):
 ∀j (f:j<e.toArray.size) (g:j<c.toArray.size),Sn A s e.toArray[j] c.toArray[j] (lz xs ys j):=λj f g=>by
 obtain⟨v,d,h,w,q⟩:=t j (by simpa using f);obtain⟨u,d',o,p,z⟩:=i j (by simpa using g);have m:lz xs ys j=dg d d':=by unfold lz;rw[h,o]
 rw[m];have r:=nK h;exact l (by lia) (by lia) (by simpa using w) (by simpa using p) q z
theorem kO(I:Inv X ah σ H s){A:Qe}{n:Nat}(t: ∀ {x y:D} {v u:V} {a b:O7} {A:Qe},fz x<n->A.units+fz x<Ra->bH v a->bH u b->Rep X.K H v x->Rep X.K H u y->Sn A s a b (dg x y)){zs h:List V}(l:cJ xs<n)(B:A.units+(cJ xs+1)<Ra)
 (q:SqL X.K H a zs) (o:Reps X.K H zs xs) (m:SqL X.K H b h) (j:Reps X.K H h ys):Zy A s (.ref a) (.ref b) (da xs ys)/\X5 A s (.ref a) (.ref b) (!da xs ys):=by
 obtain⟨d,g,p,w⟩:=aJ I q o;obtain⟨c,f,z,r⟩:=aJ I m j
 by_cases e:xs.length=ys.length
 ·have hsz:d.toArray.size=c.toArray.size:=by simp;lia
  have i:=II (A:=A.in1) t l (by rw[eP];lia) w r;have k:(O5 d.toArray.size).all (lz xs ys)=da xs ys:=by rw[PK,p];exact tz e
  rw[<-k];exact⟨SeqAt.RcAt.lists g f hsz (by lia) i,jeu g f hsz (by lia) i⟩
 ·rw[qc e];have hsz:(d.toArray.size !=c.toArray.size)=true:=by simp;lia
  exact⟨SeqAt.RcAt.lists_lengths g f hsz (by lia),Zz g f hsz (by lia)⟩
theorem zJ(I:Inv X ah σ H s){A:Qe}{n:Nat}(w: ∀ {x y:D} {v u:V} {a b:O7} {A:Qe},fz x<n->A.units+fz x<Ra->bH v a->bH u b->Rep X.K H v x->Rep X.K H u y->Sn A s a b (dg x y)){zs g:List V}(m:cJ xs<n)(B:A.units+(cJ xs+1)<Ra)
 (r:SqT X.K H a zs) (p:Reps X.K H zs xs) (o:SqT X.K H b g) (j:Reps X.K H g ys):Zy A s (.ref a) (.ref b) (da xs ys)/\X5 A s (.ref a) (.ref b) (!da xs ys):=by
 obtain⟨d,i,q,z⟩:=b9 I r p;obtain⟨c,f,k,t⟩:=b9 I o j;have h:=II (A:=A.in1) w m (by rw[eP];lia) z t;have l:((O5 (min d.toArray.size c.toArray.size)).all (lz xs ys)&&d.toArray.size==c.toArray.size)=da xs ys:=by
  rw[PK,PK,q,k]
  by_cases e:xs.length=ys.length
  ·rw[<-e,Nat.min_self,tz e];simp
  ·rw[qc e];simp[e]
 rw[<-l];exact⟨SeqAt.RcAt.tuples i f (by lia) h,jds i f (by lia) h⟩
theorem oX(I:Inv X ah σ H s)(c:Rep X.K H (.ref a) x)(d:Rep X.K H (.ref b) y)(e:a=b):Sn A s (.ref a) (.ref b) (dg x y):=by
 subst e;rw[Rep.eqv I c d,mS];exact YX _
theorem KY(I:Inv X ah σ H s){n:Nat}(z: ∀ {x y:D} {v u:V} {a b:O7} {A:Qe},fz x<n->A.units+fz x<Ra->bH v a->bH u b->Rep X.K H v x->Rep X.K H u y->Sn A s a b (dg x y)){A:Qe}(t:fz x<n+1)(r:A.units+fz x<Ra)(E:A.units<Ra)
 (p:bH v a) (d:bH u b) (C:Rep X.K H v x) (o:Rep X.K H u y):Sn A s a b (dg x y):=by
 unfold dg;cases C with
 |non=>
  cases p;cases o with
  |non=>
   cases d;exact YX _
  |bl=>
   cases d;exact SeqAt.EqAt.none_bool _
  |int=>
   obtain⟨k,rfl⟩:=d;exact SeqAt.EqAt.none_int _ _
  |str=>
   obtain⟨k,rfl⟩:=d;exact SeqAt.EqAt.none_str _ _
  | @tup i _ _ g f=>
    cases d;obtain⟨c,h,_⟩:=b9 I g f;exact SeqAt.EqAt.none_tuple h (by lia)
  | @lst i _ _ g f=>
    cases d;obtain⟨c,h,_⟩:=aJ I (SqL.of g) f;exact WL h (by lia)
  | @scr i _ _ g f=>
    cases d;obtain⟨c,h,_⟩:=aJ I g.seq f;exact WL h (by lia)
 |bl=>
  cases p;cases o with
  |non=>
   cases d;exact SeqAt.EqAt.bool_none _
  |bl=>
   cases d;exact SeqAt.EqAt.bool_bool _ _
  |int=>
   obtain⟨k,rfl⟩:=d;exact SeqAt.EqAt.bool_int _ _ _
  |str=>
   obtain⟨k,rfl⟩:=d;exact SeqAt.EqAt.bool_str _ _ _
  | @tup i _ _ g f=>
    cases d;obtain⟨c,h,_⟩:=b9 I g f;exact SeqAt.EqAt.bool_tuple _ h (by lia)
  | @lst i _ _ g f=>
    cases d;obtain⟨c,h,_⟩:=aJ I (SqL.of g) f;exact WM _ h (by lia)
  | @scr i _ _ g f=>
    cases d;obtain⟨c,h,_⟩:=aJ I g.seq f;exact WM _ h (by lia)
 |int=>
  obtain⟨B,rfl⟩:=p;cases o with
  |non=>
   cases d;exact SeqAt.EqAt.int_none _ _
  |bl=>
   cases d;exact SeqAt.EqAt.int_bool _ _ _
  |int=>
   obtain⟨k,rfl⟩:=d;exact SeqAt.EqAt.int_int _ _ _ _
  |str=>
   obtain⟨k,rfl⟩:=d;exact XB _ _ _ _
  | @tup i _ _ g f=>
    cases d;obtain⟨c,h,_⟩:=b9 I g f;exact SeqAt.EqAt.int_tuple _ _ h (by lia)
  | @lst i _ _ g f=>
    cases d;obtain⟨c,h,_⟩:=aJ I (SqL.of g) f;exact W7 _ _ h (by lia)
  | @scr i _ _ g f=>
    cases d;obtain⟨c,h,_⟩:=aJ I g.seq f;exact W7 _ _ h (by lia)
 |str=>
  obtain⟨B,rfl⟩:=p;cases o with
  |non=>
   cases d;exact SeqAt.EqAt.str_none _ _
  |bl=>
   cases d;exact SeqAt.EqAt.str_bool _ _ _
  |int=>
   obtain⟨k,rfl⟩:=d;exact XC _ _ _ _
  |str=>
   obtain⟨k,rfl⟩:=d;exact SeqAt.EqAt.str_str _ _ _ _
  | @tup i _ _ g f=>
    cases d;obtain⟨c,h,_⟩:=b9 I g f;exact SeqAt.EqAt.str_tuple _ _ h (by lia)
  | @lst i _ _ g f=>
    cases d;obtain⟨c,h,_⟩:=aJ I (SqL.of g) f;exact W8 _ _ h (by lia)
  | @scr i _ _ g f=>
    cases d;obtain⟨c,h,_⟩:=aJ I g.seq f;exact W8 _ _ h (by lia)
 | @tup q _ _ m l=>
   cases p;obtain⟨w,j,_⟩:=b9 I m l;cases o with
   |non=>
    cases d;exact SeqAt.EqAt.tuple_none j (by lia)
   |bl=>
    cases d;exact SeqAt.EqAt.tuple_bool _ j (by lia)
   |int=>
    obtain⟨k,rfl⟩:=d;exact SeqAt.EqAt.tuple_int _ _ j (by lia)
   |str=>
    obtain⟨k,rfl⟩:=d;exact SeqAt.EqAt.tuple_str _ _ j (by lia)
   | @tup i _ _ g f=>
     cases d;obtain⟨c,h,_⟩:=b9 I g f
     by_cases e:q=i
     ·exact(oX I (.tup m l) (.tup g f) e)
     ·exact Vc e (zJ I z (by unfold fz at t;lia) (by unfold fz at r;lia) m l g f).1
   | @lst i _ _ g f=>
     cases d;obtain⟨c,h,_⟩:=aJ I (SqL.of g) f;exact Wz j h (by lia)
   | @scr i _ _ g f=>
     cases d;obtain⟨c,h,_⟩:=aJ I g.seq f;exact Wz j h (by lia)
 | @scr q _ _ m l=>exact absurd r (by unfold fz;lia)
 | @lst q _ _ m l=>
   cases p;obtain⟨w,j,_⟩:=aJ I (SqL.of m) l;cases o with
   |non=>
    cases d;exact SeqAt.EqAt.list_none j (by lia)
   |bl=>
    cases d;exact SeqAt.EqAt.list_bool _ j (by lia)
   |int=>
    obtain⟨k,rfl⟩:=d;exact SeqAt.EqAt.list_int _ _ j (by lia)
   |str=>
    obtain⟨k,rfl⟩:=d;exact SeqAt.EqAt.list_str _ _ j (by lia)
   | @tup i _ _ g f=>
     cases d;obtain⟨c,h,_⟩:=b9 I g f;exact SeqAt.EqAt.list_tuple j h (by lia)
   | @lst i _ _ g f=>
     cases d;obtain⟨c,h,_⟩:=aJ I (SqL.of g) f
     by_cases e:q=i
     ·exact(oX I (.lst m l) (.lst g f) e)
     ·exact Vc e (kO I z (by unfold fz at t;lia) (by unfold fz at r;lia) (SqL.of m) l (SqL.of g) f).1
   | @scr i _ _ g f=>
     cases d;obtain⟨c,h,_⟩:=aJ I g.seq f
     by_cases e:q=i
     ·exact(oX I (.lst m l) (.scr g f) e)
     ·exact Vc e (kO I z (by unfold fz at t;lia) (by unfold fz at r;lia) (SqL.of m) l g.seq f).1
theorem oW(I:Inv X ah σ H s): ∀(n:Nat) {x y:D} {v u:V} {a b:O7} {A:Qe},fz x<n->A.units+fz x<Ra->bH v a->bH u b->Rep X.K H v x->Rep X.K H u y->Sn A s a b (dg x y)
 |0,x,y,v,u,a,b,A,c,f,h,d,e,g=>absurd c (Wr _)
 |n+1,x,y,v,u,a,b,A,c,f,h,d,e,g=>KY I (λm i o l j k=>oW I n m i o l j k) c f (by lia) h d e g
theorem Kj(I:Inv X ah σ H s){A:Qe}(q:A.units+fz x<Ra)(B:A.units<Ra)(o:bH v a)(d:bH u b)(z:Rep X.K H v x)(m:Rep X.K H u y):Zy A s a b (dg x y):=by
 have p:=λ{x y:D} {v u:V} {a b:O7} {A:Qe} (n:Nat)=> @oW X ah σ H s I n x y v u a b A
 have p: ∀ {n:Nat} {x y:D} {v u:V} {a b:O7} {A:Qe},fz x<n->A.units+fz x<Ra->bH v a->bH u b->Rep X.K H v x->Rep X.K H u y->Sn A s a b (dg x y):=λ{n x y v u a b A}=>oW I n
 unfold dg;cases z with
 |non=>
  cases o;cases m with
  |non=>
   cases d;exact SeqAt.RcAt.none_none
  |bl=>
   cases d;exact SeqAt.RcAt.none_bool _
  |int=>
   obtain⟨j,rfl⟩:=d;exact SeqAt.RcAt.none_int _ _
  |str=>
   obtain⟨j,rfl⟩:=d;exact SeqAt.RcAt.none_str _ _
  | @tup h _ _ f e=>
    cases d;obtain⟨c,g,_⟩:=b9 I f e;exact SeqAt.RcAt.none_tuple g (by lia)
  | @lst h _ _ f e=>
    cases d;obtain⟨c,g,_⟩:=aJ I (SqL.of f) e;exact WN g (by lia)
  | @scr h _ _ f e=>
    cases d;obtain⟨c,g,_⟩:=aJ I f.seq e;exact WN g (by lia)
 |bl=>
  cases o;cases m with
  |non=>
   cases d;exact SeqAt.RcAt.bool_none _
  |bl=>
   cases d;exact SeqAt.RcAt.bool_bool _ _
  |int=>
   obtain⟨j,rfl⟩:=d;exact SeqAt.RcAt.bool_int _ _ _
  |str=>
   obtain⟨j,rfl⟩:=d;exact SeqAt.RcAt.bool_str _ _ _
  | @tup h _ _ f e=>
    cases d;obtain⟨c,g,_⟩:=b9 I f e;exact SeqAt.RcAt.bool_tuple _ g (by lia)
  | @lst h _ _ f e=>
    cases d;obtain⟨c,g,_⟩:=aJ I (SqL.of f) e;exact WO _ g (by lia)
  | @scr h _ _ f e=>
    cases d;obtain⟨c,g,_⟩:=aJ I f.seq e;exact WO _ g (by lia)
 |int=>
  obtain⟨w,rfl⟩:=o;cases m with
  |non=>
   cases d;exact SeqAt.RcAt.int_none _ _
  |bl=>
   cases d;exact SeqAt.RcAt.int_bool _ _ _
  |int=>
   obtain⟨j,rfl⟩:=d;exact SeqAt.RcAt.int_int _ _ _ _
  |str=>
   obtain⟨j,rfl⟩:=d;exact SeqAt.RcAt.int_str _ _ _ _
  | @tup h _ _ f e=>
    cases d;obtain⟨c,g,_⟩:=b9 I f e;exact SeqAt.RcAt.int_tuple _ _ g (by lia)
  | @lst h _ _ f e=>
    cases d;obtain⟨c,g,_⟩:=aJ I (SqL.of f) e;exact W9 _ _ g (by lia)
  | @scr h _ _ f e=>
    cases d;obtain⟨c,g,_⟩:=aJ I f.seq e;exact W9 _ _ g (by lia)
 |str=>
  obtain⟨w,rfl⟩:=o;cases m with
  |non=>
   cases d;exact SeqAt.RcAt.str_none _ _
  |bl=>
   cases d;exact SeqAt.RcAt.str_bool _ _ _
  |int=>
   obtain⟨j,rfl⟩:=d;exact SeqAt.RcAt.str_int _ _ _ _
  |str=>
   obtain⟨j,rfl⟩:=d;exact SeqAt.RcAt.str_str _ _ _ _
  | @tup h _ _ f e=>
    cases d;obtain⟨c,g,_⟩:=b9 I f e;exact SeqAt.RcAt.str_tuple _ _ g (by lia)
  | @lst h _ _ f e=>
    cases d;obtain⟨c,g,_⟩:=aJ I (SqL.of f) e;exact Xa _ _ g (by lia)
  | @scr h _ _ f e=>
    cases d;obtain⟨c,g,_⟩:=aJ I f.seq e;exact Xa _ _ g (by lia)
 | @tup t _ _ k l=>
   cases o;obtain⟨r,i,_⟩:=b9 I k l;cases m with
   |non=>
    cases d;exact SeqAt.RcAt.tuple_none i (by lia)
   |bl=>
    cases d;exact SeqAt.RcAt.tuple_bool _ i (by lia)
   |int=>
    obtain⟨j,rfl⟩:=d;exact SeqAt.RcAt.tuple_int _ _ i (by lia)
   |str=>
    obtain⟨j,rfl⟩:=d;exact SeqAt.RcAt.tuple_str _ _ i (by lia)
   | @tup h _ _ f e=>
     cases d;obtain⟨c,g,_⟩:=b9 I f e;exact(zJ I p (QM _) (by unfold fz at q;lia) k l f e).1
   | @lst h _ _ f e=>
     cases d;obtain⟨c,g,_⟩:=aJ I (SqL.of f) e;exact WA i g (by lia)
   | @scr h _ _ f e=>
     cases d;obtain⟨c,g,_⟩:=aJ I f.seq e;exact WA i g (by lia)
 | @scr t _ _ k l=>exact absurd q (by unfold fz;lia)
 | @lst t _ _ k l=>
   cases o;obtain⟨r,i,_⟩:=aJ I (SqL.of k) l;cases m with
   |non=>
    cases d;exact SeqAt.RcAt.list_none i (by lia)
   |bl=>
    cases d;exact SeqAt.RcAt.list_bool _ i (by lia)
   |int=>
    obtain⟨j,rfl⟩:=d;exact SeqAt.RcAt.list_int _ _ i (by lia)
   |str=>
    obtain⟨j,rfl⟩:=d;exact SeqAt.RcAt.list_str _ _ i (by lia)
   | @tup h _ _ f e=>
     cases d;obtain⟨c,g,_⟩:=b9 I f e;exact SeqAt.RcAt.list_tuple i g (by lia)
   | @lst h _ _ f e=>
     cases d;obtain⟨c,g,_⟩:=aJ I (SqL.of f) e;exact(kO I p (QM _) (by unfold fz at q;lia) (SqL.of k) l (SqL.of f) e).1
   | @scr h _ _ f e=>
     cases d;obtain⟨c,g,_⟩:=aJ I f.seq e;exact(kO I p (QM _) (by unfold fz at q;lia) (SqL.of k) l f.seq e).1
theorem CT(I:Inv X ah σ H s){A:Qe}(p:A.units+fz x<Ra)(B:A.units<Ra)(o:bH v a)(d:bH u b)(z:Rep X.K H v x)(m:Rep X.K H u y):X5 A s a b (!dg x y):=by
 have r: ∀ {n:Nat} {x y:D} {v u:V} {a b:O7} {A:Qe},fz x<n->A.units+fz x<Ra->bH v a->bH u b->Rep X.K H v x->Rep X.K H u y->Sn A s a b (dg x y):=λ{n x y v u a b A}=>oW I n
 unfold dg;cases z with
 |non=>
  cases o;cases m with
  |non=>
   cases d;exact jbb
  |bl=>
   cases d;exact jbc _
  |int=>
   obtain⟨j,rfl⟩:=d;exact jbJ _ _
  |str=>
   obtain⟨j,rfl⟩:=d;exact jbK _ _
  | @tup h _ _ f e=>
    cases d;obtain⟨c,g,_⟩:=b9 I f e;exact jay g (by lia)
  | @lst h _ _ f e=>
    cases d;obtain⟨c,g,_⟩:=aJ I (SqL.of f) e;exact Wg g (by lia)
  | @scr h _ _ f e=>
    cases d;obtain⟨c,g,_⟩:=aJ I f.seq e;exact Wg g (by lia)
 |bl=>
  cases o;cases m with
  |non=>
   cases d;exact jbd _
  |bl=>
   cases d;exact jbe _ _
  |int=>
   obtain⟨j,rfl⟩:=d;exact jbL _ _ _
  |str=>
   obtain⟨j,rfl⟩:=d;exact jbM _ _ _
  | @tup h _ _ f e=>
    cases d;obtain⟨c,g,_⟩:=b9 I f e;exact jaz _ g (by lia)
  | @lst h _ _ f e=>
    cases d;obtain⟨c,g,_⟩:=aJ I (SqL.of f) e;exact Wh _ g (by lia)
  | @scr h _ _ f e=>
    cases d;obtain⟨c,g,_⟩:=aJ I f.seq e;exact Wh _ g (by lia)
 |int=>
  obtain⟨w,rfl⟩:=o;cases m with
  |non=>
   cases d;exact jbN _ _
  |bl=>
   cases d;exact jbO _ _ _
  |int=>
   obtain⟨j,rfl⟩:=d;exact jcN _ _ _ _
  |str=>
   obtain⟨j,rfl⟩:=d;exact jcO _ _ _ _
  | @tup h _ _ f e=>
    cases d;obtain⟨c,g,_⟩:=b9 I f e;exact jbf _ _ g (by lia)
  | @lst h _ _ f e=>
    cases d;obtain⟨c,g,_⟩:=aJ I (SqL.of f) e;exact WB _ _ g (by lia)
  | @scr h _ _ f e=>
    cases d;obtain⟨c,g,_⟩:=aJ I f.seq e;exact WB _ _ g (by lia)
 |str=>
  obtain⟨w,rfl⟩:=o;cases m with
  |non=>
   cases d;exact jbP _ _
  |bl=>
   cases d;exact jbQ _ _ _
  |int=>
   obtain⟨j,rfl⟩:=d;exact jcP _ _ _ _
  |str=>
   obtain⟨j,rfl⟩:=d;exact jcQ _ _ _ _
  | @tup h _ _ f e=>
    cases d;obtain⟨c,g,_⟩:=b9 I f e;exact jbg _ _ g (by lia)
  | @lst h _ _ f e=>
    cases d;obtain⟨c,g,_⟩:=aJ I (SqL.of f) e;exact WC _ _ g (by lia)
  | @scr h _ _ f e=>
    cases d;obtain⟨c,g,_⟩:=aJ I f.seq e;exact WC _ _ g (by lia)
 | @tup t _ _ k l=>
   cases o;obtain⟨q,i,_⟩:=b9 I k l;cases m with
   |non=>
    cases d;exact jaA i (by lia)
   |bl=>
    cases d;exact jaB _ i (by lia)
   |int=>
    obtain⟨j,rfl⟩:=d;exact jbh _ _ i (by lia)
   |str=>
    obtain⟨j,rfl⟩:=d;exact jbi _ _ i (by lia)
   | @tup h _ _ f e=>
     cases d;obtain⟨c,g,_⟩:=b9 I f e;exact(zJ I r (QM _) (by unfold fz at p;lia) k l f e).2
   | @lst h _ _ f e=>
     cases d;obtain⟨c,g,_⟩:=aJ I (SqL.of f) e;exact VU i g (by lia)
   | @scr h _ _ f e=>
     cases d;obtain⟨c,g,_⟩:=aJ I f.seq e;exact VU i g (by lia)
 | @scr t _ _ k l=>exact absurd p (by unfold fz;lia)
 | @lst t _ _ k l=>
   cases o;obtain⟨q,i,_⟩:=aJ I (SqL.of k) l;cases m with
   |non=>
    cases d;exact jbj i (by lia)
   |bl=>
    cases d;exact jbk _ i (by lia)
   |int=>
    obtain⟨j,rfl⟩:=d;exact jbR _ _ i (by lia)
   |str=>
    obtain⟨j,rfl⟩:=d;exact jbS _ _ i (by lia)
   | @tup h _ _ f e=>
     cases d;obtain⟨c,g,_⟩:=b9 I f e;exact jaC i g (by lia)
   | @lst h _ _ f e=>
     cases d;obtain⟨c,g,_⟩:=aJ I (SqL.of f) e;exact(kO I r (QM _) (by unfold fz at p;lia) (SqL.of k) l (SqL.of f) e).2
   | @scr h _ _ f e=>
     cases d;obtain⟨c,g,_⟩:=aJ I f.seq e;exact(kO I r (QM _) (by unfold fz at p;lia) (SqL.of k) l f.seq e).2
end
theorem c4.full {K:Pk}(h:c4 K H (vw H hid) v d):Rep K H v d:=by
 rcases h with h|⟨a,xs,ds,rfl,rfl,b,c⟩
 ·exact h.mono (dq _ _)
 ·exact .lst b (c.mono (dq _ _))
def Lv(K:Pk):R2:=λv u H Q=> ∃x y,Rep K H v x/\Rep K H u y/\fz x<=32/\Q (.bl (dg x y)) H
def MJ(K:Pk):R2:=λv u H Q=> ∃x y,Rep K H v x/\Rep K H u y/\fz x<=32/\Q (.bl (!dg x y)) H
theorem lY {X:Cx}(f:X.A.units+64<Ra):lu X (Rg .Eq) (Lv X.K):=by
 intro j s σ H x y v u Q I c a h;obtain⟨e,i,d,b,g,q⟩:=h;exact Kj I (by lia) (by lia) c a d b X.prog X.w _ _ ⟨.bl _,H,I,rfl,q⟩
theorem iA {X:Cx}(f:X.A.units+64<Ra):lu X (Rg .NotEq) (MJ X.K):=by
 intro j s σ H x y v u Q I c a h;obtain⟨e,i,d,b,g,q⟩:=h;exact CT I (by lia) (by lia) c a d b X.prog X.w _ _ ⟨.bl _,H,I,rfl,q⟩
def pV:D->D->Option D:=λx y=>if fz x<=32 then some (.bl (dg x y)) else none
def lh:D->D->Option D:=λx y=>if fz x<=32 then some (.bl (!dg x y)) else none
theorem qj {K:Pk}:ph K .s (Lv K) pV:=by
 intro H hid v u x y d Q c h a b q;unfold pV at h;split at h
 ·cases h;exact⟨x,y,a.full,b.full, ‹_›,q _ H (am.refl _) .bl⟩
 ·cases h
theorem lG {K:Pk}:ph K .s (MJ K) lh:=by
 intro H hid v u x y d Q c h a b q;unfold lh at h;split at h
 ·cases h;exact⟨x,y,a.full,b.full, ‹_›,q _ H (am.refl _) .bl⟩
 ·cases h
theorem pI {X:Cx}(I:Inv X ah σ H s){A:Qe}(hx:Rep X.K H v x)(ra:bH v a): ∀ {ds:List D} {xs:List V} {its:List O7},Reps X.K H xs ds->bt xs its->A.units+cJ ds<Ra->
 ∃e:O7->Bool,(∀y,y∈its->Sn A s y a (e y))/\its.any e=ds.any (λd=>dg d x):=by
 intro ds xs its r rv hu
 classical
 let e:O7->Bool:=λy=>if h: ∃(d:D) (u:V),bH u y/\Rep X.K H u d then dg h.choose x else false
 have key: ∀y u d,bH u y->Rep X.K H u d->e y=dg d x:=λy u d h1 h2=>by
  have hex: ∃(d:D) (u:V),bH u y/\Rep X.K H u d:=⟨d,u,h1,h2⟩
  show(if h: ∃(d:D) (u:V),bH u y/\Rep X.K H u d then dg h.choose x else false)=dg d x;rw[dif_pos hex];obtain⟨u',s1,s2⟩:=hex.choose_spec;have eu:u'=u:=s1.inj h1;rw[eu] at s2;exact Rep.eqv I s2 h2 x
 refine⟨e,?_,?_⟩
 ·induction rv generalizing ds with
  |nil=>intro y hy;cases hy
  |cons r1 t ih=>
   cases r with
   |cons p1 pt=>
    rename_i d ds;intro y hy;have hm:fz d<=cJ (d::ds):=nK (i:=0) rfl
    have hm2:cJ ds<=cJ (d::ds):=by conv=>rhs;unfold cJ
                                   exact VT _ _
    rcases PD.mp hy with rfl|hy
    ·rw[key _ _ _ r1 p1];exact oW I (fz d+1) (QM _) (by lia) r1 ra p1 hx
    ·exact ih pt (by lia) y hy
 ·induction rv generalizing ds with
  |nil=>cases r;rfl
  |cons r1 t ih=>
   cases r with
   |cons p1 pt=>
    rename_i d ds;have hm2:cJ ds<=cJ (d::ds):=by conv=>rhs;unfold cJ
                                                 exact VT _ _
    rw[Se,Se,key _ _ _ r1 p1,ih pt (by lia)]
def JU(K:Pk)(b:Bool):R2:=λv u H Q=> ∃x ds a xs,Rep K H v x/\u=.ref a/\(SqL K H a xs\/SqT K H a xs)/\Reps K H xs ds/\cJ ds<=32/\Q (.bl (if b then !ds.any (λd=>dg d x) else ds.any λd=>dg d x)) H
theorem mt {X:Cx}(t:X.A.units+64<Ra):lu X (Rg .In) (JU X.K false):=by
 intro z s σ H v w a b Q I m n h;obtain⟨x,ds,p,xs,l,rfl,d,r,u,q⟩:=h;cases n;rcases d with d|d
 ·obtain⟨c,g,k,o⟩:=I.list d;obtain⟨e,i,f⟩:=pI (A:=X.A.in1) I l m r g (by rw[eP];lia);refine SeqAt.in_listAt e k.isList (λy j=>i y (by simpa using j)) ⟨.bl _,H,I,rfl,?_⟩;rw[show c.toArray.any e=c.any e by simp,f];exact q
 ·obtain⟨c,g,k,o⟩:=I.tuple d;obtain⟨e,i,f⟩:=pI (A:=X.A.in1) I l m r g (by rw[eP];lia);refine SeqAt.in_tupleAt e k (λy j=>i y (by simpa using j)) ⟨.bl _,H,I,rfl,?_⟩;rw[show c.toArray.any e=c.any e by simp,f];exact q
theorem ox {X:Cx}(t:X.A.units+64<Ra):lu X (Rg .NotIn) (JU X.K true):=by
 intro z s σ H v w a b Q I m n h;obtain⟨x,ds,p,xs,l,rfl,d,r,u,q⟩:=h;cases n;rcases d with d|d
 ·obtain⟨c,g,k,o⟩:=I.list d;obtain⟨e,i,f⟩:=pI (A:=X.A.in1) I l m r g (by rw[eP];lia);refine SeqAt.notIn_listAt e k.isList (λy j=>i y (by simpa using j)) ⟨.bl _,H,I,rfl,?_⟩;rw[show c.toArray.any e=c.any e by simp,f];exact q
 ·obtain⟨c,g,k,o⟩:=I.tuple d;obtain⟨e,i,f⟩:=pI (A:=X.A.in1) I l m r g (by rw[eP];lia);refine SeqAt.notIn_tupleAt e k (λy j=>i y (by simpa using j)) ⟨.bl _,H,I,rfl,?_⟩;rw[show c.toArray.any e=c.any e by simp,f];exact q
def lO:D->Option (List D)
 | .lst ds=>some ds
 | .tup ds=>some ds
 |_=>none
def iZ(a:Bool):D->D->Option D:=λx y=>match lO y with
 |some ds=>if cJ ds<=32 then some (.bl (if a then !ds.any (λd=>dg d x) else ds.any λd=>dg d x)) else none
 |none=>none
theorem lI {K:Pk}(b:Bool):ph K .s (JU K b) (iZ b):=by
 intro H hid v u x y d Q j h i g q;unfold iZ at h;split at h
 ·split at h
  ·rename_i ds e _
   cases h;cases y with
   |lst zs=>
    cases e;obtain⟨a,xs,rfl,f,c⟩:=g.lst;exact⟨x,_,a,xs,i.full,rfl,.inl f,c.mono (dq _ _), ‹_›,q _ H (am.refl _) .bl⟩
   |tup zs=>
    cases e;obtain⟨a,xs,rfl,_,f,c⟩:=g.tup;exact⟨x,_,a,xs,i.full,rfl,.inr f,c.mono (dq _ _), ‹_›,q _ H (am.refl _) .bl⟩
   |_=>cases e
  ·cases h
 ·cases h
section
variable {X:Cx}{c:Ct}{e o:Expr}{k:Kd}{f g:FE}{pos p p2:Pos}
def iP:List D->Option (List Bool)
 | []=>some []
 | .bl b::r=>(iP r).map (b:: ·)
 |_=>none
theorem wR: ∀ {ds:List D} {bs:List Bool} {i:Nat} {d:D},iP ds=some bs->ds[i]? =some d-> ∃b,d=.bl b/\bs[i]? =some b
 | [],_,_,_,_,h=>by simp at h
 |x::r,bs,i,d,h,e=>by
  cases x with
  |bl b=>
   unfold iP at h;cases e1:iP r with
   |none=>rw[e1] at h;cases h
   |some rs=>
    rw[e1] at h;cases h;cases i with
    |zero=>simp at e;subst e;exact⟨b,rfl,rfl⟩
    |succ i=>
     obtain⟨f,a,c⟩:=wR (i:=i) e1 (by simpa using e);exact⟨f,a,by simpa using c⟩
  |_=>cases h
theorem wa: ∀ {ds:List D} {bs:List Bool},iP ds=some bs->ds.length=bs.length
 | [],_,h=>by cases h;rfl
 |x::r,bs,h=>by
  cases x with
  |bl b=>
   unfold iP at h;cases e1:iP r with
   |none=>rw[e1] at h;cases h
   |some rs=>rw[e1] at h;cases h;simp[wa e1]
  |_=>cases h
theorem Cv(bs:List Bool):(O5 bs.length).any (λi=>bs.getD i false)=bs.any id:=by
 induction bs with
 |nil=>rfl
 |cons b bs a=>
  rw[PL,Sa,Se,Wi,Se];rw[show((λi=>(b::bs).getD i false)∘RW)=λi=>bs.getD i false by funext i;simp[Qd],a];rfl
theorem y9(bs:List Bool):(O5 bs.length).all (λi=>bs.getD i false)=bs.all id:=by
 induction bs with
 |nil=>rfl
 |cons b bs a=>
  rw[PL,Sa,VE,Wf,VE];rw[show((λi=>(b::bs).getD i false)∘RW)=λi=>bs.getD i false by funext i;simp[Qd],a];rfl
theorem qi{bs:List Bool}(I:Inv X ah σ H s)(C:SqL X.K H a xs)(l:Reps X.K H xs ds)(x:iP ds=some bs)(B:X.calm=true)
 (hR: ∀(J:Addr) (s2:O9) (c:Array O7) (S:c.size=bs.length),Walks X.prog X.w X.A.in1 J [J,a] [J] c.size (λi v=>c[i]? =some v) (λi h=>h.IsListIter J a i/\h.IsList a c)->s2.heap.IsListIter J a 0->s2.heap.IsList a c->TruthOf X.prog X.w X.A.in1 (λi v=>c[i]? =some v) (λi=>bs.getD i false)->
   (∀h' tk,(∀b o,b∉ [J]->s2.heap.get? b=some o->h'.get? b=some o)->Inv X ah σ H {s2 with heap:=h',toks:=tk})->R (.ref J) s2):Ps (model X.prog X.w) X.A.in1 (Wa (.ref a)) R E s:=by
 obtain⟨c,t,k,P⟩:=I.list C;have T:=t.length;have O:=l.length;have N:=wa x;have j:a<s.heap.objs.size:=by obtain⟨o,n,e,_⟩:=k;exact Pp e
 refine T6 k.isList (hR s.heap.objs.size _ c.toArray (by simp;lia) (jeC (A:=X.A.in1) (I.ok.hd B) _ a (PX j) c.toArray) ⟨_,Pl _ rfl,rfl,rfl⟩ ?_ ?_ ?_)
 ·obtain⟨o,G,q⟩:=k.isList;exact⟨o,Pa _ G,q⟩
 ·intro i v s' Q E hv g;have f:c[i]? =some v:=by simpa using hv
  have U:=(Pu.mp f).1;have r:xs[i]? =some xs[i]:=Pd (by lia);obtain⟨u,y,m⟩:=t.get r;rw[f] at y;cases y;obtain⟨d,F,p⟩:=l.get' r;obtain⟨b,rfl,D⟩:=wR x F;rcases z:xs[i] with _|_|_|_|_|_|_|_<;>rw[z] at m p<;>cases p
  cases m;have:bs.getD i false=b:=by simp[Qd,D]
  dsimp only at g;rw[this] at g;exact Q1 g
 ·intro h' tk M;refine I.kept λb o e=>M b o (λL=>?_) (Pa _ e)
  have:b=s.heap.objs.size:=by simpa using L
  exact absurd (this▸Pp e) (SG _)
theorem p8(e:X.calm=true):dI X (.builtin "any") (λxs H Q=> ∃a ys ds bs,xs=[.ref a]/\SqL X.K H a ys/\Reps X.K H ys ds/\iP ds=some bs/\Q (.bl (bs.any id)) H):=by
 intro o s σ H xs us Q I r h;obtain⟨a,ys,ds,bs,rfl,g,d,m,q⟩:=h;obtain⟨u,rfl,l⟩:=iW r;cases l;refine call_any_walk (qi I g d m e λJ s2 i k W b c n f=>?_);refine⟨J,_,_,_,_,_,_,rfl,W,⟨b,c⟩,n,λh' tk j=>⟨.bl _,H,f h' tk j,rfl,?_⟩⟩;rw[k,Cv];exact q
theorem Dm(e:X.calm=true):dI X (.builtin "all") (λxs H Q=> ∃a ys ds bs,xs=[.ref a]/\SqL X.K H a ys/\Reps X.K H ys ds/\iP ds=some bs/\Q (.bl (bs.all id)) H):=by
 intro o s σ H xs us Q I r h;obtain⟨a,ys,ds,bs,rfl,g,d,m,q⟩:=h;obtain⟨u,rfl,l⟩:=iW r;cases l;refine call_all_walk (qi I g d m e λJ s2 i k W b c n f=>?_);refine⟨J,_,_,_,_,_,_,rfl,W,⟨b,c⟩,n,λh' tk j=>⟨.bl _,H,f h' tk j,rfl,?_⟩⟩;rw[k,y9];exact q
def wy:List D->Option D
 | [.lst ds]=>(iP ds).map λbs=>.bl (bs.any id)
 |_=>none
def FX:List D->Option D
 | [.lst ds]=>(iP ds).map λbs=>.bl (bs.all id)
 |_=>none
theorem yG:gh X.K .s (λxs H Q=> ∃a ys ds bs,xs=[.ref a]/\SqL X.K H a ys/\Reps X.K H ys ds/\iP ds=some bs/\Q (.bl (bs.any id)) H) wy:=by
 intro H hid vs ds d Q f h r q;unfold wy at h;split at h
 ·rename_i zs
  cases e1:iP zs with
  |none=>rw[e1] at h;cases h
  |some bs=>
   rw[e1] at h;cases h;obtain⟨x,rfl,c⟩:=c3.one r;obtain⟨a,xs,rfl,e,b⟩:=c.lst;exact⟨a,xs,zs,bs,rfl,e,b.mono (dq _ _),e1,q _ H (am.refl _) .bl⟩
 ·cases h
theorem Kb:gh X.K .s (λxs H Q=> ∃a ys ds bs,xs=[.ref a]/\SqL X.K H a ys/\Reps X.K H ys ds/\iP ds=some bs/\Q (.bl (bs.all id)) H) FX:=by
 intro H hid vs ds d Q f h r q;unfold FX at h;split at h
 ·rename_i zs
  cases e1:iP zs with
  |none=>rw[e1] at h;cases h
  |some bs=>
   rw[e1] at h;cases h;obtain⟨x,rfl,c⟩:=c3.one r;obtain⟨a,xs,rfl,e,b⟩:=c.lst;exact⟨a,xs,zs,bs,rfl,e,b.mono (dq _ _),e1,q _ H (am.refl _) .bl⟩
 ·cases h
def eN:List D->Option (List Int)
 | []=>some []
 | .int b::r=>(eN r).map (b:: ·)
 |_=>none
theorem gK: ∀ {ds:List D} {a:List Int},eN ds=some a->ds=a.map D.int
 | [],_,h=>by cases h;rfl
 |x::r,bs,h=>by
  cases x with
  |int b=>
   unfold eN at h;cases e1:eN r with
   |none=>rw[e1] at h;cases h
   |some rs=>rw[e1] at h;cases h;simp[gK e1]
  |_=>cases h
theorem lD {K:Pk}: ∀ {a:List Int} {xs:List V},Reps K F xs (a.map D.int)->xs=a.map V.int
 | [],_,.nil=>rfl
 |n::a,_,.cons r t=>by cases r;rw[lD t];rfl
def oB:List Int->Int
 | []=>0
 |a::r=>r.foldl (λm b=>if b<m then b else m) a
theorem w8(r:List Int): ∀a:Int,r.foldl (λm b=>if b<m then b else m) a∈a::r/\ ∀x∈a::r,r.foldl (λm b=>if b<m then b else m) a<=x:=by
 induction r with
 |nil=>intro a;simp
 |cons b r h=>
  intro a;rw[TC];obtain⟨g,d⟩:=h (if b<a then b else a);have f:=d (if b<a then b else a) PH;refine⟨?_,λx c=>?_⟩
  ·rcases PD.mp g with e|e
   ·rw[e];split<;>simp
   ·exact Pt _ (Pt _ e)
  ·rcases PD.mp c with rfl|c
   ·split at f<;>split<;>lia
   ·rcases PD.mp c with rfl|c
    ·split at f<;>split<;>lia
    ·exact d x (Pt _ c)
theorem FQ: ∀(b:List Int),b≠[]->oB b∈b/\ ∀a∈b,oB b<=a
 | [],h=>absurd rfl h
 |a::r,_=>w8 r a
theorem CB{m:Int}(c:m∈b)(f: ∀a∈b,m<=a):m=oB b:=by
 obtain⟨g,d⟩:=FQ b (by intro e;subst e;simp at c);have:=f _ g;have:=d _ c;lia
theorem BM(n:X.calm=true):dI X (.builtin "min") (λxs H Q=> ∃a b,xs=[.ref a]/\SqL X.K H a (b.map V.int)/\b≠[]/\Q (.int (oB b)) H):=by
 intro B s σ H xs us Q I r h;obtain⟨a,b,rfl,p,l,q⟩:=h;obtain⟨u,rfl,z⟩:=iW r;cases z;obtain⟨d,m,A,D⟩:=I.list p;have k:W2 d b:=zd m;obtain⟨xs,e⟩:=k.allInts.items;have c:b=xs.toList.map (·.1):=by rw[<-k.numsOf,<-nums_intItems,<-e]
 have hsz:0<xs.size:=by
  have:0<b.length:=by cases b with|nil=>exact absurd rfl l|cons=>simp
  rw[c,Pc,Py] at this;exact this
 have g:=A.isList;rw[e] at g;refine min_intList (I.ok.hd n) g hsz λv h' tk hv y=>?_
 obtain⟨t,rfl⟩:=intItems_at hv;obtain⟨C,w⟩:=argBest_lt (numAt xs) (xs.size-1);have o:numAt xs (argBest (λi j=>decide (numAt xs i<numAt xs j)) (xs.size-1))=oB b:=by
  refine CB ?_ λa f=>?_
  ·rw[c,numAt_eq];exact getD_mem (by rw[Pc,Py];lia)
  ·rw[c] at f;obtain⟨j,x,rfl⟩:=mem_getD f;rw[Pc,Py] at x;rw[<-numAt_eq];exact w j (by lia)
 exact⟨.int (oB b),H,I.kept y,⟨t,by rw[<-o]⟩,q⟩
def sU:List D->Option D
 | [.lst ds]=>(eN ds).bind λa=>if a.isEmpty then none else some (.int (oB a))
 |_=>none
theorem HX:gh X.K .s (λxs H Q=> ∃a b,xs=[.ref a]/\SqL X.K H a (b.map V.int)/\b≠[]/\Q (.int (oB b)) H) sU:=by
 intro H hid vs ds d Q i h r q;unfold sU at h;split at h
 ·rename_i zs
  cases e1:eN zs with
  |none=>rw[e1] at h;cases h
  |some b=>
   rw[e1] at h;have h:(if b.isEmpty then none else some (D.int (oB b)))=some d:=h;split at h
   ·cases h
   ·cases h;obtain⟨x,rfl,g⟩:=c3.one r;obtain⟨a,xs,rfl,f,c⟩:=g.lst;rw[gK e1] at c;rw[lD c] at f;exact⟨a,b,rfl,f,(by intro e;subst e;simp at*),q _ H (am.refl _) .int⟩
 ·cases h
end
end L2
namespace PySem.SeqAt
open AutoSeq1 (wpAny_loadPart')
open MeetsSeq MeetsSeq2 MeetsSeq3 SeqRoads2
theorem pE {M:Model}{A:Qe}{E:O7->O9->Prop}{s:O9}{β:Type}(f:Nat->β->Sem (ForInStep β))(I:List Nat->β->O9->Prop)(Q:β->O9->Prop)
 (turn: ∀x d b s,I (x::d) b s->Ps M A (f x b) (λr s'=>match r with| .yield e=>I d e s'| .done e=>Q e s') E s)
 (fin: ∀b s,I [] b s->Q b s) (a b:Nat) (c:β) (h:I (SW a (b-a)) c s):Ps M A (forIn [a:b] c f) Q E s:=by
 rw[Std.Legacy.Range.forIn_eq_forIn_range'];have hsz:([a:b]:Std.Legacy.Range).size=b-a:=by simp[Std.Legacy.Range.size]
 show Ps M A (forIn (SW a ([a:b]:Std.Legacy.Range).size 1) c f) Q E s;rw[hsz];exact Ut f I Q turn fin _ c h
theorem tuple_indexAt(l:Addr)(items:Array O7)(n:Nat)(dd:Option Addr)(sl:Array (Option O7))(x:O7)(e:O7->Bool)(j:Nat)(hj:j<items.size)(hit:e items[j]=true)(hno: ∀m (hm:m<items.size),m<j->e items[m]=false):
 Meets (Sw.«tuple.index» ⟨[.ref l,x],[]⟩)
  (λA R s=>s.heap.get? l=some {cls:=.type "tuple",dict:=dd,data:=.seq items n,slots:=sl}/\(∀y,y∈items->EqAt A.in1 s y x (e y))/\R (.ok (.ret (.int j s.toks))) {s with toks:=s.toks+1}):=
 .of_wp λprog w A R s h=>by
  obtain⟨hp,g,d,tk,os⟩:=s;obtain⟨hl,he,h⟩:=h
  wp_walk using SA hl,pE _ (λrest b s'=>b.1=none/\s'=⟨hp,g,d,tk,os⟩/\ ∃i,i<=j/\rest=SW i (items.size-i)) _
  case turn=>
   rintro y rest b s' ⟨hb,rfl,i,hij,hz⟩;have lt:i<items.size:=by lia
   have er:SW i (items.size-i)=i::SW (i+1) (items.size- (i+1)):=by
    rw[show items.size-i=(items.size- (i+1))+1 by lia];rfl
   rw[er] at hz;injection hz with e1 e2
   subst e1 e2;rw[show items[y]? =some items[y] by simp[lt]];refine O4 (he _ (X6 lt) prog w _ _ ?_)
   by_cases ej:y=j
   ·subst ej;rw[hit]
    wp_walk
    exact⟨_,rfl,h⟩
   ·rw[hno y lt (by lia)]
    wp_walk
    exact⟨rfl,rfl,y+1,by lia,rfl⟩
  case fin=>
   rintro⟨b1,b2⟩ s' ⟨hb,rfl,i,hij,hz⟩;have:=congrArg Sd hz;simp at this;lia
  case h=>
   exact⟨rfl,rfl,0,Q3 _,by simp⟩
end PySem.SeqAt
namespace L2
open PySem PySem.Spec PyProof.Rows
def rT(ds:List D)(x:D):Option Nat:=ds.findIdx? λd=>dg d x
theorem GH {X:Cx}(I:Inv X ah σ H s){A:Qe}(z:Rep X.K H v x)(E:bH v a): ∀ {ds:List D} {xs:List V} {b:List O7},Reps X.K H xs ds->bt xs b->A.units+cJ ds<Ra->
 ∃e:O7->Bool,(∀y,y∈b->Sn A s y a (e y))/\ ∀(j:Nat) (c:j<b.length) (d:D),ds[j]? =some d->e b[j]=dg d x:=by
 intro ds xs b r p L
 classical
 let e:O7->Bool:=λy=>if h: ∃(d:D) (u:V),bH u y/\Rep X.K H u d then dg h.choose x else false
 have k: ∀y u d,bH u y->Rep X.K H u d->e y=dg d x:=λy u d q o=>by
  have l: ∃(d:D) (u:V),bH u y/\Rep X.K H u d:=⟨d,u,q,o⟩
  show(if h: ∃(d:D) (u:V),bH u y/\Rep X.K H u d then dg h.choose x else false)=dg d x;rw[dif_pos l];obtain⟨G,B,s2⟩:=l.choose_spec;have J:G=u:=B.inj q;rw[J] at s2;exact Rep.eqv I s2 o x
 have N:=p.length;have M:=r.length;have m: ∀(j:Nat) (c:j<b.length),∃u d,ds[j]? =some d/\bH u b[j]/\Rep X.K H u d:=λj c=>by
  have n:xs[j]? =some xs[j]:=Pd (by lia);obtain⟨w,f,i⟩:=p.get n;obtain⟨d,t,g⟩:=r.get' n;have:b[j]=w:=by rw[Pd c] at f;exact Qi f
  rw[this];exact⟨_,d,t,i,g⟩
 refine⟨e,λy F=>?_,λj c d C=>?_⟩
 ·obtain⟨j,c,rfl⟩:=List.mem_iff_getElem.mp F;obtain⟨u,d,f,i,g⟩:=m j c;rw[k _ _ _ i g];have:=nK f;exact oW I (fz d+1) (QM _) (by lia) i E g z
 ·obtain⟨u,d',f,i,g⟩:=m j c;rw[C] at f;cases f;exact k _ _ _ i g
section
variable {X:Cx}{c:Ct}{e o:Expr}{k k2:Kd}{f g:FE}{pos p p2 apos:Pos}
theorem wX(T:X.A.units+64<Ra):M8 X "tuple.index" (λv vs H Q=> ∃a xs ds x y j,v=.ref a/\vs=[x]/\SqT X.K H a xs/\Reps X.K H xs ds/\Rep X.K H x y/\cJ ds<=32/\rT ds y=some j/\Q (.int j) H):=by
 intro W s σ H v vs u us Q I G rs h;obtain⟨a,xs,ds,x,y,j,rfl,rfl,J,t,O,U,l,q⟩:=h;cases G;obtain⟨w,rfl,i⟩:=iW rs;obtain⟨b,r,S,Z⟩:=I.tuple J;have Y:=r.length;have V:=t.length;obtain⟨e,P,L⟩:=GH (A:=X.A.in1.in1) I O i t r (by rw[eP,eP];lia);unfold rT at l;rw[List.findIdx?_eq_some_iff_getElem] at l;obtain⟨M,R,g⟩:=l;obtain⟨⟨cls,N,data,E⟩,C,D,n,B⟩:=id S;simp only at D B;subst D B;have d:j<b.length:=by lia
 have p: ∀m (f:m<b.length) (c:m<ds.length),e b[m]=dg ds[m] y:=λm f c=>L m f _ (Pd c)
 refine Zv VF ⟨_,C,rfl⟩ PySem.F.entry_tuple_index (PySem.F.args_tuple_index_2 _ _) (SeqAt.tuple_indexAt a b.toArray n N E w e j (by simpa using d) ?_ ?_) ⟨C,?_,?_⟩
 ·simp only[WP];rw[p j d M];exact R
 ·intro m f o;simp only[WP];rw[p m (by simpa using f) (by lia)];have:=g m o;simpa using this
 ·intro z k;exact SeqAt.EqAt.of_in1 (P z (by simpa using k))
 ·exact⟨.int j,H,I.tok _,⟨_,rfl⟩,q⟩
end
section
variable {X:Cx}{c:Ct}{e o:Expr}{k k2:Kd}{f g:FE}{pos p p2 apos:Pos}
def o7:D->D->Option D:=λt x=>match t with
 | .tup ds=>if cJ ds<=32 then(rT ds x).map λj=>.int j else none
 |_=>none
theorem wb(J:X.A.units+64<Ra)(L:DP X c k o f)(N:DP X c k2 e g)
 (m:UC o "index" X.env (eval o X.env)=eval o X.env:=by rfl)
 (p:((RL pos (Pv [e] X.env)).all (λx=> !x.1)&&(X2 pos (Vs [] X.env)).all (λx=>x.1.isSome)
   &&decide (([e]:List Expr).length+([]:List UW).length+(if([]:List UW).isEmpty then 0 else 1)<30))=true:=by rfl)
 (l:(apos.endLine==pos.line)=true:=by rfl) (B:Pv [e] X.env=(false,eval e X.env)::Pv [] X.env:=by rfl) (h:(RL pos (Pv [] X.env)).any (·.1)=false:=by rfl):
 DP X c .s (.Call (.Attribute o "index" apos) [e] [] pos) (av o7 f g):=λhid ρ=>
 PE.imp (AO PySem.F.plainAttrs_tuple VF PySem.F.type_tuple_index (wX J) (L hid ρ) (c8 (N hid ρ) fV B) m p l B h) λσ H Q w=>by
  obtain⟨r,d,K,q⟩:=w;obtain⟨x,y,O,E,i⟩:=wW K;unfold o7 at i;split at i
  ·split at i
   ·rename_i ds _
    cases e4:rT ds y with
    |none=>rw[e4] at i;cases i
    |some j=>
     rw[e4] at i;cases i;refine⟨r,_,O,λv R t M=>?_⟩;have D:=RK.b k M λa n=>r.fresh n
     obtain⟨a,xs,rfl,S,z,C⟩:=D.tup;refine⟨.inr (.inl ⟨rfl,xs,z⟩),r.ext t,y,E,λu I s2 G=>?_⟩;have P:=RK.b k2 G λa n=>(r.ext t).fresh n
     exact⟨a,xs,ds,u,y,j,rfl,rfl,am.seqT s2 z,(C.mono (aX s2)).mono (dq _ _),P.full, ‹_›,e4,q _ I (t.trans s2) .int⟩
   ·cases i
  ·cases i
theorem BS:dI X (.type "range") (λxs H Q=> ∃j:Int,xs=[.int j]/\ ∀p,H p=none->Q (.ref p) (bY H p (.rng 0 j))):=by
 intro a s σ H xs us Q I r h;obtain⟨j,rfl,q⟩:=h;obtain⟨u,rfl,t,rfl⟩:=iW r;refine call_range_1 ⟨.ref s.heap.objs.size,_,I.laid (λb o e=>Pa _ e) (Ph _) ?_,rfl,q _ (I.hok.fresh (Ph _))⟩;exact⟨_,_,_,Pl _ rfl⟩
theorem LP(b:Int)(n:Nat): ∀ {K:Pk} {F:Hp},Reps K F ((O5 n).map λ(i:Nat)=>V.int (b+i)) (vz b n):=by
 intro K F;unfold vz;generalize O5 n=l
 induction l with
 |nil=>exact .nil
 |cons a l c=>exact .cons .int c
theorem rR(D:X.calm=true):dI X (.type "list") (λxs H Q=> ∃p d f,xs=[.ref p]/\H p=some (.rng d f)/\ -(2^30)<=d/\d<=2^30/\ -(2^30)<=f/\f-d<=1000000/\f<=2^31/\ ∀l,H l=none->Q (.ref l) (bY H l (.lst ((O5 (f-d).toNat).map λ(i:Nat)=>V.int (d+i))))):=by
 intro S s σ H xs us Q I r h;obtain⟨p,d,f,rfl,L,N,T,O,R,P,q⟩:=h;obtain⟨u,rfl,F⟩:=iW r;cases F;obtain⟨t,u,v,K⟩:=I.hok p _ L;have hsz:TV d f 1=(f-d).toNat:=by
  unfold TV;rw[if_pos (by decide)];split
  ·rw[Int.ediv_one];lia
  ·lia
 refine call_list_range (a:=d) (b:=f) (c:=1) (n:=(f-d).toNat) (I.ok.hd D) K ?_ hsz (by lia) λh' tk g B E A o=>?_
 ·exact small_one (by lia) (by lia) (by lia) (by lia)
 ·have M:(f-d).toNat<=sizeLine:=by rw[QU];lia
  refine⟨.ref s.heap.objs.size,_,I.laid (t':=tk) E (Ph _) (show ci X.prog X.w _ h' _ (.lst _) from⟨by simpa using M,g.toList,B,?_,by simpa using A⟩),rfl,q _ (I.hok.fresh (Ph _))⟩;obtain⟨C,G⟩:=o;have y: ∀(l:List O7) (k m:Nat),l.length=m->(∀(j:Nat) v,l[j]? =some v-> ∃t,v=.int (d+((k+j:Nat):Int)*1) t)->bt ((SW k m).map λ(i:Nat)=>V.int (d+i)) l:=by
   intro l
   induction l with
   |nil=>intro k m z _;subst z;exact .nil
   |cons x l J=>
    intro k m z hv;subst z;rw[PL,VV];refine .cons ?_ (J (k+1) l.length rfl λj v e=>?_)
    ·obtain⟨t,rfl⟩:=hv 0 x rfl;exact⟨t,by simp⟩
    ·obtain⟨t,rfl⟩:=hv (j+1) v (by simpa using e);exact⟨t,by congr 3;lia⟩
  have:=y g.toList 0 (f-d).toNat (by simpa using C) λj v e=>by
   have:=G j v (by simpa using e);simpa using this
  rw[UG];exact this
def Id:D->Option D
 | .int j=>if j.natAbs<=1000000 then some (.lst (vz 0 j.toNat)) else none
 |_=>none
def HS(f:FE):FE:=λρ=>(f ρ).bind Id
theorem lq(I:X.calm=true)(t:X.mg "list"=none)(B:X.mg "range"=none)(L:DP X c k e f)(u:Gl X "list":=by rfl)(s:Gl X "range":=by rfl)(x:Q7 "list"=some (.type "list"):=by kernel_rfl)(A:Q7 "range"=some (.type "range"):=by kernel_rfl)
 (m:Pv [e] X.env=(false,eval e X.env)::Pv [] X.env:=by rfl) (o:(RL pos (Pv [] X.env)).any (·.1)=false:=by rfl) (i:(RL p2 (Pv [] X.env)).any (·.1)=false:=by rfl) {y:Pos}
 (h:Pv [.Call (.Name "range" y) [e] [] p2] X.env=(false,eval (.Call (.Name "range" y) [e] [] p2) X.env)::Pv [] X.env:=by rfl):
 DP X c .n (.Call (.Name "list" p) [.Call (.Name "range" y) [e] [] p2] [] pos) (HS f):=λhid ρ=>
 PE.imp (gu (rR I) u t x (c8 (gu BS s B A (c8 (L hid ρ) fV m) (by decide) (by decide) m i) fV h) (by decide) (by decide) h o) λσ H Q w=>by
  obtain⟨D,d,g,q⟩:=w;unfold HS at g;cases e1:f ρ with
  |none=>rw[e1] at g;cases g
  |some z=>
   rw[e1] at g;have g:Id z=some d:=g;unfold Id at g;split at g
   ·split at g
    ·rename_i _ j _ _
     cases g;refine⟨D,_,e1,λv F G J=>?_⟩;have E:=(RK.b k J λa n=>D.fresh n).int;cases E;refine⟨j,rfl,λr M=>?_⟩;refine⟨r,0,j,rfl,aT,by lia,by lia,by lia,by lia,by lia,λl C=>?_⟩;have s2:am H (bY F r (.rng 0 j)):=G.trans (aR M _);refine q _ _ (s2.trans (aR C _)) ?_
     have:=fZ (hid:=hid) (K:=X.K) C s2 (LP 0 (j-0).toNat);rw[show(j-0).toNat=j.toNat by lia] at this⊢;exact this
    ·cases g
   ·cases g
def bS:=i2 (λ_ _=>true) λi j=>.int (i+j)
def gR:=i2 (λ_ _=>true) λi j=>.int (i-j)
def eC:=i2 (λi j=>decide (i.natAbs<2^1000)&&decide (j.natAbs<2^1000)) λi j=>.int (i*j)
def cv:=i2 (λ_ j=>decide (0<j)) λi j=>.int (i % j)
def mM:=i2 (λ_ j=>decide (0<j)&&decide (j.natAbs<2^1000)) λi j=>.int (i / j)
def fm:=i2 (λi j=>decide (0<=j)&&decide (j<=1000000)&&decide (i.natAbs<2^64)) λi j=>.int (i^j.toNat)
def CQ:=i2 (λ_ _=>true) λi j=>.bl (decide (i<j))
def Li:=i2 (λ_ _=>true) λi j=>.bl (decide (i<=j))
def M5:=i2 (λ_ _=>true) λi j=>.bl (decide (j<=i))
theorem AV {i:Int}(h:i.natAbs<2^1000):Xb i<=2^20:=by
 unfold Xb;split
 ·exact Q3 _
 ·rename_i b
  have a:i.natAbs≠0:=by simp at b;lia
  have:=(Nat.log2_lt a).mpr h;lia
theorem Hh:lu X (Tx .Mult) (rI IntMulOk λi j=>.int (i*j)):=MY λ_ _ _ _ _ _ _ a q=>mul_int q a
variable {a b:Expr}
theorem cE {d i:Kd}(h:DP X c d a f)(e:DP X c i b g):DP X c .s (.BinOp a .Add b pos) (av bS f g):=qR Jk IV h e
theorem jy {d i:Kd}(h:DP X c d a f)(e:DP X c i b g):DP X c .s (.BinOp a .Sub b pos) (av gR f g):=qR JA IV h e
theorem Km {K:Pk}:ph K .s (rI IntMulOk λi j=>.int (i*j)) eC:=G8 λi j h=>by
 simp only[Pi,lL] at h;exact IntMulOk.of_bits (AV h.1) (AV h.2)
theorem kq {d i:Kd}(h:DP X c d a f)(e:DP X c i b g):DP X c .s (.BinOp a .Mult b pos) (av eC f g):=qR Hh Km h e
theorem JP {K:Pk}:ph K .s (rI (λ_ j=>0<j) λi j=>.int (i % j)) cv:=G8 λi j h=>by simpa using h
theorem gH {d i:Kd}(h:DP X c d a f)(e:DP X c i b g):DP X c .s (.BinOp a .Mod b pos) (av cv f g):=qR JF JP h e
theorem Ew:lu X (Tx .FloorDiv) (rI (λ_ j=>0<j/\j.natAbs<2^1000) λi j=>.int (i / j)):=MY λi j _ _ _ _ _ b q=>by
 obtain⟨c,a⟩:=b;refine floordiv_int (by lia) (by rw[Int.fdiv_eq_ediv_of_nonneg i (by lia)];exact q) (.inl (PyProof.noPylong_of_log2 ?_));have:=(Nat.log2_lt (n:=j.natAbs) (by lia)).mpr a;lia
theorem Ge {K:Pk}:ph K .s (rI (λ_ j=>0<j/\j.natAbs<2^1000) λi j=>.int (i / j)) mM:=G8 λi j h=>by
 simp only[Pi,lL] at h;exact⟨h.1,h.2⟩
theorem zU {d i:Kd}(h:DP X c d a f)(e:DP X c i b g):DP X c .s (.BinOp a .FloorDiv b pos) (av mM f g):=qR Ew Ge h e
theorem Ju {K:Pk}:ph K .s (rI MD λi j=>.int (i^j.toNat)) fm:=G8 λi j h=>by
 simp only[Pi,lL] at h;exact⟨h.1.1,h.1.2,h.2⟩
theorem nZ {d i:Kd}(h:DP X c d a f)(e:DP X c i b g):DP X c .s (.BinOp a .Pow b pos) (av fm f g):=qR JZ Ju h e
def Jn:D->Option D
 | .int i=>some (.int (-i))
 |_=>none
def lg(f:FE):FE:=λρ=>(f ρ).bind Jn
theorem nH(l:DP X c k a f):DP X c .s (.UnaryOp .USub a pos) (lg f):=λhid ρ=>PE.imp (Me Kr (l hid ρ)) λσ H Q g=>by
 obtain⟨h,d,e,q⟩:=g;unfold lg at e;cases e1:f ρ with
 |none=>rw[e1] at e;cases e
 |some z=>
  rw[e1] at e;have e:Jn z=some d:=e;unfold Jn at e;split at e
  ·cases e;refine⟨h,_,e1,λv i j m=>?_⟩;cases (RK.b k m λa n=>h.fresh n).int;exact⟨_,rfl,q _ i j .int⟩
  ·cases e
end
structure Cl(P:Qc)(w:Qv)(K:Pk)(mg:Str->Option O7)(base:Heap)(k:Nat)(x:Str)(ps:List Str)(sp:Sp):Prop where
 ex: ∃f fd,gt P w K mg base vA k f fd ps sp/\mg x=some (.ref f)/\Va K (.ref f)=true/\ia K fd ps []
structure Df(K:Pk)(mg:Str->Option O7)(x:Str)(st:Stmt)(ps:List Str):Prop where
 ex: ∃f fd,Fun K x x st f fd/\mg x=some (.ref f)/\ia K fd ps []
section
variable {P:Qc}{w:Qv}{K:Pk}{mg:Str->Option O7}{base:Heap}{x:Str}{st:Stmt}{N ps:List Str}{k n:Nat}{t:FS}{kd:Kd}
theorem aV(F:Df K mg x st ps)(S:bm N ps (ay st))(e:kd≠ .b)(i:ps.length=n)
 (c: ∀(f:Addr) (d:O7) (A:Qe) (a:List Env) (s:O9) (H:Hp) (hid:bM) (E:XK),dl k (A.deeper (UJ x (ay st) s.heap.objs.size f d))->
   xU (r9 vA P w K mg base N x (ay st) f d A a s H E).nox ⟨H,hid,λ_=>false⟩ kd (dE st) t):
 Cl P w K mg base (k+1) x ps (cr K kd n (eZ kd N.length t)):=by
 obtain⟨f,g,F,j,h⟩:=F.ex;subst i;exact⟨f,g,Bk F S e (c f),j,F.kp,h⟩
theorem ve(F:Df K mg x st ps)(S:bm N ps (ay st))(g:kd≠ .b)(j:ps.length=n+1)
 (d: ∀(f:Addr) (e:O7) (A:Qe) (c:List Env) (s:O9) (H:Hp) (hid:bM) (a:Addr) (E:XK),dl k (A.deeper (UJ x (ay st) s.heap.objs.size f e))->
   xU (r9 vA P w K mg base N x (ay st) f e A c s H E).nox ⟨H,hid,λb=>decide (b=a)⟩ kd (dE st) t):
 Cl P w K mg base (k+1) x ps (vt K kd n (zf kd N.length t)):=by
 obtain⟨f,h,F,l,i⟩:=F.ex;exact⟨f,h,KO F S g j (d f),l,F.kp,i⟩
end
section
variable {X:Cx}{c:Ct}{e a b:Expr}{es rest:List Expr}{k:Kd}{pos p:Pos}{x:Str}{ps:List Str}{j n:Nat}
def nF(n:Nat)(P:List D->Option D):List D->Option D:=λds=>if ds.length=n then P ds else none
theorem aN(C:Cl X.prog X.w X.K X.mg X.base j x ps (cr X.K k n P))(m:dl j X.A)
 (l:DA X c (e::es) fs) (g:Gl X x:=by rfl) (b:(x==("__debug__":Str))=false:=by decide) (i:Pv (e::es) X.env=(false,eval e X.env)::Pv es X.env:=by rfl) (a:(RL pos (Pv es X.env)).any (·.1)=false:=by rfl):
 DP X c k (.Call (.Name x p) (e::es) [] pos) (ak (nF n P) fs):=by
 obtain⟨f,q,F,o,d,h⟩:=C.ex;exact Hu F m o d h l g b i a
theorem jN(i:Nat)(C:Cl X.prog X.w X.K X.mg X.base j x ps (vt X.K k n M))(s:dl j X.A)
 (r:DG X c es fs) (e:k≠ .b:=by decide) (l:X.N[i]? =some y:=by rfl) (hv:wk X.env.scope y:=by first|exact Ro rfl|exact QQ (Ro rfl)|exact QQ (QQ rfl)) (q:(y==("__debug__":Str))=false:=by decide)
 (d:(y==("__classdict__":Str))=false:=by decide) (t:Pv (.Name y py::es) X.env=(false,eval (.Name y py) X.env)::Pv es X.env:=by rfl) (h:Gl X x:=by rfl) (g:(x==("__debug__":Str))=false:=by decide) (a:(RL pos (Pv es X.env)).any (·.1)=false:=by rfl):
 DE X c k (.Call (.Name x p) (.Name y py::es) [] pos) (aK i n M fs):=by
 obtain⟨f,v,F,u,m,o⟩:=C.ex;exact D3 i F s u m o r e l hv q d t h g a
end
open PySem PySem.W PyProof.Rows
structure Od(b:Nat->Nat->Bool):Prop where
 tr: ∀ {i j k:Nat},b j i=false->b k j=false->b k i=false
 as: ∀ {i j:Nat},b i j=true->b j i=false
theorem Od.rf(O:Od b)(i:Nat):b i i=false:=by
 cases h:b i i with
 |false=>rfl
 |true=>have:=O.as h;rw[h] at this;exact this
structure Pm(N:Nat)(p:Array Nat):Prop where
 perm:p.Perm (Rv (O5 N))
theorem Pm.size {N:Nat}{p:Array Nat}(h:Pm N p):p.size=N:=by rw[h.perm.size_eq];simp
theorem Pm.lt {N:Nat}{p:Array Nat}(h:Pm N p)(b:0<N)(k:Nat):p.getD k 0<N:=by
 by_cases a:k<p.size
 ·have e:p.getD k 0=p[k]:=by simp[SX,a]
  rw[e];have:p[k]∈(Rv (O5 N)):=h.perm.mem_iff.mp (X6 a);simpa using this
 ·have e:p.getD k 0=0:=by simp[SX,a]
  rw[e];exact b
theorem wM {p q:Array Nat}(h:p[i]? =q[j]?):p.getD i 0=q.getD j 0:=by
 rw[UY,UY,h]
section
variable {b:Nat->Nat->Bool}{N:Nat}{cmp:Nat->Nat->(Bool->O9->Prop)->O9->Prop}{s:O9}
def Srt(b:Nat->Nat->Bool)(p:Array Nat)(n:Nat):Prop:= ∀i j,i<=j->j<n->b (p.getD j 0) (p.getD i 0)=false
def Fal(b:Nat->Nat->Bool)(p:Array Nat)(n:Nat):Prop:= ∀i j,i<=j->j<n->b (p.getD i 0) (p.getD j 0)=false
theorem Srt.succ(O:Od b){p:Array Nat}(h:Srt b p n)(g:1<=n)(e:b (p.getD n 0) (p.getD (n-1) 0)=false):Srt b p (n+1):=λi j a f=>by
 by_cases c:j<n
 ·exact h i j a c
 ·have:j=n:=by lia
  subst this
  by_cases d:i=j
  ·subst d;exact O.rf _
  ·exact O.tr (h i (j-1) (by lia) (by lia)) e
theorem Fal.succ(O:Od b){p:Array Nat}(h:Fal b p n)(g:1<=n)(e:b (p.getD (n-1) 0) (p.getD n 0)=false):Fal b p (n+1):=λi j a f=>by
 by_cases c:j<n
 ·exact h i j a c
 ·have:j=n:=by lia
  subst this
  by_cases d:i=j
  ·subst d;exact O.rf _
  ·exact O.tr e (h i (j-1) (by lia) (by lia))
theorem Fal.congr(O:Od b){p q:Array Nat}(h:Fal b p n)(e: ∀k,k<n->b (p.getD k 0) (q.getD k 0)=false/\b (q.getD k 0) (p.getD k 0)=false):Fal b q n:=λi j a c=>
 O.tr (O.tr (e j c).1 (h i j a c)) (e i (by lia)).2
theorem GJ(O:Od b)(p:Array Nat):Srt b p 1:=λi j a c=>by
 have:i=j:=by lia
 subst this;exact O.rf _
theorem Gn(O:Od b)(p:Array Nat):Fal b p 1:=λi j a c=>by
 have:i=j:=by lia
 subst this;exact O.rf _
theorem nX {p:Array Nat}(a:j<=p.size)(k:Nat):(UZ p i j).getD k 0=if i<=k/\k<j then p.getD (i+j-1-k) 0 else p.getD k 0:=by
 have:=getElem?_mirror_all (i:=i) a k;unfold UZ;split
 ·rename_i h;rw[if_pos h] at this;exact wM this
 ·rename_i h;rw[if_neg h] at this;exact wM this
theorem Pm.rev(h:Pm N p)(i j:Nat):Pm N (UZ p i j):=⟨(mirror_perm _ _ _ _).trans h.perm⟩
variable(O:Od b)(hN:0<N)(hc: ∀(i j:Nat) (C:Bool->O9->Prop),i<N->j<N->C (b i j) s->cmp i j C s)
include O hN hc
theorem yx {p:Array Nat}(P:Pm N p): ∀(f n:Nat),1<=n->n+f<=N->Srt b p n->
 (∀m,n<=m->m<=n+f->Srt b p m->(m<n+f->b (p.getD m 0) (p.getD (m-1) 0)=true)->Q m s)->(kas_asc p f n).kasWp cmp Q s
 |0,n,c,g,a,q=>q n (Ph _) (Ph _) a λz=>absurd z (SG _)
 |f+1,n,c,g,a,q=>by
  unfold kas_asc;refine hc _ _ _ (P.lt hN _) (P.lt hN _) ?_
  cases e:b (p.getD n 0) (p.getD (n-1) 0) with
  |true=>simp only[if_true];exact q n (Ph _) (by lia) a λ_=>e
  |false=>
   simp only[Po,if_false];exact yx P f (n+1) (by lia) (by lia) (a.succ O c e) λm j i d h=>q m (by lia) (by lia) d λz=>h (by lia)
def Eqs(b:Nat->Nat->Bool)(p:Array Nat)(n q:Nat):Prop:= ∀i,n- (q+1)<=i->i<n->b (p.getD i 0) (p.getD (n-1) 0)=false/\b (p.getD (n-1) 0) (p.getD i 0)=false
omit hN hc in
theorem Eqs.rev {p:Array Nat}(e:n<=p.size)(f:q<n)(h:Eqs b p n q)(k:Nat):b (p.getD k 0) ((UZ p (n- (q+1)) n).getD k 0)=false/\b ((UZ p (n- (q+1)) n).getD k 0) (p.getD k 0)=false:=by
 rw[nX e];split
 ·rename_i c
  have a:=h k c.1 c.2;have d:=h (n- (q+1)+n-1-k) (by lia) (by lia);exact⟨O.tr d.2 a.1,O.tr a.2 d.1⟩
 ·exact⟨O.rf _,O.rf _⟩
theorem pW: ∀(f:Nat) (p:Array Nat) (n q:Nat),Pm N p->1<=n->n+f<=N->q<n->Fal b p n->Eqs b p n q->
 (∀a c d,Pm N a->n<=c->c<=n+f->d<c->Fal b a c->Eqs b a c d->Q (a,c,d) s)->(kas_desc f p n q).kasWp cmp Q s
 |0,p,n,q,P,l,y,m,g,j,k=>k p n q P (Ph _) (Ph _) m g j
 |f+1,p,n,q,P,l,y,m,g,j,k=>by
  have D:=P.size;have u: ∀a:Array Nat,Eqs b a (n+1) 0:=λa i h o=>by
   have:i=n:=by lia
   subst this;exact⟨O.rf _,O.rf _⟩
  unfold kas_desc;refine hc _ _ _ (P.lt hN _) (P.lt hN _) ?_
  cases e:b (p.getD n 0) (p.getD (n-1) 0) with
  |true=>
   simp only[if_true];split
   ·rename_i x
    have t:=j.rev O (by lia) m;have r:Fal b (UZ p (n- (q+1)) n) n:=g.congr O λk _=>t k
    refine pW f _ (n+1) 0 (P.rev _ _) (by lia) (by lia) (by lia) (r.succ O l ?_) (u _) λa c d h o v=>k a c d h (by lia) (by lia)
    have B:(UZ p (n- (q+1)) n).getD n 0=p.getD n 0:=by rw[nX (by lia),if_neg (by lia)]
    rw[B];exact O.tr (O.as e) (t (n-1)).2
   ·exact pW f p (n+1) 0 P (by lia) (by lia) (by lia) (g.succ O l (O.as e)) (u _) λa c d h o v=>k a c d h (by lia) (by lia)
  |false=>
   simp only[Po,if_false];refine hc _ _ _ (P.lt hN _) (P.lt hN _) ?_
   cases e2:b (p.getD (n-1) 0) (p.getD n 0) with
   |true=>simp only[if_true];exact k p n q P (Ph _) (by lia) m g j
   |false=>
    simp only[Po,if_false];refine pW f p (n+1) (q+1) P (by lia) (by lia) (by lia) (g.succ O l e2) (λi h o=>?_) λa c d w E C=>k a c d w (by lia) (by lia)
    rw[show n+1-1=n by lia]
    by_cases A:i=n
    ·subst A;exact⟨O.rf _,O.rf _⟩
    ·have z:=j i (by lia) (by lia);exact⟨O.tr e2 z.1,O.tr z.2 e⟩
theorem xy(P:Pm N p)(c:1<=n)(o:n<=N)(g:Fal b p n)(q: ∀m a,Pm N a->1<=m->m<=N->Srt b a m->Q (m,a) s):(kas_tail3 n N p).kasWp cmp Q s:=by
 unfold kas_tail3;rw[TD];have r:=P.size;have f:Srt b (UZ p 0 n) n:=λi j e h=>by
  rw[nX (by lia),nX (by lia),if_pos (by lia),if_pos (by lia)];exact g _ _ (by lia) (by lia)
 exact yx O hN hc (P.rev _ _) (N-n) n c (by lia) f λm l k d _=>q m _ (P.rev _ _) (by lia) (by lia) d
theorem o9(P:Pm N p)(j:1<=n)(t:n+1<=N)(h:Fal b p (n+1))(q: ∀m c,Pm N c->1<=m->m<=N->Srt b c m->Q (m,c) s):(kas_descPart n N p).kasWp cmp Q s:=by
 unfold kas_descPart;rw[TD];refine pW O hN hc (N- (n+1)) p (n+1) 0 P (by lia) (by lia) (by lia) h (λi a e=>?_) λc u r a e l g d f=>?_
 ·have:i=n:=by lia
  subst this;exact⟨O.rf _,O.rf _⟩
 ·dsimp only;have o:=a.size;split
  ·exact xy O hN hc (a.rev _ _) (by lia) (by lia) (d.congr O λk _=>f.rev O (by lia) g k) q
  ·exact xy O hN hc a (by lia) (by lia) d q
theorem Ft(P:Pm N p)(q: ∀m f,Pm N f->1<=m->m<=N->Srt b f m->Q (m,f) s):(kas_count N p).kasWp cmp Q s:=by
 unfold kas_count;rw[TD];have v:=P.size;refine yx O hN hc P (N-1) 1 (Ph _) (by lia) (GJ O p) λm c u a r=>?_
 split
 ·exact q m p P c (by lia) a
 ·rename_i n
  have l:m≠N:=by simpa using n
  have lt:=r (by lia);split
  ·refine hc _ _ _ (P.lt hN _) (P.lt hN _) ?_
   cases e:b (p.getD 0 0) (p.getD (m-1) 0) with
   |true=>simp only[if_true];exact q m p P c (by lia) a
   |false=>
    simp only[Po,if_false];have h: ∀i j,i<m->j<m->b (p.getD i 0) (p.getD j 0)=false:=λi j k g=>O.tr (O.tr (a j (m-1) (by lia) (by lia)) e) (a 0 i (by lia) k)
    have d: ∀i,i<m->(UZ p 0 m).getD i 0=p.getD (0+m-1-i) 0:=λi k=>by rw[nX (by lia),if_pos (by lia)]
    refine o9 O hN hc (P.rev _ _) c (by lia) (Fal.succ O (λi j o g=>?_) c ?_) q
    ·rw[d i (by lia),d j g];exact h _ _ (by lia) (by lia)
    ·have t:(UZ p 0 m).getD m 0=p.getD m 0:=by rw[nX (by lia),if_neg (by lia)]
     rw[t,d (m-1) (by lia)];exact O.tr (O.as lt) (h _ _ (by lia) (by lia))
  ·have:m=1:=by lia
   subst this;exact o9 O hN hc P (Ph _) (by lia) ((Gn O p).succ O (Ph _) (O.as lt)) q
theorem pY {p:Array Nat}(P:Pm N p)(d:Srt b p k): ∀(f l r:Nat),l<=r->r<=k->r-l<=f->(∀i,i<l->b (p.getD k 0) (p.getD i 0)=false)->(∀i,r<=i->i<k->b (p.getD k 0) (p.getD i 0)=true)->
 (∀m,m<=k->(∀i,i<m->b (p.getD k 0) (p.getD i 0)=false)->(∀i,m<=i->i<k->b (p.getD k 0) (p.getD i 0)=true)->Q m s)->(kas_place p k f l r).kasWp cmp Q s
 |0,l,r,j,g,o,a,c,q=>q l (by lia) a λi z=>c i (by lia)
 |f+1,l,r,j,g,o,a,c,q=>by
  unfold kas_place;split
  ·exact q l (by lia) a λi z=>c i (by lia)
  ·rename_i n
   refine hc _ _ _ (P.lt hN _) (P.lt hN _) ?_
   cases e:b (p.getD k 0) (p.getD ((l+r) / 2) 0) with
   |true=>
    simp only[if_true];refine pY P d f l _ (by lia) (by lia) (by lia) a (λi t h=>?_) q;cases e2:b (p.getD k 0) (p.getD i 0) with
    |true=>rfl
    |false=>
     have:=O.tr (d ((l+r) / 2) i t h) e2;rw[e] at this;exact this.symm
   |false=>
    simp only[Po,if_false];exact pY P d f _ r (by lia) (by lia) (by lia) (λi z=>O.tr (d i ((l+r) / 2) (by lia) (by lia)) e) c q
omit hN hc in
theorem yR {p:Array Nat}{k m:Nat}(r:k<p.size)(l:Srt b p k)(s:m<=k)(a: ∀i,i<m->b (p.getD k 0) (p.getD i 0)=false)(c: ∀i,m<=i->i<k->b (p.getD k 0) (p.getD i 0)=true):Srt b (bubble p k (k-m)) (k+1):=by
 have g: ∀j,(bubble p k (k-m)).getD j 0=if j=m then p.getD k 0 else if m<j/\j<=k then p.getD (j-1) 0 else p.getD j 0:=λj=>by
  have:=getElem?_bubble r (k-m) (by lia) j;rw[show k- (k-m)=m by lia] at this
  by_cases h:j=m
  ·rw[if_pos h] at this⊢;exact wM this
  ·rw[if_neg h] at this⊢
   by_cases o:m<j/\j<=k
   ·rw[if_pos o] at this⊢;exact wM this
   ·rw[if_neg o] at this⊢;exact wM this
 intro i j n t;rw[g,g]
 by_cases q:j=m
 ·rw[if_pos q]
  by_cases e:i=m
  ·rw[if_pos e];exact O.rf _
  ·rw[if_neg e,if_neg (by lia)];exact a i (by lia)
 ·rw[if_neg q]
  by_cases e:i=m
  ·rw[if_pos e,if_pos (by lia)];exact O.as (c _ (by lia) (by lia))
  ·rw[if_neg e]
   by_cases d:m<j/\j<=k
   ·rw[if_pos d]
    by_cases f:m<i/\i<=k
    ·rw[if_pos f];exact l _ _ (by lia) (by lia)
    ·rw[if_neg f];exact l _ _ (by lia) (by lia)
   ·rw[if_neg d,if_neg (by lia)];exact l _ _ n (by lia)
theorem EL: ∀(f:Nat) (p:Array Nat) (k:Nat),Pm N p->1<=k->k+f=N->Srt b p k->(∀c,Pm N c->Srt b c N->Q c s)->(kas_bin f p k).kasWp cmp Q s
 |0,p,k,P,e,d,a,q=>q p P (by rw[<-d];exact a)
 |f+1,p,k,P,e,d,a,q=>by
  unfold kas_bin;rw[TD];have n:=P.size;refine pY O hN hc P a k 0 k (Q3 _) (Ph _) (by lia) (λi z=>absurd z (by lia)) (λi o j=>absurd j (by lia)) λm l h g=>?_
  exact EL f _ (k+1) ⟨(bubble_perm _ _ _).trans P.perm⟩ (by lia) (by lia) (yR O (by lia) a l h g) q
theorem up(q: ∀p,Pm N p->Srt b p N->Q p s):(X7 N).kasWp cmp Q s:=by
 unfold X7;rw[TD];refine Ft O hN hc ⟨Array.Perm.refl _⟩ λm c P d e a=>?_
 dsimp only;split
 ·exact EL O hN hc _ c _ P (by lia) (by lia) (by rw[show max m 1=m by lia];exact a) q
 ·have:m=N:=by lia
  subst this;exact q c P a
end
open PySem PySem.W PySem.Calls PyProof.Rows
section
variable {prog:Qc}{w:Qv}{A:Qe}{E:O7->O9->Prop}{s:O9}
theorem rd{us:List O7}{P:PySem.Fin->O9->Prop}(k:s.heap.get? a=some (Td "list" us.toArray n))(I:us.length<64)
 (l:us.length<2->P (.done (.ret .none)) {s with heap:=Uv s.heap a us us.toArray})
 (h:2<=us.length-> ∀g:Heap,(∀c o,c≠a->s.heap.get? c=some o->g.get? c=some o)->Ps (model prog w) A (keyKind' us.toArray) (λκ t=>t={s with heap:=g}/\
   (X7 us.length).kasWp (X8 prog w A κ us) (λp t'=>t'=t/\P (.done (.ret .none)) {s with heap:=Uv s.heap a us (Rv (p.toList.map λi=>us.getD i Qk))}) t) (λ_ _=>False) {s with heap:=g}):
 Ps (model prog w) A (Sw.«list.sort» ⟨[.ref a],[]⟩) P E s:=by
 have T:a<s.heap.objs.size:=Pp k;have v:us.toArray.size<=sizeLine:=by rw[PK,QU];lia
 obtain⟨D,q⟩: ∃c,(s.heap.update a (Sm λ_=> #[])).get? a=some (Td "list" #[] c):=⟨_,get?_update_seq k (λ_=> #[])⟩
 have j:(((s.heap.update a (Sm λ_=> #[])).push (Td "tuple" us.toArray 0)).push (Td "list" #[] 0)).get? a=some (Td "list" #[] D):=Pa _ (Pa _ q);have M: ∀c o,c≠a->s.heap.get? c=some o->(((s.heap.update a (Sm λ_=> #[])).push (Td "tuple" us.toArray 0)).push (Td "list" #[] 0)).get? c=some o:=λc o F e=>
  Pa _ (Pa _ (by rw[Heap.get?_update_ne _ _ _ _ F];exact e))
 rw[list_sort_plain];refine O4 (listItems_at k rfl (O4 (Xt k rfl ?_ v (Q3 _))));refine O4 (YM q rfl (O4 (ZC ?_ (show us.length<=_ by rw[QU];lia))));refine O4 (Xu (Qh ?_) (Q3 _));show Ps (model prog w) A _ P E {s with heap:=((s.heap.update a (Sm λ_=> #[])).push (Td "tuple" us.toArray 0)).push (Td "list" #[] 0)};dsimp only
 by_cases b:us.toArray.size<2
 ·rw[if_pos b,if_pos b];refine O4 (O8 ?_);rw[StateT.run_pure];refine O4 (O8 ?_);dsimp only;have m:jaD (λx=>x.2) (us.toArray.zip us.toArray)=us.toArray:=by
   apply Array.toList_inj.mp;simp[List.map_snd_zip]
  refine O4 (YM j rfl (O4 (Xt j rfl ?_ (Q3 _) ?_)))
  ·simp only[bne_self_eq_false,Po,if_false];refine O8 ?_
   have:=l (by simpa using b);show P _ {s with heap:=Uv s.heap a us (jaD (λx=>x.2) (us.toArray.zip us.toArray))};rw[m];exact this
  ·show(jaD (λx=>x.2) (us.toArray.zip us.toArray)).size<=_;rw[m];exact Vu v
 ·rw[if_neg b,if_neg b];have f:2<=us.length:=by simpa using b
  refine O4 (Qj (h f _ M) (λκ t ⟨H,N⟩=>?_) λ_ _ x=>x.elim)
  subst H;refine O4 (Qj (kat_run (ks:=us) (vs:=us) (G:=λp t'=>t'=_/\P (.done (.ret .none)) {s with heap:=Uv s.heap a us (Rv (p.toList.map λi=>us.getD i Qk))})
   (Q:=λst t'=>t'=_/\failedOf st=none/\ ∃p:Array Nat,p.size=us.length/\(arrOf st).map (·.2)=Rv (p.toList.map λi=>us.getD i Qk)/\P (.done (.ret .none)) {s with heap:=Uv s.heap a us (Rv (p.toList.map λi=>us.getD i Qk))})
   rfl f I (λp st t' B L J y=>⟨y.1,J,p,B,kat_snds rfl L,y.2⟩) N) (λr t' O=>?_) λ_ _ x=>x)
  obtain⟨u,st⟩:=r;obtain⟨S,z,p,C,d,K⟩:=O;subst S;dsimp only at z d⊢;rw[d,z];have R:(Rv (p.toList.map λi=>us.getD i Qk)).size<=sizeLine:=by rw[PK,Pc,Py,C,QU];lia
  refine O4 (YM j rfl (O4 (Xt j rfl ?_ (Q3 _) (Vu R))));simp only[bne_self_eq_false,Po,if_false];exact O8 K
theorem yc{o:Obj}{us:List O7}(i:T="list"\/T="tuple")(m:s.heap.get? l=some o)(v:o.cls=.type T)(j:o.data=.seq us.toArray n)(x:us.length<64)
 (q: ∀g:Heap,(∀b u,s.heap.get? b=some u->g.get? b=some u)->s.heap.objs.size<=g.objs.size->Q us {s with heap:=g}):Ps (model prog w) A (collect (.ref l)) Q E s:=by
 have z:us.toArray.size<=sizeLine:=by rw[PK,QU];lia
 have d:(s.heap.push {cls:=.type "list",data:=.seq ([]:List O7).toArray}).get? s.heap.objs.size=some {cls:=.type "list",data:=.seq #[] 0}:=Pl _ rfl;have k:=Qy (Sm (·++us.toArray)) d rfl
 have a:Ps (model prog w) A (do
  match (<-load s.heap.objs.size).data with
   |Data.seq xs _=>pure xs.toList
   |_=>RI "internal:collect") Q E {s with heap:=(s.heap.push {cls:=.type "list",data:=.seq ([]:List O7).toArray}).update s.heap.objs.size (Sm (·++us.toArray))}:=by
  refine O4 (Zm k (O8 ?_));show Q ((#[]:Array O7)++us.toArray).toList _;rw[show((#[]:Array O7)++us.toArray).toList=us by simp];refine q _ (λb u e=>(R8 _ _ (RF (Pp e))).trans (Pa _ e)) ?_
  rw[Heap.size_update,QY];exact TX _
 unfold collect;refine O4 (WQ (RJ WD ?_));rw[Rx WE _];show Ps _ A.in1 (W3 []>>=λr=>WJ (.builtin "list.__iadd__" ⟨[r,.ref l],[]⟩)) _ _ s;refine O4 (Rf (O8 ⟨VG Ub _,RJ X9 ?_⟩));rw[Rx Ub _];show Ps _ A.in1 (U0 (.ref s.heap.objs.size) (.ref l) (.ref s.heap.objs.size)) _ _ _;have ext:=wpAny_extend_seq (prog:=prog) (w:=w) (A:=A) (hsz:=z) (R:=λr t=>r=.ok (.ret (.ref s.heap.objs.size))/\t={s with heap:=(s.heap.push {cls:=.type "list",data:=.seq ([]:List O7).toArray}).update s.heap.objs.size (Sm (·++us.toArray))})
  (s:={s with heap:=s.heap.push {cls:=.type "list",data:=.seq ([]:List O7).toArray}}) _ l (.ref s.heap.objs.size) 0 i d (Pa _ m) v j ⟨rfl,rfl⟩
 refine Qj ext (λfin t h=>?_) (λe t h=>absurd h.1 (by simp));cases fin with
 |done f=>obtain⟨e,rfl⟩:=h;cases e;exact a
 |again c=>exact⟨h.1,R7 h.2 λr t' p=>by obtain⟨rfl,rfl⟩:=p;exact a⟩
theorem tO{o:Obj}{us:List O7}{G:List Nat->Prop}(L:T="list"\/T="tuple")(J:s.heap.get? l=some o)(K:o.cls=.type T)(H:o.data=.seq us.toArray n)(F:us.length<64)
 (y:us.length<2->G (O5 us.length))
 (k:2<=us.length-> ∀g:Heap,(∀c o,s.heap.get? c=some o->g.get? c=some o)->Ps (model prog w) A.in1.in1 (keyKind' us.toArray) (λκ t=>t={s with heap:=g}/\
   (X7 us.length).kasWp (X8 prog w A.in1.in1 κ us) (λp t'=>t'=t/\G p.toList) t) (λ_ _=>False) {s with heap:=g})
 (fin: ∀(g:Heap) (a e:Nat) (b:List Nat),(∀c o,s.heap.get? c=some o->g.get? c=some o)->s.heap.objs.size<=a->G b->g.get? a=some (Td "list" (Rv (b.map λi=>us.getD i Qk)) e)->Q (.ref a) {s with heap:=g}):
 Ps (model prog w) A (call (.builtin "sorted") [.ref l]) Q E s:=by
 refine Vj kind_sorted plain_sorted entry_sorted (args_sorted1 _) ?_
 unfold Sw.«sorted»;refine O4 (m:=checkCount "sorted" 1 1 _) (O8 (O4 (yc L J K H F λg q I=>?_)));refine O4 (Xu ?_ (by rw[QU];lia));have B:(g.push (Td "list" us.toArray 0)).get? g.objs.size=some (Td "list" us.toArray 0):=Pl _ rfl;show Ps _ _ _ _ _ {s with heap:=g.push (Td "list" us.toArray 0)};have d: ∀b:List Nat,G b->Q (.ref g.objs.size) {s with heap:=Uv (g.push (Td "list" us.toArray 0)) g.objs.size us (Rv (b.map λi=>us.getD i Qk))}:=λb z=>by
  obtain⟨e,M⟩:=sortedHeap_at (out:=Rv (b.map λi=>us.getD i Qk)) B;refine fin _ g.objs.size e b (λc u j=>?_) I z M;have lt:=Pp (q c u j);rw[ZD (PX lt) (by rw[size_push'];exact Tk lt)];exact Pa _ (q c u j)
 refine O4 (Qh (QN ZE ⟨_,B,rfl⟩ YY (rd (P:=λf t=> ∃v,f=.done (.ret v)/\Ps (model prog w) A.in1 (pure (ZF (.ret (QW g.objs.size)))) (λf t=> ∃v,f=.done (.ret v)/\Q v t) E t) B F (λh=>?_) (λh g' r=>?_)) (ZG _)))
 ·have e:=d (O5 us.length) (y h)
  rw[show(O5 us.length).map (λi=>us.getD i Qk)=us from Uc λi=>by
   by_cases D:i<us.length
   ·simp[D]
   ·simp[D]] at e
  exact⟨_,rfl,O8 ⟨_,rfl,e⟩⟩
 ·refine Qj (k h g' λc u j=>r c u (PX (Pp (q c u j))) (Pa _ (q c u j))) (λκ t ⟨O,C⟩=>⟨O,?_⟩) λ_ _ x=>x
  rw[kat_ask_eq rfl] at C⊢;exact kas_wp_mono C λp t' ⟨N,z⟩=>⟨N,_,rfl,O8 ⟨_,rfl,d _ z⟩⟩
end
open PySem PySem.W PySem.Spec PyProof.Rows
def bx:List Int->List Int->Bool
 |_,[]=>false
 | [],_::_=>true
 |x::xs,y::ys=>if x=y then bx xs ys else decide (x<y)
def BQ(x y:Int):Bool:=decide (x<y)
structure Lt {α:Type}(lt:α->α->Bool):Prop where
 tr: ∀ {a b c:α},lt b a=false->lt c b=false->lt c a=false
 as: ∀ {a b:α},lt a b=true->lt b a=false
 eq: ∀ {a b:α},lt a b=false->lt b a=false->a=b
theorem HQ:Lt BQ:=⟨λa b=>by simp only[BQ,decide_eq_false_iff_not] at*;lia,λh=>by simp only[BQ,decide_eq_false_iff_not,lL] at*;lia,λa b=>by simp only[BQ,decide_eq_false_iff_not] at*;lia⟩
theorem zL: ∀ {a b:List Int},bx a b=true->bx b a=false
 | [],[],h=>by simp[bx] at h
 |x::xs,[],h=>by simp[bx] at h
 | [],y::ys,h=>by simp[bx]
 |x::xs,y::ys,h=>by
  unfold bx at h⊢
  by_cases e:x=y
  ·subst e;simp only[if_true] at h⊢;exact zL h
  ·rw[if_neg e] at h;rw[if_neg (Qu e)];simp only[lL,decide_eq_false_iff_not] at*;lia
theorem Bi: ∀ {a b:List Int},bx a b=false->bx b a=false->a=b
 | [],[],_,_=>rfl
 |x::xs,[],_,h=>by simp[bx] at h
 | [],y::ys,h,_=>by simp[bx] at h
 |x::xs,y::ys,h,h'=>by
  unfold bx at h h'
  by_cases e:x=y
  ·subst e;simp only[if_true] at h h';rw[Bi h h']
  ·rw[if_neg e] at h;rw[if_neg (Qu e)] at h';simp only[decide_eq_false_iff_not] at*;lia
theorem Ao: ∀ {a b c:List Int},bx b a=false->bx c b=false->bx c a=false
 | [],_,_,_,_=>by unfold bx;rfl
 |x::xs,[],_,h,_=>by simp[bx] at h
 |x::xs,y::ys,[],_,h=>by simp[bx] at h
 |x::xs,y::ys,z::zs,e,d=>by
  unfold bx at e d⊢
  by_cases g:y=x
  ·subst g;simp only[if_true] at e
   by_cases f:z=y
   ·subst f;simp only[if_true] at d⊢;exact Ao e d
   ·rw[if_neg f] at d⊢;exact d
  ·rw[if_neg g] at e
   by_cases f:z=y
   ·subst f;rw[if_neg g];exact e
   ·rw[if_neg f] at d;simp only[decide_eq_false_iff_not] at e d;rw[if_neg (by lia)];simp only[decide_eq_false_iff_not];lia
theorem yU:Lt bx:=⟨Ao,zL,Bi⟩
def yS {α:Type}(lt:α->α->Bool)(x:α):List α->List α
 | []=>[x]
 |y::r=>if lt x y=true then x::y::r else y::yS lt x r
def bw {α:Type}(lt:α->α->Bool):List α->List α
 | []=>[]
 |x::r=>yS lt x (bw lt r)
section
variable {α:Type}{lt:α->α->Bool}
theorem om(x:α): ∀l:List α,(yS lt x l).Perm (x::l)
 | []=>.refl _
 |y::r=>by
  unfold yS;split
  ·exact .refl _
  ·exact((om x r).cons y).trans (.swap _ _ _)
theorem aU: ∀l:List α,(bw lt l).Perm l
 | []=>.refl _
 |x::r=>(om x _).trans ((aU r).cons x)
theorem AZ(O:Lt lt)(x:α): ∀ {l:List α},l.Pairwise (λa b=>lt b a=false)->(yS lt x l).Pairwise (λa b=>lt b a=false)
 | [],_=>by simp[yS]
 |y::r,h=>by
  obtain⟨d,f⟩:=Si.mp h;unfold yS;split
  ·rename_i e
   refine Si.mpr ⟨λz c=>?_,h⟩;rcases PD.mp c with rfl|c
   ·exact O.as e
   ·exact O.tr (O.as e) (d z c)
  ·rename_i e
   refine Si.mpr ⟨λz c=>?_,AZ O x f⟩;rcases PD.mp ((om x r).mem_iff.mp c) with rfl|c
   ·simpa using e
   ·exact d z c
theorem kT(O:Lt lt): ∀l:List α,(bw lt l).Pairwise (λa b=>lt b a=false)
 | []=>.nil
 |x::r=>AZ O x (kT O r)
theorem k8(O:Lt lt){l c:List α}(p:c.Perm l)(s:c.Pairwise (λa b=>lt b a=false)):c=bw lt l:=
 List.Perm.eq_of_pairwise (λa b _ _ d e=>O.eq e d) s (kT O l) (p.trans (aU l).symm)
theorem l4(a:List α)(d:α):(O5 a.length).map (λi=>a.getD i d)=a:=Uc λi=>by
 by_cases b:i<a.length
 ·simp[b]
 ·simp[b]
theorem j9(O:Lt lt){a:List α}{p:Array Nat}(P:Pm a.length p)(S:Srt (λi j=>lt (a.getD i d) (a.getD j d)) p a.length):p.toList.map (λi=>a.getD i d)=bw lt a:=by
 refine k8 O ?_ ?_
 ·have h:p.toList.Perm (O5 a.length):=by simpa using (Vd.mp P.perm)
  have f:=h.map (λi=>a.getD i d);rw[l4] at f;exact f
 ·rw[Qr,Q4];intro i j l b m;have n:=P.size;have e:=S i j (by lia) (by simpa [n] using b);have g: ∀k (c:k<p.toList.length),p.getD k 0=p.toList[k]:=λk c=>by
   have:k<p.size:=by simpa using c
   simp[SX,this]
  rw[g i l,g j b] at e;exact e
theorem Fg(O:Lt lt)(f:Nat->α):Od (λi j=>lt (f i) (f j)):=⟨λa b=>O.tr a b,λh=>O.as h⟩
end
def yY:D->Option (List Int)
 | .tup ds=>match eN ds with
   |some (x::r)=>some (x::r)
   |_=>none
 |_=>none
def mF:List D->Option (List (List Int))
 | []=>some []
 |d::r=>(yY d).bind λk=>(mF r).map (k:: ·)
def cZ(k:List Int):D:=.tup (k.map D.int)
def hZ(ds:List D):Option (List D):=if ds.length<64 then match eN ds with
 |some a=>some ((bw BQ a).map D.int)
 |none=>(mF ds).map λks=>(bw bx ks).map cZ else none
theorem kx(a:List Int):eN (a.map D.int)=some a:=by
 induction a with
 |nil=>rfl
 |cons n a b=>show(eN (a.map D.int)).map (n:: ·)=_;rw[b];rfl
theorem Hq(h:yY d=some k):d=cZ k/\k≠[]:=by
 unfold yY at h;split at h
 ·split at h
  ·rename_i e;cases h;rw[gK e];exact⟨rfl,by simp⟩
  ·cases h
 ·cases h
theorem Gj(h:k≠[]):yY (cZ k)=some k:=by
 unfold yY cZ;dsimp only;rw[kx];cases k with
 |nil=>exact absurd rfl h
 |cons x r=>rfl
theorem rj: ∀ {ds:List D} {ks:List (List Int)},mF ds=some ks->ds=ks.map cZ/\ ∀k∈ks,k≠[]
 | [],_,h=>by cases h;exact⟨rfl,λ_ h=>nomatch h⟩
 |d::r,ks,h=>by
  unfold mF at h;cases e1:yY d with
  |none=>rw[e1] at h;cases h
  |some k=>
   rw[e1] at h;cases e2:mF r with
   |none=>rw[e2] at h;cases h
   |some l=>
    rw[e2] at h;cases h;obtain⟨b,c⟩:=Hq e1;obtain⟨f,e⟩:=rj e2;refine⟨by rw[b,f];rfl,λz a=>?_⟩;rcases PD.mp a with rfl|a
    ·exact c
    ·exact e z a
theorem vP: ∀ {ks:List (List Int)},(∀k∈ks,k≠[])->mF (ks.map cZ)=some ks
 | [],_=>rfl
 |k::r,h=>by
  show(yY (cZ k)).bind (λa=>(mF (r.map cZ)).map (a:: ·))=_;rw[Gj (h k (by simp)),vP λz b=>h z (by simp[b])];rfl
theorem Cj {k:List Int}{ks:List (List Int)}:eN ((k::ks).map cZ)=none:=rfl
theorem jF {α:Type}{lt:α->α->Bool}{l:List α}(h:l.length<2):bw lt l=l:=by
 match l,h with
 | [],_=>rfl
 | [_],_=>rfl
theorem oO {xs:List V}{us:List O7}(r:bt xs us)(i:Nat):bH (xs.getD i .non) (us.getD i Qk):=by
 cases e:xs[i]? with
 |none=>
  have c:=r.length;have:us[i]? =none:=by simp at e⊢;lia
  simp[Qd,e,this];rfl
 |some x=>
  obtain⟨u,a,b⟩:=r.get e;simp[Qd,e,a];exact b
theorem oq {xs:List V}{us:List O7}(r:bt xs us): ∀a:List Nat,bt (a.map λi=>xs.getD i .non) (a.map λi=>us.getD i Qk)
 | []=>.nil
 |i::l=>.cons (oO r i) (oq r l)
theorem tu {K:Pk}{xs:List V}{ds:List D}(r:Reps K F xs ds)(i:Nat):Rep K F (xs.getD i .non) (ds.getD i .non):=by
 cases e:ds[i]? with
 |none=>
  have c:=r.length;have:xs[i]? =none:=by simp at e⊢;lia
  simp[Qd,e,this];exact .non
 |some x=>
  obtain⟨u,a,b⟩:=r.get e;simp[Qd,e,a];exact b
theorem oK {K:Pk}{xs:List V}{ds:List D}(r:Reps K F xs ds): ∀a:List Nat,Reps K F (a.map λi=>xs.getD i .non) (a.map λi=>ds.getD i .non)
 | []=>.nil
 |i::l=>.cons (tu r i) (oK r l)
def uH:List O7->List Int->Prop:=Paired λu i=> ∃t,u=U3 i t
theorem um {K:Pk}: ∀ {xs:List V} {us:List O7} {a:List Int},bt xs us->Reps K F xs (a.map D.int)->uH us a
 |_,_,[],r,p=>by cases p;cases r;exact .nil
 |_,_,n::a,r,p=>by
  cases p with
  |cons c e=>cases r with
   |cons d b=>cases c;exact .cons d (um b e)
theorem xp: ∀ {us:List O7} {a:List Int} {i:Nat} {u:O7},uH us a->us[i]? =some u-> ∃n,a[i]? =some n/\ ∃t,u=U3 n t
 |_,_,_,_,.nil,e=>by simp at e
 |_,_,0,_,.cons h _,e=>by simp at e;subst e;exact⟨_,rfl,h⟩
 |_,_,i+1,u,.cons _ r,e=>by
  obtain⟨n,b,c⟩:=xp (i:=i) (u:=u) r (by simpa using e);exact⟨n,by simpa using b,c⟩
section
variable {prog:Qc}{w:Qv}{A:Qe}{s:O9}{b fin:Bool}{Q:Bool->O9->Prop}
theorem vk: ∀ {us g:List O7} {c a:List Int} (i:Nat),uH us c->uH g a->fin=decide (c.length<a.length)->Q (bx c a) s->KatLex prog w A b fin Q (us.zip g) i s
 |_,_,[],[],i,.nil,.nil,e,q=>by subst e;exact kat_nil q
 |_,_,[],m::a,i,.nil,.cons _ _,e,q=>by subst e;simp only[List.zip_nil_left];refine kat_nil ?_;simpa [bx] using q
 |_,_,n::c,[],i,.cons _ _,.nil,e,q=>by subst e;simp only[List.zip_nil_right];refine kat_nil ?_;simpa [bx] using q
 |_,_,n::c,m::a,i,.cons l k,.cons j h,e,q=>by
  obtain⟨t,rfl⟩:=l;obtain⟨t',rfl⟩:=j;rw[Xz];refine kat_cons (Yp (kat_go (λd=>?_) λd=>?_))
  ·have:n=m:=by simpa using d
   subst this;refine kat_yes (vk (i+1) k h (by rw[e];simp) ?_);simpa [bx] using q
  ·have:n≠m:=by simpa using d
   have f:Q (decide (n<m)) s:=by simpa [bx,this] using q
   refine kat_no ?_
   cases (b&&i==0) with
   |true=>exact oneLt_int f
   |false=>exact kat_one _ _ (lt_int f)
end
theorem g8 {X:Cx}:dI X (.builtin "sorted") (λxs H Q=> ∃a ys ds es,xs=[.ref a]/\(SqL X.K H a ys\/SqT X.K H a ys)/\Reps X.K H ys ds/\hZ ds=some es/\
 ∀(l:Addr) (z:List Nat),H l=none->z.length=ds.length->z.map (λi=>ds.getD i .non)=es->Q (.ref l) (bY H l (.lst (z.map λi=>ys.getD i .non)))):=by
 intro ah s σ H xs us Q I r h;obtain⟨a,ys,ds,es,rfl,hsq,Z,d,q⟩:=h;obtain⟨u,rfl,rx⟩:=iW r;cases rx;obtain⟨c,T,o,n,V,hT,M,E,L⟩: ∃(c:List O7) (T:String) (o:Obj) (n:Nat),bt ys c/\(T="list"\/T="tuple")/\s.heap.get? a=some o/\o.cls=.type T/\o.data=.seq c.toArray n:=by
  rcases hsq with hq|hq
  ·obtain⟨c,O,pl,hz⟩:=I.list hq;obtain⟨o,M,E,n,L⟩:=pl.isList;exact⟨c,"list",o,n,O,.inl rfl,M,E,L⟩
  ·obtain⟨c,O,pl,hz⟩:=I.tuple hq;obtain⟨o,M,E,n,L⟩:=pl;exact⟨c,"tuple",o,n,O,.inr rfl,M,E,L⟩
 have l1:=V.length;have Y:=Z.length;have h64:ds.length<64:=by
  unfold hZ at d;split at d
  ·assumption
  ·cases d
 unfold hZ at d;rw[if_pos h64] at d;refine tO (G:=λz=>z.length=ds.length/\z.map (λi=>ds.getD i .non)=es) hT M E L (by lia) (λfew=>⟨by simp;lia,?_⟩) (λh2 g R=>?_) (λg p e z R hp hG W=>?_)
 ·rw[show c.length=ds.length by lia,l4];cases e1:eN ds with
  |some F=>
   rw[e1] at d;cases d;have:=gK e1;subst this;rw[jF (by simp at Y;lia)]
  |none=>
   rw[e1] at d;cases y:mF ds with
   |none=>rw[y] at d;cases d
   |some ks=>
    rw[y] at d;cases d;obtain⟨h3,_⟩:=rj y;subst h3;dsimp only;rw[jF (by simp at Y;lia)]
 ·cases e1:eN ds with
  |some F=>
   rw[e1] at d;cases d;have e0:=gK e1;subst e0;have hv:=um V Z;have J:c.length=F.length:=by simp at Y;lia
   have N: ∀i,i<F.length-> ∃t,c.getD i Qk=U3 (F.getD i 0) t:=λi f=>by
    have y:c[i]? =some c[i]:=Pd (by lia);obtain⟨m,e3,t,e4⟩:=xp hv y;refine⟨t,?_⟩;simp[Qd,y,e3,e4]
   refine kas_kind (T:=.type "int") h2 (λv hv'=>?_) (by rfl) (by rfl) ⟨rfl,?_⟩
   ·obtain⟨i,f,rfl⟩:=SM hv';obtain⟨t,e⟩:=N i (by lia);have:c[i]=c.getD i Value.none:=by simp[Qd,Pd f]
    rw[this,e];exact jaE
   ·rw[J];refine up (b:=λi j=>BQ (F.getD i 0) (F.getD j 0)) (Fg HQ _) (by lia) (λi j C f hj hC=>?_) λp P S=>⟨rfl,?_,?_⟩
    ·obtain⟨t,e⟩:=N i f;obtain⟨t',e'⟩:=N j hj;unfold X8;rw[e,e'];exact kat_lt_int hC
    ·rw[Py,P.size];simp
    ·have:=congrArg (Ya D.int) (j9 HQ P S);rw[<-this,Pw];refine PM λi f=>?_
     have:i<F.length:=by
      have:=P.perm.mem_iff.mp (SB.mp f);simpa using this
     simp[Qd,Pd this]
  |none=>
   rw[e1] at d;cases y:mF ds with
   |none=>rw[y] at d;cases d
   |some ks=>
    rw[y] at d;cases d;obtain⟨h3,h4⟩:=rj y;subst h3;have J:c.length=ks.length:=by simp at Y;lia
    have N: ∀i,i<ks.length-> ∃(b:Addr) (o:Obj) (B:List O7) (n:Nat),c.getD i Qk=.ref b/\s.heap.get? b=some o/\o.cls=.type "tuple"/\o.data=.seq B.toArray n/\uH B (ks.getD i []):=λi f=>by
     have r1:=oO V i;have r2:=tu Z i;have e3:(ks.map cZ).getD i .non=.tup ((ks.getD i []).map D.int):=by simp[Qd,Pd f,cZ]
     rw[e3] at r2;generalize hx:ys.getD i .non=x at r1 r2;cases r2 with
     |tup q1 q2=>
      obtain⟨B,O,⟨o,M,E,n,L⟩,_⟩:=I.tuple q1;exact⟨_,o,B,n,r1,M,E,L,um O q2⟩
    have kt: ∀(l:List O7) (A:List (List Int)),l.length=A.length->(∀i,i<A.length-> ∃(b:Addr) (o:Obj) (B:List O7) (n:Nat),l.getD i Qk=.ref b/\s.heap.get? b=some o/\o.cls=.type "tuple"/\o.data=.seq B.toArray n/\uH B (A.getD i []))->(∀k∈A,k≠[])->
     ∃U,KatTups g l U/\U.length=l.length/\ ∀v∈U,∃i t,v=U3 i t:=by
     intro l
     induction l with
     |nil=>intro A _ _ _;exact⟨[],.nil,rfl,λ_ h=>nomatch h⟩
     |cons v l ih=>
      intro A J W hk;cases A with
      |nil=>cases J
      |cons m A=>
       obtain⟨U,f1,f2,f3⟩:=ih A (by simpa using J) (λi f=>by simpa using W (i+1) (by simpa using f)) λk hk'=>hk k (by simp[hk'])
       obtain⟨b,o,B,n,g1,g2,g3,g4,g5⟩:=W 0 (by simp);simp[Qd] at g1 g5;subst g1;cases m with
       |nil=>exact absurd rfl (hk [] (by simp))
       |cons x xs=>
        cases g5 with
        |cons y1 y2=>
         obtain⟨t,rfl⟩:=y1;refine⟨_,jbq (R _ _ g2) g3 g4 (by simp;rfl) f1,by simp[f2],λv hv=>?_⟩;rcases PD.mp hv with rfl|hv
         ·exact⟨_,_,rfl⟩
         ·exact f3 v hv
    obtain⟨U,f1,f2,f3⟩:=kt c ks J N h4;refine kat_kind (T:=.type "int") f1 (by lia) (λv hv=>?_) (by rfl) ⟨rfl,?_⟩
    ·obtain⟨i,t,rfl⟩:=f3 v hv;exact jaE
    ·rw[J];refine up (b:=λi j=>bx (ks.getD i []) (ks.getD j [])) (Fg yU _) (by lia) (λi j C f hj hC=>?_) λp P S=>⟨rfl,?_,?_⟩
     ·obtain⟨b1,o1,ts1,n1,x1,x2,x3,x4,x5⟩:=N i f;obtain⟨b2,o2,ts2,n2,y1,y2,y3,y4,y5⟩:=N j hj;unfold X8;rw[x1,y1];refine kat_lt (R _ _ x2) x4 (R _ _ y2) y4 ?_
      refine vk 0 x5 y5 ?_ hC;have z1:=Tw x5;have z2:=Tw y5;simp[z1,z2]
     ·rw[Py,P.size];simp
     ·have:=congrArg (Ya cZ) (j9 yU P S);dsimp only;rw[<-this,Pw];refine PM λi f=>?_
      have:i<ks.length:=by
       have:=P.perm.mem_iff.mp (SB.mp f);simpa using this
      simp[Qd,Pd this]
 ·refine⟨.ref p,_,I.laid (t':=s.toks) R hp (show ci X.prog X.w _ g _ (.lst (z.map λi=>ys.getD i .non)) from⟨?_,_,e,oq V z,W⟩),rfl,q _ z (I.hok.fresh hp) hG.1 hG.2⟩;rw[Pc,hG.1,QU];lia
def dw:List D->Option D
 | [.lst ds]=>(hZ ds).map D.lst
 | [.tup ds]=>(hZ ds).map D.lst
 |_=>none
theorem kL {K:Pk}:gh K .n (λxs H Q=> ∃a ys ds es,xs=[.ref a]/\(SqL K H a ys\/SqT K H a ys)/\Reps K H ys ds/\hZ ds=some es/\
 ∀(l:Addr) (b:List Nat),H l=none->b.length=ds.length->b.map (λi=>ds.getD i .non)=es->Q (.ref l) (bY H l (.lst (b.map λi=>ys.getD i .non)))) dw:=by
 intro H hid vs ds d Q m h r q;unfold dw at h;split at h
 ·rename_i zs
  cases e:hZ zs with
  |none=>rw[e] at h;cases h
  |some es=>
   rw[e] at h;cases h;obtain⟨x,rfl,g⟩:=c3.one r;obtain⟨a,xs,rfl,j,c⟩:=g.lst;refine⟨a,xs,zs,es,rfl,.inl j,c.mono (dq _ _),e,λl b f _ k=>q _ _ (aR f _) (fZ f (am.refl _) ?_)⟩;rw[<-k];exact oK c b
 ·rename_i zs
  cases e:hZ zs with
  |none=>rw[e] at h;cases h
  |some es=>
   rw[e] at h;cases h;obtain⟨x,rfl,g⟩:=c3.one r;obtain⟨a,xs,rfl,_,j,c⟩:=g.tup;refine⟨a,xs,zs,es,rfl,.inr j,c.mono (dq _ _),e,λl b f _ k=>q _ _ (aR f _) (fZ f (am.refl _) ?_)⟩;rw[<-k];exact oK c b
 ·cases h
section
variable {X:Cx}{c:Ct}{e a b:Expr}{es rest:List Expr}{f g:GE}{fs:GA}{k:Kd}{pos p:Pos}{x:Str}{id T:String}{r:List V->Hp->VK->Prop}{F:List D->Option D}{ps:List Str}{j n:Nat}
theorem LM {r:R2}{F:D->D->Option D}(l:IxR X r)(i:ph X.K k r F)(j:DE X c .s a f)(e:DE X c .s b g)(m:uf b)(d:k≠ .b:=by decide):DE X c k (.Subscript a b pos) (x8 F f g):=λhid ρ=>
 PE.imp (IW l (j hid ρ) (vb λρ1=>e hid ρ1) m) λσ H Q h=>NA i d h
theorem Reps.b1 {K:Pk}: ∀ {vs:List V} {ds:List D},Reps K W vs ds->c3 K H W vs ds
 |_,_,.nil=>.nil
 |_,_,.cons r t=>.cons (.inl r) (Reps.b1 t)
def gd(F:List D->Option D)(a:GA):GE:=λρ=>(a ρ).bind λq=>(F q.1).map λd=>(d,q.2)
theorem qr {F:List D->Option D}{ρ ρ':aF}(h:gd F fs ρ=some (d,ρ')): ∃ds,fs ρ=some (ds,ρ')/\F ds=some d:=by
 unfold gd at h;cases e:fs ρ with
 |none=>rw[e] at h;cases h
 |some q=>
  rw[e] at h;dsimp only[SV] at h;cases e2:F q.1 with
  |none=>rw[e2] at h;cases h
  |some z=>rw[e2] at h;cases h;exact⟨q.1,rfl,e2⟩
theorem MG(l:gh X.K k r F)(p:k≠ .b){H:Hp}(h:Le X.K c hid k (gd F fs) ρ σ H Q):L8 r (OH X.K c hid fs ρ) σ H Q:=by
 obtain⟨s,d,ρ',m,q⟩:=h;obtain⟨ds,t,g⟩:=qr m;exact⟨s,ds,ρ',t,λvs i f e o=>l i hid vs ds d Q (λa n=>e.fresh n) g o.b1 λw u s2 j=>q w u (dD.left f (e.post s2 j p))⟩
theorem Ez(n:dI X (.builtin id) r)(f:gh X.K k r F)(o:X.mg x=none)(m:DG X c (e::es) fs)(i:k≠ .b:=by decide)(j:Gl X x:=by rfl)(hv:Q7 x=some (.builtin id):=by kernel_rfl)(l:x≠"__name__":=by decide)(d:(x==("__debug__":Str))=false:=by decide)
 (g:Pv (e::es) X.env=(false,eval e X.env)::Pv es X.env:=by rfl) (a:(RL pos (Pv es X.env)).any (·.1)=false:=by rfl):DE X c k (.Call (.Name x p) (e::es) [] pos) (gd F fs):=λhid ρ=>
 PE.imp (nz n j o hv (m hid ρ) l d g a) λσ H Q h=>MG f i h
theorem s0(n:dI X (.type T) r)(f:gh X.K k r F)(o:X.mg x=none)(m:DG X c (e::es) fs)(i:k≠ .b:=by decide)(j:Gl X x:=by rfl)(hv:Q7 x=some (.type T):=by kernel_rfl)(l:x≠"__name__":=by decide)(d:(x==("__debug__":Str))=false:=by decide)
 (g:Pv (e::es) X.env=(false,eval e X.env)::Pv es X.env:=by rfl) (a:(RL pos (Pv es X.env)).any (·.1)=false:=by rfl):DE X c k (.Call (.Name x p) (e::es) [] pos) (gd F fs):=λhid ρ=>
 PE.imp (gu n j o hv (m hid ρ) l d g a) λσ H Q h=>MG f i h
theorem KP(C:Cl X.prog X.w X.K X.mg X.base j x ps (cr X.K k n P))(G:dl j X.A)
 (E:DG X c (e::es) fs) (h:k≠ .b:=by decide) (s:Gl X x:=by rfl) (l:(x==("__debug__":Str))=false:=by decide) (B:Pv (e::es) X.env=(false,eval e X.env)::Pv es X.env:=by rfl) (g:(RL pos (Pv es X.env)).any (·.1)=false:=by rfl):
 DE X c k (.Call (.Name x p) (e::es) [] pos) (gd (nF n P) fs):=by
 obtain⟨f,N,F,L,r,y⟩:=C.ex;exact λhid ρ=>PE.imp (uX F G s L r y .nil (De (X:=X)) (E hid ρ) l B g) λσ H Q i=>by
  obtain⟨t,d,ρ',D,q⟩:=i;obtain⟨ds,J,a⟩:=qr D;unfold nF at a;split at a
  ·refine⟨t,ds,ρ',J,λvs u o m I=>?_⟩;show cr X.K k n P (vs++[]) u Q E0;rw[QJ];exact⟨hid,ds,m.trk,I, ‹_›,d,a,λv M s2 z=>q v M (dD.left o (m.post s2 z h))⟩
  ·cases a
abbrev GT:=aF->Option (Bool×aF)
def Nl(K:Pk)(c:Ct)(hid:bM)(f:GT)(ρ:aF):TT:=λσ H Q=>SR K c hid ρ σ H/\ ∃d ρ',f ρ=some (d,ρ')/\ ∀a,eb hid H a->SR K c hid ρ' σ a->Q d a
def M1(X:Cx)(c:Ct)(e:Expr)(f:GT):Prop:= ∀hid ρ,PT X e (Nl X.K c hid f ρ)
def Dw(f:GE):GT:=λρ=>(f ρ).bind λq=>(Gw q.1).map λd=>(d,q.2)
theorem Gq(k:DE X c .s a f)(n: ∀b,isTrue a X.env b=(do let v <-b;UV a.pos;Tp [v] (truthy v)):=by intro _;rfl):M1 X c a (Dw f):=λhid ρ=>
 PT.imp (xu (k hid ρ) n) λσ H Q h=>by
  obtain⟨m,d,ρ',g,q⟩:=h;unfold Dw at g;cases e:f ρ with
  |none=>rw[e] at g;cases g
  |some z=>
   rw[e] at g;dsimp only[SV] at g;cases e2:Gw z.1 with
   |none=>rw[e2] at g;cases g
   |some y=>
    rw[e2] at g;cases g;exact⟨m,z.1,z.2,e,λv o ⟨i,j,l⟩=>⟨d,Eh e2 (.inl l),q o i j⟩⟩
def D8(f:GT):GT:=λρ=>(f ρ).map λq=>(!q.1,q.2)
theorem Ho {f:GT}(l:M1 X c a f):M1 X c (.UnaryOp .Not a pos) (D8 f):=λhid ρ=>
 PT.imp (Ey (l hid ρ)) λσ H Q g=>by
  obtain⟨m,d,ρ',b,i⟩:=g;unfold D8 at b;cases e:f ρ with
  |none=>rw[e] at b;cases b
  |some z=>rw[e] at b;cases b;exact⟨m,z.1,z.2,e,λj h k=>i j h k⟩
end
section
variable {X:Cx}{c:Ct}{k:Kd}{t u:FS}{e:Expr}{pos:Pos}
def Lg(p:GT)(t u:FS):FS:=λρ=>match p ρ with
 |some (true,ρ')=>t ρ'
 |some (false,ρ')=>u ρ'
 |none=>.no
theorem Jt {p:GT}{a b:List Stmt}(hp:M1 X c e p)(ha:xU X c k a t)(hb:xU X c k b u):DS X c k (.If e a b pos) (Lg p t u):=λρ=>
 PS.imp (IU (K5 λhid=>hp hid ρ) (v9 λρ1=>ha ρ1) (v9 λρ1=>hb ρ1)) λD σ H hq_=>by
  obtain⟨hid,sr,q⟩:=hq_;cases e1:p ρ with
  |none=>unfold Lg at q;rw[e1] at q;exact q.elim
  |some z=>
   obtain⟨x,ρ1⟩:=z;refine⟨hid,sr,x,ρ1,e1,λH1 k1 s1=>?_⟩;unfold Lg at q;rw[e1] at q;cases x with
   |true=>exact v7 ⟨ρ1,hid,s1,c5.mono q k1.vw⟩
   |false=>exact w6 ⟨ρ1,hid,s1,c5.mono q k1.vw⟩
end
section
variable {prog:Qc}{w:Qv}{A:Qe}{R:U9->O9->Prop}{s:O9}{elt t1 t2 i1 i2:Expr}{ifs1 ifs2:List Expr}{scope:R5}{pos:Pos}{it acc:O7}{env:Env}
theorem Is:X4 (.ListComp elt [⟨t1,i1,ifs1,0⟩,⟨t2,i2,ifs2,0⟩] scope pos) 1 it acc env=(do
 UV i2.pos
 match <-Ts it with
 |none=>pure (.done .next)
 |some v=>
  Sz t2 it v
  SQ t2 env v
  let ok <-mY ifs2 env
  if ok=true then do(do let _ <-call (.builtin "list.append") [acc,<-eval elt env]);WJ (.compLoop (.ListComp elt [⟨t1,i1,ifs1,0⟩,⟨t2,i2,ifs2,0⟩] scope pos) 1 it acc env)
  else WJ (.compLoop (.ListComp elt [⟨t1,i1,ifs1,0⟩,⟨t2,i2,ifs2,0⟩] scope pos) 1 it acc env)):=by rfl
theorem Ep:X4 (.ListComp elt [⟨t1,i1,ifs1,0⟩,⟨t2,i2,ifs2,0⟩] scope pos) 0 it acc env=(do
 UV i1.pos
 match <-Ts it with
 |none=>pure (.done .next)
 |some v=>
  Sz t1 it v
  SQ t1 env v
  let ok <-mY ifs1 env
  if ok=true then do
   let x <-eval i2 env
   UV i2.pos
   let x <-QO i2 env x
   let _ <-runOwn (.compStart (.ListComp elt [⟨t1,i1,ifs1,0⟩,⟨t2,i2,ifs2,0⟩] scope pos) 1 (<-Tp [x] (Wa x)) acc env) env
   WJ (.compLoop (.ListComp elt [⟨t1,i1,ifs1,0⟩,⟨t2,i2,ifs2,0⟩] scope pos) 0 it acc env)
  else WJ (.compLoop (.ListComp elt [⟨t1,i1,ifs1,0⟩,⟨t2,i2,ifs2,0⟩] scope pos) 0 it acc env)):=by rfl
abbrev EK:=(O9->Prop)->O9->Prop
def Ad(prog:Qc)(w:Qv)(A:Qe)(c:Expr)(acc:O7)(d:Env):EK:=λQ s=>
 Ps (model prog w) A (eval c d) (λx b=>Ps (model prog w) A (call (.builtin "list.append") [acc,x]) (λ_ a=>Q a) (λ_ _=>False) b) (λ_ _=>False) s
def u9(prog:Qc)(w:Qv)(A:Qe)(e c:Expr)(acc:O7)(d:Env):EK:=λQ s=>
 Ps (model prog w) A (eval c d) (λx b=>Ps (model prog w) A (Wa x) (λit a=>RU (model prog w) A (.compStart e 1 it acc d) (λr s'=>match r with
  | .ok _=>Q s'
  | .error _=>False) a) (λ_ _=>False) b) (λ_ _=>False) s
def DM(prog:Qc)(w:Qv)(A:Qe)(c:Code)(h:Expr)(g:List Expr)(it:O7)(f:Env)(TA:EK)(R:U9->O9->Prop):Prop:= ∀(I:Nat->O9->Prop),
 (∀n s,I n s->Ps (model prog w) A (Ts it) (λr a=>match r with
   |none=>R (.ok .next) a
   |some v=>Ps (model prog w) A (Sz h it v) (λ_ a=>Ps (model prog w) A (SQ h f v) (λ_ e=>
     Ps (model prog w) A (mY g f) (λok b=>
      if ok=true then TA (λd=> ∃m,m<n/\I m d) b
      else∃m,m<n/\I m b) (λ_ _=>False) e) (λ_ _=>False) a) (λ_ _=>False) a) (λ_ _=>False) s)->
 ∀(n:Nat) (s:O9),I n s->RU (model prog w) A c R s
theorem FB:DM prog w A (.compLoop (.ListComp elt [⟨t1,i1,ifs1,0⟩,⟨t2,i2,ifs2,0⟩] scope pos) 1 it acc env) t2 ifs2 it env (Ad prog w A elt acc env) R:=by
 intro I turn n s h;have no: ∀ {m:O7->O9->Prop} (x:O7) (s:O9),False->m x s:=λ_ _ z=>z.elim
 refine X3 rfl I (λn s l=>?_) n h;show Ps _ A ((X4 (.ListComp elt [⟨t1,i1,ifs1,0⟩,⟨t2,i2,ifs2,0⟩] scope pos) 1 it acc env).onRaise (λx=>do Yy x env;Wt x)) _ _ s;refine YL ?_
 rw[Is];refine O4 (RT (O4 (Qj (turn n s l) (λr e a=>?_) no)));cases r with
 |none=>exact O8 a
 |some v=>
  refine O4 (Qj a (λ_ e a=>O4 (Qj a (λ_ k f=>O4 (Qj f (λok i b=>?_) no)) no)) no);cases ok with
  |false=>exact O8 ⟨rfl,b⟩
  |true=>exact O4 (O4 (Qj b (λx j c=>O4 (Qj c (λ_ g d=>O8 (O8 ⟨rfl,d⟩)) no)) no))
theorem BD(j: ∀x,QO i2 env x=pure x):DM prog w A (.compLoop (.ListComp elt [⟨t1,i1,ifs1,0⟩,⟨t2,i2,ifs2,0⟩] scope pos) 0 it acc env) t1 ifs1 it env (u9 prog w A (.ListComp elt [⟨t1,i1,ifs1,0⟩,⟨t2,i2,ifs2,0⟩] scope pos) i2 acc env) R:=by
 intro I turn n s h;have no: ∀ {t:O7->O9->Prop} (x:O7) (s:O9),False->t x s:=λ_ _ z=>z.elim
 refine X3 rfl I (λn s q=>?_) n h;show Ps _ A ((X4 (.ListComp elt [⟨t1,i1,ifs1,0⟩,⟨t2,i2,ifs2,0⟩] scope pos) 0 it acc env).onRaise (λx=>do Yy x env;Wt x)) _ _ s;refine YL ?_
 rw[Ep];refine O4 (RT (O4 (Qj (turn n s q) (λr g a=>?_) no)));cases r with
 |none=>exact O8 a
 |some v=>
  refine O4 (Qj a (λ_ g a=>O4 (Qj a (λ_ p i=>O4 (Qj i (λok l b=>?_) no)) no)) no);cases ok with
  |false=>exact O8 ⟨rfl,b⟩
  |true=>
   refine O4 (Qj b (λx m c=>O4 (RT (O4 (WR (j x) (O4 (Qh (Qj c (λu k d=>?_) no))))))) no);refine O4 (wpAny_runOwn (R7 d λr s' o=>?_));cases r with
   |ok f=>exact O8 ⟨rfl,o⟩
   |error e=>exact o.elim
end
def pU(g:FG)(p:FT)(A:FA)(a:aF):List D->Option (List D)
 | []=>some []
 |d::r=>(g d a).bind λρ1=>(p ρ1).bind λb=>if b=true then(A ρ1).bind λys=>(pU g p A a r).map (ys++ ·) else pU g p A a r
def NB(n:Nat)(ρ:aF):Prop:= ∀(i:Nat) (s:Sl),n<=i->ρ[i]? =some s->s=.no
def DY(Y:Cx)(c:Ct)(hid:bM)(e:Addr)(L W:Hp)(A:FA)(TA:EK)(ρ1:aF):Prop:= ∀(f:List (Addr×Obj)) (s:O9) (σ:St) (H:Hp) (xs:List V) (g zs:List D) (Q:O9->Prop),Inv Y f σ H s->SR Y.K c hid ρ1 σ H->
 H e=some (.lst xs)->Reps Y.K (vw H hid) xs g->xs.length+zs.length<=PN->am L H->am W (vw H hid)->(∀i:Nat,Ow ρ1[i]? ->σ[i]? ≠some (some (.ref e)))->A ρ1=some zs->
 (∀(s':O9) (a:St) (b:Hp) (d:List V),Inv Y f a b s'->SR Y.K c hid ρ1 a b->b e=some (.lst d)->Reps Y.K (vw b hid) d (g++zs)->am L b->am (vw H hid) (vw b hid)->(∀i:Nat,Ow ρ1[i]? ->a[i]? ≠some (some (.ref e)))->Q s')->TA Q s
section
variable {Y:Cx}{c:Ct}{tg:Expr}{ifs:List Expr}{g:FG}{p:FT}{A:FA}{TA:EK}{code:Code}
structure CLG(Y:Cx)(ah:List (Addr×Obj))(c:Ct)(hid:bM)(ρ0:aF)(L W H3:Hp)(D0:Addr)(fp:List Addr)(tn:Nat->Heap->Prop)(g:FG)(p:FT)(A:FA)(ds ys ad0:List D)(n i:Nat)(xs:List V)(ad:List D)(σ':St)(H':Hp)(s':O9):Prop where
 e:n=ds.length-i
 hi:i<=ds.length
 I:Inv Y ah σ' H' s'
 st:tn i s'.heap
 fr: ∀b∈fp,H' b=none
 sr:SR Y.K c hid ρ0 σ' H'
 sm:am L H'
 ac:H' D0=some (.lst xs)
 rp:Reps Y.K (vw H' hid) xs ad
 w:am W (vw H' hid)
 v:am (vw H3 hid) (vw H' hid)
 na: ∀i:Nat,Ow ρ0[i]? ->σ'[i]? ≠some (some (.ref D0))
 go: ∃rest,pU g p A ρ0 (ds.drop i)=some rest/\ad++rest=ad0++ys
theorem vW(v:Y.calm=true)(Ty:Y.xe=λ_ _=>False)(hT:jz n0 g)(hg:tS Y c tg g)(hp:vy Y c ifs p) {F L W:Hp} {s4:O9} {hid:bM} {ds ys ad0:List D} {G3:List V}
 (hA: ∀d ρ1,g d ρ0=some ρ1->DY Y c hid D0 L W A TA ρ1)
 (hN:NB n0 ρ0) (I:Inv Y ah σ3 F s4) (sr:SR Y.K c hid ρ0 σ3 F) (hh:hid D0=true) (na: ∀i:Nat,Ow ρ0[i]? ->σ3[i]? ≠some (some (.ref D0))) (XV:F D0=some (.lst G3)) (rp0:Reps Y.K (vw F hid) G3 ad0) (sm:am L F) (wv:am W (vw F hid)) (T:iT Y.prog Y.w Y.K tg J fp it tn) (st:tn 0 s4.heap) (hF: ∀b∈fp,jH Y ah F b)
 (io:Mr Y.K L W J ds) (hz:ad0.length+ys.length<=PN) (hc:pU g p A ρ0 ds=some ys)
 (hTP:DM Y.prog Y.w Y.A code tg ifs (.ref it) Y.env TA R)
 (hR: ∀(s':O9) (f:St) (h:Hp) (xs:List V),Inv Y ah f h s'->SR Y.K c hid ρ0 f h->am L h->h D0=some (.lst xs)->Reps Y.K (vw h hid) xs (ad0++ys)->am (vw F hid) (vw h hid)->(∀i:Nat,Ow ρ0[i]? ->f[i]? ≠some (some (.ref D0)))->R (.ok .next) s'):
 RU (model Y.prog Y.w) Y.A code R s4:=by
 have y: ∀ {h:Hp},(∀b∈fp,h b=none)-> ∀b∈fp,jH Y ah h b:=λ{h} hn b N=>⟨hn b N,(hF b N).2⟩
 refine hTP (λn s'=> ∃(i:Nat) (xs:List V) (ad:List D) (f:St) (h:Hp),CLG Y ah c hid ρ0 L W F D0 fp tn g p A ds ys ad0 n i xs ad f h s') ?_ ds.length s4
  ⟨0,G3,ad0,σ3,F,by simp,Q3 _,I,st,λb N=>(hF b N).1,sr,sm,XV,rp0,wv,am.refl _,na,ys,by simpa using hc,rfl⟩
 rintro n s5 ⟨i,xs,ad,B,Q,rfl,hi,I5,XL,f5,P,t,S,G,w5,v5,Yi,k,a,E⟩;have wH:am W Q:=w5.trans (dq _ _)
 by_cases H:i<ds.length
 ·have hd:ds[i]? =some ds[i]:=Pd H;have e2:ds.drop i=ds[i]::ds.drop (i+1):=Rm H;rw[e2] at a;unfold pU at a;obtain⟨go,yl⟩:=io.1 i ds[i] Q hd t wH;refine bW (T.item Y rfl rfl rfl v i ah s5 B Q (λ_ _=>False) I5 (y f5) XL go) λr s6 l=>?_
  obtain⟨u,hr,h6⟩:=l;subst hr;refine bW h6 λ_ s7 l=>?_
  obtain⟨x,H7,I7,r7,y7,X,f7⟩:=l;obtain⟨q,rp⟩:=yl x H7 y7;have rx:=rp hid P.tr w5;have I7':=I7.pinned (y f7) (T.obj _ _ X);cases e3:g ds[i] ρ0 with
  |none=>rw[e3] at a;cases a
  |some ρ1=>
   rw[e3] at a;have a:(p ρ1).bind (λb=>if b=true then(A ρ1).bind λys=>(pU g p A ρ0 (ds.drop (i+1))).map (ys++ ·) else pU g p A ρ0 (ds.drop (i+1)))=some k:=a;obtain⟨tl1,ST⟩:=hT _ _ _ e3;have fg: ∀ {f:St} {h:Hp},SR Y.K c hid ρ1 f h->SR Y.K c hid ρ0 f h:=λ{f h} z=>z.forget tl1 λj s e=>by
    by_cases hj:j<n0
    ·exact .inr ((ST j hj).trans e)
    ·exact .inl (hN j s (by lia) e)
   have O: ∀j:Nat,Ow ρ0[j]? ->Ow ρ1[j]? :=λj o=>by
    by_cases hj:j<n0
    ·rw[ST j hj];exact o
    ·exfalso;cases e:ρ0[j]? with
     |none=>rw[e] at o;exact o
     |some s=>have:=hN j s (by lia) e;subst this;rw[e] at o;exact o
   have C: ∀ {f:St} {h:Hp} {s':O9},Inv Y (ah++l5 fp s7.heap) f h s'->tn (i+1) s'.heap/\ ∀b∈fp,h b=none:=λ{f h s'} J'=>by
    refine⟨T.keep _ _ _ X λb N o e=>(J'.pin (b,o) (PU _ (PU _ (dh N e)))).1,λb N=>?_⟩;obtain⟨o,e,_⟩:=T.obj _ _ X b N;exact(J'.pin (b,o) (PU _ (PU _ (dh N e)))).2.1
   refine bW (Ty▸hg hid ρ0 ds[i] _ s7 B H7 x u (λf h=>h=H7/\SR Y.K c hid ρ1 f H7/\OwK ρ0 ρ1 B f) I7' r7 ⟨P.ext q,rx,ρ1,e3,λf z o=>⟨rfl,z,o⟩⟩) λ_ s8 l=>?_
   obtain⟨M,H8,I8,e8,q8,o8⟩:=l;subst e8;have na1: ∀j:Nat,Ow ρ1[j]? ->M[j]? ≠some (some (.ref D0)):=λj o=>by
    rw[(o8 j o).2];exact Yi j (o8 j o).1
   cases e4:p ρ1 with
   |none=>rw[e4] at a;cases a
   |some b=>
    rw[e4] at a;have a:(if b=true then(A ρ1).bind λys=>(pU g p A ρ0 (ds.drop (i+1))).map (ys++ ·) else pU g p A ρ0 (ds.drop (i+1)))=some k:=a;refine bW (Ty▸hp hid ρ1 _ s8 M H8 (λb' h=>b'=b/\am H8 h) I8 ⟨q8,b,e4,λh s'=>⟨rfl,s'⟩⟩) λok s9 l=>?_
    obtain⟨H9,I9,e9,m⟩:=l;subst e9;have Z:am (vw Q hid) (vw H9 hid):=aX (q.trans m);cases ok with
    |false=>
     have a:pU g p A ρ0 (ds.drop (i+1))=some k:=a;obtain⟨k1,k2⟩:=C I9;exact⟨ds.length- (i+1),by lia,i+1,xs,ad,M,H9,rfl,H,I9.unpinned,k1,k2,fg (q8.ext m),t.trans (q.trans m),m _ _ (q _ _ S),G.mono Z,w5.trans Z,v5.trans Z,λj o=>na1 j (O j o),k,a,E⟩
    |true=>
     have a:((A ρ1).bind λys=>(pU g p A ρ0 (ds.drop (i+1))).map (ys++ ·))=some k:=a;cases e5:A ρ1 with
     |none=>rw[e5] at a;cases a
     |some zs=>
      rw[e5] at a;have a:(pU g p A ρ0 (ds.drop (i+1))).map (zs++ ·)=some k:=a;cases e6:pU g p A ρ0 (ds.drop (i+1)) with
      |none=>rw[e6] at a;cases a
      |some U=>
       rw[e6] at a;cases a;have l1:=G.length;have l2:=congrArg Sd E;simp only[PF] at l2;refine hA ds[i] ρ1 e3 _ s9 M H9 xs ad zs _ I9 (q8.ext m) (m _ _ (q _ _ S)) (G.mono Z) (by lia) (t.trans (q.trans m)) (w5.trans Z) na1 e5 λs10 Tm H10 xs' Ym q10 a10 rp10 smL XM XN=>?_
       obtain⟨k1,k2⟩:=C Ym;exact⟨ds.length- (i+1),by lia,i+1,xs',ad++zs,Tm,H10,rfl,H,Ym.unpinned,k1,k2,fg q10,smL,a10,rp10,(w5.trans Z).trans XM,(v5.trans Z).trans XM,λj o=>XN j (O j o),U,e6,by rw[<-E];simp⟩
 ·have e:i=ds.length:=by lia
  subst e;rw[R9 (Ph _)] at a;cases a;rw[QJ] at E;subst E;refine bW (T.done Y rfl rfl rfl v ds.length ah s5 B Q (λ_ _=>False) I5 (y f5) XL (io.2 Q t wH)) λr s6 l=>?_
  obtain⟨hr,I6⟩:=l;subst hr;exact hR s6 B Q xs I6 P t S G v5 Yi
end
def wE(f:FE):FA:=λρ=>(f ρ).map λd=>[d]
def El(a:FA)(g:FG)(p:FT)(f:FE):FA:=λρ1=>(a ρ1).bind λds=>pU g p (wE f) ρ1 ds
def jG(m:Nat)(a:FA)(e:FG)(d:FT)(b:FA)(c:FG)(g:FT)(f:FE):FE:=λρ=>(a ρ).bind λds=>(pU e d (El b c g f) (ρ++Pj m .no) ds).bind λys=>if ys.length<=PN then some (.lst ys) else none
theorem Cm(h:jG m gi1 g1 p1 gi2 g2 p2 f ρ=some d): ∃ds ys,gi1 ρ=some ds/\pU g1 p1 (El gi2 g2 p2 f) (ρ++Pj m .no) ds=some ys/\ys.length<=PN/\d=.lst ys:=by
 unfold jG at h;cases e1:gi1 ρ with
 |none=>rw[e1] at h;cases h
 |some ds=>
  rw[e1] at h;dsimp only[SV] at h;cases e2:pU g1 p1 (El gi2 g2 p2 f) (ρ++Pj m .no) ds with
  |none=>rw[e2] at h;cases h
  |some ys=>
   rw[e2] at h;dsimp only at h;split at h
   ·cases h;exact⟨ds,ys,rfl,e2, ‹_›,rfl⟩
   ·cases h
def DF(n:Nat)(g:FG):Prop:= ∀d (a ρ1:aF),g d a=some ρ1-> ∀i:Nat,n<=i->ρ1[i]? =a[i]?
def zZ(n:Nat)(g:sK):Prop:= ∀d (a ρ1:aF),g d a=some ρ1-> ∀i:Nat,n<=i->ρ1[i]? =a[i]?
theorem yy {n i:Nat}(h:i<n):DF n (gN i):=λd a ρ1 e=>by
 cases e;exact λj b=>PJ (by lia)
theorem Gi {n:Nat}:zZ n gU:=λd a ρ1 e=>by
 unfold gU at e;split at e
 ·cases e;exact λ_ _=>rfl
 ·cases e
theorem xP {n:Nat}(c:DF n g)(f:zZ n gs):zZ n (cU g gs):=λd a ρ1 e=>by
 cases d with
 |nil=>cases e
 |cons d ds=>
  have e:(g d a).bind (λρ'=>gs ds ρ')=some ρ1:=e;cases e1:g d a with
  |none=>rw[e1] at e;cases e
  |some ρ2=>
   rw[e1] at e;exact λi b=>(f ds ρ2 ρ1 e i b).trans (c d a ρ2 e1 i b)
theorem Na {n m:Nat}(h:zZ n gs):DF n (gT m gs):=λd a ρ1 e=>by
 unfold gT at e;split at e
 ·split at e
  ·exact h _ _ _ e
  ·cases e
 ·cases e
section
variable {prog:Qc}{w:Qv}{A:Qe}{R:U9->O9->Prop}{s:O9}{elt t1 t2 i1 i2:Expr}{ifs1 ifs2:List Expr}{scope:R5}{pos:Pos}{it acc:O7}{env:Env}
theorem C4
 (b:RU (model prog w) A (.compLoop (.ListComp elt [⟨t1,i1,ifs1,0⟩,⟨t2,i2,ifs2,0⟩] scope pos) 1 it acc env) R s)
 (h:Ps (model prog w) A (Wa it) (λa s'=>RU (model prog w) A (.compLoop (.ListComp elt [⟨t1,i1,ifs1,0⟩,⟨t2,i2,ifs2,0⟩] scope pos) 1 a acc env) R s')
   (notedBy (model prog w) A env λx s'=>R (.error x) s') s):
 RU (model prog w) A (.compStart (.ListComp elt [⟨t1,i1,ifs1,0⟩,⟨t2,i2,ifs2,0⟩] scope pos) 1 it acc env) R s:=by
 refine UK (show Ps _ _ ((compStart (.ListComp elt [⟨t1,i1,ifs1,0⟩,⟨t2,i2,ifs2,0⟩] scope pos) 1 it acc env).onRaise (λx=>do Yy x env;UV theWindowsPlace)) _ _ s from wpAny_notedAt ?_);unfold compStart;show Ps _ _ (ask>>=_) _ _ s;refine O4 (Uw (wpAny_ite ?_));split
 ·first
   |exact O4 (O8 (O8 (Yz rfl b)))
   |exact O8 (Yz rfl b)
 ·first
   |exact O4 (XH (O4 (RT (O4 (Qj h (λa s' h'=>O8 (Yz rfl h')) λ_ _ x=>x)))))
   |(refine O4 (XH ?_);show Ps _ _ (UV i2.pos>>=_) _ _ s;exact O4 (RT (O4 (Qj h (λa s' h'=>O8 (Yz rfl h')) λ_ _ x=>x))))
end
section
variable {Y:Cx}{c:Ct}{elt t1 t2 i1 i2:Expr}{ifs1 ifs2:List Expr}{scope:R5}{pos:Pos}{f:FE}{g2:FG}{p2:FT}{gi2:FA}{hid:bM}{D0:Addr}{L W:Hp}{ρ1:aF}
theorem FU(g:Y.xe=λ_ _=>False)(M:DP Y c .s elt f)(E:hid D0=true)(q:c.H₀ D0=none)(O:L D0=none):DY Y c hid D0 L W (wE f) (Ad Y.prog Y.w Y.A elt (.ref D0) Y.env) ρ1:=by
 intro T s σ H xs S zs Q I C ac G N p U D k R;unfold wE at k;cases e5:f ρ1 with
 |none=>rw[e5] at k;cases k
 |some y=>
  rw[e5] at k;cases k;unfold Ad;refine bW (g▸M hid ρ1 _ s σ H (λv i=>am H i/\Rep Y.K (vw i hid) v y) I ⟨C,y,e5,λv i s' r=>⟨s',r⟩⟩) λv B x=>?_
  obtain⟨z,d,n,J,a,l⟩:=x;have h:d D0=some (.lst xs):=a _ _ ac;refine bW (g▸dv (X:=Y) _ B σ d (.ref D0) [z] (.ref D0) [v] (λ_ i=>i=bY d D0 (.lst (xs++[z]))) n rfl (.cons J .nil) ⟨D0,xs,z,rfl,rfl,h,by simp at N;lia,rfl⟩) λ_ u ⟨_,P,m,_,t⟩=>?_
  subst t;have F:vw (bY d D0 (.lst (xs++[z]))) hid=vw d hid:=fX E;have j:am (vw H hid) (vw d hid):=aX a;refine R u σ _ (xs++[z]) m ((C.ext a).write E q D h) aT ?_ (λb o e=>?_) ?_ D
  ·rw[F];exact(G.mono j).append (.cons l .nil)
  ·rw[aP (bD e O)];exact a _ _ (p _ _ e)
  ·rw[F];exact j
theorem BI(h:Y.calm=true)(g:Y.xe=λ_ _=>False)(hT:jz n1 g2)(G:NB n1 ρ1)(hi:DIp Y c t2 i2 gi2)(F:tS Y c t2 g2)(hp:vy Y c ifs2 p2)(he:DP Y c .s elt f)(C:hid D0=true)(u:c.H₀ D0=none)(E:L D0=none):
 DY Y c hid D0 L W (El gi2 g2 p2 f) (u9 Y.prog Y.w Y.A (.ListComp elt [⟨t1,i1,ifs1,0⟩,⟨t2,i2,ifs2,0⟩] scope pos) i2 (.ref D0) Y.env) ρ1:=by
 intro Z s σ H xs R zs Q I D ac z hz t wv N e hQ;unfold El at e;cases e5:gi2 ρ1 with
 |none=>rw[e5] at e;cases e
 |some ds=>
  rw[e5] at e;have e:pU g2 p2 (wE f) ρ1 ds=some zs:=e;unfold u9;refine bW (g▸hi hid ρ1 Z s σ H (λJ l=>am H l/\il Y.K (vw l hid) J ds) I ⟨D,ds,e5,λJ l B y=>⟨B,y⟩⟩) λv B U=>bW U λX s2 P=>?_
  obtain⟨it,fp,tn,J,M,rfl,V,T,i,f2,k,y⟩:=P;have l1:=z.length
  have a:RU (model Y.prog Y.w) Y.A (.compLoop (.ListComp elt [⟨t1,i1,ifs1,0⟩,⟨t2,i2,ifs2,0⟩] scope pos) 1 (.ref it) (.ref D0) Y.env) (λr s'=>match r with
   | .ok _=>Q s'
   | .error _=>False) s2:=by
   refine vW (L:=L) (W:=vw M hid) (ad0:=R) (G3:=xs) (A:=wE f) (TA:=Ad Y.prog Y.w Y.A elt (.ref D0) Y.env) h g hT F hp (λd ρ2 _=>FU g he C u E) G V (D.ext k) C N (k _ _ ac) (z.mono (aX k)) (t.trans k) (am.refl _) T i f2 y.b (by lia) e FB ?_
   intro s' m l x O o j n q S p;exact hQ s' m l x O o n q j ((aX k).trans S) p
  exact C4 a (T.self Y.A 0 _ _ _ i a)
end
section
variable {X:Cx}{c:Ct}{elt t1 t2 i1 i2:Expr}{ifs1 ifs2:List Expr}{scope:R5}{pos:Pos}{N':List Str}{m n1:Nat}{gi1 gi2:FA}{g1 g2:FG}{p1 p2:FT}{f:FE}
theorem wO(n:X.calm=true)(hk:scope.kind=.function)(hs:x6 scope X.env.scope=true)(hn:ym X.N N' scope=true)(hm:N'.length-X.N.length=m)(hT1:jz X.N.length g1)(hU1:DF n1 g1)(hn1:X.N.length<=n1)(Tm:jz n1 g2)
 (Z: ∀C a g l,∀x,QO i2 (aE X N' scope C a g l).env x=pure x)
 (hg1: ∀C a g l,tS (aE X N' scope C a g l) c t1 g1) (hp1: ∀C a g l,vy (aE X N' scope C a g l) c ifs1 p1) (hi2: ∀C a g l,DIp (aE X N' scope C a g l) c t2 i2 gi2)
 (XM: ∀C a g l,tS (aE X N' scope C a g l) c t2 g2) (hp2: ∀C a g l,vy (aE X N' scope C a g l) c ifs2 p2) (he: ∀C a g l,DP (aE X N' scope C a g l) c .s elt f) {s:O9} {ds ys:List D} {RR:O7->Addr->U9->O9->Prop}
 (I:Inv X ah σ H s) (R:SR X.K c hid ρ σ H) (T:iT X.prog X.w X.K t1 J fp it tn) (st:tn 0 s.heap) (hF: ∀b∈fp,jH X ah H b) (io:Mr X.K H (vw H hid) J ds) (hz:ys.length<=PN) (hc:pU g1 p1 (El gi2 g2 p2 f) (ρ++Pj m .no) ds=some ys)
 (hR: ∀(D C:Addr) (s':O9) (v:Hp) (xs:List V),s.heap.objs.size<=D->s.heap.objs.size<=C->D≠C->H D=none->am H v->v D=some (.lst xs)->Reps X.K (vw v (bc hid D)) xs ys->(∃m,s'.heap.Ns C m)->v C=none->s'.os=s.os->T4 s'.gens->HOk X.prog X.w v s'.heap->Un (frs X.stack) fp H v s.heap s'.heap->RR (.ref D) C (.ok .next) s'):
 Ps (model X.prog X.w) X.A (W3 []) (λacc M=>Ps (model X.prog X.w) X.A (T9 scope X.env.globals (ut X.env.cells scope.names []) [] X.env.qual none .none (some X.env)) (λt O=>
  RU (model X.prog X.w) X.A (.compStart (.ListComp elt [⟨t1,i1,ifs1,0⟩,⟨t2,i2,ifs2,0⟩] scope pos) 0 (.ref it) acc {t with scope:=T8 scope X.env}) (RR acc t.locals) O) E M) E s:=by
 refine Rf (ux λu h r j=>?_);dsimp only at h r j⊢;generalize B:s.heap.push {cls:=.type "list",dict:=none,data:=.seq ([]:List O7).toArray}=H2 at h r j⊢;have hC:H2.objs.size=s.heap.objs.size+1:=by rw[<-B,QY]
 have p:H s.heap.objs.size=none:=I.hok.fresh (Ph _);have I2:Inv X ah σ (bY H s.heap.objs.size (.lst [])) {s with heap:=H2}:=by
  rw[<-B];exact I.laid (t':=s.toks) (λb o e=>Pa _ e) (Ph _) ⟨Q3 _,[],0,.nil,Pl _ rfl⟩
 have P: ∀b∈fp,b<s.heap.objs.size:=λb k=>let⟨o,e,_⟩:=T.obj 0 s.heap st b k;Pp e
 have Q: ∀b∈fp,jH X ah (bY H s.heap.objs.size (.lst [])) b:=λb k=>⟨by rw[aP (PX (P b k))];exact(hF b k).1,(hF b k).2⟩
 have z: ∀b o,s.heap.get? b=some o->H2.get? b=some o:=λb o e=>by rw[<-B];exact Pa _ e
 have F:=ql (tk:=s.toks) (N':=N') (fp:=fp) I2 Q (λb k=>let⟨o,e,_⟩:=T.obj 0 s.heap st b k;⟨o,z b o e⟩) hk hs hn h r j;rw[hm] at F;dsimp only at F;have sr0:SR X.K c (bc hid s.heap.objs.size) (ρ++Pj m .no) (σ++Pj m none) (bY H s.heap.objs.size (.lst [])):=(R.hide (aR p _) p aT).more m;have hρ:ρ.length=X.N.length:=by rw[<-R.len];exact I.len
 have nf:hid s.heap.objs.size=false:=R.fresh p;have U:tn 0 u:=T.keep _ _ _ st λb k o e=>r b o (z b o e)
 have ST: ∀i:Nat,Ow (ρ++Pj m Sl.no)[i]? ->(σ++Pj m none)[i]? ≠some (some (V.ref s.heap.objs.size)):=(R.more m).notOw nf
 have wv:am (vw H hid) (vw (bY H s.heap.objs.size (.lst [])) (bc hid s.heap.objs.size)):=by rw[u7 p];exact am.refl _
 have S:NB X.N.length (ρ++Pj m Sl.no):=λi s hi e=>by
  rw[P4 (by lia),QG] at e;split at e
  ·cases e;rfl
  ·cases e
 have y: ∀s4:O9,s4={s with heap:=u,toks:=s.toks}->
  RU (model X.prog X.w) X.A (.compLoop (.ListComp elt [⟨t1,i1,ifs1,0⟩,⟨t2,i2,ifs2,0⟩] scope pos) 0 (.ref it) (.ref s.heap.objs.size) (VS scope (oz X.env.cells scope H2.objs.size) H2.objs.size X.env)) (RR (.ref s.heap.objs.size) H2.objs.size) s4:=by
  rintro s4 rfl;have fpY: ∀b∈fp,jH (aE X N' scope H2.objs.size {s with heap:=H2} (bY H s.heap.objs.size (.lst [])) fp) [] (bY H s.heap.objs.size (.lst [])) b:=λb k=>
   ⟨(Q b k).1,(F.ok.exf b k).1,F.ok.exfs b k,.inl k,(F.ok.exf b k).2,λq hq=>by have XL:q∈([]:List (Addr×Obj))++[]:=hq;simp at XL⟩
  refine vW (Y:=aE X N' scope H2.objs.size {s with heap:=H2} (bY H s.heap.objs.size (.lst [])) fp) (L:=H) (hid:=bc hid s.heap.objs.size) (W:=vw H hid) (ad0:=[]) (G3:=[]) (A:=El gi2 g2 p2 f) (TA:=u9 X.prog X.w X.A (.ListComp elt [⟨t1,i1,ifs1,0⟩,⟨t2,i2,ifs2,0⟩] scope pos) i2 (.ref s.heap.objs.size) (VS scope (oz X.env.cells scope H2.objs.size) H2.objs.size X.env))
   n rfl hT1 (hg1 _ _ _ _) (hp1 _ _ _ _) (λd ρ1 e=>BI (Y:=aE X N' scope H2.objs.size {s with heap:=H2} (bY H s.heap.objs.size (.lst [])) fp) n rfl Tm (λi s hi e'=>?_) (hi2 _ _ _ _) (XM _ _ _ _) (hp2 _ _ _ _) (he _ _ _ _) fL (R.fresh0 p) p) S F sr0 fL ST aT .nil (aR p _) wv T U fpY io (by simpa using hz) hc (BD (Z H2.objs.size {s with heap:=H2} (bY H s.heap.objs.size (.lst [])) fp)) ?_
  ·rw[hU1 _ _ _ e i hi] at e';exact S i s (by lia) e'
  ·intro s' σ' v xs G _ XN hx' Ty _ _;have XV:Un (frs X.stack) fp H (bY H s.heap.objs.size (.lst [])) s.heap H2:=Un.laid (λb o e=>z b o e) (Ph _) p;exact hR s.heap.objs.size H2.objs.size s' v xs (Ph _) (by rw[hC];exact TX _) (by rw[hC];exact PX (QM _)) p XN hx' Ty (let⟨m,hm,_⟩:=G.loc;⟨m,hm⟩) G.free G.os G.bare G.hok (XV.trans G.base)
 exact Ua (y _ rfl) (T.self X.A 0 _ _ _ U (y _ rfl))
theorem iU(r:X.calm=true)(n1:Nat)(hT1:jz X.N.length g1)(hU1:DF n1 g1)(Y:jz n1 g2)(hi:M2 X c t1 i1 gi1)
 (hg1: ∀C a g i,tS (aE X N' scope C a g i) c t1 g1) (hp1: ∀C a g i,vy (aE X N' scope C a g i) c ifs1 p1) (hi2: ∀C a g i,DIp (aE X N' scope C a g i) c t2 i2 gi2)
 (Tm: ∀C a g i,tS (aE X N' scope C a g i) c t2 g2) (hp2: ∀C a g i,vy (aE X N' scope C a g i) c ifs2 p2) (he: ∀C a g i,DP (aE X N' scope C a g i) c .s elt f)
 (hk:scope.kind=.function:=by rfl) (W:x6 scope X.env.scope=true:=by kernel_rfl) (hn:ym X.N N' scope=true:=by kernel_rfl) (hm:N'.length-X.N.length=m:=by rfl) (Ty:X.N.length<=n1:=by exact Pg rfl) (M: ∀x,QO i1 X.env x=pure x:=by intro _;rfl)
 (t: ∀C a g i,∀x,QO i2 (aE X N' scope C a g i).env x=pure x:=by intros;rfl):
 DP X c .n (.ListComp elt [⟨t1,i1,ifs1,0⟩,⟨t2,i2,ifs2,0⟩] scope pos) (jG m gi1 g1 p1 gi2 g2 p2 f):=by
 intro hid ρ ah s σ H Q I hq;obtain⟨sr,d,hd,q⟩:=hq;obtain⟨ds,ys,e1,hc,hz,rfl⟩:=Cm hd;rw[Z8];refine SI (use:=none) rfl M (fu λx S=>I.ok.has x (iM W x S)) hk (lc W) ?_
 refine bW (hi hid ρ ah s σ H (λJ j=>am H j/\Mr X.K j (vw j hid) J ds) I ⟨sr,ds,e1,λJ j s1 io=>⟨s1,io⟩⟩) λv s1 F=>bW F λitv s2 l=>?_
 obtain⟨it,fp,tn,J,H2,rfl,I2,T,V,G,sm,io⟩:=l;refine wO (RR:=λacc C=>Zx (model X.prog X.w) X.A X.xe none (EP X ah σ Q) acc C) r hk W hn hm hT1 hU1 Ty Y t hg1 hp1 hi2 Tm hp2 he I2 (sr.ext sm) T V G io hz hc ?_
 intro D C s' j xs hDge E hDC hD XL S rp ⟨mm,hns⟩ Z U y ST h;refine⟨mm,hns,λh' k=>⟨.ref D,j,?_,rfl,q _ j (sm.trans XL) ⟨D,xs,ys,rfl,rfl,sm.free hD,S,rp⟩⟩⟩;have p: ∀b o,s2.heap.get? b=some o->b≠C:=λb o e z=>by subst z;exact absurd (Pp e) (Tn.mpr E)
 have L:Un (frs X.stack) fp H2 j s2.heap h':=⟨λb o e n F l=>(k.2 b (p b o e)).trans (h.keep b o e n F l),λb o e n F l=>let⟨sl,z⟩:=h.slot b o e n F l;⟨sl,(k.2 b (p b o e)).trans z⟩,h.free,λb o e l=>let⟨P,z⟩:=h.there b o e l;⟨P,(k.2 b (p b o e)).trans z⟩,h.tups,h.frzs,h.tbls⟩
 have B:HOk X.prog X.w j h':=λb o e=>by
  have nb: ∀b' P,j b'=some P->b'≠C:=λb' P e' z=>by subst z;rw[Z] at e';cases e'
  refine(ST b o e).stay (λc' u R z=>(k.2 c' ?_).trans z) (λ_ z=>z) λ_ _ z=>z
  rcases R with z'|z'
  ·rw[z'];exact nb b o e
  ·exact nb c' _ z'
 exact I2.call' (s':={s' with heap:=h'}) (ch:=fp) U L B y λb O=>⟨(G b O).2.2.2.1,(G b O).2.1,(G b O).2.2.2.2.1,(G b O).2.2.2.2.2⟩
end
def ma(ds:List D)(a b:Option Int):List D:=(ds.drop (HT.sIx ds.length 0 a)).take (HT.sIx ds.length ds.length b-HT.sIx ds.length 0 a)
theorem xg {K:Pk}(r:Reps K F xs ds)(b a:Option Int):Reps K F (BV xs b a) (ma ds b a):=by
 unfold BV ma;rw[r.length];exact(r.drop _).take _
abbrev FO:=aF->Option (Option Int)
def ON(K:Pk)(c:Ct)(hid:bM)(f:FO)(ρ:aF):TO:=λσ H Q=>SR K c hid ρ σ H/\ ∃o,f ρ=some o/\ ∀a,am H a->Q o a
def DO(X:Cx)(c:Ct)(e:Option Expr)(f:FO):Prop:= ∀hid ρ,PO X e (ON X.K c hid f ρ)
theorem PO.imp {X:Cx}(h:PO X e t)(i: ∀σ H Q,t' σ H Q->t σ H Q):PO X e t':=λa s σ H Q I q=>h a s σ H Q I (i σ H Q q)
section
variable {X:Cx}{c:Ct}{e a b:Expr}{f g:FE}{k:Kd}{pos p2:Pos}{lo hi:Option Expr}{l u:FO}
def nR:FO:=λ_=>some none
def jU(f:FE):FO:=λρ=>(f ρ).bind λd=>match d with
 | .int i=>some (some i)
 |_=>none
theorem eQ:DO X c none nR:=λhid ρ=>PO.imp HZ λσ H Q ⟨a,o,e,q⟩=>by cases e;exact q H (am.refl _)
theorem c9(h:DP X c k e f):DO X c (some e) (jU f):=λhid ρ=>PO.imp (Gu (h hid ρ)) λσ H Q g=>by
 obtain⟨j,o,e,q⟩:=g;unfold jU at e;cases e1:f ρ with
 |none=>rw[e1] at e;cases e
 |some d=>
  rw[e1] at e;cases d with
  |int i=>
   cases e;refine⟨j,_,e1,λv l s r=>⟨i,?_,q l s⟩⟩;exact(RK.b k r λa n=>j.fresh n).int
  |_=>cases e
def fA(f:FE)(l u:FO):FE:=λρ=>(f ρ).bind λd=>match d with
 | .lst ds=>(l ρ).bind λa=>(u ρ).map λb=>.lst (ma ds a b)
 |_=>none
theorem ie(E:DP X c k e f)(C:DO X c o l)(x:DO X c r u):DP X c .n (.Subscript e (.Slice o r none p2) pos) (fA f l u):=λhid ρ=>
 PE.imp (vE Aq (E hid ρ) (C hid ρ) (x hid ρ)) λσ H Q m=>by
  obtain⟨i,d,g,q⟩:=m;unfold fA at g;cases e1:f ρ with
  |none=>rw[e1] at g;cases g
  |some z=>
   rw[e1] at g;cases z with
   |lst ds=>
    have g:((l ρ).bind λo=>(u ρ).map λr=>D.lst (ma ds o r))=some d:=g;cases e2:l ρ with
    |none=>rw[e2] at g;cases g
    |some s=>
     rw[e2] at g;cases e3:u ρ with
     |none=>rw[e3] at g;cases g
     |some t=>
      rw[e3] at g;cases g;refine⟨i,_,e1,λv F h A=>⟨i.ext h,s,e2,λG s2=>⟨(i.ext h).ext s2,t,e3,λI j=>?_⟩⟩⟩;obtain⟨a,xs,rfl,B,y⟩:=((RK.b k A λa n=>i.fresh n).ext (s2.trans j)).lst;exact⟨a,xs,rfl,B,λp w=>q _ _ ((h.trans (s2.trans j)).trans (aR w _)) (fZ w (h.trans (s2.trans j)) (xg y s t))⟩
   |_=>cases g
end
end L2
namespace PySem
open Sem (wp)
open AutoSeq1 (wpAny_loadPart')
section
variable {prog:Qc}{w:Qv}{A:Qe}{E:O7->O9->Prop}{s:O9}
theorem qB{us}(a:s.heap.IsTupleIter it t i)(j:s.heap.IsTuple t us)(h:us[i]? =some x)
 (k: ∀g,g.IsTupleIter it t (i+1)->Qn it s.heap g->Q x {s with heap:=g}):Ps (model prog w) A (Rn (.ref it)) Q E s:=by
 obtain⟨o,c,f,b⟩:=id a;obtain⟨m,e,_,l,d⟩:=j;unfold Rn;refine O4 (Ry (name:=Tq "__next__") a.typeIs So (QN So a.typeIs U1 (show Ps _ _ (ZH (.ref it) 0>>=_) _ _ s from O4 (SE c b (x:=.ref t) rfl ?_)) (UL _)));show Ps _ _ (if(QW t==Qk)=true then _ else _) _ _ s;rw[if_neg (show¬((QW t==Qk)=true) from S6)];refine(show Ps _ _ (ZH (.ref it) 1>>=_) _ _ s from O4 (SE c b (x:=.int i 0) rfl (show Ps _ _ (seqItems? (.ref t)>>=_) _ _ s from O4 (U7 e d ?_))));simp only[Rc,h];exact O4 (Ud c b (by simp) (O8 ⟨x,rfl,O8 (k _ ⟨_,Qy _ c (Te (Sq b _)),(Vv ..).trans f,by rw[Sq b];simp[T5]⟩ (QR ..))⟩))
theorem rW{us}(hh:A.handled=none)(hit:s.heap.IsTupleIter it t i)(ht:s.heap.IsTuple t us)(hx:us[i]? =none)
 (hE: ∀g e,Vw it s.heap g->(∃o,g.get? e=some o/\o.cls=.type "StopIteration")->E (.ref e) {s with heap:=g}):Ps (model prog w) A (Rn (.ref it)) Q E s:=by
 obtain⟨o,ho,hc,hd⟩:=id hit;obtain⟨ot,hot,_,nt,hdt⟩:=ht;unfold Rn;refine O4 (Ry (name:=Tq "__next__") hit.typeIs So (QN So hit.typeIs U1 (show Ps _ _ (ZH (.ref it) 0>>=_) _ _ s from O4 (SE ho hd (x:=.ref t) rfl ?_)) (UL _)));show Ps _ _ (if(QW t==Qk)=true then _ else _) _ _ s;rw[if_neg (show¬((QW t==Qk)=true) from S6)];refine(show Ps _ _ (ZH (.ref it) 1>>=_) _ _ s from O4 (SE ho hd (x:=.int i 0) rfl (show Ps _ _ (seqItems? (.ref t)>>=_) _ _ s from O4 (U7 hot hdt ?_))));simp only[Rc,hx];refine O4 (XH (O4 (Ud ho hd (by simp) (show Ps _ _ (newExc (.type "StopIteration") []>>=_) _ _ _ from O4 ?_))));simp only[newExc,newTuple];refine O4 (Rf ?_ (by size_fits));refine O4 (m:=Ve _ _) (WR (a:=Qk) (by first|rfl|(simp only[Ve];rfl)) (Rf ?_ (by size_fits)));simp only[raiseNew];refine O4 (wpAny_handled ?_)
 first|rw[show A.in1.handled=none from hh]|rw[hh]
 exact O4 (O8 (wpAny_throw (hE _ _ (((QR ..).extBut.push _).push _) ⟨_,Pl _ rfl,rfl⟩)))
theorem uT{x old:O7}{N:Heap->Prop}(R:Wj s.heap e it i old)(q:e≠it)(O: ∀g g',N g->(∀o,g.get? it=some o->g'.get? it=some o)->N g')
 (nx: ∀(Y:Qe) (W:O7->O9->Prop) (Z:O7->O9->Prop),(∀g,N g->Qn it s.heap g->W x {s with heap:=g})->Ps (model prog w) Y (Rn (.ref it)) W Z s)
 (hQ: ∀g,IsEnumOut g e it ((i:Int)+1) x s.heap.objs.size->N g->g.get? s.heap.objs.size=some {cls:=.type "tuple",data:=.seq #[.int i s.toks,x]}->g.objs.size=s.heap.objs.size+1->
   (∀b o,b≠e->b≠it->s.heap.get? b=some o->g.get? b=some o)->Q (some (.ref s.heap.objs.size)) {s with heap:=g,toks:=s.toks+1}):Ps (model prog w) A (Ts (.ref e)) Q E s:=by
 have X:s.TypeIs (.ref e) "enumerate":=⟨_,R,rfl⟩
 unfold Ts;refine O4 (VH (Ry (name:=Tq "__next__") X Tf (QN Tf X Wk ?_ (VW _))));obtain⟨F,J,K,tk,os⟩:=s;refine(show Ps _ _ (ZH (.ref e) 2>>=_) _ _ _ from O4 (SE R rfl (x:=.ref it) rfl (O4 (nx _ _ _ λc P l=>?_))));replace l:Qn it F c:=l;have u:Wj c e it i old:=(l.2 e q).trans R;refine(show Ps _ _ (ZH (.ref e) 3>>=_) _ _ ⟨c,J,K,tk,os⟩ from O4 (SE u rfl (x:=T5 i) rfl ?_));refine(show Ps _ _ (ZH (.ref e) 4>>=_) _ _ ⟨c,J,K,tk,os⟩ from O4 (SE u rfl (x:=.none) rfl ?_));refine(show Ps _ _ (mkInt i>>=_) _ _ ⟨c,J,K,tk,os⟩ from O4 (wpAny_mkInt ?_));refine(show Ps _ _ (setField (.ref e) 3 (T5 ((i:Int)+1))>>=_) _ _ ⟨c,J,K,tk+1,os⟩ from O4 (S7 u (by simp) λn B j=>?_));replace j:Qn e c n:=j;replace B:Wj n e it ((i:Int)+1) old:=B;refine(show Ps _ _ (setField (.ref e) 4 .none>>=_) _ _ ⟨n,J,K,tk+1,os⟩ from O4 (S7 B (by simp) λa D k=>?_));replace k:Qn e n a:=k;replace D:Wj a e it ((i:Int)+1) old:=D;refine(show Ps _ _ (newTuple [.int i tk,x]>>=_) _ _ ⟨a,J,K,tk+1,os⟩ from O4 (ZC ?_));have v:a.objs.size=F.objs.size:=by rw[k.1,j.1,l.1]
 have U:e<F.objs.size:=Pp R;have m:Wj (a.push {cls:=.type "tuple",data:=.seq #[.int i tk,x]}) e it ((i:Int)+1) old:=Pa _ D;have G:N (a.push {cls:=.type "tuple",data:=.seq #[.int i tk,x]}):=O _ _ P λo T=>Pa _ (k.extBut _ _ (Qu q) (j.extBut _ _ (Qu q) T))
 have L:(a.push {cls:=.type "tuple",data:=.seq #[.int i tk,x]}).get? F.objs.size=some {cls:=.type "tuple",data:=.seq #[.int i tk,x]}:=by rw[<-v];exact Pl _ rfl
 have H:(a.push {cls:=.type "tuple",data:=.seq #[.int i tk,x]}).objs.size=F.objs.size+1:=by rw[QY,v]
 have I: ∀b o,b≠e->b≠it->F.get? b=some o->(a.push {cls:=.type "tuple",data:=.seq #[.int i tk,x]}).get? b=some o:=λb o M S V=>Pa _ (k.extBut b o M (j.extBut b o M (l.extBut b o S V)))
 generalize a.push {cls:=.type "tuple",data:=.seq #[.int i tk,x]}=g₄ at m G L H I;rw[v];refine(show Ps _ _ (Tz (.ref e)>>=_) _ _ ⟨g₄,J,K,tk+1,os⟩ from O4 ?_);unfold Tz;refine O4 (SE m rfl (x:=.none) rfl (O8 ?_));simp only[if_true];refine O4 (XH (O4 (SE m rfl (x:=old) rfl (O4 (S7 m (by simp) λp z f=>?_)))));replace f:Qn e g₄ p:=f;replace z:Wj p e it ((i:Int)+1) x:=z;refine(show Ps _ _ (Tt (.ref e) (.ref F.objs.size)>>=_) _ _ ⟨p,J,K,tk+1,os⟩ from O4 ?_);unfold Tt;refine O4 (S7 z (by simp) λr C h=>?_);replace h:Qn e p r:=h;replace C:IsEnumOut r e it ((i:Int)+1) x F.objs.size:=C;refine S7 C (by simp) λy t d=>?_
 replace d:Qn e r y:=d;replace t:IsEnumOut y e it ((i:Int)+1) x F.objs.size:=t;refine O4 (wpAny_letGo (O8 ⟨_,rfl,O8 (hQ y t (O _ _ G λo T=>?_) ?_ ?_ λb o M S V=>?_)⟩))
 ·exact d.extBut _ _ (Qu q) (h.extBut _ _ (Qu q) (f.extBut _ _ (Qu q) T))
 ·exact d.extBut _ _ (RF U) (h.extBut _ _ (RF U) (f.extBut _ _ (RF U) L))
 ·rw[d.1,h.1,f.1,H]
 ·exact d.extBut b o M (h.extBut b o M (f.extBut b o M (I b o M S V)))
theorem vV(c:Wj s.heap e it i old)
 (nx: ∀(f:Qe),f.handled=A.handled-> ∀(n:O7->O9->Prop) (d:O7->O9->Prop),(∀g x,Vw it s.heap g->(∃o,g.get? x=some o/\o.cls=.type "StopIteration")->d (.ref x) {s with heap:=g})->Ps (model prog w) f (Rn (.ref it)) n d s)
 (m: ∀g,Vw it s.heap g->Q none {s with heap:=g}):Ps (model prog w) A (Ts (.ref e)) Q E s:=by
 have a:s.TypeIs (.ref e) "enumerate":=⟨_,c,rfl⟩
 unfold Ts;refine O4 (VH (Ry (name:=Tq "__next__") a Tf (QN Tf a Wk (show Ps _ _ (ZH (.ref e) 2>>=_) _ _ _ from O4 (SE c rfl (x:=.ref it) rfl (O4 (nx A.in1 rfl _ _ λg x k l=>?_)))) (VW _))));obtain⟨o,h,j⟩:=l;exact O4 (Tr (T:="StopIteration") (b:=true) ⟨o,h,j⟩ ZI (O8 (m _ k)))
end
set_option maxHeartbeats 1000000 in
theorem uU(l:Addr)(us:Array O7)(n:Nat)(b:Option Addr)(i:Array (Option O7)):
 Meets (Sw.«enumerate.__new__» ⟨[.type "enumerate",.ref l],[]⟩) (λ_ R s=>s.heap.get? l=some {cls:=.type "tuple",dict:=b,data:=.seq us n,slots:=i}/\
  R (.ok (.ret (.ref (s.heap.push {cls:=.type "tuple_iterator",data:=.fields #[.ref l,.int 0 0]}).objs.size)))
   {s with heap:=(s.heap.push {cls:=.type "tuple_iterator",data:=.fields #[.ref l,.int 0 0]}).push {cls:=.type "enumerate",data:=.fields #[.none,.bool false,.ref s.heap.objs.size,T5 0,.none,.none]}}):=
 .of_wp λprog w A R s h=>by
  obtain⟨j,g,d,tk,os⟩:=s;obtain⟨a,h⟩:=h;have f:=sub_enumerate;have e:Heap.IsTuple (Shared.heap ⟨j,g,d,tk,os⟩) l us:=⟨_,a,rfl,n,rfl⟩
  wp_walk using SA a
  refine wpAny_stack_any λst=>O8 ?_
  split
  ·rename_i c _ _ _ _ _
   cases (c==XD "enumerate")
   ·wp_walk using SA a,TQ e
    exact⟨_,rfl,h⟩
   ·wp_walk using SA a,TQ e
    exact⟨_,rfl,h⟩
  ·wp_walk using SA a,TQ e
   exact⟨_,rfl,h⟩
section
variable {prog:Qc}{w:Qv}{A:Qe}{E:O7->O9->Prop}{s:O9}
theorem rZ(p:s.heap.IsTuple l us)
 (h: ∀g,Wj g (s.heap.objs.size+1) s.heap.objs.size 0 .none->g.IsTupleIter s.heap.objs.size l 0->g.objs.size=s.heap.objs.size+2->(∀b o,s.heap.get? b=some o->g.get? b=some o)->Q (.ref (s.heap.objs.size+1)) {s with heap:=g}):
 Ps (model prog w) A (call (.type "enumerate") [.ref l]) Q E s:=by
 obtain⟨⟨cls,d,e,k⟩,m,f,n,a⟩:=p;have f:cls=.type "tuple":=f;have a:e=.seq us n:=a;subst f a;refine callType_new F.called_enumerate (by decide) (F.typeCall_enumerate_1 _) (F.newCall_enumerate_1 _) (λc=>F.args_object_init_2 c _) F.entry_enumerate_new (uU l us n d k) ⟨m,?_⟩;have i:(s.heap.push {cls:=.type "tuple_iterator",data:=.fields #[.ref l,.int 0 0]}).objs.size=s.heap.objs.size+1:=QY ..;show _/\_;rw[i];have j:Wj ((s.heap.push {cls:=.type "tuple_iterator",data:=.fields #[.ref l,.int 0 0]}).push {cls:=.type "enumerate",data:=.fields #[.none,.bool false,.ref s.heap.objs.size,T5 0,.none,.none]}) (s.heap.objs.size+1) s.heap.objs.size 0 .none:=by
  have:=Pl (s.heap.push {cls:=.type "tuple_iterator",data:=.fields #[.ref l,.int 0 0]}) (o:={cls:=.type "enumerate",data:=.fields #[.none,.bool false,.ref s.heap.objs.size,T5 0,.none,.none]}) rfl;rw[i] at this;exact this
 exact⟨⟨_,j,rfl⟩,h _ j ⟨_,Pa _ (Pl _ rfl),rfl,rfl⟩ (by rw[QY,i]) λb o x=>Pa _ (Pa _ x)⟩
end
end PySem
namespace L2
open PySem PySem.Spec PyProof.Rows
def Oy(K:Pk)(a:Addr):It:=
 ⟨λi H=> ∃xs x,SqT K H a xs/\xs[i]? =some x,λi H x b=> ∃T,x=.ref T/\H T=none/\ ∀xs,SqT K H a xs-> ∃y,xs[i]? =some y/\b=bY H T (.tup [.int i,y]),λi H=> ∃xs,SqT K H a xs/\xs.length<=i⟩
theorem zw{K:Pk}{x1}(a it e:Addr)(t:e≠it):iT P w K (.Tuple es x1 pos) (Oy K a) [e,it] e (λi h=>(∃old,Wj h e it i old)/\h.IsTupleIter it a i) where
 mem:=by simp
 obj:=λi h st b d=>by
  obtain⟨⟨old,f⟩,o,ho,W,hd⟩:=st;rcases PD.mp d with rfl|d
  ·exact⟨_,f,λv z=>by cases z⟩
  ·have:b=it:=by simpa using d
   subst this;exact⟨o,ho,λv z=>by rw[hd] at z;cases z⟩
 keep:=λi h h' st k=>by
  obtain⟨⟨old,f⟩,c⟩:=st;exact⟨⟨old,k e (by simp) _ f⟩,c.at λo x=>k it (by simp) o x⟩
 item:=by
  intro X hP hw hK W i O s σ H E I Q st R;subst hP hw hK;obtain⟨xs,x,L,T⟩:=R;obtain⟨A,rv,p,hz⟩:=I.tuple L;obtain⟨u,hu,ru⟩:=rv.get T;obtain⟨⟨old,f⟩,c⟩:=st;obtain⟨e0,e1,e2,e3,e4,e5⟩:=Q e (by simp);obtain⟨M,f1,f2,U,Z,f5⟩:=Q it (by simp);have ht:s.heap.IsTuple a A.toArray:=p;refine uT (x:=u) (N:=λg=>g.IsTupleIter it a (i+1)) f t (λg g' n k=>n.at k) (λA' Q' E' C=>qB c ht (by simpa using hu) λg n b=>C g n b) λg J l hT hsz hk=>⟨_,rfl,?_⟩
  refine wpAny_letOwnedTupleGo_enum J λg' he' j=>?_
  have B:e<s.heap.objs.size:=Pp f;have k2: ∀b o,b≠e->b≠it->s.heap.get? b=some o->g'.get? b=some o:=λb o h1 h2 h3=>(j.2 b h1).trans (hk b o h1 h2 h3)
  have V:g'.get? s.heap.objs.size=some {cls:=.type "tuple",data:=.seq #[.int i s.toks,u]}:=(j.2 _ (RF B)).trans hT;have hn:H s.heap.objs.size=none:=I.hok.fresh (Ph _);have S:Inv X O σ (bY H s.heap.objs.size (.tup [.int i,x])) {s with heap:=g',toks:=s.toks+1}:=by
   obtain⟨F,hoi,hci,Y⟩:=id (show g'.IsTupleIter it a (i+1) from l.at λo y=>(j.2 it (Qu t)).trans y);obtain⟨os0,m,_⟩:=id c;have ilt:it<s.heap.objs.size:=Pp m;have I0:Inv X O σ (bY H s.heap.objs.size (.tup [.int i,x])) {s with heap:=s.heap.push {cls:=.type "tuple",data:=.seq #[.int i s.toks,u]},toks:=s.toks+1}:=
    I.laid (t':=s.toks+1) (λb o q=>Pa _ q) (Ph _) (show ci X.prog X.w _ _ _ (.tup [.int i,x]) from
     ⟨S5 (kW (by simp)),[.int i s.toks,u],.cons ⟨_,rfl⟩ (.cons ru .nil),⟨_,Pl _ rfl,rfl,_,rfl⟩,_,Pl _ rfl,rfl⟩)
   have u1:((s.heap.push {cls:=.type "tuple",data:=.seq #[.int i s.toks,u]}).update it λ_=>F).get? it=some F:=Qy (λ_=>F) (Pa _ m) (Te Y);have S:Inv X O σ (bY H s.heap.objs.size (.tup [.int i,x])) {s with heap:=(s.heap.push {cls:=.type "tuple",data:=.seq #[.int i s.toks,u]}).update it λ_=>F,toks:=s.toks+1}:=
    I0.turned (t':=s.toks+1) (λb o d q=>(R8 _ _ (Qu d)).trans q) (by rw[aP (PX ilt)];exact M) f1 U Z f5
   refine S.turned (t':=s.toks+1) (λb o d q=>?_) (by rw[aP (PX B)];exact e0) e1 e3 e4 e5
   by_cases D:b=it
   ·subst D;have r:((s.heap.push {cls:=.type "tuple",data:=.seq #[.int i s.toks,u]}).update b λ_=>F).get? b=some o:=q;rw[u1] at r;cases r;exact hoi
   ·have r:((s.heap.push {cls:=.type "tuple",data:=.seq #[.int i s.toks,u]}).update it λ_=>F).get? b=some o:=q;rw[R8 _ _ (Qu D)] at r
    by_cases G:b=s.heap.objs.size
    ·subst G;rw[Pl _ rfl] at r;cases r;exact V
    ·rw[Heap.get?_push_ne _ _ _ G] at r;exact k2 b o d D r
  refine⟨.ref s.heap.objs.size,bY H s.heap.objs.size (.tup [.int i,x]),S,rfl,⟨_,rfl,hn,λys hy=>⟨x,by rw[I.tuple_inj hy L];exact T,rfl⟩⟩,⟨⟨u,by simpa using he'⟩,l.at λo y=>(j.2 it (Qu t)).trans y⟩,λb d=>?_⟩;rcases PD.mp d with rfl|d
  ·rw[aP (PX B)];exact e0
  ·have:b=it:=by simpa using d
   subst this;obtain⟨o,ho,_⟩:=c;rw[aP (PX (Pp ho))];exact M
 done:=by
  intro X hP hw hK W i O s σ H E I Q st R;subst hP hw hK;obtain⟨xs,L,T⟩:=R;obtain⟨A,rv,p,hz⟩:=I.tuple L;obtain⟨⟨old,f⟩,c⟩:=st;obtain⟨M,f1,f2,U,Z,f5⟩:=Q it (by simp);have hl:=rv.length;have hh:=I.ok.hd W;refine vV f (λA' hA' Q' E' C=>rW (hA'.trans hh) c (show s.heap.IsTuple a A.toArray from p) (by simp;lia) C) λg k=>⟨rfl,I.turned (t':=s.toks) (λb o d z=>k b o d z) M f1 U Z f5⟩
 self:=λ_ _ _ _ _ st h=>let⟨⟨_,f⟩,_⟩:=st;Yb f h
section
variable {X:Cx}{c:Ct}{k:Kd}{es:List Expr}{x1:Nat}{tp pos p:Pos}
def zg(ds:List D):List D:=(O5 ds.length).map λ(i:Nat)=>D.tup [.int i,ds.getD i .non]
def Jv(f:FE):FA:=λρ=>(f ρ).bind λd=>match d with
 | .tup ds=>some (zg ds)
 |_=>none
theorem Bq {K:Pk}(b:SqT K W a xs)(f:Reps K W xs ds):il K W (Oy K a) (zg ds):=by
 have l:=f.length;have h:(zg ds).length=ds.length:=by simp[zg]
 refine⟨λi d H e s=>?_,λH s=>⟨_,am.seqT s b,by rw[h,<-l];exact Ph _⟩⟩;have u:i<ds.length:=by rw[<-h];exact(Pu.mp e).1
 have m:xs[i]? =some xs[i]:=Pd (by lia);refine⟨⟨_,xs[i],am.seqT s b,m⟩,λy A ⟨T,j,c,w⟩=>?_⟩;subst j;obtain⟨z,v,q⟩:=w _ (am.seqT s b);subst q;refine⟨aR c _,λhid r t=>?_⟩;have x:hid T=false:=by
  cases eh:hid T with
  |false=>rfl
  |true=>obtain⟨o,g⟩:=r T eh;rw[c] at g;cases g
 obtain⟨d',n,k⟩:=f.get' v;have p:d=.tup [.int i,d']:=by
  unfold zg at e;rw[P5,UP u] at e;have:ds.getD i .non=d':=by simp[Qd,n]
  rw[S9,this] at e;exact(Qi e).symm
 rw[p];exact rA c x (.cons .int (.cons (k.mono t) .nil))
theorem Fh {a:Expr}(h:DP X c .s a f)(M:X.mg "enumerate"=none)(B:Gl X "enumerate":=by rfl)(t:Pv [a] X.env=[(false,eval a X.env)]:=by rfl):DIp X c (.Tuple es x1 tp) (.Call (.Name "enumerate" p) [a] [] pos) (Jv f):=by
 intro hid ρ O s σ H R I D;obtain⟨J,ds,i,q⟩:=D;unfold Jv at i;cases e1:f ρ with
 |none=>rw[e1] at i;cases i
 |some z=>
  rw[e1] at i;cases z with
  |tup us=>
   cases i;refine Call_ (qW (u:=.type "enumerate") I B M (by kernel_rfl) (Ti (bW (c8 (h hid ρ) fV t pos O s σ H (λvs l=> ∃v,vs=[v]/\am H l/\Rep X.K (vw l hid) v (.tup us)) I ⟨J,_,e1,λv l s' r=>⟨v,rfl,s',r⟩⟩) λvs j ⟨S,y,d,F,w,e,s',r⟩=>?_) t rfl));subst e;cases F with
   |cons G C=>
    cases C;cases r with
    |tup A E=>
     cases G;obtain⟨k,Q,L,P⟩:=d.tuple (am.seqT (dq _ _) A);refine rZ (show j.heap.IsTuple _ k.toArray from L) λg x n hsz N=>?_
     refine Yb x ⟨_,[j.heap.objs.size+1,j.heap.objs.size],_,_,y,rfl,d.kept (t':=j.toks) λb o e=>N b o e,zw _ _ _ (RF (QM _)),⟨⟨_,x⟩,n⟩,λb m=>?_,q _ y s' (Bq A E)⟩;rcases PD.mp m with rfl|m
     ·exact d.fpOk (TX _) (d.hok.fresh (TX _))
     ·have:b=j.heap.objs.size:=by simpa using m
      subst this;exact d.fpOk (Ph _) (d.hok.fresh (Ph _))
  |_=>cases i
end
open PySem PySem.W PySem.Calls PyProof.Rows
def KB {α:Type}(d:α)(n:Nat):Option α:=if n<=PN then some d else none
def Oq {α:Type}(d:α)(n:Nat):Option α:=if n<PN then some d else none
theorem eK {α:Type}{d:α}{n:Nat}(h:n<=1000):KB d n=some d:=if_pos (S5 (kW h))
theorem sI {α:Type}{d:α}{n:Nat}(h:n<=1000):Oq d n=some d:=if_pos (kW h)
theorem Ie(a:FA)(ρ:aF):cx a ρ=(a ρ).bind λds=>KB (.tup ds) ds.length:=rfl
theorem nL(a:FA)(ρ:aF):bI a ρ=(a ρ).bind λds=>KB (.lst ds) ds.length:=rfl
theorem Dt(m:Nat)(a:FA)(g:FG)(p:FT)(f:FE)(ρ:aF):cb m a g p f ρ=(a ρ).bind λds=>(KB () ds.length).bind λ_=>(du g p f (ρ++Pj m .no) ds).map D.lst:=by
 unfold cb KB;congr 1;funext ds;split<;>rfl
theorem A7(bs:List D)(d:D):gB bs [d]=Oq (.non,bs++[d]) bs.length:=rfl
theorem G7(bs:List D)(i:Int):r8 bs [.int i]=(KB () bs.length).bind λ_=>(xB bs.length i).bind λj=>(bs[j]?).map λd=>(d,bs.eraseIdx j):=by
 unfold r8 KB;dsimp only;split
 ·rename_i j e
  split at e
  ·rw[if_pos ‹_›,e];rfl
  ·cases e
 ·rename_i e
  split at e
  ·rw[if_pos ‹_›,e];rfl
  ·rw[if_neg ‹_›];rfl
def Mt(ds:List D):Option (List D):=match ds with
 | [.int j]=>if j.natAbs<4000000000 then some (vz 0 j.toNat) else none
 |_=>none
theorem v6(f:FA)(ρ:aF):eW f ρ=(f ρ).bind Mt:=rfl
theorem we {j:Int}(h:j.natAbs<=1000):Mt [.int j]=some (vz 0 j.toNat):=by
 show(if j.natAbs<4000000000 then some (vz 0 j.toNat) else none)=_;rw[if_pos (by lia)]
theorem ku(i j:Int):bS (.int i) (.int j)=some (.int (i+j)):=rfl
theorem iQ(i j:Int):gR (.int i) (.int j)=some (.int (i-j)):=rfl
theorem pN(i j:Int):CQ (.int i) (.int j)=some (.bl (decide (i<j))):=rfl
theorem Av(i j:Int):M5 (.int i) (.int j)=some (.bl (decide (j<=i))):=rfl
theorem dN {i j:Int}(h:0<j):cv (.int i) (.int j)=some (.int (i % j)):=by
 unfold cv i2;dsimp only;rw[if_pos (by simpa using h)]
theorem yB {n:Nat}(h:n<10^200):n<2^1000:=Pn h (by decide)
theorem fT {i j:Int}(a:i.natAbs<10^200)(b:j.natAbs<10^200):eC (.int i) (.int j)=some (.int (i*j)):=by
 unfold eC i2;dsimp only;rw[if_pos (by rw[lR (yB a),lR (yB b)];rfl)]
theorem tD {i j:Int}(a:0<j)(b:j.natAbs<10^200):mM (.int i) (.int j)=some (.int (i / j)):=by
 unfold mM i2;dsimp only;rw[if_pos (by rw[lR a,lR (yB b)];rfl)]
theorem mB {i j:Int}(b:0<=j)(a:j<=1000000)(c:i.natAbs<2^64):fm (.int i) (.int j)=some (.int (i^j.toNat)):=by
 unfold fm i2;dsimp only;rw[if_pos (by rw[lR b,lR a,lR c];rfl)]
theorem oV(h:fz x<=32):pV x y=some (.bl (dg x y)):=if_pos h
theorem j3(h:fz x<=32):lh x y=some (.bl (!dg x y)):=if_pos h
theorem jj(i j:Int):dg (.int i) (.int j)=decide (i=j):=by
 unfold dg;rw[P2];simp
theorem fO(i:Int):fz (.int i)=0:=by unfold fz;rfl
structure Bag(N:Nat)(a b:Int):Prop where
 a0:0<=a
 a1:a.natAbs<10^180
 b0:0<=b
 b1:b<=N
 lo:b≠0->a.natAbs<2147483647
abbrev aG(a b:Int):List D:=[.int a,.int b]
def vf:FS:=
 aC (fy (bJ (av CQ (ai 1) (ak c6 (aa (ai 0) (aj))))) (aY (av bj (ai 0) (ai 1))) (cc))
 (aY (aD (.int 0)))
def g6:List D->Option D:=eZ .s 2 vf
def Eu:FS:=
 aC (be 2 (av cv (ak wY (aa (ak (nF 2 g6) (aa (ai 0) (aa (ai 1) (aj)))) (aj))) (av eC (av eC (av fm (aD (.int 10)) (aD (.int 60))) (av fm (aD (.int 10)) (aD (.int 60)))) (av fm (aD (.int 10)) (aD (.int 60))))))
 (aC (fy (bJ (av M5 (ai 2) (av fm (aD (.int 10)) (aD (.int 18))))) (aY (bI (aa (ai 2) (aa (aD (.int 0)) (aj))))) (cc))
 (aC (be 3 (av cv (av bS (av bS (ai 2) (av eC (aD (.int 7919)) (ai 1))) (aD (.int 17))) (aD (.int 2147483647))))
 (aC (im (b7 (eW (aa (ak lE (aa (ak c6 (aa (ai 0) (aj))) (aa (aD (.int 9)) (aj)))) (aj)))) (gN 4) (be 3 (av cv (av bS (av bS (av fm (ai 3) (aD (.int 5))) (av cv (av bj (ai 0) (ai 4)) (aD (.int 2147483629)))) (av eC (aD (.int 31)) (ai 4))) (aD (.int 2147483647)))))
 (aY (bI (aa (ai 3) (aa (aD (.int 1)) (aj))))))))
def Es:List D->Option D:=eZ .n 5 Eu
def tW:FS:=
 aC (fy (bJ (av pV (av bj (dJ 0) (aD (.int 1))) (aD (.int 0)))) (aC (be 2 (av cv (av bj (dJ 0) (aD (.int 0))) (ai 1)))
 (aC (cw (cT 0 (aD (.int 0))) (pu (av mM (av bj (dJ 0) (aD (.int 0))) (ai 1))))
 (aY (ai 2)))) (cc))
 (aC (cw (cT 0 (aD (.int 0))) (pu (av cv (av bS (av bS (av fm (av bj (dJ 0) (aD (.int 0))) (aD (.int 5))) (av eC (aD (.int 48271)) (av bj (dJ 0) (aD (.int 1))))) (aD (.int 11))) (aD (.int 2147483647)))))
 (aC (cw (cT 0 (aD (.int 1))) (pu (av bS (av bj (dJ 0) (aD (.int 1))) (aD (.int 1)))))
 (aY (av cv (av mM (av cv (av eC (av bj (dJ 0) (aD (.int 0))) (aD (.int 69621))) (aD (.int 2147483629))) (aD (.int 8))) (ai 1)))))
def gX:List D->List D->Option (D×List D):=zf .s 3 tW
def wK:FS:=
 aC (f9 2 (HS (ai 1)))
 (aC (f9 3 (bI (aj)))
 (aC (vx (bJ (av lh (dJ 2) (bI (aj)))) (cj (aK 3 1 gB (cS (aK 2 1 r8 (cS (aK 0 1 gX (b7 (aa (ak c6 (aa (dJ 2) (aj))) (aj)))) (b7 (aj)))) (b7 (aj))))) 16)
 (xM 3)))
def xh:List D->List D->Option (D×List D):=zf .n 4 wK
theorem dm {i m:Int}(h:0<m):0<=i % m/\i % m<m:=⟨YR _ (by lia),Xy _ h⟩
theorem mZ {N:Nat}{a b m:Int}(B:Bag N a b)(E:N<=1000000000)(c:0<m)(e:m.natAbs<10^20): ∃d l j,gX (aG a b) [.int m]=some (.int d,aG l j)/\Bag (N+1) l j/\0<=d/\d<m:=by
 have g:m.natAbs<10^200:=Pn e (by decide)
 by_cases f:b=0
 ·subst f;refine⟨a % m,a / m,0,?_,⟨YZ B.a0 (by lia),?_,by lia,by lia,λz=>absurd rfl z⟩,dm c⟩
  ·simp[gX,zf,tW,qv,aG,aC,fy,bJ,av,bj,dJ,ai,aD,oV,jj,fO,Cb,sX,xB,be,dN c,cw,pu,tD c g,cT,ji,ik,KM,aY,qO]
  ·have D:=B.a1;have:a / m<=a:=Int.ediv_le_self _ B.a0;have:0<=a / m:=YZ B.a0 (by lia);lia
 ·have n:=B.lo f;have p:a.natAbs<2^64:=T0 n (by decide);have q:b.natAbs<10^200:=Pn (show b.natAbs<10^10 by have:=B.b1;have:=B.b0;lia) (by decide);generalize k:(a^5+48271*b+11) % 2147483647=A;have h:0<=A/\A<2147483647:=by rw[<-k];exact dm (by decide)
  have C:A.natAbs<10^200:=Pn (show A.natAbs<10^10 by lia) (by decide);refine⟨A*69621 % 2147483629 / 8 % m,A,b+1,?_,⟨h.1,?_,by have:=B.b0;lia,by have:=B.b1;lia,λ_=>by lia⟩,dm c⟩
  ·have v:(48271:Int).natAbs<10^200:=Pn (show(48271:Int).natAbs<10^10 by decide) (by decide);have t:(69621:Int).natAbs<10^200:=Pn (show(69621:Int).natAbs<10^10 by decide) (by decide);have u:(8:Int).natAbs<10^200:=Pn (show(8:Int).natAbs<10^10 by decide) (by decide);have w:fm (.int a) (.int 5)=some (.int (a^5)):=mB (by decide) (by decide) p;have o:eC (.int 48271) (.int b)=some (.int (48271*b)):=fT v q;have x: ∀i:Int,cv (.int i) (.int 2147483647)=some (.int (i % 2147483647)):=λi=>dN (by decide)
   have y: ∀i:Int,cv (.int i) (.int 2147483629)=some (.int (i % 2147483629)):=λi=>dN (by decide)
   have r:eC (.int A) (.int 69621)=some (.int (A*69621)):=fT C t;have s: ∀i:Int,mM (.int i) (.int 8)=some (.int (i / 8)):=λi=>tD (by decide) u
   simp[gX,zf,tW,qv,aG,aC,fy,bJ,av,bj,dJ,ai,aD,oV,jj,fO,Cb,sX,xB,f,cc,w,o,x,y,ku,cw,pu,cT,ji,ik,KM,aY,qO,k,r,s,dN c]
  ·exact Pn (show A.natAbs<10^10 by lia) (by decide)
theorem aA{ρ ρ':aF}(h:t ρ=.nx ρ'):aC t u ρ=u ρ':=by unfold aC;rw[h]
theorem oe(h:t ρ=.rt d ρ'):aC t u ρ=.rt d ρ':=by unfold aC;rw[h]
abbrev nI(i:Nat):D:=.int (i:Int)
abbrev my(a:List Int):D:=.scr (a.map D.int)
theorem FN(n:Nat):vz 0 n=(O5 n).map nI:=by
 unfold vz;simp
theorem kJ(h:j<n):xB n (j:Int)=some j:=by
 unfold xB;rw[if_pos (by lia),if_pos (by lia)];simp
theorem Gp(a:List Int)(k:Nat): ∃c,g6 [my a,nI k]=some (.int c):=by
 by_cases h:k<a.length
 ·refine⟨a[k],?_⟩;simp[g6,eZ,vf,kv,aC,fy,bJ,av,ai,ak,aa,aj,c6,pN,Cb,h,aY,bj,sX,kJ (show k<(a.map D.int).length by simpa using h)];simp[kJ h,h]
 ·refine⟨0,?_⟩;simp[g6,eZ,vf,kv,aC,fy,bJ,av,ai,ak,aa,aj,c6,pN,Cb,h,aY,cc,aD]
theorem vY(b:List Int)(k:D)(c:D): ∀(l:List Nat),(∀i∈l,i<b.length/\i<1000)-> ∀(x:Int) (e:Sl),0<=x->x<2147483647-> ∃(d:Int) (a:Sl),0<=d/\d<2147483647/\
 fE (gN 4) (be 3 (av cv (av bS (av bS (av fm (ai 3) (aD (.int 5))) (av cv (av bj (ai 0) (ai 4)) (aD (.int 2147483629)))) (av eC (aD (.int 31)) (ai 4))) (aD (.int 2147483647)))) (l.map nI) [.v (my b),.v k,.v c,.v (.int x),e]=.nx [.v (my b),.v k,.v c,.v (.int d),a]
 | [],_,x,e,g,n=>⟨x,e,g,n,rfl⟩
 |i::l,h,x,e,g,n=>by
  obtain⟨f,t⟩:=h i (by simp);have y:fm (.int x) (.int 5)=some (.int (x^5)):=mB (by decide) (by decide) (Pn (show x.natAbs<10^10 by lia) (by decide));have q:eC (.int 31) (nI i)=some (.int (31*i)):=fT (Pn (show(31:Int).natAbs<10^10 by decide) (by decide)) (Pn (show(i:Int).natAbs<10^10 by lia) (by decide));have z: ∀i:Int,cv (.int i) (.int 2147483647)=some (.int (i % 2147483647)):=λi=>dN (by decide)
  have w: ∀i:Int,cv (.int i) (.int 2147483629)=some (.int (i % 2147483629)):=λi=>dN (by decide)
  obtain⟨A,r⟩:=dm (i:=x^5+b[i] % 2147483629+31*i) (m:=2147483647) (by decide);obtain⟨d,a,u,o,s⟩:=vY b k c l (λj p=>h j (by simp[p])) _ (.v (nI i)) A r;refine⟨d,a,u,o,?_⟩;rw[<-s];simp[fE,gN,be,av,ai,aD,y,q,z,w,bj,sX,kJ (show i<(b.map D.int).length by simpa using f),kJ f,f,ku]
theorem KA(e:List Int)(k:Nat)(P:k<=1000)(M:e.length<=63): ∃a b,Es [my e,nI k]=some (.lst (aG a b))/\Bag 1 a b:=by
 obtain⟨c,t⟩:=Gp e k;have H:fm (.int 10) (.int 60)=some (.int (10^60)):=mB (by decide) (by decide) (by decide);have u:fm (.int 10) (.int 18)=some (.int (10^18)):=mB (by decide) (by decide) (by decide);have g:((10:Int)^60).natAbs<10^200:=by decide
 have l:((10:Int)^60*10^60).natAbs<10^200:=by decide
 have D:eC (.int (10^60)) (.int (10^60))=some (.int (10^60*10^60)):=fT g g;have y:eC (.int (10^60*10^60)) (.int (10^60))=some (.int (10^60*10^60*10^60)):=fT l g;have G:eC (.int 7919) (nI k)=some (.int (7919*k)):=fT (Pn (show(7919:Int).natAbs<10^10 by decide) (by decide)) (Pn (show(k:Int).natAbs<10^10 by lia) (by decide));generalize s:(if c<0 then -c else c) % (10^60*10^60*10^60)=A;have j:0<=A/\A<10^60*10^60*10^60:=by rw[<-s];exact dm (by decide)
 have B:be 2 (av cv (ak wY (aa (ak (nF 2 g6) (aa (ai 0) (aa (ai 1) (aj)))) (aj))) (av eC (av eC (av fm (aD (.int 10)) (aD (.int 60))) (av fm (aD (.int 10)) (aD (.int 60)))) (av fm (aD (.int 10)) (aD (.int 60))))) [.v (my e),.v (nI k),.no,.no,.no]=.nx [.v (my e),.v (nI k),.v (.int A),.no,.no]:=by
  have n: ∀i:Int,cv (.int i) (.int (10^60*10^60*10^60))=some (.int (i % (10^60*10^60*10^60))):=λi=>dN (by decide)
  unfold be;have:av cv (ak wY (aa (ak (nF 2 g6) (aa (ai 0) (aa (ai 1) (aj)))) (aj))) (av eC (av eC (av fm (aD (.int 10)) (aD (.int 60))) (av fm (aD (.int 10)) (aD (.int 60)))) (av fm (aD (.int 10)) (aD (.int 60)))) [.v (my e),.v (nI k),.no,.no,.no]=some (.int A):=by
   have N:ak (nF 2 g6) (aa (ai 0) (aa (ai 1) aj)) [.v (my e),.v (nI k),.no,.no,.no]=some (.int c):=t;simp only[av,ak,aa,aj,aD,Pf,H,D,y,wY];have o:((ai 0 [.v (my e),.v (nI k),.no,.no,.no]).bind λd=>((ai 1 [.v (my e),.v (nI k),.no,.no,.no]).bind λd=>(some []).map λr=>d::r).map λr=>d::r).bind (nF 2 g6)=some (.int c):=t;rw[o];simp only[Pf,S9,n,wY,s]
  rw[this];rfl
 have F:kv 5 [my e,nI k]=[.v (my e),.v (nI k),.no,.no,.no]:=rfl;unfold Es eZ Eu;rw[F,aA B];have f:A.natAbs<10^180:=by
  have:(10:Int)^60*10^60*10^60=((10^180:Nat):Int):=by decide
  rw[this] at j;lia
 by_cases w:(10:Int)^18<=A
 ·refine⟨A,0,?_,⟨j.1,f,by decide,by decide,λz=>absurd rfl z⟩⟩;simp only[aC,fy,bJ,av,ai,R3,Rz,Pf,aD,u,Av,Cb,lR w,aY,nL,aa,aj,S9];rw[eK (by simp)]
 ·generalize q:(A+7919*(k:Int)+17) % 2147483647=x;have h:0<=x/\x<2147483647:=by rw[<-q];exact dm (by decide)
  have n:cv (.int (A+7919*(k:Int)+17)) (.int 2147483647)=some (.int x):=by rw[dN (by decide),q]
  have I:eW (aa (ak lE (aa (ak c6 (aa (ai 0) (aj))) (aa (aD (.int 9)) (aj)))) (aj)) [.v (my e),.v (nI k),.v (.int A),.v (.int x),.no]=some ((O5 (min e.length 9)).map nI):=by
   rw[v6];simp only[ak,aa,aj,ai,aD,Rz,Pf,S9,c6,lE,Pc];have:(if(9:Int)<(e.length:Int) then(9:Int) else(e.length:Int))=((min e.length 9:Nat):Int):=by split<;>lia
   rw[this,we (by lia),FN,Rc]
  obtain⟨p,m,L,O,E⟩:=vY e (nI k) (.int A) (O5 (min e.length 9)) (λi J=>by have:=O6.mp J;lia) x .no h.1 h.2;refine⟨p,1,?_,⟨L,Pn (show p.natAbs<10^10 by lia) (by decide),by decide,by decide,λ_=>by lia⟩⟩;have C:im (b7 (eW (aa (ak lE (aa (ak c6 (aa (ai 0) (aj))) (aa (aD (.int 9)) (aj)))) (aj)))) (gN 4) (be 3 (av cv (av bS (av bS (av fm (ai 3) (aD (.int 5))) (av cv (av bj (ai 0) (ai 4)) (aD (.int 2147483629)))) (av eC (aD (.int 31)) (ai 4))) (aD (.int 2147483647)))) [.v (my e),.v (nI k),.v (.int A),.v (.int x),.no]=.nx [.v (my e),.v (nI k),.v (.int A),.v (.int p),m]:=by
   unfold im b7;rw[I];exact E
  have K:fy (bJ (av M5 (ai 2) (av fm (aD (.int 10)) (aD (.int 18))))) (aY (bI (aa (ai 2) (aa (aD (.int 0)) (aj))))) (cc) [.v (my e),.v (nI k),.v (.int A),.no,.no]=.nx [.v (my e),.v (nI k),.v (.int A),.no,.no]:=by
   simp only[fy,bJ,av,ai,R3,Rz,Pf,aD,u,Av,Cb,md w,cc]
  have i2:be 3 (av cv (av bS (av bS (ai 2) (av eC (aD (.int 7919)) (ai 1))) (aD (.int 17))) (aD (.int 2147483647))) [.v (my e),.v (nI k),.v (.int A),.no,.no]=.nx [.v (my e),.v (nI k),.v (.int A),.v (.int x),.no]:=by
   simp only[be,av,ai,R3,Rz,Pf,aD,G,ku,n,Vf,List.set_cons_zero]
  rw[aA K,aA i2,aA C];simp only[aY,nL,aa,aj,ai,aD,R3,Rz,Pf,S9];rw[eK (by simp)]
theorem cM {i n:Nat}{ρ ρ1:aF}{b0 bs ds a:List D}{d:D}(c:ji i ρ=some b0)(b:fs ρ=some (ds,ρ1))(e:ji i ρ1=some bs)(f:ds.length=n)(g:M bs ds=some (d,a)):aK i n M fs ρ=some (d,ik i a ρ1):=by
 unfold aK;rw[c];dsimp only;rw[b];dsimp only;rw[e];dsimp only;rw[if_pos f,g]
theorem dO{ρ ρ1 ρ2:aF}{d:D}{ds:List D}(a:f ρ=some (d,ρ1))(b:fs ρ1=some (ds,ρ2)):cS f fs ρ=some (d::ds,ρ2):=by
 unfold cS bE;rw[a];dsimp only[SV];rw[b];rfl
theorem bV{ds:List D}(h:f ρ=some ds):b7 f ρ=some (ds,ρ):=by unfold b7;rw[h];rfl
theorem fx{d:D}(h:f ρ=some d):pu f ρ=some (d,ρ):=by unfold pu;rw[h];rfl
theorem sP {α β:Type}(f:α->β): ∀(l:List α) (j:Nat),(l.map f).eraseIdx j=(l.eraseIdx j).map f
 | [],_=>rfl
 |_::_,0=>rfl
 |x::l,j+1=>by simp[sP f l j]
theorem qT {α:Type}: ∀(l:List α) (j:Nat) (h:j<l.length),(l[j]::l.eraseIdx j).Perm l
 |_::_,0,_=>.refl _
 |x::l,j+1,h=>by
  have a:=qT l j (by simpa using h);exact(WS _ _ _).trans (a.cons x)
theorem jb: ∀r:List Nat,cJ (r.map nI)=0
 | []=>by simp[cJ]
 |a::r=>by
  rw[Pe];unfold cJ;rw[jb r];simp[fz]
theorem wS(r:List Nat):fz (.lst (r.map nI))<=32:=by unfold fz;rw[jb];lia
abbrev Ol:FS->Nat->FS:=λb n=>vx (bJ (av lh (dJ 2) (bI (aj)))) b n
abbrev sZ:FS:=cj (aK 3 1 gB (cS (aK 2 1 r8 (cS (aK 0 1 gX (b7 (aa (ak c6 (aa (dJ 2) (aj))) (aj)))) (b7 (aj)))) (b7 (aj))))
theorem Ly(n:D)(b:List D)(left a:List Nat):bJ (av lh (dJ 2) (bI (aj))) [.arg b,.v n,.own (left.map nI),.own (a.map nI)]=some (!left.isEmpty):=by
 have c:bI aj [.arg b,.v n,.own (left.map nI),.own (a.map nI)]=some (.lst []):=by
  rw[nL];simp only[aj,Pf];exact eK (by simp)
 unfold bJ av;rw[c];simp only[dJ,R3,Rz,Pf];rw[j3 (wS left)];cases left with
 |nil=>simp[Cb,dg,da]
 |cons x r=>simp[Cb,dg,da]
theorem Dg(n:D){N:Nat}(B:Bag N a b)(l:N<=1000000000)(left c:List Nat)(x:0<left.length)(u:left.length<=100)(t:c.length<=100):
 ∃(j:Nat) (k:j<left.length) (f h:Int),sZ [.arg (aG a b),.v n,.own (left.map nI),.own (c.map nI)]=.nx [.arg (aG f h),.v n,.own ((left.eraseIdx j).map nI),.own ((c++[left[j]]).map nI)]/\Bag (N+1) f h:=by
 obtain⟨d,f,h,e,p,w,y⟩:=mZ (m:=left.length) B l (by lia) (Pn (show(left.length:Int).natAbs<10^10 by lia) (by decide));obtain⟨j,rfl⟩: ∃j:Nat,d=(j:Int):=⟨d.toNat,by lia⟩
 have k:j<left.length:=by lia
 refine⟨j,k,f,h,?_,p⟩;have o:r8 (left.map nI) [.int (j:Int)]=some (nI left[j],(left.eraseIdx j).map nI):=by
  rw[G7,eK (by simp;lia)];simp only[Pf];rw[kJ (by simpa using k)];simp[k,sP]
 have s:gB (c.map nI) [nI left[j]]=some (.non,(c++[left[j]]).map nI):=by
  rw[A7,sI (by simp;lia)];simp
 have g:aK 0 1 gX (b7 (aa (ak c6 (aa (dJ 2) (aj))) (aj))) [.arg (aG a b),.v n,.own (left.map nI),.own (c.map nI)]=some (nI j,[.arg (aG f h),.v n,.own (left.map nI),.own (c.map nI)]):=by
  simp[aK,ji,b7,aa,ak,dJ,aj,c6,e,ik]
 have r:aK 2 1 r8 (cS (aK 0 1 gX (b7 (aa (ak c6 (aa (dJ 2) (aj))) (aj)))) (b7 (aj))) [.arg (aG a b),.v n,.own (left.map nI),.own (c.map nI)]=some (nI left[j],[.arg (aG f h),.v n,.own ((left.eraseIdx j).map nI),.own (c.map nI)]):=by
  refine(cM (i:=2) (n:=1) (b0:=left.map nI) (ds:=[nI j]) (ρ1:=[.arg (aG f h),.v n,.own (left.map nI),.own (c.map nI)]) rfl (dO g rfl) rfl rfl o).trans rfl
 have q:aK 3 1 gB (cS (aK 2 1 r8 (cS (aK 0 1 gX (b7 (aa (ak c6 (aa (dJ 2) (aj))) (aj)))) (b7 (aj)))) (b7 (aj))) [.arg (aG a b),.v n,.own (left.map nI),.own (c.map nI)]=some (.non,[.arg (aG f h),.v n,.own ((left.eraseIdx j).map nI),.own ((c++[left[j]]).map nI)]):=by
  refine(cM (i:=3) (n:=1) (b0:=c.map nI) (ds:=[nI left[j]]) (ρ1:=[.arg (aG f h),.v n,.own ((left.eraseIdx j).map nI),.own (c.map nI)]) rfl (dO r rfl) rfl rfl s).trans rfl
 unfold sZ cj;rw[q]
theorem IN(n:D): ∀(f:Nat) (left c:List Nat) (N:Nat) (a b:Int),left.length<f->left.length<=50->c.length+left.length<=100->Bag N a b->N+left.length<=1000000000->
 ∃(o:List Nat) (d i:Int),Ol sZ f [.arg (aG a b),.v n,.own (left.map nI),.own (c.map nI)]=.nx [.arg (aG d i),.v n,.own [],.own ((c++o).map nI)]/\o.Perm left/\Bag (N+left.length) d i
 |0,left,c,N,a,b,h,_,_,_,_=>absurd h (Wr _)
 |f+1,left,c,N,a,b,h,C,A,B,z=>by
  unfold Ol vx;rw[Ly];cases e:left.isEmpty with
  |true=>
   have:left=[]:=by simpa using e
   subst this;exact⟨[],a,b,by simp,.refl _,by simpa using B⟩
  |false=>
   have t:0<left.length:=by cases left with
    |nil=>cases e
    |cons x r=>simp
   obtain⟨j,g,q,l,w,s⟩:=Dg n B (by lia) left c t (by lia) (by lia);have E:(left.eraseIdx j).length=left.length-1:=by rw[Rw];simp[g]
   obtain⟨o,k,y,m,p,u⟩:=IN n f (left.eraseIdx j) (c++[left[j]]) (N+1) q l (by lia) (by lia) (by simp;lia) s (by lia);refine⟨left[j]::o,k,y,?_,?_,?_⟩
   ·simp only[ZK];rw[w];dsimp only;have:vx (bJ (av lh (dJ 2) (bI aj))) sZ f=Ol sZ f:=rfl;rw[this,m];simp
   ·exact(p.cons _).trans (qT left j g)
   ·rw[show N+left.length=N+1+(left.eraseIdx j).length by lia];exact u
structure Ord(n:Nat)(r:List Nat):Prop where
 perm:r.Perm (O5 n)
theorem Ord.len {n:Nat}{r:List Nat}(o:Ord n r):r.length=n:=by rw[o.perm.length_eq];simp
theorem Ord.lt(o:Ord n r){v:Nat}(h:v∈r):v<n:=by simpa using o.perm.mem_iff.mp h
theorem Ord.has(o:Ord n r){v:Nat}(h:v<n):v∈r:=o.perm.mem_iff.mpr (by simpa using h)
theorem Ord.nd {n:Nat}{r:List Nat}(o:Ord n r):r.Nodup:=o.perm.nodup_iff.mpr PV
theorem Iy {n:Nat}(h:n<=1000)(f:FE)(ρ:aF)(e:f ρ=some (nI n)):HS f ρ=some (.lst ((O5 n).map nI)):=by
 unfold HS Id;rw[e];simp only[Pf];rw[if_pos (by lia),FN];rfl
theorem mV {N:Nat}(B:Bag N a b){n:Nat}(j:n<=12)(k:N<=900000000): ∃(o:List Nat) (d c:Int),xh (aG a b) [nI n]=some (.lst (o.map nI),aG d c)/\Ord n o/\Bag (N+n) d c:=by
 obtain⟨o,d,c,e,p,g⟩:=IN (nI n) 16 (O5 n) [] N a b (by simp;lia) (by simp;lia) (by simp;lia) B (by simp;lia);refine⟨o,d,c,?_,⟨p⟩,by simpa using g⟩;have f:qv 4 (aG a b) [nI n]=[.arg (aG a b),.v (nI n),.no,.no]:=rfl;have i:f9 2 (HS (ai 1)) [.arg (aG a b),.v (nI n),.no,.no]=.nx [.arg (aG a b),.v (nI n),.own ((O5 n).map nI),.no]:=by
  unfold f9;rw[Iy (n:=n) (by lia) (ai 1) _ rfl];rfl
 have s2:f9 3 (bI (aj)) [.arg (aG a b),.v (nI n),.own ((O5 n).map nI),.no]=.nx [.arg (aG a b),.v (nI n),.own ((O5 n).map nI),.own []]:=by
  unfold f9;rw[nL];simp only[aj,Pf];rw[eK (by simp)];rfl
 unfold xh zf wK;rw[f,aA i,aA s2];have h:vx (bJ (av lh (dJ 2) (bI (aj)))) sZ 16 [.arg (aG a b),.v (nI n),.own ((O5 n).map nI),.own []]=.nx [.arg (aG d c),.v (nI n),.own [],.own (o.map nI)]:=e;rw[aA h];simp[xM,x9,qO]
theorem aB{f g:FE}{x y:D}(a:f ρ=some x)(b:g ρ=some y):av F f g ρ=F x y:=by unfold av;rw[a,Pf,b,Pf]
theorem GR{ρ ρ1 ρ2:aF}(a:f ρ=some (x,ρ1))(b:g ρ1=some (y,ρ2))(c:F x y=some d):x8 F f g ρ=some (d,ρ2):=by
 unfold x8 bE;rw[a];dsimp only[SV];rw[b];dsimp only[SV];rw[c];rfl
theorem bo {i:Nat}{f:FE}{ρ:aF}(h:f ρ=some d):be i f ρ=.nx (ρ.set i (.v d)):=by unfold be;rw[h]
theorem jq {i:Nat}{ρ ρ1:aF}{d:D}(h:f ρ=some (d,ρ1)):iS i f ρ=.nx (ρ1.set i (.v d)):=by unfold iS;rw[h]
theorem Gm {i:Nat}{ρ ρ1:aF}(h:f ρ=some (.lst ds,ρ1)):En i f ρ=.nx (ρ1.set i (.own ds)):=by unfold En;rw[h];rfl
theorem kR{ρ:aF}{ds:List D}(h:f ρ=some (.lst ds)):f9 i f ρ=.nx (ρ.set i (.own ds)):=by unfold f9;rw[h];rfl
theorem cq{ds:List D}(h:f ρ=some ds)(a:ds.length<=1000):cx f ρ=some (.tup ds):=by
 rw[Ie,h,Pf,eK a]
theorem cP {f:FA}{ds:List D}(h:f ρ=some ds)(a:ds.length<=1000):bI f ρ=some (.lst ds):=by
 rw[nL,h,Pf,eK a]
theorem ar {f:FE}{d:D}{ds:List D}(a:f ρ=some d)(b:fs ρ=some ds):aa f fs ρ=some (d::ds):=by unfold aa;rw[a,b];rfl
theorem bO{ds:List D}(h:f ρ=some ds):ak F f ρ=F ds:=by unfold ak;rw[h];rfl
theorem Jc {r:List Nat}(h:c<r.length):sX (r.map nI) (c:Int)=some (nI (r.getD c 0)):=uN (by rw[P5,Pd h];simp[Qd,h])
theorem A0 {r:List Nat}(h:c<r.length):bj (.lst (r.map nI)) (nI c)=some (nI (r.getD c 0)):=Jc h
theorem ge {r:List Nat}(h:c<r.length):bj (.tup (r.map nI)) (nI c)=some (nI (r.getD c 0)):=Jc h
theorem jd(a b:Nat):dg (nI a) (nI b)=decide (a=b):=by
 rw[jj];rw[P2];simp;lia
theorem NV(a b:Nat):bS (nI a) (nI b)=some (nI (a+b)):=by rw[ku];simp
theorem CO(a:Nat):bS (nI a) (.int 1)=some (nI (a+1)):=by rw[ku];simp
theorem MM(h:0<n):cv (nI a) (nI n)=some (nI (a % n)):=by rw[dN (by lia)];rfl
theorem nu{bs:List D}{j:Nat}(a:ji i ρ=some bs)(b:fi ρ=some (nI j))(c:j<bs.length):cT i fi d ρ=some (ik i (bs.set j d) ρ):=by
 unfold cT;rw[a];dsimp only;rw[b];dsimp only;rw[kJ c]
theorem qm(x:List Nat)(j v:Nat):(x.map nI).set j (nI v)=(x.set j v).map nI:=by rw[List.map_set]
theorem swap_perm(x:List Nat)(c d:Nat)(a:c<x.length)(b:d<x.length):((x.set c (x.getD d 0)).set d (x.getD c 0)).Perm x:=by
 have e:(x.toArray.swap c d (by simpa using a) (by simpa using b)).toList=(x.set c (x.getD d 0)).set d (x.getD c 0):=by
  simp[Array.toList_swap,Qd,a,b]
 rw[<-e];have:=Array.swap_perm (xs:=x.toArray) (i:=c) (j:=d) (by simpa using a) (by simpa using b);simpa using (Vd.mp this)
theorem JI {x:List Nat}(h:x.Nodup)(a:i<x.length)(b:j<x.length)(e:x.getD i 0=x.getD j 0):i=j:=by
 have:x[i]=x[j]:=by simpa [Qd,a,b] using e
 exact(Yq h).mp this
theorem gw {α:Type}{g:FG}{f:FE}{b:aF}{h o:α->D}: ∀(l:List α),(∀i∈l,∃ρ1,g (h i) b=some ρ1/\f ρ1=some (o i))->du g cf f b (l.map h)=some (l.map o)
 | [],_=>rfl
 |a::l,H=>by
  obtain⟨ρ1,c,e⟩:=H a (by simp);have d:=gw l λi j=>H i (by simp[j])
  rw[Pe];unfold du;rw[c,Pf];simp only[cf,Pf,if_true,e,d];rfl
theorem eU{ds ys:List D}(a:gi ρ=some ds)(c:ds.length<=1000)(b:du g p f (ρ++Pj m .no) ds=some ys):cb m gi g p f ρ=some (.lst ys):=by
 rw[Dt,a,Pf,eK c,Pf,b];rfl
abbrev ax(r:List Nat):D:=.tup (r.map nI)
abbrev de(r x:List Nat):D:=.tup [ax r,ax x]
theorem iY{n:Nat}(h:f ρ=some [nI n])(a:n<=1000):eW f ρ=some ((O5 n).map nI):=by
 rw[v6,h,Pf,we (by lia),FN];rfl
theorem OZ {j:Int}(h:0<=j):D.int j=nI j.toNat:=by show D.int j=D.int (j.toNat:Int);rw[Int.toNat_of_nonneg h]
theorem Jd{ds:List D}(h:ds.length=n):nF n P ds=P ds:=if_pos h
theorem fh(a:f ρ=some (d,ρ1))(b:g d ρ1=some ρ2):cw g f ρ=.nx ρ2:=by unfold cw;rw[a];dsimp only;rw[b];rfl
theorem aW {n:Nat}{ds:List D}(h:fs ρ=some ds)(a:ds.length=n):ak (nF n P) fs ρ=P ds:=(bO h).trans (Jd a)
theorem mJ{ρ ρ1:aF}{ds:List D}{d:D}(h:fs ρ=some (ds,ρ1))(a:F ds=some d):gd F fs ρ=some (d,ρ1):=by unfold gd;rw[h];dsimp only[SV];rw[a];rfl
theorem JE {n:Nat}{ρ ρ1:aF}{ds:List D}{d:D}(h:fs ρ=some (ds,ρ1))(b:ds.length=n)(a:P ds=some d):gd (nF n P) fs ρ=some (d,ρ1):=mJ h ((Jd b).trans a)
theorem bh {kd:Kd}{n:Nat}{t:FS}{ds:List D}{ρ:aF}(h:t (kv n ds)=.rt d ρ):eZ kd n t ds=some d:=by unfold eZ;rw[h]
theorem a7{d:D}(h:f ρ=some d):aY f ρ=.rt d ρ:=by unfold aY;rw[h]
theorem IJ {ks:List (List Int)}(h:ks.length<64)(a: ∀k∈ks,k≠[]):dw [.lst (ks.map cZ)]=some (.lst ((bw bx ks).map cZ)):=by
 show(hZ (ks.map cZ)).map D.lst=_;unfold hZ;rw[if_pos (by simpa using h)];cases ks with
 |nil=>rfl
 |cons k ks=>
  rw[Cj];dsimp only;rw[vP a];rfl
theorem uF: ∀bs:List Bool,iP (bs.map D.bl)=some bs
 | []=>rfl
 |b::r=>by show(iP (r.map D.bl)).map (b:: ·)=_;rw[uF r];rfl
theorem uc(bs:List Bool):wy [.lst (bs.map D.bl)]=some (.bl (bs.any id)):=by
 show(iP (bs.map D.bl)).map (λbs=>D.bl (bs.any id))=_;rw[uF];rfl
theorem Hv(bs:List Bool):FX [.lst (bs.map D.bl)]=some (.bl (bs.all id)):=by
 show(iP (bs.map D.bl)).map (λbs=>D.bl (bs.all id))=_;rw[uF];rfl
theorem mL(h:p ρ=some false):fy p t u ρ=u ρ:=by unfold fy;rw[h]
theorem gj(h:p ρ=some true):fy p t u ρ=t ρ:=by unfold fy;rw[h]
theorem LY(h:p ρ=some (false,ρ1)):Lg p t u ρ=u ρ1:=by unfold Lg;rw[h]
theorem Hc{ρ ρ1:aF}{b:Bool}(h:p ρ=some (b,ρ1)):D8 p ρ=some (!b,ρ1):=by unfold D8;rw[h];rfl
theorem HJ{ρ ρ1:aF}(h:f ρ=some (.bl b,ρ1)):Dw f ρ=some (b,ρ1):=by unfold Dw;rw[h];rfl
theorem yD(a:p ρ=some false)(c:q ρ=some b):Fu p q ρ=some b:=by unfold Fu;rw[a];exact c
theorem IX(a:p ρ=some true):Fu p q ρ=some true:=by unfold Fu;rw[a];rfl
theorem F7(a:p ρ=some true)(c:q ρ=some b):gS p q ρ=some b:=by unfold gS;rw[a];exact c
theorem KU(a:p ρ=some false):gS p q ρ=some false:=by unfold gS;rw[a];rfl
theorem mz{a b:Bool}(c:p ρ=some a)(d:a=true->q ρ=some b)(e:a=false->b=false):gS p q ρ=some b:=by
 cases a with
 |true=>exact F7 c (d rfl)
 |false=>rw[e rfl];exact KU c
theorem qw(h:p ρ=some b):A4 p ρ=some (.bl b):=by unfold A4;rw[h];rfl
theorem Dq{d:D}(h:f ρ=some (d,ρ1)):cj f ρ=.nx ρ1:=by unfold cj;rw[h]
theorem bR(h:f ρ=some (.bl b)):bJ f ρ=some b:=by unfold bJ;rw[h];rfl
theorem ka(h:f ρ=some (.bl b)):fQ f ρ=some b:=by unfold fQ;rw[h];rfl
theorem oJ(h:p ρ=some b):jR p ρ=some (!b):=by unfold jR;rw[h];rfl
theorem A8(h:fz x<=32):lh x x=some (.bl false):=by rw[j3 h,mS];rfl
theorem GZ(h:fz x<=32):pV x x=some (.bl true):=by rw[oV h,mS]
theorem cI{d:D}{ρ ρ1 ρ2:aF}(a:g d ρ=some ρ1)(c:b ρ1=.nx ρ2):fE g b (d::r) ρ=fE g b r ρ2:=by
 show(match g d ρ with
  |none=>Out.no
  |some ρ1=>match b ρ1 with
   | .nx ρ2=>fE g b r ρ2
   | .ct ρ2=>fE g b r ρ2
   | .bk ρ2=>.nx ρ2
   | .rt d ρ2=>.rt d ρ2
   | .no=>.no)=_
 rw[a];dsimp only;rw[c]
theorem gm{ds:List D}(h:f ρ=some (ds,ρ1)):im f g b ρ=fE g b ds ρ1:=by unfold im;rw[h]
theorem zO{ds:List D}(h:f ρ=some (.lst ds)):gO f ρ=some ds:=by unfold gO;rw[h];rfl
theorem HE(h:f ρ=some (.tup ds)):wU f ρ=some ds:=by unfold wU;rw[h];rfl
theorem rg {kd:Kd}{n:Nat}{t:FS}(h: ∃ρ,t (kv n ds)=.rt d ρ):eZ kd n t ds=some d:=let⟨_,h⟩:=h;bh h
theorem Jy(P:aF->Prop)(h: ∃ρ',t ρ=.nx ρ'/\P ρ')(c: ∀ρ',P ρ'-> ∃a,u ρ'=.rt d a): ∃a,aC t u ρ=.rt d a:=by
 obtain⟨ρ',b,e⟩:=h;obtain⟨a,f⟩:=c ρ' e;exact⟨a,(aA b).trans f⟩
theorem Gc{ds:List D}{P:aF->Prop}(h:f ρ=some (ds,ρ1))(d: ∃ρ',fE g b ds ρ1=.nx ρ'/\P ρ'): ∃ρ',im f g b ρ=.nx ρ'/\P ρ':=by
 obtain⟨ρ',a,c⟩:=d;exact⟨ρ',(gm h).trans a,c⟩
theorem AS{P:aF->Prop}: ∀(l:List D),(∀d∈l,∀ρ,P ρ-> ∃ρ1 ρ2,g d ρ=some ρ1/\b ρ1=.nx ρ2/\P ρ2)-> ∀ρ,P ρ-> ∃ρ',fE g b l ρ=.nx ρ'/\P ρ'
 | [],_,ρ,p=>⟨ρ,rfl,p⟩
 |d::l,h,ρ,p=>by
  obtain⟨ρ1,ρ2,a,c,j⟩:=h d (by simp) ρ p;obtain⟨ρ',e,i⟩:=AS l (λd' f=>h d' (by simp[f])) ρ2 j;exact⟨ρ',(cI a c).trans e,i⟩
theorem pP(i:Int){n:Nat}(h:0<n):(i % (n:Int)).toNat<n/\(((i % (n:Int)).toNat:Nat):Int)=i % n:=by
 have:=dm (i:=i) (m:=n) (by lia);lia
theorem rE {i:Nat}{b0 bs:List D}{d:D}(b:ji i ρ=some b0)(a:fs ρ=some ([d],ρ1))(c:ji i ρ1=some bs)(e:bs.length<=900):cj (aK i 1 gB fs) ρ=.nx (ik i (bs++[d]) ρ1):=
 Dq (cM b a c rfl (by rw[A7,sI (by lia)]))
theorem iN {α:Type}{g:FG}{p:FT}{f:FE}{b:aF}{h o:α->D}{q:α->Bool}: ∀(l:List α),(∀i∈l,∃ρ1,g (h i) b=some ρ1/\p ρ1=some (q i)/\(q i=true->f ρ1=some (o i)))->du g p f b (l.map h)=some ((l.filter q).map o)
 | [],_=>rfl
 |a::l,H=>by
  obtain⟨ρ1,d,k,j⟩:=H a (by simp);have c:=iN l λi m=>H i (by simp[m])
  rw[Pe];unfold du;rw[d,Pf,k,Pf];cases e:q a with
  |true=>rw[if_pos rfl,j e,Pf,c];simp[e]
  |false=>rw[if_neg (by simp),c];simp[e]
theorem dH {α:Type}{g:FG}{p:FT}{A:FA}{b:aF}{h:α->D}{q:α->Bool}{o:α->List D}: ∀(l:List α),(∀i∈l,∃ρ1,g (h i) b=some ρ1/\p ρ1=some (q i)/\(q i=true->A ρ1=some (o i)))->pU g p A b (l.map h)=some ((l.filter q).flatMap o)
 | [],_=>rfl
 |a::l,H=>by
  obtain⟨ρ1,d,j,f⟩:=H a (by simp);have c:=dH l λi k=>H i (by simp[k])
  rw[Pe];unfold pU;rw[d,Pf,j,Pf];cases e:q a with
  |true=>rw[if_pos rfl,f e,Pf,c];simp[e]
  |false=>rw[if_neg (by simp),c];simp[e]
theorem kY(h:f ρ=some d):wE f ρ=some [d]:=by unfold wE;rw[h];rfl
theorem pL{ds ys:List D}(a:gi1 ρ=some ds)(c:pU g1 p1 (El gi2 g2 p2 f) (ρ++Pj m .no) ds=some ys)(b:ys.length<=1000):jG m gi1 g1 p1 gi2 g2 p2 f ρ=some (.lst ys):=by
 unfold jG;rw[a,Pf,c,Pf,if_pos (S5 (kW b))]
theorem oo{ds ys:List D}(a:gi ρ=some ds)(b:pU g p (wE f) ρ ds=some ys):El gi g p f ρ=some ys:=by
 unfold El;rw[a,Pf,b]
theorem vZ(r:List Nat)(ρ:aF)(f:FE)(h:f ρ=some (.lst (r.map nI))):ak c6 (aa f aj) ρ=some (nI r.length):=by
 rw[bO (ar h rfl)];show some (D.int ((r.map nI).length:Int))=_;rw[Pc]
theorem iI(r:List Nat)(ρ:aF)(f:FE)(h:f ρ=some (ax r)):ak c6 (aa f aj) ρ=some (nI r.length):=by
 rw[bO (ar h rfl)];show some (D.int ((r.map nI).length:Int))=_;rw[Pc]
theorem N7(a b:Nat):gR (nI a) (nI b)=some (.int ((a:Int) -b)):=iQ _ _
theorem NP(h:0<n):cv (.int i) (nI n)=some (nI (i % n).toNat):=by
 rw[dN (by lia),OZ (dm (i:=i) (m:=n) (by lia)).1]
theorem Eo(L:List Nat)(c:Nat):(L.map nI).any (λd=>dg d (nI c))=decide (c∈L):=by
 induction L with
 |nil=>simp
 |cons a L b=>
  rw[Pe,Se,b,jd,P2];simp only[Ri,lL,PD];exact or_congr_left eq_comm
theorem Nq(L:List Nat)(c:Nat):iZ false (nI c) (.lst (L.map nI))=some (.bl (decide (c∈L))):=by
 unfold iZ lO;dsimp only;rw[jb,if_pos (by lia),Eo];rfl
def dY:FS:=
 aC (f9 3 (ak di (aa (ai 0) (aj))))
 (aC (cw (gT 2 (cU (cT 3 (ai 1)) (cU (cT 3 (ai 2)) (gU)))) (pu (cx (aa (av bj (ai 0) (ai 2)) (aa (av bj (ai 0) (ai 1)) (aj))))))
 (aY (ak ig (aa (dJ 3) (aj)))))
def gE:List D->Option D:=eZ .s 4 dY
def gP:FS:=
 aY (cb 1 (eW (aa (av cv (av gR (ai 2) (ai 1)) (ai 0)) (aj))) (gN 3) (cf) (av cv (av bS (ai 1) (ai 3)) (ai 0)))
def gx:List D->Option D:=eZ .n 3 gP
def iu:FS:=
 aY (ak (nF 3 gx) (aa (ak c6 (aa (ai 0) (aj))) (aa (ai 1) (aa (ai 2) (aj)))))
def fM:List D->Option D:=eZ .n 3 iu
def lV:FS:=
 aY (ak (nF 3 gx) (aa (ak c6 (aa (ai 0) (aj))) (aa (av bj (ai 0) (ai 1)) (aa (av bj (ai 0) (ai 2)) (aj)))))
def mf:List D->Option D:=eZ .n 3 lV
def ke:FS:=
 aC (be 3 (ak (nF 3 mf) (aa (ai 0) (aa (ai 1) (aa (ai 2) (aj))))))
 (aY (ak dw (aa (jG 2 (gO (ak (nF 3 fM) (aa (ai 0) (aa (ai 1) (aa (ai 2) (aj)))))) (gN 4) (cf) (gO (ai 3)) (gN 5) (cf) (cx (aa (ai 4) (aa (ai 5) (aj))))) (aj))))
def j5:List D->Option D:=eZ .n 4 ke
def oj:FS:=
 aY (ak (nF 3 gE) (aa (ai 0) (aa (ai 1) (aa (ai 2) (aj)))))
def tG:List D->Option D:=eZ .s 3 oj
def l7:FS:=
 aC (be 3 (fA (ak (nF 3 fM) (aa (ai 0) (aa (ai 1) (aa (ai 2) (aj))))) (jU (aD (.int 1))) nR))
 (aC (be 4 (fA (ak (nF 3 mf) (aa (ai 0) (aa (ai 1) (aa (ai 2) (aj))))) (jU (aD (.int 1))) nR))
 (aY (A4 (jR (bJ (ak wy (aa (cb 1 (gO (ai 3)) (gN 5) (cf) (av (iZ false) (av bj (ai 0) (ai 5)) (ai 4))) (aj))))))))
def qA:List D->Option D:=eZ .s 5 l7
def kj:FS:=
 aC (cw (gT 2 (cU (gN 4) (cU (gN 5) (gU)))) (pu (ai 0)))
 (aC (be 6 (cb 2 (gO (ak (nF 3 j5) (aa (ai 1) (aa (ai 2) (aa (ai 3) (aj)))))) (gT 2 (cU (gN 7) (cU (gN 8) (gU)))) (cf) (av (iZ false) (ai 8) (cx (aa (av bj (ai 4) (ai 7)) (aa (av bj (ai 5) (ai 7)) (aj)))))))
 (aY (A4 (jR (bJ (ak wy (aa (ai 6) (aj))))))))
def o6:List D->Option D:=eZ .s 7 kj
def lT:FS:=
 aY (A4 (gS (bJ (ak (nF 3 qA) (aa (ai 1) (aa (ai 2) (aa (ai 3) (aj)))))) (bJ (ak (nF 4 o6) (aa (ai 0) (aa (ai 1) (aa (ai 2) (aa (ai 3) (aj)))))))))
def qX:List D->Option D:=eZ .s 4 lT
def iz:FS:=
 aC (be 2 (HS (ak c6 (aa (ai 1) (aj)))))
 (aY (jG 2 (gO (ai 2)) (gN 3) (cf) (gO (ai 2)) (gN 4) (gS (bJ (av lh (ai 3) (ai 4))) (fQ (ak (nF 4 qX) (aa (ai 0) (aa (ai 1) (aa (ai 3) (aa (ai 4) (aj)))))))) (cx (aa (ai 3) (aa (ai 4) (aa (ak (nF 3 tG) (aa (ai 1) (aa (ai 3) (aa (ai 4) (aj))))) (aj)))))))
def rO:List D->Option D:=eZ .n 3 iz
def cC(n s e:Nat):List Nat:=(O5 (((e:Int) -s) % n).toNat).map λ(i:Nat)=>(s+i) % n
def bG(n s e x:Nat):Bool:=decide (((x:Int) -s) % n<((e:Int) -s) % n)
def sk(n s e:Nat):List Nat:=(O5 n).filter (bG n s e)
theorem nJ(h:0<n)(s e:Nat):(cC n s e).length<n:=by
 unfold cC;rw[Pc,QF];exact(pP _ h).1
theorem kP(h:0<n)(c:s<n)(e x:Nat):x∈cC n s e↔x<n/\bG n s e x=true:=by
 unfold cC bG;rw[Pz,lL];have m:=pP ((e:Int) -s) h;constructor
 ·rintro⟨i,a,rfl⟩;rw[O6] at a;refine⟨RD _ h,?_⟩;rw[RP,Int.emod_sub_emod,show(((s+i:Nat):Int) -s)=i by lia,QH (by lia) (by lia)];lia
 ·rintro⟨d,f⟩;have b:=pP ((x:Int) -s) h;refine⟨(((x:Int) -s) % n).toNat,by rw[O6];lia,?_⟩;have:(((s+(((x:Int) -s) % n).toNat) % n:Nat):Int)=x:=by
   rw[RP,UM,b.2,Int.add_emod_emod,show(s:Int)+((x:Int) -s)=x by lia,QH (by lia) (by lia)]
  lia
theorem tK(h:0<n)(s e:Nat):(cC n s e).Nodup:=by
 unfold cC;have m:=pP ((e:Int) -s) h;show VI (·≠ ·) _;rw[Qr];refine Qp (λ{i j} c a b e=>?_) Q6;rw[O6] at c a;have:(((s+i) % n:Nat):Int)=(((s+j) % n:Nat):Int):=by rw[e]
 rw[RP,RP,UM,UM,jbs (s:Int),jbs (s:Int),Vk,QH (by lia) (by lia),QH (by lia) (by lia)] at this;lia
theorem jl:x∈sk n s e↔x<n/\bG n s e x=true:=by unfold sk;rw[Qf,O6]
theorem rB(h:0<n)(a:s<n)(e:Nat):(cC n s e).Perm (sk n s e):=
 (P0 (tK h s e) (Q2 _ PV)).mpr λx=>(kP h a e x).trans jl.symm
def fB(A B:List Nat):List (List Int):=A.flatMap λ(a:Nat)=>B.map λ(b:Nat)=>[(a:Int),(b:Int)]
theorem tf {α β:Type}{f g:α->List β}: ∀(l:List α),(∀a∈l,(f a).Perm (g a))->(l.flatMap f).Perm (l.flatMap g)
 | [],_=>.refl _
 |a::l,h=>by
  rw[P6,P6];exact(h a (by simp)).append (tf l λb c=>h b (by simp[c]))
theorem yW {A c B b:List Nat}(d:A.Perm c)(e:B.Perm b):(fB A B).Perm (fB c b):=
 (tf A λa _=>e.map _).trans (List.Perm.flatMap_right _ d)
theorem CN {A B:List Nat}(e:A.Pairwise (·< ·))(g:B.Pairwise (·< ·)):(fB A B).Pairwise (λa b=>bx b a=false):=by
 unfold fB;rw[Uo];refine⟨λa _=>?_,e.imp λ{a i} c x h y f=>?_⟩
 ·rw[Qr];refine g.imp λ{b d} c=>?_
  unfold bx bx;rw[if_pos rfl,if_neg (by lia)];simp only[decide_eq_false_iff_not];lia
 ·obtain⟨b,_,rfl⟩:=Pz.mp h;obtain⟨d,_,rfl⟩:=Pz.mp f;unfold bx;rw[if_neg (by lia)];simp only[decide_eq_false_iff_not];lia
theorem D5(n s e:Nat):(sk n s e).Pairwise (·< ·):=Q2 _ Q6
theorem zC(h:0<n)(e:a<n)(d:sa<n)(b c:Nat):bw bx (fB (cC n a b) (cC n sa c))=fB (sk n a b) (sk n sa c):=
 (k8 yU (yW (rB h e b) (rB h d c)).symm (CN (D5 _ _ _) (D5 _ _ _))).symm
theorem tL(A B:List Nat):(fB A B).length=A.length*B.length:=by
 unfold fB
 induction A with
 |nil=>simp
 |cons a A b=>rw[P6,PF,Pc,b,PL,Vm,WT,Yc]
theorem FZ(A B:List Nat): ∀k∈fB A B,k≠[]:=λk c=>by
 unfold fB at c;obtain⟨a,_,c⟩:=QZ.mp c;obtain⟨b,_,rfl⟩:=Pz.mp c;simp
theorem sD(h:0<n)(b:n<=900):gx [nI n,nI s,nI e]=some (.lst ((cC n s e).map nI)):=by
 apply bh (kd:=.n) (n:=3) (t:=gP);unfold gP;have m:=pP ((e:Int) -s) h;refine a7 (eU (ds:=(O5 (((e:Int) -s) % n).toNat).map nI) (iY (ar ((aB ((aB (x:=nI e) (y:=nI s) rfl rfl).trans (N7 _ _)) (y:=nI n) rfl).trans (NP h)) rfl) (by lia)) (by simp;lia) ?_);refine(gw (h:=nI) (o:=λ(i:Nat)=>nI ((s+i) % n)) _ λi a=>⟨_,rfl,?_⟩).trans (by unfold cC;rw[Pw];rfl);exact(aB ((aB (x:=nI s) (y:=nI i) rfl rfl).trans (NV _ _)) (y:=nI n) rfl).trans (MM h)
theorem ua{o:List Nat}(d:o.length=n)(h:0<n)(c:n<=900)(a b:Nat):fM [ax o,nI a,nI b]=some (.lst ((cC n a b).map nI)):=by
 apply bh (kd:=.n) (n:=3) (t:=iu);unfold iu;exact a7 ((aW (ds:=[nI n,nI a,nI b]) (ar (by rw[iI o _ _ rfl,d]) rfl) rfl).trans (sD h c))
theorem vn{o:List Nat}(d:o.length=n)(h:0<n)(c:n<=900)(e:a<n)(f:b<n):mf [ax o,nI a,nI b]=some (.lst ((cC n (o.getD a 0) (o.getD b 0)).map nI)):=by
 apply bh (kd:=.n) (n:=3) (t:=lV);unfold lV;exact a7 ((aW (ds:=[nI n,nI (o.getD a 0),nI (o.getD b 0)]) (ar (by rw[iI o _ _ rfl,d]) (ar ((aB (x:=ax o) (y:=nI a) rfl rfl).trans (ge (by lia))) (ar ((aB (x:=ax o) (y:=nI b) rfl rfl).trans (ge (by lia))) rfl))) rfl).trans (sD h c))
def zt(o:List Nat)(a b:Nat):List (List Int):=fB (sk o.length a b) (sk o.length (o.getD a 0) (o.getD b 0))
theorem E3(O:Ord n o)(h:0<n)(s:n<=8)(d:a<n)(f:b<n):j5 [ax o,nI a,nI b]=some (.lst ((zt o a b).map cZ)):=by
 have c:=O.len;apply bh (kd:=.n) (n:=4) (t:=ke);unfold ke;refine(aA (ρ':=[.v (ax o),.v (nI a),.v (nI b),.v (.lst ((cC n (o.getD a 0) (o.getD b 0)).map nI))]) ((bo ((aW (ds:=[ax o,nI a,nI b]) rfl rfl).trans (vn c h (by lia) d f))).trans rfl)).trans ?_
 have j:o.getD a 0<n:=by
  have:o.getD a 0=o[a]'(by lia):=by simp[Qd,c,d]
  rw[this];exact O.lt (SS _)
 have r:=nJ h a b;have m:=nJ h (o.getD a 0) (o.getD b 0);have e:(fB (cC n a b) (cC n (o.getD a 0) (o.getD b 0))).length<=49:=by
  rw[tL];exact Ss (show _<=7 by lia) (show _<=7 by lia)
 have i:jG 2 (gO (ak (nF 3 fM) (aa (ai 0) (aa (ai 1) (aa (ai 2) (aj)))))) (gN 4) (cf) (gO (ai 3)) (gN 5) (cf) (cx (aa (ai 4) (aa (ai 5) (aj)))) [.v (ax o),.v (nI a),.v (nI b),.v (.lst ((cC n (o.getD a 0) (o.getD b 0)).map nI))]=some (.lst ((fB (cC n a b) (cC n (o.getD a 0) (o.getD b 0))).map cZ)):=by
  refine pL (ds:=(cC n a b).map nI) (zO ((aW (ds:=[ax o,nI a,nI b]) rfl rfl).trans (ua c h (by lia) a b))) ?_ (by rw[Pc];lia)
  refine(dH (h:=nI) (q:=λ_=>true) (o:=λ(x:Nat)=>(cC n (o.getD a 0) (o.getD b 0)).map λ(y:Nat)=>D.tup [nI x,nI y]) (cC n a b) λx p=>⟨_,rfl,rfl,λ_=>?_⟩).trans ?_
  ·refine oo (ds:=(cC n (o.getD a 0) (o.getD b 0)).map nI) rfl ?_
   refine(dH (h:=nI) (q:=λ_=>true) (o:=λ(y:Nat)=>[D.tup [nI x,nI y]]) (cC n (o.getD a 0) (o.getD b 0)) λy k=>⟨_,rfl,rfl,λ_=>kY (cq rfl (by simp))⟩).trans ?_
   rw[QC.mpr (λ_ _=>rfl)];congr 1
   induction (cC n (o.getD a 0) (o.getD b 0)) with
   |nil=>rfl
   |cons y l g=>rw[P6,g];rfl
  ·rw[QC.mpr (λ_ _=>rfl)];unfold fB;rw[RQ];congr 2;funext x;rw[Pw];rfl
 refine a7 ?_
 rw[bO (ar i rfl),IJ (by lia) (FZ _ _),zC h d j];unfold zt;rw[c]
def bA(o:List Nat)(a b:Nat):List Nat:=(o.set a (o.getD b 0)).set b (o.getD a 0)
theorem z6 {n:Nat}{o:List Nat}(e:o.length=n)(d:a<n)(c:b<n):gE [ax o,nI a,nI b]=some (ax (bA o a b)):=by
 apply bh (kd:=.s) (n:=4) (t:=dY);unfold dY;refine(aA (ρ':=[.v (ax o),.v (nI a),.v (nI b),.own (o.map nI)]) ((kR (ds:=o.map nI) rfl).trans rfl)).trans ?_
 refine(aA (ρ':=[.v (ax o),.v (nI a),.v (nI b),.own ((bA o a b).map nI)]) (fh (fx (cq (ar ((aB (x:=ax o) (y:=nI b) rfl rfl).trans (ge (by lia))) (ar ((aB (x:=ax o) (y:=nI a) rfl rfl).trans (ge (by lia))) rfl)) (by simp))) ?_)).trans (a7 rfl);simp only[gT,PL,TF,cU];rw[nu (bs:=o.map nI) (j:=a) rfl rfl (by simp;lia)];simp only[Pf];rw[nu (bs:=(o.map nI).set a (nI (o.getD b 0))) (j:=b) rfl rfl (by simp;lia)];simp only[Pf,gU,qm];rfl
theorem ou {n:Nat}{o:List Nat}(e:o.length=n)(d:a<n)(c:b<n):tG [ax o,nI a,nI b]=some (ax (bA o a b)):=by
 apply bh (kd:=.s) (n:=3) (t:=oj);unfold oj;exact a7 ((aW (ds:=[ax o,nI a,nI b]) rfl rfl).trans (z6 e d c))
theorem Oi(l:List Nat):ma (l.map nI) (some 1) none=(l.drop 1).map nI:=by
 unfold ma;rw[HT.sIx_none,show(some (1:Int))=some ((1:Nat):Int) from rfl,HT.sIx_nat];cases l with
 |nil=>rfl
 |cons x r=>
  rw[Pc,show min 1 (x::r).length=1 by simp,Pe,Tu,Ue,Tu,Ue];rw[Rl (by simp)]
def bL(o:List Nat)(a b:Nat):Bool:= !((cC o.length a b).drop 1).any λx=>decide (o.getD x 0∈(cC o.length (o.getD a 0) (o.getD b 0)).drop 1)
theorem Aj {n:Nat}{o:List Nat}(c:o.length=n)(h:0<n)(g:n<=900)(p:a<n)(m:b<n):qA [ax o,nI a,nI b]=some (.bl (bL o a b)):=by
 apply bh (kd:=.s) (n:=5) (t:=l7);unfold l7;have d: ∀(l:List Nat) (f:FE) (ρ:aF),f ρ=some (.lst (l.map nI))->fA f (jU (aD (.int 1))) nR ρ=some (.lst ((l.drop 1).map nI)):=λl f ρ e=>by
  unfold fA;rw[e];show some (D.lst (ma (l.map nI) (some 1) none))=_;rw[Oi]
 refine(aA (ρ':=[.v (ax o),.v (nI a),.v (nI b),.v (.lst (((cC n a b).drop 1).map nI)),.no]) ((bo (d _ _ _ ((aW (ds:=[ax o,nI a,nI b]) rfl rfl).trans (ua c h g a b)))).trans rfl)).trans ?_
 refine(aA (ρ':=[.v (ax o),.v (nI a),.v (nI b),.v (.lst (((cC n a b).drop 1).map nI)),.v (.lst (((cC n (o.getD a 0) (o.getD b 0)).drop 1).map nI))]) ((bo (d _ _ _ ((aW (ds:=[ax o,nI a,nI b]) rfl rfl).trans (vn c h g p m)))).trans rfl)).trans ?_
 refine a7 (qw ?_);unfold bL;rw[c];refine oJ (bR ?_);have q:=nJ h a b;rw[bO (ar (eU (ds:=((cC n a b).drop 1).map nI) (ys:=(((cC n a b).drop 1).map λx=>decide (o.getD x 0∈(cC n (o.getD a 0) (o.getD b 0)).drop 1)).map D.bl) rfl (by simp;lia) ?_) rfl),uc,Wi]
 ·rfl
 ·rw[Pw];refine gw (h:=nI) _ λx k=>⟨_,rfl,?_⟩
  have j:x<n:=by
   have:=WH k;unfold cC at this;obtain⟨i,_,rfl⟩:=Pz.mp this;exact RD _ h
  refine(aB ((aB (x:=ax o) (y:=nI x) rfl rfl).trans (ge (by lia))) (y:=.lst (((cC n (o.getD a 0) (o.getD b 0)).drop 1).map nI)) rfl).trans ?_
  rw[Nq];rfl
theorem EG(h:0<n)(f:s<n)(g:e<n)(j:s≠e): ∃r,cC n s e=s::r:=by
 unfold cC;have m:=pP ((e:Int) -s) h;have b:0<(((e:Int) -s) % n).toNat:=by
  have:((e:Int) -s) % n≠0:=λz=>by
   have:=Int.emod_emod_of_dvd;have d:=VX z;obtain⟨q,i⟩:=d;have:q=0:=by
    rcases Yd q 0 with a|a|a
    ·have:(n:Int)*q<=n*(-1):=RX (by lia) (by lia);lia
    ·exact a
    ·have:(n:Int)*1<=n*q:=RX (by lia) (by lia);lia
   subst this;lia
  lia
 obtain⟨k,c⟩: ∃k,(((e:Int) -s) % n).toNat=k+1:=⟨_,(Nat.succ_pred_eq_of_pos b).symm⟩
 rw[c,Sa,Pe,UT,RS f];exact⟨_,rfl⟩
theorem m6(h:0<n)(f:s<n)(k:e<n)(i:s≠e)(x:Nat):x∈(cC n s e).drop 1↔x<n/\bG n s e x=true/\x≠s:=by
 obtain⟨r,l⟩:=EG h f k i;have g:=tK h s e;have a:=kP h f e x;rw[l] at g a⊢;rw[Tu,Ue];obtain⟨m,o⟩:=Ru.mp g;rw[PD] at a;constructor
 ·intro d;obtain⟨b,c⟩:=a.mp (.inr d);exact⟨b,c,λz=>m (z▸d)⟩
 ·rintro⟨b,c,j⟩;exact(a.mpr ⟨b,c⟩).resolve_left j
theorem jY {α β:Type}(f:α->β): ∀l:List α,l.flatMap (λc=>[f c])=l.map f
 | []=>rfl
 |a::l=>by rw[P6,jY f l];rfl
theorem D2: ∀k:List Int,cJ (k.map D.int)=0
 | []=>by simp[cJ]
 |a::k=>by rw[Pe];unfold cJ;rw[D2 k];simp[fz]
theorem HA(k:List Int):fz (cZ k)=1:=by unfold cZ fz;rw[D2]
theorem uv: ∀ks:List (List Int),cJ (ks.map cZ)<=1
 | []=>by simp[cJ]
 |k::ks=>by
  rw[Pe];unfold cJ;have:=uv ks;rw[HA];lia
theorem Jb(ks:List (List Int)):fz (.lst (ks.map cZ))<=32:=by unfold fz;have:=uv ks;lia
theorem EZ: ∀k l:List Int,da (k.map D.int) (l.map D.int)=decide (k=l)
 | [],[]=>by simp[da]
 | [],_::_=>by simp[da]
 |_::_,[]=>by simp[da]
 |a::k,b::l=>by
  rw[Pe,Pe];unfold da;rw[EZ k l,jj,P2];simp
theorem Bm(k l:List Int):dg (cZ k) (cZ l)=decide (k=l):=by
 unfold cZ dg;exact EZ k l
theorem LU(K:List (List Int))(k:List Int):(K.map cZ).any (λd=>dg d (cZ k))=decide (k∈K):=by
 induction K with
 |nil=>simp
 |cons a K b=>
  rw[Pe,Se,b,Bm,P2];simp only[Ri,lL,PD];exact or_congr_left eq_comm
theorem OT(K:List (List Int))(k:List Int):iZ false (cZ k) (.lst (K.map cZ))=some (.bl (decide (k∈K))):=by
 unfold iZ lO;dsimp only;have:=uv K;rw[if_pos (by lia),LU];rfl
theorem Ord.get{o:List Nat}(O:Ord n o){i:Nat}(h:i<n):o.getD i 0<n:=by
 have a:=O.len;have:o.getD i 0=o[i]'(by lia):=by simp[Qd,a,h]
 rw[this];exact O.lt (SS _)
theorem Ord.inj{o:List Nat}(O:Ord n o)(a:i<n)(b:j<n)(e:o.getD i 0=o.getD j 0):i=j:=JI O.nd (by rw[O.len];exact a) (by rw[O.len];exact b) e
theorem kl{o:List Nat}(O:Ord n o)(e:a<n)(d:b<n)(g:a≠b):bL o a b=true↔ ∀x,x<n-> ¬(bG n a b x=true/\x≠a/\bG n (o.getD a 0) (o.getD b 0) (o.getD x 0)=true/\o.getD x 0≠o.getD a 0):=by
 have h:0<n:=by lia
 have c:o.getD a 0≠o.getD b 0:=λz=>g (O.inj e d z)
 unfold bL;rw[O.len];simp only[QP,Tl,lL];constructor
 ·intro H x f ⟨i,q,m,l⟩;exact H x ((m6 h e d g x).mpr ⟨f,i,q⟩) ((m6 h (O.get e) (O.get d) c _).mpr ⟨O.get f,m,l⟩)
 ·intro H x f j;obtain⟨r,s,t⟩:=(m6 h e d g x).mp f;obtain⟨u,p,k⟩:=(m6 h (O.get e) (O.get d) c _).mp j;exact H x r ⟨s,t,p,k⟩
def rJ(r x o:List Nat)(a b:Nat):Bool:= !(sk o.length a b).any λc=>decide (r.getD c 0∈sk o.length (o.getD a 0) (o.getD b 0))||decide (x.getD c 0∈sk o.length (o.getD a 0) (o.getD b 0))
theorem OB(y p q:Nat):iZ false (nI y) (.tup [nI p,nI q])=some (.bl (decide (y=p\/y=q))):=by
 unfold iZ lO;dsimp only;rw[show cJ [nI p,nI q]=0 from jb [p,q],if_pos (by lia)];have:=Eo [p,q] y;simp only[Pe,SD] at this;simp only[Po,if_false];rw[this];congr 2;simp
theorem Fx{r x o:List Nat}(O:Ord n o)(C:r.length=n)(B:x.length=n)(h:0<n)(k:n<=8)(w:a<n)(z:b<n):o6 [de r x,ax o,nI a,nI b]=some (.bl (rJ r x o a b)):=by
 have g:=O.len;have m: ∀s e,(sk n s e).length<=8:=λs e=>by unfold sk;exact P8 (Qo _ _) (by simpa using k)
 have l:(zt o a b).length<=64:=by
  unfold zt;rw[tL,g];exact Ss (m a b) (m (o.getD a 0) (o.getD b 0))
 apply bh (kd:=.s) (n:=7) (t:=kj);unfold kj;refine(aA (ρ':=[.v (de r x),.v (ax o),.v (nI a),.v (nI b),.v (ax r),.v (ax x),.no]) (fh (fx rfl) rfl)).trans ?_
 let P:List Nat×Nat->Bool:=λ_=>true
 have A:(zt o a b).map cZ=((sk n a b).flatMap λc=>(sk n (o.getD a 0) (o.getD b 0)).map λy=>(c,y)).map λp:Nat×Nat=>D.tup [nI p.1,nI p.2]:=by
  unfold zt fB;rw[RQ,RQ,g];congr 1;funext c;rw[Pw,Pw];rfl
 have u:cb 2 (gO (ak (nF 3 j5) (aa (ai 1) (aa (ai 2) (aa (ai 3) (aj)))))) (gT 2 (cU (gN 7) (cU (gN 8) (gU)))) (cf) (av (iZ false) (ai 8) (cx (aa (av bj (ai 4) (ai 7)) (aa (av bj (ai 5) (ai 7)) (aj))))) [.v (de r x),.v (ax o),.v (nI a),.v (nI b),.v (ax r),.v (ax x),.no]
  =some (.lst ((((sk n a b).flatMap λc=>(sk n (o.getD a 0) (o.getD b 0)).map λy=>(c,y)).map λp:Nat×Nat=>decide (p.2=r.getD p.1 0\/p.2=x.getD p.1 0)).map D.bl)):=by
  refine eU (ds:=(zt o a b).map cZ) (zO ((aW (ds:=[ax o,nI a,nI b]) rfl rfl).trans (E3 O h k w z))) (by rw[Pc];lia) ?_
  rw[A,Pw];refine gw (h:=λp:Nat×Nat=>D.tup [nI p.1,nI p.2]) _ λp j=>⟨_,rfl,?_⟩
  obtain⟨c,f,j⟩:=QZ.mp j;obtain⟨y,i,rfl⟩:=Pz.mp j;have q:c<n:=(jl.mp f).1;refine(aB (x:=nI y) (y:=.tup [nI (r.getD c 0),nI (x.getD c 0)]) rfl (cq (ar ((aB (x:=ax r) (y:=nI c) rfl rfl).trans (ge (by lia))) (ar ((aB (x:=ax x) (y:=nI c) rfl rfl).trans (ge (by lia))) rfl)) (by simp))).trans ?_
  exact OB _ _ _
 refine(aA (ρ':=[.v (de r x),.v (ax o),.v (nI a),.v (nI b),.v (ax r),.v (ax x),.v (.lst ((((sk n a b).flatMap λc=>(sk n (o.getD a 0) (o.getD b 0)).map λy=>(c,y)).map λp:Nat×Nat=>decide (p.2=r.getD p.1 0\/p.2=x.getD p.1 0)).map D.bl))]) ((bo u).trans rfl)).trans ?_
 refine a7 (qw ?_);unfold rJ;refine oJ (bR ?_);rw[bO (ar (d:=.lst _) rfl rfl),uc,Wi,g];congr 2;rw[P2];simp only[VY,QZ,Pz,Function.comp,id,lL,Ri];constructor
 ·rintro⟨p,⟨c,f,y,i,rfl⟩,h⟩;refine⟨c,f,?_⟩;rcases h with h|h
  ·left;have h:y=r.getD c 0:=h;rw[<-h];exact i
  ·right;have h:y=x.getD c 0:=h;rw[<-h];exact i
 ·rintro⟨c,f,h⟩;rcases h with h|h
  ·exact⟨(c,r.getD c 0),⟨c,f,_,h,rfl⟩,.inl rfl⟩
  ·exact⟨(c,x.getD c 0),⟨c,f,_,h,rfl⟩,.inr rfl⟩
def cH(r x o:List Nat)(a b:Nat):Bool:=bL o a b&&rJ r x o a b
theorem BJ{r x o:List Nat}(O:Ord n o)(f:r.length=n)(g:x.length=n)(h:0<n)(e:n<=8)(c:a<n)(d:b<n):qX [de r x,ax o,nI a,nI b]=some (.bl (cH r x o a b)):=by
 apply bh (kd:=.s) (n:=4) (t:=lT);unfold lT;refine a7 (qw (mz (a:=bL o a b) (bR ((aW (ds:=[ax o,nI a,nI b]) rfl rfl).trans (Aj O.len h (by lia) c d))) (λz=>bR ((aW (ds:=[de r x,ax o,nI a,nI b]) rfl rfl).trans ?_)) λz=>by unfold cH;rw[z];rfl));rw[Fx O f g h e c d];unfold cH;rw[z];rfl
abbrev yH(o:List Nat)(a b:Nat):D:=.tup [nI a,nI b,ax (bA o a b)]
def FF(P:Nat->Nat->Bool)(o:List Nat):List D:=(O5 o.length).flatMap λa=>((O5 o.length).filter λb=>decide (a≠b)&&P a b).map λb=>yH o a b
theorem EI{r x o:List Nat}(O:Ord n o)(p:r.length=n)(j:x.length=n)(h:0<n)(g:n<=8):rO [de r x,ax o]=some (.lst (FF (cH r x o) o)):=by
 have c:=O.len;apply bh (kd:=.n) (n:=3) (t:=iz);unfold iz;refine(aA (ρ':=[.v (de r x),.v (ax o),.v (.lst ((O5 n).map nI))]) ((bo (Iy (n:=n) (by lia) _ _ (by rw[iI o _ _ rfl,c]))).trans rfl)).trans ?_
 refine a7 (pL (ds:=(O5 n).map nI) rfl ?_ ?_)
 ·refine(dH (h:=nI) (q:=λ_=>true) (o:=λ(a:Nat)=>((O5 n).filter λb=>decide (a≠b)&&cH r x o a b).map λb=>yH o a b) (O5 n) λa i=>⟨_,rfl,rfl,λ_=>?_⟩).trans ?_
  ·rw[O6] at i;refine oo (ds:=(O5 n).map nI) rfl ?_
   refine(dH (h:=nI) (q:=λb=>decide (a≠b)&&cH r x o a b) (o:=λ(b:Nat)=>[yH o a b]) (O5 n) λb d=>⟨_,rfl,?_,λ_=>kY (cq (ar rfl (ar rfl (ar ((aW (ds:=[ax o,nI a,nI b]) rfl rfl).trans (ou c i (by simpa using d))) rfl))) (by simp))⟩).trans ?_
   ·rw[O6] at d;refine mz (a:=decide (a≠b)) (bR ?_) (λz=>?_) (λz=>by rw[z];rfl)
    ·rw[aB (x:=nI a) (y:=nI b) rfl rfl,j3 (by rw[fO];lia),jd];simp
    ·rw[z,Qq];exact ka ((aW (ds:=[de r x,ax o,nI a,nI b]) rfl rfl).trans (BJ O p j h g i d))
   ·rw[jY]
  ·rw[QC.mpr (λ_ _=>rfl)];unfold FF;rw[c]
 ·have e: ∀(l:List Nat) (m:Nat) (f:Nat->List D),(∀a,(f a).length<=m)->(l.flatMap f).length<=l.length*m:=by
   intro l m f s
   induction l with
   |nil=>simp
   |cons a l u=>rw[P6,PF,PL,Vm,WT];have:=s a;lia
  unfold FF;rw[c];have k:=e (O5 n) n (λa=>((O5 n).filter λb=>decide (a≠b)&&cH r x o a b).map λb=>yH o a b) (λa=>by rw[Pc];exact P8 (Qo _ _) (by simp));rw[QF] at k;have:n*n<=8*8:=Ss g g;lia
open PySem PySem.W PySem.Spec PyProof.Rows
section
variable {X:Cx}{c:Ct}{a b e:Expr}{f g:FE}{pos p p2 p3:Pos}{k:Kd}
def Je(K:Pk):R2:=λx y H Q=> ∃l b xs zs,x=.ref l/\y=.ref b/\SqL K H l xs/\SqL K H b zs/\xs.length+zs.length<=PN/\ ∀p,H p=none->Q (.ref p) (bY H p (.lst (xs++zs)))
theorem Gf:lu X (Tx .Add) (Je X.K):=by
 intro U s σ H x y v u Q I E B h;obtain⟨l,b,xs,zs,rfl,rfl,N,C,W,q⟩:=h;cases E;cases B;obtain⟨c,r,⟨o,n,e,p,t,i⟩,V⟩:=I.list N;obtain⟨a,g,⟨J,z,f,m,k,j⟩,R⟩:=I.list C;obtain⟨P,O,T,w⟩:=o;obtain⟨D,G,L,d⟩:=J;dsimp only at p t i m k j;subst p t i m k j;have S:=r.length;have M:=g.length;refine concat_meets ⟨_,e,rfl⟩ ⟨_,f,rfl⟩ noFill_list_add seq_list_add PySem.F.slot_list_add PySem.F.entry_list_add (PySem.F.args_list_add_2 _ _) (list_addW l b c.toArray a.toArray n z none none w d (by rw[PK,PK];lia)) ⟨e,f,?_⟩;have A:c.toArray++a.toArray=(c++a).toArray:=by simp
 rw[A];exact⟨.ref _,_,I.lnew (t':=s.toks) (r.append g) (by rw[PF];lia),rfl,q _ I.fresh⟩
def gG:D->D->Option D
 | .lst xs,.lst ys=>if xs.length+ys.length<=PN then some (.lst (xs++ys)) else none
 |_,_=>none
theorem Im {K:Pk}:ph K .n (Je K) gG:=by
 intro H hid v u x y d Q m h i g q;unfold gG at h;split at h
 ·split at h
  ·rename_i l
   cases h;obtain⟨a,xs,rfl,j,e⟩:=i.lst;obtain⟨b,ys,rfl,k,f⟩:=g.lst;exact⟨a,b,xs,ys,rfl,rfl,j,k,by rw[e.length,f.length];exact l,λp c=>q _ _ (aR c _) (fZ c (am.refl _) (e.append f))⟩
  ·cases h
 ·cases h
theorem mO(e:DP X c k1 a f)(d:DP X c k2 b g):DP X c .n (.BinOp a .Add b pos) (av gG f g):=qR Gf Im e d
end
section
variable {X:Cx}{c:Ct}{k:Kd}{e:Expr}{f:FE}{x:Str}{pos pos':Pos}
def Ee(F:D->D->Option D)(i:Nat)(f:FE):FS:=λρ=>match ai i ρ with
 |some x=>(match f ρ with
  |some y=>(match F x y with
   |some z=>.nx (ρ.set i (.v z))
   |none=>.no)
  |none=>.no)
 |none=>.no
theorem B7(i:Nat)(l:X.N.Nodup)(t:DP X c .s e f)(n:Nm X .Add (Ot λi j=>i+j))(w:X.N[i]? =some x:=by rfl)(d:EN X.env.scope x:=by first|exact Ro rfl|exact QQ rfl)(z:X.fn x=true\/X.env.scope.names.lookup x=some .local:=by first|exact .inl rfl|exact .inr rfl|assumption):
 DS X c k (.AugAssign (.Name x pos') .Add e pos) (Ee bS i f):=λρ=>PS.imp (K3 l w d (vb λhid=>t hid ρ) n z) λD σ H a=>by
 obtain⟨hid,b,q⟩:=a;unfold Ee at q;cases e1:ai i ρ with
 |none=>rw[e1] at q;exact q.elim
 |some A=>
  rw[e1] at q;dsimp only at q;cases e2:f ρ with
  |none=>rw[e2] at q;exact q.elim
  |some m=>
   rw[e2] at q;dsimp only at q;cases e3:bS A m with
   |none=>rw[e3] at q;exact q.elim
   |some C=>
    rw[e3] at q;obtain⟨u,g,rfl,rfl,_,rfl⟩:=pM e3;unfold ai at e1;split at e1
    ·rename_i d' o
     cases e1;obtain⟨B,p,h⟩:=b.sl i _ o;cases h;refine⟨_,p,hid,b,_,e2,λv y s' r=>?_⟩;cases r;exact⟨u,g,rfl,rfl,q _ y hid ((b.ext s').setV .int i) (aX s')⟩
    ·cases e1
end
section
variable {X:Cx}{c:Ct}{e:Expr}{es:List Expr}{k:Kd}{pos p:Pos}{x:Str}{ps:List Str}{j n:Nat}
def dz(f:FE):FA:=λρ=>(f ρ).bind λd=>match d with
 | .lst ds=>some ds
 | .tup ds=>some ds
 |_=>none
theorem dB {j a:Expr}(h:DP X c .s a f):DIp X c j a (dz f):=λhid ρ i s σ H R I e=>by
 obtain⟨g,ds,b,q⟩:=e;unfold dz at b;cases e2:f ρ with
 |none=>rw[e2] at b;cases b
 |some d=>
  rw[e2,Pf] at b;cases d with
  |lst xs=>cases b;exact fj h hid ρ i s σ H R I ⟨g,ds,by unfold gO;rw[e2];rfl,q⟩
  |tup xs=>cases b;exact Bl h hid ρ i s σ H R I ⟨g,ds,by unfold wU;rw[e2];rfl,q⟩
  |_=>cases b
end
theorem zE{x1}:Pv (.Tuple es x1 pos::rest) env=(false,eval (.Tuple es x1 pos) env)::Pv rest env:=by rfl
@[elab_as_elim] theorem ar0 {motive:List O7->Prop} (us:List O7) (b:us.length=0) (h:motive []):motive us:=by
 cases us with
 |nil=>exact h
 |cons a r=>exact absurd b (Nat.succ_ne_zero _)
@[elab_as_elim] theorem ar1 {motive:List O7->Prop} (us:List O7) (b:us.length=1) (h: ∀a,motive [a]):motive us:=by
 cases us with
 |nil=>exact absurd b (by decide)
 |cons a r=>exact ar0 (motive:=λr=>motive (a::r)) r (Uf b) (h a)
@[elab_as_elim] theorem ar2 {motive:List O7->Prop} (us:List O7) (b:us.length=2) (h: ∀a c,motive [a,c]):motive us:=by
 cases us with
 |nil=>exact absurd b (by decide)
 |cons a r=>exact ar1 (motive:=λr=>motive (a::r)) r (Uf b) (h a)
@[elab_as_elim] theorem ar3 {motive:List O7->Prop} (us:List O7) (b:us.length=3) (h: ∀a d c,motive [a,d,c]):motive us:=by
 cases us with
 |nil=>exact absurd b (by decide)
 |cons a r=>exact ar2 (motive:=λr=>motive (a::r)) r (Uf b) (h a)
@[elab_as_elim] theorem ar4 {motive:List O7->Prop} (us:List O7) (b:us.length=4) (h: ∀a e d c,motive [a,e,d,c]):motive us:=by
 cases us with
 |nil=>exact absurd b (by decide)
 |cons a r=>exact ar3 (motive:=λr=>motive (a::r)) r (Uf b) (h a)
@[elab_as_elim] theorem ar5 {motive:List O7->Prop} (us:List O7) (b:us.length=5) (h: ∀a f d c e,motive [a,f,d,c,e]):motive us:=by
 cases us with
 |nil=>exact absurd b (by decide)
 |cons a r=>exact ar4 (motive:=λr=>motive (a::r)) r (Uf b) (h a)
@[elab_as_elim] theorem ar6 {motive:List O7->Prop} (us:List O7) (b:us.length=6) (h: ∀a g e c f d,motive [a,g,e,c,f,d]):motive us:=by
 cases us with
 |nil=>exact absurd b (by decide)
 |cons a r=>exact ar5 (motive:=λr=>motive (a::r)) r (Uf b) (h a)
@[irreducible] def QS (X:Cx) (c:Ct) (k:Kd) (st:Stmt) (t:FS):Prop:=DS X c k st t
@[irreducible] def QSs (X:Cx) (c:Ct) (k:Kd) (st:List Stmt) (t:FS):Prop:=xU X c k st t
section
variable {X:Cx}{c:Ct}{k:Kd}{e a b:Expr}{es:List Expr}{f g:FE}{fs:FA}{pos pos':Pos}{st:Stmt}{rest:List Stmt}{t u:FS}{x:Str}
theorem QS.of(h:DS X c k st t):QS X c k st t:=by unfold QS;exact h
theorem QS.ds(h:QS X c k st t):DS X c k st t:=by unfold QS at h;exact h
theorem QSs.to(h:QSs X c k rest t):xU X c k rest t:=by unfold QSs at h;exact h
theorem qJ(a:QS X c k st t)(b:QSs X c k rest u):QSs X c k (st::rest) (aC t u):=by unfold QSs;exact ao a.ds b.to
theorem HU(h:QS X c k st t):QSs X c k [st] t:=by unfold QSs;exact az h.ds
end
end L2
namespace PySem
open Sem (wp)
end PySem
namespace L2
open PySem PySem.Spec PyProof.Rows
end L2
namespace PySem
section
variable {prog:Qc}{w:Qv}{A:Qe}{E:O7->O9->Prop}{s:O9}
theorem tj {g g':Heap}(t:g.IsList l us)(k: ∀o,g.get? l=some o->g'.get? l=some o):g'.IsList l us:=t.at k
theorem Be{us:Array O7}(f:l≠it): ∀(n i:Nat) (s:O9) (Q:List O7->O9->Prop),s.heap.IsListIter it l i->s.heap.IsList l us->i+n<=us.size->
 (∀g,g.IsListIter it l (i+n)->Qn it s.heap g->Q ((us.toList.drop i).take n) {s with heap:=g})->Ps (model prog w) A (draw (.ref it) n) Q E s
 |0,i,s,Q,d,_,_,q=>by
  show Ps _ _ (pure []) Q E s;exact O8 (by simpa using q s.heap d (SF ..))
 |n+1,i,s,Q,d,h,m,q=>by
  have lt:i<us.size:=by lia
  show Ps _ _ (Ts (.ref it)>>=_) Q E s;refine O4 (Wb d h (x:=us[i]) (by simp[lt]) λg a b=>O4 (Qh (Be f n (i+1) _ _ a (tj h λo e=>b.extBut _ _ f e) (by lia) λj c k=>O8 ?_)));have e:us.toList.drop i=us[i]::us.toList.drop (i+1):=by simp[Rm,lt]
  have:=q j (by rw[show i+(n+1)=i+1+n by lia];exact c) (b.trans k);rw[e,UQ] at this;exact this
theorem l2_unpackL{us:Array O7}{d:List (Bool×(O7->Sem Unit))}(n:A.handled=none)(a:s.heap.IsList l us)(m:d.length=us.size)(r:d.findIdx? (·.1)=none)
 (h: ∀g,Vw s.heap.objs.size s.heap g->Ps (model prog w) A (Z5 (d.map (·.2)) us.toList) Q E {s with heap:=g}):Ps (model prog w) A (unpack (.ref l) d) Q E s:=by
 have i:l≠s.heap.objs.size:=by obtain⟨o,p,_⟩:=a;exact PX (Pp p)
 unfold unpack;rw[m,r];refine O4 (Qh ?_);unfold unpackItems;refine O4 ?_
 unfold notIterableAtAll;refine O4 (UH a.typeIs F.slot_list_iter.lookup (O8 ?_));simp only[Po,if_false];refine O4 (Qh (T6 a ?_));refine O4 (Qh (Be i us.size 0 _ _ ⟨_,Pl _ rfl,rfl,rfl⟩ (a.push _) (by lia) λg q b=>?_));have f:List.take us.size (List.drop 0 us.toList)=us.toList:=by rw[Ue];exact Rl (by simp)
 rw[f,if_neg (by simp)];refine O4 (Qh (Wx n q (tj (a.push _) λo e=>b.extBut _ _ i e) (by simp) λk t=>?_));simp only[Option.isSome_none,Po,if_false];exact O8 (h k λc o j e=>t c o j (b.extBut c o j (Pa _ e)))
end
end PySem
namespace L2
open PySem PySem.Spec PyProof.Rows
section
variable {X:Cx}{c:Ct}{es:List Expr}{pos:Pos}
def NK(K:Pk)(n:Nat)(t:BP):TG:=λv σ H Q=> ∃a xs,v=.ref a/\SqL K H a xs/\xs.length=n/\t xs σ H Q
theorem Jo(p:X.calm=true)(h:PGs X es t)(m:(Q8 es X.env).length=n:=by rfl)(c:(Q8 es X.env).findIdx? (·.1)=none:=by rfl):PG X (.Tuple es k pos) (NK X.K n t):=by
 intro f s σ H v u Q I r hw;obtain⟨a,xs,y,j,x,hw⟩:=hw;subst y;cases r;obtain⟨w,d,q,z⟩:=I.list j;rw[assign_Tuple];refine O4 (RT (PySem.l2_unpackL (I.ok.hd p) q.isList (by simp[m,<-x,d.length]) c λg l=>?_));have i:Inv X f σ H {s with heap:=g}:=I.kept (t':=s.toks) λb o e=>l b o (PX (Pp e)) e
 exact h f _ σ H xs _ Q i (by simpa using d) hw
def gL(n:Nat)(a:sK):FG:=λd ρ=>match d with
 | .lst ds=>if ds.length=n then a ds ρ else none
 |_=>none
theorem AH{i n:Nat}(l:X.calm=true)(h:ML X c es gs)(k:(Q8 es X.env).length=n:=by rfl)(f:(Q8 es X.env).findIdx? (·.1)=none:=by rfl):tS X c (.Tuple es i pos) (gL n gs):=λhid ρ d=>
 PG.imp (Jo l (vB λds=>h hid ρ ds) k f) λv σ H Q b=>by
  obtain⟨j,r,ρ',e,q⟩:=b;unfold gL at e;split at e
  ·split at e
   ·cases r with
    |lst a g=>have a:=SqL.of (K:=X.K) a;exact⟨_,_,rfl,(dq _ _).seq a,by rw[g.length];assumption,_,j,g,ρ',e,q⟩
   ·cases e
  ·cases e
end
section
variable {K:Pk}{c:Ct}{hid:bM}{ρ:aF}{σ:St}{H:Hp}{a:Addr}
theorem SR.setD {b:Ob}(h:SR K c hid ρ σ H)(u:i4 K c hid H a b)(no: ∀i:Nat,Ow ρ[i]? ->σ[i]? ≠some (some (.ref a)))(i:Nat):
 SR K c hid (ρ.set i (.ob b)) (σ.set i (some (.ref a))) H:=by
 refine⟨h.tr,h.ht,h.h0,h.kp,h.t0,h.c0,h.m0,by simp[h.len],λj s q=>?_,λj l z n r p m f=>?_⟩
 ·by_cases e:j=i
  ·subst e;have lt:j<ρ.length:=by
    have:=(Pu.mp q).1;simpa using this
   rw[PR lt] at q;cases q;exact⟨a,PR (by rw[h.len];exact lt),u⟩
  ·rw[PJ (Qu e)] at q;have w:=h.sl j s q;have es:(σ.set i (some (V.ref a)))[j]? =σ[j]? :=PJ (Qu e);cases s with
   |no=>trivial
   |v d=>obtain⟨x,k,g⟩:=w;exact⟨x,es.trans k,g⟩
   |own ds=>obtain⟨a,xs,k,g⟩:=w;exact⟨a,xs,es.trans k,g⟩
   |arg ds=>obtain⟨a,xs,k,g⟩:=w;exact⟨a,xs,es.trans k,g⟩
   |ob b=>obtain⟨a,k,g⟩:=w;exact⟨a,es.trans k,g⟩
 ·by_cases t:j=i
  ·subst t;have o:l≠j:=λe=>n e.symm
   rw[PJ (Qu o)] at p f
   by_cases lt:j<σ.length
   ·rw[PR lt] at m;cases m;exact no l p f
   ·rw[Qz (by simpa using lt)] at m;cases m
  ·rw[PJ (Qu t)] at r m
   by_cases o:l=i
   ·subst o
    by_cases lt:l<σ.length
    ·rw[PR lt] at f;cases f;exact no j r m
    ·rw[Qz (by simpa using lt)] at f;cases f
   ·rw[PJ (Qu o)] at p f;exact h.ap j l z n r p m f
theorem i4.kind(h:i4 K c hid H a b)(o:tM b): ∃u,H a=some u/\ ∀p v,u≠ .nst p v:=by
 cases b with
 |nst us=>obtain⟨_,_,e,_⟩:=h;exact⟨_,e,nofun⟩
 |dQ f=>exact o.elim
 |frs d=>exact o.elim
 |dR f=>exact o.elim
 |dRs l=>exact o.elim
 |exc x n=>exact o.elim
 |dK f=>obtain⟨_,_,e,_⟩:=h;exact⟨_,e,nofun⟩
 |dT f=>obtain⟨_,_,e,_⟩:=h;exact⟨_,e,nofun⟩
 |set ds=>obtain⟨_,_,e,_⟩:=h;exact⟨_,e,nofun⟩
 |old d=>exact o.elim
 |jnk=>obtain⟨_,_,e⟩:=h;exact⟨_,e,nofun⟩
 |tset ks=>obtain⟨_,_,e,_⟩:=h;exact⟨_,e,nofun⟩
 |dF f=>obtain⟨_,_,_,e,_⟩:=h;exact⟨_,e,nofun⟩
theorem SR.putO(h:SR K c hid ρ σ H)(M:ρ[i]? =some (.ob b))(D:tM b)(ST:tM b')(P:σ[i]? =some (some (.ref a)))(Y:At H a x)(g:hid x=true)(G:c.H₀ x=none)
 (nt: ∀xs,o'≠ .tup xs) (U:i4 K c hid (bY H x o') a b'):SR K c hid (ρ.set i (.ob b')) σ (bY H x o'):=by
 have lt:i<ρ.length:=(Pu.mp M).1;have L:vw (bY H x o') hid=vw H hid:=fX g;have A: ∀b o,H b=some o-> ∃F,(bY H x o') b=some F:=λb o q=>by
  by_cases e:b=x
  ·subst e;exact⟨_,aT⟩
  ·exact⟨o,by rw[aP e];exact q⟩
 have t:Ow ρ[i]? :=by rw[M];exact D
 obtain⟨a2,E,X⟩:=h.sl i _ M;rw[P] at E;cases E;obtain⟨w,kw,Z⟩:=X.kind D;have N: ∀(j:Nat) (s:Sl) (f y:Addr) (B:HO),j≠i->ρ[j]? =some s->Ow (some s)->σ[j]? =some (some (.ref f))->H f=some B->(∀p v,B≠ .nst p v)->At H f y->y≠x:=λj s f y B n e o q hw T J=>by
  have V:f≠a:=λz=>by subst z;exact h.ap j i f n (by rw[e];exact o) t q P
  rcases Y with rfl|⟨u,O⟩
  ·exact J.ne V kw Z
  ·intro z;subst z;rcases J with rfl|⟨u',I⟩
   ·rw[hw] at O;exact T _ _ (Qi O)
   ·rw[O] at I;cases I;exact V rfl
 have r: ∀j:Nat,Ow (ρ.set i (.ob b'))[j]? ->Ow ρ[j]? :=λj o=>by
  by_cases e:j=i
  ·subst e;exact t
  ·rw[PJ (Qu e)] at o;exact o
 refine⟨λb S=>let⟨o,q⟩:=h.tr b S;A b o q,λb xs S q=>by
  by_cases e:b=x
  ·subst e;rw[aT] at q;exact nt xs (Qi q)
  ·rw[aP e] at q;exact h.ht b xs S q,h.h0,λb o q m=>?_,λb o q=>let⟨F,q2⟩:=h.t0 b o q;A b F q2,h.c0,h.m0,by simp[h.len],λj s e=>?_,λj l z n W F=>h.ap j l z n (r j W) (r l F)⟩
 ·rw[aP (bD q G)];exact h.kp b o q m
 ·by_cases C:j=i
  ·subst C;rw[PR lt] at e;cases e;exact⟨a,P,U⟩
  ·rw[PJ (Qu C)] at e;have z:=h.sl j s e;cases s with
   |no=>trivial
   |v d=>obtain⟨x,k,g⟩:=z;exact⟨x,k,by rw[L];exact g⟩
   |own ds=>obtain⟨f,xs,k,g,G,R,Q⟩:=z;exact⟨f,xs,k,by rw[aP (N j _ f f _ C e trivial k g nofun (.inl rfl))];exact g,G,R,by rw[L];exact Q⟩
   |arg ds=>obtain⟨f,xs,k,g,G,R,Q⟩:=z;exact⟨f,xs,k,by rw[aP (N j _ f f _ C e trivial k g nofun (.inl rfl))];exact g,G,R,by rw[L];exact Q⟩
   |ob b=>
    obtain⟨f,k,g⟩:=z
    exact⟨f,k,g.mono (λD y J o q=>by
     obtain⟨B,hw,T⟩:=g.kind D
     rw[aP (N j _ f y B C e D k hw T J)];exact q) (by rw[L];exact am.refl _) λ_ _ _ q=>q⟩
end
open PySem PySem.W PySem.Spec PyProof.Rows
section
variable {prog:Qc}{w:Qv}{A:Qe}{E:O7->O9->Prop}{s:O9}
theorem zI(l:KdlSrc prog w T r d n P OK)(u:A.handled=none)(j:OK s.heap)(v:n<=PN)
 (q: ∀(g:Heap) (tk:Nat) (us:Array O7),(∀b o,s.heap.get? b=some o->g.get? b=some o)->s.heap.objs.size<g.objs.size->ItemsOf P us n->R us.toList {s with heap:=g,toks:=tk}):Ps (model prog w) A (collect (.ref r)) R E s:=by
 obtain⟨rl,x⟩:=l.there _ j;unfold collect;refine O4 (WQ (RJ WD ?_));rw[Rx WE _];show Ps _ A.in1 (W3 []>>=λz=>WJ (.builtin "list.__iadd__" ⟨[z,.ref r],[]⟩)) _ _ s;refine O4 (Rf (O8 ⟨VG Ub _,RJ X9 ?_⟩));rw[Rx Ub _];show Ps _ A.in1 (U0 (.ref s.heap.objs.size) (.ref r) (.ref s.heap.objs.size)) _ _ _;have i: ∀(g:Heap) (tk:Nat) (us:Array O7) (m:Nat),(∀b o,s.heap.get? b=some o->g.get? b=some o)->g.get? s.heap.objs.size=some {cls:=.type "list",dict:=none,data:=.seq us m,slots:= #[]}->ItemsOf P us n->
  Ps (model prog w) A (do
   match (<-load s.heap.objs.size).data with
    |Data.seq xs _=>pure xs.toList
    |_=>RI "internal:collect") R E {s with heap:=g,toks:=tk}:=λg tk us m k a p=>O4 (Zm a (O8 (q g tk us k (Pp a) p)))
 have ext:=kdl_extend (A:=A) (s:={s with heap:=s.heap.push {cls:=.type "list",data:=.seq ([]:List O7).toArray}})
  (R:=λz t=> ∃(g:Heap) (tk:Nat) (us:Array O7) (m:Nat),z=.ok (.ret (.ref s.heap.objs.size))/\t={s with heap:=g,toks:=tk}/\(∀b o,s.heap.get? b=some o->g.get? b=some o)/\g.get? s.heap.objs.size=some {cls:=.type "list",dict:=none,data:=.seq us m,slots:= #[]}/\ItemsOf P us n)
  l u (l.keep _ _ j λb _ o e=>Pa _ e) s.heap.objs.size (RF rl) (RF x) (.ref s.heap.objs.size) 0 (Pl _ rfl)
  (λg tk us m k a p=>⟨g,tk,us,m,rfl,rfl,λb o e=>k b o (PX (Pp e)) (Pa _ e),a,p⟩) v
 refine Qj ext (λz t h=>?_) λz t h=>by obtain⟨_,_,_,_,e,_⟩:=h;cases e
 cases z with
 |done f=>obtain⟨g,tk,us,m,e,rfl,k,a,p⟩:=h;cases e;exact i g tk us m k a p
 |again c=>exact⟨h.1,R7 h.2 λz t' y=>by obtain⟨g,tk,us,m,rfl,rfl,k,a,p⟩:=y;exact i g tk us m k a p⟩
end
mutual
def LF:D->Bool
 | .lst _=>false
 | .tup ds=>Gt ds
 | .scr ds=>Gt ds
 |_=>true
def Gt:List D->Bool
 | []=>true
 |d::ds=>LF d&&Gt ds
end
theorem DZ {K:Pk}(h: ∀t,g' t=false->g t=true->xL (H t)=true)(s:SqT K (vw H g') a xs):SqT K (vw H g) a xs:=by
 rcases s with(s|⟨o,s⟩)|s
 ·obtain⟨c,b⟩:=bX.mp s;refine .inl (.inl (bX.mpr ⟨?_,b⟩));cases e:g a with
  |false=>rfl
  |true=>have:=h a c e;rw[b] at this;cases this
 ·obtain⟨c,b⟩:=bX.mp s;refine .inl (.inr ⟨o,bX.mpr ⟨?_,b⟩⟩);cases e:g a with
  |false=>rfl
  |true=>have:=h a c e;rw[b] at this;cases this
 ·exact .inr s
theorem ET {K:Pk}(h: ∀t,g' t=false->g t=true->xL (H t)=true)(s:SqR K (vw H g') a xs):SqR K (vw H g) a xs:=by
 rcases s with⟨o,s⟩|s
 ·obtain⟨c,b⟩:=bX.mp s;refine .inl ⟨o,bX.mpr ⟨?_,b⟩⟩;cases e:g a with
  |false=>rfl
  |true=>have:=h a c e;rw[b] at this;cases this
 ·exact .inr s
mutual
theorem vQ {K:Pk}(h: ∀t,g' t=false->g t=true->xL (H t)=true): ∀ {v:V} {d:D},Rep K (vw H g') v d->LF d=true->Rep K (vw H g) v d
 |_,_,.non,_=>.non
 |_,_,.bl,_=>.bl
 |_,_,.int,_=>.int
 |_,_,.str,_=>.str
 |_,_,.tup s r,l=>.tup (DZ h s) (iG h r (by unfold LF at l;exact l))
 |_,_,.scr s r,l=>.scr (ET h s) (iG h r (by unfold LF at l;exact l))
 |_,_,.lst s r,l=>by unfold LF at l;cases l
theorem iG {K:Pk}(h: ∀t,g' t=false->g t=true->xL (H t)=true): ∀ {v:List V} {d:List D},Reps K (vw H g') v d->Gt d=true->Reps K (vw H g) v d
 |_,_,.nil,_=>.nil
 |_,_,.cons r rs,l=>by
  unfold Gt at l;rw[Pi] at l;exact .cons (vQ h r l.1) (iG h rs l.2)
end
def zK:Sl->Sl->Option Sl
 | .no,_=>some .no
 | .v d,_=>some (.v d)
 | .own _,.own b=>if Gt b=true then some (.own b) else none
 | .arg _,.arg b=>if Gt b=true then some (.arg b) else none
 |_,_=>none
def lj:aF->aF->Option aF
 | [],_=>some []
 |s::r,s2::b=>(zK s s2).bind λa=>(lj r b).map (a:: ·)
 |_::_,[]=>none
theorem ww: ∀ {ρ ρ2 a:aF},lj ρ ρ2=some a->a.length=ρ.length
 | [],_,_,h=>by cases h;rfl
 |s::r,[],_,h=>by cases h
 |s::r,s2::c,a,h=>by
  obtain⟨b,g,e⟩:=PB.mp (show(zK s s2).bind (λb=>(lj r c).map (b:: ·))=some a from h);obtain⟨i,d,f⟩:=QK.mp e;subst f;simp[ww d]
theorem pQ: ∀ {ρ ρ2 f:aF} {j:Nat} {g:Sl},lj ρ ρ2=some f->f[j]? =some g-> ∃s,ρ[j]? =some s/\(g=s/\(s=.no\/ ∃d,s=.v d)\/ ∃s2,ρ2[j]? =some s2/\g=s2/\((∃a b,s=.own a/\s2=.own b/\Gt b=true)\/ ∃a b,s=.arg a/\s2=.arg b/\Gt b=true))
 | [],_,_,_,_,h,e=>by cases h;simp at e
 |s::r,[],_,_,_,h,_=>by cases h
 |s::r,s2::i,f,j,x,h,e=>by
  obtain⟨g,c,k⟩:=PB.mp (show(zK s s2).bind (λg=>(lj r i).map (g:: ·))=some f from h);obtain⟨p,n,m⟩:=QK.mp k;subst m;cases j with
  |zero=>
   have e:g=x:=by simpa using e
   subst e;refine⟨s,rfl,?_⟩;unfold zK at c;split at c
   ·cases c;exact .inl ⟨rfl,.inl rfl⟩
   ·cases c;exact .inl ⟨rfl,.inr ⟨_,rfl⟩⟩
   ·split at c
    ·cases c;exact .inr ⟨_,rfl,rfl,.inl ⟨_,_,rfl,rfl, ‹_›⟩⟩
    ·cases c
   ·split at c
    ·cases c;exact .inr ⟨_,rfl,rfl,.inr ⟨_,_,rfl,rfl, ‹_›⟩⟩
    ·cases c
   ·cases c
  |succ j=>
   obtain⟨s',o,l⟩:=pQ (j:=j) n (by simpa using e);exact⟨s',by simpa using o,by simpa using l⟩
section
variable {K:Pk}{c:Ct}{hid1 hid2 hidD:bM}{ρ ρ2 ρ3:aF}{σ σ2:St}{H H':Hp}
theorem rG(e:lj ρ ρ2=some ρ3){j:Nat}(o:Ow ρ3[j]?):Ow ρ[j]? /\Ow ρ2[j]? :=by
 cases z:ρ3[j]? with
 |none=>rw[z] at o;exact o.elim
 |some h=>
  rw[z] at o;obtain⟨s,c,g⟩:=pQ e z;rcases g with⟨rfl,rfl|⟨d,rfl⟩⟩|⟨s2,f,rfl,⟨a,b,rfl,rfl,_⟩|⟨a,b,rfl,rfl,_⟩⟩
  ·exact o.elim
  ·exact o.elim
  ·exact⟨by rw[c];trivial,by rw[f];trivial⟩
  ·exact⟨by rw[c];trivial,by rw[f];trivial⟩
theorem SR.mix(h:SR K c hid1 ρ σ H)(w:am (vw H hid1) (vw H' hidD))(l:SR K c hid2 ρ2 σ2 H')(y:Lj hidD H')(F: ∀b,c.hid₀ b=true->hidD b=true)(A: ∀b,hid2 b=true->hidD b=true)
 (v: ∀t,hid2 t=false->hidD t=true->xL (H' t)=true) (e:lj ρ ρ2=some ρ3) (B: ∀j:Nat,Ow ρ[j]? ->Ow ρ2[j]? ->σ2[j]? =σ[j]?):SR K c hidD ρ3 σ H':=by
 refine⟨y.1,y.2,F,l.kp,l.t0,h.c0,h.m0,by rw[ww e];exact h.len,λj G z=>?_,λi j a n C E=>h.ap i j a n (rG e C).1 (rG e E).1⟩;obtain⟨s,m,D⟩:=pQ e z;rcases D with⟨rfl,rfl|⟨d,rfl⟩⟩|⟨s2,k,rfl,⟨a,b,rfl,rfl,q⟩|⟨a,b,rfl,rfl,q⟩⟩
 ·trivial
 ·obtain⟨x,f,g⟩:=h.sl j _ m;exact⟨x,f,g.mono w⟩
 ·obtain⟨r,xs,f,g,u,o,p⟩:=l.sl j _ k;rw[B j (by rw[m];trivial) (by rw[k];trivial)] at f;exact⟨r,xs,f,g,A _ u,o,iG v p q⟩
 ·obtain⟨r,xs,f,g,u,o,p⟩:=l.sl j _ k;rw[B j (by rw[m];trivial) (by rw[k];trivial)] at f;exact⟨r,xs,f,g,A _ u,o,iG v p q⟩
end
def eB(g:FG)(p:FT)(f:GE):List D->aF->Option (List D×aF)
 | [],ρ=>some ([],ρ)
 |d::r,ρ=>(g d ρ).bind λρ1=>(p ρ1).bind λb=>if b=true then(f ρ1).bind λq=>if LF q.1=true then(lj ρ q.2).bind λa=>(eB g p f r a).map λz=>(q.1::z.1,z.2) else none
  else eB g p f r ρ
def ft(m:Nat)(a:GA)(g:FG)(p:FT)(f:GE):GE:=λρ=>(a ρ).bind λz=>if z.1.length<=PN then(eB g p f z.1 (z.2++Pj m .no)).bind λy=>(lj z.2 y.2).map λρ'=>(.lst y.1,ρ') else none
theorem wA{d:D}(h:ft m gi g p f ρ=some (d,ρ')): ∃ds a ys b,gi ρ=some (ds,a)/\ds.length<=PN/\eB g p f ds (a++Pj m .no)=some (ys,b)/\lj a b=some ρ'/\d=.lst ys:=by
 obtain⟨⟨ds,a⟩,e,c⟩:=PB.mp (show(gi ρ).bind _=_ from h);split at c
 ·obtain⟨⟨ys,b⟩,l,k⟩:=PB.mp c;obtain⟨ρ1,i,j⟩:=QK.mp k;cases j;exact⟨ds,a,ys,b,e, ‹_›,l,i,rfl⟩
 ·cases c
section
variable {X:Cx}{c:Ct}{elt tg iter:Expr}{ifs:List Expr}{scope:R5}{pos spos py:Pos}{N':List Str}{m:Nat}{gi:GA}{g:FG}{p:FT}{f:GE}{y:Str}
structure CLE(Y:Cx)(K:Pk)(c:Ct)(hid:bM)(ρF ρE:aF)(nN:Nat)(H:Hp)(D0:Addr)(fp:List Addr)(tn:Nat->Heap->Prop)(g:FG)(p:FT)(f:GE)(ds ys:List D)(σ3:St)(n i:Nat)(xs:List V)(ad:List D)(ρ:aF)(σ':St)(H':Hp)(s':O9):Prop where
 e:n=ds.length-i
 hi:i<=ds.length
 I:Inv Y [] σ' H' s'
 st:tn i s'.heap
 fr: ∀b∈fp,H' b=none
 sr:SR K c (bc hid D0) ρ σ' H'
 kp:eb hid H H'
 ac:H' D0=some (.lst xs)
 rp:Reps K (vw H' (bc hid D0)) xs ad
 w:am (vw H hid) (vw H' (bc hid D0))
 hl:xs.length<=i
 na: ∀i:Nat,Ow ρ[i]? ->σ'[i]? ≠some (some (.ref D0))
 ok:OwK ρF ρ σ3 σ'
 no: ∀(j:Nat) (s:Sl),nN<=j->ρ[j]? =some s->s=.no
 go: ∃rest,eB g p f (ds.drop i) ρ=some (rest,ρE)/\ad++rest=ys
theorem yd(S:X.calm=true)(hT:jz X.N.length g)
 (hg: ∀C F G ex,tS (aE X N' scope C F G ex) c tg g) (hp: ∀C F G ex,vy (aE X N' scope C F G ex) c ifs p) (he: ∀C F G ex,DE (aE X N' scope C F G ex) c .s elt f) {H E:Hp} {Y s4:O9} {hid:bM} {ds ys:List D}
 (hno: ∀(j:Nat) (s:Sl),X.N.length<=j->ρF[j]? =some s->s=.no)
 (I:Inv (aE X N' scope C Y E fp) [] σ3 E s4) (sr:SR X.K c (bc hid D0) ρF σ3 E) (h0: ∀b,c.hid₀ b=true->hid b=true) (nh:hid D0=false) (h00:c.H₀ D0=none) (na: ∀i:Nat,Ow ρF[i]? ->σ3[i]? ≠some (some (.ref D0))) (hacc:E D0=some (.lst [])) (sm:eb hid H E) (nD:H D0=none) (wv:am (vw H hid) (vw E (bc hid D0))) (T:iT X.prog X.w X.K tg J fp it tn) (st:tn 0 s4.heap) (hF: ∀b∈fp,E b=none)
 (io:il X.K (vw H hid) J ds) (hz:ds.length<=PN) (hc:eB g p f ds ρF=some (ys,ρE))
 (hR: ∀(s':O9) (h:St) (k:Hp) (xs:List V),Inv (aE X N' scope C Y E fp) [] h k s'->SR X.K c (bc hid D0) ρE h k->OwK ρF ρE σ3 h->eb hid H k->k D0=some (.lst xs)->Reps X.K (vw k (bc hid D0)) xs ys->am (vw H hid) (vw k (bc hid D0))->R (.ok .next) s'):
 RU (model X.prog X.w) X.A (.compLoop (.ListComp elt [⟨tg,iter,ifs,0⟩] scope pos) 0 (.ref it) (.ref D0) (VS scope (oz X.env.cells scope C) C X.env)) R s4:=by
 have U: ∀ {ah:List (Addr×Obj)} {k:Hp},(∀q∈ah,q.1∉fp)->(∀b∈fp,k b=none)-> ∀b∈fp,jH (aE X N' scope C Y E fp) ah k b:=λ{ah k} hpn hn b y=>
  ⟨hn b y,(I.ok.exf b y).1,I.ok.exfs b y,.inl y,(I.ok.exf b y).2,λq hq e=>hpn q (by have hq':q∈([]:List (Addr×Obj))++ah:=hq;simpa using hq') (by rw[e];exact y)⟩
 have no: ∀q∈([]:List (Addr×Obj)),q.1∉fp:=λq hq=>nomatch hq
 refine eY (λn s'=> ∃(i:Nat) (xs:List V) (ad:List D) (ρ:aF) (h:St) (k:Hp),CLE (aE X N' scope C Y E fp) X.K c hid ρF ρE X.N.length H D0 fp tn g p f ds ys σ3 n i xs ad ρ h k s') ?_ ds.length
  ⟨0,[],[],ρF,σ3,E,by simp,Q3 _,I,st,hF,sr,sm,hacc,.nil,wv,Q3 _,na,λi o=>⟨o,rfl⟩,hno,ys,by simpa using hc,rfl⟩
 rintro n s5 ⟨i,xs,ad,ρ,W,H5,rfl,hi,I5,st5,f5,sr5,sm5,ac5,rp5,w5,hl5,na5,ok5,L,rest,d,Ty⟩;have wH:am (vw H hid) H5:=w5.trans (dq _ _)
 by_cases ST:i<ds.length
 ·have hd:ds[i]? =some ds[i]:=Pd ST;have e2:ds.drop i=ds[i]::ds.drop (i+1):=Rm ST;rw[e2] at d;unfold eB at d;obtain⟨go,yl⟩:=io.1 i ds[i] H5 hd wH;refine bW (T.item (aE X N' scope C Y E fp) rfl rfl rfl S i [] s5 W H5 (λ_ _=>False) I5 (U no f5) st5 go) λr s6 l=>?_
  obtain⟨u,hr,h6⟩:=l;subst hr;refine bW h6 λ_ s7 l=>?_
  obtain⟨x,H7,I7,r7,y7,st7,f7⟩:=l;obtain⟨Tm,rp⟩:=yl x H7 y7;have rx:=rp (bc hid D0) sr5.tr w5;have I7':=I7.pinned (U no f7) (T.obj _ _ st7);obtain⟨ρ1,e3,d⟩:=PB.mp d;obtain⟨b,e4,d⟩:=PB.mp d;obtain⟨tl1,tl2⟩:=hT _ _ _ e3;have fg: ∀ {h:St} {k:Hp},SR X.K c (bc hid D0) ρ1 h k->SR X.K c (bc hid D0) ρ h k:=λ{h k} z=>z.forget tl1 λj s e=>by
   by_cases hj:j<X.N.length
   ·exact .inr ((tl2 j hj).trans e)
   ·exact .inl (L j s (by lia) e)
  have owl: ∀j:Nat,Ow ρ[j]? ->Ow ρ1[j]? :=λj o=>by
   by_cases hj:j<X.N.length
   ·rw[tl2 j hj];exact o
   ·exfalso;cases z:ρ[j]? with
    |none=>rw[z] at o;exact o
    |some s=>rw[z] at o;rw[L j s (by lia) z] at o;exact o
  have Z: ∀ {h:St} {k:Hp} {s':O9},Inv (aE X N' scope C Y E fp) ([]++l5 fp s7.heap) h k s'->tn (i+1) s'.heap/\ ∀b∈fp,k b=none:=λ{h k s'} J'=>by
   refine⟨T.keep _ _ _ st7 λb y o e=>(J'.pin (b,o) (PU _ (PU _ (dh y e)))).1,λb y=>?_⟩;obtain⟨o,e,_⟩:=T.obj _ _ st7 b y;exact(J'.pin (b,o) (PU _ (PU _ (dh y e)))).2.1
  refine bW (hg C Y E fp (bc hid D0) ρ ds[i] _ s7 W H7 x u (λh k=>k=H7/\SR X.K c (bc hid D0) ρ1 h H7/\OwK ρ ρ1 W h) I7' r7 ⟨sr5.ext Tm,rx,ρ1,e3,λh z o=>⟨rfl,z,o⟩⟩) λ_ s8 l=>?_
  obtain⟨m,H8,I8,e8,q8,o8⟩:=l;subst e8;have na8: ∀i:Nat,Ow ρ1[i]? ->m[i]? ≠some (some (.ref D0)):=λj o=>by
   rw[(o8 j o).2];exact na5 j (o8 j o).1
  refine bW (hp C Y E fp (bc hid D0) ρ1 _ s8 m H8 (λb' k=>b'=b/\am H8 k) I8 ⟨q8,b,e4,λk s'=>⟨rfl,s'⟩⟩) λok s9 l=>?_
  obtain⟨H9,I9,e9,O⟩:=l;subst e9;have w9:am (vw H5 (bc hid D0)) (vw H9 (bc hid D0)):=aX (Tm.trans O);have k9:eb hid H H9:=sm5.trans (.of (Tm.trans O));have a9:H9 D0=some (.lst xs):=O _ _ (Tm _ _ ac5);have ok8:OwK ρF ρ σ3 m:=λj o=>⟨(ok5 j o).1,by rw[(o8 j (owl j o)).2];exact(ok5 j o).2⟩
  cases ok with
  |false=>
   rw[if_neg (by decide)] at d;obtain⟨k1,k2⟩:=Z I9;exact⟨ds.length- (i+1),by lia,i+1,xs,ad,ρ,m,H9,rfl,ST,I9.unpinned,k1,k2,fg (q8.ext O),k9,a9,rp5.mono w9,w5.trans w9,by lia,λj o=>na8 j (owl j o),ok8,L,rest,d,Ty⟩
  |true=>
   rw[if_pos rfl] at d;obtain⟨⟨yv,ρ2⟩,e5,d⟩:=PB.mp d;split at d
   ·rename_i lf
    obtain⟨ρ3,e6,d⟩:=PB.mp d;obtain⟨⟨rest',ρx⟩,e7,d⟩:=QK.mp d;cases d;show Ps (model X.prog X.w) X.A (eval elt _) _ _ s9;have srs:SR X.K c hid ρ1 m H9:=(q8.ext O).show h0 na8 a9;refine bW (he C Y E fp hid ρ1 _ s9 m H9 (λv k=>dD X.K c hid .s ρ2 m H9 k v yv) I9 ⟨srs,yv,ρ2,e5,λv k z=>z⟩) λv s10 l=>?_
    obtain⟨z,B,I10,rz,P,M,rp10⟩:=l;have Q:B D0=some (.lst xs):=P _ _ a9 nh;refine bW (dv (X:=aE X N' scope C Y E fp) _ s10 m B (.ref D0) [z] (.ref D0) [v] (λ_ k=>k=bY B D0 (.lst (xs++[z]))) I10 rfl (.cons rz .nil) ⟨D0,xs,z,rfl,rfl,Q,by lia,rfl⟩) λ_ s11 ⟨_,H11,I11,_,e11⟩=>?_
    subst e11;obtain⟨k1,k2⟩:=Z I11;have lo: ∀t,hid t=false->bc hid D0 t=true->xL (B t)=true:=λt h1 h2=>by
     unfold bc at h2;rw[h1] at h2;have:t=D0:=by simpa using h2
     subst this;rw[Q];rfl
    have kD:eb (bc hid D0) H9 B:=λb o q y=>P b o q (zG y).1
    have w10:am (vw H5 (bc hid D0)) (vw B (bc hid D0)):=w9.trans kD.vw;have vv:vw (bY B D0 (.lst (xs++[z]))) (bc hid D0)=vw B (bc hid D0):=fX fL
    have q10:SR X.K c (bc hid D0) ρ3 m B:=(fg (q8.ext O)).mix kD.vw M ⟨λb y=>by
     by_cases e:b=D0
     ·subst e;exact⟨_,Q⟩
     ·unfold bc at y;exact M.tr b (by simpa [e] using y),λb xs y q=>by
     by_cases e:b=D0
     ·subst e;rw[Q] at q;cases q
     ·unfold bc at y
      exact M.ht b xs (by simpa [e] using y) q⟩ (λb q=>cF (h0 b q)) (λb q=>cF q) lo e6 λ_ _ _=>rfl
    have na10: ∀i:Nat,Ow ρ3[i]? ->m[i]? ≠some (some (.ref D0)):=λj o=>M.notOw nh j (rG e6 o).2
    refine⟨ds.length- (i+1),by lia,i+1,xs++[z],ad++[yv],ρ3,m,_,rfl,ST,I11.unpinned,k1,k2,?_,λb o e y=>?_,aT,?_,?_,by simp;lia,na10,λj o=>ok8 j (rG e6 o).1,λj s hj e=>?_,rest',e7,by rw[<-Ty];simp⟩
    ·exact q10.write fL h00 na10 Q
    ·rw[aP (bD e nD)];exact P _ _ (k9 _ _ e y) y
    ·rw[vv];exact(rp5.mono w10).append (.cons (vQ lo rp10 lf) .nil)
    ·rw[vv];exact w5.trans w10
    ·obtain⟨s',z1,z2⟩:=pQ e6 e;have:=L j s' hj z1;subst this;rcases z2 with⟨rfl,_⟩|⟨s2,_,_,⟨a,b,z,_⟩|⟨a,b,z,_⟩⟩
     ·rfl
     ·cases z
     ·cases z
   ·cases d
 ·have e:i=ds.length:=by lia
  subst e;rw[R9 (Ph _)] at d;cases d;rw[QJ] at Ty;subst Ty;refine bW (T.done (aE X N' scope C Y E fp) rfl rfl rfl S ds.length [] s5 W H5 (λ_ _=>False) I5 (U no f5) st5 (io.2 H5 wH)) λr s6 l=>?_
  obtain⟨hr,I6⟩:=l;subst hr;exact hR s6 W H5 xs I6 sr5 ok5 sm5 ac5 rp5 w5
theorem wl(y:X.calm=true)(hk:scope.kind=.function)(hs:x6 scope X.env.scope=true)(hn:ym X.N N' scope=true)(hm:N'.length-X.N.length=m)(hT:jz X.N.length g)
 (hg: ∀C d h R,tS (aE X N' scope C d h R) c tg g) (hp: ∀C d h R,vy (aE X N' scope C d h R) c ifs p) (he: ∀C d h R,DE (aE X N' scope C d h R) c .s elt f) {s:O9} {ds ys:List D} {RR:O7->Addr->U9->O9->Prop}
 (I:Inv X ah σ H s) (F:SR X.K c hid ρ σ H) (T:iT X.prog X.w X.K tg J fp it tn) (st:tn 0 s.heap) (hF: ∀b∈fp,jH X ah H b) (io:il X.K (vw H hid) J ds) (hz:ds.length<=PN) (hc:eB g p f ds (ρ++Pj m .no)=some (ys,ρE))
 (hR: ∀(D C:Addr) (s':O9) (q:St) (l:Hp) (xs:List V),s.heap.objs.size<=D->s.heap.objs.size<=C->D≠C->H D=none->eb hid H l->l D=some (.lst xs)->Reps X.K (vw l (bc hid D)) xs ys->SR X.K c (bc hid D) ρE q l->OwK (ρ++Pj m .no) ρE (σ++Pj m none) q->am (vw H hid) (vw l (bc hid D))->(∃m,s'.heap.Ns C m)->l C=none->s'.os=s.os->T4 s'.gens->HOk X.prog X.w l s'.heap->Un (frs X.stack) fp H l s.heap s'.heap->RR (.ref D) C (.ok .next) s'):
 Ps (model X.prog X.w) X.A (W3 []) (λacc L=>Ps (model X.prog X.w) X.A (T9 scope X.env.globals (ut X.env.cells scope.names []) [] X.env.qual none .none (some X.env)) (λu M=>
  RU (model X.prog X.w) X.A (.compStart (.ListComp elt [⟨tg,iter,ifs,0⟩] scope pos) 0 (.ref it) acc {u with scope:=T8 scope X.env}) (RR acc u.locals) M) E L) E s:=by
 refine Rf (ux λv a t k=>?_);dsimp only at a t k⊢;generalize B:s.heap.push {cls:=.type "list",dict:=none,data:=.seq ([]:List O7).toArray}=H2 at a t k⊢;have hC:H2.objs.size=s.heap.objs.size+1:=by rw[<-B,QY]
 have r:H s.heap.objs.size=none:=I.hok.fresh (Ph _);have I2:Inv X ah σ (bY H s.heap.objs.size (.lst [])) {s with heap:=H2}:=by
  rw[<-B];exact I.laid (t':=s.toks) (λb o e=>Pa _ e) (Ph _) ⟨Q3 _,[],0,.nil,Pl _ rfl⟩
 have O: ∀b∈fp,b<s.heap.objs.size:=λb n=>let⟨o,e,_⟩:=T.obj 0 s.heap st b n;Pp e
 have P: ∀b∈fp,jH X ah (bY H s.heap.objs.size (.lst [])) b:=λb n=>⟨by rw[aP (PX (O b n))];exact(hF b n).1,(hF b n).2⟩
 have z: ∀b o,s.heap.get? b=some o->H2.get? b=some o:=λb o e=>by rw[<-B];exact Pa _ e
 have W:=ql (tk:=s.toks) (N':=N') (fp:=fp) I2 P (λb n=>let⟨o,e,_⟩:=T.obj 0 s.heap st b n;⟨o,z b o e⟩) hk hs hn a t k;rw[hm] at W;dsimp only at W;have sr0:SR X.K c (bc hid s.heap.objs.size) (ρ++Pj m .no) (σ++Pj m none) (bY H s.heap.objs.size (.lst [])):=(F.hide (aR r _) r aT).more m;have hρ:ρ.length=X.N.length:=by rw[<-F.len];exact I.len
 have nf:hid s.heap.objs.size=false:=F.fresh r;have Q:tn 0 v:=T.keep _ _ _ st λb n o e=>t b o (z b o e)
 have S: ∀i:Nat,Ow (ρ++Pj m Sl.no)[i]? ->(σ++Pj m none)[i]? ≠some (some (V.ref s.heap.objs.size)):=(F.more m).notOw nf
 have wv:am (vw H hid) (vw (bY H s.heap.objs.size (.lst [])) (bc hid s.heap.objs.size)):=by rw[u7 r];exact am.refl _
 have x: ∀s4:O9,s4={s with heap:=v,toks:=s.toks}->
  RU (model X.prog X.w) X.A (.compLoop (.ListComp elt [⟨tg,iter,ifs,0⟩] scope pos) 0 (.ref it) (.ref s.heap.objs.size) (VS scope (oz X.env.cells scope H2.objs.size) H2.objs.size X.env)) (RR (.ref s.heap.objs.size) H2.objs.size) s4:=by
  rintro s4 rfl;refine yd (H:=H) (hid:=hid) y hT hg hp he (λj s' hj e=>?_) W sr0 F.h0 nf (F.fresh0 r) S aT (.of (aR r _)) r wv T Q (λb n=>(P b n).1) io hz hc ?_
  ·rw[P4 (by lia),QG] at e;split at e
   ·cases e;rfl
   ·cases e
  intro s' q l xs G srE Z Y hx' U w';have ST:Un (frs X.stack) fp H (bY H s.heap.objs.size (.lst [])) s.heap H2:=Un.laid (λb o e=>z b o e) (Ph _) r;exact hR s.heap.objs.size H2.objs.size s' q l xs (Ph _) (by rw[hC];exact TX _) (by rw[hC];exact PX (QM _)) r Y hx' U srE Z w' (let⟨m,hm,_⟩:=G.loc;⟨m,hm⟩) G.free G.os G.bare G.hok (ST.trans G.base)
 exact Ua (x _ rfl) (T.self X.A 0 _ _ _ Q (x _ rfl))
theorem vR(i:Nat)(F:X.calm=true)(hN:X.N.Nodup)(hT:jz X.N.length g)(hi:DI X c tg iter gi)
 (hg: ∀C h k S,tS (aE X N' scope C h k S) c tg g) (hp: ∀C h k S,vy (aE X N' scope C h k S) c ifs p) (he: ∀C h k S,DE (aE X N' scope C h k S) c .s elt f)
 (hsw:SO (.ListComp elt [⟨tg,iter,ifs,0⟩] scope pos) (some (.Name y py)) spos.line X.env=pure true) (hyi:X.N[i]? =some y) (hy:X.env.scope.names.lookup y=some .local)
 (hk:scope.kind=.function) (hs:x6 scope X.env.scope=true) (hn:ym X.N N' scope=true) (hm:N'.length-X.N.length=m) (W: ∀x,QO iter X.env x=pure x) (ρ:aF):
 PS X (.Assign [.Name y py] (.ListComp elt [⟨tg,iter,ifs,0⟩] scope pos) spos) (G1 (λσ H Q=> ∃hid,Le X.K c hid .n (ft m gi g p f) ρ σ H Q) (Aa i)):=by
 intro ah s σ H E I P;obtain⟨hid,sr,d,ρ',hd,q⟩:=P;obtain⟨ds,u,ys,ρF,e1,hz,hc,Y,rfl⟩:=wA hd;rw[Wy _ _ _ _ hsw];refine O4 (RT (O4 ?_));show Ps _ X.A (do let _ <-Z9 (.ListComp elt [⟨tg,iter,ifs,0⟩] scope pos) scope X.env _ (W3 []) false (eval iter X.env) (some (SQ (.Name y py) X.env))) _ _ s;refine O4 (Qj (SI (use:=some (SQ (.Name y py) X.env)) (Q:=λ_ s'=>SP X ah E .next s') rfl W (fu λx Y=>I.ok.has x (iM hs x Y)) hk (lc hs) ?_) (λ_ s' P=>O8 (O8 P)) λ_ _ e=>e);refine bW (hi hid ρ ah s σ H (λJ B=>eb hid H B/\SR X.K c hid u σ B/\il X.K (vw B hid) J ds) I ⟨sr,ds,u,e1,λJ B k1 s1 io=>⟨k1,s1,io⟩⟩) λv s1 h1=>bW h1 λitv s2 Z=>?_
 obtain⟨it,fp,tn,J,H2,rfl,L,T,st2,R,kp,l,io⟩:=Z;refine wl (RR:=λacc C=>Zx (model X.prog X.w) X.A X.xe (some (SQ (.Name y py) X.env)) (λ_ s'=>SP X ah E .next s') acc C) F hk hs hn hm hT hg hp he L l T st2 R io hz hc ?_
 intro D C s' σ' B xs hDge r hDC hD sm' hx' rp U owk w' ⟨mm,hns⟩ hC' hos M hok hun;have I3:Inv X ah σ B s':=L.call' (ch:=fp) hos hun hok M λb O=>⟨(R b O).2.2.2.1,(R b O).2.1,(R b O).2.2.2.2.1,(R b O).2.2.2.2.2⟩
 have nf:hid D=false:=l.fresh hD;have hD0:H D=none:=by
  cases z:H D with
  |none=>rfl
  |some o=>rw[kp D o z nf] at hD;cases hD
 have srO:SR X.K c (bc hid D) ρ' σ B:=l.mix w' U U.trk (λb q=>cF (l.h0 b q)) (λb q=>q) (λt h1 Z=>by rw[h1] at Z;cases Z) Y λj o1 o2=>by
  have lt:j<u.length:=by
   by_cases lt:j<u.length
   ·exact lt
   ·rw[Qz (by lia)] at o1;exact o1.elim
  rw[(owk j o2).2,P7 (by rw[l.len];exact lt)]
 have fin:=q (.ref D) B ⟨kp.trans sm',D,xs,ys,rfl,rfl,hD0,hx',l.fresh0 hD,nf,srO,rp,λj o=>l.notOw nf j (rG Y o).1⟩;have G: ∀b o,s2.heap.get? b=some o->b≠C:=λb o e z=>by subst z;exact absurd (Pp e) (Tn.mpr r)
 have V:C≠X.env.locals:=λz=>by
  have:=L.lt;rw[<-z] at this;exact absurd this (Tn.mpr r)
 show Ps _ X.A (SQ (.Name y py) X.env (.ref D)) _ _ s';refine Vq (oh (v:=.ref D) I3 hN hyi (.inl hy) rfl (λs'' I4 O=>?_) (.inr hy));obtain⟨a,hsb,ha⟩:=O;have hCa:C≠a:=by
  rcases ha with rfl|ha
  ·exact V
  ·obtain⟨w',o,ho,_⟩:=L.cell y a ha;exact λz=>G a o ho z.symm
 refine⟨mm,hns.sameBut hsb hCa,λh3 hs3=>⟨_,B,?_,fin⟩⟩;refine I4.turned (t':=s''.toks) (it:=C) (λb o nb e=>(hs3.2 b nb).trans e) hC' V (.inr (P8 L.sz r)) (λx c' e z=>?_) (λq P z=>?_)
 ·obtain⟨w',o,ho,_⟩:=L.cell x c' e;exact G c' o ho z
 ·exact G q.1 q.2 (L.pin q P).1 z
theorem EV(i:Nat)(d:X.calm=true)(t:X.N.Nodup)(A:jz X.N.length g)(F:DI X c tg iter gi)
 (r: ∀C a b h,tS (aE X N' scope C a b h) c tg g) (J: ∀C a b h,vy (aE X N' scope C a b h) c ifs p) (B: ∀C a b h,DE (aE X N' scope C a b h) c .s elt f)
 (l:SO (.ListComp elt [⟨tg,iter,ifs,0⟩] scope pos) (some (.Name y py)) spos.line X.env=pure true:=by rfl) (n:X.N[i]? =some y:=by rfl) (u:X.env.scope.names.lookup y=some .local:=by rfl)
 (o:scope.kind=.function:=by rfl) (G:x6 scope X.env.scope=true:=by kernel_rfl) (E:ym X.N N' scope=true:=by kernel_rfl) (K:N'.length-X.N.length=m:=by rfl) (e: ∀x,QO iter X.env x=pure x:=by intro _;rfl):
 DS X c k (.Assign [.Name y py] (.ListComp elt [⟨tg,iter,ifs,0⟩] scope pos) spos) (En i (ft m gi g p f)):=λρ=>PS.imp (vR i d t A F r J B l n u o G E K e ρ) λD σ H j=>by
 obtain⟨hid,w,q⟩:=j;unfold En at q;cases e1:ft m gi g p f ρ with
 |none=>rw[e1] at q;exact q.elim
 |some z=>
  rw[e1] at q;exact⟨hid,w,z.1,z.2,e1,λv L I=>ME I q⟩
theorem wZ(i:Nat)(d:X.calm=true)(F:X.N.Nodup)(L:jz X.N.length g)(M:DI X c tg iter gi)
 (t: ∀C a b e,tS (aE X N' scope C a b e) c tg g) (u: ∀C a b e,vy (aE X N' scope C a b e) c ifs p) (B: ∀C a b e,DE (aE X N' scope C a b e) c .s elt f)
 (j:SO (.ListComp elt [⟨tg,iter,ifs,0⟩] scope pos) (some (.Name y py)) spos.line X.env=pure true:=by rfl) (n:X.N[i]? =some y:=by rfl) (K:X.env.scope.names.lookup y=some .local:=by rfl)
 (J:scope.kind=.function:=by rfl) (A:x6 scope X.env.scope=true:=by kernel_rfl) (w:ym X.N N' scope=true:=by kernel_rfl) (I:N'.length-X.N.length=m:=by rfl) (h: ∀x,QO iter X.env x=pure x:=by intro _;rfl):
 DS X c k (.Assign [.Name y py] (.ListComp elt [⟨tg,iter,ifs,0⟩] scope pos) spos) (iS i (ft m gi g p f)):=λρ=>PS.imp (vR i d F L M t u B j n K J A w I h ρ) λD σ H l=>by
 obtain⟨hid,o,q⟩:=l;unfold iS at q;cases e1:ft m gi g p f ρ with
 |none=>rw[e1] at q;exact q.elim
 |some z=>
  rw[e1] at q;refine⟨hid,o,z.1,z.2,e1,λv E O=>?_⟩;obtain⟨G,s',r⟩:=dD.toS o.h0 O;exact q _ E hid (s'.setV r i) G.vw
end
theorem CU(a:List O7):Yx a.toArray none none (some (-1))=a.reverse.toArray:=by
 unfold Yx;rw[W.krv_bounds];dsimp only;rw[W.krv_sliceRange,W.krv_range];rw[List.filterMap_reverse,PK];have:List.filterMap (λx=>a.toArray[x]?) (O5 a.length)=a:=by
  have:=Wm a;simpa using this
 rw[this]
theorem E8 {xs:List V}{us:List O7}(r:bt xs us):bt xs.reverse us.reverse:=by
 induction r with
 |nil=>exact .nil
 |cons r t a=>rw[Vt,Vt];exact bt.append a (.cons r .nil)
section
variable {X:Cx}{c:Ct}{e st:Expr}{k:Kd}{te:TE}{ts:TO}{f g:FE}{pos p2:Pos}{lo hi:Option Expr}{l u:FO}
theorem L6 {α:Type}{o:Option Expr}{t:α->TO}(h: ∀z,PO X o (t z)):PO X o (λσ H Q=> ∃z,t z σ H Q):=λa s σ H Q I ⟨z,q⟩=>h z a s σ H Q I q
theorem Ca(F:PE X e te)(l:PO X (some st) ts)(i: ∀(v:O7) (g:Addr),WK (.Slice none none (some st) p2) false v (.ref g)=operate [v,.ref g] (Zb v (.ref g)):=by intro _ _;with_unfolding_all rfl):
 PE X (.Subscript e (.Slice none none (some st) p2) pos) (λσ H Q=>te σ H λx j=>ts σ j λo d=>o=some (-1)/\ ∃a xs,x=.ref a/\SqL X.K d a xs/\ ∀p,d p=none->Q (.ref p) (bY d p (.lst xs.reverse))):=by
 intro f s σ H Q I h;refine Zu (bW (F f s σ H _ I h) λv z c=>?_);obtain⟨x,j,t,B,E⟩:=c;refine wpAny_Slice ?_
 rw[Xp];refine O8 (O8 (bW (l f z σ j _ t E) λvs s2 c=>?_));obtain⟨o,d,D,u,G,a,xs,J,y,q⟩:=c;subst G J;cases B;have k:Inv X f σ d {s2 with heap:=s2.heap.push {cls:=.type "slice",data:=.fields #[.none,.none,vs]}}:=D.kept (t':=s2.toks) λb ob q=>Pa _ q
 obtain⟨C,r,m,L⟩:=k.list y;have n:=r.length;show Ps (model X.prog X.w) X.A (Xq e (.Slice none none (some st) p2) (.ref a) (.ref s2.heap.objs.size)) (EP X f σ Q) X.xe {s2 with heap:=s2.heap.push {cls:=.type "slice",data:=.fields #[.none,.none,vs]}};refine tail_any (ops:=[.ref a,.ref s2.heap.objs.size]) m.isList.typeIs Vr.lookup ?_ (i _ _)
 refine VD m.isList (XG ..) .none .none u (by simp) ?_ (by rw[PK]<;>lia)
 rw[CU];refine⟨.ref _,_,k.laid (t':=s2.toks) (o:=.lst xs.reverse) (λb ob q=>Pa _ q) (Ph _) ?_,rfl,q _ (k.hok.fresh (Ph _))⟩;exact⟨by rw[List.length_reverse];exact L,_,0,E8 r,Pl _ rfl⟩
def rX(f:FE)(o:FO):FE:=λρ=>(f ρ).bind λd=>match d with
 | .lst ds=>(o ρ).bind λz=>if z=some (-1) then some (.lst ds.reverse) else none
 |_=>none
theorem yK(B:DP X c k e f)(x:DO X c (some st) o)(i: ∀(v:O7) (h:Addr),WK (.Slice none none (some st) p2) false v (.ref h)=operate [v,.ref h] (Zb v (.ref h)):=by intro _ _;with_unfolding_all rfl):
 DP X c .n (.Subscript e (.Slice none none (some st) p2) pos) (rX f o):=λhid ρ=>PE.imp (Ca (B hid ρ) (x hid ρ) i) λσ H Q l=>by
 obtain⟨m,d,g,q⟩:=l;unfold rX at g;obtain⟨z,C,g⟩:=PB.mp g;split at g
 ·obtain⟨w,s,g⟩:=PB.mp g;split at g
  ·rename_i y
   subst y;cases g;refine⟨m,_,C,λv D j u=>⟨m.ext j,_,s,λE s2=>⟨rfl,?_⟩⟩⟩;obtain⟨a,xs,rfl,A,t⟩:=((RK.b k u λa n=>m.fresh n).ext s2).lst;exact⟨a,xs,rfl,A,λp r=>q _ _ ((j.trans s2).trans (aR r _)) (fZ r (j.trans s2) t.reverse)⟩
  ·cases g
 ·cases g
def Dv(f:GE)(l u:FO):GE:=λρ=>(f ρ).bind λz=>match z.1 with
 | .lst ds=>(l z.2).bind λa=>(u z.2).map λb=>(.lst (ma ds a b),z.2)
 |_=>none
theorem KL {f:GE}(D:DE X c .s e f)(B:DO X c lo l)(t:DO X c hi u):DE X c .n (.Subscript e (.Slice lo hi none p2) pos) (Dv f l u):=λhid ρ=>
 PE.imp (vE Aq (D hid ρ) (L6 λρ'=>B hid ρ') (L6 λρ'=>t hid ρ')) λσ H Q i=>by
  obtain⟨C,d,ρ',b,q⟩:=i;unfold Dv at b;obtain⟨⟨z,ρ1⟩,E,b⟩:=PB.mp b;dsimp only at b;split at b
  ·obtain⟨j,r,b⟩:=PB.mp b;obtain⟨k,F,b⟩:=QK.mp b;cases b;refine⟨C,_,_,E,λv G ⟨o,h,x⟩=>⟨_,h,j,r,λI s2=>⟨_,h.ext s2,k,F,λJ g=>?_⟩⟩⟩;obtain⟨a,xs,rfl,y,w⟩:=(c4.ext (.inl x) (s2.trans g)).lst;have A:=h.ext (s2.trans g);exact⟨a,xs,rfl,y,λp m=>q _ _ (dD.left o (h.post ((s2.trans g).trans (aR m _)) (fZ m (s2.trans g) (xg w j k)) (by decide)))⟩
  ·cases b
end
def CV:D->Option (List Int)
 | .tup ds=>eN ds
 |_=>none
theorem nW{a:List Int}(h:CV d=some a):d=.tup (a.map D.int):=by
 unfold CV at h;split at h
 ·rw[gK h]
 ·cases h
theorem qI {K:Pk}: ∀ {xs:List V} {a:List Int},Reps K F xs (a.map D.int)->xs=(a.map Vp).map kV
 |_,[],h=>by cases h;rfl
 |_,n::a,h=>by
  cases h with
  |cons r rs=>cases r;rw[qI rs];rfl
section
variable {X:Cx}{c:Ct}{k k1 k2:Kd}{e f ev:Expr}{es:List Expr}{fe ff fk fv:FE}{fs:FA}{pos pos' py apos cpos p:Pos}{x y:Str}{x1:_}
def iK(a:List Int):List ly:=a.map Vp
theorem zk{a:List Int}(h:c4 X.K H' (vw H' hid) z (.tup (a.map D.int))): ∃b,z=.ref b/\SqT X.K H' b ((iK a).map kV):=by
 obtain⟨b,xs,rfl,_,c,d⟩:=h.tup;refine⟨b,rfl,?_⟩;rw[<-show xs=(iK a).map kV from qI d];exact c
end
section
variable {prog:Qc}{w:Qv}{A:Qe}{E:O7->O9->Prop}{s:O9}{d it:Addr}{es:Array DictEntry}{ep i:Nat}
theorem ya{us:List O7}{G:List Nat->Prop}(H:KdlSrc prog w T r d us.length P OK)(O: ∀i v,i<us.length->P i v->us[i]? =some v)(y:A.handled=none)(q:OK s.heap)(W:us.length<64)
 (D:us.length<2->G (O5 us.length))
 (z:2<=us.length-> ∀(g:Heap) (tk:Nat),(∀c o,s.heap.get? c=some o->g.get? c=some o)->Ps (model prog w) A.in1.in1 (keyKind' us.toArray) (λκ t=>t={s with heap:=g,toks:=tk}/\
   (X7 us.length).kasWp (X8 prog w A.in1.in1 κ us) (λp t'=>t'=t/\G p.toList) t) (λ_ _=>False) {s with heap:=g,toks:=tk})
 (fin: ∀(g:Heap) (tk a e:Nat) (j:List Nat),(∀c o,s.heap.get? c=some o->g.get? c=some o)->s.heap.objs.size<=a->G j->g.get? a=some (Td "list" (Rv (j.map λi=>us.getD i Qk)) e)->Q (.ref a) {s with heap:=g,toks:=tk}):
 Ps (model prog w) A (call (.builtin "sorted") [.ref r]) Q E s:=by
 refine Vj kind_sorted plain_sorted entry_sorted (args_sorted1 _) ?_
 unfold Sw.«sorted»;refine O4 (m:=checkCount "sorted" 1 1 _) (O8 (O4 (zI (A:=A.in1) H y q (by rw[QU];lia) λg tk acc B I b=>?_)));have K:acc.toList=us:=Uc λi=>by
  by_cases l:i<us.length
  ·have M:i<acc.size:=by rw[b.1];exact l
   have N:acc[i]? =some acc[i]:=PY M;rw[PZ,N,O i _ l (b.2 i _ N)]
  ·have M: ¬i<acc.toList.length:=by rw[Py,b.1];exact l
   rw[Qz (by lia),Qz (by lia)]
 rw[K];have R:s.heap.objs.size<=g.objs.size:=S5 I;refine O4 (Xu ?_ (by rw[QU];lia));have J:(g.push (Td "list" us.toArray 0)).get? g.objs.size=some (Td "list" us.toArray 0):=Pl _ rfl;show Ps _ _ _ _ _ {s with heap:=g.push (Td "list" us.toArray 0),toks:=tk};have k: ∀j:List Nat,G j->Q (.ref g.objs.size) {s with heap:=Uv (g.push (Td "list" us.toArray 0)) g.objs.size us (Rv (j.map λi=>us.getD i Qk)),toks:=tk}:=λj F=>by
  obtain⟨e,S⟩:=sortedHeap_at (out:=Rv (j.map λi=>us.getD i Qk)) J;refine fin _ tk g.objs.size e j (λc u n=>?_) R F S;have lt:=Pp (B c u n);rw[ZD (PX lt) (by rw[size_push'];exact Tk lt)];exact Pa _ (B c u n)
 refine O4 (Qh (QN ZE ⟨_,J,rfl⟩ YY (rd (P:=λf t=> ∃v,f=.done (.ret v)/\Ps (model prog w) A.in1 (pure (ZF (.ret (QW g.objs.size)))) (λf t=> ∃v,f=.done (.ret v)/\Q v t) E t) J (by lia) (λh=>?_) (λh g' C=>?_)) (ZG _)))
 ·have e:=k (O5 us.length) (D h)
  rw[show(O5 us.length).map (λi=>us.getD i Qk)=us from Uc λi=>by
   by_cases l:i<us.length
   ·simp[l]
   ·simp[l]] at e
  exact⟨_,rfl,O8 ⟨_,rfl,e⟩⟩
 ·refine Qj (z h g' tk λc u n=>C c u (PX (Pp (B c u n))) (Pa _ (B c u n))) (λκ t ⟨V,L⟩=>⟨V,?_⟩) λ_ _ x=>x
  rw[kat_ask_eq rfl] at L⊢;exact kas_wp_mono L λp t' ⟨U,F⟩=>⟨U,_,rfl,O8 ⟨_,rfl,k _ F⟩⟩
end
theorem IQ: ∀ {a:List Int} {us:List O7},bt (a.map V.int) us->uH us a
 | [],_,h=>by cases h;exact .nil
 |_::_,_,h=>by cases h with|cons b c=>exact .cons b (IQ c)
open PySem PyProof.Rows
set_option maxHeartbeats 2000000
set_option maxHeartbeats 1000000
open PySem PySem.W PySem.Calls PyProof.Rows
theorem A3 {α:Type}(next:Nat->Nat): ∀(fuel k:Nat) (left:List α) (out:Array α),fuel=left.length->(jbv next fuel k left out).toList.Perm (out.toList++left)
 |0,k,left,out,h=>by
  obtain rfl:left=[]:=List.eq_nil_of_length_eq_zero h.symm;rw[QJ];exact Ug _
 |fuel+1,k,left,out,h=>by
  have lt:next k % left.length<left.length:=RD _ (by lia)
  have e:left[next k % left.length]? =some left[next k % left.length]:=Pd lt;unfold jbv;rw[e];dsimp only;refine(A3 next fuel (k+1) _ _ (by rw[Rw,if_pos lt];lia)).trans ?_
  rw[Array.toList_push,QE];refine Tg _ ?_
  have a:left=left.take (next k % left.length)++left[next k % left.length]::left.drop (next k % left.length+1):=by
   conv=>lhs;rw[<-Tc (next k % left.length) left,Rm lt]
  rw[Uk]
  conv=>rhs;rw[a]
  exact(Yo (l₁:=left.take (next k % left.length))).symm
theorem zH {α:Type}(next:Nat->Nat)(xs:Array α):(pickOrder next xs).toList.Perm xs.toList:=by
 have:=A3 next xs.size 0 xs.toList #[] (by simp)
 unfold pickOrder;simpa using this
theorem C9(r:Ris xs)(b:Bel xs j p):P1 xs j=p:=by
 have a:=Mc r j;rcases RY (P1 xs j) p with c|c|c
 ·have lt:P1 xs j<xs.size:=by have:=b.le;lia
  have e:xs[P1 xs j]? =some xs[P1 xs j]:=PY lt;have d:=b.lo _ _ c e;have f:=a.hi _ _ (Ph _) e;lia
 ·exact c
 ·have lt:p<xs.size:=by have:=a.le;lia
  have e:xs[p]? =some xs[p]:=PY lt;have d:=a.lo _ _ c e;have f:=b.hi _ _ (Ph _) e;lia
theorem CL {xs:Array Nat}(r:Ris xs)(f:i<=xs.size):P1 xs (if i=0 then 0 else xs.getD (i-1) 0+1)=i:=by
 refine C9 r ⟨f,λx a g b=>?_,λx a g b=>?_⟩
 ·rw[if_neg (by lia)];have lt:i-1<xs.size:=by lia
  have e:xs[i-1]? =some xs[i-1]:=PY lt;have d:xs.getD (i-1) 0=xs[i-1]:=by simp[SX,lt]
  rw[d]
  by_cases c:x=i-1
  ·subst c;rw[e] at b;cases b;lia
  ·have:=r.lt (show x<i-1 by lia) b e;lia
 ·by_cases c:i=0
  ·rw[if_pos c];lia
  ·rw[if_neg c];have lt:i-1<xs.size:=by lia
   have e:xs[i-1]? =some xs[i-1]:=PY lt;have d:xs.getD (i-1) 0=xs[i-1]:=by simp[SX,lt]
   rw[d];exact r.lt (show i-1<x by lia) e b
def gy(w:Qv):Bool:=w.params.followText "set-order"
def iJ(w:Qv)(a:Addr)(ep:Nat)(es:Array (Int×O7)):Array (Int×O7):=if gy w=true then pickOrder (w.params.setOrder a ep) es else es
theorem n4(w:Qv)(a:Addr)(ep:Nat)(es:Array (Int×O7)):(iJ w a ep es).toList.Perm es.toList:=by
 unfold iJ;split
 ·exact zH _ _
 ·exact Ug _
theorem kU(w:Qv)(a:Addr)(ep:Nat)(es:Array (Int×O7)):(iJ w a ep es).size=es.size:=by
 have:=(n4 w a ep es).length_eq;simpa using this
def vH(w:Qv)(t:QL)(i:Nat):Nat:=if gy w=true then 0 else if i=0 then 0 else t.place.getD (i-1) 0+1
def dy(w:Qv)(h:Heap)(d:Addr)(es:Array (Int×O7))(ep:Nat)(t:QL):Prop:= ∃o xs,h.get? d=some o/\SetAt w o es ep t xs
def ck(w:Qv)(t:QL)(h:Heap)(it d:Addr)(i n ep:Nat):Prop:= ∃o,h.get? it=some o/\o.cls=.type "set_iterator"/\o.data=.fields #[.int (vH w t i) 0,.int i 0,.ref d,.int n 0,.int ep 0]
theorem c2:Slot "set_iterator" "__next__" "set_iterator.__next__":=.of (owner:="set_iterator") (n:="__next__") (by rw[TH,Sx];kernel_rfl) (by decide+kernel) (by decide+kernel) (by decide+kernel) (by first|exact .inl (by decide+kernel)|exact .inr (by decide+kernel)) (by rw[WU];kernel_rfl)
theorem lH:ZL table "set_iterator.__next__"=some Sw.«set_iterator.__next__»:=entryFor_of_tree (by kernel_rfl)
theorem v3:Y0.lookup (jah ['r','o','t','a','r','e','t','i','_','t','e','s'].reverse)=some Manifest.sig_set_iterator:=by kernel_rfl
theorem mK(a:O7):ZM "set_iterator.__next__" ⟨[a],[]⟩:=by unfold ZM;rw[Xv (id:="set_iterator.__next__") (n:=['_','_','t','x','e','n','_','_']) (o:=['r','o','t','a','r','e','t','i','_','t','e','s']) (by kernel_rfl) v3];kernel_rfl
theorem mG:Slot "set_iterator" "__iter__" "set_iterator.__iter__":=.of (owner:="set_iterator") (n:="__iter__") (by rw[TH,Sx];kernel_rfl) (by decide+kernel) (by decide+kernel) (by decide+kernel) (by first|exact .inl (by decide+kernel)|exact .inr (by decide+kernel)) (by rw[WU];kernel_rfl)
theorem rN:ZL table "set_iterator.__iter__"=some Sw.«dict_keyiterator.__iter__»:=WV (id':="dict_keyiterator.__iter__") (by kernel_rfl) rfl (by decide+kernel) (by kernel_rfl)
theorem tN(a:O7):ZM "set_iterator.__iter__" ⟨[a],[]⟩:=by unfold ZM;rw[Xv (id:="set_iterator.__iter__") (n:=['_','_','r','e','t','i','_','_']) (o:=['r','o','t','a','r','e','t','i','_','t','e','s']) (by kernel_rfl) v3];kernel_rfl
section
variable {prog:Qc}{w:Qv}{A:Qe}{E:O7->O9->Prop}{s:O9}{d it:Addr}{es:Array (Int×O7)}{ep i:Nat}{t:QL}
theorem dy.ty(h:dy w s.heap d es ep t):s.TypeIs (.ref d) "set":=let⟨o,_,h1,h2⟩:=h;⟨o,h1,h2.ex.1⟩
theorem dy.lt {h:Heap}(x:dy w h d es ep t):d<h.objs.size:=let⟨_,_,h1,_⟩:=x;Pp h1
theorem dy.to {h h':Heap}(x:dy w h d es ep t)(k: ∀o,h.get? d=some o->h'.get? d=some o):dy w h' d es ep t:=let⟨o,xs,h1,r⟩:=x;⟨o,xs,k o h1,r⟩
theorem ck.ty(h:ck w t s.heap it d i n ep):s.TypeIs (.ref it) "set_iterator":=let⟨o,h1,h2,_⟩:=h;⟨o,h1,h2⟩
theorem pj:ZL table "set.__iter__"=some Sw.«frozenset.__iter__»:=WV (id':="frozenset.__iter__") (by kernel_rfl) rfl (by decide+kernel) (by kernel_rfl)
theorem dS(h:Q (gy w) s):Ps (model prog w) A setsByText Q E s:=by
 unfold setsByText;exact O4 (Uw (O8 h))
theorem Fj(x:dy w s.heap d es ep t)(q:Q (.ref s.heap.objs.size) {s with heap:=s.heap.push {cls:=.type "set_iterator",data:=.fields #[.int (vH w t 0) 0,.int 0 0,.ref d,.int es.size 0,.int ep 0]}}):Ps (model prog w) A (Wa (.ref d)) Q E s:=by
 have ty:=x.ty;obtain⟨o,xs,a,S⟩:=x;refine Ye ty Y1 (QN Y1 ty pj ?_ (F.args_set_iter_1 _));unfold Sw.«frozenset.__iter__»;unfold jaK ZN;simp only[SU,Rp,Po, ↓reduceIte,bind_assoc,TF,bne_self_eq_false];unfold SJ jai setDrawn setEntries;refine O4 (O8 ?_)
 try dsimp only
 refine O4 (O8 ?_);refine O4 (O4 (O4 (Qt a S.hd S.fits (O8 (O8 ?_)))));refine O4 (O4 (Qt a S.hd S.fits ?_));dsimp only;refine O4 (dS (O8 ?_));have c:(!gy w&&(!t.plain&&decide (es.size>1)))=false:=by rw[S.pl];simp
 refine TJ (λb=>absurd (show(!gy w&&(!t.plain&&decide (es.size>1)))=true from b) (by rw[c];decide)) λ_=>?_
 refine O4 (O8 (O4 (Uh a S.hd S.fits ?_)));refine O4 (Rf (O8 ⟨_,rfl,"set_iterator",_,⟨_,Pl _ rfl,rfl⟩,c2.lookup,?_⟩));have:vH w t 0=0:=by unfold vH;split<;>rfl
 rw[this] at q;simpa [T5] using q
theorem xR(e:s.heap.get? d=some o)(S:SetAt w o es ep t xs)(h:Q (iJ w d ep es) s):Ps (model prog w) A (setWalk d) Q E s:=by
 unfold setWalk;refine O4 (Qt e S.hd S.fits ?_);dsimp only;refine O4 (dS ?_);unfold iJ at h
 by_cases c:gy w=true
 ·rw[if_pos c];rw[if_pos c] at h;exact O4 (Uw (O8 h))
 ·rw[if_neg c];rw[if_neg c] at h;have b:(!t.plain&&decide (es.size>1))=false:=by rw[S.pl];rfl
  refine TJ (λa=>absurd (show(!t.plain&&decide (es.size>1))=true from a) (by rw[b];decide)) λ_=>?_
  have f:(!t.led&&decide (es.size>1))=false:=by
   have:=S.led;unfold gy at c;rw[this,eq_false_of_ne_true c];rfl
  refine O4 ?_
  show Ps _ _ (if(!t.led&&decide (es.size>1))=true then RI _ else pure PUnit.unit) _ _ _;rw[if_neg (by rw[f];decide)];exact O8 (O8 h)
theorem AL(g:s.heap.get? d=some o)(S:SetAt w o es ep t xs)(r:i<=es.size)(h:Q (((iJ w d ep es)[i]?).map λe=>(e.2,vH w t (i+1))) s):Ps (model prog w) A (setNext d (vH w t i) i ep) Q E s:=by
 unfold setNext;refine O4 (Qt g S.hd S.fits ?_);dsimp only;refine O4 (dS ?_)
 by_cases c:gy w=true
 ·rw[if_pos c,bne_self_eq_false];simp only[Po,if_false];refine O4 (xR g S (O8 ?_));have e: ∀i,vH w t i=0:=λi=>by unfold vH;rw[if_pos c]
  rw[e] at h⊢;exact h
 ·rw[if_neg c];have p:(!t.plain&&decide (es.size>1))=false:=by rw[S.pl];rfl
  refine TJ (λa=>absurd (show(!t.plain&&decide (es.size>1))=true from a) (by rw[p];decide)) λ_=>?_
  have q:(!t.led&& !es.isEmpty)=false:=by
   have:=S.led;unfold gy at c;rw[this,eq_false_of_ne_true c];rfl
  refine O4 ?_
  show Ps _ _ (if(!t.led&& !es.isEmpty)=true then RI _ else pure PUnit.unit) _ _ _;rw[if_neg (by rw[q];decide)];refine O8 ?_
  have f:=S.T.sz;unfold qF at f;rw[Pc,<-S.size] at f;have k:vH w t i=if i=0 then 0 else t.place.getD (i-1) 0+1:=by unfold vH;rw[if_neg c]
  have b:vH w t (i+1)=t.place.getD i 0+1:=by unfold vH;rw[if_neg c,if_neg (by lia)];rfl
  rw[k,CL S.T.sp (by lia)];refine O8 ?_
  have m:iJ w d ep es=es:=by unfold iJ;rw[if_neg c]
  rw[m,b] at h
  by_cases j:i<es.size
  ·have n:t.place[i]? =some (t.place[i]'(by lia)):=PY (by lia);have l:t.place.getD i 0=t.place[i]'(by lia):=by simp[SX,show i<t.place.size by lia]
   rw[n];rw[l] at h;cases ee:es[i]? with
   |none=>rw[PY j] at ee;cases ee
   |some e=>rw[ee] at h;exact h
  ·rw[T1 (by lia)] at h⊢;exact h
theorem Fq(a:ck w t s.heap it d i es.size ep)(x:dy w s.heap d es ep t)(e:i<es.size)
 (q: ∀h',ck w t h' it d (i+1) es.size ep->Qn it s.heap h'->Q (some ((iJ w d ep es)[i]'(by rw[kU];exact e)).2) {s with heap:=h'}):Ps (model prog w) A (Ts (.ref it)) Q E s:=by
 have ty:=a.ty;obtain⟨o,c,j,b⟩:=id a;obtain⟨k,xs,g,S⟩:=id x;unfold Ts;refine O4 (VH (Ry (name:=Tq "__next__") ty c2 (QN c2 ty lH ?_ (mK _))));unfold Sw.«set_iterator.__next__» ZN;simp only[SU,Rp,Po, ↓reduceIte,bind_assoc,TF,bne_self_eq_false];refine O4 (O8 ?_);refine O4 (ZO c b ?_);dsimp only;refine O4 (Xc g S.hd S.fits ?_);rw[bne_self_eq_false];simp only[Po,if_false,Rc];refine O4 (AL g S (S5 e) ?_);have lt:i<(iJ w d ep es).size:=by rw[kU];exact e
 rw[PY lt];dsimp only[S9];refine O4 (Ud c b (by simp) ?_);have f:(s.heap.update it (TB (·.setIfInBounds 0 (T5 (vH w t (i+1):Nat))))).get? it=some _:=Qy _ c (Te (Sq b _));refine O4 (Ud (s:={s with heap:=s.heap.update it (TB (·.setIfInBounds 0 (T5 (vH w t (i+1):Nat))))}) f (Sq b _) (by simp) ?_);have h:(TB (·.setIfInBounds 1 (T5 ((i:Int)+1))) (TB (·.setIfInBounds 0 (T5 (vH w t (i+1):Nat))) o)).data=.fields #[.int (vH w t (i+1)) 0,.int ((i+1:Nat):Int) 0,.ref d,.int es.size 0,.int ep 0]:=by
  rw[Sq (Sq b _)];simp[T5]
 have nx:ck w t ((s.heap.update it (TB (·.setIfInBounds 0 (T5 (vH w t (i+1):Nat))))).update it (TB (·.setIfInBounds 1 (T5 ((i:Int)+1))))) it d (i+1) es.size ep:=
  ⟨_,Qy _ f (Te h),(Vv ..).trans ((Vv ..).trans j),h⟩
 exact O8 ⟨_,rfl,O8 (q _ nx ((QR ..).trans (QR ..)))⟩
theorem Hl(c:A.handled=none)(e:ck w t s.heap it d es.size es.size ep)(x:dy w s.heap d es ep t)
 (q: ∀h',Vw it s.heap h'->Q none {s with heap:=h'}):Ps (model prog w) A (Ts (.ref it)) Q E s:=by
 have ty:=e.ty;obtain⟨o,f,j,h⟩:=id e;obtain⟨i,xs,g,S⟩:=id x;unfold Ts;refine O4 (VH (Ry (name:=Tq "__next__") ty c2 (QN c2 ty lH ?_ (mK _))));unfold Sw.«set_iterator.__next__» ZN;simp only[SU,Rp,Po, ↓reduceIte,bind_assoc,TF,bne_self_eq_false];refine O4 (O8 ?_);refine O4 (ZO f h ?_);dsimp only;refine O4 (Xc g S.hd S.fits ?_);rw[bne_self_eq_false];simp only[Po,if_false,Rc];refine O4 (AL g S (Ph _) ?_);rw[T1 (by rw[kU];exact Ph _)];dsimp only[Option.map_none];refine O4 (Ud f h (by simp) ?_);show Ps _ _ (newExc (.type "StopIteration") []>>=_) _ _ _;refine O4 ?_
 simp only[newExc,newTuple];refine O4 (Rf (O4 (m:=Ve _ _) (WR (a:=Qk) (by first|rfl|(simp only[Ve];rfl)) (Rf ?_ (by size_fits)))) (by size_fits));simp only[raiseNew];refine O4 (wpAny_handled ?_);rw[show A.in1.handled=none from c];refine O4 (O8 (wpAny_throw ?_));refine O4 (Tr (T:="StopIteration") (b:=true) ⟨_,Pl _ rfl,rfl⟩ ZI ?_);exact O8 (q _ (((QR ..).extBut.push _).push _))
theorem ck.to {h h':Heap}(x:ck w t h it d i n ep)(k: ∀o,h.get? it=some o->h'.get? it=some o):ck w t h' it d i n ep:=let⟨o,h1,r⟩:=x;⟨o,k o h1,r⟩
theorem Di(a:ck w t s.heap it d i n ep)(h:Q (.ref it) s):Ps (model prog w) A (Wa (.ref it)) Q E s:=by
 have ty:=a.ty;refine Ye ty mG (QN mG ty rN ?_ (tN _));show Ps _ _ (ret (.ref it)) _ _ s;exact O8 ⟨_,rfl,"set_iterator",_,ty,c2.lookup,h⟩
theorem Cg(c:A.handled=none)(I:Addr)(n:d≠I):Walks prog w A I [I,d] [I] es.size (λi v=> ∃e,(iJ w d ep es)[i]? =some e/\v=e.2) (λi h=>ck w t h I d i es.size ep/\dy w h d es ep t) where
 sub:=λb a=>by simp at a;simp[a]
 frame:=λ_ _ _ st l=>⟨st.1.to λo e=>l I (by simp) o e,st.2.to λo e=>l d (by simp) o e⟩
 item:=λi s Q E m st f=>Fq st.1 st.2 m λh' j k=>f _ h' s.toks ⟨_,PY (by rw[kU];exact m),rfl⟩ ⟨j,st.2.to λo e=>k.extBut d o n e⟩ λb o a e=>k.extBut b o (λh=>a (by simp[h])) e
 done:=λs Q E st f=>Hl c st.1 st.2 λh' g=>f h' s.toks λb o a e=>g b o (λh=>a (by simp[h])) e
 self:=λ_ _ _ _ st f=>Di st.1 f
theorem CG(c:s.TypeIs (.ref r) "set")(h:Q false s):Ps (model prog w) A (U2 (.ref r)) Q E s:=by
 unfold U2;refine O4 (UH c PySem.F.slot_set_len.lookup ?_);generalize hid:("set.__len__":String)=id0;wp_delta;rw[show splitId id0=some ("set","__len__") from by subst hid;decide+kernel];subst hid;refine O4 (Tr (T:="set") (b:=true) c (by rw[WU];kernel_rfl) ?_);refine TJ (λa=>absurd a (by decide)) (λ_=>?_);refine TJ (λ_=>?_) (λa=>absurd (by decide+kernel) a);refine O4 (XU c ?_);exact O8 h
theorem Hi:KdlSrc prog w "set" d d es.size (λi v=> ∃e,(iJ w d ep es)[i]? =some e/\v=e.2) (λh=>dy w h d es ep t) where
 type:=λ_ h=>h.ty
 there:=λ_ h=>⟨h.lt,h.lt⟩
 keep:=λ_ _ h b=>h.to λo e=>b d (.inl rfl) o e
 notList:=by decide
 notTuple:=by decide
 hint:=λ_ _ _ _ h a=>CG h.ty a
 iter:=λ_ _ c h=>⟨_,_,λ_ _ a=>Fj h a,Cg c _ (PX h.lt),⟨_,Pl _ rfl,rfl,rfl⟩,h.to λo e=>Pa _ e⟩
end
set_option maxHeartbeats 4000000
def aS(w:Qv):Obj:={cls:=.type "set",dict:=none,data:=.set #[] 0 (.fresh 0 0 (!gy w))}
theorem Cd(f m:Nat)(l:Bool):TOk (.fresh f m l) [] where
 pw:=⟨3,by lia,by lia,rfl⟩
 sz:=rfl
 sp:=RZ
 sd:=RZ
 lp:=λj h=>by cases h
 ld:=λj h=>by cases h
 dj:=λj h=>by cases h
 fl:=by show 0<=7;lia
 rc:=λx h=>by cases h
theorem qk(w:Qv):ce w (aS w) #[] 0 (.fresh 0 0 (!gy w)) []:=⟨⟨⟨rfl,rfl,rfl⟩,rfl,rfl,Cd _ _ _,rfl,rfl,Vg⟩,by show 0*5<7*3;lia⟩
section
variable {prog:Qc}{w:Qv}{A:Qe}{E:O7->O9->Prop}{s:O9}{a b:Addr}{o:Obj}{es:Array (Int×O7)}{ep:Nat}{t:QL}{xs:gM}{k:List Int}
theorem HH(h:Q (.ref s.heap.objs.size) {s with heap:=s.heap.push (aS w)}):Ps (model prog w) A (newSet (.type "set")) Q E s:=by
 unfold newSet;refine O4 (dS ?_);dsimp only;simp only[newObj];exact O4 (YK (O8 h))
theorem xJ {as:List O7}(b:YA "set.__new__" ⟨.type "set"::as,[]⟩=pure ()){Q₁:O7->O9->Prop}(h:Q₁ (.ref s.heap.objs.size) {s with heap:=s.heap.push (aS w)}):RU (model prog w) A (.call (.builtin "set.__new__") ⟨.type "set"::as,[]⟩) (wants Q₁ E) s:=by
 refine UK ?_;show Ps _ A.in1 (do YA "set.__new__" ⟨.type "set"::as,[]⟩;WJ (.builtin "set.__new__" ⟨.type "set"::as,[]⟩)) _ _ s;refine O4 (WR b (O8 ⟨VG Y2 _,RJ F.entry_set_new ?_⟩));rw[Rx Y2 _];unfold Sw.«set.__new__» ZP;have a:=Wn;obtain⟨c,g,d,tk,os⟩:=s;dsimp only
 wp_walk;refine Uw (O8 ?_)
 dsimp only;simp only[newObj];refine O4 (YK (O8 ?_));exact O8 h
theorem zb(h:Q (.ref s.heap.objs.size) {s with heap:=s.heap.push (aS w)}):Ps (model prog w) A (call (.type "set") []) Q E s:=by
 obtain⟨c,tl,hmro⟩:=Q9.mro;have hmade:=Q9.made;have hsub:=Q9.sub;refine Zp (UK ?_);show Ps _ _ (callAny (.type "set") _) _ _ _;refine O8 ⟨XI _ (by decide+kernel),RJ Yf ?_⟩;rw[XJ (WF "set" [] []) rfl];have h1:=Q9.notType;have h2:=Q9.canCreate;have hct:=F.typeCall_set_0
 repeat (any_goals (first|assumption|wp_step))
 refine R7 (xJ (E:=E) F.newCall_set_0 (Q₁:=λobj s₁=>obj=.ref s.heap.objs.size/\s₁={s with heap:=s.heap.push (aS w)}) ⟨rfl,rfl⟩) λr s₁ hr=>?_
 cases r with
 |error e=>exact hr
 |ok fl=>
  cases fl with
  |ret obj=>
   obtain⟨rfl,rfl⟩:=hr;have hS:(s.heap.push (aS w)).get? s.heap.objs.size=some (aS w):=Pl _ rfl;have hS:(s.heap.push (aS w)).get? s.heap.objs.size=some {cls:=.type "set",dict:=none,data:=.set #[] 0 (.fresh 0 0 (!gy w))}:=hS;have hT:Xw {s with heap:=s.heap.push (aS w)} (.ref s.heap.objs.size) "set":=⟨_,hS,rfl⟩
   have hli:=Q9.init.lookup;have hbi:=Q9.init.bind (.ref s.heap.objs.size)
   repeat (any_goals (first|assumption|wp_step))
   refine R7 (WW (R:=wants (λr s₂=>r=.none/\Q (.ref s.heap.objs.size) s₂) E) Q9.init.plain YB (check_set_init hT ?_)) λr₂ s₂ hr₂=>?_
   ·unfold Sw.«set.__init__» noKeywords
    wp_walk
    exact⟨rfl,h⟩
   ·cases r₂ with
    |error e=>exact hr₂
    |ok fl₂=>
     cases fl₂ with
     |ret r=>
      obtain⟨rfl,hq⟩:=hr₂
      repeat (any_goals (first|assumption|wp_step))
     |_=>exact hr₂.elim
  |_=>exact hr.elim
theorem SetAt.ty(b:s.heap.get? a=some o)(S:SetAt w o es ep t xs):s.TypeIs (.ref a) "set":=⟨o,b,S.ex.1⟩
theorem Ha(g:s.heap.get? a=some o)(S:SetAt w o es ep t xs)(n:sN prog w s.heap xs)(j:A.units+1<Ra)(f:(KI prog w).is s.heap k b)
 (h:Q (.bool (decide (k∈xs.map (·.1)))) {s with toks:=s.toks+(KI prog w).draws k}):Ps (model prog w) A (Rg .In (.ref b) (.ref a)) Q E s:=by
 have e:=SetAt.ty g S;show Ps _ _ (do return .bool (<-contains (.ref a) (.ref b))) Q E s;refine O4 ?_
 unfold contains
 try with_reducible refine Qh ?_
 refine O4 (UH e UR.lookup ?_);show Ps _ _ (if(some (Value.builtin "set.__contains__")==some Qk)=true then _ else _) _ E s;rw[if_neg (by rw[beq_builtin_none];exact S6)];refine O4 (wpAny_callSpecialUnlessNone?_slot (name:=Tq "__contains__") e UR (QN UR e entry_set_contains ?_ (F.args_set_contains_2 _ _)));unfold Sw.«frozenset.__contains__» To;simp only[SU,bind_assoc];unfold SJ Ux setContains;refine O4 (O8 ?_)
 try dsimp only
 refine O4 (O8 ?_)
 try dsimp only
 refine O4 (ZQ ?_);refine Qh ?_
 have d:(KI prog w).room A.in1:=Vh j;refine O4 ((KI prog w).pyHash d f ?_);rw[AA];refine O4 (xt (s:={s with toks:=s.toks+(KI prog w).draws k}) g S n d f (λi c m=>?_) λl=>?_)
 ·rw[lR (Pz.mpr ⟨(k,c),P9 m,rfl⟩)] at h;refine O8 ?_
  exact O8 ⟨_,rfl,Q1 (O8 h)⟩
 ·rw[md l] at h;refine O8 ?_
  exact O8 ⟨_,rfl,Q1 (O8 h)⟩
theorem Dy(j:s.heap.get? a=some o)(S:ce w o es ep t xs)(u:sN prog w s.heap xs)(p:A.units+1<Ra)(l:(KI prog w).is s.heap k b)(f:xs.length<=1000)
 (h: ∀h' i e d t' c,Qn a s.heap h'->h'.get? a=some i->ce w i e d t' c->((k∈xs.map (·.1)/\c=xs)\/(k∉xs.map (·.1)/\c.Perm (xs++[(k,b)])))->Q .none {s with heap:=h',toks:=s.toks+(KI prog w).draws k}):
 Ps (model prog w) A (call (.builtin "set.add") [.ref a,.ref b]) Q E s:=by
 have q:=SetAt.ty j S.toSetAt;have g:(KI prog w).room A.in1:=Vh p;refine QN F.slot_set_add q F.entry_set_add ?_ (F.args_set_add_2 _ _)
 unfold Sw.«set.add» To;simp only[SU,bind_assoc];unfold SJ setAdd;refine O4 (O8 ?_)
 try dsimp only
 refine O4 (O8 ?_)
 try dsimp only
 refine O4 ?_
 refine Qh (O4 ((KI prog w).pyHash g l ?_));rw[AA];refine tU (s:={s with toks:=s.toks+(KI prog w).draws k}) j S u g l f (λx=>?_) λr h' i e d t' c v m y n=>?_
 ·exact O8 ⟨_,rfl,h s.heap o es ep t xs (SF a s.heap) j S (.inl ⟨x,rfl⟩)⟩
 ·exact O8 ⟨_,rfl,h h' i e d t' c v m y (.inr ⟨r,n⟩)⟩
theorem uW(m:s.heap.get? a=some o)(S:ce w o es ep t xs)(x:sN prog w s.heap xs)(r:A.units+1<Ra)(n:(KI prog w).is s.heap k b)(g:xs.length<=1000)
 (h: ∀h' l f e t' d,Qn a s.heap h'->h'.get? a=some l->ce w l f e t' d->((k∉xs.map (·.1)/\d=xs)\/(∃i c,xs[i]? =some (k,c)/\d=xs.eraseIdx i))->Q .none {s with heap:=h',toks:=s.toks+(KI prog w).draws k}):
 Ps (model prog w) A (call (.builtin "set.discard") [.ref a,.ref b]) Q E s:=by
 have u:=SetAt.ty m S.toSetAt;have j:(KI prog w).room A.in1:=Vh r;refine QN F.slot_set_discard u F.entry_set_discard ?_ (F.args_set_discard_2 _ _)
 unfold Sw.«set.discard» To;simp only[SU,bind_assoc];unfold SJ Ux setDiscard;refine O4 (O8 ?_)
 try dsimp only
 refine O4 (O8 ?_)
 try dsimp only
 refine O4 (ZQ ?_);refine Qh (O4 ((KI prog w).pyHash j n ?_));rw[AA];refine oZ (s:={s with toks:=s.toks+(KI prog w).draws k}) m S x j n g (λv=>?_) λB h' l f e t' d y p z q=>?_
 ·exact O8 ⟨_,rfl,h s.heap o es ep t xs (SF a s.heap) m S (.inl ⟨v,rfl⟩)⟩
 ·exact O8 ⟨_,rfl,h h' l f e t' d y p z (.inr q)⟩
end
def vI(i:Nat)(ρ:aF):Option (List (List Int)):=match ρ[i]? with
 |some (.ob (.tset ks))=>some ks
 |_=>none
theorem sq(h:vI i ρ=some ks):ρ[i]? =some (.ob (.tset ks)):=by
 unfold vI at h;split at h
 ·cases h;assumption
 ·cases h
abbrev lW(xs:gM):List V:=xs.map λx=>V.ref x.2
abbrev zc(xs:gM):List D:=xs.map λx=>D.tup (x.1.map D.int)
section
variable {K:Pk}{c:Ct}{hid:bM}{ρ:aF}{σ:St}{H:Hp}{a:Addr}
theorem SR.setT(h:SR K c hid ρ σ H)(e:vI i ρ=some ks): ∃a xs,σ[i]? =some (some (.ref a))/\hid a=true/\c.H₀ a=none/\H a=some (.tst xs)/\(xs.map (·.1)).Perm ks/\Reps K (vw H hid) (lW xs) (zc xs):=by
 obtain⟨a,b,⟨d,k⟩,us,j,f,g⟩:=h.sl i _ (sq e);exact⟨a,us,b,d,k,j,f,g⟩
theorem SR.putS{b:gM}(h:SR K c hid ρ σ H)(f:vI i ρ=some ks)(j:σ[i]? =some (some (.ref a)))(p:(b.map (·.1)).Perm ks')(r:Reps K (vw H hid) (lW b) (zc b)):SR K c hid (ρ.set i (.ob (.tset ks'))) σ (bY H a (.tst b)):=by
 obtain⟨k,us,e,d,g,n,l,m⟩:=h.setT f;rw[j] at e;cases e;exact h.putO (sq f) trivial trivial j (.inl rfl) d g nofun ⟨⟨d,g⟩,b,aT,p,by rw[fX d];exact r⟩
end
theorem items_int: ∀ {a:List Int} {us:List O7},bt (a.map V.int) us->PySem.ItemsAre (intKind prog w) a us
 | [],_,h=>by cases h;exact .nil
 |n::a,_,h=>by
  cases h with
  |cons r rs=>
   obtain⟨t,rfl⟩:=r;exact .cons (intKind_is _ _ _ _) (items_int rs)
section
variable {X:Cx}{ah:List (Addr×Obj)}{σ:St}{H:Hp}{s:O9}{a b:Addr}{A:Qe}{E:O7->O9->Prop}
theorem nr {ks:List Int}(I:Inv X ah σ H s)(h:SqT X.K H b (ks.map V.int)):(KI X.prog X.w).is s.heap ks b:=by
 obtain⟨a,r,⟨o,c,d,n,e⟩,_⟩:=I.tuple h;exact⟨o,a.toArray,n,c,d,e,by simpa using items_int r⟩
theorem qM(I:Inv X ah σ H s)(h: ∀x∈xs,SqT X.K H x.2 (x.1.map V.int)):sN X.prog X.w s.heap xs:=λx a=>nr I (h x a)
def Mq:List V->Hp->VK->Prop:=λxs H Q=>xs=[]/\ ∀a,H a=none->Q (.ref a) (bY H a (.tst []))
theorem za:dI X (.type "set") Mq:=by
 intro a s σ H xs us Q I r h;obtain⟨rfl,q⟩:=h;cases r;refine zb ?_
 exact⟨.ref s.heap.objs.size,_,I.laid (t':=s.toks) (λb o e=>Pa _ e) (Ph _) (show ci X.prog X.w _ _ _ (.tst []) from⟨_,_,_,_,Pl _ rfl,qk _⟩),rfl,q _ (I.hok.fresh (Ph _))⟩
def Mf(zs:gM)(k:List Int)(b:Addr)(a:gM):Prop:=(k∈zs.map (·.1)/\a=zs)\/(k∉zs.map (·.1)/\a.Perm (zs++[(k,b)]))
def Mw(zs:gM)(k:List Int)(a:gM):Prop:=(zs.map (·.1)).Nodup/\((k∉zs.map (·.1)/\a=zs)\/(∃(i:Nat) (c:Addr),zs[i]? =some (k,c)/\a=zs.eraseIdx i))
def My(K:Pk):V->List V->Hp->VK->Prop:=λx xs H Q=> ∃a b zs k,x=.ref a/\xs=[.ref b]/\H a=some (.tst zs)/\SqT K H b (k.map V.int)/\(∀z∈zs,SqT K H z.2 (z.1.map V.int))/\zs.length<=1000/\ ∀c,Mf zs k b c->Q .non (bY H a (.tst c))
def LW(K:Pk):V->List V->Hp->VK->Prop:=λx xs H Q=> ∃a b zs k,x=.ref a/\xs=[.ref b]/\H a=some (.tst zs)/\SqT K H b (k.map V.int)/\(∀z∈zs,SqT K H z.2 (z.1.map V.int))/\zs.length<=1000/\ ∀c,Mw zs k c->Q .non (bY H a (.tst c))
theorem Aw {h':Heap}{t':Nat}(I:Inv X ah σ H s)(e:H a=some (.tst xs))(g:Qn a s.heap h')(c:h'.get? a=some o')(S:ce X.w o' es' ep' tb' zs'):
 Inv X ah σ (bY H a (.tst zs')) {s with heap:=h',toks:=t'}:=I.write (x:=a) (e:=a) (by rw[e];trivial) (.inl rfl) (λb u d f=>(g.2 b d).trans f) ⟨_,c⟩ ⟨_,_,_,_,c,S⟩
theorem GK(d:X.A.units+1<Ra):M8 X "set.add" (My X.K):=by
 intro D s σ H x xs v us Q I l f h;obtain⟨a,b,zs,k,rfl,rfl,c,p,C,j,q⟩:=h;cases l;obtain⟨u,rfl,y⟩:=f.one;cases y;obtain⟨o,es,ep,t,e,S⟩:=(show ci X.prog X.w H s.heap a (.tst zs) from I.hok a _ c)
 refine Dy e S (qM I C) d (nr I p) j λh' E B n t' r z i g m=>?_
 exact⟨.non,_,Aw I c z i g,rfl,q _ m⟩
theorem HN(d:X.A.units+1<Ra):M8 X "set.discard" (LW X.K):=by
 intro D s σ H x xs v us Q I l f h;obtain⟨a,b,zs,k,rfl,rfl,c,p,C,j,q⟩:=h;cases l;obtain⟨u,rfl,y⟩:=f.one;cases y;obtain⟨o,es,ep,t,e,S⟩:=(show ci X.prog X.w H s.heap a (.tst zs) from I.hok a _ c)
 refine uW e S (qM I C) d (nr I p) j λh' E B n t' r z i g m=>?_
 exact⟨.non,_,Aw I c z i g,rfl,q _ ⟨S.nd,m⟩⟩
end
section
variable {X:Cx}{o i:Expr}{pos:Pos}{td ty:TE}
def N8(K:Pk)(ty d:TE):TE:=λσ H Q=>ty σ H λy e=>d σ e λx c=> ∃a b zs k,x=.ref a/\y=.ref b/\c a=some (.tst zs)/\SqT K c b (k.map V.int)/\(∀z∈zs,SqT K c z.2 (z.1.map V.int))/\Q (.bl (decide (k∈zs.map (·.1)))) c
theorem Jz(p:X.A.units+1<Ra)(F:PE X i ty)(g:PE X o td):PC X .In i o (N8 X.K ty td):=by
 intro j s σ H Q I h;refine bW (F j s σ H _ I h) λr n ⟨y,m,l,z,E⟩=>bW (g j n σ m _ l E) λu s2 f=>?_
 obtain⟨x,e,d,D,a,b,zs,k,q,v,G,C,B,c⟩:=f;subst q v;obtain rfl:u=QW a:=D;obtain rfl:r=QW b:=z;obtain⟨o,es,ep,t,g,S⟩:=(show ci X.prog X.w e s2.heap a (.tst zs) from d.hok a _ G)
 refine Ha g S.toSetAt (qM d B) p (nr d C) ?_
 have c:Q (.bl (decide (k∈Ya (λx:List Int×Addr=>x.1) zs))) e:=c;generalize decide (k∈Ya (λx:List Int×Addr=>x.1) zs)=bb at c⊢;exact⟨.bl bb,e,d.tok _,rfl,c⟩
end
abbrev Ox(K:Pk)(H:Hp):List V->List (List Int)->Prop:=Paired λy ks=> ∃b,y=.ref b/\SqT K H b (ks.map V.int)
theorem EC {K:Pk}: ∀ {zs:gM},(∀z∈zs,SqT K H z.2 (z.1.map V.int))->Ox K H (lW zs) (zs.map (·.1))
 | [],_=>.nil
 |z::zs,h=>.cons ⟨z.2,rfl,h z PH⟩ (EC λy a=>h y (Pt _ a))
theorem A6 {K:Pk}: ∀ {ys:List V} {a:List (List Int)} {i:Nat},Ox K H ys a->i<a.length-> ∃b,ys.getD i .non=.ref b/\SqT K H b ((a.getD i []).map V.int)
 |_,_,_,.nil,e=>by simp at e
 |_,_,0,.cons h _,e=>by obtain⟨b,c,d⟩:=h;exact⟨b,by simpa using c,by simpa using d⟩
 |_,_,i+1,.cons _ r,e=>by
  obtain⟨b,c,d⟩:=A6 (i:=i) r (by simpa using e);exact⟨b,by simpa using c,by simpa using d⟩
theorem qD: ∀zs:gM,bt (lW zs) (zs.map λx=>QW x.2)
 | []=>.nil
 |_::zs=>.cons rfl (qD zs)
theorem xZ {α β:Type}(f:α->β){l m:List β}(p:l.Perm m): ∀zs:List α,m=zs.map f-> ∃a:List α,a.Perm zs/\l=a.map f:=by
 induction p with
 |nil=>intro zs e;exact⟨zs,Ug _,e⟩
 |cons x p q=>
  intro zs e;cases zs with
  |nil=>cases e
  |cons z zs=>
   rw[Pe] at e;injection e with k b
   obtain⟨a,c,i⟩:=q zs b;exact⟨z::a,c.cons z,by rw[k,i];rfl⟩
 |swap x y l=>
  intro zs e;cases zs with
  |nil=>cases e
  |cons z zs=>
   cases zs with
   |nil=>cases e
   |cons n zs=>
    rw[Pe,Pe] at e;injection e with k b
    injection b with b s
    exact⟨n::z::zs,WS z n zs,by rw[k,b,s];rfl⟩
 |trans t u d h=>
  intro zs e;obtain⟨j,c,i⟩:=h zs e;obtain⟨g,r,o⟩:=d j i;exact⟨g,r.trans c,o⟩
theorem k6 {k l:List (List Int)}(h:k.Perm l):bw bx k=bw bx l:=k8 yU ((aU k).trans h) (kT yU k)
section
variable {X:Cx}
open PySem.W
theorem nM(hc:X.calm=true):dI X (.builtin "sorted") (λxs H Q=> ∃a zs,xs=[.ref a]/\H a=some (.tst zs)/\(∀z∈zs,SqT X.K H z.2 (z.1.map V.int))/\zs.length<64/\(∀z∈zs,z.1≠[])/\
 ∀l (L:gM),H l=none->(∀z∈L,z∈zs)->L.map (·.1)=bw bx (zs.map (·.1))->Q (.ref l) (bY H l (.lst (lW L)))):=by
 intro ah s σ H xs vs Q I r h;obtain⟨a,B,rfl,ha,R,hz0,U,q⟩:=h;obtain⟨u,rfl,rx⟩:=iW r;cases rx;obtain⟨o,es,ep,t,ho,S⟩:=(show ci X.prog X.w H s.heap a (.tst B) from I.hok a _ ha)
 obtain⟨zs,O,ez⟩:=xZ wu (n4 X.w a ep es) B S.he;have hsq: ∀z∈zs,SqT X.K H z.2 (z.1.map V.int):=λz N=>R z (O.mem_iff.mp N)
 have Y: ∀k∈zs.map (·.1),k≠[]:=λk hk=>by
  obtain⟨z,N,rfl⟩:=Pz.mp hk;exact U z (O.mem_iff.mp N)
 have N:zs.length<64:=by rw[O.length_eq];exact hz0
 have ky:=EC hsq;obtain⟨d,A⟩: ∃d,d=zs.map (·.1):=⟨_,rfl⟩
 rw[<-A] at ky Y;have lk:d.length=zs.length:=by rw[A,Pc]
 obtain⟨y,E⟩: ∃y,y=zs.map λx=>QW x.2:=⟨_,rfl⟩
 have li:y.length=d.length:=by rw[E,Pc,lk]
 have rv:bt (lW zs) y:=by rw[E];exact qD zs
 have sz:es.size=y.length:=by rw[S.toSetAt.size,<-O.length_eq,li,lk]
 have raw:dy X.w s.heap a es ep t:=⟨o,B,ho,S.toSetAt⟩
 have gi: ∀i,i<d.length-> ∃(b:Addr) (o:Obj) (J:List O7) (n:Nat),y.getD i Qk=.ref b/\s.heap.get? b=some o/\o.cls=.type "tuple"/\o.data=.seq J.toArray n/\uH J (d.getD i []):=λi f=>by
  obtain⟨b,h1,Z⟩:=A6 ky f;have r1:=oO rv i;rw[h1] at r1;obtain⟨J,r',⟨o,ho,hc,n,hd⟩,_⟩:=I.tuple Z;exact⟨b,o,J,n,r1,ho,hc,hd,IQ r'⟩
 have kt: ∀(g:Heap),(∀c o,s.heap.get? c=some o->g.get? c=some o)-> ∀(l:List O7) (F:List (List Int)),l.length=F.length->(∀i,i<F.length-> ∃(b:Addr) (o:Obj) (J:List O7) (n:Nat),l.getD i Qk=.ref b/\s.heap.get? b=some o/\o.cls=.type "tuple"/\o.data=.seq J.toArray n/\uH J (F.getD i []))->(∀k∈F,k≠[])->
  ∃W,KatTups g l W/\W.length=l.length/\ ∀v∈W,∃i t,v=U3 i t:=by
  intro g M l
  induction l with
  |nil=>intro F _ _ _;exact⟨[],.nil,rfl,λ_ h=>nomatch h⟩
  |cons v l ih=>
   intro F hl hg hk;cases F with
   |nil=>cases hl
   |cons m F=>
    obtain⟨W,f1,f2,f3⟩:=ih F (by simpa using hl) (λi f=>by simpa using hg (i+1) (by simpa using f)) λk hk'=>hk k (by simp[hk'])
    obtain⟨b,o,J,n,g1,g2,g3,g4,g5⟩:=hg 0 (by simp);simp[Qd] at g1 g5;subst g1;cases m with
    |nil=>exact absurd rfl (hk [] (by simp))
    |cons x xs=>
     cases g5 with
     |cons y1 y2=>
      obtain⟨t,rfl⟩:=y1;refine⟨_,jbq (M _ _ g2) g3 g4 (by simp;rfl) f1,by simp[f2],λv hv=>?_⟩;rcases PD.mp hv with rfl|hv
      ·exact⟨_,_,rfl⟩
      ·exact f3 v hv
 refine ya (us:=y) (G:=λD=>(∀i∈D,i<d.length)/\D.map (λi=>d.getD i [])=bw bx d) (sz▸Hi (es:=es) (ep:=ep) (t:=t)) (λi v f hv=>?_) (I.ok.hd hc) raw (by lia) (λfew=>⟨λi f=>?_,?_⟩) (λZ g tk M=>?_) (λg tk p e D M hp hG hg=>?_)
 ·obtain⟨e,h1,rfl⟩:=hv;rw[<-PZ,ez,P5] at h1;obtain⟨x,Z,rfl⟩:=QK.mp h1;rw[E,P5,Z];rfl
 ·rw[O6] at f;lia
 ·rw[li,l4,jF (by lia)]
 ·obtain⟨W,f1,f2,f3⟩:=kt g M y d li gi Y;refine kat_kind (T:=.type "int") f1 (by lia) (λv hv=>?_) (by rfl) ⟨rfl,?_⟩
  ·obtain⟨i,t,rfl⟩:=f3 v hv;exact jaE
  ·rw[li];refine up (b:=λi j=>bx (d.getD i []) (d.getD j [])) (Fg yU _) (by lia) (λi j C f hj hC=>?_) λp P S=>⟨rfl,?_,?_⟩
   ·obtain⟨b1,o1,ts1,n1,x1,x2,x3,x4,x5⟩:=gi i f;obtain⟨b2,o2,ts2,n2,y1,y2,y3,y4,y5⟩:=gi j hj;unfold X8;rw[x1,y1];refine kat_lt (M _ _ x2) x4 (M _ _ y2) y4 ?_
    refine vk 0 x5 y5 ?_ hC;have z1:=Tw x5;have z2:=Tw y5;simp[z1,z2]
   ·intro i f;have:=P.perm.mem_iff.mp (SB.mp f);simpa using this
   ·exact j9 yU P S
 ·have lt: ∀i∈D,i<zs.length:=λi f=>by have:=hG.1 i f;lia
  have e1:(D.map λi=>zs.getD i ([],0)).map (·.1)=bw bx (B.map (·.1)):=by
   rw[<-k6 (O.map (·.1)),<-A,<-hG.2,Pw];refine PM λi f=>?_
   have:=lt i f;rw[A];simp[Qd,this]
  have e2:lW (D.map λi=>zs.getD i ([],0))=D.map λi=>(lW zs).getD i .non:=by
   show(D.map λi=>zs.getD i ([],0)).map (λx=>V.ref x.2)=_;rw[Pw];refine PM λi f=>?_
   have:=lt i f;simp[lW,Qd,this]
  have ll:D.length=B.length:=by
   have:=congrArg Sd e1;rw[Pc,Pc,(aU (lt:=bx) (B.map (·.1))).length_eq,Pc] at this;exact this
  have qq:=q p (D.map λi=>zs.getD i ([],0)) (I.hok.fresh hp) (λz N=>by
   obtain⟨i,f,rfl⟩:=Pz.mp N;have:=lt i f;refine O.mem_iff.mp ?_
   simp[Qd,this]) e1
  rw[e2] at qq;refine⟨.ref p,_,I.laid (t':=tk) M hp (show ci X.prog X.w _ g _ (.lst (D.map λi=>(lW zs).getD i .non)) from⟨?_,_,e,oq rv D,hg⟩),rfl,qq⟩;rw[Pc,ll,QU];lia
end
theorem cQ {K:Pk}: ∀ {xs:gM},Reps K F (lW xs) (zc xs)-> ∀x∈xs,Rep K F (.ref x.2) (.tup (x.1.map D.int))
 | [],_,x,h=>by cases h
 |y::xs,r,x,h=>by
  cases r with
  |cons r rs=>
   rcases PD.mp h with rfl|h
   ·exact r
   ·exact cQ rs x h
theorem jZ {K:Pk}: ∀ {xs:gM},(∀x∈xs,Rep K F (.ref x.2) (.tup (x.1.map D.int)))->Reps K F (lW xs) (zc xs)
 | [],_=>.nil
 |x::xs,h=>.cons (h x PH) (jZ λy a=>h y (Pt _ a))
theorem nP {K:Pk}{a:List Int}(h:Rep K (vw H hid) (.ref b) (.tup (a.map D.int))):SqT K H b (a.map V.int):=by
 obtain⟨f,z,e,_,c,d⟩:=(show c4 K H (vw H hid) (.ref b) (.tup (a.map D.int)) from .inl h).tup;cases e;rw[qI d,Pw] at c;exact c
section
variable {X:Cx}{c:Ct}{k k1 k2:Kd}{e f ev:Expr}{es:List Expr}{fe ff fk fv:FE}{fs:FA}{pos pos' py apos cpos p:Pos}{x y:Str}{x1:_}
def ID(i:Nat):FS:=λρ=>.nx (ρ.set i (.ob (.tset [])))
theorem Hd(i:Nat)(n:X.N.Nodup)(v:X.mg "set"=none)(s:X.N[i]? =some x:=by rfl)(l:EN X.env.scope x:=by first|exact Ro rfl|exact QQ rfl)(t:SO (.Call (.Name "set" p) [] [] cpos) (some (.Name x pos')) pos.line X.env=pure false:=by rfl)
 (u:X.fn x=true\/X.env.scope.names.lookup x=some .local:=by first|exact .inl rfl|exact .inr rfl|assumption) (j:Gl X "set":=by rfl) (hv:Q7 "set"=some (.type "set"):=by kernel_rfl):DS X c k (.Assign [.Name x pos'] (.Call (.Name "set" p) [] [] cpos) pos) (ID i):=λρ=>PS.imp (vc n s l (yI za j v hv) t u) λD σ H f=>by
 obtain⟨hid,e,q⟩:=f;refine⟨rfl,λa d=>?_⟩;have g:=aR d (.tst []);have m:=e.fresh d;refine q _ _ (bc hid a) (SR.setD (a:=a) (b:=.tset []) (e.hide g d aT) ⟨⟨fL,e.fresh0 d⟩,[],aT,Ug _,.nil⟩ (e.notOw m) i) λb o w=>?_
 obtain⟨r,h⟩:=bX.mp w;refine bX.mpr ⟨?_,g b o h⟩;unfold bc;rw[r];have:b≠a:=bD h d;simp[this]
def CI(i:Nat)(fk:FE):FT:=λρ=>(vI i ρ).bind λks=>((fk ρ).bind CV).map λk=>decide (k∈ks)
theorem HM(i:Nat)(r:X.A.units+1<Ra)(t:DP X c k1 e fe)(x:X.N[i]? =some y:=by rfl)(m:wk X.env.scope y:=by first|exact Ro rfl|exact QQ (Ro rfl)|exact QQ (QQ rfl))(f:(y==("__debug__":Str))=false:=by decide)
 (j:(y==("__classdict__":Str))=false:=by decide) (D:SH .In (.Name y py)=false:=by rfl):DT X c (.Compare e [.In] [.Name y py] pos) (CI i fe):=λhid ρ=>
 PT.imp (J9 (Jz r (t hid ρ) (pv i x m f j)) D) λσ H Q l=>by
  obtain⟨k,d,f,q⟩:=l;obtain⟨ks,F,f⟩:=PB.mp f;obtain⟨h,I,rfl⟩:=QK.mp f;obtain⟨J,v,u⟩:=PB.mp I;have s:=nW u;subst s;obtain⟨a,xs,p,M,L,G,E,C⟩:=k.setT F;refine⟨k,_,v,λz o s2 B=>⟨.ref a,p,?_⟩⟩;obtain⟨b,rfl,g⟩:=zk (RK.b k1 B λa n=>k.fresh n);have g:SqT X.K o b (h.map V.int):=by unfold iK at g;rw[Pw] at g;exact g
  refine⟨a,b,xs,h,rfl,rfl,s2 _ _ G,g,λz w=>nP ((cQ C z w).mono (aX s2)),_,rfl,?_⟩;rw[show decide (h∈xs.map (·.1))=decide (h∈ks) from decide_eq_decide.mpr E.mem_iff];exact q o s2
def lw(ks:List (List Int))(k:List Int):List (List Int):=if k∈ks then ks else ks++[k]
def lF(ks:List (List Int))(k:List Int):List (List Int):=ks.filter λx=>decide (x≠k)
def vJ(a:List (List Int)->List Int->List (List Int))(i:Nat)(fk:FE):GE:=λρ=>(vI i ρ).bind λks=>((fk ρ).bind CV).bind λk=>if ks.length<=1000 then some (.non,ρ.set i (.ob (.tset (a ks k)))) else none
theorem DD {zs a:gM}{k:List Int}(h:Mf zs k b a)(p:(zs.map (·.1)).Perm ks):(a.map (·.1)).Perm (lw ks k)/\ ∀z∈a,z∈zs\/z=(k,b):=by
 unfold lw;rcases h with⟨c,rfl⟩|⟨c,e⟩
 ·rw[if_pos (p.mem_iff.mp c)];exact⟨p,λz d=>.inl d⟩
 ·rw[if_neg λw=>c (p.mem_iff.mpr w)];refine⟨(e.map (·.1)).trans ?_,λz d=>?_⟩
  ·rw[Qa];exact p.append (Ug _)
  ·rcases QA.mp (e.mem_iff.mp d) with q|q
   ·exact .inl q
   ·exact .inr (by simpa using q)
theorem FV {zs a:gM}{k:List Int}(h:Mw zs k a)(p:(zs.map (·.1)).Perm ks):(a.map (·.1)).Perm (lF ks k)/\ ∀z∈a,z∈zs:=by
 obtain⟨b,h⟩:=h;unfold lF;have m:=p.filter λx=>decide (x≠k)
 rcases h with⟨d,rfl⟩|⟨i,c,d,rfl⟩
 ·refine⟨?_,λz o=>o⟩;have:(a.map (·.1)).filter (λx=>decide (x≠k))=a.map (·.1):=QC.mpr λx q=>lR λw=>d (w▸q)
  rw[this] at m;exact m
 ·refine⟨?_,λz o=>VJ o⟩;refine List.Perm.trans ?_ m;have n:(zs.map (·.1))[i]? =some k:=by rw[P5,d];rfl
  rw[<-oC];generalize zs.map (·.1)=l at n b;refine(P0 (S4 (Sv _ _) b) (S4 Xd b)).mpr λx=>?_
  rw[Ur,Qf,lL];constructor
  ·rintro⟨j,g,e⟩;refine⟨P9 e,λw=>g ?_⟩;subst w;exact(Vx (Pu.mp e).1 b).mp (e.trans n.symm)
  ·rintro⟨h,g⟩;obtain⟨j,f⟩:=Qb.mp h;exact⟨j,λw=>by subst w;rw[n] at f;cases f;exact g rfl,f⟩
theorem HI(i:Nat)(O:X.A.units+1<Ra)(S:DP X c .s e fe)
 (Y:X.N[i]? =some y:=by rfl) (hv:wk X.env.scope y:=by first|exact Ro rfl|exact QQ (Ro rfl)|exact QQ (QQ rfl)) (hd:(y==("__debug__":Str))=false:=by decide) (r:(y==("__classdict__":Str))=false:=by decide)
 (k:UC (.Name y py) "add" X.env (eval (.Name y py) X.env)=eval (.Name y py) X.env:=by rfl)
 (n:((RL pos (Pv [e] X.env)).all (λx=> !x.1)&&(X2 pos (Vs [] X.env)).all (λx=>x.1.isSome)&&decide ([e].length+([]:List UW).length+(if([]:List UW).isEmpty then 0 else 1)<30))=true:=by rfl)
 (j:(apos.endLine==pos.line)=true:=by rfl) (C:Pv [e] X.env=(false,eval e X.env)::Pv [] X.env:=by rfl) (g:(RL pos (Pv [] X.env)).any (·.1)=false:=by rfl):
 DE X c .s (.Call (.Attribute (.Name y py) "add" apos) [e] [] pos) (vJ lw i fe):=λhid ρ=>
 PE.imp (AO Wo PySem.F.slot_set_add PySem.F.type_set_add (GK O) (pv i Y hv hd r) (c8 (S hid ρ) fV C) k n j C g) λσ H Q u=>by
  obtain⟨t,d,ρ',f,q⟩:=u;obtain⟨ks,L,f⟩:=PB.mp f;obtain⟨E,e1,f⟩:=PB.mp f;obtain⟨dk,V,U⟩:=PB.mp e1;split at f
  ·rename_i p
   cases f;have R:=nW U;subst R;obtain⟨a,xs,B,W,a3,M,J,G⟩:=t.setT L;refine⟨.ref a,B,.inr (.inr (.inr (.inr ⟨rfl,xs,M⟩))),t,_,V,λz H2 s2 l=>?_⟩;have l:Rep X.K (vw H2 hid) z (.tup (E.map D.int)):=l;obtain⟨b,rfl,I⟩:=zk (.inl l);have I:=nP l;refine⟨a,b,xs,E,rfl,rfl,s2 _ _ M,I,λz p=>nP ((cQ G z p).mono (aX s2)),by have:=J.length_eq;rw[Pc] at this;lia,λZ v=>?_⟩;obtain⟨T,g2⟩:=DD v J;refine q _ _ ⟨λb' o w m=>?_,(t.ext s2).putS L B T (jZ λz p=>?_),.non⟩
   ·rw[aP λP=>by subst P;rw[W] at m;cases m];exact s2 _ _ w
   ·rcases g2 z p with h|rfl
    ·exact(cQ G z h).mono (aX s2)
    ·exact l
  ·cases f
theorem Il(i:Nat)(M:X.A.units+1<Ra)(R:DP X c .s e fe)
 (W:X.N[i]? =some y:=by rfl) (hv:wk X.env.scope y:=by first|exact Ro rfl|exact QQ (Ro rfl)|exact QQ (QQ rfl)) (hd:(y==("__debug__":Str))=false:=by decide) (p:(y==("__classdict__":Str))=false:=by decide)
 (j:UC (.Name y py) "discard" X.env (eval (.Name y py) X.env)=eval (.Name y py) X.env:=by rfl)
 (l:((RL pos (Pv [e] X.env)).all (λx=> !x.1)&&(X2 pos (Vs [] X.env)).all (λx=>x.1.isSome)&&decide ([e].length+([]:List UW).length+(if([]:List UW).isEmpty then 0 else 1)<30))=true:=by rfl)
 (h:(apos.endLine==pos.line)=true:=by rfl) (B:Pv [e] X.env=(false,eval e X.env)::Pv [] X.env:=by rfl) (g:(RL pos (Pv [] X.env)).any (·.1)=false:=by rfl):
 DE X c .s (.Call (.Attribute (.Name y py) "discard" apos) [e] [] pos) (vJ lF i fe):=λhid ρ=>
 PE.imp (AO Wo PySem.F.slot_set_discard PySem.F.type_set_discard (HN M) (pv i W hv hd p) (c8 (R hid ρ) fV B) j l h B g) λσ H Q t=>by
  obtain⟨r,d,ρ',f,q⟩:=t;obtain⟨ks,J,f⟩:=PB.mp f;obtain⟨C,e1,f⟩:=PB.mp f;obtain⟨dk,U,T⟩:=PB.mp e1;split at f
  ·rename_i m
   cases f;have P:=nW T;subst P;obtain⟨a,xs,v,V,a3,L,I,E⟩:=r.setT J;refine⟨.ref a,v,.inr (.inr (.inr (.inr ⟨rfl,xs,L⟩))),r,_,U,λz Z s2 n=>?_⟩;have n:Rep X.K (vw Z hid) z (.tup (C.map D.int)):=n;obtain⟨b,rfl,G⟩:=zk (.inl n);have G:=nP n;refine⟨a,b,xs,C,rfl,rfl,s2 _ _ L,G,λz m=>nP ((cQ E z m).mono (aX s2)),by have:=I.length_eq;rw[Pc] at this;lia,λY u=>?_⟩;obtain⟨S,g2⟩:=FV u I;refine q _ _ ⟨λb' o w k=>?_,(r.ext s2).putS J v S (jZ λz m=>?_),.non⟩
   ·rw[aP λO=>by subst O;rw[V] at k;cases k];exact s2 _ _ w
   ·exact(cQ E z (g2 z m)).mono (aX s2)
  ·cases f
def DU(i:Nat):FE:=λρ=>(vI i ρ).bind λks=>if ks.length<64/\ ∀k∈ks,k≠[] then some (.lst ((bw bx ks).map cZ)) else none
theorem Hf(i:Nat)(r:X.calm=true)(m:X.mg "sorted"=none)(C:X.N[i]? =some y:=by rfl)(o:wk X.env.scope y:=by first|exact Ro rfl|exact QQ (Ro rfl)|exact QQ (QQ rfl))(b:(y==("__debug__":Str))=false:=by decide)
 (g:(y==("__classdict__":Str))=false:=by decide) (w:Gl X "sorted":=by rfl) (hv:Q7 "sorted"=some (.builtin "sorted"):=by kernel_rfl)
 (t:Pv [.Name y py] X.env=(false,eval (.Name y py) X.env)::Pv [] X.env:=by rfl) (h:(RL pos (Pv [] X.env)).any (·.1)=false:=by rfl):DP X c .n (.Call (.Name "sorted" p) [.Name y py] [] pos) (DU i):=λhid ρ=>
 PE.imp (nz (nM r) w m hv (c8 (pv i C o b g) fV t) (by decide) (by decide) t h) λσ H Q k=>by
  obtain⟨A,d,b,q⟩:=k;obtain⟨ks,E,b⟩:=PB.mp b;split at b
  ·rename_i e
   cases b;obtain⟨a,xs,x,I,G,F,s,u⟩:=A.setT E;have B:=s.length_eq;rw[Pc] at B;refine⟨.ref a,x,a,xs,rfl,F,λz e=>nP (cQ u z e),by lia,λz f=>e.2 _ (s.mem_iff.mp (US f)),λl j v m D=>q _ _ (aR v _) (fZ v (am.refl _) ?_)⟩;have:(bw bx ks).map cZ=zc j:=by
    rw[<-k6 s,<-D,Pw];rfl
   rw[this];exact jZ λz e=>cQ u z (m z e)
  ·cases b
end
def Ef:FS:=λ_=>.no
theorem Dj{st:Stmt}:DS X c k st Ef:=λρ a s σ H D I ⟨hid,b,q⟩=>q.elim
set_option maxHeartbeats 1000000
open PySem PySem.W PyProof.Rows
section
variable {prog:Qc}{w:Qv}{A:Qe}{E:O7->O9->Prop}{s:O9}{a b:Addr}{o:Obj}{es:Array (Int×O7)}{ep:Nat}{t:QL}{xs:gM}{k:List Int}
theorem Dh(S:SetAt w o es ep t xs){q c:Nat}(F:3<=q)(m:q<=12)(D:c+1=2^q)(g e:Nat)(r:xs.length*5<c*3): ∃(b a:Array Nat),VA c g e t.led t.plain (es.map (·.1))=some (⟨c,b, #[],g,t.led,e,t.plain⟩,a)/\
 a.toList.Perm (O5 xs.length)/\(∀(h:Obj) (d:Nat),h.ExactSet->h.data=.set (a.filterMap (es[·]?)) d ⟨c,b, #[],g,t.led,e,t.plain⟩->
  ce w h (a.filterMap (es[·]?)) d ⟨c,b, #[],g,t.led,e,t.plain⟩ (pk xs a.toList))/\(a.filterMap (es[·]?)).size=es.size:=by
 have v:(es.map (·.1)).size=xs.length:=by rw[Ze,S.size]
 obtain⟨b,a,G,f,y⟩:=AY F m D g e t.led t.plain (es.map (·.1)) (by rw[v];lia);rw[v] at f;have lt: ∀i∈a.toList,i<xs.length:=λi s=>O6.mp (f.mem_iff.mp s)
 have x:(a.filterMap (es[·]?)).toList=(pk xs a.toList).map wu:=by
  rw[V8];unfold pk;rw[Pw];have n: ∀l:List Nat,(∀i∈l,i<xs.length)->l.filterMap (λi=>es[i]?)=l.map (wu∘λi=>xs.getD i ([],0)):=by
   intro l
   induction l with
   |nil=>intro _;rfl
   |cons i l E=>
    intro r;have A:=r i PH;have H:es[i]? =some (wu (xs.getD i ([],0))):=by
     rw[S.at_,Pd A];simp[Qd,A]
    rw[R4,H,Pe,E λj C=>r j (Pt _ C)];rfl
  exact n _ lt
 have I:qF (pk xs a.toList)=a.toList.map λk=>(es.map (·.1)).toList.getD k 0:=by
  unfold qF pk;rw[Pw];refine PM λi s=>?_
  have:=lt i s;rw[sy S];show th (xs.getD i ([],0)).1=(qF xs).getD i 0;unfold qF;simp[Qd,this]
 have u:=kZ f;refine⟨b,a,G,f,λh d p B=>?_,?_⟩
 ·refine⟨⟨p,B,x,by rw[I];exact y,S.led,S.pl,?_⟩,?_⟩
  ·exact((u.map (·.1)).nodup_iff).mpr S.nd
  ·have z:=y.sz;rw[Pc,f.length_eq,QF] at z;show(b.size+0)*5<c*3;have z:b.size=xs.length:=z;rw[z];lia
 ·rw[<-Py,x,Pc,u.length_eq,S.size]
theorem Gz(l:s.heap.get? a=some o)(S:ce w o es ep t [])(m:t.fill=0)(P:n<=1000)
 (h: ∀h' i g f t',Qn a s.heap h'->h'.get? a=some i->ce w i g f t' []->t'.fill=0->n*5<t'.mask*3->Q () {s with heap:=h'}):Ps (model prog w) A (ZR a n) Q E s:=by
 unfold ZR;have k:=S.toSetAt;refine O4 (Qt l S.hd k.fits ?_);dsimp only;have y:t.place.size=0:=by have:=k.T.sz;simpa [qF] using this
 unfold SetTable.roomFor;rw[m,y,Rk]
 by_cases c:n*5≥t.mask*3
 ·rw[if_pos c];dsimp only;have hw:n*2<=4095:=by lia
  have V:7<=t.mask:=by
   obtain⟨q,O,_,U⟩:=S.T.pw;have R:2^3<=2^q:=RV (by lia) O;lia
  obtain⟨d,b,p,J,L,H,x⟩:=sJ k hw (by show 0*5<_;lia);obtain⟨q,W,r,e,B⟩:=js hw
  have N:setRelay a (n*2)=(do
   let(es,_,t) <-XY a
   if Qs (n*2)>PN then RI "set:memory"
   let(es,t) <-(do
    let some (t,b):=t.relaid (es.map (·.1)) (n*2)|RI "internal:set-table-without-room"
    let g:=b.filterMap (es[·]?)
    if g.size !=es.size then RI "internal:set-table-lost-an-element"
    pure (g,t):Sem (Array (Int×O7)×QL))
   Zf a es t):=rfl
  rw[N];refine O4 (Qt l S.hd k.fits ?_);dsimp only;have D:2^q<=2^12:=RV (by lia) r;have F:(2:Nat)^12=4096:=by decide
  rw[if_neg (by rw[e,QU];lia),J];dsimp only;rw[x,bne_self_eq_false];simp only[Po,if_false];refine O4 (O8 ?_);dsimp only;have K:(b.filterMap (es[·]?)).size<=sizeLine:=by
   rw[x,k.size,QU];simp
  refine SC l S.hd ?_ K;have v:=Qy (TN (b.filterMap (es[·]?)) ⟨Qs (n*2) -1,d, #[],t.finger,t.led,p,t.plain⟩) l (by rw[SN _ _ S.hd];rfl);rw[SN _ _ S.hd] at v;have u:b.toList=[]:=by
   have:=L.length_eq;simp at this;simpa using this
  have M:pk ([]:gM) b.toList=[]:=by rw[u];rfl
  have j: ∀(i:Obj) (f:Nat),i.ExactSet->i.data=.set (b.filterMap (es[·]?)) f ⟨Qs (n*2) -1,d, #[],t.finger,t.led,p,t.plain⟩->ce w i (b.filterMap (es[·]?)) f ⟨Qs (n*2) -1,d, #[],t.finger,t.led,p,t.plain⟩ []:=λi f I C=>by
   have:=H i f I C;rw[M] at this;exact this
  have G:=j {cls:=.type "set",dict:=none,data:=.set (b.filterMap (es[·]?)) 0 ⟨Qs (n*2) -1,d, #[],t.finger,t.led,p,t.plain⟩} 0 ⟨rfl,rfl,rfl⟩ rfl;refine h _ _ _ _ _ (QR s.heap a _) v (j _ _ S.ex rfl) ?_ ?_
  ·have:=G.T.sz;have z:d.size=0:=by simpa [qF] using this
   show d.size+0=0;lia
  ·show n*5<(Qs (n*2) -1)*3;lia
 ·rw[if_neg c];dsimp only;exact O8 (h s.heap o es ep t (SF a s.heap) l S m (by lia))
theorem wI(s o:Addr)(a:Sem Unit):setMerge s o a=(do
 if s==o then return
 let(eo,epoch,to) <-XY o
 if eo.isEmpty then return
 ZR s eo.size
 let(_,_,ts) <-XY s
 match ts.road to with
 | .slotForSlot=>Zf s eo {to with finger:=ts.finger,led:=ts.led&&to.led,moves:=ts.moves,plain:=ts.plain&&to.plain}
 | .clean=>
   let(es,t) <-(do
    let some (t,order):=(VA ts.mask ts.finger ts.moves (led:=ts.led&&to.led) (plain:=ts.plain&&to.plain) (eo.map (·.1)))|RI "internal:set-table-without-room"
    let b:=order.filterMap (eo[·]?)
    if b.size !=eo.size then RI "internal:set-table-lost-an-element"
    pure (b,t):Sem (Array (Int×O7)×QL))
   Zf s es t
 | .oneByOne=>
   for (h,x) in<-setWalkUnseen o [s] (some s) do
    let _ <-Tp [x] (V9 s x h)
    a
    if(<-XY o).2.1 !=epoch then RI "set.changed-during-merge"):=rfl
theorem Ec(C:a≠l)(H:s.heap.get? a=some o)(S:ce w o es ep t [])(x:t.fill=0)(I:s.heap.get? l=some ol)(Sl:ce w ol esl epl tl xs)(K:xs.length<=1000)
 (h: ∀h' J u r t' j,Qn a s.heap h'->h'.get? a=some J->ce w J u r t' j->j.Perm xs->Q () {s with heap:=h'}):Ps (model prog w) A (setMerge a l each) Q E s:=by
 rw[wI,if_neg (by simpa using C)];have b:=Sl.toSetAt;refine O4 (Qt I Sl.hd b.fits ?_);dsimp only
 by_cases m:esl.isEmpty=true
 ·rw[if_pos m];have:xs=[]:=by
   have:=b.size;rw[Array.isEmpty_iff] at m;rw[m] at this;exact VZ.mp this.symm
  subst this;exact O8 (h s.heap o es ep t [] (SF a s.heap) H S (.refl _))
 ·rw[if_neg m];refine O4 (Gz H S x (by rw[b.size];exact K) λp X R M e v k d U D=>?_);have n:=d.toSetAt;have L:p.get? l=some ol:=(v.2 l (Qu C)).trans I;refine O4 (Qt k d.hd n.fits ?_);dsimp only;rw[b.size] at D;have F:(e.led&&tl.led)=tl.led:=by rw[d.led,Sl.led,Xk]
  have G:(e.plain&&tl.plain)=tl.plain:=by rw[d.pl,Sl.pl,Xk]
  have z:esl.size<=sizeLine:=by rw[b.size,QU];lia
  unfold SetTable.road;rw[if_neg (by rw[U];decide)]
  by_cases c:(e.mask==tl.mask&&tl.dummies.isEmpty)=true
  ·rw[if_pos c];dsimp only;refine SC k d.hd ?_ z;have i:=Qy (TN esl {tl with finger:=e.finger,led:=e.led&&tl.led,moves:=e.moves,plain:=e.plain&&tl.plain}) k (by rw[SN _ _ d.hd];rfl);rw[SN _ _ d.hd] at i;have T:=Sl.T;exact h _ _ _ _ _ xs (v.trans (QR p a _)) i ⟨⟨d.ex,rfl,Sl.he,⟨T.pw,T.sz,T.sp,T.sd,T.lp,T.ld,T.dj,T.fl,T.rc⟩,F.trans Sl.led,G.trans Sl.pl,Sl.nd⟩,Sl.f5⟩ (.refl _)
  ·rw[if_neg c];dsimp only;obtain⟨q,V,y,N⟩:=d.T.pw;obtain⟨f,g,P,O,W,B⟩:=Dh b V y N e.finger e.moves D;rw[F,G,P];dsimp only;rw[B,bne_self_eq_false];simp only[Po,if_false];refine O4 (O8 ?_);dsimp only;refine SC k d.hd ?_ (by rw[B];exact z)
   have i:=Qy (TN (g.filterMap (esl[·]?)) ⟨e.mask,f, #[],e.finger,tl.led,e.moves,tl.plain⟩) k (by rw[SN _ _ d.hd];rfl);rw[SN _ _ d.hd] at i;exact h _ _ _ _ _ _ (v.trans (QR p a _)) i (W _ _ d.ex rfl) (kZ O)
end
open PySem PySem.W PyProof.Rows PySem.Builtin
section
variable {prog:Qc}{w:Qv}{A:Qe}{E:O7->O9->Prop}{s:O9}{a b:Addr}{o:Obj}{es:Array (Int×O7)}{ep:Nat}{t:QL}{xs:gM}{k:List Int}
theorem j6 {h h':Heap}(x:(KI prog w).is h k b)(e: ∀o,h.get? b=some o->h'.get? b=some o):(KI prog w).is h' k b:=by
 obtain⟨o,items,n,a,r⟩:=x;exact⟨o,items,n,e o a,r⟩
theorem qH {h:Heap}(x:(KI prog w).is h k b)(f:h.get? a=some o)(g:o.cls=.type "set"):b≠a:=λe=>by
 obtain⟨i,items,n,c,d,_⟩:=x;subst e;rw[f] at c;cases c;rw[g] at d;exact absurd d (by decide)
theorem Ih {h h':Heap}(x:sN prog w h xs)(c:h.get? a=some o)(d:o.cls=.type "set")(f:Qn a h h'):sN prog w h' xs:=λz b=>j6 (x z b) λg e=>(f.2 _ (qH (x z b) c d)).trans e
theorem pK(a:s.TypeIs T "set")(h:Q true s):Ps (model prog w) A (Frozenset.isAnySet T) Q E s:=by
 unfold Frozenset.isAnySet;refine O4 (Tr a Wn ?_);exact O8 h
theorem IS {α:Type}{l:List α}(h:l.Nodup){i j:Nat}(b:i<l.length)(a:j<l.length)(e:l[i]=l[j]):i=j:=by
 rcases RY i j with q|q|q
 ·exact absurd e (Q4.mp h i j b a q)
 ·exact q
 ·exact absurd e.symm (Q4.mp h j i a b q)
structure Tog(K0 P:List (List Int))(zs:gM):Prop where
 nd:(zs.map (·.1)).Nodup
 mem: ∀k,k∈zs.map (·.1)↔(k∈K0/\k∉P)\/(k∈P/\k∉K0)
theorem Tog.out{zs:gM}(T:Tog K0 P zs){k:List Int}(n:k∉P){c:Addr}(p:zs[i]? =some (k,c)):Tog K0 (P++[k]) (zs.eraseIdx i):=by
 have m:k∈zs.map (·.1):=Pz.mpr ⟨_,P9 p,rfl⟩;have f:k∈K0:=by
  rcases(T.mem k).mp m with h|h
  ·exact h.1
  ·exact absurd h.1 n
 have q:(zs.eraseIdx i).map (·.1)=(zs.map (·.1)).eraseIdx i:=(oC _ _ _).symm;have a:(zs.map (·.1))[i]? =some k:=by rw[P5,p];rfl
 have d:i<(zs.map (·.1)).length:=by
  rcases Nat.lt_or_ge i (zs.map (·.1)).length with h|h
  ·exact h
  ·rw[Qz h] at a;cases a
 refine⟨by rw[q];exact S4 (Sv _ _) T.nd,λb=>?_⟩;rw[q];have t: ∀b,b∈(zs.map (·.1)).eraseIdx i↔b∈zs.map (·.1)/\b≠k:=λb=>by
  rw[List.mem_eraseIdx_iff_getElem];have o:(zs.map (·.1))[i]=k:=by rw[Pd d] at a;exact Qi a
  constructor
  ·rintro⟨j,g,l,rfl⟩;refine⟨SS _,λe=>l ?_⟩;exact IS T.nd g d (e.trans o.symm)
  ·rintro⟨r,s⟩;obtain⟨j,g,rfl⟩:=SM r;exact⟨j,g,λe=>s (by subst e;exact o),rfl⟩
 rw[t,T.mem,QA,Px]
 by_cases e:b=k
 ·subst e;simp[f,n]
 ·simp[e]
theorem Tog.inn{zs a:gM}(T:Tog K0 P zs){k:List Int}{c:Addr}(d:k∉P)(g:k∉zs.map (·.1))(p:a.Perm (zs++[(k,c)])):Tog K0 (P++[k]) a:=by
 have i:(a.map (·.1)).Perm (zs.map (·.1)++[k]):=by have:=p.map (·.1);rwa [Qa] at this
 have b:k∉K0:=λh=>g ((T.mem k).mpr (.inl ⟨h,d⟩))
 refine⟨i.nodup_iff.mpr ?_,λj=>?_⟩
 ·rw[QT]
  exact⟨T.nd,by simp,λx l y f=>by
   rw[Px] at f;subst f;exact λe=>g (e▸l)⟩
 ·rw[i.mem_iff,QA,Px,T.mem,QA,Px]
  by_cases e:j=k
  ·subst e;simp[b,d]
  ·simp[e]
theorem Ig(id:String){ys:gM}(ne:a≠l)(Z:s.heap.get? a=some o)(S:ce w o es ep t xs)(hE:sN prog w s.heap xs)(U:s.heap.get? l=some ol)(Sl:ce w ol esl epl tl ys)(u:sN prog w s.heap ys)
 (hu:A.units<Ra) (hn:xs.length+ys.length<=1000)
 (h: ∀h' H d n t' zs,Qn a s.heap h'->h'.get? a=some H->ce w H d n t' zs->Tog (xs.map (·.1)) (ys.map (·.1)) zs->(∀z∈zs,z∈xs\/z∈ys)->Q () {s with heap:=h'}):Ps (model prog w) A (Frozenset.symmetricDifferenceUpdate id a (.ref l)) Q E s:=by
 have f:=Sl.toSetAt;have L:=SetAt.ty U f;unfold Frozenset.symmetricDifferenceUpdate;rw[if_neg (by simpa using Qu ne)];dsimp only;refine O4 (XU L ?_);rw[if_neg (by decide)];refine O4 (pK L ?_);rw[if_pos rfl];refine O4 (O8 ?_);unfold Frozenset.addrOf;refine O4 (O8 ?_);refine O4 (Uh U Sl.hd f.fits ?_);refine Qh ?_
 refine O4 ?_
 unfold setWalkUnseen;refine O4 (Qt U Sl.hd f.fits ?_);dsimp only;refine O4 (dS ?_);rw[if_pos (by rw[Sl.led,Sl.pl];show(gy w||_||_)=true;unfold gy;cases w.params.followText "set-order"<;>rfl)];refine xR U f ?_
 have wp:=n4 w l epl esl;rw[Sl.he] at wp;obtain⟨us,pu,eu⟩: ∃us:gM,us.Perm ys/\(iJ w l epl esl).toList=us.map wu:=by
  have key: ∀(m:List (Int×O7)) (zs:gM),m.Perm (zs.map wu)-> ∃us:gM,us.Perm zs/\m=us.map wu:=λm zs hp=>by
   generalize j:zs.map wu=q at hp
   induction hp generalizing zs with
   |nil=>cases zs with
    |nil=>exact⟨[],.refl _,rfl⟩
    |cons z zs=>cases j
   |cons x _ ih=>
    cases zs with
    |nil=>cases j
    |cons z zs=>
     rw[Pe] at j;obtain⟨h1,b⟩:=VL j;obtain⟨us,u1,u2⟩:=ih zs b;exact⟨z::us,u1.cons z,by rw[Pe,h1,u2]⟩
   |swap x y l=>
    cases zs with
    |nil=>cases j
    |cons z zs=>cases zs with
     |nil=>cases j
     |cons z2 zs=>
      rw[Pe,Pe] at j;obtain⟨h1,b⟩:=VL j;obtain⟨h3,h4⟩:=VL b;exact⟨z2::z::zs,.swap z z2 zs,by rw[Pe,Pe,h1,h3,h4]⟩
   |trans _ _ ih1 ih2=>
    obtain⟨us,u1,u2⟩:=ih2 zs j;obtain⟨vs,v1,v2⟩:=ih1 us u2.symm;exact⟨vs,v1.trans u1,v2⟩
  exact key _ _ wp
 have W:(us.map (·.1)).Nodup:=(pu.map (·.1)).nodup_iff.mpr Sl.nd;have p:o.cls=.type "set":=S.ex.1;refine O4 (XO _ (λB _ st=> ∃(P rs:gM) (h':Heap) (H:Obj) (d:Array (Int×O7)) (n:Nat) (t':QL) (zs:gM),B=rs.map wu/\us=P++rs/\st={s with heap:=h'}/\Qn a s.heap h'/\h'.get? a=some H/\ce w H d n t' zs/\Tog (xs.map (·.1)) (P.map (·.1)) zs/\(∀z∈zs,z∈xs\/z∈P)/\zs.length<=xs.length+P.length) (λ_ st=>Ps (model prog w) A (pure ()) Q E st) ?turn ?fin _ _ ⟨[],us,s.heap,o,es,ep,t,xs,eu,rfl,rfl,SF a s.heap,Z,S,⟨S.nd,λk=>by simp⟩,λz r=>.inl r,by simp⟩)
 case fin=>
  rintro _ st ⟨P,rs,h',H,d,n,t',zs,X,v,rfl,C,g,Y,T,O,_⟩;have:rs=[]:=List.map_eq_nil_iff.mp X.symm;subst this;rw[QJ] at v;subst v;refine O8 (h _ _ _ _ _ zs C g Y ⟨T.nd,λk=>by rw[T.mem,(pu.map (·.1)).mem_iff]⟩ λz r=>?_);rcases O z r with q|q
  ·exact .inl q
  ·exact .inr (pu.mem_iff.mp q)
 case turn=>
  rintro x B _ st ⟨P,rs,h',H,d,n,t',zs,X,v,rfl,C,g,Y,T,O,hlen⟩;cases rs with
  |nil=>cases X
  |cons y rs=>
   rw[Pe] at X;obtain⟨hx,hr⟩:=VL X;subst hx;have ylen:us.length=ys.length:=pu.length_eq;have lP:P.length+1<=ys.length:=by
    have:=congrArg Sd v;rw[PF,PL] at this;lia
   have N:y∈ys:=pu.mem_iff.mp (by rw[v];simp);have K:y.1∉P.map (·.1):=λj=>by
    rw[v,Qa,Pe,QT] at W;exact W.2.2 _ j _ PH rfl
   have kk:(KI prog w).is h' y.1 y.2:=j6 (u y N) λI e=>(C.2 _ (qH (u y N) Z p)).trans e
   have E2:sN prog w h' zs:=λz r=>by
    rcases O z r with q|q
    ·exact j6 (hE z q) λI e=>(C.2 _ (qH (hE z q) Z p)).trans e
    ·have:z∈ys:=pu.mem_iff.mp (by rw[v];exact QV _ q);exact j6 (u z this) λI e=>(C.2 _ (qH (u z this) Z p)).trans e
   have hl2:h'.get? l=some ol:=(C.2 l (Qu ne)).trans U
   show Ps _ _ (do
    Tp [QW y.2] (do
     if !(<-VP a (.ref y.2) (th y.1)) then do
      let _ <-V9 a (.ref y.2) (th y.1)
      pure ()
     else pure ())
    Frozenset.unchanged id l epl
    pure (ForInStep.yield PUnit.unit)) _ _ _
   have done: ∀(b:Heap),Qn a h' b-> ∀R:ForInStep PUnit->O9->Prop,R (.yield PUnit.unit) {s with heap:=b}->Ps (model prog w) A (do
    Frozenset.unchanged id l epl
    pure (ForInStep.yield PUnit.unit)) R E {s with heap:=b}:=λb F R hR=>by
    have hl3:b.get? l=some ol:=(F.2 l (Qu ne)).trans hl2;unfold Frozenset.unchanged;refine O4 ?_
    refine O4 (Uh hl3 Sl.hd f.fits ?_);rw[if_neg (by simp)];exact O8 (O8 hR)
   refine O4 (Qh ?_);refine O4 (oZ (s:={s with heap:=h'}) g Y E2 hu kk (by lia) (λnm=>?_) λM b I D G t2 J F q2 q3 V=>?_)
   ·rw[if_pos (show(!false)=true from rfl)];refine O4 (tU (s:={s with heap:=h'}) g Y E2 hu kk (by lia) (λM=>absurd M nm) λnm2 b I D G t2 J F q2 q3 V=>?_);refine O8 (done b F _ ⟨P++[y],rs,b,I,D,G,t2,J,hr,by rw[v,QE];rfl,rfl,C.trans F,q2,q3,by rw[Qa];exact T.inn K nm V,λz r=>?_,by rw[V.length_eq,PF,PF,QI];lia⟩);rcases QA.mp (V.mem_iff.mp r) with q|q
    ·rcases O z q with q|q
     ·exact .inl q
     ·exact .inr (QV _ q)
    ·exact .inr (PU _ (by rw[Px] at q⊢;exact q))
   ·rw[if_neg (show¬(!true)=true by decide)];obtain⟨i,c,hi,rfl⟩:=V;refine O8 (done b F _ ⟨P++[y],rs,b,I,D,G,t2,_,hr,by rw[v,QE];rfl,rfl,C.trans F,q2,q3,by rw[Qa];exact T.out K hi,λz r=>?_,P8 (VQ _ _) (by rw[PF];lia)⟩);rcases O z (VJ r) with q|q
    ·exact .inl q
    ·exact .inr (QV _ q)
end
set_option maxHeartbeats 3200000
theorem mD:Slot "set" (dunder Operator.BitXor.info.2) "set.__xor__":=.of (owner:="set") (n:="__xor__") (by rw[TH,Sx];kernel_rfl) (by decide+kernel) (by decide+kernel) (by decide+kernel) (by first|exact .inl (by decide+kernel)|exact .inr (by decide+kernel)) Wn
theorem rL:ZL table "set.__xor__"=some Sw.«frozenset.__xor__»:=WV (id':="frozenset.__xor__") (by kernel_rfl) rfl (by decide+kernel) (by kernel_rfl)
theorem Bz:Y0.lookup (jah ['t','e','s'].reverse)=some Manifest.sig_set:=by kernel_rfl
theorem uR(a b:O7):ZM "set.__xor__" ⟨[a,b],[]⟩:=by unfold ZM;rw[Xv (id:="set.__xor__") (n:=['_','_','r','o','x','_','_']) (o:=['t','e','s']) (by kernel_rfl) Bz];kernel_rfl
theorem uG:fillsNumberSlot (.type "set") "xor"=pure true:=by
 refine fillsNumberSlot_of (id:="set.__xor__") (r:=some (.builtin "set.__rxor__")) ?_ (by decide+kernel) ?_
 ·show Zt (.type "set") "__xor__"=_;rw[TH,Sx];kernel_rfl
 ·show Zt (.type "set") "__rxor__"=_;rw[TH,Sx];kernel_rfl
theorem KG(l r:O7):Sw.«frozenset.__xor__» ⟨[l,r],[]⟩=(do
 let(self,other) <-Frozenset.slot1 "__xor__" ⟨[l,r],[]⟩
 let(l,r):=if false then(other,self) else(self,other)
 if !(<-Frozenset.isAnySet l<&&>Frozenset.isAnySet r) then
  rule s!"frozenset.{"__xor__"}.declined"
  return<-ret .notImplemented
 let b <-Frozenset.addrOf l
 let v <-(do
  let a <-Frozenset.newFrom s!"frozenset.{"__xor__"}" (<-Frozenset.baseOf b) r
  let c <-Frozenset.addrOf a
  Tp [a] (Frozenset.symmetricDifferenceUpdate s!"frozenset.{"__xor__"}" c (.ref b))
  return a:Sem O7)
 ret v):=rfl
section
variable {prog:Qc}{w:Qv}{A:Qe}{E:O7->O9->Prop}{s:O9}{a b:Addr}{o:Obj}{es:Array (Int×O7)}{ep:Nat}{t:QL}{xs ys:gM}{k:List Int}
theorem FW{n or:Obj}(C:s.heap.get? l=some n)(Sl:ce w n esl epl tl xs)(p:sN prog w s.heap xs)(H:s.heap.get? r=some or)(c:ce w or esr epr tr ys)(x:sN prog w s.heap ys)
 (hu:A.units+1<Ra) (hn:xs.length+ys.length<=1000)
 (h: ∀h' I J D t' zs,Qn s.heap.objs.size (s.heap.push (aS w)) h'->h'.get? s.heap.objs.size=some I->ce w I J D t' zs->Tog (ys.map (·.1)) (xs.map (·.1)) zs->(∀z∈zs,z∈ys\/z∈xs)->Q (.ref s.heap.objs.size) {s with heap:=h'}):
 Ps (model prog w) A (Tx .BitXor (.ref l) (.ref r)) Q E s:=by
 have a:=SetAt.ty C Sl.toSetAt;have f:=SetAt.ty H c.toSetAt;refine wpAny_binaryOp_same a f uG mD ?_
 refine QN mD a rL ?_ (uR _ _)
 rw[KG];unfold Frozenset.slot1;have W:ZN "__xor__" 1 ⟨[QW l,QW r],[]⟩=pure (.ref l,[.ref r]):=rfl;rw[W,pure_bind];dsimp only;rw[pure_bind];dsimp only;rw[if_neg (by decide)];dsimp only;refine O4 ?_
 refine O4 (pK a ?_);refine pK f ?_
 rw[if_neg (by decide)];unfold Frozenset.addrOf;rw[pure_bind];refine O4 ?_
 unfold Frozenset.baseOf;refine O4 ?_
 refine O4 (Tr a Wn ?_);rw[if_pos rfl];refine O8 ?_
 unfold Frozenset.newFrom;refine O4 ?_
 refine O4 (HH ?_);unfold Frozenset.addrOf;rw[pure_bind];have K:(s.heap.push (aS w)).get? s.heap.objs.size=some (aS w):=Pl _ rfl;have b:(s.heap.push (aS w)).get? r=some or:=Pa _ H;have y:(s.heap.push (aS w)).get? l=some n:=Pa _ C;have o:s.heap.objs.size≠r:=RF (Pp H);have g:s.heap.objs.size≠l:=RF (Pp C);have d:Xw {s with heap:=s.heap.push (aS w)} (.ref r) "set":=SetAt.ty (s:={s with heap:=s.heap.push (aS w)}) b c.toSetAt;refine O4 (Qh ?_);unfold Frozenset.updateFrom;refine O4 (pK d ?_);rw[if_pos rfl];unfold Frozenset.addrOf Frozenset.merge;rw[pure_bind];refine O4 (Uh b c.hd c.toSetAt.fits ?_);refine Ec (s:={s with heap:=s.heap.push (aS w)}) o K (qk w) rfl b c (by lia) λj o1 N S t1 G t X U m=>?_
 refine O8 ?_
 rw[pure_bind];have F:j.get? l=some n:=(t.2 l g.symm).trans y;have fc:(aS w).cls=.type "set":=rfl;have E0: ∀us:gM,sN prog w s.heap us->sN prog w j us:=λus Y=>Ih (λz i=>j6 (Y z i) λI e=>Pa _ e) K fc t
 have V:sN prog w j G:=λz i=>E0 ys x z (m.mem_iff.mp i)
 refine O4 (Qh ?_);refine Ig (s:={s with heap:=j}) _ g X U V F Sl (E0 xs p) (show A.in1.units<Ra by have:A.in1.units<=A.units+1:=Ph _;lia) (by rw[m.length_eq];lia) λO T B v P u Z R S2 L M=>?_
 refine O8 (O8 ⟨_,rfl,(λe=>by cases e),h O T B v P u (t.trans Z) R S2 ⟨L.nd,λk=>by rw[L.mem,(m.map (·.1)).mem_iff]⟩ λz i=>?_⟩);rcases M z i with q|q
 ·exact .inl (m.mem_iff.mp q)
 ·exact .inr q
end
section
variable {prog:Qc}{w:Qv}{A:Qe}{R:U9->O9->Prop}{I:Addr}{fp wr:List Addr}{G:Array Zj->Array Zj->Prop}{n:Nat}{P:Nat->O7->Prop}{St:Nat->O9->Prop}
theorem Ei(W:WalksS prog w A.in1 I fp wr G n P St)(S:Addr)(hSf:S∉fp)(ks:List (List Int×Addr))(hk:ks.length=n)(nd:(ks.map (·.1)).Nodup)(hn:n<=1000)(hu:A.in1.units<Ra)
 (hval: ∀i v,P i v->v=.ref (ks.getD i ([],0)).2) (hw: ∀z∈ks,z.2∉wr):
 ∀(k i:Nat) (s:O9),n-i=k->i<=n->St i s->
  (∀z∈ks,(KI prog w).is s.heap z.1 z.2)->
  ∀(o:Obj) (es:Array (Int×O7)) (ep:Nat) (t:QL) (xs:gM),s.heap.get? S=some o->ce w o es ep t xs->xs.Perm (ks.take i)->
  (∀s' o' es' ep' t' xs',Moved (S::wr) G s s'->s'.heap.get? S=some o'->ce w o' es' ep' t' xs'->xs'.Perm ks->R (.ok (.ret .none)) s')->
  RU (model prog w) A (.builtin "set.update.loop" ⟨[.ref S,.ref I],[]⟩) R s:=by
 have hSw:S∉wr:=λh=>hSf (W.sub _ h)
 have hsub: ∀b∈wr,b∈S::wr:=λb hb=>Pt _ hb
 intro k
 induction k with
 |zero=>
  intro i s hk0 hi hst hE o es ep t xs ho hS hp hR;have hin:i=n:=by lia
  subst hin;refine RJ V0 ?_
  rw[Rx TY _];show Ps _ A.in1 (Ts (.ref I)>>=_) _ _ s;refine O4 (W.done s _ _ hst λs' hm=>?_);show Ps _ A.in1 (ret Qk) _ _ s';exact O8 (hR s' o es ep t xs (hm.mono hsub) (hm.heap S _ hSw ho) hS (by rw[Rl (by lia)] at hp;exact hp))
 |succ k ih=>
  intro i s hk0 hi hst hE o es ep t xs ho hS hp hR;have hlt:i<n:=by lia
  refine RJ V0 ?_
  rw[Rx TY _];show Ps _ A.in1 (Ts (.ref I)>>=_) _ _ s;refine O4 (W.item i s _ _ hlt hst λv s' hP hst' hm=>?_);have hv:=hval i v hP;subst hv;have hz:ks.getD i ([],0)∈ks:=by
   rw[PQ,Pd (by lia)];exact SS _
  have hgi:ks[i]? =some (ks.getD i ([],0)):=by rw[PQ,Pd (by lia)];rfl
  generalize hzz:ks.getD i ([],0)=z at hz hgi;have ho':s'.heap.get? S=some o:=hm.heap S _ hSw ho;have hE': ∀z∈ks,(KI prog w).is s'.heap z.1 z.2:=λy hy=>j6 (hE y hy) λo2 e=>hm.heap _ _ (hw y hy) e
  have hEx:sN prog w s'.heap xs:=λy hy=>hE' y (UF (hp.mem_iff.mp hy))
  have hfr:z.1∉xs.map (·.1):=λhq=>by
   have:=(hp.map (·.1)).mem_iff.mp hq;rw[VB] at this;obtain⟨j,hj,e⟩:=SM this;rw[List.getElem_take] at e;have hj2:j<i:=by simp at hj;lia
   have hi2:i<(ks.map (·.1)).length:=by rw[Pc];lia
   have e2:(ks.map (·.1))[i]=z.1:=by
    have:(ks.map (·.1))[i]? =some z.1:=by rw[P5,hgi];rfl
    rw[Pd hi2] at this;exact Qi this
   exact absurd (IS nd (by lia) hi2 (e.trans e2.symm)) (by lia)
  have hsc:o.cls=.type "set":=hS.ex.1;show Ps _ A.in1 (Tp [QW z.2] (setAdd S (.ref z.2))>>=_) _ _ s';refine O4 (Qh ?_);unfold setAdd;refine Qh ?_
  refine O4 ((KI prog w).pyHash (show(KI prog w).room A.in1 from hu) (hE' z hz) ?_);rw[AA];refine tU (s:={s' with toks:=s'.toks+(KI prog w).draws z.1}) ho' hS hEx hu (hE' z hz) (by rw[hp.length_eq,RO];lia) (λhq=>absurd hq hfr) λ_ h' o' es' ep' t' xs' g1 g2 g3 g4=>?_
  refine O8 ⟨VG TY _,ih (i+1) _ (by lia) hlt (W.frame _ s' _ _ hst' (VN _ _) λb hb o2 e=>?_) (λy hy=>?_) o' es' ep' t' xs' g2 g3 ?_ λs'' o2 es2 ep2 t2 LC hm2 q1 q2 q3=>?_⟩
  ·rw[g1.2 b (λh:b=S=>hSf (by rw[<-h];exact hb))];exact e
  ·exact j6 (hE' y hy) λo2 e=>(g1.2 _ (qH (hE' y hy) ho' hsc)).trans e
  ·refine g4.trans ?_
   rw[List.take_succ,hgi];exact Ui _ hp
  ·refine hR s'' o2 es2 ep2 t2 LC (Moved.trans W.gtrans ((hm.mono hsub).then_heap (VN _ _) λb o3 hb e=>?_) hm2) q1 q2 q3;rw[g1.2 b (λh:b=S=>hb (by rw[h];exact PH))];exact e
end
section
variable {prog:Qc}{w:Qv}{A:Qe}{E:O7->O9->Prop}{s:O9}
theorem Bw {l:Addr}{items:Array O7}{ks:List (List Int×Addr)}{Q:O7->O9->Prop}(hh:A.handled=none)(hl:s.heap.IsList l items)(hi:items.toList=ks.map λz=>QW z.2)(nd:(ks.map (·.1)).Nodup)(hn:ks.length<=1000)(hu:A.units+10<Ra)(hE: ∀z∈ks,(KI prog w).is s.heap z.1 z.2)
 (h: ∀(h':Heap) (tk:Nat) (o':Obj) (es':Array (Int×O7)) (ep':Nat) (t':QL) (xs:gM),h'.get? s.heap.objs.size=some o'->ce w o' es' ep' t' xs->xs.Perm ks->(∀b o,b<s.heap.objs.size->s.heap.get? b=some o->h'.get? b=some o)->Q (.ref s.heap.objs.size) {s with heap:=h',toks:=tk}):
 Ps (model prog w) A (call (.type "set") [.ref l]) Q E s:=by
 obtain⟨c,tl,hmro⟩:=Q9.mro;have hmade:=Q9.made;have hsub:=Q9.sub;refine Zp (UK ?_);show Ps _ _ (callAny (.type "set") _) _ _ _;refine O8 ⟨XI _ (by decide+kernel),RJ Yf ?_⟩;rw[XJ (WF "set" [.ref l] []) rfl];have h1:=Q9.notType;have h2:=Q9.canCreate;have hct:=F.typeCall_set_1 (.ref l)
 repeat (any_goals (first|assumption|wp_step))
 refine R7 (xJ (as:=[.ref l]) (E:=E) (F.newCall_set_1 (.ref l)) (Q₁:=λobj s₁=>obj=.ref s.heap.objs.size/\s₁={s with heap:=s.heap.push (aS w)}) ⟨rfl,rfl⟩) λr s₁ hr=>?_
 cases r with
 |error e=>exact hr
 |ok fl=>
  cases fl with
  |ret obj=>
   obtain⟨rfl,rfl⟩:=hr;have hS0:(s.heap.push (aS w)).get? s.heap.objs.size=some (aS w):=Pl _ rfl;have hS:(s.heap.push (aS w)).get? s.heap.objs.size=some {cls:=.type "set",dict:=none,data:=.set #[] 0 (.fresh 0 0 (!gy w))}:=hS0;have hT:Xw {s with heap:=s.heap.push (aS w)} (.ref s.heap.objs.size) "set":=⟨_,hS,rfl⟩
   have hli:=Q9.init.lookup;have hbi:=Q9.init.bind (.ref s.heap.objs.size)
   repeat (any_goals (first|assumption|wp_step))
   refine R7 (WW (R:=wants (λr s₂=>r=.none/\ ∃h' tk o' es' ep' t' xs,s₂={s with heap:=h',toks:=tk}/\h'.get? s.heap.objs.size=some o'/\ce w o' es' ep' t' xs/\xs.Perm ks/\
    (∀b o,b<s.heap.objs.size->s.heap.get? b=some o->h'.get? b=some o)) E) Q9.init.plain YB (check_set_init_1 hT ?_)) λr₂ s₂ hr₂=>?_
   ·obtain⟨ol,hol,hcl,nl,hdl⟩:=hl;obtain⟨ocls,odict,odata,oslots⟩:=ol;simp only at hcl hdl;subst hcl;subst hdl;have hol':(s.heap.push (aS w)).get? l=some {cls:=.type "list",dict:=odict,data:=.seq items nl,slots:=oslots}:=Pa _ hol;have hsls:=F.sub_list_set;have hslf:=F.sub_list_frozenset;have hne:(XD "list"==XD "dict")=false:=by decide
    have hl1:(s.heap.push (aS w)).IsList l items:=⟨_,hol',rfl,nl,rfl⟩
    unfold Sw.«set.__init__» noKeywords Y3;generalize hPI:Wa=PI
    wp_walk
    subst hPI;refine T6 hl1 ?_
    refine O4 (WQ ?_);have hlS:l<s.heap.objs.size:=Pp hol;have hh3:A.in1.in1.in1.handled=none:=by simp[hh]
    have hneI:l≠(s.heap.push (aS w)).objs.size:=by
     rw[QY];exact PX (Tk hlS)
    have hSf:s.heap.objs.size∉ [(s.heap.push (aS w)).objs.size,l]:=by
     rw[QY];simp only[PD,Px,Q0,or_false,not_or];exact⟨PX (QM _),RF hlS⟩
    have zi:ks.length=items.size:=by
     have:=congrArg Sd hi;rw[Pc,Py] at this;exact this.symm
    have hlt: ∀z∈ks,z.2<s.heap.objs.size:=λz hz=>by
     obtain⟨o,_,_,e,_⟩:=hE z hz;exact Pp e
    refine Ei ((jeC hh3 _ l hneI items).toS) s.heap.objs.size hSf ks zi nd (by lia) (show A.in1.in1.in1.units<Ra by
     have a1:A.in1.in1.in1.units<=A.units+3:=Ph _
     lia) (λi v hv=>?_) (λz hz=>?_) (items.size-0) 0 _ (by lia) (Q3 _)
     ⟨⟨_,Pl _ rfl,rfl,rfl⟩,(hl1.push _)⟩ (λz hz=>j6 (hE z hz) λo e=>Pa _ (Pa _ e)) _ _ _ _ [] (Pa _ hS0) (qk w) (.refl _) ?hR
    ·have:items.toList[i]? =some v:=by rw[PZ];exact hv
     rw[hi,P5] at this;obtain⟨z,hz,rfl⟩:=QK.mp this;rw[PQ,hz];rfl
    ·have:=hlt z hz;simp only[PD,Px,Q0,or_false];rw[QY];exact PX (Tk this)
    case hR=>
     intro s' o' es' ep' t' xs' hm g1 g2 g3;obtain⟨h',g',d',tk',os'⟩:=s';have eg:g'=s.gens:=hm.gens;have ed:d'=s.drawn:=hm.drawn;have eo:os'=s.os:=hm.os;subst eg;subst ed;subst eo;show Ps _ _ _ _ _ _;refine O8 ?_
     show Ps _ _ (ret Qk) _ _ _;refine O8 ⟨rfl,h',tk',o',es',ep',t',xs',rfl,g1,g2,g3,λb o hb e=>?_⟩;have hb1:b≠s.heap.objs.size:=PX hb;have hb2:b≠(s.heap.push (aS w)).objs.size:=by
      rw[QY];exact PX (Tk hb)
     exact hm.heap b o (by simp only[PD,Px,Q0,or_false,not_or];exact⟨hb1,hb2⟩) (Pa _ (Pa _ e))
   ·cases r₂ with
    |error e=>exact hr₂
    |ok fl₂=>
     cases fl₂ with
     |ret r=>
      obtain⟨rfl,h',tk,o',es',ep',t',xs,rfl,g1,g2,g3,hk'⟩:=hr₂
      repeat (any_goals (first|assumption|wp_step))
      exact h _ _ _ _ _ _ _ g1 g2 g3 hk'
     |_=>exact hr₂.elim
  |_=>exact hr.elim
end
set_option maxHeartbeats 1000000
section
variable {X:Cx}
def KZ(K:Pk):List V->Hp->VK->Prop:=λxs H Q=> ∃l ks,xs=[.ref l]/\SqL K H l (lW ks)/\(∀z∈ks,SqT K H z.2 (z.1.map V.int))/\(ks.map (·.1)).Nodup/\ks.length<=1000/\ ∀a zs,H a=none->zs.Perm ks->Q (.ref a) (bY H a (.tst zs))
theorem rh(x:X.calm=true)(j:X.A.units+10<Ra):dI X (.type "set") (KZ X.K):=by
 intro W s σ H xs us Q I r h;obtain⟨l,ks,rfl,S,d,T,m,q⟩:=h;obtain⟨u,rfl,J⟩:=iW r;cases J;obtain⟨c,r,G,Z⟩:=I.list S;have O:c=ks.map λz=>QW z.2:=by
  have t:=qD ks;have: ∀(vs:List V) (a b:List O7),(∀v∈vs,∃p,v=V.ref p)->bt vs a->bt vs b->a=b:=λvs=>by
   induction vs with
   |nil=>intro a b _ i g;cases i;cases g;rfl
   |cons v vs N=>
    intro a b hv i g;cases i with
    |cons B f=>cases g with
     |cons C k=>
      obtain⟨p,rfl⟩:=hv v PH;cases B;cases C;rw[N _ _ (λw hw=>hv w (Pt _ hw)) f k]
  exact this _ _ _ (λv hv=>by obtain⟨z,_,rfl⟩:=Pz.mp hv;exact⟨_,rfl⟩) r t
 refine Bw (ks:=ks) (items:=c.toArray) (I.ok.hd x) ?_ (by simpa using O) T m j (λz U=>nr I (d z U)) λh' tk Y R M t' zs P E D L=>?_
 ·obtain⟨o,n,e,y,F,f⟩:=G;exact⟨o,e,y,n,by first|exact F|exact f⟩
 ·exact⟨.ref s.heap.objs.size,_,I.laid (t':=tk) (λb o e=>L b o (Pp e) e) (Ph _) (show ci X.prog X.w _ _ _ (.tst zs) from⟨_,_,_,_,P,E⟩),rfl,q _ _ (I.hok.fresh (Ph _)) D⟩
def MK(K:Pk):R2:=λx y H Q=> ∃l r xs ys,x=.ref l/\y=.ref r/\H l=some (.tst xs)/\H r=some (.tst ys)/\(∀z∈xs,SqT K H z.2 (z.1.map V.int))/\(∀z∈ys,SqT K H z.2 (z.1.map V.int))/\xs.length+ys.length<=1000/\
 ∀a zs,H a=none->Tog (ys.map (·.1)) (xs.map (·.1)) zs->(∀z∈zs,z∈ys\/z∈xs)->Q (.ref a) (bY H a (.tst zs))
theorem HR(k:X.A.units+1<Ra):lu X (Tx .BitXor) (MK X.K):=by
 intro L s σ H x y v u Q I B p h;obtain⟨l,r,xs,ys,rfl,rfl,z,F,i,C,n,q⟩:=h;cases B;cases p;obtain⟨O,f,J,P,d,Sl⟩:=(show ci X.prog X.w H s.heap l (.tst xs) from I.hok l _ z)
 obtain⟨or,D,t,M,a,j⟩:=(show ci X.prog X.w H s.heap r (.tst ys) from I.hok r _ F)
 refine FW d Sl (qM I i) a j (qM I C) k n λh' N G E t' zs b g S T m=>?_
 refine⟨.ref s.heap.objs.size,_,I.laid (t':=s.toks) (λc o e=>?_) (Ph _) (show ci X.prog X.w _ _ _ (.tst zs) from⟨_,_,_,_,g,S⟩),rfl,q _ _ (I.hok.fresh (Ph _)) T m⟩;exact(b.2 c (PX (Pp e))).trans (Pa _ e)
end
theorem qP {K:Pk}: ∀ {vs:List V} {ks:List (List Int)},Reps K (vw H hid) vs (ks.map cZ)-> ∃xs:gM,vs=lW xs/\xs.map (·.1)=ks/\Reps K (vw H hid) (lW xs) (zc xs)
 |vs,[],r=>by cases r;exact⟨[],rfl,rfl,.nil⟩
 |vs,k::ks,r=>by
  rw[Pe] at r;cases r with
  |cons r rs=>
   obtain⟨xs,rfl,rfl,a⟩:=qP rs;obtain⟨b,z,rfl,_⟩:=(show c4 K H (vw H hid) _ (.tup (k.map D.int)) from .inl r).tup;exact⟨(k,b)::xs,rfl,rfl,.cons r a⟩
def o5:List D->Option (List (List Int))
 | []=>some []
 | .tup ds::r=>(eN ds).bind λk=>(o5 r).map (k:: ·)
 |_=>none
theorem qG: ∀ {ds:List D} {ks:List (List Int)},o5 ds=some ks->ds=ks.map cZ
 | [],ks,h=>by cases h;rfl
 | .tup es::r,ks,h=>by
   obtain⟨k,b,h⟩:=PB.mp (show(eN es).bind _=_ from h);obtain⟨t,a,rfl⟩:=QK.mp h;rw[Pe,<-qG a,gK b];rfl
 | .non::_,_,h| .bl _::_,_,h| .int _::_,_,h| .str _::_,_,h| .lst _::_,_,h| .scr _::_,_,h=>by cases h
theorem Hz {A:Qe}(a:dl k A):A.units+10<cLine:=SY (W6 (by decide:10<=64) _) a.units
def ga(a b:List (List Int)):List (List Int):=a.filter (λk=>decide (k∉b))++b.filter (λk=>decide (k∉a))
theorem u5 {a b:List (List Int)}(f:a.Nodup)(i:b.Nodup):(ga a b).Nodup:=by
 unfold ga;rw[QT];refine⟨f.filter _,i.filter _,λx h y g e=>?_⟩;subst e;have d:=(Qf.mp h).1;have c:=(Qf.mp g).2;simp at c;exact c d
theorem ib{k:List Int}:k∈ga a b↔(k∈a/\k∉b)\/(k∈b/\k∉a):=by
 unfold ga;simp
theorem EY {a b:List (List Int)}{zs:gM}(T:Tog b a zs)(c:a.Nodup)(d:b.Nodup):(zs.map (·.1)).Perm (ga a b):=
 (P0 T.nd (u5 c d)).mpr λk=>by rw[T.mem,ib];constructor<;>(rintro(h|h);exact .inr h;exact .inl h)
def JG(i j:Nat):FE:=λρ=>match ρ[i]?,ρ[j]? with
 |some (.v (.lst d)),some (.v (.lst c))=>(o5 d).bind λa=>(o5 c).bind λb=>if(a.Nodup/\b.Nodup)/\a.length+b.length<=1000/\(ga a b).length<64/\(∀k∈a,k≠[])/\(∀k∈b,k≠[]) then some (.lst ((bw bx (ga a b)).map cZ)) else none
 |_,_=>none
theorem EF {K:Pk}(h:Rep K (vw H hid) v (.lst ds)): ∃l xs,v=.ref l/\SqL K H l xs/\Reps K (vw H hid) xs ds:=by
 obtain⟨a,xs,rfl,b,c⟩:=(show c4 K H (vw H hid) v (.lst ds) from .inl h).lst;exact⟨a,xs,rfl,b,c⟩
section
variable {X:Cx}{c:Ct}{pos p p1 p2 p3 p4 p5 q1 q2 q3:Pos}{x y:Str}
theorem Ej(i j:Nat)(r:X.calm=true)(hu:X.A.units+10<Ra)(hm:X.mg "sorted"=none)(F:X.mg "set"=none)(hN:X.N[i]? =some x:=by rfl)(hN2:X.N[j]? =some y:=by rfl)(hv':wk X.env.scope x:=by first|exact Ro rfl|exact QQ (Ro rfl)|exact QQ (QQ rfl))(Z:wk X.env.scope y:=by first|exact Ro rfl|exact QQ (Ro rfl)|exact QQ (QQ rfl))(b:(x==("__debug__":Str))=false:=by decide)(Y:(y==("__debug__":Str))=false:=by decide)
 (W:(x==("__classdict__":Str))=false:=by decide) (B:(y==("__classdict__":Str))=false:=by decide) (hg:Gl X "sorted":=by rfl) (L:Gl X "set":=by rfl) (hv:Q7 "sorted"=some (.builtin "sorted"):=by kernel_rfl) (E:Q7 "set"=some (.type "set"):=by kernel_rfl)
 (w:Pv [.Name x p2] X.env=(false,eval (.Name x p2) X.env)::Pv [] X.env:=by rfl) (C:Pv [.Name y p4] X.env=(false,eval (.Name y p4) X.env)::Pv [] X.env:=by rfl) (G:Pv [.BinOp (.Call (.Name "set" p1) [.Name x p2] [] q1) .BitXor (.Call (.Name "set" p3) [.Name y p4] [] q2) q3] X.env=(false,eval (.BinOp (.Call (.Name "set" p1) [.Name x p2] [] q1) .BitXor (.Call (.Name "set" p3) [.Name y p4] [] q2) q3) X.env)::Pv [] X.env:=by rfl) (o: ∀I,(RL I (Pv [] X.env)).any (·.1)=false:=by intro _;rfl):
 DP X c .n (.Call (.Name "sorted" p) [.BinOp (.Call (.Name "set" p1) [.Name x p2] [] q1) .BitXor (.Call (.Name "set" p3) [.Name y p4] [] q2) q3] [] I) (JG i j):=λhid ρ=>
 PE.imp (nz (nM r) hg hm hv (c8 (Iu (HR (by lia)) (gu (rh r hu) L F E (c8 (pv i hN hv' b W) fV w) (by decide) (by decide) w (o _)) (gu (rh r hu) L F E (c8 (pv j hN2 Z Y B) fV C) (by decide) (by decide) C (o _))) fV G) (by decide) (by decide) G (o _)) λσ H Q Ty=>by
  obtain⟨sr,d,b,q⟩:=Ty;unfold JG at b;split at b
  ·rename_i d1 d2 e1 e2
   obtain⟨k1,f1,b⟩:=PB.mp b;obtain⟨k2,f2,b⟩:=PB.mp b;split at b
   ·rename_i hc
    cases b;obtain⟨⟨t,v⟩,R,S,U,ST⟩:=hc;have:=qG f1;subst this;have:=qG f2;subst this;obtain⟨v1,s1,r1⟩:=sr.sl i _ e1;obtain⟨v2,s2,r2⟩:=sr.sl j _ e2;obtain⟨l1,u1,rfl,g1,w1⟩:=EF r1;obtain⟨l2,u2,rfl,g2,w2⟩:=EF r2;obtain⟨J,rfl,rfl,y1⟩:=qP w1;obtain⟨u,rfl,rfl,y2⟩:=qP w2;rw[Pc,Pc] at R;have t1: ∀z∈J,SqT X.K H z.2 (z.1.map V.int):=λz a=>nP (cQ y1 z a)
    have t2: ∀z∈u,SqT X.K H z.2 (z.1.map V.int):=λz a=>nP (cQ y2 z a)
    refine⟨.ref l1,s1,l1,J,rfl,g1,t1,t,by lia,λO P n1 g=>?_⟩;have S1:am H (bY H O (.tst P)):=aR n1 _;refine⟨.ref l2,s2,l2,u,rfl,am.seq S1 g2,λz a=>am.seqT S1 (t2 z a),v,by lia,λa2 z2 n2 e=>?_⟩;have S2:am (bY H O (.tst P)) (bY (bY H O (.tst P)) a2 (.tst z2)):=aR n2 _;have m:=S1.trans S2;refine⟨O,a2,P,z2,rfl,rfl,S2 _ _ aT,aT,λz a=>am.seqT m (t1 z (g.mem_iff.mp a)),λz a=>am.seqT m (t2 z (e.mem_iff.mp a)),by rw[g.length_eq,e.length_eq];lia,λa3 s n3 T m3=>?_⟩;have S3:=aR n3 (.tst s);have f:=m.trans S3;have M: ∀z∈s,z∈J\/z∈u:=λz a=>(m3 z a).elim (λh=>.inr (e.mem_iff.mp h)) λh=>.inl (g.mem_iff.mp h)
    have T':Tog (u.map (·.1)) (J.map (·.1)) s:=⟨T.nd,λk=>by rw[T.mem,(g.map (·.1)).mem_iff,(e.map (·.1)).mem_iff]⟩
    have P3:=EY T' t v;have l3:s.length<64:=by
     have:=P3.length_eq;rw[Pc] at this;rw[this];exact S
    have rp: ∀z∈s,Rep X.K (vw H hid) (.ref z.2) (.tup (z.1.map D.int)):=λz a=>(M z a).elim (cQ y1 z) (cQ y2 z)
    refine⟨a3,s,rfl,aT,λz a=>am.seqT f (nP (rp z a)),by lia,λz a=>(M z a).elim (λh=>U _ (US h)) λh=>ST _ (US h),λl Tm R hm hk=>q _ _ (f.trans (aR R _)) (fZ R f ?_)⟩;have:(bw bx (ga (J.map (·.1)) (u.map (·.1)))).map cZ=zc Tm:=by
     rw[<-k6 P3,<-hk,Pw];rfl
    rw[this];exact jZ λz a=>(rp z (hm z a)).mono (aX f)
   ·cases b
  ·cases b
end
set_option maxHeartbeats 4000000
def jO(i:Nat):Stmt:=UD.main.body.getD i (.Pass ⟨0,0,0,0⟩)
structure Bt(mg:Str->Option O7):Prop where
 b_abs:mg "abs"=none
 b_all:mg "all"=none
 b_any:mg "any"=none
 b_enumerate:mg "enumerate"=none
 b_len:mg "len"=none
 b_list:mg "list"=none
 b_max:mg "max"=none
 b_min:mg "min"=none
 b_range:mg "range"=none
 b_set:mg "set"=none
 b_sorted:mg "sorted"=none
 b_tuple:mg "tuple"=none
theorem Nw:(["size","start","end","further"]:List Str).Nodup:=by decide+kernel
theorem LE:(["stand","a","b","rows","column","row"]:List Str).Nodup:=by decide+kernel
theorem Ni:(["stand","a","b","bars","heights","bar"]:List Str).Nodup:=by decide+kernel
theorem MN:(ri:List Str).Nodup:=by decide+kernel
theorem LG:(["square","stand","bars","a","b"]:List Str).Nodup:=by decide+kernel
theorem Hg:(["square","crowd","stand","a","b","end"]:List Str).Nodup:=by decide+kernel
theorem Nh:(["square","rings","crosses","ring"]:List Str).Nodup:=by decide+kernel
theorem NS:(rr:List Str).Nodup:=by decide+kernel
theorem LH:(["square","columns","rows","column","row"]:List Str).Nodup:=by decide+kernel
theorem Nk:(pf:List Str).Nodup:=by decide+kernel
theorem Lx:(pe:List Str).Nodup:=by decide+kernel
theorem Ja:(rk:List Str).Nodup:=by decide+kernel
theorem IP:(["order","half","place","number"]:List Str).Nodup:=by decide+kernel
theorem zP:(["ones","others","right","up","x","y"]:List Str).Nodup:=by decide+kernel
theorem Mp:(np:List Str).Nodup:=by decide+kernel
theorem Jf:(ms:List Str).Nodup:=by decide+kernel
theorem Mk:(n5:List Str).Nodup:=by decide+kernel
section
variable {P:Qc}{w:Qv}{K:Pk}{mg:Str->Option O7}{base:Heap}
abbrev eV:Stmt:=jO 1
abbrev gD:Stmt:=jO 2
abbrev ii:Stmt:=jO 4
abbrev jJ:Stmt:=jO 5
abbrev oI:Stmt:=jO 6
abbrev lN:Stmt:=jO 7
abbrev p9:Stmt:=jO 8
abbrev oy:Stmt:=jO 9
abbrev lS:Stmt:=jO 10
abbrev nU:Stmt:=jO 11
abbrev jx:Stmt:=jO 12
abbrev uE:Stmt:=jO 14
abbrev iq:Stmt:=jO 15
abbrev rn:Stmt:=jO 16
abbrev lQ:Stmt:=jO 21
abbrev gI:Stmt:=jO 23
abbrev ja:Stmt:=jO 25
abbrev fq:Stmt:=jO 26
abbrev oH:Stmt:=jO 28
abbrev l8:Stmt:=jO 29
abbrev gc:Stmt:=jO 30
abbrev jk:Stmt:=jO 31
abbrev nT:Stmt:=jO 32
abbrev kA:Stmt:=jO 33
abbrev Fi:Stmt:=jO 34
abbrev kf:Stmt:=jO 36
abbrev uM:Stmt:=jO 37
abbrev mo:Stmt:=jO 38
abbrev tR:Stmt:=jO 39
abbrev zA:Stmt:=jO 40
abbrev lK:Stmt:=jO 42
abbrev nY:Stmt:=jO 43
abbrev lM:Stmt:=jO 44
abbrev kG:Stmt:=jO 45
abbrev fH:Stmt:=jO 46
abbrev km:Stmt:=jO 47
abbrev ko:Stmt:=jO 48
abbrev mE:Stmt:=jO 49
theorem el:bm ["order","one","other","numbers"] re (ay eV):=by refine⟨rfl,rfl,rfl,?_,rfl,?_,?_⟩<;>decide+kernel
def ng:FS:=
 aC (f9 3 (ak di (aa (ai 0) (aj))))
 (aC (cw (gT 2 (cU (cT 3 (ai 1)) (cU (cT 3 (ai 2)) (gU)))) (pu (cx (aa (av bj (ai 0) (ai 2)) (aa (av bj (ai 0) (ai 1)) (aj))))))
 (aY (ak ig (aa (dJ 3) (aj)))))
def bC:List D->Option D:=eZ .s 4 ng
theorem nO(B:Bt mg)(F:Df K mg "order_exchanged" eV re):Cl P w K mg base 1 "order_exchanged" re (cr K .s 3 bC):=by
 refine aV (k:=0) F el (by decide) rfl λ_ b A a s H hid E c=>?_
 exact(ao (hW 3 el.nd (dC dG kQ B.b_list (aM (af 0) bn) (hv:=by kernel_rfl)))
  (ao (qf (DP.ef (cG (ae (a8 aI aZ (af 0) (af 2) (λ_ _=>rfl)) (ae (a8 aI aZ (af 0) (af 1) (λ_ _=>rfl)) al)))) (zX (n:=2) rfl (nq (jn 3 (af 1)) (nq (jn 3 (af 2)) AR))))
  (az (aO (dC dP ki B.b_tuple (aM (eE 3) bn) (hv:=by kernel_rfl))))))
theorem db:bm ["order","rounds","start","places"] ["order"] (ay gD):=by refine⟨rfl,rfl,rfl,?_,rfl,?_,?_⟩<;>decide+kernel
def rm:FS:=
 aC (f9 1 (bI (aj)))
 (aC (im (b7 (eW (aa (ak c6 (aa (ai 0) (aj))) (aj)))) (gN 2) (aC (f9 3 (bI (aa (ai 2) (aj))))
 (aC (vx (bJ (av lh (av bj (ai 0) (av bj (dJ 3) (lg (aD (.int 1))))) (ai 2))) (cj (aK 3 1 gB (b7 (aa (av bj (ai 0) (av bj (dJ 3) (lg (aD (.int 1))))) (aj))))) 16)
 (fy (bJ (av pV (ak sU (aa (dJ 3) (aj))) (ai 2))) ((λρ=>(cj (aK 1 1 gB (b7 (aa (ai 3) (aj))))) (B9 3 ρ))) (cc)))))
 (xM 1))
def gJ:List D->Option D:=eZ .n 4 rm
theorem qd(B:Bt mg)(F:Df K mg "order_rounds" gD ["order"]):Cl P w K mg base 1 "order_rounds" ["order"] (cr K .n 1 gJ):=by
 refine aV (k:=0) F db (by decide) rfl λ_ c A a s H hid E b=>?_
 exact(ao (hW 1 db.nd (cA al))
  (ao (jB Rj rfl (DIp.e (dW B.b_range (ae (ba br fJ B.b_len (aM (af 0) bn) (hv:=by kernel_rfl)) al))) (au 2 db.nd) (ao (hW 3 db.nd (cA (ae (af 2) al)))
  (ao (xS 16 Rj (bP (iA b.units) lG (a8 aI aZ (af 0) (a8 aI aZ (eE 3) (nH aw) (λ_ _=>rfl)) (λ_ _=>rfl)) (af 2) (cy _)) (az (gV (jE 3 gr dv Rs Rt (DA.gf (ae (a8 aI aZ (af 0) (a8 aI aZ (eE 3) (nH aw) (λ_ _=>rfl)) (λ_ _=>rfl)) al))))))
  (az (eG (bP (lY b.units) qj (ba (BM rfl) HX B.b_min (aM (eE 3) bn) (hv:=by kernel_rfl)) (af 2) (cy _)) (az (KT 3 (gV (jE 1 gr dv Rs Rt (DA.gf (ae (af 3) al)))))) bU)))))
  (az (u8 1))))
theorem qx:bm pp pp (ay ii):=by refine⟨rfl,rfl,rfl,?_,rfl,?_,?_⟩<;>decide+kernel
def si:FS:=
 aY (cb 1 (eW (aa (av cv (av gR (ai 2) (ai 1)) (ai 0)) (aj))) (gN 3) (cf) (av cv (av bS (ai 1) (ai 3)) (ai 0)))
def dM:List D->Option D:=eZ .n 3 si
theorem rY(B:Bt mg)(F:Df K mg "places_from" ii pp):Cl P w K mg base 1 "places_from" pp (cr K .n 3 dM):=by
 refine aV (k:=0) F qx (by decide) rfl λ_ c A a s H hid E d=>?_
 exact(az (aO (kK (N':=["size","start","end","further"]) rfl (bB (Pg rfl)) (DIp.b (dW B.b_range (ae (gH (jy (af 2) (af 1)) (af 0)) al))) (λ_ _ _ _=>(au 3 Nw)) (λ_ _ _ _=>cm) (λ_ _ _ _=>(gH (cE (af 1) (af 3)) (af 0))))))
theorem rV:bm mA mA (ay jJ):=by refine⟨rfl,rfl,rfl,?_,rfl,?_,?_⟩<;>decide+kernel
def tP:FS:=
 aY (ak (nF 3 dM) (aa (ak c6 (aa (ai 0) (aj))) (aa (ai 1) (aa (ai 2) (aj)))))
def cg:List D->Option D:=eZ .n 3 tP
theorem uw(B:Bt mg)(F:Df K mg "columns_of" jJ mA)(d:Cl P w K mg base 1 "places_from" pp (cr K .n 3 dM)):Cl P w K mg base 2 "columns_of" mA (cr K .n 3 cg):=by
 refine aV (k:=1) F rV (by decide) rfl λ_ b A a s H hid E c=>?_
 exact(az (aO (aN d (c.mono (by decide)) (ae (ba br fJ B.b_len (aM (af 0) bn) (hv:=by kernel_rfl)) (ae (af 1) (ae (af 2) al))))))
theorem yp:bm mA mA (ay oI):=by refine⟨rfl,rfl,rfl,?_,rfl,?_,?_⟩<;>decide+kernel
def CC:FS:=
 aY (ak (nF 3 dM) (aa (ak c6 (aa (ai 0) (aj))) (aa (av bj (ai 0) (ai 1)) (aa (av bj (ai 0) (ai 2)) (aj)))))
def eJ:List D->Option D:=eZ .n 3 CC
theorem BL(B:Bt mg)(F:Df K mg "rows_of" oI mA)(d:Cl P w K mg base 1 "places_from" pp (cr K .n 3 dM)):Cl P w K mg base 2 "rows_of" mA (cr K .n 3 eJ):=by
 refine aV (k:=1) F yp (by decide) rfl λ_ b A a s H hid E c=>?_
 exact(az (aO (aN d (c.mono (by decide)) (ae (ba br fJ B.b_len (aM (af 0) bn) (hv:=by kernel_rfl)) (ae (a8 aI aZ (af 0) (af 1) (λ_ _=>rfl)) (ae (a8 aI aZ (af 0) (af 2) (λ_ _=>rfl)) al))))))
theorem ic:bm ["stand","a","b","rows"] mA (ay lN):=by refine⟨rfl,rfl,rfl,?_,rfl,?_,?_⟩<;>decide+kernel
def yQ:FS:=
 aC (be 3 (ak (nF 3 eJ) (aa (ai 0) (aa (ai 1) (aa (ai 2) (aj))))))
 (aY (ak dw (aa (jG 2 (gO (ak (nF 3 cg) (aa (ai 0) (aa (ai 1) (aa (ai 2) (aj)))))) (gN 4) (cf) (gO (ai 3)) (gN 5) (cf) (cx (aa (ai 4) (aa (ai 5) (aj))))) (aj))))
def l9:List D->Option D:=eZ .n 4 yQ
theorem zn(B:Bt mg)(F:Df K mg "cells_of" lN mA)(d:Cl P w K mg base 2 "rows_of" mA (cr K .n 3 eJ))(f:Cl P w K mg base 2 "columns_of" mA (cr K .n 3 cg)):Cl P w K mg base 3 "cells_of" mA (cr K .n 3 l9):=by
 refine aV (k:=2) F ic (by decide) rfl λ_ e A a s H hid E c=>?_
 exact(ao (bf 3 ic.nd (DP.toS (aN d (c.mono (by decide)) (ae (af 0) (ae (af 1) (ae (af 2) al))))))
  (az (aO (ba g8 kL B.b_sorted (aM (iU (N':=["stand","a","b","rows","column","row"]) rfl 5 (bB (Pg rfl)) (yy (Pg rfl)) (bB (Pg rfl)) (DIp.b (fj (DP.toS (aN f (c.mono (by decide)) (ae (af 0) (ae (af 1) (ae (af 2) al))))))) (λ_ _ _ _=>(au 4 LE)) (λ_ _ _ _=>cm) (λ_ _ _ _=>(fj (af 3))) (λ_ _ _ _=>(au 5 LE)) (λ_ _ _ _=>cm) (λ_ _ _ _=>(cG (ae (af 4) (ae (af 5) al))))) bn) (hv:=by kernel_rfl)))))
theorem Bu:bm mA mA (ay p9):=by refine⟨rfl,rfl,rfl,?_,rfl,?_,?_⟩<;>decide+kernel
def DL:FS:=
 aY (ak (nF 3 bC) (aa (ai 0) (aa (ai 1) (aa (ai 2) (aj)))))
def cR:List D->Option D:=eZ .s 3 DL
theorem FL(B:Bt mg)(F:Df K mg "behind" p9 mA)(b:Cl P w K mg base 1 "order_exchanged" re (cr K .s 3 bC)):Cl P w K mg base 2 "behind" mA (cr K .s 3 cR):=by
 refine aV (k:=1) F Bu (by decide) rfl λ_ c A a s H hid E d=>?_
 exact(az (aO (aN b (d.mono (by decide)) (ae (af 0) (ae (af 1) (ae (af 2) al))))))
theorem hY:bm ["stand","a","b","bars","heights"] mA (ay oy):=by refine⟨rfl,rfl,rfl,?_,rfl,?_,?_⟩<;>decide+kernel
def Cn:FS:=
 aC (be 3 (fA (ak (nF 3 cg) (aa (ai 0) (aa (ai 1) (aa (ai 2) (aj))))) (jU (aD (.int 1))) nR))
 (aC (be 4 (fA (ak (nF 3 eJ) (aa (ai 0) (aa (ai 1) (aa (ai 2) (aj))))) (jU (aD (.int 1))) nR))
 (aY (A4 (jR (bJ (ak wy (aa (cb 1 (gO (ai 3)) (gN 5) (cf) (av (iZ false) (av bj (ai 0) (ai 5)) (ai 4))) (aj))))))))
def gp:List D->Option D:=eZ .s 5 Cn
theorem BG(B:Bt mg)(F:Df K mg "is_bare" oy mA)(f:Cl P w K mg base 2 "columns_of" mA (cr K .n 3 cg))(d:Cl P w K mg base 2 "rows_of" mA (cr K .n 3 eJ)):Cl P w K mg base 3 "is_bare" mA (cr K .s 3 gp):=by
 refine aV (k:=2) F hY (by decide) rfl λ_ e A a s H hid E c=>?_
 exact(ao (bf 3 hY.nd (DP.toS (ie (aN f (c.mono (by decide)) (ae (af 0) (ae (af 1) (ae (af 2) al)))) (c9 aw) eQ)))
  (ao (bf 4 hY.nd (DP.toS (ie (aN d (c.mono (by decide)) (ae (af 0) (ae (af 1) (ae (af 2) al)))) (c9 aw) eQ)))
  (az (aO (yZ (ba (p8 rfl) yG B.b_any (aM (kK (N':=["stand","a","b","bars","heights","bar"]) rfl (bB (Pg rfl)) (DIp.b (fj (af 3))) (λ_ _ _ _=>(au 5 Ni)) (λ_ _ _ _=>cm) (λ_ _ _ _=>(qU (mt c.units) (lI false) (a8 aI aZ (af 0) (af 5) (λ_ _=>rfl)) (af 4) (by with_unfolding_all rfl)))) bn) (hv:=by kernel_rfl)))))))
theorem f4:bm ["square","stand","a","b","rings","crosses","marked"] nA (ay lS):=by refine⟨rfl,rfl,rfl,?_,rfl,?_,?_⟩<;>decide+kernel
def yN:FS:=
 aC (cw (gT 2 (cU (gN 4) (cU (gN 5) (gU)))) (pu (ai 0)))
 (aC (be 6 (cb 2 (gO (ak (nF 3 l9) (aa (ai 1) (aa (ai 2) (aa (ai 3) (aj)))))) (gT 2 (cU (gN 7) (cU (gN 8) (gU)))) (cf) (av (iZ false) (ai 8) (cx (aa (av bj (ai 4) (ai 7)) (aa (av bj (ai 5) (ai 7)) (aj)))))))
 (aY (A4 (jR (bJ (ak wy (aa (ai 6) (aj))))))))
def ml:List D->Option D:=eZ .s 7 yN
theorem xY(B:Bt mg)(F:Df K mg "is_clear" lS nA)(e:Cl P w K mg base 3 "cells_of" mA (cr K .n 3 l9)):Cl P w K mg base 4 "is_clear" nA (cr K .s 4 ml):=by
 refine aV (k:=3) F f4 (by decide) rfl λ_ d A a s H hid E c=>?_
 exact(ao (fI (DP.ef (af 0)) (cz (n:=2) rfl (aH (au 4 f4.nd) (aH (au 5 f4.nd) ca))))
  (ao (tZ 6 (N':=ri) rfl f4.nd (qs (b6 (bB (Pg rfl)) (b6 (bB (Pg rfl)) iO))) (DIp.b (fj (DP.toS (aN e (c.mono (by decide)) (ae (af 1) (ae (af 2) (ae (af 3) al))))))) (λ_ _ _ _=>(cz (n:=2) rfl (aH (au 7 MN) (aH (au 8 MN) ca)))) (λ_ _ _ _=>cm) (λ_ _ _ _=>(qU (mt c.units) (lI false) (af 8) (cG (ae (a8 aI aZ (af 4) (af 7) (λ_ _=>rfl)) (ae (a8 aI aZ (af 5) (af 7) (λ_ _=>rfl)) al))) (by with_unfolding_all rfl))))
  (az (aO (yZ (ba (p8 rfl) yG B.b_any (aM (af 6) bn) (hv:=by kernel_rfl)))))))
theorem yX:bm nA nA (ay nU):=by refine⟨rfl,rfl,rfl,?_,rfl,?_,?_⟩<;>decide+kernel
def BA:FS:=
 aY (A4 (gS (bJ (ak (nF 3 gp) (aa (ai 1) (aa (ai 2) (aa (ai 3) (aj)))))) (bJ (ak (nF 4 ml) (aa (ai 0) (aa (ai 1) (aa (ai 2) (aa (ai 3) (aj)))))))))
def oR:List D->Option D:=eZ .s 4 BA
theorem BW(B:Bt mg)(F:Df K mg "is_step" nU nA)(d:Cl P w K mg base 3 "is_bare" mA (cr K .s 3 gp))(e:Cl P w K mg base 4 "is_clear" nA (cr K .s 4 ml)):Cl P w K mg base 5 "is_step" nA (cr K .s 4 oR):=by
 refine aV (k:=4) F yX (by decide) rfl λ_ c A a s H hid E b=>?_
 exact(az (aO (Fy (aN d (b.mono (by decide)) (ae (af 1) (ae (af 2) (ae (af 3) al)))) (D6 (aN e (b.mono (by decide)) (ae (af 0) (ae (af 1) (ae (af 2) (ae (af 3) al)))))))))
theorem hV:bm ["square","stand","bars"] nv (ay jx):=by refine⟨rfl,rfl,rfl,?_,rfl,?_,?_⟩<;>decide+kernel
def u0:FS:=
 aC (be 2 (HS (ak c6 (aa (ai 1) (aj)))))
 (aY (jG 2 (gO (ai 2)) (gN 3) (cf) (gO (ai 2)) (gN 4) (gS (bJ (av lh (ai 3) (ai 4))) (fQ (ak (nF 4 oR) (aa (ai 0) (aa (ai 1) (aa (ai 3) (aa (ai 4) (aj)))))))) (cx (aa (ai 3) (aa (ai 4) (aa (ak (nF 3 cR) (aa (ai 1) (aa (ai 3) (aa (ai 4) (aj))))) (aj)))))))
def jD:List D->Option D:=eZ .n 3 u0
theorem uC(B:Bt mg)(F:Df K mg "steps_from" jx nv)(f:Cl P w K mg base 2 "behind" mA (cr K .s 3 cR))(d:Cl P w K mg base 5 "is_step" nA (cr K .s 4 oR)):Cl P w K mg base 6 "steps_from" nv (cr K .n 2 jD):=by
 refine aV (k:=5) F hV (by decide) rfl λ_ e A a s H hid E c=>?_
 exact(ao (bf 2 hV.nd (DP.toS (lq rfl B.b_list B.b_range (ba br fJ B.b_len (aM (af 1) bn) (hv:=by kernel_rfl)))))
  (az (aO (iU (N':=["square","stand","bars","a","b"]) rfl 4 (bB (Pg rfl)) (yy (Pg rfl)) (bB (Pg rfl)) (DIp.b (fj (af 2))) (λ_ _ _ _=>(au 3 LG)) (λ_ _ _ _=>cm) (λ_ _ _ _=>(fj (af 2))) (λ_ _ _ _=>(au 4 LG)) (λ_ _ _ _=>(jC (DW.dt (vh (bP (iA c.units) lG (af 3) (af 4) (cy _)) (pH (kH (aN d (c.mono (by decide)) (ae (af 0) (ae (af 1) (ae (af 3) (ae (af 4) al))))))))))) (λ_ _ _ _=>(cG (ae (af 3) (ae (af 4) (ae (aN f (c.mono (by decide)) (ae (af 1) (ae (af 3) (ae (af 4) al)))) al)))))))))
theorem CZ:bm sL sL (ay uE):=by refine⟨rfl,rfl,rfl,?_,rfl,?_,?_⟩<;>decide+kernel
def u3:FS:=
 aY (JG 0 1)
def gZ:List D->Option D:=eZ .n 2 u3
theorem GB(B:Bt mg)(F:Df K mg "added" uE sL):Cl P w K mg base 1 "added" sL (cr K .n 2 gZ):=by
 refine aV (k:=0) F CZ (by decide) rfl λ_ b A a s H hid E c=>?_
 exact(az (aO (Ej 0 1 rfl (Hz c) B.b_sorted B.b_set)))
theorem eT:bm ["stands","odd","stand"] ["stands"] (ay iq):=by refine⟨rfl,rfl,rfl,?_,rfl,?_,?_⟩<;>decide+kernel
def h8:FS:=
 aC (ID 1)
 (aC (im (b7 (dz (ai 0))) (gN 2) (fy (CI 1 (ai 2)) (cj (vJ lF 1 (ai 2))) (cj (vJ lw 1 (ai 2)))))
 (aY (DU 1)))
def cu:List D->Option D:=eZ .n 3 h8
theorem rS(B:Bt mg)(F:Df K mg "oddly_often" iq ["stands"]):Cl P w K mg base 1 "oddly_often" ["stands"] (cr K .n 1 cu):=by
 refine aV (k:=0) F eT (by decide) rfl λ_ c A a s H hid E b=>?_
 exact(ao (Hd 1 eT.nd B.b_set)
  (ao (jB Rj rfl (DIp.e (dB (af 0))) (au 2 eT.nd) (az (eG (HM 1 (CH b) (af 2)) (az (gV (Il 1 (CH b) (af 2)))) (az (gV (HI 1 (CH b) (af 2)))))))
  (az (aO (Hf 1 rfl B.b_sorted)))))
theorem BY:bm sf sf (ay rn):=by refine⟨rfl,rfl,rfl,?_,rfl,?_,?_⟩<;>decide+kernel
def pZ:FS:=
 aY (ak (nF 1 cu) (aa (jG 4 (dz (ai 1)) (gN 2) (cf) (dz (ak (nF 2 jD) (aa (ai 0) (aa (ai 2) (aj))))) (gT 3 (cU (gN 3) (cU (gN 4) (cU (gN 5) (gU))))) (cf) (ai 5)) (aj)))
def cV:List D->Option D:=eZ .n 2 pZ
theorem FY(B:Bt mg)(F:Df K mg "border" rn sf)(f:Cl P w K mg base 1 "oddly_often" ["stands"] (cr K .n 1 cu))(e:Cl P w K mg base 6 "steps_from" nv (cr K .n 2 jD)):Cl P w K mg base 7 "border" sf (cr K .n 2 cV):=by
 refine aV (k:=6) F BY (by decide) rfl λ_ d A a s H hid E c=>?_
 exact(az (aO (aN f (c.mono (by decide)) (ae (DP.toS (iU (N':=["square","crowd","stand","a","b","end"]) rfl 3 (bB (Pg rfl)) (yy (Pg rfl)) (qs (b6 (bB (Pg rfl)) (b6 (bB (Pg rfl)) (b6 (bB (Pg rfl)) iO)))) (DIp.b (dB (af 1))) (λ_ _ _ _=>(au 2 Hg)) (λ_ _ _ _=>cm) (λ_ _ _ _=>(dB (DP.toS (aN e (c.mono (by decide)) (ae (af 0) (ae (af 2) al)))))) (λ_ _ _ _=>(cz (n:=3) rfl (aH (au 3 Hg) (aH (au 4 Hg) (aH (au 5 Hg) ca))))) (λ_ _ _ _=>cm) (λ_ _ _ _=>(af 5)))) al))))
theorem hI:bm ["square","rings","crosses"] ["square"] (ay lQ):=by refine⟨rfl,rfl,rfl,?_,rfl,?_,?_⟩<;>decide+kernel
def zq:FS:=
 aC (cw (gT 2 (cU (gN 1) (cU (gN 2) (gU)))) (pu (ai 0)))
 (aY (ak (nF 1 gJ) (aa (cb 1 (wU (ai 1)) (gN 3) (cf) (av o7 (ai 2) (ai 3))) (aj))))
def jv:List D->Option D:=eZ .n 3 zq
theorem yE(B:Bt mg)(F:Df K mg "lines_of" lQ ["square"])(d:Cl P w K mg base 1 "order_rounds" ["order"] (cr K .n 1 gJ)):Cl P w K mg base 2 "lines_of" ["square"] (cr K .n 1 jv):=by
 refine aV (k:=1) F hI (by decide) rfl λ_ e A a s H hid E c=>?_
 exact(ao (fI (DP.ef (af 0)) (cz (n:=2) rfl (aH (au 1 hI.nd) (aH (au 2 hI.nd) ca))))
  (az (aO (aN d (c.mono (by decide)) (ae (DP.toS (kK (N':=["square","rings","crosses","ring"]) rfl (bB (Pg rfl)) (DIp.b (Bl (af 1))) (λ_ _ _ _=>(au 3 Nh)) (λ_ _ _ _=>cm) (λ_ _ _ _=>(wb c.units (af 2) (af 3))))) al)))))
theorem pC:bm rb rb (ay gI):=by refine⟨rfl,rfl,rfl,?_,rfl,?_,?_⟩<;>decide+kernel
def gQ:FS:=
 aY (E6 CQ CQ (ak lE (aa (ai 1) (aa (ai 2) (aj)))) (ai 0) (ak vM (aa (ai 1) (aa (ai 2) (aj)))))
def b8:List D->Option D:=eZ .s 3 gQ
theorem p6(B:Bt mg)(F:Df K mg "lies_between" gI rb):Cl P w K mg base 1 "lies_between" rb (cr K .s 3 b8):=by
 refine aV (k:=0) F pC (by decide) rfl λ_ b A a s H hid E c=>?_
 exact(az (aO (Mn xa xa oY oY (ba (sG rfl) Bh B.b_min (aM (af 1) (aM (af 2) bn)) (hv:=by kernel_rfl)) (af 0) (ba (By rfl) GG B.b_max (aM (af 1) (aM (af 2) bn)) (hv:=by kernel_rfl)))))
theorem cs:bm ["square","c","rings","crosses","one","other","between"] oa (ay ja):=by refine⟨rfl,rfl,rfl,?_,rfl,?_,?_⟩<;>decide+kernel
def uL:FS:=
 aC (cw (gT 2 (cU (gN 2) (cU (gN 3) (gU)))) (pu (ai 0)))
 (aC (fy (jR (bJ (E6 Li Li (aD (.int 0)) (ai 1) (av gR (ak c6 (aa (ai 2) (aj))) (aD (.int 2)))))) (aY (aD (.bl false))) (cc))
 (aC (be 4 (cx (aa (av bj (ai 2) (ai 1)) (aa (av bj (ai 3) (ai 1)) (aj)))))
 (aC (be 5 (cx (aa (av bj (ai 2) (av bS (ai 1) (aD (.int 1)))) (aa (av bj (ai 3) (av bS (ai 1) (aD (.int 1)))) (aj)))))
 (aC (fy (Fu (bJ (av (iZ false) (av bj (ai 4) (aD (.int 0))) (ai 5))) (bJ (av (iZ false) (av bj (ai 4) (aD (.int 1))) (ai 5)))) (aY (aD (.bl false))) (cc))
 (aC (be 6 (cb 1 (dz (ai 5)) (gN 7) (fQ (ak (nF 3 b8) (aa (ai 7) (aa (av bj (ai 4) (aD (.int 0))) (aa (av bj (ai 4) (aD (.int 1))) (aj)))))) (ai 7)))
 (aY (av lh (ak c6 (aa (ai 6) (aj))) (aD (.int 1)))))))))
def gl:List D->Option D:=eZ .s 7 uL
theorem tT(B:Bt mg)(F:Df K mg "may_change" ja oa)(e:Cl P w K mg base 1 "lies_between" rb (cr K .s 3 b8)):Cl P w K mg base 2 "may_change" oa (cr K .s 2 gl):=by
 refine aV (k:=1) F cs (by decide) rfl λ_ d A c s H hid E a=>?_
 exact(ao (fI (DP.ef (af 0)) (cz (n:=2) rfl (aH (au 2 cs.nd) (aH (au 3 cs.nd) ca))))
  (ao (eG (yA (Mi Iw Iw oY oY aw (af 1) (jy (ba br fJ B.b_len (aM (af 2) bn) (hv:=by kernel_rfl)) aw))) (az (aO lJ)) bU)
  (ao (bf 4 cs.nd (cG (ae (a8 aI aZ (af 2) (af 1) (λ_ _=>rfl)) (ae (a8 aI aZ (af 3) (af 1) (λ_ _=>rfl)) al))))
  (ao (bf 5 cs.nd (cG (ae (a8 aI aZ (af 2) (cE (af 1) aw) (λ_ _=>rfl)) (ae (a8 aI aZ (af 3) (cE (af 1) aw) (λ_ _=>rfl)) al))))
  (ao (eG (DW.dt (IL (bP (mt a.units) (lI false) (a8 aI aZ (af 4) aw (λ_ _=>rfl)) (af 5) (by with_unfolding_all rfl)) (D1 (bP (mt a.units) (lI false) (a8 aI aZ (af 4) aw (λ_ _=>rfl)) (af 5) (by with_unfolding_all rfl))))) (az (aO lJ)) bU)
  (ao (tZ 6 (N':=rr) rfl cs.nd (bB (Pg rfl)) (DIp.b (dB (af 5))) (λ_ _ _ _=>(au 7 NS)) (λ_ _ _ _=>(jC (kH (aN e (a.mono (by decide)) (ae (af 7) (ae (a8 aI aZ (af 4) aw (λ_ _=>rfl)) (ae (a8 aI aZ (af 4) aw (λ_ _=>rfl)) al))))))) (λ_ _ _ _=>(af 7)))
  (az (aO (qU (iA a.units) lG (ba br fJ B.b_len (aM (af 6) bn) (hv:=by kernel_rfl)) aw (cy _))))))))))
theorem df:bm ["square","c","rings","crosses"] oa (ay fq):=by refine⟨rfl,rfl,rfl,?_,rfl,?_,?_⟩<;>decide+kernel
def eS:FS:=
 aC (fy (jR (fQ (ak (nF 2 gl) (aa (ai 0) (aa (ai 1) (aj)))))) (Ef) (cc))
 (aC (cw (gT 2 (cU (gN 2) (cU (gN 3) (gU)))) (pu (ai 0)))
 (aY (cx (aa (ak (nF 3 bC) (aa (ai 2) (aa (ai 1) (aa (av bS (ai 1) (aD (.int 1))) (aj))))) (aa (ak (nF 3 bC) (aa (ai 3) (aa (ai 1) (aa (av bS (ai 1) (aD (.int 1))) (aj))))) (aj))))))
def bv:List D->Option D:=eZ .s 4 eS
theorem nE(B:Bt mg)(F:Df K mg "columns_changed" fq oa)(e:Cl P w K mg base 2 "may_change" oa (cr K .s 2 gl))(c:Cl P w K mg base 1 "order_exchanged" re (cr K .s 3 bC)):Cl P w K mg base 3 "columns_changed" oa (cr K .s 2 bv):=by
 refine aV (k:=2) F df (by decide) rfl λ_ d A a s H hid E b=>?_
 exact(ao (eG (yA (kH (aN e (b.mono (by decide)) (ae (af 0) (ae (af 1) al))))) (az Dj) bU)
  (ao (fI (DP.ef (af 0)) (cz (n:=2) rfl (aH (au 2 df.nd) (aH (au 3 df.nd) ca))))
  (az (aO (cG (ae (aN c (b.mono (by decide)) (ae (af 2) (ae (af 1) (ae (cE (af 1) aw) al)))) (ae (aN c (b.mono (by decide)) (ae (af 3) (ae (af 1) (ae (cE (af 1) aw) al)))) al)))))))
theorem ey:bm ["square","c","rings","crosses","low","high"] oa (ay oH):=by refine⟨rfl,rfl,rfl,?_,rfl,?_,?_⟩<;>decide+kernel
def nV:FS:=
 aC (cw (gT 2 (cU (gN 2) (cU (gN 3) (gU)))) (pu (ai 0)))
 (aC (cw (gL 2 (cU (gN 4) (cU (gN 5) (gU)))) (pu (ak dw (aa (cx (aa (av bj (ai 2) (ai 1)) (aa (av bj (ai 3) (ai 1)) (aj)))) (aj)))))
 (aY (Iv (fQ (ak (nF 3 b8) (aa (av bj (ai 2) (av bS (ai 1) (aD (.int 1)))) (aa (ai 4) (aa (ai 5) (aj)))))) (ai 4) (ai 5))))
def iR:List D->Option D:=eZ .s 6 nV
theorem Ci(B:Bt mg)(F:Df K mg "turn_of" oH oa)(d:Cl P w K mg base 1 "lies_between" rb (cr K .s 3 b8)):Cl P w K mg base 2 "turn_of" oa (cr K .s 2 iR):=by
 refine aV (k:=1) F ey (by decide) rfl λ_ b A a s H hid E c=>?_
 exact(ao (fI (DP.ef (af 0)) (cz (n:=2) rfl (aH (au 2 ey.nd) (aH (au 3 ey.nd) ca))))
  (ao (fI (DE.toS (DP.ef (ba g8 kL B.b_sorted (aM (cG (ae (a8 aI aZ (af 2) (af 1) (λ_ _=>rfl)) (ae (a8 aI aZ (af 3) (af 1) (λ_ _=>rfl)) al))) bn) (hv:=by kernel_rfl)))) (AH (n:=2) rfl (aH (au 4 ey.nd) (aH (au 5 ey.nd) ca))))
  (az (aO (Lz (by decide) (kH (aN d (c.mono (by decide)) (ae (a8 aI aZ (af 2) (cE (af 1) aw) (λ_ _=>rfl)) (ae (af 4) (ae (af 5) al))))) (af 4) (af 5))))))
theorem hH:bm ["square","column","row","rings","crosses"] px (ay l8):=by refine⟨rfl,rfl,rfl,?_,rfl,?_,?_⟩<;>decide+kernel
def lX:FS:=
 aC (cw (gT 2 (cU (gN 3) (cU (gN 4) (gU)))) (pu (ai 0)))
 (aY (av (iZ false) (ai 2) (cx (aa (av bj (ai 3) (ai 1)) (aa (av bj (ai 4) (ai 1)) (aj))))))
def cN:List D->Option D:=eZ .s 5 lX
theorem zB(B:Bt mg)(F:Df K mg "has_mark" l8 px):Cl P w K mg base 1 "has_mark" px (cr K .s 3 cN):=by
 refine aV (k:=0) F hH (by decide) rfl λ_ b A a s H hid E c=>?_
 exact(ao (fI (DP.ef (af 0)) (cz (n:=2) rfl (aH (au 3 hH.nd) (aH (au 4 hH.nd) ca))))
  (az (aO (qU (mt c.units) (lI false) (af 2) (cG (ae (a8 aI aZ (af 3) (af 1) (λ_ _=>rfl)) (ae (a8 aI aZ (af 4) (af 1) (λ_ _=>rfl)) al))) (by with_unfolding_all rfl)))))
theorem oE:bm po po (ay gc):=by refine⟨rfl,rfl,rfl,?_,rfl,?_,?_⟩<;>decide+kernel
def fY:FS:=
 aY (A4 (jR (bJ (ak wy (aa (jG 2 (dz (ai 1)) (gN 3) (cf) (dz (ai 2)) (gN 4) (cf) (ak (nF 3 cN) (aa (ai 0) (aa (ai 3) (aa (ai 4) (aj)))))) (aj))))))
def cW:List D->Option D:=eZ .s 3 fY
theorem pi(B:Bt mg)(F:Df K mg "columns_clear" gc po)(c:Cl P w K mg base 1 "has_mark" px (cr K .s 3 cN)):Cl P w K mg base 2 "columns_clear" po (cr K .s 3 cW):=by
 refine aV (k:=1) F oE (by decide) rfl λ_ d A a s H hid E e=>?_
 exact(az (aO (yZ (ba (p8 rfl) yG B.b_any (aM (iU (N':=["square","columns","rows","column","row"]) rfl 4 (bB (Pg rfl)) (yy (Pg rfl)) (bB (Pg rfl)) (DIp.b (dB (af 1))) (λ_ _ _ _=>(au 3 LH)) (λ_ _ _ _=>cm) (λ_ _ _ _=>(dB (af 2))) (λ_ _ _ _=>(au 4 LH)) (λ_ _ _ _=>cm) (λ_ _ _ _=>(aN c (e.mono (by decide)) (ae (af 0) (ae (af 3) (ae (af 4) al)))))) bn) (hv:=by kernel_rfl)))))
theorem cp:bm ["column","rows","bend","sides","turns","at","row"] ry (ay jk):=by refine⟨rfl,rfl,rfl,?_,rfl,?_,?_⟩<;>decide+kernel
def jh:FS:=
 aC (cw (gT 2 (cU (gN 3) (cU (gN 4) (gU)))) (pu (ai 2)))
 (aC (be 5 (aD (.int 0)))
 (aC (im (b7 (dz (ai 1))) (gN 6) (aC (fy (fQ (ak (nF 3 cN) (aa (av bj (ai 3) (ai 5)) (aa (ai 0) (aa (ai 6) (aj)))))) (aY (aD (.bl false))) (cc))
 (fy (bJ (av (iZ false) (ai 6) (ai 4))) (Ee bS 5 (aD (.int 1))) (cc))))
 (aY (aD (.bl true)))))
def fw:List D->Option D:=eZ .s 7 jh
theorem ur(B:Bt mg)(F:Df K mg "bend_clear" jk ry)(c:Cl P w K mg base 1 "has_mark" px (cr K .s 3 cN)):Cl P w K mg base 2 "bend_clear" ry (cr K .s 3 fw):=by
 refine aV (k:=1) F cp (by decide) rfl λ_ d A a s H hid E b=>?_
 exact(ao (fI (DP.ef (af 2)) (cz (n:=2) rfl (aH (au 3 cp.nd) (aH (au 4 cp.nd) ca))))
  (ao (bf 5 cp.nd aw)
  (ao (jB Rj rfl (DIp.e (dB (af 1))) (au 6 cp.nd) (ao (eG (kH (aN c (b.mono (by decide)) (ae (a8 aI aZ (af 3) (af 5) (λ_ _=>rfl)) (ae (af 0) (ae (af 6) al))))) (az (aO lJ)) bU)
  (az (eG (bP (mt b.units) (lI false) (af 6) (af 4) (by with_unfolding_all rfl)) (az (B7 5 cp.nd aw Ku)) bU))))
  (az (aO lJ)))))
theorem en:bm ["square","stand","a","b","column","bend","sides","turns","rows","straight"] oi (ay nT):=by refine⟨rfl,rfl,rfl,?_,rfl,?_,?_⟩<;>decide+kernel
def n9:FS:=
 aC (cw (gT 2 (cU (gN 6) (cU (gN 7) (gU)))) (pu (ai 5)))
 (aC (be 8 (ak (nF 3 eJ) (aa (ai 1) (aa (ai 2) (aa (ai 3) (aj))))))
 (aC (fy (Fu (bJ (av lh (cb 1 (dz (ai 8)) (gN 10) (bJ (av (iZ false) (ai 10) (ai 7))) (ai 10)) (ai 7))) (jR (fQ (ak (nF 3 gp) (aa (ai 1) (aa (ai 2) (aa (ai 3) (aj)))))))) (aY (aD (.bl false))) (cc))
 (aC (be 9 (cb 1 (dz (ak (nF 3 cg) (aa (ai 1) (aa (ai 2) (aa (ai 3) (aj)))))) (gN 10) (bJ (av lh (ai 10) (ai 4))) (ai 10)))
 (aY (A4 (gS (bJ (ak (nF 3 cW) (aa (ai 0) (aa (ai 9) (aa (ai 8) (aj)))))) (bJ (ak (nF 3 fw) (aa (ai 4) (aa (ai 8) (aa (ai 5) (aj))))))))))))
def cD:List D->Option D:=eZ .s 10 n9
theorem Cq(B:Bt mg)(F:Df K mg "is_bent" nT oi)(e:Cl P w K mg base 2 "rows_of" mA (cr K .n 3 eJ))(d:Cl P w K mg base 2 "columns_clear" po (cr K .s 3 cW))(h:Cl P w K mg base 2 "bend_clear" ry (cr K .s 3 fw))(f:Cl P w K mg base 3 "is_bare" mA (cr K .s 3 gp))(g:Cl P w K mg base 2 "columns_of" mA (cr K .n 3 cg)):Cl P w K mg base 4 "is_bent" oi (cr K .s 6 cD):=by
 refine aV (k:=3) F en (by decide) rfl λ_ i A c s H hid E a=>?_
 exact(ao (fI (DP.ef (af 5)) (cz (n:=2) rfl (aH (au 6 en.nd) (aH (au 7 en.nd) ca))))
  (ao (bf 8 en.nd (DP.toS (aN e (a.mono (by decide)) (ae (af 1) (ae (af 2) (ae (af 3) al))))))
  (ao (eG (DW.dt (IL (bP (iA a.units) lG (kK (N':=pf) rfl (bB (Pg rfl)) (DIp.b (dB (af 8))) (λ_ _ _ _=>(au 10 Nk)) (λ_ _ _ _=>(jC (bP (mt a.units) (lI false) (af 10) (af 7) (by with_unfolding_all rfl)))) (λ_ _ _ _=>(af 10))) (af 7) (cy _)) (D1 (yA (kH (aN f (a.mono (by decide)) (ae (af 1) (ae (af 2) (ae (af 3) al))))))))) (az (aO lJ)) bU)
  (ao (tZ 9 (N':=pe) rfl en.nd (bB (Pg rfl)) (DIp.b (dB (DP.toS (aN g (a.mono (by decide)) (ae (af 1) (ae (af 2) (ae (af 3) al))))))) (λ_ _ _ _=>(au 10 Lx)) (λ_ _ _ _=>(jC (bP (iA a.units) lG (af 10) (af 4) (cy _)))) (λ_ _ _ _=>(af 10)))
  (az (aO (Fy (aN d (a.mono (by decide)) (ae (af 0) (ae (af 9) (ae (af 8) al)))) (D6 (aN h (a.mono (by decide)) (ae (af 4) (ae (af 8) (ae (af 5) al))))))))))))
theorem ea:bm ["square","c","stand","right","left","i","ends","j"] pa (ay kA):=by refine⟨rfl,rfl,rfl,?_,rfl,?_,?_⟩<;>decide+kernel
def kC:FS:=
 aC (be 5 (av bS (ai 1) (aD (.int 1))))
 (aC (f9 6 (bI (aj)))
 (aC (im (b7 (eW (aa (ak c6 (aa (ai 2) (aj))) (aj)))) (gN 7) (aC (fy (gS (bJ (av lh (ai 7) (ai 5))) (fQ (ak (nF 6 cD) (aa (ai 0) (aa (ai 2) (aa (ai 5) (aa (ai 7) (aa (ai 5) (aa (ai 3) (aj)))))))))) (cj (aK 6 1 gB (b7 (aa (ak (nF 3 cR) (aa (ai 2) (aa (ai 5) (aa (ai 7) (aj))))) (aj))))) (cc))
 (fy (gS (bJ (av lh (ai 7) (ai 5))) (fQ (ak (nF 6 cD) (aa (ai 0) (aa (ai 2) (aa (ai 7) (aa (ai 5) (aa (ai 1) (aa (ai 4) (aj)))))))))) (cj (aK 6 1 gB (b7 (aa (ak (nF 3 cR) (aa (ai 2) (aa (ai 7) (aa (ai 5) (aj))))) (aj))))) (cc))))
 (xM 6)))
def eO:List D->Option D:=eZ .n 8 kC
theorem xb(B:Bt mg)(F:Df K mg "ends_from" kA pa)(c:Cl P w K mg base 4 "is_bent" oi (cr K .s 6 cD))(d:Cl P w K mg base 2 "behind" mA (cr K .s 3 cR)):Cl P w K mg base 5 "ends_from" pa (cr K .n 5 eO):=by
 refine aV (k:=4) F ea (by decide) rfl λ_ f A b s H hid E a=>?_
 exact(ao (bf 5 ea.nd (cE (af 1) aw))
  (ao (hW 6 ea.nd (cA al))
  (ao (jB Rj rfl (DIp.e (dW B.b_range (ae (ba br fJ B.b_len (aM (af 2) bn) (hv:=by kernel_rfl)) al))) (au 7 ea.nd) (ao (eG (DW.dt (vh (bP (iA a.units) lG (af 7) (af 5) (cy _)) (pH (kH (aN c (a.mono (by decide)) (ae (af 0) (ae (af 2) (ae (af 5) (ae (af 7) (ae (af 5) (ae (af 3) al))))))))))) (az (gV (jE 6 gr dv Rs Rt (DA.gf (ae (aN d (a.mono (by decide)) (ae (af 2) (ae (af 5) (ae (af 7) al)))) al))))) bU)
  (az (eG (DW.dt (vh (bP (iA a.units) lG (af 7) (af 5) (cy _)) (pH (kH (aN c (a.mono (by decide)) (ae (af 0) (ae (af 2) (ae (af 7) (ae (af 5) (ae (af 1) (ae (af 4) al))))))))))) (az (gV (jE 6 gr dv Rs Rt (DA.gf (ae (aN d (a.mono (by decide)) (ae (af 2) (ae (af 7) (ae (af 5) al)))) al))))) bU))))
  (az (u8 6)))))
theorem i3:bm ["square","c","crowd","other","turns","right","left"] r6 (ay Fi):=by refine⟨rfl,rfl,rfl,?_,rfl,?_,?_⟩<;>decide+kernel
def FR:FS:=
 aC (be 3 (ak (nF 2 bv) (aa (ai 0) (aa (ai 1) (aj)))))
 (aC (be 4 (bI (aa (ak (nF 2 iR) (aa (ai 0) (aa (ai 1) (aj)))) (aj))))
 (aC (cw (gT 2 (cU (gN 5) (cU (gN 6) (gU)))) (pu (cx (aa (cx (aa (bI (aa (ai 0) (aa (ai 3) (aj)))) (aa (ai 4) (aj)))) (aa (cx (aa (bI (aa (ai 3) (aa (ai 0) (aj)))) (aa (ai 4) (aj)))) (aj))))))
 (aY (ak (nF 1 cu) (aa (jG 2 (dz (ai 2)) (gN 7) (cf) (dz (ak (nF 5 eO) (aa (ai 0) (aa (ai 1) (aa (ai 7) (aa (ai 5) (aa (ai 6) (aj)))))))) (gN 8) (cf) (ai 8)) (aj))))))
def eF:List D->Option D:=eZ .n 7 FR
theorem Mj(B:Bt mg)(F:Df K mg "led" Fi r6)(d:Cl P w K mg base 3 "columns_changed" oa (cr K .s 2 bv))(g:Cl P w K mg base 1 "oddly_often" ["stands"] (cr K .n 1 cu))(e:Cl P w K mg base 2 "turn_of" oa (cr K .s 2 iR))(h:Cl P w K mg base 5 "ends_from" pa (cr K .n 5 eO)):Cl P w K mg base 6 "led" r6 (cr K .n 3 eF):=by
 refine aV (k:=5) F i3 (by decide) rfl λ_ f A c s H hid E a=>?_
 exact(QSs.to (qJ (QS.of (bf 3 i3.nd (aN d (a.mono (by decide)) (ae (af 0) (ae (af 1) al)))))
  (qJ (QS.of (bf 4 i3.nd (DP.toS (cA (ae (aN e (a.mono (by decide)) (ae (af 0) (ae (af 1) al))) al)))))
  (qJ (QS.of (fI (DP.ef (cG (ae (cG (ae (DP.toS (cA (ae (af 0) (ae (af 3) al)))) (ae (af 4) al))) (ae (cG (ae (DP.toS (cA (ae (af 3) (ae (af 0) al)))) (ae (af 4) al))) al zE) zE))) (cz (n:=2) rfl (aH (au 5 i3.nd) (aH (au 6 i3.nd) ca)))))
  (HU (QS.of (aO (aN g (a.mono (by decide)) (ae (DP.toS (iU (N':=rk) rfl 8 (bB (Pg rfl)) (yy (Pg rfl)) (bB (Pg rfl)) (DIp.b (dB (af 2))) (λ_ _ _ _=>(au 7 Ja)) (λ_ _ _ _=>cm) (λ_ _ _ _=>(dB (DP.toS (aN h (a.mono (by decide)) (ae (af 0) (ae (af 1) (ae (af 7) (ae (af 5) (ae (af 6) al))))))))) (λ_ _ _ _=>(au 8 Ja)) (λ_ _ _ _=>cm) (λ_ _ _ _=>(af 8)))) al)))))))))
theorem tV:bm sE sE (ay kf):=by refine⟨rfl,rfl,rfl,?_,rfl,?_,?_⟩<;>decide+kernel
def kr:FS:=
 aY (cb 2 (Jv (ai 0)) (gT 2 (cU (gN 2) (cU (gN 3) (gU)))) (cf) (cx (aa (av bS (av eC (aD (.int 2)) (ai 2)) (ai 1)) (aa (av bS (av eC (aD (.int 2)) (ai 3)) (ai 1)) (aj)))))
def fU:List D->Option D:=eZ .n 2 kr
theorem wG(B:Bt mg)(F:Df K mg "points_of" kf sE):Cl P w K mg base 1 "points_of" sE (cr K .n 2 fU):=by
 refine aV (k:=0) F tV (by decide) rfl λ_ c A a s H hid E d=>?_
 exact(az (aO (kK (N':=["order","half","place","number"]) rfl (qs (b6 (bB (Pg rfl)) (b6 (bB (Pg rfl)) iO))) (DIp.b (Fh (af 0) B.b_enumerate)) (λ_ _ _ _=>(cz (n:=2) rfl (aH (au 2 IP) (aH (au 3 IP) ca)))) (λ_ _ _ _=>cm) (λ_ _ _ _=>(cG (ae (cE (kq aw (af 2)) (af 1)) (ae (cE (kq aw (af 3)) (af 1)) al)))))))
theorem CW:bm so so (ay uM):=by refine⟨rfl,rfl,rfl,?_,rfl,?_,?_⟩<;>decide+kernel
def uQ:FS:=
 aY (ak c6 (aa (jG 4 (gO (ai 0)) (gT 2 (cU (gN 2) (cU (gN 3) (gU)))) (cf) (gO (ai 1)) (gT 2 (cU (gN 4) (cU (gN 5) (gU)))) (gS (bJ (av CQ (ai 2) (ai 4))) (bJ (av CQ (ai 3) (ai 5)))) (aD (.bl true))) (aj)))
def gW:List D->Option D:=eZ .s 2 uQ
theorem GN(B:Bt mg)(F:Df K mg "pairs" uM so):Cl P w K mg base 1 "pairs" so (cr K .s 2 gW):=by
 refine aV (k:=0) F CW (by decide) rfl λ_ c A a s H hid E d=>?_
 exact(az (aO (ba br fJ B.b_len (aM (iU (N':=["ones","others","right","up","x","y"]) rfl 4 (qs (b6 (bB (Pg rfl)) (b6 (bB (Pg rfl)) iO))) (Na (xP (yy (Pg rfl)) (xP (yy (Pg rfl)) Gi))) (qs (b6 (bB (Pg rfl)) (b6 (bB (Pg rfl)) iO))) (DIp.b (fj (af 0))) (λ_ _ _ _=>(cz (n:=2) rfl (aH (au 2 zP) (aH (au 3 zP) ca)))) (λ_ _ _ _=>cm) (λ_ _ _ _=>(fj (af 1))) (λ_ _ _ _=>(cz (n:=2) rfl (aH (au 4 zP) (aH (au 5 zP) ca)))) (λ_ _ _ _=>(jC (DW.dt (vh (bP xa oY (af 2) (af 4) (cy _)) (pH (bP xa oY (af 3) (af 5) (cy _))))))) (λ_ _ _ _=>lJ)) bn) (hv:=by kernel_rfl))))
theorem hU:bm ["marks","stand","rooks","points"] sx (ay mo):=by refine⟨rfl,rfl,rfl,?_,rfl,?_,?_⟩<;>decide+kernel
def l6:FS:=
 aC (be 2 (ak (nF 2 fU) (aa (ai 1) (aa (aD (.int 0)) (aj)))))
 (aC (be 3 (ak (nF 2 fU) (aa (ai 0) (aa (aD (.int 1)) (aj)))))
 (aY (av bS (av bS (av gR (av gR (ak (nF 2 gW) (aa (ai 2) (aa (ai 2) (aj)))) (ak (nF 2 gW) (aa (ai 2) (aa (ai 3) (aj))))) (ak (nF 2 gW) (aa (ai 3) (aa (ai 2) (aj))))) (ak (nF 2 gW) (aa (ai 3) (aa (ai 3) (aj))))) (aD (.int 1)))))
def eA:List D->Option D:=eZ .s 4 l6
theorem xX(B:Bt mg)(F:Df K mg "grade_by" mo sx)(d:Cl P w K mg base 1 "points_of" sE (cr K .n 2 fU))(b:Cl P w K mg base 1 "pairs" so (cr K .s 2 gW)):Cl P w K mg base 2 "grade_by" sx (cr K .s 2 eA):=by
 refine aV (k:=1) F hU (by decide) rfl λ_ e A c s H hid E a=>?_
 exact(ao (bf 2 hU.nd (DP.toS (aN d (a.mono (by decide)) (ae (af 1) (ae aw al)))))
  (ao (bf 3 hU.nd (DP.toS (aN d (a.mono (by decide)) (ae (af 0) (ae aw al)))))
  (az (aO (cE (cE (jy (jy (aN b (a.mono (by decide)) (ae (af 2) (ae (af 2) al))) (aN b (a.mono (by decide)) (ae (af 2) (ae (af 3) al)))) (aN b (a.mono (by decide)) (ae (af 3) (ae (af 2) al)))) (aN b (a.mono (by decide)) (ae (af 3) (ae (af 3) al)))) aw)))))
theorem Da:bm nv nv (ay tR):=by refine⟨rfl,rfl,rfl,?_,rfl,?_,?_⟩<;>decide+kernel
def tY:FS:=
 aY (ak (nF 2 eA) (aa (av bj (ai 0) (aD (.int 0))) (aa (ai 1) (aj))))
def gk:List D->Option D:=eZ .s 2 tY
theorem HP(B:Bt mg)(F:Df K mg "grade" tR nv)(d:Cl P w K mg base 2 "grade_by" sx (cr K .s 2 eA)):Cl P w K mg base 3 "grade" nv (cr K .s 2 gk):=by
 refine aV (k:=2) F Da (by decide) rfl λ_ b A a s H hid E c=>?_
 exact(az (aO (aN d (c.mono (by decide)) (ae (a8 aI aZ (af 0) aw (λ_ _=>rfl)) (ae (af 1) al)))))
theorem ip:bm ["square","stand","rings","crosses","unlike"] nv (ay zA):=by refine⟨rfl,rfl,rfl,?_,rfl,?_,?_⟩<;>decide+kernel
def y8:FS:=
 aC (cw (gT 2 (cU (gN 2) (cU (gN 3) (gU)))) (pu (ai 0)))
 (aC (be 4 (av gR (ak (nF 2 eA) (aa (ai 2) (aa (ai 1) (aj)))) (ak (nF 2 eA) (aa (ai 3) (aa (ai 1) (aj))))))
 (aY (av bS (av gR (ai 4) (ak c6 (aa (ai 2) (aj)))) (ak c6 (aa (ak (nF 1 jv) (aa (ai 0) (aj))) (aj))))))
def jp:List D->Option D:=eZ .s 5 y8
theorem Kv(B:Bt mg)(F:Df K mg "lean" zA nv)(c:Cl P w K mg base 2 "grade_by" sx (cr K .s 2 eA))(e:Cl P w K mg base 2 "lines_of" ["square"] (cr K .n 1 jv)):Cl P w K mg base 3 "lean" nv (cr K .s 2 jp):=by
 refine aV (k:=2) F ip (by decide) rfl λ_ d A a s H hid E b=>?_
 exact(ao (fI (DP.ef (af 0)) (cz (n:=2) rfl (aH (au 2 ip.nd) (aH (au 3 ip.nd) ca))))
  (ao (bf 4 ip.nd (jy (aN c (b.mono (by decide)) (ae (af 2) (ae (af 1) al))) (aN c (b.mono (by decide)) (ae (af 3) (ae (af 1) al)))))
  (az (aO (cE (jy (af 4) (ba br fJ B.b_len (aM (af 2) bn) (hv:=by kernel_rfl))) (ba br fJ B.b_len (aM (aN e (b.mono (by decide)) (ae (af 0) al)) bn) (hv:=by kernel_rfl)))))))
theorem wx:bm pz pz (ay lK):=by refine⟨rfl,rfl,rfl,?_,rfl,?_,?_⟩<;>decide+kernel
def zy:FS:=
 aC (fy (bJ (av CQ (ai 1) (ak c6 (aa (ai 0) (aj))))) (aY (av bj (ai 0) (ai 1))) (cc))
 (aY (aD (.int 0)))
def mj:List D->Option D:=eZ .s 2 zy
theorem yj(B:Bt mg)(F:Df K mg "_law_cell" lK pz):Cl P w K mg base 1 "_law_cell" pz (cr K .s 2 mj):=by
 refine aV (k:=0) F wx (by decide) rfl λ_ b A a s H hid E c=>?_
 exact(ao (eG (bP xa oY (af 1) (ba br fJ B.b_len (aM (af 0) bn) (hv:=by kernel_rfl)) (cy _)) (az (aO (a8 aI aZ (af 0) (af 1) (λ_ _=>rfl)))) bU)
  (az (aO aw)))
theorem em:bm ["_law_script","_law_at","_law_cell_here","_law_mix","_law_k"] ro (ay nY):=by refine⟨rfl,rfl,rfl,?_,rfl,?_,?_⟩<;>decide+kernel
def B6:FS:=
 aC (be 2 (av cv (ak wY (aa (ak (nF 2 mj) (aa (ai 0) (aa (ai 1) (aj)))) (aj))) (av eC (av eC (av fm (aD (.int 10)) (aD (.int 60))) (av fm (aD (.int 10)) (aD (.int 60)))) (av fm (aD (.int 10)) (aD (.int 60))))))
 (aC (fy (bJ (av M5 (ai 2) (av fm (aD (.int 10)) (aD (.int 18))))) (aY (bI (aa (ai 2) (aa (aD (.int 0)) (aj))))) (cc))
 (aC (be 3 (av cv (av bS (av bS (ai 2) (av eC (aD (.int 7919)) (ai 1))) (aD (.int 17))) (aD (.int 2147483647))))
 (aC (im (b7 (eW (aa (ak lE (aa (ak c6 (aa (ai 0) (aj))) (aa (aD (.int 9)) (aj)))) (aj)))) (gN 4) (be 3 (av cv (av bS (av bS (av fm (ai 3) (aD (.int 5))) (av cv (av bj (ai 0) (ai 4)) (aD (.int 2147483629)))) (av eC (aD (.int 31)) (ai 4))) (aD (.int 2147483647)))))
 (aY (bI (aa (ai 3) (aa (aD (.int 1)) (aj))))))))
def kX:List D->Option D:=eZ .n 5 B6
theorem Ck(B:Bt mg)(F:Df K mg "_law_bag" nY ro)(d:Cl P w K mg base 1 "_law_cell" pz (cr K .s 2 mj)):Cl P w K mg base 2 "_law_bag" ro (cr K .n 2 kX):=by
 refine aV (k:=1) F em (by decide) rfl λ_ b A a s H hid E c=>?_
 exact(ao (bf 2 em.nd (gH (ba EX Ki B.b_abs (aM (aN d (c.mono (by decide)) (ae (af 0) (ae (af 1) al))) bn) (hv:=by kernel_rfl)) (kq (kq (nZ aw aw) (nZ aw aw)) (nZ aw aw))))
  (ao (eG (bP Lp oY (af 2) (nZ aw aw) (cy _)) (az (aO (cA (ae (af 2) (ae aw al))))) bU)
  (ao (bf 3 em.nd (gH (cE (cE (af 2) (kq aw (af 1))) aw) aw))
  (ao (jB Rj rfl (DIp.e (dW B.b_range (ae (ba (sG rfl) Bh B.b_min (aM (ba br fJ B.b_len (aM (af 0) bn) (hv:=by kernel_rfl)) (aM aw bn)) (hv:=by kernel_rfl)) al))) (au 4 em.nd) (az (bf 3 em.nd (gH (cE (cE (nZ (af 3) aw) (gH (a8 aI aZ (af 0) (af 4) (λ_ _=>rfl)) aw)) (kq aw (af 4))) aw))))
  (az (aO (cA (ae (af 3) (ae aw al)))))))))
theorem ij:bm ["_law_bag_here","_law_many","_law_digit"] n7 (ay lM):=by refine⟨rfl,rfl,rfl,?_,rfl,?_,?_⟩<;>decide+kernel
def zm:FS:=
 aC (fy (bJ (av pV (av bj (dJ 0) (aD (.int 1))) (aD (.int 0)))) (aC (be 2 (av cv (av bj (dJ 0) (aD (.int 0))) (ai 1)))
 (aC (cw (cT 0 (aD (.int 0))) (pu (av mM (av bj (dJ 0) (aD (.int 0))) (ai 1))))
 (aY (ai 2)))) (cc))
 (aC (cw (cT 0 (aD (.int 0))) (pu (av cv (av bS (av bS (av fm (av bj (dJ 0) (aD (.int 0))) (aD (.int 5))) (av eC (aD (.int 48271)) (av bj (dJ 0) (aD (.int 1))))) (aD (.int 11))) (aD (.int 2147483647)))))
 (aC (cw (cT 0 (aD (.int 1))) (pu (av bS (av bj (dJ 0) (aD (.int 1))) (aD (.int 1)))))
 (aY (av cv (av mM (av cv (av eC (av bj (dJ 0) (aD (.int 0))) (aD (.int 69621))) (aD (.int 2147483629))) (aD (.int 8))) (ai 1)))))
def aQ:List D->List D->Option (D×List D):=zf .s 3 zm
theorem zh(B:Bt mg)(F:Df K mg "_law_take" lM n7):Cl P w K mg base 1 "_law_take" n7 (vt K .s 1 aQ):=by
 refine ve (k:=0) F ij (by decide) rfl λ_ c A b s H hid a E d=>?_
 exact(ao (eG (bP (lY d.units) qj (a8 aI aZ (eE 0) aw (λ_ _=>rfl)) aw (cy _)) (ao (bf 2 ij.nd (gH (a8 aI aZ (eE 0) aw (λ_ _=>rfl)) (af 1)))
  (ao (qf (DP.ef (zU (a8 aI aZ (eE 0) aw (λ_ _=>rfl)) (af 1))) (jn 0 aw))
  (az (aO (af 2))))) bU)
  (ao (qf (DP.ef (gH (cE (cE (nZ (a8 aI aZ (eE 0) aw (λ_ _=>rfl)) aw) (kq aw (a8 aI aZ (eE 0) aw (λ_ _=>rfl)))) aw) aw)) (jn 0 aw))
  (ao (qf (DP.ef (cE (a8 aI aZ (eE 0) aw (λ_ _=>rfl)) aw)) (jn 0 aw))
  (az (aO (gH (zU (gH (kq (a8 aI aZ (eE 0) aw (λ_ _=>rfl)) aw) aw) aw) (af 1)))))))
theorem gn:bm ["_law_bag_here","_law_n","_law_left","_law_found"] m8 (ay kG):=by refine⟨rfl,rfl,rfl,?_,rfl,?_,?_⟩<;>decide+kernel
def xc:FS:=
 aC (f9 2 (HS (ai 1)))
 (aC (f9 3 (bI (aj)))
 (aC (vx (bJ (av lh (dJ 2) (bI (aj)))) (cj (aK 3 1 gB (cS (aK 2 1 r8 (cS (aK 0 1 aQ (b7 (aa (ak c6 (aa (dJ 2) (aj))) (aj)))) (b7 (aj)))) (b7 (aj))))) 16)
 (xM 3)))
def bd:List D->List D->Option (D×List D):=zf .n 4 xc
theorem xo(B:Bt mg)(F:Df K mg "_law_order" kG m8)(e:Cl P w K mg base 1 "_law_take" n7 (vt K .s 1 aQ)):Cl P w K mg base 2 "_law_order" m8 (vt K .n 1 bd):=by
 refine ve (k:=1) F gn (by decide) rfl λ_ d A b s H hid a E c=>?_
 exact(ao (hW 2 gn.nd (lq rfl B.b_list B.b_range (af 1)))
  (ao (hW 3 gn.nd (cA al))
  (ao (xS 16 Rj (bP (iA c.units) lG (eE 2) (cA al) (cy _)) (az (gV (jE 3 gr dv Rs Rt (fP (jE 2 Kg E7 PySem.F.slot_list_pop PySem.F.type_list_pop (fP (jN 0 e (c.mono (by decide)) (DA.gf (ae (ba br fJ B.b_len (aM (eE 2) bn) (hv:=by kernel_rfl)) al))) (DA.gf al))) (DA.gf al))))))
  (az (u8 3)))))
theorem a6:bm ["_law_bag_here","_law_n","_law_c","_law_ways","_law_four","_law_pairs_of_rows","_law_left","_law_right_here","_law_rest_rings","_law_rest_crosses","_law_k","_law_d","_law_rings","_law_crosses"] m8 (ay fH):=by refine⟨rfl,rfl,rfl,?_,rfl,?_,?_⟩<;>decide+kernel
def iL:FS:=
 aC (iS 2 (aK 0 1 aQ (b7 (aa (av gR (ai 1) (aD (.int 1))) (aj)))))
 (aC (iS 3 (ft 1 (b7 (eW (aa (aD (.int 4)) (aj)))) (gN 14) (cf) (aK 0 1 aQ (b7 (aa (aD (.int 2)) (aj))))))
 (aC (iS 4 (gd dw (cS (Dv (aK 0 1 bd (b7 (aa (ai 1) (aj)))) nR (jU (aD (.int 4)))) (b7 (aj)))))
 (aC (be 4 (av gG (fA (ai 4) (jU (av bj (ai 3) (aD (.int 0)))) nR) (fA (ai 4) nR (jU (av bj (ai 3) (aD (.int 0)))))))
 (aC (be 5 (bI (aa (fA (ai 4) nR (jU (aD (.int 2)))) (aa (fA (ai 4) (jU (aD (.int 2))) nR) (aj)))))
 (aC (fy (bJ (av pV (av bj (ai 3) (aD (.int 1))) (aD (.int 1)))) (be 5 (rX (ai 5) (jU (lg (aD (.int 1)))))) (cc))
 (aC (cw (gL 2 (cU (gN 6) (cU (gN 7) (gU)))) (pu (ai 5)))
 (aC (fy (bJ (av pV (av bj (ai 3) (aD (.int 2))) (aD (.int 1)))) (be 6 (rX (ai 6) (jU (lg (aD (.int 1)))))) (cc))
 (aC (fy (bJ (av pV (av bj (ai 3) (aD (.int 3))) (aD (.int 1)))) (be 7 (rX (ai 7) (jU (lg (aD (.int 1)))))) (cc))
 (aC (iS 8 (ft 1 (zp (aK 0 1 bd (b7 (aa (ai 1) (aj))))) (gN 14) (bJ (av (iZ true) (ai 14) (cx (aa (av bj (ai 6) (aD (.int 0))) (aa (av bj (ai 7) (aD (.int 0))) (aj)))))) (pu (ai 14))))
 (aC (En 9 (ft 1 (zp (aK 0 1 bd (b7 (aa (ai 1) (aj))))) (gN 14) (bJ (av (iZ true) (ai 14) (cx (aa (av bj (ai 6) (aD (.int 1))) (aa (av bj (ai 7) (aD (.int 1))) (aj)))))) (pu (ai 14))))
 (aC (im (b7 (eW (aa (av gR (ai 1) (aD (.int 2))) (aj)))) (gN 10) (aC (be 11 (av cv (av bS (ai 10) (aD (.int 1))) (av gR (ai 1) (aD (.int 2)))))
 (fy (bJ (av pV (av bj (dJ 9) (ai 10)) (av bj (ai 8) (ai 10)))) (cw (gT 2 (cU (cT 9 (ai 10)) (cU (cT 9 (ai 11)) (gU)))) (pu (cx (aa (av bj (dJ 9) (ai 11)) (aa (av bj (dJ 9) (ai 10)) (aj)))))) (cc))))
 (aC (be 12 (av gG (av gG (fA (ai 8) nR (jU (ai 2))) (bI (aa (av bj (ai 6) (aD (.int 0))) (aa (av bj (ai 7) (aD (.int 0))) (aj))))) (fA (ai 8) (jU (ai 2)) nR)))
 (aC (be 13 (av gG (av gG (fA (dJ 9) nR (jU (ai 2))) (bI (aa (av bj (ai 6) (aD (.int 1))) (aa (av bj (ai 7) (aD (.int 1))) (aj))))) (fA (dJ 9) (jU (ai 2)) nR)))
 (aY (cx (aa (cx (aa (ak ig (aa (ai 12) (aj))) (aa (ak ig (aa (ai 13) (aj))) (aj)))) (aa (ai 2) (aj))))))))))))))))))
def bZ:List D->List D->Option (D×List D):=zf .s 14 iL
theorem oP(B:Bt mg)(F:Df K mg "_law_neighbours" fH m8)(f:Cl P w K mg base 1 "_law_take" n7 (vt K .s 1 aQ))(d:Cl P w K mg base 2 "_law_order" m8 (vt K .n 1 bd)):Cl P w K mg base 3 "_law_neighbours" m8 (vt K .s 1 bZ):=by
 refine ve (k:=2) F a6 (by decide) rfl λ_ g A c s H hid a E b=>?_
 exact(ao (nn 2 a6.nd (jN 0 f (b.mono (by decide)) (DA.gf (ae (jy (af 1) aw) al))))
  (ao (wZ 3 (N':=np) rfl a6.nd (bB (Pg rfl)) (DIp.e (dW B.b_range (ae aw al))) (λ_ _ _ _=>(au 14 Mp)) (λ_ _ _ _=>cm) (λ_ _ _ _=>(jN 0 f (b.mono (by decide)) (DA.gf (ae aw al)))))
  (ao (nn 4 a6.nd (DE.toS (Ez g8 kL B.b_sorted (fP (DE.toS (KL (DE.toS (jN 0 d (b.mono (by decide)) (DA.gf (ae (af 1) al)))) eQ (c9 aw))) (DA.gf al)) (hv:=by kernel_rfl))))
  (ao (bf 4 a6.nd (DP.toS (mO (ie (af 4) (c9 (a8 aI aZ (af 3) aw (λ_ _=>rfl))) eQ) (ie (af 4) eQ (c9 (a8 aI aZ (af 3) aw (λ_ _=>rfl)))))))
  (ao (bf 5 a6.nd (DP.toS (cA (ae (DP.toS (ie (af 4) eQ (c9 aw))) (ae (DP.toS (ie (af 4) (c9 aw) eQ)) al)))))
  (ao (eG (bP (lY b.units) qj (a8 aI aZ (af 3) aw (λ_ _=>rfl)) aw (cy _)) (az (bf 5 a6.nd (DP.toS (yK (af 5) (c9 (nH aw)))))) bU)
  (ao (fI (DP.ef (af 5)) (AH (n:=2) rfl (aH (au 6 a6.nd) (aH (au 7 a6.nd) ca))))
  (ao (eG (bP (lY b.units) qj (a8 aI aZ (af 3) aw (λ_ _=>rfl)) aw (cy _)) (az (bf 6 a6.nd (DP.toS (yK (af 6) (c9 (nH aw)))))) bU)
  (ao (eG (bP (lY b.units) qj (a8 aI aZ (af 3) aw (λ_ _=>rfl)) aw (cy _)) (az (bf 7 a6.nd (DP.toS (yK (af 7) (c9 (nH aw)))))) bU)
  (ao (wZ 8 (N':=ms) rfl a6.nd (bB (Pg rfl)) (AT (DE.toS (jN 0 d (b.mono (by decide)) (DA.gf (ae (af 1) al))))) (λ_ _ _ _=>(au 14 Jf)) (λ_ _ _ _=>(jC (bP (ox b.units) (lI true) (af 14) (cG (ae (a8 aI aZ (af 6) aw (λ_ _=>rfl)) (ae (a8 aI aZ (af 7) aw (λ_ _=>rfl)) al))) (by with_unfolding_all rfl)))) (λ_ _ _ _=>(DP.ef (af 14))))
  (ao (EV 9 (N':=ms) rfl a6.nd (bB (Pg rfl)) (AT (DE.toS (jN 0 d (b.mono (by decide)) (DA.gf (ae (af 1) al))))) (λ_ _ _ _=>(au 14 Jf)) (λ_ _ _ _=>(jC (bP (ox b.units) (lI true) (af 14) (cG (ae (a8 aI aZ (af 6) aw (λ_ _=>rfl)) (ae (a8 aI aZ (af 7) aw (λ_ _=>rfl)) al))) (by with_unfolding_all rfl)))) (λ_ _ _ _=>(DP.ef (af 14))))
  (ao (jB Rj rfl (DIp.e (dW B.b_range (ae (jy (af 1) aw) al))) (au 10 a6.nd) (ao (bf 11 a6.nd (gH (cE (af 10) aw) (jy (af 1) aw)))
  (az (eG (bP (lY b.units) qj (a8 aI aZ (eE 9) (af 10) (λ_ _=>rfl)) (a8 aI aZ (af 8) (af 10) (λ_ _=>rfl)) (cy _)) (az (qf (DP.ef (cG (ae (a8 aI aZ (eE 9) (af 11) (λ_ _=>rfl)) (ae (a8 aI aZ (eE 9) (af 10) (λ_ _=>rfl)) al)))) (zX (n:=2) rfl (nq (jn 9 (af 10)) (nq (jn 9 (af 11)) AR))))) bU))))
  (ao (bf 12 a6.nd (DP.toS (mO (mO (ie (af 8) eQ (c9 (af 2))) (cA (ae (a8 aI aZ (af 6) aw (λ_ _=>rfl)) (ae (a8 aI aZ (af 7) aw (λ_ _=>rfl)) al)))) (ie (af 8) (c9 (af 2)) eQ))))
  (ao (bf 13 a6.nd (DP.toS (mO (mO (ie (eE 9) eQ (c9 (af 2))) (cA (ae (a8 aI aZ (af 6) aw (λ_ _=>rfl)) (ae (a8 aI aZ (af 7) aw (λ_ _=>rfl)) al)))) (ie (eE 9) (c9 (af 2)) eQ))))
  (az (aO (cG (ae (cG (ae (dC dP ki B.b_tuple (aM (af 12) bn) (hv:=by kernel_rfl)) (ae (dC dP ki B.b_tuple (aM (af 13) bn) (hv:=by kernel_rfl)) al))) (ae (af 2) al) zE))))))))))))))))))
theorem ei:bm ["_law_bag_here","_law_n","_law_found","_law_turn","_law_stand"] m8 (ay km):=by refine⟨rfl,rfl,rfl,?_,rfl,?_,?_⟩<;>decide+kernel
def jW:FS:=
 aC (f9 2 (bI (aj)))
 (aC (im (EE (cS (aK 0 1 aQ (b7 (aa (aD (.int 6)) (aj)))) (b7 (aj)))) (gN 3) (aC (iS 4 (gd ig (cS (aK 0 1 bd (b7 (aa (ai 1) (aj)))) (b7 (aj)))))
 (fy (bJ (av (iZ true) (ai 4) (dJ 2))) (cj (aK 2 1 gB (b7 (aa (ai 4) (aj))))) (cc))))
 (aY (ak dw (aa (dJ 2) (aj)))))
def fR:List D->List D->Option (D×List D):=zf .n 5 jW
theorem xw(B:Bt mg)(F:Df K mg "_law_crowd" km m8)(f:Cl P w K mg base 1 "_law_take" n7 (vt K .s 1 aQ))(e:Cl P w K mg base 2 "_law_order" m8 (vt K .n 1 bd)):Cl P w K mg base 3 "_law_crowd" m8 (vt K .n 1 fR):=by
 refine ve (k:=2) F ei (by decide) rfl λ_ d A b s H hid a E c=>?_
 exact(ao (hW 2 ei.nd (cA al))
  (ao (jB Rj rfl (BO B.b_range (fP (jN 0 f (c.mono (by decide)) (DA.gf (ae aw al))) (DA.gf al))) (au 3 ei.nd) (ao (nn 4 ei.nd (s0 dP ki B.b_tuple (fP (DE.toS (jN 0 e (c.mono (by decide)) (DA.gf (ae (af 1) al)))) (DA.gf al)) (hv:=by kernel_rfl)))
  (az (eG (bP (ox c.units) (lI true) (af 4) (eE 2) (by with_unfolding_all rfl)) (az (gV (jE 2 gr dv Rs Rt (DA.gf (ae (af 4) al))))) bU))))
  (az (aO (ba g8 kL B.b_sorted (aM (eE 2) bn) (hv:=by kernel_rfl))))))
theorem dr:bm ["_law_square","_law_c","_law_crowd_here","_law_stand","_law_other","_law_one","_law_there","_law_home"] nB (ay ko):=by refine⟨rfl,rfl,rfl,?_,rfl,?_,?_⟩<;>decide+kernel
def jX:FS:=
 aC (be 4 (ak (nF 2 bv) (aa (ai 0) (aa (ai 1) (aj)))))
 (aC (im (b7 (dz (bI (aa (ai 2) (aa (bI (aa (ai 3) (aj))) (aa (ak (nF 2 gZ) (aa (ak di (aa (ai 2) (aj))) (aa (bI (aa (ai 3) (aj))) (aj)))) (aj))))))) (gN 5) (aC (be 6 (ak (nF 3 eF) (aa (ai 0) (aa (ai 1) (aa (ak di (aa (ai 5) (aj))) (aj))))))
 (fy (bJ (av lh (ak (nF 2 cV) (aa (ai 4) (aa (ak di (aa (ai 6) (aj))) (aj)))) (ak (nF 3 eF) (aa (ai 0) (aa (ai 1) (aa (ak (nF 2 cV) (aa (ai 0) (aa (ak di (aa (ai 5) (aj))) (aj)))) (aj))))))) (aY (aD (.bl false))) (cc))))
 (aC (fy (bJ (av lh (ai 6) (ak (nF 2 gZ) (aa (ak (nF 3 eF) (aa (ai 0) (aa (ai 1) (aa (ak di (aa (ai 2) (aj))) (aj))))) (aa (ak (nF 3 eF) (aa (ai 0) (aa (ai 1) (aa (bI (aa (ai 3) (aj))) (aj))))) (aj)))))) (aY (aD (.bl false))) (cc))
 (aC (be 7 (cx (aa (ak (nF 2 gk) (aa (ai 0) (aa (ai 3) (aj)))) (aa (ak (nF 2 jp) (aa (ai 0) (aa (ai 3) (aj)))) (aj)))))
 (aY (ak FX (aa (cb 1 (dz (ak (nF 3 eF) (aa (ai 0) (aa (ai 1) (aa (bI (aa (ai 3) (aj))) (aj)))))) (gN 8) (cf) (av pV (cx (aa (ak (nF 2 gk) (aa (ai 4) (aa (ai 8) (aj)))) (aa (ak (nF 2 jp) (aa (ai 4) (aa (ai 8) (aj)))) (aj)))) (ai 7))) (aj)))))))
def g7:List D->Option D:=eZ .s 8 jX
theorem xK(B:Bt mg)(F:Df K mg "_law_right" ko nB)(j:Cl P w K mg base 3 "columns_changed" oa (cr K .s 2 bv))(f:Cl P w K mg base 1 "added" sL (cr K .n 2 gZ))(c:Cl P w K mg base 6 "led" r6 (cr K .n 3 eF))(i:Cl P w K mg base 3 "grade" nv (cr K .s 2 gk))(h:Cl P w K mg base 3 "lean" nv (cr K .s 2 jp))(g:Cl P w K mg base 7 "border" sf (cr K .n 2 cV)):Cl P w K mg base 8 "_law_right" nB (cr K .s 4 g7):=by
 refine aV (k:=7) F dr (by decide) rfl λ_ l A d s H hid E a=>?_
 exact(ao (bf 4 dr.nd (aN j (a.mono (by decide)) (ae (af 0) (ae (af 1) al))))
  (ao (jB Rj rfl (DIp.e (dB (DP.toS (cA (ae (af 2) (ae (DP.toS (cA (ae (af 3) al))) (ae (DP.toS (aN f (a.mono (by decide)) (ae (DP.toS (dC dG kQ B.b_list (aM (af 2) bn) (hv:=by kernel_rfl))) (ae (DP.toS (cA (ae (af 3) al))) al)))) al))))))) (au 5 dr.nd) (ao (bf 6 dr.nd (DP.toS (aN c (a.mono (by decide)) (ae (af 0) (ae (af 1) (ae (DP.toS (dC dG kQ B.b_list (aM (af 5) bn) (hv:=by kernel_rfl))) al))))))
  (az (eG (bP (iA a.units) lG (aN g (a.mono (by decide)) (ae (af 4) (ae (DP.toS (dC dG kQ B.b_list (aM (af 6) bn) (hv:=by kernel_rfl))) al))) (aN c (a.mono (by decide)) (ae (af 0) (ae (af 1) (ae (DP.toS (aN g (a.mono (by decide)) (ae (af 0) (ae (DP.toS (dC dG kQ B.b_list (aM (af 5) bn) (hv:=by kernel_rfl))) al)))) al)))) (cy _)) (az (aO lJ)) bU))))
  (ao (eG (bP (iA a.units) lG (af 6) (aN f (a.mono (by decide)) (ae (DP.toS (aN c (a.mono (by decide)) (ae (af 0) (ae (af 1) (ae (DP.toS (dC dG kQ B.b_list (aM (af 2) bn) (hv:=by kernel_rfl))) al))))) (ae (DP.toS (aN c (a.mono (by decide)) (ae (af 0) (ae (af 1) (ae (DP.toS (cA (ae (af 3) al))) al))))) al))) (cy _)) (az (aO lJ)) bU)
  (ao (bf 7 dr.nd (cG (ae (aN i (a.mono (by decide)) (ae (af 0) (ae (af 3) al))) (ae (aN h (a.mono (by decide)) (ae (af 0) (ae (af 3) al))) al))))
  (az (aO (ba (Dm rfl) Kb B.b_all (aM (kK (N':=n5) rfl (bB (Pg rfl)) (DIp.b (dB (DP.toS (aN c (a.mono (by decide)) (ae (af 0) (ae (af 1) (ae (DP.toS (cA (ae (af 3) al))) al))))))) (λ_ _ _ _=>(au 8 Mk)) (λ_ _ _ _=>cm) (λ_ _ _ _=>(qU (lY a.units) qj (cG (ae (aN i (a.mono (by decide)) (ae (af 4) (ae (af 8) al))) (ae (aN h (a.mono (by decide)) (ae (af 4) (ae (af 8) al))) al))) (af 7) (cy _)))) bn) (hv:=by kernel_rfl))))))))
theorem h7:bm ["_law_script","_law_at","_law_bag_here","_law_n","_law_square","_law_c","_law_crowd_here"] ["_law_script"] (ay mE):=by refine⟨rfl,rfl,rfl,?_,rfl,?_,?_⟩<;>decide+kernel
def Dp:FS:=
 aC (im (b7 (eW (aa (aD (.int 2)) (aj)))) (gN 1) (aC (f9 2 (ak (nF 2 kX) (aa (ai 0) (aa (ai 1) (aj)))))
 (aC (iS 3 (x8 bj (pu (bI (aa (aD (.int 4)) (aa (aD (.int 4)) (aa (aD (.int 5)) (aj)))))) (aK 2 1 aQ (b7 (aa (aD (.int 3)) (aj))))))
 (aC (cw (gT 2 (cU (gN 4) (cU (gN 5) (gU)))) (aK 2 1 bZ (b7 (aa (ai 3) (aj)))))
 (aC (iS 6 (aK 2 1 fR (b7 (aa (ai 3) (aj)))))
 (Lg (D8 (Dw (gd (nF 4 g7) (cS (pu (ai 4)) (cS (pu (ai 5)) (cS (pu (ai 6)) (cS (gd ig (cS (aK 2 1 bd (b7 (aa (ai 3) (aj)))) (b7 (aj)))) (b7 (aj))))))))) (aY (aD (.bl false))) (cc)))))))
 (aY (aD (.bl true)))
def IT:List D->Option D:=eZ .s 7 Dp
theorem Kh(B:Bt mg)(F:Fun K "law" "law" mE f fd)(g:Cl P w K mg base 2 "_law_bag" ro (cr K .n 2 kX))(d:Cl P w K mg base 3 "_law_neighbours" m8 (vt K .s 1 bZ))(l:Cl P w K mg base 3 "_law_crowd" m8 (vt K .n 1 fR))(h:Cl P w K mg base 1 "_law_take" n7 (vt K .s 1 aQ))(c:Cl P w K mg base 8 "_law_right" nB (cr K .s 4 g7))(j:Cl P w K mg base 2 "_law_order" m8 (vt K .n 1 bd)):gt P w K mg base vA 9 f fd ["_law_script"] (cr K .s 1 IT):=by
 refine Bk (k:=8) F h7 (by decide) λi A b s H hid E a=>?_
 exact(ao (jB Rj rfl (DIp.e (dW B.b_range (ae aw al))) (au 1 h7.nd) (ao (hW 2 h7.nd (aN g (a.mono (by decide)) (ae (af 0) (ae (af 1) al))))
  (ao (nn 3 h7.nd (LM aI aZ (DE.toS (DP.ef (cA (ae aw (ae aw (ae aw al)))))) (jN 2 h (a.mono (by decide)) (DA.gf (ae aw al))) (λ_ _=>rfl)))
  (ao (fI (jN 2 d (a.mono (by decide)) (DA.gf (ae (af 3) al))) (cz (n:=2) rfl (aH (au 4 h7.nd) (aH (au 5 h7.nd) ca))))
  (ao (nn 6 h7.nd (DE.toS (jN 2 l (a.mono (by decide)) (DA.gf (ae (af 3) al)))))
  (az (Jt (Ho (Gq (KP c (a.mono (by decide)) (fP (DP.ef (af 4)) (fP (DP.ef (af 5)) (fP (DP.ef (af 6)) (fP (s0 dP ki B.b_tuple (fP (DE.toS (jN 2 j (a.mono (by decide)) (DA.gf (ae (af 3) al)))) (DA.gf al)) (hv:=by kernel_rfl)) (DA.gf al)))))))) (az (aO lJ)) bU)))))))
  (az (aO lJ)))
end
def ls:List Nat->(Nat->Int)->Int
 | [],_=>0
 |x::l,f=>f x+ls l f
theorem jw(x:Nat)(l:List Nat)(f:Nat->Int):ls (x::l) f=f x+ls l f:=rfl
theorem bu {f g:Nat->Int}: ∀ {l:List Nat},(∀x∈l,f x=g x)->ls l f=ls l g
 | [],_=>rfl
 |x::l,h=>by unfold ls;rw[h x (PH ..),bu λy a=>h y (Pt _ a)]
theorem h9(f g:Nat->Int): ∀l,ls l (λx=>f x+g x)=ls l f+ls l g
 | []=>rfl
 |x::l=>by simp only[jw];rw[h9 f g l];lia
theorem eD(f g:Nat->Int): ∀l,ls l (λx=>f x-g x)=ls l f-ls l g
 | []=>rfl
 |x::l=>by simp only[jw];rw[eD f g l];lia
theorem n6(k:Int)(f:Nat->Int): ∀l,ls l (λx=>k*f x)=k*ls l f
 | []=>by simp[ls]
 |x::l=>by simp only[jw];rw[n6 k f l,Int.mul_add]
theorem iF(k:Int): ∀l,ls l (λ_=>k)=l.length*k
 | []=>by simp[ls]
 |x::l=>by simp only[jw];rw[iF k l,PL,Int.natCast_succ,Int.add_mul];lia
theorem EU(g:Nat->Nat)(f:Nat->Int): ∀l,ls (l.map g) f=ls l (λx=>f (g x))
 | []=>rfl
 |x::l=>by rw[Pe];unfold ls;rw[EU g f l]
theorem Ai{l m:List Nat}(h:l.Perm m):ls l f=ls m f:=by
 induction h with
 |nil=>rfl
 |cons x _ c=>unfold ls;rw[c]
 |swap x y l=>show f y+(f x+ls l f)=f x+(f y+ls l f);lia
 |trans _ _ a b=>rw[a,b]
def bi(b:Bool):Int:=if b then 1 else 0
theorem oD(p:Nat->Bool)(f:Nat->Int): ∀l,ls (l.filter p) f=ls l (λx=>bi (p x)*f x)
 | []=>rfl
 |x::l=>by
  have:=oD p f l;cases h:p x
  ·rw[RA (by rw[h];decide)];simp only[jw];rw[this,h];simp[bi]
  ·rw[RB h];simp only[jw];rw[this,h];simp[bi]
theorem tX {f:Nat->Int}(h: ∀x∈l,f x=0):ls l f=0:=by
 rw[bu (g:=λ_=>0) h,iF];simp
theorem kz {l:List Nat}(b:l.Nodup){a:Nat}(k:Int)(h:a∈l):ls l (λx=>if x=a then k else 0)=k:=by
 induction l with
 |nil=>exact absurd h (Q0)
 |cons x l d=>
  simp only[jw];rw[Ru] at b
  by_cases e:x=a
  ·subst e;rw[if_pos rfl,tX (f:=λy=>if y=x then k else 0) λy c=>if_neg λe:y=x=>b.1 (e▸c)];lia
  ·rw[if_neg e,d b.2 ((PD.mp h).resolve_left (Qu e))];lia
theorem JC(l:a<n)(k:b<n)(j:a≠b){f g:Nat->Int}(h: ∀i,i<n->i≠a->i≠b->f i=g i):ls (O5 n) f-ls (O5 n) g=(f a-g a)+(f b-g b):=by
 rw[<-eD];rw[bu (g:=λx=>(if x=a then f a-g a else 0)+(if x=b then f b-g b else 0)),h9,kz PV _ (O6.mpr l),kz PV _ (O6.mpr k)];intro x d;rw[O6] at d
 by_cases e:x=a
 ·subst e;rw[if_pos rfl,if_neg j];lia
 ·by_cases c:x=b
  ·subst c;rw[if_neg e,if_pos rfl];lia
  ·rw[if_neg e,if_neg c,h x d e c];lia
theorem ER{o:List Nat}(b:o.length=n)(f:Nat->Int):ls (O5 n) (λc=>f (o.getD c 0))=ls o f:=by
 rw[<-EU (λc=>o.getD c 0)];congr 1;apply Uu
 ·rw[Pc,QF,b]
 ·intro i d a;rw[List.getElem_map,List.getElem_range,PQ,Pd a];rfl
theorem Ds{o:List Nat}(O:Ord n o)(f:Nat->Int):ls (O5 n) (λc=>f (o.getD c 0))=ls (O5 n) f:=by
 rw[ER O.len];exact Ai O.perm
theorem uo(d:s<n)(a:e<n)(b:x<n):bi (bG n s e x)=bi (decide (s<=x)) -bi (decide (e<=x))+bi (decide (e<s)):=by
 have h:0<n:=by lia
 have m: ∀y:Nat,y<n->((y:Int) -s) % (n:Int)=if s<=y then((y:Int) -s) else((y:Int) -s+n):=λy c=>by
  split
  ·exact QH (by lia) (by lia)
  ·rw[<-TU];exact QH (by lia) (by lia)
 unfold bG;rw[m x b,m e a];unfold bi;simp only[lL];split<;>split<;>(repeat' split)<;>lia
theorem Gv(h:0<n)(d:a<n)(b:Nat)(f:Nat->Int):ls (cC n a b) f=ls (O5 n) (λc=>bi (bG n a b c)*f c):=by
 rw[Ai (rB h d b)];unfold sk;rw[oD]
theorem vj(h:0<n)(d:a<n)(b:Nat):ls (O5 n) (λc=>bi (bG n a b c))=((b:Int) -a) % n:=by
 have:=Gv h d b (λ_=>1);rw[iF] at this;simp only[Int.mul_one] at this;rw[<-this];unfold cC;rw[Pc,QF];exact(pP _ h).2
theorem eX {o:List Nat}(d:a<o.length)(f:b<o.length)(i:Nat):(bA o a b).getD i 0=if i=b then o.getD a 0 else if i=a then o.getD b 0 else o.getD i 0:=by
 unfold bA;simp only[PQ,List.getElem?_set]
 by_cases e:i=b
 ·subst e;rw[if_pos rfl,if_pos (by rw[YV];exact f),if_pos rfl];rfl
 ·rw[if_neg (Qu e),if_neg e]
  by_cases c:i=a
  ·subst c;rw[if_pos rfl,if_pos d,if_pos rfl];rfl
  ·rw[if_neg (Qu c),if_neg c]
theorem oU {o:List Nat}(c:o.length=n)(e:a<n)(d:b<n)(h:a≠b)(g:Nat->Nat->Int):
 ls (O5 n) (λi=>g i (o.getD i 0)) -ls (O5 n) (λi=>g i ((bA o a b).getD i 0))=g a (o.getD a 0)+g b (o.getD b 0) -g a (o.getD b 0) -g b (o.getD a 0):=by
 rw[JC e d h (f:=λi=>g i (o.getD i 0)) (g:=λi=>g i ((bA o a b).getD i 0)) λi _ j k=>by rw[eX (c▸e) (c▸d),if_neg k,if_neg j]];simp only[eX (c▸e:a<o.length) (c▸d:b<o.length)];rw[if_neg h];simp only[if_true];lia
theorem jc(x y:Bool):bi (x&&y)=bi x*bi y:=by cases x<;>cases y<;>rfl
theorem gF(a b:Nat):bi (decide (a<b))=1-bi (decide (b<=a)):=by
 unfold bi;simp only[lL];split<;>split<;>lia
def Hw(n:Nat)(r o:List Nat):Int:=ls (O5 n) λi=>ls (O5 n) λc=>bi (decide (i<=c)&&decide (o.getD i 0<=r.getD c 0))
def F8(n:Nat)(r o:List Nat):Int:=ls (O5 n) λc=>ls (O5 n) λi=>bi (decide (c<i)&&decide (r.getD c 0<o.getD i 0))
def xW(n:Nat)(o:List Nat):Int:=ls (O5 n) λi=>ls (O5 n) λj=>bi (decide (i<j)&&decide (o.getD i 0<o.getD j 0))
def mU(n:Nat)(r o:List Nat)(a b:Nat):Int:=ls (O5 n) λc=>bi (bG n a b c)*bi (bG n (o.getD a 0) (o.getD b 0) (r.getD c 0))
def vX(n:Nat)(o:List Nat)(a b:Nat):Int:=ls (O5 n) λc=>bi (bG n a b c)*bi (decide (c≠a)&&bG n (o.getD a 0) (o.getD b 0) (o.getD c 0))
def wj(n:Nat)(o:List Nat)(a b:Nat):Int:=bi (decide (o.getD b 0<o.getD a 0))*(((b:Int) -a) % n)+bi (decide (b<a))*(((o.getD b 0:Int) -o.getD a 0) % n) -n*(bi (decide (b<a))*bi (decide (o.getD b 0<o.getD a 0)))
section
variable {n a b:Nat}{r o:List Nat}(O:Ord n o)(R:Ord n r)(ha:a<n)(hb:b<n)(ne:a≠b)
include O R ha hb ne
theorem wV:ls (O5 n) (λc=>(bi (decide (a<=c)) -bi (decide (b<=c)))*(bi (decide (o.getD a 0<=r.getD c 0)) -bi (decide (o.getD b 0<=r.getD c 0))))=mU n r o a b-wj n o a b:=by
 have h:0<n:=by lia
 rw[bu (g:=λc=>((bi (bG n a b c)*bi (bG n (o.getD a 0) (o.getD b 0) (r.getD c 0)) -bi (decide (o.getD b 0<o.getD a 0))*bi (bG n a b c)) -bi (decide (b<a))*bi (bG n (o.getD a 0) (o.getD b 0) (r.getD c 0)))+bi (decide (b<a))*bi (decide (o.getD b 0<o.getD a 0)))]
 ·rw[h9,eD,eD,n6,n6,vj h ha,Ds R (λv=>bi (bG n (o.getD a 0) (o.getD b 0) v)),vj h (O.get ha),iF,QF];unfold mU wj;lia
 ·intro c d;rw[O6] at d;rw[uo ha hb d,uo (O.get ha) (O.get hb) (R.get d)];grind
theorem Kn:Hw n r o-Hw n r (bA o a b)=mU n r o a b-wj n o a b:=by
 unfold Hw;rw[oU O.len ha hb ne (λi u=>ls (O5 n) λc=>bi (decide (i<=c)&&decide (u<=r.getD c 0)))];rw[<-wV O R ha hb ne,<-h9,<-eD,<-eD];refine bu λc _=>?_
 simp only[jc];grind
theorem Kl:F8 n r o-F8 n r (bA o a b)=mU n r o a b-wj n o a b:=by
 unfold F8;rw[<-wV O R ha hb ne,<-eD];refine bu λc _=>?_
 rw[oU O.len ha hb ne (λi u=>bi (decide (c<i)&&decide (r.getD c 0<u)))];simp only[jc,gF];grind
end
section
variable {n a b:Nat}{o:List Nat}(O:Ord n o)(ha:a<n)(hb:b<n)(ne:a≠b)
include O ha hb ne
theorem E9:xW n o-xW n (bA o a b)=1+2*vX n o a b-2*wj n o a b:=by
 have h:0<n:=by lia
 have k:xW n o- (ls (O5 n) λi=>ls (O5 n) λj=>bi (decide (i<j)&&decide ((bA o a b).getD i 0<o.getD j 0)))=ls (O5 n) λj=>(bi (decide (a<j)) -bi (decide (b<j)))*(bi (decide (o.getD a 0<o.getD j 0)) -bi (decide (o.getD b 0<o.getD j 0))):=by
  unfold xW;rw[oU O.len ha hb ne (λi u=>ls (O5 n) λj=>bi (decide (i<j)&&decide (u<o.getD j 0))),<-h9,<-eD,<-eD];refine bu λc _=>?_
  simp only[jc];grind
 have s2:(ls (O5 n) λi=>ls (O5 n) λj=>bi (decide (i<j)&&decide ((bA o a b).getD i 0<o.getD j 0))) -xW n (bA o a b)=ls (O5 n) λi=>(bi (decide (i<a)) -bi (decide (i<b)))*(bi (decide ((bA o a b).getD i 0<o.getD a 0)) -bi (decide ((bA o a b).getD i 0<o.getD b 0))):=by
  unfold xW;rw[<-eD];refine bu λi _=>?_
  rw[oU O.len ha hb ne (λj u=>bi (decide (i<j)&&decide ((bA o a b).getD i 0<u)))];simp only[jc];grind
 have g:xW n o-xW n (bA o a b)=ls (O5 n) λj=>(((2*(bi (bG n a b j)*bi (decide (j≠a)&&bG n (o.getD a 0) (o.getD b 0) (o.getD j 0))) -2*bi (decide (o.getD b 0<o.getD a 0))*bi (bG n a b j)) -2*bi (decide (b<a))*bi (bG n (o.getD a 0) (o.getD b 0) (o.getD j 0)))+2*(bi (decide (b<a))*bi (decide (o.getD b 0<o.getD a 0))))+((if j=a then bi (decide (o.getD b 0<o.getD a 0))+2*bi (decide (b<a)) else 0)+(if j=b then 1-2*bi (decide (b<a)) -bi (decide (o.getD b 0<o.getD a 0)) else 0)):=by
  rw[show xW n o-xW n (bA o a b)=_+_ from(by rw[<-k,<-s2];lia:_=(ls (O5 n) λj=>(bi (decide (a<j)) -bi (decide (b<j)))*(bi (decide (o.getD a 0<o.getD j 0)) -bi (decide (o.getD b 0<o.getD j 0))))+ls (O5 n) λi=>(bi (decide (i<a)) -bi (decide (i<b)))*(bi (decide ((bA o a b).getD i 0<o.getD a 0)) -bi (decide ((bA o a b).getD i 0<o.getD b 0)))),<-h9];refine bu λj f=>?_
  rw[O6] at f;rw[uo ha hb f,jc,uo (O.get ha) (O.get hb) (O.get f),eX (O.len▸ha) (O.len▸hb)];have m:o.getD a 0≠o.getD b 0:=λe=>ne (O.inj ha hb e)
  by_cases e:j=a
  ·subst e;rw[if_neg ne,if_pos rfl,if_pos rfl,if_neg ne];unfold bi;simp only[lL]
   (repeat' split)<;>first|lia|(exfalso;lia)|simp
  ·by_cases d:j=b
   ·subst d;rw[if_pos rfl,if_neg e,if_pos rfl];unfold bi;simp only[lL]
    (repeat' split)<;>first|lia|(exfalso;lia)|simp
   ·rw[if_neg d,if_neg e,if_neg e,if_neg d];have l:o.getD j 0≠o.getD a 0:=λx=>e (O.inj f ha x)
    have ob:o.getD j 0≠o.getD b 0:=λx=>d (O.inj f hb x)
    have q: ∀x y:Nat,y≠x->bi (decide (x<y))=bi (decide (x<=y)):=λx y h=>by
     unfold bi;simp only[lL];split<;>split<;>lia
    rw[q _ _ e,q _ _ d,q _ _ l,q _ _ ob,gF j a,gF j b,gF (o.getD j 0),gF (o.getD j 0),show decide (j≠a)=true from lR e];show _=_;have:bi true=1:=rfl;rw[this];grind
 rw[g];rw[h9,h9,h9,eD,eD,n6,n6,n6,kz PV _ (O6.mpr ha),kz PV _ (O6.mpr hb),vj h ha,Ds O (λv=>bi (bG n (o.getD a 0) (o.getD b 0) v)),vj h (O.get ha),iF,QF];unfold vX wj;grind
end
theorem Ar(v:Nat): ∀l:List Nat,v∈l-> ∃j,(l.map nI).findIdx? (λd=>dg d (nI v))=some j/\j<l.length/\l.getD j 0=v
 | [],h=>absurd h Q0
 |y::l,h=>by
  rw[Pe,List.findIdx?_cons,jd]
  by_cases e:y=v
  ·exact⟨0,by simp[e],by simp,by simpa using e⟩
  ·obtain⟨j,a,b,c⟩:=Ar v l ((PD.mp h).resolve_left (Qu e));refine⟨j+1,by simp[e,a],by simp[b],by simpa using c⟩
structure Sg(n:Nat)(r x:List Nat)(S:Nat->Nat):Prop where
 ev: ∀y,y<n->o7 (ax x) (nI (r.getD y 0))=some (nI (S y))
 lt: ∀y,y<n->S y<n
 inj: ∀y z,y<n->z<n->S y=S z->y=z
theorem IG(R:Ord n r)(X:Ord n x): ∃S,Sg n r x S:=by
 have h: ∀y,∃z,y<n->o7 (ax x) (nI (r.getD y 0))=some (nI z)/\z<n/\x.getD z 0=r.getD y 0:=λy=>by
  by_cases a:y<n
  ·obtain⟨j,d,f,g⟩:=Ar (r.getD y 0) x (X.has (R.get a));refine⟨j,λ_=>⟨?_,X.len▸f,g⟩⟩;show(if cJ (x.map nI)<=32 then(rT (x.map nI) (nI (r.getD y 0))).map (λj=>D.int j) else none)=_;rw[if_pos (by rw[jb];lia)];unfold rT;rw[d];rfl
  ·exact⟨0,λq=>absurd q a⟩
 obtain⟨S,b⟩:=Uy.mp h;exact⟨S,λy a=>(b y a).1,λy a=>(b y a).2.1,λy z a c e=>R.inj a c ((b y a).2.2.symm.trans (e▸(b z c).2.2))⟩
theorem mI {n:Nat}{l:List Nat}(a:l.Nodup)(h: ∀z∈l,z<n):l.length<=n:=by
 have p:l.Perm ((O5 n).filter λz=>decide (z∈l)):=(P0 a (Q2 _ PV)).mpr λz=>by
  rw[Qf,O6,lL];exact⟨λq=>⟨h z q,q⟩,λq=>q.2⟩
 rw[p.length_eq];exact P8 (Qo _ _) (by simp)
def t8(S:Nat->Nat):Nat->Nat->Nat
 |0,s=>s
 |k+1,s=>S (t8 S k s)
def sT(S:Nat->Nat)(s z:Nat):Prop:= ∃k,t8 S k s=z
theorem kh(S:Nat->Nat)(s:Nat):sT S s s:=⟨0,rfl⟩
theorem qY {S:Nat->Nat}(h:sT S s z):sT S s (S z):=let⟨k,e⟩:=h;⟨k+1,by show S (t8 S k s)=_;rw[e]⟩
theorem zN(S:Nat->Nat)(s m:Nat): ∀k,t8 S k (t8 S m s)=t8 S (k+m) s
 |0=>by rw[Rk];rfl
 |k+1=>by rw[XQ];show S _=S _;rw[zN S s m k]
theorem sW {S:Nat->Nat}(d:sT S a b)(e:sT S b c):sT S a c:=by
 obtain⟨m,rfl⟩:=d;obtain⟨k,rfl⟩:=e;exact⟨k+m,(zN S a m k).symm⟩
structure Wlk(n:Nat)(S:Nat->Nat)(s:Nat)(W:List Nat)(t:Nat):Prop where
 nd:W.Nodup
 lt: ∀z∈W,z<n
 hs:s∈W
 ht:t∈W
 pre: ∀z∈W,z≠s-> ∃y∈W,y≠t/\S y=z
 nxt: ∀z∈W,z≠t->S z∈W
 on: ∀z∈W,sT S s z
 back: ∀z∈W,sT S z t
structure Cyc(n:Nat)(S:Nat->Nat)(s:Nat)(W:List Nat):Prop where
 lt: ∀z∈W,z<n
 mem: ∀z,z∈W↔sT S s z
 back: ∀z,z∈W->sT S z s
section
variable {n:Nat}{r x:List Nat}{S:Nat->Nat}(H:Sg n r x S)
theorem Wlk.start(c:s<n):Wlk n S s [s] s:=
 ⟨by simp,λz a=>by rw[Px] at a;rw[a];exact c,by simp,by simp,λz a b=>absurd (Px.mp a) b,λz a b=>absurd (Px.mp a) b,λz a=>by rw[Px] at a;rw[a];exact kh S s,λz a=>by rw[Px] at a;rw[a];exact kh S s⟩
include H
theorem Wlk.notin(w:Wlk n S s W t)(h:S t≠s):S t∉W:=λc=>by
 obtain⟨y,b,d,a⟩:=w.pre _ c h;exact d (H.inj _ _ (w.lt _ b) (w.lt _ w.ht) a)
theorem Wlk.next(w:Wlk n S s W t)(h:S t≠s):Wlk n S s (W++[S t]) (S t):=by
 have c:=w.notin H h;have b: ∀ {P:Nat->Prop},(∀z∈W,P z)->P (S t)-> ∀z∈W++[S t],P z:=λk j z a=>(QA.mp a).elim (k z) λq=>by rw[Px] at q;rw[q];exact j
 refine⟨QT.mpr ⟨w.nd,by simp,λu i v hv=>by rw[Px] at hv;subst hv;exact λe=>c (e▸i)⟩,b w.lt (H.lt _ (w.lt _ w.ht)),QV _ w.hs,by simp,b (λz a d=>?_) (λ_=>⟨t,QV _ w.ht,λe=>c (e▸w.ht),rfl⟩),b (λz a d=>?_) (λq=>absurd rfl q),b w.on (qY (w.on _ w.ht)),b (λz a=>qY (w.back z a)) (kh S _)⟩
 ·obtain⟨y,f,_,g⟩:=w.pre z a d;exact⟨y,QV _ f,λe=>c (e▸f),g⟩
 ·by_cases e:z=t
  ·subst e;simp
  ·exact QV _ (w.nxt z a e)
omit H in
theorem Wlk.done(w:Wlk n S s W t)(h:S t=s):Cyc n S s W:=by
 refine⟨w.lt,λz=>⟨w.on z,?_⟩,λz b=>h▸qY (w.back z b)⟩;rintro⟨k,rfl⟩
 induction k with
 |zero=>exact w.hs
 |succ k a=>
  show S (t8 S k s)∈W
  by_cases e:t8 S k s=t
  ·rw[e,h];exact w.hs
  ·exact w.nxt _ a e
theorem EJ(b:s<n): ∃W,Cyc n S s W:=by
 have a: ∀(f:Nat) (W:List Nat) (t:Nat),n<f+W.length->Wlk n S s W t-> ∃W,Cyc n S s W:=by
  intro f
  induction f with
  |zero=>intro W t h w;exact absurd (mI w.nd w.lt) (by lia)
  |succ f c=>
   intro W t h w
   by_cases e:S t=s
   ·exact⟨W,w.done e⟩
   ·exact c (W++[S t]) (S t) (by rw[PF,QI];lia) (w.next H e)
 exact a (n+1) [s] s (by lia) (Wlk.start b)
theorem v4(a:s<n)(h:sT S s z):sT S z s:=by
 obtain⟨W,c⟩:=EJ H a;exact c.back z ((c.mem z).mpr h)
end
def led(S:Nat->Nat)(s:Nat):Prop:= ∀z,sT S s z->s<=z
noncomputable def jV(S:Nat->Nat)(s:Nat):Bool:= @decide (led S s) (V1 _)
theorem iv {S:Nat->Nat}:jV S s=true↔led S s:=by unfold jV;exact @decide_eq_true_iff _ (V1 _)
def Lb:FT:=bJ (av lh (av bj (ai 0) (av bj (dJ 3) (lg (aD (.int 1))))) (ai 2))
def K9:FS:=cj (aK 3 1 gB (b7 (aa (av bj (ai 0) (av bj (dJ 3) (lg (aD (.int 1))))) (aj))))
def M0:FS:=fy (bJ (av pV (ak sU (aa (dJ 3) (aj))) (ai 2))) ((λρ=>(cj (aK 1 1 gB (b7 (aa (ai 3) (aj))))) (B9 3 ρ))) (cc)
def f6:FS:=
 aC (f9 1 (bI (aj)))
 (aC (im (b7 (eW (aa (ak c6 (aa (ai 0) (aj))) (aj)))) (gN 2) (aC (f9 3 (bI (aa (ai 2) (aj))))
 (aC (vx Lb K9 16)
 M0)))
 (xM 1))
def jL:List D->Option D:=eZ .n 4 f6
structure Wl(n:Nat)(S:Nat->Nat)(s:Nat)(W:List Nat)(t:Nat):Prop where
 w:Wlk n S s W t
 last:W.getLast?=some t
 eq:W=(O5 W.length).map λi=>t8 S i s
structure Cy(n:Nat)(S:Nat->Nat)(s:Nat)(W:List Nat):Prop where
 c:Cyc n S s W
 eq:W=(O5 W.length).map λi=>t8 S i s
 per:t8 S W.length s=s
 nd:W.Nodup
 pos:0<W.length
structure Sh(n:Nat)(S:Nat->Nat):Prop where
 lt: ∀y,y<n->S y<n
 inj: ∀y z,y<n->z<n->S y=S z->y=z
theorem Sh.sg{S:Nat->Nat}(H:Sh n S):Sg n ((O5 n).map S) (O5 n) S:=by
 refine⟨λy b=>?_,H.lt,H.inj⟩;have e:((O5 n).map S).getD y 0=S y:=by simp[Qd,b]
 rw[e];obtain⟨j,c,a,d⟩:=Ar (S y) (O5 n) (O6.mpr (H.lt y b));have:j=S y:=by
  rw[QF] at a;simpa [Qd,a] using d
 subst this;show(if cJ ((O5 n).map nI)<=32 then(rT ((O5 n).map nI) (nI (S y))).map (λj=>D.int j) else none)=_;rw[if_pos (by rw[jb];lia)];unfold rT;rw[c];rfl
theorem Wl.start{S:Nat->Nat}(a:s<n):Wl n S s [s] s:=⟨Wlk.start a,rfl,rfl⟩
theorem Wl.tt{S:Nat->Nat}{W:List Nat}(w:Wl n S s W t):S t=t8 S W.length s:=by
 have h:=w.last;have e:=w.eq;have f:0<W.length:=by
  cases W with
  |nil=>cases h
  |cons=>simp
 rw[Vl] at h;have d:W[W.length-1]? =some (t8 S (W.length-1) s):=by
  have q: ∀k,k<W.length->((O5 W.length).map λi=>t8 S i s)[k]? =some (t8 S k s):=λk c=>by rw[P5,UP c];rfl
  have b:=q (W.length-1) (by lia);rw[<-e] at b;exact b
 have a:=h.symm.trans d;injection a with a
 have:W.length=(W.length-1)+1:=by lia
 rw[this];show S t=S (t8 S (W.length-1) s);rw[<-a]
theorem Wl.next{S:Nat->Nat}(H:Sh n S)(w:Wl n S s W t)(h:S t≠s):Wl n S s (W++[S t]) (S t):=by
 refine⟨w.w.next H.sg h,by simp,?_⟩;rw[PF,QI,Wu,Qa,<-w.eq,w.tt];rfl
theorem Wl.done{S:Nat->Nat}(w:Wl n S s W t)(h:S t=s):Cy n S s W:=by
 refine⟨w.w.done h,w.eq,by rw[<-w.tt];exact h,w.w.nd,?_⟩;have:=w.last;cases W with
 |nil=>cases this
 |cons=>simp
theorem Cy.uniq {n:Nat}{S:Nat->Nat}{s:Nat}{W W':List Nat}(a:Cy n S s W)(b:Cy n S s W'):W=W':=by
 have key: ∀ {W W':List Nat},Cy n S s W->Cy n S s W'-> ¬W.length<W'.length:=λ{W W'} a b h=>by
  have e0:W'[0]? =some s:=by rw[b.eq];simp[b.pos];rfl
  have e1:W'[W.length]? =some s:=by rw[b.eq];simp[h];exact a.per
  have:=(Vx (by exact b.pos) b.nd).mp (e0.trans e1.symm);have:=a.pos;lia
 have:W.length=W'.length:=by have h1:=key a b;have h2:=key b a;lia
 rw[a.eq,b.eq,this]
section
variable {n:Nat}{S:Nat->Nat}(H:Sh n S)(hn:n<=14)
abbrev F6(n:Nat)(S:Nat->Nat)(F:List D)(s:Nat)(W:List Nat):aF:=[.v (.lst (((O5 n).map S).map nI)),.own F,.v (nI s),.own (W.map nI)]
theorem GL {W:List Nat}(h:W.getLast?=some t):bj (.lst (W.map nI)) (.int (-1))=some (nI t):=by
 show sX (W.map nI) (-1)=_;have a:0<W.length:=by
  cases W with
  |nil=>cases h
  |cons=>simp
 unfold sX xB;rw[if_neg (by lia),if_pos (by rw[Pc];lia),Pf];have:(-1+((W.map nI).length:Int)).toNat=W.length-1:=by rw[Pc];lia
 rw[this,P5,<-Vl,h];rfl
theorem KF(ρ:aF):lg (aD (.int 1)) ρ=some (.int (-1)):=rfl
include H in
theorem E4(w:Wl n S s W t):av bj (ai 0) (av bj (dJ 3) (lg (aD (.int 1)))) (F6 n S F s W)=some (nI (S t)):=by
 refine(aB (x:=.lst (((O5 n).map S).map nI)) (y:=nI t) rfl ((aB (x:=.lst (W.map nI)) rfl (KF _)).trans (GL w.last))).trans ?_
 have a:=w.w.lt _ w.w.ht;refine(A0 (by simp[a])).trans ?_
 congr 2;simp[Qd,a]
include H hn in
theorem uD(F:List D)(s:Nat): ∀(f:Nat) (W:List Nat) (t:Nat),n<f+W.length->Wl n S s W t->
 ∃L,vx Lb K9 f (F6 n S F s W)=.nx (F6 n S F s L)/\Cy n S s L
 |0,W,t,h,w=>absurd (mI w.w.nd w.w.lt) (by lia)
 |f+1,W,t,h,w=>by
  unfold vx;have g:Lb (F6 n S F s W)=some (!decide (S t=s)):=by
   unfold Lb;refine bR ((aB (x:=nI (S t)) (y:=nI s) (E4 H w) rfl).trans ?_);rw[j3 (by rw[fO];lia),jd]
  rw[g]
  by_cases e:S t=s
  ·rw[show(!decide (S t=s))=false by simp[e]];exact⟨W,rfl,w.done e⟩
  ·rw[show(!decide (S t=s))=true by simp[e]];have j:=mI w.w.nd w.w.lt;have b:K9 (F6 n S F s W)=.nx (F6 n S F s (W++[S t])):=by
    unfold K9;refine(rE (i:=3) (bs:=W.map nI) (d:=nI (S t)) rfl (bV (ar (E4 H w) rfl)) rfl (by rw[Pc];lia)).trans ?_
    unfold F6;rw[Qa];rfl
   obtain⟨L,a,c⟩:=uD F s f (W++[S t]) (S t) (by rw[PF,QI];lia) (w.next H e);refine⟨L,?_,c⟩;dsimp only;rw[b];exact a
theorem FD: ∀l:List Nat,eN (l.map nI)=some (l.map λ(z:Nat)=>(z:Int))
 | []=>rfl
 |z::l=>by rw[Pe];show(eN (l.map nI)).map _=_;rw[FD l];rfl
theorem L3 {l:List Nat}{s:Nat}(h:s∈l): ∃v:Int,sU [.lst (l.map nI)]=some (.int v)/\(v=s↔ ∀z∈l,s<=z):=by
 refine⟨oB (l.map λ(z:Nat)=>(z:Int)),?_,?_⟩
 ·show((eN (l.map nI)).bind λf=>if f.isEmpty=true then none else some (D.int (oB f)))=_;rw[FD];cases l with
  |nil=>exact absurd h Q0
  |cons=>rfl
 ·cases l with
  |nil=>exact absurd h Q0
  |cons a l=>
   obtain⟨c,b⟩:=w8 (l.map λ(z:Nat)=>(z:Int)) (a:Int);have c:oB ((a::l).map λ(z:Nat)=>(z:Int))∈(a::l).map λ(z:Nat)=>(z:Int):=c
   have b: ∀x∈(a::l).map (λ(z:Nat)=>(z:Int)),oB ((a::l).map λ(z:Nat)=>(z:Int))<=x:=b
   constructor
   ·intro e z d;have:=b z (Pz.mpr ⟨z,d,rfl⟩);lia
   ·intro q;have g:=b s (Pz.mpr ⟨s,h,rfl⟩);obtain⟨z,d,e⟩:=Pz.mp c;have i:=q z d;lia
include H hn in
theorem pB: ∃C:Nat->List Nat,(∀s,s<n->Cy n S s (C s))/\
 jL [.lst (((O5 n).map S).map nI)]=some (.lst (((O5 n).filter (jV S)).map λs=>.lst ((C s).map nI))):=by
 have hC: ∀s,∃L,s<n->Cy n S s L:=λs=>by
  by_cases hs:s<n
  ·obtain⟨L,_,h⟩:=uD H hn [] s 16 [s] s (by simp;lia) (Wl.start hs);exact⟨L,λ_=>h⟩
  ·exact⟨[],λh=>absurd h hs⟩
 obtain⟨C,hC⟩:=Uy.mp hC;refine⟨C,hC,?_⟩;have lp: ∀(l:List Nat),(∀s∈l,s<n)-> ∀(F:List D) (s2 s3:Sl),F.length+l.length<=900-> ∃s2' s3',fE (gN 2) (aC (f9 3 (bI (aa (ai 2) (aj)))) (aC (vx Lb K9 16) M0)) (l.map nI) [.v (.lst (((O5 n).map S).map nI)),.own F,s2,s3]
  =.nx [.v (.lst (((O5 n).map S).map nI)),.own (F++(l.filter (jV S)).map λs=>.lst ((C s).map nI)),s2',s3']:=by
  intro l
  induction l with
  |nil=>intro _ F s2 s3 _;exact⟨s2,s3,by simp[fE]⟩
  |cons s l ih=>
   intro hl F s2 s3 hF;rw[PL] at hF;have hs:=hl s (PH ..);obtain⟨L,hL,K⟩:=uD H hn F s 16 [s] s (by simp;lia) (Wl.start hs);cases K.uniq (hC s hs);have b1:(aC (f9 3 (bI (aa (ai 2) (aj)))) (aC (vx Lb K9 16) M0)) [.v (.lst (((O5 n).map S).map nI)),.own F,.v (nI s),s3]=M0 (F6 n S F s (C s)):=
    (aA (ρ':=F6 n S F s [s]) ((kR (cP (ds:=[nI s]) rfl (by simp))).trans rfl)).trans (aA hL)
   obtain⟨v,hv,hv2⟩:=L3 ((K.c.mem s).mpr (kh S s));have hv3:v=s↔jV S s=true:=hv2.trans ((Iff.intro (λq z hz=>q z ((K.c.mem z).mpr hz)) λq z hz=>q z ((K.c.mem z).mp hz)).trans iv.symm);have ih':=ih λz hz=>hl z (Pt _ hz)
   have tt:bJ (av pV (ak sU (aa (dJ 3) (aj))) (ai 2)) (F6 n S F s (C s))=some (jV S s):=by
    refine bR ((aB (x:=.int v) (y:=nI s) ((bO (ds:=[.lst ((C s).map nI)]) rfl).trans hv) rfl).trans ?_);rw[oV (by rw[fO];lia),jj];congr 2;rw[P2,lL];exact hv3
   cases e:jV S s
   ·rw[e] at tt;obtain⟨s2',s3',h⟩:=ih' F (.v (nI s)) (.own ((C s).map nI)) (by lia);refine⟨s2',s3',?_⟩;rw[Pe,RA (by rw[e];decide),<-h];exact cI (ρ1:=[.v (.lst (((O5 n).map S).map nI)),.own F,.v (nI s),s3]) rfl (b1.trans (mL tt))
   ·rw[e] at tt;obtain⟨s2',s3',h⟩:=ih' (F++[.lst ((C s).map nI)]) (.v (nI s)) (.v (.lst ((C s).map nI))) (by rw[PF,QI];lia);refine⟨s2',s3',?_⟩;rw[Pe,RB e,Pe,List.append_cons,<-h];exact cI (ρ1:=[.v (.lst (((O5 n).map S).map nI)),.own F,.v (nI s),s3]) rfl (b1.trans ((gj tt).trans ((rE (i:=1) (bs:=F) (d:=.lst ((C s).map nI)) rfl (bV rfl) rfl (by lia)).trans rfl)))
 obtain⟨s2',s3',h⟩:=lp (O5 n) (λs hs=>O6.mp hs) [] .no .no (by simp;lia);apply bh (kd:=.n) (n:=4) (t:=f6);unfold f6;refine(aA (ρ':=[.v (.lst (((O5 n).map S).map nI)),.own [],.no,.no]) ((kR (cP (ds:=[]) rfl (by simp))).trans rfl)).trans ?_
 refine(aA ((gm (ds:=(O5 n).map nI) (bV (iY (n:=n) (ar ((vZ ((O5 n).map S) _ _ rfl).trans (by simp)) rfl) (by lia)))).trans h)).trans ?_
 rfl
end
def j7:FS:=
 aC (cw (gT 2 (cU (gN 1) (cU (gN 2) (gU)))) (pu (ai 0)))
 (aY (ak (nF 1 jL) (aa (cb 1 (wU (ai 1)) (gN 3) (cf) (av o7 (ai 2) (ai 3))) (aj))))
def wN:List D->Option D:=eZ .n 3 j7
theorem Sg.sh {n:Nat}{S:Nat->Nat}(H:Sg n r x S):Sh n S:=⟨H.lt,H.inj⟩
theorem BF(r:List Nat):r=(O5 r.length).map λy=>r.getD y 0:=by
 apply Uu (by simp);intro i a b;simp[Qd,a]
theorem BZ{S:Nat->Nat}(R:Ord n r)(X:Ord n x)(H:Sg n r x S)(d:n<=8): ∃C:Nat->List Nat,(∀s,s<n->Cy n S s (C s))/\
 wN [de r x]=some (.lst (((O5 n).filter (jV S)).map λs=>.lst ((C s).map nI))):=by
 obtain⟨C,b,h⟩:=pB H.sh (by lia);refine⟨C,b,?_⟩;apply bh (kd:=.n) (n:=3) (t:=j7);unfold j7;refine(aA (ρ':=[.v (de r x),.v (ax r),.v (ax x)]) (fh (fx rfl) rfl)).trans ?_
 refine a7 ((aW (ds:=[.lst (((O5 n).map S).map nI)]) (ar ?_ rfl) rfl).trans h);refine eU (ds:=r.map nI) (HE rfl) (by rw[Pc,R.len];lia) ?_
 have c:r.map nI=(O5 n).map λy=>nI (r.getD y 0):=by
  conv=>lhs;rw[BF r,R.len,Pw]
  rfl
 rw[c,Pw];refine gw (O5 n) λy a=>?_
 rw[O6] at a;exact⟨_,rfl,(aB (x:=ax x) (y:=nI (r.getD y 0)) rfl rfl).trans (H.ev y a)⟩
def zD(xs:List Nat)(k:Int):List Nat:=(O5 xs.length).map λ(i:Nat)=>xs.getD (((i:Int) -k) % xs.length).toNat 0
def yu(xs:List Nat)(k:Int):List Nat:=xs.map λ(v:Nat)=>(((v:Int)+k) % xs.length).toNat
theorem wc(xs:List Nat)(k:Int):(zD xs k).length=xs.length:=by simp[zD]
theorem EW(xs:List Nat)(k:Int):(yu xs k).length=xs.length:=by simp[yu]
theorem Dd(xs:List Nat)(k:Int)(h:i<xs.length):(zD xs k).getD i 0=xs.getD (((i:Int) -k) % xs.length).toNat 0:=by
 simp[zD,Qd,h]
theorem Ek(xs:List Nat)(k:Int)(h:i<xs.length):(yu xs k).getD i 0=((((xs.getD i 0:Nat):Int)+k) % xs.length).toNat:=by
 simp[yu,Qd,h]
theorem qV {xs ys:List Nat}(c:xs.length=ys.length)(h: ∀i,i<xs.length->xs.getD i 0=ys.getD i 0):xs=ys:=by
 refine Uu c λi a b=>?_
 have:=h i a;simpa [Qd,a,b] using this
theorem yL(h:0<n)(a:Int):((O5 n).map λ(i:Nat)=>(((i:Int)+a) % n).toNat).Perm (O5 n):=by
 refine(P0 ?_ PV).mpr λj=>?_
 ·show VI (·≠ ·) _;rw[Qr];refine Qp (λ{i j} c b d e=>?_) Q6;rw[O6] at c b;have g:=pP ((i:Int)+a) h;have f:=pP ((j:Int)+a) h;have:((i:Int)+a) % n=((j:Int)+a) % n:=by lia
  rw[Vk,QH (by lia) (by lia),QH (by lia) (by lia)] at this;lia
 ·rw[Pz,O6];constructor
  ·rintro⟨i,_,rfl⟩;exact(pP _ h).1
  ·intro b;have m:=pP ((j:Int) -a) h;refine⟨(((j:Int) -a) % n).toNat,by rw[O6];exact m.1,?_⟩;rw[m.2,Uj,show(j:Int) -a+a=j by lia,QH (by lia) (by lia)];rfl
def F5(n:Nat)(k:Int)(v:Nat):Nat:=(((v:Int)+k) % n).toNat
structure Mv(n:Nat)(t:Nat->Nat):Prop where
 lt: ∀c,c<n->t c<n
 inj: ∀c d,c<n->d<n->t c=t d->c=d
 sur: ∀c,c<n-> ∃d,d<n/\t d=c
 inb: ∀s e v,s<n->e<n->v<n->bG n (t s) (t e) (t v)=bG n s e v
theorem qz {n:Nat}(h:0<n)(k:Int):Mv n (F5 n k):=by
 have a: ∀v:Nat,((F5 n k v:Nat):Int)=((v:Int)+k) % n:=λv=>(pP _ h).2
 have b: ∀u v:Nat,((F5 n k u:Int) -F5 n k v) % n=((u:Int) -v) % n:=λu v=>by
  rw[a,a,<-Yg,show(u:Int)+k- (v+k)=u-v by lia]
 refine⟨λc _=>(pP _ h).1,λc d g f e=>?_,λc g=>?_,λs e v _ _ _=>?_⟩
 ·have:=b c d;rw[e,Int.sub_self,Int.zero_emod] at this;obtain⟨m,i⟩:=VX this.symm;have:m=0:=by
   rcases Yd m 0 with q|q|q
   ·have:(n:Int)*m<=n*(-1):=RX (by lia) (by lia);lia
   ·exact q
   ·have:(n:Int)*1<=n*m:=RX (by lia) (by lia);lia
  rw[this] at i;lia
 ·have:=(yL h k).mem_iff.mpr (O6.mpr g);obtain⟨d,f,e⟩:=Pz.mp this;exact⟨d,O6.mp f,e⟩
 ·unfold bG;rw[b,b]
theorem JR{o:List Nat}(k:o.length=n)(lt: ∀c,c<n->o.getD c 0<n)(a: ∀c d,c<n->d<n->o.getD c 0=o.getD d 0->c=d)(b: ∀v,v<n-> ∃c,c<n/\o.getD c 0=v):Ord n o:=by
 refine⟨(P0 ?_ PV).mpr λv=>?_⟩
 ·rw[Xx,Q4];intro i j f g l e;have:=a i j (by lia) (by lia) (by rw[PQ,Pd f,PQ,Pd g];exact e);lia
 ·rw[O6];constructor
  ·intro h;obtain⟨i,f,rfl⟩:=SM h;have:=lt i (by lia);rw[PQ,Pd f] at this;exact this
  ·intro h;obtain⟨c,m,e⟩:=b v h;rw[PQ,Pd (by lia)] at e;have e:o[c]=v:=e;exact e▸SS _
theorem J8{o:List Nat}(a:o.length=n)(h:0<n)(k:Int)(b:c<n):(zD o k).getD (F5 n k c) 0=o.getD c 0:=by
 rw[Dd o k (by rw[a];exact(pP _ h).1),a];have:(((F5 n k c:Nat):Int) -k) % n=c:=by
  rw[show((F5 n k c:Nat):Int)=((c:Int)+k) % n from(pP _ h).2,Yg,Int.emod_emod,<-Yg,show(c:Int)+k-k=c by lia];exact QH (by lia) (by lia)
 rw[this];rfl
theorem Ke {n:Nat}{o:List Nat}(a:o.length=n)(k:Int)(b:c<n):(yu o k).getD c 0=F5 n k (o.getD c 0):=by
 rw[Ek o k (by lia),a];rfl
theorem Ord.mv{o j:List Nat}(O:Ord n o)(T:Mv n t)(U:Mv n u)(l:j.length=n)(h: ∀c,c<n->j.getD (t c) 0=u (o.getD c 0)):Ord n j:=by
 refine JR l (λc f=>?_) (λc d f m e=>?_) λv hv=>?_
 ·obtain⟨g,a,rfl⟩:=T.sur c f;rw[h g a];exact U.lt _ (O.get a)
 ·obtain⟨g,a,rfl⟩:=T.sur c f;obtain⟨d',b,rfl⟩:=T.sur d m;rw[h g a,h d' b] at e;rw[O.inj a b (U.inj _ _ (O.get a) (O.get b) e)]
 ·obtain⟨w,hw,rfl⟩:=U.sur v hv;obtain⟨c,f,e⟩: ∃c,c<n/\o.getD c 0=w:=by
   obtain⟨i,k,e⟩:=SM (O.has hw);exact⟨i,by rw[<-O.len];exact k,by rw[PQ,Pd k];exact e⟩
  exact⟨t c,T.lt c f,by rw[h c f,e]⟩
theorem Ls{o l j:List Nat}{t u:Nat->Nat}(v:o.length=n)(T:Mv n t)(s:l.length=n)(e:j.length=n)(i:a<n)(k:b<n)(h: ∀c,c<n->l.getD (t c) 0=u (o.getD c 0))(r: ∀c,c<n->j.getD (t c) 0=u ((bA o a b).getD c 0)):j=bA l (t a) (t b):=by
 have x:=T.lt a i;have w:=T.lt b k;refine qV (by rw[e];unfold bA;simp[s]) λc p=>?_
 rw[e] at p;obtain⟨d,f,rfl⟩:=T.sur c p;rw[r d f,eX (by lia) (by lia),eX (by lia) (by lia)]
 by_cases m:d=b
 ·subst m;rw[if_pos rfl,if_pos rfl,h a i]
 ·rw[if_neg m,if_neg λq=>m (T.inj _ _ f k q)]
  by_cases g:d=a
  ·subst g;rw[if_pos rfl,if_pos rfl,h b k]
  ·rw[if_neg g,if_neg λq=>g (T.inj _ _ f i q),h d f]
theorem Ak{o:List Nat}(O:Ord n o)(hv:v<n):o.idxOf v<n/\o.getD (o.idxOf v) 0=v:=by
 have a:=List.idxOf_lt_length_of_mem (O.has hv);refine⟨by rw[<-O.len];exact a,?_⟩;rw[PQ,Pd a,List.getElem_idxOf];rfl
def sp(n:Nat)(P:Nat->Nat->Bool):List (Nat×Nat):=(O5 n).flatMap λa=>((O5 n).filter λb=>decide (a≠b)&&P a b).map λb=>(a,b)
theorem jf{p:Nat×Nat}:p∈sp n P↔p.1<n/\p.2<n/\p.1≠p.2/\P p.1 p.2=true:=by
 unfold sp;rw[QZ];constructor
 ·rintro⟨a,f,h⟩;obtain⟨b,c,rfl⟩:=Pz.mp h;rw[Qf,Pi,lL,O6] at c;exact⟨O6.mp f,c.1,c.2.1,c.2.2⟩
 ·rintro⟨d,e,i,g⟩;refine⟨p.1,O6.mpr d,Pz.mpr ⟨p.2,?_,rfl⟩⟩;rw[Qf,Pi,lL,O6];exact⟨e,i,g⟩
theorem LB(n:Nat)(P:Nat->Nat->Bool):(sp n P).Pairwise λp q=>p.1<q.1\/(p.1=q.1/\p.2<q.2):=by
 unfold sp;rw[Uo];refine⟨λa _=>?_,Q6.imp λ{a g} c x e y d=>?_⟩
 ·rw[Qr];exact(Q2 _ Q6).imp λh=>.inr ⟨rfl,h⟩
 ·obtain⟨b,_,rfl⟩:=Pz.mp e;obtain⟨f,_,rfl⟩:=Pz.mp d;exact .inl c
theorem Mg(n:Nat)(P:Nat->Nat->Bool):(sp n P).Nodup:=(LB n P).imp λh e=>by subst e;lia
theorem Kx(n:Nat)(P:Nat->Nat->Bool):(sp n P).length<=n*n:=by
 have c: ∀(l:List Nat) (f:Nat->List (Nat×Nat)),(∀a,(f a).length<=n)->(l.flatMap f).length<=l.length*n:=by
  intro l f d
  induction l with
  |nil=>simp
  |cons a l e=>rw[P6,PF,PL,Vm,WT];have:=d a;lia
 have:=c (O5 n) (λa=>((O5 n).filter λb=>decide (a≠b)&&P a b).map λb=>(a,b)) λa=>by rw[Pc];exact P8 (Qo _ _) (by simp)
 rwa [QF] at this
theorem Hm{o:List Nat}(b:o.length=n)(P:Nat->Nat->Bool):FF P o=(sp n P).map λp=>yH o p.1 p.2:=by
 unfold FF sp;rw[b,RQ];congr 1;funext a;rw[Pw];rfl
def f8:FS:=
 aY (E6 CQ CQ (ak lE (aa (ai 1) (aa (ai 2) (aj)))) (ai 0) (ak vM (aa (ai 1) (aa (ai 2) (aj)))))
def gb:List D->Option D:=eZ .s 3 f8
def iB:FS:=
 aC (cw (gT 2 (cU (gN 2) (cU (gN 3) (gU)))) (pu (ai 0)))
 (aC (fy (jR (bJ (E6 Li Li (aD (.int 0)) (ai 1) (av gR (ak c6 (aa (ai 2) (aj))) (aD (.int 2)))))) (aY (aD (.bl false))) (cc))
 (aC (be 4 (cx (aa (av bj (ai 2) (ai 1)) (aa (av bj (ai 3) (ai 1)) (aj)))))
 (aC (be 5 (cx (aa (av bj (ai 2) (av bS (ai 1) (aD (.int 1)))) (aa (av bj (ai 3) (av bS (ai 1) (aD (.int 1)))) (aj)))))
 (aC (fy (Fu (bJ (av (iZ false) (av bj (ai 4) (aD (.int 0))) (ai 5))) (bJ (av (iZ false) (av bj (ai 4) (aD (.int 1))) (ai 5)))) (aY (aD (.bl false))) (cc))
 (aC (be 6 (cb 1 (dz (ai 5)) (gN 7) (fQ (ak (nF 3 gb) (aa (ai 7) (aa (av bj (ai 4) (aD (.int 0))) (aa (av bj (ai 4) (aD (.int 1))) (aj)))))) (ai 7)))
 (aY (av lh (ak c6 (aa (ai 6) (aj))) (aD (.int 1)))))))))
def rQ:List D->Option D:=eZ .s 7 iB
theorem ir(h:p ρ=some false):fy p t cc ρ=.nx ρ:=(mL h).trans rfl
theorem zj {F G:D->D->Option D}{f g h:FE}{x y z:D}(a:f ρ=some x)(b:g ρ=some y)(e:F x y=some (.bl p))(d:h ρ=some z)(c:G y z=some (.bl q)):E6 F G f g h ρ=some (.bl (p&&q)):=by
 unfold E6;rw[a,Pf,b,Pf,e];show(if p=true then _ else _)=_;cases p with
 |true=>rw[if_pos rfl,d];exact c
 |false=>rfl
theorem KW(c:p ρ=some a)(d:q ρ=some b):Fu p q ρ=some (a||b):=by
 cases a with
 |true=>exact IX c
 |false=>exact yD c d
theorem Ms(h:p ρ=some true):Iv p f g ρ=f ρ:=by unfold Iv;rw[h];rfl
theorem Mb(h:p ρ=some false):Iv p f g ρ=g ρ:=by unfold Iv;rw[h];rfl
theorem J5{ds:List D}(h:f ρ=some (.tup ds)):dz f ρ=some ds:=by unfold dz;rw[h];rfl
theorem fG{ds:List D}(h:f ρ=some (.lst ds)):dz f ρ=some ds:=by unfold dz;rw[h];rfl
theorem LZ(v a b:Nat):iZ false (nI v) (.tup [nI a,nI b])=some (.bl (decide (v=a)||decide (v=b))):=by
 unfold iZ lO;dsimp only;rw[show cJ [nI a,nI b]=0 from jb [a,b],if_pos (by lia)];show some (D.bl _)=_;congr 2;rw[Se,Se,List.any_nil,jd,jd,Xs,P2];simp only[Ri,lL,Po,if_false];lia
structure Gd(n:Nat)(r x:List Nat):Prop where
 R:Ord n r
 X:Ord n x
 lo:2<=n
 hi:n<=6
def IA(v a b:Nat):Bool:=decide (min a b<v)&&decide (v<max a b)
theorem Hb(v a b:Nat):gb [nI v,nI a,nI b]=some (.bl (IA v a b)):=by
 apply bh (kd:=.s) (n:=3) (t:=f8);unfold f8;refine a7 (zj (x:=nI (min a b)) (y:=nI v) (z:=nI (max a b)) ?_ rfl ?_ ?_ ?_)
 ·refine(bO (ds:=[nI a,nI b]) rfl).trans ?_
  show some (D.int _)=some (D.int _);congr 2;split<;>lia
 ·show some (D.bl (decide (((min a b:Nat):Int)<v)))=_;congr 2;rw[P2,lL,lL];lia
 ·refine(bO (ds:=[nI a,nI b]) rfl).trans ?_
  show some (D.int _)=some (D.int _);congr 2;split<;>lia
 ·show some (D.bl (decide ((v:Int)<((max a b:Nat):Int))))=_;congr 2;rw[P2,lL,lL];lia
def KH(r x:List Nat)(c:Nat):Bool:= !((decide (r.getD c 0=r.getD (c+1) 0)||decide (r.getD c 0=x.getD (c+1) 0))||(decide (x.getD c 0=r.getD (c+1) 0)||decide (x.getD c 0=x.getD (c+1) 0)))&&(IA (r.getD (c+1) 0) (r.getD c 0) (x.getD c 0)==IA (x.getD (c+1) 0) (r.getD c 0) (x.getD c 0))
def Eg(r x:List Nat)(c:Int):Bool:=(decide (0<=c)&&decide (c<=(r.length:Int) -2))&&KH r x c.toNat
theorem Hn{r:List D}{ρ ρ1 ρ2:aF}(a:g d ρ=some ρ1)(c:b ρ1=.rt e ρ2):fE g b (d::r) ρ=.rt e ρ2:=by
 show(match g d ρ with
  |none=>Out.no
  |some ρ1=>match b ρ1 with
   | .nx ρ2=>fE g b r ρ2
   | .ct ρ2=>fE g b r ρ2
   | .bk ρ2=>.nx ρ2
   | .rt d ρ2=>.rt d ρ2
   | .no=>.no)=_
 rw[a];dsimp only;rw[c]
set_option maxHeartbeats 1000000
theorem KR {kd:Kd}{n:Nat}{t:FS}{bs ds a:List D}{ρ:aF}(h:t (qv n bs ds)=.rt d ρ)(b:qO ρ=some a):zf kd n t bs ds=some (d,a):=by unfold zf;rw[h];dsimp only;rw[b];rfl
theorem vS {g:FG}{b:FS}{P:Nat->aF->Prop}: ∀(l:List D) (j:Nat),(∀d∈l,∀i ρ,i<j+l.length->P i ρ-> ∃ρ1 ρ2,g d ρ=some ρ1/\b ρ1=.nx ρ2/\P (i+1) ρ2)-> ∀ρ,P j ρ-> ∃ρ',fE g b l ρ=.nx ρ'/\P (j+l.length) ρ'
 | [],j,_,ρ,p=>⟨ρ,rfl,p⟩
 |d::l,j,h,ρ,p=>by
  obtain⟨ρ1,ρ2,k,a,f⟩:=h d (PH ..) j ρ (by rw[PL];lia) p;obtain⟨ρ',e,m⟩:=vS l (j+1) (λd' c i ρ n=>h d' (Pt _ c) i ρ (by rw[PL];lia)) ρ2 f;exact⟨ρ',(cI k a).trans e,by rw[PL,Yc l.length 1,<-jam];exact m⟩
set_option maxHeartbeats 4000000
set_option maxHeartbeats 1000000
theorem Az {g:FG}{b:FS}{P:Nat->aF->Prop}: ∀(k j:Nat),(∀i ρ,j<=i->i<j+k->P i ρ-> ∃ρ1 ρ2,g (nI i) ρ=some ρ1/\b ρ1=.nx ρ2/\P (i+1) ρ2)-> ∀ρ,P j ρ-> ∃ρ',fE g b ((SW j k).map nI) ρ=.nx ρ'/\P (j+k) ρ'
 |0,j,_,ρ,p=>⟨ρ,rfl,p⟩
 |k+1,j,h,ρ,p=>by
  obtain⟨ρ1,ρ2,f,c,d⟩:=h j ρ (Ph _) (by lia) p;obtain⟨ρ',e,l⟩:=Az k (j+1) (λi ρ a b=>h i ρ (by lia) (by lia)) ρ2 d;refine⟨ρ',?_,by rw[show j+(k+1)=j+1+k by lia];exact l⟩;rw[VV,Pe];exact(cI f c).trans e
def iC(acc:List (List Int))(k:List Int):List (List Int):=if k∈acc then lF acc k else lw acc k
def ny(ks:List (List Int)):List (List Int):=ks.foldl iC []
theorem xv(acc:List (List Int))(k z:List Int):z∈iC acc k↔(if z=k then¬z∈acc else z∈acc):=by
 unfold iC
 by_cases h:k∈acc
 ·rw[if_pos h];unfold lF;rw[Qf,lL]
  by_cases e:z=k
  ·rw[if_pos e];subst e;exact⟨λw=>absurd rfl w.2,λw=>absurd h w⟩
  ·rw[if_neg e];exact⟨λw=>w.1,λw=>⟨w,e⟩⟩
 ·rw[if_neg h];unfold lw;rw[if_neg h,QA,Px]
  by_cases e:z=k
  ·rw[if_pos e];subst e;exact⟨λ_=>h,λ_=>.inr rfl⟩
  ·rw[if_neg e];exact⟨λw=>w.elim id λq=>absurd q e,.inl⟩
theorem vd {acc:List (List Int)}(b:acc.Nodup)(k:List Int):(iC acc k).Nodup:=by
 unfold iC
 by_cases h:k∈acc
 ·rw[if_pos h];exact S4 Xd b
 ·rw[if_neg h];unfold lw;rw[if_neg h,QT];exact⟨b,by simp,λx c y a e=>by rw[Px] at a;subst a e;exact h c⟩
theorem Ed(acc:List (List Int))(k:List Int):(iC acc k).length<=acc.length+1:=by
 unfold iC lw lF;split
 ·exact Vu (Qo _ _)
 ·simp
theorem Am: ∀(ks:List (List Int)) {acc:List (List Int)},acc.Nodup->(ks.foldl iC acc).Nodup
 | [],_,h=>h
 |k::ks,_,h=>Am ks (vd h k)
theorem wB: ∀(ks acc:List (List Int)),(ks.foldl iC acc).length<=acc.length+ks.length
 | [],acc=>by simp
 |k::ks,acc=>by
  rw[TC,PL];have:=wB ks (iC acc k);have:=Ed acc k;lia
theorem vC(z:List Int): ∀(ks acc:List (List Int)),z∈ks.foldl iC acc↔(if z∈acc then(ks.count z) % 2=0 else(ks.count z) % 2=1)
 | [],acc=>by
   rw[List.foldl_nil,List.count_nil];split<;>simp_all
 |k::ks,acc=>by
  rw[TC,vC z ks (iC acc k),Y4];have h:=xv acc k z
  by_cases e:z=k
  ·rw[if_pos e] at h;have a:(k==z)=true:=by rw[e];exact beq_self_eq_true k
   rw[a,if_pos rfl]
   by_cases c:z∈acc
   ·rw[if_pos c,if_neg (λw=>h.mp w c)];lia
   ·rw[if_neg c,if_pos (h.mpr c)];lia
  ·rw[if_neg e] at h;have a:(k==z)=false:=by rw[beq_eq_false_iff_ne];exact λw=>e w.symm
   rw[a];simp only[Po,if_false,UT]
   by_cases c:z∈acc
   ·rw[if_pos c,if_pos (h.mpr c)]
   ·rw[if_neg c,if_neg (λw=>c (h.mp w))]
theorem pF(ks:List (List Int))(z:List Int):z∈ny ks↔(ks.count z) % 2=1:=by
 have:=vC z ks [];rw[if_neg (by simp)] at this;exact this
theorem ud(ks:List (List Int)):(ny ks).Nodup:=Am ks Vg
theorem Au(ks:List (List Int)):(ny ks).length<=ks.length:=by
 have:=wB ks [];unfold ny;simpa using this
theorem Fe{z:List Int}(h:z∈ny ks):z∈ks:=by
 have:=(pF ks z).mp h;exact Su.mp (by lia)
def c7(ks:List (List Int)):List (List Int):=bw bx (ny ks)
theorem sS {ks l:List (List Int)}(a:l.Nodup)(h: ∀z,z∈l↔(ks.count z) % 2=1):bw bx l=c7 ks:=
 k6 ((P0 a (ud ks)).mpr λz=>(h z).trans (pF ks z).symm)
section
variable {n:Nat}{r x:List Nat}(h1:r.length=n)(h2:x.length=n)(h3:2<=n)(h4:n<=6)
include h1 h2 h3 h4
theorem HY(c:Int):rQ [de r x,.int c]=some (.bl (Eg r x c)):=by
 apply rg (kd:=.s) (n:=7) (t:=iB);unfold iB Eg;have g:cw (gT 2 (cU (gN 2) (cU (gN 3) (gU)))) (pu (ai 0)) (kv 7 [de r x,.int c])=.nx [.v (de r x),.v (.int c),.v (ax r),.v (ax x),.no,.no,.no]:=fh (fx rfl) rfl;rw[aA g];have b:jR (bJ (E6 Li Li (aD (.int 0)) (ai 1) (av gR (ak c6 (aa (ai 2) (aj))) (aD (.int 2))))) [.v (de r x),.v (.int c),.v (ax r),.v (ax x),.no,.no,.no]=some (!(decide (0<=c)&&decide (c<=(r.length:Int) -2))):=
  oJ (bR (zj (x:=.int 0) (y:=.int c) (z:=.int ((r.length:Int) -2)) rfl rfl rfl ((aB (iI r _ _ rfl) (y:=.int 2) rfl).trans (iQ _ _)) rfl))
 by_cases d:0<=c/\c<=(r.length:Int) -2
 ·have e:(decide (0<=c)&&decide (c<=(r.length:Int) -2))=true:=by rw[Pi,lL,lL];exact d
  rw[e] at b⊢;rw[Qq];rw[aA (ir b)];obtain⟨c,rfl⟩: ∃m:Nat,c=m:=⟨c.toNat,by lia⟩
  rw[Rc];have f: ∀ρ:aF,ai 1 ρ=some (nI c)->av bS (ai 1) (aD (.int 1)) ρ=some (nI (c+1)):=λρ h=>(aB h (y:=.int 1) rfl).trans (CO c)
  rw[aA (ρ':=[.v (de r x),.v (.int c),.v (ax r),.v (ax x),.v (.tup [nI (r.getD c 0),nI (x.getD c 0)]),.no,.no]) ((bo (cq (ar ((aB (x:=ax r) (y:=nI c) rfl rfl).trans (ge (by lia))) (ar ((aB (x:=ax x) (y:=nI c) rfl rfl).trans (ge (by lia))) rfl)) (by simp))).trans rfl)];rw[aA (ρ':=[.v (de r x),.v (.int c),.v (ax r),.v (ax x),.v (.tup [nI (r.getD c 0),nI (x.getD c 0)]),.v (.tup [nI (r.getD (c+1) 0),nI (x.getD (c+1) 0)]),.no]) ((bo (cq (ar ((aB (x:=ax r) rfl (f _ rfl)).trans (ge (by lia))) (ar ((aB (x:=ax x) rfl (f _ rfl)).trans (ge (by lia))) rfl)) (by simp))).trans rfl)];have a:Fu (bJ (av (iZ false) (av bj (ai 4) (aD (.int 0))) (ai 5))) (bJ (av (iZ false) (av bj (ai 4) (aD (.int 1))) (ai 5))) [.v (de r x),.v (.int c),.v (ax r),.v (ax x),.v (.tup [nI (r.getD c 0),nI (x.getD c 0)]),.v (.tup [nI (r.getD (c+1) 0),nI (x.getD (c+1) 0)]),.no]=some ((decide (r.getD c 0=r.getD (c+1) 0)||decide (r.getD c 0=x.getD (c+1) 0))||(decide (x.getD c 0=r.getD (c+1) 0)||decide (x.getD c 0=x.getD (c+1) 0))):=
   KW (bR ((aB (x:=nI (r.getD c 0)) (y:=.tup [nI (r.getD (c+1) 0),nI (x.getD (c+1) 0)]) rfl rfl).trans (LZ _ _ _))) (bR ((aB (x:=nI (x.getD c 0)) (y:=.tup [nI (r.getD (c+1) 0),nI (x.getD (c+1) 0)]) rfl rfl).trans (LZ _ _ _)))
  unfold KH;revert a;generalize ((decide (r.getD c 0=r.getD (c+1) 0)||decide (r.getD c 0=x.getD (c+1) 0))||(decide (x.getD c 0=r.getD (c+1) 0)||decide (x.getD c 0=x.getD (c+1) 0)))=pb;intro a;cases pb with
  |true=>
   exact⟨_,oe ((gj a).trans rfl)⟩
  |false=>
   rw[aA (ir a)];generalize k:r.getD (c+1) 0=A;generalize l:x.getD (c+1) 0=B;generalize p:r.getD c 0=U;generalize j:x.getD c 0=V;have i:cb 1 (dz (ai 5)) (gN 7) (fQ (ak (nF 3 gb) (aa (ai 7) (aa (av bj (ai 4) (aD (.int 0))) (aa (av bj (ai 4) (aD (.int 1))) (aj)))))) (ai 7) [.v (de r x),.v (.int c),.v (ax r),.v (ax x),.v (.tup [nI U,nI V]),.v (.tup [nI A,nI B]),.no]=some (.lst ((([A,B]:List Nat).filter λv=>IA v U V).map nI)):=
    eU (ds:=([A,B]:List Nat).map nI) (J5 rfl) (by simp) (iN (h:=nI) (o:=nI) (q:=λv=>IA v U V) ([A,B]:List Nat) λv _=>⟨_,rfl,ka ((aW (ds:=[nI v,nI U,nI V]) rfl rfl).trans (Hb v U V)),λ_=>rfl⟩)
   refine⟨_,(aA ((bo i).trans rfl)).trans (a7 ?_)⟩;refine(aB (vZ _ _ _ rfl) (y:=.int 1) rfl).trans ?_
   rw[j3 (by rw[fO];lia),jj];congr 2;cases e1:IA A U V<;>cases e2:IA B U V<;>simp[jdf,e1,e2]
 ·have e:(decide (0<=c)&&decide (c<=(r.length:Int) -2))=false:=by rw[Vy,Ne,Pi,lL,lL];exact d
  rw[e] at b⊢;exact⟨_,oe ((gj b).trans rfl)⟩
end
def CJ(n a b:Nat):Nat:=Nat.div (cond (Yh a b) (Sb (Sc (Sc 2 n) b) (Sc (Sc 2 n) a)) (Sb (TL (Sb (Sc (Sc 2 n) n) (Sc (Sc 2 n) a)) (Sc (Sc 2 n) b)) 1)) (Sb (Sc 2 n) 1)
def Fb(n a b:Nat):Nat:=cond (Yh a b) (Sb (Sc 2 b) (Sc 2 a)) (Sb (TL (Sb (Sc 2 n) (Sc 2 a)) (Sc 2 b)) 1)
def j2(n:Nat)(s:List Nat)(a b:Nat):Nat:=TM (CJ n a b) (Fb n (s.getD a 0) (s.getD b 0))
def ln(m i:Nat):Bool:=QD (V2 (Nat.shiftRight m i) 1) 1
def o0(n a m:Nat):Nat->List Nat->Bool
 |_,[]=>true
 |x,y::r=>and (or (QD x a) (not (ln m (TL (TM n x) y)))) (o0 n a m (RW x) r)
def Gh {α:Type}(n:Nat)(f:Nat->α):α:=Nat.rec (f 0) (λk _=>f (RW k)) n
def Cs {α:Type}:List Nat->(List Nat->α)->α
 | [],f=>f []
 |a::r,f=>Gh a λb=>Cs r λc=>f (b::c)
def Cr(n:Nat)(s:List Nat):List ((Nat×Nat)×Nat):=(O5 n).flatMap λa=>((O5 n).map λb=>((a,b),j2 n s a b)).filter λe=>and (not (QD a e.1.2)) (o0 n a e.2 0 s)
def F1(n a b x:Nat):Bool:=Nat.blt (Nat.mod (Sb (TL x n) a) n) (Nat.mod (Sb (TL b n) a) n)
def OI(u v:Bool):Bool:=cond u v (not v)
def BR(n:Nat):Bool:=(O5 n).all λa=>(O5 n).all λb=>(O5 n).all λp=>(O5 n).all λq=>and (Nat.blt (TM (CJ n a b) (Fb n p q)) (Sc 2 (TM n n))) ((O5 n).all λx=>(O5 n).all λy=>OI (ln (TM (CJ n a b) (Fb n p q)) (TL (TM n x) y)) (and (F1 n a b x) (F1 n p q y)))
theorem N9:BR 3=true:=by decide+kernel
theorem Nd:BR 4=true:=by decide+kernel
theorem Nj:BR 5=true:=by decide+kernel
theorem Oc:BR 6=true:=by decide+kernel
theorem JM(b:3<=n)(a:n<=6):BR n=true:=by
 have:n=3\/n=4\/n=5\/n=6:=by lia
 rcases this with rfl|rfl|rfl|rfl
 ·exact N9
 ·exact Nd
 ·exact Nj
 ·exact Oc
theorem qN(h:0<n)(d:a<n)(b x:Nat):F1 n a b x=bG n a b x:=by
 have c: ∀z:Nat,((z:Int) -a) % n=(((z+n-a) % n:Nat):Int):=λz=>by
  rw[RP,show((z+n-a:Nat):Int)=((z:Int) -a)+n by lia,TU]
 unfold F1 bG;rw[c,c,P2,lL,Int.ofNat_lt];exact iff_of_eq Nat.blt_eq
theorem gY(m i:Nat):ln m i=m.testBit i:=by
 unfold ln;rw[Nat.testBit_eq_decide_div_mod_eq,P2,lL,Nat.beq_eq,<-Nat.shiftRight_eq_div_pow,<-Nat.and_one_is_mod];exact Yj
theorem JB(h:OI u v=true):u=v:=by cases u<;>cases v<;>first|rfl|exact absurd h (by decide)
theorem JD(m:3<=n)(r:n<=6)(c:a<n)(l:b<n)(e:p<n)(g:q<n):CJ n a b*Fb n p q<2^(n*n)/\ ∀x y,x<n->y<n->(CJ n a b*Fb n p q).testBit (n*x+y)=(bG n a b x&&bG n p q y):=by
 have h:=JM m r;unfold BR at h;have R: ∀ {z:Nat},z<n->z∈O5 n:=λs=>O6.mpr s
 have f:=Pq.mp (Pq.mp (Pq.mp (Pq.mp h a (R c)) b (R l)) p (R e)) q (R g);obtain⟨o,k⟩:=(WX).mp f;refine⟨Nat.blt_eq.mp o,λx y j i=>?_⟩;have d:=JB (Pq.mp (Pq.mp k x (R j)) y (R i));rw[gY,qN (by lia) c,qN (by lia) e] at d;exact d
theorem HG {α β:Type}{f g:α->List β}{l:List α}(h: ∀a∈l,f a=g a):l.flatMap f=l.flatMap g:=by rw[YC,YC,PM h]
theorem jg {α:Type}(n:Nat)(f:Nat->α):Gh n f=f n:=by cases n<;>rfl
theorem pG {α:Type}: ∀(l:List Nat) (f:List Nat->α),Cs l f=f l
 | [],_=>rfl
 |a::r,f=>by unfold Cs;rw[jg,pG r]
theorem tv {n a m:Nat}: ∀(l:List Nat) (k:Nat),o0 n a m k l=true↔ ∀i,i<l.length->k+i≠a->m.testBit (n*(k+i)+l.getD i 0)=false
 | [],k=>by simp[o0]
 |y::r,k=>by
  unfold o0;rw[WX,tv r,gY,Bool.or_eq_true_iff,QP,Nat.beq_eq];constructor
  ·rintro⟨b,f⟩ i c d;cases i with
   |zero=>rcases b with b|b
          ·exact absurd b d
          ·exact b
   |succ i=>
    have:=f i (by simpa using c) (by lia);rw[show k+(i+1)=k.succ+i by lia];simpa using this
  ·intro h;refine⟨?_,λi c d=>?_⟩
   ·by_cases e:k=a
    ·exact .inl e
    ·exact .inr (h 0 (by simp) e)
   ·have:=h (i+1) (by simpa using c) (by lia);rw[show k+(i+1)=k.succ+i by lia] at this;simpa using this
theorem IE{o:List Nat}(f:3<=n)(e:n<=6)(O:Ord n o)(d:a<n)(c:b<n):j2 n o a b<2^(n*n)/\ ∀x y,x<n->y<n->(j2 n o a b).testBit (n*x+y)=(bG n a b x&&bG n (o.getD a 0) (o.getD b 0) y):=JD f e d c (O.get d) (O.get c)
theorem Lw(l:3<=n)(m:n<=6)(O:Ord n o)(f:a<n)(j:b<n)(k:a≠b):o0 n a (j2 n o a b) 0 o=bL o a b:=by
 rw[P2,tv,kl O f j k,O.len];have B:=(IE l m O f j).2;constructor
 ·rintro h x c ⟨i,i2,g,p⟩;have:=h x c (by lia);rw[Rk,B x _ c (O.get c),i,g] at this;exact absurd this (by decide)
 ·intro h x c d;rw[Rk] at d⊢;rw[B x _ c (O.get c)];cases i:bG n a b x with
  |false=>rfl
  |true=>
   cases g:bG n (o.getD a 0) (o.getD b 0) (o.getD x 0) with
   |false=>rfl
   |true=>exact absurd ⟨i,d,g,λe=>d (O.inj c f e)⟩ (h x c)
theorem Ae(g:3<=n)(f:n<=6)(O:Ord n o):Cr n o=(sp n (bL o)).map λp=>(p,j2 n o p.1 p.2):=by
 unfold Cr sp;rw[RQ];refine HG λa c=>?_
 have c:=O6.mp c;rw[Y5,Pw];have:(O5 n).filter ((λe:(Nat×Nat)×Nat=>and (not (QD a e.1.2)) (o0 n a e.2 0 o))∘λb=>((a,b),j2 n o a b))=(O5 n).filter λb=>decide (a≠b)&&bL o a b:=by
  refine List.filter_congr λb d=>?_
  have d:=O6.mp d;show and (not (QD a b)) (o0 n a (j2 n o a b) 0 o)=_
  by_cases e:a=b
  ·subst e;simp
  ·have:QD a b=false:=by cases h:QD a b with
    |false=>rfl
    |true=>exact absurd (Th h) e
   rw[Lw g f O c d e,this];simp[e]
 rw[this];rfl
theorem Ord.exx(O:Ord n o)(c:a<n)(d:b<n):Ord n (bA o a b):=⟨(swap_perm o a b (by rw[O.len];exact c) (by rw[O.len];exact d)).trans O.perm⟩
def rM(n:Nat)(o:List Nat)(p:Nat×Nat)(x y:Nat):Bool:=bG n p.1 p.2 x&&bG n (o.getD p.1 0) (o.getD p.2 0) y
section
variable {n:Nat}{o o':List Nat}{t u:Nat->Nat}
theorem AX(T:Mv n t)(U:Mv n u)(O:Ord n o)(q:Ord n o')(l: ∀c,c<n->o'.getD (t c) 0=u (o.getD c 0))(g:a<n)(i:b<n)(p:a≠b):bL o' (t a) (t b)=bL o a b:=by
 rw[P2,kl q (T.lt a g) (T.lt b i) λe=>p (T.inj a b g i e),kl O g i p,l a g,l b i];have j: ∀c,c<n->((bG n (t a) (t b) (t c)=true/\t c≠t a/\bG n (u (o.getD a 0)) (u (o.getD b 0)) (o'.getD (t c) 0)=true/\o'.getD (t c) 0≠u (o.getD a 0))↔(bG n a b c=true/\c≠a/\bG n (o.getD a 0) (o.getD b 0) (o.getD c 0)=true/\o.getD c 0≠o.getD a 0)):=λc f=>by
  rw[T.inb a b c g i f,l c f,U.inb _ _ _ (O.get g) (O.get i) (O.get f)];refine and_congr Yj (and_congr ⟨λh e=>h (e▸rfl),λh e=>h (T.inj _ _ f g e)⟩ (and_congr Yj ⟨λh e=>h (by rw[e]),λh e=>h (U.inj _ _ (O.get f) (O.get g) e)⟩))
 constructor
 ·exact λh c f k=>h (t c) (T.lt c f) ((j c f).mpr k)
 ·intro h c f;obtain⟨d,m,rfl⟩:=T.sur c f;exact λk=>h d m ((j d m).mp k)
theorem MP(T:Mv n t)(U:Mv n u)(O:Ord n o)(f: ∀c,c<n->o'.getD (t c) 0=u (o.getD c 0))(d:a<n)(e:b<n)(h:x<n)(g:y<n):rM n o' (t a,t b) (t x) (u y)=rM n o (a,b) x y:=by
 unfold rM;rw[T.inb a b x d e h,f a d,f b e,U.inb _ _ y (O.get d) (O.get e) g]
theorem mH:QD a b=decide (a=b):=by
 by_cases h:a=b
 ·subst h;simp
 ·rw[md h];cases e:QD a b with
  |false=>rfl
  |true=>exact absurd (Th e) h
end
theorem Cc {n:Nat}{r x o:List Nat}(O:Ord n o)(R:Ord n r)(X:Ord n x):rJ r x o a b=true↔ ∀c,c<n->rM n o (a,b) c (r.getD c 0)=false/\rM n o (a,b) c (x.getD c 0)=false:=by
 unfold rJ rM;rw[O.len,QP,Tl];simp only[jl,Ri,lL,not_or,not_and,Up];constructor
 ·intro h c f;cases i:bG n a b c with
  |false=>exact⟨.inl rfl,.inl rfl⟩
  |true=>
   obtain⟨d,e⟩:=h c ⟨f,i⟩;exact⟨.inr (Vy.mpr (d (R.get f))),.inr (Vy.mpr (e (X.get f)))⟩
 ·intro h c f;obtain⟨d,e⟩:=h c f.1;refine⟨λ_=>?_,λ_=>?_⟩
  ·rcases d with d|d
   ·rw[f.2] at d;cases d
   ·rw[d];decide
  ·rcases e with e|e
   ·rw[f.2] at e;cases e
   ·rw[e];decide
def ss:List Nat->Nat
 | []=>1
 |a::r=>TL (TM 8 (ss r)) a
def xf(n:Nat):Nat:=Sb (Sc 2 (TM n (Sb n 1))) (Sc 2 n)
abbrev TK:=List Nat->Nat->Nat->Nat->Bool
def F4(n b c a d:Nat):TK:=λ_ _ _ m=>and (not (ln m b)) (and (not (ln m c)) (and (not (ln m (TL (TM n (Sb n 1)) a))) (not (ln m (TL (TM n (Sb n 1)) d)))))
def jQ(n T:Nat):Nat:=Nat.mod (RW T) n
def L7(n s e a b:Nat):Bool:=and (not (F1 n s e a)) (not (F1 n s e b))
def Lh(n T c f e d:Nat):TK:=λs a b _=>and (or (QD a 0) (QD b 0)) (and (F1 n (s.getD a 0) (s.getD b 0) T) (and (L7 n (s.getD a 0) (jQ n T) c f) (L7 n (jQ n T) (s.getD b 0) e d)))
def JY(n:Nat)(s:List Nat)(F G:TK):List (Nat×Nat):=((Cr n s).filter λe=>F s e.1.1 e.1.2 e.2).flatMap λe=>Cs (bA s e.1.1 e.1.2) λs'=>((Cr n s').filter λa=>G s' a.1.1 a.1.2 a.2).map λa=>(ss (bA s' a.1.1 a.1.2),V2 (Yk e.2 a.2) (xf n))
def Ny(a b:Nat×Nat):Bool:=and (QD a.1 b.1) (QD a.2 b.2)
def La(e:Nat×Nat):List (Nat×Nat)->Option (List (Nat×Nat))
 | []=>none
 |a::l=>cond (Ny a e) (some l) (match La e l with|some b=>some (a::b)|none=>none)
def MT(e:Nat×Nat)(l:List (Nat×Nat)):List (Nat×Nat):=match La e l with|some a=>a|none=>e::l
def F3:List (Nat×Nat)->List (Nat×Nat)->List (Nat×Nat)
 | [],acc=>acc
 |e::l,acc=>Gh e.1 λk=>Gh e.2 λm=>F3 l (MT (k,m) acc)
def OC(n x m:Nat):Bool:=(O5 n).all λy=>ln m (TL (TM n x) y)
def OE(n y m:Nat):Bool:=(O5 n).all λx=>or (QD x 0) (or (QD (RW x) n) (ln m (TL (TM n x) y)))
def K7(n m:Nat):Bool:=or ((O5 n).any λx=>and (not (or (QD x 0) (QD (RW x) n))) (OC n x m)) ((O5 n).any λy=>OE n y m)
def og(n a q l:Nat)(s:List Nat):List (Nat×Nat):=JY n s (F4 n a q (Sb n 1) l) (Lh n (Sb n 1) a q (Sb n 1) l)++JY n s (Lh n (Sb n 1) a q (Sb n 1) l) (F4 n (Sb n 1) l a q)
def MW(n:Nat):List (Nat×Nat)->List (Nat×Nat)->Nat->Bool
 | [],acc,k=>and (Yh k 63) (acc.all λe=>K7 n e.2)
 |e::l,acc,k=>Gh e.1 λc=>Gh e.2 λm=>MW n l (MT (c,m) acc) (RW k)
def nQ(n:Nat)(L:List (Nat×Nat)):Bool:=MW n L [] 0
def kE(n:Nat)(P:List Nat->Bool):Nat->List Nat->Bool
 |0,s=>Cs s P
 |k+1,s=>(O5 n).all λh=>or (decide (h∈s)) (kE n P k (s++[h]))
theorem LS:kE 4 (λs=>nQ 4 (og 4 0 1 2 s)) 4 []=true:=by decide+kernel
theorem vD:kE 5 (λs=>nQ 5 (og 5 0 1 2 s)) 4 [0]=true:=by decide+kernel
theorem xF:kE 5 (λs=>nQ 5 (og 5 0 1 2 s)) 4 [1]=true:=by decide+kernel
theorem wg:kE 5 (λs=>nQ 5 (og 5 0 1 2 s)) 4 [2]=true:=by decide+kernel
theorem xD:kE 5 (λs=>nQ 5 (og 5 0 1 2 s)) 4 [3]=true:=by decide+kernel
theorem xE:kE 5 (λs=>nQ 5 (og 5 0 1 2 s)) 4 [4]=true:=by decide+kernel
theorem vO:kE 5 (λs=>nQ 5 (og 5 0 1 3 s)) 4 [0]=true:=by decide+kernel
theorem vN:kE 5 (λs=>nQ 5 (og 5 0 1 3 s)) 4 [1]=true:=by decide+kernel
theorem v8:kE 5 (λs=>nQ 5 (og 5 0 1 3 s)) 4 [2]=true:=by decide+kernel
theorem vT:kE 5 (λs=>nQ 5 (og 5 0 1 3 s)) 4 [3]=true:=by decide+kernel
theorem xH:kE 5 (λs=>nQ 5 (og 5 0 1 3 s)) 4 [4]=true:=by decide+kernel
theorem v0:kE 5 (λs=>nQ 5 (og 5 0 2 3 s)) 4 [0]=true:=by decide+kernel
theorem xm:kE 5 (λs=>nQ 5 (og 5 0 2 3 s)) 4 [1]=true:=by decide+kernel
theorem xO:kE 5 (λs=>nQ 5 (og 5 0 2 3 s)) 4 [2]=true:=by decide+kernel
theorem vL:kE 5 (λs=>nQ 5 (og 5 0 2 3 s)) 4 [3]=true:=by decide+kernel
theorem wt:kE 5 (λs=>nQ 5 (og 5 0 2 3 s)) 4 [4]=true:=by decide+kernel
theorem xj:kE 5 (λs=>nQ 5 (og 5 1 2 3 s)) 4 [0]=true:=by decide+kernel
theorem vK:kE 5 (λs=>nQ 5 (og 5 1 2 3 s)) 4 [1]=true:=by decide+kernel
theorem vU:kE 5 (λs=>nQ 5 (og 5 1 2 3 s)) 4 [2]=true:=by decide+kernel
theorem wD:kE 5 (λs=>nQ 5 (og 5 1 2 3 s)) 4 [3]=true:=by decide+kernel
theorem xx:kE 5 (λs=>nQ 5 (og 5 1 2 3 s)) 4 [4]=true:=by decide+kernel
theorem nG(h: ∀x,x<n->x∉s->kE n P k (s++[x])=true):kE n P (k+1) s=true:=by
 unfold kE;refine Pq.mpr λx a=>?_
 by_cases e:x∈s
 ·rw[lR e];rfl
 ·rw[h x (O6.mp a) e];exact Bool.or_true _
theorem AC {p:Nat->Prop}(c:p 0)(a:p 1)(d:p 2)(b:p 3)(f:p 4)(x:Nat)(g:x<5):p x:=by
 have e:x=0\/x=1\/x=2\/x=3\/x=4:=by lia
 rcases e with rfl|rfl|rfl|rfl|rfl
 ·exact c
 ·exact a
 ·exact d
 ·exact b
 ·exact f
theorem uA{P:List Nat->Bool}: ∀(k:Nat) (s u:List Nat),kE n P k s=true->u.length=k->(s++u).Nodup->(∀v∈s++u,v<n)->P (s++u)=true
 |0,s,u,h,a,_,_=>by
  have:u=[]:=VZ.mp a;subst this;unfold kE at h;rw[pG] at h;rw[QJ];exact h
 |k+1,s,[],h,a,_,_=>by cases a
 |k+1,s,v::u,h,a,b,lt=>by
  unfold kE at h;have hv:=lt v (by simp);have:=Pq.mp h v (O6.mpr hv);have c:v∉s:=λw=>by
   rw[QT] at b;exact b.2.2 v w v PH rfl
  rw[md c,SL] at this;have r:=uA k (s++[v]) u this (by simpa using a) (by simpa using b) (by simpa using lt);simpa using r
theorem OV(h:4<=n)(g:n<=5)(c:r1<q)(f:q<l)(d:l+1<n)(O:Ord n s):nQ n (og n r1 q l s)=true:=by
 refine uA (P:=λs=>nQ n (og n r1 q l s)) n [] s ?_ O.len (by rw[YU];exact O.perm.nodup_iff.mpr PV) (λv hv=>O.lt hv);have b:n=4\/n=5:=by lia
 rcases b with rfl|rfl
 ·obtain⟨rfl,rfl,rfl⟩:r1=0/\q=1/\l=2:=by lia
  exact LS
 ·have e:(r1=0/\q=1/\l=2)\/(r1=0/\q=1/\l=3)\/(r1=0/\q=2/\l=3)\/(r1=1/\q=2/\l=3):=by lia
  rcases e with⟨rfl,rfl,rfl⟩|⟨rfl,rfl,rfl⟩|⟨rfl,rfl,rfl⟩|⟨rfl,rfl,rfl⟩
  ·exact nG λx a _=>AC (p:=λx=>kE 5 (λs=>nQ 5 (og 5 0 1 2 s)) 4 [x]=true) vD xF wg xD xE x a
  ·exact nG λx a _=>AC (p:=λx=>kE 5 (λs=>nQ 5 (og 5 0 1 3 s)) 4 [x]=true) vO vN v8 vT xH x a
  ·exact nG λx a _=>AC (p:=λx=>kE 5 (λs=>nQ 5 (og 5 0 2 3 s)) 4 [x]=true) v0 xm xO vL wt x a
  ·exact nG λx a _=>AC (p:=λx=>kE 5 (λs=>nQ 5 (og 5 1 2 3 s)) 4 [x]=true) xj vK vU wD xx x a
theorem GX(f:List Int->Nat){acc:List (List Int)}(b:acc.Nodup)(h:k∈acc):((lF acc k).map f).sum+f k=(acc.map f).sum:=by
 unfold lF
 induction acc with
 |nil=>cases h
 |cons a l d=>
  rw[Ru] at b
  by_cases e:a=k
  ·subst e;have:l.filter (λz=>decide (z≠a))=l:=QC.mpr λz g=>lR λw=>b.1 (w▸g)
   rw[RA (by simp),this,Pe,PP];lia
  ·have c:k∈l:=(PD.mp h).resolve_left λw=>e w.symm
   rw[RB (by simpa using e),Pe,PP,Pe,PP];have:=d b.2 c;lia
theorem D4(f:List Int->Nat){acc:List (List Int)}(a:acc.Nodup)(k:List Int):((iC acc k).map f).sum % 2=((acc.map f).sum+f k) % 2:=by
 unfold iC
 by_cases h:k∈acc
 ·rw[if_pos h];have:=GX f a h;lia
 ·rw[if_neg h];unfold lw;rw[if_neg h,Qa,UN];simp
theorem xk(f:List Int->Nat): ∀(ks:List (List Int)) {acc:List (List Int)},acc.Nodup->((ks.foldl iC acc).map f).sum % 2=((acc.map f).sum+(ks.map f).sum) % 2
 | [],acc,_=>by simp
 |k::ks,acc,a=>by
  rw[TC,xk f ks (vd a k),Pe,PP];have:=D4 f a k;lia
theorem Io(f:List Int->Nat)(ks:List (List Int)):((ny ks).map f).sum % 2=((ks.map f).sum) % 2:=by
 have:=xk f ks Vg;unfold ny;simpa using this
theorem gz {l m:List Nat}(p:l.Perm m):l.sum=m.sum:=by
 induction p with
 |nil=>rfl
 |cons x _ c=>rw[PP,PP,c]
 |swap x y l=>simp only[PP];lia
 |trans _ _ a b=>rw[a,b]
theorem Hy(f:List Int->Nat)(ks:List (List Int)):((c7 ks).map f).sum % 2=((ks.map f).sum) % 2:=by
 unfold c7;rw[gz ((aU (lt:=bx) (ny ks)).map f),Io]
theorem cO {α:Type}(z:List Int)(g:α->List (List Int)): ∀l:List α,(l.flatMap g).count z=(l.map λy=>(g y).count z).sum
 | []=>rfl
 |a::l=>by rw[P6,List.count_append,cO z g l,Pe,PP]
def zs(l:List Nat):List Int:=l.map W4
def uz(k:List Int):List Nat:=k.map V3
theorem eM(l:List Nat):uz (zs l)=l:=by
 unfold uz zs;rw[Pw];exact(PM λa _=>rfl).trans (WY l)
theorem Kp(h:zs a=zs b):a=b:=by rw[<-eM a,h,eM]
def eI(n:Nat)(r x:List Nat)(k:List Int):List (List Int):=(sp n (cH r x (uz k))).map λp=>zs (bA (uz k) p.1 p.2)
def bK(n:Nat)(r x:List Nat)(K:List (List Int)):List (List Int):=K.flatMap (eI n r x)
def xV(n:Nat)(r x:List Nat)(K:List (List Int)):List (List Int):=c7 (bK n r x K)
def i9(n:Nat)(K:List (List Int)):Prop:= ∀k∈K,∃o,Ord n o/\k=zs o
theorem JK(O:Ord n o):i9 n (eI n r x (zs o)):=λk a=>by
 unfold eI at a;rw[eM] at a;obtain⟨p,d,rfl⟩:=Pz.mp a;obtain⟨b,c,_⟩:=jf.mp d;exact⟨_,O.exx b c,rfl⟩
theorem Do{K:List (List Int)}(h:i9 n K):i9 n (bK n r x K):=λk a=>by
 obtain⟨y,b,a⟩:=QZ.mp a;obtain⟨o,O,rfl⟩:=h y b;exact JK O k a
theorem eL {ks:List (List Int)}:z∈c7 ks↔ks.count z % 2=1:=by
 unfold c7;rw[(aU (lt:=bx) (ny ks)).mem_iff,pF]
theorem gq(ks:List (List Int)):(c7 ks).Nodup:=by
 unfold c7;rw[(aU (lt:=bx) (ny ks)).nodup_iff];exact ud ks
theorem uq{r x:List Nat}{K:List (List Int)}(h:i9 n K):i9 n (xV n r x K):=λk a=>by
 have c:(bK n r x K).count k % 2=1:=eL.mp a;have b:0<(bK n r x K).count k:=by lia
 exact Do h k (Su.mp b)
def s2(n:Nat)(f:Nat->Nat->Nat):Nat:=((O5 n).map λa=>((O5 n).map λb=>f a b).sum).sum
theorem tw(h: ∀a b,a<n->b<n->f a b=g a b):s2 n f=s2 n g:=by
 unfold s2;congr 1;refine PM λa c=>?_
 congr 1;exact PM λb d=>h a b (O6.mp c) (O6.mp d)
theorem Mv.perm(T:Mv n t):((O5 n).map t).Perm (O5 n):=by
 refine(P0 ?_ PV).mpr λv=>?_
 ·rw[Rh,Qr];exact Qp (λ{a b} c i (g:a≠b) e=>g (T.inj a b (O6.mp c) (O6.mp i) e)) PV
 ·rw[Pz,O6];constructor
  ·rintro⟨a,c,rfl⟩;exact T.lt a (O6.mp c)
  ·intro h;obtain⟨d,f,e⟩:=T.sur v h;exact⟨d,O6.mpr f,e⟩
theorem IC(T:Mv n t)(f:Nat->Nat):((O5 n).map λa=>f (t a)).sum=((O5 n).map f).sum:=by
 have:=gz (T.perm.map f);rw[Pw] at this;exact this
theorem DQ(T:Mv n t)(f:Nat->Nat->Nat):s2 n (λa b=>f (t a) (t b))=s2 n f:=by
 unfold s2;rw[<-IC T λa=>((O5 n).map λb=>f a b).sum];congr 1;exact PM λa _=>IC T (f (t a))
theorem kc {α β:Type}(w:β->Nat)(g:α->List β): ∀l:List α,((l.flatMap g).map w).sum=(l.map λa=>((g a).map w).sum).sum
 | []=>rfl
 |a::l=>by rw[P6,Qa,UN,kc w g l,Pe,PP]
theorem jo {α:Type}(p:α->Bool)(w:α->Nat): ∀l:List α,((l.filter p).map w).sum=(l.map λa=>if p a=true then w a else 0).sum
 | []=>rfl
 |a::l=>by
  rw[Pe,PP,<-jo p w l,Us];split
  ·rw[Pe,PP]
  ·rw[Rk]
theorem qC(P:Nat->Nat->Bool)(w:Nat×Nat->Nat):((sp n P).map w).sum=s2 n λa b=>if(decide (a≠b)&&P a b)=true then w (a,b) else 0:=by
 unfold sp s2;rw[kc];congr 1;refine PM λa _=>?_
 rw[Pw,jo];rfl
theorem AB {α:Type}(f:α->List Int)(z:List Int): ∀l:List α,(l.map f).count z=(l.map λa=>if f a=z then 1 else 0).sum
 | []=>rfl
 |a::l=>by
  rw[Pe,Y4,AB f z l,Pe,PP,Yc];congr 1
  by_cases e:f a=z
  ·rw[if_pos e,e];simp
  ·rw[if_neg e];simp[e]
theorem An(w:Nat×Nat->Nat)(e:Nat×Nat): ∀(l b:List (Nat×Nat)),La e l=some b->(l.map w).sum=w e+(b.map w).sum
 | [],_,h=>by cases h
 |a::l,b,h=>by
  unfold La at h;cases q:Ny a e with
  |true=>
   rw[q] at h;cases h;unfold Ny at q;have q:(QD a.1 e.1&&QD a.2 e.2)=true:=q;rw[Pi] at q;have:a=e:=Prod.ext (Th q.1) (Th q.2);rw[this,Pe,PP]
  |false=>
   rw[q] at h;cases m:La e l with
   |none=>rw[m] at h;cases h
   |some u=>
    rw[m] at h;cases h;rw[Pe,PP,Pe,PP,An w e l u m];lia
theorem GW(w:Nat×Nat->Nat)(e:Nat×Nat)(l:List (Nat×Nat)):((MT e l).map w).sum % 2=(w e+(l.map w).sum) % 2:=by
 unfold MT;cases m:La e l with
 |none=>rw[Pe,PP]
 |some u=>
  have:=An w e l u m;show(u.map w).sum % 2=_;lia
theorem z9(w:Nat×Nat->Nat): ∀l acc:List (Nat×Nat),((F3 l acc).map w).sum % 2=((l.map w).sum+(acc.map w).sum) % 2
 | [],acc=>by simp[F3]
 |e::l,acc=>by
  unfold F3;rw[jg,jg,z9 w l,Pe,PP];have:=GW w (e.1,e.2) acc;have a:(e.1,e.2)=e:=rfl;rw[a] at this⊢;lia
theorem CF(n:Nat): ∀(L acc:List (Nat×Nat)) (k:Nat),MW n L acc k=true->k+L.length<=63/\(F3 L acc).all (λe=>K7 n e.2)=true
 | [],acc,k,h=>by
   have h:(Yh k 63&&acc.all λe=>K7 n e.2)=true:=h;rw[Pi] at h;exact⟨Pg h.1,h.2⟩
 |e::l,acc,k,h=>by
  unfold MW at h;rw[jg,jg] at h;have:=CF n l _ _ h;unfold F3;rw[jg,jg,PL];exact⟨by have:=this.1;lia,this.2⟩
theorem GS{L:List (Nat×Nat)}(h:nQ n L=true)(hw: ∀e,K7 n e.2=true->w e=0):(L.map w).sum % 2=0:=by
 have a:=z9 w L [];have h:=(CF n L [] 0 h).2;have b:((F3 L []).map w).sum=0:=by
  have:(F3 L []).map w=(F3 L []).map λ_=>0:=PM λe c=>hw e (Pq.mp h e c)
  rw[this];generalize F3 L []=M
  induction M with
  |nil=>rfl
  |cons x M d=>rw[Pe,PP,d]
 rw[b] at a;simpa using a.symm
theorem uS: ∀l,0<ss l
 | []=>Nat.one_pos
 |a::l=>by
  have:=uS l;show 0<8*ss l+a;lia
theorem Bj: ∀ {l m:List Nat},(∀v∈l,v<8)->(∀v∈m,v<8)->ss l=ss m->l=m
 | [],[],_,_,_=>rfl
 | [],b::m,_,_,e=>by
   have:=uS m;have e:1=8*ss m+b:=e;lia
 |a::l,[],_,_,e=>by
  have:=uS l;have e:8*ss l+a=1:=e;lia
 |a::l,b::m,c,d,e=>by
  have e:8*ss l+a=8*ss m+b:=e;have h:=c a PH;have i:=d b PH;have g:a=b:=by lia
  have f:ss l=ss m:=by lia
  rw[g,Bj (λv hv=>c v (Pt _ hv)) (λv hv=>d v (Pt _ hv)) f]
theorem HB(i:3<=n)(k:n<=6)(O:Ord n s)(F G:TK)(w:Nat×Nat->Nat):((JY n s F G).map w).sum=s2 n λa b=>if(decide (a≠b)&&(bL s a b&&F s a b (j2 n s a b)))=true then
 (s2 n λc d=>if(decide (c≠d)&&(bL (bA s a b) c d&&G (bA s a b) c d (j2 n (bA s a b) c d)))=true then w (ss (bA (bA s a b) c d),(j2 n s a b|||j2 n (bA s a b) c d)&&& xf n) else 0) else 0:=by
 have f: ∀ {s:List Nat},Ord n s-> ∀(F:TK) (g:(Nat×Nat)×Nat->Nat),(((Cr n s).filter λe=>F s e.1.1 e.1.2 e.2).map g).sum=s2 n λa b=>if(decide (a≠b)&&(bL s a b&&F s a b (j2 n s a b)))=true then g ((a,b),j2 n s a b) else 0:=λ{s} O F g=>by
  rw[Ae i k O,jo,Pw,qC];refine tw λa b _ _=>?_
  show(if(decide (a≠b)&&bL s a b)=true then(if F s a b (j2 n s a b)=true then g ((a,b),j2 n s a b) else 0) else 0)=_;cases decide (a≠b)<;>cases bL s a b<;>cases F s a b (j2 n s a b)<;>rfl
 unfold JY;rw[kc,f O F];refine tw λa b j h=>?_
 congr 1;rw[pG,Pw];exact f (O.exx j h) G _
def aL(n c:Nat):Nat->Nat:=F5 n (-((c:Int)+1))
def rl(c p:Nat)(o:List Nat):List Nat:=yu (zD o (-((c:Int)+1))) (-((p:Int)+1))
theorem AI {n k:Nat}(h:0<n):aL n k (jQ n k)=0:=by
 show(((((RW k) % n:Nat):Int)+ -((k:Int)+1)) % n).toNat=0;rw[RP,Uj,show((RW k:Nat):Int)+ -((k:Int)+1)=0 by lia];rfl
theorem MI(h:0<n):aL n k (jQ n v)=jQ n (aL n k v):=by
 have a:((aL n k v:Nat):Int)=((v:Int)+ -((k:Int)+1)) % n:=(pP _ h).2;have e:((aL n k (jQ n v):Nat):Int)=((jQ n (aL n k v):Nat):Int):=by
  rw[show((aL n k (jQ n v):Nat):Int)=(((jQ n v:Nat):Int)+ -((k:Int)+1)) % n from(pP _ h).2];show((((RW v) % n:Nat):Int)+ -((k:Int)+1)) % n=(((RW (aL n k v)) % n:Nat):Int);rw[RP,Uj,RP,show((RW (aL n k v):Nat):Int)=((aL n k v:Nat):Int)+1 by lia,a,Uj];congr 1;lia
 lia
theorem jt {n k:Nat}(h:k<n):aL n k k=n-1:=by
 have e:((k:Int)+ -((k:Int)+1)) % n=(n:Int) -1:=by
  rw[show(k:Int)+ -((k:Int)+1)= -1 by lia,<-TU];exact QH (by lia) (by lia)
 show(((k:Int)+ -((k:Int)+1)) % n).toNat=_;rw[e];lia
theorem iD {n:Nat}(h:0<n)(k:Nat):Mv n (aL n k):=qz h _
section
variable {n c p:Nat}{r x o:List Nat}
theorem gg(h:0<n)(b:o.length=n)(a:k<n):(rl c p o).getD (aL n c k) 0=aL n p (o.getD k 0):=by
 have T:=qz h (-((c:Int)+1));show(yu (zD o _) _).getD (F5 n _ k) 0=_;rw[Ke (n:=n) (by rw[wc,b]) _ (T.lt k a),J8 b h _ a];rfl
theorem yn(a:o.length=n):(rl c p o).length=n:=by unfold rl;rw[EW,wc,a]
theorem iy(h:0<n)(O:Ord n o):Ord n (rl c p o):=O.mv (qz h _) (qz h _) (yn O.len) λk a=>gg h O.len a
theorem Fs(h:0<n)(O:Ord n o)(e:a<n)(f:b<n):rl c p (bA o a b)=bA (rl c p o) (aL n c a) (aL n c b):=by
 have E:=O.exx e f;exact Ls (u:=aL n p) O.len (qz h _) (yn O.len) (yn E.len) e f (λk d=>gg h O.len d) λk d=>gg h E.len d
theorem Fw(h:0<n)(O:Ord n o)(d:Ord n o')(e:rl c p o=rl c p o'):o=o':=by
 refine qV (by rw[O.len,d.len]) λk b=>?_
 rw[O.len] at b;have a:=gg (c:=c) (p:=p) h O.len b;rw[e,gg h d.len b] at a;exact((qz h _).inj _ _ (d.get b) (O.get b) a).symm
def pr(n c p:Nat)(r x:List Nat)(m:Nat):Bool:=(O5 n).all λk=>(decide (k=c)||decide (k=c+1))||(!m.testBit (n*aL n c k+aL n p (r.getD k 0))&& !m.testBit (n*aL n c k+aL n p (x.getD k 0)))
theorem fo {m:Nat}:pr n c p r x m=true↔ ∀k,k<n->k≠c->k≠c+1->m.testBit (n*aL n c k+aL n p (r.getD k 0))=false/\m.testBit (n*aL n c k+aL n p (x.getD k 0))=false:=by
 unfold pr;rw[Pq];constructor
 ·intro h k d a b;have:=h k (O6.mpr d);rw[md a,md b] at this;simpa using this
 ·intro h k d
  by_cases a:k=c
  ·simp[a]
  ·by_cases b:k=c+1
   ·simp[b]
   ·have:=h k (O6.mp d) a b;rw[this.1,this.2];simp
theorem GF: ∀n,n<=5->4<=n-> ∀a,a<n-> ∀y,y<n->(xf n).testBit (n*a+y)=(decide (a≠0)&&decide (a+1≠n)):=by decide+kernel
theorem Bo(b:c+1<n)(a:k<n)(d:k≠c)(f:k≠c+1):aL n c k<n/\aL n c k≠0/\aL n c k+1≠n:=by
 have h:0<n:=by lia
 have T:=qz h (-((c:Int)+1));have g:aL n c (c+1)=0:=by
  have:=AI (k:=c) h;rwa [show jQ n c=c+1 from RS b] at this
 have i:=jt (n:=n) (k:=c) (by lia);have lt:=T.lt k a;refine⟨lt,λe=>f (T.inj _ _ a b (e.trans g.symm)),λe=>d (T.inj _ _ a (by lia) ?_)⟩;show aL n c k=aL n c c;rw[i];lia
theorem yg(v:4<=n)(t:n<=5)(u:c+1<n)(R:Ord n r)(X:Ord n x)(m f:Nat):pr n c p r x ((m|||f)&&& xf n)=(pr n c p r x m&&pr n c p r x f):=by
 have h:0<n:=by lia
 have U:=iD h p;rw[P2,Pi,fo,fo,fo];have e: ∀k y,k<n->k≠c->k≠c+1->y<n->(((m|||f)&&& xf n).testBit (n*aL n c k+aL n p y)=false↔m.testBit (n*aL n c k+aL n p y)=false/\f.testBit (n*aL n c k+aL n p y)=false):=λk y a b d l=>by
  obtain⟨o,s,j⟩:=Bo u a b d;rw[Y6,ZS,GF n t v _ o _ (U.lt y l),lR s,lR j];simp
 constructor
 ·intro q;refine⟨λk a b d=>?_,λk a b d=>?_⟩
  ·have:=q k a b d;rw[e k _ a b d (R.get a),e k _ a b d (X.get a)] at this;exact⟨this.1.1,this.2.1⟩
  ·have:=q k a b d;rw[e k _ a b d (R.get a),e k _ a b d (X.get a)] at this;exact⟨this.1.2,this.2.2⟩
 ·rintro⟨i,g⟩ k a b d;rw[e k _ a b d (R.get a),e k _ a b d (X.get a)];exact⟨⟨(i k a b d).1,(g k a b d).1⟩,(i k a b d).2,(g k a b d).2⟩
theorem E5:pr n c p r x 0=true:=fo.mpr λk _ _ _=>⟨V4 _,V4 _⟩
def HF(n c p:Nat)(r x:List Nat)(F:List Nat->Nat->Nat->Bool)(d:TK):Prop:= ∀o,Ord n o-> ∀a b,a<n->b<n->a≠b->
 F o a b=(bL o a b&&(d (rl c p o) (aL n c a) (aL n c b) (j2 n (rl c p o) (aL n c a) (aL n c b))&&pr n c p r x (j2 n (rl c p o) (aL n c a) (aL n c b))))
def two(n:Nat)(F G:List Nat->Nat->Nat->Bool)(o:List Nat):List (List Int):=(sp n (F o)).flatMap λp=>(sp n (G (bA o p.1 p.2))).map λq=>zs (bA (bA o p.1 p.2) q.1 q.2)
def wz(n c p:Nat)(r x z:List Nat)(e:Nat×Nat):Nat:=if e.1=ss (rl c p z)/\pr n c p r x e.2=true then 1 else 0
theorem Mh {n:Nat}{o:List Nat}(O:Ord n o)(a:n<=8): ∀v∈o,v<8:=λv hv=>Pn (O.lt hv) a
theorem AU(H:4<=n)(C:n<=5)(D:c+1<n)(R:Ord n r)(X:Ord n x)(M:HF n c p r x F F')(Q:HF n c p r x G G')(O:Ord n o){u:List Int->Nat}{w:Nat×Nat->Nat}(hw: ∀z,Ord n z-> ∀m,w (ss (rl c p z),m)=if pr n c p r x m=true then u (zs z) else 0):
 ((two n F G o).map u).sum=((JY n (rl c p o) F' G').map w).sum:=by
 have h:0<n:=by lia
 have T:=iD h c;have J:=iy (c:=c) (p:=p) h O;unfold two;rw[kc,qC,HB (by lia) (by lia) J];refine Yl ?_ (DQ T _)
 refine tw λa b i j=>?_
 by_cases f:a=b
 ·rw[md (show¬a≠b from λw=>w f),md (show¬aL n c a≠aL n c b from λw=>w (by rw[f])),Rq,Rq];rfl
 have B:aL n c a≠aL n c b:=λe=>f (T.inj a b i j e)
 have I: ∀ {o:List Nat},Ord n o-> ∀a b,a<n->b<n->a≠b->bL (rl c p o) (aL n c a) (aL n c b)=bL o a b:=λO a b i j f=>AX (u:=aL n p) T (iD h p) O (iy h O) (λk S=>gg h O.len S) i j f
 rw[lR f,lR B,Qq,Qq,M o O a b i j f];show _=if(bL (rl c p o) (aL n c a) (aL n c b)&&F' (rl c p o) (aL n c a) (aL n c b) (j2 n (rl c p o) (aL n c a) (aL n c b)))=true then _ else 0
 rw[I O a b i j f];have E:=O.exx i j;have L:bA (rl c p o) (aL n c a) (aL n c b)=rl c p (bA o a b):=(Fs h O i j).symm;rw[L];cases bL o a b with
 |false=>rfl
 |true=>
  rw[Qq,Qq];cases F' (rl c p o) (aL n c a) (aL n c b) (j2 n (rl c p o) (aL n c a) (aL n c b)) with
  |false=>rfl
  |true=>
   rw[Qq,if_pos (rfl:true=true),Pw,qC]
   by_cases y:pr n c p r x (j2 n (rl c p o) (aL n c a) (aL n c b))=true
   ·rw[if_pos y];refine Yl ?_ (DQ T _)
    refine tw λd e g q=>?_
    by_cases s:d=e
    ·rw[md (show¬d≠e from λw=>w s),md (show¬aL n c d≠aL n c e from λw=>w (by rw[s])),Rq,Rq];rfl
    have A:aL n c d≠aL n c e:=λw=>s (T.inj d e g q w)
    rw[lR s,lR A,Qq,Qq,Q _ E d e g q s];show _=if(bL (rl c p (bA o a b)) (aL n c d) (aL n c e)&&G' (rl c p (bA o a b)) (aL n c d) (aL n c e) (j2 n (rl c p (bA o a b)) (aL n c d) (aL n c e)))=true then w (ss (bA (rl c p (bA o a b)) (aL n c d) (aL n c e)),(j2 n (rl c p o) (aL n c a) (aL n c b)|||j2 n (rl c p (bA o a b)) (aL n c d) (aL n c e))&&& xf n) else 0
    rw[I E d e g q s,<-Fs h E g q];rw[hw _ (E.exx g q),yg H C D R X,y,Qq];show(if _ then u (zs (bA (bA o a b) d e)) else 0)=_;cases bL (bA o a b) d e<;>cases G' (rl c p (bA o a b)) (aL n c d) (aL n c e) (j2 n (rl c p (bA o a b)) (aL n c d) (aL n c e))<;>cases pr n c p r x (j2 n (rl c p (bA o a b)) (aL n c d) (aL n c e))<;>rfl
   ·have P:pr n c p r x (j2 n (rl c p o) (aL n c a) (aL n c b))=false:=by simpa using y
    rw[if_neg y];symm;have K:s2 n (λ_ _=>0)=0:=by
     have N: ∀l:List Nat,(l.map λ_=>0).sum=0:=λl=>by
      induction l with
      |nil=>rfl
      |cons a l U=>rw[Pe,PP,U]
     unfold s2;simp only[N]
    refine Yl ?_ K;refine tw λd e g q=>?_
    obtain⟨d',v,rfl⟩:=T.sur d g;obtain⟨V,t,rfl⟩:=T.sur e q;split
    ·rw[<-Fs h E v t,hw _ (E.exx v t),yg H C D R X,P];rfl
    ·rfl
theorem AQ(i:4<=n)(e:n<=5)(f:c+1<n)(R:Ord n r)(X:Ord n x)(d:HF n c p r x F F')(g:HF n c p r x G G')(O:Ord n o)(Z:Ord n z):
 (two n F G o).count (zs z)=((JY n (rl c p o) F' G').map (wz n c p r x z)).sum:=by
 have h:0<n:=by lia
 have:=AU i e f R X d g O (u:=λy=>if y=zs z then 1 else 0) (w:=wz n c p r x z) λy Y m=>by
  unfold wz;have b:ss (rl c p y)=ss (rl c p z)↔zs y=zs z:=
   ⟨λw=>by rw[Fw h Y Z (Bj (Mh (iy h Y) (by lia)) (Mh (iy h Z) (by lia)) w)],λw=>by rw[Kp w]⟩
  by_cases q:zs y=zs z
  ·have a:=b.mpr q;cases pr n c p r x m<;>simp[q,a]
  ·have a: ¬ss (rl c p y)=ss (rl c p z):=λw=>q (b.mp w)
   cases pr n c p r x m<;>simp[q,a]
 rw[<-this,<-AB,List.map_id']
end
def Pr(a b y z:Nat):Prop:=(a=y/\b=z)\/(a=z/\b=y)
theorem Pr.all {a b y z:Nat}(h:Pr a b y z){P:Nat->Prop}:(P a/\P b)↔(P y/\P z):=by
 rcases h with⟨rfl,rfl⟩|⟨rfl,rfl⟩
 ·exact Yj
 ·exact and_comm
theorem Pr.sw(h:Pr a b y z):Pr b a y z:=h.elim (λ⟨p,q⟩=>.inr ⟨q,p⟩) λ⟨p,q⟩=>.inl ⟨q,p⟩
section
variable {n c p:Nat}{r x o:List Nat}
theorem Dk(a:c+1<n):aL n c (c+1)=0:=by
 have:=AI (k:=c) (n:=n) (by lia);rwa [show jQ n c=c+1 from RS a] at this
theorem yq(l:4<=n)(j:n<=5)(O:Ord n o){a b k y:Nat}(e:a<n)(g:b<n)(d:k<n)(f:y<n):(j2 n (rl c p o) (aL n c a) (aL n c b)).testBit (n*aL n c k+aL n p y)=rM n o (a,b) k y:=by
 have h:0<n:=by lia
 have T:=iD h c;have U:=iD h p;have i:=iy (c:=c) (p:=p) h O;rw[(IE (by lia) (by lia) i (T.lt a e) (T.lt b g)).2 _ _ (T.lt k d) (U.lt y f)];exact MP (u:=aL n p) T U O (λk d=>gg h O.len d) e g d f
theorem MC(h4:4<=n)(h5:n<=5)(hc:c+1<n)(R:Ord n r)(X:Ord n x)(h1:r.getD c 0≠x.getD c 0)(h2:r.getD c 0≠x.getD (c+1) 0)(h3:r.getD (c+1) 0≠x.getD c 0)(h6:r.getD (c+1) 0≠x.getD (c+1) 0){m:Nat}(h:K7 n m=true):pr n c p r x m=false:=by
 have h0:0<n:=by lia
 have T:=iD h0 c;have U:=iD h0 p;cases f:pr n c p r x m with
 |false=>rfl
 |true=>
  exfalso;rw[fo] at f;have nI0:=Dk hc;have nC:=jt (n:=n) (k:=c) (by lia);unfold K7 at h;have h:(((O5 n).any λx=> !(QD x 0||QD (RW x) n)&&OC n x m)||((O5 n).any λy=>OE n y m))=true:=h;rw[Ri,VY,VY] at h;rcases h with⟨z,hz,q⟩|⟨y,hy,q⟩
  ·rw[Pi,QP,WZ,mH,mH,decide_eq_false_iff_not,decide_eq_false_iff_not] at q;obtain⟨k,hk,ek⟩:=T.sur z (O6.mp hz);have k1:k≠c:=λe=>q.1.2 (by rw[<-ek,e,nC];lia)
   have k2:k≠c+1:=λe=>q.1.1 (by rw[<-ek,e,nI0])
   have:=Pq.mp q.2 (aL n p (r.getD k 0)) (O6.mpr (U.lt _ (R.get hk)));have this:ln m (n*z+aL n p (r.getD k 0))=true:=this;rw[gY,<-ek,(f k hk k1 k2).1] at this;cases this
  ·obtain⟨v,hv,ev⟩:=U.sur y (O6.mp hy);have key: ∀k,k<n->k≠c->k≠c+1->m.testBit (n*aL n c k+y)=true:=λk hk k1 k2=>by
    have:=Pq.mp q (aL n c k) (O6.mpr (T.lt k hk));have this:(QD (aL n c k) 0||(QD (RW (aL n c k)) n||ln m (n*aL n c k+y)))=true:=this;obtain⟨t1,t2,t3⟩:=Bo hc hk k1 k2;rw[mH,mH,md t2,md t3,SL,SL,gY] at this;exact this
   have a1:=Ak R hv;have a2:=Ak X hv;have fin: ∀k,k<n->k≠c->k≠c+1->(r.getD k 0=v\/x.getD k 0=v)->False:=λk hk k1 k2 e=>by
    have b:=key k hk k1 k2;have g:=f k hk k1 k2;rw[<-ev] at b;rcases e with e|e
    ·rw[e,b] at g;cases g.1
    ·rw[e,b] at g;cases g.2
   by_cases e1:r.idxOf v=c
   ·refine fin _ a2.1 (λe=>?_) (λe=>?_) (.inr a2.2)
    ·rw[e1] at a1;rw[e] at a2;exact h1 (a1.2.trans a2.2.symm)
    ·rw[e1] at a1;rw[e] at a2;exact h2 (a1.2.trans a2.2.symm)
   ·by_cases e2:r.idxOf v=c+1
    ·refine fin _ a2.1 (λe=>?_) (λe=>?_) (.inr a2.2)
     ·rw[e2] at a1;rw[e] at a2;exact h3 (a1.2.trans a2.2.symm)
     ·rw[e2] at a1;rw[e] at a2;exact h6 (a1.2.trans a2.2.symm)
    ·exact fin _ a1.1 e1 e2 (.inl a1.2)
theorem pS {s t:List Nat}(I:4<=n)(E:n<=5)(m:c+1<n)(j:Ord n s)(l:Ord n t)(u: ∀k,k<n->k≠c->k≠c+1->s.getD k 0=r.getD k 0/\t.getD k 0=x.getD k 0)
 (F:Pr A1 A2 (aL n p (s.getD (c+1) 0)) (aL n p (t.getD (c+1) 0))) (G:Pr B1 B2 (aL n p (s.getD c 0)) (aL n p (t.getD c 0))):HF n c p r x (cH s t) (F4 n A1 A2 B1 B2):=λo O a b D B J=>by
 have g:=λk y (d:k<n) (i:y<n)=>yq (c:=c) (p:=p) I E O (a:=a) (b:=b) (k:=k) (y:=y) D B d i
 generalize j2 n (rl c p o) (aL n c a) (aL n c b)=M at g⊢;unfold cH;congr 1;rw[P2,Cc O j l,Pi,fo];have v:=Dk m;have z:=jt (n:=n) (k:=c) (by lia);have e:F4 n A1 A2 B1 B2 (rl c p o) (aL n c a) (aL n c b) M=true↔(M.testBit A1=false/\M.testBit A2=false)/\(M.testBit (n*(n-1)+B1)=false/\M.testBit (n*(n-1)+B2)=false):=by
  show(!ln M A1&&(!ln M A2&&(!ln M (n*(n-1)+B1)&& !ln M (n*(n-1)+B2))))=true↔_;rw[gY,gY,gY,gY];simp only[Pi,QP,and_assoc]
 rw[e,F.all (P:=λy=>M.testBit y=false),G.all (P:=λy=>M.testBit (n*(n-1)+y)=false)];have b0: ∀y,y<n->M.testBit (aL n p y)=rM n o (a,b) (c+1) y:=λy i=>by
  have:=g (c+1) y m i;rwa [v,Nat.mul_zero,Rk] at this
 have w: ∀y,y<n->M.testBit (n*(n-1)+aL n p y)=rM n o (a,b) c y:=λy i=>by
  have:=g c y (by lia) i;rwa [z] at this
 rw[b0 _ (j.get m),b0 _ (l.get m),w _ (j.get (by lia)),w _ (l.get (by lia))];constructor
 ·intro q
  exact⟨⟨q _ m,q c (by lia)⟩,λk d f h=>by
   have:=q k d
   rw[<-(u k d f h).1,<-(u k d f h).2,g k _ d (j.get d),g k _ d (l.get d)];exact this⟩
 ·rintro⟨⟨C,A⟩,H⟩ k d
  by_cases f:k=c
  ·rw[f];exact A
  ·by_cases h:k=c+1
   ·rw[h];exact C
   ·have:=H k d f h;rw[<-(u k d f h).1,<-(u k d f h).2,g k _ d (j.get d),g k _ d (l.get d)] at this;exact this
def N0(n c:Nat)(r x o:List Nat)(a b:Nat):Prop:= ∀k,k<n->k≠c->k≠c+1->rM n o (a,b) k (r.getD k 0)=false/\rM n o (a,b) k (x.getD k 0)=false
def IB(n s e a b:Nat):Prop:=bG n s e a=false/\bG n s e b=false
def HW(n c:Nat)(r x:List Nat)(T d g f e:Nat)(o:List Nat)(a b:Nat):Prop:=bL o a b=true/\((a=c+1\/b=c+1)/\(bG n (o.getD a 0) (o.getD b 0) T=true/\(IB n (o.getD a 0) (jQ n T) d g/\IB n (jQ n T) (o.getD b 0) f e)))/\N0 n c r x o a b
theorem Hx(h:4<=n)(g:n<=5)(R:Ord n r)(X:Ord n x)(O:Ord n o)(f:a<n)(e:b<n):pr n c p r x (j2 n (rl c p o) (aL n c a) (aL n c b))=true↔N0 n c r x o a b:=by
 rw[fo];refine forall_congr' λk=>forall_congr' λd=>forall_congr' λ_=>forall_congr' λ_=>?_
 rw[yq h g O f e d (R.get d),yq h g O f e d (X.get d)]
theorem zQ(b:0<n)(a:s<n)(c:e<n)(d:A1<n)(f:A2<n)(h:Pr A1' A2' (aL n p A1) (aL n p A2)):L7 n (aL n p s) (aL n p e) A1' A2'=true↔IB n s e A1 A2:=by
 have U:=iD b p;show(!F1 n _ _ _&& !F1 n _ _ _)=true↔_;rw[qN b (U.lt s a),qN b (U.lt s a),Pi,QP,QP,h.all (P:=λy=>bG n (aL n p s) (aL n p e) y=false),U.inb _ _ _ a c d,U.inb _ _ _ a c f];rfl
theorem FJ(h:0<n)(T:Nat):jQ n T<n:=RD _ h
theorem zW(d:c+1<n)(f:a<n):QD (aL n c a) 0=true↔a=c+1:=by
 rw[mH,lL];have T:=iD (show 0<n by lia) c;have b:=Dk d;exact⟨λe=>T.inj _ _ f d (e.trans b.symm),λe=>by rw[e,b]⟩
theorem AN(v:4<=n)(s:n<=5)(h:c+1<n)(R:Ord n r)(X:Ord n x)(w:T<n)(m:A1<n)(j:A2<n)(k:B1<n)(y:B2<n)
 (t:Pr A1' A2' (aL n p A1) (aL n p A2)) (u:Pr B1' B2' (aL n p B1) (aL n p B2)) (q: ∀o,Ord n o-> ∀a b,a<n->b<n->a≠b->(F o a b=true↔HW n c r x T A1 A2 B1 B2 o a b)):HF n c p r x F (Lh n (aL n p T) A1' A2' B1' B2'):=λo O a b e f l=>by
 have d:0<n:=by lia
 have U:=iD d p;rw[P2,q o O a b e f l,Pi,Pi,Hx v s R X O e f];unfold HW;refine and_congr Yj (and_congr ?_ Yj);have g:=O.get e;have i:=O.get f;show _↔(((QD (aL n c a) 0||QD (aL n c b) 0)&&(F1 n ((rl c p o).getD (aL n c a) 0) ((rl c p o).getD (aL n c b) 0) (aL n p T)&&(L7 n ((rl c p o).getD (aL n c a) 0) (jQ n (aL n p T)) A1' A2'&&L7 n (jQ n (aL n p T)) ((rl c p o).getD (aL n c b) 0) B1' B2')))=true);rw[gg d O.len e,gg d O.len f,<-MI d];simp only[Pi,Ri];rw[zW h e,zW h f,qN d (U.lt _ g),U.inb _ _ _ g i w,zQ d g (FJ d T) m j t,zQ d (FJ d T) i k y u]
end
def eR(n:Nat)(F:List Nat->Nat->Nat->Bool)(k:List Int):List (List Int):=(sp n (F (uz k))).map λp=>zs (bA (uz k) p.1 p.2)
def jS(e:List Int->List (List Int))(K:List (List Int)):List (List Int):=c7 (K.flatMap e)
theorem yO(n:Nat)(F G:List Nat->Nat->Nat->Bool)(o:List Nat):(eR n F (zs o)).flatMap (eR n G)=two n F G o:=by
 unfold eR two;rw[eM,List.flatMap_map];congr 1;funext p;rw[eM]
theorem yo(O:Ord n o):i9 n (eR n F (zs o)):=λk a=>by
 unfold eR at a;rw[eM] at a;obtain⟨p,d,rfl⟩:=Pz.mp a;obtain⟨b,c,_⟩:=jf.mp d;exact⟨_,O.exx b c,rfl⟩
theorem vF{K:List (List Int)}(h:i9 n K):i9 n (K.flatMap (eR n F)):=λk a=>by
 obtain⟨y,b,a⟩:=QZ.mp a;obtain⟨o,O,rfl⟩:=h y b;exact yo O k a
theorem HD{K:List (List Int)}(h:i9 n K):i9 n (c7 K):=λk a=>by
 have b:K.count k % 2=1:=eL.mp a;exact h k (Su.mp (by lia))
theorem Ah{F:List Nat->Nat->Nat->Bool}{K:List (List Int)}(h:i9 n K):i9 n (jS (eR n F) K):=HD (vF h)
theorem Em {A B:List (List Int)}(h: ∀z,A.count z % 2=B.count z % 2):c7 A=c7 B:=sS (ud A) λz=>by rw[pF,h z]
theorem Al(c b:List Int->List (List Int))(K:List (List Int))(z:List Int):((jS c K).flatMap b).count z % 2=((K.map λk=>((c k).flatMap b).count z).sum) % 2:=by
 have a:=Hy (λy=>(b y).count z) (K.flatMap c);unfold jS;rw[cO,a,<-cO,List.flatMap_assoc,cO]
theorem Bb: ∀K:List (List Int),(∀k∈K,f k % 2=g k % 2)->(K.map f).sum % 2=(K.map g).sum % 2
 | [],_=>rfl
 |k::K,h=>by
  rw[Pe,PP,Pe,PP];have:=Bb K λy a=>h y (Pt _ a)
  have:=h k PH;lia
theorem G2(O:Ord n o):i9 n (two n F G o):=by
 rw[<-yO];exact vF (yo O)
def nS(p a b:Nat):Bool:=decide (min a b<p)&&decide (p<max a b)
structure NI(n a b p q:Nat):Prop where
 ha:a<n
 hb:b<n
 hp:p<n
 hq:q<n
 ab:a≠b
 ap:a≠p
 aq:a≠q
 bp:b≠p
 bq:b≠q
 pq:p≠q
 ni:nS p a b=nS q a b
theorem qb(p a b:Nat):nS p a b=nS p b a:=by unfold nS;rw[Nat.min_comm,Nat.max_comm]
theorem NI.revL(h:NI n a b p q):NI n b a p q:=⟨h.hb,h.ha,h.hp,h.hq,h.ab.symm,h.bp,h.bq,h.ap,h.aq,h.pq,by rw[qb p,qb q];exact h.ni⟩
theorem NI.revR(h:NI n a b p q):NI n a b q p:=⟨h.ha,h.hb,h.hq,h.hp,h.ab,h.aq,h.ap,h.bq,h.bp,h.pq.symm,h.ni.symm⟩
def NE:Bool:=(O5 5).all λa=>(O5 5).all λb=>(O5 5).all λp=>(O5 5).all λq=> !(a !=b&&a !=p&&a !=q&&b !=p&&b !=q&&p !=q&&(nS p a b==nS q a b))||(nS a p q==nS b p q)
theorem GY:NE=true:=by decide+kernel
theorem NI.swap(h:NI n a b p q)(c:n<=5):NI n p q a b:=by
 refine⟨h.hp,h.hq,h.ha,h.hb,h.pq,h.ap.symm,h.bp.symm,h.aq.symm,h.bq.symm,h.ab,?_⟩;have k:=Pq.mp GY a (O6.mpr (Pn h.ha c));have k:=Pq.mp k b (O6.mpr (Pn h.hb c));have k:=Pq.mp k p (O6.mpr (Pn h.hp c));have k:=Pq.mp k q (O6.mpr (Pn h.hq c));rw[bne_iff_ne.mpr h.ab,bne_iff_ne.mpr h.ap,bne_iff_ne.mpr h.aq,bne_iff_ne.mpr h.bp,bne_iff_ne.mpr h.bq,bne_iff_ne.mpr h.pq,h.ni,beq_self_eq_true] at k;exact eq_of_beq k
def bz(a b p:Nat):Nat:=if nS p a b=true then min a b else max a b
def MR(n a b p q:Nat):Bool:=decide (min (aL n (bz a b p) p) (aL n (bz a b p) q)<aL n (bz a b p) (bz p q a))&&(decide (aL n (bz a b p) (bz p q a)<min (aL n (bz a b p) a) (aL n (bz a b p) b))&&(decide (min (aL n (bz a b p) a) (aL n (bz a b p) b)+1<n)&&(decide (max (aL n (bz a b p) p) (aL n (bz a b p) q)=aL n (bz a b p) (bz p q a))&&decide (max (aL n (bz a b p) a) (aL n (bz a b p) b)=n-1))))
theorem Ib:((O5 6).all λn=>(O5 n).all λa=>(O5 n).all λb=>(O5 n).all λp=>(O5 n).all λq=> !(a !=b&&a !=p&&a !=q&&b !=p&&b !=q&&p !=q&&(nS p a b==nS q a b))||MR n a b p q)=true:=by decide+kernel
theorem EQ(a b:Nat):Pr (min a b) (max a b) a b:=by
 unfold Pr;lia
theorem NI.cfg(h:NI n a b p q)(c:n<=5): ∃d l,d<aL n (bz a b p) (bz p q a)/\aL n (bz a b p) (bz p q a)<l/\l+1<n/\Pr d (aL n (bz a b p) (bz p q a)) (aL n (bz a b p) p) (aL n (bz a b p) q)/\Pr (n-1) l (aL n (bz a b p) a) (aL n (bz a b p) b):=by
 have k:=Ib;have k:=Pq.mp k n (O6.mpr (by lia));have k:=Pq.mp k a (O6.mpr h.ha);have k:=Pq.mp k b (O6.mpr h.hb);have k:=Pq.mp k p (O6.mpr h.hp);have k:=Pq.mp k q (O6.mpr h.hq);have e:(a !=b&&a !=p&&a !=q&&b !=p&&b !=q&&p !=q&&(nS p a b==nS q a b))=true:=by
  have f:=h.ab;have m:=h.ap;have v:=h.aq;have u:=h.bp;have c:=h.bq;have o:=h.pq;have g:=h.ni;simp[f,m,v,u,c,o,g]
 rw[e,Rp,SL] at k;unfold MR at k;simp only[Pi,lL] at k;obtain⟨i,r,t,j,s⟩:=k;refine⟨_,_,i,r,t,?_,?_⟩
 ·have:=EQ (aL n (bz a b p) p) (aL n (bz a b p) q);rw[j] at this;exact this
 ·have:=(EQ (aL n (bz a b p) a) (aL n (bz a b p) b)).sw;rw[s] at this;exact this
theorem uO(h:NI n a b p q):bz a b p<n/\bz p q a<n:=by
 have:=h.ha;have:=h.hb;have:=h.hp;have:=h.hq;unfold bz;constructor<;>split<;>lia
section
variable {n c:Nat}{r x r' x' o:List Nat}(h4:4<=n)(h5:n<=5)(hc:c+1<n)(R:Ord n r)(X:Ord n x)(R':Ord n r')(X':Ord n x')(N:NI n (r.getD c 0) (x.getD c 0) (r.getD (c+1) 0) (x.getD (c+1) 0))
 (ag: ∀k,k<n->k≠c->k≠c+1->r'.getD k 0=r.getD k 0/\x'.getD k 0=x.getD k 0) (s1:r'.getD c 0=r.getD (c+1) 0) (s2:r'.getD (c+1) 0=r.getD c 0) (s3:x'.getD c 0=x.getD (c+1) 0) (s4:x'.getD (c+1) 0=x.getD c 0)
include h4 h5 hc R X R' X' N ag s1 s2 s3 s4
theorem ND(s: ∀o,Ord n o-> ∀a b,a<n->b<n->a≠b->(B o a b=true↔HW n c r x (bz (r.getD c 0) (x.getD c 0) (r.getD (c+1) 0)) (r.getD (c+1) 0) (x.getD (c+1) 0) (r.getD c 0) (x.getD c 0) o a b))(O:Ord n o)(z:List Int):
 ((two n (cH r x) B o).count z+(two n B (cH r' x') o).count z) % 2=0:=by
 by_cases t: ∃g,Ord n g/\z=zs g
 ·obtain⟨g,Z,rfl⟩:=t;obtain⟨i,l,j,h,q,d,f⟩:=N.cfg h5;obtain⟨k,v⟩:=uO N;generalize bz (r.getD (c+1) 0) (x.getD (c+1) 0) (r.getD c 0)=V at j h d v;generalize bz (r.getD c 0) (x.getD c 0) (r.getD (c+1) 0)=T at s k j h q d f;have A:0<n:=by lia
  have u:HF n c T r x (cH r x) (F4 n i (aL n T V) (n-1) l):=pS h4 h5 hc R X (λ_ _ _ _=>⟨rfl,rfl⟩) d f;have y:HF n c T r x (cH r' x') (F4 n (n-1) l i (aL n T V)):=pS h4 h5 hc R' X' ag (by rw[s2,s4];exact f) (by rw[s1,s3];exact d);have m:HF n c T r x B (Lh n (n-1) i (aL n T V) (n-1) l):=by
   have:=AN (p:=T) h4 h5 hc R X k (R.get hc) (X.get hc) (R.get (by lia)) (X.get (by lia)) d f s;rwa [jt k] at this
  rw[AQ h4 h5 hc R X u m O Z,AQ h4 h5 hc R X m y O Z,<-UN,<-Qa];refine GS (OV h4 h5 j h q (iy (c:=c) (p:=T) A O)) λe C=>?_
  unfold wz;rw[MC h4 h5 hc R X N.ab N.aq N.bp.symm N.pq C];simp
 ·have zero: ∀ {F G:List Nat->Nat->Nat->Bool},(two n F G o).count z=0:=Vi.mpr λw=>t (G2 O z w)
  rw[zero,zero]
theorem Ga(f: ∀o,Ord n o-> ∀a b,a<n->b<n->a≠b->(B o a b=true↔HW n c r x (bz (r.getD c 0) (x.getD c 0) (r.getD (c+1) 0)) (r.getD (c+1) 0) (x.getD (c+1) 0) (r.getD c 0) (x.getD c 0) o a b)){K:List (List Int)}(d:i9 n K):
 jS (eR n (cH r' x')) (jS (eR n B) K)=jS (eR n B) (jS (eR n (cH r x)) K):=by
 refine Em λz=>?_
 rw[Al,Al];refine Bb K λk e=>?_
 obtain⟨o,O,rfl⟩:=d k e;rw[yO,yO];have:=ND h4 h5 hc R X R' X' N ag s1 s2 s3 s4 f O z;lia
end
set_option maxHeartbeats 4000000
def pc(n:Nat)(r o:List Nat):Int:=xW n o-Hw n r o-F8 n r o+xW n r+1
theorem Gg {l m:List Nat}(a:l.Nodup)(b:m.Nodup)(h: ∀z∈l,z∈m):l.length<=m.length:=by
 have p:l.Perm (m.filter λz=>decide (z∈l)):=(P0 a (Q2 _ b)).mpr λz=>by
  rw[Qf,lL];exact⟨λq=>⟨h z q,q⟩,λq=>q.2⟩
 rw[p.length_eq];exact Qo _ _
theorem Kf{S:Nat->Nat}(H:Sg n r x S)(f:y<n): ∃m,m<n/\led S m/\sT S y m:=by
 obtain⟨W,C⟩:=EJ H f;have d: ∀(l:List Nat),l≠[]-> ∃m∈l,∀z∈l,m<=z:=by
  intro l
  induction l with
  |nil=>intro h;exact absurd rfl h
  |cons a l g=>
   intro _
   by_cases e:l=[]
   ·subst e;exact⟨a,by simp,λz b=>by rw[Px] at b;lia⟩
   ·obtain⟨m,c,h⟩:=g e
    by_cases i:a<=m
    ·exact⟨a,by simp,λz b=>(PD.mp b).elim (λe=>by lia) λq=>by have:=h z q;lia⟩
    ·exact⟨m,by simp[c],λz b=>(PD.mp b).elim (λe=>by lia) λq=>h z q⟩
 obtain⟨m,c,h⟩:=d W (List.ne_nil_of_mem ((C.mem y).mpr (kh S y)));exact⟨m,C.lt m c,λz b=>h z ((C.mem z).mpr (sW ((C.mem m).mp c) b)),(C.mem m).mp c⟩
theorem Fa{S g:Nat->Nat}(H:Sg n r x S)(o:Sg n r' x' g){t:Nat->Nat}(lt: ∀c,c<n->t c<n)(D: ∀a b,a<n->b<n->sT g (t a) (t b)->sT S a b)(j: ∀s m,s<n->m<n->True):((O5 n).filter (jV S)).length<=((O5 n).filter (jV g)).length:=by
 have C: ∀s,∃m,s<n->m<n/\led g m/\sT g (t s) m:=λs=>by
  by_cases h:s<n
  ·obtain⟨m,k⟩:=Kf o (lt s h);exact⟨m,λ_=>k⟩
  ·exact⟨0,λq=>absurd q h⟩
 obtain⟨f,l⟩:=Uy.mp C;rw[<-Pc (f:=f)];refine Gg ?_ (Q2 _ PV) λz A=>?_
 ·show VI (·≠ ·) _;rw[Qr];refine Qp (λ{a b} i d u e=>u ?_) (show VI (·≠ ·) _ from Q2 _ PV);rw[Qf,O6,iv] at i d;obtain⟨E,I,B⟩:=l a i.1;obtain⟨J,G,y⟩:=l b d.1;have w:sT g (t a) (t b):=sW B (e▸v4 o (lt b d.1) y);have p:=D a b i.1 d.1 w;have L:=i.2 b p;have F:=d.2 a (v4 H i.1 p);lia
 ·obtain⟨s,j,rfl⟩:=Pz.mp A;rw[Qf,O6] at j;obtain⟨k,v,K⟩:=l s j.1;rw[Qf,O6,iv];exact⟨k,v⟩
theorem Js{S j:Nat->Nat}(H:Sg n r x S)(l:Sg n r' x' j){t:Nat->Nat}(lt: ∀c,c<n->t c<n)(i: ∀c,c<n-> ∃d,d<n/\t d=c)(k: ∀a b,a<n->b<n->(sT j (t a) (t b)↔sT S a b)):((O5 n).filter (jV j)).length=((O5 n).filter (jV S)).length:=by
 have m: ∀c,∃d,c<n->d<n/\t d=c:=λc=>by
  by_cases h:c<n
  ·obtain⟨d,o⟩:=i c h;exact⟨d,λ_=>o⟩
  ·exact⟨0,λq=>absurd q h⟩
 obtain⟨u,f⟩:=Uy.mp m;refine Nat.le_antisymm (Fa l H (t:=u) (λc p=>(f c p).1) (λa b g e q=>?_) λ_ _ _ _=>trivial) (Fa H l lt (λa b g e=>(k a b g e).mp) λ_ _ _ _=>trivial);have:=(k _ _ (f a g).1 (f b e).1).mpr q;rwa [(f a g).2,(f b e).2] at this
set_option maxHeartbeats 1000000
section
variable {n a b:Nat}{r o:List Nat}(O:Ord n o)(R:Ord n r)(ha:a<n)(hb:b<n)(ne:a≠b)
include O R ha hb ne
theorem Dl:pc n r o-pc n r (bA o a b)=1-2*mU n r o a b+2*vX n o a b:=by
 have c:=E9 O ha hb ne;have d:=Kn O R ha hb ne;have e:=Kl O R ha hb ne;unfold pc;lia
end
theorem Ic: ∀n,n<=6-> ∀c,c<n->c+1<n-> ∀k,k<n->bG n c (c+1) k=decide (k=c):=by decide+kernel
theorem Gs: ∀n,n<=6-> ∀c,c<n->c+1<n-> ∀b,b<n->(decide (b=c+1)||(!bG n (c+1) b c&&(bG n b (c+1) c&&(!bG n b (c+1) (c+1)&&bG n (c+1) b (c+1)))))=true:=by decide+kernel
theorem pJ(n:Nat)(e:n<=6)(c:Nat)(h:c<n)(f:c+1<n)(b:Nat)(d:b<n)(a:b≠c+1):bG n (c+1) b c=false/\bG n b (c+1) c=true/\bG n b (c+1) (c+1)=false/\bG n (c+1) b (c+1)=true:=by
 have k:=Gs n e c h f b d;rw[md a] at k;simpa using k
section
variable {n c:Nat}{r o:List Nat}(O:Ord n o)(R:Ord n r)(hn:n<=6)(hc:c+1<n)
include O R hn hc
theorem Bc:pc n (bA r c (c+1)) o-pc n r o=2*bi (decide (r.getD c 0<o.getD (c+1) 0)) -2*bi (decide (r.getD (c+1) 0<o.getD (c+1) 0)) -1+2*bi (decide (r.getD (c+1) 0<r.getD c 0)):=by
 have a:c<n:=by lia
 have b:c≠c+1:=by lia
 have p:Hw n r o-Hw n (bA r c (c+1)) o=bi (decide (o.getD (c+1) 0<=r.getD (c+1) 0)) -bi (decide (o.getD (c+1) 0<=r.getD c 0)):=by
  unfold Hw;rw[<-eD,<-kz PV (l:=O5 n) (bi (decide (o.getD (c+1) 0<=r.getD (c+1) 0)) -bi (decide (o.getD (c+1) 0<=r.getD c 0))) (O6.mpr hc)];refine bu λi _=>?_
  rw[oU R.len a hc b (λk u=>bi (decide (i<=k)&&decide (o.getD i 0<=u)))];simp only[jc]
  by_cases e:i=c+1
  ·subst e;rw[if_pos rfl,lR (Ph (c+1)),md (show¬c+1<=c by lia)];simp[bi]
  ·rw[if_neg e]
   by_cases l:i<=c
   ·rw[lR l,lR (show i<=c+1 by lia)];simp[bi]
   ·rw[md l,md (show¬i<=c+1 by lia)];simp[bi]
 have m:F8 n r o-F8 n (bA r c (c+1)) o=bi (decide (r.getD c 0<o.getD (c+1) 0)) -bi (decide (r.getD (c+1) 0<o.getD (c+1) 0)):=by
  unfold F8;rw[oU R.len a hc b (λk u=>ls (O5 n) λi=>bi (decide (k<i)&&decide (u<o.getD i 0))),<-h9,<-eD,<-eD,<-kz PV (l:=O5 n) (bi (decide (r.getD c 0<o.getD (c+1) 0)) -bi (decide (r.getD (c+1) 0<o.getD (c+1) 0))) (O6.mpr hc)];refine bu λi _=>?_
  simp only[jc]
  by_cases e:i=c+1
  ·subst e;rw[if_pos rfl,lR (show c<c+1 by lia),md (show¬c+1<c+1 by lia)];simp[bi]
  ·rw[if_neg e]
   by_cases l:c<i
   ·rw[lR l,lR (show c+1<i by lia)];simp[bi]
   ·rw[md l,md (show¬c+1<i by lia)];simp[bi]
 have g:=E9 R a hc b;have f:vX n r c (c+1)=0:=tX λk d=>by
  rw[Ic n hn c a hc k (O6.mp d)]
  by_cases e:k=c
  ·subst e;rw[md (show¬k≠k from λw=>w rfl),Rq];simp[bi]
  ·rw[md e];simp[bi]
 have h:wj n r c (c+1)=bi (decide (r.getD (c+1) 0<r.getD c 0)):=by
  unfold wj;rw[md (show¬c+1<c by lia),show(((c+1:Nat):Int) -c) % n=1 by rw[show((c+1:Nat):Int) -c=1 by lia];exact QH (by lia) (by lia)];simp[bi]
 rw[f,h] at g;have j:=gF (r.getD c 0) (o.getD (c+1) 0);have q:=gF (r.getD (c+1) 0) (o.getD (c+1) 0);unfold pc;lia
end
def Nr(n a b p q s e:Nat):Bool:=(bG n s e (bz a b p)&&((!bG n s (jQ n (bz a b p)) p&& !bG n s (jQ n (bz a b p)) q)&&(!bG n (jQ n (bz a b p)) e a&& !bG n (jQ n (bz a b p)) e b)))
def M9(n T U a b d c s e:Nat):Bool:=bG n s e U&&(bG n s U T&&((!bG n s (jQ n T) a&& !bG n s (jQ n T) b)&&((!bG n (jQ n T) (jQ n U) d&& !bG n (jQ n T) (jQ n U) c)&&(!bG n (jQ n U) e a&& !bG n (jQ n U) e b))))
def NT(a b p q:Nat):Bool:=a !=b&&a !=p&&a !=q&&b !=p&&b !=q&&p !=q&&(nS p a b==nS q a b)
def dR(n a p s e:Nat):Int:=2*bi (decide (a<e)) -2*bi (decide (p<e)) -1+2*bi (decide (p<a)) -1+2*bi (bG n s e p)
def dL(n a p s e:Nat):Int:=2*bi (decide (a<s)) -2*bi (decide (p<s)) -1+2*bi (decide (p<a)) -1+2*bi (bG n s e a)
def OG(n a b p q s e:Nat):Bool:= !NT a b p q||((!Nr n a b p q s e||(decide (dR n a p s e=0)&&(decide (dR n b q s e=0)&&(decide (dL n a p s e=0)&&decide (dL n b q s e=0)))))&&
 ((!M9 n (bz a b p) (bz p q a) p q a b s e||(bG n s e p&&bG n s e q))&&(!M9 n (bz p q a) (bz a b p) a b p q s e||(bG n s e a&&bG n s e b))))
theorem J1:((O5 6).all λn=>(O5 n).all λa=>(O5 n).all λb=>(O5 n).all λp=>(O5 n).all λq=>(O5 n).all λs=>(O5 n).all λe=>OG n a b p q s e)=true:=by decide+kernel
theorem NI.gck(h:NI n a b p q)(c:n<=5)(j:s<n)(u:e<n):
 (Nr n a b p q s e=true->dR n a p s e=0/\dR n b q s e=0/\dL n a p s e=0/\dL n b q s e=0)/\(M9 n (bz a b p) (bz p q a) p q a b s e=true->bG n s e p=true/\bG n s e q=true)/\(M9 n (bz p q a) (bz a b p) a b p q s e=true->bG n s e a=true/\bG n s e b=true):=by
 have k:=J1;have k:=Pq.mp k n (O6.mpr (by lia));have k:=Pq.mp k a (O6.mpr h.ha);have k:=Pq.mp k b (O6.mpr h.hb);have k:=Pq.mp k p (O6.mpr h.hp);have k:=Pq.mp k q (O6.mpr h.hq);have k:=Pq.mp k s (O6.mpr j);have k:=Pq.mp k e (O6.mpr u);have f:NT a b p q=true:=by
  have m:=h.ab;have g:=h.ap;have t:=h.aq;have l:=h.bp;have c:=h.bq;have i:=h.pq;have o:=h.ni;simp[NT,m,g,t,l,c,i,o]
 unfold OG at k;rw[f,Rp,SL] at k;simp only[Pi,Ri,QP,lL] at k;obtain⟨d,r,v⟩:=k;refine⟨λw=>?_,λw=>?_,λw=>?_⟩
 ·rcases d with z|z
  ·rw[w] at z;cases z
  ·exact z
 ·rcases r with z|z
  ·rw[w] at z;cases z
  ·exact z
 ·rcases v with z|z
  ·rw[w] at z;cases z
  ·exact z
section
variable {n c:Nat}{r x o:List Nat}(h5:n<=5)(hc:c+1<n)(R:Ord n r)(X:Ord n x)(N:NI n (r.getD c 0) (x.getD c 0) (r.getD (c+1) 0) (x.getD (c+1) 0))(O:Ord n o)
include h5 hc R X N O
omit X N h5 in
theorem As(u:n<=5)(t:a<n)(q:b<n)(j:a≠b)(p: ∀k,k<n->k≠c->k≠c+1->rM n o (a,b) k (r.getD k 0)=false):
 (a=c+1->mU n r o a b=bi (bG n (o.getD a 0) (o.getD b 0) (r.getD (c+1) 0)))/\(b=c+1->mU n r o a b=bi (bG n (o.getD a 0) (o.getD b 0) (r.getD c 0))):=by
 have i: ∀k,k<n->k≠c->k≠c+1->bi (bG n a b k)*bi (bG n (o.getD a 0) (o.getD b 0) (r.getD k 0))=0:=λk g m s=>by
  have:=p k g m s;unfold rM at this;rw[<-jc,this];rfl
 constructor
 ·intro e;subst e;have f:=pJ n (by lia) c (by lia) hc b q (Qu j);unfold mU;rw[<-kz PV (l:=O5 n) (bi (bG n (o.getD (c+1) 0) (o.getD b 0) (r.getD (c+1) 0))) (O6.mpr hc)];refine bu λk g=>?_
  by_cases d:k=c+1
  ·subst d;rw[if_pos rfl,f.2.2.2];simp[bi]
  ·rw[if_neg d]
   by_cases h:k=c
   ·subst h;rw[f.1];simp[bi]
   ·exact i k (O6.mp g) h d
 ·intro e;subst e;have f:=pJ n (by lia) c (by lia) hc a t j;unfold mU;rw[<-kz PV (l:=O5 n) (bi (bG n (o.getD a 0) (o.getD (c+1) 0) (r.getD c 0))) (O6.mpr (show c<n by lia))];refine bu λk g=>?_
  by_cases d:k=c
  ·subst d;rw[if_pos rfl,f.2.1];simp[bi]
  ·rw[if_neg d]
   by_cases h:k=c+1
   ·subst h;rw[f.2.2.1];simp[bi]
   ·exact i k (O6.mp g) d h
omit R X N h5 hc in
theorem Ip(f:a<n)(h:b<n)(g:a≠b)(c:bL o a b=true):vX n o a b=0:=tX λk d=>by
 have q:=(kl O f h g).mp c k (O6.mp d);rw[<-jc];cases e:bG n a b k&&(decide (k≠a)&&bG n (o.getD a 0) (o.getD b 0) (o.getD k 0)) with
 |false=>rfl
 |true=>
  rw[Pi,Pi,lL] at e;exact absurd ⟨e.1,e.2.1,e.2.2,λw=>e.2.1 (O.inj (O6.mp d) f w)⟩ q
theorem Hk(d:a<n)(f:b<n)(h:a≠b)(B:HW n c r x (bz (r.getD c 0) (x.getD c 0) (r.getD (c+1) 0)) (r.getD (c+1) 0) (x.getD (c+1) 0) (r.getD c 0) (x.getD c 0) o a b):
 pc n (bA r c (c+1)) (bA o a b)=pc n r o/\pc n (bA x c (c+1)) (bA o a b)=pc n x o:=by
 obtain⟨i,⟨K,I,A,C⟩,v⟩:=B;have E:=O.exx d f
 have g:=(N.gck h5 (O.get d) (O.get f)).1 (by
  unfold Nr;rw[I,A.1,A.2,C.1,C.2];rfl)
 have J:=Ip O d f h i;have H:=Dl O R d f h;have D:=Dl O X d f h;have y:=Bc E R (by lia) hc;have t:=Bc E X (by lia) hc;have z:=As hc R O h5 d f h λk m j p=>(v k m j p).1
 have u:=As hc X O h5 d f h λk m j p=>(v k m j p).2
 rw[J] at H D;rcases K with e|e
 ·have G:=z.1 e;have F:=u.1 e;have q:(bA o a b).getD (c+1) 0=o.getD b 0:=by
   rw[eX (by rw[O.len];exact d) (by rw[O.len];exact f),if_neg (λw=>h (e.trans w)),if_pos e.symm]
  rw[q] at y t;have s:=g.1;have l:=g.2.1;unfold dR at s l;lia
 ·have G:=z.2 e;have F:=u.2 e;have q:(bA o a b).getD (c+1) 0=o.getD a 0:=by
   rw[eX (by rw[O.len];exact d) (by rw[O.len];exact f),if_pos e.symm]
  rw[q] at y t;have s:=g.2.2.1;have l:=g.2.2.2;unfold dL at s l;lia
end
def ye(c k:Nat):Nat:=if k=c+1 then c else if k=c then c+1 else k
theorem Bn{x:List Nat}(X:Ord n x)(hv:v<n)(h:o7 (ax x) (nI v)=some (nI j)):x.getD j 0=v:=by
 obtain⟨i,a,c,b⟩:=Ar v x (X.has hv);have:o7 (ax x) (nI v)=some (nI i):=by
  show(if cJ (x.map nI)<=32 then(rT (x.map nI) (nI v)).map (λj=>D.int j) else none)=_;rw[if_pos (by rw[jb];lia)];unfold rT;rw[a];rfl
 rw[this] at h;have:(i:Int)=j:=by injection h with h;injection h
 have:i=j:=by lia
 rw[<-this];exact b
theorem DR{S j:Nat->Nat}(R:Ord n r)(X:Ord n x)(u:c+1<n)(H:Sg n r x S)(s:Sg n (bA r c (c+1)) (bA x c (c+1)) j):((O5 n).filter (jV j)).length=((O5 n).filter (jV S)).length:=by
 have i:c<n:=by lia
 have w:=R.exx i u;have v:=X.exx i u;have lt: ∀k,k<n->ye c k<n:=λk d=>by unfold ye;split<;>(try split)<;>lia
 have g: ∀k,ye c (ye c k)=k:=λk=>by unfold ye;split<;>split<;>(try split)<;>lia
 have t: ∀ {l:List Nat},l.length=n-> ∀k,k<n->(bA l c (c+1)).getD (ye c k) 0=l.getD k 0:=λ{l} y k d=>by
  rw[eX (by lia) (by lia)];unfold ye
  by_cases h:k=c+1
  ·rw[if_pos h,if_neg (show c≠c+1 by lia),if_pos rfl,h]
  ·rw[if_neg h]
   by_cases f:k=c
   ·rw[if_pos f,if_pos rfl,f]
   ·rw[if_neg f,if_neg h,if_neg f]
 have st: ∀k,k<n->j (ye c k)=ye c (S k):=λk d=>by
  have h:=Bn X (R.get d) (H.ev k d);have f:=Bn v (w.get (lt k d)) (s.ev _ (lt k d));rw[t R.len k d] at f;exact v.inj (s.lt _ (lt k d)) (lt _ (H.lt k d)) (by rw[f,t X.len _ (H.lt k d),h])
 have it: ∀a,a<n-> ∀m,t8 S m a<n/\t8 j m (ye c a)=ye c (t8 S m a):=λa o m=>by
  induction m with
  |zero=>exact⟨o,rfl⟩
  |succ m q=>exact⟨H.lt _ q.1,by show j _=ye c (S _);rw[q.2,st _ q.1]⟩
 have p: ∀a b,ye c a=ye c b->a=b:=λa b e=>by rw[<-g a,e,g]
 exact Js H s lt (λk d=>⟨ye c k,lt k d,g k⟩) λa b o z=>⟨λ⟨m,e⟩=>⟨m,p _ _ ((it a o m).2.symm.trans e)⟩,λ⟨m,e⟩=>⟨m,(it a o m).2.trans (by rw[e])⟩⟩
abbrev jT:=List Nat×List Nat
def kM(S:jT):D:=de S.1 S.2
def rK(S:jT)(c y:Nat):Bool:=decide (y=S.1.getD c 0\/y=S.2.getD c 0)
def Ln(n:Nat)(S:jT):Prop:=S.1.length=n/\S.2.length=n
theorem AW {n:Nat}{S:jT}(h:Ln n S)(a:c<n)(y:Nat):cN [kM S,nI c,nI y]=some (.bl (rK S c y)):=by
 apply bh (kd:=.s) (n:=5) (t:=lX);unfold lX;refine(aA (ρ':=[.v (kM S),.v (nI c),.v (nI y),.v (ax S.1),.v (ax S.2)]) (fh (fx rfl) rfl)).trans (a7 ((aB (x:=nI y) rfl (cq (ds:=[nI (S.1.getD c 0),nI (S.2.getD c 0)]) (ar ((aB (x:=ax S.1) (y:=nI c) rfl rfl).trans (ge (by rw[h.1];exact a))) (ar ((aB (x:=ax S.2) (y:=nI c) rfl rfl).trans (ge (by rw[h.2];exact a))) rfl)) (by simp))).trans (OB _ _ _)))
theorem C8(C R:List Nat)(f:Nat->Nat->Bool):(C.flatMap λc=>R.map λy=>f c y).any id=C.any λc=>R.any λy=>f c y:=by
 induction C with
 |nil=>rfl
 |cons c C a=>rw[P6,List.any_append,a,Se,Wi];rfl
theorem DN {α:Type}(C:List Nat)(R:List Nat)(f:Nat->Nat->α):(C.flatMap λc=>R.map λy=>f c y).length=C.length*R.length:=by
 induction C with
 |nil=>simp
 |cons c C a=>rw[P6,PF,a,Pc,PL,jaM];lia
theorem Co {n:Nat}{S:jT}(h:Ln n S){C R:List Nat}(d: ∀c∈C,c<n)(b:C.length*R.length<=1000):cW [kM S,.lst (C.map nI),.lst (R.map nI)]=some (.bl (!C.any λc=>R.any λy=>rK S c y)):=by
 apply bh (kd:=.s) (n:=3) (t:=fY);unfold fY;refine a7 (qw (oJ (bR ?_)));have a:jG 2 (dz (ai 1)) (gN 3) (cf) (dz (ai 2)) (gN 4) (cf) (ak (nF 3 cN) (aa (ai 0) (aa (ai 3) (aa (ai 4) (aj))))) (kv 3 [kM S,.lst (C.map nI),.lst (R.map nI)])=some (.lst ((C.flatMap λc=>R.map λy=>rK S c y).map D.bl)):=by
  refine pL (ds:=C.map nI) (fG rfl) ?_ (by rw[Pc,DN];exact b)
  refine(dH (h:=nI) (q:=λ_=>true) (o:=λc=>R.map λy=>D.bl (rK S c y)) C λc e=>⟨_,rfl,rfl,λ_=>?_⟩).trans ?_
  ·refine oo (ds:=R.map nI) (fG rfl) ?_
   refine(dH (h:=nI) (q:=λ_=>true) (o:=λy=>[D.bl (rK S c y)]) R λy f=>⟨_,rfl,rfl,λ_=>?_⟩).trans ?_
   ·exact kY ((aW (ds:=[kM S,nI c,nI y]) rfl rfl).trans (AW h (d c e) y))
   ·rw[jY,QC.mpr λ_ _=>rfl]
  ·rw[QC.mpr (λ_ _=>rfl),RQ];congr 2;funext c;rw[Pw];rfl
 rw[bO (ar a rfl),uc,C8]
def jM(a:List jT)(turns:List Nat)(col:Nat):Nat->List Nat->Bool
 |_,[]=>true
 |at_,y::R=> !rK (a.getD at_ ([],[])) col y&&jM a turns col (at_+if y∈turns then 1 else 0) R
def xl:FS:=aC (fy (fQ (ak (nF 3 cN) (aa (av bj (ai 3) (ai 5)) (aa (ai 0) (aa (ai 6) (aj)))))) (aY (aD (.bl false))) (cc))
 (fy (bJ (av (iZ false) (ai 6) (ai 4))) (Ee bS 5 (aD (.int 1))) (cc))
theorem sR {n:Nat}{a:List jT}{turns:List Nat}(p: ∀S∈a,Ln n S)(o:col<n)(b c:D): ∀(R:List Nat) (at_:Nat) (g:Sl),at_+(R.filter λy=>decide (y∈turns)).length<a.length->
 (jM a turns col at_ R=true-> ∃s k,fE (gN 6) xl (R.map nI) [.v (nI col),.v b,.v c,.v (.lst (a.map kM)),.v (.lst (turns.map nI)),.v (nI at_),g]=.nx [.v (nI col),.v b,.v c,.v (.lst (a.map kM)),.v (.lst (turns.map nI)),s,k])/\
 (jM a turns col at_ R=false-> ∃ρ,fE (gN 6) xl (R.map nI) [.v (nI col),.v b,.v c,.v (.lst (a.map kM)),.v (.lst (turns.map nI)),.v (nI at_),g]=.rt (.bl false) ρ)
 | [],at_,g,_=>⟨λ_=>⟨_,_,rfl⟩,λh=>by cases h⟩
 |y::R,at_,g,l=>by
  let st:Nat->aF:=λm=>[.v (nI col),.v b,.v c,.v (.lst (a.map kM)),.v (.lst (turns.map nI)),.v (nI m),.v (nI y)]
  have j:at_<a.length:=by lia
  have es:a.getD at_ ([],[])=a[at_]:=by simp[Qd,j]
  have i:fQ (ak (nF 3 cN) (aa (av bj (ai 3) (ai 5)) (aa (ai 0) (aa (ai 6) (aj))))) (st at_)=some (rK (a.getD at_ ([],[])) col y):=by
   refine ka ((aW (ds:=[kM (a.getD at_ ([],[])),nI col,nI y]) (ar ((aB (x:=.lst (a.map kM)) (y:=nI at_) rfl rfl).trans (uN (by rw[P5,Pd j,es];rfl))) rfl) rfl).trans (AW (n:=n) ?_ o y));rw[es];exact p _ (SS j)
  have d:bJ (av (iZ false) (ai 6) (ai 4)) (st at_)=some (decide (y∈turns)):=bR ((aB (x:=nI y) (y:=.lst (turns.map nI)) rfl rfl).trans (Nq _ _));have q:fy (bJ (av (iZ false) (ai 6) (ai 4))) (Ee bS 5 (aD (.int 1))) (cc) (st at_)=.nx (st (at_+if y∈turns then 1 else 0)):=by
   by_cases e:y∈turns
   ·rw[lR e] at d;rw[if_pos e,gj d];rfl
   ·rw[md e] at d;rw[if_neg e,mL d];rfl
  unfold jM;rw[Pe];cases e:rK (a.getD at_ ([],[])) col y with
  |true=>
   rw[e] at i;refine⟨λh=>by simp at h,λ_=>⟨st at_,?_⟩⟩;have:xl (st at_)=.rt (.bl false) (st at_):=oe ((gj i).trans rfl);exact Hn (ρ1:=st at_) rfl this
  |false=>
   rw[e] at i;rw[ZK,Qq];have r:xl (st at_)=.nx (st (at_+if y∈turns then 1 else 0)):=(aA ((mL i).trans rfl)).trans q;rw[cI (ρ1:=st at_) rfl r];refine sR p o b c R _ (.v (nI y)) ?_
   rw[Us] at l
   by_cases f:y∈turns
   ·rw[if_pos (lR f),PL] at l;rw[if_pos f];lia
   ·rw[if_neg (by rw[md f];decide)] at l;rw[if_neg f];lia
def dU(a:List jT)(turns:List Nat):D:=.tup [.lst (a.map kM),.lst (turns.map nI)]
theorem GP {n:Nat}{a:List jT}{turns:List Nat}{col:Nat}(c: ∀S∈a,Ln n S)(b:col<n)(R:List Nat)(d:(R.filter λy=>decide (y∈turns)).length<a.length):fw [nI col,.lst (R.map nI),dU a turns]=some (.bl (jM a turns col 0 R)):=by
 refine rg (kd:=.s) (n:=7) (t:=jh) ?_
 have k:=sR (n:=n) (turns:=turns) c b (.lst (R.map nI)) (dU a turns) R 0 .no (by lia);unfold jh;refine(λh=>?_ :(∃ρ,aC (im (b7 (dz (ai 1))) (gN 6) xl) (aY (aD (.bl true))) [.v (nI col),.v (.lst (R.map nI)),.v (dU a turns),.v (.lst (a.map kM)),.v (.lst (turns.map nI)),.v (nI 0),.no]=.rt (.bl (jM a turns col 0 R)) ρ)->_) ?_
 ·obtain⟨ρ,h⟩:=h;exact⟨ρ,(aA (ρ':=[.v (nI col),.v (.lst (R.map nI)),.v (dU a turns),.v (.lst (a.map kM)),.v (.lst (turns.map nI)),.no,.no]) (fh (fx rfl) rfl)).trans ((aA (ρ':=[.v (nI col),.v (.lst (R.map nI)),.v (dU a turns),.v (.lst (a.map kM)),.v (.lst (turns.map nI)),.v (nI 0),.no]) rfl).trans h)⟩
 ·cases e:jM a turns col 0 R with
  |true=>
   obtain⟨g,f,h⟩:=k.1 e;exact⟨_,(aA ((gm (bV (fG rfl))).trans h)).trans rfl⟩
  |false=>
   obtain⟨ρ,h⟩:=k.2 e;exact⟨ρ,oe ((gm (bV (fG rfl))).trans h)⟩
def dn(n:Nat)(S:jT)(o:List Nat)(a b col:Nat)(d:List jT)(turns:List Nat):Bool:=
 decide ((cC n (o.getD a 0) (o.getD b 0)).filter (λy=>decide (y∈turns))=turns)&&(bL o a b&&((!((cC n a b).filter λc=>decide (c≠col)).any λc=>(cC n (o.getD a 0) (o.getD b 0)).any λy=>rK S c y)&&jM d turns col 0 (cC n (o.getD a 0) (o.getD b 0))))
theorem J6 {n s e c:Nat}(h:0<n)(a:c∈cC n s e):c<n:=by
 unfold cC at a;obtain⟨i,_,rfl⟩:=Pz.mp a;exact RD _ h
theorem GO(l m:List Nat):dg (.lst (l.map nI)) (.lst (m.map nI))=decide (l=m):=by
 have e:=Bm (l.map W4) (m.map W4);have a:l.map W4=m.map W4↔l=m:=List.map_inj_right λx y h=>by injection h
 unfold cZ at e;rw[Pw,Pw] at e;unfold dg at e⊢;exact e.trans (decide_eq_decide.mpr a)
theorem tq{S:jT}{o:List Nat}{d:List jT}{turns:List Nat}(h:0<n)(M:n<=8)(w:Ln n S)(i:o.length=n)(m:a<n)(p:b<n)(B:col<n)(D: ∀S∈d,Ln n S)(F:turns.length<d.length):
 cD [kM S,ax o,nI a,nI b,nI col,dU d turns]=some (.bl (dn n S o a b col d turns)):=by
 refine rg (kd:=.s) (n:=10) (t:=n9) ?_
 let R:=cC n (o.getD a 0) (o.getD b 0)
 let C:=(cC n a b).filter λc=>decide (c≠col)
 let st:Sl->Sl->aF:=λI J=>[.v (kM S),.v (ax o),.v (nI a),.v (nI b),.v (nI col),.v (dU d turns),.v (.lst (d.map kM)),.v (.lst (turns.map nI)),I,J]
 have L:R.length<n:=nJ h _ _;have j:(cC n a b).length<n:=nJ h _ _;have N:C.length<n:=SY (Qo _ _) j;unfold n9;have H:cw (gT 2 (cU (gN 6) (cU (gN 7) (gU)))) (pu (ai 5)) (kv 10 [kM S,ax o,nI a,nI b,nI col,dU d turns])=.nx (st .no .no):=fh (fx rfl) rfl;have u:be 8 (ak (nF 3 eJ) (aa (ai 1) (aa (ai 2) (aa (ai 3) (aj))))) (st .no .no)=.nx (st (.v (.lst (R.map nI))) .no):=(bo ((aW (ds:=[ax o,nI a,nI b]) rfl rfl).trans (vn i h (by lia) m p))).trans rfl;have E:cb 1 (dz (ai 8)) (gN 10) (bJ (av (iZ false) (ai 10) (ai 7))) (ai 10) (st (.v (.lst (R.map nI))) .no)=some (.lst ((R.filter λy=>decide (y∈turns)).map nI)):=
  eU (ds:=R.map nI) (fG rfl) (by rw[Pc];lia) (iN (h:=nI) (o:=nI) (q:=λy=>decide (y∈turns)) R λy _=>⟨_,rfl,bR ((aB (x:=nI y) (y:=.lst (turns.map nI)) rfl rfl).trans (Nq _ _)),λ_=>rfl⟩)
 have e:bJ (av lh (cb 1 (dz (ai 8)) (gN 10) (bJ (av (iZ false) (ai 10) (ai 7))) (ai 10)) (ai 7)) (st (.v (.lst (R.map nI))) .no)=some (!decide ((R.filter λy=>decide (y∈turns))=turns)):=by
  refine bR ((aB E (y:=.lst (turns.map nI)) rfl).trans ?_);rw[j3 (wS _),GO]
 have f:jR (fQ (ak (nF 3 gp) (aa (ai 1) (aa (ai 2) (aa (ai 3) (aj)))))) (st (.v (.lst (R.map nI))) .no)=some (!bL o a b):=oJ (ka ((aW (ds:=[ax o,nI a,nI b]) rfl rfl).trans (Aj i h (by lia) m p)));have K:be 9 (cb 1 (dz (ak (nF 3 cg) (aa (ai 1) (aa (ai 2) (aa (ai 3) (aj)))))) (gN 10) (bJ (av lh (ai 10) (ai 4))) (ai 10)) (st (.v (.lst (R.map nI))) .no)=.nx (st (.v (.lst (R.map nI))) (.v (.lst (C.map nI)))):=by
  refine(bo (eU (ds:=(cC n a b).map nI) (fG ((aW (ds:=[ax o,nI a,nI b]) rfl rfl).trans (ua i h (by lia) a b))) (by rw[Pc];lia) (iN (h:=nI) (o:=nI) (q:=λc=>decide (c≠col)) (cC n a b) λc _=>⟨_,rfl,bR ((aB (x:=nI c) (y:=nI col) rfl rfl).trans ?_),λ_=>rfl⟩))).trans rfl;rw[j3 (by rw[fO];lia),jd];congr 2;rw[P2];simp
 unfold dn;rw[aA H,aA u];cases e1:decide ((cC n (o.getD a 0) (o.getD b 0)).filter (λy=>decide (y∈turns))=turns) with
 |false=>
  have e:bJ _ _=some (!decide ((cC n (o.getD a 0) (o.getD b 0)).filter (λy=>decide (y∈turns))=turns)):=e;rw[e1] at e;exact⟨_,oe ((gj (IX e)).trans rfl)⟩
 |true=>
  have e:bJ _ _=some (!decide ((cC n (o.getD a 0) (o.getD b 0)).filter (λy=>decide (y∈turns))=turns)):=e;rw[e1] at e;have A:=of_decide_eq_true e1;cases e2:bL o a b with
  |false=>
   rw[e2] at f;exact⟨_,oe ((gj (yD e f)).trans rfl)⟩
  |true=>
   rw[e2] at f;rw[aA (ir (yD e f)),aA K];have r:=Co w (C:=C) (R:=R) (λc g=>J6 h (Qf.mp g).1) (P8 (Ss (show C.length<=8 by lia) (show R.length<=8 by lia)) (by lia));have G:=GP (n:=n) (turns:=turns) (col:=col) D B R (by show(jdf _ (cC n (o.getD a 0) (o.getD b 0))).length<_;rw[A];exact F);have k:bJ (ak (nF 3 cW) (aa (ai 0) (aa (ai 9) (aa (ai 8) (aj))))) (st (.v (.lst (R.map nI))) (.v (.lst (C.map nI))))=some (!C.any λc=>R.any λy=>rK S c y):=bR ((aW (ds:=[kM S,.lst (C.map nI),.lst (R.map nI)]) rfl rfl).trans r);have l:bJ (ak (nF 3 fw) (aa (ai 4) (aa (ai 8) (aa (ai 5) (aj))))) (st (.v (.lst (R.map nI))) (.v (.lst (C.map nI))))=some (jM d turns col 0 R):=bR ((aW (ds:=[nI col,.lst (R.map nI),dU d turns]) rfl rfl).trans G);refine⟨_,a7 (qw ?_)⟩
   rw[Qq,Qq];exact mz k (λz=>by
    have z:(!((cC n a b).filter λc=>decide (c≠col)).any λc=>(cC n (o.getD a 0) (o.getD b 0)).any λy=>rK S c y)=true:=z
    rw[z,Qq];exact l) (λz=>by
    have z:(!((cC n a b).filter λc=>decide (c≠col)).any λc=>(cC n (o.getD a 0) (o.getD b 0)).any λy=>rK S c y)=false:=z
    rw[z];rfl)
def pA(P Q:Nat->Bool)(o:List Nat)(i j:Nat):List (List Nat):=(if(decide (j≠i)&&P j)=true then [bA o i j] else [])++(if(decide (j≠i)&&Q j)=true then [bA o j i] else [])
def iE(n:Nat)(P Q:Nat->Bool)(o:List Nat)(i:Nat):List (List Nat):=(O5 n).flatMap (pA P Q o i)
theorem Gb{S:jT}{o:List Nat}{rs ls:List jT}{rt lt:List Nat}(h:0<n)(I:n<=8)(G:Ln n S)(q:o.length=n)(r:c+1<n)(A: ∀S∈rs,Ln n S)(C: ∀S∈ls,Ln n S)(E:rt.length<rs.length)(w:lt.length<ls.length):
 eO [kM S,nI c,ax o,dU rs rt,dU ls lt]=some (.lst ((iE n (λj=>dn n S o (c+1) j (c+1) rs rt) (λj=>dn n S o j (c+1) c ls lt) o (c+1)).map ax)):=by
 let P:Nat->Bool:=λj=>dn n S o (c+1) j (c+1) rs rt
 let Q:Nat->Bool:=λj=>dn n S o j (c+1) c ls lt
 let st:List D->Sl->aF:=λF m=>[.v (kM S),.v (nI c),.v (ax o),.v (dU rs rt),.v (dU ls lt),.v (nI (c+1)),.own F,m]
 have bl: ∀j,(pA P Q o (c+1) j).length<=2:=λj=>by
  unfold pA;split<;>split<;>simp
 have s: ∀(j:Nat) (F:List D),j<n->F.length<=100->aC (fy (gS (bJ (av lh (ai 7) (ai 5))) (fQ (ak (nF 6 cD) (aa (ai 0) (aa (ai 2) (aa (ai 5) (aa (ai 7) (aa (ai 5) (aa (ai 3) (aj)))))))))) (cj (aK 6 1 gB (b7 (aa (ak (nF 3 cR) (aa (ai 2) (aa (ai 5) (aa (ai 7) (aj))))) (aj))))) (cc))
  (fy (gS (bJ (av lh (ai 7) (ai 5))) (fQ (ak (nF 6 cD) (aa (ai 0) (aa (ai 2) (aa (ai 7) (aa (ai 5) (aa (ai 1) (aa (ai 4) (aj)))))))))) (cj (aK 6 1 gB (b7 (aa (ak (nF 3 cR) (aa (ai 2) (aa (ai 7) (aa (ai 5) (aj))))) (aj))))) (cc)) (st F (.v (nI j)))=.nx (st (F++(pA P Q o (c+1) j).map ax) (.v (nI j))):=by
  intro j F l H;have N: ∀F,bJ (av lh (ai 7) (ai 5)) (st F (.v (nI j)))=some (decide (j≠c+1)):=λF=>by
   refine bR ((aB (x:=nI j) (y:=nI (c+1)) rfl rfl).trans ?_);rw[j3 (by rw[fO];lia),jd];congr 2;rw[P2];simp
  have K: ∀F,fQ (ak (nF 6 cD) (aa (ai 0) (aa (ai 2) (aa (ai 5) (aa (ai 7) (aa (ai 5) (aa (ai 3) (aj)))))))) (st F (.v (nI j)))=some (P j):=λF=>ka ((aW (ds:=[kM S,ax o,nI (c+1),nI j,nI (c+1),dU rs rt]) rfl rfl).trans (tq h I G q r l r A E))
  have J: ∀F,fQ (ak (nF 6 cD) (aa (ai 0) (aa (ai 2) (aa (ai 7) (aa (ai 5) (aa (ai 1) (aa (ai 4) (aj)))))))) (st F (.v (nI j)))=some (Q j):=λF=>ka ((aW (ds:=[kM S,ax o,nI j,nI (c+1),nI c,dU ls lt]) rfl rfl).trans (tq h I G q l r (by lia) C w))
  have O: ∀F:List D,F.length<=200->cj (aK 6 1 gB (b7 (aa (ak (nF 3 cR) (aa (ai 2) (aa (ai 5) (aa (ai 7) (aj))))) (aj)))) (st F (.v (nI j)))=.nx (st (F++[ax (bA o (c+1) j)]) (.v (nI j))):=λF H=>(rE (i:=6) (b0:=F) (bs:=F) (d:=ax (bA o (c+1) j)) rfl (bV (ar ((aW (ds:=[ax o,nI (c+1),nI j]) rfl rfl).trans (ou q r l)) rfl)) rfl (by lia)).trans rfl
  have L: ∀F:List D,F.length<=200->cj (aK 6 1 gB (b7 (aa (ak (nF 3 cR) (aa (ai 2) (aa (ai 7) (aa (ai 5) (aj))))) (aj)))) (st F (.v (nI j)))=.nx (st (F++[ax (bA o j (c+1))]) (.v (nI j))):=λF H=>(rE (i:=6) (b0:=F) (bs:=F) (d:=ax (bA o j (c+1))) rfl (bV (ar ((aW (ds:=[ax o,nI j,nI (c+1)]) rfl rfl).trans (ou q l r)) rfl)) rfl (by lia)).trans rfl
  have u: ∀(F:List D) (f:FT) (v:Bool),f (st F (.v (nI j)))=some v->gS (bJ (av lh (ai 7) (ai 5))) f (st F (.v (nI j)))=some (decide (j≠c+1)&&v):=λF f v hv=>mz (N F) (λz=>by rw[z,Qq];exact hv) (λz=>by rw[z];rfl)
  unfold pA;rw[Qa,<-QE];cases e1:(decide (j≠c+1)&&P j) with
  |true=>
   have p:=u F _ _ (K F);rw[e1] at p;rw[if_pos rfl,aA ((gj p).trans (O F (by lia)))];have a:=u (F++[ax (bA o (c+1) j)]) _ _ (J _);cases e2:(decide (j≠c+1)&&Q j) with
   |true=>rw[e2] at a;rw[if_pos rfl,gj a];exact L _ (by simp;lia)
   |false=>rw[e2] at a;rw[if_neg (by decide),ir a,SD,QJ];try rfl
  |false=>
   have p:=u F _ _ (K F);rw[e1] at p;rw[if_neg (by decide),aA (ir p),SD,QJ];have a:=u F _ _ (J _);cases e2:(decide (j≠c+1)&&Q j) with
   |true=>rw[e2] at a;rw[if_pos rfl,gj a];exact L _ (by lia)
   |false=>rw[e2] at a;rw[if_neg (by decide),ir a,SD,QJ];try rfl
 have R: ∀k,((O5 k).flatMap (pA P Q o (c+1))).length<=2*k:=λk=>by
  induction k with
  |zero=>simp
  |succ k T=>
   rw[Wu,Xf,PF,Wp];have:=bl k;lia
 obtain⟨ρ',M,m,rfl⟩:=Az (g:=gN 7) (b:=aC (fy (gS (bJ (av lh (ai 7) (ai 5))) (fQ (ak (nF 6 cD) (aa (ai 0) (aa (ai 2) (aa (ai 5) (aa (ai 7) (aa (ai 5) (aa (ai 3) (aj)))))))))) (cj (aK 6 1 gB (b7 (aa (ak (nF 3 cR) (aa (ai 2) (aa (ai 5) (aa (ai 7) (aj))))) (aj))))) (cc))
  (fy (gS (bJ (av lh (ai 7) (ai 5))) (fQ (ak (nF 6 cD) (aa (ai 0) (aa (ai 2) (aa (ai 7) (aa (ai 5) (aa (ai 1) (aa (ai 4) (aj)))))))))) (cj (aK 6 1 gB (b7 (aa (ak (nF 3 cR) (aa (ai 2) (aa (ai 7) (aa (ai 5) (aj))))) (aj))))) (cc)))
  (P:=λj ρ=> ∃m,ρ=st (((O5 j).flatMap (pA P Q o (c+1))).map ax) m) n 0 (λj ρ _ l B=>by
    obtain⟨m,e⟩:=B;subst e;rw[Rk] at l;refine⟨_,_,rfl,s j _ l (by rw[Pc];have:=R j;lia),.v (nI j),?_⟩
    rw[Wu,Xf,Wp,Qa]) (st [] .no) ⟨.no,rfl⟩
 rw[Rk] at M;apply bh (kd:=.n) (n:=8) (t:=kC);unfold kC;refine(aA (ρ':=[.v (kM S),.v (nI c),.v (ax o),.v (dU rs rt),.v (dU ls lt),.v (nI (c+1)),.no,.no]) ((bo ((aB (x:=nI c) (y:=.int 1) rfl rfl).trans (CO c))).trans rfl)).trans ?_
 refine(aA (ρ':=st [] .no) ((kR (cP (ds:=[]) rfl (by simp))).trans rfl)).trans ?_
 refine(aA ((gm (ds:=(O5 n).map nI) (bV (iY (n:=n) (ar ((iI o _ _ rfl).trans (by rw[q])) rfl) (by lia)))).trans (by rw[UG];exact M))).trans rfl
theorem yr {n s t:Nat}(b:s<n)(a:t<n):(s+(((t:Int) -s) % n).toNat) % n=t:=by
 have m:=pP ((t:Int) -s) (show 0<n by lia);have e:((t:Int) -s) % n=if s<=t then(t:Int) -s else(t:Int) -s+n:=by
  split
  ·exact QH (by lia) (by lia)
  ·rw[<-TU];exact QH (by lia) (by lia)
 rw[e] at m⊢;split
 ·rw[show s+((t:Int) -s).toNat=t by lia];exact RS a
 ·rw[show s+((t:Int) -s+n).toNat=t+n by lia,Nat.add_mod_right];exact RS a
theorem ue {n s e h:Nat}(hh:h<(((e:Int) -s) % n).toNat):(cC n s e).getD h 0=(s+h) % n:=by
 unfold cC;rw[Qd,P5,UP hh];rfl
theorem qS(n s e:Nat):(cC n s e).length=(((e:Int) -s) % n).toNat:=by unfold cC;simp
theorem mP(h:0<n):bG n s e t=true↔(((t:Int) -s) % n).toNat<(((e:Int) -s) % n).toNat:=by
 have b:=pP ((t:Int) -s) h;have a:=pP ((e:Int) -s) h;unfold bG;rw[lL];lia
theorem tF(a:List jT)(turns:List Nat)(col:Nat): ∀(R:List Nat) (at_:Nat),jM a turns col at_ R=(O5 R.length).all λh=> !rK (a.getD (at_+((R.take h).filter λy=>decide (y∈turns)).length) ([],[])) col (R.getD h 0)
 | [],at_=>rfl
 |y::R,at_=>by
  unfold jM;rw[tF a turns col R,PL,Sa,VE,Wf];congr 1;congr 1;funext h;show _= !rK (a.getD (at_+(((y::R).take (h+1)).filter λy=>decide (y∈turns)).length) ([],[])) col ((y::R).getD (h+1) 0);rw[UQ,Us]
  by_cases e:y∈turns
  ·rw[if_pos e,if_pos (lR e),PL];rw[show at_+1+((R.take h).filter λy=>decide (y∈turns)).length=at_+(((R.take h).filter λy=>decide (y∈turns)).length+1) by lia];rfl
  ·rw[if_neg e,if_neg (by rw[md e];decide),UT];rfl
theorem Ev {R:List Nat}(g:R.Nodup)(a:τ<R.length)(k:R.getD τ 0=T)(h:Nat):(R.take h).count T=if τ<h then 1 else 0:=by
 have f:R[τ]=T:=by rw[<-k];simp[Qd,a]
 have d:T∈R.take h↔τ<h:=by
  constructor
  ·intro w;obtain⟨i,b⟩:=Qb.mp w;rw[U5] at b;split at b
   ·rename_i c
    have j:R[τ]? =some T:=by rw[Pd a,f]
    have:=(Vx (Pu.mp b).1 g).mp (b.trans j.symm);lia
   ·cases b
  ·intro w;refine Qb.mpr ⟨τ,?_⟩;rw[U5,if_pos w,Pd a,f]
 have e:(R.take h).Nodup:=g.sublist (T3 _ _)
 by_cases c:τ<h
 ·rw[if_pos c];have l:=Su.mpr (d.mpr c);have m:=W0.mp e T;lia
 ·rw[if_neg c];exact Vi.mpr λw=>c (d.mp w)
theorem CS {n a b k:Nat}(e:a<n)(g:k<(((b:Int) -a) % n).toNat):0<k↔(a+k) % n≠a:=by
 have m:=pP ((b:Int) -a) (show 0<n by lia);have f:k<n:=by lia
 by_cases c:k=0
 ·subst c;rw[UT,RS e];simp
 ·refine⟨λ_=>?_,λ_=>by lia⟩
  by_cases d:a+k<n
  ·rw[RS d];lia
  ·rw[Nat.mod_eq_sub_mod (by lia),RS (by lia)];lia
theorem xz{o:List Nat}(O:Ord n o)(e:a<n)(p:b<n)(m:a≠b):bL o a b=true↔ ∀k,k<(((b:Int) -a) % n).toNat-> ¬(0<k/\bG n (o.getD a 0) (o.getD b 0) (o.getD ((a+k) % n) 0)=true):=by
 have h:0<n:=by lia
 rw[kl O e p m];constructor
 ·intro H k d ⟨i,l⟩;have j:(a+k) % n∈cC n a b:=by unfold cC;exact Pz.mpr ⟨k,by simpa using d,rfl⟩
  obtain⟨g,r⟩:=(kP h e b _).mp j;have f:=(CS e d).mp i;exact H _ g ⟨r,f,l,λz=>f (O.inj g e z)⟩
 ·intro H c g ⟨i,l,q,_⟩;have:c∈cC n a b:=(kP h e b c).mpr ⟨g,i⟩;unfold cC at this;obtain⟨k,d,rfl⟩:=Pz.mp this;have d:k<(((b:Int) -a) % n).toNat:=by simpa using d
  exact H k d ⟨(CS e d).mpr l,q⟩
def yT(n:Nat)(o:List Nat)(a b:Nat)(side:Nat->Nat->jT)(k:Nat):Bool:= !(decide (0<k)&&bG n (o.getD a 0) (o.getD b 0) (o.getD ((a+k) % n) 0))&&(O5 (((o.getD b 0:Int) -o.getD a 0) % n).toNat).all λh=> !rK (side ((a+k) % n) h) ((a+k) % n) ((o.getD a 0+h) % n)
def mT(n:Nat)(o:List Nat)(a b:Nat)(side:Nat->Nat->jT):Bool:=(O5 (((b:Int) -a) % n).toNat).all (yT n o a b side)
theorem yh {n:Nat}{S:jT}{o:List Nat}(O:Ord n o){a b col:Nat}(ha:a<n)(hb:b<n)(ne:a≠b){sides:List jT}{turns:List Nat}{side:Nat->Nat->jT}(hcol:col∈cC n a b)(hS: ∀c h,c≠col->side c h=S)
 (hB: ∀h,h<(((o.getD b 0:Int) -o.getD a 0) % n).toNat->side col h=sides.getD (((cC n (o.getD a 0) (o.getD b 0)).take h).filter λy=>decide (y∈turns)).length ([],[])):
 (bL o a b&&((!((cC n a b).filter λc=>decide (c≠col)).any λc=>(cC n (o.getD a 0) (o.getD b 0)).any λy=>rK S c y)&&jM sides turns col 0 (cC n (o.getD a 0) (o.getD b 0))))=mT n o a b side:=by
 have h:0<n:=by lia
 rw[P2,Pi,Pi,xz O ha hb ne,tF];unfold mT yT;simp only[Pq,O6,Pi,QP,Tl,Qf,lL,qS,Rk,Up,decide_eq_false_iff_not];have mC: ∀c,c∈cC n a b↔ ∃k,k<(((b:Int) -a) % n).toNat/\(a+k) % n=c:=λc=>by
  unfold cC;rw[Pz];exact⟨λ⟨k,hk,e⟩=>⟨k,by simpa using hk,e⟩,λ⟨k,hk,e⟩=>⟨k,by simpa using hk,e⟩⟩
 have mR: ∀y,y∈cC n (o.getD a 0) (o.getD b 0)↔ ∃k,k<(((o.getD b 0:Int) -o.getD a 0) % n).toNat/\(o.getD a 0+k) % n=y:=λc=>by
  unfold cC;rw[Pz];exact⟨λ⟨k,hk,e⟩=>⟨k,by simpa using hk,e⟩,λ⟨k,hk,e⟩=>⟨k,by simpa using hk,e⟩⟩
 constructor
 ·rintro⟨h1,h2,h3⟩ k hk;refine⟨?_,λi hi=>?_⟩
  ·by_cases c:0<k
   ·right;cases e:bG n (o.getD a 0) (o.getD b 0) (o.getD ((a+k) % n) 0) with
    |false=>rfl
    |true=>exact absurd ⟨c,e⟩ (h1 k hk)
   ·exact .inl c
  ·by_cases c:(a+k) % n=col
   ·rw[c,hB i hi,<-ue hi];exact h3 i hi
   ·rw[hS _ _ c];have:=h2 ((a+k) % n) ⟨(mC _).mpr ⟨k,hk,rfl⟩,c⟩;simp only[YD] at this;exact(Tl.mp this _ ((mR _).mpr ⟨i,hi,rfl⟩)|>λw=>by simpa using w)
 ·intro H;refine⟨λk hk ⟨w1,w2⟩=>?_,λc ⟨hc,hne⟩=>?_,λi hi=>?_⟩
  ·rcases(H k hk).1 with z|z
   ·exact z w1
   ·rw[z] at w2;cases w2
  ·obtain⟨k,hk,rfl⟩:=(mC c).mp hc;simp only[YD];refine Tl.mpr λy hy=>?_
   obtain⟨i,hi,rfl⟩:=(mR y).mp hy;have:=(H k hk).2 i hi;rw[hS _ _ hne] at this;rw[this];decide
  ·obtain⟨k,hk,e⟩:=(mC col).mp hcol;have:=(H k hk).2 i hi;rw[e,hB i hi,<-ue hi] at this;exact this
theorem ub(R:List Nat)(T:Nat):(R.filter λy=>decide (y∈[T]))=Pj (R.count T) T:=by
 rw[<-List.filter_beq];congr 1;funext y;rw[P2];simp
theorem Ht(h:0<n)(s e:Nat):(cC n s e).Nodup:=by
 unfold cC;have m:=pP ((e:Int) -s) h;refine jfI (R:=λi j:Nat=>i<n/\j<n/\i≠j) _ (λi j a f=>?_) ?_
 ·obtain⟨g,l,k⟩:=a;have b:=Y7 (s+i) n;have o:=Y7 (s+j) n;rw[f] at b;rcases RY ((s+i) / n) ((s+j) / n) with q|q|q
  ·have:n*((s+i) / n)+n<=n*((s+j) / n):=by rw[<-Wq];exact Xg _ q
   lia
  ·rw[q] at b;lia
  ·have:n*((s+j) / n)+n<=n*((s+i) / n):=by rw[<-Wq];exact Xg _ q
   lia
 ·refine Qp (λ{i j} d c (a:i≠j)=>⟨?_,?_,a⟩) PV
  ·have:=O6.mp d;lia
  ·have:=O6.mp c;lia
theorem JO {n s e T:Nat}(a:s<n)(b:T<n)(c:(((T:Int) -s) % n).toNat<(((e:Int) -s) % n).toNat):(cC n s e).getD (((T:Int) -s) % n).toNat 0=T:=by
 rw[ue c];exact yr a b
theorem CP {n s e T:Nat}(a:s<n)(b:T<n):T∈cC n s e↔(((T:Int) -s) % n).toNat<(((e:Int) -s) % n).toNat:=by
 rw[kP (by lia) a,mP (by lia)];exact⟨λq=>q.2,λq=>⟨b,q⟩⟩
theorem Et{S:jT}{o:List Nat}(O:Ord n o){a b col T:Nat}(p:a<n)(s:b<n)(q:a≠b)(k:T<n){d:List jT}{side:Nat->Nat->jT}(i:col∈cC n a b)(r: ∀c h,c≠col->side c h=S)
 (t: ∀h,side col h=d.getD (if(((T:Int) -o.getD a 0) % n).toNat<h then 1 else 0) ([],[])):
 dn n S o a b col d [T]=(decide ((((T:Int) -o.getD a 0) % n).toNat<(((o.getD b 0:Int) -o.getD a 0) % n).toNat)&&mT n o a b side):=by
 have h:0<n:=by lia
 have l:=Ht h (o.getD a 0) (o.getD b 0);have j:=O.get p;unfold dn
 by_cases f:(((T:Int) -o.getD a 0) % n).toNat<(((o.getD b 0:Int) -o.getD a 0) % n).toNat
 ·have m:=(CP (e:=o.getD b 0) j k).mpr f;have g:=JO (e:=o.getD b 0) j k f;have c:=W0.mp l T;have v:=Su.mpr m;rw[lR f,ub,show(cC n (o.getD a 0) (o.getD b 0)).count T=1 by lia,lR (by rfl),Qq,Qq];refine yh O p s q i r λh u=>?_
  rw[t,ub,Um,Ev l (by rw[qS];exact f) g]
 ·have m: ¬T∈cC n (o.getD a 0) (o.getD b 0):=λw=>f ((CP j k).mp w)
  rw[md f,ub,Vi.mpr m,md (by simp),Rq,Rq]
theorem CY: ∀n,n<=5-> ∀s,s<n-> ∀h,h<n->((((s+h) % n:Nat):Int) -s) % n=h:=by decide+kernel
theorem zM {n s e h:Nat}(c:n<=5)(b:s<n)(a:h<n):bG n s e ((s+h) % n)=true↔h<(((e:Int) -s) % n).toNat:=by
 rw[mP (by lia),CY n c s b h a];simp
theorem Cp(g:n<=5){o:List Nat}(O:Ord n o)(d:a<n)(t:b<n)(m:a≠b):mT n o a b side=true↔bL o a b=true/\ ∀k,k<n->bG n a b k=true-> ∀y,y<n->bG n (o.getD a 0) (o.getD b 0) y=true->rK (side k (((y:Int) -o.getD a 0) % n).toNat) k y=false:=by
 have h:0<n:=by lia
 have f:=O.get d;rw[xz O d t m];unfold mT yT;simp only[Pq,O6,Pi,QP,Up,decide_eq_false_iff_not];have A:=pP ((b:Int) -a) h;have x:=pP ((o.getD b 0:Int) -o.getD a 0) h;constructor
 ·intro H;refine⟨λk c ⟨u,l⟩=>?_,λk c w y s i=>?_⟩
  ·rcases(H k c).1 with z|z
   ·exact z u
   ·rw[z] at l;cases l
  ·have v:=(mP h).mp w;have i2:=(mP h).mp i;have:=(H _ v).2 _ i2;rwa [yr d c,yr f s] at this
 ·rintro⟨p,r⟩ k c;refine⟨?_,λj i=>?_⟩
  ·by_cases q:0<k
   ·right;cases e:bG n (o.getD a 0) (o.getD b 0) (o.getD ((a+k) % n) 0) with
    |false=>rfl
    |true=>exact absurd ⟨q,e⟩ (p k c)
   ·exact .inl q
  ·have:=r ((a+k) % n) (RD _ h) ((zM g d (by lia)).mpr c) ((o.getD a 0+j) % n) (RD _ h) ((zM g f (by lia)).mpr i);rwa [CY n g _ f j (by lia),Rc] at this
def OF(n s e T y:Nat):Bool:= !bG n s e T||(((bG n s e y&&decide ((((y:Int) -s) % n).toNat<=(((T:Int) -s) % n).toNat))==bG n s (jQ n T) y)&&((bG n s e y&&decide ((((T:Int) -s) % n).toNat<(((y:Int) -s) % n).toNat))==bG n (jQ n T) e y))
theorem MF:((O5 6).all λn=>(O5 n).all λs=>(O5 n).all λe=>(O5 n).all λT=>(O5 n).all λy=>OF n s e T y)=true:=by decide+kernel
theorem zV(f:n<=5)(d:s<n)(b:e<n)(a:T<n)(c:y<n)(h:bG n s e T=true):(bG n s (jQ n T) y=(bG n s e y&&decide ((((y:Int) -s) % n).toNat<=(((T:Int) -s) % n).toNat)))/\(bG n (jQ n T) e y=(bG n s e y&&decide ((((T:Int) -s) % n).toNat<(((y:Int) -s) % n).toNat))):=by
 have k:=MF;have k:=Pq.mp k n (O6.mpr (by lia));have k:=Pq.mp k s (O6.mpr d);have k:=Pq.mp k e (O6.mpr b);have k:=Pq.mp k T (O6.mpr a);have k:=Pq.mp k y (O6.mpr c);unfold OF at k;rw[h,Rp,SL,Pi,beq_iff_eq,beq_iff_eq] at k;exact⟨k.1.symm,k.2.symm⟩
theorem kg {S:jT}:rK S k y=false↔y≠S.1.getD k 0/\y≠S.2.getD k 0:=by
 unfold rK;rw[decide_eq_false_iff_not,not_or]
theorem pT {n:Nat}{S:jT}(b:S.1.getD col 0<n)(d:S.2.getD col 0<n)(f:Nat->Bool):(∀y,y<n->f y=true->rK S col y=false)↔(f (S.1.getD col 0)=false/\f (S.2.getD col 0)=false):=by
 constructor
 ·intro H;constructor
  ·cases e:f (S.1.getD col 0) with
   |false=>rfl
   |true=>exact absurd rfl (kg.mp (H _ b e)).1
  ·cases e:f (S.2.getD col 0) with
   |false=>rfl
   |true=>exact absurd rfl (kg.mp (H _ d e)).2
 ·rintro⟨g,c⟩ y h a;exact kg.mpr ⟨λe=>(by rw[e,g] at a;cases a),λe=>(by rw[e,c] at a;cases a)⟩
theorem CK{S:jT}{o:List Nat}(c:S.1.getD k 0<n)(d:S.2.getD k 0<n):(bG n a b k=true-> ∀y,y<n->bG n (o.getD a 0) (o.getD b 0) y=true->rK S k y=false)↔(rM n o (a,b) k (S.1.getD k 0)=false/\rM n o (a,b) k (S.2.getD k 0)=false):=by
 unfold rM;cases e:bG n a b k with
 |false=>simp
 |true=>
  rw[Qq,Qq];exact⟨λH=>(pT c d λy=>bG n (o.getD a 0) (o.getD b 0) y).mp (H rfl),λH _=>(pT c d λy=>bG n (o.getD a 0) (o.getD b 0) y).mpr H⟩
def K8(n:Nat)(S:jT):Prop:= ∀k,k<n->S.1.getD k 0<n/\S.2.getD k 0<n
theorem xr(r:n<=5){S l g:jT}(u:K8 n S)(D:K8 n l)(B:K8 n g){o:List Nat}(O:Ord n o)(v:a<n)(z:b<n)(A:a≠b)(s:T<n)(p:col<n)(E:bG n a b col=true):
 dn n S o a b col [l,g] [T]=true↔bL o a b=true/\(bG n (o.getD a 0) (o.getD b 0) T=true/\(IB n (o.getD a 0) (jQ n T) (l.1.getD col 0) (l.2.getD col 0)/\IB n (jQ n T) (o.getD b 0) (g.1.getD col 0) (g.2.getD col 0)))/\ ∀k,k<n->k≠col->rM n o (a,b) k (S.1.getD k 0)=false/\rM n o (a,b) k (S.2.getD k 0)=false:=by
 have h:0<n:=by lia
 have t:=O.get v;have x:=O.get z
 let side:Nat->Nat->jT:=λk j=>if k=col then [l,g].getD (if(((T:Int) -o.getD a 0) % n).toNat<j then 1 else 0) ([],[]) else S
 rw[Et O v z A s (side:=side) ((kP h v b col).mpr ⟨p,E⟩) (λk j w=>if_neg w) (λj=>if_pos rfl),Pi,lL,<-mP h,Cp r O v z A];have C:bG n (o.getD a 0) (o.getD b 0) T=true->((∀y,y<n->bG n (o.getD a 0) (o.getD b 0) y=true->rK (side col (((y:Int) -o.getD a 0) % n).toNat) col y=false)↔(IB n (o.getD a 0) (jQ n T) (l.1.getD col 0) (l.2.getD col 0)/\IB n (jQ n T) (o.getD b 0) (g.1.getD col 0) (g.2.getD col 0))):=λf=>by
  have I:=pT (D col p).1 (D col p).2 (λy=>bG n (o.getD a 0) (jQ n T) y);have J:=pT (B col p).1 (B col p).2 (λy=>bG n (jQ n T) (o.getD b 0) y);unfold IB;rw[<-I,<-J];constructor
  ·intro H;refine⟨λy d w=>?_,λy d w=>?_⟩
   ·rw[(zV r t x s d f).1,Pi,lL] at w;have:=H y d w.1;rw[show side col (((y:Int) -o.getD a 0) % n).toNat=l by show(if col=col then _ else _)=_;rw[if_pos rfl,if_neg (by lia)];rfl] at this;exact this
   ·rw[(zV r t x s d f).2,Pi,lL] at w;have:=H y d w.1;rw[show side col (((y:Int) -o.getD a 0) % n).toNat=g by show(if col=col then _ else _)=_;rw[if_pos rfl,if_pos w.2];rfl] at this;exact this
  ·rintro⟨F,G⟩ y d w
   by_cases q:(((T:Int) -o.getD a 0) % n).toNat<(((y:Int) -o.getD a 0) % n).toNat
   ·rw[show side col (((y:Int) -o.getD a 0) % n).toNat=g by show(if col=col then _ else _)=_;rw[if_pos rfl,if_pos q];rfl];exact G y d (by rw[(zV r t x s d f).2,w,lR q];rfl)
   ·rw[show side col (((y:Int) -o.getD a 0) % n).toNat=l by show(if col=col then _ else _)=_;rw[if_pos rfl,if_neg q];rfl];exact F y d (by rw[(zV r t x s d f).1,w,lR (show _<=_ by lia)];rfl)
 constructor
 ·rintro⟨f,e,H⟩;refine⟨e,⟨f,(C f).mp (H col p E)⟩,λk m w=>(CK (u k m).1 (u k m).2).mp λi y d j=>?_⟩;have:=H k m i y d j;rwa [show side k (((y:Int) -o.getD a 0) % n).toNat=S from if_neg w] at this
 ·rintro⟨e,⟨f,c⟩,H⟩;refine⟨f,e,λk m i y d j=>?_⟩
  by_cases w:k=col
  ·subst w;exact(C f).mpr c y d j
  ·rw[show side k (((y:Int) -o.getD a 0) % n).toNat=S from if_neg w];exact(CK (u k m).1 (u k m).2).mpr (H k m w) i y d j
def Nz(n c:Nat)(S O:jT)(T:Nat)(o:List Nat)(a b:Nat):Bool:=(decide (a=c+1)&&dn n S o (c+1) b (c+1) [S,O] [T])||(decide (b=c+1)&&dn n S o a (c+1) c [O,S] [T])
theorem Gx(C:n<=5)(A:c+1<n){S O:jT}(u:K8 n S)(D:K8 n O){r x:List Nat}(v: ∀k,k<n->k≠c->k≠c+1->S.1.getD k 0=r.getD k 0/\S.2.getD k 0=x.getD k 0)(L:O.1.getD c 0=S.1.getD (c+1) 0)(s2:O.2.getD c 0=S.2.getD (c+1) 0)(J:O.1.getD (c+1) 0=S.1.getD c 0)(K:O.2.getD (c+1) 0=S.2.getD c 0)(G:T<n)(E:Ord n o)(z:a<n)(B:b<n)(y:a≠b):
 Nz n c S O T o a b=true↔HW n c r x T (S.1.getD (c+1) 0) (S.2.getD (c+1) 0) (S.1.getD c 0) (S.2.getD c 0) o a b:=by
 have g:c<n:=by lia
 have F: ∀ {col t:Nat},bG n a b t=false->(col=c/\t=c+1\/col=c+1/\t=c)->((∀k,k<n->k≠col->rM n o (a,b) k (S.1.getD k 0)=false/\rM n o (a,b) k (S.2.getD k 0)=false)↔N0 n c r x o a b):=λ{col t} M m=>by
  constructor
  ·intro H k l q p;rw[<-(v k l q p).1,<-(v k l q p).2];exact H k l (by rcases m with⟨e,_⟩|⟨e,_⟩<;>rw[e]<;>assumption)
  ·intro H k l w
   by_cases e:k=t
   ·subst e;unfold rM;rw[M];exact⟨rfl,rfl⟩
   ·have q:k≠c:=by rcases m with⟨d,s⟩|⟨d,s⟩<;>lia
    have p:k≠c+1:=by rcases m with⟨d,s⟩|⟨d,s⟩<;>lia
    have:=H k l q p;rwa [<-(v k l q p).1,<-(v k l q p).2] at this
 unfold Nz HW;rw[Ri,Pi,Pi,lL,lL]
 by_cases d:a=c+1
 ·subst d;have I:b≠c+1:=λe=>y e.symm
  have f:=pJ n (by lia) c g A b B I;rw[xr C u u D E z B y G A f.2.2.2,F f.1 (.inr ⟨rfl,rfl⟩),J,K];constructor
  ·rintro(⟨_,i,j,h⟩|⟨w,_⟩)
   ·exact⟨i,⟨.inl rfl,j⟩,h⟩
   ·exact absurd w I
  ·rintro⟨i,⟨_,j⟩,h⟩;exact .inl ⟨rfl,i,j,h⟩
 ·by_cases s:b=c+1
  ·subst s;have f:=pJ n (by lia) c g A a z d;rw[xr C u D u E z B y G g f.2.1,F f.2.2.1 (.inl ⟨rfl,rfl⟩),L,s2];constructor
   ·rintro(⟨w,_⟩|⟨_,i,j,h⟩)
    ·exact absurd w d
    ·exact⟨i,⟨.inr rfl,j⟩,h⟩
   ·rintro⟨i,⟨_,j⟩,h⟩;exact .inr ⟨rfl,i,j,h⟩
  ·constructor
   ·rintro(⟨w,_⟩|⟨w,_⟩)
    ·exact absurd w d
    ·exact absurd w s
   ·rintro⟨_,⟨w,_⟩,_⟩;exact absurd w (by lia)
theorem sn(z:i<n)(P Q:Nat->Bool)(o:List Nat):(iE n P Q o i).Perm ((sp n λa b=>(decide (a=i)&&P b)||(decide (b=i)&&Q a)).map λp=>bA o p.1 p.2):=by
 have C:(iE n P Q o i).Perm (((O5 n).flatMap λj=>if(decide (j≠i)&&P j)=true then [(i,j)] else []).map (λp=>bA o p.1 p.2)++((O5 n).flatMap λj=>if(decide (j≠i)&&Q j)=true then [(j,i)] else []).map (λp=>bA o p.1 p.2)):=by
  unfold iE pA;generalize O5 n=l
  induction l with
  |nil=>exact .nil
  |cons j l I=>
   rw[P6,P6,P6,Qa,Qa];have G:(if(decide (j≠i)&&P j)=true then [bA o i j] else [])=(if(decide (j≠i)&&P j)=true then [(i,j)] else []).map (λp:Nat×Nat=>bA o p.1 p.2):=by split<;>rfl
   have H:(if(decide (j≠i)&&Q j)=true then [bA o j i] else [])=(if(decide (j≠i)&&Q j)=true then [(j,i)] else []).map (λp:Nat×Nat=>bA o p.1 p.2):=by split<;>rfl
   rw[G,H];generalize (if(decide (j≠i)&&P j)=true then [(i,j)] else []).map (λp:Nat×Nat=>bA o p.1 p.2)=A;generalize (if(decide (j≠i)&&Q j)=true then [(j,i)] else []).map (λp:Nat×Nat=>bA o p.1 p.2)=B;refine(Tg (A++B) I).trans ?_
   rw[QE,QE];refine Tg A ?_
   rw[<-QE,<-QE];exact Ui _ WG
 rw[<-Qa] at C;refine C.trans (jan _ ((P0 ?_ (Mg n _)).mpr λp=>?_))
 ·rw[QT];have u: ∀(f:Nat->Bool) (g:Nat->Nat×Nat),(∀a b,g a=g b->a=b)->((O5 n).flatMap λj=>if f j=true then [g j] else []).Nodup:=λf g D=>by
   rw[Rh,Uo];refine⟨λj _=>by split<;>simp,PV.imp λ{a b} h x m y r e=>h ?_⟩;split at m
   ·split at r
    ·rw[Px] at m r;exact D _ _ (m.symm.trans (e.trans r))
    ·cases r
   ·cases m
  refine⟨u _ _ λa b e=>(YQ e).2,u _ _ λa b e=>(YQ e).1,λx m y r e=>?_⟩;obtain⟨j,_,d⟩:=QZ.mp m;obtain⟨k,_,s⟩:=QZ.mp r;split at d
  ·rename_i c
   split at s
   ·rw[Px] at d s;rw[d,s] at e;rw[Pi,lL] at c;exact c.1 (YQ e).2
   ·cases s
  ·cases d
 ·rw[QA,QZ,QZ,jf];constructor
  ·rintro(⟨j,d,w⟩|⟨j,d,w⟩)
   ·split at w
    ·rename_i c
     rw[Pi,lL] at c;rw[Px] at w;subst w;exact⟨z,O6.mp d,λe=>c.1 e.symm,by show((decide (i=i)&&P j)||_)=true;rw[c.2];simp⟩
    ·cases w
   ·split at w
    ·rename_i c
     rw[Pi,lL] at c;rw[Px] at w;subst w;exact⟨O6.mp d,z,c.1,by show(_||(decide (i=i)&&Q j))=true;rw[c.2];simp⟩
    ·cases w
  ·rintro⟨F,E,v,t⟩;rw[Ri,Pi,Pi,lL,lL] at t;obtain⟨a,b⟩:=p;rcases t with⟨e,q⟩|⟨e,q⟩
   ·left;have e:a=i:=e;subst e;exact⟨b,O6.mpr E,by rw[if_pos (by rw[lR (show b≠a from λw=>v w.symm)];exact q)];exact Px.mpr rfl⟩
   ·right;have e:b=i:=e;subst e;exact⟨a,O6.mpr F,by rw[if_pos (by rw[lR v];exact q)];exact Px.mpr rfl⟩
theorem J3(p a b:Nat):nS p (min a b) (max a b)=nS p a b:=by
 rcases Nat.le_total a b with h|h
 ·rw[UO h,YE h]
 ·rw[Uz h,Y8 h];exact qb p b a
theorem MO(a b:Nat):dw [.tup [nI a,nI b]]=some (.lst [nI (min a b),nI (max a b)]):=by
 show(hZ ([a,b].map nI)).map D.lst=_;unfold hZ;rw[if_pos (by simp)];have e:[a,b].map nI=([a,b].map λ(v:Nat)=>(v:Int)).map D.int:=by rw[Pw];rfl
 rw[e,kx];have:[min a b,max a b].map (λ(v:Nat)=>(v:Int))=bw BQ ([a,b].map λ(v:Nat)=>(v:Int)):=by
  refine k8 HQ (jan _ ?_) ?_
  ·by_cases h:a<=b
   ·rw[UO h,YE h]
   ·rw[Uz (by lia),Y8 (by lia)];exact WS _ _ _
  ·simp only[Pe,SD,Si,Px,forall_eq,RZ,and_true,Q0,false_implies,implies_true];simp only[BQ,decide_eq_false_iff_not];lia
 show some (D.lst ((bw BQ ([a,b].map λ(v:Nat)=>(v:Int))).map D.int))=_;rw[<-this,Pw];rfl
theorem Ik(p a b:Nat):b8 [nI p,nI a,nI b]=some (.bl (nS p a b)):=by
 apply bh (kd:=.s) (n:=3) (t:=gQ);unfold gQ;have mn:ak lE (aa (ai 1) (aa (ai 2) (aj))) (kv 3 [nI p,nI a,nI b])=some (nI (min a b)):=by
  refine(bO (ds:=[nI a,nI b]) rfl).trans ?_
  show some (D.int _)=some (D.int _);congr 2;split<;>lia
 have mx:ak vM (aa (ai 1) (aa (ai 2) (aj))) (kv 3 [nI p,nI a,nI b])=some (nI (max a b)):=by
  refine(bO (ds:=[nI a,nI b]) rfl).trans ?_
  show some (D.int _)=some (D.int _);congr 2;split<;>lia
 refine a7 ((zj (F:=CQ) (G:=CQ) (g:=ai 0) (y:=nI p) mn rfl (pN _ _) mx (pN _ _)).trans ?_);have e:(decide (((min a b:Nat):Int)<(p:Int))&&decide ((p:Int)<((max a b:Nat):Int)))=nS p a b:=by
  unfold nS;rw[P2];simp only[Pi,lL];lia
 rw[e]
section
variable {n:Nat}{r x:List Nat}{c:Nat}(hr:r.length=n)(hx:x.length=n)(hc:c+1<n)
include hr hx hc
theorem F9(h:NI n (r.getD c 0) (x.getD c 0) (r.getD (c+1) 0) (x.getD (c+1) 0)):iR [de r x,nI c]=some (nI (if nS (r.getD (c+1) 0) (r.getD c 0) (x.getD c 0)=true then min (r.getD c 0) (x.getD c 0) else max (r.getD c 0) (x.getD c 0))):=by
 refine rg (kd:=.s) (n:=6) (t:=nV) ?_
 unfold nV
 let a:=r.getD c 0
 let b:=x.getD c 0
 let ρ:aF:=[.v (de r x),.v (nI c),.v (ax r),.v (ax x),.v (nI (min a b)),.v (nI (max a b))]
 have i:cw (gT 2 (cU (gN 2) (cU (gN 3) (gU)))) (pu (ai 0)) (kv 6 [de r x,nI c])=.nx [.v (de r x),.v (nI c),.v (ax r),.v (ax x),.no,.no]:=fh (fx rfl) rfl;have l: ∀f g,av bj (ai 2) (ai 1) [.v (de r x),.v (nI c),.v (ax r),.v (ax x),f,g]=some (nI a):=λ_ _=>(aB (x:=ax r) (y:=nI c) rfl rfl).trans (ge (by lia))
 have k: ∀f g,av bj (ai 3) (ai 1) [.v (de r x),.v (nI c),.v (ax r),.v (ax x),f,g]=some (nI b):=λ_ _=>(aB (x:=ax x) (y:=nI c) rfl rfl).trans (ge (by lia))
 have j:cw (gL 2 (cU (gN 4) (cU (gN 5) (gU)))) (pu (ak dw (aa (cx (aa (av bj (ai 2) (ai 1)) (aa (av bj (ai 3) (ai 1)) (aj)))) (aj)))) [.v (de r x),.v (nI c),.v (ax r),.v (ax x),.no,.no]=.nx ρ:=
  fh (fx ((bO (ds:=[.tup [nI a,nI b]]) (ar (cq (ar (l _ _) (ar (k _ _) rfl)) (by simp)) rfl)).trans (MO a b))) rfl
 have m:av bj (ai 2) (av bS (ai 1) (aD (.int 1))) ρ=some (nI (r.getD (c+1) 0)):=(aB (x:=ax r) rfl ((aB (x:=nI c) (y:=.int 1) rfl rfl).trans (CO c))).trans (ge (by lia));have d:fQ (ak (nF 3 b8) (aa (av bj (ai 2) (av bS (ai 1) (aD (.int 1)))) (aa (ai 4) (aa (ai 5) (aj))))) ρ=some (nS (r.getD (c+1) 0) a b):=by
  refine ka ((aW (ds:=[nI (r.getD (c+1) 0),nI (min a b),nI (max a b)]) (ar m rfl) rfl).trans ((Ik _ _ _).trans ?_));rw[J3]
 refine⟨ρ,(aA i).trans ((aA j).trans (a7 ?_))⟩;show Iv _ _ _ ρ=some (nI (if nS (r.getD (c+1) 0) a b=true then min a b else max a b));cases e:nS (r.getD (c+1) 0) a b with
 |true=>rw[e] at d;exact(Ms d).trans rfl
 |false=>rw[e] at d;exact(Mb d).trans rfl
end
theorem Mo {n:Nat}{l:List Nat}(p:l.length=4)(r:l.Nodup)(lt: ∀v∈l,v<n): ∃f c b a:Nat,dw [.lst (l.map nI)]=some (.lst ([f,c,b,a].map nI))/\f<c/\c<b/\b<a/\a<n:=by
 have g:(bw BQ (l.map λ(v:Nat)=>(v:Int))).Perm (l.map λ(v:Nat)=>(v:Int)):=aU _;have k:=kT HQ (l.map λ(v:Nat)=>(v:Int));have m:dw [.lst (l.map nI)]=some (.lst ((bw BQ (l.map λ(v:Nat)=>(v:Int))).map D.int)):=by
  show(hZ (l.map nI)).map D.lst=_;unfold hZ;rw[if_pos (by rw[Pc];lia)];have e:l.map nI=(l.map λ(v:Nat)=>(v:Int)).map D.int:=by rw[Pw];rfl
  rw[e,kx];rfl
 generalize bw BQ (l.map λ(v:Nat)=>(v:Int))=L at g k m;have o:L=(L.map V3).map λ(v:Nat)=>(v:Int):=by
  rw[Pw]
  conv=>lhs;rw[<-WY L]
  refine PM λz q=>?_
  obtain⟨v,_,rfl⟩:=Pz.mp (g.mem_iff.mp q);simp
 have d:(L.map V3).Perm l:=by
  have:=g.map V3;rw[Pw] at this;have e:l.map (V3∘λ(v:Nat)=>(v:Int))=l:=by
   conv=>rhs;rw[<-WY l]
   exact PM λv _=>by simp
  rw[e] at this;exact this
 generalize L.map V3=M at o d;subst o;have h:M.length=4:=d.length_eq.trans p;have i:M.Nodup:=d.nodup_iff.mpr r;have j: ∀v∈M,v<n:=λv hv=>lt v (d.mem_iff.mp hv)
 rw[Qr] at k
 match M,h with
 | [f,c,b,a],_=>
   refine⟨f,c,b,a,by rw[m,Pw];rfl,?_,?_,?_,j a (by simp)⟩
   all_goals
    simp only[Si,PD,Q0,or_false,forall_eq_or_imp,forall_eq,RZ,and_true,BQ,decide_eq_false_iff_not,Ru,not_or] at k i;lia
theorem C6(l:List Nat)(a:Nat):ma (l.map nI) (some (a:Int)) none=(l.drop a).map nI:=by
 unfold ma;rw[HT.sIx_none,HT.sIx_nat,Pc]
 by_cases h:a<=l.length
 ·rw[UO h,Rl (by simp),Xl]
 ·rw[Uz (by lia),V6,List.take_zero,R9 (by lia)];rfl
theorem Fn(l:List Nat)(a:Nat):ma (l.map nI) none (some (a:Int))=(l.take a).map nI:=by
 unfold ma;rw[HT.sIx_none,HT.sIx_nat,Pc,Ue,Nat.sub_zero,VB]
 by_cases h:a<=l.length
 ·rw[UO h]
 ·rw[Uz (by lia),Rl (by simp),Rl (by simp;lia)]
theorem ED(l m:List Nat)(h:l.length+m.length<=900):gG (.lst (l.map nI)) (.lst (m.map nI))=some (.lst ((l++m).map nI)):=by
 have:gG (.lst (l.map nI)) (.lst (m.map nI))=some (.lst (l.map nI++m.map nI)):=if_pos (by rw[Pc,Pc];exact P8 h (by decide));rw[this,Qa]
theorem mN {f:FE}{l:List Nat}{g:FE}{a:Nat}(b:f ρ=some (.lst (l.map nI)))(c:g ρ=some (nI a)):fA f (jU g) nR ρ=some (.lst ((l.drop a).map nI)):=by
 unfold fA jU nR;rw[b,Pf];dsimp only;rw[c];show some (D.lst (ma (l.map nI) (some (a:Int)) none))=_;rw[C6]
theorem uy {f:FE}{l:List Nat}{g:FE}{a:Nat}(b:f ρ=some (.lst (l.map nI)))(c:g ρ=some (nI a)):fA f nR (jU g) ρ=some (.lst ((l.take a).map nI)):=by
 unfold fA jU nR;rw[b,Pf];dsimp only;rw[c];show some (D.lst (ma (l.map nI) none (some (a:Int))))=_;rw[Fn]
abbrev eH(a:List D)(n:Nat)(t:List Sl):aF:=.arg a:: .v (nI n)::t
theorem He {N:Nat}(B:Bag N a b)(y:N<=1000)(n c:Nat): ∃(f h j g:Int) (q r:Int),(0<=f/\f<2)/\(0<=h/\h<2)/\(0<=j/\j<2)/\(0<=g/\g<2)/\Bag (N+4) q r/\
 ft 1 (b7 (eW (aa (aD (.int 4)) (aj)))) (gN 14) (cf) (aK 0 1 aQ (b7 (aa (aD (.int 2)) (aj)))) (eH (aG a b) n [.v (nI c),.no,.no,.no,.no,.no,.no,.no,.no,.no,.no,.no])=some (.lst [.int f,.int h,.int j,.int g],eH (aG q r) n [.v (nI c),.no,.no,.no,.no,.no,.no,.no,.no,.no,.no,.no]):=by
 have e: ∀ {N:Nat} {a b:Int} (B:Bag N a b) (y:N<=2000) (k:Nat) (l:List D),∃(w q r:Int),(0<=w/\w<2)/\Bag (N+1) q r/\
  eB (gN 14) (cf) (aK 0 1 aQ (b7 (aa (aD (.int 2)) (aj)))) (nI k::l) (eH (aG a b) n [.v (nI c),.no,.no,.no,.no,.no,.no,.no,.no,.no,.no,.no,.no])=(eB (gN 14) (cf) (aK 0 1 aQ (b7 (aa (aD (.int 2)) (aj)))) l (eH (aG q r) n [.v (nI c),.no,.no,.no,.no,.no,.no,.no,.no,.no,.no,.no,.no])).map λz=>(D.int w::z.1,z.2):=by
  intro N a b B y k l;obtain⟨d,o,p,t,s,J,P⟩:=mZ (m:=2) B (by lia) (by decide) (by decide);refine⟨d,o,p,⟨J,P⟩,s,?_⟩;have O:aK 0 1 aQ (b7 (aa (aD (.int 2)) (aj))) (eH (aG a b) n [.v (nI c),.no,.no,.no,.no,.no,.no,.no,.no,.no,.no,.no,.v (nI k)])=some (.int d,eH (aG o p) n [.v (nI c),.no,.no,.no,.no,.no,.no,.no,.no,.no,.no,.no,.v (nI k)]):=
   cM (i:=0) (n:=1) (b0:=aG a b) (ds:=[.int 2]) rfl (bV rfl) rfl rfl t
  conv=>lhs;unfold eB
  rw[show gN 14 (nI k) (eH (aG a b) n [.v (nI c),.no,.no,.no,.no,.no,.no,.no,.no,.no,.no,.no,.no])=some (eH (aG a b) n [.v (nI c),.no,.no,.no,.no,.no,.no,.no,.no,.no,.no,.no,.v (nI k)]) from rfl,Pf,
   show cf (eH (aG a b) n [.v (nI c),.no,.no,.no,.no,.no,.no,.no,.no,.no,.no,.no,.v (nI k)])=some true from rfl,Pf,if_pos rfl,O,Pf,if_pos (by rfl)]
  rw[show lj (eH (aG a b) n [.v (nI c),.no,.no,.no,.no,.no,.no,.no,.no,.no,.no,.no,.no]) (eH (aG o p) n [.v (nI c),.no,.no,.no,.no,.no,.no,.no,.no,.no,.no,.no,.v (nI k)])=some (eH (aG o p) n [.v (nI c),.no,.no,.no,.no,.no,.no,.no,.no,.no,.no,.no,.no]) from rfl,Pf]
 obtain⟨f,Q,b0,G,E,L⟩:=e B (by lia) 0 [nI 1,nI 2,nI 3];obtain⟨h,o,p,F,s,t⟩:=e E (by lia) 1 [nI 2,nI 3];obtain⟨j,S,R,C,M,I⟩:=e s (by lia) 2 [nI 3];obtain⟨g,x,u,K,A,H⟩:=e M (by lia) 3 [];refine⟨f,h,j,g,x,u,G,F,C,K,by rw[show N+4=N+1+1+1+1 by lia];exact A,?_⟩;unfold ft;rw[bV (iY (n:=4) (ar rfl rfl) (by lia)),Pf];dsimp only;rw[if_pos (by simp;decide)];have:eB (gN 14) (cf) (aK 0 1 aQ (b7 (aa (aD (.int 2)) (aj)))) ((O5 4).map nI) (eH (aG a b) n [.v (nI c),.no,.no,.no,.no,.no,.no,.no,.no,.no,.no,.no]++Pj 1 .no)=some ([.int f,.int h,.int j,.int g],eH (aG x u) n [.v (nI c),.no,.no,.no,.no,.no,.no,.no,.no,.no,.no,.no,.no]):=by
  show eB (gN 14) (cf) (aK 0 1 aQ (b7 (aa (aD (.int 2)) (aj)))) [nI 0,nI 1,nI 2,nI 3] (eH (aG a b) n [.v (nI c),.no,.no,.no,.no,.no,.no,.no,.no,.no,.no,.no,.no])=_;rw[L,t,I,H];rfl
 rw[this,Pf];rfl
theorem qa {ρ:aF}{p:FT}{q:Nat->Bool}(a: ∀v,∃ρ1,gN 14 (nI v) ρ=some ρ1/\p ρ1=some (q v)/\ai 14 ρ1=some (nI v)/\lj ρ ρ1=some ρ): ∀l:List Nat,eB (gN 14) p (pu (ai 14)) (l.map nI) ρ=some ((l.filter q).map nI,ρ)
 | []=>rfl
 |v::l=>by
  obtain⟨ρ1,c,d,f,g⟩:=a v;have b:=qa a l;rw[Pe];unfold eB;rw[c,Pf,d,Pf];cases e:q v with
  |false=>rw[if_neg (by decide),b,RA (by rw[e];decide)]
  |true=>
   rw[if_pos rfl,show pu (ai 14) ρ1=some (nI v,ρ1) from fx f,Pf,if_pos (by rfl),g,Pf,b,RB e];rfl
theorem Jm(L:List Nat)(c:Nat):iZ true (nI c) (.tup (L.map nI))=some (.bl (!decide (c∈L))):=by
 unfold iZ lO;dsimp only;rw[jb,if_pos (by lia),Eo];rfl
def JN(n:Nat):Bool:=(O5 n).all λa=>(O5 n).all λb=>a==b||((O5 n).filter λv=> !decide (v∈[a,b])).length==n-2
theorem L4:JN 4=true:=by decide+kernel
theorem LK:JN 5=true:=by decide+kernel
theorem Gy{o:List Nat}(O:Ord n o)(i:4<=n)(g:n<=5){a b:Nat}(c:a<n)(f:b<n)(d:a≠b):(o.filter λv=> !decide (v∈[a,b])).length=n-2:=by
 rw[(O.perm.filter _).length_eq];have h:JN n=true:=by
  have e:n=4\/n=5:=by lia
  rcases e with rfl|rfl
  ·exact L4
  ·exact LK
 have h:=Pq.mp h a (O6.mpr c);have h:=Pq.mp h b (O6.mpr f);simpa [d] using h
theorem JQ {f:FE}{ds:List D}(h:f ρ=some (.lst ds)):rX f (jU (lg (aD (.int 1)))) ρ=some (.lst ds.reverse):=by
 unfold rX;rw[h,Pf];dsimp only;rw[show jU (lg (aD (.int 1))) ρ=some (some (-1)) from rfl,Pf,if_pos rfl]
theorem yw(h:f ρ=some (.int w)):bJ (av pV f (aD (.int 1))) ρ=some (decide (w=1)):=bR ((aB h (y:=.int 1) rfl).trans (by rw[oV (by rw[fO];lia),jj]))
section
variable {n:Nat}(h4:4<=n)(h5:n<=5)
include h4 h5
theorem zS {N:Nat}(B:Bag N a b)(V:N<=1000)(d c f e k:Sl)(m j h g:Nat)(i:Int)(u v:Nat)(A: ∀s∈[d,c,f,e,k],zK s s=some s)
 (H: ∀F t,av bj (ai 6) (aD (.int i)) (eH F n (d::c::f::e:: .v (.lst ([m,j].map nI)):: .v (.lst ([h,g].map nI))::t))=some (nI u))
 (E: ∀F t,av bj (ai 7) (aD (.int i)) (eH F n (d::c::f::e:: .v (.lst ([m,j].map nI)):: .v (.lst ([h,g].map nI))::t))=some (nI v)) (C:u<n) (D:v<n) (Q:u≠v):
 ∃(l:List Nat) (r w:Int),(l.length=n-2/\l.Perm ((O5 n).filter λz=> !decide (z∈[u,v])))/\Bag (N+n) r w/\ft 1 (zp (aK 0 1 bd (b7 (aa (ai 1) (aj))))) (gN 14) (bJ (av (iZ true) (ai 14) (cx (aa (av bj (ai 6) (aD (.int i))) (aa (av bj (ai 7) (aD (.int i))) (aj)))))) (pu (ai 14))
  (eH (aG a b) n [d,c,f,e,.v (.lst ([m,j].map nI)),.v (.lst ([h,g].map nI)),k,.no,.no,.no,.no,.no])=some (.lst (l.map nI),eH (aG r w) n [d,c,f,e,.v (.lst ([m,j].map nI)),.v (.lst ([h,g].map nI)),k,.no,.no,.no,.no,.no]):=by
 obtain⟨o,r,w,U,O,S⟩:=mV B (n:=n) (by lia) (by lia);refine⟨o.filter λz=> !decide (z∈[u,v]),r,w,⟨Gy O h4 h5 C D Q,O.perm.filter _⟩,S,?_⟩;have K:=A d (by simp);have M:=A c (by simp);have L:=A f (by simp);have I:=A e (by simp);have J:=A k (by simp);have T:zp (aK 0 1 bd (b7 (aa (ai 1) (aj)))) (eH (aG a b) n [d,c,f,e,.v (.lst ([m,j].map nI)),.v (.lst ([h,g].map nI)),k,.no,.no,.no,.no,.no])=some (o.map nI,eH (aG r w) n [d,c,f,e,.v (.lst ([m,j].map nI)),.v (.lst ([h,g].map nI)),k,.no,.no,.no,.no,.no]):=by
  unfold zp;rw[show aK 0 1 bd (b7 (aa (ai 1) (aj))) (eH (aG a b) n [d,c,f,e,.v (.lst ([m,j].map nI)),.v (.lst ([h,g].map nI)),k,.no,.no,.no,.no,.no])=some (.lst (o.map nI),eH (aG r w) n [d,c,f,e,.v (.lst ([m,j].map nI)),.v (.lst ([h,g].map nI)),k,.no,.no,.no,.no,.no]) from
   cM (i:=0) (n:=1) (b0:=aG a b) (ds:=[nI n]) rfl (bV rfl) rfl rfl U]
 have R: ∀(P:Sl),lj (eH (aG r w) n [d,c,f,e,.v (.lst ([m,j].map nI)),.v (.lst ([h,g].map nI)),k,.no,.no,.no,.no,.no,.no]) (eH (aG r w) n [d,c,f,e,.v (.lst ([m,j].map nI)),.v (.lst ([h,g].map nI)),k,.no,.no,.no,.no,.no,P])=some (eH (aG r w) n [d,c,f,e,.v (.lst ([m,j].map nI)),.v (.lst ([h,g].map nI)),k,.no,.no,.no,.no,.no,.no]):=λP=>by
  simp only[lj,K,M,L,I,J,Pf];rfl
 have G:lj (eH (aG r w) n [d,c,f,e,.v (.lst ([m,j].map nI)),.v (.lst ([h,g].map nI)),k,.no,.no,.no,.no,.no]) (eH (aG r w) n [d,c,f,e,.v (.lst ([m,j].map nI)),.v (.lst ([h,g].map nI)),k,.no,.no,.no,.no,.no,.no])=some (eH (aG r w) n [d,c,f,e,.v (.lst ([m,j].map nI)),.v (.lst ([h,g].map nI)),k,.no,.no,.no,.no,.no]):=by
  simp only[lj,K,M,L,I,J,Pf];rfl
 have lp:=qa (ρ:=eH (aG r w) n [d,c,f,e,.v (.lst ([m,j].map nI)),.v (.lst ([h,g].map nI)),k,.no,.no,.no,.no,.no,.no]) (p:=bJ (av (iZ true) (ai 14) (cx (aa (av bj (ai 6) (aD (.int i))) (aa (av bj (ai 7) (aD (.int i))) (aj)))))) (q:=λz=> !decide (z∈[u,v])) (λz=>⟨eH (aG r w) n [d,c,f,e,.v (.lst ([m,j].map nI)),.v (.lst ([h,g].map nI)),k,.no,.no,.no,.no,.no,.v (nI z)],rfl,
  bR ((aB (x:=nI z) (y:=.tup ([u,v].map nI)) rfl (cq (ar (H _ _) (ar (E _ _) rfl)) (by simp))).trans (Jm _ _)),rfl,R _⟩) o
 unfold ft;rw[T,Pf];dsimp only;rw[if_pos (by rw[Pc,O.len];exact P8 (show n<=900 by lia) (by decide))];rw[show eH (aG r w) n [d,c,f,e,.v (.lst ([m,j].map nI)),.v (.lst ([h,g].map nI)),k,.no,.no,.no,.no,.no]++Pj 1 Sl.no=eH (aG r w) n [d,c,f,e,.v (.lst ([m,j].map nI)),.v (.lst ([h,g].map nI)),k,.no,.no,.no,.no,.no,.no] from rfl,lp,Pf];dsimp only;rw[G];rfl
theorem xG(u:List D)(s m r o q t:Sl)(l:List Nat)(E:l.length=n-2): ∀(k:Nat) (c:Nat) (x:List Nat) (f a:Sl),c+k=n-2->x.length=n-2-> ∃(g:List Nat) (b d:Sl),(g.length=n-2/\g.Perm x)/\fE (gN 10) (aC (be 11 (av cv (av bS (ai 10) (aD (.int 1))) (av gR (ai 1) (aD (.int 2)))))
 (fy (bJ (av pV (av bj (dJ 9) (ai 10)) (av bj (ai 8) (ai 10)))) (cw (gT 2 (cU (cT 9 (ai 10)) (cU (cT 9 (ai 11)) (gU)))) (pu (cx (aa (av bj (dJ 9) (ai 11)) (aa (av bj (dJ 9) (ai 10)) (aj)))))) (cc))) ((SW c k).map nI)
 (eH u n [s,m,r,o,q,t,.v (.lst (l.map nI)),.own (x.map nI),f,a,.no,.no])=.nx (eH u n [s,m,r,o,q,t,.v (.lst (l.map nI)),.own (g.map nI),b,d,.no,.no])
 |0,c,x,f,a,_,p=>⟨x,f,a,⟨p,.refl _⟩,rfl⟩
 |k+1,c,x,f,a,h,p=>by
  have K:(c+1) % (n-2)<n-2:=RD _ (by lia)
  let st:List Nat->Sl->aF:=λx a=>eH u n [s,m,r,o,q,t,.v (.lst (l.map nI)),.own (x.map nI),.v (nI c),a,.no,.no]
  have F: ∀a,av gR (ai 1) (aD (.int 2)) (st x a)=some (nI (n-2)):=λa=>by
   refine(aB (x:=nI n) (y:=.int 2) rfl rfl).trans ((iQ _ _).trans ?_);show some (D.int _)=some (D.int _);congr 2;lia
  have J:be 11 (av cv (av bS (ai 10) (aD (.int 1))) (av gR (ai 1) (aD (.int 2)))) (st x a)=.nx (st x (.v (nI ((c+1) % (n-2))))):=
   (bo ((aB ((aB (x:=nI c) (y:=.int 1) rfl rfl).trans (CO c)) (F _)).trans (MM (by lia)))).trans rfl
  have C:av bj (dJ 9) (ai 10) (st x (.v (nI ((c+1) % (n-2)))))=some (nI (x.getD c 0)):=(aB (x:=.lst (x.map nI)) (y:=nI c) rfl rfl).trans (A0 (by lia));have i2:av bj (ai 8) (ai 10) (st x (.v (nI ((c+1) % (n-2)))))=some (nI (l.getD c 0)):=(aB (x:=.lst (l.map nI)) (y:=nI c) rfl rfl).trans (A0 (by lia));have I:av bj (dJ 9) (ai 11) (st x (.v (nI ((c+1) % (n-2)))))=some (nI (x.getD ((c+1) % (n-2)) 0)):=(aB (x:=.lst (x.map nI)) (y:=nI ((c+1) % (n-2))) rfl rfl).trans (A0 (by lia));have w:bJ (av pV (av bj (dJ 9) (ai 10)) (av bj (ai 8) (ai 10))) (st x (.v (nI ((c+1) % (n-2)))))=some (decide (x.getD c 0=l.getD c 0)):=bR ((aB C i2).trans (by rw[oV (by rw[fO];lia),jd]));obtain⟨i,⟨z,A⟩,G⟩: ∃i:List Nat,(i.length=n-2/\i.Perm x)/\fy (bJ (av pV (av bj (dJ 9) (ai 10)) (av bj (ai 8) (ai 10)))) (cw (gT 2 (cU (cT 9 (ai 10)) (cU (cT 9 (ai 11)) (gU)))) (pu (cx (aa (av bj (dJ 9) (ai 11)) (aa (av bj (dJ 9) (ai 10)) (aj)))))) (cc) (st x (.v (nI ((c+1) % (n-2)))))=.nx (st i (.v (nI ((c+1) % (n-2))))):=by
   by_cases e:x.getD c 0=l.getD c 0
   ·rw[lR e] at w;refine⟨(x.set c (x.getD ((c+1) % (n-2)) 0)).set ((c+1) % (n-2)) (x.getD c 0),⟨by simp[p],swap_perm x c ((c+1) % (n-2)) (by lia) (by lia)⟩,(gj w).trans ?_⟩;unfold cw;rw[fx (cq (ar I (ar C rfl)) (by simp))];simp only[gT,PL,TF,cU];rw[nu (bs:=x.map nI) (j:=c) rfl rfl (by simp;lia)];simp only[Pf];rw[nu (bs:=(x.map nI).set c (nI (x.getD ((c+1) % (n-2)) 0))) (j:=(c+1) % (n-2)) rfl rfl (by simp;lia)];rw[qm,qm];rfl
   ·rw[md e] at w;exact⟨x,⟨p,.refl _⟩,(mL w).trans rfl⟩
  obtain⟨g,b,d,B,H⟩:=xG u s m r o q t l E k (c+1) i (.v (nI c)) (.v (nI ((c+1) % (n-2)))) (by lia) z;refine⟨g,b,d,⟨B.1,B.2.trans A⟩,?_⟩;rw[VV,Pe];exact(cI (ρ1:=st x a) rfl ((aA J).trans G)).trans H
theorem xI(l:List Nat)(c p q:Nat)(a:c<=l.length):(l.take c++[p,q]++l.drop c).length=l.length+2/\(l.take c++[p,q]++l.drop c).getD c 0=p/\(l.take c++[p,q]++l.drop c).getD (c+1) 0=q:=by
 have e:(l.take c).length=c:=by rw[RO];lia
 refine⟨by simp;lia,?_,?_⟩
 ·rw[PQ,QE,P4 (by lia),e,V6];rfl
 ·rw[PQ,QE,P4 (by lia),e,show c+1-c=1 by lia];rfl
omit h4 h5 in
theorem A5 {l:List Nat}{u v:Nat}(p:l.Perm ((O5 n).filter λz=> !decide (z∈[u,v])))(f:u<n)(hv:v<n)(d:u≠v)(c:Nat):Ord n (l.take c++[u,v]++l.drop c):=by
 constructor;have j:(l.take c++[u,v]++l.drop c).Perm ([u,v]++l):=by
  have:(l.take c++[u,v]++l.drop c).Perm ([u,v]++l.take c++l.drop c):=Ui _ WG;rwa [QE [u,v],Tc] at this
 refine j.trans ((Tg _ p).trans ((P0 ?_ PV).mpr λz=>?_))
 ·rw[QT];refine⟨by simp[d],PV.filter _,λa g b i e=>?_⟩;subst e;have:=(Qf.mp i).2;rw[lR g] at this;cases this
 ·rw[QA,Qf,O6,QP,decide_eq_false_iff_not];constructor
  ·rintro(h|h)
   ·simp only[PD,Q0,or_false] at h;rcases h with rfl|rfl
    ·exact f
    ·exact hv
   ·exact h.1
  ·intro h
   by_cases q:z∈[u,v]
   ·exact .inl q
   ·exact .inr ⟨h,q⟩
theorem Fm {N:Nat}{a b:Int}(B:Bag N a b)(hN:N<=100): ∃(r x:List Nat) (c:Nat) (bg:List D),bZ (aG a b) [nI n]=some (.tup [de r x,nI c],bg)/\(∃N' a' b',Bag N' a' b'/\N'<=400/\bg=aG a' b')/\Ord n r/\Ord n x/\c+1<n/\NI n (r.getD c 0) (x.getD c 0) (r.getD (c+1) 0) (x.getD (c+1) 0):=by
 obtain⟨d,a1,b1,e1,B1,d0,d1⟩:=mZ (m:=(n:Int) -1) B (by lia) (by lia) (Pn (show((n:Int) -1).natAbs<10^10 by lia) (by decide));obtain⟨c,rfl⟩: ∃c:Nat,d=(c:Int):=⟨d.toNat,by lia⟩
 have hc:c+1<n:=by lia
 obtain⟨w0,w1,w2,w3,a2,b2,k0,k1,k2,k3,B2,ew⟩:=He B1 (by lia) n c;obtain⟨o,a3,b3,eo,O,B3⟩:=mV B2 (n:=n) (by lia) (by lia);have ot:(o.take 4).length=4:=by rw[RO,O.len];lia
 obtain⟨f0,f1,f2,f3,es,l01,l12,l23,l3⟩:=Mo (n:=n) ot ((O.perm.nodup_iff.mpr PV).sublist (T3 _ _)) (λv hv=>O.lt (UF hv))
 let W:D:=.lst [.int w0,.int w1,.int w2,.int w3]
 have q1:iS 2 (aK 0 1 aQ (b7 (aa (av gR (ai 1) (aD (.int 1))) (aj)))) (qv 14 (aG a b) [nI n])=.nx (eH (aG a1 b1) n [.v (nI c),.no,.no,.no,.no,.no,.no,.no,.no,.no,.no,.no]):=
  (jq (cM (i:=0) (n:=1) (b0:=aG a b) (ds:=[.int ((n:Int) -1)]) rfl (bV (ar ((aB (x:=nI n) (y:=.int 1) rfl rfl).trans (iQ _ _)) rfl)) rfl rfl e1)).trans rfl
 have q2:iS 3 (ft 1 (b7 (eW (aa (aD (.int 4)) (aj)))) (gN 14) (cf) (aK 0 1 aQ (b7 (aa (aD (.int 2)) (aj))))) (eH (aG a1 b1) n [.v (nI c),.no,.no,.no,.no,.no,.no,.no,.no,.no,.no,.no])=.nx (eH (aG a2 b2) n [.v (nI c),.v W,.no,.no,.no,.no,.no,.no,.no,.no,.no,.no]):=(jq ew).trans rfl;have q3:iS 4 (gd dw (cS (Dv (aK 0 1 bd (b7 (aa (ai 1) (aj)))) nR (jU (aD (.int 4)))) (b7 (aj)))) (eH (aG a2 b2) n [.v (nI c),.v W,.no,.no,.no,.no,.no,.no,.no,.no,.no,.no])=.nx (eH (aG a3 b3) n [.v (nI c),.v W,.v (.lst ([f0,f1,f2,f3].map nI)),.no,.no,.no,.no,.no,.no,.no,.no,.no]):=by
  refine(jq (mJ (ρ1:=eH (aG a3 b3) n [.v (nI c),.v W,.no,.no,.no,.no,.no,.no,.no,.no,.no,.no]) (ds:=[.lst ((o.take 4).map nI)]) (dO ?_ (bV rfl)) es)).trans rfl;unfold Dv;rw[show aK 0 1 bd (b7 (aa (ai 1) (aj))) (eH (aG a2 b2) n [.v (nI c),.v W,.no,.no,.no,.no,.no,.no,.no,.no,.no,.no])=some (.lst (o.map nI),eH (aG a3 b3) n [.v (nI c),.v W,.no,.no,.no,.no,.no,.no,.no,.no,.no,.no]) from cM (i:=0) (n:=1) (b0:=aG a2 b2) (ds:=[nI n]) rfl (bV rfl) rfl rfl eo,Pf];show some (D.lst (ma (o.map nI) none (some ((4:Nat):Int))),_)=_;rw[Fn]
 have iw: ∀(j:Nat) (w:Int) (bg:List D) (t:List Sl),[D.int w0,.int w1,.int w2,.int w3][j]? =some (.int w)->av bj (ai 3) (aD (.int j)) (eH bg n (.v (nI c):: .v W::t))=some (.int w):=λj w bg t hw=>(aB (x:=W) (y:=.int j) rfl rfl).trans (uN hw)
 obtain⟨g0,g1,g2,g3,q4,NI0⟩: ∃g0 g1 g2 g3:Nat,be 4 (av gG (fA (ai 4) (jU (av bj (ai 3) (aD (.int 0)))) nR) (fA (ai 4) nR (jU (av bj (ai 3) (aD (.int 0)))))) (eH (aG a3 b3) n [.v (nI c),.v W,.v (.lst ([f0,f1,f2,f3].map nI)),.no,.no,.no,.no,.no,.no,.no,.no,.no])=.nx (eH (aG a3 b3) n [.v (nI c),.v W,.v (.lst ([g0,g1,g2,g3].map nI)),.no,.no,.no,.no,.no,.no,.no,.no,.no])/\NI n g0 g1 g2 g3:=by
  obtain⟨w,rfl⟩: ∃w:Nat,w0=(w:Int):=⟨w0.toNat,by lia⟩
  have i0:=iw 0 w (aG a3 b3) [.v (.lst ([f0,f1,f2,f3].map nI)),.no,.no,.no,.no,.no,.no,.no,.no,.no] rfl;have z:=(bo (i:=4) ((aB (mN (f:=ai 4) (l:=[f0,f1,f2,f3]) rfl i0) (uy (f:=ai 4) (l:=[f0,f1,f2,f3]) rfl i0)).trans (ED _ _ (by simp;lia))))
  have hw:w=0\/w=1:=by lia
  rcases hw with rfl|rfl
  ·refine⟨f0,f1,f2,f3,z.trans rfl,by lia,by lia,by lia,by lia,by lia,by lia,by lia,by lia,by lia,by lia,?_⟩;unfold nS;rw[P2];simp only[Pi,lL];lia
  ·refine⟨f1,f2,f3,f0,z.trans rfl,by lia,by lia,by lia,by lia,by lia,by lia,by lia,by lia,by lia,by lia,?_⟩;unfold nS;rw[P2];simp only[Pi,lL];lia
 have q5:be 5 (bI (aa (fA (ai 4) nR (jU (aD (.int 2)))) (aa (fA (ai 4) (jU (aD (.int 2))) nR) (aj)))) (eH (aG a3 b3) n [.v (nI c),.v W,.v (.lst ([g0,g1,g2,g3].map nI)),.no,.no,.no,.no,.no,.no,.no,.no,.no])=.nx (eH (aG a3 b3) n [.v (nI c),.v W,.v (.lst ([g0,g1,g2,g3].map nI)),.v (.lst [.lst ([g0,g1].map nI),.lst ([g2,g3].map nI)]),.no,.no,.no,.no,.no,.no,.no,.no]):=
  (bo (cP (ar (uy (f:=ai 4) (l:=[g0,g1,g2,g3]) (a:=2) rfl rfl) (ar (mN (f:=ai 4) (l:=[g0,g1,g2,g3]) (a:=2) rfl rfl) rfl)) (by simp))).trans rfl
 obtain⟨p0,p1,p2,p3,q6,NI1⟩: ∃p0 p1 p2 p3:Nat,fy (bJ (av pV (av bj (ai 3) (aD (.int 1))) (aD (.int 1)))) (be 5 (rX (ai 5) (jU (lg (aD (.int 1)))))) (cc) (eH (aG a3 b3) n [.v (nI c),.v W,.v (.lst ([g0,g1,g2,g3].map nI)),.v (.lst [.lst ([g0,g1].map nI),.lst ([g2,g3].map nI)]),.no,.no,.no,.no,.no,.no,.no,.no])=.nx (eH (aG a3 b3) n [.v (nI c),.v W,.v (.lst ([g0,g1,g2,g3].map nI)),.v (.lst [.lst ([p0,p1].map nI),.lst ([p2,p3].map nI)]),.no,.no,.no,.no,.no,.no,.no,.no])/\NI n p0 p1 p2 p3:=by
  have tt:=yw (iw 1 w1 (aG a3 b3) [.v (.lst ([g0,g1,g2,g3].map nI)),.v (.lst [.lst ([g0,g1].map nI),.lst ([g2,g3].map nI)]),.no,.no,.no,.no,.no,.no,.no,.no] rfl)
  by_cases e:w1=1
  ·rw[lR e] at tt;exact⟨g2,g3,g0,g1,(gj tt).trans ((bo (JQ (f:=ai 5) (ds:=[.lst ([g0,g1].map nI),.lst ([g2,g3].map nI)]) rfl)).trans rfl),NI0.swap h5⟩
  ·rw[md e] at tt;exact⟨g0,g1,g2,g3,(mL tt).trans rfl,NI0⟩
 have q7:cw (gL 2 (cU (gN 6) (cU (gN 7) (gU)))) (pu (ai 5)) (eH (aG a3 b3) n [.v (nI c),.v W,.v (.lst ([g0,g1,g2,g3].map nI)),.v (.lst [.lst ([p0,p1].map nI),.lst ([p2,p3].map nI)]),.no,.no,.no,.no,.no,.no,.no,.no])=.nx (eH (aG a3 b3) n [.v (nI c),.v W,.v (.lst ([g0,g1,g2,g3].map nI)),.v (.lst [.lst ([p0,p1].map nI),.lst ([p2,p3].map nI)]),.v (.lst ([p0,p1].map nI)),.v (.lst ([p2,p3].map nI)),.no,.no,.no,.no,.no,.no]):=fh (fx rfl) rfl;generalize hG:(Sl.v (.lst ([g0,g1,g2,g3].map nI)))=G4 at q7;generalize hP:(Sl.v (.lst [.lst ([p0,p1].map nI),.lst ([p2,p3].map nI)]))=G5 at q7;obtain⟨l0,l1,q8,NI2⟩: ∃l0 l1:Nat,fy (bJ (av pV (av bj (ai 3) (aD (.int 2))) (aD (.int 1)))) (be 6 (rX (ai 6) (jU (lg (aD (.int 1)))))) (cc) (eH (aG a3 b3) n [.v (nI c),.v W,G4,G5,.v (.lst ([p0,p1].map nI)),.v (.lst ([p2,p3].map nI)),.no,.no,.no,.no,.no,.no])=.nx (eH (aG a3 b3) n [.v (nI c),.v W,G4,G5,.v (.lst ([l0,l1].map nI)),.v (.lst ([p2,p3].map nI)),.no,.no,.no,.no,.no,.no])/\NI n l0 l1 p2 p3:=by
  have tt:=yw (iw 2 w2 (aG a3 b3) [G4,G5,.v (.lst ([p0,p1].map nI)),.v (.lst ([p2,p3].map nI)),.no,.no,.no,.no,.no,.no] rfl)
  by_cases e:w2=1
  ·rw[lR e] at tt;exact⟨p1,p0,(gj tt).trans ((bo (JQ (f:=ai 6) (ds:=[p0,p1].map nI) rfl)).trans rfl),NI1.revL⟩
  ·rw[md e] at tt;exact⟨p0,p1,(mL tt).trans rfl,NI1⟩
 obtain⟨r0,r1,q9,NI3⟩: ∃r0 r1:Nat,fy (bJ (av pV (av bj (ai 3) (aD (.int 3))) (aD (.int 1)))) (be 7 (rX (ai 7) (jU (lg (aD (.int 1)))))) (cc) (eH (aG a3 b3) n [.v (nI c),.v W,G4,G5,.v (.lst ([l0,l1].map nI)),.v (.lst ([p2,p3].map nI)),.no,.no,.no,.no,.no,.no])=.nx (eH (aG a3 b3) n [.v (nI c),.v W,G4,G5,.v (.lst ([l0,l1].map nI)),.v (.lst ([r0,r1].map nI)),.no,.no,.no,.no,.no,.no])/\NI n l0 l1 r0 r1:=by
  have tt:=yw (iw 3 w3 (aG a3 b3) [G4,G5,.v (.lst ([l0,l1].map nI)),.v (.lst ([p2,p3].map nI)),.no,.no,.no,.no,.no,.no] rfl)
  by_cases e:w3=1
  ·rw[lR e] at tt;exact⟨p3,p2,(gj tt).trans ((bo (JQ (f:=ai 7) (ds:=[p2,p3].map nI) rfl)).trans rfl),NI2.revR⟩
  ·rw[md e] at tt;exact⟨p2,p3,(mL tt).trans rfl,NI2⟩
 have m4:zK G4 G4=some G4:=by rw[<-hG];rfl
 have m5:zK G5 G5=some G5:=by rw[<-hP];rfl
 obtain⟨lr,a4,b4,⟨hlr,plr⟩,B4,er⟩:=zS h4 h5 B3 (by lia) (.v (nI c)) (.v W) G4 G5 .no l0 l1 r0 r1 0 l0 r0 (λs hs=>by
  simp only[PD,Q0,or_false] at hs;rcases hs with rfl|rfl|rfl|rfl|rfl
  ·rfl
  ·rfl
  ·exact m4
  ·exact m5
  ·rfl) (λbg t=>rfl) (λbg t=>rfl) NI3.ha NI3.hp NI3.ap
 have q10:=(jq (i:=8) er).trans (show Out.nx _=Out.nx (eH (aG a4 b4) n [.v (nI c),.v W,G4,G5,.v (.lst ([l0,l1].map nI)),.v (.lst ([r0,r1].map nI)),.v (.lst (lr.map nI)),.no,.no,.no,.no,.no]) from rfl)
 obtain⟨lx,a5,b5,⟨hlx,plx⟩,B5,ex⟩:=zS h4 h5 B4 (by lia) (.v (nI c)) (.v W) G4 G5 (.v (.lst (lr.map nI))) l0 l1 r0 r1 1 l1 r1 (λs hs=>by
  simp only[PD,Q0,or_false] at hs;rcases hs with rfl|rfl|rfl|rfl|rfl
  ·rfl
  ·rfl
  ·exact m4
  ·exact m5
  ·rfl) (λbg t=>rfl) (λbg t=>rfl) NI3.hb NI3.hq NI3.bq
 have q11:=(Gm (i:=9) ex).trans (show Out.nx _=Out.nx (eH (aG a5 b5) n [.v (nI c),.v W,G4,G5,.v (.lst ([l0,l1].map nI)),.v (.lst ([r0,r1].map nI)),.v (.lst (lr.map nI)),.own (lx.map nI),.no,.no,.no,.no]) from rfl);obtain⟨lx',s10,s11,⟨hlx',plx'⟩,e12⟩:=xG h4 h5 (aG a5 b5) (.v (nI c)) (.v W) G4 G5 (.v (.lst ([l0,l1].map nI))) (.v (.lst ([r0,r1].map nI))) lr hlr (n-2) 0 lx .no .no (by lia) hlx
 let S:Sl->Sl->aF:=λs12 s13=>eH (aG a5 b5) n [.v (nI c),.v W,G4,G5,.v (.lst ([l0,l1].map nI)),.v (.lst ([r0,r1].map nI)),.v (.lst (lr.map nI)),.own (lx'.map nI),s10,s11,s12,s13]
 have sb:av gR (ai 1) (aD (.int 2)) (eH (aG a5 b5) n [.v (nI c),.v W,G4,G5,.v (.lst ([l0,l1].map nI)),.v (.lst ([r0,r1].map nI)),.v (.lst (lr.map nI)),.own (lx.map nI),.no,.no,.no,.no])=some (nI (n-2)):=by
  refine(aB (x:=nI n) (y:=.int 2) rfl rfl).trans ((iQ _ _).trans ?_);show some (D.int _)=some (D.int _);congr 2;lia
 have q12:im (b7 (eW (aa (av gR (ai 1) (aD (.int 2))) (aj)))) (gN 10) (aC (be 11 (av cv (av bS (ai 10) (aD (.int 1))) (av gR (ai 1) (aD (.int 2)))))
  (fy (bJ (av pV (av bj (dJ 9) (ai 10)) (av bj (ai 8) (ai 10)))) (cw (gT 2 (cU (cT 9 (ai 10)) (cU (cT 9 (ai 11)) (gU)))) (pu (cx (aa (av bj (dJ 9) (ai 11)) (aa (av bj (dJ 9) (ai 10)) (aj)))))) (cc))) (eH (aG a5 b5) n [.v (nI c),.v W,G4,G5,.v (.lst ([l0,l1].map nI)),.v (.lst ([r0,r1].map nI)),.v (.lst (lr.map nI)),.own (lx.map nI),.no,.no,.no,.no])=.nx (S .no .no):=
  (gm (ds:=(SW 0 (n-2)).map nI) (bV ((iY (n:=n-2) (ar sb rfl) (by lia)).trans (by rw[UG])))).trans e12
 have q13:be 12 (av gG (av gG (fA (ai 8) nR (jU (ai 2))) (bI (aa (av bj (ai 6) (aD (.int 0))) (aa (av bj (ai 7) (aD (.int 0))) (aj))))) (fA (ai 8) (jU (ai 2)) nR)) (S .no .no)=.nx (S (.v (.lst ((lr.take c++[l0,r0]++lr.drop c).map nI))) .no):=by
  refine(bo ((aB ((aB (uy (f:=ai 8) (l:=lr) (g:=ai 2) (a:=c) rfl rfl) (cP (ds:=[l0,r0].map nI) rfl (by simp))).trans (ED _ _ (by simp;lia))) (mN (f:=ai 8) (l:=lr) (g:=ai 2) (a:=c) rfl rfl)).trans (ED _ _ (by simp;lia)))).trans rfl
 have q14:be 13 (av gG (av gG (fA (dJ 9) nR (jU (ai 2))) (bI (aa (av bj (ai 6) (aD (.int 1))) (aa (av bj (ai 7) (aD (.int 1))) (aj))))) (fA (dJ 9) (jU (ai 2)) nR)) (S (.v (.lst ((lr.take c++[l0,r0]++lr.drop c).map nI))) .no)=.nx (S (.v (.lst ((lr.take c++[l0,r0]++lr.drop c).map nI))) (.v (.lst ((lx'.take c++[l1,r1]++lx'.drop c).map nI)))):=by
  refine(bo ((aB ((aB (uy (f:=dJ 9) (l:=lx') (g:=ai 2) (a:=c) rfl rfl) (cP (ds:=[l1,r1].map nI) rfl (by simp))).trans (ED _ _ (by simp;lia))) (mN (f:=dJ 9) (l:=lx') (g:=ai 2) (a:=c) rfl rfl)).trans (ED _ _ (by simp;lia)))).trans rfl
 obtain⟨z1,z2,z3⟩:=xI h4 h5 lr c l0 r0 (by lia);obtain⟨y1,y2,y3⟩:=xI h4 h5 lx' c l1 r1 (by lia);refine⟨lr.take c++[l0,r0]++lr.drop c,lx'.take c++[l1,r1]++lx'.drop c,c,aG a5 b5,?_,⟨_,_,_,B5,by lia,rfl⟩,A5 plr NI3.ha NI3.hp NI3.ap c,A5 (plx'.trans plx) NI3.hb NI3.hq NI3.bq c,hc,by rw[z2,z3,y2,y3];exact NI3⟩;subst hG hP;unfold bZ zf iL;rw[aA q1,aA q2,aA q3,aA q4,aA q5,aA q6,aA q7,aA q8,aA q9,aA q10,aA q11,aA q12,aA q13,aA q14];rfl
end
def Lm(l:List Nat)(c:Nat):List Nat:=l.take c++[l.getD (c+1) 0,l.getD c 0]++l.drop (c+2)
theorem oN(f:List Int->Nat)(p:List Int->Bool): ∀l:List (List Int),(l.map f).sum=((l.filter p).map f).sum+((l.filter λk=> !p k).map f).sum
 | []=>rfl
 |a::l=>by
  have b:=oN f p l;cases h:p a with
  |true=>rw[RB h,RA (by simp[h]),Pe,PP,Pe,PP];lia
  |false=>rw[RA (by simp[h]),RB (by simp[h]),Pe,PP,Pe,PP];lia
theorem Ia(f:List Int->Nat){A B:List (List Int)}(b:A.Nodup)(a:B.Nodup):((ga A B).map f).sum % 2=((A.map f).sum+(B.map f).sum) % 2:=by
 have d:=oN f (λk=>decide (k∉B)) A;have c:=oN f (λk=>decide (k∉A)) B;have p:(A.filter λk=> !decide (k∉B)).Perm (B.filter λk=> !decide (k∉A)):=by
  refine(P0 (b.filter _) (a.filter _)).mpr λk=>?_
  rw[Qf,Qf];simp[and_comm]
 have e:=gz (p.map f);unfold ga;rw[Qa,UN];lia
theorem lU(l:List Nat):ax l=cZ (zs l):=by unfold ax cZ zs;rw[Pw];rfl
theorem zF(L:List (List Nat)):L.map ax=(L.map zs).map cZ:=by rw[Pw];exact PM λl _=>lU l
theorem KN(K:List (List Int))(k:List Int):iZ true (cZ k) (.lst (K.map cZ))=some (.bl (!decide (k∈K))):=by
 have q:=OT K k;have d:=uv K;unfold iZ lO at q⊢;dsimp only at q⊢;rw[if_pos (by lia)] at q⊢;injection q with q
 injection q with q
 rw[<-q];rfl
abbrev srt(K:List (List Int)):List (List Int):=bw bx K
abbrev kD(K:List (List Int)):D:=.lst (K.map cZ)
structure Cw(N:Nat)(K:List (List Int)):Prop where
 nd:K.Nodup
 len:K.length<=N
 ne: ∀k∈K,k≠[]
theorem Cw.srt {N:Nat}{K:List (List Int)}(h:Cw N K):Cw N (srt K):=⟨(aU (lt:=bx) K).nodup_iff.mpr h.nd,by rw[(aU (lt:=bx) K).length_eq];exact h.len,λk a=>h.ne k ((aU (lt:=bx) K).mem_iff.mp a)⟩
theorem Cw.sym {N M:Nat}(h:Cw N A)(h':Cw M B):Cw (N+M) (ga A B):=by
 refine⟨u5 h.nd h'.nd,?_,λk c=>?_⟩
 ·unfold ga;rw[PF];have a:=Qo (λk=>decide (k∉B)) A;have b:=Qo (λk=>decide (k∉A)) B;have:=h.len;have:=h'.len;lia
 ·rcases ib.mp c with q|q
  ·exact h.ne k q.1
  ·exact h'.ne k q.1
theorem qp: ∀K:List (List Int),o5 (K.map cZ)=some K
 | []=>rfl
 |k::K=>by
  rw[Pe];show(eN (k.map D.int)).bind (λk=>(o5 (K.map cZ)).map (k:: ·))=_;rw[kx,Pf,qp K];rfl
theorem wf {N M:Nat}(h:Cw N A)(h':Cw M B)(d:N+M<=1000)(c:(ga A B).length<64):gZ [kD A,kD B]=some (kD (srt (ga A B))):=by
 apply bh (kd:=.n) (n:=2) (t:=u3) (ρ:=[.v (kD A),.v (kD B)]);unfold u3;refine a7 ?_
 show((o5 (A.map cZ)).bind λa=>(o5 (B.map cZ)).bind λb=>if(a.Nodup/\b.Nodup)/\a.length+b.length<=1000/\(ga a b).length<64/\(∀k∈a,k≠[])/\(∀k∈b,k≠[]) then some (D.lst ((bw bx (ga a b)).map cZ)) else none)=_;rw[qp,qp,Pf,Pf,if_pos ⟨⟨h.nd,h'.nd⟩,by have:=h.len;have:=h'.len;lia,c,h.ne,h'.ne⟩]
theorem xq(A B:List (List Int)):(ga A B).length<=A.length+B.length:=by
 unfold ga;rw[PF];have a:=Qo (λk=>decide (k∉B)) A;have b:=Qo (λk=>decide (k∉A)) B;lia
theorem kb {K:List (List Int)}{k:List Int}:k∈srt K↔k∈K:=(aU (lt:=bx) K).mem_iff
theorem L9: ∀ {o:List Nat},o.length=5->o.sum=o.getD 0 0+o.getD 1 0+o.getD 2 0+o.getD 3 0+o.getD 4 0
 | [a,b,c,d,e],_=>by simp[Qd];lia
 | [],h=>by simp at h
 | [_],h=>by simp at h
 | [_,_],h=>by simp at h
 | [_,_,_],h=>by simp at h
 | [_,_,_,_],h=>by simp at h
 |_::_::_::_::_::_::_,h=>by simp at h
def N1(k:List Int):Nat:=(uz k).getD 0 0+5*(uz k).getD 1 0+25*(uz k).getD 2 0+125*(uz k).getD 3 0
theorem Ord.get0{o:List Nat}(O:Ord n o)(a:n<=5)(c:Nat):o.getD c 0<5:=by
 by_cases h:c<n
 ·have:=O.get h;lia
 ·rw[PQ,Qz (by rw[O.len];lia)];simp
theorem u6(c:n<=5){L:List (List Int)}(v:L.Nodup)(h:i9 n L):L.length<=625:=by
 have:(L.map N1).length<=625:=mI (by
  rw[Rh,Qr];refine Qp (λ{a b} r t j e=>j ?_) v;obtain⟨o,O,rfl⟩:=h a r;obtain⟨A,d,rfl⟩:=h b t;unfold N1 at e;rw[eM,eM] at e;have l:=O.get0 c 0;have p:=O.get0 c 1;have g:=O.get0 c 2;have f:=O.get0 c 3;have b0:=d.get0 c 0;have x:=d.get0 c 1;have B:=d.get0 c 2;have y:=d.get0 c 3;congr 1;refine qV (by rw[O.len,d.len]) λi u=>?_
  rw[O.len] at u;have:i=0\/i=1\/i=2\/i=3\/i=4:=by lia
  rcases this with e|e|e|e|e<;>subst e
  ·lia
  ·lia
  ·lia
  ·lia
  ·have q:n=5:=by lia
   subst q;have m:=L9 O.len;have s2:=L9 d.len
   rw[gz O.perm] at m;rw[gz d.perm] at s2;lia) λz w=>by
  obtain⟨k,s,rfl⟩:=Pz.mp w;obtain⟨o,O,rfl⟩:=h k s;unfold N1;rw[eM];have l:=O.get0 c 0;have p:=O.get0 c 1;have g:=O.get0 c 2;have f:=O.get0 c 3;lia
 rw[Pc] at this;exact this
theorem sO {g:FG}{i:Nat}{st:List (List Int)->Sl->aF}{fk:FE}{n:Nat}(t:n<=5)(p: ∀acc s d,g d (st acc s)=some (st acc (.v d)))(o: ∀acc d,fk (st acc (.v d))=some d)(j: ∀acc s,vI i (st acc s)=some acc)(x: ∀acc a s,(st acc s).set i (.ob (.tset a))=st a s):
 ∀(ks acc:List (List Int)) (s:Sl),acc.Nodup->i9 n acc->i9 n ks-> ∃s',fE g (fy (CI i fk) (cj (vJ lF i fk)) (cj (vJ lw i fk))) (ks.map cZ) (st acc s)=.nx (st (ks.foldl iC acc) s')
 | [],acc,s,_,_,_=>⟨s,rfl⟩
 |k::ks,acc,s,y,u,q=>by
  have A:=u6 t y u;have l:i9 n (iC acc k):=λz m=>by
   have:=(xv acc k z).mp m
   by_cases e:z=k
   ·rw[e];exact q k PH
   ·rw[if_neg e] at this;exact u z this
  obtain⟨s',h⟩:=sO t p o j x ks (iC acc k) (.v (cZ k)) (vd y k) l λz m=>q z (Pt _ m)
  have r:(fk (st acc (.v (cZ k)))).bind CV=some k:=by rw[o];exact kx k
  have b:CI i fk (st acc (.v (cZ k)))=some (decide (k∈acc)):=by
   unfold CI;rw[j,Pf,r];rfl
  have w: ∀f,cj (vJ f i fk) (st acc (.v (cZ k)))=.nx (st (f acc k) (.v (cZ k))):=λf=>by
   unfold cj vJ;rw[j,Pf,r,Pf,if_pos (by lia),x]
  refine⟨s',?_⟩;rw[Pe];refine(cI (ρ1:=st acc (.v (cZ k))) (p _ _ _) (ρ2:=st (iC acc k) (.v (cZ k))) ?_).trans h;unfold iC
  by_cases c:k∈acc
  ·rw[if_pos c,gj (b.trans (by rw[lR c]))];exact w _
  ·rw[if_neg c,mL (b.trans (by rw[md c]))];exact w _
theorem ze(h:0<n){K:List (List Int)}(b:i9 n K): ∀k∈K,k≠[]:=λk c e=>by
 obtain⟨o,O,rfl⟩:=b k c;have a:=O.len;have:=congrArg Sd e;unfold zs at this;simp at this;rw[this] at a;simp at a;lia
theorem AG(d:0<n)(f:n<=5)(c:i9 n ks)(b:(ny ks).length<64):cu [kD ks]=some (kD (c7 ks)):=by
 obtain⟨s',h⟩:=sO f (g:=gN 2) (i:=1) (fk:=ai 2) (st:=λacc s=>[.v (.lst (ks.map cZ)),.ob (.tset acc),s]) (λ_ _ _=>rfl) (λ_ _=>rfl) (λ_ _=>rfl) (λ_ _ _=>rfl) ks [] .no Vg (λ_ h=>nomatch h) c;apply bh (kd:=.n) (n:=3) (t:=h8);unfold h8;refine(aA (ρ':=[.v (.lst (ks.map cZ)),.ob (.tset []),.no]) rfl).trans ((aA ((gm (bV (fG rfl))).trans h)).trans (a7 ?_));unfold DU;show(some (ks.foldl iC [])).bind _=_;rw[Pf];have e:i9 n (ny ks):=λz j=>c z (Fe j)
 rw[if_pos ⟨b,λk a=>ze d e k a⟩];rfl
theorem zu {a:Nat}(h:a<=20000):a<=sizeLine:=by rw[QU];lia
theorem vG{ds ys:List D}(a:gi1 ρ=some ds)(c:pU g1 p1 (El gi2 g2 p2 f) (ρ++Pj m .no) ds=some ys)(b:ys.length<=20000):jG m gi1 g1 p1 gi2 g2 p2 f ρ=some (.lst ys):=by
 unfold jG;rw[a,Pf,c,Pf,if_pos (zu b)]
theorem Dn(r x:List Nat)(a:n<=5): ∀K:List (List Int),(bK n r x K).length<=25*K.length
 | []=>by simp[bK]
 |k::K=>by
  unfold bK;rw[P6,PF,PL];have b:=Dn r x a K;unfold bK at b;have c:(eI n r x k).length<=n*n:=by unfold eI;rw[Pc];exact Kx n _
  have d:n*n<=5*5:=Ss a a;lia
theorem sj(g:2<=n)(d:n<=5)(R:Ord n r)(X:Ord n x){K:List (List Int)}(b:i9 n K)(f:K.length<=700)(a:(xV n r x K).length<64):cV [de r x,kD K]=some (kD (xV n r x K)):=by
 apply bh (kd:=.n) (n:=2) (t:=pZ) (ρ:=[.v (de r x),.v (kD K)]);unfold pZ;refine a7 ((aW (ds:=[kD (bK n r x K)]) (ar ?_ rfl) rfl).trans (AG (by lia) d (Do b) (by unfold xV c7 at a;rwa [(aU (lt:=bx) _).length_eq] at a)));have e:K=(K.map uz).map zs:=by
  rw[Pw];refine(WY K).symm.trans (PM λk c=>?_);obtain⟨o,O,rfl⟩:=b k c;show zs o=zs (uz (zs o));rw[eM]
 refine vG (ds:=K.map cZ) (ys:=(bK n r x K).map cZ) (fG rfl) ?_ (by rw[Pc];have:=Dn r x d K;lia)
 refine(dH (h:=cZ) (q:=λ_=>true) (o:=λk=>(eI n r x k).map cZ) K λk c=>⟨[.v (de r x),.v (kD K),.v (cZ k),.no,.no,.no],rfl,rfl,λ_=>?_⟩).trans ?_
 ·obtain⟨o,O,rfl⟩:=b k c;refine oo (ds:=(sp n (cH r x o)).map λp=>yH o p.1 p.2) (fG ((aW (ds:=[de r x,ax o]) (ar rfl (ar (by rw[lU];rfl) rfl)) rfl).trans ((EI O R.len X.len (by lia) (by lia)).trans (by rw[Hm O.len])))) ?_
  refine(dH (h:=λp:Nat×Nat=>yH o p.1 p.2) (q:=λ_=>true) (o:=λp=>[cZ (zs (bA o p.1 p.2))]) (sp n (cH r x o)) λp i=>⟨[.v (de r x),.v (kD K),.v (cZ (zs o)),.v (nI p.1),.v (nI p.2),.v (ax (bA o p.1 p.2))],rfl,rfl,λ_=>kY (by rw[<-lU (bA o p.1 p.2)];rfl)⟩).trans ?_
  rw[QC.mpr (λ_ _=>rfl),jY];unfold eI;rw[eM,Pw];rfl
 ·rw[QC.mpr (λ_ _=>rfl)];unfold bK;rw[RQ]
theorem xQ(P Q:Nat->Bool)(o:List Nat)(i j:Nat):(pA P Q o i j).length<=2:=by unfold pA;split<;>split<;>simp
theorem mX {α β:Type}(f:α->List β)(m:Nat): ∀l:List α,(∀x∈l,(f x).length<=m)->(l.flatMap f).length<=m*l.length
 | [],_=>by simp
 |x::l,h=>by
  rw[P6,PF,PL,Wq];have:=mX f m l λy a=>h y (by simp[a])
  have:=h x (by simp);lia
theorem vm: ∀(c:Nat) (l:List Nat),c+1<l.length->bA l c (c+1)=Lm l c
 |0,a::b::l,_=>rfl
 |c+1,a::l,h=>by
  rw[PL] at h;have:=vm c l (by lia);unfold bA Lm at this⊢;rw[Vf,Vf,UQ,Tu,VR,VR];exact congrArg (a:: ·) this
 |0,[],h=>by simp at h
 |0,[_],h=>by simp at h
 |_+1,[],h=>by simp at h
theorem KC{r x:List Nat}(a:r.length=n)(b:x.length=n)(k:c+1<n)(o:n<=6)(h:NI n (r.getD c 0) (x.getD c 0) (r.getD (c+1) 0) (x.getD (c+1) 0)):bv [de r x,nI c]=some (de (Lm r c) (Lm x c)):=by
 have m:Eg r x (c:Int)=true:=by
  unfold Eg KH;rw[Rc];have e:=h.ni;unfold nS at e;unfold IA;rw[e];simp only[Pi,lL,beq_self_eq_true,QP,WZ,decide_eq_false_iff_not];exact⟨⟨by lia,by lia⟩,⟨⟨h.ap,h.aq⟩,h.bp,h.bq⟩,trivial⟩
 have d:jR (fQ (ak (nF 2 gl) (aa (ai 0) (aa (ai 1) (aj))))) (kv 4 [de r x,nI c])=some (!Eg r x c):=oJ (ka ((aW (ds:=[de r x,nI c]) rfl rfl).trans (HY a b (by lia) o c)));rw[m] at d;have f: ∀(i:Nat) (l:List Nat),l.length=n->ai i [.v (de r x),.v (nI c),.v (ax r),.v (ax x)]=some (ax l)->ak (nF 3 bC) (aa (ai i) (aa (ai 1) (aa (av bS (ai 1) (aD (.int 1))) (aj)))) [.v (de r x),.v (nI c),.v (ax r),.v (ax x)]=some (ax (Lm l c)):=λi l g j=>by
  rw[<-vm c l (by lia)];exact(aW (ds:=[ax l,nI c,nI (c+1)]) (ar j (ar rfl (ar ((aB (x:=nI c) (y:=.int 1) rfl rfl).trans (CO c)) rfl))) rfl).trans (z6 g (by lia) k)
 apply bh (kd:=.s) (n:=4) (t:=eS) (ρ:=[.v (de r x),.v (nI c),.v (ax r),.v (ax x)]);unfold eS;exact(aA (ir d)).trans ((aA (ρ':=[.v (de r x),.v (nI c),.v (ax r),.v (ax x)]) (fh (fx rfl) rfl)).trans (a7 (cq (ar (f 2 r a rfl) (ar (f 3 x b rfl) rfl)) (by simp))))
theorem Cf{S:jT}{rs ls:List jT}{rt lt:List Nat}(R:4<=n)(B:n<=5)(x:Ln n S)(s:c+1<n)(m: ∀S∈rs,Ln n S)(p: ∀S∈ls,Ln n S)(g:rt.length<rs.length)(f:lt.length<ls.length){K:List (List Int)}(t:i9 n K)(T:K.length<=700){i5 i6 i7 i8:Nat}
 (w: ∀o,∃ρ1,gN i7 (ax o) (ρ++[.no,.no])=some ρ1/\aa (ai 0) (aa (ai 1) (aa (ai i7) (aa (ai i5) (aa (ai i6) (aj))))) ρ1=some [kM S,nI c,ax o,dU rs rt,dU ls lt]/\ ∀e,∃ρ2,gN i8 (ax e) ρ1=some ρ2/\ai i8 ρ2=some (ax e))
 (A:ai 2 ρ=some (kD K)) (d:(jS (eR n λo a b=>(decide (a=c+1)&&dn n S o (c+1) b (c+1) rs rt)||(decide (b=c+1)&&dn n S o a (c+1) c ls lt)) K).length<64):
 ak (nF 1 cu) (aa (jG 2 (dz (ai 2)) (gN i7) (cf) (dz (ak (nF 5 eO) (aa (ai 0) (aa (ai 1) (aa (ai i7) (aa (ai i5) (aa (ai i6) (aj)))))))) (gN i8) (cf) (ai i8)) (aj)) ρ=some (kD (jS (eR n λo a b=>(decide (a=c+1)&&dn n S o (c+1) b (c+1) rs rt)||(decide (b=c+1)&&dn n S o a (c+1) c ls lt)) K)):=by
 let P:List Nat->Nat->Bool:=λo j=>dn n S o (c+1) j (c+1) rs rt
 let Q:List Nat->Nat->Bool:=λo j=>dn n S o j (c+1) c ls lt
 let E:List Int->List (List Int):=λk=>(iE n (P (uz k)) (Q (uz k)) (uz k) (c+1)).map zs
 have u: ∀k,(E k).Perm (eR n (λo a b=>(decide (a=c+1)&&P o b)||(decide (b=c+1)&&Q o a)) k):=λk=>by
  have:=(sn s (P (uz k)) (Q (uz k)) (uz k)).map zs;rw[Pw] at this;exact this
 have I: ∀k,(E k).length<=10:=λk=>by
  have:=mX (pA (P (uz k)) (Q (uz k)) (uz k) (c+1)) 2 (O5 n) λj _=>xQ _ _ _ _ _
  show((iE n _ _ _ _).map zs).length<=10;rw[Pc];unfold iE;rw[QF] at this;lia
 have H:i9 n (K.flatMap E):=λz i=>by
  obtain⟨k,r,i⟩:=QZ.mp i;obtain⟨o,O,rfl⟩:=t k r;exact yo O z ((u (zs o)).mem_iff.mp i)
 have F:jG 2 (dz (ai 2)) (gN i7) (cf) (dz (ak (nF 5 eO) (aa (ai 0) (aa (ai 1) (aa (ai i7) (aa (ai i5) (aa (ai i6) (aj)))))))) (gN i8) (cf) (ai i8) ρ=some (kD (K.flatMap E)):=by
  refine vG (ds:=K.map cZ) (ys:=(K.flatMap E).map cZ) (fG A) ?_ (by
   rw[Pc];have:=mX E 10 K λk _=>I k
   lia)
  refine(dH (h:=cZ) (q:=λ_=>true) (o:=λk=>(E k).map cZ) K λk r=>?_).trans ?_
  ·obtain⟨o,O,rfl⟩:=t k r;obtain⟨ρ1,G,J,C⟩:=w o;rw[<-lU];refine⟨ρ1,G,rfl,λ_=>?_⟩;have D:(E (zs o)).map cZ=(iE n (P o) (Q o) o (c+1)).map ax:=by
    show((iE n (P (uz (zs o))) (Q (uz (zs o))) (uz (zs o)) (c+1)).map zs).map cZ=_;rw[eM,<-zF]
   rw[D];refine oo (ds:=(iE n (P o) (Q o) o (c+1)).map ax) (fG ((aW J rfl).trans (Gb (by lia) (by lia) x O.len s m p g f))) ?_
   refine(dH (h:=ax) (q:=λ_=>true) (o:=λe=>[ax e]) (iE n (P o) (Q o) o (c+1)) λe _=>?_).trans ?_
   ·obtain⟨ρ2,M,L⟩:=C e;exact⟨ρ2,M,rfl,λ_=>kY L⟩
   ·rw[QC.mpr λ_ _=>rfl];congr 1
    induction iE n (P o) (Q o) o (c+1) with
    |nil=>rfl
    |cons y l N=>rw[P6,N];rfl
  ·rw[QC.mpr λ_ _=>rfl,RQ]
 have v:c7 (K.flatMap E)=(jS (eR n λo a b=>(decide (a=c+1)&&dn n S o (c+1) b (c+1) rs rt)||(decide (b=c+1)&&dn n S o a (c+1) c ls lt)) K):=Em λz=>by
  rw[cO,cO];congr 2;exact PM λk _=>(u k).count_eq z
 refine(aW (ds:=[kD (K.flatMap E)]) (ar F rfl) rfl).trans ((AG (by lia) B H ?_).trans (by rw[v]));rw[<-v] at d;unfold c7 at d;rwa [(aU (lt:=bx) _).length_eq] at d
theorem FK(R:Ord n r)(X:Ord n x):K8 n (r,x):=λk a=>⟨R.get a,X.get a⟩
theorem Bp{r:List Nat}(R:Ord n r)(d:c+1<n):(bA r c (c+1)).getD c 0=r.getD (c+1) 0/\(bA r c (c+1)).getD (c+1) 0=r.getD c 0/\ ∀k,k≠c->k≠c+1->(bA r c (c+1)).getD k 0=r.getD k 0:=by
 have l:=R.len;refine⟨?_,?_,λk a b=>?_⟩
 ·rw[eX (by lia) (by lia),if_neg (by lia),if_pos rfl]
 ·rw[eX (by lia) (by lia),if_pos rfl]
 ·rw[eX (by lia) (by lia),if_neg b,if_neg a]
abbrev AJ(n c:Nat)(r x:List Nat):List Nat->Nat->Nat->Bool:=Nz n c (r,x) (bA r c (c+1),bA x c (c+1)) (bz (r.getD c 0) (x.getD c 0) (r.getD (c+1) 0))
section
variable {n c:Nat}{r x:List Nat}(h4:4<=n)(h5:n<=5)(hc:c+1<n)(R:Ord n r)(X:Ord n x)(N:NI n (r.getD c 0) (x.getD c 0) (r.getD (c+1) 0) (x.getD (c+1) 0))
include h4 h5 hc R X N
theorem EM:bv [de r x,nI c]=some (de (bA r c (c+1)) (bA x c (c+1))):=by
 rw[vm c r (by rw[R.len];exact hc),vm c x (by rw[X.len];exact hc)];exact KC R.len X.len hc (by lia) N
theorem uj: ∀o,Ord n o-> ∀a b,a<n->b<n->a≠b->(AJ n c r x o a b=true↔HW n c r x (bz (r.getD c 0) (x.getD c 0) (r.getD (c+1) 0)) (r.getD (c+1) 0) (x.getD (c+1) 0) (r.getD c 0) (x.getD c 0) o a b):=λo O a b f h g=>by
 have e:=Bp R hc;have d:=Bp X hc;exact Gx h5 hc (S:=(r,x)) (O:=(bA r c (c+1),bA x c (c+1))) (FK R X) (FK (R.exx (by lia) hc) (X.exx (by lia) hc)) (λ_ _ _ _=>⟨rfl,rfl⟩) e.1 d.1 e.2.1 d.2.1 (uO N).1 O f h g
theorem u4 {K:List (List Int)}(i:i9 n K)(l:K.length<=700)(f:(jS (eR n (AJ n c r x)) K).length<64):eF [de r x,nI c,kD K]=some (kD (jS (eR n (AJ n c r x)) K)):=by
 let S:jT:=(r,x)
 let O:jT:=(bA r c (c+1),bA x c (c+1))
 have k:=R.exx (show c<n by lia) hc;have p:=X.exx (show c<n by lia) hc;have d:Ln n S:=⟨R.len,X.len⟩
 have h:Ln n O:=⟨k.len,p.len⟩
 have g:iR [de r x,nI c]=some (nI (bz (r.getD c 0) (x.getD c 0) (r.getD (c+1) 0))):=F9 R.len X.len hc N;have a:=f;unfold AJ at a;generalize m:bz (r.getD c 0) (x.getD c 0) (r.getD (c+1) 0)=T at g a;apply bh (kd:=.n) (n:=7) (t:=FR);unfold FR;refine(aA (ρ':=[.v (kM S),.v (nI c),.v (kD K),.v (kM O),.no,.no,.no]) ((bo ((aW (ds:=[kM S,nI c]) rfl rfl).trans (EM h4 h5 hc R X N))).trans rfl)).trans ?_
 refine(aA (ρ':=[.v (kM S),.v (nI c),.v (kD K),.v (kM O),.v (.lst [nI T]),.no,.no]) ((bo (cP (ar ((aW (ds:=[kM S,nI c]) rfl rfl).trans g) rfl) (by simp))).trans rfl)).trans ?_
 refine(aA (ρ':=[.v (kM S),.v (nI c),.v (kD K),.v (kM O),.v (.lst [nI T]),.v (dU [S,O] [T]),.v (dU [O,S] [T])]) (fh (fx (cq (ar (cq (ar (cP rfl (by simp)) rfl) (by simp)) (ar (cq (ar (cP rfl (by simp)) rfl) (by simp)) rfl)) (by simp))) rfl)).trans ?_
 refine a7 ((Cf (i5:=5) (i6:=6) (i7:=7) (i8:=8) h4 h5 d hc (rs:=[S,O]) (ls:=[O,S]) (rt:=[T]) (lt:=[T]) (λj b=>?_) (λj b=>?_) (by simp) (by simp) i l (λo=>⟨_,rfl,rfl,λe=>⟨_,rfl,rfl⟩⟩) rfl a).trans ?_)
 ·rcases PD.mp b with q|q
  ·rw[q];exact d
  ·rw[Px] at q;rw[q];exact h
 ·rcases PD.mp b with q|q
  ·rw[q];exact h
  ·rw[Px] at q;rw[q];exact d
 ·unfold AJ;rw[m];rfl
end
theorem GM{A B:List (List Int)}(a:A.Nodup)(f:B.Nodup):jS e (bw bx (ga A B))=bw bx (ga (jS e A) (jS e B)):=by
 symm;refine sS (u5 (gq _) (gq _)) λz=>?_
 have c:((bw bx (ga A B)).flatMap e).count z % 2=((A.flatMap e).count z+(B.flatMap e).count z) % 2:=by
  rw[((aU (lt:=bx) (ga A B)).flatMap_right e).count_eq,cO,cO,cO];exact Ia _ a f
 rw[c,ib];have b:z∈jS e A↔(A.flatMap e).count z % 2=1:=eL;have d:z∈jS e B↔(B.flatMap e).count z % 2=1:=eL;rw[b,d];lia
theorem ui:(jS e A).Nodup:=gq _
def yf(h:Nat)(q:List Nat)(i:Nat):D:=.tup [.int (2*i+h),.int (2*(q.getD i 0:Nat)+h)]
theorem Nu(q:List Nat):zg (q.map nI)=(O5 q.length).map λ(i:Nat)=>D.tup [nI i,nI (q.getD i 0)]:=by
 unfold zg;rw[Pc];refine PM λi a=>?_
 rw[O6] at a;congr 3;rw[PQ,P5,Pd a,PQ,Pd a];rfl
theorem sY(O:Ord n o)(b:n<=8)(h:Nat):fU [ax o,nI h]=some (.lst ((O5 n).map (yf h o))):=by
 apply bh (kd:=.n) (n:=2) (t:=kr);unfold kr;refine a7 (eU (ds:=(O5 n).map λ(i:Nat)=>D.tup [nI i,nI (o.getD i 0)]) ?_ (by rw[Pc,QF];lia) ?_)
 ·rw[<-O.len,<-Nu];rfl
 ·refine gw (h:=λ(i:Nat)=>D.tup [nI i,nI (o.getD i 0)]) (o:=yf h o) _ λi a=>⟨_,rfl,?_⟩
  rw[O6] at a;have hv:=O.get a;refine cq (ar ((aB ((aB (x:=.int 2) (y:=nI i) rfl rfl).trans (fT (by decide) ?_)) (y:=nI h) rfl).trans rfl) (ar ((aB ((aB (x:=.int 2) (y:=nI (o.getD i 0)) rfl rfl).trans (fT (by decide) ?_)) (y:=nI h) rfl).trans rfl) rfl)) (by simp)
  ·exact T0 (show i<8 by lia) (by decide)
  ·exact T0 (show o.getD i 0<8 by lia) (by decide)
def CM(h:Nat)(p:List Nat)(k:Nat)(q:List Nat)(i j:Nat):Bool:=decide ((2*i+h:Int)<2*j+k)&&decide ((2*(p.getD i 0:Nat)+h:Int)<2*(q.getD j 0:Nat)+k)
theorem Hj(p:Nat->Bool)(l:List Nat):((l.filter p).length:Int)=ls l λx=>bi (p x):=by
 have:=oD p (λ_=>1) l;rw[iF] at this;simpa using this
theorem xi {β:Type}(f:Nat->List β): ∀l:List Nat,((l.flatMap f).length:Int)=ls l λx=>((f x).length:Int)
 | []=>rfl
 |x::l=>by rw[P6,PF,UM,xi f l];rfl
def Ex(n h:Nat)(p:List Nat)(k:Nat)(q:List Nat):Int:=ls (O5 n) λi=>ls (O5 n) λj=>bi (CM h p k q i j)
theorem Ff(c:n<=8)(h:Nat)(p:List Nat)(k:Nat)(q:List Nat):gW [.lst ((O5 n).map (yf h p)),.lst ((O5 n).map (yf k q))]=some (.int (Ex n h p k q)):=by
 apply bh (kd:=.s) (n:=2) (t:=uQ);unfold uQ;refine a7 ?_
 rw[bO (ds:=[.lst ((O5 n).flatMap λi=>((O5 n).filter (CM h p k q i)).map λ_=>D.bl true)]) (ar (pL (ds:=(O5 n).map (yf h p)) rfl ?_ ?_) rfl)]
 ·show some (D.int _)=_;rw[xi];congr 2;unfold Ex;refine bu λi _=>?_
  rw[Pc,Hj]
 ·refine(dH (h:=yf h p) (q:=λ_=>true) (o:=λ(i:Nat)=>((O5 n).filter (CM h p k q i)).map λ_=>D.bl true) (O5 n) λi u=>⟨_,rfl,rfl,λ_=>?_⟩).trans ?_
  ·refine oo (ds:=(O5 n).map (yf k q)) rfl ?_
   refine(dH (h:=yf k q) (q:=CM h p k q i) (o:=λ(_:Nat)=>[D.bl true]) (O5 n) λj g=>⟨_,rfl,?_,λ_=>kY rfl⟩).trans ?_
   ·refine mz (a:=decide ((2*i+h:Int)<2*j+k)) (bR (aB (x:=.int (2*i+h)) (y:=.int (2*j+k)) rfl rfl)) (λz=>?_) (λz=>by unfold CM;rw[z];rfl);unfold CM;rw[z,Qq];exact bR (aB (x:=.int (2*(p.getD i 0:Nat)+h)) (y:=.int (2*(q.getD j 0:Nat)+k)) rfl rfl)
   ·rw[jY]
  ·rw[QC.mpr (λ_ _=>rfl)]
 ·have b: ∀(l:List Nat) (m:Nat) (f:Nat->List D),(∀a,(f a).length<=m)->(l.flatMap f).length<=l.length*m:=by
   intro l m f e
   induction l with
   |nil=>simp
   |cons a l r=>rw[P6,PF,PL,Vm,WT];have:=e a;lia
  have d:=b (O5 n) n (λi=>((O5 n).filter (CM h p k q i)).map λ_=>D.bl true) (λa=>by rw[Pc];exact P8 (Qo _ _) (by simp));rw[QF] at d;have:n*n<=8*8:=Ss c c;lia
theorem mW(h:p=true↔q=true):bi p=bi q:=by rw[P2.mpr h]
theorem mh(R:Ord n r)(O:Ord n o)(b:n<=8):eA [ax r,ax o]=some (.int (pc n r o)):=by
 apply bh (kd:=.s) (n:=4) (t:=l6);unfold l6;refine(aA (ρ':=[.v (ax r),.v (ax o),.v (.lst ((O5 n).map (yf 0 o))),.no]) ((bo ((aW (ds:=[ax o,nI 0]) rfl rfl).trans (sY O b 0))).trans rfl)).trans ?_
 refine(aA (ρ':=[.v (ax r),.v (ax o),.v (.lst ((O5 n).map (yf 0 o))),.v (.lst ((O5 n).map (yf 1 r)))]) ((bo ((aW (ds:=[ax r,nI 1]) rfl rfl).trans (sY R b 1))).trans rfl)).trans ?_
 have a: ∀(h:Nat) (p:List Nat) (k:Nat) (q:List Nat) (f g:FE) (ρ:aF),f ρ=some (.lst ((O5 n).map (yf h p)))->g ρ=some (.lst ((O5 n).map (yf k q)))->ak (nF 2 gW) (aa f (aa g aj)) ρ=some (.int (Ex n h p k q)):=λh p k q f g ρ d c=>
  (aW (ds:=[.lst ((O5 n).map (yf h p)),.lst ((O5 n).map (yf k q))]) (ar d (ar c rfl)) rfl).trans (Ff b h p k q)
 refine a7 ((aB ((aB ((aB ((aB (a 0 o 0 o _ _ _ rfl rfl) (a 0 o 1 r _ _ _ rfl rfl)).trans rfl) (a 1 r 0 o _ _ _ rfl rfl)).trans rfl) (a 1 r 1 r _ _ _ rfl rfl)).trans rfl) (y:=.int 1) rfl).trans ?_);show some (D.int _)=_;congr 2;unfold pc;have d:Ex n 0 o 0 o=xW n o:=by
  unfold Ex xW CM;refine bu λi _=>bu λj _=>mW ?_
  simp only[Pi,lL];lia
 have c:Ex n 1 r 1 r=xW n r:=by
  unfold Ex xW CM;refine bu λi _=>bu λj _=>mW ?_
  simp only[Pi,lL];lia
 have l:Ex n 0 o 1 r=Hw n r o:=by
  unfold Ex Hw CM;refine bu λi _=>bu λj _=>mW ?_
  simp only[Pi,lL];lia
 have e:Ex n 1 r 0 o=F8 n r o:=by
  unfold Ex F8 CM;refine bu λi _=>bu λj _=>mW ?_
  simp only[Pi,lL];lia
 rw[d,c,l,e]
theorem wC(R:Ord n r)(O:Ord n o)(a:n<=8):gk [de r x,ax o]=some (.int (pc n r o)):=by
 apply bh (kd:=.s) (n:=2) (t:=tY);unfold tY;exact a7 ((aW (ds:=[ax r,ax o]) rfl rfl).trans (mh R O a))
section
variable {n:Nat}{r x:List Nat}{S:Nat->Nat}(R:Ord n r)(X:Ord n x)(H:Sg n r x S)(hn:n<=8)
include R X H hn
theorem Fc: ∃L,jv [de r x]=some (.lst L)/\L.length=((O5 n).filter (jV S)).length:=by
 obtain⟨C,_,h⟩:=BZ R X H hn;exact⟨_,h,by rw[Pc]⟩
theorem Ax(O:Ord n o):jp [de r x,ax o]=some (.int (pc n r o-pc n x o-n+((O5 n).filter (jV S)).length)):=by
 obtain⟨L,b,a⟩:=Fc R X H hn;rw[<-a];apply bh (kd:=.s) (n:=5) (t:=y8);unfold y8;refine(aA (ρ':=[.v (de r x),.v (ax o),.v (ax r),.v (ax x),.no]) (fh (fx rfl) rfl)).trans ?_
 refine(aA (ρ':=[.v (de r x),.v (ax o),.v (ax r),.v (ax x),.v (.int (pc n r o-pc n x o))]) ((bo ((aB ((aW (ds:=[ax r,ax o]) rfl rfl).trans (mh R O hn)) ((aW (ds:=[ax x,ax o]) rfl rfl).trans (mh X O hn))).trans rfl)).trans rfl)).trans ?_
 refine a7 ((aB ((aB (x:=.int (pc n r o-pc n x o)) rfl (iI r _ _ rfl)).trans (iQ _ _)) ((bO (ds:=[.lst L]) (ar ((aW (ds:=[de r x]) rfl rfl).trans b) rfl)).trans rfl)).trans ?_);rw[R.len];rfl
end
def n8(n:Nat):Nat->List Nat->List (List Nat)
 |0,s=>[s]
 |k+1,s=>(O5 n).flatMap λh=>cond (decide (h∈s)) [] (n8 n k (s++[h]))
def N4(n:Nat)(F G:TK)(s:List Nat):List Nat:=(JY n s F G).map λe=>e.2
def NR(n:Nat)(F:TK)(s:List Nat):List Nat:=((Cr n s).filter λe=>F s e.1.1 e.1.2 e.2).map λe=>V2 e.2 (xf n)
def D7 {α:Type}:List (List Nat)->(List (List Nat)->α)->α
 | [],f=>f []
 |a::r,f=>Cs a λb=>D7 r λc=>f (b::c)
def rF(M:Nat):List Nat->Nat->Nat
 | [],k=>k
 |m::l,k=>cond (QD (V2 m M) 0) (rF M l (RW k)) (rF M l k)
def Dx(M:Nat):List (List Nat)->Nat->Nat
 | [],k=>k
 |l::L,k=>Gh (TL k (Sb (rF M l 0) 7)) λa=>Dx M L a
def Lf(n j:Nat)(s:List Nat):Nat:=Sc 2 (TL (TM n j) (s.getD j 0))
def wm(n:Nat)(r x:List Nat):Nat:=Yk (Yk (Yk (Lf n 1 r) (Lf n 1 x)) (Yk (Lf n 2 r) (Lf n 2 x))) (Yk (Lf n 3 r) (Lf n 3 x))
def C7(a b y z:Nat):Bool:=or (and (QD a y) (QD b z)) (and (QD a z) (QD b y))
def Oe(a q l:Nat)(r:List Nat):Bool:=and (or (QD (r.getD 0 0) a) (QD (r.getD 0 0) q)) (or (QD (r.getD 4 0) 4) (QD (r.getD 4 0) l))
def LN(a q l:Nat)(b:List (List Nat)):Bool:=kE 5 (λr=>or (not (Oe a q l r)) (kE 5 (λx=>or (not (and (C7 a q (r.getD 0 0) (x.getD 0 0)) (C7 4 l (r.getD 4 0) (x.getD 4 0)))) (Gh (wm 5 r x) λM=>Yh (Dx M b 0) 21)) 5 [])) 5 []
def Ji(a q l:Nat):Bool:=D7 ((n8 5 5 []).map (NR 5 (F4 5 a q 4 l))) (LN a q l)
def Kw(a q l:Nat):Bool:=D7 ((n8 5 5 []).map (N4 5 (F4 5 a q 4 l) (Lh 5 4 a q 4 l))) (LN a q l)
theorem pO {α:Type} [DecidableEq α](g:α->Nat): ∀(A L:List α),A.Nodup->(∀a∈A,a∈L)->(A.map g).sum<=(L.map g).sum
 | [],_,_,_=>Q3 _
 |a::A,L,i,h=>by
  obtain⟨f,c⟩:=Ru.mp i;rw[gz ((List.perm_cons_erase (h a PH)).map g),Pe,PP,Pe,PP];have:=pO g A (L.erase a) c λb d=>(List.mem_erase_of_ne (λe=>f (by rw[<-e];exact d))).mpr (h b (Pt _ d))
  lia
theorem wQ(O:Ord n o): ∀(t s:List Nat),s++t=o->o∈n8 n t.length s
 | [],s,e=>by rw[QJ] at e;rw[e];exact Px.mpr rfl
 |h::t,s,e=>by
  have b:h∈o:=by rw[<-e];simp
  have a:h∉s:=λw=>by
   have:=O.nd;rw[<-e,QT] at this;exact this.2.2 h w h PH rfl
  show o∈(O5 n).flatMap _;refine QZ.mpr ⟨h,O6.mpr (O.lt b),?_⟩;rw[md a];exact wQ O t (s++[h]) (by rw[QE];exact e)
theorem Ag(O:Ord n o):o∈n8 n n []:=by
 have:=wQ O o [] rfl;rwa [O.len] at this
theorem vi {α:Type}: ∀(L:List (List Nat)) (f:List (List Nat)->α),D7 L f=f L
 | [],_=>rfl
 |a::r,f=>by unfold D7;rw[pG,vi r]
theorem uZ(M:Nat): ∀(l:List Nat) (k:Nat),rF M l k=k+(l.map λm=>if V2 m M=0 then 1 else 0).sum
 | [],_=>rfl
 |m::l,k=>by
  unfold rF;rw[Pe,PP,uZ M l,uZ M l]
  by_cases e:V2 m M=0
  ·rw[if_pos e,e];show RW k+_=_;lia
  ·rw[if_neg e,mH,md e];show k+_=_;lia
theorem Ab(M:Nat): ∀(L:List (List Nat)) (k:Nat),Dx M L k=k+(L.map λl=>rF M l 0-7).sum
 | [],_=>rfl
 |l::L,k=>by
  unfold Dx;rw[jg,Ab M L,Pe,PP];show k+(rF M l 0-7)+_=_;lia
section
variable {c p:Nat}{r x:List Nat}(hc:c+1<5)(R:Ord 5 r)(X:Ord 5 x)
include hc R X
theorem Gk(f:pr 5 c p r x m=true):V2 m (wm 5 (rl c p r) (rl c p x))=0:=by
 rw[fo] at f;have T:=iD (n:=5) (by lia) c;have d:=Dk hc;have l:=jt (n:=5) (k:=c) (by lia);have a: ∀j,j<5->j≠0->j≠4->m.testBit (5*j+(rl c p r).getD j 0)=false/\m.testBit (5*j+(rl c p x).getD j 0)=false:=λj s q o=>by
  obtain⟨k,g,rfl⟩:=T.sur j s;rw[gg (by lia) R.len g,gg (by lia) X.len g];exact f k g (λe=>o (by rw[e,l])) λe=>q (by rw[e,d])
 refine Nat.eq_of_testBit_eq λi=>?_
 show(m&&& wm 5 (rl c p r) (rl c p x)).testBit i=_;rw[Y6,V4];show(m.testBit i&&((((2^(5*1+(rl c p r).getD 1 0)|||2^(5*1+(rl c p x).getD 1 0))|||(2^(5*2+(rl c p r).getD 2 0)|||2^(5*2+(rl c p x).getD 2 0)))|||(2^(5*3+(rl c p r).getD 3 0)|||2^(5*3+(rl c p x).getD 3 0)))).testBit i)=false;simp only[ZS,Nat.testBit_two_pow];cases b:m.testBit i with
 |false=>rfl
 |true=>
  have no: ∀k,m.testBit k=false->decide (k=i)=false:=λk h=>md λe=>by rw[e,b] at h;cases h
  rw[no _ (a 1 (by lia) (by lia) (by lia)).1,no _ (a 1 (by lia) (by lia) (by lia)).2,no _ (a 2 (by lia) (by lia) (by lia)).1,no _ (a 2 (by lia) (by lia) (by lia)).2,no _ (a 3 (by lia) (by lia) (by lia)).1,no _ (a 3 (by lia) (by lia) (by lia)).2];rfl
theorem JV(l:List Nat):(l.map λm=>if pr 5 c p r x m=true then 1 else 0).sum<=rF (wm 5 (rl c p r) (rl c p x)) l 0:=by
 rw[uZ,Rk]
 induction l with
 |nil=>exact Ph _
 |cons m l a=>
  rw[Pe,PP,Pe,PP]
  by_cases f:pr 5 c p r x m=true
  ·rw[if_pos f,if_pos (Gk hc R X f)];lia
  ·rw[if_neg f];lia
theorem Eb(h:LN r1 q l ((n8 5 5 []).map mk)=true)(E:Pr r1 q (aL 5 p (r.getD (c+1) 0)) (aL 5 p (x.getD (c+1) 0)))(u:Pr 4 l (aL 5 p (r.getD c 0)) (aL 5 p (x.getD c 0))){A:List (List Nat)}(H:A.Nodup)(i: ∀s∈A,Ord 5 s):
 (A.map λs=>((mk (rl c p s)).map λm=>if pr 5 c p r x m=true then 1 else 0).sum).sum<=7*A.length+21:=by
 have o:=iy (c:=c) (p:=p) (by lia) R;have t:=iy (c:=c) (p:=p) (by lia) X;have f:=Dk hc;have C:=jt (n:=5) (k:=c) (by lia);have B:(rl c p r).getD 0 0=aL 5 p (r.getD (c+1) 0):=by have z:=gg (c:=c) (p:=p) (n:=5) (by lia) R.len hc;rwa [f] at z
 have J:(rl c p x).getD 0 0=aL 5 p (x.getD (c+1) 0):=by have z:=gg (c:=c) (p:=p) (n:=5) (by lia) X.len hc;rwa [f] at z
 have D:(rl c p r).getD 4 0=aL 5 p (r.getD c 0):=by have z:=gg (c:=c) (p:=p) (n:=5) (by lia) R.len (show c<5 by lia);rwa [C] at z
 have N:(rl c p x).getD 4 0=aL 5 p (x.getD c 0):=by have z:=gg (c:=c) (p:=p) (n:=5) (by lia) X.len (show c<5 by lia);rwa [C] at z
 have F: ∀ {a b y z:Nat},Pr a b y z->C7 a b y z=true:=λ{a b y z} h=>by
  show((QD a y&&QD b z)||(QD a z&&QD b y))=true;rw[mH,mH,mH,mH];rcases h with⟨g,d⟩|⟨g,d⟩<;>simp[g,d]
 have L:Oe r1 q l (rl c p r)=true:=by
  show((QD _ r1||QD _ q)&&(QD _ 4||QD _ l))=true;rw[mH,mH,mH,mH,B,D];rcases E with⟨g,d⟩|⟨g,d⟩<;>rcases u with⟨G,w⟩|⟨G,w⟩<;>simp[g,d,G,w]
 have k:=uA 5 [] (rl c p r) h o.len (by simpa using o.nd) λv hv=>o.lt (by simpa using hv)
 have k:(not (Oe r1 q l (rl c p r))||kE 5 _ 5 [])=true:=k;rw[L,Rp,SL] at k;have k:=uA 5 [] (rl c p x) k t.len (by simpa using t.nd) λv hv=>t.lt (by simpa using hv)
 have k:(not (C7 r1 q ((rl c p r).getD 0 0) ((rl c p x).getD 0 0)&&C7 4 l ((rl c p r).getD 4 0) ((rl c p x).getD 4 0))||Gh (wm 5 (rl c p r) (rl c p x)) λM=>Yh (Dx M ((n8 5 5 []).map mk) 0) 21)=true:=k;rw[B,J,D,N,F E,F u,jao,Rp,SL,jg] at k;have k:=Pg k;rw[Ab,Rk,Pw] at k;have P:(A.map λs=>((mk (rl c p s)).map λm=>if pr 5 c p r x m=true then 1 else 0).sum).sum<=7*A.length+((A.map (rl c p)).map λs=>rF (wm 5 (rl c p r) (rl c p x)) (mk s) 0-7).sum:=by
  clear H i k
  induction A with
  |nil=>exact Ph _
  |cons s A Q=>
   rw[Pe,PP,Pe,Pe,PP,PL];have:=JV (p:=p) hc R X (mk (rl c p s));lia
 have s2:=pO (λs=>rF (wm 5 (rl c p r) (rl c p x)) (mk s) 0-7) (A.map (rl c p)) (n8 5 5 []) (by
  rw[Rh,Qr];exact Qp (λ{a b} j O (I:a≠b) e=>I (Fw (by lia) (i a j) (i b O) e)) H) λa j=>by
  obtain⟨s,K,rfl⟩:=Pz.mp j;exact Ag (iy (by lia) (i s K))
 have k:((n8 5 5 []).map λs=>rF (wm 5 (rl c p r) (rl c p x)) (mk s) 0-7).sum<=21:=k;lia
theorem Ij(f:HF 5 c p r x F F')(m:HF 5 c p r x G G')(h:LN r1 q l ((n8 5 5 []).map (N4 5 F' G'))=true)(g:Pr r1 q (aL 5 p (r.getD (c+1) 0)) (aL 5 p (x.getD (c+1) 0)))(j:Pr 4 l (aL 5 p (r.getD c 0)) (aL 5 p (x.getD c 0))){A:List (List Nat)}(k:A.Nodup)(b: ∀s∈A,Ord 5 s):
 (A.map λs=>(two 5 F G s).length).sum<=7*A.length+21:=by
 refine P8 (UX ?_) (Eb hc R X h g j k b);congr 1;refine PM λs i=>?_
 have e:=AU (by lia) (by lia) hc R X f m (b s i) (u:=λ_=>1) (w:=λe=>if pr 5 c p r x e.2=true then 1 else 0) λ_ _ _=>rfl
 unfold N4;rw[Pw];refine Yl ?_ e;generalize two 5 F G s=l
 induction l with
 |nil=>rfl
 |cons a l d=>rw[PL,Pe,PP,<-d];lia
theorem HV(B:HF 5 c p r x F F')(h:LN r1 q l ((n8 5 5 []).map (NR 5 F'))=true)(D:Pr r1 q (aL 5 p (r.getD (c+1) 0)) (aL 5 p (x.getD (c+1) 0)))(G:Pr 4 l (aL 5 p (r.getD c 0)) (aL 5 p (x.getD c 0))){A:List (List Nat)}(H:A.Nodup)(t: ∀s∈A,Ord 5 s):
 (A.map λs=>(sp 5 (F s)).length).sum<=7*A.length+21:=by
 refine P8 (UX ?_) (Eb hc R X h D G H t);congr 1;refine PM λo E=>?_
 have O:=t o E;have j:=iy (c:=c) (p:=p) (by lia) O;have T:=iD (n:=5) (by lia) c;have C: ∀l:List (Nat×Nat),l.length=(l.map λ_=>1).sum:=λl=>by
  induction l with
  |nil=>rfl
  |cons a l z=>rw[PL,Pe,PP,<-z];lia
 unfold NR;rw[C,qC,Ae (by lia) (by lia) j,Y5,Pw,Pw,jo,qC];refine Yl ?_ (DQ T _)
 refine tw λa b g f=>?_
 by_cases d:a=b
 ·rw[md (show¬a≠b from λw=>w d),md (show¬aL 5 c a≠aL 5 c b from λw=>w (by rw[d])),Rq,Rq];rfl
 have i:aL 5 c a≠aL 5 c b:=λe=>d (T.inj a b g f e)
 have y:bL (rl c p o) (aL 5 c a) (aL 5 c b)=bL o a b:=AX (u:=aL 5 p) T (iD (by lia) p) O j (λk v=>gg (by lia) O.len v) g f d;rw[lR d,lR i,Qq,Qq,B o O a b g f d,y];show _=if bL o a b=true then(if F' (rl c p o) (aL 5 c a) (aL 5 c b) (j2 5 (rl c p o) (aL 5 c a) (aL 5 c b))=true then(if pr 5 c p r x (j2 5 (rl c p o) (aL 5 c a) (aL 5 c b)&&& xf 5)=true then 1 else 0) else 0) else 0
 have m:=yg (p:=p) (by lia) (by lia) hc R X (j2 5 (rl c p o) (aL 5 c a) (aL 5 c b)) 0;rw[Nat.or_zero,E5,jao] at m;rw[m];cases bL o a b<;>cases F' (rl c p o) (aL 5 c a) (aL 5 c b) (j2 5 (rl c p o) (aL 5 c a) (aL 5 c b))<;>cases pr 5 c p r x (j2 5 (rl c p o) (aL 5 c a) (aL 5 c b))<;>rfl
end
theorem AM(e:List Int->List (List Int))(K:List (List Int)):(jS e K).length<=(K.map λk=>(e k).length).sum:=by
 unfold jS c7;rw[(aU (lt:=bx) _).length_eq];refine P8 (Au _) (UX ?_);rw[Xh]
theorem HC(n:Nat)(F G:List Nat->Nat->Nat->Bool){K:List (List Int)}:(jS (eR n G) (jS (eR n F) K)).length<=(K.map λk=>(two n F G (uz k)).length).sum:=by
 refine P8 (AM _ _) ?_
 have p:((jS (eR n F) K).map λk=>(eR n G k).length).sum=((ny (K.flatMap (eR n F))).map λk=>(eR n G k).length).sum:=gz ((aU (lt:=bx) _).map _);rw[p];refine P8 (pO _ _ (K.flatMap (eR n F)) (ud _) λa b=>Fe b) (UX ?_);rw[kc];congr 1;refine PM λk _=>?_
 unfold two eR;rw[Xh,Pw];congr 1;refine PM λq _=>?_
 show(Ya _ (sp n (G (uz (zs (bA (uz k) q.1 q.2)))))).length=_;simp only[eM,Pc]
theorem Iz {L:List (List Int)}(m:L.Nodup)(h:i9 4 L):L.length<=24:=by
 have:=pO (λ_=>1) (L.map uz) (n8 4 4 []) (by
  rw[Rh,Qr];refine Qp (λ{a b} c g (d:a≠b) e=>d ?_) m;obtain⟨o,_,rfl⟩:=h a c;obtain⟨n,_,rfl⟩:=h b g
  rw[eM,eM] at e;rw[e]) λa c=>by
  obtain⟨k,f,rfl⟩:=Pz.mp c;obtain⟨o,O,rfl⟩:=h k f;rw[eM];exact Ag O
 have e:((n8 4 4 []).map λ_=>1).sum=24:=by decide+kernel
 rw[e,Pw] at this;have j: ∀l:List (List Int),l.length=(l.map λ_=>1).sum:=λl=>by
  induction l with
  |nil=>rfl
  |cons a l i=>rw[PL,Pe,PP,<-i];lia
 rw[j];exact this
theorem Fp{A:List (List Int)}(j:A.Nodup)(h:i9 n A):(A.map uz).Nodup/\ ∀s∈A.map uz,Ord n s:=by
 constructor
 ·rw[Rh,Qr];refine Qp (λ{a b} d i (c:a≠b) e=>c ?_) j;obtain⟨o,_,rfl⟩:=h a d;obtain⟨l,_,rfl⟩:=h b i;rw[eM,eM] at e;rw[e]
 ·intro s f;obtain⟨k,g,rfl⟩:=Pz.mp f;obtain⟨o,O,rfl⟩:=h k g;rw[eM];exact O
theorem G3:Ji 0 1 2=true:=by decide+kernel
theorem O2:Ji 0 1 3=true:=by decide+kernel
theorem LC:Ji 0 2 3=true:=by decide+kernel
theorem OO:Ji 1 2 3=true:=by decide+kernel
theorem O0:Kw 0 1 2=true:=by decide+kernel
theorem OU:Kw 0 1 3=true:=by decide+kernel
theorem O1:Kw 0 2 3=true:=by decide+kernel
theorem OM:Kw 1 2 3=true:=by decide+kernel
theorem IM {P:Nat->Nat->Nat->Prop}(f:P 0 1 2)(d:P 0 1 3)(g:P 0 2 3)(e:P 1 2 3)(a:r<q)(b:q<l)(c:l<4):P r q l:=by
 have:(r=0/\q=1/\l=2)\/(r=0/\q=1/\l=3)\/(r=0/\q=2/\l=3)\/(r=1/\q=2/\l=3):=by lia
 rcases this with⟨rfl,rfl,rfl⟩|⟨rfl,rfl,rfl⟩|⟨rfl,rfl,rfl⟩|⟨rfl,rfl,rfl⟩<;>assumption
section
variable {n c:Nat}{r x:List Nat}(h4:4<=n)(h5:n<=5)(hc:c+1<n)(R:Ord n r)(X:Ord n x)(N:NI n (r.getD c 0) (x.getD c 0) (r.getD (c+1) 0) (x.getD (c+1) 0))
include h4 h5 hc R X N
theorem J0 {A:List (List Int)}(v:A.Nodup)(m:i9 n A)(w:A.length<=6):(xV n r x A).length<64:=by
 have i:n=4->(xV n r x A).length<=24:=λe=>by subst e;exact Iz (gq _) (uq m)
 by_cases e:n=4
 ·have:=i e;lia
 ·have e:n=5:=by lia
  subst e;obtain⟨o,l,h,g,u,d,f⟩:=N.cfg h5;generalize bz (r.getD (c+1) 0) (x.getD (c+1) 0) (r.getD c 0)=V at h g d;generalize bz (r.getD c 0) (x.getD c 0) (r.getD (c+1) 0)=T at h g u d f;have p:HF 5 c T r x (cH r x) (F4 5 o (aL 5 T V) 4 l):=pS h4 h5 hc R X (λ_ _ _ _=>⟨rfl,rfl⟩) d f;have j:Ji o (aL 5 T V) l=true:=IM (P:=λa b c=>Ji a b c=true) G3 O2 LC OO h g (by lia);unfold Ji at j;rw[vi] at j;obtain⟨q,t⟩:=Fp v m;have:=HV hc R X p j d f q t;rw[Pw,Pc] at this;have b:=AM (eR 5 (cH r x)) A;have e:(A.map λk=>(eR 5 (cH r x) k).length)=A.map ((λs=>(sp 5 (cH r x s)).length)∘uz):=PM λk _=>by unfold eR;rw[Pc];rfl
  rw[e] at b;have b:(xV 5 r x A).length<=_:=b;lia
theorem JT(q: ∀o,Ord n o-> ∀a b,a<n->b<n->a≠b->(B o a b=true↔HW n c r x (bz (r.getD c 0) (x.getD c 0) (r.getD (c+1) 0)) (r.getD (c+1) 0) (x.getD (c+1) 0) (r.getD c 0) (x.getD c 0) o a b)){A:List (List Int)}(z:A.Nodup)(m:i9 n A)(D:A.length<=6):(jS (eR n B) (xV n r x A)).length<64:=by
 by_cases e:n=4
 ·subst e;have:=Iz (gq _) (Ah (F:=B) (uq (r:=r) (x:=x) m));unfold jS;lia
 ·have e:n=5:=by lia
  subst e;obtain⟨i,l,j,h,y,d,f⟩:=N.cfg h5;obtain⟨k,u⟩:=uO N;generalize bz (r.getD (c+1) 0) (x.getD (c+1) 0) (r.getD c 0)=V at j h d u;generalize bz (r.getD c 0) (x.getD c 0) (r.getD (c+1) 0)=T at q k j h y d f;have t:HF 5 c T r x (cH r x) (F4 5 i (aL 5 T V) 4 l):=pS h4 h5 hc R X (λ_ _ _ _=>⟨rfl,rfl⟩) d f;have w:HF 5 c T r x B (Lh 5 4 i (aL 5 T V) 4 l):=by
   have:=AN (p:=T) h4 h5 hc R X k (R.get hc) (X.get hc) (R.get (by lia)) (X.get (by lia)) d f q;rwa [jt k] at this
  have g:Kw i (aL 5 T V) l=true:=IM (P:=λa b c=>Kw a b c=true) O0 OU O1 OM j h (by lia);unfold Kw at g;rw[vi] at g;obtain⟨v,C⟩:=Fp z m;have:=Ij hc R X t w g d f v C;rw[Pw,Pc] at this;have b:(jS (eR 5 B) (xV 5 r x A)).length<=(A.map ((λs=>(two 5 (cH r x) B s).length)∘uz)).sum:=HC 5 (cH r x) B (K:=A);lia
end
set_option maxHeartbeats 4000000
theorem BK {N:Nat}(B:Bag N a b)(hN:N<=100000){n:Nat}(h0:0<n)(M:n<=5): ∃(K:List (List Int)) (N':Nat) (f h:Int),fR (aG a b) [nI n]=some (kD K,aG f h)/\Bag N' f h/\N'<=N+100/\Cw 5 K/\i9 n K:=by
 obtain⟨d,w,A,e1,V,d0,d1⟩:=mZ (m:=6) B (by lia) (by decide) (by decide);obtain⟨m,rfl⟩: ∃m:Nat,d=m:=⟨d.toNat,by lia⟩
 have X:f9 2 (bI (aj)) (qv 5 (aG a b) [nI n])=.nx [.arg (aG a b),.v (nI n),.own [],.no,.no]:=(kR (cP rfl (by simp))).trans rfl;have U:EE (cS (aK 0 1 aQ (b7 (aa (aD (.int 6)) (aj)))) (b7 (aj))) [.arg (aG a b),.v (nI n),.own [],.no,.no]=some (vz 0 m,[.arg (aG w A),.v (nI n),.own (([]:List (List Nat)).map ax),.no,.no]):=by
  have:cS (aK 0 1 aQ (b7 (aa (aD (.int 6)) (aj)))) (b7 (aj)) [.arg (aG a b),.v (nI n),.own [],.no,.no]=some ([.int m],[.arg (aG w A),.v (nI n),.own (([]:List (List Nat)).map ax),.no,.no]):=
   dO (cM (i:=0) (n:=1) (b0:=aG a b) (ds:=[.int 6]) rfl (bV rfl) rfl rfl e1) rfl
  unfold EE;rw[this];show(if(m:Int).natAbs<4000000000 then _ else _)=_;rw[if_pos (by lia),Rc]
 have Q:(vz 0 m).length=m:=by unfold vz;simp
 obtain⟨ρ',lp,L,f,h,s,r,O,E,j,D,rfl⟩:=vS (g:=gN 3) (b:=aC (iS 4 (gd ig (cS (aK 0 1 bd (b7 (aa (ai 1) (aj)))) (b7 (aj)))))
  (fy (bJ (av (iZ true) (ai 4) (dJ 2))) (cj (aK 2 1 gB (b7 (aa (ai 4) (aj))))) (cc)))
  (P:=λi ρ=> ∃(L:List (List Nat)) (f h:Int) (s r:Sl),L.length<=i/\(L.map zs).Nodup/\(∀o∈L,Ord n o)/\Bag (N+1+n*i) f h/\ρ=[.arg (aG f h),.v (nI n),.own (L.map ax),s,r]) (vz 0 m) 0 (λd hd i ρ T H=>by
    obtain⟨L,f,h,s,r,O,E,j,D,rfl⟩:=H;have T:i<m:=by rw[Q] at T;lia
    have hm:n*i<=5*5:=Ss M (by lia);obtain⟨o,p,l,Z,Y,B2⟩:=mV D (n:=n) (by lia) (by lia);have R:iS 4 (gd ig (cS (aK 0 1 bd (b7 (aa (ai 1) (aj)))) (b7 (aj)))) [.arg (aG f h),.v (nI n),.own (L.map ax),.v d,r]=.nx [.arg (aG p l),.v (nI n),.own (L.map ax),.v d,.v (ax o)]:=
     (jq (mJ (ds:=[.lst (o.map nI)]) (d:=ax o) (dO (cM (i:=0) (n:=1) (b0:=aG f h) (ds:=[nI n]) rfl (bV rfl) rfl rfl Z) rfl) rfl)).trans rfl
    have z:bJ (av (iZ true) (ai 4) (dJ 2)) [.arg (aG p l),.v (nI n),.own (L.map ax),.v d,.v (ax o)]=some (!decide (zs o∈L.map zs)):=bR ((aB (x:=ax o) (y:=.lst (L.map ax)) rfl rfl).trans (by rw[lU,zF];exact KN _ _));have J:Bag (N+1+n*(i+1)) p l:=by rw[Wq,<-jam];exact B2
    by_cases c:zs o∈L.map zs
    ·rw[lR c] at z;exact⟨_,_,rfl,(aA R).trans (ir z),L,p,l,_,_,by lia,E,j,J,rfl⟩
    ·rw[md c] at z;refine⟨_,_,rfl,(aA R).trans ((gj z).trans (rE (i:=2) (b0:=L.map ax) (bs:=L.map ax) (d:=ax o) rfl (bV rfl) rfl (by rw[Pc];lia))),L++[o],p,l,_,_,by simp;lia,?_,λu F=>?_,J,by rw[Qa];rfl⟩
     ·rw[Qa];exact QT.mpr ⟨E,by simp,λu F v hv=>by rw[Pe,SD,Px] at hv;rw[hv];exact λe=>c (e▸F)⟩
     ·rcases QA.mp F with q|q
      ·exact j u q
      ·rw[Px] at q;rw[q];exact Y) [.arg (aG w A),.v (nI n),.own (([]:List (List Nat)).map ax),.no,.no] ⟨[],w,A,.no,.no,by simp,by simp,by simp,by simpa using V,rfl⟩
 rw[Q] at O D;have hm:n*m<=5*5:=Ss M (by lia)
 have C:Cw 5 (L.map zs):=⟨E,by rw[Pc];lia,λk I=>by
  obtain⟨o,G,rfl⟩:=Pz.mp I;intro e;have S:=(j o G).len;have:=congrArg Sd e
  unfold zs at this;simp at this;rw[this] at S;simp at S;lia⟩
 have W:=IJ (ks:=L.map zs) (by have:=C.len;lia) C.ne;refine⟨srt (L.map zs),N+1+n*(0+m),f,h,?_,D,by rw[Rk];lia,C.srt,λk I=>?_⟩
 rotate_left
 ·obtain⟨o,G,rfl⟩:=Pz.mp (kb.mp I);exact⟨o,j o G,rfl⟩
 refine KR (kd:=.n) (n:=5) (t:=jW) (ρ:=[.arg (aG f h),.v (nI n),.own (L.map ax),s,r]) ?_ rfl;unfold jW;refine(aA X).trans ((aA ((gm U).trans lp)).trans (a7 ((bO (ds:=[.lst (L.map ax)]) rfl).trans ?_)));rw[zF];exact W
theorem DX(a b:Int):fz (.tup [.int a,.int b])<=32:=by
 show cJ [.int a,.int b]+1<=32;simp[cJ,fz]
section
variable {n c:Nat}{r x:List Nat}(h4:4<=n)(h5:n<=5)(hc:c+1<n)(R:Ord n r)(X:Ord n x)(N:NI n (r.getD c 0) (x.getD c 0) (r.getD (c+1) 0) (x.getD (c+1) 0))
include h4 h5 hc R X N
theorem Jh(o:List Nat):(sp n (AJ n c r x o)).length<=10:=by
 have p:=(sn hc (λj=>dn n (r,x) o (c+1) j (c+1) [(r,x),(bA r c (c+1),bA x c (c+1))] [bz (r.getD c 0) (x.getD c 0) (r.getD (c+1) 0)]) (λj=>dn n (r,x) o j (c+1) c [(bA r c (c+1),bA x c (c+1)),(r,x)] [bz (r.getD c 0) (x.getD c 0) (r.getD (c+1) 0)]) o).length_eq;rw[Pc] at p;have:=mX (pA (λj=>dn n (r,x) o (c+1) j (c+1) [(r,x),(bA r c (c+1),bA x c (c+1))] [bz (r.getD c 0) (x.getD c 0) (r.getD (c+1) 0)]) (λj=>dn n (r,x) o j (c+1) c [(bA r c (c+1),bA x c (c+1)),(r,x)] [bz (r.getD c 0) (x.getD c 0) (r.getD (c+1) 0)]) o (c+1)) 2 (O5 n) λj _=>xQ _ _ _ _ _
 unfold iE at p;rw[QF] at this;have e:(sp n (AJ n c r x o)).length=_:=p.symm;rw[e];lia
theorem jK {K:List (List Int)}(a:i9 n K):(jS (eR n (AJ n c r x)) K).length<=10*K.length:=by
 unfold jS c7;rw[(aU (lt:=bx) _).length_eq];exact P8 (Au _) (mX _ 10 K λk _=>by unfold eR;rw[Pc];exact Jh h4 h5 hc R X N (uz k))
theorem Ea(O:Ord n s){z:List Int}(i:z∈jS (eR n (AJ n c r x)) [zs s]): ∃e,Ord n e/\z=zs e/\pc n (bA r c (c+1)) e=pc n r s/\pc n (bA x c (c+1)) e=pc n x s:=by
 have j:([zs s].flatMap (eR n (AJ n c r x))).count z % 2=1:=eL.mp i;have a:=Su.mp (show 0<([zs s].flatMap (eR n (AJ n c r x))).count z by lia);rw[P6,List.flatMap_nil,QJ] at a;unfold eR at a;rw[eM] at a;obtain⟨p,h,rfl⟩:=Pz.mp a;obtain⟨d,f,g,b⟩:=jf.mp h;exact⟨_,O.exx d f,rfl,Hk h5 hc R X N O d f g ((uj h4 h5 hc R X N s O p.1 p.2 d f g).mp b)⟩
end
section
variable {n c:Nat}{r x:List Nat}(h4:4<=n)(h5:n<=5)(hc:c+1<n)(R:Ord n r)(X:Ord n x)(N:NI n (r.getD c 0) (x.getD c 0) (r.getD (c+1) 0) (x.getD (c+1) 0))
include h4 h5 hc R X N
theorem Fl {K:List (List Int)}(p:Cw 5 K)(m:i9 n K)(O:Ord n s):g7 [de r x,nI c,kD K,ax s]=some (.bl true):=by
 have u:c<n:=by lia
 have B:=R.exx u hc;have F:=X.exx u hc;have J:=Bp R hc;have I:=Bp X hc
 let L:List (List Int)->List (List Int):=jS (eR n (AJ n c r x))
 have i:i9 n [zs s]:=λk hk=>⟨s,O,Px.mp hk⟩
 have w:Cw 1 [zs s]:=⟨by simp,by simp,ze (by lia) i⟩
 let a:=srt (ga K [zs s])
 have S2:i9 n a:=λz V=>by
  rcases ib.mp (kb.mp V) with q|q
  ·exact m z q.1
  ·exact i z q.1
 have W:Cw 6 a:=(p.sym w).srt;have T:D.lst [ax s]=kD [zs s]:=by rw[lU];rfl
 have U: ∀ {A},i9 n A->i9 n (L A):=λh=>Ah h
 have P: ∀ {A},i9 n A->(L A).length<=625:=λh=>u6 h5 ui (U h)
 have l: ∀ {A:List (List Int)},i9 n A->jS (eR n (cH (bA r c (c+1)) (bA x c (c+1)))) (L A)=L (xV n r x A):=λh=>
  Ga h4 h5 hc R X B F N (λk _ h1 h2=>⟨J.2.2 k h1 h2,I.2.2 k h1 h2⟩) J.1 J.2.1 I.1 I.2.1 (uj h4 h5 hc R X N) h
 let st:Sl->Sl->Sl->aF:=λC j b=>[.v (de r x),.v (nI c),.v (kD K),.v (ax s),.v (de (bA r c (c+1)) (bA x c (c+1))),C,j,b]
 have d: ∀ {A:List (List Int)},A.Nodup->i9 n A->A.length<=6-> ∀j b,(aC (be 6 (ak (nF 3 eF) (aa (ai 0) (aa (ai 1) (aa (ak di (aa (ai 5) (aj))) (aj))))))
 (fy (bJ (av lh (ak (nF 2 cV) (aa (ai 4) (aa (ak di (aa (ai 6) (aj))) (aj)))) (ak (nF 3 eF) (aa (ai 0) (aa (ai 1) (aa (ak (nF 2 cV) (aa (ai 0) (aa (ak di (aa (ai 5) (aj))) (aj)))) (aj))))))) (aY (aD (.bl false))) (cc))) (st (.v (kD A)) j b)=.nx (st (.v (kD A)) (.v (kD (L A))) b):=λ{A} dA f Y j b=>by
   have f1:(L A).length<64:=by have z:(L A).length<=10*A.length:=jK h4 h5 hc R X N f;lia
   have f2:=JT h4 h5 hc R X N (uj h4 h5 hc R X N) dA f Y;have S:be 6 (ak (nF 3 eF) (aa (ai 0) (aa (ai 1) (aa (ak di (aa (ai 5) (aj))) (aj))))) (st (.v (kD A)) j b)=.nx (st (.v (kD A)) (.v (kD (L A))) b):=
    (bo ((aW (ds:=[de r x,nI c,kD A]) rfl rfl).trans (u4 h4 h5 hc R X N f (by lia) f1))).trans rfl
   have b1:ak (nF 2 cV) (aa (ai 4) (aa (ak di (aa (ai 6) (aj))) (aj))) (st (.v (kD A)) (.v (kD (L A))) b)=some (kD (L (xV n r x A))):=
    (aW (ds:=[de (bA r c (c+1)) (bA x c (c+1)),kD (L A)]) rfl rfl).trans ((sj (by lia) h5 B F (U f) (by have:=P f;lia) (by have:=l f;unfold xV;show(jS (eR n (cH (bA r c (c+1)) (bA x c (c+1)))) (L A)).length<64;rw[this];exact f2)).trans (by rw[<-l f];rfl))
   have b0:ak (nF 2 cV) (aa (ai 0) (aa (ak di (aa (ai 5) (aj))) (aj))) (st (.v (kD A)) (.v (kD (L A))) b)=some (kD (xV n r x A)):=
    (aW (ds:=[de r x,kD A]) rfl rfl).trans (sj (by lia) h5 R X f (by lia) (J0 h4 h5 hc R X N dA f Y))
   have Z:=uq (r:=r) (x:=x) f;have b2:ak (nF 3 eF) (aa (ai 0) (aa (ai 1) (aa (ak (nF 2 cV) (aa (ai 0) (aa (ak di (aa (ai 5) (aj))) (aj)))) (aj)))) (st (.v (kD A)) (.v (kD (L A))) b)=some (kD (L (xV n r x A))):=
    (aW (ds:=[de r x,nI c,kD (xV n r x A)]) (ar rfl (ar rfl (ar b0 rfl))) rfl).trans (u4 h4 h5 hc R X N Z (by have:=u6 h5 (gq _) Z;unfold xV;lia) f2)
   exact(aA S).trans (ir (bR ((aB b1 b2).trans (A8 (Jb _)))))
 obtain⟨G,H1⟩:=IG R X;obtain⟨Sg2,H2⟩:=IG B F;have H:=DR R X hc H1 H2
 let g:D:=.tup [.int (pc n r s),.int (pc n r s-pc n x s-n+((O5 n).filter (jV G)).length)]
 have q0:be 4 (ak (nF 2 bv) (aa (ai 0) (aa (ai 1) (aj)))) [.v (de r x),.v (nI c),.v (kD K),.v (ax s),.no,.no,.no,.no]=.nx (st .no .no .no):=(bo ((aW (ds:=[de r x,nI c]) rfl rfl).trans (EM h4 h5 hc R X N))).trans rfl;have Q:bI (aa (ai 2) (aa (bI (aa (ai 3) (aj))) (aa (ak (nF 2 gZ) (aa (ak di (aa (ai 2) (aj))) (aa (bI (aa (ai 3) (aj))) (aj)))) (aj)))) (st .no .no .no)=some (.lst [kD K,kD [zs s],kD a]):=
  cP (ar rfl (ar ((cP (ds:=[ax s]) rfl (by simp)).trans (by rw[T])) (ar ((aW (ds:=[kD K,kD [zs s]]) (ar rfl (ar ((cP (ds:=[ax s]) rfl (by simp)).trans (by rw[T])) rfl)) rfl).trans (wf p w (by lia) (by have:=xq K [zs s];have:=p.len;have:=w.len;lia))) rfl))) (by simp)
 have cK:=p.len
 have S:im (b7 (dz (bI (aa (ai 2) (aa (bI (aa (ai 3) (aj))) (aa (ak (nF 2 gZ) (aa (ak di (aa (ai 2) (aj))) (aa (bI (aa (ai 3) (aj))) (aj)))) (aj))))))) (gN 5) (aC (be 6 (ak (nF 3 eF) (aa (ai 0) (aa (ai 1) (aa (ak di (aa (ai 5) (aj))) (aj))))))
 (fy (bJ (av lh (ak (nF 2 cV) (aa (ai 4) (aa (ak di (aa (ai 6) (aj))) (aj)))) (ak (nF 3 eF) (aa (ai 0) (aa (ai 1) (aa (ak (nF 2 cV) (aa (ai 0) (aa (ak di (aa (ai 5) (aj))) (aj)))) (aj))))))) (aY (aD (.bl false))) (cc))) (st .no .no .no)=.nx (st (.v (kD a)) (.v (kD (L a))) .no):=by
   refine(gm (ds:=[kD K,kD [zs s],kD a]) (bV (fG Q))).trans ?_
   refine(cI (ρ1:=st (.v (kD K)) .no .no) rfl (d p.nd m (by lia) .no .no)).trans ?_
   refine(cI (ρ1:=st (.v (kD [zs s])) (.v (kD (L K))) .no) rfl (d w.nd i (by simp) _ .no)).trans ?_
   exact(cI (ρ1:=st (.v (kD a)) (.v (kD (L [zs s]))) .no) rfl (d W.nd S2 (by have:=W.len;lia) _ .no)).trans rfl
 have l0:ak (nF 3 eF) (aa (ai 0) (aa (ai 1) (aa (ak di (aa (ai 2) (aj))) (aj)))) (st (.v (kD a)) (.v (kD (L a))) .no)=some (kD (L K)):=(aW (ds:=[de r x,nI c,kD K]) rfl rfl).trans (u4 h4 h5 hc R X N m (by lia) (by have:=jK h4 h5 hc R X N m;lia));have l1: ∀C j b,ak (nF 3 eF) (aa (ai 0) (aa (ai 1) (aa (bI (aa (ai 3) (aj))) (aj)))) (st C j b)=some (kD (L [zs s])):=λC j b=>
  (aW (ds:=[de r x,nI c,kD [zs s]]) (ar rfl (ar rfl (ar ((cP (ds:=[ax s]) rfl (by simp)).trans (by rw[T])) rfl))) rfl).trans (u4 h4 h5 hc R X N i (by simp) (by have:=jK h4 h5 hc R X N i;simp at this;lia))
 have cL: ∀ {A},i9 n A->Cw 625 (L A):=λh=>⟨ui,P h,ze (by lia) (U h)⟩
 have q2:bJ (av lh (ai 6) (ak (nF 2 gZ) (aa (ak (nF 3 eF) (aa (ai 0) (aa (ai 1) (aa (ak di (aa (ai 2) (aj))) (aj))))) (aa (ak (nF 3 eF) (aa (ai 0) (aa (ai 1) (aa (bI (aa (ai 3) (aj))) (aj))))) (aj))))) (st (.v (kD a)) (.v (kD (L a))) .no)=some false:=
  bR ((aB (x:=kD (L a)) (y:=kD (L a)) rfl ((aW (ds:=[kD (L K),kD (L [zs s])]) (ar l0 (ar (l1 _ _ _) rfl)) rfl).trans ((wf (N:=50) (M:=10) ⟨ui,by have:=jK h4 h5 hc R X N m;lia,(cL m).ne⟩ ⟨ui,by have:=jK h4 h5 hc R X N i;simpa using this,(cL i).ne⟩ (by lia) (by have:=xq (jS (eR n (AJ n c r x)) K) (jS (eR n (AJ n c r x)) [zs s]);have:=jK h4 h5 hc R X N m;have:=jK h4 h5 hc R X N i;simp at this;lia)).trans (by show some (kD (srt (ga (jS _ K) (jS _ [zs s]))))=some (kD (jS _ (bw bx (ga K [zs s]))));rw[GM p.nd w.nd])))).trans (A8 (Jb _)))
 have q3:be 7 (cx (aa (ak (nF 2 gk) (aa (ai 0) (aa (ai 3) (aj)))) (aa (ak (nF 2 jp) (aa (ai 0) (aa (ai 3) (aj)))) (aj)))) (st (.v (kD a)) (.v (kD (L a))) .no)=.nx (st (.v (kD a)) (.v (kD (L a))) (.v g)):=
  (bo (cq (ar ((aW (ds:=[de r x,ax s]) rfl rfl).trans (wC R O (by lia))) (ar ((aW (ds:=[de r x,ax s]) rfl rfl).trans (Ax R X H1 (by lia) O)) rfl)) (by simp))).trans rfl
 have q4:ak FX (aa (cb 1 (dz (ak (nF 3 eF) (aa (ai 0) (aa (ai 1) (aa (bI (aa (ai 3) (aj))) (aj)))))) (gN 8) (cf) (av pV (cx (aa (ak (nF 2 gk) (aa (ai 4) (aa (ai 8) (aj)))) (aa (ak (nF 2 jp) (aa (ai 4) (aa (ai 8) (aj)))) (aj)))) (ai 7))) (aj)) (st (.v (kD a)) (.v (kD (L a))) (.v g))=some (.bl true):=by
  have c1:cb 1 (dz (ak (nF 3 eF) (aa (ai 0) (aa (ai 1) (aa (bI (aa (ai 3) (aj))) (aj)))))) (gN 8) (cf) (av pV (cx (aa (ak (nF 2 gk) (aa (ai 4) (aa (ai 8) (aj)))) (aa (ak (nF 2 jp) (aa (ai 4) (aa (ai 8) (aj)))) (aj)))) (ai 7)) (st (.v (kD a)) (.v (kD (L a))) (.v g))=some (.lst (((L [zs s]).map λ_=>true).map D.bl)):=by
   refine eU (ds:=(L [zs s]).map cZ) (fG (l1 _ _ _)) (by rw[Pc];have:=P i;lia) ((iN (h:=cZ) (o:=λ_=>.bl true) (q:=λ_=>true) (L [zs s]) λz V=>⟨st (.v (kD a)) (.v (kD (L a))) (.v g)++[.v (cZ z)],rfl,rfl,λ_=>?_⟩).trans (by rw[QC.mpr λ_ _=>rfl,Pw];rfl));obtain⟨e,E,rfl,g1,g2⟩:=Ea h4 h5 hc R X N O V;have a1:aa (ai 4) (aa (ai 8) (aj)) (st (.v (kD a)) (.v (kD (L a))) (.v g)++[.v (cZ (zs e))])=some [de (bA r c (c+1)) (bA x c (c+1)),ax e]:=by rw[lU];rfl
   have t1:cx (aa (ak (nF 2 gk) (aa (ai 4) (aa (ai 8) (aj)))) (aa (ak (nF 2 jp) (aa (ai 4) (aa (ai 8) (aj)))) (aj))) (st (.v (kD a)) (.v (kD (L a))) (.v g)++[.v (cZ (zs e))])=some g:=by
    refine cq (ar ((aW (ds:=[de (bA r c (c+1)) (bA x c (c+1)),ax e]) a1 rfl).trans ((wC B E (by lia)).trans (by rw[g1]))) (ar ((aW (ds:=[de (bA r c (c+1)) (bA x c (c+1)),ax e]) a1 rfl).trans ((Ax B F H2 (by lia) E).trans (by rw[g1,g2,H]))) rfl)) (by simp)
   exact(aB t1 (y:=g) rfl).trans (GZ (DX _ _))
  rw[bO (ar c1 rfl),Hv];congr 2;rw[Wf];simp
 apply bh (kd:=.s) (n:=8) (t:=jX) (ρ:=st (.v (kD a)) (.v (kD (L a))) (.v g));unfold jX;exact(aA q0).trans ((aA S).trans ((aA (ir q2)).trans ((aA q3).trans (a7 q4))))
end
theorem JH(a:List Int)(P:a.length<=63):IT [my a]=some (.bl true):=by
 refine rg (kd:=.s) (n:=7) (t:=Dp) ?_
 unfold Dp;refine Jy (λρ=> ∃H s2 p h j f,ρ=[.v (my a),H,s2,p,h,j,f]) (Gc (ds:=(O5 2).map nI) (bV (iY (ar rfl rfl) (by lia))) (AS _ (λd O ρ E=>?_) _ ⟨_,_,_,_,_,_,rfl⟩)) λρ' I=>⟨ρ',a7 rfl⟩
 obtain⟨k,hk,rfl⟩:=Pz.mp O;rw[O6] at hk;obtain⟨H,s2,p,h,j,f,rfl⟩:=E;obtain⟨A,b0,Y,B⟩:=KA a k (by lia) P;obtain⟨u,D,y,et,Q,Z,d11⟩:=mZ (m:=3) B (by lia) (by decide) (by decide);obtain⟨n,U,l,q⟩: ∃m:Nat,bj (.lst [.int 4,.int 4,.int 5]) (.int u)=some (nI m)/\4<=m/\m<=5:=by
  have:u=0\/u=1\/u=2:=by lia
  rcases this with e|e|e<;>subst e
  ·exact⟨4,rfl,by lia,by lia⟩
  ·exact⟨4,rfl,by lia,by lia⟩
  ·exact⟨5,rfl,by lia,by lia⟩
 obtain⟨r,x,c,bg,L,⟨N2,w,F,B2,hN2,rfl⟩,R,X,S,z⟩:=Fm l q Q (by lia);obtain⟨K,N3,G,J,W,M,T,C,V⟩:=BK B2 (by lia) (n:=n) (by lia) (by lia);obtain⟨o,a4,b4,eo,Oo,B4⟩:=mV M (n:=n) (by lia) (by lia);have g:=Fl l q S R X z C V Oo;have q1:f9 2 (ak (nF 2 kX) (aa (ai 0) (aa (ai 1) (aj)))) [.v (my a),.v (nI k),s2,p,h,j,f]=.nx [.v (my a),.v (nI k),.own (aG A b0),p,h,j,f]:=(kR ((aW (ds:=[my a,nI k]) rfl rfl).trans Y)).trans rfl;have N:iS 3 (x8 bj (pu (bI (aa (aD (.int 4)) (aa (aD (.int 4)) (aa (aD (.int 5)) (aj)))))) (aK 2 1 aQ (b7 (aa (aD (.int 3)) (aj))))) [.v (my a),.v (nI k),.own (aG A b0),p,h,j,f]=.nx [.v (my a),.v (nI k),.own (aG D y),.v (nI n),h,j,f]:=
  (jq (GR (fx (cP rfl (by simp))) (cM (i:=2) (n:=1) (b0:=aG A b0) (ds:=[.int 3]) rfl (bV rfl) rfl rfl et) U)).trans rfl
 have q3:cw (gT 2 (cU (gN 4) (cU (gN 5) (gU)))) (aK 2 1 bZ (b7 (aa (ai 3) (aj)))) [.v (my a),.v (nI k),.own (aG D y),.v (nI n),h,j,f]=.nx [.v (my a),.v (nI k),.own (aG w F),.v (nI n),.v (de r x),.v (nI c),f]:=
  fh (cM (i:=2) (n:=1) (b0:=aG D y) (ds:=[nI n]) rfl (bV rfl) rfl rfl L) rfl
 have q4:iS 6 (aK 2 1 fR (b7 (aa (ai 3) (aj)))) [.v (my a),.v (nI k),.own (aG w F),.v (nI n),.v (de r x),.v (nI c),f]=.nx [.v (my a),.v (nI k),.own (aG G J),.v (nI n),.v (de r x),.v (nI c),.v (kD K)]:=
  (jq (cM (i:=2) (n:=1) (b0:=aG w F) (ds:=[nI n]) rfl (bV rfl) rfl rfl W)).trans rfl
 refine⟨_,_,rfl,(aA q1).trans ((aA N).trans ((aA q3).trans ((aA q4).trans ((LY (Hc (b:=true) (HJ (JE (ds:=[de r x,nI c,kD K,ax o]) (dO (fx rfl) (dO (fx rfl) (dO (fx rfl) (dO (mJ (ds:=[.lst (o.map nI)]) (d:=ax o) (dO (cM (i:=2) (n:=1) (b0:=aG G J) (ds:=[nI n]) rfl (bV rfl) rfl rfl eo) rfl) rfl) rfl)))) rfl g)))).trans rfl)))),⟨_,_,_,_,_,_,rfl⟩⟩
theorem df_of {K:Pk}{h:Heap}(X:K.In h)(G:h.Ns Qx mg){st:Stmt}{j:List Str}{o:O7}{n i:Option Addr}{g:Array (Option O7)}{kV e m d ct:O7}(a:T7 K Qx x=some (some (.ref f)))
 (l:K.lookup f=some ⟨o,n,.func (Wc x x (hX st) (dE st) (ay st) .none kV e m i d ct),g⟩) (c:X0 K d x=true) (k:Va K (.ref f)=true)
 (b: ∀(kV e m:O7) (i:Option Addr) (d ct:O7) (us:List O7),us.length=j.length->bindArgs (Wc x x (hX st) (dE st) (ay st) .none kV e m i d ct) ⟨us,[]⟩=pure (j.zip us)):Df K mg x st j:=
 ⟨_,_,yJ l c k,W.mg_of X G a,(yJ l c k).binds b⟩
theorem all_mk {L:jaw}{K:Pk}{h:Heap}{od an:Option Addr}{sl:Array (Option O7)}{oc kV dc pm z ct:O7}(X:K.In h)(G:h.Ns Qx mg)(hfa:mg "law"=some (.ref fb))
 (d0:Df K mg "order_exchanged" eV re)
 (d1:Df K mg "order_rounds" gD ["order"])
 (d2:Df K mg "places_from" ii pp)
 (d3:Df K mg "columns_of" jJ mA)
 (d4:Df K mg "rows_of" oI mA)
 (d5:Df K mg "cells_of" lN mA)
 (d6:Df K mg "behind" p9 mA)
 (d7:Df K mg "is_bare" oy mA)
 (d8:Df K mg "is_clear" lS nA)
 (d9:Df K mg "is_step" nU nA)
 (M:Df K mg "steps_from" jx nv)
 (d11:Df K mg "added" uE sL)
 (C:Df K mg "oddly_often" iq ["stands"])
 (d13:Df K mg "border" rn sf)
 (R:Df K mg "lines_of" lQ ["square"])
 (I:Df K mg "lies_between" gI rb)
 (S:Df K mg "may_change" ja oa)
 (H:Df K mg "columns_changed" fq oa)
 (d18:Df K mg "turn_of" oH oa)
 (Z:Df K mg "has_mark" l8 px)
 (N:Df K mg "columns_clear" gc po)
 (E:Df K mg "bend_clear" jk ry)
 (Q:Df K mg "is_bent" nT oi)
 (d23:Df K mg "ends_from" kA pa)
 (A:Df K mg "led" Fi r6)
 (D:Df K mg "points_of" kf sE)
 (Y:Df K mg "pairs" uM so)
 (ST:Df K mg "grade_by" mo sx)
 (d28:Df K mg "grade" tR nv)
 (V:Df K mg "lean" zA nv)
 (O:Df K mg "_law_cell" lK pz)
 (J:Df K mg "_law_bag" nY ro)
 (y:Df K mg "_law_take" lM n7)
 (d33:Df K mg "_law_order" kG m8)
 (x:Df K mg "_law_neighbours" fH m8)
 (U:Df K mg "_law_crowd" km m8)
 (d36:Df K mg "_law_right" ko nB)
 (a:T7 K Qx "law"=some (some (.ref fa))) (l:K.lookup fa=some ⟨oc,od,.func (Wc "law" "law" (hX mE) (dE mE) (ay mE) .none kV dc pm an z ct),sl⟩) (c:X0 K z "law"=true) (k:Va K (.ref fa)=true)
 (p:T7 K Qx "abs"=some none)
 (n:T7 K Qx "all"=some none)
 (r:T7 K Qx "any"=some none)
 (b:T7 K Qx "enumerate"=some none)
 (q:T7 K Qx "len"=some none)
 (i:T7 K Qx "list"=some none)
 (o:T7 K Qx "max"=some none)
 (m:T7 K Qx "min"=some none)
 (f:T7 K Qx "range"=some none)
 (j:T7 K Qx "set"=some none)
 (d:T7 K Qx "sorted"=some none)
 (g:T7 K Qx "tuple"=some none):
 ∃fd:Sk,(∀(s:O9) (v:O7),XZ s fd ⟨[v],[]⟩ [("_law_script",v)])/\ ∀base:Heap,K.In base->base.Ns Qx mg->gt L.prog w K mg base vA 9 fb fd ["_law_script"] (z8 K):=by
 have e:=hfa.symm.trans (W.mg_of X G a);cases e;have F:=yJ (st:=mE) l c k;have B:Bt mg:=⟨RG X G p,RG X G n,RG X G r,RG X G b,RG X G q,RG X G i,RG X G o,RG X G m,RG X G f,RG X G j,RG X G d,RG X G g⟩
 refine⟨Wc "law" "law" (hX mE) (dE mE) (ay mE) .none kV dc pm an z ct,λs v=>.of_eq rfl,λbase _ _=>?_⟩;have bF:=nO (P:=L.prog) (w:=w) (base:=base) B d0;have gA:=qd (P:=L.prog) (w:=w) (base:=base) B d1;have cX:=rY (P:=L.prog) (w:=w) (base:=base) B d2;have T:=uw (P:=L.prog) (w:=w) (base:=base) B d3 cX;have u:=BL (P:=L.prog) (w:=w) (base:=base) B d4 cX;have mi:=zn (P:=L.prog) (w:=w) (base:=base) B d5 u T;have gC:=FL (P:=L.prog) (w:=w) (base:=base) B d6 bF;have gv:=BG (P:=L.prog) (w:=w) (base:=base) B d7 T u;have mq:=xY (P:=L.prog) (w:=w) (base:=base) B d8 mi;have oA:=BW (P:=L.prog) (w:=w) (base:=base) B d9 gv mq;have jr:=uC (P:=L.prog) (w:=w) (base:=base) B M gC oA;have pR:=GB (P:=L.prog) (w:=w) (base:=base) B d11;have cY:=rS (P:=L.prog) (w:=w) (base:=base) B C;have nw:=FY (P:=L.prog) (w:=w) (base:=base) B d13 cY jr;have lZ:=yE (P:=L.prog) (w:=w) (base:=base) B R gA;have cB:=p6 (P:=L.prog) (w:=w) (base:=base) B I;have jI:=tT (P:=L.prog) (w:=w) (base:=base) B S cB;have bT:=nE (P:=L.prog) (w:=w) (base:=base) B H jI bF;have oG:=Ci (P:=L.prog) (w:=w) (base:=base) B d18 cB;have fD:=zB (P:=L.prog) (w:=w) (base:=base) B Z;have fW:=pi (P:=L.prog) (w:=w) (base:=base) B N fD;have jA:=ur (P:=L.prog) (w:=w) (base:=base) B E fD;have kN:=Cq (P:=L.prog) (w:=w) (base:=base) B Q u fW jA gv T;have kF:=xb (P:=L.prog) (w:=w) (base:=base) B d23 kN gC;have rC:=Mj (P:=L.prog) (w:=w) (base:=base) B A bT cY oG kF;have g9:=wG (P:=L.prog) (w:=w) (base:=base) B D;have k7:=GN (P:=L.prog) (w:=w) (base:=base) B Y;have dX:=xX (P:=L.prog) (w:=w) (base:=base) B ST g9 k7;have pX:=HP (P:=L.prog) (w:=w) (base:=base) B d28 dX;have vq:=Kv (P:=L.prog) (w:=w) (base:=base) B V dX lZ;have me:=yj (P:=L.prog) (w:=w) (base:=base) B O;have oQ:=Ck (P:=L.prog) (w:=w) (base:=base) B J me;have t:=zh (P:=L.prog) (w:=w) (base:=base) B y;have bQ:=xo (P:=L.prog) (w:=w) (base:=base) B d33 t;have fC:=oP (P:=L.prog) (w:=w) (base:=base) B x t bQ;have kB:=xw (P:=L.prog) (w:=w) (base:=base) B U t bQ;have j8:=xK (P:=L.prog) (w:=w) (base:=base) B d36 bT pR rC pX vq nw;exact JL (Kh (P:=L.prog) (w:=w) (base:=base) B F oQ fC kB t j8 bQ) JH
end L2
namespace PySem.W.Fast
theorem tw3526886100160949278:True:=⟨⟩
theorem tw16857345418015168279:True:=⟨⟩
theorem tw14860797314611596324:True:=⟨⟩
theorem tw3028684863785350286:True:=⟨⟩
theorem tw7382206182281239177:True:=⟨⟩
theorem tw8274867162672475665:True:=⟨⟩
theorem tw13303786478770765026:True:=⟨⟩
theorem tw166132437625002588:True:=⟨⟩
theorem tw1422264454073193686:True:=⟨⟩
theorem tw4541827628918636659:True:=⟨⟩
theorem tw5355185600804532853:True:=⟨⟩
theorem tw11366529761992637166:True:=⟨⟩
theorem tw2828453560911859218:True:=⟨⟩
theorem tw17481741527342366587:True:=⟨⟩
theorem tw13003035845298187266:True:=⟨⟩
theorem tw932157912385342145:True:=⟨⟩
theorem tw2734279097301952169:True:=⟨⟩
theorem tw15231415353905846859:True:=⟨⟩
theorem tw3470717003459663932:True:=⟨⟩
theorem tw8676104957741207985:True:=⟨⟩
theorem tw6892926726037758709:True:=⟨⟩
theorem tw6840590356101522238:True:=⟨⟩
theorem tw11191624235821060241:True:=⟨⟩
theorem tw7692356647045955170:True:=⟨⟩
theorem tw15524423097738679910:True:=⟨⟩
theorem tw5340897693267369150:True:=⟨⟩
theorem tw1915821608315185942:True:=⟨⟩
theorem tw5753373807678665009:True:=⟨⟩
theorem tw13849509758502934055:True:=⟨⟩
theorem tw2885100828604983049:True:=⟨⟩
theorem tw8130724198940514744:True:=⟨⟩
theorem tw14564185352315489392:True:=⟨⟩
theorem tw16528332035576246706:True:=⟨⟩
theorem tw18438604569007670813:True:=⟨⟩
theorem tw12650094763314740567:True:=⟨⟩
theorem tw11026360573781819216:True:=⟨⟩
theorem tw18093391942500549877:True:=⟨⟩
theorem tw3119058501221452390:True:=⟨⟩
theorem tw4049614077085577911:True:=⟨⟩
theorem tw9275755330395194458:True:=⟨⟩
theorem tw2370856331432256899:True:=⟨⟩
theorem tw14289897244053236267:True:=⟨⟩
theorem tw11677142769631548322:True:=⟨⟩
theorem tw12900017913239579861:True:=⟨⟩
theorem tw6385890169210742978:True:=⟨⟩
theorem tw11067440578222232670:True:=⟨⟩
theorem tw7353087324603299732:True:=⟨⟩
theorem tw7764699862946045661:True:=⟨⟩
theorem tw3553655199743319114:True:=⟨⟩
theorem tw8302761713258602038:True:=⟨⟩
theorem tw8853040701092119361:True:=⟨⟩
theorem tw4548477865142533982:True:=⟨⟩
theorem tw14056587085791769019:True:=⟨⟩
theorem tw16435929998616240011:True:=⟨⟩
theorem tw1742534717841330315:True:=⟨⟩
theorem tw5061045133107854448:True:=⟨⟩
theorem tw4235555666455076633:True:=⟨⟩
theorem tw7708532202949844260:True:=⟨⟩
theorem tw10313899349697278130:True:=⟨⟩
theorem tw7858592620397099322:True:=⟨⟩
theorem tw7168037142577618897:True:=⟨⟩
theorem tw17883204139182160876:True:=⟨⟩
theorem tw13769423665308519776:True:=⟨⟩
theorem tw16366541239996468845:True:=⟨⟩
theorem tw15769229821236533024:True:=⟨⟩
theorem tw2834700778636708884:True:=⟨⟩
theorem tw8031349752136685174:True:=⟨⟩
theorem tw16452672841444779292:True:=⟨⟩
theorem tw12713360960763884464:True:=⟨⟩
theorem tw10735289341838467251:True:=⟨⟩
theorem tw3535188658377088201:True:=⟨⟩
theorem tw7316737204531078946:True:=⟨⟩
theorem tw8286005526458660843:True:=⟨⟩
theorem tw12661179324480852357:True:=⟨⟩
theorem tw18193332721186026944:True:=⟨⟩
theorem tw8290269502867853079:True:=⟨⟩
theorem tw5948370654839742393:True:=⟨⟩
theorem tw11148535156714018286:True:=⟨⟩
theorem tw3294179468964473840:True:=⟨⟩
theorem tw4151421689818786773:True:=⟨⟩
theorem tw14692392253030985896:True:=⟨⟩
theorem tw7909986995043319882:True:=⟨⟩
theorem tw17404243490092719047:True:=⟨⟩
theorem tw211473343665119098:True:=⟨⟩
theorem tw17262618348569671321:True:=⟨⟩
theorem tw12309998820190551411:True:=⟨⟩
theorem tw13062539996020908679:True:=⟨⟩
theorem tw13657174232118360989:True:=⟨⟩
theorem tw6594237199820393951:True:=⟨⟩
theorem tw2678270516156969875:True:=⟨⟩
theorem tw12431728313813113252:True:=⟨⟩
theorem tw10895793870575768738:True:=⟨⟩
theorem tw6597592422135391507:True:=⟨⟩
theorem tw5720877836011691958:True:=⟨⟩
theorem tw2787991344585201271:True:=⟨⟩
theorem tw7901252836623464382:True:=⟨⟩
theorem tw7241047638879735537:True:=⟨⟩
theorem tw2218555613845466735:True:=⟨⟩
theorem tw7430238831101454295:True:=⟨⟩
theorem tw14079491409145003877:True:=⟨⟩
theorem tw8311325620180073288:True:=⟨⟩
theorem tw11855962738465357581:True:=⟨⟩
theorem tw17486276610772053188:True:=⟨⟩
theorem tw17624126671197382063:True:=⟨⟩
theorem tw3074691782467763850:True:=⟨⟩
theorem tw15633341253514360069:True:=⟨⟩
theorem tw11566766966192965008:True:=⟨⟩
theorem tw12475986556509494881:True:=⟨⟩
theorem tw12406415692166611584:True:=⟨⟩
theorem tw15682411909039581111:True:=⟨⟩
theorem tw1272623493166894029:True:=⟨⟩
theorem tw4432136667373651061:True:=⟨⟩
theorem tw4607862648136042537:True:=⟨⟩
theorem tw16349175453689896188:True:=⟨⟩
theorem tw3998408305475193500:True:=⟨⟩
theorem tw10222227340220604486:True:=⟨⟩
theorem tw4836887626176869510:True:=⟨⟩
theorem tw17978837243412882369:True:=⟨⟩
theorem tw7967056976018734182:True:=⟨⟩
theorem tw9174842215720843626:True:=⟨⟩
theorem tw17449351007589183338:True:=⟨⟩
theorem tw13006901482921502277:True:=⟨⟩
theorem tw12515248119304268418:True:=⟨⟩
theorem tw12328073719908707405:True:=⟨⟩
theorem tw7443263859229814109:True:=⟨⟩
theorem tw7023884903884258566:True:=⟨⟩
theorem tw15173249908254971881:True:=⟨⟩
theorem tw8741667728838814541:True:=⟨⟩
theorem tw8690441361168158179:True:=⟨⟩
theorem tw15351952466957786988:True:=⟨⟩
theorem tw17857824388542161016:True:=⟨⟩
theorem tw9229068091162555156:True:=⟨⟩
theorem tw16404392644490967156:True:=⟨⟩
theorem tw13710219063227211701:True:=⟨⟩
theorem tw16451293759874050096:True:=⟨⟩
theorem tw4833068257869773931:True:=⟨⟩
theorem tw5738465296077897355:True:=⟨⟩
theorem tw5040385059851766840:True:=⟨⟩
theorem tw15614115803197679171:True:=⟨⟩
theorem tw10562636591457734755:True:=⟨⟩
theorem tw15210895214256870932:True:=⟨⟩
theorem tw7340727820689756685:True:=⟨⟩
theorem tw16868386575913204248:True:=⟨⟩
theorem tw11181219749232010323:True:=⟨⟩
theorem tw3181687707454016491:True:=⟨⟩
theorem tw14431224722536421030:True:=⟨⟩
theorem tw8940241292159749293:True:=⟨⟩
theorem tw15913806825751061738:True:=⟨⟩
theorem tw152322499548297570:True:=⟨⟩
theorem tw12551521264968858473:True:=⟨⟩
theorem tw7817194608986315817:True:=⟨⟩
theorem tw18110330796139781356:True:=⟨⟩
theorem tw11148754108598529387:True:=⟨⟩
theorem tw4138196609086712066:True:=⟨⟩
theorem tw10564055538681273614:True:=⟨⟩
theorem tw653542050059764688:True:=⟨⟩
theorem tw16869163720718301003:True:=⟨⟩
theorem tw10633958010680998333:True:=⟨⟩
theorem tw6841921059741184926:True:=⟨⟩
theorem tw17496522628488536984:True:=⟨⟩
theorem tw15219923818739540273:True:=⟨⟩
theorem tw12762310822923366426:True:=⟨⟩
theorem tw12328501095829270073:True:=⟨⟩
theorem tw8972724068343006301:True:=⟨⟩
theorem tw3297490283863786442:True:=⟨⟩
theorem tw345659746328756683:True:=⟨⟩
theorem tw17586395498702666270:True:=⟨⟩
theorem tw7177607769504551194:True:=⟨⟩
theorem tw17894362602432354918:True:=⟨⟩
theorem tw10799375334404210202:True:=⟨⟩
theorem tw9271021699080314582:True:=⟨⟩
theorem tw13290561571087498060:True:=⟨⟩
theorem tw1576123007279520472:True:=⟨⟩
end PySem.W.Fast
open PySem PySem.W PyProof.Rows
set_option maxRecDepth 100000 in
set_option maxHeartbeats 0 in
theorem PySem.Challenge.cw_rookborders_k50_whole_led_with_borders_holds : PySem.Challenge.rw_rookborders_k50_whole_led_with_borders.Holds := by
 w_on;o_law;k_head;(case hw=>w_witness2)
 k_fill
 refine L2.walkD (l:=UE) (k:=9) (x:="_law_script") rfl rfl ⟨rfl,by decide,by decide⟩ (λw h Y=>W.kIn_of Y) ?F
 case F=>
  intro w mg fa h KX G hmg;refine' L2.all_mk KX G hmg ?_ ?_ ?_ ?_ ?_ ?_ ?_ ?_ ?_ ?_ ?_ ?_ ?_ ?_ ?_ ?_ ?_ ?_ ?_ ?_ ?_ ?_ ?_ ?_ ?_ ?_ ?_ ?_ ?_ ?_ ?_ ?_ ?_ ?_ ?_ ?_ ?_ ?_ ?_ ?_ ?_ ?_ ?_ ?_ ?_ ?_ ?_ ?_ ?_ ?_ ?_ ?_ ?_
  all_goals first
   |(refine' L2.df_of KX G ?_ ?_ ?_ ?_ λ_ _ _ _ _ _ us hl=>L2.ar1 us hl λ_=>rfl)<;>try k_is
   |(refine' L2.df_of KX G ?_ ?_ ?_ ?_ λ_ _ _ _ _ _ us hl=>L2.ar2 us hl λ_ _=>rfl)<;>try k_is
   |(refine' L2.df_of KX G ?_ ?_ ?_ ?_ λ_ _ _ _ _ _ us hl=>L2.ar3 us hl λ_ _ _=>rfl)<;>try k_is
   |(refine' L2.df_of KX G ?_ ?_ ?_ ?_ λ_ _ _ _ _ _ us hl=>L2.ar4 us hl λ_ _ _ _=>rfl)<;>try k_is
   |(refine' L2.df_of KX G ?_ ?_ ?_ ?_ λ_ _ _ _ _ _ us hl=>L2.ar5 us hl λ_ _ _ _ _=>rfl)<;>try k_is
   |(refine' L2.df_of KX G ?_ ?_ ?_ ?_ λ_ _ _ _ _ _ us hl=>L2.ar6 us hl λ_ _ _ _ _ _=>rfl)<;>try k_is
   |try k_is
